import PyProof.Rows.All
import Wide.All
import OpenK.AllK
import Wide.FinOn
import Lean
import PyProof.EqAt
import PyProof.EqKinds
import PyProof.TupleCall
import KE.KRevIter
import PyProof.EnumMake
import PyProof.EnumFor
import PyProof.ListRange
import PyProof.Rows.Range3
import PyProof.ZipIter
import PyProof.SumWalk
import PyProof.WalksMore
import PyProof.Rows.SetFrom
import PyProof.SetRoads
import PyProof.Rows.SortRunsK
import PyProof.Rows.SortWalk
import KE.KSortTup
import PyProof.Rows.Own
import PyProof.StationsW
import OpenK.KRaise
import KE.KIsAll
import PyProof.ExcArgsOwn
import PyProof.RulesAs
import PyProof.Ns1
import PyProof.Rows.Catch
import OpenK.KOwn
import PyProof.ExcBaseAll.ValueError
import KE.KDictSum
import PyProof.AttrMiss
import PyProof.IsiH_list
import KE.KDictOf
import PyProof.DictList
import KE.KDictList
import PyProof.FactsAll.set
import PyProof.Rows.TupAdd
import KE.KDictMeth
import PyProof.DictWalks
import PyProof.TupleKey
import PyProof.DictStraight
import PyProof.IsRules
import KE.KRevSl
import PySem.Challenge.RW_sinceply_k36_links_told
noncomputable section
set_option Elab.async false
set_option linter.all false

set_option maxRecDepth 100000
namespace L2
open PySem PySem.Spec PyProof.Rows
noncomputable abbrev Key:=Sum Int Str
noncomputable def oO:Key->Value->Bool
 |.inl k,v=>Value.isInt k v
 |.inr x,v=>Value.isStrOf x v
noncomputable def Ow(w:World):Key->Int
 |.inl k=>hashInt k
 |.inr x=>hashStr w x
theorem bu:∀{k:Key} {v:Value},oO k v=true->(∃i t,k=Sum.inl i/\v=Value.int i t)\/(∃x t,k=Sum.inr x/\v=Value.str x t)
 |.inl i,v,h=>by obtain⟨t,e⟩:=Value.isInt_shape (k:=i) (v:=v) h;exact .inl ⟨i,t,rfl,e⟩
 |.inr x,v,h=>by obtain⟨t,e⟩:=Value.isStrOf_shape (x:=x) (v:=v) h;exact .inr ⟨x,t,rfl,e⟩
theorem yG(i:Int)(t:Tok):oO (.inl i) (.int i t)=true:=by simp[oO,Value.isInt]
theorem yH(x:Str)(t:Tok):oO (.inr x) (.str x t)=true:=by simp[oO,Value.isStrOf]
theorem Io(a b:Int):decide ((Sum.inl a:Key)=Sum.inl b)=(a == b):=by
 by_cases e:a=b
 ·subst e;simp
 ·have h:¬(Sum.inl a:Key)=Sum.inl b:=fun q=>e (Sum.inl.inj q)
  rw[decide_eq_false h];exact(beq_eq_false_iff_ne.mpr e).symm
theorem Ip(a b:Str):decide ((Sum.inr a:Key)=Sum.inr b)=decide (a=b):=by
 by_cases e:a=b
 ·subst e;simp
 ·have h:¬(Sum.inr a:Key)=Sum.inr b:=fun q=>e (Sum.inr.inj q)
  rw[decide_eq_false h,decide_eq_false e]
theorem Iq(a:Int)(b:Str):decide ((Sum.inl a:Key)=Sum.inr b)=false:=decide_eq_false (fun q=>nomatch q)
theorem Ir(a:Str)(b:Int):decide ((Sum.inr a:Key)=Sum.inl b)=false:=decide_eq_false (fun q=>nomatch q)
noncomputable def aS(prog:Program)(w:World):PySem.KeyKind prog w Key where
 is:=oO
 hash:=Ow w
 inj:=fun v a b ha hb=>by
  rcases bu ha with⟨i,t,rfl,rfl⟩ | ⟨x,t,rfl,rfl⟩
  ·rcases bu hb with⟨j,u,rfl,e⟩ | ⟨y,u,rfl,e⟩
   ·injection e with e1 _;rw[e1]
   ·exact nomatch e
  ·rcases bu hb with⟨j,u,rfl,e⟩ | ⟨y,u,rfl,e⟩
   ·exact nomatch e
   ·injection e with e1 _;rw[e1]
 byValue:=fun k v h=>by rcases bu h with⟨i,t,rfl,rfl⟩ | ⟨x,t,rfl,rfl⟩<;>rfl
 pyHash:=fun hv h=>by
  rcases bu hv with⟨i,t,rfl,rfl⟩ | ⟨x,t,rfl,rfl⟩
  ·exact wpAny_pyHash_int h
  ·exact wpAny_pyHash_str h
 eqBool:=fun hu hv h=>by
  rcases bu hu with⟨i,t,rfl,rfl⟩ | ⟨x,t,rfl,rfl⟩
  ·rcases bu hv with⟨j,u,rfl,rfl⟩ | ⟨y,u,rfl,rfl⟩
   ·rw[Io]at h;exact wpAny_eqBool_int h
   ·rw[Iq]at h;exact SeqAt.EqAt.int_str i t y u _ _ _ _ h
  ·rcases bu hv with⟨j,u,rfl,rfl⟩ | ⟨y,u,rfl,rfl⟩
   ·rw[Ir]at h;exact SeqAt.EqAt.str_int x t j u _ _ _ _ h
   ·rw[Ip]at h;exact wpAny_eqBool_str h
 «strs»:=fun k x t v h=>by
  rcases bu h with⟨i,u,rfl,e⟩ | ⟨y,u,rfl,e⟩
  ·exact nomatch e
  ·injection e with e1 _
   subst e1;cases v<;>rfl
theorem rq(prog:Program)(w:World)(i:Int)(t:Tok):(aS prog w).is (.inl i) (.int i t)=true:=yG i t
theorem rz(prog:Program)(w:World)(x:Str)(t:Tok):(aS prog w).is (.inr x) (.str x t)=true:=yH x t
inductive V where
 |non | bl (b:Bool) | int (i:Int) | str (x:Str) | byt (b:Array UInt8) | flt (b:UInt64) | ref (a:Addr) | ty (n:String)
 deriving DecidableEq
noncomputable def RelV:V->Value->Prop
 |.non,u=>u=Value.none
 |.bl b,u=>u=Value.bool b
 |.int i,u=>∃t,u=Value.int i t
 |.str x,u=>∃t,u=Value.str x t
 |.byt b,u=>∃t,u=Value.bytes b t
 |.flt b,u=>∃t,u=Value.float b t
 |.ref a,u=>u=Value.ref a
 |.ty n,u=>u=Value.type n
noncomputable abbrev Vals:List V->List Value->Prop:=Paired RelV
theorem Vals.length{xs:List V}{us:List Value}(r:Vals xs us):xs.length=us.length:=Paired.length r
theorem Vals.get:∀{xs:List V} {us:List Value} {i:Nat} {x:V},Vals xs us->xs[i]?=some x->∃u,us[i]?=some u/\RelV x u
 |_,_,_,_,.nil,e=>by simp at e
 |_,_,0,_,.cons r _,e=>by simp at e;subst e;exact⟨_,rfl,r⟩
 |_,_,i+1,x,.cons _ t,e=>by obtain⟨u,h1,h2⟩:=Vals.get (i:=i) (x:=x) t (by simpa using e);exact⟨u,by simpa using h1,h2⟩
theorem Vals.set{x:V}{u:Value}(r:RelV x u):∀{xs:List V} {us:List Value} (i:Nat),Vals xs us->Vals (xs.set i x) (us.set i u)
 |_,_,_,.nil=>.nil
 |_,_,0,.cons _ t=>.cons r t
 |_,_,i+1,.cons q t=>.cons q (Vals.set r i t)
theorem Vals.append:∀{xs ys:List V} {us ws:List Value},Vals xs us->Vals ys ws->Vals (xs++ys) (us++ws)
 |_,_,_,_,.nil,s=>s
 |_,_,_,_,.cons r t,s=>.cons r (Vals.append t s)
theorem Vals.take:∀{xs:List V} {us:List Value} (n:Nat),Vals xs us->Vals (xs.take n) (us.take n)
 |_,_,0,_=>.nil
 |_,_,_+1,.nil=>.nil
 |_,_,n+1,.cons r t=>.cons r (Vals.take n t)
theorem Vals.drop:∀{xs:List V} {us:List Value} (n:Nat),Vals xs us->Vals (xs.drop n) (us.drop n)
 |_,_,0,r=>r
 |_,_,_+1,.nil=>.nil
 |_,_,n+1,.cons _ t=>Vals.drop n t
noncomputable def iO:Option V->Option Value->Prop
 |some v,some u=>RelV v u
 |none,none=>True
 |_,_=>False
noncomputable def KV{κ:Type}:List (κ×V)->List (κ×Value)->Prop:=Paired fun(p:κ×V) (q:κ×Value)=>p.1=q.1/\RelV p.2 q.2
noncomputable def kV:Key->V
 |.inl i=>.int i
 |.inr x=>.str x
inductive HO where
 |lst (xs:List V)
 |tup (xs:List V)
 |dK (kvs:List (Key×V)) | dT (kvs:List (List Key×V))
 |set (S:Int->Bool) (n:Nat)
 |ins (C dx:Addr) (fs:List (Str×V))
 |own (x:Addr)
 |xd (fs:List (Str×V))
 |met (f x:Addr)
 |rng (lo hi:Int)
 |frz (o:Obj) (u:HO)
 |tbl (ps:Array Value)
 |ext (φ:Heap->Prop)
noncomputable abbrev Hp:=Addr->Option HO
noncomputable def upd(H:Hp)(a:Addr)(o:HO):Hp:=fun b=>if b=a then some o else H b
theorem av{H:Hp}{a:Addr}{o:HO}:upd H a o a=some o:=by unfold upd;rw[if_pos rfl]
theorem aA{H:Hp}{a b:Addr}{o:HO}(h:b≠a):upd H a o b=H b:=by unfold upd;rw[if_neg h]
theorem LF{H:Hp}{a b:Addr}{o u:HO}(h:H a=some o)(h':H b=some u)(d:o≠u):a≠b:=by intro e;subst e;rw[h]at h';exact d (Option.some.inj h')
theorem aJ{H:Hp}{a b:Addr}{o:HO}(h:H a=some o)(h':H b=none):a≠b:=by intro e;subst e;rw[h]at h';cases h'
section
variable(P:Program)(w:World)
noncomputable def a_(H:Hp)(h:Heap)(a:Addr):HO->Prop
 |.lst xs=>xs.length<=sizeLine/\∃(its:List Value) (n:Nat),Vals xs its/\h.get? a=some { cls:=.type "list",data:=.seq its.toArray n }
 |.tup xs=>xs.length<=sizeLine/\∃its:List Value,Vals xs its/\IsTup h a its.toArray
 |.dK kvs=>kvs.length<=sizeLine/\(a == sysModules)=false/\∃vs,KV kvs vs/\h.DictOf (aS P w) a vs
 |.dT kvs=>kvs.length<=sizeLine/\(a == sysModules)=false/\∃xs:List (List Key×Addr×Value),
   Paired (fun(p:List Key×V) (q:List Key×Addr×Value)=>p.1=q.1/\H q.2.1=some (.tup (p.1.map kV))/\RelV p.2 q.2.2) kvs xs /\
   ∃o es ep,h.get? a=some o/\o.ExactDict/\o.data=.dict es ep/\es.toList=xs.map (entryOfKey (tupleKind (aS P w)))/\(xs.map (·.1)).Nodup
 |.set S n=>h.SetOf (intKind P w) a S n
 |.ins C dx fs=>H dx=some (.own a)/\fs.length<=1000/\dx≠a/\h.get? a=some (PySem.W.instObj C dx) /\
   ∃mA,h.Ns1 dx mA/\(∀f,iO (fs.lookup f) (mA f))/\PySem.Within mA (fs.map (·.1))
 |.own _=>∃o,h.get? a=some o
 |.xd fs=>∃mA,h.Ns1 a mA/\∀f,iO (fs.lookup f) (mA f)
 |.rng lo hi=>∃t u v,h.get? a=some { cls:=.type "range",data:=.fields #[.int lo t,.int hi u,.int 1 v] }
 |.frz o u=>h.get? a=some o/\a_ H h a u
 |.tbl ps=>h.get? a=some { cls:=.none,data:=.fields ps }
 |.met f x=>h.get? a=some (PySem.W.methodObj (.ref f) (.ref x))
 |.ext φ=>φ h/\(∃o,h.get? a=some o)/\∀h1 h2:Heap,φ h1->(∀o,h1.get? a=some o->h2.get? a=some o)->φ h2
noncomputable def HOk(H:Hp)(h:Heap):Prop:=∀a o,H a=some o->a_ P w H h a o
end
section
variable{P:Program}{w:World}{H H':Hp}{h h':Heap}{a:Addr}{o:HO}
theorem a_.lt(x:a_ P w H h a o):a<h.objs.size:=by
 cases o with
 |lst xs=>obtain⟨_,_,_,_,e⟩:=x;exact Heap.lt_size e
 |tup xs=>obtain⟨_,_,_,p⟩:=x;exact p.lt
 |dK kvs=>obtain⟨_,_,_,_,o,_,_,e,_⟩:=x;exact Heap.lt_size e
 |dT kvs=>obtain⟨_,_,_,_,o,_,_,e,_⟩:=x;exact Heap.lt_size e
 |set S n=>obtain⟨o,_,_,_,e,_⟩:=x;exact Heap.lt_size e
 |ins C dx fs=>obtain⟨_,_,_,e,_⟩:=x;exact Heap.lt_size e
 |own y=>obtain⟨_,e⟩:=x;exact Heap.lt_size e
 |xd fs=>obtain⟨_,⟨_,_,_,e,_⟩,_⟩:=x;exact Heap.lt_size e
 |rng lo hi=>obtain⟨_,_,_,e⟩:=x;exact Heap.lt_size e
 |frz ob u=>obtain⟨e,_⟩:=x;exact Heap.lt_size e
 |tbl ps=>exact Heap.lt_size (show h.get? a=some _ from x)
 |met f y=>exact Heap.lt_size (show h.get? a=some _ from x)
 |ext φ=>obtain⟨_,⟨_,e⟩,_⟩:=x;exact Heap.lt_size e
theorem Paired.Iu{α β:Type}{F G:α->β->Prop}:∀{l₁:List α} {l₂:List β},Paired F l₁ l₂->(∀a b,F a b->G a b)->Paired G l₁ l₂
 |_,_,.nil,_=>.nil
 |_,_,.cons r t,f=>.cons (f _ _ r) (Paired.Iu t f)
theorem a_.stay(x:a_ P w H h a o)(k:∀b u,(b=a\/H b=some (.own a))->h.get? b=some u->h'.get? b=some u)
  (ho:∀b,H b=some (.own a)->H' b=some (.own a)) (ht:∀b xs,H b=some (.tup xs)->H' b=some (.tup xs)):a_ P w H' h' a o:=by
 induction o with
 |lst xs=>obtain⟨z,its,n,r,e⟩:=x;exact⟨z,its,n,r,k _ _ (.inl rfl) e⟩
 |tup xs=>obtain⟨z,its,r,ob,e,c⟩:=x;exact⟨z,its,r,ob,k _ _ (.inl rfl) e,c⟩
 |dK kvs=>obtain⟨z,y,vs,r,ob,es,ep,e,c⟩:=x;exact⟨z,y,vs,r,ob,es,ep,k _ _ (.inl rfl) e,c⟩
 |dT kvs=>obtain⟨z,y,xs,r,ob,es,ep,e,c⟩:=x;exact⟨z,y,xs,Paired.Iu r fun p q z=>⟨z.1,ht _ _ z.2.1,z.2.2⟩,ob,es,ep,k _ _ (.inl rfl) e,c⟩
 |set S n=>obtain⟨ob,es,ep,t,e,c⟩:=x;exact⟨ob,es,ep,t,k _ _ (.inl rfl) e,c⟩
 |ins C dx fs=>obtain⟨d,z,ne,e,mA,⟨od,es,ep,e2,c⟩,r⟩:=x;exact⟨ho _ d,z,ne,k _ _ (.inl rfl) e,mA,⟨od,es,ep,k _ _ (.inr d) e2,c⟩,r⟩
 |own y=>obtain⟨ob,e⟩:=x;exact⟨ob,k _ _ (.inl rfl) e⟩
 |xd fs=>obtain⟨mA,⟨od,es,ep,e,c⟩,r⟩:=x;exact⟨mA,⟨od,es,ep,k _ _ (.inl rfl) e,c⟩,r⟩
 |rng lo hi=>obtain⟨t,u,v,e⟩:=x;exact⟨t,u,v,k _ _ (.inl rfl) e⟩
 |frz ob u ih=>obtain⟨e,q⟩:=x;exact⟨k _ _ (.inl rfl) e,ih q⟩
 |tbl ps=>have e:h.get? a=some { cls:=.none,data:=.fields ps }:=x;show h'.get? a=some { cls:=.none,data:=.fields ps };exact k a _ (.inl rfl) e
 |met f y=>have e:h.get? a=some (PySem.W.methodObj (.ref f) (.ref y)):=x;show h'.get? a=some (PySem.W.methodObj (.ref f) (.ref y));exact k a _ (.inl rfl) e
 |ext φ=>obtain⟨p,⟨o,e⟩,st⟩:=x;exact⟨st _ _ p fun o q=>k _ _ (.inl rfl) q,⟨o,k _ _ (.inl rfl) e⟩,st⟩
theorem HOk.lt(x:HOk P w H h)(e:H a=some o):a<h.objs.size:=(x a o e).lt
theorem HOk.fresh(x:HOk P w H h)(e:h.objs.size<=a):H a=none:=by
 cases q:H a with
 |none=>rfl
 |some u=>exact absurd (Nat.lt_of_lt_of_le (x.lt q) e) (Nat.lt_irrefl _)
theorem HOk.kept(x:HOk P w H h)(k:∀b u,h.get? b=some u->h'.get? b=some u):HOk P w H h':=fun a o e=>(x a o e).stay (fun b u _ q=>k b u q) (fun _ q=>q) fun _ _ q=>q
theorem HOk.laid(x:HOk P w H h)(k:∀b u,h.get? b=some u->h'.get? b=some u)(hp:h.objs.size<=a)(new:a_ P w (upd H a o) h' a o):HOk P w (upd H a o) h':=fun b u e=>by
 have hn:=x.fresh hp;by_cases hb:b=a
 ·subst hb;rw[av]at e;cases e;exact new
 ·rw[aA hb]at e
  exact(x b u e).stay (fun c v _ q=>k c v q) (fun c q=>by rw[aA (aJ q hn)];exact q) fun c xs q=>by rw[aA (aJ q hn)];exact q
end
noncomputable def Rd(H:Hp)(a:Addr)(u:HO):Prop:=H a=some u\/∃o,H a=some (.frz o u)
theorem Rd.ok{P:Program}{w:World}{H:Hp}{h:Heap}{a:Addr}{u:HO}(r:Rd H a u)(x:HOk P w H h):a_ P w H h a u:=by
 rcases r with r | ⟨o,r⟩
 ·exact x a u r
 ·obtain⟨_,q⟩:=x a _ r
  exact q
noncomputable def Mut:Option HO->Prop
 |some (.lst _)=>True
 |some (.dK _)=>True
 |some (.dT _)=>True
 |some (.set _ _)=>True
 |some (.ins _ _ _)=>True
 |some (.ext _)=>True
 |_=>False
section
variable{P:Program}{w:World}{H:Hp}{h h':Heap}{x e:Addr}{o':HO}
theorem HOk.write(ok:HOk P w H h)(mu:Mut (H x))(he:e=x\/H e=some (.own x))(k:∀b u,b≠e->h.get? b=some u->h'.get? b=some u)(heo:∃u,h'.get? e=some u)
  (new:a_ P w (upd H x o') h' x o'):HOk P w (upd H x o') h':=fun b u q=>by
 have LG:∀c y,H c=some (.own y)->c≠x:=fun c y r z=>by subst z;rw[r]at mu;exact mu
 have Ox:∀c xs,H c=some (.tup xs)->c≠x:=fun c xs r z=>by subst z;rw[r]at mu;exact mu
 by_cases hb:b=x
 ·subst hb;rw[av]at q;cases q;exact new
 ·rw[aA hb]at q
  by_cases hbe:b=e
  ·have q':H b=some (.own x):=by
    rcases he with z | z
    ·exact absurd (hbe.trans z) hb
    ·rw[hbe];exact z
   rw[q]at q';cases q';obtain⟨v,hv⟩:=heo;exact⟨v,by rw[hbe];exact hv⟩
  ·refine(ok b u q).stay (fun c v hc r=>k c v ?_ r) (fun c r=>by rw[aA (LG c b r)];exact r) fun c xs r=>by rw[aA (Ox c xs r)];exact r
   rcases hc with rfl | hc
   ·exact hbe
   ·rintro rfl
    rcases he with z | z
    ·exact LG c b hc z
    ·rw[hc]at z;cases z;exact hb rfl
end
structure Un(fs ex:List Addr)(H H':Hp)(h h':Heap):Prop where
 keep:∀b o,h.get? b=some o->H b=none->b∉fs->b∉ex->h'.get? b=some o
 slot:∀b o,h.get? b=some o->H b=none->b∈fs->b∉ex->∃sl,h'.get? b=some { o with slots:=sl }
 free:∀b o,h.get? b=some o->H b=none->b∉ex->H' b=none
 there:∀b o,h.get? b=some o->b∉ex->∃o',h'.get? b=some o'
 tups:∀b xs,H b=some (.tup xs)->H' b=some (.tup xs)
 p8:∀b o u,H b=some (.frz o u)->H' b=some (.frz o u)
 rA:∀b ps,H b=some (.tbl ps)->∃more,H' b=some (.tbl (ps++more))
section
variable{fs fs' ex ex':List Addr}{H H1 H2:Hp}{h h1 h2 h':Heap}{a x e:Addr}{o:HO}
theorem Un.any(u:Un fs ex H H1 h h1){b:Addr}{ob:Obj}(q:h.get? b=some ob)(n:H b=none)(hx:b∉ex):∃sl,h1.get? b=some { ob with slots:=sl }:=by
 by_cases hb:b∈fs
 ·exact u.slot b ob q n hb hx
 ·exact⟨ob.slots,u.keep b ob q n hb hx⟩
theorem Un.kept(k:∀b u,h.get? b=some u->h'.get? b=some u):Un fs ex H H h h':=
 ⟨fun b ob q _ _ _=>k b ob q,fun b ob q _ _ _=>⟨ob.slots,k b ob q⟩,fun _ _ _ n _=>n,fun b ob q _=>⟨ob,k b ob q⟩,fun _ _ q=>q,fun _ _ _ q=>q,fun _ ps q=>⟨#[],by rw[q];simp⟩⟩
theorem Un.refl:Un fs ex H H h h:=Un.kept fun _ _ q=>q
theorem Un.laid(k:∀b u,h.get? b=some u->h'.get? b=some u)(hp:h.objs.size<=a)(hn:H a=none):Un fs ex H (upd H a o) h h' where
 keep:=fun b u q _ _ _=>k b u q
 slot:=fun b u q _ _ _=>⟨u.slots,k b u q⟩
 free:=fun b u q n _=>by rw[aA (Nat.ne_of_lt (Nat.lt_of_lt_of_le (Heap.lt_size q) hp))];exact n
 there:=fun b u q _=>⟨u,k b u q⟩
 tups:=fun b xs q=>by rw[aA (aJ q hn)];exact q
 p8:=fun b u xs q=>by rw[aA (aJ q hn)];exact q
 rA:=fun b ps q=>⟨#[],by rw[aA (aJ q hn),q];simp⟩
theorem Un.write(mu:Mut (H x))(he:e=x\/H e=some (.own x))(k:∀b u,b≠e->h.get? b=some u->h'.get? b=some u)(heo:∃u,h'.get? e=some u):Un fs ex H (upd H x o) h h':=by
 have hx:∀b,H b=none->b≠x:=fun b n z=>by subst z;rw[n]at mu;exact mu
 have hb:∀b,H b=none->b≠e:=fun b n z=>by
  subst z;rcases he with r | r
  ·exact hx b n r
  ·rw[n]at r;cases r
 have hm:∀b u,H b=some u->¬Mut (some u)->b≠x:=fun b u q nm z=>by subst z;rw[q]at mu;exact nm mu
 refine ⟨fun b u q n _ _=>k b u (hb b n) q,fun b u q n _ _=>⟨u.slots,k b u (hb b n) q⟩,fun b u q n _=>by rw [aA (hx b n)];exact n,fun b u q _=>?_,
  fun b xs q=>by rw[aA (hm b _ q fun z=>z)];exact q,fun b u xs q=>by rw[aA (hm b _ q fun z=>z)];exact q,fun b ps q=>⟨#[],by rw[aA (hm b _ q fun z=>z),q];simp⟩⟩
 by_cases hbe:b=e
 ·subst hbe;exact heo
 ·exact⟨u,k b u hbe q⟩
end
noncomputable def trk(h:Heap)(H:Hp):List Addr:=(List.range h.objs.size).filter fun a=>(H a).isSome
noncomputable def p9(h:Heap)(H:Hp):Heap:=PySem.W.hideAll h (trk h H)
theorem yI(h:Heap)(H:Hp):(p9 h H).objs.size=h.objs.size:=PySem.W.hideAll_size _ _
theorem z8{h:Heap}{H:Hp}{b:Addr}{o:Obj}(e:h.get? b=some o)(n:H b=none):(p9 h H).get? b=some o:=
 PySem.W.hideAll_get _ e fun hm=>by have q:(H b).isSome=true:=(List.mem_filter.mp hm).2;rw[n]at q;simp at q
theorem Eh{h:Heap}{H:Hp}{b:Addr}{o:Obj}(e:(p9 h H).get? b=some o):h.get? b=some o/\H b=none:=by
 have e':h.get? b=some o:=PySem.W.of_hideAll (trk h H) e;refine⟨e',?_⟩;cases q:H b with
 |none=>rfl
 |some x=>have hm:b∈trk h H:=List.mem_filter.mpr ⟨List.mem_range.mpr (Heap.lt_size e'),by simp[q]⟩;have z:(p9 h H).get? b=none:=PySem.W.hideAll_none (trk h H) hm;rw[z]at e;cases e
structure Mod(K:PySem.W.Frag)(mg:Str->Option Value)(base:Heap):Prop where
 kin:K.In base
 glob:base.Ns mainGlobals mg
 blt:∃mb,base.Ns builtinsNs mb/\∀x:Str,x ≠ "__name__" -> mb x=bootBuiltins x
 nolimit:base.NoLimit
structure Cx where
 prog:Program
 w:World
 K:PySem.W.Frag
 mg:Str->Option Value
 base:Heap
 A:Around
 N:List Str
 s₀:Shared
 H₀:Hp
 env:Env
 outer:List Env
 stack:List Env
 ex:List Addr
 fn:Str->Bool
 calm:Bool
 pn:List (Addr×Obj)
 xe:Value->Shared->Prop
noncomputable def frs(l:List Env):List Addr:=l.filterMap (·.frame)
noncomputable abbrev Cx.fs(X:Cx):List Addr:=frs X.outer
noncomputable def Vis(sc:Scope)(x:Str):Prop:=sc.names.lookup x=some .local\/sc.names.lookup x=some .cell\/sc.names.lookup x=some .free
noncomputable def Loc(sc:Scope)(x:Str):Prop:=sc.names.lookup x=some .local\/sc.names.lookup x=some .cell
noncomputable def Look(env:Env)(h:Heap)(m:Str->Option Value)(x:Str)(u:Value):Prop:=
 (env.kindOf x=some .local/\m x=some u)\/((env.kindOf x=some .cell\/env.kindOf x=some .free)/\∃c,env.cells.lookup x=some c/\h.IsCell c (some u))
structure Cx.Ok(X:Cx):Prop where
 mod:Mod X.K X.mg X.base
 kind:X.env.scope.kind=.function
 glob:X.env.globals=mainGlobals
 blt:X.env.builtins=builtinsNs
 above:X.s₀.heap.objs.size<=X.env.locals
 inj:∀x y c,X.env.cells.lookup x=some c->X.env.cells.lookup y=some c->x=y
 has:∀x,(X.env.kindOf x=some .cell\/X.env.kindOf x=some .free)->∃c,X.env.cells.lookup x=some c
 cab:∀x c,X.fn x=true->X.env.cells.lookup x=some c->X.s₀.heap.objs.size<=c
 hd:X.calm=true->X.A.handled=none
 frames:X.A.frames=some X.stack
 stk:X.stack=X.outer\/(X.stack=X.env::X.outer/\X.env.frame=some X.env.locals)
 exf:∀b∈X.ex,b≠X.env.locals/\∀x c,X.env.cells.lookup x=some c->c≠b
 bs:∀b o,X.base.get? b=some o->X.s₀.heap.get? b=some o/\X.H₀ b=none
 bsz:X.base.objs.size<=X.s₀.heap.objs.size
 z_:∀b o,X.base.get? b=some o->b∉X.ex
 Ei:∀b∈X.ex,b∉X.fs
 k_:X.s₀.heap.FunFrames X.base X.outer
 frf:∀b∈X.fs,X.H₀ b=none
structure Inv(X:Cx)(pins:List (Addr×Obj))(σ:List (Option V))(H:Hp)(s:Shared):Prop where
 ok:X.Ok
 os:s.os=X.s₀.os
 bare:AllBare s.gens
 base:Un X.fs X.ex X.H₀ H X.s₀.heap s.heap
 loc:∃m,s.heap.Ns X.env.locals m/\∀(i:Nat) (x:Str) (v:V),X.N[i]?=some x->σ[i]?=some (some v)->Vis X.env.scope x->∃u,RelV v u/\Look X.env s.heap m x u
 cell:∀x c,X.env.cells.lookup x=some c->∃v,s.heap.IsCell c v
 free:H X.env.locals=none
 gj:∀x c,X.env.cells.lookup x=some c->H c=none
 pin:∀p∈X.pn++pins,s.heap.get? p.1=some p.2/\H p.1=none/\p.1≠X.env.locals/\p.1∉X.fs/\∀v,p.2.data≠.cell v
 hok:HOk X.prog X.w H s.heap
 len:σ.length=X.N.length
section
variable{X:Cx}{pins:List (Addr×Obj)}{σ:List (Option V)}{H H':Hp}{s:Shared}{h':Heap}
theorem Cx.Ok.Oz(ok:X.Ok){b:Addr}{o:Obj}(e:X.base.get? b=some o):b∉X.fs:=fun hb=>by have:=(ok.k_.mem hb).1;rw[e]at this;cases this
theorem Inv.bs(I:Inv X pins σ H s):∀b o,X.base.get? b=some o->s.heap.get? b=some o/\H b=none:=fun b o e=>⟨I.base.keep b o (I.ok.bs b o e).1 (I.ok.bs b o e).2 (I.ok.Oz e) (I.ok.z_ b o e),I.base.free b o (I.ok.bs b o e).1 (I.ok.bs b o e).2 (I.ok.z_ b o e)⟩
theorem Inv.bk(I:Inv X pins σ H s):∀b o,X.base.get? b=some o->s.heap.get? b=some o:=fun b o e=>(I.bs b o e).1
theorem Inv.mod(I:Inv X pins σ H s):Mod X.K X.mg X.base:=I.ok.mod
theorem Inv.kIn(I:Inv X pins σ H s):X.K.In s.heap:=I.ok.mod.kin.keeps I.bk
theorem Inv.lt(I:Inv X pins σ H s):X.env.locals<s.heap.objs.size:=let ⟨_,hn,_⟩:=I.loc;hn.lt
theorem Inv.sz(I:Inv X pins σ H s):X.s₀.heap.objs.size<=s.heap.objs.size:=Nat.le_trans I.ok.above (Nat.le_of_lt I.lt)
theorem Inv.OA(I:Inv X pins σ H s){a:Addr}(h:s.heap.objs.size<=a):a∉X.fs:=fun hb=>by obtain⟨_,o,ho,_⟩:=I.ok.k_.mem hb;exact absurd (Nat.lt_of_lt_of_le (Heap.lt_size ho) (Nat.le_trans I.sz h)) (Nat.lt_irrefl _)
theorem Inv.cne(I:Inv X pins σ H s):∀x c,X.env.cells.lookup x=some c->c≠X.env.locals:=fun x c e z=>by obtain⟨v,o,ho,hd⟩:=I.cell x c e;obtain⟨m,⟨o',es,ep,ho',hd',_⟩,_⟩:=I.loc;rw[z,ho']at ho;cases ho;rw[hd']at hd;cases hd
theorem Inv.k_(I:Inv X pins σ H s):s.heap.FunFrames X.base X.outer:=by
 have all:∀(l:List Env),(∀b∈frs l,b∈X.fs)->X.s₀.heap.FunFrames X.base l->s.heap.FunFrames X.base l:=by
  intro l
  induction l with
  |nil=>intro _ _;trivial
  |cons env r ih=>
   intro hs hl;obtain⟨hk,⟨L,o,hf,hn,ho,hd⟩,hr⟩:=hl;have hL:L∈X.fs:=hs L (by unfold frs;rw[List.filterMap_cons,hf];exact List.mem_cons_self);obtain⟨sl,e⟩:=I.base.slot L o ho (I.ok.frf L hL) hL fun z=>I.ok.Ei L z hL
   exact⟨hk,⟨L,_,hf,hn,e,hd⟩,ih (fun b hb=>hs b (by unfold frs;rw[List.filterMap_cons,hf];exact List.mem_cons_of_mem _ hb)) hr⟩
 exact all X.outer (fun _ hb=>hb) I.ok.k_
theorem Inv.stack(I:Inv X pins σ H s):s.heap.FunFrames X.base X.stack:=by
 rcases I.ok.stk with e | ⟨e,hf⟩
 ·rw[e];exact I.k_
 ·rw[e]
  obtain⟨m,hn,_⟩:=I.loc;refine .cons (by rw[I.ok.kind];decide) hf hn ?_ I.k_;exact Heap.get?_none_of_le (Nat.le_trans I.ok.bsz I.ok.above)
theorem Inv.uQ(I:Inv X pins σ H s):∀b∈frs X.stack,b∈X.env.locals::X.fs:=fun b hb=>by
 rcases I.ok.stk with e | ⟨e,hf⟩
 ·rw[e]at hb;exact List.mem_cons_of_mem _ hb
 ·rw[e]at hb
  unfold frs at hb;rw[List.filterMap_cons,hf]at hb;exact hb
theorem Inv.wF(I:Inv X pins σ H s):∀b∈frs X.stack,H b=none:=fun b hb=>by
 rcases List.mem_cons.mp (I.uQ b hb) with e | hb
 ·rw[e];exact I.free
 ·obtain⟨_,o,ho,_⟩:=I.ok.k_.mem hb
  exact I.base.free b o ho (I.ok.frf b hb) fun z=>I.ok.Ei b z hb
theorem Inv.step{g':Array GenState}{t':Nat}{d':Drawn}{ch:List Addr}(I:Inv X pins σ H s)
  (hch:∀b∈ch,(b∈X.ex\/X.s₀.heap.objs.size<=b)/\b≠X.env.locals/\(∀x c,X.env.cells.lookup x=some c->c≠b)/\∀p∈X.pn++pins,p.1≠b)
  (keep:∀b o,b≠X.env.locals->b∉X.fs->b∉ch->s.heap.get? b=some o->H b=none->h'.get? b=some o)
  (slot:∀b o,b≠X.env.locals->b∈X.fs->b∉ch->s.heap.get? b=some o->H b=none->∃sl,h'.get? b=some { o with slots:=sl }) (free:∀b o,b∉ch->s.heap.get? b=some o->H b=none->H' b=none)
  (there:∀b o,b∉ch->s.heap.get? b=some o->∃o',h'.get? b=some o')
  (tups:∀b xs,H b=some (.tup xs)->H' b=some (.tup xs)) (p8:∀b o u,H b=some (.frz o u)->H' b=some (.frz o u)) (rA:∀b ps,H b=some (.tbl ps)->∃more,H' b=some (.tbl (ps++more)))
  (ns:∀m,s.heap.Ns X.env.locals m->h'.Ns X.env.locals m) (hok:HOk X.prog X.w H' h') (hg:AllBare g') :
  Inv X pins σ H' { s with heap:=h',gens:=g',drawn:=d',toks:=t' }:=by
 have neL:∀b o,X.s₀.heap.get? b=some o->b≠X.env.locals:=fun b o e=>Nat.ne_of_lt (Nat.lt_of_lt_of_le (Heap.lt_size e) I.ok.above)
 have neC:∀b o,X.s₀.heap.get? b=some o->b∉X.ex->b∉ch:=fun b o e hx hb=>by
  rcases (hch b hb).1 with z | z
  ·exact hx z
  ·exact absurd (Nat.lt_of_lt_of_le (Heap.lt_size e) z) (Nat.lt_irrefl _)
 have cellK:∀x c,X.env.cells.lookup x=some c->∀v,s.heap.IsCell c v->h'.IsCell c v:=fun x c e v ⟨o,ho,hd⟩=>by
  have nch:c∉ch:=fun z=>(hch c z).2.2.1 x c e rfl
  by_cases hc:c∈X.fs
  ·obtain⟨sl,q⟩:=slot c o (I.cne x c e) hc nch ho (I.gj x c e)
   exact⟨_,q,hd⟩
  ·exact⟨o,keep c o (I.cne x c e) hc nch ho (I.gj x c e),hd⟩
 refine⟨I.ok,I.os,hg,⟨fun b o e n hb hx=>?_,fun b o e n hb hx=>?_,fun b o e n hx=>?_,fun b o e hx=>?_,fun b xs e=>tups b xs (I.base.tups b xs e),fun b o xs e=>p8 b o xs (I.base.p8 b o xs e),fun b ps e=>?_⟩,?_,fun x c e=>?_,?_,fun x c e=>?_,fun p hp=>?_,hok,I.len⟩
 ·exact keep b o (neL b o e) hb (neC b o e hx) (I.base.keep b o e n hb hx) (I.base.free b o e n hx)
 ·obtain⟨sl,e1⟩:=I.base.slot b o e n hb hx
  obtain⟨sl',e2⟩:=slot b _ (neL b o e) hb (neC b o e hx) e1 (I.base.free b o e n hx);exact⟨sl',e2⟩
 ·obtain⟨o',e1⟩:=I.base.there b o e hx
  exact free b o' (neC b o e hx) e1 (I.base.free b o e n hx)
 ·obtain⟨o',e1⟩:=I.base.there b o e hx
  exact there b o' (neC b o e hx) e1
 ·obtain⟨m1,e1⟩:=I.base.rA b ps e
  obtain⟨m2,e2⟩:=rA b _ e1;exact⟨m1++m2,by rw[e2,Array.append_assoc]⟩
 ·obtain⟨m,hn,hl⟩:=I.loc
  refine⟨m,ns m hn,fun i x v e1 e2 e3=>?_⟩;obtain⟨u,r,l⟩:=hl i x v e1 e2 e3;refine⟨u,r,?_⟩;rcases l with l | ⟨k,c,e,z⟩
  ·exact .inl l
  ·exact .inr ⟨k,c,e,cellK x c e _ z⟩
 ·obtain⟨v,z⟩:=I.cell x c e
  exact⟨v,cellK x c e v z⟩
 ·obtain⟨m,⟨o,_,_,ho,_⟩,_⟩:=I.loc
  exact free _ o (fun z=>(hch _ z).2.1 rfl) ho I.free
 ·obtain⟨v,o,ho,hd⟩:=I.cell x c e
  exact free c o (fun z=>(hch c z).2.2.1 x c e rfl) ho (I.gj x c e)
 ·obtain⟨e,n,ne,nf,d⟩:=I.pin p hp
  have nch:p.1∉ch:=fun z=>(hch p.1 z).2.2.2 p hp rfl
  exact⟨keep p.1 p.2 ne nf nch e n,free p.1 p.2 nch e n,ne,nf,d⟩
theorem Inv.un{t':Nat}(I:Inv X pins σ H s)(u:Un X.fs [] H H' s.heap h')(hok:HOk X.prog X.w H' h'):Inv X pins σ H' { s with heap:=h',toks:=t' }:=by
 obtain⟨m,⟨o,es,ep,ho,r⟩,_⟩:=id I.loc;obtain⟨sl,hL⟩:=u.any ho I.free (by simp);exact I.step (g':=s.gens) (d':=s.drawn) (ch:=[]) (fun _ z=>nomatch z) (fun b o _ hb _ e n=>u.keep b o e n hb (by simp)) (fun b o _ hb _ e n=>u.slot b o e n hb (by simp)) (fun b o _ e n=>u.free b o e n (by simp)) (fun b o _ e=>u.there b o e (by simp)) u.tups u.p8 u.rA (fun m' hm=>by obtain⟨o',es',ep',ho',r'⟩:=hm;rw[ho]at ho';cases ho';exact⟨_,es',ep',hL,r'⟩) hok I.bare
theorem Inv.call{g':Array GenState}{t':Nat}{d':Drawn}{ch:List Addr}(I:Inv X pins σ H s)(u:Un (frs X.stack) ch H H' s.heap h')(hok:HOk X.prog X.w H' h')(hg:AllBare g')
  (hch:∀b∈ch,(b∈X.ex\/X.s₀.heap.objs.size<=b)/\b≠X.env.locals/\(∀x c,X.env.cells.lookup x=some c->c≠b)/\∀p∈X.pn++pins,p.1≠b) :
  Inv X pins σ H' { s with heap:=h',gens:=g',drawn:=d',toks:=t' }:=by
 obtain⟨m,⟨o,es,ep,ho,r⟩,_⟩:=id I.loc;obtain⟨sl,hL⟩:=u.any ho I.free fun z=>(hch _ z).2.1 rfl
 exact I.step (ch:=ch) hch (fun b o hL hb hc e n=>u.keep b o e n (fun z=>(List.mem_cons.mp (I.uQ b z)).elim hL hb) hc) (fun b o _ _ hc e n=>u.any e n hc) (fun b o hc e n=>u.free b o e n hc) (fun b o hc e=>u.there b o e hc) u.tups u.p8 u.rA (fun m' hm=>by obtain⟨o',es',ep',ho',r'⟩:=hm;rw[ho]at ho';cases ho';exact⟨_,es',ep',hL,r'⟩) hok hg
theorem Inv.turned{t':Nat}{it:Addr}(I:Inv X pins σ H s)(k:∀b o,b≠it->s.heap.get? b=some o->h'.get? b=some o)(hn:H it=none)(hL:it≠X.env.locals)
  (h1:it∈X.ex\/X.s₀.heap.objs.size<=it) (h2:∀x c,X.env.cells.lookup x=some c->c≠it) (h3:∀p∈X.pn++pins,p.1≠it):Inv X pins σ H { s with heap:=h',toks:=t' }:=by
 have nit:∀b u,H b=some u->b≠it:=fun b u e z=>by rw[z,hn]at e;cases e
 refine I.step (g':=s.gens) (d':=s.drawn) (ch:=[it]) (fun b hb=>?_) (fun b o _ _ hc e _=>k b o (fun z=>hc (by simp[z])) e) (fun b o _ _ hc e _=>⟨o.slots,k b o (fun z=>hc (by simp[z])) e⟩) (fun _ _ _ _ n=>n)
  (fun b o hc e=>⟨o,k b o (fun z=>hc (by simp[z])) e⟩) (fun _ _ e=>e) (fun _ _ _ e=>e) (fun b ps e=>⟨#[],by rw[e];simp⟩) (fun m hm=>?_) (fun b u e=>?_) I.bare
 ·have e:b=it:=by simpa using hb
  subst e;exact⟨h1,hL,h2,h3⟩
 ·obtain⟨o,es,ep,ho,r⟩:=hm
  exact⟨o,es,ep,k _ o (Ne.symm hL) ho,r⟩
 ·refine(I.hok b u e).stay (fun c v hc q=>k c v ?_ q) (fun _ q=>q) fun _ _ q=>q
  rcases hc with z | z
  ·rw[z];exact nit b u e
  ·exact nit c _ z
theorem Inv.tok(I:Inv X pins σ H s)(t:Nat):Inv X pins σ H { s with toks:=t }:=I.un (h':=s.heap) (t':=t) Un.refl I.hok
theorem Inv.kept{t':Nat}(I:Inv X pins σ H s)(k:∀b u,s.heap.get? b=some u->h'.get? b=some u):Inv X pins σ H { s with heap:=h',toks:=t' }:=I.un (Un.kept k) (I.hok.kept k)
theorem Inv.laid{a:Addr}{o:HO}{t':Nat}(I:Inv X pins σ H s)(k:∀b u,s.heap.get? b=some u->h'.get? b=some u)(hp:s.heap.objs.size<=a)(new:a_ X.prog X.w (upd H a o) h' a o) :
  Inv X pins σ (upd H a o) { s with heap:=h',toks:=t' }:=I.un (Un.laid k hp (I.hok.fresh hp)) (I.hok.laid k hp new)
theorem Inv.write{x e:Addr}{o:HO}{t':Nat}(I:Inv X pins σ H s)(mu:Mut (H x))(he:e=x\/H e=some (.own x))(k:∀b u,b≠e->s.heap.get? b=some u->h'.get? b=some u)(heo:∃u,h'.get? e=some u)
  (new:a_ X.prog X.w (upd H x o) h' x o):Inv X pins σ (upd H x o) { s with heap:=h',toks:=t' }:=I.un (Un.write mu he k heo) (I.hok.write mu he k heo new)
theorem Inv.wG{GH:List (Addr×Obj)}(I:Inv X pins σ H s)(h:∀p∈GH,s.heap.get? p.1=some p.2/\H p.1=none/\p.1≠X.env.locals/\p.1∉X.fs/\∀v,p.2.data≠.cell v):Inv X GH σ H s:=
 ⟨I.ok,I.os,I.bare,I.base,I.loc,I.cell,I.free,I.gj,fun p hp=>(List.mem_append.mp hp).elim (fun z=>I.pin p (List.mem_append_left _ z)) (h p),I.hok,I.len⟩
theorem rB{N:List Str}(hN:N.Nodup){i j:Nat}{x:Str}(a:N[i]?=some x)(b:N[j]?=some x):i=j:=by obtain⟨h1,e1⟩:=List.getElem?_eq_some_iff.mp a;obtain⟨h2,e2⟩:=List.getElem?_eq_some_iff.mp b;exact(List.getElem_inj hN).mp (e1.trans e2.symm)
theorem oQ{M:Model}{A:Around}{E:Value->Shared->Prop}{i:Nat}{x:Str}{v:V}{u:Value}{Q:Unit->Shared->Prop}(I:Inv X pins σ H s)(hN:X.N.Nodup)(hi:X.N[i]?=some x)(hx:Loc X.env.scope x)(r:RelV v u)
  (h:∀s',Inv X pins (σ.set i (some v)) H s'->(∃a,Heap.SameBut a s.heap s'.heap/\(a=X.env.locals\/X.env.cells.lookup x=some a))->Q () s') (hf:X.fn x=true\/X.env.scope.names.lookup x=some .local:=by first | exact .inl rfl | exact .inr rfl | assumption):wpAny M A (storeName X.env x u) Q E s:=by
 obtain⟨m,hn,hl⟩:=id I.loc;have hcls:(X.env.scope.kind == .class||(X.env.scope.kind == .module&&X.env.locals != X.env.globals))=false:=by rw[I.ok.kind];rfl
 have hiσ:i<σ.length:=by rw[I.len];exact(List.getElem?_eq_some_iff.mp hi).1
 have cne:=I.cne;have tracked:∀{a:Addr} {h':Heap},(∃o,s.heap.get? a=some o/\H a=none)->Heap.SameBut a s.heap h'->HOk X.prog X.w H h':=fun {a h'} ha hs b ob e=>by
  obtain⟨_,_,hfree⟩:=ha;refine(I.hok b ob e).stay (fun c w' hc q=>(hs.2 c ?_).trans q) (fun _ q=>q) fun _ _ q=>q
  rintro rfl;rcases hc with rfl | hc
  ·rw[hfree]at e;cases e
  ·rw[hfree]at hc;cases hc
 rcases hx with hk | hk
 ·refine wpAny_storeName_local hk hn (fun h' hn' hs=>?_) hcls
  obtain⟨oL,_,_,hoL,_⟩:=id hn;refine h _ ⟨I.ok,I.os,I.bare,⟨fun b o e n hb hx=>?_,fun b o e n hb hx=>?_,I.base.free,fun b o e hx=>?_,I.base.tups,I.base.p8,I.base.rA⟩,⟨_,hn',fun j y v' e1 e2 e3=>?_⟩,fun y c e=>?_,I.free,I.gj,fun p hp=>?_,tracked ⟨oL,hoL,I.free⟩ hs,by simpa using I.len⟩ ⟨_,hs,.inl rfl⟩
  ·exact(hs.2 b (Nat.ne_of_lt (Nat.lt_of_lt_of_le (Heap.lt_size e) I.ok.above))).trans (I.base.keep b o e n hb hx)
  ·obtain⟨sl,e1⟩:=I.base.slot b o e n hb hx
   exact⟨sl,(hs.2 b (Nat.ne_of_lt (Nat.lt_of_lt_of_le (Heap.lt_size e) I.ok.above))).trans e1⟩
  ·obtain⟨o',e1⟩:=I.base.there b o e hx
   exact⟨o',(hs.2 b (Nat.ne_of_lt (Nat.lt_of_lt_of_le (Heap.lt_size e) I.ok.above))).trans e1⟩
  ·by_cases hj:j=i
   ·subst hj
    rw[hi]at e1;cases e1;rw[List.getElem?_set_self hiσ]at e2;cases e2;exact⟨u,r,.inl ⟨hk,by simp⟩⟩
   ·rw[List.getElem?_set_ne (Ne.symm hj)]at e2
    obtain⟨u',r',q⟩:=hl j y v' e1 e2 e3;refine⟨u',r',?_⟩;rcases q with⟨k,e⟩ | ⟨k,c,e,z⟩
    ·refine .inl ⟨k,?_⟩
     have:y≠x:=fun e=>hj (rB hN e1 (e▸hi))
     simp[this,e]
    ·exact .inr ⟨k,c,e,z.sameBut hs (cne y c e)⟩
  ·obtain⟨w',z⟩:=I.cell y c e
   exact⟨w',z.sameBut hs (cne y c e)⟩
  ·obtain⟨e,n,ne,nf,d⟩:=I.pin p hp
   exact⟨(hs.2 p.1 ne).trans e,n,ne,nf,d⟩
 ·have hfn:X.fn x=true:=by
   rcases hf with z | z
   ·exact z
   ·rw[z]at hk;cases hk
  obtain⟨c,hc⟩:=I.ok.has x (.inl hk);obtain⟨w',z⟩:=I.cell x c hc;refine wpAny_storeName_cell I.ok.kind hk hc z (fun h' hc' hs=>?_);obtain⟨oc,hoc,OB⟩:=id z;refine h { s with heap:=h' } ⟨I.ok,I.os,I.bare,⟨fun b o e n hb hx=>?_,fun b o e n hb hx=>?_,I.base.free,fun b o e hx=>?_,I.base.tups,I.base.p8,I.base.rA⟩,⟨m,hn.sameBut hs (Ne.symm (cne x c hc)),fun j y v' e1 e2 e3=>?_⟩,fun y c' e=>?_,I.free,I.gj,fun p hp=>?_,tracked ⟨oc,hoc,I.gj x c hc⟩ hs,by simpa using I.len⟩ ⟨c,hs,.inr hc⟩
  ·exact(hs.2 b (Nat.ne_of_lt (Nat.lt_of_lt_of_le (Heap.lt_size e) (I.ok.cab x c hfn hc)))).trans (I.base.keep b o e n hb hx)
  ·obtain⟨sl,e1⟩:=I.base.slot b o e n hb hx
   exact⟨sl,(hs.2 b (Nat.ne_of_lt (Nat.lt_of_lt_of_le (Heap.lt_size e) (I.ok.cab x c hfn hc)))).trans e1⟩
  ·obtain⟨o',e1⟩:=I.base.there b o e hx
   exact⟨o',(hs.2 b (Nat.ne_of_lt (Nat.lt_of_lt_of_le (Heap.lt_size e) (I.ok.cab x c hfn hc)))).trans e1⟩
  ·by_cases hj:j=i
   ·subst hj
    rw[hi]at e1;cases e1;rw[List.getElem?_set_self hiσ]at e2;cases e2;exact⟨u,r,.inr ⟨.inl hk,c,hc,hc'⟩⟩
   ·rw[List.getElem?_set_ne (Ne.symm hj)]at e2
    obtain⟨u',r',q⟩:=hl j y v' e1 e2 e3;refine⟨u',r',?_⟩;rcases q with q | ⟨k,c',e,z'⟩
    ·exact .inl q
    ·refine .inr ⟨k,c',e,z'.sameBut hs ?_⟩
     rintro rfl;exact hj (rB hN e1 (I.ok.inj _ _ _ e hc▸hi))
  ·by_cases hcc:c'=c
   ·subst hcc;exact⟨_,hc'⟩
   ·obtain⟨w2,z2⟩:=I.cell y c' e
    exact⟨w2,z2.sameBut hs hcc⟩
  ·obtain⟨e,n,ne,nf,d⟩:=I.pin p hp
   refine⟨(hs.2 p.1 ?_).trans e,n,ne,nf,d⟩;intro q;rw[q,hoc]at e;have q':oc=p.2:=Option.some.inj e;exact d w' (by rw[<- q'];exact OB)
theorem rC{M:Model}{A:Around}{E:Value->Shared->Prop}{i:Nat}{x:Str}{v:V}{u:Value}{Q:Unit->Shared->Prop}(I:Inv X pins σ H s)(hN:X.N.Nodup)(hi:X.N[i]?=some x)(hx:Loc X.env.scope x)(r:RelV v u)
  (h:∀s',Inv X pins (σ.set i (some v)) H s'->Q () s') (hf:X.fn x=true\/X.env.scope.names.lookup x=some .local:=by first | exact .inl rfl | exact .inr rfl | assumption):wpAny M A (storeName X.env x u) Q E s:=
 oQ I hN hi hx r (fun s' I' _=>h s' I') hf
theorem Inv.LH{s':Shared}{ch:List Addr}(I:Inv X pins σ H s)(ho:s'.os=s.os)(u:Un (frs X.stack) ch H H' s.heap s'.heap)(hok:HOk X.prog X.w H' s'.heap)(hg:AllBare s'.gens)
  (hch:∀b∈ch,(b∈X.ex\/X.s₀.heap.objs.size<=b)/\b≠X.env.locals/\(∀x c,X.env.cells.lookup x=some c->c≠b)/\∀p∈X.pn++pins,p.1≠b):Inv X pins σ H' s':=by
 obtain⟨h',g',d',t',o'⟩:=s';have e:o'=s.os:=ho;subst e;exact I.call (g':=g') (t':=t') (d':=d') u hok hg hch
end
noncomputable abbrev XK:=Value->Option Addr->Hp->Prop
noncomputable abbrev St:=List (Option V)
noncomputable abbrev VK:=V->Hp->Prop
noncomputable abbrev TE:=St->Hp->VK->Prop
noncomputable abbrev TT:=St->Hp->(Bool->Hp->Prop)->Prop
noncomputable abbrev TA:=St->Hp->(List V->Hp->Prop)->Prop
structure Ends where
 nx:St->Hp->Prop
 rt:VK
 bk:St->Hp->Prop:=fun _ _=>False
 ct:St->Hp->Prop:=fun _ _=>False
noncomputable abbrev TS:=Ends->St->Hp->Prop
noncomputable def EP(X:Cx)(pins:List (Addr×Obj))(σ:St)(Q:VK)(u:Value)(s':Shared):Prop:=∃v H',Inv X pins σ H' s'/\RelV v u/\Q v H'
noncomputable def TP(X:Cx)(pins:List (Addr×Obj))(σ:St)(Q:Bool->Hp->Prop)(b:Bool)(s':Shared):Prop:=∃H',Inv X pins σ H' s'/\Q b H'
noncomputable def AP(X:Cx)(pins:List (Addr×Obj))(σ:St)(Q:List V->Hp->Prop)(us:List Value)(s':Shared):Prop:=∃vs H',Inv X pins σ H' s'/\Vals vs us/\Q vs H'
noncomputable def SP(X:Cx)(pins:List (Addr×Obj))(D:Ends)(f:Flow)(s':Shared):Prop:=
 match f with
 |.next=>∃σ' H',Inv X pins σ' H' s'/\D.nx σ' H'
 |.brk=>∃σ' H',Inv X pins σ' H' s'/\D.bk σ' H'
 |.cont=>∃σ' H',Inv X pins σ' H' s'/\D.ct σ' H'
 |.ret u=>∃v σ' H',Inv X pins σ' H' s'/\RelV v u/\D.rt v H'
noncomputable def PE(X:Cx)(e:Expr)(t:TE):Prop:=
 ∀(pins:List (Addr×Obj)) (s:Shared) (σ:St) (H:Hp) (Q:VK),Inv X pins σ H s->t σ H Q->wpAny (model X.prog X.w) X.A (eval e X.env) (EP X pins σ Q) X.xe s
noncomputable def PT(X:Cx)(e:Expr)(t:TT):Prop:=
 ∀(pins:List (Addr×Obj)) (s:Shared) (σ:St) (H:Hp) (Q:Bool->Hp->Prop),Inv X pins σ H s->t σ H Q->wpAny (model X.prog X.w) X.A (isTrue e X.env (eval e X.env)) (TP X pins σ Q) X.xe s
noncomputable def PW(X:Cx)(e:Expr)(t:TT):Prop:=
 ∀(whole:Sem Value) (pins:List (Addr×Obj)) (s:Shared) (σ:St) (H:Hp) (Q:Bool->Hp->Prop),Inv X pins σ H s->t σ H Q->wpAny (model X.prog X.w) X.A (isTrue e X.env whole) (TP X pins σ Q) X.xe s
theorem PW.pt{X:Cx}{e:Expr}{t:TT}(h:PW X e t):PT X e t:=h _
noncomputable def PA(X:Cx)(es:List Expr)(t:TA):Prop:=
 ∀(pos:Pos) (pins:List (Addr×Obj)) (s:Shared) (σ:St) (H:Hp) (Q:List V->Hp->Prop),Inv X pins σ H s->t σ H Q->wpAny (model X.prog X.w) X.A (spliced (backTo pos (starEach es X.env))) (AP X pins σ Q) X.xe s
noncomputable def PS(X:Cx)(st:Stmt)(t:TS):Prop:=
 ∀(pins:List (Addr×Obj)) (s:Shared) (σ:St) (H:Hp) (D:Ends),Inv X pins σ H s->t D σ H->wpAny (model X.prog X.w) X.A (exec st X.env) (SP X pins D) X.xe s
noncomputable def PSs(X:Cx)(st:List Stmt)(t:TS):Prop:=
 ∀(pins:List (Addr×Obj)) (s:Shared) (σ:St) (H:Hp) (D:Ends),Inv X pins σ H s->t D σ H->wpAny (model X.prog X.w) X.A (execs st X.env) (SP X pins D) X.xe s
theorem thn{α:Type}{t:Sem α}{Q Q':α->Shared->Prop}{M:Model}{A:Around}{E:Value->Shared->Prop}{s:Shared}(h:wpAny M A t Q E s)(hQ:∀a s,Q a s->Q' a s):wpAny M A t Q' E s:=wpAny_mono h hQ fun _ _ x=>x
section
variable{X:Cx}
noncomputable def lg(i:Nat):TE:=fun σ H Q=>∃v,σ[i]?=some (some v)/\Q v H
noncomputable def tC(v:V):TE:=fun _ H Q=>Q v H
theorem dO{i:Nat}{x:Str}{pos:Pos}(hN:X.N[i]?=some x)(hv:Vis X.env.scope x)(hd:(x == ("__debug__" : Str))=false:=by decide)(hcd:(x == ("__classdict__" : Str))=false:=by decide):PE X (.Name x pos) (lg i):=by
 intro pins s σ H Q I h;obtain⟨v,e,h⟩:=h;obtain⟨m,hn,hl⟩:=I.loc;obtain⟨u,r,l⟩:=hl i x v hN e hv;have fin:EP X pins σ Q u s:=⟨v,H,I,r,h⟩
 rcases l with⟨hk,hm⟩ | ⟨hk,c,hc,hcell⟩
 ·exact wpAny_Name (wpAny_loadName_local I.ok.kind hk hn hm fin) hd
 ·rcases hk with hk | hk
  ·exact wpAny_Name (wpAny_loadName_cell I.ok.kind hk hc hcell fin) hd
  ·exact wpAny_Name (wpAny_loadName_free I.ok.kind hk hc hcell fin hcd) hd
theorem Aa{i j pos}:PE X (.Constant (.int i) j pos) (tC (.int i)):=fun _ _ _ H _ I h=>wpAny_Constant_int ⟨.int i,H,I.tok _,⟨_,rfl⟩,h⟩
theorem LI{b j pos}:PE X (.Constant (.bool b) j pos) (tC (.bl b)):=fun _ _ _ H _ I h=>Constant_bool ⟨.bl b,H,I,rfl,h⟩
theorem Iv{j pos}:PE X (.Constant .none j pos) (tC .non):=fun _ _ _ H _ I h=>Constant_none ⟨.non,H,I,rfl,h⟩
theorem Iw{x j pos}:PE X (.Constant (.str x) j pos) (tC (.str x)):=fun _ _ _ H _ I h=>Calls.Constant_str ⟨.str x,H,I.tok _,⟨_,rfl⟩,h⟩
noncomputable def Gl(X:Cx)(x:Str):Prop:=X.env.kindOf x=some .globalImplicit
theorem wH{E:Value->Shared->Prop}{pins:List (Addr×Obj)}{s:Shared}{σ:St}{H:Hp}{x:Str}{u:Value}{pos:Pos}{Q:Value->Shared->Prop}(I:Inv X pins σ H s)(hg:Gl X x)(hm:X.mg x=some u)(h:Q u s)
  (hd:(x == ("__debug__" : Str))=false:=by decide):wpAny (model X.prog X.w) X.A (eval (.Name x pos) X.env) Q E s:=
 Calls.Name_function_global I.ok.kind hg (Calls.loadGlobal_global (by rw[I.ok.glob];exact I.mod.glob.keeps I.bk) hm h) hd
theorem cS{E:Value->Shared->Prop}{pins:List (Addr×Obj)}{s:Shared}{σ:St}{H:Hp}{x:Str}{u:Value}{pos:Pos}{Q:Value->Shared->Prop}(I:Inv X pins σ H s)(hg:Gl X x)(hm:X.mg x=none)(hv:bootBuiltins x=some u)(h:Q u s)
  (hn:x ≠ "__name__" := by decide) (hd:(x == ("__debug__" : Str))=false:=by decide):wpAny (model X.prog X.w) X.A (eval (.Name x pos) X.env) Q E s:=by
 obtain⟨mb,h1,h2⟩:=I.mod.blt;exact Calls.Name_function_global I.ok.kind hg (Calls.loadGlobal_builtin (by rw[I.ok.glob];exact I.mod.glob.keeps I.bk) hm (by rw[I.ok.blt];exact h1.keeps I.bk) ((h2 x hn).trans hv) h) hd
theorem Ej{x:Str}{v:V}{u:Value}{pos:Pos}(hg:Gl X x)(hm:X.mg x=some u)(r:RelV v u)(hd:(x == ("__debug__" : Str))=false:=by decide):PE X (.Name x pos) (tC v):=
 fun _ _ _ H _ I h=>wH I hg hm ⟨v,H,I,r,h⟩ hd
theorem Ek{x:Str}{v:V}{u:Value}{pos:Pos}(hg:Gl X x)(hm:X.mg x=none)(hv:bootBuiltins x=some u)(r:RelV v u)(hn:x ≠ "__name__" := by decide)(hd:(x == ("__debug__" : Str))=false:=by decide):PE X (.Name x pos) (tC v):=
 fun _ _ _ H _ I h=>cS I hg hm hv ⟨v,H,I,r,h⟩ hn hd
variable{a b:Expr}{ta tb:TE}{pos:Pos}
noncomputable def PC(X:Cx)(op:CmpOp)(a b:Expr)(t:TE):Prop:=
 ∀(pins:List (Addr×Obj)) (s:Shared) (σ:St) (H:Hp) (Q:VK),Inv X pins σ H s->t σ H Q ->
  wpAny (model X.prog X.w) X.A (eval a X.env) (fun v s₁=>wpAny (model X.prog X.w) X.A (eval b X.env) (fun u s₂=>wpAny (model X.prog X.w) X.A (compareOp op v u) (EP X pins σ Q) X.xe s₂) X.xe s₁) X.xe s
noncomputable def tB(t:TE):TT:=fun σ H Q=>t σ H fun x H1=>∃c,x=.bl c/\Q c H1
theorem Ab{op:CmpOp}{t:TE}(h:PC X op a b t)(h1:behindInMarks op b=false:=by first | exact LJ _ (by decide) (by decide) | rfl):PT X (.Compare a [op] [b] pos) (tB t):=by intro pins s σ H Q I hw;refine wpAny_isTrue_Compare1 (thn (h pins s σ H _ I hw) fun v s1 h1=>thn h1 fun u s2 h2=>thn h2 fun c s3 ⟨x,H1,I1,r1,q1⟩=>?_) h1;obtain⟨d,rfl,q⟩:=q1;cases r1;exact wpAny_truthy_bool ⟨H1,I1,q⟩
theorem Iz{e:Expr}{t:TE}(h:PE X e t)(he:∀whole,isTrue e X.env whole=(do let v <- whole;standAt e.pos;holding [v] (truthy v)):=by intro _;rfl):PT X e (tB t):=by intro pins s σ H Q I hw;refine isTrue_plain (thn (h pins s σ H _ I hw) fun v s1 ⟨x,H1,I1,r1,q1⟩=>?_) (he _);obtain⟨d,rfl,q⟩:=q1;cases r1;exact wpAny_truthy_bool ⟨H1,I1,q⟩
variable{tA tB':TT}{rest:List Expr}
noncomputable def kJ(t u:TT):TT:=fun σ H Q=>t σ H fun c H1=>if c=true then u σ H1 Q else Q false H1
noncomputable def tOr(t u:TT):TT:=fun σ H Q=>t σ H fun c H1=>if c=true then Q true H1 else u σ H1 Q
noncomputable def cy(t:TT):TT:=fun σ H Q=>t σ H fun c H1=>Q (!c) H1
theorem pw_and1(ha:PT X a tA):PW X (.BoolOp .And [a] pos) tA:=by
 intro wh pins s σ H Q I h;refine isTrue_and (thn (ha pins s σ H Q I h) fun c s1 e=>?_);cases c with
 |true=>exact isTrue_and_nil e
 |false=>exact e
theorem pw_or1(ha:PT X a tA):PW X (.BoolOp .Or [a] pos) tA:=by
 intro wh pins s σ H Q I h;refine isTrue_or (thn (ha pins s σ H Q I h) fun c s1 e=>?_);cases c with
 |false=>exact isTrue_or_nil e
 |true=>exact e
theorem pw_and(ha:PT X a tA)(hb:PW X (.BoolOp .And (b::rest) pos) tB'):PW X (.BoolOp .And (a::b::rest) pos) (kJ tA tB'):=by
 intro wh pins s σ H Q I h;refine isTrue_and (thn (ha pins s σ H _ I h) fun c s1 ⟨H1,I1,q1⟩=>?_);cases c with
 |true=>exact hb wh pins s1 σ H1 Q I1 q1
 |false=>exact⟨H1,I1,q1⟩
theorem pw_or(ha:PT X a tA)(hb:PW X (.BoolOp .Or (b::rest) pos) tB'):PW X (.BoolOp .Or (a::b::rest) pos) (tOr tA tB'):=by
 intro wh pins s σ H Q I h;refine isTrue_or (thn (ha pins s σ H _ I h) fun c s1 ⟨H1,I1,q1⟩=>?_);cases c with
 |true=>exact⟨H1,I1,q1⟩
 |false=>exact hb wh pins s1 σ H1 Q I1 q1
theorem IA(ha:PT X a tA):PT X (.UnaryOp .Not a pos) (cy tA):=by intro pins s σ H Q I h;exact isTrue_not (ha pins s σ H (fun c H1=>Q (!c) H1) I h)
noncomputable def GI(ta tb:TE):TE:=fun σ H Q=>ta σ H fun x H1=>∃c,x=.bl c/\if c=true then tb σ H1 Q else Q (.bl false) H1
noncomputable def GJ(ta:TE):TE:=fun σ H Q=>ta σ H fun x H1=>∃c,x=.bl c/\Q (.bl (!c)) H1
theorem IB{op}{t:TE}(h:PE X a t):PE X (.BoolOp op [a] pos) t:=fun pins s σ H Q I hw=>BoolOp_one (h pins s σ H Q I hw)
theorem IC(ha:PE X a ta)(hb:PE X (.BoolOp .And (b::rest) pos) tb):PE X (.BoolOp .And (a::b::rest) pos) (GI ta tb):=by
 intro pins s σ H Q I h;refine BoolOp_and (thn (ha pins s σ H _ I h) fun v s1 ⟨x,H1,I1,r1,q1⟩=>?_);obtain⟨c,rfl,q1⟩:=q1;cases r1;refine wpAny_truthy_bool ?_;cases c with
 |true=>exact hb pins s1 σ H1 Q I1 q1
 |false=>exact⟨.bl false,H1,I1,rfl,q1⟩
theorem ID(ha:PE X a ta):PE X (.UnaryOp .Not a pos) (GJ ta):=by intro pins s σ H Q I h;refine UnaryOp_ (thn (ha pins s σ H _ I h) fun v s1 ⟨x,H1,I1,r1,q1⟩=>?_);obtain⟨c,rfl,q1⟩:=q1;cases r1;exact not_of (wpAny_truthy_bool ⟨.bl (!c),H1,I1,rfl,q1⟩)
noncomputable def tIf(t:TT)(ta tb:TE):TE:=fun σ H Q=>t σ H fun c H1=>if c=true then ta σ H1 Q else tb σ H1 Q
theorem Ac{c:Expr}(hc:PT X c tA)(ha:PE X a ta)(hb:PE X b tb):PE X (.IfExp c a b pos) (tIf tA ta tb):=by
 intro pins s σ H Q I h;refine wpAny_IfExp (thn (hc pins s σ H _ I h) fun d s1 ⟨H1,I1,q1⟩=>?_);cases d with
 |true=>exact ha pins s1 σ H1 Q I1 q1
 |false=>exact hb pins s1 σ H1 Q I1 q1
end
noncomputable def SqL(K:PySem.W.Frag)(H:Hp)(a:Addr)(xs:List V):Prop:=
 Rd H a (.lst xs) \/
  ∃(o:Obj) (its:Array Value) (n:Nat),K.lookup a=some o/\o.cls=.type "list" /\ o.dict=none/\o.data=.seq its n/\its.size<=sizeLine/\Vals xs its.toList
noncomputable def SqT(K:PySem.W.Frag)(H:Hp)(a:Addr)(xs:List V):Prop:=
 Rd H a (.tup xs) \/
  ∃(o:Obj) (its:Array Value) (n:Nat),K.lookup a=some o/\o.cls=.type "tuple" /\ o.data=.seq its n/\its.size<=sizeLine/\Vals xs its.toList
noncomputable def OC:Value->Option V
 |.none=>some .non
 |.bool b=>some (.bl b)
 |.int i _=>some (.int i)
 |.str x _=>some (.str x)
 |.bytes b _=>some (.byt b)
 |.float b _=>some (.flt b)
 |.ref a=>some (.ref a)
 |.type n=>some (.ty n)
 |_=>none
theorem RelV.abs{x:V}{u:Value}(r:RelV x u):OC u=some x:=by
 cases x with
 |non=>cases r;rfl
 |bl _=>cases r;rfl
 |int _=>obtain⟨t,rfl⟩:=r;rfl
 |str _=>obtain⟨t,rfl⟩:=r;rfl
 |byt _=>obtain⟨t,rfl⟩:=r;rfl
 |flt _=>obtain⟨t,rfl⟩:=r;rfl
 |ref _=>cases r;rfl
 |ty _=>cases r;rfl
theorem RelV.inj{x y:V}{u:Value}(r:RelV x u)(q:RelV y u):x=y:=Option.some.inj (r.abs.symm.trans q.abs)
theorem Vals.inj:∀{xs ys:List V} {us:List Value},Vals xs us->Vals ys us->xs=ys
 |_,_,_,.nil,.nil=>rfl
 |_,_,_,.cons r t,.cons r' t'=>by rw[r.inj r',Vals.inj t t']
section
variable{X:Cx}{pins:List (Addr×Obj)}{σ:St}{H:Hp}{s:Shared}{a:Addr}{xs ys:List V}
theorem SqT.of{K:PySem.W.Frag}(h:H a=some (.tup xs)):SqT K H a xs:=.inl (.inl h)
theorem Inv.list(I:Inv X pins σ H s)(h:SqL X.K H a xs):∃its:List Value,Vals xs its/\PlainL s.heap a its.toArray/\xs.length<=sizeLine:=by
 rcases h with h | ⟨o,its,n,hk,hc,hd,hs,hz,r⟩
 ·obtain⟨z,its,n,r,e⟩:=h.ok I.hok
  exact⟨its,r,⟨_,n,e,rfl,rfl,rfl⟩,z⟩
 ·refine⟨its.toList,r,⟨o,n,I.kIn a o hk,hc,hd,by simpa using hs⟩,?_⟩
  have e:=r.length;simp only[Array.length_toList]at e;omega
theorem Inv.tuple(I:Inv X pins σ H s)(h:SqT X.K H a xs):∃its:List Value,Vals xs its/\IsTup s.heap a its.toArray/\xs.length<=sizeLine:=by
 rcases h with h | ⟨o,its,n,hk,hc,hs,hz,r⟩
 ·obtain⟨z,its,r,p⟩:=h.ok I.hok
  exact⟨its,r,p,z⟩
 ·refine⟨its.toList,r,⟨o,I.kIn a o hk,hc,n,by simpa using hs⟩,?_⟩
  have e:=r.length;simp only[Array.length_toList]at e;omega
theorem Inv.ff(I:Inv X pins σ H s)(h:SqL X.K H a xs)(h':SqL X.K H a ys):xs=ys:=by
 obtain⟨its,r,⟨o,n,e,_,_,d⟩,_⟩:=I.list h;obtain⟨its',r',⟨o',n',e',_,_,d'⟩,_⟩:=I.list h';rw[e]at e';cases e';rw[d]at d';injection d' with d1 _
 have:its=its':=by simpa using congrArg Array.toList d1
 subst this;exact r.inj r'
theorem Inv.yJ(I:Inv X pins σ H s)(h:SqT X.K H a xs)(h':SqT X.K H a ys):xs=ys:=by
 obtain⟨its,r,⟨o,e,_,n,d⟩,_⟩:=I.tuple h;obtain⟨its',r',⟨o',e',_,n',d'⟩,_⟩:=I.tuple h';rw[e]at e';cases e';rw[d]at d';injection d' with d1 _
 have:its=its':=by simpa using congrArg Array.toList d1
 subst this;exact r.inj r'
end
noncomputable abbrev Cx.ou(X:Cx)(E:Value->Shared->Prop):Cx:={ X with xe:=E }
noncomputable abbrev Cx.nox(X:Cx):Cx:=X.ou fun _ _=>False
theorem Cx.Ok.ou{X:Cx}(ok:X.Ok)(E:Value->Shared->Prop):(X.ou E).Ok:=
 ⟨ok.mod,ok.kind,ok.glob,ok.blt,ok.above,ok.inj,ok.has,ok.cab,ok.hd,ok.frames,ok.stk,ok.exf,ok.bs,ok.bsz,ok.z_,ok.Ei,ok.k_,ok.frf⟩
theorem Cx.Ok.fh{X:Cx}{E:Value->Shared->Prop}(ok:(X.ou E).Ok):X.Ok:=
 ⟨ok.mod,ok.kind,ok.glob,ok.blt,ok.above,ok.inj,ok.has,ok.cab,ok.hd,ok.frames,ok.stk,ok.exf,ok.bs,ok.bsz,ok.z_,ok.Ei,ok.k_,ok.frf⟩
section
variable{X:Cx}{pins:List (Addr×Obj)}{σ:St}{H:Hp}{s:Shared}{E:Value->Shared->Prop}
theorem Inv.ou(I:Inv X pins σ H s)(E:Value->Shared->Prop):Inv (X.ou E) pins σ H s:=⟨I.ok.ou E,I.os,I.bare,I.base,I.loc,I.cell,I.free,I.gj,I.pin,I.hok,I.len⟩
theorem Inv.fh(I:Inv (X.ou E) pins σ H s):Inv X pins σ H s:=⟨I.ok.fh,I.os,I.bare,I.base,I.loc,I.cell,I.free,I.gj,I.pin,I.hok,I.len⟩
theorem SP.fh{D:Ends}{f:Flow}{s':Shared}(h:SP (X.ou E) pins D f s'):SP X pins D f s':=by
 cases f with
 |next=>obtain⟨σ',H',I,q⟩:=h;exact⟨σ',H',I.fh,q⟩
 |brk=>obtain⟨σ',H',I,q⟩:=h;exact⟨σ',H',I.fh,q⟩
 |cont=>obtain⟨σ',H',I,q⟩:=h;exact⟨σ',H',I.fh,q⟩
 |ret u=>obtain⟨v,σ',H',I,r,q⟩:=h;exact⟨v,σ',H',I.fh,r,q⟩
theorem PSs.nox{st:List Stmt}{t:TS}(h:PSs X.nox st t):PSs X st t:=fun pins s σ H D I hw=>wpAny_mono (h pins s σ H D (I.ou _) hw) (fun _ _ q=>q.fh) fun _ _ z=>False.elim z
end
section
variable{X:Cx}{st:Stmt}{rest:List Stmt}{t u:TS}{e:Expr}{te:TE}{pos:Pos}
noncomputable def Ad:TS:=fun D σ H=>D.nx σ H
noncomputable def yK(t u:TS):TS:=fun D σ H=>t { D with nx:=u D } σ H
theorem wI:PSs X [] Ad:=fun _ _ σ H _ I h=>wpAny_execs_nil ⟨σ,H,I,h⟩
theorem iP(h1:PS X st t)(h2:PSs X rest u):PSs X (st::rest) (yK t u):=by
 intro pins s σ H D I h;refine wpAny_execs_cons (thn (h1 pins s σ H { D with nx:=u D } I h) fun f s1 q=>?_);cases f with
 |next=>obtain⟨σ',H',I',q⟩:=q;exact h2 pins s1 σ' H' D I' q
 |ret v=>exact q
 |brk=>exact q
 |cont=>exact q
theorem wJ(h1:PS X st t):PSs X [st] t:=by
 intro pins s σ H D I h;refine wpAny_execs_cons (thn (h1 pins s σ H D I h) fun f s1 q=>?_);cases f with
 |next=>exact wpAny_execs_nil q
 |ret v=>exact q
 |brk=>exact q
 |cont=>exact q
theorem Inv.quiet{pins:List (Addr×Obj)}{σ:St}{H:Hp}{s:Shared}(I:Inv X pins σ H s):interactive X.env=false:=by simp[interactive,I.ok.kind]
noncomputable def oR(te:TE):TS:=fun D σ H=>te σ H fun _ H1=>D.nx σ H1
theorem iQ(he:PE X e te)(hs:swapsWith e none pos.line X.env=pure false:=by rfl):PS X (.Expr e pos) (oR te):=by intro pins s σ H D I h;exact wpAny_Expr_any (thn (he pins s σ H _ I h) fun v s1 ⟨x,H1,I1,r1,q1⟩=>⟨σ,H1,I1,q1⟩) I.quiet hs
noncomputable def LL(te:TE):TS:=fun D σ H=>te σ H D.rt
theorem IE(he:PE X e te):PS X (.Return (some e) pos) (LL te):=by intro pins s σ H D I h;exact wpAny_Return_some (thn (he pins s σ H _ I h) fun v s1 ⟨x,H1,I1,r1,q1⟩=>⟨x,σ,H1,I1,r1,q1⟩)
noncomputable def IF(c:TT)(t u:TS):TS:=fun D σ H=>c σ H fun b H1=>if b=true then t D σ H1 else u D σ H1
theorem GK{c:Expr}{a b:List Stmt}{tc:TT}(hc:PT X c tc)(ha:PSs X a t)(hb:PSs X b u):PS X (.If c a b pos) (IF tc t u):=by
 intro pins s σ H D I h;refine wpAny_If (thn (hc pins s σ H _ I h) fun d s1 ⟨H1,I1,q1⟩=>?_);cases d with
 |true=>exact ha pins s1 σ H1 D I1 q1
 |false=>exact hb pins s1 σ H1 D I1 q1
noncomputable def IG:TS:=fun _ _ _=>False
theorem Ae:PS X st IG:=fun _ _ _ _ _ _ h=>h.elim
end
noncomputable abbrev TG:=V->St->Hp->(St->Hp->Prop)->Prop
noncomputable abbrev TGs:=List V->St->Hp->(St->Hp->Prop)->Prop
noncomputable def PG(X:Cx)(target:Expr)(t:TG):Prop:=
 ∀(pins:List (Addr×Obj)) (s:Shared) (σ:St) (H:Hp) (v:V) (u:Value) (Q:St->Hp->Prop),Inv X pins σ H s->RelV v u->t v σ H Q ->
  wpAny (model X.prog X.w) X.A (assign target X.env u) (fun _ s'=>∃σ' H',Inv X pins σ' H' s'/\Q σ' H') X.xe s
noncomputable def PGs(X:Cx)(ts:List Expr)(t:TGs):Prop:=
 ∀(pins:List (Addr×Obj)) (s:Shared) (σ:St) (H:Hp) (vs:List V) (us:List Value) (Q:St->Hp->Prop),Inv X pins σ H s->Vals vs us->t vs σ H Q ->
  wpAny (model X.prog X.w) X.A (assignInOrder ((assignEach ts X.env).map (·.2)) us) (fun _ s'=>∃σ' H',Inv X pins σ' H' s'/\Q σ' H') X.xe s
noncomputable abbrev II:=V->V->V->Hp->(Hp->Prop)->Prop
noncomputable def LM(X:Cx)(t:II):Prop:=
 ∀(pins:List (Addr×Obj)) (s:Shared) (σ:St) (H:Hp) (o i v:V) (ov iv u:Value) (Q:Hp->Prop),Inv X pins σ H s->RelV o ov->RelV i iv->RelV v u->t o i v H Q ->
  wpAny (model X.prog X.w) X.A (setItem ov iv u) (fun _ s'=>∃H',Inv X pins σ H' s'/\Q H') X.xe s
section
variable{X:Cx}{pos:Pos}
noncomputable def iR(i:Nat):TG:=fun v σ H Q=>Q (σ.set i (some v)) H
theorem p_{i:Nat}{x:Str}(hN:X.N.Nodup)(hi:X.N[i]?=some x)(hx:Loc X.env.scope x)(hf:X.fn x=true\/X.env.scope.names.lookup x=some .local:=by first | exact .inl rfl | exact .inr rfl | assumption):PG X (.Name x pos) (iR i):=by intro pins s σ H v u Q I r h;exact wpAny_assign_Name (rC I hN hi hx r (fun s' I'=>⟨_,H,I',h⟩) hf)
noncomputable def LN:TGs:=fun vs σ H Q=>vs=[]/\Q σ H
noncomputable def GL(t:TG)(u:TGs):TGs:=fun vs σ H Q=>∃v r,vs=v::r/\t v σ H fun σ' H'=>u r σ' H' Q
theorem El:PGs X [] LN:=by intro pins s σ H vs us Q I r h;obtain⟨e,h⟩:=h;subst e;cases r;exact assignInOrder_nil ⟨σ,H,I,h⟩
theorem Af{e:Expr}{es:List Expr}{t:TG}{u:TGs}(h1:PG X e t)(h2:PGs X es u)
  (hs:(assignEach (e::es) X.env).map (·.2)=assign e X.env::(assignEach es X.env).map (·.2):=by rfl):PGs X (e::es) (GL t u):=by
 intro pins s σ H vs us Q I r h;obtain⟨v,vr,e1,h⟩:=h;subst e1;cases r with
 |cons r rr=>rw[hs];refine assignInOrder_cons (thn (h1 pins s σ H _ _ _ I r h) fun _ s1 ⟨σ1,H1,I1,q1⟩=>?_);exact h2 pins s1 σ1 H1 _ _ Q I1 rr q1
noncomputable def LO(K:PySem.W.Frag)(n:Nat)(t:TGs):TG:=fun v σ H Q=>∃a xs,v=.ref a/\SqT K H a xs/\xs.length=n/\t xs σ H Q
theorem Ag{es:List Expr}{k:Nat}{t:TGs}{n:Nat}(hc:X.calm=true)(h:PGs X es t)
  (hn:(assignEach es X.env).length=n:=by rfl) (hst:(assignEach es X.env).findIdx? (·.1)=none:=by rfl):PG X (.Tuple es k pos) (LO X.K n t):=by
 intro pins s σ H v u Q I r hw;obtain⟨a,xs,e1,hq,hl,hw⟩:=hw;subst e1;cases r;obtain⟨its,rv,ht,hz⟩:=I.tuple hq;refine assign_Tuple_tuple (I.ok.hd hc) ht (by simp[hn,<- hl,rv.length]) hst fun h' hx=>?_
 have I1:Inv X pins σ H { s with heap:=h' }:=I.kept (t':=s.toks) fun b o e=>hx b o (Nat.ne_of_lt (Heap.lt_size e)) e
 exact h pins _ σ H xs _ Q I1 (by simpa using rv) hw
noncomputable def iU(to ti:TE)(t:II):TG:=fun v σ H Q=>to σ H fun o H1=>ti σ H1 fun i H2=>t o i v H2 fun H3=>Q σ H3
theorem IJ{o i:Expr}{to ti:TE}{t:II}(ho:PE X o to)(hi:PE X i ti)(hs:LM X t)
  (ha:∀ v,assign (.Subscript o i pos) X.env v=(do
   let ov <- holding [v] (eval o X.env)
   let iv <- holding [v,ov] (eval i X.env)
   standAt pos
   holding [v,ov,iv] (setItem ov iv v)
   release [v,ov,iv] []):=by intro _;rfl):PG X (.Subscript o i pos) (iU to ti t):=by
 intro pins s σ H v u Q I r h;rw[ha];refine wpAny_bind (wpAny_holding (thn (ho pins s σ H _ I h) fun ov s1 ⟨x,H1,I1,r1,q1⟩=>?_));refine wpAny_bind (wpAny_holding (thn (hi pins s1 σ H1 _ I1 q1) fun iv s2 ⟨y,H2,I2,r2,q2⟩=>?_));refine wpAny_bind (wpAny_standAt (wpAny_bind (wpAny_holding (thn (hs pins s2 σ H2 x y v ov iv u _ I2 r1 r2 r q2) fun _ s3 ⟨H3,I3,q3⟩=>?_))));exact wpAny_release ⟨σ,H3,I3,q3⟩
noncomputable def yL(te:TE)(g:TG):TS:=fun D σ H=>te σ H fun x H1=>g x σ H1 D.nx
theorem IK{tg e:Expr}{te:TE}{g:TG}(he:PE X e te)(hg:PG X tg g)(hs:swapsWithSole [tg] e pos.line X.env=pure false:=by rfl)(hw:swappedStores [tg] e X.env=pure none:=by rfl)
  (h1:(assignEach [tg] X.env).map (·.2)=[assign tg X.env]:=by rfl):PS X (.Assign [tg] e pos) (yL te g):=by
 intro pins s σ H D I h;refine wpAny_Assign_stores (thn (he pins s σ H _ I h) fun v s1 ⟨x,H1,I1,r1,q1⟩=>?_) hs hw;rw[h1];exact thn (hg pins s1 σ H1 x v _ I1 r1 q1) fun _ s2 q=>q
theorem IL{i:Nat}{x:Str}{e:Expr}{te:TE}{pos':Pos}(hN:X.N.Nodup)(hi:X.N[i]?=some x)(hx:Loc X.env.scope x)(he:PE X e te)(hs:swapsWith e (some (.Name x pos')) pos.line X.env=pure false:=by rfl)(hf:X.fn x=true\/X.env.scope.names.lookup x=some .local:=by first | exact .inl rfl | exact .inr rfl | assumption) :
  PS X (.Assign [.Name x pos'] e pos) (yL te (iR i)):=by
 intro pins s σ H D I h;refine wpAny_Assign_Name (thn (he pins s σ H _ I h) fun v s1 ⟨y,H1,I1,r1,q1⟩=>?_) hs;exact rC I1 hN hi hx r1 (fun s2 I2=>⟨_,H1,I2,q1⟩) hf
end
section
variable{X:Cx}{pos:Pos}
noncomputable def Ah(c:TT)(tb:TS):TS:=fun D σ H=>∃W:Nat->St->Hp->Prop,(∃m,W m σ H)/\∀m σ H,W m σ H ->
 c σ H fun b H1=>if b=true then ∃N:St->Hp->Prop,(∀σ' H',N σ' H'->∃m',m'<m/\W m' σ' H')/\tb { D with nx:=N,ct:=N,bk:=D.nx } σ H1 else D.nx σ H1
theorem Ai{c:Expr}{body:List Stmt}{tc:TT}{tb:TS}(hp:PassesOwn (model X.prog X.w) X.A X.env X.xe)(hc:PT X c tc)(hb:PSs X body tb):PS X (.While c body [] pos) (Ah tc tb):=by
 intro pins s σ H D I h;obtain⟨W,⟨m0,w0⟩,turn⟩:=h;refine wpAny_While (codeAny_whileLoop (fun n s'=>∃σ' H',Inv X pins σ' H' s'/\W n σ' H') ?_ m0 ⟨σ,H,I,w0⟩);rintro n s1 ⟨σ1,H1,I1,w1⟩;refine wpAny_passesOwn hp (thn (hc pins s1 σ1 H1 _ I1 (turn n σ1 H1 w1)) fun b s2 ⟨H2,I2,q2⟩=>?_);cases b with
 |true=>
  obtain⟨N,hN,q2⟩:=q2;rw[if_pos rfl];refine wpAny_passesOwn hp (thn (hb pins s2 σ1 H2 _ I2 q2) fun f s3 q3=>?_);cases f with
  |next=>obtain⟨σ3,H3,I3,n3⟩:=q3;obtain⟨m',hm,w3⟩:=hN σ3 H3 n3;exact⟨m',hm,σ3,H3,I3,w3⟩
  |cont=>obtain⟨σ3,H3,I3,n3⟩:=q3;obtain⟨m',hm,w3⟩:=hN σ3 H3 n3;exact⟨m',hm,σ3,H3,I3,w3⟩
  |brk=>exact q3
  |ret v=>exact q3
 |false=>rw[if_neg Bool.false_ne_true];exact wpAny_execs_nil ⟨σ1,H2,I2,q2⟩
end
structure It where
 go:Nat->Hp->Prop
 yld:Nat->Hp->V->Hp->Prop
 stop:Nat->Hp->Prop
noncomputable def oz(X:Cx)(pins:List (Addr×Obj))(H:Hp)(b:Addr):Prop:=
 H b=none/\b≠X.env.locals/\b∉X.fs/\(b∈X.ex\/X.s₀.heap.objs.size<=b)/\(∀x c,X.env.cells.lookup x=some c->c≠b)/\∀p∈X.pn++pins,p.1≠b
theorem Inv.uR{X:Cx}{pins:List (Addr×Obj)}{σ:St}{H H':Hp}{s:Shared}{b:Addr}(I:Inv X pins σ H s)(hb:s.heap.objs.size<=b)(hn:H' b=none):oz X pins H' b:=by
 refine⟨hn,Nat.ne_of_gt (Nat.lt_of_lt_of_le I.lt hb),I.OA hb,.inr (Nat.le_trans I.sz hb),fun x c e z=>?_,fun p hp z=>?_⟩
 ·obtain⟨v,q⟩:=I.cell x c e
  exact absurd (Nat.lt_of_lt_of_le q.lt (by rw[z];exact hb)) (Nat.lt_irrefl _)
 ·exact absurd (Nat.lt_of_lt_of_le (Heap.lt_size (I.pin p hp).1) (by rw[z];exact hb)) (Nat.lt_irrefl _)
structure Turn(P:Program)(w:World)(K:PySem.W.Frag)(tg:Expr)(J:It)(fp:List Addr)(it:Addr)(tn:Nat->Heap->Prop):Prop where
 mem:it∈fp
 obj:∀i h,tn i h->∀b∈fp,∃o,h.get? b=some o/\∀v,o.data≠.cell v
 keep:∀i h h',tn i h->(∀b∈fp,∀o,h.get? b=some o->h'.get? b=some o)->tn i h'
 item:∀(X:Cx),X.prog=P->X.w=w->X.K=K->X.calm=true->∀(i:Nat) (pins:List (Addr×Obj)) (s:Shared) (σ:St) (H:Hp) (E:Value->Shared->Prop),Inv X pins σ H s->(∀b∈fp,oz X pins H b)->tn i s.heap->J.go i H ->
  wpAny (model P w) X.A (pyNext (.ref it)) (fun r s1=>∃ u,r=some u ∧
   wpAny (model P w) X.A (letOwnedTupleGo tg (.ref it) u) (fun _ s2=>∃x H',Inv X pins σ H' s2/\RelV x u/\J.yld i H x H'/\tn (i+1) s2.heap/\∀b∈fp,H' b=none) E s1) E s
 done:∀(X:Cx),X.prog=P->X.w=w->X.K=K->X.calm=true->∀(i:Nat) (pins:List (Addr×Obj)) (s:Shared) (σ:St) (H:Hp) (E:Value->Shared->Prop),Inv X pins σ H s->(∀b∈fp,oz X pins H b)->tn i s.heap->J.stop i H ->
  wpAny (model P w) X.A (pyNext (.ref it)) (fun r s1=>r=none/\Inv X pins σ H s1) E s
 self:∀(A:Around) (i:Nat) (s:Shared) (Q:Value->Shared->Prop) (E:Value->Shared->Prop),tn i s.heap->Q (.ref it) s->wpAny (model P w) A (pyIter (.ref it)) Q E s
noncomputable abbrev TI:=St->Hp->(It->Hp->Prop)->Prop
noncomputable def PIE(X:Cx)(pins:List (Addr×Obj))(σ:St)(tg:Expr)(R:It->Hp->Prop)(itv:Value)(s2:Shared):Prop:=
 ∃(it:Addr) (fp:List Addr) (tn:Nat->Heap->Prop) (J:It) (H':Hp),itv=.ref it/\Inv X pins σ H' s2/\Turn X.prog X.w X.K tg J fp it tn/\tn 0 s2.heap/\(∀b∈fp,oz X pins H' b)/\R J H'
noncomputable def PI(X:Cx)(tg iter:Expr)(wi:TI):Prop:=
 ∀(pins:List (Addr×Obj)) (s:Shared) (σ:St) (H:Hp) (R:It->Hp->Prop),Inv X pins σ H s->wi σ H R ->
  wpAny (model X.prog X.w) X.A (eval iter X.env) (fun v s1=>wpAny (model X.prog X.w) X.A (pyIter v) (PIE X pins σ tg R) X.xe s1) X.xe s
theorem rD{M:Model}{A:Around}{E:Value->Shared->Prop}{s:Shared}{tg:Expr}{it:Addr}{u:Value}{o:Obj}{n:String}{vs:Array Value}{Q:Unit->Shared->Prop}(ho:s.heap.get? it=some o)(hc:o.cls=.type n)(hd:o.data=.fields vs)
  (hn:["enumerate","zip","dict_itemiterator","dict_reverseitemiterator","odict_iterator","itertools.zip_longest","itertools.pairwise"].contains n=false) (hQ:Q () s):wpAny M A (letOwnedTupleGo tg (.ref it) u) Q E s:=by
 unfold letOwnedTupleGo;cases tg<;>first
  |exact wpAny_pure hQ
  | (cases u<;>first
    |exact wpAny_pure hQ
    | (refine wpAny_bind (wpAny_load ho ?_)
       rw[hc,hd];show wpAny M A (if (["enumerate","zip","dict_itemiterator","dict_reverseitemiterator","odict_iterator","itertools.zip_longest","itertools.pairwise"].contains n&&vs[0]? == some (rawInt _))=true then _ else _) Q E s;rw[if_neg (by intro h;rw[hn,Bool.false_and]at h;cases h)];exact wpAny_pure hQ))
noncomputable def Itl(K:PySem.W.Frag)(a:Addr):It:=
 ⟨fun i H=>∃xs x,SqL K H a xs/\xs[i]?=some x,fun i H x H'=>H'=H/\∀xs,SqL K H a xs->xs[i]?=some x,fun i H=>∃xs,SqL K H a xs/\xs.length<=i⟩
noncomputable def Itt(K:PySem.W.Frag)(a:Addr):It:=
 ⟨fun i H=>∃xs x,SqT K H a xs/\xs[i]?=some x,fun i H x H'=>H'=H/\∀xs,SqT K H a xs->xs[i]?=some x,fun i H=>∃xs,SqT K H a xs/\xs.length<=i⟩
noncomputable def Itr(lo:Int)(n:Nat):It:=⟨fun i _=>i<n,fun i H x H'=>H'=H/\x=.int (lo+i),fun i _=>n<=i⟩
theorem yM{P:Program}{w:World}{K:PySem.W.Frag}{tg:Expr}(a it:Addr):Turn P w K tg (Itl K a) [it] it (fun i h=>h.IsListIter it a i) where
 mem:=by simp
 obj:=fun i h st b hb=>by
  have e:b=it:=by simpa using hb
  subst e;obtain⟨o,e,c,d⟩:=st;exact⟨o,e,fun v z=>by rw[d]at z;cases z⟩
 keep:=fun i h h' st k=>st.at fun o e=>k it (by simp) o e
 item:=by
  intro X hP hw hK hc i pins s σ H E I hf st hg;subst hP hw hK;obtain⟨xs,x,hq,hx⟩:=hg;obtain⟨its,rv,p,hz⟩:=I.list hq;obtain⟨u,hu,ru⟩:=rv.get hx;obtain⟨f0,f1,f2,f3,f4,f5⟩:=hf it (by simp);refine wpAny_pyNext_list_item st p.isList (x:=u) (by simpa using hu) fun h' st' sb=>?_
  have I1:Inv X pins σ H { s with heap:=h' }:=I.turned (t':=s.toks) (fun b o hb e=>(sb.2 b hb).trans e) f0 f1 f3 f4 f5;obtain⟨o,e,c,d⟩:=id st';exact⟨u,rfl,rD (s:={ s with heap:=h' }) e c d (by decide) ⟨x,H,I1,ru,⟨rfl,fun ys hy=>by rw[I.ff hy hq];exact hx⟩,st',fun b hb=>(hf b hb).1⟩⟩
 done:=by intro X hP hw hK hc i pins s σ H E I hf st hg;subst hP hw hK;obtain⟨xs,hq,hx⟩:=hg;obtain⟨its,rv,p,hz⟩:=I.list hq;obtain⟨f0,f1,f2,f3,f4,f5⟩:=hf it (by simp);have hl:=rv.length;exact wpAny_pyNext_list_end (I.ok.hd hc) st p.isList (by simp;omega) fun h' eb=>⟨rfl,I.turned (t':=s.toks) (fun b o hb e=>eb b o hb e) f0 f1 f3 f4 f5⟩
 self:=fun _ _ _ _ _ st h=>wpAny_pyIter_listiter st h
theorem uS{P:Program}{w:World}{K:PySem.W.Frag}{tg:Expr}(a it:Addr):Turn P w K tg (Itt K a) [it] it (fun i h=>h.IsTupleIter it a i) where
 mem:=by simp
 obj:=fun i h st b hb=>by
  have e:b=it:=by simpa using hb
  subst e;obtain⟨o,e,c,d⟩:=st;exact⟨o,e,fun v z=>by rw[d]at z;cases z⟩
 keep:=fun i h h' st k=>st.at fun o e=>k it (by simp) o e
 item:=by
  intro X hP hw hK hc i pins s σ H E I hf st hg;subst hP hw hK;obtain⟨xs,x,hq,hx⟩:=hg;obtain⟨its,rv,p,hz⟩:=I.tuple hq;obtain⟨u,hu,ru⟩:=rv.get hx;obtain⟨f0,f1,f2,f3,f4,f5⟩:=hf it (by simp);refine wpAny_pyNext_tuple_item st (show s.heap.IsTuple a its.toArray from p) (x:=u) (by simpa using hu) fun h' st' sb=>?_
  have I1:Inv X pins σ H { s with heap:=h' }:=I.turned (t':=s.toks) (fun b o hb e=>(sb.2 b hb).trans e) f0 f1 f3 f4 f5;obtain⟨o,e,c,d⟩:=id st';exact⟨u,rfl,rD (s:={ s with heap:=h' }) e c d (by decide) ⟨x,H,I1,ru,⟨rfl,fun ys hy=>by rw[I.yJ hy hq];exact hx⟩,st',fun b hb=>(hf b hb).1⟩⟩
 done:=by intro X hP hw hK hc i pins s σ H E I hf st hg;subst hP hw hK;obtain⟨xs,hq,hx⟩:=hg;obtain⟨its,rv,p,hz⟩:=I.tuple hq;obtain⟨f0,f1,f2,f3,f4,f5⟩:=hf it (by simp);have hl:=rv.length;exact wpAny_pyNext_tuple_end (I.ok.hd hc) st (show s.heap.IsTuple a its.toArray from p) (by simp;omega) fun h' eb=>⟨rfl,I.turned (t':=s.toks) (fun b o hb e=>eb b o hb e) f0 f1 f3 f4 f5⟩
 self:=fun _ _ _ _ _ st h=>wpAny_pyIter_tupleiter st h
theorem uT{P:Program}{w:World}{K:PySem.W.Frag}{tg:Expr}(it:Addr)(lo:Int)(n:Nat):Turn P w K tg (Itr lo n) [it] it (fun i h=>IsRangeIter h it (lo+(i:Nat)*1) ((n:Int)-(i:Nat)) 1) where
 mem:=by simp
 obj:=fun i h st b hb=>by
  have e:b=it:=by simpa using hb
  subst e;exact ⟨_,st,fun v z=>by have z':Data.fields _=Data.cell v:=z;cases z'⟩
 keep:=fun i h h' st k=>k it (by simp) _ st
 item:=by
  intro X hP hw hK hc i pins s σ H E I hf st hg;subst hP hw hK;obtain⟨f0,f1,f2,f3,f4,f5⟩:=hf it (by simp);have W:=Walks.range (prog:=X.prog) (w:=X.w) (I.ok.hd hc) it lo 1 n;refine W.item i s _ _ hg st fun v h' tk hv st' kk=>?_
  obtain⟨t,rfl⟩:=hv;have I1:Inv X pins σ H { s with heap:=h',toks:=tk }:=I.turned (fun b o hb e=>kk b o (by simpa using hb) e) f0 f1 f3 f4 f5;refine⟨_,rfl,rD (s:={ s with heap:=h',toks:=tk }) (n := "range_iterator") st' rfl rfl (by decide) ⟨.int (lo+i),H,I1,⟨t,?_⟩,⟨rfl,rfl⟩,st',fun b hb=>(hf b hb).1⟩⟩;rw[Int.mul_one]
 done:=by intro X hP hw hK hc i pins s σ H E I hf st hg;subst hP hw hK;obtain⟨f0,f1,f2,f3,f4,f5⟩:=hf it (by simp);exact wpAny_pyNext_range_end (I.ok.hd hc) st (by have:n<=i:=hg;omega) fun h' eb=>⟨rfl,I.turned (t':=s.toks) (fun b o hb e=>eb b o hb e) f0 f1 f3 f4 f5⟩
 self:=fun _ _ _ _ _ st h=>wpAny_pyIter_rangeiter st h
section
variable{X:Cx}{tg:Expr}
noncomputable def rE(K:PySem.W.Frag)(tl:TE):TI:=fun σ H R=>tl σ H fun x H1=>∃a,x=.ref a/\(∃xs,SqL K H1 a xs)/\R (Itl K a) H1
noncomputable def Aj(K:PySem.W.Frag)(tl:TE):TI:=fun σ H R=>tl σ H fun x H1=>∃a,x=.ref a/\(∃xs,SqT K H1 a xs)/\R (Itt K a) H1
theorem wK{l:Expr}{tl:TE}(hl:PE X l tl):PI X tg l (rE X.K tl):=by
 intro pins s σ H R I h;refine thn (hl pins s σ H _ I h) fun v s1 ⟨x,H1,I1,r1,q1⟩=>?_
 obtain⟨a,e,⟨xs,hq⟩,q⟩:=q1;subst e;cases r1;obtain⟨its,rv,p,hz⟩:=I1.list hq;refine wpAny_pyIter_list p.isList ?_;refine⟨s1.heap.objs.size,[s1.heap.objs.size],_,_,H1,rfl,I1.kept (t':=s1.toks) fun b o e=>Heap.get?_push_of_some _ e,yM a _,⟨_,Heap.get?_push_size _ rfl,rfl,rfl⟩,fun b hb=>?_,q⟩;have e:b=s1.heap.objs.size:=by simpa using hb
 subst e;exact I1.uR (Nat.le_refl _) (I1.hok.fresh (Nat.le_refl _))
theorem Ak{l:Expr}{tl:TE}(hl:PE X l tl):PI X tg l (Aj X.K tl):=by
 intro pins s σ H R I h;refine thn (hl pins s σ H _ I h) fun v s1 ⟨x,H1,I1,r1,q1⟩=>?_
 obtain⟨a,e,⟨xs,hq⟩,q⟩:=q1;subst e;cases r1;obtain⟨its,rv,p,hz⟩:=I1.tuple hq;refine wpAny_pyIter_tuple (show s1.heap.IsTuple a its.toArray from p) ?_;refine⟨s1.heap.objs.size,[s1.heap.objs.size],_,_,H1,rfl,I1.kept (t':=s1.toks) fun b o e=>Heap.get?_push_of_some _ e,uS a _,⟨_,Heap.get?_push_size _ rfl,rfl,rfl⟩,fun b hb=>?_,q⟩;have e:b=s1.heap.objs.size:=by simpa using hb
 subst e;exact I1.uR (Nat.le_refl _) (I1.hok.fresh (Nat.le_refl _))
theorem rF{pins:List (Addr×Obj)}{σ:St}{H:Hp}{s:Shared}{R:It->Hp->Prop}{E:Value->Shared->Prop}{lo hi:Int}{t u v:Tok}{tk:Nat}(I:Inv X pins σ H s)(h1:-(2 ^ 62)<=lo)(h2:lo<2 ^ 62)(h3:-(2 ^ 62)<=hi)(h4:hi<2 ^ 62)
  (q:R (Itr lo (hi-lo).toNat) H):wpAny (model X.prog X.w) X.A (pyIter (.ref s.heap.objs.size)) (PIE X pins σ tg R) E { s with heap:=s.heap.push { cls:=.type "range",data:=.fields #[.int lo t,.int hi u,.int 1 v] },toks:=tk }:=by
 refine wpAny_pyIter_range (IsRange.new ..) (small_one h1 h2 h3 h4) ?_;have I1:Inv X pins σ H { s with heap:=s.heap.push { cls:=.type "range",data:=.fields #[.int lo t,.int hi u,.int 1 v] },toks:=tk }:=I.kept fun b o e=>Heap.get?_push_of_some _ e
 refine ⟨(s.heap.push { cls:=.type "range",data:=.fields #[.int lo t,.int hi u,.int 1 v] }).objs.size,[(s.heap.push { cls:=.type "range",data:=.fields #[.int lo t,.int hi u,.int 1 v] }).objs.size],_,_,H,rfl,
  I1.kept (t':=tk) fun b o e=>Heap.get?_push_of_some _ e,uT _ lo (hi-lo).toNat,?_,fun b hb=>?_,q⟩
 ·have e1:lo+((0:Nat):Int)*1=lo:=by simp
  have e2:(((hi-lo).toNat:Nat):Int)-((0:Nat):Int)=Builtin.Range.rangeSize lo hi 1:=by rw[rangeSize_one];split<;>omega
  show IsRangeIter _ _ (lo+((0:Nat):Int)*1) ((((hi-lo).toNat:Nat):Int)-((0:Nat):Int)) 1;rw[e1,e2];exact Heap.get?_push_size _ rfl
 ·have e:b=(s.heap.push { cls:=.type "range",data:=.fields #[.int lo t,.int hi u,.int 1 v] }).objs.size:=by simpa using hb
  subst e;exact I1.uR (Nat.le_refl _) (I1.hok.fresh (Nat.le_refl _))
noncomputable def GN(ta:TA):TI:=fun σ H R=>ta σ H fun vs H1=>∃j:Int,vs=[.int j]/\-(2 ^ 62)<=j/\j<2 ^ 62/\R (Itr 0 j.toNat) H1
noncomputable def GO(ta:TA):TI:=fun σ H R=>ta σ H fun vs H1=>∃i j:Int,vs=[.int i,.int j]/\(-(2 ^ 62)<=i/\i<2 ^ 62/\-(2 ^ 62)<=j/\j<2 ^ 62)/\R (Itr i (j-i).toNat) H1
theorem yN{a:Expr}{ta:TA}{p pos:Pos}(hg:Gl X "range")(hm:X.mg "range" = none)(ha:PA X [a] ta)(hs:starEach [a] X.env=[(false,eval a X.env)]:=by rfl):PI X tg (.Call (.Name "range" p) [a] [] pos) (GN ta):=by
 intro pins s σ H R I h;refine Call_ (cS I hg hm boot_range (PyProof.Rows.callWith_type1 (thn (ha pos pins s σ H _ I h) fun us s1 ⟨vs,H1,I1,r1,q1⟩=>?_) hs rfl));obtain⟨j,e,q1,q2,q⟩:=q1;subst e;cases r1 with
 |cons r rr=>cases rr;obtain⟨t,rfl⟩:=r;exact call_range_1 (rF I1 (by omega) (by omega) q1 q2 (by simpa using q))
theorem yO{a b:Expr}{ta:TA}{p pos:Pos}(hg:Gl X "range")(hm:X.mg "range" = none)(ha:PA X [a,b] ta)(hs:starEach [a,b] X.env=[(false,eval a X.env),(false,eval b X.env)]:=by rfl)(hs2:starEach [b] X.env=[(false,eval b X.env)]:=by rfl) :
  PI X tg (.Call (.Name "range" p) [a,b] [] pos) (GO ta):=by
 intro pins s σ H R I h;refine Call_ (cS I hg hm boot_range (PyProof.Rows.callWith_type1 (thn (ha pos pins s σ H _ I h) fun us s1 ⟨vs,H1,I1,r1,q1⟩=>?_) (by rw[hs,hs2]) (by rw[hs2];rfl)));obtain⟨i,j,e,⟨q1,q2,q3,q4⟩,q⟩:=q1;subst e;cases r1 with
 |cons r rr=>
  cases rr with
  |cons r' rr=>cases rr;obtain⟨t,rfl⟩:=r;obtain⟨t',rfl⟩:=r';exact call_range_2 (rF I1 q1 q2 q3 q4 q)
noncomputable def IM(wi:TI)(g:TG)(tb:TS):TS:=fun D σ H=>wi σ H fun J H1=>∃W:Nat->Nat->St->Hp->Prop,(∃m,W 0 m σ H1)/\∀i m σ H,W i m σ H ->
 (J.stop i H/\D.nx σ H)\/(J.go i H/\∃N:St->Hp->Prop,(∀σ' H',N σ' H'->∃m',m'<m/\W (i+1) m' σ' H')/\∀x H',J.yld i H x H'->g x σ H' fun σ2 H2=>tb { D with nx:=N,ct:=N,bk:=D.nx } σ2 H2)
noncomputable def lq(fp:List Addr)(h:Heap):List (Addr×Obj):=fp.filterMap fun b=>(h.get? b).map fun o=>(b,o)
theorem dZ{fp:List Addr}{h:Heap}{b:Addr}{o:Obj}(hb:b∈fp)(e:h.get? b=some o):(b,o)∈lq fp h:=List.mem_filterMap.mpr ⟨b,hb,by rw[e];rfl⟩
theorem yP{fp:List Addr}{h:Heap}{p:Addr×Obj}(hp:p∈lq fp h):p.1∈fp/\h.get? p.1=some p.2:=by
 obtain⟨b,hb,e⟩:=List.mem_filterMap.mp hp;cases q:h.get? b with
 |none=>rw[q]at e;cases e
 |some o=>rw[q]at e;have e':(b,o)=p:=Option.some.inj e;subst e';exact⟨hb,q⟩
theorem Inv.pinned{pins:List (Addr×Obj)}{σ:St}{H:Hp}{s:Shared}{fp:List Addr}(I:Inv X pins σ H s)(hf:∀b∈fp,oz X pins H b)(ho:∀b∈fp,∃o,s.heap.get? b=some o/\∀v,o.data≠.cell v):Inv X (pins++lq fp s.heap) σ H s:=
 I.wG fun p hp=>(List.mem_append.mp hp).elim (fun z=>I.pin p (List.mem_append_right _ z)) fun z=>by obtain⟨hb,e⟩:=yP z;obtain⟨f0,f1,f2,_⟩:=hf p.1 hb;obtain⟨o,e',d⟩:=ho p.1 hb;rw[e]at e';cases e';exact⟨e,f0,f1,f2,d⟩
theorem Inv.iV{pins pl:List (Addr×Obj)}{σ:St}{H:Hp}{s:Shared}(I:Inv X (pins++pl) σ H s):Inv X pins σ H s:=I.wG fun p hp=>I.pin p (List.mem_append_right _ (List.mem_append_left _ hp))
theorem Al{iter:Expr}{body:List Stmt}{wi:TI}{g:TG}{tb:TS}{pos:Pos}(hp:PassesOwn (model X.prog X.w) X.A X.env X.xe)(hc:X.calm=true)(hi:PI X tg iter wi)(hg:PG X tg g)(hb:PSs X body tb)
  (hs:∀x,foldedSetIterable iter X.env x=pure x:=by intro _;rfl):PS X (.For tg iter body [] pos) (IM wi g tb):=by
 intro pins s σ H D I h;refine wpAny_For (thn (hi pins s σ H _ I h) fun v s1 h1=>thn h1 fun itv s2 h2=>?_) hs;obtain⟨it,fp,tn,J,H2,e,I2,T,st2,f2,W,⟨m0,w0⟩,turn⟩:=h2;subst e;have stat:∀{H':Hp},(∀b∈fp,H' b=none)->∀b∈fp,oz X pins H' b:=fun hn b hb=>⟨hn b hb,(f2 b hb).2⟩
 refine codeAny_forLoop_any (fun n s'=>∃i σ' H',Inv X pins σ' H' s'/\tn i s'.heap/\(∀b∈fp,H' b=none)/\W i n σ' H') ?_ m0 ⟨0,σ,H2,I2,st2,fun b hb=>(f2 b hb).1,w0⟩;rintro n s3 ⟨i,σ3,H3,I3,st3,fr3,w3⟩;rcases turn i n σ3 H3 w3 with⟨stop,qn⟩ | ⟨go,N,hN,step⟩
 ·refine wpAny_passesOwn hp (thn (T.done X rfl rfl rfl hc i pins s3 σ3 H3 X.xe I3 (stat fr3) st3 stop) fun r s4 ⟨hr,I4⟩=>?_)
  subst hr;exact wpAny_execs_nil ⟨σ3,H3,I4,qn⟩
 ·refine wpAny_passesOwn hp (thn (T.item X rfl rfl rfl hc i pins s3 σ3 H3 X.xe I3 (stat fr3) st3 go) fun r s4 ⟨u,hr,h4⟩=>?_)
  subst hr;refine wpAny_passesOwn hp (thn h4 fun _ s5 ⟨x,H5,I5,r5,y5,st5,fr5⟩=>?_);have I5':=I5.pinned (stat fr5) (T.obj _ _ st5);refine wpAny_passesOwn hp (thn (hg _ s5 σ3 H5 x u _ I5' r5 (step x H5 y5)) fun _ s6 ⟨σ6,H6,I6,q6⟩=>?_);refine wpAny_passesOwn hp (thn (hb _ s6 σ6 H6 _ I6 q6) fun f s7 q7=>?_);have again:∀{σ7:St} {H7:Hp},Inv X (pins++lq fp s5.heap) σ7 H7 s7->N σ7 H7->∃m,m<n/\∃i σ' H',Inv X pins σ' H' s7/\tn i s7.heap/\(∀b∈fp,H' b=none)/\W i m σ' H':=fun {σ7 H7} I7 n7=>by obtain⟨m',hm,w7⟩:=hN σ7 H7 n7;refine⟨m',hm,i+1,σ7,H7,I7.iV,T.keep _ _ _ st5 fun b hb o e=>(I7.pin (b,o) (List.mem_append_right _ (List.mem_append_right _ (dZ hb e)))).1,fun b hb=>?_,w7⟩;obtain⟨o,e,d⟩:=T.obj _ _ st5 b hb;exact(I7.pin (b,o) (List.mem_append_right _ (List.mem_append_right _ (dZ hb e)))).2.1
  cases f with
  |next=>obtain⟨σ7,H7,I7,n7⟩:=q7;exact again I7 n7
  |cont=>obtain⟨σ7,H7,I7,n7⟩:=q7;exact again I7 n7
  |brk=>obtain⟨σ7,H7,I7,q7⟩:=q7;exact⟨σ7,H7,I7.iV,q7⟩
  |ret v=>obtain⟨x7,σ7,H7,I7,r7,q7⟩:=q7;exact⟨x7,σ7,H7,I7.iV,r7,q7⟩
end
noncomputable abbrev R2:=V->V->Hp->VK->Prop
noncomputable def OpR(X:Cx)(f:Value->Value->Sem Value)(r:R2):Prop:=
 ∀(pins:List (Addr×Obj)) (s:Shared) (σ:St) (H:Hp) (x y:V) (v u:Value) (Q:VK),Inv X pins σ H s->RelV x v->RelV y u->r x y H Q ->
  wpAny (model X.prog X.w) X.A (f v u) (EP X pins σ Q) X.xe s
noncomputable def UnR(X:Cx)(f:Value->Sem Value)(r:V->Hp->VK->Prop):Prop:=
 ∀(pins:List (Addr×Obj)) (s:Shared) (σ:St) (H:Hp) (x:V) (v:Value) (Q:VK),Inv X pins σ H s->RelV x v->r x H Q ->
  wpAny (model X.prog X.w) X.A (f v) (EP X pins σ Q) X.xe s
noncomputable def cN(X:Cx)(f:Value)(r:List V->Hp->VK->Prop):Prop:=
 ∀(pins:List (Addr×Obj)) (s:Shared) (σ:St) (H:Hp) (xs:List V) (us:List Value) (Q:VK),Inv X pins σ H s->Vals xs us->r xs H Q ->
  wpAny (model X.prog X.w) X.A (call f us) (EP X pins σ Q) X.xe s
noncomputable def OD(X:Cx)(r:V->Hp->(Bool->Hp->Prop)->Prop):Prop:=
 ∀(pins:List (Addr×Obj)) (s:Shared) (σ:St) (H:Hp) (x:V) (v:Value) (Q:Bool->Hp->Prop),Inv X pins σ H s->RelV x v->r x H Q ->
  wpAny (model X.prog X.w) X.A (truthy v) (TP X pins σ Q) X.xe s
noncomputable def tOp(r:R2)(ta tb:TE):TE:=fun σ H Q=>ta σ H fun x H1=>tb σ H1 fun y H2=>r x y H2 Q
noncomputable def tUn(r:V->Hp->VK->Prop)(ta:TE):TE:=fun σ H Q=>ta σ H fun x H1=>r x H1 Q
noncomputable def rI(C:Int->Int->Prop)(g:Int->Int->V):R2:=fun x y H Q=>∃i j,x=.int i/\y=.int j/\C i j/\Q (g i j) H
noncomputable def rI0(g:Int->Int->V):R2:=fun x y H Q=>∃i j,x=.int i/\y=.int j/\Q (g i j) H
noncomputable def rU(g:Int->V):V->Hp->VK->Prop:=fun x H Q=>∃i,x=.int i/\Q (g i) H
section
variable{X:Cx}{a b c:Expr}{ta tb tc:TE}{pos:Pos}
theorem IP(ha:PE X a ta)(hb:PE X b tb){pins:List (Addr×Obj)}{s:Shared}{σ:St}{H:Hp}{R:V->V->Hp->Prop}(I:Inv X pins σ H s)
  (h:ta σ H fun x H1=>tb σ H1 fun y H2=>R x y H2) {Q:Value->Shared->Prop} {f:Value->Value->Sem Value}
  (hf:∀v u s2 x y H2,Inv X pins σ H2 s2->RelV x v->RelV y u->R x y H2->wpAny (model X.prog X.w) X.A (f v u) Q X.xe s2) :
  wpAny (model X.prog X.w) X.A (eval a X.env) (fun v s₁=>wpAny (model X.prog X.w) X.A (eval b X.env) (fun u s₂=>wpAny (model X.prog X.w) X.A (f v u) Q X.xe s₂) X.xe s₁) X.xe s:=by
 refine thn (ha pins s σ H _ I h) fun v s1 ⟨x,H1,I1,r1,q1⟩=>?_
 refine thn (hb pins s1 σ H1 _ I1 q1) fun u s2 ⟨y,H2,I2,r2,q2⟩=>?_
 exact hf v u s2 x y H2 I2 r1 r2 q2
theorem LP{op:Operator}{r:R2}(ho:OpR X (binaryOp op) r)(ha:PE X a ta)(hb:PE X b tb):PE X (.BinOp a op b pos) (tOp r ta tb):=by intro pins s σ H Q I h;exact wpAny_BinOp (IP ha hb I h fun v u s2 x y H2 I2 rx ry q=>ho pins s2 σ H2 x y v u Q I2 rx ry q)
theorem LQ{op:UnaryOp}{r:V->Hp->VK->Prop}(ho:UnR X (unaryOp op) r)(ha:PE X a ta):PE X (.UnaryOp op a pos) (tUn r ta):=by intro pins s σ H Q I h;exact UnaryOp_ (thn (ha pins s σ H _ I h) fun v s1 ⟨x,H1,I1,r1,q1⟩=>ho pins s1 σ H1 x v Q I1 r1 q1)
theorem opI{f:Value->Value->Sem Value}{C:Int->Int->Prop}{g:Int->Int->Int}
  (rule:∀(i j:Int) (t u:Tok) (s:Shared) (Q:Value->Shared->Prop) (E:Value->Shared->Prop),C i j->Q (.int (g i j) s.toks) { s with toks:=s.toks+1 }->wpAny (model X.prog X.w) X.A (f (.int i t) (.int j u)) Q E s) :
  OpR X f (rI C fun i j=>.int (g i j)):=by
 intro pins s σ H x y v u Q I rx ry h;obtain⟨i,j,rfl,rfl,hc,q⟩:=h;obtain⟨t,rfl⟩:=rx;obtain⟨t',rfl⟩:=ry;exact rule i j t t' s _ _ hc ⟨.int (g i j),H,I.tok _,⟨_,rfl⟩,q⟩
theorem LR{f:Value->Value->Sem Value}{g:Int->Int->Int}
  (rule:∀(i j:Int) (t u:Tok) (s:Shared) (Q:Value->Shared->Prop) (E:Value->Shared->Prop),Q (.int (g i j) s.toks) { s with toks:=s.toks+1 }->wpAny (model X.prog X.w) X.A (f (.int i t) (.int j u)) Q E s) :
  OpR X f (rI0 fun i j=>.int (g i j)):=by
 intro pins s σ H x y v u Q I rx ry h;obtain⟨i,j,rfl,rfl,q⟩:=h;obtain⟨t,rfl⟩:=rx;obtain⟨t',rfl⟩:=ry;exact rule i j t t' s _ _ ⟨.int (g i j),H,I.tok _,⟨_,rfl⟩,q⟩
theorem Em{f:Value->Value->Sem Value}{g:Int->Int->Bool}
  (rule:∀(i j:Int) (t u:Tok) (s:Shared) (Q:Value->Shared->Prop) (E:Value->Shared->Prop),Q (.bool (g i j)) s->wpAny (model X.prog X.w) X.A (f (.int i t) (.int j u)) Q E s) :
  OpR X f (rI0 fun i j=>.bl (g i j)):=by
 intro pins s σ H x y v u Q I rx ry h;obtain⟨i,j,rfl,rfl,q⟩:=h;obtain⟨t,rfl⟩:=rx;obtain⟨t',rfl⟩:=ry;exact rule i j t t' s _ _ ⟨.bl (g i j),H,I,rfl,q⟩
noncomputable def LS(i j:Int):Prop:=0<=j/\j<=1000000/\i.natAbs<2 ^ 64
noncomputable def Am(i j:Int):Prop:=(-(2 ^ 64)<i/\i<2 ^ 64)\/(-(2 ^ 64)<j/\j<2 ^ 64)
theorem Am.ok{i j:Int}(h:Am i j):IntMulOk i j:=by
 rcases h with⟨h1,h2⟩ | ⟨h1,h2⟩
 ·exact .of_left (intBits_le_64 h1 h2)
 ·exact .of_right (intBits_le_64 h1 h2)
theorem IQ:OpR X (binaryOp .Add) (rI0 fun i j=>.int (i+j)):=LR fun _ _ _ _ _ _ _ q=>add_int q
theorem IS:OpR X (binaryOp .Sub) (rI0 fun i j=>.int (i-j)):=LR fun _ _ _ _ _ _ _ q=>sub_int q
theorem IT:OpR X (binaryOp .Mult) (rI Am fun i j=>.int (i*j)):=opI fun _ _ _ _ _ _ _ hc q=>mul_int q hc.ok
theorem IU:OpR X (binaryOp .Mod) (rI (fun _ j=>0<j) fun i j=>.int (i % j)):=opI fun i j _ _ _ _ _ hc q=>by have h1:(0:Int)<j:=hc;exact mod_int' (by omega) (by rw[Int.fmod_eq_emod_of_nonneg i (by omega)];exact q)
theorem IV:OpR X (binaryOp .Pow) (rI LS fun i j=>.int (i ^ j.toNat)):=opI fun _ _ _ _ _ _ _ hc q=>pow_int_small hc.1 hc.2.1 hc.2.2 q
theorem unI{f:Value->Sem Value}{g:Int->Int}
  (rule:∀(i:Int) (t:Tok) (s:Shared) (Q:Value->Shared->Prop) (E:Value->Shared->Prop),Q (.int (g i) s.toks) { s with toks:=s.toks+1 }->wpAny (model X.prog X.w) X.A (f (.int i t)) Q E s) :
  UnR X f (rU fun i=>.int (g i)):=by
 intro pins s σ H x v Q I rx h;obtain⟨i,rfl,q⟩:=h;obtain⟨t,rfl⟩:=rx;exact rule i t s _ _ ⟨.int (g i),H,I.tok _,⟨_,rfl⟩,q⟩
theorem IW:UnR X (unaryOp .USub) (rU fun i=>.int (-i)):=unI fun _ _ _ _ _ q=>neg_int q
end
section
variable{X:Cx}{a b c:Expr}{ta tb tc:TE}{pos:Pos}
theorem wL:OpR X (compareOp .Lt) (rI0 fun i j=>.bl (decide (i<j))):=Em fun _ _ _ _ _ _ _ q=>lt_int q
theorem wM:OpR X (compareOp .LtE) (rI0 fun i j=>.bl (decide (i<=j))):=Em fun _ _ _ _ _ _ _ q=>le_int q
theorem GP:OpR X (compareOp .Gt) (rI0 fun i j=>.bl (decide (j<i))):=Em fun _ _ _ _ _ _ _ q=>gt_int q
theorem LU:OpR X (compareOp .GtE) (rI0 fun i j=>.bl (decide (j<=i))):=Em fun _ _ _ _ _ _ _ q=>ge_int q
theorem OpR.or{f:Value->Value->Sem Value}{r r':R2}(h:OpR X f r)(h':OpR X f r'):OpR X f (fun x y H Q=>r x y H Q\/r' x y H Q):=by
 intro pins s σ H x y v u Q I rx ry q;rcases q with q | q
 ·exact h pins s σ H x y v u Q I rx ry q
 ·exact h' pins s σ H x y v u Q I rx ry q
theorem cz(b:Expr){op:CmpOp}(h:op≠.In:=by decide)(h2:op≠.NotIn:=by decide):behindInMarks op b=false:=by
 have e1:(op == CmpOp.In)=false:=by cases op<;>first | rfl | exact absurd rfl h
 have e2:(op == CmpOp.NotIn)=false:=by cases op<;>first | rfl | exact absurd rfl h2
 cases b<;>simp[behindInMarks,e1,e2]
theorem Eo{op:CmpOp}{r:R2}(ho:OpR X (compareOp op) r)(ha:PE X a ta)(hb:PE X b tb)(hm:behindInMarks op b=false):PE X (.Compare a [op] [b] pos) (tOp r ta tb):=by intro pins s σ H Q I h;exact wpAny_Compare1 (IP ha hb I h fun v u s2 x y H2 I2 rx ry q=>ho pins s2 σ H2 x y v u Q I2 rx ry q) hm
noncomputable def GQ(t:TE):TT:=fun σ H Q=>t σ H fun x H'=>∃k,x=.bl k/\Q k H'
theorem Ep{op:CmpOp}{r:R2}(ho:OpR X (compareOp op) r)(ha:PE X a ta)(hb:PE X b tb)(hm:behindInMarks op b=false):PT X (.Compare a [op] [b] pos) (GQ (tOp r ta tb)):=by
 intro pins s σ H Q I h;refine wpAny_isTrue_Compare1 (thn (ha pins s σ H _ I h) fun v s1 ⟨x,H1,I1,r1,q1⟩=>thn (hb pins s1 σ H1 _ I1 q1) fun u s2 ⟨y,H2,I2,r2,q2⟩=>thn (ho pins s2 σ H2 x y v u _ I2 r1 r2 q2) fun c s3 ⟨z,H3,I3,r3,k,e,q3⟩=>?_) hm
 subst e;cases r3;exact wpAny_truthy_bool ⟨H3,I3,q3⟩
noncomputable def An(r r':R2)(ta tb tc:TE):TE:=fun σ H Q=>ta σ H fun x H1=>tb σ H1 fun y H2=>r x y H2 fun z H3=>∃k,z=.bl k /\
 (if k=true then tc σ H3 fun w' H4=>r' y w' H4 Q else Q (.bl false) H3)
theorem Ao{op op':CmpOp}{r r':R2}(ho:OpR X (compareOp op) r)(ho':OpR X (compareOp op') r')(ha:PE X a ta)(hb:PE X b tb)(hc:PE X c tc)
  (hm:lastMarks [op,op'] [b,c]=false:=by with_unfolding_all rfl):PE X (.Compare a [op,op'] [b,c] pos) (An r r' ta tb tc):=by
 intro pins s σ H Q I h;refine Compare_chain (thn (ha pins s σ H _ I h) fun v s1 ⟨x,H1,I1,r1,q1⟩=>chain_link (thn (hb pins s1 σ H1 _ I1 q1) fun u s2 ⟨y,H2,I2,r2,q2⟩=>thn (ho pins s2 σ H2 x y v u _ I2 r1 r2 q2) fun d s3 ⟨z,H3,I3,r3,k,e,q3⟩=>?_)) hm
 subst e;cases r3;refine wpAny_truthy_bool ?_;cases k with
 |false=>exact ite_ff ⟨.bl false,H3,I3,rfl,q3⟩
 |true=>exact ite_tt (chain_last (thn (hc pins s3 σ H3 _ I3 q3) fun w' s4 ⟨z',H4,I4,r4,q4⟩=>ho' pins s4 σ H4 y z' u w' Q I4 r2 r4 q4))
noncomputable def IX(K:PySem.W.Frag)(x:V)(H:Hp)(k:Bool):Prop:=
 match x with
 |.non=>k=false
 |.bl b=>k=b
 |.int i=>k=(i != 0)
 |.str y=>y.length<=sizeLine/\k=((y.length:Int) != 0)
 |.byt y=>y.size<=sizeLine/\k=((y.size:Int) != 0)
 |.ref p=>(∃xs,SqL K H p xs/\k=!xs.isEmpty)\/(∃xs,SqT K H p xs/\k=!xs.isEmpty)\/∃kvs,H p=some (.dK kvs)/\k=!kvs.isEmpty
 |_=>False
theorem uU{κ:Type}{kvs:List (κ×V)}{vs:List (κ×Value)}(r:KV kvs vs):(!vs.isEmpty)=!kvs.isEmpty:=by cases r<;>rfl
theorem lu{xs:List V}{its:List Value}(r:Vals xs its):(!its.toArray.isEmpty)=!xs.isEmpty:=by cases r<;>simp
theorem ly:(sizeLine:Nat)<2 ^ 63:=by rw[sizeLine_eq];decide
theorem IY:OD X (fun x H Q=>∃k,IX X.K x H k/\Q k H):=by
 intro pins s σ H x v Q I rx h;obtain⟨k,e,q⟩:=h;have hl:=ly;have hs:sizeLine=16777216:=sizeLine_eq;cases x with
 |non=>cases rx;have e':k=false:=e;subst e';exact truthy_none ⟨H,I,q⟩
 |bl b=>cases rx;have e':k=b:=e;subst e';exact wpAny_truthy_bool ⟨H,I,q⟩
 |int i=>obtain⟨t,rfl⟩:=rx;have e':k=(i != 0):=e;subst e';exact PySem.P.truthy_int ⟨H,I,q⟩
 |str y=>obtain⟨t,rfl⟩:=rx;obtain⟨hy,e'⟩:y.length<=sizeLine/\k=((y.length:Int) != 0):=e;subst e';exact PySem.P.truthy_str (by omega) ⟨H,I.tok _,q⟩
 |byt y=>obtain⟨t,rfl⟩:=rx;obtain⟨hy,e'⟩:y.size<=sizeLine/\k=((y.size:Int) != 0):=e;subst e';exact PySem.W.truthy_bytes (by omega) ⟨H,I.tok _,q⟩
 |ref p=>
  cases rx;have e':(∃xs,SqL X.K H p xs/\k=!xs.isEmpty)\/(∃xs,SqT X.K H p xs/\k=!xs.isEmpty)\/∃kvs,H p=some (.dK kvs)/\k=!kvs.isEmpty:=e;rcases e' with⟨xs,hx,e'⟩ | ⟨xs,hx,e'⟩ | ⟨kvs,hx,e'⟩
  ·subst e'
   obtain⟨its,r,pl,hz⟩:=I.list hx;have hlen:=r.length;exact wpAny_truthy_list pl.isList (by simp only[List.size_toArray];omega) ⟨H,I.tok _,by rw[lu r];exact q⟩
  ·subst e'
   obtain⟨its,r,pl,hz⟩:=I.tuple hx;have hlen:=r.length;exact truthy_tuple pl (by simp only[List.size_toArray];omega) ⟨H,I.tok _,by rw[lu r];exact q⟩
  ·subst e'
   obtain⟨hz,hS,vs,r,m⟩:kvs.length<=sizeLine/\(p == sysModules)=false/\∃vs,KV kvs vs/\s.heap.DictOf (aS X.prog X.w) p vs:=I.hok p _ hx;have hlen:kvs.length=vs.length:=Paired.length r;exact wpAny_truthy_dict hS m (by omega) ⟨H,I.tok _,by rw[uU r];exact q⟩
 |_=>exact(show False from e).elim
theorem Aq(ha:PE X a ta)(he:∀whole,isTrue a X.env whole=(do let v <- whole;standAt a.pos;holding [v] (truthy v))) :
  PT X a (fun σ H Q=>ta σ H fun x H'=>∃k,IX X.K x H' k/\Q k H'):=by
 intro pins s σ H Q I h;exact isTrue_plain (thn (ha pins s σ H _ I h) fun v s1 ⟨x,H1,I1,r1,q1⟩=>IY pins s1 σ H1 x v Q I1 r1 q1) (he _)
theorem vals1{x:V}{us:List Value}(r:Vals [x] us):∃u,us=[u]/\RelV x u:=by
 cases r with
 |cons r1 r2=>cases r2;exact⟨_,rfl,r1⟩
theorem vals2{x y:V}{us:List Value}(r:Vals [x,y] us):∃u w',us=[u,w']/\RelV x u/\RelV y w':=by
 cases r with
 |cons r1 r2=>
  cases r2 with
  |cons r3 r4=>cases r4;exact⟨_,_,rfl,r1,r3⟩
theorem yQ(hc:X.calm=true):cN X (.builtin "max") (fun xs H Q=>∃i j,xs=[.int i,.int j]/\Q (.int (if j>i then j else i)) H):=by
 intro pins s σ H xs us Q I r h;obtain⟨i,j,rfl,q⟩:=h;obtain⟨u,w',rfl,⟨t,rfl⟩,⟨t',rfl⟩⟩:=vals2 r;refine max_two_ints (I.ok.hd hc) fun h' tk k=>⟨_,H,I.kept k,?_,q⟩
 by_cases hj:j>i
 ·rw[if_pos hj,if_pos hj];exact⟨_,rfl⟩
 ·rw[if_neg hj,if_neg hj];exact⟨_,rfl⟩
theorem yR(hc:X.calm=true):cN X (.builtin "min") (fun xs H Q=>∃i j,xs=[.int i,.int j]/\Q (.int (if j<i then j else i)) H):=by
 intro pins s σ H xs us Q I r h;obtain⟨i,j,rfl,q⟩:=h;obtain⟨u,w',rfl,⟨t,rfl⟩,⟨t',rfl⟩⟩:=vals2 r;refine min_two_ints (I.ok.hd hc) fun h' tk k=>⟨_,H,I.kept k,?_,q⟩
 by_cases hj:j<i
 ·rw[if_pos hj,if_pos hj];exact⟨_,rfl⟩
 ·rw[if_neg hj,if_neg hj];exact⟨_,rfl⟩
theorem yS:cN X (.type "int") (fun xs H Q=>(∃i,xs=[.int i]/\Q (.int i) H)\/∃k,xs=[.bl k]/\Q (.int (if k then 1 else 0)) H):=by
 intro pins s σ H xs us Q I r h;rcases h with⟨i,rfl,q⟩ | ⟨k,rfl,q⟩
 ·obtain⟨u,rfl,t,rfl⟩:=vals1 r
  exact call_int_int ⟨.int i,H,I,⟨_,rfl⟩,q⟩
 ·obtain⟨u,rfl,r1⟩:=vals1 r
  cases r1;exact call_int_bool ⟨.int (if k then 1 else 0),H,I.tok _,⟨_,rfl⟩,q⟩
end
structure IZ(h:Heap)(x dx C:Addr)(mA:Str->Option Value):Prop where
 obj:h.get? x=some (PySem.W.instObj C dx)
 ns:h.Ns1 dx mA
 ne:dx≠x
theorem yT{h:Heap}{dx:Addr}{mA:Str->Option Value}(n:h.Ns1 dx mA):∃od,h.get? dx=some od/\∀name,PySem.W.lookIn name od=some (mA name):=by
 obtain⟨o,es,ep,ho,hd,hk,_,hm⟩:=n;refine⟨o,ho,fun name=>?_⟩;have e:=hm name;unfold nsFind findBy at e;rw[<- Array.find?_toList]at e;unfold PySem.W.lookIn;rw[hd];dsimp only;split
 ·rename_i y q
  rw[q]at e;exact congrArg some e
 ·rename_i q
  rw[q]at e;have a:es.toList.any (·.refKey)=false:=by rw[List.any_eq_false];intro y hy;obtain⟨z,t,hkey⟩:=hk y (Array.mem_toList_iff.mp hy);simp[DictEntry.refKey,hkey]
  have a':¬es.toList.any (·.refKey)=true:=by rw[a];exact Bool.false_ne_true
  rw[if_neg a'];exact congrArg some e
theorem IZ.look{h:Heap}{x dx C:Addr}{mA:Str->Option Value}(I:IZ h x dx C mA):∃od,PySem.W.InstAt h x (PySem.W.instObj C dx) C (some od)/\∀name,PySem.W.lookIn name od=some (mA name):=
 let ⟨od,ho,hl⟩:=yT I.ns
 ⟨od,⟨I.obj,rfl,rfl,ho⟩,hl⟩
section
variable{prog:Program}{w:World}{A:Around}{E:Value->Shared->Prop}{s:Shared}{K:PySem.W.Frag}{x dx C f:Addr}{mA:Str->Option Value}{name:Str}{v:Value}
end
theorem iO.some_of{v:V}{o:Option Value}(r:iO (some v) o):∃u,o=some u/\RelV v u:=by
 cases o with
 |none=>exact(show False from r).elim
 |some u=>exact⟨u,rfl,r⟩
section
variable{P:Program}{w:World}{H H':Hp}{h h':Heap}{a C dx:Addr}{fs fs':List (Str×V)}
theorem Er(hok:HOk P w H h)(e:H a=some (.ins C dx fs)):∃mA,IZ h a dx C mA/\(∀f,iO (fs.lookup f) (mA f))/\PySem.Within mA (fs.map (·.1))/\fs.length<=1000/\H dx=some (.own a):=by
 obtain⟨d,z,ne,ob,mA,n,r,q⟩:=(show a_ P w H h a (.ins C dx fs) from hok a _ e)
 exact⟨mA,⟨ob,n,ne⟩,r,q,z,d⟩
end
structure Cls(K:PySem.W.Frag)(C:Addr):Prop where
 pg:PySem.W.plainGet K C Str.empty=true
 hd:PySem.W.hasDictIn K C=true
 po:PySem.W.plainOver K C=true
 sa:PySem.W.findIn K (.ref C) "__setattr__" = some (some (.builtin "object.__setattr__"))
theorem Cls.get{K:PySem.W.Frag}{C:Addr}(c:Cls K C)(f:Str):PySem.W.plainGet K C f=true:=c.pg
section
variable{X:Cx}{pins:List (Addr×Obj)}{σ:St}{H:Hp}{s:Shared}{a C dx:Addr}{fs:List (Str×V)}{f:Str}{v:V}{A:Around}{E:Value->Shared->Prop}
end
section
variable{X:Cx}{o e value:Expr}{f:Str}{pos pos' tpos:Pos}{ta tv:TE}
end
section
variable{X:Cx}{pins:List (Addr×Obj)}{σ:St}{H:Hp}{s:Shared}{A:Around}{E:Value->Shared->Prop}{Q:Value->Shared->Prop}{c:Value}{b:Bool}
inductive iW(K:PySem.W.Frag)(H:Hp):V->Value->Prop where
 |non:iW K H .non (.type "NoneType")
 |bl (x:Bool):iW K H (.bl x) (.type "bool")
 |int (i:Int):iW K H (.int i) (.type "int")
 |str (x:Str):iW K H (.str x) (.type "str")
 |flt (x:UInt64):iW K H (.flt x) (.type "float")
 |lst {a:Addr} {xs:List V} (e:H a=some (.lst xs)):iW K H (.ref a) (.type "list")
 |frz {a:Addr} {o:Obj} {xs:List V} (e:H a=some (.frz o (.lst xs))):iW K H (.ref a) (.type "list")
 |tup {a:Addr} {xs:List V} (e:H a=some (.tup xs)):iW K H (.ref a) (.type "tuple")
 |dK {a:Addr} {kvs:List (Key×V)} (e:H a=some (.dK kvs)):iW K H (.ref a) (.type "dict")
 |dT {a:Addr} {kvs:List (List Key×V)} (e:H a=some (.dT kvs)):iW K H (.ref a) (.type "dict")
 |ins {a C dx:Addr} {fs:List (Str×V)} (e:H a=some (.ins C dx fs)) (cl:Cls K C) (ha:PySem.W.findIn K (.ref C) "__class__" = some (some (.builtin "object.__class__")))
   (hn:PySem.W.specialIn K (.builtin "object.__class__") "__get__" = some (some (.builtin "getset_descriptor.__get__"))) (htk:PySem.W.takesIn K (.builtin "object.__class__")=some true)
   (hm:PySem.W.mroIn K C (.type "object")=some true):iW K H (.ref a) (.ref C)
theorem yU{x:V}{u t:Value}(I:Inv X pins σ H s)(rx:RelV x u)(ty:iW X.K H x t)(e:PySem.W.kitOne X.K t c=some b)(h:∀tk,Q (.bool b) { s with toks:=tk }) :
  wpAny (model X.prog X.w) A (call (.builtin "isinstance") [u,c]) Q E s:=by
 cases ty with
 |non=>cases (show u=Value.none from rx);exact PySem.W.kia_one PySem.W.kitx_none I.kIn True.intro e (fun z=>nomatch z) h
 |bl y=>cases (show u=Value.bool y from rx);exact PySem.W.kia_one PySem.W.kitx_bool I.kIn True.intro e (fun z=>nomatch z) h
 |int i=>obtain⟨t,q⟩:=(show ∃t,u=Value.int i t from rx);cases q;exact PySem.W.kia_one PySem.W.kitx_int I.kIn True.intro e (fun z=>nomatch z) h
 |str y=>obtain⟨t,q⟩:=(show ∃t,u=Value.str y t from rx);cases q;exact PySem.W.kia_one PySem.W.kitx_str I.kIn True.intro e (fun z=>nomatch z) h
 |flt y=>obtain⟨t,q⟩:=(show ∃t,u=Value.float y t from rx);cases q;exact PySem.W.kia_one PySem.W.kitx_float I.kIn True.intro e (fun z=>nomatch z) h
 |@lst a xs ea=>
  cases (show u=Value.ref a from rx);obtain⟨_,_,n,_,h1⟩:=(show a_ X.prog X.w H s.heap a (.lst xs) from I.hok a _ ea)
  exact PySem.W.kia_one PySem.W.kitx_list I.kIn ⟨_,h1,rfl⟩ e (fun z=>nomatch z) h
 |@frz a ob xs ea=>
  cases (show u=Value.ref a from rx);obtain⟨_,_,_,n,_,h1⟩:=(show a_ X.prog X.w H s.heap a (.frz ob (.lst xs)) from I.hok a _ ea)
  exact PySem.W.kia_one PySem.W.kitx_list I.kIn ⟨_,h1,rfl⟩ e (fun z=>nomatch z) h
 |@tup a xs ea=>
  cases (show u=Value.ref a from rx);obtain⟨_,_,_,p⟩:=(show a_ X.prog X.w H s.heap a (.tup xs) from I.hok a _ ea)
  obtain⟨o,h1,h2,_⟩:=p;exact PySem.W.kia_one PySem.W.kitx_tuple I.kIn ⟨o,h1,h2⟩ e (fun z=>nomatch z) h
 |@dK a kvs ea=>
  cases (show u=Value.ref a from rx);obtain⟨_,_,vs,_,p⟩:=(show a_ X.prog X.w H s.heap a (.dK kvs) from I.hok a _ ea)
  obtain⟨o,es,ep,h1,h2,_⟩:=p;exact PySem.W.kia_one PySem.W.kitx_dict I.kIn ⟨o,h1,h2.1⟩ e (fun z=>nomatch z) h
 |@dT a kvs ea=>
  cases (show u=Value.ref a from rx);obtain⟨_,_,xs,_,o,es,ep,h1,h2,_⟩:=(show a_ X.prog X.w H s.heap a (.dT kvs) from I.hok a _ ea)
  exact PySem.W.kia_one PySem.W.kitx_dict I.kIn ⟨o,h1,h2.1⟩ e (fun z=>nomatch z) h
 |@ins a C dx fs ea cl ha hn htk hm=>cases (show u=Value.ref a from rx);obtain⟨mA,O,_⟩:=Er I.hok ea;obtain⟨od,J,_⟩:=O.look;exact PySem.W.kia_one (PySem.W.kitx_own (cl.get _) cl.hd ha hn htk hm) I.kIn J e (fun z=>nomatch z) h
end
structure bA(k:Nat)(A:Around):Prop where
 hd:A.handled=none
 dp:A.depth+3*k+5<recursionLimit
 un:A.units+16*k+200<cLine
 gd:A.guards=some []
theorem bA.mono{j k:Nat}{A:Around}(r:bA k A)(h:j<=k):bA j A:=⟨r.hd,by have:=r.dp;omega,by have:=r.un;omega,r.gd⟩
theorem bA.deeper{k:Nat}{A:Around}(r:bA (k+1) A)(env:Env):bA k (A.deeper env):=
 ⟨r.hd,by have:=r.dp;show A.depth+1+3*k+5<_;omega,by have:=r.un;show A.units+3+16*k+200<_;omega,r.gd⟩
theorem bA.depth{k:Nat}{A:Around}(r:bA k A):A.depth<recursionLimit:=by have:=r.dp;omega
theorem bA.units{k:Nat}{A:Around}(r:bA k A):A.units+64<cLine:=by have:=r.un;omega
noncomputable def Ar:TA:=fun _ H Q=>Q [] H
noncomputable def wN(ta:TE)(tr:TA):TA:=fun σ H Q=>ta σ H fun x H1=>tr σ H1 fun xs H2=>Q (x::xs) H2
section
variable{X:Cx}{e:Expr}{es:List Expr}{te:TE}{t:TA}{pos:Pos}
theorem uV:PA X [] Ar:=fun _ _ _ _ H Q I h=>Calls.spliced_nil ⟨[],H,I,.nil,h⟩
theorem qc(ha:PE X e te)(hr:PA X es t)(hs:starEach (e::es) X.env=(false,eval e X.env)::starEach es X.env:=by rfl):PA X (e::es) (wN te t):=by intro pos pins s σ H Q I h;rw[hs];show wpAny _ _ (spliced ((false,eval e X.env)::backTo pos (starEach es X.env))) _ _ s;refine Calls.spliced_cons (thn (ha pins s σ H _ I h) fun u s1 ⟨x,H1,I1,r1,q1⟩=>?_);exact thn (hr pos pins s1 σ H1 _ I1 q1) fun us s2 ⟨xs,H2,I2,r2,q2⟩=>⟨x::xs,H2,I2,.cons r1 r2,q2⟩
noncomputable def LV(t:TA):TE:=fun σ H Q=>t σ H fun xs H1=>xs.length<=sizeLine/\∀p,H1 p=none->Q (.ref p) (upd H1 p (.tup xs))
noncomputable def Es(t:TA):TE:=fun σ H Q=>t σ H fun xs H1=>xs.length<=sizeLine/\∀p,H1 p=none->Q (.ref p) (upd H1 p (.lst xs))
theorem I0{x1}(h:PA X es t):PE X (.Tuple es x1 pos) (LV t):=by intro pins s σ H Q I hq;refine wpAny_Tuple_spliced (thn (h pos pins s σ H _ I hq) fun us s1 ⟨xs,H1,I1,r,z,q⟩=>⟨by rw[<- r.length];exact z,?_⟩);have hf:H1 s1.heap.objs.size=none:=I1.hok.fresh (Nat.le_refl _);refine⟨.ref s1.heap.objs.size,upd H1 s1.heap.objs.size (.tup xs),I1.laid (t':=s1.toks) (fun b u e=>Heap.get?_push_of_some _ e) (Nat.le_refl _) ?_,rfl,q _ hf⟩;exact⟨z,us,r,⟨_,Heap.get?_push_size _ rfl,rfl,_,rfl⟩⟩
theorem As(h:PA X es t):PE X (.List es pos) (Es t):=by intro pins s σ H Q I hq;refine wpAny_List_spliced (thn (h pos pins s σ H _ I hq) fun us s1 ⟨xs,H1,I1,r,z,q⟩=>⟨by rw[<- r.length];exact z,?_⟩);have hf:H1 s1.heap.objs.size=none:=I1.hok.fresh (Nat.le_refl _);refine⟨.ref s1.heap.objs.size,upd H1 s1.heap.objs.size (.lst xs),I1.laid (t':=s1.toks) (fun b u e=>Heap.get?_push_of_some _ e) (Nat.le_refl _) ?_,rfl,q _ hf⟩;exact⟨z,us,0,r,Heap.get?_push_size _ rfl⟩
end
noncomputable abbrev Sp:=List V->Hp->VK->XK->Prop
noncomputable abbrev CXT:=List Env->Hp->Shared->XK->Value->Shared->Prop
structure Et(P:Program)(w:World)(K:PySem.W.Frag)(mg:Str->Option Value)(base:Heap)(A:Around)(outer:List Env)(s:Shared)(H:Hp):Prop where
 frames:A.frames=some outer
 mod:Mod K mg base
 bs:∀b o,base.get? b=some o->s.heap.get? b=some o/\H b=none
 bsz:base.objs.size<=s.heap.objs.size
 k_:s.heap.FunFrames base outer
 frf:∀b∈frs outer,H b=none
 hok:HOk P w H s.heap
 bare:AllBare s.gens
noncomputable def CE(outer:List Env)(P:Program)(w:World)(H:Hp)(s:Shared)(Q:VK)(u:Value)(s':Shared):Prop:=
 ∃v H',s'.os=s.os/\AllBare s'.gens/\Un (frs outer) [] H H' s.heap s'.heap/\HOk P w H' s'.heap/\RelV v u/\Q v H'
noncomputable def CR(CX:CXT)(outer:List Env)(P:Program)(w:World)(H:Hp)(s:Shared)(Q:VK)(E:XK)(r:Result)(s':Shared):Prop:=
 match r with
 |.ok (.ret u)=>CE outer P w H s Q u s'
 |.ok _=>False
 |.error e=>CX outer H s E e s'
structure aO(P:Program)(w:World)(K:PySem.W.Frag)(mg:Str->Option Value)(base:Heap)(CX:CXT)(k:Nat)(f:Addr)(fd:FuncData)(ps:List Str)(sp:Sp):Prop where
 len:∀vs H Q E,sp vs H Q E->vs.length=ps.length
 run:∀(A:Around) (outer:List Env) (s:Shared) (H:Hp) (args:Args) (us:List Value) (vs:List V) (Q:VK) (E:XK),bA k A->Et P w K mg base A outer s H->BindsTo s fd args (ps.zip us)->Vals vs us->sp vs H Q E ->
  codeAny (model P w) A (.call (.ref f) args) (CR CX outer P w H s Q E) s
section
variable{X:Cx}{pins:List (Addr×Obj)}{σ:St}{H:Hp}{s s':Shared}
theorem Inv.OE(I:Inv X pins σ H s):Et X.prog X.w X.K X.mg X.base X.A X.stack s H:=
 ⟨I.ok.frames,I.ok.mod,I.bs,Nat.le_trans I.ok.bsz I.sz,I.stack,I.wF,I.hok,I.bare⟩
theorem Inv.after{Q:VK}{u:Value}(I:Inv X pins σ H s)(h:CE X.stack X.prog X.w H s Q u s'):EP X pins σ Q u s':=by obtain⟨v,H',os,bare,un,hok,r,q⟩:=h;obtain⟨hh,g,d,t,os'⟩:=s';obtain rfl:os'=s.os:=os;exact⟨v,H',I.call (h':=hh) (g':=g) (d':=d) (t':=t) (ch:=[]) un hok bare (fun b z=>absurd z (by simp)),r,q⟩
end
noncomputable def rG(sp:Sp)(dvs:List V)(E:XK)(t:TA):TE:=fun σ H Q=>t σ H fun vs H1=>sp (vs++dvs) H1 Q E
noncomputable def Binds(K:PySem.W.Frag)(fd:FuncData)(ps:List Str)(ds:List Value):Prop:=
 ∀(s:Shared) (us:List Value),K.In s.heap->(us++ds).length=ps.length->BindsTo s fd ⟨us,[]⟩ (ps.zip (us++ds))
theorem Binds.all{K:PySem.W.Frag}{fd:FuncData}{ps:List Str}(h:∀us:List Value,us.length=ps.length->bindArgs fd ⟨us,[]⟩=pure (ps.zip us)):Binds K fd ps []:=fun s us _ hl=>by rw[List.append_nil]at hl ⊢;exact .of_eq (h us hl)
noncomputable def Passes(CX:CXT)(X:Cx)(E:XK):Prop:=∀(pins:List (Addr×Obj)) (σ:St) (H:Hp) (s:Shared) (e:Value) (s':Shared),Inv X pins σ H s->CX X.stack H s E e s'->X.xe e s'
section
variable{X:Cx}{CX:CXT}{k:Nat}{f C:Addr}{fd:FuncData}{ps:List Str}{sp:Sp}{dvs:List V}{ds:List Value}{E:XK}{x m:Str}{p pos apos:Pos}{e o:Expr}{es:List Expr}{ta:TE}{t:TA}
theorem I_{pins:List (Addr×Obj)}{σ:St}{H:Hp}{s:Shared}{Q:VK}{us:List Value}{vs:List V}(F:aO X.prog X.w X.K X.mg X.base CX k f fd ps sp)(hr:bA k X.A)(hb:Binds X.K fd ps ds)(hd:Vals dvs ds)(hx:Passes CX X E)
  (I:Inv X pins σ H s) (r:Vals vs us) (h:sp (vs++dvs) H Q E):wpAny (model X.prog X.w) X.A (call (.ref f) us) (EP X pins σ Q) X.xe s:=by
 have r2:Vals (vs++dvs) (us++ds):=r.append hd;have hl:(us++ds).length=ps.length:=by rw[<- r2.length];exact F.len _ _ _ _ h
 refine wpAny_call (codeAny_mono (F.run X.A X.stack s H ⟨us,[]⟩ (us++ds) (vs++dvs) Q E hr I.OE (hb s us I.kIn hl) r2 h) fun r s' hq=>?_);cases r with
 |error e=>exact hx pins σ H s e s' I hq
 |ok fl=>
  cases fl with
  |ret u=>exact I.after hq
  |next=>exact False.elim hq
  |brk=>exact False.elim hq
  |cont=>exact False.elim hq
theorem kR(F:aO X.prog X.w X.K X.mg X.base CX k f fd ps sp)(hr:bA k X.A)(hg:Gl X x)(hm:X.mg x=some (.ref f))(hk:PySem.W.keepIn X.K (.ref f)=true)(hb:Binds X.K fd ps ds)(hd:Vals dvs ds)(hx:Passes CX X E)
  (ha:PA X (e::es) t) (hdb:(x == ("__debug__" : Str))=false:=by decide) (he:starEach (e::es) X.env=(false,eval e X.env)::starEach es X.env:=by rfl) (hpl:(backTo pos (starEach es X.env)).any (·.1)=false:=by rfl) :
  PE X (.Call (.Name x p) (e::es) [] pos) (rG sp dvs E t):=by
 intro pins s σ H Q I h;refine wpAny_Call_Name_kw (wH I hg hm ?_ hdb);refine PySem.W.callWith_K (h₀:=X.base) I.ok.mod.kin hk (thn (ha pos pins s σ H _ I h) fun us s1 ⟨vs,H1,I1,r,q⟩=>⟨I1.kIn,?_⟩) he hpl;exact I_ F hr hb hd hx I1 r q
end
section
variable{X:Cx}{CX:CXT}{k:Nat}{f C:Addr}{fd:FuncData}{ps ks:List Str}{sp:Sp}{E:XK}{x m:Str}{p pos apos kpos:Pos}{e o:Expr}{es:List Expr}{kws:List Keyword}{te ta:TE}{t tk:TA}{nm:Option Str}
variable{g:List Value->List Value->List Value}{gV:List V->List V->List V}
end
structure aq(N P:List Str)(sc:Scope):Prop where
 kind:sc.kind=.function
 co:sc.isCoroutine=false
 gen:sc.isGenerator=false
 nd:N.Nodup
 pre:N.take P.length=P
 par:∀x∈P,sc.names.lookup x=some .local\/sc.names.lookup x=some .cell
 Ja:∀y∈sc.names,y.2≠.free
theorem oS{kindOf:Str->Option NameKind}{x:Str}:∀{binds:List (Str×Value)} {m:Str->Option Value},(∀v,(x,v)∉binds)->bindL kindOf binds m x=m x
 |[],_,_=>rfl
 |(n,v)::r,m,h=>by
  unfold bindL;rw[oS fun w hw=>h w (List.mem_cons_of_mem _ hw)];split
  ·have:x≠n:=by rintro rfl;exact h v List.mem_cons_self
   simp[this]
  ·rfl
theorem oU{kindOf:Str->Option NameKind}{x:Str}:∀{binds:List (Str×Value)} {m:Str->Option Value},(∀v,(x,v)∉binds)->bindC kindOf binds m x=m x
 |[],_,_=>rfl
 |(n,v)::r,m,h=>by
  unfold bindC;rw[oU fun w hw=>h w (List.mem_cons_of_mem _ hw)];split
  ·rfl
  ·have:x≠n:=by rintro rfl;exact h v List.mem_cons_self
   simp[this]
theorem oV{kindOf:Str->Option NameKind}{x:Str}{v:Value}:∀{P:List Str} {vs:List Value} {i:Nat} {m:Str->Option Value},P.Nodup->P[i]?=some x->vs[i]?=some v->kindOf x=some .local ->
  bindL kindOf (P.zip vs) m x=some v
 |[],_,_,_,_,h,_,_=>by simp at h
 |_::_,[],_,_,_,_,h,_=>by simp at h
 |p::P,w::vs,0,m,nd,h1,h2,hk=>by simp at h1 h2;subst h1;subst h2;show bindL kindOf ((p,w)::P.zip vs) m p=_;unfold bindL;rw[oS fun v hv=>(List.nodup_cons.mp nd).1 (List.of_mem_zip hv).1,if_pos hk];simp
 |p::P,w::vs,i+1,m,nd,h1,h2,hk=>by show bindL kindOf ((p,w)::P.zip vs) m x=_;unfold bindL;exact oV (i:=i) (List.nodup_cons.mp nd).2 (by simpa using h1) (by simpa using h2) hk
theorem oW{kindOf:Str->Option NameKind}{x:Str}{v:Value}:∀{P:List Str} {vs:List Value} {i:Nat} {m:Str->Option Value},P.Nodup->P[i]?=some x->vs[i]?=some v->kindOf x≠some .local ->
  bindC kindOf (P.zip vs) m x=some v
 |[],_,_,_,_,h,_,_=>by simp at h
 |_::_,[],_,_,_,_,h,_=>by simp at h
 |p::P,w::vs,0,m,nd,h1,h2,hk=>by simp at h1 h2;subst h1;subst h2;show bindC kindOf ((p,w)::P.zip vs) m p=_;unfold bindC;rw[oU fun v hv=>(List.nodup_cons.mp nd).1 (List.of_mem_zip hv).1,if_neg hk];simp
 |p::P,w::vs,i+1,m,nd,h1,h2,hk=>by show bindC kindOf ((p,w)::P.zip vs) m x=_;unfold bindC;exact oW (i:=i) (List.nodup_cons.mp nd).2 (by simpa using h1) (by simpa using h2) hk
noncomputable def start(N:List Str)(vs:List V):St:=vs.map some++List.replicate (N.length-vs.length) none
noncomputable def yV(CX:CXT)(P:Program)(w:World)(K:PySem.W.Frag)(mg:Str->Option Value)(base:Heap)(N:List Str)(qual:Str)(scope:Scope)(f:Addr)(cd:Value)(A:Around)(outer:List Env)(s:Shared)(H:Hp)(E:XK):Cx where
 prog:=P
 w:=w
 K:=K
 mg:=mg
 base:=base
 A:=A.deeper (envOfC qual scope s.heap.objs.size f cd)
 N:=N
 s₀:=s
 H₀:=H
 env:=envOfC qual scope s.heap.objs.size f cd
 outer:=outer
 stack:=envOfC qual scope s.heap.objs.size f cd::outer
 ex:=[]
 calm:=true
 fn:=fun _=>true
 pn:=[]
 xe:=fun e s'=>wpAny (model P w) (A.deeper (envOfC qual scope s.heap.objs.size f cd)) (leaving (envOfC qual scope s.heap.objs.size f cd) e) (fun _ s''=>CX outer H s E e s'') (fun e' s''=>CX outer H s E e' s'') s'
theorem rH{sc:Scope}{n:Nat}{x:Str}(h:sc.names.lookup x=some .cell):∃c,(cellsFrom n sc.names []).lookup x=some c:=by have q:=PySem.W.cellsFrom_some sc.names n [] (.inl h);exact Option.isSome_iff_exists.mp q
theorem yW{CX:CXT}{P:Program}{w:World}{K:PySem.W.Frag}{mg:Str->Option Value}{base:Heap}{N ps:List Str}{qual:Str}{scope:Scope}{f:Addr}{cd:Value}{A:Around}{outer:List Env}{s s1:Shared}{H:Hp}{E:XK}{us:List Value}{vs:List V}
  (S:aq N ps scope) (hd:A.handled=none) (e0:Et P w K mg base A outer s H) (hl:vs.length=ps.length) (r:Vals vs us)
  (x:InCallC s s.heap.objs.size (bindL (envOfC qual scope s.heap.objs.size f cd).kindOf (ps.zip us) fun _=>none) (cellsFrom (s.heap.objs.size+1) scope.names []) (bindC (envOfC qual scope s.heap.objs.size f cd).kindOf (ps.zip us) fun _=>none) s1) :
  Inv (yV CX P w K mg base N qual scope f cd A outer s H E) [] (start N vs) H s1:=by
 have hpl:ps.length<=N.length:=by have:=congrArg List.length S.pre;rw[List.length_take]at this;omega
 obtain⟨h1,tk,rfl,hk⟩:=x.done;have noA:∀b:Addr,b∉(yV CX P w K mg base N qual scope f cd A outer s H E).ex:=fun b z=>absurd (show b∈([]:List Addr) from z) (by simp)
 refine ⟨⟨e0.mod,S.kind,rfl,rfl,Nat.le_refl _,fun y z c h1 h2=>?_,fun y hy=>?_,fun y c _ h=>?_,fun _=>hd,Around.frames_deeper e0.frames,.inr ⟨rfl,rfl⟩,fun b z=>absurd z (noA b),e0.bs,e0.bsz,fun b _ _=>noA b,fun b z=>absurd z (noA b),e0.k_,e0.frf⟩,
  rfl,e0.bare,Un.kept hk,⟨_,x.toInCall.ns,fun i y v h1 h2 h3=>?_⟩,fun y c h=>⟨_,x.cell y c h⟩,e0.hok.fresh (Nat.le_refl _),fun y c h=>?_,fun p hp=>absurd (show p∈([]:List (Addr×Obj)) from hp) (by simp),e0.hok.kept hk,?_⟩
 ·exact name_of_addr x.apart (PySem.mem_of_lookup h1) (PySem.mem_of_lookup h2)
 ·have hy:scope.names.lookup y=some .cell\/scope.names.lookup y=some .free:=hy
  rcases hy with hy | hy
  ·exact rH hy
  ·exact absurd rfl (S.Ja _ (PySem.mem_of_lookup hy))
 ·exact Nat.le_of_lt (x.above y c (PySem.mem_of_lookup h))
 ·have hi:i<vs.length:=by
   unfold start at h2;by_cases hi:i<vs.length
   ·exact hi
   ·rw[List.getElem?_append_right (by simpa using hi)]at h2
    rw[List.getElem?_replicate]at h2;split at h2<;>cases h2
  have ha:vs[i]?=some v:=by
   unfold start at h2;rw[List.getElem?_append_left (by simpa using hi),List.getElem?_map]at h2;cases e:vs[i]? with
   |none=>rw[e]at h2;cases h2
   |some a=>rw[e]at h2;cases h2;rfl
  obtain⟨u,hu,rv⟩:=r.get ha;have hp:ps[i]?=some y:=by rw[<- S.pre,List.getElem?_take_of_lt (by omega)];exact h1
  have ndP:ps.Nodup:=by rw[<- S.pre];exact S.nd.sublist (List.take_sublist _ _)
  refine⟨u,rv,?_⟩;rcases S.par y (List.mem_of_getElem? hp) with k | k
  ·exact .inl ⟨k,oV ndP hp hu k⟩
  ·obtain⟨c,e⟩:=rH (n:=s.heap.objs.size+1) k
   refine .inr ⟨.inl k,c,e,?_⟩;have q:=x.cell y c e;rw[oW ndP hp hu (by show scope.names.lookup y≠_;rw[k];decide)]at q;exact q
 ·exact e0.hok.fresh (Nat.le_of_lt (x.above y c (PySem.mem_of_lookup h)))
 ·unfold start
  show _=N.length;rw[List.length_append,List.length_map,List.length_replicate];omega
theorem LW{CX:CXT}{P:Program}{w:World}{K:PySem.W.Frag}{mg:Str->Option Value}{base:Heap}{k:Nat}{f:Addr}{name qual:Str}{params:Arguments}{body:List Stmt}{scope:Scope}{dV kV doc pm cdv ct oc:Value}{an od:Option Addr}
  {osl:Array (Option Value)} {N ps:List Str} {sp:Sp} (lk:K.lookup f=some ⟨oc,od,.func (PySem.W.fnOf name qual params body scope dV kV doc pm an cdv ct),osl⟩) (hcd:PySem.W.codeIn K cdv qual=true) (S:aq N ps scope)
  (len:∀vs H Q E,sp vs H Q E->vs.length=ps.length)
  (hbody:∀ (A:Around) (outer:List Env) (s:Shared) (H:Hp) (vs:List V) (Q:VK) (E:XK),bA k (A.deeper (envOfC qual scope s.heap.objs.size f cdv))→sp vs H Q E →
   ∃t,PSs (yV CX P w K mg base N qual scope f cdv A outer s H E) body t/\t { nx:=fun _ H'=>Q .non H',rt:=Q } (start N vs) H) :
  aO P w K mg base CX (k+1) f (PySem.W.fnOf name qual params body scope dV kV doc pm an cdv ct) ps sp:=by
 refine⟨len,fun A outer s H args us vs Q E hr e0 hb r hsp=>?_⟩;have hl:=len _ _ _ _ hsp;have KX:K.In s.heap:=e0.mod.kin.keeps fun b o e=>(e0.bs b o e).1
 have lim:s.heap.NoLimit:=e0.mod.nolimit.keeps fun b o e=>(e0.bs b o e).1
 have hkind:∀y∈ps.zip us,scope.names.lookup y.1=some .local\/(scope.names.lookup y.1=some .cell/\((cellsFrom (s.heap.objs.size+1) scope.names []).lookup y.1).isSome=true):=fun⟨n,v⟩ hy=>by
  rcases S.par n (List.of_mem_zip hy).1 with q | q
  ·exact .inl q
  ·exact .inr ⟨q,PySem.W.cellsFrom_some _ _ _ (.inl q)⟩
 refine codeAny_call_function hr.depth (KX _ _ lk) rfl S.co S.gen rfl (PySem.W.codeRec_of KX hcd) (hb _ _ _ _ ?_);refine wpAny_newFunctionEnv_cells S.kind hkind fun env he s1 x=>?_
 subst he;refine⟨lim.keeps x.toInCall.keep,codeAny_func ?_⟩;obtain⟨t,ht,hq⟩:=hbody A outer s H vs Q E (hr.deeper _) hsp;have I:Inv (yV CX P w K mg base N qual scope f cdv A outer s H E) [] (start N vs) H s1:=yW S hr.hd e0 hl r x;refine wpAny_mono (ht [] s1 (start N vs) H _ I hq) (fun fl s' hs=>?_) fun e s' hs=>hs
 have fin:∀{σ':St} {H':Hp} {v:V} {u:Value},Inv (yV CX P w K mg base N qual scope f cdv A outer s H E) [] σ' H' s'->RelV v u->Q v H'->CE outer P w H s Q u s':=
  fun {σ' H' v u} J rv q=>⟨v,H',J.os,J.bare,J.base,J.hok,rv,q⟩
 cases fl with
 |ret u=>obtain⟨v,σ',H',J,rv,q⟩:=hs;exact fin J rv q
 |next=>obtain⟨σ',H',J,q⟩:=hs;exact fin (v:=V.non) (u:=Value.none) J rfl q
 |brk=>obtain⟨_,_,_,q⟩:=hs;exact False.elim q
 |cont=>obtain⟨_,_,_,q⟩:=hs;exact False.elim q
section
variable{X:Cx}{x:Str}{p pos:Pos}{e:Expr}{es:List Expr}{t:TA}{id T:String}{r:List V->Hp->VK->Prop}
noncomputable def tCB(r:List V->Hp->VK->Prop)(t:TA):TE:=fun σ H Q=>t σ H fun vs H1=>r vs H1 Q
theorem rJ(hc:cN X (.builtin id) r)(hg:Gl X x)(hm:X.mg x=none)(hv:bootBuiltins x=some (.builtin id))(ha:PA X (e::es) t)(hn:x ≠ "__name__" := by decide)(hdb:(x == ("__debug__" : Str))=false:=by decide)
  (he:starEach (e::es) X.env=(false,eval e X.env)::starEach es X.env:=by rfl) (hpl:(backTo pos (starEach es X.env)).any (·.1)=false:=by rfl):PE X (.Call (.Name x p) (e::es) [] pos) (tCB r t):=by
 intro pins s σ H Q I h;refine wpAny_Call_Name_kw (cS I hg hm hv ?_ hn hdb);exact PyProof.Rows.callWith_builtin1 (thn (ha pos pins s σ H _ I h) fun us s1 ⟨vs,H1,I1,r1,q1⟩=>hc pins s1 σ H1 vs us Q I1 r1 q1) he hpl
theorem yX(hc:cN X (.type T) r)(hg:Gl X x)(hm:X.mg x=none)(hv:bootBuiltins x=some (.type T))(ha:PA X (e::es) t)(hn:x ≠ "__name__" := by decide)(hdb:(x == ("__debug__" : Str))=false:=by decide)
  (he:starEach (e::es) X.env=(false,eval e X.env)::starEach es X.env:=by rfl) (hpl:(backTo pos (starEach es X.env)).any (·.1)=false:=by rfl):PE X (.Call (.Name x p) (e::es) [] pos) (tCB r t):=by
 intro pins s σ H Q I h;refine wpAny_Call_Name_kw (cS I hg hm hv ?_ hn hdb);exact PyProof.Rows.callWith_type1 (thn (ha pos pins s σ H _ I h) fun us s1 ⟨vs,H1,I1,r1,q1⟩=>hc pins s1 σ H1 vs us Q I1 r1 q1) he hpl
end
end L2
namespace HT
open PySem PyProof.Rows
section
open PySem.SeqAt
open PySem.AutoSeq1 (wpAny_loadPart')
open PySem.MeetsSeq PySem.MeetsSeq2 PySem.MeetsSeq3
end
section
variable{prog:Program}{w:World}{A:Around}{E:Value->Shared->Prop}{s:Shared}
noncomputable def sIx(n d:Nat):Option Int->Nat
 |none=>d
 |some v=>if v<0 then (v+(n:Int)).toNat else min v.toNat n
end
end HT
namespace L2
open PySem PySem.Spec PyProof.Rows
noncomputable abbrev TO:=St->Hp->(Option Int->Hp->Prop)->Prop
noncomputable def PO(X:Cx)(e:Option Expr)(t:TO):Prop:=
 ∀(pins:List (Addr×Obj)) (s:Shared) (σ:St) (H:Hp) (Q:Option Int->Hp->Prop),Inv X pins σ H s->t σ H Q ->
  wpAny (model X.prog X.w) X.A (evalPart e X.env) (fun u s'=>∃o H',Inv X pins σ H' s'/\IsPart u o/\Q o H') X.xe s
noncomputable def qd:TO:=fun _ H Q=>Q none H
noncomputable def Au(t:TE):TO:=fun σ H Q=>t σ H fun x H1=>∃i,x=.int i/\Q (some i) H1
section
variable{X:Cx}{e:Expr}{te:TE}{lo hi:Option Expr}{tl th:TO}{pos p2:Pos}
theorem Eu:PO X none qd:=by intro pins s σ H Q I h;rw[evalPart_none];exact wpAny_pure ⟨none,H,I,.none,h⟩
theorem wO(h:PE X e te):PO X (some e) (Au te):=by
 intro pins s σ H Q I hw;rw[evalPart_some];refine thn (h pins s σ H _ I hw) fun u s1 ⟨x,H1,I1,r1,q1⟩=>?_
 obtain⟨i,rfl,q⟩:=q1;obtain⟨t,rfl⟩:=r1;exact⟨some i,H1,I1,.int i t,q⟩
noncomputable def SlR(X:Cx)(r:V->Option Int->Option Int->Hp->VK->Prop):Prop:=
 ∀(pins:List (Addr×Obj)) (s:Shared) (σ:St) (H:Hp) (x:V) (v vl vu:Value) (lo hi:Option Int) (sl:Addr) (Q:VK),Inv X pins σ H s->RelV x v->s.heap.IsSliceOf sl vl vu .none->IsPart vl lo->IsPart vu hi->r x lo hi H Q ->
  ∃T id,typeLookup (.type T) "__getitem__" = pure (some (.builtin id))/\s.TypeIs v T/\wpAny (model X.prog X.w) X.A (getItem v (.ref sl)) (EP X pins σ Q) X.xe s
noncomputable def tSl(r:V->Option Int->Option Int->Hp->VK->Prop)(te:TE)(tl th:TO):TE:=fun σ H Q=>te σ H fun x H1=>tl σ H1 fun l H2=>th σ H2 fun u H3=>r x l u H3 Q
theorem Av{r:V->Option Int->Option Int->Hp->VK->Prop}(hr:SlR X r)(he:PE X e te)(hl:PO X lo tl)(hu:PO X hi th):PE X (.Subscript e (.Slice lo hi none p2) pos) (tSl r te tl th):=by
 intro pins s σ H Q I h;refine Subscript_ (thn (he pins s σ H _ I h) fun v s1 ⟨x,H1,I1,r1,q1⟩=>?_);refine wpAny_Slice (thn (hl pins s1 σ H1 _ I1 q1) fun vl s2 ⟨l,H2,I2,pl,q2⟩=>thn (hu pins s2 σ H2 _ I2 q2) fun vu s3 ⟨u,H3,I3,pu,q3⟩=>?_);rw[evalPart_none];refine wpAny_pure ?_;have I4:Inv X pins σ H3 { s3 with heap:=s3.heap.push { cls:=.type "slice",data:=.fields #[vl,vu,.none] } }:=I3.kept (t':=s3.toks) fun b ob q=>Heap.get?_push_of_some _ q
 obtain⟨T,id,hT,ht,hg⟩:=hr pins { s3 with heap:=s3.heap.push { cls:=.type "slice",data:=.fields #[vl,vu,.none] } } σ H3 x v vl vu l u s3.heap.objs.size Q I4 r1 (Heap.IsSliceOf.new ..) pl pu q3;show wpAny (model X.prog X.w) X.A (subscriptTail e (.Slice lo hi none p2) v (.ref s3.heap.objs.size)) (EP X pins σ Q) X.xe { s3 with heap:=s3.heap.push { cls:=.type "slice",data:=.fields #[vl,vu,.none] } };exact tail_any (ops:=[.ref s3.heap.objs.size,v]) ht hT hg (by with_unfolding_all rfl)
noncomputable def uW(xs:List V)(lo hi:Option Int):List V:=(xs.drop (HT.sIx xs.length 0 lo)).take (HT.sIx xs.length xs.length hi-HT.sIx xs.length 0 lo)
theorem rK(xs:List V)(lo hi:Option Int):(uW xs lo hi).length<=xs.length:=by unfold uW;rw[List.length_take,List.length_drop];omega
end
noncomputable def ixN(n:Nat)(i:Int):Option Nat:=if 0<=i then (if i<n then some i.toNat else none) else if -(n:Int)<=i then some (i+n).toNat else none
noncomputable def atI{α:Type}(xs:List α)(i:Int):Option α:=(ixN xs.length i).bind fun j=>xs[j]?
theorem wQ{n:Nat}{i:Int}{j:Nat}(h:ixN n i=some j):seqIndex? i n=some j/\j<n/\-(n:Int)<=i/\i<n:=by
 unfold ixN at h;by_cases h0:0<=i
 ·rw[if_pos h0]at h
  by_cases h1:i<n
  ·rw[if_pos h1]at h
   have e:i.toNat=j:=Option.some.inj h;exact⟨by rw[seqIndex_of h0 h1,e],by omega,by omega,h1⟩
  ·rw[if_neg h1]at h;cases h
 ·rw[if_neg h0]at h
  by_cases h1:-(n:Int)<=i
  ·rw[if_pos h1]at h
   have e:(i+n).toNat=j:=Option.some.inj h;exact⟨by rw[seqIndex_neg (by omega) h1,e],by omega,h1,by omega⟩
  ·rw[if_neg h1]at h;cases h
theorem wR{α:Type}{xs:List α}{i:Int}{v:α}(h:atI xs i=some v):∃j,seqIndex? i xs.length=some j/\xs[j]?=some v/\j<xs.length/\-(xs.length:Int)<=i/\i<xs.length:=by
 unfold atI at h;cases e:ixN xs.length i with
 |none=>rw[e]at h;cases h
 |some j=>rw[e]at h;obtain⟨h1,h2,h3,h4⟩:=wQ e;exact⟨j,h1,h,h2,h3,h4⟩
noncomputable def qe(b:Expr):Prop:=∀o i,subscripted b false o i=operate [o,i] (getItem o i)
noncomputable def IxR(X:Cx)(r:R2):Prop:=
 ∀(value slice:Expr) (pins:List (Addr×Obj)) (s:Shared) (σ:St) (H:Hp) (x y:V) (v u:Value) (Q:VK),Inv X pins σ H s->RelV x v->RelV y u->r x y H Q ->
  subscripted slice false v u=operate [v,u] (getItem v u)->wpAny (model X.prog X.w) X.A (subscriptTail value slice v u) (EP X pins σ Q) X.xe s
noncomputable def MtR(X:Cx)(id:String)(r:V->List V->Hp->VK->Prop):Prop:=
 ∀(pins:List (Addr×Obj)) (s:Shared) (σ:St) (H:Hp) (x:V) (xs:List V) (v:Value) (us:List Value) (Q:VK),Inv X pins σ H s->RelV x v->Vals xs us->r x xs H Q ->
  wpAny (model X.prog X.w) X.A (call (.builtin id) (v::us)) (EP X pins σ Q) X.xe s
section
variable{X:Cx}{a b:Expr}{ta tb:TE}{pos:Pos}
theorem IxR.or{r r':R2}(h:IxR X r)(h':IxR X r'):IxR X (fun x y H Q=>r x y H Q\/r' x y H Q):=by
 intro value slice pins s σ H x y v u Q I rx ry q hs;rcases q with q | q
 ·exact h value slice pins s σ H x y v u Q I rx ry q hs
 ·exact h' value slice pins s σ H x y v u Q I rx ry q hs
theorem GR{r:R2}(hr:IxR X r)(ha:PE X a ta)(hb:PE X b tb)(hs:qe b):PE X (.Subscript a b pos) (tOp r ta tb):=by intro pins s σ H Q I h;exact Subscript_ (IP ha hb I h fun v u s2 x y H2 I2 rx ry q=>hr a b pins s2 σ H2 x y v u Q I2 rx ry q (hs _ _))
noncomputable def Jb(K:PySem.W.Frag):R2:=fun x y H Q=>∃p xs i v,x=.ref p/\y=.int i/\SqL K H p xs/\atI xs i=some v/\Q v H
noncomputable def LX(K:PySem.W.Frag):R2:=fun x y H Q=>∃p xs i v,x=.ref p/\y=.int i/\SqT K H p xs/\atI xs i=some v/\Q v H
theorem wU:IxR X (Jb X.K):=by
 intro value slice pins s σ H x y v u Q I rx ry h hs;obtain⟨p,xs,i,z,rfl,rfl,hq,he,q⟩:=h;cases rx;obtain⟨t,rfl⟩:=ry;obtain⟨its,r,pl,hz⟩:=I.list hq;obtain⟨j,h1,h2,h3,h4,h5⟩:=wR he;obtain⟨w,ew,rw'⟩:=r.get h2;have hl:=r.length;have hn:=ly;have fin:EP X pins σ Q w s:=⟨z,H,I,rw',q⟩
 by_cases h0:0<=i
 ·have hj:i.toNat=j:=by
   rw[seqIndex_of h0 h5]at h1;exact Option.some.inj h1
  exact item_listR pl.isList h0 (by omega) (by rw[hj];simpa using ew) fin hs
 ·have hj:(i+(its.toArray.size:Int)).toNat=j:=by
   rw[seqIndex_neg (by omega) h4]at h1;rw[List.size_toArray,<- hl];exact Option.some.inj h1
  exact subscriptTail_builtinR (x:=w) pl.isList.typeIs slot_list_getitem.lookup
   (wpAny_getItem_list_neg (Q:=fun r s'=>r=w/\EP X pins σ Q r s') pl.isList (by omega) (by rw[List.size_toArray]<;>omega) (by omega) (by rw[hj];simpa using ew) ⟨rfl,fin⟩) hs
theorem Jc:IxR X (LX X.K):=by
 intro value slice pins s σ H x y v u Q I rx ry h hs;obtain⟨p,xs,i,z,rfl,rfl,hq,he,q⟩:=h;cases rx;obtain⟨t,rfl⟩:=ry;obtain⟨its,r,pl,hz⟩:=I.tuple hq;obtain⟨j,h1,h2,h3,h4,h5⟩:=wR he;obtain⟨w,ew,rw'⟩:=r.get h2;have hl:=r.length;have hn:=ly;have fin:EP X pins σ Q w s:=⟨z,H,I,rw',q⟩
 exact subscriptTail_builtinR (x:=w) pl.typeIs slot_tuple_getitem.lookup
  (getItem_tuple (j:=j) (Q:=fun r s'=>r=w/\EP X pins σ Q r s') pl (by omega) (by omega) (by rw[List.size_toArray,<- hl];exact h1) (by simpa using ew) ⟨rfl,fin⟩) hs
theorem uX(its:List Value)(n j:Nat)(u:Value):Obj.mapSeq (·.setIfInBounds j u) { cls:=.type "list",data:=.seq its.toArray n }={ cls:=.type "list",data:=.seq (its.set j u).toArray n }:=by simp[Obj.mapSeq]
theorem Inv.lst{pins:List (Addr×Obj)}{σ:St}{H:Hp}{s:Shared}{p:Addr}{xs:List V}(I:Inv X pins σ H s)(h:H p=some (.lst xs)) :
  ∃(its:List Value) (n:Nat),Vals xs its/\s.heap.get? p=some { cls:=.type "list",data:=.seq its.toArray n }/\xs.length<=sizeLine:=by
 obtain⟨z,its,n,r,e⟩:=I.hok p _ h;exact⟨its,n,r,e,z⟩
theorem Inv.Jd{pins:List (Addr×Obj)}{σ:St}{H:Hp}{s:Shared}{p:Addr}{xs ys:List V}{its its':List Value}{n n':Nat}{f:Obj->Obj}(I:Inv X pins σ H s)(h:H p=some (.lst xs))
  (ho:s.heap.get? p=some { cls:=.type "list",data:=.seq its.toArray n }) (hf:f { cls:=.type "list",data:=.seq its.toArray n }={ cls:=.type "list",data:=.seq its'.toArray n' }) (r:Vals ys its') (hz:ys.length<=sizeLine) (t:Nat) :
  Inv X pins σ (upd H p (.lst ys)) { s with heap:=s.heap.update p f,toks:=t }:=by
 have e:(s.heap.update p f).get? p=some { cls:=.type "list",data:=.seq its'.toArray n' }:=by rw[Heap.get?_update_self f ho (by rw[hf]<;>rfl),hf]
 refine I.write (x:=p) (e:=p) (by rw[h];trivial) (.inl rfl) (fun b u hb q=>(Heap.get?_update_other _ _ (Ne.symm hb)).trans q) ⟨_,e⟩ ?_;exact⟨hz,its',n',r,e⟩
noncomputable def GS:V->V->V->Hp->(Hp->Prop)->Prop:=fun o i v H Q=>∃p xs k j,o=.ref p/\i=.int k/\H p=some (.lst xs)/\ixN xs.length k=some j/\Q (upd H p (.lst (xs.set j v)))
theorem set_list:LM X GS:=by
 intro pins s σ H o i v ov iv u Q I ro ri rv h;obtain⟨p,xs,k,j,rfl,rfl,hp,hj,q⟩:=h;cases ro;obtain⟨t,rfl⟩:=ri;obtain⟨its,n,r,ho,hz⟩:=I.lst hp;obtain⟨h1,h2,h3,h4⟩:=wQ hj;have hl:=r.length;have hn:=ly;have I':Inv X pins σ (upd H p (.lst (xs.set j v))) { s with heap:=s.heap.update p (Obj.mapSeq (·.setIfInBounds j u)) }:=
  I.Jd hp ho (uX its n j u) (r.set rv j) (by rw[List.length_set];exact hz) s.toks
 by_cases h0:0<=k
 ·have hk:k.toNat=j:=by
   rw[seqIndex_of h0 h4]at h1;exact Option.some.inj h1
  exact PySem.W.ki_setAt ho h0 (by omega) (by rw[List.size_toArray,<- hl];exact h4) (by rw[hk];exact⟨_,I',q⟩)
 ·have hk:(k+(its.toArray.size:Int)).toNat=j:=by
   rw[seqIndex_neg (by omega) h3]at h1;rw[List.size_toArray,<- hl];exact Option.some.inj h1
  exact PySem.W.ki_setBack ho (by omega) (by rw[List.size_toArray,<- hl];exact h3) (by omega) (by rw[hk];exact⟨_,I',q⟩)
theorem qf(lo hi:Option Int)(n:Nat):(sliceBounds lo hi none n).1=((HT.sIx n 0 lo:Nat):Int)/\(sliceBounds lo hi none n).2.1=((HT.sIx n n hi:Nat):Int)/\(sliceBounds lo hi none n).2.2=1:=by
 refine⟨?_,?_,rfl⟩
 ·cases lo with
  |none=>simp[sliceBounds,HT.sIx]
  |some i=>
   simp only[sliceBounds,HT.sIx,Option.getD_none,show (1:Int)>0 by decide,if_true];by_cases h:i<0
   ·simp only[h,if_true]<;>omega
   ·simp only[h,if_false]<;>omega
 ·cases hi with
  |none=>simp[sliceBounds,HT.sIx]
  |some i=>
   simp only[sliceBounds,HT.sIx,Option.getD_none,show (1:Int)>0 by decide,if_true];by_cases h:i<0
   ·simp only[h,if_true]<;>omega
   ·simp only[h,if_false]<;>omega
theorem oA(its:List Value)(lo hi:Option Int):slicePick its.toArray lo hi none=((its.drop (HT.sIx its.length 0 lo)).take (HT.sIx its.length its.length hi-HT.sIx its.length 0 lo)).toArray:=by obtain⟨h1,h2,h3⟩:=qf lo hi its.toArray.size;unfold slicePick;rw[h1,h2,h3];simp only[sliceRange_one,pick_run,List.size_toArray]<;>rfl
noncomputable def LY(K:PySem.W.Frag):V->Option Int->Option Int->Hp->VK->Prop:=fun x lo hi H Q=>∃a xs,x=.ref a/\SqL K H a xs/\∀p,H p=none->Q (.ref p) (upd H p (.lst (uW xs lo hi)))
theorem Ew:SlR X (LY X.K):=by intro pins s σ H x v vl vu lo hi sl Q I rx hs pl pu h;obtain⟨a,xs,rfl,hx,q⟩:=h;cases rx;obtain⟨its,r,ht,hz⟩:=I.list hx;have hlen:=r.length;refine⟨"list",_,slot_list_getitem.lookup,ht.isList.typeIs,?_⟩;refine wpAny_getItem_list_slice ht.isList hs pl pu .none (by simp) ?_ (by rw[List.size_toArray]<;>omega);rw[oA,<- hlen];refine⟨.ref s.heap.objs.size,_,I.laid (t':=s.toks) (o:=.lst (uW xs lo hi)) (fun b ob q=>Heap.get?_push_of_some _ q) (Nat.le_refl _) ?_,rfl,q _ (I.hok.fresh (Nat.le_refl _))⟩;exact⟨Nat.le_trans (rK xs lo hi) hz,_,0,(r.drop (HT.sIx xs.length 0 lo)).take (HT.sIx xs.length xs.length hi-HT.sIx xs.length 0 lo),Heap.get?_push_size _ rfl⟩
theorem qg:cN X (.builtin "len") (fun xs H Q=>∃p ys,xs=[.ref p]/\(SqL X.K H p ys\/SqT X.K H p ys)/\Q (.int ys.length) H):=by
 intro pins s σ H xs us Q I r h;obtain⟨p,ys,rfl,hq,q⟩:=h;obtain⟨u,rfl,rx⟩:=vals1 r;cases rx;have hn:=ly;rcases hq with hq | hq
 ·obtain⟨its,r',pl,hz⟩:=I.list hq
  have hlen:=r'.length;exact Calls.call_len_list pl.isList (by simp only[List.size_toArray]<;>omega) ⟨.int ys.length,H,I.tok _,⟨s.toks+1,by rw[List.size_toArray,hlen]⟩,q⟩
 ·obtain⟨its,r',pl,hz⟩:=I.tuple hq
  have hlen:=r'.length;exact len_tuple pl (by simp only[List.size_toArray]<;>omega) ⟨.int ys.length,H,I.tok _,⟨s.toks+1,by rw[List.size_toArray,hlen]⟩,q⟩
theorem qh:cN X (.type "list") (fun xs H Q=>∃p ys,xs=[.ref p]/\(SqL X.K H p ys\/SqT X.K H p ys)/\∀l,H l=none->Q (.ref l) (upd H l (.lst ys))):=by
 intro pins s σ H xs us Q I r h;obtain⟨p,ys,rfl,hq,q⟩:=h;obtain⟨u,rfl,rx⟩:=vals1 r;cases rx;have fin:∀(its:List Value),Vals ys its->ys.length<=sizeLine->∀(h':Heap) (c':Nat),(∀b o',s.heap.get? b=some o'->h'.get? b=some o') ->
   h'.get? s.heap.objs.size=some { cls:=.type "list",dict:=none,data:=.seq its.toArray c',slots:=#[] }->EP X pins σ Q (.ref s.heap.objs.size) { s with heap:=h' }:=fun its r' hz h' c' kp e=>
  ⟨.ref s.heap.objs.size,_,I.laid (t':=s.toks) kp (Nat.le_refl _) (show a_ X.prog X.w _ h' _ (.lst ys) from ⟨hz,its,c',r',e⟩),rfl,q _ (I.hok.fresh (Nat.le_refl _))⟩
 rcases hq with hq | hq
 ·obtain⟨its,r',pl,hz⟩:=I.list hq
  have hlen:=r'.length;obtain⟨o,ho,hc,n,hd⟩:=pl.isList;exact call_list_seq p (.inl rfl) ho hc hd (fun h' c' kp e=>fin its r' hz h' c' kp e) (by simp only[List.size_toArray]<;>omega)
 ·obtain⟨its,r',pl,hz⟩:=I.tuple hq
  have hlen:=r'.length;obtain⟨o,ho,hc,n,hd⟩:=pl;exact call_list_seq p (.inr rfl) ho hc hd (fun h' c' kp e=>fin its r' hz h' c' kp e) (by simp only[List.size_toArray]<;>omega)
theorem oB:cN X (.type "tuple") (fun xs H Q=>∃p ys,xs=[.ref p]/\((SqL X.K H p ys/\∀l,H l=none->Q (.ref l) (upd H l (.tup ys)))\/(SqT X.K H p ys/\Q (.ref p) H))):=by
 intro pins s σ H xs us Q I r h;obtain⟨p,ys,rfl,h⟩:=h;obtain⟨u,rfl,rx⟩:=vals1 r;cases rx;rcases h with⟨hq,q⟩ | ⟨hq,q⟩
 ·obtain⟨its,r',pl,hz⟩:=I.list hq
  have hlen:=r'.length;refine call_tuple_list pl.isList (fun h' kp=>?_) (by simp only[List.size_toArray]<;>omega);have I1:Inv X pins σ H { s with heap:=h' }:=I.kept (t':=s.toks) kp;have I2:Inv X pins σ (upd H h'.objs.size (.tup ys)) { s with heap:=h'.push { cls:=.type "tuple",data:=.seq its.toArray } }:=
   I1.laid (t':=s.toks) (fun b o e=>Heap.get?_push_of_some _ e) (Nat.le_refl _) (show a_ X.prog X.w _ _ _ (.tup ys) from ⟨hz,its,r',IsTup.new _ _⟩)
  exact⟨.ref h'.objs.size,_,I2,rfl,q _ (I1.hok.fresh (Nat.le_refl _))⟩
 ·obtain⟨its,r',pl,hz⟩:=I.tuple hq
  exact call_tuple_same pl ⟨.ref p,H,I,rfl,q⟩
noncomputable def tyV(K:PySem.W.Frag)(T:String)(x:V)(H:Hp):Prop:=match x with
 |.str _=>T = "str"
 |.int _=>T = "int"
 |.ref p=>(T = "list" /\ ∃xs,SqL K H p xs)\/(T = "tuple" /\ ∃o,K.lookup p=some o/\o.cls=.type "tuple" /\ o.dict=none) \/
   (T = "dict" /\ ((∃kvs,H p=some (.dK kvs))\/∃kvs,H p=some (.dT kvs)))\/(T = "set" /\ ∃S n,H p=some (.set S n))
 |_=>False
theorem Aw{pins:List (Addr×Obj)}{σ:St}{H:Hp}{s:Shared}{T:String}{x:V}{v:Value}(I:Inv X pins σ H s)(r:RelV x v)(ty:tyV X.K T x H) :
  s.TypeIs v T/\∀a,v=.ref a->∃ob,s.heap.get? a=some ob/\ob.dict=none:=by
 cases x with
 |str z=>obtain⟨t,rfl⟩:=r;cases (show T = "str" from ty);exact⟨typeIs_str s z t,fun _ e=>nomatch e⟩
 |int i=>obtain⟨t,rfl⟩:=r;cases (show T = "int" from ty);exact⟨typeIs_int s i t,fun _ e=>nomatch e⟩
 |ref p=>
  cases r;rcases ty with⟨rfl,xs,hq⟩ | ⟨rfl,o,hk,hc,hd⟩ | ⟨rfl,hk⟩ | ⟨rfl,S,n,hk⟩
  ·obtain⟨its,_,pl,_⟩:=I.list hq
   refine⟨pl.isList.typeIs,fun a e=>?_⟩;cases e;obtain⟨o,n,e,c,hd,_⟩:=pl;exact⟨o,e,hd⟩
  ·refine⟨⟨o,I.kIn p o hk,hc⟩,fun a e=>?_⟩
   cases e;exact⟨o,I.kIn _ o hk,hd⟩
  ·have z:∃o,s.heap.get? p=some o/\o.ExactDict:=by
    rcases hk with⟨kvs,hk⟩ | ⟨kvs,hk⟩
    ·obtain⟨_,_,_,_,o,_,_,e,ex,_⟩:=I.hok p _ hk
     exact⟨o,e,ex⟩
    ·obtain⟨_,_,_,_,o,_,_,e,ex,_⟩:=I.hok p _ hk
     exact⟨o,e,ex⟩
   obtain⟨o,e,ex⟩:=z;refine⟨⟨o,e,ex.1⟩,fun a e2=>?_⟩;cases e2;exact⟨o,e,ex.2.1⟩
  ·obtain⟨o,_,_,_,e,ex,_⟩:=I.hok p _ hk
   refine⟨⟨o,e,ex.1⟩,fun a e2=>?_⟩;cases e2;exact⟨o,e,ex.2.1⟩
 |_=>exact False.elim ty
noncomputable def Je(K:PySem.W.Frag)(T:String)(r:V->List V->Hp->VK->Prop)(to:TE):TE:=fun σ H Q=>to σ H fun x H1=>tyV K T x H1/\r x [] H1 Q
noncomputable def tBM(K:PySem.W.Frag)(T:String)(r:V->List V->Hp->VK->Prop)(to:TE)(t:TA):TE:=fun σ H Q=>to σ H fun x H1=>tyV K T x H1/\t σ H1 fun xs H2=>r x xs H2 Q
variable{o e:Expr}{es:List Expr}{to:TE}{t:TA}{name:Str}{apos cpos:Pos}{T id:String}{r:V->List V->Hp->VK->Prop}
theorem Ax(pa:PlainAttrs T)(slot:Slot T name id)(hty:typeOf (.builtin id)=pure (.type "method_descriptor"))(hm:MtR X id r)(ho:PE X o to)
  (hbase:attributeBase o name X.env (eval o X.env)=eval o X.env:=by rfl) (hline:(apos.endLine == cpos.line)=true:=by rfl):PE X (.Call (.Attribute o name apos) [] [] cpos) (Je X.K T r to):=by
 intro pins s σ H Q I h;refine wpAny_Call_method0_late hbase hline (thn (ho pins s σ H _ I h) fun v s1 ⟨x,H1,I1,r1,ty,q1⟩=>?_);obtain⟨h1,h2⟩:=Aw I1 r1 ty;exact⟨T,id,pa,slot,hty,h1,h2,Calls.callWith_builtin rfl (PySem.evalArgs_none (hm pins s1 σ H1 x [] v [] Q I1 r1 .nil q1))⟩
theorem wV(pa:PlainAttrs T)(slot:Slot T name id)(hty:typeOf (.builtin id)=pure (.type "method_descriptor"))(hm:MtR X id r)(ho:PE X o to)(ha:PA X (e::es) t)
  (hbase:attributeBase o name X.env (eval o X.env)=eval o X.env:=by rfl)
  (hfew:((backTo cpos (starEach (e::es) X.env)).all (fun x=>!x.1)&&(backToKw cpos (keywordEach [] X.env)).all (fun x=>x.1.isSome)
   && decide ((e::es).length+([]:List Keyword).length+(if ([]:List Keyword).isEmpty then 0 else 1)<30))=true:=by rfl)
  (hline:(apos.endLine == cpos.line)=true:=by rfl) (hs:starEach (e::es) X.env=(false,eval e X.env)::starEach es X.env:=by rfl) (hplain:(backTo cpos (starEach es X.env)).any (·.1)=false:=by rfl) :
  PE X (.Call (.Attribute o name apos) (e::es) [] cpos) (tBM X.K T r to t):=by
 intro pins s σ H Q I h;refine wpAny_Call_method_late hbase hfew hline rfl (thn (ho pins s σ H _ I h) fun v s1 ⟨x,H1,I1,r1,ty,q1⟩=>?_);obtain⟨h1,h2⟩:=Aw I1 r1 ty;refine⟨T,id,pa,slot,hty,h1,h2,?_⟩;have hA:=ha cpos pins s1 σ H1 _ I1 q1;rw[hs]at hA ⊢;refine Calls.callWith_builtin (by show (false||(backTo cpos (starEach es X.env)).any (·.1))=false;rw[hplain]<;>rfl) (Calls.evalArgs_plain ?_);exact thn hA fun us s2 ⟨vs,H2,I2,r2,q2⟩=>hm pins s2 σ H2 x vs v us Q I2 r1 r2 q2
end
noncomputable def MtM(X:Cx)(id:String)(r:V->List V->Hp->VK->Prop):Prop:=
 ∀(pins:List (Addr×Obj)) (s:Shared) (σ:St) (H:Hp) (x:V) (xs:List V) (v:Value) (us:List Value) (Q:VK),Inv X pins σ H s->RelV x v->Vals xs us->r x xs H Q ->
  wpAny (model X.prog X.w) X.A (call (.builtin id) (v::us)) (EP X pins σ Q) X.xe s
theorem Vals.one:∀{x:V} {us:List Value},Vals [x] us->∃u,us=[u]/\RelV x u
 |_,_,.cons r .nil=>⟨_,rfl,r⟩
theorem Vals.zero:∀{us:List Value},Vals [] us->us=[]
 |_,.nil=>rfl
theorem Vals.dropLast{xs:List V}{us:List Value}(h:Vals xs us):Vals xs.dropLast us.dropLast:=by
 induction h with
 |nil=>exact .nil
 |cons r t ih=>
  cases t with
  |nil=>exact .nil
  |cons q t'=>exact .cons r ih
theorem Vals.eraseIdx:∀{xs:List V} {us:List Value} (i:Nat),Vals xs us->Vals (xs.eraseIdx i) (us.eraseIdx i)
 |_,_,_,.nil=>.nil
 |_,_,0,.cons _ t=>t
 |_,_,i+1,.cons r t=>.cons r (Vals.eraseIdx i t)
theorem Vals.reverse{xs:List V}{us:List Value}(h:Vals xs us):Vals xs.reverse us.reverse:=by
 induction h with
 |nil=>exact .nil
 |cons r t ih=>rw[List.reverse_cons,List.reverse_cons];exact Vals.append ih (.cons r .nil)
theorem Vals.rep{xs:List V}{us:List Value}(h:Vals xs us):∀k:Nat,Vals (List.replicate k xs).flatten (List.replicate k us).flatten
 |0=>.nil
 |k+1=>by rw[List.replicate_succ,List.replicate_succ,List.flatten_cons,List.flatten_cons];exact Vals.append h (Vals.rep h k)
theorem uY{α:Type}(l:List α):l.eraseIdx (l.length-1)=l.dropLast:=by
 induction l with
 |nil=>rfl
 |cons a r ih=>
  cases r with
  |nil=>rfl
  |cons b r=>
   have e:(a::b::r).length-1=((b::r).length-1)+1:=by have h1:(a::b::r).length=r.length+2:=rfl;have h2:(b::r).length=r.length+1:=rfl;omega
   rw[e,List.eraseIdx_cons_succ,ih]
   all_goals rfl
theorem oX{α:Type}:∀(l:List α) (i:Nat),(l.eraseIdx i).length<=l.length
 |[],_=>Nat.le_refl _
 |_::_,0=>Nat.le_succ _
 |_::r,i+1=>Nat.succ_le_succ (oX r i)
theorem foldl_rep(its:List Value):∀(k:Nat) (acc:List Value),
  List.foldl (fun x1 x2=>x1++x2) acc.toArray (List.replicate k its.toArray)=(acc++(List.replicate k its).flatten).toArray
 |0,acc=>by simp
 |k+1,acc=>by
  have e:acc.toArray++its.toArray=(acc++its).toArray:=by simp
  have e2:(acc++its)++(List.replicate k its).flatten=acc++(List.replicate (k+1) its).flatten:=by rw[List.replicate_succ,List.flatten_cons,List.append_assoc]
  rw[<- e2,<- foldl_rep its k (acc++its),<- e,List.replicate_succ,List.foldl_cons]
section
variable{X:Cx}{pins:List (Addr×Obj)}{σ:St}{H:Hp}{s:Shared}{l b:Addr}{xs ys zs:List V}
theorem Inv.Ay{its its':List Value}{n:Nat}{f:Array Value->Array Value}{t':Nat}(I:Inv X pins σ H s)(hH:H l=some (.lst xs))
  (e:s.heap.get? l=some { cls:=.type "list",data:=.seq its.toArray n }) (hf:f its.toArray=its'.toArray) (hv:Vals ys its') (hz:ys.length<=sizeLine) :
  Inv X pins σ (upd H l (.lst ys)) { s with heap:=s.heap.update l (Obj.mapSeq f),toks:=t' }:=by
 have q:=PySem.IsL.update e f;rw[hf]at q;refine I.write (x:=l) (e:=l) (by rw[hH];exact trivial) (.inl rfl) (fun b' u hb hu=>(Heap.get?_update_other s.heap (Obj.mapSeq f) (Ne.symm hb)).trans hu) ⟨_,q⟩ ?_;exact⟨hz,its',_,hv,q⟩
theorem Inv.Jf{its:List Value}{t':Nat}(I:Inv X pins σ H s)(hv:Vals ys its)(hz:ys.length<=sizeLine) :
  Inv X pins σ (upd H s.heap.objs.size (.lst ys)) { s with heap:=s.heap.push { cls:=.type "list",data:=.seq its.toArray },toks:=t' }:=
 I.laid (fun _ _ q=>Heap.get?_push_of_some _ q) (Nat.le_refl _) ⟨hz,its,0,hv,Heap.get?_push_size _ rfl⟩
theorem Inv.fresh(I:Inv X pins σ H s):H s.heap.objs.size=none:=I.hok.fresh (Nat.le_refl _)
theorem Inv.Az(I:Inv X pins σ H s)(hH:H l=some (.lst xs)):xs.length<=sizeLine/\∃(its:List Value) (n:Nat),Vals xs its/\xs.length=its.length/\s.heap.get? l=some { cls:=.type "list",data:=.seq its.toArray n }:=by obtain⟨z,its,n,r,e⟩:=I.hok l _ hH;exact⟨z,its,n,r,r.length,e⟩
theorem rL{n:Nat}(h:n<=sizeLine):Builtin.List.listTooLong n=false:=by unfold Builtin.List.listTooLong;exact decide_eq_false (by omega)
end
section
variable{X:Cx}
noncomputable def qi:V->List V->Hp->VK->Prop:=fun x vs H Q=>∃l xs y,x=.ref l/\vs=[y]/\H l=some (.lst xs)/\xs.length<sizeLine/\Q .non (upd H l (.lst (xs++[y])))
theorem jA:MtM X "list.append" qi:=by intro pins s σ H x vs v us Q I rx rv h;obtain⟨l,xs,y,rfl,rfl,hH,hz,q⟩:=h;cases rx;obtain⟨u,rfl,ru⟩:=rv.one;obtain⟨z,its,n,r,hl,e⟩:=I.Az hH;refine call_meets F.slot_list_append ⟨_,e,rfl⟩ F.entry_list_append (F.args_list_append_2 _ _) (PySem.list_append l its.toArray n u (by rw[List.size_toArray];omega)) ⟨e,?_⟩;refine⟨.non,_,I.Ay (its':=its++[u]) hH e (by simp) (r.append (.cons ru .nil)) ?_,rfl,q⟩;rw[List.length_append,List.length_singleton];omega
noncomputable def LZ:V->List V->Hp->VK->Prop:=fun x vs H Q=>∃l xs y,x=.ref l/\vs=[]/\H l=some (.lst xs)/\xs[xs.length-1]?=some y/\Q y (upd H l (.lst xs.dropLast))
theorem Jg:MtM X "list.pop" LZ:=by
 intro pins s σ H x vs v us Q I rx rv h;obtain⟨l,xs,y,rfl,rfl,hH,hy,q⟩:=h;cases rx;have hus:=rv.zero;subst hus;obtain⟨z,its,n,r,hl,e⟩:=I.Az hH;obtain⟨u,hu,ru⟩:=r.get hy;have hy':its.toArray[its.toArray.size-1]?=some u:=by show its.toArray[its.length-1]?=some u;rw[<- Array.getElem?_toList,<- hl];exact hu
 refine call_meets F.slot_list_pop ⟨_,e,rfl⟩ F.entry_list_pop (F.args_list_pop_1 _) (MeetsSeq.list_pop_last l its.toArray n u hy' (by rw[List.size_toArray];omega)) ⟨e,?_⟩;refine⟨y,_,I.Ay (its':=its.dropLast) hH e ?_ r.dropLast ?_,ru,q⟩
 ·show its.toArray.eraseIdxIfInBounds (its.toArray.size-1)=its.dropLast.toArray
  rw[List.size_toArray,List.eraseIdxIfInBounds_toArray,uY]
 ·rw[List.length_dropLast]
  omega
noncomputable def AA:V->List V->Hp->VK->Prop:=fun x vs H Q=>∃l xs i k y,x=.ref l/\vs=[.int i]/\H l=some (.lst xs)/\-(2 ^ 63)<=i/\i<2 ^ 63/\seqIndex? i xs.length=some k/\xs[k]?=some y/\Q y (upd H l (.lst (xs.eraseIdx k)))
theorem AB:MtM X "list.pop" AA:=by
 intro pins s σ H x vs v us Q I rx rv h;obtain⟨l,xs,i,k,y,rfl,rfl,hH,h1,h2,hk,hy,q⟩:=h;cases rx;obtain⟨u,rfl,ru⟩:=rv.one;obtain⟨t,rfl⟩:=ru;obtain⟨z,its,n,r,hl,e⟩:=I.Az hH;obtain⟨w,hw,rw'⟩:=r.get hy;refine call_meets F.slot_list_pop ⟨_,e,rfl⟩ F.entry_list_pop (F.args_list_pop_2 _ _)
  (MeetsSeq.list_pop_at l its.toArray n i t k w (fitsIndex_both h1 h2) (by rw[List.size_toArray,<- hl];exact hk) (by rw[<- Array.getElem?_toList];exact hw) (by rw[List.size_toArray];omega)) ⟨e,?_⟩
 refine⟨y,_,I.Ay (its':=its.eraseIdx k) hH e ?_ (r.eraseIdx k) ?_,rw',q⟩
 ·show its.toArray.eraseIdxIfInBounds k=(its.eraseIdx k).toArray
  rw[List.eraseIdxIfInBounds_toArray]
 ·have:=oX xs k
  omega
noncomputable def AD:V->List V->Hp->VK->Prop:=fun x vs H Q=>∃l xs,x=.ref l/\vs=[]/\H l=some (.lst xs)/\Q .non (upd H l (.lst []))
theorem AE:MtM X "list.clear" AD:=by intro pins s σ H x vs v us Q I rx rv h;obtain⟨l,xs,rfl,rfl,hH,q⟩:=h;cases rx;have hus:=rv.zero;subst hus;obtain⟨z,its,n,r,hl,e⟩:=I.Az hH;refine call_meets F.slot_list_clear ⟨_,e,rfl⟩ F.entry_list_clear (F.args_list_clear_1 _) (AutoSeq1.list_clear_list_0 l its.toArray n (by rw[List.size_toArray];omega)) ⟨e,?_⟩;exact⟨.non,_,I.Ay (its':=[]) (ys:=[]) hH e rfl .nil (Nat.zero_le _),rfl,q⟩
theorem len_rep{α:Type}(xs:List α)(k:Nat):(List.replicate k xs).flatten.length=k*xs.length:=by
 induction k with
 |zero=>simp
 |succ k ih=>rw[List.replicate_succ,List.flatten_cons,List.length_append,ih,Nat.succ_mul,Nat.add_comm]
end
section
variable{prog:Program}{w:World}{A:Around}{E:Value->Shared->Prop}{s:Shared}
set_option maxRecDepth 100000 in
end
section
variable{X:Cx}
end
end L2
namespace Att
open PySem PySem.W PySem.Calls PyProof.Rows
theorem kK{P:Params}{h:Heap}:∀(ns:List Int) (vs:List Value),WellAll P h vs (ns.map WData.int)->IntsAre vs ns:=by
 intro ns
 induction ns with
 |nil=>intro vs w;rw[List.map_nil]at w;cases w;exact .nil
 |cons n ns ih=>
  intro vs w;rw[List.map_cons]at w;cases w with
  |cons a b=>cases a;exact .cons _ _ (ih _ b)
theorem yY{l:OpenLaw}{n:Nat}(hn:l.most=some n){P:Params}{h:Heap}{args:List WData}{vals:List Value}
  (hpre:l.row.toRowW.claim.pre args=true) (hwl:WellAll P h vals args) :
  ∃a vs ns,vals=[Value.ref a]/\args=[WData.list (ns.map WData.int)]/\h.get? a=some { cls:=.type "list",data:=.seq vs.toArray }/\IntsAre vs ns/\ns.length<=n:=by
 have hsh:WShape.hasAll [] args [.list .int]=true:=(pre_splitW hpre).1;have hc:l.pre.holds [] { args:=args }=true:=(pre_splitW hpre).2;obtain⟨d,r,rfl,h1,h2⟩:=hasAllW_cons hsh;obtain rfl:=hasAllW_nil h2;obtain⟨xs,rfl,h3⟩:=hasW_list h1;obtain⟨ns,rfl⟩:=items_int h3;have hlen:ns.length<=n:=by
  unfold OpenLaw.pre at hc;have h4:(WTm.not (.lt (.lit (.int (n:Int))) (.len (.arg 0)))).holds [] { args:=[.list (ns.map .int)] }=true:=by have h4:=(holds_andW hc).1;rw[hn]at h4;exact h4
  have h5:=condW_of h4 (w_not (w_lt w_lit (w_len_list (w_arg rfl))));rw[List.length_map]at h5;refine Nat.le_of_not_lt fun q=>?_
  have q':(n:Int)<((ns.length:Nat):Int):=by omega
  first
   |(rw[decide_eq_true q']at h5;exact absurd h5 (by decide))
   |(simp at h5;omega)
 cases hwl with
 |cons w1 w2=>
  cases w2;cases w1 with
  |list ho hall=>exact⟨_,_,ns,rfl,rfl,ho,kK ns _ hall,hlen⟩
theorem yZ(l:OpenLaw)(args:List WData):l.row.toRowW.claim.post args (.bool true) args=true:=
 postW_of (r:=l.row.toRowW) (X:=(true == true))
  (show WShape.has [] (.bool true) .bool=true by first | rfl | decide | simp[WShape.has,WShape.arms,WShape.armsAll])
  (show (WTm.eq .res (.lit (.bool true))).value [] { args:=args,res:=some (.bool true),after:=args }=some (.bool (true == true)) from w_eq_bool (w_res rfl) w_lit) rfl
theorem rM{l:OpenLaw}{n:Nat}{q:Program}{loose:List Str}{XP:(Str->Option Value)->Heap->Prop}{YP:World->Heap->Prop}{d:DefRec}
  (hn:l.most=some n) (hdf:d.params.defaults=[])
  (call:∀ (w:World) (s₀ s₁:Shared) (mg mb:Str→Option Value) (fa:Addr) (o:Obj) (pm cd doc:Value) (a:Addr) (vs:List Value) (ns:List Int),
   Ground q loose [] XP w s₀ mg mb s₁.heap->YP w s₁.heap ->
   s₁.heap.get? fa=some o->o.data=.func (docDef d.name d.params d.body d.scope pm cd doc)->s₁.heap.CodeRec cd d.name->mg d.name=some (.ref fa) ->
   s₁.heap.get? a=some { cls:=.type "list",data:=.seq vs.toArray }->IntsAre vs ns->ns.length<=n->s₁.gens=#[] ->
   codeAny (model l.prog w) callerA (.call (.ref fa) ⟨[.ref a],[]⟩) (fun r s'=>r=.ok (.ret (.bool true))/\OldK s₁.heap s'.heap/\s'.os=s₁.os/\AllBare s'.gens) s₁) :
  WalkO q loose XP YP l.row.toRowW d [] (fun f vs=>PySem.call f vs):=by
 intro w s₀ s₁ mg mb G Y fa o pm cd doc dV kV ho hd hcd hD hmg hg args vals as hpre hlay hrd hwl hlo;obtain rfl:dV=.none:=Dflts.none hD hdf;obtain rfl:kV=.none:=Dflts.noKw hD;obtain⟨a,vs,ns,rfl,rfl,hobj,hints,hlen⟩:=yY hn hpre hwl;refine enter_call (codeAny_mono (call w s₀ s₁ mg mb fa o pm cd doc a vs ns G Y ho (fd_plain hd) hcd hmg hobj hints hlen hg) fun r s' hq=>?_);obtain⟨rfl,h2,h3,h4⟩:=hq;exact⟨.inl ⟨.bool true,.bool true,[],rfl,fun _=>rfl,.bool true,yZ l _,fun _=>⟨List.Pairwise.nil,fun _ hm=>(nomatch hm)⟩⟩,h2,h3,h4⟩
section
variable{prog:Program}{w:World}{A:Around}{E:Value->Shared->Prop}{s:Shared}{K:Frag}
end
end Att
namespace L2
open PySem PySem.Spec PyProof.Rows
theorem dQ:∀{vs:List Value} {ns:List Int},IntsAre vs ns->Vals (ns.map V.int) vs
 |_,_,.nil=>.nil
 |_,_,.cons n t h=>.cons ⟨t,rfl⟩ (dQ h)
noncomputable def Jh(H:Hp):Prop:=∀b,H b=none\/∃o xs,H b=some (.frz o (.lst xs))
theorem AF{P:Program}{w:World}{K:PySem.W.Frag}{mg mb:Str->Option Value}{CX:CXT}{k:Nat}{fa a:Addr}{fd:FuncData}{x:Str}{sp:Sp}{s₁:Shared}{vs:List Value}{ns:List Int}
  (KX:K.In s₁.heap) (hns:s₁.heap.Ns mainGlobals mg) (hb:s₁.heap.Ns builtinsNs mb) (hbb:∀x:Str,x ≠ "__name__" -> mb x=bootBuiltins x) (hlim:s₁.heap.NoLimit) (hg:s₁.gens=#[])
  (ha:s₁.heap.get? a=some { cls:=.type "list",data:=.seq vs.toArray }) (hi:IntsAre vs ns) (hl:ns.length<=sizeLine) (hr:bA k callerA)
  (F:∀base:Heap,K.In base->base.Ns mainGlobals mg->aO P w K mg base CX k fa fd [x] sp) (hbind:∀(s:Shared) (u:Value),BindsTo s fd ⟨[u],[]⟩ [(x,u)])
  (hsp:∀H:Hp,Jh H->SqL K H a (ns.map V.int)->sp [.ref a] H (fun v _=>v=.bl true) fun _ _ _=>False)
  (hCX:∀H e s',CX [] H s₁ (fun _ _ _=>False) e s'->False) :
  codeAny (model P w) callerA (.call (.ref fa) ⟨[.ref a],[]⟩) (fun r s'=>r=.ok (.ret (.bool true))/\OldK s₁.heap s'.heap/\s'.os=s₁.os/\AllBare s'.gens) s₁:=by
 have rv:=dQ hi;have OG:=hi.length;have core:∀H:Hp,Jh H->SqL K H a (ns.map V.int)->HOk P w H s₁.heap->(∀b,H b≠none->b=a)->(H a≠none->K.lookup a=none) ->
   codeAny (model P w) callerA (.call (.ref fa) ⟨[.ref a],[]⟩) (fun r s'=>r=.ok (.ret (.bool true))/\OldK s₁.heap s'.heap/\s'.os=s₁.os/\AllBare s'.gens) s₁:=by
  intro H hO hS hok hA hK;have wW:∀{b:Addr} {o:Obj},s₁.heap.get? b=some o->H b=none->(p9 s₁.heap H).get? b=some o:=fun e n=>z8 e n
  have noA:∀{b:Addr} {o:Obj} {es:Array DictEntry} {ep:Nat},s₁.heap.get? b=some o->o.data=.dict es ep->H b=none:=fun {b o es ep} e d=>by
   cases q:H b with
   |none=>rfl
   |some u=>have e':b=a:=hA b (by rw[q];simp);subst e';rw[ha]at e;cases e;have d':Data.seq vs.toArray _=Data.dict es ep:=d;cases d'
  have nsK:∀{b:Addr} {m:Str->Option Value},s₁.heap.Ns b m->(p9 s₁.heap H).Ns b m:=fun {b m} ⟨o,es,ep,e,d,r⟩=>⟨o,es,ep,wW e (noA e d),d,r⟩
  have hKb:K.In (p9 s₁.heap H):=fun b o e=>wW (KX b o e) (by
   cases q:H b with
   |none=>rfl
   |some u=>have e':b=a:=hA b (by rw[q];simp);subst e';rw[hK (by rw[q];simp)]at e;cases e)
  have hM:Mod K mg (p9 s₁.heap H):=⟨hKb,nsK hns,⟨mb,nsK hb,hbb⟩,let ⟨mc,h1,h2⟩:=hlim;⟨mc,nsK h1,h2⟩⟩
  have e0:Et P w K mg (p9 s₁.heap H) callerA [] s₁ H:=⟨rfl,hM,fun b o e=>Eh e,Nat.le_of_eq (yI _ _),trivial,fun b hb=>absurd (show b∈([]:List Addr) from hb) (by simp),hok,.of_eq hg⟩
  refine codeAny_mono ((F _ hKb (nsK hns)).run callerA [] s₁ H ⟨[.ref a],[]⟩ [.ref a] [.ref a] _ _ hr e0 (hbind s₁ (.ref a)) (.cons rfl .nil) (hsp H hO hS)) fun r s' h=>?_
  cases r with
  |error e=>exact(hCX H e s' h).elim
  |ok fl=>
   cases fl with
   |next=>exact False.elim h
   |brk=>exact False.elim h
   |cont=>exact False.elim h
   |ret u=>
    obtain⟨v,H',os,bare,un,OH,r',q⟩:=h;have q':v=.bl true:=q;subst q';obtain rfl:u=Value.bool true:=r';refine⟨rfl,OldK.of_keep fun b o e=>?_,os,bare⟩;cases q:H b with
    |none=>exact un.keep b o e q (by intro z;exact absurd (show b∈([]:List Addr) from z) (by simp)) (by simp)
    |some u=>
     rcases hO b with z | ⟨ob,xs,z⟩
     ·rw[q]at z;cases z
     ·have z2:=un.p8 b ob _ z
      obtain⟨e1,_⟩:=hok b _ z;obtain⟨e2,_⟩:=OH b _ z2;rw[e]at e1;cases e1;exact e2
 cases hk:K.lookup a with
 |some o=>have e:=KX a o hk;rw[ha]at e;cases e;refine core (fun _=>none) (fun _=>.inl rfl) (.inr ⟨_,vs.toArray,_,hk,rfl,rfl,rfl,by rw[List.size_toArray,OG];exact hl,by simpa using rv⟩) (fun b u z=>by have z':(none:Option HO)=some u:=z;cases z') (fun b z=>absurd rfl z) fun z=>absurd rfl z
 |none=>
  refine core (fun b=>if b=a then some (.frz { cls:=.type "list",data:=.seq vs.toArray } (.lst (ns.map V.int))) else none) (fun b=>?_) (.inl (.inr ⟨{ cls:=.type "list",data:=.seq vs.toArray },if_pos rfl⟩)) (fun b u z=>?_) (fun b z=>?_) fun _=>hk
  ·by_cases hb:b=a
   ·exact .inr ⟨_,_,if_pos hb⟩
   ·exact .inl (if_neg hb)
  ·by_cases hb:b=a
   ·have z':=(if_pos hb).symm.trans z
    cases z';subst hb;exact⟨ha,by rw[List.length_map];exact hl,vs,_,rv,ha⟩
   ·have z':=(if_neg hb).symm.trans z
    cases z'
  ·by_cases hb:b=a
   ·exact hb
   ·exact absurd (if_neg hb) z
theorem Ex{l:PySem.W.OpenLaw}{n k:Nat}{q:Program}{loose:List Str}{XP:(Str->Option Value)->Heap->Prop}{YP:World->Heap->Prop}{d:DefRec}{K:Params->PySem.W.Frag}{CX:World->CXT}{sp:World->Sp}{x:Str}
  (hn:l.most=some n) (hn2:n<=sizeLine) (hdf:d.params.defaults=[]) (hr:bA k callerA)
  (hY:∀(w:World) (h:Heap),YP w h->(K w.params).In h)
  (F:∀ (w:World) (mg:Str→Option Value) (fa:Addr) (h:Heap),(K w.params).In h→h.Ns mainGlobals mg→mg d.name=some (.ref fa) →
   ∃fd:FuncData,(∀(s:Shared) (u:Value),BindsTo s fd ⟨[u],[]⟩ [(x,u)]) /\
    ∀base:Heap,(K w.params).In base->base.Ns mainGlobals mg->aO l.prog w (K w.params) mg base (CX w) k fa fd [x] (sp w))
  (hsp:∀(w:World) (H:Hp) (a:Addr) (ns:List Int),ns.length<=n->Jh H->SqL (K w.params) H a (ns.map V.int)->sp w [.ref a] H (fun v _=>v=.bl true) fun _ _ _=>False)
  (hCX:∀(w:World) (H:Hp) (s:Shared) (e:Value) (s':Shared),CX w [] H s (fun _ _ _=>False) e s'->False) :
  PySem.W.WalkO q loose XP YP l.row.toRowW d [] (fun f vs=>PySem.call f vs):=by
 refine Att.rM hn hdf fun w s₀ s₁ mg mb fa o pm cd doc a vs ns G Y ho hd hcd hmg hobj hints hlen hg=>?_
 have KX:=hY w _ Y;obtain⟨fd,hb,hF⟩:=F w mg fa _ KX G.T.g hmg;exact AF KX G.T.g G.T.b G.T.builtins G.T.nolimit hg hobj hints (Nat.le_trans hlen hn2) hr hF hb (fun H hO hS=>hsp w H a ns hlen hO hS) fun H e s'=>hCX w H s₁ e s'
noncomputable def bw(s:Stmt):Arguments:=match s with
 |.FunctionDef _ a _ _ _ _ _ _ _ _=>a
 |_=>{ posonlyargs:=[],args:=[],vararg:=none,kwonlyargs:=[],kw_defaults:=[],kwarg:=none,defaults:=[] }
noncomputable def bh(s:Stmt):List Stmt:=match s with
 |.FunctionDef _ _ b _ _ _ _ _ _ _=>b
 |_=>[]
noncomputable def ai(s:Stmt):Scope:=match s with
 |.FunctionDef _ _ _ _ _ _ sc _ _ _=>sc
 |_=>{ kind:=.function,names:=[],isGenerator:=false,isCoroutine:=false }
noncomputable abbrev CX0:CXT:=fun _ _ _ _ _ _=>False
noncomputable abbrev E0:XK:=fun _ _ _=>False
theorem wX{X:Cx}:Passes CX0 X E0:=fun _ _ _ _ _ _ _ h=>h.elim
structure Fun(K:PySem.W.Frag)(x qual:Str)(st:Stmt)(f:Addr)(fd:FuncData):Prop where
 ex:∃(oc:Value) (od:Option Addr) (kV doc pm:Value) (an:Option Addr) (cdv ct:Value) (osl:Array (Option Value)),
  fd=PySem.W.fnOf x qual (bw st) (bh st) (ai st) .none kV doc pm an cdv ct/\K.lookup f=some ⟨oc,od,.func fd,osl⟩/\PySem.W.codeIn K cdv qual=true
 kp:PySem.W.keepIn K (.ref f)=true
section
variable{P:Program}{w:World}{K:PySem.W.Frag}{mg:Str->Option Value}{base:Heap}
theorem Fun.ok{x qual:Str}{st:Stmt}{f:Addr}{fd:FuncData}{N ps:List Str}{k:Nat}{sp:Sp}(F:Fun K x qual st f fd)(S:aq N ps (ai st))(len:∀vs H Q E,sp vs H Q E->vs.length=ps.length)
  (hbody:∀ (cdv:Value) (A:Around) (outer:List Env) (s:Shared) (H:Hp) (vs:List V) (Q:VK) (E:XK),bA k (A.deeper (envOfC qual (ai st) s.heap.objs.size f cdv))→sp vs H Q E →
   ∃t,PSs (yV CX0 P w K mg base N qual (ai st) f cdv A outer s H E).nox (bh st) t/\t { nx:=fun _ H'=>Q .non H',rt:=Q } (start N vs) H):aO P w K mg base CX0 (k+1) f fd ps sp:=by
 obtain⟨oc,od,kV,doc,pm,an,cdv,ct,osl,rfl,lk,hcd⟩:=F.ex;refine LW lk hcd S len fun A outer s H vs Q E hr hsp=>?_
 obtain⟨t,h,q⟩:=hbody cdv A outer s H vs Q E hr hsp;exact⟨t,h.nox,q⟩
theorem Fun.binds{x qual:Str}{st:Stmt}{f:Addr}{fd:FuncData}{ps:List Str}(F:Fun K x qual st f fd)
  (h:∀(kV doc pm:Value) (an:Option Addr) (cdv ct:Value) (us:List Value),us.length=ps.length->bindArgs (PySem.W.fnOf x qual (bw st) (bh st) (ai st) .none kV doc pm an cdv ct) ⟨us,[]⟩=pure (ps.zip us)):Binds K fd ps []:=by
 obtain⟨oc,od,kV,doc,pm,an,cdv,ct,osl,rfl,lk,hcd⟩:=F.ex;exact .all (h kV doc pm an cdv ct)
theorem Ji{x qual:Str}{st:Stmt}{f:Addr}{oc:Value}{od an:Option Addr}{osl:Array (Option Value)}{kV doc pm cdv ct:Value}(l:K.lookup f=some ⟨oc,od,.func (PySem.W.fnOf x qual (bw st) (bh st) (ai st) .none kV doc pm an cdv ct),osl⟩)
  (c:PySem.W.codeIn K cdv qual=true) (k:PySem.W.keepIn K (.ref f)=true):Fun K x qual st f (PySem.W.fnOf x qual (bw st) (bh st) (ai st) .none kV doc pm an cdv ct):=⟨⟨oc,od,kV,doc,pm,an,cdv,ct,osl,rfl,l,c⟩,k⟩
end
section
variable{X:Cx}
end
noncomputable def au(H H':Hp):Prop:=∀b o,H b=some o->H' b=some o
theorem au.refl(H:Hp):au H H:=fun _ _ h=>h
theorem au.trans{H H1 H2:Hp}(a:au H H1)(b:au H1 H2):au H H2:=fun c o h=>b c o (a c o h)
theorem au.free{H H':Hp}(e:au H H'){l:Addr}(h:H' l=Option.none):H l=Option.none:=by
 cases q:H l with
 |none=>rfl
 |some o=>rw[e l o q]at h;cases h
section
variable{κ:Type}[DecidableEq κ]
noncomputable def gu(kvs:List (κ×V))(k:κ):Option V:=(kvs.find? fun kv=>decide (kv.1=k)).map (·.2)
noncomputable def putK(kvs:List (κ×V))(k:κ)(v:V):List (κ×V):=
 if (kvs.any fun kv=>decide (kv.1=k))=true then kvs.map (fun kv=>if kv.1=k then (kv.1,v) else kv) else kvs++[(k,v)]
noncomputable def j0(kvs:List (κ×V))(k:κ):List (κ×V):=kvs.filter fun kv=>decide (kv.1≠k)
theorem iX{p:κ×V}{r:List (κ×V)}{k:κ}(e:p.1=k):gu (p::r) k=some p.2:=by simp[gu,List.find?_cons,e]
theorem iY{p:κ×V}{r:List (κ×V)}{k:κ}(e:¬p.1=k):gu (p::r) k=gu r k:=by simp[gu,List.find?_cons,e]
theorem rN(k:κ):∀kvs:List (κ×V),(kvs.any fun kv=>decide (kv.1=k))=(gu kvs k).isSome
 |[]=>rfl
 |p::r=>by
  rw[List.any_cons];by_cases e:p.1=k
  ·simp only[iX e,decide_eq_true e,Bool.true_or,Option.isSome_some]
  ·rw[iY e,decide_eq_false e,Bool.false_or];exact rN k r
theorem fm(kvs:List (κ×V))(k:κ)(v:V):(putK kvs k v).length<=kvs.length+1:=by
 unfold putK;split
 ·rw[List.length_map];omega
 ·rw[List.length_append,List.length_cons,List.length_nil];omega
theorem iO.dR{o:Option V}{u:Option Value}(r:iO o u):o.isSome=u.isSome:=by
 cases o with
 |none=>cases u with
  |none=>rfl
  |some _=>exact(show False from r).elim
 |some _=>cases u with
  |none=>exact(show False from r).elim
  |some _=>rfl
theorem iO.getD{o:Option V}{u:Option Value}{d:V}{d':Value}(r:iO o u)(rd:RelV d d'):RelV (o.getD d) (u.getD d'):=by
 cases o with
 |none=>cases u with
  |none=>exact rd
  |some _=>exact(show False from r).elim
 |some _=>cases u with
  |none=>exact(show False from r).elim
  |some _=>exact r
theorem KV.val{kvs:List (κ×V)}{vs:List (κ×Value)}(r:KV kvs vs)(k:κ):iO (gu kvs k) (valueAt vs k):=by
 unfold KV at r
 induction r with
 |nil=>exact True.intro
 |@cons p q ps qs h t ih=>
  obtain⟨h1,h2⟩:=h;by_cases e:p.1=k
  ·have e':q.1=k:=h1.symm.trans e
   have b:valueAt (q::qs) k=some q.2:=by simp[valueAt,List.find?_cons,e']
   rw[iX e,b];exact h2
  ·have e':¬q.1=k:=fun z=>e (h1.trans z)
   have b:valueAt (q::qs) k=valueAt qs k:=by simp[valueAt,List.find?_cons,e']
   rw[iY e,b];exact ih
theorem KV.any{kvs:List (κ×V)}{vs:List (κ×Value)}(r:KV kvs vs)(k:κ):(kvs.any fun kv=>decide (kv.1=k))=vs.any fun kv=>decide (kv.1=k):=by
 unfold KV at r
 induction r with
 |nil=>rfl
 |cons h t ih=>rw[List.any_cons,List.any_cons,ih,h.1]
theorem KV.repl{kvs:List (κ×V)}{vs:List (κ×Value)}(r:KV kvs vs)(k:κ){y:V}{u:Value}(ry:RelV y u) :
  KV (kvs.map fun kv=>if kv.1=k then (kv.1,y) else kv) (vs.map fun kv=>if kv.1=k then (kv.1,u) else kv):=by
 unfold KV at r ⊢
 induction r with
 |nil=>exact .nil
 |@cons p q ps qs h t ih=>
  rw[List.map_cons,List.map_cons];refine .cons ?_ ih;obtain⟨h1,h2⟩:=h;by_cases e:p.1=k
  ·rw[if_pos e,if_pos (h1.symm.trans e)];exact⟨h1,ry⟩
  ·rw[if_neg e,if_neg (fun z=>e (h1.trans z))];exact⟨h1,h2⟩
theorem KV.put{kvs:List (κ×V)}{vs:List (κ×Value)}(r:KV kvs vs)(k:κ){y:V}{u:Value}(ry:RelV y u):KV (putK kvs k y) (stored vs k u):=by
 unfold putK stored;rw[r.any k];by_cases e:(vs.any fun kv=>decide (kv.1=k))=true
 ·rw[if_pos e,if_pos e];exact r.repl k ry
 ·rw[if_neg e,if_neg e];exact Paired.snoc r ⟨rfl,ry⟩
theorem KV.drop{kvs:List (κ×V)}{vs:List (κ×Value)}(r:KV kvs vs)(k:κ):KV (j0 kvs k) (without vs k):=by
 unfold KV at r ⊢;unfold j0 without
 induction r with
 |nil=>exact .nil
 |@cons p q ps qs h t ih=>
  obtain⟨h1,h2⟩:=h;rw[List.filter_cons,List.filter_cons];by_cases e:p.1=k
  ·have a:¬decide (p.1≠k)=true:=by simp[e]
   have b:¬decide (q.1≠k)=true:=by simp[h1.symm.trans e]
   rw[if_neg a,if_neg b];exact ih
  ·have e':¬q.1=k:=fun z=>e (h1.trans z)
   have a:decide (p.1≠k)=true:=by simp[e]
   have b:decide (q.1≠k)=true:=by simp[e']
   rw[if_pos a,if_pos b];exact .cons ⟨h1,h2⟩ ih
theorem KV.length{kvs:List (κ×V)}{vs:List (κ×Value)}(r:KV kvs vs):kvs.length=vs.length:=Paired.length r
theorem AG(kvs:List (κ×V))(k:κ):(j0 kvs k).length<=kvs.length:=List.length_filter_le _ _
end
theorem j3{P:Program}{w:World}{k:Key}{u:Value}(r:RelV (kV k) u):(aS P w).is k u=true:=by
 cases k with
 |inl i=>obtain⟨t,e⟩:=(show ∃t,u=Value.int i t from r);subst e;exact rq P w i t
 |inr x=>obtain⟨t,e⟩:=(show ∃t,u=Value.str x t from r);subst e;exact rz P w x t
theorem oY{P:Program}{w:World}:∀{ks:List Key} {us:List Value},Vals (ks.map kV) us->ItemsAre (aS P w) ks us
 |[],_,r=>by rw[List.map_nil]at r;cases r;exact .nil
 |k::ks,_,r=>by
  rw[List.map_cons]at r;cases r with
  |cons h t=>exact .cons (j3 h) (oY t)
noncomputable abbrev KT(H:Hp):List (List Key×V)->List (List Key×Addr×Value)->Prop:=Paired fun p q=>p.1=q.1/\H q.2.1=some (.tup (p.1.map kV))/\RelV p.2 q.2.2
theorem KT.val{H:Hp}{kvs:List (List Key×V)}{xs:List (List Key×Addr×Value)}(r:KT H kvs xs)(k:List Key):iO (gu kvs k) ((atKey xs k).map (·.2)):=by
 induction r with
 |nil=>exact True.intro
 |@cons p q ps qs h t ih=>
  obtain⟨h1,_,h2⟩:=h;by_cases e:p.1=k
  ·have e':q.1=k:=h1.symm.trans e
   have b:atKey (q::qs) k=some q.2:=by simp[atKey,List.find?_cons,e']
   rw[iX e,b];exact h2
  ·have e':¬q.1=k:=fun z=>e (h1.trans z)
   have b:atKey (q::qs) k=atKey qs k:=by simp[atKey,List.find?_cons,e']
   rw[iY e,b];exact ih
theorem KT.repl{H:Hp}{kvs:List (List Key×V)}{xs:List (List Key×Addr×Value)}(r:KT H kvs xs)(k:List Key){y:V}{u:Value}(ry:RelV y u) :
  KT H (kvs.map fun kv=>if kv.1=k then (kv.1,y) else kv) (xs.map (putAt k u)):=by
 induction r with
 |nil=>exact .nil
 |@cons p q ps qs h t ih=>
  rw[List.map_cons,List.map_cons];refine .cons ?_ ih;obtain⟨h1,h2,h3⟩:=h;unfold putAt;by_cases e:p.1=k
  ·rw[if_pos e,if_pos (h1.symm.trans e)];exact⟨h1,h2,ry⟩
  ·rw[if_neg e,if_neg (fun z=>e (h1.trans z))];exact⟨h1,h2,h3⟩
theorem KT.put{H:Hp}{kvs:List (List Key×V)}{xs:List (List Key×Addr×Value)}(r:KT H kvs xs)(k:List Key){b:Addr}{y:V}{u:Value}(hb:H b=some (.tup (k.map kV)))(ry:RelV y u) :
  KT H (putK kvs k y) (storedH xs k b u):=by
 have e:(kvs.any fun kv=>decide (kv.1=k))=(atKey xs k).isSome:=by rw[rN,(r.val k).dR,Option.isSome_map]
 unfold putK storedH;rw[e];by_cases q:(atKey xs k).isSome=true
 ·rw[if_pos q,if_pos q];exact r.repl k ry
 ·rw[if_neg q,if_neg q];exact Paired.snoc r ⟨rfl,hb,ry⟩
theorem KT.keeps{H H':Hp}{kvs:List (List Key×V)}{xs:List (List Key×Addr×Value)}(r:KT H kvs xs)(ht:∀b ys,H b=some (.tup ys)->H' b=some (.tup ys)):KT H' kvs xs:=
 Paired.Iu r fun _ _ z=>⟨z.1,ht _ _ z.2.1,z.2.2⟩
section
variable{P:Program}{w:World}{H:Hp}{h:Heap}{a:Addr}
theorem GU{u:HO}(ok:HOk P w H h)(e:Rd H a u):a_ P w H h a u:=e.ok ok
theorem j4{kvs:List (Key×V)}(ok:HOk P w H h)(e:Rd H a (.dK kvs)):kvs.length<=sizeLine/\(a == sysModules)=false/\∃vs,KV kvs vs/\h.DictOf (aS P w) a vs:=
 show a_ P w H h a (.dK kvs) from GU ok e
theorem wY{kvs:List (Key×V)}(ok:HOk P w H h)(e:H a=some (.dK kvs)):kvs.length<=sizeLine/\(a == sysModules)=false/\∃vs,KV kvs vs/\h.DictOf (aS P w) a vs:=j4 ok (.inl e)
theorem jB{ks:List Key}(ok:HOk P w H h)(e:H a=some (.tup (ks.map kV))):(tupleKind (aS P w)).is h ks a:=by
 obtain⟨_,its,r,o,h1,h2,n,h3⟩:=(show a_ P w H h a (.tup (ks.map kV)) from ok a _ e)
 exact⟨o,its.toArray,n,h1,h2,h3,by simpa using oY r⟩
theorem lz{kvs:List (List Key×V)}(ok:HOk P w H h)(e:Rd H a (.dT kvs)):kvs.length<=sizeLine/\(a == sysModules)=false /\
  ∃xs,KT H kvs xs/\h.DictOfH (tupleKind (aS P w)) a xs:=by
 obtain⟨z,y,xs,r,o,es,ep,h1,h2,h3,h4,h5⟩:=(show a_ P w H h a (.dT kvs) from GU ok e)
 refine⟨z,y,xs,r,o,es,ep,h1,h2,h3,h4,fun x hx=>?_,h5⟩;have all:∀{l:List (List Key×V)} {m:List (List Key×Addr×Value)},KT H l m->∀x∈m,(tupleKind (aS P w)).is h x.1 x.2.1:=by
  intro l m q
  induction q with
  |nil=>intro x hx;exact nomatch hx
  |@cons p q ps qs hq t ih=>
   intro x hx;rcases List.mem_cons.mp hx with e | hx
   ·subst e
    exact jB ok (by rw[<- hq.1];exact hq.2.1)
   ·exact ih x hx
 exact all r x hx
theorem L3{kvs:List (List Key×V)}(ok:HOk P w H h)(e:H a=some (.dT kvs)):kvs.length<=sizeLine/\(a == sysModules)=false /\
  ∃xs,KT H kvs xs/\h.DictOfH (tupleKind (aS P w)) a xs:=lz ok (.inl e)
end
noncomputable def e8(H:Hp)(a:Addr)(y:V)(r:Option V):Prop:=
 (∃kvs k,Rd H a (.dK kvs)/\y=kV k/\r=gu kvs k)\/∃kvs k b,Rd H a (.dT kvs)/\y=.ref b/\H b=some (.tup (k.map kV))/\r=gu kvs k
noncomputable def AH(H:Hp)(a:Addr)(y v:V)(H':Hp):Prop:=
 (∃kvs k,H a=some (.dK kvs)/\y=kV k/\kvs.length<sizeLine/\H'=upd H a (.dK (putK kvs k v))) \/
 ∃kvs k b,H a=some (.dT kvs)/\y=.ref b/\H b=some (.tup (k.map kV))/\kvs.length<sizeLine/\H'=upd H a (.dT (putK kvs k v))
theorem e8.k{H:Hp}{a:Addr}{kvs:List (Key×V)}{k:Key}(e:H a=some (.dK kvs)):e8 H a (kV k) (gu kvs k):=.inl ⟨kvs,k,.inl e,rfl,rfl⟩
theorem AH.k{H:Hp}{a:Addr}{kvs:List (Key×V)}{k:Key}{v:V}(e:H a=some (.dK kvs))(hl:kvs.length<sizeLine):AH H a (kV k) v (upd H a (.dK (putK kvs k v))):=.inl ⟨kvs,k,e,rfl,hl,rfl⟩
section
variable{X:Cx}{pins:List (Addr×Obj)}{σ:St}{H:Hp}{s:Shared}{a:Addr}{y v:V}{u r:Value}{o:Option V}{A:Around}{E:Value->Shared->Prop}
theorem Inv.big(I:Inv X pins σ H s):sysModules<s.heap.objs.size:=by have h:mainGlobals<s.heap.objs.size:=(I.mod.glob.keeps I.bk).lt;exact Nat.lt_trans (by decide) h
theorem y9{Q:Value->Shared->Prop}(hu:A.units+1<cLine)(I:Inv X pins σ H s)(g:e8 H a y (some v))(ry:RelV y u)(h:∀w' s',Inv X pins σ H s'->RelV v w'->Q w' s') :
  wpAny (model X.prog X.w) A (getItem (.ref a) u) Q E s:=by
 rcases g with⟨kvs,k,e,ey,l⟩ | ⟨kvs,k,b,e,ey,eb,l⟩
 ·subst ey
  obtain⟨z,hd,vs,rel,dd⟩:=j4 I.hok e;obtain⟨w',hw,rw'⟩:=iO.some_of (v:=v) (o:=valueAt vs k) (by rw[l];exact rel.val k);exact wpAny_getItem_of (j3 ry) dd.mapOf hw (h w' _ (I.tok _) rw')
 ·subst ey
  cases (show u=Value.ref b from ry);obtain⟨z,hd,xs,rel,dd⟩:=lz I.hok e;obtain⟨w',hw,rw'⟩:=iO.some_of (v:=v) (o:=(atKey xs k).map (·.2)) (by rw[l];exact rel.val k);obtain⟨p,hp,hp2⟩:=Option.map_eq_some_iff.mp hw;refine wpAny_getItem_heap (tupleKind_room_in1 hu) (jB I.hok eb) dd hp ?_;rw[hp2];exact h w' _ (I.tok _) rw'
theorem OI{Q:Value->Shared->Prop}(hu:A.units+1<cLine)(I:Inv X pins σ H s)(g:e8 H a y o)(ry:RelV y u)(h:∀s',Inv X pins σ H s'->Q (.bool o.isSome) s') :
  wpAny (model X.prog X.w) A (compareOp .In u (.ref a)) Q E s:=by
 rcases g with⟨kvs,k,e,ey,l⟩ | ⟨kvs,k,b,e,ey,eb,l⟩
 ·subst ey
  obtain⟨z,hd,vs,rel,dd⟩:=j4 I.hok e;refine wpAny_in_of (j3 ry) hd dd.mapOf ?_;rw[<- (rel.val k).dR,<- l];exact h _ (I.tok _)
 ·subst ey
  cases (show u=Value.ref b from ry);obtain⟨z,hd,xs,rel,dd⟩:=lz I.hok e;refine wpAny_in_heap (tupleKind_room_in1 hu) (jB I.hok eb) hd dd ?_;have q:=(rel.val k).dR;rw[Option.isSome_map]at q;rw[<- q,<- l];exact h _ (I.tok _)
theorem Ey{Q:Value->Shared->Prop}(hu:A.units+1<cLine)(I:Inv X pins σ H s)(g:e8 H a y o)(ry:RelV y u)(h:∀s',Inv X pins σ H s'->Q (.bool (!o.isSome)) s') :
  wpAny (model X.prog X.w) A (compareOp .NotIn u (.ref a)) Q E s:=by
 rcases g with⟨kvs,k,e,ey,l⟩ | ⟨kvs,k,b,e,ey,eb,l⟩
 ·subst ey
  obtain⟨z,hd,vs,rel,dd⟩:=j4 I.hok e;refine wpAny_notIn_of (j3 ry) hd dd.mapOf ?_;rw[<- (rel.val k).dR,<- l];exact h _ (I.tok _)
 ·subst ey
  cases (show u=Value.ref b from ry);obtain⟨z,hd,xs,rel,dd⟩:=lz I.hok e;refine wpAny_notIn_heap (tupleKind_room_in1 hu) (jB I.hok eb) hd dd ?_;have q:=(rel.val k).dR;rw[Option.isSome_map]at q;rw[<- q,<- l];exact h _ (I.tok _)
theorem kT{h':Heap}{t':Nat}{ob:HO}(I:Inv X pins σ H s)(mu:Mut (H a))(hs:Heap.SameBut a s.heap h')(he:∃q,h'.get? a=some q)(new:a_ X.prog X.w (upd H a ob) h' a ob) :
  Inv X pins σ (upd H a ob) { s with heap:=h',toks:=t' }:=
 I.write (x:=a) (e:=a) mu (.inl rfl) (fun b q hb z=>(hs.2 b hb).trans z) he new
theorem qj{P:Program}{w:World}{H':Hp}{h':Heap}{kvs:List (Key×V)}{vs:List (Key×Value)}(z:kvs.length<=sizeLine)(hd:(a == sysModules)=false)(rel:KV kvs vs)(dd:h'.DictOf (aS P w) a vs) :
  a_ P w H' h' a (.dK kvs):=⟨z,hd,vs,rel,dd⟩
theorem y_{H':Hp}{Q:Unit->Shared->Prop}(hu:A.units+1<cLine)(I:Inv X pins σ H s)(g:AH H a y v H')(ry:RelV y u)(rv:RelV v r)(h:∀s',Inv X pins σ H' s'->Q () s') :
  wpAny (model X.prog X.w) A (setItem (.ref a) u r) Q E s:=by
 rcases g with⟨kvs,k,e,ey,l,eH⟩ | ⟨kvs,k,b,e,ey,eb,l,eH⟩
 ·subst ey eH
  obtain⟨z,hd,vs,rel,dd⟩:=wY I.hok e;have hz:vs.length<=sizeLine:=by rw[<- rel.length];exact z
  have hl:(putK kvs k v).length<=sizeLine:=by have:=fm kvs k v;omega
  refine wpAny_setItem_pairs (hsz:=hz) (j3 ry) dd fun h' dd' hs=>h _ ?_
  have he:∃q,h'.get? a=some q:=let ⟨q,_,_,hq,_⟩:=dd';⟨q,hq⟩
  exact kT I (by rw[e];exact True.intro) hs he (qj hl hd (rel.put k rv) dd')
 ·subst ey eH
  cases (show u=Value.ref b from ry);obtain⟨z,hd,xs,rel,dd⟩:=L3 I.hok e;have hz:xs.length<=sizeLine:=by rw[<- Paired.length rel];exact z
  have hl:(putK kvs k v).length<=sizeLine:=by have:=fm kvs k v;omega
  refine wpAny_setItem_heap (hsz:=hz) (tupleKind_room_in1 hu) (jB I.hok eb) dd fun h' dd' hs=>h _ ?_
  obtain⟨q,es,ep,hq,h2,h3,h4,_,h5⟩:=dd';refine kT I (by rw[e];exact True.intro) hs ⟨q,hq⟩ ⟨hl,hd,_,(rel.put k eb rv).keeps fun c ys ec=>?_,q,es,ep,hq,h2,h3,h4,h5⟩;rw[aA (LF ec e (fun z=>nomatch z))];exact ec
end
section
variable{X:Cx}{pins:List (Addr×Obj)}{σ:St}{H:Hp}{s:Shared}{a:Addr}{kvs:List (Key×V)}{k:Key}{u:Value}{A:Around}{E:Value->Shared->Prop}
theorem AI{v:V}{more:List Value}{Q:Value->Shared->Prop}(I:Inv X pins σ H s)(e:H a=some (.dK kvs))(ry:RelV (kV k) u)(l:gu kvs k=some v)(hm:more=[]\/∃x,more=[x])
  (h:∀w' s',Inv X pins σ (upd H a (.dK (j0 kvs k))) s'->RelV v w'->Q w' s'):wpAny (model X.prog X.w) A (call (.builtin "dict.pop") (.ref a::u::more)) Q E s:=by
 obtain⟨z,hd,vs,rel,dd⟩:=wY I.hok e;obtain⟨w',hw,rw'⟩:=iO.some_of (v:=v) (o:=valueAt vs k) (by rw[<- l];exact rel.val k);have hp:(keyPart u).isSome=true:=by
  cases k with
  |inl i=>obtain⟨t,q⟩:=(show ∃t,u=Value.int i t from ry);subst q;rfl
  |inr x=>obtain⟨t,q⟩:=(show ∃t,u=Value.str x t from ry);subst q;rfl
 have ha:argsOk "dict.pop" ⟨.ref a::u::more,[]⟩:=by
  rcases hm with q | ⟨x,q⟩
  ·subst q;exact PySem.F.args_dict_pop_2 _ _
  ·subst q;exact PySem.F.args_dict_pop_3 _ _ _
 refine call_meetsIn PySem.F.slot_dict_pop dd.typeIs PySem.F.entry_dict_pop ha (meets_dict_pop_there (aS X.prog X.w) a (j3 ry) more hm hp)
  ⟨vs,w',dd,by rw[<- rel.length];exact z,hw,fun h' dd' hs=>h w' _ ?_ rw'⟩
 have he:∃q,h'.get? a=some q:=let ⟨q,_,_,hq,_⟩:=dd';⟨q,hq⟩
 exact kT I (by rw[e];exact True.intro) hs he (qj (Nat.le_trans (AG kvs k) z) hd (rel.drop k) dd')
end
noncomputable def Jj(i:Expr):Prop:=∀ov iv,subscripted i false ov iv=operate [ov,iv] (getItem ov iv)
theorem Ez{prog:Program}{w:World}{A:Around}{E:Value->Shared->Prop}{s:Shared}{env:Env}{value slice:Expr}{pos:Pos}{T id:String}{Q:Value->Shared->Prop}
  (hl:typeLookup (.type T) "__getitem__" = pure (some (.builtin id))) (hs:Jj slice)
  (h:wpAny (model prog w) A (eval value env) (fun o s₁=>wpAny (model prog w) A (eval slice env) (fun i s₂=>s₂.TypeIs o T/\wpAny (model prog w) A (getItem o i) Q E s₂) E s₁) E s) :
  wpAny (model prog w) A (eval (.Subscript value slice pos) env) Q E s:=by
 refine Subscript_ (wpAny_mono h (fun o s₁ h₁=>wpAny_mono h₁ (fun i s₂ h₂=>?_) fun _ _ x=>x) fun _ _ x=>x);obtain⟨hT,h₂⟩:=h₂;unfold subscriptTail;refine wpAny_bind ?_;rw[getitemInPython_of_ne hT.not_modules];refine wpAny_bind (wpAny_specialOf hT hl ?_);have fin:wpAny (model prog w) A (subscripted slice false o i) (fun r s₃=>wpAny (model prog w) A (letTemporaryGo value o r >>= fun _=>pure r) Q E s₃) E s₂:=by rw[hs o i];exact wpAny_operating (wpAny_mono h₂ (fun r s₃ h₃=>wpAny_bind (wpAny_letTemporaryGo (wpAny_pure h₃))) fun _ _ x=>x)
 first
  |exact wpAny_pure (wpAny_bind fin)
  |exact wpAny_bind (wpAny_pure (wpAny_bind fin))
  |exact wpAny_bind fin
theorem rO{X:Cx}{pins:List (Addr×Obj)}{σ:St}{H:Hp}{s:Shared}{a:Addr}{y:V}{o:Option V}(I:Inv X pins σ H s)(g:e8 H a y o):s.TypeIs (.ref a) "dict" := by
 rcases g with⟨kvs,k,e,_,_⟩ | ⟨kvs,k,b,e,_,_,_⟩
 ·obtain⟨_,_,vs,_,dd⟩:=j4 I.hok e
  exact dd.typeIs
 ·obtain⟨_,_,xs,_,dd⟩:=lz I.hok e
  exact dd.typeIs
noncomputable def L4(td ty:TE):TE:=fun σ H Q=>td σ H fun x H1=>ty σ H1 fun y H2=>∃a v,x=.ref a/\e8 H2 a y (some v)/\Q v H2
noncomputable def OJ(ty td:TE):TE:=fun σ H Q=>ty σ H fun y H1=>td σ H1 fun x H2=>∃a o,x=.ref a/\e8 H2 a y o/\Q (.bl o.isSome) H2
noncomputable def EA(ty td:TE):TE:=fun σ H Q=>ty σ H fun y H1=>td σ H1 fun x H2=>∃a o,x=.ref a/\e8 H2 a y o/\Q (.bl (!o.isSome)) H2
noncomputable def GV(td ty tv:TE):TS:=fun D σ H=>tv σ H fun v H1=>td σ H1 fun x H2=>ty σ H2 fun y H3=>∃a H4,x=.ref a/\AH H3 a y v H4/\D.nx σ H4
section
variable{X:Cx}{o i e value:Expr}{pos pos' tpos:Pos}{td ty tv:TE}
theorem EB(hu:X.A.units+1<cLine)(ho:PE X o td)(hi:PE X i ty)(hs:Jj i):PE X (.Subscript o i pos) (L4 td ty):=by intro pins s σ H Q I h;refine Ez PySem.F.slot_dict_getitem.lookup hs (thn (ho pins s σ H _ I h) fun u s1 ⟨x,H1,I1,rx,q1⟩=>thn (hi pins s1 σ H1 _ I1 q1) fun iv s2 ⟨y,H2,I2,ry,a,v,ex,g,q2⟩=>?_);subst ex;obtain rfl:u=Value.ref a:=rx;exact⟨rO I2 g,y9 hu I2 g ry fun w' s3 I3 rw'=>⟨v,H2,I3,rw',q2⟩⟩
theorem Jk(hu:X.A.units+1<cLine)(hi:PE X i ty)(ho:PE X o td):PC X .In i o (OJ ty td):=by
 intro pins s σ H Q I h;refine thn (hi pins s σ H _ I h) fun iv s1 ⟨y,H1,I1,ry,q1⟩=>thn (ho pins s1 σ H1 _ I1 q1) fun u s2 ⟨x,H2,I2,rx,a,ov,ex,g,q2⟩=>?_
 subst ex;obtain rfl:u=Value.ref a:=rx;exact OI hu I2 g ry fun s3 I3=>⟨.bl ov.isSome,H2,I3,rfl,q2⟩
theorem za(hu:X.A.units+1<cLine)(hi:PE X i ty)(ho:PE X o td):PC X .NotIn i o (EA ty td):=by
 intro pins s σ H Q I h;refine thn (hi pins s σ H _ I h) fun iv s1 ⟨y,H1,I1,ry,q1⟩=>thn (ho pins s1 σ H1 _ I1 q1) fun u s2 ⟨x,H2,I2,rx,a,ov,ex,g,q2⟩=>?_
 subst ex;obtain rfl:u=Value.ref a:=rx;exact Ey hu I2 g ry fun s3 I3=>⟨.bl (!ov.isSome),H2,I3,rfl,q2⟩
theorem EC(hu:X.A.units+1<cLine)(ho:PE X o td)(hi:PE X i ty)(hv:PE X value tv)(hs:swapsWith value (some (.Subscript o i pos')) pos.line X.env=pure false) :
  PS X (.Assign [.Subscript o i pos'] value pos) (GV td ty tv):=by
 intro pins s σ H D I h;refine wpAny_Assign_Subscript (thn (hv pins s σ H _ I h) fun r s1 ⟨v,H1,I1,rv,q1⟩=>thn (ho pins s1 σ H1 _ I1 q1) fun u s2 ⟨x,H2,I2,rx,q2⟩=>thn (hi pins s2 σ H2 _ I2 q2) fun iv s3 ⟨y,H3,I3,ry,a,H4,ex,g,q3⟩=>?_) hs;subst ex;obtain rfl:u=Value.ref a:=rx;exact y_ hu I3 g ry rv fun s4 I4=>⟨σ,H4,I4,q3⟩
end
theorem rP{P:Program}{w:World}{H:Hp}(h:Heap)(hb:sysModules<h.objs.size):a_ P w H (h.push { cls:=.type "dict",data:=.dict #[] }) h.objs.size (.dK []):=
 ⟨Nat.zero_le _,beq_eq_false_iff_ne.mpr (Ne.symm (Nat.ne_of_lt hb)),[],.nil,Heap.DictOf.new h⟩
noncomputable def AJ:TE:=fun _ H Q=>∀p,H p=none->Q (.ref p) (upd H p (.dK []))
section
variable{X:Cx}{pos:Pos}
theorem AK:PE X (.Dict [] [] pos) AJ:=fun pins s σ H Q I h=>wpAny_Dict_empty ⟨.ref s.heap.objs.size,_,I.laid (a:=s.heap.objs.size) (o:=.dK []) (t':=s.toks) (fun _ _ q=>Heap.get?_push_of_some _ q) (Nat.le_refl _) (rP s.heap I.big),rfl,h _ (I.hok.fresh (Nat.le_refl _))⟩
end
noncomputable def uZ:List (TE×TE)->St->Hp->(List (V×V)->Hp->Prop)->Prop
 |[],_,H,Q=>Q [] H
 |(tk,tv)::r,σ,H,Q=>tk σ H fun x H1=>tv σ H1 fun y H2=>uZ r σ H2 fun ps H3=>Q ((x,y)::ps) H3
noncomputable abbrev VV:List (V×V)->List (Value×Value)->Prop:=Paired fun p q=>RelV p.1 q.1/\RelV p.2 q.2
noncomputable def PPs(X:Cx)(pos:Pos)(keys:List (Option Expr))(values:List Expr)(trs:List (TE×TE)):Prop:=
 ∀(pins:List (Addr×Obj)) (s:Shared) (σ:St) (H:Hp) (Q:List (V×V)->Hp->Prop),Inv X pins σ H s->uZ trs σ H Q ->
  wpAny (model X.prog X.w) X.A (evalPairs (pairTrees keys values X.env pos)) (fun vs s'=>∃ps H',Inv X pins σ H' s'/\VV ps vs/\Q ps H') X.xe s
theorem ED{X:Cx}{pos:Pos}:PPs X pos [] [] []:=fun pins s σ H Q I h=>pairTrees_nil_walk ⟨[],H,I,.nil,h⟩
theorem AL{X:Cx}{pos:Pos}{k v:Expr}{ks:List (Option Expr)}{vs:List Expr}{tk tv:TE}{trs:List (TE×TE)}(hk:PE X k tk)(hv:PE X v tv)(hr:PPs X pos ks vs trs) :
  PPs X pos (some k::ks) (v::vs) ((tk,tv)::trs):=fun pins s σ H Q I h=>
 pairTrees_cons_walk (thn (hk pins s σ H _ I h) fun u s1 ⟨x,H1,I1,rx,q1⟩=>thn (hv pins s1 σ H1 _ I1 q1) fun w2 s2 ⟨y,H2,I2,ry,q2⟩=>thn (hr pins s2 σ H2 _ I2 q2) fun ws s3 ⟨ps,H3,I3,rel,q3⟩=>⟨(x,y)::ps,H3,I3,.cons ⟨rx,ry⟩ rel,q3⟩)
noncomputable def jC(kvs more:List (Key×V)):List (Key×V):=more.foldl (fun acc kv=>putK acc kv.1 kv.2) kvs
theorem KV.merge:∀{more:List (Key×V)} {rs:List (Key×Value)} {kvs:List (Key×V)} {vs:List (Key×Value)},KV more rs->KV kvs vs->KV (jC kvs more) (merged vs rs):=by
 intro more rs kvs vs r;unfold KV at r
 induction r generalizing kvs vs with
 |nil=>intro q;exact q
 |@cons p q ps qs h t ih=>
  intro r0;have e:KV (putK kvs p.1 p.2) (stored vs q.1 q.2):=by have:=r0.put p.1 h.2;rw[<- h.1];exact this
  exact ih e
theorem gm:∀(more kvs:List (Key×V)),(jC kvs more).length<=kvs.length+more.length
 |[],kvs=>by show kvs.length<=kvs.length+0;omega
 |p::r,kvs=>by have h1:=gm r (putK kvs p.1 p.2);have h2:=fm kvs p.1 p.2;show (jC (putK kvs p.1 p.2) r).length<=_;rw[List.length_cons];omega
theorem lA{P:Program}{w:World}:∀{kvs:List (Key×V)} {ws:List (Value×Value)},VV (kvs.map fun kv=>(kV kv.1,kv.2)) ws->∃rs,Carries (aS P w) ws rs/\KV kvs rs
 |[],_,r=>by rw[List.map_nil]at r;cases r;exact⟨[],True.intro,.nil⟩
 |p::kvs,_,r=>by
  rw[List.map_cons]at r;cases r with
  |@cons a b as bs h t=>obtain⟨rs,c,q⟩:=lA (P:=P) (w:=w) t;obtain⟨b1,b2⟩:=b;exact⟨(p.1,b2)::rs,⟨j3 h.1,rfl,c⟩,.cons ⟨rfl,h.2⟩ q⟩
noncomputable def GW(trs:List (TE×TE)):TE:=fun σ H Q=>∀p,H p=none->uZ trs σ (upd H p (.dK [])) fun ps H2=>H2 p=some (.dK [])/\∃kvs:List (Key×V),ps=kvs.map (fun kv=>(kV kv.1,kv.2))/\kvs.length<=15/\Q (.ref p) (upd H2 p (.dK (jC [] kvs)))
theorem EE{X:Cx}{pos:Pos}{keys:List (Option Expr)}{values:List Expr}{trs:List (TE×TE)}(h:PPs X pos keys values trs)(hall:keys.all (·.isSome)=true)(hl:keys.length=values.length)(h0:keys≠[])
  (h15:keys.length<=15):PE X (.Dict keys values pos) (GW trs):=by
 intro pins s σ H Q I q;have hn:=I.hok.fresh (Nat.le_refl s.heap.objs.size);have I1:=I.laid (a:=s.heap.objs.size) (o:=.dK []) (h':=s.heap.push { cls:=.type "dict",data:=.dict #[] }) (t':=s.toks) (fun _ _ q=>Heap.get?_push_of_some _ q) (Nat.le_refl _) (rP s.heap I.big);refine wpAny_Dict_walk (knd:=aS X.prog X.w) hall hl h0 h15 (thn (h pins _ σ _ _ I1 (q _ hn)) fun ws s2 ⟨ps,H2,I2,rel,e,kvs,ep,lk,q2⟩=>?_);subst ep;obtain⟨rs,c,rk⟩:=lA (P:=X.prog) (w:=X.w) rel;obtain⟨z,hd,vs0,r0,dd⟩:=wY I2.hok e;cases r0;refine⟨rs,c,dd,fun h' dd' hs=>⟨.ref s.heap.objs.size,_,?_,rfl,q2⟩⟩;have hz:(jC [] kvs).length<=sizeLine:=by have h1:=gm kvs [];rw[List.length_nil]at h1;rw[sizeLine_eq];omega
 have he:∃q,h'.get? s.heap.objs.size=some q:=let ⟨q,_,_,hq,_⟩:=dd';⟨q,hq⟩
 exact kT I2 (by rw[e];exact True.intro) hs he (qj hz hd (rk.merge .nil) dd')
structure M1(X:Cx)(o:Expr)(m:Str)(apos:Pos)(e:Expr)(cpos:Pos):Prop where
 base:attributeBase o m X.env (eval o X.env)=eval o X.env
 few:((backTo cpos (starEach [e] X.env)).all (fun x=>!x.1)&&(backToKw cpos (keywordEach [] X.env)).all (fun x=>x.1.isSome)
  && decide (([e]:List Expr).length+([]:List Keyword).length+(if ([]:List Keyword).isEmpty then 0 else 1)<30))=true
 line:(apos.endLine == cpos.line)=true
 trees:backTo cpos (starEach [e] X.env)=[(false,eval e X.env)]
noncomputable def IsD(H:Hp)(a:Addr):Prop:=(∃kvs,Rd H a (.dK kvs))\/∃kvs,Rd H a (.dT kvs)
theorem AM{X:Cx}{pins:List (Addr×Obj)}{σ:St}{H:Hp}{s:Shared}{a:Addr}(I:Inv X pins σ H s)(d:IsD H a) :
  s.TypeIs (.ref a) "dict" /\ (∀b,Value.ref a=.ref b->∃ob,s.heap.get? b=some ob/\ob.dict=none)/\(a == sysModules)=false:=by
 rcases d with⟨kvs,e⟩ | ⟨kvs,e⟩
 ·obtain⟨_,hd,vs,_,dd⟩:=j4 I.hok e
  refine⟨dd.typeIs,fun b q=>?_,hd⟩;cases q;obtain⟨ob,_,_,h1,h2,_⟩:=dd;exact⟨ob,h1,h2.2.1⟩
 ·obtain⟨_,hd,xs,_,dd⟩:=lz I.hok e
  refine⟨dd.typeIs,fun b q=>?_,hd⟩;cases q;obtain⟨ob,_,_,h1,h2,_⟩:=dd;exact⟨ob,h1,h2.2.1⟩
section
variable{X:Cx}{pins:List (Addr×Obj)}{σ:St}{H:Hp}{s:Shared}{a:Addr}{y d:V}{u r:Value}{o:Option V}{A:Around}{E:Value->Shared->Prop}
theorem Jl{Q:Value->Shared->Prop}(hu:A.units+1<cLine)(I:Inv X pins σ H s)(g:e8 H a y o)(ry:RelV y u)(h:∀w' s',Inv X pins σ H s'->RelV (o.getD .non) w'->Q w' s') :
  wpAny (model X.prog X.w) A (call (.builtin "dict.get") [.ref a,u]) Q E s:=by
 rcases g with⟨kvs,k,e,ey,l⟩ | ⟨kvs,k,b,e,ey,eb,l⟩
 ·subst ey
  obtain⟨z,hd,vs,rel,dd⟩:=j4 I.hok e;refine call_meetsIn PySem.F.slot_dict_get dd.typeIs PySem.F.entry_dict_get (PySem.F.args_dict_get_2 _ _) (meets_dict_get (aS X.prog X.w) a (j3 ry) hd) ⟨_,dd.mapOf,h _ _ (I.tok _) ?_⟩;rw[l];exact(rel.val k).getD rfl
 ·subst ey
  cases (show u=Value.ref b from ry);obtain⟨z,hd,xs,rel,dd⟩:=lz I.hok e;refine call_meetsIn PySem.F.slot_dict_get dd.typeIs PySem.F.entry_dict_get (PySem.F.args_dict_get_2 _ _) (meetsH_dict_get (tupleKind (aS X.prog X.w)) a b hd) ⟨tupleKind_room_in1 hu,k,xs,jB I.hok eb,dd,h _ _ (I.tok _) ?_⟩;rw[l];exact(rel.val k).getD rfl
end
noncomputable def AO(td ty:TE):TE:=fun σ H Q=>td σ H fun x H1=>∃a,x=.ref a/\IsD H1 a/\ty σ H1 fun y H2=>∃o,e8 H2 a y o/\Q (o.getD .non) H2
noncomputable def AQ(td ty:TE):TE:=fun σ H Q=>td σ H fun x H1=>∃a,x=.ref a/\IsD H1 a/\ty σ H1 fun y H2=>∃kvs k v,H2 a=some (.dK kvs)/\y=kV k/\gu kvs k=some v/\Q v (upd H2 a (.dK (j0 kvs k)))
section
variable{X:Cx}{o e f:Expr}{apos cpos:Pos}{td ty tx:TE}
theorem AR(hu:X.A.units+1<cLine)(ho:PE X o td)(he:PE X e ty)(m:M1 X o "get" apos e cpos):PE X (.Call (.Attribute o "get" apos) [e] [] cpos) (AO td ty):=by intro pins s σ H Q I h;refine wpAny_Call_method m.base m.few m.line PySem.F.plainAttrs_dict PySem.F.slot_dict_get PySem.F.type_dict_get (thn (ho pins s σ H _ I h) fun u s1 ⟨x,H1,I1,rx,a,ex,d,q1⟩=>?_);subst ex;obtain rfl:u=Value.ref a:=rx;obtain⟨t1,t2,_⟩:=AM I1 d;refine⟨t1,t2,?_⟩;rw[m.trees];refine Calls.callWith_builtin rfl (Calls.evalArgs_plain (Calls.spliced_cons (thn (he pins s1 σ H1 _ I1 q1) fun iv s2 ⟨y,H2,I2,ry,ov,g,q2⟩=>Calls.spliced_nil ?_)));exact Jl hu I2 g ry fun w' s3 I3 rw'=>⟨_,H2,I3,rw',q2⟩
theorem AS(ho:PE X o td)(he:PE X e ty)(m:M1 X o "pop" apos e cpos):PE X (.Call (.Attribute o "pop" apos) [e] [] cpos) (AQ td ty):=by intro pins s σ H Q I h;refine wpAny_Call_method m.base m.few m.line PySem.F.plainAttrs_dict PySem.F.slot_dict_pop PySem.F.type_dict_pop (thn (ho pins s σ H _ I h) fun u s1 ⟨x,H1,I1,rx,a,ex,d,q1⟩=>?_);subst ex;obtain rfl:u=Value.ref a:=rx;obtain⟨t1,t2,_⟩:=AM I1 d;refine⟨t1,t2,?_⟩;rw[m.trees];refine Calls.callWith_builtin rfl (Calls.evalArgs_plain (Calls.spliced_cons (thn (he pins s1 σ H1 _ I1 q1) fun iv s2 ⟨y,H2,I2,ry,kvs,k,v,ea,ey,l,q2⟩=>Calls.spliced_nil ?_)));subst ey;exact AI I2 ea ry l (.inl rfl) fun w' s3 I3 rw'=>⟨v,_,I3,rw',q2⟩
end
section
variable{X:Cx}{pins:List (Addr×Obj)}{σ:St}{H:Hp}{s:Shared}{a:Addr}{kvs:List (Key×V)}{A:Around}{E:Value->Shared->Prop}
theorem AU{Q:Value->Shared->Prop}(I:Inv X pins σ H s)(e:Rd H a (.dK kvs))(h:∀p s',H p=none->Inv X pins σ (upd H p (.dK kvs)) s'->Q (.ref p) s'):wpAny (model X.prog X.w) A (call (.type "dict") [.ref a]) Q E s:=by
 obtain⟨z,hd,vs,rel,dd⟩:=j4 I.hok e;refine kt_call_dict hd dd (by rw[<- rel.length];exact z) fun h' dd' hs=>?_
 refine h _ _ (I.hok.fresh (Nat.le_refl _)) (I.laid (a:=s.heap.objs.size) (o:=.dK kvs) (t':=s.toks) (fun b q hq=>?_) (Nat.le_refl _) (qj z (beq_eq_false_iff_ne.mpr (Ne.symm (Nat.ne_of_lt I.big))) rel dd'));exact(hs.2 b (Nat.ne_of_lt (Heap.lt_size hq))).trans (Heap.get?_push_of_some _ hq)
end
section
variable{X:Cx}{pins:List (Addr×Obj)}{σ:St}{H:Hp}{s:Shared}{a:Addr}{y:V}{u:Value}{A:Around}{E:Value->Shared->Prop}
end
end L2
namespace Dm
inductive Dat where
 |non
 |bl (b:Bool)
 |int (i:Int)
 |str (s:List Nat)
 |tup (xs:List Dat)
 |lst (xs:List Dat)
 |dct (ks:List Int) (vs:List Dat)
 |exc (C:Nat)
 |fn (a:Nat)
deriving Inhabited
inductive Cell where
 |un
 |sh (d:Dat)
 |ow (d:Dat)
deriving Inhabited
noncomputable abbrev Env:=List Cell
inductive Val where
 |val (d:Dat)
 |slot (i:Nat)
 |new (d:Dat)
inductive RV where
 |val (d:Dat)
 |new (d:Dat)
noncomputable def RV.dat:RV->Dat
 |.val d=>d
 |.new d=>d
noncomputable def RV.bD:RV->Val
 |.val d=>.val d
 |.new d=>.new d
noncomputable def SZ:Nat:=100000
noncomputable def dS:Dat->Bool
 |.tup _=>true
 |.lst _=>true
 |.dct _ _=>true
 |.exc _=>true
 |_=>false
noncomputable def pk(ρ:Env):Val->Option Dat
 |.val d=>some d
 |.new d=>some d
 |.slot i=>match ρ[i]? with
  |some (.ow d)=>some d
  |some (.sh d)=>some d
  |_=>none
noncomputable def tk(ρ:Env):Val->Option (Dat×Env)
 |.val d=>some (d,ρ)
 |.new d=>some (d,ρ)
 |.slot i=>match ρ[i]? with
  |some (.ow d)=>some (d,ρ.set i (.sh d))
  |some (.sh d)=>some (d,ρ)
  |_=>none
noncomputable def pks(ρ:Env):List Val->Option (List Dat)
 |[]=>some []
 |x::r=>match pk ρ x with
  |none=>none
  |some d=>match pks ρ r with
   |none=>none
   |some ds=>some (d::ds)
noncomputable def tks(ρ:Env):List Val->Option (List Dat×Env)
 |[]=>some ([],ρ)
 |x::r=>match tk ρ x with
  |none=>none
  |some (d,ρ1)=>match tks ρ1 r with
   |none=>none
   |some (ds,ρ2)=>some (d::ds,ρ2)
noncomputable abbrev FE:=Env->Option (Val×Env)
noncomputable abbrev FT:=Env->Option (Bool×Env)
noncomputable def eC(d:Dat):FE:=fun ρ=>some (.val d,ρ)
noncomputable def eV(i:Nat):FE:=fun ρ=>match ρ[i]? with
 |some (.sh d)=>some (.val d,ρ)
 |some (.ow _)=>some (.slot i,ρ)
 |_=>none
noncomputable def e1(g:Dat->Option RV)(a:FE):FE:=fun ρ=>match a ρ with
 |none=>none
 |some (x,ρ1)=>match pk ρ1 x with
  |none=>none
  |some d=>match g d with
   |none=>none
   |some v=>some (v.bD,ρ1)
noncomputable def e2(g:Dat->Dat->Option RV)(a b:FE):FE:=fun ρ=>match a ρ with
 |none=>none
 |some (x,ρ1)=>match b ρ1 with
  |none=>none
  |some (y,ρ2)=>match pk ρ2 x with
   |none=>none
   |some d=>match pk ρ2 y with
    |none=>none
    |some e=>match g d e with
     |none=>none
     |some v=>some (v.bD,ρ2)
noncomputable def eAs:List FE->Env->Option (List Val×Env)
 |[],ρ=>some ([],ρ)
 |a::r,ρ=>match a ρ with
  |none=>none
  |some (x,ρ1)=>match eAs r ρ1 with
   |none=>none
   |some (xs,ρ2)=>some (x::xs,ρ2)
noncomputable def eB(g:List Dat->Option RV)(as:List FE):FE:=fun ρ=>match eAs as ρ with
 |none=>none
 |some (xs,ρ1)=>match pks ρ1 xs with
  |none=>none
  |some ds=>match g ds with
   |none=>none
   |some v=>some (v.bD,ρ1)
noncomputable def e_(as:List FE):FE:=fun ρ=>match eAs as ρ with
 |none=>none
 |some (xs,ρ1)=>match tks ρ1 xs with
  |none=>none
  |some (ds,ρ2)=>if ds.length<=SZ then some (.val (.tup ds),ρ2) else none
noncomputable def cT(as:List FE):FE:=fun ρ=>match eAs as ρ with
 |none=>none
 |some (xs,ρ1)=>match tks ρ1 xs with
  |none=>none
  |some (ds,ρ2)=>if ds.length<=SZ then some (.new (.lst ds),ρ2) else none
noncomputable def eF(f:List Dat->Option RV)(as:List FE):FE:=fun ρ=>match eAs as ρ with
 |none=>none
 |some (xs,ρ1)=>match pks ρ1 xs with
  |none=>none
  |some ds=>match f ds with
   |none=>none
   | some v=>if dS v.dat then (match tks ρ1 xs with
     |none=>none
     |some (_,ρ2)=>some (v.bD,ρ2)) else some (v.bD,ρ1)
noncomputable def eIf(t:FT)(a b:FE):FE:=fun ρ=>match t ρ with
 |none=>none
 |some (true,ρ1)=>a ρ1
 |some (false,ρ1)=>b ρ1
noncomputable def gv(a b:FE):FE:=fun ρ=>match a ρ with
 |some (.val (.bl true),ρ1)=>b ρ1
 |some (.val (.bl false),ρ1)=>some (.val (.bl false),ρ1)
 |_=>none
noncomputable def u5(a:FE):FE:=fun ρ=>match a ρ with
 |some (.val (.bl c),ρ1)=>some (.val (.bl (!c)),ρ1)
 |_=>none
noncomputable def tV(a:FE):FT:=fun ρ=>match a ρ with
 |some (.val (.bl c),ρ1)=>some (c,ρ1)
 |_=>none
noncomputable def cy(t:FT):FT:=fun ρ=>match t ρ with
 |some (c,ρ1)=>some (!c,ρ1)
 |none=>none
noncomputable def kJ(t u:FT):FT:=fun ρ=>match t ρ with
 |some (true,ρ1)=>u ρ1
 |some (false,ρ1)=>some (false,ρ1)
 |none=>none
noncomputable def tOr(t u:FT):FT:=fun ρ=>match t ρ with
 |some (true,ρ1)=>some (true,ρ1)
 |some (false,ρ1)=>u ρ1
 |none=>none
noncomputable def truth:Dat->Option Bool
 |.non=>some false
 |.bl b=>some b
 |.int i=>some (i != 0)
 |.tup xs=>some (!xs.isEmpty)
 |.lst xs=>some (!xs.isEmpty)
 |_=>none
noncomputable def tTr(a:FE):FT:=fun ρ=>match a ρ with
 |none=>none
 |some (x,ρ1)=>match pk ρ1 x with
  |none=>none
  |some d=>match truth d with
   |none=>none
   |some c=>some (c,ρ1)
noncomputable def b7:FT:=fun ρ=>some (true,ρ)
noncomputable abbrev FI:=Env->Option (List Dat×Env)
noncomputable def iL(a:FE):FI:=fun ρ=>match a ρ with
 |none=>none
 |some (x,ρ1)=>match tk ρ1 x with
  |some (.lst ds,ρ2)=>some (ds,ρ2)
  |_=>none
noncomputable def iT(a:FE):FI:=fun ρ=>match a ρ with
 |none=>none
 |some (x,ρ1)=>match tk ρ1 x with
  |some (.tup ds,ρ2)=>some (ds,ρ2)
  |_=>none
noncomputable def iS(a:FE):FI:=fun ρ=>match a ρ with
 |none=>none
 |some (x,ρ1)=>match tk ρ1 x with
  |some (.lst ds,ρ2)=>some (ds,ρ2)
  |some (.tup ds,ρ2)=>some (ds,ρ2)
  |_=>none
noncomputable def ups(lo:Int)(n:Nat):List Dat:=(List.range n).map fun i=>Dat.int (lo+(i:Nat))
noncomputable def downs(hi:Int)(n:Nat):List Dat:=(List.range n).map fun i=>Dat.int (hi-(i:Nat))
noncomputable def BIG:Int:=1000000000
noncomputable def iR1(a:FE):FI:=fun ρ=>match a ρ with
 |some (.val (.int j),ρ1)=>if j<=BIG/\-BIG<=j then some (ups 0 j.toNat,ρ1) else none
 |_=>none
noncomputable def iR2(a b:FE):FI:=fun ρ=>match a ρ with
 | some (.val (.int i),ρ1)=>(match b ρ1 with
  |some (.val (.int j),ρ2)=>if j<=BIG/\-BIG<=j/\i<=BIG/\-BIG<=i then some (ups i (j-i).toNat,ρ2) else none
  |_=>none)
 |_=>none
noncomputable abbrev FB:=Dat->Env->Option Env
noncomputable def bN(i:Nat):FB:=fun d ρ=>if i=0 then none else some (ρ.set i (.sh d))
noncomputable def sets:List Nat->List Dat->Env->Option Env
 |[],[],ρ=>some ρ
 |i::is,d::ds,ρ=>if i=0 then none else sets is ds (ρ.set i (.sh d))
 |_,_,_=>none
noncomputable def bT(is:List Nat):FB:=fun d ρ=>match d with
 |.tup ds=>sets is ds ρ
 |_=>none
noncomputable def dm(bd:FB)(t:FT)(el:FE):List Dat->Env->List Dat->Option (List Dat×Env)
 |[],ρ,acc=>some (acc,ρ)
 |d::r,ρ,acc=>match bd d ρ with
  |none=>none
  |some ρ1=>match t ρ1 with
   |none=>none
   |some (false,ρ2)=>dm bd t el r ρ2 acc
   |some (true,ρ2)=>match el ρ2 with
    |none=>none
    |some (x,ρ3)=>match tk ρ3 x with
     |none=>none
     |some (y,ρ4)=>dm bd t el r ρ4 (acc++[y])
noncomputable def bV(it:FI)(own:Nat)(bd:FB)(t:FT)(el:FE):FE:=fun ρ=>match it ρ with
 |none=>none
 | some (ds,ρ1)=>if ds.length≤SZ then (match dm bd t el ds (ρ1++List.replicate own .un) [] with
  |none=>none
  |some (ys,ρ2)=>some (.new (.lst ys),ρ2.take ρ1.length)) else none
inductive Out where
 |nx (ρ:Env)
 |ret (r:RV) (ρ:Env)
 |bk (ρ:Env)
 |ct (ρ:Env)
noncomputable abbrev FS:=Env->Option Out
noncomputable def sNx:FS:=fun ρ=>some (.nx ρ)
noncomputable def ao(s u:FS):FS:=fun ρ=>match s ρ with
 |some (.nx ρ1)=>u ρ1
 |o=>o
noncomputable def sA(i:Nat)(e:FE):FS:=fun ρ=>if i=0 then none else match e ρ with
 |none=>none
 |some (.new d,ρ1)=>some (.nx (ρ1.set i (.ow d)))
 |some (x,ρ1)=>match tk ρ1 x with
  |none=>none
  |some (d,ρ2)=>some (.nx (ρ2.set i (.sh d)))
noncomputable def sE(e:FE):FS:=fun ρ=>match e ρ with
 |none=>none
 |some (_,ρ1)=>some (.nx ρ1)
noncomputable def sR(e:FE):FS:=fun ρ=>match e ρ with
 |none=>none
 |some (.new d,ρ1)=>some (.ret (.new d) ρ1)
 |some (.val d,ρ1)=>some (.ret (.val d) ρ1)
 |some (.slot i,ρ1)=>match ρ1[i]? with
  |some (.ow d)=>some (.ret (.new d) (ρ1.set i .un))
  |some (.sh d)=>some (.ret (.val d) ρ1)
  |_=>none
noncomputable def sIf(t:FT)(a b:FS):FS:=fun ρ=>match t ρ with
 |none=>none
 |some (true,ρ1)=>a ρ1
 |some (false,ρ1)=>b ρ1
noncomputable def kL(i:Nat)(e:FE):FS:=fun ρ=>match ρ[i]? with
 | some (.ow (.lst _))=>(match e ρ with
  |none=>none
  |some (x,ρ1)=>match tk ρ1 x with
   |none=>none
   |some (d,ρ2)=>match ρ2[i]? with
    |some (.ow (.lst ds))=>if ds.length<SZ then some (.nx (ρ2.set i (.ow (.lst (ds++[d]))))) else none
    |_=>none)
 |_=>none
noncomputable def ixN(n:Nat)(i:Int):Option Nat:=
 if 0<=i then (if i<n then some i.toNat else none) else if -(n:Int)<=i then some (i+n).toNat else none
noncomputable def u6(i:Nat)(j e:FE):FS:=fun ρ=>match e ρ with
 |none=>none
 |some (x,ρ1)=>match tk ρ1 x with
  |none=>none
  |some (d,ρ2)=>match ρ2[i]? with
   | some (.ow _)=>(match j ρ2 with
    | some (.val (.int k),ρ3)=>(match ρ3[i]? with
     | some (.ow (.lst ds))=>(match ixN ds.length k with
      |none=>none
      |some m=>some (.nx (ρ3.set i (.ow (.lst (ds.set m d))))))
     |_=>none)
    |_=>none)
   |_=>none
noncomputable def jD(bd:FB)(body:FS):List Dat->FS
 |[],ρ=>some (.nx ρ)
 |d::r,ρ=>match bd d ρ with
  |none=>none
  |some ρ1=>match body ρ1 with
   |some (.nx ρ2)=>jD bd body r ρ2
   |some (.ct ρ2)=>jD bd body r ρ2
   |some (.bk ρ2)=>some (.nx ρ2)
   |some (.ret v ρ2)=>some (.ret v ρ2)
   |none=>none
noncomputable def cU(it:FI)(bd:FB)(body:FS):FS:=fun ρ=>match it ρ with
 |none=>none
 |some (ds,ρ1)=>jD bd body ds ρ1
noncomputable def whD(t:FT)(body:FS):Nat->FS
 |0,_=>none
 |n+1,ρ=>match t ρ with
  |none=>none
  |some (false,ρ1)=>some (.nx ρ1)
  |some (true,ρ1)=>match body ρ1 with
   |some (.nx ρ2)=>whD t body n ρ2
   |some (.ct ρ2)=>whD t body n ρ2
   |some (.bk ρ2)=>some (.nx ρ2)
   |some (.ret v ρ2)=>some (.ret v ρ2)
   |none=>none
noncomputable def fn(n m:Nat)(body:FS)(ds:List Dat):Option RV:=if ds.length=n then (match body (ds.map Cell.sh++List.replicate m .un) with
 |some (.ret r _)=>some r
 |some (.nx _)=>some (.val .non)
 |_=>none) else none
noncomputable def b2i(b:Bool):Int:=if b then 1 else 0
mutual
noncomputable def eqD:Dat->Dat->Bool
 |.non,.non=>true
 |.bl a,.bl b=>a == b
 |.bl a,.int j=>b2i a == j
 |.int i,.bl b=>i == b2i b
 |.int i,.int j=>i == j
 |.str a,.str b=>a == b
 |.tup xs,.tup ys=>oE xs ys
 |.lst xs,.lst ys=>oE xs ys
 |_,_=>false
noncomputable def oE:List Dat->List Dat->Bool
 |[],[]=>true
 |x::xs,y::ys=>eqD x y&&oE xs ys
 |_,_=>false
end
noncomputable def okD:Nat->Dat->Bool
 |_,.dct _ _=>false
 |_,.exc _=>false
 |_,.fn _=>false
 |_,.str s=>s.all fun c=>decide (c<128)
 |0,.tup _=>false
 |0,.lst _=>false
 |n+1,.tup xs=>xs.all (okD n)
 |n+1,.lst xs=>xs.all (okD n)
 |_,_=>true
noncomputable abbrev vB(b:Bool):Option RV:=some (.val (.bl b))
noncomputable def kM(p:Dat->Bool):Dat->Option RV
 |.exc _=>none
 |.fn _=>none
 |d=>vB (p d)
noncomputable abbrev vI(i:Int):Option RV:=some (.val (.int i))
noncomputable def gEq(x y:Dat):Option RV:=if okD 8 x&&okD 8 y then vB (eqD x y) else none
noncomputable def gNe(x y:Dat):Option RV:=if okD 8 x&&okD 8 y then vB (!eqD x y) else none
noncomputable def gLt:Dat->Dat->Option RV
 |.int i,.int j=>vB (decide (i<j))
 |_,_=>none
noncomputable def gLe:Dat->Dat->Option RV
 |.int i,.int j=>vB (decide (i<=j))
 |_,_=>none
noncomputable def gGt:Dat->Dat->Option RV
 |.int i,.int j=>vB (decide (j<i))
 |_,_=>none
noncomputable def gGe:Dat->Dat->Option RV
 |.int i,.int j=>vB (decide (j<=i))
 |_,_=>none
noncomputable def B64:Int:=18446744073709551616
noncomputable def bG:Dat->Dat->Option RV
 |.int i,.int j=>vI (i+j)
 |.lst xs,.lst ys=>if xs.length+ys.length<=SZ then some (.new (.lst (xs++ys))) else none
 |_,_=>none
noncomputable def iU:Dat->Dat->Option RV
 |.int i,.int j=>vI (i-j)
 |_,_=>none
noncomputable def gb:Dat->Dat->Option RV
 |.int i,.int j=>if (-B64<i/\i<B64)\/(-B64<j/\j<B64) then vI (i*j) else none
 |.lst xs,.int k=>if k<=BIG/\-BIG<=k/\xs.length*k.toNat<=SZ then some (.new (.lst (List.replicate k.toNat xs).flatten)) else none
 |_,_=>none
noncomputable def fq:Int:=1606938044258990275541962092341162602522202993782792835301376
noncomputable def u7:Dat->Dat->Option RV
 |.int i,.int j=>if 0<j/\j<fq then vI (i / j) else none
 |_,_=>none
noncomputable def gf:Dat->Dat->Option RV
 |.int i,.int j=>if 0<j then vI (i % j) else none
 |_,_=>none
noncomputable def gw:Dat->Dat->Option RV
 |.int i,.int j=>if 0<=j/\j<=1000000/\i.natAbs<1000000 then vI (i ^ j.toNat) else none
 |_,_=>none
noncomputable def atI(xs:List Dat)(i:Int):Option Dat:=(ixN xs.length i).bind fun j=>xs[j]?
noncomputable def gIx:Dat->Dat->Option RV
 |.lst xs,.int i=>(atI xs i).map .val
 |.tup xs,.int i=>(atI xs i).map .val
 |_,_=>none
noncomputable def inD(x:Dat)(xs:List Dat):Bool:=xs.any fun y=>eqD y x
noncomputable def gIn:Dat->Dat->Option RV
 |x,.lst xs=>if okD 8 x&&xs.all (okD 7) then vB (inD x xs) else none
 |x,.tup xs=>if okD 8 x&&xs.all (okD 7) then vB (inD x xs) else none
 |_,_=>none
noncomputable def jE:Dat->Dat->Option RV
 |x,.lst xs=>if okD 8 x&&xs.all (okD 7) then vB (!inD x xs) else none
 |x,.tup xs=>if okD 8 x&&xs.all (okD 7) then vB (!inD x xs) else none
 |_,_=>none
noncomputable def sIx(n d:Nat):Option Int->Nat
 |none=>d
 |some v=>(if v<0 then max (v+n) 0 else min v n).toNat
noncomputable def cut(xs:List Dat)(lo hi:Option Int):List Dat:=(xs.drop (sIx xs.length 0 lo)).take (sIx xs.length xs.length hi-sIx xs.length 0 lo)
noncomputable def fu:List Dat->Option RV
 |[.lst xs]=>vI xs.length
 |[.tup xs]=>vI xs.length
 |_=>none
noncomputable def iZ:List Dat->Option RV
 |[.int i,.int j]=>vI (if j<i then j else i)
 |_=>none
noncomputable def j5:List Dat->Option RV
 |[.int i,.int j]=>vI (if j>i then j else i)
 |_=>none
noncomputable def j7:List Dat->Option RV
 |[.lst xs]=>some (.new (.lst xs))
 |[.tup xs]=>some (.new (.lst xs))
 |_=>none
noncomputable def lB:List Dat->Option RV
 |[.lst xs]=>some (.val (.tup xs))
 |[.tup xs]=>some (.val (.tup xs))
 |_=>none
noncomputable def isI:Dat->Bool
 |.int _=>true
 |.bl _=>true
 |_=>false
noncomputable def isB:Dat->Bool
 |.bl _=>true
 |_=>false
noncomputable def isL:Dat->Bool
 |.lst _=>true
 |_=>false
noncomputable def isT:Dat->Bool
 |.tup _=>true
 |_=>false
noncomputable def bools:List Dat->Option (List Bool)
 |[]=>some []
 |.bl b::r=>(bools r).map fun bs=>b::bs
 |_=>none
noncomputable def rQ:List Dat->Option RV
 | [.lst xs]=>(match bools xs with
  |some bs=>vB (bs.all id)
  |none=>none)
 |_=>none
noncomputable def lC(g h:Dat->Dat->Option RV)(a b c:FE):FE:=fun ρ=>match a ρ with
 |none=>none
 |some (x,ρ1)=>match b ρ1 with
  |none=>none
  |some (y,ρ2)=>match pk ρ2 x with
   |none=>none
   |some d=>match pk ρ2 y with
    |none=>none
    |some e=>match g d e with
     | some (.val (.bl true))=>(match c ρ2 with
      |none=>none
      |some (z,ρ3)=>match pk ρ3 y with
       |none=>none
       |some e'=>match pk ρ3 z with
        |none=>none
        |some f=>match h e' f with
         |none=>none
         |some v=>some (v.bD,ρ3))
     |some (.val (.bl false))=>some (.val (.bl false),ρ2)
     |_=>none
noncomputable def part:Option FE->Env->Option (Option Int×Env)
 |none,ρ=>some (none,ρ)
 |some f,ρ=>match f ρ with
  |some (.val (.int i),ρ1)=>some (some i,ρ1)
  |_=>none
noncomputable def eSl(a:FE)(lo hi:Option FE):FE:=fun ρ=>match a ρ with
 |none=>none
 |some (x,ρ1)=>match part lo ρ1 with
  |none=>none
  |some (l,ρ2)=>match part hi ρ2 with
   |none=>none
   |some (h,ρ3)=>match pk ρ3 x with
    |some (.lst xs)=>some (.new (.lst (cut xs l h)),ρ3)
    |_=>none
noncomputable def zb:Dat->Option RV
 |.lst xs=>some (.new (.lst xs.reverse))
 |_=>none
noncomputable def zc:List Dat->Option RV
 |[.int i]=>vI i
 |[.bl b]=>vI (b2i b)
 |_=>none
end Dm
namespace Br
open PySem L2
mutual
inductive Rep(H:Hp):V->Dm.Dat->Prop
 |non:Rep H V.non Dm.Dat.non
 |bl (b:Bool):Rep H (V.bl b) (Dm.Dat.bl b)
 |int (i:Int):Rep H (V.int i) (Dm.Dat.int i)
 |str (s:List Nat):Rep H (V.str ⟨s.toArray⟩) (Dm.Dat.str s)
 |tup {a:Addr} {xs:List V} {ds:List Dm.Dat}:H a=some (.tup xs)->aB H xs ds->Rep H (V.ref a) (Dm.Dat.tup ds)
 |lst {a:Addr} {xs:List V} {ds:List Dm.Dat}:Rd H a (.lst xs)->aB H xs ds->Rep H (V.ref a) (Dm.Dat.lst ds)
 |dct {a:Addr} {kvs:List (Key×V)} {ks:List Int} {ds:List Dm.Dat}:H a=some (.dK kvs)->kvs.map (·.1)=ks.map Sum.inl->aB H (kvs.map (·.2)) ds->Rep H (V.ref a) (Dm.Dat.dct ks ds)
 |exc {a:Addr} {C:Nat}:H a=some (.ext fun h=>∃o,h.get? a=some o/\o.cls=.ref C)->Rep H (V.ref a) (Dm.Dat.exc C)
 |fn (a:Addr):Rep H (V.ref a) (Dm.Dat.fn a)
inductive aB(H:Hp):List V->List Dm.Dat->Prop
 |nil:aB H [] []
 |cons {v:V} {d:Dm.Dat} {vs:List V} {ds:List Dm.Dat}:Rep H v d->aB H vs ds->aB H (v::vs) (d::ds)
end
theorem au.rd{H H':Hp}(s:au H H'){a:Addr}{u:HO}(h:Rd H a u):Rd H' a u:=by
 rcases h with h | ⟨o,h⟩
 ·exact .inl (s _ _ h)
 ·exact .inr ⟨o,s _ _ h⟩
mutual
theorem Rep.mono{H H':Hp}(s:au H H'):∀{v:V} {d:Dm.Dat},Rep H v d->Rep H' v d
 |_,_,.non=>.non
 |_,_,.bl b=>.bl b
 |_,_,.int i=>.int i
 |_,_,.str x=>.str x
 |_,_,.tup h r=>.tup (s _ _ h) (aB.mono s r)
 |_,_,.lst h r=>.lst (au.rd s h) (aB.mono s r)
 |_,_,.dct h e r=>.dct (s _ _ h) e (aB.mono s r)
 |_,_,.exc h=>.exc (s _ _ h)
 |_,_,.fn a=>.fn a
theorem aB.mono{H H':Hp}(s:au H H'):∀{vs:List V} {ds:List Dm.Dat},aB H vs ds->aB H' vs ds
 |_,_,.nil=>.nil
 |_,_,.cons h r=>.cons (Rep.mono s h) (aB.mono s r)
end
theorem aB.length{H:Hp}:∀{vs:List V} {ds:List Dm.Dat},aB H vs ds->vs.length=ds.length
 |_,_,.nil=>rfl
 |_,_,.cons _ r=>by simp[aB.length r]
theorem aB.get{H:Hp}:∀{vs:List V} {ds:List Dm.Dat} {i:Nat} {d:Dm.Dat},aB H vs ds->ds[i]?=some d->∃v,vs[i]?=some v/\Rep H v d
 |_,_,_,_,.nil,e=>by simp at e
 |_,_,0,_,.cons h _,e=>by simp at e;subst e;exact⟨_,rfl,h⟩
 |_,_,i+1,_,.cons _ r,e=>by obtain⟨v,h1,h2⟩:=aB.get (i:=i) r (by simpa using e);exact⟨v,by simpa using h1,h2⟩
theorem aB.append{H:Hp}:∀{vs ws:List V} {ds es:List Dm.Dat},aB H vs ds->aB H ws es->aB H (vs++ws) (ds++es)
 |_,_,_,_,.nil,s=>s
 |_,_,_,_,.cons h r,s=>.cons h (aB.append r s)
theorem aB.take{H:Hp}:∀{vs:List V} {ds:List Dm.Dat} (n:Nat),aB H vs ds->aB H (vs.take n) (ds.take n)
 |_,_,0,_=>by simpa using aB.nil
 |_,_,_+1,.nil=>by simpa using aB.nil
 |_,_,n+1,.cons h r=>by simpa using aB.cons h (aB.take n r)
theorem aB.drop{H:Hp}:∀{vs:List V} {ds:List Dm.Dat} (n:Nat),aB H vs ds->aB H (vs.drop n) (ds.drop n)
 |_,_,0,r=>by simpa using r
 |_,_,_+1,.nil=>by simpa using aB.nil
 |_,_,n+1,.cons _ r=>by simpa using aB.drop n r
theorem aB.set{H:Hp}{v:V}{d:Dm.Dat}(h:Rep H v d):∀{vs:List V} {ds:List Dm.Dat} (i:Nat),aB H vs ds->aB H (vs.set i v) (ds.set i d)
 |_,_,_,.nil=>.nil
 |_,_,0,.cons _ r=>.cons h r
 |_,_,i+1,.cons q r=>.cons q (aB.set h i r)
theorem aB.reverse{H:Hp}:∀{vs:List V} {ds:List Dm.Dat},aB H vs ds->aB H vs.reverse ds.reverse
 |_,_,.nil=>.nil
 |_,_,.cons h r=>by rw[List.reverse_cons,List.reverse_cons];exact aB.append (aB.reverse r) (.cons h .nil)
theorem aB.rep{H:Hp}{vs:List V}{ds:List Dm.Dat}(r:aB H vs ds):∀k:Nat,aB H (List.replicate k vs).flatten (List.replicate k ds).flatten
 |0=>by simpa using aB.nil
 |k+1=>by rw[List.replicate_succ,List.replicate_succ,List.flatten_cons,List.flatten_cons];exact aB.append r (aB.rep r k)
noncomputable def Own(H0 H:Hp)(a:Addr):Dm.Dat->Prop
 |.lst ds=>∃xs,H a=some (.lst xs)/\aB H0 xs ds
 |.dct ks ds=>∃kvs:List (Key×V),H a=some (.dK kvs)/\kvs.map (·.1)=ks.map Sum.inl/\aB H0 (kvs.map (·.2)) ds
 |_=>False
theorem Own.some{H0 H:Hp}{a:Addr}{d:Dm.Dat}(h:Own H0 H a d):∃o,H a=some o:=by
 cases d with
 |lst ds=>obtain⟨xs,e,_⟩:=h;exact⟨_,e⟩
 |dct ks ds=>obtain⟨xs,e,_⟩:=h;exact⟨_,e⟩
 |_=>exact False.elim h
theorem Own.mono{H0 H H0' H':Hp}{a:Addr}{d:Dm.Dat}(h:Own H0 H a d)(s:au H0 H0')(e:H' a=H a):Own H0' H' a d:=by
 cases d with
 |lst ds=>obtain⟨xs,q,r⟩:=h;exact⟨xs,by rw[e];exact q,r.mono s⟩
 |dct ks ds=>obtain⟨xs,q,k,r⟩:=h;exact⟨xs,by rw[e];exact q,k,r.mono s⟩
 |_=>exact False.elim h
noncomputable def jF(H0 H:Hp)(v:V)(d:Dm.Dat):Prop:=Rep H0 v d\/∃a,v=V.ref a/\Own H0 H a d
inductive rR(H0 H:Hp):List V->List Dm.Dat->Prop
 |nil:rR H0 H [] []
 |cons {v:V} {d:Dm.Dat} {vs:List V} {ds:List Dm.Dat}:jF H0 H v d->rR H0 H vs ds->rR H0 H (v::vs) (d::ds)
noncomputable def shr(H0 H:Hp)(a:Addr):Hp:=fun b=>if b=a then H a else H0 b
theorem dU{H0 H:Hp}{a:Addr}:shr H0 H a a=H a:=by unfold shr;rw[if_pos rfl]
theorem gx{H0 H:Hp}{a b:Addr}(h:b≠a):shr H0 H a b=H0 b:=by unfold shr;rw[if_neg h]
theorem i0{H0 H:Hp}{a:Addr}(h:H0 a=none):au H0 (shr H0 H a):=fun b o e=>by
 by_cases q:b=a
 ·subst q;rw[h]at e;cases e
 ·rw[gx q];exact e
theorem wZ{H0 H:Hp}{a:Addr}(s:au H0 H):au (shr H0 H a) H:=fun b o e=>by
 by_cases q:b=a
 ·subst q;rw[dU]at e;exact e
 ·rw[gx q]at e;exact s _ _ e
theorem Own.rep{H0 H:Hp}{a:Addr}{d:Dm.Dat}(h:Own H0 H a d)(n:H0 a=none):Rep (shr H0 H a) (V.ref a) d:=by
 cases d with
 |lst ds=>obtain⟨xs,q,r⟩:=h;exact .lst (.inl (by rw[dU];exact q)) (r.mono (i0 n))
 |dct ks ds=>obtain⟨xs,q,k,r⟩:=h;exact .dct (by rw[dU];exact q) k (r.mono (i0 n))
 |_=>exact False.elim h
noncomputable def ak(σ:St)(ρ:Dm.Env)(a:Addr):Prop:=∃(i:Nat) (d:Dm.Dat),ρ[i]?=some (Dm.Cell.ow d)/\σ[i]?=some (some (V.ref a))
noncomputable abbrev Def(_:Dm.Env)(_:Nat):Prop:=True
structure aD(H0 H:Hp)(σ:St)(ρ:Dm.Env):Prop where
 same:au H0 H
 len:σ.length=ρ.length
 sh:∀(i:Nat) (d:Dm.Dat),ρ[i]?=some (Dm.Cell.sh d)->∃v,σ[i]?=some (some v)/\Rep H0 v d
 ow:∀(i:Nat) (d:Dm.Dat),ρ[i]?=some (Dm.Cell.ow d)->∃a,σ[i]?=some (some (V.ref a))/\H0 a=none/\Own H0 H a d
 dis:∀(i j:Nat) (d e:Dm.Dat) (a:Addr),ρ[i]?=some (Dm.Cell.ow d)->ρ[j]?=some (Dm.Cell.ow e)->σ[i]?=some (some (V.ref a))->σ[j]?=some (some (V.ref a))->i=j
structure Stp(O:Addr->Prop)(H0 H H0' H':Hp):Prop where
 s0:au H0 H0'
 s1:∀a o,H a=some o->¬O a->H' a=some o
 s2:∀a o,H0' a=some o->H a=none\/H0 a=some o\/O a
 s3:∀a o,H a=some o->∃o',H' a=some o'
theorem Stp.refl(O:Addr->Prop)(H0 H:Hp):Stp O H0 H H0 H:=⟨au.refl _,fun _ _ e _=>e,fun _ _ e=>.inr (.inl e),fun _ o e=>⟨o,e⟩⟩
theorem Stp.gone{O:Addr->Prop}{H0 H H0' H':Hp}(t:Stp O H0 H H0' H'){a:Addr}(h:H' a=none):H a=none:=by
 cases q:H a with
 |none=>rfl
 |some o=>obtain⟨o',e⟩:=t.s3 a o q;rw[h]at e;cases e
theorem Stp.trans{O1 O2:Addr->Prop}{H0 H H1 H' H2 H'':Hp}(t:Stp O1 H0 H H1 H')(u:Stp O2 H1 H' H2 H'')(k:∀a,O2 a->O1 a\/H a=none):Stp O1 H0 H H2 H'' where
 s0:=t.s0.trans u.s0
 s1:=fun a o e n=>u.s1 a o (t.s1 a o e n) fun z=>(k a z).elim n fun q=>by rw[q]at e;cases e
 s2:=fun a o e=>by
  rcases u.s2 a o e with q | q | q
  ·exact .inl (t.gone q)
  ·exact t.s2 a o q
  ·rcases k a q with z | z
   ·exact .inr (.inr z)
   ·exact .inl z
 s3:=fun a o e=>by obtain⟨o',e'⟩:=t.s3 a o e;exact u.s3 a o' e'
theorem Stp.wide{O O':Addr->Prop}{H0 H H0' H':Hp}(t:Stp O H0 H H0' H')(k:∀a,O a->O' a):Stp O' H0 H H0' H':=
 ⟨t.s0,fun a o e n=>t.s1 a o e fun z=>n (k a z),fun a o e=>(t.s2 a o e).imp id (Or.imp id (k a)),t.s3⟩
structure aI(H0 H H0' H':Hp):Prop where
 s0:au H0 H0'
 s1:au H H'
 s2:∀a o,H0' a=some o->H a=none\/H0 a=some o
 s3:au H0' H'
theorem aI.refl{H0 H:Hp}(s:au H0 H):aI H0 H H0 H:=⟨au.refl _,au.refl _,fun _ _ e=>.inr e,s⟩
theorem aI.stp{H0 H H0' H':Hp}(g:aI H0 H H0' H')(O:Addr->Prop):Stp O H0 H H0' H':=
 ⟨g.s0,fun a o e _=>g.s1 a o e,fun a o e=>(g.s2 a o e).imp id .inl,fun a o e=>⟨o,g.s1 a o e⟩⟩
theorem aI.EF{H0 H:Hp}(s:au H0 H){p:Addr}{o:HO}(n:H p=none):aI H0 H (upd H0 p o) (upd H p o) where
 s0:=fun b u e=>by rw[aA (aJ e (s.free n))];exact e
 s1:=fun b u e=>by rw[aA (aJ e n)];exact e
 s2:=fun b u e=>by
  by_cases q:b=p
  ·subst q;exact .inl n
  ·rw[aA q]at e;exact .inr e
 s3:=fun b u e=>by
  by_cases q:b=p
  ·subst q;rw[av]at e ⊢;exact e
  ·rw[aA q]at e ⊢;exact s _ _ e
theorem aI.jG{H0 H:Hp}(s:au H0 H){p:Addr}{o:HO}(n:H p=none):aI H0 H H0 (upd H p o) where
 s0:=au.refl _
 s1:=fun b u e=>by rw[aA (aJ e n)];exact e
 s2:=fun b u e=>.inr e
 s3:=fun b u e=>by rw[aA (aJ (s _ _ e) n)];exact s _ _ e
noncomputable def fy(Hs H0 H:Hp)(σ:St)(ρ:Dm.Env)(v:V):Dm.Val->Prop
 |.val d=>Rep H0 v d
 |.slot i=>σ[i]?=some (some v)/\Def ρ i
 |.new d=>∃a,v=V.ref a/\Hs a=none/\¬ak σ ρ a/\H0 a=none/\Own H0 H a d
structure ESt(σ:St)(ρ:Dm.Env)(H0 H:Hp)(ρ':Dm.Env)(H0' H':Hp):Prop where
 st:aD H0' H' σ ρ'
 stp:Stp (ak σ ρ) H0 H H0' H'
 own:∀a,ak σ ρ' a->ak σ ρ a
 dfn:∀i,Def ρ i->Def ρ' i
theorem ESt.refl{σ:St}{ρ:Dm.Env}{H0 H:Hp}(st:aD H0 H σ ρ):ESt σ ρ H0 H ρ H0 H:=⟨st,Stp.refl _ _ _,fun _ z=>z,fun _ z=>z⟩
theorem ESt.trans{σ:St}{ρ ρ1 ρ2:Dm.Env}{H0 H H1 H' H2 H'':Hp}(t:ESt σ ρ H0 H ρ1 H1 H')(u:ESt σ ρ1 H1 H' ρ2 H2 H''):ESt σ ρ H0 H ρ2 H2 H'':=
 ⟨u.st,t.stp.trans u.stp fun a z=>.inl (t.own a z),fun a z=>t.own a (u.own a z),fun i z=>u.dfn i (t.dfn i z)⟩
theorem aD.grow{σ:St}{ρ:Dm.Env}{H0 H H0' H':Hp}(st:aD H0 H σ ρ)(g:aI H0 H H0' H'):aD H0' H' σ ρ where
 same:=g.s3
 len:=st.len
 sh:=fun i d e=>by obtain⟨v,q,r⟩:=st.sh i d e;exact⟨v,q,r.mono g.s0⟩
 ow:=fun i d e=>by
  obtain⟨a,q,n,w⟩:=st.ow i d e;obtain⟨o,z⟩:=w.some;refine⟨a,q,?_,w.mono g.s0 ((g.s1 a o z).trans z.symm)⟩;cases y:H0' a with
  |none=>rfl
  |some u=>
   rcases g.s2 a u y with k | k
   ·rw[z]at k;cases k
   ·rw[n]at k;cases k
 dis:=st.dis
theorem ESt.grow{σ:St}{ρ:Dm.Env}{H0 H H0' H':Hp}(st:aD H0 H σ ρ)(g:aI H0 H H0' H'):ESt σ ρ H0 H ρ H0' H':=
 ⟨st.grow g,g.stp _,fun _ z=>z,fun _ z=>z⟩
theorem fy.mono{Hs H0 H H0' H':Hp}{σ:St}{ρ ρ':Dm.Env}{v:V}{x:Dm.Val}(r:fy Hs H0 H σ ρ v x)(t:ESt σ ρ H0 H ρ' H0' H'):fy Hs H0' H' σ ρ' v x:=by
 cases x with
 |val d=>exact Rep.mono t.stp.s0 r
 |slot i=>exact⟨r.1,t.dfn i r.2⟩
 |new d=>
  obtain⟨a,e,n,no,n0,w⟩:=r;obtain⟨o,z⟩:=w.some;refine⟨a,e,n,fun y=>no (t.own a y),?_,w.mono t.stp.s0 ((t.stp.s1 a o z no).trans z.symm)⟩;cases y:H0' a with
  |none=>rfl
  |some u=>
   rcases t.stp.s2 a u y with k | k | k
   ·rw[z]at k;cases k
   ·rw[n0]at k;cases k
   ·exact absurd k no
theorem fy.early{Hs Hs' H0 H:Hp}{σ:St}{ρ:Dm.Env}{v:V}{x:Dm.Val}(r:fy Hs H0 H σ ρ v x)(k:∀a,Hs a=none->Hs' a=none):fy Hs' H0 H σ ρ v x:=by
 cases x with
 |val d=>exact r
 |slot i=>exact r
 |new d=>obtain⟨a,e,n,z⟩:=r;exact⟨a,e,k a n,z⟩
theorem fy.look{Hs H0 H:Hp}{σ:St}{ρ:Dm.Env}{v:V}{x:Dm.Val}{d:Dm.Dat}(r:fy Hs H0 H σ ρ v x)(st:aD H0 H σ ρ)(e:Dm.pk ρ x=some d):jF H0 H v d:=by
 cases x with
 |val d'=>cases e;exact .inl r
 |new d'=>cases e;obtain⟨a,e,_,_,_,w⟩:=r;exact .inr ⟨a,e,w⟩
 |slot i=>
  obtain⟨q,_⟩:=r;unfold Dm.pk at e;dsimp only at e;split at e
  ·rename_i d' h
   cases e;obtain⟨a,z,_,w⟩:=st.ow i d h;rw[q]at z;cases z;exact .inr ⟨a,rfl,w⟩
  ·rename_i d' h
   cases e;obtain⟨u,z,w⟩:=st.sh i d h;rw[q]at z;cases z;exact .inl w
  ·cases e
noncomputable def rS(Hs H0 H:Hp)(v:V):Dm.RV->Prop
 |.val d=>Rep H0 v d
 |.new d=>∃a,v=V.ref a/\Hs a=none/\H0 a=none/\Own H0 H a d
theorem rS.toV{H H0' H' H0:Hp}{σ:St}{ρ:Dm.Env}{v:V}{z:Dm.RV}(r:rS H H0' H' v z)(st:aD H0 H σ ρ):fy H H0' H' σ ρ v z.bD:=by
 cases z with
 |val d=>exact r
 |new d=>obtain⟨a,e,n,n0,w⟩:=r;refine⟨a,e,n,fun⟨i,d',h1,h2⟩=>?_,n0,w⟩;obtain⟨a',q,_,w'⟩:=st.ow i d' h1;rw[h2]at q;cases q;obtain⟨o,z⟩:=w'.some;rw[n]at z;cases z
noncomputable def tD(f:Dm.FE):TE:=fun σ H Q=>∃H0 ρ x ρ',aD H0 H σ ρ/\f ρ=some (x,ρ')/\∀v H0' H',ESt σ ρ H0 H ρ' H0' H'->fy H H0' H' σ ρ' v x->Q v H'
noncomputable def tDT(f:Dm.FT):TT:=fun σ H Q=>∃H0 ρ b ρ',aD H0 H σ ρ/\f ρ=some (b,ρ')/\∀H0' H',ESt σ ρ H0 H ρ' H0' H'->Q b H'
inductive cX(Hs H0 H:Hp)(σ:St)(ρ:Dm.Env):List V->List Dm.Val->Prop
 |nil:cX Hs H0 H σ ρ [] []
 |cons {v:V} {x:Dm.Val} {vs:List V} {xs:List Dm.Val}:fy Hs H0 H σ ρ v x->cX Hs H0 H σ ρ vs xs->cX Hs H0 H σ ρ (v::vs) (x::xs)
noncomputable def tDA(fs:List Dm.FE):TA:=fun σ H Q=>∃H0 ρ xs ρ',aD H0 H σ ρ/\Dm.eAs fs ρ=some (xs,ρ')/\∀vs H0' H',ESt σ ρ H0 H ρ' H0' H'->cX H H0' H' σ ρ' vs xs->Q vs H'
noncomputable abbrev DE(X:Cx)(e:Expr)(f:Dm.FE):Prop:=PE X e (tD f)
noncomputable abbrev DT(X:Cx)(e:Expr)(f:Dm.FT):Prop:=PT X e (tDT f)
noncomputable abbrev DA(X:Cx)(es:List Expr)(fs:List Dm.FE):Prop:=PA X es (tDA fs)
theorem PE.weak{X:Cx}{e:Expr}{t t':TE}(h:PE X e t)(k:∀σ H Q,t' σ H Q->t σ H Q):PE X e t':=fun pins s σ H Q I q=>h pins s σ H Q I (k σ H Q q)
theorem PT.weak{X:Cx}{e:Expr}{t t':TT}(h:PT X e t)(k:∀σ H Q,t' σ H Q->t σ H Q):PT X e t':=fun pins s σ H Q I q=>h pins s σ H Q I (k σ H Q q)
theorem PA.weak{X:Cx}{es:List Expr}{t t':TA}(h:PA X es t)(k:∀σ H Q,t' σ H Q->t σ H Q):PA X es t':=fun pos pins s σ H Q I q=>h pos pins s σ H Q I (k σ H Q q)
theorem PS.weak{X:Cx}{st:Stmt}{t t':TS}(h:PS X st t)(k:∀D σ H,t' D σ H->t D σ H):PS X st t':=fun pins s σ H D I q=>h pins s σ H D I (k D σ H q)
theorem PSs.weak{X:Cx}{st:List Stmt}{t t':TS}(h:PSs X st t)(k:∀D σ H,t' D σ H->t D σ H):PSs X st t':=fun pins s σ H D I q=>h pins s σ H D I (k D σ H q)
theorem cZ{H0 H:Hp}{a:Addr}(s:au H0 H):au H0 (shr H0 H a):=fun b o e=>by
 by_cases q:b=a
 ·subst q;rw[dU];exact s _ _ e
 ·rw[gx q];exact e
theorem Own.L5{H0 H0c H:Hp}{a:Addr}{d:Dm.Dat}(h:Own H0 H a d)(b:au H0 H0c)(s:au H0c H):Rep (shr H0c H a) (V.ref a) d:=by
 cases d with
 |lst ds=>obtain⟨xs,q,r⟩:=h;exact .lst (.inl (by rw[dU];exact q)) (r.mono (b.trans (cZ s)))
 |dct ks ds=>obtain⟨xs,q,k,r⟩:=h;exact .dct (by rw[dU];exact q) k (r.mono (b.trans (cZ s)))
 |_=>exact False.elim h
theorem fy.rho{Hs H0 H:Hp}{σ:St}{ρ ρ':Dm.Env}{v:V}{x:Dm.Val}(r:fy Hs H0 H σ ρ v x)(o:∀a,ak σ ρ' a->ak σ ρ a)(d:∀i,Def ρ i->Def ρ' i):fy Hs H0 H σ ρ' v x:=by
 cases x with
 |val d=>exact r
 |slot i=>exact⟨r.1,d i r.2⟩
 |new d=>obtain⟨a,e,n,no,z⟩:=r;exact⟨a,e,n,fun y=>no (o a y),z⟩
theorem cX.rho{Hs H0 H:Hp}{σ:St}{ρ ρ':Dm.Env}(o:∀a,ak σ ρ' a->ak σ ρ a)(d:∀i,Def ρ i->Def ρ' i):∀{vs:List V} {xs:List Dm.Val},cX Hs H0 H σ ρ vs xs->cX Hs H0 H σ ρ' vs xs
 |_,_,.nil=>.nil
 |_,_,.cons h r=>.cons (h.rho o d) (cX.rho o d r)
theorem cX.early{Hs Hs' H0 H:Hp}{σ:St}{ρ:Dm.Env}(k:∀a,Hs a=none->Hs' a=none):∀{vs:List V} {xs:List Dm.Val},cX Hs H0 H σ ρ vs xs->cX Hs' H0 H σ ρ vs xs
 |_,_,.nil=>.nil
 |_,_,.cons h r=>.cons (h.early k) (cX.early k r)
theorem aM{ρ:Dm.Env}{i j:Nat}{c d:Dm.Cell}(h:(ρ.set i c)[j]?=some d):(j=i/\d=c)\/(j≠i/\ρ[j]?=some d):=by
 by_cases e:j=i
 ·subst e
  by_cases l:j<ρ.length
  ·rw[List.getElem?_set_self l]at h
   exact .inl ⟨rfl,(Option.some.inj h).symm⟩
  ·rw[List.getElem?_eq_none (by simpa using Nat.not_lt.mp l)]at h
   cases h
 ·rw[List.getElem?_set_ne (Ne.symm e)]at h
  exact .inr ⟨e,h⟩
theorem u9{H0 H:Hp}{σ:St}{ρ:Dm.Env}{i:Nat}{a:Addr}{d:Dm.Dat}(st:aD H0 H σ ρ)(e:ρ[i]?=some (.ow d))(q:σ[i]?=some (some (V.ref a))) :
  aD (shr H0 H a) H σ (ρ.set i (.sh d))/\(∀b,ak σ (ρ.set i (.sh d)) b->ak σ ρ b)/\∀j,Def ρ j->Def (ρ.set i (.sh d)) j:=by
 obtain⟨a',q',n,w⟩:=st.ow i d e;rw[q]at q';cases q';have hil:i<ρ.length:=(List.getElem?_eq_some_iff.mp e).1;refine⟨⟨wZ st.same,by rw[List.length_set];exact st.len,fun j d' h=>?_,fun j d' h=>?_,fun j k d1 d2 b h1 h2 h3 h4=>?_⟩,fun b ⟨j,d',h1,h2⟩=>?_,fun j h=>?_⟩
 ·rcases aM h with⟨rfl,z⟩ | ⟨_,h⟩
  ·cases z
   exact⟨_,q,w.rep n⟩
  ·obtain⟨v,z,r⟩:=st.sh j d' h
   exact⟨v,z,r.mono (i0 n)⟩
 ·rcases aM h with⟨_,z⟩ | ⟨hj,h⟩
  ·cases z
  ·obtain⟨b,z,n',w'⟩:=st.ow j d' h
   have nb:b≠a:=fun y=>hj (st.dis j i d' d a h e (y▸z) q)
   exact⟨b,z,by rw[gx nb];exact n',w'.mono (i0 n) rfl⟩
 ·rcases aM h1 with⟨_,z⟩ | ⟨_,h1⟩
  ·cases z
  ·rcases aM h2 with⟨_,z⟩ | ⟨_,h2⟩
   ·cases z
   ·exact st.dis j k d1 d2 b h1 h2 h3 h4
 ·rcases aM h1 with⟨_,z⟩ | ⟨_,h1⟩
  ·cases z
  ·exact⟨j,d',h1,h2⟩
 ·trivial
theorem zd{H0 H:Hp}{σ:St}{ρ:Dm.Env}{a:Addr}(st:aD H0 H σ ρ)(no:¬ak σ ρ a):aD (shr H0 H a) H σ ρ where
 same:=wZ st.same
 len:=st.len
 sh:=fun j d h=>by obtain⟨v,z,r⟩:=st.sh j d h;exact⟨v,z,r.mono (cZ st.same)⟩
 ow:=fun j d h=>by
  obtain⟨b,z,n',w'⟩:=st.ow j d h;have nb:b≠a:=fun y=>no ⟨j,d,h,y▸z⟩
  exact⟨b,z,by rw[gx nb];exact n',w'.mono (cZ st.same) rfl⟩
 dis:=st.dis
theorem take1{Hs H0s H0 H0c H:Hp}{σ:St}{ρs ρ ρ':Dm.Env}{v:V}{x:Dm.Val}{d:Dm.Dat}(t:ESt σ ρs H0s Hs ρ H0c H)(b:au H0 H0c)(r:fy Hs H0 H σ ρ v x)(e:Dm.tk ρ x=some (d,ρ')) :
  ∃lD,ESt σ ρs H0s Hs ρ' lD H/\au H0c lD/\Rep lD v d/\(∀a,ak σ ρ' a->ak σ ρ a)/\∀i,Def ρ i->Def ρ' i:=by
 cases x with
 |val d'=>cases e;exact⟨H0c,t,au.refl _,Rep.mono b r,fun _ z=>z,fun _ z=>z⟩
 |new d'=>
  cases e;obtain⟨a,e,n,no,n0,w⟩:=r;subst e;have ss:=cZ (a:=a) t.st.same;refine⟨shr H0c H a,⟨zd t.st no,⟨t.stp.s0.trans ss,t.stp.s1,fun c o q=>?_,t.stp.s3⟩,t.own,t.dfn⟩,ss,w.L5 b t.st.same,fun _ z=>z,fun _ z=>z⟩;by_cases y:c=a
  ·subst y;exact .inl n
  ·rw[gx y]at q;exact t.stp.s2 c o q
 |slot i=>
  obtain⟨q,_⟩:=r;unfold Dm.tk at e;dsimp only at e;split at e
  ·rename_i d' h
   cases e;obtain⟨a,z,n,w⟩:=t.st.ow i _ h;rw[q]at z;cases z;obtain⟨s1,s2,s3⟩:=u9 t.st h q;have ss:=cZ (a:=a) t.st.same;refine⟨shr H0c H a,⟨s1,⟨t.stp.s0.trans ss,t.stp.s1,fun c o q'=>?_,t.stp.s3⟩,fun b z=>t.own b (s2 b z),fun j z=>s3 j (t.dfn j z)⟩,ss,w.L5 (au.refl _) t.st.same,s2,s3⟩;by_cases y:c=a
   ·subst y;exact .inr (.inr (t.own c ⟨i,_,h,q⟩))
   ·rw[gx y]at q';exact t.stp.s2 c o q'
  ·rename_i d' h
   cases e;obtain⟨u,z,w⟩:=t.st.sh i _ h;rw[q]at z;cases z;exact⟨H0c,t,au.refl _,w,fun _ z=>z,fun _ z=>z⟩
  ·cases e
theorem takes{Hs H0s H0 H:Hp}{σ:St}{ρs:Dm.Env}:∀{xs:List Dm.Val} {vs:List V} {ρ ρ':Dm.Env} {ds:List Dm.Dat} {H0c:Hp},ESt σ ρs H0s Hs ρ H0c H->au H0 H0c->cX Hs H0 H σ ρ vs xs->Dm.tks ρ xs=some (ds,ρ') ->
  ∃lD,ESt σ ρs H0s Hs ρ' lD H/\au H0c lD/\aB lD vs ds
 |[],_,ρ,ρ',ds,H0c,t,b,r,e=>by cases r;cases e;exact⟨H0c,t,au.refl _,.nil⟩
 |x::xs,_,ρ,ρ',ds,H0c,t,b,r,e=>by
  cases r with
  |cons h r=>
   unfold Dm.tks at e;split at e
   ·cases e
   ·rename_i d ρ1 e1
    split at e
    ·cases e
    ·rename_i ds' ρ2 e2
     cases e;obtain⟨H1,t1,b1,r1,o1,d1⟩:=take1 t b h e1;obtain⟨H2,t2,b2,r2⟩:=takes t1 (b.trans b1) (r.rho o1 d1) e2;exact⟨H2,t2,b1.trans b2,.cons (r1.mono b2) r2⟩
theorem L6{ρ ρ':Dm.Env}{x:Dm.Val}{d:Dm.Dat}(e:Dm.tk ρ x=some (d,ρ'))(y:Dm.Val):Dm.pk ρ' y=Dm.pk ρ y:=by
 cases x with
 |val d'=>cases e;rfl
 |new d'=>cases e;rfl
 |slot i=>
  unfold Dm.tk at e;dsimp only at e;split at e
  ·rename_i d' h
   cases e;cases y with
   |val _=>rfl
   |new _=>rfl
   |slot j=>
    unfold Dm.pk;dsimp only;by_cases z:j=i
    ·subst z
     rw[List.getElem?_set_self (List.getElem?_eq_some_iff.mp h).1,h]
    ·rw[List.getElem?_set_ne (Ne.symm z)]
  ·cases e;rfl
  ·cases e
theorem AV{ρ:Dm.Env}{x:Dm.Val}{d:Dm.Dat}(e:Dm.pk ρ x=some d):∃ρ',Dm.tk ρ x=some (d,ρ'):=by
 cases x with
 |val d'=>cases e;exact⟨ρ,rfl⟩
 |new d'=>cases e;exact⟨ρ,rfl⟩
 |slot i=>
  unfold Dm.pk at e;dsimp only at e;unfold Dm.tk;dsimp only;split at e
  ·rename_i d' h;cases e;exact⟨_,rfl⟩
  ·rename_i d' h;cases e;exact⟨_,rfl⟩
  ·cases e
theorem lE:∀{xs:List Dm.Val} {ρ:Dm.Env} {ds:List Dm.Dat},Dm.pks ρ xs=some ds->∃ρ',Dm.tks ρ xs=some (ds,ρ')
 |[],ρ,ds,e=>by cases e;exact⟨ρ,rfl⟩
 |x::xs,ρ,ds,e=>by
  unfold Dm.pks at e;split at e
  ·cases e
  ·rename_i d e1
   split at e
   ·cases e
   ·rename_i ds' e2
    cases e;obtain⟨ρ1,h1⟩:=AV e1;have key:∀ys:List Dm.Val,Dm.pks ρ1 ys=Dm.pks ρ ys:=fun ys=>by
     induction ys with
     |nil=>rfl
     |cons y ys ih=>unfold Dm.pks;rw[L6 h1 y,ih]
    obtain⟨ρ2,h2⟩:=lE (xs:=xs) (ρ:=ρ1) (ds:=ds') (by rw[key];exact e2);exact⟨ρ2,by unfold Dm.tks;rw[h1];dsimp only;rw[h2]⟩
theorem looks{Hs H0 H:Hp}{σ:St}{ρ:Dm.Env}(st:aD H0 H σ ρ):∀{xs:List Dm.Val} {vs:List V} {ds:List Dm.Dat},cX Hs H0 H σ ρ vs xs->Dm.pks ρ xs=some ds->rR H0 H vs ds
 |[],_,ds,r,e=>by cases r;cases e;exact .nil
 |x::xs,_,ds,r,e=>by
  cases r with
  |cons h r=>
   unfold Dm.pks at e;split at e
   ·cases e
   ·rename_i d e1
    split at e
    ·cases e
    ·rename_i ds' e2
     cases e;exact .cons (h.look st e1) (looks st r e2)
noncomputable def OpD(r:R2)(g:Dm.Dat->Dm.Dat->Option Dm.RV):Prop:=∀(H0 H:Hp) (x y:V) (dx dy:Dm.Dat) (z:Dm.RV) (Q:VK),au H0 H->jF H0 H x dx->jF H0 H y dy->g dx dy=some z ->
 (∀v H0' H',aI H0 H H0' H'->rS H H0' H' v z->Q v H')->r x y H Q
noncomputable def UnD(r:V->Hp->VK->Prop)(g:Dm.Dat->Option Dm.RV):Prop:=∀(H0 H:Hp) (x:V) (dx:Dm.Dat) (z:Dm.RV) (Q:VK),au H0 H->jF H0 H x dx->g dx=some z ->
 (∀v H0' H',aI H0 H H0' H'->rS H H0' H' v z->Q v H')->r x H Q
noncomputable def CallD(r:List V->Hp->VK->Prop)(g:List Dm.Dat->Option Dm.RV):Prop:=∀(H0 H:Hp) (vs:List V) (ds:List Dm.Dat) (z:Dm.RV) (Q:VK),au H0 H->rR H0 H vs ds->g ds=some z ->
 (∀v H0' H',aI H0 H H0' H'->rS H H0' H' v z->Q v H')->r vs H Q
noncomputable def spD(f:List Dm.Dat->Option Dm.RV):Sp:=fun vs H Q _=>∃H0 ds z,au H0 H/\aB H0 vs ds/\f ds=some z/\∀v H0' H',aI H0 H H0' H'->rS H H0' H' v z->Q v H'
section
variable{σ:St}{H:Hp}{Q:VK}
theorem L7{i:Nat}(h:tD (Dm.eV i) σ H Q):lg i σ H Q:=by
 obtain⟨H0,ρ,x,ρ',st,e,k⟩:=h;unfold Dm.eV at e;split at e
 ·rename_i d h1
  cases e;obtain⟨v,q,r⟩:=st.sh i d h1;exact⟨v,q,k v H0 H (.refl st) r⟩
 ·rename_i d h1
  cases e;obtain⟨a,q,_⟩:=st.ow i d h1;exact⟨_,q,k _ H0 H (.refl st) ⟨q,trivial⟩⟩
 ·cases e
theorem i6{d:Dm.Dat}{v:V}(c:∀H0:Hp,Rep H0 v d)(h:tD (Dm.eC d) σ H Q):tC v σ H Q:=by obtain⟨H0,ρ,x,ρ',st,e,k⟩:=h;cases e;exact k v H0 H (.refl st) (c H0)
theorem u_{r:R2}{g:Dm.Dat->Dm.Dat->Option Dm.RV}{fa fb:Dm.FE}(o:OpD r g)(h:tD (Dm.e2 g fa fb) σ H Q):tOp r (tD fa) (tD fb) σ H Q:=by
 obtain⟨H0,ρ,x,ρ',st,e,k⟩:=h;unfold Dm.e2 at e;split at e
 ·cases e
 rename_i x1 ρ1 e1;split at e
 ·cases e
 rename_i y1 ρ2 e2;split at e
 ·cases e
 rename_i dx p1;split at e
 ·cases e
 rename_i dy p2;split at e
 ·cases e
 rename_i z gz;cases e;refine⟨H0,ρ,x1,ρ1,st,e1,fun v H1 Hb t1 r1=>⟨H1,ρ1,y1,_,t1.st,e2,fun u H2 Hc t2 r2=>?_⟩⟩;refine o H2 Hc v u dx dy z Q t2.st.same ((r1.mono t2).look t2.st p1) (r2.look t2.st p2) gz fun w H3 Hd g3 r3=>?_
 exact k w H3 Hd (t1.trans (t2.trans (.grow t2.st g3))) ((r3.toV t2.st).early fun a n=>(t1.trans t2).stp.gone n)
theorem OL{r:V->Hp->VK->Prop}{g:Dm.Dat->Option Dm.RV}{fa:Dm.FE}(o:UnD r g)(h:tD (Dm.e1 g fa) σ H Q):tUn r (tD fa) σ H Q:=by
 obtain⟨H0,ρ,x,ρ',st,e,k⟩:=h;unfold Dm.e1 at e;split at e
 ·cases e
 rename_i x1 ρ1 e1;split at e
 ·cases e
 rename_i dx p1;split at e
 ·cases e
 rename_i z gz;cases e;refine⟨H0,ρ,x1,_,st,e1,fun v H1 Hb t1 r1=>?_⟩;refine o H1 Hb v dx z Q t1.st.same (r1.look t1.st p1) gz fun w H3 Hd g3 r3=>?_
 exact k w H3 Hd (t1.trans (.grow t1.st g3)) ((r3.toV t1.st).early fun a n=>t1.stp.gone n)
theorem L8{Q:List V->Hp->Prop}(h:tDA [] σ H Q):Ar σ H Q:=by obtain⟨H0,ρ,xs,ρ',st,e,k⟩:=h;cases e;exact k [] H0 H (.refl st) .nil
theorem Jm{f:Dm.FE}{fs:List Dm.FE}{Q:List V->Hp->Prop}(h:tDA (f::fs) σ H Q):wN (tD f) (tDA fs) σ H Q:=by
 obtain⟨H0,ρ,xs,ρ',st,e,k⟩:=h;unfold Dm.eAs at e;split at e
 ·cases e
 rename_i x1 ρ1 e1;split at e
 ·cases e
 rename_i xs1 ρ2 e2;cases e;refine⟨H0,ρ,x1,ρ1,st,e1,fun v H1 Hb t1 r1=>⟨H1,ρ1,xs1,_,t1.st,e2,fun vs H2 Hc t2 r2=>?_⟩⟩;exact k (v::vs) H2 Hc (t1.trans t2) (.cons (r1.mono t2) (r2.early fun a n=>t1.stp.gone n))
theorem Jo{r:List V->Hp->VK->Prop}{g:List Dm.Dat->Option Dm.RV}{fs:List Dm.FE}(o:CallD r g)(h:tD (Dm.eB g fs) σ H Q):tCB r (tDA fs) σ H Q:=by
 obtain⟨H0,ρ,x,ρ',st,e,k⟩:=h;unfold Dm.eB at e;split at e
 ·cases e
 rename_i xs ρ1 e1;split at e
 ·cases e
 rename_i ds p1;split at e
 ·cases e
 rename_i z gz;cases e;refine⟨H0,ρ,xs,_,st,e1,fun vs H1 Hb t1 r1=>?_⟩;refine o H1 Hb vs ds z Q t1.st.same (looks t1.st r1 p1) gz fun w H3 Hd g3 r3=>?_
 exact k w H3 Hd (t1.trans (.grow t1.st g3)) ((r3.toV t1.st).early fun a n=>t1.stp.gone n)
theorem kU{n:Nat}(h:n<=Dm.SZ):n<=sizeLine:=Nat.le_trans h (by decide)
theorem L_{fs:List Dm.FE}(h:tD (Dm.e_ fs) σ H Q):LV (tDA fs) σ H Q:=by
 obtain⟨H0,ρ,x,ρ',st,e,k⟩:=h;unfold Dm.e_ at e;split at e
 ·cases e
 rename_i xs ρ1 e1;split at e
 ·cases e
 rename_i ds ρ2 e2;split at e
 ·rename_i hz
  cases e;refine⟨H0,ρ,xs,ρ1,st,e1,fun vs H1 Hb t1 r1=>?_⟩;obtain⟨H2,t2,b2,r2⟩:=takes t1 (au.refl _) r1 e2;refine⟨by rw[r2.length];exact kU hz,fun p hp=>?_⟩;have g:=aI.EF (o:=HO.tup vs) t2.st.same hp;exact k _ _ _ (t2.trans (.grow t2.st g)) (.tup av (r2.mono g.s0))
 ·cases e
theorem Ma{fs:List Dm.FE}(h:tD (Dm.cT fs) σ H Q):Es (tDA fs) σ H Q:=by
 obtain⟨H0,ρ,x,ρ',st,e,k⟩:=h;unfold Dm.cT at e;split at e
 ·cases e
 rename_i xs ρ1 e1;split at e
 ·cases e
 rename_i ds ρ2 e2;split at e
 ·rename_i hz
  cases e;refine⟨H0,ρ,xs,ρ1,st,e1,fun vs H1 Hb t1 r1=>?_⟩;obtain⟨H2,t2,b2,r2⟩:=takes t1 (au.refl _) r1 e2;refine⟨by rw[r2.length];exact kU hz,fun p hp=>?_⟩;have g:=aI.jG (o:=HO.lst vs) t2.st.same hp;refine k _ _ _ (t2.trans (.grow t2.st g)) ⟨p,rfl,t2.stp.gone hp,fun⟨i,d,h1,h2⟩=>?_,t2.st.same.free hp,vs,av,r2⟩;obtain⟨a,q,_,w⟩:=t2.st.ow i d h1;rw[h2]at q;cases q;obtain⟨o,z⟩:=w.some;rw[hp]at z;cases z
 ·cases e
theorem Rep.plain{H0 H1:Hp}{v:V}{d:Dm.Dat}(r:Rep H0 v d)(n:Dm.dS d=false):Rep H1 v d:=by
 cases r with
 |non=>exact .non
 |bl b=>exact .bl b
 |int i=>exact .int i
 |str s=>exact .str s
 |tup _ _=>cases n
 |lst _ _=>cases n
 |dct _ _ _=>cases n
 |exc _=>cases n
 |fn a=>exact .fn a
theorem Own.box{H0 H:Hp}{a:Addr}{d:Dm.Dat}(w:Own H0 H a d):Dm.dS d=true:=by
 cases d with
 |lst ds=>rfl
 |dct ks ds=>rfl
 |_=>exact False.elim w
theorem Jp{f:List Dm.Dat->Option Dm.RV}{fs:List Dm.FE}{E:XK}(h:tD (Dm.eF f fs) σ H Q):rG (spD f) [] E (tDA fs) σ H Q:=by
 obtain⟨H0,ρ,x,ρ',st,e,k⟩:=h;unfold Dm.eF at e;split at e
 ·cases e
 rename_i xs ρ1 e1;split at e
 ·cases e
 rename_i ds p1;split at e
 ·cases e
 rename_i z fz;refine⟨H0,ρ,xs,ρ1,st,e1,fun vs H1 Hb t1 r1=>?_⟩;dsimp only;rw[List.append_nil];obtain⟨ρ2,e2⟩:=lE p1;obtain⟨H2,t2,b2,r2⟩:=takes t1 (au.refl _) r1 e2;split at e
 ·rw[e2]at e
  cases e;exact⟨H2,ds,z,t2.st.same,r2,fz,fun w H3 Hd g3 r3=>k w H3 Hd (t2.trans (.grow t2.st g3)) ((r3.toV t2.st).early fun a n=>t2.stp.gone n)⟩
 ·rename_i nb
  cases e;refine⟨H2,ds,z,t2.st.same,r2,fz,fun w H3 Hd g3 r3=>?_⟩;have g:aI H1 Hb H1 Hd:=⟨au.refl _,g3.s1,fun a o q=>.inr q,t1.st.same.trans g3.s1⟩
  refine k w H1 Hd (t1.trans (.grow t1.st g)) ?_;cases z with
  |val d=>exact Rep.plain r3 (by simpa [Dm.RV.dat] using nb)
  |new d=>obtain⟨a,_,_,_,w⟩:=r3;exact absurd w.box (by simpa [Dm.RV.dat] using nb)
theorem OM{t:Dm.FT}{a b:Dm.FE}(h:tD (Dm.eIf t a b) σ H Q):tIf (tDT t) (tD a) (tD b) σ H Q:=by
 obtain⟨H0,ρ,x,ρ',st,e,k⟩:=h;unfold Dm.eIf at e;split at e
 ·cases e
 ·rename_i ρ1 e1
  refine⟨H0,ρ,true,ρ1,st,e1,fun H1 Hb t1=>?_⟩;dsimp only;rw[if_pos rfl];exact⟨H1,ρ1,x,ρ',t1.st,e,fun v H2 Hc t2 r2=>k v H2 Hc (t1.trans t2) (r2.early fun a n=>t1.stp.gone n)⟩
 ·rename_i ρ1 e1
  refine⟨H0,ρ,false,ρ1,st,e1,fun H1 Hb t1=>?_⟩;dsimp only;rw[if_neg Bool.false_ne_true];exact⟨H1,ρ1,x,ρ',t1.st,e,fun v H2 Hc t2 r2=>k v H2 Hc (t1.trans t2) (r2.early fun a n=>t1.stp.gone n)⟩
theorem Rep.i7{H0:Hp}{v:V}{c:Bool}(r:Rep H0 v (.bl c)):v=.bl c:=by cases r;rfl
theorem Rep.isInt{H0:Hp}{v:V}{c:Int}(r:Rep H0 v (.int c)):v=.int c:=by cases r;rfl
theorem Mb{a b:Dm.FE}(h:tD (Dm.gv a b) σ H Q):GI (tD a) (tD b) σ H Q:=by
 obtain⟨H0,ρ,x,ρ',st,e,k⟩:=h;unfold Dm.gv at e;split at e
 ·rename_i ρ1 e1
  refine⟨H0,ρ,_,_,st,e1,fun v H1 Hb t1 r1=>⟨true,Rep.i7 r1,?_⟩⟩
  try dsimp only
  rw[if_pos rfl];exact⟨H1,ρ1,x,ρ',t1.st,e,fun v H2 Hc t2 r2=>k v H2 Hc (t1.trans t2) (r2.early fun a n=>t1.stp.gone n)⟩
 ·rename_i ρ1 e1
  cases e;refine⟨H0,ρ,_,_,st,e1,fun v H1 Hb t1 r1=>⟨false,Rep.i7 r1,?_⟩⟩
  try dsimp only
  rw[if_neg Bool.false_ne_true];exact k _ H1 Hb t1 (Rep.bl false)
 ·cases e
theorem Mc{a:Dm.FE}(h:tD (Dm.u5 a) σ H Q):GJ (tD a) σ H Q:=by
 obtain⟨H0,ρ,x,ρ',st,e,k⟩:=h;unfold Dm.u5 at e;split at e
 ·rename_i c ρ1 e1
  cases e;exact⟨H0,ρ,_,_,st,e1,fun v H1 Hb t1 r1=>⟨c,Rep.i7 r1,k _ H1 Hb t1 (Rep.bl (!c))⟩⟩
 ·cases e
variable{Qt:Bool->Hp->Prop}
theorem qk{a:Dm.FE}(h:tDT (Dm.tV a) σ H Qt):GQ (tD a) σ H Qt:=by
 obtain⟨H0,ρ,x,ρ',st,e,k⟩:=h;unfold Dm.tV at e;split at e
 ·rename_i c ρ1 e1
  cases e;exact⟨H0,ρ,_,_,st,e1,fun v H1 Hb t1 r1=>⟨_,Rep.i7 r1,k H1 Hb t1⟩⟩
 ·cases e
theorem Jq{t:Dm.FT}(h:tDT (Dm.cy t) σ H Qt):cy (tDT t) σ H Qt:=by
 obtain⟨H0,ρ,x,ρ',st,e,k⟩:=h;unfold Dm.cy at e;split at e
 ·rename_i c ρ1 e1
  cases e;exact⟨H0,ρ,_,_,st,e1,fun H1 Hb t1=>k H1 Hb t1⟩
 ·cases e
theorem Jr{t u:Dm.FT}(h:tDT (Dm.kJ t u) σ H Qt):kJ (tDT t) (tDT u) σ H Qt:=by
 obtain⟨H0,ρ,x,ρ',st,e,k⟩:=h;unfold Dm.kJ at e;split at e
 ·rename_i ρ1 e1
  refine⟨H0,ρ,_,ρ1,st,e1,fun H1 Hb t1=>?_⟩;dsimp only;rw[if_pos rfl];exact⟨H1,ρ1,x,ρ',t1.st,e,fun H2 Hc t2=>k H2 Hc (t1.trans t2)⟩
 ·rename_i ρ1 e1
  cases e;refine⟨H0,ρ,_,_,st,e1,fun H1 Hb t1=>?_⟩;dsimp only;rw[if_neg Bool.false_ne_true];exact k H1 Hb t1
 ·cases e
theorem Me{t u:Dm.FT}(h:tDT (Dm.tOr t u) σ H Qt):tOr (tDT t) (tDT u) σ H Qt:=by
 obtain⟨H0,ρ,x,ρ',st,e,k⟩:=h;unfold Dm.tOr at e;split at e
 ·rename_i ρ1 e1
  cases e;refine⟨H0,ρ,_,_,st,e1,fun H1 Hb t1=>?_⟩;dsimp only;rw[if_pos rfl];exact k H1 Hb t1
 ·rename_i ρ1 e1
  refine⟨H0,ρ,_,ρ1,st,e1,fun H1 Hb t1=>?_⟩;dsimp only;rw[if_neg Bool.false_ne_true];exact⟨H1,ρ1,x,ρ',t1.st,e,fun H2 Hc t2=>k H2 Hc (t1.trans t2)⟩
 ·cases e
end
structure SSt(σ:St)(ρ:Dm.Env)(H0 H:Hp)(σ':St)(ρ':Dm.Env)(H0' H':Hp):Prop where
 st:aD H0' H' σ' ρ'
 stp:Stp (ak σ ρ) H0 H H0' H'
 own:∀a,ak σ' ρ' a->ak σ ρ a\/H a=none
 fx:σ'[0]?=σ[0]?
theorem ESt.sst{σ:St}{ρ ρ':Dm.Env}{H0 H H0' H':Hp}(t:ESt σ ρ H0 H ρ' H0' H'):SSt σ ρ H0 H σ ρ' H0' H':=⟨t.st,t.stp,fun a z=>.inl (t.own a z),rfl⟩
theorem SSt.refl{σ:St}{ρ:Dm.Env}{H0 H:Hp}(st:aD H0 H σ ρ):SSt σ ρ H0 H σ ρ H0 H:=(ESt.refl st).sst
theorem SSt.trans{σ σ1 σ2:St}{ρ ρ1 ρ2:Dm.Env}{H0 H H1 H' H2 H'':Hp}(t:SSt σ ρ H0 H σ1 ρ1 H1 H')(u:SSt σ1 ρ1 H1 H' σ2 ρ2 H2 H''):SSt σ ρ H0 H σ2 ρ2 H2 H'':=
 ⟨u.st,t.stp.trans u.stp t.own,fun a z=>(u.own a z).elim (t.own a) fun n=>.inr (t.stp.gone n),u.fx.trans t.fx⟩
noncomputable def Mf(σ:St)(ρ:Dm.Env)(H H0' H':Hp)(v:V):Dm.RV->Prop
 |.val d=>Rep H0' v d
 |.new d=>∃a,v=V.ref a/\(H a=none\/ak σ ρ a)/\H0' a=none/\Own H0' H' a d
noncomputable def oZ(D:Ends)(σ:St)(ρ:Dm.Env)(H0 H:Hp):Dm.Out->Prop
 |.nx ρ'=>∀σ' H0' H',SSt σ ρ H0 H σ' ρ' H0' H'->D.nx σ' H'
 |.bk ρ'=>∀σ' H0' H',SSt σ ρ H0 H σ' ρ' H0' H'->D.bk σ' H'
 |.ct ρ'=>∀σ' H0' H',SSt σ ρ H0 H σ' ρ' H0' H'->D.ct σ' H'
 |.ret z ρ'=>∀σ' v H0' H',SSt σ ρ H0 H σ' ρ' H0' H'->Mf σ ρ H H0' H' v z->(∀d a,z=.new d->v=.ref a->¬ak σ' ρ' a)->D.rt v H'
noncomputable def tDS(g:Dm.FS):TS:=fun D σ H=>∃H0 ρ o,aD H0 H σ ρ/\g ρ=some o/\oZ D σ ρ H0 H o
theorem oZ.pre{D:Ends}{σ σ1:St}{ρ ρ1:Dm.Env}{H0 H H1 H':Hp}{o:Dm.Out}(t:SSt σ ρ H0 H σ1 ρ1 H1 H')(k:oZ D σ ρ H0 H o):oZ D σ1 ρ1 H1 H' o:=by
 cases o with
 |nx ρ'=>exact fun σ' H0' H' u=>k σ' H0' H' (t.trans u)
 |bk ρ'=>exact fun σ' H0' H' u=>k σ' H0' H' (t.trans u)
 |ct ρ'=>exact fun σ' H0' H' u=>k σ' H0' H' (t.trans u)
 |ret z ρ'=>
  refine fun σ' v H0' H'' u r no=>k σ' v H0' H'' (t.trans u) ?_ no
  cases z with
  |val d=>exact r
  |new d=>
   obtain⟨a,e,n,n0,w⟩:=r;refine⟨a,e,?_,n0,w⟩;rcases n with n | n
   ·exact .inl (t.stp.gone n)
   ·exact(t.own a n).symm
theorem aD.mask{H0 H:Hp}{σ:L2.St}{ρ:Dm.Env}(st:aD H0 H σ ρ)(i:Nat):aD H0 H σ (ρ.set i .un) where
 same:=st.same
 len:=by rw[List.length_set];exact st.len
 sh:=fun j d h=>by
  by_cases q:i=j
  ·subst q;rw[List.getElem?_set]at h;simp only[if_true]at h;split at h<;>cases h
  ·rw[List.getElem?_set_ne q]at h;exact st.sh j d h
 ow:=fun j d h=>by
  by_cases q:i=j
  ·subst q;rw[List.getElem?_set]at h;simp only[if_true]at h;split at h<;>cases h
  ·rw[List.getElem?_set_ne q]at h;exact st.ow j d h
 dis:=fun j j' d d' a h1 h2 h3 h4=>by
  by_cases q:i=j
  ·subst q;rw[List.getElem?_set]at h1;simp only[if_true]at h1;split at h1<;>cases h1
  ·by_cases q':i=j'
   ·subst q';rw[List.getElem?_set]at h2;simp only[if_true]at h2;split at h2<;>cases h2
   ·rw[List.getElem?_set_ne q]at h1
    rw[List.getElem?_set_ne q']at h2;exact st.dis j j' d d' a h1 h2 h3 h4
theorem cA{σ:L2.St}{ρ:Dm.Env}{i:Nat}{a:Addr}(h:ak σ (ρ.set i .un) a):∃(j:Nat) (d:Dm.Dat),j≠i/\ρ[j]?=some (Dm.Cell.ow d)/\σ[j]?=some (some (V.ref a)):=by
 obtain⟨j,d,h1,h2⟩:=h;by_cases q:i=j
 ·subst q;rw[List.getElem?_set]at h1;simp only[if_true]at h1;split at h1<;>cases h1
 ·rw[List.getElem?_set_ne q]at h1;exact⟨j,d,fun z=>q z.symm,h1,h2⟩
section
variable{D:Ends}{σ:St}{H:Hp}
theorem ON(h:tDS Dm.sNx D σ H):Ad D σ H:=by obtain⟨H0,ρ,o,st,e,k⟩:=h;cases e;exact k σ H0 H (.refl st)
theorem Mg{s u:Dm.FS}(h:tDS (Dm.ao s u) D σ H):yK (tDS s) (tDS u) D σ H:=by
 obtain⟨H0,ρ,o,st,e,k⟩:=h;unfold Dm.ao at e;split at e
 ·rename_i ρ1 e1
  exact⟨H0,ρ,.nx ρ1,st,e1,fun σ' H0' H' t=>⟨H0',ρ1,o,t.st,e,k.pre t⟩⟩
 ·rename_i h1
  cases o with
  |nx ρ1=>exact absurd e (h1 ρ1)
  |bk ρ1=>exact⟨H0,ρ,_,st,e,k⟩
  |ct ρ1=>exact⟨H0,ρ,_,st,e,k⟩
  |ret z ρ1=>exact⟨H0,ρ,_,st,e,k⟩
theorem Js{f:Dm.FE}(h:tDS (Dm.sE f) D σ H):oR (tD f) D σ H:=by
 obtain⟨H0,ρ,o,st,e,k⟩:=h;unfold Dm.sE at e;split at e
 ·cases e
 ·rename_i x ρ1 e1
  cases e;exact⟨H0,ρ,x,ρ1,st,e1,fun v H0' H' t r=>k σ H0' H' t.sst⟩
theorem Mh{f:Dm.FE}(h:tDS (Dm.sR f) D σ H):LL (tD f) D σ H:=by
 obtain⟨H0,ρ,o,st,e,k⟩:=h;unfold Dm.sR at e;split at e
 ·cases e
 ·rename_i d ρ1 e1
  cases e;refine⟨H0,ρ,_,ρ1,st,e1,fun v H0' H' t r=>?_⟩;obtain⟨a,e,n,no,n0,w⟩:=r;exact k σ v H0' H' t.sst ⟨a,e,.inl n,n0,w⟩ fun d' a' _ e' z=>by rw[e]at e';cases e';exact no z
 ·rename_i d ρ1 e1
  cases e;exact⟨H0,ρ,_,ρ1,st,e1,fun v H0' H' t r=>k σ v H0' H' t.sst r fun d' a' z=>by cases z⟩
 ·rename_i i ρ1 e1
  split at e
  ·rename_i d h1
   cases e;refine⟨H0,ρ,_,ρ1,st,e1,fun v H0' H' t r=>?_⟩;obtain⟨q,_⟩:=r;obtain⟨a,q',n0,w⟩:=t.st.ow i d h1;rw[q]at q';cases q';refine k σ _ H0' H' ⟨t.st.mask i,t.stp,fun b z=>?_,rfl⟩ ⟨a,rfl,.inr (t.own a ⟨i,d,h1,q⟩),n0,w⟩ fun d' a' _ e' z=>?_
   ·obtain⟨j,d2,_,z1,z2⟩:=cA z
    exact .inl (t.own b ⟨j,d2,z1,z2⟩)
   ·cases e'
    obtain⟨j,d2,hj,z1,z2⟩:=cA z;exact hj (t.st.dis j i d2 d a z1 h1 z2 q)
  ·rename_i d h1
   cases e;refine⟨H0,ρ,_,ρ1,st,e1,fun v H0' H' t r=>?_⟩;obtain⟨q,_⟩:=r;obtain⟨u,q',w⟩:=t.st.sh i d h1;rw[q]at q';cases q';exact k σ _ H0' H' t.sst w fun d' a' z=>by cases z
  ·cases e
theorem Mi{t:Dm.FT}{a b:Dm.FS}(h:tDS (Dm.sIf t a b) D σ H):IF (tDT t) (tDS a) (tDS b) D σ H:=by
 obtain⟨H0,ρ,o,st,e,k⟩:=h;unfold Dm.sIf at e;split at e
 ·cases e
 ·rename_i ρ1 e1
  refine⟨H0,ρ,true,ρ1,st,e1,fun H1 Hb t1=>?_⟩;dsimp only;rw[if_pos rfl];exact⟨H1,ρ1,o,t1.st,e,k.pre t1.sst⟩
 ·rename_i ρ1 e1
  refine⟨H0,ρ,false,ρ1,st,e1,fun H1 Hb t1=>?_⟩;dsimp only;rw[if_neg Bool.false_ne_true];exact⟨H1,ρ1,o,t1.st,e,k.pre t1.sst⟩
end
theorem fB{σ:St}{i j:Nat}{c d:Option V}(h:(σ.set i c)[j]?=some d):(j=i/\d=c)\/(j≠i/\σ[j]?=some d):=by
 by_cases e:j=i
 ·subst e
  by_cases l:j<σ.length
  ·rw[List.getElem?_set_self l]at h
   exact .inl ⟨rfl,(Option.some.inj h).symm⟩
  ·rw[List.getElem?_eq_none (by simpa using Nat.not_lt.mp l)]at h
   cases h
 ·rw[List.getElem?_set_ne (Ne.symm e)]at h
  exact .inr ⟨e,h⟩
theorem aD.inσ{H0 H:Hp}{σ:St}{ρ:Dm.Env}{i:Nat}{c d:Dm.Cell}(st:aD H0 H σ ρ)(h:(ρ.set i c)[i]?=some d):i<σ.length:=by have:=(List.getElem?_eq_some_iff.mp h).1;rw[List.length_set]at this;rw[st.len];exact this
theorem d7{σ:St}{ρ:Dm.Env}{i:Nat}{v:V}{d:Dm.Dat}{b:Addr}(h:ak (σ.set i (some v)) (ρ.set i (.sh d)) b):ak σ ρ b:=by
 obtain⟨j,d',h1,h2⟩:=h;rcases aM h1 with⟨_,z⟩ | ⟨hj,h1⟩
 ·cases z
 ·rcases fB h2 with⟨z,_⟩ | ⟨_,h2⟩
  ·exact absurd z hj
  ·exact⟨j,d',h1,h2⟩
theorem aD.vc{H0 H:Hp}{σ:St}{ρ:Dm.Env}{i:Nat}{v:V}{d:Dm.Dat}(st:aD H0 H σ ρ)(r:Rep H0 v d):aD H0 H (σ.set i (some v)) (ρ.set i (.sh d)) where
 same:=st.same
 len:=by rw[List.length_set,List.length_set];exact st.len
 sh:=fun j d' h=>by
  rcases aM h with⟨rfl,z⟩ | ⟨hj,h'⟩
  ·cases z
   exact⟨v,List.getElem?_set_self (st.inσ h),r⟩
  ·obtain⟨u,q,w⟩:=st.sh j d' h'
   exact⟨u,by rw[List.getElem?_set_ne (Ne.symm hj)];exact q,w⟩
 ow:=fun j d' h=>by
  rcases aM h with⟨_,z⟩ | ⟨hj,h'⟩
  ·cases z
  ·obtain⟨u,q,w⟩:=st.ow j d' h'
   exact⟨u,by rw[List.getElem?_set_ne (Ne.symm hj)];exact q,w⟩
 dis:=fun j k d1 d2 b h1 h2 h3 h4=>by
  rcases aM h1 with⟨_,z⟩ | ⟨hj,h1⟩
  ·cases z
  rcases aM h2 with⟨_,z⟩ | ⟨hk,h2⟩
  ·cases z
  rw[List.getElem?_set_ne (Ne.symm hj)]at h3;rw[List.getElem?_set_ne (Ne.symm hk)]at h4;exact st.dis j k d1 d2 b h1 h2 h3 h4
theorem aD.AW{H0 H:Hp}{σ:St}{ρ:Dm.Env}{i:Nat}{a:Addr}{d:Dm.Dat}(st:aD H0 H σ ρ)(no:¬ak σ ρ a)(n0:H0 a=none)(w:Own H0 H a d):aD H0 H (σ.set i (some (.ref a))) (ρ.set i (.ow d)) where
 same:=st.same
 len:=by rw[List.length_set,List.length_set];exact st.len
 sh:=fun j d' h=>by
  rcases aM h with⟨_,z⟩ | ⟨hj,h'⟩
  ·cases z
  ·obtain⟨u,q,w⟩:=st.sh j d' h'
   exact⟨u,by rw[List.getElem?_set_ne (Ne.symm hj)];exact q,w⟩
 ow:=fun j d' h=>by
  rcases aM h with⟨rfl,z⟩ | ⟨hj,h'⟩
  ·cases z
   exact⟨a,List.getElem?_set_self (st.inσ h),n0,w⟩
  ·obtain⟨u,q,w⟩:=st.ow j d' h'
   exact⟨u,by rw[List.getElem?_set_ne (Ne.symm hj)];exact q,w⟩
 dis:=fun j k d1 d2 b h1 h2 h3 h4=>by
  rcases aM h1 with⟨e1,z1⟩ | ⟨hj,h1'⟩
  ·rcases aM h2 with⟨e2,z2⟩ | ⟨hk,h2'⟩
   ·rw[e1,e2]
   ·rcases fB h3 with⟨_,z⟩ | ⟨z,_⟩
    ·cases z
     rw[List.getElem?_set_ne (Ne.symm hk)]at h4;exact absurd ⟨k,d2,h2',h4⟩ no
    ·exact absurd e1 z
  ·rcases aM h2 with⟨e2,z2⟩ | ⟨hk,h2'⟩
   ·rcases fB h4 with⟨_,z⟩ | ⟨z,_⟩
    ·cases z
     rw[List.getElem?_set_ne (Ne.symm hj)]at h3;exact absurd ⟨j,d1,h1',h3⟩ no
    ·exact absurd e2 z
   ·rw[List.getElem?_set_ne (Ne.symm hj)]at h3
    rw[List.getElem?_set_ne (Ne.symm hk)]at h4;exact st.dis j k d1 d2 b h1' h2' h3 h4
theorem ql{σ:St}{ρ:Dm.Env}{i:Nat}{a b:Addr}{d:Dm.Dat}(h:ak (σ.set i (some (.ref a))) (ρ.set i (.ow d)) b):b=a\/ak σ ρ b:=by
 obtain⟨j,d',h1,h2⟩:=h;rcases aM h1 with⟨e,_⟩ | ⟨hj,h1⟩
 ·rcases fB h2 with⟨_,z⟩ | ⟨z,_⟩
  ·cases z;exact .inl rfl
  ·exact absurd e z
 ·rcases fB h2 with⟨z,_⟩ | ⟨_,h2⟩
  ·exact absurd z hj
  ·exact .inr ⟨j,d',h1,h2⟩
theorem aD.write{H0 H:Hp}{σ:St}{ρ:Dm.Env}{i:Nat}{a:Addr}{d d':Dm.Dat}{o:HO}(st:aD H0 H σ ρ)(e:ρ[i]?=some (.ow d))(q:σ[i]?=some (some (V.ref a)))(w':Own H0 (upd H a o) a d') :
  aD H0 (upd H a o) σ (ρ.set i (.ow d')):=by
 obtain⟨a',q',n,w⟩:=st.ow i d e;rw[q]at q';cases q';refine⟨fun b u z=>?_,by rw[List.length_set];exact st.len,fun j d1 h=>?_,fun j d1 h=>?_,fun j k d1 d2 b h1 h2 h3 h4=>?_⟩
 ·rw[aA (aJ z n)];exact st.same _ _ z
 ·rcases aM h with⟨_,z⟩ | ⟨hj,h'⟩
  ·cases z
  ·exact st.sh j d1 h'
 ·rcases aM h with⟨rfl,z⟩ | ⟨hj,h'⟩
  ·cases z
   exact⟨a,q,n,w'⟩
  ·obtain⟨b,q1,n1,w1⟩:=st.ow j d1 h'
   have nb:b≠a:=fun y=>hj (st.dis j i d1 d a h' e (y▸q1) q)
   exact⟨b,q1,n1,w1.mono (au.refl _) (aA nb)⟩
 ·have f:∀{j:Nat} {d1:Dm.Dat},(ρ.set i (.ow d'))[j]?=some (.ow d1)->∃d2,ρ[j]?=some (.ow d2):=fun {j d1} h=>by
   rcases aM h with⟨rfl,_⟩ | ⟨_,h'⟩
   ·exact⟨d,e⟩
   ·exact⟨d1,h'⟩
  obtain⟨x1,y1⟩:=f h1;obtain⟨x2,y2⟩:=f h2;exact st.dis j k x1 x2 b y1 y2 h3 h4
theorem bE{σ:St}{ρ:Dm.Env}{i:Nat}{d d':Dm.Dat}{b:Addr}(e:ρ[i]?=some (.ow d))(h:ak σ (ρ.set i (.ow d')) b):ak σ ρ b:=by
 obtain⟨j,d1,h1,h2⟩:=h;rcases aM h1 with⟨rfl,_⟩ | ⟨_,h'⟩
 ·exact⟨j,d,e,h2⟩
 ·exact⟨j,d1,h',h2⟩
theorem Stp.write{σ:St}{ρ:Dm.Env}{H0 H:Hp}{a:Addr}{o:HO}(w:ak σ ρ a):Stp (ak σ ρ) H0 H H0 (upd H a o):=
 ⟨au.refl _,fun b u e n=>by rw [aA (show b≠a from fun z=>n (by rw [z];exact w))];exact e,fun b u e=>.inr (.inl e),fun b u e=>by
  by_cases z:b=a
  ·subst z;exact⟨o,av⟩
  ·exact⟨u,by rw[aA z];exact e⟩⟩
section
variable{D:Ends}{σ:St}{H:Hp}
theorem AX{i:Nat}{f:Dm.FE}(h:tDS (Dm.sA i f) D σ H):yL (tD f) (iR i) D σ H:=by
 obtain⟨H0,ρ,o,st,e,k⟩:=h;unfold Dm.sA at e;split at e
 ·cases e
 rename_i hi0;split at e
 ·cases e
 ·rename_i d ρ1 e1
  cases e;refine⟨H0,ρ,_,ρ1,st,e1,fun v H0' H' t r=>?_⟩;obtain⟨a,e,n,no,n0,w⟩:=r;subst e;refine k _ H0' H' ⟨t.st.AW no n0 w,t.stp,fun b z=>?_,List.getElem?_set_ne hi0⟩;rcases ql z with rfl | z
  ·exact .inr n
  ·exact .inl (t.own b z)
 ·rename_i x ρ1 _ e1
  split at e
  ·cases e
  ·rename_i d ρ2 e2
   cases e;refine⟨H0,ρ,_,ρ1,st,e1,fun v H0' H' t r=>?_⟩;obtain⟨H1,t1,b1,r1,_,_⟩:=take1 t (au.refl _) r e2;exact k _ H1 H' ⟨t1.st.vc r1,t1.stp,fun b z=>.inl (t1.own b (d7 z)),List.getElem?_set_ne hi0⟩
theorem w_{ρ:Dm.Env}{i:Nat}{d:Dm.Dat}{j:Nat}(h:Def ρ j):Def (ρ.set i (.sh d)) j:=trivial
noncomputable def fC:List Nat->TGs
 |[]=>LN
 |i::is=>GL (iR i) (fC is)
theorem xg{H0 H:Hp}{Q:St->Hp->Prop}:∀{is:List Nat} {xs:List V} {ds:List Dm.Dat} {σ:St} {ρ ρ':Dm.Env},aD H0 H σ ρ->aB H0 xs ds->Dm.sets is ds ρ=some ρ' ->
  (∀σ',aD H0 H σ' ρ'->(∀a,ak σ' ρ' a->ak σ ρ a)->(∀j,j∉is->σ'[j]?=σ[j]?)->(∀j,Def ρ j->Def ρ' j)->σ'[0]?=σ[0]?->Q σ' H)->fC is xs σ H Q
 |[],_,[],σ,ρ,ρ',st,r,e,k=>by cases r;cases e;exact⟨rfl,k σ st (fun _ z=>z) (fun _ _=>rfl) (fun _ z=>z) rfl⟩
 |i::is,_,d::ds,σ,ρ,ρ',st,r,e,k=>by
  cases r with
  |cons h r=>
   unfold Dm.sets at e;split at e
   ·cases e
   rename_i hi0;refine⟨_,_,rfl,?_⟩;refine xg (st.vc h) r e fun σ' st' o' n' d' f'=>k σ' st' (fun a z=>d7 (o' a z)) (fun j hj=>?_) (fun j z=>d' j (w_ z)) (f'.trans (List.getElem?_set_ne hi0))
   rw[n' j fun z=>hj (List.mem_cons_of_mem _ z)];exact List.getElem?_set_ne fun z=>hj (by rw[z];exact List.mem_cons_self)
 |[],_,_::_,_,_,_,_,_,e,_=>by cases e
 |_::_,_,[],_,_,_,_,_,e,_=>by cases e
theorem rT:∀{is:List Nat} {ds:List Dm.Dat} {ρ ρ':Dm.Env},Dm.sets is ds ρ=some ρ'->ds.length=is.length
 |[],[],_,_,_=>rfl
 |i::is,_::ds,_,_,e=>by
  unfold Dm.sets at e;split at e
  ·cases e
  ·simp[rT (is:=is) (ds:=ds) e]
 |[],_::_,_,_,e=>by cases e
 |_::_,[],_,_,e=>by cases e
noncomputable def BD(is:List Nat)(g:TG)(bd:Dm.FB):Prop:=∀(H0 H:Hp) (σ:St) (ρ ρ':Dm.Env) (x:V) (d:Dm.Dat) (Q:St->Hp->Prop),aD H0 H σ ρ->Rep H0 x d->bd d ρ=some ρ' ->
 (∀σ',aD H0 H σ' ρ'->(∀a,ak σ' ρ' a->ak σ ρ a)->(∀j,j∉is->σ'[j]?=σ[j]?)->(∀j,Def ρ j->Def ρ' j)->σ'[0]?=σ[0]?->Q σ' H)->g x σ H Q
theorem xh(i:Nat):BD [i] (iR i) (Dm.bN i):=by
 intro H0 H σ ρ ρ' x d Q st r e k;unfold Dm.bN at e;split at e
 ·cases e
 rename_i hi0;cases e;refine k _ (st.vc r) (fun a z=>d7 z) (fun j hj=>?_) (fun j h=>w_ h) (List.getElem?_set_ne hi0);exact List.getElem?_set_ne (fun z=>hj (by rw[z];exact List.mem_singleton.mpr rfl))
theorem AY{K:PySem.W.Frag}(is:List Nat){n:Nat}(hn:is.length=n):BD is (LO K n (fC is)) (Dm.bT is):=by
 intro H0 H σ ρ ρ' x d Q st r e k;unfold Dm.bT at e;split at e
 ·cases r with
  |tup q rs=>exact⟨_,_,rfl,SqT.of (st.same _ _ q),by rw[rs.length,rT e,hn],xg st rs e k⟩
 ·cases e
theorem Mj{K:PySem.W.Frag}{i:Nat}{f:Dm.FE}(h:tDS (Dm.kL i f) D σ H):oR (tBM K "list" qi (lg i) (tDA [f])) D σ H:=by
 obtain⟨H0,ρ,o,st,e,k⟩:=h;unfold Dm.kL at e;split at e
 ·rename_i ds0 h0
  obtain⟨a0,q0,n0,w0⟩:=st.ow i _ h0;refine⟨_,q0,?_⟩;split at e
  ·cases e
  rename_i x ρ1 e1;split at e
  ·cases e
  rename_i d ρ2 e2;split at e
  ·rename_i ds h2
   split at e
   ·rename_i hz
    cases e;obtain⟨xs0,y0,_⟩:=w0;refine⟨.inl ⟨rfl,xs0,.inl (.inl y0)⟩,?_⟩;refine⟨H0,ρ,[x],ρ1,st,by unfold Dm.eAs;rw[e1];rfl,fun vs H0' H' t r=>?_⟩;cases r with
    |cons r rr=>
     cases rr;obtain⟨H1,t1,b1,r1,_,_⟩:=take1 t (au.refl _) r e2;obtain⟨a,q,n,w⟩:=t1.st.ow i _ h2;rw[q0]at q;cases q;obtain⟨xs,y,rs⟩:=w;refine⟨a0,xs,_,rfl,rfl,y,by rw[rs.length];exact Nat.lt_of_lt_of_le hz (by decide),?_⟩;have ow:ak σ ρ2 a0:=⟨i,_,h2,q0⟩
     refine k σ H1 _ ⟨t1.st.write h2 q0 ⟨_,av,rs.append (.cons r1 .nil)⟩,t1.stp.trans (Stp.write ow) fun b z=>.inl (t1.own b z),fun b z=>.inl (t1.own b (bE h2 z)),rfl⟩
   ·cases e
  ·cases e
 ·cases e
theorem Jt(n:Nat)(i:Int):Dm.ixN n i=L2.ixN n i:=rfl
theorem Mk{i:Nat}{j f:Dm.FE}(h:tDS (Dm.u6 i j f) D σ H):yL (tD f) (iU (lg i) (tD j) GS) D σ H:=by
 obtain⟨H0,ρ,o,st,e,k⟩:=h;unfold Dm.u6 at e;split at e
 ·cases e
 rename_i x ρ1 e1;split at e
 ·cases e
 rename_i d ρ2 e2;split at e
 case h_2=>cases e
 rename_i d0 h2;split at e
 ·rename_i m ρ3 e3
  split at e
  ·rename_i ds h3
   split at e
   ·cases e
   ·rename_i p e4
    cases e;refine⟨H0,ρ,_,ρ1,st,e1,fun v H0' H' t r=>?_⟩;obtain⟨H1,t1,b1,r1,_,_⟩:=take1 t (au.refl _) r e2;obtain⟨a0,q0,_,_⟩:=t1.st.ow i _ h2;refine⟨_,q0,H1,ρ2,_,ρ3,t1.st,e3,fun u H2 Hc t2 r2=>?_⟩;obtain⟨a,q,n,w⟩:=t2.st.ow i _ h3;rw[q0]at q;cases q;obtain⟨xs,y,rs⟩:=w;refine⟨a0,xs,m,p,rfl,Rep.isInt r2,y,by rw[rs.length];exact e4,?_⟩;have ow:ak σ ρ3 a0:=⟨i,_,h3,q0⟩
    have tt:=t1.trans t2;refine k σ H2 _ ⟨t2.st.write h3 q0 ⟨_,av,rs.set (r1.mono t2.stp.s0) p⟩,tt.stp.trans (Stp.write ow) fun b z=>.inl (tt.own b z),fun b z=>.inl (tt.own b (bE h3 z)),rfl⟩
  ·cases e
 ·cases e
theorem EG{t:Dm.FT}{body:Dm.FS}{n:Nat}(h:tDS (Dm.whD t body n) D σ H):Ah (tDT t) (tDS body) D σ H:=by
 refine⟨fun m σ H=>tDS (Dm.whD t body m) D σ H,⟨n,h⟩,?_⟩;rintro m σ H ⟨H0,ρ,o,st,e,k⟩;cases m with
 |zero=>unfold Dm.whD at e;cases e
 |succ m=>
  unfold Dm.whD at e;split at e
  ·cases e
  ·rename_i ρ1 e1
   cases e;refine⟨H0,ρ,false,ρ1,st,e1,fun H1 Hb t1=>?_⟩;dsimp only;rw[if_neg Bool.false_ne_true];exact k σ H1 Hb t1.sst
  ·rename_i ρ1 e1
   refine⟨H0,ρ,true,ρ1,st,e1,fun H1 Hb t1=>?_⟩;dsimp only;rw[if_pos rfl];refine⟨fun σ' H'=>tDS (Dm.whD t body m) D σ' H',fun σ' H' q=>⟨m,Nat.lt_succ_self m,q⟩,?_⟩;have k1:=k.pre t1.sst;split at e
   ·rename_i ρ2 e2
    exact⟨H1,ρ1,_,t1.st,e2,fun σ' H0' H' t2=>⟨H0',ρ2,o,t2.st,e,k1.pre t2⟩⟩
   ·rename_i ρ2 e2
    exact⟨H1,ρ1,_,t1.st,e2,fun σ' H0' H' t2=>⟨H0',ρ2,o,t2.st,e,k1.pre t2⟩⟩
   ·rename_i ρ2 e2
    cases e;exact⟨H1,ρ1,_,t1.st,e2,k1⟩
   ·rename_i v ρ2 e2
    cases e;exact⟨H1,ρ1,_,t1.st,e2,k1⟩
   ·cases e
noncomputable def JW(J:It)(H00:Hp)(ys:List Dm.Dat):Prop:=∀H0 H,au H00 H0->au H0 H->(∀i,ys.length<=i->J.stop i H) /\
 ∀(i:Nat) (d:Dm.Dat),ys[i]?=some d->J.go i H/\∀x H',J.yld i H x H'->∃H0',aI H0 H H0' H'/\Rep H0' x d
noncomputable def tDI(fi:Dm.FI):TI:=fun σ H R=>∃H0 ρ ys ρ',aD H0 H σ ρ/\fi ρ=some (ys,ρ')/\∀J H0' H',ESt σ ρ H0 H ρ' H0' H'->JW J H0' ys->R J H'
theorem Ml{fi:Dm.FI}{bd:Dm.FB}{g:TG}{body:Dm.FS}{is:List Nat}(hb:BD is g bd)(h:tDS (Dm.cU fi bd body) D σ H):IM (tDI fi) g (tDS body) D σ H:=by
 obtain⟨H0,ρ,o,st,e,k⟩:=h;unfold Dm.cU at e;split at e
 ·cases e
 rename_i ys ρ1 e1;refine⟨H0,ρ,ys,ρ1,st,e1,fun J H00 Hb t1 jw=>?_⟩;refine ⟨fun i m σ H=>∃ H0 ρ o,aD H0 H σ ρ∧au H00 H0∧m=ys.length-i∧i≤ys.length∧Dm.jD bd body (ys.drop i) ρ=some o∧oZ D σ ρ H0 H o,
  ⟨ys.length,H00,ρ1,o,t1.st,au.refl _,by simp,Nat.zero_le _,by simpa using e,k.pre t1.sst⟩,?_⟩
 rintro i m σ H ⟨H0,ρ,o,st,s00,rfl,hi,e,k⟩;obtain⟨js,jg⟩:=jw H0 H s00 st.same;by_cases hlt:i<ys.length
 ·have hd:ys[i]?=some ys[i]:=by simp[hlt]
  obtain⟨g1,g2⟩:=jg i ys[i] hd;rw[List.drop_eq_getElem_cons hlt]at e;unfold Dm.jD at e;refine .inr ⟨g1,fun σ' H'=>∃H0 ρ o,aD H0 H' σ' ρ/\au H00 H0/\Dm.jD bd body (ys.drop (i+1)) ρ=some o/\oZ D σ' ρ H0 H' o,?_,fun x H' y=>?_⟩
  ·rintro σ' H' ⟨H0',ρ',o',h1,h2,h3,h4⟩
   exact⟨ys.length-(i+1),by omega,H0',ρ',o',h1,h2,rfl,hlt,h3,h4⟩
  ·obtain⟨H0',gr,rx⟩:=g2 x H' y
   split at e
   ·cases e
   ·rename_i ρ2 e2
    have t2:=ESt.grow st gr;refine hb H0' H' σ ρ ρ2 x ys[i] _ t2.st rx e2 fun σ2 st2 o2 _ _ f2=>?_
    have t3:SSt σ ρ H0 H σ2 ρ2 H0' H':=⟨st2,t2.stp,fun a z=>.inl (o2 a z),f2⟩
    have k3:=k.pre t3;have s3:au H00 H0':=s00.trans gr.s0;split at e
    ·rename_i ρ3 e3
     exact⟨H0',ρ2,_,st2,e3,fun σ4 H4 Hd t4=>⟨H4,ρ3,o,t4.st,s3.trans t4.stp.s0,e,k3.pre t4⟩⟩
    ·rename_i ρ3 e3
     exact⟨H0',ρ2,_,st2,e3,fun σ4 H4 Hd t4=>⟨H4,ρ3,o,t4.st,s3.trans t4.stp.s0,e,k3.pre t4⟩⟩
    ·rename_i ρ3 e3
     cases e;exact⟨H0',ρ2,_,st2,e3,k3⟩
    ·rename_i v ρ3 e3
     cases e;exact⟨H0',ρ2,_,st2,e3,k3⟩
    ·cases e
 ·have e':i=ys.length:=by omega
  subst e';rw[List.drop_length]at e;cases e;exact .inl ⟨js _ (Nat.le_refl _),k σ H0 H (.refl st)⟩
theorem EH{K:PySem.W.Frag}{H0:Hp}{a:Addr}{xs:List V}{ds:List Dm.Dat}(hq:Rd H0 a (.lst xs))(rs:aB H0 xs ds):JW (Itl K a) H0 ds:=by intro H0' H s0 s1;have q:SqL K H a xs:=.inl (au.rd s1 (au.rd s0 hq));refine⟨fun i hi=>⟨xs,q,by rw[rs.length];exact hi⟩,fun i d e=>?_⟩;obtain⟨v,hv,rv⟩:=rs.get e;refine⟨⟨xs,v,q,hv⟩,fun x H' y=>?_⟩;obtain⟨e1,y⟩:=y;subst e1;have z:=y xs q;rw[hv]at z;cases z;exact⟨H0',aI.refl s1,rv.mono s0⟩
theorem Ju{K:PySem.W.Frag}{H0:Hp}{a:Addr}{xs:List V}{ds:List Dm.Dat}(hq:H0 a=some (.tup xs))(rs:aB H0 xs ds):JW (Itt K a) H0 ds:=by intro H0' H s0 s1;have q:SqT K H a xs:=.inl (.inl (s1 _ _ (s0 _ _ hq)));refine⟨fun i hi=>⟨xs,q,by rw[rs.length];exact hi⟩,fun i d e=>?_⟩;obtain⟨v,hv,rv⟩:=rs.get e;refine⟨⟨xs,v,q,hv⟩,fun x H' y=>?_⟩;obtain⟨e1,y⟩:=y;subst e1;have z:=y xs q;rw[hv]at z;cases z;exact⟨H0',aI.refl s1,rv.mono s0⟩
theorem rV{H0:Hp}{lo:Int}{n:Nat}:JW (Itr lo n) H0 (Dm.ups lo n):=by
 intro H0' H s0 s1;have el:(Dm.ups lo n).length=n:=by simp[Dm.ups]
 refine⟨fun i hi=>by rw[el]at hi;exact hi,fun i d e=>?_⟩;have hi:i<n:=by have:=(List.getElem?_eq_some_iff.mp e).1;rw[el]at this;exact this
 have hd:d=.int (lo+i):=by unfold Dm.ups at e;rw[List.getElem?_map,List.getElem?_range hi]at e;exact(Option.some.inj e).symm
 refine⟨hi,fun x H' y=>?_⟩;obtain⟨rfl,rfl⟩:=y;subst hd;exact⟨H0',aI.refl s1,.int _⟩
variable{R:It->Hp->Prop}
theorem OO{K:PySem.W.Frag}{f:Dm.FE}(h:tDI (Dm.iL f) σ H R):rE K (tD f) σ H R:=by
 obtain⟨H0,ρ,ys,ρ',st,e,k⟩:=h;unfold Dm.iL at e;split at e
 ·cases e
 rename_i x ρ1 e1;split at e
 ·rename_i ds ρ2 e2
  cases e;refine⟨H0,ρ,_,ρ1,st,e1,fun v H0' H' t r=>?_⟩;obtain⟨H1,t1,b1,r1,_,_⟩:=take1 t (au.refl _) r e2;cases r1 with
  |lst q rs=>exact⟨_,rfl,⟨_,.inl (au.rd t1.st.same q)⟩,k _ H1 H' t1 (EH q rs)⟩
 ·cases e
theorem OP{K:PySem.W.Frag}{f:Dm.FE}(h:tDI (Dm.iT f) σ H R):Aj K (tD f) σ H R:=by
 obtain⟨H0,ρ,ys,ρ',st,e,k⟩:=h;unfold Dm.iT at e;split at e
 ·cases e
 rename_i x ρ1 e1;split at e
 ·rename_i ds ρ2 e2
  cases e;refine⟨H0,ρ,_,ρ1,st,e1,fun v H0' H' t r=>?_⟩;obtain⟨H1,t1,b1,r1,_,_⟩:=take1 t (au.refl _) r e2;cases r1 with
  |tup q rs=>exact⟨_,rfl,⟨_,.inl (.inl (t1.st.same _ _ q))⟩,k _ H1 H' t1 (Ju q rs)⟩
 ·cases e
theorem Mm{f:Dm.FE}(h:tDI (Dm.iR1 f) σ H R):GN (tDA [f]) σ H R:=by
 obtain⟨H0,ρ,ys,ρ',st,e,k⟩:=h;unfold Dm.iR1 at e;split at e
 ·rename_i j ρ1 e1
  split at e
  ·rename_i hb
   cases e;refine⟨H0,ρ,[.val (.int j)],_,st,by unfold Dm.eAs;rw[e1];rfl,fun vs H0' H' t r=>?_⟩;cases r with
   |cons r rr=>cases rr;cases Rep.isInt r;have h1:=hb.1;have h2:=hb.2;unfold Dm.BIG at h1 h2;exact⟨j,rfl,by omega,by omega,k _ H0' H' t rV⟩
  ·cases e
 ·cases e
theorem Mn{f g:Dm.FE}(h:tDI (Dm.iR2 f g) σ H R):GO (tDA [f,g]) σ H R:=by
 obtain⟨H0,ρ,ys,ρ',st,e,k⟩:=h;unfold Dm.iR2 at e;split at e
 ·rename_i i ρ1 e1
  split at e
  ·rename_i j ρ2 e2
   split at e
   ·rename_i hb
    cases e;refine⟨H0,ρ,[.val (.int i),.val (.int j)],_,st,by unfold Dm.eAs;rw[e1];dsimp only;unfold Dm.eAs;rw[e2];rfl,fun vs H0' H' t r=>?_⟩;cases r with
    |cons r rr=>
     cases rr with
     |cons r' rr=>cases rr;cases Rep.isInt r;cases Rep.isInt r';obtain⟨h1,h2,h3,h4⟩:=hb;unfold Dm.BIG at h1 h2 h3 h4;exact⟨i,j,rfl,⟨by omega,by omega,by omega,by omega⟩,k _ H0' H' t rV⟩
   ·cases e
  ·cases e
 ·cases e
noncomputable def tLC(wi:TI)(own:Nat)(g:TG)(tt:TT)(te:TE):TE:=fun σ H Q=>wi σ H fun J H1=>∀D,H1 D=none->∃W:Nat->Nat->St->Hp->Prop,
 (∃m,W 0 m (σ++List.replicate own none) (upd H1 D (.lst [])))/\∀i m σ' H',W i m σ' H' ->
  (J.stop i H'∧Q (.ref D) H')∨(J.go i H'∧∀ x H2,J.yld i H' x H2→g x σ' H2 fun σ2 H3=>tt σ2 H3 fun b H4=>if b=true
   then te σ2 H4 fun y H5=>∃acc,H5 D=some (.lst acc)/\acc.length<sizeLine/\∃m',m'<m/\W (i+1) m' σ2 (upd H5 D (.lst (acc++[y])))
   else ∃m',m'<m/\W (i+1) m' σ2 H4)
theorem aD.aside{H0 H:Hp}{σ:St}{ρ:Dm.Env}{a:Addr}{o:HO}(st:aD H0 H σ ρ)(n0:H0 a=none)(no:¬ak σ ρ a):aD H0 (upd H a o) σ ρ where
 same:=fun b u z=>by rw[aA (aJ z n0)];exact st.same _ _ z
 len:=st.len
 sh:=st.sh
 ow:=fun j d h=>by
  obtain⟨b,q,n,w⟩:=st.ow j d h;have nb:b≠a:=fun y=>no ⟨j,d,h,y▸q⟩
  exact⟨b,q,n,w.mono (au.refl _) (aA nb)⟩
 dis:=st.dis
theorem aD.bJ{H0 H:Hp}{σ:St}{ρ:Dm.Env}{a:Addr}(st:aD H0 H σ ρ)(h:H a=none):¬ak σ ρ a:=fun⟨i,d,h1,h2⟩=>by obtain⟨b,q,n,w⟩:=st.ow i d h1;rw[h2]at q;cases q;obtain⟨o,z⟩:=w.some;rw[h]at z;cases z
theorem i8{α:Type}{l:List α}{r:List α}{i:Nat}{x:α}(h:(l++r)[i]?=some x)(n:x∉r):i<l.length/\l[i]?=some x:=by
 by_cases hi:i<l.length
 ·rw[List.getElem?_append_left hi]at h
  exact⟨hi,h⟩
 ·rw[List.getElem?_append_right (Nat.not_lt.mp hi)]at h
  exact absurd (List.mem_of_getElem? h) n
theorem AZ{d:Dm.Dat}{k:Nat}:Dm.Cell.sh d∉List.replicate k Dm.Cell.un:=fun h=>by have:=List.eq_of_mem_replicate h;cases this
theorem i9{d:Dm.Dat}{k:Nat}:Dm.Cell.ow d∉List.replicate k Dm.Cell.un:=fun h=>by have:=List.eq_of_mem_replicate h;cases this
theorem aD.ext{H0 H:Hp}{σ:St}{ρ:Dm.Env}(st:aD H0 H σ ρ)(k:Nat):aD H0 H (σ++List.replicate k none) (ρ++List.replicate k .un) where
 same:=st.same
 len:=by simp[st.len]
 sh:=fun i d h=>by obtain⟨hi,h⟩:=i8 h AZ;obtain⟨v,q,r⟩:=st.sh i d h;exact⟨v,by rw[List.getElem?_append_left (by rw[st.len];exact hi)];exact q,r⟩
 ow:=fun i d h=>by obtain⟨hi,h⟩:=i8 h i9;obtain⟨v,q,r⟩:=st.ow i d h;exact⟨v,by rw[List.getElem?_append_left (by rw[st.len];exact hi)];exact q,r⟩
 dis:=fun i j d e a h1 h2 h3 h4=>by obtain⟨hi,h1⟩:=i8 h1 i9;obtain⟨hj,h2⟩:=i8 h2 i9;rw[List.getElem?_append_left (by rw[st.len];exact hi)]at h3;rw[List.getElem?_append_left (by rw[st.len];exact hj)]at h4;exact st.dis i j d e a h1 h2 h3 h4
theorem jH{H0 H:Hp}{σ:St}{ρ:Dm.Env}(st:aD H0 H σ ρ){k:Nat}{a:Addr}(h:ak (σ++List.replicate k none) (ρ++List.replicate k .un) a):ak σ ρ a:=by obtain⟨i,d,h1,h2⟩:=h;obtain⟨hi,h1⟩:=i8 h1 i9;rw[List.getElem?_append_left (by rw[st.len];exact hi)]at h2;exact⟨i,d,h1,h2⟩
theorem Stp.aside{O:Addr->Prop}{H0 H H0' H':Hp}{D:Addr}{o:HO}(t:Stp O H0 H H0' H')(hD:H D=none):Stp O H0 H H0' (upd H' D o):=
 ⟨t.s0,fun a u e n=>by rw[aA (aJ e hD)];exact t.s1 a u e n,t.s2,fun a u e=>by rw[aA (aJ e hD)];exact t.s3 a u e⟩
theorem ESt.dw{σ:St}{ρ ρ':Dm.Env}{H0 H H0' H':Hp}(t:ESt σ ρ H0 H ρ' H0' H'){D:Addr}{o:HO}(h:H D=some o)(n0:H0 D=none)(no:¬ak σ ρ D):H' D=some o/\H0' D=none/\¬ak σ ρ' D:=by
 refine⟨t.stp.s1 D o h no,?_,fun z=>no (t.own D z)⟩;cases q:H0' D with
 |none=>rfl
 |some u=>
  rcases t.stp.s2 D u q with z | z | z
  ·rw[h]at z;cases z
  ·rw[n0]at z;cases z
  ·exact absurd z no
noncomputable def JWa(J:It)(H00:Hp)(pa:Option (Addr×HO))(ys:List Dm.Dat):Prop:=∀H0 H,au H00 H0->au H0 H->(∀q,pa=some q->H q.1=some q.2)->(∀i,ys.length<=i->J.stop i H) /\
 ∀(i:Nat) (d:Dm.Dat),ys[i]?=some d->J.go i H/\∀x H',J.yld i H x H'->∃H0',aI H0 H H0' H'/\Rep H0' x d
theorem rW{σ:St}{own:Nat}{bd:Dm.FB}{g:TG}{t:Dm.FT}{el:Dm.FE}{is:List Nat}{Q:VK}{H00 Hb:Hp}{ρ1 ρ2:Dm.Env}{ds ys:List Dm.Dat}{J:It}{pa:Option (Addr×HO)}(hb:BD is g bd)(hl:∀i∈is,σ.length<=i)
  (st1:aD H00 Hb σ ρ1) (hp:∀q,pa=some q->Hb q.1=some q.2/\H00 q.1=none/\¬ak σ ρ1 q.1) (jw:JWa J H00 pa ds) (hsz:ds.length<=Dm.SZ) (e2:Dm.dm bd t el ds (ρ1++List.replicate own .un) []=some (ys,ρ2))
  (k:∀v H0' H',ESt σ ρ1 H00 Hb (ρ2.take ρ1.length) H0' H'->fy Hb H0' H' σ (ρ2.take ρ1.length) v (.new (.lst ys))->(∀q,pa=some q->H' q.1=some q.2/\H0' q.1=none)->Q v H') (D:Addr) (hD:Hb D=none) :
  ∃W:Nat->Nat->St->Hp->Prop,(∃m,W 0 m (σ++List.replicate own none) (upd Hb D (.lst [])))/\∀i m σ' H',W i m σ' H' ->
  (J.stop i H'∧Q (.ref D) H')∨(J.go i H'∧∀ x H2,J.yld i H' x H2→g x σ' H2 fun σ2 H3=>tDT t σ2 H3 fun b H4=>if b=true
   then tD el σ2 H4 fun y H5=>∃acc,H5 D=some (.lst acc)/\acc.length<sizeLine/\∃m',m'<m/\W (i+1) m' σ2 (upd H5 D (.lst (acc++[y])))
   else ∃m',m'<m/\W (i+1) m' σ2 H4):=by
 have hpD:∀q,pa=some q->q.1≠D:=fun q e z=>by have:=(hp q e).1;rw[z,hD]at this;cases this
 have noD:¬ak σ ρ1 D:=st1.bJ hD;refine ⟨fun i m σ' H'=>∃ (H0c:Hp) (ρc:Dm.Env) (ze:List Dm.Dat) (vd:List V),aD H0c H' σ' ρc∧au H00 H0c∧m=ds.length-i∧i≤ds.length∧Dm.dm bd t el (ds.drop i) ρc ze=some (ys,ρ2) ∧
  H' D=some (.lst vd)/\aB H0c vd ze/\H0c D=none/\ze.length<=i/\Stp (ak σ ρ1) H00 Hb H0c H'/\(∀j,j<σ.length->σ'[j]?=σ[j]?)/\(∀a,ak σ' ρc a->ak σ ρ1 a)/\(∀j,Def ρ1 j->Def ρc j)/\(∀q,pa=some q->H' q.1=some q.2/\H0c q.1=none/\¬ak σ' ρc q.1),
  ⟨ds.length,H00,ρ1++List.replicate own .un,[],[],(st1.aside (st1.same.free hD) noD).ext own,au.refl _,by simp,Nat.zero_le _,by simpa using e2,av,.nil,st1.same.free hD,Nat.zero_le _,(Stp.refl _ _ _).aside hD,
   fun j hj=>List.getElem?_append_left hj,fun a z=>jH st1 z,fun j z=>trivial,fun q e=>⟨by rw[aA (hpD q e)];exact(hp q e).1,(hp q e).2.1,fun z=>(hp q e).2.2 (jH st1 z)⟩⟩,?_⟩
 rintro i m σ' H' ⟨H0c,ρc,ze,vd,sc,s00,rfl,hi,ec,hDl,ra,n0,hal,sp,hσ,ho,hdf,hpc⟩;have nOc:¬ak σ' ρc D:=fun z=>noD (ho D z)
 obtain⟨js,jg⟩:=jw H0c H' s00 sc.same fun q e=>(hpc q e).1
 by_cases hlt:i<ds.length
 ·have hd:ds[i]?=some ds[i]:=by simp[hlt]
  obtain⟨g1,g2⟩:=jg i ds[i] hd;rw[List.drop_eq_getElem_cons hlt]at ec;unfold Dm.dm at ec;refine .inr ⟨g1,fun y H2 yy=>?_⟩;obtain⟨H0',gr,rx⟩:=g2 y H2 yy;split at ec
  ·cases ec
  rename_i ρ3 e3;have t2:=ESt.grow sc gr;obtain⟨hD2,n02,no2⟩:=t2.dw hDl n0 nOc;have hp2:=fun q e=>t2.dw (hpc q e).1 (hpc q e).2.1 (hpc q e).2.2
  refine hb H0' H2 σ' ρc ρ3 y ds[i] _ t2.st rx e3 fun σ3 st3 o3 k3 d3 _=>?_
  have no3:¬ak σ3 ρ3 D:=fun z=>no2 (o3 D z)
  have po3:∀q,pa=some q->¬ak σ3 ρ3 q.1:=fun q e z=>(hp2 q e).2.2 (o3 q.1 z)
  have hσ3:∀j,j<σ.length->σ3[j]?=σ[j]?:=fun j hj=>(k3 j fun z=>Nat.not_lt.mpr (hl j z) hj).trans (hσ j hj)
  have ho3:∀a,ak σ3 ρ3 a->ak σ ρ1 a:=fun a z=>ho a (o3 a z)
  have Mp:∀j,Def ρ1 j->Def ρ3 j:=fun j z=>d3 j (hdf j z)
  have sp3:Stp (ak σ ρ1) H00 Hb H0' H2:=sp.trans t2.stp fun a z=>.inl (ho a z)
  have ra3:=ra.mono gr.s0;have s3:au H00 H0':=s00.trans gr.s0;split at ec
  ·cases ec
  ·rename_i ρ4 e4
   refine⟨H0',ρ3,false,ρ4,st3,e4,fun Jv H'' t4=>?_⟩;dsimp only;rw[if_neg Bool.false_ne_true];obtain⟨hD4,n04,no4⟩:=t4.dw hD2 n02 no3;have hp4:=fun q e=>t4.dw (hp2 q e).1 (hp2 q e).2.1 (po3 q e)
   exact⟨ds.length-(i+1),by omega,Jv,ρ4,ze,vd,t4.st,s3.trans t4.stp.s0,rfl,hlt,ec,hD4,ra3.mono t4.stp.s0,n04,Nat.le_succ_of_le hal,sp3.trans t4.stp fun a z=>.inl (ho3 a z),hσ3,fun a z=>ho3 a (t4.own a z),fun j z=>t4.dfn j (Mp j z),hp4⟩
  ·rename_i ρ4 e4
   refine⟨H0',ρ3,true,ρ4,st3,e4,fun Jv H'' t4=>?_⟩;dsimp only;rw[if_pos rfl];obtain⟨hD4,n04,no4⟩:=t4.dw hD2 n02 no3;have hp4:=fun q e=>t4.dw (hp2 q e).1 (hp2 q e).2.1 (po3 q e)
   split at ec
   ·cases ec
   rename_i x5 ρ5 e5;split at ec
   ·cases ec
   rename_i y6 ρ6 e6;refine⟨Jv,ρ4,x5,ρ5,t4.st,e5,fun v H5 Hc t5 r5=>?_⟩;obtain⟨H6,t6,b6,r6,_,_⟩:=take1 t5 (au.refl _) r5 e6;obtain⟨hD6,n06,no6⟩:=t6.dw hD4 n04 no4;have hp6:=fun q e=>t6.dw (hp4 q e).1 (hp4 q e).2.1 (hp4 q e).2.2
   refine⟨vd,hD6,?_,ds.length-(i+1),by omega,H6,ρ6,ze++[y6],vd++[v],t6.st.aside n06 no6,(s3.trans t4.stp.s0).trans t6.stp.s0,rfl,hlt,ec,av,?_,n06,?_,?_,hσ3,fun a z=>ho3 a (t4.own a (t6.own a z)),fun j z=>t6.dfn j (t4.dfn j (Mp j z)),fun q e=>⟨by rw[aA (hpD q e)];exact(hp6 q e).1,(hp6 q e).2.1,(hp6 q e).2.2⟩⟩
   ·rw[ra.length]
    unfold Dm.SZ at hsz;exact Nat.lt_of_le_of_lt (Nat.le_trans hal (Nat.le_trans (Nat.le_of_lt hlt) hsz)) (by decide)
   ·exact((ra3.mono t4.stp.s0).mono t6.stp.s0).append (.cons r6 .nil)
   ·rw[List.length_append,List.length_singleton];omega
   ·exact((sp3.trans t4.stp fun a z=>.inl (ho3 a z)).trans t6.stp fun a z=>.inl (ho3 a (t4.own a z))).aside hD
 ·have e':i=ds.length:=by omega
  subst e';rw[List.drop_length]at ec;cases ec;refine .inl ⟨js _ (Nat.le_refl _),k _ H0c H' ?_ ?_ fun q e=>⟨(hpc q e).1,(hpc q e).2.1⟩⟩
  ·have hlen:σ.length<=ρ2.length:=by
    rw[<- sc.len];refine Nat.not_lt.mp fun z=>?_
    have q:=hσ σ'.length z;rw[List.getElem?_eq_none (Nat.le_refl _),List.getElem?_eq_getElem z]at q;cases q
   have tk:∀{j:Nat} {c:Dm.Cell},(ρ2.take ρ1.length)[j]?=some c->j<σ.length/\ρ2[j]?=some c:=fun {j c} h=>by
    have hj:j<ρ1.length:=by have:=(List.getElem?_eq_some_iff.mp h).1;rw[List.length_take]at this;omega
    rw[List.getElem?_take_of_lt hj]at h;exact⟨by rw[st1.len];exact hj,h⟩
   have own':∀a,ak σ (ρ2.take ρ1.length) a->ak σ' ρ2 a:=fun a ⟨j,d,h1,h2⟩=>by obtain⟨hj,h1⟩:=tk h1;exact⟨j,d,h1,(hσ j hj).trans h2⟩
   refine⟨⟨sc.same,?_,fun j d h=>?_,fun j d h=>?_,fun j j' d d' a h1 h2 h3 h4=>?_⟩,sp,fun a z=>ho a (own' a z),fun j z=>?_⟩
   ·rw[List.length_take,<- st1.len];omega
   ·obtain⟨hj,h⟩:=tk h
    obtain⟨v,q,r⟩:=sc.sh j d h;exact⟨v,(hσ j hj).symm.trans q,r⟩
   ·obtain⟨hj,h⟩:=tk h
    obtain⟨v,q,r⟩:=sc.ow j d h;exact⟨v,(hσ j hj).symm.trans q,r⟩
   ·obtain⟨hj,h1⟩:=tk h1
    obtain⟨hj',h2⟩:=tk h2;exact sc.dis j j' d d' a h1 h2 ((hσ j hj).trans h3) ((hσ j' hj').trans h4)
   ·trivial
  ·refine⟨D,rfl,hD,fun⟨j,d,h1,h2⟩=>?_,n0,vd,hDl,ra⟩
   have hj:j<ρ1.length:=by have:=(List.getElem?_eq_some_iff.mp h1).1;rw[List.length_take]at this;omega
   rw[List.getElem?_take_of_lt hj]at h1;exact nOc ⟨j,d,h1,(hσ j (by rw[st1.len];exact hj)).trans h2⟩
theorem ve{fi:Dm.FI}{own:Nat}{bd:Dm.FB}{g:TG}{t:Dm.FT}{el:Dm.FE}{is:List Nat}{Q:VK}(hb:BD is g bd)(hl:∀i∈is,σ.length<=i)(h:tD (Dm.bV fi own bd t el) σ H Q) :
  tLC (tDI fi) own g (tDT t) (tD el) σ H Q:=by
 obtain⟨H0,ρ,x,ρ',st,e,k⟩:=h;unfold Dm.bV at e;split at e
 ·cases e
 rename_i ds ρ1 e1;split at e
 case isFalse=>cases e
 rename_i hsz;split at e
 ·cases e
 rename_i ys ρ2 e2;cases e;refine⟨H0,ρ,ds,ρ1,st,e1,fun J H00 Hb t1 jw D hD=>rW (pa:=none) hb hl t1.st (fun q e=>by cases e) (fun H0 H s0 s1 _=>jw H0 H s0 s1) hsz e2 (fun v H0' H' t2 r2 _=>k v H0' H' (t1.trans t2) (r2.early fun a n=>t1.stp.gone n)) D hD⟩
theorem aH{n m:Nat}{body:Dm.FS}{vs:List V}{H:Hp}{Q:VK}{E:XK}(h:spD (Dm.fn n m body) vs H Q E):vs.length=n:=by
 obtain⟨H0,ds,z,s,rs,e,k⟩:=h;unfold Dm.fn at e;split at e
 ·rename_i hl
  rw[rs.length];exact hl
 ·cases e
theorem bz{N:List Str}{n m:Nat}{body:Dm.FS}{vs:List V}{Q:VK}{E:XK}(hm:N.length=n+m)(h:spD (Dm.fn n m body) vs H Q E) :
  tDS body { nx:=fun _ H'=>Q .non H',rt:=Q } (start N vs) H:=by
 have hvn:=aH h;obtain⟨H0,ds,z,s,rs,e,k⟩:=h;have hl:=rs.length;have no:∀a,¬ak (start N vs) (ds.map Dm.Cell.sh++List.replicate m .un) a:=fun a ⟨i,d,h1,_⟩=>by
  by_cases hi:i<ds.length
  ·rw[List.getElem?_append_left (by simpa using hi),List.getElem?_map]at h1
   cases q:ds[i]? with
   |none=>rw[q]at h1;cases h1
   |some y=>rw[q]at h1;cases h1
  ·rw[List.getElem?_append_right (by simpa using hi),List.getElem?_replicate]at h1
   split at h1<;>cases h1
 have st:aD H0 H (start N vs) (ds.map Dm.Cell.sh++List.replicate m .un):=by
  refine⟨s,?_,fun i d h=>?_,fun i d h=>?_,fun i j d e a h1 h2 _ _=>?_⟩
  ·unfold L2.start
   simp only[List.length_append,List.length_map,List.length_replicate];omega
  ·have hi:i<ds.length:=by
    by_cases hi:i<ds.length
    ·exact hi
    ·rw[List.getElem?_append_right (by simpa using hi),List.getElem?_replicate]at h
     split at h<;>cases h
   rw[List.getElem?_append_left (by simpa using hi),List.getElem?_map]at h;cases q:ds[i]? with
   |none=>rw[q]at h;cases h
   |some y=>rw[q]at h;cases h;obtain⟨v,hv,r⟩:=rs.get q;refine⟨v,?_,r⟩;unfold L2.start;rw[List.getElem?_append_left (by simpa [hl] using hi),List.getElem?_map,hv];rfl
  ·by_cases hi:i<ds.length
   ·rw[List.getElem?_append_left (by simpa using hi),List.getElem?_map]at h
    cases q:ds[i]? with
    |none=>rw[q]at h;cases h
    |some y=>rw[q]at h;cases h
   ·rw[List.getElem?_append_right (by simpa using hi),List.getElem?_replicate]at h
    split at h<;>cases h
  ·by_cases hi:i<ds.length
   ·rw[List.getElem?_append_left (by simpa using hi),List.getElem?_map]at h1
    cases q:ds[i]? with
    |none=>rw[q]at h1;cases h1
    |some y=>rw[q]at h1;cases h1
   ·rw[List.getElem?_append_right (by simpa using hi),List.getElem?_replicate]at h1
    split at h1<;>cases h1
 have gr:∀{H0' H'},Stp (ak (start N vs) (ds.map Dm.Cell.sh++List.replicate m .un)) H0 H H0' H'->au H0' H'->aI H0 H H0' H':=fun {H0' H'} t ss=>⟨t.s0,fun a o e=>t.s1 a o e (no a),fun a o e=>(t.s2 a o e).imp id fun q=>q.elim id fun z=>absurd z (no a),ss⟩
 unfold Dm.fn at e;rw[if_pos (by rw[<- hl];exact hvn)]at e;split at e
 ·rename_i r ρ' e1
  cases e;refine⟨H0,_,_,st,e1,fun σ' v H0' H' t r _=>k v H0' H' (gr t.stp t.st.same) ?_⟩;cases z with
  |val d=>exact r
  |new d=>obtain⟨a,e,n,n0,w⟩:=r;exact⟨a,e,n.elim id fun z=>absurd z (no a),n0,w⟩
 ·rename_i ρ' e1
  cases e;exact⟨H0,_,_,st,e1,fun σ' H0' H' t=>k _ H0' H' (gr t.stp t.st.same) .non⟩
 ·cases e
end
open PySem PySem.Spec PyProof.Rows L2
noncomputable def aT(X:Cx)(nm:List Str)(scope:Scope)(own:List Str)(cl:List (Str×Addr))(C:Addr)(s:Shared)(H:Hp)(fp:List Addr):Cx where
 prog:=X.prog
 w:=X.w
 K:=X.K
 mg:=X.mg
 base:=X.base
 A:=X.A
 N:=nm++own
 s₀:=s
 H₀:=H
 env:=compEnvC scope cl C X.env
 outer:=X.stack
 stack:=X.stack
 ex:=fp
 fn:=fun _=>false
 calm:=X.calm
 pn:=[]
 xe:=fun _ _=>False
noncomputable def PTs(X:Cx)(ifs:List Expr)(t:TT):Prop:=
 ∀(pins:List (Addr×Obj)) (s:Shared) (σ:L2.St) (H:Hp) (Q:Bool->Hp->Prop),Inv X pins σ H s->t σ H Q ->
  wpAny (model X.prog X.w) X.A (forIn ifs true fun c r=>if r=true then do let ok <- isTrue c X.env (eval c X.env);pure (ForInStep.yield ok) else pure (ForInStep.yield r)) (TP X pins σ Q) X.xe s
noncomputable def EI:TT:=fun _ H Q=>Q true H
theorem xj{X:Cx}:PTs X [] EI:=fun pins s σ H Q I h=>wpAny_tests_nil ⟨H,I,h⟩
theorem EJ{X:Cx}{c:Expr}{t:TT}(h:PT X c t):PTs X [c] t:=fun pins s σ H Q I hq=>wpAny_tests_one (h pins s σ H Q I hq)
theorem dP(env:Env):∀(names:List (Str×NameKind)) (cs:List (Str×Addr)),(∀y∈names,y.2=.free->∃c,env.cells.lookup y.1=some c) ->
  ∃cl,(forIn names cs fun(x:Str×NameKind) (r:List (Str×Addr))=>(if (x.2 == NameKind.free)=true then do let c <- cellOf env x.1;pure (ForInStep.yield ((x.1,c)::r)) else pure (ForInStep.yield r):Sem (ForInStep (List (Str×Addr)))))=pure cl /\
   (∀x c,cl.lookup x=some c->env.cells.lookup x=some c\/cs.lookup x=some c)/\(∀y∈names,y.2=.free->∃c,cl.lookup y.1=some c)/\(∀x c,cs.lookup x=some c->∃c',cl.lookup x=some c')
 |[],cs,_=>⟨cs,rfl,fun _ _ h=>.inr h,fun _ h=>(nomatch h),fun _ c h=>⟨c,h⟩⟩
 |(n,k)::r,cs,h=>by
  have hr:∀y∈r,y.2=.free->∃c,env.cells.lookup y.1=some c:=fun y hy=>h y (List.mem_cons_of_mem _ hy)
  by_cases hk:k=.free
  ·subst hk
   obtain⟨c,hc⟩:=h (n,.free) List.mem_cons_self rfl;obtain⟨cl,e,h1,h2,h3⟩:=dP env r ((n,c)::cs) hr;refine⟨cl,?_,fun x c' q=>?_,fun y hy hf=>?_,fun x c' q=>?_⟩
   ·rw[List.forIn_cons]
    have e1:cellOf env n=pure c:=by unfold cellOf;rw[hc]
    simp only[beq_self_eq_true,if_true,e1,pure_bind];exact e
   ·rcases h1 x c' q with z | z
    ·exact .inl z
    ·rw[List.lookup_cons]at z
     cases hx:x == n with
     |true=>
      rw[hx]at z;have:x=n:=by simpa using hx
      subst this;injection z with z
      subst z;exact .inl hc
     |false=>rw[hx]at z;exact .inr z
   ·rcases List.mem_cons.mp hy with rfl | hy
    ·exact h3 n c (by rw[List.lookup_cons,beq_self_eq_true])
    ·exact h2 y hy hf
   ·by_cases hx:x=n
    ·subst hx
     exact h3 x c (by rw[List.lookup_cons,beq_self_eq_true])
    ·have hx':(x == n)=false:=by simpa using hx
     exact h3 x c' (by rw[List.lookup_cons,hx'];exact q)
  ·have hb:(k == NameKind.free)=false:=by simpa using hk
   obtain⟨cl,e,h1,h2,h3⟩:=dP env r cs hr;refine⟨cl,?_,h1,fun y hy hf=>?_,h3⟩
   ·rw[List.forIn_cons]
    simp only[hb,Bool.false_eq_true,if_false,pure_bind];exact e
   ·rcases List.mem_cons.mp hy with rfl | hy
    ·exact absurd hf hk
    ·exact h2 y hy hf
theorem lG{env:Env}{scope:Scope}(h:∀y∈scope.names,y.2=.free->∃c,env.cells.lookup y.1=some c) :
  ∃cl,closureFor scope env=pure cl/\(∀x c,cl.lookup x=some c->env.cells.lookup x=some c)/\∀y∈scope.names,y.2=.free->∃c,cl.lookup y.1=some c:=by
 obtain⟨cl,e,h1,h2,_⟩:=dP env scope.names [] h;refine⟨cl,?_,fun x c q=>(h1 x c q).elim id fun z=>by simp at z,h2⟩;unfold closureFor;have e':(forIn scope.names ([]:List (Str×Addr)) fun(x:Str×NameKind) (r:List (Str×Addr))=>(if (x.2 == NameKind.free)=true then do let c <- cellOf env x.1;pure (ForInStep.yield ((x.1,c)::r)) else pure (ForInStep.yield r):Sem (ForInStep (List (Str×Addr)))))=pure cl:=e
 first
  |(rw[show (forIn scope.names ([]:List (Str×Addr)) _:Sem (List (Str×Addr)))=pure cl from e'];rfl)
  |(simp only[e'];rfl)
theorem qo{prog:Program}{w:World}{A:Around}{R:Result->Shared->Prop}{s:Shared}{elt target iter:Expr}{ifs:List Expr}{scope:Scope}{pos:Pos}{it acc:Value}{env:Env}(I:Nat->Shared->Prop)
  (turn:∀ n s,I n s→wpAny (model prog w) A (pyNext it) (fun r s₁=>match r with
   |none=>R (.ok .next) s₁
   | some v=>wpAny (model prog w) A (letOwnedTupleGo target it v) (fun _ s₁'=>wpAny (model prog w) A (assign target env v) (fun _ s₂=>
     wpAny (model prog w) A (forIn ifs true fun c r=>if r=true then do let ok ← isTrue c env (eval c env);pure (ForInStep.yield ok) else pure (ForInStep.yield r)) (fun ok s₃=>
      if ok=true then wpAny (model prog w) A (eval elt env) (fun x s₄=>wpAny (model prog w) A (call (.builtin "list.append") [acc,x]) (fun _ s₅=>∃m,m<n/\I m s₅) (fun _ _=>False) s₄) (fun _ _=>False) s₃
      else ∃m,m<n/\I m s₃) (fun _ _=>False) s₂) (fun _ _=>False) s₁') (fun _ _=>False) s₁) (fun _ _=>False) s)
  (n:Nat) (h:I n s) :
  codeAny (model prog w) A (.compLoop (.ListComp elt [⟨target,iter,ifs,0⟩] scope pos) 0 it acc env) R s:=by
 have no:∀{P:Value->Shared->Prop} (x:Value) (s':Shared),False->P x s':=fun _ _ f=>f.elim
 refine codeAny_loop rfl I (fun n s hI=>?_) n h;show wpAny _ A ((compTurn (.ListComp elt [⟨target,iter,ifs,0⟩] scope pos) 0 it acc env).onRaise (fun x=>do noteFrame x env;theTreesLotGoes x)) _ _ s;refine wpAny_noted ?_;rw[compTurn_list];refine wpAny_bind (wpAny_standAt (wpAny_bind (wpAny_mono (turn n s hI) (fun r s₁ h₁=>?_) no)));cases r with
 |none=>exact wpAny_pure h₁
 |some v=>
  refine wpAny_bind (wpAny_mono h₁ (fun _ s₁' h₁'=>?_) no);refine wpAny_bind (wpAny_mono h₁' (fun _ s₂ h₂=>wpAny_bind (wpAny_mono h₂ (fun ok s₃ h₃=>?_) no)) no);cases ok with
  |false=>exact wpAny_pure ⟨rfl,h₃⟩
  |true=>exact wpAny_bind (wpAny_bind (wpAny_mono h₃ (fun x s₄ h₄=>wpAny_bind (wpAny_mono h₄ (fun _ s₅ h₅=>wpAny_pure (wpAny_pure ⟨rfl,h₅⟩)) no)) no))
theorem cI(env:Env):∀(names:List (Str×NameKind)) (x:Str) (k:NameKind),
  (names.map fun(n,k)=>if (k == NameKind.free&&env.scope.kind == .function&&env.kindOf n == some .cell) then (n,NameKind.cell) else (n,k)).lookup x=some k ->
  ∃k0,names.lookup x=some k0/\(k=k0\/(k0=.free/\k=.cell))
 |[],x,k,h=>by simp at h
 |(n,k1)::r,x,k,h=>by
  have h:List.lookup x ((if (k1 == NameKind.free&&env.scope.kind == .function&&env.kindOf n == some .cell)=true then (n,NameKind.cell) else (n,k1))::r.map fun(n,k)=>if (k == NameKind.free&&env.scope.kind == .function&&env.kindOf n == some .cell) then (n,NameKind.cell) else (n,k))=some k:=h;cases hx:x == n with
  |true=>
   by_cases hc:(k1 == NameKind.free&&env.scope.kind == .function&&env.kindOf n == some .cell)=true
   ·rw[if_pos hc,List.lookup_cons,hx]at h
    injection h with h
    have hk:k1=.free:=by simp only[Bool.and_eq_true,beq_iff_eq]at hc;exact hc.1.1
    exact⟨k1,by rw[List.lookup_cons,hx],.inr ⟨hk,h.symm⟩⟩
   ·rw[if_neg hc,List.lookup_cons,hx]at h
    injection h with h
    exact⟨k1,by rw[List.lookup_cons,hx],.inl h.symm⟩
  |false=>
   by_cases hc:(k1 == NameKind.free&&env.scope.kind == .function&&env.kindOf n == some .cell)=true
   ·rw[if_pos hc,List.lookup_cons,hx]at h
    obtain⟨k0,e,z⟩:=cI env r x k h;exact⟨k0,by rw[List.lookup_cons,hx];exact e,z⟩
   ·rw[if_neg hc,List.lookup_cons,hx]at h
    obtain⟨k0,e,z⟩:=cI env r x k h;exact⟨k0,by rw[List.lookup_cons,hx];exact e,z⟩
structure cV(X:Cx)(nm:List Str)(scope:Scope):Prop where
 kind:scope.kind=.function
 cell:∀y∈scope.names,y.2≠.cell
 names:∀y∈scope.names,y.2=.local->scope.names.lookup y.1=some .local
 free:∀y∈scope.names,y.2=.free->X.env.kindOf y.1=some .cell\/X.env.kindOf y.1=some .free
 apart:∀x∈nm,scope.names.lookup x≠some .local
 len:nm.length=X.N.length
 mask:∀(i:Nat) (x:Str),nm[i]?=some x->X.N[i]?=some x\/scope.names.lookup x=none
section
variable{X:Cx}{nm:List Str}{elt tg iter:Expr}{ifs:List Expr}{scope:Scope}{pos:Pos}{own:List Str}{wi:TI}{g:TG}{tt:TT}{te:TE}
theorem o6{pins:List (Addr×Obj)}{s2:Shared}{σ:L2.St}{H2:Hp}{cl:List (Str×Addr)}{it:Addr}{fp:List Addr}{tn:Nat->Heap->Prop}{J:It}{Q:VK}{E:Value->Shared->Prop}{RR:Value->Addr->Result->Shared->Prop}
  (hc:X.calm=true) (S:cV X nm scope) (lH:∀x c,cl.lookup x=some c->X.env.cells.lookup x=some c) (zf:∀y∈scope.names,y.2=.free->∃c,cl.lookup y.1=some c)
  (hg:∀cl C s H fp,PG (aT X nm scope own cl C s H fp) tg g) (ht:∀cl C s H fp,PTs (aT X nm scope own cl C s H fp) ifs tt) (he:∀cl C s H fp,PE (aT X nm scope own cl C s H fp) elt te)
  (I2:Inv X pins σ H2 s2) (T:Turn X.prog X.w X.K tg J fp it tn) (st2:tn 0 s2.heap) (f2:∀b∈fp,oz X pins H2 b)
  (hR:∀ D,H2 D=none→∃ W:Nat→Nat→L2.St→Hp→Prop,
   (∃m,W 0 m (σ++List.replicate own.length none) (upd H2 D (.lst [])))/\∀i m σ' H',W i m σ' H' ->
    (J.stop i H'∧Q (.ref D) H')∨(J.go i H'∧∀ x H2,J.yld i H' x H2→g x σ' H2 fun σ2 H3=>tt σ2 H3 fun b H4=>if b=true
     then te σ2 H4 fun y H5=>∃acc,H5 D=some (.lst acc)/\acc.length<sizeLine/\∃m',m'<m/\W (i+1) m' σ2 (upd H5 D (.lst (acc++[y])))
     else ∃m',m'<m/\W (i+1) m' σ2 H4))
  (OQ:∀D C H6 s6,Inv X pins σ H6 s6->H6 C=none->C≠X.env.locals->X.s₀.heap.objs.size<=C->(∀x c,X.env.cells.lookup x=some c->c≠C)->(∀p∈X.pn++pins,p.1≠C)->(∃m,s6.heap.Ns C m)->Q (.ref D) H6->RR (.ref D) C (.ok .next) s6) :
  wpAny (model X.prog X.w) X.A (newList []) (fun acc s₃=>wpAny (model X.prog X.w) X.A (newFunctionEnv scope X.env.globals cl [] X.env.qual none .none (some X.env)) (fun cenv s₄=>codeAny (model X.prog X.w) X.A (.compStart (.ListComp elt [⟨tg,iter,ifs,0⟩] scope pos) 0 (.ref it) acc { cenv with scope:=relabel scope X.env }) (RR acc cenv.locals) s₄) E s₃) E s2:=by
 have no:∀{P:Value->Shared->Prop} (x:Value) (s':Shared),False->P x s':=fun _ _ f=>f.elim
 refine wpAny_newObj_type (wpAny_newFunctionEnv S.cell (by intro y hy;simp at hy) (fun h₁ hns₁ hsb₁=>?_) S.kind);dsimp only at hns₁ hsb₁ ⊢;have I3:Inv X pins σ (upd H2 s2.heap.objs.size (.lst [])) { s2 with heap:=s2.heap.push { cls:=.type "list",dict:=none,data:=.seq ([]:List Value).toArray } }:=I2.Jf (t':=s2.toks) (ys:=[]) (its:=[]) .nil (Nat.zero_le _)
 generalize hG2:s2.heap.push { cls:=.type "list",dict:=none,data:=.seq ([]:List Value).toArray }=G2 at hns₁ hsb₁ I3 ⊢
 have hC:G2.objs.size=s2.heap.objs.size+1:=by rw[<- hG2,Heap.size_push]
 have up2:∀b o,s2.heap.get? b=some o->G2.get? b=some o:=fun b o e=>hG2▸Heap.get?_push_of_some _ e
 have up3:∀b o,G2.get? b=some o->h₁.get? b=some o:=fun b o e=>hsb₁.extBut b o (Nat.ne_of_lt (Heap.lt_size e)) (Heap.get?_push_of_some _ e)
 have OR:G2.get? G2.objs.size=none:=Heap.get?_none_of_le (Nat.le_refl _);have fpo:∀b∈fp,∃o,s2.heap.get? b=some o:=fun b hb=>by obtain⟨o,e,_⟩:=T.obj 0 _ st2 b hb;exact⟨o,e⟩
 have fpC:∀b∈fp,b≠G2.objs.size:=fun b hb=>by obtain⟨o,e⟩:=fpo b hb;exact Nat.ne_of_lt (Heap.lt_size (up2 b o e))
 have H3C:(upd H2 s2.heap.objs.size (.lst [])) G2.objs.size=none:=I3.hok.fresh (Nat.le_refl _);have fpD:∀b∈fp,b≠s2.heap.objs.size:=fun b hb=>by obtain⟨o,e⟩:=fpo b hb;exact Nat.ne_of_lt (Heap.lt_size e)
 have Mq:∀b∈fp,b∉frs X.stack:=fun b hb z=>by
  rcases List.mem_cons.mp (I3.uQ b z) with y | y
  ·exact(f2 b hb).2.1 y
  ·exact(f2 b hb).2.2.1 y
 have ok':(aT X nm scope own cl G2.objs.size { s2 with heap:=G2 } (upd H2 s2.heap.objs.size (.lst [])) fp).Ok:=by
  refine ⟨I3.ok.mod,S.kind,I3.ok.glob,I3.ok.blt,Nat.le_refl _,fun x y c e1 e2=>I3.ok.inj x y c (lH x c e1) (lH y c e2),fun x hx=>?_,fun x c z=>(nomatch z),I3.ok.hd,I3.ok.frames,.inl rfl,
   fun b hb=>⟨fpC b hb,fun x c e=>(f2 b hb).2.2.2.2.1 x c (lH x c e)⟩,fun b o e=>I3.bs b o e,Nat.le_trans I3.ok.bsz I3.sz,fun b o e hb=>?_,fun b hb=>Mq b hb,I3.stack,I3.wF⟩
  ·have hx:(relabel scope X.env).names.lookup x=some .cell\/(relabel scope X.env).names.lookup x=some .free:=hx
   have key:∀k,(relabel scope X.env).names.lookup x=some k->k≠.local->k=.cell\/k=.free->∃c,cl.lookup x=some c:=fun k hk _ hkk=>by
    obtain⟨k0,e0,z⟩:=cI X.env scope.names x k hk;have m0:=PySem.mem_of_lookup e0;have f0:k0=.free:=by
     rcases z with z | z
     ·subst z
      rcases hkk with q | q
      ·exact absurd q (S.cell _ m0)
      ·exact q
     ·exact z.1
    exact zf (x,k0) m0 f0
   rcases hx with hx | hx
   ·exact key _ hx (by decide) (.inl rfl)
   ·exact key _ hx (by decide) (.inr rfl)
  ·rcases (f2 b hb).2.2.2.1 with z | z
   ·exact I3.ok.z_ b o e z
   ·exact absurd (Nat.lt_of_lt_of_le (Heap.lt_size e) (Nat.le_trans I3.ok.bsz z)) (Nat.lt_irrefl _)
 have stat:∀{H':Hp},(∀b∈fp,H' b=none)->∀b∈fp,oz (aT X nm scope own cl G2.objs.size { s2 with heap:=G2 } (upd H2 s2.heap.objs.size (.lst [])) fp) [] H' b:=fun hn b hb=>⟨hn b hb,fpC b hb,Mq b hb,.inl hb,fun x c e=>(f2 b hb).2.2.2.2.1 x c (lH x c e),fun p hp=>(nomatch (show p∈([]:List (Addr×Obj)) from hp))⟩
 have I4:Inv (aT X nm scope own cl G2.objs.size { s2 with heap:=G2 } (upd H2 s2.heap.objs.size (.lst [])) fp) [] (σ++List.replicate own.length none) (upd H2 s2.heap.objs.size (.lst [])) { s2 with heap:=h₁,toks:=s2.toks+([]:List (Str×Value)).length }:=by
  refine⟨ok',rfl,I3.bare,Un.kept up3,⟨_,hns₁,fun i x v e1 e2 e3=>?_⟩,fun x c e=>?_,H3C,fun x c e=>I3.gj x c (lH x c e),fun p hp=>(nomatch (show p∈([]:List (Addr×Obj)) from hp)),I3.hok.kept up3,?_⟩
  ·have e1:(nm++own)[i]?=some x:=e1
   have hi:i<σ.length:=by
    by_cases hi:i<σ.length
    ·exact hi
    ·rw[List.getElem?_append_right (Nat.not_lt.mp hi),List.getElem?_replicate]at e2
     split at e2<;>cases e2
   rw[List.getElem?_append_left hi]at e2;rw[List.getElem?_append_left (by rw[S.len,<- I3.len];exact hi)]at e1;have key:∀k,(relabel scope X.env).names.lookup x=some k->k=.local\/k=.cell\/k=.free->scope.names.lookup x=some .free/\(k=.cell\/k=.free):=fun k hk hkk=>by
    obtain⟨k0,e0,z⟩:=cI X.env scope.names x k hk;have m0:=PySem.mem_of_lookup e0;have n1:k0≠.local:=fun y=>S.apart x (List.mem_of_getElem? e1) (y▸e0)
    have n2:k0≠.cell:=S.cell _ m0;rcases z with z | z
    ·subst z
     rcases hkk with q | q | q
     ·exact absurd q n1
     ·exact absurd q n2
     ·subst q;exact⟨e0,.inr rfl⟩
    ·obtain⟨z1,z2⟩:=z
     subst z1;subst z2;exact⟨e0,.inl rfl⟩
   have hk:∃k,(relabel scope X.env).names.lookup x=some k/\(k=.cell\/k=.free)/\scope.names.lookup x=some .free:=by
    rcases (show (relabel scope X.env).names.lookup x=some .local\/(relabel scope X.env).names.lookup x=some .cell\/(relabel scope X.env).names.lookup x=some .free from e3) with q | q | q
    ·obtain⟨a,b⟩:=key _ q (.inl rfl);exact⟨_,q,b,a⟩
    ·obtain⟨a,b⟩:=key _ q (.inr (.inl rfl));exact⟨_,q,b,a⟩
    ·obtain⟨a,b⟩:=key _ q (.inr (.inr rfl));exact⟨_,q,b,a⟩
   obtain⟨k,hk1,hk2,hk3⟩:=hk;have m0:=PySem.mem_of_lookup hk3;obtain⟨c,hcc⟩:=zf (x,.free) m0 rfl;obtain⟨m,hn,hl⟩:=I3.loc;have hout:=S.free (x,.free) m0 rfl;have OS:Vis X.env.scope x:=by
    rcases hout with q | q
    ·exact .inr (.inl q)
    ·exact .inr (.inr q)
   have e1':X.N[i]?=some x:=by
    rcases S.mask i x e1 with z | z
    ·exact z
    ·rw[z]at hk3;cases hk3
   obtain⟨u,ru,lk⟩:=hl i x v e1' e2 OS;refine⟨u,ru,.inr ⟨?_,c,hcc,?_⟩⟩
   ·rcases hk2 with q | q
    ·subst q;exact .inl hk1
    ·subst q;exact .inr hk1
   ·rcases lk with⟨q,_⟩ | ⟨_,c',e',z⟩
    ·rcases hout with y | y
     ·rw[q]at y;cases y
     ·rw[q]at y;cases y
    ·rw[lH x c hcc]at e'
     cases e';obtain⟨o,ho,hd⟩:=z;exact⟨o,up3 c o ho,hd⟩
  ·obtain⟨v,o,ho,hd⟩:=I3.cell x c (lH x c e)
   exact⟨v,o,up3 c o ho,hd⟩
  ·show (σ++List.replicate own.length none).length=(nm++own).length
   rw[List.length_append,List.length_append,List.length_replicate,I3.len,S.len]
 obtain⟨W,⟨m0,w0⟩,turn⟩:=hR s2.heap.objs.size I2.fresh;have st4:tn 0 h₁:=T.keep 0 _ _ st2 fun b hb o e=>up3 b o (up2 b o e)
 have OT:∀b∈fp,(upd H2 s2.heap.objs.size (.lst [])) b=none:=fun b hb=>by rw[aA (fpD b hb)];exact(f2 b hb).1
 have loop:∀s₃:Shared,s₃={ s2 with heap:=h₁,toks:=s2.toks+([]:List (Str×Value)).length } ->
   codeAny (model X.prog X.w) X.A (.compLoop (.ListComp elt [⟨tg,iter,ifs,0⟩] scope pos) 0 (.ref it) (.ref s2.heap.objs.size) (compEnvC scope cl G2.objs.size X.env))
    (RR (.ref s2.heap.objs.size) G2.objs.size) s₃:=by
  rintro s₃ rfl;refine qo (fun n s'=>∃i σ' H',Inv (aT X nm scope own cl G2.objs.size { s2 with heap:=G2 } (upd H2 s2.heap.objs.size (.lst [])) fp) [] σ' H' s'/\tn i s'.heap/\(∀b∈fp,H' b=none)/\W i n σ' H') ?_ m0
   ⟨0,_,_,I4,st4,OT,w0⟩
  rintro n s5 ⟨i,σ5,H5,I5,st5,fr5,w5⟩;rcases turn i n σ5 H5 w5 with⟨stop,q⟩ | ⟨go,step⟩
  ·refine wpAny_mono (T.done (aT X nm scope own cl G2.objs.size { s2 with heap:=G2 } (upd H2 s2.heap.objs.size (.lst [])) fp) rfl rfl rfl hc i [] s5 σ5 H5 (fun _ _=>False) I5 (stat fr5) st5 stop) (fun r s6 hr6=>?_) no
   obtain⟨hr,I6⟩:=hr6;subst hr;have I7:Inv X pins σ H5 s6:=I3.LH (ch:=fp) I6.os I6.base I6.hok I6.bare fun b hb=>⟨(f2 b hb).2.2.2.1,(f2 b hb).2.1,(f2 b hb).2.2.2.2.1,(f2 b hb).2.2.2.2.2⟩
   refine OQ _ _ H5 s6 I7 I6.free (Nat.ne_of_gt (show X.env.locals<G2.objs.size from I3.lt)) I3.sz (fun x c e=>?_) (fun p hp=>?_) (let ⟨m,hn,_⟩:=I6.loc;⟨m,hn⟩) q
   ·obtain⟨v,z⟩:=I3.cell x c e
    exact Nat.ne_of_lt z.lt
   ·exact Nat.ne_of_lt (Heap.lt_size (I3.pin p hp).1)
  ·refine wpAny_mono (T.item (aT X nm scope own cl G2.objs.size { s2 with heap:=G2 } (upd H2 s2.heap.objs.size (.lst [])) fp) rfl rfl rfl hc i [] s5 σ5 H5 (fun _ _=>False) I5 (stat fr5) st5 go) (fun r s6 hr6=>?_) no
   obtain⟨u,hr,h6⟩:=hr6;subst hr;refine wpAny_mono h6 (fun _ s7 h7=>?_) no;obtain⟨x,H7,I7,r7,y7,st7,fr7⟩:=h7;have I7':=I7.pinned (stat fr7) (T.obj _ _ st7);have again:∀{s9:Shared} {σ9:L2.St} {H9:Hp} {m':Nat},m'<n->Inv (aT X nm scope own cl G2.objs.size { s2 with heap:=G2 } (upd H2 s2.heap.objs.size (.lst [])) fp) ([]++lq fp s7.heap) σ9 H9 s9->W (i+1) m' σ9 H9 ->
     ∃m,m<n/\∃i σ' H',Inv (aT X nm scope own cl G2.objs.size { s2 with heap:=G2 } (upd H2 s2.heap.objs.size (.lst [])) fp) [] σ' H' s9/\tn i s9.heap/\(∀b∈fp,H' b=none)/\W i m σ' H':=fun {s9 σ9 H9 m'} hm I9 w9=>by
    refine⟨m',hm,i+1,σ9,H9,I9.iV,T.keep _ _ _ st7 fun b hb o e=>(I9.pin (b,o) (List.mem_append_right _ (List.mem_append_right _ (dZ hb e)))).1,fun b hb=>?_,w9⟩;obtain⟨o,e,d⟩:=T.obj _ _ st7 b hb;exact(I9.pin (b,o) (List.mem_append_right _ (List.mem_append_right _ (dZ hb e)))).2.1
   refine wpAny_mono (hg cl G2.objs.size _ _ fp _ s7 σ5 H7 x u _ I7' r7 (step x H7 y7)) (fun _ s8 h8=>?_) no;obtain⟨σ8,H8,I8,q8⟩:=h8;refine wpAny_mono (ht cl G2.objs.size _ _ fp _ s8 σ8 H8 _ I8 q8) (fun b s9 h9=>?_) no;obtain⟨H9,I9,q9⟩:=h9;cases b with
   |false=>rw[if_neg Bool.false_ne_true]at q9 ⊢;obtain⟨m',hm,w9⟩:=q9;exact again hm I9 w9
   |true=>rw[if_pos rfl]at q9 ⊢;refine wpAny_mono (he cl G2.objs.size _ _ fp _ s9 σ8 H9 _ I9 q9) (fun y s10 h10=>?_) no;obtain⟨yv,H10,I10,r10,acc,hacc,hlen,m',hm,w10⟩:=h10;refine wpAny_mono (jA (X:=aT X nm scope own cl G2.objs.size { s2 with heap:=G2 } (upd H2 s2.heap.objs.size (.lst [])) fp) _ s10 σ8 H10 (.ref s2.heap.objs.size) [yv] (.ref s2.heap.objs.size) [y] (fun _ H'=>H'=upd H10 s2.heap.objs.size (.lst (acc++[yv]))) I10 rfl (.cons r10 .nil) ⟨_,acc,yv,rfl,rfl,hacc,hlen,rfl⟩) (fun _ s11 h11=>?_) no;obtain⟨_,H11,I11,_,e11⟩:=h11;subst e11;exact again hm I11 w10
 exact codeAny_compStart_list (loop _ rfl) (T.self _ 0 _ _ _ st4 (loop _ rfl))
theorem xm(hc:X.calm=true)(S:cV X nm scope)(hi:PI X tg iter wi)
  (hg:∀cl C s H fp,PG (aT X nm scope own cl C s H fp) tg g) (ht:∀cl C s H fp,PTs (aT X nm scope own cl C s H fp) ifs tt) (he:∀cl C s H fp,PE (aT X nm scope own cl C s H fp) elt te)
  (hs:∀x,foldedSetIterable iter X.env x=pure x:=by intro _;rfl):PE X (.ListComp elt [⟨tg,iter,ifs,0⟩] scope pos) (tLC wi own.length g tt te):=by
 intro pins s σ H Q I h;obtain⟨cl,hclos,lH,zf⟩:=lG (env:=X.env) (scope:=scope) fun y hy hf=>I.ok.has y.1 (S.free y hy hf)
 rw[eval_ListComp];refine wpAny_comprehension_free (use:=none) rfl hs hclos S.kind S.names (thn (hi pins s σ H _ I h) fun v s1 h1=>thn h1 fun itv s2 h2=>?_);obtain⟨it,fp,tn,J,H2,e,I2,T,st2,f2,hR⟩:=h2;subst e;refine o6 (Q:=Q) (RR:=fun acc C=>compPost (model X.prog X.w) X.A X.xe none (EP X pins σ Q) acc C) hc S lH zf hg ht he I2 T st2 f2 hR ?_;intro D C H6 s6 I6 hCn hCL hCs hCc hCp hns q;obtain⟨m,hn⟩:=hns;refine⟨m,hn,fun h' hs'=>⟨.ref D,H6,I6.turned (t':=s6.toks) (fun b o hb e=>(hs'.2 b hb).trans e) hCn hCL (.inr hCs) hCc hCp,rfl,q⟩⟩
theorem fD{i:Nat}{y:Str}{py spos:Pos}(hN:X.N.Nodup)(hi':X.N[i]?=some y)(hy:Loc X.env.scope y)(hc:X.calm=true)(S:cV X nm scope)(hi:PI X tg iter wi)
  (hg:∀cl C s H fp,PG (aT X nm scope own cl C s H fp) tg g) (ht:∀cl C s H fp,PTs (aT X nm scope own cl C s H fp) ifs tt) (he:∀cl C s H fp,PE (aT X nm scope own cl C s H fp) elt te)
  (hsw:swapsWith (.ListComp elt [⟨tg,iter,ifs,0⟩] scope pos) (some (.Name y py)) spos.line X.env=pure true:=by rfl)
  (hs:∀x,foldedSetIterable iter X.env x=pure x:=by intro _;rfl) (hf:X.fn y=true\/X.env.scope.names.lookup y=some .local:=by first | exact .inl rfl | exact .inr rfl | assumption) :
  PS X (.Assign [.Name y py] (.ListComp elt [⟨tg,iter,ifs,0⟩] scope pos) spos) (yL (tLC wi own.length g tt te) (iR i)):=by
 intro pins s σ H Dn I h;obtain⟨cl,hclos,lH,zf⟩:=lG (env:=X.env) (scope:=scope) fun y hy hf=>I.ok.has y.1 (S.free y hy hf)
 rw[exec_Assign_Name_used _ _ _ _ hsw];refine wpAny_bind (wpAny_standAt (wpAny_bind ?_));show wpAny _ X.A (do let _ <- comprehension (.ListComp elt [⟨tg,iter,ifs,0⟩] scope pos) scope X.env _ (newList []) false (eval iter X.env) (some (assign (.Name y py) X.env))) _ _ s;refine wpAny_bind (wpAny_mono (wpAny_comprehension_free (use:=some (assign (.Name y py) X.env)) (Q:=fun _ s'=>SP X pins Dn .next s') rfl hs hclos S.kind S.names
  (thn (hi pins s σ H _ I h) fun v s1 h1=>thn h1 fun itv s2 h2=>?_)) (fun _ s' hq=>wpAny_pure (wpAny_pure hq)) fun _ _ e=>e)
 obtain⟨it,fp,tn,J,H2,e,I2,T,st2,f2,hR⟩:=h2;subst e;refine o6 (Q:=fun x H1=>iR i x σ H1 Dn.nx) (RR:=fun acc C=>compPost (model X.prog X.w) X.A X.xe (some (assign (.Name y py) X.env)) (fun _ s'=>SP X pins Dn .next s') acc C) hc S lH zf hg ht he I2 T st2 f2 hR ?_;intro D C H6 s6 I6 hCn hCL hCs hCc hCp hns q;obtain⟨m,hn⟩:=hns;show wpAny _ X.A (assign (.Name y py) X.env (.ref D)) _ _ _;refine wpAny_assign_Name (oQ I6 hN hi' hy (v:=.ref D) rfl (fun s7 I7 h7=>?_) hf);obtain⟨a,sb,ha⟩:=h7;have hCa:C≠a:=by
  rcases ha with ha | ha
  ·rw[ha];exact hCL
  ·exact Ne.symm (hCc y a ha)
 refine⟨m,hn.sameBut sb hCa,fun h' hs'=>⟨_,H6,I7.turned (t':=s7.toks) (fun b o hb e=>(hs'.2 b hb).trans e) hCn hCL (.inr hCs) hCc hCp,q⟩⟩
end
mutual
noncomputable def toPy:Dm.Dat->PyData
 |.non=>.none
 |.bl b=>.bool b
 |.int i=>.int i
 |.str s=>.str ⟨s.toArray⟩
 |.tup xs=>.tuple (bP xs)
 |.lst xs=>.list (bP xs)
 |.dct _ _=>.dict []
 |.exc _=>.dict []
 |.fn _=>.dict []
noncomputable def bP:List Dm.Dat->List PyData
 |[]=>[]
 |x::xs=>toPy x::bP xs
end
mutual
theorem i_:∀a b:Dm.Dat,PyData.eqv (toPy a) (toPy b)=Dm.eqD a b
 |.non,b=>by cases b<;>simp[toPy,PyData.eqv,Dm.eqD]
 |.bl x,b=>by cases b<;>simp[toPy,PyData.eqv,Dm.eqD,Dm.b2i]
 |.int x,b=>by cases b<;>simp[toPy,PyData.eqv,Dm.eqD,Dm.b2i]
 |.str x,b=>by
  cases b with
  |str y=>
   simp only[toPy,PyData.eqv,Dm.eqD];rw[Bool.eq_iff_iff];simp only[beq_iff_eq];constructor
   ·intro h
    have h:=congrArg (fun s:Str=>s.cps.toList) h
    simpa using h
   ·rintro rfl
    rfl
  |_=>simp[toPy,PyData.eqv,Dm.eqD]
 |.tup xs,b=>by
  cases b with
  |tup ys=>simp only[toPy,PyData.eqv,Dm.eqD];exact jI xs ys
  |_=>simp[toPy,PyData.eqv,Dm.eqD]
 |.lst xs,b=>by
  cases b with
  |lst ys=>simp only[toPy,PyData.eqv,Dm.eqD];exact jI xs ys
  |_=>simp[toPy,PyData.eqv,Dm.eqD]
 |.dct ks vs,b=>by cases b<;>simp[toPy,PyData.eqv,Dm.eqD]
 |.exc C,b=>by cases b<;>simp[toPy,PyData.eqv,Dm.eqD]
 |.fn C,b=>by cases b<;>simp[toPy,PyData.eqv,Dm.eqD]
theorem jI:∀a b:List Dm.Dat,PyData.eqvAll (bP a) (bP b)=Dm.oE a b
 |[],b=>by cases b<;>simp[bP,PyData.eqvAll,Dm.oE]
 |x::xs,b=>by
  cases b with
  |nil=>simp[bP,PyData.eqvAll,Dm.oE]
  |cons y ys=>simp only[bP,PyData.eqvAll,Dm.oE];rw[i_ x y,jI xs ys]
end
theorem A0{s:List Nat}(h:(s.all fun c=>decide (c<128))=true):PyData.strOk ⟨s.toArray⟩=true:=by unfold PyData.strOk;rw[Array.all_eq_true'];intro c hc;have h1:=List.all_eq_true.mp h c (by simpa using hc);have h2:c<128:=of_decide_eq_true h1;exact decide_eq_true (by omega)
theorem bQ{P:Program}{w:World}{H:Hp}{h:Heap}(ok:HOk P w H h):∀(n:Nat),
  (∀(v:V) (d:Dm.Dat) (u:Value),Rep H v d->RelV v u->Dm.okD n d=true->∃as,Reads h u (toPy d) as/\(toPy d).canLay0=true/\(toPy d).depth<=n) /\
  (∀(vs:List V) (ds:List Dm.Dat) (us:List Value),aB H vs ds->Vals vs us->ds.all (Dm.okD n)=true->∃as,ReadsAll h us (bP ds) as/\PyData.canLayAll0 (bP ds)=true/\PyData.depthAll (bP ds)<=n):=by
 intro n
 induction n with
 |zero=>
  have one:∀(v:V) (d:Dm.Dat) (u:Value),Rep H v d->RelV v u->Dm.okD 0 d=true->∃as,Reads h u (toPy d) as/\(toPy d).canLay0=true/\(toPy d).depth<=0:=by
   intro v d u r rv k;cases r with
   |non=>cases rv;exact⟨_,.none,rfl,Nat.le_refl _⟩
   |bl b=>cases rv;exact⟨_,.bool b,rfl,Nat.le_refl _⟩
   |int i=>obtain⟨t,rfl⟩:=rv;exact⟨_,.int i t,rfl,Nat.le_refl _⟩
   |str s=>obtain⟨t,rfl⟩:=rv;exact⟨_,.str _ t,A0 k,Nat.le_refl _⟩
   |tup _ _=>cases k
   |lst _ _=>cases k
   |dct _ _ _=>cases k
   |exc _=>cases k
   |fn _=>cases k
  refine⟨one,fun vs ds=>?_⟩
  induction ds generalizing vs with
  |nil=>intro us r rv _;cases r;cases rv;exact⟨_,.nil,rfl,Nat.le_refl _⟩
  |cons d ds ih=>
   intro us r rv k;cases r with
   |cons r rs=>
    cases rv with
    |cons q qs=>rw[List.all_cons,Bool.and_eq_true]at k;obtain⟨a1,h1,h2,h3⟩:=one _ _ _ r q k.1;obtain⟨a2,h4,h5,h6⟩:=ih _ _ rs qs k.2;exact⟨_,.cons h1 h4,by simp[bP,PyData.canLayAll0,h2,h5],by simp only[bP,PyData.depthAll];omega⟩
 |succ n ih=>
  have one:∀(v:V) (d:Dm.Dat) (u:Value),Rep H v d->RelV v u->Dm.okD (n+1) d=true->∃as,Reads h u (toPy d) as/\(toPy d).canLay0=true/\(toPy d).depth<=n+1:=by
   intro v d u r rv k;cases r with
   |non=>cases rv;exact⟨_,.none,rfl,Nat.zero_le _⟩
   |bl b=>cases rv;exact⟨_,.bool b,rfl,Nat.zero_le _⟩
   |int i=>obtain⟨t,rfl⟩:=rv;exact⟨_,.int i t,rfl,Nat.zero_le _⟩
   |str s=>obtain⟨t,rfl⟩:=rv;exact⟨_,.str _ t,A0 k,Nat.zero_le _⟩
   |tup q rs=>cases rv;obtain⟨z,its,vr,ob,e,hc,m,hd⟩:=ok _ _ q;obtain⟨as,h1,h2,h3⟩:=ih.2 _ _ _ rs vr k;exact⟨_,.tuple e hc hd h1,h2,by simp only[toPy,PyData.depth];omega⟩
   |lst q rs=>cases rv;obtain⟨z,its,m,vr,e⟩:=q.ok ok;obtain⟨as,h1,h2,h3⟩:=ih.2 _ _ _ rs vr k;exact⟨_,.list e rfl rfl h1,h2,by simp only[toPy,PyData.depth];omega⟩
   |dct _ _ _=>cases k
   |exc _=>cases k
   |fn _=>cases k
  refine⟨one,fun vs ds=>?_⟩
  induction ds generalizing vs with
  |nil=>intro us r rv _;cases r;cases rv;exact⟨_,.nil,rfl,Nat.zero_le _⟩
  |cons d ds ih=>
   intro us r rv k;cases r with
   |cons r rs=>
    cases rv with
    |cons q qs=>rw[List.all_cons,Bool.and_eq_true]at k;obtain⟨a1,h1,h2,h3⟩:=one _ _ _ r q k.1;obtain⟨a2,h4,h5,h6⟩:=ih _ _ rs qs k.2;exact⟨_,.cons h1 h4,by simp[bP,PyData.canLayAll0,h2,h5],by simp only[bP,PyData.depthAll];omega⟩
theorem jF.full{H0 H:Hp}(s:au H0 H){v:V}{d:Dm.Dat}(r:jF H0 H v d):Rep H v d:=by
 rcases r with r | ⟨a,rfl,w⟩
 ·exact r.mono s
 ·cases d with
  |lst ds=>obtain⟨xs,q,rs⟩:=w;exact .lst (.inl q) (rs.mono s)
  |dct ks ds=>obtain⟨kvs,q,e,rs⟩:=w;exact .dct q e (rs.mono s)
  |_=>exact False.elim w
noncomputable def EK(neg:Bool):R2:=fun x y H Q=>∃dx dy,Rep H x dx/\Rep H y dy/\Dm.okD 8 dx=true/\Dm.okD 8 dy=true/\Q (.bl (if neg then !Dm.eqD dx dy else Dm.eqD dx dy)) H
section
variable{X:Cx}
theorem A1{k:Nat}(hr:bA k X.A):OpR X (compareOp .Eq) (EK false):=by intro pins s σ H x y v u Q I rx ry h;obtain⟨dx,dy,r1,r2,k1,k2,q⟩:=h;obtain⟨as,h1,h2,h3⟩:=(bQ I.hok 8).1 x dx v r1 rx k1;obtain⟨bs,h4,h5,h6⟩:=(bQ I.hok 8).1 y dy u r2 ry k2;have hu:=hr.units;refine PySem.SeqAt.compareEq_reads h1 h4 h2 h5 (by omega) ?_;rw[i_];exact⟨.bl (Dm.eqD dx dy),H,I,rfl,q⟩
theorem A2{k:Nat}(hr:bA k X.A):OpR X (compareOp .NotEq) (EK true):=by intro pins s σ H x y v u Q I rx ry h;obtain⟨dx,dy,r1,r2,k1,k2,q⟩:=h;obtain⟨as,h1,h2,h3⟩:=(bQ I.hok 8).1 x dx v r1 rx k1;obtain⟨bs,h4,h5,h6⟩:=(bQ I.hok 8).1 y dy u r2 ry k2;have hu:=hr.units;refine PySem.SeqAt.compareNe_reads h1 h4 h2 h5 (by omega) ?_;rw[i_];exact⟨.bl (!Dm.eqD dx dy),H,I,rfl,q⟩
noncomputable def EL(neg:Bool):R2:=fun x y H Q=>∃dx ds,Rep H x dx/\(Rep H y (.lst ds)\/Rep H y (.tup ds))/\Dm.okD 8 dx=true/\ds.all (Dm.okD 7)=true/\Q (.bl (if neg then !Dm.inD dx ds else Dm.inD dx ds)) H
theorem fE(x:Dm.Dat):∀ds:List Dm.Dat,((bP ds).any fun y=>PyData.eqv y (toPy x))=Dm.inD x ds
 |[]=>rfl
 |d::ds=>by have:=fE x ds;unfold Dm.inD at this ⊢;simp only[bP,List.any_cons,i_];rw[this]
theorem Jw{k:Nat}(hr:bA k X.A):OpR X (compareOp .In) (EL false):=by
 intro pins s σ H x y v u Q I rx ry h;obtain⟨dx,ds,r1,r2,k1,k2,q⟩:=h;obtain⟨as,h1,h2,h3⟩:=(bQ I.hok 8).1 x dx v r1 rx k1;have hu:=hr.units;rcases r2 with r2 | r2
 ·obtain⟨bs,h4,h5,h6⟩:=(bQ I.hok 8).1 y (.lst ds) u r2 ry k2
  have h6:PyData.depthAll (bP ds)+1<=8:=h6;refine PySem.SeqAt.in_list_reads h4 h1 h5 h2 (by omega) ?_;rw[fE];exact⟨.bl (Dm.inD dx ds),H,I,rfl,q⟩
 ·obtain⟨bs,h4,h5,h6⟩:=(bQ I.hok 8).1 y (.tup ds) u r2 ry k2
  have h6:PyData.depthAll (bP ds)+1<=8:=h6;refine PySem.SeqAt.in_tuple_reads h4 h1 h5 h2 (by omega) ?_;rw[fE];exact⟨.bl (Dm.inD dx ds),H,I,rfl,q⟩
theorem zg{k:Nat}(hr:bA k X.A):OpR X (compareOp .NotIn) (EL true):=by
 intro pins s σ H x y v u Q I rx ry h;obtain⟨dx,ds,r1,r2,k1,k2,q⟩:=h;obtain⟨as,h1,h2,h3⟩:=(bQ I.hok 8).1 x dx v r1 rx k1;have hu:=hr.units;rcases r2 with r2 | r2
 ·obtain⟨bs,h4,h5,h6⟩:=(bQ I.hok 8).1 y (.lst ds) u r2 ry k2
  have h6:PyData.depthAll (bP ds)+1<=8:=h6;refine PySem.SeqAt.notIn_list_reads h4 h1 h5 h2 (by omega) ?_;rw[fE];exact⟨.bl (!Dm.inD dx ds),H,I,rfl,q⟩
 ·obtain⟨bs,h4,h5,h6⟩:=(bQ I.hok 8).1 y (.tup ds) u r2 ry k2
  have h6:PyData.depthAll (bP ds)+1<=8:=h6;refine PySem.SeqAt.notIn_tuple_reads h4 h1 h5 h2 (by omega) ?_;rw[fE];exact⟨.bl (!Dm.inD dx ds),H,I,rfl,q⟩
end
theorem aC{H0 H:Hp}{v:V}{i:Int}(r:jF H0 H v (.int i)):v=.int i:=by
 rcases r with r | ⟨a,_,w⟩
 ·exact Rep.isInt r
 ·exact False.elim w
theorem xo{H0 H:Hp}{v:V}{b:Bool}(r:jF H0 H v (.bl b)):v=.bl b:=by
 rcases r with r | ⟨a,_,w⟩
 ·exact Rep.i7 r
 ·exact False.elim w
theorem aX{H0 H:Hp}(s:au H0 H){v:V}{ds:List Dm.Dat}(r:jF H0 H v (.lst ds)):∃a xs,v=.ref a/\Rd H a (.lst xs)/\aB H0 xs ds:=by
 rcases r with r | ⟨a,e,xs,q,rs⟩
 ·cases r with
  |lst q rs=>exact⟨_,_,rfl,au.rd s q,rs⟩
 ·exact⟨a,xs,e,.inl q,rs⟩
theorem ja{H0 H:Hp}(s:au H0 H){v:V}{ds:List Dm.Dat}(r:jF H0 H v (.tup ds)):∃a xs,v=.ref a/\H a=some (.tup xs)/\aB H0 xs ds:=by
 rcases r with r | ⟨a,_,w⟩
 ·cases r with
  |tup q rs=>exact⟨_,_,rfl,s _ _ q,rs⟩
 ·exact False.elim w
theorem Jx:OpD (rI0 fun i j=>.int (i-j)) Dm.iU:=by
 intro H0 H x y dx dy z Q s rx ry e k;unfold Dm.iU at e;split at e
 ·cases e;cases aC rx;cases aC ry
  exact⟨_,_,rfl,rfl,k _ H0 H (aI.refl s) (.int _)⟩
 ·cases e
theorem xq:OpD (rI0 fun i j=>.bl (decide (i<j))) Dm.gLt:=by
 intro H0 H x y dx dy z Q s rx ry e k;unfold Dm.gLt at e;split at e
 ·cases e;cases aC rx;cases aC ry
  exact⟨_,_,rfl,rfl,k _ H0 H (aI.refl s) (.bl _)⟩
 ·cases e
theorem xr:OpD (rI0 fun i j=>.bl (decide (i<=j))) Dm.gLe:=by
 intro H0 H x y dx dy z Q s rx ry e k;unfold Dm.gLe at e;split at e
 ·cases e;cases aC rx;cases aC ry
  exact⟨_,_,rfl,rfl,k _ H0 H (aI.refl s) (.bl _)⟩
 ·cases e
theorem GX:OpD (rI0 fun i j=>.bl (decide (j<i))) Dm.gGt:=by
 intro H0 H x y dx dy z Q s rx ry e k;unfold Dm.gGt at e;split at e
 ·cases e;cases aC rx;cases aC ry
  exact⟨_,_,rfl,rfl,k _ H0 H (aI.refl s) (.bl _)⟩
 ·cases e
theorem Mr:OpD (rI0 fun i j=>.bl (decide (j<=i))) Dm.gGe:=by
 intro H0 H x y dx dy z Q s rx ry e k;unfold Dm.gGe at e;split at e
 ·cases e;cases aC rx;cases aC ry
  exact⟨_,_,rfl,rfl,k _ H0 H (aI.refl s) (.bl _)⟩
 ·cases e
theorem Jy:OpD (rI (fun _ j=>0<j) fun i j=>.int (i % j)) Dm.gf:=by
 intro H0 H x y dx dy z Q s rx ry e k;unfold Dm.gf at e;split at e
 ·split at e
  ·rename_i hj
   cases e;cases aC rx;cases aC ry;exact⟨_,_,rfl,rfl,hj,k _ H0 H (aI.refl s) (.int _)⟩
  ·cases e
 ·cases e
theorem Jz:OpD (rI LS fun i j=>.int (i ^ j.toNat)) Dm.gw:=by
 intro H0 H x y dx dy z Q s rx ry e k;unfold Dm.gw at e;split at e
 ·split at e
  ·rename_i hj
   cases e;cases aC rx;cases aC ry;exact⟨_,_,rfl,rfl,⟨hj.1,hj.2.1,Nat.lt_trans hj.2.2 (by decide)⟩,k _ H0 H (aI.refl s) (.int _)⟩
  ·cases e
 ·cases e
section
variable{X:Cx}
noncomputable def GY(i j:Int):Prop:=0<j/\j<Dm.fq
theorem A3:OpR X (binaryOp .FloorDiv) (rI GY fun i j=>.int (i / j)):=opI fun i j _ _ _ _ _ hc q=>by
 have h:j.natAbs.log2<9000:=by
  have h1:j.natAbs<2 ^ 200:=by
   have:=hc.2;unfold Dm.fq at this;have h2:=hc.1;have e:(2:Nat) ^ 200=1606938044258990275541962092341162602522202993782792835301376:=by decide +kernel
   omega
  have h3:j.natAbs≠0:=by have:=hc.1;omega
  have:=(Nat.log2_lt h3).mpr h1;omega
 have e:i.fdiv j=i / j:=Int.fdiv_eq_ediv_of_nonneg i (Int.le_of_lt hc.1);rw[<- e]at q;exact floordiv_int (Int.ne_of_gt hc.1) q (.inl (PyProof.noPylong_of_log2 h))
end
theorem JA:OpD (rI GY fun i j=>.int (i / j)) Dm.u7:=by
 intro H0 H x y dx dy z Q s rx ry e k;unfold Dm.u7 at e;split at e
 ·split at e
  ·rename_i hj
   cases e;cases aC rx;cases aC ry;exact⟨_,_,rfl,rfl,hj,k _ H0 H (aI.refl s) (.int _)⟩
  ·cases e
 ·cases e
noncomputable def A4:R2:=fun x y H Q=>∃l b xs zs,x=.ref l/\y=.ref b/\Rd H l (.lst xs)/\Rd H b (.lst zs)/\xs.length+zs.length<=sizeLine/\∀p,H p=none->Q (.ref p) (upd H p (.lst (xs++zs)))
noncomputable def A5:R2:=fun x y H Q=>∃l k xs,x=.ref l/\y=.int k/\Rd H l (.lst xs)/\-(2 ^ 63)<=k/\k<2 ^ 63/\xs.length*k.toNat<=sizeLine /\
 ∀p,H p=none->Q (.ref p) (upd H p (.lst (List.replicate k.toNat xs).flatten))
section
variable{X:Cx}
theorem EM:OpR X (binaryOp .Add) A4:=by
 intro pins s σ H x y v u Q I rx ry h;obtain⟨l,b,xs,zs,rfl,rfl,hH,hB,hz,q⟩:=h;cases rx;cases ry;obtain⟨z,its,n,r,e⟩:=hH.ok I.hok;obtain⟨z2,its2,n2,r2,e2⟩:=hB.ok I.hok;have hl:=r.length;have hl2:=r2.length;refine PySem.P.add_list e e2 ?_ (by rw[List.size_toArray,List.size_toArray];omega);have ea:its.toArray++its2.toArray=(its++its2).toArray:=by simp
 rw[ea];exact⟨.ref _,_,I.Jf (t':=s.toks) (r.append r2) (by rw[List.length_append];omega),rfl,q _ I.fresh⟩
theorem EN:OpR X (binaryOp .Mult) A5:=by
 intro pins s σ H x y v u Q I rx ry h;obtain⟨l,k,xs,rfl,rfl,hH,h1,h2,hz,q⟩:=h;cases rx;obtain⟨t,rfl⟩:=ry;obtain⟨z,its,n,r,e⟩:=hH.ok I.hok;have hl:=r.length;have hlen:its.toArray.size*k.toNat<=sizeLine:=by rw[List.size_toArray,<- hl];exact hz
 have hcap:¬its.toArray.size*k.toNat>(2 ^ 63-1) / 8:=by
  have:(sizeLine:Nat)<=(2 ^ 63-1) / 8:=by decide
  omega
 have hfit:¬(!Builtin.List.listFitsIndex k)=true:=by rw[fitsIndex_both h1 h2];exact Bool.false_ne_true
 have Ms:¬Builtin.List.listTooLong (its.toArray.size*k.toNat)=true:=by rw[rL hlen];exact Bool.false_ne_true
 have hnew:List.foldl (fun x1 x2=>x1++x2) #[] (List.replicate (if its.toArray.isEmpty=true then 0 else k.toNat) its.toArray)=(List.replicate k.toNat its).flatten.toArray:=by
  have f0:∀m:Nat,List.foldl (fun x1 x2=>x1++x2) #[] (List.replicate m its.toArray)=(List.replicate m its).flatten.toArray:=fun m=>by have:=foldl_rep its m [];rw[List.nil_append]at this;exact this
  rw[f0];cases its with
  |nil=>simp
  |cons a r'=>rw[if_neg (by simp)]
 refine wpAny_binaryOp_repeat_ref (T := "list") (U := "int") (by decide) ⟨_,e,rfl⟩ (fun s'=>typeIs_int s' k t) noFill_list_mul F.fills_int_mul F.slot_int_rmul repeat_list F.slot_int_index.lookup
  (call_meets F.slot_int_rmul (typeIs_int s k t) F.entry_int_rmul (F.args_int_rmul_2 _ _) (int___rmul___int_list k t l its.toArray n)
   ⟨e,rfl,⟨_,e,rfl⟩,call_meets F.slot_list_mul ⟨_,e,rfl⟩ F.entry_list_mul (F.args_list_mul_2 _ _) (AutoListH.list___mul___list_int_3 l its.toArray n k t hfit hcap Ms) ⟨e,?_⟩⟩)
 rw[hnew];exact⟨.ref _,_,I.Jf (t':=s.toks) (r.rep k.toNat) (by rw[len_rep,Nat.mul_comm];exact hz),rfl,q _ I.fresh⟩
theorem EO:OpR X (binaryOp .Add) (fun x y H Q=>rI0 (fun i j=>.int (i+j)) x y H Q\/A4 x y H Q):=IQ.or EM
theorem ER:OpR X (binaryOp .Mult) (fun x y H Q=>rI Am (fun i j=>.int (i*j)) x y H Q\/A5 x y H Q):=IT.or EN
end
theorem JB:OpD (fun x y H Q=>rI0 (fun i j=>.int (i+j)) x y H Q\/A4 x y H Q) Dm.bG:=by
 intro H0 H x y dx dy z Q s rx ry e k;unfold Dm.bG at e;split at e
 ·cases e;cases aC rx;cases aC ry
  exact .inl ⟨_,_,rfl,rfl,k _ H0 H (aI.refl s) (.int _)⟩
 ·split at e
  ·rename_i hz
   cases e;obtain⟨a,us,rfl,qa,ra⟩:=aX s rx;obtain⟨b,ws,rfl,qb,rb⟩:=aX s ry;refine .inr ⟨a,b,us,ws,rfl,rfl,qa,qb,by rw[ra.length,rb.length];exact kU hz,fun p hp=>?_⟩;exact k _ _ _ (aI.jG s hp) ⟨p,rfl,hp,s.free hp,_,av,ra.append rb⟩
  ·cases e
 ·cases e
theorem JC:OpD (fun x y H Q=>rI Am (fun i j=>.int (i*j)) x y H Q\/A5 x y H Q) Dm.gb:=by
 intro H0 H x y dx dy z Q s rx ry e k;unfold Dm.gb at e;split at e
 ·split at e
  ·rename_i hj
   cases e;cases aC rx;cases aC ry;exact .inl ⟨_,_,rfl,rfl,hj,k _ H0 H (aI.refl s) (.int _)⟩
  ·cases e
 ·split at e
  ·rename_i hz
   cases e;cases aC ry;obtain⟨a,us,rfl,qa,ra⟩:=aX s rx;obtain⟨h1,h2,h3⟩:=hz;unfold Dm.BIG at h1 h2;refine .inr ⟨a,_,us,rfl,rfl,qa,by omega,by omega,by rw[ra.length];exact kU h3,fun p hp=>?_⟩;exact k _ _ _ (aI.jG s hp) ⟨p,rfl,hp,s.free hp,_,av,ra.rep _⟩
  ·cases e
 ·cases e
theorem GZ:OpD (EK false) Dm.gEq:=by
 intro H0 H x y dx dy z Q s rx ry e k;unfold Dm.gEq at e;split at e
 ·rename_i hk
  rw[Bool.and_eq_true]at hk;cases e;exact⟨dx,dy,rx.full s,ry.full s,hk.1,hk.2,k _ H0 H (aI.refl s) (.bl _)⟩
 ·cases e
theorem G0:OpD (EK true) Dm.gNe:=by
 intro H0 H x y dx dy z Q s rx ry e k;unfold Dm.gNe at e;split at e
 ·rename_i hk
  rw[Bool.and_eq_true]at hk;cases e;exact⟨dx,dy,rx.full s,ry.full s,hk.1,hk.2,k _ H0 H (aI.refl s) (.bl _)⟩
 ·cases e
theorem Mt:OpD (EL false) Dm.gIn:=by
 intro H0 H x y dx dy z Q s rx ry e k;unfold Dm.gIn at e;split at e
 ·split at e
  ·rename_i hk
   rw[Bool.and_eq_true]at hk;cases e;exact⟨dx,_,rx.full s,.inl (ry.full s),hk.1,hk.2,k _ H0 H (aI.refl s) (.bl _)⟩
  ·cases e
 ·split at e
  ·rename_i hk
   rw[Bool.and_eq_true]at hk;cases e;exact⟨dx,_,rx.full s,.inr (ry.full s),hk.1,hk.2,k _ H0 H (aI.refl s) (.bl _)⟩
  ·cases e
 ·cases e
theorem A6:OpD (EL true) Dm.jE:=by
 intro H0 H x y dx dy z Q s rx ry e k;unfold Dm.jE at e;split at e
 ·split at e
  ·rename_i hk
   rw[Bool.and_eq_true]at hk;cases e;exact⟨dx,_,rx.full s,.inl (ry.full s),hk.1,hk.2,k _ H0 H (aI.refl s) (.bl _)⟩
  ·cases e
 ·split at e
  ·rename_i hk
   rw[Bool.and_eq_true]at hk;cases e;exact⟨dx,_,rx.full s,.inr (ry.full s),hk.1,hk.2,k _ H0 H (aI.refl s) (.bl _)⟩
  ·cases e
 ·cases e
theorem xu{H0:Hp}{xs:List V}{ds:List Dm.Dat}{i:Int}{d:Dm.Dat}(rs:aB H0 xs ds)(e:Dm.atI ds i=some d):∃v,L2.atI xs i=some v/\Rep H0 v d:=by
 unfold Dm.atI at e;cases q:Dm.ixN ds.length i with
 |none=>rw[q]at e;cases e
 |some j=>rw[q]at e;obtain⟨v,hv,r⟩:=rs.get (i:=j) e;refine⟨v,?_,r⟩;unfold L2.atI;rw[rs.length];have q':L2.ixN ds.length i=some j:=q;rw[q'];exact hv
theorem Mu{K:PySem.W.Frag}:OpD (fun x y H Q=>Jb K x y H Q\/LX K x y H Q) Dm.gIx:=by
 intro H0 H x y dx dy z Q s rx ry e k;unfold Dm.gIx at e;split at e
 ·rename_i ds i
  cases q:Dm.atI ds i with
  |none=>rw[q]at e;cases e
  |some d=>rw[q]at e;cases e;cases aC ry;obtain⟨a,us,rfl,qa,ra⟩:=aX s rx;obtain⟨v,hv,rv⟩:=xu ra q;exact .inl ⟨a,us,i,v,rfl,rfl,.inl qa,hv,k _ H0 H (aI.refl s) rv⟩
 ·rename_i ds i
  cases q:Dm.atI ds i with
  |none=>rw[q]at e;cases e
  |some d=>rw[q]at e;cases e;cases aC ry;obtain⟨a,us,rfl,qa,ra⟩:=ja s rx;obtain⟨v,hv,rv⟩:=xu ra q;exact .inr ⟨a,us,i,v,rfl,rfl,.inl (.inl qa),hv,k _ H0 H (aI.refl s) rv⟩
 ·cases e
theorem JD{K:PySem.W.Frag}:CallD (fun xs H Q=>∃p ys,xs=[.ref p]/\(SqL K H p ys\/SqT K H p ys)/\Q (.int ys.length) H) Dm.fu:=by
 intro H0 H vs ds z Q s rs e k;unfold Dm.fu at e;split at e
 ·cases e
  cases rs with
  |cons r rr=>cases rr;obtain⟨a,us,rfl,qa,ra⟩:=aX s r;exact⟨a,us,rfl,.inl (.inl qa),k _ H0 H (aI.refl s) (by rw[ra.length];exact .int _)⟩
 ·cases e
  cases rs with
  |cons r rr=>cases rr;obtain⟨a,us,rfl,qa,ra⟩:=ja s r;exact⟨a,us,rfl,.inr (.inl (.inl qa)),k _ H0 H (aI.refl s) (by rw[ra.length];exact .int _)⟩
 ·cases e
theorem ES:CallD (fun xs H Q=>∃i j,xs=[.int i,.int j]/\Q (.int (if j<i then j else i)) H) Dm.iZ:=by
 intro H0 H vs ds z Q s rs e k;unfold Dm.iZ at e;split at e
 ·cases e
  cases rs with
  |cons r rr=>
   cases rr with
   |cons r' rr=>cases rr;cases aC r;cases aC r';exact⟨_,_,rfl,k _ H0 H (aI.refl s) (.int _)⟩
 ·cases e
theorem ET:CallD (fun xs H Q=>∃i j,xs=[.int i,.int j]/\Q (.int (if j>i then j else i)) H) Dm.j5:=by
 intro H0 H vs ds z Q s rs e k;unfold Dm.j5 at e;split at e
 ·cases e
  cases rs with
  |cons r rr=>
   cases rr with
   |cons r' rr=>cases rr;cases aC r;cases aC r';exact⟨_,_,rfl,k _ H0 H (aI.refl s) (.int _)⟩
 ·cases e
theorem EU{K:PySem.W.Frag}:CallD (fun xs H Q=>∃p ys,xs=[.ref p]/\(SqL K H p ys\/SqT K H p ys)/\∀l,H l=none->Q (.ref l) (upd H l (.lst ys))) Dm.j7:=by
 intro H0 H vs ds z Q s rs e k;unfold Dm.j7 at e;split at e
 ·cases e
  cases rs with
  |cons r rr=>cases rr;obtain⟨a,us,rfl,qa,ra⟩:=aX s r;exact⟨a,us,rfl,.inl (.inl qa),fun p hp=>k _ _ _ (aI.jG s hp) ⟨p,rfl,hp,s.free hp,_,av,ra⟩⟩
 ·cases e
  cases rs with
  |cons r rr=>cases rr;obtain⟨a,us,rfl,qa,ra⟩:=ja s r;exact⟨a,us,rfl,.inr (.inl (.inl qa)),fun p hp=>k _ _ _ (aI.jG s hp) ⟨p,rfl,hp,s.free hp,_,av,ra⟩⟩
 ·cases e
theorem A7{K:PySem.W.Frag}:CallD (fun xs H Q=>∃p ys,xs=[.ref p]/\((SqL K H p ys/\∀l,H l=none->Q (.ref l) (upd H l (.tup ys)))\/(SqT K H p ys/\Q (.ref p) H))) Dm.lB:=by
 intro H0 H vs ds z Q s rs e k;unfold Dm.lB at e;split at e
 ·cases e
  cases rs with
  |cons r rr=>cases rr;obtain⟨a,us,rfl,qa,ra⟩:=aX s r;refine⟨a,us,rfl,.inl ⟨.inl qa,fun p hp=>?_⟩⟩;have g:=aI.EF (o:=HO.tup us) s hp;exact k _ _ _ g (.tup av (ra.mono g.s0))
 ·cases e
  cases rs with
  |cons r rr=>
   cases rr;rcases r with r | ⟨a,_,w⟩
   ·cases r with
    |tup q rs=>exact⟨_,_,rfl,.inr ⟨.inl (.inl (s _ _ q)),k _ H0 H (aI.refl s) (.tup q rs)⟩⟩
   ·exact False.elim w
 ·cases e
noncomputable abbrev DS(X:Cx)(st:Stmt)(f:Dm.FS):Prop:=PS X st (tDS f)
noncomputable abbrev DSs(X:Cx)(st:List Stmt)(f:Dm.FS):Prop:=PSs X st (tDS f)
noncomputable abbrev DI(X:Cx)(tg it:Expr)(f:Dm.FI):Prop:=PI X tg it (tDI f)
theorem PI.weak{X:Cx}{tg it:Expr}{t t':TI}(h:PI X tg it t)(k:∀σ H R,t' σ H R->t σ H R):PI X tg it t':=fun pins s σ H R I q=>h pins s σ H R I (k σ H R q)
section
variable{X:Cx}{a b c e:Expr}{fa fb fc f:Dm.FE}{pos:Pos}
theorem d_v(i:Nat){x:Str}(hN:X.N[i]?=some x:=by rfl)(hv:Vis X.env.scope x:=by first | exact Or.inl rfl | exact Or.inr (Or.inl rfl) | exact Or.inr (Or.inr rfl))(hd:(x == ("__debug__" : Str))=false:=by decide)
  (hcd:(x == ("__classdict__" : Str))=false:=by decide):DE X (.Name x pos) (Dm.eV i):=PE.weak (dO hN hv hd hcd) fun _ _ _=>L7
theorem d_i{i:Int}{j}:DE X (.Constant (.int i) j pos) (Dm.eC (.int i)):=PE.weak Aa fun _ _ _=>i6 fun _=>.int i
theorem d_b{v:Bool}{j}:DE X (.Constant (.bool v) j pos) (Dm.eC (.bl v)):=PE.weak LI fun _ _ _=>i6 fun _=>.bl v
theorem d_n{j}:DE X (.Constant .none j pos) (Dm.eC .non):=PE.weak Iv fun _ _ _=>i6 fun _=>.non
theorem d_s{s:List Nat}{x:Str}{j}(hx:x=⟨s.toArray⟩:=by rfl):DE X (.Constant (.str x) j pos) (Dm.eC (.str s)):=by subst hx;exact PE.weak Iw fun _ _ _=>i6 fun _=>.str s
theorem d_g{x:Str}{i:Int}{t:Tok}(hg:Gl X x)(hm:X.mg x=some (.int i t))(hd:(x == ("__debug__" : Str))=false:=by decide):DE X (.Name x pos) (Dm.eC (.int i)):=
 PE.weak (Ej (v:=.int i) hg hm ⟨t,rfl⟩ hd) fun _ _ _=>i6 fun _=>.int i
theorem vf{op:Operator}{r:R2}{g:Dm.Dat->Dm.Dat->Option Dm.RV}(o:OpR X (binaryOp op) r)(od:OpD r g)(ha:DE X a fa)(hb:DE X b fb):DE X (.BinOp a op b pos) (Dm.e2 g fa fb):=
 PE.weak (LP o ha hb) fun _ _ _=>u_ od
theorem bq(ha:DE X a fa)(hb:DE X b fb):DE X (.BinOp a .Add b pos) (Dm.e2 Dm.bG fa fb):=vf EO JB ha hb
theorem lI(ha:DE X a fa)(hb:DE X b fb):DE X (.BinOp a .Sub b pos) (Dm.e2 Dm.iU fa fb):=vf IS Jx ha hb
theorem fF(ha:DE X a fa)(hb:DE X b fb):DE X (.BinOp a .Mult b pos) (Dm.e2 Dm.gb fa fb):=vf ER JC ha hb
theorem G1(ha:DE X a fa)(hb:DE X b fb):DE X (.BinOp a .FloorDiv b pos) (Dm.e2 Dm.u7 fa fb):=vf A3 JA ha hb
theorem fG(ha:DE X a fa)(hb:DE X b fb):DE X (.BinOp a .Mod b pos) (Dm.e2 Dm.gf fa fb):=vf IU Jy ha hb
theorem jb(ha:DE X a fa)(hb:DE X b fb):DE X (.BinOp a .Pow b pos) (Dm.e2 Dm.gw fa fb):=vf IV Jz ha hb
theorem lJ{op:CmpOp}{r:R2}{g:Dm.Dat->Dm.Dat->Option Dm.RV}(o:OpR X (compareOp op) r)(od:OpD r g)(ha:DE X a fa)(hb:DE X b fb)(hm:behindInMarks op b=false):DE X (.Compare a [op] [b] pos) (Dm.e2 g fa fb):=
 PE.weak (Eo o ha hb hm) fun _ _ _=>u_ od
theorem j8{op:CmpOp}{r:R2}{g:Dm.Dat->Dm.Dat->Option Dm.RV}(o:OpR X (compareOp op) r)(od:OpD r g)(ha:DE X a fa)(hb:DE X b fb)(hm:behindInMarks op b=false):DT X (.Compare a [op] [b] pos) (Dm.tV (Dm.e2 g fa fb)):=
 PT.weak (Ep o ha hb hm) fun σ H Q h=>u_ od (qk h)
theorem OU{k:Nat}(hr:bA k X.A)(ha:DE X a fa)(hb:DE X b fb):DE X (.Compare a [.Eq] [b] pos) (Dm.e2 Dm.gEq fa fb):=lJ (A1 hr) GZ ha hb (cz _)
theorem OV{k:Nat}(hr:bA k X.A)(ha:DE X a fa)(hb:DE X b fb):DE X (.Compare a [.NotEq] [b] pos) (Dm.e2 Dm.gNe fa fb):=lJ (A2 hr) G0 ha hb (cz _)
theorem OW(ha:DE X a fa)(hb:DE X b fb):DE X (.Compare a [.Lt] [b] pos) (Dm.e2 Dm.gLt fa fb):=lJ wL xq ha hb (cz _)
theorem OX(ha:DE X a fa)(hb:DE X b fb):DE X (.Compare a [.LtE] [b] pos) (Dm.e2 Dm.gLe fa fb):=lJ wM xr ha hb (cz _)
theorem OY(ha:DE X a fa)(hb:DE X b fb):DE X (.Compare a [.Gt] [b] pos) (Dm.e2 Dm.gGt fa fb):=lJ GP GX ha hb (cz _)
theorem Mv{k:Nat}(hr:bA k X.A)(ha:DE X a fa)(hb:DE X b fb)(hm:behindInMarks .NotIn b=false:=by rfl):DE X (.Compare a [.NotIn] [b] pos) (Dm.e2 Dm.jE fa fb):=lJ (zg hr) A6 ha hb hm
theorem kO{k:Nat}(hr:bA k X.A)(ha:DE X a fa)(hb:DE X b fb):DT X (.Compare a [.Eq] [b] pos) (Dm.tV (Dm.e2 Dm.gEq fa fb)):=j8 (A1 hr) GZ ha hb (cz _)
theorem gg{k:Nat}(hr:bA k X.A)(ha:DE X a fa)(hb:DE X b fb):DT X (.Compare a [.NotEq] [b] pos) (Dm.tV (Dm.e2 Dm.gNe fa fb)):=j8 (A2 hr) G0 ha hb (cz _)
theorem Mw(ha:DE X a fa)(hb:DE X b fb):DT X (.Compare a [.Lt] [b] pos) (Dm.tV (Dm.e2 Dm.gLt fa fb)):=j8 wL xq ha hb (cz _)
theorem A8(ha:DE X a fa)(hb:DE X b fb):DT X (.Compare a [.Gt] [b] pos) (Dm.tV (Dm.e2 Dm.gGt fa fb)):=j8 GP GX ha hb (cz _)
theorem Mx(ha:DE X a fa)(hb:DE X b fb):DT X (.Compare a [.GtE] [b] pos) (Dm.tV (Dm.e2 Dm.gGe fa fb)):=j8 LU Mr ha hb (cz _)
theorem OZ{k:Nat}(hr:bA k X.A)(ha:DE X a fa)(hb:DE X b fb)(hm:behindInMarks .In b=false:=by rfl):DT X (.Compare a [.In] [b] pos) (Dm.tV (Dm.e2 Dm.gIn fa fb)):=j8 (Jw hr) Mt ha hb hm
theorem aL(ha:DE X a fa)(hb:DE X b fb)(hs:qe b:=by intro _ _;rfl):DE X (.Subscript a b pos) (Dm.e2 Dm.gIx fa fb):=PE.weak (GR (wU.or Jc) ha hb hs) fun _ _ _=>u_ Mu
theorem af:DA X [] []:=PA.weak uV fun _ _ _=>L8
theorem aa{es:List Expr}{fs:List Dm.FE}(h:DE X e f)(r:DA X es fs)(hs:starEach (e::es) X.env=(false,eval e X.env)::starEach es X.env:=by rfl):DA X (e::es) (f::fs):=PA.weak (qc h r hs) fun _ _ _=>Jm
theorem eT{es:List Expr}{fs:List Dm.FE}{x1}(h:DA X es fs):DE X (.Tuple es x1 pos) (Dm.e_ fs):=PE.weak (I0 h) fun _ _ _=>L_
theorem bX{es:List Expr}{fs:List Dm.FE}(h:DA X es fs):DE X (.List es pos) (Dm.cT fs):=PE.weak (As h) fun _ _ _=>Ma
theorem rX{es:List Expr}{fs:List Dm.FE}{r:List V->Hp->VK->Prop}{g:List Dm.Dat->Option Dm.RV}{x:Str}{id:String}{p:Pos}(hc:cN X (.builtin id) r)(cd:CallD r g)(hv:bootBuiltins x=some (.builtin id))(hg:Gl X x)(hm:X.mg x=none)(ha:DA X (e::es) fs)
  (hn:x ≠ "__name__" := by decide) (hdb:(x == ("__debug__" : Str))=false:=by decide) (he:starEach (e::es) X.env=(false,eval e X.env)::starEach es X.env:=by rfl) (hpl:(backTo pos (starEach es X.env)).any (·.1)=false:=by rfl) :
  DE X (.Call (.Name x p) (e::es) [] pos) (Dm.eB g fs):=PE.weak (rJ hc hg hm hv ha hn hdb he hpl) fun _ _ _=>Jo cd
theorem EV{es:List Expr}{fs:List Dm.FE}{r:List V->Hp->VK->Prop}{g:List Dm.Dat->Option Dm.RV}{x:Str}{T:String}{p:Pos}(hc:cN X (.type T) r)(cd:CallD r g)(hv:bootBuiltins x=some (.type T))(hg:Gl X x)(hm:X.mg x=none)(ha:DA X (e::es) fs)
  (hn:x ≠ "__name__" := by decide) (hdb:(x == ("__debug__" : Str))=false:=by decide) (he:starEach (e::es) X.env=(false,eval e X.env)::starEach es X.env:=by rfl) (hpl:(backTo pos (starEach es X.env)).any (·.1)=false:=by rfl) :
  DE X (.Call (.Name x p) (e::es) [] pos) (Dm.eB g fs):=PE.weak (yX hc hg hm hv ha hn hdb he hpl) fun _ _ _=>Jo cd
variable{es:List Expr}{fs:List Dm.FE}{p:Pos}
theorem jc(hg:Gl X "len")(hm:X.mg "len" = none)(ha:DA X [e] fs)(he:starEach [e] X.env=[(false,eval e X.env)]:=by rfl)(hpl:(backTo pos (starEach [] X.env)).any (·.1)=false:=by rfl):DE X (.Call (.Name "len" p) [e] [] pos) (Dm.eB Dm.fu fs):=rX qg JD PySem.boot_len hg hm ha (he:=he) (hpl:=hpl)
theorem lK(hc:X.calm=true)(hg:Gl X "min")(hm:X.mg "min" = none)(ha:DA X [a,b] fs)(he:starEach [a,b] X.env=(false,eval a X.env)::starEach [b] X.env:=by rfl)(hpl:(backTo pos (starEach [b] X.env)).any (·.1)=false:=by rfl):DE X (.Call (.Name "min" p) [a,b] [] pos) (Dm.eB Dm.iZ fs):=rX (yR hc) ES (by rfl) hg hm ha (he:=he) (hpl:=hpl)
theorem qp(hc:X.calm=true)(hg:Gl X "max")(hm:X.mg "max" = none)(ha:DA X [a,b] fs)(he:starEach [a,b] X.env=(false,eval a X.env)::starEach [b] X.env:=by rfl)(hpl:(backTo pos (starEach [b] X.env)).any (·.1)=false:=by rfl):DE X (.Call (.Name "max" p) [a,b] [] pos) (Dm.eB Dm.j5 fs):=rX (yQ hc) ET (by rfl) hg hm ha (he:=he) (hpl:=hpl)
theorem qq(hg:Gl X "list")(hm:X.mg "list" = none)(ha:DA X [e] fs)(he:starEach [e] X.env=[(false,eval e X.env)]:=by rfl)(hpl:(backTo pos (starEach [] X.env)).any (·.1)=false:=by rfl):DE X (.Call (.Name "list" p) [e] [] pos) (Dm.eB Dm.j7 fs):=EV qh EU (by rfl) hg hm ha (he:=he) (hpl:=hpl)
theorem EW(hg:Gl X "tuple")(hm:X.mg "tuple" = none)(ha:DA X [e] fs)(he:starEach [e] X.env=[(false,eval e X.env)]:=by rfl)(hpl:(backTo pos (starEach [] X.env)).any (·.1)=false:=by rfl):DE X (.Call (.Name "tuple" p) [e] [] pos) (Dm.eB Dm.lB fs):=EV oB A7 (by rfl) hg hm ha (he:=he) (hpl:=hpl)
theorem az{k:Nat}{F:Addr}{fd:FuncData}{ps:List Str}{g:List Dm.Dat->Option Dm.RV}{x:Str}(G:aO X.prog X.w X.K X.mg X.base CX0 k F fd ps (spD g))(hr:bA k X.A)(hg:Gl X x)(hm:X.mg x=some (.ref F))(hk:PySem.W.keepIn X.K (.ref F)=true)(hb:Binds X.K fd ps [])
  (ha:DA X (e::es) fs) (hdb:(x == ("__debug__" : Str))=false:=by decide) (he:starEach (e::es) X.env=(false,eval e X.env)::starEach es X.env:=by rfl) (hpl:(backTo pos (starEach es X.env)).any (·.1)=false:=by rfl) :
  DE X (.Call (.Name x p) (e::es) [] pos) (Dm.eF g fs):=PE.weak (kR G hr hg hm hk hb .nil (wX (X:=X)) ha hdb he hpl) fun _ _ _=>Jp
theorem zh{t:Dm.FT}{q:Expr}(hq:DT X q t)(ha:DE X a fa)(hb:DE X b fb):DE X (.IfExp q a b pos) (Dm.eIf t fa fb):=PE.weak (Ac hq ha hb) fun _ _ _=>OM
theorem o7{op}(h:DE X a fa):DE X (.BoolOp op [a] pos) fa:=IB h
theorem j9{rest:List Expr}(ha:DE X a fa)(hb:DE X (.BoolOp .And (b::rest) pos) fb):DE X (.BoolOp .And (a::b::rest) pos) (Dm.gv fa fb):=PE.weak (IC ha hb) fun _ _ _=>Mb
theorem G3(ha:DE X a fa):DE X (.UnaryOp .Not a pos) (Dm.u5 fa):=PE.weak (ID ha) fun _ _ _=>Mc
noncomputable abbrev DW(X:Cx)(e:Expr)(f:Dm.FT):Prop:=PW X e (tDT f)
theorem PW.weak{t t':TT}(h:PW X e t)(k:∀σ H Q,t' σ H Q->t σ H Q):PW X e t':=fun whole pins s σ H Q I q=>h whole pins s σ H Q I (k σ H Q q)
variable{ta tb:Dm.FT}
theorem vg(h:DT X a ta):DW X (.BoolOp .And [a] pos) ta:=pw_and1 h
theorem lM(h:DT X a ta):DW X (.BoolOp .Or [a] pos) ta:=pw_or1 h
theorem w_and{rest:List Expr}(ha:DT X a ta)(hb:DW X (.BoolOp .And (b::rest) pos) tb):DW X (.BoolOp .And (a::b::rest) pos) (Dm.kJ ta tb):=PW.weak (pw_and ha hb) fun _ _ _=>Jr
theorem w_or{rest:List Expr}(ha:DT X a ta)(hb:DW X (.BoolOp .Or (b::rest) pos) tb):DW X (.BoolOp .Or (a::b::rest) pos) (Dm.tOr ta tb):=PW.weak (pw_or ha hb) fun _ _ _=>Me
theorem t_w(h:DW X a ta):DT X a ta:=h.pt
theorem b8(h:DT X a ta):DT X (.UnaryOp .Not a pos) (Dm.cy ta):=PT.weak (IA h) fun _ _ _=>Jq
theorem b9(h:DE X e f)(he:∀whole,isTrue e X.env whole=(do let v <- whole;standAt e.pos;holding [v] (truthy v)):=by intro _;rfl):DT X e (Dm.tV f):=PT.weak (Iz h he) fun _ _ _=>qk
variable{tg:Expr}
theorem kP(hg:Gl X "range")(hm:X.mg "range" = none)(ha:DA X [a] [fa])(hs:starEach [a] X.env=[(false,eval a X.env)]:=by rfl):DI X tg (.Call (.Name "range" p) [a] [] pos) (Dm.iR1 fa):=
 PI.weak (yN hg hm ha hs) fun _ _ _=>Mm
theorem My(hg:Gl X "range")(hm:X.mg "range" = none)(ha:DA X [a,b] [fa,fb])(hs:starEach [a,b] X.env=[(false,eval a X.env),(false,eval b X.env)]:=by rfl)(hs2:starEach [b] X.env=[(false,eval b X.env)]:=by rfl):DI X tg (.Call (.Name "range" p) [a,b] [] pos) (Dm.iR2 fa fb):=
 PI.weak (yO hg hm ha hs hs2) fun _ _ _=>Mn
end
section
variable{X:Cx}{st:Stmt}{rest:List Stmt}{fs gs:Dm.FS}{e a b c:Expr}{f fa fb:Dm.FE}{pos:Pos}
theorem aQ:DSs X [] Dm.sNx:=PSs.weak wI fun _ _ _=>ON
theorem ah(h1:DS X st fs)(h2:DSs X rest gs):DSs X (st::rest) (Dm.ao fs gs):=PSs.weak (iP h1 h2) fun _ _ _=>Mg
theorem aj(h1:DS X st fs):DSs X [st] fs:=wJ h1
theorem s_a(i:Nat){x:Str}{pos':Pos}(hN:X.N.Nodup)(he:DE X e f)(hi:X.N[i]?=some x:=by rfl)(hx:Loc X.env.scope x:=by first | exact Or.inl rfl | exact Or.inr rfl)(hs:swapsWith e (some (.Name x pos')) pos.line X.env=pure false:=by rfl)
  (hf:X.fn x=true\/X.env.scope.names.lookup x=some .local:=by first | exact .inl rfl | exact .inr rfl | assumption):DS X (.Assign [.Name x pos'] e pos) (Dm.sA i f):=PS.weak (IL hN hi hx he hs hf) fun _ _ _=>AX
theorem fH:PGs X [] (fC []):=El
theorem aU{es:List Expr}{is:List Nat}(i:Nat){x:Str}{px:Pos}(hN:X.N.Nodup)(h2:PGs X es (fC is))(hi:X.N[i]?=some x:=by rfl)(hx:Loc X.env.scope x:=by first | exact Or.inl rfl | exact Or.inr rfl)
  (hf:X.fn x=true\/X.env.scope.names.lookup x=some .local:=by first | exact .inl rfl | exact .inr rfl | assumption) (hs:(assignEach (.Name x px::es) X.env).map (·.2)=assign (.Name x px) X.env::(assignEach es X.env).map (·.2):=by rfl):PGs X (.Name x px::es) (fC (i::is)):=Af (p_ hN hi hx hf) h2 hs
theorem s_e(he:DE X e f)(hs:swapsWith e none pos.line X.env=pure false:=by rfl):DS X (.Expr e pos) (Dm.sE f):=PS.weak (iQ he hs) fun _ _ _=>Js
theorem s_r(he:DE X e f):DS X (.Return (some e) pos) (Dm.sR f):=PS.weak (IE he) fun _ _ _=>Mh
theorem bC{t:Dm.FT}{x y:List Stmt}(ht:DT X c t)(ha:DSs X x fs)(hb:DSs X y gs):DS X (.If c x y pos) (Dm.sIf t fs gs):=PS.weak (GK ht ha hb) fun _ _ _=>Mi
theorem kW:DS X st (fun _=>none):=PS.weak Ae fun _ _ _ ⟨_,_,_,_,z,_⟩=>by cases z
theorem lO(i:Nat){x:Str}{px ap cp:Pos}(he:DE X e f)(hi:X.N[i]?=some x:=by rfl)(hv:Vis X.env.scope x:=by first | exact Or.inl rfl | exact Or.inr (Or.inl rfl) | exact Or.inr (Or.inr rfl))(hd:(x == ("__debug__" : Str))=false:=by decide)
  (hcd:(x == ("__classdict__" : Str))=false:=by decide) (hbase:attributeBase (.Name x px) "append" X.env (eval (.Name x px) X.env)=eval (.Name x px) X.env:=by rfl)
  (hfew:((backTo cp (starEach [e] X.env)).all (fun x=>!x.1)&&(backToKw cp (keywordEach [] X.env)).all (fun x=>x.1.isSome)
   && decide ([e].length+([]:List Keyword).length+(if ([]:List Keyword).isEmpty then 0 else 1)<30))=true:=by rfl)
  (hline:(ap.endLine == cp.line)=true:=by rfl) (hs:starEach [e] X.env=(false,eval e X.env)::starEach [] X.env:=by rfl) (hplain:(backTo cp (starEach [] X.env)).any (·.1)=false:=by rfl)
  (hsw:swapsWith (.Call (.Attribute (.Name x px) "append" ap) [e] [] cp) none pos.line X.env=pure false:=by rfl) :
  DS X (.Expr (.Call (.Attribute (.Name x px) "append" ap) [e] [] cp) pos) (Dm.kL i f):=
 PS.weak (iQ (wV PySem.F.plainAttrs_list PySem.F.slot_list_append PySem.F.type_list_append jA (dO hi hv hd hcd) (aa he af hs) hbase hfew hline hs hplain) hsw) fun _ _ _=>Mj
theorem G4(i:Nat){x:Str}{j:Expr}{fj:Dm.FE}{px sp:Pos}(hj:DE X j fj)(he:DE X e f)(hi:X.N[i]?=some x:=by rfl)(hv:Vis X.env.scope x:=by first | exact Or.inl rfl | exact Or.inr (Or.inl rfl) | exact Or.inr (Or.inr rfl))(hd:(x == ("__debug__" : Str))=false:=by decide)
  (hcd:(x == ("__classdict__" : Str))=false:=by decide) (ha:∀ v,assign (.Subscript (.Name x px) j sp) X.env v=(do
   let ov <- holding [v] (eval (.Name x px) X.env)
   let iv <- holding [v,ov] (eval j X.env)
   standAt sp
   holding [v,ov,iv] (setItem ov iv v)
   release [v,ov,iv] []):=by intro _;rfl)
  (hs:swapsWithSole [.Subscript (.Name x px) j sp] e pos.line X.env=pure false:=by rfl) (hw:swappedStores [.Subscript (.Name x px) j sp] e X.env=pure none:=by rfl) (h1:(assignEach [.Subscript (.Name x px) j sp] X.env).map (·.2)=[assign (.Subscript (.Name x px) j sp) X.env]:=by rfl) :
  DS X (.Assign [.Subscript (.Name x px) j sp] e pos) (Dm.u6 i fj f):=PS.weak (IK he (IJ (dO hi hv hd hcd) hj set_list ha) hs hw h1) fun _ _ _=>Mk
theorem EX(n:Nat){t:Dm.FT}{body:List Stmt}(hp:PassesOwn (model X.prog X.w) X.A X.env X.xe)(ht:DT X c t)(hb:DSs X body fs):DS X (.While c body [] pos) (Dm.whD t fs n):=PS.weak (Ai hp ht hb) fun _ _ _=>EG
structure TG'(X:Cx)(tg:Expr)(is:List Nat)(bd:Dm.FB):Prop where
 ex:∃g,PG X tg g/\BD is g bd
theorem g_n(i:Nat){x:Str}{px:Pos}(hN:X.N.Nodup)(hi:X.N[i]?=some x:=by rfl)(hx:Loc X.env.scope x:=by first | exact Or.inl rfl | exact Or.inr rfl)(hf:X.fn x=true\/X.env.scope.names.lookup x=some .local:=by first | exact .inl rfl | exact .inr rfl | assumption) :
  TG' X (.Name x px) [i] (Dm.bN i):=⟨⟨_,p_ hN hi hx hf,xh i⟩⟩
theorem g_t{is:List Nat}{es:List Expr}{k:Nat}{tpos:Pos}(hc:X.calm=true)(hg:PGs X es (fC is))(hn:(assignEach es X.env).length=is.length:=by rfl)(hst:(assignEach es X.env).findIdx? (·.1)=none:=by rfl):TG' X (.Tuple es k tpos) is (Dm.bT is):=
 ⟨⟨_,Ag hc hg hn hst,AY is rfl⟩⟩
theorem bY{tg it:Expr}{fi:Dm.FI}{is:List Nat}{bd:Dm.FB}{body:List Stmt}(hp:PassesOwn (model X.prog X.w) X.A X.env X.xe)(hc:X.calm=true)(hi:DI X tg it fi)(hg:TG' X tg is bd)(hb:DSs X body fs)
  (hs:∀x,foldedSetIterable it X.env x=pure x:=by intro _;rfl):DS X (.For tg it body [] pos) (Dm.cU fi bd fs):=by
 obtain⟨g,h1,h2⟩:=hg.ex;exact PS.weak (Al hp hc hi h1 hb hs) fun _ _ _=>Ml h2
end
noncomputable def tyName:Dm.Dat->String
 |.non => "NoneType"
 |.bl _ => "bool"
 |.int _ => "int"
 |.str _ => "str"
 |.tup _ => "tuple"
 |.lst _ => "list"
 |.dct _ _ => "dict"
 |.exc _ => "dict"
 |.fn _ => "dict"
noncomputable def zj(T:String)(p:Dm.Dat->Bool):Prop:=∀(K:PySem.W.Frag) (d:Dm.Dat),PySem.W.kitOne K (.type (tyName d)) (.type T)=some (p d)
theorem xw:zj "int" Dm.isI:=fun K d=>by cases d<;>rfl
theorem rY:zj "bool" Dm.isB:=fun K d=>by cases d<;>rfl
theorem rZ:zj "list" Dm.isL:=fun K d=>by cases d<;>rfl
theorem kit_tuple:zj "tuple" Dm.isT:=fun K d=>by cases d<;>rfl
theorem A9{K:PySem.W.Frag}{H:Hp}{v:V}{d:Dm.Dat}(r:Rep H v d)(nx:∀C,d≠.exc C/\d≠.fn C):iW K H v (.type (tyName d)):=by
 cases r with
 |non=>exact .non
 |bl b=>exact .bl b
 |int i=>exact .int i
 |str s=>exact .str _
 |tup q _=>exact .tup q
 |lst q _=>
  rcases q with q | ⟨o,q⟩
  ·exact .lst q
  ·exact .frz q
 |dct q _ _=>exact .dK q
 |exc _=>exact absurd rfl (nx _).1
 |fn _=>exact absurd rfl (nx _).2
noncomputable def Mz(K:PySem.W.Frag)(T:String):List V->Hp->VK->Prop:=fun xs H Q=>∃x t b,xs=[x,.ty T]/\iW K H x t/\PySem.W.kitOne K t (.type T)=some b/\Q (.bl b) H
section
variable{X:Cx}{e:Expr}{f:Dm.FE}{p p2 pos:Pos}
theorem A_{T:String}:cN X (.builtin "isinstance") (Mz X.K T):=by intro pins s σ H xs us Q I r h;obtain⟨x,t,b,rfl,ty,e,q⟩:=h;obtain⟨u,u2,rfl,rx,ry⟩:=vals2 r;cases ry;exact yU I rx ty e fun tk=>⟨.bl b,H,I.tok tk,rfl,q⟩
theorem MA{K:PySem.W.Frag}{T:String}{p:Dm.Dat->Bool}(kp:zj T p){σ:L2.St}{H:Hp}{Q:VK}(h:tD (Dm.e1 (Dm.kM p) f) σ H Q):tCB (Mz K T) (wN (tD f) (wN (tC (.ty T)) Ar)) σ H Q:=by
 obtain⟨H0,ρ,x,ρ',st,e,k⟩:=h;unfold Dm.e1 at e;split at e
 ·cases e
 rename_i x1 ρ1 e1;split at e
 ·cases e
 rename_i dx p1;have nx:∀C,dx≠.exc C/\dx≠.fn C:=fun C=>⟨fun z=>(by subst z;cases e),fun z=>(by subst z;cases e)⟩
 have ev:Dm.kM p dx=Dm.vB (p dx):=by cases dx<;>first | rfl | exact absurd rfl (nx _).1 | exact absurd rfl (nx _).2
 rw[ev]at e;dsimp only at e;cases e;refine⟨H0,ρ,x1,_,st,e1,fun v H1 Hb t1 r1=>?_⟩;exact⟨v,_,_,rfl,A9 ((r1.look t1.st p1).full t1.st.same) nx,kp K dx,k _ H1 Hb t1 (Rep.bl _)⟩
theorem jd{T:String}{tn:Str}{p':Dm.Dat->Bool}(kp:zj T p')(hvT:bootBuiltins tn=some (.type T))(hgT:Gl X tn)(hmT:X.mg tn=none)(hg:Gl X "isinstance")(hm:X.mg "isinstance" = none)(h:DE X e f)
  (hn:tn ≠ "__name__" := by decide) (hdb:(tn == ("__debug__" : Str))=false:=by decide)
  (he:starEach [e,.Name tn p2] X.env=(false,eval e X.env)::starEach [.Name tn p2] X.env:=by rfl) (hpl:(backTo pos (starEach [.Name tn p2] X.env)).any (·.1)=false:=by rfl) (he2:starEach [.Name tn p2] X.env=(false,eval (.Name tn p2) X.env)::starEach [] X.env:=by rfl) :
  DE X (.Call (.Name "isinstance" p) [e,.Name tn p2] [] pos) (Dm.e1 (Dm.kM p') f):=
 PE.weak (rJ A_ hg hm PyProof.Rows.boot_isinstance (qc h (qc (Ek (v:=.ty T) hgT hmT hvT rfl hn hdb) uV he2) he) (he:=he) (hpl:=hpl)) fun _ _ _=>MA kp
theorem all_range(bs:List Bool):(List.range bs.length).all (fun i=>bs.getD i true)=bs.all id:=by
 rw[Bool.eq_iff_iff,List.all_eq_true,List.all_eq_true];constructor
 ·intro h b hb
  obtain⟨i,hi,rfl⟩:=List.mem_iff_getElem.mp hb;have:=h i (List.mem_range.mpr hi);rw[List.getD_eq_getElem?_getD,List.getElem?_eq_getElem hi]at this;exact this
 ·intro h i hi
  have hi:=List.mem_range.mp hi;rw[List.getD_eq_getElem?_getD,List.getElem?_eq_getElem hi];exact h _ (List.getElem_mem hi)
theorem zk(hc:X.calm=true):cN X (.builtin "all") (fun xs H Q=>∃(a:Addr) (bs:List Bool),xs=[.ref a]/\Rd H a (.lst (bs.map V.bl))/\Q (.bl (bs.all id)) H):=by
 intro pins s σ H xs us Q I r h;obtain⟨a,bs,rfl,hq,q⟩:=h;obtain⟨u,rfl,rx⟩:=vals1 r;cases rx;obtain⟨z,its,n,rv,e⟩:=hq.ok I.hok;have hl:s.heap.IsList a its.toArray:=⟨_,e,rfl,_,rfl⟩
 have hlen:=rv.length;rw[List.length_map]at hlen;have hax:a≠s.heap.objs.size:=Nat.ne_of_lt (Heap.lt_size e);refine PySem.call_all_walk (wpAny_pyIter_list hl ⟨s.heap.objs.size,_,_,_,_,_,fun i=>bs.getD i true,rfl,Walks.list (A:=X.A.in1) (I.ok.hd hc) s.heap.objs.size a hax its.toArray,⟨⟨_,Heap.get?_push_size _ rfl,rfl,rfl⟩,hl.push _⟩,?_,fun h' tk hk=>?_⟩)
 ·intro i v s' Q' E' hv hQ'
  have hv':its[i]?=some v:=by simpa using hv
  have hi:i<bs.length:=by rw[hlen];exact(List.getElem?_eq_some_iff.mp hv').1
  have hb:(bs.map V.bl)[i]?=some (V.bl bs[i]):=by rw[List.getElem?_map,List.getElem?_eq_getElem hi];rfl
  obtain⟨u,hu,ru⟩:=rv.get hb;rw[hv']at hu;cases hu;cases ru;refine wpAny_truthy_bool ?_;have e2:bs.getD i true=bs[i]:=by rw[List.getD_eq_getElem?_getD,List.getElem?_eq_getElem hi];rfl
  rw[<- e2];exact hQ'
 ·have e1:its.toArray.size=bs.length:=by rw[List.size_toArray,hlen]
  rw[e1,all_range];refine⟨.bl _,H,I.kept (t':=tk) fun b o eb=>hk b o ?_ (Heap.get?_push_of_some _ eb),rfl,q⟩;intro hm;have:b=s.heap.objs.size:=by simpa using hm
  exact absurd (Heap.lt_size eb) (by rw[this];exact Nat.lt_irrefl _)
end
section
variable{X:Cx}{a b c e:Expr}{f fa fb fc:Dm.FE}{p p2 pos:Pos}
theorem EY{r r':R2}{g h:Dm.Dat->Dm.Dat->Option Dm.RV}(o1:OpD r g)(o2:OpD r' h){σ:L2.St}{H:Hp}{Q:VK}(hh:tD (Dm.lC g h fa fb fc) σ H Q):An r r' (tD fa) (tD fb) (tD fc) σ H Q:=by
 obtain⟨H0,ρ,x,ρ',st,e,k⟩:=hh;unfold Dm.lC at e;split at e
 ·cases e
 rename_i x1 ρ1 e1;split at e
 ·cases e
 rename_i y1 ρ2 e2;split at e
 ·cases e
 rename_i dx p1;split at e
 ·cases e
 rename_i dy p2;refine⟨H0,ρ,x1,ρ1,st,e1,fun v H1 Hb t1 r1=>⟨H1,ρ1,y1,ρ2,t1.st,e2,fun u H2 Hc t2 r2=>?_⟩⟩;split at e
 ·rename_i gz
  refine o1 H2 Hc v u dx dy _ _ t2.st.same ((r1.mono t2).look t2.st p1) (r2.look t2.st p2) gz fun w H3 Hd g3 r3=>?_
  refine⟨true,Rep.i7 r3,?_⟩;rw[if_pos rfl];have t3:=t2.trans (.grow t2.st g3);have r2':=r2.mono (.grow t2.st g3);split at e
  ·cases e
  rename_i z ρ3 e3;split at e
  ·cases e
  rename_i dy' p3;split at e
  ·cases e
  rename_i dz p4;split at e
  ·cases e
  rename_i w2 hz;cases e;refine⟨H3,ρ2,z,_,t3.st,e3,fun w' H4 He t4 r4=>?_⟩;refine o2 H4 He u w' dy' dz w2 Q t4.st.same ((r2'.mono t4).look t4.st p3) (r4.look t4.st p4) hz fun w5 H5 Hf g5 r5=>?_
  exact k w5 H5 Hf (t1.trans (t3.trans (t4.trans (.grow t4.st g5)))) ((r5.toV t4.st).early fun a n=>(t1.trans (t3.trans t4)).stp.gone n)
 ·rename_i gz
  cases e;refine o1 H2 Hc v u dx dy _ _ t2.st.same ((r1.mono t2).look t2.st p1) (r2.look t2.st p2) gz fun w H3 Hd g3 r3=>?_
  refine⟨false,Rep.i7 r3,?_⟩;rw[if_neg Bool.false_ne_true];exact k _ H3 Hd (t1.trans (t2.trans (.grow t2.st g3))) (Rep.bl false)
 ·cases e
theorem EZ{op op':CmpOp}{r r':R2}{g h:Dm.Dat->Dm.Dat->Option Dm.RV}(o1:OpR X (compareOp op) r)(q1:OpD r g)(o2:OpR X (compareOp op') r')(q2:OpD r' h)(ha:DE X a fa)(hb:DE X b fb)(hc:DE X c fc)
  (hm:lastMarks [op,op'] [b,c]=false:=by with_unfolding_all rfl):DE X (.Compare a [op,op'] [b,c] pos) (Dm.lC g h fa fb fc):=PE.weak (Ao o1 o2 ha hb hc hm) fun _ _ _=>EY q1 q2
theorem Ba(n d:Nat)(o:Option Int)(hd:d<=n):HT.sIx n d o=Dm.sIx n d o:=by
 cases o with
 |none=>rfl
 |some v=>
  unfold HT.sIx Dm.sIx
  first
   |rfl
   |(dsimp only;split<;>omega)
theorem zl{H0:Hp}{xs:List V}{ds:List Dm.Dat}(rs:aB H0 xs ds)(lo hi:Option Int):aB H0 (uW xs lo hi) (Dm.cut ds lo hi):=by unfold uW Dm.cut;rw[rs.length,Ba _ _ _ (Nat.zero_le _),Ba _ _ _ (Nat.le_refl _)];exact(rs.drop _).take _
theorem xx{fo:Option Dm.FE}{σ:L2.St}{H0 H:Hp}{ρ ρ':Dm.Env}{o:Option Int}{Q:Option Int->Hp->Prop}(st:aD H0 H σ ρ)(e:Dm.part fo ρ=some (o,ρ'))(k:∀H0' H',ESt σ ρ H0 H ρ' H0' H'->Q o H') :
  (match fo with | none=>qd | some f=>Au (tD f)) σ H Q:=by
 cases fo with
 |none=>cases e;exact k H0 H (.refl st)
 |some f=>
  unfold Dm.part at e;dsimp only at e;split at e
  ·rename_i i ρ1 e1
   cases e;exact⟨H0,ρ,_,_,st,e1,fun v H1 Hb t1 r1=>⟨i,Rep.isInt r1,k H1 Hb t1⟩⟩
  ·cases e
noncomputable abbrev tOf(fo:Option Dm.FE):TO:=match fo with | none=>qd | some f=>Au (tD f)
theorem O0{K:PySem.W.Frag}{lo hi:Option Dm.FE}{σ:L2.St}{H:Hp}{Q:VK}(h:tD (Dm.eSl f lo hi) σ H Q):tSl (LY K) (tD f) (tOf lo) (tOf hi) σ H Q:=by
 obtain⟨H0,ρ,x,ρ',st,e,k⟩:=h;unfold Dm.eSl at e;split at e
 ·cases e
 rename_i x1 ρ1 e1;split at e
 ·cases e
 rename_i l ρ2 e2;split at e
 ·cases e
 rename_i hh ρ3 e3;split at e
 ·rename_i ds p1
  cases e;refine⟨H0,ρ,x1,ρ1,st,e1,fun v H1 Hb t1 r1=>?_⟩;refine xx t1.st e2 fun H2 Hc t2=>?_
  refine xx t2.st e3 fun H3 Hd t3=>?_
  have tt:=t1.trans (t2.trans t3);obtain⟨a,xs,rfl,qa,ra⟩:=aX t3.st.same ((r1.mono (t2.trans t3)).look t3.st p1);refine⟨a,xs,rfl,.inl qa,fun q hq=>?_⟩;have g:=aI.jG (o:=HO.lst (uW xs l hh)) t3.st.same hq;refine k _ _ _ (tt.trans (.grow t3.st g)) ⟨q,rfl,tt.stp.gone hq,t3.st.bJ hq,t3.st.same.free hq,_,av,zl ra l hh⟩
 ·cases e
theorem O3{lo hi:Option Expr}{flo fhi:Option Dm.FE}(h:DE X e f)(hl:PO X lo (tOf flo))(hh:PO X hi (tOf fhi)):DE X (.Subscript e (.Slice lo hi none p2) pos) (Dm.eSl f flo fhi):=PE.weak (Av Ew h hl hh) fun _ _ _=>O0
theorem o_n:PO X none (tOf none):=Eu
theorem o_s(h:DE X e f):PO X (some e) (tOf (some f)):=wO h
end
section
variable{X:Cx}{nm:List Str}{elt tg iter:Expr}{ifs:List Expr}{scope:Scope}{pos:Pos}{own:List Str}{fi:Dm.FI}{bd:Dm.FB}{is:List Nat}{t:Dm.FT}{f:Dm.FE}
noncomputable abbrev DTs(X:Cx)(ifs:List Expr)(t:Dm.FT):Prop:=PTs X ifs (tDT t)
theorem cB:DTs X [] Dm.b7:=fun pins s σ H Q I h=>by obtain⟨H0,ρ,b,ρ',st,e,k⟩:=h;cases e;exact xj pins s σ H Q I (k H0 H (.refl st))
theorem lP{c:Expr}(h:DT X c t):DTs X [c] t:=EJ h
structure TGc(X:Cx)(nm:List Str)(scope:Scope)(own:List Str)(tg:Expr)(is:List Nat)(bd:Dm.FB):Prop where
 ex:∃g,(∀cl C s H fp,PG (aT X nm scope own cl C s H fp) tg g)/\BD is g bd
theorem c_n(i:Nat){x:Str}{px:Pos}(hN:(nm++own).Nodup)(hi:(nm++own)[i]?=some x)(hx:(relabel scope X.env).names.lookup x=some .local):TGc X nm scope own (.Name x px) [i] (Dm.bN i):=
 ⟨⟨_,fun cl C s H fp=>p_ (X:=aT X nm scope own cl C s H fp) hN hi (.inl hx) (.inr hx),xh i⟩⟩
theorem c_t{es:List Expr}{k:Nat}{tpos:Pos}(hc:X.calm=true)(hg:∀cl C s H fp,PGs (aT X nm scope own cl C s H fp) es (fC is))(hn:∀cl C,(assignEach es (compEnvC scope cl C X.env)).length=is.length:=by intro _ _;rfl)
  (hst:∀cl C,(assignEach es (compEnvC scope cl C X.env)).findIdx? (·.1)=none:=by intro _ _;rfl):TGc X nm scope own (.Tuple es k tpos) is (Dm.bT is):=
 ⟨⟨_,fun cl C s H fp=>Ag (X:=aT X nm scope own cl C s H fp) hc (hg cl C s H fp) (hn cl C) (hst cl C),AY is rfl⟩⟩
theorem JE(hc:X.calm=true)(S:cV X nm scope)(hi:DI X tg iter fi)(hg:TGc X nm scope own tg is bd)(ht:∀cl C s H fp,DTs (aT X nm scope own cl C s H fp) ifs t)(he:∀cl C s H fp,DE (aT X nm scope own cl C s H fp) elt f)
  (hl:∀i∈is,X.N.length<=i) (hs:∀x,foldedSetIterable iter X.env x=pure x:=by intro _;rfl):DE X (.ListComp elt [⟨tg,iter,ifs,0⟩] scope pos) (Dm.bV fi own.length bd t f):=by
 obtain⟨g,h1,h2⟩:=hg.ex;intro pins s σ H Q I h;exact xm hc S hi h1 ht he hs pins s σ H Q I (ve h2 (fun i hi=>by rw[I.len];exact hl i hi) h)
theorem JF(j:Nat){y:Str}{py spos:Pos}(hN:X.N.Nodup)(hc:X.calm=true)(S:cV X nm scope)(hi:DI X tg iter fi)(hg:TGc X nm scope own tg is bd)(ht:∀cl C s H fp,DTs (aT X nm scope own cl C s H fp) ifs t)(he:∀cl C s H fp,DE (aT X nm scope own cl C s H fp) elt f)
  (hl:∀i∈is,X.N.length<=i) (hj:X.N[j]?=some y:=by rfl) (hy:Loc X.env.scope y:=by first | exact Or.inl rfl | exact Or.inr rfl)
  (hsw:swapsWith (.ListComp elt [⟨tg,iter,ifs,0⟩] scope pos) (some (.Name y py)) spos.line X.env=pure true:=by rfl) (hs:∀x,foldedSetIterable iter X.env x=pure x:=by intro _;rfl)
  (hf:X.fn y=true\/X.env.scope.names.lookup y=some .local:=by first | exact .inl rfl | exact .inr rfl | assumption):DS X (.Assign [.Name y py] (.ListComp elt [⟨tg,iter,ifs,0⟩] scope pos) spos) (Dm.sA j (Dm.bV fi own.length bd t f)):=by
 obtain⟨g,h1,h2⟩:=hg.ex;intro pins s σ H D I h;exact fD hN hj hy hc S hi h1 ht he hsw hs hf pins s σ H D I (ve h2 (fun i hi=>by rw[I.len];exact hl i hi) (AX h))
end
theorem lQ{H0:Hp}:∀{ds:List Dm.Dat} {bs:List Bool} {vs:List V},aB H0 vs ds->Dm.bools ds=some bs->vs=bs.map V.bl
 |[],bs,vs,r,e=>by cases r;cases e;rfl
 |.bl b::ds,bs,vs,r,e=>by
  cases r with
  |cons r rs=>
   unfold Dm.bools at e;cases q:Dm.bools ds with
   |none=>rw[q]at e;cases e
   |some cs=>rw[q]at e;cases e;cases Rep.i7 r;rw[lQ rs q];rfl
 |.non::ds,bs,vs,r,e=>by cases e
 |.int _::ds,bs,vs,r,e=>by cases e
 |.str _::ds,bs,vs,r,e=>by cases e
 |.tup _::ds,bs,vs,r,e=>by cases e
 |.lst _::ds,bs,vs,r,e=>by cases e
 |.dct _ _::ds,bs,vs,r,e=>by cases e
theorem JG:CallD (fun xs H Q=>∃(a:Addr) (bs:List Bool),xs=[.ref a]/\Rd H a (.lst (bs.map V.bl))/\Q (.bl (bs.all id)) H) Dm.rQ:=by
 intro H0 H vs ds z Q s rs e k;unfold Dm.rQ at e;split at e
 ·split at e
  ·rename_i bs hb
   cases e;cases rs with
   |cons r rr=>cases rr;obtain⟨a,us,rfl,qa,ra⟩:=aX s r;have:=lQ ra hb;subst this;exact⟨a,bs,rfl,qa,k _ H0 H (aI.refl s) (.bl _)⟩
  ·cases e
 ·cases e
theorem JH:CallD (fun xs H Q=>(∃i,xs=[.int i]/\Q (.int i) H)\/∃k,xs=[.bl k]/\Q (.int (if k then 1 else 0)) H) Dm.zc:=by
 intro H0 H vs ds z Q s rs e k;unfold Dm.zc at e;split at e
 ·cases e
  cases rs with
  |cons r rr=>cases rr;cases aC r;exact .inl ⟨_,rfl,k _ H0 H (aI.refl s) (.int _)⟩
 ·cases e
  cases rs with
  |cons r rr=>cases rr;cases xo r;exact .inr ⟨_,rfl,k _ H0 H (aI.refl s) (.int _)⟩
 ·cases e
section
variable{X:Cx}{a b c e:Expr}{f:Dm.FE}{fs:List Dm.FE}{p p2 pos:Pos}
theorem Bb(hc:X.calm=true)(hg:Gl X "all")(hm:X.mg "all" = none)(ha:DA X [e] fs)(he:starEach [e] X.env=[(false,eval e X.env)]:=by rfl)(hpl:(backTo pos (starEach [] X.env)).any (·.1)=false:=by rfl) :
  DE X (.Call (.Name "all" p) [e] [] pos) (Dm.eB Dm.rQ fs):=rX (zk hc) JG (by rfl) hg hm ha (he:=he) (hpl:=hpl)
theorem G5(hg:Gl X "int")(hm:X.mg "int" = none)(ha:DA X [e] fs)(he:starEach [e] X.env=[(false,eval e X.env)]:=by rfl)(hpl:(backTo pos (starEach [] X.env)).any (·.1)=false:=by rfl) :
  DE X (.Call (.Name "int" p) [e] [] pos) (Dm.eB Dm.zc fs):=EV yS JH (by rfl) hg hm ha (he:=he) (hpl:=hpl)
noncomputable def MB(K:PySem.W.Frag)(te:TE):TE:=fun σ H Q=>te σ H fun x H1=>∃a xs,x=.ref a/\SqL K H1 a xs/\∀p,H1 p=none->Q (.ref p) (upd H1 p (.lst xs.reverse))
theorem JI{te:TE}{k p3 p4}(he:PE X e te):PE X (.Subscript e (.Slice none none (some (.UnaryOp .USub (.Constant (.int 1) k p3) p4)) p2) pos) (MB X.K te):=by
 intro pins s σ H Q I h;refine Subscript_ (thn (he pins s σ H _ I h) fun v s1 h1=>?_);obtain⟨x,H1,I1,r1,a,xs,rfl,hx,q⟩:=h1;cases r1;refine wpAny_Slice ?_;rw[evalPart_none];refine wpAny_pure (wpAny_pure ?_);have hstep:=wO (X:=X) (LQ (pos:=p4) IW (Aa (i:=1) (j:=k) (pos:=p3) (X:=X)));refine thn (hstep pins s1 σ H1 (fun o H'=>o=some (-1)/\H'=H1) I1 ⟨_,rfl,_,rfl,rfl,rfl⟩) fun vs s2 h2=>?_
 obtain⟨o,H2,I2,ps,rfl,rfl⟩:=h2;have I3:Inv X pins σ H2 { s2 with heap:=s2.heap.push { cls:=.type "slice",data:=.fields #[.none,.none,vs] } }:=I2.kept (t':=s2.toks) fun b ob q=>Heap.get?_push_of_some _ q
 obtain⟨its,r,ht,hz⟩:=I3.list hx;have hlen:=r.length;have hg:wpAny (model X.prog X.w) X.A (getItem (.ref a) (.ref s2.heap.objs.size)) (EP X pins σ Q) X.xe { s2 with heap:=s2.heap.push { cls:=.type "slice",data:=.fields #[.none,.none,vs] } }:=by refine wpAny_getItem_list_slice ht.isList (Heap.IsSliceOf.new ..) .none .none ps (by decide) ?_ (by rw[List.size_toArray]<;>omega);rw[PySem.W.krv_pick,show its.toArray.toList.reverse.toArray=its.reverse.toArray by simp];refine⟨.ref _,_,I3.laid (t':=s2.toks) (o:=.lst xs.reverse) (fun b ob q=>Heap.get?_push_of_some _ q) (Nat.le_refl _) ?_,rfl,q _ (I3.hok.fresh (Nat.le_refl _))⟩;exact⟨by rw[List.length_reverse];exact hz,_,0,r.reverse,Heap.get?_push_size _ rfl⟩
 show wpAny (model X.prog X.w) X.A (subscriptTail e (.Slice none none (some (.UnaryOp .USub (.Constant (.int 1) k p3) p4)) p2) (.ref a) (.ref s2.heap.objs.size)) (EP X pins σ Q) X.xe _;exact tail_any (ops:=[.ref a,.ref s2.heap.objs.size]) ht.isList.typeIs slot_list_getitem.lookup hg (by with_unfolding_all rfl)
theorem MC{K:PySem.W.Frag}{σ:L2.St}{H:Hp}{Q:VK}(h:tD (Dm.e1 Dm.zb f) σ H Q):MB K (tD f) σ H Q:=by
 obtain⟨H0,ρ,x,ρ',st,e,k⟩:=h;unfold Dm.e1 at e;split at e
 ·cases e
 rename_i x1 ρ1 e1;split at e
 ·cases e
 rename_i dx p1;split at e
 ·cases e
 rename_i z gz;unfold Dm.zb at gz;split at gz
 ·cases gz
  cases e;refine⟨H0,ρ,x1,_,st,e1,fun v H1 Hb t1 r1=>?_⟩;obtain⟨a,xs,rfl,qa,ra⟩:=aX t1.st.same (r1.look t1.st p1);refine⟨a,xs,rfl,.inl qa,fun q hq=>?_⟩;have g:=aI.jG (o:=HO.lst xs.reverse) t1.st.same hq;exact k _ _ _ (t1.trans (.grow t1.st g)) ⟨q,rfl,t1.stp.gone hq,t1.st.bJ hq,t1.st.same.free hq,_,av,ra.reverse⟩
 ·cases gz
theorem G6{k p3 p4}(h:DE X e f):DE X (.Subscript e (.Slice none none (some (.UnaryOp .USub (.Constant (.int 1) k p3) p4)) p2) pos) (Dm.e1 Dm.zb f):=PE.weak (JI h) fun _ _ _=>MC
end
noncomputable def cC(sc:Scope):List Str->List Str->Bool
 |[],[]=>true
 |x::N,y::nm=>(x == y||(sc.names.lookup y).isNone)&&cC sc N nm
 |_,_=>false
theorem cC.len{sc:Scope}:∀{N nm:List Str},cC sc N nm=true->nm.length=N.length
 |[],[],_=>rfl
 |[],_::_,h=>by cases h
 |_::_,[],h=>by cases h
 |x::N,y::nm,h=>by rw[cC,Bool.and_eq_true]at h;rw[List.length_cons,List.length_cons,cC.len h.2]
theorem cC.at{sc:Scope}:∀{N nm:List Str},cC sc N nm=true->∀(i:Nat) (x:Str),nm[i]?=some x->N[i]?=some x\/sc.names.lookup x=none
 |[],[],_,i,x,e=>by simp at e
 |[],_::_,h,_,_,_=>by cases h
 |_::_,[],h,_,_,_=>by cases h
 |x::N,y::nm,h,0,z,e=>by
  rw[cC,Bool.and_eq_true,Bool.or_eq_true]at h;simp at e;subst e;rcases h.1 with q | q
  ·have:x=y:=by simpa using q
   subst this;exact .inl rfl
  ·exact .inr (by simpa using q)
 |x::N,y::nm,h,i+1,z,e=>by rw[cC,Bool.and_eq_true]at h;rw[List.getElem?_cons_succ]at e ⊢;exact cC.at h.2 i z e
noncomputable def lR(osc:Scope)(N nm:List Str)(sc:Scope):Bool:=
 sc.names.all (fun y=>y.2 != .cell)&&sc.names.all (fun y=>y.2 != .local||sc.names.lookup y.1 == some .local) &&
 sc.names.all (fun y=>y.2 != .free||(osc.names.lookup y.1 == some .cell||osc.names.lookup y.1 == some .free))&&nm.all (fun x=>sc.names.lookup x != some .local)&&cC sc N nm
theorem cV.of{X:Cx}{nm:List Str}{scope:Scope}(h:lR X.env.scope X.N nm scope=true)(hk:scope.kind=.function):cV X nm scope:=by
 unfold lR at h;simp only[Bool.and_eq_true,List.all_eq_true]at h;obtain⟨⟨⟨⟨h1,h2⟩,h3⟩,h4⟩,h5⟩:=h;refine⟨hk,fun y hy=>?_,fun y hy hl=>?_,fun y hy hf=>?_,fun x hx=>?_,cC.len h5,cC.at h5⟩
 ·have:=h1 y hy;simpa using this
 ·have:=h2 y hy
  rw[hl]at this
  simpa using this
 ·have:=h3 y hy
  rw[hf]at this;have:(X.env.scope.names.lookup y.1 == some .cell||X.env.scope.names.lookup y.1 == some .free)=true:=by simpa using this
  rw[Bool.or_eq_true,beq_iff_eq,beq_iff_eq]at this;exact this
 ·have:=h4 x hx;simpa using this
section
variable{X:Cx}{elt tg iter:Expr}{ifs:List Expr}{scope:Scope}{pos:Pos}{fi:Dm.FI}{bd:Dm.FB}{is:List Nat}{t:Dm.FT}{f:Dm.FE}
theorem r8{l:List Nat}{n:Nat}(h:(l.all fun i=>decide (n<=i))=true):∀i∈l,n<=i:=fun i hi=>of_decide_eq_true (List.all_eq_true.mp h i hi)
theorem MD(nm own:List Str)(hg:TGc X nm scope own tg is bd)(hi:DI X tg iter fi)(ht:∀cl C s H fp,DTs (aT X nm scope own cl C s H fp) ifs t)(he:∀cl C s H fp,DE (aT X nm scope own cl C s H fp) elt f)
  (hc:X.calm=true:=by rfl) (hk:scope.kind=.function:=by rfl) (hS:lR X.env.scope X.N nm scope=true:=by rfl) (hl:(is.all fun i=>decide (X.N.length<=i))=true:=by rfl) (hs:∀x,foldedSetIterable iter X.env x=pure x:=by intro _;rfl) :
  DE X (.ListComp elt [⟨tg,iter,ifs,0⟩] scope pos) (Dm.bV fi own.length bd t f):=JE hc (cV.of hS hk) hi hg ht he (r8 hl) hs
theorem E1(j:Nat)(nm own:List Str){y:Str}{py spos:Pos}(hN:X.N.Nodup)(hg:TGc X nm scope own tg is bd)(hi:DI X tg iter fi)(ht:∀cl C s H fp,DTs (aT X nm scope own cl C s H fp) ifs t)(he:∀cl C s H fp,DE (aT X nm scope own cl C s H fp) elt f)
  (hc:X.calm=true:=by rfl) (hk:scope.kind=.function:=by rfl) (hS:lR X.env.scope X.N nm scope=true:=by rfl) (hl:(is.all fun i=>decide (X.N.length<=i))=true:=by rfl) (hj:X.N[j]?=some y:=by rfl) (hy:Loc X.env.scope y:=by first | exact Or.inl rfl | exact Or.inr rfl)
  (hsw:swapsWith (.ListComp elt [⟨tg,iter,ifs,0⟩] scope pos) (some (.Name y py)) spos.line X.env=pure true:=by rfl) (hs:∀x,foldedSetIterable iter X.env x=pure x:=by intro _;rfl)
  (hf:X.fn y=true\/X.env.scope.names.lookup y=some .local:=by first | exact .inl rfl | exact .inr rfl | assumption):DS X (.Assign [.Name y py] (.ListComp elt [⟨tg,iter,ifs,0⟩] scope pos) spos) (Dm.sA j (Dm.bV fi own.length bd t f)):=
 JF j hN hc (cV.of hS hk) hi hg ht he (r8 hl) hj hy hsw hs hf
end
theorem PI.or{X:Cx}{tg it:Expr}{t t':TI}(h:PI X tg it t)(h':PI X tg it t'):PI X tg it (fun σ H R=>t σ H R\/t' σ H R):=fun pins s σ H R I q=>q.elim (h pins s σ H R I) (h' pins s σ H R I)
theorem ME{K:PySem.W.Frag}{f:Dm.FE}{σ:L2.St}{H:Hp}{R:It->Hp->Prop}(h:tDI (Dm.iS f) σ H R):rE K (tD f) σ H R\/Aj K (tD f) σ H R:=by
 obtain⟨H0,ρ,ys,ρ',st,e,k⟩:=h;unfold Dm.iS at e;split at e
 ·cases e
 rename_i x ρ1 e1;split at e
 ·rename_i ds ρ2 e2
  cases e;exact .inl (OO ⟨H0,ρ,_,_,st,by unfold Dm.iL;rw[e1];dsimp only;rw[e2],k⟩)
 ·rename_i ds ρ2 e2
  cases e;exact .inr (OP ⟨H0,ρ,_,_,st,by unfold Dm.iT;rw[e1];dsimp only;rw[e2],k⟩)
 ·cases e
theorem i_S{X:Cx}{tg e:Expr}{f:Dm.FE}(h:DE X e f):DI X tg e (Dm.iS f):=PI.weak (PI.or (wK h) (Ak h)) fun _ _ _=>ME
noncomputable def Bc(K:PySem.W.Frag):Bool:=K.all fun p=>match p.2.cls with | .type n=>n != "list" | _=>true
theorem lookup_mem{a:Addr}{o:Obj}:∀{K:List (Addr×Obj)},K.lookup a=some o->(a,o)∈K
 |[],h=>by cases h
 |(b,x)::r,h=>by
  rw[List.lookup_cons]at h;cases q:a == b with
  |true=>
   rw[q]at h;cases h;have:a=b:=by simpa using q
   rw[this];exact List.mem_cons_self
  |false=>rw[q]at h;exact List.mem_cons_of_mem _ (lookup_mem h)
theorem JJ{f:List Dm.Dat->Option Dm.RV}{K:PySem.W.Frag}{H:Hp}{a:Addr}{ns:List Int}{E:XK}(hf:f [.lst (ns.map Dm.Dat.int)]=some (.val (.bl true)))(hK:Bc K=true)(hS:SqL K H a (ns.map V.int)) :
  spD f [.ref a] H (fun v _=>v=.bl true) E:=by
 have hq:Rd H a (.lst (ns.map V.int)):=by
  rcases hS with h | ⟨o,its,n,hk,hc,_⟩
  ·exact h
  ·have:=List.all_eq_true.mp hK _ (lookup_mem hk)
   dsimp only at this;rw[hc]at this;exact absurd this (by decide)
 have hr:∀ns:List Int,aB H (ns.map V.int) (ns.map Dm.Dat.int):=fun ns=>by
  induction ns with
  |nil=>exact .nil
  |cons n ns ih=>exact .cons (.int n) ih
 exact⟨H,_,_,au.refl _,.cons (.lst hq (hr ns)) .nil,hf,fun v H0' H' _ r=>Rep.i7 r⟩
end Br
namespace Dm
noncomputable def iRd(a b c:FE):FI:=fun ρ=>match a ρ with
 | some (.val (.int i),ρ1)=>(match b ρ1 with
  | some (.val (.int j),ρ2)=>(match c ρ2 with
   |some (.val (.int k),ρ3)=>if k=-1/\j<=BIG/\-BIG<=j/\i<=BIG/\-BIG<=i then some (downs i (i-j).toNat,ρ3) else none
   |_=>none)
  |_=>none)
 |_=>none
noncomputable def zm(a:FE):FI:=fun ρ=>match a ρ with
 |none=>none
 |some (x,ρ1)=>match tk ρ1 x with
  |some (.lst ds,ρ2)=>some (ds.reverse,ρ2)
  |_=>none
noncomputable def je:Nat->List Dat->List Dat
 |_,[]=>[]
 |i,d::ds=>.tup [.int (i:Nat),d]::je (i+1) ds
noncomputable def iEn(a:FE):FI:=fun ρ=>match a ρ with
 |none=>none
 |some (x,ρ1)=>match tk ρ1 x with
  |some (.lst ds,ρ2)=>some (je 0 ds,ρ2)
  |_=>none
noncomputable def lS(d:Dat):Option RV:=match d with
 |.lst ds=>some (.new (.lst ds.reverse))
 |_=>none
noncomputable def jf:List Dat->Option RV
 |[.int j]=>if j<=1000000/\-1000000<=j then some (.new (.lst (ups 0 j.toNat))) else none
 |_=>none
end Dm
namespace Br
open PySem PySem.Spec PyProof.Rows L2
theorem o8{X:Cx}{pins:List (Addr×Obj)}{σ:L2.St}{H:Hp}{s:Shared}{h':Heap}{t':Nat}{fp:List Addr}{p:Addr}{o:HO}(I:Inv X pins σ H s)(hf:∀b∈fp,oz X pins H b)
  (k:∀b u,b∉fp->s.heap.get? b=some u->h'.get? b=some u) (hp:s.heap.objs.size<=p) (new:a_ X.prog X.w (upd H p o) h' p o):Inv X pins σ (upd H p o) { s with heap:=h',toks:=t' }:=by
 have hn:H p=none:=I.hok.fresh hp;have nf:∀b u,H b=some u->b∉fp:=fun b u e z=>by rw[(hf b z).1]at e;cases e
 have nL:X.env.locals∉fp:=fun z=>(hf _ z).2.1 rfl
 refine I.step (g':=s.gens) (d':=s.drawn) (ch:=fp) (fun b hb=>?_) (fun b u _ _ hc e _=>k b u hc e) (fun b u _ _ hc e _=>⟨u.slots,k b u hc e⟩)
  (fun b u _ e n=>by rw[aA (Nat.ne_of_lt (Nat.lt_of_lt_of_le (Heap.lt_size e) hp))];exact n) (fun b u hc e=>⟨u,k b u hc e⟩)
  (fun b xs q=>by rw[aA (aJ q hn)];exact q) (fun b u xs q=>by rw[aA (aJ q hn)];exact q) (fun b ps q=>⟨#[],by rw[aA (aJ q hn),q];simp⟩) (fun m hm=>?_) (fun b u e=>?_) I.bare
 ·obtain⟨f0,f1,f2,f3,f4,f5⟩:=hf b hb
  exact⟨f3,f1,f4,f5⟩
 ·obtain⟨o,es,ep,ho,r⟩:=hm
  exact⟨o,es,ep,k _ o nL ho,r⟩
 ·by_cases hb:b=p
  ·subst hb;rw[av]at e;cases e;exact new
  ·rw[aA hb]at e
   refine(I.hok b u e).stay (fun c v hc q=>k c v ?_ q) (fun c q=>by rw[aA (aJ q hn)];exact q) fun c xs q=>by rw[aA (aJ q hn)];exact q
   rcases hc with z | z
   ·rw[z];exact nf b u e
   ·exact nf c _ z
noncomputable def Itv(K:PySem.W.Frag)(a:Addr)(n:Nat):It:=
 ⟨fun i H=>∃xs x,SqL K H a xs/\xs.length=n/\xs.reverse[i]?=some x,fun i H x H'=>H'=H/\∀xs,SqL K H a xs->xs.reverse[i]?=some x,fun i H=>n<=i⟩
theorem Bd{P:Program}{w:World}{K:PySem.W.Frag}{tg:Expr}(a it:Addr)(n:Nat):Turn P w K tg (Itv K a n) [it] it (fun i h=>i<=n/\h.IsRevIter it a ((n:Int)-1-(i:Nat))) where
 mem:=by simp
 obj:=fun i h st b hb=>by
  have e:b=it:=by simpa using hb
  subst e;obtain⟨_,o,e,c,d⟩:=st;exact⟨o,e,fun v z=>by rw[d]at z;cases z⟩
 keep:=fun i h h' st k=>⟨st.1,st.2.at fun o e=>k it (by simp) o e⟩
 item:=by
  intro X hP hw hK hc i pins s σ H E I hf st hg;subst hP hw hK;obtain⟨xs,x,hq,hl,hx⟩:=hg;obtain⟨its,rv,p,hz⟩:=I.list hq;have hi:i<n:=by have:=(List.getElem?_eq_some_iff.mp hx).1;rw[List.length_reverse,hl]at this;exact this
  rw[List.getElem?_reverse (by omega),hl]at hx;obtain⟨u,hu,ru⟩:=rv.get hx;obtain⟨f0,f1,f2,f3,f4,f5⟩:=hf it (by simp);obtain⟨_,st⟩:=st;have ei:((n:Int)-1-(i:Nat))=((n-1-i:Nat):Int):=by omega
  rw[ei]at st;refine wpAny_pyNext_rev_item st p.isList (x:=u) (by simpa using hu) fun h' st' sb=>?_
  have ej:((n-1-i:Nat):Int)-1=(n:Int)-1-((i+1:Nat):Int):=by omega
  rw[ej]at st';have I1:Inv X pins σ H { s with heap:=h' }:=I.turned (t':=s.toks) (fun b o hb e=>(sb.2 b hb).trans e) f0 f1 f3 f4 f5;obtain⟨o,e,c,d⟩:=id st';refine⟨u,rfl,rD (s:={ s with heap:=h' }) e c d (by decide) ⟨x,H,I1,ru,⟨rfl,fun ys hy=>?_⟩,⟨hi,st'⟩,fun b hb=>(hf b hb).1⟩⟩;rw[I.ff hy hq,List.getElem?_reverse (by omega),hl];exact hx
 done:=by
  intro X hP hw hK hc i pins s σ H E I hf st hg;subst hP hw hK;obtain⟨f0,f1,f2,f3,f4,f5⟩:=hf it (by simp);obtain⟨h1,st⟩:=st;have h2:n<=i:=hg;have ei:((n:Int)-1-(i:Nat))=-1:=by omega
  rw[ei]at st;exact wpAny_pyNext_rev_end (I.ok.hd hc) st fun h' eb=>⟨rfl,I.turned (t':=s.toks) (fun b o hb e=>eb b o hb e) f0 f1 f3 f4 f5⟩
 self:=fun _ _ _ _ _ st h=>wpAny_pyIter_revIter st.2 h
noncomputable def G7(K:PySem.W.Frag)(tl:TE):TI:=fun σ H R=>tl σ H fun x H1=>∃a xs,x=.ref a/\SqL K H1 a xs/\R (Itv K a xs.length) H1
section
variable{X:Cx}{tg l:Expr}{tl:TE}{p pos:Pos}
theorem Be{Q:Value->Shared->Prop}{Qx:VK}{pins:List (Addr×Obj)}{s:Shared}{σ:L2.St}{H:Hp}(hg:Gl X "reversed")(hm:X.mg "reversed" = none)(hl:PE X l tl)(hs:starEach [l] X.env=[(false,eval l X.env)])(I:Inv X pins σ H s)(h:tl σ H Qx)
  (k:∀x H1 s1,Inv X pins σ H1 s1->Qx x H1->∃a xs,x=.ref a/\SqL X.K H1 a xs/\∀its:List Value,Vals xs its->PlainL s1.heap a its.toArray->xs.length<=sizeLine->Q (.ref s1.heap.objs.size) { s1 with heap:=s1.heap.push (revObj a ((its.toArray.size:Int)-1)) }) :
  wpAny (model X.prog X.w) X.A (eval (.Call (.Name "reversed" p) [l] [] pos) X.env) Q X.xe s:=by
 refine Call_ (cS I hg hm boot_reversed (PyProof.Rows.callWith_type1 (spliced_more ?_ (by rw[hs];rfl)) (by rw[hs];rfl) rfl));refine thn (hl pins s σ H _ I h) fun v s1 ⟨x,H1,I1,r1,q1⟩=>?_
 obtain⟨a,xs,e,hq,q⟩:=k x H1 s1 I1 q1;subst e;cases r1;obtain⟨its,rv,pl,hz⟩:=I1.list hq;refine Calls.spliced_nil (call_reversed_list pl.isList (q its rv pl hz))
theorem JK(hg:Gl X "reversed")(hm:X.mg "reversed" = none)(hl:PE X l tl)(hs:starEach [l] X.env=[(false,eval l X.env)]:=by rfl):PI X tg (.Call (.Name "reversed" p) [l] [] pos) (G7 X.K tl):=by
 intro pins s σ H R I h;refine Be hg hm hl hs I h fun x H1 s1 I1 q1=>?_
 obtain⟨a,xs,e,hq,q⟩:=q1;refine⟨a,xs,e,hq,fun its rv pl hz=>?_⟩;have hn:(its.toArray.size:Int)=((xs.length:Nat):Int):=by rw[List.size_toArray,rv.length]
 have st:({ s1 with heap:=s1.heap.push (revObj a ((its.toArray.size:Int)-1)) }:Shared).heap.IsRevIter s1.heap.objs.size a (((xs.length:Nat):Int)-1-((0:Nat):Int)):=⟨_,Heap.get?_push_size _ rfl,rfl,by rw[hn];simp[revObj]⟩
 refine wpAny_pyIter_revIter st ?_;refine⟨s1.heap.objs.size,[s1.heap.objs.size],_,_,H1,rfl,I1.kept (t':=s1.toks) fun b o e=>Heap.get?_push_of_some _ e,Bd a _ xs.length,⟨Nat.zero_le _,st⟩,fun b hb=>?_,q⟩;have e:b=s1.heap.objs.size:=by simpa using hb
 subst e;exact I1.uR (Nat.le_refl _) (I1.hok.fresh (Nat.le_refl _))
end
section
variable{X:Cx}{tg:Expr}
end
noncomputable def Ite(K:PySem.W.Frag)(a:Addr):It:=
 ⟨fun i H=>∃xs x,SqL K H a xs/\xs[i]?=some x,fun i H x H'=>∃p v,H p=none/\x=.ref p/\H'=upd H p (.tup [.int i,v])/\∀xs,SqL K H a xs->xs[i]?=some v,fun i H=>∃xs,SqL K H a xs/\xs.length<=i⟩
theorem zo{P:Program}{w:World}{K:PySem.W.Frag}{elts:List Expr}{x1}{tp:Pos}(a e it:Addr)(hne:e≠it):Turn P w K (.Tuple elts x1 tp) (Ite K a) [e,it] e (fun i h=>(∃old,IsEnum h e it (i:Nat) old)/\h.IsListIter it a i) where
 mem:=by simp
 obj:=fun i h st b hb=>by
  obtain⟨⟨old,he⟩,o,e1,c,d⟩:=st;rcases List.mem_cons.mp hb with rfl | hb
  ·exact ⟨_,he,fun v z=>by have z':Data.fields _=Data.cell v:=z;cases z'⟩
  ·have e2:b=it:=by simpa using hb
   subst e2;exact⟨o,e1,fun v z=>by rw[d]at z;cases z⟩
 keep:=fun i h h' st k=>⟨let ⟨old,he⟩:=st.1;⟨old,k e (by simp) _ he⟩,st.2.at fun o z=>k it (by simp) o z⟩
 item:=by
  intro X hP hw hK hc i pins s σ H E I hf st hg;subst hP hw hK;obtain⟨xs,x,hq,hx⟩:=hg;obtain⟨its,rv,p,hz⟩:=I.list hq;obtain⟨u,hu,ru⟩:=rv.get hx;obtain⟨⟨old,he⟩,hit⟩:=st;refine wpAny_pyNext_enum_item he hit p.isList (x:=u) (by simpa using hu) hne fun h1 heo O4 ht1 hz1 hk1=>?_
  refine⟨_,rfl,wpAny_letOwnedTupleGo_enum heo fun h2 he2 hs2=>?_⟩;have hlt:e<s.heap.objs.size:=Heap.lt_size he;have ht2:h2.get? s.heap.objs.size=some { cls:=.type "tuple",data:=.seq #[.int i s.toks,u] }:=(hs2.2 _ (Nat.ne_of_gt hlt)).trans ht1;have k2:∀b o,b∉[e,it]->s.heap.get? b=some o->h2.get? b=some o:=fun b o hb z=>by
   have n1:b≠e:=fun y=>hb (by simp[y])
   have n2:b≠it:=fun y=>hb (by simp[y])
   exact(hs2.2 b n1).trans (hk1 b o n1 n2 z)
  have hn:H s.heap.objs.size=none:=I.hok.fresh (Nat.le_refl _);have I2:Inv X pins σ (upd H s.heap.objs.size (.tup [.int i,x])) { s with heap:=h2,toks:=s.toks+1 }:=
   o8 I hf k2 (Nat.le_refl _) ⟨by simp[sizeLine],[.int i s.toks,u],.cons ⟨s.toks,rfl⟩ (.cons ru .nil),_,ht2,rfl,_,rfl⟩
  refine⟨.ref s.heap.objs.size,_,I2,rfl,⟨_,x,hn,rfl,rfl,fun ys hy=>by rw[I.ff hy hq];exact hx⟩,⟨⟨u,?_⟩,?_⟩,fun b hb=>?_⟩
  ·have:(((i+1:Nat):Int))=(i:Int)+1:=by omega
   rw[this];exact he2
  ·exact O4.at fun o z=>(hs2.2 it (Ne.symm hne)).trans z
  ·have hb1:b≠s.heap.objs.size:=fun y=>by
    rcases List.mem_cons.mp hb with z | z
    ·rw[y]at z;exact absurd z (Nat.ne_of_gt hlt)
    ·have z':b=it:=by simpa using z
     obtain⟨o,ho,_⟩:=hit;have:=Heap.lt_size ho;rw[<- z',y]at this;exact Nat.lt_irrefl _ this
   rw[aA hb1];exact(hf b hb).1
 done:=by intro X hP hw hK hc i pins s σ H E I hf st hg;subst hP hw hK;obtain⟨xs,hq,hx⟩:=hg;obtain⟨its,rv,p,hz⟩:=I.list hq;obtain⟨f0,f1,f2,f3,f4,f5⟩:=hf it (by simp);obtain⟨⟨old,he⟩,hit⟩:=st;have hl:=rv.length;exact wpAny_pyNext_enum_end (I.ok.hd hc) he hit p.isList (by simp;omega) fun h' eb=>⟨rfl,I.turned (t':=s.toks) (fun b o hb e=>eb b o hb e) f0 f1 f3 f4 f5⟩
 self:=fun A i s Q E st h=>by
  obtain⟨⟨old,he⟩,hit⟩:=st;have hT:s.TypeIs (.ref e) "enumerate" := ⟨_,he,rfl⟩
  refine wpAny_pyIter_slot hT F.slot_enumerate_iter (wpAny_call_entry F.slot_enumerate_iter hT F.entry_enumerate_iter ?_ (F.args_enumerate_iter_1 _));show wpAny _ _ (ret (.ref e)) _ _ s;exact wpAny_pure ⟨_,rfl,"enumerate",_,hT,F.slot_enumerate_next.lookup,h⟩
noncomputable def MF(K:PySem.W.Frag)(tl:TE):TI:=fun σ H R=>tl σ H fun x H1=>∃a,x=.ref a/\(∃xs,SqL K H1 a xs)/\R (Ite K a) H1
section
variable{X:Cx}{l:Expr}{tl:TE}{p pos:Pos}{elts:List Expr}{x1:Nat}{tp:Pos}
theorem E2(hg:Gl X "enumerate")(hm:X.mg "enumerate" = none)(hl:PE X l tl)(hs:starEach [l] X.env=[(false,eval l X.env)]:=by rfl):PI X (.Tuple elts x1 tp) (.Call (.Name "enumerate" p) [l] [] pos) (MF X.K tl):=by
 intro pins s σ H R I h;refine Call_ (cS I hg hm boot_enumerate (PyProof.Rows.callWith_type1 (spliced_more ?_ (by rw[hs];rfl)) (by rw[hs];rfl) rfl));refine thn (hl pins s σ H _ I h) fun v s1 ⟨x,H1,I1,r1,q1⟩=>?_
 obtain⟨a,e,⟨xs,hq⟩,q⟩:=q1;subst e;cases r1;obtain⟨its,rv,pl,hz⟩:=I1.list hq;refine Calls.spliced_nil (call_enumerate_list pl.isList fun h' he hit hsz k=>?_);have I2:Inv X pins σ H1 { s1 with heap:=h' }:=I1.kept (t':=s1.toks) k;have T:=zo (P:=X.prog) (w:=X.w) (K:=X.K) (elts:=elts) (x1:=x1) (tp:=tp) a (s1.heap.objs.size+1) s1.heap.objs.size (Nat.succ_ne_self _);refine T.self X.A 0 { s1 with heap:=h' } _ X.xe ⟨⟨_,he⟩,hit⟩ ?_;refine⟨s1.heap.objs.size+1,[s1.heap.objs.size+1,s1.heap.objs.size],_,_,H1,rfl,I2,T,⟨⟨_,he⟩,hit⟩,fun b hb=>?_,q⟩;have:s1.heap.objs.size<=b:=by
  rcases List.mem_cons.mp hb with rfl | hb
  ·exact Nat.le_succ _
  ·have:b=s1.heap.objs.size:=by simpa using hb
   exact Nat.le_of_eq this.symm
 exact I1.uR this (I1.hok.fresh this)
end
theorem vh:typeLookup (.type "list_reverseiterator") "__len__" = pure none:=by rw[typeLookup_type,builtinLookup_eq_fast];kernel_rfl
theorem Bf:typeLookup (.type "list_reverseiterator") "__length_hint__" = pure (some (.builtin "list_reverseiterator.__length_hint__")):=by rw[typeLookup_type,builtinLookup_eq_fast];kernel_rfl
section
variable{prog:Program}{w:World}{A:Around}{E:Value->Shared->Prop}{s:Shared}
theorem Bg{I l:Addr}{i:Int}{Q:Bool->Shared->Prop}(hit:s.heap.IsRevIter I l i)(h:Q false s):wpAny (model prog w) A (Builtin.List.listLengthHint (.ref I)) Q E s:=by
 unfold Builtin.List.listLengthHint;refine wpAny_bind (wpAny_specialOf hit.typeIs vh ?_);show wpAny _ A (specialOf (Value.ref I) (Str.ofString "__length_hint__") >>= _) _ _ _;refine wpAny_bind (wpAny_specialOf hit.typeIs Bf ?_)
 generalize hid:("list_reverseiterator.__length_hint__" : String)=id0
 wp_delta
 rw[show splitId id0=some ("list_reverseiterator","__length_hint__") from by subst hid;decide +kernel];subst hid;refine wpAny_bind (wpAny_isInstance (T := "list_reverseiterator") (b:=true) hit.typeIs (by rw[isSubtype_type];kernel_rfl) ?_);refine wpAny_ite_split (fun hab=>absurd hab (by decide)) (fun _=>?_);refine wpAny_ite_split (fun _=>?_) (fun hab=>absurd (by decide +kernel) hab);refine wpAny_ite_split (fun hab=>absurd hab (by decide +kernel)) (fun _=>wpAny_pure h)
theorem vm{R:Result->Shared->Prop}{I l:Addr}{items:Array Value}(hh:A.handled=none)(hit:s.heap.IsRevIter I l ((items.size:Int)-1))(hl:s.heap.IsList l items)(hne:l≠I)(hlen:items.size<=sizeLine)
  (S:Addr) (res:Value) (c₀:Nat) (hSI:S≠I) (hSl:S≠l) (hS:s.heap.get? S=some { cls:=.type "list",data:=.seq #[] c₀ })
  (hR:∀ h' tk acc' c',(∀ b o,b≠S→b≠I→s.heap.get? b=some o→h'.get? b=some o)→h'.get? S=some { cls:=.type "list",dict:=none,data:=.seq acc' c',slots:=#[] } →
   ItemsOf (fun i v=>items[items.size-1-i]?=some v) acc' items.size->R (.ok (.ret res)) { s with heap:=h',toks:=tk }) :
  wpAny (model prog w) A.in1 (Builtin.List.listExtendWith (.ref S) (.ref I) res)
   (fun fin s'=>match fin with | .done f=>R (.ok f) s' | .again c'=>c'.quiet=true/\codeAny (model prog w) A c' R s') (fun e s'=>R (.error e) s') s:=by
 have hSf:S∉[I,l]:=fun hm=>by
  rcases List.mem_cons.mp hm with z | z
  ·exact hSI z
  ·exact hSl (List.mem_singleton.mp z)
 have W:=(Walks.listRev (prog:=prog) (w:=w) (A:=A.in1) hh I l hne items).toS;unfold Builtin.List.listExtendWith;refine wpAny_bind (wpAny_typeOf (T := "list_reverseiterator") hit.typeIs ?_);have h1:Builtin.List.listSameRef (.ref S) (.ref I)=false:=by simp[Builtin.List.listSameRef,hSI]
 have h2:(Value.type "list_reverseiterator" == Value.type "list")=false:=by decide
 have h3:(Value.type "list_reverseiterator" == Value.type "tuple")=false:=by decide
 simp only[h1,h2,h3,Bool.or_false,Bool.false_eq_true,if_false];refine wpAny_bind (wpAny_pyIter_revIter hit ?_);refine wpAny_bind (wpAny_holding (Bg hit ?_));refine wpAny_ite_split (fun hab=>absurd hab (by decide +kernel)) (fun _=>wpAny_pure ⟨plainId_quiet F.plain_extend_loop _,?_⟩);have hst:(0<=items.size)/\s.heap.IsRevIter I l ((items.size:Int)-1-((0:Nat):Int))/\s.heap.IsList l items:=⟨Nat.zero_le _,by simpa using hit,hl⟩
 refine codeAny_extend_loopS W hlen S hSf res items.size 0 _ #[] c₀ rfl (Nat.zero_le _) hst hS (ItemsOf.nil _) fun s' acc' c' hm hS' hacc=>?_
 rw[Moved.eq_with hm];refine hR s'.heap s'.toks acc' c' (fun b o hb hb2 e=>hm.heap b o (fun hmem=>?_) e) hS' hacc;rcases List.mem_cons.mp hmem with e' | hmem
 ·exact hb e'
 ·exact hb2 (List.mem_singleton.mp hmem)
theorem Bh{R:Result->Shared->Prop}{I l:Addr}{items:Array Value}(hh:A.handled=none)(hit:s.heap.IsRevIter I l ((items.size:Int)-1))(hl:s.heap.IsList l items)(hne:l≠I)(hlen:items.size<=sizeLine)
  (S:Addr) (hSI:S≠I) (hSl:S≠l) (hS:s.heap.get? S=some { cls:=.type "list",data:=.seq #[] })
  (hR:∀ h' tk acc' c',(∀ b o,b≠S→b≠I→s.heap.get? b=some o→h'.get? b=some o)→h'.get? S=some { cls:=.type "list",dict:=none,data:=.seq acc' c',slots:=#[] } →
   ItemsOf (fun i v=>items[items.size-1-i]?=some v) acc' items.size->R (.ok (.ret .none)) { s with heap:=h',toks:=tk }) :
  wpAny (model prog w) A.in1 (Builtin.«list.__init__» ⟨[.ref S,.ref I],[]⟩)
   (fun fin s'=>match fin with | .done f=>R (.ok f) s' | .again c'=>c'.quiet=true/\codeAny (model prog w) A c' R s') (fun e s'=>R (.error e) s') s:=by
 show wpAny _ A.in1 (do let old <- Builtin.List.listItems (.ref S);Builtin.List.listUpdate (.ref S) (fun _=>#[]);letGo old.toList.reverse;Builtin.List.listExtendWith (.ref S) (.ref I) .none) _ _ s;refine wpAny_bind ?_;unfold Builtin.List.listItems;refine wpAny_bind (wpAny_seqItems hS rfl (wpAny_pure ?_));show wpAny _ A.in1 (updateSeq S (fun _=>#[]) >>= fun _=>letGo (#[]:Array Value).toList.reverse >>= fun _=>Builtin.List.listExtendWith (.ref S) (.ref I) .none) _ _ s;refine wpAny_bind (wpAny_updateSeq hS rfl ?_);have hS₂:=Heap.get?_update_self (Obj.mapSeq (fun _=>(#[]:Array Value))) hS rfl;have oth:∀b o,b≠S->s.heap.get? b=some o->(s.heap.update S (Obj.mapSeq (fun _=>(#[]:Array Value)))).get? b=some o:=
  fun b o hb e=>(Heap.get?_update_other _ _ (Ne.symm hb)).trans e
 refine wpAny_bind (wpAny_letGo ?_);refine vm hh (hit.at fun o e=>oth I o (Ne.symm hSI) e) (hl.at fun o e=>oth l o (Ne.symm hSl) e) hne hlen S .none _ hSI hSl hS₂ fun h' tk acc' c' hk hS' hacc=>?_
 exact hR h' tk acc' c' (fun b o hb hb2 e=>hk b o hb hb2 (oth b o hb e)) hS' hacc
theorem oF{Q:Value->Shared->Prop}{I l:Addr}{items:Array Value}(hh:A.handled=none)(hit:s.heap.IsRevIter I l ((items.size:Int)-1))(hl:s.heap.IsList l items)(hne:l≠I)(hlen:items.size<=sizeLine)
  (hQ:∀ h' tk acc' c',(∀ b o,b≠I→s.heap.get? b=some o→h'.get? b=some o)→h'.get? s.heap.objs.size=some { cls:=.type "list",dict:=none,data:=.seq acc' c',slots:=#[] } →
   ItemsOf (fun i v=>items[items.size-1-i]?=some v) acc' items.size->Q (.ref s.heap.objs.size) { s with heap:=h',toks:=tk }) :
  wpAny (model prog w) A (call (.type "list") [.ref I]) Q E s:=by
 refine callType_codes (Q₁:=fun obj s₁=>obj=.ref s.heap.objs.size/\s₁={ s with heap:=s.heap.push { cls:=.type "list",data:=.seq #[] } }) F.called_list (F.typeCall_list_1 _) F.entry_list_init
  (code_list_new _ ⟨rfl,rfl⟩) fun obj s₁ h₁=>?_
 obtain⟨rfl,rfl⟩:=h₁;have hS:(s.heap.push { cls:=.type "list",data:=.seq #[] }).get? s.heap.objs.size=some { cls:=.type "list",data:=.seq #[] }:=Heap.get?_push_size _ rfl;obtain⟨oi,hoi,_⟩:=id hit;obtain⟨ol,hol,_⟩:=id hl;refine⟨⟨_,hS,rfl⟩,F.args_list_init_2 _ _,Bh (A:=A.in1) hh (hit.at fun o e=>Heap.get?_push_of_some _ e) (hl.at fun o e=>Heap.get?_push_of_some _ e) hne hlen _ (Nat.ne_of_gt (Heap.lt_size hoi)) (Nat.ne_of_gt (Heap.lt_size hol)) hS fun h' tk acc' c' hk hS' hacc=>?_⟩;exact⟨rfl,hQ h' tk acc' c' (fun b o hb e=>hk b o (Nat.ne_of_lt (Heap.lt_size e)) hb (Heap.get?_push_of_some _ e)) hS' hacc⟩
end
theorem lT{P:Nat->Value->Prop}{acc:Array Value}{ys:List V}(h:ItemsOf P acc ys.length)(k:∀i v,P i v->i<ys.length->∃y,ys[i]?=some y/\RelV y v):Vals ys acc.toList:=by
 have:∀(ys:List V) (us:List Value),ys.length=us.length->(∀(i:Nat) (u:Value),us[i]?=some u->∃y,ys[i]?=some y/\RelV y u)->Vals ys us:=by
  intro ys
  induction ys with
  |nil=>intro us e _;cases us with
   |nil=>exact .nil
   |cons _ _=>cases e
  |cons y ys ih=>intro us e f;cases us with
   |nil=>cases e
   |cons u us=>obtain⟨y',h1,h2⟩:=f 0 u rfl;cases h1;exact .cons h2 (ih us (by simpa using e) fun i u' hu=>by simpa using f (i+1) u' (by simpa using hu))
 refine this ys acc.toList (by have:=h.1;simp only[Array.length_toList];exact this.symm) fun i u hu=>?_
 have hu':acc[i]?=some u:=by rw[<- Array.getElem?_toList];exact hu
 have hi:i<ys.length:=by rw[<- h.1];exact(Array.getElem?_eq_some_iff.mp hu').1
 exact k i u (h.2 i u hu') hi
noncomputable def JL(K:PySem.W.Frag)(tl:TE):TE:=fun σ H Q=>tl σ H fun x H1=>∃a xs,x=.ref a/\SqL K H1 a xs/\∀q,H1 q=none->Q (.ref q) (upd H1 q (.lst xs.reverse))
noncomputable def MG(ta:TA):TE:=fun σ H Q=>ta σ H fun vs H1=>∃j:Int,vs=[.int j]/\-(2 ^ 62)<=j/\j<=1000000/\∀q,H1 q=none->Q (.ref q) (upd H1 q (.lst ((List.range j.toNat).map fun i=>V.int (i:Nat))))
section
variable{X:Cx}{l a:Expr}{tl:TE}{ta:TA}{p pos p0 lU:Pos}
theorem Bj(hc:X.calm=true)(hgl:Gl X "list")(hml:X.mg "list" = none)(hg:Gl X "reversed")(hm:X.mg "reversed" = none)(hl:PE X l tl)(hs:starEach [l] X.env=[(false,eval l X.env)]:=by rfl)
  (hs0:starEach [.Call (.Name "reversed" p) [l] [] pos] X.env=[(false,eval (.Call (.Name "reversed" p) [l] [] pos) X.env)]:=by rfl) :
  PE X (.Call (.Name "list" p0) [.Call (.Name "reversed" p) [l] [] pos] [] lU) (JL X.K tl):=by
 intro pins s σ H Q I h;refine wpAny_Call_Name_kw (cS I hgl hml boot_list (PyProof.Rows.callWith_type1 (spliced_more ?_ (by rw[hs0];rfl)) (by rw[hs0];rfl) rfl));refine Be hg hm hl hs I h fun x H1 s1 I1 q1=>?_
 obtain⟨a,xs,e,hq,q⟩:=q1;refine⟨a,xs,e,hq,fun its rv pl hz=>Calls.spliced_nil ?_⟩;have hal:a<s1.heap.objs.size:=by obtain⟨o,ho,_⟩:=pl.isList;exact Heap.lt_size ho
 have hn:=rv.length;refine oF (items:=its.toArray) (I.ok.hd hc) ⟨_,Heap.get?_push_size _ rfl,rfl,rfl⟩ (pl.isList.at fun o e=>Heap.get?_push_of_some _ e) (Nat.ne_of_lt hal) (by rw[List.size_toArray,<- hn];exact hz) fun h' tk acc' c' hk hS' hacc=>?_
 have hsz:({ s1 with heap:=s1.heap.push (revObj a ((its.toArray.size:Int)-1)) }:Shared).heap.objs.size=s1.heap.objs.size+1:=Heap.size_push ..;have hp:s1.heap.objs.size<=({ s1 with heap:=s1.heap.push (revObj a ((its.toArray.size:Int)-1)) }:Shared).heap.objs.size:=by rw[hsz];exact Nat.le_succ _
 have vl:Vals xs.reverse acc'.toList:=by
  refine lT (by rw[List.length_reverse,hn,<- List.size_toArray];exact hacc) fun i v hv hi=>?_
  rw[List.length_reverse]at hi;rw[List.size_toArray]at hv;have hv':its[its.length-1-i]?=some v:=by simpa using hv
  rw[List.getElem?_reverse hi,hn];have hlt:=(List.getElem?_eq_some_iff.mp hv').1;have hx:xs[its.length-1-i]?=some (xs[its.length-1-i]'(by omega)):=List.getElem?_eq_getElem _;obtain⟨u,hu,ru⟩:=rv.get hx;rw[hv']at hu;cases hu;exact⟨_,hx,ru⟩
 have ok:a_ X.prog X.w (upd H1 ({ s1 with heap:=s1.heap.push (revObj a ((its.toArray.size:Int)-1)) }:Shared).heap.objs.size (.lst xs.reverse)) h' ({ s1 with heap:=s1.heap.push (revObj a ((its.toArray.size:Int)-1)) }:Shared).heap.objs.size (.lst xs.reverse):=⟨by rw[List.length_reverse];exact hz,acc'.toList,c',vl,by simpa using hS'⟩
 exact⟨.ref _,_,I1.laid (t':=tk) (fun b u e=>hk b u (Nat.ne_of_lt (Heap.lt_size e)) (Heap.get?_push_of_some _ e)) hp ok,rfl,q _ (I1.hok.fresh hp)⟩
theorem E3(hc:X.calm=true)(hgl:Gl X "list")(hml:X.mg "list" = none)(hg:Gl X "range")(hm:X.mg "range" = none)(ha:PA X [a] ta)(hs:starEach [a] X.env=[(false,eval a X.env)]:=by rfl)
  (hs0:starEach [.Call (.Name "range" p) [a] [] pos] X.env=[(false,eval (.Call (.Name "range" p) [a] [] pos) X.env)]:=by rfl) :
  PE X (.Call (.Name "list" p0) [.Call (.Name "range" p) [a] [] pos] [] lU) (MG ta):=by
 intro pins s σ H Q I h;refine wpAny_Call_Name_kw (cS I hgl hml boot_list (PyProof.Rows.callWith_type1 (spliced_more ?_ (by rw[hs0];rfl)) (by rw[hs0];rfl) rfl));refine Call_ (cS I hg hm boot_range (PyProof.Rows.callWith_type1 (thn (ha pos pins s σ H _ I h) fun us s1 ⟨vs,H1,I1,r1,q1⟩=>?_) hs rfl));obtain⟨j,e,q1,q2,q⟩:=q1;subst e;cases r1 with
 |cons r rr=>
  cases rr;obtain⟨t,rfl⟩:=r;refine call_range_1 (Calls.spliced_nil ?_);have hn:Builtin.Range.rangeSize 0 j 1=(j.toNat:Nat):=by rw[rangeSize_one];split<;>omega
  refine call_list_range (n:=j.toNat) (I.ok.hd hc) (IsRange.new ..) (small_one (by omega) (by omega) q1 (by omega)) hn (by omega) fun h' tk acc' c' hk hS' hacc=>?_
  have hsz:(s1.heap.push { cls:=.type "range",data:=.fields #[.int 0 s1.toks,.int j t,.int 1 (s1.toks+1)] }).objs.size=s1.heap.objs.size+1:=Heap.size_push ..;have hp:s1.heap.objs.size<=(s1.heap.push { cls:=.type "range",data:=.fields #[.int 0 s1.toks,.int j t,.int 1 (s1.toks+1)] }).objs.size:=by rw[hsz];exact Nat.le_succ _
  have vl:Vals ((List.range j.toNat).map fun i=>V.int (i:Nat)) acc'.toList:=by
   refine lT (by rw[List.length_map,List.length_range];exact hacc) fun i v hv hi=>?_
   obtain⟨t,rfl⟩:=hv;rw[List.length_map,List.length_range]at hi;refine⟨.int (i:Nat),by rw[List.getElem?_map,List.getElem?_range hi];rfl,t,?_⟩;have:(0:Int)+(i:Int)*1=i:=by omega
   rw[this]
  have ok:a_ X.prog X.w (upd H1 (s1.heap.push { cls:=.type "range",data:=.fields #[.int 0 s1.toks,.int j t,.int 1 (s1.toks+1)] }).objs.size (.lst ((List.range j.toNat).map fun i=>V.int (i:Nat)))) h' (s1.heap.push { cls:=.type "range",data:=.fields #[.int 0 s1.toks,.int j t,.int 1 (s1.toks+1)] }).objs.size (.lst ((List.range j.toNat).map fun i=>V.int (i:Nat))):=
   ⟨by rw[List.length_map,List.length_range,sizeLine_eq];omega,acc'.toList,c',vl,by simpa using hS'⟩
  exact⟨.ref _,_,I1.laid (t':=tk) (fun b u e=>hk b u (Heap.get?_push_of_some _ e)) hp ok,rfl,q _ (I1.hok.fresh hp)⟩
end
theorem aB.rev{H:Hp}{xs:List V}{ds:List Dm.Dat}(h:aB H xs ds):aB H xs.reverse ds.reverse:=by
 induction xs generalizing ds with
 |nil=>cases h;exact .nil
 |cons x xs ih=>
  cases h with
  |cons r rs=>rw[List.reverse_cons,List.reverse_cons];exact(ih rs).append (.cons r .nil)
theorem JM{K:PySem.W.Frag}{H0:Hp}{a:Addr}{xs:List V}{ds:List Dm.Dat}(hq:Rd H0 a (.lst xs))(rs:aB H0 xs ds):JW (Itv K a xs.length) H0 ds.reverse:=by intro H0' H s0 s1;have q:SqL K H a xs:=.inl (au.rd s1 (au.rd s0 hq));refine⟨fun i hi=>by rw[List.length_reverse,<- rs.length]at hi;exact hi,fun i d e=>?_⟩;obtain⟨v,hv,rv⟩:=rs.rev.get e;refine⟨⟨xs,v,q,rfl,hv⟩,fun x H' y=>?_⟩;obtain⟨e1,y⟩:=y;subst e1;have z:=y xs q;rw[hv]at z;cases z;exact⟨H0',aI.refl s1,rv.mono s0⟩
theorem r9:∀(ds:List Dm.Dat) (i:Nat),(Dm.je i ds).length=ds.length
 |[],_=>rfl
 |_::ds,i=>by simp[Dm.je,r9 ds]
theorem r_:∀(ds:List Dm.Dat) (i j:Nat) (d:Dm.Dat),(Dm.je i ds)[j]?=some d->∃x,ds[j]?=some x/\d=.tup [.int ((i+j:Nat):Int),x]
 |[],_,_,_,h=>by cases h
 |x::ds,i,0,d,h=>by cases h;exact⟨x,rfl,rfl⟩
 |x::ds,i,j+1,d,h=>by
  obtain⟨y,h1,h2⟩:=r_ ds (i+1) j d h;refine⟨y,h1,?_⟩;rw[h2];have:i+1+j=i+(j+1):=by omega
  rw[this]
theorem E4{K:PySem.W.Frag}{H0:Hp}{a:Addr}{xs:List V}{ds:List Dm.Dat}(hq:Rd H0 a (.lst xs))(rs:aB H0 xs ds):JW (Ite K a) H0 (Dm.je 0 ds):=by intro H0' H s0 s1;have q:SqL K H a xs:=.inl (au.rd s1 (au.rd s0 hq));refine⟨fun i hi=>⟨xs,q,by rw[rs.length,<- r9 ds 0];exact hi⟩,fun i d e=>?_⟩;obtain⟨d',hd,rfl⟩:=r_ ds 0 i d e;obtain⟨v,hv,rv⟩:=rs.get hd;refine⟨⟨xs,v,q,hv⟩,fun x H' y=>?_⟩;obtain⟨p,v',hn,rfl,rfl,y⟩:=y;have z:=y xs q;rw[hv]at z;cases z;have g:=aI.EF (o:=HO.tup [.int i,v]) s1 hn;refine⟨_,g,.tup av (.cons ?_ (.cons ((rv.mono s0).mono g.s0) .nil))⟩;rw[Nat.zero_add];exact .int _
section
variable{σ:L2.St}{H:Hp}{R:It->Hp->Prop}
theorem JN{K:PySem.W.Frag}{f:Dm.FE}(h:tDI (Dm.zm f) σ H R):G7 K (tD f) σ H R:=by
 obtain⟨H0,ρ,ys,ρ',st,e,k⟩:=h;unfold Dm.zm at e;split at e
 ·cases e
 rename_i x ρ1 e1;split at e
 ·rename_i ds ρ2 e2
  cases e;refine⟨H0,ρ,_,ρ1,st,e1,fun v H0' H' t r=>?_⟩;obtain⟨H1,t1,b1,r1,_,_⟩:=take1 t (au.refl _) r e2;cases r1 with
  |lst q rs=>exact⟨_,_,rfl,.inl (au.rd t1.st.same q),k _ H1 H' t1 (JM q rs)⟩
 ·cases e
theorem MH{K:PySem.W.Frag}{f:Dm.FE}(h:tDI (Dm.iEn f) σ H R):MF K (tD f) σ H R:=by
 obtain⟨H0,ρ,ys,ρ',st,e,k⟩:=h;unfold Dm.iEn at e;split at e
 ·cases e
 rename_i x ρ1 e1;split at e
 ·rename_i ds ρ2 e2
  cases e;refine⟨H0,ρ,_,ρ1,st,e1,fun v H0' H' t r=>?_⟩;obtain⟨H1,t1,b1,r1,_,_⟩:=take1 t (au.refl _) r e2;cases r1 with
  |lst q rs=>exact⟨_,rfl,⟨_,.inl (au.rd t1.st.same q)⟩,k _ H1 H' t1 (E4 q rs)⟩
 ·cases e
end
theorem Bk{K:PySem.W.Frag}:UnD (fun x H Q=>∃a xs,x=.ref a/\SqL K H a xs/\∀q,H q=none->Q (.ref q) (upd H q (.lst xs.reverse))) Dm.lS:=by
 intro H0 H x dx z Q s rx e k;unfold Dm.lS at e;split at e
 ·cases e
  obtain⟨a,us,rfl,qa,ra⟩:=aX s rx;exact⟨a,us,rfl,.inl qa,fun p hp=>k _ _ _ (aI.jG s hp) ⟨p,rfl,hp,s.free hp,_,av,ra.rev⟩⟩
 ·cases e
theorem Bl{H:Hp}:∀(n:Nat) ,aB H ((List.range n).map fun i=>V.int (i:Nat)) (Dm.ups 0 n):=by
 intro n;unfold Dm.ups;have:∀l:List Nat,aB H (l.map fun i=>V.int (i:Nat)) (l.map fun i=>Dm.Dat.int (0+(i:Nat))):=fun l=>by
  induction l with
  |nil=>exact .nil
  |cons x l ih=>rw[List.map_cons,List.map_cons,Int.zero_add];exact .cons (.int _) ih
 exact this _
theorem E5:CallD (fun xs H Q=>∃j:Int,xs=[.int j]/\-(2 ^ 62)<=j/\j<=1000000/\∀q,H q=none->Q (.ref q) (upd H q (.lst ((List.range j.toNat).map fun i=>V.int (i:Nat))))) Dm.jf:=by
 intro H0 H xs ds z Q s rx e k;unfold Dm.jf at e;split at e
 ·rename_i j
  split at e
  ·rename_i hb
   cases e;cases rx with
   |cons r rr=>cases rr;cases aC r;exact⟨j,rfl,by omega,hb.1,fun p hp=>k _ _ _ (aI.jG s hp) ⟨p,rfl,hp,s.free hp,_,av,Bl _⟩⟩
  ·cases e
 ·cases e
section
variable{X:Cx}{tg e a b c:Expr}{f fa fb fc:Dm.FE}{p pos p0 lU:Pos}{elts:List Expr}{x1:Nat}{tp:Pos}
theorem MI(hg:Gl X "reversed")(hm:X.mg "reversed" = none)(h:DE X e f)(hs:starEach [e] X.env=[(false,eval e X.env)]:=by rfl):DI X tg (.Call (.Name "reversed" p) [e] [] pos) (Dm.zm f):=PI.weak (JK hg hm h hs) fun _ _ _=>JN
theorem MJ(hg:Gl X "enumerate")(hm:X.mg "enumerate" = none)(h:DE X e f)(hs:starEach [e] X.env=[(false,eval e X.env)]:=by rfl):DI X (.Tuple elts x1 tp) (.Call (.Name "enumerate" p) [e] [] pos) (Dm.iEn f):=PI.weak (E2 hg hm h hs) fun _ _ _=>MH
theorem E6(hc:X.calm=true)(hgl:Gl X "list")(hml:X.mg "list" = none)(hg:Gl X "reversed")(hm:X.mg "reversed" = none)(h:DE X e f)(hs:starEach [e] X.env=[(false,eval e X.env)]:=by rfl)
  (hs0:starEach [.Call (.Name "reversed" p) [e] [] pos] X.env=[(false,eval (.Call (.Name "reversed" p) [e] [] pos) X.env)]:=by rfl) :
  DE X (.Call (.Name "list" p0) [.Call (.Name "reversed" p) [e] [] pos] [] lU) (Dm.e1 Dm.lS f):=PE.weak (Bj hc hgl hml hg hm h hs hs0) fun _ _ _=>OL Bk
theorem qt(hc:X.calm=true)(hgl:Gl X "list")(hml:X.mg "list" = none)(hg:Gl X "range")(hm:X.mg "range" = none)(h:DA X [a] [fa])(hs:starEach [a] X.env=[(false,eval a X.env)]:=by rfl)
  (hs0:starEach [.Call (.Name "range" p) [a] [] pos] X.env=[(false,eval (.Call (.Name "range" p) [a] [] pos) X.env)]:=by rfl) :
  DE X (.Call (.Name "list" p0) [.Call (.Name "range" p) [a] [] pos] [] lU) (Dm.eB Dm.jf [fa]):=PE.weak (E3 hc hgl hml hg hm h hs hs0) fun _ _ _=>Jo E5
end
end Br
namespace Dm
noncomputable def aW(i:Nat)(own:Nat)(bd:FB)(t:FT)(el:FE):FE:=fun ρ=>match ρ[i]? with
 | some (.ow (.lst ds))=>if ds.length≤SZ then (match dm bd t el ds (ρ.set i .un++List.replicate own .un) [] with
  |none=>none
  |some (ys,ρ2)=>some (.new (.lst ys),(ρ2.take ρ.length).set i (.ow (.lst ds)))) else none
 |_=>bV (iS (eV i)) own bd t el ρ
end Dm
namespace Br
open PySem PySem.Spec PyProof.Rows L2
theorem Bm{K:PySem.W.Frag}{H0:Hp}{a:Addr}{xs:List V}{ds:List Dm.Dat}(rs:aB H0 xs ds):JWa (Itl K a) H0 (some (a,.lst xs)) ds:=by intro H0' H s0 s1 hq;have hq:=hq _ rfl;have q:SqL K H a xs:=.inl (.inl hq);refine⟨fun i hi=>⟨xs,q,by rw[rs.length];exact hi⟩,fun i d e=>?_⟩;obtain⟨v,hv,rv⟩:=rs.get e;refine⟨⟨xs,v,q,hv⟩,fun x H' y=>?_⟩;obtain⟨e1,y⟩:=y;subst e1;have z:=y xs q;rw[hv]at z;cases z;exact⟨H0',aI.refl s1,rv.mono s0⟩
theorem xy{K:PySem.W.Frag}{σ:L2.St}{H:Hp}{i own:Nat}{bd:Dm.FB}{g:TG}{t:Dm.FT}{el:Dm.FE}{is:List Nat}{Q:VK}(hb:BD is g bd)(hl:∀i∈is,σ.length<=i)(h:tD (Dm.aW i own bd t el) σ H Q) :
  tLC (fun σ H R=>rE K (tD (Dm.eV i)) σ H R\/Aj K (tD (Dm.eV i)) σ H R) own g (tDT t) (tD el) σ H Q:=by
 obtain⟨H0,ρ,x,ρ',st,e,k⟩:=h;unfold Dm.aW at e;split at e
 ·rename_i ds eo
  split at e
  case isFalse=>cases e
  rename_i hsz;split at e
  ·cases e
  rename_i ys ρ2 e2;cases e;refine .inl ⟨H0,ρ,.slot i,ρ,st,by unfold Dm.eV;rw[eo],fun v H0' H' t1 r=>?_⟩;obtain⟨a,qa,na,xs,ha,rs⟩:=t1.st.ow i _ eo;obtain⟨r1,_⟩:=r;rw[qa]at r1;cases r1;have nO:¬ak σ (ρ.set i .un) a:=fun z=>by obtain⟨j,d,hj,h1,h2⟩:=cA z;exact hj (t1.st.dis j i d _ a h1 eo h2 qa)
  have hlt:i<ρ.length:=(List.getElem?_eq_some_iff.mp eo).1;refine⟨a,rfl,⟨xs,.inl (.inl ha)⟩,fun D hD=>rW hb hl (t1.st.mask i) (fun q e=>by cases e;exact⟨ha,na,nO⟩) (Bm rs) hsz e2 (fun v H1 Hc t2 r2 hpa=>?_) D hD⟩;obtain⟨ha2,na2⟩:=hpa _ rfl;rw[List.length_set]at t2 r2;have oo:∀b,ak σ ((ρ2.take ρ.length).set i (.ow (.lst ds))) b->b=a\/ak σ (ρ2.take ρ.length) b:=fun b ⟨j,d,h1,h2⟩=>by
   by_cases q:i=j
   ·subst q;rw[qa]at h2;cases h2;exact .inl rfl
   ·rw[List.getElem?_set_ne q]at h1;exact .inr ⟨j,d,h1,h2⟩
  have om:∀b,ak σ (ρ.set i .un) b->ak σ ρ b:=fun b z=>by obtain⟨j,d,hj,h1,h2⟩:=cA z;exact⟨j,d,h1,h2⟩
  have oa:ak σ ρ a:=⟨i,_,eo,qa⟩
  have nO2:¬ak σ (ρ2.take ρ.length) a:=fun z=>nO (t2.own a z)
  have Bo:(ρ2.take ρ.length).length=ρ.length:=by rw[<- t2.st.len,st.len]
  refine k v H1 Hc (t1.trans ⟨⟨t2.st.same,by rw[List.length_set];exact t2.st.len,fun j d h=>?_,fun j d h=>?_,fun j j' d d' b h1 h2 h3 h4=>?_⟩,t2.stp.wide om,fun b z=>?_,fun j z=>?_⟩) ?_
  ·by_cases q:i=j
   ·subst q;rw[List.getElem?_set_self (by rw[Bo];exact hlt)]at h;cases h
   ·rw[List.getElem?_set_ne q]at h;exact t2.st.sh j d h
  ·by_cases q:i=j
   ·subst q
    rw[List.getElem?_set_self (by rw[Bo];exact hlt)]at h;cases h;exact⟨a,qa,na2,xs,ha2,rs.mono t2.stp.s0⟩
   ·rw[List.getElem?_set_ne q]at h;exact t2.st.ow j d h
  ·by_cases q:i=j
   ·subst q
    by_cases q':i=j'
    ·exact q'
    ·rw[List.getElem?_set_ne q']at h2
     rw[qa]at h3;cases h3;exact absurd ⟨j',d',h2,h4⟩ nO2
   ·rw[List.getElem?_set_ne q]at h1
    by_cases q':i=j'
    ·subst q'
     rw[qa]at h4;cases h4;exact absurd ⟨j,d,h1,h3⟩ nO2
    ·rw[List.getElem?_set_ne q']at h2
     exact t2.st.dis j j' d d' b h1 h2 h3 h4
  ·rcases oo b z with rfl | z
   ·exact oa
   ·exact om b (t2.own b z)
  ·trivial
  ·obtain⟨D',e',n',no',n0',w'⟩:=r2
   refine⟨D',e',t1.stp.gone n',fun z=>?_,n0',w'⟩;rcases oo D' z with rfl | z
   ·rw[n']at ha;cases ha
   ·exact no' z
 ·have h2:=ve (fi:=Dm.iS (Dm.eV i)) hb hl ⟨H0,ρ,x,ρ',st,e,k⟩
  exact ME h2
section
variable{X:Cx}{elt tg:Expr}{ifs:List Expr}{scope:Scope}{pos px:Pos}{bd:Dm.FB}{is:List Nat}{t:Dm.FT}{f:Dm.FE}{x:Str}
theorem i_M(i:Nat)(h:DE X (.Name x px) (Dm.eV i)):PI X tg (.Name x px) (fun σ H R=>rE X.K (tD (Dm.eV i)) σ H R\/Aj X.K (tD (Dm.eV i)) σ H R):=PI.or (wK h) (Ak h)
theorem jh(i:Nat)(nm own:List Str)(hg:TGc X nm scope own tg is bd)(hi:DE X (.Name x px) (Dm.eV i))(ht:∀cl C s H fp,DTs (aT X nm scope own cl C s H fp) ifs t)(he:∀cl C s H fp,DE (aT X nm scope own cl C s H fp) elt f)
  (hc:X.calm=true:=by rfl) (hk:scope.kind=.function:=by rfl) (hS:lR X.env.scope X.N nm scope=true:=by rfl) (hl:(is.all fun i=>decide (X.N.length<=i))=true:=by rfl) (hs:∀y,foldedSetIterable (.Name x px) X.env y=pure y:=by intro _;rfl) :
  DE X (.ListComp elt [⟨tg,.Name x px,ifs,0⟩] scope pos) (Dm.aW i own.length bd t f):=by
 obtain⟨g,h1,h2⟩:=hg.ex;intro pins s σ H Q I h;exact xm hc (cV.of hS hk) (i_M i hi) h1 ht he hs pins s σ H Q I (xy h2 (fun i hi=>by rw[I.len];exact r8 hl i hi) h)
theorem Bp(j i:Nat)(nm own:List Str){y:Str}{py spos:Pos}(hN:X.N.Nodup)(hg:TGc X nm scope own tg is bd)(hi:DE X (.Name x px) (Dm.eV i))(ht:∀cl C s H fp,DTs (aT X nm scope own cl C s H fp) ifs t)(he:∀cl C s H fp,DE (aT X nm scope own cl C s H fp) elt f)
  (hc:X.calm=true:=by rfl) (hk:scope.kind=.function:=by rfl) (hS:lR X.env.scope X.N nm scope=true:=by rfl) (hl:(is.all fun i=>decide (X.N.length<=i))=true:=by rfl) (hj:X.N[j]?=some y:=by rfl) (hy:Loc X.env.scope y:=by first | exact Or.inl rfl | exact Or.inr rfl)
  (hsw:swapsWith (.ListComp elt [⟨tg,.Name x px,ifs,0⟩] scope pos) (some (.Name y py)) spos.line X.env=pure true:=by rfl) (hs:∀y,foldedSetIterable (.Name x px) X.env y=pure y:=by intro _;rfl)
  (hf:X.fn y=true\/X.env.scope.names.lookup y=some .local:=by first | exact .inl rfl | exact .inr rfl | assumption):DS X (.Assign [.Name y py] (.ListComp elt [⟨tg,.Name x px,ifs,0⟩] scope pos) spos) (Dm.sA j (Dm.aW i own.length bd t f)):=by
 obtain⟨g,h1,h2⟩:=hg.ex;intro pins s σ H D I h;exact fD hN hj hy hc (cV.of hS hk) (i_M i hi) h1 ht he hsw hs hf pins s σ H D I (xy h2 (fun i hi=>by rw[I.len];exact r8 hl i hi) (AX h))
end
end Br
namespace Dm
noncomputable def gh:List Dat->List Dat->List Dat
 |x::xs,y::ys=>.tup [x,y]::gh xs ys
 |_,_=>[]
noncomputable def E7(a b:FE):FI:=fun ρ=>match eAs [a,b] ρ with
 | some (vs,ρ1)=>(match tks ρ1 vs with
  |some ([.lst xs,.lst ys],ρ2)=>some (gh xs ys,ρ2)
  |_=>none)
 |none=>none
end Dm
namespace Br
open PySem PySem.Spec PyProof.Rows L2
theorem vn{X:Cx}{pins:List (Addr×Obj)}{σ:L2.St}{H:Hp}{s:Shared}{h':Heap}{t':Nat}{fp:List Addr}(I:Inv X pins σ H s)(hf:∀b∈fp,oz X pins H b)
  (k:∀b u,b∉fp->s.heap.get? b=some u->h'.get? b=some u):Inv X pins σ H { s with heap:=h',toks:=t' }:=by
 have nf:∀b u,H b=some u->b∉fp:=fun b u e z=>by rw[(hf b z).1]at e;cases e
 have nL:X.env.locals∉fp:=fun z=>(hf _ z).2.1 rfl
 refine I.step (g':=s.gens) (d':=s.drawn) (ch:=fp) (fun b hb=>?_) (fun b u _ _ hc e _=>k b u hc e) (fun b u _ _ hc e _=>⟨u.slots,k b u hc e⟩)
  (fun b u _ e n=>n) (fun b u hc e=>⟨u,k b u hc e⟩)
  (fun b xs q=>q) (fun b u xs q=>q) (fun b ps q=>⟨#[],by rw[q];simp⟩) (fun m hm=>?_) (fun b u e=>?_) I.bare
 ·obtain⟨f0,f1,f2,f3,f4,f5⟩:=hf b hb
  exact⟨f3,f1,f4,f5⟩
 ·obtain⟨o,es,ep,ho,r⟩:=hm
  exact⟨o,es,ep,k _ o nL ho,r⟩
 ·refine(I.hok b u e).stay (fun c v hc q=>k c v ?_ q) (fun c q=>q) fun c xs q=>q
  rcases hc with z | z
  ·rw[z];exact nf b u e
  ·exact nf c _ z
noncomputable def Itz(K:PySem.W.Frag)(a b:Addr):It:=
 ⟨fun i H=>∃ xs ys x y,SqL K H a xs∧SqL K H b ys∧xs[i]?=some x∧ys[i]?=some y,
  fun i H r H'=>∃p x y,H p=none/\r=.ref p/\H'=upd H p (.tup [x,y])/\(∀xs,SqL K H a xs->xs[i]?=some x)/\∀ys,SqL K H b ys->ys[i]?=some y,
  fun i H=>∃xs ys,SqL K H a xs/\SqL K H b ys/\(xs.length<=i\/ys.length<=i)⟩
theorem fJ{h:Heap}{a b:Addr}{o o':Obj}(ha:h.get? a=some o)(hb:h.get? b=some o')(n:o.cls≠o'.cls):a≠b:=fun z=>by subst z;rw[ha]at hb;cases hb;exact n rfl
structure qu(z TI TO i1 i2:Addr):Prop where
 TIz:TI≠z
 TOz:TO≠z
 i1z:i1≠z
 i2z:i2≠z
 TITO:TI≠TO
 TIi1:TI≠i1
 TIi2:TI≠i2
 TOi1:TO≠i1
 TOi2:TO≠i2
 i12:i1≠i2
noncomputable def Bq(a b z TI TO i1 i2:Addr)(i:Nat)(h:Heap):Prop:=IsZip h z TI TO .none/\IsPair h TI (.ref i1) (.ref i2)/\(∃x y,IsPair h TO x y)/\h.IsListIter i1 a i/\h.IsListIter i2 b i
theorem sd{h:Heap}{a b z TI TO i1 i2:Addr}{i:Nat}{xs ys:Array Value}(F:qu z TI TO i1 i2)(st:Bq a b z TI TO i1 i2 i h)(ha:h.IsList a xs)(hb:h.IsList b ys):ZipApart z TI TO i1 i2 a b:=by
 obtain⟨s1,s2,⟨x,y,s3⟩,s4,s5⟩:=st;obtain⟨o4,e4,c4,_⟩:=s4;obtain⟨o5,e5,c5,_⟩:=s5;obtain⟨oa,ea,ca,_⟩:=ha;obtain⟨ob,eb,cb,_⟩:=hb;have d:∀{n m:String},n≠m->(Value.type n)≠(Value.type m):=fun q z=>q (by injection z)
 exact ⟨F.TIz,F.TOz,F.i1z,F.i2z,F.TITO,F.TIi1,F.TIi2,F.TOi1,F.TOi2,F.i12,
  fJ ea s1 (by rw[ca];exact d (by decide)),fJ ea s3 (by rw[ca];exact d (by decide)),fJ ea e4 (by rw[ca,c4];exact d (by decide)),fJ ea e5 (by rw[ca,c5];exact d (by decide)),
  fJ eb s1 (by rw[cb];exact d (by decide)),fJ eb s3 (by rw[cb];exact d (by decide)),fJ eb e4 (by rw[cb,c4];exact d (by decide)),fJ eb e5 (by rw[cb,c5];exact d (by decide))⟩
theorem Bs{P:Program}{w:World}{K:PySem.W.Frag}{elts:List Expr}{x1}{tp:Pos}(a b z TI TO i1 i2:Addr)(F:qu z TI TO i1 i2):Turn P w K (.Tuple elts x1 tp) (Itz K a b) [z,TI,TO,i1,i2] z (Bq a b z TI TO i1 i2) where
 mem:=by simp
 obj:=fun i h st c hc=>by
  obtain⟨s1,s2,⟨x,y,s3⟩,⟨o4,e4,c4,d4⟩,⟨o5,e5,c5,d5⟩⟩:=st;simp only[List.mem_cons,List.not_mem_nil,or_false]at hc;rcases hc with rfl | rfl | rfl | rfl | rfl
  ·exact⟨_,s1,fun v q=>by have q':Data.fields _=Data.cell v:=q;cases q'⟩
  ·exact⟨_,s2,fun v q=>by have q':Data.seq _ _=Data.cell v:=q;cases q'⟩
  ·exact⟨_,s3,fun v q=>by have q':Data.seq _ _=Data.cell v:=q;cases q'⟩
  ·exact⟨o4,e4,fun v q=>by rw[d4]at q;cases q⟩
  ·exact⟨o5,e5,fun v q=>by rw[d5]at q;cases q⟩
 keep:=fun i h h' st k=>by obtain⟨s1,s2,⟨x,y,s3⟩,s4,s5⟩:=st;exact⟨k z (by simp) _ s1,k TI (by simp) _ s2,⟨x,y,k TO (by simp) _ s3⟩,s4.at fun o q=>k i1 (by simp) o q,s5.at fun o q=>k i2 (by simp) o q⟩
 item:=by
  intro X hP hw hK hc i pins s σ H E I hf st hg;subst hP hw hK;obtain⟨xs,ys,x,y,hq,hq',hx,hy⟩:=hg;obtain⟨its,rv,p,hz⟩:=I.list hq;obtain⟨its',rv',p',hz'⟩:=I.list hq';obtain⟨u,hu,ru⟩:=rv.get hx;obtain⟨u',hu',ru'⟩:=rv'.get hy;have D:=sd F st p.isList p'.isList;obtain⟨s1,s2,⟨o1,o2,s3⟩,s4,s5⟩:=st;have lt:∀{c o},s.heap.get? c=some o->c<s.heap.objs.size:=fun q=>Heap.lt_size q
  have l1:=lt s1;have l2:=lt s2;have l3:=lt s3;have l4:i1<s.heap.objs.size:=by obtain⟨_,q,_⟩:=s4;exact lt q
  have l5:i2<s.heap.objs.size:=by obtain⟨_,q,_⟩:=s5;exact lt q
  refine wpAny_pyNext_zip_item D s1 s2 s3 s4 s5 p.isList p'.isList (x:=u) (y:=u') (by simpa using hu) (by simpa using hu') fun h1 a1 a2 a3 a4 a5 a6 hk=>?_
  refine⟨_,rfl,wpAny_letOwnedTupleGo_zip a1 fun h2 z2 hs2=>?_⟩;have ht2:h2.get? s.heap.objs.size=some { cls:=.type "tuple",data:=.seq #[u,u'] }:=(hs2.2 _ (Nat.ne_of_gt l1)).trans a5;have k2:∀c o,c∉[z,TI,TO,i1,i2]->s.heap.get? c=some o->h2.get? c=some o:=fun c o hc q=>by simp only[List.mem_cons,List.not_mem_nil,or_false,not_or]at hc;exact(hs2.2 c hc.1).trans (hk c o hc.1 hc.2.2.1 hc.2.2.2.1 hc.2.2.2.2 q)
  have hn:H s.heap.objs.size=none:=I.hok.fresh (Nat.le_refl _);have I2:Inv X pins σ (upd H s.heap.objs.size (.tup [x,y])) { s with heap:=h2,toks:=s.toks }:=
   o8 I hf k2 (Nat.le_refl _) ⟨by simp[sizeLine],[u,u'],.cons ru (.cons ru' .nil),_,ht2,rfl,_,rfl⟩
  refine⟨.ref s.heap.objs.size,_,I2,rfl,⟨_,x,y,hn,rfl,rfl,fun vs hv=>by rw[I.ff hv hq];exact hx,fun vs hv=>by rw[I.ff hv hq'];exact hy⟩,⟨z2,?_,⟨_,_,hs2.extBut _ _ D.TOz a2⟩,?_,?_⟩,fun c hc=>?_⟩
  ·exact hs2.extBut _ _ D.TIz (hk TI _ D.TIz D.TITO D.TIi1 D.TIi2 s2)
  ·exact a3.extBut hs2.extBut D.i1z
  ·exact a4.extBut hs2.extBut D.i2z
  ·have hc1:c≠s.heap.objs.size:=fun q=>by
    simp only[List.mem_cons,List.not_mem_nil,or_false]at hc;rcases hc with r | r | r | r | r
    ·subst r;rw[q]at l1;exact Nat.lt_irrefl _ l1
    ·subst r;rw[q]at l2;exact Nat.lt_irrefl _ l2
    ·subst r;rw[q]at l3;exact Nat.lt_irrefl _ l3
    ·subst r;rw[q]at l4;exact Nat.lt_irrefl _ l4
    ·subst r;rw[q]at l5;exact Nat.lt_irrefl _ l5
   rw[aA hc1];exact(hf c hc).1
 done:=by
  intro X hP hw hK hc i pins s σ H E I hf st hg;subst hP hw hK;obtain⟨xs,ys,hq,hq',hx⟩:=hg;obtain⟨its,rv,p,hz⟩:=I.list hq;obtain⟨its',rv',p',hz'⟩:=I.list hq';have hl:=rv.length;have hl':=rv'.length;have D:=sd F st p.isList p'.isList;obtain⟨s1,s2,⟨o1,o2,s3⟩,s4,s5⟩:=st;refine wpAny_pyNext_zip_end (I.ok.hd hc) D s1 s2 s3 s4 s5 p.isList p'.isList ?_ fun h' hk=>⟨rfl,vn (t':=s.toks) I hf fun c o hc q=>?_⟩
  ·rcases hx with hx | hx
   ·exact .inl (by simp;omega)
   ·exact .inr (by simp;omega)
  ·simp only[List.mem_cons,List.not_mem_nil,or_false,not_or]at hc
   exact hk c o hc.1 hc.2.2.1 hc.2.2.2.1 hc.2.2.2.2 q
 self:=fun A i s Q E st h=>wpAny_pyIter_zip st.1 h
noncomputable def G8(K:PySem.W.Frag)(ta:TA):TI:=fun σ H R=>ta σ H fun vs H1=>∃a b,vs=[.ref a,.ref b]/\(∃xs,SqL K H1 a xs)/\(∃ys,SqL K H1 b ys)/\R (Itz K a b) H1
section
variable{X:Cx}{l l':Expr}{ta:TA}{p pos:Pos}{elts:List Expr}{x1:Nat}{tp:Pos}
theorem JO(hg:Gl X "zip")(hm:X.mg "zip" = none)(ha:PA X [l,l'] ta)(hs:starEach [l,l'] X.env=(false,eval l X.env)::starEach [l'] X.env:=by rfl)(hs2:(backTo pos (starEach [l'] X.env)).any (·.1)=false:=by rfl) :
  PI X (.Tuple elts x1 tp) (.Call (.Name "zip" p) [l,l'] [] pos) (G8 X.K ta):=by
 intro pins s σ H R I h;refine Call_ (cS I hg hm boot_zip (PyProof.Rows.callWith_type1 (thn (ha pos pins s σ H _ I h) fun us s1 ⟨vs,H1,I1,r1,q1⟩=>?_) hs hs2));obtain⟨a,b,e,⟨xs,hq⟩,⟨ys,hq'⟩,q⟩:=q1;subst e;obtain⟨v1,v2,rfl,r,r'⟩:=vals2 r1;cases r;cases r';obtain⟨its,rv,pl,hz⟩:=I1.list hq;obtain⟨its',rv',pl',hz'⟩:=I1.list hq';refine call_zip_2 pl.isList pl'.isList fun h' e1 e2 e3 e4 e5 hsz k=>?_
 have I2:Inv X pins σ H1 { s1 with heap:=h' }:=I1.kept (t':=s1.toks) k;have F:qu (s1.heap.objs.size+4) (s1.heap.objs.size+2) (s1.heap.objs.size+3) s1.heap.objs.size (s1.heap.objs.size+1):=by constructor<;>first | exact Nat.ne_of_lt (by omega) | exact Nat.ne_of_gt (by omega)
 have T:=Bs (P:=X.prog) (w:=X.w) (K:=X.K) (elts:=elts) (x1:=x1) (tp:=tp) a b _ _ _ _ _ F;have st:Bq a b (s1.heap.objs.size+4) (s1.heap.objs.size+2) (s1.heap.objs.size+3) s1.heap.objs.size (s1.heap.objs.size+1) 0 h':=⟨e1,e2,⟨_,_,e3⟩,e4,e5⟩
 refine T.self X.A 0 { s1 with heap:=h' } _ X.xe st ?_;refine⟨s1.heap.objs.size+4,_,_,_,H1,rfl,I2,T,st,fun c hc=>?_,q⟩;have:s1.heap.objs.size<=c:=by simp only[List.mem_cons,List.not_mem_nil,or_false]at hc;rcases hc with r | r | r | r | r<;>(rw[r];first | exact Nat.le_add_right _ _ | exact Nat.le_refl _)
 exact I1.uR this (I1.hok.fresh this)
end
theorem xA:∀(xs ys:List Dm.Dat),(Dm.gh xs ys).length=min xs.length ys.length
 |[],_=>by simp[Dm.gh]
 |_::_,[]=>by simp[Dm.gh]
 |x::xs,y::ys=>by simp[Dm.gh,xA xs ys]
theorem zip_get:∀(xs ys:List Dm.Dat) (j:Nat) (d:Dm.Dat),(Dm.gh xs ys)[j]?=some d->∃x y,xs[j]?=some x/\ys[j]?=some y/\d=.tup [x,y]
 |[],_,_,_,h=>by simp[Dm.gh]at h
 |_::_,[],_,_,h=>by simp[Dm.gh]at h
 |x::xs,y::ys,0,d,h=>by cases h;exact⟨x,y,rfl,rfl,rfl⟩
 |x::xs,y::ys,j+1,d,h=>zip_get xs ys j d h
theorem JP{K:PySem.W.Frag}{H0:Hp}{a b:Addr}{xs ys:List V}{ds es:List Dm.Dat}(hq:Rd H0 a (.lst xs))(rs:aB H0 xs ds)(hq':Rd H0 b (.lst ys))(rs':aB H0 ys es):JW (Itz K a b) H0 (Dm.gh ds es):=by
 intro H0' H s0 s1;have q:SqL K H a xs:=.inl (au.rd s1 (au.rd s0 hq));have q':SqL K H b ys:=.inl (au.rd s1 (au.rd s0 hq'));refine⟨fun i hi=>⟨xs,ys,q,q',?_⟩,fun i d e=>?_⟩
 ·rw[xA]at hi
  have:=rs.length;have:=rs'.length;omega
 obtain⟨x,y,hx,hy,rfl⟩:=zip_get ds es i d e;obtain⟨v,hv,rv⟩:=rs.get hx;obtain⟨v',hv',rv'⟩:=rs'.get hy;refine⟨⟨xs,ys,v,v',q,q',hv,hv'⟩,fun r H' z=>?_⟩;obtain⟨p,u,u',hn,rfl,rfl,z1,z2⟩:=z;have w1:=z1 xs q;have w2:=z2 ys q';rw[hv]at w1;rw[hv']at w2;cases w1;cases w2;have g:=aI.EF (o:=HO.tup [v,v']) s1 hn;exact⟨_,g,.tup av (.cons ((rv.mono s0).mono g.s0) (.cons ((rv'.mono s0).mono g.s0) .nil))⟩
section
variable{σ:L2.St}{H:Hp}{R:It->Hp->Prop}
theorem JQ{K:PySem.W.Frag}{f g:Dm.FE}(h:tDI (Dm.E7 f g) σ H R):G8 K (tDA [f,g]) σ H R:=by
 obtain⟨H0,ρ,ys,ρ',st,e,k⟩:=h;unfold Dm.E7 at e;split at e
 ·rename_i vs ρ1 e1
  split at e
  ·rename_i xs zs ρ2 e2
   cases e;refine⟨H0,ρ,vs,ρ1,st,e1,fun us H0' H' t r=>?_⟩;obtain⟨H1,t1,b1,r1⟩:=takes t (au.refl _) r e2;cases r1 with
   |cons q1 rr=>
    cases rr with
    |cons q2 rr=>
     cases rr;cases q1 with
     |lst q rs=>
      cases q2 with
      |lst q' rs'=>exact⟨_,_,rfl,⟨_,.inl (au.rd t1.st.same q)⟩,⟨_,.inl (au.rd t1.st.same q')⟩,k _ H1 H' t1 (JP q rs q' rs')⟩
  ·cases e
 ·cases e
end
section
variable{X:Cx}{a b:Expr}{fa fb:Dm.FE}{p pos:Pos}{elts:List Expr}{x1:Nat}{tp:Pos}
theorem MK(hg:Gl X "zip")(hm:X.mg "zip" = none)(ha:DA X [a,b] [fa,fb])(hs:starEach [a,b] X.env=(false,eval a X.env)::starEach [b] X.env:=by rfl)(hs2:(backTo pos (starEach [b] X.env)).any (·.1)=false:=by rfl) :
  DI X (.Tuple elts x1 tp) (.Call (.Name "zip" p) [a,b] [] pos) (Dm.E7 fa fb):=PI.weak (JO hg hm ha hs hs2) fun _ _ _=>JQ
end
end Br
namespace Dm
noncomputable def fnM(n m:Nat)(body:FS)(ds:List Dat):Option (RV×Dat):=if ds.length=n then (match ds with
 | d::r=>(match body (Cell.ow d::(r.map Cell.sh++List.replicate m .un)) with
  | some (.ret z ρ')=>(match ρ'[0]? with
   |some (Cell.ow d')=>some (z,d')
   |_=>none)
  | some (.nx ρ')=>(match ρ'[0]? with
   |some (Cell.ow d')=>some (.val .non,d')
   |_=>none)
  |_=>none)
 |[]=>none) else none
noncomputable def flat:Dat->Bool
 |.tup xs=>xs.all fun x=>!dS x
 |d=>!dS d
noncomputable def vp:Dat->Bool
 |.lst xs=>xs.all fun x=>!dS x
 |_=>false
noncomputable def eFm(f:List Dat->Option (RV×Dat))(j:Nat)(as:List FE):FE:=fun ρ=>match ρ[j]? with
 | some (.ow _)=>(match eAs as ρ with
  |none=>none
  | some (xs,ρ1)=>(match ρ1[j]? with
   | some (.ow d1)=>(match tks ρ1 xs with
    |none=>none
    | some (ds,ρ2)=>(match ρ2[j]? with
     | some (.ow d)=>(match f (d::ds) with
      |none=>none
      |some (v,d')=>if flat v.dat&&vp d' then some (v.bD,ρ1.set j (.ow d')) else some (v.bD,ρ2.set j (.ow d')))
     |_=>none))
   |_=>none))
 |_=>none
end Dm
namespace Br
open PySem PySem.Spec PyProof.Rows L2
noncomputable def spM(f:List Dm.Dat->Option (Dm.RV×Dm.Dat)):Sp:=fun vs H Q _=>∃H0 a us d ds z d',vs=V.ref a::us/\au H0 H/\H0 a=none/\Own H0 H a d/\aB H0 us ds/\f (d::ds)=some (z,d') /\
 ∀v H0' H',Stp (fun b=>b=a) H0 H H0' H'->au H0' H'->H0' a=none->Own H0' H' a d'->rS H H0' H' v z->Q v H'
theorem dM{n m:Nat}{body:Dm.FS}{vs:List V}{H:Hp}{Q:VK}{E:XK}(h:spM (Dm.fnM n m body) vs H Q E):vs.length=n:=by
 obtain⟨H0,a,us,d,ds,z,d',e,_,_,_,rs,ef,_⟩:=h;unfold Dm.fnM at ef;split at ef
 ·rename_i hl
  rw[e,List.length_cons,rs.length]
  simpa using hl
 ·cases ef
theorem aD.jJ{H0 H:Hp}{σ:L2.St}{ρ:Dm.Env}{j:Nat}{a:Addr}{d:Dm.Dat}(st:aD H0 H σ ρ)(q:σ[j]?=some (some (V.ref a)))(no:¬ak σ ρ a)(n0:H0 a=none)(w:Own H0 H a d):aD H0 H σ (ρ.set j (.ow d)):=by
 have:=st.AW (i:=j) no n0 w;have e:σ.set j (some (V.ref a))=σ:=by
  apply List.ext_getElem?;intro i;by_cases h:j=i
  ·subst h
   have hl:j<σ.length:=(List.getElem?_eq_some_iff.mp q).1;rw[List.getElem?_set_self hl,q]
  ·rw[List.getElem?_set_ne h]
 rw[e]at this;exact this
theorem aD.off{H0 H H0' H':Hp}{σ:L2.St}{ρ:Dm.Env}{a:Addr}(st:aD H0 H σ ρ)(s0:au H0 H0')(ss:au H0' H')(no:¬ak σ ρ a)(s1:∀b o,H b=some o->b≠a->H' b=some o)(s2:∀(i:Nat) (d:Dm.Dat) (b:Addr),ρ[i]?=some (Dm.Cell.ow d)->σ[i]?=some (some (V.ref b))->H0' b=none):aD H0' H' σ ρ where
 same:=ss
 len:=st.len
 sh:=fun i d e=>by obtain⟨v,q,r⟩:=st.sh i d e;exact⟨v,q,r.mono s0⟩
 ow:=fun i d e=>by
  obtain⟨b,q,n,w⟩:=st.ow i d e;obtain⟨o,z⟩:=w.some;have nb:b≠a:=fun y=>no ⟨i,d,e,y▸q⟩
  exact⟨b,q,s2 i d b e q,w.mono s0 ((s1 b o z nb).trans z.symm)⟩
 dis:=st.dis
theorem d8{H0 H1:Hp}:∀{xs:List V} {ds:List Dm.Dat},aB H0 xs ds->(ds.all fun x=>!Dm.dS x)=true->aB H1 xs ds
 |_,_,.nil,_=>.nil
 |_,_,.cons r rs,h=>by rw[List.all_cons,Bool.and_eq_true]at h;exact .cons (Rep.plain r (by simpa using h.1)) (d8 rs h.2)
section
variable{σ:L2.St}{H:Hp}{Q:VK}
theorem E8{f:List Dm.Dat->Option (Dm.RV×Dm.Dat)}{j:Nat}{fs:List Dm.FE}{E:XK}(h:tD (Dm.eFm f j fs) σ H Q):rG (spM f) [] E (tDA (Dm.eV j::fs)) σ H Q:=by
 obtain⟨H0,ρ,x,ρ',st,e,k⟩:=h;unfold Dm.eFm at e;split at e
 case h_2=>cases e
 rename_i d0 h0;split at e
 ·cases e
 rename_i xs ρ1 e1;split at e
 case h_2=>cases e
 rename_i d1 h1;split at e
 ·cases e
 rename_i ds ρ2 e2;split at e
 case h_2=>cases e
 rename_i d h2;split at e
 ·cases e
 rename_i z d' fz;have ea:Dm.eAs (Dm.eV j::fs) ρ=some (.slot j::xs,ρ1):=by unfold Dm.eAs;rw[show Dm.eV j ρ=some (.slot j,ρ) from by unfold Dm.eV;rw[h0]];dsimp only;rw[e1]
 refine⟨H0,ρ,.slot j::xs,ρ1,st,ea,fun vs H1 Hb t1 r1=>?_⟩;dsimp only;rw[List.append_nil];cases r1 with
 |cons r0 rr=>
  obtain⟨H2,t2,b2,r2⟩:=takes t1 (au.refl _) rr e2;obtain⟨a,qa,na,wa⟩:=t2.st.ow j d h2;obtain⟨q0,_⟩:=r0;rw[qa]at q0;cases q0;obtain⟨a1,qa1,na1,wa1⟩:=t1.st.ow j d1 h1;rw[qa]at qa1;cases qa1;obtain⟨oa,ha⟩:=wa.some;have hl2:j<ρ2.length:=(List.getElem?_eq_some_iff.mp h2).1;have hl1:j<ρ1.length:=(List.getElem?_eq_some_iff.mp h1).1;have oa0:ak σ ρ a:=t1.own a ⟨j,d1,h1,qa⟩;refine⟨H2,a,_,d,ds,z,d',rfl,t2.st.same,na,wa,r2,fz,fun v H3 Hd s3 ss n3 w3 r3=>?_⟩;have no2:¬ak σ (ρ2.set j .un) a:=fun y=>by obtain⟨i,d4,hi,y1,y2⟩:=cA y;exact hi (t2.st.dis i j d4 d a y1 h2 y2 qa)
  have no1:¬ak σ (ρ1.set j .un) a:=fun y=>by obtain⟨i,d4,hi,y1,y2⟩:=cA y;exact hi (t1.st.dis i j d4 d1 a y1 h1 y2 qa)
  split at e
  ·rename_i fl
   cases e;rw[Bool.and_eq_true]at fl;obtain⟨f1,f2⟩:=fl;have wp:∀H',Own H' Hd a d':=fun H'=>by
    cases d' with
    |lst ys=>obtain⟨us,y1,y2⟩:=w3;exact⟨us,y1,d8 y2 f2⟩
    |_=>cases f2
   have fin:∀H1':Hp,au H1 H1'->au H1' Hd->(∀b o,H1' b=some o->H1 b=some o\/((∃us,o=.tup us)/\H3 b=some o))->fy H H1' Hd σ (ρ1.set j (.ow d')) v z.bD->Q v Hd:=fun H1' m1 m2 m3 rv=>by
    have hd3:∀b,H1' b≠none->b≠a:=fun b hb y=>by
     subst y;cases y2:H1' b with
     |none=>exact hb y2
     |some o=>
      rcases m3 b o y2 with y3 | ⟨_,y3⟩
      ·rw[na1]at y3;cases y3
      ·rw[n3]at y3;cases y3
    have n1':H1' a=none:=by
     cases y:H1' a with
     |none=>rfl
     |some o=>exact absurd rfl (hd3 a (by rw[y];exact fun q=>nomatch q))
    have sm:aD H1' Hd σ (ρ1.set j .un):=by
     refine(t1.st.mask j).off m1 m2 no1 (fun b o y nb=>s3.s1 b o y nb) fun i d4 b y1 y2=>?_
     obtain⟨b',q',nb',w'⟩:=(t1.st.mask j).ow i d4 y1;rw[y2]at q';cases q';cases y:H1' b with
     |none=>rfl
     |some o=>
      rcases m3 b o y with y3 | ⟨⟨us,y4⟩,y3⟩
      ·rw[nb']at y3;cases y3
      ·subst y4
       have nb:b≠a:=hd3 b (by rw[y];exact fun q=>nomatch q);cases d4 with
       |lst _=>obtain⟨ws,z1,_⟩:=w';have z2:=s3.s1 b _ z1 nb;rw[ss _ _ y3]at z2;cases z2
       |dct _ _=>obtain⟨ws,z1,_⟩:=w';have z2:=s3.s1 b _ z1 nb;rw[ss _ _ y3]at z2;cases z2
       |_=>exact False.elim w'
    have sf:aD H1' Hd σ (ρ1.set j (.ow d')):=by have:=sm.jJ qa no1 n1' (wp H1');rw[List.set_set]at this;exact this
    refine k v H1' Hd ⟨sf,⟨t1.stp.s0.trans m1,fun b o y nb=>?_,fun b o y=>?_,fun b o y=>?_⟩,fun b y=>?_,fun i y=>?_⟩ rv
    ·have y1:=t1.stp.s1 b o y nb
     exact s3.s1 b o y1 fun q=>nb (by rw[q];exact oa0)
    ·rcases m3 b o y with y3 | ⟨_,y3⟩
     ·exact t1.stp.s2 b o y3
     ·rcases s3.s2 b o y3 with y4 | y4 | y4
      ·exact .inl (t1.stp.gone y4)
      ·exact t2.stp.s2 b o y4
      ·subst y4;rw[n3]at y3;cases y3
    ·obtain⟨o',y1⟩:=t1.stp.s3 b o y
     exact s3.s3 b o' y1
    ·obtain⟨i,d4,y1,y2⟩:=y
     by_cases hi:j=i
     ·subst hi
      rw[qa]at y2;cases y2;exact oa0
     ·rw[List.getElem?_set_ne hi]at y1
      exact t1.own b ⟨i,d4,y1,y2⟩
    ·trivial
   have m0:au H1 Hd:=fun b o y=>s3.s1 b o (t1.st.same _ _ y) fun q=>by rw[q,na1]at y;cases y
   cases z with
   |new d4=>
    obtain⟨_,_,_,_,w⟩:=r3;cases d4 with
    |lst _=>cases f1
    |dct _ _=>cases f1
    |_=>exact False.elim w
   |val d4=>
    have r3':Rep H3 v d4:=r3;cases d4 with
    |tup es=>
     cases r3' with
     |tup q rs=>
      rename_i a2 us;have rp:aB H1 us es:=d8 rs f1;refine fin (upd H1 a2 (.tup us)) (fun b o y=>?_) (fun b o y=>?_) (fun b o y=>?_) (.tup av (d8 rs f1))
      ·by_cases hb:b=a2
       ·subst hb
        have:=s3.s0 _ _ (b2 _ _ y);rw[q]at this;rw[av,this]
       ·rw[aA hb];exact y
      ·by_cases hb:b=a2
       ·subst hb
        rw[av]at y;cases y;exact ss _ _ q
       ·rw[aA hb]at y;exact m0 _ _ y
      ·by_cases hb:b=a2
       ·subst hb
        rw[av]at y;cases y;exact .inr ⟨⟨us,rfl⟩,q⟩
       ·rw[aA hb]at y;exact .inl y
    |lst _=>cases f1
    |dct _ _=>cases f1
    |exc _=>cases f1
    |fn _=>exact fin H1 (au.refl _) m0 (fun b o y=>.inl y) (Rep.plain r3' rfl)
    |non=>exact fin H1 (au.refl _) m0 (fun b o y=>.inl y) (Rep.plain r3' rfl)
    |bl _=>exact fin H1 (au.refl _) m0 (fun b o y=>.inl y) (Rep.plain r3' rfl)
    |int _=>exact fin H1 (au.refl _) m0 (fun b o y=>.inl y) (Rep.plain r3' rfl)
    |str _=>exact fin H1 (au.refl _) m0 (fun b o y=>.inl y) (Rep.plain r3' rfl)
  ·cases e
   have sm:aD H3 Hd σ (ρ2.set j .un):=by
    refine(t2.st.mask j).off s3.s0 ss no2 (fun b o y nb=>s3.s1 b o y nb) fun i d4 b y1 y2=>?_
    obtain⟨b',q',nb',w'⟩:=(t2.st.mask j).ow i d4 y1;rw[y2]at q';cases q';obtain⟨ob,hob⟩:=w'.some;cases y:H3 b with
    |none=>rfl
    |some o=>
     rcases s3.s2 b o y with y3 | y3 | y3
     ·rw[hob]at y3;cases y3
     ·rw[nb']at y3;cases y3
     ·exact absurd ⟨i,d4,y1,y3▸y2⟩ no2
   have sf:aD H3 Hd σ (ρ2.set j (.ow d')):=by have:=sm.jJ qa no2 n3 w3;rw[List.set_set]at this;exact this
   have of:∀b,ak σ (ρ2.set j (.ow d')) b->b=a\/ak σ ρ2 b:=fun b ⟨i,d4,y1,y2⟩=>by
    by_cases hi:j=i
    ·subst hi
     rw[qa]at y2;cases y2;exact .inl rfl
    ·rw[List.getElem?_set_ne hi]at y1
     exact .inr ⟨i,d4,y1,y2⟩
   refine k v H3 Hd ⟨sf,t2.stp.trans s3 (fun b y=>.inl (y▸oa0)),fun b y=>?_,fun i y=>?_⟩ ?_
   ·rcases of b y with y | y
    ·exact y▸oa0
    ·exact t2.own b y
   ·trivial
   ·cases z with
    |val d4=>exact r3
    |new d4=>
     obtain⟨b,y0,y1,y2,y3⟩:=r3;refine⟨b,y0,t2.stp.gone y1,fun y=>?_,y2,y3⟩;rcases of b y with y | y
     ·subst y;rw[ha]at y1;cases y1
     ·exact t2.st.bJ y1 y
end
theorem aN{X:Cx}{es:List Expr}{p pos px:Pos}{k:Nat}{F:Addr}{fd:FuncData}{ps:List Str}{g:List Dm.Dat->Option (Dm.RV×Dm.Dat)}{x y:Str}{j:Nat}{fs:List Dm.FE}(G:aO X.prog X.w X.K X.mg X.base CX0 k F fd ps (spM g))(hr:bA k X.A)(hg:Gl X x)(hm:X.mg x=some (.ref F))(hk:PySem.W.keepIn X.K (.ref F)=true)(hb:Binds X.K fd ps [])
  (ha:DA X (.Name y px::es) (Dm.eV j::fs)) (hdb:(x == ("__debug__" : Str))=false:=by decide) (he:starEach (.Name y px::es) X.env=(false,eval (.Name y px) X.env)::starEach es X.env:=by rfl) (hpl:(backTo pos (starEach es X.env)).any (·.1)=false:=by rfl) :
  DE X (.Call (.Name x p) (.Name y px::es) [] pos) (Dm.eFm g j fs):=PE.weak (kR G hr hg hm hk hb .nil (wX (X:=X)) ha hdb he hpl) fun _ _ _=>E8
theorem lV{N:List Str}{n m:Nat}{body:Dm.FS}{vs:List V}{H:Hp}{Q:VK}{E:XK}(hm:N.length=n+m)(h:spM (Dm.fnM n m body) vs H Q E) :
  tDS body { nx:=fun _ H'=>Q .non H',rt:=Q } (start N vs) H:=by
 have hvn:=dM h;obtain⟨H0,a,us,d,ds,z,d',e,s,na,wa,rs,ef,k⟩:=h;subst e;have hl:=rs.length;rw[List.length_cons]at hvn;have e0:(start N (V.ref a::us))[0]?=some (some (V.ref a)):=rfl;have get:∀{i:Nat} {c:Dm.Cell},(Dm.Cell.ow d::(ds.map Dm.Cell.sh++List.replicate m .un))[i]?=some c->(i=0/\c=.ow d)\/(∃i' d4,i=i'+1/\ds[i']?=some d4/\c=.sh d4)\/c=.un:=fun {i c} y=>by
  cases i with
  |zero=>cases y;exact .inl ⟨rfl,rfl⟩
  |succ i=>
   rw[List.getElem?_cons_succ]at y;by_cases hi:i<ds.length
   ·rw[List.getElem?_append_left (by simpa using hi),List.getElem?_map,List.getElem?_eq_getElem hi]at y
    cases y;exact .inr (.inl ⟨i,ds[i],rfl,List.getElem?_eq_getElem hi,rfl⟩)
   ·rw[List.getElem?_append_right (by simpa using hi),List.getElem?_replicate]at y
    split at y
    ·cases y;exact .inr (.inr rfl)
    ·cases y
 have ow0:∀{i:Nat} {d4:Dm.Dat},(Dm.Cell.ow d::(ds.map Dm.Cell.sh++List.replicate m .un))[i]?=some (.ow d4)->i=0/\d4=d:=fun {i d4} y=>by
  rcases get y with⟨y1,y2⟩ | ⟨_,_,_,_,y2⟩ | y2
  ·cases y2;exact⟨y1,rfl⟩
  ·cases y2
  ·cases y2
 have oa:∀b,ak (start N (V.ref a::us)) (Dm.Cell.ow d::(ds.map Dm.Cell.sh++List.replicate m .un)) b->b=a:=fun b ⟨i,d4,y1,y2⟩=>by obtain⟨y3,_⟩:=ow0 y1;subst y3;rw[e0]at y2;cases y2;rfl
 have st:aD H0 H (start N (V.ref a::us)) (Dm.Cell.ow d::(ds.map Dm.Cell.sh++List.replicate m .un)):=by
  refine⟨s,?_,fun i d4 y=>?_,fun i d4 y=>?_,fun i i' d4 d5 b y1 y2 _ _=>(ow0 y1).1.trans (ow0 y2).1.symm⟩
  ·unfold L2.start
   simp only[List.length_append,List.length_map,List.length_replicate,List.length_cons];omega
  ·rcases get y with⟨_,y2⟩ | ⟨i',d5,y1,y2,y3⟩ | y2
   ·cases y2
   ·cases y3
    subst y1;obtain⟨v,hv,r⟩:=rs.get y2;refine⟨v,?_,r⟩;have hi:i'<us.length:=(List.getElem?_eq_some_iff.mp hv).1;unfold L2.start;rw[List.getElem?_append_left (by simp;omega),List.getElem?_map,List.getElem?_cons_succ,hv];rfl
   ·cases y2
  ·obtain⟨y1,y2⟩:=ow0 y
   subst y1 y2;exact⟨a,e0,na,wa⟩
 have fin:∀{σ':L2.St} {ρ':Dm.Env} {H0' H':Hp},SSt (start N (V.ref a::us)) (Dm.Cell.ow d::(ds.map Dm.Cell.sh++List.replicate m .un)) H0 H σ' ρ' H0' H'->ρ'[0]?=some (.ow d')->Stp (fun b=>b=a) H0 H H0' H'/\H0' a=none/\Own H0' H' a d'/\ak σ' ρ' a:=fun {σ' ρ' H0' H'} t y=>by obtain⟨a',q',n',w'⟩:=t.st.ow 0 d' y;have fx:=t.fx;rw[e0,q']at fx;cases fx;exact⟨t.stp.wide fun b z=>oa b z,n',w',0,d',y,q'⟩
 unfold Dm.fnM at ef;split at ef
 case isFalse=>cases ef
 dsimp only at ef;split at ef
 ·rename_i z' ρ' e1
  split at ef
  case h_2=>cases ef
  rename_i d4 y;cases ef;refine⟨H0,_,_,st,e1,fun σ' v H0' H' t r no=>?_⟩;obtain⟨f1,f2,f3,f4⟩:=fin t y;refine k v H0' H' f1 t.st.same f2 f3 ?_;cases z with
  |val d5=>exact r
  |new d5=>
   obtain⟨b,y0,y1,y2,y3⟩:=r;refine⟨b,y0,?_,y2,y3⟩;rcases y1 with y1 | y1
   ·exact y1
   ·exact absurd f4 (oa b y1▸no d5 b rfl y0)
 ·rename_i ρ' e1
  split at ef
  case h_2=>cases ef
  rename_i d4 y;cases ef;refine⟨H0,_,_,st,e1,fun σ' H0' H' t=>?_⟩;obtain⟨f1,f2,f3,f4⟩:=fin t y;exact k _ H0' H' f1 t.st.same f2 f3 .non
 ·cases ef
end Br
namespace Dm
noncomputable def bx:List Int->List Dat->Int->Option Dat
 |k::ks,v::vs,i=>if k=i then some v else bx ks vs i
 |_,_,_=>none
noncomputable def xB:List Int->List Dat->Int->Dat->List Dat
 |k::ks,v::vs,i,d=>(if k=i then d else v)::xB ks vs i d
 |_,_,_,_=>[]
noncomputable def j_(ks:List Int)(i:Int):List Int:=if (ks.any fun k=>decide (k=i))=true then ks else ks++[i]
noncomputable def kc(ks:List Int)(vs:List Dat)(i:Int)(d:Dat):List Dat:=if (ks.any fun k=>decide (k=i))=true then xB ks vs i d else vs++[d]
noncomputable def eDn:FE:=fun ρ=>some (.new (.dct [] []),ρ)
noncomputable def gDx:Dat->Dat->Option RV
 |.dct ks vs,.int i=>(bx ks vs i).map .val
 |_,_=>none
noncomputable def zp:Dat->Dat->Option RV
 |.int i,.dct ks vs=>vB (bx ks vs i).isSome
 |_,_=>none
noncomputable def o9:Dat->Dat->Option RV
 |.int i,.dct ks vs=>vB (!(bx ks vs i).isSome)
 |_,_=>none
noncomputable def ji(a b:FE):FE:=fun ρ=>match a ρ with
 |none=>none
 |some (x,ρ1)=>match pk ρ1 x with
  | some (.dct _ _)=>(match b ρ1 with
   |none=>none
   |some (y,ρ2)=>match pk ρ2 x with
    | some (.dct ks vs)=>(match pk ρ2 y with
     |some (.int i)=>some (.val ((bx ks vs i).getD .non),ρ2)
     |_=>none)
    |_=>none)
  |_=>none
noncomputable def eD1(a b:FE):FE:=fun ρ=>match a ρ with
 | some (.val (.int i),ρ1)=>(match b ρ1 with
  |none=>none
  |some (x,ρ2)=>match tk ρ2 x with
   |none=>none
   |some (d,ρ3)=>some (.new (.dct [i] [d]),ρ3))
 |_=>none
noncomputable def kg(i:Nat)(j e:FE):FS:=fun ρ=>match e ρ with
 |none=>none
 |some (x,ρ1)=>match tk ρ1 x with
  |none=>none
  |some (d,ρ2)=>match ρ2[i]? with
   | some (.ow _)=>(match j ρ2 with
    | some (.val (.int k),ρ3)=>(match ρ3[i]? with
     |some (.ow (.dct ks vs))=>if ks.length<SZ then some (.nx (ρ3.set i (.ow (.dct (j_ ks k) (kc ks vs k d))))) else none
     |_=>none)
    |_=>none)
   |_=>none
end Dm
namespace Br
open PySem PySem.Spec PyProof.Rows L2
theorem dB{H0 H:Hp}(s:au H0 H){v:V}{ks:List Int}{ds:List Dm.Dat}(r:jF H0 H v (.dct ks ds)):∃a kvs,v=.ref a/\H a=some (.dK kvs)/\kvs.map (·.1)=ks.map Sum.inl/\aB H0 (kvs.map (·.2)) ds:=by
 rcases r with r | ⟨a,e,kvs,q,ek,rs⟩
 ·cases r with
  |dct q ek rs=>exact⟨_,_,rfl,s _ _ q,ek,rs⟩
 ·exact⟨a,kvs,e,q,ek,rs⟩
theorem qv{a b:Int}(h:¬a=b):¬(Sum.inl a:Key)=Sum.inl b:=fun q=>h (Sum.inl.inj q)
theorem fZ{H0:Hp}(i:Int):∀{kvs:List (Key×V)} {ks:List Int} {ds:List Dm.Dat},kvs.map (·.1)=ks.map Sum.inl->aB H0 (kvs.map (·.2)) ds ->
  (∃d v,Dm.bx ks ds i=some d/\gu kvs (Sum.inl i)=some v/\Rep H0 v d)\/(Dm.bx ks ds i=none/\gu kvs (Sum.inl i)=none)
 |[],[],_,_,r=>by cases r;exact .inr ⟨rfl,rfl⟩
 |[],_::_,_,e,_=>by cases e
 |_::_,[],_,e,_=>by cases e
 |(k0,v0)::kvs,k::ks,_,e,r=>by
  rw[List.map_cons]at r;cases r with
  |cons r0 rr=>
   rw[List.map_cons,List.map_cons]at e;injection e with e1 e2
   have e1:k0=Sum.inl k:=e1;subst e1;unfold Dm.bx;by_cases h:k=i
   ·subst h
    rw[if_pos rfl];exact .inl ⟨_,v0,rfl,iX rfl,r0⟩
   ·rw[if_neg h,iY (qv h)]
    exact fZ i e2 rr
theorem qw(i:Int):∀{kvs:List (Key×V)} {ks:List Int},kvs.map (·.1)=ks.map Sum.inl->(kvs.any fun kv=>decide (kv.1=Sum.inl i))=(ks.any fun k=>decide (k=i))
 |[],[],_=>rfl
 |[],_::_,e=>by cases e
 |_::_,[],e=>by cases e
 |(k0,v0)::kvs,k::ks,e=>by
  rw[List.map_cons,List.map_cons]at e;injection e with e1 e2
  have e1:k0=Sum.inl k:=e1;subst e1;rw[List.any_cons,List.any_cons,qw i e2]
  congr 1
  by_cases h:k=i
  ·subst h;simp
  ·have:=qv h;simp[h,this]
theorem xC{H0:Hp}(i:Int){v:V}{d:Dm.Dat}(rv:Rep H0 v d):∀{kvs:List (Key×V)} {ks:List Int} {ds:List Dm.Dat},kvs.map (·.1)=ks.map Sum.inl->aB H0 (kvs.map (·.2)) ds ->
  ((kvs.map fun kv=>if kv.1=Sum.inl i then (kv.1,v) else kv).map (·.1)=ks.map Sum.inl)/\aB H0 ((kvs.map fun kv=>if kv.1=Sum.inl i then (kv.1,v) else kv).map (·.2)) (Dm.xB ks ds i d)
 |[],[],_,_,r=>by cases r;exact⟨rfl,.nil⟩
 |[],_::_,_,e,_=>by cases e
 |_::_,[],_,e,_=>by cases e
 |(k0,v0)::kvs,k::ks,_,e,r=>by
  rw[List.map_cons]at r;cases r with
  |cons r0 rr=>
   rw[List.map_cons,List.map_cons]at e;injection e with e1 e2
   have e1:k0=Sum.inl k:=e1;subst e1;obtain⟨i1,i2⟩:=xC i rv e2 rr;unfold Dm.xB;by_cases h:k=i
   ·subst h
    rw[if_pos rfl,List.map_cons,List.map_cons,List.map_cons,i1];simp only[if_true];exact⟨trivial,.cons rv i2⟩
   ·rw[if_neg h,List.map_cons,List.map_cons,List.map_cons,i1]
    have:=qv h;simp only[this,if_false];exact⟨trivial,.cons r0 i2⟩
theorem JR{H0:Hp}(i:Int){v:V}{d:Dm.Dat}(rv:Rep H0 v d){kvs:List (Key×V)}{ks:List Int}{ds:List Dm.Dat}(e:kvs.map (·.1)=ks.map Sum.inl)(r:aB H0 (kvs.map (·.2)) ds) :
  (putK kvs (Sum.inl i) v).map (·.1)=(Dm.j_ ks i).map Sum.inl/\aB H0 ((putK kvs (Sum.inl i) v).map (·.2)) (Dm.kc ks ds i d):=by
 have ha:=qw i e;unfold putK Dm.j_ Dm.kc;rw[ha];cases hb:(ks.any fun k=>decide (k=i)) with
 |true=>simp only[if_true];exact xC i rv e r
 |false=>simp only[Bool.false_eq_true,if_false];rw[List.map_append,List.map_append,List.map_append,e];exact⟨rfl,r.append (.cons rv .nil)⟩
theorem ML:OpD (fun x y H Q=>∃a v,x=.ref a/\e8 H a y (some v)/\Q v H) Dm.gDx:=by
 intro H0 H x y dx dy z Q s rx ry e k;unfold Dm.gDx at e;split at e
 ·rename_i ks vs i
  cases aC ry;obtain⟨a,kvs,rfl,qa,ek,rs⟩:=dB s rx;rcases fZ i ek rs with⟨d,v,l1,l2,r⟩ | ⟨l1,_⟩
  ·rw[l1]at e
   cases e;refine⟨a,v,rfl,?_,k _ H0 H (aI.refl s) r⟩;have:=e8.k (k:=Sum.inl i) qa;rw[l2]at this;exact this
  ·rw[l1]at e;cases e
 ·cases e
theorem JS:OpD (fun y x H Q=>∃a o,x=.ref a/\e8 H a y o/\Q (.bl o.isSome) H) Dm.zp:=by
 intro H0 H x y dx dy z Q s rx ry e k;unfold Dm.zp at e;split at e
 ·rename_i i ks vs
  cases e;cases aC rx;obtain⟨a,kvs,rfl,qa,ek,rs⟩:=dB s ry;refine⟨a,_,rfl,e8.k (k:=Sum.inl i) qa,k _ H0 H (aI.refl s) ?_⟩;rcases fZ i ek rs with⟨d,v,l1,l2,r⟩ | ⟨l1,l2⟩
  ·rw[l1,l2];exact .bl _
  ·rw[l1,l2];exact .bl _
 ·cases e
theorem E9:OpD (fun y x H Q=>∃a o,x=.ref a/\e8 H a y o/\Q (.bl (!o.isSome)) H) Dm.o9:=by
 intro H0 H x y dx dy z Q s rx ry e k;unfold Dm.o9 at e;split at e
 ·rename_i i ks vs
  cases e;cases aC rx;obtain⟨a,kvs,rfl,qa,ek,rs⟩:=dB s ry;refine⟨a,_,rfl,e8.k (k:=Sum.inl i) qa,k _ H0 H (aI.refl s) ?_⟩;rcases fZ i ek rs with⟨d,v,l1,l2,r⟩ | ⟨l1,l2⟩
  ·rw[l1,l2];exact .bl _
  ·rw[l1,l2];exact .bl _
 ·cases e
section
variable{σ:L2.St}{H:Hp}{Q:VK}{D:Ends}
theorem O5(h:tD Dm.eDn σ H Q):AJ σ H Q:=by obtain⟨H0,ρ,x,ρ',st,e,k⟩:=h;cases e;intro p hp;have g:=aI.jG (o:=HO.dK []) st.same hp;exact k _ _ _ (.grow st g) ⟨p,rfl,hp,st.bJ hp,st.same.free hp,[],av,rfl,.nil⟩
theorem JT{fo fi:Dm.FE}(h:tD (Dm.ji fo fi) σ H Q):AO (tD fo) (tD fi) σ H Q:=by
 obtain⟨H0,ρ,x,ρ',st,e,k⟩:=h;unfold Dm.ji at e;split at e
 ·cases e
 rename_i x1 ρ1 e1;split at e
 case h_2=>cases e
 rename_i ks0 vs0 p0;split at e
 ·cases e
 rename_i y1 ρ2 e2;split at e
 case h_2=>cases e
 rename_i ks vs p1;split at e
 case h_2=>cases e
 rename_i i p2;cases e;refine⟨H0,ρ,x1,ρ1,st,e1,fun v H1 Hb t1 r1=>?_⟩;obtain⟨a,JU,rfl,qa0,_,_⟩:=dB t1.st.same (r1.look t1.st p0);refine⟨a,rfl,.inl ⟨JU,.inl qa0⟩,H1,ρ1,y1,_,t1.st,e2,fun u H2 Hc t2 r2=>?_⟩;have hu:=aC (r2.look t2.st p2);subst hu;obtain⟨a',kvs,ea,qa,ek,rs⟩:=dB t2.st.same ((r1.mono t2).look t2.st p1);cases ea;refine⟨_,e8.k (k:=Sum.inl i) qa,k _ H2 Hc (t1.trans t2) ?_⟩;rcases fZ i ek rs with⟨d,w,l1,l2,r⟩ | ⟨l1,l2⟩
 ·rw[l1,l2];exact r
 ·rw[l1,l2];exact Rep.non
theorem JV{i:Nat}{j f:Dm.FE}(h:tDS (Dm.kg i j f) D σ H):GV (lg i) (tD j) (tD f) D σ H:=by
 obtain⟨H0,ρ,o,st,e,k⟩:=h;unfold Dm.kg at e;split at e
 ·cases e
 rename_i x ρ1 e1;split at e
 ·cases e
 rename_i d ρ2 e2;split at e
 case h_2=>cases e
 rename_i d0 h2;split at e
 ·rename_i m ρ3 e3
  split at e
  ·rename_i ks vs h3
   split at e
   case isFalse=>cases e
   rename_i hz;cases e;refine⟨H0,ρ,_,ρ1,st,e1,fun v H0' H' t r=>?_⟩;obtain⟨H1,t1,b1,r1,_,_⟩:=take1 t (au.refl _) r e2;obtain⟨a0,q0,_,_⟩:=t1.st.ow i _ h2;refine⟨_,q0,H1,ρ2,_,ρ3,t1.st,e3,fun u H2 Hc t2 r2=>?_⟩;obtain⟨a,q,n,w⟩:=t2.st.ow i _ h3;rw[q0]at q;cases q;obtain⟨kvs,y,ek,rs⟩:=w;have hu:=Rep.isInt r2;subst hu;obtain⟨p1,p2⟩:=JR m (r1.mono t2.stp.s0) ek rs;have hlen:kvs.length=ks.length:=by
    have:=congrArg List.length ek
    simpa using this
   refine⟨a0,_,rfl,AH.k (k:=Sum.inl m) y (by rw[hlen];exact Nat.lt_of_lt_of_le hz (by decide)),?_⟩;have ow:ak σ ρ3 a0:=⟨i,_,h3,q0⟩
   have tt:=t1.trans t2;exact k σ H2 _ ⟨t2.st.write h3 q0 ⟨_,av,p1,p2⟩,tt.stp.trans (Stp.write ow) fun b z=>.inl (tt.own b z),fun b z=>.inl (tt.own b (bE h3 z)),rfl⟩
  ·cases e
 ·cases e
theorem O6{fa fb:Dm.FE}(h:tD (Dm.eD1 fa fb) σ H Q):GW [(tD fa,tD fb)] σ H Q:=by
 obtain⟨H0,ρ,x,ρ',st,e,k⟩:=h;unfold Dm.eD1 at e;split at e
 ·rename_i i ρ1 e1
  split at e
  ·cases e
  rename_i y ρ2 e2;split at e
  ·cases e
  rename_i d ρ3 e3;cases e;intro p hp;have n0:H0 p=none:=st.same.free hp;have no:¬ak σ ρ p:=st.bJ hp;refine⟨H0,ρ,_,ρ1,st.aside n0 no,e1,fun u H1 Hb t1 r1=>⟨H1,ρ1,y,ρ2,t1.st,e2,fun v H2 Hc t2 r2=>?_⟩⟩;have tt:=t1.trans t2;obtain⟨H3,t3,b3,r3,_,_⟩:=take1 tt (au.refl _) (r2.early fun a n=>t1.stp.gone n) e3;obtain⟨hp3,n3,no3⟩:=t3.dw (o:=HO.dK []) av n0 no;have hu:=Rep.isInt r1;subst hu;refine⟨hp3,[(Sum.inl i,v)],rfl,(by simp),?_⟩;have em:jC [] [((Sum.inl i:Key),v)]=[(Sum.inl i,v)]:=rfl;rw[em];refine k _ H3 _ ⟨t3.st.aside n3 no3,⟨t3.stp.s0,fun a o y nb=>?_,fun a o y=>?_,fun a o y=>?_⟩,t3.own,t3.dfn⟩ ⟨p,rfl,hp,no3,n3,_,av,rfl,.cons r3 .nil⟩
  ·have ne:a≠p:=fun q=>by rw[q,hp]at y;cases y
   rw[aA ne];exact t3.stp.s1 a o (by rw[aA ne];exact y) nb
  ·rcases t3.stp.s2 a o y with y1 | y1 | y1
   ·by_cases ne:a=p
    ·subst ne;rw[n3]at y;cases y
    ·rw[aA ne]at y1;exact .inl y1
   ·exact .inr (.inl y1)
   ·exact .inr (.inr y1)
  ·have ne:a≠p:=fun q=>by rw[q,hp]at y;cases y
   rw[aA ne];exact t3.stp.s3 a o (by rw[aA ne];exact y)
 ·cases e
end
theorem u1{k:Nat}{A:Around}(hr:bA k A):A.units+1<cLine:=Nat.lt_of_le_of_lt (Nat.add_le_add_left (by decide) _) hr.units
section
variable{X:Cx}{a b e:Expr}{fa fb f:Dm.FE}{pos:Pos}{k:Nat}
theorem O7:DE X (.Dict [] [] pos) Dm.eDn:=PE.weak AK fun _ _ _=>O5
theorem MM(ha:DE X a fa)(hb:DE X b fb):DE X (.Dict [some a] [b] pos) (Dm.eD1 fa fb):=PE.weak (EE (AL ha hb ED) rfl rfl (by simp) (by simp)) fun _ _ _=>O6
theorem E_(hr:bA k X.A)(ha:DE X a fa)(hb:DE X b fb)(hs:Jj b:=by intro _ _;rfl):DE X (.Subscript a b pos) (Dm.e2 Dm.gDx fa fb):=PE.weak (EB (u1 hr) ha hb hs) fun _ _ _=>u_ ML
theorem G9(hr:bA k X.A)(ha:DE X a fa)(hb:DE X b fb)(hm:behindInMarks .In b=false:=by rfl):DT X (.Compare a [.In] [b] pos) (Dm.tV (Dm.e2 Dm.zp fa fb)):=PT.weak (Ab (Jk (u1 hr) ha hb) hm) fun σ H Q h=>u_ JS (qk h)
theorem Bt(hr:bA k X.A)(ha:DE X a fa)(hb:DE X b fb)(hm:behindInMarks .NotIn b=false:=by rfl):DT X (.Compare a [.NotIn] [b] pos) (Dm.tV (Dm.e2 Dm.o9 fa fb)):=PT.weak (Ab (za (u1 hr) ha hb) hm) fun σ H Q h=>u_ E9 (qk h)
theorem vq{apos cpos:Pos}(hr:bA k X.A)(ha:DE X a fa)(hb:DE X b fb)(m:M1 X a "get" apos b cpos:=by exact⟨rfl,rfl,rfl,rfl⟩):DE X (.Call (.Attribute a "get" apos) [b] [] cpos) (Dm.ji fa fb):=PE.weak (AR (u1 hr) ha hb m) fun _ _ _=>JT
theorem vt(i:Nat){x:Str}{px sp:Pos}(hr:bA k X.A)(hb:DE X b fb)(he:DE X e f)(hi:X.N[i]?=some x:=by rfl)(hv:Vis X.env.scope x:=by first | exact Or.inl rfl | exact Or.inr (Or.inl rfl) | exact Or.inr (Or.inr rfl))(hd:(x == ("__debug__" : Str))=false:=by decide)
  (hcd:(x == ("__classdict__" : Str))=false:=by decide) (hs:swapsWith e (some (.Subscript (.Name x px) b sp)) pos.line X.env=pure false:=by rfl):DS X (.Assign [.Subscript (.Name x px) b sp] e pos) (Dm.kg i fb f):=
 PS.weak (EC (u1 hr) (dO hi hv hd hcd) hb he hs) fun _ _ _=>JV
end
end Br
namespace Dm
noncomputable def zq(i:Nat):FE:=fun ρ=>match ρ[i]? with
 | some (.ow (.lst ds))=>(match ds[ds.length-1]? with
  |some d=>some (.val d,ρ.set i (.ow (.lst (ds.take (ds.length-1)))))
  |none=>none)
 |_=>none
end Dm
namespace Br
open PySem PySem.Spec PyProof.Rows L2
theorem dropLast_take{α:Type}(l:List α):l.dropLast=l.take (l.length-1):=List.dropLast_eq_take
section
variable{σ:L2.St}{H:Hp}{Q:VK}
theorem MN{K:PySem.W.Frag}{i:Nat}(h:tD (Dm.zq i) σ H Q):Je K "list" LZ (lg i) σ H Q:=by
 obtain⟨H0,ρ,x,ρ',st,e,k⟩:=h;unfold Dm.zq at e;split at e
 case h_2=>cases e
 rename_i ds h0;split at e
 case h_2=>cases e
 rename_i d hd;cases e;obtain⟨a,q,n,xs,y,rs⟩:=st.ow i _ h0;refine⟨_,q,.inl ⟨rfl,xs,.inl (.inl y)⟩,?_⟩;have hl:=rs.length;obtain⟨v,hv,rv⟩:=rs.get hd;rw[<- hl]at hv;refine⟨a,xs,v,rfl,rfl,y,hv,?_⟩;rw[dropLast_take,hl];have ow:ak σ ρ a:=⟨i,_,h0,q⟩
 have hi:i<ρ.length:=(List.getElem?_eq_some_iff.mp h0).1;refine k v H0 _ ⟨st.write h0 q ⟨_,av,rs.take _⟩,Stp.write ow,fun b z=>bE h0 z,fun j z=>trivial⟩ rv
theorem O8{K:PySem.W.Frag}{f:Dm.FE}{Q:Bool->Hp->Prop}(h:tDT (Dm.tTr f) σ H Q):tD f σ H fun x H'=>∃k,IX K x H' k/\Q k H':=by
 obtain⟨H0,ρ,b,ρ',st,e,k⟩:=h;unfold Dm.tTr at e;split at e
 ·cases e
 rename_i x ρ1 e1;split at e
 ·cases e
 rename_i d p1;split at e
 ·cases e
 rename_i c tc;cases e;refine⟨H0,ρ,x,_,st,e1,fun v H1 Hb t1 r1=>⟨b,?_,k H1 Hb t1⟩⟩;have rl:=r1.look t1.st p1;cases d with
 |non=>
  cases tc;rcases rl with r | ⟨a,_,w⟩
  ·cases r;rfl
  ·exact False.elim w
 |bl c=>cases tc;cases xo rl;rfl
 |int i=>cases tc;cases aC rl;rfl
 |tup es=>cases tc;obtain⟨a,xs,rfl,qa,rs⟩:=ja t1.st.same rl;refine .inr (.inl ⟨xs,SqT.of qa,?_⟩);cases rs<;>rfl
 |lst es=>cases tc;obtain⟨a,xs,rfl,qa,rs⟩:=aX t1.st.same rl;refine .inl ⟨xs,.inl qa,?_⟩;cases rs<;>rfl
 |str _=>cases tc
 |dct _ _=>cases tc
 |exc _=>cases tc
 |fn _=>cases tc
end
section
variable{X:Cx}{a:Expr}{fa:Dm.FE}{p pos:Pos}
theorem MO(ha:DE X a fa)(he:∀whole,isTrue a X.env whole=(do let v <- whole;standAt a.pos;holding [v] (truthy v)):=by intro _;rfl):DT X a (Dm.tTr fa):=PT.weak (Aq ha he) fun _ _ _=>O8
theorem AI(i:Nat){x:Str}{px ap cp:Pos}(hi:X.N[i]?=some x:=by rfl)(hv:Vis X.env.scope x:=by first | exact Or.inl rfl | exact Or.inr (Or.inl rfl) | exact Or.inr (Or.inr rfl))(hd:(x == ("__debug__" : Str))=false:=by decide)
  (hcd:(x == ("__classdict__" : Str))=false:=by decide) (hbase:attributeBase (.Name x px) "pop" X.env (eval (.Name x px) X.env)=eval (.Name x px) X.env:=by rfl) (hline:(ap.endLine == cp.line)=true:=by rfl) :
  DE X (.Call (.Attribute (.Name x px) "pop" ap) [] [] cp) (Dm.zq i):=
 PE.weak (Ax PySem.F.plainAttrs_list PySem.F.slot_list_pop PySem.F.type_list_pop Jg (dO hi hv hd hcd) hbase hline) fun _ _ _=>MN
end
section
variable{X:Cx}{a b e:Expr}{fa fb f:Dm.FE}{fs:List Dm.FE}{p p2 pos:Pos}
end
end Br
namespace Dm
noncomputable def eU:List Dat->Option (List Int)
 |[]=>some []
 |.int i::r=>(eU r).map fun ns=>i::ns
 |_=>none
end Dm
namespace Br
open PySem PySem.Spec PyProof.Rows L2
theorem intsAre_of:∀{ns:List Int} {its:List Value},Vals (ns.map V.int) its->IntsAre its ns
 |[],_,r=>by cases r;exact .nil
 |n::ns,_,r=>by
  rw[List.map_cons]at r;cases r with
  |cons h t=>obtain⟨tk,rfl⟩:=h;exact .cons _ _ (intsAre_of t)
section
variable{X:Cx}
end
theorem lW{H0:Hp}:∀{ds:List Dm.Dat} {xs:List V} {ns:List Int},aB H0 xs ds->Dm.eU ds=some ns->xs=ns.map V.int
 |[],_,ns,r,e=>by cases r;cases e;rfl
 |d::ds,_,ns,r,e=>by
  cases r with
  |cons h t=>
   cases d with
   |int i=>
    unfold Dm.eU at e;cases q:Dm.eU ds with
    |none=>rw[q]at e;cases e
    |some ms=>rw[q]at e;cases e;cases Rep.isInt h;rw[lW t q];rfl
   |_=>cases e
section
variable{X:Cx}{e:Expr}{f:Dm.FE}{p p0 pos lU:Pos}
end
end Br
namespace Ts
open PySem PyProof.Rows
variable{M:Model}{A:Around}{E:Value->Shared->Prop}{s:Shared}{κ:KeyKind}{kd:SortKind}{a₀:Array Keyed}
noncomputable def qx(M:Model)(A:Around)(E:Value->Shared->Prop)(s:Shared)(κ:KeyKind)(kd:SortKind):Prop:=
 ∀(x y:Keyed) (a b:κ.α) (st:SortSt) (Q:Option Bool->SortSt->Prop),κ.keyOf x.1=some a->κ.keyOf y.1=some b->kindOf st=kd->Q (some (κ.blt a b)) st->wpS M A E s (lt' x y) Q st
structure SB(kd:SortKind)(a₀:Array Keyed)(st:SortSt):Prop where
 perm:(arrOf st).Perm a₀
 kind:kindOf st=kd
 failed:failedOf st=none
theorem SB.size{st:SortSt}(h:SB kd a₀ st):(arrOf st).size=a₀.size:=h.perm.size_eq
theorem SB.arr{st:SortSt}(h:SB kd a₀ st){xs:Array Keyed}(hp:xs.Perm (arrOf st)):SB kd a₀ (setArr st xs):=⟨hp.trans h.perm,h.kind,h.failed⟩
theorem SB.pend{st:SortSt}(h:SB kd a₀ st)(p:Array (Nat×Nat×Nat)):SB kd a₀ (setPending st p):=⟨h.perm,h.kind,h.failed⟩
theorem SB.keys{st:SortSt}(h:SB kd a₀ st)(h0:KeysOf κ a₀):KeysOf κ (arrOf st):=fun p hp=>h0 p ((Array.perm_iff_toList_perm.mp h.perm).mem_iff.mp hp)
theorem vv{xs:Array Keyed}(h:KeysOf κ xs){i:Nat}(hi:i<xs.size):∃p,xs[i]?=some p/\κ.keyOf p.1=some (KK κ xs i):=by refine⟨xs[i],getElem?_pos xs i hi,?_⟩;obtain⟨a,e⟩:=h xs[i] (by simp);unfold KK;rw[getElem?_pos xs i hi];dsimp only;rw[e];rfl
theorem o_(hL:qx M A E s κ kd){st:SortSt}(hB:SB kd a₀ st)(h0:KeysOf κ a₀){i j:Nat}(hi:i<a₀.size)(hj:j<a₀.size){Q:Option Bool->SortSt->Prop}
  (h:Q (some (κ.blt (KK κ (arrOf st) i) (KK κ (arrOf st) j))) st):wpS M A E s (ltAt' i j) Q st:=by
 obtain⟨p,ep,kp⟩:=vv (hB.keys h0) (i:=i) (by rw[hB.size];exact hi);obtain⟨q,eq,kq⟩:=vv (hB.keys h0) (i:=j) (by rw[hB.size];exact hj);rw[ltAt'_eq];refine wpS_bind (wpS_get ?_);show wpS _ _ _ _ (elem' (arrOf st) i >>= fun x=>elem' (arrOf st) j >>= fun y=>lt' x y) Q st;rw[elem'_eq,elem'_eq,ep,eq];exact wpS_bind (wpS_pure (wpS_bind (wpS_pure (hL p q _ _ st Q kp kq hB.kind h))))
noncomputable def Seg(κ:KeyKind)(xs:Array Keyed)(i j:Nat):Prop:=∀p q,i<=p->p<=q->q<j->κ.kle (KK κ xs p) (KK κ xs q)
noncomputable def zu(κ:KeyKind)(xs:Array Keyed)(i j:Nat):Prop:=∀p q,i<=p->p<=q->q<j->κ.kle (KK κ xs q) (KK κ xs p)
noncomputable def Out(xs ys:Array Keyed)(i j:Nat):Prop:=∀k,(k<i\/j<=k)->ys[k]?=xs[k]?
theorem Out.refl(xs:Array Keyed)(i j:Nat):Out xs xs i j:=fun _ _=>rfl
theorem Out.trans{xs ys zs:Array Keyed}{i j:Nat}(h:Out xs ys i j)(h':Out ys zs i j):Out xs zs i j:=fun k hk=>(h' k hk).trans (h k hk)
theorem Out.mono{xs ys:Array Keyed}{i j i' j':Nat}(h:Out xs ys i j)(h1:i'<=i)(h2:j<=j'):Out xs ys i' j':=fun k hk=>h k (by omega)
theorem d9{xs:Array Keyed}{i j:Nat}(hj:j<=xs.size):Out xs (mirror xs i j ((j-i) / 2)) i j:=fun k hk=>by rw[getElem?_mirror_all hj,if_neg (by omega)]
theorem vz{xs:Array Keyed}{src d:Nat}(hs:src<xs.size)(hd:d<=src):Out xs (bubble xs src d) (src-d) (src+1):=fun k hk=>by rw[getElem?_bubble hs d hd,if_neg (by omega),if_neg (by omega)]
theorem JX(hL:qx M A E s κ kd)(h0:KeysOf κ a₀){st:SortSt}(hB:SB kd a₀ st){lo n ok:Nat}(hn:lo+n<=a₀.size)(h1:1<=ok)(hok:ok<=n)(hs:Seg κ (arrOf st) lo (lo+ok)){Q:Bool->SortSt->Prop}
  (h:∀xs,xs.Perm (arrOf st)->Seg κ xs lo (lo+n)->Out (arrOf st) xs lo (lo+n)->Q true (setArr st xs)):wpS M A E s (binarySort' lo n ok) Q st:=by
 rw[binarySort'_eq];refine wpS_bind (wpS_mono (wpS_forRange (I:=fun k c st'=>c=(none,())/\∃xs,st'=setArr st xs/\xs.Perm (arrOf st)/\Seg κ xs lo (lo+k)/\Out (arrOf st) xs lo (lo+n)) (Q:=fun c st'=>c=(none,())/\∃xs,st'=setArr st xs/\xs.Perm (arrOf st)/\Seg κ xs lo (lo+n)/\Out (arrOf st) xs lo (lo+n)) ?step ?fin ?ini) ?post)
 case ini=>refine⟨rfl,arrOf st,rfl,Array.Perm.refl _,?_,Out.refl _ _ _⟩;rw[show max ok 1=ok by omega];exact hs
 case fin=>rintro c st' ⟨rfl,xs,rfl,hp,hsg,ho⟩;rw[show max (max ok 1) n=n by omega]at hsg;exact⟨rfl,xs,rfl,hp,hsg,ho⟩
 case post=>rintro c st' ⟨rfl,xs,rfl,hp,hsg,ho⟩;exact wpS_pure (h xs hp hsg ho)
 case step=>
  rintro k c st' hk1 hk2 ⟨rfl,xs,rfl,hp,hsg,ho⟩;dsimp only;have hB':SB kd a₀ (setArr st xs):=hB.arr hp;have hsz:xs.size=a₀.size:=hB'.size;refine wpS_bind (wpS_mono (wpS_forRange (I:=fun i c st'=>∃ l r,c=(none,l,r)∧st'=setArr st xs∧l≤r∧r≤k∧r-l≤k-i∧(∀ p,p<l→κ.kle (KK κ xs (lo+p)) (KK κ xs (lo+k)))∧(∀ p,r≤p→p<k→κ.klt (KK κ xs (lo+k)) (KK κ xs (lo+p))))
   (Q:=fun c st'=>∃l,c=(none,l,l)/\st'=setArr st xs/\l<=k/\(∀p,p<l->κ.kle (KK κ xs (lo+p)) (KK κ xs (lo+k)))/\(∀p,l<=p->p<k->κ.klt (KK κ xs (lo+k)) (KK κ xs (lo+p)))) ?st2 ?fi2 ⟨0,k,rfl,rfl,Nat.zero_le _,Nat.le_refl _,by omega,fun p hp=>by omega,fun p h1 h2=>by omega⟩) ?po2)
  case fi2=>
   rintro c st' ⟨l,r,rfl,rfl,h1,h2,h3,h4,h5⟩;have:l=r:=by omega
   subst this;exact⟨l,rfl,rfl,h2,h4,h5⟩
  case st2=>
   rintro i c st' _ hi ⟨l,r,rfl,rfl,h1,h2,h3,h4,h5⟩;dsimp only;by_cases hlr:l≥r
   ·rw[if_pos hlr]
    have:l=r:=by omega
    subst this;exact wpS_pure ⟨l,rfl,rfl,h2,h4,h5⟩
   ·rw[if_neg hlr]
    refine wpS_bind (o_ hL hB' h0 (by omega) (by omega) ?_);dsimp only;cases hb:κ.blt (KK κ (arrOf (setArr st xs)) (lo+k)) (KK κ (arrOf (setArr st xs)) (lo+(l+r) / 2))
    case true=>rw[if_pos rfl];refine wpS_pure ⟨l,(l+r) / 2,rfl,rfl,by omega,by omega,by omega,h4,fun p hp1 hp2=>?_⟩;exact KeyOrd.klt_of_klt_of_kle hb (hsg _ _ (by omega) (by omega) (by omega))
    case false=>rw[if_neg (by decide)];refine wpS_pure ⟨(l+r) / 2+1,r,rfl,rfl,by omega,h2,by omega,fun p hp1=>?_,h5⟩;exact KeyOrd.kle_trans (hsg _ _ (by omega) (by omega) (by omega)) hb
  case po2=>
   rintro c st' ⟨l,rfl,rfl,hlk,hlo,hhi⟩;dsimp only;rw[moveDown'_eq];have hd:lo+k-(lo+l)=k-l:=by omega
   have hsk:lo+k<xs.size:=by omega
   refine wpS_bind (wpS_modify (wpS_pure ⟨rfl,bubble xs (lo+k) (lo+k-(lo+l)),rfl,(bubble_perm _ _ _).trans hp,?_,ho.trans ((vz hsk (by omega)).mono (by omega) (by omega))⟩));intro p q h1 h2 h3;rw[KK_bubble hsk (by omega),KK_bubble hsk (by omega)];rw[show lo+k-(lo+k-(lo+l))=lo+l by omega];by_cases hp1:p=lo+l
   ·rw[if_pos hp1]
    by_cases hq1:q=lo+l
    ·rw[if_pos hq1];exact KeyOrd.kle_refl _
    ·rw[if_neg hq1,if_pos (by omega)]
     have:=hhi (q-1-lo) (by omega) (by omega);rw[show lo+(q-1-lo)=q-1 by omega]at this;exact KeyOrd.kle_of_klt this
   ·rw[if_neg hp1]
    by_cases hp2:lo+l<p/\p<=lo+k
    ·rw[if_pos hp2,if_neg (by omega),if_pos (by omega)]
     exact hsg _ _ (by omega) (by omega) (by omega)
    ·rw[if_neg hp2]
     by_cases hq1:q=lo+l
     ·rw[if_pos hq1]
      have:=hlo (p-lo) (by omega);rw[show lo+(p-lo)=p by omega]at this;exact this
     ·rw[if_neg hq1]
      by_cases hq2:lo+l<q/\q<=lo+k
      ·rw[if_pos hq2]
       exact hsg _ _ (by omega) (by omega) (by omega)
      ·rw[if_neg hq2]
       exact hsg _ _ (by omega) (by omega) (by omega)
end Ts
namespace Ts
open PySem PyProof.Rows
variable{M:Model}{A:Around}{E:Value->Shared->Prop}{s:Shared}{κ:KeyKind}{kd:SortKind}{a₀:Array Keyed}
noncomputable def upL(lo k nrem:Nat):StateT SortSt Sem (Option Nat):=do
 let mut m:=k
 for _ in [k:nrem] do
  let some c <- ltAt' (lo+m) (lo+m-1)
   |return none
  if c then break
  m:=m+1
 return some m
noncomputable def G_(lo k nrem:Nat):StateT SortSt Sem (Option Nat):=do
 rule "list.sort.descending-run"
 let mut m:=k+1
 let mut e:=0
 for _ in [k+1:nrem] do
  let some c <- ltAt' (lo+m) (lo+m-1)
   |return none
  if c then
   if e>0 then reverseSlice' (lo+m-(e+1)) (lo+m)
   e:=0
  else
   let some d <- ltAt' (lo+m-1) (lo+m)
    |return none
   if d then break
   e:=e+1
  m:=m+1
 if e>0 then reverseSlice' (lo+m-(e+1)) (lo+m)
 reverseSlice' lo (lo+m)
 let mut z:=m
 for _ in [m:nrem] do
  let some c <- ltAt' (lo+z) (lo+z-1)
   |return none
  if c then break
  z:=z+1
 return some z
theorem Fb{xs:Array Keyed}{i:Nat}:Seg κ xs i (i+1):=fun p q a b c=>by
 have:p=q:=by omega
 subst this;exact KeyOrd.kle_refl _
theorem se{xs:Array Keyed}{i n:Nat}(h:Seg κ xs i (i+n))(h1:1<=n)(hb:κ.kle (KK κ xs (i+n-1)) (KK κ xs (i+n))):Seg κ xs i (i+(n+1)):=fun p q a b c=>by
 by_cases hq:q<i+n
 ·exact h p q a b hq
 ·have:q=i+n:=by omega
  subst this;by_cases hp:p=i+n
  ·subst hp;exact KeyOrd.kle_refl _
  ·exact KeyOrd.kle_trans (h p (i+n-1) a (by omega) (by omega)) hb
theorem dW{xs:Array Keyed}{i n:Nat}(h:zu κ xs i (i+n))(h1:1<=n)(hb:κ.kle (KK κ xs (i+n)) (KK κ xs (i+n-1))):zu κ xs i (i+(n+1)):=fun p q a b c=>by
 by_cases hq:q<i+n
 ·exact h p q a b hq
 ·have:q=i+n:=by omega
  subst this;by_cases hp:p=i+n
  ·subst hp;exact KeyOrd.kle_refl _
  ·exact KeyOrd.kle_trans hb (h p (i+n-1) a (by omega) (by omega))
section
variable{prog:Program}{w:World}
theorem MP(hL:qx (model prog w) A E s κ kd)(h0:KeysOf κ a₀){st:SortSt}(hB:SB kd a₀ st){lo k nrem:Nat}(hn:lo+nrem<=a₀.size)(h1:1<=k)(hk:k<=nrem)(hs:Seg κ (arrOf st) lo (lo+k)){Q:Option Nat->SortSt->Prop}
  (h:∀n,k<=n->n<=nrem->Seg κ (arrOf st) lo (lo+n)->Q (some n) st):wpS (model prog w) A E s (upL lo k nrem) Q st:=by
 unfold upL;refine wpS_bind (wpS_mono (wpS_forRange (I:=fun i c st'=>c=(none,i)/\st'=st/\i<=nrem/\Seg κ (arrOf st) lo (lo+i)) (Q:=fun c st'=>∃n,c=(none,n)/\st'=st/\k<=n/\n<=nrem/\Seg κ (arrOf st) lo (lo+n)) ?st1 ?fi1 ⟨rfl,rfl,hk,hs⟩) ?po1)
 case fi1=>rintro c st' ⟨rfl,rfl,hle,hsg⟩;exact⟨_,rfl,rfl,by omega,hle,hsg⟩
 case st1=>
  rintro i c st' hi1 hi2 ⟨rfl,rfl,hle,hsg⟩;dsimp only;refine wpS_bind (o_ hL hB h0 (by omega) (by omega) ?_);dsimp only;cases hb:κ.blt (KK κ (arrOf st') (lo+i)) (KK κ (arrOf st') (lo+i-1))
  case true=>rw[if_pos rfl];exact wpS_pure ⟨i,rfl,rfl,hi1,hle,hsg⟩
  case false=>rw[if_neg (by decide)];exact wpS_pure ⟨rfl,rfl,by omega,se hsg (by omega) hb⟩
 case po1=>rintro c st' ⟨n,rfl,rfl,h2,h3,h4⟩;exact wpS_pure (h n h2 h3 h4)
theorem qy{xs:Array Keyed}{i j:Nat}(hj:j<=xs.size)(he:∀k,i<=k->k<j->KK κ xs k=KK κ xs (j-1)):∀k,KK κ (mirror xs i j ((j-i) / 2)) k=KK κ xs k:=KK_mirror_equal hj he
theorem xD(hL:qx (model prog w) A E s κ kd)(h0:KeysOf κ a₀){st:SortSt}(hB:SB kd a₀ st){lo k nrem:Nat}(hn:lo+nrem<=a₀.size)(h1:1<=k)(hk:k<nrem)(hs:zu κ (arrOf st) lo (lo+(k+1))){Q:Option Nat->SortSt->Prop}
  (h:∀n xs,1<=n->n<=nrem->xs.Perm (arrOf st)->Seg κ xs lo (lo+n)->Out (arrOf st) xs lo (lo+nrem)->Q (some n) (setArr st xs)):wpS (model prog w) A E s (G_ lo k nrem) Q st:=by
 unfold G_;refine wpS_bind (wpS_lift (wpAny_rule ⟨rfl,?_⟩));refine wpS_bind (wpS_mono (wpS_forRange
  (I:=fun i c st'=>∃e xs,c=(none,i,e)/\st'=setArr st xs/\i<=nrem/\xs.Perm (arrOf st)/\Out (arrOf st) xs lo (lo+nrem)/\zu κ xs lo (lo+i)/\e+1<=i/\∀p,lo+i-(e+1)<=p->p<lo+i->KK κ xs p=KK κ xs (lo+i-1))
  (Q:=fun c st'=>∃e i xs,c=(none,i,e)/\st'=setArr st xs/\k+1<=i/\i<=nrem/\xs.Perm (arrOf st)/\Out (arrOf st) xs lo (lo+nrem)/\zu κ xs lo (lo+i)/\e+1<=i/\∀p,lo+i-(e+1)<=p->p<lo+i->KK κ xs p=KK κ xs (lo+i-1)) ?st1 ?fi1 ?in1) ?po1)
 case in1=>exact⟨0,arrOf st,rfl,rfl,by omega,Array.Perm.refl _,Out.refl _ _ _,hs,by omega,fun p h2 h3=>by rw[show p=lo+(k+1)-1 by omega]⟩
 case fi1=>rintro c st' ⟨e,xs,rfl,rfl,h2,h3,h4,h5,h6,h7⟩;exact⟨e,_,xs,rfl,rfl,by omega,h2,h3,h4,h5,h6,h7⟩
 case st1=>
  rintro i c st' hi1 hi2 ⟨e,xs,rfl,rfl,h2,h3,h4,h5,h6,h7⟩;have hB':SB kd a₀ (setArr st xs):=hB.arr h3;have hsz:xs.size=a₀.size:=hB'.size;dsimp only;refine wpS_bind (o_ hL hB' h0 (by omega) (by omega) ?_);dsimp only;cases hb:κ.blt (KK κ (arrOf (setArr st xs)) (lo+i)) (KK κ (arrOf (setArr st xs)) (lo+i-1))
  case true=>
   rw[if_pos rfl];have hd:κ.kle (KK κ xs (lo+i)) (KK κ xs (lo+i-1)):=KeyOrd.kle_of_klt hb;by_cases he:e>0
   ·rw[if_pos he,reverseSlice'_eq]
    have ke:=qy (κ:=κ) (xs:=xs) (i:=lo+i-(e+1)) (j:=lo+i) (by omega) h7;refine wpS_bind (wpS_modify (wpS_pure ⟨0,mirror xs (lo+i-(e+1)) (lo+i) ((lo+i-(lo+i-(e+1))) / 2),rfl,rfl,by omega,(mirror_perm _ _ _ _).trans h3,h4.trans ((d9 (by omega)).mono (by omega) (by omega)),?_,by omega,fun p h8 h9=>by rw[show p=lo+(i+1)-1 by omega]⟩));have:=dW h5 (by omega) hd;exact fun p q a b c=>by rw[ke,ke];exact this p q a b c
   ·rw[if_neg he]
    exact wpS_pure ⟨0,xs,rfl,rfl,by omega,h3,h4,dW h5 (by omega) hd,by omega,fun p h8 h9=>by rw[show p=lo+(i+1)-1 by omega]⟩
  case false=>
   rw[if_neg (by decide)];refine wpS_bind (o_ hL hB' h0 (by omega) (by omega) ?_);dsimp only;cases hb2:κ.blt (KK κ (arrOf (setArr st xs)) (lo+i-1)) (KK κ (arrOf (setArr st xs)) (lo+i))
   case true=>rw[if_pos rfl];exact wpS_pure ⟨e,i,xs,rfl,rfl,hi1,h2,h3,h4,h5,h6,h7⟩
   case false=>
    rw[if_neg (by decide)];have heq:KK κ xs (lo+i-1)=KK κ xs (lo+i):=κ.total _ _ hb2 hb;refine wpS_pure ⟨e+1,xs,rfl,rfl,by omega,h3,h4,dW h5 (by omega) hb2,by omega,fun p h8 h9=>?_⟩;rw[show lo+(i+1)-1=lo+i by omega];by_cases hp:p=lo+i
    ·rw[hp]
    ·rw[h7 p (by omega) (by omega),heq]
 case po1=>
  rintro c st' ⟨e,i,xs,rfl,rfl,hki,h2,h3,h4,h5,h6,h7⟩;have hB':SB kd a₀ (setArr st xs):=hB.arr h3;have hsz:xs.size=a₀.size:=hB'.size;dsimp only;have last:∀ys,ys.Perm xs->(∀p,KK κ ys p=KK κ xs p)->Out xs ys lo (lo+nrem)->wpS (model prog w) A E s (reverseSlice' lo (lo+i) >>= fun _=>upL lo i nrem) Q (setArr st ys):=fun ys hp hk hO=>by
   rw[reverseSlice'_eq];have PR:ys.size=a₀.size:=hp.size_eq.trans hsz;refine wpS_bind (wpS_modify ?_);have hB2:SB kd a₀ (setArr st (mirror ys lo (lo+i) ((lo+i-lo) / 2))):=hB.arr ((mirror_perm _ _ _ _).trans (hp.trans h3));refine MP hL h0 hB2 hn (by omega) h2 (fun p q a b c=>?_) fun n h8 h9 h10=>?_
   ·show κ.kle (KK κ (mirror ys lo (lo+i) ((lo+i-lo) / 2)) p) (KK κ (mirror ys lo (lo+i) ((lo+i-lo) / 2)) q)
    rw[KK_mirror (by omega),KK_mirror (by omega),if_pos (by omega),if_pos (by omega),hk,hk];exact h5 _ _ (by omega) (by omega) (by omega)
   ·exact h n _ (by omega) h9 ((mirror_perm _ _ _ _).trans (hp.trans h3)) h10 ((h4.trans hO).trans ((d9 (by omega)).mono (by omega) (by omega)))
  by_cases he:e>0
  ·rw[if_pos he]
   refine wpS_bind ?_;rw[reverseSlice'_eq];refine wpS_modify ?_;exact last (mirror xs (lo+i-(e+1)) (lo+i) ((lo+i-(lo+i-(e+1))) / 2)) (mirror_perm _ _ _ _) (qy (xs:=xs) (by omega) h7) ((d9 (xs:=xs) (by omega)).mono (by omega) (by omega))
  ·rw[if_neg he]
   exact last xs (Array.Perm.refl _) (fun _=>rfl) (Out.refl _ _ _)
theorem JY(hL:qx (model prog w) A E s κ kd)(h0:KeysOf κ a₀){st:SortSt}(hB:SB kd a₀ st){lo nrem:Nat}(hn:lo+nrem<=a₀.size)(h1:1<=nrem){Q:Option Nat->SortSt->Prop}
  (h:∀n xs,1<=n->n<=nrem->xs.Perm (arrOf st)->Seg κ xs lo (lo+n)->Out (arrOf st) xs lo (lo+nrem)->Q (some n) (setArr st xs)):wpS (model prog w) A E s (countRun' lo nrem) Q st:=by
 rw[countRun'_eq];refine wpS_bind (wpS_mono (wpS_forRange (I:=fun i c st'=>c=(none,i)∧st'=st∧i≤nrem∧Seg κ (arrOf st) lo (lo+i))
  (Q:=fun c st'=>∃n,c=(none,n)/\st'=st/\1<=n/\n<=nrem/\Seg κ (arrOf st) lo (lo+n)/\(n=nrem\/κ.klt (KK κ (arrOf st) (lo+n)) (KK κ (arrOf st) (lo+n-1)))) ?st1 ?fi1 ⟨rfl,rfl,h1,Fb⟩) ?po1)
 case fi1=>rintro c st' ⟨rfl,rfl,hle,hsg⟩;exact⟨_,rfl,rfl,by omega,hle,hsg,.inl (by omega)⟩
 case st1=>
  rintro i c st' hi1 hi2 ⟨rfl,rfl,hle,hsg⟩;dsimp only;refine wpS_bind (o_ hL hB h0 (by omega) (by omega) ?_);dsimp only;cases hb:κ.blt (KK κ (arrOf st') (lo+i)) (KK κ (arrOf st') (lo+i-1))
  case true=>rw[if_pos rfl];exact wpS_pure ⟨i,rfl,rfl,hi1,hle,hsg,.inr hb⟩
  case false=>rw[if_neg (by decide)];exact wpS_pure ⟨rfl,rfl,by omega,se hsg hi1 hb⟩
 case po1=>
  rintro c st' ⟨n,rfl,rfl,hn1,hle,hsg,hstop⟩;dsimp only;by_cases hnn:n=nrem
  ·rw[if_pos (by simpa using hnn)]
   exact wpS_pure (h n _ hn1 hle (Array.Perm.refl _) hsg (Out.refl _ _ _))
  ·rw[if_neg (by simpa using hnn)]
   have hlt:κ.klt (KK κ (arrOf st') (lo+n)) (KK κ (arrOf st') (lo+n-1)):=hstop.resolve_left hnn;by_cases hn2:n>1
   ·rw[if_pos hn2]
    refine wpS_bind (o_ hL hB h0 (by omega) (by omega) ?_);dsimp only;cases hb:κ.blt (KK κ (arrOf st') lo) (KK κ (arrOf st') (lo+n-1))
    case true=>rw[if_pos rfl];exact wpS_pure (h n _ hn1 hle (Array.Perm.refl _) hsg (Out.refl _ _ _))
    case false=>
     rw[if_neg (by decide)];have hsz:=hB.size;have JZ:∀p,lo<=p->p<lo+n->KK κ (arrOf st') p=KK κ (arrOf st') (lo+n-1):=fun p h2 h3=>KeyOrd.kle_antisymm (hsg p _ h2 (by omega) (by omega)) (KeyOrd.kle_trans hb (hsg lo p (by omega) h2 h3))
     have ke:=qy (κ:=κ) (xs:=arrOf st') (i:=lo) (j:=lo+n) (by omega) JZ;refine wpS_bind ?_;rw[reverseSlice'_eq];refine wpS_modify ?_;have hB2:SB kd a₀ (setArr st' (mirror (arrOf st') lo (lo+n) ((lo+n-lo) / 2))):=hB.arr (mirror_perm _ _ _ _);refine xD hL h0 hB2 hn hn1 (by omega) ?_ fun m xs h2 h3 h4 h5 h6=>?_
     ·have:zu κ (arrOf st') lo (lo+(n+1)):=dW (fun p q a b c=>by rw[JZ p a (by omega),JZ q (by omega) c];exact KeyOrd.kle_refl _) hn1 (KeyOrd.kle_of_klt hlt)
      intro p q a b c;show κ.kle (KK κ (mirror (arrOf st') lo (lo+n) ((lo+n-lo) / 2)) q) (KK κ (mirror (arrOf st') lo (lo+n) ((lo+n-lo) / 2)) p);rw[ke,ke];exact this p q a b c
     ·exact h m xs h2 h3 (h4.trans (mirror_perm _ _ _ _)) h5 (((d9 (by omega)).mono (by omega) (by omega)).trans h6)
   ·rw[if_neg hn2]
    have:n=1:=by omega
    subst this;refine xD hL h0 hB hn hn1 (by omega) ?_ h;exact dW (fun p q a b c=>by
     have:p=q:=by omega
     subst this;exact KeyOrd.kle_refl _) hn1 (KeyOrd.kle_of_klt hlt)
end
end Ts
namespace Ts
open PySem PyProof.Rows
variable{M:Model}{A:Around}{E:Value->Shared->Prop}{s:Shared}{κ:KeyKind}{kd:SortKind}{a₀:Array Keyed}
end Ts
namespace Ts
open PySem PyProof.Rows
variable{M:Model}{A:Around}{E:Value->Shared->Prop}{s:Shared}{κ:KeyKind}{kd:SortKind}{a₀:Array Keyed}
noncomputable def kp(κ:KeyKind)(p:Keyed):κ.α:=(κ.keyOf p.1).getD κ.dflt
noncomputable def le(κ:KeyKind)(x y:Keyed):Prop:=κ.kle (kp κ x) (kp κ y)
theorem Fc{a:Array Keyed}{i:Nat}:(a.extract i a.size).toList=a.toList.drop i:=by rw[Array.toList_extract,List.extract_eq_take_drop,List.take_of_length_le];rw[List.length_drop,Array.length_toList];exact Nat.le_refl _
theorem xE{xs:Array Keyed}(hk:KeysOf κ xs){i:Nat}(h:i<xs.size):κ.keyOf (xs[i]).1=some (kp κ xs[i])/\KK κ xs i=kp κ xs[i]:=by
 obtain⟨p,e,k⟩:=vv hk h;rw[getElem?_pos xs i h]at e;cases e;have:KK κ xs i=kp κ xs[i]:=by unfold kp;rw[k];rfl
 exact⟨by rw[k,this],this⟩
end Ts
namespace Ts
open PySem PyProof.Rows
variable{A:Around}{E:Value->Shared->Prop}{s:Shared}{κ:KeyKind}{kd:SortKind}{a₀:Array Keyed}{prog:Program}{w:World}
section
variable{a b:Array Keyed}
end
end Ts
namespace Ts
open PySem PyProof.Rows
variable{A:Around}{E:Value->Shared->Prop}{s:Shared}{κ:KeyKind}{kd:SortKind}{a₀:Array Keyed}{prog:Program}{w:World}
section
variable{a b:Array Keyed}
end
end Ts
namespace Ts
open PySem PyProof.Rows
variable{A:Around}{E:Value->Shared->Prop}{s:Shared}{κ:KeyKind}{kd:SortKind}{a₀:Array Keyed}{prog:Program}{w:World}
theorem ext_get{xs:Array Keyed}{i j n:Nat}(hj:j<=xs.size)(h:n<(xs.extract i j).toList.length):∃hn:i+n<xs.size,i+n<j/\(xs.extract i j).toList[n]=xs[i+n]:=by rw[Array.length_toList,Array.size_extract]at h;refine⟨by omega,by omega,?_⟩;simp
theorem Bu{xs:Array Keyed}(hk:KeysOf κ xs){i j:Nat}(hj:j<=xs.size):Seg κ xs i j↔(xs.extract i j).toList.Pairwise (le κ):=by
 rw[List.pairwise_iff_getElem];constructor
 ·intro h p q hp hq hpq
  obtain⟨p1,p2,ep⟩:=ext_get hj hp;obtain⟨q1,q2,eq⟩:=ext_get hj hq;rw[ep,eq];have:=h (i+p) (i+q) (by omega) (by omega) q2;rw[(xE hk p1).2,(xE hk q1).2]at this;exact this
 ·intro h p q h1 h2 h3
  by_cases e:p=q
  ·subst e;exact KeyOrd.kle_refl _
  have hl:(xs.extract i j).toList.length=j-i:=by rw[Array.length_toList,Array.size_extract];omega
  obtain⟨p1,p2,ep⟩:=ext_get (i:=i) (n:=p-i) hj (by omega);obtain⟨q1,q2,eq⟩:=ext_get (i:=i) (n:=q-i) hj (by omega);have:=h (p-i) (q-i) (by omega) (by omega) (by omega);rw[ep,eq]at this;have e1:KK κ xs p=kp κ (xs[i+(p-i)]):=(congrArg (KK κ xs) (show p=i+(p-i) by omega)).trans (xE hk p1).2;have e2:KK κ xs q=kp κ (xs[i+(q-i)]):=(congrArg (KK κ xs) (show q=i+(q-i) by omega)).trans (xE hk q1).2;rw[e1,e2];exact this
end Ts
namespace Ts
open PySem PyProof.Rows
variable{A:Around}{E:Value->Shared->Prop}{s:Shared}{κ:KeyKind}{kd:SortKind}{a₀:Array Keyed}{prog:Program}{w:World}
end Ts
namespace Ts
open PySem PyProof.Rows
variable{A:Around}{E:Value->Shared->Prop}{s:Shared}{κ:KeyKind}{kd:SortKind}{prog:Program}{w:World}
theorem done_one{vs:List Value}(h:vs.toArray.size<2):Seg κ (pairsOf vs) 0 (pairsOf vs).size:=fun p q _ h2 h3=>by
 rw[pairsOf_size]at h3;simp at h;have:p=q:=by omega
 subst this;exact KeyOrd.kle_refl _
end Ts
namespace Ts
open PySem PyProof.Rows
variable{A:Around}{E:Value->Shared->Prop}{s:Shared}{κ:KeyKind}{kd:SortKind}{a₀:Array Keyed}{prog:Program}{w:World}
noncomputable def Fi(κ:KeyKind)(kd:SortKind)(a₀:Array Keyed)(st:SortSt):Prop:=SB kd a₀ st/\Seg κ (arrOf st) 0 a₀.size/\(pendingOf st).size<=1
theorem vA(hL:qx (model prog w) A E s κ kd)(h0:KeysOf κ a₀){st:SortSt}(hB:SB kd a₀ st)(hp:pendingOf st=#[])(h1:1<=a₀.size)(h64:a₀.size<64){Q:Unit->SortSt->Prop}
  (h:∀st',SB kd a₀ st'->Seg κ (arrOf st') 0 a₀.size->Q () st'):wpS (model prog w) A E s sortRuns' Q st:=by
 rw[sortRuns'_eq];refine wpS_bind (wpS_get ?_)
 try dsimp only
 rw[hB.size];have em:minRun' a₀.size a₀.size 0=a₀.size:=by
  obtain⟨m,e⟩:∃m,a₀.size=m+1:=⟨a₀.size-1,by omega⟩
  rw[e]at h64 ⊢;rw[minRun'_succ,if_pos h64,Nat.add_zero]
 rw[em];refine wpS_bind (wpS_mono (wpS_forRange (I:=fun x c st'=>(x=0∧c=(none,0)∧SB kd a₀ st'∧pendingOf st'=#[])∨(1≤x∧c=(none,a₀.size)∧Fi κ kd a₀ st'))
  (Q:=fun c st'=>c=(none,a₀.size)/\Fi κ kd a₀ st') ?st1 ?fi1 (.inl ⟨rfl,rfl,hB,hp⟩)) ?po1)
 case fi1=>
  rintro c st' (⟨hx,_⟩ | ⟨_,rfl,F⟩)
  ·omega
  ·exact⟨rfl,F⟩
 case st1=>
  rintro x c st' _ hx (⟨rfl,rfl,hB,hp⟩ | ⟨hx1,rfl,F⟩)
  ·try dsimp only
   rw[if_neg (by omega)];refine wpS_bind (JY hL h0 hB (by omega) (by omega) fun n xs hn1 hn2 hpm hsg hout=>?_)
   try dsimp only
   have fin:∀(k:Nat) (ys:Array Keyed),k=a₀.size->ys.Perm (arrOf st')->Seg κ ys 0 (0+k)->(fun c st'=>(0+1=0/\c=(none,0)/\SB kd a₀ st'/\pendingOf st'=#[])\/(1<=0+1/\c=(none,a₀.size)/\Fi κ kd a₀ st')) ((none:Option Unit),0+k) (setPending (setArr st' ys) ((pendingOf (setArr st' ys)).push (0,k,0))):=fun k ys hk hpm hsg=>by subst hk;refine .inr ⟨by omega,by rw[Nat.zero_add],(hB.arr hpm).pend _,by rw[Nat.zero_add]at hsg;exact hsg,?_⟩;show ((pendingOf st').push _).size<=1;rw[hp];exact Nat.le_refl 1
   by_cases hmr:n<a₀.size
   ·rw[if_pos hmr]
    refine wpS_bind (wpS_lift (wpAny_rule ⟨rfl,?_⟩));have hB2:SB kd a₀ (setArr st' xs):=hB.arr hpm;refine wpS_bind (JX hL h0 hB2 (by omega) hn1 (by omega) hsg fun ys hp2 hs2 ho2=>?_);rw[if_neg (by decide)];show wpS _ _ _ _ _ _ (setArr st' ys);refine wpS_bind (wpS_get ?_);split
    ·rename_i u m c hb
     have:(pendingOf st').back?=some (u,m,c):=hb;rw[hp]at this;cases this
    ·exact wpS_bind (wpS_modify (wpS_pure (fin _ ys (by omega) (hp2.trans hpm) hs2)))
   ·rw[if_neg hmr]
    refine wpS_bind (wpS_get ?_);split
    ·rename_i u m c hb
     have:(pendingOf st').back?=some (u,m,c):=hb;rw[hp]at this;cases this
    ·exact wpS_bind (wpS_modify (wpS_pure (fin _ xs (by omega) hpm hsg)))
  ·try dsimp only
   rw[if_pos (Nat.le_refl _)];exact wpS_pure ⟨rfl,F⟩
 case po1=>
  rintro c st' ⟨rfl,F⟩
  try dsimp only
  refine wpS_bind (wpS_mono (wpS_forRange (I:=fun _ c st'=>c=(none,())/\Fi κ kd a₀ st') (Q:=fun c st'=>c=(none,())/\Fi κ kd a₀ st') ?st2 (fun c st' z=>z) ⟨rfl,F⟩) ?po2)
  case st2=>
   rintro x c st' _ hx ⟨rfl,F⟩
   try dsimp only
   refine wpS_bind (wpS_get ?_);rw[if_pos F.2.2];exact wpS_pure ⟨rfl,F⟩
  case po2=>rintro c st' ⟨rfl,F⟩;exact wpS_pure (h st' F.1 F.2.1)
end Ts
namespace Ts
open PySem PyProof.Rows
variable{A:Around}{E:Value->Shared->Prop}{s:Shared}{κ:KeyKind}{kd:SortKind}{prog:Program}{w:World}
theorem vC{a:Addr}{vs:List Value}{n:Nat}{R:Fin->Shared->Prop}(ho:s.heap.get? a=some (seqObj "list" vs.toArray n))(hn:vs.length<=63)
  (hk:KeysOf κ (pairsOf vs)) (hkk:∀h',(∀b o,b≠a->s.heap.get? b=some o->h'.get? b=some o)->2<=vs.length->∀{Q:SortKind->Shared->Prop},Q kd { s with heap:=h' }->wpAny (model prog w) A (keyKind' vs.toArray) Q E { s with heap:=h' })
  (hL:∀h',(∀b o,b≠a->s.heap.get? b=some o->h'.get? b=some o)->qx (model prog w) A E { s with heap:=h' } κ kd)
  (h:∀st':SortSt,(arrOf st').Perm (pairsOf vs)->Seg κ (arrOf st') 0 (pairsOf vs).size->R (.done (.ret .none)) { s with heap:=sortedHeap s.heap a vs ((arrOf st').map (·.2)) }) :
  wpAny (model prog w) A (Builtin.«list.sort» ⟨[.ref a],[]⟩) R E s:=by
 have lt:=Heap.lt_size ho;have fits:sizeLine=sizeLine:=rfl;rw[list_sort_plain];refine wpAny_bind (listItems_at ho rfl (wpAny_bind (listUpdate_at ho rfl ?_ (hsz:=by simp;exact Nat.le_trans hn (by decide)) (hsz2:=Nat.zero_le _))));obtain⟨ep,h1⟩:∃ep,(s.heap.update a (Obj.mapSeq fun _=>#[])).get? a=some (seqObj "list" #[] ep):=⟨_,get?_update_seq ho _⟩
 refine wpAny_bind (seqEpoch_at h1 rfl (wpAny_bind (wpAny_newTuple (wpAny_bind (wpAny_newList (wpAny_holding ?_))))));have h6:(((s.heap.update a (Obj.mapSeq fun _=>#[])).push (seqObj "tuple" vs.toArray 0)).push (seqObj "list" #[] 0)).get? a=some (seqObj "list" #[] ep):=by have z1:(s.heap.update a (Obj.mapSeq fun _=>#[])).objs.size=s.heap.objs.size:=Heap.size_update _ _ _;rw[Heap.get?_push_ne _ _ _ (by rw[size_push',z1];exact Nat.ne_of_lt (Nat.lt_succ_of_lt lt)),Heap.get?_push_ne _ _ _ (by rw[z1];exact Nat.ne_of_lt lt)];exact h1
 have ext:∀b o,b≠a->s.heap.get? b=some o->(((s.heap.update a (Obj.mapSeq fun _=>#[])).push (seqObj "tuple" vs.toArray 0)).push (seqObj "list" #[] 0)).get? b=some o:=fun b o hb e=>by have z1:(s.heap.update a (Obj.mapSeq fun _=>#[])).objs.size=s.heap.objs.size:=Heap.size_update _ _ _;have lb:=Heap.lt_size e;rw[Heap.get?_push_ne _ _ _ (by rw[size_push',z1];exact Nat.ne_of_lt (Nat.lt_succ_of_lt lb)),Heap.get?_push_ne _ _ _ (by rw[z1];exact Nat.ne_of_lt lb),Heap.get?_update_ne _ _ _ _ hb];exact e
 show wpAny (model prog w) A _ R E { s with heap:=(((s.heap.update a (Obj.mapSeq fun _=>#[])).push (seqObj "tuple" vs.toArray 0)).push (seqObj "list" #[] 0)) };have hkk':=hkk _ ext;have hL':=hL _ ext;have fin:∀st':SortSt,failedOf st'=none->(arrOf st').Perm (pairsOf vs)->Seg κ (arrOf st') 0 (pairsOf vs).size ->
   wpAny (model prog w) A (do
    let d <- seqEpoch a
    let touched:=d != ep
    Builtin.List.listUpdate (Value.ref a) fun _=>Array.map (fun x=>x.snd) (arrOf st')
    if let some e:=failedOf st' then
     rule "list.sort.comparison-raised"
     throw e
    if touched then
     rule "list.sort.modified"
     raiseError "ValueError" "list modified during sort"
    ret .none) R E { s with heap:=(((s.heap.update a (Obj.mapSeq fun _=>#[])).push (seqObj "tuple" vs.toArray 0)).push (seqObj "list" #[] 0)) }:=fun st' hf hp hs=>by
  refine wpAny_bind (seqEpoch_at h6 rfl ?_);have hz:(Array.map (fun x=>x.snd) (arrOf st')).size=vs.length:=by rw[Array.size_map,hp.size_eq,pairsOf_size]
  refine wpAny_bind (listUpdate_at h6 rfl ?_ (hsz:=Nat.zero_le _) (hsz2:=by rw[hz];exact Nat.le_trans hn (by decide)));rw[hf];simp only[bne_self_eq_false,Bool.false_eq_true,if_false];exact wpAny_pure (h st' hp hs)
 by_cases h2:vs.toArray.size<2
 ·rw[if_pos h2,if_pos h2]
  refine wpAny_bind (wpAny_pure ?_);refine wpAny_bind (show wpAny (model prog w) A ((pure ():StateT SortSt Sem Unit).run (SortSt.mk' general' (vs.toArray.zip vs.toArray) #[] 7 none)) _ E _ from ?_);rw[StateT.run_pure];refine wpAny_pure ?_;exact fin (SortSt.mk' general' (vs.toArray.zip vs.toArray) #[] 7 none) rfl (Array.Perm.refl _) (done_one h2)
 ·rw[if_neg h2,if_neg h2]
  have hl:2<=vs.length:=by simp at h2;omega
  refine wpAny_bind (hkk' hl ?_);refine wpAny_bind (wpAny_mono (vA (κ:=κ) hL' hk (st:=SortSt.mk' kd (vs.toArray.zip vs.toArray) #[] 7 none) ⟨Array.Perm.refl _,rfl,rfl⟩ rfl (by rw [pairsOf_size];omega) (by rw [pairsOf_size];omega)
   (Q:=fun _ st'=>(arrOf st').Perm (pairsOf vs)/\failedOf st'=none/\Seg κ (arrOf st') 0 (pairsOf vs).size) fun st' sb sg=>⟨sb.perm,sb.failed,sg⟩) ?_ fun _ _ e=>e)
  rintro⟨⟨⟩,st'⟩ s' ⟨rfl,hp,hf,hs⟩;exact fin st' hf hp hs
theorem qz{l:Addr}{vs:List Value}{Q:Value->Shared->Prop}(hl:s.heap.IsList l vs.toArray)(hn:vs.length<=63)
  (hk:KeysOf κ (pairsOf vs)) (hkk:∀(A:Around) h',(∀b o,s.heap.get? b=some o->h'.get? b=some o)->2<=vs.length->∀{Q:SortKind->Shared->Prop} {E:Value->Shared->Prop},Q kd { s with heap:=h' }->wpAny (model prog w) A (keyKind' vs.toArray) Q E { s with heap:=h' })
  (hL:∀(A:Around) (E:Value->Shared->Prop) h',(∀b o,s.heap.get? b=some o->h'.get? b=some o)->qx (model prog w) A E { s with heap:=h' } κ kd)
  (h:∀st':SortSt,(arrOf st').Perm (pairsOf vs)->Seg κ (arrOf st') 0 (pairsOf vs).size->Q (.ref (s.heap.objs.size+1)) { s with heap:=sortedAll s.heap vs ((arrOf st').map (·.2)) }) :
  wpAny (model prog w) A (call (.builtin "sorted") [.ref l]) Q E s:=by
 refine Calls.call_function_entry kind_sorted plain_sorted entry_sorted (args_sorted1 _) ?_;unfold Builtin.«sorted»;refine wpAny_bind (m:=checkCount "sorted" 1 1 _) (wpAny_pure (wpAny_bind (collect_list hl (wpAny_bind (wpAny_newList ?_ (Nat.le_trans hn (by decide)))) (Nat.le_trans hn (by decide)))));have zs:((s.heap.push (seqObj "list" #[] 0)).update s.heap.objs.size (Obj.mapSeq (·++vs.toArray))).objs.size=s.heap.objs.size+1:=by rw[Heap.size_update,size_push']
 have hL0:(((s.heap.push (seqObj "list" #[] 0)).update s.heap.objs.size (Obj.mapSeq (·++vs.toArray))).push (seqObj "list" vs.toArray 0)).get? (s.heap.objs.size+1)=some (seqObj "list" vs.toArray 0):=by rw[<- zs];exact Heap.get?_push_size _ rfl
 have up:∀b o,s.heap.get? b=some o->(((s.heap.push (seqObj "list" #[] 0)).update s.heap.objs.size (Obj.mapSeq (·++vs.toArray))).push (seqObj "list" vs.toArray 0)).get? b=some o:=fun b o e=>by have lb:=Heap.lt_size e;rw[Heap.get?_push_ne _ _ _ (by rw[zs];exact Nat.ne_of_lt (Nat.lt_succ_of_lt lb)),Heap.get?_update_ne _ _ _ _ (Nat.ne_of_lt lb),Heap.get?_push_ne _ _ _ (Nat.ne_of_lt lb)];exact e
 show wpAny _ _ _ _ _ { s with heap:=((s.heap.push (seqObj "list" #[] 0)).update s.heap.objs.size (Obj.mapSeq (·++vs.toArray))).push (seqObj "list" vs.toArray 0) };dsimp only;rw[zs];have nb:∀b o,s.heap.get? b=some o->b≠s.heap.objs.size+1:=fun b o e=>Nat.ne_of_lt (Nat.lt_succ_of_lt (Heap.lt_size e))
 refine wpAny_bind (wpAny_holding (wpAny_call_entry slot_list_sort ⟨_,hL0,rfl⟩ entry_list_sort (vC (κ:=κ) (kd:=kd) hL0 hn hk (fun h' k h2 {Q} hq=>hkk _ h' (fun b o e=>k b o (nb b o e) (up b o e)) h2 hq) (fun h' k=>hL _ _ h' fun b o e=>k b o (nb b o e) (up b o e)) fun st' a1 a2=>⟨_,rfl,?_⟩) (args_list_sort _)));exact wpAny_pure ⟨_,rfl,h st' a1 a2⟩
end Ts
namespace Tk
open PySem PySem.W PyProof.Rows
section
variable{cmp:Nat->Nat->(Bool->Shared->Prop)->Shared->Prop}{s:Shared}{lt:Nat->Nat->Bool}{n pos:Nat}
end
section
variable{A:Around}{E:Value->Shared->Prop}{s:Shared}{kd:SortKind}{prog:Program}{w:World}{lt:Nat->Nat->Bool}{pos:Nat}{vs:List Value}{v:Value}
end
end Tk
namespace Dm
noncomputable def lx:List Int->List Int->Bool
 |[],[]=>false
 |[],_::_=>true
 |_::_,[]=>false
 |a::x,b::y=>if a=b then lx x y else decide (a<b)
theorem f6:∀a,lx a a=false
 |[]=>rfl
 |a::x=>by rw[lx,if_pos rfl,f6 x]
theorem fK:∀a b c,lx a b=true->lx b c=true->lx a c=true
 |[],[],_,h,_=>by cases h
 |[],_::_,[],_,h=>by cases h
 |[],_::_,_::_,_,_=>rfl
 |_::_,[],_,h,_=>by cases h
 |_::_,_::_,[],_,h=>by cases h
 |a::x,b::y,c::z,h1,h2=>by
  rw[lx]at h1 h2 ⊢;by_cases e1:a=b
  ·subst e1
   rw[if_pos rfl]at h1;by_cases e2:a=c
   ·subst e2;rw[if_pos rfl]at h2 ⊢;exact fK x y z h1 h2
   ·rw[if_neg e2]at h2 ⊢;exact h2
  ·rw[if_neg e1]at h1
   have h1:=of_decide_eq_true h1;by_cases e2:b=c
   ·subst e2;rw[if_neg e1];exact decide_eq_true h1
   ·rw[if_neg e2]at h2
    have h2:=of_decide_eq_true h2;rw[if_neg (by omega)];exact decide_eq_true (by omega)
theorem jj:∀a b,lx a b=false->lx b a=false->a=b
 |[],[],_,_=>rfl
 |[],_::_,h,_=>by cases h
 |_::_,[],_,h=>by cases h
 |a::x,b::y,h1,h2=>by
  rw[lx]at h1 h2;by_cases e:a=b
  ·subst e
   rw[if_pos rfl]at h1 h2;rw[jj x y h1 h2]
  ·rw[if_neg e]at h1
   rw[if_neg (fun z=>e z.symm)]at h2;have h1:=of_decide_eq_false h1;have h2:=of_decide_eq_false h2;omega
theorem vD(a b c:List Int)(h:lx a c=true):lx a b=true\/lx b c=true:=by
 by_cases h1:lx a b=true
 ·exact .inl h1
 ·refine .inr ?_
  have h1':lx a b=false:=by simpa using h1
  by_cases h2:lx b a=true
  ·exact fK b a c h2 h
  ·have:=jj a b h1' (by simpa using h2)
   subst this;exact h
noncomputable def ins{α:Type}(lt:α->α->Bool)(x:α):List α->List α
 |[]=>[x]
 |y::l=>if lt y x then y::ins lt x l else x::y::l
noncomputable def cO{α:Type}(lt:α->α->Bool):List α->List α
 |[]=>[]
 |x::l=>ins lt x (cO lt l)
noncomputable def eX:List Dat->Option (List (List Int))
 |[]=>some []
 | .tup ds::r=>(match eU ds with
  |some ns=>if ns.isEmpty then none else (eX r).map fun nss=>ns::nss
  |none=>none)
 |_=>none
noncomputable def qA(ns:List Int):Dat:=.tup (ns.map .int)
theorem lX{α:Type}(lt:α->α->Bool)(x:α):∀l,(ins lt x l).Perm (x::l)
 |[]=>List.Perm.refl _
 |y::l=>by
  rw[ins];split
  ·exact((lX lt x l).cons y).trans (List.Perm.swap x y l)
  ·exact List.Perm.refl _
theorem cD{α:Type}(lt:α->α->Bool):∀l,(cO lt l).Perm l
 |[]=>List.Perm.refl _
 |x::l=>(lX lt x _).trans ((cD lt l).cons x)
theorem lZ{α:Type}{lt:α->α->Bool}(tr:∀a b c,lt b a=false->lt c b=false->lt c a=false)(as:∀a b,lt a b=true->lt b a=false)(x:α):∀l:List α,l.Pairwise (fun a b=>lt b a=false)->(ins lt x l).Pairwise (fun a b=>lt b a=false)
 |[],_=>by simp[ins]
 |y::l,h=>by
  rw[ins];obtain⟨h1,h2⟩:=List.pairwise_cons.mp h;split
  ·rename_i hl
   refine List.pairwise_cons.mpr ⟨fun z hz=>?_,lZ tr as x l h2⟩;rcases List.mem_cons.mp ((lX lt x l).mem_iff.mp hz) with rfl | hz
   ·exact as _ _ hl
   ·exact h1 z hz
  ·rename_i hl
   have hl':lt y x=false:=by simpa using hl
   refine List.pairwise_cons.mpr ⟨fun z hz=>?_,h⟩;rcases List.mem_cons.mp hz with rfl | hz
   ·exact hl'
   ·exact tr _ _ _ hl' (h1 z hz)
theorem b_{α:Type}{lt:α->α->Bool}(tr:∀a b c,lt b a=false->lt c b=false->lt c a=false)(as:∀a b,lt a b=true->lt b a=false):∀l:List α,(cO lt l).Pairwise (fun a b=>lt b a=false)
 |[]=>List.Pairwise.nil
 |x::l=>lZ tr as x _ (b_ tr as l)
theorem fL{α:Type}{lt:α->α->Bool}(tot:∀a b,lt a b=false->lt b a=false->a=b):∀{l m:List α},l.Perm m->l.Pairwise (fun a b=>lt b a=false)->m.Pairwise (fun a b=>lt b a=false)->l=m
 |[],m,p,_,_=>(List.nil_perm.mp p).symm
 |x::l,[],p,_,_=>by have:=p.length_eq;simp at this
 |x::l,y::m,p,h1,h2=>by
  obtain⟨a1,a2⟩:=List.pairwise_cons.mp h1;obtain⟨b1,b2⟩:=List.pairwise_cons.mp h2;have e:x=y:=by
   rcases List.mem_cons.mp (p.mem_iff.mp List.mem_cons_self) with hx | hx
   ·exact hx
   ·rcases List.mem_cons.mp (p.mem_iff.mpr (List.mem_cons_self (a:=y) (l:=m))) with hy | hy
    ·exact hy.symm
    ·exact tot x y (b1 x hx) (a1 y hy)
  subst e;rw[fL tot (List.Perm.cons_inv p) a2 b2]
end Dm
namespace Br
open PySem PySem.Spec PyProof.Rows L2
noncomputable def lexOrd:KeyOrd:=⟨List Int,Dm.lx,Dm.f6,Dm.fK,fun a b c h=>Dm.vD a b c h,Dm.jj⟩
noncomputable def jl:List V->Option (List Int)
 |[]=>some []
 |.int i::r=>(jl r).map fun ns=>i::ns
 |_=>none
theorem c_:∀ns:List Int,jl (ns.map V.int)=some ns
 |[]=>rfl
 |n::ns=>by rw[List.map_cons,jl,c_ ns];rfl
theorem sj:∀{xs:List V} {ns:List Int},jl xs=some ns->xs=ns.map V.int
 |[],ns,h=>by cases h;rfl
 |.int i::r,ns,h=>by
  unfold jl at h;cases e:jl r with
  |none=>rw[e]at h;cases h
  |some ms=>rw[e]at h;cases h;rw[sj e];rfl
 |.non::_,_,h=>by cases h
 |.bl _::_,_,h=>by cases h
 |.str _::_,_,h=>by cases h
 |.ref _::_,_,h=>by cases h
 |.byt _::_,_,h=>by cases h
 |.flt _::_,_,h=>by cases h
 |.ty _::_,_,h=>by cases h
noncomputable def oG(H:Hp):Value->Option (List Int)
 | .ref a=>(match H a with
  |some (.tup xs)=>jl xs
  |_=>none)
 |_=>none
noncomputable def qB(H:Hp):KeyKind:={ lexOrd with keyOf:=oG H,dflt:=([]:List Int) }
section
variable{prog:Program}{w:World}{A:Around}{E:Value->Shared->Prop}{s:Shared}
theorem sq{fin:Bool}{Q:Bool->Shared->Prop}:∀{xs ys:List Value} {ks ms:List Int} (i:Nat),IntsAre xs ks->IntsAre ys ms->fin=decide (ks.length<ms.length)->Q (Dm.lx ks ms) s ->
  PySem.W.KatLex prog w A true fin Q (xs.zip ys) i s
 |_,_,_,_,i,.nil,.nil,hf,q=>by subst hf;exact q
 |_,_,_,_,i,.nil,.cons m u h',hf,q=>by subst hf;exact q
 |_,_,_,_,i,.cons k t h,.nil,hf,q=>by subst hf;exact q
 |_,_,_,_,i,.cons k t h,.cons m u h',hf,q=>by
  rw[List.zip_cons_cons];refine PySem.W.kat_cons (wpAny_eqBool_int ?_);rw[Dm.lx]at q;by_cases e:k=m
  ·rw[if_pos e]at q
   have:(k == m)=true:=by simpa using e
   rw[this];refine PySem.W.kat_yes (sq (i+1) h h' ?_ q);rw[hf];simp
  ·rw[if_neg e]at q
   have:(k == m)=false:=by simpa using e
   rw[this];refine PySem.W.kat_no ?_;cases hb:(true&&i == 0)
   ·exact PySem.W.kat_one _ _ (lt_int q)
   ·exact oneLt_int q
theorem zv{κ:KeyKind}{kd:SortKind}(h:∀(x y:Keyed) (a b:κ.α) {Q:Bool->Shared->Prop} {E:Value->Shared->Prop},κ.keyOf x.1=some a->κ.keyOf y.1=some b->Q (κ.blt a b) s->wpAny (model prog w) A (keyLt' kd x.1 y.1) Q E s):Ts.qx (model prog w) A E s κ kd:=fun x y a b st Q ha hb hk q=>by rw[lt'_eq];refine wpS_bind (wpS_get ?_);rw[hk];refine wpS_bind (wpS_lift (wpAny_attempt (h x y a b ha hb ⟨rfl,?_⟩)));exact wpS_pure q
end
noncomputable def bk:Value->V
 |.ref a=>.ref a
 |.int n _=>.int n
 |_=>.non
section
variable{X:Cx}
theorem jK{vs:List Value}{q:Keyed}(h:q∈(pairsOf vs).toList):q.1=q.2/\q.1∈vs:=by
 rw[pairsOf_toList]at h;have hh:∀(l:List Value) (q:Keyed),q∈l.zip l->q.1=q.2/\q.1∈l:=fun l=>by
  induction l with
  |nil=>intro q h;cases h
  |cons v l ih=>
   intro q h;rw[List.zip_cons_cons]at h;rcases List.mem_cons.mp h with rfl | h
   ·exact⟨rfl,List.mem_cons_self⟩
   ·exact⟨(ih q h).1,List.mem_cons_of_mem _ (ih q h).2⟩
 exact hh _ q h
theorem zw(vs:List Value):(pairsOf vs).toList.map (·.2)=vs:=by
 rw[pairsOf_toList];have hh:∀l:List Value,(l.zip l).map (·.2)=l:=fun l=>by
  induction l with
  |nil=>rfl
  |cons v l ih=>rw[List.zip_cons_cons,List.map_cons,ih]
 exact hh vs
theorem J0{κ:KeyKind}{vs:List Value}{st':SortSt}(hk:KeysOf κ (pairsOf vs))(hp:(arrOf st').Perm (pairsOf vs))(hs:Ts.Seg κ (arrOf st') 0 (pairsOf vs).size) :
  ∃out:List Value,((arrOf st').map (·.2))=out.toArray/\out.Perm vs/\out.Pairwise (fun u v=>∀a b,κ.keyOf u=some a->κ.keyOf v=some b->κ.blt b a=false):=by
 have pm:=Array.perm_iff_toList_perm.mp hp;refine⟨(arrOf st').toList.map (·.2),Array.toList_inj.mp (by rw[Array.toList_map]),?_,?_⟩
 ·have:=pm.map (·.2)
  rwa [zw]at this
 ·have ka:KeysOf κ (arrOf st'):=fun q hq=>hk q (pm.mem_iff.mp hq)
  have hz:(arrOf st').size=(pairsOf vs).size:=hp.size_eq;rw[<- hz]at hs;have:=(Ts.Bu ka (i:=0) (j:=(arrOf st').size) (Nat.le_refl _)).mp hs;rw[Ts.Fc,List.drop_zero]at this;rw[List.pairwise_map];refine List.Pairwise.imp_of_mem ?_ this;intro x y hx hy hle a b ha hb;have e1:=(jK (pm.mem_iff.mp hx)).1;have e2:=(jK (pm.mem_iff.mp hy)).1;have hle':κ.blt (Ts.kp κ y) (Ts.kp κ x)=false:=hle;unfold Ts.kp at hle';rw[e1,e2,ha,hb]at hle';exact hle'
end
end Br
namespace Dm
noncomputable def zx(i:Nat)(e:FE):FS:=fun ρ=>match ρ[i]? with
 | some (.ow (.lst _))=>(match e ρ with
  |none=>none
  |some (x,ρ1)=>match pk ρ1 x with
   | some (.lst es)=>(match ρ1[i]? with
    |some (.ow (.lst ds))=>if ds.length+es.length<=SZ then some (.nx (ρ1.set i (.ow (.lst (ds++es))))) else none
    |_=>none)
   |_=>none)
 |_=>none
noncomputable def zy(i:Nat):FS:=fun ρ=>match ρ[i]? with
 |some (.ow (.lst _))=>some (.nx (ρ.set i (.ow (.lst []))))
 |_=>none
noncomputable def jL(i:Nat)(e:FE):FE:=fun ρ=>match ρ[i]? with
 | some (.ow (.lst _))=>(match e ρ with
  | some (.val (.int j),ρ1)=>(match ρ1[i]? with
   | some (.ow (.lst ds))=>if 0≤j∧j≤BIG then (match ds[j.toNat]? with
     |some d=>some (.val d,ρ1.set i (.ow (.lst (ds.eraseIdx j.toNat))))
     |none=>none) else none
   |_=>none)
  |_=>none)
 |_=>none
noncomputable def isN:Dat->Bool
 |.non=>true
 |_=>false
noncomputable def qC:Dat->Dat->Option RV
 |d,.non=>vB (isN d)
 |_,_=>none
noncomputable def sr:Dat->Dat->Option RV
 |d,.non=>vB (!isN d)
 |_,_=>none
end Dm
namespace Br
open PySem PySem.Spec PyProof.Rows L2
section
variable{X:Cx}
end
theorem pe{H0:Hp}:∀{zs:List V} (ks:V->List Int),(∀z∈zs,∃a:Addr,z=.ref a/\H0 a=some (.tup ((ks z).map V.int)))->aB H0 zs ((zs.map ks).map Dm.qA)
 |[],ks,_=>.nil
 |z::zs,ks,h=>by
  obtain⟨a,rfl,e⟩:=h z List.mem_cons_self;refine .cons (.tup e ?_) (pe ks fun y hy=>h y (List.mem_cons_of_mem _ hy));have:∀ns:List Int,aB H0 (ns.map V.int) (ns.map Dm.Dat.int):=fun ns=>by
   induction ns with
   |nil=>exact .nil
   |cons n ns ih=>exact .cons (.int n) ih
  exact this _
theorem jM{H0:Hp}:∀ns:List Int,aB H0 (ns.map V.int) (ns.map Dm.Dat.int)
 |[]=>.nil
 |n::ns=>.cons (.int n) (jM ns)
section
variable{X:Cx}{a b c e:Expr}{f fa fb:Dm.FE}{fs:List Dm.FE}{p pos:Pos}
noncomputable def Fe(neg:Bool):R2:=fun x y H Q=>y=.non/\Q (.bl (if neg then !decide (x=V.non) else decide (x=V.non))) H
theorem xG{x:V}{v:Value}(r:RelV x v):(v == Value.none)=decide (x=V.non):=by
 cases x with
 |non=>cases r;rfl
 |bl b=>cases r;rfl
 |int i=>obtain⟨t,rfl⟩:=r;rfl
 |str z=>obtain⟨t,rfl⟩:=r;rfl
 |byt z=>obtain⟨t,rfl⟩:=r;rfl
 |flt z=>obtain⟨t,rfl⟩:=r;rfl
 |ref z=>cases r;rfl
 |ty z=>cases r;rfl
theorem Bv:OpR X (compareOp .Is) (Fe false):=by intro pins s σ H x y v u Q I rx ry h;obtain⟨rfl,q⟩:=h;cases ry;refine is_none_gen ?_;rw[xG rx];exact⟨.bl _,H,I,rfl,q⟩
theorem kX{H0 H:Hp}{x:V}{d:Dm.Dat}(r:jF H0 H x d):decide (x=V.non)=Dm.isN d:=by
 rcases r with r | ⟨a,rfl,w⟩
 ·cases r<;>rfl
 ·cases d with
  |non=>exact False.elim w
  |_=>rfl
theorem Bw:OpD (Fe false) Dm.qC:=by
 intro H0 H x y dx dy z Q s rx ry e k;unfold Dm.qC at e;split at e
 ·cases e
  have hy:=kX ry;have:y=V.non:=of_decide_eq_true (hy.trans rfl);refine⟨this,?_⟩;rw[if_neg (by decide),kX rx];exact k _ H0 H (aI.refl s) (.bl _)
 ·cases e
theorem MQ(ha:DE X a fa)(hb:DE X b fb):DE X (.Compare a [.Is] [b] pos) (Dm.e2 Dm.qC fa fb):=lJ Bv Bw ha hb (cz _)
theorem Bx(ha:DE X a fa)(hb:DE X b fb):DT X (.Compare a [.Is] [b] pos) (Dm.tV (Dm.e2 Dm.qC fa fb)):=j8 Bv Bw ha hb (cz _)
end
section
variable{X:Cx}
noncomputable def Hi:V->List V->Hp->VK->Prop:=fun x vs H Q=>∃l b xs zs,x=.ref l/\vs=[.ref b]/\H l=some (.lst xs)/\Rd H b (.lst zs)/\xs.length+zs.length<=sizeLine/\Q .non (upd H l (.lst (xs++zs)))
theorem Ff:MtM X "list.extend" Hi:=by
 intro pins s σ H x vs v us Q I rx rv h;obtain⟨l,b,xs,zs,rfl,rfl,hH,hB,hz,q⟩:=h;cases rx;obtain⟨u,rfl,ru⟩:=rv.one;cases ru;obtain⟨z,its,n,r,hl,e⟩:=I.Az hH;obtain⟨z2,its2,n2,r2,e2⟩:=hB.ok I.hok;have hl2:=r2.length;have tot:its.toArray.size+its2.toArray.size<=sizeLine:=by simp only[List.size_toArray];omega
 have short:¬(!its.toArray.isEmpty&&Builtin.List.listTooLong (its.toArray.size+its2.toArray.size))=true:=by rw[rL tot,Bool.and_false];decide
 refine call_meets F.slot_list_extend ⟨_,e,rfl⟩ F.entry_list_extend (F.args_list_extend_2 _ _) (AutoSeq1.list_extend_list_list_0 l its.toArray n b its2.toArray n2 short (by rw[List.size_toArray];omega) (by omega)) ⟨e,e2,?_⟩;exact⟨.non,_,I.Ay (its':=its++its2) hH e (by simp) (r.append r2) (by rw[List.length_append];omega),rfl,q⟩
end
section
variable{σ:L2.St}{H:Hp}{Q:VK}{D:Ends}
theorem MR{K:PySem.W.Frag}{i:Nat}{f:Dm.FE}(h:tDS (Dm.zx i f) D σ H):oR (tBM K "list" Hi (lg i) (tDA [f])) D σ H:=by
 obtain⟨H0,ρ,o,st,e,k⟩:=h;unfold Dm.zx at e;split at e
 case h_2=>cases e
 rename_i ds0 h0;obtain⟨a0,q0,n0,w0⟩:=st.ow i _ h0;refine⟨_,q0,?_⟩;split at e
 ·cases e
 rename_i x ρ1 e1;split at e
 case h_2=>cases e
 rename_i es p1;split at e
 case h_2=>cases e
 rename_i ds h2;split at e
 case isFalse=>cases e
 rename_i hz;cases e;obtain⟨xs0,y0,_⟩:=w0;refine⟨.inl ⟨rfl,xs0,.inl (.inl y0)⟩,?_⟩;refine⟨H0,ρ,[x],ρ1,st,by unfold Dm.eAs;rw[e1];rfl,fun vs H0' H' t r=>?_⟩;cases r with
 |cons r rr=>
  cases rr;obtain⟨b,zs,rfl,qb,rb⟩:=aX t.st.same (r.look t.st p1);obtain⟨a,q,n,w⟩:=t.st.ow i _ h2;rw[q0]at q;cases q;obtain⟨xs,y,rs⟩:=w;refine⟨a0,b,xs,zs,rfl,rfl,y,qb,by rw[rs.length,rb.length];exact Nat.le_trans hz (by decide),?_⟩;have ow:ak σ ρ1 a0:=⟨i,_,h2,q0⟩
  exact k σ H0' _ ⟨t.st.write h2 q0 ⟨_,av,rs.append rb⟩,t.stp.trans (Stp.write ow) fun b z=>.inl (t.own b z),fun b z=>.inl (t.own b (bE h2 z)),rfl⟩
theorem MS{K:PySem.W.Frag}{i:Nat}(h:tDS (Dm.zy i) D σ H):oR (Je K "list" AD (lg i)) D σ H:=by
 obtain⟨H0,ρ,o,st,e,k⟩:=h;unfold Dm.zy at e;split at e
 case h_2=>cases e
 rename_i ds h0;cases e;obtain⟨a,q,n,xs,y,rs⟩:=st.ow i _ h0;refine⟨_,q,.inl ⟨rfl,xs,.inl (.inl y)⟩,a,xs,rfl,rfl,y,?_⟩;have ow:ak σ ρ a:=⟨i,_,h0,q⟩
 exact k σ H0 _ ⟨st.write h0 q ⟨_,av,.nil⟩,Stp.write ow,fun b z=>.inl (bE h0 z),rfl⟩
theorem l0{α:Type}(l:List α)(i:Nat):l.eraseIdx i=l.take i++l.drop (i+1):=List.eraseIdx_eq_take_drop_succ l i
theorem vE{H0:Hp}{vs:List V}{ds:List Dm.Dat}(i:Nat)(r:aB H0 vs ds):aB H0 (vs.eraseIdx i) (ds.eraseIdx i):=by rw[l0,l0];exact(r.take i).append (r.drop (i+1))
theorem Fg{K:PySem.W.Frag}{i:Nat}{f:Dm.FE}(h:tD (Dm.jL i f) σ H Q):tBM K "list" AA (lg i) (tDA [f]) σ H Q:=by
 obtain⟨H0,ρ,x,ρ',st,e,k⟩:=h;unfold Dm.jL at e;split at e
 case h_2=>cases e
 rename_i ds0 h0;obtain⟨a0,q0,n0,w0⟩:=st.ow i _ h0;refine⟨_,q0,?_⟩;obtain⟨xs0,y0,_⟩:=w0;refine⟨.inl ⟨rfl,xs0,.inl (.inl y0)⟩,?_⟩;split at e
 case h_2=>cases e
 rename_i j ρ1 e1;split at e
 case h_2=>cases e
 rename_i ds h2;split at e
 case isFalse=>cases e
 rename_i hb;split at e
 case h_2=>cases e
 rename_i d hd;cases e;refine⟨H0,ρ,[.val (.int j)],ρ1,st,by unfold Dm.eAs;rw[e1];rfl,fun vs H0' H' t r=>?_⟩;cases r with
 |cons r rr=>
  cases rr;cases Rep.isInt r;obtain⟨a,q,n,w⟩:=t.st.ow i _ h2;rw[q0]at q;cases q;obtain⟨xs,y,rs⟩:=w;obtain⟨v,hv,rv⟩:=rs.get hd;have hlt:j.toNat<xs.length:=(List.getElem?_eq_some_iff.mp hv).1;have hB:Dm.BIG=1000000000:=rfl;refine⟨a0,xs,j,j.toNat,v,rfl,rfl,y,by omega,by omega,?_,hv,?_⟩
  ·unfold seqIndex?
   simp only[show ¬j<0 by omega,if_false];rw[if_pos (by rw[decide_eq_true (show 0<=j by omega),decide_eq_true (show j<(xs.length:Int) by omega)];rfl)]
  have ow:ak σ ρ1 a0:=⟨i,_,h2,q0⟩
  have hi:i<ρ1.length:=(List.getElem?_eq_some_iff.mp h2).1;refine k v H0' _ (t.trans ⟨t.st.write h2 q0 ⟨_,av,vE _ rs⟩,Stp.write ow,fun b z=>bE h2 z,fun j' z=>trivial⟩) rv
end
section
variable{X:Cx}{e:Expr}{f:Dm.FE}{pos:Pos}
theorem MT(i:Nat){x:Str}{px ap cp:Pos}(he:DE X e f)(hi:X.N[i]?=some x:=by rfl)(hv:Vis X.env.scope x:=by first | exact Or.inl rfl | exact Or.inr (Or.inl rfl) | exact Or.inr (Or.inr rfl))(hd:(x == ("__debug__" : Str))=false:=by decide)
  (hcd:(x == ("__classdict__" : Str))=false:=by decide) (hbase:attributeBase (.Name x px) "extend" X.env (eval (.Name x px) X.env)=eval (.Name x px) X.env:=by rfl)
  (hfew:((backTo cp (starEach [e] X.env)).all (fun x=>!x.1)&&(backToKw cp (keywordEach [] X.env)).all (fun x=>x.1.isSome)
   && decide ([e].length+([]:List Keyword).length+(if ([]:List Keyword).isEmpty then 0 else 1)<30))=true:=by rfl)
  (hline:(ap.endLine == cp.line)=true:=by rfl) (hs:starEach [e] X.env=(false,eval e X.env)::starEach [] X.env:=by rfl) (hplain:(backTo cp (starEach [] X.env)).any (·.1)=false:=by rfl)
  (hsw:swapsWith (.Call (.Attribute (.Name x px) "extend" ap) [e] [] cp) none pos.line X.env=pure false:=by rfl) :
  DS X (.Expr (.Call (.Attribute (.Name x px) "extend" ap) [e] [] cp) pos) (Dm.zx i f):=
 PS.weak (iQ (wV PySem.F.plainAttrs_list PySem.F.slot_list_extend PySem.F.type_list_extend Ff (dO hi hv hd hcd) (aa he af hs) hbase hfew hline hs hplain) hsw) fun _ _ _=>MR
theorem MU(i:Nat){x:Str}{px ap cp:Pos}(hi:X.N[i]?=some x:=by rfl)(hv:Vis X.env.scope x:=by first | exact Or.inl rfl | exact Or.inr (Or.inl rfl) | exact Or.inr (Or.inr rfl))(hd:(x == ("__debug__" : Str))=false:=by decide)
  (hcd:(x == ("__classdict__" : Str))=false:=by decide) (hbase:attributeBase (.Name x px) "clear" X.env (eval (.Name x px) X.env)=eval (.Name x px) X.env:=by rfl) (hline:(ap.endLine == cp.line)=true:=by rfl)
  (hsw:swapsWith (.Call (.Attribute (.Name x px) "clear" ap) [] [] cp) none pos.line X.env=pure false:=by rfl) :
  DS X (.Expr (.Call (.Attribute (.Name x px) "clear" ap) [] [] cp) pos) (Dm.zy i):=
 PS.weak (iQ (Ax PySem.F.plainAttrs_list PySem.F.slot_list_clear PySem.F.type_list_clear AE (dO hi hv hd hcd) hbase hline) hsw) fun _ _ _=>MS
theorem Fj(i:Nat){x:Str}{px ap cp:Pos}(he:DE X e f)(hi:X.N[i]?=some x:=by rfl)(hv:Vis X.env.scope x:=by first | exact Or.inl rfl | exact Or.inr (Or.inl rfl) | exact Or.inr (Or.inr rfl))(hd:(x == ("__debug__" : Str))=false:=by decide)
  (hcd:(x == ("__classdict__" : Str))=false:=by decide) (hbase:attributeBase (.Name x px) "pop" X.env (eval (.Name x px) X.env)=eval (.Name x px) X.env:=by rfl)
  (hfew:((backTo cp (starEach [e] X.env)).all (fun x=>!x.1)&&(backToKw cp (keywordEach [] X.env)).all (fun x=>x.1.isSome)
   && decide ([e].length+([]:List Keyword).length+(if ([]:List Keyword).isEmpty then 0 else 1)<30))=true:=by rfl)
  (hline:(ap.endLine == cp.line)=true:=by rfl) (hs:starEach [e] X.env=(false,eval e X.env)::starEach [] X.env:=by rfl) (hplain:(backTo cp (starEach [] X.env)).any (·.1)=false:=by rfl) :
  DE X (.Call (.Attribute (.Name x px) "pop" ap) [e] [] cp) (Dm.jL i f):=
 PE.weak (wV PySem.F.plainAttrs_list PySem.F.slot_list_pop PySem.F.type_list_pop AB (dO hi hv hd hcd) (aa he af hs) hbase hfew hline hs hplain) fun _ _ _=>Fg
end
end Br
namespace L2
open PySem PySem.Spec PyProof.Rows
section
variable{X:Cx}{pins:List (Addr×Obj)}{σ:St}{H:Hp}{s:Shared}{x:Str}{C:Addr}{bmB:List Value}{B newId initId:String}{np cpos pos:Pos}
end
section
variable{P:Program}{w:World}{K:PySem.W.Frag}{mg:Str->Option Value}{base:Heap}{N:List Str}{qual:Str}{scope:Scope}{f:Addr}{cd:Value}{A:Around}{outer:List Env}{s₀:Shared}{H₀:Hp}{E:XK}{C:Addr}
 {pins:List (Addr×Obj)} {σ:St} {H:Hp} {s:Shared}
end
section
variable{X:Cx}{st:Stmt}{rest:List Stmt}{t:TS}
end
end L2
namespace Br
open PySem PySem.Spec PyProof.Rows L2
section
variable{X:Cx}{C:Addr}{E:L2.St->XK}{k:Nat}{F:Addr}{fd:FuncData}{ps:List Str}{x:Str}{p pos:Pos}{e:Expr}{es:List Expr}{fs:List Dm.FE}{bad:List Dm.Dat->Bool}{R S:Dm.Env->Option Dm.Env}
end
section
variable{P:Program}{w:World}{K:PySem.W.Frag}{mg:Str->Option Value}{base:Heap}{N:List Str}{qual:Str}{scope:Scope}{f:Addr}{cd:Value}{A:Around}{outer:List Env}{s₀:Shared}{H₀:Hp}{E:XK}{C:Addr}
end
end Br
namespace PySem.W
open PySem PySem.Spec PySem.Calls PyProof.Rows
section
variable{prog:Program}{w:World}{A:Around}{K:Frag}{x C:Addr}{s:Shared}{R:Result->Shared->Prop}
end
section
variable{prog:Program}{w:World}{A:Around}{E:Value->Shared->Prop}{K:Frag}{x C:Addr}{ox:Obj}{h:Heap}{g:Array GenState}{d:Drawn}{t:Nat}{os:OsState}
end
end PySem.W
namespace PySem
section
variable{M:Model}{A:Around}{E:Value->Shared->Prop}{s:Shared}{env:Env}
end
end PySem
namespace PySem.W
open PySem PySem.Spec PySem.Calls PyProof.Rows
end PySem.W
namespace L2
open PySem PySem.Spec PyProof.Rows
section
variable{X:Cx}{pins:List (Addr×Obj)}{σ:L2.St}{H:Hp}{s:Shared}
end
end L2
namespace Br
open PySem PySem.Spec PyProof.Rows L2
section
variable{X:Cx}{pins pn:List (Addr×Obj)}{σ:L2.St}{H:Hp}{s:Shared}{xe:Value->Shared->Prop}
end
section
variable{X:Cx}{C:Addr}{e:Expr}{f:Dm.FE}{p p2 pos:Pos}{b:Bool}
end
section
variable{X:Cx}{C:Addr}{e:Expr}{es:List Expr}{f:Dm.FE}{p p2 pos:Pos}{b:Bool}{Ds:List Addr}
end
section
variable{X:Cx}{a b c e:Expr}{f fa fb fc:Dm.FE}{p p2 pos:Pos}{es:List Expr}{fs:List Dm.FE}
theorem Fo:OpR X (compareOp .IsNot) (Fe true):=by intro pins s σ H x y v u Q I rx ry h;obtain⟨rfl,q⟩:=h;cases ry;refine isnot_none_gen ?_;rw[xG rx];exact⟨.bl _,H,I,rfl,q⟩
theorem Fp:OpD (Fe true) Dm.sr:=by
 intro H0 H x y dx dy z Q s rx ry e k;unfold Dm.sr at e;split at e
 ·cases e
  have hy:=kX ry;have:y=V.non:=of_decide_eq_true (hy.trans rfl);refine⟨this,?_⟩;rw[if_pos rfl,kX rx];exact k _ H0 H (aI.refl s) (.bl _)
 ·cases e
theorem J1(ha:DE X a fa)(hb:DE X b fb):DT X (.Compare a [.IsNot] [b] pos) (Dm.tV (Dm.e2 Dm.sr fa fb)):=j8 Fo Fp ha hb (cz _)
end
end Br
namespace Br
open PySem PySem.Spec PyProof.Rows L2
section
variable{X:Cx}
theorem xH{ns:List Int}{its:List Value}(rv:Vals (ns.map V.int) its):∀(i:Nat) (v:Value),its.toArray[i]?=some v->∃t,v=.int (ns.getD i 0) t:=by
 intro i v hv;have hv':its[i]?=some v:=by simpa using hv
 have hlen:=rv.length;rw[List.length_map]at hlen;have hi:i<ns.length:=by rw[hlen];exact(List.getElem?_eq_some_iff.mp hv').1
 have hb:(ns.map V.int)[i]?=some (V.int ns[i]):=by rw[List.getElem?_map,List.getElem?_eq_getElem hi];rfl
 obtain⟨u,hu,ru⟩:=rv.get hb;rw[hv']at hu;cases hu;obtain⟨t,rfl⟩:=ru;exact⟨t,by rw[List.getD_eq_getElem?_getD,List.getElem?_eq_getElem hi];rfl⟩
theorem l6:∀{H0:Hp} {us:List V} {ds:List Dm.Dat} {ns:List Int},aB H0 us ds->Dm.eU ds=some ns->us=ns.map V.int
 |_,_,_,_,.nil,h=>by cases h;rfl
 |_,_,_,_,.cons (ds:=ds) (d:=d) r rr,h=>by
  cases d with
  |int i=>
   rw[Dm.eU]at h;cases hn:Dm.eU ds with
   |none=>rw[hn]at h;cases h
   |some ms=>rw[hn]at h;cases h;have:=Rep.isInt r;subst this;rw[l6 rr hn];rfl
  |_=>cases h
end
section
variable{X:Cx}{e:Expr}{fs:List Dm.FE}{p pos:Pos}
end
section
variable{X:Cx}
end
section
variable{σ:L2.St}{H:Hp}{Q:VK}
end
section
variable{X:Cx}{a e:Expr}{fa f:Dm.FE}
end
section
variable{P:Program}{w:World}{K:PySem.W.Frag}{mg:Str->Option Value}{base:Heap}
end
section
variable{X:Cx}{l a:Expr}{tl:TE}{ta:TA}{fa:Dm.FE}{p pos p0 lU:Pos}
end
section
variable{σ:L2.St}{H:Hp}{Q:VK}
end
section
variable{X:Cx}{e:Expr}{es:List Expr}{fs:List Dm.FE}{p pos:Pos}
end
end Br
namespace Dm
noncomputable abbrev FN:=Env->List (List Dat)->Option (Env×List (List Dat))
noncomputable def nNx:FN:=fun ρ r=>some (ρ,r)
noncomputable def zz(s u:FN):FN:=fun ρ r=>match s ρ r with
 |none=>none
 |some (ρ1,r1)=>u ρ1 r1
noncomputable def nIf(t:FT)(a b:FN):FN:=fun ρ r=>match t ρ with
 |none=>none
 |some (true,ρ1)=>a ρ1 r
 |some (false,ρ1)=>b ρ1 r
noncomputable def vF(i e:FE):FN:=fun ρ r=>match i ρ with
 | some (.val (.int k),ρ1)=>(match ixN r.length k with
  |none=>none
  |some m=>match r[m]? with
   |none=>none
   |some row=>match e ρ1 with
    |none=>none
    |some (x,ρ2)=>match tk ρ2 x with
     |none=>none
     |some (d,ρ3)=>if row.length<SZ then some (ρ3,r.set m (row++[d])) else none)
 |_=>none
noncomputable def kh(bd:FB)(body:FN):List Dat->FN
 |[],ρ,r=>some (ρ,r)
 |d::q,ρ,r=>match bd d ρ with
  |none=>none
  |some ρ1=>match body ρ1 r with
   |none=>none
   |some (ρ2,r2)=>kh bd body q ρ2 r2
noncomputable def vG(it:FI)(bd:FB)(body:FN):FN:=fun ρ r=>match it ρ with
 |none=>none
 |some (ds,ρ1)=>kh bd body ds ρ1 r
noncomputable def nMk(bd:FB):List Dat->Env->Option Env
 |[],ρ=>some ρ
 |d::r,ρ=>match bd d ρ with
  |none=>none
  |some ρ1=>nMk bd r ρ1
noncomputable def l7(j:Nat)(it:FI)(own:Nat)(bd:FB)(loop:FN):FS:=fun ρ=>if j=0 then none else match it ρ with
 |none=>none
 | some (ds,ρ1)=>if ds.length≤SZ then (match nMk bd ds (ρ1++List.replicate own .un) with
  |none=>none
  |some ρ2=>match loop ((ρ2.take ρ1.length).set j .un) (List.replicate ds.length []) with
   |none=>none
   |some (ρ3,r)=>some (.nx (ρ3.set j (.ow (.lst (r.map .lst)))))) else none
noncomputable def jN:List Dat->Option RV
 |[.dct ks _]=>if ks.length<=63 then some (.new (.lst ((cO (fun a b=>decide (a<b)) ks).map .int))) else none
 |_=>none
noncomputable def su:List Dat->Option RV
 |[.dct ks vs]=>some (.new (.dct ks vs))
 |_=>none
noncomputable def d_:List Int->List Dat->Int->List Int
 |k::ks,_::vs,i=>if k=i then d_ ks vs i else k::d_ ks vs i
 |_,_,_=>[]
noncomputable def ee:List Int->List Dat->Int->List Dat
 |k::ks,v::vs,i=>if k=i then ee ks vs i else v::ee ks vs i
 |_,_,_=>[]
noncomputable def l8(i:Nat)(e:FE):FE:=fun ρ=>match ρ[i]? with
 | some (.ow (.dct _ _))=>(match e ρ with
  | some (.val (.int k),ρ1)=>(match ρ1[i]? with
   | some (.ow (.dct ks vs))=>(match bx ks vs k with
    |some d=>some (.val d,ρ1.set i (.ow (.dct (d_ ks vs k) (ee ks vs k))))
    |none=>none)
   |_=>none)
  |_=>none)
 |_=>none
mutual
noncomputable def bK:Dat->Bool
 |.tup xs=>fM xs
 |.lst xs=>fM xs
 |.dct _ _=>false
 |.exc _=>false
 |_=>true
noncomputable def fM:List Dat->Bool
 |[]=>true
 |x::r=>bK x&&fM r
end
noncomputable def tkd(ρ:Env):Val->Option (Dat×Env)
 |.val d=>some (d,ρ)
 |.new d=>some (d,ρ)
 |.slot i=>match ρ[i]? with
  |some (.ow (.dct ks vs))=>some (.dct ks vs,ρ)
  |some (.ow d)=>some (d,ρ.set i (.sh d))
  |some (.sh d)=>some (d,ρ)
  |_=>none
noncomputable def vH(ρ:Env):List Val->Option (List Dat×Env)
 |[]=>some ([],ρ)
 |x::r=>match tkd ρ x with
  |none=>none
  |some (d,ρ1)=>match vH ρ1 r with
   |none=>none
   |some (ds,ρ2)=>some (d::ds,ρ2)
noncomputable def eFd(f:List Dat->Option RV)(as:List FE):FE:=fun ρ=>match eAs as ρ with
 |none=>none
 |some (xs,ρ1)=>match vH ρ1 xs with
  |none=>none
  |some (ds,ρ2)=>match f ds with
   |none=>none
   |some v=>if bK v.dat then some (v.bD,ρ2) else none
noncomputable def jm:Dat->Dat->Option RV
 |.int i,.int j=>if i.natAbs.log2<1000000/\j.natAbs.log2<1000000 then vI (i*j) else none
 |_,_=>none
noncomputable def gy(lo k:Int)(n:Nat):List Dat:=(List.range n).map fun i=>Dat.int (lo+(i:Nat)*k)
noncomputable def cE(i j k:Int):Nat:=if i<j then ((j-i-1) / k+1).toNat else 0
noncomputable def iRs(a b c:FE):FI:=fun ρ=>match a ρ with
 | some (.val (.int i),ρ1)=>(match b ρ1 with
  | some (.val (.int j),ρ2)=>(match c ρ2 with
   |some (.val (.int k),ρ3)=>if (0<k/\k<=1000)/\j<=BIG/\-BIG<=j/\i<=BIG/\-BIG<=i then some (gy i k (cE i j k),ρ3) else none
   |_=>none)
  |_=>none)
 |_=>none
noncomputable def jO:List Val->Option (List Dat)
 |[]=>some []
 |.val d::r=>(jO r).map fun ds=>d::ds
 |_=>none
noncomputable def eFn(f:List Dat->Option (RV×Dat))(e0:FE)(as:List FE):FE:=fun ρ=>match eAs (e0::as) ρ with
 | some (.new d::xs,ρ1)=>(match jO xs with
  |none=>none
  |some ds=>match f (d::ds) with
   |none=>none
   |some (v,_)=>some (v.bD,ρ1))
 |_=>none
end Dm
namespace Br
open PySem PySem.Spec PyProof.Rows L2
noncomputable def aP(H0 H:Hp):List Addr->List (List Dm.Dat)->Prop
 |[],[]=>True
 |p::ps,r::rs=>(∃xs,H p=some (.lst xs)/\aB H0 xs r)/\aP H0 H ps rs
 |_,_=>False
theorem aP.len{H0 H:Hp}:∀{ps:List Addr} {rs:List (List Dm.Dat)},aP H0 H ps rs->ps.length=rs.length
 |[],[],_=>rfl
 |_::_,_::_,h=>by simp[aP.len h.2]
theorem aP.get{H0 H:Hp}:∀{ps:List Addr} {rs:List (List Dm.Dat)} {i:Nat} {r:List Dm.Dat},aP H0 H ps rs->rs[i]?=some r->∃p xs,ps[i]?=some p/\H p=some (.lst xs)/\aB H0 xs r
 |[],[],_,_,_,e=>by simp at e
 |p::_,_::_,0,_,h,e=>by simp at e;subst e;obtain⟨xs,h1,h2⟩:=h.1;exact⟨p,xs,rfl,h1,h2⟩
 |_::_,_::_,i+1,_,h,e=>by obtain⟨p,xs,h1,h2⟩:=aP.get (i:=i) h.2 (by simpa using e);exact⟨p,xs,by simpa using h1,h2⟩
theorem aP.mono{H0 H H0' H':Hp}:∀{ps:List Addr} {rs:List (List Dm.Dat)},aP H0 H ps rs->au H0 H0'->(∀p∈ps,H' p=H p)->aP H0' H' ps rs
 |[],[],_,_,_=>trivial
 |p::ps,r::rs,h,s,k=>by obtain⟨⟨xs,h1,h2⟩,h3⟩:=h;exact⟨⟨xs,by rw[k p List.mem_cons_self];exact h1,h2.mono s⟩,aP.mono h3 s fun q hq=>k q (List.mem_cons_of_mem _ hq)⟩
theorem aP.set{H0 H:Hp}{p:Addr}{xs:List V}{r:List Dm.Dat}(w:aB H0 xs r):∀{ps:List Addr} {rs:List (List Dm.Dat)} {i:Nat},aP H0 H ps rs->ps.Nodup->ps[i]?=some p->aP H0 (upd H p (.lst xs)) ps (rs.set i r)
 |[],[],_,_,_,e=>by simp at e
 |q::ps,_::rs,0,h,n,e=>by simp at e;subst e;refine⟨⟨xs,av,w⟩,h.2.mono (au.refl _) fun y hy=>aA fun z=>?_⟩;subst z;exact(List.nodup_cons.mp n).1 hy
 |q::ps,_::rs,i+1,h,n,e=>by
  have e':ps[i]?=some p:=by simpa using e
  obtain⟨⟨ys,h1,h2⟩,h3⟩:=h;obtain⟨n1,n2⟩:=List.nodup_cons.mp n;refine⟨⟨ys,?_,h2⟩,aP.set w h3 n2 e'⟩;rw[aA fun z=>?_]
  ·exact h1
  ·subst z
   exact n1 (List.mem_of_getElem? e')
theorem aP.some{H0 H:Hp}:∀{ps:List Addr} {rs:List (List Dm.Dat)},aP H0 H ps rs->∀p∈ps,∃o,H p=some o
 |[],[],_,_,h=>by cases h
 |q::ps,_::rs,h,p,hp=>by
  rcases List.mem_cons.mp hp with rfl | hp
  ·obtain⟨xs,h1,_⟩:=h.1;exact⟨_,h1⟩
  ·exact aP.some h.2 p hp
structure NS(j:Nat)(σs:L2.St)(ρs:Dm.Env)(H0s Hs:Hp)(σ:L2.St)(ρ:Dm.Env)(H0 H:Hp)(rows:List (List Dm.Dat)):Prop where
 st:aD H0 H σ ρ
 stp:Stp (ak σs ρs) H0s Hs H0 H
 own:∀a,ak σ ρ a->ak σs ρs a\/Hs a=none
 fx:σ[0]?=σs[0]?
 ex:∃(L:Addr) (ps:List Addr),σ[j]?=some (some (.ref L))/\Hs L=none/\H0 L=none/\¬ak σ ρ L/\H L=some (.lst (ps.map V.ref))/\(L::ps).Nodup/\(∀p∈ps,Hs p=none/\H0 p=none/\¬ak σ ρ p)/\aP H0 H ps rows
theorem NS.est{j:Nat}{σs:L2.St}{ρs:Dm.Env}{H0s Hs:Hp}{σ:L2.St}{ρ ρ':Dm.Env}{H0 H H0' H':Hp}{rows:List (List Dm.Dat)}(n:NS j σs ρs H0s Hs σ ρ H0 H rows)(t:ESt σ ρ H0 H ρ' H0' H'):NS j σs ρs H0s Hs σ ρ' H0' H' rows:=by
 obtain⟨L,ps,h1,h2,h3,h4,h5,h6,h7,h8⟩:=n.ex;obtain⟨k1,k2,k3⟩:=t.dw h5 h3 h4;refine⟨t.st,n.stp.trans t.stp n.own,fun a z=>n.own a (t.own a z),n.fx,L,ps,h1,h2,k2,k3,k1,h6,fun p hp=>?_,h8.mono t.stp.s0 fun p hp=>?_⟩
 ·obtain⟨q1,q2,q3⟩:=h7 p hp
  obtain⟨o,q4⟩:=h8.some p hp;obtain⟨z1,z2,z3⟩:=t.dw q4 q2 q3;exact⟨q1,z2,z3⟩
 ·obtain⟨q1,q2,q3⟩:=h7 p hp
  obtain⟨o,q4⟩:=h8.some p hp;obtain⟨z1,z2,z3⟩:=t.dw q4 q2 q3;rw[z1,q4]
theorem NS.bind{j:Nat}{σs:L2.St}{ρs:Dm.Env}{H0s Hs:Hp}{σ σ':L2.St}{ρ ρ':Dm.Env}{H0 H:Hp}{rows:List (List Dm.Dat)}(n:NS j σs ρs H0s Hs σ ρ H0 H rows)(st:aD H0 H σ' ρ')(o:∀a,ak σ' ρ' a->ak σ ρ a)(hj:σ'[j]?=σ[j]?)(h0:σ'[0]?=σ[0]?):NS j σs ρs H0s Hs σ' ρ' H0 H rows:=by obtain⟨L,ps,h1,h2,h3,h4,h5,h6,h7,h8⟩:=n.ex;exact⟨st,n.stp,fun a z=>n.own a (o a z),h0.trans n.fx,L,ps,hj.trans h1,h2,h3,fun z=>h4 (o L z),h5,h6,fun p hp=>⟨(h7 p hp).1,(h7 p hp).2.1,fun z=>(h7 p hp).2.2 (o p z)⟩,h8⟩
noncomputable def sy(H0 H:Hp)(ps:List Addr):Hp:=fun b=>if b∈ps then H b else H0 b
theorem qD{H0 H:Hp}{ps:List Addr}{b:Addr}(h:b∈ps):sy H0 H ps b=H b:=by unfold sy;rw[if_pos h]
theorem fN{H0 H:Hp}{ps:List Addr}{b:Addr}(h:b∉ps):sy H0 H ps b=H0 b:=by unfold sy;rw[if_neg h]
theorem zA{H0 H:Hp}{ps:List Addr}(s:au H0 H):au H0 (sy H0 H ps):=fun b o e=>by
 by_cases q:b∈ps
 ·rw[qD q];exact s _ _ e
 ·rw[fN q];exact e
theorem By{H0 H:Hp}{ps:List Addr}(s:au H0 H):au (sy H0 H ps) H:=fun b o e=>by
 by_cases q:b∈ps
 ·rw[qD q]at e;exact e
 ·rw[fN q]at e;exact s _ _ e
theorem aP.reps{H0 H H1:Hp}:∀{ps:List Addr} {rs:List (List Dm.Dat)},aP H0 H ps rs->au H0 H1->(∀p∈ps,H1 p=H p)->aB H1 (ps.map V.ref) (rs.map Dm.Dat.lst)
 |[],[],_,_,_=>.nil
 |p::ps,r::rs,h,s,k=>by obtain⟨⟨xs,h1,h2⟩,h3⟩:=h;exact .cons (.lst (.inl ((k p List.mem_cons_self).trans h1)) (h2.mono s)) (aP.reps h3 s fun q hq=>k q (List.mem_cons_of_mem _ hq))
theorem NS.done{j:Nat}{σs:L2.St}{ρs:Dm.Env}{H0s Hs:Hp}{σ:L2.St}{ρ:Dm.Env}{H0 H:Hp}{rows:List (List Dm.Dat)}(n:NS j σs ρs H0s Hs σ ρ H0 H rows):∃H0',SSt σs ρs H0s Hs σ (ρ.set j (.ow (.lst (rows.map Dm.Dat.lst)))) H0' H:=by
 obtain⟨L,ps,h1,h2,h3,h4,h5,h6,h7,h8⟩:=n.ex;obtain⟨n1,n2⟩:=List.nodup_cons.mp h6;have ss:=zA (ps:=ps) n.st.same;have st:aD (sy H0 H ps) H σ ρ:={
  same:=By n.st.same
  len:=n.st.len
  sh:=fun i d h=>by obtain⟨v,z,r⟩:=n.st.sh i d h;exact⟨v,z,r.mono ss⟩
  ow:=fun i d h=>by
   obtain⟨b,z,q,w⟩:=n.st.ow i d h;have nb:b∉ps:=fun y=>(h7 b y).2.2 ⟨i,d,h,z⟩
   exact⟨b,z,by rw[fN nb];exact q,w.mono ss rfl⟩
  dis:=n.st.dis }
 refine⟨sy H0 H ps,st.jJ h1 h4 (by rw[fN n1];exact h3) ⟨_,h5,h8.reps ss fun p hp=>qD hp⟩,⟨n.stp.s0.trans ss,n.stp.s1,fun a o e=>?_,n.stp.s3⟩,fun a z=>?_,n.fx⟩
 ·by_cases q:a∈ps
  ·exact .inl (h7 a q).1
  ·rw[fN q]at e;exact n.stp.s2 a o e
 ·obtain⟨i,d,z1,z2⟩:=z
  by_cases q:j=i
  ·subst q
   rw[h1]at z2;cases z2;exact .inr h2
  ·rw[List.getElem?_set_ne q]at z1
   exact n.own a ⟨i,d,z1,z2⟩
noncomputable def tDN(j:Nat)(f:Dm.FN):TS:=fun D σ H=>∃σs ρs H0s Hs H0 ρ rows ρ' rows',NS j σs ρs H0s Hs σ ρ H0 H rows/\f ρ rows=some (ρ',rows')/\∀σ' H0' H',NS j σs ρs H0s Hs σ' ρ' H0' H' rows'->au H0 H0'->D.nx σ' H'
section
variable{D:Ends}{σ:L2.St}{H:Hp}{j:Nat}
theorem MV(h:tDN j Dm.nNx D σ H):Ad D σ H:=by obtain⟨σs,ρs,H0s,Hs,H0,ρ,rows,ρ',rows',n,e,k⟩:=h;cases e;exact k σ H0 H n (au.refl _)
theorem J2{s u:Dm.FN}(h:tDN j (Dm.zz s u) D σ H):yK (tDN j s) (tDN j u) D σ H:=by
 obtain⟨σs,ρs,H0s,Hs,H0,ρ,rows,ρ',rows',n,e,k⟩:=h;unfold Dm.zz at e;split at e
 ·cases e
 rename_i ρ1 r1 e1;exact⟨σs,ρs,H0s,Hs,H0,ρ,rows,ρ1,r1,n,e1,fun σ' H0' H' n' s1=>⟨σs,ρs,H0s,Hs,H0',ρ1,r1,ρ',rows',n',e,fun σ2 H2 Hc n2 s2=>k σ2 H2 Hc n2 (s1.trans s2)⟩⟩
theorem MW{t:Dm.FT}{a b:Dm.FN}(h:tDN j (Dm.nIf t a b) D σ H):IF (tDT t) (tDN j a) (tDN j b) D σ H:=by
 obtain⟨σs,ρs,H0s,Hs,H0,ρ,rows,ρ',rows',n,e,k⟩:=h;unfold Dm.nIf at e;split at e
 ·cases e
 ·rename_i ρ1 e1
  refine⟨H0,ρ,true,ρ1,n.st,e1,fun H1 Hb t1=>?_⟩;dsimp only;rw[if_pos rfl];exact⟨σs,ρs,H0s,Hs,H1,ρ1,rows,ρ',rows',n.est t1,e,fun σ2 H2 Hc n2 s2=>k σ2 H2 Hc n2 (t1.stp.s0.trans s2)⟩
 ·rename_i ρ1 e1
  refine⟨H0,ρ,false,ρ1,n.st,e1,fun H1 Hb t1=>?_⟩;dsimp only;rw[if_neg Bool.false_ne_true];exact⟨σs,ρs,H0s,Hs,H1,ρ1,rows,ρ',rows',n.est t1,e,fun σ2 H2 Hc n2 s2=>k σ2 H2 Hc n2 (t1.stp.s0.trans s2)⟩
theorem J3{fi:Dm.FI}{bd:Dm.FB}{g:TG}{body:Dm.FN}{is:List Nat}(hb:BD is g bd)(hj:j∉is)(h:tDN j (Dm.vG fi bd body) D σ H):IM (tDI fi) g (tDN j body) D σ H:=by
 obtain⟨σs,ρs,H0s,Hs,H0,ρ,rows,ρ',rows',n,e,k⟩:=h;unfold Dm.vG at e;split at e
 ·cases e
 rename_i ys ρ1 e1;refine⟨H0,ρ,ys,ρ1,n.st,e1,fun J H00 Hb t1 jw=>?_⟩;refine ⟨fun i m σ H=>∃ H0 ρ rows,NS j σs ρs H0s Hs σ ρ H0 H rows∧au H00 H0∧m=ys.length-i∧i≤ys.length∧Dm.kh bd body (ys.drop i) ρ rows=some (ρ',rows'),
  ⟨ys.length,H00,ρ1,rows,n.est t1,au.refl _,by simp,Nat.zero_le _,by simpa using e⟩,?_⟩
 rintro i m σ H ⟨H0,ρ,rows,n,s00,rfl,hi,e⟩;obtain⟨js,jg⟩:=jw H0 H s00 n.st.same;by_cases hlt:i<ys.length
 ·have hd:ys[i]?=some ys[i]:=by simp[hlt]
  obtain⟨g1,g2⟩:=jg i ys[i] hd;rw[List.drop_eq_getElem_cons hlt]at e;unfold Dm.kh at e;refine .inr ⟨g1,fun σ' H'=>∃H0 ρ rows,NS j σs ρs H0s Hs σ' ρ H0 H' rows/\au H00 H0/\Dm.kh bd body (ys.drop (i+1)) ρ rows=some (ρ',rows'),?_,fun x H' y=>?_⟩
  ·rintro σ' H' ⟨H0',ρ2,r2,h1,h2,h3⟩
   exact⟨ys.length-(i+1),by omega,H0',ρ2,r2,h1,h2,rfl,hlt,h3⟩
  ·obtain⟨H0',gr,rx⟩:=g2 x H' y
   split at e
   ·cases e
   ·rename_i ρ2 e2
    have t2:=ESt.grow n.st gr;have n2:=n.est t2;refine hb H0' H' σ ρ ρ2 x ys[i] _ t2.st rx e2 fun σ2 st2 o2 k2 _ f2=>?_
    have n3:=n2.bind st2 o2 (k2 j hj) f2;have s3:au H00 H0':=s00.trans gr.s0;split at e
    ·cases e
    ·rename_i ρ3 r3 e3
     refine⟨σs,ρs,H0s,Hs,H0',ρ2,rows,ρ3,r3,n3,e3,fun σ4 H4 Hd n4 s4=>⟨H4,ρ3,r3,n4,s3.trans s4,e⟩⟩
 ·have e':i=ys.length:=by omega
  subst e';rw[List.drop_length]at e;cases e;exact .inl ⟨js _ (Nat.le_refl _),k σ H0 H n (t1.stp.s0.trans s00)⟩
theorem J4{K:PySem.W.Frag}{fi f:Dm.FE}(h:tDN j (Dm.vF fi f) D σ H):oR (tBM K "list" qi (tOp (Jb K) (lg j) (tD fi)) (tDA [f])) D σ H:=by
 obtain⟨σs,ρs,H0s,Hs,H0,ρ,rows,ρ',rows',n,e,k⟩:=h;unfold Dm.vF at e;split at e
 case h_2=>cases e
 rename_i z ρ1 e1;split at e
 ·cases e
 rename_i m em;split at e
 ·cases e
 rename_i row er;split at e
 ·cases e
 rename_i x ρ2 e2;split at e
 ·cases e
 rename_i d ρ3 e3;split at e
 case isFalse=>cases e
 rename_i hz;cases e;obtain⟨L,ps0,h1,_⟩:=n.ex;refine⟨_,h1,H0,ρ,_,ρ1,n.st,e1,fun y H1 Hb t1 r1=>?_⟩;have n1:=n.est t1;obtain⟨L',ps,q1,q2,q3,q4,q5,q6,q7,q8⟩:=n1.ex;rw[h1]at q1;cases q1;obtain⟨q,xs,hq,hqx,hqr⟩:=q8.get er;have hqm:q∈ps:=List.mem_of_getElem? hq;refine⟨L,ps.map V.ref,z,V.ref q,rfl,Rep.isInt r1,.inl (.inl q5),?_,.inl ⟨rfl,xs,.inl (.inl hqx)⟩,?_⟩
 ·show (L2.ixN (ps.map V.ref).length z).bind (fun j=>(ps.map V.ref)[j]?)=_
  rw[List.length_map,q8.len,<- Jt,em];show (ps.map V.ref)[m]?=_;rw[List.getElem?_map,hq];rfl
 refine⟨H1,ρ1,[x],ρ2,n1.st,by unfold Dm.eAs;rw[e2];rfl,fun vs H2 Hc t2 r2=>?_⟩;cases r2 with
 |cons r rr=>
  cases rr;obtain⟨H3,t3,b3,r3,_,_⟩:=take1 t2 (au.refl _) r e3;have n3:=n1.est t3;obtain⟨L',ps',w1,w2,w3,w4,w5,w6,w7,w8⟩:=n3.ex;rw[h1]at w1;cases w1;obtain⟨k1,_,_⟩:=t3.dw q5 q3 q4;rw[k1]at w5;have ep:ps'=ps:=by
   have:ps.map V.ref=ps'.map V.ref:=by injection w5 with z;injection z
   exact((List.map_inj_right fun a b h=>by injection h).mp this).symm
  subst ep;obtain⟨q',ys,hq',hqy,MX⟩:=w8.get er;rw[hq]at hq';cases hq';have nL:L≠q:=fun z=>(List.nodup_cons.mp w6).1 (z▸hqm)
  refine⟨q,ys,_,rfl,rfl,hqy,by rw[MX.length];exact Nat.lt_of_lt_of_le hz (by decide),?_⟩;obtain⟨z1,z2,z3⟩:=w7 q hqm;refine k σ H3 _ ⟨n3.st.aside z2 z3,n3.stp.aside z1,n3.own,n3.fx,L,ps',h1,w2,w3,w4,by rw[aA nL];exact k1,w6,w7,aP.set (MX.append (.cons r3 .nil)) w8 (List.nodup_cons.mp w6).2 hq⟩ (t1.stp.s0.trans t3.stp.s0)
end
theorem BA{σ:L2.St}{own:Nat}{bd:Dm.FB}{g:TG}{is:List Nat}{Q:VK}{H00 Hb:Hp}{ρ1 ρ2:Dm.Env}{ds:List Dm.Dat}{J:It}(hb:BD is g bd)(hl:∀i∈is,σ.length<=i)
  (st1:aD H00 Hb σ ρ1) (jw:JW J H00 ds) (hsz:ds.length<=Dm.SZ) (e2:Dm.nMk bd ds (ρ1++List.replicate own .un)=some ρ2) (D:Addr) (hD:Hb D=none)
  (k:∀ H0' H' (ps:List Addr),aD H0' H' σ (ρ2.take ρ1.length)→Stp (ak σ ρ1) H00 Hb H0' H'→(∀ a,ak σ (ρ2.take ρ1.length) a→ak σ ρ1 a)→H' D=some (.lst (ps.map V.ref))→H0' D=none→(D::ps).Nodup→(∀ p∈ps,Hb p=none∧H0' p=none) →
   aP H0' H' ps (List.replicate ds.length [])->Q (.ref D) H') :
  ∃W:Nat->Nat->L2.St->Hp->Prop,(∃m,W 0 m (σ++List.replicate own none) (upd Hb D (.lst [])))/\∀i m σ' H',W i m σ' H' ->
  (J.stop i H'∧Q (.ref D) H')∨(J.go i H'∧∀ x H2,J.yld i H' x H2→g x σ' H2 fun σ2 H3=>EI σ2 H3 fun b H4=>if b=true
   then Es Ar σ2 H4 fun y H5=>∃acc,H5 D=some (.lst acc)/\acc.length<sizeLine/\∃m',m'<m/\W (i+1) m' σ2 (upd H5 D (.lst (acc++[y])))
   else ∃m',m'<m/\W (i+1) m' σ2 H4):=by
 have noD:¬ak σ ρ1 D:=st1.bJ hD;refine ⟨fun i m σ' H'=>∃ (H0c:Hp) (ρc:Dm.Env) (ps:List Addr),aD H0c H' σ' ρc∧au H00 H0c∧m=ds.length-i∧i≤ds.length∧Dm.nMk bd (ds.drop i) ρc=some ρ2 ∧
  H' D=some (.lst (ps.map V.ref))/\ps.length=i/\H0c D=none/\(D::ps).Nodup/\(∀p∈ps,Hb p=none/\H0c p=none)/\aP H0c H' ps (List.replicate i [])/\Stp (ak σ ρ1) H00 Hb H0c H'/\(∀j,j<σ.length->σ'[j]?=σ[j]?)/\(∀a,ak σ' ρc a->ak σ ρ1 a),
  ⟨ds.length,H00,ρ1++List.replicate own .un,[],(st1.aside (st1.same.free hD) noD).ext own,au.refl _,by simp,Nat.zero_le _,by simpa using e2,av,rfl,st1.same.free hD,by simp,by simp,trivial,(Stp.refl _ _ _).aside hD,
   fun j hj=>List.getElem?_append_left hj,fun a z=>jH st1 z⟩,?_⟩
 rintro i m σ' H' ⟨H0c,ρc,ps,sc,s00,rfl,hi,ec,hDl,hpl,n0,nd,hps,hro,sp,hσ,ho⟩;have nOc:¬ak σ' ρc D:=fun z=>noD (ho D z)
 have nOp:∀p∈ps,¬ak σ' ρc p:=fun p hp z=>st1.bJ (hps p hp).1 (ho p z)
 obtain⟨js,jg⟩:=jw H0c H' s00 sc.same;by_cases hlt:i<ds.length
 ·have hd:ds[i]?=some ds[i]:=by simp[hlt]
  obtain⟨g1,g2⟩:=jg i ds[i] hd;rw[List.drop_eq_getElem_cons hlt]at ec;unfold Dm.nMk at ec;refine .inr ⟨g1,fun y H2 yy=>?_⟩;obtain⟨H0',gr,rx⟩:=g2 y H2 yy;split at ec
  ·cases ec
  rename_i ρ3 e3;have t2:=ESt.grow sc gr;obtain⟨hD2,n02,no2⟩:=t2.dw hDl n0 nOc;refine hb H0' H2 σ' ρc ρ3 y ds[i] _ t2.st rx e3 fun σ3 st3 o3 k3 d3 _=>?_
  unfold EI;dsimp only;rw[if_pos rfl];refine⟨Nat.zero_le _,fun p hp=>?_⟩;have hpD:p≠D:=fun z=>by rw[z,hD2]at hp;cases hp
  have noP:¬ak σ3 ρ3 p:=st3.bJ hp;have MY:∀q∈ps,q≠p:=fun q hq z=>by obtain⟨o,h1⟩:=hro.some q hq;have:=gr.s1 q o h1;rw[z,hp]at this;cases this
  refine⟨ps.map V.ref,by rw[aA (Ne.symm hpD)];exact hD2,?_,ds.length-(i+1),by omega,H0',ρ3,ps++[p],?_,s00.trans gr.s0,rfl,hlt,ec,?_,by simp[hpl],n02,?_,?_,?_,?_,?_,?_⟩
  ·rw[List.length_map,hpl]
   unfold Dm.SZ at hsz;exact Nat.lt_of_lt_of_le (Nat.lt_of_lt_of_le hlt hsz) (by decide)
  ·have no3:¬ak σ3 ρ3 D:=fun z=>no2 (o3 D z)
   exact(st3.aside (st3.same.free hp) noP).aside n02 no3
  ·rw[av,List.map_append];rfl
  ·rw[<- List.cons_append]
   refine List.nodup_append.mpr ⟨nd,by simp,fun a ha b hb=>?_⟩;rw[List.mem_singleton.mp hb];rcases List.mem_cons.mp ha with rfl | ha
   ·exact Ne.symm hpD
   ·exact MY a ha
  ·intro q hq
   rcases List.mem_append.mp hq with hq | hq
   ·refine⟨(hps q hq).1,?_⟩
    obtain⟨o,h1⟩:=hro.some q hq;exact(t2.dw h1 (hps q hq).2 (nOp q hq)).2.1
   ·rw[List.mem_singleton.mp hq]
    exact⟨(sp.trans t2.stp fun a z=>.inl (ho a z)).gone hp,st3.same.free hp⟩
  ·have base:aP H0' (upd (upd H2 p (.lst [])) D (.lst (ps.map V.ref++[V.ref p]))) ps (List.replicate i []):=hro.mono gr.s0 fun q hq=>by
    have hqD:q≠D:=fun z=>(List.nodup_cons.mp nd).1 (z▸hq)
    obtain⟨o,h1⟩:=hro.some q hq;rw[aA hqD,aA (MY q hq),gr.s1 q o h1,h1]
   have app:∀{H0 H:Hp} {ps:List Addr} {rs:List (List Dm.Dat)} {p:Addr},aP H0 H ps rs->H p=some (.lst [])->aP H0 H (ps++[p]) (rs++[[]]):=by
    intro H0 H ps rs p h1 h2
    induction ps generalizing rs with
    |nil=>cases rs with
     |nil=>exact⟨⟨[],h2,.nil⟩,trivial⟩
     |cons _ _=>exact h1.elim
    |cons q ps ih=>cases rs with
     |nil=>exact h1.elim
     |cons r rs=>exact⟨h1.1,ih h1.2⟩
   have:=app base (p:=p) (by rw[aA hpD,av]);rw[List.replicate_succ'];exact this
  ·exact((sp.trans t2.stp fun a z=>.inl (ho a z)).aside ((sp.trans t2.stp fun a z=>.inl (ho a z)).gone hp)).aside hD
  ·exact fun j hj=>(k3 j fun z=>Nat.not_lt.mpr (hl j z) hj).trans (hσ j hj)
  ·exact fun a z=>ho a (o3 a z)
 ·have e':i=ds.length:=by omega
  subst e';rw[List.drop_length]at ec;cases ec;refine .inl ⟨js _ (Nat.le_refl _),k H0c H' ps ?_ sp ?_ hDl n0 nd hps hro⟩
  all_goals
   have hlen:σ.length<=ρ2.length:=by
    rw[<- sc.len];refine Nat.not_lt.mp fun z=>?_
    have q:=hσ σ'.length z;rw[List.getElem?_eq_none (Nat.le_refl _),List.getElem?_eq_getElem z]at q;cases q
   have tk:∀{j:Nat} {c:Dm.Cell},(ρ2.take ρ1.length)[j]?=some c->j<σ.length/\ρ2[j]?=some c:=fun {j c} h=>by
    have hj:j<ρ1.length:=by have:=(List.getElem?_eq_some_iff.mp h).1;rw[List.length_take]at this;omega
    rw[List.getElem?_take_of_lt hj]at h;exact⟨by rw[st1.len];exact hj,h⟩
  ·refine⟨sc.same,?_,fun j d h=>?_,fun j d h=>?_,fun j j' d d' a h1 h2 h3 h4=>?_⟩
   ·rw[List.length_take,<- st1.len];omega
   ·obtain⟨hj,h⟩:=tk h
    obtain⟨v,q,r⟩:=sc.sh j d h;exact⟨v,(hσ j hj).symm.trans q,r⟩
   ·obtain⟨hj,h⟩:=tk h
    obtain⟨v,q,r⟩:=sc.ow j d h;exact⟨v,(hσ j hj).symm.trans q,r⟩
   ·obtain⟨hj,h1⟩:=tk h1
    obtain⟨hj',h2⟩:=tk h2;exact sc.dis j j' d d' a h1 h2 ((hσ j hj).trans h3) ((hσ j' hj').trans h4)
  ·intro a ⟨j,d,h1,h2⟩
   obtain⟨hj,h1⟩:=tk h1;exact ho a ⟨j,d,h1,(hσ j hj).trans h2⟩
theorem pq{j own:Nat}{fi:Dm.FI}{bd:Dm.FB}{loop:Dm.FN}{ρ:Dm.Env}{z:Dm.Out}(q:Dm.l7 j fi own bd loop ρ=some z):∃ds ρ1 ρ2 ρ3 r3,j≠0/\fi ρ=some (ds,ρ1)/\ds.length<=Dm.SZ/\Dm.nMk bd ds (ρ1++List.replicate own .un)=some ρ2 /\
  loop ((ρ2.take ρ1.length).set j .un) (List.replicate ds.length [])=some (ρ3,r3)/\z=.nx (ρ3.set j (.ow (.lst (r3.map .lst)))):=by
 unfold Dm.l7 at q;split at q
 ·cases q
 rename_i hj0;split at q
 ·cases q
 rename_i ds ρ1 e1;split at q
 case isFalse=>cases q
 rename_i hsz;split at q
 ·cases q
 rename_i ρ2 e2;split at q
 ·cases q
 rename_i ρ3 r3 e3;cases q;exact⟨ds,ρ1,ρ2,ρ3,r3,hj0,e1,hsz,e2,e3,rfl⟩
theorem Fq{s u:Dm.FS}{ρ:Dm.Env}{o:Dm.Out}(hs:∀z,s ρ=some z->∃ρ',z=.nx ρ')(e:Dm.ao s u ρ=some o):∃ρ1,s ρ=some (.nx ρ1)/\u ρ1=some o:=by
 cases q:s ρ with
 |none=>unfold Dm.ao at e;rw[q]at e;cases e
 |some z=>obtain⟨ρ1,rfl⟩:=hs z q;unfold Dm.ao at e;rw[q]at e;exact⟨ρ1,rfl,e⟩
theorem J5{σ:L2.St}{H:Hp}{D:Ends}{j own:Nat}{fi:Dm.FI}{bd:Dm.FB}{g:TG}{is:List Nat}{loop:Dm.FN}{gs:Dm.FS}(hb:BD is g bd)(hl:∀i∈is,σ.length<=i)(hj:j<σ.length)(h:tDS (Dm.ao (Dm.l7 j fi own bd loop) gs) D σ H) :
  yK (yL (tLC (tDI fi) own g EI (Es Ar)) (iR j)) (yK (tDN j loop) (tDS gs)) D σ H:=by
 obtain⟨H0,ρ,o,st,e,k⟩:=h;obtain⟨ρ9,e9,e⟩:=Fq (fun z q=>by obtain⟨_,_,_,_,_,_,_,_,_,_,z⟩:=pq q;exact⟨_,z⟩) e;obtain⟨ds,ρ1,ρ2,ρ3,r3,hj0,e1,hsz,e2,e3,z9⟩:=pq e9;cases z9;refine⟨H0,ρ,ds,ρ1,st,e1,fun J H00 Hb t1 jw L hL=>BA (Q:=fun x H1=>iR j x σ H1 (yK (tDN j loop) (tDS gs) D)) hb hl t1.st jw hsz e2 L hL fun H0' H' ps st' sp' ho' hDl n0 nd hps hro=>?_⟩;have nL:¬ak σ ρ1 L:=t1.st.bJ hL;have om:∀a,ak (σ.set j (some (.ref L))) ((ρ2.take ρ1.length).set j .un) a->ak σ (ρ2.take ρ1.length) a:=fun a ⟨i,d,h1,h2⟩=>by
  rcases aM h1 with⟨_,z⟩ | ⟨hij,h1⟩
  ·cases z
  ·rw[List.getElem?_set_ne (Ne.symm hij)]at h2
   exact⟨i,d,h1,h2⟩
 have st2:aD H0' H' (σ.set j (some (.ref L))) ((ρ2.take ρ1.length).set j .un):={
  same:=st'.same
  len:=by rw[List.length_set,List.length_set];exact st'.len
  sh:=fun i d h=>by
   rcases aM h with⟨_,z⟩ | ⟨hij,h⟩
   ·cases z
   ·obtain⟨v,q,r⟩:=st'.sh i d h
    exact⟨v,by rw[List.getElem?_set_ne (Ne.symm hij)];exact q,r⟩
  ow:=fun i d h=>by
   rcases aM h with⟨_,z⟩ | ⟨hij,h⟩
   ·cases z
   ·obtain⟨v,q,r⟩:=st'.ow i d h
    exact⟨v,by rw[List.getElem?_set_ne (Ne.symm hij)];exact q,r⟩
  dis:=fun i i' d d' a h1 h2 h3 h4=>by
   rcases aM h1 with⟨_,z⟩ | ⟨q1,h1⟩
   ·cases z
   rcases aM h2 with⟨_,z⟩ | ⟨q2,h2⟩
   ·cases z
   rw[List.getElem?_set_ne (Ne.symm q1)]at h3;rw[List.getElem?_set_ne (Ne.symm q2)]at h4;exact st'.dis i i' d d' a h1 h2 h3 h4 }
 have sp:Stp (ak σ ρ) H0 H H0' H':=t1.stp.trans sp' fun a z=>.inl (t1.own a z)
 have n:NS j σ ρ H0 H (σ.set j (some (.ref L))) ((ρ2.take ρ1.length).set j .un) H0' H' (List.replicate ds.length []):=
  ⟨st2,sp,fun a z=>.inl (t1.own a (ho' a (om a z))),List.getElem?_set_ne hj0,L,ps,List.getElem?_set_self hj,t1.stp.gone hL,n0,fun z=>nL (ho' L (om L z)),hDl,nd,fun p hp=>⟨t1.stp.gone (hps p hp).1,(hps p hp).2,fun z=>t1.st.bJ (hps p hp).1 (ho' p (om p z))⟩,hro⟩
 refine⟨σ,ρ,H0,H,H0',_,_,ρ3,r3,n,e3,fun σ4 H4 Hd n4 _=>?_⟩;obtain⟨H5,t5⟩:=n4.done;exact⟨H5,_,o,t5.st,e,k.pre t5⟩
noncomputable abbrev DN(X:Cx)(j:Nat)(st:Stmt)(f:Dm.FN):Prop:=PS X st (tDN j f)
noncomputable abbrev DNs(X:Cx)(j:Nat)(st:List Stmt)(f:Dm.FN):Prop:=PSs X st (tDN j f)
section
variable{X:Cx}{st:Stmt}{rest:List Stmt}{fs gs:Dm.FN}{e c:Expr}{f:Dm.FE}{pos:Pos}{j:Nat}
theorem MZ:DNs X j [] Dm.nNx:=PSs.weak wI fun _ _ _=>MV
theorem J6(h1:DN X j st fs)(h2:DNs X j rest gs):DNs X j (st::rest) (Dm.zz fs gs):=PSs.weak (iP h1 h2) fun _ _ _=>J2
theorem Hj(h1:DN X j st fs):DNs X j [st] fs:=wJ h1
theorem O9{t:Dm.FT}{x y:List Stmt}(ht:DT X c t)(ha:DNs X j x fs)(hb:DNs X j y gs):DN X j (.If c x y pos) (Dm.nIf t fs gs):=PS.weak (GK ht ha hb) fun _ _ _=>MW
theorem M0{tg it:Expr}{fi:Dm.FI}{is:List Nat}{bd:Dm.FB}{body:List Stmt}(hp:PassesOwn (model X.prog X.w) X.A X.env X.xe)(hc:X.calm=true)(hi:DI X tg it fi)(hg:TG' X tg is bd)(hb:DNs X j body fs)(hj:decide (j∈is)=false:=by rfl)
  (hs:∀x,foldedSetIterable it X.env x=pure x:=by intro _;rfl):DN X j (.For tg it body [] pos) (Dm.vG fi bd fs):=by
 obtain⟨g,h1,h2⟩:=hg.ex;exact PS.weak (Al hp hc hi h1 hb hs) fun _ _ _=>J3 h2 (of_decide_eq_false hj)
theorem Hl{x:Str}{i:Expr}{fi:Dm.FE}{px sp ap cp:Pos}(hi':DE X i fi)(he:DE X e f)(hi:X.N[j]?=some x:=by rfl)(hv:Vis X.env.scope x:=by first | exact Or.inl rfl | exact Or.inr (Or.inl rfl) | exact Or.inr (Or.inr rfl))(hd:(x == ("__debug__" : Str))=false:=by decide)
  (hcd:(x == ("__classdict__" : Str))=false:=by decide) (hpl:qe i:=by intro _ _;rfl) (hbase:attributeBase (.Subscript (.Name x px) i sp) "append" X.env (eval (.Subscript (.Name x px) i sp) X.env)=eval (.Subscript (.Name x px) i sp) X.env:=by rfl)
  (hfew:((backTo cp (starEach [e] X.env)).all (fun x=>!x.1)&&(backToKw cp (keywordEach [] X.env)).all (fun x=>x.1.isSome)
   && decide ([e].length+([]:List Keyword).length+(if ([]:List Keyword).isEmpty then 0 else 1)<30))=true:=by rfl)
  (hline:(ap.endLine == cp.line)=true:=by rfl) (hs:starEach [e] X.env=(false,eval e X.env)::starEach [] X.env:=by rfl) (hplain:(backTo cp (starEach [] X.env)).any (·.1)=false:=by rfl)
  (hsw:swapsWith (.Call (.Attribute (.Subscript (.Name x px) i sp) "append" ap) [e] [] cp) none pos.line X.env=pure false:=by rfl) :
  DN X j (.Expr (.Call (.Attribute (.Subscript (.Name x px) i sp) "append" ap) [e] [] cp) pos) (Dm.vF fi f):=
 PS.weak (iQ (wV PySem.F.plainAttrs_list PySem.F.slot_list_append PySem.F.type_list_append jA (GR wU (dO hi hv hd hcd) hi' hpl) (aa he af hs) hbase hfew hline hs hplain) hsw) fun _ _ _=>J4
theorem J7(j:Nat)(nm own:List Str){y:Str}{py spos J8:Pos}{tg iter:Expr}{scope:Scope}{is:List Nat}{bd:Dm.FB}{fi:Dm.FI}{loop:Dm.FN}{gs:Dm.FS}{lst:Stmt}(hN:X.N.Nodup)(hg:TGc X nm scope own tg is bd)(hi:DI X tg iter fi)(hlp:DN X j lst loop)(hre:DSs X rest gs)
  (hc:X.calm=true:=by rfl) (hk:scope.kind=.function:=by rfl) (hS:lR X.env.scope X.N nm scope=true:=by rfl) (hl:(is.all fun i=>decide (X.N.length<=i))=true:=by rfl) (hj:X.N[j]?=some y:=by rfl) (hy:Loc X.env.scope y:=by first | exact Or.inl rfl | exact Or.inr rfl)
  (hsw:swapsWith (.ListComp (.List [] J8) [⟨tg,iter,[],0⟩] scope pos) (some (.Name y py)) spos.line X.env=pure true:=by rfl) (hs:∀y,foldedSetIterable iter X.env y=pure y:=by intro _;rfl)
  (hf:X.fn y=true\/X.env.scope.names.lookup y=some .local:=by first | exact .inl rfl | exact .inr rfl | assumption) :
  DSs X (.Assign [.Name y py] (.ListComp (.List [] J8) [⟨tg,iter,[],0⟩] scope pos) spos::lst::rest) (Dm.ao (Dm.l7 j fi own.length bd loop) gs):=by
 obtain⟨g,h1,h2⟩:=hg.ex;have h:=iP (fD hN hj hy hc (cV.of hS hk) hi h1 (fun cl C s H fp=>xj) (fun cl C s H fp=>As (pos:=J8) uV) hsw hs hf) (iP hlp hre);intro pins s σ H D I q;exact h pins s σ H D I (J5 h2 (fun i hi=>by rw[I.len];exact r8 hl i hi) (by rw[I.len];exact(List.getElem?_eq_some_iff.mp hj).1) q)
end
theorem xJ{H0:Hp}(i:Int):∀{kvs:List (Key×V)} {ks:List Int} {ds:List Dm.Dat},kvs.map (·.1)=ks.map Sum.inl->aB H0 (kvs.map (·.2)) ds ->
  (j0 kvs (Sum.inl i)).map (·.1)=(Dm.d_ ks ds i).map Sum.inl/\aB H0 ((j0 kvs (Sum.inl i)).map (·.2)) (Dm.ee ks ds i)
 |[],[],ds,_,r=>by cases r;exact⟨rfl,.nil⟩
 |[],_::_,_,e,_=>by cases e
 |_::_,[],_,e,_=>by cases e
 |(k,v)::kvs,k'::ks,ds,e,r=>by
  rw[List.map_cons,List.map_cons]at e;injection e with e1 e2
  cases r with
  |cons h t=>
   obtain⟨i1,i2⟩:=xJ i e2 t;unfold j0 at i1 i2 ⊢;dsimp only at e1;subst e1;by_cases q:k'=i
   ·subst q
    rw[List.filter_cons_of_neg (by simp),Dm.d_,if_pos rfl,Dm.ee,if_pos rfl];exact⟨i1,i2⟩
   ·have q':¬(Sum.inl k':Key)=Sum.inl i:=qv q
    rw[List.filter_cons_of_pos (by simpa using q'),Dm.d_,if_neg q,Dm.ee,if_neg q];exact⟨by rw[List.map_cons,List.map_cons,i1],by rw[List.map_cons];exact .cons h i2⟩
section
variable{σ:L2.St}{H:Hp}{Q:VK}
theorem J9{i:Nat}{f:Dm.FE}(h:tD (Dm.l8 i f) σ H Q):AQ (lg i) (tD f) σ H Q:=by
 obtain⟨H0,ρ,x,ρ',st,e,k⟩:=h;unfold Dm.l8 at e;split at e
 case h_2=>cases e
 rename_i ks0 vs0 h0;split at e
 case h_2=>cases e
 rename_i m ρ1 e1;split at e
 case h_2=>cases e
 rename_i ks vs h1;split at e
 case h_2=>cases e
 rename_i d hl;cases e;obtain⟨a0,q0,n0,JU,y0,_⟩:=st.ow i _ h0;refine⟨_,q0,a0,rfl,.inl ⟨JU,.inl y0⟩,H0,ρ,_,ρ1,st,e1,fun u H1 Hb t1 r1=>?_⟩;have hu:=Rep.isInt r1;subst hu;obtain⟨a,q,n,w⟩:=t1.st.ow i _ h1;rw[q0]at q;cases q;obtain⟨kvs,y,ek,rs⟩:=w;rcases fZ m ek rs with⟨d',v,l1,l2,r⟩ | ⟨l1,_⟩
 ·rw[hl]at l1
  cases l1;obtain⟨p1,p2⟩:=xJ m ek rs;have ow:ak σ ρ1 a0:=⟨i,_,h1,q0⟩
  have hil:i<ρ1.length:=(List.getElem?_eq_some_iff.mp h1).1;refine⟨kvs,Sum.inl m,v,y,rfl,l2,k v H1 _ ⟨t1.st.write h1 q0 ⟨_,av,p1,p2⟩,t1.stp.trans (Stp.write ow) fun b z=>.inl (t1.own b z),fun b z=>t1.own b (bE h1 z),fun j z=>trivial⟩ r⟩
 ·rw[hl]at l1;cases l1
end
theorem vJ{X:Cx}:cN X (.type "dict") (fun xs H Q=>∃a kvs,xs=[.ref a]/\H a=some (.dK kvs)/\∀p,H p=none->Q (.ref p) (upd H p (.dK kvs))):=by intro pins s σ H xs us Q I r h;obtain⟨a,kvs,rfl,ha,k⟩:=h;obtain⟨u,rfl,rx⟩:=vals1 r;cases rx;exact AU I (.inl ha) fun p s' hp I'=>⟨.ref p,_,I',rfl,k p hp⟩
theorem Ft:CallD (fun xs H Q=>∃a kvs,xs=[.ref a]/\H a=some (.dK kvs)/\∀p,H p=none->Q (.ref p) (upd H p (.dK kvs))) Dm.su:=by
 intro H0 H vs ds z Q s rs e k;unfold Dm.su at e;split at e
 ·cases e
  cases rs with
  |cons r rr=>cases rr;obtain⟨a,kvs,rfl,ha,ek,rs⟩:=dB s r;refine⟨a,kvs,rfl,ha,fun p hp=>k _ _ _ (aI.jG s hp) ⟨p,rfl,hp,s.free hp,kvs,av,ek,rs⟩⟩
 ·cases e
theorem l9:∀(its:List Value) (ns:List Int),its.length=ns.length->(∀(i:Nat) (v:Value),its[i]?=some v->∃n,ns[i]?=some n/\∃t,v=Value.int n t)->IntsAre its ns
 |[],[],_,_=>.nil
 |[],_::_,h,_=>by cases h
 |_::_,[],h,_=>by cases h
 |v::its,n::ns,h,k=>by
  obtain⟨m,h1,t,h2⟩:=k 0 v rfl;simp at h1;subst h1;subst h2;exact .cons n t (l9 its ns (by simpa using h) fun i v e=>by obtain⟨m,q1,q2⟩:=k (i+1) v (by simpa using e);exact⟨m,by simpa using q1,q2⟩)
theorem xK:∀{kvs:List (Key×V)} {vs:List (Key×Value)},KV kvs vs->vs.map (·.1)=kvs.map (·.1)
 |_,_,.nil=>rfl
 |_,_,.cons h t=>by rw[List.map_cons,List.map_cons,xK t,h.1]
theorem dQ:∀{its:List Value} {ns:List Int},IntsAre its ns->Vals (ns.map V.int) its
 |_,_,.nil=>.nil
 |_,_,.cons n t h=>.cons ⟨t,rfl⟩ (dQ h)
noncomputable def BB:List V->Hp->VK->Prop:=fun xs H Q=>∃(p:Addr) (kvs:List (Key×V)) (ns:List Int),xs=[.ref p]/\H p=some (.dK kvs)/\kvs.map (·.1)=ns.map Sum.inl/\ns.length<=63 /\
 ∀(ms:List Int) (l:Addr),ms.Perm ns->ms.Pairwise (·<=·)->H l=none->Q (.ref l) (upd H l (.lst (ms.map V.int)))
theorem vK{X:Cx}(hc:X.calm=true):cN X (.builtin "sorted") BB:=by
 intro pins s σ H xs us Q I r h;obtain⟨p,kvs,ns,rfl,hq,ek,hl,k⟩:=h;obtain⟨u,rfl,rx⟩:=vals1 r;cases rx;obtain⟨z,hd,vs,rel,dd⟩:=wY I.hok hq;obtain⟨ep,hat⟩:=dd.dictAt;have hlen:vs.length=ns.length:=by
  rw[<- rel.length];have:=congrArg List.length ek
  simpa using this
 have hns:vs.length<=sizeLine:=by rw[<- rel.length];exact z
 refine Calls.call_function_entry kind_sorted plain_sorted entry_sorted (args_sorted1 _) ?_;unfold Builtin.«sorted»;refine wpAny_bind (m:=checkCount "sorted" 1 1 _) (wpAny_pure ?_);refine wpAny_bind (PySem.W.kdu_collect (A:=X.A.in1) (PySem.W.kdl_dict (knd:=aS X.prog X.w) (kvs:=vs) (ep:=ep) hd) (I.ok.hd hc) hat hns fun h' tk acc hk hacc=>?_);have hsz:acc.toList.length=ns.length:=by rw[Array.length_toList,hacc.1,hlen]
 have hI:IntsAre acc.toList ns:=l9 _ _ hsz fun i v e=>by
  obtain⟨ky,x,h1,h2⟩:=hacc.2 i v (by rw[<- Array.getElem?_toList];exact e);have hk1:(vs.map (·.1))[i]?=some ky:=by rw[List.getElem?_map,h1];rfl
  rw[xK rel,ek,List.getElem?_map]at hk1;cases q:ns[i]? with
  |none=>rw[q]at hk1;cases hk1
  |some n=>rw[q]at hk1;cases hk1;exact⟨n,rfl,(Value.isInt_shape (k:=n) (v:=v) h2)⟩
 have hn:acc.toList.length<=63:=by rw[hsz];exact hl
 refine wpAny_bind (wpAny_newList ?_ (Nat.le_trans hn (by decide)));have hL0:(h'.push (seqObj "list" acc.toList.toArray 0)).get? h'.objs.size=some (seqObj "list" acc.toList.toArray 0):=Heap.get?_push_size _ rfl;have I1:=I.kept (t':=tk) hk;refine wpAny_bind (wpAny_holding (wpAny_call_entry (s:={ s with heap:=h'.push (seqObj "list" acc.toList.toArray 0),toks:=tk }) slot_list_sort ⟨_,hL0,rfl⟩ entry_list_sort (list_sort_tree hL0 hI (by omega) fun out ms a1 a2 a3=>⟨_,rfl,?_⟩) (args_list_sort _)));obtain⟨c,hc'⟩:=sortedHeap_at (out:=out) hL0;have hz2:(ms.map V.int).length<=sizeLine:=by rw[List.length_map,a2.length_eq];exact Nat.le_trans hl (by decide)
 refine wpAny_pure ⟨_,rfl,.ref h'.objs.size,_,I1.laid (t':=tk) (fun b o e=>?_) (Nat.le_refl _) (show a_ X.prog X.w _ _ _ (.lst (ms.map V.int)) from ⟨hz2,out.toList,c,dQ a1,by simpa using hc'⟩),rfl,k ms _ a2 a3 (I1.hok.fresh (Nat.le_refl _))⟩;have lt:=Heap.lt_size e;rw[sortedHeap_old (Nat.ne_of_lt lt) (by rw[size_push'];exact Nat.lt_succ_of_lt lt)];exact Heap.get?_push_of_some _ e
theorem BC:CallD BB Dm.jN:=by
 intro H0 H vs ds z Q s rs e k;unfold Dm.jN at e;split at e
 ·rename_i ks vs'
  split at e
  case isFalse=>cases e
  rename_i hl;cases e;cases rs with
  |cons r rr=>
   cases rr;obtain⟨a,kvs,rfl,ha,ek,rs⟩:=dB s r;refine⟨a,kvs,ks,rfl,ha,ek,hl,fun ms l pm so hp=>?_⟩;have em:ms=Dm.cO (fun a b=>decide (a<b)) ks:=Dm.fL (lt:=fun a b=>decide (a<b)) (fun a b h1 h2=>by simp at h1 h2;omega) (pm.trans (Dm.cD _ ks).symm) (so.imp fun {a b} h=>by simp;omega)
    (Dm.b_ (fun a b c h1 h2=>by simp at *;omega) (fun a b h=>by simp at *;omega) ks)
   exact k _ _ _ (aI.jG s hp) ⟨l,rfl,hp,s.free hp,_,av,by rw[<- em];exact jM ms⟩
 ·cases e
theorem J_{ρ ρ':Dm.Env}{x:Dm.Val}{d:Dm.Dat}(e:Dm.tkd ρ x=some (d,ρ')):Dm.tk ρ x=some (d,ρ')\/∃i ks vs,x=.slot i/\ρ[i]?=some (.ow (.dct ks vs))/\d=.dct ks vs/\ρ'=ρ:=by
 cases x with
 |val d'=>exact .inl e
 |new d'=>exact .inl e
 |slot i=>
  unfold Dm.tkd at e;dsimp only at e;split at e
  ·rename_i ks vs h
   cases e;exact .inr ⟨i,ks,vs,rfl,h,rfl,rfl⟩
  ·rename_i d' _ h
   left;unfold Dm.tk;dsimp only;rw[h];exact e
  ·rename_i d' h
   left;unfold Dm.tk;dsimp only;rw[h];exact e
  ·cases e
theorem BE{ρ ρ':Dm.Env}{x:Dm.Val}{d:Dm.Dat}{i:Nat}{ks:List Int}{vs:List Dm.Dat}(e:Dm.tkd ρ x=some (d,ρ'))(h:ρ[i]?=some (.ow (.dct ks vs))):ρ'[i]?=some (.ow (.dct ks vs)):=by
 cases x with
 |val d'=>cases e;exact h
 |new d'=>cases e;exact h
 |slot j=>
  unfold Dm.tkd at e;dsimp only at e;split at e
  ·cases e;exact h
  ·rename_i d' hn hj
   cases e;by_cases q:j=i
   ·subst q
    rw[h]at hj;cases hj;exact absurd rfl (hn ks vs)
   ·rw[List.getElem?_set_ne q];exact h
  ·cases e;exact h
  ·cases e
theorem pA{i:Nat}{ks:List Int}{vs:List Dm.Dat}:∀{xs:List Dm.Val} {ρ ρ':Dm.Env} {ds:List Dm.Dat},Dm.vH ρ xs=some (ds,ρ')->ρ[i]?=some (.ow (.dct ks vs))->ρ'[i]?=some (.ow (.dct ks vs))
 |[],_,_,_,e,h=>by cases e;exact h
 |x::xs,ρ,ρ',ds,e,h=>by
  unfold Dm.vH at e;split at e
  ·cases e
  rename_i d ρ1 e1;split at e
  ·cases e
  rename_i ds' ρ2 e2;cases e;exact pA e2 (BE e1 h)
noncomputable def O_(H0:Hp)(σ:L2.St)(ρ:Dm.Env)(v:V)(d:Dm.Dat):Prop:=Rep H0 v d\/∃(i:Nat) (b:Addr) (ks:List Int) (vs:List Dm.Dat),d=.dct ks vs/\v=.ref b/\ρ[i]?=some (.ow (.dct ks vs))/\σ[i]?=some (some (.ref b))
inductive sC(H0:Hp)(σ:L2.St)(ρ:Dm.Env):List V->List Dm.Dat->Prop
 |nil:sC H0 σ ρ [] []
 |cons {v:V} {d:Dm.Dat} {vs:List V} {ds:List Dm.Dat}:O_ H0 σ ρ v d->sC H0 σ ρ vs ds->sC H0 σ ρ (v::vs) (d::ds)
theorem vM{Hs H0s H0 H:Hp}{σ:L2.St}{ρs:Dm.Env}:∀{xs:List Dm.Val} {vs:List V} {ρ ρ':Dm.Env} {ds:List Dm.Dat} {H0c:Hp},ESt σ ρs H0s Hs ρ H0c H->au H0 H0c->cX Hs H0 H σ ρ vs xs->Dm.vH ρ xs=some (ds,ρ') ->
  ∃lD,ESt σ ρs H0s Hs ρ' lD H/\au H0c lD/\sC lD σ ρ' vs ds
 |[],_,ρ,ρ',ds,H0c,t,b,r,e=>by cases r;cases e;exact⟨H0c,t,au.refl _,.nil⟩
 |x::xs,_,ρ,ρ',ds,H0c,t,b,r,e=>by
  cases r with
  |cons h r=>
   unfold Dm.vH at e;split at e
   ·cases e
   ·rename_i d ρ1 e1
    split at e
    ·cases e
    ·rename_i ds' ρ2 e2
     cases e;rcases J_ e1 with e1' | ⟨i,ks,vs,rfl,hi,rfl,rfl⟩
     ·obtain⟨H1,t1,b1,r1,o1,d1⟩:=take1 t b h e1'
      obtain⟨H2,t2,b2,r2⟩:=vM t1 (b.trans b1) (r.rho o1 d1) e2;exact⟨H2,t2,b1.trans b2,.cons (.inl (r1.mono b2)) r2⟩
     ·obtain⟨H2,t2,b2,r2⟩:=vM t b r e2
      obtain⟨q,_⟩:=h;obtain⟨a,z,_⟩:=t.st.ow i _ hi;rw[q]at z;cases z;exact⟨H2,t2,b2,.cons (.inr ⟨i,a,ks,vs,rfl,rfl,pA e2 hi,q⟩) r2⟩
mutual
theorem Rep.noD{H H':Hp}(hk:∀a o,H a=some o->H' a=some o\/∃kvs,o=.dK kvs):∀{v:V} {d:Dm.Dat},Rep H v d->Dm.bK d=true->Rep H' v d
 |_,_,.non,_=>.non
 |_,_,.bl b,_=>.bl b
 |_,_,.int i,_=>.int i
 |_,_,.str x,_=>.str x
 | _,_,.tup h r,n=>.tup (by
   rcases hk _ _ h with z | ⟨_,z⟩
   ·exact z
   ·cases z) (aB.noD hk r (by unfold Dm.bK at n;exact n))
 | _,_,.lst h r,n=>.lst (by
   rcases h with h | ⟨o,h⟩
   ·rcases hk _ _ h with z | ⟨_,z⟩
    ·exact .inl z
    ·cases z
   ·rcases hk _ _ h with z | ⟨_,z⟩
    ·exact .inr ⟨o,z⟩
    ·cases z) (aB.noD hk r (by unfold Dm.bK at n;exact n))
 |_,_,.dct _ _ _,n=>by unfold Dm.bK at n;cases n
 |_,_,.exc _,n=>by unfold Dm.bK at n;cases n
 |_,_,.fn a,_=>.fn a
theorem aB.noD{H H':Hp}(hk:∀a o,H a=some o->H' a=some o\/∃kvs,o=.dK kvs):∀{vs:List V} {ds:List Dm.Dat},aB H vs ds->Dm.fM ds=true->aB H' vs ds
 |_,_,.nil,_=>.nil
 |_,_,.cons h r,n=>by unfold Dm.fM at n;rw[Bool.and_eq_true]at n;exact .cons (Rep.noD hk h n.1) (aB.noD hk r n.2)
end
open Classical in
theorem BF{σ:L2.St}{H:Hp}{Q:VK}{f:List Dm.Dat->Option Dm.RV}{fs:List Dm.FE}{E:XK}(h:tD (Dm.eFd f fs) σ H Q):rG (spD f) [] E (tDA fs) σ H Q:=by
 obtain⟨H0,ρ,x,ρ',st,e,k⟩:=h;unfold Dm.eFd at e;split at e
 ·cases e
 rename_i xs ρ1 e1;split at e
 ·cases e
 rename_i ds ρ2 e2;split at e
 ·cases e
 rename_i z fz;split at e
 case isFalse=>cases e
 rename_i hno;injection e with e
 injection e with ea eb
 subst ea;subst eb;refine⟨H0,ρ,xs,ρ1,st,e1,fun vs H1 Hb t1 r1=>?_⟩;dsimp only;rw[List.append_nil];obtain⟨H2,t2,b2,r2⟩:=vM t1 (au.refl _) r1 e2
 let B:Addr->Prop:=fun b=>∃(i:Nat) (ks:List Int) (vs:List Dm.Dat),ρ2[i]?=some (.ow (.dct ks vs))/\σ[i]?=some (some (.ref b))
 have hB:∀b,B b->H2 b=none/\∃kvs,Hb b=some (.dK kvs):=fun b ⟨i,ks,vs,h1,h2⟩=>by obtain⟨a,q,n,kvs,w,_⟩:=t2.st.ow i _ h1;rw[h2]at q;cases q;exact⟨n,kvs,w⟩
 let H2':Hp:=fun b=>if B b then Hb b else H2 b
 have in':∀b,B b->H2' b=Hb b:=fun b h=>if_pos h
 have out':∀b,¬B b->H2' b=H2 b:=fun b h=>if_neg h
 have s2:au H2 H2':=fun b o e=>by
  by_cases q:B b
  ·rw[(hB b q).1]at e;cases e
  ·rw[out' b q];exact e
 have s2b:au H2' Hb:=fun b o e=>by
  by_cases q:B b
  ·rw[in' b q]at e;exact e
  ·rw[out' b q]at e;exact t2.st.same _ _ e
 have rr:∀{vs:List V} {ds:List Dm.Dat},sC H2 σ ρ2 vs ds->aB H2' vs ds:=fun {vs ds} r=>by
  induction r with
  |nil=>exact .nil
  |cons h _ ih=>
   refine .cons ?_ ih;rcases h with h | ⟨i,b,ks,vs',rfl,rfl,h1,h2⟩
   ·exact h.mono s2
   ·obtain⟨a,q,n,kvs,w,ek,rs⟩:=t2.st.ow i _ h1
    rw[h2]at q;cases q;exact .dct (by rw[in' _ ⟨i,ks,vs',h1,h2⟩];exact w) ek (rs.mono s2)
 refine⟨H2',ds,z,s2b,rr r2,fz,fun w H3 Hd g3 r3=>?_⟩
 let H3':Hp:=fun b=>if B b then none else H3 b
 have in3:∀b,B b->H3' b=none:=fun b h=>if_pos h
 have BG:∀b,¬B b->H3' b=H3 b:=fun b h=>if_neg h
 have gr:aI H2 Hb H3' Hd:=⟨fun b o e=>by
   by_cases q:B b
   ·rw[(hB b q).1]at e;cases e
   ·rw[BG b q];exact g3.s0 _ _ (s2 _ _ e),g3.s1,fun b o e=>by
   by_cases q:B b
   ·rw[in3 b q]at e;cases e
   ·rw[BG b q]at e
    rcases g3.s2 b o e with y | y
    ·exact .inl y
    ·rw[out' b q]at y;exact .inr y,fun b o e=>by
   by_cases q:B b
   ·rw[in3 b q]at e;cases e
   ·rw[BG b q]at e;exact g3.s3 _ _ e⟩
 have hk:∀a o,H3 a=some o->H3' a=some o\/∃kvs,o=.dK kvs:=fun a o e=>by
  by_cases q:B a
  ·obtain⟨_,kvs,y⟩:=hB a q
   have:=g3.s0 a _ ((in' a q).trans y);rw[e]at this;exact .inr ⟨kvs,Option.some.inj this⟩
  ·exact .inl (by rw[BG a q];exact e)
 have r3':rS Hb H3' Hd w z:=by
  cases z with
  |val d=>exact Rep.noD hk r3 hno
  |new d=>
   obtain⟨a,ea,n,n0,w'⟩:=r3;refine⟨a,ea,n,?_,?_⟩
   ·by_cases q:B a
    ·exact in3 a q
    ·rw[BG a q];exact n0
   ·cases d with
    |lst ds'=>obtain⟨ys,y1,y2⟩:=w';exact⟨ys,y1,aB.noD hk y2 (by have:Dm.bK (.lst ds')=true:=hno;unfold Dm.bK at this;exact this)⟩
    |dct ks ds'=>have:Dm.bK (.dct ks ds')=true:=hno;unfold Dm.bK at this;cases this
    |_=>exact w'.elim
 exact k w H3' Hd (t2.trans (.grow t2.st gr)) ((r3'.toV t2.st).early fun a n=>t2.stp.gone n)
section
variable{X:Cx}{e b:Expr}{es:List Expr}{fs:List Dm.FE}{fb:Dm.FE}{p pos:Pos}
theorem l_{k:Nat}{F:Addr}{fd:FuncData}{ps:List Str}{g:List Dm.Dat->Option Dm.RV}{x:Str}(G:aO X.prog X.w X.K X.mg X.base CX0 k F fd ps (spD g))(hr:bA k X.A)(hg:Gl X x)(hm:X.mg x=some (.ref F))(hk:PySem.W.keepIn X.K (.ref F)=true)(hb:Binds X.K fd ps [])
  (ha:DA X (e::es) fs) (hdb:(x == ("__debug__" : Str))=false:=by decide) (he:starEach (e::es) X.env=(false,eval e X.env)::starEach es X.env:=by rfl) (hpl:(backTo pos (starEach es X.env)).any (·.1)=false:=by rfl) :
  DE X (.Call (.Name x p) (e::es) [] pos) (Dm.eFd g fs):=PE.weak (kR G hr hg hm hk hb .nil (wX (X:=X)) ha hdb he hpl) fun _ _ _=>BF
theorem Ka(hg:Gl X "dict")(hm:X.mg "dict" = none)(ha:DA X [e] fs)(he:starEach [e] X.env=[(false,eval e X.env)]:=by rfl)(hpl:(backTo pos (starEach [] X.env)).any (·.1)=false:=by rfl):DE X (.Call (.Name "dict" p) [e] [] pos) (Dm.eB Dm.su fs):=EV vJ Ft (by rfl) hg hm ha (he:=he) (hpl:=hpl)
theorem Fv(hc:X.calm=true)(hg:Gl X "sorted")(hm:X.mg "sorted" = none)(ha:DA X [e] fs)(he:starEach [e] X.env=[(false,eval e X.env)]:=by rfl)(hpl:(backTo pos (starEach [] X.env)).any (·.1)=false:=by rfl):DE X (.Call (.Name "sorted" p) [e] [] pos) (Dm.eB Dm.jN fs):=rX (vK hc) BC (by rfl) hg hm ha (he:=he) (hpl:=hpl)
theorem BH(i:Nat){x:Str}{px apos cpos:Pos}(hb:DE X b fb)(hi:X.N[i]?=some x:=by rfl)(hv:Vis X.env.scope x:=by first | exact Or.inl rfl | exact Or.inr (Or.inl rfl) | exact Or.inr (Or.inr rfl))(hd:(x == ("__debug__" : Str))=false:=by decide)
  (hcd:(x == ("__classdict__" : Str))=false:=by decide) (m:M1 X (.Name x px) "pop" apos b cpos:=by exact⟨rfl,rfl,rfl,rfl⟩):DE X (.Call (.Attribute (.Name x px) "pop" apos) [b] [] cpos) (Dm.l8 i fb):=PE.weak (AS (dO hi hv hd hcd) hb m) fun _ _ _=>J9
end
section
variable{X:Cx}{a b c e:Expr}{fa fb fc:Dm.FE}{p pos:Pos}
theorem bits_le{i:Int}(h:i.natAbs.log2<1000000):Builtin.Int.intBits i<=2 ^ 20:=by
 have:Builtin.Int.intBits i<=i.natAbs.log2+1:=by
  unfold Builtin.Int.intBits
  first | omega | (split<;>omega) | simp
 omega
noncomputable def Ho(i j:Int):Prop:=i.natAbs.log2<1000000/\j.natAbs.log2<1000000
theorem Fw:OpR X (binaryOp .Mult) (rI Ho fun i j=>.int (i*j)):=opI fun _ _ _ _ _ _ _ hc q=>mul_int q (.of_bits (bits_le hc.1) (bits_le hc.2))
theorem Fx:OpD (rI Ho fun i j=>.int (i*j)) Dm.jm:=by
 intro H0 H x y dx dy z Q s rx ry e k;unfold Dm.jm at e;split at e
 ·split at e
  case isFalse=>cases e
  rename_i hb;cases e;cases aC rx;cases aC ry;exact⟨_,_,rfl,rfl,hb,k _ H0 H (aI.refl s) (.int _)⟩
 ·cases e
theorem qE(ha:DE X a fa)(hb:DE X b fb):DE X (.BinOp a .Mult b pos) (Dm.e2 Dm.jm fa fb):=vf Fw Fx ha hb
end
noncomputable def Its(lo k:Int)(n:Nat):It:=⟨fun i _=>i<n,fun i H x H'=>H'=H/\x=.int (lo+(i:Nat)*k),fun i _=>n<=i⟩
theorem vN{P:Program}{w:World}{K:PySem.W.Frag}{tg:Expr}(it:Addr)(lo k:Int)(n:Nat):Turn P w K tg (Its lo k n) [it] it (fun i h=>IsRangeIter h it (lo+(i:Nat)*k) ((n:Int)-(i:Nat)) k) where
 mem:=by simp
 obj:=fun i h st b hb=>by
  have e:b=it:=by simpa using hb
  subst e;exact ⟨_,st,fun v z=>by have z':Data.fields _=Data.cell v:=z;cases z'⟩
 keep:=fun i h h' st k=>k it (by simp) _ st
 item:=by
  intro X hP hw hK hc i pins s σ H E I hf st hg;subst hP hw hK;obtain⟨f0,f1,f2,f3,f4,f5⟩:=hf it (by simp);have W:=Walks.range (prog:=X.prog) (w:=X.w) (I.ok.hd hc) it lo k n;refine W.item i s _ _ hg st fun v h' tk hv st' kk=>?_
  obtain⟨t,rfl⟩:=hv;have I1:Inv X pins σ H { s with heap:=h',toks:=tk }:=I.turned (fun b o hb e=>kk b o (by simpa using hb) e) f0 f1 f3 f4 f5;exact⟨_,rfl,rD (s:={ s with heap:=h',toks:=tk }) (n := "range_iterator") st' rfl rfl (by decide) ⟨.int (lo+(i:Nat)*k),H,I1,⟨t,rfl⟩,⟨rfl,rfl⟩,st',fun b hb=>(hf b hb).1⟩⟩
 done:=by intro X hP hw hK hc i pins s σ H E I hf st hg;subst hP hw hK;obtain⟨f0,f1,f2,f3,f4,f5⟩:=hf it (by simp);exact wpAny_pyNext_range_end (I.ok.hd hc) st (by have:n<=i:=hg;omega) fun h' eb=>⟨rfl,I.turned (t':=s.toks) (fun b o hb e=>eb b o hb e) f0 f1 f3 f4 f5⟩
 self:=fun _ _ _ _ _ st h=>wpAny_pyIter_rangeiter st h
theorem xM{a k:Int}(hk:0<k)(h:0<=a):0<=a / k/\a / k<=a:=⟨Int.ediv_nonneg h (by omega),by have:=Int.ediv_mul_le a (b:=k) (by omega);have h2:0<=a / k:=Int.ediv_nonneg h (by omega);have:(a / k)*1<=(a / k)*k:=Int.mul_le_mul_of_nonneg_left (by omega) h2;omega⟩
theorem jn(a b k:Int)(hk:0<k):Builtin.Range.rangeSize a b k=(Dm.cE a b k:Nat):=by
 unfold Builtin.Range.rangeSize Dm.cE;simp only[hk,show (k>0)=True from eq_true hk,if_true];by_cases h:a<b
 ·have:=xM hk (show 0<=b-a-1 by omega)
  simp only[h,show (a<b)=True from eq_true h,if_true]
  first | omega | (split<;>omega)
 ·simp only[show (a<b)=False from eq_false h,if_false]
  first | omega | (split<;>omega) | simp
theorem BI{a b k:Int}(hk:0<k)(hk':k<=1000)(ha:-(2 ^ 60)<=a)(ha':a<2 ^ 60)(hb:-(2 ^ 60)<=b)(hb':b<2 ^ 60):Builtin.Range.small a b k=true:=by
 unfold Builtin.Range.small;rw[jn a b k hk];have hs:(Dm.cE a b k:Int)<=2 ^ 61:=by
  unfold Dm.cE;split
  ·have:=xM hk (show 0<=b-a-1 by omega)
   omega
  ·omega
 simp only[Builtin.Range.rangeFitsLong,Bool.and_eq_true,Bool.or_eq_true,decide_eq_true_eq,beq_iff_eq,show (k>0)=True from eq_true hk,if_true]
 first | omega | (refine⟨?_,?_⟩<;>omega) | (split<;>omega)
section
variable{X:Cx}{tg:Expr}
noncomputable def Hq(ta:TA):TI:=fun σ H R=>ta σ H fun vs H1=>∃i j k:Int,vs=[.int i,.int j,.int k]/\(0<k/\k<=1000)/\(-(2 ^ 60)<=i/\i<2 ^ 60/\-(2 ^ 60)<=j/\j<2 ^ 60)/\R (Its i k (Dm.cE i j k)) H1
theorem zB{a b c:Expr}{ta:TA}{p pos:Pos}(hg:Gl X "range")(hm:X.mg "range" = none)(ha:PA X [a,b,c] ta)(hs:starEach [a,b,c] X.env=(false,eval a X.env)::starEach [b,c] X.env:=by rfl)(hs2:(backTo pos (starEach [b,c] X.env)).any (·.1)=false:=by rfl) :
  PI X tg (.Call (.Name "range" p) [a,b,c] [] pos) (Hq ta):=by
 intro pins s σ H R I h;refine Call_ (cS I hg hm boot_range (PyProof.Rows.callWith_type1 (thn (ha pos pins s σ H _ I h) fun us s1 ⟨vs,H1,I1,r1,q1⟩=>?_) hs hs2));obtain⟨i,j,k,e,⟨hk,hk'⟩,⟨q1,q2,q3,q4⟩,q⟩:=q1;subst e;cases r1 with
 |cons r rr=>
  cases rr with
  |cons r' rr=>
   cases rr with
   |cons r'' rr=>
   cases rr;obtain⟨t,rfl⟩:=r;obtain⟨t',rfl⟩:=r';obtain⟨t'',rfl⟩:=r'';refine call_range_3 (by simp;omega) ?_ (Or.inl (PyProof.noPylong_small (by omega)));refine wpAny_pyIter_range (IsRange.new ..) (BI hk hk' q1 q2 q3 q4) ?_;have I2:Inv X pins σ H1 { s1 with heap:=s1.heap.push { cls:=.type "range",data:=.fields #[.int i t,.int j t',.int k t''] },toks:=s1.toks }:=I1.kept fun b o e=>Heap.get?_push_of_some _ e
   refine ⟨(s1.heap.push { cls:=.type "range",data:=.fields #[.int i t,.int j t',.int k t''] }).objs.size,[(s1.heap.push { cls:=.type "range",data:=.fields #[.int i t,.int j t',.int k t''] }).objs.size],_,_,H1,rfl,
    I2.kept (t':=s1.toks) fun b o e=>Heap.get?_push_of_some _ e,vN _ i k (Dm.cE i j k),?_,fun b hb=>?_,q⟩
   ·have e1:i+((0:Nat):Int)*k=i:=by simp
    have e2:((Dm.cE i j k:Nat):Int)-((0:Nat):Int)=Builtin.Range.rangeSize i j k:=by rw[jn i j k hk];omega
    show IsRangeIter _ _ (i+((0:Nat):Int)*k) (((Dm.cE i j k:Nat):Int)-((0:Nat):Int)) k;rw[e1,e2];exact Heap.get?_push_size _ rfl
   ·have e:b=(s1.heap.push { cls:=.type "range",data:=.fields #[.int i t,.int j t',.int k t''] }).objs.size:=by simpa using hb
    subst e;exact I2.uR (Nat.le_refl _) (I2.hok.fresh (Nat.le_refl _))
theorem BJ{H0:Hp}{lo k:Int}{n:Nat}:JW (Its lo k n) H0 (Dm.gy lo k n):=by
 intro H0' H s0 s1;have el:(Dm.gy lo k n).length=n:=by simp[Dm.gy]
 refine⟨fun i hi=>by rw[el]at hi;exact hi,fun i d e=>?_⟩;have hlt:i<n:=by have:=(List.getElem?_eq_some_iff.mp e).1;rw[el]at this;exact this
 have hd:d=.int (lo+(i:Nat)*k):=by unfold Dm.gy at e;rw[List.getElem?_map,List.getElem?_range hlt]at e;exact(Option.some.inj e).symm
 refine⟨hlt,fun x H' y=>?_⟩;obtain⟨rfl,rfl⟩:=y;subst hd;exact⟨H0',aI.refl s1,.int _⟩
theorem M3{σ:L2.St}{H:Hp}{R:It->Hp->Prop}{f g c:Dm.FE}(h:tDI (Dm.iRs f g c) σ H R):Hq (tDA [f,g,c]) σ H R:=by
 obtain⟨H0,ρ,ys,ρ',st,e,k⟩:=h;unfold Dm.iRs at e;split at e
 ·rename_i i ρ1 e1
  split at e
  ·rename_i j ρ2 e2
   split at e
   ·rename_i l ρ3 e3
    split at e
    ·rename_i hb
     cases e;refine⟨H0,ρ,[.val (.int i),.val (.int j),.val (.int l)],_,st,by simp only[Dm.eAs,e1,e2,e3];rfl,fun vs H0' H' t r=>?_⟩;cases r with
     |cons r rr=>
      cases rr with
      |cons r' rr=>
       cases rr with
       |cons r'' rr=>cases rr;cases Rep.isInt r;cases Rep.isInt r';cases Rep.isInt r'';obtain⟨h0,h1,h2,h3,h4⟩:=hb;unfold Dm.BIG at h1 h2 h3 h4;exact⟨i,j,l,rfl,h0,⟨by omega,by omega,by omega,by omega⟩,k _ H0' H' t BJ⟩
    ·cases e
   ·cases e
  ·cases e
 ·cases e
theorem Pa{a b c:Expr}{fa fb fc:Dm.FE}{p pos:Pos}(hg:Gl X "range")(hm:X.mg "range" = none)(ha:DA X [a,b,c] [fa,fb,fc])(hs:starEach [a,b,c] X.env=(false,eval a X.env)::starEach [b,c] X.env:=by rfl)(hs2:(backTo pos (starEach [b,c] X.env)).any (·.1)=false:=by rfl) :
  DI X tg (.Call (.Name "range" p) [a,b,c] [] pos) (Dm.iRs fa fb fc):=PI.weak (zB hg hm ha hs hs2) fun _ _ _=>M3
end
theorem pB{Hs H0 H:Hp}{σ:L2.St}{ρ:Dm.Env}:∀{xs:List Dm.Val} {vs:List V} {ds:List Dm.Dat},cX Hs H0 H σ ρ vs xs->Dm.jO xs=some ds->aB H0 vs ds
 |[],_,_,.nil,e=>by cases e;exact .nil
 |.val d::xs,_,ds,.cons h r,e=>by
  unfold Dm.jO at e;cases q:Dm.jO xs with
  |none=>rw[q]at e;cases e
  |some es=>rw[q]at e;cases e;exact .cons h (pB r q)
 |.new _::_,_,_,_,e=>by cases e
 |.slot _::_,_,_,_,e=>by cases e
theorem Fy{σ:L2.St}{H:Hp}{Q:VK}{f:List Dm.Dat->Option (Dm.RV×Dm.Dat)}{f0:Dm.FE}{fs:List Dm.FE}{E:XK}(h:tD (Dm.eFn f f0 fs) σ H Q):rG (spM f) [] E (tDA (f0::fs)) σ H Q:=by
 obtain⟨H0,ρ,x,ρ',st,e,k⟩:=h;unfold Dm.eFn at e;split at e
 case h_2=>cases e
 rename_i d xs ρ1 e1;split at e
 ·cases e
 rename_i ds e2;split at e
 ·cases e
 rename_i z d' fz;cases e;refine⟨H0,ρ,_,_,st,e1,fun vs H1 Hb t1 r1=>?_⟩;dsimp only;rw[List.append_nil];cases r1 with
 |cons r0 rr=>
  obtain⟨a,rfl,n,no,n0,w⟩:=r0;obtain⟨oa,ha⟩:=w.some;refine⟨H1,a,_,d,ds,z,d',rfl,t1.st.same,n0,w,pB rr e2,fz,fun v H3 Hd s3 ss n3 w3 r3=>?_⟩;have st3:aD H3 Hd σ ρ':=t1.st.off s3.s0 ss no (fun b o y nb=>s3.s1 b o y nb) fun i d4 b y1 y2=>by
   obtain⟨b',q',nb',w'⟩:=t1.st.ow i d4 y1;rw[y2]at q';cases q';cases y:H3 b with
   |none=>rfl
   |some o=>
    obtain⟨o',z'⟩:=w'.some;rcases s3.s2 b o y with y3 | y3 | y3
    ·rw[y3]at z';cases z'
    ·rw[nb']at y3;cases y3
    ·exact absurd ⟨i,d4,y1,y3▸y2⟩ no
  exact k v H3 Hd ⟨st3,t1.stp.trans s3 fun b y=>.inr (by rw[y];exact n),t1.own,t1.dfn⟩ ((r3.toV t1.st).early fun b y=>t1.stp.gone y)
theorem xN{X:Cx}{e0:Expr}{es:List Expr}{p pos:Pos}{k:Nat}{F:Addr}{fd:FuncData}{ps:List Str}{g:List Dm.Dat->Option (Dm.RV×Dm.Dat)}{x:Str}{f0:Dm.FE}{fs:List Dm.FE}(G:aO X.prog X.w X.K X.mg X.base CX0 k F fd ps (spM g))(hr:bA k X.A)(hg:Gl X x)(hm:X.mg x=some (.ref F))(hk:PySem.W.keepIn X.K (.ref F)=true)(hb:Binds X.K fd ps [])
  (ha:DA X (e0::es) (f0::fs)) (hdb:(x == ("__debug__" : Str))=false:=by decide) (he:starEach (e0::es) X.env=(false,eval e0 X.env)::starEach es X.env:=by rfl) (hpl:(backTo pos (starEach es X.env)).any (·.1)=false:=by rfl) :
  DE X (.Call (.Name x p) (e0::es) [] pos) (Dm.eFn g f0 fs):=PE.weak (kR G hr hg hm hk hb .nil (wX (X:=X)) ha hdb he hpl) fun _ _ _=>Fy
open PySem
variable{C:List Value->Prop}{us:List Value}
theorem len0(h:us.length=0)(c:C []):C us:=by rw[List.eq_nil_of_length_eq_zero h];exact c
theorem BK{n:Nat}{C:List Value->Prop}{us:List Value}(h:us.length=n+1)(c:∀a us,us.length=n->C (a::us)):C us:=by
 cases us with
 |nil=>cases h
 |cons a us=>exact c a us (by simpa using h)
theorem M4(h:us.length=1)(c:∀a,C [a]):C us:=BK h fun a _ h=>len0 h (C:=fun us=>C (a::us)) (c a)
theorem Bo(h:us.length=2)(c:∀a b,C [a,b]):C us:=BK h fun a _ h=>M4 h (C:=fun us=>C (a::us)) (c a)
theorem M5(h:us.length=3)(c:∀a b d,C [a,b,d]):C us:=BK h fun a _ h=>Bo h (C:=fun us=>C (a::us)) (c a)
theorem M6(h:us.length=4)(c:∀a b d e,C [a,b,d,e]):C us:=BK h fun a _ h=>M5 h (C:=fun us=>C (a::us)) (c a)
theorem Pb(h:us.length=5)(c:∀a b d e f,C [a,b,d,e,f]):C us:=BK h fun a _ h=>M6 h (C:=fun us=>C (a::us)) (c a)
end Br
namespace L2
open PySem
variable{K:PySem.W.Frag}{x qual:Str}{st:Stmt}{f:Addr}{fd:FuncData}{ps:List Str}
theorem Fun.dD(F:Fun K x qual st f fd)(hp:ps.length=1)(h:∀(kV doc pm:Value) (an:Option Addr) (cdv ct:Value) (a:Value),bindArgs (PySem.W.fnOf x qual (bw st) (bh st) (ai st) .none kV doc pm an cdv ct) ⟨[a],[]⟩=pure (ps.zip [a])):Binds K fd ps []:=
 F.binds fun kV doc pm an cdv ct us hl=>Br.M4 (C:=fun us=>bindArgs (PySem.W.fnOf x qual (bw st) (bh st) (ai st) .none kV doc pm an cdv ct) ⟨us,[]⟩=pure (ps.zip us)) (hl.trans hp) (h kV doc pm an cdv ct)
theorem Fun.bH(F:Fun K x qual st f fd)(hp:ps.length=2)(h:∀(kV doc pm:Value) (an:Option Addr) (cdv ct:Value) (a b:Value),bindArgs (PySem.W.fnOf x qual (bw st) (bh st) (ai st) .none kV doc pm an cdv ct) ⟨[a,b],[]⟩=pure (ps.zip [a,b])):Binds K fd ps []:=
 F.binds fun kV doc pm an cdv ct us hl=>Br.Bo (C:=fun us=>bindArgs (PySem.W.fnOf x qual (bw st) (bh st) (ai st) .none kV doc pm an cdv ct) ⟨us,[]⟩=pure (ps.zip us)) (hl.trans hp) (h kV doc pm an cdv ct)
theorem Fun.dF(F:Fun K x qual st f fd)(hp:ps.length=3)(h:∀(kV doc pm:Value) (an:Option Addr) (cdv ct:Value) (a b d:Value),bindArgs (PySem.W.fnOf x qual (bw st) (bh st) (ai st) .none kV doc pm an cdv ct) ⟨[a,b,d],[]⟩=pure (ps.zip [a,b,d])):Binds K fd ps []:=
 F.binds fun kV doc pm an cdv ct us hl=>Br.M5 (C:=fun us=>bindArgs (PySem.W.fnOf x qual (bw st) (bh st) (ai st) .none kV doc pm an cdv ct) ⟨us,[]⟩=pure (ps.zip us)) (hl.trans hp) (h kV doc pm an cdv ct)
theorem Fun.qF(F:Fun K x qual st f fd)(hp:ps.length=4)(h:∀(kV doc pm:Value) (an:Option Addr) (cdv ct:Value) (a b d e:Value),bindArgs (PySem.W.fnOf x qual (bw st) (bh st) (ai st) .none kV doc pm an cdv ct) ⟨[a,b,d,e],[]⟩=pure (ps.zip [a,b,d,e])):Binds K fd ps []:=
 F.binds fun kV doc pm an cdv ct us hl=>Br.M6 (C:=fun us=>bindArgs (PySem.W.fnOf x qual (bw st) (bh st) (ai st) .none kV doc pm an cdv ct) ⟨us,[]⟩=pure (ps.zip us)) (hl.trans hp) (h kV doc pm an cdv ct)
theorem Fun.qG(F:Fun K x qual st f fd)(hp:ps.length=5)(h:∀(kV doc pm:Value) (an:Option Addr) (cdv ct:Value) (a b d e g:Value),bindArgs (PySem.W.fnOf x qual (bw st) (bh st) (ai st) .none kV doc pm an cdv ct) ⟨[a,b,d,e,g],[]⟩=pure (ps.zip [a,b,d,e,g])):Binds K fd ps []:=
 F.binds fun kV doc pm an cdv ct us hl=>Br.Pb (C:=fun us=>bindArgs (PySem.W.fnOf x qual (bw st) (bh st) (ai st) .none kV doc pm an cdv ct) ⟨us,[]⟩=pure (ps.zip us)) (hl.trans hp) (h kV doc pm an cdv ct)
end L2
namespace Br
open PySem L2
section
variable{X:Cx}{e:Expr}{es:List Expr}{fs:List Dm.FE}{p pos:Pos}
end
end Br
namespace Br
open PySem PySem.Spec PyProof.Rows L2
section
variable{X:Cx}{e:Expr}{es:List Expr}{fs:List Dm.FE}{p pos:Pos}
end
section
variable{X:Cx}{e1 e2 e3:Expr}{f1 f2 f3:Dm.FE}{p pos kpos:Pos}
end
end Br
namespace Br
open PySem PySem.Spec PyProof.Rows L2
open Classical in
section
variable{X:Cx}{e:Expr}{es:List Expr}{fs:List Dm.FE}{p pos:Pos}
end
end Br
namespace Dm
noncomputable def dX(a:Int):List Int->Int
 |[]=>a
 |x::r=>dX (if x<a then x else a) r
noncomputable def pC:List Dat->Option RV
 | [.lst xs]=>(match eU xs with
  |some (n::ns)=>vI (dX n ns)
  |_=>none)
 |_=>none
end Dm
namespace Br
open PySem PySem.Spec PyProof.Rows L2
theorem BL(a x:Int)(l:List Int):Dm.dX a (l++[x])=if x<Dm.dX a l then x else Dm.dX a l:=by
 induction l generalizing a with
 |nil=>rfl
 |cons y l ih=>rw[List.cons_append,Dm.dX,ih,Dm.dX]
theorem sD(n0:Int)(ns:List Int):∀k,k<=ns.length->(n0::ns).getD (argBest (fun i j=>decide ((n0::ns).getD i 0<(n0::ns).getD j 0)) k) 0=Dm.dX n0 (ns.take k)
 |0,_=>rfl
 |k+1,h=>by
  have ih:=sD n0 ns k (by omega);have e:argBest (fun i j=>decide ((n0::ns).getD i 0<(n0::ns).getD j 0)) (k+1)=if decide ((n0::ns).getD (k+1) 0<(n0::ns).getD (argBest (fun i j=>decide ((n0::ns).getD i 0<(n0::ns).getD j 0)) k) 0) then k+1 else argBest (fun i j=>decide ((n0::ns).getD i 0<(n0::ns).getD j 0)) k:=rfl
  have ek:(n0::ns).getD (k+1) 0=ns[k]'(by omega):=by rw[List.getD_eq_getElem?_getD,List.getElem?_cons_succ,List.getElem?_eq_getElem (by omega)];rfl
  rw[e,ih,ek,List.take_succ_eq_append_getElem (by omega),BL];by_cases c:ns[k]'(by omega)<Dm.dX n0 (ns.take k)
  ·rw[decide_eq_true c,if_pos rfl,if_pos c,ek]
  ·rw[decide_eq_false c,if_neg (by decide),if_neg c,ih]
section
variable{X:Cx}
theorem zC(hc:X.calm=true):cN X (.builtin "min") (fun xs H Q=>∃(a:Addr) (n:Int) (ns:List Int),xs=[.ref a]/\Rd H a (.lst ((n::ns).map V.int))/\Q (.int (Dm.dX n ns)) H):=by
 intro pins s σ H xs us Q I r h;obtain⟨a,n0,ns,rfl,hq,q⟩:=h;obtain⟨u,rfl,rx⟩:=vals1 r;cases rx;obtain⟨z,its,n,rv,e⟩:=hq.ok I.hok;have hl:s.heap.IsList a its.toArray:=⟨_,e,rfl,_,rfl⟩
 have hlen:=rv.length;rw[List.length_map]at hlen;have hax:a≠s.heap.objs.size:=Nat.ne_of_lt (Heap.lt_size e);have e1:its.toArray.size=ns.length+1:=by rw[List.size_toArray,<- hlen];rfl
 refine PySem.call_min_walk (wpAny_pyIter_list hl ⟨s.heap.objs.size,_,_,_,_,_,_,rfl,Walks.list (A:=X.A.in1) (I.ok.hd hc) s.heap.objs.size a hax its.toArray,⟨⟨_,Heap.get?_push_size _ rfl,rfl,rfl⟩,hl.push _⟩,?_,by rw[e1];exact Nat.succ_pos _,CmpOf.ints_lt (fun i=>(n0::ns).getD i 0) (xH rv),fun v h' tk hp hk=>?_⟩)
 ·intro b hb
  simp only[List.mem_cons,List.not_mem_nil,or_false]at hb;rcases hb with rfl | rfl
  ·show s.heap.objs.size<_;exact Heap.size_push ..▸Nat.lt_succ_self _
  ·show b<_;exact Heap.size_push ..▸Nat.lt_succ_of_lt (Heap.lt_size e)
 ·obtain⟨t',rfl⟩:=xH rv _ _ hp
  refine⟨.int (Dm.dX n0 ns),H,I.kept (t':=tk) fun b o eb=>hk b o ?_ (Heap.get?_push_of_some _ eb),⟨t',?_⟩,q⟩
  ·intro hm
   have:b=s.heap.objs.size:=by simpa using hm
   exact absurd (Heap.lt_size eb) (by rw[this];exact Nat.lt_irrefl _)
  ·rw[e1,Nat.add_sub_cancel,sD n0 ns _ (Nat.le_refl _),List.take_length]
theorem Fz:CallD (fun xs H Q=>∃(a:Addr) (n:Int) (ns:List Int),xs=[.ref a]/\Rd H a (.lst ((n::ns).map V.int))/\Q (.int (Dm.dX n ns)) H) Dm.pC:=by
 intro H0 H vs ds z Q s rs e k;unfold Dm.pC at e;split at e
 ·split at e
  ·rename_i n ns hb
   cases e;cases rs with
   |cons r rr=>cases rr;obtain⟨a,us,rfl,qa,ra⟩:=aX s r;have:=l6 ra hb;subst this;exact⟨a,n,ns,rfl,qa,k _ H0 H (aI.refl s) (.int _)⟩
  ·cases e
 ·cases e
end
section
variable{X:Cx}{e:Expr}{fs:List Dm.FE}{p pos:Pos}
theorem Kc(hc:X.calm=true)(hg:Gl X "min")(hm:X.mg "min" = none)(ha:DA X [e] fs)(he:starEach [e] X.env=[(false,eval e X.env)]:=by rfl)(hpl:(backTo pos (starEach [] X.env)).any (·.1)=false:=by rfl):DE X (.Call (.Name "min" p) [e] [] pos) (Dm.eB Dm.pC fs):=rX (zC hc) Fz (by rfl) hg hm ha (he:=he) (hpl:=hpl)
end
end Br
namespace Br
open PySem PySem.Spec PyProof.Rows L2
section
variable{X:Cx}{l a b:Expr}{tl:TE}{ta:TA}{fa fb:Dm.FE}{p pos p0 lU:Pos}
end
end Br
namespace Br
open PySem PySem.Spec PyProof.Rows L2
section
variable{prog:Program}{w:World}{A:Around}{E:Value->Shared->Prop}{s:Shared}
end
section
variable{prog:Program}{w:World}{A:Around}{s:Shared}
end
theorem xO(bt:Nat->Nat->Bool):∀k,argBest bt k<=k
 |0=>Nat.le_refl _
 |k+1=>by
  have:=xO bt k;have e:argBest bt (k+1)=if bt (k+1) (argBest bt k) then k+1 else argBest bt k:=rfl
  rw[e];split<;>omega
noncomputable def qH(H:Hp)(ys:List V)(kss:List (List Int)):Prop:=ys.length=kss.length/\∀(i:Nat) (y:V),ys[i]?=some y->∃b:Addr,y=.ref b/\H b=some (.tup ((kss.getD i []).map V.int))
theorem xP{xs:List V}{us:List Value}(rv:Vals xs us){i:Nat}{u:Value}(h:us[i]?=some u):∃x,xs[i]?=some x/\RelV x u:=by
 have hi:i<xs.length:=by rw[rv.length];exact(List.getElem?_eq_some_iff.mp h).1
 obtain⟨u',h1,h2⟩:=rv.get (List.getElem?_eq_getElem hi);rw[h]at h1;cases h1;exact⟨_,List.getElem?_eq_getElem hi,h2⟩
section
variable{X:Cx}
theorem pD{H0:Hp}:∀{ds:List Dm.Dat} {xs:List V} {nss:List (List Int)},aB H0 xs ds->Dm.eX ds=some nss->qH H0 xs nss
 |[],_,nss,r,e=>by cases r;cases e;exact⟨rfl,fun i y h=>by simp at h⟩
 |d::ds,_,nss,r,e=>by
  cases r with
  |cons h t=>
   cases d with
   |tup es=>
    unfold Dm.eX at e;split at e
    ·rename_i ns en
     split at e
     ·cases e
     ·cases q:Dm.eX ds with
      |none=>rw[q]at e;cases e
      |some ms=>
       rw[q]at e;cases e;obtain⟨i1,i2⟩:=pD t q;cases h with
       |tup ha hr=>
        have e1:=lW hr en;subst e1;refine⟨by rw[List.length_cons,List.length_cons,i1],fun i y hy=>?_⟩;cases i with
        |zero=>cases hy;exact⟨_,rfl,ha⟩
        |succ i=>exact i2 i y hy
    ·cases e
   |_=>cases e
end
section
variable{X:Cx}{e:Expr}{fs:List Dm.FE}{p pos:Pos}{k:Nat}
end
end Br
namespace Br
open PySem PySem.Spec PyProof.Rows L2
section
variable{X:Cx}{tg c e:Expr}{bd:Dm.FB}{is:List Nat}{t:Dm.FT}{f:Dm.FE}{x:Str}{px rp ip pos:Pos}
end
end Br
namespace Br
open PySem PySem.Spec PyProof.Rows L2
section
variable{X:Cx}
end
section
variable{X:Cx}{e:Expr}{fs:List Dm.FE}{p pos:Pos}
end
end Br
namespace Br
open PySem PySem.Spec PyProof.Rows L2
section
variable{X:Cx}{a b c:Expr}{fa fb fc:Dm.FE}{apos cpos:Pos}{k:Nat}
end
end Br
namespace Dk
open PySem PyProof.Rows
open Sem (wp)
section
variable{prog:Program}{w:World}{A:Around}{E:Value->Shared->Prop}{s:Shared}
end
section
variable{prog:Program}{w:World}{K:Type}[DecidableEq K]{knd:PySem.KeyKind prog w K}{A:Around}{E:Value->Shared->Prop}{s:Shared}
end
end Dk
namespace Br
open PySem PySem.Spec PyProof.Rows L2
section
variable{X:Cx}{e:Expr}{fs:List Dm.FE}{p pos:Pos}
end
end Br
namespace Br
open PySem PySem.Spec PyProof.Rows L2
section
variable{N N':Addr->Prop}{H0 H H0' H':Hp}
end
section
variable{σ:L2.St}{H:Hp}{Q:VK}
end
section
variable{X:Cx}{e:Expr}{es:List Expr}{f:Dm.FE}{pos:Pos}
end
section
variable{D:Ends}{σ:L2.St}{H:Hp}
end
section
variable{X:Cx}{e:Expr}{st:Stmt}{rest:List Stmt}{fs:Dm.FS}{pos:Pos}
end
section
variable{j:Nat}{σs:L2.St}{ρs:Dm.Env}{H0s Hs:Hp}{σ:L2.St}{ρ ρ':Dm.Env}{H0 H H0' H':Hp}
end
section
variable{D:Ends}{σ:L2.St}{H:Hp}{j:Nat}
end
section
variable{X:Cx}{e c:Expr}{rest:List Stmt}{fs gs:Dm.FS}{pos:Pos}{j:Nat}
end
end Br
namespace Br
open PySem PySem.Spec PyProof.Rows L2
section
variable{X:Cx}{e elt iter tg:Expr}{es:List Expr}{fs:List Dm.FE}{fi:Dm.FI}{bd:Dm.FB}{is:List Nat}{scope:Scope}{pos p:Pos}
end
section
variable{j:Nat}{σs:L2.St}{ρs:Dm.Env}{H0s Hs:Hp}{σ:L2.St}{ρ ρ':Dm.Env}{H0 H H0' H':Hp}
end
section
variable{D:Ends}{σ:L2.St}{H:Hp}{j:Nat}
end
section
variable{X:Cx}{st:Stmt}{rest:List Stmt}{e c:Expr}{f:Dm.FE}{pos:Pos}{j:Nat}
end
end Br
namespace Br
open PySem PySem.Spec PyProof.Rows L2
section
variable{σ:L2.St}{H:Hp}{Q:VK}
end
section
variable{D:Ends}{σ:L2.St}{H:Hp}{j:Nat}
end
section
variable{D:Ends}{σ:L2.St}{H:Hp}{j:Nat}
end
section
variable{X:Cx}{e c:Expr}{es:List Expr}{rest:List Stmt}{fs:List Dm.FE}{f:Dm.FE}{pos p:Pos}{j:Nat}
end
section
variable{X:Cx}{e:Expr}{es:List Expr}{fs:List Dm.FE}{pos p:Pos}
end
end Br
namespace Sx
open PySem PySem.SetTable
open PySem PySem.SetTable PySem.W
section
variable{prog:Program}{w:World}{A:Around}{E:Value->Shared->Prop}{s:Shared}{a it:Addr}{es:Array (Int×Value)}{ep i:Nat}{t:SetTable}
end
section
variable{prog:Program}{w:World}{A:Around}{E:Value->Shared->Prop}{s:Shared}{a it:Addr}{es:Array (Int×Value)}{ep i:Nat}{t:SetTable}
end
open PySem PySem.SetTable PySem.W PyProof.Rows
section
variable{prog:Program}{w:World}{A:Around}{E:Value->Shared->Prop}{s:Shared}{a:Addr}{ns:List Int}{k:Int}{tk:Tok}
end
section
variable{prog:Program}{w:World}{A:Around}{E:Value->Shared->Prop}{s:Shared}
set_option maxHeartbeats 3200000 in
end
end Sx
namespace Br
open PySem PySem.Spec PyProof.Rows L2
section
variable{X:Cx}{e:Expr}{f:Dm.FE}{p p0 pos lU:Pos}
end
section
variable{X:Cx}{pins:List (Addr×Obj)}{σ:L2.St}{H:Hp}{s:Shared}{a:Addr}{kvs:List (Key×V)}{k:Key}{u:Value}{A:Around}{E:Value->Shared->Prop}
end
section
variable{j:Nat}{σs:L2.St}{ρs:Dm.Env}{H0s Hs:Hp}{σ:L2.St}{ρ ρ':Dm.Env}{H0 H H0' H':Hp}{ks:List Int}{rows:List (List Dm.Dat)}
end
section
variable{D:Ends}{σ:L2.St}{H:Hp}{j kx vx:Nat}
end
section
variable{X:Cx}{rest:List Stmt}{j kx vx:Nat}{pos:Pos}
end
section
variable{X:Cx}{tg:Expr}{x:Str}{px ap cp:Pos}{j:Nat}
end
end Br
namespace Sx
open PySem PySem.SetTable
section
variable{prog:Program}{w:World}{A:Around}{E:Value->Shared->Prop}{s:Shared}{ks:List Int}{a:Addr}
end
section
variable{prog:Program}{w:World}{A:Around}{E:Value->Shared->Prop}{s:Shared}{ks:List Int}{a b:Addr}{es:Array (Int×Value)}{ep:Nat}{t:SetTable}
end
section
variable{prog:Program}{w:World}{A:Around}{E:Value->Shared->Prop}{s:Shared}{ks:List Int}{a b:Addr}{P:List (List Int×Addr)}
end
open PySem PySem.SetTable PySem.W PyProof.Rows
section
variable{prog:Program}{w:World}{A:Around}{E:Value->Shared->Prop}{s:Shared}
end
end Sx
namespace Br
open PySem PySem.Spec PyProof.Rows L2
end Br
namespace Br
open PySem PySem.Spec PyProof.Rows L2
theorem Hr{H0:Hp}:∀{ds:List Dm.Dat} {us:List V} {nss:List (List Int)},aB H0 us ds->Dm.eX ds=some nss->∃qs:List (List Int×Addr),us=qs.map (fun p=>V.ref p.2)/\nss=qs.map (·.1)/\∀p∈qs,H0 p.2=some (.tup (p.1.map V.int))/\p.1≠[]
 |[],_,nss,r,e=>by cases r;cases e;exact⟨[],rfl,rfl,fun p h=>by cases h⟩
 |d::ds,_,nss,r,e=>by
  cases r with
  |cons h t=>
   cases d with
   |tup xs=>
    unfold Dm.eX at e;cases q1:Dm.eU xs with
    |none=>rw[q1]at e;cases e
    |some ns=>
     rw[q1]at e;dsimp only at e;split at e
     ·cases e
     ·rename_i hne
      cases q2:Dm.eX ds with
      |none=>rw[q2]at e;cases e
      |some mss=>
       rw[q2]at e;cases e;obtain⟨qs,a1,a2,a3⟩:=Hr t q2;cases h with
       |tup ha hr=>
        rename_i b ys;have:=lW hr q1;subst this;refine⟨(ns,b)::qs,by rw[List.map_cons,<- a1],by rw[List.map_cons,<- a2],fun p hp=>?_⟩;rcases List.mem_cons.mp hp with z | z
        ·rw[z]
         exact ⟨ha,fun z=>by have z:ns=[]:=z;rw[z]at hne;exact hne rfl⟩
        ·exact a3 p z
   |_=>cases e
section
variable{X:Cx}{e:Expr}{f:Dm.FE}{p p0 pos lU:Pos}
end
end Br
namespace Br
open PySem PySem.Spec PyProof.Rows L2
section
variable{X:Cx}{pos p2:Pos}{e:Expr}{f:Dm.FE}
end
section
variable{X:Cx}{pos p2:Pos}{e:Expr}{f:Dm.FE}
end
section
variable{X:Cx}{nm:List Str}{elt tg iter:Expr}{ifs:List Expr}{scope:Scope}{pos:Pos}{own:List Str}{wi:TI}{g:TG}{tt:TT}{te:TE}
end
section
variable{X:Cx}{elt:Expr}{ifs:List Expr}{scope:Scope}{pos px py:Pos}{t:Dm.FT}{f:Dm.FE}{x:Str}
end
end Br
namespace Br
open PySem PySem.Spec PyProof.Rows L2
section
variable{X:Cx}{pos:Pos}
end
end Br
namespace Br
open PySem PySem.Spec PyProof.Rows L2
section
variable{X:Cx}{e:Expr}{f:Dm.FE}
end
open PySem L2
structure aR(K:PySem.W.Frag)(x:Str)(st:Stmt)(a:Addr)(fd:FuncData):Prop where
 e:PySem.W.nsIn K mainGlobals x=some (some (.ref a))
 F:Fun K x x st a fd
variable{K:PySem.W.Frag}{x:Str}{st:Stmt}{a:Addr}{fd:FuncData}{hp:Heap}{mg:Str->Option Value}
theorem aF{oc:Value}{od an:Option Addr}{osl:Array (Option Value)}{kV doc pm cdv ct:Value}(e:PySem.W.nsIn K mainGlobals x=some (some (.ref a)))
  (l:K.lookup a=some ⟨oc,od,.func (PySem.W.fnOf x x (bw st) (bh st) (ai st) .none kV doc pm an cdv ct),osl⟩) (c:PySem.W.codeIn K cdv x=true) (k:PySem.W.keepIn K (.ref a)=true) :
  aR K x st a (PySem.W.fnOf x x (bw st) (bh st) (ai st) .none kV doc pm an cdv ct):=⟨e,Ji l c k⟩
theorem mgo{v:Value}(X:K.In hp)(G:hp.Ns mainGlobals mg)(e:PySem.W.nsIn K mainGlobals x=some (some v)):mg x=some v:=PySem.W.mg_of X G e
theorem mno(X:K.In hp)(G:hp.Ns mainGlobals mg)(e:PySem.W.nsIn K mainGlobals x=some none):mg x=none:=PySem.W.mg_none_of X G e
theorem aR.m(h:aR K x st a fd)(X:K.In hp)(G:hp.Ns mainGlobals mg):mg x=some (.ref a):=PySem.W.mg_of X G h.e
theorem aR.Pc{y:Str}(h:aR K x st a fd)(hb:∀(kV doc pm:Value) (an:Option Addr) (cdv ct v:Value),bindArgs (PySem.W.fnOf x x (bw st) (bh st) (ai st) .none kV doc pm an cdv ct) ⟨[v],[]⟩=pure [(y,v)])(s:Shared)(v:Value):BindsTo s fd ⟨[v],[]⟩ [(y,v)]:=by obtain⟨oc,od,kV,doc,pm,an,cdv,ct,osl,rfl,lk,hcd⟩:=h.F.ex;exact .of_eq (hb kV doc pm an cdv ct v)
theorem hm{j k:Nat}{A:Around}(r:bA k A)(h:j<=k:=by decide):bA j A:=r.mono h
theorem fsc{N P:List Str}{sc:Scope}(h1:sc.kind=.function)(h2:sc.isCoroutine=false)(h3:sc.isGenerator=false)(h4:N.take P.length=P)(h:N.Nodup/\(∀x∈P,sc.names.lookup x=some .local\/sc.names.lookup x=some .cell)/\∀y∈sc.names,y.2≠.free):aq N P sc:=⟨h1,h2,h3,h.1,h4,h.2.1,h.2.2⟩
end Br
namespace Br
open PySem PySem.Spec PyProof.Rows L2
section
variable{X:Cx}{C:Addr}{E:L2.St->XK}{R S:Dm.Env->Option Dm.Env}{sts rest:List Stmt}{st:Stmt}
end
section
variable{X:Cx}{pins pn:List (Addr×Obj)}{σ:L2.St}{H:Hp}{s:Shared}{xe:Value->Shared->Prop}
end
section
variable{X:Cx}{C:Addr}{E:L2.St->XK}{k:Nat}{F:Addr}{fd:FuncData}{ps:List Str}{x:Str}{p pos:Pos}{e:Expr}{es:List Expr}{fs:List Dm.FE}{bad:List Dm.Dat->Bool}{c:Int}{tk:Tok}
end
section
variable{X:Cx}{C:Nat}{b:Bool}{cs:List Nat}{bs:List Bool}{e:Expr}{f:Dm.FE}
end
end Br
namespace Sx
open PySem PySem.SetTable PySem.W PyProof.Rows
section
variable{prog:Program}{w:World}{A:Around}{E:Value->Shared->Prop}{s:Shared}
end
end Sx
namespace Br
open PySem PySem.Spec PyProof.Rows L2
section
variable{X:Cx}{e:Expr}{f:Dm.FE}{p p0 pos lU:Pos}
end
end Br
namespace Br
open PySem PySem.Spec PyProof.Rows L2
section
variable{X:Cx}{rest:List Stmt}{pos:Pos}
end
end Br
namespace Br
open PySem PySem.Spec PyProof.Rows L2
section
variable{prog:Program}{w:World}{A:Around}{E:Value->Shared->Prop}
end
section
variable{X:Cx}{pos:Pos}
end
end Br
namespace Br
open PySem PySem.Spec PyProof.Rows L2
section
variable{X:Cx}{e:Expr}{fs:List Dm.FE}{p pos:Pos}{k:Nat}
end
end Br
namespace Dm
noncomputable def ez:List Dat->Option RV
 | [.lst ds]=>(match eX ds with
  |some nss=>if nss.length<=63 then some (.new (.lst ((cO lx nss).map qA))) else none
  |none=>none)
 |_=>none
end Dm
namespace Br
open PySem PySem.Spec PyProof.Rows L2
noncomputable def xQ(K:PySem.W.Frag):List V->Hp->VK->Prop:=fun xs H Q=>∃(p:Addr) (ys:List V),xs=[.ref p]/\SqL K H p ys/\ys.length<=63/\(∀y∈ys,∃(a:Addr) (ks:List Int),y=.ref a/\H a=some (.tup (ks.map V.int))/\ks≠[]) /\
 ∀(zs:List V) (l:Addr),zs.Perm ys->zs.Pairwise (fun y z=>∀(a b:Addr) (ks ms:List Int),y=.ref a->z=.ref b->H a=some (.tup (ks.map V.int))->H b=some (.tup (ms.map V.int))->Dm.lx ms ks=false)->H l=none->Q (.ref l) (upd H l (.lst zs))
section
variable{X:Cx}
theorem sF:cN X (.builtin "sorted") (xQ X.K):=by
 intro pins s σ H xs us Q I r h;obtain⟨p,ys,rfl,hq,hl,hks,k⟩:=h;obtain⟨u,rfl,rx⟩:=vals1 r;cases rx;obtain⟨its,rv,pl,hz⟩:=I.list hq;have hlen:=rv.length;have refs:∀(ys:List V) (its:List Value),Vals ys its->(∀y∈ys,∃(a:Addr) (ks:List Int),y=.ref a/\H a=some (.tup (ks.map V.int))/\ks≠[])->its.map bk=ys/\∀v∈its,∃(a:Addr) (ks:List Int),v=.ref a/\H a=some (.tup (ks.map V.int))/\ks≠[]:=fun ys=>by
  induction ys with
  |nil=>intro its rv _;cases rv;exact⟨rfl,fun v hv=>by cases hv⟩
  |cons y ys ih=>
   intro its rv hy;cases rv with
   |cons h1 h2=>
    obtain⟨a,ks,rfl,h3,h4⟩:=hy y List.mem_cons_self;cases h1;obtain⟨i1,i2⟩:=ih _ h2 fun z hz=>hy z (List.mem_cons_of_mem _ hz)
    refine⟨by rw[List.map_cons,i1];rfl,fun v hv=>?_⟩;rcases List.mem_cons.mp hv with rfl | hv
    ·exact⟨a,ks,rfl,h3,h4⟩
    ·exact i2 v hv
 obtain⟨eb,hv⟩:=refs ys its rv hks;have key:∀v∈its,∃ks,(qB H).keyOf v=some ks:=fun v hm=>by obtain⟨a,ks,rfl,h3,_⟩:=hv v hm;refine⟨ks,?_⟩;show oG H (.ref a)=some ks;unfold oG;dsimp only;rw[h3];exact c_ ks
 have hk:KeysOf (qB H) (pairsOf its):=fun q hq=>key q.1 (jK hq).2
 have look:∀(h':Heap),(∀b o,s.heap.get? b=some o->h'.get? b=some o)->∀(v:Value) (ks:List Int),oG H v=some ks->∃(a:Addr) (o:Obj) (ts:List Value) (n:Nat),v=.ref a/\h'.get? a=some o/\o.cls=.type "tuple" /\ o.data=.seq ts.toArray n/\IntsAre ts ks:=fun h' kp v ks e=>by
  unfold oG at e;split at e
  ·rename_i a
   split at e
   ·rename_i xs hx
    have:=sj e;subst this;obtain⟨_,ts,rt,o,ho,hc,n,hd⟩:=I.hok a _ hx;exact⟨a,o,ts,n,rfl,kp _ _ ho,hc,hd,intsAre_of rt⟩
   ·cases e
  ·cases e
 refine Ts.qz (κ:=qB H) (kd:=tuples' true) pl.isList (by omega) hk (fun A' h' kp h2 {Q'} {E'} hq'=>?_) (fun A' E' h' kp=>?_) fun st' hp hs=>?_
 ·-- the kind
  have tups:∀l:List Value,(∀v∈l,∃(a:Addr) (ks:List Int),v=.ref a/\H a=some (.tup (ks.map V.int))/\ks≠[])->∃fs,PySem.W.KatTups h' l fs/\fs.length=l.length/\∀f∈fs,∃n t,f=Value.int n t:=fun l=>by
   induction l with
   |nil=>intro _;exact⟨[],.nil,rfl,fun f hf=>by cases hf⟩
   |cons v l ih=>
    intro hl';obtain⟨a,ks,rfl,h3,h4⟩:=hl' v List.mem_cons_self;obtain⟨fs,t,lf,hf⟩:=ih fun z hz=>hl' z (List.mem_cons_of_mem _ hz)
    obtain⟨a',o,ts,n,e,ho,hc,hd,hi⟩:=look h' kp (.ref a) ks (by unfold oG;dsimp only;rw[h3];exact c_ ks);cases e;cases hi with
    |nil=>exact absurd rfl h4
    |cons m t' hi'=>
     refine⟨_::fs,.cons ho hc hd (f:=.int m t') (by simp) t,by simp[lf],fun f hm=>?_⟩;rcases List.mem_cons.mp hm with rfl | hm
     ·exact⟨_,_,rfl⟩
     ·exact hf f hm
  obtain⟨fs,t,lf,hf⟩:=tups its hv;refine PySem.W.kat_kind (s:={ s with heap:=h' }) (T:=.type "int") t (by omega) (fun f hm=>?_) (by rfl) ?_
  ·obtain⟨n,tk,rfl⟩:=hf f hm
   exact .now
  ·exact hq'
 ·refine zv fun x y a b {Q'} {E''} ha hb q=>?_
  obtain⟨ax,ox,tx,nx,ex,hx,_,dx,ix⟩:=look h' kp x.1 a ha;obtain⟨ay,oy,ty,ny,ey,hy,_,dy,iy⟩:=look h' kp y.1 b hb;rw[ex,ey];refine PySem.W.kat_lt (s:={ s with heap:=h' }) hx dx hy dy ?_;exact sq 0 ix iy (by rw[List.size_toArray,List.size_toArray,ix.length,iy.length]) q
 ·obtain⟨out,eo,po,so⟩:=J0 hk hp hs
  rw[eo];obtain⟨c,hc⟩:=sortedAll_at s.heap its out.toArray;have vo:∀l:List Value,(∀v∈l,∃(a:Addr) (ks:List Int),v=.ref a/\H a=some (.tup (ks.map V.int))/\ks≠[])->Vals (l.map bk) l:=fun l=>by
   induction l with
   |nil=>intro _;exact .nil
   |cons v l ih=>intro hl';obtain⟨a,ks,rfl,_⟩:=hl' v List.mem_cons_self;exact .cons rfl (ih fun z hz=>hl' z (List.mem_cons_of_mem _ hz))
  have hvo:=vo out fun v hm=>hv v (po.mem_iff.mp hm)
  have hz2:(out.map bk).length<=sizeLine:=by rw[List.length_map,po.length_eq,<- hlen];exact hz
  refine⟨.ref (s.heap.objs.size+1),_,I.laid (t':=s.toks) (fun _ _=>sortedAll_old) (Nat.le_succ _) (show a_ X.prog X.w _ _ _ (.lst (out.map bk)) from ⟨hz2,out,c,hvo,hc⟩),rfl,k _ _ ?_ ?_ (I.hok.fresh (Nat.le_succ _))⟩
  ·have:=po.map bk
   rwa [eb]at this
  ·rw[List.pairwise_map]
   refine List.Pairwise.imp_of_mem ?_ so;intro x y hx hy hle a b ks ms e1 e2 h1 h2;obtain⟨a',ks',rfl,h1',_⟩:=hv x (po.mem_iff.mp hx);obtain⟨b',ms',rfl,h2',_⟩:=hv y (po.mem_iff.mp hy);cases e1;cases e2;refine hle ks ms ?_ ?_
   ·show oG H (.ref a)=some ks
    unfold oG;dsimp only;rw[h1];exact c_ ks
   ·show oG H (.ref b)=some ms
    unfold oG;dsimp only;rw[h2];exact c_ ms
end
theorem zD{K:PySem.W.Frag}:CallD (xQ K) Dm.ez:=by
 intro H0 H vs ds z Q s rs e k;unfold Dm.ez at e;split at e
 case h_2=>cases e
 rename_i xs;cases rs with
 |cons r rr=>
  cases rr;obtain⟨a,us,rfl,qa,ra⟩:=aX s r;split at e
  case h_2=>cases e
  rename_i nss en;split at e
  case isFalse=>cases e
  rename_i hb;cases e;obtain⟨qs,rfl,rfl,hq⟩:=Hr ra en;rw[List.length_map]at hb;refine⟨a,_,rfl,.inl qa,by rw[List.length_map];exact hb,fun y hy=>?_,fun zs l pm so hl=>?_⟩
  . obtain⟨p,hp,rfl⟩:=List.mem_map.mp hy
    exact⟨p.2,p.1,rfl,s _ _ (hq p hp).1,(hq p hp).2⟩
  . let ks:V->List Int:=fun v=>match v with
      | .ref b=>(match H0 b with
        |some (.tup ys)=>(jl ys).getD []
        |_=>[])
      |_=>[]
    have hks:∀p∈qs,ks (.ref p.2)=p.1:=fun p hp=>by show (match H0 p.2 with | some (.tup ys)=>(jl ys).getD [] | _=>[])=p.1;rw[(hq p hp).1];dsimp only;rw[c_];rfl
    have hz:∀y∈zs,∃b:Addr,y=.ref b/\H0 b=some (.tup ((ks y).map V.int)):=fun y hy=>by obtain⟨p,hp,rfl⟩:=List.mem_map.mp (pm.mem_iff.mp hy);exact⟨p.2,rfl,by rw[hks p hp];exact(hq p hp).1⟩
    have pk:(zs.map ks).Perm (qs.map (·.1)):=by refine(pm.map ks).trans (.of_eq ?_);rw[List.map_map];exact List.map_congr_left fun p hp=>hks p hp
    have srt:(zs.map ks).Pairwise (fun a b=>Dm.lx b a=false):=by rw[List.pairwise_map];refine List.Pairwise.imp_of_mem ?_ so;intro x y hx hy hle;obtain⟨b1,q1,q2⟩:=hz x hx;obtain⟨b2,q3,q4⟩:=hz y hy;exact hle b1 b2 _ _ q1 q3 (s _ _ q2) (s _ _ q4)
    have es:zs.map ks=Dm.cO Dm.lx (qs.map (·.1)):=by
      refine Dm.fL (lt:=Dm.lx) Dm.jj (pk.trans (Dm.cD _ _).symm) srt (Dm.b_ (fun a b c h1 h2=>?_) (fun a b h=>?_) _)
      . cases h:Dm.lx c a
        . rfl
        . rcases Dm.vD c b a h with z | z
          . rw[z]at h2;cases h2
          . rw[z]at h1;cases h1
      . cases h':Dm.lx b a
        . rfl
        . have:=Dm.fK a b a h h'
          rw[Dm.f6]at this;cases this
    refine k _ _ _ (aI.jG s hl) ⟨l,rfl,hl,s.free hl,_,av,?_⟩;rw[<- es];exact pe ks hz
section
variable{X:Cx}{e:Expr}{fs:List Dm.FE}{p pos:Pos}
theorem sG(hg:Gl X "sorted")(hm:X.mg "sorted" = none)(ha:DA X [e] fs)(he:starEach [e] X.env=[(false,eval e X.env)]:=by rfl)(hpl:(backTo pos (starEach [] X.env)).any (·.1)=false:=by rfl):DE X (.Call (.Name "sorted" p) [e] [] pos) (Dm.eB Dm.ez fs):=rX sF zD (by rfl) hg hm ha (he:=he) (hpl:=hpl)
end
end Br
namespace Dm
noncomputable def kQ(a:List Int):List (List Int)->List Int
 |[]=>a
 |x::r=>kQ (if lx a x then x else a) r
noncomputable def pF:List Dat->Option RV
 | [.lst xs]=>(match eX xs with
  |some (n::ns)=>some (.val (qA (kQ n ns)))
  |_=>none)
 |_=>none
noncomputable def zF(g h i:Dat->Dat->Option RV)(a b c d:FE):FT:=fun ρ=>match a ρ with
 | some (.val x,ρ1)=>(match b ρ1 with
  | some (.val y,ρ2)=>(match g x y with
   | some (.val (.bl true))=>(match c ρ2 with
    | some (.val z,ρ3)=>(match h y z with
     | some (.val (.bl true))=>(match d ρ3 with
      | some (.val w,ρ4)=>(match i z w with
       |some (.val (.bl t))=>some (t,ρ4)
       |_=>none)
      |_=>none)
     |some (.val (.bl false))=>some (false,ρ3)
     |_=>none)
    |_=>none)
   |some (.val (.bl false))=>some (false,ρ2)
   |_=>none)
  |_=>none)
 |_=>none
end Dm
namespace Br
open PySem PySem.Spec PyProof.Rows L2
section
variable{prog:Program}{w:World}{A:Around}{E:Value->Shared->Prop}{s:Shared}
theorem FA{a b:Int}{t u:Tok}{Q:Value->Shared->Prop}(q:Q (.bool (decide (b<a))) s):wpAny (model prog w) A (richCompare .Gt (.int a t) (.int b u)) Q E s:=
 CmpOf.ints_gt (P:=fun i v=>∃t,v=.int (if i=0 then a else b) t) (fun i=>if i=0 then a else b) (fun i v h=>h) 0 1 _ _ s Q E ⟨t,rfl⟩ ⟨u,rfl⟩ q
noncomputable def M7(a b:Value):Sem PySem.Fin:=do
  let p <- slotArgs "__gt__" 1 { pos:=[a,b] }
  match p with
  |(a,[b])=>do
   if !(<- PySem.isInstance b (.type "tuple")) then return <- ret .notImplemented
   let xs <- Builtin.Tuple.tupleItemsOf a
   let ys <- Builtin.Tuple.tupleItemsOf b
   for (x,y) in xs.toList.zip ys.toList do
    if !(<- eqBool x y) then
     match CmpOp.Gt with
     |.Eq=>return <- ret (.bool false)
     |.NotEq=>return <- ret (.bool true)
     |_=>do
      rule "tuple.compare.by-the-first-pair-that-differs"
      return <- ret (<- richCompare .Gt x y)
   ret (Builtin.Tuple.tupleCompareSizes .Gt xs.size ys.size)
  |_=>unsupported "internal:tuple.compare"
theorem Kd(a b:Value):Builtin.«tuple.__gt__» { pos:=[a,b] }=M7 a b:=rfl
theorem sH{B:Value×Value->Option PySem.Fin×Unit->Sem (ForInStep (Option PySem.Fin×Unit))}
  (hB:∀(n m:Int) (t u:Tok) (K:ForInStep (Option PySem.Fin×Unit)->Shared->Prop),(if n=m then K (.yield (none,())) s else K (.done (some (.done (.ret (.bool (decide (m<n))))),())) s)->wpAny (model prog w) A (B (.int n t,.int m u) (none,())) K E s)
  {K:Option PySem.Fin×Unit->Shared->Prop}:∀{xs ys:List Value} {ks ms:List Int},IntsAre xs ks->IntsAre ys ms ->
  (∀r,(r=none->Dm.lx ms ks=decide (ms.length<ks.length))->(∀f,r=some f->f=.done (.ret (.bool (Dm.lx ms ks))))->K (r,()) s) ->
  wpAny (model prog w) A (forIn (xs.zip ys) (none,()) B) K E s
 |_,_,_,_,.nil,.nil,k=>wpAny_pure (k none (fun _=>by simp[Dm.lx]) fun _ h=>by cases h)
 |_,_,_,_,.nil,.cons m u h',k=>wpAny_pure (k none (fun _=>by simp[Dm.lx]) fun _ h=>by cases h)
 |_,_,_,_,.cons n t h,.nil,k=>wpAny_pure (k none (fun _=>by simp[Dm.lx]) fun _ h=>by cases h)
 |_,_,_,_,.cons n t h,.cons m u h',k=>by
  rw[List.zip_cons_cons,List.forIn_cons];refine wpAny_bind (hB n m t u _ ?_);by_cases e:n=m
  ·rw[if_pos e]
   refine sH hB h h' fun r h1 h2=>k r (fun z=>?_) fun f z=>?_
   ·rw[Dm.lx,if_pos e.symm,h1 z];simp
   ·rw[Dm.lx,if_pos e.symm];exact h2 f z
  ·rw[if_neg e]
   refine wpAny_pure (k _ (fun z=>by cases z) fun f z=>?_);injection z with z
   rw[<- z,Dm.lx,if_neg (Ne.symm e)]
theorem Ke{a b:Addr}{oa ob:Obj}{xs ys:List Value}{ks ms:List Int}{na nb:Nat}(ha:s.heap.get? a=some oa)(ca:oa.cls=.type "tuple")(da:oa.data=.seq xs.toArray na)(ia:IntsAre xs ks)
  (hb:s.heap.get? b=some ob) (cb:ob.cls=.type "tuple") (db:ob.data=.seq ys.toArray nb) (ib:IntsAre ys ms) (hu:A.units<cLine) {Q:Value->Shared->Prop} (q:Q (.bool (Dm.lx ms ks)) s) :
  wpAny (model prog w) A (richCompare .Gt (.ref a) (.ref b)) Q E s:=by
 have ta:s.TypeIs (.ref a) "tuple" := ⟨oa,ha,ca⟩
 have tb:s.TypeIs (.ref b) "tuple" := ⟨ob,hb,cb⟩
 refine wpAny_richCompare_same_or ta tb F.slot_tuple_gt ?_ (.inr hu);refine wpAny_call_entry F.slot_tuple_gt ta F.entry_tuple_gt ?_;rw[Kd];unfold M7;refine wpAny_bind (wpAny_of_eq (show slotArgs "__gt__" 1 { pos:=[.ref a,.ref b] }=pure (.ref a,[.ref b]) from rfl) ?_);refine wpAny_bind (wpAny_isInstance tb (b:=true) rfl ?_);refine wpAny_bind (wpAny_tupleItemsOf ha da ?_);refine wpAny_bind (wpAny_tupleItemsOf hb db ?_);refine wpAny_bind (sH (fun n m t u K hk=>?_) ia ib fun r h1 h2=>?_)
 ·refine wpAny_bind (wpAny_eqBool_int ?_)
  by_cases e:n=m
  ·rw[if_pos e]at hk
   have:(n == m)=true:=by simpa using e
   rw[this];exact wpAny_pure hk
  ·rw[if_neg e]at hk
   have:(n == m)=false:=by simpa using e
   rw[this];refine wpAny_bind (wpAny_rule ?_);refine wpAny_bind (FA ?_);exact wpAny_bind (wpAny_pure (wpAny_pure hk))
 cases r with
 |none=>refine wpAny_pure ⟨_,rfl,(by simp[Builtin.Tuple.tupleCompareSizes]),?_⟩;rw[List.size_toArray,List.size_toArray,ia.length,ib.length,Builtin.Tuple.tupleCompareSizes.eq_5,<- h1 rfl];exact q
 |some f=>refine wpAny_pure ⟨_,h2 f rfl,(by simp),q⟩
end
section
variable{prog:Program}{w:World}{A:Around}{s:Shared}
theorem qI{R:Result->Shared->Prop}{I:Addr}{fp wr:List Addr}{n:Nat}{P:Nat->Value->Prop}{St:Nat->Heap->Prop}(W:Walks prog w A.in1 I fp wr n P St)(bt:Nat->Nat->Bool)(G:Heap->Prop)(S:Addr)(hS:S∉fp)
  (hG:∀h h',G h->(∀(b:Addr) (o:Obj),b∉wr->b≠S->h.get? b=some o->h'.get? b=some o)->G h')
  (cmp:∀(i j:Nat) (vi vj:Value) (s:Shared) (Q E:Value->Shared->Prop),i<n->j<n->G s.heap->P i vi->P j vj->Q (.bool (bt i j)) s->wpAny (model prog w) A.in1 (richCompare .Gt vi vj) Q E s) :
  ∀(k j:Nat) (s:Shared) (vb:Value) (c:Nat),n-(j+1)=k->j+1<=n->St (j+1) s.heap->G s.heap->P (argBest bt j) vb->argBest bt j<n ->
   s.heap.get? S=some { cls:=.type "list",data:=.seq #[vb,vb] c } ->
   (∀(v:Value) (h':Heap) (tk:Nat),P (argBest bt (n-1)) v->(∀(b:Addr) (o:Obj),b∉wr->b≠S->s.heap.get? b=some o->h'.get? b=some o)->R (.ok (.ret v)) { s with heap:=h',toks:=tk }) ->
   codeAny (model prog w) A (.builtin "max.loop" { pos:=[.ref I,.none,.ref S] }) R s
 |0,j,s,vb,c,hk,hj,st,g,pb,hb,eS,q=>by
  refine codeAny_builtin F.entry_max_loop ?_;rw[Around.under_plainId F.plain_max_loop];refine wpAny_bind (wpAny_seqItems eS rfl ?_);have ej:j+1=n:=by omega
  subst ej;refine wpAny_bind (wpAny_tryCatch (W.done _ _ _ st fun h' tk kp=>?_));have eS':=kp S _ (fun z=>hS (W.sub S z)) eS;dsimp only;refine wpAny_bind (wpAny_updateSeq eS' rfl ?_ (by rw[sizeLine_eq];simp) (by rw[sizeLine_eq];simp));refine wpAny_bind (wpAny_letGo ?_);refine wpAny_pure ?_;refine q vb _ _ pb fun b o b1 b2 b3=>?_
  rw[Heap.get?_update_other _ _ (Ne.symm b2)];exact kp b o b1 b3
 |k+1,j,s,vb,c,hk,hj,st,g,pb,hb,eS,q=>by
  refine codeAny_builtin F.entry_max_loop ?_;rw[Around.under_plainId F.plain_max_loop];refine wpAny_bind (wpAny_seqItems eS rfl ?_);refine wpAny_bind (wpAny_tryCatch (W.item (j+1) _ _ _ (by omega) st fun v h' tk pv st' kp=>?_));have eS':=kp S _ (fun z=>hS (W.sub S z)) eS;have g':=hG _ h' g fun b o b1 _ b3=>kp b o b1 b3
  dsimp only;refine wpAny_bind (wpAny_pure ?_);refine wpAny_bind (wpAny_tryCatch (wpAny_holding (wpAny_bind (cmp (j+1) (argBest bt j) _ _ _ _ _ (by omega) hb g' pv pb ?_))));refine wpAny_bind (wpAny_holding (wpAny_truthy_bool ?_));refine wpAny_bind (wpAny_letGo ?_);refine wpAny_pure ?_;have ea:argBest bt (j+1)=if bt (j+1) (argBest bt j) then j+1 else argBest bt j:=rfl
  cases e:bt (j+1) (argBest bt j) with
  |true=>
   rw[e,if_pos rfl]at ea;refine wpAny_bind (wpAny_updateSeq eS' rfl ?_ (by rw[sizeLine_eq];simp) (by rw[sizeLine_eq];simp));refine wpAny_bind (wpAny_letGo ?_);refine wpAny_pure ⟨plainId_quiet F.plain_max_loop _,?_⟩;refine qI W bt G S hS hG cmp k (j+1) _ v c (by omega) (by omega) (W.frame _ _ _ st' fun b hb o e=>?_) (hG _ _ g' fun b o _ b2 e=>?_) (by rw[ea];exact pv) (by rw[ea];omega) (Heap.get?_update_self _ eS' rfl) fun v h2 tk2 p2 k2=>?_
   ·rw[Heap.get?_update_other _ _ (fun z:S=b=>hS (by rw[z];exact hb))];exact e
   ·rw[Heap.get?_update_other _ _ (Ne.symm b2)];exact e
   ·refine q v h2 tk2 p2 fun b o b1 b2 b3=>k2 b o b1 b2 ?_
    rw[Heap.get?_update_other _ _ (Ne.symm b2)];exact kp b o b1 b3
  |false=>
   rw[e,if_neg (by decide)]at ea;refine wpAny_bind (wpAny_letGo ?_);refine wpAny_pure ⟨plainId_quiet F.plain_max_loop _,?_⟩;refine qI W bt G S hS hG cmp k (j+1) _ vb c (by omega) (by omega) st' g' (by rw[ea];exact pb) (by rw[ea];exact hb) eS' fun v h2 tk2 p2 k2=>?_
   exact q v h2 tk2 p2 fun b o b1 b2 b3=>k2 b o b1 b2 (kp b o b1 b3)
theorem BN{R:Result->Shared->Prop}{I:Addr}{fp wr:List Addr}{n:Nat}{P:Nat->Value->Prop}{St:Nat->Heap->Prop}(W:Walks prog w A.in1 I fp wr n P St)(bt:Nat->Nat->Bool)(G:Heap->Prop)(S:Addr)(hS:S∉fp)
  (hG:∀h h',G h->(∀(b:Addr) (o:Obj),b∉wr->b≠S->h.get? b=some o->h'.get? b=some o)->G h')
  (cmp:∀(i j:Nat) (vi vj:Value) (s:Shared) (Q E:Value->Shared->Prop),i<n->j<n->G s.heap->P i vi->P j vj->Q (.bool (bt i j)) s->wpAny (model prog w) A.in1 (richCompare .Gt vi vj) Q E s)
  (n0:0<n) {c:Nat} (st:St 0 s.heap) (g:G s.heap) (eS:s.heap.get? S=some { cls:=.type "list",data:=.seq #[] c })
  (q:∀(v:Value) (h':Heap) (tk:Nat),P (argBest bt (n-1)) v->(∀(b:Addr) (o:Obj),b∉wr->b≠S->s.heap.get? b=some o->h'.get? b=some o)->R (.ok (.ret v)) { s with heap:=h',toks:=tk }) :
  codeAny (model prog w) A (.builtin "max.loop" { pos:=[.ref I,.none,.ref S] }) R s:=by
 refine codeAny_builtin F.entry_max_loop ?_;rw[Around.under_plainId F.plain_max_loop];refine wpAny_bind (wpAny_seqItems eS rfl ?_);refine wpAny_bind (wpAny_tryCatch (W.item 0 _ _ _ n0 st fun v h' tk pv st' kp=>?_));have eS':=kp S _ (fun z=>hS (W.sub S z)) eS;have g':=hG _ h' g fun b o b1 _ b3=>kp b o b1 b3
 dsimp only;refine wpAny_bind (wpAny_pure ?_);refine wpAny_bind (wpAny_updateSeq eS' rfl ?_ (by rw[sizeLine_eq];simp) (by rw[sizeLine_eq];simp));refine wpAny_pure ⟨plainId_quiet F.plain_max_loop _,?_⟩;refine qI W bt G S hS hG cmp (n-1) 0 _ v _ (by omega) (by omega) (W.frame _ _ _ st' fun b hb o e=>?_) (hG _ _ g' fun b o _ b2 e=>?_) pv (by exact n0) (Heap.get?_update_self _ eS' rfl) fun v h2 tk2 p2 k2=>?_
 ·rw[Heap.get?_update_other _ _ (fun z:S=b=>hS (by rw[z];exact hb))];exact e
 ·rw[Heap.get?_update_other _ _ (Ne.symm b2)];exact e
 ·refine q v h2 tk2 p2 fun b o b1 b2 b3=>k2 b o b1 b2 ?_
  rw[Heap.get?_update_other _ _ (Ne.symm b2)];exact kp b o b1 b3
theorem FD{E:Value->Shared->Prop}{x:Value}{Q:Value->Shared->Prop} (h:wpAny (model prog w) A.in1 (pyIter x) (fun it s2=>∃I fp wr n P St,∃(bt:Nat->Nat->Bool) (G:Heap->Prop),it=.ref I/\Walks prog w A.in1 I fp wr n P St/\St 0 s2.heap/\(∀b∈fp,b<s2.heap.objs.size)/\0<n/\G s2.heap /\
   (∀h h',G h->(∀(b:Addr) (o:Obj),b∉wr->b<s2.heap.objs.size->h.get? b=some o->h'.get? b=some o)->G h') /\
   (∀(i j:Nat) (vi vj:Value) (s:Shared) (Q E:Value->Shared->Prop),i<n->j<n->G s.heap->P i vi->P j vj->Q (.bool (bt i j)) s->wpAny (model prog w) A.in1 (richCompare .Gt vi vj) Q E s) /\
   ∀(v:Value) (h':Heap) (tk:Nat),P (argBest bt (n-1)) v->(∀(b:Addr) (o:Obj),b∉wr->s2.heap.get? b=some o->h'.get? b=some o)->Q v { s2 with heap:=h',toks:=tk }) E s) :
  wpAny (model prog w) A (call (.builtin "max") [x]) Q E s:=by
 refine call_function_tree F.kind_max F.plain_max F.entry_max (F.args_max1 x) ?_;refine wpAny_bind (wpAny_of_eq (show Builtin.Builtins.bindParams "max" ["key","default"] 0 { }=pure [none,none] from rfl) ?_);refine wpAny_bind (wpAny_pure ?_);refine wpAny_bind (wpAny_mono h ?_ fun _ _ h=>h);rintro it s2 ⟨I,fp,wr,n,P,St,bt,G,rfl,W,st,lt,n0,g,hG,cmp,k⟩;refine wpAny_bind (wpAny_newObj_type ?_);refine wpAny_pure ⟨plainId_quiet F.plain_max_loop _,?_⟩;refine BN W bt G s2.heap.objs.size (fun z=>absurd (lt _ z) (Nat.lt_irrefl _)) (fun h h' g kp=>hG h h' g fun b o b1 b2=>kp b o b1 (Nat.ne_of_lt b2)) cmp n0 (W.frame _ _ _ st fun b hb o e=>Heap.get?_push_of_some _ e) (hG _ _ g fun b o _ _ e=>Heap.get?_push_of_some _ e) (Heap.get?_push_size _ rfl) fun v h' tk pv kp=>?_
 exact k v h' tk pv fun b o b1 e=>kp b o b1 (Nat.ne_of_lt (Heap.lt_size e)) (Heap.get?_push_of_some _ e)
end
theorem BO(a x:List Int)(l:List (List Int)):Dm.kQ a (l++[x])=if Dm.lx (Dm.kQ a l) x then x else Dm.kQ a l:=by
 induction l generalizing a with
 |nil=>rfl
 |cons y l ih=>rw[List.cons_append,Dm.kQ,ih,Dm.kQ]
noncomputable def bg(kss:List (List Int)):Nat->Nat->Bool:=fun i j=>Dm.lx (kss.getD j []) (kss.getD i [])
theorem pG(n0:List Int)(ns:List (List Int)):∀k,k<=ns.length->(n0::ns).getD (argBest (bg (n0::ns)) k) []=Dm.kQ n0 (ns.take k)
 |0,_=>rfl
 |k+1,h=>by
  have ih:=pG n0 ns k (by omega);have e:argBest (bg (n0::ns)) (k+1)=if Dm.lx ((n0::ns).getD (argBest (bg (n0::ns)) k) []) ((n0::ns).getD (k+1) []) then k+1 else argBest (bg (n0::ns)) k:=rfl
  have ek:(n0::ns).getD (k+1) []=ns[k]'(by omega):=by rw[List.getD_eq_getElem?_getD,List.getElem?_cons_succ,List.getElem?_eq_getElem (by omega)];rfl
  rw[e,ih,ek,List.take_succ_eq_append_getElem (by omega),BO];by_cases c:Dm.lx (Dm.kQ n0 (ns.take k)) (ns[k]'(by omega))=true
  ·rw[if_pos c,if_pos c,ek]
  ·rw[if_neg c,if_neg c,ih]
section
variable{X:Cx}
theorem zG{k:Nat}(hr:bA k X.A)(hc:X.calm=true):cN X (.builtin "max") (fun xs H Q=>∃(a:Addr) (ys:List V) (kss:List (List Int)),xs=[.ref a]/\Rd H a (.lst ys)/\qH H ys kss/\0<kss.length/\Q (ys.getD (argBest (bg kss) (kss.length-1)) .non) H):=by
 intro pins s σ H xs us Q I r h;obtain⟨a,ys,kss,rfl,hq,⟨hl1,hT⟩,n0,q⟩:=h;obtain⟨u,rfl,rx⟩:=vals1 r;cases rx;obtain⟨z,its,n,rv,e⟩:=hq.ok I.hok;have hl:s.heap.IsList a its.toArray:=⟨_,e,rfl,_,rfl⟩
 have hlen:=rv.length;have hax:a≠s.heap.objs.size:=Nat.ne_of_lt (Heap.lt_size e);have e1:its.toArray.size=kss.length:=by rw[List.size_toArray,<- hlen,hl1]
 have hu:X.A.in1.units<cLine:=u1 hr;have look:∀(h':Heap),(∀b o,s.heap.get? b=some o->h'.get? b=some o)->∀(i:Nat) (v:Value),its.toArray[i]?=some v->∃(b:Addr) (o:Obj) (ts:List Value) (n:Nat),v=.ref b/\h'.get? b=some o/\o.cls=.type "tuple" /\ o.data=.seq ts.toArray n/\IntsAre ts (kss.getD i []):=fun h' kp i v hv=>by rw[List.getElem?_toArray]at hv;obtain⟨y,hy,ry⟩:=xP rv hv;obtain⟨b,rfl,hb⟩:=hT i y hy;cases ry;obtain⟨_,ts,rt,o,ho,hcl,n,hd⟩:=I.hok b _ hb;exact⟨b,o,ts,n,rfl,kp _ _ ho,hcl,hd,intsAre_of rt⟩
 refine FD (wpAny_pyIter_list hl ⟨s.heap.objs.size,_,_,_,_,_,bg kss,fun h'=>∀b o,s.heap.get? b=some o->h'.get? b=some o,rfl,Walks.list (A:=X.A.in1) (I.ok.hd hc) s.heap.objs.size a hax its.toArray,⟨⟨_,Heap.get?_push_size _ rfl,rfl,rfl⟩,hl.push _⟩,?_,by rw[e1];exact n0,fun b o eb=>Heap.get?_push_of_some _ eb,fun h h' g kp b o eb=>kp b o ?_ (Nat.lt_trans (Heap.lt_size eb) (by exact Heap.size_push ..▸Nat.lt_succ_self _)) (g b o eb),fun i j vi vj s' Q' E' hi hj g pi pj q'=>?_,fun v h' tk hp hk=>?_⟩)
 ·intro b hb
  simp only[List.mem_cons,List.not_mem_nil,or_false]at hb;rcases hb with rfl | rfl
  ·show s.heap.objs.size<_;exact Heap.size_push ..▸Nat.lt_succ_self _
  ·show b<_;exact Heap.size_push ..▸Nat.lt_succ_of_lt (Heap.lt_size e)
 ·intro hm
  have:b=s.heap.objs.size:=by simpa using hm
  exact absurd (Heap.lt_size eb) (by rw[this];exact Nat.lt_irrefl _)
 ·obtain⟨bi,oi,ti,ni,rfl,hbi,ci,di,ii⟩:=look s'.heap g i vi pi
  obtain⟨bj,oj,tj,nj,rfl,hbj,cj,dj,ij⟩:=look s'.heap g j vj pj;exact Ke hbi ci di ii hbj cj dj ij hu q'
 ·have hp':its.toArray[argBest (bg kss) (its.toArray.size-1)]?=some v:=hp
  rw[e1,List.getElem?_toArray]at hp';obtain⟨y,hy,ry⟩:=xP rv hp';refine⟨y,H,I.kept (t':=tk) fun b o eb=>hk b o ?_ (Heap.get?_push_of_some _ eb),ry,?_⟩
  ·intro hm
   have:b=s.heap.objs.size:=by simpa using hm
   exact absurd (Heap.lt_size eb) (by rw[this];exact Nat.lt_irrefl _)
  ·rw[List.getD_eq_getElem?_getD,hy]at q
   exact q
theorem FF:CallD (fun xs H Q=>∃(a:Addr) (ys:List V) (kss:List (List Int)),xs=[.ref a]/\Rd H a (.lst ys)/\qH H ys kss/\0<kss.length/\Q (ys.getD (argBest (bg kss) (kss.length-1)) .non) H) Dm.pF:=by
 intro H0 H vs ds z Q s rs e k;unfold Dm.pF at e;split at e
 ·split at e
  ·rename_i n ns hb
   cases e;cases rs with
   |cons r rr=>
    cases rr;obtain⟨a,us,rfl,qa,ra⟩:=aX s r;obtain⟨t1,t2⟩:=pD ra hb;refine⟨a,us,n::ns,rfl,qa,⟨t1,fun i y hy=>?_⟩,by simp,?_⟩
    ·obtain⟨b,rfl,hb⟩:=t2 i y hy
     exact⟨b,rfl,s _ _ hb⟩
    ·have hb:=xO (bg (n::ns)) ((n::ns).length-1)
     have hm:=pG n ns ns.length (Nat.le_refl _);rw[List.take_length]at hm;have el:(n::ns).length-1=ns.length:=by simp
     rw[el]at hb ⊢;have hi:argBest (bg (n::ns)) ns.length<us.length:=by rw[t1,List.length_cons];omega
     have hu:us[argBest (bg (n::ns)) ns.length]?=some us[argBest (bg (n::ns)) ns.length]:=List.getElem?_eq_getElem hi;obtain⟨b,eb,hb2⟩:=t2 _ _ hu;rw[hm]at hb2;rw[List.getD_eq_getElem?_getD,hu,Option.getD_some,eb];exact k _ H0 H (aI.refl s) (.tup hb2 (jM _))
  ·cases e
 ·cases e
end
section
variable{X:Cx}{e:Expr}{fs:List Dm.FE}{p pos:Pos}{k:Nat}
theorem Kf(hr:bA k X.A)(hc:X.calm=true)(hg:Gl X "max")(hm:X.mg "max" = none)(ha:DA X [e] fs)(he:starEach [e] X.env=[(false,eval e X.env)]:=by rfl)(hpl:(backTo pos (starEach [] X.env)).any (·.1)=false:=by rfl):DE X (.Call (.Name "max" p) [e] [] pos) (Dm.eB Dm.pF fs):=rX (zG hr hc) FF (by rfl) hg hm ha (he:=he) (hpl:=hpl)
end
noncomputable def Ht(r r' r'':R2)(ta tb tc td:TE):TT:=fun σ H Q=>ta σ H fun x H1=>tb σ H1 fun y H2=>r x y H2 fun z H3=>∃k,z=.bl k /\
 (if k=true then tc σ H3 fun w H4=>r' y w H4 fun z2 H5=>∃k2,z2=.bl k2/\(if k2=true then td σ H5 fun u H6=>r'' w u H6 fun z3 H7=>∃k3,z3=.bl k3/\Q k3 H7 else Q false H5) else Q false H3)
section
variable{X:Cx}{a b c d:Expr}{ta tb tc td:TE}{fa fb fc fd:Dm.FE}{pos:Pos}
theorem Kg{op op' vO:CmpOp}{r r' r'':R2}(ho:OpR X (compareOp op) r)(ho':OpR X (compareOp op') r')(Pd:OpR X (compareOp vO) r'')(ha:PE X a ta)(hb:PE X b tb)(hc:PE X c tc)(hd:PE X d td)
  (hm:lastMarks [op,op',vO] [b,c,d]=false:=by with_unfolding_all rfl):PT X (.Compare a [op,op',vO] [b,c,d] pos) (Ht r r' r'' ta tb tc td):=by
 intro pins s σ H Q I h;refine isTrue_chain (thn (ha pins s σ H _ I h) fun v s1 ⟨x,H1,I1,r1,q1⟩=>test_link (thn (hb pins s1 σ H1 _ I1 q1) fun u s2 ⟨y,H2,I2,r2,q2⟩=>thn (ho pins s2 σ H2 x y v u _ I2 r1 r2 q2) fun d s3 ⟨z,H3,I3,r3,k,e,q3⟩=>?_)) hm
 subst e;cases r3;refine wpAny_truthy_bool ?_;cases k with
 |false=>exact ite_ff ⟨H3,I3,q3⟩
 |true=>
  refine ite_tt (test_link (thn (hc pins s3 σ H3 _ I3 q3) fun w' s4 ⟨z',H4,I4,r4,q4⟩=>thn (ho' pins s4 σ H4 y z' u w' _ I4 r2 r4 q4) fun d' s5 ⟨z2,H5,I5,r5,k2,e2,q5⟩=>?_));subst e2;cases r5;refine wpAny_truthy_bool ?_;cases k2 with
  |false=>exact ite_ff ⟨H5,I5,q5⟩
  |true=>refine ite_tt (test_last (thn (hd pins s5 σ H5 _ I5 q5) fun w2 s6 ⟨z3,H6,I6,r6,q6⟩=>thn (Pd pins s6 σ H6 z' z3 w' w2 _ I6 r4 r6 q6) fun d2 s7 ⟨z4,H7,I7,r7,k3,e3,q7⟩=>?_));subst e3;cases r7;exact wpAny_truthy_bool ⟨H7,I7,q7⟩
theorem M8{r r' r'':R2}{g h i:Dm.Dat->Dm.Dat->Option Dm.RV}(o1:OpD r g)(o2:OpD r' h)(o3:OpD r'' i){σ:L2.St}{H:Hp}{Q:Bool->Hp->Prop}(hh:tDT (Dm.zF g h i fa fb fc fd) σ H Q):Ht r r' r'' (tD fa) (tD fb) (tD fc) (tD fd) σ H Q:=by
 obtain⟨H0,ρ,t,ρ',st,e,k⟩:=hh;unfold Dm.zF at e;split at e
 case h_2=>cases e
 rename_i x1 ρ1 e1;split at e
 case h_2=>cases e
 rename_i y1 ρ2 e2;refine⟨H0,ρ,_,ρ1,st,e1,fun v H1 Hb t1 r1=>⟨H1,ρ1,_,ρ2,t1.st,e2,fun u H2 Hc t2 r2=>?_⟩⟩;have t12:=t1.trans t2;split at e
 ·rename_i gz
  refine o1 H2 Hc v u x1 y1 _ _ t2.st.same (.inl (Rep.mono t2.stp.s0 r1)) (.inl r2) gz fun w H3 Hd g3 r3=>?_
  refine⟨true,Rep.i7 r3,?_⟩;rw[if_pos rfl];have t3:=t12.trans (.grow t2.st g3);have r2':Rep H3 u y1:=Rep.mono g3.s0 r2;split at e
  case h_2=>cases e
  rename_i z1 ρ3 e3;refine⟨H3,ρ2,_,ρ3,t3.st,e3,fun w' H4 He t4 r4=>?_⟩;have t34:=t3.trans t4;split at e
  ·rename_i hz
   refine o2 H4 He u w' y1 z1 _ _ t4.st.same (.inl (Rep.mono t4.stp.s0 r2')) (.inl r4) hz fun w5 H5 Hf g5 r5=>?_
   refine⟨true,Rep.i7 r5,?_⟩;rw[if_pos rfl];have t5:=t34.trans (.grow t4.st g5);have r4':Rep H5 w' z1:=Rep.mono g5.s0 r4;split at e
   case h_2=>cases e
   rename_i w1 ρ4 e4;refine⟨H5,ρ3,_,ρ4,t5.st,e4,fun w6 H6 Hg t6 r6=>?_⟩;split at e
   case h_2=>cases e
   rename_i tt iz;cases e;refine o3 H6 Hg w' w6 z1 w1 _ _ t6.st.same (.inl (Rep.mono t6.stp.s0 r4')) (.inl r6) iz fun w7 H7 Hh g7 r7=>?_
   exact⟨_,Rep.i7 r7,k H7 Hh (t5.trans (t6.trans (.grow t6.st g7)))⟩
  ·rename_i hz
   cases e;refine o2 H4 He u w' y1 z1 _ _ t4.st.same (.inl (Rep.mono t4.stp.s0 r2')) (.inl r4) hz fun w5 H5 Hf g5 r5=>?_
   refine⟨false,Rep.i7 r5,?_⟩;rw[if_neg Bool.false_ne_true];exact k H5 Hf (t34.trans (.grow t4.st g5))
  ·cases e
 ·rename_i gz
  cases e;refine o1 H2 Hc v u x1 y1 _ _ t2.st.same (.inl (Rep.mono t2.stp.s0 r1)) (.inl r2) gz fun w H3 Hd g3 r3=>?_
  refine⟨false,Rep.i7 r3,?_⟩;rw[if_neg Bool.false_ne_true];exact k H3 Hd (t12.trans (.grow t2.st g3))
 ·cases e
theorem M9{op op' vO:CmpOp}{r r' r'':R2}{g h i:Dm.Dat->Dm.Dat->Option Dm.RV}(o1:OpR X (compareOp op) r)(q1:OpD r g)(o2:OpR X (compareOp op') r')(q2:OpD r' h)(o3:OpR X (compareOp vO) r'')(q3:OpD r'' i)(ha:DE X a fa)(hb:DE X b fb)(hc:DE X c fc)(hd:DE X d fd)
  (hm:lastMarks [op,op',vO] [b,c,d]=false:=by with_unfolding_all rfl):DT X (.Compare a [op,op',vO] [b,c,d] pos) (Dm.zF g h i fa fb fc fd):=PT.weak (Kg o1 o2 o3 ha hb hc hd hm) fun _ _ _=>M8 q1 q2 q3
end
end Br
namespace Dm
noncomputable def We(e:FE)(ρ:Env)(Q:Val->Env->Prop):Prop:=∃v ρ',e ρ=some (v,ρ')/\Q v ρ'
noncomputable def Wt(t:FT)(ρ:Env)(Q:Bool->Env->Prop):Prop:=∃v ρ',t ρ=some (v,ρ')/\Q v ρ'
noncomputable def Was(as:List FE)(ρ:Env)(Q:List Val->Env->Prop):Prop:=∃v ρ',eAs as ρ=some (v,ρ')/\Q v ρ'
noncomputable def Wi(it:FI)(ρ:Env)(Q:List Dat->Env->Prop):Prop:=∃v ρ',it ρ=some (v,ρ')/\Q v ρ'
noncomputable def KO(N:Env->Prop)(R:RV->Env->Prop)(B C:Env->Prop):Out->Prop
 |.nx ρ=>N ρ
 |.ret r ρ=>R r ρ
 |.bk ρ=>B ρ
 |.ct ρ=>C ρ
noncomputable def Ws(s:FS)(ρ:Env)(N:Env->Prop)(R:RV->Env->Prop)(B C:Env->Prop):Prop:=∃o,s ρ=some o/\KO N R B C o
noncomputable def Wr(o:Option RV)(P:RV->Prop):Prop:=∃r,o=some r/\P r
noncomputable def Wif(c:Bool)(X Y:Prop):Prop:=(c=true->X)/\(c=false->Y)
noncomputable def Wg1(g:Dat->Option RV)(o:Option Dat)(K:RV->Prop):Prop:=∃d v,o=some d/\g d=some v/\K v
noncomputable def Wg2(g:Dat->Dat->Option RV)(o p:Option Dat)(K:RV->Prop):Prop:=∃d e v,o=some d/\p=some e/\g d e=some v/\K v
noncomputable def WB(g:List Dat->Option RV)(o:Option (List Dat))(K:RV->Prop):Prop:=∃ds v,o=some ds/\g ds=some v/\K v
noncomputable def WT(o:Option (List Dat×Env))(K:List Dat->Env->Prop):Prop:=∃ds ρ,o=some (ds,ρ)/\ds.length<=SZ/\K ds ρ
noncomputable def WF(f:List Dat->Option RV)(ρ:Env)(xs:List Val)(Q:Val->Env->Prop):Prop:=∃ds v,pks ρ xs=some ds/\f ds=some v/\(if dS v.dat then ∃ds' ρ2,tks ρ xs=some (ds',ρ2)/\Q v.bD ρ2 else Q v.bD ρ)
noncomputable def Wk(ρ:Env)(x:Val)(K:Dat->Env->Prop):Prop:=∃d ρ',tk ρ x=some (d,ρ')/\K d ρ'
noncomputable def Wp(o:Option FE)(ρ:Env)(K:Option Int->Env->Prop):Prop:=∃i ρ',part o ρ=some (i,ρ')/\K i ρ'
theorem Wif.t{X Y:Prop}(x:X):Wif true X Y:=⟨fun _=>x,fun h=>by cases h⟩
theorem Wif.f{X Y:Prop}(y:Y):Wif false X Y:=⟨fun h=>(by cases h),fun _=>y⟩
theorem Wif.yes{c:Bool}{X Y:Prop}(h:c=true)(x:X):Wif c X Y:=⟨fun _=>x,fun h'=>by rw[h]at h';cases h'⟩
theorem Wif.no{c:Bool}{X Y:Prop}(h:c=false)(y:Y):Wif c X Y:=⟨fun h'=>(by rw[h]at h';cases h'),fun _=>y⟩
theorem Wif.dec{p:Prop}[Decidable p]{X Y:Prop}(x:p->X)(y:¬p->Y):Wif (decide p) X Y:=⟨fun h=>x (of_decide_eq_true h),fun h=>y (of_decide_eq_false h)⟩
theorem We.v{i:Nat}{ρ:Env}{d:Dat}{Q:Val->Env->Prop}(h:ρ[i]?=some (.sh d))(q:Q (.val d) ρ):We (eV i) ρ Q:=⟨_,_,by unfold eV;rw[h],q⟩
theorem We.w{i:Nat}{ρ:Env}{d:Dat}{Q:Val->Env->Prop}(h:ρ[i]?=some (.ow d))(q:Q (.slot i) ρ):We (eV i) ρ Q:=⟨_,_,by unfold eV;rw[h],q⟩
theorem We.c{d:Dat}{ρ:Env}{Q:Val->Env->Prop}(q:Q (.val d) ρ):We (eC d) ρ Q:=⟨_,_,rfl,q⟩
theorem We.e1{g:Dat->Option RV}{a:FE}{ρ:Env}{Q:Val->Env->Prop}(h:We a ρ fun x ρ1=>Wg1 g (pk ρ1 x) fun v=>Q v.bD ρ1):We (e1 g a) ρ Q:=by obtain⟨x,ρ1,h1,d,v,h2,h3,q⟩:=h;exact⟨_,_,by unfold Dm.e1;rw[h1];dsimp only;rw[h2];dsimp only;rw[h3],q⟩
theorem We.e2{g:Dat->Dat->Option RV}{a b:FE}{ρ:Env}{Q:Val->Env->Prop}(h:We a ρ fun x ρ1=>We b ρ1 fun y ρ2=>Wg2 g (pk ρ2 x) (pk ρ2 y) fun v=>Q v.bD ρ2):We (e2 g a b) ρ Q:=by obtain⟨x,ρ1,h1,y,ρ2,h2,d,e,v,h3,h4,h5,q⟩:=h;exact⟨_,_,by unfold Dm.e2;rw[h1];dsimp only;rw[h2];dsimp only;rw[h3];dsimp only;rw[h4];dsimp only;rw[h5],q⟩
theorem Was.nil{ρ:Env}{Q:List Val->Env->Prop}(q:Q [] ρ):Was [] ρ Q:=⟨_,_,rfl,q⟩
theorem Was.cons{a:FE}{r:List FE}{ρ:Env}{Q:List Val->Env->Prop}(h:We a ρ fun x ρ1=>Was r ρ1 fun xs ρ2=>Q (x::xs) ρ2):Was (a::r) ρ Q:=by obtain⟨x,ρ1,h1,xs,ρ2,h2,q⟩:=h;exact⟨_,_,by unfold eAs;rw[h1];dsimp only;rw[h2],q⟩
theorem We.B{g:List Dat->Option RV}{as:List FE}{ρ:Env}{Q:Val->Env->Prop}(h:Was as ρ fun xs ρ1=>WB g (pks ρ1 xs) fun v=>Q v.bD ρ1):We (eB g as) ρ Q:=by obtain⟨x,ρ1,h1,d,v,h2,h3,q⟩:=h;exact⟨_,_,by unfold eB;rw[h1];dsimp only;rw[h2];dsimp only;rw[h3],q⟩
theorem We.T{as:List FE}{ρ:Env}{Q:Val->Env->Prop}(h:Was as ρ fun xs ρ1=>WT (tks ρ1 xs) fun ds ρ2=>Q (.val (.tup ds)) ρ2):We (e_ as) ρ Q:=by obtain⟨x,ρ1,h1,ds,ρ2,h2,h3,q⟩:=h;exact⟨_,_,by unfold e_;rw[h1];dsimp only;rw[h2];dsimp only;rw[if_pos h3],q⟩
theorem We.L{as:List FE}{ρ:Env}{Q:Val->Env->Prop}(h:Was as ρ fun xs ρ1=>WT (tks ρ1 xs) fun ds ρ2=>Q (.new (.lst ds)) ρ2):We (cT as) ρ Q:=by obtain⟨x,ρ1,h1,ds,ρ2,h2,h3,q⟩:=h;exact⟨_,_,by unfold cT;rw[h1];dsimp only;rw[h2];dsimp only;rw[if_pos h3],q⟩
theorem WT.mk{ρ:Env}{xs:List Val}{ds:List Dat}{ρ2 ρ3:Env}{K:List Dat->Env->Prop}(k:K ds ρ3)(h:tks ρ xs=some (ds,ρ2))(hn:ρ2=ρ3)(hl:ds.length<=SZ):WT (tks ρ xs) K:=⟨_,_,hn▸h,hl,k⟩
theorem We.F{f:List Dat->Option RV}{as:List FE}{ρ:Env}{Q:Val->Env->Prop}(h:Was as ρ fun xs ρ1=>WF f ρ1 xs Q):We (eF f as) ρ Q:=by
 obtain⟨x,ρ1,h1,ds,v,h2,h3,h4⟩:=h;by_cases hb:dS v.dat=true
 ·rw[if_pos hb]at h4
  obtain⟨ds',ρ2,h5,q⟩:=h4;exact⟨_,_,by unfold eF;rw[h1];dsimp only;rw[h2];dsimp only;rw[h3];dsimp only;rw[if_pos hb,h5],q⟩
 ·rw[if_neg hb]at h4
  exact⟨_,_,by unfold eF;rw[h1];dsimp only;rw[h2];dsimp only;rw[h3];dsimp only;rw[if_neg hb],h4⟩
theorem WF.box{f:List Dat->Option RV}{ρ ρ2 ρ3:Env}{xs:List Val}{ds ds':List Dat}{v:RV}{Q:Val->Env->Prop}(h2:f ds=some v)(q:Q v.bD ρ3)(h1:pks ρ xs=some ds)(h3:dS v.dat=true)(h4:tks ρ xs=some (ds',ρ2))(hn:ρ2=ρ3):WF f ρ xs Q:=
 ⟨_,_,h1,h2,by rw[if_pos h3];exact⟨_,_,h4,hn▸q⟩⟩
theorem WF.val{f:List Dat->Option RV}{ρ:Env}{xs:List Val}{ds:List Dat}{v:RV}{Q:Val->Env->Prop}(h2:f ds=some v)(q:Q v.bD ρ)(h1:pks ρ xs=some ds)(h3:dS v.dat=false):WF f ρ xs Q:=
 ⟨_,_,h1,h2,by rw[if_neg (by rw[h3];decide)];exact q⟩
theorem We.If{t:FT}{a b:FE}{ρ:Env}{Q:Val->Env->Prop}(h:Wt t ρ fun c ρ1=>Wif c (We a ρ1 Q) (We b ρ1 Q)):We (eIf t a b) ρ Q:=by
 obtain⟨c,ρ1,h1,h2,h3⟩:=h;cases c with
 |true=>obtain⟨v,ρ2,h4,q⟩:=h2 rfl;exact⟨_,_,by unfold eIf;rw[h1];exact h4,q⟩
 |false=>obtain⟨v,ρ2,h4,q⟩:=h3 rfl;exact⟨_,_,by unfold eIf;rw[h1];exact h4,q⟩
noncomputable def Wb(v:Val)(K:Bool->Prop):Prop:=∃c,v=.val (.bl c)/\K c
theorem Wb.mk{c:Bool}{K:Bool->Prop}(k:K c):Wb (.val (.bl c)) K:=⟨c,rfl,k⟩
theorem We.And{a b:FE}{ρ:Env}{Q:Val->Env->Prop}(h:We a ρ fun v ρ1=>Wb v fun c=>Wif c (We b ρ1 Q) (Q (.val (.bl false)) ρ1)):We (gv a b) ρ Q:=by
 obtain⟨v,ρ1,h1,c,rfl,h2,h3⟩:=h;cases c with
 |true=>obtain⟨v,ρ2,h4,q⟩:=h2 rfl;exact⟨_,_,by unfold gv;rw[h1];exact h4,q⟩
 |false=>exact⟨_,_,by unfold gv;rw[h1],h3 rfl⟩
theorem We.Not{a:FE}{ρ:Env}{Q:Val->Env->Prop}(h:We a ρ fun v ρ1=>Wb v fun c=>Q (.val (.bl (!c))) ρ1):We (u5 a) ρ Q:=by obtain⟨v,ρ1,h1,c,rfl,h2⟩:=h;exact⟨_,_,by unfold u5;rw[h1],h2⟩
theorem Wt.V{a:FE}{ρ:Env}{Q:Bool->Env->Prop}(h:We a ρ fun v ρ1=>Wb v fun c=>Q c ρ1):Wt (tV a) ρ Q:=by obtain⟨v,ρ1,h1,c,rfl,h2⟩:=h;exact⟨_,_,by unfold tV;rw[h1],h2⟩
theorem Wt.Not{t:FT}{ρ:Env}{Q:Bool->Env->Prop}(h:Wt t ρ fun c ρ1=>Q (!c) ρ1):Wt (cy t) ρ Q:=by obtain⟨v,ρ1,h1,h2⟩:=h;exact⟨_,_,by unfold cy;rw[h1],h2⟩
theorem Wt.And{t u:FT}{ρ:Env}{Q:Bool->Env->Prop}(h:Wt t ρ fun c ρ1=>Wif c (Wt u ρ1 Q) (Q false ρ1)):Wt (kJ t u) ρ Q:=by
 obtain⟨c,ρ1,h1,h2,h3⟩:=h;cases c with
 |true=>obtain⟨v,ρ2,h4,q⟩:=h2 rfl;exact⟨_,_,by unfold kJ;rw[h1];exact h4,q⟩
 |false=>exact⟨_,_,by unfold kJ;rw[h1],h3 rfl⟩
theorem Wt.Or{t u:FT}{ρ:Env}{Q:Bool->Env->Prop}(h:Wt t ρ fun c ρ1=>Wif c (Q true ρ1) (Wt u ρ1 Q)):Wt (tOr t u) ρ Q:=by
 obtain⟨c,ρ1,h1,h2,h3⟩:=h;cases c with
 |false=>obtain⟨v,ρ2,h4,q⟩:=h3 rfl;exact⟨_,_,by unfold tOr;rw[h1];exact h4,q⟩
 |true=>exact⟨_,_,by unfold tOr;rw[h1],h2 rfl⟩
theorem Wt.Tr{a:FE}{ρ:Env}{Q:Bool->Env->Prop}(h:We a ρ fun x ρ1=>∃d c,pk ρ1 x=some d/\truth d=some c/\Q c ρ1):Wt (tTr a) ρ Q:=by obtain⟨x,ρ1,h1,d,c,h2,h3,q⟩:=h;exact⟨_,_,by unfold tTr;rw[h1];dsimp only;rw[h2];dsimp only;rw[h3],q⟩
theorem Wt.T{ρ:Env}{Q:Bool->Env->Prop}(q:Q true ρ):Wt b7 ρ Q:=⟨_,_,rfl,q⟩
theorem Wk.val{ρ:Env}{d:Dat}{K:Dat->Env->Prop}(k:K d ρ):Wk ρ (.val d) K:=⟨_,_,rfl,k⟩
theorem Wk.new{ρ:Env}{d:Dat}{K:Dat->Env->Prop}(k:K d ρ):Wk ρ (.new d) K:=⟨_,_,rfl,k⟩
theorem Wk.slot{ρ ρ':Env}{i:Nat}{d:Dat}{K:Dat->Env->Prop}(k:K d ρ')(h:ρ[i]?=some (.ow d))(hs:ρ.set i (.sh d)=ρ'):Wk ρ (.slot i) K:=⟨_,_,by unfold tk;dsimp only;rw[h];dsimp only;rw[hs],k⟩
noncomputable def BP:Dat->Option (List Dat)
 |.lst ds=>some ds
 |.tup ds=>some ds
 |_=>none
theorem Wi.S{a:FE}{ρ:Env}{Q:List Dat->Env->Prop}(h:We a ρ fun x ρ1=>Wk ρ1 x fun d ρ2=>∃ds,BP d=some ds/\Q ds ρ2):Wi (iS a) ρ Q:=by
 obtain⟨x,ρ1,h1,d,ρ2,h2,ds,hd,q⟩:=h;cases d with
 |lst xs=>cases hd;exact⟨_,_,by unfold iS;rw[h1];dsimp only;rw[h2],q⟩
 |tup xs=>cases hd;exact⟨_,_,by unfold iS;rw[h1];dsimp only;rw[h2],q⟩
 |_=>cases hd
noncomputable def b5(v:Val)(K:Int->Prop):Prop:=∃i,v=.val (.int i)/\K i
theorem b5.mk{i:Int}{K:Int->Prop}(k:K i):b5 (.val (.int i)) K:=⟨i,rfl,k⟩
theorem Wi.R1{a:FE}{ρ:Env}{Q:List Dat->Env->Prop}(h:We a ρ fun v ρ1=>b5 v fun j=>Q (ups 0 j.toNat) ρ1/\j<=BIG/\-BIG<=j):Wi (iR1 a) ρ Q:=by obtain⟨v,ρ1,h1,j,rfl,q,h2⟩:=h;exact⟨_,_,by unfold iR1;rw[h1];dsimp only;rw[if_pos h2],q⟩
theorem Wi.R2{a b:FE}{ρ:Env}{Q:List Dat->Env->Prop}(h:We a ρ fun v ρ1=>b5 v fun i=>We b ρ1 fun w ρ2=>b5 w fun j=>Q (ups i (j-i).toNat) ρ2/\j<=BIG/\-BIG<=j/\i<=BIG/\-BIG<=i):Wi (iR2 a b) ρ Q:=by obtain⟨v,ρ1,h1,i,rfl,w,ρ2,h2,j,rfl,q,h3⟩:=h;exact⟨_,_,by unfold iR2;rw[h1];dsimp only;rw[h2];dsimp only;rw[if_pos h3],q⟩
theorem Wi.Rev{a:FE}{ρ:Env}{Q:List Dat->Env->Prop}(h:We a ρ fun x ρ1=>Wk ρ1 x fun d ρ2=>∃ds,d=.lst ds/\Q ds.reverse ρ2):Wi (zm a) ρ Q:=by obtain⟨x,ρ1,h1,d,ρ2,h2,ds,rfl,q⟩:=h;exact⟨_,_,by unfold zm;rw[h1];dsimp only;rw[h2],q⟩
theorem Wi.En{a:FE}{ρ:Env}{Q:List Dat->Env->Prop}(h:We a ρ fun x ρ1=>Wk ρ1 x fun d ρ2=>∃ds,d=.lst ds/\Q (je 0 ds) ρ2):Wi (iEn a) ρ Q:=by obtain⟨x,ρ1,h1,d,ρ2,h2,ds,rfl,q⟩:=h;exact⟨_,_,by unfold iEn;rw[h1];dsimp only;rw[h2],q⟩
theorem Wp.none{ρ:Env}{K:Option Int->Env->Prop}(k:K none ρ):Wp none ρ K:=⟨_,_,rfl,k⟩
theorem Wp.some{f:FE}{ρ:Env}{K:Option Int->Env->Prop}(h:We f ρ fun v ρ1=>b5 v fun i=>K (some i) ρ1):Wp (some f) ρ K:=by obtain⟨v,ρ1,h1,i,rfl,k⟩:=h;exact⟨_,_,by unfold part;dsimp only;rw[h1],k⟩
noncomputable def Wsl(o:Option Dat)(l h:Option Int)(K:Dat->Prop):Prop:=∃xs,o=some (.lst xs)/\K (.lst (cut xs l h))
noncomputable def BQ{α:Type}(xs:List α)(lo hi:Option Int):List α:=(xs.drop (sIx xs.length 0 lo)).take (sIx xs.length xs.length hi-sIx xs.length 0 lo)
theorem M_{α:Type}(enc:α->Dat)(xs:List α)(lo hi:Option Int):cut (xs.map enc) lo hi=(BQ xs lo hi).map enc:=by unfold cut BQ;rw[List.length_map,<- List.map_drop,<- List.map_take]
theorem Wsl.A{α:Type}{enc:α->Dat}{xs:List α}{o:Option Dat}{l h:Option Int}{K:Dat->Prop}(k:K (.lst ((BQ xs l h).map enc)))(ho:o=some (.lst (xs.map enc))):Wsl o l h K:=⟨_,ho,by rw[M_];exact k⟩
theorem We.Sl{a:FE}{lo hi:Option FE}{ρ:Env}{Q:Val->Env->Prop}(h:We a ρ fun x ρ1=>Wp lo ρ1 fun l ρ2=>Wp hi ρ2 fun h ρ3=>Wsl (pk ρ3 x) l h fun d=>Q (.new d) ρ3):We (eSl a lo hi) ρ Q:=by obtain⟨x,ρ1,h1,l,ρ2,h2,hh,ρ3,h3,xs,h4,q⟩:=h;exact⟨_,_,by unfold eSl;rw[h1];dsimp only;rw[h2];dsimp only;rw[h3];dsimp only;rw[h4],q⟩
theorem Ws.nx{ρ:Env}{N:Env->Prop}{R:RV->Env->Prop}{B C:Env->Prop}(n:N ρ):Ws sNx ρ N R B C:=⟨_,rfl,n⟩
theorem Ws.seq{s u:FS}{ρ:Env}{N:Env->Prop}{R:RV->Env->Prop}{B C:Env->Prop}(h:Ws s ρ (fun ρ1=>Ws u ρ1 N R B C) R B C):Ws (ao s u) ρ N R B C:=by
 obtain⟨o,h1,h2⟩:=h;cases o with
 |nx ρ1=>obtain⟨o,h3,h4⟩:=h2;exact⟨o,by unfold ao;rw[h1];exact h3,h4⟩
 |ret r ρ1=>exact⟨.ret r ρ1,by unfold ao;rw[h1],h2⟩
 |bk ρ1=>exact⟨.bk ρ1,by unfold ao;rw[h1],h2⟩
 |ct ρ1=>exact⟨.ct ρ1,by unfold ao;rw[h1],h2⟩
noncomputable def WA(i:Nat)(v:Val)(ρ:Env)(N:Env->Prop):Prop:=match v with
 |.new d=>N (ρ.set i (.ow d))
 |x=>Wk ρ x fun d ρ2=>N (ρ2.set i (.sh d))
theorem Ws.A{i:Nat}{e:FE}{ρ:Env}{N:Env->Prop}{R:RV->Env->Prop}{B C:Env->Prop}(h:We e ρ fun v ρ1=>WA i v ρ1 N)(hi:i≠0):Ws (sA i e) ρ N R B C:=by
 obtain⟨v,ρ1,h1,h2⟩:=h;cases v with
 |new d=>exact⟨.nx _,by unfold sA;rw[if_neg hi,h1],h2⟩
 |val d=>obtain⟨d',ρ2,h3,h4⟩:=h2;exact⟨.nx _,by unfold sA;rw[if_neg hi,h1];dsimp only;rw[h3],h4⟩
 |slot j=>obtain⟨d',ρ2,h3,h4⟩:=h2;exact⟨.nx _,by unfold sA;rw[if_neg hi,h1];dsimp only;rw[h3],h4⟩
theorem WA.new{i:Nat}{d:Dat}{ρ ρ2:Env}{N:Env->Prop}(n:N ρ2)(hs:ρ.set i (.ow d)=ρ2):WA i (.new d) ρ N:=by unfold WA;dsimp only;rw[hs];exact n
theorem WA.val{i:Nat}{d:Dat}{ρ ρ2:Env}{N:Env->Prop}(n:N ρ2)(hs:ρ.set i (.sh d)=ρ2):WA i (.val d) ρ N:=⟨_,_,rfl,by show N _;rw[hs];exact n⟩
theorem Ws.E{e:FE}{ρ:Env}{N:Env->Prop}{R:RV->Env->Prop}{B C:Env->Prop}(h:We e ρ fun _ ρ1=>N ρ1):Ws (sE e) ρ N R B C:=by obtain⟨x,ρ1,h1,n⟩:=h;exact⟨.nx _,by unfold sE;rw[h1],n⟩
noncomputable def WR(v:Val)(ρ:Env)(R:RV->Env->Prop):Prop:=match v with
 |.new d=>R (.new d) ρ
 |.val d=>R (.val d) ρ
 |.slot i=>(∃d,ρ[i]?=some (.ow d)/\R (.new d) (ρ.set i .un))
theorem Ws.R{e:FE}{ρ:Env}{N:Env->Prop}{R:RV->Env->Prop}{B C:Env->Prop}(h:We e ρ fun v ρ1=>WR v ρ1 R):Ws (sR e) ρ N R B C:=by
 obtain⟨v,ρ1,h1,h2⟩:=h;cases v with
 |new d=>exact⟨.ret _ _,by unfold sR;rw[h1],h2⟩
 |val d=>exact⟨.ret _ _,by unfold sR;rw[h1],h2⟩
 |slot i=>obtain⟨d,h3,h4⟩:=h2;exact⟨.ret _ _,by unfold sR;rw[h1];dsimp only;rw[h3],h4⟩
theorem WR.new{d:Dat}{ρ:Env}{R:RV->Env->Prop}(r:R (.new d) ρ):WR (.new d) ρ R:=r
theorem WR.val{d:Dat}{ρ:Env}{R:RV->Env->Prop}(r:R (.val d) ρ):WR (.val d) ρ R:=r
theorem WR.slot{d:Dat}{ρ:Env}{i:Nat}{R:RV->Env->Prop}(r:R (.new d) (ρ.set i .un))(h:ρ[i]?=some (.ow d)):WR (.slot i) ρ R:=⟨d,h,r⟩
theorem Ws.If{t:FT}{a b:FS}{ρ:Env}{N:Env->Prop}{R:RV->Env->Prop}{B C:Env->Prop}(h:Wt t ρ fun c ρ1=>Wif c (Ws a ρ1 N R B C) (Ws b ρ1 N R B C)):Ws (sIf t a b) ρ N R B C:=by
 obtain⟨c,ρ1,h1,h2,h3⟩:=h;cases c with
 |true=>obtain⟨o,h4,q⟩:=h2 rfl;exact⟨_,by unfold sIf;rw[h1];exact h4,q⟩
 |false=>obtain⟨o,h4,q⟩:=h3 rfl;exact⟨_,by unfold sIf;rw[h1];exact h4,q⟩
theorem Ws.App{i:Nat}{e:FE}{ρ:Env}{N:Env->Prop}{R:RV->Env->Prop}{B C:Env->Prop}{ds0:List Dat}(h:We e ρ fun x ρ1=>Wk ρ1 x fun d ρ2=>∃ds ρ3,ρ2[i]?=some (.ow (.lst ds))/\ρ2.set i (.ow (.lst (ds++[d])))=ρ3/\N ρ3/\ds.length<SZ)(h0:ρ[i]?=some (.ow (.lst ds0))):Ws (kL i e) ρ N R B C:=by obtain⟨x,ρ1,h1,d,ρ2,h2,ds,ρ3,h3,h5,n,h4⟩:=h;exact⟨.nx _,by unfold kL;rw[h0];dsimp only;rw[h1];dsimp only;rw[h2];dsimp only;rw[h3];dsimp only;rw[if_pos h4,h5],n⟩
theorem gA{i:Nat}{d:Dat}{ds:List Dat}{ρ2 ρ3:Env}{N:Env->Prop}(n:N ρ3)(h:ρ2[i]?=some (.ow (.lst ds)))(hs:ρ2.set i (.ow (.lst (ds++[d])))=ρ3)(hl:ds.length<SZ):∃ds ρ3,ρ2[i]?=some (.ow (.lst ds))/\ρ2.set i (.ow (.lst (ds++[d])))=ρ3/\N ρ3/\ds.length<SZ:=⟨_,_,h,hs,n,hl⟩
theorem Ws.Set{i:Nat}{j e:FE}{ρ:Env}{N:Env->Prop}{R:RV->Env->Prop}{B C:Env->Prop}(h:We e ρ fun x ρ1=>Wk ρ1 x fun d ρ2=>(∃d0,ρ2[i]?=some (.ow d0))/\We j ρ2 fun y ρ3=>b5 y fun k=>∃ds m ρ4,ρ3[i]?=some (.ow (.lst ds))/\ixN ds.length k=some m/\ρ3.set i (.ow (.lst (ds.set m d)))=ρ4/\N ρ4):Ws (u6 i j e) ρ N R B C:=by obtain⟨x,ρ1,h1,d,ρ2,h2,⟨d0,h0⟩,y,ρ3,h3,k,rfl,ds,m,ρ4,h4,h5,h6,n⟩:=h;exact⟨.nx _,by unfold u6;rw[h1];dsimp only;rw[h2];dsimp only;rw[h0];dsimp only;rw[h3];dsimp only;rw[h4];dsimp only;rw[h5];dsimp only;rw[h6],n⟩
theorem Ws.Kh{i:Nat}{j e:FE}{ρ:Env}{N:Env->Prop}{R:RV->Env->Prop}{B C:Env->Prop}(h:We e ρ fun x ρ1=>Wk ρ1 x fun d ρ2=>(∃d0,ρ2[i]?=some (.ow d0))/\We j ρ2 fun y ρ3=>b5 y fun k=>∃ks vs ρ4,ρ3[i]?=some (.ow (.dct ks vs))/\ρ3.set i (.ow (.dct (j_ ks k) (kc ks vs k d)))=ρ4/\N ρ4/\ks.length<SZ):Ws (kg i j e) ρ N R B C:=by obtain⟨x,ρ1,h1,d,ρ2,h2,⟨d0,h0⟩,y,ρ3,h3,k,rfl,ks,vs,ρ4,h4,h5,n,h6⟩:=h;exact⟨.nx _,by unfold kg;rw[h1];dsimp only;rw[h2];dsimp only;rw[h0];dsimp only;rw[h3];dsimp only;rw[h4];dsimp only;rw[if_pos h6,h5],n⟩
theorem qJ{i:Nat}{k:Int}{d:Dat}{ks:List Int}{vs:List Dat}{ρ3 ρ4:Env}{N:Env->Prop}(n:N ρ4)(h:ρ3[i]?=some (.ow (.dct ks vs)))(hs:ρ3.set i (.ow (.dct (j_ ks k) (kc ks vs k d)))=ρ4)(hl:ks.length<SZ):∃ks vs ρ4,ρ3[i]?=some (.ow (.dct ks vs))/\ρ3.set i (.ow (.dct (j_ ks k) (kc ks vs k d)))=ρ4/\N ρ4/\ks.length<SZ:=⟨_,_,_,h,hs,n,hl⟩
theorem Ws.For{it:FI}{bd:FB}{body:FS}{ρ:Env}{N:Env->Prop}{R:RV->Env->Prop}{B C:Env->Prop}(h:Wi it ρ fun ds ρ1=>Ws (jD bd body ds) ρ1 N R B C):Ws (cU it bd body) ρ N R B C:=by obtain⟨ds,ρ1,h1,o,h2,h3⟩:=h;exact⟨o,by unfold cU;rw[h1];exact h2,h3⟩
theorem Ws.inv{α:Type}(enc:α->Dat)(bd:FB)(body:FS)(xs:List α)(ρ:Env)(N:Env->Prop)(R:RV->Env->Prop)(B C:Env->Prop)(I:List α->List α->Env->Prop)
  (h0:I [] xs ρ) (hs:∀p x q ρ,xs=p++x::q->I p (x::q) ρ->∃ρ1,bd (enc x) ρ=some ρ1/\Ws body ρ1 (fun ρ2=>I (p++[x]) q ρ2) R N (fun ρ2=>I (p++[x]) q ρ2)) (he:∀ρ,I xs [] ρ->N ρ):Ws (jD bd body (xs.map enc)) ρ N R B C:=by
 have go:∀(q p:List α) (ρ:Env),xs=p++q->I p q ρ->Ws (jD bd body (q.map enc)) ρ N R B C:=fun q=>by
  induction q with
  |nil=>intro p ρ e i;rw[List.append_nil]at e;exact⟨.nx _,rfl,he ρ (e▸i)⟩
  |cons x q ih=>
   intro p ρ e i;obtain⟨ρ1,h1,o,h2,h3⟩:=hs p x q ρ e i;have e':xs=(p++[x])++q:=by rw[List.append_assoc];exact e
   cases o with
   |nx ρ2=>obtain⟨o,h4,h5⟩:=ih _ _ e' h3;exact⟨o,by rw[List.map_cons,jD,h1];dsimp only;rw[h2];exact h4,h5⟩
   |ct ρ2=>obtain⟨o,h4,h5⟩:=ih _ _ e' h3;exact⟨o,by rw[List.map_cons,jD,h1];dsimp only;rw[h2];exact h4,h5⟩
   |bk ρ2=>exact⟨.nx _,by rw[List.map_cons,jD,h1];dsimp only;rw[h2],h3⟩
   |ret r ρ2=>exact⟨.ret _ _,by rw[List.map_cons,jD,h1];dsimp only;rw[h2],h3⟩
 exact go xs [] ρ rfl h0
theorem Wr.fn{n m:Nat}{body:FS}{ds:List Dat}{ρ:Env}{P:RV->Prop}(b:Ws body ρ (fun _=>P (.val .non)) (fun r _=>P r) (fun _=>False) (fun _=>False))(hρ:ds.map Cell.sh++List.replicate m .un=ρ)(h:ds.length=n):Wr (fn n m body ds) P:=by
 obtain⟨o,h1,h2⟩:=b;cases o with
 |nx ρ1=>exact⟨_,by unfold Dm.fn;rw[if_pos h,hρ,h1],h2⟩
 |ret r ρ1=>exact⟨_,by unfold Dm.fn;rw[if_pos h,hρ,h1],h2⟩
 |bk ρ1=>exact h2.elim
 |ct ρ1=>exact h2.elim
theorem Wr.eq{o:Option RV}{r:RV}(h:Wr o fun x=>x=r):o=some r:=by obtain⟨x,h1,rfl⟩:=h;exact h1
theorem xR{α:Type}(enc:α->Dat)(p:α->Bool)(v:α->Dat)(bd:FB)(t:FT)(el:FE)(mk:Cell->Env)(hb:∀d c,bd d (mk c)=some (mk (.sh d))):∀(xs:List α) (c:Cell) (acc:List Dat),
  (∀x∈xs,t (mk (.sh (enc x)))=some (p x,mk (.sh (enc x))))->(∀x∈xs,p x=true->We el (mk (.sh (enc x))) fun w ρ'=>Wk ρ' w fun d ρ''=>d=v x/\ρ''=mk (.sh (enc x))) ->
  ∃c',dm bd t el (xs.map enc) (mk c) acc=some (acc++(xs.filter p).map v,mk c')
 |[],c,acc,_,_=>⟨c,by simp[dm]⟩
 |x::xs,c,acc,ht,he=>by
  rw[List.map_cons,dm,hb];dsimp only;rw[ht x List.mem_cons_self];have ht':=fun y hy=>ht y (List.mem_cons_of_mem _ hy)
  have he':=fun y hy=>he y (List.mem_cons_of_mem _ hy)
  by_cases h:p x=true
  ·obtain⟨w,ρ',h1,d,ρ'',h2,rfl,rfl⟩:=he x List.mem_cons_self h
   rw[h];dsimp only;rw[h1];dsimp only;rw[h2];obtain⟨c',e⟩:=xR enc p v bd t el mk hb xs (.sh (enc x)) (acc++[v x]) ht' he';exact⟨c',by dsimp only;rw[e,List.filter_cons_of_pos h];simp⟩
  ·rw[Bool.not_eq_true]at h
   rw[h];obtain⟨c',e⟩:=xR enc p v bd t el mk hb xs (.sh (enc x)) acc ht' he';exact⟨c',by dsimp only;rw[e,List.filter_cons_of_neg (by rw[h];decide)]⟩
theorem Wt.get{t:FT}{ρ:Env}{c:Bool}(h:Wt t ρ fun c' ρ'=>c'=c/\ρ'=ρ):t ρ=some (c,ρ):=by obtain⟨_,_,h1,rfl,rfl⟩:=h;exact h1
theorem We.Comp{α:Type}(enc:α->Dat)(xs:List α)(p:α->Bool)(v:α->Dat){it:FI}{k:Nat}{t:FT}{el:FE}{ρ ρ1:Env}{Q:Val->Env->Prop}
  (q:Q (.new (.lst ((xs.filter p).map v))) ρ1) (hit:it ρ=some (xs.map enc,ρ1)) (hk:ρ1.length=k) (hk0:k≠0) (hl:xs.length<=SZ)
  (ht:∀x∈xs,Wt t (ρ1++[.sh (enc x)]) fun c ρ'=>c=p x/\ρ'=ρ1++[.sh (enc x)])
  (he:∀x∈xs,p x=true->We el (ρ1++[.sh (enc x)]) fun w ρ'=>Wk ρ' w fun d ρ''=>d=v x/\ρ''=ρ1++[.sh (enc x)]):We (bV it 1 (bN k) t el) ρ Q:=by
 have bd:∀(d:Dat) (c:Cell),bN k d (ρ1++[c])=some (ρ1++[.sh d]):=fun d c=>by unfold bN;rw[if_neg hk0,List.set_append_right _ _ (by omega)];simp[hk]
 obtain⟨c',e⟩:=xR enc p v (bN k) t el (fun c=>ρ1++[c]) bd xs .un [] (fun x hx=>Wt.get (ht x hx)) he;refine⟨_,_,?_,q⟩;unfold bV;rw[hit];dsimp only;rw[if_pos (by rw[List.length_map];exact hl)];show (match dm _ _ _ _ (ρ1++[.un]) [] with | none=>none | some (ys,ρ2)=>some (Val.new (.lst ys),ρ2.take ρ1.length))=_;rw[e];dsimp only;rw[List.nil_append,List.take_left]
theorem We.Hu{α:Type}(enc:α->Dat)(xs:List α)(p:α->Bool)(v:α->Dat){i:Nat}{k:Nat}{t:FT}{el:FE}{ρ:Env}{Q:Val->Env->Prop}{d:Dat}
  (q:Q (.new (.lst ((xs.filter p).map v))) ρ) (hi:ρ[i]?=some (.sh d)) (hd:BP d=some (xs.map enc)) (hk:ρ.length=k) (hk0:k≠0) (hl:xs.length<=SZ)
  (ht:∀x∈xs,Wt t (ρ++[.sh (enc x)]) fun c ρ'=>c=p x/\ρ'=ρ++[.sh (enc x)])
  (he:∀x∈xs,p x=true->We el (ρ++[.sh (enc x)]) fun w ρ'=>Wk ρ' w fun d ρ''=>d=v x/\ρ''=ρ++[.sh (enc x)]):We (aW i 1 (bN k) t el) ρ Q:=by
 have hit:iS (eV i) ρ=some (xs.map enc,ρ):=by
  unfold iS eV;rw[hi];cases d with
  |lst ys=>cases hd;rfl
  |tup ys=>cases hd;rfl
  |_=>cases hd
 obtain⟨a,ρ',h1,h2⟩:=We.Comp enc xs p v (Q:=Q) q hit hk hk0 hl ht he;refine⟨a,ρ',?_,h2⟩;unfold aW;rw[hi];exact h1
theorem We.Na{α:Type}(enc:α->Dat)(xs:List α)(p:α->Bool)(v:α->Dat){i:Nat}{k:Nat}{t:FT}{el:FE}{ρ ρ1:Env}{Q:Val->Env->Prop}
  (q:Q (.new (.lst ((xs.filter p).map v))) ρ) (hi:ρ[i]?=some (.ow (.lst (xs.map enc)))) (h1:ρ.set i .un=ρ1) (hk:ρ.length=k) (hk0:k≠0) (hl:xs.length<=SZ)
  (ht:∀x∈xs,Wt t (ρ1++[.sh (enc x)]) fun c ρ'=>c=p x/\ρ'=ρ1++[.sh (enc x)])
  (he:∀x∈xs,p x=true->We el (ρ1++[.sh (enc x)]) fun w ρ'=>Wk ρ' w fun d ρ''=>d=v x/\ρ''=ρ1++[.sh (enc x)]):We (aW i 1 (bN k) t el) ρ Q:=by
 have hlen:ρ1.length=ρ.length:=by rw[<- h1,List.length_set]
 have hil:i<ρ.length:=(List.getElem?_eq_some_iff.mp hi).1;have bd:∀(d:Dat) (c:Cell),bN k d (ρ1++[c])=some (ρ1++[.sh d]):=fun d c=>by unfold bN;rw[if_neg hk0,List.set_append_right _ _ (by omega)];simp[hk,hlen]
 obtain⟨c',e⟩:=xR enc p v (bN k) t el (fun c=>ρ1++[c]) bd xs .un [] (fun x hx=>Wt.get (ht x hx)) he;refine⟨_,_,?_,q⟩;unfold aW;rw[hi];dsimp only;rw[if_pos (by rw[List.length_map];exact hl),h1];show (match dm _ _ _ _ (ρ1++[.un]) [] with | none=>none | some (ys,ρ2)=>some (Val.new (.lst ys),(ρ2.take ρ.length).set i (.ow (.lst (xs.map enc)))))=_;rw[e];dsimp only;rw[List.nil_append,<- hlen,List.take_left,<- h1,List.set_set]
 congr 2
 apply List.ext_getElem?;intro j;by_cases h:i=j
 ·subst h;rw[List.getElem?_set_self hil,hi]
 ·rw[List.getElem?_set_ne h]
theorem We.Map{α β:Type}(enc:α->Dat)(xs:List α)(f:α->β)(eE:β->Dat){it:FI}{k:Nat}{el:FE}{ρ ρ1:Env}{Q:Val->Env->Prop}
  (q:Q (.new (.lst ((xs.map f).map eE))) ρ1) (hit:it ρ=some (xs.map enc,ρ1)) (hk:ρ1.length=k) (hk0:k≠0) (hl:xs.length<=SZ)
  (he:∀x∈xs,We el (ρ1++[.sh (enc x)]) fun w ρ'=>Wk ρ' w fun d ρ''=>d=eE (f x)/\ρ''=ρ1++[.sh (enc x)]):We (bV it 1 (bN k) b7 el) ρ Q:=
 We.Comp enc xs (fun _=>true) (fun x=>eE (f x)) (by rw[List.filter_eq_self.mpr (fun _ _=>rfl)];rw[List.map_map]at q;exact q) hit hk hk0 hl (fun _ _=>Wt.T ⟨rfl,rfl⟩) fun x hx _=>he x hx
theorem We.zH{α β:Type}(enc:α->Dat)(xs:List α)(f:α->β)(eE:β->Dat){i:Nat}{k:Nat}{el:FE}{ρ:Env}{Q:Val->Env->Prop}{d:Dat}
  (q:Q (.new (.lst ((xs.map f).map eE))) ρ) (hi:ρ[i]?=some (.sh d)) (hd:BP d=some (xs.map enc)) (hk:ρ.length=k) (hk0:k≠0) (hl:xs.length<=SZ)
  (he:∀x∈xs,We el (ρ++[.sh (enc x)]) fun w ρ'=>Wk ρ' w fun d ρ''=>d=eE (f x)/\ρ''=ρ++[.sh (enc x)]):We (aW i 1 (bN k) b7 el) ρ Q:=
 We.Hu enc xs (fun _=>true) (fun x=>eE (f x)) (by rw[List.filter_eq_self.mpr (fun _ _=>rfl)];rw[List.map_map]at q;exact q) hi hd hk hk0 hl (fun _ _=>Wt.T ⟨rfl,rfl⟩) fun x hx _=>he x hx
theorem We.Pe{α β:Type}(enc:α->Dat)(xs:List α)(f:α->β)(eE:β->Dat){i:Nat}{k:Nat}{el:FE}{ρ ρ1:Env}{Q:Val->Env->Prop}
  (q:Q (.new (.lst ((xs.map f).map eE))) ρ) (hi:ρ[i]?=some (.ow (.lst (xs.map enc)))) (h1:ρ.set i .un=ρ1) (hk:ρ.length=k) (hk0:k≠0) (hl:xs.length<=SZ)
  (he:∀x∈xs,We el (ρ1++[.sh (enc x)]) fun w ρ'=>Wk ρ' w fun d ρ''=>d=eE (f x)/\ρ''=ρ1++[.sh (enc x)]):We (aW i 1 (bN k) b7 el) ρ Q:=
 We.Na enc xs (fun _=>true) (fun x=>eE (f x)) (by rw[List.filter_eq_self.mpr (fun _ _=>rfl)];rw[List.map_map]at q;exact q) hi h1 hk hk0 hl (fun _ _=>Wt.T ⟨rfl,rfl⟩) fun x hx _=>he x hx
theorem We.Nb{α β:Type}(enc:α->Dat)(xs:List α)(p:α->Bool)(f:α->β)(eE:β->Dat){i:Nat}{k:Nat}{t:FT}{el:FE}{ρ:Env}{Q:Val->Env->Prop}{d:Dat}
  (q:Q (.new (.lst (((xs.filter p).map f).map eE))) ρ) (hi:ρ[i]?=some (.sh d)) (hd:BP d=some (xs.map enc)) (hk:ρ.length=k) (hk0:k≠0) (hl:xs.length<=SZ)
  (ht:∀x∈xs,Wt t (ρ++[.sh (enc x)]) fun c ρ'=>c=p x/\ρ'=ρ++[.sh (enc x)])
  (he:∀x∈xs,p x=true->We el (ρ++[.sh (enc x)]) fun w ρ'=>Wk ρ' w fun d ρ''=>d=eE (f x)/\ρ''=ρ++[.sh (enc x)]):We (aW i 1 (bN k) t el) ρ Q:=
 We.Hu enc xs p (fun x=>eE (f x)) (by rw[List.map_map]at q;exact q) hi hd hk hk0 hl ht he
theorem xS(i j:Int):gEq (.int i) (.int j)=vB (decide (i=j)):=by
 have:(i == j)=decide (i=j):=by by_cases h:i=j<;>simp[h]
 show vB (i == j)=_;rw[this]
theorem kY(i j:Int):gNe (.int i) (.int j)=vB (!decide (i=j)):=by
 have:(i == j)=decide (i=j):=by by_cases h:i=j<;>simp[h]
 show vB (!(i == j))=_;rw[this]
theorem Wg2.eq{i j:Int}{o p:Option Dat}{K:RV->Prop}(k:K (.val (.bl (decide (i=j)))))(ho:o=some (.int i))(hp:p=some (.int j)):Wg2 gEq o p K:=⟨_,_,_,ho,hp,xS i j,k⟩
theorem Wg2.ne{i j:Int}{o p:Option Dat}{K:RV->Prop}(k:K (.val (.bl (!decide (i=j)))))(ho:o=some (.int i))(hp:p=some (.int j)):Wg2 gNe o p K:=⟨_,_,_,ho,hp,kY i j,k⟩
theorem Wg2.lt{i j:Int}{o p:Option Dat}{K:RV->Prop}(k:K (.val (.bl (decide (i<j)))))(ho:o=some (.int i))(hp:p=some (.int j)):Wg2 gLt o p K:=⟨_,_,_,ho,hp,rfl,k⟩
theorem Wg2.le{i j:Int}{o p:Option Dat}{K:RV->Prop}(k:K (.val (.bl (decide (i<=j)))))(ho:o=some (.int i))(hp:p=some (.int j)):Wg2 gLe o p K:=⟨_,_,_,ho,hp,rfl,k⟩
theorem Wg2.gt{i j:Int}{o p:Option Dat}{K:RV->Prop}(k:K (.val (.bl (decide (j<i)))))(ho:o=some (.int i))(hp:p=some (.int j)):Wg2 gGt o p K:=⟨_,_,_,ho,hp,rfl,k⟩
theorem Wg2.ge{i j:Int}{o p:Option Dat}{K:RV->Prop}(k:K (.val (.bl (decide (j<=i)))))(ho:o=some (.int i))(hp:p=some (.int j)):Wg2 gGe o p K:=⟨_,_,_,ho,hp,rfl,k⟩
theorem Wg2.add{i j:Int}{o p:Option Dat}{K:RV->Prop}(k:K (.val (.int (i+j))))(ho:o=some (.int i))(hp:p=some (.int j)):Wg2 bG o p K:=⟨_,_,_,ho,hp,rfl,k⟩
theorem Wg2.Nc{xs ys:List Dat}{o p:Option Dat}{K:RV->Prop}(k:K (.new (.lst (xs++ys))))(ho:o=some (.lst xs))(hp:p=some (.lst ys))(h:xs.length+ys.length<=SZ):Wg2 bG o p K:=⟨_,_,_,ho,hp,by unfold bG;dsimp only;rw[if_pos h],k⟩
theorem Wg2.sub{i j:Int}{o p:Option Dat}{K:RV->Prop}(k:K (.val (.int (i-j))))(ho:o=some (.int i))(hp:p=some (.int j)):Wg2 iU o p K:=⟨_,_,_,ho,hp,rfl,k⟩
theorem Wg2.mul{i j:Int}{o p:Option Dat}{K:RV->Prop}(k:K (.val (.int (i*j))))(ho:o=some (.int i))(hp:p=some (.int j))(h:(-B64<i/\i<B64)\/(-B64<j/\j<B64)):Wg2 gb o p K:=⟨_,_,_,ho,hp,by unfold gb;dsimp only;rw[if_pos h],k⟩
theorem Wg2.div{i j:Int}{o p:Option Dat}{K:RV->Prop}(k:K (.val (.int (i / j))))(ho:o=some (.int i))(hp:p=some (.int j))(h:0<j/\j<fq):Wg2 u7 o p K:=⟨_,_,_,ho,hp,by unfold u7;dsimp only;rw[if_pos h],k⟩
theorem Wg2.mod{i j:Int}{o p:Option Dat}{K:RV->Prop}(k:K (.val (.int (i % j))))(ho:o=some (.int i))(hp:p=some (.int j))(h:0<j):Wg2 gf o p K:=⟨_,_,_,ho,hp,by unfold gf;dsimp only;rw[if_pos h],k⟩
theorem Wg2.pow{i j z:Int}{o p:Option Dat}{K:RV->Prop}(k:K (.val (.int z)))(ho:o=some (.int i))(hp:p=some (.int j))(h:0<=j/\j<=1000000/\i.natAbs<1000000)(hz:i ^ j.toNat=z):Wg2 gw o p K:=⟨_,_,_,ho,hp,by unfold gw;dsimp only;rw[if_pos h,hz],k⟩
theorem Wg2.ix{d e:Dat}{v:Dat}{o p:Option Dat}{K:RV->Prop}(k:K (.val v))(ho:o=some d)(hp:p=some e)(h:gIx d e=some (.val v)):Wg2 gIx o p K:=⟨_,_,_,ho,hp,h,k⟩
theorem kZ{α:Type}(enc:α->Dat)(xs:List α)(i:Int)(h0:0<=i)(h1:i<xs.length):atI (xs.map enc) i=some (enc (xs[i.toNat]'(by omega))):=by unfold atI ixN;rw[List.length_map,if_pos h0,if_pos h1];show (xs.map enc)[i.toNat]?=_;rw[List.getElem?_map,List.getElem?_eq_getElem (by omega)];rfl
theorem Wg2.ixL{α:Type}{enc:α->Dat}{xs:List α}{i:Int}{o p:Option Dat}{K:RV->Prop}(h0:0<=i)(h1:i<xs.length)(k:K (.val (enc (xs[i.toNat]'(by omega)))))(ho:o=some (.lst (xs.map enc)))(hp:p=some (.int i)):Wg2 gIx o p K:=
 ⟨_,_,_,ho,hp,by unfold gIx;dsimp only;rw[kZ enc xs i h0 h1];rfl,k⟩
theorem xT(i:Int)(xs:List Int):inD (.int i) (xs.map Dat.int)=decide (i∈xs):=by
 induction xs with
 |nil=>rfl
 |cons x xs ih=>
  have ih':(xs.map Dat.int).any (fun y=>eqD y (.int i))=decide (i∈xs):=ih;unfold inD;rw[List.map_cons,List.any_cons,ih'];show ((x == i)||_)=_;by_cases h:x=i
  ·simp[h]
  ·have h':¬i=x:=fun z=>h z.symm
   simp[h,h']
theorem BR(xs:List Int):(xs.map Dat.int).all (okD 7)=true:=by rw[List.all_eq_true];intro d hd;obtain⟨x,_,rfl⟩:=List.mem_map.mp hd;rfl
theorem Wg2.Pf{i:Int}{xs:List Int}{o p:Option Dat}{K:RV->Prop}(k:K (.val (.bl (!decide (i∈xs)))))(ho:o=some (.int i))(hp:p=some (.lst (xs.map Dat.int))):Wg2 jE o p K:=
 ⟨_,_,_,ho,hp,by unfold jE;dsimp only;rw[show okD 8 (.int i)=true from rfl,BR,xT];rfl,k⟩
theorem Wg2.inT{i:Int}{xs:List Int}{o p:Option Dat}{K:RV->Prop}(k:K (.val (.bl (decide (i∈xs)))))(ho:o=some (.int i))(hp:p=some (.tup (xs.map Dat.int))):Wg2 gIn o p K:=
 ⟨_,_,_,ho,hp,by unfold gIn;dsimp only;rw[show okD 8 (.int i)=true from rfl,BR,xT];rfl,k⟩
theorem Wg2.inP{i a b:Int}{o p:Option Dat}{K:RV->Prop}(k:K (.val (.bl (decide (i=a\/i=b)))))(ho:o=some (.int i))(hp:p=some (.tup [.int a,.int b])):Wg2 gIn o p K:=
 Wg2.inT (xs:=[a,b]) (by have:(i∈[a,b])=(i=a\/i=b):=(by simp);simp only[this];exact k) ho hp
theorem Wg2.din{i:Int}{ks:List Int}{vs:List Dat}{o p:Option Dat}{K:RV->Prop}(k:K (.val (.bl (bx ks vs i).isSome)))(ho:o=some (.int i))(hp:p=some (.dct ks vs)):Wg2 zp o p K:=⟨_,_,_,ho,hp,rfl,k⟩
theorem Wg2.Nd{i:Int}{ks:List Int}{vs:List Dat}{o p:Option Dat}{K:RV->Prop}(k:K (.val (.bl (!(bx ks vs i).isSome))))(ho:o=some (.int i))(hp:p=some (.dct ks vs)):Wg2 o9 o p K:=⟨_,_,_,ho,hp,rfl,k⟩
theorem Wg2.dx{i:Int}{ks:List Int}{vs:List Dat}{d:Dat}{o p:Option Dat}{K:RV->Prop}(h:bx ks vs i=some d)(k:K (.val d))(ho:o=some (.dct ks vs))(hp:p=some (.int i)):Wg2 gDx o p K:=⟨_,_,_,ho,hp,by unfold gDx;dsimp only;rw[h];rfl,k⟩
theorem WB.len{xs:List Dat}{o:Option (List Dat)}{K:RV->Prop}(k:K (.val (.int xs.length)))(ho:o=some [.lst xs]):WB fu o K:=⟨_,_,ho,rfl,k⟩
theorem WB.Nf{xs:List Dat}{o:Option (List Dat)}{K:RV->Prop}(k:K (.val (.int xs.length)))(ho:o=some [.tup xs]):WB fu o K:=⟨_,_,ho,rfl,k⟩
theorem WB.min2{i j:Int}{o:Option (List Dat)}{K:RV->Prop}(k:K (.val (.int (if j<i then j else i))))(ho:o=some [.int i,.int j]):WB iZ o K:=⟨_,_,ho,rfl,k⟩
theorem WB.max2{i j:Int}{o:Option (List Dat)}{K:RV->Prop}(k:K (.val (.int (if j>i then j else i))))(ho:o=some [.int i,.int j]):WB j5 o K:=⟨_,_,ho,rfl,k⟩
theorem WB.list{xs:List Dat}{o:Option (List Dat)}{K:RV->Prop}(k:K (.new (.lst xs)))(ho:o=some [.lst xs]):WB j7 o K:=⟨_,_,ho,rfl,k⟩
theorem WB.int{b:Bool}{o:Option (List Dat)}{K:RV->Prop}(k:K (.val (.int (b2i b))))(ho:o=some [.bl b]):WB zc o K:=⟨_,_,ho,rfl,k⟩
theorem Wg1.mk{g:Dat->Option RV}{d:Dat}{v:RV}{o:Option Dat}{K:RV->Prop}(k:K v)(ho:o=some d)(h:g d=some v):Wg1 g o K:=⟨_,_,ho,h,k⟩
theorem jo{xs:List Dat}{Q:List Dat->Prop}(q:Q xs):∃ds,BP (.lst xs)=some ds/\Q ds:=⟨_,rfl,q⟩
theorem ndT{p:Prop}[Decidable p](h:(!decide p)=true):¬p:=by intro z;rw[decide_eq_true z]at h;cases h
theorem ndF{p:Prop}[Decidable p](h:(!decide p)=false):p:=Decidable.byContradiction fun z=>by rw[decide_eq_false z]at h;cases h
theorem Ng{α:Type}(enc:α->Dat)(xs:List α)(h:∀x,okD 7 (enc x)=true):okD 8 (.lst (xs.map enc))=true:=by unfold okD;rw[List.all_eq_true];intro d hd;obtain⟨x,_,rfl⟩:=List.mem_map.mp hd;exact h x
theorem Wg2.Nh{xs ys:List Int}{o p:Option Dat}{K:RV->Prop}(k:K (.new (.lst ((xs++ys).map Dat.int))))(ho:o=some (.lst (xs.map Dat.int)))(hp:p=some (.lst (ys.map Dat.int)))(h:xs.length+ys.length<=SZ):Wg2 bG o p K:=⟨_,_,_,ho,hp,by unfold bG;dsimp only;rw[List.length_map,List.length_map,if_pos h,List.map_append],k⟩
theorem Wg2.Ni{xs:List Int}{y:Int}{o p:Option Dat}{K:RV->Prop}(k:K (.new (.lst ((xs++[y]).map Dat.int))))(ho:o=some (.lst (xs.map Dat.int)))(hp:p=some (.lst [.int y]))(h:xs.length+1<=SZ):Wg2 bG o p K:=Wg2.Nh (ys:=[y]) k ho hp h
theorem WB.FG{α:Type}{enc:α->Dat}{xs:List α}{o:Option (List Dat)}{K:RV->Prop}(k:K (.val (.int xs.length)))(ho:o=some [.lst (xs.map enc)]):WB fu o K:=⟨_,_,ho,by unfold fu;dsimp only;rw[List.length_map],k⟩
theorem Wg1.Kl{α:Type}{enc:α->Dat}{xs:List α}{o:Option Dat}{K:RV->Prop}(k:K (.new (.lst (xs.reverse.map enc))))(ho:o=some (.lst (xs.map enc))):Wg1 zb o K:=⟨_,_,ho,rfl,by show K (.new (.lst (xs.map enc).reverse));rw[<- List.map_reverse];exact k⟩
theorem Ws.mono{s:FS}{ρ:Env}{N N':Env->Prop}{R:RV->Env->Prop}{B C:Env->Prop}(h:Ws s ρ N' R B C)(k:∀ρ',N' ρ'->N ρ'):Ws s ρ N R B C:=by
 obtain⟨o,h1,h2⟩:=h;cases o with
 |nx ρ1=>exact⟨.nx ρ1,h1,k _ h2⟩
 |ret r ρ1=>exact⟨.ret r ρ1,h1,h2⟩
 |bk ρ1=>exact⟨.bk ρ1,h1,h2⟩
 |ct ρ1=>exact⟨.ct ρ1,h1,h2⟩
theorem vP{ρ:Env}{i:Nat}{d:Dat}{W:Prop}(h:ρ[i]?=some (.ow d))(w:W):(∃d0,ρ[i]?=some (.ow d0))/\W:=⟨⟨d,h⟩,w⟩
theorem We.Dn{ρ:Env}{Q:Val->Env->Prop}(q:Q (.new (.dct [] [])) ρ):We eDn ρ Q:=⟨_,_,rfl,q⟩
theorem We.D1{a b:FE}{ρ:Env}{Q:Val->Env->Prop}(h:We a ρ fun v ρ1=>b5 v fun i=>We b ρ1 fun x ρ2=>Wk ρ2 x fun d ρ3=>Q (.new (.dct [i] [d])) ρ3):We (eD1 a b) ρ Q:=by obtain⟨v,ρ1,h1,i,rfl,x,ρ2,h2,d,ρ3,h3,q⟩:=h;exact⟨_,_,by unfold eD1;rw[h1];dsimp only;rw[h2];dsimp only;rw[h3],q⟩
theorem aV{bd:FB}{d:Dat}{ρ ρ1 ρ2:Env}{W:Env->Prop}(h:bd d ρ=some ρ1)(hn:ρ1=ρ2)(w:W ρ2):∃ρ1,bd d ρ=some ρ1/\W ρ1:=⟨ρ1,h,hn▸w⟩
theorem BS{α:Type}(enc:α->Dat)(p:α->Bool)(v:α->Dat)(bd:FB)(t:FT)(el:FE)(e0:Env)(env:α->Env)(h0:∀x,bd (enc x) e0=some (env x))(h1:∀x y,bd (enc x) (env y)=some (env x)):∀(xs:List α) (acc:List Dat) (e:Env),(e=e0\/∃y,e=env y) ->
  (∀x∈xs,t (env x)=some (p x,env x))->(∀x∈xs,p x=true->We el (env x) fun w ρ'=>Wk ρ' w fun d ρ''=>d=v x/\ρ''=env x) ->
  ∃e',(e'=e0\/∃y,e'=env y)/\dm bd t el (xs.map enc) e acc=some (acc++(xs.filter p).map v,e')
 |[],acc,e,he,_,_=>⟨e,he,by simp[dm]⟩
 |x::xs,acc,e,he,ht,hel=>by
  have hb:bd (enc x) e=some (env x):=by
   rcases he with rfl | ⟨y,rfl⟩
   ·exact h0 x
   ·exact h1 x y
  rw[List.map_cons,dm,hb];dsimp only;rw[ht x List.mem_cons_self];have ht':=fun y hy=>ht y (List.mem_cons_of_mem _ hy)
  have he':=fun y hy=>hel y (List.mem_cons_of_mem _ hy)
  by_cases h:p x=true
  ·obtain⟨w,ρ',g1,d,ρ'',g2,rfl,rfl⟩:=hel x List.mem_cons_self h
   rw[h];dsimp only;rw[g1];dsimp only;rw[g2];obtain⟨e',q,z⟩:=BS enc p v bd t el e0 env h0 h1 xs (acc++[v x]) _ (.inr ⟨x,rfl⟩) ht' he';exact⟨e',q,by dsimp only;rw[z,List.filter_cons_of_pos h];simp⟩
  ·rw[Bool.not_eq_true]at h
   rw[h];obtain⟨e',q,z⟩:=BS enc p v bd t el e0 env h0 h1 xs acc _ (.inr ⟨x,rfl⟩) ht' he';exact⟨e',q,by dsimp only;rw[z,List.filter_cons_of_neg (by rw[h];decide)]⟩
theorem We.Hv{α β:Type}(enc:α->Dat)(xs:List α)(p:α->Bool)(f:α->β)(eE:β->Dat)(env:α->Env){it:FI}{own:Nat}{bd:FB}{t:FT}{el:FE}{ρ ρ1:Env}{Q:Val->Env->Prop}
  (q:Q (.new (.lst (((xs.filter p).map f).map eE))) ρ1) (hit:it ρ=some (xs.map enc,ρ1)) (h0:∀x,bd (enc x) (ρ1++List.replicate own .un)=some (env x)) (h1:∀x y,bd (enc x) (env y)=some (env x)) (h2:∀x,(env x).take ρ1.length=ρ1) (hl:xs.length<=SZ)
  (ht:∀x∈xs,Wt t (env x) fun c ρ'=>c=p x/\ρ'=env x)
  (he:∀x∈xs,p x=true->We el (env x) fun w ρ'=>Wk ρ' w fun d ρ''=>d=eE (f x)/\ρ''=env x):We (bV it own bd t el) ρ Q:=by
 obtain⟨e',q',e⟩:=BS enc p (fun x=>eE (f x)) bd t el _ env h0 h1 xs [] _ (.inl rfl) (fun x hx=>Wt.get (ht x hx)) he;refine⟨_,_,?_,q⟩;unfold bV;rw[hit];dsimp only;rw[if_pos (by rw[List.length_map];exact hl),e];dsimp only;rw[List.nil_append,List.map_map];have:e'.take ρ1.length=ρ1:=by
  rcases q' with rfl | ⟨y,rfl⟩
  ·exact List.take_left
  ·exact h2 y
 rw[this];rfl
theorem WB.tuple{xs:List Dat}{o:Option (List Dat)}{K:RV->Prop}(k:K (.val (.tup xs)))(ho:o=some [.lst xs]):WB lB o K:=⟨_,_,ho,rfl,k⟩
noncomputable def ltI(a b:Int):Bool:=decide (a<b)
theorem mh(ns:List Int):eU (ns.map Dat.int)=some ns:=by
 induction ns with
 |nil=>rfl
 |cons m ms ih=>rw[List.map_cons,eU,ih];rfl
theorem oH(ns:List Int):(cO ltI ns).Pairwise (fun a b=>ltI b a=false):=b_ (fun a b c h1 h2=>by simp[ltI]at *;omega) (fun a b h=>by simp[ltI]at *;omega) ns
theorem Ws.Ext{i:Nat}{e:FE}{ρ:Env}{N:Env->Prop}{R:RV->Env->Prop}{B C:Env->Prop}{ds0:List Dat}(h:We e ρ fun x ρ1=>∃es ds ρ3,pk ρ1 x=some (.lst es)/\ρ1[i]?=some (.ow (.lst ds))/\ρ1.set i (.ow (.lst (ds++es)))=ρ3/\N ρ3/\ds.length+es.length<=SZ)(h0:ρ[i]?=some (.ow (.lst ds0))):Ws (zx i e) ρ N R B C:=by obtain⟨x,ρ1,h1,es,ds,ρ3,h2,h3,h5,n,h4⟩:=h;exact⟨.nx _,by unfold zx;rw[h0];dsimp only;rw[h1];dsimp only;rw[h2];dsimp only;rw[h3];dsimp only;rw[if_pos h4,h5],n⟩
theorem Ws.wh{t:FT}{body:FS}{N:Env->Prop}{R:RV->Env->Prop}{B C:Env->Prop}(I:Nat->Env->Prop)
  (hs:∀k ρ,I k ρ->Wt t ρ fun c ρ1=>Wif c (Ws body ρ1 (fun ρ2=>∃k',k'<k/\I k' ρ2) R N (fun ρ2=>∃k',k'<k/\I k' ρ2)) (N ρ1)):∀(n k:Nat) (ρ:Env),k<n->I k ρ->Ws (whD t body n) ρ N R B C
 |0,k,_,h,_=>absurd h (Nat.not_lt_zero k)
 |n+1,k,ρ,h,i=>by
  obtain⟨c,ρ1,h1,h2,h3⟩:=hs k ρ i;cases c with
  |false=>exact⟨.nx _,by rw[whD,h1],h3 rfl⟩
  |true=>
   obtain⟨o,h4,h5⟩:=h2 rfl;cases o with
   |nx ρ2=>obtain⟨k',hk,i'⟩:=h5;obtain⟨o,h6,h7⟩:=Ws.wh (N:=N) (R:=R) (B:=B) (C:=C) I hs n k' ρ2 (by omega) i';exact⟨o,by rw[whD,h1];dsimp only;rw[h4];exact h6,h7⟩
   |ct ρ2=>obtain⟨k',hk,i'⟩:=h5;obtain⟨o,h6,h7⟩:=Ws.wh (N:=N) (R:=R) (B:=B) (C:=C) I hs n k' ρ2 (by omega) i';exact⟨o,by rw[whD,h1];dsimp only;rw[h4];exact h6,h7⟩
   |bk ρ2=>exact⟨.nx _,by rw[whD,h1];dsimp only;rw[h4],h5⟩
   |ret r ρ2=>exact⟨.ret _ _,by rw[whD,h1];dsimp only;rw[h4],h5⟩
theorem zI{α:Type}(p:α->Bool)(xs:List α):bools (xs.map fun x=>Dat.bl (p x))=some (xs.map p):=by
 induction xs with
 |nil=>rfl
 |cons x xs ih=>rw[List.map_cons,bools,ih];rfl
theorem WB.all{α:Type}(p:α->Bool){xs:List α}{o:Option (List Dat)}{K:RV->Prop}(k:K (.val (.bl (xs.all p))))(ho:o=some [.lst (xs.map fun x=>Dat.bl (p x))]):WB rQ o K:=⟨_,_,ho,by
 unfold rQ;dsimp only;rw[zI];have:(xs.map p).all id=xs.all p:=by rw[List.all_map];rfl
 dsimp only;rw[this],k⟩
theorem We.Nj{a b:FE}{ρ:Env}{Q:Val->Env->Prop}(h:We a ρ fun x ρ1=>(∃ks vs,pk ρ1 x=some (.dct ks vs))/\We b ρ1 fun y ρ2=>∃ks vs i,pk ρ2 x=some (.dct ks vs)/\pk ρ2 y=some (.int i)/\Q (.val ((bx ks vs i).getD .non)) ρ2):We (ji a b) ρ Q:=by obtain⟨x,ρ1,h1,⟨ks,vs,h2⟩,y,ρ2,h3,ks',vs',i,h4,h5,q⟩:=h;exact⟨_,_,by unfold ji;rw[h1];dsimp only;rw[h2];dsimp only;rw[h3];dsimp only;rw[h4];dsimp only;rw[h5],q⟩
theorem We.Pop{i:Nat}{ρ ρ2:Env}{ds:List Dat}{d:Dat}{Q:Val->Env->Prop}(q:Q (.val d) ρ2)(h:ρ[i]?=some (.ow (.lst (ds++[d]))))(hs:ρ.set i (.ow (.lst ds))=ρ2):We (zq i) ρ Q:=⟨_,_,by
 unfold zq;rw[h];dsimp only;have e1:(ds++[d]).length-1=ds.length:=by simp
 have e2:(ds++[d])[ds.length]?=some d:=by simp
 have e3:(ds++[d]).take ds.length=ds:=List.take_left;rw[e1,e2];dsimp only;rw[e3,hs],q⟩
theorem Wg2.Pg{d:Dat}{o p:Option Dat}{K:RV->Prop}(k:K (.val (.bl (!isN d))))(ho:o=some d)(hp:p=some .non):Wg2 sr o p K:=⟨_,_,_,ho,hp,by cases d<;>rfl,k⟩
theorem Wg2.isN{d:Dat}{o p:Option Dat}{K:RV->Prop}(k:K (.val (.bl (Dm.isN d))))(ho:o=some d)(hp:p=some .non):Wg2 qC o p K:=⟨_,_,_,ho,hp,by cases d<;>rfl,k⟩
theorem WB.FH{j:Int}{o:Option (List Dat)}{K:RV->Prop}(k:K (.new (.lst (ups 0 j.toNat))))(ho:o=some [.int j])(h:j<=1000000/\-1000000<=j):WB jf o K:=⟨_,_,ho,by unfold jf;dsimp only;rw[if_pos h],k⟩
theorem Ws.cut{s u:FS}{ρ:Env}{N:Env->Prop}{R:RV->Env->Prop}{B C:Env->Prop}(J:Env->Prop)(h1:Ws s ρ J R B C)(h2:∀ρ',J ρ'->Ws u ρ' N R B C):Ws (ao s u) ρ N R B C:=Ws.seq (Ws.mono h1 h2)
noncomputable def WrM(o:Option (RV×Dat))(P:RV->Dat->Prop):Prop:=∃z d,o=some (z,d)/\P z d
theorem WrM.fn{n m:Nat}{body:FS}{d:Dat}{r:List Dat}{ρ:Env}{P:RV->Dat->Prop}(b:Ws body ρ (fun ρ'=>∃d',ρ'[0]?=some (.ow d')/\P (.val .non) d') (fun z ρ'=>∃d',ρ'[0]?=some (.ow d')/\P z d') (fun _=>False) (fun _=>False))(hρ:Cell.ow d::(r.map Cell.sh++List.replicate m .un)=ρ)(h:(d::r).length=n):WrM (fnM n m body (d::r)) P:=by
 obtain⟨o,h1,h2⟩:=b;cases o with
 |nx ρ1=>obtain⟨d',h3,h4⟩:=h2;exact⟨_,_,by unfold fnM;rw[if_pos h];dsimp only;rw[hρ,h1];dsimp only;rw[h3],h4⟩
 |ret z ρ1=>obtain⟨d',h3,h4⟩:=h2;exact⟨_,_,by unfold fnM;rw[if_pos h];dsimp only;rw[hρ,h1];dsimp only;rw[h3],h4⟩
 |bk ρ1=>exact h2.elim
 |ct ρ1=>exact h2.elim
noncomputable def WFm(f:List Dat->Option (RV×Dat))(j:Nat)(ρ1:Env)(xs:List Val)(Q:Val->Env->Prop):Prop:=
 ∃d1 ds ρ2 d v d',ρ1[j]?=some (.ow d1)/\tks ρ1 xs=some (ds,ρ2)/\ρ2[j]?=some (.ow d)/\f (d::ds)=some (v,d')/\(if (flat v.dat&&vp d')=true then Q v.bD (ρ1.set j (.ow d')) else Q v.bD (ρ2.set j (.ow d')))
theorem We.Fm{f:List Dat->Option (RV×Dat)}{j:Nat}{as:List FE}{ρ:Env}{d0:Dat}{Q:Val->Env->Prop}(h:Was as ρ fun xs ρ1=>WFm f j ρ1 xs Q)(h0:ρ[j]?=some (.ow d0)):We (eFm f j as) ρ Q:=by
 obtain⟨xs,ρ1,h1,d1,ds,ρ2,d,v,d',h2,h3,h4,h5,q⟩:=h;by_cases c:(flat v.dat&&vp d')=true
 ·rw[if_pos c]at q
  exact⟨_,_,by unfold eFm;rw[h0];dsimp only;rw[h1];dsimp only;rw[h2];dsimp only;rw[h3];dsimp only;rw[h4];dsimp only;rw[h5];dsimp only;rw[if_pos c],q⟩
 ·rw[if_neg c]at q
  exact⟨_,_,by unfold eFm;rw[h0];dsimp only;rw[h1];dsimp only;rw[h2];dsimp only;rw[h3];dsimp only;rw[h4];dsimp only;rw[h5];dsimp only;rw[if_neg c],q⟩
theorem WFm.any{f:List Dat->Option (RV×Dat)}{j:Nat}{ρ1 ρ3:Env}{xs:List Val}{d d':Dat}{ds:List Dat}{v:RV}{Q:Val->Env->Prop}(h5:f (d::ds)=some (v,d'))(q:Q v.bD ρ3)(h2:ρ1[j]?=some (.ow d))(h3:tks ρ1 xs=some (ds,ρ1))(hn:ρ1.set j (.ow d')=ρ3):WFm f j ρ1 xs Q:=
 ⟨_,_,_,_,_,_,h2,h3,h2,h5,by rw[hn];split<;>exact q⟩
theorem We.Fd{f:List Dat->Option RV}{as:List FE}{ρ:Env}{Q:Val->Env->Prop}(h:Was as ρ fun xs ρ1=>∃ds ρ2 v,vH ρ1 xs=some (ds,ρ2)/\f ds=some v/\bK v.dat=true/\Q v.bD ρ2):We (eFd f as) ρ Q:=by obtain⟨xs,ρ1,h1,ds,ρ2,v,h2,h3,h4,q⟩:=h;exact⟨_,_,by unfold eFd;rw[h1];dsimp only;rw[h2];dsimp only;rw[h3];dsimp only;rw[if_pos h4],q⟩
theorem jP:∀(xs:List Dat),(∀x∈xs,bK x=true)->fM xs=true
 |[],_=>by unfold fM;rfl
 |x::xs,h=>by unfold fM;rw[h x List.mem_cons_self,jP xs fun y hy=>h y (List.mem_cons_of_mem _ hy)];rfl
theorem f7{α:Type}(enc:α->Dat)(xs:List α)(h:∀x,bK (enc x)=true):bK (.lst (xs.map enc))=true:=by unfold bK;exact jP _ fun d hd=>by obtain⟨x,_,rfl⟩:=List.mem_map.mp hd;exact h x
theorem pH(i:Int):bK (.int i)=true:=by unfold bK;rfl
theorem vQ(xs:List Int):bK (.lst (xs.map Dat.int))=true:=f7 _ _ pH
theorem WB.dict{ks:List Int}{vs:List Dat}{o:Option (List Dat)}{K:RV->Prop}(k:K (.new (.dct ks vs)))(ho:o=some [.dct ks vs]):WB su o K:=⟨_,_,ho,rfl,k⟩
theorem WB.Nk{ks:List Int}{vs:List Dat}{o:Option (List Dat)}{K:RV->Prop}(k:K (.new (.lst ((cO ltI ks).map Dat.int))))(ho:o=some [.dct ks vs])(h:ks.length<=63):WB jN o K:=⟨_,_,ho,by unfold jN;dsimp only;rw[if_pos h];rfl,k⟩
theorem We.Nl{i:Nat}{e:FE}{ρ ρ2:Env}{k:Int}{ks:List Int}{vs:List Dat}{d:Dat}{Q:Val->Env->Prop}(hl:bx ks vs k=some d)(q:Q (.val d) ρ2)(h:ρ[i]?=some (.ow (.dct ks vs)))(he:e ρ=some (.val (.int k),ρ))(hs:ρ.set i (.ow (.dct (d_ ks vs k) (ee ks vs k)))=ρ2):We (l8 i e) ρ Q:=⟨_,_,by unfold l8;rw[h];dsimp only;rw[he];dsimp only;rw[h];dsimp only;rw[hl];dsimp only;rw[hs],q⟩
theorem Wi.get{it:FI}{ρ ρ1:Env}{ds:List Dat}(h:Wi it ρ fun x y=>x=ds/\y=ρ1):it ρ=some (ds,ρ1):=by obtain⟨_,_,h1,rfl,rfl⟩:=h;exact h1
theorem Wi.Rs{a b c:FE}{ρ:Env}{i j k:Int}{Q:List Dat->Env->Prop}(ha:a ρ=some (.val (.int i),ρ))(hb:b ρ=some (.val (.int j),ρ))(hc:c ρ=some (.val (.int k),ρ))(hk:(0<k/\k<=1000)/\j<=BIG/\-BIG<=j/\i<=BIG/\-BIG<=i)(q:Q (gy i k (cE i j k)) ρ):Wi (iRs a b c) ρ Q:=⟨_,_,by unfold iRs;rw[ha];dsimp only;rw[hb];dsimp only;rw[hc];dsimp only;rw[if_pos hk],q⟩
theorem We.get{e:FE}{ρ ρ':Env}{v:Val}(h:We e ρ fun x y=>x=v/\y=ρ'):e ρ=some (v,ρ'):=by obtain⟨_,_,h1,rfl,rfl⟩:=h;exact h1
theorem We.Fn{f:List Dat->Option (RV×Dat)}{e0:FE}{as:List FE}{ρ:Env}{Q:Val->Env->Prop}(h:Was (e0::as) ρ fun xs ρ1=>∃d ys ds v d',xs=.new d::ys/\jO ys=some ds/\f (d::ds)=some (v,d')/\Q v.bD ρ1):We (eFn f e0 as) ρ Q:=by obtain⟨xs,ρ1,h1,d,ys,ds,v,d',rfl,h2,h3,q⟩:=h;refine⟨_,_,?_,q⟩;unfold eFn;rw[h1];dsimp only;rw[h2];dsimp only;rw[h3]
section
variable{N:Env->Prop}{R:RV->Env->Prop}{B C:Env->Prop}{ρ:Env}{p:Dp}
end
section
variable{ρ:Env}{P:Dp->Prop}
end
section
variable{N:Env->Dp->Prop}{R:Dat->Env->Prop}{ρ ρ':Env}{p:Dp}
end
section
variable{N:Env->Prop}{R:RV->Env->Prop}{B C:Env->Prop}{ρ:Env}{p:Dp}
end
section
variable{N:Env->Dp->Prop}{R:Dat->Env->Prop}{ρ ρ':Env}{p:Dp}
end
section
variable{ρ:Env}{P:Dp->Prop}{Q:Dp->Env->Prop}
end
end Dm
namespace Fl
structure Tie where
 m:Int
 a:Int
 b:Int
deriving Inhabited
noncomputable def one(b:Bool):Int:=if b then 1 else 0
noncomputable def Ends(t:Tie)(p q:Int):Prop:=t.a≠t.b/\((t.a=p/\t.b=q)\/(t.b=p/\t.a=q))
theorem Ends.symm{t:Tie}{p q:Int}(h:Ends t p q):Ends t q p:=⟨h.1,h.2.symm.imp (fun x=>⟨x.2,x.1⟩) (fun x=>⟨x.2,x.1⟩)⟩
noncomputable abbrev Hd:=Int->Option Int
noncomputable def val(o:Option Int)(t:Tie)(S:Int->Bool):Int:=
 if t.a=t.b then 0 else if o=some t.b then one (S t.a)-one (S t.b) else if o=some t.a then one (S t.b)-one (S t.a) else 0
noncomputable def cP(r:List Tie)(H:Hd)(S:Int->Bool):Int:=match r with
 |[]=>0
 |t::r=>val (H t.m) t S+cP r H S
noncomputable def put(H:Hd)(m:Int)(o:Option Int):Hd:=fun x=>if x=m then o else H x
theorem zJ{r:List Tie}{H H':Hd}{S:Int->Bool}(h:∀t∈r,H t.m=H' t.m):cP r H S=cP r H' S:=by
 induction r with
 |nil=>rfl
 |cons t r ih=>rw[cP,cP,h t List.mem_cons_self,ih fun u hu=>h u (List.mem_cons_of_mem _ hu)]
theorem sI{r:List Tie}(nd:(r.map (·.m)).Nodup){t:Tie}(ht:t∈r)(H:Hd)(o:Option Int)(S:Int->Bool):cP r (put H t.m o) S=cP r H S-val (H t.m) t S+val o t S:=by
 induction r with
 |nil=>cases ht
 |cons u r ih=>
  rw[List.map_cons,List.nodup_cons]at nd;rcases List.mem_cons.mp ht with rfl | ht'
  ·rw[cP,cP]
   have e1:put H t.m o t.m=o:=by unfold put;rw[if_pos rfl]
   rw[e1,zJ (H:=put H t.m o) (H':=H) fun v hv=>?_]
   ·omega
   ·unfold put
    rw[if_neg fun e=>?_];exact nd.1 (List.mem_map.mpr ⟨v,hv,e⟩)
  ·have hne:u.m≠t.m:=fun e=>nd.1 (List.mem_map.mpr ⟨t,ht',e.symm⟩)
   rw[cP,cP,ih nd.2 ht'];have e1:put H t.m o u.m=H u.m:=by unfold put;rw[if_neg hne]
   rw[e1];omega
theorem f9{t:Tie}{p q:Int}(h:Ends t p q)(S:Int->Bool):val (some q) t S=one (S p)-one (S q):=by
 obtain⟨h1,h2⟩:=h;unfold val;rw[if_neg h1];rcases h2 with⟨rfl,rfl⟩ | ⟨rfl,rfl⟩
 ·rw[if_pos rfl]
 ·rw[if_neg (by intro e;injection e with e;exact h1 e),if_pos rfl]
theorem fO(t:Tie)(S:Int->Bool):val none t S=0:=by
 unfold val;split
 ·rfl
 ·simp
noncomputable def Ok(r:List Tie)(H:Hd):Prop:=∀t∈r,∀x,H t.m=some x->x=t.a\/x=t.b
noncomputable def fP(H:Hd)(m q:Int):Hd:=put H m (if (H m).isSome then none else some q)
theorem vR{r:List Tie}(nd:(r.map (·.m)).Nodup){H:Hd}(ok:Ok r H){t:Tie}(ht:t∈r){p q:Int}(he:Ends t p q)(hf:H t.m≠some q)(S:Int->Bool) :
  cP r (fP H t.m q) S=cP r H S+one (S p)-one (S q):=by
 unfold fP;rw[sI nd ht];cases e:H t.m with
 |none=>simp only[Option.isSome_none,Bool.false_eq_true,if_false];rw[fO,f9 he];omega
 |some x=>
  have hx:=ok t ht x e;have:x=p:=by
   rw[e]at hf;have hxq:x≠q:=fun z=>hf (by rw[z])
   obtain⟨_,h2⟩:=he;omega
  subst this;simp only[Option.isSome_some,if_true];rw[fO,f9 he.symm];omega
theorem uniq{r:List Tie}(nd:(r.map (·.m)).Nodup){u t:Tie}(hu:u∈r)(ht:t∈r)(e:u.m=t.m):u=t:=by
 induction r with
 |nil=>cases hu
 |cons v r ih=>
  rw[List.map_cons,List.nodup_cons]at nd;rcases List.mem_cons.mp hu with rfl | h1
  ·rcases List.mem_cons.mp ht with rfl | h2
   ·rfl
   ·exact absurd (List.mem_map.mpr ⟨t,h2,e.symm⟩) nd.1
  ·rcases List.mem_cons.mp ht with rfl | h2
   ·exact absurd (List.mem_map.mpr ⟨u,h1,e⟩) nd.1
   ·exact ih nd.2 h1 h2
theorem BU{r:List Tie}(nd:(r.map (·.m)).Nodup){H:Hd}(ok:Ok r H){t:Tie}(ht:t∈r){p q:Int}(he:Ends t p q):Ok r (fP H t.m q):=by
 intro u hu x hx;unfold fP put at hx;by_cases e:u.m=t.m
 ·rw[if_pos e]at hx
  have:u=t:=uniq nd hu ht e;subst this;split at hx
  ·cases hx
  ·injection hx with hx
   obtain⟨_,h2⟩:=he;omega
 ·rw[if_neg e]at hx
  exact ok u hu x hx
noncomputable abbrev Step:=Int×Int
noncomputable def Way(R:Int->Step->Prop):Int->List Step->Int->Prop
 |x,[],y=>x=y
 |x,s::w,y=>R x s/\Way R s.2 w y
theorem Way.snoc{R:Int->Step->Prop}:∀{w:List Step} {x y:Int} {s:Step},Way R x w y->R y s->Way R x (w++[s]) s.2
 |[],_,_,_,h,k=>by cases h;exact⟨k,rfl⟩
 |_::_,_,_,_,h,k=>⟨h.1,Way.snoc h.2 k⟩
theorem Way.mono{R R':Int->Step->Prop}(h:∀p s,R p s->R' p s):∀{w:List Step} {x y:Int},Way R x w y->Way R' x w y
 |[],_,_,k=>k
 |_::_,_,_,k=>⟨h _ _ k.1,Way.mono h k.2⟩
noncomputable def fQ(r:List Tie)(p:Int)(s:Step):Prop:=∃t∈r,t.m=s.1/\Ends t p s.2
noncomputable def mj(r:List Tie)(H:Hd)(p:Int)(s:Step):Prop:=fQ r p s/\H s.1≠some s.2
noncomputable def Led(r:List Tie)(H:Hd)(p:Int)(s:Step):Prop:=fQ r p s/\H s.1=some s.2
theorem jQ{r:List Tie}(nd:(r.map (·.m)).Nodup){R:Int->Step->Prop}(hR:∀p s,R p s->fQ r p s){x y:Int}{s:Step}{w:List Step}(h:Way R x (s::w) y)(hn:(x::(s::w).map (·.2)).Nodup):∀u∈w,u.1≠s.1:=by
 obtain⟨h1,h2⟩:=h;obtain⟨t,ht,hm,he⟩:=hR _ _ h1;have main:∀(w:List Step) (z:Int),Way R z w y->(∀u∈w,u.2≠x/\u.2≠s.2)->∀u∈w,u.1≠s.1:=fun w=>by
  induction w with
  |nil=>intro z _ _ u hu;cases hu
  |cons v w ih=>
   intro z hw hd u hu;rcases List.mem_cons.mp hu with rfl | hu
   ·intro e
    obtain⟨t',ht',hm',he'⟩:=hR _ _ hw.1;have:=uniq nd ht' ht (by rw[hm',e,hm]);subst this;obtain⟨d1,d2⟩:=hd u List.mem_cons_self;obtain⟨_,he⟩:=he;obtain⟨_,he'⟩:=he';omega
   ·exact ih v.2 hw.2 (fun u hu=>hd u (List.mem_cons_of_mem _ hu)) u hu
 rw[List.map_cons,List.nodup_cons,List.nodup_cons]at hn;refine main w s.2 h2 fun u hu=>⟨fun e=>hn.1 ?_,fun e=>hn.2.1 ?_⟩
 ·exact List.mem_cons_of_mem _ (List.mem_map.mpr ⟨u,hu,e⟩)
 ·exact List.mem_map.mpr ⟨u,hu,e⟩
theorem ki{r:List Tie}(nd:(r.map (·.m)).Nodup){R:Int->Step->Prop}(hR:∀p s,R p s->fQ r p s){y:Int}:∀{w:List Step} {x:Int},Way R x w y->(x::w.map (·.2)).Nodup->(w.map (·.1)).Nodup
 |[],_,_,_=>by simp
 |s::w,x,h,hn=>by rw[List.map_cons,List.nodup_cons];refine⟨fun e=>?_,ki nd hR h.2 (by rw[List.map_cons,List.nodup_cons]at hn;exact hn.2)⟩;obtain⟨u,hu,e⟩:=List.mem_map.mp e;exact jQ nd hR h hn u hu e
noncomputable def kj(H:Hd):List Step->Hd
 |[]=>H
 |s::w=>kj (fP H s.1 s.2) w
theorem sJ{H:Hd}{m q x:Int}(h:x≠m):fP H m q x=H x:=by unfold fP put;rw[if_neg h]
theorem gB{r:List Tie}(nd:(r.map (·.m)).Nodup)(S:Int->Bool):∀{w:List Step} {x y:Int} {H:Hd},Ok r H->Way (mj r H) x w y->(x::w.map (·.2)).Nodup ->
  Ok r (kj H w)/\cP r (kj H w) S=cP r H S+one (S x)-one (S y)
 |[],x,y,H,ok,h,_=>by cases h;exact⟨ok,by rw[kj];omega⟩
 |s::w,x,y,H,ok,h,hn=>by
  have hfr:=jQ nd (fun p s h=>h.1) h hn;obtain⟨⟨⟨t,ht,hm,he⟩,hf⟩,h2⟩:=h;have ok1:=BU nd ok ht he;have f1:=vR nd ok ht he (by rw[hm];exact hf) S;rw[hm]at ok1 f1;have h3:Way (mj r (fP H s.1 s.2)) s.2 w y:=by
   have main:∀(w:List Step) (z:Int),(∀u∈w,u.1≠s.1)->Way (mj r H) z w y->Way (mj r (fP H s.1 s.2)) z w y:=fun w=>by
    induction w with
    |nil=>intro _ _ h;exact h
    |cons u w ih=>intro z hu hw;exact⟨⟨hw.1.1,by rw[sJ (hu u List.mem_cons_self)];exact hw.1.2⟩,ih u.2 (fun v hv=>hu v (List.mem_cons_of_mem _ hv)) hw.2⟩
   exact main w s.2 hfr h2
  obtain⟨k1,k2⟩:=gB nd S ok1 h3 (by rw[List.map_cons,List.nodup_cons]at hn;exact hn.2);rw[kj];exact⟨k1,by rw[k2,f1];omega⟩
noncomputable def eZ(H:Hd):List Step->Hd
 |[]=>H
 |s::w=>eZ (put H s.1 none) w
theorem fR:∀{w:List Step} {H:Hd} {x:Int},(∀u∈w,u.1≠x)->eZ H w x=H x
 |[],_,_,_=>rfl
 |s::w,H,x,h=>by rw[eZ,fR fun u hu=>h u (List.mem_cons_of_mem _ hu)];unfold put;rw[if_neg fun e=>h s List.mem_cons_self e.symm]
theorem gC:∀{w:List Step} {H:Hd} {x:Int},x∈w.map (·.1)->eZ H w x=none
 |[],_,_,h=>by cases h
 |s::w,H,x,h=>by
  rw[eZ];by_cases e:x∈w.map (·.1)
  ·exact gC e
  ·rw[fR fun u hu z=>e (List.mem_map.mpr ⟨u,hu,z⟩)]
   rw[List.map_cons]at h;rcases List.mem_cons.mp h with rfl | h
   ·unfold put;rw[if_pos rfl]
   ·exact absurd h e
theorem gD{r:List Tie}(nd:(r.map (·.m)).Nodup)(S:Int->Bool):∀{w:List Step} {x y:Int} {H:Hd},Ok r H->Way (Led r H) x w y->(x::w.map (·.2)).Nodup ->
  Ok r (eZ H w)/\cP r (eZ H w) S=cP r H S-one (S x)+one (S y)
 |[],x,y,H,ok,h,_=>by cases h;exact⟨ok,by rw[eZ];omega⟩
 |s::w,x,y,H,ok,h,hn=>by
  have hfr:=jQ nd (fun p s h=>h.1) h hn;obtain⟨⟨⟨t,ht,hm,he⟩,hf⟩,h2⟩:=h;have ok1:Ok r (put H s.1 none):=fun u hu z hz=>by
   unfold put at hz;split at hz
   ·cases hz
   ·exact ok u hu z hz
  have f1:=sI nd ht H none S;rw[fO,hm,hf,f9 he]at f1;have h3:Way (Led r (put H s.1 none)) s.2 w y:=by
   have main:∀(w:List Step) (z:Int),(∀u∈w,u.1≠s.1)->Way (Led r H) z w y->Way (Led r (put H s.1 none)) z w y:=fun w=>by
    induction w with
    |nil=>intro _ _ h;exact h
    |cons u w ih=>intro z hu hw;exact⟨⟨hw.1.1,by unfold put;rw[if_neg (hu u List.mem_cons_self)];exact hw.1.2⟩,ih u.2 (fun v hv=>hu v (List.mem_cons_of_mem _ hv)) hw.2⟩
   exact main w s.2 hfr h2
  obtain⟨k1,k2⟩:=gD nd S ok1 h3 (by rw[List.map_cons,List.nodup_cons]at hn;exact hn.2);rw[eZ];exact⟨k1,by rw[k2,f1];omega⟩
noncomputable def over(S:Int->Bool)(t:Tie):Bool:=S t.a != S t.b
theorem BV{r:List Tie}{H:Hd}{S:Int->Bool}(hc:∀p s,S p=true->mj r H p s->S s.2=true):cP r H S=((r.filter (over S)).length:Nat):=by
 have main:∀(q:List Tie),(∀t∈q,t∈r)->cP q H S=((q.filter (over S)).length:Nat):=fun q=>by
  induction q with
  |nil=>intro _;rfl
  |cons t q ih=>
   intro hq;rw[cP,ih fun u hu=>hq u (List.mem_cons_of_mem _ hu)];by_cases ho:over S t=true
   ·rw[List.filter_cons_of_pos ho]
    have hne:t.a≠t.b:=fun e=>by unfold over at ho;rw[e]at ho;simp at ho
    have hv:val (H t.m) t S=1:=by
     unfold over at ho;cases ha:S t.a with
     |true=>
      have hb:S t.b=false:=by rw[ha]at ho;simpa using ho
      have he:Ends t t.a t.b:=⟨hne,.inl ⟨rfl,rfl⟩⟩
      have:H t.m=some t.b:=Decidable.byContradiction fun e=>by have:=hc t.a (t.m,t.b) ha ⟨⟨t,hq t List.mem_cons_self,rfl,he⟩,e⟩;rw[hb]at this;cases this
      rw[this,f9 he,ha,hb];rfl
     |false=>
      have hb:S t.b=true:=by rw[ha]at ho;simpa using ho
      have he:Ends t t.b t.a:=⟨hne,.inr ⟨rfl,rfl⟩⟩
      have:H t.m=some t.a:=Decidable.byContradiction fun e=>by have:=hc t.b (t.m,t.a) hb ⟨⟨t,hq t List.mem_cons_self,rfl,he⟩,e⟩;rw[ha]at this;cases this
      rw[this,f9 he,ha,hb];rfl
    rw[hv,List.length_cons];omega
   ·rw[List.filter_cons_of_neg ho]
    have hv:val (H t.m) t S=0:=by
     unfold over at ho;have:S t.a=S t.b:=by simpa using ho
     unfold val;rw[this];split
     ·rfl
     ·split
      ·omega
      ·split<;>omega
    rw[hv];omega
 exact main r fun _ h=>h
theorem BW{r:List Tie}{H:Hd}{S:Int->Bool}(ok:Ok r H)(hc:∀p s,S p=true->Led r H p s->S s.2=true):cP r H S<=0:=by
 have main:∀(q:List Tie),(∀t∈q,t∈r)->cP q H S<=0:=fun q=>by
  induction q with
  |nil=>intro _;exact Int.le_refl _
  |cons t q ih=>
   intro hq;rw[cP];have h1:=ih fun u hu=>hq u (List.mem_cons_of_mem _ hu)
   have hv:val (H t.m) t S<=0:=by
    by_cases hne:t.a=t.b
    ·unfold val;rw[if_pos hne];exact Int.le_refl _
    cases e:H t.m with
    |none=>rw[fO];exact Int.le_refl _
    |some x=>
     have key:∀p,Ends t p x->val (some x) t S<=0:=fun p he=>by
      rw[f9 he];cases hp:S p with
      |false=>cases S x<;>decide
      |true=>have:=hc p (t.m,x) hp ⟨⟨t,hq t List.mem_cons_self,rfl,he⟩,e⟩;rw[this];decide
     rcases ok t (hq t List.mem_cons_self) x e with rfl | rfl
     ·exact key t.b ⟨hne,.inr ⟨rfl,rfl⟩⟩
     ·exact key t.a ⟨hne,.inl ⟨rfl,rfl⟩⟩
   omega
 exact main r fun _ h=>h
structure Flow(r:List Tie)(H:Hd)(a b:Int)(k:Nat):Prop where
 ok:Ok r H
 eq:∀S,cP r H S=(k:Int)*(one (S a)-one (S b))
theorem Flow.zero(r:List Tie)(a b:Int):Flow r (fun _=>none) a b 0:=⟨fun _ _ _ h=>(by cases h),fun S=>by
 induction r with
 |nil=>simp[cP]
 |cons t r ih=>rw[cP,fO,ih];simp⟩
theorem Flow.more{r:List Tie}(nd:(r.map (·.m)).Nodup){H:Hd}{a b:Int}{k:Nat}(f:Flow r H a b k){w:List Step}(h:Way (mj r H) a w b)(hn:(a::w.map (·.2)).Nodup):Flow r (kj H w) a b (k+1):=
 ⟨(gB nd (fun _=>true) f.ok h hn).1,fun S=>by
  rw[(gB nd S f.ok h hn).2,f.eq S];have:((k+1:Nat):Int)=(k:Int)+1:=by omega
  rw[this,Int.add_mul];omega⟩
theorem Flow.less{r:List Tie}(nd:(r.map (·.m)).Nodup){H:Hd}{a b:Int}{k:Nat}(f:Flow r H a b (k+1)){w:List Step}(h:Way (Led r H) a w b)(hn:(a::w.map (·.2)).Nodup):Flow r (eZ H w) a b k:=
 ⟨(gD nd (fun _=>true) f.ok h hn).1,fun S=>by
  rw[(gD nd S f.ok h hn).2,f.eq S];have:((k+1:Nat):Int)=(k:Int)+1:=by omega
  rw[this,Int.add_mul];omega⟩
theorem Flow.cut{r:List Tie}{H:Hd}{a b:Int}{k:Nat}(f:Flow r H a b k){S:Int->Bool}(ha:S a=true)(hb:S b=false)(hc:∀p s,S p=true->mj r H p s->S s.2=true):(r.filter (over S)).length=k:=by have h1:=BV hc;rw[f.eq S,ha,hb]at h1;simp[one]at h1;omega
theorem Flow.reach{r:List Tie}{H:Hd}{a b:Int}{k:Nat}(f:Flow r H a b (k+1)){S:Int->Bool}(ha:S a=true)(hc:∀p s,S p=true->Led r H p s->S s.2=true):S b=true:=by
 cases hb:S b with
 |true=>rfl
 |false=>have h1:=BW f.ok hc;rw[f.eq S,ha,hb]at h1;simp[one]at h1;omega
end Fl
namespace Dm
section
variable{ρ:Env}{r:List (List Dat)}{Q:Env->List (List Dat)->Prop}
end
end Dm
namespace P
open Dm
noncomputable def FJ:List Dat->Option RV:=fn 1 0
  (sR (gv (e1 (kM isI) (eV 0)) (u5 (e1 (kM isB) (eV 0)))))
noncomputable def sL:List Dat->Option RV:=fn 3 0
  (sR (gv (eF FJ [(eV 0)]) (lC gLe gLe (eV 1) (eV 0) (eV 2))))
noncomputable def FL:List Dat->Option RV:=fn 1 0
  (sR (eF sL [(eV 0),(eC (.int 1)),(eC (.int 10))]))
noncomputable def vS:List Dat->Option RV:=fn 2 0
  (sR (eF sL [(eV 1),(eC (.int 0)),(e2 iU (eV 0) (eC (.int 1)))]))
noncomputable def vU:List Dat->Option RV:=fn 1 0
  (sR (eF sL [(eV 0),(eC (.int 1)),(eC (.int 6))]))
noncomputable def FP:List Dat->Option RV:=fn 1 0
  (sR (eF sL [(eV 0),(eC (.int 0)),(e2 gw (eC (.int 10)) (eC (.int 30)))]))
noncomputable def FQ:List Dat->Option RV:=fn 2 0
  (ao (sIf (tOr (cy (tV (e1 (kM isT) (eV 1)))) (tV (e2 gNe (eB fu [(eV 1)]) (eC (.int 3))))) (sR (eC (.bl false))) sNx)
  (sR (gv (eF FP [(e2 gIx (eV 1) (eC (.int 0)))]) (gv (eF vS [(eV 0),(e2 gIx (eV 1) (eC (.int 1)))]) (eF vS [(eV 0),(e2 gIx (eV 1) (eC (.int 2)))])))))
noncomputable def FU:List Dat->Option RV:=fn 2 0
  (sR (gv (eF FQ [(eV 0),(eV 1)]) (e2 gLe (e2 gIx (eV 1) (eC (.int 1))) (e2 gIx (eV 1) (eC (.int 2))))))
noncomputable def FW:List Dat->Option RV:=fn 1 0
  (sR (eB rQ [(bV (iR2 (eC (.int 1)) (eB fu [(eV 0)])) 1 (bN 1) b7 (e2 gLt (e2 gIx (eV 0) (e2 iU (eV 1) (eC (.int 1)))) (e2 gIx (eV 0) (eV 1))))]))
noncomputable def FY:List Dat->Option RV:=fn 3 0
  (sR (gv (eF vS [(eV 0),(eV 1)]) (gv (eF vS [(eV 0),(eV 2)]) (e2 gNe (eV 1) (eV 2)))))
noncomputable def xU:List Dat->Option RV:=fn 1 0
  (sIf (cy (tV (eF vU [(eV 0)]))) (fun _=>none) sNx)
noncomputable def xV:List Dat->Option RV:=fn 3 0
  (sIf (cy (tV (eF FY [(eV 0),(eV 1),(eV 2)]))) (fun _=>none) sNx)
noncomputable def xW:List Dat->Option RV:=fn 3 0
  (sR (aW 0 1 (bN 3) b7 (eIf (tV (e2 gEq (eV 3) (e2 gIx (eV 0) (eV 2)))) (e2 gIx (eV 0) (eV 1)) (eV 3))))
noncomputable def BX:FS:=
  (sIf (tV (e2 gNe (e2 gIx (eV 4) (eV 1)) (e2 gIx (eV 4) (eV 2)))) (sR (e2 bG (eV 3) (eC (.int 1)))) sNx)
noncomputable def sM:List Dat->Option RV:=fn 3 2
  (ao (cU (iEn (eV 0)) (bT [3,4])
  BX)
  (sR (eC (.int 0))))
noncomputable def BY:FS:=
  (ao (sA 8 (eF sM [(eV 3),(eV 6),(eV 7)]))
  (ao (sIf (tV (e2 gGt (eV 8) (eC (.int 0)))) (u6 3 (e2 iU (eV 8) (eC (.int 1))) (eF xW [(e2 gIx (eV 3) (e2 iU (eV 8) (eC (.int 1)))),(eV 6),(eV 7)])) sNx)
  (kL 4 (eV 8))))
noncomputable def pI:List Dat->Option RV:=fn 3 6
  (ao (sE (eF xU [(eV 2)]))
  (ao (sA 3 (bV (iR1 (eV 2)) 1 (bN 9) b7 (eB jf [(eV 0)])))
  (ao (sA 4 (cT []))
  (ao (cU (zm (eV 1)) (bT [5,6,7])
  BY)
  (sR (e1 lS (eV 4)))))))
noncomputable def xX:List Dat->Option RV:=fn 2 0
  (ao (sIf (tOr (cy (tV (eF FL [(eV 0)]))) (tOr (cy (tV (e1 (kM isL) (eV 1)))) (tV (e2 gGt (eB fu [(eV 1)]) (eC (.int 60)))))) (sR (eC (.bl false))) sNx)
  (ao (sIf (cy (tV (eB rQ [(aW 1 1 (bN 2) b7 (eF FU [(eV 0),(eV 2)]))]))) (sR (eC (.bl false))) sNx)
  (sR (eF FW [(aW 1 1 (bN 2) b7 (e2 gIx (eV 2) (eC (.int 0))))]))))
noncomputable def sN:List Dat->Option RV:=fn 2 0
  (sR (aW 0 1 (bN 2) (tV (e2 gGe (e2 gIx (eV 2) (eC (.int 0))) (eV 1))) (eV 2)))
noncomputable def xY:List Dat->Option RV:=fn 1 0
  (ao (sIf (tOr (cy (tV (e1 (kM isT) (eV 0)))) (tV (e2 gNe (eB fu [(eV 0)]) (eC (.int 3))))) (sR (eC (.bl false))) sNx)
  (ao (sIf (tOr (cy (tV (eF vU [(e2 gIx (eV 0) (eC (.int 1)))]))) (cy (tV (eF xX [(e2 gIx (eV 0) (eC (.int 0))),(e2 gIx (eV 0) (eC (.int 2)))])))) (sR (eC (.bl false))) sNx)
  (sR (e2 jE (eC (.int 0)) (eF pI [(e2 gIx (eV 0) (eC (.int 0))),(e2 gIx (eV 0) (eC (.int 2))),(e2 gIx (eV 0) (eC (.int 1)))])))))
noncomputable def xZ:List Dat->Option RV:=fn 1 0
  (sIf (cy (tV (eF xY [(eV 0)]))) (fun _=>none) sNx)
noncomputable def sO:List Dat->Option RV:=fn 2 0
  (ao (sE (eF xZ [(eV 0)]))
  (sIf (cy (tV (eF sL [(eV 1),(eC (.int 1)),(e2 gIx (eV 0) (eC (.int 1)))]))) (fun _=>none) sNx))
noncomputable def x6:List Dat->Option RV:=fn 3 1
  (ao (sA 3 (eF pI [(eV 0),(eV 1),(eV 2)]))
  (sR (e_ [(eV 0),(eV 2),(bV (E7 (eV 1) (eV 3)) 2 (bT [4,5]) (tV (e2 gGt (eV 5) (eC (.int 0)))) (eV 4))])))
noncomputable def BZ:FS:=
  (ao (sA 9 (e2 iU (e2 bG (eV 7) (eV 8)) (eV 5)))
  (sIf (kJ (tV (e2 gIn (eV 5) (e_ [(eV 7),(eV 8)]))) (tV (e2 o9 (eV 9) (eV 3)))) (ao (kg 3 (eV 9) (e2 bG (e2 gDx (eV 3) (eV 5)) (cT [(eV 6)])))
  (kL 4 (eV 9))) sNx))
noncomputable def B0:FS:=
  (ao (sA 5 (zq 4))
  (cU (iS (eV 0)) (bT [6,7,8])
  BZ))
noncomputable def pJ:List Dat->Option RV:=fn 3 7
  (ao (sA 3 (eD1 (eV 1) (cT [])))
  (ao (sA 4 (cT [(eV 1)]))
  (ao (whD (tTr (eV 4))
  B0 100)
  (sR (ji (eV 3) (eV 2))))))
noncomputable def eK:FN:=
  (nIf (tV (e2 gNe (eV 4) (eV 5))) (zz (vF (eV 4) (e_ [(eV 3),(eV 5)]))
  (vF (eV 5) (e_ [(eV 3),(eV 4)]))) nNx)
noncomputable def x8:List Dat->Option RV:=fn 2 4
  (ao (l7 2 (iR1 (eV 0)) 1 (bN 6) (vG (iS (eV 1)) (bT [3,4,5])
  eK))
  (sR (eV 2)))
noncomputable def sP:List Dat->Option RV:=fn 2 0
  (sR (aW 0 1 (bN 2) b7 (aW 2 1 (bN 3) (tV (e2 gNe (ji (eV 1) (e2 gIx (eV 3) (eC (.int 0)))) (e2 gIx (eV 3) (eC (.int 1))))) (eV 3))))
noncomputable def sQ:List Dat->Option RV:=fn 2 0
  (sR (aW 0 1 (bN 2) b7 (aW 2 1 (bN 3) (tV (e2 gEq (ji (eV 1) (e2 gIx (eV 3) (eC (.int 0)))) (e2 gIx (eV 3) (eC (.int 1))))) (eV 3))))
noncomputable def B3:FS:=
  (sIf (tV (e2 o9 (e2 gIx (eV 5) (eC (.int 1))) (eV 2))) (ao (kg 2 (e2 gIx (eV 5) (eC (.int 1))) (e2 bG (e2 gDx (eV 2) (eV 4)) (cT [(eV 5)])))
  (kL 3 (e2 gIx (eV 5) (eC (.int 1))))) sNx)
noncomputable def B4:FS:=
  (ao (sA 4 (jL 3 (eC (.int 0))))
  (cU (iS (e2 gIx (eV 0) (eV 4))) (bN 5)
  B3))
noncomputable def ko:List Dat->Option RV:=fn 2 4
  (ao (sA 2 (eD1 (eV 1) (cT [])))
  (ao (sA 3 (cT [(eV 1)]))
  (ao (whD (tTr (eV 3))
  B4 100)
  (sR (eV 2)))))
noncomputable def B5:FS:=
  (sIf (tV (e2 zp (eV 2) (eV 0))) (sE (l8 0 (eV 2))) (kg 0 (eV 2) (eV 3)))
noncomputable def sS:List Dat->Option (RV×Dat):=fnM 2 2
  (cU (iS (eV 1)) (bT [2,3])
  B5)
noncomputable def B6:FS:=
  (sE (l8 5 (eV 9)))
noncomputable def B7:FS:=
  (ao (sA 8 (bV (iS (e2 gDx (eF ko [(eFd sQ [(eV 0),(eV 5)]),(eV 2)]) (eV 3))) 1 (bN 10) b7 (e2 gIx (eV 10) (eC (.int 0)))))
  (ao (cU (iS (eV 8)) (bN 9)
  B6)
  (kL 6 (eV 8))))
noncomputable def pK:List Dat->Option RV:=fn 5 5
  (ao (sA 5 (eB su [(eV 1)]))
  (ao (sA 6 (cT []))
  (ao (cU (iR1 (eV 4)) (bN 7)
  B7)
  (sR (eV 6)))))
noncomputable def B8:FS:=
  (ao (sA 9 (eF ko [(eFd sP [(eV 5),(eV 6)]),(eV 2)]))
  (sIf (tV (e2 zp (eV 3) (eV 9))) (ao (sE (eFm sS 6 [(e2 gDx (eV 9) (eV 3))]))
  (sA 8 (e2 bG (eV 8) (eC (.int 1))))) (sA 7 (eB lB [(eB jN [(eV 9)])]))))
noncomputable def jq:List Dat->Option RV:=fn 5 5
  (ao (sA 5 (eF x8 [(eV 0),(eV 1)]))
  (ao (sA 6 eDn)
  (ao (sA 7 (eC .non))
  (ao (sA 8 (eC (.int 0)))
  (ao (whD (kJ (tV (e2 gLt (eV 8) (eV 4))) (tV (e2 qC (eV 7) (eC .non))))
  B8 100)
  (sR (e_ [(eFd pK [(eV 5),(eV 6),(eV 2),(eV 3),(eV 8)]),(eV 7)])))))))
noncomputable def pL:List Dat->Option RV:=fn 5 0
  (sR (e2 qC (e2 gIx (eF jq [(eV 0),(eV 1),(eV 2),(eV 3),(eV 4)]) (eC (.int 1))) (eC .non)))
noncomputable def B9:FS:=
  (ao (sA 7 (e2 u7 (e2 bG (eV 5) (eV 6)) (eC (.int 2))))
  (sIf (tV (eF pL [(eV 0),(eSl (eV 1) (some (eV 7)) none),(eV 2),(eV 3),(eV 4)])) (sA 5 (eV 7)) (sA 6 (eV 7))))
noncomputable def jr:List Dat->Option RV:=fn 5 3
  (ao (sIf (cy (tV (eF pL [(eV 0),(eV 1),(eV 2),(eV 3),(eV 4)]))) (sR (eC .non)) sNx)
  (ao (sA 5 (eC (.int 0)))
  (ao (sA 6 (eB fu [(eV 1)]))
  (ao (whD (tV (e2 gGt (e2 iU (eV 6) (eV 5)) (eC (.int 1))))
  B9 100)
  (sR (e2 gIx (e2 gIx (eV 1) (eV 5)) (eC (.int 0))))))))
noncomputable def sU:List Dat->Option RV:=fn 4 3
  (ao (sE (eF sO [(eV 0),(eV 3)]))
  (ao (sE (eF xV [(e2 gIx (eV 0) (eC (.int 0))),(eV 1),(eV 2)]))
  (ao (sA 4 (eF jr [(e2 gIx (eV 0) (eC (.int 0))),(e2 gIx (eV 0) (eC (.int 2))),(eV 1),(eV 2),(eV 3)]))
  (ao (sIf (tV (e2 qC (eV 4) (eC .non))) (sR (e_ [(eC (.str [110,101,118,101,114])),(e2 gIx (eF jq [(e2 gIx (eV 0) (eC (.int 0))),(e2 gIx (eV 0) (eC (.int 2))),(eV 1),(eV 2),(eV 3)]) (eC (.int 1)))])) sNx)
  (ao (sA 5 (e2 gIx (eF jq [(e2 gIx (eV 0) (eC (.int 0))),(eF sN [(e2 gIx (eV 0) (eC (.int 2))),(eV 4)]),(eV 1),(eV 2),(eV 3)]) (eC (.int 0))))
  (ao (sA 6 (e2 gIx (eF jq [(e2 gIx (eV 0) (eC (.int 0))),(eF sN [(e2 gIx (eV 0) (eC (.int 2))),(e2 bG (eV 4) (eC (.int 1)))]),(eV 1),(eV 2),(eV 3)]) (eC (.int 1))))
  (sR (e_ [(eC (.str [115,105,110,99,101])),(eV 4),(eV 5),(eV 6)]))))))))
noncomputable def sV:List Dat->Option RV:=fn 3 2
  (ao (sA 3 (bV (iR1 (eV 2)) 1 (bN 5) b7 (eF jr [(e2 gIx (eV 0) (eC (.int 0))),(e2 gIx (eV 0) (eC (.int 2))),(eV 5),(eV 2),(eV 1)])))
  (ao (sA 4 (bV (iEn (eV 3)) 2 (bT [5,6]) (tV (e2 sr (eV 6) (eC .non))) (e_ [(eV 6),(eV 5),(eV 2)])))
  (sR (eIf (tV (e2 gGt (eB fu [(eV 4)]) (eC (.int 0)))) (cT [(eB pF [(eV 4)])]) (cT [])))))
noncomputable def B_:FS:=
  (zx 2 (eF sV [(eV 0),(eV 1),(eV 3)]))
noncomputable def pM:List Dat->Option RV:=fn 2 2
  (ao (sE (eF sO [(eV 0),(eV 1)]))
  (ao (sA 2 (cT []))
  (ao (cU (iR2 (eC (.int 1)) (e2 gIx (eV 0) (eC (.int 0)))) (bN 3)
  B_)
  (sR (eV 2)))))
noncomputable def kr:List Dat->Option RV:=fn 4 1
  (ao (sA 4 (eF pJ [(eV 1),(eV 2),(eV 3)]))
  (sR (eIf (tV (e2 qC (eV 4) (eC .non))) (eC .non) (eB pC [(eV 4)]))))
noncomputable def Ca:FS:=
  (ao (sA 3 (e2 gf (e2 bG (e2 bG (e2 gb (eV 3) (eC (.int 48271))) (e2 gb (eC (.int 7919)) (eV 5))) (eC (.int 3))) (eC (.int 2147483629))))
  (ao (sA 3 (e2 gf (e2 gb (eV 3) (eV 3)) (eC (.int 2147483587))))
  (sA 4 (e2 bG (e2 gb (eV 4) (eC (.int 2147483587))) (e2 gf (e2 bG (e2 gb (eV 3) (eC (.int 69621))) (eV 1)) (eC (.int 2147483587)))))))
noncomputable def ku:List Dat->Option RV:=fn 2 4
  (ao (sA 2 (eC (.int 0)))
  (ao (sIf (tV (e2 gLt (eV 1) (eB fu [(eV 0)]))) (sA 2 (e2 gIx (eV 0) (eV 1))) sNx)
  (ao (sIf (tV (e2 gGe (eV 2) (e2 gw (eC (.int 10)) (eC (.int 18))))) (sR (cT [(e2 gf (eV 2) (e2 jm (e2 jm (e2 jm (e2 jm (e2 gw (eC (.int 10)) (eC (.int 60))) (e2 gw (eC (.int 10)) (eC (.int 60)))) (e2 gw (eC (.int 10)) (eC (.int 60)))) (e2 gw (eC (.int 10)) (eC (.int 60)))) (e2 gw (eC (.int 10)) (eC (.int 60)))))])) sNx)
  (ao (sA 3 (e2 gf (e2 bG (e2 bG (e2 bG (eV 2) (e2 gb (e2 gb (eC (.int 104729)) (eV 1)) (eV 1))) (e2 gb (eC (.int 7)) (eV 1))) (eC (.int 11))) (eC (.int 2147483647))))
  (ao (sA 4 (eC (.int 0)))
  (ao (cU (iR1 (eC (.int 40))) (bN 5)
  Ca)
  (sR (cT [(eV 4)]))))))))
noncomputable def bF:List Dat->Option (RV×Dat):=fnM 2 1
  (ao (sA 2 (e2 gf (e2 gIx (eV 0) (eC (.int 0))) (eV 1)))
  (ao (u6 0 (eC (.int 0)) (e2 u7 (e2 gIx (eV 0) (eC (.int 0))) (eV 1)))
  (sR (eV 2))))
noncomputable def sW:List Dat->Option (RV×Dat):=fnM 1 0
  (sR (e2 gIx (cT [(eC (.int 1)),(eC (.int 2)),(eC (.int 3)),(eC (.int 4)),(eC (.int 5)),(eC (.int 6)),(eC (.int 4)),(eC (.int 10))]) (eFm bF 0 [(eC (.int 8))])))
noncomputable def Cb:FS:=
  (ao (sA 11 (eFm bF 0 [(eV 1)]))
  (ao (sA 12 (eFm bF 0 [(eV 1)]))
  (ao (sIf (tV (e2 gEq (eV 7) (eC (.int 1)))) (sA 12 (e2 gf (e2 bG (eV 11) (eC (.int 1))) (eV 1))) sNx)
  (ao (sIf (tV (e2 gEq (eV 7) (eC (.int 2)))) (sA 12 (e2 gf (e2 gf (e2 bG (e2 bG (eV 11) (e2 gf (eV 12) (eC (.int 2)))) (eC (.int 1))) (eB iZ [(eV 1),(eC (.int 3))])) (eV 1))) sNx)
  (ao (kL 9 (e_ [(eV 8),(eB iZ [(eV 11),(eV 12)]),(eB j5 [(eV 11),(eV 12)])]))
  (sA 8 (e2 bG (e2 bG (eV 8) (eC (.int 1))) (e2 gb (eFm bF 0 [(eV 5)]) (eV 6)))))))))
noncomputable def pN:List Dat->Option (RV×Dat):=fnM 3 10
  (ao (sA 3 (eFm bF 0 [(e2 bG (eV 2) (eC (.int 1)))]))
  (ao (sA 4 (eFm bF 0 [(eC (.int 4))]))
  (ao (sA 5 (e2 gIx (cT [(eC (.int 1)),(eC (.int 3)),(e2 gw (eC (.int 10)) (eC (.int 6))),(eC (.int 1000))]) (eV 4)))
  (ao (sA 6 (e2 gIx (cT [(eC (.int 1)),(e2 gw (eC (.int 10)) (eC (.int 25)))]) (eB zc [(e2 gEq (eV 4) (eC (.int 3)))])))
  (ao (sA 7 (eFm bF 0 [(eC (.int 4))]))
  (ao (sA 8 (e2 gb (eFm bF 0 [(eV 5)]) (eV 6)))
  (ao (sA 9 (cT []))
  (ao (cU (iR1 (eV 3)) (bN 10)
  Cb)
  (sR (eV 9))))))))))
noncomputable def Hw:List Dat->Option RV:=fn 1 0
  (sR (gv (e1 (kM isI) (eV 0)) (u5 (e1 (kM isB) (eV 0)))))
noncomputable def x9:List Dat->Option RV:=fn 1 0
  (sR (eB rQ [(aW 0 1 (bN 1) b7 (eF Hw [(eV 1)]))]))
noncomputable def Cc:FS:=
  (ao (sA 6 (e2 gIx (eV 2) (eV 4)))
  (ao (sA 7 (e2 gIx (eV 2) (eV 5)))
  (ao (sIf (tV (e2 gEq (eV 6) (eV 7))) (sR (eC (.bl false))) sNx)
  (sA 2 (aW 2 1 (bN 8) b7 (eIf (tV (e2 gEq (eV 8) (eV 7))) (eV 6) (eV 8)))))))
noncomputable def x_:List Dat->Option RV:=fn 2 6
  (ao (sA 2 (eB jf [(eV 0)]))
  (ao (cU (iS (eV 1)) (bT [3,4,5])
  Cc)
  (sR (eC (.bl true)))))
noncomputable def Cd:FS:=
  (ao (sA 6 (e2 gIx (eV 4) (e2 gIx (eV 5) (eC (.int 1)))))
  (ao (sA 7 (e2 gIx (eV 4) (e2 gIx (eV 5) (eC (.int 2)))))
  (ao (sA 4 (aW 4 1 (bN 8) b7 (eIf (tV (e2 gEq (eV 8) (eV 7))) (eV 6) (eV 8))))
  (sIf (tV (e2 gEq (e2 gIx (eV 4) (eV 2)) (e2 gIx (eV 4) (eV 3)))) (sR (e2 gIx (eV 5) (eC (.int 0)))) sNx))))
noncomputable def pO:List Dat->Option RV:=fn 4 4
  (ao (sA 4 (eB jf [(eV 0)]))
  (ao (cU (iS (e1 zb (eB ez [(eV 1)]))) (bN 5)
  Cd)
  (sR (eC .non))))
noncomputable def Ce:FS:=
  (ao (sIf (tOr (cy (tV (e1 (kM isT) (eV 2)))) (tOr (tV (e2 gNe (eB fu [(eV 2)]) (eC (.int 3)))) (cy (tV (eF x9 [(eV 2)]))))) (sR (eC (.bl false))) sNx)
  (sIf (cy (zF gLe gLt gLt (eC (.int 0)) (e2 gIx (eV 2) (eC (.int 1))) (e2 gIx (eV 2) (eC (.int 2))) (eV 0))) (sR (eC (.bl false))) sNx))
noncomputable def ya:List Dat->Option RV:=fn 2 1
  (ao (sIf (cy (tV (e1 (kM isL) (eV 1)))) (sR (eC (.bl false))) sNx)
  (ao (cU (iS (eV 1)) (bN 2)
  Ce)
  (sR (eF x_ [(eV 0),(eV 1)]))))
noncomputable def Cf:FS:=
  (sIf (tV (e2 gNe (eV 4) (eV 5))) (ao (sA 6 (eF sU [(eV 1),(eV 4),(eV 5),(eV 2)]))
  (ao (sA 7 (eC .non))
  (ao (sIf (tV (e2 gEq (e2 gIx (eV 6) (eC (.int 0))) (eC (.str [115,105,110,99,101])))) (sA 7 (e2 gIx (eV 6) (eC (.int 1)))) sNx)
  (ao (sIf (tV (e2 gNe (eF kr [(eV 0),(eB j7 [(eV 3)]),(eV 4),(eV 5)]) (eV 7))) (sR (eC (.bl false))) sNx)
  (ao (sIf (tV (e2 gNe (eF pO [(eV 0),(eV 3),(eV 4),(eV 5)]) (eV 7))) (sR (eC (.bl false))) sNx)
  (ao (sIf (tV (e2 gNe (eF kr [(eV 0),(e1 zb (eV 3)),(eV 4),(eV 5)]) (eV 7))) (sR (eC (.bl false))) sNx)
  (sIf (tV (e2 gNe (eF kr [(eV 0),(eB ez [(eV 3)]),(eV 5),(eV 4)]) (eV 7))) (sR (eC (.bl false))) sNx))))))) sNx)
noncomputable def Cg:FS:=
  (cU (iR1 (eV 0)) (bN 5)
  Cf)
noncomputable def yb:List Dat->Option RV:=fn 4 4
  (ao (cU (iR1 (eV 0)) (bN 4)
  Cg)
  (sR (eC (.bl true))))
noncomputable def Ci:FS:=
  (ao (sA 6 (eFm bF 0 [(eV 1)]))
  (ao (sA 7 (e2 gf (e2 bG (e2 bG (eV 6) (eC (.int 1))) (eFm bF 0 [(e2 iU (eV 1) (eC (.int 1)))])) (eV 1)))
  (ao (kL 3 (e_ [(eV 4),(eB iZ [(eV 6),(eV 7)]),(eB j5 [(eV 6),(eV 7)])]))
  (sA 4 (e2 bG (e2 bG (eV 4) (eC (.int 1))) (eFm bF 0 [(eC (.int 3))]))))))
noncomputable def sX:List Dat->Option (RV×Dat):=fnM 3 5
  (ao (sA 3 (cT []))
  (ao (sA 4 (eFm bF 0 [(eC (.int 9))]))
  (ao (cU (iR1 (eV 2)) (bN 5)
  Ci)
  (sR (eV 3)))))
noncomputable def Cj:FS:=
  (ao (sA 5 (eFm bF 0 [(eV 1)]))
  (ao (sA 6 (eFm bF 0 [(eV 1)]))
  (sIf (tV (e2 gNe (e2 gIx (eV 2) (eV 5)) (e2 gIx (eV 2) (eV 6)))) (ao (kL 3 (e_ [(eFm bF 0 [(eC (.int 9))]),(eB iZ [(eV 5),(eV 6)]),(eB j5 [(eV 5),(eV 6)])]))
  (ao (sA 7 (e2 gIx (eV 2) (eV 5)))
  (ao (sA 8 (e2 gIx (eV 2) (eV 6)))
  (sA 2 (aW 2 1 (bN 9) b7 (eIf (tV (e2 gEq (eV 9) (eV 8))) (eV 7) (eV 9))))))) sNx)))
noncomputable def sY:List Dat->Option (RV×Dat):=fnM 2 7
  (ao (sA 2 (eB jf [(eV 1)]))
  (ao (sA 3 (cT []))
  (ao (cU (iR1 (eFm bF 0 [(e2 gb (eC (.int 2)) (eV 1))])) (bN 4)
  Cj)
  (sR (eV 3)))))
noncomputable def Ck:FS:=
  (sIf (tV (e2 gNe (eV 3) (eV 4))) (ao (sA 5 (eF pO [(eV 1),(eV 2),(eV 3),(eV 4)]))
  (sIf (tV (e2 gNe (eF kr [(eV 1),(eB j7 [(eV 2)]),(eV 3),(eV 4)]) (eV 5))) (sR (eC (.bl false))) sNx)) sNx)
noncomputable def Cm:FS:=
  (cU (iR1 (eV 1)) (bN 4)
  Ck)
noncomputable def sZ:List Dat->Option (RV×Dat):=fnM 2 4
  (ao (sA 2 (eFm sY 0 [(eV 1)]))
  (ao (cU (iR1 (eV 1)) (bN 3)
  Cm)
  (sR (eC (.bl true)))))
noncomputable def vV:FS:=
  (ao (sA 2 (eF ku [(eV 0),(eV 1)]))
  (ao (sA 3 (eFm sW 2 []))
  (ao (sA 4 (e2 bG (eC (.int 1)) (eFm bF 2 [(eC (.int 6))])))
  (ao (sA 5 (eFn pN (eF ku [(eV 0),(e2 bG (eV 1) (eC (.int 1)))]) [(eV 3),(e2 gIx (cT [(eC (.int 14)),(eC (.int 6))]) (eB zc [(e2 gGt (eV 3) (eC (.int 6)))]))]))
  (ao (sIf (kJ (tV (e2 gEq (eV 1) (eC (.int 0)))) (tV (e2 gEq (eFm bF 2 [(eC (.int 8))]) (eC (.int 7))))) (ao (sA 3 (eC (.int 6)))
  (ao (sA 4 (eC (.int 6)))
  (sA 5 (eFn sX (eF ku [(eV 0),(e2 bG (eV 1) (eC (.int 1)))]) [(eC (.int 6)),(e2 bG (eC (.int 30)) (eFm bF 2 [(eC (.int 11))]))])))) sNx)
  (ao (sA 6 (e2 bG (eC (.int 1)) (eFm bF 2 [(eV 4)])))
  (ao (sA 7 (eF x6 [(eV 3),(eV 5),(eV 4)]))
  (ao (sA 8 (eB j7 [(e2 gIx (eV 7) (eC (.int 2)))]))
  (ao (sA 9 (eF pM [(eV 7),(eV 6)]))
  (ao (sIf (tOr (cy (tV (eF ya [(eV 3),(eV 9)]))) (cy (tV (eF yb [(eV 3),(eV 7),(eV 6),(eV 9)])))) (sR (eC (.bl false))) sNx)
  (ao (sA 10 (eB j7 [(eV 9)]))
  (ao (zy 9)
  (ao (sIf (tOr (tV (e2 gNe (eF pM [(eV 7),(eV 6)]) (eV 10))) (tV (e2 gNe (eV 7) (e_ [(eV 3),(eV 4),(eV 8)])))) (sR (eC (.bl false))) sNx)
  (ao (sA 2 (eF ku [(eV 0),(e2 bG (eV 1) (eC (.int 2)))]))
  (sIf (cy (tV (eFm sZ 2 [(eV 3)]))) (sR (eC (.bl false))) sNx)))))))))))))))
noncomputable def mq:List Dat->Option RV:=fn 1 10
  (ao (cU (iRs (eC (.int 0)) (eB j5 [(eC (.int 1)),(eB iZ [(eB fu [(eV 0)]),(eC (.int 6))])]) (eC (.int 3))) (bN 1)
  vV)
  (sR (eC (.bl true))))
end P
local macro_rules|`(tactic|trivial)=>`(tactic|first | (dsimp only[List.set];first | done | rfl) | rfl)
local macro_rules | `(tactic| array_get_dec)=>`(tactic| first | with_reducible refine Dm.Ws.seq ?_ | with_reducible refine Dm.We.e2 ?_ | ((with_reducible apply Dm.We.v);(focus rfl)) | ((with_reducible apply Dm.We.w);(focus rfl)) | with_reducible refine Dm.We.c ?_ | (refine Dm.WA.val ?_ (by trivial)) | (refine Dm.WA.new ?_ (by trivial)) | (refine Dm.WA.slot ?_ rfl (by trivial)) | with_reducible refine Dm.Ws.A ?_ (by decide) | with_reducible refine Dm.Ws.If ?_ | with_reducible refine Dm.Wt.V ?_ | with_reducible refine Dm.Wt.Not ?_ | with_reducible refine Dm.Wt.And ?_ | with_reducible refine Dm.Wt.Or ?_ | with_reducible refine Dm.Wt.T ?_ | (refine Dm.Wb.mk ?_) | (refine Dm.b5.mk ?_) | with_reducible refine Dm.Wif.t ?_ | with_reducible refine Dm.Wif.f ?_ | with_reducible refine Dm.Was.nil ?_ | with_reducible refine Dm.Was.cons ?_ | with_reducible refine Dm.We.B ?_ | with_reducible refine Dm.We.F ?_ | with_reducible refine Dm.We.T ?_ | with_reducible refine Dm.We.L ?_ | with_reducible refine Dm.We.e1 ?_ | with_reducible refine Dm.We.If ?_ | with_reducible refine Dm.We.And ?_ | with_reducible refine Dm.We.Or ?_ | with_reducible refine Dm.We.Not ?_ | with_reducible refine Dm.We.Sl ?_ | with_reducible refine Dm.We.SlT ?_ | with_reducible refine Dm.Wp.none ?_ | with_reducible refine Dm.Wp.some ?_ | (refine Dm.Wsl.A (enc:=Dm.Dat.int) ?_ rfl) | (refine Dm.Wsl.mk ?_ rfl) | (refine Dm.WT.mk ?_ rfl (by trivial) (by exact Nat.le_of_ble_eq_true rfl)) | (refine Dm.Wk.val ?_) | (refine Dm.Wk.new ?_) | (refine Dm.Wk.slot ?_ rfl (by trivial)) | with_reducible refine Dm.We.Dn ?_ | with_reducible refine Dm.We.D1 ?_ | with_reducible refine Dm.Ws.Kh ?_ | (refine Dm.PU ?_ rfl) | (refine Dm.vP rfl ?_) | (refine Dm.qJ ?_ rfl (by trivial) ?_) | (refine Dm.Ws.App ?_ rfl) | (refine Dm.gA ?_ rfl (by trivial) ?_) | with_reducible refine Dm.Ws.U ?_ | (refine Dm.Ph ?_ rfl (by trivial)) | with_reducible refine Dm.Ws.R ?_ | (refine Dm.WR.new ?_) | (refine Dm.WR.val ?_) | (refine Dm.WR.slot ?_ rfl) | with_reducible refine Dm.Ws.nx ?_ | with_reducible refine Dm.Ws.bk ?_ | with_reducible refine Dm.Ws.ct ?_ | with_reducible refine Dm.Ws.E ?_ | with_reducible refine Dm.Ws.For ?_ | with_reducible refine Dm.Wi.S ?_ | with_reducible refine Dm.Wi.L ?_ | with_reducible refine Dm.Wi.R1 ?_ | with_reducible refine Dm.Wi.R2 ?_ | (refine Dm.jo ?_) | (refine Dm.Ov ?_) | (refine Dm.Wg2.eq ?_ rfl rfl) | (refine Dm.Wg2.ne ?_ rfl rfl) | (refine Dm.Wg2.PL ?_ rfl rfl ?_) | (refine Dm.Wg2.PM ?_ rfl rfl ?_) | (refine Dm.Wg2.eqb ?_ rfl rfl) | (refine Dm.Wg2.neb ?_ rfl rfl) | (refine Dm.Wg2.Pj ?_ rfl rfl) | (refine Dm.Wg2.isb ?_ rfl rfl) | (refine Dm.Wg2.lt ?_ rfl rfl) | (refine Dm.Wg2.le ?_ rfl rfl) | (refine Dm.Wg2.gt ?_ rfl rfl) | (refine Dm.Wg2.ge ?_ rfl rfl) | (refine Dm.Wg2.add ?_ rfl rfl) | (refine Dm.Wg2.Nh ?_ rfl rfl ?_) | (refine Dm.Wg2.Ni ?_ rfl rfl ?_) | (refine Dm.Wg2.Nc ?_ rfl rfl ?_) | (refine Dm.Wg2.sub ?_ rfl rfl) | (refine Dm.Wg2.mul ?_ rfl rfl (by first | exact Or.inl (by decide) | exact Or.inr (by decide))) | (refine Dm.Wg2.mul ?_ rfl rfl ?_) | (refine Dm.Wg2.div ?_ rfl rfl (by decide)) | (refine Dm.Wg2.div ?_ rfl rfl ?_) | (refine Dm.Wg2.mod ?_ rfl rfl (by decide)) | (refine Dm.Wg2.mod ?_ rfl rfl ?_) | (refine Dm.Wg2.din ?_ rfl rfl) | (refine Dm.Wg2.Nd ?_ rfl rfl) | (refine Dm.Wg2.inP ?_ rfl rfl) | (refine Dm.Wg2.PV ?_ rfl rfl) | (refine Dm.Wg2.ix ?_ rfl rfl rfl) | (refine Dm.WB.FG (enc:=Dm.Dat.int) ?_ rfl) | (refine Dm.WB.len ?_ rfl) | (refine Dm.WB.Nf ?_ rfl) | (refine Dm.WB.min2 ?_ rfl) | (refine Dm.WB.max2 ?_ rfl) | (refine Dm.WB.list ?_ rfl) | (refine Dm.WB.int ?_ rfl) | (refine Dm.WB.sum2 ?_ rfl ?_) | (refine Dm.Wg1.Kl (enc:=Dm.Dat.int) ?_ rfl) | (refine Dm.Wg1.mk ?_ rfl rfl))
namespace P
open Dm Fl
noncomputable def bf(t:Tie):Dat:=.tup [.int t.m,.int t.a,.int t.b]
noncomputable def aE(r:List Tie):Dat:=.lst (r.map bf)
noncomputable def bM(s:Step):Dat:=.tup [.int s.1,.int s.2]
noncomputable def cF(w:List Step):Dat:=.lst (w.map bM)
noncomputable def Pl(n:Nat)(r:List Tie):Prop:=∀t∈r,0<=t.a/\t.a<n/\0<=t.b/\t.b<n
noncomputable def cG(x:Int)(t:Tie):Option Step:=if t.a=t.b then none else if t.a=x then some (t.m,t.b) else if t.b=x then some (t.m,t.a) else none
noncomputable def aG(r:List Tie)(x:Int):List Step:=r.filterMap (cG x)
noncomputable def bZ(n:Nat)(r:List Tie):List (List Dat):=(List.range n).map fun i:Nat=>(aG r i).map bM
theorem yc{i e:FE}{ρ ρ1 ρ2 ρ3:Env}{rows:List (List Dat)}{k:Int}{m:Nat}{row:List Dat}{x:Val}{d:Dat}(h1:i ρ=some (.val (.int k),ρ1))(h2:ixN rows.length k=some m)(h3:rows[m]?=some row)(h4:e ρ1=some (x,ρ2))(h5:tk ρ2 x=some (d,ρ3))(h6:row.length<SZ) :
  vF i e ρ rows=some (ρ3,rows.set m (row++[d])):=by
 unfold vF;rw[h1];dsimp only;rw[h2];dsimp only;rw[h3];dsimp only;rw[h4];dsimp only;rw[h5];dsimp only;rw[if_pos h6]
theorem jt(r:List Tie)(t:Tie)(x:Int):aG (r++[t]) x=aG r x++(cG x t).toList:=by
 unfold aG;rw[List.filterMap_append];cases h:cG x t with
 |none=>simp[h]
 |some s=>simp[h]
theorem Cn{n:Nat}{k:Int}(h0:0<=k)(h1:k<n):ixN n k=some k.toNat:=by unfold ixN;rw[if_pos h0,if_pos h1]
theorem f_(n:Nat)(r:List Tie)(i:Nat)(h:i<n):(bZ n r)[i]?=some ((aG r i).map bM):=by unfold bZ;rw[List.getElem?_map,List.getElem?_range h];rfl
theorem dc(n:Nat)(r:List Tie):(bZ n r).length=n:=by simp[bZ]
theorem dN(r:List Tie)(x:Int):(aG r x).length<=r.length:=List.length_filterMap_le _ _
theorem vW(n:Nat)(r:List Tie)(t:Tie)(h:t.a≠t.b)(a0:0<=t.a)(a1:t.a<n)(b0:0<=t.b)(b1:t.b<n) :
  ((bZ n r).set t.a.toNat ((aG r t.a).map bM++[bM (t.m,t.b)])).set t.b.toNat ((aG r t.b).map bM++[bM (t.m,t.a)])=bZ n (r++[t]):=by
 apply List.ext_getElem?;intro i;by_cases hi:i<n
 ·rw[f_ _ _ _ hi,jt,List.map_append]
  by_cases eb:t.b.toNat=i
  ·have e:(i:Int)=t.b:=by omega
   rw[<- eb,List.getElem?_set_self (by rw[List.length_set,dc];omega),eb,e];have:cG t.b t=some (t.m,t.a):=by unfold cG;rw[if_neg h,if_neg (fun z=>h z),if_pos rfl]
   rw[this];rfl
  ·rw[List.getElem?_set_ne eb]
   by_cases ea:t.a.toNat=i
   ·have e:(i:Int)=t.a:=by omega
    rw[<- ea,List.getElem?_set_self (by rw[dc];omega),ea,e];have:cG t.a t=some (t.m,t.b):=by unfold cG;rw[if_neg h,if_pos rfl]
    rw[this];rfl
   ·rw[List.getElem?_set_ne ea,f_ _ _ _ hi]
    have:cG i t=none:=by unfold cG;rw[if_neg h,if_neg (by omega),if_neg (by omega)]
    rw[this];simp
 ·rw[List.getElem?_eq_none (by rw[List.length_set,List.length_set,dc];omega),List.getElem?_eq_none (by rw[dc];omega)]
theorem vX(n:Nat)(r:List Tie)(t:Tie)(h:t.a=t.b):bZ n (r++[t])=bZ n r:=by
 unfold bZ;apply List.map_congr_left;intro i _;rw[jt];have:cG i t=none:=by unfold cG;rw[if_pos h]
 rw[this];simp
theorem zK(n:Nat)(r:List Tie)(t:Tie)(hl:r.length<1000)(a0:0<=t.a)(a1:t.a<n)(b0:0<=t.b)(b1:t.b<n)(c0 c1 c2:Cell) :
  eK [c0,c1,c2,.sh (.int t.m),.sh (.int t.a),.sh (.int t.b)] (bZ n r)=some ([c0,c1,c2,.sh (.int t.m),.sh (.int t.a),.sh (.int t.b)],bZ n (r++[t])):=by
 have ht:tV (e2 gNe (eV 4) (eV 5)) [c0,c1,c2,.sh (.int t.m),.sh (.int t.a),.sh (.int t.b)]=some (!decide (t.a=t.b),[c0,c1,c2,.sh (.int t.m),.sh (.int t.a),.sh (.int t.b)]):=by unfold tV e2 eV;simp[pk,kY,RV.bD]
 unfold eK nIf;rw[ht];by_cases h:t.a=t.b
 ·rw[decide_eq_true h]
  rw[vX n r t h];rfl
 ·rw[decide_eq_false h]
  show zz _ _ _ _=_;unfold zz;have k1:=(dN r t.a)
  have k2:=(dN r t.b)
  have hz:SZ=100000:=rfl;have ea:((t.a.toNat:Nat):Int)=t.a:=by omega
  have eb:((t.b.toNat:Nat):Int)=t.b:=by omega
  rw[yc (k:=t.a) (m:=t.a.toNat) (row:=(aG r t.a).map bM) (d:=bM (t.m,t.b)) (ρ3:=[c0,c1,c2,.sh (.int t.m),.sh (.int t.a),.sh (.int t.b)]) rfl (by rw[dc];exact Cn a0 a1) (by rw[f_ _ _ _ (by omega),ea]) rfl rfl (by rw[List.length_map];omega)];dsimp only;rw [yc (k:=t.b) (m:=t.b.toNat) (row:=(aG r t.b).map bM) (d:=bM (t.m,t.a)) (ρ3:=[c0,c1,c2,.sh (.int t.m),.sh (.int t.a),.sh (.int t.b)]) rfl (by rw [List.length_set,dc];exact Cn b0 b1)
   (by rw[List.getElem?_set_ne (by omega),f_ _ _ _ (by omega),eb]) rfl rfl (by rw[List.length_map];omega)]
  rw[vW n r t h a0 a1 b0 b1]
theorem mw(n:Nat)(c0 c1 c2:Cell):∀(q p:List Tie) (c3 c4 c5:Cell),Pl n q->p.length+q.length<=1000 ->
  ∃c3' c4' c5',kh (bT [3,4,5]) eK (q.map bf) [c0,c1,c2,c3,c4,c5] (bZ n p)=some ([c0,c1,c2,c3',c4',c5'],bZ n (p++q))
 |[],p,c3,c4,c5,_,_=>⟨c3,c4,c5,by rw[List.append_nil];rfl⟩
 |t::q,p,c3,c4,c5,hp,hl=>by obtain⟨a0,a1,b0,b1⟩:=hp t List.mem_cons_self;rw[List.length_cons]at hl;obtain⟨c3',c4',c5',e⟩:=mw n c0 c1 c2 q (p++[t]) (.sh (.int t.m)) (.sh (.int t.a)) (.sh (.int t.b)) (fun u hu=>hp u (List.mem_cons_of_mem _ hu)) (by rw[List.length_append,List.length_singleton];omega);refine⟨c3',c4',c5',?_⟩;rw[List.map_cons,kh];show (match eK [c0,c1,c2,.sh (.int t.m),.sh (.int t.a),.sh (.int t.b)] (bZ n p) with | none=>none | some (ρ2,r2)=>kh (bT [3,4,5]) eK (q.map bf) ρ2 r2)=_;rw[zK n p t (by omega) a0 a1 b0 b1];dsimp only;rw[e,List.append_assoc];rfl
theorem Co(pre:Env)(k:Nat)(hk:pre.length=k)(h0:k≠0):∀(ds:List Dat) (c:Cell),∃c',nMk (bN k) ds (pre++[c])=some (pre++[c'])
 |[],c=>⟨c,rfl⟩
 |d::ds,c=>by
  obtain⟨c',e⟩:=Co pre k hk h0 ds (.sh d);refine⟨c',?_⟩;rw[nMk];have:bN k d (pre++[c])=some (pre++[.sh d]):=by unfold bN;rw[if_neg h0,List.set_append_right _ _ (by omega)];simp[hk]
  rw[this];exact e
noncomputable def bI(n:Nat)(R:Int->List Step):Dat:=.lst ((List.range n).map fun i:Nat=>cF (R i))
theorem s_(n:Nat)(hn:n<=1000)(r:List Tie)(hr:Pl n r)(hl:r.length<=1000):x8 [.int n,aE r]=some (.new (bI n (aG r))):=by
 obtain⟨c3,c4,c5,e⟩:=mw n (.sh (.int n)) (.sh (aE r)) .un r [] .un .un .un hr (by simpa using hl);obtain⟨c',e2⟩:=Co [.sh (.int n),.sh (aE r),.un,.un,.un,.un] 6 rfl (by decide) (ups 0 n) .un;have h0:bZ n []=List.replicate n []:=by
  unfold bZ aG;apply List.ext_getElem?;intro i;by_cases hi:i<n
  ·rw[List.getElem?_map,List.getElem?_range hi,List.getElem?_replicate,if_pos hi]
   rfl
  ·rw[List.getElem?_eq_none (by simp;omega),List.getElem?_eq_none (by simp;omega)]
 have hu:(ups 0 n).length=n:=by simp[ups]
 have e1:iR1 (eV 0) [.sh (.int n),.sh (aE r),.un,.un,.un,.un]=some (ups 0 n,[.sh (.int n),.sh (aE r),.un,.un,.un,.un]):=by show (if (n:Int)<=BIG/\-BIG<=(n:Int) then some (ups 0 (n:Int).toNat,_) else none)=_;rw[if_pos (by unfold BIG;omega)];rfl
 rw[h0,List.nil_append]at e;have en:l7 2 (iR1 (eV 0)) 1 (bN 6) (vG (iS (eV 1)) (bT [3,4,5]) eK) [.sh (.int n),.sh (aE r),.un,.un,.un,.un]=some (.nx [.sh (.int n),.sh (aE r),.ow (bI n (aG r)),c3,c4,c5]):=by
  unfold l7;rw[if_neg (by decide),e1];dsimp only;rw[if_pos (by rw[hu];unfold SZ;omega)];show (match nMk (bN 6) (ups 0 n) ([.sh (.int n),.sh (aE r),.un,.un,.un,.un]++[.un]) with | none=>none | some ρ2=>_)=_;rw[e2];dsimp only;rw[hu];show (match vG (iS (eV 1)) (bT [3,4,5]) eK [.sh (.int n),.sh (aE r),.un,.un,.un,.un] (List.replicate n []) with | none=>none | some (ρ3,r3)=>_)=_;have:vG (iS (eV 1)) (bT [3,4,5]) eK [.sh (.int n),.sh (aE r),.un,.un,.un,.un] (List.replicate n [])=some ([.sh (.int n),.sh (aE r),.un,c3,c4,c5],bZ n r):=e;rw[this];have e3:(bZ n r).map Dat.lst=(List.range n).map fun i:Nat=>cF (aG r i):=by unfold bZ;rw[List.map_map];rfl
  show some (Out.nx [.sh (.int n),.sh (aE r),.ow (.lst ((bZ n r).map Dat.lst)),c3,c4,c5])=_;rw[e3];rfl
 apply Wr.eq;unfold x8
 (refine Dm.Wr.fn ?_ rfl rfl;dsimp only[List.map,List.replicate,List.cons_append,List.nil_append])
 refine Ws.seq ⟨_,en,?_⟩;refine Ws.R (We.w rfl (WR.slot ?_ rfl));rfl
noncomputable def hdF(h:List (Int×Int)):Hd:=fun m=>(h.find? fun e=>decide (e.1=m)).map (·.2)
noncomputable def hk(h:List (Int×Int)):List Int:=h.map (·.1)
noncomputable def hv(h:List (Int×Int)):List Dat:=h.map fun e=>Dat.int e.2
noncomputable def br(h:List (Int×Int)):Dat:=.dct (hk h) (hv h)
theorem k7(h:List (Int×Int))(m:Int):bx (hk h) (hv h) m=(hdF h m).map Dat.int:=by
 unfold hk hv hdF
 induction h with
 |nil=>rfl
 |cons e h ih=>
  rw[List.map_cons,List.map_cons,bx,List.find?_cons];by_cases q:e.1=m
  ·rw[if_pos q,decide_eq_true q];rfl
  ·rw[if_neg q,decide_eq_false q];exact ih
theorem qK{h:List (Int×Int)}{m:Int}:(hdF h m).isSome=decide (m∈hk h):=by
 unfold hdF hk
 induction h with
 |nil=>rfl
 |cons e h ih=>
  rw[List.find?_cons];by_cases q:e.1=m
  ·rw[decide_eq_true q];simp[q]
  ·rw[decide_eq_false q]
   have q':¬m=e.1:=fun z=>q z.symm
   simp only[List.map_cons,List.mem_cons,q',false_or];exact ih
theorem Km(o:Option Int)(y:Int):gNe ((o.map Dat.int).getD .non) (.int y)=vB (!decide (o=some y)):=by
 cases o with
 |none=>rfl
 |some z=>
  show gNe (.int z) (.int y)=_;rw[kY];have:(z=y)=(some z=some y):=by simp
  simp only[this]
theorem Kn(o:Option Int)(y:Int):gEq ((o.map Dat.int).getD .non) (.int y)=vB (decide (o=some y)):=by
 cases o with
 |none=>rfl
 |some z=>
  show gEq (.int z) (.int y)=_;rw[xS];have:(z=y)=(some z=some y):=by simp
  simp only[this]
noncomputable def tu(h:List (Int×Int))(R:Int->List Step):Int->List Step:=fun x=>(R x).filter fun s=>!decide (hdF h s.1=some s.2)
noncomputable def tE(h:List (Int×Int))(R:Int->List Step):Int->List Step:=fun x=>(R x).filter fun s=>decide (hdF h s.1=some s.2)
theorem yd(g:Dat->Dat->Option RV)(p:Option Int->Int->Bool)(hg:∀o y,g ((o.map Dat.int).getD .non) (.int y)=vB (p o y))(h:List (Int×Int))(A:Cell)(w:List Step)(hl:w.length<=1000) :
  We (aW 2 1 (bN 3) (tV (e2 g (ji (eV 1) (e2 gIx (eV 3) (eC (.int 0)))) (e2 gIx (eV 3) (eC (.int 1))))) (eV 3)) [A,.sh (br h),.sh (cF w)] fun v ρ'=>Wk ρ' v fun d ρ''=>d=cF (w.filter fun s=>p (hdF h s.1) s.2)/\ρ''=[A,.sh (br h),.sh (cF w)]:=by
 refine We.Nb bM w (fun s=>p (hdF h s.1) s.2) id bM (d:=cF w) ?_ rfl rfl rfl (by decide) (by unfold SZ;omega) (fun s _=>?_) fun s _ _=>?_
 ·rw[List.map_id]
  exact Wk.new ⟨rfl,rfl⟩
 ·refine Wt.V (We.e2 (We.Nj (We.v rfl ⟨⟨_,_,rfl⟩,We.e2 (We.v rfl (We.c (Wg2.ix ?_ rfl rfl rfl)))⟩)))
  refine⟨hk h,hv h,s.1,rfl,rfl,We.e2 (We.v rfl (We.c (Wg2.ix ?_ rfl rfl rfl)))⟩;refine⟨_,_,_,rfl,rfl,(by rw[k7];exact hg _ _),?_⟩;exact Wb.mk ⟨rfl,rfl⟩
 ·exact We.v rfl (Wk.val ⟨rfl,rfl⟩)
theorem gn(n:Nat)(hn:n<=1000)(R:Int->List Step)(hR:∀i:Nat,i<n->(R i).length<=1000)(h:List (Int×Int)):sP [bI n R,br h]=some (.new (bI n (tu h R))):=by
 apply Wr.eq;unfold sP
 (refine Dm.Wr.fn ?_ rfl rfl;dsimp only[List.map,List.replicate,List.cons_append,List.nil_append])
 refine Ws.R ?_;refine We.zH (fun i:Nat=>cF (R i)) (List.range n) id (fun i:Nat=>cF (tu h R i)) (d:=bI n R) ?_ rfl rfl rfl (by decide) (by rw[List.length_range];unfold SZ;omega) fun i hi=>?_
 ·rw[List.map_id];rfl
 ·exact yd gNe (fun o y=>!decide (o=some y)) Km h _ (R i) (hR i (List.mem_range.mp hi))
theorem qL(n:Nat)(hn:n<=1000)(R:Int->List Step)(hR:∀i:Nat,i<n->(R i).length<=1000)(h:List (Int×Int)):sQ [bI n R,br h]=some (.new (bI n (tE h R))):=by
 apply Wr.eq;unfold sQ
 (refine Dm.Wr.fn ?_ rfl rfl;dsimp only[List.map,List.replicate,List.cons_append,List.nil_append])
 refine Ws.R ?_;refine We.zH (fun i:Nat=>cF (R i)) (List.range n) id (fun i:Nat=>cF (tE h R i)) (d:=bI n R) ?_ rfl rfl rfl (by decide) (by rw[List.length_range];unfold SZ;omega) fun i hi=>?_
 ·rw[List.map_id];rfl
 ·exact yd gEq (fun o y=>decide (o=some y)) Kn h _ (R i) (hR i (List.mem_range.mp hi))
theorem FZ(ks:List Int)(i:Int):(ks.any fun k=>decide (k=i))=decide (i∈ks):=by
 induction ks with
 |nil=>rfl
 |cons k ks ih=>
  rw[List.any_cons,ih];by_cases h:k=i
  ·simp[h]
  ·have h':¬i=k:=fun z=>h z.symm
   simp[h,h']
theorem qM{ks:List Int}{vs:List Dat}{i:Int}{d:Dat}(h:i∉ks):j_ ks i=ks++[i]/\kc ks vs i d=vs++[d]:=by unfold j_ kc;rw[FZ,decide_eq_false h];exact⟨rfl,rfl⟩
theorem pP{α:Type}(key:α->Int)(val:α->Dat)(xs:List α)(i:Int):bx (xs.map key) (xs.map val) i=(xs.find? fun x=>decide (key x=i)).map val:=by
 induction xs with
 |nil=>rfl
 |cons x xs ih=>
  rw[List.map_cons,List.map_cons,bx,List.find?_cons];by_cases h:key x=i
  ·simp[h]
  ·simp[h,ih]
theorem dg{α:Type}[DecidableEq α]:∀(l m:List α),l.Nodup->(∀x∈l,x∈m)->l.length<=m.length
 |[],_,_,_=>Nat.zero_le _
 |x::l,m,h,k=>by
  obtain⟨h1,h2⟩:=List.nodup_cons.mp h;have hx:x∈m:=k x List.mem_cons_self;have:=dg l (m.erase x) h2 fun y hy=>(List.mem_erase_of_ne (fun e:y=x=>h1 (by rw[<- e];exact hy))).mpr (k y (List.mem_cons_of_mem _ hy))
  rw[List.length_erase_of_mem hx]at this;have:=List.length_pos_of_mem hx;simp;omega
noncomputable def places(n:Nat):List Int:=(List.range n).map fun i:Nat=>(i:Int)
theorem places_len(n:Nat):(places n).length=n:=by simp[places]
theorem mz(n:Nat)(x:Int):x∈places n↔0<=x/\x<n:=by
 unfold places;rw[List.mem_map];constructor
 ·rintro⟨i,hi,rfl⟩
  have:=List.mem_range.mp hi;omega
 ·rintro⟨h0,h1⟩
  exact⟨x.toNat,List.mem_range.mpr (by omega),by omega⟩
noncomputable abbrev Sr:=List (Int×List Step)
noncomputable def sk(s:Sr):List Int:=s.map (·.1)
noncomputable def sv(s:Sr):List Dat:=s.map fun e=>cF e.2
noncomputable def InR(R:Int->List Step)(p:Int)(s:Step):Prop:=s∈R p
structure Cp(R:Int->Step->Prop)(a:Int)(w:List Step)(p:Int):Prop where
 way:Way R a w p
 nd:(a::w.map (·.2)).Nodup
structure Fnd(n:Nat)(R:Int->List Step)(a:Int)(s:Sr):Prop where
 nd:(sk s).Nodup
 pl:∀x∈sk s,0<=x/\x<n
 st:a∈sk s
 way:∀e∈s,Cp (InR R) a e.2 e.1/\∀x∈a::e.2.map (·.2),x∈sk s
theorem Fnd.len{n:Nat}{R:Int->List Step}{a:Int}{s:Sr}(h:Fnd n R a s):s.length<=n:=by
 have:=dg (sk s) (places n) h.nd fun x hx=>(mz n x).mpr (h.pl x hx)
 rw[places_len]at this
 simpa [sk] using this
theorem Fnd.F0{n:Nat}{R:Int->List Step}{a:Int}{s:Sr}(h:Fnd n R a s){e:Int×List Step}(he:e∈s):e.2.length<s.length:=by obtain⟨h1,h2⟩:=h.way e he;have:=dg (a::e.2.map (·.2)) (sk s) h1.nd h2;simp[sk]at this;omega
theorem cY(s:Sr)(x:Int)(w:List Step):sk (s++[(x,w)])=sk s++[x]:=by simp[sk]
theorem F1(s:Sr)(x:Int)(w:List Step):sv (s++[(x,w)])=sv s++[cF w]:=by simp[sv]
theorem qN(s:Sr)(x:Int):(∃w,(x,w)∈s/\bx (sk s) (sv s) x=some (cF w))\/(x∉sk s/\bx (sk s) (sv s) x=none):=by
 unfold sk sv;rw[pP (fun e:Int×List Step=>e.1) (fun e=>cF e.2) s x];cases hf:s.find? fun e=>decide (e.1=x) with
 |none=>refine Or.inr ⟨fun h=>?_,rfl⟩;obtain⟨e,he,hx⟩:=List.mem_map.mp h;have:=List.find?_eq_none.mp hf e he;simp[hx]at this
 |some e=>
  have h1:=List.mem_of_find?_eq_some hf;have h2:=List.find?_some hf;have h2:e.1=x:=by simpa using h2
  exact Or.inl ⟨e.2,by rw[<- h2];exact h1,rfl⟩
theorem kB(s:Sr)(x:Int):(bx (sk s) (sv s) x).isSome=decide (x∈sk s):=by
 rcases qN s x with⟨ts,h1,h2⟩ | ⟨h1,h2⟩
 ·have:x∈sk s:=List.mem_map.mpr ⟨_,h1,rfl⟩
  rw[h2,decide_eq_true this];rfl
 ·rw[h2,decide_eq_false h1];rfl
theorem Fnd.start{n:Nat}{R:Int->List Step}{a:Int}(a0:0<=a)(a1:a<n):Fnd n R a [(a,[])] where
 nd:=by simp[sk]
 pl:=by intro x hx;simp[sk]at hx;subst hx;exact⟨a0,a1⟩
 st:=by simp[sk]
 way:=by intro e he;simp at he;subst he;exact⟨⟨rfl,by simp⟩,by simp[sk]⟩
theorem Fnd.step{n:Nat}{R:Int->List Step}{a:Int}{s:Sr}(h:Fnd n R a s){p:Int}{w:List Step}(hp:(p,w)∈s){u:Step}(hu:u∈R p)(hn:u.2∉sk s)(u0:0<=u.2)(u1:u.2<n):Fnd n R a (s++[(u.2,w++[u])]) where
 nd:=by rw[cY];exact List.nodup_append.mpr ⟨h.nd,by simp,fun x hx y hy=>by rw[List.mem_singleton.mp hy];exact fun e=>hn (e▸hx)⟩
 pl:=by
  intro x hx;rw[cY]at hx;rcases List.mem_append.mp hx with hx | hx
  ·exact h.pl x hx
  ·rw[List.mem_singleton.mp hx];exact⟨u0,u1⟩
 st:=by rw[cY];exact List.mem_append_left _ h.st
 way:=by
  intro e he;rw[cY];rcases List.mem_append.mp he with he | he
  ·obtain⟨k1,k2⟩:=h.way e he
   exact⟨k1,fun x hx=>List.mem_append_left _ (k2 x hx)⟩
  ·rw[List.mem_singleton.mp he]
   obtain⟨k1,k2⟩:=h.way _ hp;refine⟨⟨k1.way.snoc hu,?_⟩,fun x hx=>?_⟩
   ·dsimp only at k1 k2 ⊢
    rw[List.map_append,<- List.cons_append];exact List.nodup_append.mpr ⟨k1.nd,by simp,fun x hx y hy=>by rw[List.mem_singleton.mp hy];exact fun e:x=u.2=>hn (by rw[<- e];exact k2 x hx)⟩
   ·dsimp only at k1 k2 hx ⊢
    rw[List.map_append,<- List.cons_append]at hx;rcases List.mem_append.mp hx with hx | hx
    ·exact List.mem_append_left _ (k2 x hx)
    ·exact List.mem_append_right _ (by simpa using hx)
noncomputable def Done(R:Int->List Step)(K:List Int)(x:Int):Prop:=∀u∈R x,u.2∈K
noncomputable def F2(n:Nat)(R:Int->List Step)(a:Int)(s:Sr)(ps:List Int)(c4 c5:Cell):Env:=[.sh (bI n R),.sh (.int a),.ow (.dct (sk s) (sv s)),.ow (.lst (ps.map Dat.int)),c4,c5]
theorem Ko{ps:List Int}{p0:Int}{i:Nat}{e:FE}{ρ ρ2:Env}{Q:Val->Env->Prop}(q:Q (.val (.int p0)) ρ2)(h:ρ[i]?=some (.ow (.lst ((p0::ps).map Dat.int))))(he:e ρ=some (.val (.int 0),ρ))(hs:ρ.set i (.ow (.lst (ps.map Dat.int)))=ρ2):We (jL i e) ρ Q:=
 ⟨_,_,by unfold jL;rw[h];dsimp only;rw[he];dsimp only;rw[h];dsimp only;rw[if_pos (by unfold BIG;omega)];show some (Val.val (.int p0),ρ.set i (.ow (.lst (ps.map Dat.int))))=_;rw[hs],q⟩
theorem F3(n:Nat)(R:Int->List Step)(x:Int)(h0:0<=x)(h1:x<n):gIx (bI n R) (.int x)=some (.val (cF (R x))):=by
 unfold bI gIx;dsimp only;rw[kZ (fun i:Nat=>cF (R i)) (List.range n) x h0 (by rw[List.length_range];exact h1)];have e:(((List.range n)[x.toNat]'(by rw[List.length_range];omega):Nat):Int)=x:=by rw[List.getElem_range];omega
 rw[e];rfl
theorem kC(n:Nat)(hn:n<=40)(R:Int->List Step)(hR:∀i:Int,0<=i->i<n->∀u∈R i,0<=u.2/\u.2<n)(a:Int)(a0:0<=a)(a1:a<n) :
  ∃s:Sr,ko [bI n R,.int a]=some (.new (.dct (sk s) (sv s)))/\Fnd n R a s/\∀x∈sk s,Done R (sk s) x:=by
 suffices h:Wr (ko [bI n R,.int a]) fun v=>∃s:Sr,v=.new (.dct (sk s) (sv s))/\Fnd n R a s/\∀x∈sk s,Done R (sk s) x by obtain⟨v,h1,s,rfl,h2⟩:=h;exact⟨s,h1,h2⟩
 unfold ko
 (refine Dm.Wr.fn ?_ rfl rfl;dsimp only[List.map,List.replicate,List.cons_append,List.nil_append])
 repeat array_get_dec
 refine Ws.wh (fun k ρ=>∃(s:Sr) (ps:List Int) (c4 c5:Cell),ρ=F2 n R a s ps c4 c5/\Fnd n R a s/\(∀x∈ps,x∈sk s)/\(∀x∈sk s,x∈ps\/Done R (sk s) x)/\k=ps.length+(n-s.length)/\k<=40) ?_ 100 n _ (by omega) ⟨[(a,[])],[a],_,_,rfl,Fnd.start a0 a1,by simp[sk],by simp[sk],by simp;omega,hn⟩;rintro k ρ ⟨s,ps,c4,c5,rfl,F,hps,hd,hk,PX⟩;unfold F2;refine Wt.Tr ?_;refine We.w rfl ?_;refine⟨_,!(ps.map Dat.int).isEmpty,rfl,rfl,?_⟩;have len:=F.len;cases ps with
 |nil=>refine Wif.no rfl ?_;refine Ws.R (We.w rfl (WR.slot ?_ rfl));exact⟨s,rfl,F,fun x hx=>(hd x hx).resolve_left (by simp)⟩
 |cons p0 ps0=>
  refine Wif.yes rfl ?_;unfold B4;refine Ws.seq (Ws.A ?_ (by decide));refine Ko (ps:=ps0) (p0:=p0) ?_ rfl rfl rfl;refine WA.val ?_ (by trivial);have hp0:p0∈sk s:=hps p0 (by simp);obtain⟨q0,q1⟩:=F.pl p0 hp0;refine Ws.For (Wi.S (We.e2 (We.v rfl (We.v rfl (Wg2.ix ?_ rfl rfl (F3 n R p0 q0 q1))))));refine Wk.val (jo ?_);refine Ws.inv bM _ _ (R p0) _ _ _ _ _ (fun p q ρ=>∃(s:Sr) (ps:List Int) (c5:Cell),ρ=F2 n R a s ps (.sh (.int p0)) c5/\Fnd n R a s/\(∀x∈ps,x∈sk s)/\p0∈sk s/\(∀x∈sk s,x∈ps\/x=p0\/Done R (sk s) x)/\(∀u∈p,u.2∈sk s)/\k=ps.length+1+(n-s.length)) ⟨s,ps0,_,rfl,F,fun x hx=>hps x (by simp[hx]),hp0,?_,by simp,by rw[hk];simp⟩ ?_ ?_
  ·intro x hx
   rcases hd x hx with h | h
   ·rcases List.mem_cons.mp h with h | h
    ·exact .inr (.inl h)
    ·exact .inl h
   ·exact .inr (.inr h)
  ·rintro p u q ρ e' ⟨s,ps,c5,rfl,F,hps,hp0,hd,hp,hk⟩
   have len:=F.len;have hu:u∈R p0:=by rw[e'];simp
   obtain⟨u0,u1⟩:=hR p0 q0 q1 u hu;unfold F2;refine Dm.aV rfl (by trivial) ?_;unfold B3;refine Ws.If (Wt.V (We.e2 (We.e2 (We.v rfl (We.c (Wg2.ix ?_ rfl rfl rfl))))));refine We.w rfl (Wg2.Nd ?_ rfl rfl);refine Wb.mk ?_;rw[kB];refine⟨fun h=>?_,fun h=>?_⟩
   ·have hnew:=ndT h
    obtain⟨w,t1,t2⟩:∃w,(p0,w)∈s/\bx (sk s) (sv s) p0=some (cF w):=by
     rcases qN s p0 with h | h
     ·exact h
     ·exact absurd hp0 h.1
    have wl:=F.F0 t1;refine Ws.seq (Ws.Kh (We.e2 (We.e2 (We.w rfl (We.v rfl (Wg2.dx t2 ?_ rfl rfl))))));refine We.L (Was.cons (We.v rfl (Was.nil (WT.mk ?_ rfl rfl (by exact Nat.le_of_ble_eq_true rfl)))));refine Wg2.Nc ?_ rfl rfl (by rw[List.length_map];dsimp only at wl;simp;unfold SZ;omega);refine Wk.new (vP rfl (We.e2 (We.v rfl (We.c (Wg2.ix ?_ rfl rfl rfl)))));refine b5.mk (qJ ?_ rfl (by trivial) (by simp only[sk,List.length_map];unfold SZ;omega));refine Ws.App (We.e2 (We.v rfl (We.c (Wg2.ix ?_ rfl rfl rfl)))) rfl;refine Wk.val (gA ?_ rfl (by trivial) (by rw[List.length_map];unfold SZ;omega));have F':=F.step t1 hu hnew u0 u1;have len':=F'.len;have em:Dat.lst (w.map bM++[bM u])=cF (w++[u]):=by simp[cF]
    obtain⟨p1,p2⟩:=qM (ks:=sk s) (vs:=sv s) (i:=u.2) (d:=cF (w++[u])) hnew;refine⟨s++[(u.2,w++[u])],ps++[u.2],.sh (bM u),?_,F',?_,?_,?_,?_,?_⟩
    ·rw[em,p1,p2,cY,F1,List.map_append]
     rfl
    ·intro x hx
     rw[cY];rcases List.mem_append.mp hx with hx | hx
     ·exact List.mem_append_left _ (hps x hx)
     ·exact List.mem_append_right _ hx
    ·rw[cY];exact List.mem_append_left _ hp0
    ·intro x hx
     rw[cY]at hx ⊢;rcases List.mem_append.mp hx with hx | hx
     ·rcases hd x hx with h | h | h
      ·exact .inl (List.mem_append_left _ h)
      ·exact .inr (.inl h)
      ·exact .inr (.inr fun y hy=>List.mem_append_left _ (h y hy))
     ·exact .inl (List.mem_append_right _ hx)
    ·intro v hv
     rw[cY];rcases List.mem_append.mp hv with hv | hv
     ·exact List.mem_append_left _ (hp v hv)
     ·rw[List.mem_singleton.mp hv];simp
    ·rw[hk];simp at len' ⊢;omega
   ·have hold:=ndF h
    refine Ws.nx ?_;refine⟨s,ps,.sh (bM u),rfl,F,hps,hp0,hd,fun v hv=>?_,hk⟩;rcases List.mem_append.mp hv with hv | hv
    ·exact hp v hv
    ·rw[List.mem_singleton.mp hv];exact hold
  ·rintro ρ ⟨s,ps,c5,rfl,F,hps,hp0,hd,hp,hk⟩
   refine⟨ps.length+(n-s.length),by omega,s,ps,_,_,rfl,F,hps,fun x hx=>?_,rfl,by omega⟩;rcases hd x hx with h | rfl | h
   ·exact .inl h
   ·exact .inr hp
   ·exact .inr h
noncomputable def kD(h:List (Int×Int))(s:Step):List (Int×Int):=if s.1∈hk h then h.filter fun e=>decide (e.1≠s.1) else h++[s]
theorem mC(h:List (Int×Int))(m:Int):hdF (h.filter fun e=>decide (e.1≠m))=put (hdF h) m none:=by
 funext x
 unfold put hdF;rw[List.find?_filter];by_cases e:x=m
 ·subst e
  rw[if_pos rfl,List.find?_eq_none.mpr fun y _=>by simp];rfl
 ·rw[if_neg e]
  congr 1
  congr 1
  funext y
  by_cases q:y.1=x
  ·have:y.1≠m:=fun z=>e (q.symm.trans z)
   simp[q,e]
  ·simp[q]
theorem F4(h:List (Int×Int))(s:Step)(hn:s.1∉hk h):hdF (h++[s])=put (hdF h) s.1 (some s.2):=by
 funext x
 unfold put hdF;rw[List.find?_append];by_cases e:x=s.1
 ·subst e
  rw[if_pos rfl];have:(h.find? fun e=>decide (e.1=s.1))=none:=List.find?_eq_none.mpr fun y hy=>by intro z;exact hn (List.mem_map.mpr ⟨y,hy,of_decide_eq_true z⟩)
  rw[this];simp
 ·rw[if_neg e]
  have e':¬s.1=x:=fun z=>e z.symm
  cases hf:(h.find? fun e=>decide (e.1=x)) with
  |none=>simp[e']
  |some y=>rfl
theorem Cq(h:List (Int×Int))(s:Step):hdF (kD h s)=fP (hdF h) s.1 s.2:=by
 unfold kD fP;rw[qK];by_cases q:s.1∈hk h
 ·rw[if_pos q,if_pos (decide_eq_true q),mC]
 ·rw[if_neg q,if_neg (by simpa using q),F4 h s q]
noncomputable def bL(h:List (Int×Int)):List Step->List (Int×Int)
 |[]=>h
 |s::w=>bL (kD h s) w
theorem pQ:∀(w:List Step) (h:List (Int×Int)),hdF (bL h w)=kj (hdF h) w
 |[],_=>rfl
 |s::w,h=>by rw[bL,kj,pQ w,Cq]
theorem fS:∀(w:List Step) (h:List (Int×Int)) (s:Step),bL h (w++[s])=kD (bL h w) s
 |[],_,_=>rfl
 |_::w,h,s=>by rw[List.cons_append,bL,bL,fS w]
theorem k8(h:List (Int×Int))(m:Int):d_ (hk h) (hv h) m=hk (h.filter fun e=>decide (e.1≠m))/\ee (hk h) (hv h) m=hv (h.filter fun e=>decide (e.1≠m)):=by
 unfold hk hv
 induction h with
 |nil=>exact⟨rfl,rfl⟩
 |cons e h ih=>
  rw[List.map_cons,List.map_cons,d_,ee];by_cases q:e.1=m
  ·rw[if_pos q,if_pos q,List.filter_cons_of_neg (by simpa using q)];exact ih
  ·rw[if_neg q,if_neg q,List.filter_cons_of_pos (by simpa using q),List.map_cons,List.map_cons,ih.1,ih.2];exact⟨rfl,rfl⟩
structure Hok(r:List Tie)(h:List (Int×Int)):Prop where
 nd:(hk h).Nodup
 sub:∀m∈hk h,m∈r.map (·.m)
theorem Hok.len{r:List Tie}{h:List (Int×Int)}(k:Hok r h):h.length<=r.length:=by
 have:=dg (hk h) (r.map (·.m)) k.nd k.sub
 simpa [hk] using this
theorem Hok.nil(r:List Tie):Hok r []:=⟨by simp[hk],by simp[hk]⟩
theorem Hok.drop{r:List Tie}{h:List (Int×Int)}(k:Hok r h)(m:Int):Hok r (h.filter fun e=>decide (e.1≠m)):=by refine⟨(k.nd.sublist (List.Sublist.map _ (List.filter_sublist))),fun x hx=>k.sub x ?_⟩;obtain⟨e,he,rfl⟩:=List.mem_map.mp hx;exact List.mem_map.mpr ⟨e,(List.mem_filter.mp he).1,rfl⟩
theorem Hok.lead{r:List Tie}{h:List (Int×Int)}(k:Hok r h){s:Step}(hs:s.1∈r.map (·.m)):Hok r (kD h s):=by
 unfold kD;split
 ·exact k.drop _
 ·rename_i q
  refine⟨?_,fun x hx=>?_⟩
  ·unfold hk
   rw[List.map_append];exact List.nodup_append.mpr ⟨k.nd,by simp,fun x hx y hy=>by
    have:y=s.1:=by simpa using hy
    rw[this];exact fun e=>q (e▸hx)⟩
  ·unfold hk at hx
   rw[List.map_append]at hx;rcases List.mem_append.mp hx with hx | hx
   ·exact k.sub x hx
   ·have:x=s.1:=by simpa using hx
    rw[this];exact hs
theorem Hok.Cr{r:List Tie}:∀{w:List Step} {h:List (Int×Int)},Hok r h->(∀s∈w,s.1∈r.map (·.m))->Hok r (bL h w)
 |[],_,k,_=>k
 |s::w,h,k,hs=>by rw[bL];exact Hok.Cr (w:=w) (k.lead (hs s List.mem_cons_self)) fun u hu=>hs u (List.mem_cons_of_mem _ hu)
theorem oJ(r:List Tie)(hl:r.length<=1000)(h:List (Int×Int))(k:Hok r h)(w:List Step)(hw:∀s∈w,s.1∈r.map (·.m)):sS [br h,cF w]=some (.val .non,br (bL h w)):=by
 suffices q:WrM (sS [br h,cF w]) fun z d=>z=.val .non/\d=br (bL h w) by obtain⟨z,d,h1,rfl,rfl⟩:=q;exact h1
 unfold sS;refine WrM.fn ?_ rfl rfl;refine Ws.For (Wi.S (We.v rfl (Wk.val (jo ?_))));refine Ws.inv bM _ _ w _ _ _ _ _ (fun p q ρ=>∃c2 c3,ρ=[.ow (br (bL h p)),.sh (cF w),c2,c3]) ⟨_,_,rfl⟩ ?_ ?_
 ·rintro p s q ρ e ⟨c2,c3,rfl⟩
  refine Dm.aV rfl (by trivial) ?_;have kp:Hok r (bL h p):=k.Cr fun u hu=>hw u (by rw[e];exact List.mem_append_left _ hu)
  have len:=kp.len;unfold B5;refine Ws.If (Wt.V (We.e2 (We.v rfl (We.w rfl (Wg2.din ?_ rfl rfl)))));refine Wb.mk ?_;rw[k7,Option.isSome_map,qK];refine Wif.dec (fun hm=>?_) fun hm=>?_
  ·obtain⟨x,hx⟩:∃x,hdF (bL h p) s.1=some x:=Option.isSome_iff_exists.mp (by rw[qK];exact decide_eq_true hm)
   refine Ws.E (We.Nl (k:=s.1) (d:=.int x) (by rw[k7,hx];rfl) ?_ rfl rfl rfl);refine⟨.sh (.int s.1),.sh (.int s.2),?_⟩;rw[fS,kD,if_pos hm,(k8 _ _).1,(k8 _ _).2];rfl
  ·refine Ws.Kh (We.v rfl (Wk.val (vP rfl (We.v rfl (b5.mk (qJ ?_ rfl (by trivial) ?_))))))
   ·refine⟨.sh (.int s.1),.sh (.int s.2),?_⟩
    rw[fS,kD,if_neg hm];obtain⟨p1,p2⟩:=qM (ks:=hk (bL h p)) (vs:=hv (bL h p)) (i:=s.1) (d:=.int s.2) hm;rw[p1,p2];unfold br hk hv;rw[List.map_append,List.map_append];rfl
   ·unfold hk;rw[List.length_map];unfold SZ;omega
 ·rintro ρ ⟨c2,c3,rfl⟩
  exact⟨_,rfl,rfl,rfl⟩
theorem kE{r:List Tie}{x:Int}{s:Step}:s∈aG r x↔fQ r x s:=by
 unfold aG;rw[List.mem_filterMap];constructor
 ·rintro⟨t,ht,e⟩
  unfold cG at e;split at e
  ·cases e
  rename_i hne;split at e
  ·rename_i ha
   cases e;exact⟨t,ht,rfl,hne,.inl ⟨ha,rfl⟩⟩
  ·split at e
   ·rename_i hb
    cases e;exact⟨t,ht,rfl,hne,.inr ⟨hb,rfl⟩⟩
   ·cases e
 ·rintro⟨t,ht,hm,hne,he⟩
  refine⟨t,ht,?_⟩;unfold cG;rw[if_neg hne];rcases he with⟨h1,h2⟩ | ⟨h1,h2⟩
  ·rw[if_pos h1,hm,h2]
  ·rw[if_neg (fun z=>hne (z.trans h1.symm)),if_pos h1,hm,h2]
theorem tF{n:Nat}{r:List Tie}(hp:Pl n r){x:Int}{s:Step}(h:fQ r x s):(0<=x/\x<n)/\0<=s.2/\s.2<n:=by obtain⟨t,ht,_,_,he⟩:=h;have:=hp t ht;omega
theorem F5{r:List Tie}{x:Int}{s:Step}(h:fQ r x s):s.1∈r.map (·.m):=by obtain⟨t,ht,hm,_⟩:=h;exact List.mem_map.mpr ⟨t,ht,hm⟩
theorem Cs{r:List Tie}{R:Int->Step->Prop}(hR:∀p s,R p s->fQ r p s){y:Int}:∀{w:List Step} {x:Int},Way R x w y->∀s∈w,s.1∈r.map (·.m)
 |[],_,_,s,hs=>by cases hs
 |u::w,x,h,s,hs=>by
  rcases List.mem_cons.mp hs with rfl | hs
  ·exact F5 (hR _ _ h.1)
  ·exact Cs hR h.2 s hs
theorem mD{r:List Tie}{h:List (Int×Int)}{p:Int}{s:Step}:InR (tu h (aG r)) p s↔mj r (hdF h) p s:=by unfold InR tu mj;rw[List.mem_filter,kE];simp
theorem qO{r:List Tie}{h:List (Int×Int)}{p:Int}{s:Step}:InR (tE h (aG r)) p s↔Led r (hdF h) p s:=by unfold InR tE Led;rw[List.mem_filter,kE];simp
theorem zL(w:List Step):bK (cF w)=true:=f7 _ _ fun s=>by unfold bM bK;exact jP _ (by intro x hx;simp at hx;rcases hx with rfl | rfl<;>exact pH _)
theorem gE(n:Nat)(R:Int->List Step):bK (bI n R)=true:=f7 (fun i:Nat=>cF (R i)) _ fun i=>zL _
noncomputable def mso(w:List Step):List Int:=w.map (·.1)
noncomputable def msD(w:List Step):Dat:=.lst ((mso w).map Dat.int)
noncomputable def cg(h:List (Int×Int)):List Int->List (Int×Int)
 |[]=>h
 |m::ms=>cg (h.filter fun e=>decide (e.1≠m)) ms
theorem kF:∀(ms:List Int) (h:List (Int×Int)) (m:Int),cg h (ms++[m])=(cg h ms).filter fun e=>decide (e.1≠m)
 |[],_,_=>rfl
 |_::ms,h,m=>by rw[List.cons_append,cg,cg,kF ms]
theorem jR:∀(w:List Step) (h:List (Int×Int)),hdF (cg h (mso w))=eZ (hdF h) w
 |[],_=>rfl
 |s::w,h=>by show hdF (cg _ (mso w))=eZ _ w;rw[jR w,mC]
theorem kG:∀(ms:List Int) (h:List (Int×Int)) (x:Int),x∉ms->hdF (cg h ms) x=hdF h x
 |[],_,_,_=>rfl
 |m::ms,h,x,hx=>by rw[cg,kG ms _ x fun z=>hx (List.mem_cons_of_mem _ z),mC];unfold put;rw[if_neg fun z=>hx (by rw[z];exact List.mem_cons_self)]
theorem Hok.drops{r:List Tie}:∀{ms:List Int} {h:List (Int×Int)},Hok r h->Hok r (cg h ms)
 |[],_,k=>k
 |m::ms,h,k=>by rw[cg];exact Hok.drops (ms:=ms) (k.drop m)
theorem vY{r:List Tie}{H:Hd}{y:Int}:∀{w:List Step} {x:Int},Way (Led r H) x w y->∀s∈w,H s.1=some s.2
 |[],_,_,s,hs=>by cases hs
 |u::w,x,h,s,hs=>by
  rcases List.mem_cons.mp hs with rfl | hs
  ·exact h.1.2
  ·exact vY h.2 s hs
structure Ct(r:List Tie)(a b:Int)(ws:List (List Step)):Prop where
 way:∀w∈ws,Cp (fQ r) a w b
 nd:(ws.map mso).flatten.Nodup
noncomputable def zM(n:Nat)(r:List Tie)(h0 h:List (Int×Int))(a b:Int)(c:Nat)(ws:List (List Step))(c7 c8 c9:Cell):Env:=
 [.sh (bI n (aG r)),.sh (br h0),.sh (.int a),.sh (.int b),.sh (.int c),.ow (br h),.ow (.lst (ws.map msD)),c7,c8,c9]
theorem zN(n:Nat)(hn:n<=40)(r:List Tie)(hp:Pl n r)(nd:(r.map (·.m)).Nodup)(hl:r.length<=1000)(h:List (Int×Int))(k:Hok r h)(a b:Int)(a0:0<=a)(a1:a<n)(c:Nat)(hc:c<=1000)(fl:Flow r (hdF h) a b c) :
  ∃ws:List (List Step),pK [bI n (aG r),br h,.int a,.int b,.int c]=some (.new (.lst (ws.map msD)))/\ws.length=c/\Ct r a b ws:=by
 suffices q:Wr (pK [bI n (aG r),br h,.int a,.int b,.int c]) fun v=>∃ws:List (List Step),v=.new (.lst (ws.map msD))/\ws.length=c/\Ct r a b ws by obtain⟨v,h1,ws,rfl,h2⟩:=q;exact⟨ws,h1,h2⟩
 unfold pK
 (refine Dm.Wr.fn ?_ rfl rfl;dsimp only[List.map,List.replicate,List.cons_append,List.nil_append])
 refine Ws.seq (Ws.A (We.B (Was.cons (We.v rfl (Was.nil (WB.dict (ks:=hk h) (vs:=hv h) ?_ rfl))))) (by decide));refine WA.new ?_ (by trivial);refine Ws.seq (Ws.A (We.L (Was.nil (WT.mk ?_ rfl rfl (by decide)))) (by decide));refine WA.new ?_ (by trivial);refine Ws.seq (Ws.For (Wi.R1 (We.v rfl (b5.mk ⟨?_,by unfold BIG;omega,by unfold BIG;omega⟩))));refine Ws.inv (fun i:Nat=>Dat.int (0+(i:Nat))) _ _ (List.range c) _ _ _ _ _ (fun p q ρ=>∃(h':List (Int×Int)) (ws:List (List Step)) (c7 c8 c9:Cell),ρ=zM n r h h' a b c ws c7 c8 c9/\Hok r h'/\ws.length=p.length/\Flow r (hdF h') a b q.length/\Ct r a b ws/\∀m∈(ws.map mso).flatten,hdF h' m=none)
  ⟨h,[],_,_,_,rfl,k,rfl,by rw[List.length_range];exact fl,⟨by simp,by simp⟩,by simp⟩ ?_ ?_
 ·rintro p x q ρ e ⟨h',ws,c7,c8,c9,rfl,k',wl,fl',W,hno⟩
  rw[List.length_cons]at fl';unfold zM;refine Dm.aV rfl (by trivial) ?_;unfold B7;have hR:∀i:Nat,i<n->(aG r i).length<=1000:=fun i _=>Nat.le_trans (dN r i) hl
  obtain⟨s,es,F,hd⟩:=kC n hn (tE h' (aG r)) (fun i _ _ u hu=>(tF hp ((qO (h:=h')).mp hu).1).2) a a0 a1;have hb:b∈sk s:=by
   have:=fl'.reach (S:=fun y=>decide (y∈sk s)) (decide_eq_true F.st) fun y u hy hu=>decide_eq_true (hd y (of_decide_eq_true hy) u (qO.mpr hu))
   exact of_decide_eq_true this
  obtain⟨w,t1,t2⟩:∃w,(b,w)∈s/\bx (sk s) (sv s) b=some (cF w):=by
   rcases qN s b with h | h
   ·exact h
   ·exact absurd hb h.1
  obtain⟨⟨w1,w2⟩,_⟩:=F.way _ t1;have F0:=F.F0 t1;have Pk:=F.len;dsimp only at w1 w2 F0;have w1':Way (Led r (hdF h')) a w b:=w1.mono fun _ _ z=>qO.mp z
  have wm:=ki nd (fun p s h=>h.1) w1' w2;have hit:iS (e2 gDx (eF ko [(eFd sQ [(eV 0),(eV 5)]),(eV 2)]) (eV 3)) [.sh (bI n (aG r)),.sh (br h),.sh (.int a),.sh (.int b),.sh (.int c),.ow (br h'),.ow (.lst (ws.map msD)),.sh (.int (0+(x:Nat))),c8,c9]
    = some (w.map bM,[.sh (bI n (aG r)),.sh (br h),.sh (.int a),.sh (.int b),.sh (.int c),.ow (br h'),.ow (.lst (ws.map msD)),.sh (.int (0+(x:Nat))),c8,c9]):=by
   apply Wi.get;refine Wi.S (We.e2 (We.F (Was.cons (We.Fd (Was.cons (We.v rfl (Was.cons (We.w rfl (Was.nil ?_)))))))));refine⟨_,_,_,rfl,qL n (by omega) (aG r) hR h',gE _ _,?_⟩;refine Was.cons (We.v rfl (Was.nil (WF.box es ?_ rfl rfl rfl rfl)));refine We.v rfl (Wg2.dx t2 ?_ rfl rfl);exact Wk.val (jo ⟨rfl,rfl⟩)
  refine Ws.seq (Ws.A (We.Map bM w (fun s=>s.1) Dat.int ?_ hit rfl (by decide) (by unfold SZ;omega) fun s _=>We.e2 (We.v rfl (We.c (Wg2.ix (Wk.val ⟨rfl,rfl⟩) rfl rfl rfl)))) (by decide));refine WA.new ?_ (by trivial);refine Ws.seq (Ws.For (Wi.S (We.w rfl (Wk.slot (jo ?_) rfl (by trivial)))));refine Ws.inv Dat.int _ _ (mso w) _ _ _ _ _ (fun pm qm ρ=>∃c9,ρ=zM n r h (cg h' pm) a b c ws (.sh (.int (0+(x:Nat)))) (.sh (msD w)) c9) ⟨_,rfl⟩ ?_ ?_
  ·rintro pm m qm ρ em ⟨c9,rfl⟩
   unfold zM;refine Dm.aV rfl (by trivial) ?_;unfold B6;have hm:m∉pm:=by have:(mso w).Nodup:=wm;rw[em]at this;exact fun z=>(List.nodup_append.mp this).2.2 m z m List.mem_cons_self rfl
   have hmw:m∈mso w:=by rw[em];simp
   obtain⟨st,hst,rfl⟩:=List.mem_map.mp hmw;have hx:hdF (cg h' pm) st.1=some st.2:=by rw[kG pm h' st.1 hm];exact vY w1' st hst
   refine Ws.E (We.Nl (k:=st.1) (d:=.int st.2) (by rw[k7,hx];rfl) ?_ rfl rfl rfl);refine⟨.sh (.int st.1),?_⟩;rw[kF,(k8 _ _).1,(k8 _ _).2];rfl
  ·rintro ρ ⟨c9,rfl⟩
   unfold zM;refine Ws.App (We.v rfl (Wk.val (gA ?_ rfl (by trivial) ?_))) rfl
   ·have fl2:=fl'.less nd w1' w2
    rw[<- jR]at fl2;refine⟨cg h' (mso w),ws++[w],.sh (.int (0+(x:Nat))),.sh (msD w),c9,?_,k'.drops,by simp[wl],fl2,⟨fun v hv=>?_,?_⟩,fun m hm=>?_⟩
    ·rw[List.map_append];rfl
    ·rcases List.mem_append.mp hv with hv | hv
     ·exact W.way v hv
     ·rw[List.mem_singleton.mp hv];exact⟨w1'.mono fun _ _ z=>z.1,w2⟩
    ·rw[List.map_append,List.flatten_append]
     refine List.nodup_append.mpr ⟨W.nd,by rw[List.map_cons,List.map_nil,List.flatten_cons,List.flatten_nil,List.append_nil];exact wm,fun m hm z hz=>?_⟩;intro e;subst e;have:m∈mso w:=by simpa using hz
     obtain⟨st,hst,rfl⟩:=List.mem_map.mp this;have h1:=vY w1' st hst;rw[hno _ hm]at h1;cases h1
    ·rw[List.map_append,List.flatten_append]at hm
     rw[jR];rcases List.mem_append.mp hm with hm | hm
     ·by_cases z:m∈mso w
      ·exact gC z
      ·rw[fR fun u hu e=>z (List.mem_map.mpr ⟨u,hu,e⟩)];exact hno m hm
     ·rw[List.map_cons,List.map_nil,List.flatten_cons,List.flatten_nil,List.append_nil]at hm
      exact gC hm
   ·rw[List.length_map,wl]
    have:=congrArg List.length e;rw[List.length_range,List.length_append]at this;unfold SZ;omega
 ·rintro ρ ⟨h',ws,c7,c8,c9,rfl,k',wl,fl',W,hno⟩
  unfold zM;refine Ws.R (We.w rfl (WR.slot ?_ rfl));exact⟨ws,rfl,by rw[wl,List.length_range],W⟩
noncomputable def tupI(S:List Int):Dat:=.tup (S.map Dat.int)
noncomputable def ovr(S:List Int)(t:Tie):Bool:=decide (t.a∈S) != decide (t.b∈S)
noncomputable def Cu(r:List Tie)(S:List Int):List Int:=(r.filter (ovr S)).map (·.m)
noncomputable def Nm(n:Nat)(a b:Int)(S:List Int):Prop:=S.Pairwise (· < ·)/\(∀x∈S,0<=x/\x<n)/\a∈S/\b∉S
noncomputable def dY:Option (List Int)->Dat
 |none=>.non
 |some S=>tupI S
theorem Cv{l:List Int}(h:l.Nodup):(cO ltI l).Pairwise (· < ·):=by
 have h1:=oH l;have h2:(cO ltI l).Nodup:=(cD ltI l).nodup_iff.mpr h;refine(List.Pairwise.and h1 h2).imp fun {x y} q=>?_
 obtain⟨q1,q2⟩:=q;simp[ltI]at q1;omega
structure Apart(n:Nat)(r:List Tie)(a b:Int)(most:Int)(ws:List (List Step))(o:Option (List Int)):Prop where
 ways:Ct r a b ws
 le:(ws.length:Int)<=most
 all:o=none->(ws.length:Int)=most
 side:∀S,o=some S->Nm n a b S/\(Cu r S).length=ws.length/\(ws.length:Int)<most
noncomputable def Nn(n:Nat)(r:List Tie)(a b most:Int)(c5:Cell)(h:List (Int×Int))(o:Option (List Int))(k:Nat)(c9:Cell):Env:=
 [.sh (.int n),.sh (aE r),.sh (.int a),.sh (.int b),.sh (.int most),c5,.ow (br h),.sh (dY o),.sh (.int k),c9]
noncomputable def Cw(n:Nat)(r:List Tie)(c:Cell):Prop:=c=.ow (bI n (aG r))\/c=.sh (bI n (aG r))
theorem ye(ws:List (List Step)):bK (.lst (ws.map msD))=true:=f7 _ _ fun w=>vQ _
theorem Hx{n:Nat}{r:List Tie}{c5:Cell}(h5:Cw n r c5)(A B C D E G H I J:Cell){Q:Val->Env->Prop}(rest:List FE){Q':List Val->Env->Prop}
  (k:∀x,(x=.slot 5/\c5=.ow (bI n (aG r)))\/(x=.val (bI n (aG r))/\c5=.sh (bI n (aG r)))->Was rest [A,B,C,D,E,c5,G,H,I,J] fun xs ρ2=>Q' (x::xs) ρ2):Was (eV 5::rest) [A,B,C,D,E,c5,G,H,I,J] Q':=by
 rcases h5 with rfl | rfl
 ·exact Was.cons (We.w rfl (k _ (.inl ⟨rfl,rfl⟩)))
 ·exact Was.cons (We.v rfl (k _ (.inr ⟨rfl,rfl⟩)))
theorem gp(n:Nat)(hn:n<=40)(r:List Tie)(hp:Pl n r)(nd:(r.map (·.m)).Nodup)(hl:r.length<=1000)(a b:Int)(a0:0<=a)(a1:a<n)(b0:0<=b)(b1:b<n)(most:Int)(m0:0<=most)(m1:most<=90) :
  ∃ws o,jq [.int n,aE r,.int a,.int b,.int most]=some (.val (.tup [.lst (ws.map msD),dY o]))/\Apart n r a b most ws o:=by
 suffices q:Wr (jq [.int n,aE r,.int a,.int b,.int most]) fun v=>∃ws o,v=.val (.tup [.lst (ws.map msD),dY o])/\Apart n r a b most ws o by obtain⟨v,h1,ws,o,rfl,h2⟩:=q;exact⟨ws,o,h1,h2⟩
 unfold jq
 (refine Dm.Wr.fn ?_ rfl rfl;dsimp only[List.map,List.replicate,List.cons_append,List.nil_append])
 refine Ws.seq (Ws.A (We.F (Was.cons (We.v rfl (Was.cons (We.v rfl (Was.nil (WF.box (s_ n (by omega) r hp hl) ?_ rfl rfl rfl rfl))))))) (by decide));refine WA.new ?_ (by trivial);refine Ws.seq (Ws.A (We.Dn (WA.new ?_ (by trivial))) (by decide));refine Ws.seq (Ws.A (We.c (WA.val ?_ (by trivial))) (by decide));refine Ws.seq (Ws.A (We.c (WA.val ?_ (by trivial))) (by decide));have hR:∀i:Nat,i<n->(aG r i).length<=1000:=fun i _=>Nat.le_trans (dN r i) hl
 refine Ws.seq ?_;refine Ws.wh (fun k ρ=>∃ (c5:Cell) (h:List (Int×Int)) (o:Option (List Int)) (cnt:Nat) (c9:Cell),ρ=Nn n r a b most c5 h o cnt c9∧Cw n r c5∧Hok r h∧Flow r (hdF h) a b cnt∧(cnt:Int)≤most∧(∀ S,o=some S→Nm n a b S∧(Cu r S).length=cnt∧(cnt:Int)<most) ∧
   k=(most-cnt).toNat+(if o=none then 1 else 0)) ?_ 100 (most.toNat+1) _ (by omega) ⟨_,[],none,0,_,rfl,.inl rfl,Hok.nil r,Flow.zero r a b,m0,by simp,by simp⟩
 rintro k ρ ⟨c5,h,o,cnt,c9,rfl,h5,hok,fl,hle,hs,hk⟩;unfold Nn;have fin:o≠none\/¬(cnt:Int)<most->Ws (sR (e_ [(eFd pK [(eV 5),(eV 6),(eV 2),(eV 3),(eV 8)]),(eV 7)])) [.sh (.int n),.sh (aE r),.sh (.int a),.sh (.int b),.sh (.int most),c5,.ow (br h),.sh (dY o),.sh (.int cnt),c9]
   (fun _=>∃ws o,RV.val .non=.val (.tup [.lst (ws.map msD),dY o])/\Apart n r a b most ws o) (fun v _=>∃ws o,v=.val (.tup [.lst (ws.map msD),dY o])/\Apart n r a b most ws o) (fun _=>False) (fun _=>False):=fun hend=>by
  obtain⟨ws,ep,wl,W⟩:=zN n hn r hp nd hl h hok a b a0 a1 cnt (by omega) fl;refine Ws.R (We.T (Was.cons (We.Fd (Hx (Q:=fun _ _=>True) h5 _ _ _ _ _ _ _ _ _ _ fun x hx=>?_))));refine Was.cons (We.w rfl (Was.cons (We.v rfl (Was.cons (We.v rfl (Was.cons (We.v rfl (Was.nil ?_))))))));have fin2:Apart n r a b most ws o:=⟨W,by rw[wl];exact hle,fun z=>by rw[wl];have:=hend.resolve_left (fun y=>y z);omega,fun S z=>by rw[wl];exact hs S z⟩
  rcases hx with⟨rfl,rfl⟩ | ⟨rfl,rfl⟩
  ·refine⟨_,_,_,rfl,ep,ye ws,?_⟩
   refine Was.cons (We.v rfl (Was.nil (WT.mk ?_ rfl rfl (by exact Nat.le_of_ble_eq_true rfl))));exact⟨ws,o,rfl,fin2⟩
  ·refine⟨_,_,_,rfl,ep,ye ws,?_⟩
   refine Was.cons (We.v rfl (Was.nil (WT.mk ?_ rfl rfl (by exact Nat.le_of_ble_eq_true rfl))));exact⟨ws,o,rfl,fin2⟩
 refine Wt.And (Wt.V (We.e2 (We.v rfl (We.v rfl (Wg2.lt (Wb.mk ?_) rfl rfl)))));refine Wif.dec (fun hlt=>?_) fun hge=>?_
 ·refine Wt.V (We.e2 (We.v rfl (We.c (Wg2.isN (Wb.mk ?_) rfl rfl))))
  cases o with
  |some S=>refine Wif.no rfl ?_;exact fin (.inl (by simp))
  |none=>
   refine Wif.yes rfl ?_;unfold B8;obtain⟨s,es,F,hd⟩:=kC n hn (tu h (aG r)) (fun i _ _ u hu=>(tF hp ((mD (h:=h)).mp hu).1).2) a a0 a1;have Pk:=F.len;have search:∀{N:Env->Prop} {R:RV->Env->Prop} {B C:Env->Prop},(∀c5',Cw n r c5'->N [.sh (.int n),.sh (aE r),.sh (.int a),.sh (.int b),.sh (.int most),c5',.ow (br h),.sh (dY none),.sh (.int cnt),.ow (.dct (sk s) (sv s))]) ->
     Ws (sA 9 (eF ko [(eFd sP [(eV 5),(eV 6)]),(eV 2)])) [.sh (.int n),.sh (aE r),.sh (.int a),.sh (.int b),.sh (.int most),c5,.ow (br h),.sh (dY none),.sh (.int cnt),c9] N R B C:=fun {N R B C} kN=>by
    refine Ws.A (We.F (Was.cons (We.Fd (Hx (Q:=fun _ _=>True) h5 _ _ _ _ _ _ _ _ _ _ fun x hx=>?_)))) (by decide);refine Was.cons (We.w rfl (Was.nil ?_));rcases hx with⟨rfl,rfl⟩ | ⟨rfl,rfl⟩
    ·refine⟨_,_,_,rfl,gn n (by omega) (aG r) hR h,gE _ _,?_⟩
     refine Was.cons (We.v rfl (Was.nil (WF.box es ?_ rfl rfl rfl rfl)));exact WA.new (kN _ (.inr rfl)) (by trivial)
    ·refine⟨_,_,_,rfl,gn n (by omega) (aG r) hR h,gE _ _,?_⟩
     refine Was.cons (We.v rfl (Was.nil (WF.box es ?_ rfl rfl rfl rfl)));exact WA.new (kN _ (.inr rfl)) (by trivial)
   refine Ws.seq (search fun c5' h5'=>?_);refine Ws.If (Wt.V (We.e2 (We.v rfl (We.w rfl (Wg2.din (Wb.mk ?_) rfl rfl)))));rw[kB];refine Wif.dec (fun hb=>?_) fun hb=>?_
   ·obtain⟨w,t1,t2⟩:∃w,(b,w)∈s/\bx (sk s) (sv s) b=some (cF w):=by
     rcases qN s b with h | h
     ·exact h
     ·exact absurd hb h.1
    obtain⟨⟨w1,w2⟩,_⟩:=F.way _ t1;dsimp only at w1 w2;have w1':Way (mj r (hdF h)) a w b:=w1.mono fun _ _ z=>mD.mp z
    have wms:=Cs (fun p s (z:mj r (hdF h) p s)=>z.1) w1';have el:=oJ r hl h hok w wms;refine Ws.seq (Ws.E (We.Fm (Was.cons (We.e2 (We.w rfl (We.v rfl (Wg2.dx t2 (Was.nil (WFm.any el ?_ rfl rfl rfl)) rfl rfl))))) rfl));refine Ws.A (We.e2 (We.v rfl (We.c (Wg2.add (WA.val ?_ (by trivial)) rfl rfl)))) (by decide);have fl2:=fl.more nd w1' w2;rw[<- pQ]at fl2;refine⟨(most-(cnt+1:Nat)).toNat+1,by rw[hk];simp;omega,c5',bL h w,none,cnt+1,.ow (.dct (sk s) (sv s)),?_,h5',hok.Cr wms,fl2,by omega,by simp,by simp⟩;have:((cnt:Int)+1)=((cnt+1:Nat):Int):=by omega
    rw[this]
   ·refine Ws.A (We.B (Was.cons (We.B (Was.cons (We.w rfl (Was.nil (WB.Nk (ks:=sk s) (vs:=sv s) ?_ rfl (by simp only[sk,List.length_map];omega)))))))) (by decide)
    refine Was.nil (WB.tuple ?_ rfl);refine WA.val ?_ (by trivial);have pm:=cD ltI (sk s);have hS:∀x,x∈cO ltI (sk s)↔x∈sk s:=fun x=>pm.mem_iff
    refine⟨(most-cnt).toNat,by rw[hk];simp,c5',h,some (cO ltI (sk s)),cnt,.ow (.dct (sk s) (sv s)),rfl,h5',hok,fl,hle,fun S z=>?_,by simp⟩;cases z;refine⟨⟨Cv F.nd,fun x hx=>F.pl x ((hS x).mp hx),(hS a).mpr F.st,fun z=>hb ((hS b).mp z)⟩,?_,hlt⟩;have:=fl.cut (S:=fun y=>decide (y∈cO ltI (sk s))) (decide_eq_true ((hS a).mpr F.st)) (decide_eq_false fun z=>hb ((hS b).mp z)) fun y u hy hu=>decide_eq_true ((hS _).mpr (hd y ((hS y).mp (of_decide_eq_true hy)) u (mD.mpr hu)))
    unfold Cu;rw[List.length_map];exact this
 ·refine Wif.no rfl ?_
  exact fin (.inr hge)
theorem cJ(x n:Int)(h:1<=n):0<=x % n/\x % n<n:=⟨Int.emod_nonneg x (by omega),Int.emod_lt_of_pos x (by omega)⟩
noncomputable def at'(ns:List Int)(i:Int):Int:=ns.getD i.toNat 0
theorem Kp(ns:List Int)(i:Int)(h0:0<=i)(h1:i<ns.length):gIx (.lst (ns.map Dat.int)) (.int i)=some (.val (.int (at' ns i))):=by show (atI (ns.map Dat.int) i).map RV.val=_;rw[Dm.kZ Dat.int ns i h0 h1];unfold at';rw[List.getD_eq_getElem?_getD,List.getElem?_eq_getElem (by omega)];rfl
theorem Np{ns:List Int}{i:Int}{o p:Option Dat}{K:RV->Prop}(h0:0<=i)(h1:i<ns.length)(k:K (.val (.int (at' ns i))))(ho:o=some (.lst (ns.map Dat.int)))(hp:p=some (.int i)):Wg2 gIx o p K:=⟨_,_,_,ho,hp,Kp ns i h0 h1,k⟩
theorem Wg2.F6{i j:Int}{o p:Option Dat}{K:RV->Prop}(k:K (.val (.int (i*j))))(ho:o=some (.int i))(hp:p=some (.int j))(h:i.natAbs.log2<1000000/\j.natAbs.log2<1000000):Wg2 jm o p K:=⟨_,_,_,ho,hp,by unfold jm;dsimp only;rw[if_pos h],k⟩
noncomputable def aK(x:Int):Dat:=.lst [.int x]
noncomputable abbrev Z60:Int:=1000000000000000000000000000000000000000000000000000000000000
theorem qP(ns:List Int)(k:Int)(h0:0<=k)(h1:k<1000):∃x,ku [.lst (ns.map Dat.int),.int k]=some (.new (aK x)):=by
 suffices h:Wr (ku [.lst (ns.map Dat.int),.int k]) fun v=>∃x,v=.new (aK x) by obtain⟨v,h1,c,rfl⟩:=h;exact⟨c,h1⟩
 unfold ku
 (refine Dm.Wr.fn ?_ rfl rfl;dsimp only[List.map,List.replicate,List.cons_append,List.nil_append])
 refine Ws.seq (Ws.A (We.c (WA.val ?_ (by trivial))) (by decide));refine Ws.cut (fun ρ=>∃c:Int,ρ=[.sh (.lst (ns.map Dat.int)),.sh (.int k),.sh (.int c),.un,.un,.un]) ?_ ?_
 ·repeat array_get_dec
  refine⟨fun h=>?_,fun h=>?_⟩
  ·have h:=of_decide_eq_true h
   repeat array_get_dec
   refine Np h0 (by simpa using h) ?_ rfl rfl
   repeat array_get_dec
   exact⟨_,rfl⟩
  ·repeat array_get_dec
   exact⟨_,rfl⟩
 rintro ρ ⟨c,rfl⟩;refine Ws.seq (Ws.If (Wt.V (We.e2 (We.v rfl (We.e2 (We.c (We.c (Wg2.pow (z:=1000000000000000000) ?_ rfl rfl (by decide) (by decide)))))))));refine Wg2.ge (Wb.mk ?_) rfl rfl;have p60:∀{K:RV->Prop} {o p:Option Dat},K (.val (.int Z60))->o=some (.int 10)->p=some (.int 60)->Wg2 gw o p K:=fun k ho hp=>Wg2.pow (z:=Z60) k ho hp (by decide) (by decide +kernel)
 refine⟨fun h=>?_,fun h=>?_⟩
 ·refine Ws.R (We.L (Was.cons (We.e2 (We.v rfl ?_))))
  refine We.e2 (We.e2 (We.e2 (We.e2 (We.e2 (We.c (We.c (p60 ?_ rfl rfl)))))));refine We.e2 (We.c (We.c (p60 ?_ rfl rfl)));refine Wg2.F6 ?_ rfl rfl (by decide +kernel);refine We.e2 (We.c (We.c (p60 ?_ rfl rfl)));refine Wg2.F6 ?_ rfl rfl (by decide +kernel);refine We.e2 (We.c (We.c (p60 ?_ rfl rfl)));refine Wg2.F6 ?_ rfl rfl (by decide +kernel);refine We.e2 (We.c (We.c (p60 ?_ rfl rfl)));refine Wg2.F6 ?_ rfl rfl (by decide +kernel);refine Wg2.mod ?_ rfl rfl (by decide +kernel);refine Was.nil (WT.mk ?_ rfl rfl (by exact Nat.le_of_ble_eq_true rfl));exact⟨_,rfl⟩
 ·refine Ws.nx ?_
  refine Ws.cut (fun ρ=>∃x:Int,(0<=x/\x<2147483647)/\ρ=[.sh (.lst (ns.map Dat.int)),.sh (.int k),.sh (.int c),.sh (.int x),.un,.un]) ?_ ?_
  ·repeat array_get_dec
   ·exact⟨_,cJ _ _ (by decide),rfl⟩
   ·exact .inr (by unfold B64;omega)
  rintro ρ ⟨x,hx,rfl⟩;refine Ws.seq (Ws.A (We.c (WA.val ?_ (by trivial))) (by decide));refine Ws.seq (Ws.For (Wi.R1 (We.c (b5.mk ⟨?_,by decide,by decide⟩))));refine Ws.inv (fun i:Nat=>Dat.int (0+(i:Nat))) _ _ (List.range 40) _ _ _ _ _ (fun p q ρ=>∃(x f:Int) (c5:Cell),(0<=x/\x<2147483647)/\ρ=[.sh (.lst (ns.map Dat.int)),.sh (.int k),.sh (.int c),.sh (.int x),.sh (.int f),c5]) ⟨_,_,_,hx,rfl⟩ ?_ ?_
  ·rintro p i q ρ e ⟨x,f,c5,hx,rfl⟩
   refine Dm.aV rfl (by trivial) ?_;unfold Ca;refine Ws.cut (fun ρ=>∃y:Int,(0<=y/\y<2147483647)/\ρ=[.sh (.lst (ns.map Dat.int)),.sh (.int k),.sh (.int c),.sh (.int y),.sh (.int f),.sh (.int (0+(i:Nat)))]) ?_ ?_
   ·repeat array_get_dec
    exact⟨_,by have:=cJ (x*48271+7919*(0+((i:Nat):Int))+3) 2147483629 (by decide);omega,rfl⟩
   rintro ρ ⟨y,hy,rfl⟩;refine Ws.cut (fun ρ=>∃y:Int,(0<=y/\y<2147483647)/\ρ=[.sh (.lst (ns.map Dat.int)),.sh (.int k),.sh (.int c),.sh (.int y),.sh (.int f),.sh (.int (0+(i:Nat)))]) ?_ ?_
   ·repeat array_get_dec
    ·exact⟨_,by have:=cJ (y*y) 2147483587 (by decide);omega,rfl⟩
    ·exact .inl (by unfold B64;omega)
   rintro ρ ⟨z,hz,rfl⟩
   repeat array_get_dec
   exact⟨_,_,_,hz,rfl⟩
  ·rintro ρ ⟨x,f,c5,hx,rfl⟩
   repeat array_get_dec
   exact⟨_,rfl⟩
theorem F7(x m:Int)(h0:0<m)(h1:m<fq):bF [aK x,.int m]=some (.val (.int (x % m)),aK (x / m)):=by
 suffices h:WrM (bF [aK x,.int m]) fun v d=>v=.val (.int (x % m))/\d=aK (x / m) by obtain⟨v,d,h1,rfl,rfl⟩:=h;exact h1
 unfold bF;refine WrM.fn ?_ rfl rfl;dsimp only[List.map,List.replicate,List.cons_append,List.nil_append];unfold aK
 repeat array_get_dec
 ·refine Ws.Set ?_
  repeat array_get_dec
  ·refine⟨_,0,_,rfl,rfl,rfl,?_⟩
   repeat array_get_dec
   exact⟨_,rfl,rfl,rfl⟩
  ·exact⟨h0,h1⟩
 ·exact h0
noncomputable def Wtk(j:Nat)(m:Int)(ρ1:Env)(Q:Val->Env->Prop):Prop:=∃x ρ3,Q (.val (.int (x % m))) ρ3/\ρ1[j]?=some (.ow (aK x))/\ρ1.set j (.ow (aK (x / m)))=ρ3/\0<m/\m<fq
theorem qQ{j:Nat}{x m:Int}{ρ1 ρ3:Env}{Q:Val->Env->Prop}(q:Q (.val (.int (x % m))) ρ3)(h2:ρ1[j]?=some (.ow (aK x)))(hn:ρ1.set j (.ow (aK (x / m)))=ρ3)(h0:0<m)(h1:m<fq):Wtk j m ρ1 Q:=⟨_,_,q,h2,hn,h0,h1⟩
theorem We.take{j:Nat}{a:FE}{ρ:Env}{d0:Dat}{Q:Val->Env->Prop}(h:We a ρ fun v ρ1=>b5 v fun m=>Wtk j m ρ1 Q)(h0:ρ[j]?=some (.ow d0)):We (eFm bF j [a]) ρ Q:=by refine We.Fm (Was.cons ?_) h0;obtain⟨v,ρ1,e1,m,rfl,x,ρ3,q,e2,e3,m0,m1⟩:=h;exact⟨_,_,e1,Was.nil (WFm.any (F7 x m m0 m1) q e2 rfl e3)⟩
theorem We.drw{j:Nat}{a:FE}{ρ:Env}{x m:Int}{Q:Val->Env->Prop}(ha:a ρ=some (.val (.int m),ρ))(h0:0<m)(h1:m<fq)(hj:ρ[j]?=some (.ow (aK x)))(k:∀t x':Int,0<=t->t<m->∀ρ3,ρ.set j (.ow (aK x'))=ρ3->Q (.val (.int t)) ρ3):We (eFm bF j [a]) ρ Q:=
 We.take ⟨_,_,ha,m,rfl,qQ (k _ _ (cJ x m (by omega)).1 (cJ x m (by omega)).2 _ rfl) hj rfl h0 h1⟩ hj
noncomputable def Good(n:Int):Int->List Tie->Prop
 |_,[]=>True
 |lo,t::r=>lo<=t.m/\0<=t.a/\t.a<=t.b/\t.b<n/\Good n (t.m+1) r
theorem Good.lo{n:Int}:∀{r:List Tie} {lo:Int},Good n lo r->∀t∈r,lo<=t.m
 |[],_,_,t,ht=>by cases ht
 |u::r,lo,h,t,ht=>by
  obtain⟨h1,h2,h3,h4,h5⟩:=h;rcases List.mem_cons.mp ht with rfl | ht
  ·exact h1
  ·have:=Good.lo h5 t ht;omega
theorem Ws.k{s:FS}{ρ:Env}{Q B C:Env->Prop}{R:RV->Env->Prop}(h:∀K:Env->Prop,(∀ρ,Q ρ->K ρ)->Ws s ρ K R B C):Ws s ρ Q R B C:=h Q fun _ h=>h
theorem Good.snoc{n:Int}:∀{r:List Tie} {lo hi:Int} {t:Tie},Good n lo r->(∀u∈r,u.m<hi)->lo<=hi->hi=t.m->0<=t.a->t.a<=t.b->t.b<n->Good n lo (r++[t])
 |[],_,_,_,_,_,h,e,h1,h2,h3=>⟨by omega,h1,h2,h3,trivial⟩
 |u::r,lo,hi,t,h,hu,hl,e,h1,h2,h3=>by obtain⟨k1,k2,k3,k4,k5⟩:=h;exact⟨k1,k2,k3,k4,Good.snoc k5 (fun v hv=>hu v (List.mem_cons_of_mem _ hv)) (by have:=hu u List.mem_cons_self;omega) e h1 h2 h3⟩
theorem F8(x:Int):∃(n x':Int),sW [aK x]=some (.val (.int n),aK x')/\1<=n/\n<=10:=by
 suffices h:WrM (sW [aK x]) fun v d=>∃n x':Int,v=.val (.int n)/\d=aK x'/\1<=n/\n<=10 by obtain⟨v,d,h1,n,x',rfl,rfl,h2⟩:=h;exact⟨n,x',h1,h2⟩
 unfold sW;refine WrM.fn ?_ rfl rfl;dsimp only[List.map,List.replicate,List.cons_append,List.nil_append];refine Ws.R (We.e2 ?_)
 ((with_reducible refine Dm.We.L ?_);(with_reducible refine Dm.Was.cons ?_);(with_reducible refine Dm.We.c ?_);(with_reducible refine Dm.Was.cons ?_);(with_reducible refine Dm.We.c ?_);(with_reducible refine Dm.Was.cons ?_);(with_reducible refine Dm.We.c ?_);(with_reducible refine Dm.Was.cons ?_);(with_reducible refine Dm.We.c ?_);(with_reducible refine Dm.Was.cons ?_);(with_reducible refine Dm.We.c ?_);(with_reducible refine Dm.Was.cons ?_);(with_reducible refine Dm.We.c ?_);(with_reducible refine Dm.Was.cons ?_);(with_reducible refine Dm.We.c ?_);(with_reducible refine Dm.Was.cons ?_);(with_reducible refine Dm.We.c ?_);(with_reducible refine Dm.Was.nil ?_);(refine Dm.WT.mk ?_ rfl (by trivial) (by exact Nat.le_of_ble_eq_true rfl)))
 refine We.drw (m:=8) rfl (by decide) (by decide) rfl fun t x' h0 h1 ρ3 e=>?_
 subst e;have:t=0\/t=1\/t=2\/t=3\/t=4\/t=5\/t=6\/t=7:=by omega
 rcases this with rfl | rfl | rfl | rfl | rfl | rfl | rfl | rfl <;>
 ·refine Wg2.ix ?_ rfl rfl rfl
  exact⟨_,rfl,_,x',rfl,rfl,by decide,by decide⟩
theorem ix4(a b c d:Int)(x:Int)(h0:0<=x)(h:x<4):gIx (.lst [.int a,.int b,.int c,.int d]) (.int x)=some (.val (.int (if x=0 then a else if x=1 then b else if x=2 then c else d))):=by
 have:x=0\/x=1\/x=2\/x=3:=by omega
 rcases this with rfl | rfl | rfl | rfl<;>rfl
noncomputable abbrev Z28:Int:=10000000000000000000000000000
noncomputable abbrev Z30:Int:=1000000000000000000000000000000
noncomputable def RE(pool:Int)(n most many kind step times way Kq:Int)(r:List Tie)(c10 c11 c12:Cell):Env:=
 [.ow (aK pool),.sh (.int n),.sh (.int most),.sh (.int many),.sh (.int kind),.sh (.int step),.sh (.int times),.sh (.int way),.sh (.int Kq),.ow (aE r),c10,c11,c12]
theorem yf(a b:Int):(if b<a then b else a)<=(if b>a then b else a):=by split<;>split<;>omega
theorem zO(x n most:Int)(n1:1<=n)(n10:n<=10)(m0:0<=most)(m60:most<=60) :
  ∃(r:List Tie) (x':Int),pN [aK x,.int n,.int most]=some (.new (aE r),aK x')/\Good n 0 r/\(r.length:Int)<=most/\∀t∈r,t.m<=Z30:=by
 suffices hh:WrM (pN [aK x,.int n,.int most]) fun v d=>∃(r:List Tie) (x':Int),v=.new (aE r)/\d=aK x'/\Good n 0 r/\(r.length:Int)<=most/\∀t∈r,t.m<=Z30 by obtain⟨v,d,h1,h,x',rfl,rfl,h2⟩:=hh;exact⟨h,x',h1,h2⟩
 suffices hK:∀K:RV->Dat->Prop,(∀v d,(∃(r:List Tie) (x':Int),v=.new (aE r)/\d=aK x'/\Good n 0 r/\(r.length:Int)<=most/\∀t∈r,t.m<=Z30)->K v d)->WrM (pN [aK x,.int n,.int most]) K from hK _ fun _ _ h=>h
 intro K hK;unfold pN;refine WrM.fn ?_ rfl rfl;dsimp only[List.map,List.replicate,List.cons_append,List.nil_append];refine Ws.seq (Ws.A ?_ (by decide));refine We.drw (m:=most+1) rfl (by omega) (by unfold fq;omega) rfl fun many x1 h1 h2 ρ3 e=>?_
 subst e;refine WA.val ?_ (by trivial);refine Ws.seq (Ws.A ?_ (by decide));refine We.drw (m:=4) rfl (by decide) (by decide) rfl fun kind x2 k1 k2 ρ3 e=>?_
 subst e;refine WA.val ?_ (by trivial);refine Ws.cut (fun ρ=>∃step:Int,(1<=step/\step<=1000000/\(kind=3->step<=1000))/\ρ=[.ow (aK x2),.sh (.int n),.sh (.int most),.sh (.int many),.sh (.int kind),.sh (.int step),.un,.un,.un,.un,.un,.un,.un]) ?_ ?_
 ·refine Ws.k fun K0 hK0=>?_
  refine Ws.A (We.e2 (We.L (Was.cons (We.c (Was.cons (We.c (Was.cons (We.e2 (We.c (We.c (Wg2.pow (z:=1000000) ?_ rfl rfl (by decide) (by decide)))))))))))) (by decide);refine Was.cons (We.c (Was.nil (WT.mk ?_ rfl rfl (by exact Nat.le_of_ble_eq_true rfl))));refine We.v rfl (Wg2.ix ?_ rfl rfl (ix4 1 3 1000000 1000 kind k1 k2));refine WA.val ?_ (by trivial);refine hK0 _ ⟨_,?_,rfl⟩;have:kind=0\/kind=1\/kind=2\/kind=3:=by omega
  rcases this with q | q | q | q<;>rw[q]<;>decide
 rintro ρ ⟨step,hs,rfl⟩;refine Ws.cut (fun ρ=>∃times:Int,(0<=times/\step*times<=Z28)/\ρ=[.ow (aK x2),.sh (.int n),.sh (.int most),.sh (.int many),.sh (.int kind),.sh (.int step),.sh (.int times),.un,.un,.un,.un,.un,.un]) ?_ ?_
 ·refine Ws.k fun K1 hK1=>?_
  refine Ws.A (We.e2 (We.L (Was.cons (We.c (Was.cons (We.e2 (We.c (We.c (Wg2.pow (z:=10000000000000000000000000) ?_ rfl rfl (by decide) (by decide)))))))))) (by decide);refine Was.nil (WT.mk ?_ rfl rfl (by exact Nat.le_of_ble_eq_true rfl));refine We.B (Was.cons (We.e2 (We.v rfl (We.c (Wg2.eq ?_ rfl rfl)))));refine Was.nil (WB.int ?_ rfl);by_cases q:kind=3
  ·rw[decide_eq_true q]
   refine Wg2.ix (v:=.int 10000000000000000000000000) ?_ rfl rfl rfl;exact WA.val (hK1 _ ⟨10000000000000000000000000,⟨by decide,by have:=hs.2.2 q;unfold Z28;omega⟩,rfl⟩) (by trivial)
  ·rw[decide_eq_false q]
   refine Wg2.ix (v:=.int 1) ?_ rfl rfl rfl;exact WA.val (hK1 _ ⟨1,⟨by decide,by unfold Z28;omega⟩,rfl⟩) (by trivial)
 rintro ρ ⟨times,⟨ht,hst⟩,rfl⟩;have tb:∀t:Int,0<=t->t<step->t*times<=Z28:=fun t _ t2=>Int.le_trans (Int.mul_le_mul_of_nonneg_right (Int.le_of_lt t2) ht) hst
 refine Ws.seq (Ws.A ?_ (by decide));refine We.drw (m:=4) rfl (by decide) (by decide) rfl fun way x3 w1 w2 ρ3 e=>?_
 subst e;refine WA.val ?_ (by trivial);refine Ws.cut (fun ρ=>∃x4 mo:Int,(0<=mo/\mo<=Z28)/\ρ=[.ow (aK x4),.sh (.int n),.sh (.int most),.sh (.int many),.sh (.int kind),.sh (.int step),.sh (.int times),.sh (.int way),.sh (.int mo),.un,.un,.un,.un]) ?_ ?_
 ·refine Ws.k fun K2 hK2=>?_
  refine Ws.A (We.e2 ?_) (by decide);refine We.drw (m:=step) rfl (by omega) (by unfold fq;omega) rfl fun t x4 t1 t2 ρ3 e=>?_
  subst e;refine We.v rfl (Wg2.mul ?_ rfl rfl (.inl (by unfold B64;omega)));exact WA.val (hK2 _ ⟨_,_,⟨Int.mul_nonneg t1 ht,tb t t1 t2⟩,rfl⟩) (by trivial)
 rintro ρ ⟨x4,mo,hmo,rfl⟩;refine Ws.seq (Ws.A (We.L (Was.nil (WT.mk ?_ rfl rfl (by decide)))) (by decide));refine WA.new ?_ (by trivial);refine Ws.seq (Ws.For (Wi.R1 (We.v rfl (b5.mk ⟨?_,by unfold BIG;omega⟩))));refine Ws.inv (fun i:Nat=>Dat.int (0+(i:Nat))) _ _ (List.range many.toNat) _ _ _ _ _ (fun p q ρ=>∃(x mo:Int) (r:List Tie) (c10 c11 c12:Cell),ρ=RE x n most many kind step times way mo r c10 c11 c12/\Good n 0 r/\r.length=p.length/\(∀u∈r,u.m<mo)/\0<=mo/\mo<=((p.length:Int)+1)*(Z28+1))
  ⟨_,_,[],_,_,_,rfl,trivial,rfl,(fun u hu=>by cases hu),hmo.1,by have:=hmo.2;simp;omega⟩ ?_ ?_
 ·rintro p i q ρ e ⟨x,mo,r,c10,c11,c12,rfl,hg,hl,hu,hm,hM⟩
  have lp:p.length<100:=by
   have:(List.range many.toNat).length=p.length+(q.length+1):=by rw[e];simp
   rw[List.length_range]at this;omega
  unfold RE;refine Dm.aV rfl (by trivial) ?_;unfold Cb;refine Ws.k fun KL hKL=>?_
  refine Ws.seq (Ws.A ?_ (by decide));refine We.drw (m:=n) rfl (by omega) (by unfold fq;omega) rfl fun one y1 o1 o2 ρ3 e=>?_
  subst e;refine WA.val ?_ (by trivial);refine Ws.seq (Ws.A ?_ (by decide));refine We.drw (m:=n) rfl (by omega) (by unfold fq;omega) rfl fun oth y2 u1 u2 ρ3 e=>?_
  subst e;refine WA.val ?_ (by trivial);refine Ws.cut (fun ρ=>∃o:Int,(0<=o/\o<n)/\ρ=RE y2 n most many kind step times way mo r (.sh (.int (0+(i:Nat)))) (.sh (.int one)) (.sh (.int o))) ?_ ?_
  ·refine Ws.k fun K3 hK3=>?_
   refine Ws.If (Wt.V (We.e2 (We.v rfl (We.c (Wg2.eq (Wb.mk ?_) rfl rfl)))));refine Wif.dec (fun _=>?_) fun _=>?_
   ·refine Ws.A (We.e2 (We.e2 (We.v rfl (We.c (Wg2.add (We.v rfl (Wg2.mod ?_ rfl rfl (by omega))) rfl rfl))))) (by decide)
    exact WA.val (hK3 _ ⟨_,cJ _ n n1,rfl⟩) (by trivial)
   ·exact Ws.nx (hK3 _ ⟨oth,⟨u1,u2⟩,rfl⟩)
  rintro ρ ⟨o,⟨q1,q2⟩,rfl⟩;refine Ws.cut (fun ρ=>∃o:Int,(0<=o/\o<n)/\ρ=RE y2 n most many kind step times way mo r (.sh (.int (0+(i:Nat)))) (.sh (.int one)) (.sh (.int o))) ?_ ?_
  ·refine Ws.k fun K4 hK4=>?_
   unfold RE;refine Ws.If (Wt.V (We.e2 (We.v rfl (We.c (Wg2.eq (Wb.mk ?_) rfl rfl)))));refine Wif.dec (fun _=>?_) fun _=>?_
   ·refine Ws.A (We.e2 (We.e2 (We.e2 (We.e2 (We.v rfl (We.e2 (We.v rfl (We.c (Wg2.mod ?_ rfl rfl (by decide)))))))))) (by decide)
    refine Wg2.add ?_ rfl rfl;refine We.c (Wg2.add ?_ rfl rfl);refine We.B (Was.cons (We.v rfl (Was.cons (We.c (Was.nil (WB.min2 ?_ rfl))))));refine Wg2.mod ?_ rfl rfl (by split<;>omega);refine We.v rfl (Wg2.mod ?_ rfl rfl (by omega));exact WA.val (hK4 _ ⟨_,cJ _ n n1,rfl⟩) (by trivial)
   ·exact Ws.nx (hK4 _ ⟨o,⟨q1,q2⟩,rfl⟩)
  rintro ρ ⟨o,⟨q1,q2⟩,rfl⟩;unfold RE;refine Ws.seq (Ws.App (We.T (Was.cons (We.v rfl (Was.cons (We.B (Was.cons (We.v rfl (Was.cons (We.v rfl (Was.nil (WB.min2 ?_ rfl))))))))))) rfl);refine Was.cons (We.B (Was.cons (We.v rfl (Was.cons (We.v rfl (Was.nil (WB.max2 ?_ rfl)))))));refine Was.nil (WT.mk ?_ rfl rfl (by exact Nat.le_of_ble_eq_true rfl));refine Wk.val (gA ?_ rfl (by trivial) (by rw[List.length_map];unfold SZ;omega));refine Ws.A (We.e2 (We.e2 (We.v rfl (We.c (Wg2.add ?_ rfl rfl))))) (by decide);refine We.e2 ?_;refine We.drw (m:=step) rfl (by omega) (by unfold fq;omega) rfl fun t x4 t1 t2 ρ3 e=>?_
  subst e;refine We.v rfl (Wg2.mul ?_ rfl rfl (.inl (by unfold B64;omega)));refine Wg2.add ?_ rfl rfl;refine WA.val ?_ (by trivial);have tn:=Int.mul_nonneg t1 ht;refine hKL _ ⟨x4,mo+1+t*times,r++[⟨mo,(if o<one then o else one),(if o>one then o else one)⟩],.sh (.int (0+(i:Nat))),.sh (.int one),.sh (.int o),?_,?_,by simp[hl],?_,by omega,?_⟩
  ·unfold aE
   rw[List.map_append];rfl
  ·refine Good.snoc (hi:=mo) hg hu hm rfl ?_ (yf one o) ?_
   ·show 0<=(if o<one then o else one);split<;>omega
   ·show (if o>one then o else one)<n;split<;>omega
  ·intro u hu'
   rcases List.mem_append.mp hu' with h | h
   ·have:=hu u h;omega
   ·rw[List.mem_singleton.mp h];show mo<_;omega
  ·have:=tb t t1 t2
   rw[List.length_append,List.length_singleton];have e:(((p.length+1:Nat):Int)+1)*(Z28+1)=((p.length:Int)+1)*(Z28+1)+(Z28+1):=by rw[Int.natCast_add,Int.add_mul (((p.length:Int))+((1:Nat):Int)) 1,Int.one_mul];rfl
   rw[e];omega
 ·rintro ρ ⟨x,mo,r,c10,c11,c12,rfl,hg,hl,hu,hm,hM⟩
  unfold RE;refine Ws.R (We.w rfl (WR.slot ?_ rfl));rw[List.length_range]at hM hl;refine⟨_,rfl,hK _ _ ⟨r,x,rfl,rfl,hg,?_,fun t ht=>?_⟩⟩
  ·rw[hl]
   omega
  ·have h1:=hu t ht
   have h2:((many.toNat:Int)+1)*(Z28+1)<=61*(Z28+1):=Int.mul_le_mul_of_nonneg_right (by omega) (by decide);have h3:(61:Int)*(Z28+1)<=Z30:=by decide
   omega
noncomputable def e7(r:List Tie)(S:Int->Bool):Nat:=(r.filter (over S)).length
theorem yg{r:List Tie}(S:Int->Bool):∀{w:List Step} {x y:Int},Way (fQ r) x w y->S x=true->S y=false->∃s∈w,s.1∈(r.filter (over S)).map (·.m)
 |[],x,y,h,h1,h2=>by cases h;rw[h1]at h2;cases h2
 |s::w,x,y,h,h1,h2=>by
  cases hs:S s.2 with
  |true=>obtain⟨u,hu,k⟩:=yg S h.2 hs h2;exact⟨u,List.mem_cons_of_mem _ hu,k⟩
  |false=>
   obtain⟨t,ht,hm,_,he⟩:=h.1;refine⟨s,List.mem_cons_self,List.mem_map.mpr ⟨t,List.mem_filter.mpr ⟨ht,?_⟩,hm⟩⟩;unfold over;rcases he with⟨e1,e2⟩ | ⟨e1,e2⟩
   ·rw[e1,e2,h1,hs];rfl
   ·rw[e1,e2,h1,hs];rfl
theorem picks{r:List Tie}{a b:Int}(S:Int->Bool)(ha:S a=true)(hb:S b=false):∀(ws:List (List Step)),(∀w∈ws,Way (fQ r) a w b)->(ws.map mso).flatten.Nodup ->
  ∃ps:List Int,ps.length=ws.length/\ps.Nodup/\∀m∈ps,m∈(ws.map mso).flatten/\m∈(r.filter (over S)).map (·.m)
 |[],_,_=>⟨[],rfl,by simp,by simp⟩
 |w::ws,h,nd=>by
  rw[List.map_cons,List.flatten_cons]at nd;obtain⟨n1,n2,n3⟩:=List.nodup_append.mp nd;obtain⟨ps,p1,p2,p3⟩:=picks S ha hb ws (fun v hv=>h v (List.mem_cons_of_mem _ hv)) n2;obtain⟨s,hs,k⟩:=yg S (h w List.mem_cons_self) ha hb;have hsm:s.1∈mso w:=List.mem_map.mpr ⟨s,hs,rfl⟩;refine⟨s.1::ps,by simp[p1],List.nodup_cons.mpr ⟨fun z=>n3 _ hsm _ (p3 _ z).1 rfl,p2⟩,fun m hm=>?_⟩;rw[List.map_cons,List.flatten_cons];rcases List.mem_cons.mp hm with rfl | hm
  ·exact⟨List.mem_append_left _ hsm,k⟩
  ·exact⟨List.mem_append_right _ (p3 m hm).1,(p3 m hm).2⟩
theorem Pn{r:List Tie}{a b:Int}{ws:List (List Step)}(W:Ct r a b ws){S:Int->Bool}(ha:S a=true)(hb:S b=false):ws.length<=e7 r S:=by
 obtain⟨ps,p1,p2,p3⟩:=picks S ha hb ws (fun w hw=>(W.way w hw).way) W.nd;have:=dg ps _ p2 fun m hm=>(p3 m hm).2
 rw[List.length_map]at this;unfold e7;omega
theorem zP(r:List Tie)(S:Int->Bool):e7 r (fun x=>!S x)=e7 r S:=by
 unfold e7
 congr 1
 apply List.filter_congr;intro t _;unfold over;dsimp only;cases S t.a<;>cases S t.b<;>rfl
theorem F9{x y:Tie}(h:x.m=y.m/\x.a=y.a/\x.b=y.b):x=y:=by cases x;cases y;obtain⟨h1,h2,h3⟩:=h;dsimp only at h1 h2 h3;rw[h1,h2,h3]
structure Fit(n:Nat)(r:List Tie):Prop where
 n40:n<=40
 pl:Pl n r
 nd:(r.map (·.m)).Nodup
 len:r.length<=1000
theorem Fit.sub{n:Nat}{r K:List Tie}(h:Fit n r)(s:K.Sublist r):Fit n K:=⟨h.n40,fun t ht=>h.pl t (s.subset ht),h.nd.sublist (s.map _),Nat.le_trans s.length_le h.len⟩
theorem oK{n:Nat}{r:List Tie}(h:Fit n r){a b:Int}(a0:0<=a)(a1:a<n)(b0:0<=b)(b1:b<n){k:Nat}(k6:k<=6) :
  ∃c:Bool,pL [.int n,aE r,.int a,.int b,.int k]=some (.val (.bl c))/\(c=true->∀S:Int->Bool,S a=true->S b=false->k<=e7 r S)/\(c=false->∃S:Int->Bool,S a=true/\S b=false/\e7 r S<k):=by
 obtain⟨ws,o,e,A⟩:=gp n h.n40 r h.pl h.nd h.len a b a0 a1 b0 b1 k (by omega) (by omega);refine⟨isN (dY o),?_,fun z S s1 s2=>?_,fun z=>?_⟩
 ·apply Wr.eq
  unfold pL
  (refine Dm.Wr.fn ?_ rfl rfl;dsimp only[List.map,List.replicate,List.cons_append,List.nil_append])
  refine Ws.R (We.e2 (We.e2 (We.F (Was.cons (We.v rfl (Was.cons (We.v rfl (Was.cons (We.v rfl (Was.cons (We.v rfl (Was.cons (We.v rfl (Was.nil (WF.box e ?_ rfl rfl rfl rfl)))))))))))))));refine We.c (Wg2.ix ?_ rfl rfl rfl);exact We.c (Wg2.isN rfl rfl rfl)
 ·cases o with
  |none=>have:=A.all rfl;have:=Pn A.ways s1 s2;omega
  |some S=>cases z
 ·cases o with
  |none=>cases z
  |some S=>
   obtain⟨⟨_,_,h1,h2⟩,h3,h4⟩:=A.side S rfl;refine⟨fun x=>decide (x∈S),decide_eq_true h1,decide_eq_false h2,?_⟩;have:e7 r (fun x=>decide (x∈S))=(Cu r S).length:=by unfold Cu;rw[List.length_map];rfl
   omega
theorem tH(i:Int):FJ [.int i]=some (.val (.bl true)):=by
 apply Wr.eq;unfold FJ
 (refine Dm.Wr.fn ?_ rfl rfl;dsimp only[List.map,List.replicate,List.cons_append,List.nil_append])
 refine Ws.R (We.And (We.e1 (We.v rfl (Wg1.mk ?_ rfl rfl))));refine Wb.mk (Wif.t (We.Not (We.e1 (We.v rfl (Wg1.mk ?_ rfl rfl)))));exact Wb.mk rfl
theorem dh(i lo hi:Int)(h0:lo<=i)(h1:i<=hi):sL [.int i,.int lo,.int hi]=some (.val (.bl true)):=by unfold sL;simp[fn,sR,gv,eF,eAs,eV,pks,pk,tH,RV.bD,RV.dat,dS,lC,gLe,h0,h1]
theorem mE(k:Int)(h0:1<=k)(h1:k<=6):xU [.int k]=some (.val .non):=by
 have e:vU [.int k]=some (.val (.bl true)):=by
  apply Wr.eq;unfold vU
  (refine Dm.Wr.fn ?_ rfl rfl;dsimp only[List.map,List.replicate,List.cons_append,List.nil_append])
  refine Ws.R (We.F (Was.cons (We.v rfl (Was.cons (We.c (Was.cons (We.c (Was.nil (WF.val (dh k 1 6 h0 h1) ?_ rfl rfl)))))))));rfl
 apply Wr.eq;unfold xU
 (refine Dm.Wr.fn ?_ rfl rfl;dsimp only[List.map,List.replicate,List.cons_append,List.nil_append])
 refine Ws.If (Wt.Not (Wt.V (We.F (Was.cons (We.v rfl (Was.nil (WF.val e ?_ rfl rfl)))))));exact Wb.mk (Wif.f (Ws.nx rfl))
noncomputable def mgf(f:Int->Int)(a b:Int):Int->Int:=fun x=>if f x=f b then f a else f x
inductive Con(ts:List Tie):Int->Int->Prop
 |refl (x:Int):Con ts x x
 |tie (t:Tie):t∈ts->Con ts t.a t.b
 |symm {x y:Int}:Con ts x y->Con ts y x
 |trans {x y z:Int}:Con ts x y->Con ts y z->Con ts x z
theorem Con.mono{ts us:List Tie}(h:∀t∈ts,t∈us){x y:Int}(c:Con ts x y):Con us x y:=by
 induction c with
 |refl x=>exact .refl x
 |tie t m=>exact .tie t (h t m)
 |symm _ ih=>exact .symm ih
 |trans _ _ i1 i2=>exact .trans i1 i2
noncomputable def Tells(f:Int->Int)(ts:List Tie):Prop:=∀x y,f x=f y↔Con ts x y
theorem Con.nil{x y:Int}(c:Con [] x y):x=y:=by
 induction c with
 |refl x=>rfl
 |tie t m=>cases m
 |symm _ ih=>exact ih.symm
 |trans _ _ i1 i2=>exact i1.trans i2
theorem tells_nil:Tells (fun x=>x) []:=fun x y=>⟨fun h=>by cases h;exact .refl _,fun c=>c.nil⟩
theorem tells_same{f:Int->Int}{ts us:List Tie}(h:Tells f ts)(e:∀t,t∈ts↔t∈us):Tells f us:=fun x y=>(h x y).trans ⟨Con.mono fun t m=>(e t).mp m,Con.mono fun t m=>(e t).mpr m⟩
theorem tells_mgf{f:Int->Int}{ts:List Tie}(h:Tells f ts)(t:Tie)(a b:Int)(hab:(a=t.a/\b=t.b)\/(a=t.b/\b=t.a)):Tells (mgf f a b) (t::ts):=by
 have up:∀{x y},f x=f y->Con (t::ts) x y:=fun e=>Con.mono (fun u m=>List.mem_cons_of_mem _ m) ((h _ _).mp e)
 have ab:Con (t::ts) a b:=by
  rcases hab with⟨rfl,rfl⟩ | ⟨rfl,rfl⟩
  ·exact .tie t List.mem_cons_self
  ·exact .symm (.tie t List.mem_cons_self)
 intro x y;unfold mgf;constructor
 ·intro e
  by_cases hx:f x=f b
  ·rw[if_pos hx]at e
   by_cases hy:f y=f b
   ·exact up (hx.trans hy.symm)
   ·rw[if_neg hy]at e
    exact .trans (up hx) (.trans (.symm ab) (up e))
  ·rw[if_neg hx]at e
   by_cases hy:f y=f b
   ·rw[if_pos hy]at e
    exact .trans (up e) (.trans ab (.symm (up hy)))
   ·rw[if_neg hy]at e
    exact up e
 ·intro c
  have key:∀{x y:Int},Con (t::ts) x y->(if f x=f b then f a else f x)=(if f y=f b then f a else f y):=fun c=>by
   induction c with
   |refl x=>rfl
   |tie u m=>
    rcases List.mem_cons.mp m with rfl | m
    ·rcases hab with⟨rfl,rfl⟩ | ⟨rfl,rfl⟩
     ·rw[if_pos (rfl:f u.b=f u.b)]
      split
      ·rfl
      ·rfl
     ·rw[if_pos (rfl:f u.a=f u.a)]
      split
      ·rfl
      ·rfl
    ·have e:=(h u.a u.b).mpr (.tie u m)
     rw[e]
   |symm _ ih=>exact ih.symm
   |trans _ _ i1 i2=>exact i1.trans i2
  exact key c
noncomputable def lay(r:List Tie)(ms:List Int)(j:Int):List Tie:=((r.zip ms).filter fun p=>decide (p.2=j)).map (·.1)
theorem ju(t:Tie)(m:Int)(r:List Tie)(ms:List Int)(j:Int):lay (t::r) (m::ms) j=if m=j then t::lay r ms j else lay r ms j:=by unfold lay;rw[List.zip_cons_cons,List.filter_cons];by_cases h:m=j<;>simp[h]
noncomputable def tK(k:Int)(r:List Tie)(ms:List Int)(t:Tie)(m:Int):Prop:=
 (m=0/\∀j,1<=j->j<=k->Con (lay r ms j) t.a t.b)\/(1<=m/\m<=k/\¬Con (lay r ms m) t.a t.b/\∀j,1<=j->j<m->Con (lay r ms j) t.a t.b)
noncomputable def bS(k:Int):List Tie->List Int->Prop
 |[],[]=>True
 |t::r,m::ms=>bS k r ms/\tK k r ms t m
 |_,_=>False
theorem tK.uniq{k:Int}{r:List Tie}{ms:List Int}{t:Tie}{m m':Int}(h:tK k r ms t m)(h':tK k r ms t m'):m=m':=by
 rcases h with⟨rfl,h⟩ | ⟨h1,h2,h3,h4⟩
 ·rcases h' with⟨rfl,_⟩ | ⟨g1,g2,g3,_⟩
  ·rfl
  ·exact absurd (h m' g1 g2) g3
 ·rcases h' with⟨rfl,h'⟩ | ⟨g1,g2,g3,g4⟩
  ·exact absurd (h' m h1 h2) h3
  ·rcases Int.lt_trichotomy m m' with q | q | q
   ·exact absurd (g4 m h1 q) h3
   ·exact q
   ·exact absurd (h4 m' g1 q) g3
theorem bS.len{k:Int}:∀{r:List Tie} {ms:List Int},bS k r ms->ms.length=r.length
 |[],[],_=>rfl
 |_::r,_::ms,h=>by simp[bS.len h.1]
 |[],_::_,h=>h.elim
 |_::_,[],h=>h.elim
theorem bS.uniq{k:Int}:∀{r:List Tie} {ms ms':List Int},bS k r ms->bS k r ms'->ms=ms'
 |[],[],[],_,_=>rfl
 |_::r,m::ms,m'::ms',h,h'=>by have e:=bS.uniq h.1 h'.1;subst e;rw[h.2.uniq h'.2]
 |[],_::_,_,h,_=>h.elim
 |[],[],_::_,_,h=>h.elim
 |_::_,[],_,h,_=>h.elim
 |_::_,_::_,[],_,h=>h.elim
noncomputable def lab(n:Nat)(f:Int->Int):Dat:=.lst ((List.range n).map fun(i:Nat)=>Dat.int (f i))
theorem ck(n:Nat)(f:Int->Int)(x:Int)(h0:0<=x)(h1:x<n):gIx (lab n f) (.int x)=some (.val (.int (f x))):=by
 unfold lab gIx atI ixN;have hx:x.toNat<n:=by omega
 have hc:((x.toNat:Nat):Int)=x:=by omega
 simp only[List.length_map,List.length_range,h0,h1,if_true];simp[List.getElem?_range hx,hc]
theorem qR(n:Nat):Dat.lst (ups 0 n)=lab n fun x=>x:=by unfold ups lab;simp
theorem yh(n:Nat)(f:Int->Int):lab n f=.lst (((List.range n).map fun(i:Nat)=>f i).map Dat.int):=by unfold lab;rw[List.map_map];rfl
theorem zQ(n:Nat)(hn:n<=10)(f:Int->Int)(a b:Int)(a0:0<=a)(a1:a<n)(b0:0<=b)(b1:b<n):xW [lab n f,.int a,.int b]=some (.new (lab n (mgf f a b))):=by
 apply Wr.eq;unfold xW
 (refine Dm.Wr.fn ?_ rfl rfl;dsimp only[List.map,List.replicate,List.cons_append,List.nil_append])
 refine Ws.R (We.zH (fun i:Nat=>Dat.int (f i)) (List.range n) (fun i:Nat=>mgf f a b i) Dat.int (d:=lab n f) ?_ rfl rfl rfl (by decide) (by rw[List.length_range];unfold SZ;omega) fun i _=>?_)
 ·rw[<- yh];rfl
 ·refine We.If (Wt.V (We.e2 (We.v rfl (We.e2 (We.v rfl (We.v rfl (Wg2.ix ?_ rfl rfl (ck n f b b0 b1))))))))
  refine Wg2.eq (Wb.mk ⟨fun g=>?_,fun g=>?_⟩) rfl rfl
  ·refine We.e2 (We.v rfl (We.v rfl (Wg2.ix (Wk.val ⟨?_,rfl⟩) rfl rfl (ck n f a a0 a1))))
   unfold mgf;rw[if_pos (of_decide_eq_true g)]
  ·refine We.v rfl (Wk.val ⟨?_,rfl⟩)
   unfold mgf;rw[if_neg (of_decide_eq_false g)]
theorem mF{α:Type}(enc:α->Dat)(d:α):∀(k:Nat) (l:List α),je k (l.map enc)=(List.range l.length).map fun i=>.tup [.int ((k+i:Nat):Int),enc (l.getD i d)]
 |k,[]=>rfl
 |k,x::l=>by
  rw[List.map_cons,je,mF enc d (k+1) l,List.length_cons,List.range_succ_eq_map,List.map_cons,List.map_map]
  congr 1
  apply List.map_congr_left;intro i _;show _=Dat.tup [.int ((k+(i+1):Nat):Int),enc ((x::l).getD (i+1) d)];rw[show k+1+i=k+(i+1) by omega];rfl
theorem dG{n k:Nat}{p q:List Nat}(e:List.range n=p++k::q):k=p.length/\k<n:=by
 have h1:(List.range n)[p.length]?=some k:=by rw[e,List.getElem?_append_right (Nat.le_refl _),Nat.sub_self];rfl
 have h2:p.length<n:=by
  have:(List.range n).length=p.length+(q.length+1):=by rw[e];simp
  rw[List.length_range]at this;omega
 rw[List.getElem?_range h2]at h1;injection h1 with h1
 omega
noncomputable def Cy(gs:List (Int->Int))(a b:Int)(i:Nat)(num:Int):Prop:=
 (num=0/\∀(j:Nat) f,j<i->gs[j]?=some f->f a=f b)\/∃(j:Nat) (f:Int->Int),j<i/\gs[j]?=some f/\f a≠f b/\(∀(j':Nat) f',j'<j->gs[j']?=some f'->f' a=f' b)/\num=(j:Int)+1
theorem Cz(n:Nat)(gs:List (Int->Int))(a b:Int)(a0:0<=a)(a1:a<n)(b0:0<=b)(b1:b<n):∃num:Int,sM [.lst (gs.map (lab n)),.int a,.int b]=some (.val (.int num))/\Cy gs a b gs.length num:=by
 suffices hh:Wr (sM [.lst (gs.map (lab n)),.int a,.int b]) fun v=>∃num:Int,v=.val (.int num)/\Cy gs a b gs.length num by obtain⟨v,h1,num,rfl,h2⟩:=hh;exact⟨num,h1,h2⟩
 unfold sM
 (refine Dm.Wr.fn ?_ rfl rfl;dsimp only[List.map,List.replicate,List.cons_append,List.nil_append])
 refine Ws.seq (Ws.For (Wi.En (We.v rfl (Wk.val ⟨_,rfl,?_⟩))));rw[mF (lab n) fun x=>x];refine Ws.inv (fun i:Nat=>Dat.tup [.int ((0+i:Nat):Int),lab n (gs.getD i fun x=>x)]) _ _ (List.range gs.length) _ _ _ _ _ (fun p q ρ=>∃c3 c4:Cell,ρ=[.sh (.lst (gs.map (lab n))),.sh (.int a),.sh (.int b),c3,c4]/\∀(j:Nat) f,j<p.length->gs[j]?=some f->f a=f b) ⟨_,_,rfl,fun j f hj=>by simp at hj⟩ ?_ ?_
 ·rintro p i q ρ e ⟨c3,c4,rfl,low⟩
  obtain⟨ip,il⟩:=dG e;have hf:gs[i]?=some (gs.getD i fun x=>x):=by rw[List.getD_eq_getElem?_getD,List.getElem?_eq_getElem il];rfl
  generalize (gs.getD i fun x=>x)=f at hf
  refine Dm.aV rfl (by trivial) ?_;unfold BX;refine Ws.If (Wt.V (We.e2 (We.e2 (We.v rfl (We.v rfl (Wg2.ix ?_ rfl rfl (ck n f a a0 a1)))))));refine We.e2 (We.v rfl (We.v rfl (Wg2.ix ?_ rfl rfl (ck n f b b0 b1))));refine Wg2.ne (Wb.mk ?_) rfl rfl;by_cases h:f a=f b
  ·refine Wif.no (by simp[h]) (Ws.nx ⟨_,_,rfl,fun j g hj hg=>?_⟩)
   rw[List.length_append,List.length_singleton]at hj;by_cases q:j=i
   ·subst q;rw[hf]at hg;cases hg;exact h
   ·exact low j g (by omega) hg
  ·refine Wif.yes (by simp[h]) (Ws.R (We.e2 (We.v rfl (We.c (Wg2.add ?_ rfl rfl)))))
   exact⟨_,rfl,.inr ⟨i,f,il,hf,h,fun j g hj=>low j g (by omega),by omega⟩⟩
 ·rintro ρ ⟨c3,c4,rfl,low⟩
  rw[List.length_range]at low;exact Ws.R (We.c ⟨0,rfl,.inl ⟨rfl,low⟩⟩)
noncomputable def Ends(n:Int)(r:List Tie):Prop:=∀t∈r,0<=t.a/\t.a<n/\0<=t.b/\t.b<n
noncomputable def F_(k:Nat)(gs:List (Int->Int))(r:List Tie)(ms:List Int):Prop:=gs.length=k/\∀(j:Nat) f,gs[j]?=some f->Tells f (lay r ms ((j:Int)+1))
theorem map_set(n:Nat)(gs:List (Int->Int))(i:Nat)(f:Int->Int):(gs.map (lab n)).set i (lab n f)=(gs.set i f).map (lab n):=by rw[List.map_set]
noncomputable def CA(o:Bool)(gs gs':List (Int->Int))(a b:Int)(i:Nat)(num:Int):Prop:=
 (num=0/\gs'=gs/\∀(j:Nat) f,j<i->gs[j]?=some f->f a=f b)\/∃(j:Nat) (f:Int->Int),j<i/\gs[j]?=some f/\f a≠f b/\(∀(j':Nat) f',j'<j->gs[j']?=some f'->f' a=f' b)/\num=(j:Int)+1/\gs'=gs.set j (mgf f (if o then a else b) (if o then b else a))
theorem CA.num{k:Nat}{o:Bool}{gs gs':List (Int->Int)}{r:List Tie}{ms:List Int}(h:F_ k gs r ms)(t:Tie){num:Int}(l:CA o gs gs' t.a t.b k num):tK k r ms t num/\F_ k gs' (t::r) (num::ms):=by
 obtain⟨hl,ht⟩:=h;rcases l with⟨rfl,rfl,h2⟩ | ⟨j,f,jk,h1,h3,h4,rfl,rfl⟩
 ·refine⟨.inl ⟨rfl,fun j j1 j2=>?_⟩,hl,fun i g hg=>?_⟩
  ·have hj:(j-1).toNat<gs'.length:=by omega
   have:=(ht (j-1).toNat _ (List.getElem?_eq_getElem hj) t.a t.b).mp (h2 _ _ (by omega) (List.getElem?_eq_getElem hj));rw[show (((j-1).toNat:Nat):Int)+1=j by omega]at this;exact this
  ·rw[ju,if_neg (by omega)]
   exact ht i g hg
 ·have hj:j<gs.length:=(List.getElem?_eq_some_iff.mp h1).1
  refine⟨.inr ⟨by omega,by omega,fun c=>h3 ((ht j f h1 t.a t.b).mpr c),fun i i1 i2=>?_⟩,by rw[List.length_set];exact hl,fun i g hg=>?_⟩
  ·have hi:(i-1).toNat<gs.length:=by omega
   have:=(ht (i-1).toNat _ (List.getElem?_eq_getElem hi) t.a t.b).mp (h4 (i-1).toNat _ (by omega) (List.getElem?_eq_getElem hi));rw[show (((i-1).toNat:Nat):Int)+1=i by omega]at this;exact this
  ·rw[ju]
   by_cases q:j=i
   ·subst q
    rw[List.getElem?_set_self hj]at hg;cases hg;rw[if_pos rfl];cases o
    ·exact tells_mgf (ht j f h1) t t.b t.a (.inr ⟨rfl,rfl⟩)
    ·exact tells_mgf (ht j f h1) t t.a t.b (.inl ⟨rfl,rfl⟩)
   ·rw[List.getElem?_set_ne q]at hg
    rw[if_neg (by omega)];exact ht i g hg
theorem Nq(n:Nat)(gs:List (Int->Int)){i:Nat}{f:Int->Int}(h:gs[i]?=some f):gIx (.lst (gs.map (lab n))) (.int (0+(i:Nat)))=some (.val (lab n f)):=by
 have hi:=(List.getElem?_eq_some_iff.mp h).1;rw[Int.zero_add];show (atI (gs.map (lab n)) i).map RV.val=_;rw[Dm.kZ (lab n) gs (i:Nat) (by omega) (by omega)];have:gs[((i:Nat):Int).toNat]'(by omega)=f:=by
  have:=List.getElem?_eq_some_iff.mp h
  simpa using this.2
 rw[this];rfl
theorem Po(k:Nat):F_ k ((List.range k).map fun _=>(fun x:Int=>x)) [] []:=⟨by simp,fun j f hf=>by
 rw[List.getElem?_map]at hf;cases h:(List.range k)[j]? with
 |none=>rw[h]at hf;cases hf
 |some x=>rw[h]at hf;cases hf;exact tells_nil⟩
theorem gF(n k:Nat)(hn:n<=10)(hk1:1<=k)(hk6:k<=6)(r:List Tie)(hr:Ends n r)(hl:r.length<=1000):∃ms:List Int,pI [.int n,aE r,.int k]=some (.new (.lst (ms.map Dat.int)))/\bS k r ms:=by
 suffices hh:Wr (pI [.int (n:Nat),aE r,.int (k:Nat)]) fun v=>∃ms:List Int,v=.new (.lst (ms.map Dat.int))/\bS k r ms by obtain⟨v,h1,ms,rfl,h2⟩:=hh;exact⟨ms,h1,h2⟩
 unfold pI
 (refine Dm.Wr.fn ?_ rfl rfl;dsimp only[List.map,List.replicate,List.cons_append,List.nil_append])
 refine Ws.seq (Ws.E (We.F (Was.cons (We.v rfl (Was.nil (WF.val (mE k (by omega) (by omega)) ?_ rfl rfl))))));refine Ws.seq (Ws.A (We.Map (fun i:Nat=>Dat.int (0+(i:Nat))) (List.range k) (fun _=>(fun x:Int=>x)) (lab n) (ρ1:=[.sh (.int (n:Nat)),.sh (aE r),.sh (.int (k:Nat)),.un,.un,.un,.un,.un,.un]) ?_ ?_ rfl (by decide) (by rw[List.length_range];unfold SZ;omega) fun i _=>?_) (by decide))
 rotate_left
 ·apply Wi.get
  refine Wi.R1 (We.v rfl (b5.mk ⟨⟨?_,rfl⟩,by unfold BIG;omega,by unfold BIG;omega⟩));rw[Int.toNat_natCast];rfl
 ·refine We.B (Was.cons (We.v rfl (Was.nil (WB.FH ?_ rfl (by omega)))))
  rw[Int.toNat_natCast,qR];exact Wk.new ⟨rfl,rfl⟩
 refine WA.new ?_ (by trivial);refine Ws.seq (Ws.A (We.L (Was.nil (WT.mk ?_ rfl rfl (by decide)))) (by decide));refine WA.new ?_ (by trivial);refine Ws.seq (Ws.For (Wi.Rev (We.v rfl (Wk.val ⟨_,rfl,?_⟩))));rw[<- List.map_reverse];refine Ws.inv bf _ _ r.reverse _ _ _ _ _ (fun p q ρ=>∃(gs:List (Int->Int)) (ms:List Int) (c5 c6 c7 c8:Cell),ρ=[.sh (.int (n:Nat)),.sh (aE r),.sh (.int (k:Nat)),.ow (.lst (gs.map (lab n))),.ow (.lst (ms.reverse.map Dat.int)),c5,c6,c7,c8]/\F_ k gs p.reverse ms/\bS k p.reverse ms) ⟨(List.range k).map fun _=>(fun x:Int=>x),[],.un,.un,.un,.un,rfl,Po k,trivial⟩ ?_ ?_
 ·rintro p t q ρ e ⟨gs,ms,c5,c6,c7,c8,rfl,I,A⟩
  have ht:t∈r:=List.mem_reverse.mp (by rw[e];simp);obtain⟨t0,t1,t2,t3⟩:=hr t ht;have lp:ms.length<=1000:=by
   have a:=A.len;have:r.reverse.length=p.length+(q.length+1):=by rw[e];simp
   rw[List.length_reverse]at a this;omega
  obtain⟨num,en,ln⟩:=Cz n gs t.a t.b t0 t1 t2 t3;rw[I.1]at ln;refine Dm.aV rfl (by trivial) ?_;unfold BY;refine Ws.seq (Ws.A (We.F (Was.cons (We.w rfl (Was.cons (We.v rfl (Was.cons (We.v rfl (Was.nil (WF.val en (WA.val ?_ (by trivial)) rfl rfl))))))))) (by decide));refine Ws.cut (fun ρ=>∃gs',ρ=[.sh (.int (n:Nat)),.sh (aE r),.sh (.int (k:Nat)),.ow (.lst (gs'.map (lab n))),.ow (.lst (ms.reverse.map Dat.int)),.sh (.int t.m),.sh (.int t.a),.sh (.int t.b),.sh (.int num)]/\CA true gs gs' t.a t.b k num) ?_ ?_
  ·refine Ws.If (Wt.V (We.e2 (We.v rfl (We.c (Wg2.gt (Wb.mk ?_) rfl rfl)))))
   rcases ln with⟨rfl,low⟩ | ⟨j,f,jk,hf,ne,low,rfl⟩
   ·exact Wif.no rfl (Ws.nx ⟨gs,rfl,.inl ⟨rfl,rfl,low⟩⟩)
   ·have gi:gIx (.lst (gs.map (lab n))) (.int ((j:Int)+1-1))=some (.val (lab n f)):=by
     have:=Nq n gs hf;rw[show (j:Int)+1-1=0+(j:Nat) by omega];exact this
    refine Wif.yes (decide_eq_true (by omega)) ?_;refine Ws.Set (We.F (Was.cons (We.e2 (We.w rfl (We.e2 (We.v rfl (We.c (Wg2.sub (Wg2.ix ?_ rfl rfl gi) rfl rfl))))))));refine Was.cons (We.v rfl (Was.cons (We.v rfl (Was.nil (WF.box (zQ n hn f t.a t.b t0 t1 t2 t3) ?_ rfl rfl rfl (by trivial))))));refine Wk.new ⟨⟨_,rfl⟩,We.e2 (We.v rfl (We.c (Wg2.sub (b5.mk ⟨gs.map (lab n),j,_,rfl,?_,rfl,?_⟩) rfl rfl)))⟩
    ·have hj:j<gs.length:=(List.getElem?_eq_some_iff.mp hf).1
     rw[List.length_map];unfold ixN;rw[if_pos (by omega),if_pos (by omega)]
     congr 1
     omega
    ·exact⟨gs.set j (mgf f t.a t.b),by rw[<- map_set];rfl,.inr ⟨j,f,jk,hf,ne,low,rfl,rfl⟩⟩
  ·rintro ρ ⟨gs',rfl,L⟩
   obtain⟨h1,h2⟩:=L.num I t;refine Ws.App (We.v rfl (Wk.val (gA ?_ rfl (by trivial) (by rw[List.length_map,List.length_reverse];unfold SZ;omega)))) rfl;refine⟨gs',num::ms,.sh (.int t.m),.sh (.int t.a),.sh (.int t.b),.sh (.int num),by rw[List.reverse_cons,List.map_append];rfl,?_⟩;rw[List.reverse_append];exact⟨h2,A,h1⟩
 ·rintro ρ ⟨gs,ms,c5,c6,c7,c8,rfl,I,A⟩
  rw[List.reverse_reverse]at A;refine Ws.R (We.e1 (We.w rfl (Wg1.mk (v:=.new (.lst (ms.map Dat.int))) ?_ rfl ?_)))
  ·exact⟨ms,rfl,A⟩
  ·unfold lS
   dsimp only;rw[<- List.map_reverse,List.reverse_reverse]
theorem Good.mem{n:Int}:∀{r:List Tie} {lo:Int},Good n lo r->∀t∈r,0<=t.a/\t.a<=t.b/\t.b<n
 |[],_,_,t,h=>by cases h
 |x::r,lo,g,t,h=>by
  rcases List.mem_cons.mp h with rfl | h
  ·exact⟨g.2.1,g.2.2.1,g.2.2.2.1⟩
  ·exact Good.mem g.2.2.2.2 t h
noncomputable def keep(r:List Tie)(ms:List Int):List Tie:=((r.zip ms).filter fun p=>decide (0<p.2)).map (·.1)
theorem jS(t:Tie)(m:Int)(r:List Tie)(ms:List Int):keep (t::r) (m::ms)=if 0<m then t::keep r ms else keep r ms:=by unfold keep;rw[List.zip_cons_cons,List.filter_cons];by_cases h:0<m<;>simp[h]
noncomputable def zE(x:Tie×Int):Dat:=.tup [bf x.1,.int x.2]
theorem yi:∀(r:List Tie) (ms:List Int),gh (r.map bf) (ms.map Dat.int)=(r.zip ms).map zE
 |[],_=>by simp[gh]
 |_::_,[]=>by simp[gh]
 |t::r,m::ms=>by rw[List.map_cons,List.map_cons,gh,yi r ms,List.zip_cons_cons,List.map_cons];rfl
theorem We.Pp(r:List Tie)(ms:List Int)(p:Tie×Int->Bool){it:FI}{k:Nat}{t:FT}{ρ ρ1:Env}{Q:Val->Env->Prop}(q:Q (.new (aE (((r.zip ms).filter p).map (·.1)))) ρ1)(hit:it ρ=some (gh (r.map bf) (ms.map Dat.int),ρ1))(hk:ρ1.length=k)(hk0:k≠0)(hl:r.length<=SZ)
  (ht:∀x:Tie×Int,Wt t (ρ1++[.sh (bf x.1),.sh (.int x.2)]) fun c ρ'=>c=p x/\ρ'=ρ1++[.sh (bf x.1),.sh (.int x.2)]):We (bV it 2 (bT [k,k+1]) t (eV k)) ρ Q:=by
 have b:∀(x:Tie×Int) (c1 c2:Cell),bT [k,k+1] (zE x) (ρ1++[c1,c2])=some (ρ1++[.sh (bf x.1),.sh (.int x.2)]):=fun x c1 c2=>by show sets [k,k+1] [bf x.1,.int x.2] _=_;rw[sets,if_neg hk0,sets,if_neg (by omega),sets];rw[List.set_append_right _ _ (by omega),List.set_append_right _ _ (by omega)];subst hk;rw[Nat.sub_self,show ρ1.length+1-ρ1.length=1 by omega];rfl
 refine We.Hv zE (r.zip ms) p (fun x=>x.1) bf (fun x=>(ρ1++[Cell.sh (bf x.1),Cell.sh (.int x.2)]:Env)) (own:=2) (bd:=bT [k,k+1]) (Q:=Q) q (by rw[hit,yi]) (fun x=>b x .un .un) (fun x y=>b x (.sh (bf y.1)) (.sh (.int y.2))) (fun x=>List.take_left) (by rw[List.length_zip];omega) (fun x _=>ht x) (fun x _ _=>?_);refine We.v (d:=bf x.1) ?_ (Wk.val ⟨rfl,rfl⟩);rw[List.getElem?_append_right (by omega),hk,Nat.sub_self];rfl
theorem CB(r:List Tie):eqD (aE r) (aE r)=true:=by
 unfold aE;rw[eqD]
 induction r with
 |nil=>rfl
 |cons b bs ih=>rw[List.map_cons,oE,ih];simp[bf,eqD,oE]
theorem Kr(r:List Tie):okD 8 (aE r)=true:=Ng bf r fun t=>rfl
theorem Wg2.CC{d:Dat}{o p:Option Dat}{Q:RV->Prop}(hk:okD 8 d=true)(he:eqD d d=true)(k:Q (.val (.bl false)))(ho:o=some d)(hp:p=some d):Wg2 gNe o p Q:=
 ⟨_,_,_,ho,hp,by unfold gNe;rw[hk,he];rfl,k⟩
noncomputable def cQ(n k:Nat)(r:List Tie):Dat:=.tup [.int (n:Nat),.int (k:Nat),aE r]
theorem zR{ρ ρ1:Env}{it:FI}{k:Nat}(r:List Tie)(ms:List Int){Q:Val->Env->Prop}(q:Q (.new (aE (keep r ms))) ρ1)(hit:it ρ=some (gh (r.map bf) (ms.map Dat.int),ρ1))(hk:ρ1.length=k)(hk0:k≠0)(hl:r.length<=SZ):We (bV it 2 (bT [k,k+1]) (tV (e2 gGt (eV (k+1)) (eC (.int 0)))) (eV k)) ρ Q:=by
 refine We.Pp r ms (fun p=>decide (0<p.2)) q hit hk hk0 hl fun x=>?_
 refine Wt.V (We.e2 (We.v (d:=.int x.2) ?_ (We.c (Wg2.gt (Wb.mk ⟨rfl,rfl⟩) rfl rfl))));rw[List.getElem?_append_right (by omega),hk];simp
theorem Ks(n k:Nat)(hn:n<=10)(hk1:1<=k)(hk6:k<=6)(r:List Tie)(ms:List Int)(hr:Ends n r)(hl:r.length<=1000)(ha:bS k r ms):x6 [.int (n:Nat),aE r,.int (k:Nat)]=some (.val (cQ n k (keep r ms))):=by
 obtain⟨ms',el,al⟩:=gF n k hn hk1 hk6 r hr hl;rw[al.uniq ha]at el;apply Wr.eq;unfold x6
 (refine Dm.Wr.fn ?_ rfl rfl;dsimp only[List.map,List.replicate,List.cons_append,List.nil_append])
 refine Ws.seq (Ws.A (We.F (Was.cons (We.v rfl (Was.cons (We.v rfl (Was.cons (We.v rfl (Was.nil (WF.box el ?_ rfl rfl rfl rfl)))))))) ) (by decide));refine WA.new ?_ (by trivial);refine Ws.R (We.T (Was.cons (We.v rfl (Was.cons (We.v rfl (Was.cons (zR (ρ1:=[.sh (.int (n:Nat)),.sh (aE r),.sh (.int (k:Nat)),.sh (.lst (ms.map Dat.int))]) r ms (k:=4) ?_ ?_ rfl (by decide) (Nat.le_trans hl (by decide)))))))))
 ·exact Was.nil (WT.mk rfl rfl rfl (Nat.le_of_ble_eq_true rfl))
 ·rfl
theorem tL:∀(r:List Tie) (ms:List Int) (j:Int),1<=j->lay (keep r ms) (ms.filter fun m=>decide (0<m)) j=lay r ms j\/r.length≠ms.length
 |[],[],_,_=>.inl rfl
 |[],_::_,_,_=>.inr (by simp)
 |_::_,[],_,_=>.inr (by simp)
 |t::r,m::ms,j,hj=>by
  rcases tL r ms j hj with ih | ih
  ·left
   rw[jS,ju];by_cases h:0<m
   ·rw[if_pos h,List.filter_cons_of_pos (by simpa using h),ju,ih]
   ·rw[if_neg h,List.filter_cons_of_neg (by simpa using h),ih,if_neg (by omega)]
  ·right
   simpa using ih
theorem tM{k:Int}:∀{r:List Tie} {ms:List Int},bS k r ms->bS k (keep r ms) (ms.filter fun m=>decide (0<m))
 |[],[],_=>trivial
 |t::r,m::ms,h=>by
  have ih:=tM h.1;rw[jS];by_cases q:0<m
  ·rw[if_pos q,List.filter_cons_of_pos (by simpa using q)]
   refine⟨ih,?_⟩;have e:∀j,1<=j->lay (keep r ms) (ms.filter fun m=>decide (0<m)) j=lay r ms j:=fun j hj=>by
    rcases tL r ms j hj with z | z
    ·exact z
    ·exact absurd h.1.len.symm z
   rcases h.2 with⟨h0,_⟩ | ⟨h1,h2,h3,h4⟩
   ·omega
   ·exact .inr ⟨h1,h2,by rw[e m h1];exact h3,fun j j1 j2=>by rw[e j j1];exact h4 j j1 j2⟩
  ·rw[if_neg q,List.filter_cons_of_neg (by simpa using q)]
   exact ih
 |[],_::_,h=>h.elim
 |_::_,[],h=>h.elim
theorem mH:∀(r:List Tie) (ms:List Int),(keep r ms).Sublist r
 |[],ms=>by unfold keep;simp
 |_::_,[]=>by unfold keep;simp
 |t::r,m::ms=>by
  rw[jS];split
  ·exact(mH r ms).cons_cons t
  ·exact(mH r ms).cons t
theorem jv(n i:Int)(h0:0<=i)(h1:i<n):vS [.int n,.int i]=some (.val (.bl true)):=by
 apply Wr.eq;unfold vS
 (refine Dm.Wr.fn ?_ rfl rfl;dsimp only[List.map,List.replicate,List.cons_append,List.nil_append])
 refine Ws.R (We.F (Was.cons (We.v rfl (Was.cons (We.c (Was.cons (We.e2 (We.v rfl (We.c (Wg2.sub ?_ rfl rfl))))))))));exact Was.nil (WF.val (dh i 0 (n-1) h0 (by omega)) rfl rfl rfl)
theorem zS(m:Int)(h0:0<=m)(h1:m<=Z30):FP [.int m]=some (.val (.bl true)):=by
 apply Wr.eq;unfold FP
 (refine Dm.Wr.fn ?_ rfl rfl;dsimp only[List.map,List.replicate,List.cons_append,List.nil_append])
 refine Ws.R (We.F (Was.cons (We.v rfl (Was.cons (We.c (Was.cons (We.e2 (We.c (We.c (Wg2.pow (z:=Z30) ?_ rfl rfl (by decide) (by decide)))))))))));exact Was.nil (WF.val (dh m 0 Z30 h0 h1) rfl rfl rfl)
theorem zT(n:Int)(t:Tie)(m0:0<=t.m)(m1:t.m<=Z30)(a0:0<=t.a)(a1:t.a<n)(b0:0<=t.b)(b1:t.b<n):FQ [.int n,bf t]=some (.val (.bl true)):=by
 apply Wr.eq;unfold FQ bf
 (refine Dm.Wr.fn ?_ rfl rfl;dsimp only[List.map,List.replicate,List.cons_append,List.nil_append])
 repeat array_get_dec
 refine Wif.no rfl ?_
 repeat array_get_dec
 refine Wif.no rfl ?_
 repeat array_get_dec
 refine WF.val (zS t.m m0 m1) ?_ rfl rfl
 repeat array_get_dec
 refine WF.val (jv n t.a a0 a1) ?_ rfl rfl
 repeat array_get_dec
 refine WF.val (jv n t.b b0 b1) ?_ rfl rfl
 repeat array_get_dec
 rfl
theorem zU(n:Int)(t:Tie)(m0:0<=t.m)(m1:t.m<=Z30)(a0:0<=t.a)(ab:t.a<=t.b)(b1:t.b<n):FU [.int n,bf t]=some (.val (.bl true)):=by
 apply Wr.eq;unfold FU
 (refine Dm.Wr.fn ?_ rfl rfl;dsimp only[List.map,List.replicate,List.cons_append,List.nil_append])
 repeat array_get_dec
 refine WF.val (zT n t m0 m1 a0 (by omega) (by omega) b1) ?_ rfl rfl
 repeat array_get_dec
 exact congrArg (fun b=>RV.val (Dat.bl b)) (decide_eq_true ab)
noncomputable abbrev Ga(D:List Tie):Prop:=D.Pairwise fun t u=>t.m<u.m
theorem yj(n:Nat):ups 1 n=(List.range n).map fun i:Nat=>Dat.int (1+(i:Int)):=rfl
theorem qS(n:Int)(h1:1<=n)(h2:n<=10):FL [.int n]=some (.val (.bl true)):=by
 apply Wr.eq;unfold FL
 (refine Dm.Wr.fn ?_ rfl rfl;dsimp only[List.map,List.replicate,List.cons_append,List.nil_append])
 repeat array_get_dec
 refine WF.val (dh n 1 10 h1 h2) ?_ rfl rfl
 repeat array_get_dec
 rfl
theorem qT(n:Int)(h1:1<=n)(h2:n<=6):vU [.int n]=some (.val (.bl true)):=by
 apply Wr.eq;unfold vU
 (refine Dm.Wr.fn ?_ rfl rfl;dsimp only[List.map,List.replicate,List.cons_append,List.nil_append])
 repeat array_get_dec
 refine WF.val (dh n 1 6 h1 h2) ?_ rfl rfl
 repeat array_get_dec
 rfl
theorem zV(D:List Tie)(h:Ga D)(hl:D.length<=75):FW [.lst ((D.map (·.m)).map Dat.int)]=some (.val (.bl true)):=by
 have sz:1000<=SZ:=by decide
 apply Wr.eq;unfold FW
 (refine Dm.Wr.fn ?_ rfl rfl;dsimp only[List.map,List.replicate,List.cons_append,List.nil_append])
 refine Ws.R (We.B (Was.cons ?_));have hit:iR2 (eC (.int 1)) (eB fu [eV 0]) [.sh (.lst ((D.map (·.m)).map Dat.int))]=some ((List.range ((D.length:Int)-1).toNat).map (fun i:Nat=>Dat.int (1+(i:Int))),[.sh (.lst ((D.map (·.m)).map Dat.int))]):=by
  refine Wi.get ?_
  repeat array_get_dec
  refine⟨⟨?_,rfl⟩,?_⟩
  ·rw[yj,List.length_map]
  ·rw[List.length_map];unfold BIG;omega
 refine We.Map (fun i:Nat=>Dat.int (1+(i:Int))) (List.range ((D.length:Int)-1).toNat) (fun _=>true) Dat.bl ?_ hit rfl (by decide) (by simp;omega) (fun i hi=>?_)
 ·refine Was.nil (WB.all (fun b=>b) (xs:=(List.range ((D.length:Int)-1).toNat).map fun _=>true) ?_ rfl)
  exact WR.val (congrArg (fun b=>RV.val (Dat.bl b)) (by simp))
 ·have hi':=List.mem_range.mp hi
  repeat array_get_dec
  refine Wg2.ixL (enc:=Dat.int) (xs:=D.map (·.m)) (i:=1+(i:Int)-1) (by omega) (by rw[List.length_map];omega) ?_ rfl rfl
  repeat array_get_dec
  refine Wg2.ixL (enc:=Dat.int) (xs:=D.map (·.m)) (i:=1+(i:Int)) (by omega) (by rw[List.length_map];omega) ?_ rfl rfl
  repeat array_get_dec
  have lt:=List.pairwise_iff_getElem.mp h (1+(i:Int)-1).toNat (1+(i:Int)).toNat (by omega) (by omega) (by omega);refine⟨congrArg Dat.bl (decide_eq_true ?_),rfl⟩;rw[List.getElem_map,List.getElem_map];exact lt
structure Rcd(n:Nat)(r:List Tie):Prop where
 ok:∀t∈r,0<=t.m/\t.m<=Z30/\0<=t.a/\t.a<=t.b/\t.b<n
 up:Ga r
 len:r.length<=60
theorem Rcd.sub{n:Nat}{r q:List Tie}(h:Rcd n r)(s:q.Sublist r):Rcd n q:=⟨fun t ht=>h.ok t (s.subset ht),h.up.sublist s,Nat.le_trans s.length_le h.len⟩
theorem Rcd.ends{n:Nat}{r:List Tie}(h:Rcd n r):Ends n r:=fun t ht=>by obtain⟨h1,h2,h3,h4,h5⟩:=h.ok t ht;exact⟨h3,by omega,by omega,h5⟩
theorem qU(n:Nat)(n1:1<=n)(n10:n<=10)(r:List Tie)(h:Rcd n r):xX [.int (n:Nat),aE r]=some (.val (.bl true)):=by
 have sz:1000<=SZ:=by decide
 have hl:=h.len;apply Wr.eq;unfold xX
 (refine Dm.Wr.fn ?_ rfl rfl;dsimp only[List.map,List.replicate,List.cons_append,List.nil_append])
 repeat array_get_dec
 refine WF.val (qS n (by omega) (by omega)) ?_ rfl rfl
 repeat array_get_dec
 refine Wif.no rfl ?_
 repeat array_get_dec
 refine Wif.no rfl ?_
 repeat array_get_dec
 refine Wif.no (decide_eq_false (by rw[List.length_map];omega)) ?_
 repeat array_get_dec
 refine We.zH bf r (fun _=>true) Dat.bl ?_ rfl rfl rfl (by decide) (by omega) (fun t ht=>?_)
 rotate_left
 ·obtain⟨h1,h2,h3,h4,h5⟩:=h.ok t ht
  repeat array_get_dec
  refine WF.val (zU n t h1 h2 h3 h4 h5) ?_ rfl rfl
  repeat array_get_dec
  exact⟨rfl,rfl⟩
 repeat array_get_dec
 refine WB.all (fun b=>b) (xs:=r.map fun _=>true) ?_ rfl
 repeat array_get_dec
 refine Wif.no (by simp) ?_
 repeat array_get_dec
 refine We.zH bf r (·.m) Dat.int ?_ rfl rfl rfl (by decide) (by omega) (fun t ht=>?_)
 rotate_left
 ·repeat array_get_dec
  exact⟨rfl,rfl⟩
 repeat array_get_dec
 refine WF.val (zV r h.up (by omega)) ?_ rfl rfl
 repeat array_get_dec
 rfl
structure Net(n k:Nat)(N:List Tie):Prop where
 rc:Rcd n N
 num:∃ms,bS k N ms/\(0:Int)∉ms
theorem zW(n k:Nat)(n1:1<=n)(n10:n<=10)(k1:1<=k)(k6:k<=6)(N:List Tie)(h:Net n k N):xY [cQ n k N]=some (.val (.bl true)):=by
 have hl:=h.rc.len;obtain⟨ms,el,al⟩:=gF n k n10 k1 k6 N h.rc.ends (by omega);obtain⟨ms',al',h0⟩:=h.num;rw[al'.uniq al]at h0;apply Wr.eq;unfold xY cQ
 (refine Dm.Wr.fn ?_ rfl rfl;dsimp only[List.map,List.replicate,List.cons_append,List.nil_append])
 repeat array_get_dec
 refine Wif.no rfl ?_
 repeat array_get_dec
 refine Wif.no rfl ?_
 repeat array_get_dec
 refine WF.val (qT k (by omega) (by omega)) ?_ rfl rfl
 repeat array_get_dec
 refine Wif.no rfl ?_
 repeat array_get_dec
 refine WF.val (qU n n1 n10 N h.rc) ?_ rfl rfl
 repeat array_get_dec
 refine Wif.no rfl ?_
 repeat array_get_dec
 refine WF.box el ?_ rfl rfl rfl (by trivial)
 repeat array_get_dec
 refine Wg2.Pf (xs:=ms) ?_ rfl rfl
 repeat array_get_dec
 exact congrArg (fun b=>RV.val (Dat.bl b)) (by simp[h0])
theorem Rcd.of{n:Nat}{r:List Tie}(g:Good n 0 r)(hl:r.length<=60)(hm:∀t∈r,t.m<=Z30):Rcd n r:=⟨fun t ht=>by
  obtain⟨q1,q2,q3⟩:=Good.mem g t ht;exact⟨Good.lo g t ht,hm t ht,q1,q2,q3⟩,by
  have up:∀(r:List Tie) (lo:Int),Good n lo r->Ga r:=fun r=>by
   induction r with
   |nil=>intro _ _;exact List.Pairwise.nil
   |cons t r ih=>intro lo g;exact List.pairwise_cons.mpr ⟨fun u hu=>by have:=Good.lo g.2.2.2.2 u hu;omega,ih _ g.2.2.2.2⟩
  exact up r 0 g,hl⟩
noncomputable def cH(r:List Tie)(t:Int):List Tie:=r.filter fun x=>decide (t<=x.m)
theorem tN(r:List Tie)(hl:r.length<=1000)(t:Int):sN [aE r,.int t]=some (.new (aE (cH r t))):=by
 apply Wr.eq;unfold sN
 (refine Dm.Wr.fn ?_ rfl rfl;dsimp only[List.map,List.replicate,List.cons_append,List.nil_append])
 refine Ws.R ?_;refine We.Nb bf r (fun x=>decide (t<=x.m)) id bf (d:=aE r) ?_ rfl rfl rfl (by decide) (by unfold SZ;omega) (fun u _=>?_) fun u _ _=>?_
 ·rw[List.map_id];rfl
 ·exact Wt.V (We.e2 (We.e2 (We.v rfl (We.c (Wg2.ix (We.v rfl (Wg2.ge (Wb.mk ⟨rfl,rfl⟩) rfl rfl)) rfl rfl rfl)))))
 ·exact We.v rfl (Wk.val ⟨rfl,rfl⟩)
theorem Gb(n a b:Int)(a0:0<=a)(a1:a<n)(b0:0<=b)(b1:b<n)(h:a≠b):FY [.int n,.int a,.int b]=some (.val (.bl true)):=by
 apply Wr.eq;unfold FY
 (refine Dm.Wr.fn ?_ rfl rfl;dsimp only[List.map,List.replicate,List.cons_append,List.nil_append])
 refine Ws.R (We.And (We.F (Was.cons (We.v rfl (Was.cons (We.v rfl (Was.nil (WF.val (jv n a a0 a1) ?_ rfl rfl))))))));refine Wb.mk (Wif.t (We.And (We.F (Was.cons (We.v rfl (Was.cons (We.v rfl (Was.nil (WF.val (jv n b b0 b1) ?_ rfl rfl)))))))));refine Wb.mk (Wif.t (We.e2 (We.v rfl (We.v rfl (Wg2.ne ?_ rfl rfl)))));rw[decide_eq_false h];rfl
theorem qV(n a b:Int)(a0:0<=a)(a1:a<n)(b0:0<=b)(b1:b<n)(h:a≠b):xV [.int n,.int a,.int b]=some (.val .non):=by
 apply Wr.eq;unfold xV
 (refine Dm.Wr.fn ?_ rfl rfl;dsimp only[List.map,List.replicate,List.cons_append,List.nil_append])
 refine Ws.If (Wt.Not (Wt.V (We.F (Was.cons (We.v rfl (Was.cons (We.v rfl (Was.cons (We.v rfl (Was.nil (WF.val (Gb n a b a0 a1 b0 b1 h) ?_ rfl rfl)))))))))));exact Wb.mk (Wif.f (Ws.nx rfl))
theorem pR:∀(ns:List Int) (a:Int),(dX a ns=a\/dX a ns∈ns)/\dX a ns<=a/\∀x∈ns,dX a ns<=x
 |[],a=>⟨.inl rfl,Int.le_refl _,by simp⟩
 |y::ns,a=>by
  obtain⟨h1,h2,h3⟩:=pR ns (if y<a then y else a);rw[dX];by_cases h:y<a
  ·rw[if_pos h]at h1 h2 h3 ⊢
   refine⟨.inr ?_,by omega,fun x hx=>?_⟩
   ·rcases h1 with e | e
    ·rw[e];simp
    ·exact List.mem_cons_of_mem _ e
   ·rcases List.mem_cons.mp hx with rfl | hx
    ·exact h2
    ·exact h3 x hx
  ·rw[if_neg h]at h1 h2 h3 ⊢
   refine⟨h1.imp id fun e=>List.mem_cons_of_mem _ e,h2,fun x hx=>?_⟩;rcases List.mem_cons.mp hx with rfl | hx
   ·omega
   ·exact h3 x hx
theorem WB.Pq{n:Int}{ns:List Int}{o:Option (List Dat)}{K:RV->Prop}(k:K (.val (.int (dX n ns))))(ho:o=some [.lst ((n::ns).map Dat.int)]):WB pC o K:=by refine⟨_,_,ho,?_,k⟩;unfold pC;dsimp only;rw[mh]
theorem tO(n k:Nat)(n1:1<=n)(n10:n<=10)(k1:1<=k)(k6:k<=6)(N:List Tie)(h:Net n k N):xZ [cQ n k N]=some (.val .non):=by
 apply Wr.eq;unfold xZ
 (refine Dm.Wr.fn ?_ rfl rfl;dsimp only[List.map,List.replicate,List.cons_append,List.nil_append])
 exact Ws.If (Wt.Not (Wt.V (We.F (Was.cons (We.v rfl (Was.nil (WF.val (zW n k n1 n10 k1 k6 N h) (Wb.mk (Wif.f (Ws.nx rfl))) rfl rfl)))))))
noncomputable def Hg(r:List Tie)(j:Nat)(a b:Int):Prop:=∀S:Int->Bool,S a≠S b->j<=e7 r S
theorem Hg.symm{r:List Tie}{j:Nat}{a b:Int}(h:Hg r j a b):Hg r j b a:=fun S hs=>h S (Ne.symm hs)
theorem Hg.trans{r:List Tie}{j:Nat}{a b c:Int}(h:Hg r j a b)(h':Hg r j b c):Hg r j a c:=fun S hs=>by
 by_cases q:S a=S b
 ·exact h' S (q▸hs)
 ·exact h S q
theorem CD{K r:List Tie}(h:K.Sublist r)(S:Int->Bool):e7 K S<=e7 r S:=(h.filter _).length_le
theorem Hg.up{K r:List Tie}{j:Nat}{a b:Int}(s:K.Sublist r)(h:Hg K j a b):Hg r j a b:=fun S hs=>Nat.le_trans (h S hs) (CD s S)
theorem Hy{n:Nat}{r:List Tie}(h:Fit n r){a b:Int}(a0:0<=a)(a1:a<n)(b0:0<=b)(b1:b<n){k:Nat}(k6:k<=6) :
  ∃c:Bool,pL [.int n,aE r,.int a,.int b,.int k]=some (.val (.bl c))/\(c=true->Hg r k a b)/\(c=false->¬Hg r k a b):=by
 obtain⟨c,e,h1,h2⟩:=oK h a0 a1 b0 b1 k6;refine⟨c,e,fun q S hs=>?_,fun q hh=>?_⟩
 ·cases ha:S a
  ·cases hb:S b
   ·rw[ha,hb]at hs;exact absurd rfl hs
   ·have:=h1 q (fun x=>!S x) (by rw[ha];rfl) (by rw[hb];rfl)
    rw[zP]at this;exact this
  ·cases hb:S b
   ·exact h1 q S ha hb
   ·rw[ha,hb]at hs;exact absurd rfl hs
 ·obtain⟨S,s1,s2,s3⟩:=h2 q
  have:=hh S (by rw[s1,s2];decide);omega
theorem CF{j:Nat}{a b:Int}(j1:1<=j)(hab:a≠b):¬Hg [] j a b:=fun h=>by have:=h (fun x=>decide (x=a)) (by simp[Ne.symm hab]);simp[e7]at this;omega
theorem CG:∀{r:List Tie},Ga r->∀(i:Nat) (h:i<r.length),cH r r[i].m=r.drop i/\cH r (r[i].m+1)=r.drop (i+1)
 |t::r,up,0,_=>by
  obtain⟨p1,p2⟩:=List.pairwise_cons.mp up;constructor
  ·refine List.filter_eq_self.mpr fun u hu=>decide_eq_true ?_
   rcases List.mem_cons.mp hu with rfl | hu
   ·exact Int.le_refl _
   ·exact Int.le_of_lt (p1 u hu)
  ·show List.filter _ (t::r)=r
   rw[List.filter_cons,if_neg (by simp;omega)];exact List.filter_eq_self.mpr fun u hu=>decide_eq_true (by have:=p1 u hu;show t.m+1<=u.m;omega)
 |t::r,up,i+1,h=>by
  obtain⟨p1,p2⟩:=List.pairwise_cons.mp up;have hi:i<r.length:=by simpa using h
  obtain⟨e1,e2⟩:=CG p2 i hi;have lt:=p1 r[i] (List.getElem_mem hi);constructor
  ·show List.filter _ (t::r)=r.drop i
   rw[List.filter_cons,if_neg (by simp;omega)];exact e1
  ·show List.filter _ (t::r)=r.drop (i+1)
   rw[List.filter_cons,if_neg (by simp;omega)];exact e2
noncomputable def Lat(N:List Tie)(j:Nat)(a b:Int):Option Int->Prop
 |none=>¬Hg N j a b
 |some t=>Hg (cH N t) j a b/\¬Hg (cH N (t+1)) j a b
theorem mJ(N:List Tie){t t':Int}(h:t<=t'):(cH N t').Sublist (cH N t):=by
 have:cH N t'=(cH N t).filter fun x=>decide (t'<=x.m):=by
  unfold cH;rw[List.filter_filter];refine List.filter_congr fun x _=>?_
  by_cases q:t'<=x.m
  ·simp[q,show t<=x.m by omega]
  ·simp[q]
 rw[this];exact List.filter_sublist
theorem Lat.iff{N:List Tie}{j:Nat}{a b:Int}{w:Option Int}(h:Lat N j a b w)(t:Int):Hg (cH N t) j a b↔∃v,w=some v/\t<=v:=by
 cases w with
 |none=>exact⟨fun q=>absurd (q.up List.filter_sublist) h,fun⟨_,q,_⟩=>by cases q⟩
 |some v=>
  constructor
  ·intro q
   refine⟨v,rfl,Int.not_lt.mp fun l=>h.2 (q.up (mJ N (by omega)))⟩
  ·rintro⟨_,q,l⟩
   cases q;exact h.1.up (mJ N l)
noncomputable def cR:Option Int->Dat
 |none=>.non
 |some t=>.int t
theorem CH(N:List Tie)(i:Int)(h0:0<=i)(h1:i<=N.length):BQ N (some i) none=N.drop i.toNat:=by
 unfold BQ sIx;dsimp only;rw[if_neg (by omega)];have:(min i ((N.length:Nat):Int)).toNat=i.toNat:=by omega
 rw[this];exact List.take_of_length_le (by rw[List.length_drop];exact Nat.le_refl _)
theorem Rcd.fit{n:Nat}(n10:n<=10){N:List Tie}(h:Rcd n N):Fit n N:=⟨by omega,fun t ht=>by
 obtain⟨_,_,h3,h4,h5⟩:=h.ok t ht;exact⟨h3,by omega,by omega,h5⟩,by
 have:=h.up;unfold List.Nodup;rw[List.pairwise_map];exact this.imp fun q e=>by omega,by have:=h.len;omega⟩
theorem zX{n:Nat}(n10:n<=10){N:List Tie}(hN:Rcd n N){a b:Int}(a0:0<=a)(a1:a<n)(b0:0<=b)(b1:b<n)(hab:a≠b){j:Nat}(j1:1<=j)(j6:j<=6) :
  ∃w:Option Int,jr [.int n,aE N,.int a,.int b,.int (j:Nat)]=some (.val (cR w))/\Lat N j a b w/\∀t,w=some t->∃u∈N,u.m=t:=by
 have lN:=hN.len;have fit:=hN.fit n10
 suffices hh:Wr (jr [.int n,aE N,.int a,.int b,.int (j:Nat)]) fun v=>∃w:Option Int,v=.val (cR w)/\Lat N j a b w/\∀t,w=some t->∃u∈N,u.m=t by obtain⟨v,h1,w,rfl,h2⟩:=hh;exact⟨w,h1,h2⟩
 obtain⟨c,e,c1,c2⟩:=Hy fit a0 a1 b0 b1 j6;unfold jr
 (refine Dm.Wr.fn ?_ rfl rfl;dsimp only[List.map,List.replicate,List.cons_append,List.nil_append])
 refine Ws.seq (Ws.If (Wt.Not (Wt.V (We.F ?_))));refine Was.cons (We.v rfl (Was.cons (We.v rfl (Was.cons (We.v rfl (Was.cons (We.v rfl (Was.cons (We.v rfl (Was.nil (WF.val e (Wb.mk ?_) rfl rfl)))))))))));cases c with
 |false=>exact Wif.t (Ws.R (We.c ⟨none,rfl,c2 rfl,fun t h=>by cases h⟩))
 |true=>
 refine Wif.f (Ws.nx ?_);have h0:=c1 rfl;have lp:0<N.length:=by
  cases N with
  |nil=>exact absurd h0 (CF j1 hab)
  |cons _ _=>exact Nat.succ_pos _
 refine Ws.seq (Ws.A (We.c (WA.val ?_ (by trivial))) (by decide));refine Ws.seq (Ws.A (We.B (Was.cons (We.v rfl (Was.nil (WB.FG (enc:=bf) (xs:=N) (WA.val ?_ (by trivial)) rfl))))) (by decide));refine Ws.cut (fun ρ=>∃(lo:Nat) (c7:Cell),lo<N.length/\Hg (N.drop lo) j a b/\¬Hg (N.drop (lo+1)) j a b/\ρ=[.sh (.int (n:Nat)),.sh (aE N),.sh (.int a),.sh (.int b),.sh (.int (j:Nat)),.sh (.int (lo:Nat)),.sh (.int ((lo+1:Nat):Int)),c7]) ?_ ?_
 ·refine Ws.wh (fun k ρ=>∃(lo hi:Nat) (c7:Cell),k=hi-lo/\lo<hi/\hi<=N.length/\Hg (N.drop lo) j a b/\¬Hg (N.drop hi) j a b/\ρ=[.sh (.int (n:Nat)),.sh (aE N),.sh (.int a),.sh (.int b),.sh (.int (j:Nat)),.sh (.int (lo:Nat)),.sh (.int (hi:Nat)),c7]) ?_ 100 N.length _ (by omega) ⟨0,N.length,_,by omega,lp,Nat.le_refl _,h0,by rw[List.drop_length];exact CF j1 hab,rfl⟩
  rintro k ρ ⟨lo,hi,c7,rfl,l1,l2,g1,g2,rfl⟩;refine Wt.V (We.e2 (We.e2 (We.v rfl (We.v rfl (Wg2.sub (We.c (Wg2.gt (Wb.mk (Wif.dec (fun q=>?_) fun q=>?_)) rfl rfl)) rfl rfl)))))
  ·unfold B9
   refine Ws.seq (Ws.A (We.e2 (We.e2 (We.v rfl (We.v rfl (Wg2.add (We.c (Wg2.div ?_ rfl rfl ⟨by decide,by decide⟩)) rfl rfl))))) (by decide));obtain⟨mi,em⟩:∃mi:Nat,((lo:Nat)+(hi:Nat):Int) / 2=(mi:Nat):=⟨(((lo:Nat)+(hi:Nat):Int) / 2).toNat,by omega⟩
   have m1:lo<mi:=by omega
   have m2:mi<hi:=by omega
   rw[em];refine WA.val ?_ (by trivial);obtain⟨c,e,c1,c2⟩:=Hy (fit.sub (List.drop_sublist mi N)) a0 a1 b0 b1 j6;refine Ws.If (Wt.V (We.F (Was.cons (We.v rfl (Was.cons (We.Sl ?_))))));refine We.v rfl (Wp.some (We.v rfl (b5.mk (Wp.none (Wsl.A (enc:=bf) (xs:=N) ?_ rfl)))));rw[CH N mi (by omega) (by omega),Int.toNat_natCast];refine Was.cons (We.v rfl (Was.cons (We.v rfl (Was.cons (We.v rfl (Was.nil (WF.val e (Wb.mk ?_) rfl rfl)))))));cases c with
   |true=>exact Wif.t (Ws.A (We.v rfl (WA.val ⟨hi-mi,by omega,mi,hi,_,rfl,m2,l2,c1 rfl,g2,rfl⟩ (by trivial))) (by decide))
   |false=>exact Wif.f (Ws.A (We.v rfl (WA.val ⟨mi-lo,by omega,lo,mi,_,rfl,m1,by omega,g1,c2 rfl,rfl⟩ (by trivial))) (by decide))
  ·have:hi=lo+1:=by omega
   subst this;exact⟨lo,_,by omega,g1,g2,rfl⟩
 ·rintro ρ ⟨lo,c7,l1,g1,g2,rfl⟩
  obtain⟨e1,e2⟩:=CG hN.up lo l1;refine Ws.R (We.e2 (We.e2 (We.v rfl (We.v rfl (Wg2.ixL (enc:=bf) (xs:=N) (by omega) (by omega) (We.c (Wg2.ix (v:=.int (N[lo]).m) ?_ rfl rfl ?_)) rfl rfl)))))
  ·exact⟨some N[lo].m,rfl,⟨by rw[e1];exact g1,by rw[e2];exact g2⟩,fun t h=>by cases h;exact⟨_,List.getElem_mem l1,rfl⟩⟩
  ·simp only[Int.toNat_natCast]
   rfl
theorem gq{n k j:Nat}(n1:1<=n)(n10:n<=10)(k1:1<=k)(k6:k<=6)(j1:1<=j)(jk:j<=k){N:List Tie}(h:Net n k N):sO [cQ n k N,.int (j:Nat)]=some (.val .non):=by
 apply Wr.eq;unfold sO
 (refine Dm.Wr.fn ?_ rfl rfl;dsimp only[List.map,List.replicate,List.cons_append,List.nil_append])
 refine Ws.seq (Ws.E (We.F (Was.cons (We.v rfl (Was.nil (WF.val (tO n k n1 n10 k1 k6 N h) ?_ rfl rfl))))));refine Ws.If (Wt.Not (Wt.V (We.F (Was.cons (We.v rfl (Was.cons (We.c (Was.cons (We.e2 (We.v rfl (We.c (Wg2.ix (v:=.int (k:Nat)) ?_ rfl rfl rfl))))))))))));exact Was.nil (WF.val (dh j 1 k (by omega) (by omega)) (Wb.mk (Wif.f (Ws.nx rfl))) rfl rfl)
noncomputable def CI(d1 d2:Dat):Option Int->Dat
 |none=>.tup [.str [110,101,118,101,114],d2]
 |some t=>.tup [.str [115,105,110,99,101],.int t,d1,d2]
theorem Gd{n k j:Nat}(n1:1<=n)(n10:n<=10)(k1:1<=k)(k6:k<=6)(j1:1<=j)(jk:j<=k){N:List Tie}(h:Net n k N){a b:Int}(a0:0<=a)(a1:a<n)(b0:0<=b)(b1:b<n)(hab:a≠b){w:Option Int}
  (ew:jr [.int n,aE N,.int a,.int b,.int (j:Nat)]=some (.val (cR w))):∃d1 d2,sU [cQ n k N,.int a,.int b,.int (j:Nat)]=some (.val (CI d1 d2 w)):=by
 have hN:=h.rc;have lN:=hN.len;have fit:=hN.fit n10
 suffices hh:Wr (sU [cQ n k N,.int a,.int b,.int (j:Nat)]) fun v=>∃d1 d2,v=.val (CI d1 d2 w) by obtain⟨v,h1,d1,d2,rfl⟩:=hh;exact⟨d1,d2,h1⟩
 have wa:∀K:List Tie,K.Sublist N->∃ws o,jq [.int n,aE K,.int a,.int b,.int (j:Nat)]=some (.val (.tup [.lst (List.map msD ws),dY o])):=fun K hK=>by have f:=fit.sub hK;obtain⟨ws,o,e,_⟩:=gp n f.n40 K f.pl f.nd f.len a b a0 a1 b0 b1 j (by omega) (by omega);exact⟨ws,o,e⟩
 unfold sU
 (refine Dm.Wr.fn ?_ rfl rfl;dsimp only[List.map,List.replicate,List.cons_append,List.nil_append])
 refine Ws.seq (Ws.E (We.F (Was.cons (We.v rfl (Was.cons (We.v rfl (Was.nil (WF.val (gq n1 n10 k1 k6 j1 jk h) ?_ rfl rfl))))))));refine Ws.seq (Ws.E (We.F (Was.cons (We.e2 (We.v rfl (We.c (Wg2.ix (v:=.int (n:Nat)) ?_ rfl rfl rfl)))))));refine Was.cons (We.v rfl (Was.cons (We.v rfl (Was.nil (WF.val (qV n a b a0 a1 b0 b1 hab) ?_ rfl rfl)))));refine Ws.seq (Ws.A (We.F (Was.cons (We.e2 (We.v rfl (We.c (Wg2.ix (v:=.int (n:Nat)) ?_ rfl rfl rfl)))))) (by decide));refine Was.cons (We.e2 (We.v rfl (We.c (Wg2.ix (v:=aE N) ?_ rfl rfl rfl))));refine Was.cons (We.v rfl (Was.cons (We.v rfl (Was.cons (We.v rfl (Was.nil (WF.val ew ?_ rfl (by cases w<;>rfl))))))));refine WA.val ?_ (by trivial);refine Ws.seq (Ws.If (Wt.V (We.e2 (We.v rfl (We.c (Wg2.isN (Wb.mk ?_) rfl rfl))))));cases w with
 |none=>refine Wif.t ?_;obtain⟨ws,o,e⟩:=wa N (List.Sublist.refl N);refine Ws.R (We.T (Was.cons (We.c (Was.cons (We.e2 (We.F (Was.cons (We.e2 (We.v rfl (We.c (Wg2.ix (v:=.int (n:Nat)) ?_ rfl rfl rfl)))))))))));refine Was.cons (We.e2 (We.v rfl (We.c (Wg2.ix (v:=aE N) ?_ rfl rfl rfl))));refine Was.cons (We.v rfl (Was.cons (We.v rfl (Was.cons (We.v rfl (Was.nil (WF.box e ?_ rfl rfl rfl rfl)))))));refine We.c (Wg2.ix (v:=dY o) (Was.nil (WT.mk ?_ rfl rfl (Nat.le_of_ble_eq_true rfl))) rfl rfl rfl);exact⟨.non,dY o,rfl⟩
 |some t=>refine Wif.f (Ws.nx ?_);obtain⟨ws,o,e⟩:=wa (cH N t) List.filter_sublist;obtain⟨ws',o',e'⟩:=wa (cH N (t+1)) List.filter_sublist;refine Ws.seq (Ws.A (We.e2 (We.F (Was.cons (We.e2 (We.v rfl (We.c (Wg2.ix (v:=.int (n:Nat)) ?_ rfl rfl rfl))))))) (by decide));refine Was.cons (We.F (Was.cons (We.e2 (We.v rfl (We.c (Wg2.ix (v:=aE N) ?_ rfl rfl rfl))))));refine Was.cons (We.v rfl (Was.nil (WF.box (tN N (by omega) t) ?_ rfl rfl rfl rfl)));refine Was.cons (We.v rfl (Was.cons (We.v rfl (Was.cons (We.v rfl (Was.nil (WF.box e ?_ rfl rfl rfl rfl)))))));refine We.c (Wg2.ix (v:=.lst (List.map msD ws)) (WA.val ?_ (by trivial)) rfl rfl rfl);refine Ws.seq (Ws.A (We.e2 (We.F (Was.cons (We.e2 (We.v rfl (We.c (Wg2.ix (v:=.int (n:Nat)) ?_ rfl rfl rfl))))))) (by decide));refine Was.cons (We.F (Was.cons (We.e2 (We.v rfl (We.c (Wg2.ix (v:=aE N) ?_ rfl rfl rfl))))));refine Was.cons (We.e2 (We.v rfl (We.c (Wg2.add (Was.nil (WF.box (tN N (by omega) (t+1)) ?_ rfl rfl rfl rfl)) rfl rfl))));refine Was.cons (We.v rfl (Was.cons (We.v rfl (Was.cons (We.v rfl (Was.nil (WF.box e' ?_ rfl rfl rfl rfl)))))));refine We.c (Wg2.ix (v:=dY o') (WA.val ?_ (by trivial)) rfl rfl rfl);refine Ws.R (We.T (Was.cons (We.c (Was.cons (We.v rfl (Was.cons (We.v rfl (Was.cons (We.v rfl (Was.nil (WT.mk ?_ rfl rfl (Nat.le_of_ble_eq_true rfl))))))))))));exact⟨_,_,rfl⟩
noncomputable def zY(t:Tie)(x:Int):Int:=if x=t.a then t.b else t.a
noncomputable def fT(r:List Tie):Int->List Tie->Int->Prop
 |x,[],y=>x=y
 |x,t::ts,y=>t∈r/\t.a≠t.b/\(x=t.a\/x=t.b)/\fT r (zY t x) ts y
theorem pS{r:List Tie}:∀{ts us:List Tie} {x y z:Int},fT r x ts y->fT r y us z->fT r x (ts++us) z
 |[],_,_,_,_,h,k=>by cases h;exact k
 |t::ts,_,_,_,_,⟨h1,h2,h3,h4⟩,k=>⟨h1,h2,h3,pS h4 k⟩
noncomputable abbrev FSr:=List (Int×List Tie)
noncomputable def fmD(ts:List Tie):Dat:=.lst ((ts.map (·.m)).map Dat.int)
noncomputable def fk(s:FSr):List Int:=s.map (·.1)
noncomputable def fv(s:FSr):List Dat:=s.map fun e=>fmD e.2
structure oM(n:Nat)(r:List Tie)(a:Int)(s:FSr):Prop where
 nd:(fk s).Nodup
 inn:∀x∈fk s,0<=x/\x<n
 a0:a∈fk s
 way:∀e∈s,fT r a e.2 e.1/\e.2.Nodup/\(∀t∈e.2,t.a∈fk s/\t.b∈fk s)/\e.2.length<s.length
theorem oM.len{n:Nat}{r:List Tie}{a:Int}{s:FSr}(h:oM n r a s):s.length<=n:=by
 have:=dg (fk s) (places n) h.nd fun x hx=>(mz n x).mpr (h.inn x hx)
 rw[places_len]at this
 simpa [fk] using this
theorem oM.start{n:Nat}{r:List Tie}{a:Int}(a0:0<=a)(a1:a<n):oM n r a [(a,[])] where
 nd:=by simp[fk]
 inn:=by intro x hx;simp[fk]at hx;subst hx;exact⟨a0,a1⟩
 a0:=by simp[fk]
 way:=by intro e he;simp at he;subst he;exact⟨rfl,by simp,by simp,by simp⟩
theorem cK(s:FSr)(x:Int)(ts:List Tie):fk (s++[(x,ts)])=fk s++[x]:=by simp[fk]
theorem Ge(s:FSr)(x:Int)(ts:List Tie):fv (s++[(x,ts)])=fv s++[fmD ts]:=by simp[fv]
theorem pT{r:List Tie}:∀{ts:List Tie} {x y:Int},fT r x ts y->∀t∈ts,t∈r/\t.a≠t.b
 |[],_,_,_,t,h=>by cases h
 |u::ts,_,_,⟨h1,h2,_,h4⟩,t,h=>by
  rcases List.mem_cons.mp h with rfl | h
  ·exact⟨h1,h2⟩
  ·exact pT h4 t h
theorem oM.step{n:Nat}{r:List Tie}{a:Int}{s:FSr}(hr:Ends n r)(h:oM n r a s){p:Int}{ts:List Tie}(hp:(p,ts)∈s){u:Tie}(hu:u∈r)(hpu:p=u.a\/p=u.b)(hn:u.a+u.b-p∉fk s) :
  oM n r a (s++[(u.a+u.b-p,ts++[u])]):=by
 have pk:p∈fk s:=List.mem_map.mpr ⟨_,hp,rfl⟩;have g:=hr u hu;obtain⟨w1,w2,w3,w4⟩:=h.way _ hp;have ne:u.a≠u.b:=fun e=>by
  have z:u.a+u.b-p=p:=by omega
  exact hn (by rw[z];exact pk)
 have eo:zY u p=u.a+u.b-p:=by
  unfold zY;by_cases q:p=u.a
  ·rw[if_pos q];omega
  ·rw[if_neg q];rcases hpu with q' | q'<;>omega
 refine⟨?_,?_,?_,?_⟩
 ·rw[cK]
  exact List.nodup_append.mpr ⟨h.nd,by simp,fun x hx y hy e=>by rw[List.mem_singleton]at hy;subst hy;subst e;exact hn hx⟩
 ·intro x hx
  rw[cK]at hx;rcases List.mem_append.mp hx with hx | hx
  ·exact h.inn x hx
  ·rw[List.mem_singleton]at hx;subst hx;rcases hpu with q | q<;>omega
 ·rw[cK];exact List.mem_append_left _ h.a0
 ·intro e he
  rcases List.mem_append.mp he with he | he
  ·obtain⟨v1,v2,v3,v4⟩:=h.way e he
   exact⟨v1,v2,fun t ht=>by rw[cK];exact⟨List.mem_append_left _ (v3 t ht).1,List.mem_append_left _ (v3 t ht).2⟩,by simp;omega⟩
  ·rw[List.mem_singleton]at he
   subst he;refine⟨?_,?_,?_,?_⟩
   ·exact pS w1 ⟨hu,ne,hpu,eo⟩
   ·refine List.nodup_append.mpr ⟨w2,by simp,fun t ht y hy e=>?_⟩
    rw[List.mem_singleton]at hy;subst hy;subst e;obtain⟨q1,q2⟩:=w3 t ht;rcases hpu with q | q
    ·have z:t.a+t.b-p=t.b:=by omega
     exact hn (by rw[z];exact q2)
    ·have z:t.a+t.b-p=t.a:=by omega
     exact hn (by rw[z];exact q1)
   ·intro t ht
    rw[cK];rcases List.mem_append.mp ht with ht | ht
    ·exact⟨List.mem_append_left _ (w3 t ht).1,List.mem_append_left _ (w3 t ht).2⟩
    ·rw[List.mem_singleton]at ht
     subst ht;rcases hpu with q | q
     ·subst q
      refine⟨List.mem_append_left _ pk,List.mem_append_right _ ?_⟩;simp;omega
     ·subst q
      refine⟨List.mem_append_right _ ?_,List.mem_append_left _ pk⟩;simp
   ·simp;simp at w4;omega
theorem CJ(s:FSr)(x:Int):(∃ts,(x,ts)∈s/\bx (fk s) (fv s) x=some (fmD ts))\/(x∉fk s/\bx (fk s) (fv s) x=none):=by
 unfold fk fv;rw[pP (fun e:Int×List Tie=>e.1) (fun e=>fmD e.2) s x];cases hf:s.find? fun e=>decide (e.1=x) with
 |none=>refine Or.inr ⟨fun h=>?_,rfl⟩;obtain⟨e,he,hx⟩:=List.mem_map.mp h;have:=List.find?_eq_none.mp hf e he;simp[hx]at this
 |some e=>
  have h1:=List.mem_of_find?_eq_some hf;have h2:=List.find?_some hf;have h2:e.1=x:=by simpa using h2
  exact Or.inl ⟨e.2,by rw[<- h2];exact h1,rfl⟩
theorem Ku(s:FSr)(x:Int):(bx (fk s) (fv s) x).isSome=decide (x∈fk s):=by
 rcases CJ s x with⟨ts,h1,h2⟩ | ⟨h1,h2⟩
 ·have:x∈fk s:=List.mem_map.mpr ⟨_,h1,rfl⟩
  rw[h2,decide_eq_true this];rfl
 ·rw[h2,decide_eq_false h1];rfl
noncomputable def pU(r:List Tie)(K:List Int)(x:Int):Prop:=∀u∈r,(x=u.a\/x=u.b)->u.a+u.b-x∈K
theorem pU.more{r:List Tie}{K K':List Int}{x:Int}(h:pU r K x)(s:∀y∈K,y∈K'):pU r K' x:=fun u hu hx=>s _ (h u hu hx)
theorem Gf{r:List Tie}{K:List Int}(h:∀x∈K,pU r K x){x y:Int}(c:Con r x y):x∈K↔y∈K:=by
 induction c with
 |refl x=>exact Iff.rfl
 |tie t m=>
  constructor
  ·intro hx
   have:=h _ hx t m (.inl rfl);have e:t.a+t.b-t.a=t.b:=by omega
   rw[e]at this;exact this
  ·intro hx
   have:=h _ hx t m (.inr rfl);have e:t.a+t.b-t.b=t.a:=by omega
   rw[e]at this;exact this
 |symm _ ih=>exact ih.symm
 |trans _ _ i1 i2=>exact i1.trans i2
noncomputable def FwE(r:List Tie)(a b:Int)(s:FSr)(ps:List Int)(c5 c6 c7 c8 c9:Cell):Env:=[.sh (aE r),.sh (.int a),.sh (.int b),.ow (.dct (fk s) (fv s)),.ow (.lst (ps.map Dat.int)),c5,c6,c7,c8,c9]
theorem oN(n:Nat)(hn:n<=10)(r:List Tie)(hr:Ends n r)(hl:r.length<=60)(a b:Int)(a0:0<=a)(a1:a<n) :
  (¬Con r a b/\pJ [aE r,.int a,.int b]=some (.val .non))\/∃ts:List Tie,pJ [aE r,.int a,.int b]=some (.val (fmD ts))/\fT r a ts b/\ts.Nodup:=by
 suffices h:Wr (pJ [aE r,.int a,.int b]) fun v=>(¬Con r a b/\v=.val .non)\/∃ts:List Tie,v=.val (fmD ts)/\fT r a ts b/\ts.Nodup by
  obtain⟨v,h1,h⟩:=h;rcases h with⟨h2,rfl⟩ | ⟨ts,rfl,h2⟩
  ·exact .inl ⟨h2,h1⟩
  ·exact .inr ⟨ts,h1,h2⟩
 unfold pJ
 (refine Dm.Wr.fn ?_ rfl rfl;dsimp only[List.map,List.replicate,List.cons_append,List.nil_append])
 repeat array_get_dec
 refine Ws.wh (fun k ρ=>∃(s:FSr) (ps:List Int) (c5 c6 c7 c8 c9:Cell),ρ=FwE r a b s ps c5 c6 c7 c8 c9/\oM n r a s/\(∀x∈ps,x∈fk s)/\(∀x∈fk s,x∈ps\/pU r (fk s) x)/\k=ps.length+(n-s.length)/\k<=10) ?_ 100 n _ (by omega) ⟨[(a,[])],[a],_,_,_,_,_,rfl,oM.start a0 a1,by simp[fk],by simp[fk],by simp;omega,hn⟩;rintro k ρ ⟨s,ps,c5,c6,c7,c8,c9,rfl,F,hps,hd,hk,PY⟩;unfold FwE;refine Wt.Tr ?_;refine We.w rfl ?_;refine⟨_,!(ps.map Dat.int).isEmpty,rfl,rfl,?_⟩;have len:=F.len;rcases List.eq_nil_or_concat ps with e | ⟨ps0,p0,e⟩
 ·subst e
  refine Wif.no rfl ?_
  repeat array_get_dec
  refine We.Nj ?_
  repeat array_get_dec
  refine⟨⟨_,_,rfl⟩,?_⟩
  repeat array_get_dec
  refine⟨_,_,_,rfl,rfl,?_⟩
  repeat array_get_dec
  rcases CJ s b with⟨ts,h1,h2⟩ | ⟨h1,h2⟩
  ·obtain⟨w1,w2,w3,w4⟩:=F.way _ h1
   exact .inr ⟨ts,by rw[h2];rfl,w1,w2⟩
  ·exact .inl ⟨fun hc=>h1 ((Gf (fun x hx=>(hd x hx).resolve_left (by simp)) hc).mp F.a0),by rw[h2];rfl⟩
 ·rw[List.concat_eq_append]at e
  subst e;refine Wif.yes (by simp) ?_;unfold B0
  repeat array_get_dec
  refine We.Pop (ds:=ps0.map Dat.int) (d:=.int p0) ?_ (by show some (Cell.ow (.lst ((ps0++[p0]).map Dat.int)))=_;rw[List.map_append];rfl) (by trivial)
  repeat array_get_dec
  have hp0:p0∈fk s:=hps p0 (by simp);refine Ws.inv bf _ _ r _ _ _ _ _ (fun p q ρ=>∃(s:FSr) (ps:List Int) (c6 c7 c8 c9:Cell),ρ=FwE r a b s ps (.sh (.int p0)) c6 c7 c8 c9/\oM n r a s/\(∀x∈ps,x∈fk s)/\p0∈fk s/\(∀x∈fk s,x∈ps\/x=p0\/pU r (fk s) x)/\(∀u∈p,(p0=u.a\/p0=u.b)->u.a+u.b-p0∈fk s)/\k=ps.length+1+(n-s.length)) ⟨s,ps0,_,_,_,_,rfl,F,fun x hx=>hps x (by simp[hx]),hp0,?_,by simp,by rw[hk];simp⟩ ?_ ?_
  ·intro x hx
   rcases hd x hx with h | h
   ·rcases List.mem_append.mp h with h | h
    ·exact .inl h
    ·exact .inr (.inl (List.mem_singleton.mp h))
   ·exact .inr (.inr h)
  ·rintro p u q ρ e' ⟨s,ps,c6,c7,c8,c9,rfl,F,hps,hp0,hd,hp,hk⟩
   have len:=F.len;unfold FwE;refine Dm.aV rfl (by trivial) ?_;unfold BZ
   repeat array_get_dec
   have go:∀(K:List Int),(∀y∈fk s,y∈K)->u.a+u.b-p0∈K\/¬(p0=u.a\/p0=u.b)->∀v∈p++[u],(p0=v.a\/p0=v.b)->v.a+v.b-p0∈K:=by
    intro K sK h v hv hpv;rcases List.mem_append.mp hv with hv | hv
    ·exact sK _ (hp v hv hpv)
    ·rw[List.mem_singleton]at hv
     subst hv;exact h.resolve_right fun z=>z hpv
   refine⟨fun h=>?_,fun h=>?_⟩
   ·have hpu:=of_decide_eq_true h
    repeat array_get_dec
    rw[Ku];refine⟨fun h=>?_,fun h=>?_⟩
    ·have hnew:=ndT h
     repeat array_get_dec
     obtain⟨ts,t1,t2⟩:∃ts,(p0,ts)∈s/\bx (fk s) (fv s) p0=some (fmD ts):=by
      rcases CJ s p0 with h | h
      ·exact h
      ·exact absurd hp0 h.1
     refine Wg2.dx t2 ?_ rfl rfl
     repeat array_get_dec
     ·have F':=F.step hr t1 (by rw[e'];simp) hpu hnew
      have len':=F'.len;obtain⟨p1,p2⟩:=qM (ks:=fk s) (vs:=fv s) (i:=u.a+u.b-p0) (d:=fmD (ts++[u])) hnew;have em:Dat.lst ((ts.map (·.m)++[u.m]).map Dat.int)=fmD (ts++[u]):=by simp[fmD]
      refine⟨s++[(u.a+u.b-p0,ts++[u])],ps++[u.a+u.b-p0],.sh (.int u.m),.sh (.int u.a),.sh (.int u.b),.sh (.int (u.a+u.b-p0)),?_,F',?_,?_,?_,?_,?_⟩
      ·rw[em,p1,p2,cK,Ge,List.map_append];rfl
      ·intro x hx
       rw[cK];rcases List.mem_append.mp hx with hx | hx
       ·exact List.mem_append_left _ (hps x hx)
       ·exact List.mem_append_right _ hx
      ·rw[cK];exact List.mem_append_left _ hp0
      ·intro x hx
       rw[cK]at hx ⊢;rcases List.mem_append.mp hx with hx | hx
       ·rcases hd x hx with h | h | h
        ·exact .inl (List.mem_append_left _ h)
        ·exact .inr (.inl h)
        ·exact .inr (.inr (h.more fun y hy=>List.mem_append_left _ hy))
       ·exact .inl (List.mem_append_right _ hx)
      ·rw[cK]
       exact go _ (fun y hy=>List.mem_append_left _ hy) (.inl (by simp))
      ·rw[hk];simp at len' ⊢;omega
     all_goals (have l1:=F.len;have l2:ts.length<s.length:=(F.way _ t1).2.2.2;have l3:ps.length<=20:=(by omega);simp only[fk,List.length_map];unfold SZ;omega)
    ·have hold:=ndF h
     repeat array_get_dec
     exact⟨s,ps,_,_,_,_,rfl,F,hps,hp0,hd,go _ (fun y hy=>hy) (.inl hold),hk⟩
   ·have hpu:=of_decide_eq_false h
    repeat array_get_dec
    exact⟨s,ps,_,_,_,_,rfl,F,hps,hp0,hd,go _ (fun y hy=>hy) (.inr hpu),hk⟩
  ·rintro ρ ⟨s,ps,c6,c7,c8,c9,rfl,F,hps,hp0,hd,hp,hk⟩
   refine⟨ps.length+(n-s.length),by omega,s,ps,_,_,_,_,_,rfl,F,hps,fun x hx=>?_,rfl,by omega⟩;rcases hd x hx with h | rfl | h
   ·exact .inl h
   ·exact .inr hp
   ·exact .inr h
theorem CK{A:List Tie}{c:Tie}{x y:Int}(h:Con (c::A) x y)(n:¬Con A x y):(Con A x c.a/\Con A y c.b)\/(Con A x c.b/\Con A y c.a):=by
 have key:∀{x y:Int},Con (c::A) x y->Con A x y\/(Con A x c.a/\Con A y c.b)\/(Con A x c.b/\Con A y c.a):=fun h=>by
  induction h with
  |refl x=>exact .inl (.refl x)
  |tie t m=>
   rcases List.mem_cons.mp m with rfl | m
   ·exact .inr (.inl ⟨.refl _,.refl _⟩)
   ·exact .inl (.tie t m)
  |symm _ ih=>
   rcases ih with h | h | h
   ·exact .inl h.symm
   ·exact .inr (.inr ⟨h.2,h.1⟩)
   ·exact .inr (.inl ⟨h.2,h.1⟩)
  |trans _ _ i1 i2=>
   rcases i1 with h1 | h1 | h1
   ·rcases i2 with h2 | h2 | h2
    ·exact .inl (.trans h1 h2)
    ·exact .inr (.inl ⟨.trans h1 h2.1,h2.2⟩)
    ·exact .inr (.inr ⟨.trans h1 h2.1,h2.2⟩)
   ·rcases i2 with h2 | h2 | h2
    ·exact .inr (.inl ⟨h1.1,.trans (.symm h2) h1.2⟩)
    ·exact .inr (.inl ⟨h1.1,h2.2⟩)
    ·exact .inl (.trans h1.1 (.symm h2.2))
   ·rcases i2 with h2 | h2 | h2
    ·exact .inr (.inr ⟨h1.1,.trans (.symm h2) h1.2⟩)
    ·exact .inl (.trans h1.1 (.symm h2.2))
    ·exact .inr (.inr ⟨h1.1,h2.2⟩)
 exact(key h).resolve_left n
theorem Pr{A:List Tie}{c t:Tie}(h:Con (c::A) t.a t.b)(n:¬Con A t.a t.b):Con (t::A) c.a c.b:=by
 have up:∀{x y},Con A x y->Con (t::A) x y:=fun h=>Con.mono (fun u hu=>List.mem_cons_of_mem _ hu) h
 have tt:Con (t::A) t.a t.b:=.tie t List.mem_cons_self;rcases CK h n with⟨h1,h2⟩ | ⟨h1,h2⟩
 ·exact .trans (.symm (up h1)) (.trans tt (up h2))
 ·exact .trans (.symm (up h2)) (.trans (.symm tt) (up h1))
theorem Con.sin{F:List Tie}{t t':Int}(h:t<=t'){a b:Int}(c:Con (cH F t') a b):Con (cH F t) a b:=c.mono fun _ hu=>(mJ F h).subset hu
noncomputable def Bn(F:List Tie)(a b:Int):Option Int->Prop
 |none=>¬Con F a b
 |some m=>Con (cH F m) a b/\¬Con (cH F (m+1)) a b
theorem Bn.uniq{F:List Tie}{a b:Int}{o o':Option Int}(h:Bn F a b o)(h':Bn F a b o'):o=o':=by
 have up:∀m,Con (cH F m) a b->Con F a b:=fun m c=>c.mono fun _ hu=>(List.mem_filter.mp hu).1
 cases o with
 |none=>
  cases o' with
  |none=>rfl
  |some m=>exact absurd (up m h'.1) h
 |some m=>
  cases o' with
  |none=>exact absurd (up m h.1) h'
  |some m'=>
   rcases Int.lt_trichotomy m m' with q | q | q
   ·exact absurd (h'.1.sin (by omega)) h.2
   ·rw[q]
   ·exact absurd (h.1.sin (by omega)) h'.2
theorem Bn.same{F G:List Tie}{a b:Int}{o:Option Int}(h:Bn F a b o)(e:∀t,t∈F↔t∈G):Bn G a b o:=by
 have s:∀m t,t∈cH F m↔t∈cH G m:=fun m t=>by unfold cH;rw[List.mem_filter,List.mem_filter,e]
 cases o with
 |none=>exact fun c=>h (c.mono fun t ht=>(e t).mpr ht)
 |some m=>exact⟨h.1.mono fun t ht=>(s _ t).mp ht,fun c=>h.2 (c.mono fun t ht=>(s _ t).mpr ht)⟩
theorem Bn.symm{F:List Tie}{a b:Int}{o:Option Int}(h:Bn F a b o):Bn F b a o:=by
 cases o with
 |none=>exact fun c=>h c.symm
 |some m=>exact⟨h.1.symm,fun c=>h.2 c.symm⟩
instance Pu:DecidableEq Tie:=fun x y=>decidable_of_iff (x.m=y.m/\x.a=y.a/\x.b=y.b) ⟨fun h=>F9 h,fun h=>by subst h;exact⟨rfl,rfl,rfl⟩⟩
noncomputable def CL(F:List Tie)(e:Tie):List Tie:=F.filter fun u=>decide (u≠e)
theorem dH{F:List Tie}{e t:Tie}:t∈CL F e↔t∈F/\t≠e:=by unfold CL;rw[List.mem_filter,decide_eq_true_iff]
noncomputable def cW(F:List Tie):Prop:=∀e∈F,¬Con (CL F e) e.a e.b
theorem cW.same{F G:List Tie}(h:cW F)(e:∀t,t∈F↔t∈G):cW G:=fun x hx c=>h x ((e x).mpr hx) (c.mono fun t ht=>by rw[dH]at ht ⊢;exact⟨(e t).mpr ht.1,ht.2⟩)
theorem cW.snoc{F:List Tie}(h:cW F){x:Tie}(hx:¬Con F x.a x.b):cW (F++[x]):=fun e he c=>by
 have xF:x∉F:=fun z=>hx (.tie x z)
 rcases List.mem_append.mp he with he | he
 ·have ex:e≠x:=fun z=>xF (z▸he)
  have c':Con (x::CL F e) e.a e.b:=c.mono fun t ht=>by
   rw[dH]at ht;rcases List.mem_append.mp ht.1 with q | q
   ·exact List.mem_cons_of_mem _ (dH.mpr ⟨q,ht.2⟩)
   ·rw[List.mem_singleton.mp q];exact List.mem_cons_self
  refine hx ((Pr c' (h e he)).mono fun t ht=>?_);rcases List.mem_cons.mp ht with rfl | ht
  ·exact he
  ·exact(dH.mp ht).1
 ·rw[List.mem_singleton]at he
  subst he;refine hx (c.mono fun t ht=>?_);rw[dH]at ht;rcases List.mem_append.mp ht.1 with q | q
  ·exact q
  ·exact absurd (List.mem_singleton.mp q) ht.2
noncomputable def FO(F:List Tie):Prop:=∀p x q,F=p++x::q->¬Con p x.a x.b
theorem FO.nil:FO []:=fun p x q e=>by simp at e
theorem FO.snoc{F:List Tie}(h:FO F){x:Tie}(hx:¬Con F x.a x.b):FO (F++[x]):=fun p y q e=>by
 rcases List.eq_nil_or_concat q with rfl | ⟨q',z,rfl⟩
 ·have:=List.append_inj' e rfl
  obtain⟨rfl,e2⟩:=this;cases e2;exact hx
 ·rw[List.concat_eq_append]at e
  have:F++[x]=(p++y::q')++[z]:=by rw[e];simp
  obtain⟨e1,_⟩:=List.append_inj' this rfl;exact h p y q' e1
theorem FO.front{F:List Tie}{x:Tie}(h:FO (F++[x])):FO F/\¬Con F x.a x.b:=⟨fun p y q e=>h p y (q++[x]) (by rw[e];simp),h F x [] rfl⟩
theorem FO.CM{F:List Tie}(h:FO F):cW F:=by
 suffices hh:∀(m:Nat) (F:List Tie),F.length=m->FO F->cW F from hh _ F rfl h
 intro m
 induction m with
 |zero=>intro F hl _ e he;rw[List.length_eq_zero_iff.mp hl]at he;cases he
 |succ m ih=>
  intro F hl h;rcases List.eq_nil_or_concat F with rfl | ⟨G,x,rfl⟩
  ·cases hl
  ·rw[List.concat_eq_append]at hl h ⊢
   obtain⟨h1,h2⟩:=h.front;exact(ih G (by simpa using hl) h1).snoc h2
theorem mK{F G:List Tie}:∀{ts:List Tie} {x y:Int},fT F x ts y->(∀t∈ts,t∈G)->Con G x y
 |[],x,y,h,_=>by cases (show x=y from h);exact .refl _
 |t::ts,x,y,h,k=>by
  obtain⟨_,_,hx,hr⟩:=h;have c:=mK hr fun u hu=>k u (List.mem_cons_of_mem _ hu)
  have ct:Con G t.a t.b:=.tie t (k t List.mem_cons_self);unfold zY at c;by_cases q:x=t.a
  ·rw[if_pos q]at c
   rw[q];exact .trans ct c
  ·rw[if_neg q]at c
   rw[hx.resolve_left q];exact .trans ct.symm c
theorem pV{F:List Tie}{e:Tie}{G:List Tie}:∀{ts:List Tie} {x y:Int},fT F x ts y->ts.Nodup->e∈ts->(∀t∈ts,t≠e->t∈G)->Con G x y->Con G e.a e.b
 |t::ts,x,y,h,nd,he,k,c=>by
  obtain⟨p1,p2⟩:=List.nodup_cons.mp nd;obtain⟨ht,_,hx,hr⟩:=h;rcases List.mem_cons.mp he with rfl | he
  ·have c2:=mK hr fun u hu=>k u (List.mem_cons_of_mem _ hu) fun z=>p1 (z▸hu)
   unfold zY at c2;by_cases q:x=e.a
   ·rw[if_pos q]at c2
    rw[q]at c;exact .trans c c2.symm
   ·rw[if_neg q]at c2
    rw[hx.resolve_left q]at c;exact .trans c2 c.symm
  ·have te:t≠e:=fun z=>p1 (z▸he)
   have tG:=k t List.mem_cons_self te;have ct:Con G t.a t.b:=.tie t tG;refine pV hr p2 he (fun u hu hue=>k u (List.mem_cons_of_mem _ hu) hue) ?_;unfold zY;by_cases q:x=t.a
   ·rw[if_pos q]
    rw[q]at c;exact .trans ct.symm c
   ·rw[if_neg q]
    rw[hx.resolve_left q]at c;exact .trans ct c
theorem Gg{F:List Tie}(hF:cW F){a b:Int}{t:Tie}{ts:List Tie}(h:fT F a (t::ts) b)(nd:(t::ts).Nodup):Bn F a b (some (dX t.m (ts.map (·.m)))):=by
 obtain⟨h1,h2,h3⟩:=pR (ts.map (·.m)) t.m
 generalize dX t.m (ts.map (·.m))=m at h1 h2 h3
 have all:∀u∈t::ts,m<=u.m:=fun u hu=>by
  rcases List.mem_cons.mp hu with rfl | hu
  ·exact h2
  ·exact h3 _ (List.mem_map.mpr ⟨u,hu,rfl⟩)
 obtain⟨e,he,em⟩:∃e∈t::ts,e.m=m:=by
  rcases h1 with h1 | h1
  ·exact⟨t,List.mem_cons_self,h1.symm⟩
  ·obtain⟨u,hu,eu⟩:=List.mem_map.mp h1
   exact⟨u,List.mem_cons_of_mem _ hu,eu⟩
 have inF:∀u∈t::ts,u∈F:=fun u hu=>(pT h u hu).1
 refine⟨mK h fun u hu=>List.mem_filter.mpr ⟨inF u hu,decide_eq_true (all u hu)⟩,fun c=>?_⟩;have c':Con (CL F e) a b:=c.mono fun u hu=>by obtain⟨q1,q2⟩:=List.mem_filter.mp hu;have q2:=of_decide_eq_true q2;exact dH.mpr ⟨q1,fun z=>by rw[z]at q2;omega⟩
 exact hF e (inF e he) (pV h nd he (fun u hu ue=>dH.mpr ⟨inF u hu,ue⟩) c')
theorem cM{n:Nat}(n10:n<=10){F:List Tie}(hE:Ends n F)(hl:F.length<=60)(hF:cW F){a b:Int}(a0:0<=a)(a1:a<n)(hab:a≠b) :
  ∃o:Option Int,kr [.int (n:Nat),aE F,.int a,.int b]=some (.val (cR o))/\Bn F a b o:=by
 suffices hh:Wr (kr [.int (n:Nat),aE F,.int a,.int b]) fun v=>∃o:Option Int,v=.val (cR o)/\Bn F a b o by obtain⟨v,h1,o,rfl,h2⟩:=hh;exact⟨o,h1,h2⟩
 unfold kr
 (refine Dm.Wr.fn ?_ rfl rfl;dsimp only[List.map,List.replicate,List.cons_append,List.nil_append])
 rcases oN n n10 F hE hl a b a0 a1 with⟨hc,e⟩ | ⟨ts,e,hp,nd⟩
 ·refine Ws.seq (Ws.A (We.F ?_) (by decide))
  refine Was.cons (We.v rfl (Was.cons (We.v rfl (Was.cons (We.v rfl (Was.nil (WF.val e (WA.val ?_ (by trivial)) rfl rfl)))))));refine Ws.R (We.If (Wt.V (We.e2 (We.v rfl (We.c (Wg2.isN (d:=.non) (Wb.mk (Wif.t (We.c ?_))) rfl rfl))))));exact⟨none,rfl,hc⟩
 ·refine Ws.seq (Ws.A (We.F ?_) (by decide))
  refine Was.cons (We.v rfl (Was.cons (We.v rfl (Was.cons (We.v rfl (Was.nil (WF.box e (WA.val ?_ (by trivial)) rfl rfl rfl rfl)))))));cases ts with
  |nil=>exact absurd (show a=b from hp) hab
  |cons t ts=>refine Ws.R (We.If (Wt.V (We.e2 (We.v rfl (We.c (Wg2.isN (d:=fmD (t::ts)) (Wb.mk (Wif.f ?_)) rfl rfl))))));refine We.B (Was.cons (We.v rfl (Was.nil (WB.Pq (n:=t.m) (ns:=ts.map (·.m)) ?_ rfl))));exact⟨some _,rfl,Gg hF hp nd⟩
noncomputable def l3(t:Tie):List Int:=[t.m,t.a,t.b]
theorem qW(r:List Tie):aE r=.lst ((r.map l3).map qA):=by unfold aE;rw[List.map_map];rfl
theorem yk{x y:Int}{s t:List Int}(h:lx (y::t) (x::s)=false):x<=y:=by
 unfold lx at h;split at h
 ·omega
 ·have:=of_decide_eq_false h
  omega
theorem zZ(l:List (List Int)):(cO lx l).Pairwise fun a b=>lx b a=false:=b_ (fun a b c h1 h2=>by
 cases h:lx c a
 ·rfl
 ·rcases vD c b a h with z | z
  ·rw[z]at h2;cases h2
  ·rw[z]at h1;cases h1) (fun a b h=>by
 cases h':lx b a
 ·rfl
 ·have:=fK a b a h h'
  rw[f6]at this;cases this) l
theorem pW:∀(nss:List (List Int)),(∀ns∈nss,ns≠[])->eX (nss.map qA)=some nss
 |[],_=>rfl
 |ns::nss,h=>by
  rw[List.map_cons];unfold qA;rw[eX,mh];dsimp only;have:ns.isEmpty=false:=by
   cases ns with
   |nil=>exact absurd rfl (h [] List.mem_cons_self)
   |cons _ _=>rfl
  rw[this];simp only[Bool.false_eq_true,if_false];have ih:=pW nss fun x hx=>h x (List.mem_cons_of_mem _ hx)
  unfold qA at ih;rw[ih];rfl
theorem tP(r:List Tie):eX ((r.map l3).map qA)=some (r.map l3):=pW _ fun ns hn=>by obtain⟨t,_,rfl⟩:=List.mem_map.mp hn;exact List.cons_ne_nil _ _
theorem pX(F:List Tie):∃G:List Tie,G.Perm F/\G.Pairwise (fun t u=>t.m<=u.m)/\cO lx (F.map l3)=G.map l3:=by
 have pm:=cD lx (F.map l3);have:∀l:List (List Int),(∀x∈l,∃t:Tie,x=l3 t)->∃G:List Tie,l=G.map l3:=fun l=>by
  induction l with
  |nil=>exact fun _=>⟨[],rfl⟩
  |cons x l ih=>
   intro h;obtain⟨t,rfl⟩:=h x List.mem_cons_self;obtain⟨G,rfl⟩:=ih fun y hy=>h y (List.mem_cons_of_mem _ hy)
   exact⟨t::G,rfl⟩
 obtain⟨G,eG⟩:=this _ fun x hx=>by obtain⟨t,_,rfl⟩:=List.mem_map.mp (pm.mem_iff.mp hx);exact⟨t,rfl⟩
 rw[eG]at pm;refine⟨G,?_,?_,eG⟩
 ·have un:=pm.map fun x=>match x with
   |[m,a,b]=>(⟨m,a,b⟩:Tie)
   |_=>⟨0,0,0⟩
  rw[List.map_map,List.map_map]at un;have id':∀ A:List Tie,A.map ((fun x=>match x with
   |[m,a,b]=>(⟨m,a,b⟩:Tie)
   |_=>⟨0,0,0⟩)∘l3)=A:=fun A=>(List.map_congr_left fun _ _=>rfl).trans (List.map_id A)
  rw[id',id']at un;exact un
 ·have:=zZ (F.map l3)
  rw[eG,List.pairwise_map]at this;exact this.imp fun h=>yk h
theorem WB.Hz{F G:List Tie}(e:cO lx (F.map l3)=G.map l3)(hl:F.length<=63){o:Option (List Dat)}{K:RV->Prop}(k:K (.new (aE G)))(ho:o=some [aE F]):WB ez o K:=⟨_,_,ho,by rw[qW];unfold ez;dsimp only;rw[tP];dsimp only;rw[if_pos (by rw[List.length_map];exact hl),e,<- qW],k⟩
theorem mL{n:Nat}{f:Int->Int}{i k:Nat}{s1 s2:Nat}{x y:Int}{ρ ρ1:Env}{Q:Val->Env->Prop}(hn:n<=10)(q:Q (.new (lab n fun z=>if f z=y then x else f z)) ρ)(hi:ρ[i]?=some (.ow (lab n f)))(h1:ρ.set i .un=ρ1)(hk:ρ.length=k)(hk0:k≠0)
  (hx:ρ1[s1]?=some (.sh (.int x))) (hy:ρ1[s2]?=some (.sh (.int y))):We (aW i 1 (bN k) b7 (eIf (tV (e2 gEq (eV k) (eV s2))) (eV s1) (eV k))) ρ Q:=by
 have l1:ρ1.length=k:=by rw[<- h1,List.length_set];exact hk
 have b1:s1<ρ1.length:=(List.getElem?_eq_some_iff.mp hx).1;have b2:s2<ρ1.length:=(List.getElem?_eq_some_iff.mp hy).1;refine We.Pe Dat.int ((List.range n).map fun(i:Nat)=>f i) (fun z=>if z=y then x else z) Dat.int ?_ (by rw[hi,yh]) h1 hk hk0 (by rw[List.length_map,List.length_range];unfold SZ;omega) fun z hz=>?_
 ·have:Dat.lst ((((List.range n).map fun(i:Nat)=>f i).map fun z=>if z=y then x else z).map Dat.int)=lab n fun z=>if f z=y then x else f z:=by
   unfold lab;rw[List.map_map,List.map_map];rfl
  rw[this];exact q
 ·have gk:(ρ1++[Cell.sh (Dat.int z)])[k]?=some (.sh (.int z)):=by rw[List.getElem?_append_right (by omega),l1,Nat.sub_self];rfl
  refine We.If (Wt.V (We.e2 (We.v gk (We.v (by rw[List.getElem?_append_left b2];exact hy) (Wg2.eq (Wb.mk (Wif.dec (fun e=>?_) fun e=>?_)) rfl rfl)))))
  ·refine We.v (by rw[List.getElem?_append_left b1];exact hx) (Wk.val ⟨?_,rfl⟩)
   rw[if_pos e]
  ·refine We.v gk (Wk.val ⟨?_,rfl⟩)
   rw[if_neg e]
theorem CN(f:Int->Int)(a b:Int):(fun z=>if f z=f b then f a else f z)=mgf f a b:=rfl
theorem kH{n:Nat}(n10:n<=10){F:List Tie}(hE:Ends n F)(hl:F.length<=60){a b:Int}(a0:0<=a)(a1:a<n)(b0:0<=b)(b1:b<n)(hab:a≠b) :
  ∃o:Option Int,pO [.int (n:Nat),aE F,.int a,.int b]=some (.val (cR o))/\Bn F a b o:=by
 obtain⟨G,pm,srt,eG⟩:=pX F
 suffices hh:Wr (pO [.int (n:Nat),aE F,.int a,.int b]) fun v=>∃o:Option Int,v=.val (cR o)/\Bn G a b o by obtain⟨v,h1,o,rfl,h2⟩:=hh;exact⟨o,h1,h2.same fun t=>pm.mem_iff⟩
 have hE':Ends n G:=fun t ht=>hE t (pm.mem_iff.mp ht)
 unfold pO
 (refine Dm.Wr.fn ?_ rfl rfl;dsimp only[List.map,List.replicate,List.cons_append,List.nil_append])
 refine Ws.seq (Ws.A (We.B (Was.cons (We.v rfl (Was.nil (WB.FH ?_ rfl (by omega)))))) (by decide));rw[Int.toNat_natCast,qR];refine WA.new ?_ (by trivial);refine Ws.seq (Ws.For (Wi.S (We.e1 (We.B (Was.cons (We.v rfl (Was.nil (WB.Hz eG (by omega) ?_ rfl))))))));refine Wg1.Kl (enc:=bf) (xs:=G) (Wk.new ⟨_,rfl,?_⟩) rfl;refine Ws.inv bf _ _ G.reverse _ _ _ _ _ (fun p q ρ=>∃(f:Int->Int) (c5 c6 c7:Cell),ρ=[.sh (.int (n:Nat)),.sh (aE F),.sh (.int a),.sh (.int b),.ow (lab n f),c5,c6,c7]/\Tells f p/\¬Con p a b) ⟨fun x=>x,_,_,_,rfl,tells_nil,fun c=>hab c.nil⟩ ?_ ?_
 ·rintro p t q ρ e ⟨f,c5,c6,c7,rfl,hT,hc⟩
  have tG:t∈G:=List.mem_reverse.mp (e▸List.mem_append_right _ List.mem_cons_self);obtain⟨t1,t2,t3,t4⟩:=hE' t tG;refine Dm.aV rfl (by trivial) ?_;unfold Cd;refine Ws.seq (Ws.A (We.e2 (We.w rfl (We.e2 (We.v rfl (We.c (Wg2.ix (v:=.int t.a) (Wg2.ix (v:=.int (f t.a)) (WA.val ?_ (by trivial)) rfl rfl (ck n f t.a t1 t2)) rfl rfl rfl)))))) (by decide));refine Ws.seq (Ws.A (We.e2 (We.w rfl (We.e2 (We.v rfl (We.c (Wg2.ix (v:=.int t.b) (Wg2.ix (v:=.int (f t.b)) (WA.val ?_ (by trivial)) rfl rfl (ck n f t.b t3 t4)) rfl rfl rfl)))))) (by decide));refine Ws.seq (Ws.A (mL n10 ?_ rfl (by trivial) rfl (by decide) rfl rfl) (by decide));rw[CN];refine WA.new ?_ (by trivial);have hT':Tells (mgf f t.a t.b) (p++[t]):=tells_same (tells_mgf hT t t.a t.b (.inl ⟨rfl,rfl⟩)) fun u=>by simp[or_comm]
  refine Ws.If (Wt.V (We.e2 (We.e2 (We.w rfl (We.v rfl (Wg2.ix (v:=.int (mgf f t.a t.b a)) ?_ rfl rfl (ck n _ a a0 a1)))))));refine We.e2 (We.w rfl (We.v rfl (Wg2.ix (v:=.int (mgf f t.a t.b b)) (Wg2.eq (Wb.mk (Wif.dec (fun q'=>?_) fun q'=>Ws.nx ?_)) rfl rfl) rfl rfl (ck n _ b b0 b1))))
  ·refine Ws.R (We.e2 (We.v rfl (We.c (Wg2.ix (v:=.int t.m) ?_ rfl rfl rfl))))
   have cc:=(hT' a b).mp q';have eG2:G=(q.reverse++[t])++p.reverse:=by have:=congrArg List.reverse e;rw[List.reverse_reverse]at this;rw[this];simp
   have s1:∀u∈p,t.m<=u.m:=fun u hu=>by rw[eG2]at srt;exact(List.pairwise_append.mp srt).2.2 t (List.mem_append_right _ List.mem_cons_self) u (List.mem_reverse.mpr hu)
   have s2:∀u∈q,u.m<=t.m:=fun u hu=>by rw[eG2]at srt;exact(List.pairwise_append.mp (List.pairwise_append.mp srt).1).2.2 u (List.mem_reverse.mpr hu) t List.mem_cons_self
   have mG:∀u,u∈G↔u∈p\/u=t\/u∈q:=fun u=>by rw[<- List.mem_reverse,e];simp
   refine⟨some t.m,rfl,cc.mono fun u hu=>?_,fun c=>hc (c.mono fun u hu=>?_)⟩
   ·refine List.mem_filter.mpr ⟨(mG u).mpr ?_,decide_eq_true ?_⟩
    ·rcases List.mem_append.mp hu with h | h
     ·exact .inl h
     ·exact .inr (.inl (List.mem_singleton.mp h))
    ·rcases List.mem_append.mp hu with h | h
     ·exact s1 u h
     ·rw[List.mem_singleton.mp h];exact Int.le_refl _
   ·obtain⟨h1,h2⟩:=List.mem_filter.mp hu
    have h2:=of_decide_eq_true h2;rcases (mG u).mp h1 with h | h | h
    ·exact h
    ·rw[h]at h2;omega
    ·have:=s2 u h;omega
  ·exact⟨_,_,_,_,rfl,hT',fun c=>q' ((hT' a b).mpr c)⟩
 ·rintro ρ ⟨f,c5,c6,c7,rfl,hT,hc⟩
  refine Ws.R (We.c ⟨none,rfl,fun c=>hc (c.mono fun u hu=>List.mem_reverse.mpr hu)⟩)
theorem z0{n:Nat}(n10:n<=10){F:List Tie}(hE:Ends n F)(hl:F.length<=60)(hF:FO F):x_ [.int (n:Nat),aE F]=some (.val (.bl true)):=by
 apply Wr.eq;unfold x_
 (refine Dm.Wr.fn ?_ rfl rfl;dsimp only[List.map,List.replicate,List.cons_append,List.nil_append])
 refine Ws.seq (Ws.A (We.B (Was.cons (We.v rfl (Was.nil (WB.FH ?_ rfl (by omega)))))) (by decide));rw[Int.toNat_natCast,qR];refine WA.new ?_ (by trivial);refine Ws.seq (Ws.For (Wi.S (We.v rfl (Wk.val ⟨_,rfl,?_⟩))));refine Ws.inv bf _ _ F _ _ _ _ _ (fun p q ρ=>∃(f:Int->Int) (c3 c4 c5 c6 c7:Cell),ρ=[.sh (.int (n:Nat)),.sh (aE F),.ow (lab n f),c3,c4,c5,c6,c7]/\Tells f p) ⟨fun x=>x,_,_,_,_,_,rfl,tells_nil⟩ ?_ ?_
 ·rintro p t q ρ e ⟨f,c3,c4,c5,c6,c7,rfl,hT⟩
  obtain⟨t1,t2,t3,t4⟩:=hE t (e▸List.mem_append_right _ List.mem_cons_self);refine Dm.aV rfl (by trivial) ?_;unfold Cc;refine Ws.seq (Ws.A (We.e2 (We.w rfl (We.v rfl (Wg2.ix (v:=.int (f t.a)) (WA.val ?_ (by trivial)) rfl rfl (ck n f t.a t1 t2))))) (by decide));refine Ws.seq (Ws.A (We.e2 (We.w rfl (We.v rfl (Wg2.ix (v:=.int (f t.b)) (WA.val ?_ (by trivial)) rfl rfl (ck n f t.b t3 t4))))) (by decide));refine Ws.seq (Ws.If (Wt.V (We.e2 (We.v rfl (We.v rfl (Wg2.eq (Wb.mk (Wif.dec (fun q'=>?_) fun _=>Ws.nx ?_)) rfl rfl))))))
  ·exact absurd ((hT _ _).mp q') (hF p t q e)
  refine Ws.A (mL n10 ?_ rfl (by trivial) rfl (by decide) rfl rfl) (by decide);rw[CN];exact WA.new ⟨_,_,_,_,_,_,rfl,tells_same (tells_mgf hT t t.a t.b (.inl ⟨rfl,rfl⟩)) fun u=>by simp[or_comm]⟩ (by trivial)
 ·rintro ρ ⟨f,c3,c4,c5,c6,c7,rfl,hT⟩
  exact Ws.R (We.c rfl)
theorem CO{n:Nat}(n1:1<=n)(n10:n<=10)(x:Int):∃(F:List Tie) (x':Int),sY [aK x,.int (n:Nat)]=some (.new (aE F),aK x')/\Ends n F/\F.length<=60/\FO F:=by
 have sz:1000<=SZ:=by decide
 suffices hh:WrM (sY [aK x,.int (n:Nat)]) fun v d=>∃(F:List Tie) (x':Int),v=.new (aE F)/\d=aK x'/\Ends n F/\F.length<=60/\FO F by obtain⟨v,d,h1,F,x',rfl,rfl,h2⟩:=hh;exact⟨F,x',h1,h2⟩
 unfold sY;refine WrM.fn ?_ rfl rfl;dsimp only[List.map,List.replicate,List.cons_append,List.nil_append];refine Ws.seq (Ws.A (We.B (Was.cons (We.v rfl (Was.nil (WB.FH ?_ rfl (by omega)))))) (by decide));rw[Int.toNat_natCast,qR];refine WA.new ?_ (by trivial);refine Ws.seq (Ws.A (We.L (Was.nil (WT.mk ?_ rfl rfl (by decide)))) (by decide));refine WA.new ?_ (by trivial);refine Ws.seq (Ws.For (Wi.R1 ?_));refine We.take (We.e2 (We.c (We.v rfl (Wg2.mul (b5.mk (qQ ?_ rfl rfl (by omega) (by unfold fq;omega))) rfl rfl (.inl (by decide)))))) rfl;have hv:=cJ x (2*(n:Nat)) (by omega)
 generalize x % (2*((n:Nat):Int))=many at hv
 refine b5.mk ⟨?_,by unfold BIG;omega,by unfold BIG;omega⟩;refine Ws.inv (fun i:Nat=>Dat.int (0+(i:Nat))) _ _ (List.range many.toNat) _ _ _ _ _ (fun p q ρ=>∃(x:Int) (f:Int->Int) (F:List Tie) (c4 c5 c6 c7 c8:Cell),ρ=[.ow (aK x),.sh (.int (n:Nat)),.ow (lab n f),.ow (aE F),c4,c5,c6,c7,c8]/\Tells f F/\Ends n F/\F.length<=p.length/\FO F) ⟨_,fun x=>x,[],_,_,_,_,_,rfl,tells_nil,fun t ht=>(by cases ht),by simp,FO.nil⟩ ?_ ?_
 ·rintro p i q ρ e ⟨x,f,F,c4,c5,c6,c7,c8,rfl,hT,hE,hl,hF⟩
  have pl:p.length<60:=by have:=congrArg List.length e;simp at this;omega
  refine Dm.aV rfl (by trivial) ?_;unfold Cj;refine Ws.seq (Ws.A ?_ (by decide));refine We.drw (m:=(n:Nat)) rfl (by omega) (by unfold fq;omega) rfl fun a x1 a0 a1 ρ3 e3=>?_
  subst e3;refine WA.val ?_ (by trivial);refine Ws.seq (Ws.A ?_ (by decide));refine We.drw (m:=(n:Nat)) rfl (by omega) (by unfold fq;omega) rfl fun b x2 b0 b1 ρ3 e3=>?_
  subst e3;refine WA.val ?_ (by trivial);refine Ws.If (Wt.V (We.e2 (We.e2 (We.w rfl (We.v rfl (Wg2.ix (v:=.int (f a)) ?_ rfl rfl (ck n f a a0 a1)))))));refine We.e2 (We.w rfl (We.v rfl (Wg2.ix (v:=.int (f b)) (Wg2.ne (Wb.mk ⟨fun hq=>?_,fun hq=>Ws.nx ?_⟩) rfl rfl) rfl rfl (ck n f b b0 b1))))
  ·have hd:=ndT hq
   refine Ws.seq (Ws.App (We.T (Was.cons ?_)) rfl);refine We.drw (m:=9) rfl (by decide) (by decide) rfl fun m x3 m0 m1 ρ3 e3=>?_
   subst e3;refine Was.cons (We.B (Was.cons (We.v rfl (Was.cons (We.v rfl (Was.nil (WB.min2 ?_ rfl)))))));refine Was.cons (We.B (Was.cons (We.v rfl (Was.cons (We.v rfl (Was.nil (WB.max2 ?_ rfl)))))));refine Was.nil (WT.mk ?_ rfl rfl (Nat.le_of_ble_eq_true rfl))
   generalize hlo:(if b<a then b else a)=lo
   generalize hhi:(if b>a then b else a)=hi
   have ab:(a=lo/\b=hi)\/(a=hi/\b=lo):=by
    rw[<- hlo,<- hhi];by_cases q1:b<a
    ·rw[if_pos q1,if_neg (by omega)];exact .inr ⟨rfl,rfl⟩
    ·rw[if_neg q1]
     by_cases q2:b>a
     ·rw[if_pos q2];exact .inl ⟨rfl,rfl⟩
     ·rw[if_neg q2];exact .inl ⟨rfl,by omega⟩
   have hc:¬ Con F lo hi:=fun c=>hd ((hT a b).mpr (by
    rcases ab with⟨e1,e2⟩ | ⟨e1,e2⟩
    ·rw[e1,e2];exact c
    ·rw[e1,e2];exact c.symm))
   refine Wk.val (gA (ds:=F.map bf) (ρ3:=[.ow (aK x3),.sh (.int (n:Nat)),.ow (lab n f),.ow (aE (F++[⟨m,lo,hi⟩])),.sh (.int (0+(i:Nat))),.sh (.int a),.sh (.int b),c7,c8]) ?_ rfl (by unfold aE;rw[List.map_append];rfl) (by rw[List.length_map];omega));refine Ws.seq (Ws.A (We.e2 (We.w rfl (We.v rfl (Wg2.ix (v:=.int (f a)) (WA.val ?_ (by trivial)) rfl rfl (ck n f a a0 a1))))) (by decide));refine Ws.seq (Ws.A (We.e2 (We.w rfl (We.v rfl (Wg2.ix (v:=.int (f b)) (WA.val ?_ (by trivial)) rfl rfl (ck n f b b0 b1))))) (by decide));refine Ws.A (mL n10 ?_ rfl (by trivial) rfl (by decide) rfl rfl) (by decide);rw[CN];refine WA.new ⟨x3,mgf f a b,F++[⟨m,lo,hi⟩],_,_,_,_,_,rfl,tells_same (tells_mgf hT ⟨m,lo,hi⟩ a b ab) fun u=>by simp[or_comm],fun t ht=>?_,by simp;omega,hF.snoc hc⟩ (by trivial);rcases List.mem_append.mp ht with h | h
   ·exact hE t h
   ·rw[List.mem_singleton.mp h]
    show 0<=lo/\lo<n/\0<=hi/\hi<n;rcases ab with⟨e1,e2⟩ | ⟨e1,e2⟩<;>omega
  ·exact⟨x2,f,F,_,_,_,_,_,rfl,hT,hE,by simp;omega,hF⟩
 ·rintro ρ ⟨x,f,F,c4,c5,c6,c7,c8,rfl,hT,hE,hl,hF⟩
  rw[List.length_range]at hl;refine Ws.R (We.w rfl (WR.slot ?_ rfl));exact⟨_,rfl,F,x,rfl,rfl,hE,by omega,hF⟩
theorem Gh(o:Option Int):gNe (cR o) (cR o)=some (.val (.bl false)):=by
 cases o with
 |none=>rfl
 |some m=>exact(kY m m).trans (by simp)
theorem Wg2.neO{o:Option Int}{p q:Option Dat}{K:RV->Prop}(k:K (.val (.bl false)))(hp:p=some (cR o))(hq:q=some (cR o)):Wg2 gNe p q K:=⟨_,_,_,hp,hq,Gh o,k⟩
theorem dI(o:Option Int):dS (cR o)=false:=by cases o<;>rfl
theorem jx(n:Nat):ups 0 n=(List.range n).map fun i:Nat=>Dat.int ((i:Nat):Int):=by unfold ups;apply List.map_congr_left;intro i _;simp
theorem qw{n:Nat}(n1:1<=n)(n10:n<=10)(x:Int):∃x':Int,sZ [aK x,.int (n:Nat)]=some (.val (.bl true),aK x'):=by
 suffices hh:WrM (sZ [aK x,.int (n:Nat)]) fun v d=>∃x':Int,v=.val (.bl true)/\d=aK x' by obtain⟨v,d,h1,x',rfl,rfl⟩:=hh;exact⟨x',h1⟩
 obtain⟨F,x1,eF,hE,hl,hF⟩:=CO n1 n10 x;unfold sZ;refine WrM.fn ?_ rfl rfl;dsimp only[List.map,List.replicate,List.cons_append,List.nil_append];refine Ws.seq (Ws.A (We.Fm (Was.cons (We.v rfl (Was.nil (WFm.any eF ?_ rfl rfl (by trivial))))) rfl) (by decide));refine WA.new ?_ (by trivial);refine Ws.seq (Ws.For (Wi.R1 (We.v rfl (b5.mk ⟨?_,by unfold BIG;omega,by unfold BIG;omega⟩))));rw[Int.toNat_natCast,jx];have own:∀c2:Cell,c2=.ow (aE F)\/c2=.sh (aE F)->∀{Q:Val->Env->Prop} {ρ:Env},ρ[2]?=some c2->(∀v,pk ρ v=some (aE F)->Q v ρ)->We (eV 2) ρ Q:=fun c2 h Q ρ hr k=>by
  rcases h with rfl | rfl
  ·exact We.w hr (k _ (by unfold pk;dsimp only;rw[hr]))
  ·exact We.v hr (k _ rfl)
 refine Ws.inv (fun i:Nat=>Dat.int ((i:Nat):Int)) _ _ (List.range n) _ _ _ _ _ (fun p q ρ=>∃(c2 c3 c4 c5:Cell),ρ=[.ow (aK x1),.sh (.int (n:Nat)),c2,c3,c4,c5]/\(c2=.ow (aE F)\/c2=.sh (aE F))) ⟨_,_,_,_,rfl,.inl rfl⟩ ?_ ?_
 ·rintro p i q ρ e ⟨c2,c3,c4,c5,rfl,h2⟩
  have hi:i<n:=(dG e).2;refine Dm.aV rfl (by trivial) ?_;unfold Cm;refine Ws.For (Wi.R1 (We.v rfl (b5.mk ⟨?_,by unfold BIG;omega,by unfold BIG;omega⟩)));rw[Int.toNat_natCast,jx];refine Ws.inv (fun i:Nat=>Dat.int ((i:Nat):Int)) _ _ (List.range n) _ _ _ _ _ (fun p q ρ=>∃(c2 c4 c5:Cell),ρ=[.ow (aK x1),.sh (.int (n:Nat)),c2,.sh (.int (i:Nat)),c4,c5]/\(c2=.ow (aE F)\/c2=.sh (aE F))) ⟨_,_,_,rfl,h2⟩ ?_ ?_
  ·rintro p l q ρ e ⟨c2,c4,c5,rfl,h2⟩
   have hl':l<n:=(dG e).2;refine Dm.aV rfl (by trivial) ?_;unfold Ck;refine Ws.If (Wt.V (We.e2 (We.v rfl (We.v rfl (Wg2.ne (Wb.mk ⟨fun hq=>?_,fun hq=>Ws.nx ⟨c2,_,_,rfl,h2⟩⟩) rfl rfl)))));have hil:=ndT hq;obtain⟨o,eo,bo⟩:=kH n10 hE hl (a:=(i:Nat)) (b:=(l:Nat)) (by omega) (by omega) (by omega) (by omega) hil;obtain⟨o',eo',bo'⟩:=cM n10 hE hl hF.CM (a:=(i:Nat)) (b:=(l:Nat)) (by omega) (by omega) hil;have:=bo.uniq bo';subst this;refine Ws.seq (Ws.A (We.F ?_) (by decide));refine Was.cons (We.v rfl (Was.cons (own c2 h2 rfl fun v hv=>?_)));refine Was.cons (We.v rfl (Was.cons (We.v rfl (Was.nil (WF.val eo (WA.val ?_ (by trivial)) ?_ (dI _))))))
   ·refine Ws.If (Wt.V (We.e2 (We.F (Was.cons (We.v rfl (Was.cons (We.B (Was.cons (own c2 h2 rfl fun v hv=>?_)))))))))
    refine Was.nil (WB.list (xs:=F.map bf) ?_ (by unfold pks pks;rw[hv];rfl));refine Was.cons (We.v rfl (Was.cons (We.v rfl (Was.nil (WF.val eo' ?_ rfl (dI _))))));exact We.v rfl (Wg2.neO (Wb.mk (Wif.f (Ws.nx ⟨c2,_,_,rfl,h2⟩))) rfl rfl)
   ·show pks _ [.val (.int (n:Nat)),v,.val (.int (i:Nat)),.val (.int (l:Nat))]=_
    unfold pks pks pks pks pks;rw[hv];rfl
  ·rintro ρ ⟨c2,c4,c5,rfl,h2⟩
   exact⟨_,_,_,_,rfl,h2⟩
 ·rintro ρ ⟨c2,c3,c4,c5,rfl,h2⟩
  exact Ws.R (We.c ⟨_,rfl,x1,rfl,rfl⟩)
theorem Lat.uniq{N:List Tie}{j:Nat}{a b:Int}{w w':Option Int}(h:Lat N j a b w)(h':Lat N j a b w'):w=w':=by
 cases w with
 |none=>
  cases w' with
  |none=>rfl
  |some v=>exact absurd (h'.1.up List.filter_sublist) h
 |some v=>
  cases w' with
  |none=>exact absurd (h.1.up List.filter_sublist) h'
  |some v'=>obtain⟨_,e,l⟩:=(h'.iff v).mp h.1;obtain⟨_,e',l'⟩:=(h.iff v').mp h'.1;cases e;cases e';rw[Int.le_antisymm l l']
noncomputable def Wf(N:List Tie)(j:Nat)(a b:Int):Option Int:=by classical exact if h:∃w,Lat N j a b w then Classical.choose h else none
theorem Nr{N:List Tie}{j:Nat}{a b:Int}{w:Option Int}(h:Lat N j a b w):Wf N j a b=w:=by
 unfold Wf;have:∃w,Lat N j a b w:=⟨w,h⟩
 rw[dif_pos this];exact(Classical.choose_spec this).uniq h
structure St(n k j:Nat)(N:List Tie):Prop where
 n1:1<=n
 n10:n<=10
 k1:1<=k
 k6:k<=6
 j1:1<=j
 jk:j<=k
 net:Net n k N
theorem jT{n k j:Nat}{N:List Tie}(s:St n k j N){a b:Int}(a0:0<=a)(a1:a<n)(b0:0<=b)(b1:b<n)(hab:a≠b) :
  jr [.int n,aE N,.int a,.int b,.int (j:Nat)]=some (.val (cR (Wf N j a b)))/\Lat N j a b (Wf N j a b)/\∀t,Wf N j a b=some t->∃u∈N,u.m=t:=by
 obtain⟨w,e,h,hm⟩:=zX s.n10 s.net.rc a0 a1 b0 b1 hab s.j1 (by have:=s.jk;have:=s.k6;omega);rw[Nr h];exact⟨e,h,hm⟩
structure LK(n j:Nat)(N:List Tie)(q:Int)(F:List Tie):Prop where
 ends:∀t∈F,0<=t.a/\t.a<t.b/\t.b<=q
 wt:∀t∈F,Wf N j t.a t.b=some t.m
 best:∀b,b<=q->∀o,0<=o->o<b->∀v,Wf N j o b=some v->∃t∈F,t.b=b/\v<=t.m
 fo:FO F
 len:(F.length:Int)<=q
theorem Gi{F:List Tie}{y:Int}(h:∀t∈F,t.a≠y/\t.b≠y){u v:Int}(c:Con F u v):u=y↔v=y:=by
 induction c with
 |refl x=>exact Iff.rfl
 |tie t m=>exact⟨fun e=>absurd e (h t m).1,fun e=>absurd e (h t m).2⟩
 |symm _ ih=>exact ih.symm
 |trans _ _ i1 i2=>exact i1.trans i2
theorem CP{F r:List Tie}{j:Nat}(h:∀t∈F,Hg r j t.a t.b){a b:Int}(c:Con F a b):Hg r j a b:=by
 induction c with
 |refl x=>exact fun S hs=>absurd rfl hs
 |tie t m=>exact h t m
 |symm _ ih=>exact ih.symm
 |trans _ _ i1 i2=>exact i1.trans i2
theorem LK.start(n j:Nat)(N:List Tie):LK n j N 0 []:=⟨fun t h=>(by cases h),fun t h=>(by cases h),fun b hb o o0 ob=>(by omega),FO.nil,Int.le_refl _⟩
theorem LK.step{n j:Nat}{N:List Tie}{q:Int}{F:List Tie}(h:LK n j N q F)(q0:0<=q){Y:List Tie}(hY:(Y=[]/\∀o,0<=o->o<q+1->Wf N j o (q+1)=none)\/∃t,Y=[t]/\t.b=q+1/\0<=t.a/\t.a<t.b/\Wf N j t.a t.b=some t.m/\∀o,0<=o->o<q+1->∀v,Wf N j o (q+1)=some v->v<=t.m):LK n j N (q+1) (F++Y):=by
 rcases hY with⟨rfl,hn⟩ | ⟨t,rfl,tb,t0,t1,tw,tm⟩
 ·rw[List.append_nil]
  refine⟨fun t ht=>?_,h.wt,fun b hb o o0 ob v hv=>?_,h.fo,by have:=h.len;omega⟩
  ·obtain⟨h1,h2,h3⟩:=h.ends t ht
   exact⟨h1,h2,by omega⟩
  ·by_cases e:b=q+1
   ·subst e
    rw[hn o o0 ob]at hv;cases hv
   ·exact h.best b (by omega) o o0 ob v hv
 ·refine⟨fun u hu=>?_,fun u hu=>?_,fun b hb o o0 ob v hv=>?_,h.fo.snoc fun c=>?_,by have:=h.len;simp;omega⟩
  ·rcases List.mem_append.mp hu with hu | hu
   ·obtain⟨h1,h2,h3⟩:=h.ends u hu
    exact⟨h1,h2,by omega⟩
   ·rw[List.mem_singleton.mp hu]
    exact⟨t0,t1,by omega⟩
  ·rcases List.mem_append.mp hu with hu | hu
   ·exact h.wt u hu
   ·rw[List.mem_singleton.mp hu];exact tw
  ·by_cases e:b=q+1
   ·subst e
    exact⟨t,List.mem_append_right _ List.mem_cons_self,tb,tm o o0 ob v hv⟩
   ·obtain⟨u,hu,h1,h2⟩:=h.best b (by omega) o o0 ob v hv
    exact⟨u,List.mem_append_left _ hu,h1,h2⟩
  ·have:=(Gi (y:=t.b) (fun u hu=>by
    obtain⟨h1,h2,h3⟩:=h.ends u hu;exact⟨by omega,by omega⟩) c).mpr rfl
   omega
theorem LK.join{n k j:Nat}{N:List Tie}(s:St n k j N){F:List Tie}(h:LK n j N ((n:Int)-1) F)(t:Int):∀(m:Nat) (a b:Int),b<m->0<=a->a<b->b<n->Hg (cH N t) j a b->Con (cH F t) a b
 |0,a,b,hb,a0,ab,_,_=>by omega
 |m+1,a,b,hb,a0,ab,bn,hh=>by
  obtain⟨_,la,_⟩:=jT s a0 (by omega) (by omega) bn (by omega);obtain⟨v,eqv,tv⟩:=(la.iff t).mp hh;obtain⟨L,hL,Lb,vL⟩:=h.best b (by omega) a a0 ab v eqv;obtain⟨L0,L1,L2⟩:=h.ends L hL;have Lt:L∈cH F t:=List.mem_filter.mpr ⟨hL,decide_eq_true (by omega)⟩;have cL:Con (cH F t) L.a b:=by rw[<- Lb];exact .tie L Lt
  by_cases e:L.a=a
  ·rw[<- e];exact cL
  ·have lw:=h.wt L hL
   obtain⟨_,ll,_⟩:=jT s L0 (by omega) (by omega) (show L.b<n by omega) (show L.a≠L.b by omega);have hL2:Hg (cH N t) j L.a b:=by rw[<- Lb];exact(ll.iff t).mpr ⟨L.m,lw,by omega⟩
   have hao:=hh.trans hL2.symm;refine .trans ?_ cL;rcases Int.lt_trichotomy a L.a with q | q | q
   ·exact LK.join s h t m a L.a (by omega) a0 q (by omega) hao
   ·exact absurd q.symm e
   ·exact(LK.join s h t m L.a a (by omega) L0 q (by omega) hao.symm).symm
theorem LK.bn{n k j:Nat}{N:List Tie}(s:St n k j N){F:List Tie}(h:LK n j N ((n:Int)-1) F){a b:Int}(a0:0<=a)(a1:a<n)(b0:0<=b)(b1:b<n)(hab:a≠b):Bn F a b (Wf N j a b):=by
 obtain⟨_,la,_⟩:=jT s a0 a1 b0 b1 hab;have lk:∀t∈F,∀v,v<=t.m->Hg (cH N v) j t.a t.b:=fun t ht v hv=>by obtain⟨h1,h2,h3⟩:=h.ends t ht;obtain⟨_,ll,_⟩:=jT s h1 (by omega) (by omega) (show t.b<n by omega) (show t.a≠t.b by omega);exact(ll.iff v).mpr ⟨t.m,h.wt t ht,hv⟩
 cases hw:Wf N j a b with
 |none=>rw[hw]at la;exact fun c=>la (CP (fun t ht=>(lk t ht t.m (Int.le_refl _)).up List.filter_sublist) c)
 |some v=>
  rw[hw]at la;refine⟨?_,fun c=>la.2 (CP (fun t ht=>?_) c)⟩
  ·rcases Int.lt_trichotomy a b with q | q | q
   ·exact LK.join s h v n a b (by omega) a0 q b1 la.1
   ·exact absurd q hab
   ·exact(LK.join s h v n b a (by omega) b0 q a1 la.1.symm).symm
  ·obtain⟨q1,q2⟩:=List.mem_filter.mp ht
   exact lk t q1 (v+1) (of_decide_eq_true q2)
theorem jU:∀(ts:List Tie) (t:Tie),∃u∈t::ts,kQ (l3 t) (ts.map l3)=l3 u/\∀v∈t::ts,v.m<=u.m
 |[],t=>⟨t,List.mem_cons_self,rfl,fun v hv=>by rw[List.mem_singleton.mp hv];exact Int.le_refl _⟩
 |x::ts,t=>by
  rw[List.map_cons];unfold kQ;by_cases q:lx (l3 t) (l3 x)=true
  ·rw[if_pos q]
   obtain⟨u,hu,e,hm⟩:=jU ts x;refine⟨u,List.mem_cons_of_mem _ hu,e,fun v hv=>?_⟩;rcases List.mem_cons.mp hv with rfl | hv
   ·have tx:v.m<=x.m:=by
     unfold l3 lx at q;split at q
     ·omega
     ·have:=of_decide_eq_true q;omega
    exact Int.le_trans tx (hm x List.mem_cons_self)
   ·exact hm v hv
  ·rw[if_neg q]
   have q:lx (l3 t) (l3 x)=false:=by simpa using q
   obtain⟨u,hu,e,hm⟩:=jU ts t;refine⟨u,?_,e,fun v hv=>?_⟩
   ·rcases List.mem_cons.mp hu with rfl | hu
    ·exact List.mem_cons_self
    ·exact List.mem_cons_of_mem _ (List.mem_cons_of_mem _ hu)
   ·rcases List.mem_cons.mp hv with rfl | hv
    ·exact hm v List.mem_cons_self
    ·rcases List.mem_cons.mp hv with rfl | hv
     ·exact Int.le_trans (yk q) (hm t List.mem_cons_self)
     ·exact hm v (List.mem_cons_of_mem _ hv)
theorem WB.Pw{t:Tie}{ts:List Tie}{o:Option (List Dat)}{K:RV->Prop}(k:∀u∈t::ts,(∀v∈t::ts,v.m<=u.m)->K (.val (bf u)))(ho:o=some [aE (t::ts)]):WB pF o K:=by obtain⟨u,hu,e,hm⟩:=jU ts t;refine⟨_,_,ho,?_,k u hu hm⟩;rw[qW];unfold pF;dsimp only;rw[tP];show some (RV.val (qA (kQ (l3 t) (ts.map l3))))=_;rw[e];rfl
theorem tQ{n k j:Nat}{N:List Tie}(s:St n k j N){p:Nat}(p1:p<n):∃Y:List Tie,sV [cQ n k N,.int (j:Nat),.int (p:Nat)]=some (.new (aE Y)) /\
  ((Y=[]/\∀o,0<=o->o<(p:Int)->Wf N j o p=none)\/∃t,Y=[t]/\t.b=p/\0<=t.a/\t.a<t.b/\Wf N j t.a t.b=some t.m/\∀o,0<=o->o<(p:Int)->∀v,Wf N j o p=some v->v<=t.m):=by
 have n10:=s.n10;have sz:1000<=SZ:=by decide
 suffices hh:Wr (sV [cQ n k N,.int (j:Nat),.int (p:Nat)]) fun v=>∃Y:List Tie,v=.new (aE Y)/\((Y=[]/\∀o,0<=o->o<(p:Int)->Wf N j o p=none)\/∃t,Y=[t]/\t.b=p/\0<=t.a/\t.a<t.b/\Wf N j t.a t.b=some t.m/\∀o,0<=o->o<(p:Int)->∀v,Wf N j o p=some v->v<=t.m) by obtain⟨v,h1,Y,rfl,h2⟩:=hh;exact⟨Y,h1,h2⟩
 have W:∀i:Nat,i<p->jr [.int n,aE N,.int (i:Nat),.int (p:Nat),.int (j:Nat)]=some (.val (cR (Wf N j i p))):=fun i hi=>(jT s (by omega) (by omega) (by omega) (by omega) (by omega)).1
 unfold sV
 (refine Dm.Wr.fn ?_ rfl rfl;dsimp only[List.map,List.replicate,List.cons_append,List.nil_append])
 refine Ws.seq (Ws.A (We.Map (fun i:Nat=>Dat.int ((i:Nat):Int)) (List.range p) (fun i:Nat=>Wf N j i p) cR (ρ1:=[.sh (cQ n k N),.sh (.int (j:Nat)),.sh (.int (p:Nat)),.un,.un]) ?_ ?_ rfl (by decide) (by rw[List.length_range];omega) fun i hi=>?_) (by decide))
 rotate_left
 ·exact Wi.get (Wi.R1 (We.v rfl (b5.mk ⟨⟨by rw[Int.toNat_natCast,jx],rfl⟩,by unfold BIG;omega,by unfold BIG;omega⟩)))
 ·refine We.F (Was.cons (We.e2 (We.v rfl (We.c (Wg2.ix (v:=.int (n:Nat)) ?_ rfl rfl rfl)))))
  refine Was.cons (We.e2 (We.v rfl (We.c (Wg2.ix (v:=aE N) ?_ rfl rfl rfl))));exact Was.cons (We.v rfl (Was.cons (We.v rfl (Was.cons (We.v rfl (Was.nil (WF.val (W i (List.mem_range.mp hi)) (Wk.val ⟨rfl,rfl⟩) rfl (dI _))))))))
 refine WA.new ?_ (by trivial);have b:∀(i:Nat) (c1 c2:Cell),bT [5,6] (Dat.tup [.int (i:Nat),cR (Wf N j i p)]) [.sh (cQ n k N),.sh (.int (j:Nat)),.sh (.int (p:Nat)),.sh (.lst (((List.range p).map fun i:Nat=>Wf N j i p).map cR)),.un,c1,c2]=some [.sh (cQ n k N),.sh (.int (j:Nat)),.sh (.int (p:Nat)),.sh (.lst (((List.range p).map fun i:Nat=>Wf N j i p).map cR)),.un,.sh (.int (i:Nat)),.sh (cR (Wf N j i p))]:=fun _ _ _=>rfl
 refine Ws.seq (Ws.A (We.Hv (fun i:Nat=>Dat.tup [.int (i:Nat),cR (Wf N j i p)]) (List.range p) (fun i=>(Wf N j i p).isSome) (fun i=>(⟨(Wf N j i p).getD 0,i,p⟩:Tie)) bf (fun i=>([.sh (cQ n k N),.sh (.int (j:Nat)),.sh (.int (p:Nat)),.sh (.lst (((List.range p).map fun i:Nat=>Wf N j i p).map cR)),.un,.sh (.int (i:Nat)),.sh (cR (Wf N j i p))]:Env)) (ρ1:=[.sh (cQ n k N),.sh (.int (j:Nat)),.sh (.int (p:Nat)),.sh (.lst (((List.range p).map fun i:Nat=>Wf N j i p).map cR)),.un]) ?_ ?_ (fun i=>b i .un .un) (fun i l=>b i _ _) (fun _=>rfl) (by rw[List.length_range];omega) (fun i _=>?_) fun i hi hs=>?_) (by decide))
 rotate_left
 ·refine Wi.get (Wi.En (We.w rfl (Wk.slot ⟨_,rfl,?_,rfl⟩ rfl (by trivial))))
  rw[List.map_map,mF (cR∘fun i:Nat=>Wf N j i p) 0 0 (List.range p),List.length_range];refine List.map_congr_left fun i hi=>?_
  have:(List.range p).getD i 0=i:=by rw[List.getD_eq_getElem?_getD,List.getElem?_range (List.mem_range.mp hi)];rfl
  rw[this,Nat.zero_add];rfl
 ·refine Wt.V (We.e2 (We.v rfl (We.c (Wg2.Pg (d:=cR (Wf N j i p)) (Wb.mk ⟨?_,rfl⟩) rfl rfl))))
  cases Wf N j i p<;>rfl
 ·refine We.T (Was.cons (We.v rfl (Was.cons (We.v rfl (Was.cons (We.v rfl (Was.nil (WT.mk (Wk.val ⟨?_,rfl⟩) rfl rfl (Nat.le_of_ble_eq_true rfl)))))))))
  cases hw:Wf N j i p with
  |none=>rw[hw]at hs;cases hs
  |some m=>rfl
 have mem:∀u:Tie,u∈((List.range p).filter fun i:Nat=>(Wf N j i p).isSome).map (fun i:Nat=>(⟨(Wf N j i p).getD 0,i,p⟩:Tie))↔∃i:Nat,i<p/\∃m,Wf N j i p=some m/\u=⟨m,i,p⟩:=fun u=>by
  rw[List.mem_map];constructor
  ·rintro⟨i,hi,rfl⟩
   obtain⟨h1,h2⟩:=List.mem_filter.mp hi;cases hw:Wf N j i p with
   |none=>rw[hw]at h2;cases h2
   |some m=>exact⟨i,List.mem_range.mp h1,m,hw,by rfl⟩
  ·rintro⟨i,hi,m,hw,rfl⟩
   exact⟨i,List.mem_filter.mpr ⟨List.mem_range.mpr hi,by rw[hw];rfl⟩,by rw[hw];rfl⟩
 generalize hf:((List.range p).filter fun i:Nat=>(Wf N j i p).isSome).map (fun i:Nat=>(⟨(Wf N j i p).getD 0,i,p⟩:Tie))=fnd at mem
 refine WA.new ?_ (by trivial);refine Ws.R (We.If (Wt.V (We.e2 (We.B (Was.cons (We.w rfl (Was.nil (WB.FG (enc:=bf) (xs:=fnd) ?_ rfl))))))));refine We.c (Wg2.gt (Wb.mk (Wif.dec (fun q=>?_) fun q=>?_)) rfl rfl)
 ·cases fnd with
  |nil=>exact absurd q (by simp)
  |cons t ts=>
   refine We.L (Was.cons (We.B (Was.cons (We.w rfl (Was.nil (WB.Pw (t:=t) (ts:=ts) (fun u hu hm=>?_) rfl))))));refine Was.nil (WT.mk ?_ rfl rfl (Nat.le_of_ble_eq_true rfl));obtain⟨i,hi,m,hw,rfl⟩:=(mem u).mp hu;refine⟨[⟨m,i,p⟩],rfl,.inr ⟨_,rfl,rfl,by show (0:Int)<=(i:Nat);omega,by show ((i:Nat):Int)<(p:Nat);omega,hw,fun o o0 op v hv=>?_⟩⟩;obtain⟨o,rfl⟩:∃l:Nat,o=l:=⟨o.toNat,by omega⟩
   exact hm ⟨v,o,p⟩ ((mem _).mpr ⟨o,by omega,v,hv,rfl⟩)
 ·have:fnd=[]:=List.length_eq_zero_iff.mp (by omega)
  subst this;refine We.L (Was.nil (WT.mk ?_ rfl rfl (by decide)));refine⟨[],rfl,.inl ⟨rfl,fun o o0 op=>?_⟩⟩;obtain⟨o,rfl⟩:∃l:Nat,o=l:=⟨o.toNat,by omega⟩
  cases hw:Wf N j (o:Nat) p with
  |none=>rfl
  |some v=>exact absurd ((mem ⟨v,o,p⟩).mpr ⟨o,by omega,v,hw,rfl⟩) (by simp)
theorem CQ{n k j:Nat}{N:List Tie}(s:St n k j N):∃F:List Tie,pM [cQ n k N,.int (j:Nat)]=some (.new (aE F))/\LK n j N ((n:Int)-1) F:=by
 have n10:=s.n10;have n1:=s.n1
 suffices hh:Wr (pM [cQ n k N,.int (j:Nat)]) fun v=>∃F:List Tie,v=.new (aE F)/\LK n j N ((n:Int)-1) F by obtain⟨v,h1,F,rfl,h2⟩:=hh;exact⟨F,h1,h2⟩
 unfold pM
 (refine Dm.Wr.fn ?_ rfl rfl;dsimp only[List.map,List.replicate,List.cons_append,List.nil_append])
 refine Ws.seq (Ws.E (We.F (Was.cons (We.v rfl (Was.cons (We.v rfl (Was.nil (WF.val (gq s.n1 s.n10 s.k1 s.k6 s.j1 s.jk s.net) ?_ rfl rfl))))))));refine Ws.seq (Ws.A (We.L (Was.nil (WT.mk ?_ rfl rfl (by decide)))) (by decide));refine WA.new ?_ (by trivial);refine Ws.seq (Ws.For (Wi.R2 (We.c (b5.mk (We.e2 (We.v rfl (We.c (Wg2.ix (v:=.int (n:Nat)) (b5.mk ⟨?_,by unfold BIG;omega,by unfold BIG;omega,by decide,by decide⟩) rfl rfl rfl))))))));have en:((n:Nat)-1:Int).toNat=n-1:=by omega
 rw[en,yj];refine Ws.inv (fun i:Nat=>Dat.int (1+(i:Int))) _ _ (List.range (n-1)) _ _ _ _ _ (fun p q ρ=>∃(F:List Tie) (c3:Cell),ρ=[.sh (cQ n k N),.sh (.int (j:Nat)),.ow (aE F),c3]/\LK n j N (p.length:Nat) F) ⟨[],_,rfl,LK.start n j N⟩ ?_ ?_
 ·rintro p i q ρ e ⟨F,c3,rfl,hL⟩
  obtain⟨ip,il⟩:=dG e;have lF:=hL.len;refine Dm.aV rfl (by trivial) ?_;unfold B_;obtain⟨Y,eY,hY⟩:=tQ s (p:=1+i) (by omega);have ei:(1:Int)+(i:Int)=((1+i:Nat):Int):=by omega
  rw[ei];refine Ws.Ext (We.F ?_) rfl;refine Was.cons (We.v rfl (Was.cons (We.v rfl (Was.cons (We.v rfl (Was.nil (WF.box eY ?_ rfl rfl rfl rfl)))))));have lY:Y.length<=1:=by rcases hY with⟨rfl,_⟩ | ⟨t,rfl,_⟩<;>simp
  refine⟨Y.map bf,F.map bf,_,rfl,rfl,rfl,⟨F++Y,.sh (.int ((1+i:Nat):Int)),?_,?_⟩,by rw[List.length_map,List.length_map];unfold SZ;omega⟩
  ·unfold aE
   rw[List.map_append];rfl
  ·have:=hL.step (Y:=Y) (by omega) (by
    have e1:((p.length:Nat):Int)+1=((1+i:Nat):Int):=by omega
    rw[e1];exact hY)
   rw[List.length_append]
   simpa using this
 ·rintro ρ ⟨F,c3,rfl,hL⟩
  rw[List.length_range]at hL;refine Ws.R (We.w rfl (WR.slot ?_ rfl));refine⟨F,rfl,?_⟩;have e1:((n-1:Nat):Int)=(n:Int)-1:=by omega
  rw[<- e1];exact hL
theorem LK.endsN{n j:Nat}{N:List Tie}{F:List Tie}(h:LK n j N ((n:Int)-1) F):Ends n F:=fun t ht=>by obtain⟨h1,h2,h3⟩:=h.ends t ht;exact⟨h1,by omega,by omega,by omega⟩
theorem LK.few{n j:Nat}{N:List Tie}(n10:n<=10){F:List Tie}(h:LK n j N ((n:Int)-1) F):F.length<=60:=by have:=h.len;omega
theorem tell_ok{n k j:Nat}{N:List Tie}(s:St n k j N){F:List Tie}(hL:LK n j N ((n:Int)-1) F):yb [.int (n:Nat),cQ n k N,.int (j:Nat),aE F]=some (.val (.bl true)):=by
 have n10:=s.n10;have hE:=hL.endsN;have hl:=hL.few n10;have hF:=hL.fo.CM;obtain⟨G,pm,_,eG⟩:=pX F;have hEr:Ends n F.reverse:=fun t ht=>hE t (List.mem_reverse.mp ht)
 have hEg:Ends n G:=fun t ht=>hE t (pm.mem_iff.mp ht)
 have hFr:cW F.reverse:=hF.same fun t=>List.mem_reverse.symm
 have hFg:cW G:=hF.same fun t=>pm.mem_iff.symm
 apply Wr.eq;unfold yb
 (refine Dm.Wr.fn ?_ rfl rfl;dsimp only[List.map,List.replicate,List.cons_append,List.nil_append])
 refine Ws.seq (Ws.For (Wi.R1 (We.v rfl (b5.mk ⟨?_,by unfold BIG;omega,by unfold BIG;omega⟩))));rw[Int.toNat_natCast,jx];refine Ws.inv (fun i:Nat=>Dat.int ((i:Nat):Int)) _ _ (List.range n) _ _ _ _ _ (fun p q ρ=>∃(c4 c5 c6 c7:Cell),ρ=[.sh (.int (n:Nat)),.sh (cQ n k N),.sh (.int (j:Nat)),.sh (aE F),c4,c5,c6,c7]) ⟨_,_,_,_,rfl⟩ ?_ ?_
 ·rintro p i q ρ e ⟨c4,c5,c6,c7,rfl⟩
  have hi:i<n:=(dG e).2;refine Dm.aV rfl (by trivial) ?_;unfold Cg;refine Ws.For (Wi.R1 (We.v rfl (b5.mk ⟨?_,by unfold BIG;omega,by unfold BIG;omega⟩)));rw[Int.toNat_natCast,jx];refine Ws.inv (fun i:Nat=>Dat.int ((i:Nat):Int)) _ _ (List.range n) _ _ _ _ _ (fun p q ρ=>∃(c5 c6 c7:Cell),ρ=[.sh (.int (n:Nat)),.sh (cQ n k N),.sh (.int (j:Nat)),.sh (aE F),.sh (.int (i:Nat)),c5,c6,c7]) ⟨_,_,_,rfl⟩ ?_ ?_
  ·rintro p l q ρ e ⟨c5,c6,c7,rfl⟩
   have hl':l<n:=(dG e).2;refine Dm.aV rfl (by trivial) ?_;unfold Cf;refine Ws.If (Wt.V (We.e2 (We.v rfl (We.v rfl (Wg2.ne (Wb.mk ⟨fun hq=>?_,fun hq=>Ws.nx ⟨_,_,_,rfl⟩⟩) rfl rfl)))));have hil:=ndT hq;have bW:=hL.bn s (a:=(i:Nat)) (b:=(l:Nat)) (by omega) (by omega) (by omega) (by omega) hil;obtain⟨ew,_,_⟩:=jT s (a:=(i:Nat)) (b:=(l:Nat)) (by omega) (by omega) (by omega) (by omega) hil;obtain⟨d1,d2,eW⟩:=Gd s.n1 s.n10 s.k1 s.k6 s.j1 s.jk s.net (by omega) (by omega) (by omega) (by omega) hil ew;obtain⟨o1,e1,h1⟩:=cM n10 hE hl hF (a:=(i:Nat)) (b:=(l:Nat)) (by omega) (by omega) hil;obtain⟨o2,e2,h2⟩:=kH n10 hE hl (a:=(i:Nat)) (b:=(l:Nat)) (by omega) (by omega) (by omega) (by omega) hil;obtain⟨o3,e3,h3⟩:=cM n10 hEr (by rw[List.length_reverse];exact hl) hFr (a:=(i:Nat)) (b:=(l:Nat)) (by omega) (by omega) hil;obtain⟨o4,e4,h4⟩:=cM n10 hEg (by rw[pm.length_eq];exact hl) hFg (a:=(l:Nat)) (b:=(i:Nat)) (by omega) (by omega) (Ne.symm hil);have u1:=h1.uniq bW;have u2:=h2.uniq bW;have u3:=(h3.same fun t=>List.mem_reverse).uniq bW;have u4:=((h4.same fun t=>pm.mem_iff).symm).uniq bW
   generalize Wf N j (i:Nat) (l:Nat)=w at *
   subst u1 u2 u3 u4;refine Ws.seq (Ws.A (We.F ?_) (by decide));refine Was.cons (We.v rfl (Was.cons (We.v rfl (Was.cons (We.v rfl (Was.cons (We.v rfl (Was.nil (WF.box eW (WA.val ?_ (by trivial)) rfl (by cases o4<;>rfl) rfl rfl)))))))));refine Ws.seq (Ws.A (We.c (WA.val ?_ (by trivial))) (by decide));refine Ws.cut (fun ρ=>ρ=[.sh (.int (n:Nat)),.sh (cQ n k N),.sh (.int (j:Nat)),.sh (aE F),.sh (.int (i:Nat)),.sh (.int (l:Nat)),.sh (CI d1 d2 o4),.sh (cR o4)]) ?_ ?_
   ·cases o4 with
    |none=>exact Ws.If (Wt.V (We.e2 (We.e2 (We.v rfl (We.c (Wg2.ix (v:=.str [110,101,118,101,114]) (We.c ⟨_,_,.val (.bl false),rfl,rfl,rfl,Wb.mk (Wif.f (Ws.nx rfl))⟩) rfl rfl rfl))))))
    |some v=>refine Ws.If (Wt.V (We.e2 (We.e2 (We.v rfl (We.c (Wg2.ix (v:=.str [115,105,110,99,101]) (We.c ⟨_,_,.val (.bl true),rfl,rfl,rfl,Wb.mk (Wif.t ?_)⟩) rfl rfl rfl))))));exact Ws.A (We.e2 (We.v rfl (We.c (Wg2.ix (v:=.int v) (WA.val rfl (by trivial)) rfl rfl rfl)))) (by decide)
   rintro ρ rfl;refine Ws.seq (Ws.If (Wt.V (We.e2 (We.F (Was.cons (We.v rfl (Was.cons (We.B ?_))))))));refine Was.cons (We.v rfl (Was.nil (WB.list (xs:=F.map bf) ?_ rfl)));refine Was.cons (We.v rfl (Was.cons (We.v rfl (Was.nil (WF.val e1 ?_ rfl (dI _))))));refine We.v rfl (Wg2.neO (Wb.mk (Wif.f (Ws.nx ?_))) rfl rfl);refine Ws.seq (Ws.If (Wt.V (We.e2 (We.F (Was.cons (We.v rfl (Was.cons (We.v rfl ?_))))))));refine Was.cons (We.v rfl (Was.cons (We.v rfl (Was.nil (WF.val e2 ?_ rfl (dI _))))));refine We.v rfl (Wg2.neO (Wb.mk (Wif.f (Ws.nx ?_))) rfl rfl);refine Ws.seq (Ws.If (Wt.V (We.e2 (We.F (Was.cons (We.v rfl (Was.cons (We.e1 (We.v rfl ?_)))))))));refine Wg1.Kl (enc:=bf) (xs:=F) ?_ rfl;refine Was.cons (We.v rfl (Was.cons (We.v rfl (Was.nil (WF.val e3 ?_ rfl (dI _))))));refine We.v rfl (Wg2.neO (Wb.mk (Wif.f (Ws.nx ?_))) rfl rfl);refine Ws.If (Wt.V (We.e2 (We.F (Was.cons (We.v rfl (Was.cons (We.B ?_)))))));refine Was.cons (We.v rfl (Was.nil (WB.Hz eG (by omega) ?_ rfl)));refine Was.cons (We.v rfl (Was.cons (We.v rfl (Was.nil (WF.val e4 ?_ rfl (dI _))))));exact We.v rfl (Wg2.neO (Wb.mk (Wif.f (Ws.nx ⟨_,_,_,rfl⟩))) rfl rfl)
  ·rintro ρ ⟨c5,c6,c7,rfl⟩
   exact⟨_,_,_,_,rfl⟩
 ·rintro ρ ⟨c4,c5,c6,c7,rfl⟩
  exact Ws.R (We.c rfl)
theorem z5(t:Tie):x9 [bf t]=some (.val (.bl true)):=by
 apply Wr.eq;unfold x9
 (refine Dm.Wr.fn ?_ rfl rfl;dsimp only[List.map,List.replicate,List.cons_append,List.nil_append])
 refine Ws.R (We.B (Was.cons (We.zH Dat.int [t.m,t.a,t.b] (fun _=>true) Dat.bl (d:=bf t) ?_ rfl rfl rfl (by decide) (Nat.le_of_ble_eq_true rfl) fun x _=>?_)))
 ·exact Was.nil (WB.all (fun b:Bool=>b) (xs:=[true,true,true]) rfl rfl)
 ·exact We.F (Was.cons (We.v rfl (Was.nil (WF.val (tH x) (Wk.val ⟨rfl,rfl⟩) rfl rfl))))
theorem Wt.ch3{g h i:Dat->Dat->Option RV}{a b c d:FE}{ρ:Env}{x y z w:Dat}{t:Bool}{Q:Bool->Env->Prop}(q:Q t ρ)(ha:a ρ=some (.val x,ρ))(hb:b ρ=some (.val y,ρ))(hc:c ρ=some (.val z,ρ))(hd:d ρ=some (.val w,ρ))(hg:g x y=some (.val (.bl true)))(hh:h y z=some (.val (.bl true)))(hi:i z w=some (.val (.bl t))):Wt (zF g h i a b c d) ρ Q:=by refine⟨t,ρ,?_,q⟩;unfold zF;rw[ha];dsimp only;rw[hb];dsimp only;rw[hg];dsimp only;rw[hc];dsimp only;rw[hh];dsimp only;rw[hd];dsimp only;rw[hi]
theorem Kv{n j:Nat}(n10:n<=10){N:List Tie}{F:List Tie}(hL:LK n j N ((n:Int)-1) F):ya [.int (n:Nat),aE F]=some (.val (.bl true)):=by
 apply Wr.eq;unfold ya
 (refine Dm.Wr.fn ?_ rfl rfl;dsimp only[List.map,List.replicate,List.cons_append,List.nil_append])
 refine Ws.seq (Ws.If (Wt.Not (Wt.V (We.e1 (We.v rfl (Wg1.mk (v:=.val (.bl true)) (Wb.mk (Wif.f (Ws.nx ?_))) rfl rfl))))));refine Ws.seq (Ws.For (Wi.S (We.v rfl (Wk.val ⟨_,rfl,?_⟩))));refine Ws.inv bf _ _ F _ _ _ _ _ (fun p q ρ=>∃(c2:Cell),ρ=[.sh (.int (n:Nat)),.sh (aE F),c2]) ⟨_,rfl⟩ ?_ ?_
 ·rintro p t q ρ e ⟨c2,rfl⟩
  obtain⟨h1,h2,h3⟩:=hL.ends t (e▸List.mem_append_right _ List.mem_cons_self);refine Dm.aV rfl (by trivial) ?_;unfold Ce;refine Ws.seq (Ws.If (Wt.Or (Wt.Not (Wt.V (We.e1 (We.v rfl (Wg1.mk (v:=.val (.bl true)) (Wb.mk (Wif.f ?_)) rfl rfl)))))));refine Wt.Or (Wt.V (We.e2 (We.B (Was.cons (We.v rfl (Was.nil (WB.Nf (xs:=[.int t.m,.int t.a,.int t.b]) (We.c (Wg2.ne (i:=3) (j:=3) (Wb.mk (Wif.f ?_)) rfl rfl)) rfl)))))));refine Wt.Not (Wt.V (We.F (Was.cons (We.v rfl (Was.nil (WF.val (z5 t) (Wb.mk (Wif.f (Ws.nx ?_))) rfl rfl))))));refine Ws.If (Wt.Not (Wt.ch3 (t:=true) (Wif.f (Ws.nx ⟨_,rfl⟩)) rfl (We.get (We.e2 (We.v rfl (We.c (Wg2.ix (v:=.int t.a) ⟨rfl,rfl⟩ rfl rfl rfl))))) (We.get (We.e2 (We.v rfl (We.c (Wg2.ix (v:=.int t.b) ⟨rfl,rfl⟩ rfl rfl rfl))))) rfl ?_ ?_ ?_))
  ·show vB (decide ((0:Int)<=t.a))=_
   rw[decide_eq_true h1]
  ·show vB (decide (t.a<t.b))=_
   rw[decide_eq_true h2]
  ·show vB (decide (t.b<(n:Int)))=_
   rw[decide_eq_true (by omega)]
 ·rintro ρ ⟨c2,rfl⟩
  refine Ws.R (We.F (Was.cons (We.v rfl (Was.cons (We.v rfl (Was.nil (WF.val (z0 n10 hL.endsN (hL.few n10) hL.fo) ?_ rfl rfl)))))));rfl
theorem CS(x many:Int)(m0:0<=many)(m1:many<=60):∃(r:List Tie) (x':Int),sX [aK x,.int 6,.int many]=some (.new (aE r),aK x')/\Good 6 0 r/\r.length<=60/\∀t∈r,t.m<=Z30:=by
 have sz:1000<=SZ:=by decide
 suffices hh:WrM (sX [aK x,.int 6,.int many]) fun v d=>∃(r:List Tie) (x':Int),v=.new (aE r)/\d=aK x'/\Good 6 0 r/\r.length<=60/\∀t∈r,t.m<=Z30 by obtain⟨v,d,h1,r,x',rfl,rfl,h2⟩:=hh;exact⟨r,x',h1,h2⟩
 unfold sX;refine WrM.fn ?_ rfl rfl;dsimp only[List.map,List.replicate,List.cons_append,List.nil_append];refine Ws.seq (Ws.A (We.L (Was.nil (WT.mk ?_ rfl rfl (by decide)))) (by decide));refine WA.new ?_ (by trivial);refine Ws.seq (Ws.A ?_ (by decide));refine We.drw (m:=9) rfl (by decide) (by decide) rfl fun mo x1 h0 h1 ρ3 e=>?_
 subst e;refine WA.val ?_ (by trivial);refine Ws.seq (Ws.For (Wi.R1 (We.v rfl (b5.mk ⟨?_,by unfold BIG;omega⟩))));refine Ws.inv (fun i:Nat=>Dat.int (0+(i:Nat))) _ _ (List.range many.toNat) _ _ _ _ _ (fun p q ρ=>∃(x mo:Int) (r:List Tie) (c5 c6 c7:Cell),ρ=[.ow (aK x),.sh (.int 6),.sh (.int many),.ow (aE r),.sh (.int mo),c5,c6,c7]/\Good 6 0 r/\r.length=p.length/\(∀u∈r,u.m<mo)/\0<=mo/\mo<=9+4*(p.length:Int)) ⟨_,_,[],_,_,_,rfl,trivial,rfl,fun u hu=>(by cases hu),h0,by simp;omega⟩ ?_ ?_
 ·rintro p i q ρ e ⟨x,mo,r,c5,c6,c7,rfl,hg,hl,hu,hm,hM⟩
  have lp:p.length<60:=by have:=congrArg List.length e;simp at this;omega
  refine Dm.aV rfl (by trivial) ?_;unfold Ci;refine Ws.seq (Ws.A ?_ (by decide));refine We.drw (m:=6) rfl (by decide) (by decide) rfl fun a x1 a0 a1 ρ3 e3=>?_
  subst e3;refine WA.val ?_ (by trivial);refine Ws.seq (Ws.A (We.e2 (We.e2 (We.e2 (We.v rfl (We.c (Wg2.add ?_ rfl rfl)))))) (by decide));refine We.take (We.e2 (We.v rfl (We.c (Wg2.sub (b5.mk (qQ ?_ rfl rfl (by decide) (by decide))) rfl rfl)))) rfl;have hv:=cJ x1 (6-1) (by decide)
  generalize x1 % (6-1)=d at hv
  refine Wg2.add (We.v rfl (Wg2.mod ?_ rfl rfl (by decide))) rfl rfl;have hb:=cJ (a+1+d) 6 (by decide)
  generalize (a+1+d) % 6=b at hb
  refine WA.val ?_ (by trivial);refine Ws.seq (Ws.App (We.T (Was.cons (We.v rfl (Was.cons (We.B ?_))))) rfl);refine Was.cons (We.v rfl (Was.cons (We.v rfl (Was.nil (WB.min2 ?_ rfl)))));refine Was.cons (We.B (Was.cons (We.v rfl (Was.cons (We.v rfl (Was.nil (WB.max2 ?_ rfl)))))));refine Was.nil (WT.mk ?_ rfl rfl (Nat.le_of_ble_eq_true rfl));refine Wk.val (gA (ds:=r.map bf) (ρ3:=[.ow (aK (x1 / (6-1))),.sh (.int 6),.sh (.int many),.ow (aE (r++[⟨mo,if b<a then b else a,if b>a then b else a⟩])),.sh (.int mo),.sh (.int (0+(i:Nat))),.sh (.int a),.sh (.int b)]) ?_ rfl (by unfold aE;rw[List.map_append];rfl) (by rw[List.length_map];omega));refine Ws.A (We.e2 (We.e2 (We.v rfl (We.c (Wg2.add ?_ rfl rfl))))) (by decide);refine We.drw (m:=3) rfl (by decide) (by decide) rfl fun d x3 d0 d1 ρ3 e3=>?_
  subst e3;refine Wg2.add (WA.val ⟨x3,mo+1+d,r++[⟨mo,if b<a then b else a,if b>a then b else a⟩],_,_,_,rfl,?_,by simp[hl],fun u hu'=>?_,by omega,by simp;omega⟩ (by trivial)) rfl rfl
  ·refine hg.snoc hu hm rfl ?_ (yf a b) ?_
   ·show 0<=(if b<a then b else a)
    split<;>omega
   ·show (if b>a then b else a)<6
    split<;>omega
  ·rcases List.mem_append.mp hu' with h | h
   ·have:=hu u h;omega
   ·rw[List.mem_singleton.mp h]
    show mo<_;omega
 ·rintro ρ ⟨x,mo,r,c5,c6,c7,rfl,hg,hl,hu,hm,hM⟩
  rw[List.length_range]at hl hM;refine Ws.R (We.w rfl (WR.slot ?_ rfl));refine⟨_,rfl,r,x,rfl,rfl,hg,by omega,fun t ht=>?_⟩;have:=hu t ht;unfold Z30;omega
theorem Ws.Px{i:Nat}{ρ ρ2:Env}{ds:List Dat}{N:Env->Prop}{R:RV->Env->Prop}{B C:Env->Prop}(n:N ρ2)(h:ρ[i]?=some (.ow (.lst ds)))(hs:ρ.set i (.ow (.lst []))=ρ2):Ws (zy i) ρ N R B C:=
 ⟨_,by unfold zy;rw[h],by rw[hs];exact n⟩
theorem Kw(n k:Nat)(r:List Tie):eqD (cQ n k r) (cQ n k r)=true:=by unfold cQ;simp only[eqD,oE,beq_self_eq_true,Bool.true_and,Bool.and_true];exact CB r
theorem Gj(r:List Tie):okD 7 (aE r)=true:=by unfold aE okD;rw[List.all_eq_true];intro x hx;obtain⟨t,_,rfl⟩:=List.mem_map.mp hx;rfl
theorem Ky(n k:Nat)(r:List Tie):okD 8 (cQ n k r)=true:=by unfold cQ okD;simp only[List.all_cons,List.all_nil,Bool.and_true,Gj];rfl
theorem Gk(S:List Int)(at_:Int)(h0:0<=at_)(h1:at_<900)(c2 c3 c4 c5 c6 c7 c8 c9 c10:Cell){N:Env->Prop}{R:RV->Env->Prop}{B C:Env->Prop}(nx:∀c1 c2 c3 c4 c5 c6 c7 c8 c9 c10,N [.sh (.lst (S.map Dat.int)),c1,c2,c3,c4,c5,c6,c7,c8,c9,c10]) :
  Ws vV [.sh (.lst (S.map Dat.int)),.sh (.int at_),c2,c3,c4,c5,c6,c7,c8,c9,c10] N R B C:=by
 obtain⟨x,ep⟩:=qP S at_ h0 (by omega);obtain⟨n,x1,en,n1,n10⟩:=F8 x;obtain⟨n,rfl⟩:∃m:Nat,n=m:=⟨n.toNat,by omega⟩
 unfold vV;refine Ws.seq (Ws.A (We.F ?_) (by decide));refine Was.cons (We.v rfl (Was.cons (We.v rfl (Was.nil (WF.box ep (WA.new ?_ (by trivial)) rfl rfl rfl (by trivial))))));refine Ws.seq (Ws.A (We.Fm (Was.nil (WFm.any en ?_ rfl rfl (by trivial))) rfl) (by decide));refine WA.val ?_ (by trivial);refine Ws.cut (fun ρ=>∃(k:Nat) (x2:Int),(1<=k/\k<=6)/\ρ=[.sh (.lst (S.map Dat.int)),.sh (.int at_),.ow (aK x2),.sh (.int (n:Nat)),.sh (.int (k:Nat)),c5,c6,c7,c8,c9,c10]) ?_ ?_
 ·refine Ws.A (We.e2 (We.c ?_)) (by decide)
  refine We.drw (m:=6) rfl (by decide) (by decide) rfl fun t x2 t0 t1 ρ3 e=>?_
  subst e;refine Wg2.add (WA.val ⟨(1+t).toNat,x2,by omega,?_⟩ rfl) rfl rfl;rw[Int.toNat_of_nonneg (by omega)];rfl
 rintro ρ ⟨k,x2,⟨k1,k6⟩,rfl⟩;obtain⟨y,ey⟩:=qP S (at_+1) (by omega) (by omega);refine Ws.cut (fun ρ=>∃r:List Tie,Rcd n r/\ρ=[.sh (.lst (S.map Dat.int)),.sh (.int at_),.ow (aK x2),.sh (.int (n:Nat)),.sh (.int (k:Nat)),.ow (aE r),c6,c7,c8,c9,c10]) ?_ ?_
 ·refine Ws.A (We.Fn (Was.cons (We.F ?_))) (by decide)
  refine Was.cons (We.v rfl (Was.cons (We.e2 (We.v rfl (We.c (Wg2.add ?_ rfl rfl))))));refine Was.nil (WF.box ey ?_ rfl rfl rfl (by trivial));refine Was.cons (We.v rfl (Was.cons ?_));obtain⟨most,em,m0,m30⟩:∃most:Int,gIx (.lst [.int 14,.int 6]) (.int (b2i (decide (6<(n:Int)))))=some (.val (.int most))/\0<=most/\most<=60:=by
   by_cases q:6<(n:Int)
   ·rw[decide_eq_true q];exact⟨6,rfl,by decide,by decide⟩
   ·rw[decide_eq_false q];exact⟨14,rfl,by decide,by decide⟩
  obtain⟨r,y',er,gr,lr,mr⟩:=zO y n most (by omega) (by omega) m0 m30;refine We.e2 (We.L (Was.cons (We.c (Was.cons (We.c (Was.nil (WT.mk ?_ rfl rfl (by decide))))))));refine We.B (Was.cons (We.e2 (We.v rfl (We.c (Wg2.gt (Was.nil (WB.int ?_ rfl)) rfl rfl)))));refine Wg2.ix ?_ rfl rfl em;refine Was.nil ⟨_,_,_,_,_,rfl,rfl,er,?_⟩;exact WA.new ⟨r,Rcd.of gr (by omega) mr,rfl⟩ (by trivial)
 rintro ρ ⟨r,hr,rfl⟩;refine Ws.cut (fun ρ=>∃(n k:Nat) (r:List Tie) (x:Int),(1<=n/\n<=10/\1<=k/\k<=6)/\Rcd n r/\ρ=[.sh (.lst (S.map Dat.int)),.sh (.int at_),.ow (aK x),.sh (.int (n:Nat)),.sh (.int (k:Nat)),.ow (aE r),c6,c7,c8,c9,c10]) ?_ ?_
 ·refine Ws.If (Wt.And (Wt.V (We.e2 (We.v rfl (We.c (Wg2.eq (Wb.mk ⟨fun _=>?_,fun _=>Wif.f (Ws.nx ⟨n,k,r,x2,⟨by omega,by omega,k1,k6⟩,hr,rfl⟩)⟩) rfl rfl))))))
  refine Wt.V (We.e2 ?_);refine We.drw (m:=8) rfl (by decide) (by decide) rfl fun t x3 t0 t1 ρ3 e=>?_
  subst e;refine We.c (Wg2.eq (Wb.mk ⟨fun _=>?_,fun _=>Ws.nx ⟨n,k,r,x3,⟨by omega,by omega,k1,k6⟩,hr,rfl⟩⟩) rfl rfl);refine Ws.seq (Ws.A (We.c (WA.val ?_ (by trivial))) (by decide));refine Ws.seq (Ws.A (We.c (WA.val ?_ (by trivial))) (by decide));refine Ws.A (We.Fn (Was.cons (We.F ?_))) (by decide);refine Was.cons (We.v rfl (Was.cons (We.e2 (We.v rfl (We.c (Wg2.add ?_ rfl rfl))))));refine Was.nil (WF.box ey ?_ rfl rfl rfl (by trivial));refine Was.cons (We.c (Was.cons (We.e2 (We.c ?_))));refine We.drw (m:=11) rfl (by decide) (by decide) rfl fun v x4 v0 v1 ρ3 e=>?_
  subst e;obtain⟨r',y',er,gr,lr,mr⟩:=CS y (30+v) (by omega) (by omega);refine Wg2.add (Was.nil ⟨_,_,_,_,_,rfl,rfl,er,?_⟩) rfl rfl;exact WA.new ⟨6,6,r',x4,⟨by decide,by decide,by decide,by decide⟩,Rcd.of gr lr mr,rfl⟩ (by trivial)
 rintro ρ ⟨n,k,r,x3,⟨n1,n10,k1,k6⟩,hr,rfl⟩;have lr:=hr.len;refine Ws.cut (fun ρ=>∃(j:Nat) (x:Int),(1<=j/\j<=k)/\ρ=[.sh (.lst (S.map Dat.int)),.sh (.int at_),.ow (aK x),.sh (.int (n:Nat)),.sh (.int (k:Nat)),.ow (aE r),.sh (.int (j:Nat)),c7,c8,c9,c10]) ?_ ?_
 ·refine Ws.A (We.e2 (We.c ?_)) (by decide)
  refine We.drw (m:=(k:Nat)) rfl (by omega) (by unfold fq;omega) rfl fun t x2 t0 t1 ρ3 e=>?_
  subst e;refine Wg2.add (WA.val ⟨(1+t).toNat,x2,by omega,?_⟩ rfl) rfl rfl;rw[Int.toNat_of_nonneg (by omega)];rfl
 rintro ρ ⟨j,x4,⟨j1,jk⟩,rfl⟩;obtain⟨ms,_,al⟩:=gF n k n10 k1 k6 r hr.ends (by omega);have Nt:=Ks n k n10 k1 k6 r ms hr.ends (by omega) al;have net:Net n k (keep r ms):=⟨hr.sub (mH r ms),_,tM al,fun z=>by simpa using(List.mem_filter.mp z).2⟩
 generalize keep r ms=K at Nt net
 have s:St n k j K:=⟨n1,n10,k1,k6,j1,jk,net⟩
 obtain⟨F,eF,hL⟩:=CQ s;refine Ws.seq (Ws.A (We.F ?_) (by decide));refine Was.cons (We.v rfl (Was.cons (We.w rfl (Was.cons (We.v rfl (Was.nil (WF.box Nt (WA.val ?_ (by trivial)) rfl rfl rfl (by trivial))))))));refine Ws.seq (Ws.A (We.B (Was.cons (We.e2 (We.v rfl (We.c (Wg2.ix (v:=aE K) (Was.nil (WB.list (xs:=K.map bf) (WA.new ?_ (by trivial)) rfl)) rfl rfl rfl)))))) (by decide));refine Ws.seq (Ws.A (We.F ?_) (by decide));refine Was.cons (We.v rfl (Was.cons (We.v rfl (Was.nil (WF.box eF (WA.new ?_ (by trivial)) rfl rfl rfl (by trivial))))));refine Ws.seq (Ws.If (Wt.Or (Wt.Not (Wt.V (We.F ?_)))));refine Was.cons (We.v rfl (Was.cons (We.w rfl (Was.nil (WF.val (Kv n10 hL) (Wb.mk (Wif.f ?_)) rfl rfl)))));refine Wt.Not (Wt.V (We.F ?_));refine Was.cons (We.v rfl (Was.cons (We.v rfl (Was.cons (We.v rfl (Was.cons (We.w rfl (Was.nil (WF.val (tell_ok s hL) (Wb.mk (Wif.f (Ws.nx ?_))) rfl rfl)))))))));refine Ws.seq (Ws.A (We.B (Was.cons (We.w rfl (Was.nil (WB.list (xs:=F.map bf) (WA.new ?_ (by trivial)) rfl))))) (by decide));refine Ws.seq (Ws.Px (ds:=F.map bf) ?_ rfl (by trivial));refine Ws.seq (Ws.If (Wt.Or (Wt.V (We.e2 (We.F ?_)))));refine Was.cons (We.v rfl (Was.cons (We.v rfl (Was.nil (WF.box eF ?_ rfl rfl rfl (by trivial))))));refine We.w rfl (Wg2.CC (Kr F) (CB F) (Wb.mk (Wif.f ?_)) rfl rfl);refine Wt.V (We.e2 (We.v rfl (We.T (Was.cons (We.v rfl (Was.cons (We.v rfl (Was.cons (We.w rfl (Was.nil (WT.mk ?_ rfl (by trivial) (Nat.le_of_ble_eq_true rfl))))))))))));refine Wg2.CC (Ky n k K) (Kw n k K) (Wb.mk (Wif.f (Ws.nx ?_))) rfl rfl;obtain⟨y2,ey2⟩:=qP S (at_+2) (by omega) (by omega);refine Ws.seq (Ws.A (We.F ?_) (by decide));refine Was.cons (We.v rfl (Was.cons (We.e2 (We.v rfl (We.c (Wg2.add (Was.nil (WF.box ey2 (WA.new ?_ (by trivial)) rfl rfl rfl (by trivial))) rfl rfl))))));obtain⟨y3,ey3⟩:=qw n1 n10 y2;refine Ws.If (Wt.Not (Wt.V (We.Fm (Was.cons (We.v rfl (Was.nil (WFm.any ey3 (Wb.mk (Wif.f (Ws.nx ?_))) rfl rfl (by trivial))))) rfl)));exact nx _ _ _ _ _ _ _ _ _ _
theorem math(ns:List Int)(h:ns.length<=63):mq [.lst (ns.map Dat.int)]=some (.val (.bl true)):=by
 apply Wr.eq;unfold mq
 (refine Dm.Wr.fn ?_ rfl rfl;dsimp only[List.map,List.replicate,List.cons_append,List.nil_append])
 obtain⟨top,et,t0,t1⟩:∃top:Int,top=(if (if (6:Int)<((ns.length:Nat):Int) then 6 else ((ns.length:Nat):Int))>1 then (if (6:Int)<((ns.length:Nat):Int) then 6 else ((ns.length:Nat):Int)) else 1)/\1<=top/\top<=12:=⟨_,rfl,by split<;>omega,by split<;>split<;>omega⟩
 refine Ws.seq (Ws.For (Wi.Rs (i:=0) (j:=top) (k:=3) rfl ?_ rfl ⟨by decide,by unfold BIG;omega,by unfold BIG;omega,by decide,by decide⟩ ?_))
 ·rw[et]
  exact We.get (We.B (Was.cons (We.c (Was.cons (We.B (Was.cons (We.B (Was.cons (We.v rfl (Was.nil (WB.FG (enc:=Dat.int) (xs:=ns) (Was.cons (We.c (Was.nil (WB.min2 (Was.nil (WB.max2 ⟨rfl,rfl⟩ rfl)) rfl)))) rfl)))))))))))
 unfold gy;refine Ws.inv (fun i:Nat=>Dat.int (0+(i:Nat)*3)) _ _ (List.range (cE 0 top 3)) _ _ _ _ _ (fun p q ρ=>∃c1 c2 c3 c4 c5 c6 c7 c8 c9 c10:Cell,ρ=[.sh (.lst (ns.map Dat.int)),c1,c2,c3,c4,c5,c6,c7,c8,c9,c10]) ⟨_,_,_,_,_,_,_,_,_,_,rfl⟩ ?_ ?_
 ·rintro p i q ρ e ⟨c1,c2,c3,c4,c5,c6,c7,c8,c9,c10,rfl⟩
  have hi:i<cE 0 top 3:=(dG e).2;unfold cE at hi;rw[if_pos (by omega)]at hi;refine Dm.aV rfl (by trivial) ?_;exact Gk ns _ (by omega) (by omega) _ _ _ _ _ _ _ _ _ fun c1 c2 c3 c4 c5 c6 c7 c8 c9 c10=>⟨_,_,_,_,_,_,_,_,_,_,rfl⟩
 ·rintro ρ ⟨c1,c2,c3,c4,c5,c6,c7,c8,c9,c10,rfl⟩
  exact Ws.R (We.c rfl)
end P
set_option maxHeartbeats 4000000
namespace Q
open PySem L2 Br Dm P
noncomputable def top(i:Nat):Stmt:=PySem.Challenge.pw_sinceply_k36_links_told.main.body.getD i (.Pass ⟨0,0,0,0⟩)
structure Txt(mg:Str->Option Value)(K:PySem.W.Frag)(base:Heap)(vZ v5 v7 v8 v9 v_ wc we wg wj mO mP mQ mR mS mT mU mV mW mX mY mZ m5 m6 m7 m8 m9 nc ng nh nk nq nt nu nv nA nB nC nD nE nF nG nH nI nJ nK nM nN nP:Addr)(nQ nR nS nT nU nV nW nX nY nZ gG gH gI gJ gK gM gO gP gQ gR gS gT gU gW gX gY gZ g6 g8 g9 g_ h_ ic ie ig ir iu iw iA iB iC iD iE iF iG iH iI iJ jV:FuncData):Prop where
 CT:mg "all" = none
 CU:mg "bool" = none
 Kz:mg "dict" = none
 kI:mg "enumerate" = none
 yl:mg "int" = none
 aY:mg "isinstance" = none
 jy:mg "len" = none
 dJ:mg "list" = none
 tR:mg "max" = none
 pY:mg "min" = none
 aZ:mg "range" = none
 n5:mg "reversed" = none
 n6:mg "sorted" = none
 k9:mg "tuple" = none
 Nu:mg "zip" = none
 n8:∃t,mg "MOST_TIES" = some (.int 60 t)
 Py:mg "is_whole" = some (.ref vZ)
 CV:mg "is_within" = some (.ref v5)
 Pz:mg "is_places" = some (.ref v7)
 Gm:mg "is_place" = some (.ref v8)
 Nv:mg "is_layers" = some (.ref v9)
 PB:mg "is_moment" = some (.ref v_)
 PD:mg "is_tie_either_way" = some (.ref wc)
 PF:mg "is_tie" = some (.ref we)
 PJ:mg "is_rising" = some (.ref wg)
 PK:mg "is_pair" = some (.ref wj)
 Nx:mg "look_at_layers" = some (.ref mO)
 Ny:mg "look_at_pair" = some (.ref mP)
 Nz:mg "merged" = some (.ref mQ)
 NB:mg "least_layer" = some (.ref mR)
 HA:mg "layered" = some (.ref mS)
 NC:mg "is_record" = some (.ref mT)
 HB:mg "since" = some (.ref mU)
 ND:mg "is_net" = some (.ref mV)
 NF:mg "look_at_net" = some (.ref mW)
 HC:mg "look_at_net_layers" = some (.ref mX)
 NG:mg "net_of" = some (.ref mY)
 NH:mg "forest_way" = some (.ref mZ)
 NI:mg "steps_of" = some (.ref m5)
 NJ:mg "free_steps" = some (.ref m6)
 NK:mg "led_steps" = some (.ref m7)
 HD:mg "shortest_ways" = some (.ref m8)
 NL:mg "lead_along" = some (.ref m9)
 NN:mg "parted" = some (.ref nc)
 ym:mg "ways_apart" = some (.ref ng)
 HE:mg "hang_often" = some (.ref nh)
 HF:mg "latest" = some (.ref nk)
 NO:mg "when" = some (.ref nq)
 NP:mg "youngest_link" = some (.ref nt)
 HG:mg "links" = some (.ref nu)
 yo:mg "least_link" = some (.ref nv)
 yp:mg "_law_pool" = some (.ref nA)
 b4:mg "_law_take" = some (.ref nB)
 NQ:mg "_law_many" = some (.ref nC)
 NR:mg "_law_record" = some (.ref nD)
 NT:mg "_law_whole" = some (.ref nE)
 NU:mg "_law_wholes" = some (.ref nF)
 NV:mg "_law_closes_none" = some (.ref nG)
 HH:mg "_law_least" = some (.ref nH)
 NW:mg "_law_are_links" = some (.ref nI)
 NX:mg "_law_tell" = some (.ref nJ)
 NY:mg "_law_thick" = some (.ref nK)
 NZ:mg "_law_drawn_links" = some (.ref nM)
 N1:mg "_law_any_links" = some (.ref nN)
 PN:mg "law" = some (.ref nP)
 N2:Fun K "is_whole" "is_whole" (top 6) vZ nQ
 KA:Binds K nQ ["thing"] []
 z6:Fun K "is_within" "is_within" (top 7) v5 nR
 wk:Binds K nR ["thing","low","high"] []
 N3:Fun K "is_places" "is_places" (top 8) v7 nS
 CW:Fun K "is_place" "is_place" (top 9) v8 nT
 KC:Fun K "is_layers" "is_layers" (top 10) v9 nU
 N4:Fun K "is_moment" "is_moment" (top 11) v_ nV
 z7:Binds K nT ["n","thing"] []
 KD:Binds K nV ["thing"] []
 N5:Fun K "is_tie_either_way" "is_tie_either_way" (top 12) wc nW
 KG:Binds K nW ["n","thing"] []
 N6:Fun K "is_tie" "is_tie" (top 13) we nX
 N7:Fun K "is_rising" "is_rising" (top 14) wg nY
 N8:Fun K "is_pair" "is_pair" (top 15) wj nZ
 Gn:Binds K nU ["thing"] []
 HJ:Fun K "look_at_layers" "look_at_layers" (top 16) mO gG
 KH:Binds K nZ ["n","a","b"] []
 HK:Fun K "look_at_pair" "look_at_pair" (top 17) mP gH
 HL:Fun K "merged" "merged" (top 19) mQ gI
 HM:Fun K "least_layer" "least_layer" (top 22) mR gJ
 CY:Binds K gG ["k"] []
 CZ:Binds K gI ["groups","a","b"] []
 C0:Binds K gJ ["layers","a","b"] []
 C1:Fun K "layered" "layered" (top 21) mS gK
 KI:Binds K nS ["thing"] []
 KJ:Binds K nX ["n","thing"] []
 KN:Binds K nY ["things"] []
 HN:Fun K "is_record" "is_record" (top 25) mT gM
 C2:Fun K "since" "since" (top 26) mU gO
 yq:Binds K gK ["n","record","k"] []
 C3:Binds K gM ["n","thing"] []
 HP:Fun K "is_net" "is_net" (top 28) mV gP
 C4:Binds K gP ["thing"] []
 HQ:Fun K "look_at_net" "look_at_net" (top 29) mW gQ
 C5:Binds K gQ ["thing"] []
 C6:Fun K "look_at_net_layers" "look_at_net_layers" (top 30) mX gR
 HR:Fun K "net_of" "net_of" (top 31) mY gS
 HS:Fun K "forest_way" "forest_way" (top 33) mZ gT
 HU:Fun K "steps_of" "steps_of" (top 37) m5 gU
 HV:Fun K "free_steps" "free_steps" (top 38) m6 gW
 HW:Fun K "led_steps" "led_steps" (top 39) m7 gX
 C7:Fun K "shortest_ways" "shortest_ways" (top 40) m8 gY
 HX:Fun K "lead_along" "lead_along" (top 41) m9 gZ
 C8:Binds K gX ["steps","heads"] []
 yr:Binds K gY ["steps","a"] []
 HY:Fun K "parted" "parted" (top 42) nc g6
 C9:Binds K gU ["n","ties"] []
 C_:Binds K gW ["steps","heads"] []
 Dc:Binds K gZ ["heads","way"] []
 Dd:Binds K g6 ["steps","heads","a","b","count"] []
 tS:Fun K "ways_apart" "ways_apart" (top 35) ng g8
 pZ:Binds K g8 ["n","ties","a","b","most"] []
 De:Fun K "hang_often" "hang_often" (top 36) nh g9
 yt:Binds K g9 ["n","ties","a","b","times"] []
 Df:Fun K "latest" "latest" (top 45) nk g_
 Dg:Binds K gH ["n","a","b"] []
 yu:Binds K gO ["record","t"] []
 yw:Binds K gR ["net","j"] []
 yx:Binds K g_ ["n","ties","a","b","j"] []
 HZ:Fun K "when" "when" (top 44) nq h_
 H_:Fun K "youngest_link" "youngest_link" (top 48) nt ic
 Dh:Binds K ic ["net","j","place"] []
 Di:Fun K "links" "links" (top 47) nu ie
 Dj:Binds K gT ["ties","a","b"] []
 tT:Fun K "least_link" "least_link" (top 49) nv ig
 tU:Fun K "_law_pool" "_law_pool" (top 51) nA ir
 bR:Fun K "_law_take" "_law_take" (top 52) nB iu
 bO:Binds K iu ["pool","many"] []
 Ia:Fun K "_law_many" "_law_many" (top 53) nC iw
 Ib:Fun K "_law_record" "_law_record" (top 54) nD iA
 Ic:Fun K "_law_whole" "_law_whole" (top 57) nE iB
 Dl:Binds K iB ["thing"] []
 Ie:Fun K "_law_wholes" "_law_wholes" (top 58) nF iC
 Ig:Fun K "_law_closes_none" "_law_closes_none" (top 63) nG iD
 Dq:Fun K "_law_least" "_law_least" (top 64) nH iE
 Dr:Binds K iC ["thing"] []
 Dt:Binds K iD ["n","found"] []
 Ih:Fun K "_law_are_links" "_law_are_links" (top 65) nI iF
 Du:Binds K h_ ["net","a","b","j"] []
 p5:Binds K ig ["n","some","a","b"] []
 yz:Binds K iE ["n","found","a","b"] []
 Ii:Fun K "_law_tell" "_law_tell" (top 66) nJ iG
 Ij:Fun K "_law_thick" "_law_thick" (top 67) nK iH
 Ik:Fun K "_law_drawn_links" "_law_drawn_links" (top 68) nM iI
 Dv:Binds K iI ["pool","n"] []
 Il:Fun K "_law_any_links" "_law_any_links" (top 69) nN iJ
 Dw:Binds K gS ["n","record","k"] []
 yC:Binds K ie ["net","j"] []
 p6:Binds K ir ["script","k"] []
 Dy:Binds K iw ["pool"] []
 Dz:Binds K iA ["pool","n","most"] []
 DB:Binds K iF ["n","found"] []
 DC:Binds K iG ["n","net","j","found"] []
 DF:Binds K iH ["pool","n","many"] []
 DG:Binds K iJ ["pool","n"] []
 N9:Fun K "law" "law" (top 70) nP jV
section
variable{P':Program}{w:World}{K:PySem.W.Frag}{mg:Str->Option Value}{base:Heap}{vZ v5 v7 v8 v9 v_ wc we wg wj mO mP mQ mR mS mT mU mV mW mX mY mZ m5 m6 m7 m8 m9 nc ng nh nk nq nt nu nv nA nB nC nD nE nF nG nH nI nJ nK nM nN nP:Addr}
variable{nQ nR nS nT nU nV nW nX nY nZ gG gH gI gJ gK gM gO gP gQ gR gS gT gU gW gX gY gZ g6 g8 g9 g_ h_ ic ie ig ir iu iw iA iB iC iD iE iF iG iH iI iJ jV:FuncData}
theorem N_:aq ["thing"] ["thing"] (ai (top 6)):=fsc rfl rfl rfl rfl (by decide +kernel)
theorem Oa:aq ["thing","low","high"] ["thing","low","high"] (ai (top 7)):=fsc rfl rfl rfl rfl (by decide +kernel)
theorem Ob:aq ["thing"] ["thing"] (ai (top 8)):=fsc rfl rfl rfl rfl (by decide +kernel)
theorem Oc:aq ["n","thing"] ["n","thing"] (ai (top 9)):=fsc rfl rfl rfl rfl (by decide +kernel)
theorem Od:aq ["thing"] ["thing"] (ai (top 10)):=fsc rfl rfl rfl rfl (by decide +kernel)
theorem Oe:aq ["thing"] ["thing"] (ai (top 11)):=fsc rfl rfl rfl rfl (by decide +kernel)
theorem Of:aq ["n","thing"] ["n","thing"] (ai (top 12)):=fsc rfl rfl rfl rfl (by decide +kernel)
theorem Og:aq ["n","thing"] ["n","thing"] (ai (top 13)):=fsc rfl rfl rfl rfl (by decide +kernel)
theorem Oh:aq ["things"] ["things"] (ai (top 14)):=fsc rfl rfl rfl rfl (by decide +kernel)
theorem KP:(["things","at"]:List Str).Nodup:=by decide +kernel
theorem Oi:aq ["n","a","b"] ["n","a","b"] (ai (top 15)):=fsc rfl rfl rfl rfl (by decide +kernel)
theorem KQ:aq ["k"] ["k"] (ai (top 16)):=fsc rfl rfl rfl rfl (by decide +kernel)
theorem KR:aq ["n","a","b"] ["n","a","b"] (ai (top 17)):=fsc rfl rfl rfl rfl (by decide +kernel)
theorem KS:aq ["groups","a","b"] ["groups","a","b"] (ai (top 19)):=fsc rfl rfl rfl rfl (by decide +kernel)
theorem Gp:(["groups","a","b","group"]:List Str).Nodup:=by decide +kernel
theorem wo:aq ["layers","a","b","at","groups"] ["layers","a","b"] (ai (top 22)):=fsc rfl rfl rfl rfl (by decide +kernel)
theorem iK:aq ["n","record","k","layers","numbers","moment","a","b","number"] ["n","record","k"] (ai (top 21)):=fsc rfl rfl rfl rfl (by decide +kernel)
theorem Gq:(["n","record","k","layers","numbers","moment","a","b","number","layer"]:List Str).Nodup:=by decide +kernel
theorem KU:aq ["n","thing"] ["n","thing"] (ai (top 25)):=fsc rfl rfl rfl rfl (by decide +kernel)
theorem Gr:(["n","thing","tie"]:List Str).Nodup:=by decide +kernel
theorem Gs:(["n","thing","tie"]:List Str).Nodup:=by decide +kernel
theorem KW:aq ["record","t"] ["record","t"] (ai (top 26)):=fsc rfl rfl rfl rfl (by decide +kernel)
theorem Gu:(["record","t","tie"]:List Str).Nodup:=by decide +kernel
theorem KY:aq ["thing"] ["thing"] (ai (top 28)):=fsc rfl rfl rfl rfl (by decide +kernel)
theorem KZ:aq ["thing"] ["thing"] (ai (top 29)):=fsc rfl rfl rfl rfl (by decide +kernel)
theorem K5:aq ["net","j"] ["net","j"] (ai (top 30)):=fsc rfl rfl rfl rfl (by decide +kernel)
theorem DH:aq ["n","record","k","numbers"] ["n","record","k"] (ai (top 31)):=fsc rfl rfl rfl rfl (by decide +kernel)
theorem yD:(["n","record","k","numbers","tie","number"]:List Str).Nodup:=by decide +kernel
theorem fU:aq ["ties","a","b","ways","pending","place","moment","first","second","other"] ["ties","a","b"] (ai (top 33)):=fsc rfl rfl rfl rfl (by decide +kernel)
theorem n9:aq ["n","ties","steps","moment","a","b"] ["n","ties"] (ai (top 37)):=fsc rfl rfl rfl rfl (by decide +kernel)
theorem Gv:(["n","ties","steps","moment","a","b","place"]:List Str).Nodup:=by decide +kernel
theorem K6:aq ["steps","heads"] ["steps","heads"] (ai (top 38)):=fsc rfl rfl rfl rfl (by decide +kernel)
theorem Gw:(["steps","heads","row"]:List Str).Nodup:=by decide +kernel
theorem Gx:(["steps","heads","row","step"]:List Str).Nodup:=by decide +kernel
theorem K7:aq ["steps","heads"] ["steps","heads"] (ai (top 39)):=fsc rfl rfl rfl rfl (by decide +kernel)
theorem Gy:(["steps","heads","row"]:List Str).Nodup:=by decide +kernel
theorem Gz:(["steps","heads","row","step"]:List Str).Nodup:=by decide +kernel
theorem n_:aq ["steps","a","ways","pending","place","step"] ["steps","a"] (ai (top 40)):=fsc rfl rfl rfl rfl (by decide +kernel)
theorem wu:aq ["heads","way","moment","place"] ["heads","way"] (ai (top 41)):=fsc rfl rfl rfl rfl (by decide +kernel)
theorem jW:aq ["steps","heads","a","b","count","left","ways","time","way","moment"] ["steps","heads","a","b","count"] (ai (top 42)):=fsc rfl rfl rfl rfl (by decide +kernel)
theorem GA:(["steps","heads","a","b","count","left","ways","time","way","moment","step"]:List Str).Nodup:=by decide +kernel
theorem fV:aq ["n","ties","a","b","most","steps","heads","side","count","found"] ["n","ties","a","b","most"] (ai (top 35)):=fsc rfl rfl rfl rfl (by decide +kernel)
theorem K8:aq ["n","ties","a","b","times"] ["n","ties","a","b","times"] (ai (top 36)):=fsc rfl rfl rfl rfl (by decide +kernel)
theorem jX:aq ["n","ties","a","b","j","low","high","middle"] ["n","ties","a","b","j"] (ai (top 45)):=fsc rfl rfl rfl rfl (by decide +kernel)
theorem qX:aq ["net","a","b","j","t","ways","side"] ["net","a","b","j"] (ai (top 44)):=fsc rfl rfl rfl rfl (by decide +kernel)
theorem wz:aq ["net","j","place","moments","found"] ["net","j","place"] (ai (top 48)):=fsc rfl rfl rfl rfl (by decide +kernel)
theorem GB:(["net","j","place","moments","found","other"]:List Str).Nodup:=by decide +kernel
theorem yE:(["net","j","place","moments","found","other","moment"]:List Str).Nodup:=by decide +kernel
theorem wA:aq ["net","j","told","place"] ["net","j"] (ai (top 47)):=fsc rfl rfl rfl rfl (by decide +kernel)
theorem DJ:aq ["n","some","a","b","way"] ["n","some","a","b"] (ai (top 49)):=fsc rfl rfl rfl rfl (by decide +kernel)
theorem eL:aq ["script","k","cell","number","found","turn"] ["script","k"] (ai (top 51)):=fsc rfl rfl rfl rfl (by decide +kernel)
theorem DK:aq ["pool","many","digit"] ["pool","many"] (ai (top 52)):=fsc rfl rfl rfl rfl (by decide +kernel)
theorem K9:aq ["pool"] ["pool"] (ai (top 53)):=fsc rfl rfl rfl rfl (by decide +kernel)
theorem cu:aq ["pool","n","most","many","kind","step","times","way","moment","found","k","one","other"] ["pool","n","most"] (ai (top 54)):=fsc rfl rfl rfl rfl (by decide +kernel)
theorem K_:aq ["thing"] ["thing"] (ai (top 57)):=fsc rfl rfl rfl rfl (by decide +kernel)
theorem La:aq ["thing"] ["thing"] (ai (top 58)):=fsc rfl rfl rfl rfl (by decide +kernel)
theorem GC:(["thing","part"]:List Str).Nodup:=by decide +kernel
theorem fW:aq ["n","found","names","moment","a","b","one","other"] ["n","found"] (ai (top 63)):=fsc rfl rfl rfl rfl (by decide +kernel)
theorem GD:(["n","found","names","moment","a","b","one","other","name"]:List Str).Nodup:=by decide +kernel
theorem jY:aq ["n","found","a","b","names","link","one","other"] ["n","found","a","b"] (ai (top 64)):=fsc rfl rfl rfl rfl (by decide +kernel)
theorem GF:(["n","found","a","b","names","link","one","other","name"]:List Str).Nodup:=by decide +kernel
theorem DL:aq ["n","found","link"] ["n","found"] (ai (top 65)):=fsc rfl rfl rfl rfl (by decide +kernel)
theorem jZ:aq ["n","net","j","found","a","b","due","least"] ["n","net","j","found"] (ai (top 66)):=fsc rfl rfl rfl rfl (by decide +kernel)
theorem iM:aq ["pool","n","many","found","moment","k","one","other"] ["pool","n","many"] (ai (top 67)):=fsc rfl rfl rfl rfl (by decide +kernel)
theorem eN:aq ["pool","n","names","found","turn","a","b","one","other"] ["pool","n"] (ai (top 68)):=fsc rfl rfl rfl rfl (by decide +kernel)
theorem GG:(["pool","n","names","found","turn","a","b","one","other","name"]:List Str).Nodup:=by decide +kernel
theorem oh:aq ["pool","n","made","a","b","due"] ["pool","n"] (ai (top 69)):=fsc rfl rfl rfl rfl (by decide +kernel)
theorem bU:aq ["script","at","pool","n","k","record","j","net","ties","found","kept"] ["script"] (ai (top 70)):=fsc rfl rfl rfl rfl (by decide +kernel)
variable(T:Txt mg K base vZ v5 v7 v8 v9 v_ wc we wg wj mO mP mQ mR mS mT mU mV mW mX mY mZ m5 m6 m7 m8 m9 nc ng nh nk nq nt nu nv nA nB nC nD nE nF nG nH nI nJ nK nM nN nP nQ nR nS nT nU nV nW nX nY nZ gG gH gI gJ gK gM gO gP gQ gR gS gT gU gW gX gY gZ g6 g8 g9 g_ h_ ic ie ig ir iu iw iA iB iC iD iE iF iG iH iI iJ jV)
include T
theorem Oj :
  aO P' w K mg base CX0 1 vZ nQ ["thing"] (spD FJ):=by
 refine T.N2.ok N_ (fun vs H Q E h=>aH h) (fun cdv A outer s H vs Q E hr h=>?_);exact⟨_,(aj (s_r (j9 (jd xw (by rfl) rfl T.yl rfl T.aY (d_v 0)) (o7 (G3 (jd rY (by rfl) rfl T.CU rfl T.aY (d_v 0))))))),bz (n:=1) (m:=0) rfl h⟩
theorem tW :
  aO P' w K mg base CX0 2 v5 nR ["thing","low","high"] (spD sL):=by
 refine T.z6.ok Oa (fun vs H Q E h=>aH h) (fun cdv A outer s H vs Q E hr h=>?_);exact⟨_,(aj (s_r (j9 (az (Oj T) (Br.hm hr) rfl T.Py T.N2.kp T.KA (aa (d_v 0) af)) (o7 (EZ wM xr wM xr (d_v 1) (d_v 0) (d_v 2)))))),bz (n:=3) (m:=0) rfl h⟩
theorem Ol :
  aO P' w K mg base CX0 3 v7 nS ["thing"] (spD FL):=by
 refine T.N3.ok Ob (fun vs H Q E h=>aH h) (fun cdv A outer s H vs Q E hr h=>?_);exact⟨_,(aj (s_r (az (tW T) (Br.hm hr) rfl T.CV T.z6.kp T.wk (aa (d_v 0) (aa d_i (aa d_i af)))))),bz (n:=1) (m:=0) rfl h⟩
theorem yF :
  aO P' w K mg base CX0 3 v8 nT ["n","thing"] (spD vS):=by
 refine T.CW.ok Oc (fun vs H Q E h=>aH h) (fun cdv A outer s H vs Q E hr h=>?_);exact⟨_,(aj (s_r (az (tW T) (Br.hm hr) rfl T.CV T.z6.kp T.wk (aa (d_v 1) (aa d_i (aa (lI (d_v 0) d_i) af)))))),bz (n:=2) (m:=0) rfl h⟩
theorem Im :
  aO P' w K mg base CX0 3 v9 nU ["thing"] (spD vU):=by
 refine T.KC.ok Od (fun vs H Q E h=>aH h) (fun cdv A outer s H vs Q E hr h=>?_);exact⟨_,(aj (s_r (az (tW T) (Br.hm hr) rfl T.CV T.z6.kp T.wk (aa (d_v 0) (aa d_i (aa d_i af)))))),bz (n:=1) (m:=0) rfl h⟩
theorem Om :
  aO P' w K mg base CX0 3 v_ nV ["thing"] (spD FP):=by
 refine T.N4.ok Oe (fun vs H Q E h=>aH h) (fun cdv A outer s H vs Q E hr h=>?_);exact⟨_,(aj (s_r (az (tW T) (Br.hm hr) rfl T.CV T.z6.kp T.wk (aa (d_v 0) (aa d_i (aa (jb d_i d_i) af)))))),bz (n:=1) (m:=0) rfl h⟩
theorem Oo :
  aO P' w K mg base CX0 4 wc nW ["n","thing"] (spD FQ):=by
 refine T.N5.ok Of (fun vs H Q E h=>aH h) (fun cdv A outer s H vs Q E hr h=>?_);exact ⟨_,(ah (bC (t_w (w_or (b8 (b9 (jd kit_tuple (by rfl) rfl T.k9 rfl T.aY (d_v 1)))) (lM (gg hr (jc rfl T.jy (aa (d_v 1) af)) d_i)))) (aj (s_r d_b)) aQ)
  (aj (s_r (j9 (az (Om T) (Br.hm hr) rfl T.PB T.N4.kp T.KD (aa (aL (d_v 1) d_i) af)) (j9 (az (yF T) (Br.hm hr) rfl T.Gm T.CW.kp T.z7 (aa (d_v 0) (aa (aL (d_v 1) d_i) af))) (o7 (az (yF T) (Br.hm hr) rfl T.Gm T.CW.kp T.z7 (aa (d_v 0) (aa (aL (d_v 1) d_i) af))))))))),bz (n:=2) (m:=0) rfl h⟩
theorem Oq :
  aO P' w K mg base CX0 5 we nX ["n","thing"] (spD FU):=by
 refine T.N6.ok Og (fun vs H Q E h=>aH h) (fun cdv A outer s H vs Q E hr h=>?_);exact⟨_,(aj (s_r (j9 (az (Oo T) (Br.hm hr) rfl T.PD T.N5.kp T.KG (aa (d_v 0) (aa (d_v 1) af))) (o7 (OX (aL (d_v 1) d_i) (aL (d_v 1) d_i)))))),bz (n:=2) (m:=0) rfl h⟩
theorem Ot :
  aO P' w K mg base CX0 1 wg nY ["things"] (spD FW):=by
 refine T.N7.ok Oh (fun vs H Q E h=>aH h) (fun cdv A outer s H vs Q E hr h=>?_);exact⟨_,(aj (s_r (Bb rfl rfl T.CT (aa (MD ["things"] ["at"] (c_n 1 KP rfl rfl) (My rfl T.aZ (aa d_i (aa (jc rfl T.jy (aa (d_v 0) af)) af))) (fun _ _ _ _ _=>cB) (fun _ _ _ _ _=>(OW (aL (d_v 0) (lI (d_v 1) d_i)) (aL (d_v 0) (d_v 1))))) af)))),bz (n:=1) (m:=0) rfl h⟩
theorem Ou :
  aO P' w K mg base CX0 4 wj nZ ["n","a","b"] (spD FY):=by
 refine T.N8.ok Oi (fun vs H Q E h=>aH h) (fun cdv A outer s H vs Q E hr h=>?_);exact⟨_,(aj (s_r (j9 (az (yF T) (Br.hm hr) rfl T.Gm T.CW.kp T.z7 (aa (d_v 0) (aa (d_v 1) af))) (j9 (az (yF T) (Br.hm hr) rfl T.Gm T.CW.kp T.z7 (aa (d_v 0) (aa (d_v 2) af))) (o7 (OV hr (d_v 1) (d_v 2))))))),bz (n:=3) (m:=0) rfl h⟩
theorem Lc :
  aO P' w K mg base CX0 4 mO gG ["k"] (spD xU):=by
 refine T.HJ.ok KQ (fun vs H Q E h=>aH h) (fun cdv A outer s H vs Q E hr h=>?_);exact⟨_,(aj (bC (b8 (b9 (az (Im T) (Br.hm hr) rfl T.Nv T.KC.kp T.Gn (aa (d_v 0) af)))) (aj kW) aQ)),bz (n:=1) (m:=0) rfl h⟩
theorem Ld :
  aO P' w K mg base CX0 5 mP gH ["n","a","b"] (spD xV):=by
 refine T.HK.ok KR (fun vs H Q E h=>aH h) (fun cdv A outer s H vs Q E hr h=>?_);exact⟨_,(aj (bC (b8 (b9 (az (Ou T) (Br.hm hr) rfl T.PK T.N8.kp T.KH (aa (d_v 0) (aa (d_v 1) (aa (d_v 2) af)))))) (aj kW) aQ)),bz (n:=3) (m:=0) rfl h⟩
theorem Le :
  aO P' w K mg base CX0 1 mQ gI ["groups","a","b"] (spD xW):=by
 refine T.HL.ok KS (fun vs H Q E h=>aH h) (fun cdv A outer s H vs Q E hr h=>?_);exact⟨_,(aj (s_r (jh 0 ["groups","a","b"] ["group"] (c_n 3 Gp rfl rfl) (d_v 0) (fun _ _ _ _ _=>cB) (fun _ _ _ _ _=>(zh (kO hr (d_v 3) (aL (d_v 0) (d_v 2))) (aL (d_v 0) (d_v 1)) (d_v 3)))))),bz (n:=3) (m:=0) rfl h⟩
theorem Lf :
  aO P' w K mg base CX0 1 mR gJ ["layers","a","b"] (spD sM):=by
 refine T.HM.ok wo (fun vs H Q E h=>aH h) (fun cdv A outer s H vs Q E hr h=>?_);exact ⟨_,(ah (bY PassesOwn.never rfl (MJ rfl T.kI (d_v 0)) (g_t rfl (aU 3 wo.nd (aU 4 wo.nd fH)))
  (aj (bC (gg hr (aL (d_v 4) (d_v 1)) (aL (d_v 4) (d_v 2))) (aj (s_r (bq (d_v 3) d_i))) aQ)))
  (aj (s_r d_i))),bz (n:=3) (m:=2) rfl h⟩
theorem DM :
  aO P' w K mg base CX0 5 mS gK ["n","record","k"] (spD pI):=by
 refine T.C1.ok iK (fun vs H Q E h=>aH h) (fun cdv A outer s H vs Q E hr h=>?_);exact ⟨_,(ah (s_e (az (Lc T) (Br.hm hr) rfl T.Nx T.HJ.kp T.CY (aa (d_v 2) af)))
  (ah (E1 3 ["n","record","k","layers","numbers","moment","a","b","number"] ["layer"] iK.nd (c_n 9 Gq rfl rfl) (kP rfl T.aZ (aa (d_v 2) af)) (fun _ _ _ _ _=>cB) (fun _ _ _ _ _=>(qt rfl rfl T.dJ rfl T.aZ (aa (d_v 0) af))))
  (ah (s_a 4 iK.nd (bX af))
  (ah (bY PassesOwn.never rfl (MI rfl T.n5 (d_v 1)) (g_t rfl (aU 5 iK.nd (aU 6 iK.nd (aU 7 iK.nd fH))))
  (ah (s_a 8 iK.nd (az (Lf T) (Br.hm hr) rfl T.NB T.HM.kp T.C0 (aa (d_v 3) (aa (d_v 6) (aa (d_v 7) af)))))
  (ah (bC (A8 (d_v 8) d_i) (aj (G4 3 (lI (d_v 8) d_i) (az (Le T) (Br.hm hr) rfl T.Nz T.HL.kp T.CZ (aa (aL (d_v 3) (lI (d_v 8) d_i)) (aa (d_v 6) (aa (d_v 7) af)))))) aQ)
  (aj (lO 4 (d_v 8))))))
  (aj (s_r (E6 rfl rfl T.dJ rfl T.n5 (d_v 4)))))))),bz (n:=3) (m:=6) rfl h⟩
theorem Lg :
  aO P' w K mg base CX0 6 mT gM ["n","thing"] (spD xX):=by
 refine T.HN.ok KU (fun vs H Q E h=>aH h) (fun cdv A outer s H vs Q E hr h=>?_);obtain⟨jz,tX⟩:=T.n8;exact ⟨_,(ah (bC (t_w (w_or (b8 (b9 (az (Ol T) (Br.hm hr) rfl T.Pz T.N3.kp T.KI (aa (d_v 0) af)))) (w_or (b8 (b9 (jd rZ (by rfl) rfl T.dJ rfl T.aY (d_v 1)))) (lM (A8 (jc rfl T.jy (aa (d_v 1) af)) (d_g rfl tX)))))) (aj (s_r d_b)) aQ)
  (ah (bC (b8 (b9 (Bb rfl rfl T.CT (aa (jh 1 ["n","thing"] ["tie"] (c_n 2 Gr rfl rfl) (d_v 1) (fun _ _ _ _ _=>cB) (fun _ _ _ _ _=>(az (Oq T) (Br.hm hr) rfl T.PF T.N6.kp T.KJ (aa (d_v 0) (aa (d_v 2) af))))) af)))) (aj (s_r d_b)) aQ)
  (aj (s_r (az (Ot T) (Br.hm hr) rfl T.PJ T.N7.kp T.KN (aa (jh 1 ["n","thing"] ["tie"] (c_n 2 Gs rfl rfl) (d_v 1) (fun _ _ _ _ _=>cB) (fun _ _ _ _ _=>(aL (d_v 2) d_i))) af)))))),bz (n:=2) (m:=0) rfl h⟩
theorem DO :
  aO P' w K mg base CX0 1 mU gO ["record","t"] (spD sN):=by
 refine T.C2.ok KW (fun vs H Q E h=>aH h) (fun cdv A outer s H vs Q E hr h=>?_);exact⟨_,(aj (s_r (jh 0 ["record","t"] ["tie"] (c_n 2 Gu rfl rfl) (d_v 0) (fun _ _ _ _ _=>lP (Mx (aL (d_v 2) d_i) (d_v 1))) (fun _ _ _ _ _=>(d_v 2))))),bz (n:=2) (m:=0) rfl h⟩
theorem Lh :
  aO P' w K mg base CX0 7 mV gP ["thing"] (spD xY):=by
 refine T.HP.ok KY (fun vs H Q E h=>aH h) (fun cdv A outer s H vs Q E hr h=>?_);exact ⟨_,(ah (bC (t_w (w_or (b8 (b9 (jd kit_tuple (by rfl) rfl T.k9 rfl T.aY (d_v 0)))) (lM (gg hr (jc rfl T.jy (aa (d_v 0) af)) d_i)))) (aj (s_r d_b)) aQ)
  (ah (bC (t_w (w_or (b8 (b9 (az (Im T) (Br.hm hr) rfl T.Nv T.KC.kp T.Gn (aa (aL (d_v 0) d_i) af)))) (lM (b8 (b9 (az (Lg T) (Br.hm hr) rfl T.NC T.HN.kp T.C3 (aa (aL (d_v 0) d_i) (aa (aL (d_v 0) d_i) af)))))))) (aj (s_r d_b)) aQ)
  (aj (s_r (Mv hr d_i (az (DM T) (Br.hm hr) rfl T.HA T.C1.kp T.yq (aa (aL (d_v 0) d_i) (aa (aL (d_v 0) d_i) (aa (aL (d_v 0) d_i) af))))))))),bz (n:=1) (m:=0) rfl h⟩
theorem Li :
  aO P' w K mg base CX0 8 mW gQ ["thing"] (spD xZ):=by
 refine T.HQ.ok KZ (fun vs H Q E h=>aH h) (fun cdv A outer s H vs Q E hr h=>?_);exact⟨_,(aj (bC (b8 (b9 (az (Lh T) (Br.hm hr) rfl T.ND T.HP.kp T.C4 (aa (d_v 0) af)))) (aj kW) aQ)),bz (n:=1) (m:=0) rfl h⟩
theorem DP :
  aO P' w K mg base CX0 9 mX gR ["net","j"] (spD sO):=by
 refine T.C6.ok K5 (fun vs H Q E h=>aH h) (fun cdv A outer s H vs Q E hr h=>?_);exact ⟨_,(ah (s_e (az (Li T) (Br.hm hr) rfl T.NF T.HQ.kp T.C5 (aa (d_v 0) af)))
  (aj (bC (b8 (b9 (az (tW T) (Br.hm hr) rfl T.CV T.z6.kp T.wk (aa (d_v 1) (aa d_i (aa (aL (d_v 0) d_i) af)))))) (aj kW) aQ))),bz (n:=2) (m:=0) rfl h⟩
theorem Lj :
  aO P' w K mg base CX0 6 mY gS ["n","record","k"] (spD x6):=by
 refine T.HR.ok DH (fun vs H Q E h=>aH h) (fun cdv A outer s H vs Q E hr h=>?_);exact ⟨_,(ah (s_a 3 DH.nd (az (DM T) (Br.hm hr) rfl T.HA T.C1.kp T.yq (aa (d_v 0) (aa (d_v 1) (aa (d_v 2) af)))))
  (aj (s_r (eT (aa (d_v 0) (aa (d_v 2) (aa (MD ["n","record","k","numbers"] ["tie","number"] (c_t rfl (fun _ _ _ _ _=>(aU 4 yD (aU 5 yD fH)))) (MK rfl T.Nu (aa (d_v 1) (aa (d_v 3) af))) (fun _ _ _ _ _=>lP (A8 (d_v 5) d_i)) (fun _ _ _ _ _=>(d_v 4))) af))))))),bz (n:=3) (m:=1) rfl h⟩
theorem Lk :
  aO P' w K mg base CX0 1 mZ gT ["ties","a","b"] (spD pJ):=by
 refine T.HS.ok fU (fun vs H Q E h=>aH h) (fun cdv A outer s H vs Q E hr h=>?_);exact ⟨_,(ah (s_a 3 fU.nd (MM (d_v 1) (bX af)))
  (ah (s_a 4 fU.nd (bX (aa (d_v 1) af)))
  (ah (EX 100 PassesOwn.never (MO (d_v 4))
  (ah (s_a 5 fU.nd (AI 4))
  (aj (bY PassesOwn.never rfl (i_S (d_v 0)) (g_t rfl (aU 6 fU.nd (aU 7 fU.nd (aU 8 fU.nd fH))))
  (ah (s_a 9 fU.nd (lI (bq (d_v 7) (d_v 8)) (d_v 5)))
  (aj (bC (t_w (w_and (OZ hr (d_v 5) (eT (aa (d_v 7) (aa (d_v 8) af)))) (vg (Bt hr (d_v 9) (d_v 3))))) (ah (vt 3 hr (d_v 9) (bq (E_ hr (d_v 3) (d_v 5)) (bX (aa (d_v 6) af))))
  (aj (lO 4 (d_v 9)))) aQ)))))))
  (aj (s_r (vq hr (d_v 3) (d_v 2))))))),bz (n:=3) (m:=7) rfl h⟩
theorem Ll :
  aO P' w K mg base CX0 1 m5 gU ["n","ties"] (spD x8):=by
 refine T.HU.ok n9 (fun vs H Q E h=>aH h) (fun cdv A outer s H vs Q E hr h=>?_);exact ⟨_,(J7 2 ["n","ties","steps","moment","a","b"] ["place"] n9.nd (c_n 6 Gv rfl rfl) (kP rfl T.aZ (aa (d_v 0) af)) (M0 PassesOwn.never rfl (i_S (d_v 1)) (g_t rfl (aU 3 n9.nd (aU 4 n9.nd (aU 5 n9.nd fH))))
  (Hj (O9 (gg hr (d_v 4) (d_v 5)) (J6 (Hl (d_v 4) (eT (aa (d_v 3) (aa (d_v 5) af))))
  (Hj (Hl (d_v 5) (eT (aa (d_v 3) (aa (d_v 4) af)))))) MZ)))
  (aj (s_r (d_v 2)))),bz (n:=2) (m:=4) rfl h⟩
theorem Lm :
  aO P' w K mg base CX0 1 m6 gW ["steps","heads"] (spD sP):=by
 refine T.HV.ok K6 (fun vs H Q E h=>aH h) (fun cdv A outer s H vs Q E hr h=>?_);exact⟨_,(aj (s_r (jh 0 ["steps","heads"] ["row"] (c_n 2 Gw rfl rfl) (d_v 0) (fun _ _ _ _ _=>cB) (fun _ _ _ _ _=>(jh 2 ["steps","heads","row"] ["step"] (c_n 3 Gx rfl rfl) (d_v 2) (fun _ _ _ _ _=>lP (gg hr (vq hr (d_v 1) (aL (d_v 3) d_i)) (aL (d_v 3) d_i))) (fun _ _ _ _ _=>(d_v 3))))))),bz (n:=2) (m:=0) rfl h⟩
theorem Ln :
  aO P' w K mg base CX0 1 m7 gX ["steps","heads"] (spD sQ):=by
 refine T.HW.ok K7 (fun vs H Q E h=>aH h) (fun cdv A outer s H vs Q E hr h=>?_);exact⟨_,(aj (s_r (jh 0 ["steps","heads"] ["row"] (c_n 2 Gy rfl rfl) (d_v 0) (fun _ _ _ _ _=>cB) (fun _ _ _ _ _=>(jh 2 ["steps","heads","row"] ["step"] (c_n 3 Gz rfl rfl) (d_v 2) (fun _ _ _ _ _=>lP (kO hr (vq hr (d_v 1) (aL (d_v 3) d_i)) (aL (d_v 3) d_i))) (fun _ _ _ _ _=>(d_v 3))))))),bz (n:=2) (m:=0) rfl h⟩
theorem DQ :
  aO P' w K mg base CX0 1 m8 gY ["steps","a"] (spD ko):=by
 refine T.C7.ok n_ (fun vs H Q E h=>aH h) (fun cdv A outer s H vs Q E hr h=>?_);exact ⟨_,(ah (s_a 2 n_.nd (MM (d_v 1) (bX af)))
  (ah (s_a 3 n_.nd (bX (aa (d_v 1) af)))
  (ah (EX 100 PassesOwn.never (MO (d_v 3))
  (ah (s_a 4 n_.nd (Fj 3 d_i))
  (aj (bY PassesOwn.never rfl (i_S (aL (d_v 0) (d_v 4))) (g_n 5 n_.nd)
  (aj (bC (Bt hr (aL (d_v 5) d_i) (d_v 2)) (ah (vt 2 hr (aL (d_v 5) d_i) (bq (E_ hr (d_v 2) (d_v 4)) (bX (aa (d_v 5) af))))
  (aj (lO 3 (aL (d_v 5) d_i)))) aQ))))))
  (aj (s_r (d_v 2)))))),bz (n:=2) (m:=4) rfl h⟩
theorem Lo :
  aO P' w K mg base CX0 1 m9 gZ ["heads","way"] (spM sS):=by
 refine T.HX.ok wu (fun vs H Q E h=>dM h) (fun cdv A outer s H vs Q E hr h=>?_);exact ⟨_,(aj (bY PassesOwn.never rfl (i_S (d_v 1)) (g_t rfl (aU 2 wu.nd (aU 3 wu.nd fH)))
  (aj (bC (G9 hr (d_v 2) (d_v 0)) (aj (s_e (BH 0 (d_v 2)))) (aj (vt 0 hr (d_v 2) (d_v 3))))))),lV (n:=2) (m:=2) rfl h⟩
theorem Lp :
  aO P' w K mg base CX0 2 nc g6 ["steps","heads","a","b","count"] (spD pK):=by
 refine T.HY.ok jW (fun vs H Q E h=>aH h) (fun cdv A outer s H vs Q E hr h=>?_);exact ⟨_,(ah (s_a 5 jW.nd (Ka rfl T.Kz (aa (d_v 1) af)))
  (ah (s_a 6 jW.nd (bX af))
  (ah (bY PassesOwn.never rfl (kP rfl T.aZ (aa (d_v 4) af)) (g_n 7 jW.nd)
  (ah (E1 8 ["steps","heads","a","b","count","left","ways","time","way","moment"] ["step"] jW.nd (c_n 10 GA rfl rfl) (i_S (E_ hr (az (DQ T) (Br.hm hr) rfl T.HD T.C7.kp T.yr (aa (l_ (Ln T) (Br.hm hr) rfl T.NK T.HW.kp T.C8 (aa (d_v 0) (aa (d_v 5) af))) (aa (d_v 2) af))) (d_v 3))) (fun _ _ _ _ _=>cB) (fun _ _ _ _ _=>(aL (d_v 10) d_i)))
  (ah (bY PassesOwn.never rfl (i_S (d_v 8)) (g_n 9 jW.nd)
  (aj (s_e (BH 5 (d_v 9)))))
  (aj (lO 6 (d_v 8))))))
  (aj (s_r (d_v 6)))))),bz (n:=5) (m:=5) rfl h⟩
theorem qY :
  aO P' w K mg base CX0 3 ng g8 ["n","ties","a","b","most"] (spD jq):=by
 refine T.tS.ok fV (fun vs H Q E h=>aH h) (fun cdv A outer s H vs Q E hr h=>?_);exact ⟨_,(ah (s_a 5 fV.nd (az (Ll T) (Br.hm hr) rfl T.NI T.HU.kp T.C9 (aa (d_v 0) (aa (d_v 1) af))))
  (ah (s_a 6 fV.nd O7)
  (ah (s_a 7 fV.nd d_n)
  (ah (s_a 8 fV.nd d_i)
  (ah (EX 100 PassesOwn.never (t_w (w_and (Mw (d_v 8) (d_v 4)) (vg (Bx (d_v 7) d_n))))
  (ah (s_a 9 fV.nd (az (DQ T) (Br.hm hr) rfl T.HD T.C7.kp T.yr (aa (l_ (Lm T) (Br.hm hr) rfl T.NJ T.HV.kp T.C_ (aa (d_v 5) (aa (d_v 6) af))) (aa (d_v 2) af))))
  (aj (bC (G9 hr (d_v 3) (d_v 9)) (ah (s_e (aN (Lo T) (Br.hm hr) rfl T.NL T.HX.kp T.Dc (aa (d_v 6) (aa (E_ hr (d_v 9) (d_v 3)) af))))
  (aj (s_a 8 fV.nd (bq (d_v 8) d_i)))) (aj (s_a 7 fV.nd (EW rfl T.k9 (aa (Fv rfl rfl T.n6 (aa (d_v 9) af)) af))))))))
  (aj (s_r (eT (aa (l_ (Lp T) (Br.hm hr) rfl T.NN T.HY.kp T.Dd (@aa _ _ _ _ _ (d_v 5) (@aa _ _ _ _ _ (d_v 6) (@aa _ _ _ _ _ (d_v 2) (@aa _ _ _ _ _ (d_v 3) (@aa _ _ _ _ _ (d_v 8) af rfl) rfl) rfl) rfl) rfl)) (aa (d_v 7) af)))))))))),bz (n:=5) (m:=5) rfl h⟩
theorem DR :
  aO P' w K mg base CX0 4 nh g9 ["n","ties","a","b","times"] (spD pL):=by
 refine T.De.ok K8 (fun vs H Q E h=>aH h) (fun cdv A outer s H vs Q E hr h=>?_);exact⟨_,(aj (s_r (MQ (aL (az (qY T) (Br.hm hr) rfl T.ym T.tS.kp T.pZ (@aa _ _ _ _ _ (d_v 0) (@aa _ _ _ _ _ (d_v 1) (@aa _ _ _ _ _ (d_v 2) (@aa _ _ _ _ _ (d_v 3) (@aa _ _ _ _ _ (d_v 4) af rfl) rfl) rfl) rfl) rfl)) d_i) d_n))),bz (n:=5) (m:=0) rfl h⟩
theorem DU :
  aO P' w K mg base CX0 5 nk g_ ["n","ties","a","b","j"] (spD jr):=by
 refine T.Df.ok jX (fun vs H Q E h=>aH h) (fun cdv A outer s H vs Q E hr h=>?_);exact ⟨_,(ah (bC (b8 (b9 (az (DR T) (Br.hm hr) rfl T.HE T.De.kp T.yt (@aa _ _ _ _ _ (d_v 0) (@aa _ _ _ _ _ (d_v 1) (@aa _ _ _ _ _ (d_v 2) (@aa _ _ _ _ _ (d_v 3) (@aa _ _ _ _ _ (d_v 4) af rfl) rfl) rfl) rfl) rfl)))) (aj (s_r d_n)) aQ)
  (ah (s_a 5 jX.nd d_i)
  (ah (s_a 6 jX.nd (jc rfl T.jy (aa (d_v 1) af)))
  (ah (EX 100 PassesOwn.never (A8 (lI (d_v 6) (d_v 5)) d_i)
  (ah (s_a 7 jX.nd (G1 (bq (d_v 5) (d_v 6)) d_i))
  (aj (bC (b9 (az (DR T) (Br.hm hr) rfl T.HE T.De.kp T.yt (@aa _ _ _ _ _ (d_v 0) (@aa _ _ _ _ _ (O3 (d_v 1) (o_s (d_v 7)) o_n) (@aa _ _ _ _ _ (d_v 2) (@aa _ _ _ _ _ (d_v 3) (@aa _ _ _ _ _ (d_v 4) af rfl) rfl) rfl) rfl) rfl))) (aj (s_a 5 jX.nd (d_v 7))) (aj (s_a 6 jX.nd (d_v 7)))))))
  (aj (s_r (aL (aL (d_v 1) (d_v 5)) d_i))))))),bz (n:=5) (m:=3) rfl h⟩
theorem Lq :
  aO P' w K mg base CX0 10 nq h_ ["net","a","b","j"] (spD sU):=by
 refine T.HZ.ok qX (fun vs H Q E h=>aH h) (fun cdv A outer s H vs Q E hr h=>?_);exact ⟨_,(ah (s_e (az (DP T) (Br.hm hr) rfl T.HC T.C6.kp T.yw (aa (d_v 0) (aa (d_v 3) af))))
  (ah (s_e (az (Ld T) (Br.hm hr) rfl T.Ny T.HK.kp T.Dg (aa (aL (d_v 0) d_i) (aa (d_v 1) (aa (d_v 2) af)))))
  (ah (s_a 4 qX.nd (az (DU T) (Br.hm hr) rfl T.HF T.Df.kp T.yx (@aa _ _ _ _ _ (aL (d_v 0) d_i) (@aa _ _ _ _ _ (aL (d_v 0) d_i) (@aa _ _ _ _ _ (d_v 1) (@aa _ _ _ _ _ (d_v 2) (@aa _ _ _ _ _ (d_v 3) af rfl) rfl) rfl) rfl) rfl)))
  (ah (bC (Bx (d_v 4) d_n) (aj (s_r (eT (aa d_s (aa (aL (az (qY T) (Br.hm hr) rfl T.ym T.tS.kp T.pZ (@aa _ _ _ _ _ (aL (d_v 0) d_i) (@aa _ _ _ _ _ (aL (d_v 0) d_i) (@aa _ _ _ _ _ (d_v 1) (@aa _ _ _ _ _ (d_v 2) (@aa _ _ _ _ _ (d_v 3) af rfl) rfl) rfl) rfl) rfl)) d_i) af))))) aQ)
  (ah (s_a 5 qX.nd (aL (az (qY T) (Br.hm hr) rfl T.ym T.tS.kp T.pZ (@aa _ _ _ _ _ (aL (d_v 0) d_i) (@aa _ _ _ _ _ (az (DO T) (Br.hm hr) rfl T.HB T.C2.kp T.yu (aa (aL (d_v 0) d_i) (aa (d_v 4) af))) (@aa _ _ _ _ _ (d_v 1) (@aa _ _ _ _ _ (d_v 2) (@aa _ _ _ _ _ (d_v 3) af rfl) rfl) rfl) rfl) rfl)) d_i))
  (ah (s_a 6 qX.nd (aL (az (qY T) (Br.hm hr) rfl T.ym T.tS.kp T.pZ (@aa _ _ _ _ _ (aL (d_v 0) d_i) (@aa _ _ _ _ _ (az (DO T) (Br.hm hr) rfl T.HB T.C2.kp T.yu (aa (aL (d_v 0) d_i) (aa (bq (d_v 4) d_i) af))) (@aa _ _ _ _ _ (d_v 1) (@aa _ _ _ _ _ (d_v 2) (@aa _ _ _ _ _ (d_v 3) af rfl) rfl) rfl) rfl) rfl)) d_i))
  (aj (s_r (eT (aa d_s (aa (d_v 4) (aa (d_v 5) (aa (d_v 6) af))))))))))))),bz (n:=4) (m:=3) rfl h⟩
theorem Lr :
  aO P' w K mg base CX0 6 nt ic ["net","j","place"] (spD sV):=by
 refine T.H_.ok wz (fun vs H Q E h=>aH h) (fun cdv A outer s H vs Q E hr h=>?_);exact ⟨_,(ah (E1 3 ["net","j","place","moments","found"] ["other"] wz.nd (c_n 5 GB rfl rfl) (kP rfl T.aZ (aa (d_v 2) af)) (fun _ _ _ _ _=>cB) (fun _ _ _ _ _=>(az (DU T) (Br.hm hr) rfl T.HF T.Df.kp T.yx (@aa _ _ _ _ _ (aL (d_v 0) d_i) (@aa _ _ _ _ _ (aL (d_v 0) d_i) (@aa _ _ _ _ _ (d_v 5) (@aa _ _ _ _ _ (d_v 2) (@aa _ _ _ _ _ (d_v 1) af rfl) rfl) rfl) rfl) rfl))))
  (ah (E1 4 ["net","j","place","moments","found"] ["other","moment"] wz.nd (c_t rfl (fun _ _ _ _ _=>(aU 5 yE (aU 6 yE fH)))) (MJ rfl T.kI (d_v 3)) (fun _ _ _ _ _=>lP (J1 (d_v 6) d_n)) (fun _ _ _ _ _=>(eT (aa (d_v 6) (aa (d_v 5) (aa (d_v 2) af))))))
  (aj (s_r (zh (A8 (jc rfl T.jy (aa (d_v 4) af)) d_i) (bX (aa (Kf hr rfl rfl T.tR (aa (d_v 4) af)) af)) (bX af)))))),bz (n:=3) (m:=2) rfl h⟩
theorem DV :
  aO P' w K mg base CX0 10 nu ie ["net","j"] (spD pM):=by
 refine T.Di.ok wA (fun vs H Q E h=>aH h) (fun cdv A outer s H vs Q E hr h=>?_);exact ⟨_,(ah (s_e (az (DP T) (Br.hm hr) rfl T.HC T.C6.kp T.yw (aa (d_v 0) (aa (d_v 1) af))))
  (ah (s_a 2 wA.nd (bX af))
  (ah (bY PassesOwn.never rfl (My rfl T.aZ (aa d_i (aa (aL (d_v 0) d_i) af))) (g_n 3 wA.nd)
  (aj (MT 2 (az (Lr T) (Br.hm hr) rfl T.NP T.H_.kp T.Dh (aa (d_v 0) (aa (d_v 1) (aa (d_v 3) af)))))))
  (aj (s_r (d_v 2)))))),bz (n:=2) (m:=2) rfl h⟩
theorem qZ :
  aO P' w K mg base CX0 2 nv ig ["n","some","a","b"] (spD kr):=by
 refine T.tT.ok DJ (fun vs H Q E h=>aH h) (fun cdv A outer s H vs Q E hr h=>?_);exact ⟨_,(ah (s_a 4 DJ.nd (az (Lk T) (Br.hm hr) rfl T.NH T.HS.kp T.Dj (aa (d_v 1) (aa (d_v 2) (aa (d_v 3) af)))))
  (aj (s_r (zh (Bx (d_v 4) d_n) d_n (Kc rfl rfl T.pY (aa (d_v 4) af)))))),bz (n:=4) (m:=1) rfl h⟩
theorem q_ :
  aO P' w K mg base CX0 1 nA ir ["script","k"] (spD ku):=by
 refine T.tU.ok eL (fun vs H Q E h=>aH h) (fun cdv A outer s H vs Q E hr h=>?_);exact ⟨_,(ah (s_a 2 eL.nd d_i)
  (ah (bC (Mw (d_v 1) (jc rfl T.jy (aa (d_v 0) af))) (aj (s_a 2 eL.nd (aL (d_v 0) (d_v 1)))) aQ)
  (ah (bC (Mx (d_v 2) (jb d_i d_i)) (aj (s_r (bX (aa (fG (d_v 2) (qE (qE (qE (qE (jb d_i d_i) (jb d_i d_i)) (jb d_i d_i)) (jb d_i d_i)) (jb d_i d_i))) af)))) aQ)
  (ah (s_a 3 eL.nd (fG (bq (bq (bq (d_v 2) (fF (fF d_i (d_v 1)) (d_v 1))) (fF d_i (d_v 1))) d_i) d_i))
  (ah (s_a 4 eL.nd d_i)
  (ah (bY PassesOwn.never rfl (kP rfl T.aZ (aa d_i af)) (g_n 5 eL.nd)
  (ah (s_a 3 eL.nd (fG (bq (bq (fF (d_v 3) d_i) (fF d_i (d_v 5))) d_i) d_i))
  (ah (s_a 3 eL.nd (fG (fF (d_v 3) (d_v 3)) d_i))
  (aj (s_a 4 eL.nd (bq (fF (d_v 4) d_i) (fG (bq (fF (d_v 3) d_i) (d_v 1)) d_i)))))))
  (aj (s_r (bX (aa (d_v 4) af)))))))))),bz (n:=2) (m:=4) rfl h⟩
theorem bB :
  aO P' w K mg base CX0 1 nB iu ["pool","many"] (spM bF):=by
 refine T.bR.ok DK (fun vs H Q E h=>dM h) (fun cdv A outer s H vs Q E hr h=>?_);exact ⟨_,(ah (s_a 2 DK.nd (fG (aL (d_v 0) d_i) (d_v 1)))
  (ah (G4 0 d_i (G1 (aL (d_v 0) d_i) (d_v 1)))
  (aj (s_r (d_v 2))))),lV (n:=2) (m:=1) rfl h⟩
theorem Ls :
  aO P' w K mg base CX0 2 nC iw ["pool"] (spM sW):=by
 refine T.Ia.ok K9 (fun vs H Q E h=>dM h) (fun cdv A outer s H vs Q E hr h=>?_);exact⟨_,(aj (s_r (aL (bX (@aa _ _ _ _ _ d_i (@aa _ _ _ _ _ d_i (@aa _ _ _ _ _ d_i (@aa _ _ _ _ _ d_i (@aa _ _ _ _ _ d_i (@aa _ _ _ _ _ d_i (@aa _ _ _ _ _ d_i (@aa _ _ _ _ _ d_i af rfl) rfl) rfl) rfl) rfl) rfl) rfl) rfl)) (aN (bB T) (Br.hm hr) rfl T.b4 T.bR.kp T.bO (aa (d_v 0) (aa d_i af)))))),lV (n:=1) (m:=0) rfl h⟩
theorem Lu :
  aO P' w K mg base CX0 2 nD iA ["pool","n","most"] (spM pN):=by
 refine T.Ib.ok cu (fun vs H Q E h=>dM h) (fun cdv A outer s H vs Q E hr h=>?_);exact ⟨_,(ah (s_a 3 cu.nd (aN (bB T) (Br.hm hr) rfl T.b4 T.bR.kp T.bO (aa (d_v 0) (aa (bq (d_v 2) d_i) af))))
  (ah (s_a 4 cu.nd (aN (bB T) (Br.hm hr) rfl T.b4 T.bR.kp T.bO (aa (d_v 0) (aa d_i af))))
  (ah (s_a 5 cu.nd (aL (bX (aa d_i (aa d_i (aa (jb d_i d_i) (aa d_i af))))) (d_v 4)))
  (ah (s_a 6 cu.nd (aL (bX (aa d_i (aa (jb d_i d_i) af))) (G5 rfl T.yl (aa (OU hr (d_v 4) d_i) af))))
  (ah (s_a 7 cu.nd (aN (bB T) (Br.hm hr) rfl T.b4 T.bR.kp T.bO (aa (d_v 0) (aa d_i af))))
  (ah (s_a 8 cu.nd (fF (aN (bB T) (Br.hm hr) rfl T.b4 T.bR.kp T.bO (aa (d_v 0) (aa (d_v 5) af))) (d_v 6)))
  (ah (s_a 9 cu.nd (bX af))
  (ah (bY PassesOwn.never rfl (kP rfl T.aZ (aa (d_v 3) af)) (g_n 10 cu.nd)
  (ah (s_a 11 cu.nd (aN (bB T) (Br.hm hr) rfl T.b4 T.bR.kp T.bO (aa (d_v 0) (aa (d_v 1) af))))
  (ah (s_a 12 cu.nd (aN (bB T) (Br.hm hr) rfl T.b4 T.bR.kp T.bO (aa (d_v 0) (aa (d_v 1) af))))
  (ah (bC (kO hr (d_v 7) d_i) (aj (s_a 12 cu.nd (fG (bq (d_v 11) d_i) (d_v 1)))) aQ)
  (ah (bC (kO hr (d_v 7) d_i) (aj (s_a 12 cu.nd (fG (fG (bq (bq (d_v 11) (fG (d_v 12) d_i)) d_i) (lK rfl rfl T.pY (aa (d_v 1) (aa d_i af)))) (d_v 1)))) aQ)
  (ah (lO 9 (eT (aa (d_v 8) (aa (lK rfl rfl T.pY (aa (d_v 11) (aa (d_v 12) af))) (aa (qp rfl rfl T.tR (aa (d_v 11) (aa (d_v 12) af))) af)))))
  (aj (s_a 8 cu.nd (bq (bq (d_v 8) d_i) (fF (aN (bB T) (Br.hm hr) rfl T.b4 T.bR.kp T.bO (aa (d_v 0) (aa (d_v 5) af))) (d_v 6)))))))))))
  (aj (s_r (d_v 9))))))))))),lV (n:=3) (m:=10) rfl h⟩
theorem Lv :
  aO P' w K mg base CX0 1 nE iB ["thing"] (spD Hw):=by
 refine T.Ic.ok K_ (fun vs H Q E h=>aH h) (fun cdv A outer s H vs Q E hr h=>?_);exact⟨_,(aj (s_r (j9 (jd xw (by rfl) rfl T.yl rfl T.aY (d_v 0)) (o7 (G3 (jd rY (by rfl) rfl T.CU rfl T.aY (d_v 0))))))),bz (n:=1) (m:=0) rfl h⟩
theorem Lw :
  aO P' w K mg base CX0 2 nF iC ["thing"] (spD x9):=by
 refine T.Ie.ok La (fun vs H Q E h=>aH h) (fun cdv A outer s H vs Q E hr h=>?_);exact⟨_,(aj (s_r (Bb rfl rfl T.CT (aa (jh 0 ["thing"] ["part"] (c_n 1 GC rfl rfl) (d_v 0) (fun _ _ _ _ _=>cB) (fun _ _ _ _ _=>(az (Lv T) (Br.hm hr) rfl T.NT T.Ic.kp T.Dl (aa (d_v 1) af)))) af)))),bz (n:=1) (m:=0) rfl h⟩
theorem Lx :
  aO P' w K mg base CX0 1 nG iD ["n","found"] (spD x_):=by
 refine T.Ig.ok fW (fun vs H Q E h=>aH h) (fun cdv A outer s H vs Q E hr h=>?_);exact ⟨_,(ah (s_a 2 fW.nd (qt rfl rfl T.dJ rfl T.aZ (aa (d_v 0) af)))
  (ah (bY PassesOwn.never rfl (i_S (d_v 1)) (g_t rfl (aU 3 fW.nd (aU 4 fW.nd (aU 5 fW.nd fH))))
  (ah (s_a 6 fW.nd (aL (d_v 2) (d_v 4)))
  (ah (s_a 7 fW.nd (aL (d_v 2) (d_v 5)))
  (ah (bC (kO hr (d_v 6) (d_v 7)) (aj (s_r d_b)) aQ)
  (aj (Bp 2 2 ["n","found","names","moment","a","b","one","other"] ["name"] fW.nd (c_n 8 GD rfl rfl) (d_v 2) (fun _ _ _ _ _=>cB) (fun _ _ _ _ _=>(zh (kO hr (d_v 8) (d_v 7)) (d_v 6) (d_v 8)))))))))
  (aj (s_r d_b)))),bz (n:=2) (m:=6) rfl h⟩
theorem DX :
  aO P' w K mg base CX0 1 nH iE ["n","found","a","b"] (spD pO):=by
 refine T.Dq.ok jY (fun vs H Q E h=>aH h) (fun cdv A outer s H vs Q E hr h=>?_);exact ⟨_,(ah (s_a 4 jY.nd (qt rfl rfl T.dJ rfl T.aZ (aa (d_v 0) af)))
  (ah (bY PassesOwn.never rfl (i_S (G6 (sG rfl T.n6 (aa (d_v 1) af)))) (g_n 5 jY.nd)
  (ah (s_a 6 jY.nd (aL (d_v 4) (aL (d_v 5) d_i)))
  (ah (s_a 7 jY.nd (aL (d_v 4) (aL (d_v 5) d_i)))
  (ah (Bp 4 4 ["n","found","a","b","names","link","one","other"] ["name"] jY.nd (c_n 8 GF rfl rfl) (d_v 4) (fun _ _ _ _ _=>cB) (fun _ _ _ _ _=>(zh (kO hr (d_v 8) (d_v 7)) (d_v 6) (d_v 8))))
  (aj (bC (kO hr (aL (d_v 4) (d_v 2)) (aL (d_v 4) (d_v 3))) (aj (s_r (aL (d_v 5) d_i))) aQ))))))
  (aj (s_r d_n)))),bz (n:=4) (m:=4) rfl h⟩
theorem Ly :
  aO P' w K mg base CX0 3 nI iF ["n","found"] (spD ya):=by
 refine T.Ih.ok DL (fun vs H Q E h=>aH h) (fun cdv A outer s H vs Q E hr h=>?_);exact ⟨_,(ah (bC (b8 (b9 (jd rZ (by rfl) rfl T.dJ rfl T.aY (d_v 1)))) (aj (s_r d_b)) aQ)
  (ah (bY PassesOwn.never rfl (i_S (d_v 1)) (g_n 2 DL.nd)
  (ah (bC (t_w (w_or (b8 (b9 (jd kit_tuple (by rfl) rfl T.k9 rfl T.aY (d_v 2)))) (w_or (gg hr (jc rfl T.jy (aa (d_v 2) af)) d_i) (lM (b8 (b9 (az (Lw T) (Br.hm hr) rfl T.NU T.Ie.kp T.Dr (aa (d_v 2) af)))))))) (aj (s_r d_b)) aQ)
  (aj (bC (b8 (M9 wM xr wL xq wL xq d_i (aL (d_v 2) d_i) (aL (d_v 2) d_i) (d_v 0))) (aj (s_r d_b)) aQ))))
  (aj (s_r (az (Lx T) (Br.hm hr) rfl T.NV T.Ig.kp T.Dt (aa (d_v 0) (aa (d_v 1) af))))))),bz (n:=2) (m:=1) rfl h⟩
theorem Lz :
  aO P' w K mg base CX0 11 nJ iG ["n","net","j","found"] (spD yb):=by
 refine T.Ii.ok jZ (fun vs H Q E h=>aH h) (fun cdv A outer s H vs Q E hr h=>?_);exact ⟨_,(ah (bY PassesOwn.never rfl (kP rfl T.aZ (aa (d_v 0) af)) (g_n 4 jZ.nd)
  (aj (bY PassesOwn.never rfl (kP rfl T.aZ (aa (d_v 0) af)) (g_n 5 jZ.nd)
  (aj (bC (gg hr (d_v 4) (d_v 5)) (ah (s_a 6 jZ.nd (az (Lq T) (Br.hm hr) rfl T.NO T.HZ.kp T.Du (aa (d_v 1) (aa (d_v 4) (aa (d_v 5) (aa (d_v 2) af))))))
  (ah (s_a 7 jZ.nd d_n)
  (ah (bC (kO hr (aL (d_v 6) d_i) d_s) (aj (s_a 7 jZ.nd (aL (d_v 6) d_i))) aQ)
  (ah (bC (gg hr (az (qZ T) (Br.hm hr) rfl T.yo T.tT.kp T.p5 (aa (d_v 0) (aa (qq rfl T.dJ (aa (d_v 3) af)) (aa (d_v 4) (aa (d_v 5) af))))) (d_v 7)) (aj (s_r d_b)) aQ)
  (ah (bC (gg hr (az (DX T) (Br.hm hr) rfl T.HH T.Dq.kp T.yz (aa (d_v 0) (aa (d_v 3) (aa (d_v 4) (aa (d_v 5) af))))) (d_v 7)) (aj (s_r d_b)) aQ)
  (ah (bC (gg hr (az (qZ T) (Br.hm hr) rfl T.yo T.tT.kp T.p5 (aa (d_v 0) (aa (G6 (d_v 3)) (aa (d_v 4) (aa (d_v 5) af))))) (d_v 7)) (aj (s_r d_b)) aQ)
  (aj (bC (gg hr (az (qZ T) (Br.hm hr) rfl T.yo T.tT.kp T.p5 (aa (d_v 0) (aa (sG rfl T.n6 (aa (d_v 3) af)) (aa (d_v 5) (aa (d_v 4) af))))) (d_v 7)) (aj (s_r d_b)) aQ)))))))) aQ)))))
  (aj (s_r d_b))),bz (n:=4) (m:=4) rfl h⟩
theorem LA :
  aO P' w K mg base CX0 2 nK iH ["pool","n","many"] (spM sX):=by
 refine T.Ij.ok iM (fun vs H Q E h=>dM h) (fun cdv A outer s H vs Q E hr h=>?_);exact ⟨_,(ah (s_a 3 iM.nd (bX af))
  (ah (s_a 4 iM.nd (aN (bB T) (Br.hm hr) rfl T.b4 T.bR.kp T.bO (aa (d_v 0) (aa d_i af))))
  (ah (bY PassesOwn.never rfl (kP rfl T.aZ (aa (d_v 2) af)) (g_n 5 iM.nd)
  (ah (s_a 6 iM.nd (aN (bB T) (Br.hm hr) rfl T.b4 T.bR.kp T.bO (aa (d_v 0) (aa (d_v 1) af))))
  (ah (s_a 7 iM.nd (fG (bq (bq (d_v 6) d_i) (aN (bB T) (Br.hm hr) rfl T.b4 T.bR.kp T.bO (aa (d_v 0) (aa (lI (d_v 1) d_i) af)))) (d_v 1)))
  (ah (lO 3 (eT (aa (d_v 4) (aa (lK rfl rfl T.pY (aa (d_v 6) (aa (d_v 7) af))) (aa (qp rfl rfl T.tR (aa (d_v 6) (aa (d_v 7) af))) af)))))
  (aj (s_a 4 iM.nd (bq (bq (d_v 4) d_i) (aN (bB T) (Br.hm hr) rfl T.b4 T.bR.kp T.bO (aa (d_v 0) (aa d_i af))))))))))
  (aj (s_r (d_v 3)))))),lV (n:=3) (m:=5) rfl h⟩
theorem LB :
  aO P' w K mg base CX0 2 nM iI ["pool","n"] (spM sY):=by
 refine T.Ik.ok eN (fun vs H Q E h=>dM h) (fun cdv A outer s H vs Q E hr h=>?_);exact ⟨_,(ah (s_a 2 eN.nd (qt rfl rfl T.dJ rfl T.aZ (aa (d_v 1) af)))
  (ah (s_a 3 eN.nd (bX af))
  (ah (bY PassesOwn.never rfl (kP rfl T.aZ (aa (aN (bB T) (Br.hm hr) rfl T.b4 T.bR.kp T.bO (aa (d_v 0) (aa (fF d_i (d_v 1)) af))) af)) (g_n 4 eN.nd)
  (ah (s_a 5 eN.nd (aN (bB T) (Br.hm hr) rfl T.b4 T.bR.kp T.bO (aa (d_v 0) (aa (d_v 1) af))))
  (ah (s_a 6 eN.nd (aN (bB T) (Br.hm hr) rfl T.b4 T.bR.kp T.bO (aa (d_v 0) (aa (d_v 1) af))))
  (aj (bC (gg hr (aL (d_v 2) (d_v 5)) (aL (d_v 2) (d_v 6))) (ah (lO 3 (eT (aa (aN (bB T) (Br.hm hr) rfl T.b4 T.bR.kp T.bO (aa (d_v 0) (aa d_i af))) (aa (lK rfl rfl T.pY (aa (d_v 5) (aa (d_v 6) af))) (aa (qp rfl rfl T.tR (aa (d_v 5) (aa (d_v 6) af))) af)))))
  (ah (s_a 7 eN.nd (aL (d_v 2) (d_v 5)))
  (ah (s_a 8 eN.nd (aL (d_v 2) (d_v 6)))
  (aj (Bp 2 2 ["pool","n","names","found","turn","a","b","one","other"] ["name"] eN.nd (c_n 9 GG rfl rfl) (d_v 2) (fun _ _ _ _ _=>cB) (fun _ _ _ _ _=>(zh (kO hr (d_v 9) (d_v 8)) (d_v 7) (d_v 9)))))))) aQ)))))
  (aj (s_r (d_v 3)))))),lV (n:=2) (m:=7) rfl h⟩
theorem LC :
  aO P' w K mg base CX0 3 nN iJ ["pool","n"] (spM sZ):=by
 refine T.Il.ok oh (fun vs H Q E h=>dM h) (fun cdv A outer s H vs Q E hr h=>?_);exact ⟨_,(ah (s_a 2 oh.nd (aN (LB T) (Br.hm hr) rfl T.NZ T.Ik.kp T.Dv (aa (d_v 0) (aa (d_v 1) af))))
  (ah (bY PassesOwn.never rfl (kP rfl T.aZ (aa (d_v 1) af)) (g_n 3 oh.nd)
  (aj (bY PassesOwn.never rfl (kP rfl T.aZ (aa (d_v 1) af)) (g_n 4 oh.nd)
  (aj (bC (gg hr (d_v 3) (d_v 4)) (ah (s_a 5 oh.nd (az (DX T) (Br.hm hr) rfl T.HH T.Dq.kp T.yz (aa (d_v 1) (aa (d_v 2) (aa (d_v 3) (aa (d_v 4) af))))))
  (aj (bC (gg hr (az (qZ T) (Br.hm hr) rfl T.yo T.tT.kp T.p5 (aa (d_v 1) (aa (qq rfl T.dJ (aa (d_v 2) af)) (aa (d_v 3) (aa (d_v 4) af))))) (d_v 5)) (aj (s_r d_b)) aQ))) aQ)))))
  (aj (s_r d_b)))),lV (n:=2) (m:=4) rfl h⟩
theorem LD :
  aO P' w K mg base CX0 12 nP jV ["script"] (spD mq):=by
 refine T.N9.ok bU (fun vs H Q E h=>aH h) (fun cdv A outer s H vs Q E hr h=>?_);exact ⟨_,(ah (bY PassesOwn.never rfl (Pa rfl T.aZ (aa d_i (aa (qp rfl rfl T.tR (aa d_i (aa (lK rfl rfl T.pY (aa (jc rfl T.jy (aa (d_v 0) af)) (aa d_i af))) af))) (aa d_i af)))) (g_n 1 bU.nd)
  (ah (s_a 2 bU.nd (az (q_ T) (Br.hm hr) rfl T.yp T.tU.kp T.p6 (aa (d_v 0) (aa (d_v 1) af))))
  (ah (s_a 3 bU.nd (aN (Ls T) (Br.hm hr) rfl T.NQ T.Ia.kp T.Dy (aa (d_v 2) af)))
  (ah (s_a 4 bU.nd (bq d_i (aN (bB T) (Br.hm hr) rfl T.b4 T.bR.kp T.bO (aa (d_v 2) (aa d_i af)))))
  (ah (s_a 5 bU.nd (xN (Lu T) (Br.hm hr) rfl T.NR T.Ib.kp T.Dz (aa (az (q_ T) (Br.hm hr) rfl T.yp T.tU.kp T.p6 (aa (d_v 0) (aa (bq (d_v 1) d_i) af))) (aa (d_v 3) (aa (aL (bX (aa d_i (aa d_i af))) (G5 rfl T.yl (aa (OY (d_v 3) d_i) af))) af)))))
  (ah (bC (t_w (w_and (kO hr (d_v 1) d_i) (vg (kO hr (aN (bB T) (Br.hm hr) rfl T.b4 T.bR.kp T.bO (aa (d_v 2) (aa d_i af))) d_i)))) (ah (s_a 3 bU.nd d_i)
  (ah (s_a 4 bU.nd d_i)
  (aj (s_a 5 bU.nd (xN (LA T) (Br.hm hr) rfl T.NY T.Ij.kp T.DF (aa (az (q_ T) (Br.hm hr) rfl T.yp T.tU.kp T.p6 (aa (d_v 0) (aa (bq (d_v 1) d_i) af))) (aa d_i (aa (bq d_i (aN (bB T) (Br.hm hr) rfl T.b4 T.bR.kp T.bO (aa (d_v 2) (aa d_i af)))) af)))))))) aQ)
  (ah (s_a 6 bU.nd (bq d_i (aN (bB T) (Br.hm hr) rfl T.b4 T.bR.kp T.bO (aa (d_v 2) (aa (d_v 4) af)))))
  (ah (s_a 7 bU.nd (az (Lj T) (Br.hm hr) rfl T.NG T.HR.kp T.Dw (aa (d_v 3) (aa (d_v 5) (aa (d_v 4) af)))))
  (ah (s_a 8 bU.nd (qq rfl T.dJ (aa (aL (d_v 7) d_i) af)))
  (ah (s_a 9 bU.nd (az (DV T) (Br.hm hr) rfl T.HG T.Di.kp T.yC (aa (d_v 7) (aa (d_v 6) af))))
  (ah (bC (t_w (w_or (b8 (b9 (az (Ly T) (Br.hm hr) rfl T.NW T.Ih.kp T.DB (aa (d_v 3) (aa (d_v 9) af))))) (lM (b8 (b9 (az (Lz T) (Br.hm hr) rfl T.NX T.Ii.kp T.DC (aa (d_v 3) (aa (d_v 7) (aa (d_v 6) (aa (d_v 9) af)))))))))) (aj (s_r d_b)) aQ)
  (ah (s_a 10 bU.nd (qq rfl T.dJ (aa (d_v 9) af)))
  (ah (MU 9)
  (ah (bC (t_w (w_or (gg hr (az (DV T) (Br.hm hr) rfl T.HG T.Di.kp T.yC (aa (d_v 7) (aa (d_v 6) af))) (d_v 10)) (lM (gg hr (d_v 7) (eT (aa (d_v 3) (aa (d_v 4) (aa (d_v 8) af)))))))) (aj (s_r d_b)) aQ)
  (ah (s_a 2 bU.nd (az (q_ T) (Br.hm hr) rfl T.yp T.tU.kp T.p6 (aa (d_v 0) (aa (bq (d_v 1) d_i) af))))
  (aj (bC (b8 (b9 (aN (LC T) (Br.hm hr) rfl T.N1 T.Il.kp T.DG (aa (d_v 2) (aa (d_v 3) af))))) (aj (s_r d_b)) aQ)))))))))))))))))
  (aj (s_r d_b))),bz (n:=1) (m:=10) rfl h⟩
end
theorem all_mk{l:PySem.W.OpenLaw}{w:World}{K:PySem.W.Frag}{h:Heap}{mg:Str->Option Value}{fa vZ v5 v7 v8 v9 v_ wc we wg wj mO mP mQ mR mS mT mU mV mW mX mY mZ m5 m6 m7 m8 m9 nc ng nh nk nq nt nu nv nA nB nC nD nE nF nG nH nI nJ nK nM nN nP:Addr}{nQ nR nS nT nU nV nW nX nY nZ gG gH gI gJ gK gM gO gP gQ gR gS gT gU gW gX gY gZ g6 g8 g9 g_ h_ ic ie ig ir iu iw iA iB iC iD iE iF iG iH iI iJ jV:FuncData}(X:K.In h)(G:h.Ns mainGlobals mg)(hfa:mg "law" = some (.ref fa))
  {jz:Tok}
  (DY:aR K "is_whole" (top 6) vZ nQ)
  (DZ:aR K "is_within" (top 7) v5 nR)
  (D0:aR K "is_places" (top 8) v7 nS)
  (D3:aR K "is_place" (top 9) v8 nT)
  (D4:aR K "is_layers" (top 10) v9 nU)
  (D5:aR K "is_moment" (top 11) v_ nV)
  (D6:aR K "is_tie_either_way" (top 12) wc nW)
  (D7:aR K "is_tie" (top 13) we nX)
  (D8:aR K "is_rising" (top 14) wg nY)
  (D9:aR K "is_pair" (top 15) wj nZ)
  (tY:aR K "look_at_layers" (top 16) mO gG)
  (tZ:aR K "look_at_pair" (top 17) mP gH)
  (t7:aR K "merged" (top 19) mQ gI)
  (t8:aR K "least_layer" (top 22) mR gJ)
  (t9:aR K "layered" (top 21) mS gK)
  (t_:aR K "is_record" (top 25) mT gM)
  (ua:aR K "since" (top 26) mU gO)
  (uc:aR K "is_net" (top 28) mV gP)
  (ud:aR K "look_at_net" (top 29) mW gQ)
  (uf:aR K "look_at_net_layers" (top 30) mX gR)
  (ug:aR K "net_of" (top 31) mY gS)
  (uh:aR K "forest_way" (top 33) mZ gT)
  (um:aR K "steps_of" (top 37) m5 gU)
  (uo:aR K "free_steps" (top 38) m6 gW)
  (uq:aR K "led_steps" (top 39) m7 gX)
  (ur:aR K "shortest_ways" (top 40) m8 gY)
  (uu:aR K "lead_along" (top 41) m9 gZ)
  (uv:aR K "parted" (top 42) nc g6)
  (uw:aR K "ways_apart" (top 35) ng g8)
  (ux:aR K "hang_often" (top 36) nh g9)
  (uy:aR K "latest" (top 45) nk g_)
  (uz:aR K "when" (top 44) nq h_)
  (uA:aR K "youngest_link" (top 48) nt ic)
  (uB:aR K "links" (top 47) nu ie)
  (uC:aR K "least_link" (top 49) nv ig)
  (uD:aR K "_law_pool" (top 51) nA ir)
  (uE:aR K "_law_take" (top 52) nB iu)
  (uF:aR K "_law_many" (top 53) nC iw)
  (uG:aR K "_law_record" (top 54) nD iA)
  (uH:aR K "_law_whole" (top 57) nE iB)
  (uI:aR K "_law_wholes" (top 58) nF iC)
  (uJ:aR K "_law_closes_none" (top 63) nG iD)
  (uK:aR K "_law_least" (top 64) nH iE)
  (uL:aR K "_law_are_links" (top 65) nI iF)
  (uM:aR K "_law_tell" (top 66) nJ iG)
  (uN:aR K "_law_thick" (top 67) nK iH)
  (uO:aR K "_law_drawn_links" (top 68) nM iI)
  (uP:aR K "_law_any_links" (top 69) nN iJ)
  (p7:aR K "law" (top 70) nP jV)
  (D_:PySem.W.nsIn K mainGlobals "all" = some none)
  (wB:PySem.W.nsIn K mainGlobals "bool" = some none)
  (wC:PySem.W.nsIn K mainGlobals "dict" = some none)
  (fX:PySem.W.nsIn K mainGlobals "enumerate" = some none)
  (Ea:PySem.W.nsIn K mainGlobals "int" = some none)
  (eO:PySem.W.nsIn K mainGlobals "isinstance" = some none)
  (Eb:PySem.W.nsIn K mainGlobals "len" = some none)
  (wD:PySem.W.nsIn K mainGlobals "list" = some none)
  (Ec:PySem.W.nsIn K mainGlobals "max" = some none)
  (Ed:PySem.W.nsIn K mainGlobals "min" = some none)
  (rj:PySem.W.nsIn K mainGlobals "range" = some none)
  (iN:PySem.W.nsIn K mainGlobals "reversed" = some none)
  (oq:PySem.W.nsIn K mainGlobals "sorted" = some none)
  (rm:PySem.W.nsIn K mainGlobals "tuple" = some none)
  (Ef:PySem.W.nsIn K mainGlobals "zip" = some none)
  (fY:PySem.W.nsIn K mainGlobals "MOST_TIES" = some (some (.int 60 jz))) :
  ∃fd:FuncData,(∀(s:Shared) (v:Value),BindsTo s fd ⟨[v],[]⟩ [("script",v)])/\∀base:Heap,K.In base->base.Ns mainGlobals mg->aO l.prog w K mg base CX0 12 fa fd ["script"] (spD mq):=by
 have e:=hfa.symm.trans (p7.m X G);cases e;have KA:=DY.F.dD (ps:=["thing"]) rfl fun _ _ _ _ _ _ _=>rfl
 have wk:=DZ.F.dF (ps:=["thing","low","high"]) rfl fun _ _ _ _ _ _ _ _ _=>rfl
 have KI:=D0.F.dD (ps:=["thing"]) rfl fun _ _ _ _ _ _ _=>rfl
 have z7:=D3.F.bH (ps:=["n","thing"]) rfl fun _ _ _ _ _ _ _ _=>rfl
 have Gn:=D4.F.dD (ps:=["thing"]) rfl fun _ _ _ _ _ _ _=>rfl
 have KD:=D5.F.dD (ps:=["thing"]) rfl fun _ _ _ _ _ _ _=>rfl
 have KG:=D6.F.bH (ps:=["n","thing"]) rfl fun _ _ _ _ _ _ _ _=>rfl
 have KJ:=D7.F.bH (ps:=["n","thing"]) rfl fun _ _ _ _ _ _ _ _=>rfl
 have KN:=D8.F.dD (ps:=["things"]) rfl fun _ _ _ _ _ _ _=>rfl
 have KH:=D9.F.dF (ps:=["n","a","b"]) rfl fun _ _ _ _ _ _ _ _ _=>rfl
 have CY:=tY.F.dD (ps:=["k"]) rfl fun _ _ _ _ _ _ _=>rfl
 have Dg:=tZ.F.dF (ps:=["n","a","b"]) rfl fun _ _ _ _ _ _ _ _ _=>rfl
 have CZ:=t7.F.dF (ps:=["groups","a","b"]) rfl fun _ _ _ _ _ _ _ _ _=>rfl
 have C0:=t8.F.dF (ps:=["layers","a","b"]) rfl fun _ _ _ _ _ _ _ _ _=>rfl
 have yq:=t9.F.dF (ps:=["n","record","k"]) rfl fun _ _ _ _ _ _ _ _ _=>rfl
 have C3:=t_.F.bH (ps:=["n","thing"]) rfl fun _ _ _ _ _ _ _ _=>rfl
 have yu:=ua.F.bH (ps:=["record","t"]) rfl fun _ _ _ _ _ _ _ _=>rfl
 have C4:=uc.F.dD (ps:=["thing"]) rfl fun _ _ _ _ _ _ _=>rfl
 have C5:=ud.F.dD (ps:=["thing"]) rfl fun _ _ _ _ _ _ _=>rfl
 have yw:=uf.F.bH (ps:=["net","j"]) rfl fun _ _ _ _ _ _ _ _=>rfl
 have Dw:=ug.F.dF (ps:=["n","record","k"]) rfl fun _ _ _ _ _ _ _ _ _=>rfl
 have Dj:=uh.F.dF (ps:=["ties","a","b"]) rfl fun _ _ _ _ _ _ _ _ _=>rfl
 have C9:=um.F.bH (ps:=["n","ties"]) rfl fun _ _ _ _ _ _ _ _=>rfl
 have C_:=uo.F.bH (ps:=["steps","heads"]) rfl fun _ _ _ _ _ _ _ _=>rfl
 have C8:=uq.F.bH (ps:=["steps","heads"]) rfl fun _ _ _ _ _ _ _ _=>rfl
 have yr:=ur.F.bH (ps:=["steps","a"]) rfl fun _ _ _ _ _ _ _ _=>rfl
 have Dc:=uu.F.bH (ps:=["heads","way"]) rfl fun _ _ _ _ _ _ _ _=>rfl
 have Dd:=uv.F.qG (ps:=["steps","heads","a","b","count"]) rfl fun _ _ _ _ _ _ _ _ _ _ _=>rfl
 have pZ:=uw.F.qG (ps:=["n","ties","a","b","most"]) rfl fun _ _ _ _ _ _ _ _ _ _ _=>rfl
 have yt:=ux.F.qG (ps:=["n","ties","a","b","times"]) rfl fun _ _ _ _ _ _ _ _ _ _ _=>rfl
 have yx:=uy.F.qG (ps:=["n","ties","a","b","j"]) rfl fun _ _ _ _ _ _ _ _ _ _ _=>rfl
 have Du:=uz.F.qF (ps:=["net","a","b","j"]) rfl fun _ _ _ _ _ _ _ _ _ _=>rfl
 have Dh:=uA.F.dF (ps:=["net","j","place"]) rfl fun _ _ _ _ _ _ _ _ _=>rfl
 have yC:=uB.F.bH (ps:=["net","j"]) rfl fun _ _ _ _ _ _ _ _=>rfl
 have p5:=uC.F.qF (ps:=["n","some","a","b"]) rfl fun _ _ _ _ _ _ _ _ _ _=>rfl
 have p6:=uD.F.bH (ps:=["script","k"]) rfl fun _ _ _ _ _ _ _ _=>rfl
 have bO:=uE.F.bH (ps:=["pool","many"]) rfl fun _ _ _ _ _ _ _ _=>rfl
 have Dy:=uF.F.dD (ps:=["pool"]) rfl fun _ _ _ _ _ _ _=>rfl
 have Dz:=uG.F.dF (ps:=["pool","n","most"]) rfl fun _ _ _ _ _ _ _ _ _=>rfl
 have Dl:=uH.F.dD (ps:=["thing"]) rfl fun _ _ _ _ _ _ _=>rfl
 have Dr:=uI.F.dD (ps:=["thing"]) rfl fun _ _ _ _ _ _ _=>rfl
 have Dt:=uJ.F.bH (ps:=["n","found"]) rfl fun _ _ _ _ _ _ _ _=>rfl
 have yz:=uK.F.qF (ps:=["n","found","a","b"]) rfl fun _ _ _ _ _ _ _ _ _ _=>rfl
 have DB:=uL.F.bH (ps:=["n","found"]) rfl fun _ _ _ _ _ _ _ _=>rfl
 have DC:=uM.F.qF (ps:=["n","net","j","found"]) rfl fun _ _ _ _ _ _ _ _ _ _=>rfl
 have DF:=uN.F.dF (ps:=["pool","n","many"]) rfl fun _ _ _ _ _ _ _ _ _=>rfl
 have Dv:=uO.F.bH (ps:=["pool","n"]) rfl fun _ _ _ _ _ _ _ _=>rfl
 have DG:=uP.F.bH (ps:=["pool","n"]) rfl fun _ _ _ _ _ _ _ _=>rfl
 refine⟨_,fun s v=>p7.Pc (fun _ _ _ _ _ _ _=>rfl) s v,fun base Xb _=>?_⟩;have T:Txt mg K base _ _ _ _ _ _ _ _ _ _ _ _ _ _ _ _ _ _ _ _ _ _ _ _ _ _ _ _ _ _ _ _ _ _ _ _ _ _ _ _ _ _ _ _ _ _ _ _ _ _ _ _ _ _ _ _ _ _ _ _ _ _ _ _ _ _ _ _ _ _ _ _ _ _ _ _ _ _ _ _ _ _ _ _ _ _ _ _ _ _ _ _ _ _ _ _ _ _:=⟨mno X G D_,mno X G wB,mno X G wC,mno X G fX,mno X G Ea,mno X G eO,mno X G Eb,mno X G wD,mno X G Ec,mno X G Ed,mno X G rj,mno X G iN,mno X G oq,mno X G rm,mno X G Ef,⟨_,mgo X G fY⟩,DY.m X G,DZ.m X G,D0.m X G,D3.m X G,D4.m X G,D5.m X G,D6.m X G,D7.m X G,D8.m X G,D9.m X G,tY.m X G,tZ.m X G,t7.m X G,t8.m X G,t9.m X G,t_.m X G,ua.m X G,uc.m X G,ud.m X G,uf.m X G,ug.m X G,uh.m X G,um.m X G,uo.m X G,uq.m X G,ur.m X G,uu.m X G,uv.m X G,uw.m X G,ux.m X G,uy.m X G,uz.m X G,uA.m X G,uB.m X G,uC.m X G,uD.m X G,uE.m X G,uF.m X G,uG.m X G,uH.m X G,uI.m X G,uJ.m X G,uK.m X G,uL.m X G,uM.m X G,uN.m X G,uO.m X G,uP.m X G,p7.m X G,DY.F,KA,DZ.F,wk,D0.F,D3.F,D4.F,D5.F,z7,KD,D6.F,KG,D7.F,D8.F,D9.F,Gn,tY.F,KH,tZ.F,t7.F,t8.F,CY,CZ,C0,t9.F,KI,KJ,KN,t_.F,ua.F,yq,C3,uc.F,C4,ud.F,C5,uf.F,ug.F,uh.F,um.F,uo.F,uq.F,ur.F,uu.F,C8,yr,uv.F,C9,C_,Dc,Dd,uw.F,pZ,ux.F,yt,uy.F,Dg,yu,yw,yx,uz.F,uA.F,Dh,uB.F,Dj,uC.F,uD.F,uE.F,bO,uF.F,uG.F,uH.F,Dl,uI.F,uJ.F,uK.F,Dr,Dt,uL.F,Du,p5,yz,uM.F,uN.F,uO.F,Dv,uP.F,Dw,yC,p6,Dy,Dz,DB,DC,DF,DG,p7.F⟩
 exact LD T
theorem walk{l:PySem.W.OpenLaw}{q:Program}{loose:List Str}{XP:(Str->Option Value)->Heap->Prop}{YP:World->Heap->Prop}{d:DefRec}{K:Params->PySem.W.Frag}(hn:l.most=some 63)(hdf:d.params.defaults=[])
  (hY:∀(w:World) (h:Heap),YP w h->(K w.params).In h) (M:∀ns:List Int,ns.length<=63->mq [.lst (ns.map Dat.int)]=some (.val (.bl true))) (hK:∀w:World,Bc (K w.params)=true)
  (F:∀ (w:World) (mg:Str→Option Value) (fa:Addr) (h:Heap),(K w.params).In h→h.Ns mainGlobals mg→mg d.name=some (.ref fa) →
   ∃fd:FuncData,(∀(s:Shared) (u:Value),BindsTo s fd ⟨[u],[]⟩ [("script",u)])/\∀base:Heap,(K w.params).In base->base.Ns mainGlobals mg->aO l.prog w (K w.params) mg base CX0 12 fa fd ["script"] (spD mq)) :
  PySem.W.WalkO q loose XP YP l.row.toRowW d [] (fun f vs=>PySem.call f vs):=
 L2.Ex (n:=63) (k:=12) (x := "script") (CX:=fun _=>CX0) (sp:=fun _=>spD mq) hn (by decide) hdf ⟨rfl,by decide,by decide,rfl⟩ hY F
  (fun w H a ns hl hO hS=>JJ (M ns hl) (hK w) hS) fun _ _ _ _ _ z=>z
open PySem PySem.W PySem.W.X
theorem Eg{q:Program}{loose:List Str}{XP:(Str->Option Value)->Heap->Prop}{r:RowW}{d:DefRec}{kwd:List (Str×Expr)}{run:Value->List Value->Sem Value}{K:Params->Frag}{as:List Addr}{n t:Nat}(e:∀P,as=(K P).map (·.1))
  (W:WalkO q loose XP (fun w h=>(K w.params).In h) r d kwd run):WalkX q loose XP (obsZ as) (valZ K n t) r d kwd run:=
 fun w s₀ s₁ mg mb G y a o pm cd doc dV kV ho hd hcd hD hmg hg args vals as' L=>W w s₀ s₁ mg mb G (InK.keeps w _ _ (z_facts e y).2.1 L.keeps) a o pm cd doc dV kV ho hd hcd hD hmg hg args vals as'
end Q
noncomputable def PySem.W.Fast.tw9879077479889293942:PySem.Program:=PySem.Challenge.pw_sinceply_k36_links_told
theorem PySem.W.Fast.te9879077479889293942:PySem.Challenge.pw_sinceply_k36_links_told=PySem.W.Fast.tw9879077479889293942:=rfl
namespace PySem.W.Fast
def tw17688276226765418777:=0
def tw15084641913051119989:=0
def tw6703854076076492278:=0
def tw333920907525188401:=0
def tw11937927112165858190:=0
def tw15137653028147813184:=0
def tw4905442618389295461:=0
def tw7084873154600685137:=0
def tw18144010909974694788:=0
def tw3572901913373667851:=0
def tw14180624528166701046:=0
def tw1161529066370187408:=0
def tw15485990090791491690:=0
def tw17956970450931716098:=0
def tw3930349110309677945:=0
def tw493809829310780693:=0
def tw4080650274374163165:=0
def tw641996402185957609:=0
def tw3073995305935570771:=0
def tw1763229681536923483:=0
def tw10152710313149045951:=0
def tw16516971952073256116:=0
def tw421742572505331342:=0
def tw16794888369295427787:=0
def tw10892532469220798651:=0
def tw5395854627665691062:=0
def tw12758540082408830926:=0
def tw1739448669575712484:=0
def tw14311313376117359243:=0
def tw14324121542406016331:=0
def tw14697443131388352130:=0
def tw13934504313070408443:=0
def tw10627400326755853976:=0
def tw16282532248230437987:=0
def tw9333030274481297172:=0
def tw10434009114038812593:=0
def tw15267918859053761096:=0
def tw7799142933203767564:=0
def tw15501683803503999239:=0
def tw11271114981591094711:=0
def tw2895253998949340067:=0
def tw12189768673943459195:=0
def tw12703980918488220479:=0
def tw6330091047849081619:=0
def tw17653026839435243085:=0
def tw12548570405929535659:=0
def tw10014465297564039474:=0
def tw9121179526839864136:=0
def tw3501118804529835732:=0
def tw9470114886927670621:=0
def tw2201397806325451445:=0
def tw3795394115933421506:=0
def tw10309688926343883635:=0
def tw1169822791464518390:=0
def tw8260096803914018864:=0
def tw5536807256924099735:=0
def tw12473977805853147897:=0
def tw10570659052061949024:=0
def tw6276048457273751142:=0
def tw6459142207121995842:=0
def tw17239453925480280726:=0
def tw6569405824961544930:=0
def tw8026254789516301189:=0
def tw4813092369182892772:=0
def tw17026329457980605698:=0
def tw2083282368316036021:=0
def tw14455910111266617270:=0
def tw4479749009710658172:=0
def tw14923164524607176129:=0
def tw16370429645109015839:=0
def tw16433816390593743907:=0
def tw14753984260766179020:=0
def tw4594271178837200711:=0
def tw7234310723936044856:=0
def tw2024785514669787327:=0
def tw11923804596503924034:=0
def tw16768492163667382685:=0
def tw6457437954820545226:=0
def tw11857028667191225092:=0
def tw16274060260144381828:=0
def tw6829098451409583920:=0
def tw13887568940326250801:=0
def tw12220872090879813281:=0
def tw11344826013071133617:=0
def tw3250894449037746228:=0
def tw16834015062699749687:=0
def tw13338884170208938699:=0
def tw5049893692997933237:=0
def tw16337980588069827208:=0
def tw13922199205204048980:=0
def tw9890067849903933883:=0
def tw14929012528206661489:=0
def tw17528034522082684257:=0
def tw14252502209446489067:=0
def tw18399522538189901280:=0
def tw12889906959879483421:=0
def tw17951018982023655940:=0
def tw12538173512223833575:=0
def tw15626480335988028256:=0
def tw13088628751028301135:=0
def tw14714807785767488742:=0
def tw11966690331841031004:=0
def tw2946932807688381699:=0
def tw12819862001717515536:=0
def tw15151099512010633576:=0
def tw16102011897362967260:=0
def tw6557748960297999939:=0
def tw12647034492070062680:=0
def tw1512690777652473380:=0
def tw15187244399573008876:=0
def tw8632794677645421350:=0
def tw7302426084058308137:=0
def tw14542769905757584903:=0
def tw2699128421111321200:=0
def tw9282880746825138470:=0
def tw15171340591475908104:=0
def tw2224409734553280019:=0
def tw13829798107764437035:=0
def tw14441446648519920329:=0
def tw4442849899697560085:=0
def tw7369230176989924239:=0
def tw13529749855975483798:=0
def tw11411314313165262537:=0
def tw17098949025486133256:=0
def tw16606501181074879818:=0
def tw5533180214082221077:=0
def tw12293904113710295263:=0
def tw6099921819503282874:=0
def tw8189961548673848297:=0
def tw6468670956322439143:=0
def tw14600619488611282353:=0
def tw5300990293084689306:=0
def tw7601296536137299062:=0
def tw17933340136471295466:=0
def tw5342562758482346240:=0
def tw9878342174855837945:=0
def tw16198451905896590257:=0
def tw4396467503881572417:=0
def tw2606986582045522382:=0
def tw8357322079673850635:=0
def tw4804817437133756003:=0
def tw5064221648764457538:=0
def tw16593964874025678562:=0
def tw15144800450547480762:=0
def tw2591431341252664136:=0
def tw8138281028688790626:=0
def tw16006764706619786651:=0
def tw1477494845550154349:=0
def tw12059918683247746900:=0
def tw8494675770233497259:=0
def tw11312055490611596232:=0
def tw10217517575685970986:=0
def tw3277772278779719340:=0
def tw17944001530363020933:=0
def tw8817487538844121068:=0
def tw8044585901697521385:=0
def tw2570743255718585931:=0
def tw10055828241672722752:=0
def tw5212927293419849675:=0
def tw12696893981664745430:=0
def tw4161906309290328231:=0
def tw431831801068645006:=0
def tw14501290346166615562:=0
def tw3638104045115488793:=0
def tw1055431051285004007:=0
def tw14372288513454816297:=0
def tw5373410707191009784:=0
def tw3557474090230028649:=0
def tw2915543377424764716:=0
def tw9842488599450827855:=0
def tw12250503951906549744:=0
def tw4453162106266589765:=0
def tw6768534508662057966:=0
def tw10551155881223753730:=0
def tw11079647844172404982:=0
def tw14827937536064247417:=0
def tw6719051345906355706:=0
def tw10411378441185227048:=0
def tw1221360304375497207:=0
def tw10610790686146901947:=0
def tw4189656926316397440:=0
def tw6718942614984542350:=0
def tw13229245308170053313:=0
def tw9340219123172371394:=0
def tw8741129180075950127:=0
def tw11672015580171625464:=0
def tw1225590731611492174:=0
def tw7364763205479295458:=0
def tw5558131879776715288:=0
def tw3682525844371111274:=0
def tw5068182096034591067:=0
def tw4186082874365562735:=0
def tw4596669969570379669:=0
def tw13140991306804837636:=0
def tw15280824475337187402:=0
def tw15586916305178170390:=0
def tw14485909901874283737:=0
def tw3970253337605503685:=0
def tw6007939009128497645:=0
def tw6777490873410335169:=0
def tw193845309976535268:=0
def tw1118496596242901560:=0
def tw11156849633764122481:=0
def tw11344552544382279143:=0
def tw6694920844236776211:=0
def tw1936315890590328528:=0
def tw6408214099402060713:=0
def tw14020206398682845029:=0
def tw8501149071918007016:=0
def tw16861008614192345168:=0
def tw9730851195414108202:=0
def tw7090846706411695310:=0
def tw11375721464085154923:=0
def tw3037714230463783660:=0
def tw1057855437366523363:=0
def tw13500788765059118265:=0
def tw15407746781996004502:=0
def tw17997646134300143901:=0
def tw7736601647296076029:=0
def tw7721971118915887279:=0
def tw8604039630255082394:=0
def tw3167997082595029056:=0
def tw1387980602651276125:=0
def tw4456618373646353481:=0
def tw15550570020370077311:=0
def tw6449881180068409899:=0
def tw18078360349847340762:=0
def tw12500077450904082891:=0
def tw240230712282587871:=0
def tw3612138654153872820:=0
def tw8205119924161949025:=0
def tw10677834107263083343:=0
def tw5487672057046210016:=0
def tw7147553768223762246:=0
def tw14772670218911784056:=0
def tw1953279353752740521:=0
def tw11880407402446994908:=0
def tw9385495442926292583:=0
def tw1738855503234741981:=0
def tw13858101963011688250:=0
def tw4234251512455443791:=0
def tw231751751418534611:=0
def tw17978986817921148294:=0
def tw12080909219893230465:=0
def tw15257124316776967816:=0
def tw2634279070727052:=0
def tw16282939011347792224:=0
def tw14887419753581691704:=0
def tw5366924546099012936:=0
def tw4789236938109233301:=0
def tw631520713588710291:=0
def tw15072128915270897933:=0
def tw3715023142303506810:=0
def tw6711901585416143384:=0
def tw10854055983500319306:=0
def tw14303023210536123435:=0
def tw7629009077507979423:=0
def tw12836342497752715538:=0
def tw2391809057235546232:=0
def tw13761344380760859416:=0
def tw3481336629790642673:=0
def tw18057547760751632873:=0
def tw17865937520162334969:=0
def tw2012356997618974393:=0
def tw5993903417043514192:=0
def tw6692386002789561688:=0
def tw13809207090805777870:=0
def tw17078792452700372453:=0
def tw10713837796565750102:=0
def tw6903661314463998182:=0
def tw6856379974781659411:=0
def tw13952777743052379729:=0
def tw12824292488043352112:=0
def tw16753300865935900110:=0
def tw1605745513666676345:=0
def tw3905393191394883777:=0
def tw2918139603767982849:=0
def tw1482358747182729279:=0
def tw11031463613654716579:=0
def tw16630636608011109940:=0
def tw12804716618457392646:=0
def tw4597445942858845777:=0
def tw12602054314189453687:=0
def tw4827222622205480491:=0
def tw6467951230189648722:=0
def tw17940614799395203602:=0
def tw16603121897141816951:=0
def tw14123778334942754374:=0
def tw16254359109409611671:=0
def tw8798356612857418284:=0
def tw16237793311896073523:=0
def tw10644118594527139864:=0
def tw18300730307342630655:=0
def tw18391048767202483280:=0
def tw1172821543959270416:=0
def tw3473265276527441595:=0
def tw13497345901869449919:=0
def tw821163375549462059:=0
def tw11514715702407888849:=0
def tw17483113703364843876:=0
def tw11963779336809832990:=0
def tw6979264673449595479:=0
def tw2995119570172364317:=0
def tw1982760129772852068:=0
def tw5298001429238709152:=0
def tw458524181364807678:=0
def tw10592721051640190100:=0
def tw12933207698749457081:=0
def tw7764171143556523591:=0
def tw9356285472120847977:=0
def tw2857759435077491724:=0
def tw8813633581399527927:=0
def tw4701112917323640291:=0
def tw5944495683729723071:=0
def tw1051937375174885718:=0
def tw5551952645612154424:=0
def tw15326621746171162012:=0
def tw16419383776011680859:=0
def tw5143036672349236256:=0
def tw4025060096828834894:=0
def tw12911586432310619914:=0
def tw8022588807790793905:=0
def tw4821066303881892994:=0
def tw14059566443261101222:=0
def tw9556073080995199480:=0
def tw2712612299594707157:=0
def tw17447051175604480097:=0
def tw12872262785035582672:=0
def tw15129220281006804861:=0
def tw11091952497653333744:=0
def tw2081173492681478560:=0
def tw14214271714280790552:=0
def tw11895448662747374712:=0
def tw8928226027857105592:=0
def tw15772301501791346728:=0
def tw3162808732238196127:=0
def tw481875428610127252:=0
def tw3037246754006627959:=0
def tw6210657486527434185:=0
def tw9922647811594884394:=0
def tw16477404138989459652:=0
def tw16566407226798324083:=0
def tw13534117178869132395:=0
def tw8909335549355852767:=0
def tw13509019126801215992:=0
def tw12590883797602536469:=0
def tw6421238860159237796:=0
def tw13342915394628278508:=0
def tw12412776714390257240:=0
def tw16134115608577134977:=0
def tw11993632781706750969:=0
def tw13360013150401135179:=0
def tw11363418610414970941:=0
def tw12069760967758543919:=0
def tw1308164778421968151:=0
def tw3471537008738275108:=0
def tw12574731365157524428:=0
def tw698042184430363123:=0
def tw4198502288233146645:=0
def tw4120507162446982036:=0
def tw13969844152574401893:=0
def tw17160670005814593214:=0
def tw6289681259211334786:=0
def tw3931073299283420014:=0
def tw1307830756914530447:=0
def tw3467194617493899830:=0
def tw7069769706965096735:=0
def tw17703049281466738691:=0
def tw3466736390354440132:=0
def tw15547053406162204362:=0
def tw2669913321101052563:=0
def tw3397124570955346873:=0
def tw6280559984558822021:=0
def tw11265577930926376375:=0
def tw15102652810784776126:=0
def tw10589480217211652726:=0
def tw5532821254429626213:=0
def tw4730922277157806079:=0
end PySem.W.Fast
open PySem PySem.W PyProof.Rows
set_option maxRecDepth 100000 in
set_option maxHeartbeats 0 in
theorem PySem.Challenge.cw_sinceply_k36_links_told_holds : PySem.Challenge.rw_sinceply_k36_links_told.Holds := by
 w_on;o_law;z_head;(case hw=>w_witness2)
 k_fill
 refine' Q.Eg (fun _=>rfl) (Q.walk (l:=PySem.Challenge.rw_sinceply_k36_links_told) rfl rfl (fun w h Y=>Y) P.math ?noL ?fnS)
 case noL=>intro w;rfl
 case fnS=>
  intro w mg fa h KX G hmg
  refine' Q.all_mk KX G hmg ?DY ?DZ ?D0 ?D3 ?D4 ?D5 ?D6 ?D7 ?D8 ?D9 ?tY ?tZ ?t7 ?t8 ?t9 ?t_ ?ua ?uc ?ud ?uf ?ug ?uh ?um ?uo ?uq ?ur ?uu ?uv ?uw ?ux ?uy ?uz ?uA ?uB ?uC ?uD ?uE ?uF ?uG ?uH ?uI ?uJ ?uK ?uL ?uM ?uN ?uO ?uP ?p7 ?D_ ?wB ?wC ?fX ?Ea ?eO ?Eb ?wD ?Ec ?Ed ?rj ?iN ?oq ?rm ?Ef ?fY
  (case DY=>refine' Br.aF ?e ?l ?c ?k;(case e=>k_is);(case l=>k_is);(case c=>k_is);(case k=>k_is))
  (case DZ=>refine' Br.aF ?e ?l ?c ?k;(case e=>k_is);(case l=>k_is);(case c=>k_is);(case k=>k_is))
  (case D0=>refine' Br.aF ?e ?l ?c ?k;(case e=>k_is);(case l=>k_is);(case c=>k_is);(case k=>k_is))
  (case D3=>refine' Br.aF ?e ?l ?c ?k;(case e=>k_is);(case l=>k_is);(case c=>k_is);(case k=>k_is))
  (case D4=>refine' Br.aF ?e ?l ?c ?k;(case e=>k_is);(case l=>k_is);(case c=>k_is);(case k=>k_is))
  (case D5=>refine' Br.aF ?e ?l ?c ?k;(case e=>k_is);(case l=>k_is);(case c=>k_is);(case k=>k_is))
  (case D6=>refine' Br.aF ?e ?l ?c ?k;(case e=>k_is);(case l=>k_is);(case c=>k_is);(case k=>k_is))
  (case D7=>refine' Br.aF ?e ?l ?c ?k;(case e=>k_is);(case l=>k_is);(case c=>k_is);(case k=>k_is))
  (case D8=>refine' Br.aF ?e ?l ?c ?k;(case e=>k_is);(case l=>k_is);(case c=>k_is);(case k=>k_is))
  (case D9=>refine' Br.aF ?e ?l ?c ?k;(case e=>k_is);(case l=>k_is);(case c=>k_is);(case k=>k_is))
  (case tY=>refine' Br.aF ?e ?l ?c ?k;(case e=>k_is);(case l=>k_is);(case c=>k_is);(case k=>k_is))
  (case tZ=>refine' Br.aF ?e ?l ?c ?k;(case e=>k_is);(case l=>k_is);(case c=>k_is);(case k=>k_is))
  (case t7=>refine' Br.aF ?e ?l ?c ?k;(case e=>k_is);(case l=>k_is);(case c=>k_is);(case k=>k_is))
  (case t8=>refine' Br.aF ?e ?l ?c ?k;(case e=>k_is);(case l=>k_is);(case c=>k_is);(case k=>k_is))
  (case t9=>refine' Br.aF ?e ?l ?c ?k;(case e=>k_is);(case l=>k_is);(case c=>k_is);(case k=>k_is))
  (case t_=>refine' Br.aF ?e ?l ?c ?k;(case e=>k_is);(case l=>k_is);(case c=>k_is);(case k=>k_is))
  (case ua=>refine' Br.aF ?e ?l ?c ?k;(case e=>k_is);(case l=>k_is);(case c=>k_is);(case k=>k_is))
  (case uc=>refine' Br.aF ?e ?l ?c ?k;(case e=>k_is);(case l=>k_is);(case c=>k_is);(case k=>k_is))
  (case ud=>refine' Br.aF ?e ?l ?c ?k;(case e=>k_is);(case l=>k_is);(case c=>k_is);(case k=>k_is))
  (case uf=>refine' Br.aF ?e ?l ?c ?k;(case e=>k_is);(case l=>k_is);(case c=>k_is);(case k=>k_is))
  (case ug=>refine' Br.aF ?e ?l ?c ?k;(case e=>k_is);(case l=>k_is);(case c=>k_is);(case k=>k_is))
  (case uh=>refine' Br.aF ?e ?l ?c ?k;(case e=>k_is);(case l=>k_is);(case c=>k_is);(case k=>k_is))
  (case um=>refine' Br.aF ?e ?l ?c ?k;(case e=>k_is);(case l=>k_is);(case c=>k_is);(case k=>k_is))
  (case uo=>refine' Br.aF ?e ?l ?c ?k;(case e=>k_is);(case l=>k_is);(case c=>k_is);(case k=>k_is))
  (case uq=>refine' Br.aF ?e ?l ?c ?k;(case e=>k_is);(case l=>k_is);(case c=>k_is);(case k=>k_is))
  (case ur=>refine' Br.aF ?e ?l ?c ?k;(case e=>k_is);(case l=>k_is);(case c=>k_is);(case k=>k_is))
  (case uu=>refine' Br.aF ?e ?l ?c ?k;(case e=>k_is);(case l=>k_is);(case c=>k_is);(case k=>k_is))
  (case uv=>refine' Br.aF ?e ?l ?c ?k;(case e=>k_is);(case l=>k_is);(case c=>k_is);(case k=>k_is))
  (case uw=>refine' Br.aF ?e ?l ?c ?k;(case e=>k_is);(case l=>k_is);(case c=>k_is);(case k=>k_is))
  (case ux=>refine' Br.aF ?e ?l ?c ?k;(case e=>k_is);(case l=>k_is);(case c=>k_is);(case k=>k_is))
  (case uy=>refine' Br.aF ?e ?l ?c ?k;(case e=>k_is);(case l=>k_is);(case c=>k_is);(case k=>k_is))
  (case uz=>refine' Br.aF ?e ?l ?c ?k;(case e=>k_is);(case l=>k_is);(case c=>k_is);(case k=>k_is))
  (case uA=>refine' Br.aF ?e ?l ?c ?k;(case e=>k_is);(case l=>k_is);(case c=>k_is);(case k=>k_is))
  (case uB=>refine' Br.aF ?e ?l ?c ?k;(case e=>k_is);(case l=>k_is);(case c=>k_is);(case k=>k_is))
  (case uC=>refine' Br.aF ?e ?l ?c ?k;(case e=>k_is);(case l=>k_is);(case c=>k_is);(case k=>k_is))
  (case uD=>refine' Br.aF ?e ?l ?c ?k;(case e=>k_is);(case l=>k_is);(case c=>k_is);(case k=>k_is))
  (case uE=>refine' Br.aF ?e ?l ?c ?k;(case e=>k_is);(case l=>k_is);(case c=>k_is);(case k=>k_is))
  (case uF=>refine' Br.aF ?e ?l ?c ?k;(case e=>k_is);(case l=>k_is);(case c=>k_is);(case k=>k_is))
  (case uG=>refine' Br.aF ?e ?l ?c ?k;(case e=>k_is);(case l=>k_is);(case c=>k_is);(case k=>k_is))
  (case uH=>refine' Br.aF ?e ?l ?c ?k;(case e=>k_is);(case l=>k_is);(case c=>k_is);(case k=>k_is))
  (case uI=>refine' Br.aF ?e ?l ?c ?k;(case e=>k_is);(case l=>k_is);(case c=>k_is);(case k=>k_is))
  (case uJ=>refine' Br.aF ?e ?l ?c ?k;(case e=>k_is);(case l=>k_is);(case c=>k_is);(case k=>k_is))
  (case uK=>refine' Br.aF ?e ?l ?c ?k;(case e=>k_is);(case l=>k_is);(case c=>k_is);(case k=>k_is))
  (case uL=>refine' Br.aF ?e ?l ?c ?k;(case e=>k_is);(case l=>k_is);(case c=>k_is);(case k=>k_is))
  (case uM=>refine' Br.aF ?e ?l ?c ?k;(case e=>k_is);(case l=>k_is);(case c=>k_is);(case k=>k_is))
  (case uN=>refine' Br.aF ?e ?l ?c ?k;(case e=>k_is);(case l=>k_is);(case c=>k_is);(case k=>k_is))
  (case uO=>refine' Br.aF ?e ?l ?c ?k;(case e=>k_is);(case l=>k_is);(case c=>k_is);(case k=>k_is))
  (case uP=>refine' Br.aF ?e ?l ?c ?k;(case e=>k_is);(case l=>k_is);(case c=>k_is);(case k=>k_is))
  (case p7=>refine' Br.aF ?e ?l ?c ?k;(case e=>k_is);(case l=>k_is);(case c=>k_is);(case k=>k_is))
  (case D_=>k_is)
  (case wB=>k_is)
  (case wC=>k_is)
  (case fX=>k_is)
  (case Ea=>k_is)
  (case eO=>k_is)
  (case Eb=>k_is)
  (case wD=>k_is)
  (case Ec=>k_is)
  (case Ed=>k_is)
  (case rj=>k_is)
  (case iN=>k_is)
  (case oq=>k_is)
  (case rm=>k_is)
  (case Ef=>k_is)
  (case fY=>k_is)
end
