import PyProof.Rows.All
import Wide.All
import OpenK.AllK
import Wide.FinOn
import Lean
import PyProof.EqAt
import PyProof.EqKinds
import PyProof.TupleCall
import KE.KRevIter
import PyProof.EnumMake
import PyProof.EnumFor
import PyProof.ListRange
import PyProof.Rows.Range3
import PyProof.ZipIter
import PyProof.SumWalk
import PyProof.WalksMore
import PyProof.Rows.SetFrom
import PyProof.SetRoads
import PyProof.Rows.SortRunsK
import PyProof.Rows.SortWalk
import KE.KSortTup
import PyProof.Rows.Own
import PyProof.StationsW
import OpenK.KRaise
import KE.KIsAll
import PyProof.ExcArgsOwn
import PyProof.RulesAs
import PyProof.Ns1
import PyProof.Rows.Catch
import OpenK.KOwn
import PyProof.ExcBaseAll.ValueError
import KE.KDictSum
import PyProof.AttrMiss
import PyProof.IsiH_list
import KE.KDictOf
import PyProof.DictList
import KE.KDictList
import PyProof.FactsAll.set
import PyProof.Rows.TupAdd
import KE.KDictMeth
import PyProof.DictWalks
import PyProof.TupleKey
import PyProof.DictStraight
import PyProof.IsRules
import KE.KRevSl
import PyProof.Rows.CallKwBuiltin
import PyProof.Rows.SortShell
import KE.KSortKey
import KE.KLam
import KE.KNestM
import PyProof.CallStr
import OpenK.KMake
import PyProof.ExcClass2
import PyProof.InstStoreFacts
import OpenK.KCls
import PySem.Challenge.RW_sinceply_k16_moves_refused
open Array renaming getElem?_toList→PM,length_toList→P8,find?_toList→Qf
open Bool renaming and_eq_true→NF,false_ne_true→N6,false_eq_true→O4,eq_iff_iff→P1,or_eq_true→QH
open False renaming elim→NH
open ForInStep renaming yield→OJ
open Int renaming le_trans→QA,le_refl→QX
open List renaming getElem?_set_ne→gc,replicate→Dk,mem_cons→Dp,map_cons→Nv,getElem?_eq_some_iff→Ny,getElem?_append_left→Nz,mem_cons_of_mem→NB,getElem?_eq_getElem→ND,size_toArray→NG,length_map→NI,mem_cons_self→NJ,length_append→NL,getElem?_append_right→NQ,range→NS,mem_append_left→NT,mem_append_right→NU,getElem?_set_self→NW,getElem?_map→NY,length_cons→NZ,length_range→N4,getElem?_replicate→N5,mem_singleton→N7,mem_append→N9,lookup_cons→Ob,length_singleton→Oc,append_nil→Oi,length_set→Oj,mem_map→Ol,map_append→Oo,all_eq_true→Ov,getD_eq_getElem?_getD→Ow,find?_cons→Ox,not_mem_nil→Oz,replicate_succ→OD,length_reverse→OE,getElem?_eq_none→OG,pairwise_cons→OH,getElem?_set→ON,getElem?_cons_succ→OO,length_replicate→OT,any_cons→OU,flatten_cons→OZ,map_map→O0,getElem?_range→Pe,nodup_cons→Pg,mem_filterMap→Pk,getElem?_take_of_lt→Po,zip_cons_cons→Pr,mem_range→Pw,length_take→PK,getElem_mem→PL,getElem?_reverse→PO,set_append_right→PR,mem_filter→PV,mem_of_getElem?→PX,filterMap_cons→P7,take_left→Qd,contains_cons→Qj,append_assoc→Qn,reverse_cons→Qp,map_nil→Qu,cons_append→Qv,of_mem_zip→QD,forIn_cons→QF,nil_append→QG,all_cons→QO,foldl→QY
open Nat renaming le_of_ble_eq_true→gV,le_refl→NC,lt_of_lt_of_le→NO,ne_of_lt→NV,zero_le→Od,le_trans→Oe,lt_irrefl→Oh,ne_of_gt→OI,le_of_lt→Ph,not_lt→P0,lt_of_le_of_lt→Qg,lt_trans→Qw,lt_succ_self→Qy,le_succ→QK,sub_self→QT,log2_lt→QV
open Ne renaming symm→N2
open Option renaming isSome_iff_exists→NR,isSome→OW,isSome_map→PF,map_some→PZ
open PyProof.Rows renaming callWith_type1→N8,boot_isinstance→OP
open PySem.Around renaming under_plainId→P5,under→Qs
open PySem.Builtin.List renaming listExtendWith→OS,listTooLong→Pp
open PySem.Builtin.Tuple renaming tupleCompareSizes→O3
open PySem.Calls renaming spliced_nil→OY,callWith_builtin→O6,evalArgs_plain→PY
open PySem.Code renaming quiet_builtin→Qh,isFrame→QS
open PySem.Data renaming fields→Pd,cell→QC
open PySem.EntryCells renaming newEntry→P9
open PySem.F renaming plain_min_loop→OR,excAttr_ValueError→OV,excBase_ValueError→OX,slot_dict_get→PN,entry_min_loop→Qz
open PySem.Heap renaming get?_push_of_some→HT,lt_size→Nx,get?_update_other→NX,get?_update_self→Of,get?_push_size→Og,size_push→O7,get?_none_of_le→Pb,SameBut→Pj,FlyingW→Pq,MadeExcOf→Qa
open PySem.NameKind renaming cell→QN
open PySem.Obj renaming dropNameByArray→Pf,mapSeq→Py,dropName_eq→P4
open PySem.PassesOwn renaming never→OC
open PySem.PyData renaming eqv→Ou,depthAll→OL,showable→O5,hasDict→O8,showableAll→Qi,eqvAll→Qk,canLayAll0→Qo,hasDictAll→Qq
open PySem.Value renaming ref→NN,builtin→OA,type→O9,none→Pu,bool→QM,float→QU,isStr→QW
open PySem.W renaming Frag→eg,kitOne→NK,nsIn→NP,findIn→N1,fnOf→Oa,kia_one→Om,mroIn→Oq,keepIn→Ot,kitAny→OQ,clsIn→Pc,callWith_K→Pn,codeIn→Px,typeIn→Pz,hasDictIn→PB,specialIn→PD,hideAll→PU,hideAll_get→P6,of_hideAll→Qe,excIn→Ql,methodObj→Qm,instObj→QB,OpenLaw→QE,readsIn→QI,findCls→QJ,lookIn→QL
open PySem.W.Looks renaming of_pure→PJ,ld→Qc
open Sum renaming inl→N3,inr→OM
open True renaming intro→OB
noncomputable section
set_option Elab.async false
set_option linter.all false

set_option maxRecDepth 100000
local macro_rules|`(tactic|trivial)=>`(tactic|first|exact Or.inl rfl|exact Or.inr rfl|exact Or.inr (Or.inl rfl)|exact Or.inr (Or.inr rfl)|assumption)
local macro_rules|`(tactic|and_intros)=>`(tactic|dsimp only[List.map,List.replicate,List.cons_append,List.nil_append])
namespace L2
open PySem PySem.Spec PyProof.Rows
section
variable{a b:Addr}{H:Hp}{o:HO}
noncomputable abbrev Key:=Sum Int Str
noncomputable def p9:Key->Value->Bool
 |.inl k,v=>Value.isInt k v
 |.inr x,v=>Value.isStrOf x v
noncomputable def Ml(w:World):Key->Int
 |.inl k=>hashInt k
 |.inr x=>hashStr w x
theorem b8:∀{k:Key} {v:Value},p9 k v=true->(∃i t,k=N3 i/\v=Value.int i t)\/(∃x t,k=OM x/\v=Value.str x t)
 |.inl i,v,h=>by obtain⟨t,e⟩:=Value.isInt_shape (k:=i) (v:=v) h;exact .inl ⟨i,t,rfl,e⟩
 |.inr x,v,h=>by obtain⟨t,e⟩:=Value.isStrOf_shape (x:=x) (v:=v) h;exact .inr ⟨x,t,rfl,e⟩
theorem yb(i:Int)(t:Tok):p9 (.inl i) (.int i t)=true:=by simp[p9,Value.isInt]
theorem yc(x:Str)(t:Tok):p9 (.inr x) (.str x t)=true:=by simp[p9,Value.isStrOf]
theorem Gg(a b:Int):decide ((N3 a:Key)=N3 b)=(a == b):=by
 by_cases e:a=b
 ·subst e;simp
 ·have h:¬(N3 a:Key)=N3 b:=fun q=>e (N3.inj q);rw[decide_eq_false h];exact(beq_eq_false_iff_ne.mpr e).symm
theorem Gh(a b:Str):decide ((OM a:Key)=OM b)=decide (a=b):=by
 by_cases e:a=b
 ·subst e;simp
 ·have h:¬(OM a:Key)=OM b:=fun q=>e (OM.inj q);rw[decide_eq_false h,decide_eq_false e]
theorem Gi(a:Int)(b:Str):decide ((N3 a:Key)=OM b)=false:=decide_eq_false (fun q=>nomatch q)
theorem Gj(a:Str)(b:Int):decide ((OM a:Key)=N3 b)=false:=decide_eq_false (fun q=>nomatch q)
noncomputable def bI(prog:Program)(w:World):PySem.KeyKind prog w Key where
 is:=p9
 hash:=Ml w
 inj:=fun v a b ha hb=>by
  rcases b8 ha with⟨i,t,rfl,rfl⟩ | ⟨x,t,rfl,rfl⟩
  ·rcases b8 hb with⟨j,u,rfl,e⟩ | ⟨y,u,rfl,e⟩
   ·injection e with e1 _;rw[e1]
   ·exact nomatch e
  ·rcases b8 hb with⟨j,u,rfl,e⟩ | ⟨y,u,rfl,e⟩
   ·exact nomatch e
   ·injection e with e1 _;rw[e1]
 byValue:=fun k v h=>by rcases b8 h with⟨i,t,rfl,rfl⟩ | ⟨x,t,rfl,rfl⟩<;>rfl
 pyHash:=fun hv h=>by
  rcases b8 hv with⟨i,t,rfl,rfl⟩ | ⟨x,t,rfl,rfl⟩
  ·exact wpAny_pyHash_int h
  ·exact wpAny_pyHash_str h
 eqBool:=fun hu hv h=>by
  rcases b8 hu with⟨i,t,rfl,rfl⟩ | ⟨x,t,rfl,rfl⟩
  ·rcases b8 hv with⟨j,u,rfl,rfl⟩ | ⟨y,u,rfl,rfl⟩
   ·rw[Gg]at h;exact wpAny_eqBool_int h
   ·rw[Gi]at h;exact SeqAt.EqAt.int_str i t y u _ _ _ _ h
  ·rcases b8 hv with⟨j,u,rfl,rfl⟩ | ⟨y,u,rfl,rfl⟩
   ·rw[Gj]at h;exact SeqAt.EqAt.str_int x t j u _ _ _ _ h
   ·rw[Gh]at h;exact wpAny_eqBool_str h
 «strs»:=fun k x t v h=>by
  rcases b8 h with⟨i,u,rfl,e⟩ | ⟨y,u,rfl,e⟩
  ·exact nomatch e
  ·injection e with e1 _
   subst e1;cases v<;>rfl
theorem sC(prog:Program)(w:World)(i:Int)(t:Tok):(bI prog w).is (.inl i) (.int i t)=true:=yb i t
theorem sD(prog:Program)(w:World)(x:Str)(t:Tok):(bI prog w).is (.inr x) (.str x t)=true:=yc x t
inductive V where
 |non | bl (b:Bool) | int (i:Int) | str (x:Str) | byt (b:Array UInt8) | flt (b:UInt64) | ref (a:Addr) | ty (n:String)
 deriving DecidableEq
def RelV:V->Value->Prop
 |.non,u=>u=Pu
 |.bl b,u=>u=QM b
 |.int i,u=>∃t,u=Value.int i t
 |.str x,u=>∃t,u=Value.str x t
 |.byt b,u=>∃t,u=Value.bytes b t
 |.flt b,u=>∃t,u=QU b t
 |.ref a,u=>u=NN a
 |.ty n,u=>u=O9 n
noncomputable abbrev Vals:List V->List Value->Prop:=Paired RelV
theorem Vals.length{xs:List V}{us:List Value}(r:Vals xs us):xs.length=us.length:=Paired.length r
theorem Vals.get:∀{xs:List V} {us:List Value} {i:Nat} {x:V},Vals xs us->xs[i]?=some x->∃u,us[i]?=some u/\RelV x u
 |_,_,_,_,.nil,e=>by simp at e
 |_,_,0,_,.cons r _,e=>by simp at e;subst e;exact⟨_,rfl,r⟩
 |_,_,i+1,x,.cons _ t,e=>by obtain⟨u,h1,h2⟩:=Vals.get (i:=i) (x:=x) t (by simpa using e);exact⟨u,by simpa using h1,h2⟩
theorem Vals.set{x:V}{u:Value}(r:RelV x u):∀{xs:List V} {us:List Value} (i:Nat),Vals xs us->Vals (xs.set i x) (us.set i u)
 |_,_,_,.nil=>.nil
 |_,_,0,.cons _ t=>.cons r t
 |_,_,i+1,.cons q t=>.cons q (Vals.set r i t)
theorem Vals.append:∀{xs ys:List V} {us ws:List Value},Vals xs us->Vals ys ws->Vals (xs++ys) (us++ws)
 |_,_,_,_,.nil,s=>s
 |_,_,_,_,.cons r t,s=>.cons r (Vals.append t s)
def jC:Option V->Option Value->Prop
 |some v,some u=>RelV v u
 |none,none=>True
 |_,_=>False
def KV{κ:Type}:List (κ×V)->List (κ×Value)->Prop:=Paired fun(p:κ×V) (q:κ×Value)=>p.1=q.1/\RelV p.2 q.2
noncomputable def kV:Key->V
 |.inl i=>.int i
 |.inr x=>.str x
inductive HO where
 |lst (xs:List V)
 |tup (xs:List V)
 |dK (kvs:List (Key×V)) | dT (kvs:List (List Key×V)) (ts:List Addr)
 |set (S:Int->Bool) (n:Nat)
 |ins (C dx:Addr) (fs:List (Str×V))
 |own (x:Addr)
 |xd (fs:List (Str×V))
 |met (f x:Addr)
 |rng (lo hi:Int)
 |frz (o:Obj) (u:HO)
 |tbl (ln cl:Value) (q:Str)
 |ext (φ:Heap->Prop)
noncomputable abbrev Hp:=Addr->Option HO
noncomputable def upd(H:Hp)(a:Addr)(o:HO):Hp:=fun b=>if b=a then some o else H b
theorem au{a:Addr}:upd H a o a=some o:=by unfold upd;rw[if_pos rfl]
theorem ao(h:b≠a):upd H a o b=H b:=by unfold upd;rw[if_neg h]
theorem Jf{o u:HO}(h:H a=some o)(h':H b=some u)(d:o≠u):a≠b:=by intro e;subst e;rw[h]at h';exact d (Option.some.inj h')
theorem aS(h:H a=some o)(h':H b=none):a≠b:=by intro e;subst e;rw[h]at h';cases h'
end
section
variable(P:Program)(w:World)
def br(H:Hp)(h:Heap)(a:Addr):HO->Prop
 |.lst xs=>xs.length<=sizeLine/\∃(its:List Value) (n:Nat),Vals xs its/\h.get? a=some { cls:=.type "list",data:=.seq its.toArray n }
 |.tup xs=>xs.length<=sizeLine/\∃its:List Value,Vals xs its/\IsTup h a its.toArray
 |.dK kvs=>kvs.length<=sizeLine/\(a == sysModules)=false/\∃vs,KV kvs vs/\h.DictOf (bI P w) a vs
 |.dT kvs ts=>kvs.length<=sizeLine/\(a == sysModules)=false/\∃xs:List (List Key×Addr×Value),
   Paired (fun(p:List Key×V) (q:List Key×Addr×Value)=>p.1=q.1/\H q.2.1=some (.tup (p.1.map kV))/\RelV p.2 q.2.2) kvs xs /\
   ∃o es ep,h.get? a=some o/\o.ExactDict/\o.data=.dict es ep/\es.toList=xs.map (entryOfKey (tupleKind (bI P w)))/\(xs.map (·.1)).Nodup/\xs.map (·.2.1)=ts
 |.set S n=>h.SetOf (intKind P w) a S n
 |.ins C dx fs=>H dx=some (.own a)/\fs.length<=1000/\dx≠a/\h.get? a=some (QB C dx) /\
   ∃mA,h.Ns1 dx mA/\(∀f,jC (fs.lookup f) (mA f))/\PySem.Within mA (fs.map (·.1))
 |.own _=>∃o,h.get? a=some o
 |.xd fs=>∃mA,h.Ns1 a mA/\∀f,jC (fs.lookup f) (mA f)
 |.rng lo hi=>∃t u v,h.get? a=some { cls:=.type "range",data:=.fields #[.int lo t,.int hi u,.int 1 v] }
 |.frz o u=>h.get? a=some o/\br H h a u
 |.tbl ln cl q=>∃ps:Array Value,h.get? a=some { cls:=.none,data:=.fields ps }/\(ps=#[]\/∃(c:Addr) (oc:Obj) (vs:Array Value) (t:Tok),ps=#[ln,cl,.ref c]/\H c=some (.frz oc (.own a))/\oc.data=.fields vs/\vs[1]?=some (.str q t))
 |.met f x=>h.get? a=some (Qm (.ref f) (.ref x))
 |.ext φ=>φ h/\(∃o,h.get? a=some o)/\∀h1 h2:Heap,φ h1->(∀o,h1.get? a=some o->h2.get? a=some o)->φ h2
def HOk(H:Hp)(h:Heap):Prop:=∀a o,H a=some o->br P w H h a o
end
section
variable{P:Program}{w:World}{H H':Hp}{h h':Heap}{a:Addr}{o:HO}
theorem br.lt(x:br P w H h a o):a<h.objs.size:=by
 cases o with
 |lst xs=>obtain⟨_,_,_,_,e⟩:=x;exact Nx e
 |tup xs=>obtain⟨_,_,_,p⟩:=x;exact p.lt
 |dK kvs=>obtain⟨_,_,_,_,o,_,_,e,_⟩:=x;exact Nx e
 |dT kvs ts=>obtain⟨_,_,_,_,o,_,_,e,_⟩:=x;exact Nx e
 |set S n=>obtain⟨o,_,_,_,e,_⟩:=x;exact Nx e
 |ins C dx fs=>obtain⟨_,_,_,e,_⟩:=x;exact Nx e
 |own y=>obtain⟨_,e⟩:=x;exact Nx e
 |xd fs=>obtain⟨_,⟨_,_,_,e,_⟩,_⟩:=x;exact Nx e
 |rng lo hi=>obtain⟨_,_,_,e⟩:=x;exact Nx e
 |frz ob u=>obtain⟨e,_⟩:=x;exact Nx e
 |tbl ln cl q=>obtain⟨_,e,_⟩:=x;exact Nx e
 |met f y=>exact Nx (show h.get? a=some _ from x)
 |ext φ=>obtain⟨_,⟨_,e⟩,_⟩:=x;exact Nx e
theorem Paired.Gk{α β:Type}{F G:α->β->Prop}:∀{l₁:List α} {l₂:List β},Paired F l₁ l₂->(∀a b,F a b->G a b)->Paired G l₁ l₂
 |_,_,.nil,_=>.nil
 |_,_,.cons r t,f=>.cons (f _ _ r) (Paired.Gk t f)
theorem br.stay(x:br P w H h a o)(k:∀b u,(b=a\/H b=some (.own a))->h.get? b=some u->h'.get? b=some u)
  (ho:∀b,H b=some (.own a)->H' b=some (.own a)) (hf:∀b o c,H b=some (.frz o (.own c))->H' b=some (.frz o (.own c))) (ht:∀b xs,H b=some (.tup xs)->H' b=some (.tup xs)):br P w H' h' a o:=by
 induction o with
 |lst xs=>obtain⟨z,its,n,r,e⟩:=x;exact⟨z,its,n,r,k _ _ (.inl rfl) e⟩
 |tup xs=>obtain⟨z,its,r,ob,e,c⟩:=x;exact⟨z,its,r,ob,k _ _ (.inl rfl) e,c⟩
 |dK kvs=>obtain⟨z,y,vs,r,ob,es,ep,e,c⟩:=x;exact⟨z,y,vs,r,ob,es,ep,k _ _ (.inl rfl) e,c⟩
 |dT kvs ts=>obtain⟨z,y,xs,r,ob,es,ep,e,c⟩:=x;exact⟨z,y,xs,Paired.Gk r fun p q z=>⟨z.1,ht _ _ z.2.1,z.2.2⟩,ob,es,ep,k _ _ (.inl rfl) e,c⟩
 |set S n=>obtain⟨ob,es,ep,t,e,c⟩:=x;exact⟨ob,es,ep,t,k _ _ (.inl rfl) e,c⟩
 |ins C dx fs=>obtain⟨d,z,ne,e,mA,⟨od,es,ep,e2,c⟩,r⟩:=x;exact⟨ho _ d,z,ne,k _ _ (.inl rfl) e,mA,⟨od,es,ep,k _ _ (.inr d) e2,c⟩,r⟩
 |own y=>obtain⟨ob,e⟩:=x;exact⟨ob,k _ _ (.inl rfl) e⟩
 |xd fs=>obtain⟨mA,⟨od,es,ep,e,c⟩,r⟩:=x;exact⟨mA,⟨od,es,ep,k _ _ (.inl rfl) e,c⟩,r⟩
 |rng lo hi=>obtain⟨t,u,v,e⟩:=x;exact⟨t,u,v,k _ _ (.inl rfl) e⟩
 |frz ob u ih=>obtain⟨e,q⟩:=x;exact⟨k _ _ (.inl rfl) e,ih q⟩
 |tbl ln cl q=>
  obtain⟨ps,e,d⟩:=x;refine⟨ps,k _ _ (.inl rfl) e,?_⟩;rcases d with d | ⟨c,oc,vs,t,d,d2,d3⟩
  ·exact .inl d
  ·exact .inr ⟨c,oc,vs,t,d,hf _ _ _ d2,d3⟩
 |met f y=>have e:h.get? a=some (Qm (.ref f) (.ref y)):=x;show h'.get? a=some (Qm (.ref f) (.ref y));exact k a _ (.inl rfl) e
 |ext φ=>obtain⟨p,⟨o,e⟩,st⟩:=x;exact⟨st _ _ p fun o q=>k _ _ (.inl rfl) q,⟨o,k _ _ (.inl rfl) e⟩,st⟩
theorem HOk.lt(x:HOk P w H h)(e:H a=some o):a<h.objs.size:=(x a o e).lt
theorem HOk.fresh(x:HOk P w H h)(e:h.objs.size<=a):H a=none:=by
 cases q:H a with
 |none=>rfl
 |some u=>exact absurd (NO (x.lt q) e) (Oh _)
theorem HOk.kept(x:HOk P w H h)(k:∀b u,h.get? b=some u->h'.get? b=some u):HOk P w H h':=fun a o e=>(x a o e).stay (fun b u _ q=>k b u q) (fun _ q=>q) (fun _ _ _ q=>q) fun _ _ q=>q
theorem HOk.laid(x:HOk P w H h)(k:∀b u,h.get? b=some u->h'.get? b=some u)(hp:h.objs.size<=a)(new:br P w (upd H a o) h' a o):HOk P w (upd H a o) h':=fun b u e=>by
 have hn:=x.fresh hp;by_cases hb:b=a
 ·subst hb;rw[au]at e;cases e;exact new
 ·rw[ao hb]at e;exact(x b u e).stay (fun c v _ q=>k c v q) (fun c q=>by rw[ao (aS q hn)];exact q) (fun c _ _ q=>by rw[ao (aS q hn)];exact q) fun c xs q=>by rw[ao (aS q hn)];exact q
end
def Rd(H:Hp)(a:Addr)(u:HO):Prop:=H a=some u\/∃o,H a=some (.frz o u)
theorem Rd.ok{P:Program}{w:World}{H:Hp}{h:Heap}{a:Addr}{u:HO}(r:Rd H a u)(x:HOk P w H h):br P w H h a u:=by
 rcases r with r | ⟨o,r⟩
 ·exact x a u r
 ·obtain⟨_,q⟩:=x a _ r;exact q
def Mut:Option HO->Prop
 |some (.lst _)=>True
 |some (.dK _)=>True
 |some (.dT _ _)=>True
 |some (.set _ _)=>True
 |some (.ins _ _ _)=>True
 |some (.ext _)=>True
 |_=>False
section
variable{P:Program}{w:World}{H:Hp}{h h':Heap}{x e:Addr}{o':HO}
theorem HOk.write(ok:HOk P w H h)(mu:Mut (H x))(he:e=x\/H e=some (.own x))(k:∀b u,b≠e->h.get? b=some u->h'.get? b=some u)(heo:∃u,h'.get? e=some u)
  (new:br P w (upd H x o') h' x o'):HOk P w (upd H x o') h':=fun b u q=>by
 have Jg:∀c y,H c=some (.own y)->c≠x:=fun c y r z=>by subst z;rw[r]at mu;exact mu
 have Mm:∀c xs,H c=some (.tup xs)->c≠x:=fun c xs r z=>by subst z;rw[r]at mu;exact mu
 have Mn:∀c o y,H c=some (.frz o y)->c≠x:=fun c o y r z=>by subst z;rw[r]at mu;exact mu
 by_cases hb:b=x
 ·subst hb;rw[au]at q;cases q;exact new
 ·rw[ao hb]at q;by_cases hbe:b=e
  ·have q':H b=some (.own x):=by
    rcases he with z | z
    ·exact absurd (hbe.trans z) hb
    ·rw[hbe];exact z
   rw[q]at q';cases q';obtain⟨v,hv⟩:=heo;exact⟨v,by rw[hbe];exact hv⟩
  ·refine(ok b u q).stay (fun c v hc r=>k c v ?_ r) (fun c r=>by rw[ao (Jg c b r)];exact r) (fun c _ _ r=>by rw[ao (Mn c _ _ r)];exact r) fun c xs r=>by rw[ao (Mm c xs r)];exact r
   rcases hc with rfl | hc
   ·exact hbe
   ·rintro rfl;rcases he with z | z
    ·exact Jg c b hc z
    ·rw[hc]at z;cases z;exact hb rfl
end
structure Un(fs ex:List Addr)(H H':Hp)(h h':Heap):Prop where
 keep:∀b o,h.get? b=some o->H b=none->b∉fs->b∉ex->h'.get? b=some o
 slot:∀b o,h.get? b=some o->H b=none->b∈fs->b∉ex->∃sl,h'.get? b=some { o with slots:=sl }
 free:∀b o,h.get? b=some o->H b=none->b∉ex->H' b=none
 there:∀b o,h.get? b=some o->b∉ex->∃o',h'.get? b=some o'
 tups:∀b xs,H b=some (.tup xs)->H' b=some (.tup xs)
 lD:∀b o u,H b=some (.frz o u)->H' b=some (.frz o u)
 mV:∀b x y z,H b=some (.tbl x y z)->H' b=some (.tbl x y z)
section
variable{fs fs' ex ex':List Addr}{H H1 H2:Hp}{h h1 h2 h':Heap}{a x e:Addr}{o:HO}
theorem Un.any(u:Un fs ex H H1 h h1){b:Addr}{ob:Obj}(q:h.get? b=some ob)(n:H b=none)(hx:b∉ex):∃sl,h1.get? b=some { ob with slots:=sl }:=by
 by_cases hb:b∈fs
 ·exact u.slot b ob q n hb hx
 ·exact⟨ob.slots,u.keep b ob q n hb hx⟩
theorem Un.kept(k:∀b u,h.get? b=some u->h'.get? b=some u):Un fs ex H H h h':=
 ⟨fun b ob q _ _ _=>k b ob q,fun b ob q _ _ _=>⟨ob.slots,k b ob q⟩,fun _ _ _ n _=>n,fun b ob q _=>⟨ob,k b ob q⟩,fun _ _ q=>q,fun _ _ _ q=>q,fun _ _ _ _ q=>q⟩
theorem Un.refl:Un fs ex H H h h:=Un.kept fun _ _ q=>q
theorem Un.laid(k:∀b u,h.get? b=some u->h'.get? b=some u)(hp:h.objs.size<=a)(hn:H a=none):Un fs ex H (upd H a o) h h' where
 keep:=fun b u q _ _ _=>k b u q
 slot:=fun b u q _ _ _=>⟨u.slots,k b u q⟩
 free:=fun b u q n _=>by rw[ao (NV (NO (Nx q) hp))];exact n
 there:=fun b u q _=>⟨u,k b u q⟩
 tups:=fun b xs q=>by rw[ao (aS q hn)];exact q
 lD:=fun b u xs q=>by rw[ao (aS q hn)];exact q
 mV:=fun b _ _ _ q=>by rw[ao (aS q hn)];exact q
theorem Un.write(mu:Mut (H x))(he:e=x\/H e=some (.own x))(k:∀b u,b≠e->h.get? b=some u->h'.get? b=some u)(heo:∃u,h'.get? e=some u):Un fs ex H (upd H x o) h h':=by
 have hx:∀b,H b=none->b≠x:=fun b n z=>by subst z;rw[n]at mu;exact mu
 have hb:∀b,H b=none->b≠e:=fun b n z=>by
  subst z;rcases he with r | r
  ·exact hx b n r
  ·rw[n]at r;cases r
 have hm:∀b u,H b=some u->¬Mut (some u)->b≠x:=fun b u q nm z=>by subst z;rw[q]at mu;exact nm mu
 refine ⟨fun b u q n _ _=>k b u (hb b n) q,fun b u q n _ _=>⟨u.slots,k b u (hb b n) q⟩,fun b u q n _=>by rw [ao (hx b n)];exact n,fun b u q _=>?_,
  fun b xs q=>by rw[ao (hm b _ q fun z=>z)];exact q,fun b u xs q=>by rw[ao (hm b _ q fun z=>z)];exact q,fun b _ _ _ q=>by rw[ao (hm b _ q fun z=>z)];exact q⟩
 by_cases hbe:b=e
 ·subst hbe;exact heo
 ·exact⟨u,k b u hbe q⟩
end
section
variable{b:Addr}{h:Heap}{o:Obj}{H:Hp}
noncomputable def trk(h:Heap)(H:Hp):List Addr:=(NS h.objs.size).filter fun a=>(H a).isSome
noncomputable def qU(h:Heap)(H:Hp):Heap:=PU h (trk h H)
theorem yd(h:Heap)(H:Hp):(qU h H).objs.size=h.objs.size:=PySem.W.hideAll_size _ _
theorem zC(e:h.get? b=some o)(n:H b=none):(qU h H).get? b=some o:=
 P6 _ e fun hm=>by have q:(H b).isSome=true:=(PV.mp hm).2;rw[n]at q;simp at q
theorem C0(e:(qU h H).get? b=some o):h.get? b=some o/\H b=none:=by
 have e':h.get? b=some o:=Qe (trk h H) e;refine⟨e',?_⟩;cases q:H b with
 |none=>rfl
 |some x=>have hm:b∈trk h H:=PV.mpr ⟨Pw.mpr (Nx e'),by simp[q]⟩;have z:(qU h H).get? b=none:=PySem.W.hideAll_none (trk h H) hm;rw[z]at e;cases e
structure Mod(K:eg)(mg:Str->Option Value)(base:Heap):Prop where
 kin:K.In base
 glob:base.Ns mainGlobals mg
 blt:∃mb,base.Ns builtinsNs mb/\∀x:Str,x ≠ "__name__" -> mb x=bootBuiltins x
 nolimit:base.NoLimit
structure Cx where
 prog:Program
 w:World
 K:eg
 mg:Str->Option Value
 base:Heap
 A:Around
 N:List Str
 s₀:Shared
 H₀:Hp
 env:Env
 outer:List Env
 stack:List Env
 ex:List Addr
 fn:Str->Bool
 calm:Bool
 pn:List (Addr×Obj)
 xe:Value->Shared->Prop
noncomputable def frs(l:List Env):List Addr:=l.filterMap (·.frame)
noncomputable abbrev Cx.fs(X:Cx):List Addr:=frs X.outer
def Vis(sc:Scope)(x:Str):Prop:=sc.names.lookup x=some .local\/sc.names.lookup x=some .cell\/sc.names.lookup x=some .free
def Loc(sc:Scope)(x:Str):Prop:=sc.names.lookup x=some .local\/sc.names.lookup x=some .cell
def Look(env:Env)(h:Heap)(m:Str->Option Value)(x:Str)(u:Value):Prop:=
 (env.kindOf x=some .local/\m x=some u)\/((env.kindOf x=some .cell\/env.kindOf x=some .free)/\∃c,env.cells.lookup x=some c/\h.IsCell c (some u))
structure Cx.Ok(X:Cx):Prop where
 mod:Mod X.K X.mg X.base
 kind:X.env.scope.kind=.function
 glob:X.env.globals=mainGlobals
 blt:X.env.builtins=builtinsNs
 above:X.s₀.heap.objs.size<=X.env.locals
 inj:∀x y c,X.env.cells.lookup x=some c->X.env.cells.lookup y=some c->x=y
 has:∀x,(X.env.kindOf x=some .cell\/X.env.kindOf x=some .free)->∃c,X.env.cells.lookup x=some c
 cab:∀x c,X.fn x=true->X.env.cells.lookup x=some c->X.s₀.heap.objs.size<=c
 hd:X.calm=true->X.A.handled=none
 frames:X.A.frames=some X.stack
 stk:X.stack=X.outer\/(X.stack=X.env::X.outer/\X.env.frame=some X.env.locals)
 exf:∀b∈X.ex,b≠X.env.locals/\∀x c,X.env.cells.lookup x=some c->c≠b
 bs:∀b o,X.base.get? b=some o->X.s₀.heap.get? b=some o/\X.H₀ b=none
 bsz:X.base.objs.size<=X.s₀.heap.objs.size
 zD:∀b o,X.base.get? b=some o->b∉X.ex
 C1:∀b∈X.ex,b∉X.fs
 lE:X.s₀.heap.FunFrames X.base X.outer
 frf:∀b∈X.fs,X.H₀ b=none
structure Inv(X:Cx)(yZ:List (Addr×Obj))(σ:List (Option V))(H:Hp)(s:Shared):Prop where
 ok:X.Ok
 os:s.os=X.s₀.os
 bare:AllBare s.gens
 base:Un X.fs X.ex X.H₀ H X.s₀.heap s.heap
 loc:∃m,s.heap.Ns X.env.locals m/\∀(i:Nat) (x:Str) (v:V),X.N[i]?=some x->σ[i]?=some (some v)->Vis X.env.scope x->∃u,RelV v u/\Look X.env s.heap m x u
 cell:∀x c,X.env.cells.lookup x=some c->∃v,s.heap.IsCell c v
 free:H X.env.locals=none
 eN:∀x c,X.env.cells.lookup x=some c->H c=none
 pin:∀p∈X.pn++yZ,s.heap.get? p.1=some p.2/\H p.1=none/\p.1≠X.env.locals/\p.1∉X.fs/\∀v,p.2.data≠.cell v
 hok:HOk X.prog X.w H s.heap
 len:σ.length=X.N.length
end
section
variable{X:Cx}{yZ:List (Addr×Obj)}{σ:List (Option V)}{H H':Hp}{s:Shared}{h':Heap}
section
variable{ch:List Addr}{x:Str}{u:Value}{a:Addr}{t':Nat}{i:Nat}{v:V}
theorem Cx.Ok.Mp(ok:X.Ok){b:Addr}{o:Obj}(e:X.base.get? b=some o):b∉X.fs:=fun hb=>by have:=(ok.lE.mem hb).1;rw[e]at this;cases this
theorem Inv.bs(I:Inv X yZ σ H s):∀b o,X.base.get? b=some o->s.heap.get? b=some o/\H b=none:=fun b o e=>⟨I.base.keep b o (I.ok.bs b o e).1 (I.ok.bs b o e).2 (I.ok.Mp e) (I.ok.zD b o e),I.base.free b o (I.ok.bs b o e).1 (I.ok.bs b o e).2 (I.ok.zD b o e)⟩
theorem Inv.bk(I:Inv X yZ σ H s):∀b o,X.base.get? b=some o->s.heap.get? b=some o:=fun b o e=>(I.bs b o e).1
theorem Inv.mod(I:Inv X yZ σ H s):Mod X.K X.mg X.base:=I.ok.mod
theorem Inv.kIn(I:Inv X yZ σ H s):X.K.In s.heap:=I.ok.mod.kin.keeps I.bk
theorem Inv.lt(I:Inv X yZ σ H s):X.env.locals<s.heap.objs.size:=let ⟨_,hn,_⟩:=I.loc;hn.lt
theorem Inv.sz(I:Inv X yZ σ H s):X.s₀.heap.objs.size<=s.heap.objs.size:=Oe I.ok.above (Ph I.lt)
theorem Inv.Mq(I:Inv X yZ σ H s)(h:s.heap.objs.size<=a):a∉X.fs:=fun hb=>by obtain⟨_,o,ho,_⟩:=I.ok.lE.mem hb;exact absurd (NO (Nx ho) (Oe I.sz h)) (Oh _)
theorem Inv.cne(I:Inv X yZ σ H s):∀x c,X.env.cells.lookup x=some c->c≠X.env.locals:=fun x c e z=>by obtain⟨v,o,ho,hd⟩:=I.cell x c e;obtain⟨m,⟨o',es,ep,ho',hd',_⟩,_⟩:=I.loc;rw[z,ho']at ho;cases ho;rw[hd']at hd;cases hd
theorem Inv.lE(I:Inv X yZ σ H s):s.heap.FunFrames X.base X.outer:=by
 have all:∀(l:List Env),(∀b∈frs l,b∈X.fs)->X.s₀.heap.FunFrames X.base l->s.heap.FunFrames X.base l:=by
  intro l
  induction l with
  |nil=>intro _ _;trivial
  |cons env r ih=>intro hs hl;obtain⟨hk,⟨L,o,hf,hn,ho,hd⟩,hr⟩:=hl;have hL:L∈X.fs:=hs L (by unfold frs;rw[P7,hf];exact NJ);obtain⟨sl,e⟩:=I.base.slot L o ho (I.ok.frf L hL) hL fun z=>I.ok.C1 L z hL;exact⟨hk,⟨L,_,hf,hn,e,hd⟩,ih (fun b hb=>hs b (by unfold frs;rw[P7,hf];exact NB _ hb)) hr⟩
 exact all X.outer (fun _ hb=>hb) I.ok.lE
theorem Inv.stack(I:Inv X yZ σ H s):s.heap.FunFrames X.base X.stack:=by
 rcases I.ok.stk with e | ⟨e,hf⟩
 ·rw[e];exact I.lE
 ·rw[e];obtain⟨m,hn,_⟩:=I.loc;refine .cons (by rw[I.ok.kind];decide) hf hn ?_ I.lE;exact Pb (Oe I.ok.bsz I.ok.above)
theorem Inv.nv(I:Inv X yZ σ H s):∀b∈frs X.stack,b∈X.env.locals::X.fs:=fun b hb=>by
 rcases I.ok.stk with e | ⟨e,hf⟩
 ·rw[e]at hb;exact NB _ hb
 ·rw[e]at hb;unfold frs at hb;rw[P7,hf]at hb;exact hb
theorem Inv.qV(I:Inv X yZ σ H s):∀b∈frs X.stack,H b=none:=fun b hb=>by
 rcases Dp.mp (I.nv b hb) with e | hb
 ·rw[e];exact I.free
 ·obtain⟨_,o,ho,_⟩:=I.ok.lE.mem hb;exact I.base.free b o ho (I.ok.frf b hb) fun z=>I.ok.C1 b z hb
theorem Inv.step{g':Array GenState}{t':Nat}{d':Drawn}{ch:List Addr}(I:Inv X yZ σ H s)
  (hch:∀b∈ch,(b∈X.ex\/X.s₀.heap.objs.size<=b)/\b≠X.env.locals/\(∀x c,X.env.cells.lookup x=some c->c≠b)/\∀p∈X.pn++yZ,p.1≠b)
  (keep:∀b o,b≠X.env.locals->b∉X.fs->b∉ch->s.heap.get? b=some o->H b=none->h'.get? b=some o)
  (slot:∀b o,b≠X.env.locals->b∈X.fs->b∉ch->s.heap.get? b=some o->H b=none->∃sl,h'.get? b=some { o with slots:=sl }) (free:∀b o,b∉ch->s.heap.get? b=some o->H b=none->H' b=none)
  (there:∀b o,b∉ch->s.heap.get? b=some o->∃o',h'.get? b=some o')
  (tups:∀b xs,H b=some (.tup xs)->H' b=some (.tup xs)) (lD:∀b o u,H b=some (.frz o u)->H' b=some (.frz o u)) (mV:∀b x y z,H b=some (.tbl x y z)->H' b=some (.tbl x y z))
  (ns:∀m,s.heap.Ns X.env.locals m->h'.Ns X.env.locals m) (hok:HOk X.prog X.w H' h') (hg:AllBare g') :
  Inv X yZ σ H' { s with heap:=h',gens:=g',drawn:=d',toks:=t' }:=by
 have neL:∀b o,X.s₀.heap.get? b=some o->b≠X.env.locals:=fun b o e=>NV (NO (Nx e) I.ok.above);have neC:∀b o,X.s₀.heap.get? b=some o->b∉X.ex->b∉ch:=fun b o e hx hb=>by
  rcases (hch b hb).1 with z | z
  ·exact hx z
  ·exact absurd (NO (Nx e) z) (Oh _)
 have cellK:∀x c,X.env.cells.lookup x=some c->∀v,s.heap.IsCell c v->h'.IsCell c v:=fun x c e v ⟨o,ho,hd⟩=>by
  have nch:c∉ch:=fun z=>(hch c z).2.2.1 x c e rfl;by_cases hc:c∈X.fs
  ·obtain⟨sl,q⟩:=slot c o (I.cne x c e) hc nch ho (I.eN x c e);exact⟨_,q,hd⟩
  ·exact⟨o,keep c o (I.cne x c e) hc nch ho (I.eN x c e),hd⟩
 refine⟨I.ok,I.os,hg,⟨fun b o e n hb hx=>?_,fun b o e n hb hx=>?_,fun b o e n hx=>?_,fun b o e hx=>?_,fun b xs e=>tups b xs (I.base.tups b xs e),fun b o xs e=>lD b o xs (I.base.lD b o xs e),fun b x y z e=>?_⟩,?_,fun x c e=>?_,?_,fun x c e=>?_,fun p hp=>?_,hok,I.len⟩
 ·exact keep b o (neL b o e) hb (neC b o e hx) (I.base.keep b o e n hb hx) (I.base.free b o e n hx)
 ·obtain⟨sl,e1⟩:=I.base.slot b o e n hb hx;obtain⟨sl',e2⟩:=slot b _ (neL b o e) hb (neC b o e hx) e1 (I.base.free b o e n hx);exact⟨sl',e2⟩
 ·obtain⟨o',e1⟩:=I.base.there b o e hx;exact free b o' (neC b o e hx) e1 (I.base.free b o e n hx)
 ·obtain⟨o',e1⟩:=I.base.there b o e hx;exact there b o' (neC b o e hx) e1
 ·exact mV _ _ _ _ (I.base.mV _ _ _ _ e)
 ·obtain⟨m,hn,hl⟩:=I.loc;refine⟨m,ns m hn,fun i x v e1 e2 e3=>?_⟩;obtain⟨u,r,l⟩:=hl i x v e1 e2 e3;refine⟨u,r,?_⟩;rcases l with l | ⟨k,c,e,z⟩
  ·exact .inl l
  ·exact .inr ⟨k,c,e,cellK x c e _ z⟩
 ·obtain⟨v,z⟩:=I.cell x c e;exact⟨v,cellK x c e v z⟩
 ·obtain⟨m,⟨o,_,_,ho,_⟩,_⟩:=I.loc;exact free _ o (fun z=>(hch _ z).2.1 rfl) ho I.free
 ·obtain⟨v,o,ho,hd⟩:=I.cell x c e;exact free c o (fun z=>(hch c z).2.2.1 x c e rfl) ho (I.eN x c e)
 ·obtain⟨e,n,ne,nf,d⟩:=I.pin p hp;have nch:p.1∉ch:=fun z=>(hch p.1 z).2.2.2 p hp rfl;exact⟨keep p.1 p.2 ne nf nch e n,free p.1 p.2 nch e n,ne,nf,d⟩
theorem Inv.un(I:Inv X yZ σ H s)(u:Un X.fs [] H H' s.heap h')(hok:HOk X.prog X.w H' h'):Inv X yZ σ H' { s with heap:=h',toks:=t' }:=by
 obtain⟨m,⟨o,es,ep,ho,r⟩,_⟩:=id I.loc;obtain⟨sl,hL⟩:=u.any ho I.free (by simp);exact I.step (g':=s.gens) (d':=s.drawn) (ch:=[]) (fun _ z=>nomatch z) (fun b o _ hb _ e n=>u.keep b o e n hb (by simp)) (fun b o _ hb _ e n=>u.slot b o e n hb (by simp)) (fun b o _ e n=>u.free b o e n (by simp)) (fun b o _ e=>u.there b o e (by simp)) u.tups u.lD u.mV (fun m' hm=>by obtain⟨o',es',ep',ho',r'⟩:=hm;rw[ho]at ho';cases ho';exact⟨_,es',ep',hL,r'⟩) hok I.bare
theorem Inv.call{g':Array GenState}{t':Nat}{d':Drawn}(I:Inv X yZ σ H s)(u:Un (frs X.stack) ch H H' s.heap h')(hok:HOk X.prog X.w H' h')(hg:AllBare g')
  (hch:∀b∈ch,(b∈X.ex\/X.s₀.heap.objs.size<=b)/\b≠X.env.locals/\(∀x c,X.env.cells.lookup x=some c->c≠b)/\∀p∈X.pn++yZ,p.1≠b) :
  Inv X yZ σ H' { s with heap:=h',gens:=g',drawn:=d',toks:=t' }:=by
 obtain⟨m,⟨o,es,ep,ho,r⟩,_⟩:=id I.loc;obtain⟨sl,hL⟩:=u.any ho I.free fun z=>(hch _ z).2.1 rfl;exact I.step (ch:=ch) hch (fun b o hL hb hc e n=>u.keep b o e n (fun z=>(Dp.mp (I.nv b z)).elim hL hb) hc) (fun b o _ _ hc e n=>u.any e n hc) (fun b o hc e n=>u.free b o e n hc) (fun b o hc e=>u.there b o e hc) u.tups u.lD u.mV (fun m' hm=>by obtain⟨o',es',ep',ho',r'⟩:=hm;rw[ho]at ho';cases ho';exact⟨_,es',ep',hL,r'⟩) hok hg
theorem Inv.turned{t':Nat}{it:Addr}(I:Inv X yZ σ H s)(k:∀b o,b≠it->s.heap.get? b=some o->h'.get? b=some o)(hn:H it=none)(hL:it≠X.env.locals)
  (h1:it∈X.ex\/X.s₀.heap.objs.size<=it) (h2:∀x c,X.env.cells.lookup x=some c->c≠it) (h3:∀p∈X.pn++yZ,p.1≠it):Inv X yZ σ H { s with heap:=h',toks:=t' }:=by
 have nit:∀b u,H b=some u->b≠it:=fun b u e z=>by rw[z,hn]at e;cases e
 refine I.step (g':=s.gens) (d':=s.drawn) (ch:=[it]) (fun b hb=>?_) (fun b o _ _ hc e _=>k b o (fun z=>hc (by simp[z])) e) (fun b o _ _ hc e _=>⟨o.slots,k b o (fun z=>hc (by simp[z])) e⟩) (fun _ _ _ _ n=>n)
  (fun b o hc e=>⟨o,k b o (fun z=>hc (by simp[z])) e⟩) (fun _ _ e=>e) (fun _ _ _ e=>e) (fun _ _ _ _ e=>e) (fun m hm=>?_) (fun b u e=>?_) I.bare
 ·have e:b=it:=by simpa using hb
  subst e;exact⟨h1,hL,h2,h3⟩
 ·obtain⟨o,es,ep,ho,r⟩:=hm;exact⟨o,es,ep,k _ o (N2 hL) ho,r⟩
 ·refine(I.hok b u e).stay (fun c v hc q=>k c v ?_ q) (fun _ q=>q) (fun _ _ _ q=>q) fun _ _ q=>q;rcases hc with z | z
  ·rw[z];exact nit b u e
  ·exact nit c _ z
theorem Inv.tok(I:Inv X yZ σ H s)(t:Nat):Inv X yZ σ H { s with toks:=t }:=I.un (h':=s.heap) (t':=t) Un.refl I.hok
theorem Inv.kept(I:Inv X yZ σ H s)(k:∀b u,s.heap.get? b=some u->h'.get? b=some u):Inv X yZ σ H { s with heap:=h',toks:=t' }:=I.un (Un.kept k) (I.hok.kept k)
theorem Inv.laid{o:HO}{t':Nat}(I:Inv X yZ σ H s)(k:∀b u,s.heap.get? b=some u->h'.get? b=some u)(hp:s.heap.objs.size<=a)(new:br X.prog X.w (upd H a o) h' a o) :
  Inv X yZ σ (upd H a o) { s with heap:=h',toks:=t' }:=I.un (Un.laid k hp (I.hok.fresh hp)) (I.hok.laid k hp new)
theorem Inv.write{x e:Addr}{o:HO}{t':Nat}(I:Inv X yZ σ H s)(mu:Mut (H x))(he:e=x\/H e=some (.own x))(k:∀b u,b≠e->s.heap.get? b=some u->h'.get? b=some u)(heo:∃u,h'.get? e=some u)
  (new:br X.prog X.w (upd H x o) h' x o):Inv X yZ σ (upd H x o) { s with heap:=h',toks:=t' }:=I.un (Un.write mu he k heo) (I.hok.write mu he k heo new)
theorem Inv.wF{E9:List (Addr×Obj)}(I:Inv X yZ σ H s)(h:∀p∈E9,s.heap.get? p.1=some p.2/\H p.1=none/\p.1≠X.env.locals/\p.1∉X.fs/\∀v,p.2.data≠.cell v):Inv X E9 σ H s:=
 ⟨I.ok,I.os,I.bare,I.base,I.loc,I.cell,I.free,I.eN,fun p hp=>(N9.mp hp).elim (fun z=>I.pin p (NT _ z)) (h p),I.hok,I.len⟩
theorem nA{N:List Str}(hN:N.Nodup){i j:Nat}(a:N[i]?=some x)(b:N[j]?=some x):i=j:=by obtain⟨h1,e1⟩:=Ny.mp a;obtain⟨h2,e2⟩:=Ny.mp b;exact(List.getElem_inj hN).mp (e1.trans e2.symm)
theorem jf{M:Model}{A:Around}{E:Value->Shared->Prop}{Q:Unit->Shared->Prop}(I:Inv X yZ σ H s)(hN:X.N.Nodup)(hi:X.N[i]?=some x)(hx:Loc X.env.scope x)(r:RelV v u)
  (h:∀s',Inv X yZ (σ.set i (some v)) H s'->(∃a,Pj a s.heap s'.heap/\(a=X.env.locals\/X.env.cells.lookup x=some a))->Q () s') (hf:X.fn x=true\/X.env.scope.names.lookup x=some .local:=by trivial):wpAny M A (storeName X.env x u) Q E s:=by
 obtain⟨m,hn,hl⟩:=id I.loc;have hcls:(X.env.scope.kind == .class||(X.env.scope.kind == .module&&X.env.locals != X.env.globals))=false:=by rw[I.ok.kind];rfl
 have hiσ:i<σ.length:=by rw[I.len];exact(Ny.mp hi).1
 have cne:=I.cne;have tracked:∀{a:Addr} {h':Heap},(∃o,s.heap.get? a=some o/\H a=none)->Pj a s.heap h'->HOk X.prog X.w H h':=fun {a h'} ha hs b ob e=>by
  obtain⟨_,_,hfree⟩:=ha;refine(I.hok b ob e).stay (fun c w' hc q=>(hs.2 c ?_).trans q) (fun _ q=>q) (fun _ _ _ q=>q) fun _ _ q=>q;rintro rfl;rcases hc with rfl | hc
  ·rw[hfree]at e;cases e
  ·rw[hfree]at hc;cases hc
 rcases hx with hk | hk
 ·refine wpAny_storeName_local hk hn (fun h' hn' hs=>?_) hcls;obtain⟨oL,_,_,hoL,_⟩:=id hn;refine h _ ⟨I.ok,I.os,I.bare,⟨fun b o e n hb hx=>?_,fun b o e n hb hx=>?_,I.base.free,fun b o e hx=>?_,I.base.tups,I.base.lD,I.base.mV⟩,⟨_,hn',fun j y v' e1 e2 e3=>?_⟩,fun y c e=>?_,I.free,I.eN,fun p hp=>?_,tracked ⟨oL,hoL,I.free⟩ hs,by simpa using I.len⟩ ⟨_,hs,.inl rfl⟩
  ·exact(hs.2 b (NV (NO (Nx e) I.ok.above))).trans (I.base.keep b o e n hb hx)
  ·obtain⟨sl,e1⟩:=I.base.slot b o e n hb hx;exact⟨sl,(hs.2 b (NV (NO (Nx e) I.ok.above))).trans e1⟩
  ·obtain⟨o',e1⟩:=I.base.there b o e hx;exact⟨o',(hs.2 b (NV (NO (Nx e) I.ok.above))).trans e1⟩
  ·by_cases hj:j=i
   ·subst hj;rw[hi]at e1;cases e1;rw[NW hiσ]at e2;cases e2;exact⟨u,r,.inl ⟨hk,by simp⟩⟩
   ·rw[gc (N2 hj)]at e2;obtain⟨u',r',q⟩:=hl j y v' e1 e2 e3;refine⟨u',r',?_⟩;rcases q with⟨k,e⟩ | ⟨k,c,e,z⟩
    ·refine .inl ⟨k,?_⟩;have:y≠x:=fun e=>hj (nA hN e1 (e▸hi));simp[this,e]
    ·exact .inr ⟨k,c,e,z.sameBut hs (cne y c e)⟩
  ·obtain⟨w',z⟩:=I.cell y c e;exact⟨w',z.sameBut hs (cne y c e)⟩
  ·obtain⟨e,n,ne,nf,d⟩:=I.pin p hp;exact⟨(hs.2 p.1 ne).trans e,n,ne,nf,d⟩
 ·have hfn:X.fn x=true:=by
   rcases hf with z | z
   ·exact z
   ·rw[z]at hk;cases hk
  obtain⟨c,hc⟩:=I.ok.has x (.inl hk);obtain⟨w',z⟩:=I.cell x c hc;refine wpAny_storeName_cell I.ok.kind hk hc z (fun h' hc' hs=>?_);obtain⟨oc,hoc,Mr⟩:=id z;refine h { s with heap:=h' } ⟨I.ok,I.os,I.bare,⟨fun b o e n hb hx=>?_,fun b o e n hb hx=>?_,I.base.free,fun b o e hx=>?_,I.base.tups,I.base.lD,I.base.mV⟩,⟨m,hn.sameBut hs (N2 (cne x c hc)),fun j y v' e1 e2 e3=>?_⟩,fun y c' e=>?_,I.free,I.eN,fun p hp=>?_,tracked ⟨oc,hoc,I.eN x c hc⟩ hs,by simpa using I.len⟩ ⟨c,hs,.inr hc⟩
  ·exact(hs.2 b (NV (NO (Nx e) (I.ok.cab x c hfn hc)))).trans (I.base.keep b o e n hb hx)
  ·obtain⟨sl,e1⟩:=I.base.slot b o e n hb hx;exact⟨sl,(hs.2 b (NV (NO (Nx e) (I.ok.cab x c hfn hc)))).trans e1⟩
  ·obtain⟨o',e1⟩:=I.base.there b o e hx;exact⟨o',(hs.2 b (NV (NO (Nx e) (I.ok.cab x c hfn hc)))).trans e1⟩
  ·by_cases hj:j=i
   ·subst hj;rw[hi]at e1;cases e1;rw[NW hiσ]at e2;cases e2;exact⟨u,r,.inr ⟨.inl hk,c,hc,hc'⟩⟩
   ·rw[gc (N2 hj)]at e2;obtain⟨u',r',q⟩:=hl j y v' e1 e2 e3;refine⟨u',r',?_⟩;rcases q with q | ⟨k,c',e,z'⟩
    ·exact .inl q
    ·refine .inr ⟨k,c',e,z'.sameBut hs ?_⟩;rintro rfl;exact hj (nA hN e1 (I.ok.inj _ _ _ e hc▸hi))
  ·by_cases hcc:c'=c
   ·subst hcc;exact⟨_,hc'⟩
   ·obtain⟨w2,z2⟩:=I.cell y c' e;exact⟨w2,z2.sameBut hs hcc⟩
  ·obtain⟨e,n,ne,nf,d⟩:=I.pin p hp;refine⟨(hs.2 p.1 ?_).trans e,n,ne,nf,d⟩;intro q;rw[q,hoc]at e;have q':oc=p.2:=Option.some.inj e;exact d w' (by rw[<- q'];exact Mr)
theorem sF{M:Model}{A:Around}{E:Value->Shared->Prop}{Q:Unit->Shared->Prop}(I:Inv X yZ σ H s)(hN:X.N.Nodup)(hi:X.N[i]?=some x)(hx:Loc X.env.scope x)(r:RelV v u)
  (h:∀s',Inv X yZ (σ.set i (some v)) H s'->Q () s') (hf:X.fn x=true\/X.env.scope.names.lookup x=some .local:=by trivial):wpAny M A (storeName X.env x u) Q E s:=
 jf I hN hi hx r (fun s' I' _=>h s' I') hf
theorem Inv.Jh{s':Shared}(I:Inv X yZ σ H s)(ho:s'.os=s.os)(u:Un (frs X.stack) ch H H' s.heap s'.heap)(hok:HOk X.prog X.w H' s'.heap)(hg:AllBare s'.gens)
  (hch:∀b∈ch,(b∈X.ex\/X.s₀.heap.objs.size<=b)/\b≠X.env.locals/\(∀x c,X.env.cells.lookup x=some c->c≠b)/\∀p∈X.pn++yZ,p.1≠b):Inv X yZ σ H' s':=by
 obtain⟨h',g',d',t',o'⟩:=s';have e:o'=s.os:=ho;subst e;exact I.call (g':=g') (t':=t') (d':=d') u hok hg hch
end
end
noncomputable abbrev XK:=Value->Option Addr->Hp->Prop
noncomputable abbrev St:=List (Option V)
noncomputable abbrev VK:=V->Hp->Prop
noncomputable abbrev TE:=St->Hp->VK->Prop
noncomputable abbrev TT:=St->Hp->(Bool->Hp->Prop)->Prop
noncomputable abbrev TA:=St->Hp->(List V->Hp->Prop)->Prop
structure Ends where
 nx:St->Hp->Prop
 rt:VK
 bk:St->Hp->Prop:=fun _ _=>False
 ct:St->Hp->Prop:=fun _ _=>False
noncomputable abbrev TS:=Ends->St->Hp->Prop
def EP(X:Cx)(yZ:List (Addr×Obj))(σ:St)(Q:VK)(u:Value)(s':Shared):Prop:=∃v H',Inv X yZ σ H' s'/\RelV v u/\Q v H'
def TP(X:Cx)(yZ:List (Addr×Obj))(σ:St)(Q:Bool->Hp->Prop)(b:Bool)(s':Shared):Prop:=∃H',Inv X yZ σ H' s'/\Q b H'
def AP(X:Cx)(yZ:List (Addr×Obj))(σ:St)(Q:List V->Hp->Prop)(us:List Value)(s':Shared):Prop:=∃vs H',Inv X yZ σ H' s'/\Vals vs us/\Q vs H'
def SP(X:Cx)(yZ:List (Addr×Obj))(D:Ends)(f:Flow)(s':Shared):Prop:=
 match f with
 |.next=>∃σ' H',Inv X yZ σ' H' s'/\D.nx σ' H'
 |.brk=>∃σ' H',Inv X yZ σ' H' s'/\D.bk σ' H'
 |.cont=>∃σ' H',Inv X yZ σ' H' s'/\D.ct σ' H'
 |.ret u=>∃v σ' H',Inv X yZ σ' H' s'/\RelV v u/\D.rt v H'
def PE(X:Cx)(e:Expr)(t:TE):Prop:=
 ∀(yZ:List (Addr×Obj)) (s:Shared) (σ:St) (H:Hp) (Q:VK),Inv X yZ σ H s->t σ H Q->wpAny (model X.prog X.w) X.A (eval e X.env) (EP X yZ σ Q) X.xe s
def PT(X:Cx)(e:Expr)(t:TT):Prop:=
 ∀(yZ:List (Addr×Obj)) (s:Shared) (σ:St) (H:Hp) (Q:Bool->Hp->Prop),Inv X yZ σ H s->t σ H Q->wpAny (model X.prog X.w) X.A (isTrue e X.env (eval e X.env)) (TP X yZ σ Q) X.xe s
def PW(X:Cx)(e:Expr)(t:TT):Prop:=
 ∀(whole:Sem Value) (yZ:List (Addr×Obj)) (s:Shared) (σ:St) (H:Hp) (Q:Bool->Hp->Prop),Inv X yZ σ H s->t σ H Q->wpAny (model X.prog X.w) X.A (isTrue e X.env whole) (TP X yZ σ Q) X.xe s
theorem PW.pt{X:Cx}{e:Expr}{t:TT}(h:PW X e t):PT X e t:=h _
def PA(X:Cx)(es:List Expr)(t:TA):Prop:=
 ∀(pos:Pos) (yZ:List (Addr×Obj)) (s:Shared) (σ:St) (H:Hp) (Q:List V->Hp->Prop),Inv X yZ σ H s->t σ H Q->wpAny (model X.prog X.w) X.A (spliced (backTo pos (starEach es X.env))) (AP X yZ σ Q) X.xe s
def PS(X:Cx)(st:Stmt)(t:TS):Prop:=
 ∀(yZ:List (Addr×Obj)) (s:Shared) (σ:St) (H:Hp) (D:Ends),Inv X yZ σ H s->t D σ H->wpAny (model X.prog X.w) X.A (exec st X.env) (SP X yZ D) X.xe s
def PSs(X:Cx)(st:List Stmt)(t:TS):Prop:=
 ∀(yZ:List (Addr×Obj)) (s:Shared) (σ:St) (H:Hp) (D:Ends),Inv X yZ σ H s->t D σ H->wpAny (model X.prog X.w) X.A (execs st X.env) (SP X yZ D) X.xe s
theorem thn{α:Type}{t:Sem α}{Q Q':α->Shared->Prop}{M:Model}{A:Around}{E:Value->Shared->Prop}{s:Shared}(h:wpAny M A t Q E s)(hQ:∀a s,Q a s->Q' a s):wpAny M A t Q' E s:=wpAny_mono h hQ fun _ _ x=>x
section
variable{X:Cx}
section
variable{Q:Value->Shared->Prop}{yZ:List (Addr×Obj)}{u:Value}{x:Str}{s:Shared}{t:TE}{H:Hp}{σ:St}{v:V}
def nB(i:Nat):TE:=fun σ H Q=>∃v,σ[i]?=some (some v)/\Q v H
def tC(v:V):TE:=fun _ H Q=>Q v H
theorem lG{i:Nat}{pos:Pos}(hN:X.N[i]?=some x)(hv:Vis X.env.scope x)(hd:(x == ("__debug__" : Str))=false:=by decide)(Lp:(x == ("__classdict__" : Str))=false:=by decide):PE X (.Name x pos) (nB i):=by
 intro yZ s σ H Q I h;obtain⟨v,e,h⟩:=h;obtain⟨m,hn,hl⟩:=I.loc;obtain⟨u,r,l⟩:=hl i x v hN e hv;have Ll:EP X yZ σ Q u s:=⟨v,H,I,r,h⟩
 rcases l with⟨hk,hm⟩ | ⟨hk,c,hc,hcell⟩
 ·exact wpAny_Name (wpAny_loadName_local I.ok.kind hk hn hm Ll) hd
 ·rcases hk with hk | hk
  ·exact wpAny_Name (wpAny_loadName_cell I.ok.kind hk hc hcell Ll) hd
  ·exact wpAny_Name (wpAny_loadName_free I.ok.kind hk hc hcell Ll Lp) hd
theorem Gm{i j pos}:PE X (.Constant (.int i) j pos) (tC (.int i)):=fun _ _ _ H _ I h=>wpAny_Constant_int ⟨.int i,H,I.tok _,⟨_,rfl⟩,h⟩
theorem Ji{b j pos}:PE X (.Constant (.bool b) j pos) (tC (.bl b)):=fun _ _ _ H _ I h=>Constant_bool ⟨.bl b,H,I,rfl,h⟩
theorem Gn{j pos}:PE X (.Constant .none j pos) (tC .non):=fun _ _ _ H _ I h=>Constant_none ⟨.non,H,I,rfl,h⟩
theorem Gp{x j pos}:PE X (.Constant (.str x) j pos) (tC (.str x)):=fun _ _ _ H _ I h=>Calls.Constant_str ⟨.str x,H,I.tok _,⟨_,rfl⟩,h⟩
def Gl(X:Cx)(x:Str):Prop:=X.env.kindOf x=some .globalImplicit
theorem fC{E:Value->Shared->Prop}{pos:Pos}(I:Inv X yZ σ H s)(hg:Gl X x)(hm:X.mg x=some u)(h:Q u s)
  (hd:(x == ("__debug__" : Str))=false:=by decide):wpAny (model X.prog X.w) X.A (eval (.Name x pos) X.env) Q E s:=
 Calls.Name_function_global I.ok.kind hg (Calls.loadGlobal_global (by rw[I.ok.glob];exact I.mod.glob.keeps I.bk) hm h) hd
theorem fJ{E:Value->Shared->Prop}{pos:Pos}(I:Inv X yZ σ H s)(hg:Gl X x)(hm:X.mg x=none)(hv:bootBuiltins x=some u)(h:Q u s)
  (hn:x ≠ "__name__" := by decide) (hd:(x == ("__debug__" : Str))=false:=by decide):wpAny (model X.prog X.w) X.A (eval (.Name x pos) X.env) Q E s:=by
 obtain⟨mb,h1,h2⟩:=I.mod.blt;exact Calls.Name_function_global I.ok.kind hg (Calls.loadGlobal_builtin (by rw[I.ok.glob];exact I.mod.glob.keeps I.bk) hm (by rw[I.ok.blt];exact h1.keeps I.bk) ((h2 x hn).trans hv) h) hd
theorem wG{pos:Pos}(hg:Gl X x)(hm:X.mg x=some u)(r:RelV v u)(hd:(x == ("__debug__" : Str))=false:=by decide):PE X (.Name x pos) (tC v):=
 fun _ _ _ H _ I h=>fC I hg hm ⟨v,H,I,r,h⟩ hd
theorem wH{pos:Pos}(hg:Gl X x)(hm:X.mg x=none)(hv:bootBuiltins x=some u)(r:RelV v u)(hn:x ≠ "__name__" := by decide)(hd:(x == ("__debug__" : Str))=false:=by decide):PE X (.Name x pos) (tC v):=
 fun _ _ _ H _ I h=>fJ I hg hm hv ⟨v,H,I,r,h⟩ hn hd
variable{a b:Expr}{ta tb:TE}{pos:Pos}
def PC(X:Cx)(op:CmpOp)(a b:Expr)(t:TE):Prop:=
 ∀(yZ:List (Addr×Obj)) (s:Shared) (σ:St) (H:Hp) (Q:VK),Inv X yZ σ H s->t σ H Q ->
  wpAny (model X.prog X.w) X.A (eval a X.env) (fun v s₁=>wpAny (model X.prog X.w) X.A (eval b X.env) (fun u s₂=>wpAny (model X.prog X.w) X.A (compareOp op v u) (EP X yZ σ Q) X.xe s₂) X.xe s₁) X.xe s
def tB(t:TE):TT:=fun σ H Q=>t σ H fun x H1=>∃c,x=.bl c/\Q c H1
theorem Gq{op:CmpOp}(h:PC X op a b t)(h1:behindInMarks op b=false:=by first | exact Jj _ (by decide) (by decide) | rfl):PT X (.Compare a [op] [b] pos) (tB t):=by intro yZ s σ H Q I hw;refine wpAny_isTrue_Compare1 (thn (h yZ s σ H _ I hw) fun v s1 h1=>thn h1 fun u s2 h2=>thn h2 fun c s3 ⟨x,H1,I1,r1,q1⟩=>?_) h1;obtain⟨d,rfl,q⟩:=q1;cases r1;exact wpAny_truthy_bool ⟨H1,I1,q⟩
theorem Gr{e:Expr}(h:PE X e t)(he:∀whole,isTrue e X.env whole=(do let v <- whole;standAt e.pos;holding [v] (truthy v)):=by intro _;rfl):PT X e (tB t):=by intro yZ s σ H Q I hw;refine isTrue_plain (thn (h yZ s σ H _ I hw) fun v s1 ⟨x,H1,I1,r1,q1⟩=>?_) (he _);obtain⟨d,rfl,q⟩:=q1;cases r1;exact wpAny_truthy_bool ⟨H1,I1,q⟩
variable{tA tB':TT}{Ca:List Expr}
def g8(t u:TT):TT:=fun σ H Q=>t σ H fun c H1=>if c=true then u σ H1 Q else Q false H1
def tOr(t u:TT):TT:=fun σ H Q=>t σ H fun c H1=>if c=true then Q true H1 else u σ H1 Q
def fK(t:TT):TT:=fun σ H Q=>t σ H fun c H1=>Q (!c) H1
theorem pw_and1(ha:PT X a tA):PW X (.BoolOp .And [a] pos) tA:=by
 intro wh yZ s σ H Q I h;refine isTrue_and (thn (ha yZ s σ H Q I h) fun c s1 e=>?_);cases c with
 |true=>exact isTrue_and_nil e
 |false=>exact e
theorem pw_or1(ha:PT X a tA):PW X (.BoolOp .Or [a] pos) tA:=by
 intro wh yZ s σ H Q I h;refine isTrue_or (thn (ha yZ s σ H Q I h) fun c s1 e=>?_);cases c with
 |false=>exact isTrue_or_nil e
 |true=>exact e
theorem pw_and(ha:PT X a tA)(hb:PW X (.BoolOp .And (b::Ca) pos) tB'):PW X (.BoolOp .And (a::b::Ca) pos) (g8 tA tB'):=by
 intro wh yZ s σ H Q I h;refine isTrue_and (thn (ha yZ s σ H _ I h) fun c s1 ⟨H1,I1,q1⟩=>?_);cases c with
 |true=>exact hb wh yZ s1 σ H1 Q I1 q1
 |false=>exact⟨H1,I1,q1⟩
theorem pw_or(ha:PT X a tA)(hb:PW X (.BoolOp .Or (b::Ca) pos) tB'):PW X (.BoolOp .Or (a::b::Ca) pos) (tOr tA tB'):=by
 intro wh yZ s σ H Q I h;refine isTrue_or (thn (ha yZ s σ H _ I h) fun c s1 ⟨H1,I1,q1⟩=>?_);cases c with
 |true=>exact⟨H1,I1,q1⟩
 |false=>exact hb wh yZ s1 σ H1 Q I1 q1
theorem Gs(ha:PT X a tA):PT X (.UnaryOp .Not a pos) (fK tA):=by intro yZ s σ H Q I h;exact isTrue_not (ha yZ s σ H (fun c H1=>Q (!c) H1) I h)
def E_(ta tb:TE):TE:=fun σ H Q=>ta σ H fun x H1=>∃c,x=.bl c/\if c=true then tb σ H1 Q else Q (.bl false) H1
def Jk(ta tb:TE):TE:=fun σ H Q=>ta σ H fun x H1=>∃c,x=.bl c/\if c=true then Q (.bl true) H1 else tb σ H1 Q
def Fb(ta:TE):TE:=fun σ H Q=>ta σ H fun x H1=>∃c,x=.bl c/\Q (.bl (!c)) H1
theorem Gu{op}(h:PE X a t):PE X (.BoolOp op [a] pos) t:=fun yZ s σ H Q I hw=>BoolOp_one (h yZ s σ H Q I hw)
theorem Gv(ha:PE X a ta)(hb:PE X (.BoolOp .And (b::Ca) pos) tb):PE X (.BoolOp .And (a::b::Ca) pos) (E_ ta tb):=by
 intro yZ s σ H Q I h;refine BoolOp_and (thn (ha yZ s σ H _ I h) fun v s1 ⟨x,H1,I1,r1,q1⟩=>?_);obtain⟨c,rfl,q1⟩:=q1;cases r1;refine wpAny_truthy_bool ?_;cases c with
 |true=>exact hb yZ s1 σ H1 Q I1 q1
 |false=>exact⟨.bl false,H1,I1,rfl,q1⟩
theorem Jl(ha:PE X a ta)(hb:PE X (.BoolOp .Or (b::Ca) pos) tb):PE X (.BoolOp .Or (a::b::Ca) pos) (Jk ta tb):=by
 intro yZ s σ H Q I h;refine BoolOp_or (thn (ha yZ s σ H _ I h) fun v s1 ⟨x,H1,I1,r1,q1⟩=>?_);obtain⟨c,rfl,q1⟩:=q1;cases r1;refine wpAny_truthy_bool ?_;cases c with
 |false=>exact hb yZ s1 σ H1 Q I1 q1
 |true=>exact⟨.bl true,H1,I1,rfl,q1⟩
theorem Gw(ha:PE X a ta):PE X (.UnaryOp .Not a pos) (Fb ta):=by intro yZ s σ H Q I h;refine UnaryOp_ (thn (ha yZ s σ H _ I h) fun v s1 ⟨x,H1,I1,r1,q1⟩=>?_);obtain⟨c,rfl,q1⟩:=q1;cases r1;exact not_of (wpAny_truthy_bool ⟨.bl (!c),H1,I1,rfl,q1⟩)
def tIf(t:TT)(ta tb:TE):TE:=fun σ H Q=>t σ H fun c H1=>if c=true then ta σ H1 Q else tb σ H1 Q
theorem zF{c:Expr}(hc:PT X c tA)(ha:PE X a ta)(hb:PE X b tb):PE X (.IfExp c a b pos) (tIf tA ta tb):=by
 intro yZ s σ H Q I h;refine wpAny_IfExp (thn (hc yZ s σ H _ I h) fun d s1 ⟨H1,I1,q1⟩=>?_);cases d with
 |true=>exact ha yZ s1 σ H1 Q I1 q1
 |false=>exact hb yZ s1 σ H1 Q I1 q1
end
end
def SqL(K:eg)(H:Hp)(a:Addr)(xs:List V):Prop:=
 Rd H a (.lst xs) \/
  ∃(o:Obj) (its:Array Value) (n:Nat),K.lookup a=some o/\o.cls=.type "list" /\ o.dict=none/\o.data=.seq its n/\its.size<=sizeLine/\Vals xs its.toList
def SqT(K:eg)(H:Hp)(a:Addr)(xs:List V):Prop:=
 Rd H a (.tup xs) \/
  ∃(o:Obj) (its:Array Value) (n:Nat),K.lookup a=some o/\o.cls=.type "tuple" /\ o.data=.seq its n/\its.size<=sizeLine/\Vals xs its.toList
noncomputable def Ms:Value->Option V
 |.none=>some .non
 |.bool b=>some (.bl b)
 |.int i _=>some (.int i)
 |.str x _=>some (.str x)
 |.bytes b _=>some (.byt b)
 |.float b _=>some (.flt b)
 |.ref a=>some (.ref a)
 |.type n=>some (.ty n)
 |_=>none
theorem RelV.abs{x:V}{u:Value}(r:RelV x u):Ms u=some x:=by
 cases x with
 |non=>cases r;rfl
 |bl _=>cases r;rfl
 |int _=>obtain⟨t,rfl⟩:=r;rfl
 |str _=>obtain⟨t,rfl⟩:=r;rfl
 |byt _=>obtain⟨t,rfl⟩:=r;rfl
 |flt _=>obtain⟨t,rfl⟩:=r;rfl
 |ref _=>cases r;rfl
 |ty _=>cases r;rfl
theorem RelV.inj{x y:V}{u:Value}(r:RelV x u)(q:RelV y u):x=y:=Option.some.inj (r.abs.symm.trans q.abs)
theorem Vals.inj:∀{xs ys:List V} {us:List Value},Vals xs us->Vals ys us->xs=ys
 |_,_,_,.nil,.nil=>rfl
 |_,_,_,.cons r t,.cons r' t'=>by rw[r.inj r',Vals.inj t t']
section
variable{X:Cx}{yZ:List (Addr×Obj)}{σ:St}{H:Hp}{s:Shared}{a:Addr}{xs ys:List V}
theorem SqT.of{K:eg}(h:H a=some (.tup xs)):SqT K H a xs:=.inl (.inl h)
theorem Inv.list(I:Inv X yZ σ H s)(h:SqL X.K H a xs):∃its:List Value,Vals xs its/\PlainL s.heap a its.toArray/\xs.length<=sizeLine:=by
 rcases h with h | ⟨o,its,n,hk,hc,hd,hs,hz,r⟩
 ·obtain⟨z,its,n,r,e⟩:=h.ok I.hok;exact⟨its,r,⟨_,n,e,rfl,rfl,rfl⟩,z⟩
 ·refine⟨its.toList,r,⟨o,n,I.kIn a o hk,hc,hd,by simpa using hs⟩,?_⟩;have e:=r.length;simp only[P8]at e
  lia
theorem Inv.tuple(I:Inv X yZ σ H s)(h:SqT X.K H a xs):∃its:List Value,Vals xs its/\IsTup s.heap a its.toArray/\xs.length<=sizeLine:=by
 rcases h with h | ⟨o,its,n,hk,hc,hs,hz,r⟩
 ·obtain⟨z,its,r,p⟩:=h.ok I.hok;exact⟨its,r,p,z⟩
 ·refine⟨its.toList,r,⟨o,I.kIn a o hk,hc,n,by simpa using hs⟩,?_⟩;have e:=r.length;simp only[P8]at e
  lia
theorem Inv.h_(I:Inv X yZ σ H s)(h:SqL X.K H a xs)(h':SqL X.K H a ys):xs=ys:=by
 obtain⟨its,r,⟨o,n,e,_,_,d⟩,_⟩:=I.list h;obtain⟨its',r',⟨o',n',e',_,_,d'⟩,_⟩:=I.list h';rw[e]at e';cases e';rw[d]at d';injection d' with d1 _
 have:its=its':=by simpa using congrArg Array.toList d1
 subst this;exact r.inj r'
theorem Inv.ye(I:Inv X yZ σ H s)(h:SqT X.K H a xs)(h':SqT X.K H a ys):xs=ys:=by
 obtain⟨its,r,⟨o,e,_,n,d⟩,_⟩:=I.tuple h;obtain⟨its',r',⟨o',e',_,n',d'⟩,_⟩:=I.tuple h';rw[e]at e';cases e';rw[d]at d';injection d' with d1 _
 have:its=its':=by simpa using congrArg Array.toList d1
 subst this;exact r.inj r'
end
noncomputable abbrev Cx.pQ(X:Cx)(E:Value->Shared->Prop):Cx:={ X with xe:=E }
noncomputable abbrev Cx.nox(X:Cx):Cx:=X.pQ fun _ _=>False
theorem Cx.Ok.pQ{X:Cx}(ok:X.Ok)(E:Value->Shared->Prop):(X.pQ E).Ok:=
 ⟨ok.mod,ok.kind,ok.glob,ok.blt,ok.above,ok.inj,ok.has,ok.cab,ok.hd,ok.frames,ok.stk,ok.exf,ok.bs,ok.bsz,ok.zD,ok.C1,ok.lE,ok.frf⟩
theorem Cx.Ok.ic{X:Cx}{E:Value->Shared->Prop}(ok:(X.pQ E).Ok):X.Ok:=
 ⟨ok.mod,ok.kind,ok.glob,ok.blt,ok.above,ok.inj,ok.has,ok.cab,ok.hd,ok.frames,ok.stk,ok.exf,ok.bs,ok.bsz,ok.zD,ok.C1,ok.lE,ok.frf⟩
section
variable{X:Cx}{yZ:List (Addr×Obj)}{σ:St}{H:Hp}{s:Shared}{E:Value->Shared->Prop}
theorem Inv.pQ(I:Inv X yZ σ H s)(E:Value->Shared->Prop):Inv (X.pQ E) yZ σ H s:=⟨I.ok.pQ E,I.os,I.bare,I.base,I.loc,I.cell,I.free,I.eN,I.pin,I.hok,I.len⟩
theorem Inv.ic(I:Inv (X.pQ E) yZ σ H s):Inv X yZ σ H s:=⟨I.ok.ic,I.os,I.bare,I.base,I.loc,I.cell,I.free,I.eN,I.pin,I.hok,I.len⟩
theorem SP.ic{D:Ends}{f:Flow}{s':Shared}(h:SP (X.pQ E) yZ D f s'):SP X yZ D f s':=by
 cases f with
 |next=>obtain⟨σ',H',I,q⟩:=h;exact⟨σ',H',I.ic,q⟩
 |brk=>obtain⟨σ',H',I,q⟩:=h;exact⟨σ',H',I.ic,q⟩
 |cont=>obtain⟨σ',H',I,q⟩:=h;exact⟨σ',H',I.ic,q⟩
 |ret u=>obtain⟨v,σ',H',I,r,q⟩:=h;exact⟨v,σ',H',I.ic,r,q⟩
theorem PSs.nox{st:List Stmt}{t:TS}(h:PSs X.nox st t):PSs X st t:=fun yZ s σ H D I hw=>wpAny_mono (h yZ s σ H D (I.pQ _) hw) (fun _ _ q=>q.ic) fun _ _ z=>NH z
end
section
variable{X:Cx}{st:Stmt}{Ca:List Stmt}{t u:TS}{e:Expr}{te:TE}{pos:Pos}
def zG:TS:=fun D σ H=>D.nx σ H
def C2(t u:TS):TS:=fun D σ H=>t { D with nx:=u D } σ H
theorem wI:PSs X [] zG:=fun _ _ σ H _ I h=>wpAny_execs_nil ⟨σ,H,I,h⟩
theorem ig(h1:PS X st t)(h2:PSs X Ca u):PSs X (st::Ca) (C2 t u):=by
 intro yZ s σ H D I h;refine wpAny_execs_cons (thn (h1 yZ s σ H { D with nx:=u D } I h) fun f s1 q=>?_);cases f with
 |next=>obtain⟨σ',H',I',q⟩:=q;exact h2 yZ s1 σ' H' D I' q
 |ret v=>exact q
 |brk=>exact q
 |cont=>exact q
theorem C3(h1:PS X st t):PSs X [st] t:=by
 intro yZ s σ H D I h;refine wpAny_execs_cons (thn (h1 yZ s σ H D I h) fun f s1 q=>?_);cases f with
 |next=>exact wpAny_execs_nil q
 |ret v=>exact q
 |brk=>exact q
 |cont=>exact q
theorem Inv.quiet{yZ:List (Addr×Obj)}{σ:St}{H:Hp}{s:Shared}(I:Inv X yZ σ H s):interactive X.env=false:=by simp[interactive,I.ok.kind]
def wJ(te:TE):TS:=fun D σ H=>te σ H fun _ H1=>D.nx σ H1
theorem kH(he:PE X e te)(hs:swapsWith e none pos.line X.env=pure false:=by rfl):PS X (.Expr e pos) (wJ te):=by intro yZ s σ H D I h;exact wpAny_Expr_any (thn (he yZ s σ H _ I h) fun v s1 ⟨x,H1,I1,r1,q1⟩=>⟨σ,H1,I1,q1⟩) I.quiet hs
def Jm(te:TE):TS:=fun D σ H=>te σ H D.rt
theorem Gx(he:PE X e te):PS X (.Return (some e) pos) (Jm te):=by intro yZ s σ H D I h;exact wpAny_Return_some (thn (he yZ s σ H _ I h) fun v s1 ⟨x,H1,I1,r1,q1⟩=>⟨x,σ,H1,I1,r1,q1⟩)
def Jo(c:TT)(t u:TS):TS:=fun D σ H=>c σ H fun b H1=>if b=true then t D σ H1 else u D σ H1
theorem zH{c:Expr}{a b:List Stmt}{tc:TT}(hc:PT X c tc)(ha:PSs X a t)(hb:PSs X b u):PS X (.If c a b pos) (Jo tc t u):=by
 intro yZ s σ H D I h;refine wpAny_If (thn (hc yZ s σ H _ I h) fun d s1 ⟨H1,I1,q1⟩=>?_);cases d with
 |true=>exact ha yZ s1 σ H1 D I1 q1
 |false=>exact hb yZ s1 σ H1 D I1 q1
def Gy:TS:=fun _ _ _=>False
theorem zI:PS X st Gy:=fun _ _ _ _ _ _ h=>h.elim
end
noncomputable abbrev TG:=V->St->Hp->(St->Hp->Prop)->Prop
noncomputable abbrev TGs:=List V->St->Hp->(St->Hp->Prop)->Prop
def PG(X:Cx)(target:Expr)(t:TG):Prop:=
 ∀(yZ:List (Addr×Obj)) (s:Shared) (σ:St) (H:Hp) (v:V) (u:Value) (Q:St->Hp->Prop),Inv X yZ σ H s->RelV v u->t v σ H Q ->
  wpAny (model X.prog X.w) X.A (assign target X.env u) (fun _ s'=>∃σ' H',Inv X yZ σ' H' s'/\Q σ' H') X.xe s
def PGs(X:Cx)(ts:List Expr)(t:TGs):Prop:=
 ∀(yZ:List (Addr×Obj)) (s:Shared) (σ:St) (H:Hp) (vs:List V) (us:List Value) (Q:St->Hp->Prop),Inv X yZ σ H s->Vals vs us->t vs σ H Q ->
  wpAny (model X.prog X.w) X.A (assignInOrder ((assignEach ts X.env).map (·.2)) us) (fun _ s'=>∃σ' H',Inv X yZ σ' H' s'/\Q σ' H') X.xe s
noncomputable abbrev Gz:=V->V->V->Hp->(Hp->Prop)->Prop
def Jp(X:Cx)(t:Gz):Prop:=
 ∀(yZ:List (Addr×Obj)) (s:Shared) (σ:St) (H:Hp) (o i v:V) (ov iv u:Value) (Q:Hp->Prop),Inv X yZ σ H s->RelV o ov->RelV i iv->RelV v u->t o i v H Q ->
  wpAny (model X.prog X.w) X.A (setItem ov iv u) (fun _ s'=>∃H',Inv X yZ σ H' s'/\Q H') X.xe s
section
variable{X:Cx}{pos:Pos}
section
variable{es:List Expr}{e:Expr}{x:Str}{i:Nat}{te:TE}
def nC(i:Nat):TG:=fun v σ H Q=>Q (σ.set i (some v)) H
theorem qW(hN:X.N.Nodup)(hi:X.N[i]?=some x)(hx:Loc X.env.scope x)(hf:X.fn x=true\/X.env.scope.names.lookup x=some .local:=by trivial):PG X (.Name x pos) (nC i):=by intro yZ s σ H v u Q I r h;exact wpAny_assign_Name (sF I hN hi hx r (fun s' I'=>⟨_,H,I',h⟩) hf)
def Jq:TGs:=fun vs σ H Q=>vs=[]/\Q σ H
def Fc(t:TG)(u:TGs):TGs:=fun vs σ H Q=>∃v r,vs=v::r/\t v σ H fun σ' H'=>u r σ' H' Q
theorem C4:PGs X [] Jq:=by intro yZ s σ H vs us Q I r h;obtain⟨e,h⟩:=h;subst e;cases r;exact assignInOrder_nil ⟨σ,H,I,h⟩
theorem zJ{t:TG}{u:TGs}(h1:PG X e t)(h2:PGs X es u)
  (hs:(assignEach (e::es) X.env).map (·.2)=assign e X.env::(assignEach es X.env).map (·.2):=by rfl):PGs X (e::es) (Fc t u):=by
 intro yZ s σ H vs us Q I r h;obtain⟨v,vr,e1,h⟩:=h;subst e1;cases r with
 |cons r rr=>rw[hs];refine assignInOrder_cons (thn (h1 yZ s σ H _ _ _ I r h) fun _ s1 ⟨σ1,H1,I1,q1⟩=>?_);exact h2 yZ s1 σ1 H1 _ _ Q I1 rr q1
def GA(K:eg)(n:Nat)(t:TGs):TG:=fun v σ H Q=>∃a xs,v=.ref a/\SqT K H a xs/\xs.length=n/\t xs σ H Q
theorem u6{k:Nat}{t:TGs}{n:Nat}(hc:X.calm=true)(h:PGs X es t)
  (hn:(assignEach es X.env).length=n:=by rfl) (hst:(assignEach es X.env).findIdx? (·.1)=none:=by rfl):PG X (.Tuple es k pos) (GA X.K n t):=by
 intro yZ s σ H v u Q I r hw;obtain⟨a,xs,e1,hq,hl,hw⟩:=hw;subst e1;cases r;obtain⟨its,rv,ht,hz⟩:=I.tuple hq;refine assign_Tuple_tuple (I.ok.hd hc) ht (by simp[hn,<- hl,rv.length]) hst fun h' hx=>?_;have I1:Inv X yZ σ H { s with heap:=h' }:=I.kept (t':=s.toks) fun b o e=>hx b o (NV (Nx e)) e;exact h yZ _ σ H xs _ Q I1 (by simpa using rv) hw
def lH(to ti:TE)(t:Gz):TG:=fun v σ H Q=>to σ H fun o H1=>ti σ H1 fun i H2=>t o i v H2 fun H3=>Q σ H3
theorem GB{o i:Expr}{to ti:TE}{t:Gz}(ho:PE X o to)(hi:PE X i ti)(hs:Jp X t)
  (ha:∀ v,assign (.Subscript o i pos) X.env v=(do
   let ov <- holding [v] (eval o X.env)
   let iv <- holding [v,ov] (eval i X.env)
   standAt pos
   holding [v,ov,iv] (setItem ov iv v)
   release [v,ov,iv] []):=by intro _;rfl):PG X (.Subscript o i pos) (lH to ti t):=by
 intro yZ s σ H v u Q I r h;rw[ha];refine wpAny_bind (wpAny_holding (thn (ho yZ s σ H _ I h) fun ov s1 ⟨x,H1,I1,r1,q1⟩=>?_));refine wpAny_bind (wpAny_holding (thn (hi yZ s1 σ H1 _ I1 q1) fun iv s2 ⟨y,H2,I2,r2,q2⟩=>?_));refine wpAny_bind (wpAny_standAt (wpAny_bind (wpAny_holding (thn (hs yZ s2 σ H2 x y v ov iv u _ I2 r1 r2 r q2) fun _ s3 ⟨H3,I3,q3⟩=>?_))));exact wpAny_release ⟨σ,H3,I3,q3⟩
def yf(te:TE)(g:TG):TS:=fun D σ H=>te σ H fun x H1=>g x σ H1 D.nx
theorem zK{tg e:Expr}{g:TG}(he:PE X e te)(hg:PG X tg g)(hs:swapsWithSole [tg] e pos.line X.env=pure false:=by rfl)(hw:swappedStores [tg] e X.env=pure none:=by rfl)
  (h1:(assignEach [tg] X.env).map (·.2)=[assign tg X.env]:=by rfl):PS X (.Assign [tg] e pos) (yf te g):=by
 intro yZ s σ H D I h;refine wpAny_Assign_stores (thn (he yZ s σ H _ I h) fun v s1 ⟨x,H1,I1,r1,q1⟩=>?_) hs hw;rw[h1];exact thn (hg yZ s1 σ H1 x v _ I1 r1 q1) fun _ s2 q=>q
theorem u7{pos':Pos}(hN:X.N.Nodup)(hi:X.N[i]?=some x)(hx:Loc X.env.scope x)(he:PE X e te)(hs:swapsWith e (some (.Name x pos')) pos.line X.env=pure false:=by rfl)(hf:X.fn x=true\/X.env.scope.names.lookup x=some .local:=by trivial) :
  PS X (.Assign [.Name x pos'] e pos) (yf te (nC i)):=by
 intro yZ s σ H D I h;refine wpAny_Assign_Name (thn (he yZ s σ H _ I h) fun v s1 ⟨y,H1,I1,r1,q1⟩=>?_) hs;exact sF I1 hN hi hx r1 (fun s2 I2=>⟨_,H1,I2,q1⟩) hf
end
end
section
variable{X:Cx}{pos:Pos}
def zL(c:TT)(tb:TS):TS:=fun D σ H=>∃W:Nat->St->Hp->Prop,(∃m,W m σ H)/\∀m σ H,W m σ H ->
 c σ H fun b H1=>if b=true then ∃N:St->Hp->Prop,(∀σ' H',N σ' H'->∃m',m'<m/\W m' σ' H')/\tb { D with nx:=N,ct:=N,bk:=D.nx } σ H1 else D.nx σ H1
theorem zM{c:Expr}{body:List Stmt}{tc:TT}{tb:TS}(hp:PassesOwn (model X.prog X.w) X.A X.env X.xe)(hc:PT X c tc)(hb:PSs X body tb):PS X (.While c body [] pos) (zL tc tb):=by
 intro yZ s σ H D I h;obtain⟨W,⟨m0,w0⟩,turn⟩:=h;refine wpAny_While (codeAny_whileLoop (fun n s'=>∃σ' H',Inv X yZ σ' H' s'/\W n σ' H') ?_ m0 ⟨σ,H,I,w0⟩);rintro n s1 ⟨σ1,H1,I1,w1⟩;refine wpAny_passesOwn hp (thn (hc yZ s1 σ1 H1 _ I1 (turn n σ1 H1 w1)) fun b s2 ⟨H2,I2,q2⟩=>?_);cases b with
 |true=>
  obtain⟨N,hN,q2⟩:=q2;rw[if_pos rfl];refine wpAny_passesOwn hp (thn (hb yZ s2 σ1 H2 _ I2 q2) fun f s3 q3=>?_);cases f with
  |next=>obtain⟨σ3,H3,I3,n3⟩:=q3;obtain⟨m',hm,w3⟩:=hN σ3 H3 n3;exact⟨m',hm,σ3,H3,I3,w3⟩
  |cont=>obtain⟨σ3,H3,I3,n3⟩:=q3;obtain⟨m',hm,w3⟩:=hN σ3 H3 n3;exact⟨m',hm,σ3,H3,I3,w3⟩
  |brk=>exact q3
  |ret v=>exact q3
 |false=>rw[if_neg N6];exact wpAny_execs_nil ⟨σ1,H2,I2,q2⟩
end
section
variable{P:Program}{w:World}{tg:Expr}{s:Shared}
structure It where
 go:Nat->Hp->Prop
 yld:Nat->Hp->V->Hp->Prop
 stop:Nat->Hp->Prop
def pR(X:Cx)(yZ:List (Addr×Obj))(H:Hp)(b:Addr):Prop:=
 H b=none/\b≠X.env.locals/\b∉X.fs/\(b∈X.ex\/X.s₀.heap.objs.size<=b)/\(∀x c,X.env.cells.lookup x=some c->c≠b)/\∀p∈X.pn++yZ,p.1≠b
theorem Inv.yg{X:Cx}{yZ:List (Addr×Obj)}{σ:St}{H H':Hp}{b:Addr}(I:Inv X yZ σ H s)(hb:s.heap.objs.size<=b)(hn:H' b=none):pR X yZ H' b:=by
 refine⟨hn,OI (NO I.lt hb),I.Mq hb,.inr (Oe I.sz hb),fun x c e z=>?_,fun p hp z=>?_⟩
 ·obtain⟨v,q⟩:=I.cell x c e;exact absurd (NO q.lt (by rw[z];exact hb)) (Oh _)
 ·exact absurd (NO (Nx (I.pin p hp).1) (by rw[z];exact hb)) (Oh _)
structure Turn(P:Program)(w:World)(K:eg)(tg:Expr)(J:It)(fp:List Addr)(it:Addr)(tn:Nat->Heap->Prop):Prop where
 mem:it∈fp
 obj:∀i h,tn i h->∀b∈fp,∃o,h.get? b=some o/\∀v,o.data≠.cell v
 keep:∀i h h',tn i h->(∀b∈fp,∀o,h.get? b=some o->h'.get? b=some o)->tn i h'
 item:∀(X:Cx),X.prog=P->X.w=w->X.K=K->X.calm=true->∀(i:Nat) (yZ:List (Addr×Obj)) (s:Shared) (σ:St) (H:Hp) (E:Value->Shared->Prop),Inv X yZ σ H s->(∀b∈fp,pR X yZ H b)->tn i s.heap->J.go i H ->
  wpAny (model P w) X.A (pyNext (.ref it)) (fun r s1=>∃ u,r=some u ∧
   wpAny (model P w) X.A (letOwnedTupleGo tg (.ref it) u) (fun _ s2=>∃x H',Inv X yZ σ H' s2/\RelV x u/\J.yld i H x H'/\tn (i+1) s2.heap/\∀b∈fp,H' b=none) E s1) E s
 done:∀(X:Cx),X.prog=P->X.w=w->X.K=K->X.calm=true->∀(i:Nat) (yZ:List (Addr×Obj)) (s:Shared) (σ:St) (H:Hp) (E:Value->Shared->Prop),Inv X yZ σ H s->(∀b∈fp,pR X yZ H b)->tn i s.heap->J.stop i H ->
  wpAny (model P w) X.A (pyNext (.ref it)) (fun r s1=>r=none/\Inv X yZ σ H s1) E s
 self:∀(A:Around) (i:Nat) (s:Shared) (Q:Value->Shared->Prop) (E:Value->Shared->Prop),tn i s.heap->Q (.ref it) s->wpAny (model P w) A (pyIter (.ref it)) Q E s
noncomputable abbrev TI:=St->Hp->(It->Hp->Prop)->Prop
def PIE(X:Cx)(yZ:List (Addr×Obj))(σ:St)(tg:Expr)(R:It->Hp->Prop)(itv:Value)(s2:Shared):Prop:=
 ∃(it:Addr) (fp:List Addr) (tn:Nat->Heap->Prop) (J:It) (H':Hp),itv=.ref it/\Inv X yZ σ H' s2/\Turn X.prog X.w X.K tg J fp it tn/\tn 0 s2.heap/\(∀b∈fp,pR X yZ H' b)/\R J H'
def PI(X:Cx)(tg iter:Expr)(wi:TI):Prop:=
 ∀(yZ:List (Addr×Obj)) (s:Shared) (σ:St) (H:Hp) (R:It->Hp->Prop),Inv X yZ σ H s->wi σ H R ->
  wpAny (model X.prog X.w) X.A (eval iter X.env) (fun v s1=>wpAny (model X.prog X.w) X.A (pyIter v) (PIE X yZ σ tg R) X.xe s1) X.xe s
theorem wK{M:Model}{A:Around}{E:Value->Shared->Prop}{tg:Expr}{it:Addr}{u:Value}{o:Obj}{n:String}{vs:Array Value}{Q:Unit->Shared->Prop}(ho:s.heap.get? it=some o)(hc:o.cls=.type n)(hd:o.data=.fields vs)
  (hn:["enumerate","zip","dict_itemiterator","dict_reverseitemiterator","odict_iterator","itertools.zip_longest","itertools.pairwise"].contains n=false) (hQ:Q () s):wpAny M A (letOwnedTupleGo tg (.ref it) u) Q E s:=by
 unfold letOwnedTupleGo;cases tg<;>first
  |exact wpAny_pure hQ
  | (cases u<;>first
    |exact wpAny_pure hQ
    | (refine wpAny_bind (wpAny_load ho ?_)
       rw[hc,hd];show wpAny M A (if (["enumerate","zip","dict_itemiterator","dict_reverseitemiterator","odict_iterator","itertools.zip_longest","itertools.pairwise"].contains n&&vs[0]? == some (rawInt _))=true then _ else _) Q E s;rw[if_neg (by intro h;rw[hn,Bool.false_and]at h;cases h)];exact wpAny_pure hQ))
noncomputable def Itl(K:eg)(a:Addr):It:=
 ⟨fun i H=>∃xs x,SqL K H a xs/\xs[i]?=some x,fun i H x H'=>H'=H/\∀xs,SqL K H a xs->xs[i]?=some x,fun i H=>∃xs,SqL K H a xs/\xs.length<=i⟩
noncomputable def Itt(K:eg)(a:Addr):It:=
 ⟨fun i H=>∃xs x,SqT K H a xs/\xs[i]?=some x,fun i H x H'=>H'=H/\∀xs,SqT K H a xs->xs[i]?=some x,fun i H=>∃xs,SqT K H a xs/\xs.length<=i⟩
noncomputable def Itr(lo:Int)(n:Nat):It:=⟨fun i _=>i<n,fun i H x H'=>H'=H/\x=.int (lo+i),fun i _=>n<=i⟩
theorem yh{K:eg}(a it:Addr):Turn P w K tg (Itl K a) [it] it (fun i h=>h.IsListIter it a i) where
 mem:=by simp
 obj:=fun i h st b hb=>by
  have e:b=it:=by simpa using hb
  subst e;obtain⟨o,e,c,d⟩:=st;exact⟨o,e,fun v z=>by rw[d]at z;cases z⟩
 keep:=fun i h h' st k=>st.at fun o e=>k it (by simp) o e
 item:=by intro X hP hw hK hc i yZ s σ H E I hf st hg;subst hP hw hK;obtain⟨xs,x,hq,hx⟩:=hg;obtain⟨its,rv,p,hz⟩:=I.list hq;obtain⟨u,hu,ru⟩:=rv.get hx;obtain⟨f0,f1,f2,f3,f4,f5⟩:=hf it (by simp);refine wpAny_pyNext_list_item st p.isList (x:=u) (by simpa using hu) fun h' st' sb=>?_;have I1:Inv X yZ σ H { s with heap:=h' }:=I.turned (t':=s.toks) (fun b o hb e=>(sb.2 b hb).trans e) f0 f1 f3 f4 f5;obtain⟨o,e,c,d⟩:=id st';exact⟨u,rfl,wK (s:={ s with heap:=h' }) e c d (by decide) ⟨x,H,I1,ru,⟨rfl,fun ys hy=>by rw[I.h_ hy hq];exact hx⟩,st',fun b hb=>(hf b hb).1⟩⟩
 done:=by intro X hP hw hK hc i yZ s σ H E I hf st hg;subst hP hw hK;obtain⟨xs,hq,hx⟩:=hg;obtain⟨its,rv,p,hz⟩:=I.list hq;obtain⟨f0,f1,f2,f3,f4,f5⟩:=hf it (by simp);have hl:=rv.length;exact wpAny_pyNext_list_end (I.ok.hd hc) st p.isList (by simp;lia) fun h' eb=>⟨rfl,I.turned (t':=s.toks) (fun b o hb e=>eb b o hb e) f0 f1 f3 f4 f5⟩
 self:=fun _ _ _ _ _ st h=>wpAny_pyIter_listiter st h
theorem u9{K:eg}(a it:Addr):Turn P w K tg (Itt K a) [it] it (fun i h=>h.IsTupleIter it a i) where
 mem:=by simp
 obj:=fun i h st b hb=>by
  have e:b=it:=by simpa using hb
  subst e;obtain⟨o,e,c,d⟩:=st;exact⟨o,e,fun v z=>by rw[d]at z;cases z⟩
 keep:=fun i h h' st k=>st.at fun o e=>k it (by simp) o e
 item:=by intro X hP hw hK hc i yZ s σ H E I hf st hg;subst hP hw hK;obtain⟨xs,x,hq,hx⟩:=hg;obtain⟨its,rv,p,hz⟩:=I.tuple hq;obtain⟨u,hu,ru⟩:=rv.get hx;obtain⟨f0,f1,f2,f3,f4,f5⟩:=hf it (by simp);refine wpAny_pyNext_tuple_item st (show s.heap.IsTuple a its.toArray from p) (x:=u) (by simpa using hu) fun h' st' sb=>?_;have I1:Inv X yZ σ H { s with heap:=h' }:=I.turned (t':=s.toks) (fun b o hb e=>(sb.2 b hb).trans e) f0 f1 f3 f4 f5;obtain⟨o,e,c,d⟩:=id st';exact⟨u,rfl,wK (s:={ s with heap:=h' }) e c d (by decide) ⟨x,H,I1,ru,⟨rfl,fun ys hy=>by rw[I.ye hy hq];exact hx⟩,st',fun b hb=>(hf b hb).1⟩⟩
 done:=by intro X hP hw hK hc i yZ s σ H E I hf st hg;subst hP hw hK;obtain⟨xs,hq,hx⟩:=hg;obtain⟨its,rv,p,hz⟩:=I.tuple hq;obtain⟨f0,f1,f2,f3,f4,f5⟩:=hf it (by simp);have hl:=rv.length;exact wpAny_pyNext_tuple_end (I.ok.hd hc) st (show s.heap.IsTuple a its.toArray from p) (by simp;lia) fun h' eb=>⟨rfl,I.turned (t':=s.toks) (fun b o hb e=>eb b o hb e) f0 f1 f3 f4 f5⟩
 self:=fun _ _ _ _ _ st h=>wpAny_pyIter_tupleiter st h
theorem u_{K:eg}(it:Addr)(lo:Int)(n:Nat):Turn P w K tg (Itr lo n) [it] it (fun i h=>IsRangeIter h it (lo+(i:Nat)*1) ((n:Int)-(i:Nat)) 1) where
 mem:=by simp
 obj:=fun i h st b hb=>by
  have e:b=it:=by simpa using hb
  subst e;exact ⟨_,st,fun v z=>by have z':Pd _=QC v:=z;cases z'⟩
 keep:=fun i h h' st k=>k it (by simp) _ st
 item:=by intro X hP hw hK hc i yZ s σ H E I hf st hg;subst hP hw hK;obtain⟨f0,f1,f2,f3,f4,f5⟩:=hf it (by simp);have W:=Walks.range (prog:=X.prog) (w:=X.w) (I.ok.hd hc) it lo 1 n;refine W.item i s _ _ hg st fun v h' tk hv st' kk=>?_;obtain⟨t,rfl⟩:=hv;have I1:Inv X yZ σ H { s with heap:=h',toks:=tk }:=I.turned (fun b o hb e=>kk b o (by simpa using hb) e) f0 f1 f3 f4 f5;refine⟨_,rfl,wK (s:={ s with heap:=h',toks:=tk }) (n := "range_iterator") st' rfl rfl (by decide) ⟨.int (lo+i),H,I1,⟨t,?_⟩,⟨rfl,rfl⟩,st',fun b hb=>(hf b hb).1⟩⟩;rw[Int.mul_one]
 done:=by intro X hP hw hK hc i yZ s σ H E I hf st hg;subst hP hw hK;obtain⟨f0,f1,f2,f3,f4,f5⟩:=hf it (by simp);exact wpAny_pyNext_range_end (I.ok.hd hc) st (by have:n<=i:=hg;lia) fun h' eb=>⟨rfl,I.turned (t':=s.toks) (fun b o hb e=>eb b o hb e) f0 f1 f3 f4 f5⟩
 self:=fun _ _ _ _ _ st h=>wpAny_pyIter_rangeiter st h
end
section
variable{X:Cx}{tg:Expr}
section
variable{yZ:List (Addr×Obj)}{fp:List Addr}{s:Shared}{H:Hp}{σ:St}{l:Expr}{h:Heap}{tl:TE}{ta:TA}
def sG(K:eg)(tl:TE):TI:=fun σ H R=>tl σ H fun x H1=>∃a,x=.ref a/\(∃xs,SqL K H1 a xs)/\R (Itl K a) H1
def zN(K:eg)(tl:TE):TI:=fun σ H R=>tl σ H fun x H1=>∃a,x=.ref a/\(∃xs,SqT K H1 a xs)/\R (Itt K a) H1
theorem wL(hl:PE X l tl):PI X tg l (sG X.K tl):=by
 intro yZ s σ H R I h;refine thn (hl yZ s σ H _ I h) fun v s1 ⟨x,H1,I1,r1,q1⟩=>?_;obtain⟨a,e,⟨xs,hq⟩,q⟩:=q1;subst e;cases r1;obtain⟨its,rv,p,hz⟩:=I1.list hq;refine wpAny_pyIter_list p.isList ?_;refine⟨s1.heap.objs.size,[s1.heap.objs.size],_,_,H1,rfl,I1.kept (t':=s1.toks) fun b o e=>HT _ e,yh a _,⟨_,Og _ rfl,rfl,rfl⟩,fun b hb=>?_,q⟩;have e:b=s1.heap.objs.size:=by simpa using hb
 subst e;exact I1.yg (NC _) (I1.hok.fresh (NC _))
theorem zO(hl:PE X l tl):PI X tg l (zN X.K tl):=by
 intro yZ s σ H R I h;refine thn (hl yZ s σ H _ I h) fun v s1 ⟨x,H1,I1,r1,q1⟩=>?_;obtain⟨a,e,⟨xs,hq⟩,q⟩:=q1;subst e;cases r1;obtain⟨its,rv,p,hz⟩:=I1.tuple hq;refine wpAny_pyIter_tuple (show s1.heap.IsTuple a its.toArray from p) ?_;refine⟨s1.heap.objs.size,[s1.heap.objs.size],_,_,H1,rfl,I1.kept (t':=s1.toks) fun b o e=>HT _ e,u9 a _,⟨_,Og _ rfl,rfl,rfl⟩,fun b hb=>?_,q⟩;have e:b=s1.heap.objs.size:=by simpa using hb
 subst e;exact I1.yg (NC _) (I1.hok.fresh (NC _))
theorem sH{R:It->Hp->Prop}{E:Value->Shared->Prop}{lo hi:Int}{t u v:Tok}{tk:Nat}(I:Inv X yZ σ H s)(h1:-(2 ^ 62)<=lo)(h2:lo<2 ^ 62)(h3:-(2 ^ 62)<=hi)(h4:hi<2 ^ 62)
  (q:R (Itr lo (hi-lo).toNat) H):wpAny (model X.prog X.w) X.A (pyIter (.ref s.heap.objs.size)) (PIE X yZ σ tg R) E { s with heap:=s.heap.push { cls:=.type "range",data:=.fields #[.int lo t,.int hi u,.int 1 v] },toks:=tk }:=by
 refine wpAny_pyIter_range (IsRange.new ..) (small_one h1 h2 h3 h4) ?_;have I1:Inv X yZ σ H { s with heap:=s.heap.push { cls:=.type "range",data:=.fields #[.int lo t,.int hi u,.int 1 v] },toks:=tk }:=I.kept fun b o e=>HT _ e;refine ⟨(s.heap.push { cls:=.type "range",data:=.fields #[.int lo t,.int hi u,.int 1 v] }).objs.size,[(s.heap.push { cls:=.type "range",data:=.fields #[.int lo t,.int hi u,.int 1 v] }).objs.size],_,_,H,rfl,
  I1.kept (t':=tk) fun b o e=>HT _ e,u_ _ lo (hi-lo).toNat,?_,fun b hb=>?_,q⟩
 ·have e1:lo+((0:Nat):Int)*1=lo:=by simp
  have e2:(((hi-lo).toNat:Nat):Int)-((0:Nat):Int)=Builtin.Range.rangeSize lo hi 1:=by rw[rangeSize_one];split<;>lia
  show IsRangeIter _ _ (lo+((0:Nat):Int)*1) ((((hi-lo).toNat:Nat):Int)-((0:Nat):Int)) 1;rw[e1,e2];exact Og _ rfl
 ·have e:b=(s.heap.push { cls:=.type "range",data:=.fields #[.int lo t,.int hi u,.int 1 v] }).objs.size:=by simpa using hb
  subst e;exact I1.yg (NC _) (I1.hok.fresh (NC _))
def Fd(ta:TA):TI:=fun σ H R=>ta σ H fun vs H1=>∃j:Int,vs=[.int j]/\-(2 ^ 62)<=j/\j<2 ^ 62/\R (Itr 0 j.toNat) H1
def Fe(ta:TA):TI:=fun σ H R=>ta σ H fun vs H1=>∃i j:Int,vs=[.int i,.int j]/\(-(2 ^ 62)<=i/\i<2 ^ 62/\-(2 ^ 62)<=j/\j<2 ^ 62)/\R (Itr i (j-i).toNat) H1
theorem yi{a:Expr}{p pos:Pos}(hg:Gl X "range")(hm:X.mg "range" = none)(ha:PA X [a] ta)(hs:starEach [a] X.env=[(false,eval a X.env)]:=by rfl):PI X tg (.Call (.Name "range" p) [a] [] pos) (Fd ta):=by
 intro yZ s σ H R I h;refine Call_ (fJ I hg hm boot_range (N8 (thn (ha pos yZ s σ H _ I h) fun us s1 ⟨vs,H1,I1,r1,q1⟩=>?_) hs rfl));obtain⟨j,e,q1,q2,q⟩:=q1;subst e;cases r1 with
 |cons r rr=>cases rr;obtain⟨t,rfl⟩:=r;exact call_range_1 (sH I1 (by lia) (by lia) q1 q2 (by simpa using q))
theorem yj{a b:Expr}{p pos:Pos}(hg:Gl X "range")(hm:X.mg "range" = none)(ha:PA X [a,b] ta)(hs:starEach [a,b] X.env=[(false,eval a X.env),(false,eval b X.env)]:=by rfl)(hs2:starEach [b] X.env=[(false,eval b X.env)]:=by rfl) :
  PI X tg (.Call (.Name "range" p) [a,b] [] pos) (Fe ta):=by
 intro yZ s σ H R I h;refine Call_ (fJ I hg hm boot_range (N8 (thn (ha pos yZ s σ H _ I h) fun us s1 ⟨vs,H1,I1,r1,q1⟩=>?_) (by rw[hs,hs2]) (by rw[hs2];rfl)));obtain⟨i,j,e,⟨q1,q2,q3,q4⟩,q⟩:=q1;subst e;cases r1 with
 |cons r rr=>
  cases rr with
  |cons r' rr=>cases rr;obtain⟨t,rfl⟩:=r;obtain⟨t',rfl⟩:=r';exact call_range_2 (sH I1 q1 q2 q3 q4 q)
def Jr(wi:TI)(g:TG)(tb:TS):TS:=fun D σ H=>wi σ H fun J H1=>∃W:Nat->Nat->St->Hp->Prop,(∃m,W 0 m σ H1)/\∀i m σ H,W i m σ H ->
 (J.stop i H/\D.nx σ H)\/(J.go i H/\∃N:St->Hp->Prop,(∀σ' H',N σ' H'->∃m',m'<m/\W (i+1) m' σ' H')/\∀x H',J.yld i H x H'->g x σ H' fun σ2 H2=>tb { D with nx:=N,ct:=N,bk:=D.nx } σ2 H2)
noncomputable def nD(fp:List Addr)(h:Heap):List (Addr×Obj):=fp.filterMap fun b=>(h.get? b).map fun o=>(b,o)
theorem gC{b:Addr}{o:Obj}(hb:b∈fp)(e:h.get? b=some o):(b,o)∈nD fp h:=Pk.mpr ⟨b,hb,by rw[e];rfl⟩
theorem yk{p:Addr×Obj}(hp:p∈nD fp h):p.1∈fp/\h.get? p.1=some p.2:=by
 obtain⟨b,hb,e⟩:=Pk.mp hp;cases q:h.get? b with
 |none=>rw[q]at e;cases e
 |some o=>rw[q]at e;have e':(b,o)=p:=Option.some.inj e;subst e';exact⟨hb,q⟩
theorem Inv.pinned(I:Inv X yZ σ H s)(hf:∀b∈fp,pR X yZ H b)(ho:∀b∈fp,∃o,s.heap.get? b=some o/\∀v,o.data≠.cell v):Inv X (yZ++nD fp s.heap) σ H s:=
 I.wF fun p hp=>(N9.mp hp).elim (fun z=>I.pin p (NU _ z)) fun z=>by obtain⟨hb,e⟩:=yk z;obtain⟨f0,f1,f2,_⟩:=hf p.1 hb;obtain⟨o,e',d⟩:=ho p.1 hb;rw[e]at e';cases e';exact⟨e,f0,f1,f2,d⟩
theorem Inv.kI{yZ pl:List (Addr×Obj)}(I:Inv X (yZ++pl) σ H s):Inv X yZ σ H s:=I.wF fun p hp=>I.pin p (NU _ (NT _ hp))
theorem GC{iter:Expr}{body:List Stmt}{wi:TI}{g:TG}{tb:TS}{pos:Pos}(hp:PassesOwn (model X.prog X.w) X.A X.env X.xe)(hc:X.calm=true)(hi:PI X tg iter wi)(hg:PG X tg g)(hb:PSs X body tb)
  (hs:∀x,foldedSetIterable iter X.env x=pure x:=by intro _;rfl):PS X (.For tg iter body [] pos) (Jr wi g tb):=by
 intro yZ s σ H D I h;refine wpAny_For (thn (hi yZ s σ H _ I h) fun v s1 h1=>thn h1 fun itv s2 h2=>?_) hs;obtain⟨it,fp,tn,J,H2,e,I2,T,st2,f2,W,⟨m0,w0⟩,turn⟩:=h2;subst e;have stat:∀{H':Hp},(∀b∈fp,H' b=none)->∀b∈fp,pR X yZ H' b:=fun hn b hb=>⟨hn b hb,(f2 b hb).2⟩;refine codeAny_forLoop_any (fun n s'=>∃i σ' H',Inv X yZ σ' H' s'/\tn i s'.heap/\(∀b∈fp,H' b=none)/\W i n σ' H') ?_ m0 ⟨0,σ,H2,I2,st2,fun b hb=>(f2 b hb).1,w0⟩;rintro n s3 ⟨i,σ3,H3,I3,st3,fr3,w3⟩;rcases turn i n σ3 H3 w3 with⟨stop,qn⟩ | ⟨go,N,hN,step⟩
 ·refine wpAny_passesOwn hp (thn (T.done X rfl rfl rfl hc i yZ s3 σ3 H3 X.xe I3 (stat fr3) st3 stop) fun r s4 ⟨hr,I4⟩=>?_);subst hr;exact wpAny_execs_nil ⟨σ3,H3,I4,qn⟩
 ·refine wpAny_passesOwn hp (thn (T.item X rfl rfl rfl hc i yZ s3 σ3 H3 X.xe I3 (stat fr3) st3 go) fun r s4 ⟨u,hr,h4⟩=>?_);subst hr;refine wpAny_passesOwn hp (thn h4 fun _ s5 ⟨x,H5,I5,r5,y5,st5,fr5⟩=>?_);have I5':=I5.pinned (stat fr5) (T.obj _ _ st5);refine wpAny_passesOwn hp (thn (hg _ s5 σ3 H5 x u _ I5' r5 (step x H5 y5)) fun _ s6 ⟨σ6,H6,I6,q6⟩=>?_);refine wpAny_passesOwn hp (thn (hb _ s6 σ6 H6 _ I6 q6) fun f s7 q7=>?_);have again:∀{σ7:St} {H7:Hp},Inv X (yZ++nD fp s5.heap) σ7 H7 s7->N σ7 H7->∃m,m<n/\∃i σ' H',Inv X yZ σ' H' s7/\tn i s7.heap/\(∀b∈fp,H' b=none)/\W i m σ' H':=fun {σ7 H7} I7 n7=>by
   obtain⟨m',hm,w7⟩:=hN σ7 H7 n7;refine⟨m',hm,i+1,σ7,H7,I7.kI,T.keep _ _ _ st5 fun b hb o e=>(I7.pin (b,o) (NU _ (NU _ (gC hb e)))).1,fun b hb=>?_,w7⟩;obtain⟨o,e,d⟩:=T.obj _ _ st5 b hb;exact(I7.pin (b,o) (NU _ (NU _ (gC hb e)))).2.1
  cases f with
  |next=>obtain⟨σ7,H7,I7,n7⟩:=q7;exact again I7 n7
  |cont=>obtain⟨σ7,H7,I7,n7⟩:=q7;exact again I7 n7
  |brk=>obtain⟨σ7,H7,I7,q7⟩:=q7;exact⟨σ7,H7,I7.kI,q7⟩
  |ret v=>obtain⟨x7,σ7,H7,I7,r7,q7⟩:=q7;exact⟨x7,σ7,H7,I7.kI,r7,q7⟩
end
end
noncomputable abbrev R2:=V->V->Hp->VK->Prop
def OpR(X:Cx)(f:Value->Value->Sem Value)(r:R2):Prop:=
 ∀(yZ:List (Addr×Obj)) (s:Shared) (σ:St) (H:Hp) (x y:V) (v u:Value) (Q:VK),Inv X yZ σ H s->RelV x v->RelV y u->r x y H Q ->
  wpAny (model X.prog X.w) X.A (f v u) (EP X yZ σ Q) X.xe s
def UnR(X:Cx)(f:Value->Sem Value)(r:V->Hp->VK->Prop):Prop:=
 ∀(yZ:List (Addr×Obj)) (s:Shared) (σ:St) (H:Hp) (x:V) (v:Value) (Q:VK),Inv X yZ σ H s->RelV x v->r x H Q ->
  wpAny (model X.prog X.w) X.A (f v) (EP X yZ σ Q) X.xe s
def fy(X:Cx)(f:Value)(r:List V->Hp->VK->Prop):Prop:=
 ∀(yZ:List (Addr×Obj)) (s:Shared) (σ:St) (H:Hp) (xs:List V) (us:List Value) (Q:VK),Inv X yZ σ H s->Vals xs us->r xs H Q ->
  wpAny (model X.prog X.w) X.A (call f us) (EP X yZ σ Q) X.xe s
def Mt(X:Cx)(r:V->Hp->(Bool->Hp->Prop)->Prop):Prop:=
 ∀(yZ:List (Addr×Obj)) (s:Shared) (σ:St) (H:Hp) (x:V) (v:Value) (Q:Bool->Hp->Prop),Inv X yZ σ H s->RelV x v->r x H Q ->
  wpAny (model X.prog X.w) X.A (truthy v) (TP X yZ σ Q) X.xe s
def tOp(r:R2)(ta tb:TE):TE:=fun σ H Q=>ta σ H fun x H1=>tb σ H1 fun y H2=>r x y H2 Q
def tUn(r:V->Hp->VK->Prop)(ta:TE):TE:=fun σ H Q=>ta σ H fun x H1=>r x H1 Q
def rI(C:Int->Int->Prop)(g:Int->Int->V):R2:=fun x y H Q=>∃i j,x=.int i/\y=.int j/\C i j/\Q (g i j) H
def rI0(g:Int->Int->V):R2:=fun x y H Q=>∃i j,x=.int i/\y=.int j/\Q (g i j) H
def rU(g:Int->V):V->Hp->VK->Prop:=fun x H Q=>∃i,x=.int i/\Q (g i) H
section
variable{X:Cx}{a b c:Expr}{ta tb tc:TE}{pos:Pos}
theorem GD(ha:PE X a ta)(hb:PE X b tb){yZ:List (Addr×Obj)}{s:Shared}{σ:St}{H:Hp}{R:V->V->Hp->Prop}(I:Inv X yZ σ H s)
  (h:ta σ H fun x H1=>tb σ H1 fun y H2=>R x y H2) {Q:Value->Shared->Prop} {f:Value->Value->Sem Value}
  (hf:∀v u s2 x y H2,Inv X yZ σ H2 s2->RelV x v->RelV y u->R x y H2->wpAny (model X.prog X.w) X.A (f v u) Q X.xe s2) :
  wpAny (model X.prog X.w) X.A (eval a X.env) (fun v s₁=>wpAny (model X.prog X.w) X.A (eval b X.env) (fun u s₂=>wpAny (model X.prog X.w) X.A (f v u) Q X.xe s₂) X.xe s₁) X.xe s:=by
 refine thn (ha yZ s σ H _ I h) fun v s1 ⟨x,H1,I1,r1,q1⟩=>?_;refine thn (hb yZ s1 σ H1 _ I1 q1) fun u s2 ⟨y,H2,I2,r2,q2⟩=>?_;exact hf v u s2 x y H2 I2 r1 r2 q2
theorem Js{op:Operator}{r:R2}(ho:OpR X (binaryOp op) r)(ha:PE X a ta)(hb:PE X b tb):PE X (.BinOp a op b pos) (tOp r ta tb):=by intro yZ s σ H Q I h;exact wpAny_BinOp (GD ha hb I h fun v u s2 x y H2 I2 rx ry q=>ho yZ s2 σ H2 x y v u Q I2 rx ry q)
theorem Jt{op:UnaryOp}{r:V->Hp->VK->Prop}(ho:UnR X (unaryOp op) r)(ha:PE X a ta):PE X (.UnaryOp op a pos) (tUn r ta):=by intro yZ s σ H Q I h;exact UnaryOp_ (thn (ha yZ s σ H _ I h) fun v s1 ⟨x,H1,I1,r1,q1⟩=>ho yZ s1 σ H1 x v Q I1 r1 q1)
theorem opI{f:Value->Value->Sem Value}{C:Int->Int->Prop}{g:Int->Int->Int}
  (rule:∀(i j:Int) (t u:Tok) (s:Shared) (Q:Value->Shared->Prop) (E:Value->Shared->Prop),C i j->Q (.int (g i j) s.toks) { s with toks:=s.toks+1 }->wpAny (model X.prog X.w) X.A (f (.int i t) (.int j u)) Q E s) :
  OpR X f (rI C fun i j=>.int (g i j)):=by
 intro yZ s σ H x y v u Q I rx ry h;obtain⟨i,j,rfl,rfl,hc,q⟩:=h;obtain⟨t,rfl⟩:=rx;obtain⟨t',rfl⟩:=ry;exact rule i j t t' s _ _ hc ⟨.int (g i j),H,I.tok _,⟨_,rfl⟩,q⟩
theorem Ju{f:Value->Value->Sem Value}{g:Int->Int->Int}
  (rule:∀(i j:Int) (t u:Tok) (s:Shared) (Q:Value->Shared->Prop) (E:Value->Shared->Prop),Q (.int (g i j) s.toks) { s with toks:=s.toks+1 }->wpAny (model X.prog X.w) X.A (f (.int i t) (.int j u)) Q E s) :
  OpR X f (rI0 fun i j=>.int (g i j)):=by
 intro yZ s σ H x y v u Q I rx ry h;obtain⟨i,j,rfl,rfl,q⟩:=h;obtain⟨t,rfl⟩:=rx;obtain⟨t',rfl⟩:=ry;exact rule i j t t' s _ _ ⟨.int (g i j),H,I.tok _,⟨_,rfl⟩,q⟩
theorem C5{f:Value->Value->Sem Value}{g:Int->Int->Bool}
  (rule:∀(i j:Int) (t u:Tok) (s:Shared) (Q:Value->Shared->Prop) (E:Value->Shared->Prop),Q (.bool (g i j)) s->wpAny (model X.prog X.w) X.A (f (.int i t) (.int j u)) Q E s) :
  OpR X f (rI0 fun i j=>.bl (g i j)):=by
 intro yZ s σ H x y v u Q I rx ry h;obtain⟨i,j,rfl,rfl,q⟩:=h;obtain⟨t,rfl⟩:=rx;obtain⟨t',rfl⟩:=ry;exact rule i j t t' s _ _ ⟨.bl (g i j),H,I,rfl,q⟩
def Jv(i j:Int):Prop:=0<=j/\j<=1000000/\i.natAbs<2 ^ 64
def zP(i j:Int):Prop:=(-(2 ^ 64)<i/\i<2 ^ 64)\/(-(2 ^ 64)<j/\j<2 ^ 64)
theorem zP.ok{i j:Int}(h:zP i j):IntMulOk i j:=by
 rcases h with⟨h1,h2⟩ | ⟨h1,h2⟩
 ·exact .of_left (intBits_le_64 h1 h2)
 ·exact .of_right (intBits_le_64 h1 h2)
theorem GF:OpR X (binaryOp .Add) (rI0 fun i j=>.int (i+j)):=Ju fun _ _ _ _ _ _ _ q=>add_int q
theorem GG:OpR X (binaryOp .Sub) (rI0 fun i j=>.int (i-j)):=Ju fun _ _ _ _ _ _ _ q=>sub_int q
theorem GH:OpR X (binaryOp .Mult) (rI zP fun i j=>.int (i*j)):=opI fun _ _ _ _ _ _ _ hc q=>mul_int q hc.ok
theorem GI:OpR X (binaryOp .Mod) (rI (fun _ j=>0<j) fun i j=>.int (i % j)):=opI fun i j _ _ _ _ _ hc q=>by have h1:(0:Int)<j:=hc;exact mod_int' (by lia) (by rw[Int.fmod_eq_emod_of_nonneg i (by lia)];exact q)
theorem GJ:OpR X (binaryOp .Pow) (rI Jv fun i j=>.int (i ^ j.toNat)):=opI fun _ _ _ _ _ _ _ hc q=>pow_int_small hc.1 hc.2.1 hc.2.2 q
theorem unI{f:Value->Sem Value}{g:Int->Int}
  (rule:∀(i:Int) (t:Tok) (s:Shared) (Q:Value->Shared->Prop) (E:Value->Shared->Prop),Q (.int (g i) s.toks) { s with toks:=s.toks+1 }->wpAny (model X.prog X.w) X.A (f (.int i t)) Q E s) :
  UnR X f (rU fun i=>.int (g i)):=by
 intro yZ s σ H x v Q I rx h;obtain⟨i,rfl,q⟩:=h;obtain⟨t,rfl⟩:=rx;exact rule i t s _ _ ⟨.int (g i),H,I.tok _,⟨_,rfl⟩,q⟩
theorem GK:UnR X (unaryOp .USub) (rU fun i=>.int (-i)):=unI fun _ _ _ _ _ q=>neg_int q
end
section
variable{X:Cx}{a b c:Expr}{ta tb tc:TE}{pos:Pos}
theorem Jw:OpR X (compareOp .Lt) (rI0 fun i j=>.bl (decide (i<j))):=C5 fun _ _ _ _ _ _ _ q=>lt_int q
theorem zQ:OpR X (compareOp .LtE) (rI0 fun i j=>.bl (decide (i<=j))):=C5 fun _ _ _ _ _ _ _ q=>le_int q
theorem Jx:OpR X (compareOp .Gt) (rI0 fun i j=>.bl (decide (j<i))):=C5 fun _ _ _ _ _ _ _ q=>gt_int q
theorem Jy:OpR X (compareOp .GtE) (rI0 fun i j=>.bl (decide (j<=i))):=C5 fun _ _ _ _ _ _ _ q=>ge_int q
theorem OpR.or{f:Value->Value->Sem Value}{r r':R2}(h:OpR X f r)(h':OpR X f r'):OpR X f (fun x y H Q=>r x y H Q\/r' x y H Q):=by
 intro yZ s σ H x y v u Q I rx ry q;rcases q with q | q
 ·exact h yZ s σ H x y v u Q I rx ry q
 ·exact h' yZ s σ H x y v u Q I rx ry q
theorem ir(b:Expr){op:CmpOp}(h:op≠.In:=by decide)(h2:op≠.NotIn:=by decide):behindInMarks op b=false:=by
 have e1:(op == CmpOp.In)=false:=by cases op<;>first | rfl | exact absurd rfl h
 have e2:(op == CmpOp.NotIn)=false:=by cases op<;>first | rfl | exact absurd rfl h2
 cases b<;>simp[behindInMarks,e1,e2]
theorem C6{op:CmpOp}{r:R2}(ho:OpR X (compareOp op) r)(ha:PE X a ta)(hb:PE X b tb)(hm:behindInMarks op b=false):PE X (.Compare a [op] [b] pos) (tOp r ta tb):=by intro yZ s σ H Q I h;exact wpAny_Compare1 (GD ha hb I h fun v u s2 x y H2 I2 rx ry q=>ho yZ s2 σ H2 x y v u Q I2 rx ry q) hm
def Fg(t:TE):TT:=fun σ H Q=>t σ H fun x H'=>∃k,x=.bl k/\Q k H'
theorem C7{op:CmpOp}{r:R2}(ho:OpR X (compareOp op) r)(ha:PE X a ta)(hb:PE X b tb)(hm:behindInMarks op b=false):PT X (.Compare a [op] [b] pos) (Fg (tOp r ta tb)):=by
 intro yZ s σ H Q I h;refine wpAny_isTrue_Compare1 (thn (ha yZ s σ H _ I h) fun v s1 ⟨x,H1,I1,r1,q1⟩=>thn (hb yZ s1 σ H1 _ I1 q1) fun u s2 ⟨y,H2,I2,r2,q2⟩=>thn (ho yZ s2 σ H2 x y v u _ I2 r1 r2 q2) fun c s3 ⟨z,H3,I3,r3,k,e,q3⟩=>?_) hm
 subst e;cases r3;exact wpAny_truthy_bool ⟨H3,I3,q3⟩
def zR(r r':R2)(ta tb tc:TE):TE:=fun σ H Q=>ta σ H fun x H1=>tb σ H1 fun y H2=>r x y H2 fun z H3=>∃k,z=.bl k /\
 (if k=true then tc σ H3 fun w' H4=>r' y w' H4 Q else Q (.bl false) H3)
theorem zS{op op':CmpOp}{r r':R2}(ho:OpR X (compareOp op) r)(ho':OpR X (compareOp op') r')(ha:PE X a ta)(hb:PE X b tb)(hc:PE X c tc)
  (hm:lastMarks [op,op'] [b,c]=false:=by with_unfolding_all rfl):PE X (.Compare a [op,op'] [b,c] pos) (zR r r' ta tb tc):=by
 intro yZ s σ H Q I h;refine Compare_chain (thn (ha yZ s σ H _ I h) fun v s1 ⟨x,H1,I1,r1,q1⟩=>chain_link (thn (hb yZ s1 σ H1 _ I1 q1) fun u s2 ⟨y,H2,I2,r2,q2⟩=>thn (ho yZ s2 σ H2 x y v u _ I2 r1 r2 q2) fun d s3 ⟨z,H3,I3,r3,k,e,q3⟩=>?_)) hm
 subst e;cases r3;refine wpAny_truthy_bool ?_;cases k with
 |false=>exact ite_ff ⟨.bl false,H3,I3,rfl,q3⟩
 |true=>exact ite_tt (chain_last (thn (hc yZ s3 σ H3 _ I3 q3) fun w' s4 ⟨z',H4,I4,r4,q4⟩=>ho' yZ s4 σ H4 y z' u w' Q I4 r2 r4 q4))
def GL(K:eg)(x:V)(H:Hp)(k:Bool):Prop:=
 match x with
 |.non=>k=false
 |.bl b=>k=b
 |.int i=>k=(i != 0)
 |.str y=>y.length<=sizeLine/\k=((y.length:Int) != 0)
 |.byt y=>y.size<=sizeLine/\k=((y.size:Int) != 0)
 |.ref p=>(∃xs,SqL K H p xs/\k=!xs.isEmpty)\/(∃xs,SqT K H p xs/\k=!xs.isEmpty)\/∃kvs,H p=some (.dK kvs)/\k=!kvs.isEmpty
 |_=>False
theorem vc{κ:Type}{kvs:List (κ×V)}{vs:List (κ×Value)}(r:KV kvs vs):(!vs.isEmpty)=!kvs.isEmpty:=by cases r<;>rfl
theorem nE{xs:List V}{its:List Value}(r:Vals xs its):(!its.toArray.isEmpty)=!xs.isEmpty:=by cases r<;>simp
theorem nF:(sizeLine:Nat)<2 ^ 63:=by rw[sizeLine_eq];decide
theorem GN:Mt X (fun x H Q=>∃k,GL X.K x H k/\Q k H):=by
 intro yZ s σ H x v Q I rx h;obtain⟨k,e,q⟩:=h;have hl:=nF;have hs:sizeLine=16777216:=sizeLine_eq;cases x with
 |non=>cases rx;have e':k=false:=e;subst e';exact truthy_none ⟨H,I,q⟩
 |bl b=>cases rx;have e':k=b:=e;subst e';exact wpAny_truthy_bool ⟨H,I,q⟩
 |int i=>obtain⟨t,rfl⟩:=rx;have e':k=(i != 0):=e;subst e';exact PySem.P.truthy_int ⟨H,I,q⟩
 |str y=>obtain⟨t,rfl⟩:=rx;obtain⟨hy,e'⟩:y.length<=sizeLine/\k=((y.length:Int) != 0):=e;subst e';exact PySem.P.truthy_str (by lia) ⟨H,I.tok _,q⟩
 |byt y=>obtain⟨t,rfl⟩:=rx;obtain⟨hy,e'⟩:y.size<=sizeLine/\k=((y.size:Int) != 0):=e;subst e';exact PySem.W.truthy_bytes (by lia) ⟨H,I.tok _,q⟩
 |ref p=>
  cases rx;have e':(∃xs,SqL X.K H p xs/\k=!xs.isEmpty)\/(∃xs,SqT X.K H p xs/\k=!xs.isEmpty)\/∃kvs,H p=some (.dK kvs)/\k=!kvs.isEmpty:=e;rcases e' with⟨xs,hx,e'⟩ | ⟨xs,hx,e'⟩ | ⟨kvs,hx,e'⟩
  ·subst e';obtain⟨its,r,pl,hz⟩:=I.list hx;have FH:=r.length;exact wpAny_truthy_list pl.isList (by simp only[NG];lia) ⟨H,I.tok _,by rw[nE r];exact q⟩
  ·subst e';obtain⟨its,r,pl,hz⟩:=I.tuple hx;have FH:=r.length;exact truthy_tuple pl (by simp only[NG];lia) ⟨H,I.tok _,by rw[nE r];exact q⟩
  ·subst e';obtain⟨hz,hS,vs,r,m⟩:kvs.length<=sizeLine/\(p == sysModules)=false/\∃vs,KV kvs vs/\s.heap.DictOf (bI X.prog X.w) p vs:=I.hok p _ hx;have FH:kvs.length=vs.length:=Paired.length r;exact wpAny_truthy_dict hS m (by lia) ⟨H,I.tok _,by rw[vc r];exact q⟩
 |_=>exact(show False from e).elim
theorem zT(ha:PE X a ta)(he:∀whole,isTrue a X.env whole=(do let v <- whole;standAt a.pos;holding [v] (truthy v))) :
  PT X a (fun σ H Q=>ta σ H fun x H'=>∃k,GL X.K x H' k/\Q k H'):=by
 intro yZ s σ H Q I h;exact isTrue_plain (thn (ha yZ s σ H _ I h) fun v s1 ⟨x,H1,I1,r1,q1⟩=>GN yZ s1 σ H1 x v Q I1 r1 q1) (he _)
theorem vals1{x:V}{us:List Value}(r:Vals [x] us):∃u,us=[u]/\RelV x u:=by
 cases r with
 |cons r1 r2=>cases r2;exact⟨_,rfl,r1⟩
theorem vals2{x y:V}{us:List Value}(r:Vals [x,y] us):∃u w',us=[u,w']/\RelV x u/\RelV y w':=by
 cases r with
 |cons r1 r2=>
  cases r2 with
  |cons r3 r4=>cases r4;exact⟨_,_,rfl,r1,r3⟩
theorem zU:fy X (.builtin "abs") (fun xs H Q=>∃i,xs=[.int i]/\Q (.int (if i<0 then -i else i)) H):=by intro yZ s σ H xs us Q I r h;obtain⟨i,rfl,q⟩:=h;obtain⟨u,rfl,t,rfl⟩:=vals1 r;exact call_abs_int fun u tk=>⟨.int (if i<0 then -i else i),H,I.tok _,⟨_,rfl⟩,q⟩
theorem yl(hc:X.calm=true):fy X (.builtin "max") (fun xs H Q=>∃i j,xs=[.int i,.int j]/\Q (.int (if j>i then j else i)) H):=by
 intro yZ s σ H xs us Q I r h;obtain⟨i,j,rfl,q⟩:=h;obtain⟨u,w',rfl,⟨t,rfl⟩,⟨t',rfl⟩⟩:=vals2 r;refine max_two_ints (I.ok.hd hc) fun h' tk k=>⟨_,H,I.kept k,?_,q⟩;by_cases hj:j>i
 ·rw[if_pos hj,if_pos hj];exact⟨_,rfl⟩
 ·rw[if_neg hj,if_neg hj];exact⟨_,rfl⟩
theorem ym(hc:X.calm=true):fy X (.builtin "min") (fun xs H Q=>∃i j,xs=[.int i,.int j]/\Q (.int (if j<i then j else i)) H):=by
 intro yZ s σ H xs us Q I r h;obtain⟨i,j,rfl,q⟩:=h;obtain⟨u,w',rfl,⟨t,rfl⟩,⟨t',rfl⟩⟩:=vals2 r;refine min_two_ints (I.ok.hd hc) fun h' tk k=>⟨_,H,I.kept k,?_,q⟩;by_cases hj:j<i
 ·rw[if_pos hj,if_pos hj];exact⟨_,rfl⟩
 ·rw[if_neg hj,if_neg hj];exact⟨_,rfl⟩
theorem yo:fy X (.type "int") (fun xs H Q=>(∃i,xs=[.int i]/\Q (.int i) H)\/∃k,xs=[.bl k]/\Q (.int (if k then 1 else 0)) H):=by
 intro yZ s σ H xs us Q I r h;rcases h with⟨i,rfl,q⟩ | ⟨k,rfl,q⟩
 ·obtain⟨u,rfl,t,rfl⟩:=vals1 r;exact call_int_int ⟨.int i,H,I,⟨_,rfl⟩,q⟩
 ·obtain⟨u,rfl,r1⟩:=vals1 r;cases r1;exact call_int_bool ⟨.int (if k then 1 else 0),H,I.tok _,⟨_,rfl⟩,q⟩
end
section
variable{mA:Str->Option Value}{h:Heap}{v:V}
structure GO(h:Heap)(x dx C:Addr)(mA:Str->Option Value):Prop where
 obj:h.get? x=some (QB C dx)
 ns:h.Ns1 dx mA
 ne:dx≠x
theorem p_{dx:Addr}(n:h.Ns1 dx mA):∃od,h.get? dx=some od/\∀name,QL name od=some (mA name):=by
 obtain⟨o,es,ep,ho,hd,hk,_,hm⟩:=n;refine⟨o,ho,fun name=>?_⟩;have e:=hm name;unfold nsFind findBy at e;rw[<- Qf]at e;unfold QL;rw[hd];dsimp only;split
 ·rename_i y q;rw[q]at e;exact congrArg some e
 ·rename_i q;rw[q]at e;have a:es.toList.any (·.refKey)=false:=by
   rw[List.any_eq_false];intro y hy;obtain⟨z,t,hkey⟩:=hk y (Array.mem_toList_iff.mp hy);simp[DictEntry.refKey,hkey]
  have a':¬es.toList.any (·.refKey)=true:=by rw[a];exact N6
  rw[if_neg a'];exact congrArg some e
theorem GO.look{x dx C:Addr}(I:GO h x dx C mA):∃od,PySem.W.InstAt h x (QB C dx) C (some od)/\∀name,QL name od=some (mA name):=
 let ⟨od,ho,hl⟩:=p_ I.ns
 ⟨od,⟨I.obj,rfl,rfl,ho⟩,hl⟩
theorem jC.some_of{o:Option Value}(r:jC (some v) o):∃u,o=some u/\RelV v u:=by
 cases o with
 |none=>exact(show False from r).elim
 |some u=>exact⟨u,rfl,r⟩
theorem yp{u:Value}(r:RelV v u):PySem.W.handedIn u=true:=by
 cases v with
 |non=>cases (show u=Pu from r);rfl
 |bl b=>cases (show u=QM b from r);rfl
 |int i=>obtain⟨t,e⟩:=(show ∃t,u=Value.int i t from r);cases e;rfl
 |str x=>obtain⟨t,e⟩:=(show ∃t,u=Value.str x t from r);cases e;rfl
 |byt b=>obtain⟨t,e⟩:=(show ∃t,u=Value.bytes b t from r);cases e;rfl
 |flt b=>obtain⟨t,e⟩:=(show ∃t,u=QU b t from r);cases e;rfl
 |ref a=>cases (show u=NN a from r);rfl
 |ty n=>cases (show u=O9 n from r);rfl
end
section
variable{P:Program}{w:World}{H H':Hp}{h h':Heap}{a C dx:Addr}{fs fs':List (Str×V)}
theorem C8(hok:HOk P w H h)(e:H a=some (.ins C dx fs)):∃mA,GO h a dx C mA/\(∀f,jC (fs.lookup f) (mA f))/\PySem.Within mA (fs.map (·.1))/\fs.length<=1000/\H dx=some (.own a):=by
 obtain⟨d,z,ne,ob,mA,n,r,q⟩:=(show br P w H h a (.ins C dx fs) from hok a _ e)
 exact⟨mA,⟨ob,n,ne⟩,r,q,z,d⟩
end
structure Cls(K:eg)(C:Addr):Prop where
 pg:PySem.W.plainGet K C Str.empty=true
 hd:PB K C=true
 po:PySem.W.plainOver K C=true
 sa:N1 K (.ref C) "__setattr__" = some (some (.builtin "object.__setattr__"))
theorem Cls.get{K:eg}{C:Addr}(c:Cls K C)(f:Str):PySem.W.plainGet K C f=true:=c.pg
section
variable{X:Cx}{yZ:List (Addr×Obj)}{σ:St}{H:Hp}{s:Shared}{a C dx:Addr}{fs:List (Str×V)}{f:Str}{v:V}{A:Around}{E:Value->Shared->Prop}
theorem C9{prog:Program}{w:World}{env:Env}{e:Expr}{f:Str}{pos:Pos}{s:Shared}{Q:Value->Shared->Prop}(hb:attributeBase e f env (eval e env)=eval e env)
  (h:wpAny (model prog w) A (eval e env) (fun o s₁=>wpAny (model prog w) A (getAttr o f true) Q E s₁) E s):wpAny (model prog w) A (eval (.Attribute e f pos) env) Q E s:=
 Attribute_any_ h (by rw[arm_eval_Attribute,hb])
end
section
variable{X:Cx}{yZ:List (Addr×Obj)}{σ:St}{H:Hp}{s:Shared}{A:Around}{E:Value->Shared->Prop}{Q:Value->Shared->Prop}{c:Value}{b:Bool}
inductive kJ(K:eg)(H:Hp):V->Value->Prop where
 |non:kJ K H .non (.type "NoneType")
 |bl (x:Bool):kJ K H (.bl x) (.type "bool")
 |int (i:Int):kJ K H (.int i) (.type "int")
 |str (x:Str):kJ K H (.str x) (.type "str")
 |flt (x:UInt64):kJ K H (.flt x) (.type "float")
 |lst {a:Addr} {xs:List V} (e:H a=some (.lst xs)):kJ K H (.ref a) (.type "list")
 |frz {a:Addr} {o:Obj} {xs:List V} (e:H a=some (.frz o (.lst xs))):kJ K H (.ref a) (.type "list")
 |tup {a:Addr} {xs:List V} (e:H a=some (.tup xs)):kJ K H (.ref a) (.type "tuple")
 |dK {a:Addr} {kvs:List (Key×V)} (e:H a=some (.dK kvs)):kJ K H (.ref a) (.type "dict")
 |dT {a:Addr} {kvs:List (List Key×V)} {ts:List Addr} (e:H a=some (.dT kvs ts)):kJ K H (.ref a) (.type "dict")
 |ins {a C dx:Addr} {fs:List (Str×V)} (e:H a=some (.ins C dx fs)) (cl:Cls K C) (ha:N1 K (.ref C) "__class__" = some (some (.builtin "object.__class__")))
   (hn:PD K (.builtin "object.__class__") "__get__" = some (some (.builtin "getset_descriptor.__get__"))) (htk:PySem.W.takesIn K (.builtin "object.__class__")=some true)
   (hm:Oq K C (.type "object")=some true):kJ K H (.ref a) (.ref C)
theorem yq{x:V}{u t:Value}(I:Inv X yZ σ H s)(rx:RelV x u)(ty:kJ X.K H x t)(e:NK X.K t c=some b)(h:∀tk,Q (.bool b) { s with toks:=tk }) :
  wpAny (model X.prog X.w) A (call (.builtin "isinstance") [u,c]) Q E s:=by
 cases ty with
 |non=>cases (show u=Pu from rx);exact Om PySem.W.kitx_none I.kIn OB e (fun z=>nomatch z) h
 |bl y=>cases (show u=QM y from rx);exact Om PySem.W.kitx_bool I.kIn OB e (fun z=>nomatch z) h
 |int i=>obtain⟨t,q⟩:=(show ∃t,u=Value.int i t from rx);cases q;exact Om PySem.W.kitx_int I.kIn OB e (fun z=>nomatch z) h
 |str y=>obtain⟨t,q⟩:=(show ∃t,u=Value.str y t from rx);cases q;exact Om PySem.W.kitx_str I.kIn OB e (fun z=>nomatch z) h
 |flt y=>obtain⟨t,q⟩:=(show ∃t,u=QU y t from rx);cases q;exact Om PySem.W.kitx_float I.kIn OB e (fun z=>nomatch z) h
 |@lst a xs ea=>
  cases (show u=NN a from rx);obtain⟨_,_,n,_,h1⟩:=(show br X.prog X.w H s.heap a (.lst xs) from I.hok a _ ea)
  exact Om PySem.W.kitx_list I.kIn ⟨_,h1,rfl⟩ e (fun z=>nomatch z) h
 |@frz a ob xs ea=>
  cases (show u=NN a from rx);obtain⟨_,_,_,n,_,h1⟩:=(show br X.prog X.w H s.heap a (.frz ob (.lst xs)) from I.hok a _ ea)
  exact Om PySem.W.kitx_list I.kIn ⟨_,h1,rfl⟩ e (fun z=>nomatch z) h
 |@tup a xs ea=>
  cases (show u=NN a from rx);obtain⟨_,_,_,p⟩:=(show br X.prog X.w H s.heap a (.tup xs) from I.hok a _ ea)
  obtain⟨o,h1,h2,_⟩:=p;exact Om PySem.W.kitx_tuple I.kIn ⟨o,h1,h2⟩ e (fun z=>nomatch z) h
 |@dK a kvs ea=>
  cases (show u=NN a from rx);obtain⟨_,_,vs,_,p⟩:=(show br X.prog X.w H s.heap a (.dK kvs) from I.hok a _ ea)
  obtain⟨o,es,ep,h1,h2,_⟩:=p;exact Om PySem.W.kitx_dict I.kIn ⟨o,h1,h2.1⟩ e (fun z=>nomatch z) h
 |@dT a kvs ts ea=>
  cases (show u=NN a from rx);obtain⟨_,_,xs,_,o,es,ep,h1,h2,_⟩:=(show br X.prog X.w H s.heap a (.dT kvs ts) from I.hok a _ ea)
  exact Om PySem.W.kitx_dict I.kIn ⟨o,h1,h2.1⟩ e (fun z=>nomatch z) h
 |@ins a C dx fs ea cl ha hn htk hm=>cases (show u=NN a from rx);obtain⟨mA,O,_⟩:=C8 I.hok ea;obtain⟨od,J,_⟩:=O.look;exact Om (PySem.W.kitx_own (cl.get _) cl.hd ha hn htk hm) I.kIn J e (fun z=>nomatch z) h
end
section
variable{A:Around}{kw:List (Str×Value)}{us:List Value}{k:Nat}{C:Addr}
structure bK(k:Nat)(A:Around):Prop where
 hd:A.handled=none
 dp:A.depth+3*k+5<recursionLimit
 un:A.units+16*k+200<cLine
 gd:A.guards=some []
theorem bK.mono{j k:Nat}(r:bK k A)(h:j<=k):bK j A:=⟨r.hd,by have:=r.dp;lia,by have:=r.un;lia,r.gd⟩
theorem bK.deeper(r:bK (k+1) A)(env:Env):bK k (A.deeper env):=
 ⟨r.hd,by have:=r.dp;show A.depth+1+3*k+5<_;lia,by have:=r.un;show A.units+3+16*k+200<_;lia,r.gd⟩
theorem vd:(A.under (.builtin "type.__call__" ⟨.ref C::us,kw⟩)).depth=A.depth+1:=by first | rfl | simp[Qs,Code.weight,Code.isCreation,Code.isGuard,Code.isCaller,Code.frames,QS,guardIds]
theorem ve:(A.under (.builtin "type.__call__" ⟨.ref C::us,kw⟩)).units=A.units+1:=by first | rfl | simp[Qs,Code.cUnits,Code.frames,QS]
theorem sI:(A.under (.builtin "type.__call__" ⟨.ref C::us,kw⟩)).guards=A.guards:=by cases A with | mk d h f g u=>cases g<;>first | rfl | simp[Qs,Code.guards,Code.isGuard,guardIds,pushGuards]
theorem bK.make(r:bK (k+1) A)(C:Addr)(us:List Value)(kw:List (Str×Value)):bK k (A.under (.builtin "type.__call__" ⟨.ref C::us,kw⟩)):=
 ⟨r.hd,by have:=r.dp;rw[vd];lia,by have:=r.un;rw[ve];lia,by rw[sI];exact r.gd⟩
theorem bK.depth(r:bK k A):A.depth<recursionLimit:=by have:=r.dp;lia
theorem bK.units(r:bK k A):A.units+64<cLine:=by have:=r.un;lia
def yr:TA:=fun _ H Q=>Q [] H
def ju(ta:TE)(tr:TA):TA:=fun σ H Q=>ta σ H fun x H1=>tr σ H1 fun xs H2=>Q (x::xs) H2
end
section
variable{X:Cx}{e:Expr}{es:List Expr}{te:TE}{t:TA}{pos:Pos}
theorem iu:PA X [] yr:=fun _ _ _ _ H Q I h=>OY ⟨[],H,I,.nil,h⟩
theorem cY(ha:PE X e te)(hr:PA X es t)(hs:starEach (e::es) X.env=(false,eval e X.env)::starEach es X.env:=by rfl):PA X (e::es) (ju te t):=by intro pos yZ s σ H Q I h;rw[hs];show wpAny _ _ (spliced ((false,eval e X.env)::backTo pos (starEach es X.env))) _ _ s;refine Calls.spliced_cons (thn (ha yZ s σ H _ I h) fun u s1 ⟨x,H1,I1,r1,q1⟩=>?_);exact thn (hr pos yZ s1 σ H1 _ I1 q1) fun us s2 ⟨xs,H2,I2,r2,q2⟩=>⟨x::xs,H2,I2,.cons r1 r2,q2⟩
def GP(t:TA):TE:=fun σ H Q=>t σ H fun xs H1=>xs.length<=sizeLine/\∀p,H1 p=none->Q (.ref p) (upd H1 p (.tup xs))
def Jz(t:TA):TE:=fun σ H Q=>t σ H fun xs H1=>xs.length<=sizeLine/\∀p,H1 p=none->Q (.ref p) (upd H1 p (.lst xs))
theorem zV{x1}(h:PA X es t):PE X (.Tuple es x1 pos) (GP t):=by intro yZ s σ H Q I hq;refine wpAny_Tuple_spliced (thn (h pos yZ s σ H _ I hq) fun us s1 ⟨xs,H1,I1,r,z,q⟩=>⟨by rw[<- r.length];exact z,?_⟩);have hf:H1 s1.heap.objs.size=none:=I1.hok.fresh (NC _);refine⟨.ref s1.heap.objs.size,upd H1 s1.heap.objs.size (.tup xs),I1.laid (t':=s1.toks) (fun b u e=>HT _ e) (NC _) ?_,rfl,q _ hf⟩;exact⟨z,us,r,⟨_,Og _ rfl,rfl,_,rfl⟩⟩
theorem GQ(h:PA X es t):PE X (.List es pos) (Jz t):=by intro yZ s σ H Q I hq;refine wpAny_List_spliced (thn (h pos yZ s σ H _ I hq) fun us s1 ⟨xs,H1,I1,r,z,q⟩=>⟨by rw[<- r.length];exact z,?_⟩);have hf:H1 s1.heap.objs.size=none:=I1.hok.fresh (NC _);refine⟨.ref s1.heap.objs.size,upd H1 s1.heap.objs.size (.lst xs),I1.laid (t':=s1.toks) (fun b u e=>HT _ e) (NC _) ?_,rfl,q _ hf⟩;exact⟨z,us,0,r,Og _ rfl⟩
end
noncomputable abbrev Sp:=List V->Hp->VK->XK->Prop
noncomputable abbrev CXT:=List Env->Hp->Shared->XK->Value->Shared->Prop
structure vf(P:Program)(w:World)(K:eg)(mg:Str->Option Value)(base:Heap)(A:Around)(outer:List Env)(s:Shared)(H:Hp):Prop where
 frames:A.frames=some outer
 mod:Mod K mg base
 bs:∀b o,base.get? b=some o->s.heap.get? b=some o/\H b=none
 bsz:base.objs.size<=s.heap.objs.size
 lE:s.heap.FunFrames base outer
 frf:∀b∈frs outer,H b=none
 hok:HOk P w H s.heap
 bare:AllBare s.gens
def CE(outer:List Env)(P:Program)(w:World)(H:Hp)(s:Shared)(Q:VK)(u:Value)(s':Shared):Prop:=
 ∃v H',s'.os=s.os/\AllBare s'.gens/\Un (frs outer) [] H H' s.heap s'.heap/\HOk P w H' s'.heap/\RelV v u/\Q v H'
def CR(CX:CXT)(outer:List Env)(P:Program)(w:World)(H:Hp)(s:Shared)(Q:VK)(E:XK)(r:Result)(s':Shared):Prop:=
 match r with
 |.ok (.ret u)=>CE outer P w H s Q u s'
 |.ok _=>False
 |.error e=>CX outer H s E e s'
structure bH(P:Program)(w:World)(K:eg)(mg:Str->Option Value)(base:Heap)(CX:CXT)(k:Nat)(f:Addr)(fd:FuncData)(ps:List Str)(sp:Sp):Prop where
 len:∀vs H Q E,sp vs H Q E->vs.length=ps.length
 run:∀(A:Around) (outer:List Env) (s:Shared) (H:Hp) (args:Args) (us:List Value) (vs:List V) (Q:VK) (E:XK),bK k A->vf P w K mg base A outer s H->BindsTo s fd args (ps.zip us)->Vals vs us->sp vs H Q E ->
  codeAny (model P w) A (.call (.ref f) args) (CR CX outer P w H s Q E) s
theorem vf.make{P:Program}{w:World}{K:eg}{mg:Str->Option Value}{base:Heap}{A:Around}{outer:List Env}{s:Shared}{H:Hp}(e:vf P w K mg base A outer s H)(C:Addr)(us:List Value)(kw:List (Str×Value)) :
  vf P w K mg base (A.under (.builtin "type.__call__" ⟨.ref C::us,kw⟩)) outer s H:=⟨by first | exact e.frames | (simpa [Qs,Code.envs,QS,pushEnvs] using e.frames),e.mod,e.bs,e.bsz,e.lE,e.frf,e.hok,e.bare⟩
section
variable{X:Cx}{yZ:List (Addr×Obj)}{σ:St}{H:Hp}{s s':Shared}
theorem Inv.C_(I:Inv X yZ σ H s):vf X.prog X.w X.K X.mg X.base X.A X.stack s H:=
 ⟨I.ok.frames,I.ok.mod,I.bs,Oe I.ok.bsz I.sz,I.stack,I.qV,I.hok,I.bare⟩
theorem Inv.after{Q:VK}{u:Value}(I:Inv X yZ σ H s)(h:CE X.stack X.prog X.w H s Q u s'):EP X yZ σ Q u s':=by obtain⟨v,H',os,bare,un,hok,r,q⟩:=h;obtain⟨hh,g,d,t,os'⟩:=s';obtain rfl:os'=s.os:=os;exact⟨v,H',I.call (h':=hh) (g':=g) (d':=d) (t':=t) (ch:=[]) un hok bare (fun b z=>absurd z (by simp)),r,q⟩
end
def zW(sp:Sp)(dvs:List V)(E:XK)(t:TA):TE:=fun σ H Q=>t σ H fun vs H1=>sp (vs++dvs) H1 Q E
def Binds(K:eg)(fd:FuncData)(ps:List Str)(ds:List Value):Prop:=
 ∀(s:Shared) (us:List Value),K.In s.heap->(us++ds).length=ps.length->BindsTo s fd ⟨us,[]⟩ (ps.zip (us++ds))
theorem Binds.all{K:eg}{fd:FuncData}{ps:List Str}(h:∀us:List Value,us.length=ps.length->bindArgs fd ⟨us,[]⟩=pure (ps.zip us)):Binds K fd ps []:=fun s us _ hl=>by rw[Oi]at hl ⊢;exact .of_eq (h us hl)
def Passes(CX:CXT)(X:Cx)(E:XK):Prop:=∀(yZ:List (Addr×Obj)) (σ:St) (H:Hp) (s:Shared) (e:Value) (s':Shared),Inv X yZ σ H s->CX X.stack H s E e s'->X.xe e s'
section
variable{X:Cx}{CX:CXT}{k:Nat}{f C:Addr}{fd:FuncData}{ps:List Str}{sp:Sp}{dvs:List V}{ds:List Value}{E:XK}{x m:Str}{p pos M3:Pos}{e o:Expr}{es:List Expr}{ta:TE}{t:TA}
theorem GR{yZ:List (Addr×Obj)}{σ:St}{H:Hp}{s:Shared}{Q:VK}{us:List Value}{vs:List V}(F:bH X.prog X.w X.K X.mg X.base CX k f fd ps sp)(hr:bK k X.A)(hb:Binds X.K fd ps ds)(hd:Vals dvs ds)(hx:Passes CX X E)
  (I:Inv X yZ σ H s) (r:Vals vs us) (h:sp (vs++dvs) H Q E):wpAny (model X.prog X.w) X.A (call (.ref f) us) (EP X yZ σ Q) X.xe s:=by
 have r2:Vals (vs++dvs) (us++ds):=r.append hd;have hl:(us++ds).length=ps.length:=by rw[<- r2.length];exact F.len _ _ _ _ h
 refine wpAny_call (codeAny_mono (F.run X.A X.stack s H ⟨us,[]⟩ (us++ds) (vs++dvs) Q E hr I.C_ (hb s us I.kIn hl) r2 h) fun r s' hq=>?_);cases r with
 |error e=>exact hx yZ σ H s e s' I hq
 |ok fl=>
  cases fl with
  |ret u=>exact I.after hq
  |next=>exact NH hq
  |brk=>exact NH hq
  |cont=>exact NH hq
theorem wM(F:bH X.prog X.w X.K X.mg X.base CX k f fd ps sp)(hr:bK k X.A)(hg:Gl X x)(hm:X.mg x=some (.ref f))(hk:Ot X.K (.ref f)=true)(hb:Binds X.K fd ps ds)(hd:Vals dvs ds)(hx:Passes CX X E)
  (ha:PA X (e::es) t) (Lh:(x == ("__debug__" : Str))=false:=by decide) (he:starEach (e::es) X.env=(false,eval e X.env)::starEach es X.env:=by rfl) (Il:(backTo pos (starEach es X.env)).any (·.1)=false:=by rfl) :
  PE X (.Call (.Name x p) (e::es) [] pos) (zW sp dvs E t):=by
 intro yZ s σ H Q I h;refine wpAny_Call_Name_kw (fC I hg hm ?_ Lh);refine Pn (h₀:=X.base) I.ok.mod.kin hk (thn (ha pos yZ s σ H _ I h) fun us s1 ⟨vs,H1,I1,r,q⟩=>⟨I1.kIn,?_⟩) he Il;exact GR F hr hb hd hx I1 r q
end
section
variable{x:Str}{v:Value}
structure aP(N P:List Str)(sc:Scope):Prop where
 kind:sc.kind=.function
 co:sc.isCoroutine=false
 gen:sc.isGenerator=false
 nd:N.Nodup
 pre:N.take P.length=P
 par:∀x∈P,sc.names.lookup x=some .local\/sc.names.lookup x=some .cell
 GS:∀y∈sc.names,y.2≠.free
theorem qc{kindOf:Str->Option NameKind}:∀{binds:List (Str×Value)} {m:Str->Option Value},(∀v,(x,v)∉binds)->bindL kindOf binds m x=m x
 |[],_,_=>rfl
 |(n,v)::r,m,h=>by
  unfold bindL;rw[qc fun w hw=>h w (NB _ hw)];split
  ·have:x≠n:=by rintro rfl;exact h v NJ
   simp[this]
  ·rfl
theorem qe{kindOf:Str->Option NameKind}:∀{binds:List (Str×Value)} {m:Str->Option Value},(∀v,(x,v)∉binds)->bindC kindOf binds m x=m x
 |[],_,_=>rfl
 |(n,v)::r,m,h=>by
  unfold bindC;rw[qe fun w hw=>h w (NB _ hw)];split
  ·rfl
  ·have:x≠n:=by rintro rfl;exact h v NJ
   simp[this]
theorem qf{kindOf:Str->Option NameKind}:∀{P:List Str} {vs:List Value} {i:Nat} {m:Str->Option Value},P.Nodup->P[i]?=some x->vs[i]?=some v->kindOf x=some .local ->
  bindL kindOf (P.zip vs) m x=some v
 |[],_,_,_,_,h,_,_=>by simp at h
 |_::_,[],_,_,_,_,h,_=>by simp at h
 |p::P,w::vs,0,m,nd,h1,h2,hk=>by simp at h1 h2;subst h1;subst h2;show bindL kindOf ((p,w)::P.zip vs) m p=_;unfold bindL;rw[qc fun v hv=>(Pg.mp nd).1 (QD hv).1,if_pos hk];simp
 |p::P,w::vs,i+1,m,nd,h1,h2,hk=>by show bindL kindOf ((p,w)::P.zip vs) m x=_;unfold bindL;exact qf (i:=i) (Pg.mp nd).2 (by simpa using h1) (by simpa using h2) hk
theorem qg{kindOf:Str->Option NameKind}:∀{P:List Str} {vs:List Value} {i:Nat} {m:Str->Option Value},P.Nodup->P[i]?=some x->vs[i]?=some v->kindOf x≠some .local ->
  bindC kindOf (P.zip vs) m x=some v
 |[],_,_,_,_,h,_,_=>by simp at h
 |_::_,[],_,_,_,_,h,_=>by simp at h
 |p::P,w::vs,0,m,nd,h1,h2,hk=>by simp at h1 h2;subst h1;subst h2;show bindC kindOf ((p,w)::P.zip vs) m p=_;unfold bindC;rw[qe fun v hv=>(Pg.mp nd).1 (QD hv).1,if_neg hk];simp
 |p::P,w::vs,i+1,m,nd,h1,h2,hk=>by show bindC kindOf ((p,w)::P.zip vs) m x=_;unfold bindC;exact qg (i:=i) (Pg.mp nd).2 (by simpa using h1) (by simpa using h2) hk
noncomputable def start(N:List Str)(vs:List V):St:=vs.map some++Dk (N.length-vs.length) none
noncomputable def dF(CX:CXT)(P:Program)(w:World)(K:eg)(mg:Str->Option Value)(base:Heap)(N:List Str)(qual:Str)(scope:Scope)(f:Addr)(cd:Value)(A:Around)(outer:List Env)(s:Shared)(H:Hp)(E:XK):Cx where
 prog:=P
 w:=w
 K:=K
 mg:=mg
 base:=base
 A:=A.deeper (envOfC qual scope s.heap.objs.size f cd)
 N:=N
 s₀:=s
 H₀:=H
 env:=envOfC qual scope s.heap.objs.size f cd
 outer:=outer
 stack:=envOfC qual scope s.heap.objs.size f cd::outer
 ex:=[]
 calm:=true
 fn:=fun _=>true
 pn:=[]
 xe:=fun e s'=>wpAny (model P w) (A.deeper (envOfC qual scope s.heap.objs.size f cd)) (leaving (envOfC qual scope s.heap.objs.size f cd) e) (fun _ s''=>CX outer H s E e s'') (fun e' s''=>CX outer H s E e' s'') s'
theorem sJ{sc:Scope}{n:Nat}(h:sc.names.lookup x=some .cell):∃c,(cellsFrom n sc.names []).lookup x=some c:=by have q:=PySem.W.cellsFrom_some sc.names n [] (.inl h);exact NR.mp q
theorem yt{CX:CXT}{P:Program}{w:World}{K:eg}{mg:Str->Option Value}{base:Heap}{N ps:List Str}{qual:Str}{scope:Scope}{f:Addr}{cd:Value}{A:Around}{outer:List Env}{s s1:Shared}{H:Hp}{E:XK}{us:List Value}{vs:List V}
  (S:aP N ps scope) (hd:A.handled=none) (e0:vf P w K mg base A outer s H) (hl:vs.length=ps.length) (r:Vals vs us)
  (x:InCallC s s.heap.objs.size (bindL (envOfC qual scope s.heap.objs.size f cd).kindOf (ps.zip us) fun _=>none) (cellsFrom (s.heap.objs.size+1) scope.names []) (bindC (envOfC qual scope s.heap.objs.size f cd).kindOf (ps.zip us) fun _=>none) s1) :
  Inv (dF CX P w K mg base N qual scope f cd A outer s H E) [] (start N vs) H s1:=by
 have Il:ps.length<=N.length:=by have:=congrArg List.length S.pre;rw[PK]at this;lia
 obtain⟨h1,tk,rfl,hk⟩:=x.done;have noA:∀b:Addr,b∉(dF CX P w K mg base N qual scope f cd A outer s H E).ex:=fun b z=>absurd (show b∈([]:List Addr) from z) (by simp);refine ⟨⟨e0.mod,S.kind,rfl,rfl,NC _,fun y z c h1 h2=>?_,fun y hy=>?_,fun y c _ h=>?_,fun _=>hd,Around.frames_deeper e0.frames,.inr ⟨rfl,rfl⟩,fun b z=>absurd z (noA b),e0.bs,e0.bsz,fun b _ _=>noA b,fun b z=>absurd z (noA b),e0.lE,e0.frf⟩,
  rfl,e0.bare,Un.kept hk,⟨_,x.toInCall.ns,fun i y v h1 h2 h3=>?_⟩,fun y c h=>⟨_,x.cell y c h⟩,e0.hok.fresh (NC _),fun y c h=>?_,fun p hp=>absurd (show p∈([]:List (Addr×Obj)) from hp) (by simp),e0.hok.kept hk,?_⟩
 ·exact name_of_addr x.apart (PySem.mem_of_lookup h1) (PySem.mem_of_lookup h2)
 ·have hy:scope.names.lookup y=some .cell\/scope.names.lookup y=some .free:=hy;rcases hy with hy | hy
  ·exact sJ hy
  ·exact absurd rfl (S.GS _ (PySem.mem_of_lookup hy))
 ·exact Ph (x.above y c (PySem.mem_of_lookup h))
 ·have hi:i<vs.length:=by
   unfold start at h2;by_cases hi:i<vs.length
   ·exact hi
   ·rw[NQ (by simpa using hi)]at h2;rw[N5]at h2;split at h2<;>cases h2
  have ha:vs[i]?=some v:=by
   unfold start at h2;rw[Nz (by simpa using hi),NY]at h2;cases e:vs[i]? with
   |none=>rw[e]at h2;cases h2
   |some a=>rw[e]at h2;cases h2;rfl
  obtain⟨u,hu,rv⟩:=r.get ha;have hp:ps[i]?=some y:=by rw[<- S.pre,Po (by lia)];exact h1
  have ndP:ps.Nodup:=by rw[<- S.pre];exact S.nd.sublist (List.take_sublist _ _)
  refine⟨u,rv,?_⟩;rcases S.par y (PX hp) with k | k
  ·exact .inl ⟨k,qf ndP hp hu k⟩
  ·obtain⟨c,e⟩:=sJ (n:=s.heap.objs.size+1) k;refine .inr ⟨.inl k,c,e,?_⟩;have q:=x.cell y c e;rw[qg ndP hp hu (by show scope.names.lookup y≠_;rw[k];decide)]at q;exact q
 ·exact e0.hok.fresh (Ph (x.above y c (PySem.mem_of_lookup h)))
 ·unfold start;show _=N.length;rw[NL,NI,OT]
  lia
theorem wN{CX:CXT}{P:Program}{w:World}{K:eg}{mg:Str->Option Value}{base:Heap}{k:Nat}{f:Addr}{name qual:Str}{params:Arguments}{body:List Stmt}{scope:Scope}{dV kV doc pm cdv ct oc:Value}{an od:Option Addr}
  {osl:Array (Option Value)} {N ps:List Str} {sp:Sp} (lk:K.lookup f=some ⟨oc,od,.func (Oa name qual params body scope dV kV doc pm an cdv ct),osl⟩) (Lp:Px K cdv qual=true) (S:aP N ps scope)
  (len:∀vs H Q E,sp vs H Q E->vs.length=ps.length)
  (hbody:∀ (A:Around) (outer:List Env) (s:Shared) (H:Hp) (vs:List V) (Q:VK) (E:XK),bK k (A.deeper (envOfC qual scope s.heap.objs.size f cdv))→sp vs H Q E →
   ∃t,PSs (dF CX P w K mg base N qual scope f cdv A outer s H E) body t/\t { nx:=fun _ H'=>Q .non H',rt:=Q } (start N vs) H) :
  bH P w K mg base CX (k+1) f (Oa name qual params body scope dV kV doc pm an cdv ct) ps sp:=by
 refine⟨len,fun A outer s H args us vs Q E hr e0 hb r hsp=>?_⟩;have hl:=len _ _ _ _ hsp;have KX:K.In s.heap:=e0.mod.kin.keeps fun b o e=>(e0.bs b o e).1;have lim:s.heap.NoLimit:=e0.mod.nolimit.keeps fun b o e=>(e0.bs b o e).1;have hkind:∀y∈ps.zip us,scope.names.lookup y.1=some .local\/(scope.names.lookup y.1=some .cell/\((cellsFrom (s.heap.objs.size+1) scope.names []).lookup y.1).isSome=true):=fun⟨n,v⟩ hy=>by
  rcases S.par n (QD hy).1 with q | q
  ·exact .inl q
  ·exact .inr ⟨q,PySem.W.cellsFrom_some _ _ _ (.inl q)⟩
 refine codeAny_call_function hr.depth (KX _ _ lk) rfl S.co S.gen rfl (PySem.W.codeRec_of KX Lp) (hb _ _ _ _ ?_);refine wpAny_newFunctionEnv_cells S.kind hkind fun env he s1 x=>?_;subst he;refine⟨lim.keeps x.toInCall.keep,codeAny_func ?_⟩;obtain⟨t,ht,hq⟩:=hbody A outer s H vs Q E (hr.deeper _) hsp;have I:Inv (dF CX P w K mg base N qual scope f cdv A outer s H E) [] (start N vs) H s1:=yt S hr.hd e0 hl r x;refine wpAny_mono (ht [] s1 (start N vs) H _ I hq) (fun fl s' hs=>?_) fun e s' hs=>hs;have Ll:∀{σ':St} {H':Hp} {v:V} {u:Value},Inv (dF CX P w K mg base N qual scope f cdv A outer s H E) [] σ' H' s'->RelV v u->Q v H'->CE outer P w H s Q u s':=
  fun {σ' H' v u} J rv q=>⟨v,H',J.os,J.bare,J.base,J.hok,rv,q⟩
 cases fl with
 |ret u=>obtain⟨v,σ',H',J,rv,q⟩:=hs;exact Ll J rv q
 |next=>obtain⟨σ',H',J,q⟩:=hs;exact Ll (v:=V.non) (u:=Pu) J rfl q
 |brk=>obtain⟨_,_,_,q⟩:=hs;exact NH q
 |cont=>obtain⟨_,_,_,q⟩:=hs;exact NH q
end
section
variable{X:Cx}{x:Str}{p pos:Pos}{e:Expr}{es:List Expr}{t:TA}{id T:String}{r:List V->Hp->VK->Prop}
def tCB(r:List V->Hp->VK->Prop)(t:TA):TE:=fun σ H Q=>t σ H fun vs H1=>r vs H1 Q
theorem iw(hc:fy X (.builtin id) r)(hg:Gl X x)(hm:X.mg x=none)(hv:bootBuiltins x=some (.builtin id))(ha:PA X (e::es) t)(hn:x ≠ "__name__" := by decide)(Lh:(x == ("__debug__" : Str))=false:=by decide)
  (he:starEach (e::es) X.env=(false,eval e X.env)::starEach es X.env:=by rfl) (Il:(backTo pos (starEach es X.env)).any (·.1)=false:=by rfl):PE X (.Call (.Name x p) (e::es) [] pos) (tCB r t):=by
 intro yZ s σ H Q I h;refine wpAny_Call_Name_kw (fJ I hg hm hv ?_ hn Lh);exact PyProof.Rows.callWith_builtin1 (thn (ha pos yZ s σ H _ I h) fun us s1 ⟨vs,H1,I1,r1,q1⟩=>hc yZ s1 σ H1 vs us Q I1 r1 q1) he Il
theorem yu(hc:fy X (.type T) r)(hg:Gl X x)(hm:X.mg x=none)(hv:bootBuiltins x=some (.type T))(ha:PA X (e::es) t)(hn:x ≠ "__name__" := by decide)(Lh:(x == ("__debug__" : Str))=false:=by decide)
  (he:starEach (e::es) X.env=(false,eval e X.env)::starEach es X.env:=by rfl) (Il:(backTo pos (starEach es X.env)).any (·.1)=false:=by rfl):PE X (.Call (.Name x p) (e::es) [] pos) (tCB r t):=by
 intro yZ s σ H Q I h;refine wpAny_Call_Name_kw (fJ I hg hm hv ?_ hn Lh);exact N8 (thn (ha pos yZ s σ H _ I h) fun us s1 ⟨vs,H1,I1,r1,q1⟩=>hc yZ s1 σ H1 vs us Q I1 r1 q1) he Il
end
noncomputable def ixN(n:Nat)(i:Int):Option Nat:=if 0<=i then (if i<n then some i.toNat else none) else if -(n:Int)<=i then some (i+n).toNat else none
noncomputable def atI{α:Type}(xs:List α)(i:Int):Option α:=(ixN xs.length i).bind fun j=>xs[j]?
theorem wO{n:Nat}{i:Int}{j:Nat}(h:ixN n i=some j):seqIndex? i n=some j/\j<n/\-(n:Int)<=i/\i<n:=by
 unfold ixN at h;by_cases h0:0<=i
 ·rw[if_pos h0]at h;by_cases h1:i<n
  ·rw[if_pos h1]at h;have e:i.toNat=j:=Option.some.inj h;exact⟨by rw[seqIndex_of h0 h1,e],by lia,by lia,h1⟩
  ·rw[if_neg h1]at h;cases h
 ·rw[if_neg h0]at h;by_cases h1:-(n:Int)<=i
  ·rw[if_pos h1]at h;have e:(i+n).toNat=j:=Option.some.inj h;exact⟨by rw[seqIndex_neg (by lia) h1,e],by lia,h1,by lia⟩
  ·rw[if_neg h1]at h;cases h
theorem wQ{α:Type}{xs:List α}{i:Int}{v:α}(h:atI xs i=some v):∃j,seqIndex? i xs.length=some j/\xs[j]?=some v/\j<xs.length/\-(xs.length:Int)<=i/\i<xs.length:=by
 unfold atI at h;cases e:ixN xs.length i with
 |none=>rw[e]at h;cases h
 |some j=>rw[e]at h;obtain⟨h1,h2,h3,h4⟩:=wO e;exact⟨j,h1,h,h2,h3,h4⟩
def wR(b:Expr):Prop:=∀o i,subscripted b false o i=operate [o,i] (getItem o i)
def IxR(X:Cx)(r:R2):Prop:=
 ∀(value slice:Expr) (yZ:List (Addr×Obj)) (s:Shared) (σ:St) (H:Hp) (x y:V) (v u:Value) (Q:VK),Inv X yZ σ H s->RelV x v->RelV y u->r x y H Q ->
  subscripted slice false v u=operate [v,u] (getItem v u)->wpAny (model X.prog X.w) X.A (subscriptTail value slice v u) (EP X yZ σ Q) X.xe s
def MtR(X:Cx)(id:String)(r:V->List V->Hp->VK->Prop):Prop:=
 ∀(yZ:List (Addr×Obj)) (s:Shared) (σ:St) (H:Hp) (x:V) (xs:List V) (v:Value) (us:List Value) (Q:VK),Inv X yZ σ H s->RelV x v->Vals xs us->r x xs H Q ->
  wpAny (model X.prog X.w) X.A (call (.builtin id) (v::us)) (EP X yZ σ Q) X.xe s
section
variable{X:Cx}{a b:Expr}{ta tb:TE}{pos:Pos}
section
variable{yZ:List (Addr×Obj)}{s:Shared}{H:Hp}{σ:St}
theorem IxR.or{r r':R2}(h:IxR X r)(h':IxR X r'):IxR X (fun x y H Q=>r x y H Q\/r' x y H Q):=by
 intro value slice yZ s σ H x y v u Q I rx ry q hs;rcases q with q | q
 ·exact h value slice yZ s σ H x y v u Q I rx ry q hs
 ·exact h' value slice yZ s σ H x y v u Q I rx ry q hs
theorem JA{r:R2}(hr:IxR X r)(ha:PE X a ta)(hb:PE X b tb)(hs:wR b):PE X (.Subscript a b pos) (tOp r ta tb):=by intro yZ s σ H Q I h;exact Subscript_ (GD ha hb I h fun v u s2 x y H2 I2 rx ry q=>hr a b yZ s2 σ H2 x y v u Q I2 rx ry q (hs _ _))
def JB(K:eg):R2:=fun x y H Q=>∃p xs i v,x=.ref p/\y=.int i/\SqL K H p xs/\atI xs i=some v/\Q v H
def JC(K:eg):R2:=fun x y H Q=>∃p xs i v,x=.ref p/\y=.int i/\SqT K H p xs/\atI xs i=some v/\Q v H
theorem Dc:IxR X (JB X.K):=by
 intro value slice yZ s σ H x y v u Q I rx ry h hs;obtain⟨p,xs,i,z,rfl,rfl,hq,he,q⟩:=h;cases rx;obtain⟨t,rfl⟩:=ry;obtain⟨its,r,pl,hz⟩:=I.list hq;obtain⟨j,h1,h2,h3,h4,h5⟩:=wQ he;obtain⟨w,ew,rw'⟩:=r.get h2;have hl:=r.length;have hn:=nF;have Ll:EP X yZ σ Q w s:=⟨z,H,I,rw',q⟩
 by_cases h0:0<=i
 ·have hj:i.toNat=j:=by
   rw[seqIndex_of h0 h5]at h1;exact Option.some.inj h1
  exact item_listR pl.isList h0 (by lia) (by rw[hj];simpa using ew) Ll hs
 ·have hj:(i+(its.toArray.size:Int)).toNat=j:=by
   rw[seqIndex_neg (by lia) h4]at h1;rw[NG,<- hl];exact Option.some.inj h1
  exact subscriptTail_builtinR (x:=w) pl.isList.typeIs slot_list_getitem.lookup
   (wpAny_getItem_list_neg (Q:=fun r s'=>r=w/\EP X yZ σ Q r s') pl.isList (by lia) (by rw[NG]<;>lia) (by lia) (by rw[hj];simpa using ew) ⟨rfl,Ll⟩) hs
theorem GU:IxR X (JC X.K):=by
 intro value slice yZ s σ H x y v u Q I rx ry h hs;obtain⟨p,xs,i,z,rfl,rfl,hq,he,q⟩:=h;cases rx;obtain⟨t,rfl⟩:=ry;obtain⟨its,r,pl,hz⟩:=I.tuple hq;obtain⟨j,h1,h2,h3,h4,h5⟩:=wQ he;obtain⟨w,ew,rw'⟩:=r.get h2;have hl:=r.length;have hn:=nF;have Ll:EP X yZ σ Q w s:=⟨z,H,I,rw',q⟩
 exact subscriptTail_builtinR (x:=w) pl.typeIs slot_tuple_getitem.lookup
  (getItem_tuple (j:=j) (Q:=fun r s'=>r=w/\EP X yZ σ Q r s') pl (by lia) (by lia) (by rw[NG,<- hl];exact h1) (by simpa using ew) ⟨rfl,Ll⟩) hs
theorem vg(its:List Value)(n j:Nat)(u:Value):Py (·.setIfInBounds j u) { cls:=.type "list",data:=.seq its.toArray n }={ cls:=.type "list",data:=.seq (its.set j u).toArray n }:=by simp[Py]
theorem Inv.lst{yZ:List (Addr×Obj)}{σ:St}{H:Hp}{s:Shared}{p:Addr}{xs:List V}(I:Inv X yZ σ H s)(h:H p=some (.lst xs)) :
  ∃(its:List Value) (n:Nat),Vals xs its/\s.heap.get? p=some { cls:=.type "list",data:=.seq its.toArray n }/\xs.length<=sizeLine:=by
 obtain⟨z,its,n,r,e⟩:=I.hok p _ h;exact⟨its,n,r,e,z⟩
theorem Inv.GV{p:Addr}{xs ys:List V}{its its':List Value}{n n':Nat}{f:Obj->Obj}(I:Inv X yZ σ H s)(h:H p=some (.lst xs))
  (ho:s.heap.get? p=some { cls:=.type "list",data:=.seq its.toArray n }) (hf:f { cls:=.type "list",data:=.seq its.toArray n }={ cls:=.type "list",data:=.seq its'.toArray n' }) (r:Vals ys its') (hz:ys.length<=sizeLine) (t:Nat) :
  Inv X yZ σ (upd H p (.lst ys)) { s with heap:=s.heap.update p f,toks:=t }:=by
 have e:(s.heap.update p f).get? p=some { cls:=.type "list",data:=.seq its'.toArray n' }:=by rw[Of f ho (by rw[hf]<;>rfl),hf]
 refine I.write (x:=p) (e:=p) (by rw[h];trivial) (.inl rfl) (fun b u hb q=>(NX _ _ (N2 hb)).trans q) ⟨_,e⟩ ?_;exact⟨hz,its',n',r,e⟩
def Fi:V->V->V->Hp->(Hp->Prop)->Prop:=fun o i v H Q=>∃p xs k j,o=.ref p/\i=.int k/\H p=some (.lst xs)/\ixN xs.length k=some j/\Q (upd H p (.lst (xs.set j v)))
theorem set_list:Jp X Fi:=by
 intro yZ s σ H o i v ov iv u Q I ro ri rv h;obtain⟨p,xs,k,j,rfl,rfl,hp,hj,q⟩:=h;cases ro;obtain⟨t,rfl⟩:=ri;obtain⟨its,n,r,ho,hz⟩:=I.lst hp;obtain⟨h1,h2,h3,h4⟩:=wO hj;have hl:=r.length;have hn:=nF;have I':Inv X yZ σ (upd H p (.lst (xs.set j v))) { s with heap:=s.heap.update p (Py (·.setIfInBounds j u)) }:=
  I.GV hp ho (vg its n j u) (r.set rv j) (by rw[Oj];exact hz) s.toks
 by_cases h0:0<=k
 ·have hk:k.toNat=j:=by
   rw[seqIndex_of h0 h4]at h1;exact Option.some.inj h1
  exact PySem.W.ki_setAt ho h0 (by lia) (by rw[NG,<- hl];exact h4) (by rw[hk];exact⟨_,I',q⟩)
 ·have hk:(k+(its.toArray.size:Int)).toNat=j:=by
   rw[seqIndex_neg (by lia) h3]at h1;rw[NG,<- hl];exact Option.some.inj h1
  exact PySem.W.ki_setBack ho (by lia) (by rw[NG,<- hl];exact h3) (by lia) (by rw[hk];exact⟨_,I',q⟩)
theorem qX:fy X (.builtin "len") (fun xs H Q=>∃p ys,xs=[.ref p]/\(SqL X.K H p ys\/SqT X.K H p ys)/\Q (.int ys.length) H):=by
 intro yZ s σ H xs us Q I r h;obtain⟨p,ys,rfl,hq,q⟩:=h;obtain⟨u,rfl,rx⟩:=vals1 r;cases rx;have hn:=nF;rcases hq with hq | hq
 ·obtain⟨its,r',pl,hz⟩:=I.list hq;have FH:=r'.length;exact Calls.call_len_list pl.isList (by simp only[NG]<;>lia) ⟨.int ys.length,H,I.tok _,⟨s.toks+1,by rw[NG,FH]⟩,q⟩
 ·obtain⟨its,r',pl,hz⟩:=I.tuple hq;have FH:=r'.length;exact len_tuple pl (by simp only[NG]<;>lia) ⟨.int ys.length,H,I.tok _,⟨s.toks+1,by rw[NG,FH]⟩,q⟩
theorem qY:fy X (.type "list") (fun xs H Q=>∃p ys,xs=[.ref p]/\(SqL X.K H p ys\/SqT X.K H p ys)/\∀l,H l=none->Q (.ref l) (upd H l (.lst ys))):=by
 intro yZ s σ H xs us Q I r h;obtain⟨p,ys,rfl,hq,q⟩:=h;obtain⟨u,rfl,rx⟩:=vals1 r;cases rx;have Ll:∀(its:List Value),Vals ys its->ys.length<=sizeLine->∀(h':Heap) (c':Nat),(∀b o',s.heap.get? b=some o'->h'.get? b=some o') ->
   h'.get? s.heap.objs.size=some { cls:=.type "list",dict:=none,data:=.seq its.toArray c',slots:=#[] }->EP X yZ σ Q (.ref s.heap.objs.size) { s with heap:=h' }:=fun its r' hz h' c' kp e=>
  ⟨.ref s.heap.objs.size,_,I.laid (t':=s.toks) kp (NC _) (show br X.prog X.w _ h' _ (.lst ys) from ⟨hz,its,c',r',e⟩),rfl,q _ (I.hok.fresh (NC _))⟩
 rcases hq with hq | hq
 ·obtain⟨its,r',pl,hz⟩:=I.list hq;have FH:=r'.length;obtain⟨o,ho,hc,n,hd⟩:=pl.isList;exact call_list_seq p (.inl rfl) ho hc hd (fun h' c' kp e=>Ll its r' hz h' c' kp e) (by simp only[NG]<;>lia)
 ·obtain⟨its,r',pl,hz⟩:=I.tuple hq;have FH:=r'.length;obtain⟨o,ho,hc,n,hd⟩:=pl;exact call_list_seq p (.inr rfl) ho hc hd (fun h' c' kp e=>Ll its r' hz h' c' kp e) (by simp only[NG]<;>lia)
def tyV(K:eg)(T:String)(x:V)(H:Hp):Prop:=match x with
 |.str _=>T = "str"
 |.int _=>T = "int"
 |.ref p=>(T = "list" /\ ∃xs,SqL K H p xs)\/(T = "tuple" /\ ∃o,K.lookup p=some o/\o.cls=.type "tuple" /\ o.dict=none) \/
   (T = "dict" /\ ((∃kvs,H p=some (.dK kvs))\/∃kvs ts,H p=some (.dT kvs ts)))\/(T = "set" /\ ∃S n,H p=some (.set S n))
 |_=>False
theorem zX{T:String}{x:V}{v:Value}(I:Inv X yZ σ H s)(r:RelV x v)(ty:tyV X.K T x H) :
  s.TypeIs v T/\∀a,v=.ref a->∃ob,s.heap.get? a=some ob/\ob.dict=none:=by
 cases x with
 |str z=>obtain⟨t,rfl⟩:=r;cases (show T = "str" from ty);exact⟨typeIs_str s z t,fun _ e=>nomatch e⟩
 |int i=>obtain⟨t,rfl⟩:=r;cases (show T = "int" from ty);exact⟨typeIs_int s i t,fun _ e=>nomatch e⟩
 |ref p=>
  cases r;rcases ty with⟨rfl,xs,hq⟩ | ⟨rfl,o,hk,hc,hd⟩ | ⟨rfl,hk⟩ | ⟨rfl,S,n,hk⟩
  ·obtain⟨its,_,pl,_⟩:=I.list hq;refine⟨pl.isList.typeIs,fun a e=>?_⟩;cases e;obtain⟨o,n,e,c,hd,_⟩:=pl;exact⟨o,e,hd⟩
  ·refine⟨⟨o,I.kIn p o hk,hc⟩,fun a e=>?_⟩;cases e;exact⟨o,I.kIn _ o hk,hd⟩
  ·have z:∃o,s.heap.get? p=some o/\o.ExactDict:=by
    rcases hk with⟨kvs,hk⟩ | ⟨kvs,ts,hk⟩
    ·obtain⟨_,_,_,_,o,_,_,e,ex,_⟩:=I.hok p _ hk;exact⟨o,e,ex⟩
    ·obtain⟨_,_,_,_,o,_,_,e,ex,_⟩:=I.hok p _ hk;exact⟨o,e,ex⟩
   obtain⟨o,e,ex⟩:=z;refine⟨⟨o,e,ex.1⟩,fun a e2=>?_⟩;cases e2;exact⟨o,e,ex.2.1⟩
  ·obtain⟨o,_,_,_,e,ex,_⟩:=I.hok p _ hk;refine⟨⟨o,e,ex.1⟩,fun a e2=>?_⟩;cases e2;exact⟨o,e,ex.2.1⟩
 |_=>exact NH ty
def JD(K:eg)(T:String)(r:V->List V->Hp->VK->Prop)(to:TE):TE:=fun σ H Q=>to σ H fun x H1=>tyV K T x H1/\r x [] H1 Q
def tBM(K:eg)(T:String)(r:V->List V->Hp->VK->Prop)(to:TE)(t:TA):TE:=fun σ H Q=>to σ H fun x H1=>tyV K T x H1/\t σ H1 fun xs H2=>r x xs H2 Q
variable{o e:Expr}{es:List Expr}{to:TE}{t:TA}{name:Str}{M3 cpos:Pos}{T id:String}{r:V->List V->Hp->VK->Prop}
theorem GW(pa:PlainAttrs T)(slot:Slot T name id)(hty:typeOf (.builtin id)=pure (.type "method_descriptor"))(hm:MtR X id r)(ho:PE X o to)
  (S1:attributeBase o name X.env (eval o X.env)=eval o X.env:=by rfl) (R1:(M3.endLine == cpos.line)=true:=by rfl):PE X (.Call (.Attribute o name M3) [] [] cpos) (JD X.K T r to):=by
 intro yZ s σ H Q I h;refine wpAny_Call_method0_late S1 R1 (thn (ho yZ s σ H _ I h) fun v s1 ⟨x,H1,I1,r1,ty,q1⟩=>?_);obtain⟨h1,h2⟩:=zX I1 r1 ty;exact⟨T,id,pa,slot,hty,h1,h2,O6 rfl (PySem.evalArgs_none (hm yZ s1 σ H1 x [] v [] Q I1 r1 .nil q1))⟩
theorem JE(pa:PlainAttrs T)(slot:Slot T name id)(hty:typeOf (.builtin id)=pure (.type "method_descriptor"))(hm:MtR X id r)(ho:PE X o to)(ha:PA X (e::es) t)
  (S1:attributeBase o name X.env (eval o X.env)=eval o X.env:=by rfl)
  (hfew:((backTo cpos (starEach (e::es) X.env)).all (fun x=>!x.1)&&(backToKw cpos (keywordEach [] X.env)).all (fun x=>x.1.isSome)
   && decide ((e::es).length+([]:List Keyword).length+(if ([]:List Keyword).isEmpty then 0 else 1)<30))=true:=by rfl)
  (R1:(M3.endLine == cpos.line)=true:=by rfl) (hs:starEach (e::es) X.env=(false,eval e X.env)::starEach es X.env:=by rfl) (hplain:(backTo cpos (starEach es X.env)).any (·.1)=false:=by rfl) :
  PE X (.Call (.Attribute o name M3) (e::es) [] cpos) (tBM X.K T r to t):=by
 intro yZ s σ H Q I h;refine wpAny_Call_method_late S1 hfew R1 rfl (thn (ho yZ s σ H _ I h) fun v s1 ⟨x,H1,I1,r1,ty,q1⟩=>?_);obtain⟨h1,h2⟩:=zX I1 r1 ty;refine⟨T,id,pa,slot,hty,h1,h2,?_⟩;have hA:=ha cpos yZ s1 σ H1 _ I1 q1;rw[hs]at hA ⊢;refine O6 (by show (false||(backTo cpos (starEach es X.env)).any (·.1))=false;rw[hplain]<;>rfl) (PY ?_);exact thn hA fun us s2 ⟨vs,H2,I2,r2,q2⟩=>hm yZ s2 σ H2 x vs v us Q I2 r1 r2 q2
end
end
section
variable{us:List Value}{xs:List V}
def MtM(X:Cx)(id:String)(r:V->List V->Hp->VK->Prop):Prop:=
 ∀(yZ:List (Addr×Obj)) (s:Shared) (σ:St) (H:Hp) (x:V) (xs:List V) (v:Value) (us:List Value) (Q:VK),Inv X yZ σ H s->RelV x v->Vals xs us->r x xs H Q ->
  wpAny (model X.prog X.w) X.A (call (.builtin id) (v::us)) (EP X yZ σ Q) X.xe s
theorem Vals.one:∀{x:V} {us:List Value},Vals [x] us->∃u,us=[u]/\RelV x u
 |_,_,.cons r .nil=>⟨_,rfl,r⟩
theorem Vals.two:∀{x y:V} {us:List Value},Vals [x,y] us->∃u v,us=[u,v]/\RelV x u/\RelV y v
 |_,_,_,.cons r (.cons q .nil)=>⟨_,_,rfl,r,q⟩
theorem Vals.zero:∀{us:List Value},Vals [] us->us=[]
 |_,.nil=>rfl
theorem Vals.dropLast(h:Vals xs us):Vals xs.dropLast us.dropLast:=by
 induction h with
 |nil=>exact .nil
 |cons r t ih=>
  cases t with
  |nil=>exact .nil
  |cons q t'=>exact .cons r ih
theorem Vals.rep(h:Vals xs us):∀k:Nat,Vals (Dk k xs).flatten (Dk k us).flatten
 |0=>.nil
 |k+1=>by rw[OD,OD,OZ,OZ];exact Vals.append h (Vals.rep h k)
theorem vh{α:Type}(l:List α):l.eraseIdx (l.length-1)=l.dropLast:=by
 induction l with
 |nil=>rfl
 |cons a r ih=>
  cases r with
  |nil=>rfl
  |cons b r=>
   have e:(a::b::r).length-1=((b::r).length-1)+1:=by
    have h1:(a::b::r).length=r.length+2:=rfl;have h2:(b::r).length=r.length+1:=rfl
    lia
   rw[e,List.eraseIdx_cons_succ,ih]
   all_goals rfl
theorem foldl_rep(its:List Value):∀(k:Nat) (En:List Value),
  QY (fun x1 x2=>x1++x2) En.toArray (Dk k its.toArray)=(En++(Dk k its).flatten).toArray
 |0,En=>by simp
 |k+1,En=>by
  have e:En.toArray++its.toArray=(En++its).toArray:=by simp
  have e2:(En++its)++(Dk k its).flatten=En++(Dk (k+1) its).flatten:=by rw[OD,OZ,Qn]
  rw[<- e2,<- foldl_rep its k (En++its),<- e,OD,List.foldl_cons]
end
section
variable{X:Cx}{yZ:List (Addr×Obj)}{σ:St}{H:Hp}{s:Shared}{l b:Addr}{xs ys zs:List V}
theorem Inv.JF{its its':List Value}{n:Nat}{f:Array Value->Array Value}{t':Nat}(I:Inv X yZ σ H s)(hH:H l=some (.lst xs))
  (e:s.heap.get? l=some { cls:=.type "list",data:=.seq its.toArray n }) (hf:f its.toArray=its'.toArray) (hv:Vals ys its') (hz:ys.length<=sizeLine) :
  Inv X yZ σ (upd H l (.lst ys)) { s with heap:=s.heap.update l (Py f),toks:=t' }:=by
 have q:=PySem.IsL.update e f;rw[hf]at q;refine I.write (x:=l) (e:=l) (by rw[hH];exact trivial) (.inl rfl) (fun b' u hb hu=>(NX s.heap (Py f) (N2 hb)).trans hu) ⟨_,q⟩ ?_;exact⟨hz,its',_,hv,q⟩
theorem Inv.GX{its:List Value}{t':Nat}(I:Inv X yZ σ H s)(hv:Vals ys its)(hz:ys.length<=sizeLine) :
  Inv X yZ σ (upd H s.heap.objs.size (.lst ys)) { s with heap:=s.heap.push { cls:=.type "list",data:=.seq its.toArray },toks:=t' }:=
 I.laid (fun _ _ q=>HT _ q) (NC _) ⟨hz,its,0,hv,Og _ rfl⟩
theorem Inv.fresh(I:Inv X yZ σ H s):H s.heap.objs.size=none:=I.hok.fresh (NC _)
theorem Inv.JG(I:Inv X yZ σ H s)(hH:H l=some (.lst xs)):xs.length<=sizeLine/\∃(its:List Value) (n:Nat),Vals xs its/\xs.length=its.length/\s.heap.get? l=some { cls:=.type "list",data:=.seq its.toArray n }:=by obtain⟨z,its,n,r,e⟩:=I.hok l _ hH;exact⟨z,its,n,r,r.length,e⟩
theorem zY{n:Nat}(h:n<=sizeLine):Pp n=false:=by unfold Pp;exact decide_eq_false (by lia)
end
section
variable{X:Cx}
def wU:V->List V->Hp->VK->Prop:=fun x vs H Q=>∃l xs y,x=.ref l/\vs=[y]/\H l=some (.lst xs)/\xs.length<sizeLine/\Q .non (upd H l (.lst (xs++[y])))
theorem qh:MtM X "list.append" wU:=by
 intro yZ s σ H x vs v us Q I rx rv h;obtain⟨l,xs,y,rfl,rfl,hH,hz,q⟩:=h;cases rx;obtain⟨u,rfl,ru⟩:=rv.one;obtain⟨z,its,n,r,hl,e⟩:=I.JG hH;refine call_meets F.slot_list_append ⟨_,e,rfl⟩ F.entry_list_append (F.args_list_append_2 _ _) (PySem.list_append l its.toArray n u (by rw[NG];lia)) ⟨e,?_⟩;refine⟨.non,_,I.JF (its':=its++[u]) hH e (by simp) (r.append (.cons ru .nil)) ?_,rfl,q⟩;rw[NL,Oc]
 lia
def JH:V->List V->Hp->VK->Prop:=fun x vs H Q=>∃l xs y,x=.ref l/\vs=[]/\H l=some (.lst xs)/\xs[xs.length-1]?=some y/\Q y (upd H l (.lst xs.dropLast))
theorem GY:MtM X "list.pop" JH:=by
 intro yZ s σ H x vs v us Q I rx rv h;obtain⟨l,xs,y,rfl,rfl,hH,hy,q⟩:=h;cases rx;have hus:=rv.zero;subst hus;obtain⟨z,its,n,r,hl,e⟩:=I.JG hH;obtain⟨u,hu,ru⟩:=r.get hy;have hy':its.toArray[its.toArray.size-1]?=some u:=by show its.toArray[its.length-1]?=some u;rw[<- PM,<- hl];exact hu
 refine call_meets F.slot_list_pop ⟨_,e,rfl⟩ F.entry_list_pop (F.args_list_pop_1 _) (MeetsSeq.list_pop_last l its.toArray n u hy' (by rw[NG];lia)) ⟨e,?_⟩;refine⟨y,_,I.JF (its':=its.dropLast) hH e ?_ r.dropLast ?_,ru,q⟩
 ·show its.toArray.eraseIdxIfInBounds (its.toArray.size-1)=its.dropLast.toArray;rw[NG,List.eraseIdxIfInBounds_toArray,vh]
 ·rw[List.length_dropLast]
  lia
theorem len_rep{α:Type}(xs:List α)(k:Nat):(Dk k xs).flatten.length=k*xs.length:=by
 induction k with
 |zero=>simp
 |succ k ih=>rw[OD,OZ,NL,ih,Nat.succ_mul,Nat.add_comm]
end
end L2
namespace Att
open PySem PySem.W PySem.Calls PyProof.Rows
theorem mW{P:Params}{h:Heap}:∀(ns:List Int) (vs:List Value),WellAll P h vs (ns.map WData.int)->IntsAre vs ns:=by
 intro ns
 induction ns with
 |nil=>intro vs w;rw[Qu]at w;cases w;exact .nil
 |cons n ns ih=>
  intro vs w;rw[Nv]at w;cases w with
  |cons a b=>cases a;exact .cons _ _ (ih _ b)
theorem yw{l:OpenLaw}{n:Nat}(hn:l.most=some n){P:Params}{h:Heap}{args:List WData}{vals:List Value}
  (hpre:l.row.toRowW.claim.pre args=true) (hwl:WellAll P h vals args) :
  ∃a vs ns,vals=[NN a]/\args=[WData.list (ns.map WData.int)]/\h.get? a=some { cls:=.type "list",data:=.seq vs.toArray }/\IntsAre vs ns/\ns.length<=n:=by
 have hsh:WShape.hasAll [] args [.list .int]=true:=(pre_splitW hpre).1;have hc:l.pre.holds [] { args:=args }=true:=(pre_splitW hpre).2;obtain⟨d,r,rfl,h1,h2⟩:=hasAllW_cons hsh;obtain rfl:=hasAllW_nil h2;obtain⟨xs,rfl,h3⟩:=hasW_list h1;obtain⟨ns,rfl⟩:=items_int h3;have FH:ns.length<=n:=by
  unfold OpenLaw.pre at hc;have h4:(WTm.not (.lt (.lit (.int (n:Int))) (.len (.arg 0)))).holds [] { args:=[.list (ns.map .int)] }=true:=by have h4:=(holds_andW hc).1;rw[hn]at h4;exact h4
  have h5:=condW_of h4 (w_not (w_lt w_lit (w_len_list (w_arg rfl))));rw[NI]at h5;refine Nat.le_of_not_lt fun q=>?_;have q':(n:Int)<((ns.length:Nat):Int):=by omega
  first
   |(rw[decide_eq_true q']at h5;exact absurd h5 (by decide))
   |(simp at h5;omega)
 cases hwl with
 |cons w1 w2=>
  cases w2;cases w1 with
  |list ho hall=>exact⟨_,_,ns,rfl,rfl,ho,mW ns _ hall,FH⟩
theorem yx(l:OpenLaw)(args:List WData):l.row.toRowW.claim.post args (.bool true) args=true:=
 postW_of (r:=l.row.toRowW) (X:=(true == true))
  (show WShape.has [] (.bool true) .bool=true by first | rfl | decide | simp[WShape.has,WShape.arms,WShape.armsAll])
  (show (WTm.eq .res (.lit (.bool true))).value [] { args:=args,res:=some (.bool true),after:=args }=some (.bool (true == true)) from w_eq_bool (w_res rfl) w_lit) rfl
theorem sL{l:OpenLaw}{n:Nat}{q:Program}{loose:List Str}{XP:(Str->Option Value)->Heap->Prop}{YP:World->Heap->Prop}{d:DefRec}
  (hn:l.most=some n) (hdf:d.params.defaults=[])
  (call:∀ (w:World) (s₀ s₁:Shared) (mg mb:Str→Option Value) (fa:Addr) (o:Obj) (pm cd doc:Value) (a:Addr) (vs:List Value) (ns:List Int),
   Ground q loose [] XP w s₀ mg mb s₁.heap->YP w s₁.heap ->
   s₁.heap.get? fa=some o->o.data=.func (docDef d.name d.params d.body d.scope pm cd doc)->s₁.heap.CodeRec cd d.name->mg d.name=some (.ref fa) ->
   s₁.heap.get? a=some { cls:=.type "list",data:=.seq vs.toArray }->IntsAre vs ns->ns.length<=n->s₁.gens=#[] ->
   codeAny (model l.prog w) callerA (.call (.ref fa) ⟨[.ref a],[]⟩) (fun r s'=>r=.ok (.ret (.bool true))/\OldK s₁.heap s'.heap/\s'.os=s₁.os/\AllBare s'.gens) s₁) :
  WalkO q loose XP YP l.row.toRowW d [] (fun f vs=>PySem.call f vs):=by
 intro w s₀ s₁ mg mb G Y fa o pm cd doc dV kV ho hd Lp hD hmg hg args vals as hpre hlay hrd hwl hlo;obtain rfl:dV=.none:=Dflts.none hD hdf;obtain rfl:kV=.none:=Dflts.noKw hD;obtain⟨a,vs,ns,rfl,rfl,hobj,hints,FH⟩:=yw hn hpre hwl;refine enter_call (codeAny_mono (call w s₀ s₁ mg mb fa o pm cd doc a vs ns G Y ho (fd_plain hd) Lp hmg hobj hints FH hg) fun r s' hq=>?_);obtain⟨rfl,h2,h3,h4⟩:=hq;exact⟨.inl ⟨.bool true,.bool true,[],rfl,fun _=>rfl,.bool true,yx l _,fun _=>⟨List.Pairwise.nil,fun _ hm=>(nomatch hm)⟩⟩,h2,h3,h4⟩
end Att
namespace L2
open PySem PySem.Spec PyProof.Rows
theorem qi:∀{vs:List Value} {ns:List Int},IntsAre vs ns->Vals (ns.map V.int) vs
 |_,_,.nil=>.nil
 |_,_,.cons n t h=>.cons ⟨t,rfl⟩ (qi h)
def GZ(H:Hp):Prop:=∀b,H b=none\/∃o xs,H b=some (.frz o (.lst xs))
theorem zZ{P:Program}{w:World}{K:eg}{mg mb:Str->Option Value}{CX:CXT}{k:Nat}{fa a:Addr}{fd:FuncData}{x:Str}{sp:Sp}{s₁:Shared}{vs:List Value}{ns:List Int}
  (KX:K.In s₁.heap) (hns:s₁.heap.Ns mainGlobals mg) (hb:s₁.heap.Ns builtinsNs mb) (hbb:∀x:Str,x ≠ "__name__" -> mb x=bootBuiltins x) (hlim:s₁.heap.NoLimit) (hg:s₁.gens=#[])
  (ha:s₁.heap.get? a=some { cls:=.type "list",data:=.seq vs.toArray }) (hi:IntsAre vs ns) (hl:ns.length<=sizeLine) (hr:bK k callerA)
  (F:∀base:Heap,K.In base->base.Ns mainGlobals mg->bH P w K mg base CX k fa fd [x] sp) (hbind:∀(s:Shared) (u:Value),BindsTo s fd ⟨[u],[]⟩ [(x,u)])
  (hsp:∀H:Hp,GZ H->SqL K H a (ns.map V.int)->sp [.ref a] H (fun v _=>v=.bl true) fun _ _ _=>False)
  (hCX:∀H e s',CX [] H s₁ (fun _ _ _=>False) e s'->False) :
  codeAny (model P w) callerA (.call (.ref fa) ⟨[.ref a],[]⟩) (fun r s'=>r=.ok (.ret (.bool true))/\OldK s₁.heap s'.heap/\s'.os=s₁.os/\AllBare s'.gens) s₁:=by
 have rv:=qi hi;have Mu:=hi.length;have core:∀H:Hp,GZ H->SqL K H a (ns.map V.int)->HOk P w H s₁.heap->(∀b,H b≠none->b=a)->(H a≠none->K.lookup a=none) ->
   codeAny (model P w) callerA (.call (.ref fa) ⟨[.ref a],[]⟩) (fun r s'=>r=.ok (.ret (.bool true))/\OldK s₁.heap s'.heap/\s'.os=s₁.os/\AllBare s'.gens) s₁:=by
  intro H hO hS hok hA hK;have wV:∀{b:Addr} {o:Obj},s₁.heap.get? b=some o->H b=none->(qU s₁.heap H).get? b=some o:=fun e n=>zC e n;have noA:∀{b:Addr} {o:Obj} {es:Array DictEntry} {ep:Nat},s₁.heap.get? b=some o->o.data=.dict es ep->H b=none:=fun {b o es ep} e d=>by
   cases q:H b with
   |none=>rfl
   |some u=>have e':b=a:=hA b (by rw[q];simp);subst e';rw[ha]at e;cases e;have d':Data.seq vs.toArray _=Data.dict es ep:=d;cases d'
  have nsK:∀{b:Addr} {m:Str->Option Value},s₁.heap.Ns b m->(qU s₁.heap H).Ns b m:=fun {b m} ⟨o,es,ep,e,d,r⟩=>⟨o,es,ep,wV e (noA e d),d,r⟩;have hKb:K.In (qU s₁.heap H):=fun b o e=>wV (KX b o e) (by
   cases q:H b with
   |none=>rfl
   |some u=>have e':b=a:=hA b (by rw[q];simp);subst e';rw[hK (by rw[q];simp)]at e;cases e)
  have hM:Mod K mg (qU s₁.heap H):=⟨hKb,nsK hns,⟨mb,nsK hb,hbb⟩,let ⟨mc,h1,h2⟩:=hlim;⟨mc,nsK h1,h2⟩⟩
  have e0:vf P w K mg (qU s₁.heap H) callerA [] s₁ H:=⟨rfl,hM,fun b o e=>C0 e,Nat.le_of_eq (yd _ _),trivial,fun b hb=>absurd (show b∈([]:List Addr) from hb) (by simp),hok,.of_eq hg⟩
  refine codeAny_mono ((F _ hKb (nsK hns)).run callerA [] s₁ H ⟨[.ref a],[]⟩ [.ref a] [.ref a] _ _ hr e0 (hbind s₁ (.ref a)) (.cons rfl .nil) (hsp H hO hS)) fun r s' h=>?_;cases r with
  |error e=>exact(hCX H e s' h).elim
  |ok fl=>
   cases fl with
   |next=>exact NH h
   |brk=>exact NH h
   |cont=>exact NH h
   |ret u=>
    obtain⟨v,H',os,bare,un,Mw,r',q⟩:=h;have q':v=.bl true:=q;subst q';obtain rfl:u=QM true:=r';refine⟨rfl,OldK.of_keep fun b o e=>?_,os,bare⟩;cases q:H b with
    |none=>exact un.keep b o e q (by intro z;exact absurd (show b∈([]:List Addr) from z) (by simp)) (by simp)
    |some u=>
     rcases hO b with z | ⟨ob,xs,z⟩
     ·rw[q]at z;cases z
     ·have z2:=un.lD b ob _ z;obtain⟨e1,_⟩:=hok b _ z;obtain⟨e2,_⟩:=Mw b _ z2;rw[e]at e1;cases e1;exact e2
 cases hk:K.lookup a with
 |some o=>have e:=KX a o hk;rw[ha]at e;cases e;refine core (fun _=>none) (fun _=>.inl rfl) (.inr ⟨_,vs.toArray,_,hk,rfl,rfl,rfl,by rw[NG,Mu];exact hl,by simpa using rv⟩) (fun b u z=>by have z':(none:Option HO)=some u:=z;cases z') (fun b z=>absurd rfl z) fun z=>absurd rfl z
 |none=>
  refine core (fun b=>if b=a then some (.frz { cls:=.type "list",data:=.seq vs.toArray } (.lst (ns.map V.int))) else none) (fun b=>?_) (.inl (.inr ⟨{ cls:=.type "list",data:=.seq vs.toArray },if_pos rfl⟩)) (fun b u z=>?_) (fun b z=>?_) fun _=>hk
  ·by_cases hb:b=a
   ·exact .inr ⟨_,_,if_pos hb⟩
   ·exact .inl (if_neg hb)
  ·by_cases hb:b=a
   ·have z':=(if_pos hb).symm.trans z;cases z';subst hb;exact⟨ha,by rw[NI];exact hl,vs,_,rv,ha⟩
   ·have z':=(if_neg hb).symm.trans z;cases z'
  ·by_cases hb:b=a
   ·exact hb
   ·exact absurd (if_neg hb) z
theorem Dd{l:QE}{n k:Nat}{q:Program}{loose:List Str}{XP:(Str->Option Value)->Heap->Prop}{YP:World->Heap->Prop}{d:DefRec}{K:Params->eg}{CX:World->CXT}{sp:World->Sp}{x:Str}
  (hn:l.most=some n) (hn2:n<=sizeLine) (hdf:d.params.defaults=[]) (hr:bK k callerA)
  (hY:∀(w:World) (h:Heap),YP w h->(K w.params).In h)
  (F:∀ (w:World) (mg:Str→Option Value) (fa:Addr) (h:Heap),(K w.params).In h→h.Ns mainGlobals mg→mg d.name=some (.ref fa) →
   ∃fd:FuncData,(∀(s:Shared) (u:Value),BindsTo s fd ⟨[u],[]⟩ [(x,u)]) /\
    ∀base:Heap,(K w.params).In base->base.Ns mainGlobals mg->bH l.prog w (K w.params) mg base (CX w) k fa fd [x] (sp w))
  (hsp:∀(w:World) (H:Hp) (a:Addr) (ns:List Int),ns.length<=n->GZ H->SqL (K w.params) H a (ns.map V.int)->sp w [.ref a] H (fun v _=>v=.bl true) fun _ _ _=>False)
  (hCX:∀(w:World) (H:Hp) (s:Shared) (e:Value) (s':Shared),CX w [] H s (fun _ _ _=>False) e s'->False) :
  PySem.W.WalkO q loose XP YP l.row.toRowW d [] (fun f vs=>PySem.call f vs):=by
 refine Att.sL hn hdf fun w s₀ s₁ mg mb fa o pm cd doc a vs ns G Y ho hd Lp hmg hobj hints FH hg=>?_;have KX:=hY w _ Y;obtain⟨fd,hb,hF⟩:=F w mg fa _ KX G.T.g hmg;exact zZ KX G.T.g G.T.b G.T.builtins G.T.nolimit hg hobj hints (Oe FH hn2) hr hF hb (fun H hO hS=>hsp w H a ns FH hO hS) fun H e s'=>hCX w H s₁ e s'
noncomputable def b4(s:Stmt):Arguments:=match s with
 |.FunctionDef _ a _ _ _ _ _ _ _ _=>a
 |_=>{ posonlyargs:=[],args:=[],vararg:=none,kwonlyargs:=[],kw_defaults:=[],kwarg:=none,defaults:=[] }
noncomputable def bD(s:Stmt):List Stmt:=match s with
 |.FunctionDef _ _ b _ _ _ _ _ _ _=>b
 |_=>[]
noncomputable def ai(s:Stmt):Scope:=match s with
 |.FunctionDef _ _ _ _ _ _ sc _ _ _=>sc
 |_=>{ kind:=.function,names:=[],isGenerator:=false,isCoroutine:=false }
noncomputable abbrev CX0:CXT:=fun _ _ _ _ _ _=>False
noncomputable abbrev E0:XK:=fun _ _ _=>False
theorem Fj{X:Cx}:Passes CX0 X E0:=fun _ _ _ _ _ _ _ h=>h.elim
structure Fun(K:eg)(x qual:Str)(st:Stmt)(f:Addr)(fd:FuncData):Prop where
 ex:∃(oc:Value) (od:Option Addr) (kV doc pm:Value) (an:Option Addr) (cdv ct:Value) (osl:Array (Option Value)),
  fd=Oa x qual (b4 st) (bD st) (ai st) .none kV doc pm an cdv ct/\K.lookup f=some ⟨oc,od,.func fd,osl⟩/\Px K cdv qual=true
 kp:Ot K (.ref f)=true
section
variable{P:Program}{w:World}{K:eg}{mg:Str->Option Value}{base:Heap}
section
variable{x qual:Str}{st:Stmt}{fd:FuncData}{f:Addr}
theorem Fun.ok{N ps:List Str}{k:Nat}{sp:Sp}(F:Fun K x qual st f fd)(S:aP N ps (ai st))(len:∀vs H Q E,sp vs H Q E->vs.length=ps.length)
  (hbody:∀ (cdv:Value) (A:Around) (outer:List Env) (s:Shared) (H:Hp) (vs:List V) (Q:VK) (E:XK),bK k (A.deeper (envOfC qual (ai st) s.heap.objs.size f cdv))→sp vs H Q E →
   ∃t,PSs (dF CX0 P w K mg base N qual (ai st) f cdv A outer s H E).nox (bD st) t/\t { nx:=fun _ H'=>Q .non H',rt:=Q } (start N vs) H):bH P w K mg base CX0 (k+1) f fd ps sp:=by
 obtain⟨oc,od,kV,doc,pm,an,cdv,ct,osl,rfl,lk,Lp⟩:=F.ex;refine wN lk Lp S len fun A outer s H vs Q E hr hsp=>?_;obtain⟨t,h,q⟩:=hbody cdv A outer s H vs Q E hr hsp;exact⟨t,h.nox,q⟩
theorem Fun.binds{ps:List Str}(F:Fun K x qual st f fd)
  (h:∀(kV doc pm:Value) (an:Option Addr) (cdv ct:Value) (us:List Value),us.length=ps.length->bindArgs (Oa x qual (b4 st) (bD st) (ai st) .none kV doc pm an cdv ct) ⟨us,[]⟩=pure (ps.zip us)):Binds K fd ps []:=by
 obtain⟨oc,od,kV,doc,pm,an,cdv,ct,osl,rfl,lk,Lp⟩:=F.ex;exact .all (h kV doc pm an cdv ct)
theorem z3{oc:Value}{od an:Option Addr}{osl:Array (Option Value)}{kV doc pm cdv ct:Value}(l:K.lookup f=some ⟨oc,od,.func (Oa x qual (b4 st) (bD st) (ai st) .none kV doc pm an cdv ct),osl⟩)
  (c:Px K cdv qual=true) (k:Ot K (.ref f)=true):Fun K x qual st f (Oa x qual (b4 st) (bD st) (ai st) .none kV doc pm an cdv ct):=⟨⟨oc,od,kV,doc,pm,an,cdv,ct,osl,rfl,l,c⟩,k⟩
end
end
theorem qj{n:Nat}(h:n<=1000):n<sizeLine:=Qg h (by decide)
section
variable{X:Cx}
theorem pv(i:Nat){x:Str}{pos:Pos}(hN:X.N[i]?=some x:=by rfl)(hv:Vis X.env.scope x:=by trivial)(hd:(x == ("__debug__" : Str))=false:=by decide)
  (Lp:(x == ("__classdict__" : Str))=false:=by decide):PE X (.Name x pos) (nB i):=lG hN hv hd Lp
end
def aF(H H':Hp):Prop:=∀b o,H b=some o->H' b=some o
theorem aF.refl(H:Hp):aF H H:=fun _ _ h=>h
theorem aF.trans{H H1 H2:Hp}(a:aF H H1)(b:aF H1 H2):aF H H2:=fun c o h=>b c o (a c o h)
theorem aF.free{H H':Hp}(e:aF H H'){l:Addr}(h:H' l=Option.none):H l=Option.none:=by
 cases q:H l with
 |none=>rfl
 |some o=>rw[e l o q]at h;cases h
section
variable{κ:Type}[DecidableEq κ]
section
variable{u:Option Value}{o:Option V}{y:V}
noncomputable def fD(kvs:List (κ×V))(k:κ):Option V:=(kvs.find? fun kv=>decide (kv.1=k)).map (·.2)
noncomputable def putK(kvs:List (κ×V))(k:κ)(v:V):List (κ×V):=
 if (kvs.any fun kv=>decide (kv.1=k))=true then kvs.map (fun kv=>if kv.1=k then (kv.1,v) else kv) else kvs++[(k,v)]
theorem cG{p:κ×V}{r:List (κ×V)}{k:κ}(e:p.1=k):fD (p::r) k=some p.2:=by simp[fD,Ox,e]
theorem cH{p:κ×V}{r:List (κ×V)}{k:κ}(e:¬p.1=k):fD (p::r) k=fD r k:=by simp[fD,Ox,e]
theorem iy(k:κ):∀kvs:List (κ×V),(kvs.any fun kv=>decide (kv.1=k))=(fD kvs k).isSome
 |[]=>rfl
 |p::r=>by
  rw[OU];by_cases e:p.1=k
  ·simp only[cG e,decide_eq_true e,Bool.true_or,Option.isSome_some]
  ·rw[cH e,decide_eq_false e,Bool.false_or];exact iy k r
theorem sM(k j:κ)(y:V):∀kvs:List (κ×V),fD (kvs.map fun kv=>if kv.1=k then (kv.1,y) else kv) j=(fD kvs j).map fun x=>if j=k then y else x
 |[]=>rfl
 |p::r=>by
  have ih:=sM k j y r;rw[Nv];by_cases h:p.1=k
  ·rw[if_pos h];by_cases e:p.1=j
   ·rw[cG (p:=(p.1,y)) e,cG e,PZ,if_pos (e.symm.trans h)]
   ·rw[cH (p:=(p.1,y)) e,cH e,ih]
  ·rw[if_neg h];by_cases e:p.1=j
   ·rw[cG (p:=p) e,cG e,PZ,if_neg (fun z=>h (e.trans z))]
   ·rw[cH (p:=p) e,cH e,ih]
theorem qk(k j:κ)(y:V):∀kvs:List (κ×V),fD kvs k=none->fD (kvs++[(k,y)]) j=if j=k then some y else fD kvs j
 |[],_=>by
  by_cases e:k=j
  ·rw[if_pos e.symm];exact cG (p:=(k,y)) e
  ·rw[if_neg (fun z=>e z.symm)];exact cH (p:=(k,y)) e
 |p::r,hn=>by
  rw[Qv];have hk:¬p.1=k:=fun z=>by rw[cG z]at hn;cases hn
  rw[cH hk]at hn;have ih:=qk k j y r hn;by_cases e:p.1=j
  ·rw[cG e,cG e,if_neg (fun z=>hk (e.trans z))]
  ·rw[cH e,cH e,ih]
theorem z7(kvs:List (κ×V))(k j:κ)(y:V):fD (putK kvs k y) j=if j=k then some y else fD kvs j:=by
 unfold putK;by_cases a:(kvs.any fun kv=>decide (kv.1=k))=true
 ·rw[if_pos a,sM];rw[iy]at a;by_cases e:j=k
  ·obtain⟨x,hx⟩:=NR.mp a;rw[if_pos e,e,hx,PZ,if_pos rfl]
  ·rw[if_neg e];cases fD kvs j with
   |none=>rfl
   |some x=>rw[PZ,if_neg e]
 ·rw[if_neg a];refine qk k j y kvs ?_;rw[iy]at a;cases q:fD kvs k with
  |none=>rfl
  |some x=>rw[q]at a;exact(a rfl).elim
theorem iz(kvs:List (κ×V))(k:κ)(v:V):(putK kvs k v).length<=kvs.length+1:=by
 unfold putK;split
 ·rw[NI];lia
 ·rw[NL,NZ,List.length_nil];lia
theorem jC.jh(r:jC o u):o.isSome=u.isSome:=by
 cases o with
 |none=>cases u with
  |none=>rfl
  |some _=>exact(show False from r).elim
 |some _=>cases u with
  |none=>exact(show False from r).elim
  |some _=>rfl
theorem jC.getD{d:V}{d':Value}(r:jC o u)(rd:RelV d d'):RelV (o.getD d) (u.getD d'):=by
 cases o with
 |none=>cases u with
  |none=>exact rd
  |some _=>exact(show False from r).elim
 |some _=>cases u with
  |none=>exact(show False from r).elim
  |some _=>exact r
theorem KV.val{kvs:List (κ×V)}{vs:List (κ×Value)}(r:KV kvs vs)(k:κ):jC (fD kvs k) (valueAt vs k):=by
 unfold KV at r
 induction r with
 |nil=>exact OB
 |@cons p q ps qs h t ih=>
  obtain⟨h1,h2⟩:=h;by_cases e:p.1=k
  ·have e':q.1=k:=h1.symm.trans e;have b:valueAt (q::qs) k=some q.2:=by simp[valueAt,Ox,e']
   rw[cG e,b];exact h2
  ·have e':¬q.1=k:=fun z=>e (h1.trans z);have b:valueAt (q::qs) k=valueAt qs k:=by simp[valueAt,Ox,e']
   rw[cH e,b];exact ih
theorem KV.any{kvs:List (κ×V)}{vs:List (κ×Value)}(r:KV kvs vs)(k:κ):(kvs.any fun kv=>decide (kv.1=k))=vs.any fun kv=>decide (kv.1=k):=by
 unfold KV at r
 induction r with
 |nil=>rfl
 |cons h t ih=>rw[OU,OU,ih,h.1]
theorem KV.repl{kvs:List (κ×V)}{vs:List (κ×Value)}(r:KV kvs vs)(k:κ){u:Value}(ry:RelV y u) :
  KV (kvs.map fun kv=>if kv.1=k then (kv.1,y) else kv) (vs.map fun kv=>if kv.1=k then (kv.1,u) else kv):=by
 unfold KV at r ⊢
 induction r with
 |nil=>exact .nil
 |@cons p q ps qs h t ih=>
  rw[Nv,Nv];refine .cons ?_ ih;obtain⟨h1,h2⟩:=h;by_cases e:p.1=k
  ·rw[if_pos e,if_pos (h1.symm.trans e)];exact⟨h1,ry⟩
  ·rw[if_neg e,if_neg (fun z=>e (h1.trans z))];exact⟨h1,h2⟩
theorem KV.put{kvs:List (κ×V)}{vs:List (κ×Value)}(r:KV kvs vs)(k:κ){u:Value}(ry:RelV y u):KV (putK kvs k y) (stored vs k u):=by
 unfold putK stored;rw[r.any k];by_cases e:(vs.any fun kv=>decide (kv.1=k))=true
 ·rw[if_pos e,if_pos e];exact r.repl k ry
 ·rw[if_neg e,if_neg e];exact Paired.snoc r ⟨rfl,ry⟩
theorem KV.length{kvs:List (κ×V)}{vs:List (κ×Value)}(r:KV kvs vs):kvs.length=vs.length:=Paired.length r
end
end
section
variable{xs:List (List Key×Addr×Value)}{kvs:List (List Key×V)}{u:Value}{P:Program}{w:World}{H:Hp}{y:V}
theorem ql{k:Key}(r:RelV (kV k) u):(bI P w).is k u=true:=by
 cases k with
 |inl i=>obtain⟨t,e⟩:=(show ∃t,u=Value.int i t from r);subst e;exact sC P w i t
 |inr x=>obtain⟨t,e⟩:=(show ∃t,u=Value.str x t from r);subst e;exact sD P w x t
theorem qm:∀{ks:List Key} {us:List Value},Vals (ks.map kV) us->ItemsAre (bI P w) ks us
 |[],_,r=>by rw[Qu]at r;cases r;exact .nil
 |k::ks,_,r=>by
  rw[Nv]at r;cases r with
  |cons h t=>exact .cons (ql h) (qm t)
noncomputable abbrev KT(H:Hp):List (List Key×V)->List (List Key×Addr×Value)->Prop:=Paired fun p q=>p.1=q.1/\H q.2.1=some (.tup (p.1.map kV))/\RelV p.2 q.2.2
theorem KT.val(r:KT H kvs xs)(k:List Key):jC (fD kvs k) ((atKey xs k).map (·.2)):=by
 induction r with
 |nil=>exact OB
 |@cons p q ps qs h t ih=>
  obtain⟨h1,_,h2⟩:=h;by_cases e:p.1=k
  ·have e':q.1=k:=h1.symm.trans e;have b:atKey (q::qs) k=some q.2:=by simp[atKey,Ox,e']
   rw[cG e,b];exact h2
  ·have e':¬q.1=k:=fun z=>e (h1.trans z);have b:atKey (q::qs) k=atKey qs k:=by simp[atKey,Ox,e']
   rw[cH e,b];exact ih
theorem KT.repl(r:KT H kvs xs)(k:List Key)(ry:RelV y u) :
  KT H (kvs.map fun kv=>if kv.1=k then (kv.1,y) else kv) (xs.map (putAt k u)):=by
 induction r with
 |nil=>exact .nil
 |@cons p q ps qs h t ih=>
  rw[Nv,Nv];refine .cons ?_ ih;obtain⟨h1,h2,h3⟩:=h;unfold putAt;by_cases e:p.1=k
  ·rw[if_pos e,if_pos (h1.symm.trans e)];exact⟨h1,h2,ry⟩
  ·rw[if_neg e,if_neg (fun z=>e (h1.trans z))];exact⟨h1,h2,h3⟩
theorem KT.put(r:KT H kvs xs)(k:List Key){b:Addr}(hb:H b=some (.tup (k.map kV)))(ry:RelV y u) :
  KT H (putK kvs k y) (storedH xs k b u):=by
 have e:(kvs.any fun kv=>decide (kv.1=k))=(atKey xs k).isSome:=by rw[iy,(r.val k).jh,PF]
 unfold putK storedH;rw[e];by_cases q:(atKey xs k).isSome=true
 ·rw[if_pos q,if_pos q];exact r.repl k ry
 ·rw[if_neg q,if_neg q];exact Paired.snoc r ⟨rfl,hb,ry⟩
theorem KT.keeps{H H':Hp}(r:KT H kvs xs)(ht:∀b ys,H b=some (.tup ys)->H' b=some (.tup ys)):KT H' kvs xs:=
 Paired.Gk r fun _ _ z=>⟨z.1,ht _ _ z.2.1,z.2.2⟩
end
section
variable{P:Program}{w:World}{H:Hp}{h:Heap}{a:Addr}
section
variable{kvs:List (List Key×V)}{ts:List Addr}
theorem Fl{u:HO}(ok:HOk P w H h)(e:Rd H a u):br P w H h a u:=e.ok ok
theorem qo{kvs:List (Key×V)}(ok:HOk P w H h)(e:Rd H a (.dK kvs)):kvs.length<=sizeLine/\(a == sysModules)=false/\∃vs,KV kvs vs/\h.DictOf (bI P w) a vs:=
 show br P w H h a (.dK kvs) from Fl ok e
theorem z8{kvs:List (Key×V)}(ok:HOk P w H h)(e:H a=some (.dK kvs)):kvs.length<=sizeLine/\(a == sysModules)=false/\∃vs,KV kvs vs/\h.DictOf (bI P w) a vs:=qo ok (.inl e)
theorem nG{ks:List Key}(ok:HOk P w H h)(e:H a=some (.tup (ks.map kV))):(tupleKind (bI P w)).is h ks a:=by
 obtain⟨_,its,r,o,h1,h2,n,h3⟩:=(show br P w H h a (.tup (ks.map kV)) from ok a _ e)
 exact⟨o,its.toArray,n,h1,h2,h3,by simpa using qm r⟩
theorem qp(ok:HOk P w H h)(e:Rd H a (.dT kvs ts)):kvs.length<=sizeLine/\(a == sysModules)=false /\
  ∃xs,KT H kvs xs/\h.DictOfH (tupleKind (bI P w)) a xs:=by
 obtain⟨z,y,xs,r,o,es,ep,h1,h2,h3,h4,h5,_⟩:=(show br P w H h a (.dT kvs ts) from Fl ok e)
 refine⟨z,y,xs,r,o,es,ep,h1,h2,h3,h4,fun x hx=>?_,h5⟩;have all:∀{l:List (List Key×V)} {m:List (List Key×Addr×Value)},KT H l m->∀x∈m,(tupleKind (bI P w)).is h x.1 x.2.1:=by
  intro l m q
  induction q with
  |nil=>intro x hx;exact nomatch hx
  |@cons p q ps qs hq t ih=>
   intro x hx;rcases Dp.mp hx with e | hx
   ·subst e;exact nG ok (by rw[<- hq.1];exact hq.2.1)
   ·exact ih x hx
 exact all r x hx
theorem JI(ok:HOk P w H h)(e:H a=some (.dT kvs ts)):kvs.length<=sizeLine/\(a == sysModules)=false /\
  ∃xs,KT H kvs xs/\h.DictOfH (tupleKind (bI P w)) a xs:=qp ok (.inl e)
end
end
section
variable{kvs:List (Key×V)}{a:Addr}{H:Hp}
noncomputable def G0(kvs:List (List Key×V))(ts:List Addr)(k:List Key)(b:Addr):List Addr:=if (kvs.any fun kv=>decide (kv.1=k))=true then ts else ts++[b]
theorem sN{kvs:List (List Key×V)}{xs:List (List Key×Addr×Value)}(r:KT H kvs xs)(k:List Key)(b:Addr)(u:Value):(storedH xs k b u).map (·.2.1)=G0 kvs (xs.map (·.2.1)) k b:=by
 have e:(kvs.any fun kv=>decide (kv.1=k))=(atKey xs k).isSome:=by rw[iy,(r.val k).jh,PF]
 unfold storedH G0;rw[e];by_cases q:(atKey xs k).isSome=true
 ·rw[if_pos q,if_pos q,O0];refine List.map_congr_left fun x _=>?_;show (putAt k u x).2.1=x.2.1;unfold putAt;split<;>rfl
 ·rw[if_neg q,if_neg q,Oo];rfl
theorem G1{P:Program}{w:World}{h:Heap}{xs xs2:List (List Key×Addr×Value)}{ts:List Addr}{o:Obj}{es:Array DictEntry}{ep:Nat}(d:h.DictOfH (tupleKind (bI P w)) a xs)(g1:h.get? a=some o)(g3:o.data=.dict es ep)
  (g4:es.toList=xs2.map (entryOfKey (tupleKind (bI P w)))) (g6:xs2.map (·.2.1)=ts):xs.map (·.2.1)=ts:=by
 obtain⟨o1,es1,ep1,h1,h2,h3,h4,_⟩:=d;rw[g1]at h1;cases h1;rw[g3]at h3;cases h3;rw[g4]at h4;have key:∀l:List (List Key×Addr×Value),(l.map (entryOfKey (tupleKind (bI P w)))).map (·.key)=(l.map (·.2.1)).map NN:=fun l=>by rw[O0,O0];rfl
 have:=congrArg (List.map (·.key)) h4;rw[key,key,g6]at this;exact(List.map_inj_right (fun a b e=>NN.inj e)).mp this.symm
def jD(H:Hp)(a:Addr)(y:V)(r:Option V):Prop:=
 (∃kvs k,Rd H a (.dK kvs)/\y=kV k/\r=fD kvs k)\/∃kvs k b ts,Rd H a (.dT kvs ts)/\y=.ref b/\H b=some (.tup (k.map kV))/\r=fD kvs k
def z9(H:Hp)(a:Addr)(y v:V)(H':Hp):Prop:=
 (∃kvs k,H a=some (.dK kvs)/\y=kV k/\kvs.length<sizeLine/\H'=upd H a (.dK (putK kvs k v))) \/
 ∃kvs k b ts,H a=some (.dT kvs ts)/\y=.ref b/\H b=some (.tup (k.map kV))/\kvs.length<sizeLine/\H'=upd H a (.dT (putK kvs k v) (G0 kvs ts k b))
theorem jD.k{k:Key}(e:H a=some (.dK kvs)):jD H a (kV k) (fD kvs k):=.inl ⟨kvs,k,.inl e,rfl,rfl⟩
theorem z9.k{k:Key}{v:V}(e:H a=some (.dK kvs))(hl:kvs.length<sizeLine):z9 H a (kV k) v (upd H a (.dK (putK kvs k v))):=.inl ⟨kvs,k,e,rfl,hl,rfl⟩
end
section
variable{X:Cx}{yZ:List (Addr×Obj)}{σ:St}{H:Hp}{s:Shared}{a:Addr}{y v:V}{u r:Value}{o:Option V}{A:Around}{E:Value->Shared->Prop}
section
variable{Q:Value->Shared->Prop}{h':Heap}
theorem Inv.big(I:Inv X yZ σ H s):sysModules<s.heap.objs.size:=by have h:mainGlobals<s.heap.objs.size:=(I.mod.glob.keeps I.bk).lt;exact Qw (by decide) h
theorem yz(hu:A.units+1<cLine)(I:Inv X yZ σ H s)(g:jD H a y (some v))(ry:RelV y u)(h:∀w' s',Inv X yZ σ H s'->RelV v w'->Q w' s') :
  wpAny (model X.prog X.w) A (getItem (.ref a) u) Q E s:=by
 rcases g with⟨kvs,k,e,ey,l⟩ | ⟨kvs,k,b,ts,e,ey,eb,l⟩
 ·subst ey;obtain⟨z,hd,vs,rel,dd⟩:=qo I.hok e;obtain⟨w',hw,rw'⟩:=jC.some_of (v:=v) (o:=valueAt vs k) (by rw[l];exact rel.val k);exact wpAny_getItem_of (ql ry) dd.mapOf hw (h w' _ (I.tok _) rw')
 ·subst ey;cases (show u=NN b from ry);obtain⟨z,hd,xs,rel,dd⟩:=qp I.hok e;obtain⟨w',hw,rw'⟩:=jC.some_of (v:=v) (o:=(atKey xs k).map (·.2)) (by rw[l];exact rel.val k);obtain⟨p,hp,hp2⟩:=Option.map_eq_some_iff.mp hw;refine wpAny_getItem_heap (tupleKind_room_in1 hu) (nG I.hok eb) dd hp ?_;rw[hp2];exact h w' _ (I.tok _) rw'
theorem De(hu:A.units+1<cLine)(I:Inv X yZ σ H s)(g:jD H a y o)(ry:RelV y u)(h:∀s',Inv X yZ σ H s'->Q (.bool (!o.isSome)) s') :
  wpAny (model X.prog X.w) A (compareOp .NotIn u (.ref a)) Q E s:=by
 rcases g with⟨kvs,k,e,ey,l⟩ | ⟨kvs,k,b,ts,e,ey,eb,l⟩
 ·subst ey;obtain⟨z,hd,vs,rel,dd⟩:=qo I.hok e;refine wpAny_notIn_of (ql ry) hd dd.mapOf ?_;rw[<- (rel.val k).jh,<- l];exact h _ (I.tok _)
 ·subst ey;cases (show u=NN b from ry);obtain⟨z,hd,xs,rel,dd⟩:=qp I.hok e;refine wpAny_notIn_heap (tupleKind_room_in1 hu) (nG I.hok eb) hd dd ?_;have q:=(rel.val k).jh;rw[PF]at q;rw[<- q,<- l];exact h _ (I.tok _)
theorem qZ{t':Nat}{ob:HO}(I:Inv X yZ σ H s)(mu:Mut (H a))(hs:Pj a s.heap h')(he:∃q,h'.get? a=some q)(new:br X.prog X.w (upd H a ob) h' a ob) :
  Inv X yZ σ (upd H a ob) { s with heap:=h',toks:=t' }:=
 I.write (x:=a) (e:=a) mu (.inl rfl) (fun b q hb z=>(hs.2 b hb).trans z) he new
theorem z_{P:Program}{w:World}{H':Hp}{kvs:List (Key×V)}{vs:List (Key×Value)}(z:kvs.length<=sizeLine)(hd:(a == sysModules)=false)(rel:KV kvs vs)(dd:h'.DictOf (bI P w) a vs) :
  br P w H' h' a (.dK kvs):=⟨z,hd,vs,rel,dd⟩
theorem yC{H':Hp}{Q:Unit->Shared->Prop}(hu:A.units+1<cLine)(I:Inv X yZ σ H s)(g:z9 H a y v H')(ry:RelV y u)(rv:RelV v r)(h:∀s',Inv X yZ σ H' s'->Q () s') :
  wpAny (model X.prog X.w) A (setItem (.ref a) u r) Q E s:=by
 rcases g with⟨kvs,k,e,ey,l,eH⟩ | ⟨kvs,k,b,ts,e,ey,eb,l,eH⟩
 ·subst ey eH;obtain⟨z,hd,vs,rel,dd⟩:=z8 I.hok e;have hz:vs.length<=sizeLine:=by rw[<- rel.length];exact z
  have hl:(putK kvs k v).length<=sizeLine:=by have:=iz kvs k v;lia
  refine wpAny_setItem_pairs (hsz:=hz) (ql ry) dd fun h' dd' hs=>h _ ?_;have he:∃q,h'.get? a=some q:=let ⟨q,_,_,hq,_⟩:=dd';⟨q,hq⟩
  exact qZ I (by rw[e];exact OB) hs he (z_ hl hd (rel.put k rv) dd')
 ·subst ey eH;cases (show u=NN b from ry);obtain⟨z,hd,xs,rel,dd⟩:=JI I.hok e;have hz:xs.length<=sizeLine:=by rw[<- Paired.length rel];exact z
  have hl:(putK kvs k v).length<=sizeLine:=by have:=iz kvs k v;lia
  refine wpAny_setItem_heap (hsz:=hz) (tupleKind_room_in1 hu) (nG I.hok eb) dd fun h' dd' hs=>h _ ?_;obtain⟨q,es,ep,hq,h2,h3,h4,_,h5⟩:=dd';refine qZ I (by rw[e];exact OB) hs ⟨q,hq⟩ ⟨hl,hd,_,(rel.put k eb rv).keeps fun c ys ec=>?_,q,es,ep,hq,h2,h3,h4,h5,?_⟩
  ·rw[ao (Jf ec e (fun z=>nomatch z))];exact ec
  ·have hts:xs.map (·.2.1)=ts:=by
    obtain⟨_,_,xs2,_,o2,es2,ep2,g1,g2,g3,g4,g5,g6⟩:=(show br X.prog X.w H s.heap a (.dT kvs ts) from I.hok a _ e)
    exact G1 dd g1 g3 g4 g6
   rw[<- hts];exact sN rel k b r
end
end
def Df(i:Expr):Prop:=∀ov iv,subscripted i false ov iv=operate [ov,iv] (getItem ov iv)
theorem Dg{prog:Program}{w:World}{A:Around}{E:Value->Shared->Prop}{s:Shared}{env:Env}{value slice:Expr}{pos:Pos}{T id:String}{Q:Value->Shared->Prop}
  (hl:typeLookup (.type T) "__getitem__" = pure (some (.builtin id))) (hs:Df slice)
  (h:wpAny (model prog w) A (eval value env) (fun o s₁=>wpAny (model prog w) A (eval slice env) (fun i s₂=>s₂.TypeIs o T/\wpAny (model prog w) A (getItem o i) Q E s₂) E s₁) E s) :
  wpAny (model prog w) A (eval (.Subscript value slice pos) env) Q E s:=by
 refine Subscript_ (wpAny_mono h (fun o s₁ h₁=>wpAny_mono h₁ (fun i s₂ h₂=>?_) fun _ _ x=>x) fun _ _ x=>x);obtain⟨hT,h₂⟩:=h₂;unfold subscriptTail;refine wpAny_bind ?_;rw[getitemInPython_of_ne hT.not_modules];refine wpAny_bind (wpAny_specialOf hT hl ?_);have Ll:wpAny (model prog w) A (subscripted slice false o i) (fun r s₃=>wpAny (model prog w) A (letTemporaryGo value o r >>= fun _=>pure r) Q E s₃) E s₂:=by rw[hs o i];exact wpAny_operating (wpAny_mono h₂ (fun r s₃ h₃=>wpAny_bind (wpAny_letTemporaryGo (wpAny_pure h₃))) fun _ _ x=>x)
 first
  |exact wpAny_pure (wpAny_bind Ll)
  |exact wpAny_bind (wpAny_pure (wpAny_bind Ll))
  |exact wpAny_bind Ll
theorem sO{X:Cx}{yZ:List (Addr×Obj)}{σ:St}{H:Hp}{s:Shared}{a:Addr}{y:V}{o:Option V}(I:Inv X yZ σ H s)(g:jD H a y o):s.TypeIs (.ref a) "dict" := by
 rcases g with⟨kvs,k,e,_,_⟩ | ⟨kvs,k,b,ts,e,_,_,_⟩
 ·obtain⟨_,_,vs,_,dd⟩:=qo I.hok e;exact dd.typeIs
 ·obtain⟨_,_,xs,_,dd⟩:=qp I.hok e;exact dd.typeIs
def Fo(td ty:TE):TE:=fun σ H Q=>td σ H fun x H1=>ty σ H1 fun y H2=>∃a v,x=.ref a/\jD H2 a y (some v)/\Q v H2
def Dh(ty td:TE):TE:=fun σ H Q=>ty σ H fun y H1=>td σ H1 fun x H2=>∃a o,x=.ref a/\jD H2 a y o/\Q (.bl (!o.isSome)) H2
def Fp(td ty tv:TE):TS:=fun D σ H=>tv σ H fun v H1=>td σ H1 fun x H2=>ty σ H2 fun y H3=>∃a H4,x=.ref a/\z9 H3 a y v H4/\D.nx σ H4
section
variable{X:Cx}{o i e value:Expr}{pos pos' tpos:Pos}{td ty tv:TE}
theorem wW(hu:X.A.units+1<cLine)(ho:PE X o td)(hi:PE X i ty)(hs:Df i):PE X (.Subscript o i pos) (Fo td ty):=by intro yZ s σ H Q I h;refine Dg PySem.F.slot_dict_getitem.lookup hs (thn (ho yZ s σ H _ I h) fun u s1 ⟨x,H1,I1,rx,q1⟩=>thn (hi yZ s1 σ H1 _ I1 q1) fun iv s2 ⟨y,H2,I2,ry,a,v,ex,g,q2⟩=>?_);subst ex;obtain rfl:u=NN a:=rx;exact⟨sO I2 g,yz hu I2 g ry fun w' s3 I3 rw'=>⟨v,H2,I3,rw',q2⟩⟩
theorem yD(hu:X.A.units+1<cLine)(hi:PE X i ty)(ho:PE X o td):PC X .NotIn i o (Dh ty td):=by intro yZ s σ H Q I h;refine thn (hi yZ s σ H _ I h) fun iv s1 ⟨y,H1,I1,ry,q1⟩=>thn (ho yZ s1 σ H1 _ I1 q1) fun u s2 ⟨x,H2,I2,rx,a,ov,ex,g,q2⟩=>?_;subst ex;obtain rfl:u=NN a:=rx;exact De hu I2 g ry fun s3 I3=>⟨.bl (!ov.isSome),H2,I3,rfl,q2⟩
theorem Di(hu:X.A.units+1<cLine)(ho:PE X o td)(hi:PE X i ty)(hv:PE X value tv)(hs:swapsWith value (some (.Subscript o i pos')) pos.line X.env=pure false) :
  PS X (.Assign [.Subscript o i pos'] value pos) (Fp td ty tv):=by
 intro yZ s σ H D I h;refine wpAny_Assign_Subscript (thn (hv yZ s σ H _ I h) fun r s1 ⟨v,H1,I1,rv,q1⟩=>thn (ho yZ s1 σ H1 _ I1 q1) fun u s2 ⟨x,H2,I2,rx,q2⟩=>thn (hi yZ s2 σ H2 _ I2 q2) fun iv s3 ⟨y,H3,I3,ry,a,H4,ex,g,q3⟩=>?_) hs;subst ex;obtain rfl:u=NN a:=rx;exact yC hu I3 g ry rv fun s4 I4=>⟨σ,H4,I4,q3⟩
end
theorem sP{P:Program}{w:World}{H:Hp}(h:Heap)(hb:sysModules<h.objs.size):br P w H (h.push { cls:=.type "dict",data:=.dict #[] }) h.objs.size (.dK []):=
 ⟨Od _,beq_eq_false_iff_ne.mpr (N2 (NV hb)),[],.nil,Heap.DictOf.new h⟩
def Aa:TE:=fun _ H Q=>∀p,H p=none->Q (.ref p) (upd H p (.dK []))
section
variable{X:Cx}{pos:Pos}
theorem Ab:PE X (.Dict [] [] pos) Aa:=fun yZ s σ H Q I h=>wpAny_Dict_empty ⟨.ref s.heap.objs.size,_,I.laid (a:=s.heap.objs.size) (o:=.dK []) (t':=s.toks) (fun _ _ q=>HT _ q) (NC _) (sP s.heap I.big),rfl,h _ (I.hok.fresh (NC _))⟩
end
section
variable{trs:List (TE×TE)}{pos:Pos}{X:Cx}
def q_:List (TE×TE)->St->Hp->(List (V×V)->Hp->Prop)->Prop
 |[],_,H,Q=>Q [] H
 |(tk,tv)::r,σ,H,Q=>tk σ H fun x H1=>tv σ H1 fun y H2=>q_ r σ H2 fun ps H3=>Q ((x,y)::ps) H3
noncomputable abbrev VV:List (V×V)->List (Value×Value)->Prop:=Paired fun p q=>RelV p.1 q.1/\RelV p.2 q.2
def PPs(X:Cx)(pos:Pos)(keys:List (Option Expr))(values:List Expr)(trs:List (TE×TE)):Prop:=
 ∀(yZ:List (Addr×Obj)) (s:Shared) (σ:St) (H:Hp) (Q:List (V×V)->Hp->Prop),Inv X yZ σ H s->q_ trs σ H Q ->
  wpAny (model X.prog X.w) X.A (evalPairs (pairTrees keys values X.env pos)) (fun vs s'=>∃ps H',Inv X yZ σ H' s'/\VV ps vs/\Q ps H') X.xe s
theorem wX:PPs X pos [] [] []:=fun yZ s σ H Q I h=>pairTrees_nil_walk ⟨[],H,I,.nil,h⟩
theorem sQ{k v:Expr}{ks:List (Option Expr)}{vs:List Expr}{tk tv:TE}(hk:PE X k tk)(hv:PE X v tv)(hr:PPs X pos ks vs trs) :
  PPs X pos (some k::ks) (v::vs) ((tk,tv)::trs):=fun yZ s σ H Q I h=>
 pairTrees_cons_walk (thn (hk yZ s σ H _ I h) fun u s1 ⟨x,H1,I1,rx,q1⟩=>thn (hv yZ s1 σ H1 _ I1 q1) fun w2 s2 ⟨y,H2,I2,ry,q2⟩=>thn (hr yZ s2 σ H2 _ I2 q2) fun ws s3 ⟨ps,H3,I3,rel,q3⟩=>⟨(x,y)::ps,H3,I3,.cons ⟨rx,ry⟩ rel,q3⟩)
noncomputable def iA(kvs more:List (Key×V)):List (Key×V):=more.foldl (fun En kv=>putK En kv.1 kv.2) kvs
theorem KV.merge:∀{more:List (Key×V)} {rs:List (Key×Value)} {kvs:List (Key×V)} {vs:List (Key×Value)},KV more rs->KV kvs vs->KV (iA kvs more) (merged vs rs):=by
 intro more rs kvs vs r;unfold KV at r
 induction r generalizing kvs vs with
 |nil=>intro q;exact q
 |@cons p q ps qs h t ih=>
  intro r0;have e:KV (putK kvs p.1 p.2) (stored vs q.1 q.2):=by have:=r0.put p.1 h.2;rw[<- h.1];exact this
  exact ih e
theorem jv:∀(more kvs:List (Key×V)),(iA kvs more).length<=kvs.length+more.length
 |[],kvs=>by show kvs.length<=kvs.length+0;lia
 |p::r,kvs=>by have h1:=jv r (putK kvs p.1 p.2);have h2:=iz kvs p.1 p.2;show (iA (putK kvs p.1 p.2) r).length<=_;rw[NZ];lia
theorem nI{P:Program}{w:World}:∀{kvs:List (Key×V)} {ws:List (Value×Value)},VV (kvs.map fun kv=>(kV kv.1,kv.2)) ws->∃rs,Carries (bI P w) ws rs/\KV kvs rs
 |[],_,r=>by rw[Qu]at r;cases r;exact⟨[],OB,.nil⟩
 |p::kvs,_,r=>by
  rw[Nv]at r;cases r with
  |@cons a b as bs h t=>obtain⟨rs,c,q⟩:=nI (P:=P) (w:=w) t;obtain⟨b1,b2⟩:=b;exact⟨(p.1,b2)::rs,⟨ql h.1,rfl,c⟩,.cons ⟨rfl,h.2⟩ q⟩
def Ac(trs:List (TE×TE)):TE:=fun σ H Q=>∀p,H p=none->q_ trs σ (upd H p (.dK [])) fun ps H2=>H2 p=some (.dK [])/\∃kvs:List (Key×V),ps=kvs.map (fun kv=>(kV kv.1,kv.2))/\kvs.length<=15/\Q (.ref p) (upd H2 p (.dK (iA [] kvs)))
theorem wY{keys:List (Option Expr)}{values:List Expr}(h:PPs X pos keys values trs)(hall:keys.all (·.isSome)=true)(hl:keys.length=values.length)(h0:keys≠[])
  (h15:keys.length<=15):PE X (.Dict keys values pos) (Ac trs):=by
 intro yZ s σ H Q I q;have hn:=I.hok.fresh (NC s.heap.objs.size);have I1:=I.laid (a:=s.heap.objs.size) (o:=.dK []) (h':=s.heap.push { cls:=.type "dict",data:=.dict #[] }) (t':=s.toks) (fun _ _ q=>HT _ q) (NC _) (sP s.heap I.big);refine wpAny_Dict_walk (knd:=bI X.prog X.w) hall hl h0 h15 (thn (h yZ _ σ _ _ I1 (q _ hn)) fun ws s2 ⟨ps,H2,I2,rel,e,kvs,ep,lk,q2⟩=>?_);subst ep;obtain⟨rs,c,rk⟩:=nI (P:=X.prog) (w:=X.w) rel;obtain⟨z,hd,vs0,r0,dd⟩:=z8 I2.hok e;cases r0;refine⟨rs,c,dd,fun h' dd' hs=>⟨.ref s.heap.objs.size,_,?_,rfl,q2⟩⟩;have hz:(iA [] kvs).length<=sizeLine:=by have h1:=jv kvs [];rw[List.length_nil]at h1;rw[sizeLine_eq];lia
 have he:∃q,h'.get? s.heap.objs.size=some q:=let ⟨q,_,_,hq,_⟩:=dd';⟨q,hq⟩
 exact qZ I2 (by rw[e];exact OB) hs he (z_ hz hd (rk.merge .nil) dd')
structure M1(X:Cx)(o:Expr)(m:Str)(M3:Pos)(e:Expr)(cpos:Pos):Prop where
 base:attributeBase o m X.env (eval o X.env)=eval o X.env
 few:((backTo cpos (starEach [e] X.env)).all (fun x=>!x.1)&&(backToKw cpos (keywordEach [] X.env)).all (fun x=>x.1.isSome)
  && decide (([e]:List Expr).length+([]:List Keyword).length+(if ([]:List Keyword).isEmpty then 0 else 1)<30))=true
 line:(M3.endLine == cpos.line)=true
 trees:backTo cpos (starEach [e] X.env)=[(false,eval e X.env)]
def IsD(H:Hp)(a:Addr):Prop:=(∃kvs,Rd H a (.dK kvs))\/∃kvs ts,Rd H a (.dT kvs ts)
theorem G3{yZ:List (Addr×Obj)}{σ:St}{H:Hp}{s:Shared}{a:Addr}(I:Inv X yZ σ H s)(d:IsD H a) :
  s.TypeIs (.ref a) "dict" /\ (∀b,NN a=.ref b->∃ob,s.heap.get? b=some ob/\ob.dict=none)/\(a == sysModules)=false:=by
 rcases d with⟨kvs,e⟩ | ⟨kvs,ts,e⟩
 ·obtain⟨_,hd,vs,_,dd⟩:=qo I.hok e;refine⟨dd.typeIs,fun b q=>?_,hd⟩;cases q;obtain⟨ob,_,_,h1,h2,_⟩:=dd;exact⟨ob,h1,h2.2.1⟩
 ·obtain⟨_,hd,xs,_,dd⟩:=qp I.hok e;refine⟨dd.typeIs,fun b q=>?_,hd⟩;cases q;obtain⟨ob,_,_,h1,h2,_⟩:=dd;exact⟨ob,h1,h2.2.1⟩
end
section
variable{X:Cx}{yZ:List (Addr×Obj)}{σ:St}{H:Hp}{s:Shared}{a:Addr}{y d:V}{u r:Value}{o:Option V}{A:Around}{E:Value->Shared->Prop}
theorem G4{Q:Value->Shared->Prop}(hu:A.units+1<cLine)(I:Inv X yZ σ H s)(g:jD H a y o)(ry:RelV y u)(h:∀w' s',Inv X yZ σ H s'->RelV (o.getD .non) w'->Q w' s') :
  wpAny (model X.prog X.w) A (call (.builtin "dict.get") [.ref a,u]) Q E s:=by
 rcases g with⟨kvs,k,e,ey,l⟩ | ⟨kvs,k,b,ts,e,ey,eb,l⟩
 ·subst ey;obtain⟨z,hd,vs,rel,dd⟩:=qo I.hok e;refine call_meetsIn PN dd.typeIs PySem.F.entry_dict_get (PySem.F.args_dict_get_2 _ _) (meets_dict_get (bI X.prog X.w) a (ql ry) hd) ⟨_,dd.mapOf,h _ _ (I.tok _) ?_⟩;rw[l];exact(rel.val k).getD rfl
 ·subst ey;cases (show u=NN b from ry);obtain⟨z,hd,xs,rel,dd⟩:=qp I.hok e;refine call_meetsIn PN dd.typeIs PySem.F.entry_dict_get (PySem.F.args_dict_get_2 _ _) (meetsH_dict_get (tupleKind (bI X.prog X.w)) a b hd) ⟨tupleKind_room_in1 hu,k,xs,nG I.hok eb,dd,h _ _ (I.tok _) ?_⟩;rw[l];exact(rel.val k).getD rfl
end
def Ad(td ty:TE):TE:=fun σ H Q=>td σ H fun x H1=>∃a,x=.ref a/\IsD H1 a/\ty σ H1 fun y H2=>∃o,jD H2 a y o/\Q (o.getD .non) H2
section
variable{X:Cx}{o e f:Expr}{M3 cpos:Pos}{td ty tx:TE}
theorem Ae(hu:X.A.units+1<cLine)(ho:PE X o td)(he:PE X e ty)(m:M1 X o "get" M3 e cpos):PE X (.Call (.Attribute o "get" M3) [e] [] cpos) (Ad td ty):=by intro yZ s σ H Q I h;refine wpAny_Call_method m.base m.few m.line PySem.F.plainAttrs_dict PN PySem.F.type_dict_get (thn (ho yZ s σ H _ I h) fun u s1 ⟨x,H1,I1,rx,a,ex,d,q1⟩=>?_);subst ex;obtain rfl:u=NN a:=rx;obtain⟨t1,t2,_⟩:=G3 I1 d;refine⟨t1,t2,?_⟩;rw[m.trees];refine O6 rfl (PY (Calls.spliced_cons (thn (he yZ s1 σ H1 _ I1 q1) fun iv s2 ⟨y,H2,I2,ry,ov,g,q2⟩=>OY ?_)));exact G4 hu I2 g ry fun w' s3 I3 rw'=>⟨_,H2,I3,rw',q2⟩
end
end L2
namespace Dm
inductive Dat where
 |non
 |bl (b:Bool)
 |int (i:Int)
 |str (s:List Nat)
 |tup (xs:List Dat)
 |lst (xs:List Dat)
 |dct (ks:List Int) (vs:List Dat)
 |dcp (ks:List (Int×Int)) (vs:List Dat)
 |exc (C:Nat)
 |bC (C:Nat) (v:Int)
 |fn (a:Nat)
deriving Inhabited
inductive Cell where
 |un
 |sh (d:Dat)
 |ow (d:Dat)
deriving Inhabited
noncomputable abbrev Env:=List Cell
inductive Val where
 |val (d:Dat)
 |slot (i:Nat)
 |new (d:Dat)
inductive RV where
 |val (d:Dat)
 |new (d:Dat)
noncomputable def RV.dat:RV->Dat
 |.val d=>d
 |.new d=>d
noncomputable def RV.dc:RV->Val
 |.val d=>.val d
 |.new d=>.new d
noncomputable def SZ:Nat:=100000
noncomputable def gu:Dat->Bool
 |.tup _=>true
 |.lst _=>true
 |.dct _ _=>true
 |.dcp _ _=>true
 |.exc _=>true
 |.bC _ _=>true
 |_=>false
noncomputable def pk(ρ:Env):Val->Option Dat
 |.val d=>some d
 |.new d=>some d
 |.slot i=>match ρ[i]? with
  |some (.ow d)=>some d
  |some (.sh d)=>some d
  |_=>none
noncomputable def tk(ρ:Env):Val->Option (Dat×Env)
 |.val d=>some (d,ρ)
 |.new d=>some (d,ρ)
 |.slot i=>match ρ[i]? with
  |some (.ow d)=>some (d,ρ.set i (.sh d))
  |some (.sh d)=>some (d,ρ)
  |_=>none
noncomputable def pks(ρ:Env):List Val->Option (List Dat)
 |[]=>some []
 |x::r=>match pk ρ x with
  |none=>none
  |some d=>match pks ρ r with
   |none=>none
   |some ds=>some (d::ds)
noncomputable def tks(ρ:Env):List Val->Option (List Dat×Env)
 |[]=>some ([],ρ)
 |x::r=>match tk ρ x with
  |none=>none
  |some (d,ρ1)=>match tks ρ1 r with
   |none=>none
   |some (ds,ρ2)=>some (d::ds,ρ2)
noncomputable abbrev FE:=Env->Option (Val×Env)
noncomputable abbrev FT:=Env->Option (Bool×Env)
noncomputable def eC(d:Dat):FE:=fun ρ=>some (.val d,ρ)
noncomputable def eV(i:Nat):FE:=fun ρ=>match ρ[i]? with
 |some (.sh d)=>some (.val d,ρ)
 |some (.ow _)=>some (.slot i,ρ)
 |_=>none
noncomputable def e1(g:Dat->Option RV)(a:FE):FE:=fun ρ=>match a ρ with
 |none=>none
 |some (x,ρ1)=>match pk ρ1 x with
  |none=>none
  |some d=>match g d with
   |none=>none
   |some v=>some (v.dc,ρ1)
noncomputable def e2(g:Dat->Dat->Option RV)(a b:FE):FE:=fun ρ=>match a ρ with
 |none=>none
 |some (x,ρ1)=>match b ρ1 with
  |none=>none
  |some (y,ρ2)=>match pk ρ2 x with
   |none=>none
   |some d=>match pk ρ2 y with
    |none=>none
    |some e=>match g d e with
     |none=>none
     |some v=>some (v.dc,ρ2)
noncomputable def eAs:List FE->Env->Option (List Val×Env)
 |[],ρ=>some ([],ρ)
 |a::r,ρ=>match a ρ with
  |none=>none
  |some (x,ρ1)=>match eAs r ρ1 with
   |none=>none
   |some (xs,ρ2)=>some (x::xs,ρ2)
noncomputable def eB(g:List Dat->Option RV)(as:List FE):FE:=fun ρ=>match eAs as ρ with
 |none=>none
 |some (xs,ρ1)=>match pks ρ1 xs with
  |none=>none
  |some ds=>match g ds with
   |none=>none
   |some v=>some (v.dc,ρ1)
noncomputable def bw(as:List FE):FE:=fun ρ=>match eAs as ρ with
 |none=>none
 |some (xs,ρ1)=>match tks ρ1 xs with
  |none=>none
  |some (ds,ρ2)=>if ds.length<=SZ then some (.val (.tup ds),ρ2) else none
noncomputable def dP(as:List FE):FE:=fun ρ=>match eAs as ρ with
 |none=>none
 |some (xs,ρ1)=>match tks ρ1 xs with
  |none=>none
  |some (ds,ρ2)=>if ds.length<=SZ then some (.new (.lst ds),ρ2) else none
noncomputable def eF(f:List Dat->Option RV)(as:List FE):FE:=fun ρ=>match eAs as ρ with
 |none=>none
 |some (xs,ρ1)=>match pks ρ1 xs with
  |none=>none
  |some ds=>match f ds with
   |none=>none
   | some v=>if gu v.dat then (match tks ρ1 xs with
     |none=>none
     |some (_,ρ2)=>some (v.dc,ρ2)) else some (v.dc,ρ1)
noncomputable def eIf(t:FT)(a b:FE):FE:=fun ρ=>match t ρ with
 |none=>none
 |some (true,ρ1)=>a ρ1
 |some (false,ρ1)=>b ρ1
noncomputable def nJ(a b:FE):FE:=fun ρ=>match a ρ with
 |some (.val (.bl true),ρ1)=>b ρ1
 |some (.val (.bl false),ρ1)=>some (.val (.bl false),ρ1)
 |_=>none
noncomputable def eOr(a b:FE):FE:=fun ρ=>match a ρ with
 |some (.val (.bl true),ρ1)=>some (.val (.bl true),ρ1)
 |some (.val (.bl false),ρ1)=>b ρ1
 |_=>none
noncomputable def pS(a:FE):FE:=fun ρ=>match a ρ with
 |some (.val (.bl c),ρ1)=>some (.val (.bl (!c)),ρ1)
 |_=>none
noncomputable def tV(a:FE):FT:=fun ρ=>match a ρ with
 |some (.val (.bl c),ρ1)=>some (c,ρ1)
 |_=>none
noncomputable def fK(t:FT):FT:=fun ρ=>match t ρ with
 |some (c,ρ1)=>some (!c,ρ1)
 |none=>none
noncomputable def g8(t u:FT):FT:=fun ρ=>match t ρ with
 |some (true,ρ1)=>u ρ1
 |some (false,ρ1)=>some (false,ρ1)
 |none=>none
noncomputable def tOr(t u:FT):FT:=fun ρ=>match t ρ with
 |some (true,ρ1)=>some (true,ρ1)
 |some (false,ρ1)=>u ρ1
 |none=>none
noncomputable def truth:Dat->Option Bool
 |.non=>some false
 |.bl b=>some b
 |.int i=>some (i != 0)
 |.tup xs=>some (!xs.isEmpty)
 |.lst xs=>some (!xs.isEmpty)
 |_=>none
noncomputable def tTr(a:FE):FT:=fun ρ=>match a ρ with
 |none=>none
 |some (x,ρ1)=>match pk ρ1 x with
  |none=>none
  |some d=>match truth d with
   |none=>none
   |some c=>some (c,ρ1)
noncomputable def gX:FT:=fun ρ=>some (true,ρ)
noncomputable abbrev FI:=Env->Option (List Dat×Env)
noncomputable def iL(a:FE):FI:=fun ρ=>match a ρ with
 |none=>none
 |some (x,ρ1)=>match tk ρ1 x with
  |some (.lst ds,ρ2)=>some (ds,ρ2)
  |_=>none
noncomputable def iT(a:FE):FI:=fun ρ=>match a ρ with
 |none=>none
 |some (x,ρ1)=>match tk ρ1 x with
  |some (.tup ds,ρ2)=>some (ds,ρ2)
  |_=>none
noncomputable def iS(a:FE):FI:=fun ρ=>match a ρ with
 |none=>none
 |some (x,ρ1)=>match tk ρ1 x with
  |some (.lst ds,ρ2)=>some (ds,ρ2)
  |some (.tup ds,ρ2)=>some (ds,ρ2)
  |_=>none
noncomputable def ups(lo:Int)(n:Nat):List Dat:=(NS n).map fun i=>Dat.int (lo+(i:Nat))
noncomputable def downs(hi:Int)(n:Nat):List Dat:=(NS n).map fun i=>Dat.int (hi-(i:Nat))
noncomputable def BIG:Int:=1000000000
noncomputable def iR1(a:FE):FI:=fun ρ=>match a ρ with
 |some (.val (.int j),ρ1)=>if j<=BIG/\-BIG<=j then some (ups 0 j.toNat,ρ1) else none
 |_=>none
noncomputable def iR2(a b:FE):FI:=fun ρ=>match a ρ with
 | some (.val (.int i),ρ1)=>(match b ρ1 with
  |some (.val (.int j),ρ2)=>if j<=BIG/\-BIG<=j/\i<=BIG/\-BIG<=i then some (ups i (j-i).toNat,ρ2) else none
  |_=>none)
 |_=>none
noncomputable abbrev FB:=Dat->Env->Option Env
noncomputable def bN(i:Nat):FB:=fun d ρ=>if i=0 then none else some (ρ.set i (.sh d))
noncomputable def sets:List Nat->List Dat->Env->Option Env
 |[],[],ρ=>some ρ
 |i::is,d::ds,ρ=>if i=0 then none else sets is ds (ρ.set i (.sh d))
 |_,_,_=>none
noncomputable def bT(is:List Nat):FB:=fun d ρ=>match d with
 |.tup ds=>sets is ds ρ
 |_=>none
noncomputable def fS(bd:FB)(t:FT)(el:FE):List Dat->Env->List Dat->Option (List Dat×Env)
 |[],ρ,En=>some (En,ρ)
 |d::r,ρ,En=>match bd d ρ with
  |none=>none
  |some ρ1=>match t ρ1 with
   |none=>none
   |some (false,ρ2)=>fS bd t el r ρ2 En
   |some (true,ρ2)=>match el ρ2 with
    |none=>none
    |some (x,ρ3)=>match tk ρ3 x with
     |none=>none
     |some (y,ρ4)=>fS bd t el r ρ4 (En++[y])
noncomputable def fT(it:FI)(own:Nat)(bd:FB)(t:FT)(el:FE):FE:=fun ρ=>match it ρ with
 |none=>none
 | some (ds,ρ1)=>if ds.length≤SZ then (match fS bd t el ds (ρ1++Dk own .un) [] with
  |none=>none
  |some (ys,ρ2)=>some (.new (.lst ys),ρ2.take ρ1.length)) else none
inductive Out where
 |nx (ρ:Env)
 |ret (r:RV) (ρ:Env)
 |bk (ρ:Env)
 |ct (ρ:Env)
noncomputable abbrev FS:=Env->Option Out
noncomputable def sNx:FS:=fun ρ=>some (.nx ρ)
noncomputable def aI(s u:FS):FS:=fun ρ=>match s ρ with
 |some (.nx ρ1)=>u ρ1
 |o=>o
noncomputable def sA(i:Nat)(e:FE):FS:=fun ρ=>if i=0 then none else match e ρ with
 |none=>none
 |some (.new d,ρ1)=>some (.nx (ρ1.set i (.ow d)))
 |some (x,ρ1)=>match tk ρ1 x with
  |none=>none
  |some (d,ρ2)=>some (.nx (ρ2.set i (.sh d)))
noncomputable def sU(is:List Nat)(e:FE):FS:=fun ρ=>match e ρ with
 |none=>none
 |some (x,ρ1)=>match tk ρ1 x with
  | some (.tup ds,ρ2)=>(match sets is ds ρ2 with
   |none=>none
   |some ρ3=>some (.nx ρ3))
  |_=>none
noncomputable def sE(e:FE):FS:=fun ρ=>match e ρ with
 |none=>none
 |some (_,ρ1)=>some (.nx ρ1)
noncomputable def sR(e:FE):FS:=fun ρ=>match e ρ with
 |none=>none
 |some (.new d,ρ1)=>some (.ret (.new d) ρ1)
 |some (.val d,ρ1)=>some (.ret (.val d) ρ1)
 |some (.slot i,ρ1)=>match ρ1[i]? with
  |some (.ow d)=>some (.ret (.new d) (ρ1.set i .un))
  |some (.sh d)=>some (.ret (.val d) ρ1)
  |_=>none
noncomputable def sIf(t:FT)(a b:FS):FS:=fun ρ=>match t ρ with
 |none=>none
 |some (true,ρ1)=>a ρ1
 |some (false,ρ1)=>b ρ1
noncomputable def rj(i:Nat)(e:FE):FS:=fun ρ=>match ρ[i]? with
 | some (.ow (.lst _))=>(match e ρ with
  |none=>none
  |some (x,ρ1)=>match tk ρ1 x with
   |none=>none
   |some (d,ρ2)=>match ρ2[i]? with
    |some (.ow (.lst ds))=>if ds.length<SZ then some (.nx (ρ2.set i (.ow (.lst (ds++[d]))))) else none
    |_=>none)
 |_=>none
noncomputable def ixN(n:Nat)(i:Int):Option Nat:=
 if 0<=i then (if i<n then some i.toNat else none) else if -(n:Int)<=i then some (i+n).toNat else none
noncomputable def sS(i:Nat)(j e:FE):FS:=fun ρ=>match e ρ with
 |none=>none
 |some (x,ρ1)=>match tk ρ1 x with
  |none=>none
  |some (d,ρ2)=>match ρ2[i]? with
   | some (.ow _)=>(match j ρ2 with
    | some (.val (.int k),ρ3)=>(match ρ3[i]? with
     | some (.ow (.lst ds))=>(match ixN ds.length k with
      |none=>none
      |some m=>some (.nx (ρ3.set i (.ow (.lst (ds.set m d))))))
     |_=>none)
    |_=>none)
   |_=>none
noncomputable def lI(bd:FB)(body:FS):List Dat->FS
 |[],ρ=>some (.nx ρ)
 |d::r,ρ=>match bd d ρ with
  |none=>none
  |some ρ1=>match body ρ1 with
   |some (.nx ρ2)=>lI bd body r ρ2
   |some (.ct ρ2)=>lI bd body r ρ2
   |some (.bk ρ2)=>some (.nx ρ2)
   |some (.ret v ρ2)=>some (.ret v ρ2)
   |none=>none
noncomputable def lJ(it:FI)(bd:FB)(body:FS):FS:=fun ρ=>match it ρ with
 |none=>none
 |some (ds,ρ1)=>lI bd body ds ρ1
noncomputable def whD(t:FT)(body:FS):Nat->FS
 |0,_=>none
 |n+1,ρ=>match t ρ with
  |none=>none
  |some (false,ρ1)=>some (.nx ρ1)
  |some (true,ρ1)=>match body ρ1 with
   |some (.nx ρ2)=>whD t body n ρ2
   |some (.ct ρ2)=>whD t body n ρ2
   |some (.bk ρ2)=>some (.nx ρ2)
   |some (.ret v ρ2)=>some (.ret v ρ2)
   |none=>none
noncomputable def fn(n m:Nat)(body:FS)(ds:List Dat):Option RV:=if ds.length=n then (match body (ds.map Cell.sh++Dk m .un) with
 |some (.ret r _)=>some r
 |some (.nx _)=>some (.val .non)
 |_=>none) else none
noncomputable def b2i(b:Bool):Int:=if b then 1 else 0
mutual
noncomputable def eqD:Dat->Dat->Bool
 |.non,.non=>true
 |.bl a,.bl b=>a == b
 |.bl a,.int j=>b2i a == j
 |.int i,.bl b=>i == b2i b
 |.int i,.int j=>i == j
 |.str a,.str b=>a == b
 |.tup xs,.tup ys=>mX xs ys
 |.lst xs,.lst ys=>mX xs ys
 |_,_=>false
noncomputable def mX:List Dat->List Dat->Bool
 |[],[]=>true
 |x::xs,y::ys=>eqD x y&&mX xs ys
 |_,_=>false
end
noncomputable def okD:Nat->Dat->Bool
 |_,.dct _ _=>false
 |_,.dcp _ _=>false
 |_,.exc _=>false
 |_,.bC _ _=>false
 |_,.fn _=>false
 |_,.str s=>s.all fun c=>decide (c<128)
 |0,.tup _=>false
 |0,.lst _=>false
 |n+1,.tup xs=>xs.all (okD n)
 |n+1,.lst xs=>xs.all (okD n)
 |_,_=>true
noncomputable abbrev vB(b:Bool):Option RV:=some (.val (.bl b))
noncomputable def vm(p:Dat->Bool):Dat->Option RV
 |.exc _=>none
 |.bC _ _=>none
 |.fn _=>none
 |d=>vB (p d)
noncomputable abbrev vI(i:Int):Option RV:=some (.val (.int i))
noncomputable def gEq(x y:Dat):Option RV:=if okD 8 x&&okD 8 y then vB (eqD x y) else none
noncomputable def gNe(x y:Dat):Option RV:=if okD 8 x&&okD 8 y then vB (!eqD x y) else none
noncomputable def gLt:Dat->Dat->Option RV
 |.int i,.int j=>vB (decide (i<j))
 |_,_=>none
noncomputable def gLe:Dat->Dat->Option RV
 |.int i,.int j=>vB (decide (i<=j))
 |_,_=>none
noncomputable def gGt:Dat->Dat->Option RV
 |.int i,.int j=>vB (decide (j<i))
 |_,_=>none
noncomputable def gGe:Dat->Dat->Option RV
 |.int i,.int j=>vB (decide (j<=i))
 |_,_=>none
noncomputable def B64:Int:=18446744073709551616
noncomputable def cO:Dat->Dat->Option RV
 |.int i,.int j=>vI (i+j)
 |.lst xs,.lst ys=>if xs.length+ys.length<=SZ then some (.new (.lst (xs++ys))) else none
 |_,_=>none
noncomputable def lH:Dat->Dat->Option RV
 |.int i,.int j=>vI (i-j)
 |_,_=>none
noncomputable def nK:Dat->Dat->Option RV
 |.int i,.int j=>if (-B64<i/\i<B64)\/(-B64<j/\j<B64) then vI (i*j) else none
 |.lst xs,.int k=>if k<=BIG/\-BIG<=k/\xs.length*k.toNat<=SZ then some (.new (.lst (Dk k.toNat xs).flatten)) else none
 |_,_=>none
noncomputable def rm:Int:=1606938044258990275541962092341162602522202993782792835301376
noncomputable def sV:Dat->Dat->Option RV
 |.int i,.int j=>if 0<j/\j<rm then vI (i / j) else none
 |_,_=>none
noncomputable def mY:Dat->Dat->Option RV
 |.int i,.int j=>if 0<j then vI (i % j) else none
 |_,_=>none
noncomputable def kK:Dat->Dat->Option RV
 |.int i,.int j=>if 0<=j/\j<=1000000/\i.natAbs<1000000 then vI (i ^ j.toNat) else none
 |_,_=>none
noncomputable def vn:Dat->Option RV
 |.int i=>vI (-i)
 |_=>none
noncomputable def atI(xs:List Dat)(i:Int):Option Dat:=(ixN xs.length i).bind fun j=>xs[j]?
noncomputable def gIx:Dat->Dat->Option RV
 |.lst xs,.int i=>(atI xs i).map .val
 |.tup xs,.int i=>(atI xs i).map .val
 |_,_=>none
noncomputable def inD(x:Dat)(xs:List Dat):Bool:=xs.any fun y=>eqD y x
noncomputable def gIn:Dat->Dat->Option RV
 |x,.lst xs=>if okD 8 x&&xs.all (okD 7) then vB (inD x xs) else none
 |x,.tup xs=>if okD 8 x&&xs.all (okD 7) then vB (inD x xs) else none
 |_,_=>none
noncomputable def iB:List Dat->Option RV
 |[.lst xs]=>vI xs.length
 |[.tup xs]=>vI xs.length
 |_=>none
noncomputable def sW:List Dat->Option RV
 |[.int i,.int j]=>vI (if j<i then j else i)
 |_=>none
noncomputable def sX:List Dat->Option RV
 |[.int i,.int j]=>vI (if j>i then j else i)
 |_=>none
noncomputable def nM:List Dat->Option RV
 |[.lst xs]=>some (.new (.lst xs))
 |[.tup xs]=>some (.new (.lst xs))
 |_=>none
noncomputable def isI:Dat->Bool
 |.int _=>true
 |.bl _=>true
 |_=>false
noncomputable def isB:Dat->Bool
 |.bl _=>true
 |_=>false
noncomputable def isL:Dat->Bool
 |.lst _=>true
 |_=>false
noncomputable def isT:Dat->Bool
 |.tup _=>true
 |_=>false
noncomputable def lK(g h:Dat->Dat->Option RV)(a b c:FE):FE:=fun ρ=>match a ρ with
 |none=>none
 |some (x,ρ1)=>match b ρ1 with
  |none=>none
  |some (y,ρ2)=>match pk ρ2 x with
   |none=>none
   |some d=>match pk ρ2 y with
    |none=>none
    |some e=>match g d e with
     | some (.val (.bl true))=>(match c ρ2 with
      |none=>none
      |some (z,ρ3)=>match pk ρ3 y with
       |none=>none
       |some e'=>match pk ρ3 z with
        |none=>none
        |some f=>match h e' f with
         |none=>none
         |some v=>some (v.dc,ρ3))
     |some (.val (.bl false))=>some (.val (.bl false),ρ2)
     |_=>none
noncomputable def Af:List Dat->Option RV
 |[.int i]=>vI i
 |[.bl b]=>vI (b2i b)
 |_=>none
end Dm
open Dm(Dat FE RV FT FS)
namespace Br
open PySem L2
noncomputable def kP(p:Int×Int):List Key:=[N3 p.1,N3 p.2]
def lM(H:Hp):List Addr->List (Int×Int)->Prop
 |[],[]=>True
 |t::ts,p::ks=>H t=some (.tup [V.int p.1,V.int p.2])/\lM H ts ks
 |_,_=>False
theorem lM.mono{H H':Hp}(s:aF H H'):∀{ts:List Addr} {ks:List (Int×Int)},lM H ts ks->lM H' ts ks
 |[],[],_=>trivial
 |_::_,_::_,h=>⟨s _ _ h.1,lM.mono s h.2⟩
 |[],_::_,h=>h
 |_::_,[],h=>h
def Ag(H:Hp)(x:List (List Key×V)×List Addr)(ks:List (Int×Int)):Prop:=x.1.map (·.1)=ks.map kP/\lM H x.2 ks
theorem Ag.mono{H H':Hp}(s:aF H H'){x:List (List Key×V)×List Addr}{ks:List (Int×Int)}(h:Ag H x ks):Ag H' x ks:=⟨h.1,h.2.mono s⟩
mutual
inductive Rep(H:Hp):V->Dat->Prop
 |non:Rep H V.non Dat.non
 |bl (b:Bool):Rep H (V.bl b) (Dat.bl b)
 |int (i:Int):Rep H (V.int i) (Dat.int i)
 |str (s:List Nat):Rep H (V.str ⟨s.toArray⟩) (Dat.str s)
 |tup {a:Addr} {xs:List V} {ds:List Dat}:H a=some (.tup xs)->aR H xs ds->Rep H (V.ref a) (Dat.tup ds)
 |lst {a:Addr} {xs:List V} {ds:List Dat}:Rd H a (.lst xs)->aR H xs ds->Rep H (V.ref a) (Dat.lst ds)
 |dct {a:Addr} {kvs:List (Key×V)} {ks:List Int} {ds:List Dat}:H a=some (.dK kvs)->kvs.map (·.1)=ks.map N3->aR H (kvs.map (·.2)) ds->Rep H (V.ref a) (Dat.dct ks ds)
 |dcp {a:Addr} {x:List (List Key×V)×List Addr} {ks:List (Int×Int)} {ds:List Dat}:H a=some (.dT x.1 x.2)->Ag H x ks->aR H (x.1.map (·.2)) ds->Rep H (V.ref a) (Dat.dcp ks ds)
 |exc {a:Addr} {C:Nat}:H a=some (.ext fun h=>∃o,h.get? a=some o/\o.cls=.ref C)->Rep H (V.ref a) (Dat.exc C)
 |bC {a d:Addr} {C:Nat} {v:Int}:H a=some (.ext fun h=>∃o,h.get? a=some o/\o.cls=.ref C/\o.dict=some d/\∀c,o.data≠.cls c)->H d=some (.xd [("moment",.int v)])->Rep H (V.ref a) (Dat.bC C v)
 |fn (a:Addr):Rep H (V.ref a) (Dat.fn a)
inductive aR(H:Hp):List V->List Dat->Prop
 |nil:aR H [] []
 |cons {v:V} {d:Dat} {vs:List V} {ds:List Dat}:Rep H v d->aR H vs ds->aR H (v::vs) (d::ds)
end
theorem aF.rd{H H':Hp}(s:aF H H'){a:Addr}{u:HO}(h:Rd H a u):Rd H' a u:=by
 rcases h with h | ⟨o,h⟩
 ·exact .inl (s _ _ h)
 ·exact .inr ⟨o,s _ _ h⟩
mutual
theorem Rep.mono{H H':Hp}(s:aF H H'):∀{v:V} {d:Dat},Rep H v d->Rep H' v d
 |_,_,.non=>.non
 |_,_,.bl b=>.bl b
 |_,_,.int i=>.int i
 |_,_,.str x=>.str x
 |_,_,.tup h r=>.tup (s _ _ h) (aR.mono s r)
 |_,_,.lst h r=>.lst (aF.rd s h) (aR.mono s r)
 |_,_,.dct h e r=>.dct (s _ _ h) e (aR.mono s r)
 |_,_,.dcp h e r=>.dcp (s _ _ h) (e.mono s) (aR.mono s r)
 |_,_,.exc h=>.exc (s _ _ h)
 |_,_,.bC h k=>.bC (s _ _ h) (s _ _ k)
 |_,_,.fn a=>.fn a
theorem aR.mono{H H':Hp}(s:aF H H'):∀{vs:List V} {ds:List Dat},aR H vs ds->aR H' vs ds
 |_,_,.nil=>.nil
 |_,_,.cons h r=>.cons (Rep.mono s h) (aR.mono s r)
end
section
variable{ρ:Dm.Env}{H0 H:Hp}{d:Dat}{σ:St}{a:Addr}{x:Dm.Val}{v:V}{X:Cx}{t t':TS}{p:Addr}{e:Expr}{o:HO}
theorem aR.length{H:Hp}:∀{vs:List V} {ds:List Dat},aR H vs ds->vs.length=ds.length
 |_,_,.nil=>rfl
 |_,_,.cons _ r=>by simp[aR.length r]
theorem aR.get{H:Hp}:∀{vs:List V} {ds:List Dat} {i:Nat} {d:Dat},aR H vs ds->ds[i]?=some d->∃v,vs[i]?=some v/\Rep H v d
 |_,_,_,_,.nil,e=>by simp at e
 |_,_,0,_,.cons h _,e=>by simp at e;subst e;exact⟨_,rfl,h⟩
 |_,_,i+1,_,.cons _ r,e=>by obtain⟨v,h1,h2⟩:=aR.get (i:=i) r (by simpa using e);exact⟨v,by simpa using h1,h2⟩
theorem aR.append{H:Hp}:∀{vs ws:List V} {ds es:List Dat},aR H vs ds->aR H ws es->aR H (vs++ws) (ds++es)
 |_,_,_,_,.nil,s=>s
 |_,_,_,_,.cons h r,s=>.cons h (aR.append r s)
theorem aR.take{H:Hp}:∀{vs:List V} {ds:List Dat} (n:Nat),aR H vs ds->aR H (vs.take n) (ds.take n)
 |_,_,0,_=>by simpa using aR.nil
 |_,_,_+1,.nil=>by simpa using aR.nil
 |_,_,n+1,.cons h r=>by simpa using aR.cons h (aR.take n r)
theorem aR.set{H:Hp}(h:Rep H v d):∀{vs:List V} {ds:List Dat} (i:Nat),aR H vs ds->aR H (vs.set i v) (ds.set i d)
 |_,_,_,.nil=>.nil
 |_,_,0,.cons _ r=>.cons h r
 |_,_,i+1,.cons q r=>.cons q (aR.set h i r)
theorem aR.rep{H:Hp}{vs:List V}{ds:List Dat}(r:aR H vs ds):∀k:Nat,aR H (Dk k vs).flatten (Dk k ds).flatten
 |0=>by simpa using aR.nil
 |k+1=>by rw[OD,OD,OZ,OZ];exact aR.append r (aR.rep r k)
def Own(H0 H:Hp)(a:Addr):Dat->Prop
 |.lst ds=>∃xs,H a=some (.lst xs)/\aR H0 xs ds
 |.dct ks ds=>∃kvs:List (Key×V),H a=some (.dK kvs)/\kvs.map (·.1)=ks.map N3/\aR H0 (kvs.map (·.2)) ds
 |.dcp ks ds=>∃x:List (List Key×V)×List Addr,H a=some (.dT x.1 x.2)/\Ag H0 x ks/\aR H0 (x.1.map (·.2)) ds
 |_=>False
theorem Own.some(h:Own H0 H a d):∃o,H a=some o:=by
 cases d with
 |lst ds=>obtain⟨xs,e,_⟩:=h;exact⟨_,e⟩
 |dct ks ds=>obtain⟨xs,e,_⟩:=h;exact⟨_,e⟩
 |dcp ks ds=>obtain⟨xs,e,_⟩:=h;exact⟨_,e⟩
 |_=>exact NH h
theorem Own.mono{H0 H H0' H':Hp}(h:Own H0 H a d)(s:aF H0 H0')(e:H' a=H a):Own H0' H' a d:=by
 cases d with
 |lst ds=>obtain⟨xs,q,r⟩:=h;exact⟨xs,by rw[e];exact q,r.mono s⟩
 |dct ks ds=>obtain⟨xs,q,k,r⟩:=h;exact⟨xs,by rw[e];exact q,k,r.mono s⟩
 |dcp ks ds=>obtain⟨xs,q,k,r⟩:=h;exact⟨xs,by rw[e];exact q,k.mono s,r.mono s⟩
 |_=>exact NH h
def lN(H0 H:Hp)(v:V)(d:Dat):Prop:=Rep H0 v d\/∃a,v=V.ref a/\Own H0 H a d
inductive sY(H0 H:Hp):List V->List Dat->Prop
 |nil:sY H0 H [] []
 |cons {v:V} {d:Dat} {vs:List V} {ds:List Dat}:lN H0 H v d->sY H0 H vs ds->sY H0 H (v::vs) (d::ds)
noncomputable def shr(H0 H:Hp)(a:Addr):Hp:=fun b=>if b=a then H a else H0 b
theorem e9:shr H0 H a a=H a:=by unfold shr;rw[if_pos rfl]
theorem jE{a b:Addr}(h:b≠a):shr H0 H a b=H0 b:=by unfold shr;rw[if_neg h]
theorem gv(h:H0 a=none):aF H0 (shr H0 H a):=fun b o e=>by
 by_cases q:b=a
 ·subst q;rw[h]at e;cases e
 ·rw[jE q];exact e
theorem wZ(s:aF H0 H):aF (shr H0 H a) H:=fun b o e=>by
 by_cases q:b=a
 ·subst q;rw[e9]at e;exact e
 ·rw[jE q]at e;exact s _ _ e
theorem Own.rep(h:Own H0 H a d)(n:H0 a=none):Rep (shr H0 H a) (V.ref a) d:=by
 cases d with
 |lst ds=>obtain⟨xs,q,r⟩:=h;exact .lst (.inl (by rw[e9];exact q)) (r.mono (gv n))
 |dct ks ds=>obtain⟨xs,q,k,r⟩:=h;exact .dct (by rw[e9];exact q) k (r.mono (gv n))
 |dcp ks ds=>obtain⟨xs,q,k,r⟩:=h;exact .dcp (by rw[e9];exact q) (k.mono (gv n)) (r.mono (gv n))
 |_=>exact NH h
def aE(σ:St)(ρ:Dm.Env)(a:Addr):Prop:=∃(i:Nat) (d:Dat),ρ[i]?=some (Dm.Cell.ow d)/\σ[i]?=some (some (V.ref a))
noncomputable abbrev Def(_:Dm.Env)(_:Nat):Prop:=True
structure aK(H0 H:Hp)(σ:St)(ρ:Dm.Env):Prop where
 same:aF H0 H
 len:σ.length=ρ.length
 sh:∀(i:Nat) (d:Dat),ρ[i]?=some (Dm.Cell.sh d)->∃v,σ[i]?=some (some v)/\Rep H0 v d
 ow:∀(i:Nat) (d:Dat),ρ[i]?=some (Dm.Cell.ow d)->∃a,σ[i]?=some (some (V.ref a))/\H0 a=none/\Own H0 H a d
 dis:∀(i j:Nat) (d e:Dat) (a:Addr),ρ[i]?=some (Dm.Cell.ow d)->ρ[j]?=some (Dm.Cell.ow e)->σ[i]?=some (some (V.ref a))->σ[j]?=some (some (V.ref a))->i=j
structure Stp(O:Addr->Prop)(H0 H H0' H':Hp):Prop where
 s0:aF H0 H0'
 s1:∀a o,H a=some o->¬O a->H' a=some o
 s2:∀a o,H0' a=some o->H a=none\/H0 a=some o\/O a
 s3:∀a o,H a=some o->∃o',H' a=some o'
theorem Stp.refl(O:Addr->Prop)(H0 H:Hp):Stp O H0 H H0 H:=⟨aF.refl _,fun _ _ e _=>e,fun _ _ e=>.inr (.inl e),fun _ o e=>⟨o,e⟩⟩
theorem Stp.gone{O:Addr->Prop}{H0 H H0' H':Hp}(t:Stp O H0 H H0' H')(h:H' a=none):H a=none:=by
 cases q:H a with
 |none=>rfl
 |some o=>obtain⟨o',e⟩:=t.s3 a o q;rw[h]at e;cases e
theorem Stp.trans{O1 O2:Addr->Prop}{H0 H H1 H' H2 H'':Hp}(t:Stp O1 H0 H H1 H')(u:Stp O2 H1 H' H2 H'')(k:∀a,O2 a->O1 a\/H a=none):Stp O1 H0 H H2 H'' where
 s0:=t.s0.trans u.s0
 s1:=fun a o e n=>u.s1 a o (t.s1 a o e n) fun z=>(k a z).elim n fun q=>by rw[q]at e;cases e
 s2:=fun a o e=>by
  rcases u.s2 a o e with q | q | q
  ·exact .inl (t.gone q)
  ·exact t.s2 a o q
  ·rcases k a q with z | z
   ·exact .inr (.inr z)
   ·exact .inl z
 s3:=fun a o e=>by obtain⟨o',e'⟩:=t.s3 a o e;exact u.s3 a o' e'
theorem Stp.wide{O O':Addr->Prop}{H0 H H0' H':Hp}(t:Stp O H0 H H0' H')(k:∀a,O a->O' a):Stp O' H0 H H0' H':=
 ⟨t.s0,fun a o e n=>t.s1 a o e fun z=>n (k a z),fun a o e=>(t.s2 a o e).imp id (Or.imp id (k a)),t.s3⟩
structure aX(H0 H H0' H':Hp):Prop where
 s0:aF H0 H0'
 s1:aF H H'
 s2:∀a o,H0' a=some o->H a=none\/H0 a=some o
 s3:aF H0' H'
theorem aX.refl(s:aF H0 H):aX H0 H H0 H:=⟨aF.refl _,aF.refl _,fun _ _ e=>.inr e,s⟩
theorem aX.stp{H0 H H0' H':Hp}(g:aX H0 H H0' H')(O:Addr->Prop):Stp O H0 H H0' H':=
 ⟨g.s0,fun a o e _=>g.s1 a o e,fun a o e=>(g.s2 a o e).imp id .inl,fun a o e=>⟨o,g.s1 a o e⟩⟩
theorem aX.yE(s:aF H0 H)(n:H p=none):aX H0 H (upd H0 p o) (upd H p o) where
 s0:=fun b u e=>by rw[ao (aS e (s.free n))];exact e
 s1:=fun b u e=>by rw[ao (aS e n)];exact e
 s2:=fun b u e=>by
  by_cases q:b=p
  ·subst q;exact .inl n
  ·rw[ao q]at e;exact .inr e
 s3:=fun b u e=>by
  by_cases q:b=p
  ·subst q;rw[au]at e ⊢;exact e
  ·rw[ao q]at e ⊢;exact s _ _ e
theorem aX.pT(s:aF H0 H)(n:H p=none):aX H0 H H0 (upd H p o) where
 s0:=aF.refl _
 s1:=fun b u e=>by rw[ao (aS e n)];exact e
 s2:=fun b u e=>.inr e
 s3:=fun b u e=>by rw[ao (aS (s _ _ e) n)];exact s _ _ e
def iC(Hs H0 H:Hp)(σ:St)(ρ:Dm.Env)(v:V):Dm.Val->Prop
 |.val d=>Rep H0 v d
 |.slot i=>σ[i]?=some (some v)/\Def ρ i
 |.new d=>∃a,v=V.ref a/\Hs a=none/\¬aE σ ρ a/\H0 a=none/\Own H0 H a d
structure ESt(σ:St)(ρ:Dm.Env)(H0 H:Hp)(ρ':Dm.Env)(H0' H':Hp):Prop where
 st:aK H0' H' σ ρ'
 stp:Stp (aE σ ρ) H0 H H0' H'
 own:∀a,aE σ ρ' a->aE σ ρ a
 dfn:∀i,Def ρ i->Def ρ' i
theorem ESt.refl(st:aK H0 H σ ρ):ESt σ ρ H0 H ρ H0 H:=⟨st,Stp.refl _ _ _,fun _ z=>z,fun _ z=>z⟩
theorem ESt.trans{ρ ρ1 ρ2:Dm.Env}{H0 H H1 H' H2 H'':Hp}(t:ESt σ ρ H0 H ρ1 H1 H')(u:ESt σ ρ1 H1 H' ρ2 H2 H''):ESt σ ρ H0 H ρ2 H2 H'':=
 ⟨u.st,t.stp.trans u.stp fun a z=>.inl (t.own a z),fun a z=>t.own a (u.own a z),fun i z=>u.dfn i (t.dfn i z)⟩
theorem aK.grow{H0 H H0' H':Hp}(st:aK H0 H σ ρ)(g:aX H0 H H0' H'):aK H0' H' σ ρ where
 same:=g.s3
 len:=st.len
 sh:=fun i d e=>by obtain⟨v,q,r⟩:=st.sh i d e;exact⟨v,q,r.mono g.s0⟩
 ow:=fun i d e=>by
  obtain⟨a,q,n,w⟩:=st.ow i d e;obtain⟨o,z⟩:=w.some;refine⟨a,q,?_,w.mono g.s0 ((g.s1 a o z).trans z.symm)⟩;cases y:H0' a with
  |none=>rfl
  |some u=>
   rcases g.s2 a u y with k | k
   ·rw[z]at k;cases k
   ·rw[n]at k;cases k
 dis:=st.dis
theorem ESt.grow{H0 H H0' H':Hp}(st:aK H0 H σ ρ)(g:aX H0 H H0' H'):ESt σ ρ H0 H ρ H0' H':=
 ⟨st.grow g,g.stp _,fun _ z=>z,fun _ z=>z⟩
theorem iC.mono{Hs H0 H H0' H':Hp}{ρ ρ':Dm.Env}(r:iC Hs H0 H σ ρ v x)(t:ESt σ ρ H0 H ρ' H0' H'):iC Hs H0' H' σ ρ' v x:=by
 cases x with
 |val d=>exact Rep.mono t.stp.s0 r
 |slot i=>exact⟨r.1,t.dfn i r.2⟩
 |new d=>
  obtain⟨a,e,n,no,n0,w⟩:=r;obtain⟨o,z⟩:=w.some;refine⟨a,e,n,fun y=>no (t.own a y),?_,w.mono t.stp.s0 ((t.stp.s1 a o z no).trans z.symm)⟩;cases y:H0' a with
  |none=>rfl
  |some u=>
   rcases t.stp.s2 a u y with k | k | k
   ·rw[z]at k;cases k
   ·rw[n0]at k;cases k
   ·exact absurd k no
theorem iC.early{Hs Hs' H0 H:Hp}(r:iC Hs H0 H σ ρ v x)(k:∀a,Hs a=none->Hs' a=none):iC Hs' H0 H σ ρ v x:=by
 cases x with
 |val d=>exact r
 |slot i=>exact r
 |new d=>obtain⟨a,e,n,z⟩:=r;exact⟨a,e,k a n,z⟩
theorem iC.look{Hs H0 H:Hp}(r:iC Hs H0 H σ ρ v x)(st:aK H0 H σ ρ)(e:Dm.pk ρ x=some d):lN H0 H v d:=by
 cases x with
 |val d'=>cases e;exact .inl r
 |new d'=>cases e;obtain⟨a,e,_,_,_,w⟩:=r;exact .inr ⟨a,e,w⟩
 |slot i=>
  obtain⟨q,_⟩:=r;unfold Dm.pk at e;dsimp only at e;split at e
  ·rename_i d' h;cases e;obtain⟨a,z,_,w⟩:=st.ow i d h;rw[q]at z;cases z;exact .inr ⟨a,rfl,w⟩
  ·rename_i d' h;cases e;obtain⟨u,z,w⟩:=st.sh i d h;rw[q]at z;cases z;exact .inl w
  ·cases e
def vo(Hs H0 H:Hp)(v:V):RV->Prop
 |.val d=>Rep H0 v d
 |.new d=>∃a,v=V.ref a/\Hs a=none/\H0 a=none/\Own H0 H a d
theorem vo.toV{H H0' H' H0:Hp}{z:RV}(r:vo H H0' H' v z)(st:aK H0 H σ ρ):iC H H0' H' σ ρ v z.dc:=by
 cases z with
 |val d=>exact r
 |new d=>obtain⟨a,e,n,n0,w⟩:=r;refine⟨a,e,n,fun⟨i,d',h1,h2⟩=>?_,n0,w⟩;obtain⟨a',q,_,w'⟩:=st.ow i d' h1;rw[h2]at q;cases q;obtain⟨o,z⟩:=w'.some;rw[n]at z;cases z
def tD(f:FE):TE:=fun σ H Q=>∃H0 ρ x ρ',aK H0 H σ ρ/\f ρ=some (x,ρ')/\∀v H0' H',ESt σ ρ H0 H ρ' H0' H'->iC H H0' H' σ ρ' v x->Q v H'
def tDT(f:FT):TT:=fun σ H Q=>∃H0 ρ b ρ',aK H0 H σ ρ/\f ρ=some (b,ρ')/\∀H0' H',ESt σ ρ H0 H ρ' H0' H'->Q b H'
inductive fU(Hs H0 H:Hp)(σ:St)(ρ:Dm.Env):List V->List Dm.Val->Prop
 |nil:fU Hs H0 H σ ρ [] []
 |cons {v:V} {x:Dm.Val} {vs:List V} {xs:List Dm.Val}:iC Hs H0 H σ ρ v x->fU Hs H0 H σ ρ vs xs->fU Hs H0 H σ ρ (v::vs) (x::xs)
def tDA(fs:List FE):TA:=fun σ H Q=>∃H0 ρ xs ρ',aK H0 H σ ρ/\Dm.eAs fs ρ=some (xs,ρ')/\∀vs H0' H',ESt σ ρ H0 H ρ' H0' H'->fU H H0' H' σ ρ' vs xs->Q vs H'
noncomputable abbrev DE(X:Cx)(e:Expr)(f:FE):Prop:=PE X e (tD f)
noncomputable abbrev DT(X:Cx)(e:Expr)(f:FT):Prop:=PT X e (tDT f)
noncomputable abbrev DA(X:Cx)(es:List Expr)(fs:List FE):Prop:=PA X es (tDA fs)
theorem PE.weak{t t':TE}(h:PE X e t)(k:∀σ H Q,t' σ H Q->t σ H Q):PE X e t':=fun yZ s σ H Q I q=>h yZ s σ H Q I (k σ H Q q)
theorem PT.weak{t t':TT}(h:PT X e t)(k:∀σ H Q,t' σ H Q->t σ H Q):PT X e t':=fun yZ s σ H Q I q=>h yZ s σ H Q I (k σ H Q q)
theorem PA.weak{es:List Expr}{t t':TA}(h:PA X es t)(k:∀σ H Q,t' σ H Q->t σ H Q):PA X es t':=fun pos yZ s σ H Q I q=>h pos yZ s σ H Q I (k σ H Q q)
theorem PS.weak{st:Stmt}(h:PS X st t)(k:∀D σ H,t' D σ H->t D σ H):PS X st t':=fun yZ s σ H D I q=>h yZ s σ H D I (k D σ H q)
theorem PSs.weak{st:List Stmt}(h:PSs X st t)(k:∀D σ H,t' D σ H->t D σ H):PSs X st t':=fun yZ s σ H D I q=>h yZ s σ H D I (k D σ H q)
theorem dU(s:aF H0 H):aF H0 (shr H0 H a):=fun b o e=>by
 by_cases q:b=a
 ·subst q;rw[e9];exact s _ _ e
 ·rw[jE q];exact e
theorem Own.JJ{H0 H0c H:Hp}(h:Own H0 H a d)(b:aF H0 H0c)(s:aF H0c H):Rep (shr H0c H a) (V.ref a) d:=by
 cases d with
 |lst ds=>obtain⟨xs,q,r⟩:=h;exact .lst (.inl (by rw[e9];exact q)) (r.mono (b.trans (dU s)))
 |dct ks ds=>obtain⟨xs,q,k,r⟩:=h;exact .dct (by rw[e9];exact q) k (r.mono (b.trans (dU s)))
 |dcp ks ds=>obtain⟨xs,q,k,r⟩:=h;exact .dcp (by rw[e9];exact q) (k.mono (b.trans (dU s))) (r.mono (b.trans (dU s)))
 |_=>exact NH h
theorem iC.rho{Hs H0 H:Hp}{ρ ρ':Dm.Env}(r:iC Hs H0 H σ ρ v x)(o:∀a,aE σ ρ' a->aE σ ρ a)(d:∀i,Def ρ i->Def ρ' i):iC Hs H0 H σ ρ' v x:=by
 cases x with
 |val d=>exact r
 |slot i=>exact⟨r.1,d i r.2⟩
 |new d=>obtain⟨a,e,n,no,z⟩:=r;exact⟨a,e,n,fun y=>no (o a y),z⟩
theorem fU.rho{Hs H0 H:Hp}{ρ ρ':Dm.Env}(o:∀a,aE σ ρ' a->aE σ ρ a)(d:∀i,Def ρ i->Def ρ' i):∀{vs:List V} {xs:List Dm.Val},fU Hs H0 H σ ρ vs xs->fU Hs H0 H σ ρ' vs xs
 |_,_,.nil=>.nil
 |_,_,.cons h r=>.cons (h.rho o d) (fU.rho o d r)
theorem fU.early{Hs Hs' H0 H:Hp}(k:∀a,Hs a=none->Hs' a=none):∀{vs:List V} {xs:List Dm.Val},fU Hs H0 H σ ρ vs xs->fU Hs' H0 H σ ρ vs xs
 |_,_,.nil=>.nil
 |_,_,.cons h r=>.cons (h.early k) (fU.early k r)
theorem bM{i j:Nat}{c d:Dm.Cell}(h:(ρ.set i c)[j]?=some d):(j=i/\d=c)\/(j≠i/\ρ[j]?=some d):=by
 by_cases e:j=i
 ·subst e;by_cases l:j<ρ.length
  ·rw[NW l]at h;exact .inl ⟨rfl,(Option.some.inj h).symm⟩
  ·rw[OG (by simpa using P0.mp l)]at h;cases h
 ·rw[gc (N2 e)]at h;exact .inr ⟨e,h⟩
theorem vp{i:Nat}(st:aK H0 H σ ρ)(e:ρ[i]?=some (.ow d))(q:σ[i]?=some (some (V.ref a))) :
  aK (shr H0 H a) H σ (ρ.set i (.sh d))/\(∀b,aE σ (ρ.set i (.sh d)) b->aE σ ρ b)/\∀j,Def ρ j->Def (ρ.set i (.sh d)) j:=by
 obtain⟨a',q',n,w⟩:=st.ow i d e;rw[q]at q';cases q';have hil:i<ρ.length:=(Ny.mp e).1;refine⟨⟨wZ st.same,by rw[Oj];exact st.len,fun j d' h=>?_,fun j d' h=>?_,fun j k d1 d2 b h1 h2 h3 h4=>?_⟩,fun b ⟨j,d',h1,h2⟩=>?_,fun j h=>?_⟩
 ·rcases bM h with⟨rfl,z⟩ | ⟨_,h⟩
  ·cases z;exact⟨_,q,w.rep n⟩
  ·obtain⟨v,z,r⟩:=st.sh j d' h;exact⟨v,z,r.mono (gv n)⟩
 ·rcases bM h with⟨_,z⟩ | ⟨hj,h⟩
  ·cases z
  ·obtain⟨b,z,n',w'⟩:=st.ow j d' h;have nb:b≠a:=fun y=>hj (st.dis j i d' d a h e (y▸z) q);exact⟨b,z,by rw[jE nb];exact n',w'.mono (gv n) rfl⟩
 ·rcases bM h1 with⟨_,z⟩ | ⟨_,h1⟩
  ·cases z
  ·rcases bM h2 with⟨_,z⟩ | ⟨_,h2⟩
   ·cases z
   ·exact st.dis j k d1 d2 b h1 h2 h3 h4
 ·rcases bM h1 with⟨_,z⟩ | ⟨_,h1⟩
  ·cases z
  ·exact⟨j,d',h1,h2⟩
 ·trivial
theorem yF(st:aK H0 H σ ρ)(no:¬aE σ ρ a):aK (shr H0 H a) H σ ρ where
 same:=wZ st.same
 len:=st.len
 sh:=fun j d h=>by obtain⟨v,z,r⟩:=st.sh j d h;exact⟨v,z,r.mono (dU st.same)⟩
 ow:=fun j d h=>by obtain⟨b,z,n',w'⟩:=st.ow j d h;have nb:b≠a:=fun y=>no ⟨j,d,h,y▸z⟩;exact⟨b,z,by rw[jE nb];exact n',w'.mono (dU st.same) rfl⟩
 dis:=st.dis
theorem take1{Hs H0s H0 H0c H:Hp}{ρs ρ ρ':Dm.Env}(t:ESt σ ρs H0s Hs ρ H0c H)(b:aF H0 H0c)(r:iC Hs H0 H σ ρ v x)(e:Dm.tk ρ x=some (d,ρ')) :
  ∃vt,ESt σ ρs H0s Hs ρ' vt H/\aF H0c vt/\Rep vt v d/\(∀a,aE σ ρ' a->aE σ ρ a)/\∀i,Def ρ i->Def ρ' i:=by
 cases x with
 |val d'=>cases e;exact⟨H0c,t,aF.refl _,Rep.mono b r,fun _ z=>z,fun _ z=>z⟩
 |new d'=>
  cases e;obtain⟨a,e,n,no,n0,w⟩:=r;subst e;have ss:=dU (a:=a) t.st.same;refine⟨shr H0c H a,⟨yF t.st no,⟨t.stp.s0.trans ss,t.stp.s1,fun c o q=>?_,t.stp.s3⟩,t.own,t.dfn⟩,ss,w.JJ b t.st.same,fun _ z=>z,fun _ z=>z⟩;by_cases y:c=a
  ·subst y;exact .inl n
  ·rw[jE y]at q;exact t.stp.s2 c o q
 |slot i=>
  obtain⟨q,_⟩:=r;unfold Dm.tk at e;dsimp only at e;split at e
  ·rename_i d' h;cases e;obtain⟨a,z,n,w⟩:=t.st.ow i _ h;rw[q]at z;cases z;obtain⟨s1,s2,s3⟩:=vp t.st h q;have ss:=dU (a:=a) t.st.same;refine⟨shr H0c H a,⟨s1,⟨t.stp.s0.trans ss,t.stp.s1,fun c o q'=>?_,t.stp.s3⟩,fun b z=>t.own b (s2 b z),fun j z=>s3 j (t.dfn j z)⟩,ss,w.JJ (aF.refl _) t.st.same,s2,s3⟩;by_cases y:c=a
   ·subst y;exact .inr (.inr (t.own c ⟨i,_,h,q⟩))
   ·rw[jE y]at q';exact t.stp.s2 c o q'
  ·rename_i d' h;cases e;obtain⟨u,z,w⟩:=t.st.sh i _ h;rw[q]at z;cases z;exact⟨H0c,t,aF.refl _,w,fun _ z=>z,fun _ z=>z⟩
  ·cases e
theorem takes{Hs H0s H0 H:Hp}{ρs:Dm.Env}:∀{xs:List Dm.Val} {vs:List V} {ρ ρ':Dm.Env} {ds:List Dat} {H0c:Hp},ESt σ ρs H0s Hs ρ H0c H->aF H0 H0c->fU Hs H0 H σ ρ vs xs->Dm.tks ρ xs=some (ds,ρ') ->
  ∃vt,ESt σ ρs H0s Hs ρ' vt H/\aF H0c vt/\aR vt vs ds
 |[],_,ρ,ρ',ds,H0c,t,b,r,e=>by cases r;cases e;exact⟨H0c,t,aF.refl _,.nil⟩
 |x::xs,_,ρ,ρ',ds,H0c,t,b,r,e=>by
  cases r with
  |cons h r=>
   unfold Dm.tks at e;split at e
   ·cases e
   ·rename_i d ρ1 e1;split at e
    ·cases e
    ·rename_i ds' ρ2 e2;cases e;obtain⟨H1,t1,b1,r1,o1,d1⟩:=take1 t b h e1;obtain⟨H2,t2,b2,r2⟩:=takes t1 (b.trans b1) (r.rho o1 d1) e2;exact⟨H2,t2,b1.trans b2,.cons (r1.mono b2) r2⟩
theorem JK{ρ ρ':Dm.Env}(e:Dm.tk ρ x=some (d,ρ'))(y:Dm.Val):Dm.pk ρ' y=Dm.pk ρ y:=by
 cases x with
 |val d'=>cases e;rfl
 |new d'=>cases e;rfl
 |slot i=>
  unfold Dm.tk at e;dsimp only at e;split at e
  ·rename_i d' h;cases e;cases y with
   |val _=>rfl
   |new _=>rfl
   |slot j=>
    unfold Dm.pk;dsimp only;by_cases z:j=i
    ·subst z;rw[NW (Ny.mp h).1,h]
    ·rw[gc (N2 z)]
  ·cases e;rfl
  ·cases e
theorem Ah(e:Dm.pk ρ x=some d):∃ρ',Dm.tk ρ x=some (d,ρ'):=by
 cases x with
 |val d'=>cases e;exact⟨ρ,rfl⟩
 |new d'=>cases e;exact⟨ρ,rfl⟩
 |slot i=>
  unfold Dm.pk at e;dsimp only at e;unfold Dm.tk;dsimp only;split at e
  ·rename_i d' h;cases e;exact⟨_,rfl⟩
  ·rename_i d' h;cases e;exact⟨_,rfl⟩
  ·cases e
theorem gD:∀{xs:List Dm.Val} {ρ:Dm.Env} {ds:List Dat},Dm.pks ρ xs=some ds->∃ρ',Dm.tks ρ xs=some (ds,ρ')
 |[],ρ,ds,e=>by cases e;exact⟨ρ,rfl⟩
 |x::xs,ρ,ds,e=>by
  unfold Dm.pks at e;split at e
  ·cases e
  ·rename_i d e1;split at e
   ·cases e
   ·rename_i ds' e2;cases e;obtain⟨ρ1,h1⟩:=Ah e1;have key:∀ys:List Dm.Val,Dm.pks ρ1 ys=Dm.pks ρ ys:=fun ys=>by
     induction ys with
     |nil=>rfl
     |cons y ys ih=>unfold Dm.pks;rw[JK h1 y,ih]
    obtain⟨ρ2,h2⟩:=gD (xs:=xs) (ρ:=ρ1) (ds:=ds') (by rw[key];exact e2);exact⟨ρ2,by unfold Dm.tks;rw[h1];dsimp only;rw[h2]⟩
theorem looks{Hs H0 H:Hp}(st:aK H0 H σ ρ):∀{xs:List Dm.Val} {vs:List V} {ds:List Dat},fU Hs H0 H σ ρ vs xs->Dm.pks ρ xs=some ds->sY H0 H vs ds
 |[],_,ds,r,e=>by cases r;cases e;exact .nil
 |x::xs,_,ds,r,e=>by
  cases r with
  |cons h r=>
   unfold Dm.pks at e;split at e
   ·cases e
   ·rename_i d e1;split at e
    ·cases e
    ·rename_i ds' e2;cases e;exact .cons (h.look st e1) (looks st r e2)
def OpD(r:R2)(g:Dat->Dat->Option RV):Prop:=∀(H0 H:Hp) (x y:V) (dx dy:Dat) (z:RV) (Q:VK),aF H0 H->lN H0 H x dx->lN H0 H y dy->g dx dy=some z ->
 (∀v H0' H',aX H0 H H0' H'->vo H H0' H' v z->Q v H')->r x y H Q
def UnD(r:V->Hp->VK->Prop)(g:Dat->Option RV):Prop:=∀(H0 H:Hp) (x:V) (dx:Dat) (z:RV) (Q:VK),aF H0 H->lN H0 H x dx->g dx=some z ->
 (∀v H0' H',aX H0 H H0' H'->vo H H0' H' v z->Q v H')->r x H Q
def CallD(r:List V->Hp->VK->Prop)(g:List Dat->Option RV):Prop:=∀(H0 H:Hp) (vs:List V) (ds:List Dat) (z:RV) (Q:VK),aF H0 H->sY H0 H vs ds->g ds=some z ->
 (∀v H0' H',aX H0 H H0' H'->vo H H0' H' v z->Q v H')->r vs H Q
def spD(f:List Dat->Option RV):Sp:=fun vs H Q _=>∃H0 ds z,aF H0 H/\aR H0 vs ds/\f ds=some z/\∀v H0' H',aX H0 H H0' H'->vo H H0' H' v z->Q v H'
end
section
variable{σ:St}{H:Hp}{Q:VK}
section
variable{fs:List FE}{a b:FE}{d:Dat}{t u:FT}{v:V}{H0:Hp}
theorem JL{i:Nat}(h:tD (Dm.eV i) σ H Q):nB i σ H Q:=by
 obtain⟨H0,ρ,x,ρ',st,e,k⟩:=h;unfold Dm.eV at e;split at e
 ·rename_i d h1;cases e;obtain⟨v,q,r⟩:=st.sh i d h1;exact⟨v,q,k v H0 H (.refl st) r⟩
 ·rename_i d h1;cases e;obtain⟨a,q,_⟩:=st.ow i d h1;exact⟨_,q,k _ H0 H (.refl st) ⟨q,trivial⟩⟩
 ·cases e
theorem m7(c:∀H0:Hp,Rep H0 v d)(h:tD (Dm.eC d) σ H Q):tC v σ H Q:=by obtain⟨H0,ρ,x,ρ',st,e,k⟩:=h;cases e;exact k v H0 H (.refl st) (c H0)
theorem yG{r:R2}{g:Dat->Dat->Option RV}{fa fb:FE}(o:OpD r g)(h:tD (Dm.e2 g fa fb) σ H Q):tOp r (tD fa) (tD fb) σ H Q:=by
 obtain⟨H0,ρ,x,ρ',st,e,k⟩:=h;unfold Dm.e2 at e;split at e
 ·cases e
 rename_i x1 ρ1 e1;split at e
 ·cases e
 rename_i y1 ρ2 e2;split at e
 ·cases e
 rename_i dx p1;split at e
 ·cases e
 rename_i dy p2;split at e
 ·cases e
 rename_i z gz;cases e;refine⟨H0,ρ,x1,ρ1,st,e1,fun v H1 Hb t1 r1=>⟨H1,ρ1,y1,_,t1.st,e2,fun u H2 Hc t2 r2=>?_⟩⟩;refine o H2 Hc v u dx dy z Q t2.st.same ((r1.mono t2).look t2.st p1) (r2.look t2.st p2) gz fun w H3 Hd g3 r3=>?_;exact k w H3 Hd (t1.trans (t2.trans (.grow t2.st g3))) ((r3.toV t2.st).early fun a n=>(t1.trans t2).stp.gone n)
theorem JM{r:V->Hp->VK->Prop}{g:Dat->Option RV}{fa:FE}(o:UnD r g)(h:tD (Dm.e1 g fa) σ H Q):tUn r (tD fa) σ H Q:=by
 obtain⟨H0,ρ,x,ρ',st,e,k⟩:=h;unfold Dm.e1 at e;split at e
 ·cases e
 rename_i x1 ρ1 e1;split at e
 ·cases e
 rename_i dx p1;split at e
 ·cases e
 rename_i z gz;cases e;refine⟨H0,ρ,x1,_,st,e1,fun v H1 Hb t1 r1=>?_⟩;refine o H1 Hb v dx z Q t1.st.same (r1.look t1.st p1) gz fun w H3 Hd g3 r3=>?_;exact k w H3 Hd (t1.trans (.grow t1.st g3)) ((r3.toV t1.st).early fun a n=>t1.stp.gone n)
theorem JN{Q:List V->Hp->Prop}(h:tDA [] σ H Q):yr σ H Q:=by obtain⟨H0,ρ,xs,ρ',st,e,k⟩:=h;cases e;exact k [] H0 H (.refl st) .nil
theorem G5{f:FE}{Q:List V->Hp->Prop}(h:tDA (f::fs) σ H Q):ju (tD f) (tDA fs) σ H Q:=by
 obtain⟨H0,ρ,xs,ρ',st,e,k⟩:=h;unfold Dm.eAs at e;split at e
 ·cases e
 rename_i x1 ρ1 e1;split at e
 ·cases e
 rename_i xs1 ρ2 e2;cases e;refine⟨H0,ρ,x1,ρ1,st,e1,fun v H1 Hb t1 r1=>⟨H1,ρ1,xs1,_,t1.st,e2,fun vs H2 Hc t2 r2=>?_⟩⟩;exact k (v::vs) H2 Hc (t1.trans t2) (.cons (r1.mono t2) (r2.early fun a n=>t1.stp.gone n))
theorem G6{r:List V->Hp->VK->Prop}{g:List Dat->Option RV}(o:CallD r g)(h:tD (Dm.eB g fs) σ H Q):tCB r (tDA fs) σ H Q:=by
 obtain⟨H0,ρ,x,ρ',st,e,k⟩:=h;unfold Dm.eB at e;split at e
 ·cases e
 rename_i xs ρ1 e1;split at e
 ·cases e
 rename_i ds p1;split at e
 ·cases e
 rename_i z gz;cases e;refine⟨H0,ρ,xs,_,st,e1,fun vs H1 Hb t1 r1=>?_⟩;refine o H1 Hb vs ds z Q t1.st.same (looks t1.st r1 p1) gz fun w H3 Hd g3 r3=>?_;exact k w H3 Hd (t1.trans (.grow t1.st g3)) ((r3.toV t1.st).early fun a n=>t1.stp.gone n)
theorem m8{n:Nat}(h:n<=Dm.SZ):n<=sizeLine:=Oe h (by decide)
theorem JO(h:tD (Dm.bw fs) σ H Q):GP (tDA fs) σ H Q:=by
 obtain⟨H0,ρ,x,ρ',st,e,k⟩:=h;unfold Dm.bw at e;split at e
 ·cases e
 rename_i xs ρ1 e1;split at e
 ·cases e
 rename_i ds ρ2 e2;split at e
 ·rename_i hz;cases e;refine⟨H0,ρ,xs,ρ1,st,e1,fun vs H1 Hb t1 r1=>?_⟩;obtain⟨H2,t2,b2,r2⟩:=takes t1 (aF.refl _) r1 e2;refine⟨by rw[r2.length];exact m8 hz,fun p hp=>?_⟩;have g:=aX.yE (o:=HO.tup vs) t2.st.same hp;exact k _ _ _ (t2.trans (.grow t2.st g)) (.tup au (r2.mono g.s0))
 ·cases e
theorem JP(h:tD (Dm.dP fs) σ H Q):Jz (tDA fs) σ H Q:=by
 obtain⟨H0,ρ,x,ρ',st,e,k⟩:=h;unfold Dm.dP at e;split at e
 ·cases e
 rename_i xs ρ1 e1;split at e
 ·cases e
 rename_i ds ρ2 e2;split at e
 ·rename_i hz;cases e;refine⟨H0,ρ,xs,ρ1,st,e1,fun vs H1 Hb t1 r1=>?_⟩;obtain⟨H2,t2,b2,r2⟩:=takes t1 (aF.refl _) r1 e2;refine⟨by rw[r2.length];exact m8 hz,fun p hp=>?_⟩;have g:=aX.pT (o:=HO.lst vs) t2.st.same hp;refine k _ _ _ (t2.trans (.grow t2.st g)) ⟨p,rfl,t2.stp.gone hp,fun⟨i,d,h1,h2⟩=>?_,t2.st.same.free hp,vs,au,r2⟩;obtain⟨a,q,_,w⟩:=t2.st.ow i d h1;rw[h2]at q;cases q;obtain⟨o,z⟩:=w.some;rw[hp]at z;cases z
 ·cases e
theorem Rep.plain{H0 H1:Hp}(r:Rep H0 v d)(n:Dm.gu d=false):Rep H1 v d:=by
 cases r with
 |non=>exact .non
 |bl b=>exact .bl b
 |int i=>exact .int i
 |str s=>exact .str s
 |tup _ _=>cases n
 |lst _ _=>cases n
 |dct _ _ _=>cases n
 |dcp _ _ _=>cases n
 |exc _=>cases n
 |bC _ _=>cases n
 |fn a=>exact .fn a
theorem Own.box{H0 H:Hp}{a:Addr}(w:Own H0 H a d):Dm.gu d=true:=by
 cases d with
 |lst ds=>rfl
 |dct ks ds=>rfl
 |dcp ks ds=>rfl
 |_=>exact NH w
theorem G7{f:List Dat->Option RV}{E:XK}(h:tD (Dm.eF f fs) σ H Q):zW (spD f) [] E (tDA fs) σ H Q:=by
 obtain⟨H0,ρ,x,ρ',st,e,k⟩:=h;unfold Dm.eF at e;split at e
 ·cases e
 rename_i xs ρ1 e1;split at e
 ·cases e
 rename_i ds p1;split at e
 ·cases e
 rename_i z fz;refine⟨H0,ρ,xs,ρ1,st,e1,fun vs H1 Hb t1 r1=>?_⟩;dsimp only;rw[Oi];obtain⟨ρ2,e2⟩:=gD p1;obtain⟨H2,t2,b2,r2⟩:=takes t1 (aF.refl _) r1 e2;split at e
 ·rw[e2]at e;cases e;exact⟨H2,ds,z,t2.st.same,r2,fz,fun w H3 Hd g3 r3=>k w H3 Hd (t2.trans (.grow t2.st g3)) ((r3.toV t2.st).early fun a n=>t2.stp.gone n)⟩
 ·rename_i nb;cases e;refine⟨H2,ds,z,t2.st.same,r2,fz,fun w H3 Hd g3 r3=>?_⟩;have g:aX H1 Hb H1 Hd:=⟨aF.refl _,g3.s1,fun a o q=>.inr q,t1.st.same.trans g3.s1⟩
  refine k w H1 Hd (t1.trans (.grow t1.st g)) ?_;cases z with
  |val d=>exact Rep.plain r3 (by simpa [RV.dat] using nb)
  |new d=>obtain⟨a,_,_,_,w⟩:=r3;exact absurd w.box (by simpa [RV.dat] using nb)
theorem Mx{t:FT}(h:tD (Dm.eIf t a b) σ H Q):tIf (tDT t) (tD a) (tD b) σ H Q:=by
 obtain⟨H0,ρ,x,ρ',st,e,k⟩:=h;unfold Dm.eIf at e;split at e
 ·cases e
 ·rename_i ρ1 e1;refine⟨H0,ρ,true,ρ1,st,e1,fun H1 Hb t1=>?_⟩;dsimp only;rw[if_pos rfl];exact⟨H1,ρ1,x,ρ',t1.st,e,fun v H2 Hc t2 r2=>k v H2 Hc (t1.trans t2) (r2.early fun a n=>t1.stp.gone n)⟩
 ·rename_i ρ1 e1;refine⟨H0,ρ,false,ρ1,st,e1,fun H1 Hb t1=>?_⟩;dsimp only;rw[if_neg N6];exact⟨H1,ρ1,x,ρ',t1.st,e,fun v H2 Hc t2 r2=>k v H2 Hc (t1.trans t2) (r2.early fun a n=>t1.stp.gone n)⟩
theorem Rep.pU{c:Bool}(r:Rep H0 v (.bl c)):v=.bl c:=by cases r;rfl
theorem Rep.isInt{c:Int}(r:Rep H0 v (.int c)):v=.int c:=by cases r;rfl
theorem JQ(h:tD (Dm.nJ a b) σ H Q):E_ (tD a) (tD b) σ H Q:=by
 obtain⟨H0,ρ,x,ρ',st,e,k⟩:=h;unfold Dm.nJ at e;split at e
 ·rename_i ρ1 e1;refine⟨H0,ρ,_,_,st,e1,fun v H1 Hb t1 r1=>⟨true,Rep.pU r1,?_⟩⟩
  try dsimp only
  rw[if_pos rfl];exact⟨H1,ρ1,x,ρ',t1.st,e,fun v H2 Hc t2 r2=>k v H2 Hc (t1.trans t2) (r2.early fun a n=>t1.stp.gone n)⟩
 ·rename_i ρ1 e1;cases e;refine⟨H0,ρ,_,_,st,e1,fun v H1 Hb t1 r1=>⟨false,Rep.pU r1,?_⟩⟩
  try dsimp only
  rw[if_neg N6];exact k _ H1 Hb t1 (Rep.bl false)
 ·cases e
theorem My(h:tD (Dm.eOr a b) σ H Q):Jk (tD a) (tD b) σ H Q:=by
 obtain⟨H0,ρ,x,ρ',st,e,k⟩:=h;unfold Dm.eOr at e;split at e
 ·rename_i ρ1 e1;cases e;refine⟨H0,ρ,_,_,st,e1,fun v H1 Hb t1 r1=>⟨true,Rep.pU r1,?_⟩⟩
  try dsimp only
  rw[if_pos rfl];exact k _ H1 Hb t1 (Rep.bl true)
 ·rename_i ρ1 e1;refine⟨H0,ρ,_,_,st,e1,fun v H1 Hb t1 r1=>⟨false,Rep.pU r1,?_⟩⟩
  try dsimp only
  rw[if_neg N6];exact⟨H1,ρ1,x,ρ',t1.st,e,fun v H2 Hc t2 r2=>k v H2 Hc (t1.trans t2) (r2.early fun a n=>t1.stp.gone n)⟩
 ·cases e
theorem JR{a:FE}(h:tD (Dm.pS a) σ H Q):Fb (tD a) σ H Q:=by
 obtain⟨H0,ρ,x,ρ',st,e,k⟩:=h;unfold Dm.pS at e;split at e
 ·rename_i c ρ1 e1;cases e;exact⟨H0,ρ,_,_,st,e1,fun v H1 Hb t1 r1=>⟨c,Rep.pU r1,k _ H1 Hb t1 (Rep.bl (!c))⟩⟩
 ·cases e
variable{Qt:Bool->Hp->Prop}
theorem vv{a:FE}(h:tDT (Dm.tV a) σ H Qt):Fg (tD a) σ H Qt:=by
 obtain⟨H0,ρ,x,ρ',st,e,k⟩:=h;unfold Dm.tV at e;split at e
 ·rename_i c ρ1 e1;cases e;exact⟨H0,ρ,_,_,st,e1,fun v H1 Hb t1 r1=>⟨_,Rep.pU r1,k H1 Hb t1⟩⟩
 ·cases e
theorem G8{t:FT}(h:tDT (Dm.fK t) σ H Qt):fK (tDT t) σ H Qt:=by
 obtain⟨H0,ρ,x,ρ',st,e,k⟩:=h;unfold Dm.fK at e;split at e
 ·rename_i c ρ1 e1;cases e;exact⟨H0,ρ,_,_,st,e1,fun H1 Hb t1=>k H1 Hb t1⟩
 ·cases e
theorem G9(h:tDT (Dm.g8 t u) σ H Qt):g8 (tDT t) (tDT u) σ H Qt:=by
 obtain⟨H0,ρ,x,ρ',st,e,k⟩:=h;unfold Dm.g8 at e;split at e
 ·rename_i ρ1 e1;refine⟨H0,ρ,_,ρ1,st,e1,fun H1 Hb t1=>?_⟩;dsimp only;rw[if_pos rfl];exact⟨H1,ρ1,x,ρ',t1.st,e,fun H2 Hc t2=>k H2 Hc (t1.trans t2)⟩
 ·rename_i ρ1 e1;cases e;refine⟨H0,ρ,_,_,st,e1,fun H1 Hb t1=>?_⟩;dsimp only;rw[if_neg N6];exact k H1 Hb t1
 ·cases e
theorem JS(h:tDT (Dm.tOr t u) σ H Qt):tOr (tDT t) (tDT u) σ H Qt:=by
 obtain⟨H0,ρ,x,ρ',st,e,k⟩:=h;unfold Dm.tOr at e;split at e
 ·rename_i ρ1 e1;cases e;refine⟨H0,ρ,_,_,st,e1,fun H1 Hb t1=>?_⟩;dsimp only;rw[if_pos rfl];exact k H1 Hb t1
 ·rename_i ρ1 e1;refine⟨H0,ρ,_,ρ1,st,e1,fun H1 Hb t1=>?_⟩;dsimp only;rw[if_neg N6];exact⟨H1,ρ1,x,ρ',t1.st,e,fun H2 Hc t2=>k H2 Hc (t1.trans t2)⟩
 ·cases e
end
end
section
variable{ρ:Dm.Env}{H0 H:Hp}{σ:L2.St}
structure SSt(σ:St)(ρ:Dm.Env)(H0 H:Hp)(σ':St)(ρ':Dm.Env)(H0' H':Hp):Prop where
 st:aK H0' H' σ' ρ'
 stp:Stp (aE σ ρ) H0 H H0' H'
 own:∀a,aE σ' ρ' a->aE σ ρ a\/H a=none
 fx:σ'[0]?=σ[0]?
theorem ESt.sst{σ:St}{ρ ρ':Dm.Env}{H0 H H0' H':Hp}(t:ESt σ ρ H0 H ρ' H0' H'):SSt σ ρ H0 H σ ρ' H0' H':=⟨t.st,t.stp,fun a z=>.inl (t.own a z),rfl⟩
theorem SSt.refl{σ:St}(st:aK H0 H σ ρ):SSt σ ρ H0 H σ ρ H0 H:=(ESt.refl st).sst
theorem SSt.trans{σ σ1 σ2:St}{ρ ρ1 ρ2:Dm.Env}{H0 H H1 H' H2 H'':Hp}(t:SSt σ ρ H0 H σ1 ρ1 H1 H')(u:SSt σ1 ρ1 H1 H' σ2 ρ2 H2 H''):SSt σ ρ H0 H σ2 ρ2 H2 H'':=
 ⟨u.st,t.stp.trans u.stp t.own,fun a z=>(u.own a z).elim (t.own a) fun n=>.inr (t.stp.gone n),u.fx.trans t.fx⟩
def sZ(σ:St)(ρ:Dm.Env)(H H0' H':Hp)(v:V):RV->Prop
 |.val d=>Rep H0' v d
 |.new d=>∃a,v=V.ref a/\(H a=none\/aE σ ρ a)/\H0' a=none/\Own H0' H' a d
def mh(D:Ends)(σ:St)(ρ:Dm.Env)(H0 H:Hp):Dm.Out->Prop
 |.nx ρ'=>∀σ' H0' H',SSt σ ρ H0 H σ' ρ' H0' H'->D.nx σ' H'
 |.bk ρ'=>∀σ' H0' H',SSt σ ρ H0 H σ' ρ' H0' H'->D.bk σ' H'
 |.ct ρ'=>∀σ' H0' H',SSt σ ρ H0 H σ' ρ' H0' H'->D.ct σ' H'
 |.ret z ρ'=>∀σ' v H0' H',SSt σ ρ H0 H σ' ρ' H0' H'->sZ σ ρ H H0' H' v z->(∀d a,z=.new d->v=.ref a->¬aE σ' ρ' a)->D.rt v H'
def tDS(g:FS):TS:=fun D σ H=>∃H0 ρ o,aK H0 H σ ρ/\g ρ=some o/\mh D σ ρ H0 H o
theorem mh.pre{D:Ends}{σ σ1:St}{ρ ρ1:Dm.Env}{H0 H H1 H':Hp}{o:Dm.Out}(t:SSt σ ρ H0 H σ1 ρ1 H1 H')(k:mh D σ ρ H0 H o):mh D σ1 ρ1 H1 H' o:=by
 cases o with
 |nx ρ'=>exact fun σ' H0' H' u=>k σ' H0' H' (t.trans u)
 |bk ρ'=>exact fun σ' H0' H' u=>k σ' H0' H' (t.trans u)
 |ct ρ'=>exact fun σ' H0' H' u=>k σ' H0' H' (t.trans u)
 |ret z ρ'=>
  refine fun σ' v H0' H'' u r no=>k σ' v H0' H'' (t.trans u) ?_ no;cases z with
  |val d=>exact r
  |new d=>
   obtain⟨a,e,n,n0,w⟩:=r;refine⟨a,e,?_,n0,w⟩;rcases n with n | n
   ·exact .inl (t.stp.gone n)
   ·exact(t.own a n).symm
theorem aK.mask(st:aK H0 H σ ρ)(i:Nat):aK H0 H σ (ρ.set i .un) where
 same:=st.same
 len:=by rw[Oj];exact st.len
 sh:=fun j d h=>by
  by_cases q:i=j
  ·subst q;rw[ON]at h;simp only[if_true]at h;split at h<;>cases h
  ·rw[gc q]at h;exact st.sh j d h
 ow:=fun j d h=>by
  by_cases q:i=j
  ·subst q;rw[ON]at h;simp only[if_true]at h;split at h<;>cases h
  ·rw[gc q]at h;exact st.ow j d h
 dis:=fun j j' d d' a h1 h2 h3 h4=>by
  by_cases q:i=j
  ·subst q;rw[ON]at h1;simp only[if_true]at h1;split at h1<;>cases h1
  ·by_cases q':i=j'
   ·subst q';rw[ON]at h2;simp only[if_true]at h2;split at h2<;>cases h2
   ·rw[gc q]at h1;rw[gc q']at h2;exact st.dis j j' d d' a h1 h2 h3 h4
theorem eO{i:Nat}{a:Addr}(h:aE σ (ρ.set i .un) a):∃(j:Nat) (d:Dat),j≠i/\ρ[j]?=some (Dm.Cell.ow d)/\σ[j]?=some (some (V.ref a)):=by
 obtain⟨j,d,h1,h2⟩:=h;by_cases q:i=j
 ·subst q;rw[ON]at h1;simp only[if_true]at h1;split at h1<;>cases h1
 ·rw[gc q]at h1;exact⟨j,d,fun z=>q z.symm,h1,h2⟩
end
section
variable{D:Ends}{σ:St}{H:Hp}
theorem Mz(h:tDS Dm.sNx D σ H):zG D σ H:=by obtain⟨H0,ρ,o,st,e,k⟩:=h;cases e;exact k σ H0 H (.refl st)
theorem JT{s u:FS}(h:tDS (Dm.aI s u) D σ H):C2 (tDS s) (tDS u) D σ H:=by
 obtain⟨H0,ρ,o,st,e,k⟩:=h;unfold Dm.aI at e;split at e
 ·rename_i ρ1 e1;exact⟨H0,ρ,.nx ρ1,st,e1,fun σ' H0' H' t=>⟨H0',ρ1,o,t.st,e,k.pre t⟩⟩
 ·rename_i h1;cases o with
  |nx ρ1=>exact absurd e (h1 ρ1)
  |bk ρ1=>exact⟨H0,ρ,_,st,e,k⟩
  |ct ρ1=>exact⟨H0,ρ,_,st,e,k⟩
  |ret z ρ1=>exact⟨H0,ρ,_,st,e,k⟩
theorem G_{f:FE}(h:tDS (Dm.sE f) D σ H):wJ (tD f) D σ H:=by
 obtain⟨H0,ρ,o,st,e,k⟩:=h;unfold Dm.sE at e;split at e
 ·cases e
 ·rename_i x ρ1 e1;cases e;exact⟨H0,ρ,x,ρ1,st,e1,fun v H0' H' t r=>k σ H0' H' t.sst⟩
theorem JU{f:FE}(h:tDS (Dm.sR f) D σ H):Jm (tD f) D σ H:=by
 obtain⟨H0,ρ,o,st,e,k⟩:=h;unfold Dm.sR at e;split at e
 ·cases e
 ·rename_i d ρ1 e1;cases e;refine⟨H0,ρ,_,ρ1,st,e1,fun v H0' H' t r=>?_⟩;obtain⟨a,e,n,no,n0,w⟩:=r;exact k σ v H0' H' t.sst ⟨a,e,.inl n,n0,w⟩ fun d' a' _ e' z=>by rw[e]at e';cases e';exact no z
 ·rename_i d ρ1 e1;cases e;exact⟨H0,ρ,_,ρ1,st,e1,fun v H0' H' t r=>k σ v H0' H' t.sst r fun d' a' z=>by cases z⟩
 ·rename_i i ρ1 e1;split at e
  ·rename_i d h1;cases e;refine⟨H0,ρ,_,ρ1,st,e1,fun v H0' H' t r=>?_⟩;obtain⟨q,_⟩:=r;obtain⟨a,q',n0,w⟩:=t.st.ow i d h1;rw[q]at q';cases q';refine k σ _ H0' H' ⟨t.st.mask i,t.stp,fun b z=>?_,rfl⟩ ⟨a,rfl,.inr (t.own a ⟨i,d,h1,q⟩),n0,w⟩ fun d' a' _ e' z=>?_
   ·obtain⟨j,d2,_,z1,z2⟩:=eO z;exact .inl (t.own b ⟨j,d2,z1,z2⟩)
   ·cases e';obtain⟨j,d2,hj,z1,z2⟩:=eO z;exact hj (t.st.dis j i d2 d a z1 h1 z2 q)
  ·rename_i d h1;cases e;refine⟨H0,ρ,_,ρ1,st,e1,fun v H0' H' t r=>?_⟩;obtain⟨q,_⟩:=r;obtain⟨u,q',w⟩:=t.st.sh i d h1;rw[q]at q';cases q';exact k σ _ H0' H' t.sst w fun d' a' z=>by cases z
  ·cases e
theorem JV{t:FT}{a b:FS}(h:tDS (Dm.sIf t a b) D σ H):Jo (tDT t) (tDS a) (tDS b) D σ H:=by
 obtain⟨H0,ρ,o,st,e,k⟩:=h;unfold Dm.sIf at e;split at e
 ·cases e
 ·rename_i ρ1 e1;refine⟨H0,ρ,true,ρ1,st,e1,fun H1 Hb t1=>?_⟩;dsimp only;rw[if_pos rfl];exact⟨H1,ρ1,o,t1.st,e,k.pre t1.sst⟩
 ·rename_i ρ1 e1;refine⟨H0,ρ,false,ρ1,st,e1,fun H1 Hb t1=>?_⟩;dsimp only;rw[if_neg N6];exact⟨H1,ρ1,o,t1.st,e,k.pre t1.sst⟩
end
section
variable{ρ:Dm.Env}{σ:St}{i:Nat}{H0 H:Hp}{d:Dat}{a:Addr}{b:Addr}{o:HO}{v:V}
theorem iD{i j:Nat}{c d:Option V}(h:(σ.set i c)[j]?=some d):(j=i/\d=c)\/(j≠i/\σ[j]?=some d):=by
 by_cases e:j=i
 ·subst e;by_cases l:j<σ.length
  ·rw[NW l]at h;exact .inl ⟨rfl,(Option.some.inj h).symm⟩
  ·rw[OG (by simpa using P0.mp l)]at h;cases h
 ·rw[gc (N2 e)]at h;exact .inr ⟨e,h⟩
theorem aK.inσ{c d:Dm.Cell}(st:aK H0 H σ ρ)(h:(ρ.set i c)[i]?=some d):i<σ.length:=by have:=(Ny.mp h).1;rw[Oj]at this;rw[st.len];exact this
theorem dW(h:aE (σ.set i (some v)) (ρ.set i (.sh d)) b):aE σ ρ b:=by
 obtain⟨j,d',h1,h2⟩:=h;rcases bM h1 with⟨_,z⟩ | ⟨hj,h1⟩
 ·cases z
 ·rcases iD h2 with⟨z,_⟩ | ⟨_,h2⟩
  ·exact absurd z hj
  ·exact⟨j,d',h1,h2⟩
theorem aK.nN(st:aK H0 H σ ρ)(r:Rep H0 v d):aK H0 H (σ.set i (some v)) (ρ.set i (.sh d)) where
 same:=st.same
 len:=by rw[Oj,Oj];exact st.len
 sh:=fun j d' h=>by
  rcases bM h with⟨rfl,z⟩ | ⟨hj,h'⟩
  ·cases z;exact⟨v,NW (st.inσ h),r⟩
  ·obtain⟨u,q,w⟩:=st.sh j d' h';exact⟨u,by rw[gc (N2 hj)];exact q,w⟩
 ow:=fun j d' h=>by
  rcases bM h with⟨_,z⟩ | ⟨hj,h'⟩
  ·cases z
  ·obtain⟨u,q,w⟩:=st.ow j d' h';exact⟨u,by rw[gc (N2 hj)];exact q,w⟩
 dis:=fun j k d1 d2 b h1 h2 h3 h4=>by
  rcases bM h1 with⟨_,z⟩ | ⟨hj,h1⟩
  ·cases z
  rcases bM h2 with⟨_,z⟩ | ⟨hk,h2⟩
  ·cases z
  rw[gc (N2 hj)]at h3;rw[gc (N2 hk)]at h4;exact st.dis j k d1 d2 b h1 h2 h3 h4
theorem aK.Ai(st:aK H0 H σ ρ)(no:¬aE σ ρ a)(n0:H0 a=none)(w:Own H0 H a d):aK H0 H (σ.set i (some (.ref a))) (ρ.set i (.ow d)) where
 same:=st.same
 len:=by rw[Oj,Oj];exact st.len
 sh:=fun j d' h=>by
  rcases bM h with⟨_,z⟩ | ⟨hj,h'⟩
  ·cases z
  ·obtain⟨u,q,w⟩:=st.sh j d' h';exact⟨u,by rw[gc (N2 hj)];exact q,w⟩
 ow:=fun j d' h=>by
  rcases bM h with⟨rfl,z⟩ | ⟨hj,h'⟩
  ·cases z;exact⟨a,NW (st.inσ h),n0,w⟩
  ·obtain⟨u,q,w⟩:=st.ow j d' h';exact⟨u,by rw[gc (N2 hj)];exact q,w⟩
 dis:=fun j k d1 d2 b h1 h2 h3 h4=>by
  rcases bM h1 with⟨e1,z1⟩ | ⟨hj,h1'⟩
  ·rcases bM h2 with⟨e2,z2⟩ | ⟨hk,h2'⟩
   ·rw[e1,e2]
   ·rcases iD h3 with⟨_,z⟩ | ⟨z,_⟩
    ·cases z;rw[gc (N2 hk)]at h4;exact absurd ⟨k,d2,h2',h4⟩ no
    ·exact absurd e1 z
  ·rcases bM h2 with⟨e2,z2⟩ | ⟨hk,h2'⟩
   ·rcases iD h4 with⟨_,z⟩ | ⟨z,_⟩
    ·cases z;rw[gc (N2 hj)]at h3;exact absurd ⟨j,d1,h1',h3⟩ no
    ·exact absurd e2 z
   ·rw[gc (N2 hj)]at h3;rw[gc (N2 hk)]at h4;exact st.dis j k d1 d2 b h1' h2' h3 h4
theorem rq{a b:Addr}(h:aE (σ.set i (some (.ref a))) (ρ.set i (.ow d)) b):b=a\/aE σ ρ b:=by
 obtain⟨j,d',h1,h2⟩:=h;rcases bM h1 with⟨e,_⟩ | ⟨hj,h1⟩
 ·rcases iD h2 with⟨_,z⟩ | ⟨z,_⟩
  ·cases z;exact .inl rfl
  ·exact absurd e z
 ·rcases iD h2 with⟨z,_⟩ | ⟨_,h2⟩
  ·exact absurd z hj
  ·exact .inr ⟨j,d',h1,h2⟩
theorem aK.write{d d':Dat}(st:aK H0 H σ ρ)(e:ρ[i]?=some (.ow d))(q:σ[i]?=some (some (V.ref a)))(w':Own H0 (upd H a o) a d') :
  aK H0 (upd H a o) σ (ρ.set i (.ow d')):=by
 obtain⟨a',q',n,w⟩:=st.ow i d e;rw[q]at q';cases q';refine⟨fun b u z=>?_,by rw[Oj];exact st.len,fun j d1 h=>?_,fun j d1 h=>?_,fun j k d1 d2 b h1 h2 h3 h4=>?_⟩
 ·rw[ao (aS z n)];exact st.same _ _ z
 ·rcases bM h with⟨_,z⟩ | ⟨hj,h'⟩
  ·cases z
  ·exact st.sh j d1 h'
 ·rcases bM h with⟨rfl,z⟩ | ⟨hj,h'⟩
  ·cases z;exact⟨a,q,n,w'⟩
  ·obtain⟨b,q1,n1,w1⟩:=st.ow j d1 h';have nb:b≠a:=fun y=>hj (st.dis j i d1 d a h' e (y▸q1) q);exact⟨b,q1,n1,w1.mono (aF.refl _) (ao nb)⟩
 ·have f:∀{j:Nat} {d1:Dat},(ρ.set i (.ow d'))[j]?=some (.ow d1)->∃d2,ρ[j]?=some (.ow d2):=fun {j d1} h=>by
   rcases bM h with⟨rfl,_⟩ | ⟨_,h'⟩
   ·exact⟨d,e⟩
   ·exact⟨d1,h'⟩
  obtain⟨x1,y1⟩:=f h1;obtain⟨x2,y2⟩:=f h2;exact st.dis j k x1 x2 b y1 y2 h3 h4
theorem fV{d d':Dat}(e:ρ[i]?=some (.ow d))(h:aE σ (ρ.set i (.ow d')) b):aE σ ρ b:=by
 obtain⟨j,d1,h1,h2⟩:=h;rcases bM h1 with⟨rfl,_⟩ | ⟨_,h'⟩
 ·exact⟨j,d,e,h2⟩
 ·exact⟨j,d1,h',h2⟩
theorem Stp.write(w:aE σ ρ a):Stp (aE σ ρ) H0 H H0 (upd H a o):=
 ⟨aF.refl _,fun b u e n=>by rw [ao (show b≠a from fun z=>n (by rw [z];exact w))];exact e,fun b u e=>.inr (.inl e),fun b u e=>by
  by_cases z:b=a
  ·subst z;exact⟨o,au⟩
  ·exact⟨u,by rw[ao z];exact e⟩⟩
end
section
variable{D:Ends}{σ:St}{H:Hp}
section
variable{f:FE}{is:List Nat}{ρ:Dm.Env}{body:FS}{a:Addr}{i:Nat}{ds:List Dat}{d:Dat}{bd:Dm.FB}{n:Nat}{xs:List V}{vs:List V}{H0:Hp}{k:Nat}{fi:Dm.FI}{t:FT}{g:TG}{o:HO}{Q:VK}{E:XK}
theorem Aj(h:tDS (Dm.sA i f) D σ H):yf (tD f) (nC i) D σ H:=by
 obtain⟨H0,ρ,o,st,e,k⟩:=h;unfold Dm.sA at e;split at e
 ·cases e
 rename_i hi0;split at e
 ·cases e
 ·rename_i d ρ1 e1;cases e;refine⟨H0,ρ,_,ρ1,st,e1,fun v H0' H' t r=>?_⟩;obtain⟨a,e,n,no,n0,w⟩:=r;subst e;refine k _ H0' H' ⟨t.st.Ai no n0 w,t.stp,fun b z=>?_,gc hi0⟩;rcases rq z with rfl | z
  ·exact .inr n
  ·exact .inl (t.own b z)
 ·rename_i x ρ1 _ e1;split at e
  ·cases e
  ·rename_i d ρ2 e2;cases e;refine⟨H0,ρ,_,ρ1,st,e1,fun v H0' H' t r=>?_⟩;obtain⟨H1,t1,b1,r1,_,_⟩:=take1 t (aF.refl _) r e2;exact k _ H1 H' ⟨t1.st.nN r1,t1.stp,fun b z=>.inl (t1.own b (dW z)),gc hi0⟩
theorem w6{j:Nat}(h:Def ρ j):Def (ρ.set i (.sh d)) j:=trivial
noncomputable def f9:List Nat->TGs
 |[]=>Jq
 |i::is=>Fc (nC i) (f9 is)
theorem rz{H0 H:Hp}{Q:St->Hp->Prop}:∀{is:List Nat} {xs:List V} {ds:List Dat} {σ:St} {ρ ρ':Dm.Env},aK H0 H σ ρ->aR H0 xs ds->Dm.sets is ds ρ=some ρ' ->
  (∀σ',aK H0 H σ' ρ'->(∀a,aE σ' ρ' a->aE σ ρ a)->(∀j,j∉is->σ'[j]?=σ[j]?)->(∀j,Def ρ j->Def ρ' j)->σ'[0]?=σ[0]?->Q σ' H)->f9 is xs σ H Q
 |[],_,[],σ,ρ,ρ',st,r,e,k=>by cases r;cases e;exact⟨rfl,k σ st (fun _ z=>z) (fun _ _=>rfl) (fun _ z=>z) rfl⟩
 |i::is,_,d::ds,σ,ρ,ρ',st,r,e,k=>by
  cases r with
  |cons h r=>
   unfold Dm.sets at e;split at e
   ·cases e
   rename_i hi0;refine⟨_,_,rfl,?_⟩;refine rz (st.nN h) r e fun σ' st' o' n' d' f'=>k σ' st' (fun a z=>dW (o' a z)) (fun j hj=>?_) (fun j z=>d' j (w6 z)) (f'.trans (gc hi0));rw[n' j fun z=>hj (NB _ z)];exact gc fun z=>hj (by rw[z];exact NJ)
 |[],_,_::_,_,_,_,_,_,e,_=>by cases e
 |_::_,_,[],_,_,_,_,_,e,_=>by cases e
theorem nP:∀{is:List Nat} {ds:List Dat} {ρ ρ':Dm.Env},Dm.sets is ds ρ=some ρ'->ds.length=is.length
 |[],[],_,_,_=>rfl
 |i::is,_::ds,_,_,e=>by
  unfold Dm.sets at e;split at e
  ·cases e
  ·simp[nP (is:=is) (ds:=ds) e]
 |[],_::_,_,_,e=>by cases e
 |_::_,[],_,_,e=>by cases e
def BD(is:List Nat)(g:TG)(bd:Dm.FB):Prop:=∀(H0 H:Hp) (σ:St) (ρ ρ':Dm.Env) (x:V) (d:Dat) (Q:St->Hp->Prop),aK H0 H σ ρ->Rep H0 x d->bd d ρ=some ρ' ->
 (∀σ',aK H0 H σ' ρ'->(∀a,aE σ' ρ' a->aE σ ρ a)->(∀j,j∉is->σ'[j]?=σ[j]?)->(∀j,Def ρ j->Def ρ' j)->σ'[0]?=σ[0]?->Q σ' H)->g x σ H Q
theorem w_(i:Nat):BD [i] (nC i) (Dm.bN i):=by
 intro H0 H σ ρ ρ' x d Q st r e k;unfold Dm.bN at e;split at e
 ·cases e
 rename_i hi0;cases e;refine k _ (st.nN r) (fun a z=>dW z) (fun j hj=>?_) (fun j h=>w6 h) (gc hi0);exact gc (fun z=>hj (by rw[z];exact N7.mpr rfl))
theorem Ak{K:eg}(hn:is.length=n)(h:tDS (Dm.sU is f) D σ H):yf (tD f) (GA K n (f9 is)) D σ H:=by
 obtain⟨H0,ρ,o,st,e,k⟩:=h;unfold Dm.sU at e;split at e
 ·cases e
 ·rename_i x ρ1 e1;split at e
  ·rename_i ds ρ2 e2;split at e
   ·cases e
   ·rename_i ρ3 e3;cases e;refine⟨H0,ρ,_,ρ1,st,e1,fun v H0' H' t r=>?_⟩;obtain⟨H1,t1,b1,r1,_,_⟩:=take1 t (aF.refl _) r e2;cases r1 with
    |tup q rs=>refine⟨_,_,rfl,SqT.of (t1.st.same _ _ q),by rw[rs.length,nP e3,hn],?_⟩;exact rz t1.st rs e3 fun σ' st' o' _ _ f'=>k σ' H1 H' ⟨st',t1.stp,fun a z=>.inl (t1.own a (o' a z)),f'⟩
  ·cases e
theorem Al{K:eg}(is:List Nat)(hn:is.length=n):BD is (GA K n (f9 is)) (Dm.bT is):=by
 intro H0 H σ ρ ρ' x d Q st r e k;unfold Dm.bT at e;split at e
 ·cases r with
  |tup q rs=>exact⟨_,_,rfl,SqT.of (st.same _ _ q),by rw[rs.length,nP e,hn],rz st rs e k⟩
 ·cases e
theorem JX{K:eg}(h:tDS (Dm.rj i f) D σ H):wJ (tBM K "list" wU (nB i) (tDA [f])) D σ H:=by
 obtain⟨H0,ρ,o,st,e,k⟩:=h;unfold Dm.rj at e;split at e
 ·rename_i ds0 h0;obtain⟨a0,q0,n0,w0⟩:=st.ow i _ h0;refine⟨_,q0,?_⟩;split at e
  ·cases e
  rename_i x ρ1 e1;split at e
  ·cases e
  rename_i d ρ2 e2;split at e
  ·rename_i ds h2;split at e
   ·rename_i hz;cases e;obtain⟨xs0,y0,_⟩:=w0;refine⟨.inl ⟨rfl,xs0,.inl (.inl y0)⟩,?_⟩;refine⟨H0,ρ,[x],ρ1,st,by unfold Dm.eAs;rw[e1];rfl,fun vs H0' H' t r=>?_⟩;cases r with
    |cons r rr=>
     cases rr;obtain⟨H1,t1,b1,r1,_,_⟩:=take1 t (aF.refl _) r e2;obtain⟨a,q,n,w⟩:=t1.st.ow i _ h2;rw[q0]at q;cases q;obtain⟨xs,y,rs⟩:=w;refine⟨a0,xs,_,rfl,rfl,y,by rw[rs.length];exact NO hz (by decide),?_⟩;have ow:aE σ ρ2 a0:=⟨i,_,h2,q0⟩
     refine k σ H1 _ ⟨t1.st.write h2 q0 ⟨_,au,rs.append (.cons r1 .nil)⟩,t1.stp.trans (Stp.write ow) fun b z=>.inl (t1.own b z),fun b z=>.inl (t1.own b (fV h2 z)),rfl⟩
   ·cases e
  ·cases e
 ·cases e
theorem JY{j f:FE}(h:tDS (Dm.sS i j f) D σ H):yf (tD f) (lH (nB i) (tD j) Fi) D σ H:=by
 obtain⟨H0,ρ,o,st,e,k⟩:=h;unfold Dm.sS at e;split at e
 ·cases e
 rename_i x ρ1 e1;split at e
 ·cases e
 rename_i d ρ2 e2;split at e
 case h_2=>cases e
 rename_i d0 h2;split at e
 ·rename_i m ρ3 e3;split at e
  ·rename_i ds h3;split at e
   ·cases e
   ·rename_i p e4;cases e;refine⟨H0,ρ,_,ρ1,st,e1,fun v H0' H' t r=>?_⟩;obtain⟨H1,t1,b1,r1,_,_⟩:=take1 t (aF.refl _) r e2;obtain⟨a0,q0,_,_⟩:=t1.st.ow i _ h2;refine⟨_,q0,H1,ρ2,_,ρ3,t1.st,e3,fun u H2 Hc t2 r2=>?_⟩;obtain⟨a,q,n,w⟩:=t2.st.ow i _ h3;rw[q0]at q;cases q;obtain⟨xs,y,rs⟩:=w;refine⟨a0,xs,m,p,rfl,Rep.isInt r2,y,by rw[rs.length];exact e4,?_⟩;have ow:aE σ ρ3 a0:=⟨i,_,h3,q0⟩
    have tt:=t1.trans t2;refine k σ H2 _ ⟨t2.st.write h3 q0 ⟨_,au,rs.set (r1.mono t2.stp.s0) p⟩,tt.stp.trans (Stp.write ow) fun b z=>.inl (tt.own b z),fun b z=>.inl (tt.own b (fV h3 z)),rfl⟩
  ·cases e
 ·cases e
theorem Dj(h:tDS (Dm.whD t body n) D σ H):zL (tDT t) (tDS body) D σ H:=by
 refine⟨fun m σ H=>tDS (Dm.whD t body m) D σ H,⟨n,h⟩,?_⟩;rintro m σ H ⟨H0,ρ,o,st,e,k⟩;cases m with
 |zero=>unfold Dm.whD at e;cases e
 |succ m=>
  unfold Dm.whD at e;split at e
  ·cases e
  ·rename_i ρ1 e1;cases e;refine⟨H0,ρ,false,ρ1,st,e1,fun H1 Hb t1=>?_⟩;dsimp only;rw[if_neg N6];exact k σ H1 Hb t1.sst
  ·rename_i ρ1 e1;refine⟨H0,ρ,true,ρ1,st,e1,fun H1 Hb t1=>?_⟩;dsimp only;rw[if_pos rfl];refine⟨fun σ' H'=>tDS (Dm.whD t body m) D σ' H',fun σ' H' q=>⟨m,Qy m,q⟩,?_⟩;have k1:=k.pre t1.sst;split at e
   ·rename_i ρ2 e2;exact⟨H1,ρ1,_,t1.st,e2,fun σ' H0' H' t2=>⟨H0',ρ2,o,t2.st,e,k1.pre t2⟩⟩
   ·rename_i ρ2 e2;exact⟨H1,ρ1,_,t1.st,e2,fun σ' H0' H' t2=>⟨H0',ρ2,o,t2.st,e,k1.pre t2⟩⟩
   ·rename_i ρ2 e2;cases e;exact⟨H1,ρ1,_,t1.st,e2,k1⟩
   ·rename_i v ρ2 e2;cases e;exact⟨H1,ρ1,_,t1.st,e2,k1⟩
   ·cases e
def JW(J:It)(H00:Hp)(ys:List Dat):Prop:=∀H0 H,aF H00 H0->aF H0 H->(∀i,ys.length<=i->J.stop i H) /\
 ∀(i:Nat) (d:Dat),ys[i]?=some d->J.go i H/\∀x H',J.yld i H x H'->∃H0',aX H0 H H0' H'/\Rep H0' x d
def tDI(fi:Dm.FI):TI:=fun σ H R=>∃H0 ρ ys ρ',aK H0 H σ ρ/\fi ρ=some (ys,ρ')/\∀J H0' H',ESt σ ρ H0 H ρ' H0' H'->JW J H0' ys->R J H'
theorem JZ(hb:BD is g bd)(h:tDS (Dm.lJ fi bd body) D σ H):Jr (tDI fi) g (tDS body) D σ H:=by
 obtain⟨H0,ρ,o,st,e,k⟩:=h;unfold Dm.lJ at e;split at e
 ·cases e
 rename_i ys ρ1 e1;refine⟨H0,ρ,ys,ρ1,st,e1,fun J H00 Hb t1 jw=>?_⟩;refine ⟨fun i m σ H=>∃ H0 ρ o,aK H0 H σ ρ∧aF H00 H0∧m=ys.length-i∧i≤ys.length∧Dm.lI bd body (ys.drop i) ρ=some o∧mh D σ ρ H0 H o,
  ⟨ys.length,H00,ρ1,o,t1.st,aF.refl _,by simp,Od _,by simpa using e,k.pre t1.sst⟩,?_⟩
 rintro i m σ H ⟨H0,ρ,o,st,s00,rfl,hi,e,k⟩;obtain⟨js,jg⟩:=jw H0 H s00 st.same;by_cases M6:i<ys.length
 ·have hd:ys[i]?=some ys[i]:=by simp[M6]
  obtain⟨g1,g2⟩:=jg i ys[i] hd;rw[List.drop_eq_getElem_cons M6]at e;unfold Dm.lI at e;refine .inr ⟨g1,fun σ' H'=>∃H0 ρ o,aK H0 H' σ' ρ/\aF H00 H0/\Dm.lI bd body (ys.drop (i+1)) ρ=some o/\mh D σ' ρ H0 H' o,?_,fun x H' y=>?_⟩
  ·rintro σ' H' ⟨H0',ρ',o',h1,h2,h3,h4⟩;exact⟨ys.length-(i+1),by lia,H0',ρ',o',h1,h2,rfl,M6,h3,h4⟩
  ·obtain⟨H0',gr,rx⟩:=g2 x H' y;split at e
   ·cases e
   ·rename_i ρ2 e2;have t2:=ESt.grow st gr;refine hb H0' H' σ ρ ρ2 x ys[i] _ t2.st rx e2 fun σ2 st2 o2 _ _ f2=>?_;have t3:SSt σ ρ H0 H σ2 ρ2 H0' H':=⟨st2,t2.stp,fun a z=>.inl (o2 a z),f2⟩
    have k3:=k.pre t3;have s3:aF H00 H0':=s00.trans gr.s0;split at e
    ·rename_i ρ3 e3;exact⟨H0',ρ2,_,st2,e3,fun σ4 H4 Hd t4=>⟨H4,ρ3,o,t4.st,s3.trans t4.stp.s0,e,k3.pre t4⟩⟩
    ·rename_i ρ3 e3;exact⟨H0',ρ2,_,st2,e3,fun σ4 H4 Hd t4=>⟨H4,ρ3,o,t4.st,s3.trans t4.stp.s0,e,k3.pre t4⟩⟩
    ·rename_i ρ3 e3;cases e;exact⟨H0',ρ2,_,st2,e3,k3⟩
    ·rename_i v ρ3 e3;cases e;exact⟨H0',ρ2,_,st2,e3,k3⟩
    ·cases e
 ·have e':i=ys.length:=by lia
  subst e';rw[List.drop_length]at e;cases e;exact .inl ⟨js _ (NC _),k σ H0 H (.refl st)⟩
theorem Dl{K:eg}(hq:Rd H0 a (.lst xs))(rs:aR H0 xs ds):JW (Itl K a) H0 ds:=by intro H0' H s0 s1;have q:SqL K H a xs:=.inl (aF.rd s1 (aF.rd s0 hq));refine⟨fun i hi=>⟨xs,q,by rw[rs.length];exact hi⟩,fun i d e=>?_⟩;obtain⟨v,hv,rv⟩:=rs.get e;refine⟨⟨xs,v,q,hv⟩,fun x H' y=>?_⟩;obtain⟨e1,y⟩:=y;subst e1;have z:=y xs q;rw[hv]at z;cases z;exact⟨H0',aX.refl s1,rv.mono s0⟩
theorem Hg{K:eg}(hq:H0 a=some (.tup xs))(rs:aR H0 xs ds):JW (Itt K a) H0 ds:=by intro H0' H s0 s1;have q:SqT K H a xs:=.inl (.inl (s1 _ _ (s0 _ _ hq)));refine⟨fun i hi=>⟨xs,q,by rw[rs.length];exact hi⟩,fun i d e=>?_⟩;obtain⟨v,hv,rv⟩:=rs.get e;refine⟨⟨xs,v,q,hv⟩,fun x H' y=>?_⟩;obtain⟨e1,y⟩:=y;subst e1;have z:=y xs q;rw[hv]at z;cases z;exact⟨H0',aX.refl s1,rv.mono s0⟩
theorem s_{lo:Int}:JW (Itr lo n) H0 (Dm.ups lo n):=by
 intro H0' H s0 s1;have el:(Dm.ups lo n).length=n:=by simp[Dm.ups]
 refine⟨fun i hi=>by rw[el]at hi;exact hi,fun i d e=>?_⟩;have hi:i<n:=by have:=(Ny.mp e).1;rw[el]at this;exact this
 have hd:d=.int (lo+i):=by unfold Dm.ups at e;rw[NY,Pe hi]at e;exact(Option.some.inj e).symm
 refine⟨hi,fun x H' y=>?_⟩;obtain⟨rfl,rfl⟩:=y;subst hd;exact⟨H0',aX.refl s1,.int _⟩
variable{R:It->Hp->Prop}
theorem MA{K:eg}(h:tDI (Dm.iL f) σ H R):sG K (tD f) σ H R:=by
 obtain⟨H0,ρ,ys,ρ',st,e,k⟩:=h;unfold Dm.iL at e;split at e
 ·cases e
 rename_i x ρ1 e1;split at e
 ·rename_i ds ρ2 e2;cases e;refine⟨H0,ρ,_,ρ1,st,e1,fun v H0' H' t r=>?_⟩;obtain⟨H1,t1,b1,r1,_,_⟩:=take1 t (aF.refl _) r e2;cases r1 with
  |lst q rs=>exact⟨_,rfl,⟨_,.inl (aF.rd t1.st.same q)⟩,k _ H1 H' t1 (Dl q rs)⟩
 ·cases e
theorem MB{K:eg}(h:tDI (Dm.iT f) σ H R):zN K (tD f) σ H R:=by
 obtain⟨H0,ρ,ys,ρ',st,e,k⟩:=h;unfold Dm.iT at e;split at e
 ·cases e
 rename_i x ρ1 e1;split at e
 ·rename_i ds ρ2 e2;cases e;refine⟨H0,ρ,_,ρ1,st,e1,fun v H0' H' t r=>?_⟩;obtain⟨H1,t1,b1,r1,_,_⟩:=take1 t (aF.refl _) r e2;cases r1 with
  |tup q rs=>exact⟨_,rfl,⟨_,.inl (.inl (t1.st.same _ _ q))⟩,k _ H1 H' t1 (Hg q rs)⟩
 ·cases e
theorem J0(h:tDI (Dm.iR1 f) σ H R):Fd (tDA [f]) σ H R:=by
 obtain⟨H0,ρ,ys,ρ',st,e,k⟩:=h;unfold Dm.iR1 at e;split at e
 ·rename_i j ρ1 e1;split at e
  ·rename_i hb;cases e;refine⟨H0,ρ,[.val (.int j)],_,st,by unfold Dm.eAs;rw[e1];rfl,fun vs H0' H' t r=>?_⟩;cases r with
   |cons r rr=>cases rr;cases Rep.isInt r;have h1:=hb.1;have h2:=hb.2;unfold Dm.BIG at h1 h2;exact⟨j,rfl,by lia,by lia,k _ H0' H' t s_⟩
  ·cases e
 ·cases e
theorem J2{f g:FE}(h:tDI (Dm.iR2 f g) σ H R):Fe (tDA [f,g]) σ H R:=by
 obtain⟨H0,ρ,ys,ρ',st,e,k⟩:=h;unfold Dm.iR2 at e;split at e
 ·rename_i i ρ1 e1;split at e
  ·rename_i j ρ2 e2;split at e
   ·rename_i hb;cases e;refine⟨H0,ρ,[.val (.int i),.val (.int j)],_,st,by unfold Dm.eAs;rw[e1];dsimp only;unfold Dm.eAs;rw[e2];rfl,fun vs H0' H' t r=>?_⟩;cases r with
    |cons r rr=>
     cases rr with
     |cons r' rr=>cases rr;cases Rep.isInt r;cases Rep.isInt r';obtain⟨h1,h2,h3,h4⟩:=hb;unfold Dm.BIG at h1 h2 h3 h4;exact⟨i,j,rfl,⟨by lia,by lia,by lia,by lia⟩,k _ H0' H' t s_⟩
   ·cases e
  ·cases e
 ·cases e
def tLC(wi:TI)(own:Nat)(g:TG)(tt:TT)(te:TE):TE:=fun σ H Q=>wi σ H fun J H1=>∀D,H1 D=none->∃W:Nat->Nat->St->Hp->Prop,
 (∃m,W 0 m (σ++Dk own none) (upd H1 D (.lst [])))/\∀i m σ' H',W i m σ' H' ->
  (J.stop i H'∧Q (.ref D) H')∨(J.go i H'∧∀ x H2,J.yld i H' x H2→g x σ' H2 fun σ2 H3=>tt σ2 H3 fun b H4=>if b=true
   then te σ2 H4 fun y H5=>∃En,H5 D=some (.lst En)/\En.length<sizeLine/\∃m',m'<m/\W (i+1) m' σ2 (upd H5 D (.lst (En++[y])))
   else ∃m',m'<m/\W (i+1) m' σ2 H4)
theorem aK.aside{H0 H:Hp}{σ:St}(st:aK H0 H σ ρ)(n0:H0 a=none)(no:¬aE σ ρ a):aK H0 (upd H a o) σ ρ where
 same:=fun b u z=>by rw[ao (aS z n0)];exact st.same _ _ z
 len:=st.len
 sh:=st.sh
 ow:=fun j d h=>by obtain⟨b,q,n,w⟩:=st.ow j d h;have nb:b≠a:=fun y=>no ⟨j,d,h,y▸q⟩;exact⟨b,q,n,w.mono (aF.refl _) (ao nb)⟩
 dis:=st.dis
theorem aK.iE{H0 H:Hp}{σ:St}(st:aK H0 H σ ρ)(h:H a=none):¬aE σ ρ a:=fun⟨i,d,h1,h2⟩=>by obtain⟨b,q,n,w⟩:=st.ow i d h1;rw[h2]at q;cases q;obtain⟨o,z⟩:=w.some;rw[h]at z;cases z
theorem kL{α:Type}{l:List α}{r:List α}{x:α}(h:(l++r)[i]?=some x)(n:x∉r):i<l.length/\l[i]?=some x:=by
 by_cases hi:i<l.length
 ·rw[Nz hi]at h;exact⟨hi,h⟩
 ·rw[NQ (P0.mp hi)]at h;exact absurd (PX h) n
theorem Am:Dm.Cell.sh d∉Dk k Dm.Cell.un:=fun h=>by have:=List.eq_of_mem_replicate h;cases this
theorem kM:Dm.Cell.ow d∉Dk k Dm.Cell.un:=fun h=>by have:=List.eq_of_mem_replicate h;cases this
theorem aK.ext{H0 H:Hp}{σ:St}(st:aK H0 H σ ρ)(k:Nat):aK H0 H (σ++Dk k none) (ρ++Dk k .un) where
 same:=st.same
 len:=by simp[st.len]
 sh:=fun i d h=>by obtain⟨hi,h⟩:=kL h Am;obtain⟨v,q,r⟩:=st.sh i d h;exact⟨v,by rw[Nz (by rw[st.len];exact hi)];exact q,r⟩
 ow:=fun i d h=>by obtain⟨hi,h⟩:=kL h kM;obtain⟨v,q,r⟩:=st.ow i d h;exact⟨v,by rw[Nz (by rw[st.len];exact hi)];exact q,r⟩
 dis:=fun i j d e a h1 h2 h3 h4=>by obtain⟨hi,h1⟩:=kL h1 kM;obtain⟨hj,h2⟩:=kL h2 kM;rw[Nz (by rw[st.len];exact hi)]at h3;rw[Nz (by rw[st.len];exact hj)]at h4;exact st.dis i j d e a h1 h2 h3 h4
theorem qq{H0 H:Hp}{σ:St}(st:aK H0 H σ ρ)(h:aE (σ++Dk k none) (ρ++Dk k .un) a):aE σ ρ a:=by obtain⟨i,d,h1,h2⟩:=h;obtain⟨hi,h1⟩:=kL h1 kM;rw[Nz (by rw[st.len];exact hi)]at h2;exact⟨i,d,h1,h2⟩
theorem Stp.aside{O:Addr->Prop}{H0 H H0' H':Hp}{D:Addr}(t:Stp O H0 H H0' H')(hD:H D=none):Stp O H0 H H0' (upd H' D o):=
 ⟨t.s0,fun a u e n=>by rw[ao (aS e hD)];exact t.s1 a u e n,t.s2,fun a u e=>by rw[ao (aS e hD)];exact t.s3 a u e⟩
theorem ESt.gY{σ:St}{ρ ρ':Dm.Env}{H0 H H0' H':Hp}(t:ESt σ ρ H0 H ρ' H0' H'){D:Addr}(h:H D=some o)(n0:H0 D=none)(no:¬aE σ ρ D):H' D=some o/\H0' D=none/\¬aE σ ρ' D:=by
 refine⟨t.stp.s1 D o h no,?_,fun z=>no (t.own D z)⟩;cases q:H0' D with
 |none=>rfl
 |some u=>
  rcases t.stp.s2 D u q with z | z | z
  ·rw[h]at z;cases z
  ·rw[n0]at z;cases z
  ·exact absurd z no
def JWa(J:It)(H00:Hp)(pa:Option (Addr×HO))(ys:List Dat):Prop:=∀H0 H,aF H00 H0->aF H0 H->(∀q,pa=some q->H q.1=some q.2)->(∀i,ys.length<=i->J.stop i H) /\
 ∀(i:Nat) (d:Dat),ys[i]?=some d->J.go i H/\∀x H',J.yld i H x H'->∃H0',aX H0 H H0' H'/\Rep H0' x d
theorem tu{σ:St}{own:Nat}{t:FT}{el:FE}{Q:VK}{H00 Hb:Hp}{ρ1 ρ2:Dm.Env}{ds ys:List Dat}{J:It}{pa:Option (Addr×HO)}(hb:BD is g bd)(hl:∀i∈is,σ.length<=i)
  (st1:aK H00 Hb σ ρ1) (hp:∀q,pa=some q->Hb q.1=some q.2/\H00 q.1=none/\¬aE σ ρ1 q.1) (jw:JWa J H00 pa ds) (hsz:ds.length<=Dm.SZ) (e2:Dm.fS bd t el ds (ρ1++Dk own .un) []=some (ys,ρ2))
  (k:∀v H0' H',ESt σ ρ1 H00 Hb (ρ2.take ρ1.length) H0' H'->iC Hb H0' H' σ (ρ2.take ρ1.length) v (.new (.lst ys))->(∀q,pa=some q->H' q.1=some q.2/\H0' q.1=none)->Q v H') (D:Addr) (hD:Hb D=none) :
  ∃W:Nat->Nat->St->Hp->Prop,(∃m,W 0 m (σ++Dk own none) (upd Hb D (.lst [])))/\∀i m σ' H',W i m σ' H' ->
  (J.stop i H'∧Q (.ref D) H')∨(J.go i H'∧∀ x H2,J.yld i H' x H2→g x σ' H2 fun σ2 H3=>tDT t σ2 H3 fun b H4=>if b=true
   then tD el σ2 H4 fun y H5=>∃En,H5 D=some (.lst En)/\En.length<sizeLine/\∃m',m'<m/\W (i+1) m' σ2 (upd H5 D (.lst (En++[y])))
   else ∃m',m'<m/\W (i+1) m' σ2 H4):=by
 have hpD:∀q,pa=some q->q.1≠D:=fun q e z=>by have:=(hp q e).1;rw[z,hD]at this;cases this
 have noD:¬aE σ ρ1 D:=st1.iE hD;refine ⟨fun i m σ' H'=>∃ (H0c:Hp) (ρc:Dm.Env) (yH:List Dat) (vz:List V),aK H0c H' σ' ρc∧aF H00 H0c∧m=ds.length-i∧i≤ds.length∧Dm.fS bd t el (ds.drop i) ρc yH=some (ys,ρ2) ∧
  H' D=some (.lst vz)/\aR H0c vz yH/\H0c D=none/\yH.length<=i/\Stp (aE σ ρ1) H00 Hb H0c H'/\(∀j,j<σ.length->σ'[j]?=σ[j]?)/\(∀a,aE σ' ρc a->aE σ ρ1 a)/\(∀j,Def ρ1 j->Def ρc j)/\(∀q,pa=some q->H' q.1=some q.2/\H0c q.1=none/\¬aE σ' ρc q.1),
  ⟨ds.length,H00,ρ1++Dk own .un,[],[],(st1.aside (st1.same.free hD) noD).ext own,aF.refl _,by simp,Od _,by simpa using e2,au,.nil,st1.same.free hD,Od _,(Stp.refl _ _ _).aside hD,
   fun j hj=>Nz hj,fun a z=>qq st1 z,fun j z=>trivial,fun q e=>⟨by rw[ao (hpD q e)];exact(hp q e).1,(hp q e).2.1,fun z=>(hp q e).2.2 (qq st1 z)⟩⟩,?_⟩
 rintro i m σ' H' ⟨H0c,ρc,yH,vz,sc,s00,rfl,hi,ec,hDl,ra,n0,hal,sp,hσ,ho,hdf,hpc⟩;have nOc:¬aE σ' ρc D:=fun z=>noD (ho D z);obtain⟨js,jg⟩:=jw H0c H' s00 sc.same fun q e=>(hpc q e).1;by_cases M6:i<ds.length
 ·have hd:ds[i]?=some ds[i]:=by simp[M6]
  obtain⟨g1,g2⟩:=jg i ds[i] hd;rw[List.drop_eq_getElem_cons M6]at ec;unfold Dm.fS at ec;refine .inr ⟨g1,fun y H2 yy=>?_⟩;obtain⟨H0',gr,rx⟩:=g2 y H2 yy;split at ec
  ·cases ec
  rename_i ρ3 e3;have t2:=ESt.grow sc gr;obtain⟨hD2,n02,no2⟩:=t2.gY hDl n0 nOc;have hp2:=fun q e=>t2.gY (hpc q e).1 (hpc q e).2.1 (hpc q e).2.2;refine hb H0' H2 σ' ρc ρ3 y ds[i] _ t2.st rx e3 fun σ3 st3 o3 k3 d3 _=>?_;have no3:¬aE σ3 ρ3 D:=fun z=>no2 (o3 D z);have po3:∀q,pa=some q->¬aE σ3 ρ3 q.1:=fun q e z=>(hp2 q e).2.2 (o3 q.1 z);have hσ3:∀j,j<σ.length->σ3[j]?=σ[j]?:=fun j hj=>(k3 j fun z=>P0.mpr (hl j z) hj).trans (hσ j hj);have ho3:∀a,aE σ3 ρ3 a->aE σ ρ1 a:=fun a z=>ho a (o3 a z);have J3:∀j,Def ρ1 j->Def ρ3 j:=fun j z=>d3 j (hdf j z);have sp3:Stp (aE σ ρ1) H00 Hb H0' H2:=sp.trans t2.stp fun a z=>.inl (ho a z);have ra3:=ra.mono gr.s0;have s3:aF H00 H0':=s00.trans gr.s0;split at ec
  ·cases ec
  ·rename_i ρ4 e4;refine⟨H0',ρ3,false,ρ4,st3,e4,fun jF H'' t4=>?_⟩;dsimp only;rw[if_neg N6];obtain⟨hD4,n04,no4⟩:=t4.gY hD2 n02 no3;have hp4:=fun q e=>t4.gY (hp2 q e).1 (hp2 q e).2.1 (po3 q e);exact⟨ds.length-(i+1),by lia,jF,ρ4,yH,vz,t4.st,s3.trans t4.stp.s0,rfl,M6,ec,hD4,ra3.mono t4.stp.s0,n04,Nat.le_succ_of_le hal,sp3.trans t4.stp fun a z=>.inl (ho3 a z),hσ3,fun a z=>ho3 a (t4.own a z),fun j z=>t4.dfn j (J3 j z),hp4⟩
  ·rename_i ρ4 e4;refine⟨H0',ρ3,true,ρ4,st3,e4,fun jF H'' t4=>?_⟩;dsimp only;rw[if_pos rfl];obtain⟨hD4,n04,no4⟩:=t4.gY hD2 n02 no3;have hp4:=fun q e=>t4.gY (hp2 q e).1 (hp2 q e).2.1 (po3 q e);split at ec
   ·cases ec
   rename_i x5 ρ5 e5;split at ec
   ·cases ec
   rename_i y6 ρ6 e6;refine⟨jF,ρ4,x5,ρ5,t4.st,e5,fun v H5 Hc t5 r5=>?_⟩;obtain⟨H6,t6,b6,r6,_,_⟩:=take1 t5 (aF.refl _) r5 e6;obtain⟨hD6,n06,no6⟩:=t6.gY hD4 n04 no4;have hp6:=fun q e=>t6.gY (hp4 q e).1 (hp4 q e).2.1 (hp4 q e).2.2;refine⟨vz,hD6,?_,ds.length-(i+1),by lia,H6,ρ6,yH++[y6],vz++[v],t6.st.aside n06 no6,(s3.trans t4.stp.s0).trans t6.stp.s0,rfl,M6,ec,au,?_,n06,?_,?_,hσ3,fun a z=>ho3 a (t4.own a (t6.own a z)),fun j z=>t6.dfn j (t4.dfn j (J3 j z)),fun q e=>⟨by rw[ao (hpD q e)];exact(hp6 q e).1,(hp6 q e).2.1,(hp6 q e).2.2⟩⟩
   ·rw[ra.length];unfold Dm.SZ at hsz;exact Qg (Oe hal (Oe (Ph M6) hsz)) (by decide)
   ·exact((ra3.mono t4.stp.s0).mono t6.stp.s0).append (.cons r6 .nil)
   ·rw[NL,Oc];lia
   ·exact((sp3.trans t4.stp fun a z=>.inl (ho3 a z)).trans t6.stp fun a z=>.inl (ho3 a (t4.own a z))).aside hD
 ·have e':i=ds.length:=by lia
  subst e';rw[List.drop_length]at ec;cases ec;refine .inl ⟨js _ (NC _),k _ H0c H' ?_ ?_ fun q e=>⟨(hpc q e).1,(hpc q e).2.1⟩⟩
  ·have FH:σ.length<=ρ2.length:=by
    rw[<- sc.len];refine P0.mp fun z=>?_;have q:=hσ σ'.length z;rw[OG (NC _),ND z]at q;cases q
   have tk:∀{j:Nat} {c:Dm.Cell},(ρ2.take ρ1.length)[j]?=some c->j<σ.length/\ρ2[j]?=some c:=fun {j c} h=>by
    have hj:j<ρ1.length:=by
     have:=(Ny.mp h).1;rw[PK]at this
     lia
    rw[Po hj]at h;exact⟨by rw[st1.len];exact hj,h⟩
   have own':∀a,aE σ (ρ2.take ρ1.length) a->aE σ' ρ2 a:=fun a ⟨j,d,h1,h2⟩=>by obtain⟨hj,h1⟩:=tk h1;exact⟨j,d,h1,(hσ j hj).trans h2⟩
   refine⟨⟨sc.same,?_,fun j d h=>?_,fun j d h=>?_,fun j j' d d' a h1 h2 h3 h4=>?_⟩,sp,fun a z=>ho a (own' a z),fun j z=>?_⟩
   ·rw[PK,<- st1.len];lia
   ·obtain⟨hj,h⟩:=tk h;obtain⟨v,q,r⟩:=sc.sh j d h;exact⟨v,(hσ j hj).symm.trans q,r⟩
   ·obtain⟨hj,h⟩:=tk h;obtain⟨v,q,r⟩:=sc.ow j d h;exact⟨v,(hσ j hj).symm.trans q,r⟩
   ·obtain⟨hj,h1⟩:=tk h1;obtain⟨hj',h2⟩:=tk h2;exact sc.dis j j' d d' a h1 h2 ((hσ j hj).trans h3) ((hσ j' hj').trans h4)
   ·trivial
  ·refine⟨D,rfl,hD,fun⟨j,d,h1,h2⟩=>?_,n0,vz,hDl,ra⟩;have hj:j<ρ1.length:=by
    have:=(Ny.mp h1).1;rw[PK]at this
    lia
   rw[Po hj]at h1;exact nOc ⟨j,d,h1,(hσ j (by rw[st1.len];exact hj)).trans h2⟩
theorem An{own:Nat}{el:FE}(hb:BD is g bd)(hl:∀i∈is,σ.length<=i)(h:tD (Dm.fT fi own bd t el) σ H Q) :
  tLC (tDI fi) own g (tDT t) (tD el) σ H Q:=by
 obtain⟨H0,ρ,x,ρ',st,e,k⟩:=h;unfold Dm.fT at e;split at e
 ·cases e
 rename_i ds ρ1 e1;split at e
 case isFalse=>cases e
 rename_i hsz;split at e
 ·cases e
 rename_i ys ρ2 e2;cases e;refine⟨H0,ρ,ds,ρ1,st,e1,fun J H00 Hb t1 jw D hD=>tu (pa:=none) hb hl t1.st (fun q e=>by cases e) (fun H0 H s0 s1 _=>jw H0 H s0 s1) hsz e2 (fun v H0' H' t2 r2 _=>k v H0' H' (t1.trans t2) (r2.early fun a n=>t1.stp.gone n)) D hD⟩
theorem Ao{n m:Nat}{H:Hp}(h:spD (Dm.fn n m body) vs H Q E):vs.length=n:=by
 obtain⟨H0,ds,z,s,rs,e,k⟩:=h;unfold Dm.fn at e;split at e
 ·rename_i hl;rw[rs.length];exact hl
 ·cases e
theorem MC{N:List Str}{n m:Nat}(hm:N.length=n+m)(h:spD (Dm.fn n m body) vs H Q E) :
  tDS body { nx:=fun _ H'=>Q .non H',rt:=Q } (start N vs) H:=by
 have hvn:=Ao h;obtain⟨H0,ds,z,s,rs,e,k⟩:=h;have hl:=rs.length;have no:∀a,¬aE (start N vs) (ds.map Dm.Cell.sh++Dk m .un) a:=fun a ⟨i,d,h1,_⟩=>by
  by_cases hi:i<ds.length
  ·rw[Nz (by simpa using hi),NY]at h1;cases q:ds[i]? with
   |none=>rw[q]at h1;cases h1
   |some y=>rw[q]at h1;cases h1
  ·rw[NQ (by simpa using hi),N5]at h1;split at h1<;>cases h1
 have st:aK H0 H (start N vs) (ds.map Dm.Cell.sh++Dk m .un):=by
  refine⟨s,?_,fun i d h=>?_,fun i d h=>?_,fun i j d e a h1 h2 _ _=>?_⟩
  ·unfold L2.start;simp only[NL,NI,OT]
   lia
  ·have hi:i<ds.length:=by
    by_cases hi:i<ds.length
    ·exact hi
    ·rw[NQ (by simpa using hi),N5]at h;split at h<;>cases h
   rw[Nz (by simpa using hi),NY]at h;cases q:ds[i]? with
   |none=>rw[q]at h;cases h
   |some y=>rw[q]at h;cases h;obtain⟨v,hv,r⟩:=rs.get q;refine⟨v,?_,r⟩;unfold L2.start;rw[Nz (by simpa [hl] using hi),NY,hv];rfl
  ·by_cases hi:i<ds.length
   ·rw[Nz (by simpa using hi),NY]at h;cases q:ds[i]? with
    |none=>rw[q]at h;cases h
    |some y=>rw[q]at h;cases h
   ·rw[NQ (by simpa using hi),N5]at h;split at h<;>cases h
  ·by_cases hi:i<ds.length
   ·rw[Nz (by simpa using hi),NY]at h1;cases q:ds[i]? with
    |none=>rw[q]at h1;cases h1
    |some y=>rw[q]at h1;cases h1
   ·rw[NQ (by simpa using hi),N5]at h1;split at h1<;>cases h1
 have gr:∀{H0' H'},Stp (aE (start N vs) (ds.map Dm.Cell.sh++Dk m .un)) H0 H H0' H'->aF H0' H'->aX H0 H H0' H':=fun {H0' H'} t ss=>⟨t.s0,fun a o e=>t.s1 a o e (no a),fun a o e=>(t.s2 a o e).imp id fun q=>q.elim id fun z=>absurd z (no a),ss⟩
 unfold Dm.fn at e;rw[if_pos (by rw[<- hl];exact hvn)]at e;split at e
 ·rename_i r ρ' e1;cases e;refine⟨H0,_,_,st,e1,fun σ' v H0' H' t r _=>k v H0' H' (gr t.stp t.st.same) ?_⟩;cases z with
  |val d=>exact r
  |new d=>obtain⟨a,e,n,n0,w⟩:=r;exact⟨a,e,n.elim id fun z=>absurd z (no a),n0,w⟩
 ·rename_i ρ' e1;cases e;exact⟨H0,_,_,st,e1,fun σ' H0' H' t=>k _ H0' H' (gr t.stp t.st.same) .non⟩
 ·cases e
end
end
open PySem PySem.Spec PyProof.Rows L2
noncomputable def b5(X:Cx)(nm:List Str)(scope:Scope)(own:List Str)(cl:List (Str×Addr))(C:Addr)(s:Shared)(H:Hp)(fp:List Addr):Cx where
 prog:=X.prog
 w:=X.w
 K:=X.K
 mg:=X.mg
 base:=X.base
 A:=X.A
 N:=nm++own
 s₀:=s
 H₀:=H
 env:=compEnvC scope cl C X.env
 outer:=X.stack
 stack:=X.stack
 ex:=fp
 fn:=fun _=>false
 calm:=X.calm
 pn:=[]
 xe:=fun _ _=>False
def PTs(X:Cx)(M5:List Expr)(t:TT):Prop:=
 ∀(yZ:List (Addr×Obj)) (s:Shared) (σ:L2.St) (H:Hp) (Q:Bool->Hp->Prop),Inv X yZ σ H s->t σ H Q ->
  wpAny (model X.prog X.w) X.A (forIn M5 true fun c r=>if r=true then do let ok <- isTrue c X.env (eval c X.env);pure (OJ ok) else pure (OJ r)) (TP X yZ σ Q) X.xe s
def MD:TT:=fun _ H Q=>Q true H
theorem Dq{X:Cx}:PTs X [] MD:=fun yZ s σ H Q I h=>wpAny_tests_nil ⟨H,I,h⟩
theorem Dr{X:Cx}{c:Expr}{t:TT}(h:PT X c t):PTs X [c] t:=fun yZ s σ H Q I hq=>wpAny_tests_one (h yZ s σ H Q I hq)
theorem f_(env:Env):∀(names:List (Str×NameKind)) (cs:List (Str×Addr)),(∀y∈names,y.2=.free->∃c,env.cells.lookup y.1=some c) ->
  ∃cl,(forIn names cs fun(x:Str×NameKind) (r:List (Str×Addr))=>(if (x.2 == NameKind.free)=true then do let c <- cellOf env x.1;pure (OJ ((x.1,c)::r)) else pure (OJ r):Sem (ForInStep (List (Str×Addr)))))=pure cl /\
   (∀x c,cl.lookup x=some c->env.cells.lookup x=some c\/cs.lookup x=some c)/\(∀y∈names,y.2=.free->∃c,cl.lookup y.1=some c)/\(∀x c,cs.lookup x=some c->∃c',cl.lookup x=some c')
 |[],cs,_=>⟨cs,rfl,fun _ _ h=>.inr h,fun _ h=>(nomatch h),fun _ c h=>⟨c,h⟩⟩
 |(n,k)::r,cs,h=>by
  have hr:∀y∈r,y.2=.free->∃c,env.cells.lookup y.1=some c:=fun y hy=>h y (NB _ hy);by_cases hk:k=.free
  ·subst hk;obtain⟨c,hc⟩:=h (n,.free) NJ rfl;obtain⟨cl,e,h1,h2,h3⟩:=f_ env r ((n,c)::cs) hr;refine⟨cl,?_,fun x c' q=>?_,fun y hy hf=>?_,fun x c' q=>?_⟩
   ·rw[QF];have e1:cellOf env n=pure c:=by unfold cellOf;rw[hc]
    simp only[beq_self_eq_true,if_true,e1,pure_bind];exact e
   ·rcases h1 x c' q with z | z
    ·exact .inl z
    ·rw[Ob]at z;cases hx:x == n with
     |true=>
      rw[hx]at z;have:x=n:=by simpa using hx
      subst this;injection z with z
      subst z;exact .inl hc
     |false=>rw[hx]at z;exact .inr z
   ·rcases Dp.mp hy with rfl | hy
    ·exact h3 n c (by rw[Ob,beq_self_eq_true])
    ·exact h2 y hy hf
   ·by_cases hx:x=n
    ·subst hx;exact h3 x c (by rw[Ob,beq_self_eq_true])
    ·have hx':(x == n)=false:=by simpa using hx
     exact h3 x c' (by rw[Ob,hx'];exact q)
  ·have hb:(k == NameKind.free)=false:=by simpa using hk
   obtain⟨cl,e,h1,h2,h3⟩:=f_ env r cs hr;refine⟨cl,?_,h1,fun y hy hf=>?_,h3⟩
   ·rw[QF];simp only[hb,O4,if_false,pure_bind];exact e
   ·rcases Dp.mp hy with rfl | hy
    ·exact absurd hf hk
    ·exact h2 y hy hf
theorem nQ{env:Env}{scope:Scope}(h:∀y∈scope.names,y.2=.free->∃c,env.cells.lookup y.1=some c) :
  ∃cl,closureFor scope env=pure cl/\(∀x c,cl.lookup x=some c->env.cells.lookup x=some c)/\∀y∈scope.names,y.2=.free->∃c,cl.lookup y.1=some c:=by
 obtain⟨cl,e,h1,h2,_⟩:=f_ env scope.names [] h;refine⟨cl,?_,fun x c q=>(h1 x c q).elim id fun z=>by simp at z,h2⟩;unfold closureFor;have e':(forIn scope.names ([]:List (Str×Addr)) fun(x:Str×NameKind) (r:List (Str×Addr))=>(if (x.2 == NameKind.free)=true then do let c <- cellOf env x.1;pure (OJ ((x.1,c)::r)) else pure (OJ r):Sem (ForInStep (List (Str×Addr)))))=pure cl:=e
 first
  |(rw[show (forIn scope.names ([]:List (Str×Addr)) _:Sem (List (Str×Addr)))=pure cl from e'];rfl)
  |(simp only[e'];rfl)
theorem rA{prog:Program}{w:World}{A:Around}{R:Result->Shared->Prop}{s:Shared}{M7 target iter:Expr}{M5:List Expr}{scope:Scope}{pos:Pos}{it En:Value}{env:Env}(I:Nat->Shared->Prop)
  (turn:∀ n s,I n s→wpAny (model prog w) A (pyNext it) (fun r s₁=>match r with
   |none=>R (.ok .next) s₁
   | some v=>wpAny (model prog w) A (letOwnedTupleGo target it v) (fun _ s₁'=>wpAny (model prog w) A (assign target env v) (fun _ s₂=>
     wpAny (model prog w) A (forIn M5 true fun c r=>if r=true then do let ok ← isTrue c env (eval c env);pure (OJ ok) else pure (OJ r)) (fun ok s₃=>
      if ok=true then wpAny (model prog w) A (eval M7 env) (fun x s₄=>wpAny (model prog w) A (call (.builtin "list.append") [En,x]) (fun _ s₅=>∃m,m<n/\I m s₅) (fun _ _=>False) s₄) (fun _ _=>False) s₃
      else ∃m,m<n/\I m s₃) (fun _ _=>False) s₂) (fun _ _=>False) s₁') (fun _ _=>False) s₁) (fun _ _=>False) s)
  (n:Nat) (h:I n s) :
  codeAny (model prog w) A (.compLoop (.ListComp M7 [⟨target,iter,M5,0⟩] scope pos) 0 it En env) R s:=by
 have no:∀{P:Value->Shared->Prop} (x:Value) (s':Shared),False->P x s':=fun _ _ f=>f.elim;refine codeAny_loop rfl I (fun n s hI=>?_) n h;show wpAny _ A ((compTurn (.ListComp M7 [⟨target,iter,M5,0⟩] scope pos) 0 it En env).onRaise (fun x=>do noteFrame x env;theTreesLotGoes x)) _ _ s;refine wpAny_noted ?_;rw[compTurn_list];refine wpAny_bind (wpAny_standAt (wpAny_bind (wpAny_mono (turn n s hI) (fun r s₁ h₁=>?_) no)));cases r with
 |none=>exact wpAny_pure h₁
 |some v=>
  refine wpAny_bind (wpAny_mono h₁ (fun _ s₁' h₁'=>?_) no);refine wpAny_bind (wpAny_mono h₁' (fun _ s₂ h₂=>wpAny_bind (wpAny_mono h₂ (fun ok s₃ h₃=>?_) no)) no);cases ok with
  |false=>exact wpAny_pure ⟨rfl,h₃⟩
  |true=>exact wpAny_bind (wpAny_bind (wpAny_mono h₃ (fun x s₄ h₄=>wpAny_bind (wpAny_mono h₄ (fun _ s₅ h₅=>wpAny_pure (wpAny_pure ⟨rfl,h₅⟩)) no)) no))
theorem eZ(env:Env):∀(names:List (Str×NameKind)) (x:Str) (k:NameKind),
  (names.map fun(n,k)=>if (k == NameKind.free&&env.scope.kind == .function&&env.kindOf n == some .cell) then (n,QN) else (n,k)).lookup x=some k ->
  ∃k0,names.lookup x=some k0/\(k=k0\/(k0=.free/\k=.cell))
 |[],x,k,h=>by simp at h
 |(n,k1)::r,x,k,h=>by
  have h:List.lookup x ((if (k1 == NameKind.free&&env.scope.kind == .function&&env.kindOf n == some .cell)=true then (n,QN) else (n,k1))::r.map fun(n,k)=>if (k == NameKind.free&&env.scope.kind == .function&&env.kindOf n == some .cell) then (n,QN) else (n,k))=some k:=h;cases hx:x == n with
  |true=>
   by_cases hc:(k1 == NameKind.free&&env.scope.kind == .function&&env.kindOf n == some .cell)=true
   ·rw[if_pos hc,Ob,hx]at h;injection h with h
    have hk:k1=.free:=by simp only[NF,beq_iff_eq]at hc;exact hc.1.1
    exact⟨k1,by rw[Ob,hx],.inr ⟨hk,h.symm⟩⟩
   ·rw[if_neg hc,Ob,hx]at h;injection h with h
    exact⟨k1,by rw[Ob,hx],.inl h.symm⟩
  |false=>
   by_cases hc:(k1 == NameKind.free&&env.scope.kind == .function&&env.kindOf n == some .cell)=true
   ·rw[if_pos hc,Ob,hx]at h;obtain⟨k0,e,z⟩:=eZ env r x k h;exact⟨k0,by rw[Ob,hx];exact e,z⟩
   ·rw[if_neg hc,Ob,hx]at h;obtain⟨k0,e,z⟩:=eZ env r x k h;exact⟨k0,by rw[Ob,hx];exact e,z⟩
structure gE(X:Cx)(nm:List Str)(scope:Scope):Prop where
 kind:scope.kind=.function
 cell:∀y∈scope.names,y.2≠.cell
 names:∀y∈scope.names,y.2=.local->scope.names.lookup y.1=some .local
 free:∀y∈scope.names,y.2=.free->X.env.kindOf y.1=some .cell\/X.env.kindOf y.1=some .free
 apart:∀x∈nm,scope.names.lookup x≠some .local
 len:nm.length=X.N.length
 mask:∀(i:Nat) (x:Str),nm[i]?=some x->X.N[i]?=some x\/scope.names.lookup x=none
section
variable{X:Cx}{nm:List Str}{M7 tg iter:Expr}{M5:List Expr}{scope:Scope}{pos:Pos}{own:List Str}{wi:TI}{g:TG}{tt:TT}{te:TE}
theorem qt{yZ:List (Addr×Obj)}{s2:Shared}{σ:L2.St}{H2:Hp}{cl:List (Str×Addr)}{it:Addr}{fp:List Addr}{tn:Nat->Heap->Prop}{J:It}{Q:VK}{E:Value->Shared->Prop}{RR:Value->Addr->Result->Shared->Prop}
  (hc:X.calm=true) (S:gE X nm scope) (nR:∀x c,cl.lookup x=some c->X.env.cells.lookup x=some c) (yI:∀y∈scope.names,y.2=.free->∃c,cl.lookup y.1=some c)
  (hg:∀cl C s H fp,PG (b5 X nm scope own cl C s H fp) tg g) (ht:∀cl C s H fp,PTs (b5 X nm scope own cl C s H fp) M5 tt) (he:∀cl C s H fp,PE (b5 X nm scope own cl C s H fp) M7 te)
  (I2:Inv X yZ σ H2 s2) (T:Turn X.prog X.w X.K tg J fp it tn) (st2:tn 0 s2.heap) (f2:∀b∈fp,pR X yZ H2 b)
  (hR:∀ D,H2 D=none→∃ W:Nat→Nat→L2.St→Hp→Prop,
   (∃m,W 0 m (σ++Dk own.length none) (upd H2 D (.lst [])))/\∀i m σ' H',W i m σ' H' ->
    (J.stop i H'∧Q (.ref D) H')∨(J.go i H'∧∀ x H2,J.yld i H' x H2→g x σ' H2 fun σ2 H3=>tt σ2 H3 fun b H4=>if b=true
     then te σ2 H4 fun y H5=>∃En,H5 D=some (.lst En)/\En.length<sizeLine/\∃m',m'<m/\W (i+1) m' σ2 (upd H5 D (.lst (En++[y])))
     else ∃m',m'<m/\W (i+1) m' σ2 H4))
  (ME:∀D C H6 s6,Inv X yZ σ H6 s6->H6 C=none->C≠X.env.locals->X.s₀.heap.objs.size<=C->(∀x c,X.env.cells.lookup x=some c->c≠C)->(∀p∈X.pn++yZ,p.1≠C)->(∃m,s6.heap.Ns C m)->Q (.ref D) H6->RR (.ref D) C (.ok .next) s6) :
  wpAny (model X.prog X.w) X.A (newList []) (fun En s₃=>wpAny (model X.prog X.w) X.A (newFunctionEnv scope X.env.globals cl [] X.env.qual none .none (some X.env)) (fun cenv s₄=>codeAny (model X.prog X.w) X.A (.compStart (.ListComp M7 [⟨tg,iter,M5,0⟩] scope pos) 0 (.ref it) En { cenv with scope:=relabel scope X.env }) (RR En cenv.locals) s₄) E s₃) E s2:=by
 have no:∀{P:Value->Shared->Prop} (x:Value) (s':Shared),False->P x s':=fun _ _ f=>f.elim;refine wpAny_newObj_type (wpAny_newFunctionEnv S.cell (by intro y hy;simp at hy) (fun h₁ hns₁ hsb₁=>?_) S.kind);dsimp only at hns₁ hsb₁ ⊢;have I3:Inv X yZ σ (upd H2 s2.heap.objs.size (.lst [])) { s2 with heap:=s2.heap.push { cls:=.type "list",dict:=none,data:=.seq ([]:List Value).toArray } }:=I2.GX (t':=s2.toks) (ys:=[]) (its:=[]) .nil (Od _)
 generalize hG2:s2.heap.push { cls:=.type "list",dict:=none,data:=.seq ([]:List Value).toArray }=G2 at hns₁ hsb₁ I3 ⊢
 have hC:G2.objs.size=s2.heap.objs.size+1:=by rw[<- hG2,O7]
 have up2:∀b o,s2.heap.get? b=some o->G2.get? b=some o:=fun b o e=>hG2▸HT _ e;have up3:∀b o,G2.get? b=some o->h₁.get? b=some o:=fun b o e=>hsb₁.extBut b o (NV (Nx e)) (HT _ e);have MF:G2.get? G2.objs.size=none:=Pb (NC _);have fpo:∀b∈fp,∃o,s2.heap.get? b=some o:=fun b hb=>by obtain⟨o,e,_⟩:=T.obj 0 _ st2 b hb;exact⟨o,e⟩
 have fpC:∀b∈fp,b≠G2.objs.size:=fun b hb=>by obtain⟨o,e⟩:=fpo b hb;exact NV (Nx (up2 b o e))
 have H3C:(upd H2 s2.heap.objs.size (.lst [])) G2.objs.size=none:=I3.hok.fresh (NC _);have fpD:∀b∈fp,b≠s2.heap.objs.size:=fun b hb=>by obtain⟨o,e⟩:=fpo b hb;exact NV (Nx e)
 have J4:∀b∈fp,b∉frs X.stack:=fun b hb z=>by
  rcases Dp.mp (I3.nv b z) with y | y
  ·exact(f2 b hb).2.1 y
  ·exact(f2 b hb).2.2.1 y
 have ok':(b5 X nm scope own cl G2.objs.size { s2 with heap:=G2 } (upd H2 s2.heap.objs.size (.lst [])) fp).Ok:=by
  refine ⟨I3.ok.mod,S.kind,I3.ok.glob,I3.ok.blt,NC _,fun x y c e1 e2=>I3.ok.inj x y c (nR x c e1) (nR y c e2),fun x hx=>?_,fun x c z=>(nomatch z),I3.ok.hd,I3.ok.frames,.inl rfl,
   fun b hb=>⟨fpC b hb,fun x c e=>(f2 b hb).2.2.2.2.1 x c (nR x c e)⟩,fun b o e=>I3.bs b o e,Oe I3.ok.bsz I3.sz,fun b o e hb=>?_,fun b hb=>J4 b hb,I3.stack,I3.qV⟩
  ·have hx:(relabel scope X.env).names.lookup x=some .cell\/(relabel scope X.env).names.lookup x=some .free:=hx;have key:∀k,(relabel scope X.env).names.lookup x=some k->k≠.local->k=.cell\/k=.free->∃c,cl.lookup x=some c:=fun k hk _ hkk=>by
    obtain⟨k0,e0,z⟩:=eZ X.env scope.names x k hk;have m0:=PySem.mem_of_lookup e0;have f0:k0=.free:=by
     rcases z with z | z
     ·subst z;rcases hkk with q | q
      ·exact absurd q (S.cell _ m0)
      ·exact q
     ·exact z.1
    exact yI (x,k0) m0 f0
   rcases hx with hx | hx
   ·exact key _ hx (by decide) (.inl rfl)
   ·exact key _ hx (by decide) (.inr rfl)
  ·rcases (f2 b hb).2.2.2.1 with z | z
   ·exact I3.ok.zD b o e z
   ·exact absurd (NO (Nx e) (Oe I3.ok.bsz z)) (Oh _)
 have stat:∀{H':Hp},(∀b∈fp,H' b=none)->∀b∈fp,pR (b5 X nm scope own cl G2.objs.size { s2 with heap:=G2 } (upd H2 s2.heap.objs.size (.lst [])) fp) [] H' b:=fun hn b hb=>⟨hn b hb,fpC b hb,J4 b hb,.inl hb,fun x c e=>(f2 b hb).2.2.2.2.1 x c (nR x c e),fun p hp=>(nomatch (show p∈([]:List (Addr×Obj)) from hp))⟩
 have I4:Inv (b5 X nm scope own cl G2.objs.size { s2 with heap:=G2 } (upd H2 s2.heap.objs.size (.lst [])) fp) [] (σ++Dk own.length none) (upd H2 s2.heap.objs.size (.lst [])) { s2 with heap:=h₁,toks:=s2.toks+([]:List (Str×Value)).length }:=by
  refine⟨ok',rfl,I3.bare,Un.kept up3,⟨_,hns₁,fun i x v e1 e2 e3=>?_⟩,fun x c e=>?_,H3C,fun x c e=>I3.eN x c (nR x c e),fun p hp=>(nomatch (show p∈([]:List (Addr×Obj)) from hp)),I3.hok.kept up3,?_⟩
  ·have e1:(nm++own)[i]?=some x:=e1;have hi:i<σ.length:=by
    by_cases hi:i<σ.length
    ·exact hi
    ·rw[NQ (P0.mp hi),N5]at e2;split at e2<;>cases e2
   rw[Nz hi]at e2;rw[Nz (by rw[S.len,<- I3.len];exact hi)]at e1;have key:∀k,(relabel scope X.env).names.lookup x=some k->k=.local\/k=.cell\/k=.free->scope.names.lookup x=some .free/\(k=.cell\/k=.free):=fun k hk hkk=>by
    obtain⟨k0,e0,z⟩:=eZ X.env scope.names x k hk;have m0:=PySem.mem_of_lookup e0;have n1:k0≠.local:=fun y=>S.apart x (PX e1) (y▸e0);have n2:k0≠.cell:=S.cell _ m0;rcases z with z | z
    ·subst z;rcases hkk with q | q | q
     ·exact absurd q n1
     ·exact absurd q n2
     ·subst q;exact⟨e0,.inr rfl⟩
    ·obtain⟨z1,z2⟩:=z;subst z1;subst z2;exact⟨e0,.inl rfl⟩
   have hk:∃k,(relabel scope X.env).names.lookup x=some k/\(k=.cell\/k=.free)/\scope.names.lookup x=some .free:=by
    rcases (show (relabel scope X.env).names.lookup x=some .local\/(relabel scope X.env).names.lookup x=some .cell\/(relabel scope X.env).names.lookup x=some .free from e3) with q | q | q
    ·obtain⟨a,b⟩:=key _ q (.inl rfl);exact⟨_,q,b,a⟩
    ·obtain⟨a,b⟩:=key _ q (.inr (.inl rfl));exact⟨_,q,b,a⟩
    ·obtain⟨a,b⟩:=key _ q (.inr (.inr rfl));exact⟨_,q,b,a⟩
   obtain⟨k,hk1,hk2,hk3⟩:=hk;have m0:=PySem.mem_of_lookup hk3;obtain⟨c,hcc⟩:=yI (x,.free) m0 rfl;obtain⟨m,hn,hl⟩:=I3.loc;have hout:=S.free (x,.free) m0 rfl;have MG:Vis X.env.scope x:=by
    rcases hout with q | q
    ·exact .inr (.inl q)
    ·exact .inr (.inr q)
   have e1':X.N[i]?=some x:=by
    rcases S.mask i x e1 with z | z
    ·exact z
    ·rw[z]at hk3;cases hk3
   obtain⟨u,ru,lk⟩:=hl i x v e1' e2 MG;refine⟨u,ru,.inr ⟨?_,c,hcc,?_⟩⟩
   ·rcases hk2 with q | q
    ·subst q;exact .inl hk1
    ·subst q;exact .inr hk1
   ·rcases lk with⟨q,_⟩ | ⟨_,c',e',z⟩
    ·rcases hout with y | y
     ·rw[q]at y;cases y
     ·rw[q]at y;cases y
    ·rw[nR x c hcc]at e';cases e';obtain⟨o,ho,hd⟩:=z;exact⟨o,up3 c o ho,hd⟩
  ·obtain⟨v,o,ho,hd⟩:=I3.cell x c (nR x c e);exact⟨v,o,up3 c o ho,hd⟩
  ·show (σ++Dk own.length none).length=(nm++own).length;rw[NL,NL,OT,I3.len,S.len]
 obtain⟨W,⟨m0,w0⟩,turn⟩:=hR s2.heap.objs.size I2.fresh;have st4:tn 0 h₁:=T.keep 0 _ _ st2 fun b hb o e=>up3 b o (up2 b o e);have MH:∀b∈fp,(upd H2 s2.heap.objs.size (.lst [])) b=none:=fun b hb=>by rw[ao (fpD b hb)];exact(f2 b hb).1
 have loop:∀s₃:Shared,s₃={ s2 with heap:=h₁,toks:=s2.toks+([]:List (Str×Value)).length } ->
   codeAny (model X.prog X.w) X.A (.compLoop (.ListComp M7 [⟨tg,iter,M5,0⟩] scope pos) 0 (.ref it) (.ref s2.heap.objs.size) (compEnvC scope cl G2.objs.size X.env))
    (RR (.ref s2.heap.objs.size) G2.objs.size) s₃:=by
  rintro s₃ rfl;refine rA (fun n s'=>∃i σ' H',Inv (b5 X nm scope own cl G2.objs.size { s2 with heap:=G2 } (upd H2 s2.heap.objs.size (.lst [])) fp) [] σ' H' s'/\tn i s'.heap/\(∀b∈fp,H' b=none)/\W i n σ' H') ?_ m0
   ⟨0,_,_,I4,st4,MH,w0⟩
  rintro n s5 ⟨i,σ5,H5,I5,st5,fr5,w5⟩;rcases turn i n σ5 H5 w5 with⟨stop,q⟩ | ⟨go,step⟩
  ·refine wpAny_mono (T.done (b5 X nm scope own cl G2.objs.size { s2 with heap:=G2 } (upd H2 s2.heap.objs.size (.lst [])) fp) rfl rfl rfl hc i [] s5 σ5 H5 (fun _ _=>False) I5 (stat fr5) st5 stop) (fun r s6 hr6=>?_) no;obtain⟨hr,I6⟩:=hr6;subst hr;have I7:Inv X yZ σ H5 s6:=I3.Jh (ch:=fp) I6.os I6.base I6.hok I6.bare fun b hb=>⟨(f2 b hb).2.2.2.1,(f2 b hb).2.1,(f2 b hb).2.2.2.2.1,(f2 b hb).2.2.2.2.2⟩;refine ME _ _ H5 s6 I7 I6.free (OI (show X.env.locals<G2.objs.size from I3.lt)) I3.sz (fun x c e=>?_) (fun p hp=>?_) (let ⟨m,hn,_⟩:=I6.loc;⟨m,hn⟩) q
   ·obtain⟨v,z⟩:=I3.cell x c e;exact NV z.lt
   ·exact NV (Nx (I3.pin p hp).1)
  ·refine wpAny_mono (T.item (b5 X nm scope own cl G2.objs.size { s2 with heap:=G2 } (upd H2 s2.heap.objs.size (.lst [])) fp) rfl rfl rfl hc i [] s5 σ5 H5 (fun _ _=>False) I5 (stat fr5) st5 go) (fun r s6 hr6=>?_) no;obtain⟨u,hr,h6⟩:=hr6;subst hr;refine wpAny_mono h6 (fun _ s7 h7=>?_) no;obtain⟨x,H7,I7,r7,y7,st7,fr7⟩:=h7;have I7':=I7.pinned (stat fr7) (T.obj _ _ st7);have again:∀{s9:Shared} {σ9:L2.St} {H9:Hp} {m':Nat},m'<n->Inv (b5 X nm scope own cl G2.objs.size { s2 with heap:=G2 } (upd H2 s2.heap.objs.size (.lst [])) fp) ([]++nD fp s7.heap) σ9 H9 s9->W (i+1) m' σ9 H9 ->
     ∃m,m<n/\∃i σ' H',Inv (b5 X nm scope own cl G2.objs.size { s2 with heap:=G2 } (upd H2 s2.heap.objs.size (.lst [])) fp) [] σ' H' s9/\tn i s9.heap/\(∀b∈fp,H' b=none)/\W i m σ' H':=fun {s9 σ9 H9 m'} hm I9 w9=>by
    refine⟨m',hm,i+1,σ9,H9,I9.kI,T.keep _ _ _ st7 fun b hb o e=>(I9.pin (b,o) (NU _ (NU _ (gC hb e)))).1,fun b hb=>?_,w9⟩;obtain⟨o,e,d⟩:=T.obj _ _ st7 b hb;exact(I9.pin (b,o) (NU _ (NU _ (gC hb e)))).2.1
   refine wpAny_mono (hg cl G2.objs.size _ _ fp _ s7 σ5 H7 x u _ I7' r7 (step x H7 y7)) (fun _ s8 h8=>?_) no;obtain⟨σ8,H8,I8,q8⟩:=h8;refine wpAny_mono (ht cl G2.objs.size _ _ fp _ s8 σ8 H8 _ I8 q8) (fun b s9 h9=>?_) no;obtain⟨H9,I9,q9⟩:=h9;cases b with
   |false=>rw[if_neg N6]at q9 ⊢;obtain⟨m',hm,w9⟩:=q9;exact again hm I9 w9
   |true=>rw[if_pos rfl]at q9 ⊢;refine wpAny_mono (he cl G2.objs.size _ _ fp _ s9 σ8 H9 _ I9 q9) (fun y s10 h10=>?_) no;obtain⟨yv,H10,I10,r10,En,hacc,FH,m',hm,w10⟩:=h10;refine wpAny_mono (qh (X:=b5 X nm scope own cl G2.objs.size { s2 with heap:=G2 } (upd H2 s2.heap.objs.size (.lst [])) fp) _ s10 σ8 H10 (.ref s2.heap.objs.size) [yv] (.ref s2.heap.objs.size) [y] (fun _ H'=>H'=upd H10 s2.heap.objs.size (.lst (En++[yv]))) I10 rfl (.cons r10 .nil) ⟨_,En,yv,rfl,rfl,hacc,FH,rfl⟩) (fun _ s11 h11=>?_) no;obtain⟨_,H11,I11,_,e11⟩:=h11;subst e11;exact again hm I11 w10
 exact codeAny_compStart_list (loop _ rfl) (T.self _ 0 _ _ _ st4 (loop _ rfl))
theorem Dt(hc:X.calm=true)(S:gE X nm scope)(hi:PI X tg iter wi)
  (hg:∀cl C s H fp,PG (b5 X nm scope own cl C s H fp) tg g) (ht:∀cl C s H fp,PTs (b5 X nm scope own cl C s H fp) M5 tt) (he:∀cl C s H fp,PE (b5 X nm scope own cl C s H fp) M7 te)
  (hs:∀x,foldedSetIterable iter X.env x=pure x:=by intro _;rfl):PE X (.ListComp M7 [⟨tg,iter,M5,0⟩] scope pos) (tLC wi own.length g tt te):=by
 intro yZ s σ H Q I h;obtain⟨cl,hclos,nR,yI⟩:=nQ (env:=X.env) (scope:=scope) fun y hy hf=>I.ok.has y.1 (S.free y hy hf);rw[eval_ListComp];refine wpAny_comprehension_free (use:=none) rfl hs hclos S.kind S.names (thn (hi yZ s σ H _ I h) fun v s1 h1=>thn h1 fun itv s2 h2=>?_);obtain⟨it,fp,tn,J,H2,e,I2,T,st2,f2,hR⟩:=h2;subst e;refine qt (Q:=Q) (RR:=fun En C=>compPost (model X.prog X.w) X.A X.xe none (EP X yZ σ Q) En C) hc S nR yI hg ht he I2 T st2 f2 hR ?_;intro D C H6 s6 I6 hCn hCL hCs hCc hCp hns q;obtain⟨m,hn⟩:=hns;refine⟨m,hn,fun h' hs'=>⟨.ref D,H6,I6.turned (t':=s6.toks) (fun b o hb e=>(hs'.2 b hb).trans e) hCn hCL (.inr hCs) hCc hCp,rfl,q⟩⟩
theorem mj{i:Nat}{y:Str}{py S2:Pos}(hN:X.N.Nodup)(hi':X.N[i]?=some y)(hy:Loc X.env.scope y)(hc:X.calm=true)(S:gE X nm scope)(hi:PI X tg iter wi)
  (hg:∀cl C s H fp,PG (b5 X nm scope own cl C s H fp) tg g) (ht:∀cl C s H fp,PTs (b5 X nm scope own cl C s H fp) M5 tt) (he:∀cl C s H fp,PE (b5 X nm scope own cl C s H fp) M7 te)
  (hsw:swapsWith (.ListComp M7 [⟨tg,iter,M5,0⟩] scope pos) (some (.Name y py)) S2.line X.env=pure true:=by rfl)
  (hs:∀x,foldedSetIterable iter X.env x=pure x:=by intro _;rfl) (hf:X.fn y=true\/X.env.scope.names.lookup y=some .local:=by trivial) :
  PS X (.Assign [.Name y py] (.ListComp M7 [⟨tg,iter,M5,0⟩] scope pos) S2) (yf (tLC wi own.length g tt te) (nC i)):=by
 intro yZ s σ H Dn I h;obtain⟨cl,hclos,nR,yI⟩:=nQ (env:=X.env) (scope:=scope) fun y hy hf=>I.ok.has y.1 (S.free y hy hf);rw[exec_Assign_Name_used _ _ _ _ hsw];refine wpAny_bind (wpAny_standAt (wpAny_bind ?_));show wpAny _ X.A (do let _ <- comprehension (.ListComp M7 [⟨tg,iter,M5,0⟩] scope pos) scope X.env _ (newList []) false (eval iter X.env) (some (assign (.Name y py) X.env))) _ _ s;refine wpAny_bind (wpAny_mono (wpAny_comprehension_free (use:=some (assign (.Name y py) X.env)) (Q:=fun _ s'=>SP X yZ Dn .next s') rfl hs hclos S.kind S.names
  (thn (hi yZ s σ H _ I h) fun v s1 h1=>thn h1 fun itv s2 h2=>?_)) (fun _ s' hq=>wpAny_pure (wpAny_pure hq)) fun _ _ e=>e)
 obtain⟨it,fp,tn,J,H2,e,I2,T,st2,f2,hR⟩:=h2;subst e;refine qt (Q:=fun x H1=>nC i x σ H1 Dn.nx) (RR:=fun En C=>compPost (model X.prog X.w) X.A X.xe (some (assign (.Name y py) X.env)) (fun _ s'=>SP X yZ Dn .next s') En C) hc S nR yI hg ht he I2 T st2 f2 hR ?_;intro D C H6 s6 I6 hCn hCL hCs hCc hCp hns q;obtain⟨m,hn⟩:=hns;show wpAny _ X.A (assign (.Name y py) X.env (.ref D)) _ _ _;refine wpAny_assign_Name (jf I6 hN hi' hy (v:=.ref D) rfl (fun s7 I7 h7=>?_) hf);obtain⟨a,sb,ha⟩:=h7;have hCa:C≠a:=by
  rcases ha with ha | ha
  ·rw[ha];exact hCL
  ·exact N2 (hCc y a ha)
 refine⟨m,hn.sameBut sb hCa,fun h' hs'=>⟨_,H6,I7.turned (t':=s7.toks) (fun b o hb e=>(hs'.2 b hb).trans e) hCn hCL (.inr hCs) hCc hCp,q⟩⟩
end
mutual
noncomputable def toPy:Dat->PyData
 |.non=>.none
 |.bl b=>.bool b
 |.int i=>.int i
 |.str s=>.str ⟨s.toArray⟩
 |.tup xs=>.tuple (dX xs)
 |.lst xs=>.list (dX xs)
 |.dct _ _=>.dict []
 |.dcp _ _=>.dict []
 |.exc _=>.dict []
 |.bC _ _=>.dict []
 |.fn _=>.dict []
noncomputable def dX:List Dat->List PyData
 |[]=>[]
 |x::xs=>toPy x::dX xs
end
mutual
theorem kN:∀a b:Dat,Ou (toPy a) (toPy b)=Dm.eqD a b
 |.non,b=>by cases b<;>simp[toPy,Ou,Dm.eqD]
 |.bl x,b=>by cases b<;>simp[toPy,Ou,Dm.eqD,Dm.b2i]
 |.int x,b=>by cases b<;>simp[toPy,Ou,Dm.eqD,Dm.b2i]
 |.str x,b=>by
  cases b with
  |str y=>
   simp only[toPy,Ou,Dm.eqD];rw[P1];simp only[beq_iff_eq];constructor
   ·intro h;have h:=congrArg (fun s:Str=>s.cps.toList) h
    simpa using h
   ·rintro rfl;rfl
  |_=>simp[toPy,Ou,Dm.eqD]
 |.tup xs,b=>by
  cases b with
  |tup ys=>simp only[toPy,Ou,Dm.eqD];exact lO xs ys
  |_=>simp[toPy,Ou,Dm.eqD]
 |.lst xs,b=>by
  cases b with
  |lst ys=>simp only[toPy,Ou,Dm.eqD];exact lO xs ys
  |_=>simp[toPy,Ou,Dm.eqD]
 |.dct ks vs,b=>by cases b<;>simp[toPy,Ou,Dm.eqD]
 |.dcp ks vs,b=>by cases b<;>simp[toPy,Ou,Dm.eqD]
 |.exc C,b=>by cases b<;>simp[toPy,Ou,Dm.eqD]
 |.bC C v,b=>by cases b<;>simp[toPy,Ou,Dm.eqD]
 |.fn C,b=>by cases b<;>simp[toPy,Ou,Dm.eqD]
theorem lO:∀a b:List Dat,Qk (dX a) (dX b)=Dm.mX a b
 |[],b=>by cases b<;>simp[dX,Qk,Dm.mX]
 |x::xs,b=>by
  cases b with
  |nil=>simp[dX,Qk,Dm.mX]
  |cons y ys=>simp only[dX,Qk,Dm.mX];rw[kN x y,lO xs ys]
end
theorem Aq{s:List Nat}(h:(s.all fun c=>decide (c<128))=true):PyData.strOk ⟨s.toArray⟩=true:=by unfold PyData.strOk;rw[Array.all_eq_true'];intro c hc;have h1:=Ov.mp h c (by simpa using hc);have h2:c<128:=of_decide_eq_true h1;exact decide_eq_true (by lia)
theorem fL{P:Program}{w:World}{H:Hp}{h:Heap}(ok:HOk P w H h):∀(n:Nat),
  (∀(v:V) (d:Dat) (u:Value),Rep H v d->RelV v u->Dm.okD n d=true->∃as,Reads h u (toPy d) as/\(toPy d).canLay0=true/\(toPy d).depth<=n) /\
  (∀(vs:List V) (ds:List Dat) (us:List Value),aR H vs ds->Vals vs us->ds.all (Dm.okD n)=true->∃as,ReadsAll h us (dX ds) as/\Qo (dX ds)=true/\OL (dX ds)<=n):=by
 intro n
 induction n with
 |zero=>
  have one:∀(v:V) (d:Dat) (u:Value),Rep H v d->RelV v u->Dm.okD 0 d=true->∃as,Reads h u (toPy d) as/\(toPy d).canLay0=true/\(toPy d).depth<=0:=by
   intro v d u r rv k;cases r with
   |non=>cases rv;exact⟨_,.none,rfl,NC _⟩
   |bl b=>cases rv;exact⟨_,.bool b,rfl,NC _⟩
   |int i=>obtain⟨t,rfl⟩:=rv;exact⟨_,.int i t,rfl,NC _⟩
   |str s=>obtain⟨t,rfl⟩:=rv;exact⟨_,.str _ t,Aq k,NC _⟩
   |tup _ _=>cases k
   |lst _ _=>cases k
   |dct _ _ _=>cases k
   |dcp _ _ _=>cases k
   |exc _=>cases k
   |bC _ _=>cases k
   |fn _=>cases k
  refine⟨one,fun vs ds=>?_⟩
  induction ds generalizing vs with
  |nil=>intro us r rv _;cases r;cases rv;exact⟨_,.nil,rfl,NC _⟩
  |cons d ds ih=>
   intro us r rv k;cases r with
   |cons r rs=>
    cases rv with
    |cons q qs=>rw[QO,NF]at k;obtain⟨a1,h1,h2,h3⟩:=one _ _ _ r q k.1;obtain⟨a2,h4,h5,h6⟩:=ih _ _ rs qs k.2;exact⟨_,.cons h1 h4,by simp[dX,Qo,h2,h5],by simp only[dX,OL];lia⟩
 |succ n ih=>
  have one:∀(v:V) (d:Dat) (u:Value),Rep H v d->RelV v u->Dm.okD (n+1) d=true->∃as,Reads h u (toPy d) as/\(toPy d).canLay0=true/\(toPy d).depth<=n+1:=by
   intro v d u r rv k;cases r with
   |non=>cases rv;exact⟨_,.none,rfl,Od _⟩
   |bl b=>cases rv;exact⟨_,.bool b,rfl,Od _⟩
   |int i=>obtain⟨t,rfl⟩:=rv;exact⟨_,.int i t,rfl,Od _⟩
   |str s=>obtain⟨t,rfl⟩:=rv;exact⟨_,.str _ t,Aq k,Od _⟩
   |tup q rs=>cases rv;obtain⟨z,its,vr,ob,e,hc,m,hd⟩:=ok _ _ q;obtain⟨as,h1,h2,h3⟩:=ih.2 _ _ _ rs vr k;exact⟨_,.tuple e hc hd h1,h2,by simp only[toPy,PyData.depth];lia⟩
   |lst q rs=>cases rv;obtain⟨z,its,m,vr,e⟩:=q.ok ok;obtain⟨as,h1,h2,h3⟩:=ih.2 _ _ _ rs vr k;exact⟨_,.list e rfl rfl h1,h2,by simp only[toPy,PyData.depth];lia⟩
   |dct _ _ _=>cases k
   |dcp _ _ _=>cases k
   |exc _=>cases k
   |bC _ _=>cases k
   |fn _=>cases k
  refine⟨one,fun vs ds=>?_⟩
  induction ds generalizing vs with
  |nil=>intro us r rv _;cases r;cases rv;exact⟨_,.nil,rfl,Od _⟩
  |cons d ds ih=>
   intro us r rv k;cases r with
   |cons r rs=>
    cases rv with
    |cons q qs=>rw[QO,NF]at k;obtain⟨a1,h1,h2,h3⟩:=one _ _ _ r q k.1;obtain⟨a2,h4,h5,h6⟩:=ih _ _ rs qs k.2;exact⟨_,.cons h1 h4,by simp[dX,Qo,h2,h5],by simp only[dX,OL];lia⟩
theorem lN.full{H0 H:Hp}(s:aF H0 H){v:V}{d:Dat}(r:lN H0 H v d):Rep H v d:=by
 rcases r with r | ⟨a,rfl,w⟩
 ·exact r.mono s
 ·cases d with
  |lst ds=>obtain⟨xs,q,rs⟩:=w;exact .lst (.inl q) (rs.mono s)
  |dct ks ds=>obtain⟨kvs,q,e,rs⟩:=w;exact .dct q e (rs.mono s)
  |dcp ks ds=>obtain⟨kvs,q,e,rs⟩:=w;exact .dcp q (e.mono s) (rs.mono s)
  |_=>exact NH w
def Du(neg:Bool):R2:=fun x y H Q=>∃dx dy,Rep H x dx/\Rep H y dy/\Dm.okD 8 dx=true/\Dm.okD 8 dy=true/\Q (.bl (if neg then !Dm.eqD dx dy else Dm.eqD dx dy)) H
section
variable{X:Cx}
theorem Ar{k:Nat}(hr:bK k X.A):OpR X (compareOp .Eq) (Du false):=by intro yZ s σ H x y v u Q I rx ry h;obtain⟨dx,dy,r1,r2,k1,k2,q⟩:=h;obtain⟨as,h1,h2,h3⟩:=(fL I.hok 8).1 x dx v r1 rx k1;obtain⟨bs,h4,h5,h6⟩:=(fL I.hok 8).1 y dy u r2 ry k2;have hu:=hr.units;refine PySem.SeqAt.compareEq_reads h1 h4 h2 h5 (by lia) ?_;rw[kN];exact⟨.bl (Dm.eqD dx dy),H,I,rfl,q⟩
theorem Hh{k:Nat}(hr:bK k X.A):OpR X (compareOp .NotEq) (Du true):=by intro yZ s σ H x y v u Q I rx ry h;obtain⟨dx,dy,r1,r2,k1,k2,q⟩:=h;obtain⟨as,h1,h2,h3⟩:=(fL I.hok 8).1 x dx v r1 rx k1;obtain⟨bs,h4,h5,h6⟩:=(fL I.hok 8).1 y dy u r2 ry k2;have hu:=hr.units;refine PySem.SeqAt.compareNe_reads h1 h4 h2 h5 (by lia) ?_;rw[kN];exact⟨.bl (!Dm.eqD dx dy),H,I,rfl,q⟩
def J_(neg:Bool):R2:=fun x y H Q=>∃dx ds,Rep H x dx/\(Rep H y (.lst ds)\/Rep H y (.tup ds))/\Dm.okD 8 dx=true/\ds.all (Dm.okD 7)=true/\Q (.bl (if neg then !Dm.inD dx ds else Dm.inD dx ds)) H
theorem nS(x:Dat):∀ds:List Dat,((dX ds).any fun y=>Ou y (toPy x))=Dm.inD x ds
 |[]=>rfl
 |d::ds=>by have:=nS x ds;unfold Dm.inD at this ⊢;simp only[dX,OU,kN];rw[this]
theorem As{k:Nat}(hr:bK k X.A):OpR X (compareOp .In) (J_ false):=by
 intro yZ s σ H x y v u Q I rx ry h;obtain⟨dx,ds,r1,r2,k1,k2,q⟩:=h;obtain⟨as,h1,h2,h3⟩:=(fL I.hok 8).1 x dx v r1 rx k1;have hu:=hr.units;rcases r2 with r2 | r2
 ·obtain⟨bs,h4,h5,h6⟩:=(fL I.hok 8).1 y (.lst ds) u r2 ry k2;have h6:OL (dX ds)+1<=8:=h6;refine PySem.SeqAt.in_list_reads h4 h1 h5 h2 (by lia) ?_;rw[nS];exact⟨.bl (Dm.inD dx ds),H,I,rfl,q⟩
 ·obtain⟨bs,h4,h5,h6⟩:=(fL I.hok 8).1 y (.tup ds) u r2 ry k2;have h6:OL (dX ds)+1<=8:=h6;refine PySem.SeqAt.in_tuple_reads h4 h1 h5 h2 (by lia) ?_;rw[nS];exact⟨.bl (Dm.inD dx ds),H,I,rfl,q⟩
end
section
variable{H0 H:Hp}{ds:List Dat}{v:V}
theorem aM{i:Int}(r:lN H0 H v (.int i)):v=.int i:=by
 rcases r with r | ⟨a,_,w⟩
 ·exact Rep.isInt r
 ·exact NH w
theorem xg{b:Bool}(r:lN H0 H v (.bl b)):v=.bl b:=by
 rcases r with r | ⟨a,_,w⟩
 ·exact Rep.pU r
 ·exact NH w
theorem dG(s:aF H0 H)(r:lN H0 H v (.lst ds)):∃a xs,v=.ref a/\Rd H a (.lst xs)/\aR H0 xs ds:=by
 rcases r with r | ⟨a,e,xs,q,rs⟩
 ·cases r with
  |lst q rs=>exact⟨_,_,rfl,aF.rd s q,rs⟩
 ·exact⟨a,xs,e,.inl q,rs⟩
theorem kO(s:aF H0 H)(r:lN H0 H v (.tup ds)):∃a xs,v=.ref a/\H a=some (.tup xs)/\aR H0 xs ds:=by
 rcases r with r | ⟨a,_,w⟩
 ·cases r with
  |tup q rs=>exact⟨_,_,rfl,s _ _ q,rs⟩
 ·exact NH w
theorem Hi:OpD (rI0 fun i j=>.int (i-j)) Dm.lH:=by
 intro H0 H x y dx dy z Q s rx ry e k;unfold Dm.lH at e;split at e
 ·cases e;cases aM rx;cases aM ry;exact⟨_,_,rfl,rfl,k _ H0 H (aX.refl s) (.int _)⟩
 ·cases e
theorem Ka:OpD (rI0 fun i j=>.bl (decide (i<j))) Dm.gLt:=by
 intro H0 H x y dx dy z Q s rx ry e k;unfold Dm.gLt at e;split at e
 ·cases e;cases aM rx;cases aM ry;exact⟨_,_,rfl,rfl,k _ H0 H (aX.refl s) (.bl _)⟩
 ·cases e
theorem Au:OpD (rI0 fun i j=>.bl (decide (i<=j))) Dm.gLe:=by
 intro H0 H x y dx dy z Q s rx ry e k;unfold Dm.gLe at e;split at e
 ·cases e;cases aM rx;cases aM ry;exact⟨_,_,rfl,rfl,k _ H0 H (aX.refl s) (.bl _)⟩
 ·cases e
theorem Kc:OpD (rI0 fun i j=>.bl (decide (j<i))) Dm.gGt:=by
 intro H0 H x y dx dy z Q s rx ry e k;unfold Dm.gGt at e;split at e
 ·cases e;cases aM rx;cases aM ry;exact⟨_,_,rfl,rfl,k _ H0 H (aX.refl s) (.bl _)⟩
 ·cases e
theorem Kd:OpD (rI0 fun i j=>.bl (decide (j<=i))) Dm.gGe:=by
 intro H0 H x y dx dy z Q s rx ry e k;unfold Dm.gGe at e;split at e
 ·cases e;cases aM rx;cases aM ry;exact⟨_,_,rfl,rfl,k _ H0 H (aX.refl s) (.bl _)⟩
 ·cases e
theorem Hj:OpD (rI (fun _ j=>0<j) fun i j=>.int (i % j)) Dm.mY:=by
 intro H0 H x y dx dy z Q s rx ry e k;unfold Dm.mY at e;split at e
 ·split at e
  ·rename_i hj;cases e;cases aM rx;cases aM ry;exact⟨_,_,rfl,rfl,hj,k _ H0 H (aX.refl s) (.int _)⟩
  ·cases e
 ·cases e
theorem Hl:OpD (rI Jv fun i j=>.int (i ^ j.toNat)) Dm.kK:=by
 intro H0 H x y dx dy z Q s rx ry e k;unfold Dm.kK at e;split at e
 ·split at e
  ·rename_i hj;cases e;cases aM rx;cases aM ry;exact⟨_,_,rfl,rfl,⟨hj.1,hj.2.1,Qw hj.2.2 (by decide)⟩,k _ H0 H (aX.refl s) (.int _)⟩
  ·cases e
 ·cases e
end
section
variable{X:Cx}
def Fq(i j:Int):Prop:=0<j/\j<Dm.rm
theorem Av:OpR X (binaryOp .FloorDiv) (rI Fq fun i j=>.int (i / j)):=opI fun i j _ _ _ _ _ hc q=>by
 have h:j.natAbs.log2<9000:=by
  have h1:j.natAbs<2 ^ 200:=by
   have:=hc.2;unfold Dm.rm at this;have h2:=hc.1;have e:(2:Nat) ^ 200=1606938044258990275541962092341162602522202993782792835301376:=by decide +kernel
   omega
  have h3:j.natAbs≠0:=by have:=hc.1;omega
  have:=(QV h3).mpr h1;omega
 have e:i.fdiv j=i / j:=Int.fdiv_eq_ediv_of_nonneg i (Int.le_of_lt hc.1);rw[<- e]at q;exact floordiv_int (Int.ne_of_gt hc.1) q (.inl (PyProof.noPylong_of_log2 h))
end
theorem Ho:OpD (rI Fq fun i j=>.int (i / j)) Dm.sV:=by
 intro H0 H x y dx dy z Q s rx ry e k;unfold Dm.sV at e;split at e
 ·split at e
  ·rename_i hj;cases e;cases aM rx;cases aM ry;exact⟨_,_,rfl,rfl,hj,k _ H0 H (aX.refl s) (.int _)⟩
  ·cases e
 ·cases e
theorem Hq:UnD (rU fun i=>.int (-i)) Dm.vn:=by
 intro H0 H x dx z Q s rx e k;unfold Dm.vn at e;split at e
 ·cases e;cases aM rx;exact⟨_,rfl,k _ H0 H (aX.refl s) (.int _)⟩
 ·cases e
def Aw:R2:=fun x y H Q=>∃l b xs zs,x=.ref l/\y=.ref b/\Rd H l (.lst xs)/\Rd H b (.lst zs)/\xs.length+zs.length<=sizeLine/\∀p,H p=none->Q (.ref p) (upd H p (.lst (xs++zs)))
def Ax:R2:=fun x y H Q=>∃l k xs,x=.ref l/\y=.int k/\Rd H l (.lst xs)/\-(2 ^ 63)<=k/\k<2 ^ 63/\xs.length*k.toNat<=sizeLine /\
 ∀p,H p=none->Q (.ref p) (upd H p (.lst (Dk k.toNat xs).flatten))
section
variable{X:Cx}
theorem Dv:OpR X (binaryOp .Add) Aw:=by
 intro yZ s σ H x y v u Q I rx ry h;obtain⟨l,b,xs,zs,rfl,rfl,hH,hB,hz,q⟩:=h;cases rx;cases ry;obtain⟨z,its,n,r,e⟩:=hH.ok I.hok;obtain⟨z2,its2,n2,r2,e2⟩:=hB.ok I.hok;have hl:=r.length;have hl2:=r2.length;refine PySem.P.add_list e e2 ?_ (by rw[NG,NG];lia);have ea:its.toArray++its2.toArray=(its++its2).toArray:=by simp
 rw[ea];exact⟨.ref _,_,I.GX (t':=s.toks) (r.append r2) (by rw[NL];lia),rfl,q _ I.fresh⟩
theorem Dw:OpR X (binaryOp .Mult) Ax:=by
 intro yZ s σ H x y v u Q I rx ry h;obtain⟨l,k,xs,rfl,rfl,hH,h1,h2,hz,q⟩:=h;cases rx;obtain⟨t,rfl⟩:=ry;obtain⟨z,its,n,r,e⟩:=hH.ok I.hok;have hl:=r.length;have FH:its.toArray.size*k.toNat<=sizeLine:=by rw[NG,<- hl];exact hz
 have hcap:¬its.toArray.size*k.toNat>(2 ^ 63-1) / 8:=by
  have:(sizeLine:Nat)<=(2 ^ 63-1) / 8:=by decide
  lia
 have hfit:¬(!Builtin.List.listFitsIndex k)=true:=by rw[fitsIndex_both h1 h2];exact N6
 have Ke:¬Pp (its.toArray.size*k.toNat)=true:=by rw[zY FH];exact N6
 have hnew:QY (fun x1 x2=>x1++x2) #[] (Dk (if its.toArray.isEmpty=true then 0 else k.toNat) its.toArray)=(Dk k.toNat its).flatten.toArray:=by
  have f0:∀m:Nat,QY (fun x1 x2=>x1++x2) #[] (Dk m its.toArray)=(Dk m its).flatten.toArray:=fun m=>by have:=foldl_rep its m [];rw[QG]at this;exact this
  rw[f0];cases its with
  |nil=>simp
  |cons a r'=>rw[if_neg (by simp)]
 refine wpAny_binaryOp_repeat_ref (T := "list") (U := "int") (by decide) ⟨_,e,rfl⟩ (fun s'=>typeIs_int s' k t) noFill_list_mul F.fills_int_mul F.slot_int_rmul repeat_list F.slot_int_index.lookup
  (call_meets F.slot_int_rmul (typeIs_int s k t) F.entry_int_rmul (F.args_int_rmul_2 _ _) (int___rmul___int_list k t l its.toArray n)
   ⟨e,rfl,⟨_,e,rfl⟩,call_meets F.slot_list_mul ⟨_,e,rfl⟩ F.entry_list_mul (F.args_list_mul_2 _ _) (AutoListH.list___mul___list_int_3 l its.toArray n k t hfit hcap Ke) ⟨e,?_⟩⟩)
 rw[hnew];exact⟨.ref _,_,I.GX (t':=s.toks) (r.rep k.toNat) (by rw[len_rep,Nat.mul_comm];exact hz),rfl,q _ I.fresh⟩
theorem Dy:OpR X (binaryOp .Add) (fun x y H Q=>rI0 (fun i j=>.int (i+j)) x y H Q\/Aw x y H Q):=GF.or Dv
theorem Dz:OpR X (binaryOp .Mult) (fun x y H Q=>rI zP (fun i j=>.int (i*j)) x y H Q\/Ax x y H Q):=GH.or Dw
end
theorem Hr:OpD (fun x y H Q=>rI0 (fun i j=>.int (i+j)) x y H Q\/Aw x y H Q) Dm.cO:=by
 intro H0 H x y dx dy z Q s rx ry e k;unfold Dm.cO at e;split at e
 ·cases e;cases aM rx;cases aM ry;exact .inl ⟨_,_,rfl,rfl,k _ H0 H (aX.refl s) (.int _)⟩
 ·split at e
  ·rename_i hz;cases e;obtain⟨a,us,rfl,qa,ra⟩:=dG s rx;obtain⟨b,ws,rfl,qb,rb⟩:=dG s ry;refine .inr ⟨a,b,us,ws,rfl,rfl,qa,qb,by rw[ra.length,rb.length];exact m8 hz,fun p hp=>?_⟩;exact k _ _ _ (aX.pT s hp) ⟨p,rfl,hp,s.free hp,_,au,ra.append rb⟩
  ·cases e
 ·cases e
theorem Ht:OpD (fun x y H Q=>rI zP (fun i j=>.int (i*j)) x y H Q\/Ax x y H Q) Dm.nK:=by
 intro H0 H x y dx dy z Q s rx ry e k;unfold Dm.nK at e;split at e
 ·split at e
  ·rename_i hj;cases e;cases aM rx;cases aM ry;exact .inl ⟨_,_,rfl,rfl,hj,k _ H0 H (aX.refl s) (.int _)⟩
  ·cases e
 ·split at e
  ·rename_i hz;cases e;cases aM ry;obtain⟨a,us,rfl,qa,ra⟩:=dG s rx;obtain⟨h1,h2,h3⟩:=hz;unfold Dm.BIG at h1 h2;refine .inr ⟨a,_,us,rfl,rfl,qa,by lia,by lia,by rw[ra.length];exact m8 h3,fun p hp=>?_⟩;exact k _ _ _ (aX.pT s hp) ⟨p,rfl,hp,s.free hp,_,au,ra.rep _⟩
  ·cases e
 ·cases e
theorem Ft:OpD (Du false) Dm.gEq:=by
 intro H0 H x y dx dy z Q s rx ry e k;unfold Dm.gEq at e;split at e
 ·rename_i hk;rw[NF]at hk;cases e;exact⟨dx,dy,rx.full s,ry.full s,hk.1,hk.2,k _ H0 H (aX.refl s) (.bl _)⟩
 ·cases e
theorem Kf:OpD (Du true) Dm.gNe:=by
 intro H0 H x y dx dy z Q s rx ry e k;unfold Dm.gNe at e;split at e
 ·rename_i hk;rw[NF]at hk;cases e;exact⟨dx,dy,rx.full s,ry.full s,hk.1,hk.2,k _ H0 H (aX.refl s) (.bl _)⟩
 ·cases e
theorem Fv:OpD (J_ false) Dm.gIn:=by
 intro H0 H x y dx dy z Q s rx ry e k;unfold Dm.gIn at e;split at e
 ·split at e
  ·rename_i hk;rw[NF]at hk;cases e;exact⟨dx,_,rx.full s,.inl (ry.full s),hk.1,hk.2,k _ H0 H (aX.refl s) (.bl _)⟩
  ·cases e
 ·split at e
  ·rename_i hk;rw[NF]at hk;cases e;exact⟨dx,_,rx.full s,.inr (ry.full s),hk.1,hk.2,k _ H0 H (aX.refl s) (.bl _)⟩
  ·cases e
 ·cases e
theorem xh{H0:Hp}{xs:List V}{ds:List Dat}{i:Int}{d:Dat}(rs:aR H0 xs ds)(e:Dm.atI ds i=some d):∃v,L2.atI xs i=some v/\Rep H0 v d:=by
 unfold Dm.atI at e;cases q:Dm.ixN ds.length i with
 |none=>rw[q]at e;cases e
 |some j=>rw[q]at e;obtain⟨v,hv,r⟩:=rs.get (i:=j) e;refine⟨v,?_,r⟩;unfold L2.atI;rw[rs.length];have q':L2.ixN ds.length i=some j:=q;rw[q'];exact hv
theorem Kg{K:eg}:OpD (fun x y H Q=>JB K x y H Q\/JC K x y H Q) Dm.gIx:=by
 intro H0 H x y dx dy z Q s rx ry e k;unfold Dm.gIx at e;split at e
 ·rename_i ds i;cases q:Dm.atI ds i with
  |none=>rw[q]at e;cases e
  |some d=>rw[q]at e;cases e;cases aM ry;obtain⟨a,us,rfl,qa,ra⟩:=dG s rx;obtain⟨v,hv,rv⟩:=xh ra q;exact .inl ⟨a,us,i,v,rfl,rfl,.inl qa,hv,k _ H0 H (aX.refl s) rv⟩
 ·rename_i ds i;cases q:Dm.atI ds i with
  |none=>rw[q]at e;cases e
  |some d=>rw[q]at e;cases e;cases aM ry;obtain⟨a,us,rfl,qa,ra⟩:=kO s rx;obtain⟨v,hv,rv⟩:=xh ra q;exact .inr ⟨a,us,i,v,rfl,rfl,.inl (.inl qa),hv,k _ H0 H (aX.refl s) rv⟩
 ·cases e
theorem Hu{K:eg}:CallD (fun xs H Q=>∃p ys,xs=[.ref p]/\(SqL K H p ys\/SqT K H p ys)/\Q (.int ys.length) H) Dm.iB:=by
 intro H0 H vs ds z Q s rs e k;unfold Dm.iB at e;split at e
 ·cases e;cases rs with
  |cons r rr=>cases rr;obtain⟨a,us,rfl,qa,ra⟩:=dG s r;exact⟨a,us,rfl,.inl (.inl qa),k _ H0 H (aX.refl s) (by rw[ra.length];exact .int _)⟩
 ·cases e;cases rs with
  |cons r rr=>cases rr;obtain⟨a,us,rfl,qa,ra⟩:=kO s r;exact⟨a,us,rfl,.inr (.inl (.inl qa)),k _ H0 H (aX.refl s) (by rw[ra.length];exact .int _)⟩
 ·cases e
theorem DB:CallD (fun xs H Q=>∃i j,xs=[.int i,.int j]/\Q (.int (if j<i then j else i)) H) Dm.sW:=by
 intro H0 H vs ds z Q s rs e k;unfold Dm.sW at e;split at e
 ·cases e;cases rs with
  |cons r rr=>
   cases rr with
   |cons r' rr=>cases rr;cases aM r;cases aM r';exact⟨_,_,rfl,k _ H0 H (aX.refl s) (.int _)⟩
 ·cases e
theorem DC:CallD (fun xs H Q=>∃i j,xs=[.int i,.int j]/\Q (.int (if j>i then j else i)) H) Dm.sX:=by
 intro H0 H vs ds z Q s rs e k;unfold Dm.sX at e;split at e
 ·cases e;cases rs with
  |cons r rr=>
   cases rr with
   |cons r' rr=>cases rr;cases aM r;cases aM r';exact⟨_,_,rfl,k _ H0 H (aX.refl s) (.int _)⟩
 ·cases e
theorem DG{K:eg}:CallD (fun xs H Q=>∃p ys,xs=[.ref p]/\(SqL K H p ys\/SqT K H p ys)/\∀l,H l=none->Q (.ref l) (upd H l (.lst ys))) Dm.nM:=by
 intro H0 H vs ds z Q s rs e k;unfold Dm.nM at e;split at e
 ·cases e;cases rs with
  |cons r rr=>cases rr;obtain⟨a,us,rfl,qa,ra⟩:=dG s r;exact⟨a,us,rfl,.inl (.inl qa),fun p hp=>k _ _ _ (aX.pT s hp) ⟨p,rfl,hp,s.free hp,_,au,ra⟩⟩
 ·cases e;cases rs with
  |cons r rr=>cases rr;obtain⟨a,us,rfl,qa,ra⟩:=kO s r;exact⟨a,us,rfl,.inr (.inl (.inl qa)),fun p hp=>k _ _ _ (aX.pT s hp) ⟨p,rfl,hp,s.free hp,_,au,ra⟩⟩
 ·cases e
noncomputable abbrev DS(X:Cx)(st:Stmt)(f:FS):Prop:=PS X st (tDS f)
noncomputable abbrev DSs(X:Cx)(st:List Stmt)(f:FS):Prop:=PSs X st (tDS f)
noncomputable abbrev DI(X:Cx)(tg it:Expr)(f:Dm.FI):Prop:=PI X tg it (tDI f)
theorem PI.weak{X:Cx}{tg it:Expr}{t t':TI}(h:PI X tg it t)(k:∀σ H R,t' σ H R->t σ H R):PI X tg it t':=fun yZ s σ H R I q=>h yZ s σ H R I (k σ H R q)
section
variable{X:Cx}{a b c e:Expr}{fa fb fc f:FE}{pos:Pos}
section
variable{g:Dat->Dat->Option RV}{Ca:List Expr}{r:List V->Hp->VK->Prop}{k:Nat}{x:Str}
theorem d_v(i:Nat)(hN:X.N[i]?=some x:=by rfl)(hv:Vis X.env.scope x:=by trivial)(hd:(x == ("__debug__" : Str))=false:=by decide)
  (Lp:(x == ("__classdict__" : Str))=false:=by decide):DE X (.Name x pos) (Dm.eV i):=PE.weak (lG hN hv hd Lp) fun _ _ _=>JL
theorem d_i{i:Int}{j}:DE X (.Constant (.int i) j pos) (Dm.eC (.int i)):=PE.weak Gm fun _ _ _=>m7 fun _=>.int i
theorem d_b{v:Bool}{j}:DE X (.Constant (.bool v) j pos) (Dm.eC (.bl v)):=PE.weak Ji fun _ _ _=>m7 fun _=>.bl v
theorem d_n{j}:DE X (.Constant .none j pos) (Dm.eC .non):=PE.weak Gn fun _ _ _=>m7 fun _=>.non
theorem d_s{s:List Nat}{j}(hx:x=⟨s.toArray⟩:=by rfl):DE X (.Constant (.str x) j pos) (Dm.eC (.str s)):=by subst hx;exact PE.weak Gp fun _ _ _=>m7 fun _=>.str s
theorem yJ{op:Operator}{r:R2}(o:OpR X (binaryOp op) r)(od:OpD r g)(ha:DE X a fa)(hb:DE X b fb):DE X (.BinOp a op b pos) (Dm.e2 g fa fb):=
 PE.weak (Js o ha hb) fun _ _ _=>yG od
theorem cI(ha:DE X a fa)(hb:DE X b fb):DE X (.BinOp a .Add b pos) (Dm.e2 Dm.cO fa fb):=yJ Dy Hr ha hb
theorem qu(ha:DE X a fa)(hb:DE X b fb):DE X (.BinOp a .Sub b pos) (Dm.e2 Dm.lH fa fb):=yJ GG Hi ha hb
theorem qv(ha:DE X a fa)(hb:DE X b fb):DE X (.BinOp a .Mult b pos) (Dm.e2 Dm.nK fa fb):=yJ Dz Ht ha hb
theorem Ay(ha:DE X a fa)(hb:DE X b fb):DE X (.BinOp a .FloorDiv b pos) (Dm.e2 Dm.sV fa fb):=yJ Av Ho ha hb
theorem nT(ha:DE X a fa)(hb:DE X b fb):DE X (.BinOp a .Mod b pos) (Dm.e2 Dm.mY fa fb):=yJ GI Hj ha hb
theorem kQ(ha:DE X a fa)(hb:DE X b fb):DE X (.BinOp a .Pow b pos) (Dm.e2 Dm.kK fa fb):=yJ GJ Hl ha hb
theorem xj(ha:DE X a fa):DE X (.UnaryOp .USub a pos) (Dm.e1 Dm.vn fa):=PE.weak (Jt GK ha) fun _ _ _=>JM Hq
theorem Az{op:CmpOp}{r:R2}(o:OpR X (compareOp op) r)(od:OpD r g)(ha:DE X a fa)(hb:DE X b fb)(hm:behindInMarks op b=false):DE X (.Compare a [op] [b] pos) (Dm.e2 g fa fb):=
 PE.weak (C6 o ha hb hm) fun _ _ _=>yG od
theorem nU{op:CmpOp}{r:R2}(o:OpR X (compareOp op) r)(od:OpD r g)(ha:DE X a fa)(hb:DE X b fb)(hm:behindInMarks op b=false):DT X (.Compare a [op] [b] pos) (Dm.tV (Dm.e2 g fa fb)):=
 PT.weak (C7 o ha hb hm) fun σ H Q h=>yG od (vv h)
theorem Kh(hr:bK k X.A)(ha:DE X a fa)(hb:DE X b fb):DE X (.Compare a [.Eq] [b] pos) (Dm.e2 Dm.gEq fa fb):=Az (Ar hr) Ft ha hb (ir _)
theorem MI(ha:DE X a fa)(hb:DE X b fb):DE X (.Compare a [.LtE] [b] pos) (Dm.e2 Dm.gLe fa fb):=Az zQ Au ha hb (ir _)
theorem MJ(hr:bK k X.A)(ha:DE X a fa)(hb:DE X b fb)(hm:behindInMarks .In b=false:=by rfl):DE X (.Compare a [.In] [b] pos) (Dm.e2 Dm.gIn fa fb):=Az (As hr) Fv ha hb hm
theorem tw(hr:bK k X.A)(ha:DE X a fa)(hb:DE X b fb):DT X (.Compare a [.Eq] [b] pos) (Dm.tV (Dm.e2 Dm.gEq fa fb)):=nU (Ar hr) Ft ha hb (ir _)
theorem nV(hr:bK k X.A)(ha:DE X a fa)(hb:DE X b fb):DT X (.Compare a [.NotEq] [b] pos) (Dm.tV (Dm.e2 Dm.gNe fa fb)):=nU (Hh hr) Kf ha hb (ir _)
theorem Kl(ha:DE X a fa)(hb:DE X b fb):DT X (.Compare a [.Lt] [b] pos) (Dm.tV (Dm.e2 Dm.gLt fa fb)):=nU Jw Ka ha hb (ir _)
theorem DH(ha:DE X a fa)(hb:DE X b fb):DT X (.Compare a [.Gt] [b] pos) (Dm.tV (Dm.e2 Dm.gGt fa fb)):=nU Jx Kc ha hb (ir _)
theorem MK(ha:DE X a fa)(hb:DE X b fb):DT X (.Compare a [.GtE] [b] pos) (Dm.tV (Dm.e2 Dm.gGe fa fb)):=nU Jy Kd ha hb (ir _)
theorem AA(hr:bK k X.A)(ha:DE X a fa)(hb:DE X b fb)(hm:behindInMarks .In b=false:=by rfl):DT X (.Compare a [.In] [b] pos) (Dm.tV (Dm.e2 Dm.gIn fa fb)):=nU (As hr) Fv ha hb hm
theorem b9(ha:DE X a fa)(hb:DE X b fb)(hs:wR b:=by intro _ _;rfl):DE X (.Subscript a b pos) (Dm.e2 Dm.gIx fa fb):=PE.weak (JA (Dc.or GU) ha hb hs) fun _ _ _=>yG Kg
theorem af:DA X [] []:=PA.weak iu fun _ _ _=>JN
theorem aa{es:List Expr}{fs:List FE}(h:DE X e f)(r:DA X es fs)(hs:starEach (e::es) X.env=(false,eval e X.env)::starEach es X.env:=by rfl):DA X (e::es) (f::fs):=PA.weak (cY h r hs) fun _ _ _=>G5
theorem bg{es:List Expr}{fs:List FE}{x1}(h:DA X es fs):DE X (.Tuple es x1 pos) (Dm.bw fs):=PE.weak (zV h) fun _ _ _=>JO
theorem cL{es:List Expr}{fs:List FE}(h:DA X es fs):DE X (.List es pos) (Dm.dP fs):=PE.weak (GQ h) fun _ _ _=>JP
theorem AB{es:List Expr}{fs:List FE}{g:List Dat->Option RV}{id:String}{p:Pos}(hc:fy X (.builtin id) r)(cd:CallD r g)(hv:bootBuiltins x=some (.builtin id))(hg:Gl X x)(hm:X.mg x=none)(ha:DA X (e::es) fs)
  (hn:x ≠ "__name__" := by decide) (Lh:(x == ("__debug__" : Str))=false:=by decide) (he:starEach (e::es) X.env=(false,eval e X.env)::starEach es X.env:=by rfl) (Il:(backTo pos (starEach es X.env)).any (·.1)=false:=by rfl) :
  DE X (.Call (.Name x p) (e::es) [] pos) (Dm.eB g fs):=PE.weak (iw hc hg hm hv ha hn Lh he Il) fun _ _ _=>G6 cd
theorem Hv{es:List Expr}{fs:List FE}{g:List Dat->Option RV}{T:String}{p:Pos}(hc:fy X (.type T) r)(cd:CallD r g)(hv:bootBuiltins x=some (.type T))(hg:Gl X x)(hm:X.mg x=none)(ha:DA X (e::es) fs)
  (hn:x ≠ "__name__" := by decide) (Lh:(x == ("__debug__" : Str))=false:=by decide) (he:starEach (e::es) X.env=(false,eval e X.env)::starEach es X.env:=by rfl) (Il:(backTo pos (starEach es X.env)).any (·.1)=false:=by rfl) :
  DE X (.Call (.Name x p) (e::es) [] pos) (Dm.eB g fs):=PE.weak (yu hc hg hm hv ha hn Lh he Il) fun _ _ _=>G6 cd
variable{es:List Expr}{fs:List FE}{p:Pos}
theorem mq(hg:Gl X "len")(hm:X.mg "len" = none)(ha:DA X [e] fs)(he:starEach [e] X.env=[(false,eval e X.env)]:=by rfl)(Il:(backTo pos (starEach [] X.env)).any (·.1)=false:=by rfl):DE X (.Call (.Name "len" p) [e] [] pos) (Dm.eB Dm.iB fs):=AB qX Hu PySem.boot_len hg hm ha (he:=he) (Il:=Il)
theorem Hw(hc:X.calm=true)(hg:Gl X "min")(hm:X.mg "min" = none)(ha:DA X [a,b] fs)(he:starEach [a,b] X.env=(false,eval a X.env)::starEach [b] X.env:=by rfl)(Il:(backTo pos (starEach [b] X.env)).any (·.1)=false:=by rfl):DE X (.Call (.Name "min" p) [a,b] [] pos) (Dm.eB Dm.sW fs):=AB (ym hc) DB (by rfl) hg hm ha (he:=he) (Il:=Il)
theorem Hx(hc:X.calm=true)(hg:Gl X "max")(hm:X.mg "max" = none)(ha:DA X [a,b] fs)(he:starEach [a,b] X.env=(false,eval a X.env)::starEach [b] X.env:=by rfl)(Il:(backTo pos (starEach [b] X.env)).any (·.1)=false:=by rfl):DE X (.Call (.Name "max" p) [a,b] [] pos) (Dm.eB Dm.sX fs):=AB (yl hc) DC (by rfl) hg hm ha (he:=he) (Il:=Il)
theorem vA(hg:Gl X "list")(hm:X.mg "list" = none)(ha:DA X [e] fs)(he:starEach [e] X.env=[(false,eval e X.env)]:=by rfl)(Il:(backTo pos (starEach [] X.env)).any (·.1)=false:=by rfl):DE X (.Call (.Name "list" p) [e] [] pos) (Dm.eB Dm.nM fs):=Hv qY DG (by rfl) hg hm ha (he:=he) (Il:=Il)
theorem bq{F:Addr}{fd:FuncData}{ps:List Str}{g:List Dat->Option RV}(G:bH X.prog X.w X.K X.mg X.base CX0 k F fd ps (spD g))(hr:bK k X.A)(hg:Gl X x)(hm:X.mg x=some (.ref F))(hk:Ot X.K (.ref F)=true)(hb:Binds X.K fd ps [])
  (ha:DA X (e::es) fs) (Lh:(x == ("__debug__" : Str))=false:=by decide) (he:starEach (e::es) X.env=(false,eval e X.env)::starEach es X.env:=by rfl) (Il:(backTo pos (starEach es X.env)).any (·.1)=false:=by rfl) :
  DE X (.Call (.Name x p) (e::es) [] pos) (Dm.eF g fs):=PE.weak (wM G hr hg hm hk hb .nil (Fj (X:=X)) ha Lh he Il) fun _ _ _=>G7
theorem Km{t:FT}{q:Expr}(hq:DT X q t)(ha:DE X a fa)(hb:DE X b fb):DE X (.IfExp q a b pos) (Dm.eIf t fa fb):=PE.weak (zF hq ha hb) fun _ _ _=>Mx
theorem nW{op}(h:DE X a fa):DE X (.BoolOp op [a] pos) fa:=Gu h
theorem tE(ha:DE X a fa)(hb:DE X (.BoolOp .And (b::Ca) pos) fb):DE X (.BoolOp .And (a::b::Ca) pos) (Dm.nJ fa fb):=PE.weak (Gv ha hb) fun _ _ _=>JQ
theorem Hy(ha:DE X a fa)(hb:DE X (.BoolOp .Or (b::Ca) pos) fb):DE X (.BoolOp .Or (a::b::Ca) pos) (Dm.eOr fa fb):=PE.weak (Jl ha hb) fun _ _ _=>My
theorem xm(ha:DE X a fa):DE X (.UnaryOp .Not a pos) (Dm.pS fa):=PE.weak (Gw ha) fun _ _ _=>JR
noncomputable abbrev DW(X:Cx)(e:Expr)(f:FT):Prop:=PW X e (tDT f)
theorem PW.weak{t t':TT}(h:PW X e t)(k:∀σ H Q,t' σ H Q->t σ H Q):PW X e t':=fun whole yZ s σ H Q I q=>h whole yZ s σ H Q I (k σ H Q q)
variable{ta tb:FT}
theorem lP(h:DT X a ta):DW X (.BoolOp .And [a] pos) ta:=pw_and1 h
theorem AD(h:DT X a ta):DW X (.BoolOp .Or [a] pos) ta:=pw_or1 h
theorem w_and(ha:DT X a ta)(hb:DW X (.BoolOp .And (b::Ca) pos) tb):DW X (.BoolOp .And (a::b::Ca) pos) (Dm.g8 ta tb):=PW.weak (pw_and ha hb) fun _ _ _=>G9
theorem w_or(ha:DT X a ta)(hb:DW X (.BoolOp .Or (b::Ca) pos) tb):DW X (.BoolOp .Or (a::b::Ca) pos) (Dm.tOr ta tb):=PW.weak (pw_or ha hb) fun _ _ _=>JS
theorem t_w(h:DW X a ta):DT X a ta:=h.pt
theorem kR(h:DT X a ta):DT X (.UnaryOp .Not a pos) (Dm.fK ta):=PT.weak (Gs h) fun _ _ _=>G8
theorem kT(h:DE X e f)(he:∀whole,isTrue e X.env whole=(do let v <- whole;standAt e.pos;holding [v] (truthy v)):=by intro _;rfl):DT X e (Dm.tV f):=PT.weak (Gr h he) fun _ _ _=>vv
variable{tg:Expr}
theorem DJ(hg:Gl X "range")(hm:X.mg "range" = none)(ha:DA X [a] [fa])(hs:starEach [a] X.env=[(false,eval a X.env)]:=by rfl):DI X tg (.Call (.Name "range" p) [a] [] pos) (Dm.iR1 fa):=
 PI.weak (yi hg hm ha hs) fun _ _ _=>J0
theorem Kn(hg:Gl X "range")(hm:X.mg "range" = none)(ha:DA X [a,b] [fa,fb])(hs:starEach [a,b] X.env=[(false,eval a X.env),(false,eval b X.env)]:=by rfl)(hs2:starEach [b] X.env=[(false,eval b X.env)]:=by rfl):DI X tg (.Call (.Name "range" p) [a,b] [] pos) (Dm.iR2 fa fb):=
 PI.weak (yj hg hm ha hs hs2) fun _ _ _=>J2
end
end
section
variable{X:Cx}{st:Stmt}{Ca:List Stmt}{fs gs:FS}{e a b c:Expr}{f fa fb:FE}{pos:Pos}
section
variable{is:List Nat}{es:List Expr}{body:List Stmt}{x:Str}{t:FT}
theorem ck:DSs X [] Dm.sNx:=PSs.weak wI fun _ _ _=>Mz
theorem aj(h1:DS X st fs)(h2:DSs X Ca gs):DSs X (st::Ca) (Dm.aI fs gs):=PSs.weak (ig h1 h2) fun _ _ _=>JT
theorem aN(h1:DS X st fs):DSs X [st] fs:=C3 h1
theorem s_a(i:Nat){x:Str}{pos':Pos}(hN:X.N.Nodup)(he:DE X e f)(hi:X.N[i]?=some x:=by rfl)(hx:Loc X.env.scope x:=by trivial)(hs:swapsWith e (some (.Name x pos')) pos.line X.env=pure false:=by rfl)
  (hf:X.fn x=true\/X.env.scope.names.lookup x=some .local:=by trivial):DS X (.Assign [.Name x pos'] e pos) (Dm.sA i f):=PS.weak (u7 hN hi hx he hs hf) fun _ _ _=>Aj
theorem iF:PGs X [] (f9 []):=C4
theorem bS(i:Nat){px:Pos}(hN:X.N.Nodup)(h2:PGs X es (f9 is))(hi:X.N[i]?=some x:=by rfl)(hx:Loc X.env.scope x:=by trivial)
  (hf:X.fn x=true\/X.env.scope.names.lookup x=some .local:=by trivial) (hs:(assignEach (.Name x px::es) X.env).map (·.2)=assign (.Name x px) X.env::(assignEach es X.env).map (·.2):=by rfl):PGs X (.Name x px::es) (f9 (i::is)):=zJ (qW hN hi hx hf) h2 hs
theorem s_u{k:Nat}{tpos:Pos}(hc:X.calm=true)(hg:PGs X es (f9 is))(he:DE X e f)(hn:(assignEach es X.env).length=is.length:=by rfl)(hst:(assignEach es X.env).findIdx? (·.1)=none:=by rfl)
  (hs:swapsWithSole [.Tuple es k tpos] e pos.line X.env=pure false:=by rfl) (hw:swappedStores [.Tuple es k tpos] e X.env=pure none:=by rfl) (h1:(assignEach [.Tuple es k tpos] X.env).map (·.2)=[assign (.Tuple es k tpos) X.env]:=by rfl) :
  DS X (.Assign [.Tuple es k tpos] e pos) (Dm.sU is f):=PS.weak (zK he (u6 hc hg hn hst) hs hw h1) fun _ _ _=>Ak rfl
theorem s_e(he:DE X e f)(hs:swapsWith e none pos.line X.env=pure false:=by rfl):DS X (.Expr e pos) (Dm.sE f):=PS.weak (kH he hs) fun _ _ _=>G_
theorem s_r(he:DE X e f):DS X (.Return (some e) pos) (Dm.sR f):=PS.weak (Gx he) fun _ _ _=>JU
theorem eT{x y:List Stmt}(ht:DT X c t)(ha:DSs X x fs)(hb:DSs X y gs):DS X (.If c x y pos) (Dm.sIf t fs gs):=PS.weak (zH ht ha hb) fun _ _ _=>JV
theorem ji:DS X st (fun _=>none):=PS.weak zI fun _ _ _ ⟨_,_,_,_,z,_⟩=>by cases z
theorem xo(i:Nat){px ap cp:Pos}(he:DE X e f)(hi:X.N[i]?=some x:=by rfl)(hv:Vis X.env.scope x:=by trivial)(hd:(x == ("__debug__" : Str))=false:=by decide)
  (Lp:(x == ("__classdict__" : Str))=false:=by decide) (S1:attributeBase (.Name x px) "append" X.env (eval (.Name x px) X.env)=eval (.Name x px) X.env:=by rfl)
  (hfew:((backTo cp (starEach [e] X.env)).all (fun x=>!x.1)&&(backToKw cp (keywordEach [] X.env)).all (fun x=>x.1.isSome)
   && decide ([e].length+([]:List Keyword).length+(if ([]:List Keyword).isEmpty then 0 else 1)<30))=true:=by rfl)
  (R1:(ap.endLine == cp.line)=true:=by rfl) (hs:starEach [e] X.env=(false,eval e X.env)::starEach [] X.env:=by rfl) (hplain:(backTo cp (starEach [] X.env)).any (·.1)=false:=by rfl)
  (hsw:swapsWith (.Call (.Attribute (.Name x px) "append" ap) [e] [] cp) none pos.line X.env=pure false:=by rfl) :
  DS X (.Expr (.Call (.Attribute (.Name x px) "append" ap) [e] [] cp) pos) (Dm.rj i f):=
 PS.weak (kH (JE PySem.F.plainAttrs_list PySem.F.slot_list_append PySem.F.type_list_append qh (lG hi hv hd Lp) (aa he af hs) S1 hfew R1 hs hplain) hsw) fun _ _ _=>JX
theorem AE(i:Nat){j:Expr}{fj:FE}{px sp:Pos}(hj:DE X j fj)(he:DE X e f)(hi:X.N[i]?=some x:=by rfl)(hv:Vis X.env.scope x:=by trivial)(hd:(x == ("__debug__" : Str))=false:=by decide)
  (Lp:(x == ("__classdict__" : Str))=false:=by decide) (ha:∀ v,assign (.Subscript (.Name x px) j sp) X.env v=(do
   let ov <- holding [v] (eval (.Name x px) X.env)
   let iv <- holding [v,ov] (eval j X.env)
   standAt sp
   holding [v,ov,iv] (setItem ov iv v)
   release [v,ov,iv] []):=by intro _;rfl)
  (hs:swapsWithSole [.Subscript (.Name x px) j sp] e pos.line X.env=pure false:=by rfl) (hw:swappedStores [.Subscript (.Name x px) j sp] e X.env=pure none:=by rfl) (h1:(assignEach [.Subscript (.Name x px) j sp] X.env).map (·.2)=[assign (.Subscript (.Name x px) j sp) X.env]:=by rfl) :
  DS X (.Assign [.Subscript (.Name x px) j sp] e pos) (Dm.sS i fj f):=PS.weak (zK he (GB (lG hi hv hd Lp) hj set_list ha) hs hw h1) fun _ _ _=>JY
theorem ML(n:Nat)(hp:PassesOwn (model X.prog X.w) X.A X.env X.xe)(ht:DT X c t)(hb:DSs X body fs):DS X (.While c body [] pos) (Dm.whD t fs n):=PS.weak (zM hp ht hb) fun _ _ _=>Dj
structure TG'(X:Cx)(tg:Expr)(is:List Nat)(bd:Dm.FB):Prop where
 ex:∃g,PG X tg g/\BD is g bd
theorem g_n(i:Nat){px:Pos}(hN:X.N.Nodup)(hi:X.N[i]?=some x:=by rfl)(hx:Loc X.env.scope x:=by trivial)(hf:X.fn x=true\/X.env.scope.names.lookup x=some .local:=by trivial) :
  TG' X (.Name x px) [i] (Dm.bN i):=⟨⟨_,qW hN hi hx hf,w_ i⟩⟩
theorem g_t{k:Nat}{tpos:Pos}(hc:X.calm=true)(hg:PGs X es (f9 is))(hn:(assignEach es X.env).length=is.length:=by rfl)(hst:(assignEach es X.env).findIdx? (·.1)=none:=by rfl):TG' X (.Tuple es k tpos) is (Dm.bT is):=
 ⟨⟨_,u6 hc hg hn hst,Al is rfl⟩⟩
theorem mw{tg it:Expr}{fi:Dm.FI}{bd:Dm.FB}(hp:PassesOwn (model X.prog X.w) X.A X.env X.xe)(hc:X.calm=true)(hi:DI X tg it fi)(hg:TG' X tg is bd)(hb:DSs X body fs)
  (hs:∀x,foldedSetIterable it X.env x=pure x:=by intro _;rfl):DS X (.For tg it body [] pos) (Dm.lJ fi bd fs):=by
 obtain⟨g,h1,h2⟩:=hg.ex;exact PS.weak (GC hp hc hi h1 hb hs) fun _ _ _=>JZ h2
end
end
noncomputable def tyName:Dat->String
 |.non => "NoneType"
 |.bl _ => "bool"
 |.int _ => "int"
 |.str _ => "str"
 |.tup _ => "tuple"
 |.lst _ => "list"
 |.dct _ _ => "dict"
 |.dcp _ _ => "dict"
 |.exc _ => "dict"
 |.bC _ _ => "dict"
 |.fn _ => "dict"
def yK(T:String)(p:Dat->Bool):Prop:=∀(K:eg) (d:Dat),NK K (.type (tyName d)) (.type T)=some (p d)
theorem DL:yK "int" Dm.isI:=fun K d=>by cases d<;>rfl
theorem AF:yK "bool" Dm.isB:=fun K d=>by cases d<;>rfl
theorem AG:yK "list" Dm.isL:=fun K d=>by cases d<;>rfl
theorem kit_tuple:yK "tuple" Dm.isT:=fun K d=>by cases d<;>rfl
theorem AH{K:eg}{H:Hp}{v:V}{d:Dat}(r:Rep H v d)(nx:∀C,d≠.exc C/\d≠.fn C/\∀v,d≠.bC C v):kJ K H v (.type (tyName d)):=by
 cases r with
 |non=>exact .non
 |bl b=>exact .bl b
 |int i=>exact .int i
 |str s=>exact .str _
 |tup q _=>exact .tup q
 |lst q _=>
  rcases q with q | ⟨o,q⟩
  ·exact .lst q
  ·exact .frz q
 |dct q _ _=>exact .dK q
 |dcp q _ _=>exact .dT q
 |exc _=>exact absurd rfl (nx _).1
 |bC _ _=>exact absurd rfl ((nx _).2.2 _)
 |fn _=>exact absurd rfl (nx _).2.1
def Ko(K:eg)(T:String):List V->Hp->VK->Prop:=fun xs H Q=>∃x t b,xs=[x,.ty T]/\kJ K H x t/\NK K t (.type T)=some b/\Q (.bl b) H
section
variable{X:Cx}{e:Expr}{f:FE}{p p2 pos:Pos}
theorem AI{T:String}:fy X (.builtin "isinstance") (Ko X.K T):=by intro yZ s σ H xs us Q I r h;obtain⟨x,t,b,rfl,ty,e,q⟩:=h;obtain⟨u,u2,rfl,rx,ry⟩:=vals2 r;cases ry;exact yq I rx ty e fun tk=>⟨.bl b,H,I.tok tk,rfl,q⟩
theorem Kp{K:eg}{T:String}{p:Dat->Bool}(kp:yK T p){σ:L2.St}{H:Hp}{Q:VK}(h:tD (Dm.e1 (Dm.vm p) f) σ H Q):tCB (Ko K T) (ju (tD f) (ju (tC (.ty T)) yr)) σ H Q:=by
 obtain⟨H0,ρ,x,ρ',st,e,k⟩:=h;unfold Dm.e1 at e;split at e
 ·cases e
 rename_i x1 ρ1 e1;split at e
 ·cases e
 rename_i dx p1;have nx:∀C,dx≠.exc C/\dx≠.fn C/\∀v,dx≠.bC C v:=fun C=>⟨fun z=>(by subst z;cases e),fun z=>(by subst z;cases e),fun v z=>(by subst z;cases e)⟩;have ev:Dm.vm p dx=Dm.vB (p dx):=by cases dx<;>first | rfl | exact absurd rfl (nx _).1 | exact absurd rfl (nx _).2.1 | exact absurd rfl ((nx _).2.2 _)
 rw[ev]at e;dsimp only at e;cases e;refine⟨H0,ρ,x1,_,st,e1,fun v H1 Hb t1 r1=>?_⟩;exact⟨v,_,_,rfl,AH ((r1.look t1.st p1).full t1.st.same) nx,kp K dx,k _ H1 Hb t1 (Rep.bl _)⟩
theorem xq{T:String}{tn:Str}{p':Dat->Bool}(kp:yK T p')(hvT:bootBuiltins tn=some (.type T))(hgT:Gl X tn)(hmT:X.mg tn=none)(hg:Gl X "isinstance")(hm:X.mg "isinstance" = none)(h:DE X e f)
  (hn:tn ≠ "__name__" := by decide) (Lh:(tn == ("__debug__" : Str))=false:=by decide)
  (he:starEach [e,.Name tn p2] X.env=(false,eval e X.env)::starEach [.Name tn p2] X.env:=by rfl) (Il:(backTo pos (starEach [.Name tn p2] X.env)).any (·.1)=false:=by rfl) (he2:starEach [.Name tn p2] X.env=(false,eval (.Name tn p2) X.env)::starEach [] X.env:=by rfl) :
  DE X (.Call (.Name "isinstance" p) [e,.Name tn p2] [] pos) (Dm.e1 (Dm.vm p') f):=
 PE.weak (iw AI hg hm OP (cY h (cY (wH (v:=.ty T) hgT hmT hvT rfl hn Lh) iu he2) he) (he:=he) (Il:=Il)) fun _ _ _=>Kp kp
end
section
variable{X:Cx}{a b c e:Expr}{f fa fb fc:FE}{p p2 pos:Pos}
section
variable{g h:Dat->Dat->Option RV}
theorem DM{r r':R2}(o1:OpD r g)(o2:OpD r' h){σ:L2.St}{H:Hp}{Q:VK}(hh:tD (Dm.lK g h fa fb fc) σ H Q):zR r r' (tD fa) (tD fb) (tD fc) σ H Q:=by
 obtain⟨H0,ρ,x,ρ',st,e,k⟩:=hh;unfold Dm.lK at e;split at e
 ·cases e
 rename_i x1 ρ1 e1;split at e
 ·cases e
 rename_i y1 ρ2 e2;split at e
 ·cases e
 rename_i dx p1;split at e
 ·cases e
 rename_i dy p2;refine⟨H0,ρ,x1,ρ1,st,e1,fun v H1 Hb t1 r1=>⟨H1,ρ1,y1,ρ2,t1.st,e2,fun u H2 Hc t2 r2=>?_⟩⟩;split at e
 ·rename_i gz;refine o1 H2 Hc v u dx dy _ _ t2.st.same ((r1.mono t2).look t2.st p1) (r2.look t2.st p2) gz fun w H3 Hd g3 r3=>?_;refine⟨true,Rep.pU r3,?_⟩;rw[if_pos rfl];have t3:=t2.trans (.grow t2.st g3);have r2':=r2.mono (.grow t2.st g3);split at e
  ·cases e
  rename_i z ρ3 e3;split at e
  ·cases e
  rename_i dy' p3;split at e
  ·cases e
  rename_i dz p4;split at e
  ·cases e
  rename_i w2 hz;cases e;refine⟨H3,ρ2,z,_,t3.st,e3,fun w' H4 He t4 r4=>?_⟩;refine o2 H4 He u w' dy' dz w2 Q t4.st.same ((r2'.mono t4).look t4.st p3) (r4.look t4.st p4) hz fun w5 H5 Hf g5 r5=>?_;exact k w5 H5 Hf (t1.trans (t3.trans (t4.trans (.grow t4.st g5)))) ((r5.toV t4.st).early fun a n=>(t1.trans (t3.trans t4)).stp.gone n)
 ·rename_i gz;cases e;refine o1 H2 Hc v u dx dy _ _ t2.st.same ((r1.mono t2).look t2.st p1) (r2.look t2.st p2) gz fun w H3 Hd g3 r3=>?_;refine⟨false,Rep.pU r3,?_⟩;rw[if_neg N6];exact k _ H3 Hd (t1.trans (t2.trans (.grow t2.st g3))) (Rep.bl false)
 ·cases e
theorem DN{op op':CmpOp}{r r':R2}(o1:OpR X (compareOp op) r)(q1:OpD r g)(o2:OpR X (compareOp op') r')(q2:OpD r' h)(ha:DE X a fa)(hb:DE X b fb)(hc:DE X c fc)
  (hm:lastMarks [op,op'] [b,c]=false:=by with_unfolding_all rfl):DE X (.Compare a [op,op'] [b,c] pos) (Dm.lK g h fa fb fc):=PE.weak (zS o1 o2 ha hb hc hm) fun _ _ _=>DM q1 q2
end
end
section
variable{X:Cx}{nm:List Str}{M7 tg iter:Expr}{M5:List Expr}{scope:Scope}{pos:Pos}{own:List Str}{fi:Dm.FI}{bd:Dm.FB}{is:List Nat}{t:FT}{f:FE}
noncomputable abbrev DTs(X:Cx)(M5:List Expr)(t:FT):Prop:=PTs X M5 (tDT t)
theorem jG:DTs X [] Dm.gX:=fun yZ s σ H Q I h=>by obtain⟨H0,ρ,b,ρ',st,e,k⟩:=h;cases e;exact Dq yZ s σ H Q I (k H0 H (.refl st))
theorem AJ{c:Expr}(h:DT X c t):DTs X [c] t:=Dr h
structure TGc(X:Cx)(nm:List Str)(scope:Scope)(own:List Str)(tg:Expr)(is:List Nat)(bd:Dm.FB):Prop where
 ex:∃g,(∀cl C s H fp,PG (b5 X nm scope own cl C s H fp) tg g)/\BD is g bd
theorem c_n(i:Nat){x:Str}{px:Pos}(hN:(nm++own).Nodup)(hi:(nm++own)[i]?=some x)(hx:(relabel scope X.env).names.lookup x=some .local):TGc X nm scope own (.Name x px) [i] (Dm.bN i):=
 ⟨⟨_,fun cl C s H fp=>qW (X:=b5 X nm scope own cl C s H fp) hN hi (.inl hx) (.inr hx),w_ i⟩⟩
theorem c_t{es:List Expr}{k:Nat}{tpos:Pos}(hc:X.calm=true)(hg:∀cl C s H fp,PGs (b5 X nm scope own cl C s H fp) es (f9 is))(hn:∀cl C,(assignEach es (compEnvC scope cl C X.env)).length=is.length:=by intro _ _;rfl)
  (hst:∀cl C,(assignEach es (compEnvC scope cl C X.env)).findIdx? (·.1)=none:=by intro _ _;rfl):TGc X nm scope own (.Tuple es k tpos) is (Dm.bT is):=
 ⟨⟨_,fun cl C s H fp=>u6 (X:=b5 X nm scope own cl C s H fp) hc (hg cl C s H fp) (hn cl C) (hst cl C),Al is rfl⟩⟩
theorem Hz(j:Nat){y:Str}{py S2:Pos}(hN:X.N.Nodup)(hc:X.calm=true)(S:gE X nm scope)(hi:DI X tg iter fi)(hg:TGc X nm scope own tg is bd)(ht:∀cl C s H fp,DTs (b5 X nm scope own cl C s H fp) M5 t)(he:∀cl C s H fp,DE (b5 X nm scope own cl C s H fp) M7 f)
  (hl:∀i∈is,X.N.length<=i) (hj:X.N[j]?=some y:=by rfl) (hy:Loc X.env.scope y:=by trivial)
  (hsw:swapsWith (.ListComp M7 [⟨tg,iter,M5,0⟩] scope pos) (some (.Name y py)) S2.line X.env=pure true:=by rfl) (hs:∀x,foldedSetIterable iter X.env x=pure x:=by intro _;rfl)
  (hf:X.fn y=true\/X.env.scope.names.lookup y=some .local:=by trivial):DS X (.Assign [.Name y py] (.ListComp M7 [⟨tg,iter,M5,0⟩] scope pos) S2) (Dm.sA j (Dm.fT fi own.length bd t f)):=by
 obtain⟨g,h1,h2⟩:=hg.ex;intro yZ s σ H D I h;exact mj hN hj hy hc S hi h1 ht he hsw hs hf yZ s σ H D I (An h2 (fun i hi=>by rw[I.len];exact hl i hi) (Aj h))
end
theorem HA:CallD (fun xs H Q=>(∃i,xs=[.int i]/\Q (.int i) H)\/∃k,xs=[.bl k]/\Q (.int (if k then 1 else 0)) H) Dm.Af:=by
 intro H0 H vs ds z Q s rs e k;unfold Dm.Af at e;split at e
 ·cases e;cases rs with
  |cons r rr=>cases rr;cases aM r;exact .inl ⟨_,rfl,k _ H0 H (aX.refl s) (.int _)⟩
 ·cases e;cases rs with
  |cons r rr=>cases rr;cases xg r;exact .inr ⟨_,rfl,k _ H0 H (aX.refl s) (.int _)⟩
 ·cases e
section
variable{X:Cx}{a b c e:Expr}{f:FE}{fs:List FE}{p p2 pos:Pos}
theorem Kq(hg:Gl X "int")(hm:X.mg "int" = none)(ha:DA X [e] fs)(he:starEach [e] X.env=[(false,eval e X.env)]:=by rfl)(Il:(backTo pos (starEach [] X.env)).any (·.1)=false:=by rfl) :
  DE X (.Call (.Name "int" p) [e] [] pos) (Dm.eB Dm.Af fs):=Hv yo HA (by rfl) hg hm ha (he:=he) (Il:=Il)
end
noncomputable def eU(sc:Scope):List Str->List Str->Bool
 |[],[]=>true
 |x::N,y::nm=>(x == y||(sc.names.lookup y).isNone)&&eU sc N nm
 |_,_=>false
theorem eU.len{sc:Scope}:∀{N nm:List Str},eU sc N nm=true->nm.length=N.length
 |[],[],_=>rfl
 |[],_::_,h=>by cases h
 |_::_,[],h=>by cases h
 |x::N,y::nm,h=>by rw[eU,NF]at h;rw[NZ,NZ,eU.len h.2]
theorem eU.at{sc:Scope}:∀{N nm:List Str},eU sc N nm=true->∀(i:Nat) (x:Str),nm[i]?=some x->N[i]?=some x\/sc.names.lookup x=none
 |[],[],_,i,x,e=>by simp at e
 |[],_::_,h,_,_,_=>by cases h
 |_::_,[],h,_,_,_=>by cases h
 |x::N,y::nm,h,0,z,e=>by
  rw[eU,NF,QH]at h;simp at e;subst e;rcases h.1 with q | q
  ·have:x=y:=by simpa using q
   subst this;exact .inl rfl
  ·exact .inr (by simpa using q)
 |x::N,y::nm,h,i+1,z,e=>by rw[eU,NF]at h;rw[OO]at e ⊢;exact eU.at h.2 i z e
noncomputable def tF(osc:Scope)(N nm:List Str)(sc:Scope):Bool:=
 sc.names.all (fun y=>y.2 != .cell)&&sc.names.all (fun y=>y.2 != .local||sc.names.lookup y.1 == some .local) &&
 sc.names.all (fun y=>y.2 != .free||(osc.names.lookup y.1 == some .cell||osc.names.lookup y.1 == some .free))&&nm.all (fun x=>sc.names.lookup x != some .local)&&eU sc N nm
theorem gE.of{X:Cx}{nm:List Str}{scope:Scope}(h:tF X.env.scope X.N nm scope=true)(hk:scope.kind=.function):gE X nm scope:=by
 unfold tF at h;simp only[NF,Ov]at h;obtain⟨⟨⟨⟨h1,h2⟩,h3⟩,h4⟩,h5⟩:=h;refine⟨hk,fun y hy=>?_,fun y hy hl=>?_,fun y hy hf=>?_,fun x hx=>?_,eU.len h5,eU.at h5⟩
 ·have:=h1 y hy;simpa using this
 ·have:=h2 y hy;rw[hl]at this
  simpa using this
 ·have:=h3 y hy;rw[hf]at this;have:(X.env.scope.names.lookup y.1 == some .cell||X.env.scope.names.lookup y.1 == some .free)=true:=by simpa using this
  rw[QH,beq_iff_eq,beq_iff_eq]at this;exact this
 ·have:=h4 x hx;simpa using this
section
variable{X:Cx}{M7 tg iter:Expr}{M5:List Expr}{scope:Scope}{pos:Pos}{fi:Dm.FI}{bd:Dm.FB}{is:List Nat}{t:FT}{f:FE}
theorem AK{l:List Nat}{n:Nat}(h:(l.all fun i=>decide (n<=i))=true):∀i∈l,n<=i:=fun i hi=>of_decide_eq_true (Ov.mp h i hi)
theorem HB(j:Nat)(nm own:List Str){y:Str}{py S2:Pos}(hN:X.N.Nodup)(hg:TGc X nm scope own tg is bd)(hi:DI X tg iter fi)(ht:∀cl C s H fp,DTs (b5 X nm scope own cl C s H fp) M5 t)(he:∀cl C s H fp,DE (b5 X nm scope own cl C s H fp) M7 f)
  (hc:X.calm=true:=by rfl) (hk:scope.kind=.function:=by rfl) (hS:tF X.env.scope X.N nm scope=true:=by rfl) (hl:(is.all fun i=>decide (X.N.length<=i))=true:=by rfl) (hj:X.N[j]?=some y:=by rfl) (hy:Loc X.env.scope y:=by trivial)
  (hsw:swapsWith (.ListComp M7 [⟨tg,iter,M5,0⟩] scope pos) (some (.Name y py)) S2.line X.env=pure true:=by rfl) (hs:∀x,foldedSetIterable iter X.env x=pure x:=by intro _;rfl)
  (hf:X.fn y=true\/X.env.scope.names.lookup y=some .local:=by trivial):DS X (.Assign [.Name y py] (.ListComp M7 [⟨tg,iter,M5,0⟩] scope pos) S2) (Dm.sA j (Dm.fT fi own.length bd t f)):=
 Hz j hN hc (gE.of hS hk) hi hg ht he (AK hl) hj hy hsw hs hf
end
section
variable{f:FE}{a:Addr}{X:Cx}{H:Hp}
theorem PI.or{tg it:Expr}{t t':TI}(h:PI X tg it t)(h':PI X tg it t'):PI X tg it (fun σ H R=>t σ H R\/t' σ H R):=fun yZ s σ H R I q=>q.elim (h yZ s σ H R I) (h' yZ s σ H R I)
theorem Kr{K:eg}{σ:L2.St}{R:It->Hp->Prop}(h:tDI (Dm.iS f) σ H R):sG K (tD f) σ H R\/zN K (tD f) σ H R:=by
 obtain⟨H0,ρ,ys,ρ',st,e,k⟩:=h;unfold Dm.iS at e;split at e
 ·cases e
 rename_i x ρ1 e1;split at e
 ·rename_i ds ρ2 e2;cases e;exact .inl (MA ⟨H0,ρ,_,_,st,by unfold Dm.iL;rw[e1];dsimp only;rw[e2],k⟩)
 ·rename_i ds ρ2 e2;cases e;exact .inr (MB ⟨H0,ρ,_,_,st,by unfold Dm.iT;rw[e1];dsimp only;rw[e2],k⟩)
 ·cases e
theorem i_S{tg e:Expr}(h:DE X e f):DI X tg e (Dm.iS f):=PI.weak (PI.or (wL h) (zO h)) fun _ _ _=>Kr
noncomputable def AL(K:eg):Bool:=K.all fun p=>match p.2.cls with | .type n=>n != "list" | _=>true
theorem lookup_mem{o:Obj}:∀{K:List (Addr×Obj)},K.lookup a=some o->(a,o)∈K
 |[],h=>by cases h
 |(b,x)::r,h=>by
  rw[Ob]at h;cases q:a == b with
  |true=>
   rw[q]at h;cases h;have:a=b:=by simpa using q
   rw[this];exact NJ
  |false=>rw[q]at h;exact NB _ (lookup_mem h)
theorem HC{f:List Dat->Option RV}{K:eg}{ns:List Int}{E:XK}(hf:f [.lst (ns.map Dat.int)]=some (.val (.bl true)))(hK:AL K=true)(hS:SqL K H a (ns.map V.int)) :
  spD f [.ref a] H (fun v _=>v=.bl true) E:=by
 have hq:Rd H a (.lst (ns.map V.int)):=by
  rcases hS with h | ⟨o,its,n,hk,hc,_⟩
  ·exact h
  ·have:=Ov.mp hK _ (lookup_mem hk);dsimp only at this;rw[hc]at this;exact absurd this (by decide)
 have hr:∀ns:List Int,aR H (ns.map V.int) (ns.map Dat.int):=fun ns=>by
  induction ns with
  |nil=>exact .nil
  |cons n ns ih=>exact .cons (.int n) ih
 exact⟨H,_,_,aF.refl _,.cons (.lst hq (hr ns)) .nil,hf,fun v H0' H' _ r=>Rep.pU r⟩
end
end Br
namespace Dm
noncomputable def iRd(a b c:FE):FI:=fun ρ=>match a ρ with
 | some (.val (.int i),ρ1)=>(match b ρ1 with
  | some (.val (.int j),ρ2)=>(match c ρ2 with
   |some (.val (.int k),ρ3)=>if k=-1/\j<=BIG/\-BIG<=j/\i<=BIG/\-BIG<=i then some (downs i (i-j).toNat,ρ3) else none
   |_=>none)
  |_=>none)
 |_=>none
noncomputable def yL(a:FE):FI:=fun ρ=>match a ρ with
 |none=>none
 |some (x,ρ1)=>match tk ρ1 x with
  |some (.lst ds,ρ2)=>some (ds.reverse,ρ2)
  |_=>none
noncomputable def kU:Nat->List Dat->List Dat
 |_,[]=>[]
 |i,d::ds=>.tup [.int (i:Nat),d]::kU (i+1) ds
noncomputable def iEn(a:FE):FI:=fun ρ=>match a ρ with
 |none=>none
 |some (x,ρ1)=>match tk ρ1 x with
  |some (.lst ds,ρ2)=>some (kU 0 ds,ρ2)
  |_=>none
noncomputable def nX(d:Dat):Option RV:=match d with
 |.lst ds=>some (.new (.lst ds.reverse))
 |_=>none
noncomputable def qw:List Dat->Option RV
 |[.int j]=>if j<=1000000/\-1000000<=j then some (.new (.lst (ups 0 j.toNat))) else none
 |_=>none
end Dm
namespace Br
open PySem PySem.Spec PyProof.Rows L2
theorem qx{X:Cx}{yZ:List (Addr×Obj)}{σ:L2.St}{H:Hp}{s:Shared}{h':Heap}{t':Nat}{fp:List Addr}{p:Addr}{o:HO}(I:Inv X yZ σ H s)(hf:∀b∈fp,pR X yZ H b)
  (k:∀b u,b∉fp->s.heap.get? b=some u->h'.get? b=some u) (hp:s.heap.objs.size<=p) (new:br X.prog X.w (upd H p o) h' p o):Inv X yZ σ (upd H p o) { s with heap:=h',toks:=t' }:=by
 have hn:H p=none:=I.hok.fresh hp;have nf:∀b u,H b=some u->b∉fp:=fun b u e z=>by rw[(hf b z).1]at e;cases e
 have nL:X.env.locals∉fp:=fun z=>(hf _ z).2.1 rfl;refine I.step (g':=s.gens) (d':=s.drawn) (ch:=fp) (fun b hb=>?_) (fun b u _ _ hc e _=>k b u hc e) (fun b u _ _ hc e _=>⟨u.slots,k b u hc e⟩)
  (fun b u _ e n=>by rw[ao (NV (NO (Nx e) hp))];exact n) (fun b u hc e=>⟨u,k b u hc e⟩)
  (fun b xs q=>by rw[ao (aS q hn)];exact q) (fun b u xs q=>by rw[ao (aS q hn)];exact q) (fun b _ _ _ q=>by rw[ao (aS q hn)];exact q) (fun m hm=>?_) (fun b u e=>?_) I.bare
 ·obtain⟨f0,f1,f2,f3,f4,f5⟩:=hf b hb;exact⟨f3,f1,f4,f5⟩
 ·obtain⟨o,es,ep,ho,r⟩:=hm;exact⟨o,es,ep,k _ o nL ho,r⟩
 ·by_cases hb:b=p
  ·subst hb;rw[au]at e;cases e;exact new
  ·rw[ao hb]at e;refine(I.hok b u e).stay (fun c v hc q=>k c v ?_ q) (fun c q=>by rw[ao (aS q hn)];exact q) (fun c _ _ q=>by rw[ao (aS q hn)];exact q) fun c xs q=>by rw[ao (aS q hn)];exact q
   rcases hc with z | z
   ·rw[z];exact nf b u e
   ·exact nf c _ z
noncomputable def Itv(K:eg)(a:Addr)(n:Nat):It:=
 ⟨fun i H=>∃xs x,SqL K H a xs/\xs.length=n/\xs.reverse[i]?=some x,fun i H x H'=>H'=H/\∀xs,SqL K H a xs->xs.reverse[i]?=some x,fun i H=>n<=i⟩
theorem AM{P:Program}{w:World}{K:eg}{tg:Expr}(a it:Addr)(n:Nat):Turn P w K tg (Itv K a n) [it] it (fun i h=>i<=n/\h.IsRevIter it a ((n:Int)-1-(i:Nat))) where
 mem:=by simp
 obj:=fun i h st b hb=>by
  have e:b=it:=by simpa using hb
  subst e;obtain⟨_,o,e,c,d⟩:=st;exact⟨o,e,fun v z=>by rw[d]at z;cases z⟩
 keep:=fun i h h' st k=>⟨st.1,st.2.at fun o e=>k it (by simp) o e⟩
 item:=by
  intro X hP hw hK hc i yZ s σ H E I hf st hg;subst hP hw hK;obtain⟨xs,x,hq,hl,hx⟩:=hg;obtain⟨its,rv,p,hz⟩:=I.list hq;have hi:i<n:=by have:=(Ny.mp hx).1;rw[OE,hl]at this;exact this
  rw[PO (by lia),hl]at hx;obtain⟨u,hu,ru⟩:=rv.get hx;obtain⟨f0,f1,f2,f3,f4,f5⟩:=hf it (by simp);obtain⟨_,st⟩:=st;have ei:((n:Int)-1-(i:Nat))=((n-1-i:Nat):Int):=by lia
  rw[ei]at st;refine wpAny_pyNext_rev_item st p.isList (x:=u) (by simpa using hu) fun h' st' sb=>?_;have ej:((n-1-i:Nat):Int)-1=(n:Int)-1-((i+1:Nat):Int):=by lia
  rw[ej]at st';have I1:Inv X yZ σ H { s with heap:=h' }:=I.turned (t':=s.toks) (fun b o hb e=>(sb.2 b hb).trans e) f0 f1 f3 f4 f5;obtain⟨o,e,c,d⟩:=id st';refine⟨u,rfl,wK (s:={ s with heap:=h' }) e c d (by decide) ⟨x,H,I1,ru,⟨rfl,fun ys hy=>?_⟩,⟨hi,st'⟩,fun b hb=>(hf b hb).1⟩⟩;rw[I.h_ hy hq,PO (by lia),hl];exact hx
 done:=by
  intro X hP hw hK hc i yZ s σ H E I hf st hg;subst hP hw hK;obtain⟨f0,f1,f2,f3,f4,f5⟩:=hf it (by simp);obtain⟨h1,st⟩:=st;have h2:n<=i:=hg;have ei:((n:Int)-1-(i:Nat))=-1:=by lia
  rw[ei]at st;exact wpAny_pyNext_rev_end (I.ok.hd hc) st fun h' eb=>⟨rfl,I.turned (t':=s.toks) (fun b o hb e=>eb b o hb e) f0 f1 f3 f4 f5⟩
 self:=fun _ _ _ _ _ st h=>wpAny_pyIter_revIter st.2 h
def Fw(K:eg)(tl:TE):TI:=fun σ H R=>tl σ H fun x H1=>∃a xs,x=.ref a/\SqL K H1 a xs/\R (Itv K a xs.length) H1
section
variable{X:Cx}{tg l:Expr}{tl:TE}{p pos:Pos}
theorem AO{Q:Value->Shared->Prop}{Qx:VK}{yZ:List (Addr×Obj)}{s:Shared}{σ:L2.St}{H:Hp}(hg:Gl X "reversed")(hm:X.mg "reversed" = none)(hl:PE X l tl)(hs:starEach [l] X.env=[(false,eval l X.env)])(I:Inv X yZ σ H s)(h:tl σ H Qx)
  (k:∀x H1 s1,Inv X yZ σ H1 s1->Qx x H1->∃a xs,x=.ref a/\SqL X.K H1 a xs/\∀its:List Value,Vals xs its->PlainL s1.heap a its.toArray->xs.length<=sizeLine->Q (.ref s1.heap.objs.size) { s1 with heap:=s1.heap.push (revObj a ((its.toArray.size:Int)-1)) }) :
  wpAny (model X.prog X.w) X.A (eval (.Call (.Name "reversed" p) [l] [] pos) X.env) Q X.xe s:=by
 refine Call_ (fJ I hg hm boot_reversed (N8 (spliced_more ?_ (by rw[hs];rfl)) (by rw[hs];rfl) rfl));refine thn (hl yZ s σ H _ I h) fun v s1 ⟨x,H1,I1,r1,q1⟩=>?_;obtain⟨a,xs,e,hq,q⟩:=k x H1 s1 I1 q1;subst e;cases r1;obtain⟨its,rv,pl,hz⟩:=I1.list hq;refine OY (call_reversed_list pl.isList (q its rv pl hz))
theorem HD(hg:Gl X "reversed")(hm:X.mg "reversed" = none)(hl:PE X l tl)(hs:starEach [l] X.env=[(false,eval l X.env)]:=by rfl):PI X tg (.Call (.Name "reversed" p) [l] [] pos) (Fw X.K tl):=by
 intro yZ s σ H R I h;refine AO hg hm hl hs I h fun x H1 s1 I1 q1=>?_;obtain⟨a,xs,e,hq,q⟩:=q1;refine⟨a,xs,e,hq,fun its rv pl hz=>?_⟩;have hn:(its.toArray.size:Int)=((xs.length:Nat):Int):=by rw[NG,rv.length]
 have st:({ s1 with heap:=s1.heap.push (revObj a ((its.toArray.size:Int)-1)) }:Shared).heap.IsRevIter s1.heap.objs.size a (((xs.length:Nat):Int)-1-((0:Nat):Int)):=⟨_,Og _ rfl,rfl,by rw[hn];simp[revObj]⟩
 refine wpAny_pyIter_revIter st ?_;refine⟨s1.heap.objs.size,[s1.heap.objs.size],_,_,H1,rfl,I1.kept (t':=s1.toks) fun b o e=>HT _ e,AM a _ xs.length,⟨Od _,st⟩,fun b hb=>?_,q⟩;have e:b=s1.heap.objs.size:=by simpa using hb
 subst e;exact I1.yg (NC _) (I1.hok.fresh (NC _))
end
noncomputable def Ite(K:eg)(a:Addr):It:=
 ⟨fun i H=>∃xs x,SqL K H a xs/\xs[i]?=some x,fun i H x H'=>∃p v,H p=none/\x=.ref p/\H'=upd H p (.tup [.int i,v])/\∀xs,SqL K H a xs->xs[i]?=some v,fun i H=>∃xs,SqL K H a xs/\xs.length<=i⟩
theorem yM{P:Program}{w:World}{K:eg}{elts:List Expr}{x1}{tp:Pos}(a e it:Addr)(Nb:e≠it):Turn P w K (.Tuple elts x1 tp) (Ite K a) [e,it] e (fun i h=>(∃old,IsEnum h e it (i:Nat) old)/\h.IsListIter it a i) where
 mem:=by simp
 obj:=fun i h st b hb=>by
  obtain⟨⟨old,he⟩,o,e1,c,d⟩:=st;rcases Dp.mp hb with rfl | hb
  ·exact ⟨_,he,fun v z=>by have z':Pd _=QC v:=z;cases z'⟩
  ·have e2:b=it:=by simpa using hb
   subst e2;exact⟨o,e1,fun v z=>by rw[d]at z;cases z⟩
 keep:=fun i h h' st k=>⟨let ⟨old,he⟩:=st.1;⟨old,k e (by simp) _ he⟩,st.2.at fun o z=>k it (by simp) o z⟩
 item:=by
  intro X hP hw hK hc i yZ s σ H E I hf st hg;subst hP hw hK;obtain⟨xs,x,hq,hx⟩:=hg;obtain⟨its,rv,p,hz⟩:=I.list hq;obtain⟨u,hu,ru⟩:=rv.get hx;obtain⟨⟨old,he⟩,M4⟩:=st;refine wpAny_pyNext_enum_item he M4 p.isList (x:=u) (by simpa using hu) Nb fun h1 heo MM ht1 hz1 hk1=>?_;refine⟨_,rfl,wpAny_letOwnedTupleGo_enum heo fun h2 he2 hs2=>?_⟩;have M6:e<s.heap.objs.size:=Nx he;have ht2:h2.get? s.heap.objs.size=some { cls:=.type "tuple",data:=.seq #[.int i s.toks,u] }:=(hs2.2 _ (OI M6)).trans ht1;have k2:∀b o,b∉[e,it]->s.heap.get? b=some o->h2.get? b=some o:=fun b o hb z=>by have n1:b≠e:=fun y=>hb (by simp[y]);have n2:b≠it:=fun y=>hb (by simp[y]);exact(hs2.2 b n1).trans (hk1 b o n1 n2 z)
  have hn:H s.heap.objs.size=none:=I.hok.fresh (NC _);have I2:Inv X yZ σ (upd H s.heap.objs.size (.tup [.int i,x])) { s with heap:=h2,toks:=s.toks+1 }:=
   qx I hf k2 (NC _) ⟨by simp[sizeLine],[.int i s.toks,u],.cons ⟨s.toks,rfl⟩ (.cons ru .nil),_,ht2,rfl,_,rfl⟩
  refine⟨.ref s.heap.objs.size,_,I2,rfl,⟨_,x,hn,rfl,rfl,fun ys hy=>by rw[I.h_ hy hq];exact hx⟩,⟨⟨u,?_⟩,?_⟩,fun b hb=>?_⟩
  ·have:(((i+1:Nat):Int))=(i:Int)+1:=by lia
   rw[this];exact he2
  ·exact MM.at fun o z=>(hs2.2 it (N2 Nb)).trans z
  ·have hb1:b≠s.heap.objs.size:=fun y=>by
    rcases Dp.mp hb with z | z
    ·rw[y]at z;exact absurd z (OI M6)
    ·have z':b=it:=by simpa using z
     obtain⟨o,ho,_⟩:=M4;have:=Nx ho;rw[<- z',y]at this;exact Oh _ this
   rw[ao hb1];exact(hf b hb).1
 done:=by intro X hP hw hK hc i yZ s σ H E I hf st hg;subst hP hw hK;obtain⟨xs,hq,hx⟩:=hg;obtain⟨its,rv,p,hz⟩:=I.list hq;obtain⟨f0,f1,f2,f3,f4,f5⟩:=hf it (by simp);obtain⟨⟨old,he⟩,M4⟩:=st;have hl:=rv.length;exact wpAny_pyNext_enum_end (I.ok.hd hc) he M4 p.isList (by simp;lia) fun h' eb=>⟨rfl,I.turned (t':=s.toks) (fun b o hb e=>eb b o hb e) f0 f1 f3 f4 f5⟩
 self:=fun A i s Q E st h=>by
  obtain⟨⟨old,he⟩,M4⟩:=st;have hT:s.TypeIs (.ref e) "enumerate" := ⟨_,he,rfl⟩
  refine wpAny_pyIter_slot hT F.slot_enumerate_iter (wpAny_call_entry F.slot_enumerate_iter hT F.entry_enumerate_iter ?_ (F.args_enumerate_iter_1 _));show wpAny _ _ (ret (.ref e)) _ _ s;exact wpAny_pure ⟨_,rfl,"enumerate",_,hT,F.slot_enumerate_next.lookup,h⟩
def Ks(K:eg)(tl:TE):TI:=fun σ H R=>tl σ H fun x H1=>∃a,x=.ref a/\(∃xs,SqL K H1 a xs)/\R (Ite K a) H1
section
variable{X:Cx}{l:Expr}{tl:TE}{p pos:Pos}{elts:List Expr}{x1:Nat}{tp:Pos}
theorem DO(hg:Gl X "enumerate")(hm:X.mg "enumerate" = none)(hl:PE X l tl)(hs:starEach [l] X.env=[(false,eval l X.env)]:=by rfl):PI X (.Tuple elts x1 tp) (.Call (.Name "enumerate" p) [l] [] pos) (Ks X.K tl):=by
 intro yZ s σ H R I h;refine Call_ (fJ I hg hm boot_enumerate (N8 (spliced_more ?_ (by rw[hs];rfl)) (by rw[hs];rfl) rfl));refine thn (hl yZ s σ H _ I h) fun v s1 ⟨x,H1,I1,r1,q1⟩=>?_;obtain⟨a,e,⟨xs,hq⟩,q⟩:=q1;subst e;cases r1;obtain⟨its,rv,pl,hz⟩:=I1.list hq;refine OY (call_enumerate_list pl.isList fun h' he M4 hsz k=>?_);have I2:Inv X yZ σ H1 { s1 with heap:=h' }:=I1.kept (t':=s1.toks) k;have T:=yM (P:=X.prog) (w:=X.w) (K:=X.K) (elts:=elts) (x1:=x1) (tp:=tp) a (s1.heap.objs.size+1) s1.heap.objs.size (Nat.succ_ne_self _);refine T.self X.A 0 { s1 with heap:=h' } _ X.xe ⟨⟨_,he⟩,M4⟩ ?_;refine⟨s1.heap.objs.size+1,[s1.heap.objs.size+1,s1.heap.objs.size],_,_,H1,rfl,I2,T,⟨⟨_,he⟩,M4⟩,fun b hb=>?_,q⟩;have:s1.heap.objs.size<=b:=by
  rcases Dp.mp hb with rfl | hb
  ·exact QK _
  ·have:b=s1.heap.objs.size:=by simpa using hb
   exact Nat.le_of_eq this.symm
 exact I1.yg this (I1.hok.fresh this)
end
theorem vC:typeLookup (.type "list_reverseiterator") "__len__" = pure none:=by rw[typeLookup_type,builtinLookup_eq_fast];kernel_rfl
theorem AQ:typeLookup (.type "list_reverseiterator") "__length_hint__" = pure (some (.builtin "list_reverseiterator.__length_hint__")):=by rw[typeLookup_type,builtinLookup_eq_fast];kernel_rfl
section
variable{prog:Program}{w:World}{A:Around}{E:Value->Shared->Prop}{s:Shared}
section
variable{I l:Addr}
theorem AR{i:Int}{Q:Bool->Shared->Prop}(M4:s.heap.IsRevIter I l i)(h:Q false s):wpAny (model prog w) A (Builtin.List.listLengthHint (.ref I)) Q E s:=by
 unfold Builtin.List.listLengthHint;refine wpAny_bind (wpAny_specialOf M4.typeIs vC ?_);show wpAny _ A (specialOf (NN I) (Str.ofString "__length_hint__") >>= _) _ _ _;refine wpAny_bind (wpAny_specialOf M4.typeIs AQ ?_)
 generalize hid:("list_reverseiterator.__length_hint__" : String)=id0
 wp_delta
 rw[show splitId id0=some ("list_reverseiterator","__length_hint__") from by subst hid;decide +kernel];subst hid;refine wpAny_bind (wpAny_isInstance (T := "list_reverseiterator") (b:=true) M4.typeIs (by rw[isSubtype_type];kernel_rfl) ?_);refine wpAny_ite_split (fun S3=>absurd S3 (by decide)) (fun _=>?_);refine wpAny_ite_split (fun _=>?_) (fun S3=>absurd (by decide +kernel) S3);refine wpAny_ite_split (fun S3=>absurd S3 (by decide +kernel)) (fun _=>wpAny_pure h)
theorem vD{R:Result->Shared->Prop}{items:Array Value}(hh:A.handled=none)(M4:s.heap.IsRevIter I l ((items.size:Int)-1))(hl:s.heap.IsList l items)(Nb:l≠I)(FH:items.size<=sizeLine)
  (S:Addr) (res:Value) (c₀:Nat) (hSI:S≠I) (hSl:S≠l) (hS:s.heap.get? S=some { cls:=.type "list",data:=.seq #[] c₀ })
  (hR:∀ h' tk acc' c',(∀ b o,b≠S→b≠I→s.heap.get? b=some o→h'.get? b=some o)→h'.get? S=some { cls:=.type "list",dict:=none,data:=.seq acc' c',slots:=#[] } →
   ItemsOf (fun i v=>items[items.size-1-i]?=some v) acc' items.size->R (.ok (.ret res)) { s with heap:=h',toks:=tk }) :
  wpAny (model prog w) A.in1 (OS (.ref S) (.ref I) res)
   (fun Ll s'=>match Ll with | .done f=>R (.ok f) s' | .again c'=>c'.quiet=true/\codeAny (model prog w) A c' R s') (fun e s'=>R (.error e) s') s:=by
 have hSf:S∉[I,l]:=fun hm=>by
  rcases Dp.mp hm with z | z
  ·exact hSI z
  ·exact hSl (N7.mp z)
 have W:=(Walks.listRev (prog:=prog) (w:=w) (A:=A.in1) hh I l Nb items).toS;unfold OS;refine wpAny_bind (wpAny_typeOf (T := "list_reverseiterator") M4.typeIs ?_);have h1:Builtin.List.listSameRef (.ref S) (.ref I)=false:=by simp[Builtin.List.listSameRef,hSI]
 have h2:(O9 "list_reverseiterator" == O9 "list")=false:=by decide
 have h3:(O9 "list_reverseiterator" == O9 "tuple")=false:=by decide
 simp only[h1,h2,h3,Bool.or_false,O4,if_false];refine wpAny_bind (wpAny_pyIter_revIter M4 ?_);refine wpAny_bind (wpAny_holding (AR M4 ?_));refine wpAny_ite_split (fun S3=>absurd S3 (by decide +kernel)) (fun _=>wpAny_pure ⟨plainId_quiet F.plain_extend_loop _,?_⟩);have hst:(0<=items.size)/\s.heap.IsRevIter I l ((items.size:Int)-1-((0:Nat):Int))/\s.heap.IsList l items:=⟨Od _,by simpa using M4,hl⟩
 refine codeAny_extend_loopS W FH S hSf res items.size 0 _ #[] c₀ rfl (Od _) hst hS (ItemsOf.nil _) fun s' acc' c' hm hS' hacc=>?_;rw[Moved.eq_with hm];refine hR s'.heap s'.toks acc' c' (fun b o hb hb2 e=>hm.heap b o (fun hmem=>?_) e) hS' hacc;rcases Dp.mp hmem with e' | hmem
 ·exact hb e'
 ·exact hb2 (N7.mp hmem)
theorem AS{R:Result->Shared->Prop}{items:Array Value}(hh:A.handled=none)(M4:s.heap.IsRevIter I l ((items.size:Int)-1))(hl:s.heap.IsList l items)(Nb:l≠I)(FH:items.size<=sizeLine)
  (S:Addr) (hSI:S≠I) (hSl:S≠l) (hS:s.heap.get? S=some { cls:=.type "list",data:=.seq #[] })
  (hR:∀ h' tk acc' c',(∀ b o,b≠S→b≠I→s.heap.get? b=some o→h'.get? b=some o)→h'.get? S=some { cls:=.type "list",dict:=none,data:=.seq acc' c',slots:=#[] } →
   ItemsOf (fun i v=>items[items.size-1-i]?=some v) acc' items.size->R (.ok (.ret .none)) { s with heap:=h',toks:=tk }) :
  wpAny (model prog w) A.in1 (Builtin.«list.__init__» ⟨[.ref S,.ref I],[]⟩)
   (fun Ll s'=>match Ll with | .done f=>R (.ok f) s' | .again c'=>c'.quiet=true/\codeAny (model prog w) A c' R s') (fun e s'=>R (.error e) s') s:=by
 show wpAny _ A.in1 (do let old <- Builtin.List.listItems (.ref S);Builtin.List.listUpdate (.ref S) (fun _=>#[]);letGo old.toList.reverse;OS (.ref S) (.ref I) .none) _ _ s;refine wpAny_bind ?_;unfold Builtin.List.listItems;refine wpAny_bind (wpAny_seqItems hS rfl (wpAny_pure ?_));show wpAny _ A.in1 (updateSeq S (fun _=>#[]) >>= fun _=>letGo (#[]:Array Value).toList.reverse >>= fun _=>OS (.ref S) (.ref I) .none) _ _ s;refine wpAny_bind (wpAny_updateSeq hS rfl ?_);have hS₂:=Of (Py (fun _=>(#[]:Array Value))) hS rfl;have oth:∀b o,b≠S->s.heap.get? b=some o->(s.heap.update S (Py (fun _=>(#[]:Array Value)))).get? b=some o:=
  fun b o hb e=>(NX _ _ (N2 hb)).trans e
 refine wpAny_bind (wpAny_letGo ?_);refine vD hh (M4.at fun o e=>oth I o (N2 hSI) e) (hl.at fun o e=>oth l o (N2 hSl) e) Nb FH S .none _ hSI hSl hS₂ fun h' tk acc' c' hk hS' hacc=>?_;exact hR h' tk acc' c' (fun b o hb hb2 e=>hk b o hb hb2 (oth b o hb e)) hS' hacc
theorem pV{Q:Value->Shared->Prop}{items:Array Value}(hh:A.handled=none)(M4:s.heap.IsRevIter I l ((items.size:Int)-1))(hl:s.heap.IsList l items)(Nb:l≠I)(FH:items.size<=sizeLine)
  (hQ:∀ h' tk acc' c',(∀ b o,b≠I→s.heap.get? b=some o→h'.get? b=some o)→h'.get? s.heap.objs.size=some { cls:=.type "list",dict:=none,data:=.seq acc' c',slots:=#[] } →
   ItemsOf (fun i v=>items[items.size-1-i]?=some v) acc' items.size->Q (.ref s.heap.objs.size) { s with heap:=h',toks:=tk }) :
  wpAny (model prog w) A (call (.type "list") [.ref I]) Q E s:=by
 refine callType_codes (Q₁:=fun obj s₁=>obj=.ref s.heap.objs.size/\s₁={ s with heap:=s.heap.push { cls:=.type "list",data:=.seq #[] } }) F.called_list (F.typeCall_list_1 _) F.entry_list_init
  (code_list_new _ ⟨rfl,rfl⟩) fun obj s₁ h₁=>?_
 obtain⟨rfl,rfl⟩:=h₁;have hS:(s.heap.push { cls:=.type "list",data:=.seq #[] }).get? s.heap.objs.size=some { cls:=.type "list",data:=.seq #[] }:=Og _ rfl;obtain⟨oi,hoi,_⟩:=id M4;obtain⟨ol,hol,_⟩:=id hl;refine⟨⟨_,hS,rfl⟩,F.args_list_init_2 _ _,AS (A:=A.in1) hh (M4.at fun o e=>HT _ e) (hl.at fun o e=>HT _ e) Nb FH _ (OI (Nx hoi)) (OI (Nx hol)) hS fun h' tk acc' c' hk hS' hacc=>?_⟩;exact⟨rfl,hQ h' tk acc' c' (fun b o hb e=>hk b o (NV (Nx e)) hb (HT _ e)) hS' hacc⟩
end
end
theorem nY{P:Nat->Value->Prop}{En:Array Value}{ys:List V}(h:ItemsOf P En ys.length)(k:∀i v,P i v->i<ys.length->∃y,ys[i]?=some y/\RelV y v):Vals ys En.toList:=by
 have:∀(ys:List V) (us:List Value),ys.length=us.length->(∀(i:Nat) (u:Value),us[i]?=some u->∃y,ys[i]?=some y/\RelV y u)->Vals ys us:=by
  intro ys
  induction ys with
  |nil=>intro us e _;cases us with
   |nil=>exact .nil
   |cons _ _=>cases e
  |cons y ys ih=>intro us e f;cases us with
   |nil=>cases e
   |cons u us=>obtain⟨y',h1,h2⟩:=f 0 u rfl;cases h1;exact .cons h2 (ih us (by simpa using e) fun i u' hu=>by simpa using f (i+1) u' (by simpa using hu))
 refine this ys En.toList (by have:=h.1;simp only[P8];exact this.symm) fun i u hu=>?_;have hu':En[i]?=some u:=by rw[<- PM];exact hu
 have hi:i<ys.length:=by rw[<- h.1];exact(Array.getElem?_eq_some_iff.mp hu').1
 exact k i u (h.2 i u hu') hi
def HE(K:eg)(tl:TE):TE:=fun σ H Q=>tl σ H fun x H1=>∃a xs,x=.ref a/\SqL K H1 a xs/\∀q,H1 q=none->Q (.ref q) (upd H1 q (.lst xs.reverse))
def Ku(ta:TA):TE:=fun σ H Q=>ta σ H fun vs H1=>∃j:Int,vs=[.int j]/\-(2 ^ 62)<=j/\j<=1000000/\∀q,H1 q=none->Q (.ref q) (upd H1 q (.lst ((NS j.toNat).map fun i=>V.int (i:Nat))))
section
variable{X:Cx}{l a:Expr}{tl:TE}{ta:TA}{p pos p0 nZ:Pos}
theorem AU(hc:X.calm=true)(hgl:Gl X "list")(hml:X.mg "list" = none)(hg:Gl X "reversed")(hm:X.mg "reversed" = none)(hl:PE X l tl)(hs:starEach [l] X.env=[(false,eval l X.env)]:=by rfl)
  (hs0:starEach [.Call (.Name "reversed" p) [l] [] pos] X.env=[(false,eval (.Call (.Name "reversed" p) [l] [] pos) X.env)]:=by rfl) :
  PE X (.Call (.Name "list" p0) [.Call (.Name "reversed" p) [l] [] pos] [] nZ) (HE X.K tl):=by
 intro yZ s σ H Q I h;refine wpAny_Call_Name_kw (fJ I hgl hml boot_list (N8 (spliced_more ?_ (by rw[hs0];rfl)) (by rw[hs0];rfl) rfl));refine AO hg hm hl hs I h fun x H1 s1 I1 q1=>?_;obtain⟨a,xs,e,hq,q⟩:=q1;refine⟨a,xs,e,hq,fun its rv pl hz=>OY ?_⟩;have hal:a<s1.heap.objs.size:=by obtain⟨o,ho,_⟩:=pl.isList;exact Nx ho
 have hn:=rv.length;refine pV (items:=its.toArray) (I.ok.hd hc) ⟨_,Og _ rfl,rfl,rfl⟩ (pl.isList.at fun o e=>HT _ e) (NV hal) (by rw[NG,<- hn];exact hz) fun h' tk acc' c' hk hS' hacc=>?_;have hsz:({ s1 with heap:=s1.heap.push (revObj a ((its.toArray.size:Int)-1)) }:Shared).heap.objs.size=s1.heap.objs.size+1:=O7 ..;have hp:s1.heap.objs.size<=({ s1 with heap:=s1.heap.push (revObj a ((its.toArray.size:Int)-1)) }:Shared).heap.objs.size:=by rw[hsz];exact QK _
 have vl:Vals xs.reverse acc'.toList:=by
  refine nY (by rw[OE,hn,<- NG];exact hacc) fun i v hv hi=>?_;rw[OE]at hi;rw[NG]at hv;have hv':its[its.length-1-i]?=some v:=by simpa using hv
  rw[PO hi,hn];have M6:=(Ny.mp hv').1;have hx:xs[its.length-1-i]?=some (xs[its.length-1-i]'(by lia)):=ND _;obtain⟨u,hu,ru⟩:=rv.get hx;rw[hv']at hu;cases hu;exact⟨_,hx,ru⟩
 have ok:br X.prog X.w (upd H1 ({ s1 with heap:=s1.heap.push (revObj a ((its.toArray.size:Int)-1)) }:Shared).heap.objs.size (.lst xs.reverse)) h' ({ s1 with heap:=s1.heap.push (revObj a ((its.toArray.size:Int)-1)) }:Shared).heap.objs.size (.lst xs.reverse):=⟨by rw[OE];exact hz,acc'.toList,c',vl,by simpa using hS'⟩
 exact⟨.ref _,_,I1.laid (t':=tk) (fun b u e=>hk b u (NV (Nx e)) (HT _ e)) hp ok,rfl,q _ (I1.hok.fresh hp)⟩
theorem DP(hc:X.calm=true)(hgl:Gl X "list")(hml:X.mg "list" = none)(hg:Gl X "range")(hm:X.mg "range" = none)(ha:PA X [a] ta)(hs:starEach [a] X.env=[(false,eval a X.env)]:=by rfl)
  (hs0:starEach [.Call (.Name "range" p) [a] [] pos] X.env=[(false,eval (.Call (.Name "range" p) [a] [] pos) X.env)]:=by rfl) :
  PE X (.Call (.Name "list" p0) [.Call (.Name "range" p) [a] [] pos] [] nZ) (Ku ta):=by
 intro yZ s σ H Q I h;refine wpAny_Call_Name_kw (fJ I hgl hml boot_list (N8 (spliced_more ?_ (by rw[hs0];rfl)) (by rw[hs0];rfl) rfl));refine Call_ (fJ I hg hm boot_range (N8 (thn (ha pos yZ s σ H _ I h) fun us s1 ⟨vs,H1,I1,r1,q1⟩=>?_) hs rfl));obtain⟨j,e,q1,q2,q⟩:=q1;subst e;cases r1 with
 |cons r rr=>
  cases rr;obtain⟨t,rfl⟩:=r;refine call_range_1 (OY ?_);have hn:Builtin.Range.rangeSize 0 j 1=(j.toNat:Nat):=by rw[rangeSize_one];split<;>lia
  refine call_list_range (n:=j.toNat) (I.ok.hd hc) (IsRange.new ..) (small_one (by lia) (by lia) q1 (by lia)) hn (by lia) fun h' tk acc' c' hk hS' hacc=>?_;have hsz:(s1.heap.push { cls:=.type "range",data:=.fields #[.int 0 s1.toks,.int j t,.int 1 (s1.toks+1)] }).objs.size=s1.heap.objs.size+1:=O7 ..;have hp:s1.heap.objs.size<=(s1.heap.push { cls:=.type "range",data:=.fields #[.int 0 s1.toks,.int j t,.int 1 (s1.toks+1)] }).objs.size:=by rw[hsz];exact QK _
  have vl:Vals ((NS j.toNat).map fun i=>V.int (i:Nat)) acc'.toList:=by
   refine nY (by rw[NI,N4];exact hacc) fun i v hv hi=>?_;obtain⟨t,rfl⟩:=hv;rw[NI,N4]at hi;refine⟨.int (i:Nat),by rw[NY,Pe hi];rfl,t,?_⟩;have:(0:Int)+(i:Int)*1=i:=by lia
   rw[this]
  have ok:br X.prog X.w (upd H1 (s1.heap.push { cls:=.type "range",data:=.fields #[.int 0 s1.toks,.int j t,.int 1 (s1.toks+1)] }).objs.size (.lst ((NS j.toNat).map fun i=>V.int (i:Nat)))) h' (s1.heap.push { cls:=.type "range",data:=.fields #[.int 0 s1.toks,.int j t,.int 1 (s1.toks+1)] }).objs.size (.lst ((NS j.toNat).map fun i=>V.int (i:Nat))):=
   ⟨by rw[NI,N4,sizeLine_eq];lia,acc'.toList,c',vl,by simpa using hS'⟩
  exact⟨.ref _,_,I1.laid (t':=tk) (fun b u e=>hk b u (HT _ e)) hp ok,rfl,q _ (I1.hok.fresh hp)⟩
end
section
variable{ds:List Dat}{xs:List V}{a:Addr}{H0:Hp}
theorem aR.rev{H:Hp}(h:aR H xs ds):aR H xs.reverse ds.reverse:=by
 induction xs generalizing ds with
 |nil=>cases h;exact .nil
 |cons x xs ih=>
  cases h with
  |cons r rs=>rw[Qp,Qp];exact(ih rs).append (.cons r .nil)
theorem HF{K:eg}(hq:Rd H0 a (.lst xs))(rs:aR H0 xs ds):JW (Itv K a xs.length) H0 ds.reverse:=by intro H0' H s0 s1;have q:SqL K H a xs:=.inl (aF.rd s1 (aF.rd s0 hq));refine⟨fun i hi=>by rw[OE,<- rs.length]at hi;exact hi,fun i d e=>?_⟩;obtain⟨v,hv,rv⟩:=rs.rev.get e;refine⟨⟨xs,v,q,rfl,hv⟩,fun x H' y=>?_⟩;obtain⟨e1,y⟩:=y;subst e1;have z:=y xs q;rw[hv]at z;cases z;exact⟨H0',aX.refl s1,rv.mono s0⟩
theorem tG:∀(ds:List Dat) (i:Nat),(Dm.kU i ds).length=ds.length
 |[],_=>rfl
 |_::ds,i=>by simp[Dm.kU,tG ds]
theorem tH:∀(ds:List Dat) (i j:Nat) (d:Dat),(Dm.kU i ds)[j]?=some d->∃x,ds[j]?=some x/\d=.tup [.int ((i+j:Nat):Int),x]
 |[],_,_,_,h=>by cases h
 |x::ds,i,0,d,h=>by cases h;exact⟨x,rfl,rfl⟩
 |x::ds,i,j+1,d,h=>by
  obtain⟨y,h1,h2⟩:=tH ds (i+1) j d h;refine⟨y,h1,?_⟩;rw[h2];have:i+1+j=i+(j+1):=by lia
  rw[this]
theorem DQ{K:eg}(hq:Rd H0 a (.lst xs))(rs:aR H0 xs ds):JW (Ite K a) H0 (Dm.kU 0 ds):=by intro H0' H s0 s1;have q:SqL K H a xs:=.inl (aF.rd s1 (aF.rd s0 hq));refine⟨fun i hi=>⟨xs,q,by rw[rs.length,<- tG ds 0];exact hi⟩,fun i d e=>?_⟩;obtain⟨d',hd,rfl⟩:=tH ds 0 i d e;obtain⟨v,hv,rv⟩:=rs.get hd;refine⟨⟨xs,v,q,hv⟩,fun x H' y=>?_⟩;obtain⟨p,v',hn,rfl,rfl,y⟩:=y;have z:=y xs q;rw[hv]at z;cases z;have g:=aX.yE (o:=HO.tup [.int i,v]) s1 hn;refine⟨_,g,.tup au (.cons ?_ (.cons ((rv.mono s0).mono g.s0) .nil))⟩;rw[Nat.zero_add];exact .int _
end
section
variable{σ:L2.St}{H:Hp}{R:It->Hp->Prop}
theorem HG{K:eg}{f:FE}(h:tDI (Dm.yL f) σ H R):Fw K (tD f) σ H R:=by
 obtain⟨H0,ρ,ys,ρ',st,e,k⟩:=h;unfold Dm.yL at e;split at e
 ·cases e
 rename_i x ρ1 e1;split at e
 ·rename_i ds ρ2 e2;cases e;refine⟨H0,ρ,_,ρ1,st,e1,fun v H0' H' t r=>?_⟩;obtain⟨H1,t1,b1,r1,_,_⟩:=take1 t (aF.refl _) r e2;cases r1 with
  |lst q rs=>exact⟨_,_,rfl,.inl (aF.rd t1.st.same q),k _ H1 H' t1 (HF q rs)⟩
 ·cases e
theorem Kv{K:eg}{f:FE}(h:tDI (Dm.iEn f) σ H R):Ks K (tD f) σ H R:=by
 obtain⟨H0,ρ,ys,ρ',st,e,k⟩:=h;unfold Dm.iEn at e;split at e
 ·cases e
 rename_i x ρ1 e1;split at e
 ·rename_i ds ρ2 e2;cases e;refine⟨H0,ρ,_,ρ1,st,e1,fun v H0' H' t r=>?_⟩;obtain⟨H1,t1,b1,r1,_,_⟩:=take1 t (aF.refl _) r e2;cases r1 with
  |lst q rs=>exact⟨_,rfl,⟨_,.inl (aF.rd t1.st.same q)⟩,k _ H1 H' t1 (DQ q rs)⟩
 ·cases e
end
theorem AV{K:eg}:UnD (fun x H Q=>∃a xs,x=.ref a/\SqL K H a xs/\∀q,H q=none->Q (.ref q) (upd H q (.lst xs.reverse))) Dm.nX:=by
 intro H0 H x dx z Q s rx e k;unfold Dm.nX at e;split at e
 ·cases e;obtain⟨a,us,rfl,qa,ra⟩:=dG s rx;exact⟨a,us,rfl,.inl qa,fun p hp=>k _ _ _ (aX.pT s hp) ⟨p,rfl,hp,s.free hp,_,au,ra.rev⟩⟩
 ·cases e
theorem AW{H:Hp}:∀(n:Nat) ,aR H ((NS n).map fun i=>V.int (i:Nat)) (Dm.ups 0 n):=by
 intro n;unfold Dm.ups;have:∀l:List Nat,aR H (l.map fun i=>V.int (i:Nat)) (l.map fun i=>Dat.int (0+(i:Nat))):=fun l=>by
  induction l with
  |nil=>exact .nil
  |cons x l ih=>rw[Nv,Nv,Int.zero_add];exact .cons (.int _) ih
 exact this _
theorem DR:CallD (fun xs H Q=>∃j:Int,xs=[.int j]/\-(2 ^ 62)<=j/\j<=1000000/\∀q,H q=none->Q (.ref q) (upd H q (.lst ((NS j.toNat).map fun i=>V.int (i:Nat))))) Dm.qw:=by
 intro H0 H xs ds z Q s rx e k;unfold Dm.qw at e;split at e
 ·rename_i j;split at e
  ·rename_i hb;cases e;cases rx with
   |cons r rr=>cases rr;cases aM r;exact⟨j,rfl,by lia,hb.1,fun p hp=>k _ _ _ (aX.pT s hp) ⟨p,rfl,hp,s.free hp,_,au,AW _⟩⟩
  ·cases e
 ·cases e
section
variable{X:Cx}{tg e a b c:Expr}{f fa fb fc:FE}{p pos p0 nZ:Pos}{elts:List Expr}{x1:Nat}{tp:Pos}
theorem Kw(hg:Gl X "reversed")(hm:X.mg "reversed" = none)(h:DE X e f)(hs:starEach [e] X.env=[(false,eval e X.env)]:=by rfl):DI X tg (.Call (.Name "reversed" p) [e] [] pos) (Dm.yL f):=PI.weak (HD hg hm h hs) fun _ _ _=>HG
theorem MN(hg:Gl X "enumerate")(hm:X.mg "enumerate" = none)(h:DE X e f)(hs:starEach [e] X.env=[(false,eval e X.env)]:=by rfl):DI X (.Tuple elts x1 tp) (.Call (.Name "enumerate" p) [e] [] pos) (Dm.iEn f):=PI.weak (DO hg hm h hs) fun _ _ _=>Kv
theorem DU(hc:X.calm=true)(hgl:Gl X "list")(hml:X.mg "list" = none)(hg:Gl X "reversed")(hm:X.mg "reversed" = none)(h:DE X e f)(hs:starEach [e] X.env=[(false,eval e X.env)]:=by rfl)
  (hs0:starEach [.Call (.Name "reversed" p) [e] [] pos] X.env=[(false,eval (.Call (.Name "reversed" p) [e] [] pos) X.env)]:=by rfl) :
  DE X (.Call (.Name "list" p0) [.Call (.Name "reversed" p) [e] [] pos] [] nZ) (Dm.e1 Dm.nX f):=PE.weak (AU hc hgl hml hg hm h hs hs0) fun _ _ _=>JM AV
theorem HH(hc:X.calm=true)(hgl:Gl X "list")(hml:X.mg "list" = none)(hg:Gl X "range")(hm:X.mg "range" = none)(h:DA X [a] [fa])(hs:starEach [a] X.env=[(false,eval a X.env)]:=by rfl)
  (hs0:starEach [.Call (.Name "range" p) [a] [] pos] X.env=[(false,eval (.Call (.Name "range" p) [a] [] pos) X.env)]:=by rfl) :
  DE X (.Call (.Name "list" p0) [.Call (.Name "range" p) [a] [] pos] [] nZ) (Dm.eB Dm.qw [fa]):=PE.weak (DP hc hgl hml hg hm h hs hs0) fun _ _ _=>G6 DR
end
end Br
namespace Dm
noncomputable def dY(i:Nat)(own:Nat)(bd:FB)(t:FT)(el:FE):FE:=fun ρ=>match ρ[i]? with
 | some (.ow (.lst ds))=>if ds.length≤SZ then (match fS bd t el ds (ρ.set i .un++Dk own .un) [] with
  |none=>none
  |some (ys,ρ2)=>some (.new (.lst ys),(ρ2.take ρ.length).set i (.ow (.lst ds)))) else none
 |_=>fT (iS (eV i)) own bd t el ρ
end Dm
namespace Br
open PySem PySem.Spec PyProof.Rows L2
theorem AX{K:eg}{H0:Hp}{a:Addr}{xs:List V}{ds:List Dat}(rs:aR H0 xs ds):JWa (Itl K a) H0 (some (a,.lst xs)) ds:=by intro H0' H s0 s1 hq;have hq:=hq _ rfl;have q:SqL K H a xs:=.inl (.inl hq);refine⟨fun i hi=>⟨xs,q,by rw[rs.length];exact hi⟩,fun i d e=>?_⟩;obtain⟨v,hv,rv⟩:=rs.get e;refine⟨⟨xs,v,q,hv⟩,fun x H' y=>?_⟩;obtain⟨e1,y⟩:=y;subst e1;have z:=y xs q;rw[hv]at z;cases z;exact⟨H0',aX.refl s1,rv.mono s0⟩
theorem xr{K:eg}{σ:L2.St}{H:Hp}{i own:Nat}{bd:Dm.FB}{g:TG}{t:FT}{el:FE}{is:List Nat}{Q:VK}(hb:BD is g bd)(hl:∀i∈is,σ.length<=i)(h:tD (Dm.dY i own bd t el) σ H Q) :
  tLC (fun σ H R=>sG K (tD (Dm.eV i)) σ H R\/zN K (tD (Dm.eV i)) σ H R) own g (tDT t) (tD el) σ H Q:=by
 obtain⟨H0,ρ,x,ρ',st,e,k⟩:=h;unfold Dm.dY at e;split at e
 ·rename_i ds eo;split at e
  case isFalse=>cases e
  rename_i hsz;split at e
  ·cases e
  rename_i ys ρ2 e2;cases e;refine .inl ⟨H0,ρ,.slot i,ρ,st,by unfold Dm.eV;rw[eo],fun v H0' H' t1 r=>?_⟩;obtain⟨a,qa,na,xs,ha,rs⟩:=t1.st.ow i _ eo;obtain⟨r1,_⟩:=r;rw[qa]at r1;cases r1;have nO:¬aE σ (ρ.set i .un) a:=fun z=>by obtain⟨j,d,hj,h1,h2⟩:=eO z;exact hj (t1.st.dis j i d _ a h1 eo h2 qa)
  have M6:i<ρ.length:=(Ny.mp eo).1;refine⟨a,rfl,⟨xs,.inl (.inl ha)⟩,fun D hD=>tu hb hl (t1.st.mask i) (fun q e=>by cases e;exact⟨ha,na,nO⟩) (AX rs) hsz e2 (fun v H1 Hc t2 r2 hpa=>?_) D hD⟩;obtain⟨ha2,na2⟩:=hpa _ rfl;rw[Oj]at t2 r2;have oo:∀b,aE σ ((ρ2.take ρ.length).set i (.ow (.lst ds))) b->b=a\/aE σ (ρ2.take ρ.length) b:=fun b ⟨j,d,h1,h2⟩=>by
   by_cases q:i=j
   ·subst q;rw[qa]at h2;cases h2;exact .inl rfl
   ·rw[gc q]at h1;exact .inr ⟨j,d,h1,h2⟩
  have om:∀b,aE σ (ρ.set i .un) b->aE σ ρ b:=fun b z=>by obtain⟨j,d,hj,h1,h2⟩:=eO z;exact⟨j,d,h1,h2⟩
  have oa:aE σ ρ a:=⟨i,_,eo,qa⟩
  have nO2:¬aE σ (ρ2.take ρ.length) a:=fun z=>nO (t2.own a z);have AY:(ρ2.take ρ.length).length=ρ.length:=by rw[<- t2.st.len,st.len]
  refine k v H1 Hc (t1.trans ⟨⟨t2.st.same,by rw[Oj];exact t2.st.len,fun j d h=>?_,fun j d h=>?_,fun j j' d d' b h1 h2 h3 h4=>?_⟩,t2.stp.wide om,fun b z=>?_,fun j z=>?_⟩) ?_
  ·by_cases q:i=j
   ·subst q;rw[NW (by rw[AY];exact M6)]at h;cases h
   ·rw[gc q]at h;exact t2.st.sh j d h
  ·by_cases q:i=j
   ·subst q;rw[NW (by rw[AY];exact M6)]at h;cases h;exact⟨a,qa,na2,xs,ha2,rs.mono t2.stp.s0⟩
   ·rw[gc q]at h;exact t2.st.ow j d h
  ·by_cases q:i=j
   ·subst q;by_cases q':i=j'
    ·exact q'
    ·rw[gc q']at h2;rw[qa]at h3;cases h3;exact absurd ⟨j',d',h2,h4⟩ nO2
   ·rw[gc q]at h1;by_cases q':i=j'
    ·subst q';rw[qa]at h4;cases h4;exact absurd ⟨j,d,h1,h3⟩ nO2
    ·rw[gc q']at h2;exact t2.st.dis j j' d d' b h1 h2 h3 h4
  ·rcases oo b z with rfl | z
   ·exact oa
   ·exact om b (t2.own b z)
  ·trivial
  ·obtain⟨D',e',n',no',n0',w'⟩:=r2;refine⟨D',e',t1.stp.gone n',fun z=>?_,n0',w'⟩;rcases oo D' z with rfl | z
   ·rw[n']at ha;cases ha
   ·exact no' z
 ·have h2:=An (fi:=Dm.iS (Dm.eV i)) hb hl ⟨H0,ρ,x,ρ',st,e,k⟩;exact Kr h2
section
variable{X:Cx}{M7 tg:Expr}{M5:List Expr}{scope:Scope}{pos px:Pos}{bd:Dm.FB}{is:List Nat}{t:FT}{f:FE}{x:Str}
theorem i_M(i:Nat)(h:DE X (.Name x px) (Dm.eV i)):PI X tg (.Name x px) (fun σ H R=>sG X.K (tD (Dm.eV i)) σ H R\/zN X.K (tD (Dm.eV i)) σ H R):=PI.or (wL h) (zO h)
theorem tL(i:Nat)(nm own:List Str)(hg:TGc X nm scope own tg is bd)(hi:DE X (.Name x px) (Dm.eV i))(ht:∀cl C s H fp,DTs (b5 X nm scope own cl C s H fp) M5 t)(he:∀cl C s H fp,DE (b5 X nm scope own cl C s H fp) M7 f)
  (hc:X.calm=true:=by rfl) (hk:scope.kind=.function:=by rfl) (hS:tF X.env.scope X.N nm scope=true:=by rfl) (hl:(is.all fun i=>decide (X.N.length<=i))=true:=by rfl) (hs:∀y,foldedSetIterable (.Name x px) X.env y=pure y:=by intro _;rfl) :
  DE X (.ListComp M7 [⟨tg,.Name x px,M5,0⟩] scope pos) (Dm.dY i own.length bd t f):=by
 obtain⟨g,h1,h2⟩:=hg.ex;intro yZ s σ H Q I h;exact Dt hc (gE.of hS hk) (i_M i hi) h1 ht he hs yZ s σ H Q I (xr h2 (fun i hi=>by rw[I.len];exact AK hl i hi) h)
theorem Ky(j i:Nat)(nm own:List Str){y:Str}{py S2:Pos}(hN:X.N.Nodup)(hg:TGc X nm scope own tg is bd)(hi:DE X (.Name x px) (Dm.eV i))(ht:∀cl C s H fp,DTs (b5 X nm scope own cl C s H fp) M5 t)(he:∀cl C s H fp,DE (b5 X nm scope own cl C s H fp) M7 f)
  (hc:X.calm=true:=by rfl) (hk:scope.kind=.function:=by rfl) (hS:tF X.env.scope X.N nm scope=true:=by rfl) (hl:(is.all fun i=>decide (X.N.length<=i))=true:=by rfl) (hj:X.N[j]?=some y:=by rfl) (hy:Loc X.env.scope y:=by trivial)
  (hsw:swapsWith (.ListComp M7 [⟨tg,.Name x px,M5,0⟩] scope pos) (some (.Name y py)) S2.line X.env=pure true:=by rfl) (hs:∀y,foldedSetIterable (.Name x px) X.env y=pure y:=by intro _;rfl)
  (hf:X.fn y=true\/X.env.scope.names.lookup y=some .local:=by trivial):DS X (.Assign [.Name y py] (.ListComp M7 [⟨tg,.Name x px,M5,0⟩] scope pos) S2) (Dm.sA j (Dm.dY i own.length bd t f)):=by
 obtain⟨g,h1,h2⟩:=hg.ex;intro yZ s σ H D I h;exact mj hN hj hy hc (gE.of hS hk) (i_M i hi) h1 ht he hsw hs hf yZ s σ H D I (xr h2 (fun i hi=>by rw[I.len];exact AK hl i hi) (Aj h))
end
end Br
namespace Dm
noncomputable def jH:List Dat->List Dat->List Dat
 |x::xs,y::ys=>.tup [x,y]::jH xs ys
 |_,_=>[]
noncomputable def DV(a b:FE):FI:=fun ρ=>match eAs [a,b] ρ with
 | some (vs,ρ1)=>(match tks ρ1 vs with
  |some ([.lst xs,.lst ys],ρ2)=>some (jH xs ys,ρ2)
  |_=>none)
 |none=>none
end Dm
namespace Br
open PySem PySem.Spec PyProof.Rows L2
theorem vE{X:Cx}{yZ:List (Addr×Obj)}{σ:L2.St}{H:Hp}{s:Shared}{h':Heap}{t':Nat}{fp:List Addr}(I:Inv X yZ σ H s)(hf:∀b∈fp,pR X yZ H b)
  (k:∀b u,b∉fp->s.heap.get? b=some u->h'.get? b=some u):Inv X yZ σ H { s with heap:=h',toks:=t' }:=by
 have nf:∀b u,H b=some u->b∉fp:=fun b u e z=>by rw[(hf b z).1]at e;cases e
 have nL:X.env.locals∉fp:=fun z=>(hf _ z).2.1 rfl;refine I.step (g':=s.gens) (d':=s.drawn) (ch:=fp) (fun b hb=>?_) (fun b u _ _ hc e _=>k b u hc e) (fun b u _ _ hc e _=>⟨u.slots,k b u hc e⟩)
  (fun b u _ e n=>n) (fun b u hc e=>⟨u,k b u hc e⟩)
  (fun b xs q=>q) (fun b u xs q=>q) (fun _ _ _ _ q=>q) (fun m hm=>?_) (fun b u e=>?_) I.bare
 ·obtain⟨f0,f1,f2,f3,f4,f5⟩:=hf b hb;exact⟨f3,f1,f4,f5⟩
 ·obtain⟨o,es,ep,ho,r⟩:=hm;exact⟨o,es,ep,k _ o nL ho,r⟩
 ·refine(I.hok b u e).stay (fun c v hc q=>k c v ?_ q) (fun c q=>q) (fun _ _ _ q=>q) fun c xs q=>q;rcases hc with z | z
  ·rw[z];exact nf b u e
  ·exact nf c _ z
noncomputable def Itz(K:eg)(a b:Addr):It:=
 ⟨fun i H=>∃ xs ys x y,SqL K H a xs∧SqL K H b ys∧xs[i]?=some x∧ys[i]?=some y,
  fun i H r H'=>∃p x y,H p=none/\r=.ref p/\H'=upd H p (.tup [x,y])/\(∀xs,SqL K H a xs->xs[i]?=some x)/\∀ys,SqL K H b ys->ys[i]?=some y,
  fun i H=>∃xs ys,SqL K H a xs/\SqL K H b ys/\(xs.length<=i\/ys.length<=i)⟩
theorem iG{h:Heap}{a b:Addr}{o o':Obj}(ha:h.get? a=some o)(hb:h.get? b=some o')(n:o.cls≠o'.cls):a≠b:=fun z=>by subst z;rw[ha]at hb;cases hb;exact n rfl
structure rB(z TI TO i1 i2:Addr):Prop where
 TIz:TI≠z
 TOz:TO≠z
 i1z:i1≠z
 i2z:i2≠z
 TITO:TI≠TO
 TIi1:TI≠i1
 TIi2:TI≠i2
 TOi1:TO≠i1
 TOi2:TO≠i2
 i12:i1≠i2
def AZ(a b z TI TO i1 i2:Addr)(i:Nat)(h:Heap):Prop:=IsZip h z TI TO .none/\IsPair h TI (.ref i1) (.ref i2)/\(∃x y,IsPair h TO x y)/\h.IsListIter i1 a i/\h.IsListIter i2 b i
theorem tM{h:Heap}{a b z TI TO i1 i2:Addr}{i:Nat}{xs ys:Array Value}(F:rB z TI TO i1 i2)(st:AZ a b z TI TO i1 i2 i h)(ha:h.IsList a xs)(hb:h.IsList b ys):ZipApart z TI TO i1 i2 a b:=by
 obtain⟨s1,s2,⟨x,y,s3⟩,s4,s5⟩:=st;obtain⟨o4,e4,c4,_⟩:=s4;obtain⟨o5,e5,c5,_⟩:=s5;obtain⟨oa,ea,ca,_⟩:=ha;obtain⟨ob,eb,cb,_⟩:=hb;have d:∀{n m:String},n≠m->(O9 n)≠(O9 m):=fun q z=>q (by injection z);exact ⟨F.TIz,F.TOz,F.i1z,F.i2z,F.TITO,F.TIi1,F.TIi2,F.TOi1,F.TOi2,F.i12,
  iG ea s1 (by rw[ca];exact d (by decide)),iG ea s3 (by rw[ca];exact d (by decide)),iG ea e4 (by rw[ca,c4];exact d (by decide)),iG ea e5 (by rw[ca,c5];exact d (by decide)),
  iG eb s1 (by rw[cb];exact d (by decide)),iG eb s3 (by rw[cb];exact d (by decide)),iG eb e4 (by rw[cb,c4];exact d (by decide)),iG eb e5 (by rw[cb,c5];exact d (by decide))⟩
theorem A0{P:Program}{w:World}{K:eg}{elts:List Expr}{x1}{tp:Pos}(a b z TI TO i1 i2:Addr)(F:rB z TI TO i1 i2):Turn P w K (.Tuple elts x1 tp) (Itz K a b) [z,TI,TO,i1,i2] z (AZ a b z TI TO i1 i2) where
 mem:=by simp
 obj:=fun i h st c hc=>by
  obtain⟨s1,s2,⟨x,y,s3⟩,⟨o4,e4,c4,d4⟩,⟨o5,e5,c5,d5⟩⟩:=st;simp only[Dp,Oz,or_false]at hc;rcases hc with rfl | rfl | rfl | rfl | rfl
  ·exact⟨_,s1,fun v q=>by have q':Pd _=QC v:=q;cases q'⟩
  ·exact⟨_,s2,fun v q=>by have q':Data.seq _ _=QC v:=q;cases q'⟩
  ·exact⟨_,s3,fun v q=>by have q':Data.seq _ _=QC v:=q;cases q'⟩
  ·exact⟨o4,e4,fun v q=>by rw[d4]at q;cases q⟩
  ·exact⟨o5,e5,fun v q=>by rw[d5]at q;cases q⟩
 keep:=fun i h h' st k=>by obtain⟨s1,s2,⟨x,y,s3⟩,s4,s5⟩:=st;exact⟨k z (by simp) _ s1,k TI (by simp) _ s2,⟨x,y,k TO (by simp) _ s3⟩,s4.at fun o q=>k i1 (by simp) o q,s5.at fun o q=>k i2 (by simp) o q⟩
 item:=by
  intro X hP hw hK hc i yZ s σ H E I hf st hg;subst hP hw hK;obtain⟨xs,ys,x,y,hq,hq',hx,hy⟩:=hg;obtain⟨its,rv,p,hz⟩:=I.list hq;obtain⟨its',rv',p',hz'⟩:=I.list hq';obtain⟨u,hu,ru⟩:=rv.get hx;obtain⟨u',hu',ru'⟩:=rv'.get hy;have D:=tM F st p.isList p'.isList;obtain⟨s1,s2,⟨o1,o2,s3⟩,s4,s5⟩:=st;have lt:∀{c o},s.heap.get? c=some o->c<s.heap.objs.size:=fun q=>Nx q;have l1:=lt s1;have l2:=lt s2;have l3:=lt s3;have l4:i1<s.heap.objs.size:=by obtain⟨_,q,_⟩:=s4;exact lt q
  have l5:i2<s.heap.objs.size:=by obtain⟨_,q,_⟩:=s5;exact lt q
  refine wpAny_pyNext_zip_item D s1 s2 s3 s4 s5 p.isList p'.isList (x:=u) (y:=u') (by simpa using hu) (by simpa using hu') fun h1 a1 a2 a3 a4 a5 a6 hk=>?_;refine⟨_,rfl,wpAny_letOwnedTupleGo_zip a1 fun h2 z2 hs2=>?_⟩;have ht2:h2.get? s.heap.objs.size=some { cls:=.type "tuple",data:=.seq #[u,u'] }:=(hs2.2 _ (OI l1)).trans a5;have k2:∀c o,c∉[z,TI,TO,i1,i2]->s.heap.get? c=some o->h2.get? c=some o:=fun c o hc q=>by simp only[Dp,Oz,or_false,not_or]at hc;exact(hs2.2 c hc.1).trans (hk c o hc.1 hc.2.2.1 hc.2.2.2.1 hc.2.2.2.2 q)
  have hn:H s.heap.objs.size=none:=I.hok.fresh (NC _);have I2:Inv X yZ σ (upd H s.heap.objs.size (.tup [x,y])) { s with heap:=h2,toks:=s.toks }:=
   qx I hf k2 (NC _) ⟨by simp[sizeLine],[u,u'],.cons ru (.cons ru' .nil),_,ht2,rfl,_,rfl⟩
  refine⟨.ref s.heap.objs.size,_,I2,rfl,⟨_,x,y,hn,rfl,rfl,fun vs hv=>by rw[I.h_ hv hq];exact hx,fun vs hv=>by rw[I.h_ hv hq'];exact hy⟩,⟨z2,?_,⟨_,_,hs2.extBut _ _ D.TOz a2⟩,?_,?_⟩,fun c hc=>?_⟩
  ·exact hs2.extBut _ _ D.TIz (hk TI _ D.TIz D.TITO D.TIi1 D.TIi2 s2)
  ·exact a3.extBut hs2.extBut D.i1z
  ·exact a4.extBut hs2.extBut D.i2z
  ·have hc1:c≠s.heap.objs.size:=fun q=>by
    simp only[Dp,Oz,or_false]at hc;rcases hc with r | r | r | r | r
    ·subst r;rw[q]at l1;exact Oh _ l1
    ·subst r;rw[q]at l2;exact Oh _ l2
    ·subst r;rw[q]at l3;exact Oh _ l3
    ·subst r;rw[q]at l4;exact Oh _ l4
    ·subst r;rw[q]at l5;exact Oh _ l5
   rw[ao hc1];exact(hf c hc).1
 done:=by
  intro X hP hw hK hc i yZ s σ H E I hf st hg;subst hP hw hK;obtain⟨xs,ys,hq,hq',hx⟩:=hg;obtain⟨its,rv,p,hz⟩:=I.list hq;obtain⟨its',rv',p',hz'⟩:=I.list hq';have hl:=rv.length;have hl':=rv'.length;have D:=tM F st p.isList p'.isList;obtain⟨s1,s2,⟨o1,o2,s3⟩,s4,s5⟩:=st;refine wpAny_pyNext_zip_end (I.ok.hd hc) D s1 s2 s3 s4 s5 p.isList p'.isList ?_ fun h' hk=>⟨rfl,vE (t':=s.toks) I hf fun c o hc q=>?_⟩
  ·rcases hx with hx | hx
   ·exact .inl (by simp;lia)
   ·exact .inr (by simp;lia)
  ·simp only[Dp,Oz,or_false,not_or]at hc;exact hk c o hc.1 hc.2.2.1 hc.2.2.2.1 hc.2.2.2.2 q
 self:=fun A i s Q E st h=>wpAny_pyIter_zip st.1 h
def Fx(K:eg)(ta:TA):TI:=fun σ H R=>ta σ H fun vs H1=>∃a b,vs=[.ref a,.ref b]/\(∃xs,SqL K H1 a xs)/\(∃ys,SqL K H1 b ys)/\R (Itz K a b) H1
section
variable{X:Cx}{l l':Expr}{ta:TA}{p pos:Pos}{elts:List Expr}{x1:Nat}{tp:Pos}
theorem HJ(hg:Gl X "zip")(hm:X.mg "zip" = none)(ha:PA X [l,l'] ta)(hs:starEach [l,l'] X.env=(false,eval l X.env)::starEach [l'] X.env:=by rfl)(hs2:(backTo pos (starEach [l'] X.env)).any (·.1)=false:=by rfl) :
  PI X (.Tuple elts x1 tp) (.Call (.Name "zip" p) [l,l'] [] pos) (Fx X.K ta):=by
 intro yZ s σ H R I h;refine Call_ (fJ I hg hm boot_zip (N8 (thn (ha pos yZ s σ H _ I h) fun us s1 ⟨vs,H1,I1,r1,q1⟩=>?_) hs hs2));obtain⟨a,b,e,⟨xs,hq⟩,⟨ys,hq'⟩,q⟩:=q1;subst e;obtain⟨v1,v2,rfl,r,r'⟩:=vals2 r1;cases r;cases r';obtain⟨its,rv,pl,hz⟩:=I1.list hq;obtain⟨its',rv',pl',hz'⟩:=I1.list hq';refine call_zip_2 pl.isList pl'.isList fun h' e1 e2 e3 e4 e5 hsz k=>?_;have I2:Inv X yZ σ H1 { s1 with heap:=h' }:=I1.kept (t':=s1.toks) k;have F:rB (s1.heap.objs.size+4) (s1.heap.objs.size+2) (s1.heap.objs.size+3) s1.heap.objs.size (s1.heap.objs.size+1):=by constructor<;>first | exact NV (by lia) | exact OI (by lia)
 have T:=A0 (P:=X.prog) (w:=X.w) (K:=X.K) (elts:=elts) (x1:=x1) (tp:=tp) a b _ _ _ _ _ F;have st:AZ a b (s1.heap.objs.size+4) (s1.heap.objs.size+2) (s1.heap.objs.size+3) s1.heap.objs.size (s1.heap.objs.size+1) 0 h':=⟨e1,e2,⟨_,_,e3⟩,e4,e5⟩
 refine T.self X.A 0 { s1 with heap:=h' } _ X.xe st ?_;refine⟨s1.heap.objs.size+4,_,_,_,H1,rfl,I2,T,st,fun c hc=>?_,q⟩;have:s1.heap.objs.size<=c:=by simp only[Dp,Oz,or_false]at hc;rcases hc with r | r | r | r | r<;>(rw[r];first | exact Nat.le_add_right _ _ | exact NC _)
 exact I1.yg this (I1.hok.fresh this)
end
theorem xu:∀(xs ys:List Dat),(Dm.jH xs ys).length=min xs.length ys.length
 |[],_=>by simp[Dm.jH]
 |_::_,[]=>by simp[Dm.jH]
 |x::xs,y::ys=>by simp[Dm.jH,xu xs ys]
theorem zip_get:∀(xs ys:List Dat) (j:Nat) (d:Dat),(Dm.jH xs ys)[j]?=some d->∃x y,xs[j]?=some x/\ys[j]?=some y/\d=.tup [x,y]
 |[],_,_,_,h=>by simp[Dm.jH]at h
 |_::_,[],_,_,h=>by simp[Dm.jH]at h
 |x::xs,y::ys,0,d,h=>by cases h;exact⟨x,y,rfl,rfl,rfl⟩
 |x::xs,y::ys,j+1,d,h=>zip_get xs ys j d h
theorem HK{K:eg}{H0:Hp}{a b:Addr}{xs ys:List V}{ds es:List Dat}(hq:Rd H0 a (.lst xs))(rs:aR H0 xs ds)(hq':Rd H0 b (.lst ys))(rs':aR H0 ys es):JW (Itz K a b) H0 (Dm.jH ds es):=by
 intro H0' H s0 s1;have q:SqL K H a xs:=.inl (aF.rd s1 (aF.rd s0 hq));have q':SqL K H b ys:=.inl (aF.rd s1 (aF.rd s0 hq'));refine⟨fun i hi=>⟨xs,ys,q,q',?_⟩,fun i d e=>?_⟩
 ·rw[xu]at hi;have:=rs.length;have:=rs'.length
  lia
 obtain⟨x,y,hx,hy,rfl⟩:=zip_get ds es i d e;obtain⟨v,hv,rv⟩:=rs.get hx;obtain⟨v',hv',rv'⟩:=rs'.get hy;refine⟨⟨xs,ys,v,v',q,q',hv,hv'⟩,fun r H' z=>?_⟩;obtain⟨p,u,u',hn,rfl,rfl,z1,z2⟩:=z;have w1:=z1 xs q;have w2:=z2 ys q';rw[hv]at w1;rw[hv']at w2;cases w1;cases w2;have g:=aX.yE (o:=HO.tup [v,v']) s1 hn;exact⟨_,g,.tup au (.cons ((rv.mono s0).mono g.s0) (.cons ((rv'.mono s0).mono g.s0) .nil))⟩
section
variable{σ:L2.St}{H:Hp}{R:It->Hp->Prop}
theorem HL{K:eg}{f g:FE}(h:tDI (Dm.DV f g) σ H R):Fx K (tDA [f,g]) σ H R:=by
 obtain⟨H0,ρ,ys,ρ',st,e,k⟩:=h;unfold Dm.DV at e;split at e
 ·rename_i vs ρ1 e1;split at e
  ·rename_i xs zs ρ2 e2;cases e;refine⟨H0,ρ,vs,ρ1,st,e1,fun us H0' H' t r=>?_⟩;obtain⟨H1,t1,b1,r1⟩:=takes t (aF.refl _) r e2;cases r1 with
   |cons q1 rr=>
    cases rr with
    |cons q2 rr=>
     cases rr;cases q1 with
     |lst q rs=>
      cases q2 with
      |lst q' rs'=>exact⟨_,_,rfl,⟨_,.inl (aF.rd t1.st.same q)⟩,⟨_,.inl (aF.rd t1.st.same q')⟩,k _ H1 H' t1 (HK q rs q' rs')⟩
  ·cases e
 ·cases e
end
section
variable{X:Cx}{a b:Expr}{fa fb:FE}{p pos:Pos}{elts:List Expr}{x1:Nat}{tp:Pos}
theorem Kz(hg:Gl X "zip")(hm:X.mg "zip" = none)(ha:DA X [a,b] [fa,fb])(hs:starEach [a,b] X.env=(false,eval a X.env)::starEach [b] X.env:=by rfl)(hs2:(backTo pos (starEach [b] X.env)).any (·.1)=false:=by rfl) :
  DI X (.Tuple elts x1 tp) (.Call (.Name "zip" p) [a,b] [] pos) (Dm.DV fa fb):=PI.weak (HJ hg hm ha hs hs2) fun _ _ _=>HL
end
end Br
namespace Dm
noncomputable def fnM(n m:Nat)(body:FS)(ds:List Dat):Option (RV×Dat):=if ds.length=n then (match ds with
 | d::r=>(match body (Cell.ow d::(r.map Cell.sh++Dk m .un)) with
  | some (.ret z ρ')=>(match ρ'[0]? with
   |some (Cell.ow d')=>some (z,d')
   |_=>none)
  | some (.nx ρ')=>(match ρ'[0]? with
   |some (Cell.ow d')=>some (.val .non,d')
   |_=>none)
  |_=>none)
 |[]=>none) else none
noncomputable def flat:Dat->Bool
 |.tup xs=>xs.all fun x=>!gu x
 |d=>!gu d
noncomputable def n5:Dat->Bool
 |.lst xs=>xs.all fun x=>!gu x
 |_=>false
noncomputable def eFm(f:List Dat->Option (RV×Dat))(j:Nat)(as:List FE):FE:=fun ρ=>match ρ[j]? with
 | some (.ow _)=>(match eAs as ρ with
  |none=>none
  | some (xs,ρ1)=>(match ρ1[j]? with
   | some (.ow d1)=>(match tks ρ1 xs with
    |none=>none
    | some (ds,ρ2)=>(match ρ2[j]? with
     | some (.ow d)=>(match f (d::ds) with
      |none=>none
      |some (v,d')=>if flat v.dat&&n5 d' then some (v.dc,ρ1.set j (.ow d')) else some (v.dc,ρ2.set j (.ow d')))
     |_=>none))
   |_=>none))
 |_=>none
end Dm
namespace Br
open PySem PySem.Spec PyProof.Rows L2
section
variable{ρ:Dm.Env}{σ:L2.St}{a:Addr}
def spM(f:List Dat->Option (RV×Dat)):Sp:=fun vs H Q _=>∃H0 a us d ds z d',vs=V.ref a::us/\aF H0 H/\H0 a=none/\Own H0 H a d/\aR H0 us ds/\f (d::ds)=some (z,d') /\
 ∀v H0' H',Stp (fun b=>b=a) H0 H H0' H'->aF H0' H'->H0' a=none->Own H0' H' a d'->vo H H0' H' v z->Q v H'
theorem dZ{n m:Nat}{body:FS}{vs:List V}{H:Hp}{Q:VK}{E:XK}(h:spM (Dm.fnM n m body) vs H Q E):vs.length=n:=by
 obtain⟨H0,a,us,d,ds,z,d',e,_,_,_,rs,ef,_⟩:=h;unfold Dm.fnM at ef;split at ef
 ·rename_i hl;rw[e,NZ,rs.length]
  simpa using hl
 ·cases ef
theorem aK.qy{H0 H:Hp}{j:Nat}{d:Dat}(st:aK H0 H σ ρ)(q:σ[j]?=some (some (V.ref a)))(no:¬aE σ ρ a)(n0:H0 a=none)(w:Own H0 H a d):aK H0 H σ (ρ.set j (.ow d)):=by
 have:=st.Ai (i:=j) no n0 w;have e:σ.set j (some (V.ref a))=σ:=by
  apply List.ext_getElem?;intro i;by_cases h:j=i
  ·subst h;have hl:j<σ.length:=(Ny.mp q).1;rw[NW hl,q]
  ·rw[gc h]
 rw[e]at this;exact this
theorem aK.off{H0 H H0' H':Hp}(st:aK H0 H σ ρ)(s0:aF H0 H0')(ss:aF H0' H')(no:¬aE σ ρ a)(s1:∀b o,H b=some o->b≠a->H' b=some o)(s2:∀(i:Nat) (d:Dat) (b:Addr),ρ[i]?=some (Dm.Cell.ow d)->σ[i]?=some (some (V.ref b))->H0' b=none):aK H0' H' σ ρ where
 same:=ss
 len:=st.len
 sh:=fun i d e=>by obtain⟨v,q,r⟩:=st.sh i d e;exact⟨v,q,r.mono s0⟩
 ow:=fun i d e=>by obtain⟨b,q,n,w⟩:=st.ow i d e;obtain⟨o,z⟩:=w.some;have nb:b≠a:=fun y=>no ⟨i,d,e,y▸q⟩;exact⟨b,q,s2 i d b e q,w.mono s0 ((s1 b o z nb).trans z.symm)⟩
 dis:=st.dis
theorem gG{H0 H1:Hp}:∀{xs:List V} {ds:List Dat},aR H0 xs ds->(ds.all fun x=>!Dm.gu x)=true->aR H1 xs ds
 |_,_,.nil,_=>.nil
 |_,_,.cons r rs,h=>by rw[QO,NF]at h;exact .cons (Rep.plain r (by simpa using h.1)) (gG rs h.2)
end
section
variable{σ:L2.St}{H:Hp}{Q:VK}
theorem DX{f:List Dat->Option (RV×Dat)}{j:Nat}{fs:List FE}{E:XK}(h:tD (Dm.eFm f j fs) σ H Q):zW (spM f) [] E (tDA (Dm.eV j::fs)) σ H Q:=by
 obtain⟨H0,ρ,x,ρ',st,e,k⟩:=h;unfold Dm.eFm at e;split at e
 case h_2=>cases e
 rename_i d0 h0;split at e
 ·cases e
 rename_i xs ρ1 e1;split at e
 case h_2=>cases e
 rename_i d1 h1;split at e
 ·cases e
 rename_i ds ρ2 e2;split at e
 case h_2=>cases e
 rename_i d h2;split at e
 ·cases e
 rename_i z d' fz;have ea:Dm.eAs (Dm.eV j::fs) ρ=some (.slot j::xs,ρ1):=by unfold Dm.eAs;rw[show Dm.eV j ρ=some (.slot j,ρ) from by unfold Dm.eV;rw[h0]];dsimp only;rw[e1]
 refine⟨H0,ρ,.slot j::xs,ρ1,st,ea,fun vs H1 Hb t1 r1=>?_⟩;dsimp only;rw[Oi];cases r1 with
 |cons r0 rr=>
  obtain⟨H2,t2,b2,r2⟩:=takes t1 (aF.refl _) rr e2;obtain⟨a,qa,na,wa⟩:=t2.st.ow j d h2;obtain⟨q0,_⟩:=r0;rw[qa]at q0;cases q0;obtain⟨a1,qa1,na1,wa1⟩:=t1.st.ow j d1 h1;rw[qa]at qa1;cases qa1;obtain⟨oa,ha⟩:=wa.some;have hl2:j<ρ2.length:=(Ny.mp h2).1;have hl1:j<ρ1.length:=(Ny.mp h1).1;have oa0:aE σ ρ a:=t1.own a ⟨j,d1,h1,qa⟩;refine⟨H2,a,_,d,ds,z,d',rfl,t2.st.same,na,wa,r2,fz,fun v H3 Hd s3 ss n3 w3 r3=>?_⟩;have no2:¬aE σ (ρ2.set j .un) a:=fun y=>by obtain⟨i,d4,hi,y1,y2⟩:=eO y;exact hi (t2.st.dis i j d4 d a y1 h2 y2 qa)
  have no1:¬aE σ (ρ1.set j .un) a:=fun y=>by obtain⟨i,d4,hi,y1,y2⟩:=eO y;exact hi (t1.st.dis i j d4 d1 a y1 h1 y2 qa)
  split at e
  ·rename_i fl;cases e;rw[NF]at fl;obtain⟨f1,f2⟩:=fl;have wp:∀H',Own H' Hd a d':=fun H'=>by
    cases d' with
    |lst ys=>obtain⟨us,y1,y2⟩:=w3;exact⟨us,y1,gG y2 f2⟩
    |_=>cases f2
   have Ll:∀H1':Hp,aF H1 H1'->aF H1' Hd->(∀b o,H1' b=some o->H1 b=some o\/((∃us,o=.tup us)/\H3 b=some o))->iC H H1' Hd σ (ρ1.set j (.ow d')) v z.dc->Q v Hd:=fun H1' m1 m2 m3 rv=>by
    have hd3:∀b,H1' b≠none->b≠a:=fun b hb y=>by
     subst y;cases y2:H1' b with
     |none=>exact hb y2
     |some o=>
      rcases m3 b o y2 with y3 | ⟨_,y3⟩
      ·rw[na1]at y3;cases y3
      ·rw[n3]at y3;cases y3
    have n1':H1' a=none:=by
     cases y:H1' a with
     |none=>rfl
     |some o=>exact absurd rfl (hd3 a (by rw[y];exact fun q=>nomatch q))
    have sm:aK H1' Hd σ (ρ1.set j .un):=by
     refine(t1.st.mask j).off m1 m2 no1 (fun b o y nb=>s3.s1 b o y nb) fun i d4 b y1 y2=>?_;obtain⟨b',q',nb',w'⟩:=(t1.st.mask j).ow i d4 y1;rw[y2]at q';cases q';cases y:H1' b with
     |none=>rfl
     |some o=>
      rcases m3 b o y with y3 | ⟨⟨us,y4⟩,y3⟩
      ·rw[nb']at y3;cases y3
      ·subst y4;have nb:b≠a:=hd3 b (by rw[y];exact fun q=>nomatch q);cases d4 with
       |lst _=>obtain⟨ws,z1,_⟩:=w';have z2:=s3.s1 b _ z1 nb;rw[ss _ _ y3]at z2;cases z2
       |dct _ _=>obtain⟨ws,z1,_⟩:=w';have z2:=s3.s1 b _ z1 nb;rw[ss _ _ y3]at z2;cases z2
       |dcp _ _=>obtain⟨ws,z1,_⟩:=w';have z2:=s3.s1 b _ z1 nb;rw[ss _ _ y3]at z2;cases z2
       |_=>exact NH w'
    have sf:aK H1' Hd σ (ρ1.set j (.ow d')):=by have:=sm.qy qa no1 n1' (wp H1');rw[List.set_set]at this;exact this
    refine k v H1' Hd ⟨sf,⟨t1.stp.s0.trans m1,fun b o y nb=>?_,fun b o y=>?_,fun b o y=>?_⟩,fun b y=>?_,fun i y=>?_⟩ rv
    ·have y1:=t1.stp.s1 b o y nb;exact s3.s1 b o y1 fun q=>nb (by rw[q];exact oa0)
    ·rcases m3 b o y with y3 | ⟨_,y3⟩
     ·exact t1.stp.s2 b o y3
     ·rcases s3.s2 b o y3 with y4 | y4 | y4
      ·exact .inl (t1.stp.gone y4)
      ·exact t2.stp.s2 b o y4
      ·subst y4;rw[n3]at y3;cases y3
    ·obtain⟨o',y1⟩:=t1.stp.s3 b o y;exact s3.s3 b o' y1
    ·obtain⟨i,d4,y1,y2⟩:=y;by_cases hi:j=i
     ·subst hi;rw[qa]at y2;cases y2;exact oa0
     ·rw[gc hi]at y1;exact t1.own b ⟨i,d4,y1,y2⟩
    ·trivial
   have m0:aF H1 Hd:=fun b o y=>s3.s1 b o (t1.st.same _ _ y) fun q=>by rw[q,na1]at y;cases y
   cases z with
   |new d4=>
    obtain⟨_,_,_,_,w⟩:=r3;cases d4 with
    |lst _=>cases f1
    |dct _ _=>cases f1
    |dcp _ _=>cases f1
    |_=>exact NH w
   |val d4=>
    have r3':Rep H3 v d4:=r3;cases d4 with
    |tup es=>
     cases r3' with
     |tup q rs=>
      rename_i a2 us;have rp:aR H1 us es:=gG rs f1;refine Ll (upd H1 a2 (.tup us)) (fun b o y=>?_) (fun b o y=>?_) (fun b o y=>?_) (.tup au (gG rs f1))
      ·by_cases hb:b=a2
       ·subst hb;have:=s3.s0 _ _ (b2 _ _ y);rw[q]at this;rw[au,this]
       ·rw[ao hb];exact y
      ·by_cases hb:b=a2
       ·subst hb;rw[au]at y;cases y;exact ss _ _ q
       ·rw[ao hb]at y;exact m0 _ _ y
      ·by_cases hb:b=a2
       ·subst hb;rw[au]at y;cases y;exact .inr ⟨⟨us,rfl⟩,q⟩
       ·rw[ao hb]at y;exact .inl y
    |lst _=>cases f1
    |dct _ _=>cases f1
    |dcp _ _=>cases f1
    |exc _=>cases f1
    |bC _ _=>cases f1
    |fn _=>exact Ll H1 (aF.refl _) m0 (fun b o y=>.inl y) (Rep.plain r3' rfl)
    |non=>exact Ll H1 (aF.refl _) m0 (fun b o y=>.inl y) (Rep.plain r3' rfl)
    |bl _=>exact Ll H1 (aF.refl _) m0 (fun b o y=>.inl y) (Rep.plain r3' rfl)
    |int _=>exact Ll H1 (aF.refl _) m0 (fun b o y=>.inl y) (Rep.plain r3' rfl)
    |str _=>exact Ll H1 (aF.refl _) m0 (fun b o y=>.inl y) (Rep.plain r3' rfl)
  ·cases e;have sm:aK H3 Hd σ (ρ2.set j .un):=by
    refine(t2.st.mask j).off s3.s0 ss no2 (fun b o y nb=>s3.s1 b o y nb) fun i d4 b y1 y2=>?_;obtain⟨b',q',nb',w'⟩:=(t2.st.mask j).ow i d4 y1;rw[y2]at q';cases q';obtain⟨ob,hob⟩:=w'.some;cases y:H3 b with
    |none=>rfl
    |some o=>
     rcases s3.s2 b o y with y3 | y3 | y3
     ·rw[hob]at y3;cases y3
     ·rw[nb']at y3;cases y3
     ·exact absurd ⟨i,d4,y1,y3▸y2⟩ no2
   have sf:aK H3 Hd σ (ρ2.set j (.ow d')):=by have:=sm.qy qa no2 n3 w3;rw[List.set_set]at this;exact this
   have of:∀b,aE σ (ρ2.set j (.ow d')) b->b=a\/aE σ ρ2 b:=fun b ⟨i,d4,y1,y2⟩=>by
    by_cases hi:j=i
    ·subst hi;rw[qa]at y2;cases y2;exact .inl rfl
    ·rw[gc hi]at y1;exact .inr ⟨i,d4,y1,y2⟩
   refine k v H3 Hd ⟨sf,t2.stp.trans s3 (fun b y=>.inl (y▸oa0)),fun b y=>?_,fun i y=>?_⟩ ?_
   ·rcases of b y with y | y
    ·exact y▸oa0
    ·exact t2.own b y
   ·trivial
   ·cases z with
    |val d4=>exact r3
    |new d4=>
     obtain⟨b,y0,y1,y2,y3⟩:=r3;refine⟨b,y0,t2.stp.gone y1,fun y=>?_,y2,y3⟩;rcases of b y with y | y
     ·subst y;rw[ha]at y1;cases y1
     ·exact t2.st.iE y1 y
end
theorem aW{X:Cx}{es:List Expr}{p pos px:Pos}{k:Nat}{F:Addr}{fd:FuncData}{ps:List Str}{g:List Dat->Option (RV×Dat)}{x y:Str}{j:Nat}{fs:List FE}(G:bH X.prog X.w X.K X.mg X.base CX0 k F fd ps (spM g))(hr:bK k X.A)(hg:Gl X x)(hm:X.mg x=some (.ref F))(hk:Ot X.K (.ref F)=true)(hb:Binds X.K fd ps [])
  (ha:DA X (.Name y px::es) (Dm.eV j::fs)) (Lh:(x == ("__debug__" : Str))=false:=by decide) (he:starEach (.Name y px::es) X.env=(false,eval (.Name y px) X.env)::starEach es X.env:=by rfl) (Il:(backTo pos (starEach es X.env)).any (·.1)=false:=by rfl) :
  DE X (.Call (.Name x p) (.Name y px::es) [] pos) (Dm.eFm g j fs):=PE.weak (wM G hr hg hm hk hb .nil (Fj (X:=X)) ha Lh he Il) fun _ _ _=>DX
theorem jx{N:List Str}{n m:Nat}{body:FS}{vs:List V}{H:Hp}{Q:VK}{E:XK}(hm:N.length=n+m)(h:spM (Dm.fnM n m body) vs H Q E) :
  tDS body { nx:=fun _ H'=>Q .non H',rt:=Q } (start N vs) H:=by
 have hvn:=dZ h;obtain⟨H0,a,us,d,ds,z,d',e,s,na,wa,rs,ef,k⟩:=h;subst e;have hl:=rs.length;rw[NZ]at hvn;have e0:(start N (V.ref a::us))[0]?=some (some (V.ref a)):=rfl;have get:∀{i:Nat} {c:Dm.Cell},(Dm.Cell.ow d::(ds.map Dm.Cell.sh++Dk m .un))[i]?=some c->(i=0/\c=.ow d)\/(∃i' d4,i=i'+1/\ds[i']?=some d4/\c=.sh d4)\/c=.un:=fun {i c} y=>by
  cases i with
  |zero=>cases y;exact .inl ⟨rfl,rfl⟩
  |succ i=>
   rw[OO]at y;by_cases hi:i<ds.length
   ·rw[Nz (by simpa using hi),NY,ND hi]at y;cases y;exact .inr (.inl ⟨i,ds[i],rfl,ND hi,rfl⟩)
   ·rw[NQ (by simpa using hi),N5]at y;split at y
    ·cases y;exact .inr (.inr rfl)
    ·cases y
 have ow0:∀{i:Nat} {d4:Dat},(Dm.Cell.ow d::(ds.map Dm.Cell.sh++Dk m .un))[i]?=some (.ow d4)->i=0/\d4=d:=fun {i d4} y=>by
  rcases get y with⟨y1,y2⟩ | ⟨_,_,_,_,y2⟩ | y2
  ·cases y2;exact⟨y1,rfl⟩
  ·cases y2
  ·cases y2
 have oa:∀b,aE (start N (V.ref a::us)) (Dm.Cell.ow d::(ds.map Dm.Cell.sh++Dk m .un)) b->b=a:=fun b ⟨i,d4,y1,y2⟩=>by obtain⟨y3,_⟩:=ow0 y1;subst y3;rw[e0]at y2;cases y2;rfl
 have st:aK H0 H (start N (V.ref a::us)) (Dm.Cell.ow d::(ds.map Dm.Cell.sh++Dk m .un)):=by
  refine⟨s,?_,fun i d4 y=>?_,fun i d4 y=>?_,fun i i' d4 d5 b y1 y2 _ _=>(ow0 y1).1.trans (ow0 y2).1.symm⟩
  ·unfold L2.start;simp only[NL,NI,OT,NZ];omega
  ·rcases get y with⟨_,y2⟩ | ⟨i',d5,y1,y2,y3⟩ | y2
   ·cases y2
   ·cases y3;subst y1;obtain⟨v,hv,r⟩:=rs.get y2;refine⟨v,?_,r⟩;have hi:i'<us.length:=(Ny.mp hv).1;unfold L2.start;rw[Nz (by simp;omega),NY,OO,hv];rfl
   ·cases y2
  ·obtain⟨y1,y2⟩:=ow0 y;subst y1 y2;exact⟨a,e0,na,wa⟩
 have Ll:∀{σ':L2.St} {ρ':Dm.Env} {H0' H':Hp},SSt (start N (V.ref a::us)) (Dm.Cell.ow d::(ds.map Dm.Cell.sh++Dk m .un)) H0 H σ' ρ' H0' H'->ρ'[0]?=some (.ow d')->Stp (fun b=>b=a) H0 H H0' H'/\H0' a=none/\Own H0' H' a d'/\aE σ' ρ' a:=fun {σ' ρ' H0' H'} t y=>by obtain⟨a',q',n',w'⟩:=t.st.ow 0 d' y;have fx:=t.fx;rw[e0,q']at fx;cases fx;exact⟨t.stp.wide fun b z=>oa b z,n',w',0,d',y,q'⟩
 unfold Dm.fnM at ef;split at ef
 case isFalse=>cases ef
 dsimp only at ef;split at ef
 ·rename_i z' ρ' e1;split at ef
  case h_2=>cases ef
  rename_i d4 y;cases ef;refine⟨H0,_,_,st,e1,fun σ' v H0' H' t r no=>?_⟩;obtain⟨f1,f2,f3,f4⟩:=Ll t y;refine k v H0' H' f1 t.st.same f2 f3 ?_;cases z with
  |val d5=>exact r
  |new d5=>
   obtain⟨b,y0,y1,y2,y3⟩:=r;refine⟨b,y0,?_,y2,y3⟩;rcases y1 with y1 | y1
   ·exact y1
   ·exact absurd f4 (oa b y1▸no d5 b rfl y0)
 ·rename_i ρ' e1;split at ef
  case h_2=>cases ef
  rename_i d4 y;cases ef;refine⟨H0,_,_,st,e1,fun σ' H0' H' t=>?_⟩;obtain⟨f1,f2,f3,f4⟩:=Ll t y;exact k _ H0' H' f1 t.st.same f2 f3 .non
 ·cases ef
end Br
namespace Dm
noncomputable def e_:List Int->List Dat->Int->Option Dat
 |k::ks,v::vs,i=>if k=i then some v else e_ ks vs i
 |_,_,_=>none
noncomputable def xw:List Int->List Dat->Int->Dat->List Dat
 |k::ks,v::vs,i,d=>(if k=i then d else v)::xw ks vs i d
 |_,_,_,_=>[]
noncomputable def mz(ks:List Int)(i:Int):List Int:=if (ks.any fun k=>decide (k=i))=true then ks else ks++[i]
noncomputable def mC(ks:List Int)(vs:List Dat)(i:Int)(d:Dat):List Dat:=if (ks.any fun k=>decide (k=i))=true then xw ks vs i d else vs++[d]
noncomputable def eDn:FE:=fun ρ=>some (.new (.dct [] []),ρ)
noncomputable def gDx:Dat->Dat->Option RV
 |.dct ks vs,.int i=>(e_ ks vs i).map .val
 |_,_=>none
noncomputable def Np:Dat->Dat->Option RV
 |.int i,.dct ks vs=>vB (e_ ks vs i).isSome
 |_,_=>none
noncomputable def tN:Dat->Dat->Option RV
 |.int i,.dct ks vs=>vB (!(e_ ks vs i).isSome)
 |_,_=>none
noncomputable def qz(a b:FE):FE:=fun ρ=>match a ρ with
 |none=>none
 |some (x,ρ1)=>match pk ρ1 x with
  | some (.dct _ _)=>(match b ρ1 with
   |none=>none
   |some (y,ρ2)=>match pk ρ2 x with
    | some (.dct ks vs)=>(match pk ρ2 y with
     |some (.int i)=>some (.val ((e_ ks vs i).getD .non),ρ2)
     |_=>none)
    |_=>none)
  |_=>none
noncomputable def eD1(a b:FE):FE:=fun ρ=>match a ρ with
 | some (.val (.int i),ρ1)=>(match b ρ1 with
  |none=>none
  |some (x,ρ2)=>match tk ρ2 x with
   |none=>none
   |some (d,ρ3)=>some (.new (.dct [i] [d]),ρ3))
 |_=>none
noncomputable def qA(i:Nat)(j e:FE):FS:=fun ρ=>match e ρ with
 |none=>none
 |some (x,ρ1)=>match tk ρ1 x with
  |none=>none
  |some (d,ρ2)=>match ρ2[i]? with
   | some (.ow _)=>(match j ρ2 with
    | some (.val (.int k),ρ3)=>(match ρ3[i]? with
     |some (.ow (.dct ks vs))=>if ks.length<SZ then some (.nx (ρ3.set i (.ow (.dct (mz ks k) (mC ks vs k d))))) else none
     |_=>none)
    |_=>none)
   |_=>none
end Dm
namespace Br
open PySem PySem.Spec PyProof.Rows L2
section
variable{ds:List Dat}{ks:List Int}{H0:Hp}{d:Dat}{v:V}
theorem kW{H0 H:Hp}(s:aF H0 H)(r:lN H0 H v (.dct ks ds)):∃a kvs,v=.ref a/\H a=some (.dK kvs)/\kvs.map (·.1)=ks.map N3/\aR H0 (kvs.map (·.2)) ds:=by
 rcases r with r | ⟨a,e,kvs,q,ek,rs⟩
 ·cases r with
  |dct q ek rs=>exact⟨_,_,rfl,s _ _ q,ek,rs⟩
 ·exact⟨a,kvs,e,q,ek,rs⟩
theorem vF{a b:Int}(h:¬a=b):¬(N3 a:Key)=N3 b:=fun q=>h (N3.inj q)
theorem m9(i:Int):∀{kvs:List (Key×V)} {ks:List Int} {ds:List Dat},kvs.map (·.1)=ks.map N3->aR H0 (kvs.map (·.2)) ds ->
  (∃d v,Dm.e_ ks ds i=some d/\fD kvs (N3 i)=some v/\Rep H0 v d)\/(Dm.e_ ks ds i=none/\fD kvs (N3 i)=none)
 |[],[],_,_,r=>by cases r;exact .inr ⟨rfl,rfl⟩
 |[],_::_,_,e,_=>by cases e
 |_::_,[],_,e,_=>by cases e
 |(k0,v0)::kvs,k::ks,_,e,r=>by
  rw[Nv]at r;cases r with
  |cons r0 rr=>
   rw[Nv,Nv]at e;injection e with e1 e2
   have e1:k0=N3 k:=e1;subst e1;unfold Dm.e_;by_cases h:k=i
   ·subst h;rw[if_pos rfl];exact .inl ⟨_,v0,rfl,cG rfl,r0⟩
   ·rw[if_neg h,cH (vF h)];exact m9 i e2 rr
theorem A1(i:Int):∀{kvs:List (Key×V)} {ks:List Int},kvs.map (·.1)=ks.map N3->(kvs.any fun kv=>decide (kv.1=N3 i))=(ks.any fun k=>decide (k=i))
 |[],[],_=>rfl
 |[],_::_,e=>by cases e
 |_::_,[],e=>by cases e
 |(k0,v0)::kvs,k::ks,e=>by
  rw[Nv,Nv]at e;injection e with e1 e2
  have e1:k0=N3 k:=e1;subst e1;rw[OU,OU,A1 i e2]
  congr 1
  by_cases h:k=i
  ·subst h;simp
  ·have:=vF h;simp[h,this]
theorem xx(i:Int)(rv:Rep H0 v d):∀{kvs:List (Key×V)} {ks:List Int} {ds:List Dat},kvs.map (·.1)=ks.map N3->aR H0 (kvs.map (·.2)) ds ->
  ((kvs.map fun kv=>if kv.1=N3 i then (kv.1,v) else kv).map (·.1)=ks.map N3)/\aR H0 ((kvs.map fun kv=>if kv.1=N3 i then (kv.1,v) else kv).map (·.2)) (Dm.xw ks ds i d)
 |[],[],_,_,r=>by cases r;exact⟨rfl,.nil⟩
 |[],_::_,_,e,_=>by cases e
 |_::_,[],_,e,_=>by cases e
 |(k0,v0)::kvs,k::ks,_,e,r=>by
  rw[Nv]at r;cases r with
  |cons r0 rr=>
   rw[Nv,Nv]at e;injection e with e1 e2
   have e1:k0=N3 k:=e1;subst e1;obtain⟨i1,i2⟩:=xx i rv e2 rr;unfold Dm.xw;by_cases h:k=i
   ·subst h;rw[if_pos rfl,Nv,Nv,Nv,i1];simp only[if_true];exact⟨trivial,.cons rv i2⟩
   ·rw[if_neg h,Nv,Nv,Nv,i1];have:=vF h;simp only[this,if_false];exact⟨trivial,.cons r0 i2⟩
theorem HM(i:Int)(rv:Rep H0 v d){kvs:List (Key×V)}(e:kvs.map (·.1)=ks.map N3)(r:aR H0 (kvs.map (·.2)) ds) :
  (putK kvs (N3 i) v).map (·.1)=(Dm.mz ks i).map N3/\aR H0 ((putK kvs (N3 i) v).map (·.2)) (Dm.mC ks ds i d):=by
 have ha:=A1 i e;unfold putK Dm.mz Dm.mC;rw[ha];cases hb:(ks.any fun k=>decide (k=i)) with
 |true=>simp only[if_true];exact xx i rv e r
 |false=>simp only[O4,if_false];rw[Oo,Oo,Oo,e];exact⟨rfl,r.append (.cons rv .nil)⟩
theorem KA:OpD (fun x y H Q=>∃a v,x=.ref a/\jD H a y (some v)/\Q v H) Dm.gDx:=by
 intro H0 H x y dx dy z Q s rx ry e k;unfold Dm.gDx at e;split at e
 ·rename_i ks vs i;cases aM ry;obtain⟨a,kvs,rfl,qa,ek,rs⟩:=kW s rx;rcases m9 i ek rs with⟨d,v,l1,l2,r⟩ | ⟨l1,_⟩
  ·rw[l1]at e;cases e;refine⟨a,v,rfl,?_,k _ H0 H (aX.refl s) r⟩;have:=jD.k (k:=N3 i) qa;rw[l2]at this;exact this
  ·rw[l1]at e;cases e
 ·cases e
theorem DY:OpD (fun y x H Q=>∃a o,x=.ref a/\jD H a y o/\Q (.bl (!o.isSome)) H) Dm.tN:=by
 intro H0 H x y dx dy z Q s rx ry e k;unfold Dm.tN at e;split at e
 ·rename_i i ks vs;cases e;cases aM rx;obtain⟨a,kvs,rfl,qa,ek,rs⟩:=kW s ry;refine⟨a,_,rfl,jD.k (k:=N3 i) qa,k _ H0 H (aX.refl s) ?_⟩;rcases m9 i ek rs with⟨d,v,l1,l2,r⟩ | ⟨l1,l2⟩
  ·rw[l1,l2];exact .bl _
  ·rw[l1,l2];exact .bl _
 ·cases e
end
section
variable{σ:L2.St}{H:Hp}{Q:VK}{D:Ends}
theorem MO(h:tD Dm.eDn σ H Q):Aa σ H Q:=by obtain⟨H0,ρ,x,ρ',st,e,k⟩:=h;cases e;intro p hp;have g:=aX.pT (o:=HO.dK []) st.same hp;exact k _ _ _ (.grow st g) ⟨p,rfl,hp,st.iE hp,st.same.free hp,[],au,rfl,.nil⟩
theorem HN{fo fi:FE}(h:tD (Dm.qz fo fi) σ H Q):Ad (tD fo) (tD fi) σ H Q:=by
 obtain⟨H0,ρ,x,ρ',st,e,k⟩:=h;unfold Dm.qz at e;split at e
 ·cases e
 rename_i x1 ρ1 e1;split at e
 case h_2=>cases e
 rename_i ks0 vs0 p0;split at e
 ·cases e
 rename_i y1 ρ2 e2;split at e
 case h_2=>cases e
 rename_i ks vs p1;split at e
 case h_2=>cases e
 rename_i i p2;cases e;refine⟨H0,ρ,x1,ρ1,st,e1,fun v H1 Hb t1 r1=>?_⟩;obtain⟨a,MP,rfl,qa0,_,_⟩:=kW t1.st.same (r1.look t1.st p0);refine⟨a,rfl,.inl ⟨MP,.inl qa0⟩,H1,ρ1,y1,_,t1.st,e2,fun u H2 Hc t2 r2=>?_⟩;have hu:=aM (r2.look t2.st p2);subst hu;obtain⟨a',kvs,ea,qa,ek,rs⟩:=kW t2.st.same ((r1.mono t2).look t2.st p1);cases ea;refine⟨_,jD.k (k:=N3 i) qa,k _ H2 Hc (t1.trans t2) ?_⟩;rcases m9 i ek rs with⟨d,w,l1,l2,r⟩ | ⟨l1,l2⟩
 ·rw[l1,l2];exact r
 ·rw[l1,l2];exact Rep.non
theorem HP{i:Nat}{j f:FE}(h:tDS (Dm.qA i j f) D σ H):Fp (nB i) (tD j) (tD f) D σ H:=by
 obtain⟨H0,ρ,o,st,e,k⟩:=h;unfold Dm.qA at e;split at e
 ·cases e
 rename_i x ρ1 e1;split at e
 ·cases e
 rename_i d ρ2 e2;split at e
 case h_2=>cases e
 rename_i d0 h2;split at e
 ·rename_i m ρ3 e3;split at e
  ·rename_i ks vs h3;split at e
   case isFalse=>cases e
   rename_i hz;cases e;refine⟨H0,ρ,_,ρ1,st,e1,fun v H0' H' t r=>?_⟩;obtain⟨H1,t1,b1,r1,_,_⟩:=take1 t (aF.refl _) r e2;obtain⟨a0,q0,_,_⟩:=t1.st.ow i _ h2;refine⟨_,q0,H1,ρ2,_,ρ3,t1.st,e3,fun u H2 Hc t2 r2=>?_⟩;obtain⟨a,q,n,w⟩:=t2.st.ow i _ h3;rw[q0]at q;cases q;obtain⟨kvs,y,ek,rs⟩:=w;have hu:=Rep.isInt r2;subst hu;obtain⟨p1,p2⟩:=HM m (r1.mono t2.stp.s0) ek rs;have FH:kvs.length=ks.length:=by
    have:=congrArg List.length ek
    simpa using this
   refine⟨a0,_,rfl,z9.k (k:=N3 m) y (by rw[FH];exact NO hz (by decide)),?_⟩;have ow:aE σ ρ3 a0:=⟨i,_,h3,q0⟩
   have tt:=t1.trans t2;exact k σ H2 _ ⟨t2.st.write h3 q0 ⟨_,au,p1,p2⟩,tt.stp.trans (Stp.write ow) fun b z=>.inl (tt.own b z),fun b z=>.inl (tt.own b (fV h3 z)),rfl⟩
  ·cases e
 ·cases e
theorem MQ{fa fb:FE}(h:tD (Dm.eD1 fa fb) σ H Q):Ac [(tD fa,tD fb)] σ H Q:=by
 obtain⟨H0,ρ,x,ρ',st,e,k⟩:=h;unfold Dm.eD1 at e;split at e
 ·rename_i i ρ1 e1;split at e
  ·cases e
  rename_i y ρ2 e2;split at e
  ·cases e
  rename_i d ρ3 e3;cases e;intro p hp;have n0:H0 p=none:=st.same.free hp;have no:¬aE σ ρ p:=st.iE hp;refine⟨H0,ρ,_,ρ1,st.aside n0 no,e1,fun u H1 Hb t1 r1=>⟨H1,ρ1,y,ρ2,t1.st,e2,fun v H2 Hc t2 r2=>?_⟩⟩;have tt:=t1.trans t2;obtain⟨H3,t3,b3,r3,_,_⟩:=take1 tt (aF.refl _) (r2.early fun a n=>t1.stp.gone n) e3;obtain⟨hp3,n3,no3⟩:=t3.gY (o:=HO.dK []) au n0 no;have hu:=Rep.isInt r1;subst hu;refine⟨hp3,[(N3 i,v)],rfl,(by simp),?_⟩;have em:iA [] [((N3 i:Key),v)]=[(N3 i,v)]:=rfl;rw[em];refine k _ H3 _ ⟨t3.st.aside n3 no3,⟨t3.stp.s0,fun a o y nb=>?_,fun a o y=>?_,fun a o y=>?_⟩,t3.own,t3.dfn⟩ ⟨p,rfl,hp,no3,n3,_,au,rfl,.cons r3 .nil⟩
  ·have ne:a≠p:=fun q=>by rw[q,hp]at y;cases y
   rw[ao ne];exact t3.stp.s1 a o (by rw[ao ne];exact y) nb
  ·rcases t3.stp.s2 a o y with y1 | y1 | y1
   ·by_cases ne:a=p
    ·subst ne;rw[n3]at y;cases y
    ·rw[ao ne]at y1;exact .inl y1
   ·exact .inr (.inl y1)
   ·exact .inr (.inr y1)
  ·have ne:a≠p:=fun q=>by rw[q,hp]at y;cases y
   rw[ao ne];exact t3.stp.s3 a o (by rw[ao ne];exact y)
 ·cases e
end
theorem u1{k:Nat}{A:Around}(hr:bK k A):A.units+1<cLine:=Qg (Nat.add_le_add_left (by decide) _) hr.units
section
variable{X:Cx}{a b e:Expr}{fa fb f:FE}{pos:Pos}{k:Nat}
theorem KC:DE X (.Dict [] [] pos) Dm.eDn:=PE.weak Ab fun _ _ _=>MO
theorem MR(ha:DE X a fa)(hb:DE X b fb):DE X (.Dict [some a] [b] pos) (Dm.eD1 fa fb):=PE.weak (wY (sQ ha hb wX) rfl rfl (by simp) (by simp)) fun _ _ _=>MQ
theorem MS(hr:bK k X.A)(ha:DE X a fa)(hb:DE X b fb)(hs:Df b:=by intro _ _;rfl):DE X (.Subscript a b pos) (Dm.e2 Dm.gDx fa fb):=PE.weak (wW (u1 hr) ha hb hs) fun _ _ _=>yG KA
theorem HQ(hr:bK k X.A)(ha:DE X a fa)(hb:DE X b fb)(hm:behindInMarks .NotIn b=false:=by rfl):DT X (.Compare a [.NotIn] [b] pos) (Dm.tV (Dm.e2 Dm.tN fa fb)):=PT.weak (Gq (yD (u1 hr) ha hb) hm) fun σ H Q h=>yG DY (vv h)
theorem HR{M3 cpos:Pos}(hr:bK k X.A)(ha:DE X a fa)(hb:DE X b fb)(m:M1 X a "get" M3 b cpos:=by exact⟨rfl,rfl,rfl,rfl⟩):DE X (.Call (.Attribute a "get" M3) [b] [] cpos) (Dm.qz fa fb):=PE.weak (Ae (u1 hr) ha hb m) fun _ _ _=>HN
theorem HS(i:Nat){x:Str}{px sp:Pos}(hr:bK k X.A)(hb:DE X b fb)(he:DE X e f)(hi:X.N[i]?=some x:=by rfl)(hv:Vis X.env.scope x:=by trivial)(hd:(x == ("__debug__" : Str))=false:=by decide)
  (Lp:(x == ("__classdict__" : Str))=false:=by decide) (hs:swapsWith e (some (.Subscript (.Name x px) b sp)) pos.line X.env=pure false:=by rfl):DS X (.Assign [.Subscript (.Name x px) b sp] e pos) (Dm.qA i fb f):=
 PS.weak (Di (u1 hr) (lG hi hv hd Lp) hb he hs) fun _ _ _=>HP
end
end Br
namespace Dm
noncomputable def yN:List Dat->Option RV
 |[.int i]=>vI (if i<0 then -i else i)
 |_=>none
noncomputable def yO(i:Nat):FE:=fun ρ=>match ρ[i]? with
 | some (.ow (.lst ds))=>(match ds[ds.length-1]? with
  |some d=>some (.val d,ρ.set i (.ow (.lst (ds.take (ds.length-1)))))
  |none=>none)
 |_=>none
end Dm
namespace Br
open PySem PySem.Spec PyProof.Rows L2
theorem HU:CallD (fun xs H Q=>∃i,xs=[.int i]/\Q (.int (if i<0 then -i else i)) H) Dm.yN:=by
 intro H0 H xs ds z Q s rx e k;unfold Dm.yN at e;split at e
 ·rename_i i;cases e;cases rx with
  |cons r rr=>cases rr;cases aM r;exact⟨i,rfl,k _ H0 H (aX.refl s) (.int _)⟩
 ·cases e
theorem dropLast_take{α:Type}(l:List α):l.dropLast=l.take (l.length-1):=List.dropLast_eq_take
section
variable{σ:L2.St}{H:Hp}{Q:VK}
theorem KD{K:eg}{i:Nat}(h:tD (Dm.yO i) σ H Q):JD K "list" JH (nB i) σ H Q:=by
 obtain⟨H0,ρ,x,ρ',st,e,k⟩:=h;unfold Dm.yO at e;split at e
 case h_2=>cases e
 rename_i ds h0;split at e
 case h_2=>cases e
 rename_i d hd;cases e;obtain⟨a,q,n,xs,y,rs⟩:=st.ow i _ h0;refine⟨_,q,.inl ⟨rfl,xs,.inl (.inl y)⟩,?_⟩;have hl:=rs.length;obtain⟨v,hv,rv⟩:=rs.get hd;rw[<- hl]at hv;refine⟨a,xs,v,rfl,rfl,y,hv,?_⟩;rw[dropLast_take,hl];have ow:aE σ ρ a:=⟨i,_,h0,q⟩
 have hi:i<ρ.length:=(Ny.mp h0).1;refine k v H0 _ ⟨st.write h0 q ⟨_,au,rs.take _⟩,Stp.write ow,fun b z=>fV h0 z,fun j z=>trivial⟩ rv
theorem MT{K:eg}{f:FE}{Q:Bool->Hp->Prop}(h:tDT (Dm.tTr f) σ H Q):tD f σ H fun x H'=>∃k,GL K x H' k/\Q k H':=by
 obtain⟨H0,ρ,b,ρ',st,e,k⟩:=h;unfold Dm.tTr at e;split at e
 ·cases e
 rename_i x ρ1 e1;split at e
 ·cases e
 rename_i d p1;split at e
 ·cases e
 rename_i c tc;cases e;refine⟨H0,ρ,x,_,st,e1,fun v H1 Hb t1 r1=>⟨b,?_,k H1 Hb t1⟩⟩;have rl:=r1.look t1.st p1;cases d with
 |non=>
  cases tc;rcases rl with r | ⟨a,_,w⟩
  ·cases r;rfl
  ·exact NH w
 |bl c=>cases tc;cases xg rl;rfl
 |int i=>cases tc;cases aM rl;rfl
 |tup es=>cases tc;obtain⟨a,xs,rfl,qa,rs⟩:=kO t1.st.same rl;refine .inr (.inl ⟨xs,SqT.of qa,?_⟩);cases rs<;>rfl
 |lst es=>cases tc;obtain⟨a,xs,rfl,qa,rs⟩:=dG t1.st.same rl;refine .inl ⟨xs,.inl qa,?_⟩;cases rs<;>rfl
 |str _=>cases tc
 |dct _ _=>cases tc
 |dcp _ _=>cases tc
 |exc _=>cases tc
 |bC _ _=>cases tc
 |fn _=>cases tc
end
section
variable{X:Cx}{a:Expr}{fa:FE}{p pos:Pos}
theorem MU(ha:DE X a fa)(he:∀whole,isTrue a X.env whole=(do let v <- whole;standAt a.pos;holding [v] (truthy v)):=by intro _;rfl):DT X a (Dm.tTr fa):=PT.weak (zT ha he) fun _ _ _=>MT
theorem KG(i:Nat){x:Str}{px ap cp:Pos}(hi:X.N[i]?=some x:=by rfl)(hv:Vis X.env.scope x:=by trivial)(hd:(x == ("__debug__" : Str))=false:=by decide)
  (Lp:(x == ("__classdict__" : Str))=false:=by decide) (S1:attributeBase (.Name x px) "pop" X.env (eval (.Name x px) X.env)=eval (.Name x px) X.env:=by rfl) (R1:(ap.endLine == cp.line)=true:=by rfl) :
  DE X (.Call (.Attribute (.Name x px) "pop" ap) [] [] cp) (Dm.yO i):=
 PE.weak (GW PySem.F.plainAttrs_list PySem.F.slot_list_pop PySem.F.type_list_pop GY (lG hi hv hd Lp) S1 R1) fun _ _ _=>KD
end
section
variable{X:Cx}{a b e:Expr}{fa fb f:FE}{fs:List FE}{p p2 pos:Pos}
theorem Fy(hg:Gl X "abs")(hm:X.mg "abs" = none)(ha:DA X [e] fs)(he:starEach [e] X.env=[(false,eval e X.env)]:=by rfl)(Il:(backTo pos (starEach [] X.env)).any (·.1)=false:=by rfl):DE X (.Call (.Name "abs" p) [e] [] pos) (Dm.eB Dm.yN fs):=AB zU HU PyProof.Rows.boot_abs hg hm ha (he:=he) (Il:=Il)
end
end Br
namespace Dm
noncomputable def n6:List Dat->Option (List Int)
 |[]=>some []
 |.int i::r=>(n6 r).map fun ns=>i::ns
 |_=>none
end Dm
namespace Br
open PySem PySem.Spec PyProof.Rows L2
theorem intsAre_of:∀{ns:List Int} {its:List Value},Vals (ns.map V.int) its->IntsAre its ns
 |[],_,r=>by cases r;exact .nil
 |n::ns,_,r=>by
  rw[Nv]at r;cases r with
  |cons h t=>obtain⟨tk,rfl⟩:=h;exact .cons _ _ (intsAre_of t)
theorem tO{H0:Hp}:∀{ds:List Dat} {xs:List V} {ns:List Int},aR H0 xs ds->Dm.n6 ds=some ns->xs=ns.map V.int
 |[],_,ns,r,e=>by cases r;cases e;rfl
 |d::ds,_,ns,r,e=>by
  cases r with
  |cons h t=>
   cases d with
   |int i=>
    unfold Dm.n6 at e;cases q:Dm.n6 ds with
    |none=>rw[q]at e;cases e
    |some ms=>rw[q]at e;cases e;cases Rep.isInt h;rw[tO t q];rfl
   |_=>cases e
end Br
namespace Ts
open PySem PyProof.Rows
variable{M:Model}{A:Around}{E:Value->Shared->Prop}{s:Shared}{κ:KeyKind}{kd:SortKind}{a₀:Array Keyed}
end Ts
namespace Ts
open PySem PyProof.Rows
variable{M:Model}{A:Around}{E:Value->Shared->Prop}{s:Shared}{κ:KeyKind}{kd:SortKind}{a₀:Array Keyed}
end Ts
namespace Ts
open PySem PyProof.Rows
variable{M:Model}{A:Around}{E:Value->Shared->Prop}{s:Shared}{κ:KeyKind}{kd:SortKind}{a₀:Array Keyed}
end Ts
namespace Ts
open PySem PyProof.Rows
variable{M:Model}{A:Around}{E:Value->Shared->Prop}{s:Shared}{κ:KeyKind}{kd:SortKind}{a₀:Array Keyed}
end Ts
namespace Ts
open PySem PyProof.Rows
variable{A:Around}{E:Value->Shared->Prop}{s:Shared}{κ:KeyKind}{kd:SortKind}{a₀:Array Keyed}{prog:Program}{w:World}
end Ts
namespace Ts
open PySem PyProof.Rows
variable{A:Around}{E:Value->Shared->Prop}{s:Shared}{κ:KeyKind}{kd:SortKind}{a₀:Array Keyed}{prog:Program}{w:World}
end Ts
namespace Ts
open PySem PyProof.Rows
variable{A:Around}{E:Value->Shared->Prop}{s:Shared}{κ:KeyKind}{kd:SortKind}{a₀:Array Keyed}{prog:Program}{w:World}
end Ts
namespace Ts
open PySem PyProof.Rows
variable{A:Around}{E:Value->Shared->Prop}{s:Shared}{κ:KeyKind}{kd:SortKind}{a₀:Array Keyed}{prog:Program}{w:World}
end Ts
namespace Ts
open PySem PyProof.Rows
variable{A:Around}{E:Value->Shared->Prop}{s:Shared}{κ:KeyKind}{kd:SortKind}{prog:Program}{w:World}
end Ts
namespace Ts
open PySem PyProof.Rows
variable{A:Around}{E:Value->Shared->Prop}{s:Shared}{κ:KeyKind}{kd:SortKind}{a₀:Array Keyed}{prog:Program}{w:World}
end Ts
namespace Ts
open PySem PyProof.Rows
variable{A:Around}{E:Value->Shared->Prop}{s:Shared}{κ:KeyKind}{kd:SortKind}{prog:Program}{w:World}
end Ts
namespace Dm
noncomputable def lx:List Int->List Int->Bool
 |[],[]=>false
 |[],_::_=>true
 |_::_,[]=>false
 |a::x,b::y=>if a=b then lx x y else decide (a<b)
theorem qB:∀a,lx a a=false
 |[]=>rfl
 |a::x=>by rw[lx,if_pos rfl,qB x]
theorem tP:∀a b c,lx a b=true->lx b c=true->lx a c=true
 |[],[],_,h,_=>by cases h
 |[],_::_,[],_,h=>by cases h
 |[],_::_,_::_,_,_=>rfl
 |_::_,[],_,h,_=>by cases h
 |_::_,_::_,[],_,h=>by cases h
 |a::x,b::y,c::z,h1,h2=>by
  rw[lx]at h1 h2 ⊢;by_cases e1:a=b
  ·subst e1;rw[if_pos rfl]at h1;by_cases e2:a=c
   ·subst e2;rw[if_pos rfl]at h2 ⊢;exact tP x y z h1 h2
   ·rw[if_neg e2]at h2 ⊢;exact h2
  ·rw[if_neg e1]at h1;have h1:=of_decide_eq_true h1;by_cases e2:b=c
   ·subst e2;rw[if_neg e1];exact decide_eq_true h1
   ·rw[if_neg e2]at h2;have h2:=of_decide_eq_true h2;rw[if_neg (by lia)];exact decide_eq_true (by lia)
noncomputable def n8:List Dat->Option (List (List Int))
 |[]=>some []
 | .tup ds::r=>(match n6 ds with
  |some ns=>if ns.isEmpty then none else (n8 r).map fun nss=>ns::nss
  |none=>none)
 |_=>none
noncomputable def KH(ns:List Int):Dat:=.tup (ns.map .int)
noncomputable def isN:Dat->Bool
 |.non=>true
 |_=>false
noncomputable def yP:Dat->Dat->Option RV
 |d,.non=>vB (isN d)
 |_,_=>none
noncomputable def dH(bad:List Dat->Bool)(fs:List FE)(ρ:Env):Option Env:=match eAs fs ρ with
 |none=>none
 |some (xs,ρ1)=>match pks ρ1 xs with
  |none=>none
  |some ds=>if bad ds then some ρ1 else none
noncomputable def rIf(t:FT)(R S:Env->Option Env)(ρ:Env):Option Env:=match t ρ with
 |none=>none
 |some (true,ρ1)=>R ρ1
 |some (false,ρ1)=>S ρ1
noncomputable def HV(ρ:Env):Option Env:=some ρ
noncomputable def rNo(_:Env):Option Env:=none
noncomputable def fnX(n m:Nat)(R:Env->Option Env)(ds:List Dat):Bool:=decide (ds.length=n)&&(R (ds.map .sh++Dk m .un)).isSome
noncomputable def mZ(C:Nat)(b:Bool):Dat->Option RV
 |.exc C'=>if C'=C then vB b else none
 |.bC C' _=>if C'=C then vB b else none
 |_=>none
end Dm
namespace Br
open PySem PySem.Spec PyProof.Rows L2
theorem qC{H0:Hp}:∀ns:List Int,aR H0 (ns.map V.int) (ns.map Dat.int)
 |[]=>.nil
 |n::ns=>.cons (.int n) (qC ns)
section
variable{X:Cx}{a b c e:Expr}{f fa fb:FE}{fs:List FE}{p pos:Pos}
def KI(neg:Bool):R2:=fun x y H Q=>y=.non/\Q (.bl (if neg then !decide (x=V.non) else decide (x=V.non))) H
theorem DZ{x:V}{v:Value}(r:RelV x v):(v == Pu)=decide (x=V.non):=by
 cases x with
 |non=>cases r;rfl
 |bl b=>cases r;rfl
 |int i=>obtain⟨t,rfl⟩:=r;rfl
 |str z=>obtain⟨t,rfl⟩:=r;rfl
 |byt z=>obtain⟨t,rfl⟩:=r;rfl
 |flt z=>obtain⟨t,rfl⟩:=r;rfl
 |ref z=>cases r;rfl
 |ty z=>cases r;rfl
theorem HW:OpR X (compareOp .Is) (KI false):=by intro yZ s σ H x y v u Q I rx ry h;obtain⟨rfl,q⟩:=h;cases ry;refine is_none_gen ?_;rw[DZ rx];exact⟨.bl _,H,I,rfl,q⟩
theorem xy{H0 H:Hp}{x:V}{d:Dat}(r:lN H0 H x d):decide (x=V.non)=Dm.isN d:=by
 rcases r with r | ⟨a,rfl,w⟩
 ·cases r<;>rfl
 ·cases d with
  |non=>exact NH w
  |_=>rfl
theorem HX:OpD (KI false) Dm.yP:=by
 intro H0 H x y dx dy z Q s rx ry e k;unfold Dm.yP at e;split at e
 ·cases e;have hy:=xy ry;have:y=V.non:=of_decide_eq_true (hy.trans rfl);refine⟨this,?_⟩;rw[if_neg (by decide),xy rx];exact k _ H0 H (aX.refl s) (.bl _)
 ·cases e
theorem Fz(ha:DE X a fa)(hb:DE X b fb):DT X (.Compare a [.Is] [b] pos) (Dm.tV (Dm.e2 Dm.yP fa fb)):=nU HW HX ha hb (ir _)
end
end Br
namespace L2
open PySem PySem.Spec PyProof.Rows
def CXE(P:Program)(w:World)(C:Addr):CXT:=fun outer H s E e s'=>
 ∃ea a0 B H',e=.ref ea/\s'.os=s.os/\AllBare s'.gens/\Un (frs outer) [] H H' s.heap s'.heap/\HOk P w H' s'.heap/\Pq B outer ea (.ref C) a0 s'.heap /\
  (∀b o,s'.heap.get? b=some o->(s.heap.get? b).isSome=true\/(H' b).isSome=true->b∉frs outer->B.get? b=some o)/\E (.ref C) (some ea) H'
theorem br.there{P:Program}{w:World}{H:Hp}{h:Heap}{a:Addr}{o:HO}(x:br P w H h a o):∃u,h.get? a=some u:=by
 cases o with
 |lst xs=>obtain⟨_,_,_,_,e⟩:=x;exact⟨_,e⟩
 |tup xs=>obtain⟨_,_,_,ob,e,_⟩:=x;exact⟨_,e⟩
 |dK kvs=>obtain⟨_,_,_,_,o,_,_,e,_⟩:=x;exact⟨_,e⟩
 |dT kvs ts=>obtain⟨_,_,_,_,o,_,_,e,_⟩:=x;exact⟨_,e⟩
 |set S n=>obtain⟨o,_,_,_,e,_⟩:=x;exact⟨_,e⟩
 |ins C dx fs=>obtain⟨_,_,_,e,_⟩:=x;exact⟨_,e⟩
 |own y=>obtain⟨_,e⟩:=x;exact⟨_,e⟩
 |xd fs=>obtain⟨_,⟨_,_,_,e,_⟩,_⟩:=x;exact⟨_,e⟩
 |rng lo hi=>obtain⟨_,_,_,e⟩:=x;exact⟨_,e⟩
 |frz ob u=>obtain⟨e,_⟩:=x;exact⟨_,e⟩
 |tbl _ _ _=>obtain⟨_,e,_⟩:=x;exact⟨_,e⟩
 |met f y=>exact⟨_,x⟩
 |ext φ=>obtain⟨_,⟨_,e⟩,_⟩:=x;exact⟨_,e⟩
section
variable{X:Cx}{yZ:List (Addr×Obj)}{σ:St}{H:Hp}{s:Shared}{x:Str}{C:Addr}{bmB:List Value}{B newId initId:String}{np cpos pos:Pos}
theorem yQ{t:St->Hp->Prop}(hc:X.calm=true)(hg:Gl X x)(O:OwnCls x C bmB newId X.mg X.base)(FB:ExcBaseFacts B newId initId bmB)
  (hE:∀yZ σ H s h' e,Inv X yZ σ H s->t σ H->Qa s.heap h' e (.ref C) []->X.xe (.ref e) { s with heap:=h' }) (Lh:(x == ("__debug__" : Str))=false:=by decide) :
  PS X (.Raise (some (.Call (.Name x np) [] [] cpos)) none pos) (fun _ σ H=>t σ H):=by
 intro yZ s σ H D I h;obtain⟨tl,N,nm,q,bs,hdct,sn,sub,ab,col,dd,k0,k1,k2,k3,k5,mN,hC,hN,hni,T⟩:=O.obj;refine wpAny_Raise_call_subT (C:=C) (nm:=nm) (q:=q) (N:=N) (bs:=bs) (bm:=tl) (hdct:=hdct) (sn:=sn) (sub:=sub) (ab:=ab) (col:=col) (dd:=dd) (k0:=k0) (k1:=k1) (k2:=k2) (k3:=k3) (k5:=k5)
  FB (mN:=mN) (T.hasType FB.hasBase) (I.ok.hd hc) rfl hni (fC I hg O.bound ⟨rfl,?_⟩ Lh)
 exact evalArgs_empty ⟨rfl,Od _,I.bk _ _ hC,hN.keeps I.bk,T.keeps I.bk,fun h' e hm=>hE yZ σ H s h' e I h hm⟩
theorem Inv.out(I:Inv X yZ σ H s){h'' Bh:Heap}(hx:X.ex=[])(hB:∀b o,s.heap.get? b=some o->b∉frs X.stack->(X.s₀.heap.get? b).isSome=true\/(H b).isSome=true->Bh.get? b=some o)(k1:Bh.StaysIn h'')
  (sl:s.heap.UpToSlots h''):Un X.fs [] X.H₀ H X.s₀.heap h''/\HOk X.prog X.w H h'' /\
   (∀b o,h''.get? b=some o->(X.s₀.heap.get? b).isSome=true\/(H b).isSome=true->b∉X.fs->Bh.get? b=some o):=by
 have nx:∀b:Addr,b∉X.ex:=fun b z=>by rw[hx]at z;cases z
 have neL:∀b o,X.s₀.heap.get? b=some o->b≠X.env.locals:=fun b o e=>NV (NO (Nx e) I.ok.above);have nst:∀b o,X.s₀.heap.get? b=some o->b∉X.fs->b∉frs X.stack:=fun b o e hb z=>(Dp.mp (I.nv b z)).elim (neL b o e) hb;have frame:∀b,b∈X.fs->∀o,s.heap.get? b=some o->∃sl,h''.get? b=some { o with slots:=sl }:=fun b hb o e=>by obtain⟨_,o',ho',hd⟩:=I.lE.mem hb;rw[e]at ho';cases ho';exact sl b o e hd
 have stay:∀b o,b∉frs X.stack->(X.s₀.heap.get? b).isSome=true\/(H b).isSome=true->s.heap.get? b=some o->h''.get? b=some o:=fun b o hb hh e=>k1 b o (hB b o e hb hh);have tr:∀b u,H b=some u->b∉frs X.stack:=fun b u e z=>by rw[I.qV b z]at e;cases e
 refine⟨⟨fun b o e n hb _=>?_,fun b o e n hb _=>?_,fun b o e n _=>I.base.free b o e n (nx b),fun b o e _=>?_,I.base.tups,I.base.lD,I.base.mV⟩,fun b u e=>?_,fun b o e hh hb=>?_⟩
 ·exact stay b o (nst b o e hb) (.inl (by rw[e];rfl)) (I.base.keep b o e n hb (nx b))
 ·obtain⟨s1,e1⟩:=I.base.slot b o e n hb (nx b);obtain⟨s2,e2⟩:=frame b hb _ e1;exact⟨s2,e2⟩
 ·obtain⟨o1,e1⟩:=I.base.there b o e (nx b);by_cases hb:b∈X.fs
  ·obtain⟨s2,e2⟩:=frame b hb _ e1;exact⟨_,e2⟩
  ·exact⟨o1,stay b o1 (nst b o e hb) (.inl (by rw[e];rfl)) e1⟩
 ·refine(I.hok b u e).stay (fun c v hc q=>?_) (fun _ q=>q) (fun _ _ _ q=>q) fun _ _ q=>q;rcases hc with rfl | hc
  ·exact stay c v (tr c u e) (.inr (by rw[e];rfl)) q
  ·exact stay c v (tr c _ hc) (.inr (by rw[hc];rfl)) q
 ·have:∃o1,s.heap.get? b=some o1:=by
   rcases hh with hh | hh
   ·obtain⟨o0,e0⟩:=NR.mp hh;exact I.base.there b o0 e0 (nx b)
   ·obtain⟨u,e0⟩:=NR.mp hh;exact(I.hok b u e0).there
  obtain⟨o1,e1⟩:=this;have hs:b∉frs X.stack:=by
   rcases hh with hh | hh
   ·obtain⟨o0,e0⟩:=NR.mp hh;exact nst b o0 e0 hb
   ·obtain⟨u,e0⟩:=NR.mp hh;exact tr b u e0
  have e2:=stay b o1 hs hh e1;rw[e]at e2;cases e2;exact hB b o e1 hs hh
end
section
variable{P:Program}{w:World}{K:eg}{mg:Str->Option Value}{base:Heap}{N:List Str}{qual:Str}{scope:Scope}{f:Addr}{cd:Value}{A:Around}{outer:List Env}{s₀:Shared}{H₀:Hp}{E:XK}{C:Addr}
 {yZ:List (Addr×Obj)} {σ:St} {H:Hp} {s:Shared}
theorem D0{h h' h'':Heap}(k:∀b o,h.get? b=some o->h'.get? b=some o)(x:h'.UpToSlots h''):h.UpToSlots h'':=(Heap.UpToSlots.of_keeps k).trans x
theorem D3(I:Inv (dF (CXE P w C) P w K mg base N qual scope f cd A outer s₀ H₀ E) yZ σ H s){h':Heap}{e:Addr}(hx:Qa s.heap h' e (.ref C) [])(hE:E (.ref C) (some e) H) :
  (dF (CXE P w C) P w K mg base N qual scope f cd A outer s₀ H₀ E).xe (.ref e) { s with heap:=h' }:=by
 have hin:∀env∈(dF (CXE P w C) P w K mg base N qual scope f cd A outer s₀ H₀ E).stack,∀b,env.frame=some b->b∈frs (dF (CXE P w C) P w K mg base N qual scope f cd A outer s₀ H₀ E).stack:=fun env he b hb=>Pk.mpr ⟨env,he,hb⟩;show wpAny (model P w) _ (leaving _ (.ref e)) _ _ _;refine wpAny_leaves_madeW (base:=PU s.heap (frs (dF (CXE P w C) P w K mg base N qual scope f cd A outer s₀ H₀ E).stack)) (h:=s.heap) (L:=s₀.heap.objs.size) I.ok.frames rfl (fun b o q=>Qe _ q) (PySem.W.funFrames_hide I.stack hin) hx fun h'' t fl tup bt sl=>?_;obtain⟨u1,u2,u3⟩:=I.out (h'':=h'') (Bh:=PU s.heap (frs (dF (CXE P w C) P w K mg base N qual scope f cd A outer s₀ H₀ E).stack)) rfl (fun b o q hb _=>P6 _ q hb) fl.1 (D0 hx.keeps sl);exact⟨e,.ref t,_,H,rfl,I.os,I.bare,u1,u2,fl,u3,hE⟩
theorem KJ:Passes (CXE P w C) (dF (CXE P w C) P w K mg base N qual scope f cd A outer s₀ H₀ E) E:=by
 intro yZ σ H s e s' I hq;obtain⟨ea,a0,Bh,H',rfl,os,bare,un,hok,fl,hB,hE⟩:=hq;obtain⟨hh,g,d,t,os'⟩:=s';obtain rfl:os'=s.os:=os;have J:=I.call (h':=hh) (g':=g) (d':=d) (t':=t) (ch:=[]) un hok bare (fun b z=>absurd z (by simp));show wpAny (model P w) _ (leaving _ (.ref ea)) _ _ _;refine wpAny_leaves_onW (base:=Bh) (L:=s₀.heap.objs.size) I.ok.frames rfl fl fun h'' KL sl=>?_;have neL:∀b o,s₀.heap.get? b=some o->∃o1,s.heap.get? b=some o1:=fun b o e=>I.base.there b o e (fun z=>nomatch z);obtain ⟨u1,u2,u3⟩:=J.out (h'':=h'') (Bh:=Bh) rfl (fun b o q hb hh=>hB b o q (hh.imp (fun z=>by obtain⟨o0,e0⟩:=NR.mp z;obtain⟨o1,e1⟩:=neL b o0 e0;rw[e1];rfl) id) hb) KL.1 sl
 exact⟨ea,a0,Bh,H',rfl,J.os,bare,u1,u2,KL,u3,hE⟩
end
section
variable{X:Cx}{st:Stmt}{Ca:List Stmt}{t:TS}
noncomputable def DF:Ends:={ nx:=fun _ _=>False,rt:=fun _ _=>False,bk:=fun _ _=>False,ct:=fun _ _=>False }
theorem tQ(h1:PS X st t):PSs X (st::Ca) (fun _ σ H=>t DF σ H):=by
 intro yZ s σ H D I h;refine wpAny_execs_cons (thn (h1 yZ s σ H DF I h) fun f s1 q=>?_);cases f with
 |next=>obtain⟨_,_,_,q⟩:=q;exact NH q
 |ret v=>obtain⟨_,_,_,_,_,q⟩:=q;exact NH q
 |brk=>obtain⟨_,_,_,q⟩:=q;exact NH q
 |cont=>obtain⟨_,_,_,q⟩:=q;exact NH q
end
end L2
namespace Br
open PySem PySem.Spec PyProof.Rows L2
def xA(C:Addr)(X:Cx)(E:L2.St->XK):Prop:=∀(yZ:List (Addr×Obj)) (σ:L2.St) (H:Hp) (s:Shared) (e:Value) (s':Shared),Inv X yZ σ H s->CXE X.prog X.w C X.stack H s (E σ) e s'->X.xe e s'
def tX(C:Addr)(E:L2.St->XK)(R:Dm.Env->Option Dm.Env)(σ:L2.St)(H:Hp):Prop:=∃H0 ρ ρ',aK H0 H σ ρ/\R ρ=some ρ'/\∀a H0' H',ESt σ ρ H0 H ρ' H0' H'->E σ (.ref C) (some a) H'
def spX(C:Addr)(bad:List Dat->Bool):Sp:=fun vs H _ E=>∃H0 ds,aF H0 H/\aR H0 vs ds/\bad ds=true/\∀a H0' H',aX H0 H H0' H'->E (.ref C) (some a) H'
noncomputable abbrev XE(X:Cx)(C:Addr)(E:L2.St->XK)(e:Expr)(R:Dm.Env->Option Dm.Env):Prop:=PE X e (fun σ H _=>tX C E R σ H)
noncomputable abbrev XS(X:Cx)(C:Addr)(E:L2.St->XK)(st:Stmt)(R:Dm.Env->Option Dm.Env):Prop:=PS X st (fun _ σ H=>tX C E R σ H)
section
variable{X:Cx}{C:Addr}{E:L2.St->XK}{k:Nat}{F:Addr}{fd:FuncData}{ps:List Str}{x:Str}{p pos:Pos}{e:Expr}{es:List Expr}{fs:List FE}{bad:List Dat->Bool}{R S:Dm.Env->Option Dm.Env}
theorem D4{yZ:List (Addr×Obj)}{σ:L2.St}{H:Hp}{s:Shared}{Q:VK}{us:List Value}{vs:List V}(G:bH X.prog X.w X.K X.mg X.base (CXE X.prog X.w C) k F fd ps (spX C bad))(hr:bK k X.A)(hb:Binds X.K fd ps [])(hx:xA C X E)
  (I:Inv X yZ σ H s) (r:Vals vs us) (h:spX C bad vs H Q (E σ)):wpAny (model X.prog X.w) X.A (call (.ref F) us) (EP X yZ σ Q) X.xe s:=by
 have hl:(us++[]).length=ps.length:=by rw[Oi,<- r.length];exact G.len _ _ _ _ h
 have hb':=hb s us I.kIn hl;rw[Oi]at hb';refine wpAny_call (codeAny_mono (G.run X.A X.stack s H ⟨us,[]⟩ us vs Q (E σ) hr I.C_ hb' r h) fun r s' hq=>?_);cases r with
 |error e=>exact hx yZ σ H s e s' I hq
 |ok fl=>
  cases fl with
  |ret u=>exact I.after hq
  |next=>exact NH hq
  |brk=>exact NH hq
  |cont=>exact NH hq
theorem D5{σ:L2.St}{H:Hp}(h:tX C E (Dm.dH bad fs) σ H)(Q:VK):tDA fs σ H fun vs H1=>spX C bad vs H1 Q (E σ):=by
 obtain⟨H0,ρ,ρ',st,hR,k⟩:=h;unfold Dm.dH at hR;split at hR
 ·cases hR
 rename_i xs ρ1 e1;split at hR
 ·cases hR
 rename_i ds p1;split at hR
 case isFalse=>cases hR
 rename_i hbad;cases hR;refine⟨H0,ρ,xs,ρ',st,e1,fun vs H1 Hb t1 r1=>?_⟩;obtain⟨ρ2,e2⟩:=gD p1;obtain⟨H2,t2,b2,r2⟩:=takes t1 (aF.refl _) r1 e2;exact⟨H2,ds,t2.st.same,r2,hbad,fun a H0' H' g=>k a H1 H' (t1.trans (.grow t1.st ⟨aF.refl _,g.s1,fun a o q=>.inr q,t1.st.same.trans g.s1⟩))⟩
theorem x_call(G:bH X.prog X.w X.K X.mg X.base (CXE X.prog X.w C) k F fd ps (spX C bad))(hr:bK k X.A)(hg:Gl X x)(hm:X.mg x=some (.ref F))(hk:Ot X.K (.ref F)=true)(hb:Binds X.K fd ps [])(hx:xA C X E)
  (ha:DA X (e::es) fs) (Lh:(x == ("__debug__" : Str))=false:=by decide) (he:starEach (e::es) X.env=(false,eval e X.env)::starEach es X.env:=by rfl) (Il:(backTo pos (starEach es X.env)).any (·.1)=false:=by rfl) :
  XE X C E (.Call (.Name x p) (e::es) [] pos) (Dm.dH bad fs):=by
 intro yZ s σ H Q I h;refine wpAny_Call_Name_kw (fC I hg hm ?_ Lh);refine Pn (h₀:=X.base) I.ok.mod.kin hk (thn (ha pos yZ s σ H _ I (D5 h Q)) fun us s1 ⟨vs,H1,I1,r,q⟩=>⟨I1.kIn,?_⟩) he Il;exact D4 G hr hb hx I1 r q
theorem A2(h:XE X C E e R)(hs:swapsWith e none pos.line X.env=pure false:=by rfl):XS X C E (.Expr e pos) R:=PS.weak (kH h hs) fun _ _ _ q=>q
theorem x_a(i:Nat){x:Str}{pos':Pos}(hN:X.N.Nodup)(he:XE X C E e R)(hi:X.N[i]?=some x:=by rfl)(hx:Loc X.env.scope x:=by trivial)(hs:swapsWith e (some (.Name x pos')) pos.line X.env=pure false:=by rfl)
  (hf:X.fn x=true\/X.env.scope.names.lookup x=some .local:=by trivial):XS X C E (.Assign [.Name x pos'] e pos) R:=PS.weak (u7 hN hi hx he hs hf) fun _ _ _ q=>q
end
section
variable{P:Program}{w:World}{K:eg}{mg:Str->Option Value}{base:Heap}{N:List Str}{qual:Str}{scope:Scope}{f:Addr}{cd:Value}{A:Around}{outer:List Env}{s₀:Shared}{H₀:Hp}{E:XK}{C:Addr}
theorem A3:xA C (dF (CXE P w C) P w K mg base N qual scope f cd A outer s₀ H₀ E) (fun _=>E):=fun yZ σ H s e s' I q=>KJ yZ σ H s e s' I q
theorem x_raise{x:Str}{bmB:List Value}{B newId initId:String}{np cpos pos:Pos}(O:OwnCls x C bmB newId mg base)(FB:ExcBaseFacts B newId initId bmB)(hg:Gl (dF (CXE P w C) P w K mg base N qual scope f cd A outer s₀ H₀ E) x)(Lh:(x == ("__debug__" : Str))=false:=by decide) :
  XS (dF (CXE P w C) P w K mg base N qual scope f cd A outer s₀ H₀ E) C (fun _=>E) (.Raise (some (.Call (.Name x np) [] [] cpos)) none pos) Dm.HV:=
 yQ rfl hg O FB (fun yZ σ H s h' e I ⟨H0,ρ,ρ',st,hR,k⟩ hm=>D3 I hm (k e _ _ (by cases hR;exact ESt.refl st))) Lh
end
theorem xB{C:Addr}{n m:Nat}{R:Dm.Env->Option Dm.Env}{vs:List V}{H:Hp}{Q:VK}{E:XK}(h:spX C (Dm.fnX n m R) vs H Q E):vs.length=n:=by obtain⟨H0,ds,s,rs,e,k⟩:=h;unfold Dm.fnX at e;rw[NF,decide_eq_true_eq]at e;rw[rs.length];exact e.1
theorem tR{N:List Str}{n m:Nat}{vs:List V}{H0 H:Hp}{ds:List Dat}(hm:N.length=n+m)(hvn:vs.length=n)(s:aF H0 H)(rs:aR H0 vs ds) :
  aK H0 H (start N vs) (ds.map Dm.Cell.sh++Dk m .un)/\∀a,¬aE (start N vs) (ds.map Dm.Cell.sh++Dk m .un) a:=by
 have hl:=rs.length;refine ⟨?_,fun a ⟨i,d,h1,_⟩=>by
  by_cases hi:i<ds.length
  ·rw[Nz (by simpa using hi),NY]at h1;cases q:ds[i]? with
   |none=>rw[q]at h1;cases h1
   |some y=>rw[q]at h1;cases h1
  ·rw[NQ (by simpa using hi),N5]at h1;split at h1<;>cases h1⟩
 refine⟨s,?_,fun i d h=>?_,fun i d h=>?_,fun i j d e a h1 h2 _ _=>?_⟩
 ·unfold L2.start;simp only[NL,NI,OT]
  lia
 ·have hi:i<ds.length:=by
   by_cases hi:i<ds.length
   ·exact hi
   ·rw[NQ (by simpa using hi),N5]at h;split at h<;>cases h
  rw[Nz (by simpa using hi),NY]at h;cases q:ds[i]? with
  |none=>rw[q]at h;cases h
  |some y=>rw[q]at h;cases h;obtain⟨v,hv,r⟩:=rs.get q;refine⟨v,?_,r⟩;unfold L2.start;rw[Nz (by simpa [hl] using hi),NY,hv];rfl
 ·by_cases hi:i<ds.length
  ·rw[Nz (by simpa using hi),NY]at h;cases q:ds[i]? with
   |none=>rw[q]at h;cases h
   |some y=>rw[q]at h;cases h
  ·rw[NQ (by simpa using hi),N5]at h;split at h<;>cases h
 ·by_cases hi:i<ds.length
  ·rw[Nz (by simpa using hi),NY]at h1;cases q:ds[i]? with
   |none=>rw[q]at h1;cases h1
   |some y=>rw[q]at h1;cases h1
  ·rw[NQ (by simpa using hi),N5]at h1;split at h1<;>cases h1
end Br
namespace PySem.W
open PySem PySem.Spec PySem.Calls PyProof.Rows
structure gH(K:Frag)(C:Addr):Prop where
 ga:findIn K (.ref C) "__getattribute__" = some (some (.builtin "BaseException.__getattribute__"))
 gn:findIn K (.ref C) "__getattr__" = some none
 cl:findIn K (.ref C) "__class__" = some (some (.builtin "object.__class__"))
 mB:mroIn K C (.type "BaseException")=some true
 mO:mroIn K C (.type "object")=some true
def n9(x C:Addr)(h:Heap):Prop:=∃ox,h.get? x=some ox/\ox.cls=.ref C
theorem jj{x C:Addr}{M:Model}{h:Heap}(p:n9 x C h):Looks M h (typeOf (.ref x)) (.ref C):=by obtain⟨o,h1,h2⟩:=p;exact h2▸(Qc h1).andThen .now
section
variable{prog:Program}{w:World}{A:Around}{K:Frag}{x C:Addr}{s:Shared}{R:Result->Shared->Prop}
theorem vG{tp:Value}(X:K.In s.heap)(I:n9 x C s.heap)(hm:mroIn K C (.type "object")=some true)
  (h:R (.ok (.ret (.ref C))) s):codeAny (model prog w) A (.call (.builtin "getset_descriptor.__get__") ⟨[.builtin "object.__class__",.ref x,tp],[]⟩) R s:=by
 obtain⟨hh,g,dr,t,os⟩:=s;have L0:=jj (M:=model prog w) I;have L1:=looks_mroIn (M:=model prog w) X hm;refine codeAny_call_builtin KF.slot_gs.plain KF.entry_gs (KF.slot_gs.check _ _ _ _ _ _ _ _ KF.type_class (KF.args_gs _ _ _) ?_);unfold Builtin.«getset_descriptor.__get__» Builtin.Getset_descriptor.descrGet;rw[dga_obj];refine wpAny_bind (wpAny_pure ?_);unfold Builtin.Getset_descriptor.descrGetter Builtin.Getset_descriptor.descrCheckInstance Builtin.Getset_descriptor.descrNameAndClass isInstance;simp only[KF.owner_class]
 repeat lk
 refine⟨Qh _ (by decide +kernel),codeAny_builtin KF.entry_class ?_⟩;unfold Builtin.«object.__class__» shownTypeOf
 repeat lk
 exact h
end
section
variable{prog:Program}{w:World}{A:Around}{E:Value->Shared->Prop}{K:Frag}{x C:Addr}{ox:Obj}{h:Heap}{g:Array GenState}{d:Drawn}{t:Nat}{os:OsState}
theorem tS{M:Model}{nameV:Value}{Q:Unit->Shared->Prop}(Z:gH K C)(X:K.In h)(I:n9 x C h)(hq:Q () ⟨h,g,d,t,os⟩):wpAny M A (checkBuiltinCall "BaseException.__getattribute__" ⟨[.ref x,nameV],[]⟩) Q E ⟨h,g,d,t,os⟩:=by
 have hk:builtinKind "BaseException.__getattribute__" = some .slot:=by decide +kernel
 have hsplit:splitId "BaseException.__getattribute__" = some ("BaseException","__getattribute__"):=by decide +kernel
 have L0:=jj (M:=M) I;have L1:=looks_mroIn (M:=M) X Z.mB;have LI:Looks M h (isInstance (.ref x) (.type "BaseException")) true:=L0.andThen L1;have ha:=PySem.F.args_bexc_ga (.ref x) nameV;simp only[checkBuiltinCall,hk,hsplit];refine wpAny_bind (LI.at ?_)
 repeat (first | assumption | wp_step)
theorem A4{tk:Tok}{Q:Fin->Shared->Prop}(Z:gH K C)(X:K.In h)(I:n9 x C h)(hq:Q (.done (.ret (.ref C))) ⟨h,g,d,t,os⟩) :
  wpAny (model prog w) A (Builtin.«object.__getattribute__» ⟨[.ref x,.str "__class__" tk],[]⟩) Q E ⟨h,g,d,t,os⟩:=by
 have hT5:(⟨h,g,d,t,os⟩:Shared).TypeIs (.builtin "object.__class__") "getset_descriptor" := F.typeOf_object_class;have f5:=F.typeOf_object_class;have f6:=F.slot_gs_get.lookup;have f7:=F.slot_gs_set.lookup;have L0:=jj (M:=model prog w) I;have L1:=looks_findIn (M:=model prog w) X Z.cl
 repeat (any_goals (first | assumption | with_reducible refine L0.at ?_ | with_reducible refine L1.at ?_ | wp_step))
 refine vG X I Z.mO ?_
 repeat (any_goals (first | assumption | wp_step))
theorem D6{tk:Tok}{R:Result->Shared->Prop}(Z:gH K C)(X:K.In h)(I:n9 x C h)(hq:R (.ok (.ret (.ref C))) ⟨h,g,d,t,os⟩) :
  codeAny (model prog w) A (.call (.builtin "BaseException.__getattribute__") ⟨[.ref x,.str "__class__" tk],[]⟩) R ⟨h,g,d,t,os⟩:=
 codeAny_call_builtin OV.ga.plain PySem.F.entry_bexc_ga (tS Z X I (A4 Z X I hq))
theorem KN{tk:Tok}{Q:Value->Shared->Prop}(Z:gH K C)(X:K.In h)(I:n9 x C h)(hq:Q (.ref C) ⟨h,g,d,t,os⟩) :
  wpAny (model prog w) A (getAttrBy (.ref x) (.str "__class__" tk) false) Q E ⟨h,g,d,t,os⟩:=by
 have f3:=OV.ga.bind (.ref x);have hx2:(OA "BaseException.__getattribute__" == OA "object.__getattribute__")=false:=by decide +kernel
 have hx1:(onTheHeap (NN C)&&OA "BaseException.__getattribute__" == OA "object.__getattribute__")=false:=by rw[hx2];rfl
 have L0:=jj (M:=model prog w) I;have L1:=looks_findIn (M:=model prog w) X Z.ga;have L2:=looks_findIn (M:=model prog w) X Z.gn
 repeat (any_goals (first | assumption | with_reducible refine L0.at ?_ | with_reducible refine L1.at ?_ | with_reducible refine L2.at ?_ | wp_step))
 refine D6 Z X I ?_
 repeat (any_goals (first | assumption | wp_step))
theorem D7{s:Shared}{Q:Option Value->Shared->Prop}(Z:gH K C)(X:K.In s.heap)(I:n9 x C s.heap)(hq:Q (some (.ref C)) { s with toks:=s.toks+1 }):wpAny (model prog w) A (getAttr? (.ref x) "__class__") Q E s:=by
 obtain⟨h,g,d,t,os⟩:=s;unfold getAttr? getAttrBy?
 repeat (any_goals (first | assumption | with_reducible apply KN Z X I | wp_step))
theorem tT(Z:gH K C)(hc:(clsIn K C).isSome=true):KitX K (.ref x) (.ref C) (n9 x C) where
 ty:=fun _ _ _ I=>jj I
 it:=fun _ _ X _=>by
  unfold clsIn at hc;split at hc
  ·rename_i c' d' cd' sl' ho;intro A' Q' E' s' k q;unfold isType loadHead;exact wpAny_bind (wpAny_loadPart (k _ _ (X _ _ ho)) (wpAny_pure q))
  ·cases hc
 ne:=fun h tp dd its n sl X htp=>by
  refine Bool.eq_false_iff.mpr fun q=>?_;have e:C=tp:=NN.inj (beq_iff_eq.mp q);subst e;unfold clsIn at hc;split at hc
  ·rename_i c' d' cd' sl' ho;have z:=(X _ _ ho).symm.trans htp;cases z
  ·cases hc
 ca:=fun X I k=>D7 Z X I k
end
end PySem.W
namespace PySem
theorem mD{α:Type}(p:α->Bool):∀(l:List α) (i:Nat) (x:α),l[i]?=some x->p x=false->(l.eraseIdx i).find? p=l.find? p
 |[],i,x,h,_=>by simp at h
 |y::l,0,x,h,hp=>by simp only[List.getElem?_cons_zero,Option.some.injEq]at h;subst h;rw[List.eraseIdx_cons_zero,Ox,hp]
 |y::l,i+1,x,h,hp=>by rw[List.eraseIdx_cons_succ,Ox,Ox,mD p l i x (by simpa using h) hp]
theorem pW{es:Array DictEntry}{i:Nat}{name y:Str}(hi:es.findIdx? (·.key.isStr name)=some i)(hy:y≠name):nsFind (es.eraseIdxIfInBounds i) y=nsFind es y:=by
 obtain⟨M6,hp,_⟩:=Array.findIdx?_eq_some_iff_getElem.mp hi;have hq:(es[i]).key.isStr y=false:=by
  cases hk:(es[i]).key with
  |str z t=>rw[hk]at hp;simp only[QW,beq_iff_eq]at hp;simp only[QW,beq_eq_false_iff_ne];intro e;exact hy (e.symm.trans hp)
  |_=>rw[hk]at hp;simp[QW]at hp
 have h2:(es.eraseIdxIfInBounds i).toList=es.toList.eraseIdx i:=by unfold Array.eraseIdxIfInBounds;rw[dif_pos M6,Array.toList_eraseIdx]
 unfold nsFind findBy;rw[<- Qf,<- Qf,h2,mD _ _ i es[i] (by rw[PM,Array.getElem?_eq_getElem M6]) hq]
section
variable{M:Model}{A:Around}{E:Value->Shared->Prop}{s:Shared}{env:Env}
theorem rC{a:Addr}{m}{name:Str}{Q:Bool->Shared->Prop}(hn:s.heap.Ns a m)
  (hQ:∀h' m',h'.Ns a m'->(∀y,y≠name->m' y=m y)->Pj a s.heap h'->Q (m name).isSome { s with heap:=h' }):wpAny M A (nsDel a name) Q E s:=by
 obtain⟨o,es,ep,ho,hd,hk,hm⟩:=id hn;have hany:es.any (·.refKey)=false:=by rw[Array.any_eq_false'];intro e he;obtain⟨n,t,h⟩:=hk e he;simp[DictEntry.refKey,h]
 have hsome:(m name).isSome=es.any (·.key.isStr name):=by
  rw[<- hm name];simp only[nsFind,findBy,PF];rw[P1];simp only[Array.find?_isSome,Array.any_eq_true];constructor
  ·rintro⟨x,hx,hp⟩;obtain⟨i,hi,rfl⟩:=Array.mem_iff_getElem.mp hx;exact⟨i,hi,hp⟩
  ·rintro⟨i,hi,hp⟩;exact⟨_,Array.getElem_mem hi,hp⟩
 have hhas:nsHas name o=pure (es.any (·.key.isStr name)):=by
  rw[nsHas_eq];unfold nsHasByArray;rw[hd];show (if (es.any fun x=>x.key.isStr name)=true then _ else _)=_
  generalize (es.any fun x=>x.key.isStr name)=b
  cases b<;>simp[hany]
 unfold nsDel;refine wpAny_bind (wpAny_loadPart ho ?_);rw[hhas];refine wpAny_bind (wpAny_pure ?_);rw[<- hsome];cases hmn:(m name).isSome
 ·have:=hQ s.heap m hn (fun _ _=>rfl) (.refl ..);rw[hmn]at this;exact wpAny_pure this
 ·refine wpAny_bind (wpAny_updatePart ho (wpAny_pure ?_));have key:∃m',(s.heap.update a (Obj.dropName name)).Ns a m'/\∀y,y≠name->m' y=m y:=by
   obtain⟨cl,d,dt,sl⟩:=o;subst hd;cases hi:es.findIdx? (·.key.isStr name) with
   |some i=>exact⟨nsFind (es.eraseIdxIfInBounds i),⟨_,_,ep+1,Of _ ho (by simp only[P4,Pf,hi]<;>rfl),(by simp only[P4,Pf,hi]<;>rfl),hk.erase i,fun _=>rfl⟩,fun y hy=>by rw[pW hi hy,hm]⟩
   |none=>exact⟨nsFind es,⟨_,_,ep,Of _ ho (by simp only[P4,Pf,hi]<;>rfl),(by simp only[P4,Pf,hi]<;>rfl),hk,fun _=>rfl⟩,fun y _=>hm y⟩
  obtain⟨m',hm',hy⟩:=key;have:=hQ _ m' hm' hy (Pj.update ..);rw[hmn]at this;exact this
theorem m5{n:Str}{pos:Pos}{m:Str->Option Value}{Q:Unit->Shared->Prop}(hl:env.kindOf n=some .local)(hn:s.heap.Ns env.locals m)
  (hp:(env.scope.kind == .class||(env.scope.kind == .module&&env.locals != env.globals))=false)
  (h:∀h' m',h'.Ns env.locals m'->(∀y,y≠n->m' y=m y)->Pj env.locals s.heap h'->Q () { s with heap:=h',toks:=s.toks+1 }) :
  wpAny M A (do bindName env n .none;unbindBehindTheSuite env n pos) Q E s:=by
 refine wpAny_bind (wpAny_bindName (wpAny_storeName_local hl hn (fun h₁ hn₁ hs₁=>?_) hp));unfold unbindBehindTheSuite;refine wpAny_onRaise ?_;unfold unbindName;refine wpAny_bind (wpAny_point (wpAny_bind ?_));unfold deleteName;simp only[hl,hp];rw[if_neg (by decide)];refine wpAny_bind (rC hn₁ fun h₂ m₂ hn₂ hy hs₂=>?_);simp only[if_true,Option.isSome_some,Bool.not_true,O4,if_false];exact wpAny_pure (wpAny_point (h h₂ m₂ hn₂ (fun y hny=>(hy y hny).trans (if_neg hny)) (hs₁.trans hs₂)))
end
end PySem
namespace PySem.W
open PySem PySem.Spec PySem.Calls PyProof.Rows
structure fW(K:Frag)(C CP:Addr):Prop where
 ty:typeIn K (.ref CP)=some (.type "type")
 cl:(clsIn K CP).isSome=true
 mB:mroIn K CP (.type "BaseException")=some true
 mP:mroIn K C (.ref CP)=some true
theorem mE{M:Model}{A:Around}{E:Value->Shared->Prop}{K:Frag}{x C CP:Addr}{h:Heap}{g:Array GenState}{d:Drawn}{t:Nat}{os:OsState}{Q:Bool->Shared->Prop}
  (Z:fW K C CP) (X:K.In h) (I:n9 x C h) (hq:Q true ⟨h,g,d,t,os⟩):wpAny M A (excMatches (.ref x) (.ref CP)) Q E ⟨h,g,d,t,os⟩:=by
 have L0:=jj (M:=M) I;have L1:=looks_typeIn (M:=M) X Z.ty;have L2:=looks_mroIn (M:=M) X Z.mB;have L3:=looks_mroIn (M:=M) X Z.mP;have L4:Looks M h (isType (.ref CP)) true:=by
  have hc:=Z.cl;unfold clsIn at hc;split at hc
  ·rename_i c' d' cd' sl' ho;intro A' Q' E' s' k q;unfold isType loadHead;exact wpAny_bind (wpAny_loadPart (k _ _ (X _ _ ho)) (wpAny_pure q))
  ·cases hc
 have LT:Looks M h (isSubtype (.type "type") (.type "tuple")) false:=PJ tc_notTuple;unfold excMatches isInstance
 repeat lk
 exact hq
end PySem.W
namespace L2
open PySem PySem.Spec PyProof.Rows
section
variable{X:Cx}{yZ:List (Addr×Obj)}{σ:L2.St}{H:Hp}{s:Shared}
theorem Inv.fly(I:Inv X yZ σ H s){h'' B:Heap}{t':Nat}(hx:X.ex=[])(hB:∀b o,s.heap.get? b=some o->b∉frs X.stack->((X.s₀.heap.get? b).isSome=true\/(H b).isSome=true\/∃p∈X.pn++yZ,p.1=b)->B.get? b=some o)
  (k1:B.StaysIn h'') (sl:s.heap.UpToSlots h''):Inv X yZ σ H { s with heap:=h'',toks:=t' }:=by
 obtain⟨u1,u2,_⟩:=I.out (h'':=h'') (Bh:=B) hx (fun b o e hb hh=>hB b o e hb (hh.imp id .inl)) k1 sl;have cellK:∀c v,s.heap.IsCell c v->h''.IsCell c v:=fun c v ⟨o,ho,hd⟩=>by
  obtain⟨sl',e⟩:=sl c o ho fun vs q=>by rw[hd]at q;cases q
  exact⟨_,e,hd⟩
 refine⟨I.ok,I.os,I.bare,by rw[hx];exact u1,?_,fun x c e=>?_,I.free,I.eN,fun p hp=>?_,u2,I.len⟩
 ·obtain⟨m,hn,hl⟩:=I.loc;refine⟨m,sl.ns hn,fun i x v e1 e2 e3=>?_⟩;obtain⟨u,r,l⟩:=hl i x v e1 e2 e3;refine⟨u,r,?_⟩;rcases l with l | ⟨k,c,e,z⟩
  ·exact .inl l
  ·exact .inr ⟨k,c,e,cellK c _ z⟩
 ·obtain⟨v,z⟩:=I.cell x c e;exact⟨v,cellK c v z⟩
 ·obtain⟨e,n,ne,nf,d⟩:=I.pin p hp;exact⟨k1 _ _ (hB p.1 p.2 e (fun z=>(Dp.mp (I.nv _ z)).elim ne nf) (.inr (.inr ⟨p,hp,rfl⟩))),n,ne,nf,d⟩
theorem Inv.A5(I:Inv X yZ σ H s){ea:Addr}{o:HO}(n:H ea=none)(hok:br X.prog X.w (upd H ea o) s.heap ea o)(n0:X.s₀.heap.get? ea=none)(nl:ea≠X.env.locals)(nc:∀x c,X.env.cells.lookup x=some c->c≠ea)
  (np:∀p∈X.pn++yZ,p.1≠ea):Inv X yZ σ (upd H ea o) s:=by
 have ne:∀b u,H b=some u->b≠ea:=fun b u e z=>by rw[z,n]at e;cases e
 have n1:∀b u,X.s₀.heap.get? b=some u->b≠ea:=fun b u e z=>by rw[z,n0]at e;cases e
 refine⟨I.ok,I.os,I.bare,⟨I.base.keep,I.base.slot,fun b u e q hx=>?_,I.base.there,fun b xs e=>?_,fun b u v e=>?_,fun b x1 x2 x3 e=>?_⟩,I.loc,I.cell,?_,fun x c e=>?_,fun p hp=>?_,fun b u e=>?_,I.len⟩
 ·rw[ao (n1 b u e)];exact I.base.free b u e q hx
 ·have:=I.base.tups b xs e;rw[ao (ne b _ this)];exact this
 ·have:=I.base.lD b u v e;rw[ao (ne b _ this)];exact this
 ·have:=I.base.mV b _ _ _ e;rw[ao (ne b _ this)];exact this
 ·rw[ao (N2 nl)];exact I.free
 ·rw[ao (nc x c e)];exact I.eN x c e
 ·obtain⟨e,q,a,b,d⟩:=I.pin p hp;exact⟨e,by rw[ao (np p hp)];exact q,a,b,d⟩
 ·by_cases hb:b=ea
  ·subst hb;rw[au]at e;cases e;exact hok
  ·rw[ao hb]at e;exact(I.hok b u e).stay (fun c v _ q=>q) (fun c q=>by rw[ao (ne c _ q)];exact q) (fun c _ _ q=>by rw[ao (ne c _ q)];exact q) fun c xs q=>by rw[ao (ne c _ q)];exact q
theorem name_goes{M:Model}{A:Around}{E:Value->Shared->Prop}{i:Nat}{n:Str}{pos:Pos}{Q:Unit->Shared->Prop}(I:Inv X yZ σ H s)(hN:X.N.Nodup)(hi:X.N[i]?=some n)(hk:X.env.kindOf n=some .local)
  (h:∀s',Inv X yZ (σ.set i none) H s'->Q () s'):wpAny M A (do bindName X.env n .none;unbindBehindTheSuite X.env n pos) Q E s:=by
 obtain⟨m,hn,hl⟩:=id I.loc;have hcls:(X.env.scope.kind == .class||(X.env.scope.kind == .module&&X.env.locals != X.env.globals))=false:=by rw[I.ok.kind];rfl
 have cne:=I.cne;refine m5 hk hn hcls fun h' m' hn' hy hs=>?_;have low:∀b o,X.s₀.heap.get? b=some o->b≠X.env.locals:=fun b o e=>NV (NO (Nx e) I.ok.above);refine h _ ⟨I.ok,I.os,I.bare,⟨fun b o e n hb hx=>?_,fun b o e n hb hx=>?_,I.base.free,fun b o e hx=>?_,I.base.tups,I.base.lD,I.base.mV⟩,⟨m',hn',fun j y v' e1 e2 e3=>?_⟩,fun y c e=>?_,I.free,I.eN,fun p hp=>?_,fun b u e=>?_,by simpa using I.len⟩
 ·exact(hs.2 b (low b o e)).trans (I.base.keep b o e n hb hx)
 ·obtain⟨sl,e1⟩:=I.base.slot b o e n hb hx;exact⟨sl,(hs.2 b (low b o e)).trans e1⟩
 ·obtain⟨o',e1⟩:=I.base.there b o e hx;exact⟨o',(hs.2 b (low b o e)).trans e1⟩
 ·have hj:j≠i:=fun z=>by
   subst z;by_cases M6:j<σ.length
   ·rw[NW M6]at e2;cases e2
   ·rw[OG (by simpa using M6)]at e2;cases e2
  rw[gc (N2 hj)]at e2;obtain⟨u',r',q⟩:=hl j y v' e1 e2 e3;refine⟨u',r',?_⟩;rcases q with⟨k,e⟩ | ⟨k,c,e,z⟩
  ·exact .inl ⟨k,by rw[hy y fun e=>hj (nA hN e1 (e▸hi))];exact e⟩
  ·obtain⟨o,ho,hd⟩:=z;exact .inr ⟨k,c,e,o,(hs.2 c (cne y c e)).trans ho,hd⟩
 ·obtain⟨v,o,ho,hd⟩:=I.cell y c e;exact⟨v,o,(hs.2 c (cne y c e)).trans ho,hd⟩
 ·obtain⟨e,q,a,b,d⟩:=I.pin p hp;exact⟨(hs.2 _ a).trans e,q,a,b,d⟩
 ·refine(I.hok b u e).stay (fun c v hc q=>(hs.2 c ?_).trans q) (fun _ q=>q) (fun _ _ _ q=>q) fun _ _ q=>q;rintro rfl;rcases hc with rfl | hc
  ·rw[I.free]at e;cases e
  ·rw[I.free]at hc;cases hc
end
end L2
namespace Br
open PySem PySem.Spec PyProof.Rows L2
section
variable{ρ:Dm.Env}{H0 H:Hp}{σ:L2.St}
theorem aK.drop(st:aK H0 H σ ρ)(i:Nat):aK H0 H (σ.set i none) (ρ.set i .un):=by
 have m:=st.mask i;have ne:∀{j:Nat} {c:Dm.Cell},(ρ.set i .un)[j]?=some c->c≠.un->j≠i:=fun {j c} e hc z=>by
  subst z;by_cases M6:j<ρ.length
  ·rw[NW M6]at e;cases e;exact hc rfl
  ·rw[OG (by simpa using M6)]at e;cases e
 have gs:∀{j:Nat},j≠i->(σ.set i none)[j]?=σ[j]?:=fun {j} h=>gc (N2 h);refine⟨m.same,by rw[Oj];exact m.len,fun j d e=>?_,fun j d e=>?_,fun j k d e a h1 h2 h3 h4=>?_⟩
 ·rw[gs (ne e (by simp))];exact m.sh j d e
 ·rw[gs (ne e (by simp))];exact m.ow j d e
 ·rw[gs (ne h1 (by simp))]at h3;rw[gs (ne h2 (by simp))]at h4;exact m.dis j k d e a h1 h2 h3 h4
theorem SSt.drop(st:aK H0 H σ ρ){i:Nat}(h0:i≠0):SSt σ ρ H0 H (σ.set i none) (ρ.set i .un) H0 H:=by
 refine⟨aK.drop st i,Stp.refl _ _ _,fun a ⟨j,d,h1,h2⟩=>.inl ?_,gc h0⟩;by_cases hj:i=j
 ·subst hj;by_cases M6:i<ρ.length
  ·rw[NW M6]at h1;cases h1
  ·rw[OG (by simpa using M6)]at h1;cases h1
 ·rw[gc hj]at h1 h2;exact⟨j,d,h1,h2⟩
noncomputable def φX(ea C:Addr):HO:=.ext fun h=>∃o,h.get? ea=some o/\o.cls=.ref C
theorem φX_ok{P:Program}{w:World}{H:Hp}{h:Heap}{ea C:Addr}{o:Obj}(e:h.get? ea=some o)(c:o.cls=.ref C):br P w H h ea (φX ea C):=
 ⟨⟨o,e,c⟩,⟨o,e⟩,fun _ _ ⟨o,e,c⟩ k=>⟨o,k o e,c⟩⟩
noncomputable def Cx.in'(X:Cx)(pn:List (Addr×Obj))(xe:Value->Shared->Prop):Cx:={ X with pn:=X.pn++pn,xe:=xe }
noncomputable def Cx.sub'(X:Cx)(A:Around)(xe:Value->Shared->Prop):Cx:={ X with A:=A,calm:=false,xe:=xe }
end
section
variable{X:Cx}{yZ pn:List (Addr×Obj)}{σ:L2.St}{H:Hp}{s:Shared}{xe:Value->Shared->Prop}
theorem vH(I:Inv X pn σ H s):Inv (Cx.in' X pn xe) [] σ H s:=
 ⟨⟨I.ok.1,I.ok.2,I.ok.3,I.ok.4,I.ok.5,I.ok.6,I.ok.7,I.ok.8,I.ok.9,I.ok.10,I.ok.11,I.ok.12,I.ok.13,I.ok.14,I.ok.15,I.ok.16,I.ok.17,I.ok.18⟩,I.os,I.bare,I.base,I.loc,I.cell,I.free,I.eN,fun p hp=>I.pin p (by rw[Oi]at hp;exact hp),I.hok,I.len⟩
theorem fX(I:Inv (Cx.in' X pn xe) yZ σ H s):Inv X pn σ H s:=
 ⟨⟨I.ok.1,I.ok.2,I.ok.3,I.ok.4,I.ok.5,I.ok.6,I.ok.7,I.ok.8,I.ok.9,I.ok.10,I.ok.11,I.ok.12,I.ok.13,I.ok.14,I.ok.15,I.ok.16,I.ok.17,I.ok.18⟩,I.os,I.bare,I.base,I.loc,I.cell,I.free,I.eN,fun p hp=>I.pin p (NT _ hp),I.hok,I.len⟩
theorem ng{A:Around}(hA:A.frames=X.A.frames)(I:Inv X yZ σ H s):Inv (Cx.sub' X A xe) yZ σ H s:=
 ⟨⟨I.ok.1,I.ok.2,I.ok.3,I.ok.4,I.ok.5,I.ok.6,I.ok.7,I.ok.8,(fun h=>nomatch h),hA.trans I.ok.10,I.ok.11,I.ok.12,I.ok.13,I.ok.14,I.ok.15,I.ok.16,I.ok.17,I.ok.18⟩,I.os,I.bare,I.base,I.loc,I.cell,I.free,I.eN,I.pin,I.hok,I.len⟩
theorem jl{A:Around}(ok:X.Ok)(I:Inv (Cx.sub' X A xe) yZ σ H s):Inv X yZ σ H s:=
 ⟨ok,I.os,I.bare,I.base,I.loc,I.cell,I.free,I.eN,I.pin,I.hok,I.len⟩
end
structure mF(K:eg)(C:Addr):Prop where
 get:PySem.W.gH K C
 cls:(Pc K C).isSome=true
noncomputable def φXF(ea C d:Addr):HO:=.ext fun h=>∃o,h.get? ea=some o/\o.cls=.ref C/\o.dict=some d/\∀c,o.data≠.cls c
def ExK(H:Hp)(a C:Addr):Prop:=H a=some (φX a C)\/∃d,H a=some (φXF a C d)
theorem ExK.ne{H:Hp}{a C b:Addr}(x:ExK H a C)(h:H b=none):a≠b:=fun z=>by subst z;rcases x with x | ⟨d,x⟩<;>rw[h]at x<;>cases x
theorem ExK.upd{H:Hp}{a C b:Addr}{o:HO}(x:ExK H a C)(h:H b=none):ExK (L2.upd H b o) a C:=by
 have n:=x.ne h;rcases x with x | ⟨d,x⟩
 ·exact .inl (by rw[ao n];exact x)
 ·exact .inr ⟨d,by rw[ao n];exact x⟩
def KP(K:eg)(C:Addr)(c:V)(b:Bool):List V->Hp->VK->Prop:=fun xs H Q=>∃a,xs=[.ref a,c]/\ExK H a C/\Q (.bl b) H
section
variable{X:Cx}{C:Addr}{e:Expr}{f:FE}{p p2 pos:Pos}{b:Bool}
section
variable{σ:L2.St}{tn:Str}{H:Hp}{c:V}
theorem FA{yZ:List (Addr×Obj)}{s:Shared}{a:Addr}(I:Inv X yZ σ H s)(h:ExK H a C):PySem.W.n9 a C s.heap:=by
 rcases h with h | ⟨d,h⟩
 ·exact(I.hok a _ h).1
 ·obtain⟨o,e,c,_⟩:=(I.hok a _ h).1;exact⟨o,e,c⟩
theorem tU{u2:Value}(hc:RelV c u2)(hu:∀u,RelV c u->u=u2)(Z:mF X.K C)(k:NK X.K (.ref C) u2=some b):fy X (.builtin "isinstance") (KP X.K C c b):=by intro yZ s σ H xs us Q I r h;obtain⟨a,rfl,ha,q⟩:=h;obtain⟨u,u3,rfl,rx,ry⟩:=vals2 r;cases rx;obtain rfl:=hu u3 ry;exact Om (PySem.W.tT Z.get Z.cls) I.kIn (FA I ha) k (by intro q;cases q) fun tk=>⟨.bl b,H,I.tok tk,rfl,q⟩
theorem FD{Q:VK}(h:tD (Dm.e1 (Dm.mZ C b) f) σ H Q):tCB (KP X.K C c b) (ju (tD f) (ju (tC c) yr)) σ H Q:=by
 obtain⟨H0,ρ,x,ρ',st,e,k⟩:=h;unfold Dm.e1 at e;split at e
 ·cases e
 rename_i x1 ρ1 e1;split at e
 ·cases e
 rename_i dx p1;cases dx with
 |exc C'=>
  unfold Dm.mZ at e;dsimp only at e;by_cases hC:C'=C
  ·subst hC;rw[if_pos rfl]at e;cases e;refine⟨H0,ρ,x1,_,st,e1,fun v H1 Hb t1 r1=>?_⟩;have rv:Rep Hb v (.exc C'):=(r1.look t1.st p1).full t1.st.same;cases rv with
   |exc q=>exact⟨_,rfl,.inl q,k _ H1 Hb t1 (Rep.bl _)⟩
  ·rw[if_neg hC]at e;cases e
 |bC C' mv=>
  unfold Dm.mZ at e;dsimp only at e;by_cases hC:C'=C
  ·subst hC;rw[if_pos rfl]at e;cases e;refine⟨H0,ρ,x1,_,st,e1,fun v H1 Hb t1 r1=>?_⟩;have rv:Rep Hb v (.bC C' mv):=(r1.look t1.st p1).full t1.st.same;cases rv with
   |bC q _=>exact⟨_,rfl,.inr ⟨_,q⟩,k _ H1 Hb t1 (Rep.bl _)⟩
  ·rw[if_neg hC]at e;cases e
 |_=>cases e
theorem cu{D:Addr}(Z:mF X.K C)(k:NK X.K (.ref C) (.ref D)=some b)(hgT:Gl X tn)(hmT:X.mg tn=some (.ref D))(hg:Gl X "isinstance")(hm:X.mg "isinstance" = none)(h:DE X e f)(Lh:(tn == ("__debug__" : Str))=false:=by decide)
  (he:starEach [e,.Name tn p2] X.env=(false,eval e X.env)::starEach [.Name tn p2] X.env:=by rfl) (Il:(backTo pos (starEach [.Name tn p2] X.env)).any (·.1)=false:=by rfl) (he2:starEach [.Name tn p2] X.env=(false,eval (.Name tn p2) X.env)::starEach [] X.env:=by rfl) :
  DE X (.Call (.Name "isinstance" p) [e,.Name tn p2] [] pos) (Dm.e1 (Dm.mZ C b) f):=
 PE.weak (iw (tU (c:=.ref D) rfl (fun u q=>q) Z k) hg hm OP (cY h (cY (wG (v:=.ref D) hgT hmT rfl Lh) iu he2) he) (he:=he) (Il:=Il)) fun _ _ _=>FD
theorem gI{T:String}(Z:mF X.K C)(k:NK X.K (.ref C) (.type T)=some b)(hvT:bootBuiltins tn=some (.type T))(hgT:Gl X tn)(hmT:X.mg tn=none)(hg:Gl X "isinstance")(hm:X.mg "isinstance" = none)(h:DE X e f)(hn:tn ≠ "__name__" := by decide)(Lh:(tn == ("__debug__" : Str))=false:=by decide)
  (he:starEach [e,.Name tn p2] X.env=(false,eval e X.env)::starEach [.Name tn p2] X.env:=by rfl) (Il:(backTo pos (starEach [.Name tn p2] X.env)).any (·.1)=false:=by rfl) (he2:starEach [.Name tn p2] X.env=(false,eval (.Name tn p2) X.env)::starEach [] X.env:=by rfl) :
  DE X (.Call (.Name "isinstance" p) [e,.Name tn p2] [] pos) (Dm.e1 (Dm.mZ C b) f):=
 PE.weak (iw (tU (c:=.ty T) rfl (fun u q=>by cases q;rfl) Z k) hg hm OP (cY h (cY (wH (v:=.ty T) hgT hmT hvT rfl hn Lh) iu he2) he) (he:=he) (Il:=Il)) fun _ _ _=>FD
end
end
def tK(vs:List V):TA:=fun _ H Q=>Q vs H
def KQ(K:eg)(C:Addr)(Ds:List Addr)(b:Bool):List V->Hp->VK->Prop:=fun xs H Q=>∃a tp,xs=[.ref a,.ref tp]/\ExK H a C/\H tp=some (.tup (Ds.map V.ref))/\Q (.bl b) H
theorem qD:∀{Ds:List Addr} {us:List Value},Vals (Ds.map V.ref) us->us=Ds.map NN
 |[],_,.nil=>rfl
 |D::Ds,_,.cons r t=>by rw[qD t];cases r;rfl
section
variable{X:Cx}{C:Addr}{e:Expr}{es:List Expr}{f:FE}{p p2 pos:Pos}{b:Bool}{Ds:List Addr}
theorem kX:PA X [] (tK []):=iu
theorem aq{D:Addr}{tn:Str}(hgT:Gl X tn)(hmT:X.mg tn=some (.ref D))(h:PA X es (tK (Ds.map V.ref)))(Lh:(tn == ("__debug__" : Str))=false:=by decide)(hs:starEach (.Name tn p2::es) X.env=(false,eval (.Name tn p2) X.env)::starEach es X.env:=by rfl) :
  PA X (.Name tn p2::es) (tK ((D::Ds).map V.ref)):=PA.weak (cY (wG (v:=.ref D) hgT hmT rfl Lh) h hs) fun _ _ _ q=>q
theorem A6(Z:mF X.K C)(k:OQ X.K (.ref C) (Ds.map NN)=some b):fy X (.builtin "isinstance") (KQ X.K C Ds b):=by
 intro yZ s σ H xs us Q I r h;obtain⟨a,tp,rfl,ha,ht,q⟩:=h;obtain⟨u,u3,rfl,rx,ry⟩:=vals2 r;cases rx;cases ry;obtain⟨_,its,vr,o,ho,hc,n,hd⟩:=(show br X.prog X.w H s.heap tp (.tup (Ds.map V.ref)) from I.hok tp _ ht)
 obtain rfl:=qD vr;obtain⟨oc,od,oda,osl⟩:=o;dsimp only at hc hd;subst hc hd;exact PySem.W.kia_tup (PySem.W.tT Z.get Z.cls) I.kIn (FA I ha) ho k (by intro q;cases q) fun tk=>⟨.bl b,H,I.tok tk,rfl,q⟩
theorem KR{σ:L2.St}{H:Hp}{Q:VK}(hz:Ds.length<=1000)(h:tD (Dm.e1 (Dm.mZ C b) f) σ H Q):tCB (KQ X.K C Ds b) (ju (tD f) (ju (GP (tK (Ds.map V.ref))) yr)) σ H Q:=by
 obtain⟨H0,ρ,x,ρ',st,e,k⟩:=h;unfold Dm.e1 at e;split at e
 ·cases e
 rename_i x1 ρ1 e1;split at e
 ·cases e
 rename_i dx p1;cases dx with
 |exc C'=>
  unfold Dm.mZ at e;dsimp only at e;by_cases hC:C'=C
  ·subst hC;rw[if_pos rfl]at e;cases e;refine⟨H0,ρ,x1,_,st,e1,fun v H1 Hb t1 r1=>?_⟩;have rv:Rep Hb v (.exc C'):=(r1.look t1.st p1).full t1.st.same;cases rv with
   |exc q=>refine⟨by rw[NI];exact Ph (qj hz),fun tp ht=>?_⟩;exact⟨_,tp,rfl,ExK.upd (.inl q) ht,au,k _ H1 _ (t1.trans (.grow t1.st (aX.pT t1.st.same ht))) (Rep.bl _)⟩
  ·rw[if_neg hC]at e;cases e
 |bC C' mv=>
  unfold Dm.mZ at e;dsimp only at e;by_cases hC:C'=C
  ·subst hC;rw[if_pos rfl]at e;cases e;refine⟨H0,ρ,x1,_,st,e1,fun v H1 Hb t1 r1=>?_⟩;have rv:Rep Hb v (.bC C' mv):=(r1.look t1.st p1).full t1.st.same;cases rv with
   |bC q _=>refine⟨by rw[NI];exact Ph (qj hz),fun tp ht=>?_⟩;exact⟨_,tp,rfl,ExK.upd (.inr ⟨_,q⟩) ht,au,k _ H1 _ (t1.trans (.grow t1.st (aX.pT t1.st.same ht))) (Rep.bl _)⟩
  ·rw[if_neg hC]at e;cases e
 |_=>cases e
theorem kY{pt:Pos}{cx:Nat}(Z:mF X.K C)(k:OQ X.K (.ref C) (Ds.map NN)=some b)(hT:PA X es (tK (Ds.map V.ref)))(hz:Ds.length<=1000)(hg:Gl X "isinstance")(hm:X.mg "isinstance" = none)(h:DE X e f)
  (he:starEach [e,.Tuple es cx pt] X.env=(false,eval e X.env)::starEach [.Tuple es cx pt] X.env:=by rfl) (Il:(backTo pos (starEach [.Tuple es cx pt] X.env)).any (·.1)=false:=by rfl) (he2:starEach [.Tuple es cx pt] X.env=(false,eval (.Tuple es cx pt) X.env)::starEach [] X.env:=by rfl) :
  DE X (.Call (.Name "isinstance" p) [e,.Tuple es cx pt] [] pos) (Dm.e1 (Dm.mZ C b) f):=
 PE.weak (iw (A6 Z k) hg hm OP (cY h (cY (zV hT) iu he2) he) (he:=he) (Il:=Il)) fun _ _ _=>KR hz
end
theorem tW{K:eg}{h₀:Heap}{mg:Str->Option Value}{x:Str}{C:Addr}{bmB:List Value}{newId:String}(X:K.In h₀)(G:mg x=some (.ref C))(q:Ql K C bmB newId=true):OwnCls x C bmB newId mg h₀:=by
 refine⟨G,?_⟩;unfold Ql at q;split at q
 ·rename_i dd cd sl ho;split at q
  ·rename_i C' bm k0 k1 k2 k3 n k5 hm hs;simp only[NF,beq_iff_eq,Bool.not_eq_true']at q;obtain⟨⟨⟨⟨⟨rfl,rfl⟩,KS⟩,ht⟩,hok⟩,hni⟩:=q;obtain⟨nm,bs,mro,ns,qn,hd,sn,sub,ab,col,del⟩:=cd;dsimp only at hm KS hok hni;subst hm KS;have hsl:sl=#[k0,k1,k2,k3,some (.builtin n),k5]:=by
    obtain⟨l⟩:=sl;simp only at hs;rw[hs]
   subst hsl;exact⟨bm,ns,nm,qn,bs,hd,sn,sub,ab,col,dd,k0,k1,k2,k3,k5,_,X _ _ ho,.of_isNs (PySem.W.isNs_of_in X hok),PySem.W.nsMap_none_of_in X hok hni,PySem.W.tail_of_in X ht⟩
  ·cases q
 ·cases q
noncomputable abbrev bmV:List Value:=[.type "ValueError",.type "Exception",.type "BaseException",.type "object"]
end Br
namespace Dm
noncomputable abbrev FN:=Env->List (List Dat)->Option (Env×List (List Dat))
end Dm
namespace Br
open PySem PySem.Spec PyProof.Rows L2
open Classical in
open PySem
variable{C:List Value->Prop}{us:List Value}
theorem len0(h:us.length=0)(c:C []):C us:=by rw[List.eq_nil_of_length_eq_zero h];exact c
theorem A7{n:Nat}{C:List Value->Prop}{us:List Value}(h:us.length=n+1)(c:∀a us,us.length=n->C (a::us)):C us:=by
 cases us with
 |nil=>cases h
 |cons a us=>exact c a us (by simpa using h)
theorem KU(h:us.length=1)(c:∀a,C [a]):C us:=A7 h fun a _ h=>len0 h (C:=fun us=>C (a::us)) (c a)
theorem AY(h:us.length=2)(c:∀a b,C [a,b]):C us:=A7 h fun a _ h=>KU h (C:=fun us=>C (a::us)) (c a)
theorem KW(h:us.length=3)(c:∀a b d,C [a,b,d]):C us:=A7 h fun a _ h=>AY h (C:=fun us=>C (a::us)) (c a)
theorem KY(h:us.length=4)(c:∀a b d e,C [a,b,d,e]):C us:=A7 h fun a _ h=>KW h (C:=fun us=>C (a::us)) (c a)
theorem MV(h:us.length=5)(c:∀a b d e f,C [a,b,d,e,f]):C us:=A7 h fun a _ h=>KY h (C:=fun us=>C (a::us)) (c a)
end Br
namespace L2
open PySem
variable{K:eg}{x qual:Str}{st:Stmt}{f:Addr}{fd:FuncData}{ps:List Str}
theorem Fun.iH(F:Fun K x qual st f fd)(hp:ps.length=1)(h:∀(kV doc pm:Value) (an:Option Addr) (cdv ct:Value) (a:Value),bindArgs (Oa x qual (b4 st) (bD st) (ai st) .none kV doc pm an cdv ct) ⟨[a],[]⟩=pure (ps.zip [a])):Binds K fd ps []:=
 F.binds fun kV doc pm an cdv ct us hl=>Br.KU (C:=fun us=>bindArgs (Oa x qual (b4 st) (bD st) (ai st) .none kV doc pm an cdv ct) ⟨us,[]⟩=pure (ps.zip us)) (hl.trans hp) (h kV doc pm an cdv ct)
theorem Fun.iI(F:Fun K x qual st f fd)(hp:ps.length=2)(h:∀(kV doc pm:Value) (an:Option Addr) (cdv ct:Value) (a b:Value),bindArgs (Oa x qual (b4 st) (bD st) (ai st) .none kV doc pm an cdv ct) ⟨[a,b],[]⟩=pure (ps.zip [a,b])):Binds K fd ps []:=
 F.binds fun kV doc pm an cdv ct us hl=>Br.AY (C:=fun us=>bindArgs (Oa x qual (b4 st) (bD st) (ai st) .none kV doc pm an cdv ct) ⟨us,[]⟩=pure (ps.zip us)) (hl.trans hp) (h kV doc pm an cdv ct)
theorem Fun.gJ(F:Fun K x qual st f fd)(hp:ps.length=3)(h:∀(kV doc pm:Value) (an:Option Addr) (cdv ct:Value) (a b d:Value),bindArgs (Oa x qual (b4 st) (bD st) (ai st) .none kV doc pm an cdv ct) ⟨[a,b,d],[]⟩=pure (ps.zip [a,b,d])):Binds K fd ps []:=
 F.binds fun kV doc pm an cdv ct us hl=>Br.KW (C:=fun us=>bindArgs (Oa x qual (b4 st) (bD st) (ai st) .none kV doc pm an cdv ct) ⟨us,[]⟩=pure (ps.zip us)) (hl.trans hp) (h kV doc pm an cdv ct)
theorem Fun.vJ(F:Fun K x qual st f fd)(hp:ps.length=4)(h:∀(kV doc pm:Value) (an:Option Addr) (cdv ct:Value) (a b d e:Value),bindArgs (Oa x qual (b4 st) (bD st) (ai st) .none kV doc pm an cdv ct) ⟨[a,b,d,e],[]⟩=pure (ps.zip [a,b,d,e])):Binds K fd ps []:=
 F.binds fun kV doc pm an cdv ct us hl=>Br.KY (C:=fun us=>bindArgs (Oa x qual (b4 st) (bD st) (ai st) .none kV doc pm an cdv ct) ⟨us,[]⟩=pure (ps.zip us)) (hl.trans hp) (h kV doc pm an cdv ct)
theorem Fun.HY(F:Fun K x qual st f fd)(hp:ps.length=5)(h:∀(kV doc pm:Value) (an:Option Addr) (cdv ct:Value) (a b d e g:Value),bindArgs (Oa x qual (b4 st) (bD st) (ai st) .none kV doc pm an cdv ct) ⟨[a,b,d,e,g],[]⟩=pure (ps.zip [a,b,d,e,g])):Binds K fd ps []:=
 F.binds fun kV doc pm an cdv ct us hl=>Br.MV (C:=fun us=>bindArgs (Oa x qual (b4 st) (bD st) (ai st) .none kV doc pm an cdv ct) ⟨us,[]⟩=pure (ps.zip us)) (hl.trans hp) (h kV doc pm an cdv ct)
end L2
namespace Dm
noncomputable def n_(a:List Int):List (List Int)->List Int
 |[]=>a
 |x::r=>n_ (if lx x a then x else a) r
noncomputable def mG:List Dat->Option RV
 | [.lst xs]=>(match n8 xs with
  |some (n::ns)=>some (.val (KH (n_ n ns)))
  |_=>none)
 |_=>none
end Dm
namespace Br
open PySem PySem.Spec PyProof.Rows L2
section
variable{prog:Program}{w:World}{A:Around}{E:Value->Shared->Prop}{s:Shared}
theorem HZ{a b:Int}{t u:Tok}{Q:Value->Shared->Prop}(q:Q (.bool (decide (a<b))) s):wpAny (model prog w) A (richCompare .Lt (.int a t) (.int b u)) Q E s:=
 CmpOf.ints_lt (P:=fun i v=>∃t,v=.int (if i=0 then a else b) t) (fun i=>if i=0 then a else b) (fun i v h=>h) 0 1 _ _ s Q E ⟨t,rfl⟩ ⟨u,rfl⟩ q
noncomputable def KZ(a b:Value):Sem PySem.Fin:=do
  let p <- slotArgs "__lt__" 1 { pos:=[a,b] }
  match p with
  |(a,[b])=>do
   if !(<- PySem.isInstance b (.type "tuple")) then return <- ret .notImplemented
   let xs <- Builtin.Tuple.tupleItemsOf a
   let ys <- Builtin.Tuple.tupleItemsOf b
   for (x,y) in xs.toList.zip ys.toList do
    if !(<- eqBool x y) then
     match CmpOp.Lt with
     |.Eq=>return <- ret (.bool false)
     |.NotEq=>return <- ret (.bool true)
     |_=>do
      rule "tuple.compare.by-the-first-pair-that-differs"
      return <- ret (<- richCompare .Lt x y)
   ret (O3 .Lt xs.size ys.size)
  |_=>unsupported "internal:tuple.compare"
theorem H_(a b:Value):Builtin.«tuple.__lt__» { pos:=[a,b] }=KZ a b:=rfl
theorem t7{B:Value×Value->Option PySem.Fin×Unit->Sem (ForInStep (Option PySem.Fin×Unit))}
  (hB:∀(n m:Int) (t u:Tok) (K:ForInStep (Option PySem.Fin×Unit)->Shared->Prop),(if n=m then K (.yield (none,())) s else K (.done (some (.done (.ret (.bool (decide (n<m))))),())) s)->wpAny (model prog w) A (B (.int n t,.int m u) (none,())) K E s)
  {K:Option PySem.Fin×Unit->Shared->Prop}:∀{xs ys:List Value} {ks ms:List Int},IntsAre xs ks->IntsAre ys ms ->
  (∀r,(r=none->Dm.lx ks ms=decide (ks.length<ms.length))->(∀f,r=some f->f=.done (.ret (.bool (Dm.lx ks ms))))->K (r,()) s) ->
  wpAny (model prog w) A (forIn (xs.zip ys) (none,()) B) K E s
 |_,_,_,_,.nil,.nil,k=>wpAny_pure (k none (fun _=>by simp[Dm.lx]) fun _ h=>by cases h)
 |_,_,_,_,.nil,.cons m u h',k=>wpAny_pure (k none (fun _=>by simp[Dm.lx]) fun _ h=>by cases h)
 |_,_,_,_,.cons n t h,.nil,k=>wpAny_pure (k none (fun _=>by simp[Dm.lx]) fun _ h=>by cases h)
 |_,_,_,_,.cons n t h,.cons m u h',k=>by
  rw[Pr,QF];refine wpAny_bind (hB n m t u _ ?_);by_cases e:n=m
  ·rw[if_pos e];refine t7 hB h h' fun r h1 h2=>k r (fun z=>?_) fun f z=>?_
   ·rw[Dm.lx,if_pos e,h1 z];simp
   ·rw[Dm.lx,if_pos e];exact h2 f z
  ·rw[if_neg e];refine wpAny_pure (k _ (fun z=>by cases z) fun f z=>?_);injection z with z
   rw[<- z,Dm.lx,if_neg e]
theorem Ia{a b:Addr}{oa ob:Obj}{xs ys:List Value}{ks ms:List Int}{na nb:Nat}(ha:s.heap.get? a=some oa)(ca:oa.cls=.type "tuple")(da:oa.data=.seq xs.toArray na)(ia:IntsAre xs ks)
  (hb:s.heap.get? b=some ob) (cb:ob.cls=.type "tuple") (db:ob.data=.seq ys.toArray nb) (ib:IntsAre ys ms) (hu:A.units<cLine) {Q:Value->Shared->Prop} (q:Q (.bool (Dm.lx ks ms)) s) :
  wpAny (model prog w) A (richCompare .Lt (.ref a) (.ref b)) Q E s:=by
 have ta:s.TypeIs (.ref a) "tuple" := ⟨oa,ha,ca⟩
 have tb:s.TypeIs (.ref b) "tuple" := ⟨ob,hb,cb⟩
 refine wpAny_richCompare_same_or ta tb F.slot_tuple_lt ?_ (.inr hu);refine wpAny_call_entry F.slot_tuple_lt ta F.entry_tuple_lt ?_;rw[H_];unfold KZ;refine wpAny_bind (wpAny_of_eq (show slotArgs "__lt__" 1 { pos:=[.ref a,.ref b] }=pure (.ref a,[.ref b]) from rfl) ?_);refine wpAny_bind (wpAny_isInstance tb (b:=true) rfl ?_);refine wpAny_bind (wpAny_tupleItemsOf ha da ?_);refine wpAny_bind (wpAny_tupleItemsOf hb db ?_);refine wpAny_bind (t7 (fun n m t u K hk=>?_) ia ib fun r h1 h2=>?_)
 ·refine wpAny_bind (wpAny_eqBool_int ?_);by_cases e:n=m
  ·rw[if_pos e]at hk;have:(n == m)=true:=by simpa using e
   rw[this];exact wpAny_pure hk
  ·rw[if_neg e]at hk;have:(n == m)=false:=by simpa using e
   rw[this];refine wpAny_bind (wpAny_rule ?_);refine wpAny_bind (HZ ?_);exact wpAny_bind (wpAny_pure (wpAny_pure hk))
 cases r with
 |none=>refine wpAny_pure ⟨_,rfl,(by simp[O3]),?_⟩;rw[NG,NG,ia.length,ib.length,O3.eq_3,<- h1 rfl];exact q
 |some f=>refine wpAny_pure ⟨_,h2 f rfl,(by simp),q⟩
end
section
variable{prog:Program}{w:World}{A:Around}{s:Shared}
section
variable{P:Nat->Value->Prop}{St:Nat->Heap->Prop}{fp wr:List Addr}{I:Addr}{n:Nat}
theorem rD{R:Result->Shared->Prop}(W:Walks prog w A.in1 I fp wr n P St)(bt:Nat->Nat->Bool)(G:Heap->Prop)(S:Addr)(hS:S∉fp)
  (hG:∀h h',G h->(∀(b:Addr) (o:Obj),b∉wr->b≠S->h.get? b=some o->h'.get? b=some o)->G h')
  (cmp:∀(i j:Nat) (vi vj:Value) (s:Shared) (Q E:Value->Shared->Prop),i<n->j<n->G s.heap->P i vi->P j vj->Q (.bool (bt i j)) s->wpAny (model prog w) A.in1 (richCompare .Lt vi vj) Q E s) :
  ∀(k j:Nat) (s:Shared) (vb:Value) (c:Nat),n-(j+1)=k->j+1<=n->St (j+1) s.heap->G s.heap->P (argBest bt j) vb->argBest bt j<n ->
   s.heap.get? S=some { cls:=.type "list",data:=.seq #[vb,vb] c } ->
   (∀(v:Value) (h':Heap) (tk:Nat),P (argBest bt (n-1)) v->(∀(b:Addr) (o:Obj),b∉wr->b≠S->s.heap.get? b=some o->h'.get? b=some o)->R (.ok (.ret v)) { s with heap:=h',toks:=tk }) ->
   codeAny (model prog w) A (.builtin "min.loop" { pos:=[.ref I,.none,.ref S] }) R s
 |0,j,s,vb,c,hk,hj,st,g,pb,hb,eS,q=>by
  refine codeAny_builtin Qz ?_;rw[P5 OR];refine wpAny_bind (wpAny_seqItems eS rfl ?_);have ej:j+1=n:=by lia
  subst ej;refine wpAny_bind (wpAny_tryCatch (W.done _ _ _ st fun h' tk kp=>?_));have eS':=kp S _ (fun z=>hS (W.sub S z)) eS;dsimp only;refine wpAny_bind (wpAny_updateSeq eS' rfl ?_ (by rw[sizeLine_eq];simp) (by rw[sizeLine_eq];simp));refine wpAny_bind (wpAny_letGo ?_);refine wpAny_pure ?_;refine q vb _ _ pb fun b o b1 b2 b3=>?_;rw[NX _ _ (N2 b2)];exact kp b o b1 b3
 |k+1,j,s,vb,c,hk,hj,st,g,pb,hb,eS,q=>by
  refine codeAny_builtin Qz ?_;rw[P5 OR];refine wpAny_bind (wpAny_seqItems eS rfl ?_);refine wpAny_bind (wpAny_tryCatch (W.item (j+1) _ _ _ (by lia) st fun v h' tk pv st' kp=>?_));have eS':=kp S _ (fun z=>hS (W.sub S z)) eS;have g':=hG _ h' g fun b o b1 _ b3=>kp b o b1 b3;dsimp only;refine wpAny_bind (wpAny_pure ?_);refine wpAny_bind (wpAny_tryCatch (wpAny_holding (wpAny_bind (cmp (j+1) (argBest bt j) _ _ _ _ _ (by lia) hb g' pv pb ?_))));refine wpAny_bind (wpAny_holding (wpAny_truthy_bool ?_));refine wpAny_bind (wpAny_letGo ?_);refine wpAny_pure ?_;have ea:argBest bt (j+1)=if bt (j+1) (argBest bt j) then j+1 else argBest bt j:=rfl
  cases e:bt (j+1) (argBest bt j) with
  |true=>
   rw[e,if_pos rfl]at ea;refine wpAny_bind (wpAny_updateSeq eS' rfl ?_ (by rw[sizeLine_eq];simp) (by rw[sizeLine_eq];simp));refine wpAny_bind (wpAny_letGo ?_);refine wpAny_pure ⟨plainId_quiet OR _,?_⟩;refine rD W bt G S hS hG cmp k (j+1) _ v c (by lia) (by lia) (W.frame _ _ _ st' fun b hb o e=>?_) (hG _ _ g' fun b o _ b2 e=>?_) (by rw[ea];exact pv) (by rw[ea];lia) (Of _ eS' rfl) fun v h2 tk2 p2 k2=>?_
   ·rw[NX _ _ (fun z:S=b=>hS (by rw[z];exact hb))];exact e
   ·rw[NX _ _ (N2 b2)];exact e
   ·refine q v h2 tk2 p2 fun b o b1 b2 b3=>k2 b o b1 b2 ?_;rw[NX _ _ (N2 b2)];exact kp b o b1 b3
  |false=>rw[e,if_neg (by decide)]at ea;refine wpAny_bind (wpAny_letGo ?_);refine wpAny_pure ⟨plainId_quiet OR _,?_⟩;refine rD W bt G S hS hG cmp k (j+1) _ vb c (by lia) (by lia) st' g' (by rw[ea];exact pb) (by rw[ea];exact hb) eS' fun v h2 tk2 p2 k2=>?_;exact q v h2 tk2 p2 fun b o b1 b2 b3=>k2 b o b1 b2 (kp b o b1 b3)
theorem A8{R:Result->Shared->Prop}(W:Walks prog w A.in1 I fp wr n P St)(bt:Nat->Nat->Bool)(G:Heap->Prop)(S:Addr)(hS:S∉fp)
  (hG:∀h h',G h->(∀(b:Addr) (o:Obj),b∉wr->b≠S->h.get? b=some o->h'.get? b=some o)->G h')
  (cmp:∀(i j:Nat) (vi vj:Value) (s:Shared) (Q E:Value->Shared->Prop),i<n->j<n->G s.heap->P i vi->P j vj->Q (.bool (bt i j)) s->wpAny (model prog w) A.in1 (richCompare .Lt vi vj) Q E s)
  (n0:0<n) {c:Nat} (st:St 0 s.heap) (g:G s.heap) (eS:s.heap.get? S=some { cls:=.type "list",data:=.seq #[] c })
  (q:∀(v:Value) (h':Heap) (tk:Nat),P (argBest bt (n-1)) v->(∀(b:Addr) (o:Obj),b∉wr->b≠S->s.heap.get? b=some o->h'.get? b=some o)->R (.ok (.ret v)) { s with heap:=h',toks:=tk }) :
  codeAny (model prog w) A (.builtin "min.loop" { pos:=[.ref I,.none,.ref S] }) R s:=by
 refine codeAny_builtin Qz ?_;rw[P5 OR];refine wpAny_bind (wpAny_seqItems eS rfl ?_);refine wpAny_bind (wpAny_tryCatch (W.item 0 _ _ _ n0 st fun v h' tk pv st' kp=>?_));have eS':=kp S _ (fun z=>hS (W.sub S z)) eS;have g':=hG _ h' g fun b o b1 _ b3=>kp b o b1 b3;dsimp only;refine wpAny_bind (wpAny_pure ?_);refine wpAny_bind (wpAny_updateSeq eS' rfl ?_ (by rw[sizeLine_eq];simp) (by rw[sizeLine_eq];simp));refine wpAny_pure ⟨plainId_quiet OR _,?_⟩;refine rD W bt G S hS hG cmp (n-1) 0 _ v _ (by lia) (by lia) (W.frame _ _ _ st' fun b hb o e=>?_) (hG _ _ g' fun b o _ b2 e=>?_) pv (by exact n0) (Of _ eS' rfl) fun v h2 tk2 p2 k2=>?_
 ·rw[NX _ _ (fun z:S=b=>hS (by rw[z];exact hb))];exact e
 ·rw[NX _ _ (N2 b2)];exact e
 ·refine q v h2 tk2 p2 fun b o b1 b2 b3=>k2 b o b1 b2 ?_;rw[NX _ _ (N2 b2)];exact kp b o b1 b3
theorem D8{E:Value->Shared->Prop}{x:Value}{Q:Value->Shared->Prop} (h:wpAny (model prog w) A.in1 (pyIter x) (fun it s2=>∃I fp wr n P St,∃(bt:Nat->Nat->Bool) (G:Heap->Prop),it=.ref I/\Walks prog w A.in1 I fp wr n P St/\St 0 s2.heap/\(∀b∈fp,b<s2.heap.objs.size)/\0<n/\G s2.heap /\
   (∀h h',G h->(∀(b:Addr) (o:Obj),b∉wr->b<s2.heap.objs.size->h.get? b=some o->h'.get? b=some o)->G h') /\
   (∀(i j:Nat) (vi vj:Value) (s:Shared) (Q E:Value->Shared->Prop),i<n->j<n->G s.heap->P i vi->P j vj->Q (.bool (bt i j)) s->wpAny (model prog w) A.in1 (richCompare .Lt vi vj) Q E s) /\
   ∀(v:Value) (h':Heap) (tk:Nat),P (argBest bt (n-1)) v->(∀(b:Addr) (o:Obj),b∉wr->s2.heap.get? b=some o->h'.get? b=some o)->Q v { s2 with heap:=h',toks:=tk }) E s) :
  wpAny (model prog w) A (call (.builtin "min") [x]) Q E s:=by
 refine call_function_tree F.kind_min F.plain_min F.entry_min (F.args_min1 x) ?_;refine wpAny_bind (wpAny_of_eq (show Builtin.Builtins.bindParams "min" ["key","default"] 0 { }=pure [none,none] from rfl) ?_);refine wpAny_bind (wpAny_pure ?_);refine wpAny_bind (wpAny_mono h ?_ fun _ _ h=>h);rintro it s2 ⟨I,fp,wr,n,P,St,bt,G,rfl,W,st,lt,n0,g,hG,cmp,k⟩;refine wpAny_bind (wpAny_newObj_type ?_);refine wpAny_pure ⟨plainId_quiet OR _,?_⟩;refine A8 W bt G s2.heap.objs.size (fun z=>absurd (lt _ z) (Oh _)) (fun h h' g kp=>hG h h' g fun b o b1 b2=>kp b o b1 (NV b2)) cmp n0 (W.frame _ _ _ st fun b hb o e=>HT _ e) (hG _ _ g fun b o _ _ e=>HT _ e) (Og _ rfl) fun v h' tk pv kp=>?_;exact k v h' tk pv fun b o b1 e=>kp b o b1 (NV (Nx e)) (HT _ e)
end
end
theorem A9(a x:List Int)(l:List (List Int)):Dm.n_ a (l++[x])=if Dm.lx x (Dm.n_ a l) then x else Dm.n_ a l:=by
 induction l generalizing a with
 |nil=>rfl
 |cons y l ih=>rw[Qv,Dm.n_,ih,Dm.n_]
noncomputable def bl(kss:List (List Int)):Nat->Nat->Bool:=fun i j=>Dm.lx (kss.getD i []) (kss.getD j [])
theorem qE(n0:List Int)(ns:List (List Int)):∀k,k<=ns.length->(n0::ns).getD (argBest (bl (n0::ns)) k) []=Dm.n_ n0 (ns.take k)
 |0,_=>rfl
 |k+1,h=>by
  have ih:=qE n0 ns k (by lia);have e:argBest (bl (n0::ns)) (k+1)=if Dm.lx ((n0::ns).getD (k+1) []) ((n0::ns).getD (argBest (bl (n0::ns)) k) []) then k+1 else argBest (bl (n0::ns)) k:=rfl
  have ek:(n0::ns).getD (k+1) []=ns[k]'(by omega):=by rw[Ow,OO,ND (by lia)];rfl
  rw[e,ih,ek,List.take_succ_eq_append_getElem (by lia),A9];by_cases c:Dm.lx (ns[k]'(by lia)) (Dm.n_ n0 (ns.take k))=true
  ·rw[if_pos c,if_pos c,ek]
  ·rw[if_neg c,if_neg c,ih]
theorem xD(bt:Nat->Nat->Bool):∀k,argBest bt k<=k
 |0=>NC _
 |k+1=>by
  have:=xD bt k;have e:argBest bt (k+1)=if bt (k+1) (argBest bt k) then k+1 else argBest bt k:=rfl
  rw[e];split<;>lia
def rE(H:Hp)(ys:List V)(kss:List (List Int)):Prop:=ys.length=kss.length/\∀(i:Nat) (y:V),ys[i]?=some y->∃b:Addr,y=.ref b/\H b=some (.tup ((kss.getD i []).map V.int))
theorem xE{xs:List V}{us:List Value}(rv:Vals xs us){i:Nat}{u:Value}(h:us[i]?=some u):∃x,xs[i]?=some x/\RelV x u:=by
 have hi:i<xs.length:=by rw[rv.length];exact(Ny.mp h).1
 obtain⟨u',h1,h2⟩:=rv.get (ND hi);rw[h]at h1;cases h1;exact⟨_,ND hi,h2⟩
section
variable{X:Cx}
theorem yR{k:Nat}(hr:bK k X.A)(hc:X.calm=true):fy X (.builtin "min") (fun xs H Q=>∃(a:Addr) (ys:List V) (kss:List (List Int)),xs=[.ref a]/\Rd H a (.lst ys)/\rE H ys kss/\0<kss.length/\Q (ys.getD (argBest (bl kss) (kss.length-1)) .non) H):=by
 intro yZ s σ H xs us Q I r h;obtain⟨a,ys,kss,rfl,hq,⟨hl1,hT⟩,n0,q⟩:=h;obtain⟨u,rfl,rx⟩:=vals1 r;cases rx;obtain⟨z,its,n,rv,e⟩:=hq.ok I.hok;have hl:s.heap.IsList a its.toArray:=⟨_,e,rfl,_,rfl⟩
 have FH:=rv.length;have hax:a≠s.heap.objs.size:=NV (Nx e);have e1:its.toArray.size=kss.length:=by rw[NG,<- FH,hl1]
 have hu:X.A.in1.units<cLine:=u1 hr;have look:∀(h':Heap),(∀b o,s.heap.get? b=some o->h'.get? b=some o)->∀(i:Nat) (v:Value),its.toArray[i]?=some v->∃(b:Addr) (o:Obj) (ts:List Value) (n:Nat),v=.ref b/\h'.get? b=some o/\o.cls=.type "tuple" /\ o.data=.seq ts.toArray n/\IntsAre ts (kss.getD i []):=fun h' kp i v hv=>by rw[List.getElem?_toArray]at hv;obtain⟨y,hy,ry⟩:=xE rv hv;obtain⟨b,rfl,hb⟩:=hT i y hy;cases ry;obtain⟨_,ts,rt,o,ho,hcl,n,hd⟩:=I.hok b _ hb;exact⟨b,o,ts,n,rfl,kp _ _ ho,hcl,hd,intsAre_of rt⟩
 refine D8 (wpAny_pyIter_list hl ⟨s.heap.objs.size,_,_,_,_,_,bl kss,fun h'=>∀b o,s.heap.get? b=some o->h'.get? b=some o,rfl,Walks.list (A:=X.A.in1) (I.ok.hd hc) s.heap.objs.size a hax its.toArray,⟨⟨_,Og _ rfl,rfl,rfl⟩,hl.push _⟩,?_,by rw[e1];exact n0,fun b o eb=>HT _ eb,fun h h' g kp b o eb=>kp b o ?_ (Qw (Nx eb) (by exact O7 ..▸Qy _)) (g b o eb),fun i j vi vj s' Q' E' hi hj g pi pj q'=>?_,fun v h' tk hp hk=>?_⟩)
 ·intro b hb;simp only[Dp,Oz,or_false]at hb;rcases hb with rfl | rfl
  ·show s.heap.objs.size<_;exact O7 ..▸Qy _
  ·show b<_;exact O7 ..▸Nat.lt_succ_of_lt (Nx e)
 ·intro hm;have:b=s.heap.objs.size:=by simpa using hm
  exact absurd (Nx eb) (by rw[this];exact Oh _)
 ·obtain⟨bi,oi,ti,ni,rfl,hbi,ci,di,ii⟩:=look s'.heap g i vi pi;obtain⟨bj,oj,tj,nj,rfl,hbj,cj,dj,ij⟩:=look s'.heap g j vj pj;exact Ia hbi ci di ii hbj cj dj ij hu q'
 ·have hp':its.toArray[argBest (bl kss) (its.toArray.size-1)]?=some v:=hp;rw[e1,List.getElem?_toArray]at hp';obtain⟨y,hy,ry⟩:=xE rv hp';refine⟨y,H,I.kept (t':=tk) fun b o eb=>hk b o ?_ (HT _ eb),ry,?_⟩
  ·intro hm;have:b=s.heap.objs.size:=by simpa using hm
   exact absurd (Nx eb) (by rw[this];exact Oh _)
  ·rw[Ow,hy]at q;exact q
theorem qF{H0:Hp}:∀{ds:List Dat} {xs:List V} {nss:List (List Int)},aR H0 xs ds->Dm.n8 ds=some nss->rE H0 xs nss
 |[],_,nss,r,e=>by cases r;cases e;exact⟨rfl,fun i y h=>by simp at h⟩
 |d::ds,_,nss,r,e=>by
  cases r with
  |cons h t=>
   cases d with
   |tup es=>
    unfold Dm.n8 at e;split at e
    ·rename_i ns en;split at e
     ·cases e
     ·cases q:Dm.n8 ds with
      |none=>rw[q]at e;cases e
      |some ms=>
       rw[q]at e;cases e;obtain⟨i1,i2⟩:=qF t q;cases h with
       |tup ha hr=>
        have e1:=tO hr en;subst e1;refine⟨by rw[NZ,NZ,i1],fun i y hy=>?_⟩;cases i with
        |zero=>cases hy;exact⟨_,rfl,ha⟩
        |succ i=>exact i2 i y hy
    ·cases e
   |_=>cases e
theorem D9:CallD (fun xs H Q=>∃(a:Addr) (ys:List V) (kss:List (List Int)),xs=[.ref a]/\Rd H a (.lst ys)/\rE H ys kss/\0<kss.length/\Q (ys.getD (argBest (bl kss) (kss.length-1)) .non) H) Dm.mG:=by
 intro H0 H vs ds z Q s rs e k;unfold Dm.mG at e;split at e
 ·split at e
  ·rename_i n ns hb;cases e;cases rs with
   |cons r rr=>
    cases rr;obtain⟨a,us,rfl,qa,ra⟩:=dG s r;obtain⟨t1,t2⟩:=qF ra hb;refine⟨a,us,n::ns,rfl,qa,⟨t1,fun i y hy=>?_⟩,by simp,?_⟩
    ·obtain⟨b,rfl,hb⟩:=t2 i y hy;exact⟨b,rfl,s _ _ hb⟩
    ·have hb:=xD (bl (n::ns)) ((n::ns).length-1);have hm:=qE n ns ns.length (NC _);rw[List.take_length]at hm;have el:(n::ns).length-1=ns.length:=by simp
     rw[el]at hb ⊢;have hi:argBest (bl (n::ns)) ns.length<us.length:=by rw[t1,NZ];lia
     have hu:us[argBest (bl (n::ns)) ns.length]?=some us[argBest (bl (n::ns)) ns.length]:=ND hi;obtain⟨b,eb,hb2⟩:=t2 _ _ hu;rw[hm]at hb2;rw[Ow,hu,Option.getD_some,eb];exact k _ H0 H (aX.refl s) (.tup hb2 (qC _))
  ·cases e
 ·cases e
end
section
variable{X:Cx}{e:Expr}{fs:List FE}{p pos:Pos}{k:Nat}
theorem Ib(hr:bK k X.A)(hc:X.calm=true)(hg:Gl X "min")(hm:X.mg "min" = none)(ha:DA X [e] fs)(he:starEach [e] X.env=[(false,eval e X.env)]:=by rfl)(Il:(backTo pos (starEach [] X.env)).any (·.1)=false:=by rfl):DE X (.Call (.Name "min" p) [e] [] pos) (Dm.eB Dm.mG fs):=AB (yR hr hc) D9 (by rfl) hg hm ha (he:=he) (Il:=Il)
end
open PySem L2
structure cZ(K:eg)(x:Str)(st:Stmt)(a:Addr)(fd:FuncData):Prop where
 e:NP K mainGlobals x=some (some (.ref a))
 F:Fun K x x st a fd
variable{K:eg}{x:Str}{st:Stmt}{a:Addr}{fd:FuncData}{hp:Heap}{mg:Str->Option Value}
theorem bE{oc:Value}{od an:Option Addr}{osl:Array (Option Value)}{kV doc pm cdv ct:Value}(e:NP K mainGlobals x=some (some (.ref a)))
  (l:K.lookup a=some ⟨oc,od,.func (Oa x x (b4 st) (bD st) (ai st) .none kV doc pm an cdv ct),osl⟩) (c:Px K cdv x=true) (k:Ot K (.ref a)=true) :
  cZ K x st a (Oa x x (b4 st) (bD st) (ai st) .none kV doc pm an cdv ct):=⟨e,z3 l c k⟩
theorem mgo{v:Value}(X:K.In hp)(G:hp.Ns mainGlobals mg)(e:NP K mainGlobals x=some (some v)):mg x=some v:=PySem.W.mg_of X G e
theorem mno(X:K.In hp)(G:hp.Ns mainGlobals mg)(e:NP K mainGlobals x=some none):mg x=none:=PySem.W.mg_none_of X G e
theorem cZ.m(h:cZ K x st a fd)(X:K.In hp)(G:hp.Ns mainGlobals mg):mg x=some (.ref a):=PySem.W.mg_of X G h.e
theorem cZ.MW{y:Str}(h:cZ K x st a fd)(hb:∀(kV doc pm:Value) (an:Option Addr) (cdv ct v:Value),bindArgs (Oa x x (b4 st) (bD st) (ai st) .none kV doc pm an cdv ct) ⟨[v],[]⟩=pure [(y,v)])(s:Shared)(v:Value):BindsTo s fd ⟨[v],[]⟩ [(y,v)]:=by obtain⟨oc,od,kV,doc,pm,an,cdv,ct,osl,rfl,lk,Lp⟩:=h.F.ex;exact .of_eq (hb kV doc pm an cdv ct v)
theorem hm{j k:Nat}{A:Around}(r:bK k A)(h:j<=k:=by decide):bK j A:=r.mono h
theorem fsc{N P:List Str}{sc:Scope}(h1:sc.kind=.function:=by rfl)(h2:sc.isCoroutine=false:=by rfl)(h3:sc.isGenerator=false:=by rfl)(h4:N.take P.length=P:=by rfl)(h:N.Nodup/\(∀x∈P,sc.names.lookup x=some .local\/sc.names.lookup x=some .cell)/\∀y∈sc.names,y.2≠.free:=by decide +kernel):aP N P sc:=⟨h1,h2,h3,h.1,h4,h.2.1,h.2.2⟩
end Br
namespace Dm
noncomputable def rOr(R S:Env->Option Env)(ρ:Env):Option Env:=match R ρ with
 |some x=>some x
 |none=>S ρ
noncomputable def kZ(s:FS)(R:Env->Option Env)(ρ:Env):Option Env:=match s ρ with
 |some (.nx ρ1)=>R ρ1
 |_=>none
noncomputable def sUn(f g:FS):FS:=fun ρ=>match f ρ with
 |some x=>some x
 |none=>g ρ
noncomputable def iJ(R:Env->Option Env)(C ie:Nat)(h:FS):FS:=fun ρ=>match R ρ with
 |none=>none
 |some ρ1=>if ie=0 then none else match h (ρ1.set ie (.sh (.exc C))) with
  |some (.nx ρ')=>some (.nx (ρ'.set ie .un))
  |some (.ret r ρ')=>some (.ret r (ρ'.set ie .un))
  |_=>none
noncomputable def lQ:List Nat->List Bool->Nat->Option Bool
 |C::cs,b::bs,D=>if D=C then some b else lQ cs bs D
 |_,_,_=>none
noncomputable def bW(cs:List Nat)(bs:List Bool):Dat->Option RV
 |.exc C=>(lQ cs bs C).bind vB
 |.bC C _=>(lQ cs bs C).bind vB
 |_=>none
end Dm
namespace Br
open PySem PySem.Spec PyProof.Rows L2
section
variable{X:Cx}{C:Addr}{E:L2.St->XK}{R S:Dm.Env->Option Dm.Env}{sts Ca:List Stmt}{st:Stmt}
section
variable{σ:L2.St}{t:FT}{H:Hp}
theorem D_{f g:FS}(h1:DS X st f)(h2:DS X st g):DS X st (Dm.sUn f g):=fun yZ s σ H D I q=>by
 obtain⟨H0,ρ,o,rs,e,k⟩:=q;unfold Dm.sUn at e;split at e
 ·rename_i y hy;exact h1 yZ s σ H D I ⟨H0,ρ,o,rs,hy.trans e,k⟩
 ·exact h2 yZ s σ H D I ⟨H0,ρ,o,rs,e,k⟩
def tY(C:Addr)(E:L2.St->XK)(R:Dm.Env->Option Dm.Env)(σ:L2.St)(H:Hp):Prop:=∃H0 ρ ρ',aK H0 H σ ρ/\R ρ=some ρ'/\∀σ' a H0' H',SSt σ ρ H0 H σ' ρ' H0' H'->E σ' (.ref C) (some a) H'
noncomputable abbrev YS(X:Cx)(C:Addr)(E:L2.St->XK)(st:Stmt)(R:Dm.Env->Option Dm.Env):Prop:=PS X st (fun _ σ H=>tY C E R σ H)
noncomputable abbrev YB(X:Cx)(C:Addr)(E:L2.St->XK)(sts:List Stmt)(R:Dm.Env->Option Dm.Env):Prop:=PSs X sts (fun _ σ H=>tY C E R σ H)
theorem tY.x(h:tY C E R σ H):tX C E R σ H:=by obtain⟨H0,ρ,ρ',st,e,k⟩:=h;exact⟨H0,ρ,ρ',st,e,fun a H0' H' t=>k σ a H0' H' t.sst⟩
theorem y_x(h:XS X C E st R):YS X C E st R:=PS.weak h fun _ _ _ q=>q.x
theorem k7(h:YS X C E st R):YB X C E (st::Ca) R:=by have:=tQ (Ca:=Ca) h;exact fun yZ s σ H D I q=>this yZ s σ H D I q
theorem MX(h1:YB X C E sts R)(h2:YB X C E sts S):YB X C E sts (Dm.rOr R S):=fun yZ s σ H D I q=>by
 obtain⟨H0,ρ,ρ',st,e,k⟩:=q;unfold Dm.rOr at e;split at e
 ·rename_i y hy;exact h1 yZ s σ H D I ⟨H0,ρ,ρ',st,hy.trans e,k⟩
 ·exact h2 yZ s σ H D I ⟨H0,ρ,ρ',st,e,k⟩
theorem xF{s:FS}(h1:DS X st s)(h2:YB X C E Ca R):YB X C E (st::Ca) (Dm.kZ s R):=PSs.weak (ig h1 h2) fun D σ H q=>by
 obtain⟨H0,ρ,ρ',rs,e,k⟩:=q;unfold Dm.kZ at e;split at e
 case h_2=>cases e
 rename_i ρ1 hs;exact⟨H0,ρ,_,rs,hs,fun σ' H0' H' t=>⟨H0',ρ1,ρ',t.st,e,fun σ'' a jF H'' u=>k σ'' a jF H'' (t.trans u)⟩⟩
theorem K0(h:tY C E (Dm.rIf t R S) σ H):tDT t σ H fun b H1=>if b=true then tY C E R σ H1 else tY C E S σ H1:=by
 obtain⟨H0,ρ,ρ',rs,e,k⟩:=h;unfold Dm.rIf at e;split at e
 ·cases e
 ·rename_i ρ1 ht;exact⟨H0,ρ,true,ρ1,rs,ht,fun H0' H' u=>by show (if true=true then _ else _);rw[if_pos rfl];exact⟨H0',ρ1,ρ',u.st,e,fun σ'' a jF H'' w=>k σ'' a jF H'' (u.sst.trans w)⟩⟩
 ·rename_i ρ1 ht;exact⟨H0,ρ,false,ρ1,rs,ht,fun H0' H' u=>by show (if false=true then _ else _);rw[if_neg (by decide)];exact⟨H0',ρ1,ρ',u.st,e,fun σ'' a jF H'' w=>k σ'' a jF H'' (u.sst.trans w)⟩⟩
theorem K1{c:Expr}{a b:List Stmt}{pos:Pos}(hc:DT X c t)(ha:YB X C E a R)(hb:YB X C E b S):YS X C E (.If c a b pos) (Dm.rIf t R S):=PS.weak (zH hc ha hb) fun _ _ _ q=>K0 q
theorem K2:YB X C E sts Dm.rNo:=fun yZ s σ H D I h=>by obtain⟨_,_,_,_,e,_⟩:=h;cases e
end
end
theorem A_{X:Cx}{body:List Stmt}{h0:ExceptHandler}{hs:List ExceptHandler}{q:FS}{pos:Pos}(hb:∀(pn:List (Addr×Obj)) (xe:Value->Shared->Prop),DSs (Cx.in' X pn xe) body q):DS X (.Try body (h0::hs) [] [] pos) q:=by
 intro yZ s σ H D I hq;refine wpAny_Try_except ?_;refine wpAny_mono (hb yZ _ [] s σ H D (vH I) hq) (fun f s1 z=>?_) fun _ _ z=>z;cases f with
 |next=>obtain⟨σ',H',J,k⟩:=z;exact wpAny_execs_nil ⟨σ',H',fX J,k⟩
 |ret v=>obtain⟨u,σ',H',J,r,k⟩:=z;exact⟨u,σ',H',fX J,r,k⟩
 |brk=>obtain⟨σ',H',J,k⟩:=z;exact⟨σ',H',fX J,k⟩
 |cont=>obtain⟨σ',H',J,k⟩:=z;exact⟨σ',H',fX J,k⟩
section
variable{X:Cx}{yZ pn:List (Addr×Obj)}{σ:L2.St}{H:Hp}{s:Shared}{xe:Value->Shared->Prop}
theorem Ba{x n:Str}{np hpos pos:Pos}{body suite:List Stmt}{b₀:Stmt}{R:Dm.Env->Option Dm.Env}{h:FS}{C CP:Addr}{ie:Nat}
  (hst:X.stack=X.env::X.outer) (hfr:X.env.frame=some X.env.locals) (hex:X.ex=[]) (hN:X.N.Nodup) (hi:X.N[ie]?=some n) (hk:X.env.kindOf n=some .local) (hg:Gl X x) (hm:X.mg x=some (.ref CP)) (Z:PySem.W.fW X.K C CP)
  (hb:∀(pn:List (Addr×Obj)) (xe:Value->Shared->Prop) (E:L2.St->XK),xA C (Cx.in' X pn xe) E->YB (Cx.in' X pn xe) C E body R)
  (hh:∀(A':Around) (xe:Value->Shared->Prop),DSs (Cx.sub' X A' xe) (b₀::suite) h) (Lh:(x == ("__debug__" : Str))=false:=by decide) :
  DS X (.Try body [.ExceptHandler (some (.Name x np)) (some n) (b₀::suite) hpos] [] [] pos) (Dm.iJ R C ie h):=by
 intro yZ s σ H D I hq;obtain⟨H0,ρ,o,st,e,ok⟩:=hq;unfold Dm.iJ at e;split at e
 ·cases e
 rename_i ρ1 hR;split at e
 ·cases e
 rename_i h0;refine wpAny_Try_except ?_;refine wpAny_mono (hb yZ (fun e s₁=>wpAny (model X.prog X.w) X.A (noteFrame e X.env) (fun _ s₂=>wpAny (model X.prog X.w) X.A (setFlight e none) (fun _ s₃=>wpAny (model X.prog X.w) X.A (handleBy e X.env [.ExceptHandler (some (.Name x np)) (some n) (b₀::suite) hpos]) (SP X yZ D) X.xe s₃) X.xe s₂) X.xe s₁)
  (fun σ' _ _ H'=>∃H0',SSt σ ρ H0 H σ' ρ1 H0' H') ?pass [] s σ H DF (vH I) ⟨H0,ρ,ρ1,st,hR,fun σ' a H0' H' t=>⟨H0',t⟩⟩) ?q fun _ _ z=>z
 case q=>
  intro f s1 z;cases f with
  |next=>obtain⟨_,_,_,q⟩:=z;exact NH q
  |ret v=>obtain⟨_,_,_,_,_,q⟩:=z;exact NH q
  |brk=>obtain⟨_,_,_,q⟩:=z;exact NH q
  |cont=>obtain⟨_,_,_,q⟩:=z;exact NH q
 case pass=>
  intro K3 σ1 H1 s1 e s' I1 hq;obtain⟨ea,a0,B,H',rfl,os,bare,un,hok,fl,hB,H0',t1⟩:=hq;obtain⟨hh',g,d,t,os'⟩:=s';obtain rfl:os'=s1.os:=os;have J:Inv X yZ σ1 H' ⟨hh',g,d,t,s1.os⟩:=fX (I1.call (h':=hh') (g':=g) (d':=d) (t':=t) (ch:=[]) un hok bare (fun b z=>absurd z (by simp)));have J1:Inv X yZ σ1 H1 s1:=fX I1;have vK:∀b o,X.s₀.heap.get? b=some o->∃o1,s1.heap.get? b=some o1:=fun b o e=>J1.base.there b o e (by rw[hex];exact fun z=>nomatch z);have hB':∀b o,hh'.get? b=some o->b∉frs X.stack->((X.s₀.heap.get? b).isSome=true\/(H' b).isSome=true\/∃p∈X.pn++yZ,p.1=b)->B.get? b=some o:=fun b o e nb hc=>by
   refine hB b o e ?_ nb;rcases hc with hc | hc | ⟨p,hp,rfl⟩
   ·obtain⟨o0,e0⟩:=NR.mp hc;obtain⟨o1,e1⟩:=vK b o0 e0;exact .inl (by rw[e1];rfl)
   ·exact .inr hc
   ·exact .inl (by rw[(J1.pin p hp).1];rfl)
  have hfs:X.A.frames=some (X.env::X.outer):=by rw[J.ok.frames,hst]
  have fl':Pq B (X.env::X.outer) ea (.ref C) a0 hh':=by rw[<- hst];exact fl
  show wpAny (model X.prog X.w) X.A (noteFrame (.ref ea) X.env) _ _ _;refine wpAny_looks_onW (base:=B) (L:=X.env.locals) hfs hfr fl' fun h4 held sl4=>?_;refine wpAny_landsW held fun h5 fl5 sl5=>?_;have J5:Inv X yZ σ1 H' ⟨h5,g,d,t,s1.os⟩:=J.fly (t':=t) hex hB' fl5.1 (sl4.trans sl5);obtain⟨oe,vs,he,hc,hd,_⟩:=fl'.first
  have neF:ea∉frs X.stack:=fun z=>by rw[hst]at z;obtain⟨_,o',ho',hd'⟩:=fl'.2.2.1.mem z;rw[he]at ho';cases ho';exact hd' vs hd
  have noB:B.get? ea=none:=fl'.2.1;have nH:H' ea=none:=by
   cases q:H' ea with
   |none=>rfl
   |some u=>have:=hB' ea oe he neF (.inr (.inl (by rw[q];rfl)));rw[noB]at this;cases this
  have n0:X.s₀.heap.get? ea=none:=by
   cases q:X.s₀.heap.get? ea with
   |none=>rfl
   |some u=>have:=hB' ea oe he neF (.inl (by rw[q];rfl));rw[noB]at this;cases this
  have nl:ea≠X.env.locals:=fun z=>by obtain⟨m,⟨o,es,ep,ho,hd',_⟩,_⟩:=J.loc;rw[<- z,he]at ho;cases ho;rw[hd]at hd';cases hd'
  have nc:∀y c,X.env.cells.lookup y=some c->c≠ea:=fun y c e z=>by obtain⟨v,o,ho,hd'⟩:=J.cell y c e;rw[z,he]at ho;cases ho;rw[hd]at hd';cases hd'
  have np:∀p∈X.pn++yZ,p.1≠ea:=fun p hp z=>by have:=hB' ea oe he neF (.inr (.inr ⟨p,hp,z⟩));rw[noB]at this;cases this
  have hB5:∀b o,h5.get? b=some o->b∉frs X.stack->((X.s₀.heap.get? b).isSome=true\/(H' b).isSome=true\/∃p∈X.pn++yZ,p.1=b)->B.get? b=some o:=fun b o e nb Lp=>by
   have:∃o',hh'.get? b=some o':=by
    rcases Lp with hc | hc | ⟨p,hp,rfl⟩
    ·obtain⟨o0,e0⟩:=NR.mp hc;exact J.base.there b o0 e0 (by rw[hex];exact fun z=>nomatch z)
    ·obtain⟨u,e0⟩:=NR.mp hc;exact(J.hok b u e0).there
    ·exact⟨_,(J.pin p hp).1⟩
   obtain⟨o',e'⟩:=this;have q:=hB' b o' e' nb Lp;have q2:=fl5.1 b o' q;rw[e]at q2;cases q2;exact q
  obtain⟨oe5,he5,hc5⟩:=fl5.there;refine wpAny_handleBy_cons (codeAny_handlers_test ?_) (by intro q;cases q);refine fC (X:=Cx.sub' X (X.A.mark (some (.ref ea))) X.xe) (ng rfl J5) hg hm ?_ Lh;refine PySem.W.mE Z J5.kIn ⟨oe5,he5,hc5⟩ ?_;refine codeAny_handlers_suite_as ?_;refine lands_againW fl5 fun h6 fl6 sl6=>?_;have J6:Inv X yZ σ1 H' ⟨h6,g,d,t,s1.os⟩:=J5.fly (t':=t) hex hB5 fl6.1 sl6;obtain⟨oe6,he6,hc6⟩:=fl6.there;have J7:=J6.A5 (o:=φX ea C) nH (φX_ok he6 hc6) n0 nl nc np;refine jf J7 hN hi (.inl hk) (v:=.ref ea) rfl (fun s8 J8 _=>?_) (.inr hk);have t12:SSt σ ρ H0 H σ1 ρ1 (upd H0' ea (φX ea C)) (upd H' ea (φX ea C)):=t1.trans (ESt.grow t1.st (aX.yE t1.st.same nH)).sst;have rep:Rep (upd H0' ea (φX ea C)) (V.ref ea) (.exc C):=.exc au;have rF:SSt σ1 ρ1 (upd H0' ea (φX ea C)) (upd H' ea (φX ea C)) (σ1.set ie (some (.ref ea))) (ρ1.set ie (.sh (.exc C))) (upd H0' ea (φX ea C)) (upd H' ea (φX ea C)):=
   ⟨t12.st.nN rep,Stp.refl _ _ _,fun a z=>.inl (dW z),gc h0⟩
  have Ll:∀(oh:Dm.Out),h (ρ1.set ie (.sh (.exc C)))=some oh->(∀(D':Ends),(∀σ' H3,(∃ρ' H03,oh=.nx ρ'/\SSt (σ1.set ie (some (.ref ea))) (ρ1.set ie (.sh (.exc C))) (upd H0' ea (φX ea C)) (upd H' ea (φX ea C)) σ' ρ' H03 H3)->D'.nx σ' H3)->(∀v H3,(∃z ρ' σ' H03,oh=.ret z ρ'/\SSt (σ1.set ie (some (.ref ea))) (ρ1.set ie (.sh (.exc C))) (upd H0' ea (φX ea C)) (upd H' ea (φX ea C)) σ' ρ' H03 H3/\sZ (σ1.set ie (some (.ref ea))) (ρ1.set ie (.sh (.exc C))) (upd H' ea (φX ea C)) H03 H3 v z/\∀d a,z=.new d->v=.ref a->¬aE σ' ρ' a)->D'.rt v H3)->(∀ρ',oh≠.bk ρ')->(∀ρ',oh≠.ct ρ')->mh D' (σ1.set ie (some (.ref ea))) (ρ1.set ie (.sh (.exc C))) (upd H0' ea (φX ea C)) (upd H' ea (φX ea C)) oh):=fun oh _ D' hn hr hb hc=>by
   cases oh with
   |nx ρ'=>exact fun σ' H03 H3 tt=>hn σ' H3 ⟨ρ',H03,rfl,tt⟩
   |bk ρ'=>exact absurd rfl (hb ρ')
   |ct ρ'=>exact absurd rfl (hc ρ')
   |ret z ρ'=>exact fun σ' v H03 H3 tt rr no=>hr v H3 ⟨z,ρ',σ',H03,rfl,tt,rr,no⟩
  cases hoh:h (ρ1.set ie (.sh (.exc C))) with
  |none=>rw[hoh]at e;cases e
  |some oh=>
  rw[hoh]at e;have nb:∀ρ',oh≠.bk ρ':=fun ρ' z=>by rw[z]at e;cases e
  have nc':∀ρ',oh≠.ct ρ':=fun ρ' z=>by rw[z]at e;cases e
  refine wpAny_mono (hh (X.A.mark (some (.ref ea))) _ yZ s8 _ _ { nx:=fun σ' H3=>∃ ρ' H03,oh=.nx ρ'∧SSt (σ1.set ie (some (.ref ea))) (ρ1.set ie (.sh (.exc C))) (upd H0' ea (φX ea C)) (upd H' ea (φX ea C)) σ' ρ' H03 H3,rt:=fun v H3=>∃ z ρ' σ' H03,oh=.ret z ρ'∧SSt (σ1.set ie (some (.ref ea))) (ρ1.set ie (.sh (.exc C))) (upd H0' ea (φX ea C)) (upd H' ea (φX ea C)) σ' ρ' H03 H3∧sZ (σ1.set ie (some (.ref ea))) (ρ1.set ie (.sh (.exc C))) (upd H' ea (φX ea C)) H03 H3 v z∧∀ d a,z=.new d→v=.ref a→¬ aE σ' ρ' a,bk:=fun _ _=>False,ct:=fun _ _=>False } (ng rfl J8)
   ⟨_,_,_,rF.st,hoh,Ll oh hoh _ (fun _ _ z=>z) (fun _ _ z=>z) nb nc'⟩) (fun f s4 z=>?_) fun _ _ z=>z
  cases f with
  |next=>obtain⟨σ',H3,I4,ρ',H03,rfl,tt⟩:=z;cases e;refine name_goes (jl J.ok I4) hN hi hk fun s9 J9=>?_;exact⟨σ'.set ie none,H3,J9,ok _ _ _ (t12.trans (rF.trans (tt.trans (SSt.drop tt.st h0))))⟩
  |ret v=>
   obtain⟨u,σ0,H3,I4,rl,z,ρ',σ',H03,rfl,tt,rr,no⟩:=z;cases e;refine name_goes (jl J.ok I4) hN hi hk fun s9 J9=>?_;refine⟨u,σ0.set ie none,H3,J9,rl,ok _ _ _ _ (t12.trans (rF.trans (tt.trans (SSt.drop tt.st h0)))) ?_ ?_⟩
   ·cases z with
    |val d=>exact rr
    |new d=>
     obtain⟨a,ea',n,n0',w⟩:=rr;refine⟨a,ea',?_,n0',w⟩;have tp:=t12.trans rF;rcases n with n | n
     ·exact .inl (tp.stp.gone n)
     ·exact(tp.own a n).symm
   ·intro d a hz hv ho;obtain⟨j,d',h1,h2⟩:=ho;refine no d a hz hv ?_;by_cases hj:ie=j
    ·subst hj;rw[ON]at h1;simp only[if_true]at h1;split at h1<;>cases h1
    ·rw[gc hj]at h1 h2;exact⟨j,d',h1,h2⟩
  |brk=>obtain⟨_,_,_,q⟩:=z;exact NH q
  |cont=>obtain⟨_,_,_,q⟩:=z;exact NH q
end
theorem K4{C:Addr}{N:List Str}{n m:Nat}{R:Dm.Env->Option Dm.Env}{vs:List V}{H:Hp}{Q:VK}{E:XK}(hm:N.length=n+m)(h:spX C (Dm.fnX n m R) vs H Q E):tY C (fun _=>E) R (start N vs) H:=by have hvn:=xB h;obtain⟨H0,ds,s,rs,e,k⟩:=h;unfold Dm.fnX at e;rw[NF]at e;obtain⟨st,no⟩:=tR hm hvn s rs;obtain⟨ρ',hR⟩:=NR.mp e.2;exact⟨H0,_,ρ',st,hR,fun σ' a H0' H' t=>k a H0' H' ⟨t.stp.s0,fun a o e=>t.stp.s1 a o e (no a),fun a o e=>(t.stp.s2 a o e).imp id fun q=>q.elim id fun z=>absurd z (no a),t.st.same⟩⟩
theorem okY{P:Program}{w:World}{K:eg}{mg:Str->Option Value}{base:Heap}{x qual:Str}{st:Stmt}{f C:Addr}{fd:FuncData}{N ps:List Str}{k n m:Nat}{R:Dm.Env->Option Dm.Env}(F:Fun K x qual st f fd)(S:aP N ps (ai st))(hn:ps.length=n)(hm:N.length=n+m)
  (hbody:∀(cdv:Value) (A:Around) (outer:List Env) (s:Shared) (H:Hp) (E:XK),bK k (A.deeper (envOfC qual (ai st) s.heap.objs.size f cdv))->YB (dF (CXE P w C) P w K mg base N qual (ai st) f cdv A outer s H E) C (fun _=>E) (bD st) R) :
  bH P w K mg base (CXE P w C) (k+1) f fd ps (spX C (Dm.fnX n m R)):=by
 obtain⟨oc,od,kV,doc,pm,an,cdv,ct,osl,rfl,lk,Lp⟩:=F.ex;refine wN lk Lp S (fun vs H Q E h=>(xB h).trans hn.symm) fun A outer s H vs Q E hr hsp=>?_;exact⟨_,hbody cdv A outer s H E hr,K4 hm hsp⟩
section
variable{X:Cx}{C:Nat}{b:Bool}{cs:List Nat}{bs:List Bool}{e:Expr}{f:FE}
theorem bh(h1:DE X e (Dm.e1 (Dm.mZ C b) f))(h2:DE X e (Dm.e1 (Dm.bW cs bs) f)):DE X e (Dm.e1 (Dm.bW (C::cs) (b::bs)) f):=fun yZ s σ H Q I q=>by
 obtain⟨H0,ρ,x,ρ',st,e0,k⟩:=q;have e:=e0;unfold Dm.e1 at e;split at e
 ·cases e
 rename_i x1 ρ1 e1;split at e
 ·cases e
 rename_i dx p1;cases dx with
 |exc D=>
  by_cases hD:D=C
  ·refine h1 yZ s σ H Q I ⟨H0,ρ,x,ρ',st,?_,k⟩;unfold Dm.e1;rw[e1];dsimp only;rw[p1];dsimp only;rw[<- e];unfold Dm.mZ Dm.bW Dm.lQ;dsimp only;rw[if_pos hD,if_pos hD];rfl
  ·refine h2 yZ s σ H Q I ⟨H0,ρ,x,ρ',st,?_,k⟩;unfold Dm.e1;rw[e1];dsimp only;rw[p1];dsimp only;rw[<- e];unfold Dm.bW;dsimp only;rw[Dm.lQ.eq_def (C::cs)];dsimp only;rw[if_neg hD]
 |bC D mv=>
  by_cases hD:D=C
  ·refine h1 yZ s σ H Q I ⟨H0,ρ,x,ρ',st,?_,k⟩;unfold Dm.e1;rw[e1];dsimp only;rw[p1];dsimp only;rw[<- e];unfold Dm.mZ Dm.bW Dm.lQ;dsimp only;rw[if_pos hD,if_pos hD];rfl
  ·refine h2 yZ s σ H Q I ⟨H0,ρ,x,ρ',st,?_,k⟩;unfold Dm.e1;rw[e1];dsimp only;rw[p1];dsimp only;rw[<- e];unfold Dm.bW;dsimp only;rw[Dm.lQ.eq_def (C::cs)];dsimp only;rw[if_neg hD]
 |_=>cases e
theorem fM:DE X e (Dm.e1 (Dm.bW [] []) f):=fun yZ s σ H Q I q=>by
 obtain⟨H0,ρ,x,ρ',st,e,k⟩:=q;unfold Dm.e1 at e;split at e
 ·cases e
 split at e
 ·cases e
 rename_i dx p1;cases dx<;>cases e
end
end Br
namespace Dm
noncomputable def codes(s:String):List Nat:=s.toList.map Char.toNat
noncomputable def shJ:List (List Nat)->List Nat
 |[]=>[]
 |[x]=>x
 |x::y::r=>x++44::32::shJ (y::r)
mutual
noncomputable def shw:Dat->List Nat
 |.non=>codes "None"
 |.bl b=>codes (if b then "True" else "False")
 |.int i=>codes (toString i)
 |.str s=>39::(s++[39])
 |.tup xs=>40::(shJ (g9 xs)++(if xs.length == 1 then [44,41] else [41]))
 |.lst xs=>91::(shJ (g9 xs)++[93])
 |_=>[]
noncomputable def g9:List Dat->List (List Nat)
 |[]=>[]
 |x::r=>shw x::g9 r
end
mutual
noncomputable def jr:Nat->Dat->Bool
 |_,.non=>true
 |_,.bl _=>true
 |_,.int i=>decide (i.natAbs<10 ^ 100)
 |_,.str s=>decide (s=[115,105,110,99,101]\/s=[110,101,118,101,114]\/s=[53]\/s=[48]\/s=[53,58,48,45,48]\/s=[])
 |n+1,.tup xs=>ff n xs
 |n+1,.lst xs=>ff n xs
 |_,_=>false
noncomputable def ff:Nat->List Dat->Bool
 |_,[]=>true
 |n,x::r=>jr n x&&ff n r
end
mutual
noncomputable def rG:Dat->Nat
 |.tup xs=>1+t8 xs
 |.lst xs=>1+t8 xs
 |_=>1
noncomputable def t8:List Dat->Nat
 |[]=>0
 |x::r=>rG x+t8 r
end
noncomputable def Bb:List Dat->Option RV
 |[.tup xs]=>if jr 8 (.tup xs)=true/\rG (.tup xs)<=900 then some (.val (.str (shw (.tup xs)))) else none
 |[.lst xs]=>if jr 8 (.lst xs)=true/\rG (.lst xs)<=900 then some (.val (.str (shw (.lst xs)))) else none
 |_=>none
theorem repr_len{n:Nat}(h:n<10 ^ 100):n.repr.toList.length<=100:=by rw[Nat.toList_repr];exact(Nat.length_toDigits_le_iff (by decide) (by decide)).mpr h
theorem t9{i:Int}(h:i.natAbs<10 ^ 100):(shw (.int i)).length<=101:=by
 unfold shw codes;rw[NI,Int.toString_eq_repr];unfold Int.repr;cases i with
 |ofNat m=>exact Nat.le_succ_of_le (repr_len h)
 |negSucc m=>
  dsimp only;rw[String.toList_append,NL];have:=repr_len (n:=m.succ) h;show 1+_<=101
  lia
theorem rH:∀l:List (List Nat),(shJ l).length<=(l.map fun x=>x.length+2).sum
 |[]=>Od _
 |[x]=>by simp[shJ]
 |x::y::r=>by
  have:=rH (y::r);unfold shJ;simp only[NL,NZ,Nv,List.sum_cons]at this ⊢
  lia
mutual
theorem rJ:∀(n:Nat) (d:Dat),jr n d=true->(shw d).length+2<=110*rG d
 |_,.non,_=>by decide
 |_,.bl b,_=>by cases b<;>decide
 |n,.int i,h=>by
  have:=t9 (i:=i) (by cases n<;>exact of_decide_eq_true h);unfold rG
  lia
 |n+1,.tup xs,h=>by have:=ou n xs h;have j:=rH (g9 xs);unfold shw rG;simp only[NZ,NL];split<;>simp<;>lia
 |n+1,.lst xs,h=>by
  have:=ou n xs h;have j:=rH (g9 xs);unfold shw rG;simp only[NZ,NL];simp
  lia
 |0,.tup xs,h=>by cases h
 |0,.lst xs,h=>by cases h
 |n,.str s,h=>by
  have h:s=[115,105,110,99,101]\/s=[110,101,118,101,114]\/s=[53]\/s=[48]\/s=[53,58,48,45,48]\/s=[]:=by cases n<;>exact of_decide_eq_true h
  rcases h with rfl | rfl | rfl | rfl | rfl | rfl<;>decide
 |0,.dct _ _,h=>by cases h
 |0,.dcp _ _,h=>by cases h
 |_+1,.dct _ _,h=>by cases h
 |_+1,.dcp _ _,h=>by cases h
 |0,.exc _,h=>by cases h
 |0,.bC _ _,h=>by cases h
 |_+1,.exc _,h=>by cases h
 |_+1,.bC _ _,h=>by cases h
 |0,.fn _,h=>by cases h
 |_+1,.fn _,h=>by cases h
theorem ou:∀(n:Nat) (xs:List Dat),ff n xs=true->((g9 xs).map fun x=>x.length+2).sum<=110*t8 xs
 |_,[],_=>by simp[g9]
 |n,x::r,h=>by
  unfold ff at h;rw[NF]at h;have a:=rJ n x h.1;have b:=ou n r h.2;unfold g9 t8;simp only[Nv,List.sum_cons]
  lia
end
end Dm
namespace Br
open PySem PySem.Spec PyProof.Rows L2
mutual
noncomputable def pyD:Dat->PyData
 |.bl b=>.bool b
 |.int i=>.int i
 |.str s=>.str ⟨s.toArray⟩
 |.tup xs=>.tuple (jt xs)
 |.lst xs=>.list (jt xs)
 |_=>.none
noncomputable def jt:List Dat->List PyData
 |[]=>[]
 |x::r=>pyD x::jt r
end
theorem t_:∀xs:List Dat,(jt xs).length=xs.length
 |[]=>rfl
 |x::r=>by simp[jt,t_ r]
theorem d7(s:String):Str.ofString s=⟨(Dm.codes s).toArray⟩:=Str.ofString_eq_toList s
theorem gK(a b:List Nat):((⟨a.toArray⟩:Str)++(⟨b.toArray⟩:Str))=⟨(a++b).toArray⟩:=by show Str.append _ _=_;unfold Str.append;simp
theorem oz:∀l:List (List Nat),Str.join ", " (l.map fun x=>(⟨x.toArray⟩:Str))=⟨(Dm.shJ l).toArray⟩
 |[]=>rfl
 |[x]=>rfl
 |x::y::r=>by have:=oz (y::r);show (⟨x.toArray⟩:Str)++(", " : Str)++Str.join ", " ((y::r).map fun x=>(⟨x.toArray⟩:Str))=_;rw[this];have e:((", " : String):Str)=⟨[44,32].toArray⟩:=d7 ", ";rw[e,gK x [44,32],gK (x++[44,32]) (Dm.shJ (y::r))];simp[Dm.shJ]
mutual
theorem ua:∀(n:Nat) (d:Dat),Dm.jr n d=true->(pyD d).shown=⟨(Dm.shw d).toArray⟩
 |_,.non,_=>by unfold pyD;rw[PyData.shown_none];exact d7 "None"
 |_,.bl b,_=>by
  unfold pyD;rw[PyData.shown_bool];cases b
  ·exact d7 "False"
  ·exact d7 "True"
 |_,.int i,_=>by unfold pyD;rw[PyData.shown_int];exact d7 (toString i)
 |n+1,.tup xs,h=>by
  unfold pyD;rw[PyData.shown_tuple,lR n xs h,oz,t_];have e1:(("(" : String):Str)=⟨[40].toArray⟩:=d7 "(";rw[e1,gK [40] (Dm.shJ (Dm.g9 xs))];unfold Dm.shw;by_cases q:(xs.length == 1)=true
  ·rw[if_pos q,if_pos q];have e2:((",)" : String):Str)=⟨[44,41].toArray⟩:=d7 ",)";rw[e2,gK ([40]++Dm.shJ (Dm.g9 xs)) [44,41]];simp
  ·rw[if_neg q,if_neg q];have e2:((")" : String):Str)=⟨[41].toArray⟩:=d7 ")";rw[e2,gK ([40]++Dm.shJ (Dm.g9 xs)) [41]];simp
 |n+1,.lst xs,h=>by unfold pyD;rw[PyData.shown_list,lR n xs h,oz];have e1:(("[" : String):Str)=⟨[91].toArray⟩:=d7 "[";have e2:(("]" : String):Str)=⟨[93].toArray⟩:=d7 "]";rw[e1,e2,gK [91] (Dm.shJ (Dm.g9 xs)),gK ([91]++Dm.shJ (Dm.g9 xs)) [93]];unfold Dm.shw;simp
 |0,.tup xs,h=>by cases h
 |0,.lst xs,h=>by cases h
 |n,.str s,h=>by
  have h:s=[115,105,110,99,101]\/s=[110,101,118,101,114]\/s=[53]\/s=[48]\/s=[53,58,48,45,48]\/s=[]:=by cases n<;>exact of_decide_eq_true h
  unfold pyD;rw[PyData.shown_str];rcases h with rfl | rfl | rfl | rfl | rfl | rfl<;>decide +kernel
 |0,.dct _ _,h=>by cases h
 |0,.dcp _ _,h=>by cases h
 |_+1,.dct _ _,h=>by cases h
 |_+1,.dcp _ _,h=>by cases h
 |0,.exc _,h=>by cases h
 |0,.bC _ _,h=>by cases h
 |_+1,.exc _,h=>by cases h
 |_+1,.bC _ _,h=>by cases h
 |0,.fn _,h=>by cases h
 |_+1,.fn _,h=>by cases h
theorem lR:∀(n:Nat) (xs:List Dat),Dm.ff n xs=true->PyData.shownAll (jt xs)=(Dm.g9 xs).map fun x=>(⟨x.toArray⟩:Str)
 |_,[],_=>by unfold jt Dm.g9;rw[PyData.shownAll_nil];rfl
 |n,x::r,h=>by unfold Dm.ff at h;rw[NF]at h;unfold jt Dm.g9;rw[PyData.shownAll_cons,ua n x h.1,lR n r h.2];rfl
end
mutual
theorem Bc:∀(n:Nat) (d:Dat),Dm.jr n d=true->(pyD d).showable=true/\(pyD d).hasDict=false/\(pyD d).depth<=n
 |_,.non,_=>by unfold pyD O5 O8 PyData.depth;exact⟨rfl,rfl,Od _⟩
 |_,.bl b,_=>by unfold pyD O5 O8 PyData.depth;exact⟨rfl,rfl,Od _⟩
 |n,.int i,h=>by
  unfold pyD O5 O8 PyData.depth;refine⟨decide_eq_true ?_,rfl,Od _⟩;have hi:i.natAbs<10 ^ 100:=by cases n<;>exact of_decide_eq_true h
  by_cases z:i.natAbs=0
  ·rw[z];decide
  ·exact(QV z).mpr (Qw hi (by decide))
 |n+1,.tup xs,h=>by obtain⟨h1,h2,h3⟩:=fits_of n xs h;unfold pyD O5 O8 PyData.depth;exact⟨h1,h2,by lia⟩
 |n+1,.lst xs,h=>by obtain⟨h1,h2,h3⟩:=fits_of n xs h;unfold pyD O5 O8 PyData.depth;exact⟨h1,h2,by lia⟩
 |0,.tup xs,h=>by cases h
 |0,.lst xs,h=>by cases h
 |n,.str s,h=>by unfold pyD O5 O8 PyData.depth;exact⟨rfl,rfl,Od _⟩
 |0,.dct _ _,h=>by cases h
 |0,.dcp _ _,h=>by cases h
 |_+1,.dct _ _,h=>by cases h
 |_+1,.dcp _ _,h=>by cases h
 |0,.exc _,h=>by cases h
 |0,.bC _ _,h=>by cases h
 |_+1,.exc _,h=>by cases h
 |_+1,.bC _ _,h=>by cases h
 |0,.fn _,h=>by cases h
 |_+1,.fn _,h=>by cases h
theorem fits_of:∀(n:Nat) (xs:List Dat),Dm.ff n xs=true->Qi (jt xs)=true/\Qq (jt xs)=false/\OL (jt xs)<=n
 |_,[],_=>by unfold jt Qi Qq OL;exact⟨rfl,rfl,Od _⟩
 |n,x::r,h=>by unfold Dm.ff at h;rw[NF]at h;obtain⟨a1,a2,a3⟩:=Bc n x h.1;obtain⟨b1,b2,b3⟩:=fits_of n r h.2;unfold jt Qi Qq OL;exact⟨by rw[a1,b1];rfl,by rw[a2,b2];rfl,Nat.max_le.mpr ⟨a3,b3⟩⟩
end
section
variable{yZ:List (Addr×Obj)}{s:Shared}{σ:L2.St}{H:Hp}{X:Cx}
mutual
theorem uc(I:Inv X yZ σ H s):∀(n:Nat) (d:Dat) (v:V) (u:Value),Dm.jr n d=true->Rep H v d->RelV v u->∃as,Reads s.heap u (pyD d) as
 |_,.non,v,u,_,r,q=>by cases r;cases q;unfold pyD;exact⟨_,.none⟩
 |_,.bl b,v,u,_,r,q=>by cases r;cases q;unfold pyD;exact⟨_,.bool b⟩
 |_,.int i,v,u,_,r,q=>by cases r;obtain⟨t,rfl⟩:=q;unfold pyD;exact⟨_,.int i t⟩
 |n+1,.tup ds,v,u,h,r,q=>by
  cases r with
  |@tup a xs _ hq rs=>cases q;obtain⟨its,rv,⟨o,ho,hc,m,hd⟩,hz⟩:=I.tuple (SqT.of (K:=X.K) hq);obtain⟨as,ha⟩:=lS I n ds xs its h rs rv;unfold pyD;exact⟨as,.tuple ho hc hd (by simpa using ha)⟩
 |n+1,.lst ds,v,u,h,r,q=>by
  cases r with
  |@lst a xs _ hq rs=>cases q;obtain⟨its,rv,⟨o,m,ho,hc,_,hd⟩,hz⟩:=I.list (.inl hq);obtain⟨as,ha⟩:=lS I n ds xs its h rs rv;unfold pyD;exact⟨_,.list ho hc hd (by simpa using ha)⟩
 |0,.tup xs,_,_,h,_,_=>by cases h
 |0,.lst xs,_,_,h,_,_=>by cases h
 |n,.str s,v,u,_,r,q=>by cases r;obtain⟨t,rfl⟩:=q;unfold pyD;exact⟨_,.str _ t⟩
 |0,.dct _ _,_,_,h,_,_=>by cases h
 |0,.dcp _ _,_,_,h,_,_=>by cases h
 |_+1,.dct _ _,_,_,h,_,_=>by cases h
 |_+1,.dcp _ _,_,_,h,_,_=>by cases h
 |0,.exc _,_,_,h,_,_=>by cases h
 |0,.bC _ _,_,_,h,_,_=>by cases h
 |_+1,.exc _,_,_,h,_,_=>by cases h
 |_+1,.bC _ _,_,_,h,_,_=>by cases h
 |0,.fn _,_,_,h,_,_=>by cases h
 |_+1,.fn _,_,_,h,_,_=>by cases h
theorem lS(I:Inv X yZ σ H s):∀(n:Nat) (ds:List Dat) (vs:List V) (us:List Value),Dm.ff n ds=true->aR H vs ds->Vals vs us->∃as,ReadsAll s.heap us (jt ds) as
 |_,[],vs,us,_,r,q=>by cases r;cases q;unfold jt;exact⟨_,.nil⟩
 |n,d::ds,vs,us,h,r,q=>by
  cases r with
  |cons r rs=>
   cases q with
   |cons q qs=>unfold Dm.ff at h;rw[NF]at h;obtain⟨as,ha⟩:=uc I n d _ _ h.1 r q;obtain⟨bs,hb⟩:=lS I n ds _ _ h.2 rs qs;unfold jt;exact⟨_,.cons ha hb⟩
end
end
def Ic:List V->Hp->VK->Prop:=fun xs H Q=>∃(a:Addr) (d:Dat),xs=[.ref a]/\Dm.jr 8 d=true/\(Dm.shw d).length<=sizeLine/\Rep H (.ref a) d/\Q (.str ⟨(Dm.shw d).toArray⟩) H
theorem ud{X:Cx}{k:Nat}(hr:bK k X.A):fy X (.type "str") Ic:=by intro yZ s σ H xs us Q I r h;obtain⟨a,d,rfl,hd,hz,rd,q⟩:=h;obtain⟨u,rfl,rx⟩:=vals1 r;cases rx;obtain⟨as,ha⟩:=uc I 8 d _ _ hd rd rfl;obtain⟨f1,f2,f3⟩:=Bc 8 d hd;have sh:=ua 8 d hd;have un:=hr.un;refine str_of_reads ha f1 (fun z=>by rw[f2]at z;cases z) hr.gd (by lia) (fun _ _ e=>e) (fun h' u tk kp=>?_) (by rw[sh];exact Oe (by show (Dm.shw d).toArray.size<=_;simp) hz);rw[sh];exact⟨.str ⟨(Dm.shw d).toArray⟩,H,I.kept (t':=tk) kp,⟨u,rfl⟩,q⟩
theorem Ie:CallD Ic Dm.Bb:=by
 intro H0 H vs ds z Q s rs e k;have sz:110*900<=sizeLine:=by decide
 unfold Dm.Bb at e;split at e
 ·split at e
  ·rename_i hk;cases e;cases rs with
   |cons r rr=>
    cases rr;rcases r with r | ⟨a,_,w⟩
    ·cases r with
     |tup q rs=>have rp:Rep H (.ref _) (.tup _):=.tup (s _ _ q) (rs.mono s);have:=Dm.rJ 8 _ hk.1;have h2:=hk.2;exact⟨_,_,rfl,hk.1,by lia,rp,k _ H0 H (aX.refl s) (.str _)⟩
    ·exact NH w
  ·cases e
 ·split at e
  ·rename_i hk;cases e;cases rs with
   |cons r rr=>cases rr;obtain⟨a,us,rfl,qa,ra⟩:=dG s r;have rp:Rep H (.ref a) (.lst _):=.lst qa (ra.mono s);have:=Dm.rJ 8 _ hk.1;have h2:=hk.2;exact⟨_,_,rfl,hk.1,by lia,rp,k _ H0 H (aX.refl s) (.str _)⟩
  ·cases e
 ·cases e
end Br
set_option maxHeartbeats 4000000
namespace Ts
open PySem PyProof.Rows
variable{A:Around}{E:Value->Shared->Prop}{s:Shared}{prog:Program}{w:World}
end Ts
namespace Br
open PySem PySem.Spec PyProof.Rows L2
theorem okQ{P:Program}{w:World}{K:eg}{mg:Str->Option Value}{base:Heap}{x qual:Str}{st:Stmt}{f:Addr}{fd:FuncData}{N ps:List Str}{k n m:Nat}{body:FS}(F:Fun K x qual st f fd)(S:aP N ps (ai st))
  (hb:∀(cdv:Value) (A:Around) (outer:List Env) (s:Shared) (H:Hp) (E:XK),bK k (A.deeper (envOfC qual (ai st) s.heap.objs.size f cdv))->DSs (dF CX0 P w K mg base N qual (ai st) f cdv A outer s H E).nox (bD st) body)
  (hn:ps.length=n:=by rfl) (hm:N.length=n+m:=by rfl):bH P w K mg base CX0 (k+1) f fd ps (spD (Dm.fn n m body)):=
 F.ok S (fun vs H Q E h=>(Ao h).trans hn.symm) fun cdv A outer s H vs Q E hr h=>⟨_,hb cdv A outer s H E hr,MC hm h⟩
end Br
namespace Dm
noncomputable def lT(f:FE)(m:Int)(ρ:Env):Option Env:=match f ρ with
 |some (.val (.int i),ρ1)=>if i=m then some ρ1 else none
 |_=>none
noncomputable def k8(R:Env->Option Env)(d:Dat)(ie:Nat)(h:FS):FS:=fun ρ=>match R ρ with
 |none=>none
 |some ρ1=>if ie=0 then none else match h (ρ1.set ie (.sh d)) with
  |some (.nx ρ')=>some (.nx (ρ'.set ie .un))
  |some (.ret r ρ')=>some (.ret r (ρ'.set ie .un))
  |_=>none
open Classical in
noncomputable def mH(R:Int->Env->Option Env)(C ie:Nat)(h:FS):FS:=fun ρ=>if e:∃m,(R m ρ).isSome=true then k8 (R e.choose) (.bC C e.choose) ie h ρ else none
noncomputable def Bd(C:Nat):Dat->Option RV
 |.bC C' v=>if C'=C then vI v else none
 |_=>none
noncomputable def iK:List Dat->Option RV
 |[.non]=>some (.val (.str (codes "None")))
 |[.bl b]=>some (.val (.str (codes (if b then "True" else "False"))))
 |[.int i]=>if i.natAbs<10 ^ 100 then some (.val (.str (codes (toString i)))) else none
 |[.str s]=>some (.val (.str s))
 |[.dct [] []]=>some (.val (.str (codes "{}")))
 |ds=>Bb ds
noncomputable def yS:List (List Nat×FE)->Env->Option (List (List Nat×Dat)×Env)
 |[],ρ=>some ([],ρ)
 |(k,f)::r,ρ=>match f ρ with
  |some (.val d,ρ1)=>match yS r ρ1 with
   |some (ds,ρ2)=>some ((k,d)::ds,ρ2)
   |none=>none
  |_=>none
noncomputable def Ea:Option Dat->List (List Nat×Dat)->List Nat->Option Dat
 |c,[],_=>c
 |c,(k,d)::r,s=>Ea (if s=k then some d else c) r s
noncomputable def Be(l:List (List Nat×FE))(fx:FE):FE:=fun ρ=>match yS l ρ with
 |none=>none
 |some (ds,ρ1)=>match fx ρ1 with
  |some (.val (.str s),ρ2)=>match Ea none ds s with
   |some d=>some (.val d,ρ2)
   |none=>none
  |_=>none
end Dm
namespace Br
open PySem PySem.Spec PyProof.Rows L2
def FF:List V->Hp->VK->Prop:=fun xs H Q=>(xs=[.non]/\Q (.str ⟨(Dm.codes "None").toArray⟩) H)\/(∃b,xs=[.bl b]/\Q (.str ⟨(Dm.codes (if b then "True" else "False")).toArray⟩) H)\/(∃i:Int,xs=[.int i]/\i.natAbs<10 ^ 100/\Q (.str ⟨(Dm.codes (toString i)).toArray⟩) H) \/
 (∃s,xs=[.str s]/\Q (.str s) H)\/(∃a,xs=[.ref a]/\H a=some (.dK [])/\Q (.str ⟨(Dm.codes "{}").toArray⟩) H)\/Ic xs H Q
theorem yT{X:Cx}{k:Nat}(hr:bK k X.A):fy X (.type "str") FF:=by
 intro yZ s σ H xs us Q I r h;rcases h with⟨rfl,q⟩ | ⟨b,rfl,q⟩ | ⟨i,rfl,hi,q⟩ | ⟨x,rfl,q⟩ | ⟨a,rfl,ha,q⟩ | h
 ·obtain⟨u,rfl,rx⟩:=vals1 r;cases rx;exact P.str_of_none ⟨.str ⟨(Dm.codes "None").toArray⟩,H,I.tok _,⟨_,congrArg (Value.str · _) (d7 "None")⟩,q⟩
 ·obtain⟨u,rfl,rx⟩:=vals1 r;cases rx;refine P.str_of_bool ⟨.str ⟨(Dm.codes (if b then "True" else "False")).toArray⟩,H,I.tok _,⟨s.toks,?_⟩,q⟩;cases b
  ·exact congrArg (Value.str · _) (d7 "False")
  ·exact congrArg (Value.str · _) (d7 "True")
 ·obtain⟨u,rfl,tk,rfl⟩:=vals1 r;refine P.str_of_int ?_ ⟨.str ⟨(Dm.codes (toString i)).toArray⟩,H,I.tok _,⟨_,congrArg (Value.str · _) (d7 _)⟩,q⟩;by_cases z:i.natAbs=0
  ·rw[z];decide
  ·exact(QV z).mpr (NO hi (Oe (Nat.pow_le_pow_left (by decide:10<=2 ^ 4) 100) (by rw[<- Nat.pow_mul];exact Nat.pow_le_pow_right (by decide) (by decide))))
 ·obtain⟨u,rfl,tk,rfl⟩:=vals1 r;exact P.str_of_str ⟨.str x,H,I,⟨_,rfl⟩,q⟩
 ·obtain⟨u,rfl,rx⟩:=vals1 r;cases rx;obtain⟨hz,hS,vs,rv,m⟩:=z8 I.hok ha;cases rv;obtain⟨o,es,ep,ho,xd,hd,_,pr,_⟩:=m;have hes:es.toList=[]:=by cases hq:es.toList with
   |nil=>rfl
   |cons y ys=>rw[hq]at pr;cases pr
  have un:=hr.un;have rd:Reads s.heap (.ref a) (.dict []) (a::[]++[]):=.dict ho xd.1 hd (by rw[hes];exact .nil) (by rw[hes];exact .nil);have sh:(PyData.dict []).shown=⟨(Dm.codes "{}").toArray⟩:=by rw[PyData.shown_dict];decide +kernel
  have dp:(PyData.dict []).depth<=2:=by decide
  refine str_of_reads rd (by decide) (fun _ z=>?_) hr.gd (by lia) (fun _ _ e=>e) (fun h' u tk kp=>?_) (by rw[sh];decide)
  ·have:sysModules=a:=by simpa using z
   rw[<- this]at hS;simp at hS
  ·rw[sh];exact⟨.str ⟨(Dm.codes "{}").toArray⟩,H,I.kept (t':=tk) kp,⟨u,rfl⟩,q⟩
 ·exact ud hr yZ s σ H xs us Q I r h
theorem Eb:CallD FF Dm.iK:=by
 intro H0 H vs ds z Q s rs e k;unfold Dm.iK at e;split at e
 ·cases e;cases rs with
  |cons r rr=>
   cases rr;rcases r with r | ⟨a,_,w⟩
   ·cases r;exact .inl ⟨rfl,k _ H0 H (aX.refl s) (.str _)⟩
   ·exact NH w
 ·cases e;cases rs with
  |cons r rr=>
   cases rr;rcases r with r | ⟨a,_,w⟩
   ·cases r;exact .inr (.inl ⟨_,rfl,k _ H0 H (aX.refl s) (.str _)⟩)
   ·exact NH w
 ·split at e
  case isFalse=>cases e
  rename_i hi;cases e;cases rs with
  |cons r rr=>
   cases rr;rcases r with r | ⟨a,_,w⟩
   ·cases r;exact .inr (.inr (.inl ⟨_,rfl,hi,k _ H0 H (aX.refl s) (.str _)⟩))
   ·exact NH w
 ·cases e;cases rs with
  |cons r rr=>
   cases rr;rcases r with r | ⟨a,_,w⟩
   ·cases r;exact .inr (.inr (.inr (.inl ⟨_,rfl,k _ H0 H (aX.refl s) (.str _)⟩)))
   ·exact NH w
 ·cases e;cases rs with
  |cons r rr=>
   cases rr;refine .inr (.inr (.inr (.inr (.inl ?_))));rcases r with r | ⟨a,rfl,xs,q,e1,e2⟩
   ·cases r with
    |dct q e1 e2=>
     rename_i a kvs;have:kvs=[]:=by cases kvs with
      |nil=>rfl
      |cons _ _=>cases e1
     subst this;exact⟨a,rfl,s _ _ q,k _ H0 H (aX.refl s) (.str _)⟩
   ·have:xs=[]:=by cases xs with
     |nil=>rfl
     |cons _ _=>cases e1
    subst this;exact⟨a,rfl,q,k _ H0 H (aX.refl s) (.str _)⟩
 ·exact .inr (.inr (.inr (.inr (.inr (Ie H0 H vs _ z Q s rs e k)))))
section
variable{X:Cx}{e:Expr}{fs:List FE}{p pos:Pos}{k:Nat}
theorem Bf(hr:bK k X.A)(hg:Gl X "str")(hm:X.mg "str" = none)(ha:DA X [e] fs)(he:starEach [e] X.env=[(false,eval e X.env)]:=by rfl)(Il:(backTo pos (starEach [] X.env)).any (·.1)=false:=by rfl):DE X (.Call (.Name "str" p) [e] [] pos) (Dm.eB Dm.iK fs):=Hv (yT hr) Eb (by rfl) hg hm ha (he:=he) (Il:=Il)
end
section
variable{ds:List (List Nat×Dat)}{kvs:List (Key×V)}{σ:L2.St}{H:Hp}
inductive ue(H:Hp):List (Key×V)->List (List Nat×Dat)->Prop
 |nil:ue H [] []
 |cons {k:List Nat} {v:V} {d:Dat} {kvs:List (Key×V)} {ds:List (List Nat×Dat)}:Rep H v d->ue H kvs ds->ue H ((OM ⟨k.toArray⟩,v)::kvs) ((k,d)::ds)
theorem ue.get{s:List Nat}{d:Dat}(r:ue H kvs ds):∀{En:List (Key×V)} {c:Option Dat},(∀e,c=some e->∃v,fD En (OM (⟨s.toArray⟩:Str))=some v/\Rep H v e) ->
  Dm.Ea c ds s=some d->∃v,fD (iA En kvs) (OM (⟨s.toArray⟩:Str))=some v/\Rep H v d:=by
 induction r with
 |nil=>intro En c h e;exact h d e
 |@cons k v d' kvs ds rv _ ih=>
  intro En c h e;unfold Dm.Ea at e;refine ih (En:=putK En (OM ⟨k.toArray⟩) v) (fun e' z=>?_) e;rw[z7];by_cases hs:s=k
  ·subst hs;rw[if_pos rfl]at z;cases z;exact⟨v,by rw[if_pos rfl],rv⟩
  ·rw[if_neg hs]at z;have ne:¬ ((OM (⟨s.toArray⟩:Str):Key)=OM ⟨k.toArray⟩):=fun q=>hs (by
    have:=Str.mk.inj (OM.inj q)
    simpa using this)
   rw[if_neg ne];exact h e' z
theorem ue.len(r:ue H kvs ds):kvs.length=ds.length:=by
 induction r with
 |nil=>rfl
 |cons _ _ ih=>rw[NZ,NZ,ih]
theorem uf:∀{l:List (List Nat×FE)} {ρ ρ':Dm.Env} {ds:List (List Nat×Dat)},Dm.yS l ρ=some (ds,ρ')->ds.length=l.length
 |[],_,_,_,e=>by cases e;rfl
 |(k,f)::r,ρ,ρ',ds,e=>by
  unfold Dm.yS at e;split at e
  ·split at e
   ·rename_i h;cases e;rw[NZ,NZ,uf h]
   ·cases e
  ·cases e
theorem qG:∀{l:List (List Nat×FE)} {H0 H:Hp} {ρ ρ':Dm.Env} {ds:List (List Nat×Dat)} {Q:List (V×V)->Hp->Prop},aK H0 H σ ρ->Dm.yS l ρ=some (ds,ρ') ->
  (∀kvs H0' H',ESt σ ρ H0 H ρ' H0' H'->ue H0' kvs ds->Q (kvs.map fun kv=>(kV kv.1,kv.2)) H')->q_ (l.map fun p=>(tD (Dm.eC (.str p.1)),tD p.2)) σ H Q
 |[],H0,H,ρ,ρ',ds,Q,st,e,k=>by cases e;exact k [] H0 H (ESt.refl st) .nil
 |(s,f)::r,H0,H,ρ,ρ',ds,Q,st,e,k=>by
  unfold Dm.yS at e;split at e
  case h_2=>cases e
  rename_i d ρ1 e1;split at e
  case h_2=>cases e
  rename_i ds' ρ2 e2;cases e;refine⟨H0,ρ,_,ρ,st,rfl,fun u H1 Hb t1 r1=>⟨H1,ρ,_,ρ1,t1.st,e1,fun v H2 Hc t2 r2=>?_⟩⟩;have r1':Rep H1 u (.str s):=r1;cases r1';have r2':Rep H2 v d:=r2;refine qG t2.st e2 fun kvs H3 Hd t3 sr=>?_;exact k ((OM ⟨s.toArray⟩,v)::kvs) H3 Hd (t1.trans (t2.trans t3)) (.cons (r2'.mono t3.stp.s0) sr)
theorem ESt.swap{ρ ρ1:Dm.Env}{H0 H H0' H2:Hp}{p:Addr}{o o':HO}(hp:H p=none)(n0:H0 p=none)(no:¬aE σ ρ p)(t:ESt σ ρ H0 (upd H p o) ρ1 H0' H2):ESt σ ρ H0 H ρ1 H0' (upd H2 p o'):=by
 obtain⟨hp3,n3,no3⟩:=t.gY au n0 no;refine⟨t.st.aside n3 no3,⟨t.stp.s0,fun a u y nb=>?_,fun a u y=>?_,fun a u y=>?_⟩,t.own,t.dfn⟩
 ·have ne:a≠p:=fun q=>by rw[q,hp]at y;cases y
  rw[ao ne];exact t.stp.s1 a u (by rw[ao ne];exact y) nb
 ·rcases t.stp.s2 a u y with y1 | y1 | y1
  ·by_cases ne:a=p
   ·subst ne;rw[n3]at y;cases y
   ·rw[ao ne]at y1;exact .inl y1
  ·exact .inr (.inl y1)
  ·exact .inr (.inr y1)
 ·have ne:a≠p:=fun q=>by rw[q,hp]at y;cases y
  rw[ao ne];exact t.stp.s3 a u (by rw[ao ne];exact y)
theorem K5{l:List (List Nat×FE)}{fx:FE}{Q:VK}(hl:l.length<=15)(h:tD (Dm.Be l fx) σ H Q):Fo (Ac (l.map fun p=>(tD (Dm.eC (.str p.1)),tD p.2))) (tD fx) σ H Q:=by
 obtain⟨H0,ρ,x,ρ',st,e,k⟩:=h;unfold Dm.Be at e;split at e
 ·cases e
 rename_i ds ρ1 e1;split at e
 case h_2=>cases e
 rename_i s ρ2 e2;split at e
 case h_2=>cases e
 rename_i d e3;cases e;intro p hp;have n0:H0 p=none:=st.same.free hp;have no:¬aE σ ρ p:=st.iE hp;refine qG (st.aside n0 no) e1 fun kvs H1 Hb t1 sr=>?_;obtain⟨hp1,n1,no1⟩:=t1.gY au n0 no;refine⟨hp1,kvs,rfl,by rw[sr.len,uf e1];exact hl,?_⟩;have t2:ESt σ ρ H0 H ρ1 H1 (upd Hb p (.dK (iA [] kvs))):=ESt.swap hp n0 no t1;refine⟨H1,ρ1,_,_,t2.st,e2,fun v H3 Hc t3 r3=>?_⟩;obtain⟨hp3,n3,no3⟩:=t3.gY au n1 no1;have r3':Rep H3 v (.str s):=r3;cases r3';obtain⟨w,hw,rw'⟩:=sr.get (En:=[]) (c:=none) (fun _ z=>by cases z) e3;refine⟨p,w,rfl,?_,k w H3 Hc (t2.trans t3) (rw'.mono t3.stp.s0)⟩;have g:=jD.k (k:=OM ⟨s.toArray⟩) hp3;rw[hw]at g;exact g
end
section
variable{X:Cx}{pos pos':Pos}{keys:List (Option Expr)}{values:List Expr}{l:List (List Nat×FE)}{b:Expr}{fb:FE}{k:Nat}
def DPs(X:Cx)(pos:Pos)(keys:List (Option Expr))(values:List Expr)(l:List (List Nat×FE)):Prop:=PPs X pos keys values (l.map fun p=>(tD (Dm.eC (.str p.1)),tD p.2))
theorem Ig:DPs X pos [] [] []:=wX
theorem rK{a v:Expr}{s:List Nat}{f:FE}(ha:DE X a (Dm.eC (.str s)))(hv:DE X v f)(hr:DPs X pos keys values l):DPs X pos (some a::keys) (v::values) ((s,f)::l):=sQ ha hv hr
theorem K6(hr:bK k X.A)(h:DPs X pos keys values l)(hb:DE X b fb)(hall:keys.all (·.isSome)=true:=by rfl)(hl:keys.length=values.length:=by rfl)(h0:keys≠[]:=by simp)(h15:keys.length<=15:=by decide)(h16:l.length<=15:=by decide)(hs:Df b:=by intro _ _;rfl) :
  DE X (.Subscript (.Dict keys values pos) b pos') (Dm.Be l fb):=PE.weak (wW (u1 hr) (wY h hall hl h0 h15) hb hs) fun _ _ _ q=>K5 h16 q
end
end Br
namespace PySem
open Sem (wp)
def DK(h h':Heap):Prop:=∀b o,h.get? b=some o->∃o',h'.get? b=some o'/\o'.dict=o.dict
theorem DK.refl(h:Heap):DK h h:=fun _ o e=>⟨o,e,rfl⟩
theorem DK.trans{h1 h2 h3:Heap}(x:DK h1 h2)(y:DK h2 h3):DK h1 h3:=fun b o e=>by obtain⟨o1,e1,d1⟩:=x b o e;obtain⟨o2,e2,d2⟩:=y b o1 e1;exact⟨o2,e2,d2.trans d1⟩
def DkF(f:Obj->Obj):Prop:=∀o,(f o).dict=o.dict/\(o.isFreed=false->(f o).isFreed=false)
theorem DK.upd{h:Heap}{a:Addr}{f:Obj->Obj}(hf:DkF f):DK h (h.update a f):=fun b o e=>by
 by_cases z:a=b
 ·subst z;exact⟨_,Of f e ((hf o).2 (Heap.get?_some_iff.mp e).2),(hf o).1⟩
 ·exact⟨o,(NX h f z).trans e,rfl⟩
theorem vL(g:Array Value->Array Value):DkF (Obj.mapFields g):=fun o=>by obtain⟨c,d,dt,s⟩:=o;cases dt<;>exact⟨rfl,fun z=>by first | exact z | rfl⟩
def Dkt{α:Type}:Sem α->Prop
 |.pure _=>True
 |.raise _=>True
 |.unsupported _=>True
 |.finish _=>True
 |.rule _ k=>Dkt (k ())
 |.at _ k=>Dkt (k ())
 |.load _ _ k=>∀o,Dkt (k o)
 |.update _ _ f k=>DkF f/\Dkt (k ())
 |.loadIfAlive _ k=>∀o,Dkt (k o)
 |.point _ k=>Dkt (k ())
 |.register _ _=>True
 |.alloc _ k=>∀a,Dkt (k a)
 |.fresh k=>∀t,Dkt (k t)
 |.ask k=>∀t,Dkt (k t)
 |.choose _ _ _=>False
 |.os _ _ _=>False
 |.call _ _ _ _ _=>False
 |.handled _ k=>∀t,Dkt (k t)
 |.genState _ _=>False
 |.newGen _ _=>False
 |.resume _ _ _ _=>False
 |.yield _ _ _ _=>True
 |.stack k=>∀t,Dkt (k t)
 |.fork _ _=>True
 |.thread k=>∀t,Dkt (k t)
 |.await _ _ _ _ _=>True
theorem Dkt.bind'{α β:Type}{f:α->Sem β}(hf:∀a,Dkt (f a)){m:Sem α}(h:Dkt m):Dkt (m.bind f):=by
 induction m with
 |pure a=>exact hf a
 |raise e=>trivial
 |unsupported w=>trivial
 |finish e=>trivial
 |rule t k ih=>exact ih () h
 |«at» p k ih=>exact ih () h
 |load a p k ih=>exact fun o=>ih o (h o)
 |update a p g k ih=>exact⟨h.1,ih () h.2⟩
 |loadIfAlive a k ih=>exact fun o=>ih o (h o)
 |point l k ih=>exact ih () h
 |register a k ih=>trivial
 |alloc o k ih=>exact fun o=>ih o (h o)
 |fresh k ih=>exact fun o=>ih o (h o)
 |ask k ih=>exact fun o=>ih o (h o)
 |handled o k ih=>exact fun o=>ih o (h o)
 |yield v g l k ih=>trivial
 |stack k ih=>exact fun o=>ih o (h o)
 |fork c k ih=>trivial
 |thread k ih=>exact fun o=>ih o (h o)
 |await a t d l k ih=>trivial
 |choose s n k ih=>exact h.elim
 |os q l k ih=>exact h.elim
 |call c h' g l k ih=>exact h.elim
 |genState g k ih=>exact h.elim
 |newGen c k ih=>exact h.elim
 |resume g r l k ih=>exact h.elim
theorem Dkt.bind{α β:Type}{f:α->Sem β}{m:Sem α}(h:Dkt m)(hf:∀a,Dkt (f a)):Dkt (m >>= f):=Dkt.bind' hf h
theorem Dkt.keep{α:Type}{M:Model}{Γ:Ctx}{Q:α->Pos->Shared->Prop}{E:Value->Pos->Shared->Prop}{h0:Heap}{t:Sem α}{p:Pos}{s:Shared}(h:Dkt t)(d:DK h0 s.heap)(w:wp M Γ t Q E p s):wp M Γ t (fun a p s'=>Q a p s'/\DK h0 s'.heap) E p s:=by
 induction t generalizing p s with
 |pure a=>exact⟨w,d⟩
 |raise e=>exact w
 |unsupported w'=>exact w
 |finish e=>exact w
 |rule t k ih=>exact ih () h d w
 |«at» p' k ih=>exact ih () h d w
 |load a p' k ih=>obtain⟨o,e,w⟩:=w;exact⟨o,e,ih o (h o) d w⟩
 |update a p' g k ih=>exact⟨w.1,ih () h.2 (d.trans (DK.upd h.1)) w.2⟩
 |loadIfAlive a k ih=>exact ih _ (h _) d w
 |point l k ih=>exact ih () h d w
 |register a k ih=>exact w
 |alloc o k ih=>exact ih _ (h _) (d.trans fun b o' e=>⟨o',HT _ e,rfl⟩) w
 |fresh k ih=>exact ih _ (h _) d w
 |ask k ih=>exact ih _ (h _) d w
 |handled o k ih=>exact ih _ (h _) d w
 |yield v g l k ih=>exact w
 |stack k ih=>exact ih _ (h _) d w
 |fork c k ih=>exact w
 |thread k ih=>exact ih _ (h _) d w
 |await a t d l k ih=>exact w
 |choose s' n k ih=>exact h.elim
 |os q l k ih=>exact h.elim
 |call c h' g l k ih=>exact h.elim
 |genState g k ih=>exact h.elim
 |newGen c k ih=>exact h.elim
 |resume g r l k ih=>exact h.elim
theorem k9{α:Type}{M:Model}{A:Around}{t:Sem α}{Q:α->Shared->Prop}{E:Value->Shared->Prop}{s:Shared}(h:Dkt t)(w:wpAny M A t Q E s):wpAny M A t (fun a s'=>Q a s'/\DK s.heap s'.heap) E s:=
 fun Γ p hΓ=>Dkt.keep h (DK.refl _) (w Γ p hΓ)
theorem jm(v:Value)(i:Nat):Dkt (field v i):=by
 unfold field fieldsOf;refine Dkt.bind ?_ fun a=>by split<;>trivial
 split
 ·refine Dkt.bind (fun o=>trivial) fun o=>?_;split<;>trivial
 ·trivial
theorem rL(v:Value)(i:Nat)(x:Value):Dkt (setField v i x):=by
 unfold setField updateField;split
 ·refine Dkt.bind (fun o=>trivial) fun o=>?_;split
  ·split
   ·exact⟨vL _,trivial⟩
   ·trivial
  ·trivial
 ·trivial
theorem jI(e:Value)(f:Option Addr):Dkt (setFlight e f):=by
 unfold setFlight;refine Dkt.bind (jm _ _) fun tb=>?_;split
 ·exact rL _ _ _
 ·trivial
theorem Bg:Dkt frameEnvs:=by unfold frameEnvs;exact Dkt.bind (fun t=>trivial) fun t=>trivial
theorem Bj(env:Env)(i:Bool)(l:List Env):Dkt (keptBack env i l):=by
 unfold keptBack;split
 ·split
  ·trivial
  ·refine Dkt.bind ?_ fun b=>trivial;unfold underTheClaimsCaller
   first | exact Dkt.bind (fun t=>trivial) fun t=>trivial | (intro t;trivial) | trivial
 ·trivial
theorem Ec(env:Env)(l:List Env):Dkt (behindIsImport env l):=by
 unfold behindIsImport;split
 ·trivial
 ·split
  ·trivial
  ·exact Dkt.bind (jm _ _) fun b=>trivial
theorem qH:∀l:List Env,Dkt (readyFrames l)
 |[]=>trivial
 |env::outer=>by
  unfold readyFrames;split
  ·refine Dkt.bind (fun o=>trivial) fun o=>?_;split
   ·trivial
   ·refine Dkt.bind (Ec _ _) fun i=>Dkt.bind (Bj _ _ _) fun b=>Dkt.bind ⟨fun o=>⟨rfl,fun z=>by obtain⟨oc,od,odt,os⟩:=o;cases odt<;>first | rfl | exact z⟩,trivial⟩ fun _=>qH outer
  ·trivial
theorem yU(env:Env):Dkt (frameOf env):=by
 unfold frameOf;refine Dkt.bind Bg fun es=>Dkt.bind ?_ fun o=>?_
 ·unfold frameObject;split
  ·trivial
  ·exact Dkt.bind (qH _) fun _=>trivial
 ·split<;>trivial
theorem yV(f:Addr)(b:Bool):Dkt (entryPlaceOf f b):=by unfold entryPlaceOf;refine Dkt.bind (fun t=>trivial) fun t=>?_;split<;>trivial
theorem yW(next frame lineno flight lasti:Value)(pl:List Value):Dkt (P9 next frame lineno flight lasti pl):=by
 unfold P9 newFields newObj newObjAsIs;dsimp only
 generalize ([next,frame,lineno,flight,lasti]++(if pl.isEmpty=true then Dk 6 Pu else pl)).toArray=vs
 split
 ·trivial
 ·exact fun a=>trivial
theorem ug(e:Value)(env:Env):Dkt (noteFrame e env):=by
 unfold noteFrame;split
 ·refine Dkt.bind (jm _ _) fun head=>?_;have Ll:∀f:Addr,Dkt (do setField e 1 (<- P9 head (<- frameOf env) .none (rawInt f) .none (<- entryPlaceOf f (head != .none)))):=fun f=>Dkt.bind (yU _) fun a=>Dkt.bind (yV _ _) fun pl=>Dkt.bind (yW ..) fun b=>rL _ _ _;split
  ·refine Dkt.bind (jm _ _) fun x=>?_;split
   ·trivial
   ·exact Dkt.bind (rL _ _ _) fun _=>Ll _
  ·exact Ll _
 ·trivial
theorem uh(env:Env)(e:Value):Dkt (leaving env e):=by unfold leaving;exact Dkt.bind (ug _ _) fun _=>jI _ _
end PySem
namespace PySem.W
open PySem PySem.Spec PySem.Calls PyProof.Rows
section
variable{prog:Program}{w:World}{A:Around}{E:Value->Shared->Prop}{h:Heap}{g:Array GenState}{d:Drawn}{t:Nat}{os:OsState}{K:Frag}
variable{nm q:Str}{C N fI:Addr}{bs bm bmB:List Value}{hdct:Bool}{sn:List Str}{sub:List Value}{ab:Bool}{col:Option Bool}{dd:Option Addr}{k0 k1 k2 k3 k5:Option Value}{B newId initId:String}
theorem rM{Ca:List Value}{Q:Value->Shared->Prop}(F:ExcBaseFacts B newId initId bmB)(T:OwnTail h bmB bm)(hC:h.get? C=some (excClassObj nm q C N bs bm hdct sn sub ab col dd k0 k1 k2 k3 k5 newId))(X:K.In h)
  (hi:findIn K (.ref C) "__init__" = some (some (.ref fI))) (hf:typeIn K (.ref fI)=some (.type "function")) (hz:Ca.length<=sizeLine)
  (k:∀h' e,Qa h h' e (.ref C) Ca->codeAny (model prog w) (A.under (.builtin "type.__call__" ⟨.ref C::Ca,[]⟩)) (.call (.ref fI) ⟨.ref e::Ca,[]⟩) (fun r s'=>match r with | .ok (.ret v)=>v=.none/\Q (.ref e) s' | .ok _=>False | .error x=>E x s') ⟨h',g,d,t,os⟩) :
  wpAny (model prog w) A (call (.ref C) Ca) Q E ⟨h,g,d,t,os⟩:=by
 have Lt:Looks (model prog w) h (typeOf (.ref C)) (.type "type"):=(Qc hC).andThen .now;have Lc:Looks (model prog w) h (typeLookup (.type "type") "__call__") (some (.builtin "type.__call__")):=PJ tc_lookup;have Li:=looks_findIn (M:=model prog w) X hi;have Lb:∀self,Looks (model prog w) h (bindSpecial (.ref fI) self) (.ref fI,[self]):=fun self=>bind_fn X self hf;have Lm:Looks (model prog w) h (mroOf (.ref C)) (.ref C::bm):=((Qc (part:=none) hC).andThen .now).andThen .now;refine wpAny_call (codeAny_of_tree ?_);show wpAny _ _ (callAny (.ref C) ⟨Ca,[]⟩) _ _ _;refine nd_load hC ?_;show wpAny _ _ (callAny.viaDunder (.ref C) _) _ _ _;unfold callAny.viaDunder;have Lk:Looks (model prog w) h (bindSpecial (.builtin "type.__call__") (.ref C)) (.builtin "type.__call__",[.ref C]):=PJ (tc_bind _);have Ls:Looks (model prog w) h (specialOf (.ref C) "__call__") (some (.builtin "type.__call__")):=Lt.andThen Lc
 repeat lk
 have Ln:Looks (model prog w) h (Bind.madeBy (.ref C)) (some newId):=fun A' Q' E' s' kp z=>by obtain⟨h1,g1,d1,t1,o1⟩:=s';exact wpAny_madeBy_exc (kp _ _ hC) z
 refine⟨rfl,codeAny_call_builtin_at (Qh _ (by decide +kernel)) entry_typeCall (wpAny_check_type_call_sub hC ?_)⟩;show wpAny _ _ (Builtin.«type.__call__» ⟨.ref C::Ca,[]⟩) _ _ _;unfold Builtin.«type.__call__»
 repeat (first | with_reducible refine wpAny_call ?_ | lk)
 refine codeAny_call_builtin_code (Qh _ F.quiet) (wpAny_check_new_subT F T hC (codeAny_exc_new_subT F T hC ?_ hz))
 let h2:Heap:=(h.push { cls:=.type "tuple",data:=.seq Ca.toArray }).push { cls:=.ref C,data:=.fields #[.ref h.objs.size,.none,.none,.none,.bool false,.none] }
 have up:∀b o,h.get? b=some o->h2.get? b=some o:=fun b o e=>HT _ (HT _ e);have he:h2.get? (h.objs.size+1)=some { cls:=.ref C,data:=.fields #[.ref h.objs.size,.none,.none,.none,.bool false,.none] }:=by heap_get
 have mk:Qa h h2 (h.objs.size+1) (.ref C) Ca:=⟨up,Pb (QK _),h.objs.size,he,Pb (NC _),HT _ (Heap.get?_push_at rfl rfl)⟩
 have Le:Looks (model prog w) h2 (typeOf (.ref (h.objs.size+1))) (.ref C):=(Qc he).andThen .now;have Lx:Looks (model prog w) h2 (isSubtype (.ref C) (.ref C)) true:=fun A' Q' E' s' kp z=>by obtain⟨h1,g1,d1,t1,o1⟩:=s';refine wpAny_isSubtype_exc (kp _ _ (up _ _ hC)) ?_;rw[Qj,beq_self_eq_true];exact z
 have Lj:Looks (model prog w) h2 (typeLookup (.ref C) "__init__") (some (.ref fI)):=fun A' Q' E' s' kp z=>Li A' Q' E' s' (fun b o e=>kp b o (up b o e)) z;have Lg:Looks (model prog w) h2 (bindSpecial (.ref fI) (.ref (h.objs.size+1))) (.ref fI,[.ref (h.objs.size+1)]):=fun A' Q' E' s' kp z=>Lb _ A' Q' E' s' (fun b o e=>kp b o (up b o e)) z;have go:=k h2 (h.objs.size+1) mk;show wpAny _ _ _ _ _ ⟨h2,g,d,t,os⟩;unfold isInstance callSpecial? specialOf
 repeat (first | with_reducible refine wpAny_call ?_ | lk)
 refine codeAny_mono go fun r s' z=>?_;obtain⟨h3,g3,d3,t3,o3⟩:=s';rcases r with x | (_ | _ | _ | v)
 ·exact z
 ·exact z
 ·exact z
 ·exact z
 ·obtain⟨rfl,z⟩:=z
  repeat lk
  exact z
theorem vM{h:Heap}{bmB tl:List Value}(T:OwnTail h bmB tl)(self:Value)(what:Str):refuseLoop self what tl=refuseLoop self what bmB:=by
 induction T with
 |base=>rfl
 |own _ _ _ _ ih=>exact(refuseLoop_ref ..).trans ih
theorem yX{x:Addr}{vs:Array Value}{sl:Array (Option Value)}{name:Str}{v:Value}{Q:Unit->Shared->Prop}(F:StoreFacts "ValueError" bmB "object.__setattr__" "object")(T:OwnTail h bmB bm)
  (hC:h.get? C=some (excClassObj nm q C N bs bm true sn sub ab col dd k0 k1 k2 k3 k5 newId)) (X:K.In h) (hs:findIn K (.ref C) "__setattr__" = some (some (.builtin "object.__setattr__"))) (ha:findIn K (.ref C) name=some none)
  (hx:h.get? x=some ⟨.ref C,none,.fields vs,sl⟩)
  (k:∀h' tk',h'.get? x=some ⟨.ref C,some h.objs.size,.fields vs,sl⟩->h'.Ns1 h.objs.size (fun y=>if y=name then some v else none)->(∀b ob,b≠x->h.get? b=some ob->h'.get? b=some ob)->Q () ⟨h',g,d,tk',os⟩) :
  wpAny (model prog w) A (setAttr (.ref x) name v) Q E ⟨h,g,d,t,os⟩:=by
 have I:InstAt h x ⟨.ref C,none,.fields vs,sl⟩ C none:=⟨hx,rfl,rfl,trivial⟩
 refine set_plain (s:=⟨h,g,d,t,os⟩) X I hs ?_;have Lt:Looks (model prog w) h (typeOf (.ref x)) (.ref C):=I.type;have Lo:Looks (model prog w) h (isInstance (.ref x) (.type "object")) true:=Lt.andThen fun A' Q' E' s' kp z=>by obtain⟨h1,g1,d1,t1,o1⟩:=s';refine wpAny_isSubtype_exc (kp _ _ hC) ?_;rw[Qj,T.hasType F.hasOwner,Bool.or_true];exact z
 have Lm:Looks (model prog w) h (mroOf (.ref C)) (.ref C::bm):=((Qc (part:=none) hC).andThen .now).andThen .now;have La:=looks_findIn (M:=model prog w) X ha;have Lr:Looks (model prog w) h (refuseLoop (.ref x) "__setattr__" (.ref C::bm)) ():=PJ (by rw[refuseLoop_ref,vM T];exact F.passes _);refine codeAny_call_builtin F.slot.plain F.entry (@check_slot (model prog w) _ _ ⟨h,g,d,t+1,os⟩ "object.__setattr__" "object" "__setattr__" (.ref x) [.str name t,v] [] _ F.kind F.split Lo (F.args (.ref x) (.str name t) v) ?_);rw[osa_eq,refuse_eq];have Lcd:=(Qc (part:=none) (M:=model prog w) hC)
 repeat lk
 have ne:h.objs.size≠x:=OI (Nx hx);have hx1:(h.push { cls:=.type "dict",data:=.dict #[] }).get? x=some ⟨.ref C,none,.fields vs,sl⟩:=HT _ hx;refine wpAny_update (s:=⟨h.push { cls:=.type "dict",data:=.dict #[] },g,d,t+1,os⟩) hx1 ?_
 let h2:Heap:=(h.push { cls:=.type "dict",data:=.dict #[] }).update x fun o=>{ o with dict:=some h.objs.size }
 have hd2:h2.get? h.objs.size=some { cls:=.type "dict",data:=.dict #[] }:=by show ((h.push _).update x _).get? _=_;rw[NX _ _ ne.symm];exact Heap.get?_push_at rfl rfl
 have hx2:h2.get? x=some ⟨.ref C,some h.objs.size,.fields vs,sl⟩:=Of _ hx1 rfl;have ho2:∀b o,b≠x->h.get? b=some o->h2.get? b=some o:=fun b o hb e=>by show ((h.push _).update x _).get? _=_;rw[NX _ _ (N2 hb)];exact HT _ e
 have e0:h2.Ns1 h.objs.size fun _=>none:=Heap.Ns1.of_empty ⟨_,#[],_,hd2,rfl,fun e he=>absurd he (Array.not_mem_empty e),fun _=>rfl⟩;show wpAny _ _ (dictMade (.ref C) x h.objs.size) _ _ ⟨h2,g,d,t+1,os⟩;unfold dictMade;refine wpAny_pure ?_;show wpAny _ _ (Builtin.ObjectAttr.storeInDict h.objs.size (.str name t) name v) _ _ _;unfold Builtin.ObjectAttr.storeInDict Builtin.ObjectAttr.newKeyGuard;refine wpAny_bind (wpAny_pure (wpAny_bind (wpAny_nsSet1 (s:=⟨h2,g,d,t+1,os⟩) e0 fun h3 n3 s3=>?_)));obtain⟨od,es,ep,e1,e2,e3⟩:=n3.count (ns:=[name]) (Within.cons name v Within.nil);refine wpAny_bind (wpAny_lookBehind e1 (by rw[e2];exact pastItsLine_dict (Oe e3 (by rw[sizeLine_eq];show 1<=_;lia))) ?_)
 repeat lk
 exact k h3 _ ((s3.2 x ne.symm).trans hx2) n3 fun b o hb e=>(s3.2 b (NV (Nx e))).trans (ho2 b o hb e)
end
end PySem.W
namespace PySem
open Sem (wp)
open PySem.W
section
variable{prog:Program}{w:World}{A:Around}{E:Value->Shared->Prop}{h:Heap}{g:Array GenState}{d:Drawn}{t:Nat}{os:OsState}
variable{nm q:Str}{C N e t0:Addr}{bs bm bmB:List Value}{hdct:Bool}{sn:List Str}{sub:List Value}{ab:Bool}{col:Option Bool}{dd:Option Addr}{k0 k1 k2 k3 k5:Option Value}{B newId initId:String}
theorem lU(F:ExcBaseFacts B newId initId bmB)(T:OwnTail h bmB bm){Ca:List Value}{dx:Option Addr}{sl:Array (Option Value)}{Q:Value->Shared->Prop}
  (hC:h.get? C=some (excClassObj nm q C N bs bm hdct sn sub ab col dd k0 k1 k2 k3 k5 newId)) (he:h.get? e=some { cls:=.ref C,dict:=dx,data:=.fields #[.ref t0,.none,.none,.none,.bool false,.none],slots:=sl })
  (hq:∀h',(∀b o,b≠e->h.get? b=some o->h'.get? b=some o)->(∃t1,h'.get? e=some { cls:=.ref C,dict:=dx,data:=.fields #[.ref t1,.none,.none,.none,.bool false,.none],slots:=sl })->h.objs.size<=h'.objs.size->Q .none ⟨h',g,d,t,os⟩) (hrest:Ca.length<=sizeLine:=by size_fits) :
  wpAny (model prog w) A (call (.builtin initId) (.ref e::Ca)) Q E ⟨h,g,d,t,os⟩:=by
 refine wpAny_call (codeAny_call_builtin F.init.plain F.initEntry (wpAny_check_init_subT F T hC he rfl ?_))
 wp_walk
 refine hq _ (fun b o hb hbo=>?_) ⟨h.objs.size,?_⟩ ?_
 ·rw[NX _ _ (N2 hb)];exact HT _ hbo
 ·rw[Of _ (HT _ he) rfl];rfl
 ·simp[Heap.update,Heap.push]
end
end PySem
namespace L2
open PySem PySem.Spec PyProof.Rows
section
variable{P:Program}{w:World}{h:Heap}{H:Hp}
def jJ(C a:Addr):Heap->Prop:=fun h=>∃t0 sl,h.get? a=some { cls:=.ref C,dict:=none,data:=.fields #[.ref t0,.none,.none,.none,.bool false,.none],slots:=sl }
def um(C a d:Addr):Heap->Prop:=fun h=>∃t0 sl,h.get? a=some { cls:=.ref C,dict:=some d,data:=.fields #[.ref t0,.none,.none,.none,.bool false,.none],slots:=sl }
theorem xG{C a:Addr}(x:jJ C a h):br P w H h a (.ext (jJ C a)):=
 ⟨x,let ⟨_,_,e⟩:=x;⟨_,e⟩,fun _ _ ⟨t0,sl,e⟩ k=>⟨t0,sl,k _ e⟩⟩
theorem Ed{C a d:Addr}(x:um C a d h):br P w H h a (.ext (um C a d)):=
 ⟨x,let ⟨_,_,e⟩:=x;⟨_,e⟩,fun _ _ ⟨t0,sl,e⟩ k=>⟨t0,sl,k _ e⟩⟩
def tIB(C:Addr)(t:TA):TE:=fun σ H Q=>t σ H fun vs H1=>∃a v,vs=[.ref a,v]/\H1 a=some (.ext (jJ C a))/\Q .non H1
end
section
variable{X:Cx}{e:Expr}{es:List Expr}{t:TA}{pos M3:Pos}
variable{nm q:Str}{C N Pa:Addr}{bs bm bmB:List Value}{hdct:Bool}{sn:List Str}{sub:List Value}{ab:Bool}{col:Option Bool}{dd:Option Addr}{k0 k1 k2 k3 k5:Option Value}{B newId initId:String}
theorem Bk{pl:Sem Bool}{x:Str}{np:Pos}{mc:Value}(hg:Gl X x)(hbd:X.mg x=some (.ref Pa))(F:ExcBaseFacts B newId initId bmB)(T:OwnTail X.base bmB bm)(hC:X.base.get? C=some (excClassObj nm q C N bs bm hdct sn sub ab col dd k0 k1 k2 k3 k5 newId))
  (hga:PD X.K (.ref Pa) "__getattribute__" = some (some (.builtin "type.__getattribute__"))) (hr:QI X.K Pa mc=true) (hf:QJ X.K (.ref Pa) mc "__init__" = some (.val (.builtin initId))) (hh:PySem.W.handedIn (.builtin initId)=true)
  (ha:PA X (e::es) t) (Lh:(x == ("__debug__" : Str))=false:=by decide)
  (hst:starEach (e::es) X.env=(false,eval e X.env)::starEach es X.env:=by rfl) (Il:(backTo pos (starEach es X.env)).any (·.1)=false:=by rfl)
  (ht:eval (.Call (.Attribute (.Name x np) "__init__" M3) (e::es) [] pos) X.env=(do
   let ov <- eval (.Name x np) X.env
   standAt M3.atName
   let (f,first) <- holding [ov] (getMethod ov "__init__" pl)
   callWith pos f first (backTo pos (starEach (e::es) X.env)) (backToKw pos (keywordEach [] X.env))):=by rfl) :
  PE X (.Call (.Attribute (.Name x np) "__init__" M3) (e::es) [] pos) (tIB C t):=by
 intro yZ s σ H Q I h;refine PySem.W.methodCall_KW (pl:=pl) (fC I hg hbd ?_ Lh) ht;refine PySem.W.method_cls I.kIn hga (PySem.W.cls_value I.kIn hr hf hh ?_);have I1:Inv X yZ σ H { s with toks:=s.toks+1 }:=I.tok _;have hA:=ha pos yZ _ σ H _ I1 h;rw[hst]at hA ⊢;refine O6 (by show (false||(backTo pos (starEach es X.env)).any (·.1))=false;rw[Il]<;>rfl) (PY ?_);refine thn hA fun us s2 ⟨vs,H2,I2,r2,q2⟩=>?_;obtain⟨a,v,rfl,hq,k⟩:=q2;obtain⟨u1,u2,rfl,r1,_⟩:=Vals.two r2;obtain rfl:u1=NN a:=r1;obtain⟨⟨t0,sl,he⟩,_⟩:=(show br X.prog X.w H2 s2.heap a (.ext (jJ C a)) from I2.hok a _ hq)
 obtain⟨hp,g,d,tk,os⟩:=s2;refine lU F (T.keeps I2.bk) (I2.bk _ _ hC) he (fun h' k1 ⟨t1,k2⟩ k3=>?_) (by show 1<=sizeLine;decide);have hu:upd H2 a (.ext (jJ C a))=H2:=by
  funext b
  by_cases z:b=a
  ·rw[z,au,hq]
  ·rw[ao z]
 have I3:=I2.write (x:=a) (e:=a) (t':=tk) (h':=h') (o:=.ext (jJ C a)) (by rw[hq];exact OB) (.inl rfl) (fun b u hb z=>k1 b u hb z) ⟨_,k2⟩ (xG ⟨t1,sl,k2⟩);rw[hu]at I3;exact⟨.non,H2,I3,rfl,k⟩
end
def sXF(C:Addr)(ta tv:TE)(f:Str):TS:=fun D σ H=>tv σ H fun y H1=>ta σ H1 fun x H2=>∃a,x=.ref a/\H2 a=some (.ext (jJ C a))/\∀d,H2 d=none->d≠a->D.nx σ (upd (upd H2 d (.xd [(f,y)])) a (.ext (um C a d)))
section
variable{X:Cx}{o value:Expr}{ta tv:TE}{pos pos':Pos}{f:Str}
variable{nm q:Str}{C N:Addr}{bs bm bmB:List Value}{sn:List Str}{sub:List Value}{ab:Bool}{col:Option Bool}{dd:Option Addr}{k0 k1 k2 k3 k5:Option Value}{B newId:String}
theorem K7(SF:StoreFacts "ValueError" bmB "object.__setattr__" "object")(T:OwnTail X.base bmB bm)(hC:X.base.get? C=some (excClassObj nm q C N bs bm true sn sub ab col dd k0 k1 k2 k3 k5 newId))
  (hS:N1 X.K (.ref C) "__setattr__" = some (some (.builtin "object.__setattr__"))) (hF:N1 X.K (.ref C) f=some none) (ha:PE X o ta) (hv:PE X value tv) (hs:swapsWith value (some (.Attribute o f pos')) pos.line X.env=pure false:=by rfl) :
  PS X (.Assign [.Attribute o f pos'] value pos) (sXF C ta tv f):=by
 intro yZ s σ H D I h;refine plainObj_wpAny_Assign_Attribute (thn (hv yZ s σ H _ I h) fun u s1 ⟨y,H1,I1,ry,q⟩=>thn (ha yZ s1 σ H1 _ I1 q) fun ov s2 ⟨x,H2,I2,rx,a,ex,ea,q2⟩=>?_) hs;subst ex;obtain rfl:ov=NN a:=rx;obtain⟨⟨t0,sl,he⟩,_⟩:=(show br X.prog X.w H2 s2.heap a (.ext (jJ C a)) from I2.hok a _ ea)
 obtain⟨hp,g,dr,tk,os⟩:=s2;have M6:a<hp.objs.size:=Nx he;refine PySem.W.yX SF (T.keeps I2.bk) (I2.bk _ _ hC) I2.kIn hS hF he fun h' tk' k1 k2 k3=>?_;have hd0:H2 hp.objs.size=none:=I2.hok.fresh (NC _);have dne:hp.objs.size≠a:=OI M6;have ks:(h'.update a fun _=>{ cls:=NN C,dict:=none,data:=Pd #[.ref t0,.none,.none,.none,.bool false,.none],slots:=sl }).get? a=some { cls:=NN C,dict:=none,data:=Pd #[.ref t0,.none,.none,.none,.bool false,.none],slots:=sl }:=Of _ k1 rfl;have ko:∀b,b≠a->(h'.update a fun _=>{ cls:=NN C,dict:=none,data:=Pd #[.ref t0,.none,.none,.none,.bool false,.none],slots:=sl }).get? b=h'.get? b:=fun b hb=>Heap.get?_update_ne _ _ _ _ hb
 generalize (h'.update a fun _=>{ cls:=NN C,dict:=none,data:=Pd #[.ref t0,.none,.none,.none,.bool false,.none],slots:=sl })=hm at ks ko
 have I3:=I2.laid (a:=hp.objs.size) (o:=.xd [(f,y)]) (t':=tk') (h':=hm) (fun b w z=>by
  by_cases hb:b=a
  ·subst hb;have:hp.get? b=some w:=z;rw[he]at this;cases this;exact ks
  ·rw [ko b hb];exact k3 b w hb z) (NC _) ⟨(fun z=>if z=f then some u else none),(by
   obtain⟨od,es,ep,e1,r⟩:=k2;exact⟨od,es,ep,by rw[ko _ dne];exact e1,r⟩),fun nm=>by
    show jC (List.lookup nm [(f,y)]) (if nm=f then some u else none);by_cases hn:nm=f
    ·subst hn;rw[if_pos rfl,Ob,beq_self_eq_true];exact ry
    ·rw[if_neg hn,Ob,beq_eq_false_iff_ne.mpr hn];exact OB⟩
 have I4:=I3.write (x:=a) (e:=a) (t':=tk') (h':=h') (o:=.ext (um C a hp.objs.size)) (by rw[ao (N2 dne),ea];exact OB) (.inl rfl) (fun b w hb z=>by rw[<- ko b hb];exact z) ⟨_,k1⟩ (Ed ⟨t0,sl,k1⟩);exact⟨σ,_,I4,q2 _ hd0 dne⟩
end
end L2
namespace PySem.W
open PySem PySem.Spec PySem.Calls PyProof.Rows
section
variable{M:Model}{A:Around}{E:Value->Shared->Prop}{s:Shared}{env:Env}
variable{nm q:Str}{C N:Addr}{bs bm:List Value}{hdct:Bool}{sn:List Str}{sub:List Value}{ab:Bool}{col:Option Bool}{dd:Option Addr}{k0 k1 k2 k3 k5:Option Value}{newId:String}
theorem vN{x:Sem Value}{Q:Flow->Shared->Prop}(hb:bm.contains (.type "BaseException")=true)(hh:A.handled=none)
  (h:wpAny M A x (fun v s1=>∃ea t0 dx sl,v=.ref ea/\s1.heap.get? C=some (excClassObj nm q C N bs bm hdct sn sub ab col dd k0 k1 k2 k3 k5 newId)/\s1.heap.get? ea=some ⟨.ref C,dx,.fields #[.ref t0,.none,.none,.none,.bool false,.none],sl⟩/\E (.ref ea) s1) E s) :
  wpAny M A (raiseStmt env (some x) none) Q E s:=by
 unfold raiseStmt;refine wpAny_bind (wpAny_mono h (fun v s1 z=>?_) fun _ _ z=>z);obtain⟨ea,t0,dx,sl,rfl,hC,he,z⟩:=z;obtain⟨h1,g,d,t,os⟩:=s1;have Lt:Looks M h1 (typeOf (.ref ea)) (.ref C):=(Qc he).andThen .now;have Ls:Looks M h1 (isSubtype (.ref C) (.type "BaseException")) true:=fun A' Q' E' s' kp w=>by obtain⟨h2,g2,d2,t2,o2⟩:=s';refine wpAny_isSubtype_exc (kp _ _ hC) ?_;rw[Qj,hb,Bool.or_true];exact w
 have Li:Looks M h1 (isInstance (.ref ea) (.type "BaseException")) true:=Lt.andThen Ls
 repeat lk
 refine wpAny_handled (s:=⟨h1,g,d,t,os⟩) ?_;rw[hh];exact wpAny_throw z
end
noncomputable def isI(K:Frag)(C fI:Addr)(bmB:List Value)(newId:String):Bool:=match K.lookup C with
 | some o=>o.cls == .type "type" && (match o.data with
  |.cls c=>c.mro.head? == some (.ref C)&&(c.hasDict&&!c.hasDel)&&tailIn K bmB c.mro.tail&&(o.slots.size == 6&&o.slots[4]? == some (some (.builtin newId)))
  |_=>false)
 |none=>false
end PySem.W
namespace L2
open PySem PySem.Spec PyProof.Rows
structure Ef(x:Str)(C fI:Addr)(bmB:List Value)(newId:String)(K:eg)(mg:Str->Option Value)(base:Heap):Prop where
 bound:mg x=some (.ref C)
 kp:Ot K (.ref C)=true
 init:N1 K (.ref C) "__init__" = some (some (.ref fI))
 fn:Pz K (.ref fI)=some (.type "function")
 obj:∃bm N nm q bs sn sub ab col dd k0 k1 k2 k3 k5,base.get? C=some (excClassObj nm q C N bs bm true sn sub ab col dd k0 k1 k2 k3 k5 newId)/\OwnTail base bmB bm
theorem Eg{x:Str}{C fI:Addr}{bmB:List Value}{newId:String}{K:eg}{mg:Str->Option Value}{base:Heap}(X:K.In base)(bound:mg x=some (.ref C))(kp:Ot K (.ref C)=true)
  (init:N1 K (.ref C) "__init__" = some (some (.ref fI))) (fn:Pz K (.ref fI)=some (.type "function")) (q:PySem.W.isI K C fI bmB newId=true):Ef x C fI bmB newId K mg base:=by
 refine⟨bound,kp,init,fn,?_⟩;unfold PySem.W.isI at q;split at q
 case h_2=>cases q
 rename_i o ho;obtain⟨oc,od,dt,sl⟩:=o;cases dt with
 |cls c=>
  obtain⟨nm,bs,mro,ns,qn,hd,sn,sub,ab,col,del⟩:=c;simp only[NF,beq_iff_eq,Bool.not_eq_true']at q;obtain⟨rfl,⟨⟨⟨q1,rfl,rfl⟩,q2⟩,q3,q4⟩⟩:=q;cases mro with
  |nil=>cases q1
  |cons v bm=>
   cases q1;obtain⟨l⟩:=sl;have hl:l.length=6:=q3
   match l,hl,q4 with
   |[k0,k1,k2,k3,k4,k5],_,q4=>
    have:k4=some (.builtin newId):=by simpa using q4
    subst this;exact⟨bm,ns,nm,qn,bs,sn,sub,ab,col,od,k0,k1,k2,k3,k5,X _ _ ho,PySem.W.tail_of_in X q2⟩
 |_=>simp at q
theorem Inv.drop{X:Cx}{yZ:List (Addr×Obj)}{σ:St}{H:Hp}{s:Shared}(I:Inv X yZ σ H s){ea:Addr}{φ:Heap->Prop}(h:H ea=some (.ext φ)):Inv X yZ σ (fun b=>if b=ea then none else H b) s:=by
 have kp:∀b o,H b=some o->(∀ψ,o≠.ext ψ)->(if b=ea then none else H b)=some o:=fun b o e n=>by rw[if_neg fun z=>by subst z;rw[h]at e;cases e;exact n φ rfl];exact e
 have no:∀b,H b=none->(if b=ea then none else H b)=none:=fun b e=>by split<;>first | rfl | exact e
 refine⟨I.ok,I.os,I.bare,⟨I.base.keep,I.base.slot,fun b o e n hx=>no b (I.base.free b o e n hx),I.base.there,fun b xs e=>kp b _ (I.base.tups b xs e) (fun _ z=>by cases z),fun b o u e=>kp b _ (I.base.lD b o u e) (fun _ z=>by cases z),fun b x y z e=>kp b _ (I.base.mV b x y z e) (fun _ z=>by cases z)⟩,I.loc,I.cell,no _ I.free,fun x c e=>no _ (I.eN x c e),fun p hp=>?_,fun b u e=>?_,I.len⟩
 ·obtain⟨e,n,r⟩:=I.pin p hp;exact⟨e,no _ n,r⟩
 ·have hb:b≠ea:=fun z=>by rw[if_pos z]at e;cases e
  rw[if_neg hb]at e;exact(I.hok b u e).stay (fun c v _ q=>q) (fun c q=>kp c _ q fun _ z=>by cases z) (fun c _ _ q=>kp c _ q fun _ z=>by cases z) fun c xs q=>kp c _ q fun _ z=>by cases z
def rN(C:Addr):Sp:=fun vs H Q _=>∃(a:Addr) (i:Int),vs=[.ref a,.int i]/\H a=some (.ext (jJ C a))/\∀d,H d=none->d≠a->Q .non (upd (upd H d (.xd [("moment",.int i)])) a (.ext (um C a d)))
theorem Ih{CX:CXT}{P:Program}{w:World}{K:eg}{mg:Str->Option Value}{base:Heap}{x qual:Str}{st:Stmt}{f C:Addr}{fd:FuncData}{N ps:List Str}{k:Nat}(F:Fun K x qual st f fd)(S:aP N ps (ai st))(hn:ps.length=2)
  (hbody:∀(cdv:Value) (A:Around) (outer:List Env) (s:Shared) (H:Hp) (E:XK),bK k (A.deeper (envOfC qual (ai st) s.heap.objs.size f cdv))->PSs (dF CX P w K mg base N qual (ai st) f cdv A outer s H E) (bD st) (C2 (wJ (tIB C (ju (nB 0) (ju (nB 1) yr)))) (C2 (sXF C (nB 0) (nB 1) "moment") zG))) :
  bH P w K mg base CX (k+1) f fd ps (rN C):=by
 obtain⟨oc,od,kV,doc,pm,an,cdv,ct,osl,rfl,lk,Lp⟩:=F.ex;refine wN lk Lp S (fun vs H Q E h=>?_) fun A outer s H vs Q E hr hsp=>⟨_,hbody cdv A outer s H E hr,?_⟩
 ·obtain⟨a,i,rfl,_⟩:=h;exact hn.symm
 ·obtain⟨a,i,rfl,h,q⟩:=hsp;exact⟨.ref a,rfl,.int i,rfl,a,.int i,rfl,h,.int i,rfl,.ref a,rfl,a,rfl,h,q⟩
section
variable{X:Cx}{x:Str}{C fI:Addr}{bmB:List Value}{B newId initId:String}{np cpos pos:Pos}{e:Expr}{te:TE}{k:Nat}{fd:FuncData}{ps:List Str}
theorem yY{post:St->Int->Hp->Prop}(hx0:X.ex=[])(hc:X.calm=true)(hg:Gl X x)(O:Ef x C fI bmB newId X.K X.mg X.base)(FB:ExcBaseFacts B newId initId bmB)(G:bH X.prog X.w X.K X.mg X.base CX0 k fI fd ps (rN C))(hr:bK (k+1) X.A)(hb:Binds X.K fd ps [])(he:PE X e te)
  (hE:∀yZ σ H1 s ea d t0 sl i,Inv X yZ σ (upd H1 d (.xd [("moment",.int i)])) s->post σ i H1->H1 d=none->s.heap.get? ea=some ⟨.ref C,some d,.fields #[.ref t0,.none,.none,.none,.bool false,.none],sl⟩->X.s₀.heap.get? ea=none->H1 ea=none->d≠ea->X.xe (.ref ea) s)
  (Lh:(x == ("__debug__" : Str))=false:=by decide) (hs:starEach [e] X.env=(false,eval e X.env)::starEach [] X.env:=by rfl) (Il:(backTo cpos (starEach [] X.env)).any (·.1)=false:=by rfl) :
  PS X (.Raise (some (.Call (.Name x np) [e] [] cpos)) none pos) (fun _ σ H=>te σ H fun v H1=>∃i:Int,[v]=[V.int i]/\post σ i H1):=by
 intro yZ s σ H D I h;obtain⟨bm,N,nm,q,bs,sn,sub,ab,col,dd,k0,k1,k2,k3,k5,hC,T⟩:=O.obj;rw[arm_exec_Raise];refine wpAny_bind (wpAny_standAt ?_);show wpAny _ _ (raiseStmt X.env (some (do let v <- eval (.Call (.Name x np) [e] [] cpos) X.env;standAt pos;pure v)) none) _ _ _;refine PySem.W.vN (C:=C) (nm:=nm) (q:=q) (N:=N) (bs:=bs) (bm:=bm) (hdct:=true) (sn:=sn) (sub:=sub) (ab:=ab) (col:=col) (dd:=dd) (k0:=k0) (k1:=k1) (k2:=k2) (k3:=k3) (k5:=k5) (newId:=newId) (T.hasType FB.hasBase) (I.ok.hd hc) (wpAny_bind ?_);refine wpAny_Call_Name_kw (fC I hg O.bound ?_ Lh);refine Pn (h₀:=X.base) I.ok.mod.kin O.kp (thn (cY he iu hs cpos yZ s σ H (fun vs H1=>∃i:Int,vs=[.int i]/\post σ i H1) I h) fun us s1 ⟨vs,H1,I1,r,i,ev,hp⟩=>⟨I1.kIn,?_⟩) hs Il;subst ev;obtain⟨u,rfl,ru⟩:=vals1 r;obtain⟨hh,g,d,t,os⟩:=s1;refine PySem.W.rM FB (T.keeps I1.bk) (I1.bk _ _ hC) I1.kIn O.init O.fn (by show 1<=sizeLine;decide) fun h' ea mk=>?_;obtain⟨t0,he0,_⟩:=mk.there;have I2:Inv X yZ σ H1 ⟨h',g,d,t,os⟩:=I1.kept (t':=t) mk.keeps;have nH:H1 ea=none:=by
  cases z:H1 ea with
  |none=>rfl
  |some o=>obtain⟨u,e⟩:=(I1.hok ea o z).there;rw[mk.new]at e;cases e
 have n0:X.s₀.heap.get? ea=none:=by
  cases z:X.s₀.heap.get? ea with
  |none=>rfl
  |some o=>
   by_cases hx:ea∈X.ex
   ·rw[hx0]at hx;cases hx
   ·obtain⟨u,e⟩:=I1.base.there ea o z hx;rw[mk.new]at e;cases e
 have nl:ea≠X.env.locals:=fun z=>by obtain⟨m,⟨o,_,_,e,_⟩,_⟩:=I1.loc;rw[<- z,mk.new]at e;cases e
 have nc:∀y c,X.env.cells.lookup y=some c->c≠ea:=fun y c e z=>by obtain⟨v,o,e,_⟩:=I1.cell y c e;rw[z,mk.new]at e;cases e
 have np:∀p∈X.pn++yZ,p.1≠ea:=fun p hp z=>by have e:=(I1.pin p hp).1;rw[z,mk.new]at e;cases e
 have I3:=I2.A5 (o:=.ext (jJ C ea)) nH (xG ⟨t0,_,he0⟩) n0 nl nc np;have hl:([NN ea,u]++[]).length=ps.length:=(G.len [.ref ea,.int i] (upd H1 ea (.ext (jJ C ea))) (fun _ _=>True) E0 ⟨ea,i,rfl,au,fun _ _ _=>trivial⟩)
 have hbb:=hb ⟨h',g,d,t,os⟩ [.ref ea,u] I3.kIn hl;rw[Oi]at hbb;have run:=G.run (X.A.under (.builtin "type.__call__" ⟨.ref C::[u],[]⟩)) X.stack ⟨h',g,d,t,os⟩ (upd H1 ea (.ext (jJ C ea))) ⟨[.ref ea,u],[]⟩ [.ref ea,u] [.ref ea,.int i]
  (fun v H'=>v=.non/\∃dx,(upd H1 ea (.ext (jJ C ea))) dx=none/\dx≠ea/\H'=upd (upd (upd H1 ea (.ext (jJ C ea))) dx (.xd [("moment",.int i)])) ea (.ext (um C ea dx))) E0 (hr.make C [u] []) (I3.C_.make C [u] []) hbb (.cons rfl (.cons ru .nil)) ⟨ea,i,rfl,au,fun dx h1 h2=>⟨rfl,dx,h1,h2,rfl⟩⟩
 refine codeAny_mono run fun r s' z=>?_;rcases r with x | (_ | _ | _ | v)
 ·exact z.elim
 ·exact z.elim
 ·exact z.elim
 ·exact z.elim
 obtain⟨w,H',I4,rw',rfl,dx,d1,d2,rfl⟩:=I3.after z;obtain rfl:v=Pu:=rw';refine⟨rfl,wpAny_bind (wpAny_standAt (wpAny_pure ?_))⟩;obtain⟨⟨t1,sl,e1⟩,_⟩:=(show br X.prog X.w _ s'.heap ea (.ext (um C ea dx)) from I4.hok ea _ au)
 refine⟨ea,t1,some dx,sl,rfl,I4.bk _ _ hC,e1,?_⟩;have I5:=I4.drop (ea:=ea) au;have eq:(fun b=>if b=ea then none else (upd (upd (upd H1 ea (.ext (jJ C ea))) dx (.xd [("moment",.int i)])) ea (.ext (um C ea dx))) b)=upd H1 dx (.xd [("moment",.int i)]):=by
  funext b
  by_cases hb:b=ea
  ·subst hb;rw[if_pos rfl,ao (N2 d2),nH]
  ·rw[if_neg hb,ao hb];by_cases hd:b=dx
   ·subst hd;rw[au,au]
   ·rw[ao hd,ao hb,ao hd]
 rw[eq]at I5;rw[ao d2]at d1;exact hE yZ σ H1 s' ea dx t1 sl i I5 hp d1 e1 n0 nH d2
end
def CXF(P:Program)(w:World)(C:Addr):CXT:=fun outer H s E e s'=>
 ∃ea a0 B H' dx,e=.ref ea/\s'.os=s.os/\AllBare s'.gens/\Un (frs outer) [] H H' s.heap s'.heap/\HOk P w H' s'.heap/\Pq B outer ea (.ref C) a0 s'.heap/\(∃o,s'.heap.get? ea=some o/\o.dict=some dx) /\
  (∀b o,s'.heap.get? b=some o->(s.heap.get? b).isSome=true\/(H' b).isSome=true->b∉frs outer->B.get? b=some o)/\E (.ref C) (some dx) H'
section
variable{P:Program}{w:World}{K:eg}{mg:Str->Option Value}{base:Heap}{N:List Str}{qual:Str}{scope:Scope}{f:Addr}{cd:Value}{A:Around}{outer:List Env}{s₀:Shared}{H₀:Hp}{E:XK}{C:Addr}
 {yZ:List (Addr×Obj)} {σ:St} {H:Hp} {s:Shared}
theorem Bl(I:Inv (dF (CXF P w C) P w K mg base N qual scope f cd A outer s₀ H₀ E) yZ σ H s){ea d t0:Addr}{sl:Array (Option Value)}(he:s.heap.get? ea=some ⟨.ref C,some d,.fields #[.ref t0,.none,.none,.none,.bool false,.none],sl⟩)
  (n0:s₀.heap.get? ea=none) (nH:H ea=none) (hE:E (.ref C) (some d) H):(dF (CXF P w C) P w K mg base N qual scope f cd A outer s₀ H₀ E).xe (.ref ea) s:=by
 let X:=dF (CXF P w C) P w K mg base N qual scope f cd A outer s₀ H₀ E
 have hin:∀env∈X.stack,∀b,env.frame=some b->b∈ea::frs X.stack:=fun env hv b hb=>NB _ (Pk.mpr ⟨env,hv,hb⟩)
 let Bh:=PU s.heap (ea::frs X.stack)
 have hen:Bh.get? ea=none:=PySem.W.hideAll_none _ NJ;show wpAny (model P w) _ (leaving _ (.ref ea)) _ _ _;have go:=wpAny_leaving_firstW (M:=model P w) (E:=fun _ _=>False) (base:=Bh) (env:=X.env) (outer:=outer) (L:=s₀.heap.objs.size) (a0:=.ref t0) (Q:=fun _ s'=>∃h',Heap.LeftW Bh X.stack ea (.ref C) (.ref t0) s.heap h'/\s'={ s with heap:=h' })
  I.ok.frames (PySem.W.funFrames_hide I.stack hin) rfl he (fun b o q=>Qe _ q) hen rfl rfl rfl fun h' hL=>⟨h',hL,rfl⟩
 refine wpAny_mono (k9 (uh _ _) go) (fun _ s' z=>?_) fun _ _ z=>z.elim;obtain⟨⟨h'',⟨k1,⟨_,_,k2⟩,k3,k4⟩,rfl⟩,dk⟩:=z;obtain ⟨u1,u2,u3⟩:=I.out (h'':=h'') (Bh:=Bh) rfl (fun b o q hb hh=>P6 _ q fun z=>by
  rcases Dp.mp z with rfl | z
  ·rcases hh with hh | hh
   ·have:s₀.heap.get? b=none:=n0;rw[show X.s₀=s₀ from rfl,this]at hh;cases hh
   ·rw[nH]at hh;cases hh
  ·exact hb z) k1 k4
 exact⟨ea,.ref t0,Bh,H,d,rfl,I.os,I.bare,u1,u2,⟨k1,hen,k2,k3⟩,dk ea _ he,u3,hE⟩
end
end L2
namespace Br
open PySem PySem.Spec PyProof.Rows L2
noncomputable abbrev pX(m:Int):HO:=.xd [("moment",.int m)]
def xH(C:Addr)(X:Cx)(E:L2.St->XK):Prop:=∀(yZ:List (Addr×Obj)) (σ:L2.St) (H:Hp) (s:Shared) (e:Value) (s':Shared),Inv X yZ σ H s->CXF X.prog X.w C X.stack H s (E σ) e s'->X.xe e s'
def tZe(C:Addr)(m:Int)(E:L2.St->XK)(R:Dm.Env->Option Dm.Env)(σ:L2.St)(H:Hp):Prop:=∃H0 ρ ρ',aK H0 H σ ρ/\R ρ=some ρ'/\∀d H0' H',ESt σ ρ H0 H ρ' H0' H'->H d=none->H0' d=some (pX m)->E σ (.ref C) (some d) H'
def tZ(C:Addr)(m:Int)(E:L2.St->XK)(R:Dm.Env->Option Dm.Env)(σ:L2.St)(H:Hp):Prop:=∃H0 ρ ρ',aK H0 H σ ρ/\R ρ=some ρ'/\∀σ' d H0' H',SSt σ ρ H0 H σ' ρ' H0' H'->H d=none->H0' d=some (pX m)->E σ' (.ref C) (some d) H'
def spF(C:Addr)(m:Int)(bad:List Dat->Bool):Sp:=fun vs H _ E=>∃H0 ds,aF H0 H/\aR H0 vs ds/\bad ds=true/\∀d H0' H',aX H0 H H0' H'->H d=none->H0' d=some (pX m)->E (.ref C) (some d) H'
noncomputable abbrev ZE(X:Cx)(C:Addr)(m:Int)(E:L2.St->XK)(e:Expr)(R:Dm.Env->Option Dm.Env):Prop:=PE X e (fun σ H _=>tZe C m E R σ H)
noncomputable abbrev ZS(X:Cx)(C:Addr)(m:Int)(E:L2.St->XK)(st:Stmt)(R:Dm.Env->Option Dm.Env):Prop:=PS X st (fun _ σ H=>tZ C m E R σ H)
noncomputable abbrev ZB(X:Cx)(C:Addr)(m:Int)(E:L2.St->XK)(sts:List Stmt)(R:Dm.Env->Option Dm.Env):Prop:=PSs X sts (fun _ σ H=>tZ C m E R σ H)
theorem Bm{H1 H2 Hb H0' H':Hp}{d:Addr}{o:HO}(s:aF H1 Hb)(g:aX H2 Hb H0' H')(n:Hb d=none)(q:H0' d=some o):aX H1 Hb (upd H1 d o) H':=by
 have n1:H1 d=none:=s.free n;refine⟨fun a u e=>?_,g.s1,fun a u e=>?_,fun a u e=>?_⟩
 ·rw[ao fun z=>by rw[z,n1]at e;cases e];exact e
 ·by_cases z:a=d
  ·subst z;exact .inl n
  ·rw[ao z]at e;exact .inr e
 ·by_cases z:a=d
  ·subst z;rw[au]at e;cases e;exact g.s3 _ _ q
  ·rw[ao z]at e;exact g.s1 _ _ (s _ _ e)
section
variable{X:Cx}{C:Addr}{m:Int}{E:L2.St->XK}{k:Nat}{F:Addr}{fd:FuncData}{ps:List Str}{x:Str}{p pos:Pos}{e:Expr}{es:List Expr}{fs:List FE}{bad:List Dat->Bool}{R S:Dm.Env->Option Dm.Env}{st:Stmt}{sts Ca:List Stmt}
section
variable{σ:L2.St}{H:Hp}{t:FT}
theorem tZ.ex(h:tZ C m E R σ H):tZe C m E R σ H:=by obtain⟨H0,ρ,ρ',st,e,k⟩:=h;exact⟨H0,ρ,ρ',st,e,fun d H0' H' t n q=>k σ d H0' H' t.sst n q⟩
theorem Eh{yZ:List (Addr×Obj)}{σ:L2.St}{H:Hp}{s:Shared}{Q:VK}{us:List Value}{vs:List V}(G:bH X.prog X.w X.K X.mg X.base (CXF X.prog X.w C) k F fd ps (spF C m bad))(hr:bK k X.A)(hb:Binds X.K fd ps [])(hx:xH C X E)
  (I:Inv X yZ σ H s) (r:Vals vs us) (h:spF C m bad vs H Q (E σ)):wpAny (model X.prog X.w) X.A (call (.ref F) us) (EP X yZ σ Q) X.xe s:=by
 have hl:(us++[]).length=ps.length:=by rw[Oi,<- r.length];exact G.len _ _ _ _ h
 have hb':=hb s us I.kIn hl;rw[Oi]at hb';refine wpAny_call (codeAny_mono (G.run X.A X.stack s H ⟨us,[]⟩ us vs Q (E σ) hr I.C_ hb' r h) fun r s' hq=>?_);rcases r with e | (_ | _ | _ | u)
 ·exact hx yZ σ H s e s' I hq
 ·exact hq.elim
 ·exact hq.elim
 ·exact hq.elim
 ·exact I.after hq
theorem Ei(h:tZe C m E (Dm.dH bad fs) σ H)(Q:VK):tDA fs σ H fun vs H1=>spF C m bad vs H1 Q (E σ):=by
 obtain⟨H0,ρ,ρ',st,hR,k⟩:=h;unfold Dm.dH at hR;split at hR
 ·cases hR
 rename_i xs ρ1 e1;split at hR
 ·cases hR
 rename_i ds p1;split at hR
 case isFalse=>cases hR
 rename_i hbad;cases hR;refine⟨H0,ρ,xs,ρ',st,e1,fun vs H1 Hb t1 r1=>?_⟩;obtain⟨ρ2,e2⟩:=gD p1;obtain⟨H2,t2,b2,r2⟩:=takes t1 (aF.refl _) r1 e2;refine⟨H2,ds,t2.st.same,r2,hbad,fun d H0' H' g n q=>?_⟩;exact k d _ H' (t1.trans (.grow t1.st (Bm t1.st.same g n q))) (t1.stp.gone n) au
theorem Bo(G:bH X.prog X.w X.K X.mg X.base (CXF X.prog X.w C) k F fd ps (spF C m bad))(hr:bK k X.A)(hg:Gl X x)(hm:X.mg x=some (.ref F))(hk:Ot X.K (.ref F)=true)(hb:Binds X.K fd ps [])(hx:xH C X E)
  (ha:DA X (e::es) fs) (Lh:(x == ("__debug__" : Str))=false:=by decide) (he:starEach (e::es) X.env=(false,eval e X.env)::starEach es X.env:=by rfl) (Il:(backTo pos (starEach es X.env)).any (·.1)=false:=by rfl) :
  ZE X C m E (.Call (.Name x p) (e::es) [] pos) (Dm.dH bad fs):=by
 intro yZ s σ H Q I h;refine wpAny_Call_Name_kw (fC I hg hm ?_ Lh);refine Pn (h₀:=X.base) I.ok.mod.kin hk (thn (ha pos yZ s σ H _ I (Ei h Q)) fun us s1 ⟨vs,H1,I1,r,q⟩=>⟨I1.kIn,?_⟩) he Il;exact Eh G hr hb hx I1 r q
theorem Ii(h:ZE X C m E e R)(hs:swapsWith e none pos.line X.env=pure false:=by rfl):ZS X C m E (.Expr e pos) R:=PS.weak (kH h hs) fun _ _ _ q=>q.ex
theorem z_a(i:Nat){x:Str}{pos':Pos}(hN:X.N.Nodup)(he:ZE X C m E e R)(hi:X.N[i]?=some x:=by rfl)(hx:Loc X.env.scope x:=by trivial)(hs:swapsWith e (some (.Name x pos')) pos.line X.env=pure false:=by rfl)
  (hf:X.fn x=true\/X.env.scope.names.lookup x=some .local:=by trivial):ZS X C m E (.Assign [.Name x pos'] e pos) R:=PS.weak (u7 hN hi hx he hs hf) fun _ _ _ q=>q.ex
theorem xJ(h:ZS X C m E st R):ZB X C m E (st::Ca) R:=by have:=tQ (Ca:=Ca) h;exact fun yZ s σ H D I q=>this yZ s σ H D I q
theorem FG{f:FS}(h1:DS X st f)(h2:ZB X C m E Ca R):ZB X C m E (st::Ca) (Dm.kZ f R):=PSs.weak (ig h1 h2) fun D σ H q=>by
 obtain⟨H0,ρ,ρ',rs,e,k⟩:=q;unfold Dm.kZ at e;split at e
 case h_2=>cases e
 rename_i ρ1 hs;exact⟨H0,ρ,_,rs,hs,fun σ' H0' H' t=>⟨H0',ρ1,ρ',t.st,e,fun σ'' d jF H'' u n w=>k σ'' d jF H'' (t.trans u) (t.stp.gone n) w⟩⟩
theorem MY:ZB X C m E sts Dm.rNo:=fun yZ s σ H D I h=>by obtain⟨_,_,_,_,e,_⟩:=h;cases e
theorem K8(h:tZ C m E (Dm.rIf t R S) σ H):tDT t σ H fun b H1=>if b=true then tZ C m E R σ H1 else tZ C m E S σ H1:=by
 obtain⟨H0,ρ,ρ',rs,e,k⟩:=h;unfold Dm.rIf at e;split at e
 ·cases e
 ·rename_i ρ1 ht;exact⟨H0,ρ,true,ρ1,rs,ht,fun H0' H' u=>by show (if true=true then _ else _);rw[if_pos rfl];exact⟨H0',ρ1,ρ',u.st,e,fun σ'' d jF H'' w n q=>k σ'' d jF H'' (u.sst.trans w) (u.stp.gone n) q⟩⟩
 ·rename_i ρ1 ht;exact⟨H0,ρ,false,ρ1,rs,ht,fun H0' H' u=>by show (if false=true then _ else _);rw[if_neg (by decide)];exact⟨H0',ρ1,ρ',u.st,e,fun σ'' d jF H'' w n q=>k σ'' d jF H'' (u.sst.trans w) (u.stp.gone n) q⟩⟩
theorem MZ{c:Expr}{a b:List Stmt}(hc:DT X c t)(ha:ZB X C m E a R)(hb:ZB X C m E b S):ZS X C m E (.If c a b pos) (Dm.rIf t R S):=PS.weak (zH hc ha hb) fun _ _ _ q=>K8 q
end
end
theorem Bp{C:Addr}{m:Int}{E:XK}{f:FE}{σ:L2.St}{H:Hp}(h:tZ C m (fun _=>E) (Dm.lT f m) σ H) :
  tD f σ H fun v H1=>∃i:Int,[v]=[V.int i]/\∀d,H1 d=none->E (.ref C) (some d) (upd H1 d (pX i)):=by
 obtain⟨H0,ρ,ρ',st,e,k⟩:=h;unfold Dm.lT at e;split at e
 case h_2=>cases e
 rename_i i ρ1 hf;split at e
 case isFalse=>cases e
 rename_i hm;subst hm;cases e;refine⟨H0,ρ,_,_,st,hf,fun v H0' H' t r=>?_⟩;have r':Rep H0' v (.int i):=r;cases r';exact⟨i,rfl,fun d n=>k σ d (upd H0' d (pX i)) (upd H' d (pX i)) (t.sst.trans (ESt.grow t.st (aX.yE t.st.same n)).sst) (t.stp.gone n) au⟩
section
variable{P:Program}{w:World}{K:eg}{mg:Str->Option Value}{base:Heap}{N:List Str}{qual:Str}{scope:Scope}{f:Addr}{cd:Value}{A:Around}{outer:List Env}{s₀:Shared}{H₀:Hp}{E:XK}{C:Addr}{m:Int}
theorem Ej{x:Str}{fI:Addr}{bmB:List Value}{B newId initId:String}{np cpos pos:Pos}{e:Expr}{fe:FE}{k:Nat}{fd:FuncData}{ps:List Str}
  (hc:(dF (CXF P w C) P w K mg base N qual scope f cd A outer s₀ H₀ E).calm=true) (O:Ef x C fI bmB newId K mg base) (FB:ExcBaseFacts B newId initId bmB) (hg:Gl (dF (CXF P w C) P w K mg base N qual scope f cd A outer s₀ H₀ E) x)
  (G:bH P w K mg base CX0 k fI fd ps (rN C)) (hr:bK (k+1) (dF (CXF P w C) P w K mg base N qual scope f cd A outer s₀ H₀ E).A) (hb:Binds K fd ps []) (he:DE (dF (CXF P w C) P w K mg base N qual scope f cd A outer s₀ H₀ E) e fe)
  (Lh:(x == ("__debug__" : Str))=false:=by decide) (hs:starEach [e] (dF (CXF P w C) P w K mg base N qual scope f cd A outer s₀ H₀ E).env=(false,eval e (dF (CXF P w C) P w K mg base N qual scope f cd A outer s₀ H₀ E).env)::starEach [] (dF (CXF P w C) P w K mg base N qual scope f cd A outer s₀ H₀ E).env:=by rfl)
  (Il:(backTo cpos (starEach [] (dF (CXF P w C) P w K mg base N qual scope f cd A outer s₀ H₀ E).env)).any (·.1)=false:=by rfl) :
  ZS (dF (CXF P w C) P w K mg base N qual scope f cd A outer s₀ H₀ E) C m (fun _=>E) (.Raise (some (.Call (.Name x np) [e] [] cpos)) none pos) (Dm.lT fe m):=
 PS.weak (yY (post:=fun _ i H1=>∀d,H1 d=none->E (.ref C) (some d) (upd H1 d (pX i))) rfl hc hg O FB G hr hb he (fun yZ σ H1 s ea d t0 sl i I hp nd hea n0 nH ne=>Bl I hea n0 (by rw[ao (N2 ne)];exact nH) (hp d nd)) Lh hs Il) fun _ _ _ q=>Bp q
end
section
variable{R:Dm.Env->Option Dm.Env}{C:Addr}{vs:List V}{H:Hp}{n m:Nat}{i:Int}{E:XK}{Q:VK}
theorem xK(h:spF C i (Dm.fnX n m R) vs H Q E):vs.length=n:=by obtain⟨H0,ds,s,rs,e,k⟩:=h;unfold Dm.fnX at e;rw[NF,decide_eq_true_eq]at e;rw[rs.length];exact e.1
theorem K9{N:List Str}(hm:N.length=n+m)(h:spF C i (Dm.fnX n m R) vs H Q E):tZ C i (fun _=>E) R (start N vs) H:=by have hvn:=xK h;obtain⟨H0,ds,s,rs,e,k⟩:=h;unfold Dm.fnX at e;rw[NF]at e;obtain⟨st,no⟩:=tR hm hvn s rs;obtain⟨ρ',hR⟩:=NR.mp e.2;exact⟨H0,_,ρ',st,hR,fun σ' d H0' H' t n q=>k d H0' H' ⟨t.stp.s0,fun a o e=>t.stp.s1 a o e (no a),fun a o e=>(t.stp.s2 a o e).imp id fun q=>q.elim id fun z=>absurd z (no a),t.st.same⟩ n q⟩
theorem okZ{P:Program}{w:World}{K:eg}{mg:Str->Option Value}{base:Heap}{x qual:Str}{st:Stmt}{f C:Addr}{i:Int}{fd:FuncData}{N ps:List Str}{k n m:Nat}{R:Dm.Env->Option Dm.Env}(F:Fun K x qual st f fd)(S:aP N ps (ai st))(hn:ps.length=n)(hm:N.length=n+m)
  (hbody:∀(cdv:Value) (A:Around) (outer:List Env) (s:Shared) (H:Hp) (E:XK),bK k (A.deeper (envOfC qual (ai st) s.heap.objs.size f cdv))->ZB (dF (CXF P w C) P w K mg base N qual (ai st) f cdv A outer s H E) C i (fun _=>E) (bD st) R) :
  bH P w K mg base (CXF P w C) (k+1) f fd ps (spF C i (Dm.fnX n m R)):=by
 obtain⟨oc,od,kV,doc,pm,an,cdv,ct,osl,rfl,lk,Lp⟩:=F.ex;refine wN lk Lp S (fun vs H Q E h=>(xK h).trans hn.symm) fun A outer s H vs Q E hr hsp=>?_;exact⟨_,hbody cdv A outer s H E hr,K9 hm hsp⟩
def xM(X:Cx)(C:Addr)(hs hs':List ExceptHandler):Prop:=∀(yZ:List (Addr×Obj)) (σ:L2.St) (H:Hp) (ea:Addr) (h:Heap) (g:Array GenState) (d:Drawn) (t:Nat) (os:OsState) (Q:Flow->Shared->Prop),
 Inv X yZ σ H ⟨h,g,d,t,os⟩->(∃o,h.get? ea=some o/\o.cls=.ref C)->wpAny (model X.prog X.w) X.A (handleBy (.ref ea) X.env hs') Q X.xe ⟨h,g,d,t,os⟩->wpAny (model X.prog X.w) X.A (handleBy (.ref ea) X.env hs) Q X.xe ⟨h,g,d,t,os⟩
theorem xM.refl{X:Cx}{hs:List ExceptHandler}:xM X C hs hs:=fun _ _ _ _ _ _ _ _ _ _ _ _ w=>w
theorem φXF_ok{P:Program}{w:World}{h:Heap}{ea C d:Addr}{o:Obj}(e:h.get? ea=some o)(c:o.cls=.ref C)(k:o.dict=some d)(n:∀c,o.data≠.cls c):br P w H h ea (φXF ea C d):=by refine⟨⟨o,e,c,k,n⟩,⟨o,e⟩,fun h1 h2 ⟨o1,e1,c1,k1⟩ z=>⟨o1,z _ e1,c1,k1⟩⟩
end
section
variable{X:Cx}{yZ pn:List (Addr×Obj)}{σ:L2.St}{H:Hp}{s:Shared}{xe:Value->Shared->Prop}
theorem Ij{x n:Str}{np hpos pos:Pos}{body suite:List Stmt}{b₀:Stmt}{R:Dm.Env->Option Dm.Env}{h:FS}{C CP:Addr}{m:Int}{ie:Nat}{hs hr:List ExceptHandler}{h1:ExceptHandler}
  (hst:X.stack=X.env::X.outer) (hfr:X.env.frame=some X.env.locals) (hex:X.ex=[]) (hN:X.N.Nodup) (hi:X.N[ie]?=some n) (hk:X.env.kindOf n=some .local) (hg:Gl X x) (hm:X.mg x=some (.ref CP)) (Z:PySem.W.fW X.K C CP)
  (hb:∀(pn:List (Addr×Obj)) (xe:Value->Shared->Prop) (E:L2.St->XK),xH C (Cx.in' X pn xe) E->ZB (Cx.in' X pn xe) C m E body R)
  (hl:xM X C (h1::hs) (.ExceptHandler (some (.Name x np)) (some n) (b₀::suite) hpos::hr))
  (hh:∀(A':Around) (xe:Value->Shared->Prop),DSs (Cx.sub' X A' xe) (b₀::suite) h) (Lh:(x == ("__debug__" : Str))=false:=by decide) :
  DS X (.Try body (h1::hs) [] [] pos) (Dm.k8 R (.bC C m) ie h):=by
 intro yZ s σ H D I hq;obtain⟨H0,ρ,o,st,e,ok⟩:=hq;unfold Dm.k8 at e;split at e
 ·cases e
 rename_i ρ1 hR;split at e
 ·cases e
 rename_i h0;refine wpAny_Try_except ?_;refine wpAny_mono (hb yZ (fun e s₁=>wpAny (model X.prog X.w) X.A (noteFrame e X.env) (fun _ s₂=>wpAny (model X.prog X.w) X.A (setFlight e none) (fun _ s₃=>wpAny (model X.prog X.w) X.A (handleBy e X.env (h1::hs)) (SP X yZ D) X.xe s₃) X.xe s₂) X.xe s₁)
  (fun σ' _ od H'=>∃H0' dd,od=some dd/\H0' dd=some (pX m)/\SSt σ ρ H0 H σ' ρ1 H0' H') ?pass [] s σ H DF (vH I) ⟨H0,ρ,ρ1,st,hR,fun σ' a H0' H' t n q=>⟨H0',a,rfl,q,t⟩⟩) ?q fun _ _ z=>z
 case q=>
  intro f s1 z;cases f with
  |next=>obtain⟨_,_,_,q⟩:=z;exact NH q
  |ret v=>obtain⟨_,_,_,_,_,q⟩:=z;exact NH q
  |brk=>obtain⟨_,_,_,q⟩:=z;exact NH q
  |cont=>obtain⟨_,_,_,q⟩:=z;exact NH q
 case pass=>
  intro K3 σ1 H1 s1 e s' I1 hq;obtain⟨ea,a0,B,H',dd,rfl,os,bare,un,hok,fl,⟨oD,heD,hdD⟩,hB,H0',_,hdd,hfd,t1⟩:=hq;cases hdd;obtain⟨hh',g,d,t,os'⟩:=s';obtain rfl:os'=s1.os:=os;have J:Inv X yZ σ1 H' ⟨hh',g,d,t,s1.os⟩:=fX (I1.call (h':=hh') (g':=g) (d':=d) (t':=t) (ch:=[]) un hok bare (fun b z=>absurd z (by simp)));have J1:Inv X yZ σ1 H1 s1:=fX I1;have vK:∀b o,X.s₀.heap.get? b=some o->∃o1,s1.heap.get? b=some o1:=fun b o e=>J1.base.there b o e (by rw[hex];exact fun z=>nomatch z);have hB':∀b o,hh'.get? b=some o->b∉frs X.stack->((X.s₀.heap.get? b).isSome=true\/(H' b).isSome=true\/∃p∈X.pn++yZ,p.1=b)->B.get? b=some o:=fun b o e nb hc=>by
   refine hB b o e ?_ nb;rcases hc with hc | hc | ⟨p,hp,rfl⟩
   ·obtain⟨o0,e0⟩:=NR.mp hc;obtain⟨o1,e1⟩:=vK b o0 e0;exact .inl (by rw[e1];rfl)
   ·exact .inr hc
   ·exact .inl (by rw[(J1.pin p hp).1];rfl)
  have hfs:X.A.frames=some (X.env::X.outer):=by rw[J.ok.frames,hst]
  have fl':Pq B (X.env::X.outer) ea (.ref C) a0 hh':=by rw[<- hst];exact fl
  show wpAny (model X.prog X.w) X.A (noteFrame (.ref ea) X.env) _ _ _;refine wpAny_mono (k9 (ug _ _) (wpAny_looks_onW (M:=model X.prog X.w) (E:=X.xe) (base:=B) (L:=X.env.locals) (Q:=fun _ s'=>∃h4,Heap.HeldW B (X.env::X.outer) ea (.ref C) a0 X.env.locals h4/\hh'.UpToSlots h4/\s'=⟨h4,g,d,t,s1.os⟩) hfs hfr fl' fun h4 held sl4=>⟨h4,held,sl4,rfl⟩)) (fun _ s4 z4=>?_) fun _ _ z=>z;obtain⟨⟨h4,held,sl4,rfl⟩,dk4⟩:=z4;refine wpAny_mono (k9 (jI _ _) (wpAny_landsW (M:=model X.prog X.w) (E:=X.xe) (Q:=fun _ s'=>∃h5,Pq B (X.env::X.outer) ea (.ref C) a0 h5/\h4.UpToSlots h5/\s'=⟨h5,g,d,t,s1.os⟩) held fun h5 fl5 sl5=>⟨h5,fl5,sl5,rfl⟩)) (fun _ s5 z5=>?_) fun _ _ z=>z;obtain⟨⟨h5,fl5,sl5,rfl⟩,dk5⟩:=z5;have J5:Inv X yZ σ1 H' ⟨h5,g,d,t,s1.os⟩:=J.fly (t':=t) hex hB' fl5.1 (sl4.trans sl5);obtain⟨oe,vs,he,hc,hd,_⟩:=fl'.first
  have neF:ea∉frs X.stack:=fun z=>by rw[hst]at z;obtain⟨_,o',ho',hd'⟩:=fl'.2.2.1.mem z;rw[he]at ho';cases ho';exact hd' vs hd
  have noB:B.get? ea=none:=fl'.2.1;have nH:H' ea=none:=by
   cases q:H' ea with
   |none=>rfl
   |some u=>have:=hB' ea oe he neF (.inr (.inl (by rw[q];rfl)));rw[noB]at this;cases this
  have n0:X.s₀.heap.get? ea=none:=by
   cases q:X.s₀.heap.get? ea with
   |none=>rfl
   |some u=>have:=hB' ea oe he neF (.inl (by rw[q];rfl));rw[noB]at this;cases this
  have nl:ea≠X.env.locals:=fun z=>by obtain⟨m,⟨o,es,ep,ho,hd',_⟩,_⟩:=J.loc;rw[<- z,he]at ho;cases ho;rw[hd]at hd';cases hd'
  have nc:∀y c,X.env.cells.lookup y=some c->c≠ea:=fun y c e z=>by obtain⟨v,o,ho,hd'⟩:=J.cell y c e;rw[z,he]at ho;cases ho;rw[hd]at hd';cases hd'
  have np:∀p∈X.pn++yZ,p.1≠ea:=fun p hp z=>by have:=hB' ea oe he neF (.inr (.inr ⟨p,hp,z⟩));rw[noB]at this;cases this
  have hB5:∀b o,h5.get? b=some o->b∉frs X.stack->((X.s₀.heap.get? b).isSome=true\/(H' b).isSome=true\/∃p∈X.pn++yZ,p.1=b)->B.get? b=some o:=fun b o e nb Lp=>by
   have:∃o',hh'.get? b=some o':=by
    rcases Lp with hc | hc | ⟨p,hp,rfl⟩
    ·obtain⟨o0,e0⟩:=NR.mp hc;exact J.base.there b o0 e0 (by rw[hex];exact fun z=>nomatch z)
    ·obtain⟨u,e0⟩:=NR.mp hc;exact(J.hok b u e0).there
    ·exact⟨_,(J.pin p hp).1⟩
   obtain⟨o',e'⟩:=this;have q:=hB' b o' e' nb Lp;have q2:=fl5.1 b o' q;rw[e]at q2;cases q2;exact q
  obtain⟨oe5,he5,hc5⟩:=fl5.there;refine hl yZ σ1 H' ea h5 g d t s1.os _ J5 ⟨oe5,he5,hc5⟩ ?_;refine wpAny_handleBy_cons (codeAny_handlers_test ?_) (by intro q;cases q);refine fC (X:=Cx.sub' X (X.A.mark (some (.ref ea))) X.xe) (ng rfl J5) hg hm ?_ Lh;refine PySem.W.mE Z J5.kIn ⟨oe5,he5,hc5⟩ ?_;refine codeAny_handlers_suite_as ?_;refine wpAny_mono (k9 (jI _ _) (lands_againW (M:=model X.prog X.w) (E:=notedBy (model X.prog X.w) (X.A.mark (some (.ref ea))) X.env _) (Q:=fun _ s'=>∃h6,Pq B (X.env::X.outer) ea (.ref C) a0 h6/\h5.UpToSlots h6/\s'=⟨h6,g,d,t,s1.os⟩) fl5 fun h6 fl6 sl6=>⟨h6,fl6,sl6,rfl⟩)) (fun _ s6 z6=>?_) fun _ _ z=>z;obtain⟨⟨h6,fl6,sl6,rfl⟩,dk6⟩:=z6;have J6:Inv X yZ σ1 H' ⟨h6,g,d,t,s1.os⟩:=J5.fly (t':=t) hex hB5 fl6.1 sl6;obtain⟨oe6,he6,hc6⟩:=fl6.there;have hd6:oe6.dict=some dd:=by obtain⟨o4,e4,d4⟩:=dk4 ea oD heD;obtain⟨o5,e5,d5⟩:=dk5 ea o4 e4;obtain⟨o6,e6,d6⟩:=dk6 ea o5 e5;rw[he6]at e6;cases e6;exact d6.trans (d5.trans (d4.trans hdD))
  have hn6:∀c,oe6.data≠.cls c:=by
   obtain⟨oq,vq,hq1,_,hq2,_⟩:=fl6.first
   rw[he6]at hq1;cases hq1;intro c z;rw[hq2]at z;cases z
  have ned:dd≠ea:=fun z=>by rw[<- z,t1.st.same _ _ hfd]at nH;cases nH
  have J7:=J6.A5 (o:=φXF ea C dd) nH (φXF_ok he6 hc6 hd6 hn6) n0 nl nc np;refine jf J7 hN hi (.inl hk) (v:=.ref ea) rfl (fun s8 J8 _=>?_) (.inr hk);have t12:SSt σ ρ H0 H σ1 ρ1 (upd H0' ea (φXF ea C dd)) (upd H' ea (φXF ea C dd)):=t1.trans (ESt.grow t1.st (aX.yE t1.st.same nH)).sst;have rep:Rep (upd H0' ea (φXF ea C dd)) (V.ref ea) (.bC C m):=.bC au ((ao ned).trans hfd);have rF:SSt σ1 ρ1 (upd H0' ea (φXF ea C dd)) (upd H' ea (φXF ea C dd)) (σ1.set ie (some (.ref ea))) (ρ1.set ie (.sh (.bC C m))) (upd H0' ea (φXF ea C dd)) (upd H' ea (φXF ea C dd)):=
   ⟨t12.st.nN rep,Stp.refl _ _ _,fun a z=>.inl (dW z),gc h0⟩
  have Ll:∀(oh:Dm.Out),h (ρ1.set ie (.sh (.bC C m)))=some oh->(∀(D':Ends),(∀σ' H3,(∃ρ' H03,oh=.nx ρ'/\SSt (σ1.set ie (some (.ref ea))) (ρ1.set ie (.sh (.bC C m))) (upd H0' ea (φXF ea C dd)) (upd H' ea (φXF ea C dd)) σ' ρ' H03 H3)->D'.nx σ' H3)->(∀v H3,(∃z ρ' σ' H03,oh=.ret z ρ'/\SSt (σ1.set ie (some (.ref ea))) (ρ1.set ie (.sh (.bC C m))) (upd H0' ea (φXF ea C dd)) (upd H' ea (φXF ea C dd)) σ' ρ' H03 H3/\sZ (σ1.set ie (some (.ref ea))) (ρ1.set ie (.sh (.bC C m))) (upd H' ea (φXF ea C dd)) H03 H3 v z/\∀d a,z=.new d->v=.ref a->¬aE σ' ρ' a)->D'.rt v H3)->(∀ρ',oh≠.bk ρ')->(∀ρ',oh≠.ct ρ')->mh D' (σ1.set ie (some (.ref ea))) (ρ1.set ie (.sh (.bC C m))) (upd H0' ea (φXF ea C dd)) (upd H' ea (φXF ea C dd)) oh):=fun oh _ D' hn hr hb hc=>by
   cases oh with
   |nx ρ'=>exact fun σ' H03 H3 tt=>hn σ' H3 ⟨ρ',H03,rfl,tt⟩
   |bk ρ'=>exact absurd rfl (hb ρ')
   |ct ρ'=>exact absurd rfl (hc ρ')
   |ret z ρ'=>exact fun σ' v H03 H3 tt rr no=>hr v H3 ⟨z,ρ',σ',H03,rfl,tt,rr,no⟩
  cases hoh:h (ρ1.set ie (.sh (.bC C m))) with
  |none=>rw[hoh]at e;cases e
  |some oh=>
  rw[hoh]at e;have nb:∀ρ',oh≠.bk ρ':=fun ρ' z=>by rw[z]at e;cases e
  have nc':∀ρ',oh≠.ct ρ':=fun ρ' z=>by rw[z]at e;cases e
  refine wpAny_mono (hh (X.A.mark (some (.ref ea))) _ yZ s8 _ _ { nx:=fun σ' H3=>∃ ρ' H03,oh=.nx ρ'∧SSt (σ1.set ie (some (.ref ea))) (ρ1.set ie (.sh (.bC C m))) (upd H0' ea (φXF ea C dd)) (upd H' ea (φXF ea C dd)) σ' ρ' H03 H3,rt:=fun v H3=>∃ z ρ' σ' H03,oh=.ret z ρ'∧SSt (σ1.set ie (some (.ref ea))) (ρ1.set ie (.sh (.bC C m))) (upd H0' ea (φXF ea C dd)) (upd H' ea (φXF ea C dd)) σ' ρ' H03 H3∧sZ (σ1.set ie (some (.ref ea))) (ρ1.set ie (.sh (.bC C m))) (upd H' ea (φXF ea C dd)) H03 H3 v z∧∀ d a,z=.new d→v=.ref a→¬ aE σ' ρ' a,bk:=fun _ _=>False,ct:=fun _ _=>False } (ng rfl J8)
   ⟨_,_,_,rF.st,hoh,Ll oh hoh _ (fun _ _ z=>z) (fun _ _ z=>z) nb nc'⟩) (fun f s4 z=>?_) fun _ _ z=>z
  cases f with
  |next=>obtain⟨σ',H3,I4,ρ',H03,rfl,tt⟩:=z;cases e;refine name_goes (jl J.ok I4) hN hi hk fun s9 J9=>?_;exact⟨σ'.set ie none,H3,J9,ok _ _ _ (t12.trans (rF.trans (tt.trans (SSt.drop tt.st h0))))⟩
  |ret v=>
   obtain⟨u,σ0,H3,I4,rl,z,ρ',σ',H03,rfl,tt,rr,no⟩:=z;cases e;refine name_goes (jl J.ok I4) hN hi hk fun s9 J9=>?_;refine⟨u,σ0.set ie none,H3,J9,rl,ok _ _ _ _ (t12.trans (rF.trans (tt.trans (SSt.drop tt.st h0)))) ?_ ?_⟩
   ·cases z with
    |val d=>exact rr
    |new d=>
     obtain⟨a,ea',n,n0',w⟩:=rr;refine⟨a,ea',?_,n0',w⟩;have tp:=t12.trans rF;rcases n with n | n
     ·exact .inl (tp.stp.gone n)
     ·exact(tp.own a n).symm
   ·intro d a hz hv ho;obtain⟨j,d',h1,h2⟩:=ho;refine no d a hz hv ?_;by_cases hj:ie=j
    ·subst hj;rw[ON]at h1;simp only[if_true]at h1;split at h1<;>cases h1
    ·rw[gc hj]at h1 h2;exact⟨j,d',h1,h2⟩
  |brk=>obtain⟨_,_,_,q⟩:=z;exact NH q
  |cont=>obtain⟨_,_,_,q⟩:=z;exact NH q
theorem Bq{st:Stmt}{R:Int->Dm.Env->Option Dm.Env}{h:FS}{C ie:Nat}(hb:∀m,DS X st (Dm.k8 (R m) (.bC C m) ie h)):DS X st (Dm.mH R C ie h):=fun yZ s σ H D I q=>by
 obtain⟨H0,ρ,o,rs,e,k⟩:=q;unfold Dm.mH at e;split at e
 ·exact hb _ yZ s σ H D I ⟨H0,ρ,o,rs,e,k⟩
 ·cases e
end
end Br
namespace PySem.W
open PySem PySem.Spec PySem.Calls PyProof.Rows
section
variable{prog:Program}{w:World}{A:Around}{E:Value->Shared->Prop}{K:Frag}{x C:Addr}{ox:Obj}{od:Option Obj}{h:Heap}{g:Array GenState}{d:Drawn}{t:Nat}{os:OsState}{name:Str}{v:Value}{expr:Bool}
theorem Ik{Q:Value->Shared->Prop}(Z:gH K C)(X:K.In h)(I:InstAt h x ox C od)(hf:findObj K C od name=some (.value v))(hh:handedIn v=true)(hq:Q v ⟨h,g,d,t+1,os⟩) :
  wpAny (model prog w) A (getAttr (.ref x) name expr) Q E ⟨h,g,d,t,os⟩:=by
 have J:n9 x C h:=⟨ox,I.at_,I.cls⟩
 have Lt:Looks (model prog w) h (typeOf (.ref x)) (.ref C):=I.type;have Lg:=looks_findIn (M:=model prog w) X Z.ga;have Ln:=looks_findIn (M:=model prog w) X Z.gn;have Lf:=looks_find (M:=model prog w) X I hf;have Lb:Looks (model prog w) h (bindSpecial (.builtin "BaseException.__getattribute__") (.ref x)) (.builtin "BaseException.__getattribute__",[.ref x]):=PJ (OV.ga.bind (.ref x));have hx:(onTheHeap (NN C)&&OA "BaseException.__getattribute__" == OA "object.__getattribute__")=false:=by
  have:(OA "BaseException.__getattribute__" == OA "object.__getattribute__")=false:=by decide +kernel
  rw[this,Bool.and_false]
 have hy:(expr&&onTheHeap (OA "BaseException.__getattribute__"))=false:=by cases expr<;>rfl
 unfold getAttr getAttrBy;refine wpAny_bind (wpAny_mkText (wpAny_holding (wpAny_bind (Lt.at (wpAny_bind (Lg.at ?_))))));show wpAny _ _ (if (onTheHeap (NN C)&&OA "BaseException.__getattribute__" == OA "object.__getattribute__")=true then _ else _) _ _ _;rw[hx,if_neg (by decide)];unfold getAttrByItsOwn hookBefore callGetattribute;rw[hy];refine wpAny_bind ?_;show wpAny _ _ (typeLookup _ _) _ _ _;refine Ln.at (wpAny_bind (wpAny_attempt (wpAny_holding ?_)));show wpAny _ _ (boundAndCalled _ _ _) _ _ _;unfold boundAndCalled;refine wpAny_bind (Lb.at ?_);refine wpAny_call (codeAny_call_builtin OV.ga.plain PySem.F.entry_bexc_ga (tS Z X J ?_));unfold Builtin.«object.__getattribute__» slotArgs
 repeat lk
 show wpAny _ _ (handedOut v) _ _ _;rw[handedOut_of hh];exact wpAny_pure hq
end
end PySem.W
namespace Br
open PySem PySem.Spec PyProof.Rows L2
def M0(C:Addr)(ta:TE):TE:=fun σ H Q=>ta σ H fun x H1=>∃a d i,x=.ref a/\H1 a=some (φXF a C d)/\H1 d=some (pX i)/\Q (.int i) H1
section
variable{X:Cx}{C:Addr}{e:Expr}{f:FE}{pos:Pos}
theorem K_{σ:L2.St}{H:Hp}{Q:VK}(h:tD (Dm.e1 (Dm.Bd C) f) σ H Q):M0 C (tD f) σ H Q:=by
 obtain⟨H0,ρ,x,ρ',st,e,k⟩:=h;unfold Dm.e1 at e;split at e
 ·cases e
 rename_i x1 ρ1 e1;split at e
 ·cases e
 rename_i dx p1;cases dx with
 |bC C' mv=>
  unfold Dm.Bd at e;dsimp only at e;by_cases hC:C'=C
  ·subst hC;rw[if_pos rfl]at e;cases e;refine⟨H0,ρ,x1,_,st,e1,fun v H1 Hb t1 r1=>?_⟩;have rv:Rep Hb v (.bC C' mv):=(r1.look t1.st p1).full t1.st.same;cases rv with
   |bC q qd=>exact⟨_,_,_,rfl,q,qd,k _ H1 Hb t1 (Rep.int _)⟩
  ·rw[if_neg hC]at e;cases e
 |_=>cases e
theorem Ld(Z:PySem.W.gH X.K C)(hd:PB X.K C=true)(hf:N1 X.K (.ref C) "moment" = some none)(he:DE X e f)(hb:attributeBase e "moment" X.env (eval e X.env)=eval e X.env:=by rfl) :
  DE X (.Attribute e "moment" pos) (Dm.e1 (Dm.Bd C) f):=by
 intro yZ s σ H Q I h;refine C9 hb (thn (he yZ s σ H _ I (K_ h)) fun u s1 ⟨x,H1,I1,rx,a,d,i,ex,ha,hd',q⟩=>?_);subst ex;obtain rfl:u=NN a:=rx;obtain⟨o,eo,co,do',no⟩:=(I1.hok a _ ha).1;obtain⟨mA,ns,rel⟩:=(show br X.prog X.w H1 s1.heap d (pX i) from I1.hok d _ hd')
 obtain⟨od,hod,hl⟩:=p_ ns;have nc:PySem.W.notCls o=true:=by
  unfold PySem.W.notCls;split
  ·rename_i c hc;exact absurd hc (no c)
  ·rfl
 have J:PySem.W.InstAt s1.heap a o C (some od):=⟨eo,co,nc,by rw[do'];exact hod⟩
 obtain⟨u,hu,ru⟩:=jC.some_of (v:=.int i) (o:=mA "moment") (rel "moment");obtain⟨hp,g,dr,t,os⟩:=s1;exact PySem.W.Ik Z I1.kIn J (PySem.W.findObj_own hd hf rfl (by rw[hl,hu])) (yp ru) ⟨.int i,H1,I1.tok _,ru,q⟩
end
theorem xN{X:Cx}{x n:Str}{np hpos pos:Pos}{body suite:List Stmt}{b₀:Stmt}{R:Dm.Env->Option Dm.Env}{h:FS}{C CP:Addr}{m:Int}{ie:Nat}
  (hst:X.stack=X.env::X.outer) (hfr:X.env.frame=some X.env.locals) (hex:X.ex=[]) (hN:X.N.Nodup) (hi:X.N[ie]?=some n) (hk:X.env.kindOf n=some .local) (hg:Gl X x) (hm:X.mg x=some (.ref CP)) (Z:PySem.W.fW X.K C CP)
  (hb:∀(pn:List (Addr×Obj)) (xe:Value->Shared->Prop) (E:L2.St->XK),xH C (Cx.in' X pn xe) E->ZB (Cx.in' X pn xe) C m E body R)
  (hh:∀(A':Around) (xe:Value->Shared->Prop),DSs (Cx.sub' X A' xe) (b₀::suite) h) (Lh:(x == ("__debug__" : Str))=false:=by decide) :
  DS X (.Try body [.ExceptHandler (some (.Name x np)) (some n) (b₀::suite) hpos] [] [] pos) (Dm.k8 R (.bC C m) ie h):=Ij hst hfr hex hN hi hk hg hm Z hb xM.refl hh Lh
end Br
namespace Dm
section
variable{K:RV->Prop}{ρ:Env}{o p:Option Dat}{Q:Val->Env->Prop}{R:RV->Env->Prop}{N:Env->Prop}{B C:Env->Prop}{d:Dat}{i j:Int}{ds:List Dat}{f:List Dat->Option RV}{α:Type}{as:List FE}{a b:FE}{xs:List Val}{X Y:Prop}{vs:List Dat}{ks:List Int}{g:Dat->Option RV}{e:FE}{c:Bool}{body:FS}{v:RV}{t:FT}{ρ2 ρ3:Env}{n m:Nat}{s u:FS}{it:FI}{bd:FB}
def We(e:FE)(ρ:Env)(Q:Val->Env->Prop):Prop:=∃v ρ',e ρ=some (v,ρ')/\Q v ρ'
def Wt(t:FT)(ρ:Env)(Q:Bool->Env->Prop):Prop:=∃v ρ',t ρ=some (v,ρ')/\Q v ρ'
def Was(as:List FE)(ρ:Env)(Q:List Val->Env->Prop):Prop:=∃v ρ',eAs as ρ=some (v,ρ')/\Q v ρ'
def Wi(it:FI)(ρ:Env)(Q:List Dat->Env->Prop):Prop:=∃v ρ',it ρ=some (v,ρ')/\Q v ρ'
def KO(N:Env->Prop)(R:RV->Env->Prop)(B C:Env->Prop):Out->Prop
 |.nx ρ=>N ρ
 |.ret r ρ=>R r ρ
 |.bk ρ=>B ρ
 |.ct ρ=>C ρ
def Ws(s:FS)(ρ:Env)(N:Env->Prop)(R:RV->Env->Prop)(B C:Env->Prop):Prop:=∃o,s ρ=some o/\KO N R B C o
def Wr(o:Option RV)(P:RV->Prop):Prop:=∃r,o=some r/\P r
def Wif(c:Bool)(X Y:Prop):Prop:=(c=true->X)/\(c=false->Y)
def Wg1(g:Dat->Option RV)(o:Option Dat)(K:RV->Prop):Prop:=∃d v,o=some d/\g d=some v/\K v
def Wg2(g:Dat->Dat->Option RV)(o p:Option Dat)(K:RV->Prop):Prop:=∃d e v,o=some d/\p=some e/\g d e=some v/\K v
def WB(g:List Dat->Option RV)(o:Option (List Dat))(K:RV->Prop):Prop:=∃ds v,o=some ds/\g ds=some v/\K v
def WT(o:Option (List Dat×Env))(K:List Dat->Env->Prop):Prop:=∃ds ρ,o=some (ds,ρ)/\ds.length<=SZ/\K ds ρ
def WF(f:List Dat->Option RV)(ρ:Env)(xs:List Val)(Q:Val->Env->Prop):Prop:=∃ds v,pks ρ xs=some ds/\f ds=some v/\(if gu v.dat then ∃ds' ρ2,tks ρ xs=some (ds',ρ2)/\Q v.dc ρ2 else Q v.dc ρ)
def Wk(ρ:Env)(x:Val)(K:Dat->Env->Prop):Prop:=∃d ρ',tk ρ x=some (d,ρ')/\K d ρ'
theorem RG(x:X):Wif true X Y:=⟨fun _=>x,fun h=>by cases h⟩
theorem Ri(y:Y):Wif false X Y:=⟨fun h=>(by cases h),fun _=>y⟩
theorem R3(h:c=true)(x:X):Wif c X Y:=⟨fun _=>x,fun h'=>by rw[h]at h';cases h'⟩
theorem RB(h:c=false)(y:Y):Wif c X Y:=⟨fun h'=>(by rw[h]at h';cases h'),fun _=>y⟩
theorem RZ{p:Prop}[Decidable p](x:p->X)(y:¬p->Y):Wif (decide p) X Y:=⟨fun h=>x (of_decide_eq_true h),fun h=>y (of_decide_eq_false h)⟩
theorem N_{i:Nat}(h:ρ[i]?=some (.sh d))(q:Q (.val d) ρ):We (eV i) ρ Q:=⟨_,_,by unfold eV;rw[h],q⟩
theorem Rf{i:Nat}(h:ρ[i]?=some (.ow d))(q:Q (.slot i) ρ):We (eV i) ρ Q:=⟨_,_,by unfold eV;rw[h],q⟩
theorem P_(q:Q (.val d) ρ):We (eC d) ρ Q:=⟨_,_,rfl,q⟩
theorem Ry{a:FE}(h:We a ρ fun x ρ1=>Wg1 g (pk ρ1 x) fun v=>Q v.dc ρ1):We (e1 g a) ρ Q:=by obtain⟨x,ρ1,h1,d,v,h2,h3,q⟩:=h;exact⟨_,_,by unfold Dm.e1;rw[h1];dsimp only;rw[h2];dsimp only;rw[h3],q⟩
theorem Q0{g:Dat->Dat->Option RV}(h:We a ρ fun x ρ1=>We b ρ1 fun y ρ2=>Wg2 g (pk ρ2 x) (pk ρ2 y) fun v=>Q v.dc ρ2):We (e2 g a b) ρ Q:=by obtain⟨x,ρ1,h1,y,ρ2,h2,d,e,v,h3,h4,h5,q⟩:=h;exact⟨_,_,by unfold Dm.e2;rw[h1];dsimp only;rw[h2];dsimp only;rw[h3];dsimp only;rw[h4];dsimp only;rw[h5],q⟩
theorem O_{Q:List Val->Env->Prop}(q:Q [] ρ):Was [] ρ Q:=⟨_,_,rfl,q⟩
theorem m_{a:FE}{r:List FE}{Q:List Val->Env->Prop}(h:We a ρ fun x ρ1=>Was r ρ1 fun xs ρ2=>Q (x::xs) ρ2):Was (a::r) ρ Q:=by obtain⟨x,ρ1,h1,xs,ρ2,h2,q⟩:=h;exact⟨_,_,by unfold eAs;rw[h1];dsimp only;rw[h2],q⟩
theorem Rm{g:List Dat->Option RV}(h:Was as ρ fun xs ρ1=>WB g (pks ρ1 xs) fun v=>Q v.dc ρ1):We (eB g as) ρ Q:=by obtain⟨x,ρ1,h1,d,v,h2,h3,q⟩:=h;exact⟨_,_,by unfold eB;rw[h1];dsimp only;rw[h2];dsimp only;rw[h3],q⟩
theorem Rn(h:Was as ρ fun xs ρ1=>WT (tks ρ1 xs) fun ds ρ2=>Q (.val (.tup ds)) ρ2):We (bw as) ρ Q:=by obtain⟨x,ρ1,h1,ds,ρ2,h2,h3,q⟩:=h;exact⟨_,_,by unfold bw;rw[h1];dsimp only;rw[h2];dsimp only;rw[if_pos h3],q⟩
theorem Rx(h:Was as ρ fun xs ρ1=>WT (tks ρ1 xs) fun ds ρ2=>Q (.new (.lst ds)) ρ2):We (dP as) ρ Q:=by obtain⟨x,ρ1,h1,ds,ρ2,h2,h3,q⟩:=h;exact⟨_,_,by unfold dP;rw[h1];dsimp only;rw[h2];dsimp only;rw[if_pos h3],q⟩
theorem Q6{K:List Dat->Env->Prop}(k:K ds ρ3)(h:tks ρ xs=some (ds,ρ2))(hn:ρ2=ρ3)(hl:ds.length<=SZ):WT (tks ρ xs) K:=⟨_,_,hn▸h,hl,k⟩
theorem Rb(h:Was as ρ fun xs ρ1=>WF f ρ1 xs Q):We (eF f as) ρ Q:=by
 obtain⟨x,ρ1,h1,ds,v,h2,h3,h4⟩:=h;by_cases hb:gu v.dat=true
 ·rw[if_pos hb]at h4;obtain⟨ds',ρ2,h5,q⟩:=h4;exact⟨_,_,by unfold eF;rw[h1];dsimp only;rw[h2];dsimp only;rw[h3];dsimp only;rw[if_pos hb,h5],q⟩
 ·rw[if_neg hb]at h4;exact⟨_,_,by unfold eF;rw[h1];dsimp only;rw[h2];dsimp only;rw[h3];dsimp only;rw[if_neg hb],h4⟩
theorem Ru{ρ ρ2 ρ3:Env}{ds ds':List Dat}(h2:f ds=some v)(q:Q v.dc ρ3)(h1:pks ρ xs=some ds)(h3:gu v.dat=true)(h4:tks ρ xs=some (ds',ρ2))(hn:ρ2=ρ3):WF f ρ xs Q:=
 ⟨_,_,h1,h2,by rw[if_pos h3];exact⟨_,_,h4,hn▸q⟩⟩
theorem Q9(h2:f ds=some v)(q:Q v.dc ρ)(h1:pks ρ xs=some ds)(h3:gu v.dat=false):WF f ρ xs Q:=
 ⟨_,_,h1,h2,by rw[if_neg (by rw[h3];decide)];exact q⟩
theorem Se(h:Wt t ρ fun c ρ1=>Wif c (We a ρ1 Q) (We b ρ1 Q)):We (eIf t a b) ρ Q:=by
 obtain⟨c,ρ1,h1,h2,h3⟩:=h;cases c with
 |true=>obtain⟨v,ρ2,h4,q⟩:=h2 rfl;exact⟨_,_,by unfold eIf;rw[h1];exact h4,q⟩
 |false=>obtain⟨v,ρ2,h4,q⟩:=h3 rfl;exact⟨_,_,by unfold eIf;rw[h1];exact h4,q⟩
def Wb(v:Val)(K:Bool->Prop):Prop:=∃c,v=.val (.bl c)/\K c
theorem Q2{K:Bool->Prop}(k:K c):Wb (.val (.bl c)) K:=⟨c,rfl,k⟩
theorem RQ(h:We a ρ fun v ρ1=>Wb v fun c=>Wif c (We b ρ1 Q) (Q (.val (.bl false)) ρ1)):We (nJ a b) ρ Q:=by
 obtain⟨v,ρ1,h1,c,rfl,h2,h3⟩:=h;cases c with
 |true=>obtain⟨v,ρ2,h4,q⟩:=h2 rfl;exact⟨_,_,by unfold nJ;rw[h1];exact h4,q⟩
 |false=>exact⟨_,_,by unfold nJ;rw[h1],h3 rfl⟩
theorem Sw(h:We a ρ fun v ρ1=>Wb v fun c=>Wif c (Q (.val (.bl true)) ρ1) (We b ρ1 Q)):We (eOr a b) ρ Q:=by
 obtain⟨v,ρ1,h1,c,rfl,h2,h3⟩:=h;cases c with
 |false=>obtain⟨v,ρ2,h4,q⟩:=h3 rfl;exact⟨_,_,by unfold eOr;rw[h1];exact h4,q⟩
 |true=>exact⟨_,_,by unfold eOr;rw[h1],h2 rfl⟩
theorem Sn{a:FE}(h:We a ρ fun v ρ1=>Wb v fun c=>Q (.val (.bl (!c))) ρ1):We (pS a) ρ Q:=by obtain⟨v,ρ1,h1,c,rfl,h2⟩:=h;exact⟨_,_,by unfold pS;rw[h1],h2⟩
theorem Q7{a:FE}{Q:Bool->Env->Prop}(h:We a ρ fun v ρ1=>Wb v fun c=>Q c ρ1):Wt (tV a) ρ Q:=by obtain⟨v,ρ1,h1,c,rfl,h2⟩:=h;exact⟨_,_,by unfold tV;rw[h1],h2⟩
theorem Rw{Q:Bool->Env->Prop}(h:Wt t ρ fun c ρ1=>Q (!c) ρ1):Wt (fK t) ρ Q:=by obtain⟨v,ρ1,h1,h2⟩:=h;exact⟨_,_,by unfold fK;rw[h1],h2⟩
theorem RE{t u:FT}{Q:Bool->Env->Prop}(h:Wt t ρ fun c ρ1=>Wif c (Wt u ρ1 Q) (Q false ρ1)):Wt (g8 t u) ρ Q:=by
 obtain⟨c,ρ1,h1,h2,h3⟩:=h;cases c with
 |true=>obtain⟨v,ρ2,h4,q⟩:=h2 rfl;exact⟨_,_,by unfold g8;rw[h1];exact h4,q⟩
 |false=>exact⟨_,_,by unfold g8;rw[h1],h3 rfl⟩
theorem R5{t u:FT}{Q:Bool->Env->Prop}(h:Wt t ρ fun c ρ1=>Wif c (Q true ρ1) (Wt u ρ1 Q)):Wt (tOr t u) ρ Q:=by
 obtain⟨c,ρ1,h1,h2,h3⟩:=h;cases c with
 |false=>obtain⟨v,ρ2,h4,q⟩:=h3 rfl;exact⟨_,_,by unfold tOr;rw[h1];exact h4,q⟩
 |true=>exact⟨_,_,by unfold tOr;rw[h1],h2 rfl⟩
theorem SS{a:FE}{Q:Bool->Env->Prop}(h:We a ρ fun x ρ1=>∃d c,pk ρ1 x=some d/\truth d=some c/\Q c ρ1):Wt (tTr a) ρ Q:=by obtain⟨x,ρ1,h1,d,c,h2,h3,q⟩:=h;exact⟨_,_,by unfold tTr;rw[h1];dsimp only;rw[h2];dsimp only;rw[h3],q⟩
theorem Sq{Q:Bool->Env->Prop}(q:Q true ρ):Wt gX ρ Q:=⟨_,_,rfl,q⟩
theorem Rg{K:Dat->Env->Prop}(k:K d ρ):Wk ρ (.val d) K:=⟨_,_,rfl,k⟩
theorem RT{K:Dat->Env->Prop}(k:K d ρ):Wk ρ (.new d) K:=⟨_,_,rfl,k⟩
noncomputable def Ek:Dat->Option (List Dat)
 |.lst ds=>some ds
 |.tup ds=>some ds
 |_=>none
theorem SM{a:FE}{Q:List Dat->Env->Prop}(h:We a ρ fun x ρ1=>Wk ρ1 x fun d ρ2=>∃ds,Ek d=some ds/\Q ds ρ2):Wi (iS a) ρ Q:=by
 obtain⟨x,ρ1,h1,d,ρ2,h2,ds,hd,q⟩:=h;cases d with
 |lst xs=>cases hd;exact⟨_,_,by unfold iS;rw[h1];dsimp only;rw[h2],q⟩
 |tup xs=>cases hd;exact⟨_,_,by unfold iS;rw[h1];dsimp only;rw[h2],q⟩
 |_=>cases hd
def cy(v:Val)(K:Int->Prop):Prop:=∃i,v=.val (.int i)/\K i
theorem cy.mk{i:Int}{K:Int->Prop}(k:K i):cy (.val (.int i)) K:=⟨i,rfl,k⟩
theorem RP{a:FE}{Q:List Dat->Env->Prop}(h:We a ρ fun v ρ1=>cy v fun j=>Q (ups 0 j.toNat) ρ1/\j<=BIG/\-BIG<=j):Wi (iR1 a) ρ Q:=by obtain⟨v,ρ1,h1,j,rfl,q,h2⟩:=h;exact⟨_,_,by unfold iR1;rw[h1];dsimp only;rw[if_pos h2],q⟩
theorem Sx{Q:List Dat->Env->Prop}(h:We a ρ fun v ρ1=>cy v fun i=>We b ρ1 fun w ρ2=>cy w fun j=>Q (ups i (j-i).toNat) ρ2/\j<=BIG/\-BIG<=j/\i<=BIG/\-BIG<=i):Wi (iR2 a b) ρ Q:=by obtain⟨v,ρ1,h1,i,rfl,w,ρ2,h2,j,rfl,q,h3⟩:=h;exact⟨_,_,by unfold iR2;rw[h1];dsimp only;rw[h2];dsimp only;rw[if_pos h3],q⟩
theorem SG{a:FE}{Q:List Dat->Env->Prop}(h:We a ρ fun x ρ1=>Wk ρ1 x fun d ρ2=>∃ds,d=.lst ds/\Q ds.reverse ρ2):Wi (yL a) ρ Q:=by obtain⟨x,ρ1,h1,d,ρ2,h2,ds,rfl,q⟩:=h;exact⟨_,_,by unfold yL;rw[h1];dsimp only;rw[h2],q⟩
theorem SV{a:FE}{Q:List Dat->Env->Prop}(h:We a ρ fun x ρ1=>Wk ρ1 x fun d ρ2=>∃ds,d=.lst ds/\Q (kU 0 ds) ρ2):Wi (iEn a) ρ Q:=by obtain⟨x,ρ1,h1,d,ρ2,h2,ds,rfl,q⟩:=h;exact⟨_,_,by unfold iEn;rw[h1];dsimp only;rw[h2],q⟩
theorem Q8(n:N ρ):Ws sNx ρ N R B C:=⟨_,rfl,n⟩
theorem QZ(h:Ws s ρ (fun ρ1=>Ws u ρ1 N R B C) R B C):Ws (aI s u) ρ N R B C:=by
 obtain⟨o,h1,h2⟩:=h;cases o with
 |nx ρ1=>obtain⟨o,h3,h4⟩:=h2;exact⟨o,by unfold aI;rw[h1];exact h3,h4⟩
 |ret r ρ1=>exact⟨.ret r ρ1,by unfold aI;rw[h1],h2⟩
 |bk ρ1=>exact⟨.bk ρ1,by unfold aI;rw[h1],h2⟩
 |ct ρ1=>exact⟨.ct ρ1,by unfold aI;rw[h1],h2⟩
def WA(i:Nat)(v:Val)(ρ:Env)(N:Env->Prop):Prop:=match v with
 |.new d=>N (ρ.set i (.ow d))
 |x=>Wk ρ x fun d ρ2=>N (ρ2.set i (.sh d))
theorem Q4{i:Nat}(h:We e ρ fun v ρ1=>WA i v ρ1 N)(hi:i≠0):Ws (sA i e) ρ N R B C:=by
 obtain⟨v,ρ1,h1,h2⟩:=h;cases v with
 |new d=>exact⟨.nx _,by unfold sA;rw[if_neg hi,h1],h2⟩
 |val d=>obtain⟨d',ρ2,h3,h4⟩:=h2;exact⟨.nx _,by unfold sA;rw[if_neg hi,h1];dsimp only;rw[h3],h4⟩
 |slot j=>obtain⟨d',ρ2,h3,h4⟩:=h2;exact⟨.nx _,by unfold sA;rw[if_neg hi,h1];dsimp only;rw[h3],h4⟩
theorem Rl{i:Nat}{ρ ρ2:Env}(n:N ρ2)(hs:ρ.set i (.ow d)=ρ2):WA i (.new d) ρ N:=by unfold WA;dsimp only;rw[hs];exact n
theorem Q3{i:Nat}{ρ ρ2:Env}(n:N ρ2)(hs:ρ.set i (.sh d)=ρ2):WA i (.val d) ρ N:=⟨_,_,rfl,by show N _;rw[hs];exact n⟩
theorem R9{is:List Nat}(h:We e ρ fun x ρ1=>Wk ρ1 x fun d ρ2=>∃ds ρ3,d=.tup ds/\sets is ds ρ2=some ρ3/\N ρ3):Ws (sU is e) ρ N R B C:=by obtain⟨x,ρ1,h1,d,ρ2,h2,ds,ρ3,rfl,h3,n⟩:=h;exact⟨.nx _,by unfold sU;rw[h1];dsimp only;rw[h2];dsimp only;rw[h3],n⟩
theorem Ss(h:We e ρ fun _ ρ1=>N ρ1):Ws (sE e) ρ N R B C:=by obtain⟨x,ρ1,h1,n⟩:=h;exact⟨.nx _,by unfold sE;rw[h1],n⟩
def WR(v:Val)(ρ:Env)(R:RV->Env->Prop):Prop:=match v with
 |.new d=>R (.new d) ρ
 |.val d=>R (.val d) ρ
 |.slot i=>(∃d,ρ[i]?=some (.ow d)/\R (.new d) (ρ.set i .un))
theorem Q_(h:We e ρ fun v ρ1=>WR v ρ1 R):Ws (sR e) ρ N R B C:=by
 obtain⟨v,ρ1,h1,h2⟩:=h;cases v with
 |new d=>exact⟨.ret _ _,by unfold sR;rw[h1],h2⟩
 |val d=>exact⟨.ret _ _,by unfold sR;rw[h1],h2⟩
 |slot i=>obtain⟨d,h3,h4⟩:=h2;exact⟨.ret _ _,by unfold sR;rw[h1];dsimp only;rw[h3],h4⟩
theorem SE(r:R (.new d) ρ):WR (.new d) ρ R:=r
theorem Rp(r:R (.val d) ρ):WR (.val d) ρ R:=r
theorem RH{i:Nat}(r:R (.new d) (ρ.set i .un))(h:ρ[i]?=some (.ow d)):WR (.slot i) ρ R:=⟨d,h,r⟩
theorem Ra{a b:FS}(h:Wt t ρ fun c ρ1=>Wif c (Ws a ρ1 N R B C) (Ws b ρ1 N R B C)):Ws (sIf t a b) ρ N R B C:=by
 obtain⟨c,ρ1,h1,h2,h3⟩:=h;cases c with
 |true=>obtain⟨o,h4,q⟩:=h2 rfl;exact⟨_,by unfold sIf;rw[h1];exact h4,q⟩
 |false=>obtain⟨o,h4,q⟩:=h3 rfl;exact⟨_,by unfold sIf;rw[h1];exact h4,q⟩
theorem RS{i:Nat}{ds0:List Dat}(h:We e ρ fun x ρ1=>Wk ρ1 x fun d ρ2=>∃ds ρ3,ρ2[i]?=some (.ow (.lst ds))/\ρ2.set i (.ow (.lst (ds++[d])))=ρ3/\N ρ3/\ds.length<SZ)(h0:ρ[i]?=some (.ow (.lst ds0))):Ws (rj i e) ρ N R B C:=by obtain⟨x,ρ1,h1,d,ρ2,h2,ds,ρ3,h3,h5,n,h4⟩:=h;exact⟨.nx _,by unfold rj;rw[h0];dsimp only;rw[h1];dsimp only;rw[h2];dsimp only;rw[h3];dsimp only;rw[if_pos h4,h5],n⟩
theorem oA{i:Nat}(n:N ρ3)(h:ρ2[i]?=some (.ow (.lst ds)))(hs:ρ2.set i (.ow (.lst (ds++[d])))=ρ3)(hl:ds.length<SZ):∃ds ρ3,ρ2[i]?=some (.ow (.lst ds))/\ρ2.set i (.ow (.lst (ds++[d])))=ρ3/\N ρ3/\ds.length<SZ:=⟨_,_,h,hs,n,hl⟩
theorem R_{i:Nat}{j e:FE}(h:We e ρ fun x ρ1=>Wk ρ1 x fun d ρ2=>(∃d0,ρ2[i]?=some (.ow d0))/\We j ρ2 fun y ρ3=>cy y fun k=>∃ds m ρ4,ρ3[i]?=some (.ow (.lst ds))/\ixN ds.length k=some m/\ρ3.set i (.ow (.lst (ds.set m d)))=ρ4/\N ρ4):Ws (sS i j e) ρ N R B C:=by obtain⟨x,ρ1,h1,d,ρ2,h2,⟨d0,h0⟩,y,ρ3,h3,k,rfl,ds,m,ρ4,h4,h5,h6,n⟩:=h;exact⟨.nx _,by unfold sS;rw[h1];dsimp only;rw[h2];dsimp only;rw[h0];dsimp only;rw[h3];dsimp only;rw[h4];dsimp only;rw[h5];dsimp only;rw[h6],n⟩
theorem SX{i:Nat}{j e:FE}(h:We e ρ fun x ρ1=>Wk ρ1 x fun d ρ2=>(∃d0,ρ2[i]?=some (.ow d0))/\We j ρ2 fun y ρ3=>cy y fun k=>∃ks vs ρ4,ρ3[i]?=some (.ow (.dct ks vs))/\ρ3.set i (.ow (.dct (mz ks k) (mC ks vs k d)))=ρ4/\N ρ4/\ks.length<SZ):Ws (qA i j e) ρ N R B C:=by obtain⟨x,ρ1,h1,d,ρ2,h2,⟨d0,h0⟩,y,ρ3,h3,k,rfl,ks,vs,ρ4,h4,h5,n,h6⟩:=h;exact⟨.nx _,by unfold qA;rw[h1];dsimp only;rw[h2];dsimp only;rw[h0];dsimp only;rw[h3];dsimp only;rw[h4];dsimp only;rw[if_pos h6,h5],n⟩
theorem El{i:Nat}{k:Int}{ρ3 ρ4:Env}(n:N ρ4)(h:ρ3[i]?=some (.ow (.dct ks vs)))(hs:ρ3.set i (.ow (.dct (mz ks k) (mC ks vs k d)))=ρ4)(hl:ks.length<SZ):∃ks vs ρ4,ρ3[i]?=some (.ow (.dct ks vs))/\ρ3.set i (.ow (.dct (mz ks k) (mC ks vs k d)))=ρ4/\N ρ4/\ks.length<SZ:=⟨_,_,_,h,hs,n,hl⟩
theorem Rz(h:Wi it ρ fun ds ρ1=>Ws (lI bd body ds) ρ1 N R B C):Ws (lJ it bd body) ρ N R B C:=by obtain⟨ds,ρ1,h1,o,h2,h3⟩:=h;exact⟨o,by unfold lJ;rw[h1];exact h2,h3⟩
theorem RC(Em:α->Dat)(bd:FB)(body:FS)(xs:List α)(ρ:Env)(N:Env->Prop)(R:RV->Env->Prop)(B C:Env->Prop)(I:List α->List α->Env->Prop)
  (h0:I [] xs ρ) (hs:∀p x q ρ,xs=p++x::q->I p (x::q) ρ->∃ρ1,bd (Em x) ρ=some ρ1/\Ws body ρ1 (fun ρ2=>I (p++[x]) q ρ2) R N (fun ρ2=>I (p++[x]) q ρ2)) (he:∀ρ,I xs [] ρ->N ρ):Ws (lI bd body (xs.map Em)) ρ N R B C:=by
 have go:∀(q p:List α) (ρ:Env),xs=p++q->I p q ρ->Ws (lI bd body (q.map Em)) ρ N R B C:=fun q=>by
  induction q with
  |nil=>intro p ρ e i;rw[Oi]at e;exact⟨.nx _,rfl,he ρ (e▸i)⟩
  |cons x q ih=>
   intro p ρ e i;obtain⟨ρ1,h1,o,h2,h3⟩:=hs p x q ρ e i;have e':xs=(p++[x])++q:=by rw[Qn];exact e
   cases o with
   |nx ρ2=>obtain⟨o,h4,h5⟩:=ih _ _ e' h3;exact⟨o,by rw[Nv,lI,h1];dsimp only;rw[h2];exact h4,h5⟩
   |ct ρ2=>obtain⟨o,h4,h5⟩:=ih _ _ e' h3;exact⟨o,by rw[Nv,lI,h1];dsimp only;rw[h2];exact h4,h5⟩
   |bk ρ2=>exact⟨.nx _,by rw[Nv,lI,h1];dsimp only;rw[h2],h3⟩
   |ret r ρ2=>exact⟨.ret _ _,by rw[Nv,lI,h1];dsimp only;rw[h2],h3⟩
 exact go xs [] ρ rfl h0
theorem Rc{P:RV->Prop}(b:Ws body ρ (fun _=>P (.val .non)) (fun r _=>P r) (fun _=>False) (fun _=>False))(hρ:ds.map Cell.sh++Dk m .un=ρ)(h:ds.length=n):Wr (fn n m body ds) P:=by
 obtain⟨o,h1,h2⟩:=b;cases o with
 |nx ρ1=>exact⟨_,by unfold Dm.fn;rw[if_pos h,hρ,h1],h2⟩
 |ret r ρ1=>exact⟨_,by unfold Dm.fn;rw[if_pos h,hρ,h1],h2⟩
 |bk ρ1=>exact h2.elim
 |ct ρ1=>exact h2.elim
theorem Rk{o:Option RV}{r:RV}(h:Wr o fun x=>x=r):o=some r:=by obtain⟨x,h1,rfl⟩:=h;exact h1
theorem Bs(Em:α->Dat)(p:α->Bool)(v:α->Dat)(bd:FB)(t:FT)(el:FE)(mk:Cell->Env)(hb:∀d c,bd d (mk c)=some (mk (.sh d))):∀(xs:List α) (c:Cell) (En:List Dat),
  (∀x∈xs,t (mk (.sh (Em x)))=some (p x,mk (.sh (Em x))))->(∀x∈xs,p x=true->We el (mk (.sh (Em x))) fun w ρ'=>Wk ρ' w fun d ρ''=>d=v x/\ρ''=mk (.sh (Em x))) ->
  ∃c',fS bd t el (xs.map Em) (mk c) En=some (En++(xs.filter p).map v,mk c')
 |[],c,En,_,_=>⟨c,by simp[fS]⟩
 |x::xs,c,En,ht,he=>by
  rw[Nv,fS,hb];dsimp only;rw[ht x NJ];have ht':=fun y hy=>ht y (NB _ hy);have he':=fun y hy=>he y (NB _ hy);by_cases h:p x=true
  ·obtain⟨w,ρ',h1,d,ρ'',h2,rfl,rfl⟩:=he x NJ h;rw[h];dsimp only;rw[h1];dsimp only;rw[h2];obtain⟨c',e⟩:=Bs Em p v bd t el mk hb xs (.sh (Em x)) (En++[v x]) ht' he';exact⟨c',by dsimp only;rw[e,List.filter_cons_of_pos h];simp⟩
  ·rw[Bool.not_eq_true]at h;rw[h];obtain⟨c',e⟩:=Bs Em p v bd t el mk hb xs (.sh (Em x)) En ht' he';exact⟨c',by dsimp only;rw[e,List.filter_cons_of_neg (by rw[h];decide)]⟩
theorem RL(h:Wt t ρ fun c' ρ'=>c'=c/\ρ'=ρ):t ρ=some (c,ρ):=by obtain⟨_,_,h1,rfl,rfl⟩:=h;exact h1
theorem Sa(Em:α->Dat)(xs:List α)(p:α->Bool)(v:α->Dat){it:FI}{k:Nat}{t:FT}{el:FE}{ρ ρ1:Env}{Q:Val->Env->Prop}
  (q:Q (.new (.lst ((xs.filter p).map v))) ρ1) (M4:it ρ=some (xs.map Em,ρ1)) (hk:ρ1.length=k) (hk0:k≠0) (hl:xs.length<=SZ)
  (ht:∀x∈xs,Wt t (ρ1++[.sh (Em x)]) fun c ρ'=>c=p x/\ρ'=ρ1++[.sh (Em x)])
  (he:∀x∈xs,p x=true->We el (ρ1++[.sh (Em x)]) fun w ρ'=>Wk ρ' w fun d ρ''=>d=v x/\ρ''=ρ1++[.sh (Em x)]):We (fT it 1 (bN k) t el) ρ Q:=by
 have bd:∀(d:Dat) (c:Cell),bN k d (ρ1++[c])=some (ρ1++[.sh d]):=fun d c=>by unfold bN;rw[if_neg hk0,PR _ _ (by lia)];simp[hk]
 obtain⟨c',e⟩:=Bs Em p v (bN k) t el (fun c=>ρ1++[c]) bd xs .un [] (fun x hx=>RL (ht x hx)) he;refine⟨_,_,?_,q⟩;unfold fT;rw[M4];dsimp only;rw[if_pos (by rw[NI];exact hl)];show (match fS _ _ _ _ (ρ1++[.un]) [] with | none=>none | some (ys,ρ2)=>some (Val.new (.lst ys),ρ2.take ρ1.length))=_;rw[e];dsimp only;rw[QG,Qd]
theorem Sv(Em:α->Dat)(xs:List α)(p:α->Bool)(v:α->Dat){i:Nat}{k:Nat}{t:FT}{el:FE}{ρ:Env}{Q:Val->Env->Prop}{d:Dat}
  (q:Q (.new (.lst ((xs.filter p).map v))) ρ) (hi:ρ[i]?=some (.sh d)) (hd:Ek d=some (xs.map Em)) (hk:ρ.length=k) (hk0:k≠0) (hl:xs.length<=SZ)
  (ht:∀x∈xs,Wt t (ρ++[.sh (Em x)]) fun c ρ'=>c=p x/\ρ'=ρ++[.sh (Em x)])
  (he:∀x∈xs,p x=true->We el (ρ++[.sh (Em x)]) fun w ρ'=>Wk ρ' w fun d ρ''=>d=v x/\ρ''=ρ++[.sh (Em x)]):We (dY i 1 (bN k) t el) ρ Q:=by
 have M4:iS (eV i) ρ=some (xs.map Em,ρ):=by
  unfold iS eV;rw[hi];cases d with
  |lst ys=>cases hd;rfl
  |tup ys=>cases hd;rfl
  |_=>cases hd
 obtain⟨a,ρ',h1,h2⟩:=Sa Em xs p v (Q:=Q) q M4 hk hk0 hl ht he;refine⟨a,ρ',?_,h2⟩;unfold dY;rw[hi];exact h1
theorem Si{α β:Type}(Em:α->Dat)(xs:List α)(f:α->β)(oB:β->Dat){it:FI}{k:Nat}{el:FE}{ρ ρ1:Env}{Q:Val->Env->Prop}
  (q:Q (.new (.lst ((xs.map f).map oB))) ρ1) (M4:it ρ=some (xs.map Em,ρ1)) (hk:ρ1.length=k) (hk0:k≠0) (hl:xs.length<=SZ)
  (he:∀x∈xs,We el (ρ1++[.sh (Em x)]) fun w ρ'=>Wk ρ' w fun d ρ''=>d=oB (f x)/\ρ''=ρ1++[.sh (Em x)]):We (fT it 1 (bN k) gX el) ρ Q:=
 Sa Em xs (fun _=>true) (fun x=>oB (f x)) (by rw[List.filter_eq_self.mpr (fun _ _=>rfl)];rw[O0]at q;exact q) M4 hk hk0 hl (fun _ _=>Sq ⟨rfl,rfl⟩) fun x hx _=>he x hx
theorem R6{α β:Type}(Em:α->Dat)(xs:List α)(f:α->β)(oB:β->Dat){i:Nat}{k:Nat}{el:FE}{ρ:Env}{Q:Val->Env->Prop}{d:Dat}
  (q:Q (.new (.lst ((xs.map f).map oB))) ρ) (hi:ρ[i]?=some (.sh d)) (hd:Ek d=some (xs.map Em)) (hk:ρ.length=k) (hk0:k≠0) (hl:xs.length<=SZ)
  (he:∀x∈xs,We el (ρ++[.sh (Em x)]) fun w ρ'=>Wk ρ' w fun d ρ''=>d=oB (f x)/\ρ''=ρ++[.sh (Em x)]):We (dY i 1 (bN k) gX el) ρ Q:=
 Sv Em xs (fun _=>true) (fun x=>oB (f x)) (by rw[List.filter_eq_self.mpr (fun _ _=>rfl)];rw[O0]at q;exact q) hi hd hk hk0 hl (fun _ _=>Sq ⟨rfl,rfl⟩) fun x hx _=>he x hx
theorem Eo(i j:Int):gEq (.int i) (.int j)=vB (decide (i=j)):=by
 have:(i == j)=decide (i=j):=by by_cases h:i=j<;>simp[h]
 show vB (i == j)=_;rw[this]
theorem Ep(i j:Int):gNe (.int i) (.int j)=vB (!decide (i=j)):=by
 have:(i == j)=decide (i=j):=by by_cases h:i=j<;>simp[h]
 show vB (!(i == j))=_;rw[this]
theorem RA(k:K (.val (.bl (decide (i=j)))))(ho:o=some (.int i))(hp:p=some (.int j)):Wg2 gEq o p K:=⟨_,_,_,ho,hp,Eo i j,k⟩
theorem RU(k:K (.val (.bl (!decide (i=j)))))(ho:o=some (.int i))(hp:p=some (.int j)):Wg2 gNe o p K:=⟨_,_,_,ho,hp,Ep i j,k⟩
theorem R7(k:K (.val (.bl (decide (i<j)))))(ho:o=some (.int i))(hp:p=some (.int j)):Wg2 gLt o p K:=⟨_,_,_,ho,hp,rfl,k⟩
theorem Sj(k:K (.val (.bl (decide (i<=j)))))(ho:o=some (.int i))(hp:p=some (.int j)):Wg2 gLe o p K:=⟨_,_,_,ho,hp,rfl,k⟩
theorem RW(k:K (.val (.bl (decide (j<i)))))(ho:o=some (.int i))(hp:p=some (.int j)):Wg2 gGt o p K:=⟨_,_,_,ho,hp,rfl,k⟩
theorem So(k:K (.val (.bl (decide (j<=i)))))(ho:o=some (.int i))(hp:p=some (.int j)):Wg2 gGe o p K:=⟨_,_,_,ho,hp,rfl,k⟩
theorem Rj(k:K (.val (.int (i+j))))(ho:o=some (.int i))(hp:p=some (.int j)):Wg2 cO o p K:=⟨_,_,_,ho,hp,rfl,k⟩
theorem Sh{xs ys:List Dat}(k:K (.new (.lst (xs++ys))))(ho:o=some (.lst xs))(hp:p=some (.lst ys))(h:xs.length+ys.length<=SZ):Wg2 cO o p K:=⟨_,_,_,ho,hp,by unfold cO;dsimp only;rw[if_pos h],k⟩
theorem RD(k:K (.val (.int (i-j))))(ho:o=some (.int i))(hp:p=some (.int j)):Wg2 lH o p K:=⟨_,_,_,ho,hp,rfl,k⟩
theorem RY(k:K (.val (.int (i*j))))(ho:o=some (.int i))(hp:p=some (.int j))(h:(-B64<i/\i<B64)\/(-B64<j/\j<B64)):Wg2 nK o p K:=⟨_,_,_,ho,hp,by unfold nK;dsimp only;rw[if_pos h],k⟩
theorem RX(k:K (.val (.int (i / j))))(ho:o=some (.int i))(hp:p=some (.int j))(h:0<j/\j<rm):Wg2 sV o p K:=⟨_,_,_,ho,hp,by unfold sV;dsimp only;rw[if_pos h],k⟩
theorem R0(k:K (.val (.int (i % j))))(ho:o=some (.int i))(hp:p=some (.int j))(h:0<j):Wg2 mY o p K:=⟨_,_,_,ho,hp,by unfold mY;dsimp only;rw[if_pos h],k⟩
theorem RI{i j z:Int}(k:K (.val (.int z)))(ho:o=some (.int i))(hp:p=some (.int j))(h:0<=j/\j<=1000000/\i.natAbs<1000000)(hz:i ^ j.toNat=z):Wg2 kK o p K:=⟨_,_,_,ho,hp,by unfold kK;dsimp only;rw[if_pos h,hz],k⟩
theorem Q5{d e:Dat}{v:Dat}(k:K (.val v))(ho:o=some d)(hp:p=some e)(h:gIx d e=some (.val v)):Wg2 gIx o p K:=⟨_,_,_,ho,hp,h,k⟩
theorem nh(Em:α->Dat)(xs:List α)(i:Int)(h0:0<=i)(h1:i<xs.length):atI (xs.map Em) i=some (Em (xs[i.toNat]'(by omega))):=by unfold atI ixN;rw[NI,if_pos h0,if_pos h1];show (xs.map Em)[i.toNat]?=_;rw[NY,ND (by lia)];rfl
theorem xO(i:Int)(xs:List Int):inD (.int i) (xs.map Dat.int)=decide (i∈xs):=by
 induction xs with
 |nil=>rfl
 |cons x xs ih=>
  have ih':(xs.map Dat.int).any (fun y=>eqD y (.int i))=decide (i∈xs):=ih;unfold inD;rw[Nv,OU,ih'];show ((x == i)||_)=_;by_cases h:x=i
  ·simp[h]
  ·have h':¬i=x:=fun z=>h z.symm;simp[h,h']
theorem Bt(xs:List Int):(xs.map Dat.int).all (okD 7)=true:=by rw[Ov];intro d hd;obtain⟨x,_,rfl⟩:=Ol.mp hd;rfl
theorem RN{i:Int}{xs:List Int}(k:K (.val (.bl (decide (i∈xs)))))(ho:o=some (.int i))(hp:p=some (.lst (xs.map Dat.int))):Wg2 gIn o p K:=
 ⟨_,_,_,ho,hp,by unfold gIn;dsimp only;rw[show okD 8 (.int i)=true from rfl,Bt,xO];rfl,k⟩
theorem SD{i:Int}{xs:List Int}(k:K (.val (.bl (decide (i∈xs)))))(ho:o=some (.int i))(hp:p=some (.tup (xs.map Dat.int))):Wg2 gIn o p K:=
 ⟨_,_,_,ho,hp,by unfold gIn;dsimp only;rw[show okD 8 (.int i)=true from rfl,Bt,xO];rfl,k⟩
theorem SA{i a b:Int}(k:K (.val (.bl (decide (i=a\/i=b)))))(ho:o=some (.int i))(hp:p=some (.tup [.int a,.int b])):Wg2 gIn o p K:=
 SD (xs:=[a,b]) (by have:(i∈[a,b])=(i=a\/i=b):=(by simp);simp only[this];exact k) ho hp
theorem SJ{i:Int}(k:K (.val (.bl (!(e_ ks vs i).isSome))))(ho:o=some (.int i))(hp:p=some (.dct ks vs)):Wg2 tN o p K:=⟨_,_,_,ho,hp,rfl,k⟩
theorem SH{i:Int}(h:e_ ks vs i=some d)(k:K (.val d))(ho:o=some (.dct ks vs))(hp:p=some (.int i)):Wg2 gDx o p K:=⟨_,_,_,ho,hp,by unfold gDx;dsimp only;rw[h];rfl,k⟩
theorem SR{xs:List Dat}{o:Option (List Dat)}(k:K (.val (.int xs.length)))(ho:o=some [.tup xs]):WB iB o K:=⟨_,_,ho,rfl,k⟩
theorem Sb{o:Option (List Dat)}(k:K (.val (.int (if j<i then j else i))))(ho:o=some [.int i,.int j]):WB sW o K:=⟨_,_,ho,rfl,k⟩
theorem Sd{o:Option (List Dat)}(k:K (.val (.int (if j>i then j else i))))(ho:o=some [.int i,.int j]):WB sX o K:=⟨_,_,ho,rfl,k⟩
theorem RJ{xs:List Dat}{o:Option (List Dat)}(k:K (.new (.lst xs)))(ho:o=some [.lst xs]):WB nM o K:=⟨_,_,ho,rfl,k⟩
theorem Sm{b:Bool}{o:Option (List Dat)}(k:K (.val (.int (b2i b))))(ho:o=some [.bl b]):WB Af o K:=⟨_,_,ho,rfl,k⟩
theorem Rt{o:Option Dat}(k:K v)(ho:o=some d)(h:g d=some v):Wg1 g o K:=⟨_,_,ho,h,k⟩
theorem Er{xs:List Dat}{Q:List Dat->Prop}(q:Q xs):∃ds,Ek (.lst xs)=some ds/\Q ds:=⟨_,rfl,q⟩
theorem ndT{p:Prop}[Decidable p](h:(!decide p)=true):¬p:=by intro z;rw[decide_eq_true z]at h;cases h
theorem ndF{p:Prop}[Decidable p](h:(!decide p)=false):p:=Decidable.byContradiction fun z=>by rw[decide_eq_false z]at h;cases h
theorem Bu(Em:α->Dat)(xs:List α)(h:∀x,okD 7 (Em x)=true):okD 8 (.lst (xs.map Em))=true:=by unfold okD;rw[Ov];intro d hd;obtain⟨x,_,rfl⟩:=Ol.mp hd;exact h x
theorem R8{xs ys:List Int}(k:K (.new (.lst ((xs++ys).map Dat.int))))(ho:o=some (.lst (xs.map Dat.int)))(hp:p=some (.lst (ys.map Dat.int)))(h:xs.length+ys.length<=SZ):Wg2 cO o p K:=⟨_,_,_,ho,hp,by unfold cO;dsimp only;rw[NI,NI,if_pos h,Oo],k⟩
theorem SK{xs:List Int}{y:Int}(k:K (.new (.lst ((xs++[y]).map Dat.int))))(ho:o=some (.lst (xs.map Dat.int)))(hp:p=some (.lst [.int y]))(h:xs.length+1<=SZ):Wg2 cO o p K:=R8 (ys:=[y]) k ho hp h
theorem RM{Em:α->Dat}{xs:List α}{o:Option (List Dat)}(k:K (.val (.int xs.length)))(ho:o=some [.lst (xs.map Em)]):WB iB o K:=⟨_,_,ho,by unfold iB;dsimp only;rw[NI],k⟩
theorem Sy{s:FS}{N N':Env->Prop}(h:Ws s ρ N' R B C)(k:∀ρ',N' ρ'->N ρ'):Ws s ρ N R B C:=by
 obtain⟨o,h1,h2⟩:=h;cases o with
 |nx ρ1=>exact⟨.nx ρ1,h1,k _ h2⟩
 |ret r ρ1=>exact⟨.ret r ρ1,h1,h2⟩
 |bk ρ1=>exact⟨.bk ρ1,h1,h2⟩
 |ct ρ1=>exact⟨.ct ρ1,h1,h2⟩
theorem Im{i:Nat}{W:Prop}(h:ρ[i]?=some (.ow d))(w:W):(∃d0,ρ[i]?=some (.ow d0))/\W:=⟨⟨d,h⟩,w⟩
theorem SO(h:We a ρ fun v ρ1=>cy v fun i=>We b ρ1 fun x ρ2=>Wk ρ2 x fun d ρ3=>Q (.new (.dct [i] [d])) ρ3):We (eD1 a b) ρ Q:=by obtain⟨v,ρ1,h1,i,rfl,x,ρ2,h2,d,ρ3,h3,q⟩:=h;exact⟨_,_,by unfold eD1;rw[h1];dsimp only;rw[h2];dsimp only;rw[h3],q⟩
theorem fY{ρ ρ1 ρ2:Env}{W:Env->Prop}(h:bd d ρ=some ρ1)(hn:ρ1=ρ2)(w:W ρ2):∃ρ1,bd d ρ=some ρ1/\W ρ1:=⟨ρ1,h,hn▸w⟩
theorem Bv(Em:α->Dat)(p:α->Bool)(v:α->Dat)(bd:FB)(t:FT)(el:FE)(e0:Env)(env:α->Env)(h0:∀x,bd (Em x) e0=some (env x))(h1:∀x y,bd (Em x) (env y)=some (env x)):∀(xs:List α) (En:List Dat) (e:Env),(e=e0\/∃y,e=env y) ->
  (∀x∈xs,t (env x)=some (p x,env x))->(∀x∈xs,p x=true->We el (env x) fun w ρ'=>Wk ρ' w fun d ρ''=>d=v x/\ρ''=env x) ->
  ∃e',(e'=e0\/∃y,e'=env y)/\fS bd t el (xs.map Em) e En=some (En++(xs.filter p).map v,e')
 |[],En,e,he,_,_=>⟨e,he,by simp[fS]⟩
 |x::xs,En,e,he,ht,hel=>by
  have hb:bd (Em x) e=some (env x):=by
   rcases he with rfl | ⟨y,rfl⟩
   ·exact h0 x
   ·exact h1 x y
  rw[Nv,fS,hb];dsimp only;rw[ht x NJ];have ht':=fun y hy=>ht y (NB _ hy);have he':=fun y hy=>hel y (NB _ hy);by_cases h:p x=true
  ·obtain⟨w,ρ',g1,d,ρ'',g2,rfl,rfl⟩:=hel x NJ h;rw[h];dsimp only;rw[g1];dsimp only;rw[g2];obtain⟨e',q,z⟩:=Bv Em p v bd t el e0 env h0 h1 xs (En++[v x]) _ (.inr ⟨x,rfl⟩) ht' he';exact⟨e',q,by dsimp only;rw[z,List.filter_cons_of_pos h];simp⟩
  ·rw[Bool.not_eq_true]at h;rw[h];obtain⟨e',q,z⟩:=Bv Em p v bd t el e0 env h0 h1 xs En _ (.inr ⟨x,rfl⟩) ht' he';exact⟨e',q,by dsimp only;rw[z,List.filter_cons_of_neg (by rw[h];decide)]⟩
theorem SW{α β:Type}(Em:α->Dat)(xs:List α)(p:α->Bool)(f:α->β)(oB:β->Dat)(env:α->Env){it:FI}{own:Nat}{bd:FB}{t:FT}{el:FE}{ρ ρ1:Env}{Q:Val->Env->Prop}
  (q:Q (.new (.lst (((xs.filter p).map f).map oB))) ρ1) (M4:it ρ=some (xs.map Em,ρ1)) (h0:∀x,bd (Em x) (ρ1++Dk own .un)=some (env x)) (h1:∀x y,bd (Em x) (env y)=some (env x)) (h2:∀x,(env x).take ρ1.length=ρ1) (hl:xs.length<=SZ)
  (ht:∀x∈xs,Wt t (env x) fun c ρ'=>c=p x/\ρ'=env x)
  (he:∀x∈xs,p x=true->We el (env x) fun w ρ'=>Wk ρ' w fun d ρ''=>d=oB (f x)/\ρ''=env x):We (fT it own bd t el) ρ Q:=by
 obtain⟨e',q',e⟩:=Bv Em p (fun x=>oB (f x)) bd t el _ env h0 h1 xs [] _ (.inl rfl) (fun x hx=>RL (ht x hx)) he;refine⟨_,_,?_,q⟩;unfold fT;rw[M4];dsimp only;rw[if_pos (by rw[NI];exact hl),e];dsimp only;rw[QG,O0];have:e'.take ρ1.length=ρ1:=by
  rcases q' with rfl | ⟨y,rfl⟩
  ·exact Qd
  ·exact h2 y
 rw[this];rfl
theorem Bw(N M:List Int):gNe (.lst (N.map Dat.int)) (.lst (M.map Dat.int))=vB (!decide (N=M)):=by
 have ok:∀ns:List Int,okD 8 (.lst (ns.map Dat.int))=true:=fun ns=>Bu Dat.int ns fun _=>rfl;have eq:∀N M:List Int,mX (N.map Dat.int) (M.map Dat.int)=decide (N=M):=fun N=>by
  induction N with
  |nil=>intro M;cases M<;>rfl
  |cons n N ih=>
   intro M;cases M with
   |nil=>rfl
   |cons m M=>rw[Nv,Nv,mX,ih M];show ((n == m)&&_)=_;rw[P1];simp
 unfold gNe;rw[ok,ok];show vB (!mX _ _)=_;rw[eq]
theorem Sz{N M:List Int}(k:K (.val (.bl (!decide (N=M)))))(ho:o=some (.lst (N.map Dat.int)))(hp:p=some (.lst (M.map Dat.int))):Wg2 gNe o p K:=⟨_,_,_,ho,hp,Bw N M,k⟩
theorem Sf{t:FT}{body:FS}{N:Env->Prop}{R:RV->Env->Prop}{B C:Env->Prop}(I:Nat->Env->Prop)
  (hs:∀k ρ,I k ρ->Wt t ρ fun c ρ1=>Wif c (Ws body ρ1 (fun ρ2=>∃k',k'<k/\I k' ρ2) R N (fun ρ2=>∃k',k'<k/\I k' ρ2)) (N ρ1)):∀(n k:Nat) (ρ:Env),k<n->I k ρ->Ws (whD t body n) ρ N R B C
 |0,k,_,h,_=>absurd h (Nat.not_lt_zero k)
 |n+1,k,ρ,h,i=>by
  obtain⟨c,ρ1,h1,h2,h3⟩:=hs k ρ i;cases c with
  |false=>exact⟨.nx _,by rw[whD,h1],h3 rfl⟩
  |true=>
   obtain⟨o,h4,h5⟩:=h2 rfl;cases o with
   |nx ρ2=>obtain⟨k',hk,i'⟩:=h5;obtain⟨o,h6,h7⟩:=Sf (N:=N) (R:=R) (B:=B) (C:=C) I hs n k' ρ2 (by lia) i';exact⟨o,by rw[whD,h1];dsimp only;rw[h4];exact h6,h7⟩
   |ct ρ2=>obtain⟨k',hk,i'⟩:=h5;obtain⟨o,h6,h7⟩:=Sf (N:=N) (R:=R) (B:=B) (C:=C) I hs n k' ρ2 (by lia) i';exact⟨o,by rw[whD,h1];dsimp only;rw[h4];exact h6,h7⟩
   |bk ρ2=>exact⟨.nx _,by rw[whD,h1];dsimp only;rw[h4],h5⟩
   |ret r ρ2=>exact⟨.ret _ _,by rw[whD,h1];dsimp only;rw[h4],h5⟩
theorem SY(h:We a ρ fun x ρ1=>(∃ks vs,pk ρ1 x=some (.dct ks vs))/\We b ρ1 fun y ρ2=>∃ks vs i,pk ρ2 x=some (.dct ks vs)/\pk ρ2 y=some (.int i)/\Q (.val ((e_ ks vs i).getD .non)) ρ2):We (qz a b) ρ Q:=by obtain⟨x,ρ1,h1,⟨ks,vs,h2⟩,y,ρ2,h3,ks',vs',i,h4,h5,q⟩:=h;exact⟨_,_,by unfold qz;rw[h1];dsimp only;rw[h2];dsimp only;rw[h3];dsimp only;rw[h4];dsimp only;rw[h5],q⟩
theorem SN{i:Nat}{ρ ρ2:Env}(q:Q (.val d) ρ2)(h:ρ[i]?=some (.ow (.lst (ds++[d]))))(hs:ρ.set i (.ow (.lst ds))=ρ2):We (yO i) ρ Q:=⟨_,_,by
 unfold yO;rw[h];dsimp only;have e1:(ds++[d]).length-1=ds.length:=by simp
 have e2:(ds++[d])[ds.length]?=some d:=by simp
 have e3:(ds++[d]).take ds.length=ds:=Qd;rw[e1,e2];dsimp only;rw[e3,hs],q⟩
theorem RO(k:K (.val (.bl (Dm.isN d))))(ho:o=some d)(hp:p=some .non):Wg2 yP o p K:=⟨_,_,_,ho,hp,by cases d<;>rfl,k⟩
theorem SQ{j:Int}{o:Option (List Dat)}(k:K (.new (.lst (ups 0 j.toNat))))(ho:o=some [.int j])(h:j<=1000000/\-1000000<=j):WB qw o K:=⟨_,_,ho,by unfold qw;dsimp only;rw[if_pos h],k⟩
theorem RK(J:Env->Prop)(h1:Ws s ρ J R B C)(h2:∀ρ',J ρ'->Ws u ρ' N R B C):Ws (aI s u) ρ N R B C:=QZ (Sy h1 h2)
def WrM(o:Option (RV×Dat))(P:RV->Dat->Prop):Prop:=∃z d,o=some (z,d)/\P z d
theorem Rv{r:List Dat}{P:RV->Dat->Prop}(b:Ws body ρ (fun ρ'=>∃d',ρ'[0]?=some (.ow d')/\P (.val .non) d') (fun z ρ'=>∃d',ρ'[0]?=some (.ow d')/\P z d') (fun _=>False) (fun _=>False))(hρ:Cell.ow d::(r.map Cell.sh++Dk m .un)=ρ)(h:(d::r).length=n):WrM (fnM n m body (d::r)) P:=by
 obtain⟨o,h1,h2⟩:=b;cases o with
 |nx ρ1=>obtain⟨d',h3,h4⟩:=h2;exact⟨_,_,by unfold fnM;rw[if_pos h];dsimp only;rw[hρ,h1];dsimp only;rw[h3],h4⟩
 |ret z ρ1=>obtain⟨d',h3,h4⟩:=h2;exact⟨_,_,by unfold fnM;rw[if_pos h];dsimp only;rw[hρ,h1];dsimp only;rw[h3],h4⟩
 |bk ρ1=>exact h2.elim
 |ct ρ1=>exact h2.elim
def WFm(f:List Dat->Option (RV×Dat))(j:Nat)(ρ1:Env)(xs:List Val)(Q:Val->Env->Prop):Prop:=
 ∃d1 ds ρ2 d v d',ρ1[j]?=some (.ow d1)/\tks ρ1 xs=some (ds,ρ2)/\ρ2[j]?=some (.ow d)/\f (d::ds)=some (v,d')/\(if (flat v.dat&&n5 d')=true then Q v.dc (ρ1.set j (.ow d')) else Q v.dc (ρ2.set j (.ow d')))
theorem Rq{f:List Dat->Option (RV×Dat)}{j:Nat}{d0:Dat}(h:Was as ρ fun xs ρ1=>WFm f j ρ1 xs Q)(h0:ρ[j]?=some (.ow d0)):We (eFm f j as) ρ Q:=by
 obtain⟨xs,ρ1,h1,d1,ds,ρ2,d,v,d',h2,h3,h4,h5,q⟩:=h;by_cases c:(flat v.dat&&n5 d')=true
 ·rw[if_pos c]at q;exact⟨_,_,by unfold eFm;rw[h0];dsimp only;rw[h1];dsimp only;rw[h2];dsimp only;rw[h3];dsimp only;rw[h4];dsimp only;rw[h5];dsimp only;rw[if_pos c],q⟩
 ·rw[if_neg c]at q;exact⟨_,_,by unfold eFm;rw[h0];dsimp only;rw[h1];dsimp only;rw[h2];dsimp only;rw[h3];dsimp only;rw[h4];dsimp only;rw[h5];dsimp only;rw[if_neg c],q⟩
theorem Ro{f:List Dat->Option (RV×Dat)}{j:Nat}{ρ1 ρ3:Env}{d d':Dat}(h5:f (d::ds)=some (v,d'))(q:Q v.dc ρ3)(h2:ρ1[j]?=some (.ow d))(h3:tks ρ1 xs=some (ds,ρ1))(hn:ρ1.set j (.ow d')=ρ3):WFm f j ρ1 xs Q:=
 ⟨_,_,_,_,_,_,h2,h3,h2,h5,by rw[hn];split<;>exact q⟩
theorem SI{ρ ρ1:Env}(h:Wi it ρ fun x y=>x=ds/\y=ρ1):it ρ=some (ds,ρ1):=by obtain⟨_,_,h1,rfl,rfl⟩:=h;exact h1
theorem Sg{ρ ρ':Env}{v:Val}(h:We e ρ fun x y=>x=v/\y=ρ'):e ρ=some (v,ρ'):=by obtain⟨_,_,h1,rfl,rfl⟩:=h;exact h1
theorem Bx{c:Char}(h:c.isDigit=true):c.toNat<128:=by
 unfold Char.isDigit at h;simp only[NF,decide_eq_true_eq]at h;have h2:=h.2;have:c.val.toNat<=57:=by exact_mod_cast (UInt32.le_iff_toNat_le.mp h2)
 show c.val.toNat<128
 lia
theorem nat_ascii(n:Nat):∀c∈codes n.repr,c<128:=fun c hc=>by unfold codes at hc;rw[Nat.toList_repr]at hc;obtain⟨d,hd,rfl⟩:=Ol.mp hc;exact Bx (Nat.isDigit_of_mem_toDigits (by decide) (by decide) hd)
theorem int_ascii(i:Int):∀c∈codes (toString i),c<128:=fun c hc=>by
 rw[Int.toString_eq_repr]at hc;unfold Int.repr at hc;cases i with
 |ofNat m=>exact nat_ascii m c hc
 |negSucc m=>
  dsimp only at hc;unfold codes at hc;rw[String.toList_append,Oo,N9]at hc;rcases hc with hc | hc
  ·have:c∈[45]:=hc;rw[N7]at this
   lia
  ·exact nat_ascii m.succ c hc
theorem lV:∀l:List (List Nat),(∀x∈l,∀c∈x,c<128)->∀c∈shJ l,c<128
 |[],_,c,h=>by cases h
 |[x],k,c,h=>k x NJ c h
 |x::y::r,k,c,h=>by
  unfold shJ at h;rcases N9.mp h with h | h
  ·exact k x NJ c h
  ·rcases Dp.mp h with rfl | h
   ·decide
   ·rcases Dp.mp h with rfl | h
    ·decide
    ·exact lV (y::r) (fun z hz=>k z (NB _ hz)) c h
mutual
theorem qI:∀(n:Nat) (d:Dat),jr n d=true->∀c∈shw d,c<128
 |_,.non,_=>by decide
 |_,.bl b,_=>by cases b<;>decide
 |n,.int i,h=>by unfold shw;exact int_ascii i
 |n+1,.tup xs,h=>fun c hc=>by
  unfold shw at hc;rcases Dp.mp hc with rfl | hc
  ·decide
  ·rcases N9.mp hc with hc | hc
   ·exact lV _ (jK n xs h) c hc
   ·split at hc
    ·simp only[Dp,Oz,or_false]at hc
     lia
    ·simp only[Dp,Oz,or_false]at hc
     lia
 |n+1,.lst xs,h=>fun c hc=>by
  unfold shw at hc;rcases Dp.mp hc with rfl | hc
  ·decide
  ·rcases N9.mp hc with hc | hc
   ·exact lV _ (jK n xs h) c hc
   ·simp only[Dp,Oz,or_false]at hc
    lia
 |0,.tup xs,h=>by cases h
 |0,.lst xs,h=>by cases h
 |n,.str s,h=>by
  have h:s=[115,105,110,99,101]\/s=[110,101,118,101,114]\/s=[53]\/s=[48]\/s=[53,58,48,45,48]\/s=[]:=by cases n<;>exact of_decide_eq_true h
  rcases h with rfl | rfl | rfl | rfl | rfl | rfl<;>decide
 |0,.dct _ _,h=>by cases h
 |0,.dcp _ _,h=>by cases h
 |_+1,.dct _ _,h=>by cases h
 |_+1,.dcp _ _,h=>by cases h
 |0,.exc _,h=>by cases h
 |0,.bC _ _,h=>by cases h
 |_+1,.exc _,h=>by cases h
 |_+1,.bC _ _,h=>by cases h
 |0,.fn _,h=>by cases h
 |_+1,.fn _,h=>by cases h
theorem jK:∀(n:Nat) (xs:List Dat),ff n xs=true->∀x∈g9 xs,∀c∈x,c<128
 |_,[],_=>by intro x hx;cases hx
 |n,y::r,h=>by
  unfold ff at h;rw[NF]at h;intro x hx;unfold g9 at hx;rcases Dp.mp hx with rfl | hx
  ·exact qI n y h.1
  ·exact jK n r h.2 x hx
end
end
theorem k_{d:Dat}(h:jr 8 d=true):gNe (.str (shw d)) (.str (shw d))=some (.val (.bl false)):=by
 have a:okD 8 (.str (shw d))=true:=by unfold okD;rw[Ov];exact fun c hc=>decide_eq_true (qI 8 d h c hc)
 unfold gNe;rw[a];simp[eqD]
end Dm
namespace P
open Dm
noncomputable def Es:List Dat->Option RV:=fn 1 0
  (sR (nJ (e1 (vm isI) (eV 0)) (pS (e1 (vm isB) (eV 0)))))
noncomputable def y9:List Dat->Option RV:=fn 3 0
  (sR (nJ (eF Es [(eV 0)]) (lK gLe gLe (eV 1) (eV 0) (eV 2))))
noncomputable def By:List Dat->Option RV:=fn 2 0
  (sR (eF y9 [(eV 1),(eC (.int 0)),(e2 lH (eV 0) (eC (.int 1)))]))
noncomputable def rO:List Dat->Option RV:=fn 1 0
  (sR (eF y9 [(eV 0),(eC (.int 1)),(eC (.int 6))]))
noncomputable def Et:List Dat->Option RV:=fn 1 0
  (sR (eF y9 [(eV 0),(eC (.int 0)),(e2 kK (eC (.int 10)) (eC (.int 30)))]))
noncomputable def Eu:List Dat->Option RV:=fn 2 0
  (aI (sIf (tOr (fK (tV (e1 (vm isT) (eV 1)))) (tV (e2 gNe (eB iB [(eV 1)]) (eC (.int 3))))) (sR (eC (.bl false))) sNx)
  (sR (nJ (eF Et [(e2 gIx (eV 1) (eC (.int 0)))]) (nJ (eF By [(eV 0),(e2 gIx (eV 1) (eC (.int 1)))]) (eF By [(eV 0),(e2 gIx (eV 1) (eC (.int 2)))])))))
noncomputable def gM:List Dat->Option RV:=fn 2 0
  (sR (nJ (eF Eu [(eV 0),(eV 1)]) (e2 gLe (e2 gIx (eV 1) (eC (.int 1))) (e2 gIx (eV 1) (eC (.int 2))))))
noncomputable def g_:List Dat->Option RV:=fn 1 0
  (sIf (fK (tV (eF rO [(eV 0)]))) (fun _=>none) sNx)
noncomputable def bF:List Dat->Bool:=fnX 1 0
  (rIf (fK (tV (eF rO [(eV 0)]))) HV rNo)
noncomputable def Ew:List Dat->Option RV:=fn 3 0
  (sR (dY 0 1 (bN 3) gX (eIf (tV (e2 gEq (eV 3) (e2 gIx (eV 0) (eV 2)))) (e2 gIx (eV 0) (eV 1)) (eV 3))))
noncomputable def FJ:FS:=
  (sIf (tV (e2 gNe (e2 gIx (eV 4) (eV 1)) (e2 gIx (eV 4) (eV 2)))) (sR (e2 cO (eV 3) (eC (.int 1)))) sNx)
noncomputable def BA:List Dat->Option RV:=fn 3 2
  (aI (lJ (iEn (eV 0)) (bT [3,4])
  FJ)
  (sR (eC (.int 0))))
noncomputable def BB:FS:=
  (aI (sA 8 (eF BA [(eV 3),(eV 6),(eV 7)]))
  (aI (sIf (tV (e2 gGt (eV 8) (eC (.int 0)))) (sS 3 (e2 lH (eV 8) (eC (.int 1))) (eF Ew [(e2 gIx (eV 3) (e2 lH (eV 8) (eC (.int 1)))),(eV 6),(eV 7)])) sNx)
  (rj 4 (eV 8))))
noncomputable def uo:List Dat->Option RV:=fn 3 6
  (aI (sE (eF g_ [(eV 2)]))
  (aI (sA 3 (fT (iR1 (eV 2)) 1 (bN 9) gX (eB qw [(eV 0)])))
  (aI (sA 4 (dP []))
  (aI (lJ (yL (eV 1)) (bT [5,6,7])
  BB)
  (sR (e1 nX (eV 4)))))))
noncomputable def fB:List Dat->Bool:=fnX 3 6
  (dH bF [(eV 2)])
noncomputable def BC:FS:=
  (aI (sA 9 (e2 lH (e2 cO (eV 7) (eV 8)) (eV 5)))
  (sIf (g8 (tV (e2 gIn (eV 5) (bw [(eV 7),(eV 8)]))) (tV (e2 tN (eV 9) (eV 3)))) (aI (qA 3 (eV 9) (e2 cO (e2 gDx (eV 3) (eV 5)) (dP [(eV 6)])))
  (rj 4 (eV 9))) sNx))
noncomputable def BE:FS:=
  (aI (sA 5 (yO 4))
  (lJ (iS (eV 0)) (bT [6,7,8])
  BC))
noncomputable def qJ:List Dat->Option RV:=fn 3 7
  (aI (sA 3 (eD1 (eV 1) (dP [])))
  (aI (sA 4 (dP [(eV 1)]))
  (aI (whD (tTr (eV 4))
  BE 100)
  (sR (qz (eV 3) (eV 2))))))
noncomputable def qK:List Dat->Option RV:=fn 2 1
  (aI (sA 2 (eF qJ [(eV 0),(e2 gIx (eV 1) (eC (.int 1))),(e2 gIx (eV 1) (eC (.int 2)))]))
  (aI (sIf (tV (e2 yP (eV 2) (eC .non))) (sR (eC .non)) sNx)
  (sR (eB mG [(e2 cO (dY 0 1 (bN 3) (tV (e2 gIn (e2 gIx (eV 3) (eC (.int 0))) (eV 2))) (eV 3)) (dP [(eV 1)]))]))))
noncomputable def BF:FS:=
  (aI (sA 8 (fT (DV (eV 1) (eV 4)) 2 (bT [9,10]) (tV (e2 gEq (eV 10) (eV 7))) (eV 9)))
  (aI (sA 6 (eF qK [(eV 8),(eV 6)]))
  (aI (sIf (tV (e2 yP (eV 6) (eC .non))) (sR (eV 5)) sNx)
  (rj 5 (bw [(e2 gIx (eV 6) (eC (.int 0))),(eV 7),(eIf (tV (e2 gLt (eV 7) (eV 2))) (e2 cO (eV 7) (eC (.int 1))) (eC (.int 0)))])))))
noncomputable def fh:List Dat->Option RV:=fn 4 5
  (aI (sE (eF g_ [(eV 2)]))
  (aI (sIf (fK (tV (eF gM [(eV 0),(eV 3)]))) (fun _=>none) sNx)
  (aI (sIf (tV (e2 gIn (e2 gIx (eV 3) (eC (.int 0))) (dY 1 1 (bN 9) gX (e2 gIx (eV 9) (eC (.int 0)))))) (fun _=>none) sNx)
  (aI (sA 4 (eF uo [(eV 0),(eV 1),(eV 2)]))
  (aI (sA 5 (dP [(bw [(e2 gIx (eV 3) (eC (.int 0))),(eC (.int 0)),(eC (.int 1))])]))
  (aI (sA 6 (eV 3))
  (aI (lJ (iR2 (eC (.int 1)) (e2 cO (eV 2) (eC (.int 1)))) (bN 7)
  BF)
  (sR (eV 5)))))))))
noncomputable def bO:List Dat->Bool:=fnX 4 5
  (rOr (dH bF [(eV 2)]) (kZ (sE (eF g_ [(eV 2)])) (kZ (sIf (fK (tV (eF gM [(eV 0),(eV 3)]))) (fun _=>none) sNx) (kZ (sIf (tV (e2 gIn (e2 gIx (eV 3) (eC (.int 0))) (dY 1 1 (bN 9) gX (e2 gIx (eV 9) (eC (.int 0)))))) (fun _=>none) sNx) (dH fB [(eV 0),(eV 1),(eV 2)])))))
noncomputable def cJ:List Dat->Bool:=fnX 4 5
  (kZ (sE (eF g_ [(eV 2)])) (rIf (fK (tV (eF gM [(eV 0),(eV 3)]))) HV rNo))
noncomputable def bX(m:Int):List Dat->Bool:=fnX 4 5
  (kZ (sE (eF g_ [(eV 2)])) (kZ (sIf (fK (tV (eF gM [(eV 0),(eV 3)]))) (fun _=>none) sNx) (rIf (tV (e2 gIn (e2 gIx (eV 3) (eC (.int 0))) (dY 1 1 (bN 9) gX (e2 gIx (eV 9) (eC (.int 0)))))) (lT (e2 gIx (eV 3) (eC (.int 0))) m) rNo)))
noncomputable def qL:List Dat->Option RV:=fn 1 1
  (aI (sA 1 (eC (.int 0)))
  (aI (sIf (tV (e2 gGe (eB yN [(eV 0)]) (e2 kK (eC (.int 10)) (eC (.int 18))))) (sA 1 (e2 cO (e2 lH (eB yN [(eV 0)]) (e2 kK (eC (.int 10)) (eC (.int 18)))) (eC (.int 1)))) sNx)
  (sR (dP [(eV 1),(eC (.int 0)),(e2 mY (eV 0) (eC (.int 2147483647)))]))))
noncomputable def bV:List Dat->Option (RV×Dat):=fnM 2 2
  (aI (sIf (tV (e2 gGt (e2 gIx (eV 0) (eC (.int 0))) (eC (.int 0)))) (aI (sA 2 (e2 mY (e2 gIx (eV 0) (eC (.int 0))) (eV 1)))
  (aI (sS 0 (eC (.int 0)) (e2 sV (e2 gIx (eV 0) (eC (.int 0))) (eV 1)))
  (sR (eV 2)))) sNx)
  (aI (sS 0 (eC (.int 1)) (e2 cO (e2 gIx (eV 0) (eC (.int 1))) (eC (.int 1))))
  (aI (sA 3 (e2 mY (e2 cO (e2 cO (e2 cO (e2 gIx (eV 0) (eC (.int 2))) (e2 nK (e2 nK (eC (.int 977)) (e2 gIx (eV 0) (eC (.int 1)))) (e2 gIx (eV 0) (eC (.int 1))))) (e2 nK (eC (.int 40693)) (e2 gIx (eV 0) (eC (.int 1))))) (eC (.int 1))) (eC (.int 2147483647))))
  (aI (sA 3 (e2 mY (e2 nK (e2 mY (e2 nK (eV 3) (eV 3)) (eC (.int 1000000007))) (eC (.int 48271))) (eC (.int 998244353))))
  (sR (e2 mY (e2 sV (eV 3) (eC (.int 8))) (eV 1)))))))
noncomputable def BG:FS:=
  (sA 2 (e2 cO (e2 nK (eV 2) (eC (.int 1000003))) (eFm bV 0 [(eC (.int 1000003))])))
noncomputable def uq:List Dat->Option (RV×Dat):=fnM 2 2
  (aI (sIf (tOr (tV (e2 gGt (e2 gIx (eV 0) (eC (.int 0))) (eC (.int 0)))) (tV (e2 gLt (eV 1) (e2 kK (eC (.int 10)) (eC (.int 6)))))) (sR (eFm bV 0 [(eV 1)])) sNx)
  (aI (sA 2 (eC (.int 0)))
  (aI (lJ (iR1 (eC (.int 5))) (bN 3)
  BG)
  (sR (e2 mY (eV 2) (eV 1))))))
noncomputable def qM:List Dat->Option (RV×Dat):=fnM 1 0
  (sR (e2 cO (eC (.int 1)) (eFm bV 0 [(e2 gIx (dP [(eC (.int 6)),(eC (.int 5)),(eC (.int 6)),(eC (.int 4)),(eC (.int 6)),(eC (.int 3)),(eC (.int 5)),(eC (.int 10))]) (eFm bV 0 [(eC (.int 8))]))])))
noncomputable def mJ:List Dat->Option (RV×Dat):=fnM 1 0
  (sR (e2 cO (eC (.int 1)) (eFm bV 0 [(e2 gIx (dP [(eC (.int 3)),(eC (.int 4)),(eC (.int 2)),(eC (.int 6))]) (eFm bV 0 [(eC (.int 4))]))])))
noncomputable def qN:List Dat->Option (RV×Dat):=fnM 3 3
  (aI (sA 3 (eFm bV 0 [(eV 1)]))
  (aI (sA 4 (eFm bV 0 [(eV 1)]))
  (aI (sIf (g8 (tV (e2 gNe (eV 2) (dP []))) (tV (e2 gEq (eFm bV 0 [(eC (.int 4))]) (eC (.int 0))))) (sU [5,3,4] (e2 gIx (eV 2) (eFm bV 0 [(eB iB [(eV 2)])]))) sNx)
  (sR (bw [(eB sW [(eV 3),(eV 4)]),(eB sX [(eV 3),(eV 4)])])))))
noncomputable def BH:FS:=
  (aI (sA 6 (eFm bV 0 [(eC (.int 5))]))
  (aI (sA 3 (e2 cO (e2 cO (eV 3) (eC (.int 1))) (e2 sV (eV 6) (eC (.int 2)))))
  (aI (sIf (tV (e2 gEq (eV 6) (eC (.int 4)))) (sA 3 (e2 cO (eV 3) (eFm uq 0 [(e2 kK (eC (.int 10)) (eC (.int 27)))]))) sNx)
  (aI (sU [7,8] (eFm qN 0 [(eV 1),(eV 4)]))
  (rj 4 (bw [(eV 3),(eV 7),(eV 8)]))))))
noncomputable def qO:List Dat->Option (RV×Dat):=fnM 3 6
  (aI (sA 3 (e2 lH (eFm bV 0 [(eC (.int 3))]) (eC (.int 1))))
  (aI (sA 4 (dP []))
  (aI (lJ (iR1 (eFm bV 0 [(e2 cO (eV 2) (eC (.int 1)))])) (bN 5)
  BH)
  (sR (eV 4)))))
noncomputable def BI:FS:=
  (sA 4 (e2 cO (eV 4) (eB Af [(e2 gIn (eV 4) (eV 3))])))
noncomputable def ur:List Dat->Option (RV×Dat):=fnM 3 5
  (aI (sA 3 (dY 2 1 (bN 8) gX (e2 gIx (eV 8) (eC (.int 0)))))
  (aI (sA 4 (eFm bV 0 [(eC (.int 3))]))
  (aI (sIf (g8 (tV (e2 gNe (eV 3) (dP []))) (tV (e2 gGt (eFm bV 0 [(eC (.int 4))]) (eC (.int 0))))) (sA 4 (e2 cO (e2 gIx (eV 3) (eFm bV 0 [(eB iB [(eV 3)])])) (eFm bV 0 [(eC (.int 2))]))) sNx)
  (aI (lJ (iR1 (e2 cO (eB iB [(eV 3)]) (eC (.int 1)))) (bN 5)
  BI)
  (aI (sU [6,7] (eFm qN 0 [(eV 1),(eV 2)]))
  (sR (bw [(eV 4),(eV 6),(eV 7)])))))))
noncomputable def uu:List Dat->Option (RV×Dat):=fnM 2 1
  (aI (sA 2 (dP [(eC .non),(eC (.int 5)),(eC (.str [53,58,48,45,48])),(dP [(eC (.int 5)),(eC (.int 0)),(eC (.int 0))]),(bw [(eC (.int 5)),(eC (.int 0))]),(bw [(eC (.int 5)),(eC (.int 0)),(eC (.int 0)),(eC (.int 0))]),(bw [(e1 vn (eC (.int 1))),(eC (.int 0)),(eC (.int 0))]),(bw [(e2 cO (e2 kK (eC (.int 10)) (eC (.int 30))) (eC (.int 1))),(eC (.int 0)),(eC (.int 0))]),(bw [(eC (.bl true)),(eC (.int 0)),(eC (.int 0))])]))
  (aI (sA 2 (e2 cO (eV 2) (dP [(bw [(eC (.int 5)),(eC (.bl false)),(eC (.int 0))]),(bw [(eC (.int 5)),(eC (.int 0)),(eC (.bl false))]),(bw [(eC (.int 5)),(eC (.int 0)),(eV 1)]),(bw [(eC (.int 5)),(e1 vn (eC (.int 1))),(eC (.int 0))]),(bw [(eC (.str [53])),(eC (.int 0)),(eC (.int 0))]),(bw [(eC (.int 5)),(eC .non),(eC (.int 0))]),(bw [(bw [(eC (.int 5))]),(eC (.int 0)),(eC (.int 0))])])))
  (aI (sA 2 (e2 cO (eV 2) (dP [eDn,(bw []),(dP []),(eC (.str [])),(bw [(eC (.int 5)),(eC (.int 1)),(eC (.int 0))]),(bw [(eC (.int 5)),(eC (.int 0)),(eC (.str [48]))]),(bw [(bw [(eC (.int 5)),(eC (.int 0)),(eC (.int 0))])]),(eC (.bl true)),(bw [(eC (.int 5)),(eC (.int 0)),(e2 kK (eC (.int 10)) (eC (.int 40)))]),(bw [(eC (.int 5)),(eV 1),(eV 1)])])))
  (sR (e2 gIx (eV 2) (eFm bV 0 [(eB iB [(eV 2)])]))))))
noncomputable def jy:List Dat->Option (RV×Dat):=fnM 1 1
  (aI (sA 1 (dP [(eC (.int 0)),(eC (.int 7)),(e1 vn (eC (.int 1))),(eC .non),(eC (.bl true)),(eC (.bl false)),(eC (.str [51])),(eC (.str [])),(dP [(eC (.int 1))]),(bw [(eC (.int 2))]),eDn,(e2 kK (eC (.int 10)) (eC (.int 40))),(e1 vn (e2 kK (eC (.int 10)) (eC (.int 20))))]))
  (sR (e2 gIx (eV 1) (eFm bV 0 [(eB iB [(eV 1)])]))))
noncomputable def bJ(aG aQ aY:Nat):List Dat->Option RV:=fn 4 3
  (aI (sA 4 (eC .non))
  (aI (sUn (sA 4 (eF fh [(eV 0),(eV 1),(eV 2),(eV 3)])) (sUn (iJ (dH bO [(eV 0),(eV 1),(eV 2),(eV 3)]) aG 5 (aI (sA 6 (e1 (bW [aG,aQ,aY] [false,false,false]) (eV 5)))
  (aI (sA 6 (eOr (eV 6) (pS (e1 (bW [aG,aQ,aY] [true,true,true]) (eV 5)))))
  (sA 4 (bw [(e1 (bW [aG,aQ,aY] [true,false,false]) (eV 5)),(e1 (bW [aG,aQ,aY] [false,true,false]) (eV 5)),(e1 (bW [aG,aQ,aY] [false,false,true]) (eV 5)),(eV 6)]))))) (sUn (iJ (dH cJ [(eV 0),(eV 1),(eV 2),(eV 3)]) aQ 5 (aI (sA 6 (e1 (bW [aG,aQ,aY] [false,false,false]) (eV 5)))
  (aI (sA 6 (eOr (eV 6) (pS (e1 (bW [aG,aQ,aY] [true,true,true]) (eV 5)))))
  (sA 4 (bw [(e1 (bW [aG,aQ,aY] [true,false,false]) (eV 5)),(e1 (bW [aG,aQ,aY] [false,true,false]) (eV 5)),(e1 (bW [aG,aQ,aY] [false,false,true]) (eV 5)),(eV 6)]))))) (mH (fun m=>(dH (bX m) [(eV 0),(eV 1),(eV 2),(eV 3)])) aY 5 (aI (sA 6 (e1 (bW [aG,aQ,aY] [false,false,false]) (eV 5)))
  (aI (sA 6 (eOr (eV 6) (pS (e1 (bW [aG,aQ,aY] [true,true,true]) (eV 5)))))
  (sA 4 (bw [(e1 (bW [aG,aQ,aY] [true,false,false]) (eV 5)),(e1 (bW [aG,aQ,aY] [false,true,false]) (eV 5)),(e1 (bW [aG,aQ,aY] [false,false,true]) (eV 5)),(eV 6)]))))))))
  (sR (eV 4))))
noncomputable def bL(aG aQ aY:Nat):List Dat->Option RV:=fn 4 2
  (aI (sA 4 (eC .non))
  (aI (sUn (sE (eF fh [(eV 0),(eV 1),(eV 2),(eV 3)])) (mH (fun m=>(dH (bX m) [(eV 0),(eV 1),(eV 2),(eV 3)])) aY 5 (sA 4 (e1 (Bd aY) (eV 5)))))
  (sR (eV 4))))
noncomputable def qP:List Dat->Option (RV×Dat):=fnM 3 3
  (aI (sA 3 (eFm ur 0 [(eV 1),(eV 2)]))
  (aI (sA 4 (eFm bV 0 [(eC (.int 4))]))
  (aI (sIf (tV (e2 gEq (eV 4) (eC (.int 0)))) (sR (bw [(eFm uu 0 [(eV 1)]),(eC (.str [110,111,110,101]))])) sNx)
  (aI (sIf (g8 (tV (e2 gEq (eV 4) (eC (.int 1)))) (tV (e2 gNe (eV 2) (dP [])))) (aI (sA 5 (e2 gIx (eV 2) (eFm bV 0 [(eB iB [(eV 2)])])))
  (sR (bw [(bw [(e2 gIx (eV 5) (eC (.int 0))),(e2 gIx (eV 3) (eC (.int 1))),(e2 gIx (eV 3) (eC (.int 2)))]),(eC (.str [97,103,97,105,110]))]))) sNx)
  (aI (sIf (g8 (tV (e2 gEq (eV 4) (eC (.int 2)))) (tV (e2 gNe (eV 2) (dP [])))) (sR (bw [(e2 gIx (eV 2) (eFm bV 0 [(eB iB [(eV 2)])])),(eC (.str [97,103,97,105,110]))])) sNx)
  (sR (bw [(eV 3),(eC (.str [110,101,119]))])))))))
noncomputable def a_(aG aQ aY:Nat):List Dat->Option RV:=fn 5 3
  (aI (sA 5 (eB nM [(eV 1)]))
  (aI (sA 6 (eB iK [(eV 3)]))
  (aI (sA 7 (eF (bJ aG aQ aY) [(eV 0),(eV 5),(eV 2),(eV 3)]))
  (aI (sIf (tOr (tV (e2 gNe (eV 5) (eV 1))) (tV (e2 gNe (eB iK [(eV 3)]) (eV 6)))) (sR (eC (.bl false))) sNx)
  (aI (sIf (tV (e2 gNe (eV 4) (bw []))) (sR (e2 gEq (eV 7) (eV 4))) sNx)
  (sR (e1 (vm isL) (eV 7))))))))
noncomputable def vO(aG aQ aY:Nat):FS:=
  (aI (sA 2 (eF qL [(eV 1)]))
  (aI (sA 3 (eFm qM 2 []))
  (aI (sA 4 (eFm qO 2 [(eV 3),(eC (.int 8))]))
  (aI (sU [5,6] (eFm qP 2 [(eV 3),(eV 4)]))
  (aI (sA 7 (Be [([110,111,110,101],(bw [(eC (.bl false)),(eC (.bl true)),(eC (.bl false)),(eC (.bl false))])),([97,103,97,105,110],(bw [(eC (.bl false)),(eC (.bl false)),(eC (.bl true)),(eC (.bl false))])),([110,101,119],(bw []))] (eV 6)))
  (aI (sA 8 (eFm mJ 2 []))
  (aI (sIf (fK (tV (eF (a_ aG aQ aY) [(eV 3),(eV 4),(eV 8),(eV 5),(eV 7)]))) (sR (eC (.bl false))) sNx)
  (aI (sIf (g8 (tV (e2 gEq (eV 6) (eC (.str [97,103,97,105,110])))) (tV (e2 gNe (eF (bL aG aQ aY) [(eV 3),(eV 4),(eV 8),(eV 5)]) (e2 gIx (eV 5) (eC (.int 0)))))) (sR (eC (.bl false))) sNx)
  (sIf (fK (tV (eF (a_ aG aQ aY) [(eV 3),(eV 4),(eFm jy 2 []),(eV 5),(bw [(eC (.bl true)),(eC (.bl false)),(eC (.bl false)),(eC (.bl false))])]))) (sR (eC (.bl false))) sNx)))))))))
noncomputable def oE(aG aQ aY:Nat):List Dat->Option RV:=fn 1 9
  (aI (lJ (iS (e2 cO (dP [(eC (.int 0))]) (eV 0))) (bN 1)
  (vO aG aQ aY))
  (aI (sA 9 (fT (iR2 (eC (.int 1)) (eC (.int 60))) 1 (bN 10) gX (bw [(eV 10),(eC (.int 0)),(eC (.int 1))])))
  (aI (sIf (tV (e2 gNe (eF fh [(eC (.int 2)),(eB nM [(eV 9)]),(eC (.int 1)),(bw [(eC (.int 0)),(eC (.int 0)),(eC (.int 1))])]) (dP [(bw [(eC (.int 0)),(eC (.int 0)),(eC (.int 1))]),(bw [(eC (.int 0)),(eC (.int 1)),(eC (.int 0))])]))) (sR (eC (.bl false))) sNx)
  (sR (e2 gEq (eF fh [(eC (.int 2)),(eB nM [(eV 9)]),(eC (.int 1)),(bw [(eC (.int 60)),(eC (.int 0)),(eC (.int 1))])]) (dP [(bw [(eC (.int 60)),(eC (.int 0)),(eC (.int 1))]),(bw [(eC (.int 59)),(eC (.int 1)),(eC (.int 0))])]))))))
end P
local macro_rules|`(tactic|trivial)=>`(tactic|first | (dsimp only[List.set];first | done | rfl) | rfl)
local macro_rules | `(tactic| array_get_dec)=>`(tactic| first | with_reducible refine Dm.QZ ?_ | with_reducible refine Dm.Q0 ?_ | ((with_reducible apply Dm.N_);(focus rfl)) | ((with_reducible apply Dm.Rf);(focus rfl)) | with_reducible refine Dm.P_ ?_ | (refine Dm.Q3 ?_ (by trivial)) | (refine Dm.Rl ?_ (by trivial)) | (refine Dm.WA.slot ?_ rfl (by trivial)) | with_reducible refine Dm.Q4 ?_ (by decide) | with_reducible refine Dm.Ra ?_ | with_reducible refine Dm.Q7 ?_ | with_reducible refine Dm.Rw ?_ | with_reducible refine Dm.RE ?_ | with_reducible refine Dm.R5 ?_ | with_reducible refine Dm.Sq ?_ | (refine Dm.Q2 ?_) | (refine Dm.cy.mk ?_) | with_reducible refine Dm.RG ?_ | with_reducible refine Dm.Ri ?_ | with_reducible refine Dm.O_ ?_ | with_reducible refine Dm.m_ ?_ | with_reducible refine Dm.Rm ?_ | with_reducible refine Dm.Rb ?_ | with_reducible refine Dm.Rn ?_ | with_reducible refine Dm.Rx ?_ | with_reducible refine Dm.Ry ?_ | with_reducible refine Dm.Se ?_ | with_reducible refine Dm.RQ ?_ | with_reducible refine Dm.Sw ?_ | with_reducible refine Dm.Sn ?_ | with_reducible refine Dm.We.Sl ?_ | with_reducible refine Dm.We.SlT ?_ | with_reducible refine Dm.Wp.none ?_ | with_reducible refine Dm.Wp.some ?_ | (refine Dm.Wsl.A (Em:=Dat.int) ?_ rfl) | (refine Dm.Wsl.mk ?_ rfl) | (refine Dm.Q6 ?_ rfl (by trivial) (by exact Nat.le_of_ble_eq_true rfl)) | (refine Dm.Rg ?_) | (refine Dm.RT ?_) | (refine Dm.Wk.slot ?_ rfl (by trivial)) | with_reducible refine Dm.We.Dn ?_ | with_reducible refine Dm.SO ?_ | with_reducible refine Dm.SX ?_ | (refine Dm.Nq ?_ rfl) | (refine Dm.Im rfl ?_) | (refine Dm.El ?_ rfl (by trivial) ?_) | (refine Dm.RS ?_ rfl) | (refine Dm.oA ?_ rfl (by trivial) ?_) | with_reducible refine Dm.R9 ?_ | (refine Dm.M8 ?_ rfl (by trivial)) | with_reducible refine Dm.Q_ ?_ | (refine Dm.SE ?_) | (refine Dm.Rp ?_) | (refine Dm.RH ?_ rfl) | with_reducible refine Dm.Q8 ?_ | with_reducible refine Dm.Ws.bk ?_ | with_reducible refine Dm.Ws.ct ?_ | with_reducible refine Dm.Ss ?_ | with_reducible refine Dm.Rz ?_ | with_reducible refine Dm.SM ?_ | with_reducible refine Dm.Wi.L ?_ | with_reducible refine Dm.RP ?_ | with_reducible refine Dm.Sx ?_ | (refine Dm.Er ?_) | (refine Dm.Mk ?_) | (refine Dm.RA ?_ rfl rfl) | (refine Dm.RU ?_ rfl rfl) | (refine Dm.Wg2.Nl ?_ rfl rfl ?_) | (refine Dm.Wg2.Nm ?_ rfl rfl ?_) | (refine Dm.Wg2.eqb ?_ rfl rfl) | (refine Dm.Wg2.neb ?_ rfl rfl) | (refine Dm.Wg2.M9 ?_ rfl rfl) | (refine Dm.Wg2.isb ?_ rfl rfl) | (refine Dm.R7 ?_ rfl rfl) | (refine Dm.Sj ?_ rfl rfl) | (refine Dm.RW ?_ rfl rfl) | (refine Dm.So ?_ rfl rfl) | (refine Dm.Rj ?_ rfl rfl) | (refine Dm.R8 ?_ rfl rfl ?_) | (refine Dm.SK ?_ rfl rfl ?_) | (refine Dm.Sh ?_ rfl rfl ?_) | (refine Dm.RD ?_ rfl rfl) | (refine Dm.RY ?_ rfl rfl (by first | exact Or.inl (by decide) | exact Or.inr (by decide))) | (refine Dm.RY ?_ rfl rfl ?_) | (refine Dm.RX ?_ rfl rfl (by decide)) | (refine Dm.RX ?_ rfl rfl ?_) | (refine Dm.R0 ?_ rfl rfl (by decide)) | (refine Dm.R0 ?_ rfl rfl ?_) | (refine Dm.Wg2.din ?_ rfl rfl) | (refine Dm.SJ ?_ rfl rfl) | (refine Dm.SA ?_ rfl rfl) | (refine Dm.Wg2.Nr ?_ rfl rfl) | (refine Dm.Q5 ?_ rfl rfl rfl) | (refine Dm.RM (Em:=Dat.int) ?_ rfl) | (refine Dm.WB.len ?_ rfl) | (refine Dm.SR ?_ rfl) | (refine Dm.Sb ?_ rfl) | (refine Dm.Sd ?_ rfl) | (refine Dm.RJ ?_ rfl) | (refine Dm.Sm ?_ rfl) | (refine Dm.WB.sum2 ?_ rfl ?_) | (refine Dm.Wg1.Nt (Em:=Dat.int) ?_ rfl) | (refine Dm.Rt ?_ rfl rfl))
namespace P
open Dm
section
variable{r:List Tie}{ρ ρ1:Env}{ds:List Dat}{d:Dat}{R S:Env->Option Env}{Q:Val->Env->Prop}{b:Nat}{xs:List Val}{bad:List Dat->Bool}{N:Env->Prop}{n:Int}{ts us:List Tie}{k:Int}{ms:List Int}{x y:Int}{f:Int->Int}{K:RV->Prop}{fs:List FE}{B C:Env->Prop}{m:Int}{α:Type}{t:FT}{i:Nat}{a:Int}{j:Nat}{h:FS}{e:FE}
structure Tie where
 m:Int
 a:Int
 b:Int
noncomputable def aL(t:Tie):Dat:=.tup [.int t.m,.int t.a,.int t.b]
noncomputable def aO(r:List Tie):Dat:=.lst (r.map aL)
theorem nk(x n:Int)(h:1<=n):0<=x % n/\x % n<n:=⟨Int.emod_nonneg x (by lia),Int.emod_lt_of_pos x (by lia)⟩
noncomputable def at'(ns:List Int)(i:Int):Int:=ns.getD i.toNat 0
theorem nh(ns:List Int)(i:Int)(h0:0<=i)(h1:i<ns.length):atI (ns.map Dat.int) i=some (.int (at' ns i)):=by
 unfold atI ixN at';rw[if_pos h0,if_pos (by simpa using h1)];have hi:i.toNat<ns.length:=by lia
 show (ns.map Dat.int)[i.toNat]?=_;rw[NY,ND hi,Ow,ND hi];rfl
theorem Io(ns:List Int)(i:Int)(h0:0<=i)(h1:i<ns.length):gIx (.lst (ns.map Dat.int)) (.int i)=some (.val (.int (at' ns i))):=by show (atI (ns.map Dat.int) i).map RV.val=_;rw[nh ns i h0 h1];rfl
def Good(n:Int):Int->List Tie->Prop
 |_,[]=>True
 |lo,t::r=>lo<=t.m/\0<=t.a/\t.a<=t.b/\t.b<n/\Good n (t.m+1) r
noncomputable def mgf(f:Int->Int)(a b:Int):Int->Int:=fun x=>if f x=f b then f a else f x
inductive Con(ts:List Tie):Int->Int->Prop
 |refl (x:Int):Con ts x x
 |tie (t:Tie):t∈ts->Con ts t.a t.b
 |symm {x y:Int}:Con ts x y->Con ts y x
 |trans {x y z:Int}:Con ts x y->Con ts y z->Con ts x z
theorem Con.mono(h:∀t∈ts,t∈us)(c:Con ts x y):Con us x y:=by
 induction c with
 |refl x=>exact .refl x
 |tie t m=>exact .tie t (h t m)
 |symm _ ih=>exact .symm ih
 |trans _ _ i1 i2=>exact .trans i1 i2
theorem Con.lift(h:∀t∈ts,Con us t.a t.b)(c:Con ts x y):Con us x y:=by
 induction c with
 |refl x=>exact .refl x
 |tie t m=>exact h t m
 |symm _ ih=>exact .symm ih
 |trans _ _ i1 i2=>exact .trans i1 i2
def Tells(f:Int->Int)(ts:List Tie):Prop:=∀x y,f x=f y↔Con ts x y
theorem Con.nil(c:Con [] x y):x=y:=by
 induction c with
 |refl x=>rfl
 |tie t m=>cases m
 |symm _ ih=>exact ih.symm
 |trans _ _ i1 i2=>exact i1.trans i2
theorem tells_nil:Tells (fun x=>x) []:=fun x y=>⟨fun h=>by cases h;exact .refl _,fun c=>c.nil⟩
theorem tells_same(h:Tells f ts)(e:∀t,t∈ts↔t∈us):Tells f us:=fun x y=>(h x y).trans ⟨Con.mono fun t m=>(e t).mp m,Con.mono fun t m=>(e t).mpr m⟩
theorem tells_mgf{ts:List Tie}(h:Tells f ts)(t:Tie)(a b:Int)(S3:(a=t.a/\b=t.b)\/(a=t.b/\b=t.a)):Tells (mgf f a b) (t::ts):=by
 have up:∀{x y},f x=f y->Con (t::ts) x y:=fun e=>Con.mono (fun u m=>NB _ m) ((h _ _).mp e);have ab:Con (t::ts) a b:=by
  rcases S3 with⟨rfl,rfl⟩ | ⟨rfl,rfl⟩
  ·exact .tie t NJ
  ·exact .symm (.tie t NJ)
 intro x y;unfold mgf;constructor
 ·intro e;by_cases hx:f x=f b
  ·rw[if_pos hx]at e;by_cases hy:f y=f b
   ·exact up (hx.trans hy.symm)
   ·rw[if_neg hy]at e;exact .trans (up hx) (.trans (.symm ab) (up e))
  ·rw[if_neg hx]at e;by_cases hy:f y=f b
   ·rw[if_pos hy]at e;exact .trans (up e) (.trans ab (.symm (up hy)))
   ·rw[if_neg hy]at e;exact up e
 ·intro c;have key:∀{x y:Int},Con (t::ts) x y->(if f x=f b then f a else f x)=(if f y=f b then f a else f y):=fun c=>by
   induction c with
   |refl x=>rfl
   |tie u m=>
    rcases Dp.mp m with rfl | m
    ·rcases S3 with⟨rfl,rfl⟩ | ⟨rfl,rfl⟩
     ·rw[if_pos (rfl:f u.b=f u.b)];split
      ·rfl
      ·rfl
     ·rw[if_pos (rfl:f u.a=f u.a)];split
      ·rfl
      ·rfl
    ·have e:=(h u.a u.b).mpr (.tie u m);rw[e]
   |symm _ ih=>exact ih.symm
   |trans _ _ i1 i2=>exact i1.trans i2
  exact key c
noncomputable def qQ(f:Int->Int):List Tie->Int->Int
 |[]=>f
 |t::r=>qQ (mgf f t.b t.a) r
theorem mK:∀(r:List Tie) (f:Int->Int) (ts:List Tie),Tells f ts->Tells (qQ f r) (r++ts)
 |[],f,ts,h=>h
 |t::r,f,ts,h=>tells_same (mK r _ _ (tells_mgf h t t.b t.a (.inr ⟨rfl,rfl⟩))) fun u=>by
   simp only[Qv,N9,Dp];constructor
   ·rintro(h | h | h)
    ·exact .inr (.inl h)
    ·exact .inl h
    ·exact .inr (.inr h)
   ·rintro(h | h | h)
    ·exact .inr (.inl h)
    ·exact .inl h
    ·exact .inr (.inr h)
theorem BJ(r:List Tie)(a b:Int):qQ (fun x=>x) r a=qQ (fun x=>x) r b↔Con r a b:=by have:=mK r (fun x=>x) [] tells_nil a b;rw[Oi]at this;exact this
noncomputable def lay(r:List Tie)(ms:List Int)(j:Int):List Tie:=((r.zip ms).filter fun p=>decide (p.2=j)).map (·.1)
theorem lg(t:Tie)(m:Int)(r:List Tie)(ms:List Int)(j:Int):lay (t::r) (m::ms) j=if m=j then t::lay r ms j else lay r ms j:=by unfold lay;rw[Pr,List.filter_cons];by_cases h:m=j<;>simp[h]
def xP(k:Int)(r:List Tie)(ms:List Int)(t:Tie)(m:Int):Prop:=
 (m=0/\∀j,1<=j->j<=k->Con (lay r ms j) t.a t.b)\/(1<=m/\m<=k/\¬Con (lay r ms m) t.a t.b/\∀j,1<=j->j<m->Con (lay r ms j) t.a t.b)
def fN(k:Int):List Tie->List Int->Prop
 |[],[]=>True
 |t::r,m::ms=>fN k r ms/\xP k r ms t m
 |_,_=>False
theorem fN.len:∀{r:List Tie} {ms:List Int},fN k r ms->ms.length=r.length
 |[],[],_=>rfl
 |_::r,_::ms,h=>by simp[fN.len h.1]
 |[],_::_,h=>h.elim
 |_::_,[],h=>h.elim
noncomputable def lab(n:Nat)(f:Int->Int):Dat:=.lst ((NS n).map fun(i:Nat)=>Dat.int (f i))
theorem rP(n:Nat)(f:Int->Int)(x:Int)(h0:0<=x)(h1:x<n):gIx (lab n f) (.int x)=some (.val (.int (f x))):=by
 unfold lab gIx atI ixN;have hx:x.toNat<n:=by lia
 have hc:((x.toNat:Nat):Int)=x:=by lia
 simp only[NI,N4,h0,h1,if_true];simp[Pe hx,hc]
theorem Ip(n:Nat):Dat.lst (ups 0 n)=lab n fun x=>x:=by unfold ups lab;simp
theorem Ex(n:Nat)(f:Int->Int):lab n f=.lst (((NS n).map fun(i:Nat)=>f i).map Dat.int):=by unfold lab;rw[O0];rfl
theorem y_(n:Nat)(hn:n<=10)(f:Int->Int)(a b:Int)(a0:0<=a)(a1:a<n)(b0:0<=b)(b1:b<n):Ew [lab n f,.int a,.int b]=some (.new (lab n (mgf f a b))):=by
 apply Rk;unfold Ew
 (refine Dm.Rc ?_ rfl rfl;and_intros)
 refine Q_ (R6 (fun i:Nat=>Dat.int (f i)) (NS n) (fun i:Nat=>mgf f a b i) Dat.int (d:=lab n f) ?_ rfl rfl rfl (by decide) (by rw[N4];unfold SZ;lia) fun i _=>?_)
 ·rw[<- Ex];rfl
 ·refine Se (Q7 (Q0 (N_ rfl (Q0 (N_ rfl (N_ rfl (Q5 ?_ rfl rfl (rP n f b b0 b1))))))));refine RA (Q2 ⟨fun g=>?_,fun g=>?_⟩) rfl rfl
  ·refine Q0 (N_ rfl (N_ rfl (Q5 (Rg ⟨?_,rfl⟩) rfl rfl (rP n f a a0 a1))));unfold mgf;rw[if_pos (of_decide_eq_true g)]
  ·refine N_ rfl (Rg ⟨?_,rfl⟩);unfold mgf;rw[if_neg (of_decide_eq_false g)]
theorem uv(Em:α->Dat)(d:α):∀(k:Nat) (l:List α),kU k (l.map Em)=(NS l.length).map fun i=>.tup [.int ((k+i:Nat):Int),Em (l.getD i d)]
 |k,[]=>rfl
 |k,x::l=>by
  rw[Nv,kU,uv Em d (k+1) l,NZ,List.range_succ_eq_map,Nv,O0]
  congr 1
  apply List.map_congr_left;intro i _;show _=Dat.tup [.int ((k+(i+1):Nat):Int),Em ((x::l).getD (i+1) d)];rw[show k+1+i=k+(i+1) by lia];rfl
theorem uw{n k:Nat}{p q:List Nat}(e:NS n=p++k::q):k=p.length/\k<n:=by
 have h1:(NS n)[p.length]?=some k:=by rw[e,NQ (NC _),QT];rfl
 have h2:p.length<n:=by
  have:(NS n).length=p.length+(q.length+1):=by rw[e];simp
  rw[N4]at this;lia
 rw[Pe h2]at h1;injection h1 with h1
 lia
def BK(gs:List (Int->Int))(a b:Int)(i:Nat)(num:Int):Prop:=
 (num=0/\∀(j:Nat) f,j<i->gs[j]?=some f->f a=f b)\/∃(j:Nat) (f:Int->Int),j<i/\gs[j]?=some f/\f a≠f b/\(∀(j':Nat) f',j'<j->gs[j']?=some f'->f' a=f' b)/\num=(j:Int)+1
theorem BL(n:Nat)(gs:List (Int->Int))(a b:Int)(a0:0<=a)(a1:a<n)(b0:0<=b)(b1:b<n):∃num:Int,BA [.lst (gs.map (lab n)),.int a,.int b]=some (.val (.int num))/\BK gs a b gs.length num:=by
 suffices hh:Wr (BA [.lst (gs.map (lab n)),.int a,.int b]) fun v=>∃num:Int,v=.val (.int num)/\BK gs a b gs.length num by obtain⟨v,h1,num,rfl,h2⟩:=hh;exact⟨num,h1,h2⟩
 unfold BA
 (refine Dm.Rc ?_ rfl rfl;and_intros)
 refine QZ (Rz (SV (N_ rfl (Rg ⟨_,rfl,?_⟩))));rw[uv (lab n) fun x=>x];refine RC (fun i:Nat=>Dat.tup [.int ((0+i:Nat):Int),lab n (gs.getD i fun x=>x)]) _ _ (NS gs.length) _ _ _ _ _ (fun p q ρ=>∃c3 c4:Cell,ρ=[.sh (.lst (gs.map (lab n))),.sh (.int a),.sh (.int b),c3,c4]/\∀(j:Nat) f,j<p.length->gs[j]?=some f->f a=f b) ⟨_,_,rfl,fun j f hj=>by simp at hj⟩ ?_ ?_
 ·rintro p i q ρ e ⟨c3,c4,rfl,low⟩;obtain⟨ip,il⟩:=uw e;have hf:gs[i]?=some (gs.getD i fun x=>x):=by rw[Ow,ND il];rfl
  generalize (gs.getD i fun x=>x)=f at hf
  refine Dm.fY rfl (by trivial) ?_;unfold FJ;refine Ra (Q7 (Q0 (Q0 (N_ rfl (N_ rfl (Q5 ?_ rfl rfl (rP n f a a0 a1)))))));refine Q0 (N_ rfl (N_ rfl (Q5 ?_ rfl rfl (rP n f b b0 b1))));refine RU (Q2 ?_) rfl rfl;by_cases h:f a=f b
  ·refine RB (by simp[h]) (Q8 ⟨_,_,rfl,fun j g hj hg=>?_⟩);rw[NL,Oc]at hj;by_cases q:j=i
   ·subst q;rw[hf]at hg;cases hg;exact h
   ·exact low j g (by lia) hg
  ·refine R3 (by simp[h]) (Q_ (Q0 (N_ rfl (P_ (Rj ?_ rfl rfl)))));exact⟨_,rfl,.inr ⟨i,f,il,hf,h,fun j g hj=>low j g (by lia),by lia⟩⟩
 ·rintro ρ ⟨c3,c4,rfl,low⟩;rw[N4]at low;exact Q_ (P_ ⟨0,rfl,.inl ⟨rfl,low⟩⟩)
def Ends(n:Int)(r:List Tie):Prop:=∀t∈r,0<=t.a/\t.a<n/\0<=t.b/\t.b<n
theorem Good.ends:∀{lo:Int} {r:List Tie},Good n lo r->Ends n r
 |_,[],_,t,h=>by cases h
 |_,u::r,g,t,h=>by
  obtain⟨g1,g2,g3,g4,g5⟩:=g;rcases Dp.mp h with rfl | h
  ·exact⟨g2,by lia,by lia,g4⟩
  ·exact Good.ends g5 t h
def Ey(k:Nat)(gs:List (Int->Int))(r:List Tie)(ms:List Int):Prop:=gs.length=k/\∀(j:Nat) f,gs[j]?=some f->Tells f (lay r ms ((j:Int)+1))
theorem map_set(n:Nat)(gs:List (Int->Int))(i:Nat)(f:Int->Int):(gs.map (lab n)).set i (lab n f)=(gs.set i f).map (lab n):=by rw[List.map_set]
def BN(o:Bool)(gs gs':List (Int->Int))(a b:Int)(i:Nat)(num:Int):Prop:=
 (num=0/\gs'=gs/\∀(j:Nat) f,j<i->gs[j]?=some f->f a=f b)\/∃(j:Nat) (f:Int->Int),j<i/\gs[j]?=some f/\f a≠f b/\(∀(j':Nat) f',j'<j->gs[j']?=some f'->f' a=f' b)/\num=(j:Int)+1/\gs'=gs.set j (mgf f (if o then a else b) (if o then b else a))
theorem BN.num{k:Nat}{o:Bool}{gs gs':List (Int->Int)}(h:Ey k gs r ms)(t:Tie){num:Int}(l:BN o gs gs' t.a t.b k num):xP k r ms t num/\Ey k gs' (t::r) (num::ms):=by
 obtain⟨hl,ht⟩:=h;rcases l with⟨rfl,rfl,h2⟩ | ⟨j,f,jk,h1,h3,h4,rfl,rfl⟩
 ·refine⟨.inl ⟨rfl,fun j j1 j2=>?_⟩,hl,fun i g hg=>?_⟩
  ·have hj:(j-1).toNat<gs'.length:=by lia
   have:=(ht (j-1).toNat _ (ND hj) t.a t.b).mp (h2 _ _ (by lia) (ND hj));rw[show (((j-1).toNat:Nat):Int)+1=j by lia]at this;exact this
  ·rw[lg,if_neg (by lia)];exact ht i g hg
 ·have hj:j<gs.length:=(Ny.mp h1).1;refine⟨.inr ⟨by lia,by lia,fun c=>h3 ((ht j f h1 t.a t.b).mpr c),fun i i1 i2=>?_⟩,by rw[Oj];exact hl,fun i g hg=>?_⟩
  ·have hi:(i-1).toNat<gs.length:=by lia
   have:=(ht (i-1).toNat _ (ND hi) t.a t.b).mp (h4 (i-1).toNat _ (by lia) (ND hi));rw[show (((i-1).toNat:Nat):Int)+1=i by lia]at this;exact this
  ·rw[lg];by_cases q:j=i
   ·subst q;rw[NW hj]at hg;cases hg;rw[if_pos rfl];cases o
    ·exact tells_mgf (ht j f h1) t t.b t.a (.inr ⟨rfl,rfl⟩)
    ·exact tells_mgf (ht j f h1) t t.a t.b (.inl ⟨rfl,rfl⟩)
   ·rw[gc q]at hg;rw[if_neg (by lia)];exact ht i g hg
theorem Lq(n:Nat)(gs:List (Int->Int))(h:gs[i]?=some f):gIx (.lst (gs.map (lab n))) (.int (0+(i:Nat)))=some (.val (lab n f)):=by
 have hi:=(Ny.mp h).1;rw[Int.zero_add];show (atI (gs.map (lab n)) i).map RV.val=_;rw[Dm.nh (lab n) gs (i:Nat) (by lia) (by lia)];have:gs[((i:Nat):Int).toNat]'(by lia)=f:=by
  have:=Ny.mp h
  simpa using this.2
 rw[this];rfl
theorem M_(k:Nat):Ey k ((NS k).map fun _=>(fun x:Int=>x)) [] []:=⟨by simp,fun j f hf=>by
 rw[NY]at hf;cases h:(NS k)[j]? with
 |none=>rw[h]at hf;cases hf
 |some x=>rw[h]at hf;cases hf;exact tells_nil⟩
theorem BO(i:Int):Es [.int i]=some (.val (.bl true)):=by
 apply Rk;unfold Es
 (refine Dm.Rc ?_ rfl rfl;and_intros)
 refine Q_ (RQ (Ry (N_ rfl (Rt (v:=.val (.bl true)) (Q2 (RG ?_)) rfl rfl))));exact⟨_,_,rfl,rfl⟩
theorem jn(i lo hi:Int)(h1:lo<=i)(h2:i<=hi):y9 [.int i,.int lo,.int hi]=some (.val (.bl true)):=by
 apply Rk;unfold y9
 (refine Dm.Rc ?_ rfl rfl;and_intros)
 refine Q_ (RQ (Rb (m_ (N_ rfl (O_ (Q9 (BO i) (Q2 (RG ?_)) rfl rfl))))));have e1:gLe (.int lo) (.int i)=some (.val (.bl true)):=by show vB (decide (lo<=i))=_;rw[decide_eq_true h1]
 have e2:gLe (.int i) (.int hi)=some (.val (.bl true)):=by show vB (decide (i<=hi))=_;rw[decide_eq_true h2]
 have e:lK gLe gLe (eV 1) (eV 0) (eV 2) [.sh (.int i),.sh (.int lo),.sh (.int hi)]=some (.val (.bl true),[.sh (.int i),.sh (.int lo),.sh (.int hi)]):=by unfold lK;simp only[eV,List.getElem?_cons_zero,OO,pk,e1,e2,RV.dc]
 exact⟨_,_,e,rfl⟩
theorem gw(k:Int)(h1:1<=k)(h6:k<=6):g_ [.int k]=some (.val .non):=by
 have e:rO [.int k]=some (.val (.bl true)):=by
  apply Rk;unfold rO
  (refine Dm.Rc ?_ rfl rfl;and_intros)
  exact Q_ (Rb (m_ (N_ rfl (m_ (P_ (m_ (P_ (O_ (Q9 (jn k 1 6 h1 h6) rfl rfl rfl)))))))))
 apply Rk;unfold g_
 (refine Dm.Rc ?_ rfl rfl;and_intros)
 exact Ra (Rw (Q7 (Rb (m_ (N_ rfl (O_ (Q9 e (Q2 (Ri (Q8 rfl))) rfl rfl)))))))
theorem vP(n k:Nat)(hn:n<=10)(hk1:1<=k)(hk6:k<=6)(r:List Tie)(hr:Ends n r)(hl:r.length<=1000):∃ms:List Int,uo [.int n,aO r,.int k]=some (.new (.lst (ms.map Dat.int)))/\fN k r ms:=by
 suffices hh:Wr (uo [.int (n:Nat),aO r,.int (k:Nat)]) fun v=>∃ms:List Int,v=.new (.lst (ms.map Dat.int))/\fN k r ms by obtain⟨v,h1,ms,rfl,h2⟩:=hh;exact⟨ms,h1,h2⟩
 unfold uo
 (refine Dm.Rc ?_ rfl rfl;and_intros)
 refine QZ (Ss (Rb (m_ (N_ rfl (O_ (Q9 (gw k (by lia) (by lia)) ?_ rfl rfl))))));refine QZ (Q4 (Si (fun i:Nat=>Dat.int (0+(i:Nat))) (NS k) (fun _=>(fun x:Int=>x)) (lab n) (ρ1:=[.sh (.int (n:Nat)),.sh (aO r),.sh (.int (k:Nat)),.un,.un,.un,.un,.un,.un]) ?_ ?_ rfl (by decide) (by rw[N4];unfold SZ;lia) fun i _=>?_) (by decide))
 rotate_left
 ·apply SI;refine RP (N_ rfl (cy.mk ⟨⟨?_,rfl⟩,by unfold BIG;lia,by unfold BIG;lia⟩));rw[Int.toNat_natCast];rfl
 ·refine Rm (m_ (N_ rfl (O_ (SQ ?_ rfl (by lia)))));rw[Int.toNat_natCast,Ip];exact RT ⟨rfl,rfl⟩
 refine Rl ?_ (by trivial);refine QZ (Q4 (Rx (O_ (Q6 ?_ rfl rfl (by decide)))) (by decide));refine Rl ?_ (by trivial);refine QZ (Rz (SG (N_ rfl (Rg ⟨_,rfl,?_⟩))));rw[<- List.map_reverse];refine RC aL _ _ r.reverse _ _ _ _ _ (fun p q ρ=>∃(gs:List (Int->Int)) (ms:List Int) (c5 c6 c7 c8:Cell),ρ=[.sh (.int (n:Nat)),.sh (aO r),.sh (.int (k:Nat)),.ow (.lst (gs.map (lab n))),.ow (.lst (ms.reverse.map Dat.int)),c5,c6,c7,c8]/\Ey k gs p.reverse ms/\fN k p.reverse ms) ⟨(NS k).map fun _=>(fun x:Int=>x),[],.un,.un,.un,.un,rfl,M_ k,trivial⟩ ?_ ?_
 ·rintro p t q ρ e ⟨gs,ms,c5,c6,c7,c8,rfl,I,A⟩;have ht:t∈r:=List.mem_reverse.mp (by rw[e];simp);obtain⟨t0,t1,t2,t3⟩:=hr t ht;have lp:ms.length<=1000:=by
   have a:=A.len;have:r.reverse.length=p.length+(q.length+1):=by rw[e];simp
   rw[OE]at a this
   lia
  obtain⟨num,en,ln⟩:=BL n gs t.a t.b t0 t1 t2 t3;rw[I.1]at ln;refine Dm.fY rfl (by trivial) ?_;unfold BB;refine QZ (Q4 (Rb (m_ (Rf rfl (m_ (N_ rfl (m_ (N_ rfl (O_ (Q9 en (Q3 ?_ (by trivial)) rfl rfl))))))))) (by decide));refine RK (fun ρ=>∃gs',ρ=[.sh (.int (n:Nat)),.sh (aO r),.sh (.int (k:Nat)),.ow (.lst (gs'.map (lab n))),.ow (.lst (ms.reverse.map Dat.int)),.sh (.int t.m),.sh (.int t.a),.sh (.int t.b),.sh (.int num)]/\BN true gs gs' t.a t.b k num) ?_ ?_
  ·refine Ra (Q7 (Q0 (N_ rfl (P_ (RW (Q2 ?_) rfl rfl)))));rcases ln with⟨rfl,low⟩ | ⟨j,f,jk,hf,ne,low,rfl⟩
   ·exact RB rfl (Q8 ⟨gs,rfl,.inl ⟨rfl,rfl,low⟩⟩)
   ·have gi:gIx (.lst (gs.map (lab n))) (.int ((j:Int)+1-1))=some (.val (lab n f)):=by
     have:=Lq n gs hf;rw[show (j:Int)+1-1=0+(j:Nat) by lia];exact this
    refine R3 (decide_eq_true (by lia)) ?_;refine R_ (Rb (m_ (Q0 (Rf rfl (Q0 (N_ rfl (P_ (RD (Q5 ?_ rfl rfl gi) rfl rfl))))))));refine m_ (N_ rfl (m_ (N_ rfl (O_ (Ru (y_ n hn f t.a t.b t0 t1 t2 t3) ?_ rfl rfl rfl (by trivial))))));refine RT ⟨⟨_,rfl⟩,Q0 (N_ rfl (P_ (RD (cy.mk ⟨gs.map (lab n),j,_,rfl,?_,rfl,?_⟩) rfl rfl)))⟩
    ·have hj:j<gs.length:=(Ny.mp hf).1;rw[NI];unfold ixN;rw[if_pos (by lia),if_pos (by lia)]
     congr 1
     lia
    ·exact⟨gs.set j (mgf f t.a t.b),by rw[<- map_set];rfl,.inr ⟨j,f,jk,hf,ne,low,rfl,rfl⟩⟩
  ·rintro ρ ⟨gs',rfl,L⟩;obtain⟨h1,h2⟩:=L.num I t;refine RS (N_ rfl (Rg (oA ?_ rfl (by trivial) (by rw[NI,OE];unfold SZ;lia)))) rfl;refine⟨gs',num::ms,.sh (.int t.m),.sh (.int t.a),.sh (.int t.b),.sh (.int num),by rw[Qp,Oo];rfl,?_⟩;rw[List.reverse_append];exact⟨h2,A,h1⟩
 ·rintro ρ ⟨gs,ms,c5,c6,c7,c8,rfl,I,A⟩;rw[List.reverse_reverse]at A;refine Q_ (Ry (Rf rfl (Rt (v:=.new (.lst (ms.map Dat.int))) ?_ rfl ?_)))
  ·exact⟨ms,rfl,A⟩
  ·unfold nX;dsimp only;rw[<- List.map_reverse,List.reverse_reverse]
noncomputable def Ca(r:List Tie)(ms:List Int)(j:Int):List Tie:=((r.zip ms).filter fun p=>decide (p.2=0\/j<p.2)).map (·.1)
theorem jo(t:Tie)(m:Int)(r:List Tie)(ms:List Int)(j:Int):Ca (t::r) (m::ms) j=if m=0\/j<m then t::Ca r ms j else Ca r ms j:=by
 unfold Ca;rw[Pr,List.filter_cons];by_cases h:m=0\/j<m
 ·simp only[decide_eq_true h,if_true,if_pos h,Nv]
 ·simp only[decide_eq_false h,if_neg h,O4,if_false]
theorem ux(j:Int)(j1:1<=j)(jk:j<=k):∀{r:List Tie} {ms:List Int},fN k r ms->∀x y,Con (lay r ms j) x y↔Con (Ca r ms (j-1)) x y
 |[],[],_,x,y=>Iff.rfl
 |t::r,m::ms,ha,x,y=>by
  have ih:=ux j j1 jk ha.1;rw[lg,jo];have up:∀{a b},Con (lay r ms j) a b->Con (t::lay r ms j) a b:=Con.mono fun u hu=>NB _ hu;have up':∀{a b},Con (Ca r ms (j-1)) a b->Con (t::Ca r ms (j-1)) a b:=Con.mono fun u hu=>NB _ hu;by_cases h:m=j
  ·rw[if_pos h,if_pos (.inr (by lia))];constructor
   ·refine Con.lift fun u hu=>?_;rcases Dp.mp hu with rfl | hu
    ·exact .tie u NJ
    ·exact up' ((ih _ _).mp (.tie u hu))
   ·refine Con.lift fun u hu=>?_;rcases Dp.mp hu with rfl | hu
    ·exact .tie u NJ
    ·exact up ((ih _ _).mpr (.tie u hu))
  ·rw[if_neg h];by_cases h2:m=0\/j-1<m
   ·rw[if_pos h2];have ct:Con (lay r ms j) t.a t.b:=by
     rcases ha.2 with⟨_,g⟩ | ⟨_,_,_,g⟩
     ·exact g j j1 jk
     ·exact g j j1 (by lia)
    constructor
    ·exact fun c=>up' ((ih _ _).mp c)
    ·refine Con.lift fun u hu=>?_;rcases Dp.mp hu with rfl | hu
     ·exact ct
     ·exact(ih _ _).mpr (.tie u hu)
   ·rw[if_neg h2];exact ih x y
 |[],_::_,h,_,_=>h.elim
 |_::_,[],h,_,_=>h.elim
theorem xP.past{t:Tie}(h:xP k r ms t m)(j:Int)(jk:j<=k):(m=0\/j<m)↔∀i,1<=i->i<=j->Con (lay r ms i) t.a t.b:=by
 rcases h with⟨h1,h2⟩ | ⟨h1,h2,h3,h4⟩
 ·exact⟨fun _ i i1 i2=>h2 i i1 (by lia),fun _=>.inl h1⟩
 ·constructor
  ·rintro(g | g) i i1 i2
   ·lia
   ·exact h4 i i1 (by lia)
  ·intro g;refine .inr (Classical.byContradiction fun c=>h3 (g m h1 (by lia)))
theorem Ez(ks:List Int)(i:Int):(ks.any fun k=>decide (k=i))=decide (i∈ks):=by
 induction ks with
 |nil=>rfl
 |cons k ks ih=>
  rw[OU,ih];by_cases h:k=i
  ·simp[h]
  ·have h':¬i=k:=fun z=>h z.symm;simp[h,h']
theorem EA{ks:List Int}{vs:List Dat}{i:Int}(h:i∉ks):mz ks i=ks++[i]/\mC ks vs i d=vs++[d]:=by unfold mz mC;rw[Ez,decide_eq_false h];exact⟨rfl,rfl⟩
theorem za(key:α->Int)(val:α->Dat)(xs:List α)(i:Int):e_ (xs.map key) (xs.map val) i=(xs.find? fun x=>decide (key x=i)).map val:=by
 induction xs with
 |nil=>rfl
 |cons x xs ih=>
  rw[Nv,Nv,e_,Ox];by_cases h:key x=i
  ·simp[h]
  ·simp[h,ih]
theorem Good.lo:∀{r:List Tie} {lo:Int},Good n lo r->∀t∈r,lo<=t.m
 |[],_,_,t,h=>by cases h
 |x::r,lo,g,t,h=>by
  rcases Dp.mp h with rfl | h
  ·exact g.1
  ·have:=Good.lo g.2.2.2.2 t h;have:=g.1;lia
theorem Good.mem:∀{r:List Tie} {lo:Int},Good n lo r->∀t∈r,0<=t.a/\t.a<=t.b/\t.b<n
 |[],_,_,t,h=>by cases h
 |x::r,lo,g,t,h=>by
  rcases Dp.mp h with rfl | h
  ·exact⟨g.2.1,g.2.2.1,g.2.2.2.1⟩
  ·exact Good.mem g.2.2.2.2 t h
theorem Good.uniq:∀{r:List Tie} {lo:Int},Good n lo r->∀t∈r,∀u∈r,t.m=u.m->t=u
 |[],_,_,t,h,_,_,_=>by cases h
 |x::r,lo,g,t,ht,u,hu,e=>by
  rcases Dp.mp ht with rfl | _
  ·rcases Dp.mp hu with rfl | hu
   ·rfl
   ·have:=Good.lo g.2.2.2.2 u hu;lia
  ·rename_i ht';rcases Dp.mp hu with rfl | hu
   ·have:=Good.lo g.2.2.2.2 t ht';lia
   ·exact Good.uniq g.2.2.2.2 t ht' u hu e
noncomputable def oth(t:Tie)(x:Int):Int:=if x=t.a then t.b else t.a
def path(r:List Tie):Int->List Tie->Int->Prop
 |x,[],y=>x=y
 |x,t::ts,y=>t∈r/\t.a≠t.b/\(x=t.a\/x=t.b)/\path r (oth t x) ts y
theorem uy:∀{ts us:List Tie} {x y z:Int},path r x ts y->path r y us z->path r x (ts++us) z
 |[],_,_,_,_,h,k=>by cases h;exact k
 |t::ts,_,_,_,_,⟨h1,h2,h3,h4⟩,k=>⟨h1,h2,h3,uy h4 k⟩
theorem Lu{ns:List Int}{i:Int}{o p:Option Dat}(h0:0<=i)(h1:i<ns.length)(k:K (.val (.int (at' ns i))))(ho:o=some (.lst (ns.map Dat.int)))(hp:p=some (.int i)):Wg2 gIx o p K:=⟨_,_,_,ho,hp,Io ns i h0 h1,k⟩
theorem lW[DecidableEq α]:∀(l m:List α),l.Nodup->(∀x∈l,x∈m)->l.length<=m.length
 |[],m,_,_=>Od _
 |x::l,m,h,s=>by obtain⟨h1,h2⟩:=Pg.mp h;have hx:=s x NJ;have:=lW l (m.erase x) h2 fun y hy=>(List.mem_erase_of_ne (a:=y) (b:=x) (fun e=>h1 (by rw[<- e];exact hy))).mpr (s y (NB _ hy));rw[List.length_erase_of_mem hx]at this;have:0<m.length:=List.length_pos_of_mem hx;rw[NZ];lia
noncomputable def places(n:Nat):List Int:=(NS n).map fun i:Nat=>(i:Int)
theorem places_len(n:Nat):(places n).length=n:=by simp[places]
theorem vQ(n:Nat)(x:Int):x∈places n↔0<=x/\x<n:=by
 unfold places;rw[Ol];constructor
 ·rintro⟨i,hi,rfl⟩;have:=Pw.mp hi;lia
 ·intro h;exact⟨x.toNat,Pw.mpr (by lia),by lia⟩
noncomputable abbrev Sr:=List (Int×List Tie)
noncomputable def msD(ts:List Tie):Dat:=.lst ((ts.map (·.m)).map Dat.int)
noncomputable def sk(s:Sr):List Int:=s.map (·.1)
noncomputable def sv(s:Sr):List Dat:=s.map fun e=>msD e.2
structure Fnd(n:Nat)(r:List Tie)(a:Int)(s:Sr):Prop where
 nd:(sk s).Nodup
 inn:∀x∈sk s,0<=x/\x<n
 a0:a∈sk s
 way:∀e∈s,path r a e.2 e.1/\(e.2.map (·.m)).Nodup/\(∀t∈e.2,t.a∈sk s/\t.b∈sk s)/\e.2.length<s.length
theorem Fnd.len{n:Nat}{s:Sr}(h:Fnd n r a s):s.length<=n:=by
 have:=lW (sk s) (places n) h.nd fun x hx=>(vQ n x).mpr (h.inn x hx);rw[places_len]at this
 simpa [sk] using this
theorem Fnd.start{n:Nat}(a0:0<=a)(a1:a<n):Fnd n r a [(a,[])] where
 nd:=by simp[sk]
 inn:=by intro x hx;simp[sk]at hx;subst hx;exact⟨a0,a1⟩
 a0:=by simp[sk]
 way:=by intro e he;simp at he;subst he;exact⟨rfl,by simp,by simp,by simp⟩
theorem e7(s:Sr)(x:Int)(ts:List Tie):sk (s++[(x,ts)])=sk s++[x]:=by simp[sk]
theorem EB(s:Sr)(x:Int)(ts:List Tie):sv (s++[(x,ts)])=sv s++[msD ts]:=by simp[sv]
theorem iM:∀{ts:List Tie} {x y:Int},path r x ts y->∀t∈ts,t∈r/\t.a≠t.b
 |[],_,_,_,t,h=>by cases h
 |u::ts,_,_,⟨h1,h2,_,h4⟩,t,h=>by
  rcases Dp.mp h with rfl | h
  ·exact⟨h1,h2⟩
  ·exact iM h4 t h
theorem Fnd.step{n:Nat}{s:Sr}(hr:Good n 0 r)(h:Fnd n r a s){p:Int}{ts:List Tie}(hp:(p,ts)∈s){u:Tie}(hu:u∈r)(hpu:p=u.a\/p=u.b)(hn:u.a+u.b-p∉sk s) :
  Fnd n r a (s++[(u.a+u.b-p,ts++[u])]):=by
 have pk:p∈sk s:=Ol.mpr ⟨_,hp,rfl⟩;have g:=Good.mem hr u hu;obtain⟨w1,w2,w3,w4⟩:=h.way _ hp;have ne:u.a≠u.b:=fun e=>hn (by rw[show u.a+u.b-p=p by lia];exact pk)
 have eo:oth u p=u.a+u.b-p:=by
  unfold oth;by_cases q:p=u.a
  ·rw[if_pos q];lia
  ·rw[if_neg q];rcases hpu with q' | q'<;>lia
 refine⟨?_,?_,?_,?_⟩
 ·rw[e7];exact List.nodup_append.mpr ⟨h.nd,by simp,fun x hx y hy e=>by rw[N7]at hy;subst hy;subst e;exact hn hx⟩
 ·intro x hx;rw[e7]at hx;rcases N9.mp hx with hx | hx
  ·exact h.inn x hx
  ·rw[N7]at hx;subst hx;rcases hpu with q | q<;>lia
 ·rw[e7];exact NT _ h.a0
 ·intro e he;rcases N9.mp he with he | he
  ·obtain⟨v1,v2,v3,v4⟩:=h.way e he;exact⟨v1,v2,fun t ht=>by rw[e7];exact⟨NT _ (v3 t ht).1,NT _ (v3 t ht).2⟩,by simp;lia⟩
  ·rw[N7]at he;subst he;refine⟨?_,?_,?_,?_⟩
   ·exact uy w1 ⟨hu,ne,hpu,eo⟩
   ·rw[Oo];refine List.nodup_append.mpr ⟨w2,by simp,fun x hx y hy e=>?_⟩;obtain⟨t,ht,rfl⟩:=Ol.mp hx;rw[Nv,Qu,N7]at hy;subst hy;have:t=u:=Good.uniq hr t (iM w1 t ht).1 u hu e;subst this;obtain⟨q1,q2⟩:=w3 t ht;rcases hpu with q | q
    ·exact hn (by rw[show t.a+t.b-p=t.b by lia];exact q2)
    ·exact hn (by rw[show t.a+t.b-p=t.a by lia];exact q1)
   ·intro t ht;rw[e7];rcases N9.mp ht with ht | ht
    ·exact⟨NT _ (w3 t ht).1,NT _ (w3 t ht).2⟩
    ·rw[N7]at ht;subst ht;rcases hpu with q | q
     ·subst q;refine⟨NT _ pk,NU _ ?_⟩;simp;lia
     ·subst q;refine⟨NU _ ?_,NT _ pk⟩;simp
   ·simp;simp at w4;lia
theorem vR(s:Sr)(x:Int):(∃ts,(x,ts)∈s/\e_ (sk s) (sv s) x=some (msD ts))\/(x∉sk s/\e_ (sk s) (sv s) x=none):=by
 unfold sk sv;rw[za (fun e:Int×List Tie=>e.1) (fun e=>msD e.2) s x];cases hf:s.find? fun e=>decide (e.1=x) with
 |none=>refine Or.inr ⟨fun h=>?_,rfl⟩;obtain⟨e,he,hx⟩:=Ol.mp h;have:=List.find?_eq_none.mp hf e he;simp[hx]at this
 |some e=>
  have h1:=List.mem_of_find?_eq_some hf;have h2:=List.find?_some hf;have h2:e.1=x:=by simpa using h2
  exact Or.inl ⟨e.2,by rw[<- h2];exact h1,rfl⟩
theorem uz(s:Sr)(x:Int):(e_ (sk s) (sv s) x).isSome=decide (x∈sk s):=by
 rcases vR s x with⟨ts,h1,h2⟩ | ⟨h1,h2⟩
 ·have:x∈sk s:=Ol.mpr ⟨_,h1,rfl⟩;rw[h2,decide_eq_true this];rfl
 ·rw[h2,decide_eq_false h1];rfl
theorem Iq(ns:List Int)(i:Int)(h0:0<=i)(h1:i<ns.length):at' ns i∈ns:=by unfold at';rw[Ow,ND (by lia)];exact PL _
def Done(r:List Tie)(K:List Int)(x:Int):Prop:=∀u∈r,(x=u.a\/x=u.b)->u.a+u.b-x∈K
theorem Done.more{K K':List Int}{x:Int}(h:Done r K x)(s:∀y∈K,y∈K'):Done r K' x:=fun u hu hx=>s _ (h u hu hx)
theorem vS{K:List Int}(h:∀x∈K,Done r K x)(c:Con r x y):x∈K↔y∈K:=by
 induction c with
 |refl x=>exact Iff.rfl
 |tie t m=>
  constructor
  ·intro hx;have:=h _ hx t m (.inl rfl);have e:t.a+t.b-t.a=t.b:=by lia
   rw[e]at this;exact this
  ·intro hx;have:=h _ hx t m (.inr rfl);have e:t.a+t.b-t.b=t.a:=by lia
   rw[e]at this;exact this
 |symm _ ih=>exact ih.symm
 |trans _ _ i1 i2=>exact i1.trans i2
noncomputable def EC(r:List Tie)(a b:Int)(s:Sr)(ps:List Int)(c5 c6 c7 c8 c9:Cell):Env:=[.sh (aO r),.sh (.int a),.sh (.int b),.ow (.dct (sk s) (sv s)),.ow (.lst (ps.map Dat.int)),c5,c6,c7,c8,c9]
theorem pY(n:Nat)(hn:n<=10)(r:List Tie)(hr:Good n 0 r)(hl:r.length<=60)(a b:Int)(a0:0<=a)(a1:a<n) :
  (¬Con r a b/\qJ [aO r,.int a,.int b]=some (.val .non))\/∃ts:List Tie,qJ [aO r,.int a,.int b]=some (.val (msD ts))/\path r a ts b/\(ts.map (·.m)).Nodup/\ts.length<=10:=by
 suffices h:Wr (qJ [aO r,.int a,.int b]) fun v=>(¬Con r a b/\v=.val .non)\/∃ts:List Tie,v=.val (msD ts)/\path r a ts b/\(ts.map (·.m)).Nodup/\ts.length<=10 by
  obtain⟨v,h1,h⟩:=h;rcases h with⟨h2,rfl⟩ | ⟨ts,rfl,h2⟩
  ·exact .inl ⟨h2,h1⟩
  ·exact .inr ⟨ts,h1,h2⟩
 unfold qJ
 (refine Dm.Rc ?_ rfl rfl;and_intros)
 repeat array_get_dec
 refine Sf (fun k ρ=>∃(s:Sr) (ps:List Int) (c5 c6 c7 c8 c9:Cell),ρ=EC r a b s ps c5 c6 c7 c8 c9/\Fnd n r a s/\(∀x∈ps,x∈sk s)/\(∀x∈sk s,x∈ps\/Done r (sk s) x)/\k=ps.length+(n-s.length)/\k<=10) ?_ 100 n _ (by lia) ⟨[(a,[])],[a],_,_,_,_,_,rfl,Fnd.start a0 a1,by simp[sk],by simp[sk],by simp;lia,hn⟩;rintro k ρ ⟨s,ps,c5,c6,c7,c8,c9,rfl,F,hps,hd,hk,Nu⟩;unfold EC;refine SS ?_;refine Rf rfl ?_;refine⟨_,!(ps.map Dat.int).isEmpty,rfl,rfl,?_⟩;have len:=F.len;rcases List.eq_nil_or_concat ps with e | ⟨ps0,p0,e⟩
 ·subst e;refine RB rfl ?_
  repeat array_get_dec
  refine SY ?_
  repeat array_get_dec
  refine⟨⟨_,_,rfl⟩,?_⟩
  repeat array_get_dec
  refine⟨_,_,_,rfl,rfl,?_⟩
  repeat array_get_dec
  rcases vR s b with⟨ts,h1,h2⟩ | ⟨h1,h2⟩
  ·obtain⟨w1,w2,w3,w4⟩:=F.way _ h1;exact .inr ⟨ts,by rw[h2];rfl,w1,w2,by simp at w4;lia⟩
  ·exact .inl ⟨fun hc=>h1 ((vS (fun x hx=>(hd x hx).resolve_left (by simp)) hc).mp F.a0),by rw[h2];rfl⟩
 ·rw[List.concat_eq_append]at e;subst e;refine R3 (by simp) ?_;unfold BE
  repeat array_get_dec
  refine SN (ds:=ps0.map Dat.int) (d:=.int p0) ?_ (by show some (Cell.ow (.lst ((ps0++[p0]).map Dat.int)))=_;rw[Oo];rfl) (by trivial)
  repeat array_get_dec
  have hp0:p0∈sk s:=hps p0 (by simp);refine RC aL _ _ r _ _ _ _ _ (fun p q ρ=>∃(s:Sr) (ps:List Int) (c6 c7 c8 c9:Cell),ρ=EC r a b s ps (.sh (.int p0)) c6 c7 c8 c9/\Fnd n r a s/\(∀x∈ps,x∈sk s)/\p0∈sk s/\(∀x∈sk s,x∈ps\/x=p0\/Done r (sk s) x)/\(∀u∈p,(p0=u.a\/p0=u.b)->u.a+u.b-p0∈sk s)/\k=ps.length+1+(n-s.length)) ⟨s,ps0,_,_,_,_,rfl,F,fun x hx=>hps x (by simp[hx]),hp0,?_,by simp,by rw[hk];simp⟩ ?_ ?_
  ·intro x hx;rcases hd x hx with h | h
   ·rcases N9.mp h with h | h
    ·exact .inl h
    ·exact .inr (.inl (N7.mp h))
   ·exact .inr (.inr h)
  ·rintro p u q ρ e' ⟨s,ps,c6,c7,c8,c9,rfl,F,hps,hp0,hd,hp,hk⟩;have len:=F.len;unfold EC;refine Dm.fY rfl (by trivial) ?_;unfold BC
   repeat array_get_dec
   have go:∀(K:List Int),(∀y∈sk s,y∈K)->u.a+u.b-p0∈K\/¬(p0=u.a\/p0=u.b)->∀v∈p++[u],(p0=v.a\/p0=v.b)->v.a+v.b-p0∈K:=by
    intro K sK h v hv hpv;rcases N9.mp hv with hv | hv
    ·exact sK _ (hp v hv hpv)
    ·rw[N7]at hv;subst hv;exact h.resolve_right fun z=>z hpv
   refine⟨fun h=>?_,fun h=>?_⟩
   ·have hpu:=of_decide_eq_true h
    repeat array_get_dec
    rw[uz];refine⟨fun h=>?_,fun h=>?_⟩
    ·have hnew:=ndT h
     repeat array_get_dec
     obtain⟨ts,t1,t2⟩:∃ts,(p0,ts)∈s/\e_ (sk s) (sv s) p0=some (msD ts):=by
      rcases vR s p0 with h | h
      ·exact h
      ·exact absurd hp0 h.1
     refine SH t2 ?_ rfl rfl
     repeat array_get_dec
     ·have F':=F.step hr t1 (by rw[e'];simp) hpu hnew;have len':=F'.len;obtain⟨p1,p2⟩:=EA (ks:=sk s) (vs:=sv s) (i:=u.a+u.b-p0) (d:=msD (ts++[u])) hnew;have em:Dat.lst ((ts.map (·.m)++[u.m]).map Dat.int)=msD (ts++[u]):=by simp[msD]
      refine⟨s++[(u.a+u.b-p0,ts++[u])],ps++[u.a+u.b-p0],.sh (.int u.m),.sh (.int u.a),.sh (.int u.b),.sh (.int (u.a+u.b-p0)),?_,F',?_,?_,?_,?_,?_⟩
      ·rw[em,p1,p2,e7,EB,Oo];rfl
      ·intro x hx;rw[e7];rcases N9.mp hx with hx | hx
       ·exact NT _ (hps x hx)
       ·exact NU _ hx
      ·rw[e7];exact NT _ hp0
      ·intro x hx;rw[e7]at hx ⊢;rcases N9.mp hx with hx | hx
       ·rcases hd x hx with h | h | h
        ·exact .inl (NT _ h)
        ·exact .inr (.inl h)
        ·exact .inr (.inr (h.more fun y hy=>NT _ hy))
       ·exact .inl (NU _ hx)
      ·rw[e7];exact go _ (fun y hy=>NT _ hy) (.inl (by simp))
      ·rw[hk];simp at len' ⊢;lia
     all_goals (have l1:=F.len;have l2:ts.length<s.length:=(F.way _ t1).2.2.2;have l3:ps.length<=20:=(by lia);simp only[sk,NI];unfold SZ;lia)
    ·have hold:=ndF h
     repeat array_get_dec
     exact⟨s,ps,_,_,_,_,rfl,F,hps,hp0,hd,go _ (fun y hy=>hy) (.inl hold),hk⟩
   ·have hpu:=of_decide_eq_false h
    repeat array_get_dec
    exact⟨s,ps,_,_,_,_,rfl,F,hps,hp0,hd,go _ (fun y hy=>hy) (.inr hpu),hk⟩
  ·rintro ρ ⟨s,ps,c6,c7,c8,c9,rfl,F,hps,hp0,hd,hp,hk⟩;refine⟨ps.length+(n-s.length),by lia,s,ps,_,_,_,_,_,rfl,F,hps,fun x hx=>?_,rfl,by lia⟩;rcases hd x hx with h | rfl | h
   ·exact .inl h
   ·exact .inr hp
   ·exact .inr h
noncomputable def con(A:List Tie)(x y:Int):Bool:=decide (qQ (fun x=>x) A x=qQ (fun x=>x) A y)
theorem xQ(A:List Tie)(x y:Int):con A x y=true↔Con A x y:=by unfold con;rw[decide_eq_true_iff];exact BJ A x y
noncomputable def Rr:List Tie->List Tie
 |[]=>[]
 |t::A=>if con A t.a t.b then t::Rr A else Rr A
noncomputable def Ff:List Tie->List Tie
 |[]=>[]
 |t::A=>if con A t.a t.b then Ff A else t::Ff A
theorem lX:∀A:List Tie,∀t∈Rr A,t∈A
 |[],t,h=>by cases h
 |u::A,t,h=>by
  rw[Rr]at h;split at h
  ·rcases Dp.mp h with rfl | h
   ·exact NJ
   ·exact NB _ (lX A t h)
  ·exact NB _ (lX A t h)
theorem lY:∀A:List Tie,∀t∈Ff A,t∈A
 |[],t,h=>by cases h
 |u::A,t,h=>by
  rw[Ff]at h;split at h
  ·exact NB _ (lY A t h)
  ·rcases Dp.mp h with rfl | h
   ·exact NJ
   ·exact NB _ (lY A t h)
theorem vU:∀(A:List Tie) {x y:Int},Con A x y->Con (Ff A) x y
 |[],x,y,c=>c
 |u::A,x,y,c=>by
  rw[Ff];split
  ·rename_i h;have h:=(xQ A u.a u.b).mp h;exact vU A (Con.lift (fun t ht=>by
    rcases Dp.mp ht with rfl | ht
    ·exact h
    ·exact .tie t ht) c)
  ·refine Con.lift (fun t ht=>?_) c;rcases Dp.mp ht with rfl | ht
   ·exact .tie t NJ
   ·exact Con.mono (fun v hv=>NB _ hv) (vU A (.tie t ht))
theorem rQ{j:Int}(j0:0<=j)(jk:j<k):∀{r:List Tie} {ms:List Int},fN k r ms->Ca r ms (j+1)=Rr (Ca r ms j)/\lay r ms (j+1)=Ff (Ca r ms j)
 |[],ms,h=>by
  cases ms with
  |nil=>exact⟨rfl,rfl⟩
  |cons m ms=>exact absurd h.len (by simp)
 |t::r,ms,h=>by
  cases ms with
  |nil=>exact absurd h.len (by simp)
  |cons m ms=>
   obtain⟨h2,h1⟩:=h;obtain⟨i1,i2⟩:=rQ j0 jk h2;have p0:=h1.past j (by lia);have p1:=h1.past (j+1) (by lia);have cr:=ux (j+1) (by lia) (by lia) h2 t.a t.b;have ej:j+1-1=j:=by lia
   rw[ej]at cr;have ci:=xQ (Ca r ms j) t.a t.b;have key:(m=0\/j+1<m)↔((m=0\/j<m)/\Con (Ca r ms j) t.a t.b):=by
    rw[p0,p1,<- cr];constructor
    ·intro g;exact⟨fun i a b=>g i a (by lia),g (j+1) (by lia) (QX _)⟩
    ·rintro⟨g1,g2⟩ i a b;by_cases e:i=j+1
     ·subst e;exact g2
     ·exact g1 i a (by lia)
   rw[jo,jo,lg];by_cases q:m=0\/j<m
   ·rw[if_pos q,Rr,Ff];by_cases c:Con (Ca r ms j) t.a t.b
    ·have q':=key.mpr ⟨q,c⟩;rw[if_pos q',if_pos (ci.mpr c),if_pos (ci.mpr c),if_neg (by lia),i1,i2];exact⟨rfl,rfl⟩
    ·have q':¬(m=0\/j+1<m):=fun z=>c (key.mp z).2;rw[if_neg q',if_neg fun z=>c (ci.mp z),if_neg fun z=>c (ci.mp z),if_pos (by lia),i1,i2];exact⟨rfl,rfl⟩
   ·have q':¬(m=0\/j+1<m):=fun z=>q (key.mp z).1;rw[if_neg q',if_neg q,if_neg (by lia),i1,i2];exact⟨rfl,rfl⟩
def Up(A:List Tie):Prop:=A.Pairwise fun t u=>t.m<u.m
noncomputable def Lv(r c s:Int):Dat:=.lst [.int r,.int c,.int s]
def aT(b:Nat)(d:Dat):Prop:=∃r c s:Int,d=Lv r c s/\0<=c/\c+b<=1000000
theorem sz{n:Nat}(h:n<=1000):n<=SZ:=Oe h (by decide)
theorem oF(h:m<=1000):m<rm:=Int.lt_of_le_of_lt h (by decide)
theorem aT.down(n:Nat)(h:aT (b+n) d):aT b d:=by obtain⟨r,c,s,e,c0,c1⟩:=h;exact⟨r,c,s,e,c0,by lia⟩
theorem ED(h:aT (b+1) d)(m:Int)(h0:0<m)(h1:m<rm):∃v d',bV [d,.int m]=some (.val (.int v),d')/\(0<=v/\v<m)/\aT b d':=by
 suffices hh:WrM (bV [d,.int m]) fun v d'=>∃i,v=.val (.int i)/\(0<=i/\i<m)/\aT b d' by obtain⟨v,d',h1,i,rfl,h2⟩:=hh;exact⟨i,d',h1,h2⟩
 obtain⟨r,c,s,rfl,c0,c1⟩:=h;unfold bV;refine Rv ?_ rfl rfl;and_intros;unfold Lv
 repeat array_get_dec
 refine⟨fun g=>?_,fun g=>?_⟩
 ·repeat array_get_dec
  ·refine R_ ?_
   repeat array_get_dec
   ·refine⟨_,0,_,rfl,rfl,rfl,?_⟩
    repeat array_get_dec
    exact⟨_,rfl,_,rfl,nk r m (by lia),r / m,c,s,rfl,c0,by lia⟩
   ·exact⟨h0,h1⟩
  ·exact h0
 ·repeat array_get_dec
  refine R_ ?_
  repeat array_get_dec
  refine⟨_,1,_,rfl,rfl,rfl,?_⟩
  repeat array_get_dec
  ·exact⟨_,rfl,_,rfl,nk _ m (by lia),r,c+1,s,rfl,by lia,by lia⟩
  ·exact h0
  ·exact .inl (by have:=nk (s+977*(c+1)*(c+1)+40693*(c+1)+1) 2147483647 (by decide);unfold B64;lia)
  ·exact .inr (by unfold B64;lia)
def Wtk(j:Nat)(m:Int)(ρ1:Env)(Q:Val->Env->Prop):Prop:=∃(b:Nat) (d:Dat),ρ1[j]?=some (.ow d)/\aT (b+1) d/\0<m/\m<rm/\∀(v:Int) (d':Dat) (ρ3:Env),ρ1.set j (.ow d')=ρ3->0<=v->v<m->aT b d'->Q (.val (.int v)) ρ3
theorem dg{ρ1:Env}(hp:aT (b+1) d)(k:∀(v:Int) (d':Dat) (ρ3:Env),ρ1.set j (.ow d')=ρ3->0<=v->v<m->aT b d'->Q (.val (.int v)) ρ3)(h2:ρ1[j]?=some (.ow d))(h0:0<m)(h1:m<rm):Wtk j m ρ1 Q:=⟨_,_,h2,hp,h0,h1,k⟩
theorem Rh{a:FE}{ρ:Env}{d0:Dat}(h:We a ρ fun v ρ1=>cy v fun m=>Wtk j m ρ1 Q)(h0:ρ[j]?=some (.ow d0)):We (eFm bV j [a]) ρ Q:=by refine Rq (m_ ?_) h0;obtain⟨v,ρ1,e1,m,rfl,b,d,hj,hp,m0,m1,k⟩:=h;obtain⟨i,d',et,⟨i0,i1⟩,hp'⟩:=ED hp m m0 m1;exact⟨_,_,e1,O_ (Ro et (k i d' _ rfl i0 i1 hp') hj rfl rfl)⟩
theorem Su{f:List Dat->Option (RV×Dat)}{ρ1 ρ2 ρ3:Env}{d d1 d':Dat}{v:RV}(h5:f (d::ds)=some (v,d'))(q:Q v.dc ρ3)(h2:ρ1[j]?=some (.ow d1))(h3:tks ρ1 xs=some (ds,ρ2))(h4:ρ2[j]?=some (.ow d))(hf:Dm.flat v.dat=true)(hp:n5 d'=true)(hn:ρ1.set j (.ow d')=ρ3):WFm f j ρ1 xs Q:=
 ⟨_,_,_,_,_,_,h2,h3,h4,h5,by rw[hf,hp,Bool.true_and,if_pos rfl,hn];exact q⟩
theorem aT.plain(h:aT b d):n5 d=true:=by obtain⟨r,c,s,rfl,_⟩:=h;rfl
theorem EE(h:aT (b+5) d)(m:Int)(h0:0<m)(h1:m<rm):∃v d',uq [d,.int m]=some (.val (.int v),d')/\(0<=v/\v<m)/\aT b d':=by
 suffices hh:WrM (uq [d,.int m]) fun v d'=>∃i,v=.val (.int i)/\(0<=i/\i<m)/\aT b d' by obtain⟨v,d',h1,i,rfl,h2⟩:=hh;exact⟨i,d',h1,h2⟩
 have one:∀{N:Env->Prop} {B C:Env->Prop},Ws (sR (eFm bV 0 [(eV 1)])) [.ow d,.sh (.int m),.un,.un] N (fun v ρ=>∃d',ρ[0]?=some (.ow d')/\∃i,v=.val (.int i)/\(0<=i/\i<m)/\aT b d') B C:=fun {N B C}=>by refine Q_ (Rh (N_ rfl (cy.mk (dg h (fun v d' ρ3 e v0 v1 hp=>?_) rfl h0 h1))) rfl);subst e;exact⟨_,rfl,_,rfl,⟨v0,v1⟩,hp.down 4⟩
 unfold uq;refine Rv ?_ rfl rfl;and_intros;have hp:=h;obtain⟨r,c,s,rfl,c0,c1⟩:=h;refine QZ (Ra (R5 (Q7 (Q0 (Q0 (Rf rfl (P_ (Q5 (v:=.int r) ?_ rfl rfl rfl))))))));refine P_ (RW (Q2 ⟨fun g=>?_,fun g=>?_⟩) rfl rfl)
 ·exact RG one
 ·refine Q7 (Q0 (N_ rfl (Q0 (P_ (P_ (RI (z:=1000000) ?_ rfl rfl (by decide) (by decide)))))));refine R7 (Q2 ⟨fun g=>one,fun g=>Q8 ?_⟩) rfl rfl;refine QZ (Q4 (P_ (Q3 ?_ (by trivial))) (by decide));refine QZ (Rz (RP (P_ (cy.mk ⟨?_,by decide,by decide⟩))));refine RC (fun i:Nat=>Dat.int (0+(i:Nat))) _ _ (NS 5) _ _ _ _ _ (fun p q ρ=>∃(x:Int) (d:Dat) (c3:Cell),ρ=[.ow d,.sh (.int m),.sh (.int x),c3]/\aT (b+q.length) d) ⟨_,_,_,rfl,hp⟩ ?_ ?_
  ·rintro p i q ρ e ⟨x,d,c3,rfl,hd⟩;refine Dm.fY rfl (by trivial) ?_;unfold BG;refine Q4 (Q0 (Q0 (N_ rfl (P_ (RY ?_ rfl rfl (.inr (by decide))))))) (by decide);refine Rh (P_ (cy.mk (dg hd (fun v d' ρ3 e v0 v1 hp=>?_) rfl (by decide) (by decide)))) rfl;subst e;refine Rj (Q3 ?_ (by trivial)) rfl rfl;exact⟨_,_,_,rfl,hp⟩
  ·rintro ρ ⟨x,d,c3,rfl,hd⟩;refine Q_ (Q0 (N_ rfl (N_ rfl (R0 ?_ rfl rfl h0))));exact⟨_,rfl,_,rfl,nk x m (by lia),hd⟩
theorem ix8(i:Int)(h0:0<=i)(h:i<8):∃v:Int,gIx (.lst [.int 6,.int 5,.int 6,.int 4,.int 6,.int 3,.int 5,.int 10]) (.int i)=some (.val (.int v))/\1<=v/\v<=10:=by
 have:i=0\/i=1\/i=2\/i=3\/i=4\/i=5\/i=6\/i=7:=by lia
 rcases this with rfl | rfl | rfl | rfl | rfl | rfl | rfl | rfl<;>exact⟨_,rfl,by decide,by decide⟩
theorem Na(i:Int)(h0:0<=i)(h:i<4):∃v:Int,gIx (.lst [.int 3,.int 4,.int 2,.int 6]) (.int i)=some (.val (.int v))/\1<=v/\v<=6:=by
 have:i=0\/i=1\/i=2\/i=3:=by lia
 rcases this with rfl | rfl | rfl | rfl<;>exact⟨_,rfl,by decide,by decide⟩
theorem zb(h:aT (b+2) d):∃(n:Nat) (d':Dat),qM [d]=some (.val (.int (n:Nat)),d')/\(1<=n/\n<=10)/\aT b d':=by
 suffices hh:WrM (qM [d]) fun v d'=>∃n:Nat,v=.val (.int (n:Nat))/\(1<=n/\n<=10)/\aT b d' by obtain⟨v,d',h1,i,rfl,h2⟩:=hh;exact⟨i,d',h1,h2⟩
 unfold qM;refine Rv ?_ rfl rfl;and_intros;refine Q_ (Q0 (P_ (Rh ?_ rfl)));refine Q0 (Rx (m_ (P_ (m_ (P_ (m_ (P_ (m_ (P_ (m_ (P_ (m_ (P_ (m_ (P_ (m_ (P_ (O_ (Q6 ?_ rfl rfl (by exact gV rfl))))))))))))))))))));refine Rh (P_ (cy.mk (dg h (fun v d' ρ3 e v0 v1 hp=>?_) rfl (by decide) (by decide)))) rfl;subst e;obtain⟨w,ew,w1,w2⟩:=ix8 v v0 v1;refine Q5 (cy.mk (dg hp (fun x d2 ρ3 e x0 x1 hp2=>?_) rfl (by lia) (oF (by lia)))) rfl rfl ew;subst e;refine Rj ?_ rfl rfl;refine⟨_,rfl,(1+x).toNat,?_,by lia,hp2⟩;have:(((1+x).toNat:Nat):Int)=1+x:=by lia
 rw[this]
theorem BP(h:aT (b+2) d):∃(n:Nat) (d':Dat),mJ [d]=some (.val (.int (n:Nat)),d')/\(1<=n/\n<=6)/\aT b d':=by
 suffices hh:WrM (mJ [d]) fun v d'=>∃n:Nat,v=.val (.int (n:Nat))/\(1<=n/\n<=6)/\aT b d' by obtain⟨v,d',h1,i,rfl,h2⟩:=hh;exact⟨i,d',h1,h2⟩
 unfold mJ;refine Rv ?_ rfl rfl;and_intros;refine Q_ (Q0 (P_ (Rh ?_ rfl)));refine Q0 (Rx (m_ (P_ (m_ (P_ (m_ (P_ (m_ (P_ (O_ (Q6 ?_ rfl rfl (by exact gV rfl))))))))))));refine Rh (P_ (cy.mk (dg h (fun v d' ρ3 e v0 v1 hp=>?_) rfl (by decide) (by decide)))) rfl;subst e;obtain⟨w,ew,w1,w2⟩:=Na v v0 v1;refine Q5 (cy.mk (dg hp (fun x d2 ρ3 e x0 x1 hp2=>?_) rfl (by lia) (oF (by lia)))) rfl rfl ew;subst e;refine Rj ?_ rfl rfl;refine⟨_,rfl,(1+x).toNat,?_,by lia,hp2⟩;have:(((1+x).toNat:Nat):Int)=1+x:=by lia
 rw[this]
theorem rR(r:List Tie):gNe (aO r) (.lst [])=some (.val (.bl (!r.isEmpty))):=by
 cases r with
 |nil=>rfl
 |cons t r=>unfold gNe;have:okD 8 (aO (t::r))=true:=Bu aL (t::r) fun t=>rfl;rw[this];rfl
theorem BQ(r:List Tie){t:Tie}(h:r[i]?=some t):gIx (aO r) (.int (i:Nat))=some (.val (aL t)):=by
 have hi:=(Ny.mp h).1;show (atI (r.map aL) i).map RV.val=_;rw[Dm.nh aL r (i:Nat) (by lia) (by lia)];have:r[((i:Nat):Int).toNat]'(by lia)=t:=by
  have:=Ny.mp h
  simpa using this.2
 rw[this];rfl
theorem xR(h:aT (b+4) d)(n:Nat)(n1:1<=n)(n10:n<=10)(r:List Tie)(hr:Good n 0 r)(hl:r.length<=60) :
  ∃(x y:Int) (d':Dat),qN [d,.int (n:Nat),aO r]=some (.val (.tup [.int x,.int y]),d')/\(0<=x/\x<=y/\y<n)/\aT b d':=by
 suffices hh:WrM (qN [d,.int (n:Nat),aO r]) fun v d'=>∃x y:Int,v=.val (.tup [.int x,.int y])/\(0<=x/\x<=y/\y<n)/\aT b d' by obtain⟨v,d',h1,x,y,rfl,h2⟩:=hh;exact⟨x,y,d',h1,h2⟩
 unfold qN;refine Rv ?_ rfl rfl;and_intros;refine QZ (Q4 (Rh (N_ rfl (cy.mk (dg h (fun x d1 ρ3 e x0 x1 hp=>?_) rfl (by lia) (oF (by lia))))) rfl) (by decide));subst e;refine Q3 ?_ (by trivial);refine QZ (Q4 (Rh (N_ rfl (cy.mk (dg hp (fun y d2 ρ3 e y0 y1 hp=>?_) rfl (by lia) (oF (by lia))))) rfl) (by decide));subst e;refine Q3 ?_ (by trivial);refine RK (fun ρ=>∃(x y:Int) (d':Dat) (c5:Cell),(0<=x/\x<n/\0<=y/\y<n)/\aT b d'/\ρ=[.ow d',.sh (.int (n:Nat)),.sh (aO r),.sh (.int x),.sh (.int y),c5]) ?_ ?_
 ·refine Ra (RE (Q7 (Q0 (N_ rfl (Rx (O_ (Q6 ⟨_,_,_,rfl,rfl,rR r,Q2 ?_⟩ rfl rfl (by decide))))))));refine⟨fun g=>?_,fun g=>Ri (Q8 ⟨x,y,d2,_,⟨x0,x1,y0,y1⟩,hp.down 2,rfl⟩)⟩;have l0:0<r.length:=by
   cases r with
   |nil=>cases g
   |cons t r=>simp
  refine Q7 (Q0 (Rh (P_ (cy.mk (dg hp (fun z d3 ρ3 e z0 z1 hp=>?_) rfl (by decide) (by decide)))) rfl));subst e;refine P_ (RA (Q2 ⟨fun g2=>?_,fun g2=>Q8 ⟨x,y,d3,_,⟨x0,x1,y0,y1⟩,hp.down 1,rfl⟩⟩) rfl rfl);refine R9 (Q0 (N_ rfl (Rh (Rm (m_ (N_ rfl (O_ (RM (Em:=aL) (xs:=r) (cy.mk (dg hp (fun i d4 ρ3 e i0 i1 hp=>?_) rfl (by lia) (oF (by lia)))) rfl))))) rfl)));subst e;have hi:i.toNat<r.length:=by lia
  have ei:i=((i.toNat:Nat):Int):=by lia
  have g:=Good.mem hr _ (PL hi);rw[ei];refine Q5 ?_ rfl rfl (BQ r (ND hi));refine Rg ⟨_,_,rfl,rfl,?_⟩;exact⟨_,_,d4,_,⟨g.1,by lia,by lia,g.2.2⟩,hp,rfl⟩
 ·rintro ρ ⟨x,y,d',c5,g,hp,rfl⟩;refine Q_ (Rn (m_ (Rm (m_ (N_ rfl (m_ (N_ rfl (O_ (Sb ?_ rfl)))))))));refine m_ (Rm (m_ (N_ rfl (m_ (N_ rfl (O_ (Sd ?_ rfl)))))));refine O_ (Q6 ?_ rfl rfl (by exact gV rfl));refine⟨_,rfl,_,_,rfl,?_,hp⟩;by_cases q:y<x
  ·rw[if_pos q,if_neg (by lia)];lia
  ·rw[if_neg q];by_cases q2:y>x
   ·rw[if_pos q2];lia
   ·rw[if_neg q2];lia
noncomputable abbrev Z27:Int:=1000000000000000000000000000
noncomputable abbrev Z30:Int:=1000000000000000000000000000000
theorem Good.snoc:∀{r:List Tie} {lo:Int} {t:Tie},Good n lo r->(∀u∈r,u.m<t.m)->lo<=t.m->0<=t.a->t.a<=t.b->t.b<n->Good n lo (r++[t])
 |[],lo,t,_,_,h1,h2,h3,h4=>⟨h1,h2,h3,h4,trivial⟩
 |u::r,lo,t,g,hm,h1,h2,h3,h4=>⟨g.1,g.2.1,g.2.2.1,g.2.2.2.1,Good.snoc g.2.2.2.2 (fun v hv=>hm v (NB _ hv)) (by have:=hm u NJ;lia) h2 h3 h4⟩
theorem BR(h:aT (b+402) d)(n:Nat)(n1:1<=n)(n10:n<=10)(most:Int)(m0:0<=most)(m40:most<=40) :
  ∃(r:List Tie) (d':Dat),qO [d,.int (n:Nat),.int most]=some (.new (aO r),d')/\(Good n 0 r/\r.length<=40/\∀t∈r,t.m<=50*Z27)/\aT b d':=by
 suffices hh:WrM (qO [d,.int (n:Nat),.int most]) fun v d'=>∃r:List Tie,v=.new (aO r)/\(Good n 0 r/\r.length<=40/\∀t∈r,t.m<=50*Z27)/\aT b d' by obtain⟨v,d',h1,r,rfl,h2⟩:=hh;exact⟨r,d',h1,h2⟩
 unfold qO;refine Rv ?_ rfl rfl;and_intros;refine QZ (Q4 (Q0 (Rh (P_ (cy.mk (dg h (fun x d1 ρ3 e x0 x1 hp=>?_) rfl (by decide) (by decide)))) rfl)) (by decide));subst e;refine P_ (RD ?_ rfl rfl);refine Q3 ?_ (by trivial);refine QZ (Q4 (Rx (O_ (Q6 ?_ rfl rfl (by decide)))) (by decide));refine Rl ?_ (by trivial);refine QZ (Rz (RP (Rh (Q0 (N_ rfl (P_ (Rj (cy.mk (dg hp (fun S4 d2 ρ3 e k0 k1 hp=>?_) rfl (by lia) (oF (by lia)))) rfl rfl)))) rfl)));subst e;refine cy.mk ⟨?_,by unfold BIG;lia,by unfold BIG;lia⟩;have hp':aT (b+10*(NS S4.toNat).length) d2:=by
  rw[N4];refine aT.down (400-10*S4.toNat) ?_;have:b+10*S4.toNat+(400-10*S4.toNat)=b+400:=by lia
  rw[this];exact hp
 refine RC (fun i:Nat=>Dat.int (0+(i:Nat))) _ _ (NS S4.toNat) _ _ _ _ _ (fun p q ρ=>∃(m:Int) (r:List Tie) (d:Dat) (c5 c6 c7 c8:Cell),ρ=[.ow d,.sh (.int (n:Nat)),.sh (.int most),.sh (.int m),.ow (aO r),c5,c6,c7,c8]/\aT (b+10*q.length) d/\r.length=p.length/\Good n 0 r/\(∀t∈r,t.m<=m)/\-1<=m/\m<=2+(p.length:Int)*(Z27+3)) ⟨_,[],_,_,_,_,_,rfl,hp',rfl,trivial,(fun t ht=>by cases ht),by lia,by simp;lia⟩ ?_ ?_
 ·rintro p i q ρ e ⟨m,r,d,c5,c6,c7,c8,rfl,hd,hl,hr,hm,m1,m2⟩;have lp:p.length<40:=by
   have:(NS S4.toNat).length=p.length+(q.length+1):=by rw[e];simp
   rw[N4]at this;lia
  have hd:aT (b+10*q.length+10) d:=hd;refine Dm.fY rfl (by trivial) ?_;unfold BH;refine QZ (Q4 (Rh (P_ (cy.mk (dg hd (fun st d1 ρ3 e s0 s1 hd=>?_) rfl (by decide) (by decide)))) rfl) (by decide));subst e;refine Q3 ?_ (by trivial);refine QZ (Q4 (Q0 (Q0 (N_ rfl (P_ (Rj (Q0 (N_ rfl (P_ (RX ?_ rfl rfl (by decide))))) rfl rfl))))) (by decide));refine Rj ?_ rfl rfl;refine Q3 ?_ (by trivial);refine RK (fun ρ=>∃(m':Int) (d':Dat),ρ=[.ow d',.sh (.int (n:Nat)),.sh (.int most),.sh (.int m'),.ow (aO r),.sh (.int (0+(i:Nat))),.sh (.int st),c7,c8]/\aT (b+10*q.length+4) d'/\m<m'/\m'<=m+Z27+3) ?_ ?_
  ·refine Ra (Q7 (Q0 (N_ rfl (P_ (RA (Q2 ⟨fun g=>?_,fun g=>Q8 ⟨_,_,rfl,hd.down 5,by lia,by unfold Z27;lia⟩⟩) rfl rfl)))));obtain⟨v,d2,ew,⟨v0,v1⟩,hd2⟩:=EE (b:=b+10*q.length+4) hd Z27 (by decide) (by decide);refine Q4 (Q0 (N_ rfl (Rq (m_ (Q0 (P_ (P_ (RI (z:=Z27) ?_ rfl rfl (by decide) (by decide)))))) rfl))) (by decide);refine O_ (Ro ew ?_ rfl rfl (by trivial));refine Rj (Q3 ?_ (by trivial)) rfl rfl;exact⟨_,_,rfl,hd2,by lia,by lia⟩
  ·rintro ρ ⟨m',d',rfl,hd,lt,le⟩;obtain⟨x,y,d3,ee,hxy,hd3⟩:=xR (b:=b+10*q.length) hd n n1 n10 r hr (by lia);refine QZ (R9 (Rq (m_ (N_ rfl (m_ (Rf rfl (O_ (Su ee ?_ rfl rfl rfl rfl hd3.plain (by trivial))))))) rfl));refine Rg ⟨_,_,rfl,rfl,?_⟩;refine RS (Rn (m_ (N_ rfl (m_ (N_ rfl (m_ (N_ rfl (O_ (Q6 ?_ rfl rfl (by exact gV rfl)))))))))) rfl;refine Rg (oA ?_ rfl (by trivial) (by rw[NI];unfold SZ;lia));refine⟨m',r++[⟨m',x,y⟩],d3,.sh (.int (0+(i:Nat))),.sh (.int st),.sh (.int x),.sh (.int y),?_,?_,by simp[hl],Good.snoc hr (fun u hu=>?_) (by show 0<=m';lia) hxy.1 hxy.2.1 hxy.2.2,fun t ht=>?_,by lia,?_⟩
   ·unfold aO;rw[Oo];rfl
   ·exact hd3
   ·have:=hm u hu;show u.m<m'
    lia
   ·rcases N9.mp ht with ht | ht
    ·have:=hm t ht;lia
    ·rw[N7.mp ht];exact QX _
   ·rw[NL,Oc,Int.natCast_add,Int.add_mul];simp
    lia
 ·rintro ρ ⟨m,r,d,c5,c6,c7,c8,rfl,hd,hl,hr,hm,m1,m2⟩;rw[N4]at hl m2;refine Q_ (Rf rfl (RH ?_ rfl));refine⟨_,rfl,r,rfl,⟨hr,by lia,fun t ht=>?_⟩,hd⟩;have:=hm t ht;have h2:(S4.toNat:Int)*(Z27+3)<=40*(Z27+3):=Int.mul_le_mul_of_nonneg_right (by lia) (by decide);unfold Z27 at *
  lia
theorem BS(x:Int):∀(k:Nat),((NS k).map fun i:Nat=>x+(i:Int)).Nodup:=fun k=>by rw[List.nodup_iff_pairwise_ne,List.pairwise_map];exact(List.nodup_iff_pairwise_ne.mp List.nodup_range).imp fun h z=>h (by lia)
theorem vV(h:aT (b+8) d)(n:Nat)(n1:1<=n)(n10:n<=10)(r:List Tie)(hr:Good n 0 r)(hl:r.length<=40)(hm:∀t∈r,t.m<=50*Z27) :
  ∃(c:Tie) (d':Dat),ur [d,.int (n:Nat),aO r]=some (.val (aL c),d')/\((∀t∈r,t.m≠c.m)/\0<=c.m/\c.m<=Z30/\0<=c.a/\c.a<=c.b/\c.b<n)/\aT b d':=by
 suffices hh:WrM (ur [d,.int (n:Nat),aO r]) fun v d'=>∃c:Tie,v=.val (aL c)/\((∀t∈r,t.m≠c.m)/\0<=c.m/\c.m<=Z30/\0<=c.a/\c.a<=c.b/\c.b<n)/\aT b d' by obtain⟨v,d',h1,r,rfl,h2⟩:=hh;exact⟨r,d',h1,h2⟩
 have mlo:=Good.lo hr;unfold ur;refine Rv ?_ rfl rfl;and_intros;refine QZ (Q4 (R6 aL r (·.m) Dat.int (d:=aO r) ?_ rfl rfl rfl (by decide) (sz (Oe hl (by decide))) fun t _=>Q0 (N_ rfl (P_ (Q5 (v:=.int t.m) (Rg ⟨rfl,rfl⟩) rfl rfl rfl)))) (by decide));refine Rl ?_ (by trivial);refine QZ (Q4 (Rh (P_ (cy.mk (dg h (fun x d1 ρ3 e x0 x1 hp=>?_) rfl (by decide) (by decide)))) rfl) (by decide));subst e;refine Q3 ?_ (by trivial);have lm:(r.map (·.m)).length=r.length:=by rw[NI]
 refine RK (fun ρ=>∃(x:Int) (d:Dat),ρ=[.ow d,.sh (.int (n:Nat)),.sh (aO r),.ow (.lst ((r.map (·.m)).map Dat.int)),.sh (.int x),.un,.un,.un]/\0<=x/\x<=50*Z27+3/\aT (b+4) d) ?_ ?_
 ·have go:∀d1,aT (b+7) d1->Ws (sIf (g8 (tV (e2 gNe (eV 3) (dP []))) (tV (e2 gGt (eFm bV 0 [(eC (.int 4))]) (eC (.int 0))))) (sA 4 (e2 cO (e2 gIx (eV 3) (eFm bV 0 [(eB iB [(eV 3)])])) (eFm bV 0 [(eC (.int 2))]))) sNx) [.ow d1,.sh (.int (n:Nat)),.sh (aO r),.ow (.lst ((r.map (·.m)).map Dat.int)),.sh (.int x),.un,.un,.un] (fun ρ=>∃(x:Int) (d:Dat),ρ=[.ow d,.sh (.int (n:Nat)),.sh (aO r),.ow (.lst ((r.map (·.m)).map Dat.int)),.sh (.int x),.un,.un,.un]/\0<=x/\x<=50*Z27+3/\aT (b+4) d) (fun v ρ=>∃d',ρ[0]?=some (.ow d')/\∃c:Tie,v=.val (aL c)/\((∀t∈r,t.m≠c.m)/\0<=c.m/\c.m<=Z30/\0<=c.a/\c.a<=c.b/\c.b<n)/\aT b d') (fun _=>False) (fun _=>False):=fun d1 hp=>by
   refine Ra (RE (Q7 (Q0 (Rf rfl (Rx (O_ (Q6 (Sz (N:=r.map (·.m)) (M:=[]) (Q2 ?_) rfl rfl) rfl rfl (by decide))))))));refine⟨fun g=>?_,fun g=>Ri (Q8 ⟨_,_,rfl,x0,by unfold Z27;lia,hp.down 3⟩)⟩;have l0:0<(r.map (·.m)).length:=by refine List.length_pos_iff.mpr fun z=>?_;rw[z]at g;cases g
   refine Q7 (Q0 (Rh (P_ (cy.mk (dg hp (fun z d3 ρ3 e z0 z1 hp=>?_) rfl (by decide) (by decide)))) rfl));subst e;refine P_ (RW (Q2 ⟨fun g2=>?_,fun g2=>Q8 ⟨_,_,rfl,x0,by unfold Z27;lia,hp.down 2⟩⟩) rfl rfl);refine Q4 (Q0 (Q0 (Rf rfl (Rh (Rm (m_ (Rf rfl (O_ (RM (Em:=Dat.int) (xs:=r.map (·.m)) (cy.mk (dg hp (fun i d4 ρ3 e i0 i1 hp=>?_) rfl (by lia) (oF (by lia)))) rfl))))) rfl)))) (by decide);subst e;refine Lu i0 i1 ?_ rfl rfl;refine Rh (P_ (cy.mk (dg hp (fun y d5 ρ3 e y0 y1 hp=>?_) rfl (by decide) (by decide)))) rfl;subst e;refine Rj (Q3 ?_ (by trivial)) rfl rfl;obtain⟨t,ht,et⟩:=Ol.mp (Iq (r.map (·.m)) i i0 i1);have:=hm t ht;have:=mlo t ht;refine⟨_,_,rfl,?_,?_,hp⟩<;>(rw[<- et];lia)
  exact go d1 hp
 rintro ρ ⟨x,d,rfl,x0,x1,hp⟩;refine QZ (Rz (RP (Q0 (Rm (m_ (Rf rfl (O_ (RM (Em:=Dat.int) (xs:=r.map (·.m)) ?_ rfl))))))));refine P_ (Rj (cy.mk ⟨?_,by unfold BIG;lia,by unfold BIG;lia⟩) rfl rfl);have et:((((r.map (·.m)).length:Nat):Int)+1).toNat=r.length+1:=by rw[lm];lia
 rw[et];refine RC (fun i:Nat=>Dat.int (0+(i:Nat))) _ _ (NS (r.length+1)) _ _ _ _ _ (fun p q ρ=>∃(y:Int) (c5:Cell),ρ=[.ow d,.sh (.int (n:Nat)),.sh (aO r),.ow (.lst ((r.map (·.m)).map Dat.int)),.sh (.int y),c5,.un,.un]/\0<=y/\y<=x+p.length/\(y∉r.map (·.m)\/(y=x+p.length/\∀i:Nat,i<p.length->x+(i:Int)∈r.map (·.m)))) ⟨x,_,rfl,x0,by simp,.inr ⟨by simp,fun i hi=>by simp at hi⟩⟩ ?_ ?_
 ·rintro p i q ρ e ⟨y,c5,rfl,y0,y1,hy⟩;refine Dm.fY rfl (by trivial) ?_;unfold BI;refine Q4 (Q0 (N_ rfl (Rm (m_ (Q0 (N_ rfl (Rf rfl (RN (xs:=r.map (·.m)) ?_ rfl rfl)))))))) (by decide);refine O_ (Sm ?_ rfl);refine Rj (Q3 ?_ (by trivial)) rfl rfl;by_cases q:y∈r.map (·.m)
  ·rcases hy with hy | ⟨hy,hall⟩
   ·exact absurd q hy
   ·rw[decide_eq_true q];refine⟨y+1,_,rfl,by lia,by rw[NL,Oc];lia,.inr ⟨by rw[NL,Oc];lia,fun j hj=>?_⟩⟩;rw[NL,Oc]at hj;by_cases e:j=p.length
    ·subst e;rw[<- hy];exact q
    ·exact hall j (by lia)
  ·rw[decide_eq_false q];refine⟨y,_,by rw[show y+b2i false=y from Int.add_zero y],y0,by rw[NL,Oc];lia,.inl q⟩
 ·rintro ρ ⟨y,c5,rfl,y0,y1,hy⟩;rw[N4]at hy y1;have ny:y∉r.map (·.m):=by
   rcases hy with hy | ⟨_,hall⟩
   ·exact hy
   ·exfalso;have:=lW ((NS (r.length+1)).map fun i:Nat=>x+(i:Int)) (r.map (·.m)) (BS x _) (fun z hz=>by
     obtain⟨i,hi,rfl⟩:=Ol.mp hz;exact hall i (Pw.mp hi))
    rw[NI,NI,N4]at this
    lia
  obtain⟨u,v,d3,ee,huv,hd3⟩:=xR (b:=b) hp n n1 n10 r hr (by lia);refine QZ (R9 (Rq (m_ (N_ rfl (m_ (N_ rfl (O_ (Ro ee ?_ rfl rfl (by trivial))))))) rfl));refine Rg ⟨_,_,rfl,rfl,?_⟩;refine Q_ (Rn (m_ (N_ rfl (m_ (N_ rfl (m_ (N_ rfl (O_ (Q6 ?_ rfl rfl (by exact gV rfl))))))))));refine⟨_,rfl,⟨y,u,v⟩,rfl,⟨fun t ht z=>ny (Ol.mpr ⟨t,ht,z⟩),y0,?_,huv.1,huv.2.1,huv.2.2⟩,hd3⟩;show y<=Z30;unfold Z30;unfold Z27 at x1
  lia
theorem BU{i:Int}{o:Option (List Dat)}(k:K (.val (.int (if i<0 then -i else i))))(ho:o=some [.int i]):WB yN o K:=⟨_,_,ho,rfl,k⟩
theorem BV(x:Int):∃d,qL [.int x]=some (.new d)/\gu d=true/\aT 1000000 d:=by
 suffices hh:Wr (qL [.int x]) fun v=>∃d,v=.new d/\gu d=true/\aT 1000000 d by obtain⟨v,h1,d,rfl,h2⟩:=hh;exact⟨d,h1,h2⟩
 unfold qL
 (refine Dm.Rc ?_ rfl rfl;and_intros)
 refine QZ (Q4 (P_ (Q3 ?_ (by trivial))) (by decide));refine RK (fun ρ=>∃y:Int,ρ=[.sh (.int x),.sh (.int y)]) ?_ ?_
 ·refine Ra (Q7 (Q0 (Rm (m_ (N_ rfl (O_ (BU ?_ rfl)))))));refine Q0 (P_ (P_ (RI (z:=1000000000000000000) ?_ rfl rfl (by decide) (by decide))));refine So (Q2 ⟨fun g=>?_,fun g=>Q8 ⟨_,rfl⟩⟩) rfl rfl;refine Q4 (Q0 (Q0 (Rm (m_ (N_ rfl (O_ (BU ?_ rfl))))))) (by decide);refine Q0 (P_ (P_ (RI (z:=1000000000000000000) ?_ rfl rfl (by decide) (by decide))));refine RD ?_ rfl rfl;refine P_ (Rj ?_ rfl rfl);exact Q3 ⟨_,rfl⟩ (by trivial)
 ·rintro ρ ⟨y,rfl⟩
  repeat array_get_dec
  exact⟨_,rfl,rfl,_,_,_,rfl,by decide,by decide⟩
noncomputable def tl(t:Tie):List Int:=[t.m,t.a,t.b]
theorem EF(t:Tie):KH (tl t)=aL t:=rfl
theorem zc(r:List Tie):n8 (r.map aL)=some (r.map tl):=by
 induction r with
 |nil=>rfl
 |cons t r ih=>
  rw[Nv,Nv];show (match n6 [.int t.m,.int t.a,.int t.b] with
   |some ns=>if ns.isEmpty then none else (n8 (r.map aL)).map fun nss=>ns::nss
   |none=>none)=_
  rw[show n6 [.int t.m,.int t.a,.int t.b]=some (tl t) from rfl];dsimp only;rw[ih];rfl
theorem FL{t u:Tie}(h:lx (tl u) (tl t)=false):t.m<=u.m:=by
 unfold tl at h;rw[lx]at h;by_cases e:u.m=t.m
 ·lia
 ·rw[if_neg e]at h;have:=of_decide_eq_false h
  lia
theorem lZ:∀(r:List Tie) (t:Tie),∃o,(o=t\/o∈r)/\n_ (tl t) (r.map tl)=tl o/\∀u,(u=t\/u∈r)->o.m<=u.m
 |[],t=>⟨t,.inl rfl,rfl,fun u hu=>by rcases hu with rfl | hu;exact QX _;cases hu⟩
 |v::r,t=>by
  rw[Nv,n_];by_cases c:lx (tl v) (tl t)=true
  ·rw[if_pos c];obtain⟨o,h1,h2,h3⟩:=lZ r v;refine⟨o,.inr (Dp.mpr h1),h2,fun u hu=>?_⟩;rcases hu with rfl | hu
   ·have a:=h3 v (.inl rfl);have:v.m<=u.m:=by
     refine FL ?_;by_cases z:lx (tl u) (tl v)=true
     ·have:=tP _ _ _ z c;rw[qB]at this;cases this
     ·simpa using z
    lia
   ·exact h3 u (Dp.mp hu)
  ·rw[if_neg c];have c':lx (tl v) (tl t)=false:=by simpa using c
   obtain⟨o,h1,h2,h3⟩:=lZ r t;refine⟨o,h1.imp id fun h=>NB _ h,h2,fun u hu=>?_⟩;rcases hu with rfl | hu
   ·exact h3 u (.inl rfl)
   ·rcases Dp.mp hu with rfl | hu
    ·have a:=h3 t (.inl rfl);have:=FL c'
     lia
    ·exact h3 u (.inr hu)
theorem EG(ne:r≠[]):∃o∈r,mG [aO r]=some (.val (aL o))/\∀u∈r,o.m<=u.m:=by
 cases r with
 |nil=>exact absurd rfl ne
 |cons t r=>obtain⟨o,h1,h2,h3⟩:=lZ r t;refine⟨o,Dp.mpr h1,?_,fun u hu=>h3 u (Dp.mp hu)⟩;unfold mG aO;dsimp only;rw[zc,Nv];dsimp only;rw[h2,EF]
theorem Good.up:∀{r:List Tie} {lo:Int},Good n lo r->Up r
 |[],_,_=>List.Pairwise.nil
 |t::r,lo,g=>OH.mpr ⟨fun u hu=>by have:=Good.lo g.2.2.2.2 u hu;lia,Good.up g.2.2.2.2⟩
theorem xS:∀{r:List Tie} {lo:Int},Up r->(∀t∈r,lo<=t.m/\0<=t.a/\t.a<=t.b/\t.b<n)->Good n lo r
 |[],_,_,_=>trivial
 |t::r,lo,u,h=>by
  obtain⟨u1,u2⟩:=OH.mp u;obtain⟨h1,h2,h3,h4⟩:=h t NJ;exact ⟨h1,h2,h3,h4,xS u2 fun x hx=>by
   have:=h x (NB _ hx);have:=u1 x hx
   lia⟩
theorem BW:∀{A:List Tie},Up A->Up (Rr A)
 |[],u=>u
 |t::A,u=>by
  obtain⟨u1,u2⟩:=OH.mp u;rw[Rr];split
  ·exact OH.mpr ⟨fun x hx=>u1 x (lX A x hx),BW u2⟩
  ·exact BW u2
theorem BX:∀{A:List Tie},Up A->Up (Ff A)
 |[],u=>u
 |t::A,u=>by
  obtain⟨u1,u2⟩:=OH.mp u;rw[Ff];split
  ·exact BX u2
  ·exact OH.mpr ⟨fun x hx=>u1 x (lY A x hx),BX u2⟩
theorem BY:∀{A:List Tie},Up A->∀t∈Ff A,∀u∈Rr A,u.m≠t.m
 |[],_,t,h,_,_=>by cases h
 |v::A,up,t,ht,u,hu=>by
  obtain⟨u1,u2⟩:=OH.mp up;rw[Ff]at ht;rw[Rr]at hu;by_cases c:con A v.a v.b=true
  ·rw[if_pos c]at ht hu;rcases Dp.mp hu with rfl | hu
   ·have:=u1 t (lY A t ht);lia
   ·exact BY u2 t ht u hu
  ·rw[if_neg c]at ht hu;rcases Dp.mp ht with rfl | ht
   ·have:=u1 u (lX A u hu);lia
   ·exact BY u2 t ht u hu
theorem xU(t u:Tie):t=u↔t.m=u.m/\t.a=u.a/\t.b=u.b:=by cases t;cases u;simp
instance:DecidableEq Tie:=fun t u=>decidable_of_iff _ (xU t u).symm
theorem Ir(t u:Tie):eqD (aL t) (aL u)=decide (t=u):=by unfold aL;rw[P1,decide_eq_true_iff,xU];simp[eqD,mX]
theorem EH{o:Tie}{x:Option (List Dat)}(k:K (.val (aL o)))(ho:x=some [aO r])(h:mG [aO r]=some (.val (aL o))):WB mG x K:=⟨_,_,ho,h,k⟩
theorem zd(n:Nat)(hn:n<=10)(F:List Tie)(hF:Good n 0 F)(hl:F.length<=60)(c:Tie)(c0:0<=c.a)(c1:c.a<n) :
  (¬Con F c.a c.b/\qK [aO F,aL c]=some (.val .non))\/∃(ts:List Tie) (o:Tie),path F c.a ts c.b/\(ts.map (·.m)).Nodup/\o∈c::ts/\(∀u∈c::ts,o.m<=u.m)/\qK [aO F,aL c]=some (.val (aL o)):=by
 rcases pY n hn F hF hl c.a c.b c0 c1 with⟨hc,ef⟩ | ⟨ts,ef,hp,nd,lt⟩
 ·refine .inl ⟨hc,?_⟩;apply Rk;unfold qK
  (refine Dm.Rc ?_ rfl rfl;and_intros)
  refine QZ (Q4 (Rb (m_ (N_ rfl (m_ (Q0 (N_ rfl (P_ (Q5 (v:=.int c.a) ?_ rfl rfl rfl)))))))) (by decide));refine m_ (Q0 (N_ rfl (P_ (Q5 (v:=.int c.b) ?_ rfl rfl rfl))));refine O_ (Q9 ef ?_ rfl rfl);refine Q3 ?_ (by trivial);refine QZ (Ra (Q7 (Q0 (N_ rfl (P_ (RO (d:=.non) (Q2 (RG ?_)) rfl rfl))))));exact Q_ (P_ rfl)
 ·have fm:∀u∈F,u.m∈ts.map (·.m)->u∈ts:=fun u hu h=>by
   obtain⟨v,hv,e⟩:=Ol.mp h;have:=Good.uniq hF v (iM hp v hv).1 u hu e;exact this▸hv
  obtain⟨o,ho,eo,hmin⟩:=EG (r:=F.filter (fun t=>decide (t.m∈ts.map (·.m)))++[c]) (by simp);refine .inr ⟨ts,o,hp,nd,?_,fun u hu=>hmin u ?_,?_⟩
  ·rcases N9.mp ho with h | h
   ·obtain⟨h1,h2⟩:=PV.mp h;exact NB _ (fm o h1 (of_decide_eq_true h2))
   ·rw[N7.mp h];exact NJ
  ·rcases Dp.mp hu with rfl | hu
   ·exact NU _ (N7.mpr rfl)
   ·exact NT _ (PV.mpr ⟨(iM hp u hu).1,decide_eq_true (Ol.mpr ⟨u,hu,rfl⟩)⟩)
  ·apply Rk;unfold qK
   (refine Dm.Rc ?_ rfl rfl;and_intros)
   refine QZ (Q4 (Rb (m_ (N_ rfl (m_ (Q0 (N_ rfl (P_ (Q5 (v:=.int c.a) ?_ rfl rfl rfl)))))))) (by decide));refine m_ (Q0 (N_ rfl (P_ (Q5 (v:=.int c.b) ?_ rfl rfl rfl))));refine O_ (Ru ef ?_ rfl rfl rfl rfl);refine Q3 ?_ (by trivial);refine QZ (Ra (Q7 (Q0 (N_ rfl (P_ (RO (d:=msD ts) (Q2 (Ri (Q8 ?_))) rfl rfl))))));refine Q_ (Rm (m_ (Q0 (Sv aL F (fun t=>decide (t.m∈ts.map (·.m))) aL (d:=aO F) ?_ rfl rfl rfl (by decide) (sz (Oe hl (by decide))) (fun t _=>?_) fun t _ _=>?_))))
   ·refine Rx (m_ (N_ rfl (O_ (Q6 ?_ rfl rfl (by exact gV rfl)))));have fl:=List.length_filter_le (fun t:Tie=>decide (t.m∈ts.map (·.m))) F;refine Sh ?_ rfl rfl (by rw[NI,Oc];unfold SZ;lia);have e:(F.filter (fun t=>decide (t.m∈ts.map (·.m)))).map aL++[aL c]=(F.filter (fun t=>decide (t.m∈ts.map (·.m)))++[c]).map aL:=by rw[Oo];rfl
    rw[e];exact O_ (EH (by rfl) rfl eo)
   ·refine Q7 (Q0 (Q0 (N_ rfl (P_ (Q5 (v:=.int t.m) ?_ rfl rfl rfl)))));exact N_ rfl (RN (xs:=ts.map (·.m)) (Q2 ⟨rfl,rfl⟩) rfl rfl)
   ·exact N_ rfl (Rg ⟨rfl,rfl⟩)
noncomputable def zE(x:Tie×Int):Dat:=.tup [aL x.1,.int x.2]
theorem xV:∀(r:List Tie) (ms:List Int),jH (r.map aL) (ms.map Dat.int)=(r.zip ms).map zE
 |[],_=>by simp[jH]
 |_::_,[]=>by simp[jH]
 |t::r,m::ms=>by rw[Nv,Nv,jH,xV r ms,Pr,Nv];rfl
theorem S0(r:List Tie)(ms:List Int)(p:Tie×Int->Bool){it:FI}{k:Nat}{t:FT}(q:Q (.new (aO (((r.zip ms).filter p).map (·.1)))) ρ1)(M4:it ρ=some (jH (r.map aL) (ms.map Dat.int),ρ1))(hk:ρ1.length=k)(hk0:k≠0)(hl:r.length<=SZ)
  (ht:∀x:Tie×Int,Wt t (ρ1++[.sh (aL x.1),.sh (.int x.2)]) fun c ρ'=>c=p x/\ρ'=ρ1++[.sh (aL x.1),.sh (.int x.2)]):We (fT it 2 (bT [k,k+1]) t (eV k)) ρ Q:=by
 have b:∀(x:Tie×Int) (c1 c2:Cell),bT [k,k+1] (zE x) (ρ1++[c1,c2])=some (ρ1++[.sh (aL x.1),.sh (.int x.2)]):=fun x c1 c2=>by show sets [k,k+1] [aL x.1,.int x.2] _=_;rw[sets,if_neg hk0,sets,if_neg (by lia),sets];rw[PR _ _ (by lia),PR _ _ (by lia)];subst hk;rw[QT,show ρ1.length+1-ρ1.length=1 by lia];rfl
 refine SW zE (r.zip ms) p (fun x=>x.1) aL (fun x=>(ρ1++[Cell.sh (aL x.1),Cell.sh (.int x.2)]:Env)) (own:=2) (bd:=bT [k,k+1]) (Q:=Q) q (by rw[M4,xV]) (fun x=>b x .un .un) (fun x y=>b x (.sh (aL y.1)) (.sh (.int y.2))) (fun x=>Qd) (by rw[List.length_zip];lia) (fun x _=>ht x) (fun x _ _=>?_);refine N_ (d:=aL x.1) ?_ (Rg ⟨rfl,rfl⟩);rw[NQ (by lia),hk,QT];rfl
noncomputable def mvD(m j j':Int):Dat:=.tup [.int m,.int j,.int j']
noncomputable def xW(k j:Nat):Int:=if (1+(j:Int))<(k:Nat) then 1+(j:Int)+1 else 0
inductive Mv(k:Nat):Nat->List Tie->Tie->List Dat->Prop
 |done {j:Nat} {A:List Tie} {c:Tie}:j=k->Mv k j A c []
 |stop {j:Nat} {A:List Tie} {c:Tie}:j<k->¬Con A c.a c.b->Mv k j A c []
 |go {j:Nat} {A:List Tie} {c o:Tie} {L:List Dat} (ts:List Tie):j<k->path (Ff A) c.a ts c.b->(ts.map (·.m)).Nodup->o∈c::ts->(∀u∈c::ts,o.m<=u.m)->Mv k (j+1) (Rr A) o L->Mv k j A c (mvD o.m (1+(j:Int)) (xW k j)::L)
theorem jq:∀{r:List Tie} {ms:List Int},fN k r ms->Ca r ms 0=r
 |[],ms,h=>by
  cases ms with
  |nil=>rfl
  |cons m ms=>exact absurd h.len (by simp)
 |t::r,ms,h=>by
  cases ms with
  |nil=>exact absurd h.len (by simp)
  |cons m ms=>rw[jo,jq h.1,if_pos];rcases h.2 with⟨h,_⟩ | ⟨h,_⟩<;>lia
theorem oG(h:fN k r ms)(u:Up r):∀j:Nat,(j:Int)<=k->Up (Ca r ms j)/\∀t∈Ca r ms j,t∈r
 |0,_=>by have:Ca r ms ((0:Nat):Int)=r:=jq h;rw[this];exact⟨u,fun t ht=>ht⟩
 |j+1,hj=>by
  obtain⟨h1,h2⟩:=oG h u j (by lia);have e:=(rQ (j:=(j:Nat)) (by lia) (by lia) h).1;have:((j+1:Nat):Int)=(j:Int)+1:=by lia
  rw[this,e];exact⟨BW h1,fun t ht=>h2 t (lX _ t ht)⟩
def Cm(n:Nat)(A:List Tie)(c:Tie):Prop:=(0<=c.a/\c.a<=c.b/\c.b<n)/\∀t∈A,t.m≠c.m
theorem Cm.next{n:Nat}{A:List Tie}{c o:Tie}{ts:List Tie}(h:Cm n A c)(u:Up A)(hA:∀t∈A,0<=t.a/\t.a<=t.b/\t.b<n)(p:path (Ff A) c.a ts c.b)(ho:o∈c::ts):Cm n (Rr A) o:=by
 rcases Dp.mp ho with rfl | ho
 ·exact⟨h.1,fun t ht=>h.2 t (lX A t ht)⟩
 ·have:=(iM p o ho).1;exact⟨hA o (lY A o this),fun t ht=>BY u o this t ht⟩
theorem uB(n i:Int)(h0:0<=i)(h1:i<n):By [.int n,.int i]=some (.val (.bl true)):=by
 apply Rk;unfold By
 (refine Dm.Rc ?_ rfl rfl;and_intros)
 refine Q_ (Rb (m_ (N_ rfl (m_ (P_ (m_ (Q0 (N_ rfl (P_ (RD ?_ rfl rfl))))))))));exact O_ (Q9 (jn i 0 (n-1) h0 (by lia)) rfl rfl rfl)
theorem ze(m:Int)(h0:0<=m)(h1:m<=Z30):Et [.int m]=some (.val (.bl true)):=by
 apply Rk;unfold Et
 (refine Dm.Rc ?_ rfl rfl;and_intros)
 refine Q_ (Rb (m_ (N_ rfl (m_ (P_ (m_ (Q0 (P_ (P_ (RI (z:=Z30) ?_ rfl rfl (by decide) (by decide)))))))))));exact O_ (Q9 (jn m 0 Z30 h0 h1) rfl rfl rfl)
theorem rS(n:Int)(t:Tie)(m0:0<=t.m)(m1:t.m<=Z30)(a0:0<=t.a)(ab:t.a<=t.b)(b1:t.b<n):gM [.int n,aL t]=some (.val (.bl true)):=by
 have e:Eu [.int n,aL t]=some (.val (.bl true)):=by
  apply Rk;unfold Eu aL
  (refine Dm.Rc ?_ rfl rfl;and_intros)
  repeat array_get_dec
  refine RB rfl ?_
  repeat array_get_dec
  refine RB rfl ?_
  repeat array_get_dec
  refine Q9 (ze t.m m0 m1) ?_ rfl rfl
  repeat array_get_dec
  refine Q9 (uB n t.a a0 (by lia)) ?_ rfl rfl
  repeat array_get_dec
  refine Q9 (uB n t.b (by lia) b1) ?_ rfl rfl
  repeat array_get_dec
  rfl
 apply Rk;unfold gM
 (refine Dm.Rc ?_ rfl rfl;and_intros)
 refine Q_ (RQ (Rb (m_ (N_ rfl (m_ (N_ rfl (O_ (Q9 e (Q2 (RG ?_)) rfl rfl))))))));refine Q0 (Q0 (N_ rfl (P_ (Q5 (v:=.int t.a) (Q0 (N_ rfl (P_ (Q5 (v:=.int t.b) ?_ rfl rfl rfl)))) rfl rfl rfl))));refine Sj ?_ rfl rfl;rw[decide_eq_true ab];rfl
theorem Nc(k:Nat):ups 1 k=(NS k).map fun i:Nat=>Dat.int (1+((i:Nat):Int)):=rfl
theorem BZ(n k:Nat)(hn:n<=10)(hk1:1<=k)(hk6:k<=6)(r:List Tie)(hr:Good n 0 r)(hl:r.length<=59)(c:Tie)(hc:Cm n r c)(m0:0<=c.m)(m1:c.m<=Z30) :
  ∃L:List Dat,fh [.int (n:Nat),aO r,.int (k:Nat),aL c]=some (.new (.lst (mvD c.m 0 1::L)))/\Mv k 0 r c L:=by
 suffices hh:Wr (fh [.int (n:Nat),aO r,.int (k:Nat),aL c]) fun v=>∃L:List Dat,v=.new (.lst (mvD c.m 0 1::L))/\Mv k 0 r c L by obtain⟨v,h1,L,rfl,h2⟩:=hh;exact⟨L,h1,h2⟩
 obtain⟨ms,el,al⟩:=vP n k hn hk1 hk6 r (Good.ends hr) (by lia);have up:=Good.up hr;have inr:=Good.mem hr;have lo:=Good.lo hr;unfold fh
 (refine Dm.Rc ?_ rfl rfl;and_intros)
 refine QZ (Ss (Rb (m_ (N_ rfl (O_ (Q9 (gw k (by lia) (by lia)) ?_ rfl rfl))))));refine QZ (Ra (Rw (Q7 (Rb (m_ (N_ rfl (m_ (N_ rfl (O_ (Q9 (rS n c m0 m1 hc.1.1 hc.1.2.1 hc.1.2.2) (Q2 (Ri (Q8 ?_))) rfl rfl))))))))));refine QZ (Ra (Q7 (Q0 (Q0 (N_ rfl (P_ (Q5 (v:=.int c.m) ?_ rfl rfl rfl)))))));refine R6 aL r (·.m) Dat.int (d:=aO r) ?_ rfl rfl rfl (by decide) (sz (Oe hl (by decide))) fun t _=>Q0 (N_ rfl (P_ (Q5 (v:=.int t.m) (Rg ⟨rfl,rfl⟩) rfl rfl rfl)));refine RN (xs:=r.map (·.m)) (Q2 (RB (decide_eq_false fun z=>?_) (Q8 ?_))) rfl rfl
 ·obtain⟨t,ht,e⟩:=Ol.mp z;exact hc.2 t ht e
 refine QZ (Q4 (Rb (m_ (N_ rfl (m_ (N_ rfl (m_ (N_ rfl (O_ (Ru el ?_ rfl rfl rfl rfl))))))))) (by decide));refine Rl ?_ (by trivial);refine QZ (Q4 (Rx (m_ (Rn (m_ (Q0 (N_ rfl (P_ (Q5 (v:=.int c.m) ?_ rfl rfl rfl)))))))) (by decide));refine m_ (P_ (m_ (P_ (O_ (Q6 ?_ rfl rfl (by exact gV rfl))))));refine O_ (Q6 ?_ rfl rfl (by exact gV rfl));refine Rl ?_ (by trivial);refine QZ (Q4 (N_ rfl (Q3 ?_ (by trivial))) (by decide));refine QZ (Rz (Sx (P_ (cy.mk (Q0 (N_ rfl (P_ (Rj (cy.mk ⟨?_,by unfold BIG;lia⟩) rfl rfl))))))));have ek:(((k:Nat):Int)+1-1).toNat=k:=by lia
 rw[ek,Nc];refine RC (fun i:Nat=>Dat.int (1+((i:Nat):Int))) _ _ (NS k) _ _ _ _ _ (fun p q ρ=>∃(c':Tie) (L:List Dat) (c4 c7 c8:Cell),ρ=[.sh (.int (n:Nat)),.sh (aO r),.sh (.int (k:Nat)),.sh (aL c),c4,.ow (.lst (mvD c.m 0 1::L)),.sh (aL c'),c7,c8]/\(c4=.ow (.lst (ms.map Dat.int))\/c4=.sh (.lst (ms.map Dat.int)))/\Cm n (Ca r ms (p.length:Nat)) c'/\L.length=p.length/\∀L',Mv k p.length (Ca r ms (p.length:Nat)) c' L'->Mv k 0 r c (L++L')) ⟨c,[],_,_,_,rfl,.inl rfl,by rw[show ((([]:List Nat).length:Nat):Int)=0 from rfl,jq al];exact hc,rfl,fun L' h=>by rw[show ((([]:List Nat).length:Nat):Int)=0 from rfl,jq al]at h;exact h⟩ ?_ ?_
 ·rintro p i q ρ e ⟨c',L,c4,c7,c8,rfl,h4,hc',hL,hM⟩;obtain⟨ip,ik⟩:=uw e;rw[<- ip]at hc' hL hM;obtain⟨uA,sA⟩:=oG al up i (by lia);obtain⟨st1,st2⟩:=rQ (j:=(i:Nat)) (by lia) (by lia) al;have e1:(1+((i:Nat):Int))=(i:Int)+1:=by lia
  have gF:Good n 0 (lay r ms (1+(i:Nat))):=by rw[e1,st2];refine xS (BX uA) fun t ht=>?_;have:=sA t (lY _ t ht);exact⟨lo t this,inr t this⟩
  have lF:(lay r ms (1+(i:Nat))).length<=60:=by
   have a:=List.length_filter_le (fun p:Tie×Int=>decide (p.2=(1+((i:Nat):Int)))) (r.zip ms);have b:=List.length_zip (l₁:=r) (l₂:=ms);unfold lay;rw[NI]
   lia
  refine Dm.fY rfl (by trivial) ?_;unfold BF;refine QZ (Q4 (S0 r ms (fun x=>decide (x.2=1+((i:Nat):Int))) (ρ1:=[.sh (.int (n:Nat)),.sh (aO r),.sh (.int (k:Nat)),.sh (aL c),.sh (.lst (ms.map Dat.int)),.ow (.lst (mvD c.m 0 1::L)),.sh (aL c'),.sh (.int (1+((i:Nat):Int))),c8]) ?_ ?_ rfl (by decide) (sz (Oe hl (by decide))) fun x=>?_) (by decide))
  rotate_left
  ·rcases h4 with rfl | rfl<;>rfl
  ·exact Q7 (Q0 (N_ rfl (N_ rfl (RA (Q2 ⟨rfl,rfl⟩) rfl rfl))))
  refine Rl ?_ (by trivial);rcases zd n hn _ gF lF c' hc'.1.1 (by have:=hc'.1;lia) with⟨nc,eo⟩ | ⟨ts,o,hp,nd,ho,hmin,eo⟩
  ·refine QZ (Q4 (Rb (m_ (Rf rfl (m_ (N_ rfl (O_ (Q9 eo ?_ rfl rfl))))))) (by decide));refine Q3 ?_ (by trivial);refine QZ (Ra (Q7 (Q0 (N_ rfl (P_ (RO (d:=.non) (Q2 (RG ?_)) rfl rfl))))));refine Q_ (Rf rfl (RH ?_ rfl));refine⟨L,rfl,?_⟩;have:=hM [] (.stop ik fun z=>nc (by rw[e1,st2];exact vU _ z))
   rwa [Oi]at this
  ·refine QZ (Q4 (Rb (m_ (Rf rfl (m_ (N_ rfl (O_ (Ru eo ?_ rfl rfl rfl (by trivial)))))))) (by decide));refine Q3 ?_ (by trivial);refine QZ (Ra (Q7 (Q0 (N_ rfl (P_ (RO (d:=aL o) (Q2 (Ri (Q8 ?_))) rfl rfl))))));refine RS (Rn (m_ (Q0 (N_ rfl (P_ (Q5 (v:=.int o.m) ?_ rfl rfl rfl)))))) rfl;refine m_ (N_ rfl (m_ (Se (Q7 (Q0 (N_ rfl (N_ rfl (R7 (Q2 ?_) rfl rfl))))))));rw[e1,st2]at hp;have nx:Mv k (i+1) (Ca r ms ((i+1:Nat):Int)) o=Mv k (i+1) (Rr (Ca r ms (i:Nat))) o:=by
    rw[show ((i+1:Nat):Int)=(i:Int)+1 by lia,st1]
   have cn:Cm n (Ca r ms ((i+1:Nat):Int)) o:=by rw[show ((i+1:Nat):Int)=(i:Int)+1 by lia,st1];exact hc'.next uA (fun t ht=>inr t (sA t ht)) hp ho
   have Lw:∀x:Int,x=xW k i->∃(c'':Tie) (L2:List Dat) (c4 c7 c8:Cell),[Cell.sh (.int (n:Nat)),.sh (aO r),.sh (.int (k:Nat)),.sh (aL c),.sh (.lst (ms.map Dat.int)),.ow (.lst ((mvD c.m 0 1::L)++[mvD o.m (1+((i:Nat):Int)) x])),.sh (aL o),.sh (.int (1+((i:Nat):Int))),.sh (aO (lay r ms (1+((i:Nat):Int))))]=[.sh (.int (n:Nat)),.sh (aO r),.sh (.int (k:Nat)),.sh (aL c),c4,.ow (.lst (mvD c.m 0 1::L2)),.sh (aL c''),c7,c8]/\(c4=.ow (.lst (ms.map Dat.int))\/c4=.sh (.lst (ms.map Dat.int)))/\Cm n (Ca r ms ((p++[i]).length:Nat)) c''/\L2.length=(p++[i]).length/\∀L',Mv k (p++[i]).length (Ca r ms ((p++[i]).length:Nat)) c'' L'->Mv k 0 r c (L2++L'):=fun x hx=>by
    have el2:(p++[i]).length=i+1:=by rw[NL,Oc];lia
    rw[el2];refine⟨o,L++[mvD o.m (1+((i:Nat):Int)) x],_,_,_,rfl,.inr rfl,cn,by rw[NL,Oc];lia,fun L' h=>?_⟩;rw[Qn];refine hM _ ?_;rw[hx];rw[nx]at h;exact .go ts ik hp nd ho hmin h
   refine⟨fun g=>?_,fun g=>?_⟩
   ·refine Q0 (N_ rfl (P_ (Rj ?_ rfl rfl)));refine O_ (Q6 ?_ rfl rfl (by exact gV rfl));refine Rg (oA ?_ rfl (by trivial) (by simp[SZ];lia));exact Lw _ (by unfold xW;rw[if_pos (of_decide_eq_true g)])
   ·refine P_ (O_ (Q6 ?_ rfl rfl (by exact gV rfl)));refine Rg (oA ?_ rfl (by trivial) (by simp[SZ];lia));exact Lw _ (by unfold xW;rw[if_neg (of_decide_eq_false g)])
 ·rintro ρ ⟨c',L,c4,c7,c8,rfl,h4,hc',hL,hM⟩;rw[N4]at hM;refine Q_ (Rf rfl (RH ?_ rfl));have:=hM [] (.done rfl);rw[Oi]at this;exact⟨L,rfl,this⟩
theorem vW{f:List Dat->Option RV}{as:List FE}(h1:eAs as ρ=some (xs,ρ1))(h2:pks ρ1 xs=some ds)(h:f ds=none):eF f as ρ=none:=by unfold eF;rw[h1];dsimp only;rw[h2];dsimp only;rw[h]
theorem B0{ρ:Env}(h:e ρ=none):sE e ρ=none:=by unfold sE;rw[h]
theorem Iu{ρ:Env}(h:e ρ=none):sA i e ρ=none:=by unfold sA;rw[h];split<;>rfl
theorem oH{a b:FS}{ρ:Env}(h:a ρ=none):aI a b ρ=none:=by unfold aI;rw[h]
theorem vX{a b:FS}(h:a ρ=some (.nx ρ1)):aI a b ρ=b ρ1:=by unfold aI;rw[h]
theorem qR{a:FS}{R:Env->Option Env}{ρ:Env}(h:a ρ=none):kZ a R ρ=none:=by unfold kZ;rw[h]
theorem gO{a:FS}{R:Env->Option Env}(h:a ρ=some (.nx ρ1)):kZ a R ρ=R ρ1:=by unfold kZ;rw[h]
theorem B3{a b:FS}{ρ:Env}(ht:t ρ=some (true,ρ)):sIf t a b ρ=a ρ:=by unfold sIf;rw[ht]
theorem Iv{a:FS}{ρ:Env}(ht:t ρ=some (false,ρ)):sIf t a sNx ρ=some (.nx ρ):=by unfold sIf;rw[ht];rfl
theorem B4{ρ:Env}(ht:t ρ=some (true,ρ)):rIf t R S ρ=R ρ:=by unfold rIf;rw[ht]
theorem FO{ρ:Env}(ht:t ρ=some (false,ρ)):rIf t R S ρ=S ρ:=by unfold rIf;rw[ht]
theorem uC{ρ:Env}(h:R ρ=none):rOr R S ρ=S ρ:=by unfold rOr;rw[h]
theorem EI(h:R ρ=some ρ1):rOr R S ρ=some ρ1:=by unfold rOr;rw[h]
theorem Iw{f g:FS}{ρ:Env}{R:RV->Env->Prop}(k:Ws f ρ N R B C):Ws (sUn f g) ρ N R B C:=by obtain⟨o,e,q⟩:=k;exact⟨o,by unfold sUn;rw[e],q⟩
theorem vY{f g:FS}{ρ:Env}(h:f ρ=none){R:RV->Env->Prop}(k:Ws g ρ N R B C):Ws (sUn f g) ρ N R B C:=by obtain⟨o,e,q⟩:=k;exact⟨o,by unfold sUn;rw[h];exact e,q⟩
theorem oJ{R:Env->Option Env}{C ie:Nat}{ρ:Env}(e:R ρ=none):iJ R C ie h ρ=none:=by unfold iJ;rw[e]
theorem B5{Rr:Env->Option Env}{C ie:Nat}(e:Rr ρ=some ρ1)(h0:ie≠0){R:RV->Env->Prop}{B D:Env->Prop}(k:Ws h (ρ1.set ie (.sh (.exc C))) (fun ρ'=>N (ρ'.set ie .un)) (fun r ρ'=>R r (ρ'.set ie .un)) (fun _=>False) (fun _=>False)):Ws (iJ Rr C ie h) ρ N R B D:=by
 obtain⟨o,eo,q⟩:=k;cases o with
 |nx ρ'=>exact⟨.nx (ρ'.set ie .un),by unfold iJ;rw[e];dsimp only;rw[if_neg h0,eo],q⟩
 |ret r ρ'=>exact⟨.ret r (ρ'.set ie .un),by unfold iJ;rw[e];dsimp only;rw[if_neg h0,eo],q⟩
 |bk ρ'=>exact q.elim
 |ct ρ'=>exact q.elim
theorem EJ{Rr:Env->Option Env}{ie:Nat}(e:Rr ρ=some ρ1)(h0:ie≠0){R:RV->Env->Prop}{B D:Env->Prop}(k:Ws h (ρ1.set ie (.sh d)) (fun ρ'=>N (ρ'.set ie .un)) (fun r ρ'=>R r (ρ'.set ie .un)) (fun _=>False) (fun _=>False)):Ws (k8 Rr d ie h) ρ N R B D:=by
 obtain⟨o,eo,q⟩:=k;cases o with
 |nx ρ'=>exact⟨.nx (ρ'.set ie .un),by unfold k8;rw[e];dsimp only;rw[if_neg h0,eo],q⟩
 |ret r ρ'=>exact⟨.ret r (ρ'.set ie .un),by unfold k8;rw[e];dsimp only;rw[if_neg h0,eo],q⟩
 |bk ρ'=>exact q.elim
 |ct ρ'=>exact q.elim
theorem xX{Rr:Int->Env->Option Env}{C ie:Nat}{h:FS}(e:Rr m ρ=some ρ1)(u:∀i,(Rr i ρ).isSome=true->i=m)(h0:ie≠0){N:Env->Prop}{R:RV->Env->Prop}{B D:Env->Prop}
  (k:Ws h (ρ1.set ie (.sh (.bC C m))) (fun ρ'=>N (ρ'.set ie .un)) (fun r ρ'=>R r (ρ'.set ie .un)) (fun _=>False) (fun _=>False)):Ws (mH Rr C ie h) ρ N R B D:=by
 have ex:∃i,(Rr i ρ).isSome=true:=⟨m,by rw[e];rfl⟩
 have em:ex.choose=m:=u _ ex.choose_spec;have eq:mH Rr C ie h ρ=k8 (Rr m) (.bC C m) ie h ρ:=by unfold mH;rw[dif_pos ex,em]
 obtain⟨o,eo,q⟩:=EJ (N:=N) (R:=R) (B:=B) (D:=D) e h0 k;exact⟨o,eq.trans eo,q⟩
theorem gx(h1:eAs fs ρ=some (xs,ρ1))(h2:pks ρ1 xs=some ds)(h:bad ds=true):dH bad fs ρ=some ρ1:=by unfold dH;rw[h1];dsimp only;rw[h2];dsimp only;rw[if_pos h]
theorem gy(h1:eAs fs ρ=some (xs,ρ1))(h2:pks ρ1 xs=some ds)(h:bad ds=false):dH bad fs ρ=none:=by unfold dH;rw[h1];dsimp only;rw[h2];dsimp only;rw[h];rfl
theorem lq(h1:eAs fs ρ=some (xs,ρ1))(h2:pks ρ1 xs=some ds)(h:(dH bad fs ρ).isSome=true):bad ds=true:=by
 cases hb:bad ds with
 |true=>rfl
 |false=>rw[gy h1 h2 hb]at h;cases h
theorem nq{n m:Nat}{body:FS}(h:body (ds.map Cell.sh++Dk m .un)=none):fn n m body ds=none:=by
 unfold fn;split
 ·rw[h]
 ·rfl
theorem jL{n m:Nat}{R:Env->Option Env}(hl:ds.length=n):fnX n m R ds=(R (ds.map Cell.sh++Dk m .un)).isSome:=by unfold fnX;rw[decide_eq_true hl,Bool.true_and]
def Lay(k:Dat)(b:Bool):Prop:=rO [k]=some (.val (.bl b))
theorem B6{k:Dat}{b:Bool}(h:Lay k b):(fK (tV (eF rO [(eV 0)]))) [.sh k]=some (!b,[.sh k]):=
 RL (Rw (Q7 (Rb (m_ (N_ rfl (O_ (Q9 h (Q2 ⟨rfl,rfl⟩) rfl rfl)))))))
theorem zf{k:Dat}(h:Lay k false):g_ [k]=none:=nq (B3 (B6 h))
theorem vZ{k:Dat}{b:Bool}(h:Lay k b):bF [k]=!b:=by
 refine(jL rfl).trans ?_;cases b with
 |true=>exact congrArg OW (FO (B6 h))
 |false=>exact congrArg OW (B4 (B6 h))
theorem v5{k:Nat}(h1:1<=k)(h6:k<=6):Lay (.int (k:Nat)) true:=by
 apply Rk;unfold rO
 (refine Dm.Rc ?_ rfl rfl;and_intros)
 exact Q_ (Rb (m_ (N_ rfl (m_ (P_ (m_ (P_ (O_ (Q9 (jn k 1 6 (by lia) (by lia)) rfl rfl rfl)))))))))
end
section
variable(n r k t:Dat)
noncomputable abbrev gA:Env:=[.sh n,.sh r,.sh k,.sh t,.un,.un,.un,.un,.un]
theorem v7(h:Lay k false):sE (eF g_ [(eV 2)]) (gA n r k t)=none:=B0 (vW (ds:=[k]) rfl rfl (zf h))
theorem uD(h:g_ [k]=some (.val .non)):sE (eF g_ [(eV 2)]) (gA n r k t)=some (.nx (gA n r k t)):=by have e:eF g_ [(eV 2)] (gA n r k t)=some (.val .non,gA n r k t):=Sg (Rb (m_ (N_ rfl (O_ (Q9 h ⟨rfl,rfl⟩ rfl rfl)))));unfold sE;rw[e]
theorem FP{b:Bool}(h:gM [n,t]=some (.val (.bl b))):(fK (tV (eF gM [(eV 0),(eV 3)]))) (gA n r k t)=some (!b,gA n r k t):=
 RL (Rw (Q7 (Rb (m_ (N_ rfl (m_ (N_ rfl (O_ (Q9 h (Q2 ⟨rfl,rfl⟩) rfl rfl)))))))))
end
theorem pZ{n r k t:Dat}(h:Lay k false):fh [n,r,k,t]=none/\bO [n,r,k,t]=true:=by refine⟨nq (oH (v7 n r k t h)),?_⟩;refine(jL rfl).trans ?_;exact congrArg OW (EI (ρ:=gA n r k t) (gx (ds:=[k]) rfl rfl (vZ h)))
theorem p6{n r k t:Dat}(h:Lay k true)(hk:g_ [k]=some (.val .non))(ht:gM [n,t]=some (.val (.bl false))) :
  fh [n,r,k,t]=none/\bO [n,r,k,t]=false/\cJ [n,r,k,t]=true:=by
 have e1:=uD n r k t hk;have e2:=FP n r k t ht;refine⟨nq ((vX e1).trans (oH (B3 e2))),?_,?_⟩
 ·refine(jL rfl).trans ?_;exact congrArg OW ((uC (ρ:=gA n r k t) (gy (ds:=[k]) rfl rfl (vZ h))).trans ((gO e1).trans (qR (B3 e2))))
 ·refine(jL rfl).trans ?_;exact congrArg OW ((gO (ρ:=gA n r k t) e1).trans (B4 e2))
theorem mL{n k:Nat}{r:List Tie}{c:Tie}(hl:r.length<=1000)(h:Lay (.int (k:Nat)) true)(hk:g_ [.int (k:Nat)]=some (.val .non))(ht:gM [.int (n:Nat),aL c]=some (.val (.bl true)))(hm:c.m∈r.map (·.m)) :
  fh [.int (n:Nat),aO r,.int (k:Nat),aL c]=none/\bO [.int (n:Nat),aO r,.int (k:Nat),aL c]=false/\cJ [.int (n:Nat),aO r,.int (k:Nat),aL c]=false /\
   bX c.m [.int (n:Nat),aO r,.int (k:Nat),aL c]=true/\∀i,bX i [.int (n:Nat),aO r,.int (k:Nat),aL c]=true->i=c.m:=by
 have q1:=uD (.int (n:Nat)) (aO r) (.int (k:Nat)) (aL c) hk;have q2:=FP (.int (n:Nat)) (aO r) (.int (k:Nat)) (aL c) ht;have q3:(tV (e2 gIn (e2 gIx (eV 3) (eC (.int 0))) (dY 1 1 (bN 9) gX (e2 gIx (eV 9) (eC (.int 0)))))) (gA (.int (n:Nat)) (aO r) (.int (k:Nat)) (aL c))=some (true,gA (.int (n:Nat)) (aO r) (.int (k:Nat)) (aL c)):=by refine RL (Q7 (Q0 (Q0 (N_ rfl (P_ (Q5 (v:=.int c.m) ?_ rfl rfl rfl))))));refine R6 aL r (·.m) Dat.int (d:=aO r) ?_ rfl rfl rfl (by decide) (sz hl) fun t _=>Q0 (N_ rfl (P_ (Q5 (v:=.int t.m) (Rg ⟨rfl,rfl⟩) rfl rfl rfl)));refine RN (xs:=r.map (·.m)) (Q2 ⟨decide_eq_true hm,rfl⟩) rfl rfl
 have q4:∀i,lT (e2 gIx (eV 3) (eC (.int 0))) i (gA (.int (n:Nat)) (aO r) (.int (k:Nat)) (aL c))=if c.m=i then some (gA (.int (n:Nat)) (aO r) (.int (k:Nat)) (aL c)) else none:=fun i=>by have q:e2 gIx (eV 3) (eC (.int 0)) (gA (.int (n:Nat)) (aO r) (.int (k:Nat)) (aL c))=some (.val (.int c.m),gA (.int (n:Nat)) (aO r) (.int (k:Nat)) (aL c)):=Sg (Q0 (N_ rfl (P_ (Q5 (v:=.int c.m) ⟨rfl,rfl⟩ rfl rfl rfl))));unfold lT;rw[q]
 have q5:∀i,bX i [.int (n:Nat),aO r,.int (k:Nat),aL c]=(if c.m=i then some (gA (.int (n:Nat)) (aO r) (.int (k:Nat)) (aL c)) else none:Option Env).isSome:=fun i=>(jL rfl).trans (congrArg OW ((gO (ρ:=gA (.int (n:Nat)) (aO r) (.int (k:Nat)) (aL c)) q1).trans ((gO (Iv q2)).trans ((B4 q3).trans (q4 i)))))
 refine⟨nq ((vX q1).trans ((vX (Iv q2)).trans (oH (B3 q3)))),?_,?_,?_,fun i hi=>?_⟩
 ·refine(jL rfl).trans ?_;exact congrArg OW ((uC (ρ:=gA (.int (n:Nat)) (aO r) (.int (k:Nat)) (aL c)) (gy (ds:=[.int (k:Nat)]) rfl rfl (vZ h))).trans ((gO q1).trans ((gO (Iv q2)).trans (qR (B3 q3)))))
 ·refine(jL rfl).trans ?_;exact congrArg OW ((gO (ρ:=gA (.int (n:Nat)) (aO r) (.int (k:Nat)) (aL c)) q1).trans (FO q2))
 ·rw[q5,if_pos rfl];rfl
 ·rw[q5]at hi;by_cases z:c.m=i
  ·exact z.symm
  ·rw[if_neg z]at hi;cases hi
noncomputable def xY:Option RV->Bool
 |some (.val (.bl false))=>true
 |_=>false
theorem lu{x:Option RV}(h:xY x=true):x=some (.val (.bl false)):=by
 unfold xY at h;split at h
 ·rfl
 ·cases h
def ly(x:Dat):Prop:=∃s,iK [x]=some (.val (.str s))/\gNe (.str s) (.str s)=some (.val (.bl false))
noncomputable def sOk:Dat->Bool
 |.dct [] []=>true
 |.str s=>s == []||s == [53,58,48,45,48]
 |.tup xs=>jr 8 (.tup xs)&&decide (rG (.tup xs)<=900)
 |.lst xs=>jr 8 (.lst xs)&&decide (rG (.lst xs)<=900)
 |.non=>true
 |.bl _=>true
 |.int i=>decide (i.natAbs<10 ^ 100)
 |_=>false
theorem uE:∀{x:Dat},sOk x=true->ly x
 |.dct [] [],_=>⟨codes "{}",rfl,lu (by decide +kernel)⟩
 | .str s,h=>⟨s,rfl,by unfold sOk at h;rw[QH,beq_iff_eq,beq_iff_eq]at h;rcases h with rfl | rfl<;>exact lu (by decide +kernel)⟩
 |.tup xs,h=>by unfold sOk at h;rw[NF,decide_eq_true_eq]at h;exact⟨shw (.tup xs),by simp only[iK,Bb];rw[if_pos h],k_ h.1⟩
 |.lst xs,h=>by unfold sOk at h;rw[NF,decide_eq_true_eq]at h;exact⟨shw (.lst xs),by simp only[iK,Bb];rw[if_pos h],k_ h.1⟩
 |.non,_=>⟨shw .non,rfl,k_ rfl⟩
 |.bl b,_=>⟨shw (.bl b),rfl,k_ rfl⟩
 | .int i,h=>⟨shw (.int i),by have h:i.natAbs<10 ^ 100:=of_decide_eq_true h;unfold iK;dsimp only;rw[if_pos h];rfl,k_ h⟩
theorem EK{t:Tie}(h0:t.m.natAbs<10 ^ 100)(h1:t.a.natAbs<10 ^ 100)(h2:t.b.natAbs<10 ^ 100):sOk (aL t)=true:=by unfold sOk aL;dsimp only;rw[NF];refine⟨?_,rfl⟩;unfold jr ff jr ff jr ff jr ff;rw[decide_eq_true h0,decide_eq_true h1,decide_eq_true h2];rfl
noncomputable def zg(n:Int):List Dat:=[.non,.int 5,.str [53,58,48,45,48],.lst [.int 5,.int 0,.int 0],.tup [.int 5,.int 0],.tup [.int 5,.int 0,.int 0,.int 0],.tup [.int (-1),.int 0,.int 0],.tup [.int (10 ^ 30+1),.int 0,.int 0],.tup [.bl true,.int 0,.int 0]] ++
 [.tup [.int 5,.bl false,.int 0],.tup [.int 5,.int 0,.bl false],.tup [.int 5,.int 0,.int n],.tup [.int 5,.int (-1),.int 0],.tup [.str [53],.int 0,.int 0],.tup [.int 5,.non,.int 0],.tup [.tup [.int 5],.int 0,.int 0]] ++
 [.dct [] [],.tup [],.lst [],.str [],.tup [.int 5,.int 1,.int 0],.tup [.int 5,.int 0,.str [48]],.tup [.tup [.int 5,.int 0,.int 0]],.bl true,.tup [.int 5,.int 0,.int (10 ^ 40)],.tup [.int 5,.int n,.int n]]
noncomputable def Ly(n:Int):Bool:=(zg n).all fun x=>xY (gM [.int n,x])&&sOk x
theorem EL:((NS 11).all fun n=>Ly (n:Int))=true:=by decide +kernel
theorem zh{n:Nat}(h:n<=10):∀x∈zg n,gM [.int n,x]=some (.val (.bl false))/\ly x:=fun x hx=>by have h1:=Ov.mp EL n (Pw.mpr (by lia));have h2:=Ov.mp h1 x hx;rw[NF]at h2;exact⟨lu h2.1,uE h2.2⟩
noncomputable def zj:List Dat:=[.int 0,.int 7,.int (-1),.non,.bl true,.bl false,.str [51],.str [],.lst [.int 1],.tup [.int 2],.dct [] [],.int (10 ^ 40),.int (-10 ^ 20)]
theorem EM:(zj.all fun x=>xY (rO [x]))=true:=by decide +kernel
theorem v8:∀x∈zj,Lay x false:=fun x hx=>lu (Ov.mp EM x hx)
theorem B7(xs:List Dat)(i:Int)(h0:0<=i)(h1:i<xs.length):∃x∈xs,gIx (.lst xs) (.int i)=some (.val x):=by
 have hl:i.toNat<xs.length:=by lia
 refine⟨xs[i.toNat],PL hl,?_⟩;show ((ixN xs.length i).bind fun j=>xs[j]?).map RV.val=_;unfold ixN;rw[if_pos h0,if_pos h1,Option.bind_some,ND hl];rfl
theorem xZ{xs:List Dat}{o:Option (List Dat)}{K:RV->Prop}(k:K (.val (.int xs.length)))(ho:o=some [.lst xs]):WB iB o K:=⟨_,_,ho,rfl,k⟩
theorem v9{b:Nat}{d:Dat}(h:aT (b+1) d)(n:Nat)(n10:n<=10):∃(x:Dat) (d':Dat),uu [d,.int (n:Nat)]=some (.val x,d')/\(gM [.int (n:Nat),x]=some (.val (.bl false))/\ly x)/\aT b d':=by
 suffices hh:WrM (uu [d,.int (n:Nat)]) fun v d'=>∃x,v=.val x/\x∈zg n/\aT b d' by obtain⟨v,d',h1,x,rfl,hx,h2⟩:=hh;exact⟨x,d',h1,zh n10 x hx,h2⟩
 unfold uu;refine Rv ?_ rfl rfl;and_intros;refine QZ ⟨.nx [.ow d,.sh (.int n),.ow (.lst [.non,.int 5,.str [53,58,48,45,48],.lst [.int 5,.int 0,.int 0],.tup [.int 5,.int 0],.tup [.int 5,.int 0,.int 0,.int 0],.tup [.int (-1),.int 0,.int 0],.tup [.int (10 ^ 30+1),.int 0,.int 0],.tup [.bl true,.int 0,.int 0]])],rfl,?_⟩;refine QZ ⟨.nx [.ow d,.sh (.int n),.ow (.lst ([.non,.int 5,.str [53,58,48,45,48],.lst [.int 5,.int 0,.int 0],.tup [.int 5,.int 0],.tup [.int 5,.int 0,.int 0,.int 0],.tup [.int (-1),.int 0,.int 0],.tup [.int (10 ^ 30+1),.int 0,.int 0],.tup [.bl true,.int 0,.int 0]] ++
 [.tup [.int 5,.bl false,.int 0],.tup [.int 5,.int 0,.bl false],.tup [.int 5,.int 0,.int n],.tup [.int 5,.int (-1),.int 0],.tup [.str [53],.int 0,.int 0],.tup [.int 5,.non,.int 0],.tup [.tup [.int 5],.int 0,.int 0]]))],rfl,?_⟩
 refine QZ ⟨.nx [.ow d,.sh (.int n),.ow (.lst (zg n))],rfl,?_⟩;refine Q_ (Q0 (Rf rfl (Rh (Rm (m_ (Rf rfl (O_ (xZ (xs:=zg n) ?_ rfl))))) rfl)));refine cy.mk (dg h (fun v d' ρ3 e v0 v1 hp=>?_) rfl (by show (0:Int)<26;decide) (oF (by show (26:Int)<=1000;decide)));subst e;obtain⟨x,hx,ex⟩:=B7 (zg n) v v0 v1;exact Q5 ⟨_,rfl,x,rfl,hx,hp⟩ rfl rfl ex
theorem rT{b:Nat}{d:Dat}(h:aT (b+1) d):∃(x:Dat) (d':Dat),jy [d]=some (.val x,d')/\Lay x false/\aT b d':=by
 suffices hh:WrM (jy [d]) fun v d'=>∃x,v=.val x/\x∈zj/\aT b d' by obtain⟨v,d',h1,x,rfl,hx,h2⟩:=hh;exact⟨x,d',h1,v8 x hx,h2⟩
 unfold jy;refine Rv ?_ rfl rfl;and_intros;refine QZ ⟨.nx [.ow d,.ow (.lst zj)],rfl,?_⟩;refine Q_ (Q0 (Rf rfl (Rh (Rm (m_ (Rf rfl (O_ (xZ (xs:=zj) ?_ rfl))))) rfl)));refine cy.mk (dg h (fun v d' ρ3 e v0 v1 hp=>?_) rfl (by show (0:Int)<13;decide) (oF (by show (13:Int)<=1000;decide)));subst e;obtain⟨x,hx,ex⟩:=B7 zj v v0 v1;exact Q5 ⟨_,rfl,x,rfl,hx,hp⟩ rfl rfl ex
section
variable(xL xT xC:Nat)(Nb:xL≠xT/\xL≠xC/\xT≠xC)
def Isx(e:Dat)(sel:Bool->Bool->Bool->Bool):Prop:=∀a b c,bW [xL,xT,xC] [a,b,c] e=some (.val (.bl (sel a b c)))
theorem Lz:Isx xL xT xC (.exc xL) fun a _ _=>a:=fun a b c=>by unfold bW lQ;dsimp only;rw[if_pos rfl];rfl
include Nb in
theorem LA:Isx xL xT xC (.exc xT) fun _ b _=>b:=fun a b c=>by unfold bW lQ lQ;dsimp only;rw[if_neg (N2 Nb.1),if_pos rfl];rfl
include Nb in
theorem LB(m:Int):Isx xL xT xC (.bC xC m) fun _ _ c=>c:=fun a b c=>by unfold bW lQ lQ lQ;dsimp only;rw[if_neg (N2 Nb.2.1),if_neg (N2 Nb.2.2),if_pos rfl];rfl
noncomputable def uF:FS:=(aI (sA 6 (e1 (bW [xL,xT,xC] [false,false,false]) (eV 5)))
  (aI (sA 6 (eOr (eV 6) (pS (e1 (bW [xL,xT,xC] [true,true,true]) (eV 5)))))
  (sA 4 (bw [(e1 (bW [xL,xT,xC] [true,false,false]) (eV 5)),(e1 (bW [xL,xT,xC] [false,true,false]) (eV 5)),(e1 (bW [xL,xT,xC] [false,false,true]) (eV 5)),(eV 6)]))))
noncomputable def p7(sel:Bool->Bool->Bool->Bool):Dat:=.tup [.bl (sel true false false),.bl (sel false true false),.bl (sel false false true),.bl false]
theorem rV{e:Dat}{sel:Bool->Bool->Bool->Bool}(h:Isx xL xT xC e sel)(h0:sel false false false=false)(h1:sel true true true=true)(n r k t:Dat){N:Env->Prop}{R:RV->Env->Prop}{B C:Env->Prop}
  (q:N [.sh n,.sh r,.sh k,.sh t,.sh (p7 sel),.sh e,.sh (.bl false)]):Ws (uF xL xT xC) [.sh n,.sh r,.sh k,.sh t,.sh .non,.sh e,.un] N R B C:=by
 unfold uF;refine QZ (Q4 (Ry (N_ rfl (Rt (Q3 ?_ (by trivial)) rfl (h _ _ _)))) (by decide));rw[h0];refine QZ (Q4 (Sw (N_ rfl (Q2 (Ri (Sn (Ry (N_ rfl (Rt ?_ rfl (h _ _ _))))))))) (by decide));rw[h1];refine Q2 (Q3 ?_ (by trivial));refine Q4 (Rn (m_ (Ry (N_ rfl (Rt ?_ rfl (h _ _ _)))))) (by decide);refine m_ (Ry (N_ rfl (Rt ?_ rfl (h _ _ _))));refine m_ (Ry (N_ rfl (Rt ?_ rfl (h _ _ _))));refine m_ (N_ rfl (O_ (Q6 ?_ rfl rfl (by exact gV rfl))));exact Q3 q (by trivial)
theorem nt:bJ xL xT xC=fn 4 3 (aI (sA 4 (eC .non)) (aI (sUn (sA 4 (eF fh [(eV 0),(eV 1),(eV 2),(eV 3)])) (sUn (iJ (dH bO [(eV 0),(eV 1),(eV 2),(eV 3)]) xL 5 (uF xL xT xC)) (sUn (iJ (dH cJ [(eV 0),(eV 1),(eV 2),(eV 3)]) xT 5 (uF xL xT xC)) (mH (fun m=>(dH (bX m) [(eV 0),(eV 1),(eV 2),(eV 3)])) xC 5 (uF xL xT xC))))) (sR (eV 4)))):=rfl
section
variable(n r k t:Dat)
noncomputable abbrev Nd:Env:=[.sh n,.sh r,.sh k,.sh t,.sh .non,.un,.un]
theorem oK(h:fh [n,r,k,t]=none):sA 4 (eF fh [(eV 0),(eV 1),(eV 2),(eV 3)]) (Nd n r k t)=none:=Iu (vW (ds:=[n,r,k,t]) rfl rfl h)
end
section
variable{r:List Tie}{n k:Nat}{c:Tie}
theorem Iz{n r k t:Dat}(h:Lay k false):bJ xL xT xC [n,r,k,t]=some (.val (p7 fun a _ _=>a)):=by
 obtain⟨h1,h2⟩:=pZ (n:=n) (r:=r) (t:=t) h;apply Rk;rw[nt]
 (refine Dm.Rc ?_ rfl rfl;and_intros)
 refine QZ (Q4 (P_ (Q3 ?_ (by trivial))) (by decide));refine QZ (vY (oK n r k t h1) (Iw (B5 (gx (ds:=[n,r,k,t]) rfl rfl h2) (by decide) ?_)));refine rV xL xT xC (Lz xL xT xC) rfl rfl n r k t ?_;exact Q_ (N_ rfl (Rp rfl))
include Nb
theorem IA{n r k t:Dat}(h:Lay k true)(hk:g_ [k]=some (.val .non))(ht:gM [n,t]=some (.val (.bl false))):bJ xL xT xC [n,r,k,t]=some (.val (p7 fun _ b _=>b)):=by
 obtain⟨h1,h2,h3⟩:=p6 (n:=n) (r:=r) (t:=t) h hk ht;apply Rk;rw[nt]
 (refine Dm.Rc ?_ rfl rfl;and_intros)
 refine QZ (Q4 (P_ (Q3 ?_ (by trivial))) (by decide));refine QZ (vY (oK n r k t h1) (vY (oJ (gy (ds:=[n,r,k,t]) rfl rfl h2)) (Iw (B5 (gx (ds:=[n,r,k,t]) rfl rfl h3) (by decide) ?_))));refine rV xL xT xC (LA xL xT xC Nb) rfl rfl n r k t ?_;exact Q_ (N_ rfl (Rp rfl))
theorem IB(hl:r.length<=1000)(h:Lay (.int (k:Nat)) true)(hk:g_ [.int (k:Nat)]=some (.val .non))(ht:gM [.int (n:Nat),aL c]=some (.val (.bl true)))(hm:c.m∈r.map (·.m)) :
  bJ xL xT xC [.int (n:Nat),aO r,.int (k:Nat),aL c]=some (.val (p7 fun _ _ c=>c)):=by
 obtain⟨h1,h2,h3,h4,h5⟩:=mL hl h hk ht hm;apply Rk;rw[nt]
 (refine Dm.Rc ?_ rfl rfl;and_intros)
 refine QZ (Q4 (P_ (Q3 ?_ (by trivial))) (by decide));refine QZ (vY (oK _ _ _ _ h1) (vY (oJ (gy (ds:=[.int (n:Nat),aO r,.int (k:Nat),aL c]) rfl rfl h2)) (vY (oJ (gy (ds:=[.int (n:Nat),aO r,.int (k:Nat),aL c]) rfl rfl h3)) (xX (m:=c.m) (gx (ds:=[.int (n:Nat),aO r,.int (k:Nat),aL c]) rfl rfl h4) (fun i hi=>h5 i (lq (ds:=[.int (n:Nat),aO r,.int (k:Nat),aL c]) rfl rfl hi)) (by decide) ?_))));refine rV xL xT xC (LB xL xT xC Nb c.m) rfl rfl _ _ _ _ ?_;exact Q_ (N_ rfl (Rp rfl))
omit Nb
theorem EN(hl:r.length<=1000)(h:Lay (.int (k:Nat)) true)(hk:g_ [.int (k:Nat)]=some (.val .non))(ht:gM [.int (n:Nat),aL c]=some (.val (.bl true)))(hm:c.m∈r.map (·.m)) :
  bL xL xT xC [.int (n:Nat),aO r,.int (k:Nat),aL c]=some (.val (.int c.m)):=by
 obtain⟨h1,h2,h3,h4,h5⟩:=mL hl h hk ht hm;apply Rk;unfold bL
 (refine Dm.Rc ?_ rfl rfl;and_intros)
 refine QZ (Q4 (P_ (Q3 ?_ (by trivial))) (by decide));refine QZ (vY (B0 (vW (ds:=[.int (n:Nat),aO r,.int (k:Nat),aL c]) rfl rfl h1)) (xX (m:=c.m) (gx (ds:=[.int (n:Nat),aO r,.int (k:Nat),aL c]) rfl rfl h4) (fun i hi=>h5 i (lq (ds:=[.int (n:Nat),aO r,.int (k:Nat),aL c]) rfl rfl hi)) (by decide) ?_));refine Q4 (Ry (N_ rfl (Rt (v:=.val (.int c.m)) ?_ rfl (by unfold Bd;dsimp only;rw[if_pos rfl])))) (by decide);refine Q3 ?_ (by trivial);exact Q_ (N_ rfl (Rp rfl))
theorem EO{L:List Dat}(h:fh [.int (n:Nat),aO r,.int (k:Nat),aL c]=some (.new (.lst L))):bJ xL xT xC [.int (n:Nat),aO r,.int (k:Nat),aL c]=some (.new (.lst L)):=by
 apply Rk;rw[nt]
 (refine Dm.Rc ?_ rfl rfl;and_intros)
 refine QZ (Q4 (P_ (Q3 ?_ (by trivial))) (by decide));refine QZ (Iw (Q4 (Rb (m_ (N_ rfl (m_ (N_ rfl (m_ (N_ rfl (m_ (N_ rfl (O_ (Ru h ?_ rfl rfl rfl rfl))))))))))) (by decide)));refine Rl ?_ (by trivial);exact Q_ (Rf rfl (RH rfl rfl))
end
end
noncomputable abbrev FQ:List Nat:=[110,111,110,101]
noncomputable abbrev jM:List Nat:=[97,103,97,105,110]
noncomputable abbrev B8:List Nat:=[110,101,119]
def iN(n:Nat)(r:List Tie)(t:Dat)(w:List Nat):Prop:=
 (w=FQ/\gM [.int (n:Nat),t]=some (.val (.bl false))/\ly t) \/
 ∃c:Tie,t=aL c/\gM [.int (n:Nat),aL c]=some (.val (.bl true))/\ly (aL c)/\((w=jM/\c.m∈r.map (·.m))\/(w=B8/\Cm n r c/\0<=c.m/\c.m<=Z30))
theorem rW{n:Nat}{c:Tie}(n10:n<=10)(m0:0<=c.m)(m1:c.m<=Z30)(a0:0<=c.a)(ab:c.a<=c.b)(b1:c.b<n):ly (aL c):=by unfold Z30 at m1;exact uE (EK (by lia) (by lia) (by lia))
theorem zk{b:Nat}{d:Dat}(h:aT (b+10) d)(n:Nat)(n1:1<=n)(n10:n<=10)(r:List Tie)(hr:Good n 0 r)(hl:r.length<=40)(hm:∀t∈r,t.m<=50*Z27) :
  ∃(t:Dat) (w:List Nat) (d':Dat),qP [d,.int (n:Nat),aO r]=some (.val (.tup [t,.str w]),d')/\iN n r t w/\aT b d':=by
 suffices hh:WrM (qP [d,.int (n:Nat),aO r]) fun v d'=>∃t w,v=.val (.tup [t,.str w])/\iN n r t w/\aT b d' by obtain⟨v,d',h1,t,w,rfl,h2,h3⟩:=hh;exact⟨t,w,d',h1,h2,h3⟩
 obtain⟨c,d1,e1,⟨c1,c2,c3,c4,c5,c6⟩,p1⟩:=vV (b:=b+2) h n n1 n10 r hr hl hm;have lo:=Good.lo hr;have mem:=Good.mem hr;have hz:50*Z27<=Z30:=by decide
 unfold qP;refine Rv ?_ rfl rfl;and_intros;refine QZ (Q4 (Rq (m_ (N_ rfl (m_ (N_ rfl (O_ (Ro e1 ?_ rfl rfl (by trivial))))))) rfl) (by decide));refine Q3 ?_ (by trivial);refine QZ (Q4 (Rh (P_ (cy.mk (dg p1 (fun v d2 ρ3 e v0 v1 p2=>?_) rfl (by decide) (by decide)))) rfl) (by decide));subst e;refine Q3 ?_ (by trivial);have new:iN n r (aL c) B8:=.inr ⟨c,rfl,rS n c c2 c3 c4 c5 c6,rW n10 c2 c3 c4 c5 c6,.inr ⟨rfl,⟨⟨c4,c5,c6⟩,c1⟩,c2,c3⟩⟩;refine QZ (Ra (Q7 (Q0 (N_ rfl (P_ (RA (Q2 (RZ (fun _=>?_) fun _=>Q8 ?_)) rfl rfl))))))
 ·obtain⟨x,d3,e3,⟨x1,x2⟩,p3⟩:=v9 (b:=b) p2 n n10;refine Q_ (Rn (m_ (Rq (m_ (N_ rfl (O_ (Ro e3 ?_ rfl rfl (by trivial))))) rfl)));refine m_ (P_ (O_ (Q6 ?_ rfl rfl (by exact gV rfl))));exact Rp ⟨_,rfl,x,FQ,rfl,.inl ⟨rfl,x1,x2⟩,p3⟩
 ·have last:∀{N:Env->Prop} {B C:Env->Prop},Ws (sR (bw [(eV 3),(eC (.str B8))])) [.ow d2,.sh (.int (n:Nat)),.sh (aO r),.sh (aL c),.sh (.int v),.un] N (fun z ρ'=>∃d',ρ'[0]?=some (.ow d')/\∃t w,z=.val (.tup [t,.str w])/\iN n r t w/\aT b d') B C:=by
   intro N B C;refine Q_ (Rn (m_ (N_ rfl (m_ (P_ (O_ (Q6 ?_ rfl rfl (by exact gV rfl))))))));exact Rp ⟨_,rfl,_,B8,rfl,new,p2.down 1⟩
  have again:∀(i:Int) (i0:0<=i) (i1:i<r.length),∃u:Tie,gIx (aO r) (.int i)=some (.val (aL u))/\u∈r:=fun i i0 i1=>by
   have hi:i.toNat<r.length:=by lia
   have ei:i=((i.toNat:Nat):Int):=by lia
   rw[ei];exact⟨_,BQ r (ND hi),PL hi⟩
  have pos:∀{x:Bool},(!r.isEmpty)=true->0<r.length:=fun g=>by
   cases r with
   |nil=>cases g
   |cons t r=>simp
  have mid:∀{N:Env->Prop} {B C:Env->Prop},Ws (aI (sIf (g8 (tV (e2 gEq (eV 4) (eC (.int 2)))) (tV (e2 gNe (eV 2) (dP [])))) (sR (bw [(e2 gIx (eV 2) (eFm bV 0 [(eB iB [(eV 2)])])),(eC (.str jM))])) sNx) (sR (bw [(eV 3),(eC (.str B8))])))
    [.ow d2,.sh (.int (n:Nat)),.sh (aO r),.sh (aL c),.sh (.int v),.un] N (fun z ρ'=>∃d',ρ'[0]?=some (.ow d')/\∃t w,z=.val (.tup [t,.str w])/\iN n r t w/\aT b d') B C:=by
   intro N B C;refine QZ (Ra (RE (Q7 (Q0 (N_ rfl (P_ (RA (Q2 (RZ (fun _=>?_) fun _=>Ri (Q8 last))) rfl rfl)))))));refine Q7 (Q0 (N_ rfl (Rx (O_ (Q6 ⟨_,_,_,rfl,rfl,rR r,Q2 ⟨fun g=>?_,fun g=>Q8 last⟩⟩ rfl rfl (by decide))))));have l0:=pos (x:=true) g;refine Q_ (Rn (m_ (Q0 (N_ rfl (Rh (Rm (m_ (N_ rfl (O_ (RM (Em:=aL) (xs:=r) (cy.mk (dg p2 (fun i d4 ρ3 e i0 i1 hp=>?_) rfl (by lia) (oF (by lia)))) rfl))))) rfl)))));subst e;obtain⟨u,eu,hu⟩:=again i i0 i1;refine Q5 ?_ rfl rfl eu;refine m_ (P_ (O_ (Q6 ?_ rfl rfl (by exact gV rfl))));have u1:=mem u hu;have u2:=lo u hu;have u3:=hm u hu;exact Rp ⟨_,rfl,_,jM,rfl,.inr ⟨u,rfl,rS n u u2 (QA u3 hz) u1.1 u1.2.1 u1.2.2,rW n10 u2 (QA u3 hz) u1.1 u1.2.1 u1.2.2,.inl ⟨rfl,Ol.mpr ⟨u,hu,rfl⟩⟩⟩,hp⟩
  refine QZ (Ra (RE (Q7 (Q0 (N_ rfl (P_ (RA (Q2 (RZ (fun _=>?_) fun _=>Ri (Q8 mid))) rfl rfl)))))));refine Q7 (Q0 (N_ rfl (Rx (O_ (Q6 ⟨_,_,_,rfl,rfl,rR r,Q2 ⟨fun g=>?_,fun g=>Q8 mid⟩⟩ rfl rfl (by decide))))));have l0:=pos (x:=true) g;refine QZ (Q4 (Q0 (N_ rfl (Rh (Rm (m_ (N_ rfl (O_ (RM (Em:=aL) (xs:=r) (cy.mk (dg p2 (fun i d4 ρ3 e i0 i1 hp=>?_) rfl (by lia) (oF (by lia)))) rfl))))) rfl))) (by decide));subst e;obtain⟨u,eu,hu⟩:=again i i0 i1;refine Q5 ?_ rfl rfl eu;refine Q3 ?_ (by trivial);have u2:=lo u hu;have u3:=hm u hu;refine Q_ (Rn (m_ (Rn (m_ (Q0 (N_ rfl (P_ (Q5 (v:=.int u.m) ?_ rfl rfl rfl))))))));refine m_ (Q0 (N_ rfl (P_ (Q5 (v:=.int c.a) ?_ rfl rfl rfl))));refine m_ (Q0 (N_ rfl (P_ (Q5 (v:=.int c.b) ?_ rfl rfl rfl))));refine O_ (Q6 ?_ rfl rfl (by exact gV rfl));refine m_ (P_ (O_ (Q6 ?_ rfl rfl (by exact gV rfl))));exact Rp ⟨_,rfl,aL ⟨u.m,c.a,c.b⟩,jM,rfl,.inr ⟨⟨u.m,c.a,c.b⟩,rfl,rS n ⟨u.m,c.a,c.b⟩ u2 (QA u3 hz) c4 c5 c6,rW n10 (c:=⟨u.m,c.a,c.b⟩) u2 (QA u3 hz) c4 c5 c6,.inl ⟨rfl,Ol.mpr ⟨u,hu,rfl⟩⟩⟩,hp⟩
theorem B9(r:List Tie):eqD (aO r) (aO r)=true:=by
 unfold aO eqD
 induction r with
 |nil=>rfl
 |cons t r ih=>rw[Nv];unfold mX;rw[Ir,decide_eq_true rfl,ih];rfl
theorem B_(r:List Tie):okD 8 (aO r)=true:=Bu aL r fun t=>rfl
theorem Sk{d:Dat}{o p:Option Dat}{Q:RV->Prop}(hk:okD 8 d=true)(he:eqD d d=true)(k:Q (.val (.bl false)))(ho:o=some d)(hp:p=some d):Wg2 gNe o p Q:=
 ⟨_,_,_,ho,hp,by unfold gNe;rw[hk,he];rfl,k⟩
theorem R4{x:Dat}{s:List Nat}{o:Option (List Dat)}{K:RV->Prop}(h:iK [x]=some (.val (.str s)))(k:K (.val (.str s)))(ho:o=some [x]):WB iK o K:=⟨_,_,ho,h,k⟩
theorem IC(a b c:Bool):gEq (.tup [.bl a,.bl b,.bl c,.bl false]) (.tup [.bl a,.bl b,.bl c,.bl false])=some (.val (.bl true)):=by cases a<;>cases b<;>cases c<;>rfl
theorem ID(a b c:Bool):gNe (.tup [.bl a,.bl b,.bl c,.bl false]) (.tup [])=some (.val (.bl true)):=by cases a<;>cases b<;>cases c<;>rfl
section
variable(xL xT xC:Nat)
theorem oM{n r t:Dat}{k:Dat}{rs:List Tie}{sel:Bool->Bool->Bool->Bool}(hr:r=aO rs)(hl:rs.length<=1000)(hs:ly t)(h:bJ xL xT xC [n,r,k,t]=some (.val (p7 sel))) :
  a_ xL xT xC [n,r,k,t,p7 sel]=some (.val (.bl true)):=by
 obtain⟨s,s1,s2⟩:=hs;subst hr;apply Rk;unfold a_
 (refine Dm.Rc ?_ rfl rfl;and_intros)
 refine QZ (Q4 (Rm (m_ (N_ rfl (O_ (RJ ?_ rfl))))) (by decide));refine Rl ?_ (by trivial);refine QZ (Q4 (Rm (m_ (N_ rfl (O_ (R4 s1 ?_ rfl))))) (by decide));refine Q3 ?_ (by trivial);refine QZ (Q4 (Rb (m_ (N_ rfl (m_ (Rf rfl (m_ (N_ rfl (m_ (N_ rfl (O_ (Ru h ?_ rfl rfl rfl (by trivial)))))))))))) (by decide));refine Q3 ?_ (by trivial);refine QZ (Ra (R5 (Q7 (Q0 (N_ rfl (N_ rfl (Sk (B_ rs) (B9 rs) (Q2 (Ri ?_)) rfl rfl)))))));refine Q7 (Q0 (Rm (m_ (N_ rfl (O_ (R4 s1 (N_ rfl ⟨_,_,_,rfl,rfl,s2,Q2 (Ri (Q8 ?_))⟩) rfl))))));refine QZ (Ra (Q7 (Q0 (N_ rfl (Rn (O_ (Q6 ⟨_,_,_,rfl,rfl,ID _ _ _,Q2 (RG ?_)⟩ rfl rfl (by decide))))))));exact Q_ (Q0 (N_ rfl (N_ rfl ⟨_,_,_,rfl,rfl,IC _ _ _,Rp rfl⟩)))
theorem zl{n k:Nat}{c:Tie}{rs:List Tie}{L:List Dat}(hl:rs.length<=1000)(hs:ly (aL c))(h:bJ xL xT xC [.int (n:Nat),aO rs,.int (k:Nat),aL c]=some (.new (.lst L))) :
  a_ xL xT xC [.int (n:Nat),aO rs,.int (k:Nat),aL c,.tup []]=some (.val (.bl true)):=by
 obtain⟨s,s1,s2⟩:=hs;apply Rk;unfold a_
 (refine Dm.Rc ?_ rfl rfl;and_intros)
 refine QZ (Q4 (Rm (m_ (N_ rfl (O_ (RJ ?_ rfl))))) (by decide));refine Rl ?_ (by trivial);refine QZ (Q4 (Rm (m_ (N_ rfl (O_ (R4 s1 ?_ rfl))))) (by decide));refine Q3 ?_ (by trivial);refine QZ (Q4 (Rb (m_ (N_ rfl (m_ (Rf rfl (m_ (N_ rfl (m_ (N_ rfl (O_ (Ru h ?_ rfl rfl rfl (by trivial)))))))))))) (by decide));refine Rl ?_ (by trivial);refine QZ (Ra (R5 (Q7 (Q0 (N_ rfl (N_ rfl (Sk (B_ rs) (B9 rs) (Q2 (Ri ?_)) rfl rfl)))))));refine Q7 (Q0 (Rm (m_ (N_ rfl (O_ (R4 s1 (N_ rfl ⟨_,_,_,rfl,rfl,s2,Q2 (Ri (Q8 ?_))⟩) rfl))))));refine QZ (Ra (Q7 (Q0 (N_ rfl (Rn (O_ (Q6 ⟨_,_,_,rfl,rfl,(show gNe (.tup []) (.tup [])=some (.val (.bl false)) from rfl),Q2 (Ri (Q8 ?_))⟩ rfl rfl (by decide))))))));exact Q_ (Ry (Rf rfl (Rt (v:=.val (.bl true)) (Rp rfl) rfl rfl)))
end
noncomputable abbrev ER:FE:=Be [([110,111,110,101],(bw [(eC (.bl false)),(eC (.bl true)),(eC (.bl false)),(eC (.bl false))])),([97,103,97,105,110],(bw [(eC (.bl false)),(eC (.bl false)),(eC (.bl true)),(eC (.bl false))])),([110,101,119],(bw []))] (eV 6)
section
variable(xL xT xC:Nat)(Nb:xL≠xT/\xL≠xC/\xT≠xC)
section
variable{w:List Nat}{r:List Tie}{ag:Bool}{t:Dat}{n:Nat}
theorem iN.str(h:iN n r t w):ly t:=by rcases h with⟨_,_,h⟩ | ⟨c,rfl,_,h,_⟩<;>exact h
include Nb in
theorem zm(n10:n<=10)(hr:Good n 0 r)(hl:r.length<=40)(h:iN n r t w):∃(due:Dat) (ag:Bool),(∀a b c d e f g i j:Cell,ER [a,b,c,d,e,f,.sh (.str w),g,i,j]=some (.val due,[a,b,c,d,e,f,.sh (.str w),g,i,j])) /\
  gEq (.str w) (.str jM)=some (.val (.bl ag))/\∀k:Nat,1<=k->k<=6->a_ xL xT xC [.int (n:Nat),aO r,.int (k:Nat),t,due]=some (.val (.bl true)) /\
   (ag=true->∃m:Int,gIx t (.int 0)=some (.val (.int m))/\bL xL xT xC [.int (n:Nat),aO r,.int (k:Nat),t]=some (.val (.int m))):=by
 have st:=h.str;rcases h with⟨rfl,h1,h2⟩ | ⟨c,rfl,h1,h2,h3⟩
 ·refine⟨p7 fun _ b _=>b,false,fun _ _ _ _ _ _ _ _ _=>rfl,rfl,fun k k1 k6=>⟨?_,fun z=>by cases z⟩⟩;exact oM xL xT xC rfl (by lia) st (IA xL xT xC Nb (v5 k1 k6) (gw k (by lia) (by lia)) h1)
 ·rcases h3 with⟨rfl,hm⟩ | ⟨rfl,hc,m0,m1⟩
  ·refine⟨p7 fun _ _ c=>c,true,fun _ _ _ _ _ _ _ _ _=>rfl,rfl,fun k k1 k6=>⟨?_,fun _=>⟨c.m,rfl,?_⟩⟩⟩
   ·exact oM xL xT xC rfl (by lia) st (IB xL xT xC Nb (by lia) (v5 k1 k6) (gw k (by lia) (by lia)) h1 hm)
   ·exact EN xL xT xC (by lia) (v5 k1 k6) (gw k (by lia) (by lia)) h1 hm
  ·refine⟨.tup [],false,fun _ _ _ _ _ _ _ _ _=>rfl,rfl,fun k k1 k6=>⟨?_,fun z=>by cases z⟩⟩;obtain⟨L,e,_⟩:=BZ n k n10 k1 k6 r hr (by lia) c hc m0 m1;exact zl xL xT xC (by lia) st (EO xL xT xC e)
noncomputable def uG:FS:=(aI (sA 7 ER)
  (aI (sA 8 (eFm mJ 2 []))
  (aI (sIf (fK (tV (eF (a_ xL xT xC) [(eV 3),(eV 4),(eV 8),(eV 5),(eV 7)]))) (sR (eC (.bl false))) sNx)
  (aI (sIf (g8 (tV (e2 gEq (eV 6) (eC (.str [97,103,97,105,110])))) (tV (e2 gNe (eF (bL xL xT xC) [(eV 3),(eV 4),(eV 8),(eV 5)]) (e2 gIx (eV 5) (eC (.int 0)))))) (sR (eC (.bl false))) sNx)
  (sIf (fK (tV (eF (a_ xL xT xC) [(eV 3),(eV 4),(eFm jy 2 []),(eV 5),(bw [(eC (.bl true)),(eC (.bl false)),(eC (.bl false)),(eC (.bl false))])]))) (sR (eC (.bl false))) sNx)))))
theorem ES(ns:Dat)(x:Int){n k:Nat}{r:List Tie}{t due ok d3 d4 d5:Dat}{c9:Cell}(q1:∀a b c d e f g i j:Cell,ER [a,b,c,d,e,f,.sh (.str w),g,i,j]=some (.val due,[a,b,c,d,e,f,.sh (.str w),g,i,j]))(q2:gEq (.str w) (.str jM)=some (.val (.bl ag)))
  (e4:mJ [d3]=some (.val (.int (k:Nat)),d4)) (q4:a_ xL xT xC [.int (n:Nat),aO r,.int (k:Nat),t,due]=some (.val (.bl true))) (q5:ag=true->∃m:Int,gIx t (.int 0)=some (.val (.int m))/\bL xL xT xC [.int (n:Nat),aO r,.int (k:Nat),t]=some (.val (.int m)))
  (e5:jy [d4]=some (.val ok,d5)) (q6:a_ xL xT xC [.int (n:Nat),aO r,ok,t,p7 fun a _ _=>a]=some (.val (.bl true))) {c7 c8:Cell} {N:Env->Prop} {R:RV->Env->Prop} {B C:Env->Prop} (nx:∀c2 c3 c4 c5 c6 c7 c8,N [.sh ns,.sh (.int x),c2,c3,c4,c5,c6,c7,c8,c9]) :
  Ws (uG xL xT xC) [.sh ns,.sh (.int x),.ow d3,.sh (.int (n:Nat)),.sh (aO r),.sh t,.sh (.str w),c7,c8,c9] N R B C:=by
 unfold uG;refine QZ (Q4 ⟨_,_,q1 _ _ _ _ _ _ _ _ _,Q3 ?_ (by trivial)⟩ (by decide));refine QZ (Q4 (Rq (O_ (Ro e4 ?_ rfl rfl (by trivial))) rfl) (by decide));refine Q3 ?_ (by trivial);refine QZ (Ra (Rw (Q7 (Rb (m_ (N_ rfl (m_ (N_ rfl (m_ (N_ rfl (m_ (N_ rfl (m_ (N_ rfl (O_ (Q9 q4 (Q2 (Ri (Q8 ?_))) rfl rfl))))))))))))))));have last:∀(cs:Unit),Ws (sIf (fK (tV (eF (a_ xL xT xC) [(eV 3),(eV 4),(eFm jy 2 []),(eV 5),(bw [(eC (.bl true)),(eC (.bl false)),(eC (.bl false)),(eC (.bl false))])]))) (sR (eC (.bl false))) sNx) [.sh ns,.sh (.int x),.ow d4,.sh (.int (n:Nat)),.sh (aO r),.sh t,.sh (.str w),.sh due,.sh (.int (k:Nat)),c9] N R B C:=fun _=>by refine Ra (Rw (Q7 (Rb (m_ (N_ rfl (m_ (N_ rfl (m_ (Rq (O_ (Ro e5 ?_ rfl rfl (by trivial))) rfl)))))))));refine m_ (N_ rfl (m_ (Rn (m_ (P_ (m_ (P_ (m_ (P_ (m_ (P_ (O_ (Q6 ?_ rfl rfl (by exact gV rfl))))))))))))));refine O_ (Q9 q6 (Q2 (Ri (Q8 ?_))) rfl rfl);exact nx _ _ _ _ _ _ _
 refine QZ (Ra (RE (Q7 (Q0 (N_ rfl (P_ ⟨_,_,_,rfl,rfl,q2,Q2 ⟨fun g=>?_,fun g=>Ri (Q8 (last ()))⟩⟩))))));obtain⟨m,m1,m2⟩:=q5 g;refine Q7 (Q0 (Rb (m_ (N_ rfl (m_ (N_ rfl (m_ (N_ rfl (m_ (N_ rfl (O_ (Q9 m2 ?_ rfl rfl))))))))))));refine Q0 (N_ rfl (P_ (Q5 (v:=.int m) ?_ rfl rfl m1)));exact RU (Q2 (RB (by simp) (Q8 (last ())))) rfl rfl
theorem ET(ns:Dat)(x:Int){n k:Nat}{r:List Tie}{t due ok d3 d4 d5:Dat}{c9:Cell}(q1:∀a b c d e f g i j:Cell,ER [a,b,c,d,e,f,.sh (.str w),g,i,j]=some (.val due,[a,b,c,d,e,f,.sh (.str w),g,i,j]))(q2:gEq (.str w) (.str jM)=some (.val (.bl ag)))
  (e4:mJ [d3]=some (.val (.int (k:Nat)),d4)) (q4:a_ xL xT xC [.int (n:Nat),aO r,.int (k:Nat),t,due]=some (.val (.bl true))) (q5:ag=true->∃m:Int,gIx t (.int 0)=some (.val (.int m))/\bL xL xT xC [.int (n:Nat),aO r,.int (k:Nat),t]=some (.val (.int m)))
  (e5:jy [d4]=some (.val ok,d5)) (q6:a_ xL xT xC [.int (n:Nat),aO r,ok,t,p7 fun a _ _=>a]=some (.val (.bl true))) {c7 c8:Cell} {N:Env->Prop} {R:RV->Env->Prop} {B C:Env->Prop} (nx:∀c2 c3 c4 c5 c6 c7 c8,N [.sh ns,.sh (.int x),c2,c3,c4,c5,c6,c7,c8,c9]) :
  Ws (uG xL xT xC) [.sh ns,.sh (.int x),.ow d3,.sh (.int (n:Nat)),.ow (aO r),.sh t,.sh (.str w),c7,c8,c9] N R B C:=by
 unfold uG;refine QZ (Q4 ⟨_,_,q1 _ _ _ _ _ _ _ _ _,Q3 ?_ (by trivial)⟩ (by decide));refine QZ (Q4 (Rq (O_ (Ro e4 ?_ rfl rfl (by trivial))) rfl) (by decide));refine Q3 ?_ (by trivial);refine QZ (Ra (Rw (Q7 (Rb (m_ (N_ rfl (m_ (Rf rfl (m_ (N_ rfl (m_ (N_ rfl (m_ (N_ rfl (O_ (Q9 q4 (Q2 (Ri (Q8 ?_))) rfl rfl))))))))))))))));have last:∀(cs:Unit),Ws (sIf (fK (tV (eF (a_ xL xT xC) [(eV 3),(eV 4),(eFm jy 2 []),(eV 5),(bw [(eC (.bl true)),(eC (.bl false)),(eC (.bl false)),(eC (.bl false))])]))) (sR (eC (.bl false))) sNx) [.sh ns,.sh (.int x),.ow d4,.sh (.int (n:Nat)),.ow (aO r),.sh t,.sh (.str w),.sh due,.sh (.int (k:Nat)),c9] N R B C:=fun _=>by refine Ra (Rw (Q7 (Rb (m_ (N_ rfl (m_ (Rf rfl (m_ (Rq (O_ (Ro e5 ?_ rfl rfl (by trivial))) rfl)))))))));refine m_ (N_ rfl (m_ (Rn (m_ (P_ (m_ (P_ (m_ (P_ (m_ (P_ (O_ (Q6 ?_ rfl rfl (by exact gV rfl))))))))))))));refine O_ (Q9 q6 (Q2 (Ri (Q8 ?_))) rfl rfl);exact nx _ _ _ _ _ _ _
 refine QZ (Ra (RE (Q7 (Q0 (N_ rfl (P_ ⟨_,_,_,rfl,rfl,q2,Q2 ⟨fun g=>?_,fun g=>Ri (Q8 (last ()))⟩⟩))))));obtain⟨m,m1,m2⟩:=q5 g;refine Q7 (Q0 (Rb (m_ (N_ rfl (m_ (Rf rfl (m_ (N_ rfl (m_ (N_ rfl (O_ (Q9 m2 ?_ rfl rfl))))))))))));refine Q0 (N_ rfl (P_ (Q5 (v:=.int m) ?_ rfl rfl m1)));exact RU (Q2 (RB (by simp) (Q8 (last ())))) rfl rfl
theorem LC:vO xL xT xC=(aI (sA 2 (eF qL [(eV 1)])) (aI (sA 3 (eFm qM 2 [])) (aI (sA 4 (eFm qO 2 [(eV 3),(eC (.int 8))])) (aI (sU [5,6] (eFm qP 2 [(eV 3),(eV 4)])) (uG xL xT xC))))):=rfl
include Nb in
theorem EU(ns:Dat)(x:Int)(c2 c3 c4 c5 c6 c7 c8 c9:Cell){N:Env->Prop}{R:RV->Env->Prop}{B C:Env->Prop}(nx:∀c2 c3 c4 c5 c6 c7 c8,N [.sh ns,.sh (.int x),c2,c3,c4,c5,c6,c7,c8,c9]):Ws (vO xL xT xC) [.sh ns,.sh (.int x),c2,c3,c4,c5,c6,c7,c8,c9] N R B C:=by
 obtain⟨d0,e0,b0,p0⟩:=BV x;obtain⟨n,d1,e1,⟨n1,n10⟩,p1⟩:=zb (b:=999998) p0;obtain⟨r,d2,e2',⟨hr,hl,hm⟩,p2⟩:=BR (b:=999596) p1 n n1 n10 8 (by decide) (by decide);obtain⟨t,w,d3,e3,ch,p3⟩:=zk (b:=999586) p2 n n1 n10 r hr hl hm;obtain⟨due,ag,q1,q2,q3⟩:=zm xL xT xC Nb n10 hr hl ch;obtain⟨k,d4,e4,⟨k1,k6⟩,p4⟩:=BP (b:=999584) p3;obtain⟨q4,q5⟩:=q3 k k1 k6;obtain⟨ok,d5,e5,lk,p5⟩:=rT (b:=999583) p4;have q6:=oM xL xT xC (n:=.int (n:Nat)) (rs:=r) rfl (by lia) ch.str (Iz xL xT xC (n:=.int (n:Nat)) (r:=aO r) (t:=t) lk);rw[LC];refine QZ (Q4 (Rb (m_ (N_ rfl (O_ (Ru e0 ?_ rfl b0 rfl rfl))))) (by decide));refine Rl ?_ (by trivial);refine QZ (Q4 (Rq (O_ (Ro e1 ?_ rfl rfl (by trivial))) rfl) (by decide));refine Q3 ?_ (by trivial);refine QZ (Q4 (Rq (m_ (N_ rfl (m_ (P_ (O_ (Ro e2' ?_ rfl rfl (by trivial))))))) rfl) (by decide));refine Rl ?_ (by trivial);refine QZ (R9 (Rq (m_ (N_ rfl (m_ (Rf rfl (O_ ⟨_,_,_,_,_,_,rfl,rfl,rfl,e3,?_⟩))))) rfl));split
 ·refine Rg ⟨_,_,rfl,rfl,?_⟩;exact ET xL xT xC ns x q1 q2 e4 q4 q5 e5 q6 nx
 ·refine Rg ⟨_,_,rfl,rfl,?_⟩;exact ES xL xT xC ns x q1 q2 e4 q4 q5 e5 q6 nx
end
end
noncomputable def uH:List Tie:=(NS 59).map fun i:Nat=>⟨1+(i:Int),0,1⟩
noncomputable def chk(x:Option RV)(a b c d e f:Int):Bool:=match x with
 |some (.new (.lst [.tup [.int a',.int b',.int c'],.tup [.int d',.int e',.int f']]))=>a == a'&&b == b'&&c == c'&&d == d'&&e == e'&&f == f'
 |_=>false
theorem Cb{x:Option RV}{a b c d e f:Int}(h:chk x a b c d e f=true):x=some (.new (.lst [.tup [.int a,.int b,.int c],.tup [.int d,.int e,.int f]])):=by
 unfold chk at h;split at h
 ·simp only[NF,beq_iff_eq]at h;obtain⟨⟨⟨⟨⟨rfl,rfl⟩,rfl⟩,rfl⟩,rfl⟩,rfl⟩:=h;rfl
 ·cases h
theorem mv0:fh [.int 2,aO uH,.int 1,aL ⟨0,0,1⟩]=some (.new (.lst [.tup [.int 0,.int 0,.int 1],.tup [.int 0,.int 1,.int 0]])):=Cb (by decide +kernel)
theorem Nf:fh [.int 2,aO uH,.int 1,aL ⟨60,0,1⟩]=some (.new (.lst [.tup [.int 60,.int 0,.int 1],.tup [.int 59,.int 1,.int 0]])):=Cb (by decide +kernel)
theorem EV{ρ:Env}:iR2 (eC (.int 1)) (eC (.int 60)) ρ=some ((NS 59).map fun i:Nat=>Dat.int (1+(i:Int)),ρ):=rfl
theorem math(xL xT xC:Nat)(Nb:xL≠xT/\xL≠xC/\xT≠xC)(ns:List Int)(h:ns.length<=63):oE xL xT xC [.lst (ns.map Dat.int)]=some (.val (.bl true)):=by
 apply Rk;unfold oE
 (refine Dm.Rc ?_ rfl rfl;and_intros)
 refine QZ (Rz (SM (Q0 (Rx (m_ (P_ (O_ (Q6 ?_ rfl rfl (by decide)))))))));refine N_ rfl (R8 (xs:=[0]) (ys:=ns) ?_ rfl rfl (by exact sz (by simp;lia)));refine RT ⟨_,rfl,?_⟩;refine RC Dat.int _ _ ([0]++ns) _ _ _ _ _ (fun p q ρ=>∃c1 c2 c3 c4 c5 c6 c7 c8:Cell,ρ=[.sh (.lst (ns.map Dat.int)),c1,c2,c3,c4,c5,c6,c7,c8,.un]) ⟨_,_,_,_,_,_,_,_,rfl⟩ ?_ ?_
 ·rintro p i q ρ e ⟨c1,c2,c3,c4,c5,c6,c7,c8,rfl⟩;refine Dm.fY rfl (by trivial) ?_;exact EU xL xT xC Nb _ _ _ _ _ _ _ _ _ _ fun c2 c3 c4 c5 c6 c7 c8=>⟨_,_,_,_,_,_,_,_,rfl⟩
 ·rintro ρ ⟨c1,c2,c3,c4,c5,c6,c7,c8,rfl⟩;refine QZ (Q4 (Si (fun i:Nat=>Dat.int (1+(i:Int))) (NS 59) (fun i:Nat=>(⟨1+(i:Int),0,1⟩:Tie)) aL ?_ EV rfl (by decide) (by rw[N4];exact sz (by decide)) fun i _=>?_) (by decide))
  ·refine Rl (ρ2:=[.sh (.lst (ns.map Dat.int)),c1,c2,c3,c4,c5,c6,c7,c8,.ow (aO uH)]) ?_ rfl;refine QZ (Ra (Q7 (Q0 (Rb (m_ (P_ (m_ (Rm (m_ (Rf rfl (O_ (RJ (xs:=uH.map aL) ?_ rfl))))))))))) );refine m_ (P_ (m_ (Rn (m_ (P_ (m_ (P_ (m_ (P_ (O_ (Q6 ?_ rfl rfl (by exact gV rfl))))))))))));refine O_ (Ru mv0 ?_ rfl rfl rfl rfl);refine Rx (m_ (Rn (m_ (P_ (m_ (P_ (m_ (P_ (O_ (Q6 ?_ rfl rfl (by exact gV rfl)))))))))));refine m_ (Rn (m_ (P_ (m_ (P_ (m_ (P_ (O_ (Q6 ?_ rfl rfl (by exact gV rfl))))))))));refine O_ (Q6 ⟨_,_,_,rfl,rfl,(show gNe (.lst [.tup [.int 0,.int 0,.int 1],.tup [.int 0,.int 1,.int 0]]) (.lst [.tup [.int 0,.int 0,.int 1],.tup [.int 0,.int 1,.int 0]])=some (.val (.bl false)) from rfl),Q2 (Ri (Q8 ?_))⟩ rfl rfl (by exact gV rfl));refine Q_ (Q0 (Rb (m_ (P_ (m_ (Rm (m_ (Rf rfl (O_ (RJ (xs:=uH.map aL) ?_ rfl))))))))));refine m_ (P_ (m_ (Rn (m_ (P_ (m_ (P_ (m_ (P_ (O_ (Q6 ?_ rfl rfl (by exact gV rfl))))))))))));refine O_ (Ru Nf ?_ rfl rfl rfl rfl);refine Rx (m_ (Rn (m_ (P_ (m_ (P_ (m_ (P_ (O_ (Q6 ?_ rfl rfl (by exact gV rfl)))))))))));refine m_ (Rn (m_ (P_ (m_ (P_ (m_ (P_ (O_ (Q6 ?_ rfl rfl (by exact gV rfl))))))))));exact O_ (Q6 ⟨_,_,_,rfl,rfl,(show gEq (.lst [.tup [.int 60,.int 0,.int 1],.tup [.int 59,.int 1,.int 0]]) (.lst [.tup [.int 60,.int 0,.int 1],.tup [.int 59,.int 1,.int 0]])=some (.val (.bl true)) from rfl),Rp rfl⟩ rfl rfl (by exact gV rfl))
  ·exact Rn (m_ (N_ rfl (m_ (P_ (m_ (P_ (O_ (Q6 (Rg ⟨rfl,rfl⟩) rfl rfl (by exact gV rfl)))))))))
end P
namespace Q
open PySem L2 Br Dm P
noncomputable def top(i:Nat):Stmt:=PySem.Challenge.pw_sinceply_k16_moves_refused.main.body.getD i (.Pass ⟨0,0,0,0⟩)
noncomputable def fH:Stmt:=match top 12 with
 |.ClassDef _ _ _ b _ _ _ _ _ _ _=>b.getD 0 (.Pass ⟨0,0,0,0⟩)
 |_=>.Pass ⟨0,0,0,0⟩
structure Txt(mg:Str->Option Value)(K:eg)(base:Heap)(v_ wc we wg wj wk wm uI wo wu mQ oN oO jz oQ oR oS oU oV oW oX oY oZ o7 b_ bY o8 cP o9 av bx ak bP bz bf aU bQ bA aH aV bB cQ:Addr)(gB o_ pe pq pA pB pC pD mR pF pG iO jN jO gb jP jQ jR jS jT jU jV jW jX jY bZ bR jZ cz l6:FuncData):Prop where
 e8:mg "Clash" = some (.ref av)
 d8:mg "NoDeed" = some (.ref bx)
 cA:mg "NoLayers" = some (.ref ak)
 fE:mg "NoNet" = some (.ref bP)
 d9:mg "NoPair" = some (.ref bz)
 c_:mg "NoPaper" = some (.ref bf)
 cB:mg "NoPlaces" = some (.ref aU)
 fF:mg "NoRow" = some (.ref bQ)
 d_:mg "NoText" = some (.ref bA)
 er:mg "NoTies" = some (.ref aH)
 gP:mg "PlyError" = some (.ref aV)
 ez:mg "Unlike" = some (.ref bB)
 rX:PyProof.Rows.OwnCls "NoLayers" ak bmV "ValueError.__new__" mg base
 aZ:mF K ak
 wz:PyProof.Rows.OwnCls "NoTies" aH bmV "ValueError.__new__" mg base
 bu:mF K aH
 uJ:Ef "Clash" av cQ bmV "ValueError.__new__" K mg base
 Cc:PB K av=true
 uK:N1 K (.ref av) "moment" = some none
 Cd:N1 K (.ref av) "__setattr__" = some (some (.builtin "object.__setattr__"))
 Ce:PD K (.ref aV) "__getattribute__" = some (some (.builtin "type.__getattribute__"))
 Cf:QI K aV (.type "type")=true
 Cg:QJ K (.ref aV) (.type "type") "__init__" = some (.val (.builtin "ValueError.__init__"))
 bG:mF K av
 dm:NK K (.ref av) (.type "ValueError")=some true
 cC:NK K (.ref ak) (.type "ValueError")=some true
 cR:NK K (.ref aH) (.type "ValueError")=some true
 pH:PySem.W.fW K av av
 lz:PySem.W.fW K av aV
 iP:PySem.W.fW K ak aV
 j3:PySem.W.fW K aH aV
 fO:NK K (.ref av) (.ref av)=some true
 eE:NK K (.ref av) (.ref ak)=some false
 fq:NK K (.ref av) (.ref aH)=some false
 eG:NK K (.ref ak) (.ref av)=some false
 cS:NK K (.ref ak) (.ref ak)=some true
 dQ:NK K (.ref ak) (.ref aH)=some false
 fu:NK K (.ref aH) (.ref av)=some false
 dR:NK K (.ref aH) (.ref ak)=some false
 eW:NK K (.ref aH) (.ref aH)=some true
 aD:OQ K (.ref av) (([bx,bP,bz,bf,aU,bQ,bA,bB]:List Addr).map NN)=some false
 az:OQ K (.ref ak) (([bx,bP,bz,bf,aU,bQ,bA,bB]:List Addr).map NN)=some false
 aC:OQ K (.ref aH) (([bx,bP,bz,bf,aU,bQ,bA,bB]:List Addr).map NN)=some false
 bU:mg "ValueError" = none
 FU:mg "abs" = none
 IE:mg "bool" = none
 uL:mg "enumerate" = none
 FW:mg "int" = none
 ah:mg "isinstance" = none
 mS:mg "len" = none
 l7:mg "list" = none
 LD:mg "max" = none
 FY:mg "min" = none
 gQ:mg "range" = none
 pI:mg "reversed" = none
 FZ:mg "str" = none
 EW:mg "tuple" = none
 LF:mg "zip" = none
 Ng:mg "is_whole" = some (.ref v_)
 IF:mg "is_within" = some (.ref wc)
 LG:mg "is_place" = some (.ref we)
 LH:mg "is_layers" = some (.ref wg)
 Nh:mg "is_moment" = some (.ref wj)
 Ni:mg "is_tie_either_way" = some (.ref wk)
 EX:mg "is_tie" = some (.ref wm)
 wA:mg "look_at_layers" = some (.ref uI)
 Nj:mg "merged" = some (.ref wo)
 Nk:mg "least_layer" = some (.ref wu)
 F0:mg "layered" = some (.ref mQ)
 LJ:mg "forest_way" = some (.ref oN)
 LK:mg "oldest_of_ring" = some (.ref oO)
 mT:mg "moves" = some (.ref jz)
 LL:mg "_law_begun" = some (.ref oQ)
 dh:mg "_law_take" = some (.ref oR)
 LM:mg "_law_wide" = some (.ref oS)
 LN:mg "_law_places" = some (.ref oU)
 LO:mg "_law_depth" = some (.ref oV)
 F1:mg "_law_ends" = some (.ref oW)
 LP:mg "_law_drawn_ties" = some (.ref oX)
 LQ:mg "_law_new_tie" = some (.ref oY)
 LR:mg "_law_odd_tie" = some (.ref oZ)
 LS:mg "_law_odd_depth" = some (.ref o7)
 p8:mg "_law_told_of" = some (.ref b_)
 pJ:mg "_law_field_of" = some (.ref bY)
 LU:mg "_law_chosen" = some (.ref o8)
 mU:mg "_law_right" = some (.ref cP)
 Nn:mg "law" = some (.ref o9)
 lA:Fun K "__init__" "Clash.__init__" fH cQ gB
 LV:Fun K "is_whole" "is_whole" (top 14) v_ o_
 IG:Binds K o_ ["thing"] []
 EY:Fun K "is_within" "is_within" (top 15) wc pe
 Ci:Binds K pe ["thing","low","high"] []
 II:Fun K "is_place" "is_place" (top 16) we pq
 IJ:Fun K "is_layers" "is_layers" (top 17) wg pA
 LW:Fun K "is_moment" "is_moment" (top 18) wj pB
 EZ:Binds K pq ["n","thing"] []
 IK:Binds K pB ["thing"] []
 LX:Fun K "is_tie_either_way" "is_tie_either_way" (top 19) wk pC
 IL:Binds K pC ["n","thing"] []
 Cj:Fun K "is_tie" "is_tie" (top 20) wm pD
 E1:Binds K pA ["thing"] []
 rY:Fun K "look_at_layers" "look_at_layers" (top 21) uI mR
 LY:Fun K "merged" "merged" (top 23) wo pF
 LZ:Fun K "least_layer" "least_layer" (top 26) wu pG
 rZ:Binds K mR ["k"] []
 IM:Binds K pF ["groups","a","b"] []
 IP:Binds K pG ["layers","a","b"] []
 x6:Fun K "layered" "layered" (top 25) mQ iO
 F2:Fun K "forest_way" "forest_way" (top 28) oN jN
 Ck:Binds K jN ["ties","a","b"] []
 F3:Fun K "oldest_of_ring" "oldest_of_ring" (top 31) oO jO
 zo:Binds K pD ["n","thing"] []
 x8:Binds K iO ["n","record","k"] []
 Cn:Binds K jO ["layer","comer"] []
 gZ:Fun K "moves" "moves" (top 30) jz gb
 pK:Binds K gB ["self","moment"] []
 F4:Fun K "_law_begun" "_law_begun" (top 33) oQ jP
 cT:Fun K "_law_take" "_law_take" (top 34) oR jQ
 cM:Binds K jQ ["pot","size"] []
 F5:Fun K "_law_wide" "_law_wide" (top 35) oS jR
 F6:Fun K "_law_places" "_law_places" (top 36) oU jS
 F7:Fun K "_law_depth" "_law_depth" (top 37) oV jT
 Co:Fun K "_law_ends" "_law_ends" (top 38) oW jU
 Cp:Binds K jR ["pot","size"] []
 x9:Binds K jU ["pot","n","ties"] []
 F8:Fun K "_law_drawn_ties" "_law_drawn_ties" (top 39) oX jV
 F9:Fun K "_law_new_tie" "_law_new_tie" (top 40) oY jW
 F_:Fun K "_law_odd_tie" "_law_odd_tie" (top 41) oZ jX
 Ga:Fun K "_law_odd_depth" "_law_odd_depth" (top 42) o7 jY
 jA:Binds K gb ["n","record","k","tie"] []
 jB:Fun K "_law_told_of" "_law_told_of" (top 43) b_ bZ
 iQ:Fun K "_law_field_of" "_law_field_of" (top 44) bY bR
 Cq:Binds K jW ["pot","n","ties"] []
 Cr:Binds K jX ["pot","n"] []
 Gb:Fun K "_law_chosen" "_law_chosen" (top 45) o8 jZ
 gf:Binds K bZ ["n","ties","k","tie"] []
 iR:Fun K "_law_right" "_law_right" (top 46) cP cz
 Cs:Binds K jP ["cell"] []
 Ct:Binds K jS ["pot"] []
 Cu:Binds K jT ["pot"] []
 Cv:Binds K jV ["pot","n","most"] []
 Cw:Binds K jY ["pot"] []
 fP:Binds K bR ["n","ties","k","tie"] []
 Cy:Binds K jZ ["pot","n","ties"] []
 fZ:Binds K cz ["n","ties","k","tie","due"] []
 L5:Fun K "law" "law" (top 47) o9 l6
section
variable{P':Program}{w:World}{K:eg}{mg:Str->Option Value}{base:Heap}{v_ wc we wg wj wk wm uI wo wu mQ oN oO jz oQ oR oS oU oV oW oX oY oZ o7 b_ bY o8 cP o9 av bx ak bP bz bf aU bQ bA aH aV bB cQ:Addr}
variable{gB o_ pe pq pA pB pC pD mR pF pG iO jN jO gb jP jQ jR jS jT jU jV jW jX jY bZ bR jZ cz l6:FuncData}
theorem zp:aP ["self","moment"] ["self","moment"] (ai fH):=fsc
theorem L6:aP ["thing"] ["thing"] (ai (top 14)):=fsc
theorem L7:aP ["thing","low","high"] ["thing","low","high"] (ai (top 15)):=fsc
theorem L8:aP ["n","thing"] ["n","thing"] (ai (top 16)):=fsc
theorem L_:aP ["thing"] ["thing"] (ai (top 17)):=fsc
theorem Ma:aP ["thing"] ["thing"] (ai (top 18)):=fsc
theorem Mb:aP ["n","thing"] ["n","thing"] (ai (top 19)):=fsc
theorem Mc:aP ["n","thing"] ["n","thing"] (ai (top 20)):=fsc
theorem Gd:aP ["k"] ["k"] (ai (top 21)):=fsc
theorem Me:aP ["groups","a","b"] ["groups","a","b"] (ai (top 23)):=fsc
theorem IQ:(["groups","a","b","group"]:List Str).Nodup:=by decide +kernel
theorem Cz:aP ["layers","a","b","at","groups"] ["layers","a","b"] (ai (top 26)):=fsc
theorem iU:aP ["n","record","k","layers","numbers","moment","a","b","number"] ["n","record","k"] (ai (top 25)):=fsc
theorem E2:(["n","record","k","layers","numbers","moment","a","b","number","layer"]:List Str).Nodup:=by decide +kernel
theorem iV:aP ["ties","a","b","ways","pending","place","moment","first","second","other"] ["ties","a","b"] (ai (top 28)):=fsc
theorem CA:aP ["layer","comer","way"] ["layer","comer"] (ai (top 31)):=fsc
theorem E3:(["layer","comer","way","tie"]:List Str).Nodup:=by decide +kernel
theorem fQ:aP ["n","record","k","tie","numbers","told","comer","j","layer"] ["n","record","k","tie"] (ai (top 30)):=fsc
theorem E4:(["n","record","k","tie","numbers","told","comer","j","layer","other"]:List Str).Nodup:=by decide +kernel
theorem x_:(["n","record","k","tie","numbers","told","comer","j","layer","other","number"]:List Str).Nodup:=by decide +kernel
theorem E5:(["n","record","k","tie","numbers","told","comer","j","layer","other"]:List Str).Nodup:=by decide +kernel
theorem E6:(["n","record","k","tie","numbers","told","comer","j","layer","other"]:List Str).Nodup:=by decide +kernel
theorem wB:aP ["cell","rest"] ["cell"] (ai (top 33)):=fsc
theorem r8:aP ["pot","size","digit","mixed"] ["pot","size"] (ai (top 34)):=fsc
theorem r9:aP ["pot","size","number","turn"] ["pot","size"] (ai (top 35)):=fsc
theorem IS:aP ["pot"] ["pot"] (ai (top 36)):=fsc
theorem IT:aP ["pot"] ["pot"] (ai (top 37)):=fsc
theorem l8:aP ["pot","n","ties","a","b","moment"] ["pot","n","ties"] (ai (top 38)):=fsc
theorem gR:aP ["pot","n","most","moment","found","turn","step","a","b"] ["pot","n","most"] (ai (top 39)):=fsc
theorem iW:aP ["pot","n","ties","some","moment","turn","a","b"] ["pot","n","ties"] (ai (top 40)):=fsc
theorem E7:(["pot","n","ties","some","moment","turn","a","b","tie"]:List Str).Nodup:=by decide +kernel
theorem r_:aP ["pot","n","some"] ["pot","n"] (ai (top 41)):=fsc
theorem CB:aP ["pot","some"] ["pot"] (ai (top 42)):=fsc
theorem aJ:aP ["n","ties","k","tie","told","e","others"] ["n","ties","k","tie"] (ai (top 43)):=fsc
theorem dO:aP ["n","ties","k","tie","found","e"] ["n","ties","k","tie"] (ai (top 44)):=fsc
theorem sd:aP ["pot","n","ties","tie","turn","again"] ["pot","n","ties"] (ai (top 45)):=fsc
theorem fG:aP ["n","ties","k","tie","due","handed","kept","found"] ["n","ties","k","tie","due"] (ai (top 46)):=fsc
theorem gg:aP ["script","cell","pot","n","ties","tie","word","due","k","many"] ["script"] (ai (top 47)):=fsc
theorem E8:(["script","cell","pot","n","ties","tie","word","due","k","many","moment"]:List Str).Nodup:=by decide +kernel
variable(T:Txt mg K base v_ wc we wg wj wk wm uI wo wu mQ oN oO jz oQ oR oS oU oV oW oX oY oZ o7 b_ bY o8 cP o9 av bx ak bP bz bf aU bQ bA aH aV bB cQ gB o_ pe pq pA pB pC pD mR pF pG iO jN jO gb jP jQ jR jS jT jU jV jW jX jY bZ bR jZ cz l6)
include T
theorem zq :
  bH P' w K mg base CX0 1 cQ gB ["self","moment"] (rN av):=by
 obtain⟨bm,N,nm,q,bs,sn,sub,ab,col,dd,k0,k1,k2,k3,k5,hC,TT⟩:=T.uJ.obj;exact Ih T.lA zp rfl (fun cdv A outer s H E hr=>ig (kH (Bk rfl T.gP OX TT hC T.Ce T.Cf T.Cg rfl (cY (pv 0) (cY (pv 1) iu)))) (ig (K7 PySem.F.store_ValueError TT hC T.Cd T.uK (pv 0) (pv 1)) wI))
theorem Mf :
  bH P' w K mg base CX0 1 v_ o_ ["thing"] (spD Es):=
 okQ T.LV L6 fun _ _ _ _ _ _ hr=>(aN (s_r (tE (xq DL (by rfl) rfl T.FW rfl T.ah (d_v 0)) (nW (xm (xq AF (by rfl) rfl T.IE rfl T.ah (d_v 0)))))))
theorem CC :
  bH P' w K mg base CX0 2 wc pe ["thing","low","high"] (spD y9):=
 okQ T.EY L7 fun _ _ _ _ _ _ hr=>(aN (s_r (tE (bq (Mf T) (Br.hm hr) rfl T.Ng T.LV.kp T.IG (aa (d_v 0) af)) (nW (DN zQ Au zQ Au (d_v 1) (d_v 0) (d_v 2))))))
theorem Ge :
  bH P' w K mg base CX0 3 we pq ["n","thing"] (spD By):=
 okQ T.II L8 fun _ _ _ _ _ _ hr=>(aN (s_r (bq (CC T) (Br.hm hr) rfl T.IF T.EY.kp T.Ci (aa (d_v 1) (aa d_i (aa (qu (d_v 0) d_i) af))))))
theorem Gf :
  bH P' w K mg base CX0 3 wg pA ["thing"] (spD rO):=
 okQ T.IJ L_ fun _ _ _ _ _ _ hr=>(aN (s_r (bq (CC T) (Br.hm hr) rfl T.IF T.EY.kp T.Ci (aa (d_v 0) (aa d_i (aa d_i af))))))
theorem Mg :
  bH P' w K mg base CX0 3 wj pB ["thing"] (spD Et):=
 okQ T.LW Ma fun _ _ _ _ _ _ hr=>(aN (s_r (bq (CC T) (Br.hm hr) rfl T.IF T.EY.kp T.Ci (aa (d_v 0) (aa d_i (aa (kQ d_i d_i) af))))))
theorem Mh :
  bH P' w K mg base CX0 4 wk pC ["n","thing"] (spD Eu):=
 okQ T.LX Mb fun _ _ _ _ _ _ hr=>(aj (eT (t_w (w_or (kR (kT (xq kit_tuple (by rfl) rfl T.EW rfl T.ah (d_v 1)))) (AD (nV hr (mq rfl T.mS (aa (d_v 1) af)) d_i)))) (aN (s_r d_b)) ck)
  (aN (s_r (tE (bq (Mg T) (Br.hm hr) rfl T.Nh T.LW.kp T.IK (aa (b9 (d_v 1) d_i) af)) (tE (bq (Ge T) (Br.hm hr) rfl T.LG T.II.kp T.EZ (aa (d_v 0) (aa (b9 (d_v 1) d_i) af))) (nW (bq (Ge T) (Br.hm hr) rfl T.LG T.II.kp T.EZ (aa (d_v 0) (aa (b9 (d_v 1) d_i) af)))))))))
theorem ya :
  bH P' w K mg base CX0 5 wm pD ["n","thing"] (spD gM):=
 okQ T.Cj Mc fun _ _ _ _ _ _ hr=>(aN (s_r (tE (bq (Mh T) (Br.hm hr) rfl T.Ni T.LX.kp T.IL (aa (d_v 0) (aa (d_v 1) af))) (nW (MI (b9 (d_v 1) d_i) (b9 (d_v 1) d_i))))))
theorem uM :
  bH P' w K mg base CX0 4 uI mR ["k"] (spD g_):=
 okQ T.rY Gd fun _ _ _ _ _ _ hr=>(aN (eT (kR (kT (bq (Gf T) (Br.hm hr) rfl T.LH T.IJ.kp T.E1 (aa (d_v 0) af)))) (aN ji) ck))
theorem cN :
  bH P' w K mg base (CXE P' w ak) 4 uI mR ["k"] (spX ak bF):=by
 exact okY (n:=1) (m:=0) T.rY Gd rfl rfl (fun cdv A outer s H E hr=>(k7 (K1 (kR (kT (bq (Gf T) (Br.hm hr) rfl T.LH T.IJ.kp T.E1 (aa (d_v 0) af)))) (k7 (y_x (x_raise T.rX OX rfl))) K2)))
theorem Mi :
  bH P' w K mg base CX0 1 wo pF ["groups","a","b"] (spD Ew):=
 okQ T.LY Me fun _ _ _ _ _ _ hr=>(aN (s_r (tL 0 ["groups","a","b"] ["group"] (c_n 3 IQ rfl rfl) (d_v 0) (fun _ _ _ _ _=>jG) (fun _ _ _ _ _=>(Km (tw hr (d_v 3) (b9 (d_v 0) (d_v 2))) (b9 (d_v 0) (d_v 1)) (d_v 3))))))
theorem Mj :
  bH P' w K mg base CX0 1 wu pG ["layers","a","b"] (spD BA):=
 okQ T.LZ Cz fun _ _ _ _ _ _ hr=>(aj (mw OC rfl (MN rfl T.uL (d_v 0)) (g_t rfl (bS 3 Cz.nd (bS 4 Cz.nd iF)))
  (aN (eT (nV hr (b9 (d_v 4) (d_v 1)) (b9 (d_v 4) (d_v 2))) (aN (s_r (cI (d_v 3) d_i))) ck)))
  (aN (s_r d_i)))
theorem IU :
  bH P' w K mg base CX0 5 mQ iO ["n","record","k"] (spD uo):=
 okQ T.x6 iU fun _ _ _ _ _ _ hr=>(aj (s_e (bq (uM T) (Br.hm hr) rfl T.wA T.rY.kp T.rZ (aa (d_v 2) af)))
  (aj (HB 3 ["n","record","k","layers","numbers","moment","a","b","number"] ["layer"] iU.nd (c_n 9 E2 rfl rfl) (DJ rfl T.gQ (aa (d_v 2) af)) (fun _ _ _ _ _=>jG) (fun _ _ _ _ _=>(HH rfl rfl T.l7 rfl T.gQ (aa (d_v 0) af))))
  (aj (s_a 4 iU.nd (cL af))
  (aj (mw OC rfl (Kw rfl T.pI (d_v 1)) (g_t rfl (bS 5 iU.nd (bS 6 iU.nd (bS 7 iU.nd iF))))
  (aj (s_a 8 iU.nd (bq (Mj T) (Br.hm hr) rfl T.Nk T.LZ.kp T.IP (aa (d_v 3) (aa (d_v 6) (aa (d_v 7) af)))))
  (aj (eT (DH (d_v 8) d_i) (aN (AE 3 (qu (d_v 8) d_i) (bq (Mi T) (Br.hm hr) rfl T.Nj T.LY.kp T.IM (aa (b9 (d_v 3) (qu (d_v 8) d_i)) (aa (d_v 6) (aa (d_v 7) af)))))) ck)
  (aN (xo 4 (d_v 8))))))
  (aN (s_r (DU rfl rfl T.l7 rfl T.pI (d_v 4))))))))
theorem iX :
  bH P' w K mg base (CXE P' w ak) 5 mQ iO ["n","record","k"] (spX ak fB):=by
 exact okY (n:=3) (m:=6) T.x6 iU rfl rfl (fun cdv A outer s H E hr=>(k7 (y_x (A2 (x_call (cN T) (Br.hm hr) rfl T.wA T.rY.kp T.rZ A3 (aa (d_v 2) af))))))
theorem IV :
  bH P' w K mg base CX0 1 oN jN ["ties","a","b"] (spD qJ):=
 okQ T.F2 iV fun _ _ _ _ _ _ hr=>(aj (s_a 3 iV.nd (MR (d_v 1) (cL af)))
  (aj (s_a 4 iV.nd (cL (aa (d_v 1) af)))
  (aj (ML 100 OC (MU (d_v 4))
  (aj (s_a 5 iV.nd (KG 4))
  (aN (mw OC rfl (i_S (d_v 0)) (g_t rfl (bS 6 iV.nd (bS 7 iV.nd (bS 8 iV.nd iF))))
  (aj (s_a 9 iV.nd (qu (cI (d_v 7) (d_v 8)) (d_v 5)))
  (aN (eT (t_w (w_and (AA hr (d_v 5) (bg (aa (d_v 7) (aa (d_v 8) af)))) (lP (HQ hr (d_v 9) (d_v 3))))) (aj (HS 3 hr (d_v 9) (cI (MS hr (d_v 3) (d_v 5)) (cL (aa (d_v 6) af))))
  (aN (xo 4 (d_v 9)))) ck)))))))
  (aN (s_r (HR hr (d_v 3) (d_v 2)))))))
theorem IW :
  bH P' w K mg base CX0 2 oO jO ["layer","comer"] (spD qK):=
 okQ T.F3 CA fun _ _ _ _ _ _ hr=>(aj (s_a 2 CA.nd (bq (IV T) (Br.hm hr) rfl T.LJ T.F2.kp T.Ck (aa (d_v 0) (aa (b9 (d_v 1) d_i) (aa (b9 (d_v 1) d_i) af)))))
  (aj (eT (Fz (d_v 2) d_n) (aN (s_r d_n)) ck)
  (aN (s_r (Ib hr rfl rfl T.FY (aa (cI (tL 0 ["layer","comer","way"] ["tie"] (c_n 3 E3 rfl rfl) (d_v 0) (fun _ _ _ _ _=>AJ (AA hr (b9 (d_v 3) d_i) (d_v 2))) (fun _ _ _ _ _=>(d_v 3))) (cL (aa (d_v 1) af))) af))))))
theorem se :
  bH P' w K mg base CX0 6 jz gb ["n","record","k","tie"] (spD fh):=
 okQ T.gZ fQ fun _ _ _ _ _ _ hr=>(aj (s_e (bq (uM T) (Br.hm hr) rfl T.wA T.rY.kp T.rZ (aa (d_v 2) af)))
  (aj (eT (kR (kT (bq (ya T) (Br.hm hr) rfl T.EX T.Cj.kp T.zo (aa (d_v 0) (aa (d_v 3) af))))) (aN ji) ck)
  (aj (eT (AA hr (b9 (d_v 3) d_i) (tL 1 ["n","record","k","tie","numbers","told","comer","j","layer"] ["other"] (c_n 9 E4 rfl rfl) (d_v 1) (fun _ _ _ _ _=>jG) (fun _ _ _ _ _=>(b9 (d_v 9) d_i)))) (aN ji) ck)
  (aj (s_a 4 fQ.nd (bq (IU T) (Br.hm hr) rfl T.F0 T.x6.kp T.x8 (aa (d_v 0) (aa (d_v 1) (aa (d_v 2) af)))))
  (aj (s_a 5 fQ.nd (cL (aa (bg (aa (b9 (d_v 3) d_i) (aa d_i (aa d_i af)))) af)))
  (aj (s_a 6 fQ.nd (d_v 3))
  (aj (mw OC rfl (Kn rfl T.gQ (aa d_i (aa (cI (d_v 2) d_i) af))) (g_n 7 fQ.nd)
  (aj (HB 8 ["n","record","k","tie","numbers","told","comer","j","layer"] ["other","number"] fQ.nd (c_t rfl (fun _ _ _ _ _=>(bS 9 x_ (bS 10 x_ iF)))) (Kz rfl T.LF (aa (d_v 1) (aa (d_v 4) af))) (fun _ _ _ _ _=>AJ (tw hr (d_v 10) (d_v 7))) (fun _ _ _ _ _=>(d_v 9)))
  (aj (s_a 6 fQ.nd (bq (IW T) (Br.hm hr) rfl T.LK T.F3.kp T.Cn (aa (d_v 8) (aa (d_v 6) af))))
  (aj (eT (Fz (d_v 6) d_n) (aN (s_r (d_v 5))) ck)
  (aN (xo 5 (bg (aa (b9 (d_v 6) d_i) (aa (d_v 7) (aa (Km (Kl (d_v 7) (d_v 2)) (cI (d_v 7) d_i) d_i) af))))))))))
  (aN (s_r (d_v 5))))))))))
theorem j4 :
  bH P' w K mg base (CXE P' w ak) 6 jz gb ["n","record","k","tie"] (spX ak bO):=by
 exact okY (n:=4) (m:=5) T.gZ fQ rfl rfl (fun cdv A outer s H E hr=>(MX (k7 (y_x (A2 (x_call (cN T) (Br.hm hr) rfl T.wA T.rY.kp T.rZ A3 (aa (d_v 2) af))))) (xF (s_e (bq (uM T) (Br.hm hr) rfl T.wA T.rY.kp T.rZ (aa (d_v 2) af))) (xF (eT (kR (kT (bq (ya T) (Br.hm hr) rfl T.EX T.Cj.kp T.zo (aa (d_v 0) (aa (d_v 3) af))))) (aN ji) ck) (xF (eT (AA hr (b9 (d_v 3) d_i) (tL 1 ["n","record","k","tie","numbers","told","comer","j","layer"] ["other"] (c_n 9 E5 rfl rfl) (d_v 1) (fun _ _ _ _ _=>jG) (fun _ _ _ _ _=>(b9 (d_v 9) d_i)))) (aN ji) ck) (k7 (y_x (x_a 4 fQ.nd (x_call (iX T) (Br.hm hr) rfl T.F0 T.x6.kp T.x8 A3 (aa (d_v 0) (aa (d_v 1) (aa (d_v 2) af))))))))))))
theorem l9 :
  bH P' w K mg base (CXE P' w aH) 6 jz gb ["n","record","k","tie"] (spX aH cJ):=by
 exact okY (n:=4) (m:=5) T.gZ fQ rfl rfl (fun cdv A outer s H E hr=>(xF (s_e (bq (uM T) (Br.hm hr) rfl T.wA T.rY.kp T.rZ (aa (d_v 2) af))) (k7 (K1 (kR (kT (bq (ya T) (Br.hm hr) rfl T.EX T.Cj.kp T.zo (aa (d_v 0) (aa (d_v 3) af))))) (k7 (y_x (x_raise T.wz OX rfl))) K2))))
theorem g7 :
  ∀m:Int,bH P' w K mg base (CXF P' w av) 6 jz gb ["n","record","k","tie"] (spF av m (bX m)):=by
 intro m;exact okZ (n:=4) (m:=5) T.gZ fQ rfl rfl (fun cdv A outer s H E hr=>(FG (s_e (bq (uM T) (Br.hm hr) rfl T.wA T.rY.kp T.rZ (aa (d_v 2) af))) (FG (eT (kR (kT (bq (ya T) (Br.hm hr) rfl T.EX T.Cj.kp T.zo (aa (d_v 0) (aa (d_v 3) af))))) (aN ji) ck) (xJ (MZ (AA hr (b9 (d_v 3) d_i) (tL 1 ["n","record","k","tie","numbers","told","comer","j","layer"] ["other"] (c_n 9 E6 rfl rfl) (d_v 1) (fun _ _ _ _ _=>jG) (fun _ _ _ _ _=>(b9 (d_v 9) d_i)))) (xJ (Ej rfl T.uJ OX rfl (zq T) (Br.hm hr) T.pK (b9 (d_v 3) d_i))) MY)))))
theorem IX :
  bH P' w K mg base CX0 1 oQ jP ["cell"] (spD qL):=
 okQ T.F4 wB fun _ _ _ _ _ _ hr=>(aj (s_a 1 wB.nd d_i)
  (aj (eT (MK (Fy rfl T.FU (aa (d_v 0) af)) (kQ d_i d_i)) (aN (s_a 1 wB.nd (cI (qu (Fy rfl T.FU (aa (d_v 0) af)) (kQ d_i d_i)) d_i))) ck)
  (aN (s_r (cL (aa (d_v 1) (aa d_i (aa (nT (d_v 0) d_i) af))))))))
theorem b7 :
  bH P' w K mg base CX0 1 oR jQ ["pot","size"] (spM bV):=by
 refine T.cT.ok r8 (fun vs H Q E h=>dZ h) (fun cdv A outer s H vs Q E hr h=>?_);exact ⟨_,(aj (eT (DH (b9 (d_v 0) d_i) d_i) (aj (s_a 2 r8.nd (nT (b9 (d_v 0) d_i) (d_v 1)))
  (aj (AE 0 d_i (Ay (b9 (d_v 0) d_i) (d_v 1)))
  (aN (s_r (d_v 2))))) ck)
  (aj (AE 0 d_i (cI (b9 (d_v 0) d_i) d_i))
  (aj (s_a 3 r8.nd (nT (cI (cI (cI (b9 (d_v 0) d_i) (qv (qv d_i (b9 (d_v 0) d_i)) (b9 (d_v 0) d_i))) (qv d_i (b9 (d_v 0) d_i))) d_i) d_i))
  (aj (s_a 3 r8.nd (nT (qv (nT (qv (d_v 3) (d_v 3)) d_i) d_i) d_i))
  (aN (s_r (nT (Ay (d_v 3) d_i) (d_v 1)))))))),jx (n:=2) (m:=2) rfl h⟩
theorem IY :
  bH P' w K mg base CX0 2 oS jR ["pot","size"] (spM uq):=by
 refine T.F5.ok r9 (fun vs H Q E h=>dZ h) (fun cdv A outer s H vs Q E hr h=>?_);exact ⟨_,(aj (eT (t_w (w_or (DH (b9 (d_v 0) d_i) d_i) (AD (Kl (d_v 1) (kQ d_i d_i))))) (aN (s_r (aW (b7 T) (Br.hm hr) rfl T.dh T.cT.kp T.cM (aa (d_v 0) (aa (d_v 1) af))))) ck)
  (aj (s_a 2 r9.nd d_i)
  (aj (mw OC rfl (DJ rfl T.gQ (aa d_i af)) (g_n 3 r9.nd)
  (aN (s_a 2 r9.nd (cI (qv (d_v 2) d_i) (aW (b7 T) (Br.hm hr) rfl T.dh T.cT.kp T.cM (aa (d_v 0) (aa d_i af)))))))
  (aN (s_r (nT (d_v 2) (d_v 1))))))),jx (n:=2) (m:=2) rfl h⟩
theorem IZ :
  bH P' w K mg base CX0 2 oU jS ["pot"] (spM qM):=by
 refine T.F6.ok IS (fun vs H Q E h=>dZ h) (fun cdv A outer s H vs Q E hr h=>?_);exact⟨_,(aN (s_r (cI d_i (aW (b7 T) (Br.hm hr) rfl T.dh T.cT.kp T.cM (aa (d_v 0) (aa (b9 (cL (@aa _ _ _ _ _ d_i (@aa _ _ _ _ _ d_i (@aa _ _ _ _ _ d_i (@aa _ _ _ _ _ d_i (@aa _ _ _ _ _ d_i (@aa _ _ _ _ _ d_i (@aa _ _ _ _ _ d_i (@aa _ _ _ _ _ d_i af rfl) rfl) rfl) rfl) rfl) rfl) rfl) rfl)) (aW (b7 T) (Br.hm hr) rfl T.dh T.cT.kp T.cM (aa (d_v 0) (aa d_i af)))) af)))))),jx (n:=1) (m:=0) rfl h⟩
theorem I0 :
  bH P' w K mg base CX0 2 oV jT ["pot"] (spM mJ):=by
 refine T.F7.ok IT (fun vs H Q E h=>dZ h) (fun cdv A outer s H vs Q E hr h=>?_);exact⟨_,(aN (s_r (cI d_i (aW (b7 T) (Br.hm hr) rfl T.dh T.cT.kp T.cM (aa (d_v 0) (aa (b9 (cL (aa d_i (aa d_i (aa d_i (aa d_i af))))) (aW (b7 T) (Br.hm hr) rfl T.dh T.cT.kp T.cM (aa (d_v 0) (aa d_i af)))) af)))))),jx (n:=1) (m:=0) rfl h⟩
theorem CD :
  bH P' w K mg base CX0 2 oW jU ["pot","n","ties"] (spM qN):=by
 refine T.Co.ok l8 (fun vs H Q E h=>dZ h) (fun cdv A outer s H vs Q E hr h=>?_);exact ⟨_,(aj (s_a 3 l8.nd (aW (b7 T) (Br.hm hr) rfl T.dh T.cT.kp T.cM (aa (d_v 0) (aa (d_v 1) af))))
  (aj (s_a 4 l8.nd (aW (b7 T) (Br.hm hr) rfl T.dh T.cT.kp T.cM (aa (d_v 0) (aa (d_v 1) af))))
  (aj (eT (t_w (w_and (nV hr (d_v 2) (cL af)) (lP (tw hr (aW (b7 T) (Br.hm hr) rfl T.dh T.cT.kp T.cM (aa (d_v 0) (aa d_i af))) d_i)))) (aN (s_u rfl (bS 5 l8.nd (bS 3 l8.nd (bS 4 l8.nd iF))) (b9 (d_v 2) (aW (b7 T) (Br.hm hr) rfl T.dh T.cT.kp T.cM (aa (d_v 0) (aa (mq rfl T.mS (aa (d_v 2) af)) af)))))) ck)
  (aN (s_r (bg (aa (Hw rfl rfl T.FY (aa (d_v 3) (aa (d_v 4) af))) (aa (Hx rfl rfl T.LD (aa (d_v 3) (aa (d_v 4) af))) af)))))))),jx (n:=3) (m:=3) rfl h⟩
theorem I_ :
  bH P' w K mg base CX0 3 oX jV ["pot","n","most"] (spM qO):=by
 refine T.F8.ok gR (fun vs H Q E h=>dZ h) (fun cdv A outer s H vs Q E hr h=>?_);exact ⟨_,(aj (s_a 3 gR.nd (qu (aW (b7 T) (Br.hm hr) rfl T.dh T.cT.kp T.cM (aa (d_v 0) (aa d_i af))) d_i))
  (aj (s_a 4 gR.nd (cL af))
  (aj (mw OC rfl (DJ rfl T.gQ (aa (aW (b7 T) (Br.hm hr) rfl T.dh T.cT.kp T.cM (aa (d_v 0) (aa (cI (d_v 2) d_i) af))) af)) (g_n 5 gR.nd)
  (aj (s_a 6 gR.nd (aW (b7 T) (Br.hm hr) rfl T.dh T.cT.kp T.cM (aa (d_v 0) (aa d_i af))))
  (aj (s_a 3 gR.nd (cI (cI (d_v 3) d_i) (Ay (d_v 6) d_i)))
  (aj (eT (tw hr (d_v 6) d_i) (aN (s_a 3 gR.nd (cI (d_v 3) (aW (IY T) (Br.hm hr) rfl T.LM T.F5.kp T.Cp (aa (d_v 0) (aa (kQ d_i d_i) af)))))) ck)
  (aj (s_u rfl (bS 7 gR.nd (bS 8 gR.nd iF)) (aW (CD T) (Br.hm hr) rfl T.F1 T.Co.kp T.x9 (aa (d_v 0) (aa (d_v 1) (aa (d_v 4) af)))))
  (aN (xo 4 (bg (aa (d_v 3) (aa (d_v 7) (aa (d_v 8) af)))))))))))
  (aN (s_r (d_v 4)))))),jx (n:=3) (m:=6) rfl h⟩
theorem Ja :
  bH P' w K mg base CX0 3 oY jW ["pot","n","ties"] (spM ur):=by
 refine T.F9.ok iW (fun vs H Q E h=>dZ h) (fun cdv A outer s H vs Q E hr h=>?_);exact ⟨_,(aj (Ky 3 2 ["pot","n","ties","some","moment","turn","a","b"] ["tie"] iW.nd (c_n 8 E7 rfl rfl) (d_v 2) (fun _ _ _ _ _=>jG) (fun _ _ _ _ _=>(b9 (d_v 8) d_i)))
  (aj (s_a 4 iW.nd (aW (b7 T) (Br.hm hr) rfl T.dh T.cT.kp T.cM (aa (d_v 0) (aa d_i af))))
  (aj (eT (t_w (w_and (nV hr (d_v 3) (cL af)) (lP (DH (aW (b7 T) (Br.hm hr) rfl T.dh T.cT.kp T.cM (aa (d_v 0) (aa d_i af))) d_i)))) (aN (s_a 4 iW.nd (cI (b9 (d_v 3) (aW (b7 T) (Br.hm hr) rfl T.dh T.cT.kp T.cM (aa (d_v 0) (aa (mq rfl T.mS (aa (d_v 3) af)) af)))) (aW (b7 T) (Br.hm hr) rfl T.dh T.cT.kp T.cM (aa (d_v 0) (aa d_i af)))))) ck)
  (aj (mw OC rfl (DJ rfl T.gQ (aa (cI (mq rfl T.mS (aa (d_v 3) af)) d_i) af)) (g_n 5 iW.nd)
  (aN (s_a 4 iW.nd (cI (d_v 4) (Kq rfl T.FW (aa (MJ hr (d_v 4) (d_v 3)) af))))))
  (aj (s_u rfl (bS 6 iW.nd (bS 7 iW.nd iF)) (aW (CD T) (Br.hm hr) rfl T.F1 T.Co.kp T.x9 (aa (d_v 0) (aa (d_v 1) (aa (d_v 2) af)))))
  (aN (s_r (bg (aa (d_v 4) (aa (d_v 6) (aa (d_v 7) af))))))))))),jx (n:=3) (m:=5) rfl h⟩
theorem Jb :
  bH P' w K mg base CX0 2 oZ jX ["pot","n"] (spM uu):=by
 refine T.F_.ok r_ (fun vs H Q E h=>dZ h) (fun cdv A outer s H vs Q E hr h=>?_);exact ⟨_,(@aj _ _ _ _ _ (@s_a _ _ _ _ 2 _ _ r_.nd (@cL _ _ _ _ (@aa _ _ _ _ _ d_n (@aa _ _ _ _ _ d_i (@aa _ _ _ _ _ d_s (@aa _ _ _ _ _ (cL (aa d_i (aa d_i (aa d_i af)))) (@aa _ _ _ _ _ (bg (aa d_i (aa d_i af))) (@aa _ _ _ _ _ (bg (aa d_i (aa d_i (aa d_i (aa d_i af))))) (@aa _ _ _ _ _ (bg (aa (xj d_i) (aa d_i (aa d_i af)))) (@aa _ _ _ _ _ (bg (aa (cI (kQ d_i d_i) d_i) (aa d_i (aa d_i af)))) (@aa _ _ _ _ _ (bg (aa d_b (aa d_i (aa d_i af)))) af rfl) rfl) rfl) rfl) rfl) rfl) rfl) rfl) rfl)) rfl (by trivial) rfl (by trivial))
  (@aj _ _ _ _ _ (@s_a _ _ _ _ 2 _ _ r_.nd (@cI _ _ _ _ _ _ (d_v 2) (@cL _ _ _ _ (@aa _ _ _ _ _ (bg (aa d_i (aa d_b (aa d_i af)))) (@aa _ _ _ _ _ (bg (aa d_i (aa d_i (aa d_b af)))) (@aa _ _ _ _ _ (bg (aa d_i (aa d_i (aa (d_v 1) af)))) (@aa _ _ _ _ _ (bg (aa d_i (aa (xj d_i) (aa d_i af)))) (@aa _ _ _ _ _ (bg (aa d_s (aa d_i (aa d_i af)))) (@aa _ _ _ _ _ (bg (aa d_i (aa d_n (aa d_i af)))) (@aa _ _ _ _ _ (bg (aa (bg (aa d_i af)) (aa d_i (aa d_i af)))) af rfl) rfl) rfl) rfl) rfl) rfl) rfl))) rfl (by trivial) rfl (by trivial))
  (@aj _ _ _ _ _ (@s_a _ _ _ _ 2 _ _ r_.nd (@cI _ _ _ _ _ _ (d_v 2) (@cL _ _ _ _ (@aa _ _ _ _ _ KC (@aa _ _ _ _ _ (bg af) (@aa _ _ _ _ _ (cL af) (@aa _ _ _ _ _ d_s (@aa _ _ _ _ _ (bg (aa d_i (aa d_i (aa d_i af)))) (@aa _ _ _ _ _ (bg (aa d_i (aa d_i (aa d_s af)))) (@aa _ _ _ _ _ (bg (aa (bg (aa d_i (aa d_i (aa d_i af)))) af)) (@aa _ _ _ _ _ d_b (@aa _ _ _ _ _ (bg (aa d_i (aa d_i (aa (kQ d_i d_i) af)))) (@aa _ _ _ _ _ (bg (aa d_i (aa (d_v 1) (aa (d_v 1) af)))) af rfl) rfl) rfl) rfl) rfl) rfl) rfl) rfl) rfl) rfl))) rfl (by trivial) rfl (by trivial))
  (aN (s_r (b9 (d_v 2) (aW (b7 T) (Br.hm hr) rfl T.dh T.cT.kp T.cM (aa (d_v 0) (aa (mq rfl T.mS (aa (d_v 2) af)) af))))))))),jx (n:=2) (m:=1) rfl h⟩
theorem Jc :
  bH P' w K mg base CX0 2 o7 jY ["pot"] (spM jy):=by
 refine T.Ga.ok CB (fun vs H Q E h=>dZ h) (fun cdv A outer s H vs Q E hr h=>?_);exact ⟨_,(@aj _ _ _ _ _ (@s_a _ _ _ _ 1 _ _ CB.nd (@cL _ _ _ _ (@aa _ _ _ _ _ d_i (@aa _ _ _ _ _ d_i (@aa _ _ _ _ _ (xj d_i) (@aa _ _ _ _ _ d_n (@aa _ _ _ _ _ d_b (@aa _ _ _ _ _ d_b (@aa _ _ _ _ _ d_s (@aa _ _ _ _ _ d_s (@aa _ _ _ _ _ (cL (aa d_i af)) (@aa _ _ _ _ _ (bg (aa d_i af)) (@aa _ _ _ _ _ KC (@aa _ _ _ _ _ (kQ d_i d_i) (@aa _ _ _ _ _ (xj (kQ d_i d_i)) af rfl) rfl) rfl) rfl) rfl) rfl) rfl) rfl) rfl) rfl) rfl) rfl) rfl)) rfl (by trivial) rfl (by trivial))
  (aN (s_r (b9 (d_v 1) (aW (b7 T) (Br.hm hr) rfl T.dh T.cT.kp T.cM (aa (d_v 0) (aa (mq rfl T.mS (aa (d_v 1) af)) af))))))),jx (n:=1) (m:=1) rfl h⟩
theorem pL :
  bH P' w K mg base CX0 7 b_ bZ ["n","ties","k","tie"] (spD (bJ ak aH av)):=
 okQ T.jB aJ fun _ _ _ _ _ _ hr=>(aj (s_a 4 aJ.nd d_n)
  (aj (D_ (A_ (fun pn xe=>(aN (s_a 4 aJ.nd (bq (se T) (Br.hm hr) rfl T.mT T.gZ.kp T.jA (aa (d_v 0) (aa (d_v 1) (aa (d_v 2) (aa (d_v 3) af))))))))) (D_ (Ba (ie:=5) rfl rfl rfl aJ.nd rfl rfl rfl T.gP T.iP (fun pn xe E hp=>(k7 (y_x (x_a 4 aJ.nd (x_call (j4 T) (Br.hm hr) rfl T.mT T.gZ.kp T.jA hp (aa (d_v 0) (aa (d_v 1) (aa (d_v 2) (aa (d_v 3) af))))))))) (fun A' xe=>(aj (s_a 6 aJ.nd (bh (kY (Ds:=[bx,bP,bz,bf,aU,bQ,bA,bB]) T.aZ T.az (aq rfl T.d8 (aq rfl T.fE (aq rfl T.d9 (aq rfl T.c_ (aq rfl T.cB (aq rfl T.fF (aq rfl T.d_ (aq rfl T.ez kX)))))))) (gV rfl) rfl T.ah (d_v 5)) (bh (kY (Ds:=[bx,bP,bz,bf,aU,bQ,bA,bB]) T.bu T.aC (aq rfl T.d8 (aq rfl T.fE (aq rfl T.d9 (aq rfl T.c_ (aq rfl T.cB (aq rfl T.fF (aq rfl T.d_ (aq rfl T.ez kX)))))))) (gV rfl) rfl T.ah (d_v 5)) (bh (kY (Ds:=[bx,bP,bz,bf,aU,bQ,bA,bB]) T.bG T.aD (aq rfl T.d8 (aq rfl T.fE (aq rfl T.d9 (aq rfl T.c_ (aq rfl T.cB (aq rfl T.fF (aq rfl T.d_ (aq rfl T.ez kX)))))))) (gV rfl) rfl T.ah (d_v 5)) fM))))
  (aj (s_a 6 aJ.nd (Hy (d_v 6) (nW (xm (bh (gI T.aZ T.cC rfl rfl T.bU rfl T.ah (d_v 5)) (bh (gI T.bu T.cR rfl rfl T.bU rfl T.ah (d_v 5)) (bh (gI T.bG T.dm rfl rfl T.bU rfl T.ah (d_v 5)) fM)))))))
  (aN (s_a 4 aJ.nd (bg (aa (bh (cu T.aZ T.cS rfl T.cA rfl T.ah (d_v 5)) (bh (cu T.bu T.dR rfl T.cA rfl T.ah (d_v 5)) (bh (cu T.bG T.eE rfl T.cA rfl T.ah (d_v 5)) fM))) (aa (bh (cu T.aZ T.dQ rfl T.er rfl T.ah (d_v 5)) (bh (cu T.bu T.eW rfl T.er rfl T.ah (d_v 5)) (bh (cu T.bG T.fq rfl T.er rfl T.ah (d_v 5)) fM))) (aa (bh (cu T.aZ T.eG rfl T.e8 rfl T.ah (d_v 5)) (bh (cu T.bu T.fu rfl T.e8 rfl T.ah (d_v 5)) (bh (cu T.bG T.fO rfl T.e8 rfl T.ah (d_v 5)) fM))) (aa (d_v 6) af))))))))))) (D_ (Ba (ie:=5) rfl rfl rfl aJ.nd rfl rfl rfl T.gP T.j3 (fun pn xe E hp=>(k7 (y_x (x_a 4 aJ.nd (x_call (l9 T) (Br.hm hr) rfl T.mT T.gZ.kp T.jA hp (aa (d_v 0) (aa (d_v 1) (aa (d_v 2) (aa (d_v 3) af))))))))) (fun A' xe=>(aj (s_a 6 aJ.nd (bh (kY (Ds:=[bx,bP,bz,bf,aU,bQ,bA,bB]) T.aZ T.az (aq rfl T.d8 (aq rfl T.fE (aq rfl T.d9 (aq rfl T.c_ (aq rfl T.cB (aq rfl T.fF (aq rfl T.d_ (aq rfl T.ez kX)))))))) (gV rfl) rfl T.ah (d_v 5)) (bh (kY (Ds:=[bx,bP,bz,bf,aU,bQ,bA,bB]) T.bu T.aC (aq rfl T.d8 (aq rfl T.fE (aq rfl T.d9 (aq rfl T.c_ (aq rfl T.cB (aq rfl T.fF (aq rfl T.d_ (aq rfl T.ez kX)))))))) (gV rfl) rfl T.ah (d_v 5)) (bh (kY (Ds:=[bx,bP,bz,bf,aU,bQ,bA,bB]) T.bG T.aD (aq rfl T.d8 (aq rfl T.fE (aq rfl T.d9 (aq rfl T.c_ (aq rfl T.cB (aq rfl T.fF (aq rfl T.d_ (aq rfl T.ez kX)))))))) (gV rfl) rfl T.ah (d_v 5)) fM))))
  (aj (s_a 6 aJ.nd (Hy (d_v 6) (nW (xm (bh (gI T.aZ T.cC rfl rfl T.bU rfl T.ah (d_v 5)) (bh (gI T.bu T.cR rfl rfl T.bU rfl T.ah (d_v 5)) (bh (gI T.bG T.dm rfl rfl T.bU rfl T.ah (d_v 5)) fM)))))))
  (aN (s_a 4 aJ.nd (bg (aa (bh (cu T.aZ T.cS rfl T.cA rfl T.ah (d_v 5)) (bh (cu T.bu T.dR rfl T.cA rfl T.ah (d_v 5)) (bh (cu T.bG T.eE rfl T.cA rfl T.ah (d_v 5)) fM))) (aa (bh (cu T.aZ T.dQ rfl T.er rfl T.ah (d_v 5)) (bh (cu T.bu T.eW rfl T.er rfl T.ah (d_v 5)) (bh (cu T.bG T.fq rfl T.er rfl T.ah (d_v 5)) fM))) (aa (bh (cu T.aZ T.eG rfl T.e8 rfl T.ah (d_v 5)) (bh (cu T.bu T.fu rfl T.e8 rfl T.ah (d_v 5)) (bh (cu T.bG T.fO rfl T.e8 rfl T.ah (d_v 5)) fM))) (aa (d_v 6) af))))))))))) (Bq (fun m=>xN (ie:=5) rfl rfl rfl aJ.nd rfl rfl rfl T.gP T.lz (fun pn xe E hp=>(xJ (z_a 4 aJ.nd (Bo ((g7 T) m) (Br.hm hr) rfl T.mT T.gZ.kp T.jA hp (aa (d_v 0) (aa (d_v 1) (aa (d_v 2) (aa (d_v 3) af)))))))) (fun A' xe=>(aj (s_a 6 aJ.nd (bh (kY (Ds:=[bx,bP,bz,bf,aU,bQ,bA,bB]) T.aZ T.az (aq rfl T.d8 (aq rfl T.fE (aq rfl T.d9 (aq rfl T.c_ (aq rfl T.cB (aq rfl T.fF (aq rfl T.d_ (aq rfl T.ez kX)))))))) (gV rfl) rfl T.ah (d_v 5)) (bh (kY (Ds:=[bx,bP,bz,bf,aU,bQ,bA,bB]) T.bu T.aC (aq rfl T.d8 (aq rfl T.fE (aq rfl T.d9 (aq rfl T.c_ (aq rfl T.cB (aq rfl T.fF (aq rfl T.d_ (aq rfl T.ez kX)))))))) (gV rfl) rfl T.ah (d_v 5)) (bh (kY (Ds:=[bx,bP,bz,bf,aU,bQ,bA,bB]) T.bG T.aD (aq rfl T.d8 (aq rfl T.fE (aq rfl T.d9 (aq rfl T.c_ (aq rfl T.cB (aq rfl T.fF (aq rfl T.d_ (aq rfl T.ez kX)))))))) (gV rfl) rfl T.ah (d_v 5)) fM))))
  (aj (s_a 6 aJ.nd (Hy (d_v 6) (nW (xm (bh (gI T.aZ T.cC rfl rfl T.bU rfl T.ah (d_v 5)) (bh (gI T.bu T.cR rfl rfl T.bU rfl T.ah (d_v 5)) (bh (gI T.bG T.dm rfl rfl T.bU rfl T.ah (d_v 5)) fM)))))))
  (aN (s_a 4 aJ.nd (bg (aa (bh (cu T.aZ T.cS rfl T.cA rfl T.ah (d_v 5)) (bh (cu T.bu T.dR rfl T.cA rfl T.ah (d_v 5)) (bh (cu T.bG T.eE rfl T.cA rfl T.ah (d_v 5)) fM))) (aa (bh (cu T.aZ T.dQ rfl T.er rfl T.ah (d_v 5)) (bh (cu T.bu T.eW rfl T.er rfl T.ah (d_v 5)) (bh (cu T.bG T.fq rfl T.er rfl T.ah (d_v 5)) fM))) (aa (bh (cu T.aZ T.eG rfl T.e8 rfl T.ah (d_v 5)) (bh (cu T.bu T.fu rfl T.e8 rfl T.ah (d_v 5)) (bh (cu T.bG T.fO rfl T.e8 rfl T.ah (d_v 5)) fM))) (aa (d_v 6) af)))))))))))))))
  (aN (s_r (d_v 4)))))
theorem m6 :
  bH P' w K mg base CX0 7 bY bR ["n","ties","k","tie"] (spD (bL ak aH av)):=
 okQ T.iQ dO fun _ _ _ _ _ _ hr=>(aj (s_a 4 dO.nd d_n)
  (aj (D_ (A_ (fun pn xe=>(aN (s_e (bq (se T) (Br.hm hr) rfl T.mT T.gZ.kp T.jA (aa (d_v 0) (aa (d_v 1) (aa (d_v 2) (aa (d_v 3) af))))))))) (Bq (fun m=>xN (ie:=5) rfl rfl rfl dO.nd rfl rfl rfl T.e8 T.pH (fun pn xe E hp=>(xJ (Ii (Bo ((g7 T) m) (Br.hm hr) rfl T.mT T.gZ.kp T.jA hp (aa (d_v 0) (aa (d_v 1) (aa (d_v 2) (aa (d_v 3) af)))))))) (fun A' xe=>(aN (s_a 4 dO.nd (Ld T.bG.get T.Cc T.uK (d_v 5))))))))
  (aN (s_r (d_v 4)))))
theorem Jd :
  bH P' w K mg base CX0 4 o8 jZ ["pot","n","ties"] (spM qP):=by
 refine T.Gb.ok sd (fun vs H Q E h=>dZ h) (fun cdv A outer s H vs Q E hr h=>?_);exact ⟨_,(aj (s_a 3 sd.nd (aW (Ja T) (Br.hm hr) rfl T.LQ T.F9.kp T.Cq (aa (d_v 0) (aa (d_v 1) (aa (d_v 2) af)))))
  (aj (s_a 4 sd.nd (aW (b7 T) (Br.hm hr) rfl T.dh T.cT.kp T.cM (aa (d_v 0) (aa d_i af))))
  (aj (eT (tw hr (d_v 4) d_i) (aN (s_r (bg (aa (aW (Jb T) (Br.hm hr) rfl T.LR T.F_.kp T.Cr (aa (d_v 0) (aa (d_v 1) af))) (aa d_s af))))) ck)
  (aj (eT (t_w (w_and (tw hr (d_v 4) d_i) (lP (nV hr (d_v 2) (cL af))))) (aj (s_a 5 sd.nd (b9 (d_v 2) (aW (b7 T) (Br.hm hr) rfl T.dh T.cT.kp T.cM (aa (d_v 0) (aa (mq rfl T.mS (aa (d_v 2) af)) af)))))
  (aN (s_r (bg (aa (bg (aa (b9 (d_v 5) d_i) (aa (b9 (d_v 3) d_i) (aa (b9 (d_v 3) d_i) af)))) (aa d_s af)))))) ck)
  (aj (eT (t_w (w_and (tw hr (d_v 4) d_i) (lP (nV hr (d_v 2) (cL af))))) (aN (s_r (bg (aa (b9 (d_v 2) (aW (b7 T) (Br.hm hr) rfl T.dh T.cT.kp T.cM (aa (d_v 0) (aa (mq rfl T.mS (aa (d_v 2) af)) af)))) (aa d_s af))))) ck)
  (aN (s_r (bg (aa (d_v 3) (aa d_s af)))))))))),jx (n:=3) (m:=3) rfl h⟩
theorem lB :
  bH P' w K mg base CX0 8 cP cz ["n","ties","k","tie","due"] (spD (a_ ak aH av)):=
 okQ T.iR fG fun _ _ _ _ _ _ hr=>(aj (s_a 5 fG.nd (vA rfl T.l7 (aa (d_v 1) af)))
  (aj (s_a 6 fG.nd (Bf hr rfl T.FZ (aa (d_v 3) af)))
  (aj (s_a 7 fG.nd (bq (pL T) (Br.hm hr) rfl T.p8 T.jB.kp T.gf (aa (d_v 0) (aa (d_v 5) (aa (d_v 2) (aa (d_v 3) af))))))
  (aj (eT (t_w (w_or (nV hr (d_v 5) (d_v 1)) (AD (nV hr (Bf hr rfl T.FZ (aa (d_v 3) af)) (d_v 6))))) (aN (s_r d_b)) ck)
  (aj (eT (nV hr (d_v 4) (bg af)) (aN (s_r (Kh hr (d_v 7) (d_v 4)))) ck)
  (aN (s_r (xq AG (by rfl) rfl T.l7 rfl T.ah (d_v 7)))))))))
theorem Je :
  bH P' w K mg base CX0 9 o9 l6 ["script"] (spD (oE ak aH av)):=
 okQ T.L5 gg fun _ _ _ _ _ _ hr=>(aj (mw OC rfl (i_S (cI (cL (aa d_i af)) (d_v 0))) (g_n 1 gg.nd)
  (aj (s_a 2 gg.nd (bq (IX T) (Br.hm hr) rfl T.LL T.F4.kp T.Cs (aa (d_v 1) af)))
  (aj (s_a 3 gg.nd (aW (IZ T) (Br.hm hr) rfl T.LN T.F6.kp T.Ct (aa (d_v 2) af)))
  (aj (s_a 4 gg.nd (aW (I_ T) (Br.hm hr) rfl T.LP T.F8.kp T.Cv (aa (d_v 2) (aa (d_v 3) (aa d_i af)))))
  (aj (s_u rfl (bS 5 gg.nd (bS 6 gg.nd iF)) (aW (Jd T) (Br.hm hr) rfl T.LU T.Gb.kp T.Cy (aa (d_v 2) (aa (d_v 3) (aa (d_v 4) af)))))
  (@aj _ _ _ _ _ (@s_a _ _ _ _ 7 _ _ gg.nd (@K6 _ _ _ _ _ _ _ _ _ hr (@rK _ _ _ _ _ _ _ _ _ d_s (bg (aa d_b (aa d_b (aa d_b (aa d_b af))))) (@rK _ _ _ _ _ _ _ _ _ d_s (bg (aa d_b (aa d_b (aa d_b (aa d_b af))))) (@rK _ _ _ _ _ _ _ _ _ d_s (bg af) Ig))) (d_v 6) rfl rfl (by simp) (by decide) (by decide) (by intro _ _;rfl)) rfl (by trivial) rfl (by trivial))
  (aj (s_a 8 gg.nd (aW (I0 T) (Br.hm hr) rfl T.LO T.F7.kp T.Cu (aa (d_v 2) af)))
  (aj (eT (kR (kT (bq (lB T) (Br.hm hr) rfl T.mU T.iR.kp T.fZ (@aa _ _ _ _ _ (d_v 3) (@aa _ _ _ _ _ (d_v 4) (@aa _ _ _ _ _ (d_v 8) (@aa _ _ _ _ _ (d_v 5) (@aa _ _ _ _ _ (d_v 7) af rfl) rfl) rfl) rfl) rfl)))) (aN (s_r d_b)) ck)
  (aj (eT (t_w (w_and (tw hr (d_v 6) d_s) (lP (nV hr (bq (m6 T) (Br.hm hr) rfl T.pJ T.iQ.kp T.fP (aa (d_v 3) (aa (d_v 4) (aa (d_v 8) (aa (d_v 5) af))))) (b9 (d_v 5) d_i))))) (aN (s_r d_b)) ck)
  (aN (eT (kR (kT (bq (lB T) (Br.hm hr) rfl T.mU T.iR.kp T.fZ (@aa _ _ _ _ _ (d_v 3) (@aa _ _ _ _ _ (d_v 4) (@aa _ _ _ _ _ (aW (Jc T) (Br.hm hr) rfl T.LS T.Ga.kp T.Cw (aa (d_v 2) af)) (@aa _ _ _ _ _ (d_v 5) (@aa _ _ _ _ _ (bg (aa d_b (aa d_b (aa d_b (aa d_b af))))) af rfl) rfl) rfl) rfl) rfl)))) (aN (s_r d_b)) ck)))))))))))
  (aj (HB 9 ["script","cell","pot","n","ties","tie","word","due","k","many"] ["moment"] gg.nd (c_n 10 E8 rfl rfl) (Kn rfl T.gQ (aa d_i (aa d_i af))) (fun _ _ _ _ _=>jG) (fun _ _ _ _ _=>(bg (aa (d_v 10) (aa d_i (aa d_i af))))))
  (aj (eT (nV hr (bq (se T) (Br.hm hr) rfl T.mT T.gZ.kp T.jA (aa d_i (aa (vA rfl T.l7 (aa (d_v 9) af)) (aa d_i (aa (bg (aa d_i (aa d_i (aa d_i af)))) af))))) (cL (aa (bg (aa d_i (aa d_i (aa d_i af)))) (aa (bg (aa d_i (aa d_i (aa d_i af)))) af)))) (aN (s_r d_b)) ck)
  (aN (s_r (Kh hr (bq (se T) (Br.hm hr) rfl T.mT T.gZ.kp T.jA (aa d_i (aa (vA rfl T.l7 (aa (d_v 9) af)) (aa d_i (aa (bg (aa d_i (aa d_i (aa d_i af)))) af))))) (cL (aa (bg (aa d_i (aa d_i (aa d_i af)))) (aa (bg (aa d_i (aa d_i (aa d_i af)))) af)))))))))
end
theorem all_mk{l:QE}{w:World}{K:eg}{h:Heap}{mg:Str->Option Value}{fa v_ wc we wg wj wk wm uI wo wu mQ oN oO jz oQ oR oS oU oV oW oX oY oZ o7 b_ bY o8 cP o9 av bx ak bP bz bf aU bQ bA aH aV bB cQ:Addr}{o_ pe pq pA pB pC pD mR pF pG iO jN jO gb jP jQ jR jS jT jU jV jW jX jY bZ bR jZ cz l6:FuncData}(X:K.In h)(G:h.Ns mainGlobals mg)(hfa:mg "law" = some (.ref fa))
  {zu zv:Option Addr} {zw:Array (Option Value)} {zx zy zz zA qS zB:Value}
  (CF:cZ K "is_whole" (top 14) v_ o_)
  (CG:cZ K "is_within" (top 15) wc pe)
  (CH:cZ K "is_place" (top 16) we pq)
  (CI:cZ K "is_layers" (top 17) wg pA)
  (CJ:cZ K "is_moment" (top 18) wj pB)
  (CK:cZ K "is_tie_either_way" (top 19) wk pC)
  (CL:cZ K "is_tie" (top 20) wm pD)
  (CM:cZ K "look_at_layers" (top 21) uI mR)
  (CN:cZ K "merged" (top 23) wo pF)
  (CO:cZ K "least_layer" (top 26) wu pG)
  (uN:cZ K "layered" (top 25) mQ iO)
  (uO:cZ K "forest_way" (top 28) oN jN)
  (uP:cZ K "oldest_of_ring" (top 31) oO jO)
  (uQ:cZ K "moves" (top 30) jz gb)
  (uR:cZ K "_law_begun" (top 33) oQ jP)
  (uS:cZ K "_law_take" (top 34) oR jQ)
  (uT:cZ K "_law_wide" (top 35) oS jR)
  (uU:cZ K "_law_places" (top 36) oU jS)
  (uV:cZ K "_law_depth" (top 37) oV jT)
  (uW:cZ K "_law_ends" (top 38) oW jU)
  (uX:cZ K "_law_drawn_ties" (top 39) oX jV)
  (uY:cZ K "_law_new_tie" (top 40) oY jW)
  (uZ:cZ K "_law_odd_tie" (top 41) oZ jX)
  (u0:cZ K "_law_odd_depth" (top 42) o7 jY)
  (dI:cZ K "_law_told_of" (top 43) b_ bZ)
  (cU:cZ K "_law_field_of" (top 44) bY bR)
  (u5:cZ K "_law_chosen" (top 45) o8 jZ)
  (fk:cZ K "_law_right" (top 46) cP cz)
  (qT:cZ K "law" (top 47) o9 l6)
  (gS:NP K mainGlobals "ValueError" = some none)
  (CQ:NP K mainGlobals "abs" = some none)
  (wC:NP K mainGlobals "bool" = some none)
  (iY:NP K mainGlobals "enumerate" = some none)
  (CS:NP K mainGlobals "int" = some none)
  (gT:NP K mainGlobals "isinstance" = some none)
  (CT:NP K mainGlobals "len" = some none)
  (wD:NP K mainGlobals "list" = some none)
  (CU:NP K mainGlobals "max" = some none)
  (CV:NP K mainGlobals "min" = some none)
  (sj:NP K mainGlobals "range" = some none)
  (j5:NP K mainGlobals "reversed" = some none)
  (CW:NP K mainGlobals "str" = some none)
  (sq:NP K mainGlobals "tuple" = some none)
  (CY:NP K mainGlobals "zip" = some none)
  (nu:NP K mainGlobals "Clash" = some (some (.ref av)))
  (pM:NP K mainGlobals "NoDeed" = some (some (.ref bx)))
  (gU:NP K mainGlobals "NoLayers" = some (some (.ref ak)))
  (su:NP K mainGlobals "NoNet" = some (some (.ref bP)))
  (pN:NP K mainGlobals "NoPair" = some (some (.ref bz)))
  (l_:NP K mainGlobals "NoPaper" = some (some (.ref bf)))
  (j6:NP K mainGlobals "NoPlaces" = some (some (.ref aU)))
  (sy:NP K mainGlobals "NoRow" = some (some (.ref bQ)))
  (pO:NP K mainGlobals "NoText" = some (some (.ref bA)))
  (lC:NP K mainGlobals "NoTies" = some (some (.ref aH)))
  (j7:NP K mainGlobals "PlyError" = some (some (.ref aV)))
  (pP:NP K mainGlobals "Unlike" = some (some (.ref bB)))
  (fR:Ql K ak bmV "ValueError.__new__" = true)
  (gh:N1 K (.ref ak) "__getattribute__" = some (some (.builtin "BaseException.__getattribute__")))
  (gj:N1 K (.ref ak) "__getattr__" = some none)
  (gk:N1 K (.ref ak) "__class__" = some (some (.builtin "object.__class__")))
  (gm:Oq K ak (.type "BaseException")=some true)
  (gp:Oq K ak (.type "object")=some true)
  (gq:(Pc K ak).isSome=true)
  (gW:Ql K aH bmV "ValueError.__new__" = true)
  (iZ:N1 K (.ref aH) "__getattribute__" = some (some (.builtin "BaseException.__getattribute__")))
  (i6:N1 K (.ref aH) "__getattr__" = some none)
  (i7:N1 K (.ref aH) "__class__" = some (some (.builtin "object.__class__")))
  (i8:Oq K aH (.type "BaseException")=some true)
  (i9:Oq K aH (.type "object")=some true)
  (i_:(Pc K aH).isSome=true)
  (ja:N1 K (.ref av) "__init__" = some (some (.ref cQ)))
  (jb:K.lookup cQ=some ⟨zx,zu,.func (Oa "__init__" "Clash.__init__" (b4 fH) (bD fH) (ai fH) .none zy zz zA zv qS zB),zw⟩) (jc:Px K qS "Clash.__init__" = true) (jd:Ot K (.ref cQ)=true)
  (j8:Ot K (.ref av)=true)
  (j9:Pz K (.ref cQ)=some (.type "function"))
  (je:PySem.W.isI K av cQ bmV "ValueError.__new__" = true)
  (j_:PB K av=true)
  (kc:N1 K (.ref av) "moment" = some none)
  (kg:N1 K (.ref av) "__setattr__" = some (some (.builtin "object.__setattr__")))
  (kh:PD K (.ref aV) "__getattribute__" = some (some (.builtin "type.__getattribute__")))
  (ki:QI K aV (.type "type")=true)
  (kj:QJ K (.ref aV) (.type "type") "__init__" = some (.val (.builtin "ValueError.__init__")))
  (kq:N1 K (.ref av) "__getattribute__" = some (some (.builtin "BaseException.__getattribute__")))
  (kr:N1 K (.ref av) "__getattr__" = some none)
  (ku:N1 K (.ref av) "__class__" = some (some (.builtin "object.__class__")))
  (kB:Oq K av (.type "BaseException")=some true)
  (kC:Oq K av (.type "object")=some true)
  (kD:(Pc K av).isSome=true)
  (cK:NK K (.ref av) (.type "ValueError")=some true)
  (cg:NK K (.ref ak) (.type "ValueError")=some true)
  (cD:NK K (.ref aH) (.type "ValueError")=some true)
  (kE:Pz K (.ref av)=some (.type "type"))
  (kF:(Pc K av).isSome=true)
  (kG:Oq K av (.type "BaseException")=some true)
  (eX:Oq K av (.ref av)=some true)
  (dJ:Pz K (.ref aV)=some (.type "type"))
  (dM:(Pc K aV).isSome=true)
  (dN:Oq K aV (.type "BaseException")=some true)
  (dw:Oq K av (.ref aV)=some true)
  (cE:Oq K ak (.ref aV)=some true)
  (cV:Oq K aH (.ref aV)=some true)
  (eY:NK K (.ref av) (.ref av)=some true)
  (dB:NK K (.ref av) (.ref ak)=some false)
  (eK:NK K (.ref av) (.ref aH)=some false)
  (dD:NK K (.ref ak) (.ref av)=some false)
  (cF:NK K (.ref ak) (.ref ak)=some true)
  (cW:NK K (.ref ak) (.ref aH)=some false)
  (eL:NK K (.ref aH) (.ref av)=some false)
  (cX:NK K (.ref aH) (.ref ak)=some false)
  (dS:NK K (.ref aH) (.ref aH)=some true)
  (aB:OQ K (.ref av) (([bx,bP,bz,bf,aU,bQ,bA,bB]:List Addr).map NN)=some false)
  (ay:OQ K (.ref ak) (([bx,bP,bz,bf,aU,bQ,bA,bB]:List Addr).map NN)=some false)
  (aA:OQ K (.ref aH) (([bx,bP,bz,bf,aU,bQ,bA,bB]:List Addr).map NN)=some false) :
  ∃fd:FuncData,(∀(s:Shared) (v:Value),BindsTo s fd ⟨[v],[]⟩ [("script",v)])/\∀base:Heap,K.In base->base.Ns mainGlobals mg->bH l.prog w K mg base CX0 9 fa fd ["script"] (spD (oE ak aH av)):=by
 have e:=hfa.symm.trans (qT.m X G);cases e;have IG:=CF.F.iH (ps:=["thing"]) rfl fun _ _ _ _ _ _ _=>rfl;have Ci:=CG.F.gJ (ps:=["thing","low","high"]) rfl fun _ _ _ _ _ _ _ _ _=>rfl;have EZ:=CH.F.iI (ps:=["n","thing"]) rfl fun _ _ _ _ _ _ _ _=>rfl;have E1:=CI.F.iH (ps:=["thing"]) rfl fun _ _ _ _ _ _ _=>rfl;have IK:=CJ.F.iH (ps:=["thing"]) rfl fun _ _ _ _ _ _ _=>rfl;have IL:=CK.F.iI (ps:=["n","thing"]) rfl fun _ _ _ _ _ _ _ _=>rfl;have zo:=CL.F.iI (ps:=["n","thing"]) rfl fun _ _ _ _ _ _ _ _=>rfl;have rZ:=CM.F.iH (ps:=["k"]) rfl fun _ _ _ _ _ _ _=>rfl;have IM:=CN.F.gJ (ps:=["groups","a","b"]) rfl fun _ _ _ _ _ _ _ _ _=>rfl;have IP:=CO.F.gJ (ps:=["layers","a","b"]) rfl fun _ _ _ _ _ _ _ _ _=>rfl;have x8:=uN.F.gJ (ps:=["n","record","k"]) rfl fun _ _ _ _ _ _ _ _ _=>rfl;have Ck:=uO.F.gJ (ps:=["ties","a","b"]) rfl fun _ _ _ _ _ _ _ _ _=>rfl;have Cn:=uP.F.iI (ps:=["layer","comer"]) rfl fun _ _ _ _ _ _ _ _=>rfl;have jA:=uQ.F.vJ (ps:=["n","record","k","tie"]) rfl fun _ _ _ _ _ _ _ _ _ _=>rfl;have Cs:=uR.F.iH (ps:=["cell"]) rfl fun _ _ _ _ _ _ _=>rfl;have cM:=uS.F.iI (ps:=["pot","size"]) rfl fun _ _ _ _ _ _ _ _=>rfl;have Cp:=uT.F.iI (ps:=["pot","size"]) rfl fun _ _ _ _ _ _ _ _=>rfl;have Ct:=uU.F.iH (ps:=["pot"]) rfl fun _ _ _ _ _ _ _=>rfl;have Cu:=uV.F.iH (ps:=["pot"]) rfl fun _ _ _ _ _ _ _=>rfl;have x9:=uW.F.gJ (ps:=["pot","n","ties"]) rfl fun _ _ _ _ _ _ _ _ _=>rfl;have Cv:=uX.F.gJ (ps:=["pot","n","most"]) rfl fun _ _ _ _ _ _ _ _ _=>rfl;have Cq:=uY.F.gJ (ps:=["pot","n","ties"]) rfl fun _ _ _ _ _ _ _ _ _=>rfl;have Cr:=uZ.F.iI (ps:=["pot","n"]) rfl fun _ _ _ _ _ _ _ _=>rfl;have Cw:=u0.F.iH (ps:=["pot"]) rfl fun _ _ _ _ _ _ _=>rfl;have gf:=dI.F.vJ (ps:=["n","ties","k","tie"]) rfl fun _ _ _ _ _ _ _ _ _ _=>rfl;have fP:=cU.F.vJ (ps:=["n","ties","k","tie"]) rfl fun _ _ _ _ _ _ _ _ _ _=>rfl;have Cy:=u5.F.gJ (ps:=["pot","n","ties"]) rfl fun _ _ _ _ _ _ _ _ _=>rfl;have fZ:=fk.F.HY (ps:=["n","ties","k","tie","due"]) rfl fun _ _ _ _ _ _ _ _ _ _ _=>rfl;have lA:=z3 (st:=fH) jb jc jd;have pK:=lA.iI (ps:=["self","moment"]) rfl fun _ _ _ _ _ _ _ _=>rfl;refine⟨_,fun s v=>qT.MW (fun _ _ _ _ _ _ _=>rfl) s v,fun base Xb _=>?_⟩;have T:Txt mg K base ..:=⟨mgo X G nu,mgo X G pM,mgo X G gU,mgo X G su,mgo X G pN,mgo X G l_,mgo X G j6,mgo X G sy,mgo X G pO,mgo X G lC,mgo X G j7,mgo X G pP,tW Xb (mgo X G gU) fR,⟨⟨gh,gj,gk,gm,gp⟩,gq⟩,tW Xb (mgo X G lC) gW,⟨⟨iZ,i6,i7,i8,i9⟩,i_⟩,Eg Xb (mgo X G nu) j8 ja j9 je,j_,kc,kg,kh,ki,kj,⟨⟨kq,kr,ku,kB,kC⟩,kD⟩,cK,cg,cD,⟨kE,kF,kG,eX⟩,⟨dJ,dM,dN,dw⟩,⟨dJ,dM,dN,cE⟩,⟨dJ,dM,dN,cV⟩,eY,dB,eK,dD,cF,cW,eL,cX,dS,aB,ay,aA,mno X G gS,mno X G CQ,mno X G wC,mno X G iY,mno X G CS,mno X G gT,mno X G CT,mno X G wD,mno X G CU,mno X G CV,mno X G sj,mno X G j5,mno X G CW,mno X G sq,mno X G CY,CF.m X G,CG.m X G,CH.m X G,CI.m X G,CJ.m X G,CK.m X G,CL.m X G,CM.m X G,CN.m X G,CO.m X G,uN.m X G,uO.m X G,uP.m X G,uQ.m X G,uR.m X G,uS.m X G,uT.m X G,uU.m X G,uV.m X G,uW.m X G,uX.m X G,uY.m X G,uZ.m X G,u0.m X G,dI.m X G,cU.m X G,u5.m X G,fk.m X G,qT.m X G,lA,CF.F,IG,CG.F,Ci,CH.F,CI.F,CJ.F,EZ,IK,CK.F,IL,CL.F,E1,CM.F,CN.F,CO.F,rZ,IM,IP,uN.F,uO.F,Ck,uP.F,zo,x8,Cn,uQ.F,pK,uR.F,uS.F,cM,uT.F,uU.F,uV.F,uW.F,Cp,x9,uX.F,uY.F,uZ.F,u0.F,jA,dI.F,cU.F,Cq,Cr,u5.F,gf,fk.F,Cs,Ct,Cu,Cv,Cw,fP,Cy,fZ,qT.F⟩
 exact Je T
theorem walk{aG aQ aY:Nat}{l:QE}{q:Program}{loose:List Str}{XP:(Str->Option Value)->Heap->Prop}{YP:World->Heap->Prop}{d:DefRec}{K:Params->eg}(hn:l.most=some 63)(hdf:d.params.defaults=[])
  (hY:∀(w:World) (h:Heap),YP w h->(K w.params).In h) (M:∀ns:List Int,ns.length<=63->oE aG aQ aY [.lst (ns.map Dat.int)]=some (.val (.bl true))) (hK:∀w:World,AL (K w.params)=true)
  (F:∀ (w:World) (mg:Str→Option Value) (fa:Addr) (h:Heap),(K w.params).In h→h.Ns mainGlobals mg→mg d.name=some (.ref fa) →
   ∃fd:FuncData,(∀(s:Shared) (u:Value),BindsTo s fd ⟨[u],[]⟩ [("script",u)])/\∀base:Heap,(K w.params).In base->base.Ns mainGlobals mg->bH l.prog w (K w.params) mg base CX0 9 fa fd ["script"] (spD (oE aG aQ aY))) :
  PySem.W.WalkO q loose XP YP l.row.toRowW d [] (fun f vs=>PySem.call f vs):=
 L2.Dd (n:=63) (k:=9) (x := "script") (CX:=fun _=>CX0) (sp:=fun _=>spD (oE aG aQ aY)) hn (by decide) hdf ⟨rfl,by decide,by decide,rfl⟩ hY F
  (fun w H a ns hl hO hS=>HC (M ns hl) (hK w) hS) fun _ _ _ _ _ z=>z
open PySem PySem.W PySem.W.X
theorem CZ{q:Program}{loose:List Str}{XP:(Str->Option Value)->Heap->Prop}{r:RowW}{d:DefRec}{kwd:List (Str×Expr)}{run:Value->List Value->Sem Value}{K:Params->Frag}{as:List Addr}{n t:Nat}(e:∀P,as=(K P).map (·.1))
  (W:WalkO q loose XP (fun w h=>(K w.params).In h) r d kwd run):WalkX q loose XP (obsZ as) (valZ K n t) r d kwd run:=
 fun w s₀ s₁ mg mb G y a o pm cd doc dV kV ho hd Lp hD hmg hg args vals as' L=>W w s₀ s₁ mg mb G (InK.keeps w _ _ (z_facts e y).2.1 L.keeps) a o pm cd doc dV kV ho hd Lp hD hmg hg args vals as'
end Q
noncomputable def PySem.W.Fast.tw18321525555750233549:PySem.Program:=PySem.Challenge.pw_sinceply_k16_moves_refused
theorem PySem.W.Fast.te18321525555750233549:PySem.Challenge.pw_sinceply_k16_moves_refused=PySem.W.Fast.tw18321525555750233549:=rfl
namespace PySem.W.Fast
def tw1900247723994666401:=0
def tw2645476073414162905:=0
def tw11848385463662237054:=0
def tw4510514551821287556:=0
def tw1525777642085416940:=0
def tw7753487310901128601:=0
def tw6033707212891606592:=0
def tw4459384342255774799:=0
def tw16576485310755371740:=0
def tw4903523486442289719:=0
def tw14060819525167100395:=0
def tw9074745034115727972:=0
def tw3014524739659059559:=0
def tw6170682938864561031:=0
def tw6184144797224121771:=0
def tw17801027184760263337:=0
def tw2230956490099371657:=0
def tw12590771797077191726:=0
def tw13577183657023125140:=0
def tw1849378192020772676:=0
def tw17898220117771427168:=0
def tw9177490588430559986:=0
def tw17867367968263939890:=0
def tw17673256742314301965:=0
def tw2347278647849237144:=0
def tw8845758531660509601:=0
def tw10577280159038500345:=0
def tw8659541268133764654:=0
def tw9158371178205835121:=0
def tw959038776897947325:=0
def tw8150137229425605929:=0
def tw14784613727293682547:=0
def tw16528844749733384129:=0
def tw12076296166578513972:=0
def tw11722694274929023026:=0
def tw12845528753208691613:=0
def tw1796452828658801745:=0
def tw14174729620470272242:=0
def tw10355738314524395547:=0
def tw4644519124664474703:=0
def tw3397854086045024134:=0
def tw3348755353372694161:=0
def tw3924899836303002140:=0
def tw1413413561625499492:=0
def tw1929140271496726923:=0
def tw2825969078042034947:=0
def tw17891911804313754539:=0
def tw7620633696748330812:=0
def tw8124195187717024434:=0
def tw12376487675688190364:=0
def tw13727342345386612537:=0
def tw18100298595728734489:=0
def tw10428313535097005270:=0
def tw5788441237349605361:=0
def tw2371870128778229325:=0
def tw4597713103090852651:=0
def tw4814449062269549397:=0
def tw6638163274745161401:=0
def tw1186417292148808685:=0
def tw7149130169168023075:=0
def tw3220795151987343826:=0
def tw17801544424140121449:=0
def tw17411540115359161612:=0
def tw6836909244480756096:=0
def tw4578657361243628556:=0
def tw143842085755058109:=0
def tw11654119337813487161:=0
def tw8843058138016421088:=0
def tw8678025196224707683:=0
def tw14542769557568047262:=0
def tw258102785175256825:=0
def tw12405492600401811755:=0
def tw10754749369224274355:=0
def tw5646197636183794197:=0
def tw18114825003042022626:=0
def tw6471350608305179791:=0
def tw3429472801392005509:=0
def tw17384672433817653184:=0
def tw12663088194467644123:=0
def tw1122937694107101352:=0
def tw16651073929816231865:=0
def tw9031663435952655690:=0
def tw232934415886484757:=0
def tw12551712137081402202:=0
def tw5904804553461034777:=0
def tw7749290279265969690:=0
def tw5247097485630830160:=0
def tw11969554104872079595:=0
def tw17871215997389247374:=0
def tw16315363165133004707:=0
def tw5757844963623982184:=0
def tw14187164720489568304:=0
def tw14383718435674776371:=0
def tw13187707458964590918:=0
def tw11486281108466436013:=0
def tw4668778568681801665:=0
def tw3557606138805339214:=0
def tw6391950483844864059:=0
def tw3070779605364511357:=0
def tw16732030394159328821:=0
def tw12537699337331728869:=0
def tw6661690985957759597:=0
def tw7831550375803512113:=0
def tw4638440937101615321:=0
def tw4145190177419748129:=0
def tw14581261618175280620:=0
def tw1884385648930130754:=0
def tw14708111485579464659:=0
def tw8048044653765001325:=0
def tw415305322658702375:=0
def tw1930612210268658626:=0
def tw17817697812999904704:=0
def tw4247972499131065172:=0
def tw15103779097346232209:=0
def tw4581343471360899557:=0
def tw4862505605045911166:=0
def tw8221768389530849663:=0
def tw2071925930366392057:=0
def tw11765629677408013504:=0
def tw8884603627278904897:=0
def tw7151864966959595292:=0
def tw12253733853351927898:=0
def tw1604645053413660396:=0
def tw163766245124240794:=0
def tw6924325699616883311:=0
def tw2092102947092938037:=0
def tw15233645474161347150:=0
def tw13375104899037978218:=0
def tw17151566493161675176:=0
def tw9216164037958550855:=0
def tw1571150841658177216:=0
def tw13569673071861929347:=0
def tw3775751449391402115:=0
def tw7022956140123850770:=0
def tw8987384252515710772:=0
def tw13460875118930796846:=0
def tw2531120117652582892:=0
def tw6445417745660958179:=0
def tw9612910480584912409:=0
def tw2806594122046873491:=0
def tw12169552939204545193:=0
def tw15341650420596269937:=0
def tw17227461895491263695:=0
def tw17521003615846148372:=0
def tw3103193467016539504:=0
def tw14403784823350289667:=0
def tw5371036967215926800:=0
def tw16675646501737817731:=0
def tw7950979375620047512:=0
def tw16036151880807656829:=0
def tw8721201924482972175:=0
def tw14552361459181823946:=0
def tw5010226161243660836:=0
def tw16137751129189022130:=0
def tw9484911762913842355:=0
def tw15743261778296229861:=0
def tw3967035097191832844:=0
def tw11776224651138733731:=0
def tw3540881096438593814:=0
def tw10084251623588437457:=0
def tw1590128945079742599:=0
def tw11386159253309410015:=0
def tw6638011200232277124:=0
def tw12871351102231606049:=0
def tw4485796576530095506:=0
def tw15117016406046680221:=0
def tw7314983614068183853:=0
def tw15834153099544041037:=0
def tw4553834770304741610:=0
def tw16121705980063919562:=0
def tw3563015224087743312:=0
def tw1112995415065034755:=0
def tw11900937473280103019:=0
def tw5108214276343887140:=0
def tw8278687039144675975:=0
def tw909566841938955130:=0
def tw2008125956799784028:=0
def tw87099148898850632:=0
def tw10309121537192387550:=0
def tw2971347221173834527:=0
def tw9144773604869937208:=0
def tw8354823773499510728:=0
def tw9246871659193852464:=0
def tw11496236489665145900:=0
def tw14745348808202081285:=0
def tw14546287879619825545:=0
def tw13311720066936000172:=0
def tw3983258021818066889:=0
def tw4771048657856621853:=0
def tw10665166256742327621:=0
def tw11992146473553639970:=0
def tw12343752589448450917:=0
def tw10314443863579229653:=0
def tw6119008212025851723:=0
def tw14097962046580467911:=0
def tw14666995932417084826:=0
def tw16807845492591864837:=0
def tw13522694596190640128:=0
def tw5528777392339849939:=0
def tw8149140183238225819:=0
def tw15825565822894607510:=0
def tw14405251143418270159:=0
def tw7590104504213944989:=0
def tw15995571474123209189:=0
def tw15974305837529696945:=0
def tw8365017732542714722:=0
def tw2855000681451301928:=0
def tw5695295490853651507:=0
def tw10372014858613661587:=0
def tw8772611577632632910:=0
def tw15618268717668138530:=0
def tw3068874825565376803:=0
def tw4070472192087015694:=0
def tw18051838776090648517:=0
def tw3752356565391713665:=0
def tw14452198403367178063:=0
def tw16836793168202595242:=0
def tw16420057463246061652:=0
def tw15560129581441902826:=0
def tw11570043680582992148:=0
def tw17748797974981029472:=0
def tw15736773314278739954:=0
def tw7716534784506620889:=0
def tw1505742860294381819:=0
def tw9180701371936540444:=0
def tw13840006550310630405:=0
def tw7620362637864076870:=0
def tw5935732597385700037:=0
def tw407408684184775273:=0
def tw5310590317763606225:=0
def tw15782659850049873497:=0
def tw17931186646547786782:=0
def tw13058814776204846556:=0
def tw8986032365664582957:=0
def tw18190849225586805663:=0
def tw9724139943839200215:=0
def tw15489143795826938896:=0
def tw7115684201807313046:=0
def tw13459073562879564345:=0
def tw11065298923425447356:=0
def tw7712276514418491461:=0
def tw11430379113601923336:=0
def tw17300930290047578672:=0
def tw3211350483133038810:=0
def tw1332958884649470656:=0
def tw12724918806943939740:=0
def tw9664354067617835348:=0
def tw1302370071557512083:=0
def tw17690484328471402890:=0
def tw6239484511894814951:=0
def tw5742183731403378163:=0
def tw11968790873451091997:=0
def tw9500249088121173146:=0
def tw4609162418794576266:=0
def tw16757687985743806227:=0
def tw16835450188301550107:=0
def tw2759668125989649955:=0
def tw5826114093560900498:=0
def tw15085508345317181430:=0
def tw2997217320844575444:=0
def tw9171454392659820422:=0
def tw15443628798883422830:=0
def tw1854167277956511019:=0
def tw18384540457410372320:=0
def tw5382269964449343298:=0
def tw8784686213670262492:=0
def tw6920847210700583119:=0
def tw12774545705529900872:=0
def tw12170167517169388616:=0
def tw2396956385780426492:=0
def tw10873171405831143679:=0
def tw8985909611946413855:=0
def tw462764664538619590:=0
def tw17077585763307724093:=0
def tw12679560959215317287:=0
def tw8730392898334425127:=0
def tw13859915794279845271:=0
def tw3784937022506554972:=0
def tw3775645973216487303:=0
def tw4423558455868619980:=0
def tw972358768666072080:=0
def tw8005901391826585604:=0
def tw439925356784763852:=0
def tw15906507167290688391:=0
def tw2583517287197796332:=0
def tw4555232075665580612:=0
def tw7378004444855740099:=0
def tw17340914259168636566:=0
def tw11731379811035488974:=0
def tw12297511699872652332:=0
def tw10583483559057593297:=0
def tw4663660592860495155:=0
def tw12375054206925227557:=0
def tw10003967924757804057:=0
def tw17588670194823790252:=0
def tw11290428517747037026:=0
def tw17321703663838440176:=0
def tw14520309140198846294:=0
def tw2501112293563878950:=0
def tw1579774397403931878:=0
def tw13131842070091652165:=0
def tw12641035357747515169:=0
def tw3416535923500478980:=0
def tw17053359751982263156:=0
def tw17295831439033043771:=0
def tw14726151624863574123:=0
def tw11449861317392072942:=0
def tw14465682781421492245:=0
def tw12747353182016591054:=0
def tw14165544294053382948:=0
def tw15428293426049461241:=0
def tw15856721106200886492:=0
def tw12326710823954734724:=0
def tw15443762949592308032:=0
def tw10750106956807326564:=0
def tw6940302586006642517:=0
def tw1713340940122068239:=0
def tw904852402346808318:=0
def tw3676143436501157305:=0
def tw1811281564780029218:=0
def tw11325531827892831219:=0
def tw10838585762875079711:=0
def tw5861479403175337126:=0
def tw2148708359956588993:=0
def tw12207265779106656474:=0
def tw16423478902571360340:=0
def tw6581143657866992276:=0
def tw17417534931277749062:=0
def tw6165786889198858789:=0
def tw13695450401064341632:=0
def tw3693607441254265127:=0
def tw18021223366710716226:=0
def tw9789131586839931831:=0
def tw17293555689588284785:=0
def tw18299170476625123139:=0
def tw4299490872842758106:=0
def tw18130991436437924974:=0
def tw6871153229981006806:=0
def tw14871505872646494173:=0
def tw221661393851991168:=0
def tw14380556333823096206:=0
def tw1159204875388158713:=0
def tw3557820227849083469:=0
def tw7813065576938925271:=0
def tw1873197155216253373:=0
def tw271244512628756359:=0
def tw2085295518329793441:=0
def tw3134719313993832929:=0
def tw7345000449411463684:=0
def tw6041859694164483711:=0
def tw14995818133576960161:=0
def tw14242206180340797045:=0
def tw7542729047755307196:=0
def tw17820433345683421699:=0
def tw13306623235607523006:=0
def tw4827118285704021425:=0
def tw7308650709185462255:=0
def tw15907196595819554868:=0
def tw8524723068396241452:=0
def tw4627151237917547237:=0
def tw10569762667925907064:=0
def tw14995393631730969447:=0
def tw4090902261560037333:=0
def tw16433593707101407619:=0
def tw8753094267007251991:=0
def tw6311672543274725854:=0
end PySem.W.Fast
open PySem PySem.W PyProof.Rows
set_option maxRecDepth 100000 in
set_option maxHeartbeats 0 in
theorem PySem.Challenge.cw_sinceply_k16_moves_refused_holds : PySem.Challenge.rw_sinceply_k16_moves_refused.Holds := by
 w_on;o_law;z_head;(case hw=>w_witness2)
 k_fill
 refine' Q.CZ (fun _=>rfl) (Q.walk (l:=PySem.Challenge.rw_sinceply_k16_moves_refused) rfl rfl (fun w h Y=>Y) (P.math _ _ _ ?ne) ?noL ?fnS)
 case noL=>intro w;rfl
 case fnS=>
  intro w mg fa h KX G hmg
  refine' Q.all_mk KX G hmg ?CF ?CG ?CH ?CI ?CJ ?CK ?CL ?CM ?CN ?CO ?uN ?uO ?uP ?uQ ?uR ?uS ?uT ?uU ?uV ?uW ?uX ?uY ?uZ ?u0 ?dI ?cU ?u5 ?fk ?qT ?gS ?CQ ?wC ?iY ?CS ?gT ?CT ?wD ?CU ?CV ?sj ?j5 ?CW ?sq ?CY ?nu ?pM ?gU ?su ?pN ?l_ ?j6 ?sy ?pO ?lC ?j7 ?pP ?fR ?gh ?gj ?gk ?gm ?gp ?gq ?gW ?iZ ?i6 ?i7 ?i8 ?i9 ?i_ ?ja ?jb ?jc ?jd ?j8 ?j9 ?je ?j_ ?kc ?kg ?kh ?ki ?kj ?kq ?kr ?ku ?kB ?kC ?kD ?cK ?cg ?cD ?kE ?kF ?kG ?eX ?dJ ?dM ?dN ?dw ?cE ?cV ?eY ?dB ?eK ?dD ?cF ?cW ?eL ?cX ?dS ?aB ?ay ?aA
  case CF|CG|CH|CI|CJ|CK|CL|CM|CN|CO|uN|uO|uP|uQ|uR|uS|uT|uU|uV|uW|uX|uY|uZ|u0|dI|cU|u5|fk|qT=>refine' Br.bE ?e ?l ?c ?k;(case e=>k_is);(case l=>k_is);(case c=>k_is);(case k=>k_is)
  case gS|CQ|wC|iY|CS|gT|CT|wD|CU|CV|sj|j5|CW|sq|CY|nu|pM|gU|su|pN|l_|j6|sy|pO|lC|j7|pP|ja|jb|jc|jd=>k_is
  case fR|gh|gj|gk|gm|gp|gq|gW|iZ|i6|i7|i8|i9|i_|j8|j9|je|j_|kc|kg|kh|ki|kj|kq|kr|ku|kB|kC|kD|cK|cg|cD|kE|kF|kG|eX|dJ|dM|dN|dw|cE|cV|eY|dB|eK|dD|cF|cW|eL|cX|dS|aB|ay|aA=>first | k_is | kit_is | kernel_rfl
 case ne=>decide
end
