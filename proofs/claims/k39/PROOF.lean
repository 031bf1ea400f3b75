import PyProof.Rows.All
import Wide.All
import OpenK.AllK
import Wide.FinOn
import Lean
import PyProof.EqAt
import PyProof.EqKinds
import PyProof.TupleCall
import KE.KRevIter
import PyProof.EnumMake
import PyProof.EnumFor
import PyProof.ListRange
import PyProof.Rows.Range3
import PyProof.ZipIter
import PyProof.SumWalk
import PyProof.WalksMore
import PyProof.Rows.SetFrom
import PyProof.SetRoads
import PyProof.Rows.SortRunsK
import PyProof.Rows.SortWalk
import KE.KSortTup
import PyProof.Rows.Own
import PyProof.StationsW
import OpenK.KRaise
import KE.KIsAll
import PyProof.ExcArgsOwn
import PyProof.RulesAs
import PyProof.Ns1
import PyProof.Rows.Catch
import OpenK.KOwn
import PyProof.ExcBaseAll.ValueError
import KE.KDictSum
import PyProof.AttrMiss
import PyProof.IsiH_list
import KE.KDictOf
import PyProof.DictList
import KE.KDictList
import PyProof.FactsAll.set
import PyProof.Rows.TupAdd
import KE.KDictMeth
import PyProof.DictWalks
import PyProof.TupleKey
import PyProof.DictStraight
import PyProof.IsRules
import KE.KRevSl
import PyProof.Rows.CallKwBuiltin
import PyProof.Rows.SortShell
import KE.KSortKey
import KE.KLam
import KE.KNestM
import PyProof.CallStr
import OpenK.KMake
import PyProof.ExcClass2
import PyProof.InstStoreFacts
import OpenK.KCls
import PyProof.DictRoadsH
import PyProof.DictUpdate
import PyProof.DictCopy
import PyProof.MeetsDictList
import PyProof.FactsAll.tuple_1
import PyProof.TupleOfSeq
import KE.KSortAsk
import PySem.Challenge.RW_sinceply_k39_pared_told
open Array renaming length_toList→Rk
open Bool renaming and_eq_true→Pz,false_ne_true→P0,eq_iff_iff→Rc,false_eq_true→RQ,true_and→Sg
open Decidable renaming byContradiction→Rp
open False renaming elim→Qf
open ForInStep renaming yield→QN
open Int renaming toNat_natCast→Rw,le_refl→RK
open List renaming map_cons→gc,replicate→gV,getElem?_set_ne→Dk,mem_cons_self→Ds,mem_cons_of_mem→Pa,length_map→Pg,getElem?_eq_some_iff→Ph,mem_cons→Pk,nodup_cons→Pn,size_toArray→Po,getElem?_eq_getElem→Pp,getElem?_append_left→Pq,length_append→Pr,range→Pu,mem_map→Pw,getElem?_map→Py,mem_append_right→PB,map_append→PF,mem_append_left→PK,getElem?_set_self→PM,mem_singleton→PN,length_cons→PR,mem_append→PV,all_eq_true→PY,length_range→P1,length_set→P4,getElem?_append_right→P5,nodup_append→P6,map_map→P7,length_take→P9,mem_filter→Qa,append_nil→Qe,getD_eq_getElem?_getD→Qg,getElem?_eq_none→Qh,getElem?_replicate→Qi,drop_eq_getElem_cons→Qk,flatten_cons→Ql,lookup_cons→Qm,mem_range→Qp,filter_cons_of_neg→Qw,filter_cons_of_pos→Qx,length_replicate→Qz,set_append_right→QA,replicate_succ→QD,map_id→QE,find?_cons→QF,map_congr_left→QG,length_singleton→QH,length_filter_le→QI,pairwise_cons→QJ,zip_cons_cons→QK,getElem?_take_of_lt→QM,append_assoc→QO,filter_congr→QS,any_cons→QT,getElem?_cons_succ→QU,filter_cons→QV,drop_length→QW,cons_append→QX,mem_of_getElem?→Q0,length_drop→Q4,not_mem_nil→Q8,getElem?_range→Q9,filter_eq_self→Ra,all_cons→Rb,filter_filter→Rf,getElem?_set→Ri,ext_getElem?→Rj,filter_sublist→Rl,flatten_append→Rm,nil_append→Ro,Sublist→Rr,find?_eq_none→Rt,getElem_mem→Rx,map_nil→RA,filterMap_cons→RC,nodup_nil→RI,take_left→RJ,mem_filterMap→RM,map_inj_right→RO,of_mem_zip→R5,length_nil→R7,range_succ→R8,Pairwise→Se,set_set→Sj,all_map→Sk,foldl→So
open Nat renaming le_refl→Pj,lt_of_lt_of_le→PD,le_trans→PL,le_of_ble_eq_true→P8,ne_of_lt→Qc,zero_le→Qd,lt_irrefl→Qy,not_lt→Q3,sub_self→RB,lt_of_le_of_lt→RP,le_of_lt→RY,ne_of_gt→RZ,lt_succ_self→R0,two_pow_pos→R9
open Option renaming isSome_map→Rh
open PyProof.Rows renaming slot_tuple_getitem→Qu,callWith_type1→QY
open PySem.Builtin renaming bitAnd→RG
open PySem.Builtin.List renaming listTooLong→Rq
open PySem.Builtin.Slice renaming slicePlaces→Q2,sliceAdjust→Rn
open PySem.Builtin.Tuple renaming tupleExact→Q5
open PySem.Calls renaming callWith_builtin→Rg,evalArgs_plain→Rz,spliced_cons→RN,spliced_nil→RU
open PySem.Data renaming cell→Si
open PySem.F renaming plainAttrs_list→Qv,slot_list_append→Q6,type_list_append→Q7,slot_list_clear→Ru,type_list_clear→Rv,slot_dict_get→Ry
open PySem.Heap renaming lt_size→Px,get?_push_of_some→PJ,get?_push_size→Qs,size_push→Sd,SameBut→Sh
open PySem.NameKind renaming cell→Sf
open PySem.Obj renaming mapSeq→RX
open PySem.PassesOwn renaming never→PZ
open PySem.PyData renaming eqv→QC,depthAll→QZ,eqvAll→RS,canLayAll0→RW
open PySem.Value renaming ref→Qo,int→RL,str→R3,bool→Sm,type→Sn
open PySem.W renaming Frag→Pf,fnOf→Qj,nsIn→Qn,keepIn→Qq,kia_one→QB,codeIn→RH,methodObj→RT,instObj→R4,OpenLaw→R6,lookIn→Sa,kitOne→Sb
open Sum renaming inl→PX,inr→RD
open True renaming intro→QL
noncomputable section
set_option Elab.async false
set_option linter.all false

set_option maxRecDepth 100000
local macro_rules|`(tactic|trivial)=>`(tactic|first|exact Or.inl rfl|exact Or.inr rfl|exact Or.inr (Or.inl rfl)|exact Or.inr (Or.inr rfl)|assumption)
local macro_rules|`(tactic|and_intros)=>`(tactic|dsimp only[List.map,List.replicate,List.cons_append,List.nil_append])
namespace L2
open PySem PySem.Spec PyProof.Rows
section
variable{a b:Addr}{H:Hp}{o:HO}
noncomputable abbrev Key:=Sum Int Str
noncomputable def pS:Key->Value->Bool
 |.inl k,v=>Value.isInt k v
 |.inr x,v=>Value.isStrOf x v
noncomputable def NY(w:World):Key->Int
 |.inl k=>hashInt k
 |.inr x=>hashStr w x
theorem bu:∀{k:Key} {v:Value},pS k v=true->(∃i t,k=PX i/\v=RL i t)\/(∃x t,k=RD x/\v=R3 x t)
 |.inl i,v,h=>by obtain⟨t,e⟩:=Value.isInt_shape (k:=i) (v:=v) h;exact .inl ⟨i,t,rfl,e⟩
 |.inr x,v,h=>by obtain⟨t,e⟩:=Value.isStrOf_shape (x:=x) (v:=v) h;exact .inr ⟨x,t,rfl,e⟩
theorem yR(i:Int)(t:Tok):pS (.inl i) (.int i t)=true:=by simp[pS,Value.isInt]
theorem yS(x:Str)(t:Tok):pS (.inr x) (.str x t)=true:=by simp[pS,Value.isStrOf]
theorem HY(a b:Int):decide ((PX a:Key)=PX b)=(a == b):=by
 by_cases e:a=b
 ·subst e;simp
 ·have h:¬(PX a:Key)=PX b:=fun q=>e (PX.inj q);rw[decide_eq_false h];exact(beq_eq_false_iff_ne.mpr e).symm
theorem HZ(a b:Str):decide ((RD a:Key)=RD b)=decide (a=b):=by
 by_cases e:a=b
 ·subst e;simp
 ·have h:¬(RD a:Key)=RD b:=fun q=>e (RD.inj q);rw[decide_eq_false h,decide_eq_false e]
theorem H_(a:Int)(b:Str):decide ((PX a:Key)=RD b)=false:=decide_eq_false (fun q=>nomatch q)
theorem Ia(a:Str)(b:Int):decide ((RD a:Key)=PX b)=false:=decide_eq_false (fun q=>nomatch q)
noncomputable def aS(prog:Program)(w:World):PySem.KeyKind prog w Key where
 is:=pS
 hash:=NY w
 inj:=fun v a b ha hb=>by
  rcases bu ha with⟨i,t,rfl,rfl⟩ | ⟨x,t,rfl,rfl⟩
  ·rcases bu hb with⟨j,u,rfl,e⟩ | ⟨y,u,rfl,e⟩
   ·injection e with e1 _;rw[e1]
   ·exact nomatch e
  ·rcases bu hb with⟨j,u,rfl,e⟩ | ⟨y,u,rfl,e⟩
   ·exact nomatch e
   ·injection e with e1 _;rw[e1]
 byValue:=fun k v h=>by rcases bu h with⟨i,t,rfl,rfl⟩ | ⟨x,t,rfl,rfl⟩<;>rfl
 pyHash:=fun hv h=>by
  rcases bu hv with⟨i,t,rfl,rfl⟩ | ⟨x,t,rfl,rfl⟩
  ·exact wpAny_pyHash_int h
  ·exact wpAny_pyHash_str h
 eqBool:=fun hu hv h=>by
  rcases bu hu with⟨i,t,rfl,rfl⟩ | ⟨x,t,rfl,rfl⟩
  ·rcases bu hv with⟨j,u,rfl,rfl⟩ | ⟨y,u,rfl,rfl⟩
   ·rw[HY]at h;exact wpAny_eqBool_int h
   ·rw[H_]at h;exact SeqAt.EqAt.int_str i t y u _ _ _ _ h
  ·rcases bu hv with⟨j,u,rfl,rfl⟩ | ⟨y,u,rfl,rfl⟩
   ·rw[Ia]at h;exact SeqAt.EqAt.str_int x t j u _ _ _ _ h
   ·rw[HZ]at h;exact wpAny_eqBool_str h
 «strs»:=fun k x t v h=>by
  rcases bu h with⟨i,u,rfl,e⟩ | ⟨y,u,rfl,e⟩
  ·exact nomatch e
  ·injection e with e1 _
   subst e1;cases v<;>rfl
theorem sP(prog:Program)(w:World)(i:Int)(t:Tok):(aS prog w).is (.inl i) (.int i t)=true:=yR i t
theorem sQ(prog:Program)(w:World)(x:Str)(t:Tok):(aS prog w).is (.inr x) (.str x t)=true:=yS x t
inductive V where
 |non | bl (b:Bool) | int (i:Int) | str (x:Str) | byt (b:Array UInt8) | flt (b:UInt64) | ref (a:Addr) | ty (n:String)
 deriving DecidableEq
def RelV:V->Value->Prop
 |.non,u=>u=Value.none
 |.bl b,u=>u=Sm b
 |.int i,u=>∃t,u=RL i t
 |.str x,u=>∃t,u=R3 x t
 |.byt b,u=>∃t,u=Value.bytes b t
 |.flt b,u=>∃t,u=Value.float b t
 |.ref a,u=>u=Qo a
 |.ty n,u=>u=Sn n
noncomputable abbrev Vals:List V->List Value->Prop:=Paired RelV
theorem Vals.length{xs:List V}{us:List Value}(r:Vals xs us):xs.length=us.length:=Paired.length r
theorem Vals.get:∀{xs:List V} {us:List Value} {i:Nat} {x:V},Vals xs us->xs[i]?=some x->∃u,us[i]?=some u/\RelV x u
 |_,_,_,_,.nil,e=>by simp at e
 |_,_,0,_,.cons r _,e=>by simp at e;subst e;exact⟨_,rfl,r⟩
 |_,_,i+1,x,.cons _ t,e=>by obtain⟨u,h1,h2⟩:=Vals.get (i:=i) (x:=x) t (by simpa using e);exact⟨u,by simpa using h1,h2⟩
theorem Vals.set{x:V}{u:Value}(r:RelV x u):∀{xs:List V} {us:List Value} (i:Nat),Vals xs us->Vals (xs.set i x) (us.set i u)
 |_,_,_,.nil=>.nil
 |_,_,0,.cons _ t=>.cons r t
 |_,_,i+1,.cons q t=>.cons q (Vals.set r i t)
theorem Vals.append:∀{xs ys:List V} {us ws:List Value},Vals xs us->Vals ys ws->Vals (xs++ys) (us++ws)
 |_,_,_,_,.nil,s=>s
 |_,_,_,_,.cons r t,s=>.cons r (Vals.append t s)
theorem Vals.take:∀{xs:List V} {us:List Value} (n:Nat),Vals xs us->Vals (xs.take n) (us.take n)
 |_,_,0,_=>.nil
 |_,_,_+1,.nil=>.nil
 |_,_,n+1,.cons r t=>.cons r (Vals.take n t)
theorem Vals.drop:∀{xs:List V} {us:List Value} (n:Nat),Vals xs us->Vals (xs.drop n) (us.drop n)
 |_,_,0,r=>r
 |_,_,_+1,.nil=>.nil
 |_,_,n+1,.cons _ t=>Vals.drop n t
def ju:Option V->Option Value->Prop
 |some v,some u=>RelV v u
 |none,none=>True
 |_,_=>False
def KV{κ:Type}:List (κ×V)->List (κ×Value)->Prop:=Paired fun(p:κ×V) (q:κ×Value)=>p.1=q.1/\RelV p.2 q.2
noncomputable def kV:Key->V
 |.inl i=>.int i
 |.inr x=>.str x
inductive HO where
 |lst (xs:List V)
 |tup (xs:List V)
 |dK (kvs:List (Key×V)) | dT (kvs:List (List Key×V)) (ts:List Addr)
 |set (S:Int->Bool) (n:Nat)
 |ins (C dx:Addr) (fs:List (Str×V))
 |own (x:Addr)
 |xd (fs:List (Str×V))
 |met (f x:Addr)
 |rng (lo hi:Int)
 |frz (o:Obj) (u:HO)
 |tbl (ln cl:Value) (q:Str)
 |ext (φ:Heap->Prop)
noncomputable abbrev Hp:=Addr->Option HO
noncomputable def upd(H:Hp)(a:Addr)(o:HO):Hp:=fun b=>if b=a then some o else H b
theorem au{a:Addr}:upd H a o a=some o:=by unfold upd;rw[if_pos rfl]
theorem ak(h:b≠a):upd H a o b=H b:=by unfold upd;rw[if_neg h]
theorem Ln{o u:HO}(h:H a=some o)(h':H b=some u)(d:o≠u):a≠b:=by intro e;subst e;rw[h]at h';exact d (Option.some.inj h')
theorem aG(h:H a=some o)(h':H b=none):a≠b:=by intro e;subst e;rw[h]at h';cases h'
end
section
variable(P:Program)(w:World)
def bq(H:Hp)(h:Heap)(a:Addr):HO->Prop
 |.lst xs=>xs.length<=sizeLine/\∃(its:List Value) (n:Nat),Vals xs its/\h.get? a=some { cls:=.type "list",data:=.seq its.toArray n }
 |.tup xs=>xs.length<=sizeLine/\∃its:List Value,Vals xs its/\IsTup h a its.toArray
 |.dK kvs=>kvs.length<=sizeLine/\(a == sysModules)=false/\∃vs,KV kvs vs/\h.DictOf (aS P w) a vs
 |.dT kvs ts=>kvs.length<=sizeLine/\(a == sysModules)=false/\∃xs:List (List Key×Addr×Value),
   Paired (fun(p:List Key×V) (q:List Key×Addr×Value)=>p.1=q.1/\H q.2.1=some (.tup (p.1.map kV))/\RelV p.2 q.2.2) kvs xs /\
   ∃o es ep,h.get? a=some o/\o.ExactDict/\o.data=.dict es ep/\es.toList=xs.map (entryOfKey (tupleKind (aS P w)))/\(xs.map (·.1)).Nodup/\xs.map (·.2.1)=ts
 |.set S n=>h.SetOf (intKind P w) a S n
 |.ins C dx fs=>H dx=some (.own a)/\fs.length<=1000/\dx≠a/\h.get? a=some (R4 C dx) /\
   ∃mA,h.Ns1 dx mA/\(∀f,ju (fs.lookup f) (mA f))/\PySem.Within mA (fs.map (·.1))
 |.own _=>∃o,h.get? a=some o
 |.xd fs=>∃mA,h.Ns1 a mA/\∀f,ju (fs.lookup f) (mA f)
 |.rng lo hi=>∃t u v,h.get? a=some { cls:=.type "range",data:=.fields #[.int lo t,.int hi u,.int 1 v] }
 |.frz o u=>h.get? a=some o/\bq H h a u
 |.tbl ln cl q=>∃ps:Array Value,h.get? a=some { cls:=.none,data:=.fields ps }/\(ps=#[]\/∃(c:Addr) (oc:Obj) (vs:Array Value) (t:Tok),ps=#[ln,cl,.ref c]/\H c=some (.frz oc (.own a))/\oc.data=.fields vs/\vs[1]?=some (.str q t))
 |.met f x=>h.get? a=some (RT (.ref f) (.ref x))
 |.ext φ=>φ h/\(∃o,h.get? a=some o)/\∀h1 h2:Heap,φ h1->(∀o,h1.get? a=some o->h2.get? a=some o)->φ h2
def HOk(H:Hp)(h:Heap):Prop:=∀a o,H a=some o->bq P w H h a o
end
section
variable{P:Program}{w:World}{H H':Hp}{h h':Heap}{a:Addr}{o:HO}
theorem bq.lt(x:bq P w H h a o):a<h.objs.size:=by
 cases o with
 |lst xs=>obtain⟨_,_,_,_,e⟩:=x;exact Px e
 |tup xs=>obtain⟨_,_,_,p⟩:=x;exact p.lt
 |dK kvs=>obtain⟨_,_,_,_,o,_,_,e,_⟩:=x;exact Px e
 |dT kvs ts=>obtain⟨_,_,_,_,o,_,_,e,_⟩:=x;exact Px e
 |set S n=>obtain⟨o,_,_,_,e,_⟩:=x;exact Px e
 |ins C dx fs=>obtain⟨_,_,_,e,_⟩:=x;exact Px e
 |own y=>obtain⟨_,e⟩:=x;exact Px e
 |xd fs=>obtain⟨_,⟨_,_,_,e,_⟩,_⟩:=x;exact Px e
 |rng lo hi=>obtain⟨_,_,_,e⟩:=x;exact Px e
 |frz ob u=>obtain⟨e,_⟩:=x;exact Px e
 |tbl ln cl q=>obtain⟨_,e,_⟩:=x;exact Px e
 |met f y=>exact Px (show h.get? a=some _ from x)
 |ext φ=>obtain⟨_,⟨_,e⟩,_⟩:=x;exact Px e
theorem Paired.Ib{α β:Type}{F G:α->β->Prop}:∀{l₁:List α} {l₂:List β},Paired F l₁ l₂->(∀a b,F a b->G a b)->Paired G l₁ l₂
 |_,_,.nil,_=>.nil
 |_,_,.cons r t,f=>.cons (f _ _ r) (Paired.Ib t f)
theorem bq.stay(x:bq P w H h a o)(k:∀b u,(b=a\/H b=some (.own a))->h.get? b=some u->h'.get? b=some u)
  (ho:∀b,H b=some (.own a)->H' b=some (.own a)) (hf:∀b o c,H b=some (.frz o (.own c))->H' b=some (.frz o (.own c))) (ht:∀b xs,H b=some (.tup xs)->H' b=some (.tup xs)):bq P w H' h' a o:=by
 induction o with
 |lst xs=>obtain⟨z,its,n,r,e⟩:=x;exact⟨z,its,n,r,k _ _ (.inl rfl) e⟩
 |tup xs=>obtain⟨z,its,r,ob,e,c⟩:=x;exact⟨z,its,r,ob,k _ _ (.inl rfl) e,c⟩
 |dK kvs=>obtain⟨z,y,vs,r,ob,es,ep,e,c⟩:=x;exact⟨z,y,vs,r,ob,es,ep,k _ _ (.inl rfl) e,c⟩
 |dT kvs ts=>obtain⟨z,y,xs,r,ob,es,ep,e,c⟩:=x;exact⟨z,y,xs,Paired.Ib r fun p q z=>⟨z.1,ht _ _ z.2.1,z.2.2⟩,ob,es,ep,k _ _ (.inl rfl) e,c⟩
 |set S n=>obtain⟨ob,es,ep,t,e,c⟩:=x;exact⟨ob,es,ep,t,k _ _ (.inl rfl) e,c⟩
 |ins C dx fs=>obtain⟨d,z,ne,e,mA,⟨od,es,ep,e2,c⟩,r⟩:=x;exact⟨ho _ d,z,ne,k _ _ (.inl rfl) e,mA,⟨od,es,ep,k _ _ (.inr d) e2,c⟩,r⟩
 |own y=>obtain⟨ob,e⟩:=x;exact⟨ob,k _ _ (.inl rfl) e⟩
 |xd fs=>obtain⟨mA,⟨od,es,ep,e,c⟩,r⟩:=x;exact⟨mA,⟨od,es,ep,k _ _ (.inl rfl) e,c⟩,r⟩
 |rng lo hi=>obtain⟨t,u,v,e⟩:=x;exact⟨t,u,v,k _ _ (.inl rfl) e⟩
 |frz ob u ih=>obtain⟨e,q⟩:=x;exact⟨k _ _ (.inl rfl) e,ih q⟩
 |tbl ln cl q=>
  obtain⟨ps,e,d⟩:=x;refine⟨ps,k _ _ (.inl rfl) e,?_⟩;rcases d with d | ⟨c,oc,vs,t,d,d2,d3⟩
  ·exact .inl d
  ·exact .inr ⟨c,oc,vs,t,d,hf _ _ _ d2,d3⟩
 |met f y=>have e:h.get? a=some (RT (.ref f) (.ref y)):=x;show h'.get? a=some (RT (.ref f) (.ref y));exact k a _ (.inl rfl) e
 |ext φ=>obtain⟨p,⟨o,e⟩,st⟩:=x;exact⟨st _ _ p fun o q=>k _ _ (.inl rfl) q,⟨o,k _ _ (.inl rfl) e⟩,st⟩
theorem HOk.lt(x:HOk P w H h)(e:H a=some o):a<h.objs.size:=(x a o e).lt
theorem HOk.fresh(x:HOk P w H h)(e:h.objs.size<=a):H a=none:=by
 cases q:H a with
 |none=>rfl
 |some u=>exact absurd (PD (x.lt q) e) (Qy _)
theorem HOk.kept(x:HOk P w H h)(k:∀b u,h.get? b=some u->h'.get? b=some u):HOk P w H h':=fun a o e=>(x a o e).stay (fun b u _ q=>k b u q) (fun _ q=>q) (fun _ _ _ q=>q) fun _ _ q=>q
theorem HOk.laid(x:HOk P w H h)(k:∀b u,h.get? b=some u->h'.get? b=some u)(hp:h.objs.size<=a)(new:bq P w (upd H a o) h' a o):HOk P w (upd H a o) h':=fun b u e=>by
 have hn:=x.fresh hp;by_cases hb:b=a
 ·subst hb;rw[au]at e;cases e;exact new
 ·rw[ak hb]at e;exact(x b u e).stay (fun c v _ q=>k c v q) (fun c q=>by rw[ak (aG q hn)];exact q) (fun c _ _ q=>by rw[ak (aG q hn)];exact q) fun c xs q=>by rw[ak (aG q hn)];exact q
end
def Rd(H:Hp)(a:Addr)(u:HO):Prop:=H a=some u\/∃o,H a=some (.frz o u)
theorem Rd.ok{P:Program}{w:World}{H:Hp}{h:Heap}{a:Addr}{u:HO}(r:Rd H a u)(x:HOk P w H h):bq P w H h a u:=by
 rcases r with r | ⟨o,r⟩
 ·exact x a u r
 ·obtain⟨_,q⟩:=x a _ r;exact q
def Mut:Option HO->Prop
 |some (.lst _)=>True
 |some (.dK _)=>True
 |some (.dT _ _)=>True
 |some (.set _ _)=>True
 |some (.ins _ _ _)=>True
 |some (.ext _)=>True
 |_=>False
section
variable{P:Program}{w:World}{H:Hp}{h h':Heap}{x e:Addr}{o':HO}
theorem HOk.write(ok:HOk P w H h)(mu:Mut (H x))(he:e=x\/H e=some (.own x))(k:∀b u,b≠e->h.get? b=some u->h'.get? b=some u)(heo:∃u,h'.get? e=some u)
  (new:bq P w (upd H x o') h' x o'):HOk P w (upd H x o') h':=fun b u q=>by
 have Lo:∀c y,H c=some (.own y)->c≠x:=fun c y r z=>by subst z;rw[r]at mu;exact mu
 have NZ:∀c xs,H c=some (.tup xs)->c≠x:=fun c xs r z=>by subst z;rw[r]at mu;exact mu
 have N1:∀c o y,H c=some (.frz o y)->c≠x:=fun c o y r z=>by subst z;rw[r]at mu;exact mu
 by_cases hb:b=x
 ·subst hb;rw[au]at q;cases q;exact new
 ·rw[ak hb]at q;by_cases hbe:b=e
  ·have q':H b=some (.own x):=by
    rcases he with z | z
    ·exact absurd (hbe.trans z) hb
    ·rw[hbe];exact z
   rw[q]at q';cases q';obtain⟨v,hv⟩:=heo;exact⟨v,by rw[hbe];exact hv⟩
  ·refine(ok b u q).stay (fun c v hc r=>k c v ?_ r) (fun c r=>by rw[ak (Lo c b r)];exact r) (fun c _ _ r=>by rw[ak (N1 c _ _ r)];exact r) fun c xs r=>by rw[ak (NZ c xs r)];exact r
   rcases hc with rfl | hc
   ·exact hbe
   ·rintro rfl;rcases he with z | z
    ·exact Lo c b hc z
    ·rw[hc]at z;cases z;exact hb rfl
end
structure Un(fs ex:List Addr)(H H':Hp)(h h':Heap):Prop where
 keep:∀b o,h.get? b=some o->H b=none->b∉fs->b∉ex->h'.get? b=some o
 slot:∀b o,h.get? b=some o->H b=none->b∈fs->b∉ex->∃sl,h'.get? b=some { o with slots:=sl }
 free:∀b o,h.get? b=some o->H b=none->b∉ex->H' b=none
 there:∀b o,h.get? b=some o->b∉ex->∃o',h'.get? b=some o'
 tups:∀b xs,H b=some (.tup xs)->H' b=some (.tup xs)
 qP:∀b o u,H b=some (.frz o u)->H' b=some (.frz o u)
 sS:∀b x y z,H b=some (.tbl x y z)->H' b=some (.tbl x y z)
section
variable{fs fs' ex ex':List Addr}{H H1 H2:Hp}{h h1 h2 h':Heap}{a x e:Addr}{o:HO}
theorem Un.any(u:Un fs ex H H1 h h1){b:Addr}{ob:Obj}(q:h.get? b=some ob)(n:H b=none)(hx:b∉ex):∃sl,h1.get? b=some { ob with slots:=sl }:=by
 by_cases hb:b∈fs
 ·exact u.slot b ob q n hb hx
 ·exact⟨ob.slots,u.keep b ob q n hb hx⟩
theorem Un.kept(k:∀b u,h.get? b=some u->h'.get? b=some u):Un fs ex H H h h':=
 ⟨fun b ob q _ _ _=>k b ob q,fun b ob q _ _ _=>⟨ob.slots,k b ob q⟩,fun _ _ _ n _=>n,fun b ob q _=>⟨ob,k b ob q⟩,fun _ _ q=>q,fun _ _ _ q=>q,fun _ _ _ _ q=>q⟩
theorem Un.refl:Un fs ex H H h h:=Un.kept fun _ _ q=>q
theorem Un.laid(k:∀b u,h.get? b=some u->h'.get? b=some u)(hp:h.objs.size<=a)(hn:H a=none):Un fs ex H (upd H a o) h h' where
 keep:=fun b u q _ _ _=>k b u q
 slot:=fun b u q _ _ _=>⟨u.slots,k b u q⟩
 free:=fun b u q n _=>by rw[ak (Qc (PD (Px q) hp))];exact n
 there:=fun b u q _=>⟨u,k b u q⟩
 tups:=fun b xs q=>by rw[ak (aG q hn)];exact q
 qP:=fun b u xs q=>by rw[ak (aG q hn)];exact q
 sS:=fun b _ _ _ q=>by rw[ak (aG q hn)];exact q
theorem Un.write(mu:Mut (H x))(he:e=x\/H e=some (.own x))(k:∀b u,b≠e->h.get? b=some u->h'.get? b=some u)(heo:∃u,h'.get? e=some u):Un fs ex H (upd H x o) h h':=by
 have hx:∀b,H b=none->b≠x:=fun b n z=>by subst z;rw[n]at mu;exact mu
 have hb:∀b,H b=none->b≠e:=fun b n z=>by
  subst z;rcases he with r | r
  ·exact hx b n r
  ·rw[n]at r;cases r
 have hm:∀b u,H b=some u->¬Mut (some u)->b≠x:=fun b u q nm z=>by subst z;rw[q]at mu;exact nm mu
 refine ⟨fun b u q n _ _=>k b u (hb b n) q,fun b u q n _ _=>⟨u.slots,k b u (hb b n) q⟩,fun b u q n _=>by rw [ak (hx b n)];exact n,fun b u q _=>?_,
  fun b xs q=>by rw[ak (hm b _ q fun z=>z)];exact q,fun b u xs q=>by rw[ak (hm b _ q fun z=>z)];exact q,fun b _ _ _ q=>by rw[ak (hm b _ q fun z=>z)];exact q⟩
 by_cases hbe:b=e
 ·subst hbe;exact heo
 ·exact⟨u,k b u hbe q⟩
end
section
variable{b:Addr}{h:Heap}{o:Obj}{H:Hp}
noncomputable def trk(h:Heap)(H:Hp):List Addr:=(Pu h.objs.size).filter fun a=>(H a).isSome
noncomputable def qQ(h:Heap)(H:Hp):Heap:=PySem.W.hideAll h (trk h H)
theorem yT(h:Heap)(H:Hp):(qQ h H).objs.size=h.objs.size:=PySem.W.hideAll_size _ _
theorem Ac(e:h.get? b=some o)(n:H b=none):(qQ h H).get? b=some o:=
 PySem.W.hideAll_get _ e fun hm=>by have q:(H b).isSome=true:=(Qa.mp hm).2;rw[n]at q;simp at q
theorem D7(e:(qQ h H).get? b=some o):h.get? b=some o/\H b=none:=by
 have e':h.get? b=some o:=PySem.W.of_hideAll (trk h H) e;refine⟨e',?_⟩;cases q:H b with
 |none=>rfl
 |some x=>have hm:b∈trk h H:=Qa.mpr ⟨Qp.mpr (Px e'),by simp[q]⟩;have z:(qQ h H).get? b=none:=PySem.W.hideAll_none (trk h H) hm;rw[z]at e;cases e
structure Mod(K:Pf)(mg:Str->Option Value)(base:Heap):Prop where
 kin:K.In base
 glob:base.Ns mainGlobals mg
 blt:∃mb,base.Ns builtinsNs mb/\∀x:Str,x ≠ "__name__" -> mb x=bootBuiltins x
 nolimit:base.NoLimit
structure Cx where
 prog:Program
 w:World
 K:Pf
 mg:Str->Option Value
 base:Heap
 A:Around
 N:List Str
 s₀:Shared
 H₀:Hp
 env:Env
 outer:List Env
 stack:List Env
 ex:List Addr
 fn:Str->Bool
 calm:Bool
 pn:List (Addr×Obj)
 xe:Value->Shared->Prop
noncomputable def frs(l:List Env):List Addr:=l.filterMap (·.frame)
noncomputable abbrev Cx.fs(X:Cx):List Addr:=frs X.outer
def Vis(sc:Scope)(x:Str):Prop:=sc.names.lookup x=some .local\/sc.names.lookup x=some .cell\/sc.names.lookup x=some .free
def Loc(sc:Scope)(x:Str):Prop:=sc.names.lookup x=some .local\/sc.names.lookup x=some .cell
def Look(env:Env)(h:Heap)(m:Str->Option Value)(x:Str)(u:Value):Prop:=
 (env.kindOf x=some .local/\m x=some u)\/((env.kindOf x=some .cell\/env.kindOf x=some .free)/\∃c,env.cells.lookup x=some c/\h.IsCell c (some u))
structure Cx.Ok(X:Cx):Prop where
 mod:Mod X.K X.mg X.base
 kind:X.env.scope.kind=.function
 glob:X.env.globals=mainGlobals
 blt:X.env.builtins=builtinsNs
 above:X.s₀.heap.objs.size<=X.env.locals
 inj:∀x y c,X.env.cells.lookup x=some c->X.env.cells.lookup y=some c->x=y
 has:∀x,(X.env.kindOf x=some .cell\/X.env.kindOf x=some .free)->∃c,X.env.cells.lookup x=some c
 cab:∀x c,X.fn x=true->X.env.cells.lookup x=some c->X.s₀.heap.objs.size<=c
 hd:X.calm=true->X.A.handled=none
 frames:X.A.frames=some X.stack
 stk:X.stack=X.outer\/(X.stack=X.env::X.outer/\X.env.frame=some X.env.locals)
 exf:∀b∈X.ex,b≠X.env.locals/\∀x c,X.env.cells.lookup x=some c->c≠b
 bs:∀b o,X.base.get? b=some o->X.s₀.heap.get? b=some o/\X.H₀ b=none
 bsz:X.base.objs.size<=X.s₀.heap.objs.size
 Ad:∀b o,X.base.get? b=some o->b∉X.ex
 D8:∀b∈X.ex,b∉X.fs
 mK:X.s₀.heap.FunFrames X.base X.outer
 frf:∀b∈X.fs,X.H₀ b=none
structure Inv(X:Cx)(jV:List (Addr×Obj))(σ:List (Option V))(H:Hp)(s:Shared):Prop where
 ok:X.Ok
 os:s.os=X.s₀.os
 bare:AllBare s.gens
 base:Un X.fs X.ex X.H₀ H X.s₀.heap s.heap
 loc:∃m,s.heap.Ns X.env.locals m/\∀(i:Nat) (x:Str) (v:V),X.N[i]?=some x->σ[i]?=some (some v)->Vis X.env.scope x->∃u,RelV v u/\Look X.env s.heap m x u
 cell:∀x c,X.env.cells.lookup x=some c->∃v,s.heap.IsCell c v
 free:H X.env.locals=none
 ig:∀x c,X.env.cells.lookup x=some c->H c=none
 pin:∀p∈X.pn++jV,s.heap.get? p.1=some p.2/\H p.1=none/\p.1≠X.env.locals/\p.1∉X.fs/\∀v,p.2.data≠.cell v
 hok:HOk X.prog X.w H s.heap
 len:σ.length=X.N.length
end
section
variable{X:Cx}{jV:List (Addr×Obj)}{σ:List (Option V)}{H H':Hp}{s:Shared}{h':Heap}
section
variable{ch:List Addr}{x:Str}{u:Value}{a:Addr}{t':Nat}{i:Nat}{v:V}
theorem Cx.Ok.N2(ok:X.Ok){b:Addr}{o:Obj}(e:X.base.get? b=some o):b∉X.fs:=fun hb=>by have:=(ok.mK.mem hb).1;rw[e]at this;cases this
theorem Inv.bs(I:Inv X jV σ H s):∀b o,X.base.get? b=some o->s.heap.get? b=some o/\H b=none:=fun b o e=>⟨I.base.keep b o (I.ok.bs b o e).1 (I.ok.bs b o e).2 (I.ok.N2 e) (I.ok.Ad b o e),I.base.free b o (I.ok.bs b o e).1 (I.ok.bs b o e).2 (I.ok.Ad b o e)⟩
theorem Inv.bk(I:Inv X jV σ H s):∀b o,X.base.get? b=some o->s.heap.get? b=some o:=fun b o e=>(I.bs b o e).1
theorem Inv.mod(I:Inv X jV σ H s):Mod X.K X.mg X.base:=I.ok.mod
theorem Inv.kIn(I:Inv X jV σ H s):X.K.In s.heap:=I.ok.mod.kin.keeps I.bk
theorem Inv.lt(I:Inv X jV σ H s):X.env.locals<s.heap.objs.size:=let ⟨_,hn,_⟩:=I.loc;hn.lt
theorem Inv.sz(I:Inv X jV σ H s):X.s₀.heap.objs.size<=s.heap.objs.size:=PL I.ok.above (RY I.lt)
theorem Inv.N3(I:Inv X jV σ H s)(h:s.heap.objs.size<=a):a∉X.fs:=fun hb=>by obtain⟨_,o,ho,_⟩:=I.ok.mK.mem hb;exact absurd (PD (Px ho) (PL I.sz h)) (Qy _)
theorem Inv.cne(I:Inv X jV σ H s):∀x c,X.env.cells.lookup x=some c->c≠X.env.locals:=fun x c e z=>by obtain⟨v,o,ho,hd⟩:=I.cell x c e;obtain⟨m,⟨o',es,ep,ho',hd',_⟩,_⟩:=I.loc;rw[z,ho']at ho;cases ho;rw[hd']at hd;cases hd
theorem Inv.mK(I:Inv X jV σ H s):s.heap.FunFrames X.base X.outer:=by
 have all:∀(l:List Env),(∀b∈frs l,b∈X.fs)->X.s₀.heap.FunFrames X.base l->s.heap.FunFrames X.base l:=by
  intro l
  induction l with
  |nil=>intro _ _;trivial
  |cons env r ih=>intro hs hl;obtain⟨hk,⟨L,o,hf,hn,ho,hd⟩,hr⟩:=hl;have hL:L∈X.fs:=hs L (by unfold frs;rw[RC,hf];exact Ds);obtain⟨sl,e⟩:=I.base.slot L o ho (I.ok.frf L hL) hL fun z=>I.ok.D8 L z hL;exact⟨hk,⟨L,_,hf,hn,e,hd⟩,ih (fun b hb=>hs b (by unfold frs;rw[RC,hf];exact Pa _ hb)) hr⟩
 exact all X.outer (fun _ hb=>hb) I.ok.mK
theorem Inv.stack(I:Inv X jV σ H s):s.heap.FunFrames X.base X.stack:=by
 rcases I.ok.stk with e | ⟨e,hf⟩
 ·rw[e];exact I.mK
 ·rw[e];obtain⟨m,hn,_⟩:=I.loc;refine .cons (by rw[I.ok.kind];decide) hf hn ?_ I.mK;exact Heap.get?_none_of_le (PL I.ok.bsz I.ok.above)
theorem Inv.vz(I:Inv X jV σ H s):∀b∈frs X.stack,b∈X.env.locals::X.fs:=fun b hb=>by
 rcases I.ok.stk with e | ⟨e,hf⟩
 ·rw[e]at hb;exact Pa _ hb
 ·rw[e]at hb;unfold frs at hb;rw[RC,hf]at hb;exact hb
theorem Inv.xA(I:Inv X jV σ H s):∀b∈frs X.stack,H b=none:=fun b hb=>by
 rcases Pk.mp (I.vz b hb) with e | hb
 ·rw[e];exact I.free
 ·obtain⟨_,o,ho,_⟩:=I.ok.mK.mem hb;exact I.base.free b o ho (I.ok.frf b hb) fun z=>I.ok.D8 b z hb
theorem Inv.step{g':Array GenState}{t':Nat}{d':Drawn}{ch:List Addr}(I:Inv X jV σ H s)
  (hch:∀b∈ch,(b∈X.ex\/X.s₀.heap.objs.size<=b)/\b≠X.env.locals/\(∀x c,X.env.cells.lookup x=some c->c≠b)/\∀p∈X.pn++jV,p.1≠b)
  (keep:∀b o,b≠X.env.locals->b∉X.fs->b∉ch->s.heap.get? b=some o->H b=none->h'.get? b=some o)
  (slot:∀b o,b≠X.env.locals->b∈X.fs->b∉ch->s.heap.get? b=some o->H b=none->∃sl,h'.get? b=some { o with slots:=sl }) (free:∀b o,b∉ch->s.heap.get? b=some o->H b=none->H' b=none)
  (there:∀b o,b∉ch->s.heap.get? b=some o->∃o',h'.get? b=some o')
  (tups:∀b xs,H b=some (.tup xs)->H' b=some (.tup xs)) (qP:∀b o u,H b=some (.frz o u)->H' b=some (.frz o u)) (sS:∀b x y z,H b=some (.tbl x y z)->H' b=some (.tbl x y z))
  (ns:∀m,s.heap.Ns X.env.locals m->h'.Ns X.env.locals m) (hok:HOk X.prog X.w H' h') (hg:AllBare g') :
  Inv X jV σ H' { s with heap:=h',gens:=g',drawn:=d',toks:=t' }:=by
 have neL:∀b o,X.s₀.heap.get? b=some o->b≠X.env.locals:=fun b o e=>Qc (PD (Px e) I.ok.above);have neC:∀b o,X.s₀.heap.get? b=some o->b∉X.ex->b∉ch:=fun b o e hx hb=>by
  rcases (hch b hb).1 with z | z
  ·exact hx z
  ·exact absurd (PD (Px e) z) (Qy _)
 have cellK:∀x c,X.env.cells.lookup x=some c->∀v,s.heap.IsCell c v->h'.IsCell c v:=fun x c e v ⟨o,ho,hd⟩=>by
  have nch:c∉ch:=fun z=>(hch c z).2.2.1 x c e rfl;by_cases hc:c∈X.fs
  ·obtain⟨sl,q⟩:=slot c o (I.cne x c e) hc nch ho (I.ig x c e);exact⟨_,q,hd⟩
  ·exact⟨o,keep c o (I.cne x c e) hc nch ho (I.ig x c e),hd⟩
 refine⟨I.ok,I.os,hg,⟨fun b o e n hb hx=>?_,fun b o e n hb hx=>?_,fun b o e n hx=>?_,fun b o e hx=>?_,fun b xs e=>tups b xs (I.base.tups b xs e),fun b o xs e=>qP b o xs (I.base.qP b o xs e),fun b x y z e=>?_⟩,?_,fun x c e=>?_,?_,fun x c e=>?_,fun p hp=>?_,hok,I.len⟩
 ·exact keep b o (neL b o e) hb (neC b o e hx) (I.base.keep b o e n hb hx) (I.base.free b o e n hx)
 ·obtain⟨sl,e1⟩:=I.base.slot b o e n hb hx;obtain⟨sl',e2⟩:=slot b _ (neL b o e) hb (neC b o e hx) e1 (I.base.free b o e n hx);exact⟨sl',e2⟩
 ·obtain⟨o',e1⟩:=I.base.there b o e hx;exact free b o' (neC b o e hx) e1 (I.base.free b o e n hx)
 ·obtain⟨o',e1⟩:=I.base.there b o e hx;exact there b o' (neC b o e hx) e1
 ·exact sS _ _ _ _ (I.base.sS _ _ _ _ e)
 ·obtain⟨m,hn,hl⟩:=I.loc;refine⟨m,ns m hn,fun i x v e1 e2 e3=>?_⟩;obtain⟨u,r,l⟩:=hl i x v e1 e2 e3;refine⟨u,r,?_⟩;rcases l with l | ⟨k,c,e,z⟩
  ·exact .inl l
  ·exact .inr ⟨k,c,e,cellK x c e _ z⟩
 ·obtain⟨v,z⟩:=I.cell x c e;exact⟨v,cellK x c e v z⟩
 ·obtain⟨m,⟨o,_,_,ho,_⟩,_⟩:=I.loc;exact free _ o (fun z=>(hch _ z).2.1 rfl) ho I.free
 ·obtain⟨v,o,ho,hd⟩:=I.cell x c e;exact free c o (fun z=>(hch c z).2.2.1 x c e rfl) ho (I.ig x c e)
 ·obtain⟨e,n,ne,nf,d⟩:=I.pin p hp;have nch:p.1∉ch:=fun z=>(hch p.1 z).2.2.2 p hp rfl;exact⟨keep p.1 p.2 ne nf nch e n,free p.1 p.2 nch e n,ne,nf,d⟩
theorem Inv.un(I:Inv X jV σ H s)(u:Un X.fs [] H H' s.heap h')(hok:HOk X.prog X.w H' h'):Inv X jV σ H' { s with heap:=h',toks:=t' }:=by
 obtain⟨m,⟨o,es,ep,ho,r⟩,_⟩:=id I.loc;obtain⟨sl,hL⟩:=u.any ho I.free (by simp);exact I.step (g':=s.gens) (d':=s.drawn) (ch:=[]) (fun _ z=>nomatch z) (fun b o _ hb _ e n=>u.keep b o e n hb (by simp)) (fun b o _ hb _ e n=>u.slot b o e n hb (by simp)) (fun b o _ e n=>u.free b o e n (by simp)) (fun b o _ e=>u.there b o e (by simp)) u.tups u.qP u.sS (fun m' hm=>by obtain⟨o',es',ep',ho',r'⟩:=hm;rw[ho]at ho';cases ho';exact⟨_,es',ep',hL,r'⟩) hok I.bare
theorem Inv.call{g':Array GenState}{t':Nat}{d':Drawn}(I:Inv X jV σ H s)(u:Un (frs X.stack) ch H H' s.heap h')(hok:HOk X.prog X.w H' h')(hg:AllBare g')
  (hch:∀b∈ch,(b∈X.ex\/X.s₀.heap.objs.size<=b)/\b≠X.env.locals/\(∀x c,X.env.cells.lookup x=some c->c≠b)/\∀p∈X.pn++jV,p.1≠b) :
  Inv X jV σ H' { s with heap:=h',gens:=g',drawn:=d',toks:=t' }:=by
 obtain⟨m,⟨o,es,ep,ho,r⟩,_⟩:=id I.loc;obtain⟨sl,hL⟩:=u.any ho I.free fun z=>(hch _ z).2.1 rfl;exact I.step (ch:=ch) hch (fun b o hL hb hc e n=>u.keep b o e n (fun z=>(Pk.mp (I.vz b z)).elim hL hb) hc) (fun b o _ _ hc e n=>u.any e n hc) (fun b o hc e n=>u.free b o e n hc) (fun b o hc e=>u.there b o e hc) u.tups u.qP u.sS (fun m' hm=>by obtain⟨o',es',ep',ho',r'⟩:=hm;rw[ho]at ho';cases ho';exact⟨_,es',ep',hL,r'⟩) hok hg
theorem Inv.turned{t':Nat}{it:Addr}(I:Inv X jV σ H s)(k:∀b o,b≠it->s.heap.get? b=some o->h'.get? b=some o)(hn:H it=none)(hL:it≠X.env.locals)
  (h1:it∈X.ex\/X.s₀.heap.objs.size<=it) (h2:∀x c,X.env.cells.lookup x=some c->c≠it) (h3:∀p∈X.pn++jV,p.1≠it):Inv X jV σ H { s with heap:=h',toks:=t' }:=by
 have nit:∀b u,H b=some u->b≠it:=fun b u e z=>by rw[z,hn]at e;cases e
 refine I.step (g':=s.gens) (d':=s.drawn) (ch:=[it]) (fun b hb=>?_) (fun b o _ _ hc e _=>k b o (fun z=>hc (by simp[z])) e) (fun b o _ _ hc e _=>⟨o.slots,k b o (fun z=>hc (by simp[z])) e⟩) (fun _ _ _ _ n=>n)
  (fun b o hc e=>⟨o,k b o (fun z=>hc (by simp[z])) e⟩) (fun _ _ e=>e) (fun _ _ _ e=>e) (fun _ _ _ _ e=>e) (fun m hm=>?_) (fun b u e=>?_) I.bare
 ·have e:b=it:=by simpa using hb
  subst e;exact⟨h1,hL,h2,h3⟩
 ·obtain⟨o,es,ep,ho,r⟩:=hm;exact⟨o,es,ep,k _ o (Ne.symm hL) ho,r⟩
 ·refine(I.hok b u e).stay (fun c v hc q=>k c v ?_ q) (fun _ q=>q) (fun _ _ _ q=>q) fun _ _ q=>q;rcases hc with z | z
  ·rw[z];exact nit b u e
  ·exact nit c _ z
theorem Inv.tok(I:Inv X jV σ H s)(t:Nat):Inv X jV σ H { s with toks:=t }:=I.un (h':=s.heap) (t':=t) Un.refl I.hok
theorem Inv.kept(I:Inv X jV σ H s)(k:∀b u,s.heap.get? b=some u->h'.get? b=some u):Inv X jV σ H { s with heap:=h',toks:=t' }:=I.un (Un.kept k) (I.hok.kept k)
theorem Inv.laid{o:HO}{t':Nat}(I:Inv X jV σ H s)(k:∀b u,s.heap.get? b=some u->h'.get? b=some u)(hp:s.heap.objs.size<=a)(new:bq X.prog X.w (upd H a o) h' a o) :
  Inv X jV σ (upd H a o) { s with heap:=h',toks:=t' }:=I.un (Un.laid k hp (I.hok.fresh hp)) (I.hok.laid k hp new)
theorem Inv.write{x e:Addr}{o:HO}{t':Nat}(I:Inv X jV σ H s)(mu:Mut (H x))(he:e=x\/H e=some (.own x))(k:∀b u,b≠e->s.heap.get? b=some u->h'.get? b=some u)(heo:∃u,h'.get? e=some u)
  (new:bq X.prog X.w (upd H x o) h' x o):Inv X jV σ (upd H x o) { s with heap:=h',toks:=t' }:=I.un (Un.write mu he k heo) (I.hok.write mu he k heo new)
theorem Inv.xB{GA:List (Addr×Obj)}(I:Inv X jV σ H s)(h:∀p∈GA,s.heap.get? p.1=some p.2/\H p.1=none/\p.1≠X.env.locals/\p.1∉X.fs/\∀v,p.2.data≠.cell v):Inv X GA σ H s:=
 ⟨I.ok,I.os,I.bare,I.base,I.loc,I.cell,I.free,I.ig,fun p hp=>(PV.mp hp).elim (fun z=>I.pin p (PK _ z)) (h p),I.hok,I.len⟩
theorem sV{N:List Str}(hN:N.Nodup){i j:Nat}(a:N[i]?=some x)(b:N[j]?=some x):i=j:=by obtain⟨h1,e1⟩:=Ph.mp a;obtain⟨h2,e2⟩:=Ph.mp b;exact(List.getElem_inj hN).mp (e1.trans e2.symm)
theorem pU{M:Model}{A:Around}{E:Value->Shared->Prop}{Q:Unit->Shared->Prop}(I:Inv X jV σ H s)(hN:X.N.Nodup)(hi:X.N[i]?=some x)(hx:Loc X.env.scope x)(r:RelV v u)
  (h:∀s',Inv X jV (σ.set i (some v)) H s'->(∃a,Sh a s.heap s'.heap/\(a=X.env.locals\/X.env.cells.lookup x=some a))->Q () s') (hf:X.fn x=true\/X.env.scope.names.lookup x=some .local:=by trivial):wpAny M A (storeName X.env x u) Q E s:=by
 obtain⟨m,hn,hl⟩:=id I.loc;have hcls:(X.env.scope.kind == .class||(X.env.scope.kind == .module&&X.env.locals != X.env.globals))=false:=by rw[I.ok.kind];rfl
 have hiσ:i<σ.length:=by rw[I.len];exact(Ph.mp hi).1
 have cne:=I.cne;have tracked:∀{a:Addr} {h':Heap},(∃o,s.heap.get? a=some o/\H a=none)->Sh a s.heap h'->HOk X.prog X.w H h':=fun {a h'} ha hs b ob e=>by
  obtain⟨_,_,hfree⟩:=ha;refine(I.hok b ob e).stay (fun c w' hc q=>(hs.2 c ?_).trans q) (fun _ q=>q) (fun _ _ _ q=>q) fun _ _ q=>q;rintro rfl;rcases hc with rfl | hc
  ·rw[hfree]at e;cases e
  ·rw[hfree]at hc;cases hc
 rcases hx with hk | hk
 ·refine wpAny_storeName_local hk hn (fun h' hn' hs=>?_) hcls;obtain⟨oL,_,_,hoL,_⟩:=id hn;refine h _ ⟨I.ok,I.os,I.bare,⟨fun b o e n hb hx=>?_,fun b o e n hb hx=>?_,I.base.free,fun b o e hx=>?_,I.base.tups,I.base.qP,I.base.sS⟩,⟨_,hn',fun j y v' e1 e2 e3=>?_⟩,fun y c e=>?_,I.free,I.ig,fun p hp=>?_,tracked ⟨oL,hoL,I.free⟩ hs,by simpa using I.len⟩ ⟨_,hs,.inl rfl⟩
  ·exact(hs.2 b (Qc (PD (Px e) I.ok.above))).trans (I.base.keep b o e n hb hx)
  ·obtain⟨sl,e1⟩:=I.base.slot b o e n hb hx;exact⟨sl,(hs.2 b (Qc (PD (Px e) I.ok.above))).trans e1⟩
  ·obtain⟨o',e1⟩:=I.base.there b o e hx;exact⟨o',(hs.2 b (Qc (PD (Px e) I.ok.above))).trans e1⟩
  ·by_cases hj:j=i
   ·subst hj;rw[hi]at e1;cases e1;rw[PM hiσ]at e2;cases e2;exact⟨u,r,.inl ⟨hk,by simp⟩⟩
   ·rw[Dk (Ne.symm hj)]at e2;obtain⟨u',r',q⟩:=hl j y v' e1 e2 e3;refine⟨u',r',?_⟩;rcases q with⟨k,e⟩ | ⟨k,c,e,z⟩
    ·refine .inl ⟨k,?_⟩;have:y≠x:=fun e=>hj (sV hN e1 (e▸hi));simp[this,e]
    ·exact .inr ⟨k,c,e,z.sameBut hs (cne y c e)⟩
  ·obtain⟨w',z⟩:=I.cell y c e;exact⟨w',z.sameBut hs (cne y c e)⟩
  ·obtain⟨e,n,ne,nf,d⟩:=I.pin p hp;exact⟨(hs.2 p.1 ne).trans e,n,ne,nf,d⟩
 ·have hfn:X.fn x=true:=by
   rcases hf with z | z
   ·exact z
   ·rw[z]at hk;cases hk
  obtain⟨c,hc⟩:=I.ok.has x (.inl hk);obtain⟨w',z⟩:=I.cell x c hc;refine wpAny_storeName_cell I.ok.kind hk hc z (fun h' hc' hs=>?_);obtain⟨oc,hoc,N4⟩:=id z;refine h { s with heap:=h' } ⟨I.ok,I.os,I.bare,⟨fun b o e n hb hx=>?_,fun b o e n hb hx=>?_,I.base.free,fun b o e hx=>?_,I.base.tups,I.base.qP,I.base.sS⟩,⟨m,hn.sameBut hs (Ne.symm (cne x c hc)),fun j y v' e1 e2 e3=>?_⟩,fun y c' e=>?_,I.free,I.ig,fun p hp=>?_,tracked ⟨oc,hoc,I.ig x c hc⟩ hs,by simpa using I.len⟩ ⟨c,hs,.inr hc⟩
  ·exact(hs.2 b (Qc (PD (Px e) (I.ok.cab x c hfn hc)))).trans (I.base.keep b o e n hb hx)
  ·obtain⟨sl,e1⟩:=I.base.slot b o e n hb hx;exact⟨sl,(hs.2 b (Qc (PD (Px e) (I.ok.cab x c hfn hc)))).trans e1⟩
  ·obtain⟨o',e1⟩:=I.base.there b o e hx;exact⟨o',(hs.2 b (Qc (PD (Px e) (I.ok.cab x c hfn hc)))).trans e1⟩
  ·by_cases hj:j=i
   ·subst hj;rw[hi]at e1;cases e1;rw[PM hiσ]at e2;cases e2;exact⟨u,r,.inr ⟨.inl hk,c,hc,hc'⟩⟩
   ·rw[Dk (Ne.symm hj)]at e2;obtain⟨u',r',q⟩:=hl j y v' e1 e2 e3;refine⟨u',r',?_⟩;rcases q with q | ⟨k,c',e,z'⟩
    ·exact .inl q
    ·refine .inr ⟨k,c',e,z'.sameBut hs ?_⟩;rintro rfl;exact hj (sV hN e1 (I.ok.inj _ _ _ e hc▸hi))
  ·by_cases hcc:c'=c
   ·subst hcc;exact⟨_,hc'⟩
   ·obtain⟨w2,z2⟩:=I.cell y c' e;exact⟨w2,z2.sameBut hs hcc⟩
  ·obtain⟨e,n,ne,nf,d⟩:=I.pin p hp;refine⟨(hs.2 p.1 ?_).trans e,n,ne,nf,d⟩;intro q;rw[q,hoc]at e;have q':oc=p.2:=Option.some.inj e;exact d w' (by rw[<- q'];exact N4)
theorem sW{M:Model}{A:Around}{E:Value->Shared->Prop}{Q:Unit->Shared->Prop}(I:Inv X jV σ H s)(hN:X.N.Nodup)(hi:X.N[i]?=some x)(hx:Loc X.env.scope x)(r:RelV v u)
  (h:∀s',Inv X jV (σ.set i (some v)) H s'->Q () s') (hf:X.fn x=true\/X.env.scope.names.lookup x=some .local:=by trivial):wpAny M A (storeName X.env x u) Q E s:=
 pU I hN hi hx r (fun s' I' _=>h s' I') hf
theorem Inv.Lp{s':Shared}(I:Inv X jV σ H s)(ho:s'.os=s.os)(u:Un (frs X.stack) ch H H' s.heap s'.heap)(hok:HOk X.prog X.w H' s'.heap)(hg:AllBare s'.gens)
  (hch:∀b∈ch,(b∈X.ex\/X.s₀.heap.objs.size<=b)/\b≠X.env.locals/\(∀x c,X.env.cells.lookup x=some c->c≠b)/\∀p∈X.pn++jV,p.1≠b):Inv X jV σ H' s':=by
 obtain⟨h',g',d',t',o'⟩:=s';have e:o'=s.os:=ho;subst e;exact I.call (g':=g') (t':=t') (d':=d') u hok hg hch
end
end
noncomputable abbrev XK:=Value->Option Addr->Hp->Prop
noncomputable abbrev St:=List (Option V)
noncomputable abbrev VK:=V->Hp->Prop
noncomputable abbrev TE:=St->Hp->VK->Prop
noncomputable abbrev TT:=St->Hp->(Bool->Hp->Prop)->Prop
noncomputable abbrev TA:=St->Hp->(List V->Hp->Prop)->Prop
structure Ends where
 nx:St->Hp->Prop
 rt:VK
 bk:St->Hp->Prop:=fun _ _=>False
 ct:St->Hp->Prop:=fun _ _=>False
noncomputable abbrev TS:=Ends->St->Hp->Prop
def EP(X:Cx)(jV:List (Addr×Obj))(σ:St)(Q:VK)(u:Value)(s':Shared):Prop:=∃v H',Inv X jV σ H' s'/\RelV v u/\Q v H'
def TP(X:Cx)(jV:List (Addr×Obj))(σ:St)(Q:Bool->Hp->Prop)(b:Bool)(s':Shared):Prop:=∃H',Inv X jV σ H' s'/\Q b H'
def AP(X:Cx)(jV:List (Addr×Obj))(σ:St)(Q:List V->Hp->Prop)(us:List Value)(s':Shared):Prop:=∃vs H',Inv X jV σ H' s'/\Vals vs us/\Q vs H'
def SP(X:Cx)(jV:List (Addr×Obj))(D:Ends)(f:Flow)(s':Shared):Prop:=
 match f with
 |.next=>∃σ' H',Inv X jV σ' H' s'/\D.nx σ' H'
 |.brk=>∃σ' H',Inv X jV σ' H' s'/\D.bk σ' H'
 |.cont=>∃σ' H',Inv X jV σ' H' s'/\D.ct σ' H'
 |.ret u=>∃v σ' H',Inv X jV σ' H' s'/\RelV v u/\D.rt v H'
def PE(X:Cx)(e:Expr)(t:TE):Prop:=
 ∀(jV:List (Addr×Obj)) (s:Shared) (σ:St) (H:Hp) (Q:VK),Inv X jV σ H s->t σ H Q->wpAny (model X.prog X.w) X.A (eval e X.env) (EP X jV σ Q) X.xe s
def PT(X:Cx)(e:Expr)(t:TT):Prop:=
 ∀(jV:List (Addr×Obj)) (s:Shared) (σ:St) (H:Hp) (Q:Bool->Hp->Prop),Inv X jV σ H s->t σ H Q->wpAny (model X.prog X.w) X.A (isTrue e X.env (eval e X.env)) (TP X jV σ Q) X.xe s
def PW(X:Cx)(e:Expr)(t:TT):Prop:=
 ∀(whole:Sem Value) (jV:List (Addr×Obj)) (s:Shared) (σ:St) (H:Hp) (Q:Bool->Hp->Prop),Inv X jV σ H s->t σ H Q->wpAny (model X.prog X.w) X.A (isTrue e X.env whole) (TP X jV σ Q) X.xe s
theorem PW.pt{X:Cx}{e:Expr}{t:TT}(h:PW X e t):PT X e t:=h _
def PA(X:Cx)(es:List Expr)(t:TA):Prop:=
 ∀(pos:Pos) (jV:List (Addr×Obj)) (s:Shared) (σ:St) (H:Hp) (Q:List V->Hp->Prop),Inv X jV σ H s->t σ H Q->wpAny (model X.prog X.w) X.A (spliced (backTo pos (starEach es X.env))) (AP X jV σ Q) X.xe s
def PS(X:Cx)(st:Stmt)(t:TS):Prop:=
 ∀(jV:List (Addr×Obj)) (s:Shared) (σ:St) (H:Hp) (D:Ends),Inv X jV σ H s->t D σ H->wpAny (model X.prog X.w) X.A (exec st X.env) (SP X jV D) X.xe s
def PSs(X:Cx)(st:List Stmt)(t:TS):Prop:=
 ∀(jV:List (Addr×Obj)) (s:Shared) (σ:St) (H:Hp) (D:Ends),Inv X jV σ H s->t D σ H->wpAny (model X.prog X.w) X.A (execs st X.env) (SP X jV D) X.xe s
theorem thn{α:Type}{t:Sem α}{Q Q':α->Shared->Prop}{M:Model}{A:Around}{E:Value->Shared->Prop}{s:Shared}(h:wpAny M A t Q E s)(hQ:∀a s,Q a s->Q' a s):wpAny M A t Q' E s:=wpAny_mono h hQ fun _ _ x=>x
section
variable{X:Cx}
section
variable{Q:Value->Shared->Prop}{jV:List (Addr×Obj)}{u:Value}{x:Str}{s:Shared}{t:TE}{H:Hp}{σ:St}{v:V}
def eO(i:Nat):TE:=fun σ H Q=>∃v,σ[i]?=some (some v)/\Q v H
def tC(v:V):TE:=fun _ H Q=>Q v H
theorem bM{i:Nat}{pos:Pos}(hN:X.N[i]?=some x)(hv:Vis X.env.scope x)(hd:(x == ("__debug__" : Str))=false:=by decide)(G3:(x == ("__classdict__" : Str))=false:=by decide):PE X (.Name x pos) (eO i):=by
 intro jV s σ H Q I h;obtain⟨v,e,h⟩:=h;obtain⟨m,hn,hl⟩:=I.loc;obtain⟨u,r,l⟩:=hl i x v hN e hv;have Ks:EP X jV σ Q u s:=⟨v,H,I,r,h⟩
 rcases l with⟨hk,hm⟩ | ⟨hk,c,hc,hcell⟩
 ·exact wpAny_Name (wpAny_loadName_local I.ok.kind hk hn hm Ks) hd
 ·rcases hk with hk | hk
  ·exact wpAny_Name (wpAny_loadName_cell I.ok.kind hk hc hcell Ks) hd
  ·exact wpAny_Name (wpAny_loadName_free I.ok.kind hk hc hcell Ks G3) hd
theorem kj{i j pos}:PE X (.Constant (.int i) j pos) (tC (.int i)):=fun _ _ _ H _ I h=>wpAny_Constant_int ⟨.int i,H,I.tok _,⟨_,rfl⟩,h⟩
theorem Lq{b j pos}:PE X (.Constant (.bool b) j pos) (tC (.bl b)):=fun _ _ _ H _ I h=>Constant_bool ⟨.bl b,H,I,rfl,h⟩
theorem Ic{j pos}:PE X (.Constant .none j pos) (tC .non):=fun _ _ _ H _ I h=>Constant_none ⟨.non,H,I,rfl,h⟩
def Gl(X:Cx)(x:Str):Prop:=X.env.kindOf x=some .globalImplicit
theorem xC{E:Value->Shared->Prop}{pos:Pos}(I:Inv X jV σ H s)(hg:Gl X x)(hm:X.mg x=some u)(h:Q u s)
  (hd:(x == ("__debug__" : Str))=false:=by decide):wpAny (model X.prog X.w) X.A (eval (.Name x pos) X.env) Q E s:=
 Calls.Name_function_global I.ok.kind hg (Calls.loadGlobal_global (by rw[I.ok.glob];exact I.mod.glob.keeps I.bk) hm h) hd
theorem ko{E:Value->Shared->Prop}{pos:Pos}(I:Inv X jV σ H s)(hg:Gl X x)(hm:X.mg x=none)(hv:bootBuiltins x=some u)(h:Q u s)
  (hn:x ≠ "__name__" := by decide) (hd:(x == ("__debug__" : Str))=false:=by decide):wpAny (model X.prog X.w) X.A (eval (.Name x pos) X.env) Q E s:=by
 obtain⟨mb,h1,h2⟩:=I.mod.blt;exact Calls.Name_function_global I.ok.kind hg (Calls.loadGlobal_builtin (by rw[I.ok.glob];exact I.mod.glob.keeps I.bk) hm (by rw[I.ok.blt];exact h1.keeps I.bk) ((h2 x hn).trans hv) h) hd
theorem D9{pos:Pos}(hg:Gl X x)(hm:X.mg x=some u)(r:RelV v u)(hd:(x == ("__debug__" : Str))=false:=by decide):PE X (.Name x pos) (tC v):=
 fun _ _ _ H _ I h=>xC I hg hm ⟨v,H,I,r,h⟩ hd
theorem D_{pos:Pos}(hg:Gl X x)(hm:X.mg x=none)(hv:bootBuiltins x=some u)(r:RelV v u)(hn:x ≠ "__name__" := by decide)(hd:(x == ("__debug__" : Str))=false:=by decide):PE X (.Name x pos) (tC v):=
 fun _ _ _ H _ I h=>ko I hg hm hv ⟨v,H,I,r,h⟩ hn hd
variable{a b:Expr}{ta tb:TE}{pos:Pos}
def PC(X:Cx)(op:CmpOp)(a b:Expr)(t:TE):Prop:=
 ∀(jV:List (Addr×Obj)) (s:Shared) (σ:St) (H:Hp) (Q:VK),Inv X jV σ H s->t σ H Q ->
  wpAny (model X.prog X.w) X.A (eval a X.env) (fun v s₁=>wpAny (model X.prog X.w) X.A (eval b X.env) (fun u s₂=>wpAny (model X.prog X.w) X.A (compareOp op v u) (EP X jV σ Q) X.xe s₂) X.xe s₁) X.xe s
def tB(t:TE):TT:=fun σ H Q=>t σ H fun x H1=>∃c,x=.bl c/\Q c H1
theorem Ae{op:CmpOp}(h:PC X op a b t)(h1:behindInMarks op b=false:=by first | exact Lr _ (by decide) (by decide) | rfl):PT X (.Compare a [op] [b] pos) (tB t):=by intro jV s σ H Q I hw;refine wpAny_isTrue_Compare1 (thn (h jV s σ H _ I hw) fun v s1 h1=>thn h1 fun u s2 h2=>thn h2 fun c s3 ⟨x,H1,I1,r1,q1⟩=>?_) h1;obtain⟨d,rfl,q⟩:=q1;cases r1;exact wpAny_truthy_bool ⟨H1,I1,q⟩
theorem Af{e:Expr}(h:PE X e t)(he:∀whole,isTrue e X.env whole=(do let v <- whole;standAt e.pos;holding [v] (truthy v)):=by intro _;rfl):PT X e (tB t):=by intro jV s σ H Q I hw;refine isTrue_plain (thn (h jV s σ H _ I hw) fun v s1 ⟨x,H1,I1,r1,q1⟩=>?_) (he _);obtain⟨d,rfl,q⟩:=q1;cases r1;exact wpAny_truthy_bool ⟨H1,I1,q⟩
variable{tA tB':TT}{BZ:List Expr}
def iE(t u:TT):TT:=fun σ H Q=>t σ H fun c H1=>if c=true then u σ H1 Q else Q false H1
def tOr(t u:TT):TT:=fun σ H Q=>t σ H fun c H1=>if c=true then Q true H1 else u σ H1 Q
def cA(t:TT):TT:=fun σ H Q=>t σ H fun c H1=>Q (!c) H1
theorem pw_and1(ha:PT X a tA):PW X (.BoolOp .And [a] pos) tA:=by
 intro wh jV s σ H Q I h;refine isTrue_and (thn (ha jV s σ H Q I h) fun c s1 e=>?_);cases c with
 |true=>exact isTrue_and_nil e
 |false=>exact e
theorem pw_or1(ha:PT X a tA):PW X (.BoolOp .Or [a] pos) tA:=by
 intro wh jV s σ H Q I h;refine isTrue_or (thn (ha jV s σ H Q I h) fun c s1 e=>?_);cases c with
 |false=>exact isTrue_or_nil e
 |true=>exact e
theorem pw_and(ha:PT X a tA)(hb:PW X (.BoolOp .And (b::BZ) pos) tB'):PW X (.BoolOp .And (a::b::BZ) pos) (iE tA tB'):=by
 intro wh jV s σ H Q I h;refine isTrue_and (thn (ha jV s σ H _ I h) fun c s1 ⟨H1,I1,q1⟩=>?_);cases c with
 |true=>exact hb wh jV s1 σ H1 Q I1 q1
 |false=>exact⟨H1,I1,q1⟩
theorem pw_or(ha:PT X a tA)(hb:PW X (.BoolOp .Or (b::BZ) pos) tB'):PW X (.BoolOp .Or (a::b::BZ) pos) (tOr tA tB'):=by
 intro wh jV s σ H Q I h;refine isTrue_or (thn (ha jV s σ H _ I h) fun c s1 ⟨H1,I1,q1⟩=>?_);cases c with
 |true=>exact⟨H1,I1,q1⟩
 |false=>exact hb wh jV s1 σ H1 Q I1 q1
theorem Ag(ha:PT X a tA):PT X (.UnaryOp .Not a pos) (cA tA):=by intro jV s σ H Q I h;exact isTrue_not (ha jV s σ H (fun c H1=>Q (!c) H1) I h)
def GB(ta tb:TE):TE:=fun σ H Q=>ta σ H fun x H1=>∃c,x=.bl c/\if c=true then tb σ H1 Q else Q (.bl false) H1
def GC(ta:TE):TE:=fun σ H Q=>ta σ H fun x H1=>∃c,x=.bl c/\Q (.bl (!c)) H1
theorem Ie{op}(h:PE X a t):PE X (.BoolOp op [a] pos) t:=fun jV s σ H Q I hw=>BoolOp_one (h jV s σ H Q I hw)
theorem Ig(ha:PE X a ta)(hb:PE X (.BoolOp .And (b::BZ) pos) tb):PE X (.BoolOp .And (a::b::BZ) pos) (GB ta tb):=by
 intro jV s σ H Q I h;refine BoolOp_and (thn (ha jV s σ H _ I h) fun v s1 ⟨x,H1,I1,r1,q1⟩=>?_);obtain⟨c,rfl,q1⟩:=q1;cases r1;refine wpAny_truthy_bool ?_;cases c with
 |true=>exact hb jV s1 σ H1 Q I1 q1
 |false=>exact⟨.bl false,H1,I1,rfl,q1⟩
theorem Ih(ha:PE X a ta):PE X (.UnaryOp .Not a pos) (GC ta):=by intro jV s σ H Q I h;refine UnaryOp_ (thn (ha jV s σ H _ I h) fun v s1 ⟨x,H1,I1,r1,q1⟩=>?_);obtain⟨c,rfl,q1⟩:=q1;cases r1;exact not_of (wpAny_truthy_bool ⟨.bl (!c),H1,I1,rfl,q1⟩)
def tIf(t:TT)(ta tb:TE):TE:=fun σ H Q=>t σ H fun c H1=>if c=true then ta σ H1 Q else tb σ H1 Q
theorem Ah{c:Expr}(hc:PT X c tA)(ha:PE X a ta)(hb:PE X b tb):PE X (.IfExp c a b pos) (tIf tA ta tb):=by
 intro jV s σ H Q I h;refine wpAny_IfExp (thn (hc jV s σ H _ I h) fun d s1 ⟨H1,I1,q1⟩=>?_);cases d with
 |true=>exact ha jV s1 σ H1 Q I1 q1
 |false=>exact hb jV s1 σ H1 Q I1 q1
end
end
def SqL(K:Pf)(H:Hp)(a:Addr)(xs:List V):Prop:=
 Rd H a (.lst xs) \/
  ∃(o:Obj) (its:Array Value) (n:Nat),K.lookup a=some o/\o.cls=.type "list" /\ o.dict=none/\o.data=.seq its n/\its.size<=sizeLine/\Vals xs its.toList
def SqT(K:Pf)(H:Hp)(a:Addr)(xs:List V):Prop:=
 Rd H a (.tup xs) \/
  ∃(o:Obj) (its:Array Value) (n:Nat),K.lookup a=some o/\o.cls=.type "tuple" /\ o.data=.seq its n/\its.size<=sizeLine/\Vals xs its.toList
noncomputable def N5:Value->Option V
 |.none=>some .non
 |.bool b=>some (.bl b)
 |.int i _=>some (.int i)
 |.str x _=>some (.str x)
 |.bytes b _=>some (.byt b)
 |.float b _=>some (.flt b)
 |.ref a=>some (.ref a)
 |.type n=>some (.ty n)
 |_=>none
theorem RelV.abs{x:V}{u:Value}(r:RelV x u):N5 u=some x:=by
 cases x with
 |non=>cases r;rfl
 |bl _=>cases r;rfl
 |int _=>obtain⟨t,rfl⟩:=r;rfl
 |str _=>obtain⟨t,rfl⟩:=r;rfl
 |byt _=>obtain⟨t,rfl⟩:=r;rfl
 |flt _=>obtain⟨t,rfl⟩:=r;rfl
 |ref _=>cases r;rfl
 |ty _=>cases r;rfl
theorem RelV.inj{x y:V}{u:Value}(r:RelV x u)(q:RelV y u):x=y:=Option.some.inj (r.abs.symm.trans q.abs)
theorem Vals.inj:∀{xs ys:List V} {us:List Value},Vals xs us->Vals ys us->xs=ys
 |_,_,_,.nil,.nil=>rfl
 |_,_,_,.cons r t,.cons r' t'=>by rw[r.inj r',Vals.inj t t']
section
variable{X:Cx}{jV:List (Addr×Obj)}{σ:St}{H:Hp}{s:Shared}{a:Addr}{xs ys:List V}
theorem SqT.of{K:Pf}(h:H a=some (.tup xs)):SqT K H a xs:=.inl (.inl h)
theorem Inv.list(I:Inv X jV σ H s)(h:SqL X.K H a xs):∃its:List Value,Vals xs its/\PlainL s.heap a its.toArray/\xs.length<=sizeLine:=by
 rcases h with h | ⟨o,its,n,hk,hc,hd,hs,hz,r⟩
 ·obtain⟨z,its,n,r,e⟩:=h.ok I.hok;exact⟨its,r,⟨_,n,e,rfl,rfl,rfl⟩,z⟩
 ·refine⟨its.toList,r,⟨o,n,I.kIn a o hk,hc,hd,by simpa using hs⟩,?_⟩;have e:=r.length;simp only[Rk]at e
  lia
theorem Inv.tuple(I:Inv X jV σ H s)(h:SqT X.K H a xs):∃its:List Value,Vals xs its/\IsTup s.heap a its.toArray/\xs.length<=sizeLine:=by
 rcases h with h | ⟨o,its,n,hk,hc,hs,hz,r⟩
 ·obtain⟨z,its,r,p⟩:=h.ok I.hok;exact⟨its,r,p,z⟩
 ·refine⟨its.toList,r,⟨o,I.kIn a o hk,hc,n,by simpa using hs⟩,?_⟩;have e:=r.length;simp only[Rk]at e
  lia
theorem Inv.mL(I:Inv X jV σ H s)(h:SqL X.K H a xs)(h':SqL X.K H a ys):xs=ys:=by
 obtain⟨its,r,⟨o,n,e,_,_,d⟩,_⟩:=I.list h;obtain⟨its',r',⟨o',n',e',_,_,d'⟩,_⟩:=I.list h';rw[e]at e';cases e';rw[d]at d';injection d' with d1 _
 have:its=its':=by simpa using congrArg Array.toList d1
 subst this;exact r.inj r'
theorem Inv.yU(I:Inv X jV σ H s)(h:SqT X.K H a xs)(h':SqT X.K H a ys):xs=ys:=by
 obtain⟨its,r,⟨o,e,_,n,d⟩,_⟩:=I.tuple h;obtain⟨its',r',⟨o',e',_,n',d'⟩,_⟩:=I.tuple h';rw[e]at e';cases e';rw[d]at d';injection d' with d1 _
 have:its=its':=by simpa using congrArg Array.toList d1
 subst this;exact r.inj r'
end
noncomputable abbrev Cx.pC(X:Cx)(E:Value->Shared->Prop):Cx:={ X with xe:=E }
noncomputable abbrev Cx.nox(X:Cx):Cx:=X.pC fun _ _=>False
theorem Cx.Ok.pC{X:Cx}(ok:X.Ok)(E:Value->Shared->Prop):(X.pC E).Ok:=
 ⟨ok.mod,ok.kind,ok.glob,ok.blt,ok.above,ok.inj,ok.has,ok.cab,ok.hd,ok.frames,ok.stk,ok.exf,ok.bs,ok.bsz,ok.Ad,ok.D8,ok.mK,ok.frf⟩
theorem Cx.Ok.gh{X:Cx}{E:Value->Shared->Prop}(ok:(X.pC E).Ok):X.Ok:=
 ⟨ok.mod,ok.kind,ok.glob,ok.blt,ok.above,ok.inj,ok.has,ok.cab,ok.hd,ok.frames,ok.stk,ok.exf,ok.bs,ok.bsz,ok.Ad,ok.D8,ok.mK,ok.frf⟩
section
variable{X:Cx}{jV:List (Addr×Obj)}{σ:St}{H:Hp}{s:Shared}{E:Value->Shared->Prop}
theorem Inv.pC(I:Inv X jV σ H s)(E:Value->Shared->Prop):Inv (X.pC E) jV σ H s:=⟨I.ok.pC E,I.os,I.bare,I.base,I.loc,I.cell,I.free,I.ig,I.pin,I.hok,I.len⟩
theorem Inv.gh(I:Inv (X.pC E) jV σ H s):Inv X jV σ H s:=⟨I.ok.gh,I.os,I.bare,I.base,I.loc,I.cell,I.free,I.ig,I.pin,I.hok,I.len⟩
theorem SP.gh{D:Ends}{f:Flow}{s':Shared}(h:SP (X.pC E) jV D f s'):SP X jV D f s':=by
 cases f with
 |next=>obtain⟨σ',H',I,q⟩:=h;exact⟨σ',H',I.gh,q⟩
 |brk=>obtain⟨σ',H',I,q⟩:=h;exact⟨σ',H',I.gh,q⟩
 |cont=>obtain⟨σ',H',I,q⟩:=h;exact⟨σ',H',I.gh,q⟩
 |ret u=>obtain⟨v,σ',H',I,r,q⟩:=h;exact⟨v,σ',H',I.gh,r,q⟩
theorem PSs.nox{st:List Stmt}{t:TS}(h:PSs X.nox st t):PSs X st t:=fun jV s σ H D I hw=>wpAny_mono (h jV s σ H D (I.pC _) hw) (fun _ _ q=>q.gh) fun _ _ z=>Qf z
end
section
variable{X:Cx}{st:Stmt}{BZ:List Stmt}{t u:TS}{e:Expr}{te:TE}{pos:Pos}
def pV:TS:=fun D σ H=>D.nx σ H
def gi(t u:TS):TS:=fun D σ H=>t { D with nx:=u D } σ H
theorem jv:PSs X [] pV:=fun _ _ σ H _ I h=>wpAny_execs_nil ⟨σ,H,I,h⟩
theorem bf(h1:PS X st t)(h2:PSs X BZ u):PSs X (st::BZ) (gi t u):=by
 intro jV s σ H D I h;refine wpAny_execs_cons (thn (h1 jV s σ H { D with nx:=u D } I h) fun f s1 q=>?_);cases f with
 |next=>obtain⟨σ',H',I',q⟩:=q;exact h2 jV s1 σ' H' D I' q
 |ret v=>exact q
 |brk=>exact q
 |cont=>exact q
theorem fk(h1:PS X st t):PSs X [st] t:=by
 intro jV s σ H D I h;refine wpAny_execs_cons (thn (h1 jV s σ H D I h) fun f s1 q=>?_);cases f with
 |next=>exact wpAny_execs_nil q
 |ret v=>exact q
 |brk=>exact q
 |cont=>exact q
theorem Inv.quiet{jV:List (Addr×Obj)}{σ:St}{H:Hp}{s:Shared}(I:Inv X jV σ H s):interactive X.env=false:=by simp[interactive,I.ok.kind]
def ir(te:TE):TS:=fun D σ H=>te σ H fun _ H1=>D.nx σ H1
theorem dj(he:PE X e te)(hs:swapsWith e none pos.line X.env=pure false:=by rfl):PS X (.Expr e pos) (ir te):=by intro jV s σ H D I h;exact wpAny_Expr_any (thn (he jV s σ H _ I h) fun v s1 ⟨x,H1,I1,r1,q1⟩=>⟨σ,H1,I1,q1⟩) I.quiet hs
def Ai(te:TE):TS:=fun D σ H=>te σ H D.rt
theorem qS(he:PE X e te):PS X (.Return (some e) pos) (Ai te):=by intro jV s σ H D I h;exact wpAny_Return_some (thn (he jV s σ H _ I h) fun v s1 ⟨x,H1,I1,r1,q1⟩=>⟨x,σ,H1,I1,r1,q1⟩)
def yV(c:TT)(t u:TS):TS:=fun D σ H=>c σ H fun b H1=>if b=true then t D σ H1 else u D σ H1
theorem sX{c:Expr}{a b:List Stmt}{tc:TT}(hc:PT X c tc)(ha:PSs X a t)(hb:PSs X b u):PS X (.If c a b pos) (yV tc t u):=by
 intro jV s σ H D I h;refine wpAny_If (thn (hc jV s σ H _ I h) fun d s1 ⟨H1,I1,q1⟩=>?_);cases d with
 |true=>exact ha jV s1 σ H1 D I1 q1
 |false=>exact hb jV s1 σ H1 D I1 q1
def Ii:TS:=fun _ _ _=>False
theorem Aj:PS X st Ii:=fun _ _ _ _ _ _ h=>h.elim
end
noncomputable abbrev TG:=V->St->Hp->(St->Hp->Prop)->Prop
noncomputable abbrev TGs:=List V->St->Hp->(St->Hp->Prop)->Prop
def PG(X:Cx)(target:Expr)(t:TG):Prop:=
 ∀(jV:List (Addr×Obj)) (s:Shared) (σ:St) (H:Hp) (v:V) (u:Value) (Q:St->Hp->Prop),Inv X jV σ H s->RelV v u->t v σ H Q ->
  wpAny (model X.prog X.w) X.A (assign target X.env u) (fun _ s'=>∃σ' H',Inv X jV σ' H' s'/\Q σ' H') X.xe s
def PGs(X:Cx)(ts:List Expr)(t:TGs):Prop:=
 ∀(jV:List (Addr×Obj)) (s:Shared) (σ:St) (H:Hp) (vs:List V) (us:List Value) (Q:St->Hp->Prop),Inv X jV σ H s->Vals vs us->t vs σ H Q ->
  wpAny (model X.prog X.w) X.A (assignInOrder ((assignEach ts X.env).map (·.2)) us) (fun _ s'=>∃σ' H',Inv X jV σ' H' s'/\Q σ' H') X.xe s
noncomputable abbrev Ij:=V->V->V->Hp->(Hp->Prop)->Prop
def Ls(X:Cx)(t:Ij):Prop:=
 ∀(jV:List (Addr×Obj)) (s:Shared) (σ:St) (H:Hp) (o i v:V) (ov iv u:Value) (Q:Hp->Prop),Inv X jV σ H s->RelV o ov->RelV i iv->RelV v u->t o i v H Q ->
  wpAny (model X.prog X.w) X.A (setItem ov iv u) (fun _ s'=>∃H',Inv X jV σ H' s'/\Q H') X.xe s
section
variable{X:Cx}{pos:Pos}
section
variable{es:List Expr}{e:Expr}{x:Str}{i:Nat}{te:TE}
def dH(i:Nat):TG:=fun v σ H Q=>Q (σ.set i (some v)) H
theorem qT(hN:X.N.Nodup)(hi:X.N[i]?=some x)(hx:Loc X.env.scope x)(hf:X.fn x=true\/X.env.scope.names.lookup x=some .local:=by trivial):PG X (.Name x pos) (dH i):=by intro jV s σ H v u Q I r h;exact wpAny_assign_Name (sW I hN hi hx r (fun s' I'=>⟨_,H,I',h⟩) hf)
def Lu:TGs:=fun vs σ H Q=>vs=[]/\Q σ H
def GD(t:TG)(u:TGs):TGs:=fun vs σ H Q=>∃v r,vs=v::r/\t v σ H fun σ' H'=>u r σ' H' Q
theorem Ea:PGs X [] Lu:=by intro jV s σ H vs us Q I r h;obtain⟨e,h⟩:=h;subst e;cases r;exact assignInOrder_nil ⟨σ,H,I,h⟩
theorem Ak{t:TG}{u:TGs}(h1:PG X e t)(h2:PGs X es u)
  (hs:(assignEach (e::es) X.env).map (·.2)=assign e X.env::(assignEach es X.env).map (·.2):=by rfl):PGs X (e::es) (GD t u):=by
 intro jV s σ H vs us Q I r h;obtain⟨v,vr,e1,h⟩:=h;subst e1;cases r with
 |cons r rr=>rw[hs];refine assignInOrder_cons (thn (h1 jV s σ H _ _ _ I r h) fun _ s1 ⟨σ1,H1,I1,q1⟩=>?_);exact h2 jV s1 σ1 H1 _ _ Q I1 rr q1
def Eb(K:Pf)(n:Nat)(t:TGs):TG:=fun v σ H Q=>∃a xs,v=.ref a/\SqT K H a xs/\xs.length=n/\t xs σ H Q
theorem qU{k:Nat}{t:TGs}{n:Nat}(hc:X.calm=true)(h:PGs X es t)
  (hn:(assignEach es X.env).length=n:=by rfl) (hst:(assignEach es X.env).findIdx? (·.1)=none:=by rfl):PG X (.Tuple es k pos) (Eb X.K n t):=by
 intro jV s σ H v u Q I r hw;obtain⟨a,xs,e1,hq,hl,hw⟩:=hw;subst e1;cases r;obtain⟨its,rv,ht,hz⟩:=I.tuple hq;refine assign_Tuple_tuple (I.ok.hd hc) ht (by simp[hn,<- hl,rv.length]) hst fun h' hx=>?_;have I1:Inv X jV σ H { s with heap:=h' }:=I.kept (t':=s.toks) fun b o e=>hx b o (Qc (Px e)) e;exact h jV _ σ H xs _ Q I1 (by simpa using rv) hw
def kq(to ti:TE)(t:Ij):TG:=fun v σ H Q=>to σ H fun o H1=>ti σ H1 fun i H2=>t o i v H2 fun H3=>Q σ H3
theorem Ik{o i:Expr}{to ti:TE}{t:Ij}(ho:PE X o to)(hi:PE X i ti)(hs:Ls X t)
  (ha:∀ v,assign (.Subscript o i pos) X.env v=(do
   let ov <- holding [v] (eval o X.env)
   let iv <- holding [v,ov] (eval i X.env)
   standAt pos
   holding [v,ov,iv] (setItem ov iv v)
   release [v,ov,iv] []):=by intro _;rfl):PG X (.Subscript o i pos) (kq to ti t):=by
 intro jV s σ H v u Q I r h;rw[ha];refine wpAny_bind (wpAny_holding (thn (ho jV s σ H _ I h) fun ov s1 ⟨x,H1,I1,r1,q1⟩=>?_));refine wpAny_bind (wpAny_holding (thn (hi jV s1 σ H1 _ I1 q1) fun iv s2 ⟨y,H2,I2,r2,q2⟩=>?_));refine wpAny_bind (wpAny_standAt (wpAny_bind (wpAny_holding (thn (hs jV s2 σ H2 x y v ov iv u _ I2 r1 r2 r q2) fun _ s3 ⟨H3,I3,q3⟩=>?_))));exact wpAny_release ⟨σ,H3,I3,q3⟩
def jx(te:TE)(g:TG):TS:=fun D σ H=>te σ H fun x H1=>g x σ H1 D.nx
theorem vA{tg e:Expr}{g:TG}(he:PE X e te)(hg:PG X tg g)(hs:swapsWithSole [tg] e pos.line X.env=pure false:=by rfl)(hw:swappedStores [tg] e X.env=pure none:=by rfl)
  (h1:(assignEach [tg] X.env).map (·.2)=[assign tg X.env]:=by rfl):PS X (.Assign [tg] e pos) (jx te g):=by
 intro jV s σ H D I h;refine wpAny_Assign_stores (thn (he jV s σ H _ I h) fun v s1 ⟨x,H1,I1,r1,q1⟩=>?_) hs hw;rw[h1];exact thn (hg jV s1 σ H1 x v _ I1 r1 q1) fun _ s2 q=>q
theorem qV{pos':Pos}(hN:X.N.Nodup)(hi:X.N[i]?=some x)(hx:Loc X.env.scope x)(he:PE X e te)(hs:swapsWith e (some (.Name x pos')) pos.line X.env=pure false:=by rfl)(hf:X.fn x=true\/X.env.scope.names.lookup x=some .local:=by trivial) :
  PS X (.Assign [.Name x pos'] e pos) (jx te (dH i)):=by
 intro jV s σ H D I h;refine wpAny_Assign_Name (thn (he jV s σ H _ I h) fun v s1 ⟨y,H1,I1,r1,q1⟩=>?_) hs;exact sW I1 hN hi hx r1 (fun s2 I2=>⟨_,H1,I2,q1⟩) hf
end
end
section
variable{X:Cx}{pos:Pos}
def Al(c:TT)(tb:TS):TS:=fun D σ H=>∃W:Nat->St->Hp->Prop,(∃m,W m σ H)/\∀m σ H,W m σ H ->
 c σ H fun b H1=>if b=true then ∃N:St->Hp->Prop,(∀σ' H',N σ' H'->∃m',m'<m/\W m' σ' H')/\tb { D with nx:=N,ct:=N,bk:=D.nx } σ H1 else D.nx σ H1
theorem Am{c:Expr}{body:List Stmt}{tc:TT}{tb:TS}(hp:PassesOwn (model X.prog X.w) X.A X.env X.xe)(hc:PT X c tc)(hb:PSs X body tb):PS X (.While c body [] pos) (Al tc tb):=by
 intro jV s σ H D I h;obtain⟨W,⟨m0,w0⟩,turn⟩:=h;refine wpAny_While (codeAny_whileLoop (fun n s'=>∃σ' H',Inv X jV σ' H' s'/\W n σ' H') ?_ m0 ⟨σ,H,I,w0⟩);rintro n s1 ⟨σ1,H1,I1,w1⟩;refine wpAny_passesOwn hp (thn (hc jV s1 σ1 H1 _ I1 (turn n σ1 H1 w1)) fun b s2 ⟨H2,I2,q2⟩=>?_);cases b with
 |true=>
  obtain⟨N,hN,q2⟩:=q2;rw[if_pos rfl];refine wpAny_passesOwn hp (thn (hb jV s2 σ1 H2 _ I2 q2) fun f s3 q3=>?_);cases f with
  |next=>obtain⟨σ3,H3,I3,n3⟩:=q3;obtain⟨m',hm,w3⟩:=hN σ3 H3 n3;exact⟨m',hm,σ3,H3,I3,w3⟩
  |cont=>obtain⟨σ3,H3,I3,n3⟩:=q3;obtain⟨m',hm,w3⟩:=hN σ3 H3 n3;exact⟨m',hm,σ3,H3,I3,w3⟩
  |brk=>exact q3
  |ret v=>exact q3
 |false=>rw[if_neg P0];exact wpAny_execs_nil ⟨σ1,H2,I2,q2⟩
end
section
variable{P:Program}{w:World}{tg:Expr}{s:Shared}
structure It where
 go:Nat->Hp->Prop
 yld:Nat->Hp->V->Hp->Prop
 stop:Nat->Hp->Prop
def pD(X:Cx)(jV:List (Addr×Obj))(H:Hp)(b:Addr):Prop:=
 H b=none/\b≠X.env.locals/\b∉X.fs/\(b∈X.ex\/X.s₀.heap.objs.size<=b)/\(∀x c,X.env.cells.lookup x=some c->c≠b)/\∀p∈X.pn++jV,p.1≠b
theorem Inv.Ec{X:Cx}{jV:List (Addr×Obj)}{σ:St}{H H':Hp}{b:Addr}(I:Inv X jV σ H s)(hb:s.heap.objs.size<=b)(hn:H' b=none):pD X jV H' b:=by
 refine⟨hn,RZ (PD I.lt hb),I.N3 hb,.inr (PL I.sz hb),fun x c e z=>?_,fun p hp z=>?_⟩
 ·obtain⟨v,q⟩:=I.cell x c e;exact absurd (PD q.lt (by rw[z];exact hb)) (Qy _)
 ·exact absurd (PD (Px (I.pin p hp).1) (by rw[z];exact hb)) (Qy _)
structure Turn(P:Program)(w:World)(K:Pf)(tg:Expr)(J:It)(fp:List Addr)(it:Addr)(tn:Nat->Heap->Prop):Prop where
 mem:it∈fp
 obj:∀i h,tn i h->∀b∈fp,∃o,h.get? b=some o/\∀v,o.data≠.cell v
 keep:∀i h h',tn i h->(∀b∈fp,∀o,h.get? b=some o->h'.get? b=some o)->tn i h'
 item:∀(X:Cx),X.prog=P->X.w=w->X.K=K->X.calm=true->∀(i:Nat) (jV:List (Addr×Obj)) (s:Shared) (σ:St) (H:Hp) (E:Value->Shared->Prop),Inv X jV σ H s->(∀b∈fp,pD X jV H b)->tn i s.heap->J.go i H ->
  wpAny (model P w) X.A (pyNext (.ref it)) (fun r s1=>∃ u,r=some u ∧
   wpAny (model P w) X.A (letOwnedTupleGo tg (.ref it) u) (fun _ s2=>∃x H',Inv X jV σ H' s2/\RelV x u/\J.yld i H x H'/\tn (i+1) s2.heap/\∀b∈fp,H' b=none) E s1) E s
 done:∀(X:Cx),X.prog=P->X.w=w->X.K=K->X.calm=true->∀(i:Nat) (jV:List (Addr×Obj)) (s:Shared) (σ:St) (H:Hp) (E:Value->Shared->Prop),Inv X jV σ H s->(∀b∈fp,pD X jV H b)->tn i s.heap->J.stop i H ->
  wpAny (model P w) X.A (pyNext (.ref it)) (fun r s1=>r=none/\Inv X jV σ H s1) E s
 self:∀(A:Around) (i:Nat) (s:Shared) (Q:Value->Shared->Prop) (E:Value->Shared->Prop),tn i s.heap->Q (.ref it) s->wpAny (model P w) A (pyIter (.ref it)) Q E s
noncomputable abbrev TI:=St->Hp->(It->Hp->Prop)->Prop
def PIE(X:Cx)(jV:List (Addr×Obj))(σ:St)(tg:Expr)(R:It->Hp->Prop)(itv:Value)(s2:Shared):Prop:=
 ∃(it:Addr) (fp:List Addr) (tn:Nat->Heap->Prop) (J:It) (H':Hp),itv=.ref it/\Inv X jV σ H' s2/\Turn X.prog X.w X.K tg J fp it tn/\tn 0 s2.heap/\(∀b∈fp,pD X jV H' b)/\R J H'
def PI(X:Cx)(tg iter:Expr)(wi:TI):Prop:=
 ∀(jV:List (Addr×Obj)) (s:Shared) (σ:St) (H:Hp) (R:It->Hp->Prop),Inv X jV σ H s->wi σ H R ->
  wpAny (model X.prog X.w) X.A (eval iter X.env) (fun v s1=>wpAny (model X.prog X.w) X.A (pyIter v) (PIE X jV σ tg R) X.xe s1) X.xe s
theorem An{M:Model}{A:Around}{E:Value->Shared->Prop}{tg:Expr}{it:Addr}{u:Value}{o:Obj}{n:String}{vs:Array Value}{Q:Unit->Shared->Prop}(ho:s.heap.get? it=some o)(hc:o.cls=.type n)(hd:o.data=.fields vs)
  (hn:["enumerate","zip","dict_itemiterator","dict_reverseitemiterator","odict_iterator","itertools.zip_longest","itertools.pairwise"].contains n=false) (hQ:Q () s):wpAny M A (letOwnedTupleGo tg (.ref it) u) Q E s:=by
 unfold letOwnedTupleGo;cases tg<;>first
  |exact wpAny_pure hQ
  | (cases u<;>first
    |exact wpAny_pure hQ
    | (refine wpAny_bind (wpAny_load ho ?_)
       rw[hc,hd];show wpAny M A (if (["enumerate","zip","dict_itemiterator","dict_reverseitemiterator","odict_iterator","itertools.zip_longest","itertools.pairwise"].contains n&&vs[0]? == some (rawInt _))=true then _ else _) Q E s;rw[if_neg (by intro h;rw[hn,Bool.false_and]at h;cases h)];exact wpAny_pure hQ))
noncomputable def Itl(K:Pf)(a:Addr):It:=
 ⟨fun i H=>∃xs x,SqL K H a xs/\xs[i]?=some x,fun i H x H'=>H'=H/\∀xs,SqL K H a xs->xs[i]?=some x,fun i H=>∃xs,SqL K H a xs/\xs.length<=i⟩
noncomputable def Itt(K:Pf)(a:Addr):It:=
 ⟨fun i H=>∃xs x,SqT K H a xs/\xs[i]?=some x,fun i H x H'=>H'=H/\∀xs,SqT K H a xs->xs[i]?=some x,fun i H=>∃xs,SqT K H a xs/\xs.length<=i⟩
noncomputable def Itr(lo:Int)(n:Nat):It:=⟨fun i _=>i<n,fun i H x H'=>H'=H/\x=.int (lo+i),fun i _=>n<=i⟩
theorem yW{K:Pf}(a it:Addr):Turn P w K tg (Itl K a) [it] it (fun i h=>h.IsListIter it a i) where
 mem:=by simp
 obj:=fun i h st b hb=>by
  have e:b=it:=by simpa using hb
  subst e;obtain⟨o,e,c,d⟩:=st;exact⟨o,e,fun v z=>by rw[d]at z;cases z⟩
 keep:=fun i h h' st k=>st.at fun o e=>k it (by simp) o e
 item:=by intro X hP hw hK hc i jV s σ H E I hf st hg;subst hP hw hK;obtain⟨xs,x,hq,hx⟩:=hg;obtain⟨its,rv,p,hz⟩:=I.list hq;obtain⟨u,hu,ru⟩:=rv.get hx;obtain⟨f0,f1,f2,f3,f4,f5⟩:=hf it (by simp);refine wpAny_pyNext_list_item st p.isList (x:=u) (by simpa using hu) fun h' st' sb=>?_;have I1:Inv X jV σ H { s with heap:=h' }:=I.turned (t':=s.toks) (fun b o hb e=>(sb.2 b hb).trans e) f0 f1 f3 f4 f5;obtain⟨o,e,c,d⟩:=id st';exact⟨u,rfl,An (s:={ s with heap:=h' }) e c d (by decide) ⟨x,H,I1,ru,⟨rfl,fun ys hy=>by rw[I.mL hy hq];exact hx⟩,st',fun b hb=>(hf b hb).1⟩⟩
 done:=by intro X hP hw hK hc i jV s σ H E I hf st hg;subst hP hw hK;obtain⟨xs,hq,hx⟩:=hg;obtain⟨its,rv,p,hz⟩:=I.list hq;obtain⟨f0,f1,f2,f3,f4,f5⟩:=hf it (by simp);have hl:=rv.length;exact wpAny_pyNext_list_end (I.ok.hd hc) st p.isList (by simp;lia) fun h' eb=>⟨rfl,I.turned (t':=s.toks) (fun b o hb e=>eb b o hb e) f0 f1 f3 f4 f5⟩
 self:=fun _ _ _ _ _ st h=>wpAny_pyIter_listiter st h
theorem vC{K:Pf}(a it:Addr):Turn P w K tg (Itt K a) [it] it (fun i h=>h.IsTupleIter it a i) where
 mem:=by simp
 obj:=fun i h st b hb=>by
  have e:b=it:=by simpa using hb
  subst e;obtain⟨o,e,c,d⟩:=st;exact⟨o,e,fun v z=>by rw[d]at z;cases z⟩
 keep:=fun i h h' st k=>st.at fun o e=>k it (by simp) o e
 item:=by intro X hP hw hK hc i jV s σ H E I hf st hg;subst hP hw hK;obtain⟨xs,x,hq,hx⟩:=hg;obtain⟨its,rv,p,hz⟩:=I.tuple hq;obtain⟨u,hu,ru⟩:=rv.get hx;obtain⟨f0,f1,f2,f3,f4,f5⟩:=hf it (by simp);refine wpAny_pyNext_tuple_item st (show s.heap.IsTuple a its.toArray from p) (x:=u) (by simpa using hu) fun h' st' sb=>?_;have I1:Inv X jV σ H { s with heap:=h' }:=I.turned (t':=s.toks) (fun b o hb e=>(sb.2 b hb).trans e) f0 f1 f3 f4 f5;obtain⟨o,e,c,d⟩:=id st';exact⟨u,rfl,An (s:={ s with heap:=h' }) e c d (by decide) ⟨x,H,I1,ru,⟨rfl,fun ys hy=>by rw[I.yU hy hq];exact hx⟩,st',fun b hb=>(hf b hb).1⟩⟩
 done:=by intro X hP hw hK hc i jV s σ H E I hf st hg;subst hP hw hK;obtain⟨xs,hq,hx⟩:=hg;obtain⟨its,rv,p,hz⟩:=I.tuple hq;obtain⟨f0,f1,f2,f3,f4,f5⟩:=hf it (by simp);have hl:=rv.length;exact wpAny_pyNext_tuple_end (I.ok.hd hc) st (show s.heap.IsTuple a its.toArray from p) (by simp;lia) fun h' eb=>⟨rfl,I.turned (t':=s.toks) (fun b o hb e=>eb b o hb e) f0 f1 f3 f4 f5⟩
 self:=fun _ _ _ _ _ st h=>wpAny_pyIter_tupleiter st h
theorem vD{K:Pf}(it:Addr)(lo:Int)(n:Nat):Turn P w K tg (Itr lo n) [it] it (fun i h=>IsRangeIter h it (lo+(i:Nat)*1) ((n:Int)-(i:Nat)) 1) where
 mem:=by simp
 obj:=fun i h st b hb=>by
  have e:b=it:=by simpa using hb
  subst e;exact ⟨_,st,fun v z=>by have z':Data.fields _=Si v:=z;cases z'⟩
 keep:=fun i h h' st k=>k it (by simp) _ st
 item:=by intro X hP hw hK hc i jV s σ H E I hf st hg;subst hP hw hK;obtain⟨f0,f1,f2,f3,f4,f5⟩:=hf it (by simp);have W:=Walks.range (prog:=X.prog) (w:=X.w) (I.ok.hd hc) it lo 1 n;refine W.item i s _ _ hg st fun v h' tk hv st' kk=>?_;obtain⟨t,rfl⟩:=hv;have I1:Inv X jV σ H { s with heap:=h',toks:=tk }:=I.turned (fun b o hb e=>kk b o (by simpa using hb) e) f0 f1 f3 f4 f5;refine⟨_,rfl,An (s:={ s with heap:=h',toks:=tk }) (n := "range_iterator") st' rfl rfl (by decide) ⟨.int (lo+i),H,I1,⟨t,?_⟩,⟨rfl,rfl⟩,st',fun b hb=>(hf b hb).1⟩⟩;rw[Int.mul_one]
 done:=by intro X hP hw hK hc i jV s σ H E I hf st hg;subst hP hw hK;obtain⟨f0,f1,f2,f3,f4,f5⟩:=hf it (by simp);exact wpAny_pyNext_range_end (I.ok.hd hc) st (by have:n<=i:=hg;lia) fun h' eb=>⟨rfl,I.turned (t':=s.toks) (fun b o hb e=>eb b o hb e) f0 f1 f3 f4 f5⟩
 self:=fun _ _ _ _ _ st h=>wpAny_pyIter_rangeiter st h
end
section
variable{X:Cx}{tg:Expr}
section
variable{jV:List (Addr×Obj)}{fp:List Addr}{s:Shared}{H:Hp}{σ:St}{l:Expr}{h:Heap}{tl:TE}{ta:TA}
def pW(K:Pf)(tl:TE):TI:=fun σ H R=>tl σ H fun x H1=>∃a,x=.ref a/\(∃xs,SqL K H1 a xs)/\R (Itl K a) H1
def Ao(K:Pf)(tl:TE):TI:=fun σ H R=>tl σ H fun x H1=>∃a,x=.ref a/\(∃xs,SqT K H1 a xs)/\R (Itt K a) H1
theorem qW(hl:PE X l tl):PI X tg l (pW X.K tl):=by
 intro jV s σ H R I h;refine thn (hl jV s σ H _ I h) fun v s1 ⟨x,H1,I1,r1,q1⟩=>?_;obtain⟨a,e,⟨xs,hq⟩,q⟩:=q1;subst e;cases r1;obtain⟨its,rv,p,hz⟩:=I1.list hq;refine wpAny_pyIter_list p.isList ?_;refine⟨s1.heap.objs.size,[s1.heap.objs.size],_,_,H1,rfl,I1.kept (t':=s1.toks) fun b o e=>PJ _ e,yW a _,⟨_,Qs _ rfl,rfl,rfl⟩,fun b hb=>?_,q⟩;have e:b=s1.heap.objs.size:=by simpa using hb
 subst e;exact I1.Ec (Pj _) (I1.hok.fresh (Pj _))
theorem Aq(hl:PE X l tl):PI X tg l (Ao X.K tl):=by
 intro jV s σ H R I h;refine thn (hl jV s σ H _ I h) fun v s1 ⟨x,H1,I1,r1,q1⟩=>?_;obtain⟨a,e,⟨xs,hq⟩,q⟩:=q1;subst e;cases r1;obtain⟨its,rv,p,hz⟩:=I1.tuple hq;refine wpAny_pyIter_tuple (show s1.heap.IsTuple a its.toArray from p) ?_;refine⟨s1.heap.objs.size,[s1.heap.objs.size],_,_,H1,rfl,I1.kept (t':=s1.toks) fun b o e=>PJ _ e,vC a _,⟨_,Qs _ rfl,rfl,rfl⟩,fun b hb=>?_,q⟩;have e:b=s1.heap.objs.size:=by simpa using hb
 subst e;exact I1.Ec (Pj _) (I1.hok.fresh (Pj _))
theorem sY{R:It->Hp->Prop}{E:Value->Shared->Prop}{lo hi:Int}{t u v:Tok}{tk:Nat}(I:Inv X jV σ H s)(h1:-(2 ^ 62)<=lo)(h2:lo<2 ^ 62)(h3:-(2 ^ 62)<=hi)(h4:hi<2 ^ 62)
  (q:R (Itr lo (hi-lo).toNat) H):wpAny (model X.prog X.w) X.A (pyIter (.ref s.heap.objs.size)) (PIE X jV σ tg R) E { s with heap:=s.heap.push { cls:=.type "range",data:=.fields #[.int lo t,.int hi u,.int 1 v] },toks:=tk }:=by
 refine wpAny_pyIter_range (IsRange.new ..) (small_one h1 h2 h3 h4) ?_;have I1:Inv X jV σ H { s with heap:=s.heap.push { cls:=.type "range",data:=.fields #[.int lo t,.int hi u,.int 1 v] },toks:=tk }:=I.kept fun b o e=>PJ _ e;refine ⟨(s.heap.push { cls:=.type "range",data:=.fields #[.int lo t,.int hi u,.int 1 v] }).objs.size,[(s.heap.push { cls:=.type "range",data:=.fields #[.int lo t,.int hi u,.int 1 v] }).objs.size],_,_,H,rfl,
  I1.kept (t':=tk) fun b o e=>PJ _ e,vD _ lo (hi-lo).toNat,?_,fun b hb=>?_,q⟩
 ·have e1:lo+((0:Nat):Int)*1=lo:=by simp
  have e2:(((hi-lo).toNat:Nat):Int)-((0:Nat):Int)=Builtin.Range.rangeSize lo hi 1:=by rw[rangeSize_one];split<;>lia
  show IsRangeIter _ _ (lo+((0:Nat):Int)*1) ((((hi-lo).toNat:Nat):Int)-((0:Nat):Int)) 1;rw[e1,e2];exact Qs _ rfl
 ·have e:b=(s.heap.push { cls:=.type "range",data:=.fields #[.int lo t,.int hi u,.int 1 v] }).objs.size:=by simpa using hb
  subst e;exact I1.Ec (Pj _) (I1.hok.fresh (Pj _))
def GF(ta:TA):TI:=fun σ H R=>ta σ H fun vs H1=>∃j:Int,vs=[.int j]/\-(2 ^ 62)<=j/\j<2 ^ 62/\R (Itr 0 j.toNat) H1
def GG(ta:TA):TI:=fun σ H R=>ta σ H fun vs H1=>∃i j:Int,vs=[.int i,.int j]/\(-(2 ^ 62)<=i/\i<2 ^ 62/\-(2 ^ 62)<=j/\j<2 ^ 62)/\R (Itr i (j-i).toNat) H1
theorem yX{a:Expr}{p pos:Pos}(hg:Gl X "range")(hm:X.mg "range" = none)(ha:PA X [a] ta)(hs:starEach [a] X.env=[(false,eval a X.env)]:=by rfl):PI X tg (.Call (.Name "range" p) [a] [] pos) (GF ta):=by
 intro jV s σ H R I h;refine Call_ (ko I hg hm boot_range (QY (thn (ha pos jV s σ H _ I h) fun us s1 ⟨vs,H1,I1,r1,q1⟩=>?_) hs rfl));obtain⟨j,e,q1,q2,q⟩:=q1;subst e;cases r1 with
 |cons r rr=>cases rr;obtain⟨t,rfl⟩:=r;exact call_range_1 (sY I1 (by lia) (by lia) q1 q2 (by simpa using q))
theorem yY{a b:Expr}{p pos:Pos}(hg:Gl X "range")(hm:X.mg "range" = none)(ha:PA X [a,b] ta)(hs:starEach [a,b] X.env=[(false,eval a X.env),(false,eval b X.env)]:=by rfl)(hs2:starEach [b] X.env=[(false,eval b X.env)]:=by rfl) :
  PI X tg (.Call (.Name "range" p) [a,b] [] pos) (GG ta):=by
 intro jV s σ H R I h;refine Call_ (ko I hg hm boot_range (QY (thn (ha pos jV s σ H _ I h) fun us s1 ⟨vs,H1,I1,r1,q1⟩=>?_) (by rw[hs,hs2]) (by rw[hs2];rfl)));obtain⟨i,j,e,⟨q1,q2,q3,q4⟩,q⟩:=q1;subst e;cases r1 with
 |cons r rr=>
  cases rr with
  |cons r' rr=>cases rr;obtain⟨t,rfl⟩:=r;obtain⟨t',rfl⟩:=r';exact call_range_2 (sY I1 q1 q2 q3 q4 q)
def Ar(wi:TI)(g:TG)(tb:TS):TS:=fun D σ H=>wi σ H fun J H1=>∃W:Nat->Nat->St->Hp->Prop,(∃m,W 0 m σ H1)/\∀i m σ H,W i m σ H ->
 (J.stop i H/\D.nx σ H)\/(J.go i H/\∃N:St->Hp->Prop,(∀σ' H',N σ' H'->∃m',m'<m/\W (i+1) m' σ' H')/\∀x H',J.yld i H x H'->g x σ H' fun σ2 H2=>tb { D with nx:=N,ct:=N,bk:=D.nx } σ2 H2)
noncomputable def mO(fp:List Addr)(h:Heap):List (Addr×Obj):=fp.filterMap fun b=>(h.get? b).map fun o=>(b,o)
theorem fu{b:Addr}{o:Obj}(hb:b∈fp)(e:h.get? b=some o):(b,o)∈mO fp h:=RM.mpr ⟨b,hb,by rw[e];rfl⟩
theorem yZ{p:Addr×Obj}(hp:p∈mO fp h):p.1∈fp/\h.get? p.1=some p.2:=by
 obtain⟨b,hb,e⟩:=RM.mp hp;cases q:h.get? b with
 |none=>rw[q]at e;cases e
 |some o=>rw[q]at e;have e':(b,o)=p:=Option.some.inj e;subst e';exact⟨hb,q⟩
theorem Inv.pinned(I:Inv X jV σ H s)(hf:∀b∈fp,pD X jV H b)(ho:∀b∈fp,∃o,s.heap.get? b=some o/\∀v,o.data≠.cell v):Inv X (jV++mO fp s.heap) σ H s:=
 I.xB fun p hp=>(PV.mp hp).elim (fun z=>I.pin p (PB _ z)) fun z=>by obtain⟨hb,e⟩:=yZ z;obtain⟨f0,f1,f2,_⟩:=hf p.1 hb;obtain⟨o,e',d⟩:=ho p.1 hb;rw[e]at e';cases e';exact⟨e,f0,f1,f2,d⟩
theorem Inv.jy{jV pl:List (Addr×Obj)}(I:Inv X (jV++pl) σ H s):Inv X jV σ H s:=I.xB fun p hp=>I.pin p (PB _ (PK _ hp))
theorem qX{iter:Expr}{body:List Stmt}{wi:TI}{g:TG}{tb:TS}{pos:Pos}(hp:PassesOwn (model X.prog X.w) X.A X.env X.xe)(hc:X.calm=true)(hi:PI X tg iter wi)(hg:PG X tg g)(hb:PSs X body tb)
  (hs:∀x,foldedSetIterable iter X.env x=pure x:=by intro _;rfl):PS X (.For tg iter body [] pos) (Ar wi g tb):=by
 intro jV s σ H D I h;refine wpAny_For (thn (hi jV s σ H _ I h) fun v s1 h1=>thn h1 fun itv s2 h2=>?_) hs;obtain⟨it,fp,tn,J,H2,e,I2,T,st2,f2,W,⟨m0,w0⟩,turn⟩:=h2;subst e;have stat:∀{H':Hp},(∀b∈fp,H' b=none)->∀b∈fp,pD X jV H' b:=fun hn b hb=>⟨hn b hb,(f2 b hb).2⟩;refine codeAny_forLoop_any (fun n s'=>∃i σ' H',Inv X jV σ' H' s'/\tn i s'.heap/\(∀b∈fp,H' b=none)/\W i n σ' H') ?_ m0 ⟨0,σ,H2,I2,st2,fun b hb=>(f2 b hb).1,w0⟩;rintro n s3 ⟨i,σ3,H3,I3,st3,fr3,w3⟩;rcases turn i n σ3 H3 w3 with⟨stop,qn⟩ | ⟨go,N,hN,step⟩
 ·refine wpAny_passesOwn hp (thn (T.done X rfl rfl rfl hc i jV s3 σ3 H3 X.xe I3 (stat fr3) st3 stop) fun r s4 ⟨hr,I4⟩=>?_);subst hr;exact wpAny_execs_nil ⟨σ3,H3,I4,qn⟩
 ·refine wpAny_passesOwn hp (thn (T.item X rfl rfl rfl hc i jV s3 σ3 H3 X.xe I3 (stat fr3) st3 go) fun r s4 ⟨u,hr,h4⟩=>?_);subst hr;refine wpAny_passesOwn hp (thn h4 fun _ s5 ⟨x,H5,I5,r5,y5,st5,fr5⟩=>?_);have I5':=I5.pinned (stat fr5) (T.obj _ _ st5);refine wpAny_passesOwn hp (thn (hg _ s5 σ3 H5 x u _ I5' r5 (step x H5 y5)) fun _ s6 ⟨σ6,H6,I6,q6⟩=>?_);refine wpAny_passesOwn hp (thn (hb _ s6 σ6 H6 _ I6 q6) fun f s7 q7=>?_);have again:∀{σ7:St} {H7:Hp},Inv X (jV++mO fp s5.heap) σ7 H7 s7->N σ7 H7->∃m,m<n/\∃i σ' H',Inv X jV σ' H' s7/\tn i s7.heap/\(∀b∈fp,H' b=none)/\W i m σ' H':=fun {σ7 H7} I7 n7=>by
   obtain⟨m',hm,w7⟩:=hN σ7 H7 n7;refine⟨m',hm,i+1,σ7,H7,I7.jy,T.keep _ _ _ st5 fun b hb o e=>(I7.pin (b,o) (PB _ (PB _ (fu hb e)))).1,fun b hb=>?_,w7⟩;obtain⟨o,e,d⟩:=T.obj _ _ st5 b hb;exact(I7.pin (b,o) (PB _ (PB _ (fu hb e)))).2.1
  cases f with
  |next=>obtain⟨σ7,H7,I7,n7⟩:=q7;exact again I7 n7
  |cont=>obtain⟨σ7,H7,I7,n7⟩:=q7;exact again I7 n7
  |brk=>obtain⟨σ7,H7,I7,q7⟩:=q7;exact⟨σ7,H7,I7.jy,q7⟩
  |ret v=>obtain⟨x7,σ7,H7,I7,r7,q7⟩:=q7;exact⟨x7,σ7,H7,I7.jy,r7,q7⟩
end
end
noncomputable abbrev R2:=V->V->Hp->VK->Prop
def OpR(X:Cx)(f:Value->Value->Sem Value)(r:R2):Prop:=
 ∀(jV:List (Addr×Obj)) (s:Shared) (σ:St) (H:Hp) (x y:V) (v u:Value) (Q:VK),Inv X jV σ H s->RelV x v->RelV y u->r x y H Q ->
  wpAny (model X.prog X.w) X.A (f v u) (EP X jV σ Q) X.xe s
def UnR(X:Cx)(f:Value->Sem Value)(r:V->Hp->VK->Prop):Prop:=
 ∀(jV:List (Addr×Obj)) (s:Shared) (σ:St) (H:Hp) (x:V) (v:Value) (Q:VK),Inv X jV σ H s->RelV x v->r x H Q ->
  wpAny (model X.prog X.w) X.A (f v) (EP X jV σ Q) X.xe s
def cY(X:Cx)(f:Value)(r:List V->Hp->VK->Prop):Prop:=
 ∀(jV:List (Addr×Obj)) (s:Shared) (σ:St) (H:Hp) (xs:List V) (us:List Value) (Q:VK),Inv X jV σ H s->Vals xs us->r xs H Q ->
  wpAny (model X.prog X.w) X.A (call f us) (EP X jV σ Q) X.xe s
def N6(X:Cx)(r:V->Hp->(Bool->Hp->Prop)->Prop):Prop:=
 ∀(jV:List (Addr×Obj)) (s:Shared) (σ:St) (H:Hp) (x:V) (v:Value) (Q:Bool->Hp->Prop),Inv X jV σ H s->RelV x v->r x H Q ->
  wpAny (model X.prog X.w) X.A (truthy v) (TP X jV σ Q) X.xe s
def tOp(r:R2)(ta tb:TE):TE:=fun σ H Q=>ta σ H fun x H1=>tb σ H1 fun y H2=>r x y H2 Q
def tUn(r:V->Hp->VK->Prop)(ta:TE):TE:=fun σ H Q=>ta σ H fun x H1=>r x H1 Q
def rI(C:Int->Int->Prop)(g:Int->Int->V):R2:=fun x y H Q=>∃i j,x=.int i/\y=.int j/\C i j/\Q (g i j) H
def rI0(g:Int->Int->V):R2:=fun x y H Q=>∃i j,x=.int i/\y=.int j/\Q (g i j) H
def rU(g:Int->V):V->Hp->VK->Prop:=fun x H Q=>∃i,x=.int i/\Q (g i) H
section
variable{X:Cx}{a b c:Expr}{ta tb tc:TE}{pos:Pos}
theorem Il(ha:PE X a ta)(hb:PE X b tb){jV:List (Addr×Obj)}{s:Shared}{σ:St}{H:Hp}{R:V->V->Hp->Prop}(I:Inv X jV σ H s)
  (h:ta σ H fun x H1=>tb σ H1 fun y H2=>R x y H2) {Q:Value->Shared->Prop} {f:Value->Value->Sem Value}
  (hf:∀v u s2 x y H2,Inv X jV σ H2 s2->RelV x v->RelV y u->R x y H2->wpAny (model X.prog X.w) X.A (f v u) Q X.xe s2) :
  wpAny (model X.prog X.w) X.A (eval a X.env) (fun v s₁=>wpAny (model X.prog X.w) X.A (eval b X.env) (fun u s₂=>wpAny (model X.prog X.w) X.A (f v u) Q X.xe s₂) X.xe s₁) X.xe s:=by
 refine thn (ha jV s σ H _ I h) fun v s1 ⟨x,H1,I1,r1,q1⟩=>?_;refine thn (hb jV s1 σ H1 _ I1 q1) fun u s2 ⟨y,H2,I2,r2,q2⟩=>?_;exact hf v u s2 x y H2 I2 r1 r2 q2
theorem Lv{op:Operator}{r:R2}(ho:OpR X (binaryOp op) r)(ha:PE X a ta)(hb:PE X b tb):PE X (.BinOp a op b pos) (tOp r ta tb):=by intro jV s σ H Q I h;exact wpAny_BinOp (Il ha hb I h fun v u s2 x y H2 I2 rx ry q=>ho jV s2 σ H2 x y v u Q I2 rx ry q)
theorem Lw{op:UnaryOp}{r:V->Hp->VK->Prop}(ho:UnR X (unaryOp op) r)(ha:PE X a ta):PE X (.UnaryOp op a pos) (tUn r ta):=by intro jV s σ H Q I h;exact UnaryOp_ (thn (ha jV s σ H _ I h) fun v s1 ⟨x,H1,I1,r1,q1⟩=>ho jV s1 σ H1 x v Q I1 r1 q1)
theorem opI{f:Value->Value->Sem Value}{C:Int->Int->Prop}{g:Int->Int->Int}
  (rule:∀(i j:Int) (t u:Tok) (s:Shared) (Q:Value->Shared->Prop) (E:Value->Shared->Prop),C i j->Q (.int (g i j) s.toks) { s with toks:=s.toks+1 }->wpAny (model X.prog X.w) X.A (f (.int i t) (.int j u)) Q E s) :
  OpR X f (rI C fun i j=>.int (g i j)):=by
 intro jV s σ H x y v u Q I rx ry h;obtain⟨i,j,rfl,rfl,hc,q⟩:=h;obtain⟨t,rfl⟩:=rx;obtain⟨t',rfl⟩:=ry;exact rule i j t t' s _ _ hc ⟨.int (g i j),H,I.tok _,⟨_,rfl⟩,q⟩
theorem Im{f:Value->Value->Sem Value}{g:Int->Int->Int}
  (rule:∀(i j:Int) (t u:Tok) (s:Shared) (Q:Value->Shared->Prop) (E:Value->Shared->Prop),Q (.int (g i j) s.toks) { s with toks:=s.toks+1 }->wpAny (model X.prog X.w) X.A (f (.int i t) (.int j u)) Q E s) :
  OpR X f (rI0 fun i j=>.int (g i j)):=by
 intro jV s σ H x y v u Q I rx ry h;obtain⟨i,j,rfl,rfl,q⟩:=h;obtain⟨t,rfl⟩:=rx;obtain⟨t',rfl⟩:=ry;exact rule i j t t' s _ _ ⟨.int (g i j),H,I.tok _,⟨_,rfl⟩,q⟩
theorem Ed{f:Value->Value->Sem Value}{g:Int->Int->Bool}
  (rule:∀(i j:Int) (t u:Tok) (s:Shared) (Q:Value->Shared->Prop) (E:Value->Shared->Prop),Q (.bool (g i j)) s->wpAny (model X.prog X.w) X.A (f (.int i t) (.int j u)) Q E s) :
  OpR X f (rI0 fun i j=>.bl (g i j)):=by
 intro jV s σ H x y v u Q I rx ry h;obtain⟨i,j,rfl,rfl,q⟩:=h;obtain⟨t,rfl⟩:=rx;obtain⟨t',rfl⟩:=ry;exact rule i j t t' s _ _ ⟨.bl (g i j),H,I,rfl,q⟩
def Ef(i j:Int):Prop:=0<=j/\j<=1000000/\i.natAbs<2 ^ 64
def As(i j:Int):Prop:=(-(2 ^ 64)<i/\i<2 ^ 64)\/(-(2 ^ 64)<j/\j<2 ^ 64)
theorem As.ok{i j:Int}(h:As i j):IntMulOk i j:=by
 rcases h with⟨h1,h2⟩ | ⟨h1,h2⟩
 ·exact .of_left (intBits_le_64 h1 h2)
 ·exact .of_right (intBits_le_64 h1 h2)
theorem two_pow_nn(k:Nat):(0:Int)<=2 ^ k:=by rw[two_pow_cast];exact Int.natCast_nonneg _
theorem Io:OpR X (binaryOp .Add) (rI0 fun i j=>.int (i+j)):=Im fun _ _ _ _ _ _ _ q=>add_int q
theorem Ip:OpR X (binaryOp .Sub) (rI0 fun i j=>.int (i-j)):=Im fun _ _ _ _ _ _ _ q=>sub_int q
theorem Iq:OpR X (binaryOp .Mult) (rI As fun i j=>.int (i*j)):=opI fun _ _ _ _ _ _ _ hc q=>mul_int q hc.ok
theorem Ir:OpR X (binaryOp .Mod) (rI (fun _ j=>0<j) fun i j=>.int (i % j)):=opI fun i j _ _ _ _ _ hc q=>by have h1:(0:Int)<j:=hc;exact mod_int' (by lia) (by rw[Int.fmod_eq_emod_of_nonneg i (by lia)];exact q)
theorem Iu:OpR X (binaryOp .Pow) (rI Ef fun i j=>.int (i ^ j.toNat)):=opI fun _ _ _ _ _ _ _ hc q=>pow_int_small hc.1 hc.2.1 hc.2.2 q
theorem Iv:OpR X (binaryOp .LShift) (rI Ef fun i j=>.int (i*2 ^ j.toNat)):=opI fun _ _ _ _ _ _ _ hc q=>lshift_int_small hc.1 hc.2.1 hc.2.2 q
theorem Iw:OpR X (binaryOp .RShift) (rI (fun _ j=>0<=j) fun i j=>.int (i / 2 ^ j.toNat)):=opI fun i j _ _ _ _ _ hc q=>rshift_int hc (by rw[Int.fdiv_eq_ediv_of_nonneg i (two_pow_nn _)];exact q)
theorem Iz:OpR X (binaryOp .BitAnd) (rI0 fun i j=>.int (RG i j)):=Im fun _ _ _ _ _ _ _ q=>and_int q
theorem unI{f:Value->Sem Value}{g:Int->Int}
  (rule:∀(i:Int) (t:Tok) (s:Shared) (Q:Value->Shared->Prop) (E:Value->Shared->Prop),Q (.int (g i) s.toks) { s with toks:=s.toks+1 }->wpAny (model X.prog X.w) X.A (f (.int i t)) Q E s) :
  UnR X f (rU fun i=>.int (g i)):=by
 intro jV s σ H x v Q I rx h;obtain⟨i,rfl,q⟩:=h;obtain⟨t,rfl⟩:=rx;exact rule i t s _ _ ⟨.int (g i),H,I.tok _,⟨_,rfl⟩,q⟩
theorem IA:UnR X (unaryOp .USub) (rU fun i=>.int (-i)):=unI fun _ _ _ _ _ q=>neg_int q
end
section
variable{X:Cx}{a b c:Expr}{ta tb tc:TE}{pos:Pos}
theorem Au:OpR X (compareOp .Lt) (rI0 fun i j=>.bl (decide (i<j))):=Ed fun _ _ _ _ _ _ _ q=>lt_int q
theorem Av:OpR X (compareOp .LtE) (rI0 fun i j=>.bl (decide (i<=j))):=Ed fun _ _ _ _ _ _ _ q=>le_int q
theorem Lx:OpR X (compareOp .Gt) (rI0 fun i j=>.bl (decide (j<i))):=Ed fun _ _ _ _ _ _ _ q=>gt_int q
theorem Ly:OpR X (compareOp .GtE) (rI0 fun i j=>.bl (decide (j<=i))):=Ed fun _ _ _ _ _ _ _ q=>ge_int q
theorem OpR.or{f:Value->Value->Sem Value}{r r':R2}(h:OpR X f r)(h':OpR X f r'):OpR X f (fun x y H Q=>r x y H Q\/r' x y H Q):=by
 intro jV s σ H x y v u Q I rx ry q;rcases q with q | q
 ·exact h jV s σ H x y v u Q I rx ry q
 ·exact h' jV s σ H x y v u Q I rx ry q
theorem fy(b:Expr){op:CmpOp}(h:op≠.In:=by decide)(h2:op≠.NotIn:=by decide):behindInMarks op b=false:=by
 have e1:(op == CmpOp.In)=false:=by cases op<;>first | rfl | exact absurd rfl h
 have e2:(op == CmpOp.NotIn)=false:=by cases op<;>first | rfl | exact absurd rfl h2
 cases b<;>simp[behindInMarks,e1,e2]
theorem Eg{op:CmpOp}{r:R2}(ho:OpR X (compareOp op) r)(ha:PE X a ta)(hb:PE X b tb)(hm:behindInMarks op b=false):PE X (.Compare a [op] [b] pos) (tOp r ta tb):=by intro jV s σ H Q I h;exact wpAny_Compare1 (Il ha hb I h fun v u s2 x y H2 I2 rx ry q=>ho jV s2 σ H2 x y v u Q I2 rx ry q) hm
def GH(t:TE):TT:=fun σ H Q=>t σ H fun x H'=>∃k,x=.bl k/\Q k H'
theorem Eh{op:CmpOp}{r:R2}(ho:OpR X (compareOp op) r)(ha:PE X a ta)(hb:PE X b tb)(hm:behindInMarks op b=false):PT X (.Compare a [op] [b] pos) (GH (tOp r ta tb)):=by
 intro jV s σ H Q I h;refine wpAny_isTrue_Compare1 (thn (ha jV s σ H _ I h) fun v s1 ⟨x,H1,I1,r1,q1⟩=>thn (hb jV s1 σ H1 _ I1 q1) fun u s2 ⟨y,H2,I2,r2,q2⟩=>thn (ho jV s2 σ H2 x y v u _ I2 r1 r2 q2) fun c s3 ⟨z,H3,I3,r3,k,e,q3⟩=>?_) hm
 subst e;cases r3;exact wpAny_truthy_bool ⟨H3,I3,q3⟩
def Aw(r r':R2)(ta tb tc:TE):TE:=fun σ H Q=>ta σ H fun x H1=>tb σ H1 fun y H2=>r x y H2 fun z H3=>∃k,z=.bl k /\
 (if k=true then tc σ H3 fun w' H4=>r' y w' H4 Q else Q (.bl false) H3)
theorem Ax{op op':CmpOp}{r r':R2}(ho:OpR X (compareOp op) r)(ho':OpR X (compareOp op') r')(ha:PE X a ta)(hb:PE X b tb)(hc:PE X c tc)
  (hm:lastMarks [op,op'] [b,c]=false:=by with_unfolding_all rfl):PE X (.Compare a [op,op'] [b,c] pos) (Aw r r' ta tb tc):=by
 intro jV s σ H Q I h;refine Compare_chain (thn (ha jV s σ H _ I h) fun v s1 ⟨x,H1,I1,r1,q1⟩=>chain_link (thn (hb jV s1 σ H1 _ I1 q1) fun u s2 ⟨y,H2,I2,r2,q2⟩=>thn (ho jV s2 σ H2 x y v u _ I2 r1 r2 q2) fun d s3 ⟨z,H3,I3,r3,k,e,q3⟩=>?_)) hm
 subst e;cases r3;refine wpAny_truthy_bool ?_;cases k with
 |false=>exact ite_ff ⟨.bl false,H3,I3,rfl,q3⟩
 |true=>exact ite_tt (chain_last (thn (hc jV s3 σ H3 _ I3 q3) fun w' s4 ⟨z',H4,I4,r4,q4⟩=>ho' jV s4 σ H4 y z' u w' Q I4 r2 r4 q4))
def IB(K:Pf)(x:V)(H:Hp)(k:Bool):Prop:=
 match x with
 |.non=>k=false
 |.bl b=>k=b
 |.int i=>k=(i != 0)
 |.str y=>y.length<=sizeLine/\k=((y.length:Int) != 0)
 |.byt y=>y.size<=sizeLine/\k=((y.size:Int) != 0)
 |.ref p=>(∃xs,SqL K H p xs/\k=!xs.isEmpty)\/(∃xs,SqT K H p xs/\k=!xs.isEmpty)\/∃kvs,H p=some (.dK kvs)/\k=!kvs.isEmpty
 |_=>False
theorem vE{κ:Type}{kvs:List (κ×V)}{vs:List (κ×Value)}(r:KV kvs vs):(!vs.isEmpty)=!kvs.isEmpty:=by cases r<;>rfl
theorem mP{xs:List V}{its:List Value}(r:Vals xs its):(!its.toArray.isEmpty)=!xs.isEmpty:=by cases r<;>simp
theorem mQ:(sizeLine:Nat)<2 ^ 63:=by rw[sizeLine_eq];decide
theorem IC:N6 X (fun x H Q=>∃k,IB X.K x H k/\Q k H):=by
 intro jV s σ H x v Q I rx h;obtain⟨k,e,q⟩:=h;have hl:=mQ;have hs:sizeLine=16777216:=sizeLine_eq;cases x with
 |non=>cases rx;have e':k=false:=e;subst e';exact truthy_none ⟨H,I,q⟩
 |bl b=>cases rx;have e':k=b:=e;subst e';exact wpAny_truthy_bool ⟨H,I,q⟩
 |int i=>obtain⟨t,rfl⟩:=rx;have e':k=(i != 0):=e;subst e';exact PySem.P.truthy_int ⟨H,I,q⟩
 |str y=>obtain⟨t,rfl⟩:=rx;obtain⟨hy,e'⟩:y.length<=sizeLine/\k=((y.length:Int) != 0):=e;subst e';exact PySem.P.truthy_str (by lia) ⟨H,I.tok _,q⟩
 |byt y=>obtain⟨t,rfl⟩:=rx;obtain⟨hy,e'⟩:y.size<=sizeLine/\k=((y.size:Int) != 0):=e;subst e';exact PySem.W.truthy_bytes (by lia) ⟨H,I.tok _,q⟩
 |ref p=>
  cases rx;have e':(∃xs,SqL X.K H p xs/\k=!xs.isEmpty)\/(∃xs,SqT X.K H p xs/\k=!xs.isEmpty)\/∃kvs,H p=some (.dK kvs)/\k=!kvs.isEmpty:=e;rcases e' with⟨xs,hx,e'⟩ | ⟨xs,hx,e'⟩ | ⟨kvs,hx,e'⟩
  ·subst e';obtain⟨its,r,pl,hz⟩:=I.list hx;have B3:=r.length;exact wpAny_truthy_list pl.isList (by simp only[Po];lia) ⟨H,I.tok _,by rw[mP r];exact q⟩
  ·subst e';obtain⟨its,r,pl,hz⟩:=I.tuple hx;have B3:=r.length;exact truthy_tuple pl (by simp only[Po];lia) ⟨H,I.tok _,by rw[mP r];exact q⟩
  ·subst e';obtain⟨hz,hS,vs,r,m⟩:kvs.length<=sizeLine/\(p == sysModules)=false/\∃vs,KV kvs vs/\s.heap.DictOf (aS X.prog X.w) p vs:=I.hok p _ hx;have B3:kvs.length=vs.length:=Paired.length r;exact wpAny_truthy_dict hS m (by lia) ⟨H,I.tok _,by rw[vE r];exact q⟩
 |_=>exact(show False from e).elim
theorem Ay(ha:PE X a ta)(he:∀whole,isTrue a X.env whole=(do let v <- whole;standAt a.pos;holding [v] (truthy v))) :
  PT X a (fun σ H Q=>ta σ H fun x H'=>∃k,IB X.K x H' k/\Q k H'):=by
 intro jV s σ H Q I h;exact isTrue_plain (thn (ha jV s σ H _ I h) fun v s1 ⟨x,H1,I1,r1,q1⟩=>IC jV s1 σ H1 x v Q I1 r1 q1) (he _)
theorem vals1{x:V}{us:List Value}(r:Vals [x] us):∃u,us=[u]/\RelV x u:=by
 cases r with
 |cons r1 r2=>cases r2;exact⟨_,rfl,r1⟩
theorem vals2{x y:V}{us:List Value}(r:Vals [x,y] us):∃u w',us=[u,w']/\RelV x u/\RelV y w':=by
 cases r with
 |cons r1 r2=>
  cases r2 with
  |cons r3 r4=>cases r4;exact⟨_,_,rfl,r1,r3⟩
theorem y9(hc:X.calm=true):cY X (.builtin "max") (fun xs H Q=>∃i j,xs=[.int i,.int j]/\Q (.int (if j>i then j else i)) H):=by
 intro jV s σ H xs us Q I r h;obtain⟨i,j,rfl,q⟩:=h;obtain⟨u,w',rfl,⟨t,rfl⟩,⟨t',rfl⟩⟩:=vals2 r;refine max_two_ints (I.ok.hd hc) fun h' tk k=>⟨_,H,I.kept k,?_,q⟩;by_cases hj:j>i
 ·rw[if_pos hj,if_pos hj];exact⟨_,rfl⟩
 ·rw[if_neg hj,if_neg hj];exact⟨_,rfl⟩
theorem y_(hc:X.calm=true):cY X (.builtin "min") (fun xs H Q=>∃i j,xs=[.int i,.int j]/\Q (.int (if j<i then j else i)) H):=by
 intro jV s σ H xs us Q I r h;obtain⟨i,j,rfl,q⟩:=h;obtain⟨u,w',rfl,⟨t,rfl⟩,⟨t',rfl⟩⟩:=vals2 r;refine min_two_ints (I.ok.hd hc) fun h' tk k=>⟨_,H,I.kept k,?_,q⟩;by_cases hj:j<i
 ·rw[if_pos hj,if_pos hj];exact⟨_,rfl⟩
 ·rw[if_neg hj,if_neg hj];exact⟨_,rfl⟩
end
section
variable{mA:Str->Option Value}{h:Heap}
structure ID(h:Heap)(x dx C:Addr)(mA:Str->Option Value):Prop where
 obj:h.get? x=some (R4 C dx)
 ns:h.Ns1 dx mA
 ne:dx≠x
theorem za{dx:Addr}(n:h.Ns1 dx mA):∃od,h.get? dx=some od/\∀name,Sa name od=some (mA name):=by
 obtain⟨o,es,ep,ho,hd,hk,_,hm⟩:=n;refine⟨o,ho,fun name=>?_⟩;have e:=hm name;unfold nsFind findBy at e;rw[<- Array.find?_toList]at e;unfold Sa;rw[hd];dsimp only;split
 ·rename_i y q;rw[q]at e;exact congrArg some e
 ·rename_i q;rw[q]at e;have a:es.toList.any (·.refKey)=false:=by
   rw[List.any_eq_false];intro y hy;obtain⟨z,t,hkey⟩:=hk y (Array.mem_toList_iff.mp hy);simp[DictEntry.refKey,hkey]
  have a':¬es.toList.any (·.refKey)=true:=by rw[a];exact P0
  rw[if_neg a'];exact congrArg some e
theorem ID.look{x dx C:Addr}(I:ID h x dx C mA):∃od,PySem.W.InstAt h x (R4 C dx) C (some od)/\∀name,Sa name od=some (mA name):=
 let ⟨od,ho,hl⟩:=za I.ns
 ⟨od,⟨I.obj,rfl,rfl,ho⟩,hl⟩
theorem ju.some_of{v:V}{o:Option Value}(r:ju (some v) o):∃u,o=some u/\RelV v u:=by
 cases o with
 |none=>exact(show False from r).elim
 |some u=>exact⟨u,rfl,r⟩
end
section
variable{P:Program}{w:World}{H H':Hp}{h h':Heap}{a C dx:Addr}{fs fs':List (Str×V)}
theorem Ei(hok:HOk P w H h)(e:H a=some (.ins C dx fs)):∃mA,ID h a dx C mA/\(∀f,ju (fs.lookup f) (mA f))/\PySem.Within mA (fs.map (·.1))/\fs.length<=1000/\H dx=some (.own a):=by
 obtain⟨d,z,ne,ob,mA,n,r,q⟩:=(show bq P w H h a (.ins C dx fs) from hok a _ e)
 exact⟨mA,⟨ob,n,ne⟩,r,q,z,d⟩
end
structure Cls(K:Pf)(C:Addr):Prop where
 pg:PySem.W.plainGet K C Str.empty=true
 hd:PySem.W.hasDictIn K C=true
 po:PySem.W.plainOver K C=true
 sa:PySem.W.findIn K (.ref C) "__setattr__" = some (some (.builtin "object.__setattr__"))
theorem Cls.get{K:Pf}{C:Addr}(c:Cls K C)(f:Str):PySem.W.plainGet K C f=true:=c.pg
section
variable{X:Cx}{jV:List (Addr×Obj)}{σ:St}{H:Hp}{s:Shared}{A:Around}{E:Value->Shared->Prop}{Q:Value->Shared->Prop}{c:Value}{b:Bool}
inductive jz(K:Pf)(H:Hp):V->Value->Prop where
 |non:jz K H .non (.type "NoneType")
 |bl (x:Bool):jz K H (.bl x) (.type "bool")
 |int (i:Int):jz K H (.int i) (.type "int")
 |str (x:Str):jz K H (.str x) (.type "str")
 |flt (x:UInt64):jz K H (.flt x) (.type "float")
 |lst {a:Addr} {xs:List V} (e:H a=some (.lst xs)):jz K H (.ref a) (.type "list")
 |frz {a:Addr} {o:Obj} {xs:List V} (e:H a=some (.frz o (.lst xs))):jz K H (.ref a) (.type "list")
 |tup {a:Addr} {xs:List V} (e:H a=some (.tup xs)):jz K H (.ref a) (.type "tuple")
 |dK {a:Addr} {kvs:List (Key×V)} (e:H a=some (.dK kvs)):jz K H (.ref a) (.type "dict")
 |dT {a:Addr} {kvs:List (List Key×V)} {ts:List Addr} (e:H a=some (.dT kvs ts)):jz K H (.ref a) (.type "dict")
 |ins {a C dx:Addr} {fs:List (Str×V)} (e:H a=some (.ins C dx fs)) (cl:Cls K C) (ha:PySem.W.findIn K (.ref C) "__class__" = some (some (.builtin "object.__class__")))
   (hn:PySem.W.specialIn K (.builtin "object.__class__") "__get__" = some (some (.builtin "getset_descriptor.__get__"))) (htk:PySem.W.takesIn K (.builtin "object.__class__")=some true)
   (hm:PySem.W.mroIn K C (.type "object")=some true):jz K H (.ref a) (.ref C)
theorem zb{x:V}{u t:Value}(I:Inv X jV σ H s)(rx:RelV x u)(ty:jz X.K H x t)(e:Sb X.K t c=some b)(h:∀tk,Q (.bool b) { s with toks:=tk }) :
  wpAny (model X.prog X.w) A (call (.builtin "isinstance") [u,c]) Q E s:=by
 cases ty with
 |non=>cases (show u=Value.none from rx);exact QB PySem.W.kitx_none I.kIn QL e (fun z=>nomatch z) h
 |bl y=>cases (show u=Sm y from rx);exact QB PySem.W.kitx_bool I.kIn QL e (fun z=>nomatch z) h
 |int i=>obtain⟨t,q⟩:=(show ∃t,u=RL i t from rx);cases q;exact QB PySem.W.kitx_int I.kIn QL e (fun z=>nomatch z) h
 |str y=>obtain⟨t,q⟩:=(show ∃t,u=R3 y t from rx);cases q;exact QB PySem.W.kitx_str I.kIn QL e (fun z=>nomatch z) h
 |flt y=>obtain⟨t,q⟩:=(show ∃t,u=Value.float y t from rx);cases q;exact QB PySem.W.kitx_float I.kIn QL e (fun z=>nomatch z) h
 |@lst a xs ea=>
  cases (show u=Qo a from rx);obtain⟨_,_,n,_,h1⟩:=(show bq X.prog X.w H s.heap a (.lst xs) from I.hok a _ ea)
  exact QB PySem.W.kitx_list I.kIn ⟨_,h1,rfl⟩ e (fun z=>nomatch z) h
 |@frz a ob xs ea=>
  cases (show u=Qo a from rx);obtain⟨_,_,_,n,_,h1⟩:=(show bq X.prog X.w H s.heap a (.frz ob (.lst xs)) from I.hok a _ ea)
  exact QB PySem.W.kitx_list I.kIn ⟨_,h1,rfl⟩ e (fun z=>nomatch z) h
 |@tup a xs ea=>
  cases (show u=Qo a from rx);obtain⟨_,_,_,p⟩:=(show bq X.prog X.w H s.heap a (.tup xs) from I.hok a _ ea)
  obtain⟨o,h1,h2,_⟩:=p;exact QB PySem.W.kitx_tuple I.kIn ⟨o,h1,h2⟩ e (fun z=>nomatch z) h
 |@dK a kvs ea=>
  cases (show u=Qo a from rx);obtain⟨_,_,vs,_,p⟩:=(show bq X.prog X.w H s.heap a (.dK kvs) from I.hok a _ ea)
  obtain⟨o,es,ep,h1,h2,_⟩:=p;exact QB PySem.W.kitx_dict I.kIn ⟨o,h1,h2.1⟩ e (fun z=>nomatch z) h
 |@dT a kvs ts ea=>
  cases (show u=Qo a from rx);obtain⟨_,_,xs,_,o,es,ep,h1,h2,_⟩:=(show bq X.prog X.w H s.heap a (.dT kvs ts) from I.hok a _ ea)
  exact QB PySem.W.kitx_dict I.kIn ⟨o,h1,h2.1⟩ e (fun z=>nomatch z) h
 |@ins a C dx fs ea cl ha hn htk hm=>cases (show u=Qo a from rx);obtain⟨mA,O,_⟩:=Ei I.hok ea;obtain⟨od,J,_⟩:=O.look;exact QB (PySem.W.kitx_own (cl.get _) cl.hd ha hn htk hm) I.kIn J e (fun z=>nomatch z) h
end
section
variable{A:Around}{k:Nat}
structure br(k:Nat)(A:Around):Prop where
 hd:A.handled=none
 dp:A.depth+3*k+5<recursionLimit
 un:A.units+16*k+200<cLine
 gd:A.guards=some []
theorem br.mono{j k:Nat}(r:br k A)(h:j<=k):br j A:=⟨r.hd,by have:=r.dp;lia,by have:=r.un;lia,r.gd⟩
theorem br.deeper(r:br (k+1) A)(env:Env):br k (A.deeper env):=
 ⟨r.hd,by have:=r.dp;show A.depth+1+3*k+5<_;lia,by have:=r.un;show A.units+3+16*k+200<_;lia,r.gd⟩
theorem br.depth(r:br k A):A.depth<recursionLimit:=by have:=r.dp;lia
theorem br.units(r:br k A):A.units+64<cLine:=by have:=r.un;lia
def pF:TA:=fun _ H Q=>Q [] H
def jA(ta:TE)(tr:TA):TA:=fun σ H Q=>ta σ H fun x H1=>tr σ H1 fun xs H2=>Q (x::xs) H2
end
section
variable{X:Cx}{e:Expr}{es:List Expr}{te:TE}{t:TA}{pos:Pos}
theorem gj:PA X [] pF:=fun _ _ _ _ H Q I h=>RU ⟨[],H,I,.nil,h⟩
theorem dX(ha:PE X e te)(hr:PA X es t)(hs:starEach (e::es) X.env=(false,eval e X.env)::starEach es X.env:=by rfl):PA X (e::es) (jA te t):=by intro pos jV s σ H Q I h;rw[hs];show wpAny _ _ (spliced ((false,eval e X.env)::backTo pos (starEach es X.env))) _ _ s;refine RN (thn (ha jV s σ H _ I h) fun u s1 ⟨x,H1,I1,r1,q1⟩=>?_);exact thn (hr pos jV s1 σ H1 _ I1 q1) fun us s2 ⟨xs,H2,I2,r2,q2⟩=>⟨x::xs,H2,I2,.cons r1 r2,q2⟩
def IE(t:TA):TE:=fun σ H Q=>t σ H fun xs H1=>xs.length<=sizeLine/\∀p,H1 p=none->Q (.ref p) (upd H1 p (.tup xs))
def Az(t:TA):TE:=fun σ H Q=>t σ H fun xs H1=>xs.length<=sizeLine/\∀p,H1 p=none->Q (.ref p) (upd H1 p (.lst xs))
theorem AA{x1}(h:PA X es t):PE X (.Tuple es x1 pos) (IE t):=by intro jV s σ H Q I hq;refine wpAny_Tuple_spliced (thn (h pos jV s σ H _ I hq) fun us s1 ⟨xs,H1,I1,r,z,q⟩=>⟨by rw[<- r.length];exact z,?_⟩);have hf:H1 s1.heap.objs.size=none:=I1.hok.fresh (Pj _);refine⟨.ref s1.heap.objs.size,upd H1 s1.heap.objs.size (.tup xs),I1.laid (t':=s1.toks) (fun b u e=>PJ _ e) (Pj _) ?_,rfl,q _ hf⟩;exact⟨z,us,r,⟨_,Qs _ rfl,rfl,_,rfl⟩⟩
theorem vF(h:PA X es t):PE X (.List es pos) (Az t):=by intro jV s σ H Q I hq;refine wpAny_List_spliced (thn (h pos jV s σ H _ I hq) fun us s1 ⟨xs,H1,I1,r,z,q⟩=>⟨by rw[<- r.length];exact z,?_⟩);have hf:H1 s1.heap.objs.size=none:=I1.hok.fresh (Pj _);refine⟨.ref s1.heap.objs.size,upd H1 s1.heap.objs.size (.lst xs),I1.laid (t':=s1.toks) (fun b u e=>PJ _ e) (Pj _) ?_,rfl,q _ hf⟩;exact⟨z,us,0,r,Qs _ rfl⟩
end
noncomputable abbrev Sp:=List V->Hp->VK->XK->Prop
noncomputable abbrev CXT:=List Env->Hp->Shared->XK->Value->Shared->Prop
structure Ej(P:Program)(w:World)(K:Pf)(mg:Str->Option Value)(base:Heap)(A:Around)(outer:List Env)(s:Shared)(H:Hp):Prop where
 frames:A.frames=some outer
 mod:Mod K mg base
 bs:∀b o,base.get? b=some o->s.heap.get? b=some o/\H b=none
 bsz:base.objs.size<=s.heap.objs.size
 mK:s.heap.FunFrames base outer
 frf:∀b∈frs outer,H b=none
 hok:HOk P w H s.heap
 bare:AllBare s.gens
def CE(outer:List Env)(P:Program)(w:World)(H:Hp)(s:Shared)(Q:VK)(u:Value)(s':Shared):Prop:=
 ∃v H',s'.os=s.os/\AllBare s'.gens/\Un (frs outer) [] H H' s.heap s'.heap/\HOk P w H' s'.heap/\RelV v u/\Q v H'
def CR(CX:CXT)(outer:List Env)(P:Program)(w:World)(H:Hp)(s:Shared)(Q:VK)(E:XK)(r:Result)(s':Shared):Prop:=
 match r with
 |.ok (.ret u)=>CE outer P w H s Q u s'
 |.ok _=>False
 |.error e=>CX outer H s E e s'
structure aT(P:Program)(w:World)(K:Pf)(mg:Str->Option Value)(base:Heap)(CX:CXT)(k:Nat)(f:Addr)(fd:FuncData)(ps:List Str)(sp:Sp):Prop where
 len:∀vs H Q E,sp vs H Q E->vs.length=ps.length
 run:∀(A:Around) (outer:List Env) (s:Shared) (H:Hp) (args:Args) (us:List Value) (vs:List V) (Q:VK) (E:XK),br k A->Ej P w K mg base A outer s H->BindsTo s fd args (ps.zip us)->Vals vs us->sp vs H Q E ->
  codeAny (model P w) A (.call (.ref f) args) (CR CX outer P w H s Q E) s
section
variable{X:Cx}{jV:List (Addr×Obj)}{σ:St}{H:Hp}{s s':Shared}
theorem Inv.N7(I:Inv X jV σ H s):Ej X.prog X.w X.K X.mg X.base X.A X.stack s H:=
 ⟨I.ok.frames,I.ok.mod,I.bs,PL I.ok.bsz I.sz,I.stack,I.xA,I.hok,I.bare⟩
theorem Inv.after{Q:VK}{u:Value}(I:Inv X jV σ H s)(h:CE X.stack X.prog X.w H s Q u s'):EP X jV σ Q u s':=by obtain⟨v,H',os,bare,un,hok,r,q⟩:=h;obtain⟨hh,g,d,t,os'⟩:=s';obtain rfl:os'=s.os:=os;exact⟨v,H',I.call (h':=hh) (g':=g) (d':=d) (t':=t) (ch:=[]) un hok bare (fun b z=>absurd z (by simp)),r,q⟩
end
def gk(sp:Sp)(dvs:List V)(E:XK)(t:TA):TE:=fun σ H Q=>t σ H fun vs H1=>sp (vs++dvs) H1 Q E
def Binds(K:Pf)(fd:FuncData)(ps:List Str)(ds:List Value):Prop:=
 ∀(s:Shared) (us:List Value),K.In s.heap->(us++ds).length=ps.length->BindsTo s fd ⟨us,[]⟩ (ps.zip (us++ds))
theorem Binds.all{K:Pf}{fd:FuncData}{ps:List Str}(h:∀us:List Value,us.length=ps.length->bindArgs fd ⟨us,[]⟩=pure (ps.zip us)):Binds K fd ps []:=fun s us _ hl=>by rw[Qe]at hl ⊢;exact .of_eq (h us hl)
def Passes(CX:CXT)(X:Cx)(E:XK):Prop:=∀(jV:List (Addr×Obj)) (σ:St) (H:Hp) (s:Shared) (e:Value) (s':Shared),Inv X jV σ H s->CX X.stack H s E e s'->X.xe e s'
section
variable{X:Cx}{CX:CXT}{k:Nat}{f C:Addr}{fd:FuncData}{ps:List Str}{sp:Sp}{dvs:List V}{ds:List Value}{E:XK}{x m:Str}{p pos J_:Pos}{e o:Expr}{es:List Expr}{ta:TE}{t:TA}
theorem AB{jV:List (Addr×Obj)}{σ:St}{H:Hp}{s:Shared}{Q:VK}{us:List Value}{vs:List V}(F:aT X.prog X.w X.K X.mg X.base CX k f fd ps sp)(hr:br k X.A)(hb:Binds X.K fd ps ds)(hd:Vals dvs ds)(hx:Passes CX X E)
  (I:Inv X jV σ H s) (r:Vals vs us) (h:sp (vs++dvs) H Q E):wpAny (model X.prog X.w) X.A (call (.ref f) us) (EP X jV σ Q) X.xe s:=by
 have r2:Vals (vs++dvs) (us++ds):=r.append hd;have hl:(us++ds).length=ps.length:=by rw[<- r2.length];exact F.len _ _ _ _ h
 refine wpAny_call (codeAny_mono (F.run X.A X.stack s H ⟨us,[]⟩ (us++ds) (vs++dvs) Q E hr I.N7 (hb s us I.kIn hl) r2 h) fun r s' hq=>?_);cases r with
 |error e=>exact hx jV σ H s e s' I hq
 |ok fl=>
  cases fl with
  |ret u=>exact I.after hq
  |next=>exact Qf hq
  |brk=>exact Qf hq
  |cont=>exact Qf hq
theorem fB(F:aT X.prog X.w X.K X.mg X.base CX k f fd ps sp)(hr:br k X.A)(hg:Gl X x)(hm:X.mg x=some (.ref f))(hk:Qq X.K (.ref f)=true)(hb:Binds X.K fd ps ds)(hd:Vals dvs ds)(hx:Passes CX X E)
  (ha:PA X (e::es) t) (M0:(x == ("__debug__" : Str))=false:=by decide) (he:starEach (e::es) X.env=(false,eval e X.env)::starEach es X.env:=by rfl) (Ct:(backTo pos (starEach es X.env)).any (·.1)=false:=by rfl) :
  PE X (.Call (.Name x p) (e::es) [] pos) (gk sp dvs E t):=by
 intro jV s σ H Q I h;refine wpAny_Call_Name_kw (xC I hg hm ?_ M0);refine PySem.W.callWith_K (h₀:=X.base) I.ok.mod.kin hk (thn (ha pos jV s σ H _ I h) fun us s1 ⟨vs,H1,I1,r,q⟩=>⟨I1.kIn,?_⟩) he Ct;exact AB F hr hb hd hx I1 r q
end
section
variable{x:Str}{v:Value}
structure aD(N P:List Str)(sc:Scope):Prop where
 kind:sc.kind=.function
 co:sc.isCoroutine=false
 gen:sc.isGenerator=false
 nd:N.Nodup
 pre:N.take P.length=P
 par:∀x∈P,sc.names.lookup x=some .local\/sc.names.lookup x=some .cell
 IF:∀y∈sc.names,y.2≠.free
theorem pX{kindOf:Str->Option NameKind}:∀{binds:List (Str×Value)} {m:Str->Option Value},(∀v,(x,v)∉binds)->bindL kindOf binds m x=m x
 |[],_,_=>rfl
 |(n,v)::r,m,h=>by
  unfold bindL;rw[pX fun w hw=>h w (Pa _ hw)];split
  ·have:x≠n:=by rintro rfl;exact h v Ds
   simp[this]
  ·rfl
theorem pY{kindOf:Str->Option NameKind}:∀{binds:List (Str×Value)} {m:Str->Option Value},(∀v,(x,v)∉binds)->bindC kindOf binds m x=m x
 |[],_,_=>rfl
 |(n,v)::r,m,h=>by
  unfold bindC;rw[pY fun w hw=>h w (Pa _ hw)];split
  ·rfl
  ·have:x≠n:=by rintro rfl;exact h v Ds
   simp[this]
theorem pZ{kindOf:Str->Option NameKind}:∀{P:List Str} {vs:List Value} {i:Nat} {m:Str->Option Value},P.Nodup->P[i]?=some x->vs[i]?=some v->kindOf x=some .local ->
  bindL kindOf (P.zip vs) m x=some v
 |[],_,_,_,_,h,_,_=>by simp at h
 |_::_,[],_,_,_,_,h,_=>by simp at h
 |p::P,w::vs,0,m,nd,h1,h2,hk=>by simp at h1 h2;subst h1;subst h2;show bindL kindOf ((p,w)::P.zip vs) m p=_;unfold bindL;rw[pX fun v hv=>(Pn.mp nd).1 (R5 hv).1,if_pos hk];simp
 |p::P,w::vs,i+1,m,nd,h1,h2,hk=>by show bindL kindOf ((p,w)::P.zip vs) m x=_;unfold bindL;exact pZ (i:=i) (Pn.mp nd).2 (by simpa using h1) (by simpa using h2) hk
theorem p6{kindOf:Str->Option NameKind}:∀{P:List Str} {vs:List Value} {i:Nat} {m:Str->Option Value},P.Nodup->P[i]?=some x->vs[i]?=some v->kindOf x≠some .local ->
  bindC kindOf (P.zip vs) m x=some v
 |[],_,_,_,_,h,_,_=>by simp at h
 |_::_,[],_,_,_,_,h,_=>by simp at h
 |p::P,w::vs,0,m,nd,h1,h2,hk=>by simp at h1 h2;subst h1;subst h2;show bindC kindOf ((p,w)::P.zip vs) m p=_;unfold bindC;rw[pY fun v hv=>(Pn.mp nd).1 (R5 hv).1,if_neg hk];simp
 |p::P,w::vs,i+1,m,nd,h1,h2,hk=>by show bindC kindOf ((p,w)::P.zip vs) m x=_;unfold bindC;exact p6 (i:=i) (Pn.mp nd).2 (by simpa using h1) (by simpa using h2) hk
noncomputable def start(N:List Str)(vs:List V):St:=vs.map some++gV (N.length-vs.length) none
noncomputable def vG(CX:CXT)(P:Program)(w:World)(K:Pf)(mg:Str->Option Value)(base:Heap)(N:List Str)(qual:Str)(scope:Scope)(f:Addr)(cd:Value)(A:Around)(outer:List Env)(s:Shared)(H:Hp)(E:XK):Cx where
 prog:=P
 w:=w
 K:=K
 mg:=mg
 base:=base
 A:=A.deeper (envOfC qual scope s.heap.objs.size f cd)
 N:=N
 s₀:=s
 H₀:=H
 env:=envOfC qual scope s.heap.objs.size f cd
 outer:=outer
 stack:=envOfC qual scope s.heap.objs.size f cd::outer
 ex:=[]
 calm:=true
 fn:=fun _=>true
 pn:=[]
 xe:=fun e s'=>wpAny (model P w) (A.deeper (envOfC qual scope s.heap.objs.size f cd)) (leaving (envOfC qual scope s.heap.objs.size f cd) e) (fun _ s''=>CX outer H s E e s'') (fun e' s''=>CX outer H s E e' s'') s'
theorem sZ{sc:Scope}{n:Nat}(h:sc.names.lookup x=some .cell):∃c,(cellsFrom n sc.names []).lookup x=some c:=by have q:=PySem.W.cellsFrom_some sc.names n [] (.inl h);exact Option.isSome_iff_exists.mp q
theorem zc{CX:CXT}{P:Program}{w:World}{K:Pf}{mg:Str->Option Value}{base:Heap}{N ps:List Str}{qual:Str}{scope:Scope}{f:Addr}{cd:Value}{A:Around}{outer:List Env}{s s1:Shared}{H:Hp}{E:XK}{us:List Value}{vs:List V}
  (S:aD N ps scope) (hd:A.handled=none) (e0:Ej P w K mg base A outer s H) (hl:vs.length=ps.length) (r:Vals vs us)
  (x:InCallC s s.heap.objs.size (bindL (envOfC qual scope s.heap.objs.size f cd).kindOf (ps.zip us) fun _=>none) (cellsFrom (s.heap.objs.size+1) scope.names []) (bindC (envOfC qual scope s.heap.objs.size f cd).kindOf (ps.zip us) fun _=>none) s1) :
  Inv (vG CX P w K mg base N qual scope f cd A outer s H E) [] (start N vs) H s1:=by
 have Ct:ps.length<=N.length:=by have:=congrArg List.length S.pre;rw[P9]at this;lia
 obtain⟨h1,tk,rfl,hk⟩:=x.done;have noA:∀b:Addr,b∉(vG CX P w K mg base N qual scope f cd A outer s H E).ex:=fun b z=>absurd (show b∈([]:List Addr) from z) (by simp);refine ⟨⟨e0.mod,S.kind,rfl,rfl,Pj _,fun y z c h1 h2=>?_,fun y hy=>?_,fun y c _ h=>?_,fun _=>hd,Around.frames_deeper e0.frames,.inr ⟨rfl,rfl⟩,fun b z=>absurd z (noA b),e0.bs,e0.bsz,fun b _ _=>noA b,fun b z=>absurd z (noA b),e0.mK,e0.frf⟩,
  rfl,e0.bare,Un.kept hk,⟨_,x.toInCall.ns,fun i y v h1 h2 h3=>?_⟩,fun y c h=>⟨_,x.cell y c h⟩,e0.hok.fresh (Pj _),fun y c h=>?_,fun p hp=>absurd (show p∈([]:List (Addr×Obj)) from hp) (by simp),e0.hok.kept hk,?_⟩
 ·exact name_of_addr x.apart (PySem.mem_of_lookup h1) (PySem.mem_of_lookup h2)
 ·have hy:scope.names.lookup y=some .cell\/scope.names.lookup y=some .free:=hy;rcases hy with hy | hy
  ·exact sZ hy
  ·exact absurd rfl (S.IF _ (PySem.mem_of_lookup hy))
 ·exact RY (x.above y c (PySem.mem_of_lookup h))
 ·have hi:i<vs.length:=by
   unfold start at h2;by_cases hi:i<vs.length
   ·exact hi
   ·rw[P5 (by simpa using hi)]at h2;rw[Qi]at h2;split at h2<;>cases h2
  have ha:vs[i]?=some v:=by
   unfold start at h2;rw[Pq (by simpa using hi),Py]at h2;cases e:vs[i]? with
   |none=>rw[e]at h2;cases h2
   |some a=>rw[e]at h2;cases h2;rfl
  obtain⟨u,hu,rv⟩:=r.get ha;have hp:ps[i]?=some y:=by rw[<- S.pre,QM (by lia)];exact h1
  have ndP:ps.Nodup:=by rw[<- S.pre];exact S.nd.sublist (List.take_sublist _ _)
  refine⟨u,rv,?_⟩;rcases S.par y (Q0 hp) with k | k
  ·exact .inl ⟨k,pZ ndP hp hu k⟩
  ·obtain⟨c,e⟩:=sZ (n:=s.heap.objs.size+1) k;refine .inr ⟨.inl k,c,e,?_⟩;have q:=x.cell y c e;rw[p6 ndP hp hu (by show scope.names.lookup y≠_;rw[k];decide)]at q;exact q
 ·exact e0.hok.fresh (RY (x.above y c (PySem.mem_of_lookup h)))
 ·unfold start;show _=N.length;rw[Pr,Pg,Qz]
  lia
theorem Lz{CX:CXT}{P:Program}{w:World}{K:Pf}{mg:Str->Option Value}{base:Heap}{k:Nat}{f:Addr}{name qual:Str}{params:Arguments}{body:List Stmt}{scope:Scope}{dV kV doc pm cdv ct oc:Value}{an od:Option Addr}
  {osl:Array (Option Value)} {N ps:List Str} {sp:Sp} (lk:K.lookup f=some ⟨oc,od,.func (Qj name qual params body scope dV kV doc pm an cdv ct),osl⟩) (G3:RH K cdv qual=true) (S:aD N ps scope)
  (len:∀vs H Q E,sp vs H Q E->vs.length=ps.length)
  (hbody:∀ (A:Around) (outer:List Env) (s:Shared) (H:Hp) (vs:List V) (Q:VK) (E:XK),br k (A.deeper (envOfC qual scope s.heap.objs.size f cdv))→sp vs H Q E →
   ∃t,PSs (vG CX P w K mg base N qual scope f cdv A outer s H E) body t/\t { nx:=fun _ H'=>Q .non H',rt:=Q } (start N vs) H) :
  aT P w K mg base CX (k+1) f (Qj name qual params body scope dV kV doc pm an cdv ct) ps sp:=by
 refine⟨len,fun A outer s H args us vs Q E hr e0 hb r hsp=>?_⟩;have hl:=len _ _ _ _ hsp;have KX:K.In s.heap:=e0.mod.kin.keeps fun b o e=>(e0.bs b o e).1;have lim:s.heap.NoLimit:=e0.mod.nolimit.keeps fun b o e=>(e0.bs b o e).1;have hkind:∀y∈ps.zip us,scope.names.lookup y.1=some .local\/(scope.names.lookup y.1=some .cell/\((cellsFrom (s.heap.objs.size+1) scope.names []).lookup y.1).isSome=true):=fun⟨n,v⟩ hy=>by
  rcases S.par n (R5 hy).1 with q | q
  ·exact .inl q
  ·exact .inr ⟨q,PySem.W.cellsFrom_some _ _ _ (.inl q)⟩
 refine codeAny_call_function hr.depth (KX _ _ lk) rfl S.co S.gen rfl (PySem.W.codeRec_of KX G3) (hb _ _ _ _ ?_);refine wpAny_newFunctionEnv_cells S.kind hkind fun env he s1 x=>?_;subst he;refine⟨lim.keeps x.toInCall.keep,codeAny_func ?_⟩;obtain⟨t,ht,hq⟩:=hbody A outer s H vs Q E (hr.deeper _) hsp;have I:Inv (vG CX P w K mg base N qual scope f cdv A outer s H E) [] (start N vs) H s1:=zc S hr.hd e0 hl r x;refine wpAny_mono (ht [] s1 (start N vs) H _ I hq) (fun fl s' hs=>?_) fun e s' hs=>hs;have Ks:∀{σ':St} {H':Hp} {v:V} {u:Value},Inv (vG CX P w K mg base N qual scope f cdv A outer s H E) [] σ' H' s'->RelV v u->Q v H'->CE outer P w H s Q u s':=
  fun {σ' H' v u} J rv q=>⟨v,H',J.os,J.bare,J.base,J.hok,rv,q⟩
 cases fl with
 |ret u=>obtain⟨v,σ',H',J,rv,q⟩:=hs;exact Ks J rv q
 |next=>obtain⟨σ',H',J,q⟩:=hs;exact Ks (v:=V.non) (u:=Value.none) J rfl q
 |brk=>obtain⟨_,_,_,q⟩:=hs;exact Qf q
 |cont=>obtain⟨_,_,_,q⟩:=hs;exact Qf q
end
section
variable{X:Cx}{x:Str}{p pos:Pos}{e:Expr}{es:List Expr}{t:TA}{id T:String}{r:List V->Hp->VK->Prop}
def tCB(r:List V->Hp->VK->Prop)(t:TA):TE:=fun σ H Q=>t σ H fun vs H1=>r vs H1 Q
theorem mR(hc:cY X (.builtin id) r)(hg:Gl X x)(hm:X.mg x=none)(hv:bootBuiltins x=some (.builtin id))(ha:PA X (e::es) t)(hn:x ≠ "__name__" := by decide)(M0:(x == ("__debug__" : Str))=false:=by decide)
  (he:starEach (e::es) X.env=(false,eval e X.env)::starEach es X.env:=by rfl) (Ct:(backTo pos (starEach es X.env)).any (·.1)=false:=by rfl):PE X (.Call (.Name x p) (e::es) [] pos) (tCB r t):=by
 intro jV s σ H Q I h;refine wpAny_Call_Name_kw (ko I hg hm hv ?_ hn M0);exact PyProof.Rows.callWith_builtin1 (thn (ha pos jV s σ H _ I h) fun us s1 ⟨vs,H1,I1,r1,q1⟩=>hc jV s1 σ H1 vs us Q I1 r1 q1) he Ct
theorem p7(hc:cY X (.type T) r)(hg:Gl X x)(hm:X.mg x=none)(hv:bootBuiltins x=some (.type T))(ha:PA X (e::es) t)(hn:x ≠ "__name__" := by decide)(M0:(x == ("__debug__" : Str))=false:=by decide)
  (he:starEach (e::es) X.env=(false,eval e X.env)::starEach es X.env:=by rfl) (Ct:(backTo pos (starEach es X.env)).any (·.1)=false:=by rfl):PE X (.Call (.Name x p) (e::es) [] pos) (tCB r t):=by
 intro jV s σ H Q I h;refine wpAny_Call_Name_kw (ko I hg hm hv ?_ hn M0);exact QY (thn (ha pos jV s σ H _ I h) fun us s1 ⟨vs,H1,I1,r1,q1⟩=>hc jV s1 σ H1 vs us Q I1 r1 q1) he Ct
end
end L2
namespace HT
open PySem PyProof.Rows
section
variable{prog:Program}{w:World}{A:Around}{E:Value->Shared->Prop}{s:Shared}
section
variable{lo hi:Option Int}{vl vu:Value}
noncomputable def sIx(n d:Nat):Option Int->Nat
 |none=>d
 |some v=>if v<0 then (v+(n:Int)).toNat else min v.toNat n
theorem IG(n d:Nat)(hd:d<=n)(o:Option Int):sIx n d o<=n:=by
 cases o with
 |none=>exact hd
 |some v=>
  show (if v<0 then (v+(n:Int)).toNat else min v.toNat n)<=n;by_cases hv:v<0
  ·rw[if_pos hv];lia
  ·rw[if_neg hv];exact Nat.min_le_right _ _
theorem xD(v:Int)(n d:Nat):(if v<0 then max (v+(n:Int)) 0 else min v (n:Int))=((sIx n d (some v):Nat):Int):=by
 show (if v<0 then max (v+(n:Int)) 0 else min v (n:Int))=(((if v<0 then (v+(n:Int)).toNat else min v.toNat n):Nat):Int)
 by_cases hv:v<0
 ·simp only[if_pos hv];lia
 ·simp only[if_neg hv];lia
theorem vH(lo hi:Option Int)(n:Nat):Rn lo hi 1 (n:Int)=(((sIx n 0 lo:Nat):Int),((sIx n n hi:Nat):Int)):=by
 have h1:¬((1:Int)<0):=by lia
 unfold Rn;simp only[h1,if_false];refine Prod.ext ?_ ?_
 ·cases lo with
  |none=>rfl
  |some v=>exact xD v n 0
 ·cases hi with
  |none=>rfl
  |some v=>exact xD v n n
theorem vJ(i j:Nat):Q2 (i:Int) (j:Int) 1=j-i:=by
 unfold Q2;have h1:(1:Int)>0:=by lia
 simp only[h1,if_true,Int.ediv_one];split<;>lia
theorem mS{v:Value}{o:Option Int}{Q:Option Int->Shared->Prop}(p:IsPart v o)(h:Q o s):wpAny (model prog w) A (Builtin.Slice.slicePartIndex v) Q E s:=by
 cases p with
 |none=>exact slicePart_none h
 |int i t=>exact slicePart_int h
theorem eS{sl:Addr}{n:Nat}{Q:Int×Int×Nat->Shared->Prop}(hs:s.heap.IsSliceOf sl vl vu .none)(pl:IsPart vl lo)(pu:IsPart vu hi)
  (h:Q (((sIx n 0 lo:Nat):Int),1,sIx n n hi-sIx n 0 lo) s):wpAny (model prog w) A (Builtin.Slice.sliceApplied (.ref sl) (pure (n:Int))) Q E s:=by
 obtain⟨os,hos,hcs,hds⟩:=id hs;unfold Builtin.Slice.sliceApplied Builtin.Slice.sliceFields;refine wpAny_bind (wpAny_bind (wpAny_field hos hds (x:=vl) rfl (wpAny_bind (wpAny_field hos hds (x:=vu) rfl (wpAny_bind (wpAny_field hos hds (x:=.none) rfl (wpAny_pure ?_)))))));refine wpAny_bind (slicePart_none ?_);show wpAny _ _ (if ((1:Int) == 0)=true then _ else _) _ _ s;rw[if_neg (by decide)];refine wpAny_bind (mS pl (wpAny_bind (mS pu (wpAny_bind (wpAny_pure ?_)))));show wpAny _ _ (match Rn lo hi 1 (n:Int) with | (lo,hi)=>pure (lo,(1:Int),Q2 lo hi 1)) _ _ s;rw[vH lo hi n];show wpAny _ _ (pure (((sIx n 0 lo:Nat):Int),(1:Int),Q2 ((sIx n 0 lo:Nat):Int) ((sIx n n hi:Nat):Int) 1)) _ _ s;rw[vJ];exact wpAny_pure h
theorem AD(xs:Array Value)(i k:Nat):((Pu k).filterMap fun(m:Nat)=>xs[((i:Int)+(m:Int)*1).toNat]?).toArray=((xs.toList.drop i).take k).toArray:=by
 have e:(fun(m:Nat)=>xs[((i:Int)+(m:Int)*1).toNat]?)=fun m=>xs[i+m]?:=by
  funext m
  have:((i:Int)+(m:Int)*1).toNat=i+m:=by lia
  rw[this]
 rw[e];have:=pick_run xs i k;rw[List.filterMap_map]at this;have e2:((fun x=>xs[x]?)∘fun x=>i+x)=fun m=>xs[i+m]?:=rfl;rw[e2]at this;rw[this]
theorem jB{t sl:Addr}{items:Array Value}{Q:Value->Shared->Prop}(ht:IsTup s.heap t items)(hs:s.heap.IsSliceOf sl vl vu .none)(pl:IsPart vl lo)(pu:IsPart vu hi)
  (hw:¬(sIx items.size 0 lo=0/\sIx items.size items.size hi=items.size))
  (h:Q (.ref s.heap.objs.size) { s with heap:=s.heap.push { cls:=.type "tuple",data:=.seq ((items.toList.drop (sIx items.size 0 lo)).take (sIx items.size items.size hi-sIx items.size 0 lo)).toArray } })
  (hsz:items.size<=sizeLine):wpAny (model prog w) A (getItem (.ref t) (.ref sl)) Q E s:=by
 have xE:sizeOk (.seq ((items.toList.drop (sIx items.size 0 lo)).take (sIx items.size items.size hi-sIx items.size 0 lo)).toArray):=by show ((items.toList.drop (sIx items.size 0 lo)).take (sIx items.size items.size hi-sIx items.size 0 lo)).toArray.size<=sizeLine;rw[Po,P9,Q4,Rk];omega
 have hj:sIx items.size items.size hi<=items.size:=IG _ _ (Pj _) hi;obtain⟨os,hos,hcs,hds⟩:=id hs;have hTs:s.TypeIs (.ref sl) "slice" := ⟨os,hos,hcs⟩
 unfold getItem
 try with_reducible refine wpAny_holding ?_
 first | refine wpAny_bind (wpAny_pure ?_) | skip
 refine wpAny_bind (wpAny_sequenceKey ht.typeIs (by decide) ?_);refine wpAny_bind (wpAny_callSpecial?_slot (name:=Str.ofString "__getitem__") ht.typeIs Qu
  (wpAny_call_entry Qu ht.typeIs entry_tuple_getitem ?_ (args_tuple_getitem _ _)))
 show wpAny _ _ (Builtin.Tuple.tupleItemsOf (.ref t) >>= _) _ _ s;refine wpAny_bind (tupleItemsOf_ ht ?_);refine wpAny_bind (wpAny_typeOf hTs ?_);rw[if_pos (by decide)];refine wpAny_bind (eS hs pl pu ?_);have hno:¬((((sIx items.size 0 lo:Nat):Int) == 0&&(1:Int) == 1&&(sIx items.size items.size hi-sIx items.size 0 lo) == items.size)=true):=by intro q;rw[Pz,Pz]at q;have q1:((sIx items.size 0 lo:Nat):Int)=0:=eq_of_beq q.1.1;have q2:sIx items.size items.size hi-sIx items.size 0 lo=items.size:=eq_of_beq q.2;exact hw ⟨by omega,by omega⟩
 show wpAny _ _ (if (((sIx items.size 0 lo:Nat):Int) == 0&&(1:Int) == 1&&(sIx items.size items.size hi-sIx items.size 0 lo) == items.size)=true then _ else _) _ _ s;rw[if_neg hno,AD]
 first
  |exact wpAny_bind (m:=Q5 _) (wpAny_newObj_type (wpAny_pure ⟨_,rfl,wpAny_pure h⟩) xE)
  |exact wpAny_bind (m:=Q5 _) (wpAny_newObj_type (wpAny_bind (wpAny_pure (wpAny_pure ⟨_,rfl,wpAny_pure h⟩))) xE)
  |exact wpAny_bind (wpAny_bind (m:=Q5 _) (wpAny_newObj_type (wpAny_pure (wpAny_pure ⟨_,rfl,wpAny_pure h⟩)) xE))
  |exact wpAny_bind (wpAny_bind (m:=Q5 _) (wpAny_newObj_type (wpAny_pure ⟨_,rfl,wpAny_pure h⟩) xE))
end
end
end HT
namespace L2
open PySem PySem.Spec PyProof.Rows
noncomputable abbrev TO:=St->Hp->(Option Int->Hp->Prop)->Prop
def PO(X:Cx)(e:Option Expr)(t:TO):Prop:=
 ∀(jV:List (Addr×Obj)) (s:Shared) (σ:St) (H:Hp) (Q:Option Int->Hp->Prop),Inv X jV σ H s->t σ H Q ->
  wpAny (model X.prog X.w) X.A (evalPart e X.env) (fun u s'=>∃o H',Inv X jV σ H' s'/\IsPart u o/\Q o H') X.xe s
def qY:TO:=fun _ H Q=>Q none H
def AE(t:TE):TO:=fun σ H Q=>t σ H fun x H1=>∃i,x=.int i/\Q (some i) H1
section
variable{X:Cx}{e:Expr}{te:TE}{lo hi:Option Expr}{tl th:TO}{pos p2:Pos}
theorem Ek:PO X none qY:=by intro jV s σ H Q I h;rw[evalPart_none];exact wpAny_pure ⟨none,H,I,.none,h⟩
theorem El(h:PE X e te):PO X (some e) (AE te):=by intro jV s σ H Q I hw;rw[evalPart_some];refine thn (h jV s σ H _ I hw) fun u s1 ⟨x,H1,I1,r1,q1⟩=>?_;obtain⟨i,rfl,q⟩:=q1;obtain⟨t,rfl⟩:=r1;exact⟨some i,H1,I1,.int i t,q⟩
def SlR(X:Cx)(r:V->Option Int->Option Int->Hp->VK->Prop):Prop:=
 ∀(jV:List (Addr×Obj)) (s:Shared) (σ:St) (H:Hp) (x:V) (v vl vu:Value) (lo hi:Option Int) (sl:Addr) (Q:VK),Inv X jV σ H s->RelV x v->s.heap.IsSliceOf sl vl vu .none->IsPart vl lo->IsPart vu hi->r x lo hi H Q ->
  ∃T id,typeLookup (.type T) "__getitem__" = pure (some (.builtin id))/\s.TypeIs v T/\wpAny (model X.prog X.w) X.A (getItem v (.ref sl)) (EP X jV σ Q) X.xe s
def tSl(r:V->Option Int->Option Int->Hp->VK->Prop)(te:TE)(tl th:TO):TE:=fun σ H Q=>te σ H fun x H1=>tl σ H1 fun l H2=>th σ H2 fun u H3=>r x l u H3 Q
theorem mT{r:V->Option Int->Option Int->Hp->VK->Prop}(hr:SlR X r)(he:PE X e te)(hl:PO X lo tl)(hu:PO X hi th):PE X (.Subscript e (.Slice lo hi none p2) pos) (tSl r te tl th):=by intro jV s σ H Q I h;refine Subscript_ (thn (he jV s σ H _ I h) fun v s1 ⟨x,H1,I1,r1,q1⟩=>?_);refine wpAny_Slice (thn (hl jV s1 σ H1 _ I1 q1) fun vl s2 ⟨l,H2,I2,pl,q2⟩=>thn (hu jV s2 σ H2 _ I2 q2) fun vu s3 ⟨u,H3,I3,pu,q3⟩=>?_);rw[evalPart_none];refine wpAny_pure ?_;have I4:Inv X jV σ H3 { s3 with heap:=s3.heap.push { cls:=.type "slice",data:=.fields #[vl,vu,.none] } }:=I3.kept (t':=s3.toks) fun b ob q=>PJ _ q;obtain⟨T,id,hT,ht,hg⟩:=hr jV { s3 with heap:=s3.heap.push { cls:=.type "slice",data:=.fields #[vl,vu,.none] } } σ H3 x v vl vu l u s3.heap.objs.size Q I4 r1 (Heap.IsSliceOf.new ..) pl pu q3;show wpAny (model X.prog X.w) X.A (subscriptTail e (.Slice lo hi none p2) v (.ref s3.heap.objs.size)) (EP X jV σ Q) X.xe { s3 with heap:=s3.heap.push { cls:=.type "slice",data:=.fields #[vl,vu,.none] } };exact tail_any (ops:=[.ref s3.heap.objs.size,v]) ht hT hg (by with_unfolding_all rfl)
noncomputable def l8(xs:List V)(lo hi:Option Int):List V:=(xs.drop (HT.sIx xs.length 0 lo)).take (HT.sIx xs.length xs.length hi-HT.sIx xs.length 0 lo)
theorem lD(xs:List V)(lo hi:Option Int):(l8 xs lo hi).length<=xs.length:=by
 unfold l8;rw[P9,Q4]
 lia
def LA(K:Pf):V->Option Int->Option Int->Hp->VK->Prop:=fun x lo hi H Q=>∃a xs,x=.ref a/\SqT K H a xs /\
 ¬(HT.sIx xs.length 0 lo=0/\HT.sIx xs.length xs.length hi=xs.length)/\∀p,H p=none->Q (.ref p) (upd H p (.tup (l8 xs lo hi)))
theorem AF:SlR X (LA X.K):=by
 intro jV s σ H x v vl vu lo hi sl Q I rx hs pl pu h;obtain⟨a,xs,rfl,hx,hw,q⟩:=h;cases rx;obtain⟨its,r,ht,hz⟩:=I.tuple hx;have B3:its.toArray.size=xs.length:=by rw[Po];exact r.length.symm
 refine⟨"tuple",_,Qu.lookup,ht.typeIs,?_⟩;refine HT.jB ht hs pl pu (by rw[B3];exact hw) ?_ (by rw[B3];exact hz);rw[B3];refine⟨.ref s.heap.objs.size,_,I.laid (t':=s.toks) (o:=.tup (l8 xs lo hi)) (fun b ob q=>PJ _ q) (Pj _) ?_,rfl,q _ (I.hok.fresh (Pj _))⟩;exact⟨PL (lD xs lo hi) hz,_,(r.drop (HT.sIx xs.length 0 lo)).take (HT.sIx xs.length xs.length hi-HT.sIx xs.length 0 lo),IsTup.new _ _⟩
end
noncomputable def ixN(n:Nat)(i:Int):Option Nat:=if 0<=i then (if i<n then some i.toNat else none) else if -(n:Int)<=i then some (i+n).toNat else none
noncomputable def atI{α:Type}(xs:List α)(i:Int):Option α:=(ixN xs.length i).bind fun j=>xs[j]?
theorem xF{n:Nat}{i:Int}{j:Nat}(h:ixN n i=some j):seqIndex? i n=some j/\j<n/\-(n:Int)<=i/\i<n:=by
 unfold ixN at h;by_cases h0:0<=i
 ·rw[if_pos h0]at h;by_cases h1:i<n
  ·rw[if_pos h1]at h;have e:i.toNat=j:=Option.some.inj h;exact⟨by rw[seqIndex_of h0 h1,e],by lia,by lia,h1⟩
  ·rw[if_neg h1]at h;cases h
 ·rw[if_neg h0]at h;by_cases h1:-(n:Int)<=i
  ·rw[if_pos h1]at h;have e:(i+n).toNat=j:=Option.some.inj h;exact⟨by rw[seqIndex_neg (by lia) h1,e],by lia,h1,by lia⟩
  ·rw[if_neg h1]at h;cases h
theorem xG{α:Type}{xs:List α}{i:Int}{v:α}(h:atI xs i=some v):∃j,seqIndex? i xs.length=some j/\xs[j]?=some v/\j<xs.length/\-(xs.length:Int)<=i/\i<xs.length:=by
 unfold atI at h;cases e:ixN xs.length i with
 |none=>rw[e]at h;cases h
 |some j=>rw[e]at h;obtain⟨h1,h2,h3,h4⟩:=xF e;exact⟨j,h1,h,h2,h3,h4⟩
def b9(b:Expr):Prop:=∀o i,subscripted b false o i=operate [o,i] (getItem o i)
def IxR(X:Cx)(r:R2):Prop:=
 ∀(value slice:Expr) (jV:List (Addr×Obj)) (s:Shared) (σ:St) (H:Hp) (x y:V) (v u:Value) (Q:VK),Inv X jV σ H s->RelV x v->RelV y u->r x y H Q ->
  subscripted slice false v u=operate [v,u] (getItem v u)->wpAny (model X.prog X.w) X.A (subscriptTail value slice v u) (EP X jV σ Q) X.xe s
def MtR(X:Cx)(id:String)(r:V->List V->Hp->VK->Prop):Prop:=
 ∀(jV:List (Addr×Obj)) (s:Shared) (σ:St) (H:Hp) (x:V) (xs:List V) (v:Value) (us:List Value) (Q:VK),Inv X jV σ H s->RelV x v->Vals xs us->r x xs H Q ->
  wpAny (model X.prog X.w) X.A (call (.builtin id) (v::us)) (EP X jV σ Q) X.xe s
section
variable{X:Cx}{a b:Expr}{ta tb:TE}{pos:Pos}
section
variable{jV:List (Addr×Obj)}{s:Shared}{H:Hp}{σ:St}
theorem IxR.or{r r':R2}(h:IxR X r)(h':IxR X r'):IxR X (fun x y H Q=>r x y H Q\/r' x y H Q):=by
 intro value slice jV s σ H x y v u Q I rx ry q hs;rcases q with q | q
 ·exact h value slice jV s σ H x y v u Q I rx ry q hs
 ·exact h' value slice jV s σ H x y v u Q I rx ry q hs
theorem iu{r:R2}(hr:IxR X r)(ha:PE X a ta)(hb:PE X b tb)(hs:b9 b):PE X (.Subscript a b pos) (tOp r ta tb):=by intro jV s σ H Q I h;exact Subscript_ (Il ha hb I h fun v u s2 x y H2 I2 rx ry q=>hr a b jV s2 σ H2 x y v u Q I2 rx ry q (hs _ _))
def zd(K:Pf):R2:=fun x y H Q=>∃p xs i v,x=.ref p/\y=.int i/\SqL K H p xs/\atI xs i=some v/\Q v H
def vK(K:Pf):R2:=fun x y H Q=>∃p xs i v,x=.ref p/\y=.int i/\SqT K H p xs/\atI xs i=some v/\Q v H
theorem jC:IxR X (zd X.K):=by
 intro value slice jV s σ H x y v u Q I rx ry h hs;obtain⟨p,xs,i,z,rfl,rfl,hq,he,q⟩:=h;cases rx;obtain⟨t,rfl⟩:=ry;obtain⟨its,r,pl,hz⟩:=I.list hq;obtain⟨j,h1,h2,h3,h4,h5⟩:=xG he;obtain⟨w,ew,rw'⟩:=r.get h2;have hl:=r.length;have hn:=mQ;have Ks:EP X jV σ Q w s:=⟨z,H,I,rw',q⟩
 by_cases h0:0<=i
 ·have hj:i.toNat=j:=by
   rw[seqIndex_of h0 h5]at h1;exact Option.some.inj h1
  exact item_listR pl.isList h0 (by lia) (by rw[hj];simpa using ew) Ks hs
 ·have hj:(i+(its.toArray.size:Int)).toNat=j:=by
   rw[seqIndex_neg (by lia) h4]at h1;rw[Po,<- hl];exact Option.some.inj h1
  exact subscriptTail_builtinR (x:=w) pl.isList.typeIs slot_list_getitem.lookup
   (wpAny_getItem_list_neg (Q:=fun r s'=>r=w/\EP X jV σ Q r s') pl.isList (by lia) (by rw[Po]<;>lia) (by lia) (by rw[hj];simpa using ew) ⟨rfl,Ks⟩) hs
theorem ku:IxR X (vK X.K):=by
 intro value slice jV s σ H x y v u Q I rx ry h hs;obtain⟨p,xs,i,z,rfl,rfl,hq,he,q⟩:=h;cases rx;obtain⟨t,rfl⟩:=ry;obtain⟨its,r,pl,hz⟩:=I.tuple hq;obtain⟨j,h1,h2,h3,h4,h5⟩:=xG he;obtain⟨w,ew,rw'⟩:=r.get h2;have hl:=r.length;have hn:=mQ;have Ks:EP X jV σ Q w s:=⟨z,H,I,rw',q⟩
 exact subscriptTail_builtinR (x:=w) pl.typeIs slot_tuple_getitem.lookup
  (getItem_tuple (j:=j) (Q:=fun r s'=>r=w/\EP X jV σ Q r s') pl (by lia) (by lia) (by rw[Po,<- hl];exact h1) (by simpa using ew) ⟨rfl,Ks⟩) hs
theorem vL(its:List Value)(n j:Nat)(u:Value):RX (·.setIfInBounds j u) { cls:=.type "list",data:=.seq its.toArray n }={ cls:=.type "list",data:=.seq (its.set j u).toArray n }:=by simp[RX]
theorem Inv.lst{jV:List (Addr×Obj)}{σ:St}{H:Hp}{s:Shared}{p:Addr}{xs:List V}(I:Inv X jV σ H s)(h:H p=some (.lst xs)) :
  ∃(its:List Value) (n:Nat),Vals xs its/\s.heap.get? p=some { cls:=.type "list",data:=.seq its.toArray n }/\xs.length<=sizeLine:=by
 obtain⟨z,its,n,r,e⟩:=I.hok p _ h;exact⟨its,n,r,e,z⟩
theorem Inv.II{p:Addr}{xs ys:List V}{its its':List Value}{n n':Nat}{f:Obj->Obj}(I:Inv X jV σ H s)(h:H p=some (.lst xs))
  (ho:s.heap.get? p=some { cls:=.type "list",data:=.seq its.toArray n }) (hf:f { cls:=.type "list",data:=.seq its.toArray n }={ cls:=.type "list",data:=.seq its'.toArray n' }) (r:Vals ys its') (hz:ys.length<=sizeLine) (t:Nat) :
  Inv X jV σ (upd H p (.lst ys)) { s with heap:=s.heap.update p f,toks:=t }:=by
 have e:(s.heap.update p f).get? p=some { cls:=.type "list",data:=.seq its'.toArray n' }:=by rw[Heap.get?_update_self f ho (by rw[hf]<;>rfl),hf]
 refine I.write (x:=p) (e:=p) (by rw[h];trivial) (.inl rfl) (fun b u hb q=>(Heap.get?_update_other _ _ (Ne.symm hb)).trans q) ⟨_,e⟩ ?_;exact⟨hz,its',n',r,e⟩
def s_:V->V->V->Hp->(Hp->Prop)->Prop:=fun o i v H Q=>∃p xs k j,o=.ref p/\i=.int k/\H p=some (.lst xs)/\ixN xs.length k=some j/\Q (upd H p (.lst (xs.set j v)))
theorem set_list:Ls X s_:=by
 intro jV s σ H o i v ov iv u Q I ro ri rv h;obtain⟨p,xs,k,j,rfl,rfl,hp,hj,q⟩:=h;cases ro;obtain⟨t,rfl⟩:=ri;obtain⟨its,n,r,ho,hz⟩:=I.lst hp;obtain⟨h1,h2,h3,h4⟩:=xF hj;have hl:=r.length;have hn:=mQ;have I':Inv X jV σ (upd H p (.lst (xs.set j v))) { s with heap:=s.heap.update p (RX (·.setIfInBounds j u)) }:=
  I.II hp ho (vL its n j u) (r.set rv j) (by rw[P4];exact hz) s.toks
 by_cases h0:0<=k
 ·have hk:k.toNat=j:=by
   rw[seqIndex_of h0 h4]at h1;exact Option.some.inj h1
  exact PySem.W.ki_setAt ho h0 (by lia) (by rw[Po,<- hl];exact h4) (by rw[hk];exact⟨_,I',q⟩)
 ·have hk:(k+(its.toArray.size:Int)).toNat=j:=by
   rw[seqIndex_neg (by lia) h3]at h1;rw[Po,<- hl];exact Option.some.inj h1
  exact PySem.W.ki_setBack ho (by lia) (by rw[Po,<- hl];exact h3) (by lia) (by rw[hk];exact⟨_,I',q⟩)
theorem qZ(lo hi:Option Int)(n:Nat):(sliceBounds lo hi none n).1=((HT.sIx n 0 lo:Nat):Int)/\(sliceBounds lo hi none n).2.1=((HT.sIx n n hi:Nat):Int)/\(sliceBounds lo hi none n).2.2=1:=by
 refine⟨?_,?_,rfl⟩
 ·cases lo with
  |none=>simp[sliceBounds,HT.sIx]
  |some i=>
   simp only[sliceBounds,HT.sIx,Option.getD_none,show (1:Int)>0 by decide,if_true];by_cases h:i<0
   ·simp only[h,if_true]<;>lia
   ·simp only[h,if_false]<;>lia
 ·cases hi with
  |none=>simp[sliceBounds,HT.sIx]
  |some i=>
   simp only[sliceBounds,HT.sIx,Option.getD_none,show (1:Int)>0 by decide,if_true];by_cases h:i<0
   ·simp only[h,if_true]<;>lia
   ·simp only[h,if_false]<;>lia
theorem pG(its:List Value)(lo hi:Option Int):slicePick its.toArray lo hi none=((its.drop (HT.sIx its.length 0 lo)).take (HT.sIx its.length its.length hi-HT.sIx its.length 0 lo)).toArray:=by obtain⟨h1,h2,h3⟩:=qZ lo hi its.toArray.size;unfold slicePick;rw[h1,h2,h3];simp only[sliceRange_one,pick_run,Po]<;>rfl
def LB(K:Pf):V->Option Int->Option Int->Hp->VK->Prop:=fun x lo hi H Q=>∃a xs,x=.ref a/\SqL K H a xs/\∀p,H p=none->Q (.ref p) (upd H p (.lst (l8 xs lo hi)))
theorem Em:SlR X (LB X.K):=by intro jV s σ H x v vl vu lo hi sl Q I rx hs pl pu h;obtain⟨a,xs,rfl,hx,q⟩:=h;cases rx;obtain⟨its,r,ht,hz⟩:=I.list hx;have B3:=r.length;refine⟨"list",_,slot_list_getitem.lookup,ht.isList.typeIs,?_⟩;refine wpAny_getItem_list_slice ht.isList hs pl pu .none (by simp) ?_ (by rw[Po]<;>lia);rw[pG,<- B3];refine⟨.ref s.heap.objs.size,_,I.laid (t':=s.toks) (o:=.lst (l8 xs lo hi)) (fun b ob q=>PJ _ q) (Pj _) ?_,rfl,q _ (I.hok.fresh (Pj _))⟩;exact⟨PL (lD xs lo hi) hz,_,0,(r.drop (HT.sIx xs.length 0 lo)).take (HT.sIx xs.length xs.length hi-HT.sIx xs.length 0 lo),Qs _ rfl⟩
theorem q_:cY X (.builtin "len") (fun xs H Q=>∃p ys,xs=[.ref p]/\(SqL X.K H p ys\/SqT X.K H p ys)/\Q (.int ys.length) H):=by
 intro jV s σ H xs us Q I r h;obtain⟨p,ys,rfl,hq,q⟩:=h;obtain⟨u,rfl,rx⟩:=vals1 r;cases rx;have hn:=mQ;rcases hq with hq | hq
 ·obtain⟨its,r',pl,hz⟩:=I.list hq;have B3:=r'.length;exact Calls.call_len_list pl.isList (by simp only[Po]<;>lia) ⟨.int ys.length,H,I.tok _,⟨s.toks+1,by rw[Po,B3]⟩,q⟩
 ·obtain⟨its,r',pl,hz⟩:=I.tuple hq;have B3:=r'.length;exact len_tuple pl (by simp only[Po]<;>lia) ⟨.int ys.length,H,I.tok _,⟨s.toks+1,by rw[Po,B3]⟩,q⟩
theorem rj:cY X (.type "list") (fun xs H Q=>∃p ys,xs=[.ref p]/\(SqL X.K H p ys\/SqT X.K H p ys)/\∀l,H l=none->Q (.ref l) (upd H l (.lst ys))):=by
 intro jV s σ H xs us Q I r h;obtain⟨p,ys,rfl,hq,q⟩:=h;obtain⟨u,rfl,rx⟩:=vals1 r;cases rx;have Ks:∀(its:List Value),Vals ys its->ys.length<=sizeLine->∀(h':Heap) (c':Nat),(∀b o',s.heap.get? b=some o'->h'.get? b=some o') ->
   h'.get? s.heap.objs.size=some { cls:=.type "list",dict:=none,data:=.seq its.toArray c',slots:=#[] }->EP X jV σ Q (.ref s.heap.objs.size) { s with heap:=h' }:=fun its r' hz h' c' kp e=>
  ⟨.ref s.heap.objs.size,_,I.laid (t':=s.toks) kp (Pj _) (show bq X.prog X.w _ h' _ (.lst ys) from ⟨hz,its,c',r',e⟩),rfl,q _ (I.hok.fresh (Pj _))⟩
 rcases hq with hq | hq
 ·obtain⟨its,r',pl,hz⟩:=I.list hq;have B3:=r'.length;obtain⟨o,ho,hc,n,hd⟩:=pl.isList;exact call_list_seq p (.inl rfl) ho hc hd (fun h' c' kp e=>Ks its r' hz h' c' kp e) (by simp only[Po]<;>lia)
 ·obtain⟨its,r',pl,hz⟩:=I.tuple hq;have B3:=r'.length;obtain⟨o,ho,hc,n,hd⟩:=pl;exact call_list_seq p (.inr rfl) ho hc hd (fun h' c' kp e=>Ks its r' hz h' c' kp e) (by simp only[Po]<;>lia)
theorem pH:cY X (.type "tuple") (fun xs H Q=>∃p ys,xs=[.ref p]/\((SqL X.K H p ys/\∀l,H l=none->Q (.ref l) (upd H l (.tup ys)))\/(SqT X.K H p ys/\Q (.ref p) H))):=by
 intro jV s σ H xs us Q I r h;obtain⟨p,ys,rfl,h⟩:=h;obtain⟨u,rfl,rx⟩:=vals1 r;cases rx;rcases h with⟨hq,q⟩ | ⟨hq,q⟩
 ·obtain⟨its,r',pl,hz⟩:=I.list hq;have B3:=r'.length;refine call_tuple_list pl.isList (fun h' kp=>?_) (by simp only[Po]<;>lia);have I1:Inv X jV σ H { s with heap:=h' }:=I.kept (t':=s.toks) kp;have I2:Inv X jV σ (upd H h'.objs.size (.tup ys)) { s with heap:=h'.push { cls:=.type "tuple",data:=.seq its.toArray } }:=
   I1.laid (t':=s.toks) (fun b o e=>PJ _ e) (Pj _) (show bq X.prog X.w _ _ _ (.tup ys) from ⟨hz,its,r',IsTup.new _ _⟩)
  exact⟨.ref h'.objs.size,_,I2,rfl,q _ (I1.hok.fresh (Pj _))⟩
 ·obtain⟨its,r',pl,hz⟩:=I.tuple hq;exact call_tuple_same pl ⟨.ref p,H,I,rfl,q⟩
def tyV(K:Pf)(T:String)(x:V)(H:Hp):Prop:=match x with
 |.str _=>T = "str"
 |.int _=>T = "int"
 |.ref p=>(T = "list" /\ ∃xs,SqL K H p xs)\/(T = "tuple" /\ ∃o,K.lookup p=some o/\o.cls=.type "tuple" /\ o.dict=none) \/
   (T = "dict" /\ ((∃kvs,H p=some (.dK kvs))\/∃kvs ts,H p=some (.dT kvs ts)))\/(T = "set" /\ ∃S n,H p=some (.set S n))
 |_=>False
theorem AG{T:String}{x:V}{v:Value}(I:Inv X jV σ H s)(r:RelV x v)(ty:tyV X.K T x H) :
  s.TypeIs v T/\∀a,v=.ref a->∃ob,s.heap.get? a=some ob/\ob.dict=none:=by
 cases x with
 |str z=>obtain⟨t,rfl⟩:=r;cases (show T = "str" from ty);exact⟨typeIs_str s z t,fun _ e=>nomatch e⟩
 |int i=>obtain⟨t,rfl⟩:=r;cases (show T = "int" from ty);exact⟨typeIs_int s i t,fun _ e=>nomatch e⟩
 |ref p=>
  cases r;rcases ty with⟨rfl,xs,hq⟩ | ⟨rfl,o,hk,hc,hd⟩ | ⟨rfl,hk⟩ | ⟨rfl,S,n,hk⟩
  ·obtain⟨its,_,pl,_⟩:=I.list hq;refine⟨pl.isList.typeIs,fun a e=>?_⟩;cases e;obtain⟨o,n,e,c,hd,_⟩:=pl;exact⟨o,e,hd⟩
  ·refine⟨⟨o,I.kIn p o hk,hc⟩,fun a e=>?_⟩;cases e;exact⟨o,I.kIn _ o hk,hd⟩
  ·have z:∃o,s.heap.get? p=some o/\o.ExactDict:=by
    rcases hk with⟨kvs,hk⟩ | ⟨kvs,ts,hk⟩
    ·obtain⟨_,_,_,_,o,_,_,e,ex,_⟩:=I.hok p _ hk;exact⟨o,e,ex⟩
    ·obtain⟨_,_,_,_,o,_,_,e,ex,_⟩:=I.hok p _ hk;exact⟨o,e,ex⟩
   obtain⟨o,e,ex⟩:=z;refine⟨⟨o,e,ex.1⟩,fun a e2=>?_⟩;cases e2;exact⟨o,e,ex.2.1⟩
  ·obtain⟨o,_,_,_,e,ex,_⟩:=I.hok p _ hk;refine⟨⟨o,e,ex.1⟩,fun a e2=>?_⟩;cases e2;exact⟨o,e,ex.2.1⟩
 |_=>exact Qf ty
def En(K:Pf)(T:String)(r:V->List V->Hp->VK->Prop)(to:TE):TE:=fun σ H Q=>to σ H fun x H1=>tyV K T x H1/\r x [] H1 Q
def tBM(K:Pf)(T:String)(r:V->List V->Hp->VK->Prop)(to:TE)(t:TA):TE:=fun σ H Q=>to σ H fun x H1=>tyV K T x H1/\t σ H1 fun xs H2=>r x xs H2 Q
variable{o e:Expr}{es:List Expr}{to:TE}{t:TA}{name:Str}{J_ cpos:Pos}{T id:String}{r:V->List V->Hp->VK->Prop}
theorem vM(pa:PlainAttrs T)(slot:Slot T name id)(hty:typeOf (.builtin id)=pure (.type "method_descriptor"))(hm:MtR X id r)(ho:PE X o to)
  (Fd:attributeBase o name X.env (eval o X.env)=eval o X.env:=by rfl) (Cu:(J_.endLine == cpos.line)=true:=by rfl):PE X (.Call (.Attribute o name J_) [] [] cpos) (En X.K T r to):=by
 intro jV s σ H Q I h;refine wpAny_Call_method0_late Fd Cu (thn (ho jV s σ H _ I h) fun v s1 ⟨x,H1,I1,r1,ty,q1⟩=>?_);obtain⟨h1,h2⟩:=AG I1 r1 ty;exact⟨T,id,pa,slot,hty,h1,h2,Rg rfl (PySem.evalArgs_none (hm jV s1 σ H1 x [] v [] Q I1 r1 .nil q1))⟩
theorem tu(pa:PlainAttrs T)(slot:Slot T name id)(hty:typeOf (.builtin id)=pure (.type "method_descriptor"))(hm:MtR X id r)(ho:PE X o to)(ha:PA X (e::es) t)
  (Fd:attributeBase o name X.env (eval o X.env)=eval o X.env:=by rfl)
  (hfew:((backTo cpos (starEach (e::es) X.env)).all (fun x=>!x.1)&&(backToKw cpos (keywordEach [] X.env)).all (fun x=>x.1.isSome)
   && decide ((e::es).length+([]:List Keyword).length+(if ([]:List Keyword).isEmpty then 0 else 1)<30))=true:=by rfl)
  (Cu:(J_.endLine == cpos.line)=true:=by rfl) (hs:starEach (e::es) X.env=(false,eval e X.env)::starEach es X.env:=by rfl) (G1:(backTo cpos (starEach es X.env)).any (·.1)=false:=by rfl) :
  PE X (.Call (.Attribute o name J_) (e::es) [] cpos) (tBM X.K T r to t):=by
 intro jV s σ H Q I h;refine wpAny_Call_method_late Fd hfew Cu rfl (thn (ho jV s σ H _ I h) fun v s1 ⟨x,H1,I1,r1,ty,q1⟩=>?_);obtain⟨h1,h2⟩:=AG I1 r1 ty;refine⟨T,id,pa,slot,hty,h1,h2,?_⟩;have hA:=ha cpos jV s1 σ H1 _ I1 q1;rw[hs]at hA ⊢;refine Rg (by show (false||(backTo cpos (starEach es X.env)).any (·.1))=false;rw[G1]<;>rfl) (Rz ?_);exact thn hA fun us s2 ⟨vs,H2,I2,r2,q2⟩=>hm jV s2 σ H2 x vs v us Q I2 r1 r2 q2
end
end
def MtM(X:Cx)(id:String)(r:V->List V->Hp->VK->Prop):Prop:=
 ∀(jV:List (Addr×Obj)) (s:Shared) (σ:St) (H:Hp) (x:V) (xs:List V) (v:Value) (us:List Value) (Q:VK),Inv X jV σ H s->RelV x v->Vals xs us->r x xs H Q ->
  wpAny (model X.prog X.w) X.A (call (.builtin id) (v::us)) (EP X jV σ Q) X.xe s
theorem Vals.one:∀{x:V} {us:List Value},Vals [x] us->∃u,us=[u]/\RelV x u
 |_,_,.cons r .nil=>⟨_,rfl,r⟩
theorem Vals.zero:∀{us:List Value},Vals [] us->us=[]
 |_,.nil=>rfl
theorem Vals.eraseIdx:∀{xs:List V} {us:List Value} (i:Nat),Vals xs us->Vals (xs.eraseIdx i) (us.eraseIdx i)
 |_,_,_,.nil=>.nil
 |_,_,0,.cons _ t=>t
 |_,_,i+1,.cons r t=>.cons r (Vals.eraseIdx i t)
theorem Vals.rep{xs:List V}{us:List Value}(h:Vals xs us):∀k:Nat,Vals (gV k xs).flatten (gV k us).flatten
 |0=>.nil
 |k+1=>by rw[QD,QD,Ql,Ql];exact Vals.append h (Vals.rep h k)
theorem p8{α:Type}:∀(l:List α) (i:Nat),(l.eraseIdx i).length<=l.length
 |[],_=>Pj _
 |_::_,0=>Nat.le_succ _
 |_::r,i+1=>Nat.succ_le_succ (p8 r i)
theorem foldl_rep(its:List Value):∀(k:Nat) (zL:List Value),
  So (fun x1 x2=>x1++x2) zL.toArray (gV k its.toArray)=(zL++(gV k its).flatten).toArray
 |0,zL=>by simp
 |k+1,zL=>by
  have e:zL.toArray++its.toArray=(zL++its).toArray:=by simp
  have e2:(zL++its)++(gV k its).flatten=zL++(gV (k+1) its).flatten:=by rw[QD,Ql,QO]
  rw[<- e2,<- foldl_rep its k (zL++its),<- e,QD,List.foldl_cons]
section
variable{X:Cx}{jV:List (Addr×Obj)}{σ:St}{H:Hp}{s:Shared}{l b:Addr}{xs ys zs:List V}
theorem Inv.IJ{its its':List Value}{n:Nat}{f:Array Value->Array Value}{t':Nat}(I:Inv X jV σ H s)(hH:H l=some (.lst xs))
  (e:s.heap.get? l=some { cls:=.type "list",data:=.seq its.toArray n }) (hf:f its.toArray=its'.toArray) (hv:Vals ys its') (hz:ys.length<=sizeLine) :
  Inv X jV σ (upd H l (.lst ys)) { s with heap:=s.heap.update l (RX f),toks:=t' }:=by
 have q:=PySem.IsL.update e f;rw[hf]at q;refine I.write (x:=l) (e:=l) (by rw[hH];exact trivial) (.inl rfl) (fun b' u hb hu=>(Heap.get?_update_other s.heap (RX f) (Ne.symm hb)).trans hu) ⟨_,q⟩ ?_;exact⟨hz,its',_,hv,q⟩
theorem Inv.IK{its:List Value}{t':Nat}(I:Inv X jV σ H s)(hv:Vals ys its)(hz:ys.length<=sizeLine) :
  Inv X jV σ (upd H s.heap.objs.size (.lst ys)) { s with heap:=s.heap.push { cls:=.type "list",data:=.seq its.toArray },toks:=t' }:=
 I.laid (fun _ _ q=>PJ _ q) (Pj _) ⟨hz,its,0,hv,Qs _ rfl⟩
theorem Inv.fresh(I:Inv X jV σ H s):H s.heap.objs.size=none:=I.hok.fresh (Pj _)
theorem Inv.IL(I:Inv X jV σ H s)(hH:H l=some (.lst xs)):xs.length<=sizeLine/\∃(its:List Value) (n:Nat),Vals xs its/\xs.length=its.length/\s.heap.get? l=some { cls:=.type "list",data:=.seq its.toArray n }:=by obtain⟨z,its,n,r,e⟩:=I.hok l _ hH;exact⟨z,its,n,r,r.length,e⟩
theorem AH{n:Nat}(h:n<=sizeLine):Rq n=false:=by unfold Rq;exact decide_eq_false (by lia)
end
section
variable{X:Cx}
def jD:V->List V->Hp->VK->Prop:=fun x vs H Q=>∃l xs y,x=.ref l/\vs=[y]/\H l=some (.lst xs)/\xs.length<sizeLine/\Q .non (upd H l (.lst (xs++[y])))
theorem eT:MtM X "list.append" jD:=by
 intro jV s σ H x vs v us Q I rx rv h;obtain⟨l,xs,y,rfl,rfl,hH,hz,q⟩:=h;cases rx;obtain⟨u,rfl,ru⟩:=rv.one;obtain⟨z,its,n,r,hl,e⟩:=I.IL hH;refine call_meets F.slot_list_append ⟨_,e,rfl⟩ F.entry_list_append (F.args_list_append_2 _ _) (PySem.list_append l its.toArray n u (by rw[Po];lia)) ⟨e,?_⟩;refine⟨.non,_,I.IJ (its':=its++[u]) hH e (by simp) (r.append (.cons ru .nil)) ?_,rfl,q⟩;rw[Pr,QH]
 lia
def AI:V->List V->Hp->VK->Prop:=fun x vs H Q=>∃l xs i k y,x=.ref l/\vs=[.int i]/\H l=some (.lst xs)/\-(2 ^ 63)<=i/\i<2 ^ 63/\seqIndex? i xs.length=some k/\xs[k]?=some y/\Q y (upd H l (.lst (xs.eraseIdx k)))
theorem AJ:MtM X "list.pop" AI:=by
 intro jV s σ H x vs v us Q I rx rv h;obtain⟨l,xs,i,k,y,rfl,rfl,hH,h1,h2,hk,hy,q⟩:=h;cases rx;obtain⟨u,rfl,ru⟩:=rv.one;obtain⟨t,rfl⟩:=ru;obtain⟨z,its,n,r,hl,e⟩:=I.IL hH;obtain⟨w,hw,rw'⟩:=r.get hy;refine call_meets F.slot_list_pop ⟨_,e,rfl⟩ F.entry_list_pop (F.args_list_pop_2 _ _)
  (MeetsSeq.list_pop_at l its.toArray n i t k w (fitsIndex_both h1 h2) (by rw[Po,<- hl];exact hk) (by rw[<- Array.getElem?_toList];exact hw) (by rw[Po];lia)) ⟨e,?_⟩
 refine⟨y,_,I.IJ (its':=its.eraseIdx k) hH e ?_ (r.eraseIdx k) ?_,rw',q⟩
 ·show its.toArray.eraseIdxIfInBounds k=(its.eraseIdx k).toArray;rw[List.eraseIdxIfInBounds_toArray]
 ·have:=p8 xs k
  lia
def rz:V->List V->Hp->VK->Prop:=fun x vs H Q=>∃l xs,x=.ref l/\vs=[]/\H l=some (.lst xs)/\Q .non (upd H l (.lst []))
theorem mU:MtM X "list.clear" rz:=by intro jV s σ H x vs v us Q I rx rv h;obtain⟨l,xs,rfl,rfl,hH,q⟩:=h;cases rx;have hus:=rv.zero;subst hus;obtain⟨z,its,n,r,hl,e⟩:=I.IL hH;refine call_meets F.slot_list_clear ⟨_,e,rfl⟩ F.entry_list_clear (F.args_list_clear_1 _) (AutoSeq1.list_clear_list_0 l its.toArray n (by rw[Po];lia)) ⟨e,?_⟩;exact⟨.non,_,I.IJ (its':=[]) (ys:=[]) hH e rfl .nil (Qd _),rfl,q⟩
theorem len_rep{α:Type}(xs:List α)(k:Nat):(gV k xs).flatten.length=k*xs.length:=by
 induction k with
 |zero=>simp
 |succ k ih=>rw[QD,Ql,Pr,ih,Nat.succ_mul,Nat.add_comm]
end
end L2
namespace Att
open PySem PySem.W PySem.Calls PyProof.Rows
theorem l9{P:Params}{h:Heap}:∀(ns:List Int) (vs:List Value),WellAll P h vs (ns.map WData.int)->IntsAre vs ns:=by
 intro ns
 induction ns with
 |nil=>intro vs w;rw[RA]at w;cases w;exact .nil
 |cons n ns ih=>
  intro vs w;rw[gc]at w;cases w with
  |cons a b=>cases a;exact .cons _ _ (ih _ b)
theorem ze{l:OpenLaw}{n:Nat}(hn:l.most=some n){P:Params}{h:Heap}{args:List WData}{vals:List Value}
  (hpre:l.row.toRowW.claim.pre args=true) (hwl:WellAll P h vals args) :
  ∃a vs ns,vals=[Qo a]/\args=[WData.list (ns.map WData.int)]/\h.get? a=some { cls:=.type "list",data:=.seq vs.toArray }/\IntsAre vs ns/\ns.length<=n:=by
 have hsh:WShape.hasAll [] args [.list .int]=true:=(pre_splitW hpre).1;have hc:l.pre.holds [] { args:=args }=true:=(pre_splitW hpre).2;obtain⟨d,r,rfl,h1,h2⟩:=hasAllW_cons hsh;obtain rfl:=hasAllW_nil h2;obtain⟨xs,rfl,h3⟩:=hasW_list h1;obtain⟨ns,rfl⟩:=items_int h3;have B3:ns.length<=n:=by
  unfold OpenLaw.pre at hc;have h4:(WTm.not (.lt (.lit (.int (n:Int))) (.len (.arg 0)))).holds [] { args:=[.list (ns.map .int)] }=true:=by have h4:=(holds_andW hc).1;rw[hn]at h4;exact h4
  have h5:=condW_of h4 (w_not (w_lt w_lit (w_len_list (w_arg rfl))));rw[Pg]at h5;refine Nat.le_of_not_lt fun q=>?_;have q':(n:Int)<((ns.length:Nat):Int):=by omega
  first
   |(rw[decide_eq_true q']at h5;exact absurd h5 (by decide))
   |(simp at h5;omega)
 cases hwl with
 |cons w1 w2=>
  cases w2;cases w1 with
  |list ho hall=>exact⟨_,_,ns,rfl,rfl,ho,l9 ns _ hall,B3⟩
theorem zf(l:OpenLaw)(args:List WData):l.row.toRowW.claim.post args (.bool true) args=true:=
 postW_of (r:=l.row.toRowW) (X:=(true == true))
  (show WShape.has [] (.bool true) .bool=true by first | rfl | decide | simp[WShape.has,WShape.arms,WShape.armsAll])
  (show (WTm.eq .res (.lit (.bool true))).value [] { args:=args,res:=some (.bool true),after:=args }=some (.bool (true == true)) from w_eq_bool (w_res rfl) w_lit) rfl
theorem tw{l:OpenLaw}{n:Nat}{q:Program}{loose:List Str}{XP:(Str->Option Value)->Heap->Prop}{YP:World->Heap->Prop}{d:DefRec}
  (hn:l.most=some n) (hdf:d.params.defaults=[])
  (call:∀ (w:World) (s₀ s₁:Shared) (mg mb:Str→Option Value) (fa:Addr) (o:Obj) (pm cd doc:Value) (a:Addr) (vs:List Value) (ns:List Int),
   Ground q loose [] XP w s₀ mg mb s₁.heap->YP w s₁.heap ->
   s₁.heap.get? fa=some o->o.data=.func (docDef d.name d.params d.body d.scope pm cd doc)->s₁.heap.CodeRec cd d.name->mg d.name=some (.ref fa) ->
   s₁.heap.get? a=some { cls:=.type "list",data:=.seq vs.toArray }->IntsAre vs ns->ns.length<=n->s₁.gens=#[] ->
   codeAny (model l.prog w) callerA (.call (.ref fa) ⟨[.ref a],[]⟩) (fun r s'=>r=.ok (.ret (.bool true))/\OldK s₁.heap s'.heap/\s'.os=s₁.os/\AllBare s'.gens) s₁) :
  WalkO q loose XP YP l.row.toRowW d [] (fun f vs=>PySem.call f vs):=by
 intro w s₀ s₁ mg mb G Y fa o pm cd doc dV kV ho hd G3 hD hmg hg args vals as hpre hlay hrd hwl hlo;obtain rfl:dV=.none:=Dflts.none hD hdf;obtain rfl:kV=.none:=Dflts.noKw hD;obtain⟨a,vs,ns,rfl,rfl,hobj,hints,B3⟩:=ze hn hpre hwl;refine enter_call (codeAny_mono (call w s₀ s₁ mg mb fa o pm cd doc a vs ns G Y ho (fd_plain hd) G3 hmg hobj hints B3 hg) fun r s' hq=>?_);obtain⟨rfl,h2,h3,h4⟩:=hq;exact⟨.inl ⟨.bool true,.bool true,[],rfl,fun _=>rfl,.bool true,zf l _,fun _=>⟨Se.nil,fun _ hm=>(nomatch hm)⟩⟩,h2,h3,h4⟩
end Att
namespace L2
open PySem PySem.Spec PyProof.Rows
theorem eU:∀{vs:List Value} {ns:List Int},IntsAre vs ns->Vals (ns.map V.int) vs
 |_,_,.nil=>.nil
 |_,_,.cons n t h=>.cons ⟨t,rfl⟩ (eU h)
def IM(H:Hp):Prop:=∀b,H b=none\/∃o xs,H b=some (.frz o (.lst xs))
theorem AK{P:Program}{w:World}{K:Pf}{mg mb:Str->Option Value}{CX:CXT}{k:Nat}{fa a:Addr}{fd:FuncData}{x:Str}{sp:Sp}{s₁:Shared}{vs:List Value}{ns:List Int}
  (KX:K.In s₁.heap) (hns:s₁.heap.Ns mainGlobals mg) (hb:s₁.heap.Ns builtinsNs mb) (hbb:∀x:Str,x ≠ "__name__" -> mb x=bootBuiltins x) (hlim:s₁.heap.NoLimit) (hg:s₁.gens=#[])
  (ha:s₁.heap.get? a=some { cls:=.type "list",data:=.seq vs.toArray }) (hi:IntsAre vs ns) (hl:ns.length<=sizeLine) (hr:br k callerA)
  (F:∀base:Heap,K.In base->base.Ns mainGlobals mg->aT P w K mg base CX k fa fd [x] sp) (hbind:∀(s:Shared) (u:Value),BindsTo s fd ⟨[u],[]⟩ [(x,u)])
  (hsp:∀H:Hp,IM H->SqL K H a (ns.map V.int)->sp [.ref a] H (fun v _=>v=.bl true) fun _ _ _=>False)
  (hCX:∀H e s',CX [] H s₁ (fun _ _ _=>False) e s'->False) :
  codeAny (model P w) callerA (.call (.ref fa) ⟨[.ref a],[]⟩) (fun r s'=>r=.ok (.ret (.bool true))/\OldK s₁.heap s'.heap/\s'.os=s₁.os/\AllBare s'.gens) s₁:=by
 have rv:=eU hi;have N8:=hi.length;have core:∀H:Hp,IM H->SqL K H a (ns.map V.int)->HOk P w H s₁.heap->(∀b,H b≠none->b=a)->(H a≠none->K.lookup a=none) ->
   codeAny (model P w) callerA (.call (.ref fa) ⟨[.ref a],[]⟩) (fun r s'=>r=.ok (.ret (.bool true))/\OldK s₁.heap s'.heap/\s'.os=s₁.os/\AllBare s'.gens) s₁:=by
  intro H hO hS hok hA hK;have xH:∀{b:Addr} {o:Obj},s₁.heap.get? b=some o->H b=none->(qQ s₁.heap H).get? b=some o:=fun e n=>Ac e n;have noA:∀{b:Addr} {o:Obj} {es:Array DictEntry} {ep:Nat},s₁.heap.get? b=some o->o.data=.dict es ep->H b=none:=fun {b o es ep} e d=>by
   cases q:H b with
   |none=>rfl
   |some u=>have e':b=a:=hA b (by rw[q];simp);subst e';rw[ha]at e;cases e;have d':Data.seq vs.toArray _=Data.dict es ep:=d;cases d'
  have nsK:∀{b:Addr} {m:Str->Option Value},s₁.heap.Ns b m->(qQ s₁.heap H).Ns b m:=fun {b m} ⟨o,es,ep,e,d,r⟩=>⟨o,es,ep,xH e (noA e d),d,r⟩;have hKb:K.In (qQ s₁.heap H):=fun b o e=>xH (KX b o e) (by
   cases q:H b with
   |none=>rfl
   |some u=>have e':b=a:=hA b (by rw[q];simp);subst e';rw[hK (by rw[q];simp)]at e;cases e)
  have hM:Mod K mg (qQ s₁.heap H):=⟨hKb,nsK hns,⟨mb,nsK hb,hbb⟩,let ⟨mc,h1,h2⟩:=hlim;⟨mc,nsK h1,h2⟩⟩
  have e0:Ej P w K mg (qQ s₁.heap H) callerA [] s₁ H:=⟨rfl,hM,fun b o e=>D7 e,Nat.le_of_eq (yT _ _),trivial,fun b hb=>absurd (show b∈([]:List Addr) from hb) (by simp),hok,.of_eq hg⟩
  refine codeAny_mono ((F _ hKb (nsK hns)).run callerA [] s₁ H ⟨[.ref a],[]⟩ [.ref a] [.ref a] _ _ hr e0 (hbind s₁ (.ref a)) (.cons rfl .nil) (hsp H hO hS)) fun r s' h=>?_;cases r with
  |error e=>exact(hCX H e s' h).elim
  |ok fl=>
   cases fl with
   |next=>exact Qf h
   |brk=>exact Qf h
   |cont=>exact Qf h
   |ret u=>
    obtain⟨v,H',os,bare,un,N9,r',q⟩:=h;have q':v=.bl true:=q;subst q';obtain rfl:u=Sm true:=r';refine⟨rfl,OldK.of_keep fun b o e=>?_,os,bare⟩;cases q:H b with
    |none=>exact un.keep b o e q (by intro z;exact absurd (show b∈([]:List Addr) from z) (by simp)) (by simp)
    |some u=>
     rcases hO b with z | ⟨ob,xs,z⟩
     ·rw[q]at z;cases z
     ·have z2:=un.qP b ob _ z;obtain⟨e1,_⟩:=hok b _ z;obtain⟨e2,_⟩:=N9 b _ z2;rw[e]at e1;cases e1;exact e2
 cases hk:K.lookup a with
 |some o=>have e:=KX a o hk;rw[ha]at e;cases e;refine core (fun _=>none) (fun _=>.inl rfl) (.inr ⟨_,vs.toArray,_,hk,rfl,rfl,rfl,by rw[Po,N8];exact hl,by simpa using rv⟩) (fun b u z=>by have z':(none:Option HO)=some u:=z;cases z') (fun b z=>absurd rfl z) fun z=>absurd rfl z
 |none=>
  refine core (fun b=>if b=a then some (.frz { cls:=.type "list",data:=.seq vs.toArray } (.lst (ns.map V.int))) else none) (fun b=>?_) (.inl (.inr ⟨{ cls:=.type "list",data:=.seq vs.toArray },if_pos rfl⟩)) (fun b u z=>?_) (fun b z=>?_) fun _=>hk
  ·by_cases hb:b=a
   ·exact .inr ⟨_,_,if_pos hb⟩
   ·exact .inl (if_neg hb)
  ·by_cases hb:b=a
   ·have z':=(if_pos hb).symm.trans z;cases z';subst hb;exact⟨ha,by rw[Pg];exact hl,vs,_,rv,ha⟩
   ·have z':=(if_neg hb).symm.trans z;cases z'
  ·by_cases hb:b=a
   ·exact hb
   ·exact absurd (if_neg hb) z
theorem Eo{l:R6}{n k:Nat}{q:Program}{loose:List Str}{XP:(Str->Option Value)->Heap->Prop}{YP:World->Heap->Prop}{d:DefRec}{K:Params->Pf}{CX:World->CXT}{sp:World->Sp}{x:Str}
  (hn:l.most=some n) (hn2:n<=sizeLine) (hdf:d.params.defaults=[]) (hr:br k callerA)
  (hY:∀(w:World) (h:Heap),YP w h->(K w.params).In h)
  (F:∀ (w:World) (mg:Str→Option Value) (fa:Addr) (h:Heap),(K w.params).In h→h.Ns mainGlobals mg→mg d.name=some (.ref fa) →
   ∃fd:FuncData,(∀(s:Shared) (u:Value),BindsTo s fd ⟨[u],[]⟩ [(x,u)]) /\
    ∀base:Heap,(K w.params).In base->base.Ns mainGlobals mg->aT l.prog w (K w.params) mg base (CX w) k fa fd [x] (sp w))
  (hsp:∀(w:World) (H:Hp) (a:Addr) (ns:List Int),ns.length<=n->IM H->SqL (K w.params) H a (ns.map V.int)->sp w [.ref a] H (fun v _=>v=.bl true) fun _ _ _=>False)
  (hCX:∀(w:World) (H:Hp) (s:Shared) (e:Value) (s':Shared),CX w [] H s (fun _ _ _=>False) e s'->False) :
  PySem.W.WalkO q loose XP YP l.row.toRowW d [] (fun f vs=>PySem.call f vs):=by
 refine Att.tw hn hdf fun w s₀ s₁ mg mb fa o pm cd doc a vs ns G Y ho hd G3 hmg hobj hints B3 hg=>?_;have KX:=hY w _ Y;obtain⟨fd,hb,hF⟩:=F w mg fa _ KX G.T.g hmg;exact AK KX G.T.g G.T.b G.T.builtins G.T.nolimit hg hobj hints (PL B3 hn2) hr hF hb (fun H hO hS=>hsp w H a ns B3 hO hS) fun H e s'=>hCX w H s₁ e s'
noncomputable def bw(s:Stmt):Arguments:=match s with
 |.FunctionDef _ a _ _ _ _ _ _ _ _=>a
 |_=>{ posonlyargs:=[],args:=[],vararg:=none,kwonlyargs:=[],kw_defaults:=[],kwarg:=none,defaults:=[] }
noncomputable def aZ(s:Stmt):List Stmt:=match s with
 |.FunctionDef _ _ b _ _ _ _ _ _ _=>b
 |_=>[]
noncomputable def aj(s:Stmt):Scope:=match s with
 |.FunctionDef _ _ _ _ _ _ sc _ _ _=>sc
 |_=>{ kind:=.function,names:=[],isGenerator:=false,isCoroutine:=false }
noncomputable abbrev CX0:CXT:=fun _ _ _ _ _ _=>False
noncomputable abbrev E0:XK:=fun _ _ _=>False
theorem jE{X:Cx}:Passes CX0 X E0:=fun _ _ _ _ _ _ _ h=>h.elim
structure Fun(K:Pf)(x qual:Str)(st:Stmt)(f:Addr)(fd:FuncData):Prop where
 ex:∃(oc:Value) (od:Option Addr) (kV doc pm:Value) (an:Option Addr) (cdv ct:Value) (osl:Array (Option Value)),
  fd=Qj x qual (bw st) (aZ st) (aj st) .none kV doc pm an cdv ct/\K.lookup f=some ⟨oc,od,.func fd,osl⟩/\RH K cdv qual=true
 kp:Qq K (.ref f)=true
section
variable{P:Program}{w:World}{K:Pf}{mg:Str->Option Value}{base:Heap}
section
variable{x qual:Str}{st:Stmt}{fd:FuncData}{f:Addr}
theorem Fun.ok{N ps:List Str}{k:Nat}{sp:Sp}(F:Fun K x qual st f fd)(S:aD N ps (aj st))(len:∀vs H Q E,sp vs H Q E->vs.length=ps.length)
  (hbody:∀ (cdv:Value) (A:Around) (outer:List Env) (s:Shared) (H:Hp) (vs:List V) (Q:VK) (E:XK),br k (A.deeper (envOfC qual (aj st) s.heap.objs.size f cdv))→sp vs H Q E →
   ∃t,PSs (vG CX0 P w K mg base N qual (aj st) f cdv A outer s H E).nox (aZ st) t/\t { nx:=fun _ H'=>Q .non H',rt:=Q } (start N vs) H):aT P w K mg base CX0 (k+1) f fd ps sp:=by
 obtain⟨oc,od,kV,doc,pm,an,cdv,ct,osl,rfl,lk,G3⟩:=F.ex;refine Lz lk G3 S len fun A outer s H vs Q E hr hsp=>?_;obtain⟨t,h,q⟩:=hbody cdv A outer s H vs Q E hr hsp;exact⟨t,h.nox,q⟩
theorem Fun.binds{ps:List Str}(F:Fun K x qual st f fd)
  (h:∀(kV doc pm:Value) (an:Option Addr) (cdv ct:Value) (us:List Value),us.length=ps.length->bindArgs (Qj x qual (bw st) (aZ st) (aj st) .none kV doc pm an cdv ct) ⟨us,[]⟩=pure (ps.zip us)):Binds K fd ps []:=by
 obtain⟨oc,od,kV,doc,pm,an,cdv,ct,osl,rfl,lk,G3⟩:=F.ex;exact .all (h kV doc pm an cdv ct)
theorem IP{oc:Value}{od an:Option Addr}{osl:Array (Option Value)}{kV doc pm cdv ct:Value}(l:K.lookup f=some ⟨oc,od,.func (Qj x qual (bw st) (aZ st) (aj st) .none kV doc pm an cdv ct),osl⟩)
  (c:RH K cdv qual=true) (k:Qq K (.ref f)=true):Fun K x qual st f (Qj x qual (bw st) (aZ st) (aj st) .none kV doc pm an cdv ct):=⟨⟨oc,od,kV,doc,pm,an,cdv,ct,osl,rfl,l,c⟩,k⟩
end
end
def ai(H H':Hp):Prop:=∀b o,H b=some o->H' b=some o
theorem ai.refl(H:Hp):ai H H:=fun _ _ h=>h
theorem ai.trans{H H1 H2:Hp}(a:ai H H1)(b:ai H1 H2):ai H H2:=fun c o h=>b c o (a c o h)
theorem ai.free{H H':Hp}(e:ai H H'){l:Addr}(h:H' l=Option.none):H l=Option.none:=by
 cases q:H l with
 |none=>rfl
 |some o=>rw[e l o q]at h;cases h
section
variable{κ:Type}[DecidableEq κ]
section
variable{u:Option Value}{o:Option V}{y:V}
noncomputable def iF(kvs:List (κ×V))(k:κ):Option V:=(kvs.find? fun kv=>decide (kv.1=k)).map (·.2)
noncomputable def putK(kvs:List (κ×V))(k:κ)(v:V):List (κ×V):=
 if (kvs.any fun kv=>decide (kv.1=k))=true then kvs.map (fun kv=>if kv.1=k then (kv.1,v) else kv) else kvs++[(k,v)]
noncomputable def lE(kvs:List (κ×V))(k:κ):List (κ×V):=kvs.filter fun kv=>decide (kv.1≠k)
theorem jF{p:κ×V}{r:List (κ×V)}{k:κ}(e:p.1=k):iF (p::r) k=some p.2:=by simp[iF,QF,e]
theorem jG{p:κ×V}{r:List (κ×V)}{k:κ}(e:¬p.1=k):iF (p::r) k=iF r k:=by simp[iF,QF,e]
theorem mV(k:κ):∀kvs:List (κ×V),(kvs.any fun kv=>decide (kv.1=k))=(iF kvs k).isSome
 |[]=>rfl
 |p::r=>by
  rw[QT];by_cases e:p.1=k
  ·simp only[jF e,decide_eq_true e,Bool.true_or,Option.isSome_some]
  ·rw[jG e,decide_eq_false e,Bool.false_or];exact mV k r
theorem gm(kvs:List (κ×V))(k:κ)(v:V):(putK kvs k v).length<=kvs.length+1:=by
 unfold putK;split
 ·rw[Pg];lia
 ·rw[Pr,PR,R7];lia
theorem ju.dF(r:ju o u):o.isSome=u.isSome:=by
 cases o with
 |none=>cases u with
  |none=>rfl
  |some _=>exact(show False from r).elim
 |some _=>cases u with
  |none=>exact(show False from r).elim
  |some _=>rfl
theorem ju.getD{d:V}{d':Value}(r:ju o u)(rd:RelV d d'):RelV (o.getD d) (u.getD d'):=by
 cases o with
 |none=>cases u with
  |none=>exact rd
  |some _=>exact(show False from r).elim
 |some _=>cases u with
  |none=>exact(show False from r).elim
  |some _=>exact r
theorem KV.val{kvs:List (κ×V)}{vs:List (κ×Value)}(r:KV kvs vs)(k:κ):ju (iF kvs k) (valueAt vs k):=by
 unfold KV at r
 induction r with
 |nil=>exact QL
 |@cons p q ps qs h t ih=>
  obtain⟨h1,h2⟩:=h;by_cases e:p.1=k
  ·have e':q.1=k:=h1.symm.trans e;have b:valueAt (q::qs) k=some q.2:=by simp[valueAt,QF,e']
   rw[jF e,b];exact h2
  ·have e':¬q.1=k:=fun z=>e (h1.trans z);have b:valueAt (q::qs) k=valueAt qs k:=by simp[valueAt,QF,e']
   rw[jG e,b];exact ih
theorem KV.any{kvs:List (κ×V)}{vs:List (κ×Value)}(r:KV kvs vs)(k:κ):(kvs.any fun kv=>decide (kv.1=k))=vs.any fun kv=>decide (kv.1=k):=by
 unfold KV at r
 induction r with
 |nil=>rfl
 |cons h t ih=>rw[QT,QT,ih,h.1]
theorem KV.repl{kvs:List (κ×V)}{vs:List (κ×Value)}(r:KV kvs vs)(k:κ){u:Value}(ry:RelV y u) :
  KV (kvs.map fun kv=>if kv.1=k then (kv.1,y) else kv) (vs.map fun kv=>if kv.1=k then (kv.1,u) else kv):=by
 unfold KV at r ⊢
 induction r with
 |nil=>exact .nil
 |@cons p q ps qs h t ih=>
  rw[gc,gc];refine .cons ?_ ih;obtain⟨h1,h2⟩:=h;by_cases e:p.1=k
  ·rw[if_pos e,if_pos (h1.symm.trans e)];exact⟨h1,ry⟩
  ·rw[if_neg e,if_neg (fun z=>e (h1.trans z))];exact⟨h1,h2⟩
theorem KV.put{kvs:List (κ×V)}{vs:List (κ×Value)}(r:KV kvs vs)(k:κ){u:Value}(ry:RelV y u):KV (putK kvs k y) (stored vs k u):=by
 unfold putK stored;rw[r.any k];by_cases e:(vs.any fun kv=>decide (kv.1=k))=true
 ·rw[if_pos e,if_pos e];exact r.repl k ry
 ·rw[if_neg e,if_neg e];exact Paired.snoc r ⟨rfl,ry⟩
theorem KV.drop{kvs:List (κ×V)}{vs:List (κ×Value)}(r:KV kvs vs)(k:κ):KV (lE kvs k) (without vs k):=by
 unfold KV at r ⊢;unfold lE without
 induction r with
 |nil=>exact .nil
 |@cons p q ps qs h t ih=>
  obtain⟨h1,h2⟩:=h;rw[QV,QV];by_cases e:p.1=k
  ·have a:¬decide (p.1≠k)=true:=by simp[e]
   have b:¬decide (q.1≠k)=true:=by simp[h1.symm.trans e]
   rw[if_neg a,if_neg b];exact ih
  ·have e':¬q.1=k:=fun z=>e (h1.trans z);have a:decide (p.1≠k)=true:=by simp[e]
   have b:decide (q.1≠k)=true:=by simp[e']
   rw[if_pos a,if_pos b];exact .cons ⟨h1,h2⟩ ih
theorem KV.length{kvs:List (κ×V)}{vs:List (κ×Value)}(r:KV kvs vs):kvs.length=vs.length:=Paired.length r
theorem AL(kvs:List (κ×V))(k:κ):(lE kvs k).length<=kvs.length:=QI _ _
end
end
section
variable{xs:List (List Key×Addr×Value)}{kvs:List (List Key×V)}{u:Value}{P:Program}{w:World}{H:Hp}{y:V}
theorem lF{k:Key}(r:RelV (kV k) u):(aS P w).is k u=true:=by
 cases k with
 |inl i=>obtain⟨t,e⟩:=(show ∃t,u=RL i t from r);subst e;exact sP P w i t
 |inr x=>obtain⟨t,e⟩:=(show ∃t,u=R3 x t from r);subst e;exact sQ P w x t
theorem p9:∀{ks:List Key} {us:List Value},Vals (ks.map kV) us->ItemsAre (aS P w) ks us
 |[],_,r=>by rw[RA]at r;cases r;exact .nil
 |k::ks,_,r=>by
  rw[gc]at r;cases r with
  |cons h t=>exact .cons (lF h) (p9 t)
noncomputable abbrev KT(H:Hp):List (List Key×V)->List (List Key×Addr×Value)->Prop:=Paired fun p q=>p.1=q.1/\H q.2.1=some (.tup (p.1.map kV))/\RelV p.2 q.2.2
theorem KT.val(r:KT H kvs xs)(k:List Key):ju (iF kvs k) ((atKey xs k).map (·.2)):=by
 induction r with
 |nil=>exact QL
 |@cons p q ps qs h t ih=>
  obtain⟨h1,_,h2⟩:=h;by_cases e:p.1=k
  ·have e':q.1=k:=h1.symm.trans e;have b:atKey (q::qs) k=some q.2:=by simp[atKey,QF,e']
   rw[jF e,b];exact h2
  ·have e':¬q.1=k:=fun z=>e (h1.trans z);have b:atKey (q::qs) k=atKey qs k:=by simp[atKey,QF,e']
   rw[jG e,b];exact ih
theorem KT.repl(r:KT H kvs xs)(k:List Key)(ry:RelV y u) :
  KT H (kvs.map fun kv=>if kv.1=k then (kv.1,y) else kv) (xs.map (putAt k u)):=by
 induction r with
 |nil=>exact .nil
 |@cons p q ps qs h t ih=>
  rw[gc,gc];refine .cons ?_ ih;obtain⟨h1,h2,h3⟩:=h;unfold putAt;by_cases e:p.1=k
  ·rw[if_pos e,if_pos (h1.symm.trans e)];exact⟨h1,h2,ry⟩
  ·rw[if_neg e,if_neg (fun z=>e (h1.trans z))];exact⟨h1,h2,h3⟩
theorem KT.put(r:KT H kvs xs)(k:List Key){b:Addr}(hb:H b=some (.tup (k.map kV)))(ry:RelV y u) :
  KT H (putK kvs k y) (storedH xs k b u):=by
 have e:(kvs.any fun kv=>decide (kv.1=k))=(atKey xs k).isSome:=by rw[mV,(r.val k).dF,Rh]
 unfold putK storedH;rw[e];by_cases q:(atKey xs k).isSome=true
 ·rw[if_pos q,if_pos q];exact r.repl k ry
 ·rw[if_neg q,if_neg q];exact Paired.snoc r ⟨rfl,hb,ry⟩
theorem KT.keeps{H H':Hp}(r:KT H kvs xs)(ht:∀b ys,H b=some (.tup ys)->H' b=some (.tup ys)):KT H' kvs xs:=
 Paired.Ib r fun _ _ z=>⟨z.1,ht _ _ z.2.1,z.2.2⟩
end
section
variable{P:Program}{w:World}{H:Hp}{h:Heap}{a:Addr}
section
variable{kvs:List (List Key×V)}{ts:List Addr}
theorem GI{u:HO}(ok:HOk P w H h)(e:Rd H a u):bq P w H h a u:=e.ok ok
theorem lH{kvs:List (Key×V)}(ok:HOk P w H h)(e:Rd H a (.dK kvs)):kvs.length<=sizeLine/\(a == sysModules)=false/\∃vs,KV kvs vs/\h.DictOf (aS P w) a vs:=
 show bq P w H h a (.dK kvs) from GI ok e
theorem xJ{kvs:List (Key×V)}(ok:HOk P w H h)(e:H a=some (.dK kvs)):kvs.length<=sizeLine/\(a == sysModules)=false/\∃vs,KV kvs vs/\h.DictOf (aS P w) a vs:=lH ok (.inl e)
theorem kB{ks:List Key}(ok:HOk P w H h)(e:H a=some (.tup (ks.map kV))):(tupleKind (aS P w)).is h ks a:=by
 obtain⟨_,its,r,o,h1,h2,n,h3⟩:=(show bq P w H h a (.tup (ks.map kV)) from ok a _ e)
 exact⟨o,its.toArray,n,h1,h2,h3,by simpa using p9 r⟩
theorem mW(ok:HOk P w H h)(e:Rd H a (.dT kvs ts)):kvs.length<=sizeLine/\(a == sysModules)=false /\
  ∃xs,KT H kvs xs/\h.DictOfH (tupleKind (aS P w)) a xs:=by
 obtain⟨z,y,xs,r,o,es,ep,h1,h2,h3,h4,h5,_⟩:=(show bq P w H h a (.dT kvs ts) from GI ok e)
 refine⟨z,y,xs,r,o,es,ep,h1,h2,h3,h4,fun x hx=>?_,h5⟩;have all:∀{l:List (List Key×V)} {m:List (List Key×Addr×Value)},KT H l m->∀x∈m,(tupleKind (aS P w)).is h x.1 x.2.1:=by
  intro l m q
  induction q with
  |nil=>intro x hx;exact nomatch hx
  |@cons p q ps qs hq t ih=>
   intro x hx;rcases Pk.mp hx with e | hx
   ·subst e;exact kB ok (by rw[<- hq.1];exact hq.2.1)
   ·exact ih x hx
 exact all r x hx
theorem LC(ok:HOk P w H h)(e:H a=some (.dT kvs ts)):kvs.length<=sizeLine/\(a == sysModules)=false /\
  ∃xs,KT H kvs xs/\h.DictOfH (tupleKind (aS P w)) a xs:=mW ok (.inl e)
end
end
section
variable{kvs:List (Key×V)}{a:Addr}{H:Hp}
noncomputable def IQ(kvs:List (List Key×V))(ts:List Addr)(k:List Key)(b:Addr):List Addr:=if (kvs.any fun kv=>decide (kv.1=k))=true then ts else ts++[b]
theorem tE{kvs:List (List Key×V)}{xs:List (List Key×Addr×Value)}(r:KT H kvs xs)(k:List Key)(b:Addr)(u:Value):(storedH xs k b u).map (·.2.1)=IQ kvs (xs.map (·.2.1)) k b:=by
 have e:(kvs.any fun kv=>decide (kv.1=k))=(atKey xs k).isSome:=by rw[mV,(r.val k).dF,Rh]
 unfold storedH IQ;rw[e];by_cases q:(atKey xs k).isSome=true
 ·rw[if_pos q,if_pos q,P7];refine QG fun x _=>?_;show (putAt k u x).2.1=x.2.1;unfold putAt;split<;>rfl
 ·rw[if_neg q,if_neg q,PF];rfl
theorem IS{P:Program}{w:World}{h:Heap}{xs xs2:List (List Key×Addr×Value)}{ts:List Addr}{o:Obj}{es:Array DictEntry}{ep:Nat}(d:h.DictOfH (tupleKind (aS P w)) a xs)(g1:h.get? a=some o)(g3:o.data=.dict es ep)
  (g4:es.toList=xs2.map (entryOfKey (tupleKind (aS P w)))) (g6:xs2.map (·.2.1)=ts):xs.map (·.2.1)=ts:=by
 obtain⟨o1,es1,ep1,h1,h2,h3,h4,_⟩:=d;rw[g1]at h1;cases h1;rw[g3]at h3;cases h3;rw[g4]at h4;have key:∀l:List (List Key×Addr×Value),(l.map (entryOfKey (tupleKind (aS P w)))).map (·.key)=(l.map (·.2.1)).map Qo:=fun l=>by rw[P7,P7];rfl
 have:=congrArg (List.map (·.key)) h4;rw[key,key,g6]at this;exact(RO (fun a b e=>Qo.inj e)).mp this.symm
def gf(H:Hp)(a:Addr)(y:V)(r:Option V):Prop:=
 (∃kvs k,Rd H a (.dK kvs)/\y=kV k/\r=iF kvs k)\/∃kvs k b ts,Rd H a (.dT kvs ts)/\y=.ref b/\H b=some (.tup (k.map kV))/\r=iF kvs k
def AM(H:Hp)(a:Addr)(y v:V)(H':Hp):Prop:=
 (∃kvs k,H a=some (.dK kvs)/\y=kV k/\kvs.length<sizeLine/\H'=upd H a (.dK (putK kvs k v))) \/
 ∃kvs k b ts,H a=some (.dT kvs ts)/\y=.ref b/\H b=some (.tup (k.map kV))/\kvs.length<sizeLine/\H'=upd H a (.dT (putK kvs k v) (IQ kvs ts k b))
theorem gf.k{k:Key}(e:H a=some (.dK kvs)):gf H a (kV k) (iF kvs k):=.inl ⟨kvs,k,.inl e,rfl,rfl⟩
theorem AM.k{k:Key}{v:V}(e:H a=some (.dK kvs))(hl:kvs.length<sizeLine):AM H a (kV k) v (upd H a (.dK (putK kvs k v))):=.inl ⟨kvs,k,e,rfl,hl,rfl⟩
end
section
variable{X:Cx}{jV:List (Addr×Obj)}{σ:St}{H:Hp}{s:Shared}{a:Addr}{y v:V}{u r:Value}{o:Option V}{A:Around}{E:Value->Shared->Prop}
section
variable{Q:Value->Shared->Prop}{h':Heap}
theorem Inv.big(I:Inv X jV σ H s):sysModules<s.heap.objs.size:=by have h:mainGlobals<s.heap.objs.size:=(I.mod.glob.keeps I.bk).lt;exact Nat.lt_trans (by decide) h
theorem zg(hu:A.units+1<cLine)(I:Inv X jV σ H s)(g:gf H a y (some v))(ry:RelV y u)(h:∀w' s',Inv X jV σ H s'->RelV v w'->Q w' s') :
  wpAny (model X.prog X.w) A (getItem (.ref a) u) Q E s:=by
 rcases g with⟨kvs,k,e,ey,l⟩ | ⟨kvs,k,b,ts,e,ey,eb,l⟩
 ·subst ey;obtain⟨z,hd,vs,rel,dd⟩:=lH I.hok e;obtain⟨w',hw,rw'⟩:=ju.some_of (v:=v) (o:=valueAt vs k) (by rw[l];exact rel.val k);exact wpAny_getItem_of (lF ry) dd.mapOf hw (h w' _ (I.tok _) rw')
 ·subst ey;cases (show u=Qo b from ry);obtain⟨z,hd,xs,rel,dd⟩:=mW I.hok e;obtain⟨w',hw,rw'⟩:=ju.some_of (v:=v) (o:=(atKey xs k).map (·.2)) (by rw[l];exact rel.val k);obtain⟨p,hp,hp2⟩:=Option.map_eq_some_iff.mp hw;refine wpAny_getItem_heap (tupleKind_room_in1 hu) (kB I.hok eb) dd hp ?_;rw[hp2];exact h w' _ (I.tok _) rw'
theorem zh(hu:A.units+1<cLine)(I:Inv X jV σ H s)(g:gf H a y o)(ry:RelV y u)(h:∀s',Inv X jV σ H s'->Q (.bool o.isSome) s') :
  wpAny (model X.prog X.w) A (compareOp .In u (.ref a)) Q E s:=by
 rcases g with⟨kvs,k,e,ey,l⟩ | ⟨kvs,k,b,ts,e,ey,eb,l⟩
 ·subst ey;obtain⟨z,hd,vs,rel,dd⟩:=lH I.hok e;refine wpAny_in_of (lF ry) hd dd.mapOf ?_;rw[<- (rel.val k).dF,<- l];exact h _ (I.tok _)
 ·subst ey;cases (show u=Qo b from ry);obtain⟨z,hd,xs,rel,dd⟩:=mW I.hok e;refine wpAny_in_heap (tupleKind_room_in1 hu) (kB I.hok eb) hd dd ?_;have q:=(rel.val k).dF;rw[Rh]at q;rw[<- q,<- l];exact h _ (I.tok _)
theorem Ep(hu:A.units+1<cLine)(I:Inv X jV σ H s)(g:gf H a y o)(ry:RelV y u)(h:∀s',Inv X jV σ H s'->Q (.bool (!o.isSome)) s') :
  wpAny (model X.prog X.w) A (compareOp .NotIn u (.ref a)) Q E s:=by
 rcases g with⟨kvs,k,e,ey,l⟩ | ⟨kvs,k,b,ts,e,ey,eb,l⟩
 ·subst ey;obtain⟨z,hd,vs,rel,dd⟩:=lH I.hok e;refine wpAny_notIn_of (lF ry) hd dd.mapOf ?_;rw[<- (rel.val k).dF,<- l];exact h _ (I.tok _)
 ·subst ey;cases (show u=Qo b from ry);obtain⟨z,hd,xs,rel,dd⟩:=mW I.hok e;refine wpAny_notIn_heap (tupleKind_room_in1 hu) (kB I.hok eb) hd dd ?_;have q:=(rel.val k).dF;rw[Rh]at q;rw[<- q,<- l];exact h _ (I.tok _)
theorem mz{t':Nat}{ob:HO}(I:Inv X jV σ H s)(mu:Mut (H a))(hs:Sh a s.heap h')(he:∃q,h'.get? a=some q)(new:bq X.prog X.w (upd H a ob) h' a ob) :
  Inv X jV σ (upd H a ob) { s with heap:=h',toks:=t' }:=
 I.write (x:=a) (e:=a) mu (.inl rfl) (fun b q hb z=>(hs.2 b hb).trans z) he new
theorem rA{P:Program}{w:World}{H':Hp}{kvs:List (Key×V)}{vs:List (Key×Value)}(z:kvs.length<=sizeLine)(hd:(a == sysModules)=false)(rel:KV kvs vs)(dd:h'.DictOf (aS P w) a vs) :
  bq P w H' h' a (.dK kvs):=⟨z,hd,vs,rel,dd⟩
theorem zj{H':Hp}{Q:Unit->Shared->Prop}(hu:A.units+1<cLine)(I:Inv X jV σ H s)(g:AM H a y v H')(ry:RelV y u)(rv:RelV v r)(h:∀s',Inv X jV σ H' s'->Q () s') :
  wpAny (model X.prog X.w) A (setItem (.ref a) u r) Q E s:=by
 rcases g with⟨kvs,k,e,ey,l,eH⟩ | ⟨kvs,k,b,ts,e,ey,eb,l,eH⟩
 ·subst ey eH;obtain⟨z,hd,vs,rel,dd⟩:=xJ I.hok e;have hz:vs.length<=sizeLine:=by rw[<- rel.length];exact z
  have hl:(putK kvs k v).length<=sizeLine:=by have:=gm kvs k v;lia
  refine wpAny_setItem_pairs (hsz:=hz) (lF ry) dd fun h' dd' hs=>h _ ?_;have he:∃q,h'.get? a=some q:=let ⟨q,_,_,hq,_⟩:=dd';⟨q,hq⟩
  exact mz I (by rw[e];exact QL) hs he (rA hl hd (rel.put k rv) dd')
 ·subst ey eH;cases (show u=Qo b from ry);obtain⟨z,hd,xs,rel,dd⟩:=LC I.hok e;have hz:xs.length<=sizeLine:=by rw[<- Paired.length rel];exact z
  have hl:(putK kvs k v).length<=sizeLine:=by have:=gm kvs k v;lia
  refine wpAny_setItem_heap (hsz:=hz) (tupleKind_room_in1 hu) (kB I.hok eb) dd fun h' dd' hs=>h _ ?_;obtain⟨q,es,ep,hq,h2,h3,h4,_,h5⟩:=dd';refine mz I (by rw[e];exact QL) hs ⟨q,hq⟩ ⟨hl,hd,_,(rel.put k eb rv).keeps fun c ys ec=>?_,q,es,ep,hq,h2,h3,h4,h5,?_⟩
  ·rw[ak (Ln ec e (fun z=>nomatch z))];exact ec
  ·have hts:xs.map (·.2.1)=ts:=by
    obtain⟨_,_,xs2,_,o2,es2,ep2,g1,g2,g3,g4,g5,g6⟩:=(show bq X.prog X.w H s.heap a (.dT kvs ts) from I.hok a _ e)
    exact IS dd g1 g3 g4 g6
   rw[<- hts];exact tE rel k b r
end
end
section
variable{X:Cx}{jV:List (Addr×Obj)}{σ:St}{H:Hp}{s:Shared}{a:Addr}{kvs:List (Key×V)}{k:Key}{u:Value}{A:Around}{E:Value->Shared->Prop}
theorem LD{v:V}{more:List Value}{Q:Value->Shared->Prop}(I:Inv X jV σ H s)(e:H a=some (.dK kvs))(ry:RelV (kV k) u)(l:iF kvs k=some v)(hm:more=[]\/∃x,more=[x])
  (h:∀w' s',Inv X jV σ (upd H a (.dK (lE kvs k))) s'->RelV v w'->Q w' s'):wpAny (model X.prog X.w) A (call (.builtin "dict.pop") (.ref a::u::more)) Q E s:=by
 obtain⟨z,hd,vs,rel,dd⟩:=xJ I.hok e;obtain⟨w',hw,rw'⟩:=ju.some_of (v:=v) (o:=valueAt vs k) (by rw[<- l];exact rel.val k);have hp:(keyPart u).isSome=true:=by
  cases k with
  |inl i=>obtain⟨t,q⟩:=(show ∃t,u=RL i t from ry);subst q;rfl
  |inr x=>obtain⟨t,q⟩:=(show ∃t,u=R3 x t from ry);subst q;rfl
 have ha:argsOk "dict.pop" ⟨.ref a::u::more,[]⟩:=by
  rcases hm with q | ⟨x,q⟩
  ·subst q;exact PySem.F.args_dict_pop_2 _ _
  ·subst q;exact PySem.F.args_dict_pop_3 _ _ _
 refine call_meetsIn PySem.F.slot_dict_pop dd.typeIs PySem.F.entry_dict_pop ha (meets_dict_pop_there (aS X.prog X.w) a (lF ry) more hm hp)
  ⟨vs,w',dd,by rw[<- rel.length];exact z,hw,fun h' dd' hs=>h w' _ ?_ rw'⟩
 have he:∃q,h'.get? a=some q:=let ⟨q,_,_,hq,_⟩:=dd';⟨q,hq⟩
 exact mz I (by rw[e];exact QL) hs he (rA (PL (AL kvs k) z) hd (rel.drop k) dd')
end
def IT(i:Expr):Prop:=∀ov iv,subscripted i false ov iv=operate [ov,iv] (getItem ov iv)
theorem Er{prog:Program}{w:World}{A:Around}{E:Value->Shared->Prop}{s:Shared}{env:Env}{value slice:Expr}{pos:Pos}{T id:String}{Q:Value->Shared->Prop}
  (hl:typeLookup (.type T) "__getitem__" = pure (some (.builtin id))) (hs:IT slice)
  (h:wpAny (model prog w) A (eval value env) (fun o s₁=>wpAny (model prog w) A (eval slice env) (fun i s₂=>s₂.TypeIs o T/\wpAny (model prog w) A (getItem o i) Q E s₂) E s₁) E s) :
  wpAny (model prog w) A (eval (.Subscript value slice pos) env) Q E s:=by
 refine Subscript_ (wpAny_mono h (fun o s₁ h₁=>wpAny_mono h₁ (fun i s₂ h₂=>?_) fun _ _ x=>x) fun _ _ x=>x);obtain⟨hT,h₂⟩:=h₂;unfold subscriptTail;refine wpAny_bind ?_;rw[getitemInPython_of_ne hT.not_modules];refine wpAny_bind (wpAny_specialOf hT hl ?_);have Ks:wpAny (model prog w) A (subscripted slice false o i) (fun r s₃=>wpAny (model prog w) A (letTemporaryGo value o r >>= fun _=>pure r) Q E s₃) E s₂:=by rw[hs o i];exact wpAny_operating (wpAny_mono h₂ (fun r s₃ h₃=>wpAny_bind (wpAny_letTemporaryGo (wpAny_pure h₃))) fun _ _ x=>x)
 first
  |exact wpAny_pure (wpAny_bind Ks)
  |exact wpAny_bind (wpAny_pure (wpAny_bind Ks))
  |exact wpAny_bind Ks
theorem tF{X:Cx}{jV:List (Addr×Obj)}{σ:St}{H:Hp}{s:Shared}{a:Addr}{y:V}{o:Option V}(I:Inv X jV σ H s)(g:gf H a y o):s.TypeIs (.ref a) "dict" := by
 rcases g with⟨kvs,k,e,_,_⟩ | ⟨kvs,k,b,ts,e,_,_,_⟩
 ·obtain⟨_,_,vs,_,dd⟩:=lH I.hok e;exact dd.typeIs
 ·obtain⟨_,_,xs,_,dd⟩:=mW I.hok e;exact dd.typeIs
def LF(td ty:TE):TE:=fun σ H Q=>td σ H fun x H1=>ty σ H1 fun y H2=>∃a v,x=.ref a/\gf H2 a y (some v)/\Q v H2
def N_(ty td:TE):TE:=fun σ H Q=>ty σ H fun y H1=>td σ H1 fun x H2=>∃a o,x=.ref a/\gf H2 a y o/\Q (.bl o.isSome) H2
def Es(ty td:TE):TE:=fun σ H Q=>ty σ H fun y H1=>td σ H1 fun x H2=>∃a o,x=.ref a/\gf H2 a y o/\Q (.bl (!o.isSome)) H2
def GJ(td ty tv:TE):TS:=fun D σ H=>tv σ H fun v H1=>td σ H1 fun x H2=>ty σ H2 fun y H3=>∃a H4,x=.ref a/\AM H3 a y v H4/\D.nx σ H4
section
variable{X:Cx}{o i e value:Expr}{pos pos' tpos:Pos}{td ty tv:TE}
theorem Et(hu:X.A.units+1<cLine)(ho:PE X o td)(hi:PE X i ty)(hs:IT i):PE X (.Subscript o i pos) (LF td ty):=by intro jV s σ H Q I h;refine Er PySem.F.slot_dict_getitem.lookup hs (thn (ho jV s σ H _ I h) fun u s1 ⟨x,H1,I1,rx,q1⟩=>thn (hi jV s1 σ H1 _ I1 q1) fun iv s2 ⟨y,H2,I2,ry,a,v,ex,g,q2⟩=>?_);subst ex;obtain rfl:u=Qo a:=rx;exact⟨tF I2 g,zg hu I2 g ry fun w' s3 I3 rw'=>⟨v,H2,I3,rw',q2⟩⟩
theorem IU(hu:X.A.units+1<cLine)(hi:PE X i ty)(ho:PE X o td):PC X .In i o (N_ ty td):=by intro jV s σ H Q I h;refine thn (hi jV s σ H _ I h) fun iv s1 ⟨y,H1,I1,ry,q1⟩=>thn (ho jV s1 σ H1 _ I1 q1) fun u s2 ⟨x,H2,I2,rx,a,ov,ex,g,q2⟩=>?_;subst ex;obtain rfl:u=Qo a:=rx;exact zh hu I2 g ry fun s3 I3=>⟨.bl ov.isSome,H2,I3,rfl,q2⟩
theorem zk(hu:X.A.units+1<cLine)(hi:PE X i ty)(ho:PE X o td):PC X .NotIn i o (Es ty td):=by intro jV s σ H Q I h;refine thn (hi jV s σ H _ I h) fun iv s1 ⟨y,H1,I1,ry,q1⟩=>thn (ho jV s1 σ H1 _ I1 q1) fun u s2 ⟨x,H2,I2,rx,a,ov,ex,g,q2⟩=>?_;subst ex;obtain rfl:u=Qo a:=rx;exact Ep hu I2 g ry fun s3 I3=>⟨.bl (!ov.isSome),H2,I3,rfl,q2⟩
theorem Eu(hu:X.A.units+1<cLine)(ho:PE X o td)(hi:PE X i ty)(hv:PE X value tv)(hs:swapsWith value (some (.Subscript o i pos')) pos.line X.env=pure false) :
  PS X (.Assign [.Subscript o i pos'] value pos) (GJ td ty tv):=by
 intro jV s σ H D I h;refine wpAny_Assign_Subscript (thn (hv jV s σ H _ I h) fun r s1 ⟨v,H1,I1,rv,q1⟩=>thn (ho jV s1 σ H1 _ I1 q1) fun u s2 ⟨x,H2,I2,rx,q2⟩=>thn (hi jV s2 σ H2 _ I2 q2) fun iv s3 ⟨y,H3,I3,ry,a,H4,ex,g,q3⟩=>?_) hs;subst ex;obtain rfl:u=Qo a:=rx;exact zj hu I3 g ry rv fun s4 I4=>⟨σ,H4,I4,q3⟩
end
theorem tG{P:Program}{w:World}{H:Hp}(h:Heap)(hb:sysModules<h.objs.size):bq P w H (h.push { cls:=.type "dict",data:=.dict #[] }) h.objs.size (.dK []):=
 ⟨Qd _,beq_eq_false_iff_ne.mpr (Ne.symm (Qc hb)),[],.nil,Heap.DictOf.new h⟩
def AO:TE:=fun _ H Q=>∀p,H p=none->Q (.ref p) (upd H p (.dK []))
section
variable{X:Cx}{pos:Pos}
theorem AQ:PE X (.Dict [] [] pos) AO:=fun jV s σ H Q I h=>wpAny_Dict_empty ⟨.ref s.heap.objs.size,_,I.laid (a:=s.heap.objs.size) (o:=.dK []) (t':=s.toks) (fun _ _ q=>PJ _ q) (Pj _) (tG s.heap I.big),rfl,h _ (I.hok.fresh (Pj _))⟩
end
section
variable{trs:List (TE×TE)}{pos:Pos}{X:Cx}
def vN:List (TE×TE)->St->Hp->(List (V×V)->Hp->Prop)->Prop
 |[],_,H,Q=>Q [] H
 |(tk,tv)::r,σ,H,Q=>tk σ H fun x H1=>tv σ H1 fun y H2=>vN r σ H2 fun ps H3=>Q ((x,y)::ps) H3
noncomputable abbrev VV:List (V×V)->List (Value×Value)->Prop:=Paired fun p q=>RelV p.1 q.1/\RelV p.2 q.2
def PPs(X:Cx)(pos:Pos)(keys:List (Option Expr))(values:List Expr)(trs:List (TE×TE)):Prop:=
 ∀(jV:List (Addr×Obj)) (s:Shared) (σ:St) (H:Hp) (Q:List (V×V)->Hp->Prop),Inv X jV σ H s->vN trs σ H Q ->
  wpAny (model X.prog X.w) X.A (evalPairs (pairTrees keys values X.env pos)) (fun vs s'=>∃ps H',Inv X jV σ H' s'/\VV ps vs/\Q ps H') X.xe s
theorem Ew:PPs X pos [] [] []:=fun jV s σ H Q I h=>pairTrees_nil_walk ⟨[],H,I,.nil,h⟩
theorem AR{k v:Expr}{ks:List (Option Expr)}{vs:List Expr}{tk tv:TE}(hk:PE X k tk)(hv:PE X v tv)(hr:PPs X pos ks vs trs) :
  PPs X pos (some k::ks) (v::vs) ((tk,tv)::trs):=fun jV s σ H Q I h=>
 pairTrees_cons_walk (thn (hk jV s σ H _ I h) fun u s1 ⟨x,H1,I1,rx,q1⟩=>thn (hv jV s1 σ H1 _ I1 q1) fun w2 s2 ⟨y,H2,I2,ry,q2⟩=>thn (hr jV s2 σ H2 _ I2 q2) fun ws s3 ⟨ps,H3,I3,rel,q3⟩=>⟨(x,y)::ps,H3,I3,.cons ⟨rx,ry⟩ rel,q3⟩)
noncomputable def kC(kvs more:List (Key×V)):List (Key×V):=more.foldl (fun zL kv=>putK zL kv.1 kv.2) kvs
theorem KV.merge:∀{more:List (Key×V)} {rs:List (Key×Value)} {kvs:List (Key×V)} {vs:List (Key×Value)},KV more rs->KV kvs vs->KV (kC kvs more) (merged vs rs):=by
 intro more rs kvs vs r;unfold KV at r
 induction r generalizing kvs vs with
 |nil=>intro q;exact q
 |@cons p q ps qs h t ih=>
  intro r0;have e:KV (putK kvs p.1 p.2) (stored vs q.1 q.2):=by have:=r0.put p.1 h.2;rw[<- h.1];exact this
  exact ih e
theorem iw:∀(more kvs:List (Key×V)),(kC kvs more).length<=kvs.length+more.length
 |[],kvs=>by show kvs.length<=kvs.length+0;lia
 |p::r,kvs=>by have h1:=iw r (putK kvs p.1 p.2);have h2:=gm kvs p.1 p.2;show (kC (putK kvs p.1 p.2) r).length<=_;rw[PR];lia
theorem mX{P:Program}{w:World}:∀{kvs:List (Key×V)} {ws:List (Value×Value)},VV (kvs.map fun kv=>(kV kv.1,kv.2)) ws->∃rs,Carries (aS P w) ws rs/\KV kvs rs
 |[],_,r=>by rw[RA]at r;cases r;exact⟨[],QL,.nil⟩
 |p::kvs,_,r=>by
  rw[gc]at r;cases r with
  |@cons a b as bs h t=>obtain⟨rs,c,q⟩:=mX (P:=P) (w:=w) t;obtain⟨b1,b2⟩:=b;exact⟨(p.1,b2)::rs,⟨lF h.1,rfl,c⟩,.cons ⟨rfl,h.2⟩ q⟩
def GK(trs:List (TE×TE)):TE:=fun σ H Q=>∀p,H p=none->vN trs σ (upd H p (.dK [])) fun ps H2=>H2 p=some (.dK [])/\∃kvs:List (Key×V),ps=kvs.map (fun kv=>(kV kv.1,kv.2))/\kvs.length<=15/\Q (.ref p) (upd H2 p (.dK (kC [] kvs)))
theorem Ex{keys:List (Option Expr)}{values:List Expr}(h:PPs X pos keys values trs)(hall:keys.all (·.isSome)=true)(hl:keys.length=values.length)(h0:keys≠[])
  (h15:keys.length<=15):PE X (.Dict keys values pos) (GK trs):=by
 intro jV s σ H Q I q;have hn:=I.hok.fresh (Pj s.heap.objs.size);have I1:=I.laid (a:=s.heap.objs.size) (o:=.dK []) (h':=s.heap.push { cls:=.type "dict",data:=.dict #[] }) (t':=s.toks) (fun _ _ q=>PJ _ q) (Pj _) (tG s.heap I.big);refine wpAny_Dict_walk (knd:=aS X.prog X.w) hall hl h0 h15 (thn (h jV _ σ _ _ I1 (q _ hn)) fun ws s2 ⟨ps,H2,I2,rel,e,kvs,ep,lk,q2⟩=>?_);subst ep;obtain⟨rs,c,rk⟩:=mX (P:=X.prog) (w:=X.w) rel;obtain⟨z,hd,vs0,r0,dd⟩:=xJ I2.hok e;cases r0;refine⟨rs,c,dd,fun h' dd' hs=>⟨.ref s.heap.objs.size,_,?_,rfl,q2⟩⟩;have hz:(kC [] kvs).length<=sizeLine:=by have h1:=iw kvs [];rw[R7]at h1;rw[sizeLine_eq];lia
 have he:∃q,h'.get? s.heap.objs.size=some q:=let ⟨q,_,_,hq,_⟩:=dd';⟨q,hq⟩
 exact mz I2 (by rw[e];exact QL) hs he (rA hz hd (rk.merge .nil) dd')
structure M1(X:Cx)(o:Expr)(m:Str)(J_:Pos)(e:Expr)(cpos:Pos):Prop where
 base:attributeBase o m X.env (eval o X.env)=eval o X.env
 few:((backTo cpos (starEach [e] X.env)).all (fun x=>!x.1)&&(backToKw cpos (keywordEach [] X.env)).all (fun x=>x.1.isSome)
  && decide (([e]:List Expr).length+([]:List Keyword).length+(if ([]:List Keyword).isEmpty then 0 else 1)<30))=true
 line:(J_.endLine == cpos.line)=true
 trees:backTo cpos (starEach [e] X.env)=[(false,eval e X.env)]
def IsD(H:Hp)(a:Addr):Prop:=(∃kvs,Rd H a (.dK kvs))\/∃kvs ts,Rd H a (.dT kvs ts)
theorem AS{jV:List (Addr×Obj)}{σ:St}{H:Hp}{s:Shared}{a:Addr}(I:Inv X jV σ H s)(d:IsD H a) :
  s.TypeIs (.ref a) "dict" /\ (∀b,Qo a=.ref b->∃ob,s.heap.get? b=some ob/\ob.dict=none)/\(a == sysModules)=false:=by
 rcases d with⟨kvs,e⟩ | ⟨kvs,ts,e⟩
 ·obtain⟨_,hd,vs,_,dd⟩:=lH I.hok e;refine⟨dd.typeIs,fun b q=>?_,hd⟩;cases q;obtain⟨ob,_,_,h1,h2,_⟩:=dd;exact⟨ob,h1,h2.2.1⟩
 ·obtain⟨_,hd,xs,_,dd⟩:=mW I.hok e;refine⟨dd.typeIs,fun b q=>?_,hd⟩;cases q;obtain⟨ob,_,_,h1,h2,_⟩:=dd;exact⟨ob,h1,h2.2.1⟩
end
section
variable{X:Cx}{jV:List (Addr×Obj)}{σ:St}{H:Hp}{s:Shared}{a:Addr}{y d:V}{u r:Value}{o:Option V}{A:Around}{E:Value->Shared->Prop}
theorem IV{Q:Value->Shared->Prop}(hu:A.units+1<cLine)(I:Inv X jV σ H s)(g:gf H a y o)(ry:RelV y u)(h:∀w' s',Inv X jV σ H s'->RelV (o.getD .non) w'->Q w' s') :
  wpAny (model X.prog X.w) A (call (.builtin "dict.get") [.ref a,u]) Q E s:=by
 rcases g with⟨kvs,k,e,ey,l⟩ | ⟨kvs,k,b,ts,e,ey,eb,l⟩
 ·subst ey;obtain⟨z,hd,vs,rel,dd⟩:=lH I.hok e;refine call_meetsIn Ry dd.typeIs PySem.F.entry_dict_get (PySem.F.args_dict_get_2 _ _) (meets_dict_get (aS X.prog X.w) a (lF ry) hd) ⟨_,dd.mapOf,h _ _ (I.tok _) ?_⟩;rw[l];exact(rel.val k).getD rfl
 ·subst ey;cases (show u=Qo b from ry);obtain⟨z,hd,xs,rel,dd⟩:=mW I.hok e;refine call_meetsIn Ry dd.typeIs PySem.F.entry_dict_get (PySem.F.args_dict_get_2 _ _) (meetsH_dict_get (tupleKind (aS X.prog X.w)) a b hd) ⟨tupleKind_room_in1 hu,k,xs,kB I.hok eb,dd,h _ _ (I.tok _) ?_⟩;rw[l];exact(rel.val k).getD rfl
end
def AU(td ty:TE):TE:=fun σ H Q=>td σ H fun x H1=>∃a,x=.ref a/\IsD H1 a/\ty σ H1 fun y H2=>∃o,gf H2 a y o/\Q (o.getD .non) H2
def AV(td ty:TE):TE:=fun σ H Q=>td σ H fun x H1=>∃a,x=.ref a/\IsD H1 a/\ty σ H1 fun y H2=>∃kvs k v,H2 a=some (.dK kvs)/\y=kV k/\iF kvs k=some v/\Q v (upd H2 a (.dK (lE kvs k)))
section
variable{X:Cx}{o e f:Expr}{J_ cpos:Pos}{td ty tx:TE}
theorem AW(hu:X.A.units+1<cLine)(ho:PE X o td)(he:PE X e ty)(m:M1 X o "get" J_ e cpos):PE X (.Call (.Attribute o "get" J_) [e] [] cpos) (AU td ty):=by intro jV s σ H Q I h;refine wpAny_Call_method m.base m.few m.line PySem.F.plainAttrs_dict Ry PySem.F.type_dict_get (thn (ho jV s σ H _ I h) fun u s1 ⟨x,H1,I1,rx,a,ex,d,q1⟩=>?_);subst ex;obtain rfl:u=Qo a:=rx;obtain⟨t1,t2,_⟩:=AS I1 d;refine⟨t1,t2,?_⟩;rw[m.trees];refine Rg rfl (Rz (RN (thn (he jV s1 σ H1 _ I1 q1) fun iv s2 ⟨y,H2,I2,ry,ov,g,q2⟩=>RU ?_)));exact IV hu I2 g ry fun w' s3 I3 rw'=>⟨_,H2,I3,rw',q2⟩
theorem AX(ho:PE X o td)(he:PE X e ty)(m:M1 X o "pop" J_ e cpos):PE X (.Call (.Attribute o "pop" J_) [e] [] cpos) (AV td ty):=by intro jV s σ H Q I h;refine wpAny_Call_method m.base m.few m.line PySem.F.plainAttrs_dict PySem.F.slot_dict_pop PySem.F.type_dict_pop (thn (ho jV s σ H _ I h) fun u s1 ⟨x,H1,I1,rx,a,ex,d,q1⟩=>?_);subst ex;obtain rfl:u=Qo a:=rx;obtain⟨t1,t2,_⟩:=AS I1 d;refine⟨t1,t2,?_⟩;rw[m.trees];refine Rg rfl (Rz (RN (thn (he jV s1 σ H1 _ I1 q1) fun iv s2 ⟨y,H2,I2,ry,kvs,k,v,ea,ey,l,q2⟩=>RU ?_)));subst ey;exact LD I2 ea ry l (.inl rfl) fun w' s3 I3 rw'=>⟨v,_,I3,rw',q2⟩
end
section
variable{X:Cx}{jV:List (Addr×Obj)}{σ:St}{H:Hp}{s:Shared}{a:Addr}{kvs:List (Key×V)}{A:Around}{E:Value->Shared->Prop}
theorem AY{Q:Value->Shared->Prop}(I:Inv X jV σ H s)(e:Rd H a (.dK kvs))(h:∀p s',H p=none->Inv X jV σ (upd H p (.dK kvs)) s'->Q (.ref p) s'):wpAny (model X.prog X.w) A (call (.type "dict") [.ref a]) Q E s:=by obtain⟨z,hd,vs,rel,dd⟩:=lH I.hok e;refine kt_call_dict hd dd (by rw[<- rel.length];exact z) fun h' dd' hs=>?_;refine h _ _ (I.hok.fresh (Pj _)) (I.laid (a:=s.heap.objs.size) (o:=.dK kvs) (t':=s.toks) (fun b q hq=>?_) (Pj _) (rA z (beq_eq_false_iff_ne.mpr (Ne.symm (Qc I.big))) rel dd'));exact(hs.2 b (Qc (Px hq))).trans (PJ _ hq)
end
end L2
namespace Dm
inductive Dat where
 |non
 |bl (b:Bool)
 |int (i:Int)
 |str (s:List Nat)
 |tup (xs:List Dat)
 |lst (xs:List Dat)
 |dct (ks:List Int) (vs:List Dat)
 |dcp (ks:List (Int×Int)) (vs:List Dat)
 |exc (C:Nat)
 |dW (C:Nat) (v:Int)
 |fn (a:Nat)
deriving Inhabited
inductive Cell where
 |un
 |sh (d:Dat)
 |ow (d:Dat)
deriving Inhabited
noncomputable abbrev Env:=List Cell
inductive Val where
 |val (d:Dat)
 |slot (i:Nat)
 |new (d:Dat)
inductive RV where
 |val (d:Dat)
 |new (d:Dat)
noncomputable def RV.dat:RV->Dat
 |.val d=>d
 |.new d=>d
noncomputable def RV.bG:RV->Val
 |.val d=>.val d
 |.new d=>.new d
noncomputable def SZ:Nat:=100000
noncomputable def cZ:Dat->Bool
 |.tup _=>true
 |.lst _=>true
 |.dct _ _=>true
 |.dcp _ _=>true
 |.exc _=>true
 |.dW _ _=>true
 |_=>false
noncomputable def pk(ρ:Env):Val->Option Dat
 |.val d=>some d
 |.new d=>some d
 |.slot i=>match ρ[i]? with
  |some (.ow d)=>some d
  |some (.sh d)=>some d
  |_=>none
noncomputable def tk(ρ:Env):Val->Option (Dat×Env)
 |.val d=>some (d,ρ)
 |.new d=>some (d,ρ)
 |.slot i=>match ρ[i]? with
  |some (.ow d)=>some (d,ρ.set i (.sh d))
  |some (.sh d)=>some (d,ρ)
  |_=>none
noncomputable def pks(ρ:Env):List Val->Option (List Dat)
 |[]=>some []
 |x::r=>match pk ρ x with
  |none=>none
  |some d=>match pks ρ r with
   |none=>none
   |some ds=>some (d::ds)
noncomputable def tks(ρ:Env):List Val->Option (List Dat×Env)
 |[]=>some ([],ρ)
 |x::r=>match tk ρ x with
  |none=>none
  |some (d,ρ1)=>match tks ρ1 r with
   |none=>none
   |some (ds,ρ2)=>some (d::ds,ρ2)
noncomputable abbrev FE:=Env->Option (Val×Env)
noncomputable abbrev FT:=Env->Option (Bool×Env)
noncomputable def eC(d:Dat):FE:=fun ρ=>some (.val d,ρ)
noncomputable def eV(i:Nat):FE:=fun ρ=>match ρ[i]? with
 |some (.sh d)=>some (.val d,ρ)
 |some (.ow _)=>some (.slot i,ρ)
 |_=>none
noncomputable def e1(g:Dat->Option RV)(a:FE):FE:=fun ρ=>match a ρ with
 |none=>none
 |some (x,ρ1)=>match pk ρ1 x with
  |none=>none
  |some d=>match g d with
   |none=>none
   |some v=>some (v.bG,ρ1)
noncomputable def e2(g:Dat->Dat->Option RV)(a b:FE):FE:=fun ρ=>match a ρ with
 |none=>none
 |some (x,ρ1)=>match b ρ1 with
  |none=>none
  |some (y,ρ2)=>match pk ρ2 x with
   |none=>none
   |some d=>match pk ρ2 y with
    |none=>none
    |some e=>match g d e with
     |none=>none
     |some v=>some (v.bG,ρ2)
noncomputable def eAs:List FE->Env->Option (List Val×Env)
 |[],ρ=>some ([],ρ)
 |a::r,ρ=>match a ρ with
  |none=>none
  |some (x,ρ1)=>match eAs r ρ1 with
   |none=>none
   |some (xs,ρ2)=>some (x::xs,ρ2)
noncomputable def eB(g:List Dat->Option RV)(as:List FE):FE:=fun ρ=>match eAs as ρ with
 |none=>none
 |some (xs,ρ1)=>match pks ρ1 xs with
  |none=>none
  |some ds=>match g ds with
   |none=>none
   |some v=>some (v.bG,ρ1)
noncomputable def pI(as:List FE):FE:=fun ρ=>match eAs as ρ with
 |none=>none
 |some (xs,ρ1)=>match tks ρ1 xs with
  |none=>none
  |some (ds,ρ2)=>if ds.length<=SZ then some (.val (.tup ds),ρ2) else none
noncomputable def cT(as:List FE):FE:=fun ρ=>match eAs as ρ with
 |none=>none
 |some (xs,ρ1)=>match tks ρ1 xs with
  |none=>none
  |some (ds,ρ2)=>if ds.length<=SZ then some (.new (.lst ds),ρ2) else none
noncomputable def eF(f:List Dat->Option RV)(as:List FE):FE:=fun ρ=>match eAs as ρ with
 |none=>none
 |some (xs,ρ1)=>match pks ρ1 xs with
  |none=>none
  |some ds=>match f ds with
   |none=>none
   | some v=>if cZ v.dat then (match tks ρ1 xs with
     |none=>none
     |some (_,ρ2)=>some (v.bG,ρ2)) else some (v.bG,ρ1)
noncomputable def eIf(t:FT)(a b:FE):FE:=fun ρ=>match t ρ with
 |none=>none
 |some (true,ρ1)=>a ρ1
 |some (false,ρ1)=>b ρ1
noncomputable def kD(a b:FE):FE:=fun ρ=>match a ρ with
 |some (.val (.bl true),ρ1)=>b ρ1
 |some (.val (.bl false),ρ1)=>some (.val (.bl false),ρ1)
 |_=>none
noncomputable def AZ(a:FE):FE:=fun ρ=>match a ρ with
 |some (.val (.bl c),ρ1)=>some (.val (.bl (!c)),ρ1)
 |_=>none
noncomputable def tV(a:FE):FT:=fun ρ=>match a ρ with
 |some (.val (.bl c),ρ1)=>some (c,ρ1)
 |_=>none
noncomputable def cA(t:FT):FT:=fun ρ=>match t ρ with
 |some (c,ρ1)=>some (!c,ρ1)
 |none=>none
noncomputable def iE(t u:FT):FT:=fun ρ=>match t ρ with
 |some (true,ρ1)=>u ρ1
 |some (false,ρ1)=>some (false,ρ1)
 |none=>none
noncomputable def tOr(t u:FT):FT:=fun ρ=>match t ρ with
 |some (true,ρ1)=>some (true,ρ1)
 |some (false,ρ1)=>u ρ1
 |none=>none
noncomputable def truth:Dat->Option Bool
 |.non=>some false
 |.bl b=>some b
 |.int i=>some (i != 0)
 |.tup xs=>some (!xs.isEmpty)
 |.lst xs=>some (!xs.isEmpty)
 |_=>none
noncomputable def tTr(a:FE):FT:=fun ρ=>match a ρ with
 |none=>none
 |some (x,ρ1)=>match pk ρ1 x with
  |none=>none
  |some d=>match truth d with
   |none=>none
   |some c=>some (c,ρ1)
noncomputable def b_:FT:=fun ρ=>some (true,ρ)
noncomputable abbrev FI:=Env->Option (List Dat×Env)
noncomputable def iL(a:FE):FI:=fun ρ=>match a ρ with
 |none=>none
 |some (x,ρ1)=>match tk ρ1 x with
  |some (.lst ds,ρ2)=>some (ds,ρ2)
  |_=>none
noncomputable def iT(a:FE):FI:=fun ρ=>match a ρ with
 |none=>none
 |some (x,ρ1)=>match tk ρ1 x with
  |some (.tup ds,ρ2)=>some (ds,ρ2)
  |_=>none
noncomputable def iS(a:FE):FI:=fun ρ=>match a ρ with
 |none=>none
 |some (x,ρ1)=>match tk ρ1 x with
  |some (.lst ds,ρ2)=>some (ds,ρ2)
  |some (.tup ds,ρ2)=>some (ds,ρ2)
  |_=>none
noncomputable def ups(lo:Int)(n:Nat):List Dat:=(Pu n).map fun i=>Dat.int (lo+(i:Nat))
noncomputable def BIG:Int:=1000000000
noncomputable def iR1(a:FE):FI:=fun ρ=>match a ρ with
 |some (.val (.int j),ρ1)=>if j<=BIG/\-BIG<=j then some (ups 0 j.toNat,ρ1) else none
 |_=>none
noncomputable def iR2(a b:FE):FI:=fun ρ=>match a ρ with
 | some (.val (.int i),ρ1)=>(match b ρ1 with
  |some (.val (.int j),ρ2)=>if j<=BIG/\-BIG<=j/\i<=BIG/\-BIG<=i then some (ups i (j-i).toNat,ρ2) else none
  |_=>none)
 |_=>none
noncomputable abbrev FB:=Dat->Env->Option Env
noncomputable def bN(i:Nat):FB:=fun d ρ=>if i=0 then none else some (ρ.set i (.sh d))
noncomputable def sets:List Nat->List Dat->Env->Option Env
 |[],[],ρ=>some ρ
 |i::is,d::ds,ρ=>if i=0 then none else sets is ds (ρ.set i (.sh d))
 |_,_,_=>none
noncomputable def bT(is:List Nat):FB:=fun d ρ=>match d with
 |.tup ds=>sets is ds ρ
 |_=>none
noncomputable def dI(bd:FB)(t:FT)(el:FE):List Dat->Env->List Dat->Option (List Dat×Env)
 |[],ρ,zL=>some (zL,ρ)
 |d::r,ρ,zL=>match bd d ρ with
  |none=>none
  |some ρ1=>match t ρ1 with
   |none=>none
   |some (false,ρ2)=>dI bd t el r ρ2 zL
   |some (true,ρ2)=>match el ρ2 with
    |none=>none
    |some (x,ρ3)=>match tk ρ3 x with
     |none=>none
     |some (y,ρ4)=>dI bd t el r ρ4 (zL++[y])
noncomputable def cg(it:FI)(own:Nat)(bd:FB)(t:FT)(el:FE):FE:=fun ρ=>match it ρ with
 |none=>none
 | some (ds,ρ1)=>if ds.length≤SZ then (match dI bd t el ds (ρ1++gV own .un) [] with
  |none=>none
  |some (ys,ρ2)=>some (.new (.lst ys),ρ2.take ρ1.length)) else none
inductive Out where
 |nx (ρ:Env)
 |ret (r:RV) (ρ:Env)
 |bk (ρ:Env)
 |ct (ρ:Env)
noncomputable abbrev FS:=Env->Option Out
noncomputable def sNx:FS:=fun ρ=>some (.nx ρ)
noncomputable def aC(s u:FS):FS:=fun ρ=>match s ρ with
 |some (.nx ρ1)=>u ρ1
 |o=>o
noncomputable def sA(i:Nat)(e:FE):FS:=fun ρ=>if i=0 then none else match e ρ with
 |none=>none
 |some (.new d,ρ1)=>some (.nx (ρ1.set i (.ow d)))
 |some (x,ρ1)=>match tk ρ1 x with
  |none=>none
  |some (d,ρ2)=>some (.nx (ρ2.set i (.sh d)))
noncomputable def sU(is:List Nat)(e:FE):FS:=fun ρ=>match e ρ with
 |none=>none
 |some (x,ρ1)=>match tk ρ1 x with
  | some (.tup ds,ρ2)=>(match sets is ds ρ2 with
   |none=>none
   |some ρ3=>some (.nx ρ3))
  |_=>none
noncomputable def sE(e:FE):FS:=fun ρ=>match e ρ with
 |none=>none
 |some (_,ρ1)=>some (.nx ρ1)
noncomputable def sR(e:FE):FS:=fun ρ=>match e ρ with
 |none=>none
 |some (.new d,ρ1)=>some (.ret (.new d) ρ1)
 |some (.val d,ρ1)=>some (.ret (.val d) ρ1)
 |some (.slot i,ρ1)=>match ρ1[i]? with
  |some (.ow d)=>some (.ret (.new d) (ρ1.set i .un))
  |some (.sh d)=>some (.ret (.val d) ρ1)
  |_=>none
noncomputable def sIf(t:FT)(a b:FS):FS:=fun ρ=>match t ρ with
 |none=>none
 |some (true,ρ1)=>a ρ1
 |some (false,ρ1)=>b ρ1
noncomputable def rB(i:Nat)(e:FE):FS:=fun ρ=>match ρ[i]? with
 | some (.ow (.lst _))=>(match e ρ with
  |none=>none
  |some (x,ρ1)=>match tk ρ1 x with
   |none=>none
   |some (d,ρ2)=>match ρ2[i]? with
    |some (.ow (.lst ds))=>if ds.length<SZ then some (.nx (ρ2.set i (.ow (.lst (ds++[d]))))) else none
    |_=>none)
 |_=>none
noncomputable def ixN(n:Nat)(i:Int):Option Nat:=
 if 0<=i then (if i<n then some i.toNat else none) else if -(n:Int)<=i then some (i+n).toNat else none
noncomputable def zl(i:Nat)(j e:FE):FS:=fun ρ=>match e ρ with
 |none=>none
 |some (x,ρ1)=>match tk ρ1 x with
  |none=>none
  |some (d,ρ2)=>match ρ2[i]? with
   | some (.ow _)=>(match j ρ2 with
    | some (.val (.int k),ρ3)=>(match ρ3[i]? with
     | some (.ow (.lst ds))=>(match ixN ds.length k with
      |none=>none
      |some m=>some (.nx (ρ3.set i (.ow (.lst (ds.set m d))))))
     |_=>none)
    |_=>none)
   |_=>none
noncomputable def kE(bd:FB)(body:FS):List Dat->FS
 |[],ρ=>some (.nx ρ)
 |d::r,ρ=>match bd d ρ with
  |none=>none
  |some ρ1=>match body ρ1 with
   |some (.nx ρ2)=>kE bd body r ρ2
   |some (.ct ρ2)=>kE bd body r ρ2
   |some (.bk ρ2)=>some (.nx ρ2)
   |some (.ret v ρ2)=>some (.ret v ρ2)
   |none=>none
noncomputable def fC(it:FI)(bd:FB)(body:FS):FS:=fun ρ=>match it ρ with
 |none=>none
 |some (ds,ρ1)=>kE bd body ds ρ1
noncomputable def whD(t:FT)(body:FS):Nat->FS
 |0,_=>none
 |n+1,ρ=>match t ρ with
  |none=>none
  |some (false,ρ1)=>some (.nx ρ1)
  |some (true,ρ1)=>match body ρ1 with
   |some (.nx ρ2)=>whD t body n ρ2
   |some (.ct ρ2)=>whD t body n ρ2
   |some (.bk ρ2)=>some (.nx ρ2)
   |some (.ret v ρ2)=>some (.ret v ρ2)
   |none=>none
noncomputable def fn(n m:Nat)(body:FS)(ds:List Dat):Option RV:=if ds.length=n then (match body (ds.map Cell.sh++gV m .un) with
 |some (.ret r _)=>some r
 |some (.nx _)=>some (.val .non)
 |_=>none) else none
noncomputable def b2i(b:Bool):Int:=if b then 1 else 0
mutual
noncomputable def eqD:Dat->Dat->Bool
 |.non,.non=>true
 |.bl a,.bl b=>a == b
 |.bl a,.int j=>b2i a == j
 |.int i,.bl b=>i == b2i b
 |.int i,.int j=>i == j
 |.str a,.str b=>a == b
 |.tup xs,.tup ys=>cU xs ys
 |.lst xs,.lst ys=>cU xs ys
 |_,_=>false
noncomputable def cU:List Dat->List Dat->Bool
 |[],[]=>true
 |x::xs,y::ys=>eqD x y&&cU xs ys
 |_,_=>false
end
noncomputable def okD:Nat->Dat->Bool
 |_,.dct _ _=>false
 |_,.dcp _ _=>false
 |_,.exc _=>false
 |_,.dW _ _=>false
 |_,.fn _=>false
 |_,.str s=>s.all fun c=>decide (c<128)
 |0,.tup _=>false
 |0,.lst _=>false
 |n+1,.tup xs=>xs.all (okD n)
 |n+1,.lst xs=>xs.all (okD n)
 |_,_=>true
noncomputable abbrev vB(b:Bool):Option RV:=some (.val (.bl b))
noncomputable def jH(p:Dat->Bool):Dat->Option RV
 |.exc _=>none
 |.dW _ _=>none
 |.fn _=>none
 |d=>vB (p d)
noncomputable abbrev vI(i:Int):Option RV:=some (.val (.int i))
noncomputable def gEq(x y:Dat):Option RV:=if okD 8 x&&okD 8 y then vB (eqD x y) else none
noncomputable def gNe(x y:Dat):Option RV:=if okD 8 x&&okD 8 y then vB (!eqD x y) else none
noncomputable def gLt:Dat->Dat->Option RV
 |.int i,.int j=>vB (decide (i<j))
 |_,_=>none
noncomputable def gLe:Dat->Dat->Option RV
 |.int i,.int j=>vB (decide (i<=j))
 |_,_=>none
noncomputable def gGt:Dat->Dat->Option RV
 |.int i,.int j=>vB (decide (j<i))
 |_,_=>none
noncomputable def gGe:Dat->Dat->Option RV
 |.int i,.int j=>vB (decide (j<=i))
 |_,_=>none
noncomputable def B64:Int:=18446744073709551616
noncomputable def cj:Dat->Dat->Option RV
 |.int i,.int j=>vI (i+j)
 |.lst xs,.lst ys=>if xs.length+ys.length<=SZ then some (.new (.lst (xs++ys))) else none
 |_,_=>none
noncomputable def kq:Dat->Dat->Option RV
 |.int i,.int j=>vI (i-j)
 |_,_=>none
noncomputable def jI:Dat->Dat->Option RV
 |.int i,.int j=>if (-B64<i/\i<B64)\/(-B64<j/\j<B64) then vI (i*j) else none
 |.lst xs,.int k=>if k<=BIG/\-BIG<=k/\xs.length*k.toNat<=SZ then some (.new (.lst (gV k.toNat xs).flatten)) else none
 |_,_=>none
noncomputable def jJ:Int:=1606938044258990275541962092341162602522202993782792835301376
noncomputable def vO:Dat->Dat->Option RV
 |.int i,.int j=>if 0<j/\j<jJ then vI (i / j) else none
 |_,_=>none
noncomputable def l_:Dat->Dat->Option RV
 |.int i,.int j=>if 0<j then vI (i % j) else none
 |_,_=>none
noncomputable def vP:Dat->Dat->Option RV
 |.int i,.int j=>if 0<=j/\j<=1000000/\i.natAbs<1000000 then vI (i ^ j.toNat) else none
 |_,_=>none
noncomputable def zm:Dat->Dat->Option RV
 |.int i,.int j=>if 0<=j then vI (i / 2 ^ j.toNat) else none
 |_,_=>none
noncomputable def A0:Dat->Dat->Option RV
 |.int i,.int j=>if j=1 then vI (i % 2) else none
 |_,_=>none
noncomputable def Ey:Dat->Option RV
 |.int i=>vI (-i)
 |_=>none
noncomputable def atI(xs:List Dat)(i:Int):Option Dat:=(ixN xs.length i).bind fun j=>xs[j]?
noncomputable def gIx:Dat->Dat->Option RV
 |.lst xs,.int i=>(atI xs i).map .val
 |.tup xs,.int i=>(atI xs i).map .val
 |_,_=>none
noncomputable def inD(x:Dat)(xs:List Dat):Bool:=xs.any fun y=>eqD y x
noncomputable def gIn:Dat->Dat->Option RV
 |x,.lst xs=>if okD 8 x&&xs.all (okD 7) then vB (inD x xs) else none
 |x,.tup xs=>if okD 8 x&&xs.all (okD 7) then vB (inD x xs) else none
 |_,_=>none
noncomputable def ck:Dat->Dat->Option RV
 |x,.lst xs=>if okD 8 x&&xs.all (okD 7) then vB (!inD x xs) else none
 |x,.tup xs=>if okD 8 x&&xs.all (okD 7) then vB (!inD x xs) else none
 |_,_=>none
noncomputable def sIx(n d:Nat):Option Int->Nat
 |none=>d
 |some v=>(if v<0 then max (v+n) 0 else min v n).toNat
noncomputable def cut(xs:List Dat)(lo hi:Option Int):List Dat:=(xs.drop (sIx xs.length 0 lo)).take (sIx xs.length xs.length hi-sIx xs.length 0 lo)
noncomputable def cD:List Dat->Option RV
 |[.lst xs]=>vI xs.length
 |[.tup xs]=>vI xs.length
 |_=>none
noncomputable def p_:List Dat->Option RV
 |[.int i,.int j]=>vI (if j<i then j else i)
 |_=>none
noncomputable def qc:List Dat->Option RV
 |[.int i,.int j]=>vI (if j>i then j else i)
 |_=>none
noncomputable def gu:List Dat->Option RV
 |[.lst xs]=>some (.new (.lst xs))
 |[.tup xs]=>some (.new (.lst xs))
 |_=>none
noncomputable def kF:List Dat->Option RV
 |[.lst xs]=>some (.val (.tup xs))
 |[.tup xs]=>some (.val (.tup xs))
 |_=>none
noncomputable def isI:Dat->Bool
 |.int _=>true
 |.bl _=>true
 |_=>false
noncomputable def isB:Dat->Bool
 |.bl _=>true
 |_=>false
noncomputable def isL:Dat->Bool
 |.lst _=>true
 |_=>false
noncomputable def isT:Dat->Bool
 |.tup _=>true
 |_=>false
noncomputable def bools:List Dat->Option (List Bool)
 |[]=>some []
 |.bl b::r=>(bools r).map fun bs=>b::bs
 |_=>none
noncomputable def pJ:List Dat->Option RV
 | [.lst xs]=>(match bools xs with
  |some bs=>vB (bs.all id)
  |none=>none)
 |_=>none
noncomputable def fD(g h:Dat->Dat->Option RV)(a b c:FE):FE:=fun ρ=>match a ρ with
 |none=>none
 |some (x,ρ1)=>match b ρ1 with
  |none=>none
  |some (y,ρ2)=>match pk ρ2 x with
   |none=>none
   |some d=>match pk ρ2 y with
    |none=>none
    |some e=>match g d e with
     | some (.val (.bl true))=>(match c ρ2 with
      |none=>none
      |some (z,ρ3)=>match pk ρ3 y with
       |none=>none
       |some e'=>match pk ρ3 z with
        |none=>none
        |some f=>match h e' f with
         |none=>none
         |some v=>some (v.bG,ρ3))
     |some (.val (.bl false))=>some (.val (.bl false),ρ2)
     |_=>none
noncomputable def part:Option FE->Env->Option (Option Int×Env)
 |none,ρ=>some (none,ρ)
 |some f,ρ=>match f ρ with
  |some (.val (.int i),ρ1)=>some (some i,ρ1)
  |_=>none
noncomputable def eSl(a:FE)(lo hi:Option FE):FE:=fun ρ=>match a ρ with
 |none=>none
 |some (x,ρ1)=>match part lo ρ1 with
  |none=>none
  |some (l,ρ2)=>match part hi ρ2 with
   |none=>none
   |some (h,ρ3)=>match pk ρ3 x with
    |some (.lst xs)=>some (.new (.lst (cut xs l h)),ρ3)
    |_=>none
end Dm
open Dm(Dat FE RV FT FS)
namespace Br
open PySem L2
noncomputable def kP(p:Int×Int):List Key:=[PX p.1,PX p.2]
def kG(H:Hp):List Addr->List (Int×Int)->Prop
 |[],[]=>True
 |t::ts,p::ks=>H t=some (.tup [V.int p.1,V.int p.2])/\kG H ts ks
 |_,_=>False
theorem kG.mono{H H':Hp}(s:ai H H'):∀{ts:List Addr} {ks:List (Int×Int)},kG H ts ks->kG H' ts ks
 |[],[],_=>trivial
 |_::_,_::_,h=>⟨s _ _ h.1,kG.mono s h.2⟩
 |[],_::_,h=>h
 |_::_,[],h=>h
def A1(H:Hp)(x:List (List Key×V)×List Addr)(ks:List (Int×Int)):Prop:=x.1.map (·.1)=ks.map kP/\kG H x.2 ks
theorem A1.mono{H H':Hp}(s:ai H H'){x:List (List Key×V)×List Addr}{ks:List (Int×Int)}(h:A1 H x ks):A1 H' x ks:=⟨h.1,h.2.mono s⟩
mutual
inductive Rep(H:Hp):V->Dat->Prop
 |non:Rep H V.non Dat.non
 |bl (b:Bool):Rep H (V.bl b) (Dat.bl b)
 |int (i:Int):Rep H (V.int i) (Dat.int i)
 |str (s:List Nat):Rep H (V.str ⟨s.toArray⟩) (Dat.str s)
 |tup {a:Addr} {xs:List V} {ds:List Dat}:H a=some (.tup xs)->aB H xs ds->Rep H (V.ref a) (Dat.tup ds)
 |lst {a:Addr} {xs:List V} {ds:List Dat}:Rd H a (.lst xs)->aB H xs ds->Rep H (V.ref a) (Dat.lst ds)
 |dct {a:Addr} {kvs:List (Key×V)} {ks:List Int} {ds:List Dat}:H a=some (.dK kvs)->kvs.map (·.1)=ks.map PX->aB H (kvs.map (·.2)) ds->Rep H (V.ref a) (Dat.dct ks ds)
 |dcp {a:Addr} {x:List (List Key×V)×List Addr} {ks:List (Int×Int)} {ds:List Dat}:H a=some (.dT x.1 x.2)->A1 H x ks->aB H (x.1.map (·.2)) ds->Rep H (V.ref a) (Dat.dcp ks ds)
 |exc {a:Addr} {C:Nat}:H a=some (.ext fun h=>∃o,h.get? a=some o/\o.cls=.ref C)->Rep H (V.ref a) (Dat.exc C)
 |dW {a d:Addr} {C:Nat} {v:Int}:H a=some (.ext fun h=>∃o,h.get? a=some o/\o.cls=.ref C/\o.dict=some d/\∀c,o.data≠.cls c)->H d=some (.xd [("moment",.int v)])->Rep H (V.ref a) (Dat.dW C v)
 |fn (a:Addr):Rep H (V.ref a) (Dat.fn a)
inductive aB(H:Hp):List V->List Dat->Prop
 |nil:aB H [] []
 |cons {v:V} {d:Dat} {vs:List V} {ds:List Dat}:Rep H v d->aB H vs ds->aB H (v::vs) (d::ds)
end
theorem ai.rd{H H':Hp}(s:ai H H'){a:Addr}{u:HO}(h:Rd H a u):Rd H' a u:=by
 rcases h with h | ⟨o,h⟩
 ·exact .inl (s _ _ h)
 ·exact .inr ⟨o,s _ _ h⟩
mutual
theorem Rep.mono{H H':Hp}(s:ai H H'):∀{v:V} {d:Dat},Rep H v d->Rep H' v d
 |_,_,.non=>.non
 |_,_,.bl b=>.bl b
 |_,_,.int i=>.int i
 |_,_,.str x=>.str x
 |_,_,.tup h r=>.tup (s _ _ h) (aB.mono s r)
 |_,_,.lst h r=>.lst (ai.rd s h) (aB.mono s r)
 |_,_,.dct h e r=>.dct (s _ _ h) e (aB.mono s r)
 |_,_,.dcp h e r=>.dcp (s _ _ h) (e.mono s) (aB.mono s r)
 |_,_,.exc h=>.exc (s _ _ h)
 |_,_,.dW h k=>.dW (s _ _ h) (s _ _ k)
 |_,_,.fn a=>.fn a
theorem aB.mono{H H':Hp}(s:ai H H'):∀{vs:List V} {ds:List Dat},aB H vs ds->aB H' vs ds
 |_,_,.nil=>.nil
 |_,_,.cons h r=>.cons (Rep.mono s h) (aB.mono s r)
end
section
variable{ρ:Dm.Env}{H0 H:Hp}{d:Dat}{σ:St}{a:Addr}{x:Dm.Val}{v:V}{X:Cx}{t t':TS}{p:Addr}{e:Expr}{o:HO}
theorem aB.length{H:Hp}:∀{vs:List V} {ds:List Dat},aB H vs ds->vs.length=ds.length
 |_,_,.nil=>rfl
 |_,_,.cons _ r=>by simp[aB.length r]
theorem aB.get{H:Hp}:∀{vs:List V} {ds:List Dat} {i:Nat} {d:Dat},aB H vs ds->ds[i]?=some d->∃v,vs[i]?=some v/\Rep H v d
 |_,_,_,_,.nil,e=>by simp at e
 |_,_,0,_,.cons h _,e=>by simp at e;subst e;exact⟨_,rfl,h⟩
 |_,_,i+1,_,.cons _ r,e=>by obtain⟨v,h1,h2⟩:=aB.get (i:=i) r (by simpa using e);exact⟨v,by simpa using h1,h2⟩
theorem aB.append{H:Hp}:∀{vs ws:List V} {ds es:List Dat},aB H vs ds->aB H ws es->aB H (vs++ws) (ds++es)
 |_,_,_,_,.nil,s=>s
 |_,_,_,_,.cons h r,s=>.cons h (aB.append r s)
theorem aB.take{H:Hp}:∀{vs:List V} {ds:List Dat} (n:Nat),aB H vs ds->aB H (vs.take n) (ds.take n)
 |_,_,0,_=>by simpa using aB.nil
 |_,_,_+1,.nil=>by simpa using aB.nil
 |_,_,n+1,.cons h r=>by simpa using aB.cons h (aB.take n r)
theorem aB.drop{H:Hp}:∀{vs:List V} {ds:List Dat} (n:Nat),aB H vs ds->aB H (vs.drop n) (ds.drop n)
 |_,_,0,r=>by simpa using r
 |_,_,_+1,.nil=>by simpa using aB.nil
 |_,_,n+1,.cons _ r=>by simpa using aB.drop n r
theorem aB.set{H:Hp}(h:Rep H v d):∀{vs:List V} {ds:List Dat} (i:Nat),aB H vs ds->aB H (vs.set i v) (ds.set i d)
 |_,_,_,.nil=>.nil
 |_,_,0,.cons _ r=>.cons h r
 |_,_,i+1,.cons q r=>.cons q (aB.set h i r)
theorem aB.rep{H:Hp}{vs:List V}{ds:List Dat}(r:aB H vs ds):∀k:Nat,aB H (gV k vs).flatten (gV k ds).flatten
 |0=>by simpa using aB.nil
 |k+1=>by rw[QD,QD,Ql,Ql];exact aB.append r (aB.rep r k)
def Own(H0 H:Hp)(a:Addr):Dat->Prop
 |.lst ds=>∃xs,H a=some (.lst xs)/\aB H0 xs ds
 |.dct ks ds=>∃kvs:List (Key×V),H a=some (.dK kvs)/\kvs.map (·.1)=ks.map PX/\aB H0 (kvs.map (·.2)) ds
 |.dcp ks ds=>∃x:List (List Key×V)×List Addr,H a=some (.dT x.1 x.2)/\A1 H0 x ks/\aB H0 (x.1.map (·.2)) ds
 |_=>False
theorem Own.some(h:Own H0 H a d):∃o,H a=some o:=by
 cases d with
 |lst ds=>obtain⟨xs,e,_⟩:=h;exact⟨_,e⟩
 |dct ks ds=>obtain⟨xs,e,_⟩:=h;exact⟨_,e⟩
 |dcp ks ds=>obtain⟨xs,e,_⟩:=h;exact⟨_,e⟩
 |_=>exact Qf h
theorem Own.mono{H0 H H0' H':Hp}(h:Own H0 H a d)(s:ai H0 H0')(e:H' a=H a):Own H0' H' a d:=by
 cases d with
 |lst ds=>obtain⟨xs,q,r⟩:=h;exact⟨xs,by rw[e];exact q,r.mono s⟩
 |dct ks ds=>obtain⟨xs,q,k,r⟩:=h;exact⟨xs,by rw[e];exact q,k,r.mono s⟩
 |dcp ks ds=>obtain⟨xs,q,k,r⟩:=h;exact⟨xs,by rw[e];exact q,k.mono s,r.mono s⟩
 |_=>exact Qf h
def kH(H0 H:Hp)(v:V)(d:Dat):Prop:=Rep H0 v d\/∃a,v=V.ref a/\Own H0 H a d
inductive tH(H0 H:Hp):List V->List Dat->Prop
 |nil:tH H0 H [] []
 |cons {v:V} {d:Dat} {vs:List V} {ds:List Dat}:kH H0 H v d->tH H0 H vs ds->tH H0 H (v::vs) (d::ds)
noncomputable def shr(H0 H:Hp)(a:Addr):Hp:=fun b=>if b=a then H a else H0 b
theorem cN:shr H0 H a a=H a:=by unfold shr;rw[if_pos rfl]
theorem iG{a b:Addr}(h:b≠a):shr H0 H a b=H0 b:=by unfold shr;rw[if_neg h]
theorem eW(h:H0 a=none):ai H0 (shr H0 H a):=fun b o e=>by
 by_cases q:b=a
 ·subst q;rw[h]at e;cases e
 ·rw[iG q];exact e
theorem xK(s:ai H0 H):ai (shr H0 H a) H:=fun b o e=>by
 by_cases q:b=a
 ·subst q;rw[cN]at e;exact e
 ·rw[iG q]at e;exact s _ _ e
theorem Own.rep(h:Own H0 H a d)(n:H0 a=none):Rep (shr H0 H a) (V.ref a) d:=by
 cases d with
 |lst ds=>obtain⟨xs,q,r⟩:=h;exact .lst (.inl (by rw[cN];exact q)) (r.mono (eW n))
 |dct ks ds=>obtain⟨xs,q,k,r⟩:=h;exact .dct (by rw[cN];exact q) k (r.mono (eW n))
 |dcp ks ds=>obtain⟨xs,q,k,r⟩:=h;exact .dcp (by rw[cN];exact q) (k.mono (eW n)) (r.mono (eW n))
 |_=>exact Qf h
def ah(σ:St)(ρ:Dm.Env)(a:Addr):Prop:=∃(i:Nat) (d:Dat),ρ[i]?=some (Dm.Cell.ow d)/\σ[i]?=some (some (V.ref a))
noncomputable abbrev Def(_:Dm.Env)(_:Nat):Prop:=True
structure av(H0 H:Hp)(σ:St)(ρ:Dm.Env):Prop where
 same:ai H0 H
 len:σ.length=ρ.length
 sh:∀(i:Nat) (d:Dat),ρ[i]?=some (Dm.Cell.sh d)->∃v,σ[i]?=some (some v)/\Rep H0 v d
 ow:∀(i:Nat) (d:Dat),ρ[i]?=some (Dm.Cell.ow d)->∃a,σ[i]?=some (some (V.ref a))/\H0 a=none/\Own H0 H a d
 dis:∀(i j:Nat) (d e:Dat) (a:Addr),ρ[i]?=some (Dm.Cell.ow d)->ρ[j]?=some (Dm.Cell.ow e)->σ[i]?=some (some (V.ref a))->σ[j]?=some (some (V.ref a))->i=j
structure Stp(O:Addr->Prop)(H0 H H0' H':Hp):Prop where
 s0:ai H0 H0'
 s1:∀a o,H a=some o->¬O a->H' a=some o
 s2:∀a o,H0' a=some o->H a=none\/H0 a=some o\/O a
 s3:∀a o,H a=some o->∃o',H' a=some o'
theorem Stp.refl(O:Addr->Prop)(H0 H:Hp):Stp O H0 H H0 H:=⟨ai.refl _,fun _ _ e _=>e,fun _ _ e=>.inr (.inl e),fun _ o e=>⟨o,e⟩⟩
theorem Stp.gone{O:Addr->Prop}{H0 H H0' H':Hp}(t:Stp O H0 H H0' H')(h:H' a=none):H a=none:=by
 cases q:H a with
 |none=>rfl
 |some o=>obtain⟨o',e⟩:=t.s3 a o q;rw[h]at e;cases e
theorem Stp.trans{O1 O2:Addr->Prop}{H0 H H1 H' H2 H'':Hp}(t:Stp O1 H0 H H1 H')(u:Stp O2 H1 H' H2 H'')(k:∀a,O2 a->O1 a\/H a=none):Stp O1 H0 H H2 H'' where
 s0:=t.s0.trans u.s0
 s1:=fun a o e n=>u.s1 a o (t.s1 a o e n) fun z=>(k a z).elim n fun q=>by rw[q]at e;cases e
 s2:=fun a o e=>by
  rcases u.s2 a o e with q | q | q
  ·exact .inl (t.gone q)
  ·exact t.s2 a o q
  ·rcases k a q with z | z
   ·exact .inr (.inr z)
   ·exact .inl z
 s3:=fun a o e=>by obtain⟨o',e'⟩:=t.s3 a o e;exact u.s3 a o' e'
theorem Stp.wide{O O':Addr->Prop}{H0 H H0' H':Hp}(t:Stp O H0 H H0' H')(k:∀a,O a->O' a):Stp O' H0 H H0' H':=
 ⟨t.s0,fun a o e n=>t.s1 a o e fun z=>n (k a z),fun a o e=>(t.s2 a o e).imp id (Or.imp id (k a)),t.s3⟩
structure aI(H0 H H0' H':Hp):Prop where
 s0:ai H0 H0'
 s1:ai H H'
 s2:∀a o,H0' a=some o->H a=none\/H0 a=some o
 s3:ai H0' H'
theorem aI.refl(s:ai H0 H):aI H0 H H0 H:=⟨ai.refl _,ai.refl _,fun _ _ e=>.inr e,s⟩
theorem aI.stp{H0 H H0' H':Hp}(g:aI H0 H H0' H')(O:Addr->Prop):Stp O H0 H H0' H':=
 ⟨g.s0,fun a o e _=>g.s1 a o e,fun a o e=>(g.s2 a o e).imp id .inl,fun a o e=>⟨o,g.s1 a o e⟩⟩
theorem aI.trans{H0 H H1 H' H2 H'':Hp}(t:aI H0 H H1 H')(u:aI H1 H' H2 H''):aI H0 H H2 H'' where
 s0:=t.s0.trans u.s0
 s1:=t.s1.trans u.s1
 s2:=fun a o e=>by
  rcases u.s2 a o e with q | q
  ·exact .inl (t.s1.free q)
  ·exact t.s2 a o q
 s3:=u.s3
theorem aI.A2(s:ai H0 H)(n:H p=none):aI H0 H (upd H0 p o) (upd H p o) where
 s0:=fun b u e=>by rw[ak (aG e (s.free n))];exact e
 s1:=fun b u e=>by rw[ak (aG e n)];exact e
 s2:=fun b u e=>by
  by_cases q:b=p
  ·subst q;exact .inl n
  ·rw[ak q]at e;exact .inr e
 s3:=fun b u e=>by
  by_cases q:b=p
  ·subst q;rw[au]at e ⊢;exact e
  ·rw[ak q]at e ⊢;exact s _ _ e
theorem aI.mh(s:ai H0 H)(n:H p=none):aI H0 H H0 (upd H p o) where
 s0:=ai.refl _
 s1:=fun b u e=>by rw[ak (aG e n)];exact e
 s2:=fun b u e=>.inr e
 s3:=fun b u e=>by rw[ak (aG (s _ _ e) n)];exact s _ _ e
def gv(Hs H0 H:Hp)(σ:St)(ρ:Dm.Env)(v:V):Dm.Val->Prop
 |.val d=>Rep H0 v d
 |.slot i=>σ[i]?=some (some v)/\Def ρ i
 |.new d=>∃a,v=V.ref a/\Hs a=none/\¬ah σ ρ a/\H0 a=none/\Own H0 H a d
structure ESt(σ:St)(ρ:Dm.Env)(H0 H:Hp)(ρ':Dm.Env)(H0' H':Hp):Prop where
 st:av H0' H' σ ρ'
 stp:Stp (ah σ ρ) H0 H H0' H'
 own:∀a,ah σ ρ' a->ah σ ρ a
 dfn:∀i,Def ρ i->Def ρ' i
theorem ESt.refl(st:av H0 H σ ρ):ESt σ ρ H0 H ρ H0 H:=⟨st,Stp.refl _ _ _,fun _ z=>z,fun _ z=>z⟩
theorem ESt.trans{ρ ρ1 ρ2:Dm.Env}{H0 H H1 H' H2 H'':Hp}(t:ESt σ ρ H0 H ρ1 H1 H')(u:ESt σ ρ1 H1 H' ρ2 H2 H''):ESt σ ρ H0 H ρ2 H2 H'':=
 ⟨u.st,t.stp.trans u.stp fun a z=>.inl (t.own a z),fun a z=>t.own a (u.own a z),fun i z=>u.dfn i (t.dfn i z)⟩
theorem av.grow{H0 H H0' H':Hp}(st:av H0 H σ ρ)(g:aI H0 H H0' H'):av H0' H' σ ρ where
 same:=g.s3
 len:=st.len
 sh:=fun i d e=>by obtain⟨v,q,r⟩:=st.sh i d e;exact⟨v,q,r.mono g.s0⟩
 ow:=fun i d e=>by
  obtain⟨a,q,n,w⟩:=st.ow i d e;obtain⟨o,z⟩:=w.some;refine⟨a,q,?_,w.mono g.s0 ((g.s1 a o z).trans z.symm)⟩;cases y:H0' a with
  |none=>rfl
  |some u=>
   rcases g.s2 a u y with k | k
   ·rw[z]at k;cases k
   ·rw[n]at k;cases k
 dis:=st.dis
theorem ESt.grow{H0 H H0' H':Hp}(st:av H0 H σ ρ)(g:aI H0 H H0' H'):ESt σ ρ H0 H ρ H0' H':=
 ⟨st.grow g,g.stp _,fun _ z=>z,fun _ z=>z⟩
theorem gv.mono{Hs H0 H H0' H':Hp}{ρ ρ':Dm.Env}(r:gv Hs H0 H σ ρ v x)(t:ESt σ ρ H0 H ρ' H0' H'):gv Hs H0' H' σ ρ' v x:=by
 cases x with
 |val d=>exact Rep.mono t.stp.s0 r
 |slot i=>exact⟨r.1,t.dfn i r.2⟩
 |new d=>
  obtain⟨a,e,n,no,n0,w⟩:=r;obtain⟨o,z⟩:=w.some;refine⟨a,e,n,fun y=>no (t.own a y),?_,w.mono t.stp.s0 ((t.stp.s1 a o z no).trans z.symm)⟩;cases y:H0' a with
  |none=>rfl
  |some u=>
   rcases t.stp.s2 a u y with k | k | k
   ·rw[z]at k;cases k
   ·rw[n0]at k;cases k
   ·exact absurd k no
theorem gv.early{Hs Hs' H0 H:Hp}(r:gv Hs H0 H σ ρ v x)(k:∀a,Hs a=none->Hs' a=none):gv Hs' H0 H σ ρ v x:=by
 cases x with
 |val d=>exact r
 |slot i=>exact r
 |new d=>obtain⟨a,e,n,z⟩:=r;exact⟨a,e,k a n,z⟩
theorem gv.look{Hs H0 H:Hp}(r:gv Hs H0 H σ ρ v x)(st:av H0 H σ ρ)(e:Dm.pk ρ x=some d):kH H0 H v d:=by
 cases x with
 |val d'=>cases e;exact .inl r
 |new d'=>cases e;obtain⟨a,e,_,_,_,w⟩:=r;exact .inr ⟨a,e,w⟩
 |slot i=>
  obtain⟨q,_⟩:=r;unfold Dm.pk at e;dsimp only at e;split at e
  ·rename_i d' h;cases e;obtain⟨a,z,_,w⟩:=st.ow i d h;rw[q]at z;cases z;exact .inr ⟨a,rfl,w⟩
  ·rename_i d' h;cases e;obtain⟨u,z,w⟩:=st.sh i d h;rw[q]at z;cases z;exact .inl w
  ·cases e
def tK(Hs H0 H:Hp)(v:V):RV->Prop
 |.val d=>Rep H0 v d
 |.new d=>∃a,v=V.ref a/\Hs a=none/\H0 a=none/\Own H0 H a d
theorem tK.toV{H H0' H' H0:Hp}{z:RV}(r:tK H H0' H' v z)(st:av H0 H σ ρ):gv H H0' H' σ ρ v z.bG:=by
 cases z with
 |val d=>exact r
 |new d=>obtain⟨a,e,n,n0,w⟩:=r;refine⟨a,e,n,fun⟨i,d',h1,h2⟩=>?_,n0,w⟩;obtain⟨a',q,_,w'⟩:=st.ow i d' h1;rw[h2]at q;cases q;obtain⟨o,z⟩:=w'.some;rw[n]at z;cases z
def tD(f:FE):TE:=fun σ H Q=>∃H0 ρ x ρ',av H0 H σ ρ/\f ρ=some (x,ρ')/\∀v H0' H',ESt σ ρ H0 H ρ' H0' H'->gv H H0' H' σ ρ' v x->Q v H'
def tDT(f:FT):TT:=fun σ H Q=>∃H0 ρ b ρ',av H0 H σ ρ/\f ρ=some (b,ρ')/\∀H0' H',ESt σ ρ H0 H ρ' H0' H'->Q b H'
inductive c_(Hs H0 H:Hp)(σ:St)(ρ:Dm.Env):List V->List Dm.Val->Prop
 |nil:c_ Hs H0 H σ ρ [] []
 |cons {v:V} {x:Dm.Val} {vs:List V} {xs:List Dm.Val}:gv Hs H0 H σ ρ v x->c_ Hs H0 H σ ρ vs xs->c_ Hs H0 H σ ρ (v::vs) (x::xs)
def tDA(fs:List FE):TA:=fun σ H Q=>∃H0 ρ xs ρ',av H0 H σ ρ/\Dm.eAs fs ρ=some (xs,ρ')/\∀vs H0' H',ESt σ ρ H0 H ρ' H0' H'->c_ H H0' H' σ ρ' vs xs->Q vs H'
noncomputable abbrev DE(X:Cx)(e:Expr)(f:FE):Prop:=PE X e (tD f)
noncomputable abbrev DT(X:Cx)(e:Expr)(f:FT):Prop:=PT X e (tDT f)
noncomputable abbrev DA(X:Cx)(es:List Expr)(fs:List FE):Prop:=PA X es (tDA fs)
theorem PE.weak{t t':TE}(h:PE X e t)(k:∀σ H Q,t' σ H Q->t σ H Q):PE X e t':=fun jV s σ H Q I q=>h jV s σ H Q I (k σ H Q q)
theorem PT.weak{t t':TT}(h:PT X e t)(k:∀σ H Q,t' σ H Q->t σ H Q):PT X e t':=fun jV s σ H Q I q=>h jV s σ H Q I (k σ H Q q)
theorem PA.weak{es:List Expr}{t t':TA}(h:PA X es t)(k:∀σ H Q,t' σ H Q->t σ H Q):PA X es t':=fun pos jV s σ H Q I q=>h pos jV s σ H Q I (k σ H Q q)
theorem PS.weak{st:Stmt}(h:PS X st t)(k:∀D σ H,t' D σ H->t D σ H):PS X st t':=fun jV s σ H D I q=>h jV s σ H D I (k D σ H q)
theorem PSs.weak{st:List Stmt}(h:PSs X st t)(k:∀D σ H,t' D σ H->t D σ H):PSs X st t':=fun jV s σ H D I q=>h jV s σ H D I (k D σ H q)
theorem b4(s:ai H0 H):ai H0 (shr H0 H a):=fun b o e=>by
 by_cases q:b=a
 ·subst q;rw[cN];exact s _ _ e
 ·rw[iG q];exact e
theorem Own.LG{H0 H0c H:Hp}(h:Own H0 H a d)(b:ai H0 H0c)(s:ai H0c H):Rep (shr H0c H a) (V.ref a) d:=by
 cases d with
 |lst ds=>obtain⟨xs,q,r⟩:=h;exact .lst (.inl (by rw[cN];exact q)) (r.mono (b.trans (b4 s)))
 |dct ks ds=>obtain⟨xs,q,k,r⟩:=h;exact .dct (by rw[cN];exact q) k (r.mono (b.trans (b4 s)))
 |dcp ks ds=>obtain⟨xs,q,k,r⟩:=h;exact .dcp (by rw[cN];exact q) (k.mono (b.trans (b4 s))) (r.mono (b.trans (b4 s)))
 |_=>exact Qf h
theorem gv.rho{Hs H0 H:Hp}{ρ ρ':Dm.Env}(r:gv Hs H0 H σ ρ v x)(o:∀a,ah σ ρ' a->ah σ ρ a)(d:∀i,Def ρ i->Def ρ' i):gv Hs H0 H σ ρ' v x:=by
 cases x with
 |val d=>exact r
 |slot i=>exact⟨r.1,d i r.2⟩
 |new d=>obtain⟨a,e,n,no,z⟩:=r;exact⟨a,e,n,fun y=>no (o a y),z⟩
theorem c_.rho{Hs H0 H:Hp}{ρ ρ':Dm.Env}(o:∀a,ah σ ρ' a->ah σ ρ a)(d:∀i,Def ρ i->Def ρ' i):∀{vs:List V} {xs:List Dm.Val},c_ Hs H0 H σ ρ vs xs->c_ Hs H0 H σ ρ' vs xs
 |_,_,.nil=>.nil
 |_,_,.cons h r=>.cons (h.rho o d) (c_.rho o d r)
theorem c_.early{Hs Hs' H0 H:Hp}(k:∀a,Hs a=none->Hs' a=none):∀{vs:List V} {xs:List Dm.Val},c_ Hs H0 H σ ρ vs xs->c_ Hs' H0 H σ ρ vs xs
 |_,_,.nil=>.nil
 |_,_,.cons h r=>.cons (h.early k) (c_.early k r)
theorem aJ{i j:Nat}{c d:Dm.Cell}(h:(ρ.set i c)[j]?=some d):(j=i/\d=c)\/(j≠i/\ρ[j]?=some d):=by
 by_cases e:j=i
 ·subst e;by_cases l:j<ρ.length
  ·rw[PM l]at h;exact .inl ⟨rfl,(Option.some.inj h).symm⟩
  ·rw[Qh (by simpa using Q3.mp l)]at h;cases h
 ·rw[Dk (Ne.symm e)]at h;exact .inr ⟨e,h⟩
theorem vQ{i:Nat}(st:av H0 H σ ρ)(e:ρ[i]?=some (.ow d))(q:σ[i]?=some (some (V.ref a))) :
  av (shr H0 H a) H σ (ρ.set i (.sh d))/\(∀b,ah σ (ρ.set i (.sh d)) b->ah σ ρ b)/\∀j,Def ρ j->Def (ρ.set i (.sh d)) j:=by
 obtain⟨a',q',n,w⟩:=st.ow i d e;rw[q]at q';cases q';have hil:i<ρ.length:=(Ph.mp e).1;refine⟨⟨xK st.same,by rw[P4];exact st.len,fun j d' h=>?_,fun j d' h=>?_,fun j k d1 d2 b h1 h2 h3 h4=>?_⟩,fun b ⟨j,d',h1,h2⟩=>?_,fun j h=>?_⟩
 ·rcases aJ h with⟨rfl,z⟩ | ⟨_,h⟩
  ·cases z;exact⟨_,q,w.rep n⟩
  ·obtain⟨v,z,r⟩:=st.sh j d' h;exact⟨v,z,r.mono (eW n)⟩
 ·rcases aJ h with⟨_,z⟩ | ⟨hj,h⟩
  ·cases z
  ·obtain⟨b,z,n',w'⟩:=st.ow j d' h;have nb:b≠a:=fun y=>hj (st.dis j i d' d a h e (y▸z) q);exact⟨b,z,by rw[iG nb];exact n',w'.mono (eW n) rfl⟩
 ·rcases aJ h1 with⟨_,z⟩ | ⟨_,h1⟩
  ·cases z
  ·rcases aJ h2 with⟨_,z⟩ | ⟨_,h2⟩
   ·cases z
   ·exact st.dis j k d1 d2 b h1 h2 h3 h4
 ·rcases aJ h1 with⟨_,z⟩ | ⟨_,h1⟩
  ·cases z
  ·exact⟨j,d',h1,h2⟩
 ·trivial
theorem zo(st:av H0 H σ ρ)(no:¬ah σ ρ a):av (shr H0 H a) H σ ρ where
 same:=xK st.same
 len:=st.len
 sh:=fun j d h=>by obtain⟨v,z,r⟩:=st.sh j d h;exact⟨v,z,r.mono (b4 st.same)⟩
 ow:=fun j d h=>by obtain⟨b,z,n',w'⟩:=st.ow j d h;have nb:b≠a:=fun y=>no ⟨j,d,h,y▸z⟩;exact⟨b,z,by rw[iG nb];exact n',w'.mono (b4 st.same) rfl⟩
 dis:=st.dis
theorem take1{Hs H0s H0 H0c H:Hp}{ρs ρ ρ':Dm.Env}(t:ESt σ ρs H0s Hs ρ H0c H)(b:ai H0 H0c)(r:gv Hs H0 H σ ρ v x)(e:Dm.tk ρ x=some (d,ρ')) :
  ∃mY,ESt σ ρs H0s Hs ρ' mY H/\ai H0c mY/\Rep mY v d/\(∀a,ah σ ρ' a->ah σ ρ a)/\∀i,Def ρ i->Def ρ' i:=by
 cases x with
 |val d'=>cases e;exact⟨H0c,t,ai.refl _,Rep.mono b r,fun _ z=>z,fun _ z=>z⟩
 |new d'=>
  cases e;obtain⟨a,e,n,no,n0,w⟩:=r;subst e;have ss:=b4 (a:=a) t.st.same;refine⟨shr H0c H a,⟨zo t.st no,⟨t.stp.s0.trans ss,t.stp.s1,fun c o q=>?_,t.stp.s3⟩,t.own,t.dfn⟩,ss,w.LG b t.st.same,fun _ z=>z,fun _ z=>z⟩;by_cases y:c=a
  ·subst y;exact .inl n
  ·rw[iG y]at q;exact t.stp.s2 c o q
 |slot i=>
  obtain⟨q,_⟩:=r;unfold Dm.tk at e;dsimp only at e;split at e
  ·rename_i d' h;cases e;obtain⟨a,z,n,w⟩:=t.st.ow i _ h;rw[q]at z;cases z;obtain⟨s1,s2,s3⟩:=vQ t.st h q;have ss:=b4 (a:=a) t.st.same;refine⟨shr H0c H a,⟨s1,⟨t.stp.s0.trans ss,t.stp.s1,fun c o q'=>?_,t.stp.s3⟩,fun b z=>t.own b (s2 b z),fun j z=>s3 j (t.dfn j z)⟩,ss,w.LG (ai.refl _) t.st.same,s2,s3⟩;by_cases y:c=a
   ·subst y;exact .inr (.inr (t.own c ⟨i,_,h,q⟩))
   ·rw[iG y]at q';exact t.stp.s2 c o q'
  ·rename_i d' h;cases e;obtain⟨u,z,w⟩:=t.st.sh i _ h;rw[q]at z;cases z;exact⟨H0c,t,ai.refl _,w,fun _ z=>z,fun _ z=>z⟩
  ·cases e
theorem takes{Hs H0s H0 H:Hp}{ρs:Dm.Env}:∀{xs:List Dm.Val} {vs:List V} {ρ ρ':Dm.Env} {ds:List Dat} {H0c:Hp},ESt σ ρs H0s Hs ρ H0c H->ai H0 H0c->c_ Hs H0 H σ ρ vs xs->Dm.tks ρ xs=some (ds,ρ') ->
  ∃mY,ESt σ ρs H0s Hs ρ' mY H/\ai H0c mY/\aB mY vs ds
 |[],_,ρ,ρ',ds,H0c,t,b,r,e=>by cases r;cases e;exact⟨H0c,t,ai.refl _,.nil⟩
 |x::xs,_,ρ,ρ',ds,H0c,t,b,r,e=>by
  cases r with
  |cons h r=>
   unfold Dm.tks at e;split at e
   ·cases e
   ·rename_i d ρ1 e1;split at e
    ·cases e
    ·rename_i ds' ρ2 e2;cases e;obtain⟨H1,t1,b1,r1,o1,d1⟩:=take1 t b h e1;obtain⟨H2,t2,b2,r2⟩:=takes t1 (b.trans b1) (r.rho o1 d1) e2;exact⟨H2,t2,b1.trans b2,.cons (r1.mono b2) r2⟩
theorem LH{ρ ρ':Dm.Env}(e:Dm.tk ρ x=some (d,ρ'))(y:Dm.Val):Dm.pk ρ' y=Dm.pk ρ y:=by
 cases x with
 |val d'=>cases e;rfl
 |new d'=>cases e;rfl
 |slot i=>
  unfold Dm.tk at e;dsimp only at e;split at e
  ·rename_i d' h;cases e;cases y with
   |val _=>rfl
   |new _=>rfl
   |slot j=>
    unfold Dm.pk;dsimp only;by_cases z:j=i
    ·subst z;rw[PM (Ph.mp h).1,h]
    ·rw[Dk (Ne.symm z)]
  ·cases e;rfl
  ·cases e
theorem A3(e:Dm.pk ρ x=some d):∃ρ',Dm.tk ρ x=some (d,ρ'):=by
 cases x with
 |val d'=>cases e;exact⟨ρ,rfl⟩
 |new d'=>cases e;exact⟨ρ,rfl⟩
 |slot i=>
  unfold Dm.pk at e;dsimp only at e;unfold Dm.tk;dsimp only;split at e
  ·rename_i d' h;cases e;exact⟨_,rfl⟩
  ·rename_i d' h;cases e;exact⟨_,rfl⟩
  ·cases e
theorem mZ:∀{xs:List Dm.Val} {ρ:Dm.Env} {ds:List Dat},Dm.pks ρ xs=some ds->∃ρ',Dm.tks ρ xs=some (ds,ρ')
 |[],ρ,ds,e=>by cases e;exact⟨ρ,rfl⟩
 |x::xs,ρ,ds,e=>by
  unfold Dm.pks at e;split at e
  ·cases e
  ·rename_i d e1;split at e
   ·cases e
   ·rename_i ds' e2;cases e;obtain⟨ρ1,h1⟩:=A3 e1;have key:∀ys:List Dm.Val,Dm.pks ρ1 ys=Dm.pks ρ ys:=fun ys=>by
     induction ys with
     |nil=>rfl
     |cons y ys ih=>unfold Dm.pks;rw[LH h1 y,ih]
    obtain⟨ρ2,h2⟩:=mZ (xs:=xs) (ρ:=ρ1) (ds:=ds') (by rw[key];exact e2);exact⟨ρ2,by unfold Dm.tks;rw[h1];dsimp only;rw[h2]⟩
theorem looks{Hs H0 H:Hp}(st:av H0 H σ ρ):∀{xs:List Dm.Val} {vs:List V} {ds:List Dat},c_ Hs H0 H σ ρ vs xs->Dm.pks ρ xs=some ds->tH H0 H vs ds
 |[],_,ds,r,e=>by cases r;cases e;exact .nil
 |x::xs,_,ds,r,e=>by
  cases r with
  |cons h r=>
   unfold Dm.pks at e;split at e
   ·cases e
   ·rename_i d e1;split at e
    ·cases e
    ·rename_i ds' e2;cases e;exact .cons (h.look st e1) (looks st r e2)
def OpD(r:R2)(g:Dat->Dat->Option RV):Prop:=∀(H0 H:Hp) (x y:V) (dx dy:Dat) (z:RV) (Q:VK),ai H0 H->kH H0 H x dx->kH H0 H y dy->g dx dy=some z ->
 (∀v H0' H',aI H0 H H0' H'->tK H H0' H' v z->Q v H')->r x y H Q
def UnD(r:V->Hp->VK->Prop)(g:Dat->Option RV):Prop:=∀(H0 H:Hp) (x:V) (dx:Dat) (z:RV) (Q:VK),ai H0 H->kH H0 H x dx->g dx=some z ->
 (∀v H0' H',aI H0 H H0' H'->tK H H0' H' v z->Q v H')->r x H Q
def CallD(r:List V->Hp->VK->Prop)(g:List Dat->Option RV):Prop:=∀(H0 H:Hp) (vs:List V) (ds:List Dat) (z:RV) (Q:VK),ai H0 H->tH H0 H vs ds->g ds=some z ->
 (∀v H0' H',aI H0 H H0' H'->tK H H0' H' v z->Q v H')->r vs H Q
def spD(f:List Dat->Option RV):Sp:=fun vs H Q _=>∃H0 ds z,ai H0 H/\aB H0 vs ds/\f ds=some z/\∀v H0' H',aI H0 H H0' H'->tK H H0' H' v z->Q v H'
end
section
variable{σ:St}{H:Hp}{Q:VK}
section
variable{fs:List FE}{d:Dat}{t u:FT}{v:V}{a:FE}{H0:Hp}
theorem LI{i:Nat}(h:tD (Dm.eV i) σ H Q):eO i σ H Q:=by
 obtain⟨H0,ρ,x,ρ',st,e,k⟩:=h;unfold Dm.eV at e;split at e
 ·rename_i d h1;cases e;obtain⟨v,q,r⟩:=st.sh i d h1;exact⟨v,q,k v H0 H (.refl st) r⟩
 ·rename_i d h1;cases e;obtain⟨a,q,_⟩:=st.ow i d h1;exact⟨_,q,k _ H0 H (.refl st) ⟨q,trivial⟩⟩
 ·cases e
theorem mC(c:∀H0:Hp,Rep H0 v d)(h:tD (Dm.eC d) σ H Q):tC v σ H Q:=by obtain⟨H0,ρ,x,ρ',st,e,k⟩:=h;cases e;exact k v H0 H (.refl st) (c H0)
theorem vR{r:R2}{g:Dat->Dat->Option RV}{fa fb:FE}(o:OpD r g)(h:tD (Dm.e2 g fa fb) σ H Q):tOp r (tD fa) (tD fb) σ H Q:=by
 obtain⟨H0,ρ,x,ρ',st,e,k⟩:=h;unfold Dm.e2 at e;split at e
 ·cases e
 rename_i x1 ρ1 e1;split at e
 ·cases e
 rename_i y1 ρ2 e2;split at e
 ·cases e
 rename_i dx p1;split at e
 ·cases e
 rename_i dy p2;split at e
 ·cases e
 rename_i z gz;cases e;refine⟨H0,ρ,x1,ρ1,st,e1,fun v H1 Hb t1 r1=>⟨H1,ρ1,y1,_,t1.st,e2,fun u H2 Hc t2 r2=>?_⟩⟩;refine o H2 Hc v u dx dy z Q t2.st.same ((r1.mono t2).look t2.st p1) (r2.look t2.st p2) gz fun w H3 Hd g3 r3=>?_;exact k w H3 Hd (t1.trans (t2.trans (.grow t2.st g3))) ((r3.toV t2.st).early fun a n=>(t1.trans t2).stp.gone n)
theorem Oa{r:V->Hp->VK->Prop}{g:Dat->Option RV}{fa:FE}(o:UnD r g)(h:tD (Dm.e1 g fa) σ H Q):tUn r (tD fa) σ H Q:=by
 obtain⟨H0,ρ,x,ρ',st,e,k⟩:=h;unfold Dm.e1 at e;split at e
 ·cases e
 rename_i x1 ρ1 e1;split at e
 ·cases e
 rename_i dx p1;split at e
 ·cases e
 rename_i z gz;cases e;refine⟨H0,ρ,x1,_,st,e1,fun v H1 Hb t1 r1=>?_⟩;refine o H1 Hb v dx z Q t1.st.same (r1.look t1.st p1) gz fun w H3 Hd g3 r3=>?_;exact k w H3 Hd (t1.trans (.grow t1.st g3)) ((r3.toV t1.st).early fun a n=>t1.stp.gone n)
theorem LJ{Q:List V->Hp->Prop}(h:tDA [] σ H Q):pF σ H Q:=by obtain⟨H0,ρ,xs,ρ',st,e,k⟩:=h;cases e;exact k [] H0 H (.refl st) .nil
theorem IW{f:FE}{Q:List V->Hp->Prop}(h:tDA (f::fs) σ H Q):jA (tD f) (tDA fs) σ H Q:=by
 obtain⟨H0,ρ,xs,ρ',st,e,k⟩:=h;unfold Dm.eAs at e;split at e
 ·cases e
 rename_i x1 ρ1 e1;split at e
 ·cases e
 rename_i xs1 ρ2 e2;cases e;refine⟨H0,ρ,x1,ρ1,st,e1,fun v H1 Hb t1 r1=>⟨H1,ρ1,xs1,_,t1.st,e2,fun vs H2 Hc t2 r2=>?_⟩⟩;exact k (v::vs) H2 Hc (t1.trans t2) (.cons (r1.mono t2) (r2.early fun a n=>t1.stp.gone n))
theorem LK{r:List V->Hp->VK->Prop}{g:List Dat->Option RV}(o:CallD r g)(h:tD (Dm.eB g fs) σ H Q):tCB r (tDA fs) σ H Q:=by
 obtain⟨H0,ρ,x,ρ',st,e,k⟩:=h;unfold Dm.eB at e;split at e
 ·cases e
 rename_i xs ρ1 e1;split at e
 ·cases e
 rename_i ds p1;split at e
 ·cases e
 rename_i z gz;cases e;refine⟨H0,ρ,xs,_,st,e1,fun vs H1 Hb t1 r1=>?_⟩;refine o H1 Hb vs ds z Q t1.st.same (looks t1.st r1 p1) gz fun w H3 Hd g3 r3=>?_;exact k w H3 Hd (t1.trans (.grow t1.st g3)) ((r3.toV t1.st).early fun a n=>t1.stp.gone n)
theorem jK{n:Nat}(h:n<=Dm.SZ):n<=sizeLine:=PL h (by decide)
theorem LL(h:tD (Dm.pI fs) σ H Q):IE (tDA fs) σ H Q:=by
 obtain⟨H0,ρ,x,ρ',st,e,k⟩:=h;unfold Dm.pI at e;split at e
 ·cases e
 rename_i xs ρ1 e1;split at e
 ·cases e
 rename_i ds ρ2 e2;split at e
 ·rename_i hz;cases e;refine⟨H0,ρ,xs,ρ1,st,e1,fun vs H1 Hb t1 r1=>?_⟩;obtain⟨H2,t2,b2,r2⟩:=takes t1 (ai.refl _) r1 e2;refine⟨by rw[r2.length];exact jK hz,fun p hp=>?_⟩;have g:=aI.A2 (o:=HO.tup vs) t2.st.same hp;exact k _ _ _ (t2.trans (.grow t2.st g)) (.tup au (r2.mono g.s0))
 ·cases e
theorem LM(h:tD (Dm.cT fs) σ H Q):Az (tDA fs) σ H Q:=by
 obtain⟨H0,ρ,x,ρ',st,e,k⟩:=h;unfold Dm.cT at e;split at e
 ·cases e
 rename_i xs ρ1 e1;split at e
 ·cases e
 rename_i ds ρ2 e2;split at e
 ·rename_i hz;cases e;refine⟨H0,ρ,xs,ρ1,st,e1,fun vs H1 Hb t1 r1=>?_⟩;obtain⟨H2,t2,b2,r2⟩:=takes t1 (ai.refl _) r1 e2;refine⟨by rw[r2.length];exact jK hz,fun p hp=>?_⟩;have g:=aI.mh (o:=HO.lst vs) t2.st.same hp;refine k _ _ _ (t2.trans (.grow t2.st g)) ⟨p,rfl,t2.stp.gone hp,fun⟨i,d,h1,h2⟩=>?_,t2.st.same.free hp,vs,au,r2⟩;obtain⟨a,q,_,w⟩:=t2.st.ow i d h1;rw[h2]at q;cases q;obtain⟨o,z⟩:=w.some;rw[hp]at z;cases z
 ·cases e
theorem Rep.plain{H0 H1:Hp}(r:Rep H0 v d)(n:Dm.cZ d=false):Rep H1 v d:=by
 cases r with
 |non=>exact .non
 |bl b=>exact .bl b
 |int i=>exact .int i
 |str s=>exact .str s
 |tup _ _=>cases n
 |lst _ _=>cases n
 |dct _ _ _=>cases n
 |dcp _ _ _=>cases n
 |exc _=>cases n
 |dW _ _=>cases n
 |fn a=>exact .fn a
theorem Own.box{H0 H:Hp}{a:Addr}(w:Own H0 H a d):Dm.cZ d=true:=by
 cases d with
 |lst ds=>rfl
 |dct ks ds=>rfl
 |dcp ks ds=>rfl
 |_=>exact Qf w
theorem A4{f:List Dat->Option RV}{E:XK}(h:tD (Dm.eF f fs) σ H Q):gk (spD f) [] E (tDA fs) σ H Q:=by
 obtain⟨H0,ρ,x,ρ',st,e,k⟩:=h;unfold Dm.eF at e;split at e
 ·cases e
 rename_i xs ρ1 e1;split at e
 ·cases e
 rename_i ds p1;split at e
 ·cases e
 rename_i z fz;refine⟨H0,ρ,xs,ρ1,st,e1,fun vs H1 Hb t1 r1=>?_⟩;dsimp only;rw[Qe];obtain⟨ρ2,e2⟩:=mZ p1;obtain⟨H2,t2,b2,r2⟩:=takes t1 (ai.refl _) r1 e2;split at e
 ·rw[e2]at e;cases e;exact⟨H2,ds,z,t2.st.same,r2,fz,fun w H3 Hd g3 r3=>k w H3 Hd (t2.trans (.grow t2.st g3)) ((r3.toV t2.st).early fun a n=>t2.stp.gone n)⟩
 ·rename_i nb;cases e;refine⟨H2,ds,z,t2.st.same,r2,fz,fun w H3 Hd g3 r3=>?_⟩;have g:aI H1 Hb H1 Hd:=⟨ai.refl _,g3.s1,fun a o q=>.inr q,t1.st.same.trans g3.s1⟩
  refine k w H1 Hd (t1.trans (.grow t1.st g)) ?_;cases z with
  |val d=>exact Rep.plain r3 (by simpa [RV.dat] using nb)
  |new d=>obtain⟨a,_,_,_,w⟩:=r3;exact absurd w.box (by simpa [RV.dat] using nb)
theorem Rep.rC{c:Bool}(r:Rep H0 v (.bl c)):v=.bl c:=by cases r;rfl
theorem Rep.isInt{c:Int}(r:Rep H0 v (.int c)):v=.int c:=by cases r;rfl
theorem LN{a b:FE}(h:tD (Dm.kD a b) σ H Q):GB (tD a) (tD b) σ H Q:=by
 obtain⟨H0,ρ,x,ρ',st,e,k⟩:=h;unfold Dm.kD at e;split at e
 ·rename_i ρ1 e1;refine⟨H0,ρ,_,_,st,e1,fun v H1 Hb t1 r1=>⟨true,Rep.rC r1,?_⟩⟩
  try dsimp only
  rw[if_pos rfl];exact⟨H1,ρ1,x,ρ',t1.st,e,fun v H2 Hc t2 r2=>k v H2 Hc (t1.trans t2) (r2.early fun a n=>t1.stp.gone n)⟩
 ·rename_i ρ1 e1;cases e;refine⟨H0,ρ,_,_,st,e1,fun v H1 Hb t1 r1=>⟨false,Rep.rC r1,?_⟩⟩
  try dsimp only
  rw[if_neg P0];exact k _ H1 Hb t1 (Rep.bl false)
 ·cases e
theorem LO(h:tD (Dm.AZ a) σ H Q):GC (tD a) σ H Q:=by
 obtain⟨H0,ρ,x,ρ',st,e,k⟩:=h;unfold Dm.AZ at e;split at e
 ·rename_i c ρ1 e1;cases e;exact⟨H0,ρ,_,_,st,e1,fun v H1 Hb t1 r1=>⟨c,Rep.rC r1,k _ H1 Hb t1 (Rep.bl (!c))⟩⟩
 ·cases e
variable{Qt:Bool->Hp->Prop}
theorem rD(h:tDT (Dm.tV a) σ H Qt):GH (tD a) σ H Qt:=by
 obtain⟨H0,ρ,x,ρ',st,e,k⟩:=h;unfold Dm.tV at e;split at e
 ·rename_i c ρ1 e1;cases e;exact⟨H0,ρ,_,_,st,e1,fun v H1 Hb t1 r1=>⟨_,Rep.rC r1,k H1 Hb t1⟩⟩
 ·cases e
theorem IX{t:FT}(h:tDT (Dm.cA t) σ H Qt):cA (tDT t) σ H Qt:=by
 obtain⟨H0,ρ,x,ρ',st,e,k⟩:=h;unfold Dm.cA at e;split at e
 ·rename_i c ρ1 e1;cases e;exact⟨H0,ρ,_,_,st,e1,fun H1 Hb t1=>k H1 Hb t1⟩
 ·cases e
theorem IY(h:tDT (Dm.iE t u) σ H Qt):iE (tDT t) (tDT u) σ H Qt:=by
 obtain⟨H0,ρ,x,ρ',st,e,k⟩:=h;unfold Dm.iE at e;split at e
 ·rename_i ρ1 e1;refine⟨H0,ρ,_,ρ1,st,e1,fun H1 Hb t1=>?_⟩;dsimp only;rw[if_pos rfl];exact⟨H1,ρ1,x,ρ',t1.st,e,fun H2 Hc t2=>k H2 Hc (t1.trans t2)⟩
 ·rename_i ρ1 e1;cases e;refine⟨H0,ρ,_,_,st,e1,fun H1 Hb t1=>?_⟩;dsimp only;rw[if_neg P0];exact k H1 Hb t1
 ·cases e
theorem LP(h:tDT (Dm.tOr t u) σ H Qt):tOr (tDT t) (tDT u) σ H Qt:=by
 obtain⟨H0,ρ,x,ρ',st,e,k⟩:=h;unfold Dm.tOr at e;split at e
 ·rename_i ρ1 e1;cases e;refine⟨H0,ρ,_,_,st,e1,fun H1 Hb t1=>?_⟩;dsimp only;rw[if_pos rfl];exact k H1 Hb t1
 ·rename_i ρ1 e1;refine⟨H0,ρ,_,ρ1,st,e1,fun H1 Hb t1=>?_⟩;dsimp only;rw[if_neg P0];exact⟨H1,ρ1,x,ρ',t1.st,e,fun H2 Hc t2=>k H2 Hc (t1.trans t2)⟩
 ·cases e
end
end
section
variable{ρ:Dm.Env}{H0 H:Hp}{σ:L2.St}
structure SSt(σ:St)(ρ:Dm.Env)(H0 H:Hp)(σ':St)(ρ':Dm.Env)(H0' H':Hp):Prop where
 st:av H0' H' σ' ρ'
 stp:Stp (ah σ ρ) H0 H H0' H'
 own:∀a,ah σ' ρ' a->ah σ ρ a\/H a=none
 fx:σ'[0]?=σ[0]?
theorem ESt.sst{σ:St}{ρ ρ':Dm.Env}{H0 H H0' H':Hp}(t:ESt σ ρ H0 H ρ' H0' H'):SSt σ ρ H0 H σ ρ' H0' H':=⟨t.st,t.stp,fun a z=>.inl (t.own a z),rfl⟩
theorem SSt.refl{σ:St}(st:av H0 H σ ρ):SSt σ ρ H0 H σ ρ H0 H:=(ESt.refl st).sst
theorem SSt.trans{σ σ1 σ2:St}{ρ ρ1 ρ2:Dm.Env}{H0 H H1 H' H2 H'':Hp}(t:SSt σ ρ H0 H σ1 ρ1 H1 H')(u:SSt σ1 ρ1 H1 H' σ2 ρ2 H2 H''):SSt σ ρ H0 H σ2 ρ2 H2 H'':=
 ⟨u.st,t.stp.trans u.stp t.own,fun a z=>(u.own a z).elim (t.own a) fun n=>.inr (t.stp.gone n),u.fx.trans t.fx⟩
def LQ(σ:St)(ρ:Dm.Env)(H H0' H':Hp)(v:V):RV->Prop
 |.val d=>Rep H0' v d
 |.new d=>∃a,v=V.ref a/\(H a=none\/ah σ ρ a)/\H0' a=none/\Own H0' H' a d
def lI(D:Ends)(σ:St)(ρ:Dm.Env)(H0 H:Hp):Dm.Out->Prop
 |.nx ρ'=>∀σ' H0' H',SSt σ ρ H0 H σ' ρ' H0' H'->D.nx σ' H'
 |.bk ρ'=>∀σ' H0' H',SSt σ ρ H0 H σ' ρ' H0' H'->D.bk σ' H'
 |.ct ρ'=>∀σ' H0' H',SSt σ ρ H0 H σ' ρ' H0' H'->D.ct σ' H'
 |.ret z ρ'=>∀σ' v H0' H',SSt σ ρ H0 H σ' ρ' H0' H'->LQ σ ρ H H0' H' v z->(∀d a,z=.new d->v=.ref a->¬ah σ' ρ' a)->D.rt v H'
def tDS(g:FS):TS:=fun D σ H=>∃H0 ρ o,av H0 H σ ρ/\g ρ=some o/\lI D σ ρ H0 H o
theorem lI.pre{D:Ends}{σ σ1:St}{ρ ρ1:Dm.Env}{H0 H H1 H':Hp}{o:Dm.Out}(t:SSt σ ρ H0 H σ1 ρ1 H1 H')(k:lI D σ ρ H0 H o):lI D σ1 ρ1 H1 H' o:=by
 cases o with
 |nx ρ'=>exact fun σ' H0' H' u=>k σ' H0' H' (t.trans u)
 |bk ρ'=>exact fun σ' H0' H' u=>k σ' H0' H' (t.trans u)
 |ct ρ'=>exact fun σ' H0' H' u=>k σ' H0' H' (t.trans u)
 |ret z ρ'=>
  refine fun σ' v H0' H'' u r no=>k σ' v H0' H'' (t.trans u) ?_ no;cases z with
  |val d=>exact r
  |new d=>
   obtain⟨a,e,n,n0,w⟩:=r;refine⟨a,e,?_,n0,w⟩;rcases n with n | n
   ·exact .inl (t.stp.gone n)
   ·exact(t.own a n).symm
theorem av.mask(st:av H0 H σ ρ)(i:Nat):av H0 H σ (ρ.set i .un) where
 same:=st.same
 len:=by rw[P4];exact st.len
 sh:=fun j d h=>by
  by_cases q:i=j
  ·subst q;rw[Ri]at h;simp only[if_true]at h;split at h<;>cases h
  ·rw[Dk q]at h;exact st.sh j d h
 ow:=fun j d h=>by
  by_cases q:i=j
  ·subst q;rw[Ri]at h;simp only[if_true]at h;split at h<;>cases h
  ·rw[Dk q]at h;exact st.ow j d h
 dis:=fun j j' d d' a h1 h2 h3 h4=>by
  by_cases q:i=j
  ·subst q;rw[Ri]at h1;simp only[if_true]at h1;split at h1<;>cases h1
  ·by_cases q':i=j'
   ·subst q';rw[Ri]at h2;simp only[if_true]at h2;split at h2<;>cases h2
   ·rw[Dk q]at h1;rw[Dk q']at h2;exact st.dis j j' d d' a h1 h2 h3 h4
theorem bO{i:Nat}{a:Addr}(h:ah σ (ρ.set i .un) a):∃(j:Nat) (d:Dat),j≠i/\ρ[j]?=some (Dm.Cell.ow d)/\σ[j]?=some (some (V.ref a)):=by
 obtain⟨j,d,h1,h2⟩:=h;by_cases q:i=j
 ·subst q;rw[Ri]at h1;simp only[if_true]at h1;split at h1<;>cases h1
 ·rw[Dk q]at h1;exact⟨j,d,fun z=>q z.symm,h1,h2⟩
end
section
variable{D:Ends}{σ:St}{H:Hp}
theorem Ob(h:tDS Dm.sNx D σ H):pV D σ H:=by obtain⟨H0,ρ,o,st,e,k⟩:=h;cases e;exact k σ H0 H (.refl st)
theorem LR{s u:FS}(h:tDS (Dm.aC s u) D σ H):gi (tDS s) (tDS u) D σ H:=by
 obtain⟨H0,ρ,o,st,e,k⟩:=h;unfold Dm.aC at e;split at e
 ·rename_i ρ1 e1;exact⟨H0,ρ,.nx ρ1,st,e1,fun σ' H0' H' t=>⟨H0',ρ1,o,t.st,e,k.pre t⟩⟩
 ·rename_i h1;cases o with
  |nx ρ1=>exact absurd e (h1 ρ1)
  |bk ρ1=>exact⟨H0,ρ,_,st,e,k⟩
  |ct ρ1=>exact⟨H0,ρ,_,st,e,k⟩
  |ret z ρ1=>exact⟨H0,ρ,_,st,e,k⟩
theorem IZ{f:FE}(h:tDS (Dm.sE f) D σ H):ir (tD f) D σ H:=by
 obtain⟨H0,ρ,o,st,e,k⟩:=h;unfold Dm.sE at e;split at e
 ·cases e
 ·rename_i x ρ1 e1;cases e;exact⟨H0,ρ,x,ρ1,st,e1,fun v H0' H' t r=>k σ H0' H' t.sst⟩
theorem LS{f:FE}(h:tDS (Dm.sR f) D σ H):Ai (tD f) D σ H:=by
 obtain⟨H0,ρ,o,st,e,k⟩:=h;unfold Dm.sR at e;split at e
 ·cases e
 ·rename_i d ρ1 e1;cases e;refine⟨H0,ρ,_,ρ1,st,e1,fun v H0' H' t r=>?_⟩;obtain⟨a,e,n,no,n0,w⟩:=r;exact k σ v H0' H' t.sst ⟨a,e,.inl n,n0,w⟩ fun d' a' _ e' z=>by rw[e]at e';cases e';exact no z
 ·rename_i d ρ1 e1;cases e;exact⟨H0,ρ,_,ρ1,st,e1,fun v H0' H' t r=>k σ v H0' H' t.sst r fun d' a' z=>by cases z⟩
 ·rename_i i ρ1 e1;split at e
  ·rename_i d h1;cases e;refine⟨H0,ρ,_,ρ1,st,e1,fun v H0' H' t r=>?_⟩;obtain⟨q,_⟩:=r;obtain⟨a,q',n0,w⟩:=t.st.ow i d h1;rw[q]at q';cases q';refine k σ _ H0' H' ⟨t.st.mask i,t.stp,fun b z=>?_,rfl⟩ ⟨a,rfl,.inr (t.own a ⟨i,d,h1,q⟩),n0,w⟩ fun d' a' _ e' z=>?_
   ·obtain⟨j,d2,_,z1,z2⟩:=bO z;exact .inl (t.own b ⟨j,d2,z1,z2⟩)
   ·cases e';obtain⟨j,d2,hj,z1,z2⟩:=bO z;exact hj (t.st.dis j i d2 d a z1 h1 z2 q)
  ·rename_i d h1;cases e;refine⟨H0,ρ,_,ρ1,st,e1,fun v H0' H' t r=>?_⟩;obtain⟨q,_⟩:=r;obtain⟨u,q',w⟩:=t.st.sh i d h1;rw[q]at q';cases q';exact k σ _ H0' H' t.sst w fun d' a' z=>by cases z
  ·cases e
theorem LU{t:FT}{a b:FS}(h:tDS (Dm.sIf t a b) D σ H):yV (tDT t) (tDS a) (tDS b) D σ H:=by
 obtain⟨H0,ρ,o,st,e,k⟩:=h;unfold Dm.sIf at e;split at e
 ·cases e
 ·rename_i ρ1 e1;refine⟨H0,ρ,true,ρ1,st,e1,fun H1 Hb t1=>?_⟩;dsimp only;rw[if_pos rfl];exact⟨H1,ρ1,o,t1.st,e,k.pre t1.sst⟩
 ·rename_i ρ1 e1;refine⟨H0,ρ,false,ρ1,st,e1,fun H1 Hb t1=>?_⟩;dsimp only;rw[if_neg P0];exact⟨H1,ρ1,o,t1.st,e,k.pre t1.sst⟩
end
section
variable{ρ:Dm.Env}{σ:St}{i:Nat}{H0 H:Hp}{d:Dat}{a:Addr}{b:Addr}{o:HO}{v:V}
theorem gw{i j:Nat}{c d:Option V}(h:(σ.set i c)[j]?=some d):(j=i/\d=c)\/(j≠i/\σ[j]?=some d):=by
 by_cases e:j=i
 ·subst e;by_cases l:j<σ.length
  ·rw[PM l]at h;exact .inl ⟨rfl,(Option.some.inj h).symm⟩
  ·rw[Qh (by simpa using Q3.mp l)]at h;cases h
 ·rw[Dk (Ne.symm e)]at h;exact .inr ⟨e,h⟩
theorem av.inσ{c d:Dm.Cell}(st:av H0 H σ ρ)(h:(ρ.set i c)[i]?=some d):i<σ.length:=by have:=(Ph.mp h).1;rw[P4]at this;rw[st.len];exact this
theorem dm(h:ah (σ.set i (some v)) (ρ.set i (.sh d)) b):ah σ ρ b:=by
 obtain⟨j,d',h1,h2⟩:=h;rcases aJ h1 with⟨_,z⟩ | ⟨hj,h1⟩
 ·cases z
 ·rcases gw h2 with⟨z,_⟩ | ⟨_,h2⟩
  ·exact absurd z hj
  ·exact⟨j,d',h1,h2⟩
theorem av.rE(st:av H0 H σ ρ)(r:Rep H0 v d):av H0 H (σ.set i (some v)) (ρ.set i (.sh d)) where
 same:=st.same
 len:=by rw[P4,P4];exact st.len
 sh:=fun j d' h=>by
  rcases aJ h with⟨rfl,z⟩ | ⟨hj,h'⟩
  ·cases z;exact⟨v,PM (st.inσ h),r⟩
  ·obtain⟨u,q,w⟩:=st.sh j d' h';exact⟨u,by rw[Dk (Ne.symm hj)];exact q,w⟩
 ow:=fun j d' h=>by
  rcases aJ h with⟨_,z⟩ | ⟨hj,h'⟩
  ·cases z
  ·obtain⟨u,q,w⟩:=st.ow j d' h';exact⟨u,by rw[Dk (Ne.symm hj)];exact q,w⟩
 dis:=fun j k d1 d2 b h1 h2 h3 h4=>by
  rcases aJ h1 with⟨_,z⟩ | ⟨hj,h1⟩
  ·cases z
  rcases aJ h2 with⟨_,z⟩ | ⟨hk,h2⟩
  ·cases z
  rw[Dk (Ne.symm hj)]at h3;rw[Dk (Ne.symm hk)]at h4;exact st.dis j k d1 d2 b h1 h2 h3 h4
theorem av.A5(st:av H0 H σ ρ)(no:¬ah σ ρ a)(n0:H0 a=none)(w:Own H0 H a d):av H0 H (σ.set i (some (.ref a))) (ρ.set i (.ow d)) where
 same:=st.same
 len:=by rw[P4,P4];exact st.len
 sh:=fun j d' h=>by
  rcases aJ h with⟨_,z⟩ | ⟨hj,h'⟩
  ·cases z
  ·obtain⟨u,q,w⟩:=st.sh j d' h';exact⟨u,by rw[Dk (Ne.symm hj)];exact q,w⟩
 ow:=fun j d' h=>by
  rcases aJ h with⟨rfl,z⟩ | ⟨hj,h'⟩
  ·cases z;exact⟨a,PM (st.inσ h),n0,w⟩
  ·obtain⟨u,q,w⟩:=st.ow j d' h';exact⟨u,by rw[Dk (Ne.symm hj)];exact q,w⟩
 dis:=fun j k d1 d2 b h1 h2 h3 h4=>by
  rcases aJ h1 with⟨e1,z1⟩ | ⟨hj,h1'⟩
  ·rcases aJ h2 with⟨e2,z2⟩ | ⟨hk,h2'⟩
   ·rw[e1,e2]
   ·rcases gw h3 with⟨_,z⟩ | ⟨z,_⟩
    ·cases z;rw[Dk (Ne.symm hk)]at h4;exact absurd ⟨k,d2,h2',h4⟩ no
    ·exact absurd e1 z
  ·rcases aJ h2 with⟨e2,z2⟩ | ⟨hk,h2'⟩
   ·rcases gw h4 with⟨_,z⟩ | ⟨z,_⟩
    ·cases z;rw[Dk (Ne.symm hj)]at h3;exact absurd ⟨j,d1,h1',h3⟩ no
    ·exact absurd e2 z
   ·rw[Dk (Ne.symm hj)]at h3;rw[Dk (Ne.symm hk)]at h4;exact st.dis j k d1 d2 b h1' h2' h3 h4
theorem rF{a b:Addr}(h:ah (σ.set i (some (.ref a))) (ρ.set i (.ow d)) b):b=a\/ah σ ρ b:=by
 obtain⟨j,d',h1,h2⟩:=h;rcases aJ h1 with⟨e,_⟩ | ⟨hj,h1⟩
 ·rcases gw h2 with⟨_,z⟩ | ⟨z,_⟩
  ·cases z;exact .inl rfl
  ·exact absurd e z
 ·rcases gw h2 with⟨z,_⟩ | ⟨_,h2⟩
  ·exact absurd z hj
  ·exact .inr ⟨j,d',h1,h2⟩
theorem av.write{d d':Dat}(st:av H0 H σ ρ)(e:ρ[i]?=some (.ow d))(q:σ[i]?=some (some (V.ref a)))(w':Own H0 (upd H a o) a d') :
  av H0 (upd H a o) σ (ρ.set i (.ow d')):=by
 obtain⟨a',q',n,w⟩:=st.ow i d e;rw[q]at q';cases q';refine⟨fun b u z=>?_,by rw[P4];exact st.len,fun j d1 h=>?_,fun j d1 h=>?_,fun j k d1 d2 b h1 h2 h3 h4=>?_⟩
 ·rw[ak (aG z n)];exact st.same _ _ z
 ·rcases aJ h with⟨_,z⟩ | ⟨hj,h'⟩
  ·cases z
  ·exact st.sh j d1 h'
 ·rcases aJ h with⟨rfl,z⟩ | ⟨hj,h'⟩
  ·cases z;exact⟨a,q,n,w'⟩
  ·obtain⟨b,q1,n1,w1⟩:=st.ow j d1 h';have nb:b≠a:=fun y=>hj (st.dis j i d1 d a h' e (y▸q1) q);exact⟨b,q1,n1,w1.mono (ai.refl _) (ak nb)⟩
 ·have f:∀{j:Nat} {d1:Dat},(ρ.set i (.ow d'))[j]?=some (.ow d1)->∃d2,ρ[j]?=some (.ow d2):=fun {j d1} h=>by
   rcases aJ h with⟨rfl,_⟩ | ⟨_,h'⟩
   ·exact⟨d,e⟩
   ·exact⟨d1,h'⟩
  obtain⟨x1,y1⟩:=f h1;obtain⟨x2,y2⟩:=f h2;exact st.dis j k x1 x2 b y1 y2 h3 h4
theorem cO{d d':Dat}(e:ρ[i]?=some (.ow d))(h:ah σ (ρ.set i (.ow d')) b):ah σ ρ b:=by
 obtain⟨j,d1,h1,h2⟩:=h;rcases aJ h1 with⟨rfl,_⟩ | ⟨_,h'⟩
 ·exact⟨j,d,e,h2⟩
 ·exact⟨j,d1,h',h2⟩
theorem Stp.write(w:ah σ ρ a):Stp (ah σ ρ) H0 H H0 (upd H a o):=
 ⟨ai.refl _,fun b u e n=>by rw [ak (show b≠a from fun z=>n (by rw [z];exact w))];exact e,fun b u e=>.inr (.inl e),fun b u e=>by
  by_cases z:b=a
  ·subst z;exact⟨o,au⟩
  ·exact⟨u,by rw[ak z];exact e⟩⟩
end
section
variable{D:Ends}{σ:St}{H:Hp}
section
variable{f:FE}{is:List Nat}{ρ:Dm.Env}{body:FS}{a:Addr}{i:Nat}{ds:List Dat}{d:Dat}{bd:Dm.FB}{n:Nat}{xs:List V}{vs:List V}{H0:Hp}{k:Nat}{fi:Dm.FI}{t:FT}{g:TG}{o:HO}{Q:VK}{E:XK}
theorem A6(h:tDS (Dm.sA i f) D σ H):jx (tD f) (dH i) D σ H:=by
 obtain⟨H0,ρ,o,st,e,k⟩:=h;unfold Dm.sA at e;split at e
 ·cases e
 rename_i hi0;split at e
 ·cases e
 ·rename_i d ρ1 e1;cases e;refine⟨H0,ρ,_,ρ1,st,e1,fun v H0' H' t r=>?_⟩;obtain⟨a,e,n,no,n0,w⟩:=r;subst e;refine k _ H0' H' ⟨t.st.A5 no n0 w,t.stp,fun b z=>?_,Dk hi0⟩;rcases rF z with rfl | z
  ·exact .inr n
  ·exact .inl (t.own b z)
 ·rename_i x ρ1 _ e1;split at e
  ·cases e
  ·rename_i d ρ2 e2;cases e;refine⟨H0,ρ,_,ρ1,st,e1,fun v H0' H' t r=>?_⟩;obtain⟨H1,t1,b1,r1,_,_⟩:=take1 t (ai.refl _) r e2;exact k _ H1 H' ⟨t1.st.rE r1,t1.stp,fun b z=>.inl (t1.own b (dm z)),Dk hi0⟩
theorem xM{j:Nat}(h:Def ρ j):Def (ρ.set i (.sh d)) j:=trivial
noncomputable def cE:List Nat->TGs
 |[]=>Lu
 |i::is=>GD (dH i) (cE is)
theorem rG{H0 H:Hp}{Q:St->Hp->Prop}:∀{is:List Nat} {xs:List V} {ds:List Dat} {σ:St} {ρ ρ':Dm.Env},av H0 H σ ρ->aB H0 xs ds->Dm.sets is ds ρ=some ρ' ->
  (∀σ',av H0 H σ' ρ'->(∀a,ah σ' ρ' a->ah σ ρ a)->(∀j,j∉is->σ'[j]?=σ[j]?)->(∀j,Def ρ j->Def ρ' j)->σ'[0]?=σ[0]?->Q σ' H)->cE is xs σ H Q
 |[],_,[],σ,ρ,ρ',st,r,e,k=>by cases r;cases e;exact⟨rfl,k σ st (fun _ z=>z) (fun _ _=>rfl) (fun _ z=>z) rfl⟩
 |i::is,_,d::ds,σ,ρ,ρ',st,r,e,k=>by
  cases r with
  |cons h r=>
   unfold Dm.sets at e;split at e
   ·cases e
   rename_i hi0;refine⟨_,_,rfl,?_⟩;refine rG (st.rE h) r e fun σ' st' o' n' d' f'=>k σ' st' (fun a z=>dm (o' a z)) (fun j hj=>?_) (fun j z=>d' j (xM z)) (f'.trans (Dk hi0));rw[n' j fun z=>hj (Pa _ z)];exact Dk fun z=>hj (by rw[z];exact Ds)
 |[],_,_::_,_,_,_,_,_,e,_=>by cases e
 |_::_,_,[],_,_,_,_,_,e,_=>by cases e
theorem jL:∀{is:List Nat} {ds:List Dat} {ρ ρ':Dm.Env},Dm.sets is ds ρ=some ρ'->ds.length=is.length
 |[],[],_,_,_=>rfl
 |i::is,_::ds,_,_,e=>by
  unfold Dm.sets at e;split at e
  ·cases e
  ·simp[jL (is:=is) (ds:=ds) e]
 |[],_::_,_,_,e=>by cases e
 |_::_,[],_,_,e=>by cases e
def BD(is:List Nat)(g:TG)(bd:Dm.FB):Prop:=∀(H0 H:Hp) (σ:St) (ρ ρ':Dm.Env) (x:V) (d:Dat) (Q:St->Hp->Prop),av H0 H σ ρ->Rep H0 x d->bd d ρ=some ρ' ->
 (∀σ',av H0 H σ' ρ'->(∀a,ah σ' ρ' a->ah σ ρ a)->(∀j,j∉is->σ'[j]?=σ[j]?)->(∀j,Def ρ j->Def ρ' j)->σ'[0]?=σ[0]?->Q σ' H)->g x σ H Q
theorem xN(i:Nat):BD [i] (dH i) (Dm.bN i):=by
 intro H0 H σ ρ ρ' x d Q st r e k;unfold Dm.bN at e;split at e
 ·cases e
 rename_i hi0;cases e;refine k _ (st.rE r) (fun a z=>dm z) (fun j hj=>?_) (fun j h=>xM h) (Dk hi0);exact Dk (fun z=>hj (by rw[z];exact PN.mpr rfl))
theorem A7{K:Pf}(hn:is.length=n)(h:tDS (Dm.sU is f) D σ H):jx (tD f) (Eb K n (cE is)) D σ H:=by
 obtain⟨H0,ρ,o,st,e,k⟩:=h;unfold Dm.sU at e;split at e
 ·cases e
 ·rename_i x ρ1 e1;split at e
  ·rename_i ds ρ2 e2;split at e
   ·cases e
   ·rename_i ρ3 e3;cases e;refine⟨H0,ρ,_,ρ1,st,e1,fun v H0' H' t r=>?_⟩;obtain⟨H1,t1,b1,r1,_,_⟩:=take1 t (ai.refl _) r e2;cases r1 with
    |tup q rs=>refine⟨_,_,rfl,SqT.of (t1.st.same _ _ q),by rw[rs.length,jL e3,hn],?_⟩;exact rG t1.st rs e3 fun σ' st' o' _ _ f'=>k σ' H1 H' ⟨st',t1.stp,fun a z=>.inl (t1.own a (o' a z)),f'⟩
  ·cases e
theorem A8{K:Pf}(is:List Nat)(hn:is.length=n):BD is (Eb K n (cE is)) (Dm.bT is):=by
 intro H0 H σ ρ ρ' x d Q st r e k;unfold Dm.bT at e;split at e
 ·cases r with
  |tup q rs=>exact⟨_,_,rfl,SqT.of (st.same _ _ q),by rw[rs.length,jL e,hn],rG st rs e k⟩
 ·cases e
theorem LV{K:Pf}(h:tDS (Dm.rB i f) D σ H):ir (tBM K "list" jD (eO i) (tDA [f])) D σ H:=by
 obtain⟨H0,ρ,o,st,e,k⟩:=h;unfold Dm.rB at e;split at e
 ·rename_i ds0 h0;obtain⟨a0,q0,n0,w0⟩:=st.ow i _ h0;refine⟨_,q0,?_⟩;split at e
  ·cases e
  rename_i x ρ1 e1;split at e
  ·cases e
  rename_i d ρ2 e2;split at e
  ·rename_i ds h2;split at e
   ·rename_i hz;cases e;obtain⟨xs0,y0,_⟩:=w0;refine⟨.inl ⟨rfl,xs0,.inl (.inl y0)⟩,?_⟩;refine⟨H0,ρ,[x],ρ1,st,by unfold Dm.eAs;rw[e1];rfl,fun vs H0' H' t r=>?_⟩;cases r with
    |cons r rr=>
     cases rr;obtain⟨H1,t1,b1,r1,_,_⟩:=take1 t (ai.refl _) r e2;obtain⟨a,q,n,w⟩:=t1.st.ow i _ h2;rw[q0]at q;cases q;obtain⟨xs,y,rs⟩:=w;refine⟨a0,xs,_,rfl,rfl,y,by rw[rs.length];exact PD hz (by decide),?_⟩;have ow:ah σ ρ2 a0:=⟨i,_,h2,q0⟩
     refine k σ H1 _ ⟨t1.st.write h2 q0 ⟨_,au,rs.append (.cons r1 .nil)⟩,t1.stp.trans (Stp.write ow) fun b z=>.inl (t1.own b z),fun b z=>.inl (t1.own b (cO h2 z)),rfl⟩
   ·cases e
  ·cases e
 ·cases e
theorem fE(n:Nat)(i:Int):Dm.ixN n i=L2.ixN n i:=rfl
theorem LW{j f:FE}(h:tDS (Dm.zl i j f) D σ H):jx (tD f) (kq (eO i) (tD j) s_) D σ H:=by
 obtain⟨H0,ρ,o,st,e,k⟩:=h;unfold Dm.zl at e;split at e
 ·cases e
 rename_i x ρ1 e1;split at e
 ·cases e
 rename_i d ρ2 e2;split at e
 case h_2=>cases e
 rename_i d0 h2;split at e
 ·rename_i m ρ3 e3;split at e
  ·rename_i ds h3;split at e
   ·cases e
   ·rename_i p e4;cases e;refine⟨H0,ρ,_,ρ1,st,e1,fun v H0' H' t r=>?_⟩;obtain⟨H1,t1,b1,r1,_,_⟩:=take1 t (ai.refl _) r e2;obtain⟨a0,q0,_,_⟩:=t1.st.ow i _ h2;refine⟨_,q0,H1,ρ2,_,ρ3,t1.st,e3,fun u H2 Hc t2 r2=>?_⟩;obtain⟨a,q,n,w⟩:=t2.st.ow i _ h3;rw[q0]at q;cases q;obtain⟨xs,y,rs⟩:=w;refine⟨a0,xs,m,p,rfl,Rep.isInt r2,y,by rw[rs.length];exact e4,?_⟩;have ow:ah σ ρ3 a0:=⟨i,_,h3,q0⟩
    have tt:=t1.trans t2;refine k σ H2 _ ⟨t2.st.write h3 q0 ⟨_,au,rs.set (r1.mono t2.stp.s0) p⟩,tt.stp.trans (Stp.write ow) fun b z=>.inl (tt.own b z),fun b z=>.inl (tt.own b (cO h3 z)),rfl⟩
  ·cases e
 ·cases e
theorem Ez(h:tDS (Dm.whD t body n) D σ H):Al (tDT t) (tDS body) D σ H:=by
 refine⟨fun m σ H=>tDS (Dm.whD t body m) D σ H,⟨n,h⟩,?_⟩;rintro m σ H ⟨H0,ρ,o,st,e,k⟩;cases m with
 |zero=>unfold Dm.whD at e;cases e
 |succ m=>
  unfold Dm.whD at e;split at e
  ·cases e
  ·rename_i ρ1 e1;cases e;refine⟨H0,ρ,false,ρ1,st,e1,fun H1 Hb t1=>?_⟩;dsimp only;rw[if_neg P0];exact k σ H1 Hb t1.sst
  ·rename_i ρ1 e1;refine⟨H0,ρ,true,ρ1,st,e1,fun H1 Hb t1=>?_⟩;dsimp only;rw[if_pos rfl];refine⟨fun σ' H'=>tDS (Dm.whD t body m) D σ' H',fun σ' H' q=>⟨m,R0 m,q⟩,?_⟩;have k1:=k.pre t1.sst;split at e
   ·rename_i ρ2 e2;exact⟨H1,ρ1,_,t1.st,e2,fun σ' H0' H' t2=>⟨H0',ρ2,o,t2.st,e,k1.pre t2⟩⟩
   ·rename_i ρ2 e2;exact⟨H1,ρ1,_,t1.st,e2,fun σ' H0' H' t2=>⟨H0',ρ2,o,t2.st,e,k1.pre t2⟩⟩
   ·rename_i ρ2 e2;cases e;exact⟨H1,ρ1,_,t1.st,e2,k1⟩
   ·rename_i v ρ2 e2;cases e;exact⟨H1,ρ1,_,t1.st,e2,k1⟩
   ·cases e
def JW(J:It)(H00:Hp)(ys:List Dat):Prop:=∀H0 H,ai H00 H0->ai H0 H->(∀i,ys.length<=i->J.stop i H) /\
 ∀(i:Nat) (d:Dat),ys[i]?=some d->J.go i H/\∀x H',J.yld i H x H'->∃H0',aI H0 H H0' H'/\Rep H0' x d
def tDI(fi:Dm.FI):TI:=fun σ H R=>∃H0 ρ ys ρ',av H0 H σ ρ/\fi ρ=some (ys,ρ')/\∀J H0' H',ESt σ ρ H0 H ρ' H0' H'->JW J H0' ys->R J H'
theorem LX(hb:BD is g bd)(h:tDS (Dm.fC fi bd body) D σ H):Ar (tDI fi) g (tDS body) D σ H:=by
 obtain⟨H0,ρ,o,st,e,k⟩:=h;unfold Dm.fC at e;split at e
 ·cases e
 rename_i ys ρ1 e1;refine⟨H0,ρ,ys,ρ1,st,e1,fun J H00 Hb t1 jw=>?_⟩;refine ⟨fun i m σ H=>∃ H0 ρ o,av H0 H σ ρ∧ai H00 H0∧m=ys.length-i∧i≤ys.length∧Dm.kE bd body (ys.drop i) ρ=some o∧lI D σ ρ H0 H o,
  ⟨ys.length,H00,ρ1,o,t1.st,ai.refl _,by simp,Qd _,by simpa using e,k.pre t1.sst⟩,?_⟩
 rintro i m σ H ⟨H0,ρ,o,st,s00,rfl,hi,e,k⟩;obtain⟨js,jg⟩:=jw H0 H s00 st.same;by_cases J9:i<ys.length
 ·have hd:ys[i]?=some ys[i]:=by simp[J9]
  obtain⟨g1,g2⟩:=jg i ys[i] hd;rw[Qk J9]at e;unfold Dm.kE at e;refine .inr ⟨g1,fun σ' H'=>∃H0 ρ o,av H0 H' σ' ρ/\ai H00 H0/\Dm.kE bd body (ys.drop (i+1)) ρ=some o/\lI D σ' ρ H0 H' o,?_,fun x H' y=>?_⟩
  ·rintro σ' H' ⟨H0',ρ',o',h1,h2,h3,h4⟩;exact⟨ys.length-(i+1),by lia,H0',ρ',o',h1,h2,rfl,J9,h3,h4⟩
  ·obtain⟨H0',gr,rx⟩:=g2 x H' y;split at e
   ·cases e
   ·rename_i ρ2 e2;have t2:=ESt.grow st gr;refine hb H0' H' σ ρ ρ2 x ys[i] _ t2.st rx e2 fun σ2 st2 o2 _ _ f2=>?_;have t3:SSt σ ρ H0 H σ2 ρ2 H0' H':=⟨st2,t2.stp,fun a z=>.inl (o2 a z),f2⟩
    have k3:=k.pre t3;have s3:ai H00 H0':=s00.trans gr.s0;split at e
    ·rename_i ρ3 e3;exact⟨H0',ρ2,_,st2,e3,fun σ4 H4 Hd t4=>⟨H4,ρ3,o,t4.st,s3.trans t4.stp.s0,e,k3.pre t4⟩⟩
    ·rename_i ρ3 e3;exact⟨H0',ρ2,_,st2,e3,fun σ4 H4 Hd t4=>⟨H4,ρ3,o,t4.st,s3.trans t4.stp.s0,e,k3.pre t4⟩⟩
    ·rename_i ρ3 e3;cases e;exact⟨H0',ρ2,_,st2,e3,k3⟩
    ·rename_i v ρ3 e3;cases e;exact⟨H0',ρ2,_,st2,e3,k3⟩
    ·cases e
 ·have e':i=ys.length:=by lia
  subst e';rw[QW]at e;cases e;exact .inl ⟨js _ (Pj _),k σ H0 H (.refl st)⟩
theorem EA{K:Pf}(hq:Rd H0 a (.lst xs))(rs:aB H0 xs ds):JW (Itl K a) H0 ds:=by intro H0' H s0 s1;have q:SqL K H a xs:=.inl (ai.rd s1 (ai.rd s0 hq));refine⟨fun i hi=>⟨xs,q,by rw[rs.length];exact hi⟩,fun i d e=>?_⟩;obtain⟨v,hv,rv⟩:=rs.get e;refine⟨⟨xs,v,q,hv⟩,fun x H' y=>?_⟩;obtain⟨e1,y⟩:=y;subst e1;have z:=y xs q;rw[hv]at z;cases z;exact⟨H0',aI.refl s1,rv.mono s0⟩
theorem I0{K:Pf}(hq:H0 a=some (.tup xs))(rs:aB H0 xs ds):JW (Itt K a) H0 ds:=by intro H0' H s0 s1;have q:SqT K H a xs:=.inl (.inl (s1 _ _ (s0 _ _ hq)));refine⟨fun i hi=>⟨xs,q,by rw[rs.length];exact hi⟩,fun i d e=>?_⟩;obtain⟨v,hv,rv⟩:=rs.get e;refine⟨⟨xs,v,q,hv⟩,fun x H' y=>?_⟩;obtain⟨e1,y⟩:=y;subst e1;have z:=y xs q;rw[hv]at z;cases z;exact⟨H0',aI.refl s1,rv.mono s0⟩
theorem tL{lo:Int}:JW (Itr lo n) H0 (Dm.ups lo n):=by
 intro H0' H s0 s1;have el:(Dm.ups lo n).length=n:=by simp[Dm.ups]
 refine⟨fun i hi=>by rw[el]at hi;exact hi,fun i d e=>?_⟩;have hi:i<n:=by have:=(Ph.mp e).1;rw[el]at this;exact this
 have hd:d=.int (lo+i):=by unfold Dm.ups at e;rw[Py,Q9 hi]at e;exact(Option.some.inj e).symm
 refine⟨hi,fun x H' y=>?_⟩;obtain⟨rfl,rfl⟩:=y;subst hd;exact⟨H0',aI.refl s1,.int _⟩
variable{R:It->Hp->Prop}
theorem Oc{K:Pf}(h:tDI (Dm.iL f) σ H R):pW K (tD f) σ H R:=by
 obtain⟨H0,ρ,ys,ρ',st,e,k⟩:=h;unfold Dm.iL at e;split at e
 ·cases e
 rename_i x ρ1 e1;split at e
 ·rename_i ds ρ2 e2;cases e;refine⟨H0,ρ,_,ρ1,st,e1,fun v H0' H' t r=>?_⟩;obtain⟨H1,t1,b1,r1,_,_⟩:=take1 t (ai.refl _) r e2;cases r1 with
  |lst q rs=>exact⟨_,rfl,⟨_,.inl (ai.rd t1.st.same q)⟩,k _ H1 H' t1 (EA q rs)⟩
 ·cases e
theorem Od{K:Pf}(h:tDI (Dm.iT f) σ H R):Ao K (tD f) σ H R:=by
 obtain⟨H0,ρ,ys,ρ',st,e,k⟩:=h;unfold Dm.iT at e;split at e
 ·cases e
 rename_i x ρ1 e1;split at e
 ·rename_i ds ρ2 e2;cases e;refine⟨H0,ρ,_,ρ1,st,e1,fun v H0' H' t r=>?_⟩;obtain⟨H1,t1,b1,r1,_,_⟩:=take1 t (ai.refl _) r e2;cases r1 with
  |tup q rs=>exact⟨_,rfl,⟨_,.inl (.inl (t1.st.same _ _ q))⟩,k _ H1 H' t1 (I0 q rs)⟩
 ·cases e
theorem LY(h:tDI (Dm.iR1 f) σ H R):GF (tDA [f]) σ H R:=by
 obtain⟨H0,ρ,ys,ρ',st,e,k⟩:=h;unfold Dm.iR1 at e;split at e
 ·rename_i j ρ1 e1;split at e
  ·rename_i hb;cases e;refine⟨H0,ρ,[.val (.int j)],_,st,by unfold Dm.eAs;rw[e1];rfl,fun vs H0' H' t r=>?_⟩;cases r with
   |cons r rr=>cases rr;cases Rep.isInt r;have h1:=hb.1;have h2:=hb.2;unfold Dm.BIG at h1 h2;exact⟨j,rfl,by lia,by lia,k _ H0' H' t tL⟩
  ·cases e
 ·cases e
theorem LZ{f g:FE}(h:tDI (Dm.iR2 f g) σ H R):GG (tDA [f,g]) σ H R:=by
 obtain⟨H0,ρ,ys,ρ',st,e,k⟩:=h;unfold Dm.iR2 at e;split at e
 ·rename_i i ρ1 e1;split at e
  ·rename_i j ρ2 e2;split at e
   ·rename_i hb;cases e;refine⟨H0,ρ,[.val (.int i),.val (.int j)],_,st,by unfold Dm.eAs;rw[e1];dsimp only;unfold Dm.eAs;rw[e2];rfl,fun vs H0' H' t r=>?_⟩;cases r with
    |cons r rr=>
     cases rr with
     |cons r' rr=>cases rr;cases Rep.isInt r;cases Rep.isInt r';obtain⟨h1,h2,h3,h4⟩:=hb;unfold Dm.BIG at h1 h2 h3 h4;exact⟨i,j,rfl,⟨by lia,by lia,by lia,by lia⟩,k _ H0' H' t tL⟩
   ·cases e
  ·cases e
 ·cases e
def tLC(wi:TI)(own:Nat)(g:TG)(tt:TT)(te:TE):TE:=fun σ H Q=>wi σ H fun J H1=>∀D,H1 D=none->∃W:Nat->Nat->St->Hp->Prop,
 (∃m,W 0 m (σ++gV own none) (upd H1 D (.lst [])))/\∀i m σ' H',W i m σ' H' ->
  (J.stop i H'∧Q (.ref D) H')∨(J.go i H'∧∀ x H2,J.yld i H' x H2→g x σ' H2 fun σ2 H3=>tt σ2 H3 fun b H4=>if b=true
   then te σ2 H4 fun y H5=>∃zL,H5 D=some (.lst zL)/\zL.length<sizeLine/\∃m',m'<m/\W (i+1) m' σ2 (upd H5 D (.lst (zL++[y])))
   else ∃m',m'<m/\W (i+1) m' σ2 H4)
theorem av.aside{H0 H:Hp}{σ:St}(st:av H0 H σ ρ)(n0:H0 a=none)(no:¬ah σ ρ a):av H0 (upd H a o) σ ρ where
 same:=fun b u z=>by rw[ak (aG z n0)];exact st.same _ _ z
 len:=st.len
 sh:=st.sh
 ow:=fun j d h=>by obtain⟨b,q,n,w⟩:=st.ow j d h;have nb:b≠a:=fun y=>no ⟨j,d,h,y▸q⟩;exact⟨b,q,n,w.mono (ai.refl _) (ak nb)⟩
 dis:=st.dis
theorem av.bx{H0 H:Hp}{σ:St}(st:av H0 H σ ρ)(h:H a=none):¬ah σ ρ a:=fun⟨i,d,h1,h2⟩=>by obtain⟨b,q,n,w⟩:=st.ow i d h1;rw[h2]at q;cases q;obtain⟨o,z⟩:=w.some;rw[h]at z;cases z
theorem jM{α:Type}{l:List α}{r:List α}{x:α}(h:(l++r)[i]?=some x)(n:x∉r):i<l.length/\l[i]?=some x:=by
 by_cases hi:i<l.length
 ·rw[Pq hi]at h;exact⟨hi,h⟩
 ·rw[P5 (Q3.mp hi)]at h;exact absurd (Q0 h) n
theorem A9:Dm.Cell.sh d∉gV k Dm.Cell.un:=fun h=>by have:=List.eq_of_mem_replicate h;cases this
theorem jN:Dm.Cell.ow d∉gV k Dm.Cell.un:=fun h=>by have:=List.eq_of_mem_replicate h;cases this
theorem av.ext{H0 H:Hp}{σ:St}(st:av H0 H σ ρ)(k:Nat):av H0 H (σ++gV k none) (ρ++gV k .un) where
 same:=st.same
 len:=by simp[st.len]
 sh:=fun i d h=>by obtain⟨hi,h⟩:=jM h A9;obtain⟨v,q,r⟩:=st.sh i d h;exact⟨v,by rw[Pq (by rw[st.len];exact hi)];exact q,r⟩
 ow:=fun i d h=>by obtain⟨hi,h⟩:=jM h jN;obtain⟨v,q,r⟩:=st.ow i d h;exact⟨v,by rw[Pq (by rw[st.len];exact hi)];exact q,r⟩
 dis:=fun i j d e a h1 h2 h3 h4=>by obtain⟨hi,h1⟩:=jM h1 jN;obtain⟨hj,h2⟩:=jM h2 jN;rw[Pq (by rw[st.len];exact hi)]at h3;rw[Pq (by rw[st.len];exact hj)]at h4;exact st.dis i j d e a h1 h2 h3 h4
theorem eX{H0 H:Hp}{σ:St}(st:av H0 H σ ρ)(h:ah (σ++gV k none) (ρ++gV k .un) a):ah σ ρ a:=by obtain⟨i,d,h1,h2⟩:=h;obtain⟨hi,h1⟩:=jM h1 jN;rw[Pq (by rw[st.len];exact hi)]at h2;exact⟨i,d,h1,h2⟩
theorem Stp.aside{O:Addr->Prop}{H0 H H0' H':Hp}{D:Addr}(t:Stp O H0 H H0' H')(hD:H D=none):Stp O H0 H H0' (upd H' D o):=
 ⟨t.s0,fun a u e n=>by rw[ak (aG e hD)];exact t.s1 a u e n,t.s2,fun a u e=>by rw[ak (aG e hD)];exact t.s3 a u e⟩
theorem ESt.bV{σ:St}{ρ ρ':Dm.Env}{H0 H H0' H':Hp}(t:ESt σ ρ H0 H ρ' H0' H'){D:Addr}(h:H D=some o)(n0:H0 D=none)(no:¬ah σ ρ D):H' D=some o/\H0' D=none/\¬ah σ ρ' D:=by
 refine⟨t.stp.s1 D o h no,?_,fun z=>no (t.own D z)⟩;cases q:H0' D with
 |none=>rfl
 |some u=>
  rcases t.stp.s2 D u q with z | z | z
  ·rw[h]at z;cases z
  ·rw[n0]at z;cases z
  ·exact absurd z no
def JWa(J:It)(H00:Hp)(pa:Option (Addr×HO))(ys:List Dat):Prop:=∀H0 H,ai H00 H0->ai H0 H->(∀q,pa=some q->H q.1=some q.2)->(∀i,ys.length<=i->J.stop i H) /\
 ∀(i:Nat) (d:Dat),ys[i]?=some d->J.go i H/\∀x H',J.yld i H x H'->∃H0',aI H0 H H0' H'/\Rep H0' x d
theorem tM{σ:St}{own:Nat}{t:FT}{el:FE}{Q:VK}{H00 Hb:Hp}{ρ1 ρ2:Dm.Env}{ds ys:List Dat}{J:It}{pa:Option (Addr×HO)}(hb:BD is g bd)(hl:∀i∈is,σ.length<=i)
  (st1:av H00 Hb σ ρ1) (hp:∀q,pa=some q->Hb q.1=some q.2/\H00 q.1=none/\¬ah σ ρ1 q.1) (jw:JWa J H00 pa ds) (hsz:ds.length<=Dm.SZ) (e2:Dm.dI bd t el ds (ρ1++gV own .un) []=some (ys,ρ2))
  (k:∀v H0' H',ESt σ ρ1 H00 Hb (ρ2.take ρ1.length) H0' H'->gv Hb H0' H' σ (ρ2.take ρ1.length) v (.new (.lst ys))->(∀q,pa=some q->H' q.1=some q.2/\H0' q.1=none)->Q v H') (D:Addr) (hD:Hb D=none) :
  ∃W:Nat->Nat->St->Hp->Prop,(∃m,W 0 m (σ++gV own none) (upd Hb D (.lst [])))/\∀i m σ' H',W i m σ' H' ->
  (J.stop i H'∧Q (.ref D) H')∨(J.go i H'∧∀ x H2,J.yld i H' x H2→g x σ' H2 fun σ2 H3=>tDT t σ2 H3 fun b H4=>if b=true
   then tD el σ2 H4 fun y H5=>∃zL,H5 D=some (.lst zL)/\zL.length<sizeLine/\∃m',m'<m/\W (i+1) m' σ2 (upd H5 D (.lst (zL++[y])))
   else ∃m',m'<m/\W (i+1) m' σ2 H4):=by
 have hpD:∀q,pa=some q->q.1≠D:=fun q e z=>by have:=(hp q e).1;rw[z,hD]at this;cases this
 have noD:¬ah σ ρ1 D:=st1.bx hD;refine ⟨fun i m σ' H'=>∃ (H0c:Hp) (ρc:Dm.Env) (zp:List Dat) (vS:List V),av H0c H' σ' ρc∧ai H00 H0c∧m=ds.length-i∧i≤ds.length∧Dm.dI bd t el (ds.drop i) ρc zp=some (ys,ρ2) ∧
  H' D=some (.lst vS)/\aB H0c vS zp/\H0c D=none/\zp.length<=i/\Stp (ah σ ρ1) H00 Hb H0c H'/\(∀j,j<σ.length->σ'[j]?=σ[j]?)/\(∀a,ah σ' ρc a->ah σ ρ1 a)/\(∀j,Def ρ1 j->Def ρc j)/\(∀q,pa=some q->H' q.1=some q.2/\H0c q.1=none/\¬ah σ' ρc q.1),
  ⟨ds.length,H00,ρ1++gV own .un,[],[],(st1.aside (st1.same.free hD) noD).ext own,ai.refl _,by simp,Qd _,by simpa using e2,au,.nil,st1.same.free hD,Qd _,(Stp.refl _ _ _).aside hD,
   fun j hj=>Pq hj,fun a z=>eX st1 z,fun j z=>trivial,fun q e=>⟨by rw[ak (hpD q e)];exact(hp q e).1,(hp q e).2.1,fun z=>(hp q e).2.2 (eX st1 z)⟩⟩,?_⟩
 rintro i m σ' H' ⟨H0c,ρc,zp,vS,sc,s00,rfl,hi,ec,hDl,ra,n0,hal,sp,hσ,ho,hdf,hpc⟩;have nOc:¬ah σ' ρc D:=fun z=>noD (ho D z);obtain⟨js,jg⟩:=jw H0c H' s00 sc.same fun q e=>(hpc q e).1;by_cases J9:i<ds.length
 ·have hd:ds[i]?=some ds[i]:=by simp[J9]
  obtain⟨g1,g2⟩:=jg i ds[i] hd;rw[Qk J9]at ec;unfold Dm.dI at ec;refine .inr ⟨g1,fun y H2 yy=>?_⟩;obtain⟨H0',gr,rx⟩:=g2 y H2 yy;split at ec
  ·cases ec
  rename_i ρ3 e3;have t2:=ESt.grow sc gr;obtain⟨hD2,n02,no2⟩:=t2.bV hDl n0 nOc;have hp2:=fun q e=>t2.bV (hpc q e).1 (hpc q e).2.1 (hpc q e).2.2;refine hb H0' H2 σ' ρc ρ3 y ds[i] _ t2.st rx e3 fun σ3 st3 o3 k3 d3 _=>?_;have no3:¬ah σ3 ρ3 D:=fun z=>no2 (o3 D z);have po3:∀q,pa=some q->¬ah σ3 ρ3 q.1:=fun q e z=>(hp2 q e).2.2 (o3 q.1 z);have hσ3:∀j,j<σ.length->σ3[j]?=σ[j]?:=fun j hj=>(k3 j fun z=>Q3.mpr (hl j z) hj).trans (hσ j hj);have ho3:∀a,ah σ3 ρ3 a->ah σ ρ1 a:=fun a z=>ho a (o3 a z);have L0:∀j,Def ρ1 j->Def ρ3 j:=fun j z=>d3 j (hdf j z);have sp3:Stp (ah σ ρ1) H00 Hb H0' H2:=sp.trans t2.stp fun a z=>.inl (ho a z);have ra3:=ra.mono gr.s0;have s3:ai H00 H0':=s00.trans gr.s0;split at ec
  ·cases ec
  ·rename_i ρ4 e4;refine⟨H0',ρ3,false,ρ4,st3,e4,fun I_ H'' t4=>?_⟩;dsimp only;rw[if_neg P0];obtain⟨hD4,n04,no4⟩:=t4.bV hD2 n02 no3;have hp4:=fun q e=>t4.bV (hp2 q e).1 (hp2 q e).2.1 (po3 q e);exact⟨ds.length-(i+1),by lia,I_,ρ4,zp,vS,t4.st,s3.trans t4.stp.s0,rfl,J9,ec,hD4,ra3.mono t4.stp.s0,n04,Nat.le_succ_of_le hal,sp3.trans t4.stp fun a z=>.inl (ho3 a z),hσ3,fun a z=>ho3 a (t4.own a z),fun j z=>t4.dfn j (L0 j z),hp4⟩
  ·rename_i ρ4 e4;refine⟨H0',ρ3,true,ρ4,st3,e4,fun I_ H'' t4=>?_⟩;dsimp only;rw[if_pos rfl];obtain⟨hD4,n04,no4⟩:=t4.bV hD2 n02 no3;have hp4:=fun q e=>t4.bV (hp2 q e).1 (hp2 q e).2.1 (po3 q e);split at ec
   ·cases ec
   rename_i x5 ρ5 e5;split at ec
   ·cases ec
   rename_i y6 ρ6 e6;refine⟨I_,ρ4,x5,ρ5,t4.st,e5,fun v H5 Hc t5 r5=>?_⟩;obtain⟨H6,t6,b6,r6,_,_⟩:=take1 t5 (ai.refl _) r5 e6;obtain⟨hD6,n06,no6⟩:=t6.bV hD4 n04 no4;have hp6:=fun q e=>t6.bV (hp4 q e).1 (hp4 q e).2.1 (hp4 q e).2.2;refine⟨vS,hD6,?_,ds.length-(i+1),by lia,H6,ρ6,zp++[y6],vS++[v],t6.st.aside n06 no6,(s3.trans t4.stp.s0).trans t6.stp.s0,rfl,J9,ec,au,?_,n06,?_,?_,hσ3,fun a z=>ho3 a (t4.own a (t6.own a z)),fun j z=>t6.dfn j (t4.dfn j (L0 j z)),fun q e=>⟨by rw[ak (hpD q e)];exact(hp6 q e).1,(hp6 q e).2.1,(hp6 q e).2.2⟩⟩
   ·rw[ra.length];unfold Dm.SZ at hsz;exact RP (PL hal (PL (RY J9) hsz)) (by decide)
   ·exact((ra3.mono t4.stp.s0).mono t6.stp.s0).append (.cons r6 .nil)
   ·rw[Pr,QH];lia
   ·exact((sp3.trans t4.stp fun a z=>.inl (ho3 a z)).trans t6.stp fun a z=>.inl (ho3 a (t4.own a z))).aside hD
 ·have e':i=ds.length:=by lia
  subst e';rw[QW]at ec;cases ec;refine .inl ⟨js _ (Pj _),k _ H0c H' ?_ ?_ fun q e=>⟨(hpc q e).1,(hpc q e).2.1⟩⟩
  ·have B3:σ.length<=ρ2.length:=by
    rw[<- sc.len];refine Q3.mp fun z=>?_;have q:=hσ σ'.length z;rw[Qh (Pj _),Pp z]at q;cases q
   have tk:∀{j:Nat} {c:Dm.Cell},(ρ2.take ρ1.length)[j]?=some c->j<σ.length/\ρ2[j]?=some c:=fun {j c} h=>by
    have hj:j<ρ1.length:=by
     have:=(Ph.mp h).1;rw[P9]at this
     lia
    rw[QM hj]at h;exact⟨by rw[st1.len];exact hj,h⟩
   have own':∀a,ah σ (ρ2.take ρ1.length) a->ah σ' ρ2 a:=fun a ⟨j,d,h1,h2⟩=>by obtain⟨hj,h1⟩:=tk h1;exact⟨j,d,h1,(hσ j hj).trans h2⟩
   refine⟨⟨sc.same,?_,fun j d h=>?_,fun j d h=>?_,fun j j' d d' a h1 h2 h3 h4=>?_⟩,sp,fun a z=>ho a (own' a z),fun j z=>?_⟩
   ·rw[P9,<- st1.len];lia
   ·obtain⟨hj,h⟩:=tk h;obtain⟨v,q,r⟩:=sc.sh j d h;exact⟨v,(hσ j hj).symm.trans q,r⟩
   ·obtain⟨hj,h⟩:=tk h;obtain⟨v,q,r⟩:=sc.ow j d h;exact⟨v,(hσ j hj).symm.trans q,r⟩
   ·obtain⟨hj,h1⟩:=tk h1;obtain⟨hj',h2⟩:=tk h2;exact sc.dis j j' d d' a h1 h2 ((hσ j hj).trans h3) ((hσ j' hj').trans h4)
   ·trivial
  ·refine⟨D,rfl,hD,fun⟨j,d,h1,h2⟩=>?_,n0,vS,hDl,ra⟩;have hj:j<ρ1.length:=by
    have:=(Ph.mp h1).1;rw[P9]at this
    lia
   rw[QM hj]at h1;exact nOc ⟨j,d,h1,(hσ j (by rw[st1.len];exact hj)).trans h2⟩
theorem rH{own:Nat}{el:FE}(hb:BD is g bd)(hl:∀i∈is,σ.length<=i)(h:tD (Dm.cg fi own bd t el) σ H Q) :
  tLC (tDI fi) own g (tDT t) (tD el) σ H Q:=by
 obtain⟨H0,ρ,x,ρ',st,e,k⟩:=h;unfold Dm.cg at e;split at e
 ·cases e
 rename_i ds ρ1 e1;split at e
 case isFalse=>cases e
 rename_i hsz;split at e
 ·cases e
 rename_i ys ρ2 e2;cases e;refine⟨H0,ρ,ds,ρ1,st,e1,fun J H00 Hb t1 jw D hD=>tM (pa:=none) hb hl t1.st (fun q e=>by cases e) (fun H0 H s0 s1 _=>jw H0 H s0 s1) hsz e2 (fun v H0' H' t2 r2 _=>k v H0' H' (t1.trans t2) (r2.early fun a n=>t1.stp.gone n)) D hD⟩
theorem A_{n m:Nat}{H:Hp}(h:spD (Dm.fn n m body) vs H Q E):vs.length=n:=by
 obtain⟨H0,ds,z,s,rs,e,k⟩:=h;unfold Dm.fn at e;split at e
 ·rename_i hl;rw[rs.length];exact hl
 ·cases e
theorem Oe{N:List Str}{n m:Nat}(hm:N.length=n+m)(h:spD (Dm.fn n m body) vs H Q E) :
  tDS body { nx:=fun _ H'=>Q .non H',rt:=Q } (start N vs) H:=by
 have hvn:=A_ h;obtain⟨H0,ds,z,s,rs,e,k⟩:=h;have hl:=rs.length;have no:∀a,¬ah (start N vs) (ds.map Dm.Cell.sh++gV m .un) a:=fun a ⟨i,d,h1,_⟩=>by
  by_cases hi:i<ds.length
  ·rw[Pq (by simpa using hi),Py]at h1;cases q:ds[i]? with
   |none=>rw[q]at h1;cases h1
   |some y=>rw[q]at h1;cases h1
  ·rw[P5 (by simpa using hi),Qi]at h1;split at h1<;>cases h1
 have st:av H0 H (start N vs) (ds.map Dm.Cell.sh++gV m .un):=by
  refine⟨s,?_,fun i d h=>?_,fun i d h=>?_,fun i j d e a h1 h2 _ _=>?_⟩
  ·unfold L2.start;simp only[Pr,Pg,Qz]
   lia
  ·have hi:i<ds.length:=by
    by_cases hi:i<ds.length
    ·exact hi
    ·rw[P5 (by simpa using hi),Qi]at h;split at h<;>cases h
   rw[Pq (by simpa using hi),Py]at h;cases q:ds[i]? with
   |none=>rw[q]at h;cases h
   |some y=>rw[q]at h;cases h;obtain⟨v,hv,r⟩:=rs.get q;refine⟨v,?_,r⟩;unfold L2.start;rw[Pq (by simpa [hl] using hi),Py,hv];rfl
  ·by_cases hi:i<ds.length
   ·rw[Pq (by simpa using hi),Py]at h;cases q:ds[i]? with
    |none=>rw[q]at h;cases h
    |some y=>rw[q]at h;cases h
   ·rw[P5 (by simpa using hi),Qi]at h;split at h<;>cases h
  ·by_cases hi:i<ds.length
   ·rw[Pq (by simpa using hi),Py]at h1;cases q:ds[i]? with
    |none=>rw[q]at h1;cases h1
    |some y=>rw[q]at h1;cases h1
   ·rw[P5 (by simpa using hi),Qi]at h1;split at h1<;>cases h1
 have gr:∀{H0' H'},Stp (ah (start N vs) (ds.map Dm.Cell.sh++gV m .un)) H0 H H0' H'->ai H0' H'->aI H0 H H0' H':=fun {H0' H'} t ss=>⟨t.s0,fun a o e=>t.s1 a o e (no a),fun a o e=>(t.s2 a o e).imp id fun q=>q.elim id fun z=>absurd z (no a),ss⟩
 unfold Dm.fn at e;rw[if_pos (by rw[<- hl];exact hvn)]at e;split at e
 ·rename_i r ρ' e1;cases e;refine⟨H0,_,_,st,e1,fun σ' v H0' H' t r _=>k v H0' H' (gr t.stp t.st.same) ?_⟩;cases z with
  |val d=>exact r
  |new d=>obtain⟨a,e,n,n0,w⟩:=r;exact⟨a,e,n.elim id fun z=>absurd z (no a),n0,w⟩
 ·rename_i ρ' e1;cases e;exact⟨H0,_,_,st,e1,fun σ' H0' H' t=>k _ H0' H' (gr t.stp t.st.same) .non⟩
 ·cases e
end
end
open PySem PySem.Spec PyProof.Rows L2
noncomputable def aU(X:Cx)(nm:List Str)(scope:Scope)(own:List Str)(cl:List (Str×Addr))(C:Addr)(s:Shared)(H:Hp)(fp:List Addr):Cx where
 prog:=X.prog
 w:=X.w
 K:=X.K
 mg:=X.mg
 base:=X.base
 A:=X.A
 N:=nm++own
 s₀:=s
 H₀:=H
 env:=compEnvC scope cl C X.env
 outer:=X.stack
 stack:=X.stack
 ex:=fp
 fn:=fun _=>false
 calm:=X.calm
 pn:=[]
 xe:=fun _ _=>False
def PTs(X:Cx)(J7:List Expr)(t:TT):Prop:=
 ∀(jV:List (Addr×Obj)) (s:Shared) (σ:L2.St) (H:Hp) (Q:Bool->Hp->Prop),Inv X jV σ H s->t σ H Q ->
  wpAny (model X.prog X.w) X.A (forIn J7 true fun c r=>if r=true then do let ok <- isTrue c X.env (eval c X.env);pure (QN ok) else pure (QN r)) (TP X jV σ Q) X.xe s
def vU:TT:=fun _ H Q=>Q true H
theorem rJ{X:Cx}:PTs X [] vU:=fun jV s σ H Q I h=>wpAny_tests_nil ⟨H,I,h⟩
theorem EB{X:Cx}{c:Expr}{t:TT}(h:PT X c t):PTs X [c] t:=fun jV s σ H Q I hq=>wpAny_tests_one (h jV s σ H Q I hq)
theorem eE(env:Env):∀(names:List (Str×NameKind)) (cs:List (Str×Addr)),(∀y∈names,y.2=.free->∃c,env.cells.lookup y.1=some c) ->
  ∃cl,(forIn names cs fun(x:Str×NameKind) (r:List (Str×Addr))=>(if (x.2 == NameKind.free)=true then do let c <- cellOf env x.1;pure (QN ((x.1,c)::r)) else pure (QN r):Sem (ForInStep (List (Str×Addr)))))=pure cl /\
   (∀x c,cl.lookup x=some c->env.cells.lookup x=some c\/cs.lookup x=some c)/\(∀y∈names,y.2=.free->∃c,cl.lookup y.1=some c)/\(∀x c,cs.lookup x=some c->∃c',cl.lookup x=some c')
 |[],cs,_=>⟨cs,rfl,fun _ _ h=>.inr h,fun _ h=>(nomatch h),fun _ c h=>⟨c,h⟩⟩
 |(n,k)::r,cs,h=>by
  have hr:∀y∈r,y.2=.free->∃c,env.cells.lookup y.1=some c:=fun y hy=>h y (Pa _ hy);by_cases hk:k=.free
  ·subst hk;obtain⟨c,hc⟩:=h (n,.free) Ds rfl;obtain⟨cl,e,h1,h2,h3⟩:=eE env r ((n,c)::cs) hr;refine⟨cl,?_,fun x c' q=>?_,fun y hy hf=>?_,fun x c' q=>?_⟩
   ·rw[List.forIn_cons];have e1:cellOf env n=pure c:=by unfold cellOf;rw[hc]
    simp only[beq_self_eq_true,if_true,e1,pure_bind];exact e
   ·rcases h1 x c' q with z | z
    ·exact .inl z
    ·rw[Qm]at z;cases hx:x == n with
     |true=>
      rw[hx]at z;have:x=n:=by simpa using hx
      subst this;injection z with z
      subst z;exact .inl hc
     |false=>rw[hx]at z;exact .inr z
   ·rcases Pk.mp hy with rfl | hy
    ·exact h3 n c (by rw[Qm,beq_self_eq_true])
    ·exact h2 y hy hf
   ·by_cases hx:x=n
    ·subst hx;exact h3 x c (by rw[Qm,beq_self_eq_true])
    ·have hx':(x == n)=false:=by simpa using hx
     exact h3 x c' (by rw[Qm,hx'];exact q)
  ·have hb:(k == NameKind.free)=false:=by simpa using hk
   obtain⟨cl,e,h1,h2,h3⟩:=eE env r cs hr;refine⟨cl,?_,h1,fun y hy hf=>?_,h3⟩
   ·rw[List.forIn_cons];simp only[hb,RQ,if_false,pure_bind];exact e
   ·rcases Pk.mp hy with rfl | hy
    ·exact absurd hf hk
    ·exact h2 y hy hf
theorem m5{env:Env}{scope:Scope}(h:∀y∈scope.names,y.2=.free->∃c,env.cells.lookup y.1=some c) :
  ∃cl,closureFor scope env=pure cl/\(∀x c,cl.lookup x=some c->env.cells.lookup x=some c)/\∀y∈scope.names,y.2=.free->∃c,cl.lookup y.1=some c:=by
 obtain⟨cl,e,h1,h2,_⟩:=eE env scope.names [] h;refine⟨cl,?_,fun x c q=>(h1 x c q).elim id fun z=>by simp at z,h2⟩;unfold closureFor;have e':(forIn scope.names ([]:List (Str×Addr)) fun(x:Str×NameKind) (r:List (Str×Addr))=>(if (x.2 == NameKind.free)=true then do let c <- cellOf env x.1;pure (QN ((x.1,c)::r)) else pure (QN r):Sem (ForInStep (List (Str×Addr)))))=pure cl:=e
 first
  |(rw[show (forIn scope.names ([]:List (Str×Addr)) _:Sem (List (Str×Addr)))=pure cl from e'];rfl)
  |(simp only[e'];rfl)
theorem rK{prog:Program}{w:World}{A:Around}{R:Result->Shared->Prop}{s:Shared}{J8 target iter:Expr}{J7:List Expr}{scope:Scope}{pos:Pos}{it zL:Value}{env:Env}(I:Nat->Shared->Prop)
  (turn:∀ n s,I n s→wpAny (model prog w) A (pyNext it) (fun r s₁=>match r with
   |none=>R (.ok .next) s₁
   | some v=>wpAny (model prog w) A (letOwnedTupleGo target it v) (fun _ s₁'=>wpAny (model prog w) A (assign target env v) (fun _ s₂=>
     wpAny (model prog w) A (forIn J7 true fun c r=>if r=true then do let ok ← isTrue c env (eval c env);pure (QN ok) else pure (QN r)) (fun ok s₃=>
      if ok=true then wpAny (model prog w) A (eval J8 env) (fun x s₄=>wpAny (model prog w) A (call (.builtin "list.append") [zL,x]) (fun _ s₅=>∃m,m<n/\I m s₅) (fun _ _=>False) s₄) (fun _ _=>False) s₃
      else ∃m,m<n/\I m s₃) (fun _ _=>False) s₂) (fun _ _=>False) s₁') (fun _ _=>False) s₁) (fun _ _=>False) s)
  (n:Nat) (h:I n s) :
  codeAny (model prog w) A (.compLoop (.ListComp J8 [⟨target,iter,J7,0⟩] scope pos) 0 it zL env) R s:=by
 have no:∀{P:Value->Shared->Prop} (x:Value) (s':Shared),False->P x s':=fun _ _ f=>f.elim;refine codeAny_loop rfl I (fun n s hI=>?_) n h;show wpAny _ A ((compTurn (.ListComp J8 [⟨target,iter,J7,0⟩] scope pos) 0 it zL env).onRaise (fun x=>do noteFrame x env;theTreesLotGoes x)) _ _ s;refine wpAny_noted ?_;rw[compTurn_list];refine wpAny_bind (wpAny_standAt (wpAny_bind (wpAny_mono (turn n s hI) (fun r s₁ h₁=>?_) no)));cases r with
 |none=>exact wpAny_pure h₁
 |some v=>
  refine wpAny_bind (wpAny_mono h₁ (fun _ s₁' h₁'=>?_) no);refine wpAny_bind (wpAny_mono h₁' (fun _ s₂ h₂=>wpAny_bind (wpAny_mono h₂ (fun ok s₃ h₃=>?_) no)) no);cases ok with
  |false=>exact wpAny_pure ⟨rfl,h₃⟩
  |true=>exact wpAny_bind (wpAny_bind (wpAny_mono h₃ (fun x s₄ h₄=>wpAny_bind (wpAny_mono h₄ (fun _ s₅ h₅=>wpAny_pure (wpAny_pure ⟨rfl,h₅⟩)) no)) no))
theorem cM(env:Env):∀(names:List (Str×NameKind)) (x:Str) (k:NameKind),
  (names.map fun(n,k)=>if (k == NameKind.free&&env.scope.kind == .function&&env.kindOf n == some .cell) then (n,Sf) else (n,k)).lookup x=some k ->
  ∃k0,names.lookup x=some k0/\(k=k0\/(k0=.free/\k=.cell))
 |[],x,k,h=>by simp at h
 |(n,k1)::r,x,k,h=>by
  have h:List.lookup x ((if (k1 == NameKind.free&&env.scope.kind == .function&&env.kindOf n == some .cell)=true then (n,Sf) else (n,k1))::r.map fun(n,k)=>if (k == NameKind.free&&env.scope.kind == .function&&env.kindOf n == some .cell) then (n,Sf) else (n,k))=some k:=h;cases hx:x == n with
  |true=>
   by_cases hc:(k1 == NameKind.free&&env.scope.kind == .function&&env.kindOf n == some .cell)=true
   ·rw[if_pos hc,Qm,hx]at h;injection h with h
    have hk:k1=.free:=by simp only[Pz,beq_iff_eq]at hc;exact hc.1.1
    exact⟨k1,by rw[Qm,hx],.inr ⟨hk,h.symm⟩⟩
   ·rw[if_neg hc,Qm,hx]at h;injection h with h
    exact⟨k1,by rw[Qm,hx],.inl h.symm⟩
  |false=>
   by_cases hc:(k1 == NameKind.free&&env.scope.kind == .function&&env.kindOf n == some .cell)=true
   ·rw[if_pos hc,Qm,hx]at h;obtain⟨k0,e,z⟩:=cM env r x k h;exact⟨k0,by rw[Qm,hx];exact e,z⟩
   ·rw[if_neg hc,Qm,hx]at h;obtain⟨k0,e,z⟩:=cM env r x k h;exact⟨k0,by rw[Qm,hx];exact e,z⟩
structure cu(X:Cx)(nm:List Str)(scope:Scope):Prop where
 kind:scope.kind=.function
 cell:∀y∈scope.names,y.2≠.cell
 names:∀y∈scope.names,y.2=.local->scope.names.lookup y.1=some .local
 free:∀y∈scope.names,y.2=.free->X.env.kindOf y.1=some .cell\/X.env.kindOf y.1=some .free
 apart:∀x∈nm,scope.names.lookup x≠some .local
 len:nm.length=X.N.length
 mask:∀(i:Nat) (x:Str),nm[i]?=some x->X.N[i]?=some x\/scope.names.lookup x=none
section
variable{X:Cx}{nm:List Str}{J8 tg iter:Expr}{J7:List Expr}{scope:Scope}{pos:Pos}{own:List Str}{wi:TI}{g:TG}{tt:TT}{te:TE}
theorem qd{jV:List (Addr×Obj)}{s2:Shared}{σ:L2.St}{H2:Hp}{cl:List (Str×Addr)}{it:Addr}{fp:List Addr}{tn:Nat->Heap->Prop}{J:It}{Q:VK}{E:Value->Shared->Prop}{RR:Value->Addr->Result->Shared->Prop}
  (hc:X.calm=true) (S:cu X nm scope) (m6:∀x c,cl.lookup x=some c->X.env.cells.lookup x=some c) (zq:∀y∈scope.names,y.2=.free->∃c,cl.lookup y.1=some c)
  (hg:∀cl C s H fp,PG (aU X nm scope own cl C s H fp) tg g) (ht:∀cl C s H fp,PTs (aU X nm scope own cl C s H fp) J7 tt) (he:∀cl C s H fp,PE (aU X nm scope own cl C s H fp) J8 te)
  (I2:Inv X jV σ H2 s2) (T:Turn X.prog X.w X.K tg J fp it tn) (st2:tn 0 s2.heap) (f2:∀b∈fp,pD X jV H2 b)
  (hR:∀ D,H2 D=none→∃ W:Nat→Nat→L2.St→Hp→Prop,
   (∃m,W 0 m (σ++gV own.length none) (upd H2 D (.lst [])))/\∀i m σ' H',W i m σ' H' ->
    (J.stop i H'∧Q (.ref D) H')∨(J.go i H'∧∀ x H2,J.yld i H' x H2→g x σ' H2 fun σ2 H3=>tt σ2 H3 fun b H4=>if b=true
     then te σ2 H4 fun y H5=>∃zL,H5 D=some (.lst zL)/\zL.length<sizeLine/\∃m',m'<m/\W (i+1) m' σ2 (upd H5 D (.lst (zL++[y])))
     else ∃m',m'<m/\W (i+1) m' σ2 H4))
  (Of:∀D C H6 s6,Inv X jV σ H6 s6->H6 C=none->C≠X.env.locals->X.s₀.heap.objs.size<=C->(∀x c,X.env.cells.lookup x=some c->c≠C)->(∀p∈X.pn++jV,p.1≠C)->(∃m,s6.heap.Ns C m)->Q (.ref D) H6->RR (.ref D) C (.ok .next) s6) :
  wpAny (model X.prog X.w) X.A (newList []) (fun zL s₃=>wpAny (model X.prog X.w) X.A (newFunctionEnv scope X.env.globals cl [] X.env.qual none .none (some X.env)) (fun cenv s₄=>codeAny (model X.prog X.w) X.A (.compStart (.ListComp J8 [⟨tg,iter,J7,0⟩] scope pos) 0 (.ref it) zL { cenv with scope:=relabel scope X.env }) (RR zL cenv.locals) s₄) E s₃) E s2:=by
 have no:∀{P:Value->Shared->Prop} (x:Value) (s':Shared),False->P x s':=fun _ _ f=>f.elim;refine wpAny_newObj_type (wpAny_newFunctionEnv S.cell (by intro y hy;simp at hy) (fun h₁ hns₁ hsb₁=>?_) S.kind);dsimp only at hns₁ hsb₁ ⊢;have I3:Inv X jV σ (upd H2 s2.heap.objs.size (.lst [])) { s2 with heap:=s2.heap.push { cls:=.type "list",dict:=none,data:=.seq ([]:List Value).toArray } }:=I2.IK (t':=s2.toks) (ys:=[]) (its:=[]) .nil (Qd _)
 generalize hG2:s2.heap.push { cls:=.type "list",dict:=none,data:=.seq ([]:List Value).toArray }=G2 at hns₁ hsb₁ I3 ⊢
 have hC:G2.objs.size=s2.heap.objs.size+1:=by rw[<- hG2,Sd]
 have up2:∀b o,s2.heap.get? b=some o->G2.get? b=some o:=fun b o e=>hG2▸PJ _ e;have up3:∀b o,G2.get? b=some o->h₁.get? b=some o:=fun b o e=>hsb₁.extBut b o (Qc (Px e)) (PJ _ e);have Og:G2.get? G2.objs.size=none:=Heap.get?_none_of_le (Pj _);have fpo:∀b∈fp,∃o,s2.heap.get? b=some o:=fun b hb=>by obtain⟨o,e,_⟩:=T.obj 0 _ st2 b hb;exact⟨o,e⟩
 have fpC:∀b∈fp,b≠G2.objs.size:=fun b hb=>by obtain⟨o,e⟩:=fpo b hb;exact Qc (Px (up2 b o e))
 have H3C:(upd H2 s2.heap.objs.size (.lst [])) G2.objs.size=none:=I3.hok.fresh (Pj _);have fpD:∀b∈fp,b≠s2.heap.objs.size:=fun b hb=>by obtain⟨o,e⟩:=fpo b hb;exact Qc (Px e)
 have L1:∀b∈fp,b∉frs X.stack:=fun b hb z=>by
  rcases Pk.mp (I3.vz b z) with y | y
  ·exact(f2 b hb).2.1 y
  ·exact(f2 b hb).2.2.1 y
 have ok':(aU X nm scope own cl G2.objs.size { s2 with heap:=G2 } (upd H2 s2.heap.objs.size (.lst [])) fp).Ok:=by
  refine ⟨I3.ok.mod,S.kind,I3.ok.glob,I3.ok.blt,Pj _,fun x y c e1 e2=>I3.ok.inj x y c (m6 x c e1) (m6 y c e2),fun x hx=>?_,fun x c z=>(nomatch z),I3.ok.hd,I3.ok.frames,.inl rfl,
   fun b hb=>⟨fpC b hb,fun x c e=>(f2 b hb).2.2.2.2.1 x c (m6 x c e)⟩,fun b o e=>I3.bs b o e,PL I3.ok.bsz I3.sz,fun b o e hb=>?_,fun b hb=>L1 b hb,I3.stack,I3.xA⟩
  ·have hx:(relabel scope X.env).names.lookup x=some .cell\/(relabel scope X.env).names.lookup x=some .free:=hx;have key:∀k,(relabel scope X.env).names.lookup x=some k->k≠.local->k=.cell\/k=.free->∃c,cl.lookup x=some c:=fun k hk _ hkk=>by
    obtain⟨k0,e0,z⟩:=cM X.env scope.names x k hk;have m0:=PySem.mem_of_lookup e0;have f0:k0=.free:=by
     rcases z with z | z
     ·subst z;rcases hkk with q | q
      ·exact absurd q (S.cell _ m0)
      ·exact q
     ·exact z.1
    exact zq (x,k0) m0 f0
   rcases hx with hx | hx
   ·exact key _ hx (by decide) (.inl rfl)
   ·exact key _ hx (by decide) (.inr rfl)
  ·rcases (f2 b hb).2.2.2.1 with z | z
   ·exact I3.ok.Ad b o e z
   ·exact absurd (PD (Px e) (PL I3.ok.bsz z)) (Qy _)
 have stat:∀{H':Hp},(∀b∈fp,H' b=none)->∀b∈fp,pD (aU X nm scope own cl G2.objs.size { s2 with heap:=G2 } (upd H2 s2.heap.objs.size (.lst [])) fp) [] H' b:=fun hn b hb=>⟨hn b hb,fpC b hb,L1 b hb,.inl hb,fun x c e=>(f2 b hb).2.2.2.2.1 x c (m6 x c e),fun p hp=>(nomatch (show p∈([]:List (Addr×Obj)) from hp))⟩
 have I4:Inv (aU X nm scope own cl G2.objs.size { s2 with heap:=G2 } (upd H2 s2.heap.objs.size (.lst [])) fp) [] (σ++gV own.length none) (upd H2 s2.heap.objs.size (.lst [])) { s2 with heap:=h₁,toks:=s2.toks+([]:List (Str×Value)).length }:=by
  refine⟨ok',rfl,I3.bare,Un.kept up3,⟨_,hns₁,fun i x v e1 e2 e3=>?_⟩,fun x c e=>?_,H3C,fun x c e=>I3.ig x c (m6 x c e),fun p hp=>(nomatch (show p∈([]:List (Addr×Obj)) from hp)),I3.hok.kept up3,?_⟩
  ·have e1:(nm++own)[i]?=some x:=e1;have hi:i<σ.length:=by
    by_cases hi:i<σ.length
    ·exact hi
    ·rw[P5 (Q3.mp hi),Qi]at e2;split at e2<;>cases e2
   rw[Pq hi]at e2;rw[Pq (by rw[S.len,<- I3.len];exact hi)]at e1;have key:∀k,(relabel scope X.env).names.lookup x=some k->k=.local\/k=.cell\/k=.free->scope.names.lookup x=some .free/\(k=.cell\/k=.free):=fun k hk hkk=>by
    obtain⟨k0,e0,z⟩:=cM X.env scope.names x k hk;have m0:=PySem.mem_of_lookup e0;have n1:k0≠.local:=fun y=>S.apart x (Q0 e1) (y▸e0);have n2:k0≠.cell:=S.cell _ m0;rcases z with z | z
    ·subst z;rcases hkk with q | q | q
     ·exact absurd q n1
     ·exact absurd q n2
     ·subst q;exact⟨e0,.inr rfl⟩
    ·obtain⟨z1,z2⟩:=z;subst z1;subst z2;exact⟨e0,.inl rfl⟩
   have hk:∃k,(relabel scope X.env).names.lookup x=some k/\(k=.cell\/k=.free)/\scope.names.lookup x=some .free:=by
    rcases (show (relabel scope X.env).names.lookup x=some .local\/(relabel scope X.env).names.lookup x=some .cell\/(relabel scope X.env).names.lookup x=some .free from e3) with q | q | q
    ·obtain⟨a,b⟩:=key _ q (.inl rfl);exact⟨_,q,b,a⟩
    ·obtain⟨a,b⟩:=key _ q (.inr (.inl rfl));exact⟨_,q,b,a⟩
    ·obtain⟨a,b⟩:=key _ q (.inr (.inr rfl));exact⟨_,q,b,a⟩
   obtain⟨k,hk1,hk2,hk3⟩:=hk;have m0:=PySem.mem_of_lookup hk3;obtain⟨c,hcc⟩:=zq (x,.free) m0 rfl;obtain⟨m,hn,hl⟩:=I3.loc;have hout:=S.free (x,.free) m0 rfl;have Oh:Vis X.env.scope x:=by
    rcases hout with q | q
    ·exact .inr (.inl q)
    ·exact .inr (.inr q)
   have e1':X.N[i]?=some x:=by
    rcases S.mask i x e1 with z | z
    ·exact z
    ·rw[z]at hk3;cases hk3
   obtain⟨u,ru,lk⟩:=hl i x v e1' e2 Oh;refine⟨u,ru,.inr ⟨?_,c,hcc,?_⟩⟩
   ·rcases hk2 with q | q
    ·subst q;exact .inl hk1
    ·subst q;exact .inr hk1
   ·rcases lk with⟨q,_⟩ | ⟨_,c',e',z⟩
    ·rcases hout with y | y
     ·rw[q]at y;cases y
     ·rw[q]at y;cases y
    ·rw[m6 x c hcc]at e';cases e';obtain⟨o,ho,hd⟩:=z;exact⟨o,up3 c o ho,hd⟩
  ·obtain⟨v,o,ho,hd⟩:=I3.cell x c (m6 x c e);exact⟨v,o,up3 c o ho,hd⟩
  ·show (σ++gV own.length none).length=(nm++own).length;rw[Pr,Pr,Qz,I3.len,S.len]
 obtain⟨W,⟨m0,w0⟩,turn⟩:=hR s2.heap.objs.size I2.fresh;have st4:tn 0 h₁:=T.keep 0 _ _ st2 fun b hb o e=>up3 b o (up2 b o e);have Oi:∀b∈fp,(upd H2 s2.heap.objs.size (.lst [])) b=none:=fun b hb=>by rw[ak (fpD b hb)];exact(f2 b hb).1
 have Fp:∀s₃:Shared,s₃={ s2 with heap:=h₁,toks:=s2.toks+([]:List (Str×Value)).length } ->
   codeAny (model X.prog X.w) X.A (.compLoop (.ListComp J8 [⟨tg,iter,J7,0⟩] scope pos) 0 (.ref it) (.ref s2.heap.objs.size) (compEnvC scope cl G2.objs.size X.env))
    (RR (.ref s2.heap.objs.size) G2.objs.size) s₃:=by
  rintro s₃ rfl;refine rK (fun n s'=>∃i σ' H',Inv (aU X nm scope own cl G2.objs.size { s2 with heap:=G2 } (upd H2 s2.heap.objs.size (.lst [])) fp) [] σ' H' s'/\tn i s'.heap/\(∀b∈fp,H' b=none)/\W i n σ' H') ?_ m0
   ⟨0,_,_,I4,st4,Oi,w0⟩
  rintro n s5 ⟨i,σ5,H5,I5,st5,fr5,w5⟩;rcases turn i n σ5 H5 w5 with⟨stop,q⟩ | ⟨go,step⟩
  ·refine wpAny_mono (T.done (aU X nm scope own cl G2.objs.size { s2 with heap:=G2 } (upd H2 s2.heap.objs.size (.lst [])) fp) rfl rfl rfl hc i [] s5 σ5 H5 (fun _ _=>False) I5 (stat fr5) st5 stop) (fun r s6 hr6=>?_) no;obtain⟨hr,I6⟩:=hr6;subst hr;have I7:Inv X jV σ H5 s6:=I3.Lp (ch:=fp) I6.os I6.base I6.hok I6.bare fun b hb=>⟨(f2 b hb).2.2.2.1,(f2 b hb).2.1,(f2 b hb).2.2.2.2.1,(f2 b hb).2.2.2.2.2⟩;refine Of _ _ H5 s6 I7 I6.free (RZ (show X.env.locals<G2.objs.size from I3.lt)) I3.sz (fun x c e=>?_) (fun p hp=>?_) (let ⟨m,hn,_⟩:=I6.loc;⟨m,hn⟩) q
   ·obtain⟨v,z⟩:=I3.cell x c e;exact Qc z.lt
   ·exact Qc (Px (I3.pin p hp).1)
  ·refine wpAny_mono (T.item (aU X nm scope own cl G2.objs.size { s2 with heap:=G2 } (upd H2 s2.heap.objs.size (.lst [])) fp) rfl rfl rfl hc i [] s5 σ5 H5 (fun _ _=>False) I5 (stat fr5) st5 go) (fun r s6 hr6=>?_) no;obtain⟨u,hr,h6⟩:=hr6;subst hr;refine wpAny_mono h6 (fun _ s7 h7=>?_) no;obtain⟨x,H7,I7,r7,y7,st7,fr7⟩:=h7;have I7':=I7.pinned (stat fr7) (T.obj _ _ st7);have again:∀{s9:Shared} {σ9:L2.St} {H9:Hp} {m':Nat},m'<n->Inv (aU X nm scope own cl G2.objs.size { s2 with heap:=G2 } (upd H2 s2.heap.objs.size (.lst [])) fp) ([]++mO fp s7.heap) σ9 H9 s9->W (i+1) m' σ9 H9 ->
     ∃m,m<n/\∃i σ' H',Inv (aU X nm scope own cl G2.objs.size { s2 with heap:=G2 } (upd H2 s2.heap.objs.size (.lst [])) fp) [] σ' H' s9/\tn i s9.heap/\(∀b∈fp,H' b=none)/\W i m σ' H':=fun {s9 σ9 H9 m'} hm I9 w9=>by
    refine⟨m',hm,i+1,σ9,H9,I9.jy,T.keep _ _ _ st7 fun b hb o e=>(I9.pin (b,o) (PB _ (PB _ (fu hb e)))).1,fun b hb=>?_,w9⟩;obtain⟨o,e,d⟩:=T.obj _ _ st7 b hb;exact(I9.pin (b,o) (PB _ (PB _ (fu hb e)))).2.1
   refine wpAny_mono (hg cl G2.objs.size _ _ fp _ s7 σ5 H7 x u _ I7' r7 (step x H7 y7)) (fun _ s8 h8=>?_) no;obtain⟨σ8,H8,I8,q8⟩:=h8;refine wpAny_mono (ht cl G2.objs.size _ _ fp _ s8 σ8 H8 _ I8 q8) (fun b s9 h9=>?_) no;obtain⟨H9,I9,q9⟩:=h9;cases b with
   |false=>rw[if_neg P0]at q9 ⊢;obtain⟨m',hm,w9⟩:=q9;exact again hm I9 w9
   |true=>rw[if_pos rfl]at q9 ⊢;refine wpAny_mono (he cl G2.objs.size _ _ fp _ s9 σ8 H9 _ I9 q9) (fun y s10 h10=>?_) no;obtain⟨yv,H10,I10,r10,zL,hacc,B3,m',hm,w10⟩:=h10;refine wpAny_mono (eT (X:=aU X nm scope own cl G2.objs.size { s2 with heap:=G2 } (upd H2 s2.heap.objs.size (.lst [])) fp) _ s10 σ8 H10 (.ref s2.heap.objs.size) [yv] (.ref s2.heap.objs.size) [y] (fun _ H'=>H'=upd H10 s2.heap.objs.size (.lst (zL++[yv]))) I10 rfl (.cons r10 .nil) ⟨_,zL,yv,rfl,rfl,hacc,B3,rfl⟩) (fun _ s11 h11=>?_) no;obtain⟨_,H11,I11,_,e11⟩:=h11;subst e11;exact again hm I11 w10
 exact codeAny_compStart_list (Fp _ rfl) (T.self _ 0 _ _ _ st4 (Fp _ rfl))
theorem rL(hc:X.calm=true)(S:cu X nm scope)(hi:PI X tg iter wi)
  (hg:∀cl C s H fp,PG (aU X nm scope own cl C s H fp) tg g) (ht:∀cl C s H fp,PTs (aU X nm scope own cl C s H fp) J7 tt) (he:∀cl C s H fp,PE (aU X nm scope own cl C s H fp) J8 te)
  (hs:∀x,foldedSetIterable iter X.env x=pure x:=by intro _;rfl):PE X (.ListComp J8 [⟨tg,iter,J7,0⟩] scope pos) (tLC wi own.length g tt te):=by
 intro jV s σ H Q I h;obtain⟨cl,hclos,m6,zq⟩:=m5 (env:=X.env) (scope:=scope) fun y hy hf=>I.ok.has y.1 (S.free y hy hf);rw[eval_ListComp];refine wpAny_comprehension_free (use:=none) rfl hs hclos S.kind S.names (thn (hi jV s σ H _ I h) fun v s1 h1=>thn h1 fun itv s2 h2=>?_);obtain⟨it,fp,tn,J,H2,e,I2,T,st2,f2,hR⟩:=h2;subst e;refine qd (Q:=Q) (RR:=fun zL C=>compPost (model X.prog X.w) X.A X.xe none (EP X jV σ Q) zL C) hc S m6 zq hg ht he I2 T st2 f2 hR ?_;intro D C H6 s6 I6 hCn hCL hCs hCc hCp hns q;obtain⟨m,hn⟩:=hns;refine⟨m,hn,fun h' hs'=>⟨.ref D,H6,I6.turned (t':=s6.toks) (fun b o hb e=>(hs'.2 b hb).trans e) hCn hCL (.inr hCs) hCc hCp,rfl,q⟩⟩
theorem dY{i:Nat}{y:Str}{py G4:Pos}(hN:X.N.Nodup)(hi':X.N[i]?=some y)(hy:Loc X.env.scope y)(hc:X.calm=true)(S:cu X nm scope)(hi:PI X tg iter wi)
  (hg:∀cl C s H fp,PG (aU X nm scope own cl C s H fp) tg g) (ht:∀cl C s H fp,PTs (aU X nm scope own cl C s H fp) J7 tt) (he:∀cl C s H fp,PE (aU X nm scope own cl C s H fp) J8 te)
  (hsw:swapsWith (.ListComp J8 [⟨tg,iter,J7,0⟩] scope pos) (some (.Name y py)) G4.line X.env=pure true:=by rfl)
  (hs:∀x,foldedSetIterable iter X.env x=pure x:=by intro _;rfl) (hf:X.fn y=true\/X.env.scope.names.lookup y=some .local:=by trivial) :
  PS X (.Assign [.Name y py] (.ListComp J8 [⟨tg,iter,J7,0⟩] scope pos) G4) (jx (tLC wi own.length g tt te) (dH i)):=by
 intro jV s σ H Dn I h;obtain⟨cl,hclos,m6,zq⟩:=m5 (env:=X.env) (scope:=scope) fun y hy hf=>I.ok.has y.1 (S.free y hy hf);rw[exec_Assign_Name_used _ _ _ _ hsw];refine wpAny_bind (wpAny_standAt (wpAny_bind ?_));show wpAny _ X.A (do let _ <- comprehension (.ListComp J8 [⟨tg,iter,J7,0⟩] scope pos) scope X.env _ (newList []) false (eval iter X.env) (some (assign (.Name y py) X.env))) _ _ s;refine wpAny_bind (wpAny_mono (wpAny_comprehension_free (use:=some (assign (.Name y py) X.env)) (Q:=fun _ s'=>SP X jV Dn .next s') rfl hs hclos S.kind S.names
  (thn (hi jV s σ H _ I h) fun v s1 h1=>thn h1 fun itv s2 h2=>?_)) (fun _ s' hq=>wpAny_pure (wpAny_pure hq)) fun _ _ e=>e)
 obtain⟨it,fp,tn,J,H2,e,I2,T,st2,f2,hR⟩:=h2;subst e;refine qd (Q:=fun x H1=>dH i x σ H1 Dn.nx) (RR:=fun zL C=>compPost (model X.prog X.w) X.A X.xe (some (assign (.Name y py) X.env)) (fun _ s'=>SP X jV Dn .next s') zL C) hc S m6 zq hg ht he I2 T st2 f2 hR ?_;intro D C H6 s6 I6 hCn hCL hCs hCc hCp hns q;obtain⟨m,hn⟩:=hns;show wpAny _ X.A (assign (.Name y py) X.env (.ref D)) _ _ _;refine wpAny_assign_Name (pU I6 hN hi' hy (v:=.ref D) rfl (fun s7 I7 h7=>?_) hf);obtain⟨a,sb,ha⟩:=h7;have hCa:C≠a:=by
  rcases ha with ha | ha
  ·rw[ha];exact hCL
  ·exact Ne.symm (hCc y a ha)
 refine⟨m,hn.sameBut sb hCa,fun h' hs'=>⟨_,H6,I7.turned (t':=s7.toks) (fun b o hb e=>(hs'.2 b hb).trans e) hCn hCL (.inr hCs) hCc hCp,q⟩⟩
end
mutual
noncomputable def toPy:Dat->PyData
 |.non=>.none
 |.bl b=>.bool b
 |.int i=>.int i
 |.str s=>.str ⟨s.toArray⟩
 |.tup xs=>.tuple (bW xs)
 |.lst xs=>.list (bW xs)
 |.dct _ _=>.dict []
 |.dcp _ _=>.dict []
 |.exc _=>.dict []
 |.dW _ _=>.dict []
 |.fn _=>.dict []
noncomputable def bW:List Dat->List PyData
 |[]=>[]
 |x::xs=>toPy x::bW xs
end
mutual
theorem jO:∀a b:Dat,QC (toPy a) (toPy b)=Dm.eqD a b
 |.non,b=>by cases b<;>simp[toPy,QC,Dm.eqD]
 |.bl x,b=>by cases b<;>simp[toPy,QC,Dm.eqD,Dm.b2i]
 |.int x,b=>by cases b<;>simp[toPy,QC,Dm.eqD,Dm.b2i]
 |.str x,b=>by
  cases b with
  |str y=>
   simp only[toPy,QC,Dm.eqD];rw[Rc];simp only[beq_iff_eq];constructor
   ·intro h;have h:=congrArg (fun s:Str=>s.cps.toList) h
    simpa using h
   ·rintro rfl;rfl
  |_=>simp[toPy,QC,Dm.eqD]
 |.tup xs,b=>by
  cases b with
  |tup ys=>simp only[toPy,QC,Dm.eqD];exact kI xs ys
  |_=>simp[toPy,QC,Dm.eqD]
 |.lst xs,b=>by
  cases b with
  |lst ys=>simp only[toPy,QC,Dm.eqD];exact kI xs ys
  |_=>simp[toPy,QC,Dm.eqD]
 |.dct ks vs,b=>by cases b<;>simp[toPy,QC,Dm.eqD]
 |.dcp ks vs,b=>by cases b<;>simp[toPy,QC,Dm.eqD]
 |.exc C,b=>by cases b<;>simp[toPy,QC,Dm.eqD]
 |.dW C v,b=>by cases b<;>simp[toPy,QC,Dm.eqD]
 |.fn C,b=>by cases b<;>simp[toPy,QC,Dm.eqD]
theorem kI:∀a b:List Dat,RS (bW a) (bW b)=Dm.cU a b
 |[],b=>by cases b<;>simp[bW,RS,Dm.cU]
 |x::xs,b=>by
  cases b with
  |nil=>simp[bW,RS,Dm.cU]
  |cons y ys=>simp only[bW,RS,Dm.cU];rw[jO x y,kI xs ys]
end
theorem Ba{s:List Nat}(h:(s.all fun c=>decide (c<128))=true):PyData.strOk ⟨s.toArray⟩=true:=by unfold PyData.strOk;rw[Array.all_eq_true'];intro c hc;have h1:=PY.mp h c (by simpa using hc);have h2:c<128:=of_decide_eq_true h1;exact decide_eq_true (by lia)
theorem bX{P:Program}{w:World}{H:Hp}{h:Heap}(ok:HOk P w H h):∀(n:Nat),
  (∀(v:V) (d:Dat) (u:Value),Rep H v d->RelV v u->Dm.okD n d=true->∃as,Reads h u (toPy d) as/\(toPy d).canLay0=true/\(toPy d).depth<=n) /\
  (∀(vs:List V) (ds:List Dat) (us:List Value),aB H vs ds->Vals vs us->ds.all (Dm.okD n)=true->∃as,ReadsAll h us (bW ds) as/\RW (bW ds)=true/\QZ (bW ds)<=n):=by
 intro n
 induction n with
 |zero=>
  have one:∀(v:V) (d:Dat) (u:Value),Rep H v d->RelV v u->Dm.okD 0 d=true->∃as,Reads h u (toPy d) as/\(toPy d).canLay0=true/\(toPy d).depth<=0:=by
   intro v d u r rv k;cases r with
   |non=>cases rv;exact⟨_,.none,rfl,Pj _⟩
   |bl b=>cases rv;exact⟨_,.bool b,rfl,Pj _⟩
   |int i=>obtain⟨t,rfl⟩:=rv;exact⟨_,.int i t,rfl,Pj _⟩
   |str s=>obtain⟨t,rfl⟩:=rv;exact⟨_,.str _ t,Ba k,Pj _⟩
   |tup _ _=>cases k
   |lst _ _=>cases k
   |dct _ _ _=>cases k
   |dcp _ _ _=>cases k
   |exc _=>cases k
   |dW _ _=>cases k
   |fn _=>cases k
  refine⟨one,fun vs ds=>?_⟩
  induction ds generalizing vs with
  |nil=>intro us r rv _;cases r;cases rv;exact⟨_,.nil,rfl,Pj _⟩
  |cons d ds ih=>
   intro us r rv k;cases r with
   |cons r rs=>
    cases rv with
    |cons q qs=>rw[Rb,Pz]at k;obtain⟨a1,h1,h2,h3⟩:=one _ _ _ r q k.1;obtain⟨a2,h4,h5,h6⟩:=ih _ _ rs qs k.2;exact⟨_,.cons h1 h4,by simp[bW,RW,h2,h5],by simp only[bW,QZ];lia⟩
 |succ n ih=>
  have one:∀(v:V) (d:Dat) (u:Value),Rep H v d->RelV v u->Dm.okD (n+1) d=true->∃as,Reads h u (toPy d) as/\(toPy d).canLay0=true/\(toPy d).depth<=n+1:=by
   intro v d u r rv k;cases r with
   |non=>cases rv;exact⟨_,.none,rfl,Qd _⟩
   |bl b=>cases rv;exact⟨_,.bool b,rfl,Qd _⟩
   |int i=>obtain⟨t,rfl⟩:=rv;exact⟨_,.int i t,rfl,Qd _⟩
   |str s=>obtain⟨t,rfl⟩:=rv;exact⟨_,.str _ t,Ba k,Qd _⟩
   |tup q rs=>cases rv;obtain⟨z,its,vr,ob,e,hc,m,hd⟩:=ok _ _ q;obtain⟨as,h1,h2,h3⟩:=ih.2 _ _ _ rs vr k;exact⟨_,.tuple e hc hd h1,h2,by simp only[toPy,PyData.depth];lia⟩
   |lst q rs=>cases rv;obtain⟨z,its,m,vr,e⟩:=q.ok ok;obtain⟨as,h1,h2,h3⟩:=ih.2 _ _ _ rs vr k;exact⟨_,.list e rfl rfl h1,h2,by simp only[toPy,PyData.depth];lia⟩
   |dct _ _ _=>cases k
   |dcp _ _ _=>cases k
   |exc _=>cases k
   |dW _ _=>cases k
   |fn _=>cases k
  refine⟨one,fun vs ds=>?_⟩
  induction ds generalizing vs with
  |nil=>intro us r rv _;cases r;cases rv;exact⟨_,.nil,rfl,Qd _⟩
  |cons d ds ih=>
   intro us r rv k;cases r with
   |cons r rs=>
    cases rv with
    |cons q qs=>rw[Rb,Pz]at k;obtain⟨a1,h1,h2,h3⟩:=one _ _ _ r q k.1;obtain⟨a2,h4,h5,h6⟩:=ih _ _ rs qs k.2;exact⟨_,.cons h1 h4,by simp[bW,RW,h2,h5],by simp only[bW,QZ];lia⟩
theorem kH.full{H0 H:Hp}(s:ai H0 H){v:V}{d:Dat}(r:kH H0 H v d):Rep H v d:=by
 rcases r with r | ⟨a,rfl,w⟩
 ·exact r.mono s
 ·cases d with
  |lst ds=>obtain⟨xs,q,rs⟩:=w;exact .lst (.inl q) (rs.mono s)
  |dct ks ds=>obtain⟨kvs,q,e,rs⟩:=w;exact .dct q e (rs.mono s)
  |dcp ks ds=>obtain⟨kvs,q,e,rs⟩:=w;exact .dcp q (e.mono s) (rs.mono s)
  |_=>exact Qf w
def EC(neg:Bool):R2:=fun x y H Q=>∃dx dy,Rep H x dx/\Rep H y dy/\Dm.okD 8 dx=true/\Dm.okD 8 dy=true/\Q (.bl (if neg then !Dm.eqD dx dy else Dm.eqD dx dy)) H
section
variable{X:Cx}
section
variable{k:Nat}
theorem Bb(hr:br k X.A):OpR X (compareOp .Eq) (EC false):=by intro jV s σ H x y v u Q I rx ry h;obtain⟨dx,dy,r1,r2,k1,k2,q⟩:=h;obtain⟨as,h1,h2,h3⟩:=(bX I.hok 8).1 x dx v r1 rx k1;obtain⟨bs,h4,h5,h6⟩:=(bX I.hok 8).1 y dy u r2 ry k2;have hu:=hr.units;refine PySem.SeqAt.compareEq_reads h1 h4 h2 h5 (by lia) ?_;rw[jO];exact⟨.bl (Dm.eqD dx dy),H,I,rfl,q⟩
theorem Ja(hr:br k X.A):OpR X (compareOp .NotEq) (EC true):=by intro jV s σ H x y v u Q I rx ry h;obtain⟨dx,dy,r1,r2,k1,k2,q⟩:=h;obtain⟨as,h1,h2,h3⟩:=(bX I.hok 8).1 x dx v r1 rx k1;obtain⟨bs,h4,h5,h6⟩:=(bX I.hok 8).1 y dy u r2 ry k2;have hu:=hr.units;refine PySem.SeqAt.compareNe_reads h1 h4 h2 h5 (by lia) ?_;rw[jO];exact⟨.bl (!Dm.eqD dx dy),H,I,rfl,q⟩
def ED(neg:Bool):R2:=fun x y H Q=>∃dx ds,Rep H x dx/\(Rep H y (.lst ds)\/Rep H y (.tup ds))/\Dm.okD 8 dx=true/\ds.all (Dm.okD 7)=true/\Q (.bl (if neg then !Dm.inD dx ds else Dm.inD dx ds)) H
theorem gx(x:Dat):∀ds:List Dat,((bW ds).any fun y=>QC y (toPy x))=Dm.inD x ds
 |[]=>rfl
 |d::ds=>by have:=gx x ds;unfold Dm.inD at this ⊢;simp only[bW,QT,jO];rw[this]
theorem Jb(hr:br k X.A):OpR X (compareOp .In) (ED false):=by
 intro jV s σ H x y v u Q I rx ry h;obtain⟨dx,ds,r1,r2,k1,k2,q⟩:=h;obtain⟨as,h1,h2,h3⟩:=(bX I.hok 8).1 x dx v r1 rx k1;have hu:=hr.units;rcases r2 with r2 | r2
 ·obtain⟨bs,h4,h5,h6⟩:=(bX I.hok 8).1 y (.lst ds) u r2 ry k2;have h6:QZ (bW ds)+1<=8:=h6;refine PySem.SeqAt.in_list_reads h4 h1 h5 h2 (by lia) ?_;rw[gx];exact⟨.bl (Dm.inD dx ds),H,I,rfl,q⟩
 ·obtain⟨bs,h4,h5,h6⟩:=(bX I.hok 8).1 y (.tup ds) u r2 ry k2;have h6:QZ (bW ds)+1<=8:=h6;refine PySem.SeqAt.in_tuple_reads h4 h1 h5 h2 (by lia) ?_;rw[gx];exact⟨.bl (Dm.inD dx ds),H,I,rfl,q⟩
theorem zu(hr:br k X.A):OpR X (compareOp .NotIn) (ED true):=by
 intro jV s σ H x y v u Q I rx ry h;obtain⟨dx,ds,r1,r2,k1,k2,q⟩:=h;obtain⟨as,h1,h2,h3⟩:=(bX I.hok 8).1 x dx v r1 rx k1;have hu:=hr.units;rcases r2 with r2 | r2
 ·obtain⟨bs,h4,h5,h6⟩:=(bX I.hok 8).1 y (.lst ds) u r2 ry k2;have h6:QZ (bW ds)+1<=8:=h6;refine PySem.SeqAt.notIn_list_reads h4 h1 h5 h2 (by lia) ?_;rw[gx];exact⟨.bl (!Dm.inD dx ds),H,I,rfl,q⟩
 ·obtain⟨bs,h4,h5,h6⟩:=(bX I.hok 8).1 y (.tup ds) u r2 ry k2;have h6:QZ (bW ds)+1<=8:=h6;refine PySem.SeqAt.notIn_tuple_reads h4 h1 h5 h2 (by lia) ?_;rw[gx];exact⟨.bl (!Dm.inD dx ds),H,I,rfl,q⟩
end
end
section
variable{H0 H:Hp}{ds:List Dat}{v:V}
theorem ay{i:Int}(r:kH H0 H v (.int i)):v=.int i:=by
 rcases r with r | ⟨a,_,w⟩
 ·exact Rep.isInt r
 ·exact Qf w
theorem EF{b:Bool}(r:kH H0 H v (.bl b)):v=.bl b:=by
 rcases r with r | ⟨a,_,w⟩
 ·exact Rep.rC r
 ·exact Qf w
theorem bH(s:ai H0 H)(r:kH H0 H v (.lst ds)):∃a xs,v=.ref a/\Rd H a (.lst xs)/\aB H0 xs ds:=by
 rcases r with r | ⟨a,e,xs,q,rs⟩
 ·cases r with
  |lst q rs=>exact⟨_,_,rfl,ai.rd s q,rs⟩
 ·exact⟨a,xs,e,.inl q,rs⟩
theorem gy(s:ai H0 H)(r:kH H0 H v (.tup ds)):∃a xs,v=.ref a/\H a=some (.tup xs)/\aB H0 xs ds:=by
 rcases r with r | ⟨a,_,w⟩
 ·cases r with
  |tup q rs=>exact⟨_,_,rfl,s _ _ q,rs⟩
 ·exact Qf w
theorem Jc:OpD (rI0 fun i j=>.int (i-j)) Dm.kq:=by
 intro H0 H x y dx dy z Q s rx ry e k;unfold Dm.kq at e;split at e
 ·cases e;cases ay rx;cases ay ry;exact⟨_,_,rfl,rfl,k _ H0 H (aI.refl s) (.int _)⟩
 ·cases e
theorem Bc:OpD (rI0 fun i j=>.bl (decide (i<j))) Dm.gLt:=by
 intro H0 H x y dx dy z Q s rx ry e k;unfold Dm.gLt at e;split at e
 ·cases e;cases ay rx;cases ay ry;exact⟨_,_,rfl,rfl,k _ H0 H (aI.refl s) (.bl _)⟩
 ·cases e
theorem Bd:OpD (rI0 fun i j=>.bl (decide (i<=j))) Dm.gLe:=by
 intro H0 H x y dx dy z Q s rx ry e k;unfold Dm.gLe at e;split at e
 ·cases e;cases ay rx;cases ay ry;exact⟨_,_,rfl,rfl,k _ H0 H (aI.refl s) (.bl _)⟩
 ·cases e
theorem L3:OpD (rI0 fun i j=>.bl (decide (j<i))) Dm.gGt:=by
 intro H0 H x y dx dy z Q s rx ry e k;unfold Dm.gGt at e;split at e
 ·cases e;cases ay rx;cases ay ry;exact⟨_,_,rfl,rfl,k _ H0 H (aI.refl s) (.bl _)⟩
 ·cases e
theorem L5:OpD (rI0 fun i j=>.bl (decide (j<=i))) Dm.gGe:=by
 intro H0 H x y dx dy z Q s rx ry e k;unfold Dm.gGe at e;split at e
 ·cases e;cases ay rx;cases ay ry;exact⟨_,_,rfl,rfl,k _ H0 H (aI.refl s) (.bl _)⟩
 ·cases e
theorem Jd:OpD (rI (fun _ j=>0<j) fun i j=>.int (i % j)) Dm.l_:=by
 intro H0 H x y dx dy z Q s rx ry e k;unfold Dm.l_ at e;split at e
 ·split at e
  ·rename_i hj;cases e;cases ay rx;cases ay ry;exact⟨_,_,rfl,rfl,hj,k _ H0 H (aI.refl s) (.int _)⟩
  ·cases e
 ·cases e
theorem Je:OpD (rI Ef fun i j=>.int (i ^ j.toNat)) Dm.vP:=by
 intro H0 H x y dx dy z Q s rx ry e k;unfold Dm.vP at e;split at e
 ·split at e
  ·rename_i hj;cases e;cases ay rx;cases ay ry;exact⟨_,_,rfl,rfl,⟨hj.1,hj.2.1,Nat.lt_trans hj.2.2 (by decide)⟩,k _ H0 H (aI.refl s) (.int _)⟩
  ·cases e
 ·cases e
theorem Jf:OpD (rI (fun _ j=>0<=j) fun i j=>.int (i / 2 ^ j.toNat)) Dm.zm:=by
 intro H0 H x y dx dy z Q s rx ry e k;unfold Dm.zm at e;split at e
 ·split at e
  ·rename_i hj;cases e;cases ay rx;cases ay ry;exact⟨_,_,rfl,rfl,hj,k _ H0 H (aI.refl s) (.int _)⟩
  ·cases e
 ·cases e
end
section
variable{X:Cx}
def GL(i j:Int):Prop:=0<j/\j<Dm.jJ
theorem Be:OpR X (binaryOp .FloorDiv) (rI GL fun i j=>.int (i / j)):=opI fun i j _ _ _ _ _ hc q=>by
 have h:j.natAbs.log2<9000:=by
  have h1:j.natAbs<2 ^ 200:=by
   have:=hc.2;unfold Dm.jJ at this;have h2:=hc.1;have e:(2:Nat) ^ 200=1606938044258990275541962092341162602522202993782792835301376:=by decide +kernel
   omega
  have h3:j.natAbs≠0:=by have:=hc.1;omega
  have:=(Nat.log2_lt h3).mpr h1;omega
 have e:i.fdiv j=i / j:=Int.fdiv_eq_ediv_of_nonneg i (Int.le_of_lt hc.1);rw[<- e]at q;exact floordiv_int (Int.ne_of_gt hc.1) q (.inl (PyProof.noPylong_of_log2 h))
end
theorem Jg:OpD (rI GL fun i j=>.int (i / j)) Dm.vO:=by
 intro H0 H x y dx dy z Q s rx ry e k;unfold Dm.vO at e;split at e
 ·split at e
  ·rename_i hj;cases e;cases ay rx;cases ay ry;exact⟨_,_,rfl,rfl,hj,k _ H0 H (aI.refl s) (.int _)⟩
  ·cases e
 ·cases e
theorem Oj(i:Int):RG i 1=i % 2:=PyProof.Rows.bitAnd_m1 i
theorem Jh:OpD (rI0 fun i j=>.int (RG i j)) Dm.A0:=by
 intro H0 H x y dx dy z Q s rx ry e k;unfold Dm.A0 at e;split at e
 ·split at e
  ·rename_i hj;subst hj;cases e;cases ay rx;cases ay ry;exact⟨_,_,rfl,rfl,k _ H0 H (aI.refl s) (by show Rep _ (V.int (RG _ 1)) _;rw[Oj];exact .int _)⟩
  ·cases e
 ·cases e
theorem Ji:UnD (rU fun i=>.int (-i)) Dm.Ey:=by
 intro H0 H x dx z Q s rx e k;unfold Dm.Ey at e;split at e
 ·cases e;cases ay rx;exact⟨_,rfl,k _ H0 H (aI.refl s) (.int _)⟩
 ·cases e
def Bf:R2:=fun x y H Q=>∃l b xs zs,x=.ref l/\y=.ref b/\Rd H l (.lst xs)/\Rd H b (.lst zs)/\xs.length+zs.length<=sizeLine/\∀p,H p=none->Q (.ref p) (upd H p (.lst (xs++zs)))
def Bg:R2:=fun x y H Q=>∃l k xs,x=.ref l/\y=.int k/\Rd H l (.lst xs)/\-(2 ^ 63)<=k/\k<2 ^ 63/\xs.length*k.toNat<=sizeLine /\
 ∀p,H p=none->Q (.ref p) (upd H p (.lst (gV k.toNat xs).flatten))
section
variable{X:Cx}
theorem EG:OpR X (binaryOp .Add) Bf:=by
 intro jV s σ H x y v u Q I rx ry h;obtain⟨l,b,xs,zs,rfl,rfl,hH,hB,hz,q⟩:=h;cases rx;cases ry;obtain⟨z,its,n,r,e⟩:=hH.ok I.hok;obtain⟨z2,its2,n2,r2,e2⟩:=hB.ok I.hok;have hl:=r.length;have hl2:=r2.length;refine PySem.P.add_list e e2 ?_ (by rw[Po,Po];lia);have ea:its.toArray++its2.toArray=(its++its2).toArray:=by simp
 rw[ea];exact⟨.ref _,_,I.IK (t':=s.toks) (r.append r2) (by rw[Pr];lia),rfl,q _ I.fresh⟩
theorem EH:OpR X (binaryOp .Mult) Bg:=by
 intro jV s σ H x y v u Q I rx ry h;obtain⟨l,k,xs,rfl,rfl,hH,h1,h2,hz,q⟩:=h;cases rx;obtain⟨t,rfl⟩:=ry;obtain⟨z,its,n,r,e⟩:=hH.ok I.hok;have hl:=r.length;have B3:its.toArray.size*k.toNat<=sizeLine:=by rw[Po,<- hl];exact hz
 have hcap:¬its.toArray.size*k.toNat>(2 ^ 63-1) / 8:=by
  have:(sizeLine:Nat)<=(2 ^ 63-1) / 8:=by decide
  lia
 have hfit:¬(!Builtin.List.listFitsIndex k)=true:=by rw[fitsIndex_both h1 h2];exact P0
 have L6:¬Rq (its.toArray.size*k.toNat)=true:=by rw[AH B3];exact P0
 have hnew:So (fun x1 x2=>x1++x2) #[] (gV (if its.toArray.isEmpty=true then 0 else k.toNat) its.toArray)=(gV k.toNat its).flatten.toArray:=by
  have f0:∀m:Nat,So (fun x1 x2=>x1++x2) #[] (gV m its.toArray)=(gV m its).flatten.toArray:=fun m=>by have:=foldl_rep its m [];rw[Ro]at this;exact this
  rw[f0];cases its with
  |nil=>simp
  |cons a r'=>rw[if_neg (by simp)]
 refine wpAny_binaryOp_repeat_ref (T := "list") (U := "int") (by decide) ⟨_,e,rfl⟩ (fun s'=>typeIs_int s' k t) noFill_list_mul F.fills_int_mul F.slot_int_rmul repeat_list F.slot_int_index.lookup
  (call_meets F.slot_int_rmul (typeIs_int s k t) F.entry_int_rmul (F.args_int_rmul_2 _ _) (int___rmul___int_list k t l its.toArray n)
   ⟨e,rfl,⟨_,e,rfl⟩,call_meets F.slot_list_mul ⟨_,e,rfl⟩ F.entry_list_mul (F.args_list_mul_2 _ _) (AutoListH.list___mul___list_int_3 l its.toArray n k t hfit hcap L6) ⟨e,?_⟩⟩)
 rw[hnew];exact⟨.ref _,_,I.IK (t':=s.toks) (r.rep k.toNat) (by rw[len_rep,Nat.mul_comm];exact hz),rfl,q _ I.fresh⟩
theorem EI:OpR X (binaryOp .Add) (fun x y H Q=>rI0 (fun i j=>.int (i+j)) x y H Q\/Bf x y H Q):=Io.or EG
theorem EJ:OpR X (binaryOp .Mult) (fun x y H Q=>rI As (fun i j=>.int (i*j)) x y H Q\/Bg x y H Q):=Iq.or EH
end
theorem Jj:OpD (fun x y H Q=>rI0 (fun i j=>.int (i+j)) x y H Q\/Bf x y H Q) Dm.cj:=by
 intro H0 H x y dx dy z Q s rx ry e k;unfold Dm.cj at e;split at e
 ·cases e;cases ay rx;cases ay ry;exact .inl ⟨_,_,rfl,rfl,k _ H0 H (aI.refl s) (.int _)⟩
 ·split at e
  ·rename_i hz;cases e;obtain⟨a,us,rfl,qa,ra⟩:=bH s rx;obtain⟨b,ws,rfl,qb,rb⟩:=bH s ry;refine .inr ⟨a,b,us,ws,rfl,rfl,qa,qb,by rw[ra.length,rb.length];exact jK hz,fun p hp=>?_⟩;exact k _ _ _ (aI.mh s hp) ⟨p,rfl,hp,s.free hp,_,au,ra.append rb⟩
  ·cases e
 ·cases e
theorem Jk:OpD (fun x y H Q=>rI As (fun i j=>.int (i*j)) x y H Q\/Bg x y H Q) Dm.jI:=by
 intro H0 H x y dx dy z Q s rx ry e k;unfold Dm.jI at e;split at e
 ·split at e
  ·rename_i hj;cases e;cases ay rx;cases ay ry;exact .inl ⟨_,_,rfl,rfl,hj,k _ H0 H (aI.refl s) (.int _)⟩
  ·cases e
 ·split at e
  ·rename_i hz;cases e;cases ay ry;obtain⟨a,us,rfl,qa,ra⟩:=bH s rx;obtain⟨h1,h2,h3⟩:=hz;unfold Dm.BIG at h1 h2;refine .inr ⟨a,_,us,rfl,rfl,qa,by lia,by lia,by rw[ra.length];exact jK h3,fun p hp=>?_⟩;exact k _ _ _ (aI.mh s hp) ⟨p,rfl,hp,s.free hp,_,au,ra.rep _⟩
  ·cases e
 ·cases e
theorem GN:OpD (EC false) Dm.gEq:=by
 intro H0 H x y dx dy z Q s rx ry e k;unfold Dm.gEq at e;split at e
 ·rename_i hk;rw[Pz]at hk;cases e;exact⟨dx,dy,rx.full s,ry.full s,hk.1,hk.2,k _ H0 H (aI.refl s) (.bl _)⟩
 ·cases e
theorem L7:OpD (EC true) Dm.gNe:=by
 intro H0 H x y dx dy z Q s rx ry e k;unfold Dm.gNe at e;split at e
 ·rename_i hk;rw[Pz]at hk;cases e;exact⟨dx,dy,rx.full s,ry.full s,hk.1,hk.2,k _ H0 H (aI.refl s) (.bl _)⟩
 ·cases e
theorem L8:OpD (ED false) Dm.gIn:=by
 intro H0 H x y dx dy z Q s rx ry e k;unfold Dm.gIn at e;split at e
 ·split at e
  ·rename_i hk;rw[Pz]at hk;cases e;exact⟨dx,_,rx.full s,.inl (ry.full s),hk.1,hk.2,k _ H0 H (aI.refl s) (.bl _)⟩
  ·cases e
 ·split at e
  ·rename_i hk;rw[Pz]at hk;cases e;exact⟨dx,_,rx.full s,.inr (ry.full s),hk.1,hk.2,k _ H0 H (aI.refl s) (.bl _)⟩
  ·cases e
 ·cases e
theorem Bh:OpD (ED true) Dm.ck:=by
 intro H0 H x y dx dy z Q s rx ry e k;unfold Dm.ck at e;split at e
 ·split at e
  ·rename_i hk;rw[Pz]at hk;cases e;exact⟨dx,_,rx.full s,.inl (ry.full s),hk.1,hk.2,k _ H0 H (aI.refl s) (.bl _)⟩
  ·cases e
 ·split at e
  ·rename_i hk;rw[Pz]at hk;cases e;exact⟨dx,_,rx.full s,.inr (ry.full s),hk.1,hk.2,k _ H0 H (aI.refl s) (.bl _)⟩
  ·cases e
 ·cases e
theorem xO{H0:Hp}{xs:List V}{ds:List Dat}{i:Int}{d:Dat}(rs:aB H0 xs ds)(e:Dm.atI ds i=some d):∃v,L2.atI xs i=some v/\Rep H0 v d:=by
 unfold Dm.atI at e;cases q:Dm.ixN ds.length i with
 |none=>rw[q]at e;cases e
 |some j=>rw[q]at e;obtain⟨v,hv,r⟩:=rs.get (i:=j) e;refine⟨v,?_,r⟩;unfold L2.atI;rw[rs.length];have q':L2.ixN ds.length i=some j:=q;rw[q'];exact hv
theorem L_{K:Pf}:OpD (fun x y H Q=>zd K x y H Q\/vK K x y H Q) Dm.gIx:=by
 intro H0 H x y dx dy z Q s rx ry e k;unfold Dm.gIx at e;split at e
 ·rename_i ds i;cases q:Dm.atI ds i with
  |none=>rw[q]at e;cases e
  |some d=>rw[q]at e;cases e;cases ay ry;obtain⟨a,us,rfl,qa,ra⟩:=bH s rx;obtain⟨v,hv,rv⟩:=xO ra q;exact .inl ⟨a,us,i,v,rfl,rfl,.inl qa,hv,k _ H0 H (aI.refl s) rv⟩
 ·rename_i ds i;cases q:Dm.atI ds i with
  |none=>rw[q]at e;cases e
  |some d=>rw[q]at e;cases e;cases ay ry;obtain⟨a,us,rfl,qa,ra⟩:=gy s rx;obtain⟨v,hv,rv⟩:=xO ra q;exact .inr ⟨a,us,i,v,rfl,rfl,.inl (.inl qa),hv,k _ H0 H (aI.refl s) rv⟩
 ·cases e
theorem Jl{K:Pf}:CallD (fun xs H Q=>∃p ys,xs=[.ref p]/\(SqL K H p ys\/SqT K H p ys)/\Q (.int ys.length) H) Dm.cD:=by
 intro H0 H vs ds z Q s rs e k;unfold Dm.cD at e;split at e
 ·cases e;cases rs with
  |cons r rr=>cases rr;obtain⟨a,us,rfl,qa,ra⟩:=bH s r;exact⟨a,us,rfl,.inl (.inl qa),k _ H0 H (aI.refl s) (by rw[ra.length];exact .int _)⟩
 ·cases e;cases rs with
  |cons r rr=>cases rr;obtain⟨a,us,rfl,qa,ra⟩:=gy s r;exact⟨a,us,rfl,.inr (.inl (.inl qa)),k _ H0 H (aI.refl s) (by rw[ra.length];exact .int _)⟩
 ·cases e
theorem EK:CallD (fun xs H Q=>∃i j,xs=[.int i,.int j]/\Q (.int (if j<i then j else i)) H) Dm.p_:=by
 intro H0 H vs ds z Q s rs e k;unfold Dm.p_ at e;split at e
 ·cases e;cases rs with
  |cons r rr=>
   cases rr with
   |cons r' rr=>cases rr;cases ay r;cases ay r';exact⟨_,_,rfl,k _ H0 H (aI.refl s) (.int _)⟩
 ·cases e
theorem EL:CallD (fun xs H Q=>∃i j,xs=[.int i,.int j]/\Q (.int (if j>i then j else i)) H) Dm.qc:=by
 intro H0 H vs ds z Q s rs e k;unfold Dm.qc at e;split at e
 ·cases e;cases rs with
  |cons r rr=>
   cases rr with
   |cons r' rr=>cases rr;cases ay r;cases ay r';exact⟨_,_,rfl,k _ H0 H (aI.refl s) (.int _)⟩
 ·cases e
theorem EM{K:Pf}:CallD (fun xs H Q=>∃p ys,xs=[.ref p]/\(SqL K H p ys\/SqT K H p ys)/\∀l,H l=none->Q (.ref l) (upd H l (.lst ys))) Dm.gu:=by
 intro H0 H vs ds z Q s rs e k;unfold Dm.gu at e;split at e
 ·cases e;cases rs with
  |cons r rr=>cases rr;obtain⟨a,us,rfl,qa,ra⟩:=bH s r;exact⟨a,us,rfl,.inl (.inl qa),fun p hp=>k _ _ _ (aI.mh s hp) ⟨p,rfl,hp,s.free hp,_,au,ra⟩⟩
 ·cases e;cases rs with
  |cons r rr=>cases rr;obtain⟨a,us,rfl,qa,ra⟩:=gy s r;exact⟨a,us,rfl,.inr (.inl (.inl qa)),fun p hp=>k _ _ _ (aI.mh s hp) ⟨p,rfl,hp,s.free hp,_,au,ra⟩⟩
 ·cases e
theorem Bj{K:Pf}:CallD (fun xs H Q=>∃p ys,xs=[.ref p]/\((SqL K H p ys/\∀l,H l=none->Q (.ref l) (upd H l (.tup ys)))\/(SqT K H p ys/\Q (.ref p) H))) Dm.kF:=by
 intro H0 H vs ds z Q s rs e k;unfold Dm.kF at e;split at e
 ·cases e;cases rs with
  |cons r rr=>cases rr;obtain⟨a,us,rfl,qa,ra⟩:=bH s r;refine⟨a,us,rfl,.inl ⟨.inl qa,fun p hp=>?_⟩⟩;have g:=aI.A2 (o:=HO.tup us) s hp;exact k _ _ _ g (.tup au (ra.mono g.s0))
 ·cases e;cases rs with
  |cons r rr=>
   cases rr;rcases r with r | ⟨a,_,w⟩
   ·cases r with
    |tup q rs=>exact⟨_,_,rfl,.inr ⟨.inl (.inl (s _ _ q)),k _ H0 H (aI.refl s) (.tup q rs)⟩⟩
   ·exact Qf w
 ·cases e
noncomputable abbrev DS(X:Cx)(st:Stmt)(f:FS):Prop:=PS X st (tDS f)
noncomputable abbrev DSs(X:Cx)(st:List Stmt)(f:FS):Prop:=PSs X st (tDS f)
noncomputable abbrev DI(X:Cx)(tg it:Expr)(f:Dm.FI):Prop:=PI X tg it (tDI f)
theorem PI.weak{X:Cx}{tg it:Expr}{t t':TI}(h:PI X tg it t)(k:∀σ H R,t' σ H R->t σ H R):PI X tg it t':=fun jV s σ H R I q=>h jV s σ H R I (k σ H R q)
section
variable{X:Cx}{a b c e:Expr}{fa fb fc f:FE}{pos:Pos}
section
variable{g:Dat->Dat->Option RV}{r:List V->Hp->VK->Prop}{BZ:List Expr}{k:Nat}{x:Str}
theorem d_v(i:Nat)(hN:X.N[i]?=some x:=by rfl)(hv:Vis X.env.scope x:=by trivial)(hd:(x == ("__debug__" : Str))=false:=by decide)
  (G3:(x == ("__classdict__" : Str))=false:=by decide):DE X (.Name x pos) (Dm.eV i):=PE.weak (bM hN hv hd G3) fun _ _ _=>LI
theorem d_i{i:Int}{j}:DE X (.Constant (.int i) j pos) (Dm.eC (.int i)):=PE.weak kj fun _ _ _=>mC fun _=>.int i
theorem d_b{v:Bool}{j}:DE X (.Constant (.bool v) j pos) (Dm.eC (.bl v)):=PE.weak Lq fun _ _ _=>mC fun _=>.bl v
theorem d_n{j}:DE X (.Constant .none j pos) (Dm.eC .non):=PE.weak Ic fun _ _ _=>mC fun _=>.non
theorem rM{op:Operator}{r:R2}(o:OpR X (binaryOp op) r)(od:OpD r g)(ha:DE X a fa)(hb:DE X b fb):DE X (.BinOp a op b pos) (Dm.e2 g fa fb):=
 PE.weak (Lv o ha hb) fun _ _ _=>vR od
theorem cB(ha:DE X a fa)(hb:DE X b fb):DE X (.BinOp a .Add b pos) (Dm.e2 Dm.cj fa fb):=rM EI Jj ha hb
theorem qe(ha:DE X a fa)(hb:DE X b fb):DE X (.BinOp a .Sub b pos) (Dm.e2 Dm.kq fa fb):=rM Ip Jc ha hb
theorem jP(ha:DE X a fa)(hb:DE X b fb):DE X (.BinOp a .Mult b pos) (Dm.e2 Dm.jI fa fb):=rM EJ Jk ha hb
theorem GO(ha:DE X a fa)(hb:DE X b fb):DE X (.BinOp a .FloorDiv b pos) (Dm.e2 Dm.vO fa fb):=rM Be Jg ha hb
theorem m7(ha:DE X a fa)(hb:DE X b fb):DE X (.BinOp a .Mod b pos) (Dm.e2 Dm.l_ fa fb):=rM Ir Jd ha hb
theorem GP(ha:DE X a fa)(hb:DE X b fb):DE X (.BinOp a .Pow b pos) (Dm.e2 Dm.vP fa fb):=rM Iu Je ha hb
theorem Ma(ha:DE X a fa)(hb:DE X b fb):DE X (.BinOp a .RShift b pos) (Dm.e2 Dm.zm fa fb):=rM Iw Jf ha hb
theorem Jm(ha:DE X a fa)(hb:DE X b fb):DE X (.BinOp a .BitAnd b pos) (Dm.e2 Dm.A0 fa fb):=rM Iz Jh ha hb
theorem Mb(ha:DE X a fa):DE X (.UnaryOp .USub a pos) (Dm.e1 Dm.Ey fa):=PE.weak (Lw IA ha) fun _ _ _=>Oa Ji
theorem xP{op:CmpOp}{r:R2}(o:OpR X (compareOp op) r)(od:OpD r g)(ha:DE X a fa)(hb:DE X b fb)(hm:behindInMarks op b=false):DE X (.Compare a [op] [b] pos) (Dm.e2 g fa fb):=
 PE.weak (Eg o ha hb hm) fun _ _ _=>vR od
theorem m8{op:CmpOp}{r:R2}(o:OpR X (compareOp op) r)(od:OpD r g)(ha:DE X a fa)(hb:DE X b fb)(hm:behindInMarks op b=false):DT X (.Compare a [op] [b] pos) (Dm.tV (Dm.e2 g fa fb)):=
 PT.weak (Eh o ha hb hm) fun σ H Q h=>vR od (rD h)
theorem Jo(hr:br k X.A)(ha:DE X a fa)(hb:DE X b fb):DE X (.Compare a [.Eq] [b] pos) (Dm.e2 Dm.gEq fa fb):=xP (Bb hr) GN ha hb (fy _)
theorem Ol(ha:DE X a fa)(hb:DE X b fb):DE X (.Compare a [.Lt] [b] pos) (Dm.e2 Dm.gLt fa fb):=xP Au Bc ha hb (fy _)
theorem zh(hr:br k X.A)(ha:DE X a fa)(hb:DE X b fb)(hm:behindInMarks .In b=false:=by rfl):DE X (.Compare a [.In] [b] pos) (Dm.e2 Dm.gIn fa fb):=xP (Jb hr) L8 ha hb hm
theorem m9(hr:br k X.A)(ha:DE X a fa)(hb:DE X b fb):DT X (.Compare a [.Eq] [b] pos) (Dm.tV (Dm.e2 Dm.gEq fa fb)):=m8 (Bb hr) GN ha hb (fy _)
theorem gA(hr:br k X.A)(ha:DE X a fa)(hb:DE X b fb):DT X (.Compare a [.NotEq] [b] pos) (Dm.tV (Dm.e2 Dm.gNe fa fb)):=m8 (Ja hr) L7 ha hb (fy _)
theorem Jp(ha:DE X a fa)(hb:DE X b fb):DT X (.Compare a [.Lt] [b] pos) (Dm.tV (Dm.e2 Dm.gLt fa fb)):=m8 Au Bc ha hb (fy _)
theorem Jq(ha:DE X a fa)(hb:DE X b fb):DT X (.Compare a [.Gt] [b] pos) (Dm.tV (Dm.e2 Dm.gGt fa fb)):=m8 Lx L3 ha hb (fy _)
theorem Mc(ha:DE X a fa)(hb:DE X b fb):DT X (.Compare a [.GtE] [b] pos) (Dm.tV (Dm.e2 Dm.gGe fa fb)):=m8 Ly L5 ha hb (fy _)
theorem xQ(hr:br k X.A)(ha:DE X a fa)(hb:DE X b fb)(hm:behindInMarks .NotIn b=false:=by rfl):DT X (.Compare a [.NotIn] [b] pos) (Dm.tV (Dm.e2 Dm.ck fa fb)):=m8 (zu hr) Bh ha hb hm
theorem aP(ha:DE X a fa)(hb:DE X b fb)(hs:b9 b:=by intro _ _;rfl):DE X (.Subscript a b pos) (Dm.e2 Dm.gIx fa fb):=PE.weak (iu (jC.or ku) ha hb hs) fun _ _ _=>vR L_
theorem af:DA X [] []:=PA.weak gj fun _ _ _=>LJ
theorem aa{es:List Expr}{fs:List FE}(h:DE X e f)(r:DA X es fs)(hs:starEach (e::es) X.env=(false,eval e X.env)::starEach es X.env:=by rfl):DA X (e::es) (f::fs):=PA.weak (dX h r hs) fun _ _ _=>IW
theorem xR{es:List Expr}{fs:List FE}{x1}(h:DA X es fs):DE X (.Tuple es x1 pos) (Dm.pI fs):=PE.weak (AA h) fun _ _ _=>LL
theorem cP{es:List Expr}{fs:List FE}(h:DA X es fs):DE X (.List es pos) (Dm.cT fs):=PE.weak (vF h) fun _ _ _=>LM
theorem zv{es:List Expr}{fs:List FE}{g:List Dat->Option RV}{id:String}{p:Pos}(hc:cY X (.builtin id) r)(cd:CallD r g)(hv:bootBuiltins x=some (.builtin id))(hg:Gl X x)(hm:X.mg x=none)(ha:DA X (e::es) fs)
  (hn:x ≠ "__name__" := by decide) (M0:(x == ("__debug__" : Str))=false:=by decide) (he:starEach (e::es) X.env=(false,eval e X.env)::starEach es X.env:=by rfl) (Ct:(backTo pos (starEach es X.env)).any (·.1)=false:=by rfl) :
  DE X (.Call (.Name x p) (e::es) [] pos) (Dm.eB g fs):=PE.weak (mR hc hg hm hv ha hn M0 he Ct) fun _ _ _=>LK cd
theorem Jr{es:List Expr}{fs:List FE}{g:List Dat->Option RV}{T:String}{p:Pos}(hc:cY X (.type T) r)(cd:CallD r g)(hv:bootBuiltins x=some (.type T))(hg:Gl X x)(hm:X.mg x=none)(ha:DA X (e::es) fs)
  (hn:x ≠ "__name__" := by decide) (M0:(x == ("__debug__" : Str))=false:=by decide) (he:starEach (e::es) X.env=(false,eval e X.env)::starEach es X.env:=by rfl) (Ct:(backTo pos (starEach es X.env)).any (·.1)=false:=by rfl) :
  DE X (.Call (.Name x p) (e::es) [] pos) (Dm.eB g fs):=PE.weak (p7 hc hg hm hv ha hn M0 he Ct) fun _ _ _=>LK cd
variable{es:List Expr}{fs:List FE}{p:Pos}
theorem dc(hg:Gl X "len")(hm:X.mg "len" = none)(ha:DA X [e] fs)(he:starEach [e] X.env=[(false,eval e X.env)]:=by rfl)(Ct:(backTo pos (starEach [] X.env)).any (·.1)=false:=by rfl):DE X (.Call (.Name "len" p) [e] [] pos) (Dm.eB Dm.cD fs):=zv q_ Jl PySem.boot_len hg hm ha (he:=he) (Ct:=Ct)
theorem Bk(hc:X.calm=true)(hg:Gl X "min")(hm:X.mg "min" = none)(ha:DA X [a,b] fs)(he:starEach [a,b] X.env=(false,eval a X.env)::starEach [b] X.env:=by rfl)(Ct:(backTo pos (starEach [b] X.env)).any (·.1)=false:=by rfl):DE X (.Call (.Name "min" p) [a,b] [] pos) (Dm.eB Dm.p_ fs):=zv (y_ hc) EK (by rfl) hg hm ha (he:=he) (Ct:=Ct)
theorem Bl(hc:X.calm=true)(hg:Gl X "max")(hm:X.mg "max" = none)(ha:DA X [a,b] fs)(he:starEach [a,b] X.env=(false,eval a X.env)::starEach [b] X.env:=by rfl)(Ct:(backTo pos (starEach [b] X.env)).any (·.1)=false:=by rfl):DE X (.Call (.Name "max" p) [a,b] [] pos) (Dm.eB Dm.qc fs):=zv (y9 hc) EL (by rfl) hg hm ha (he:=he) (Ct:=Ct)
theorem kJ(hg:Gl X "list")(hm:X.mg "list" = none)(ha:DA X [e] fs)(he:starEach [e] X.env=[(false,eval e X.env)]:=by rfl)(Ct:(backTo pos (starEach [] X.env)).any (·.1)=false:=by rfl):DE X (.Call (.Name "list" p) [e] [] pos) (Dm.eB Dm.gu fs):=Jr rj EM (by rfl) hg hm ha (he:=he) (Ct:=Ct)
theorem rN(hg:Gl X "tuple")(hm:X.mg "tuple" = none)(ha:DA X [e] fs)(he:starEach [e] X.env=[(false,eval e X.env)]:=by rfl)(Ct:(backTo pos (starEach [] X.env)).any (·.1)=false:=by rfl):DE X (.Call (.Name "tuple" p) [e] [] pos) (Dm.eB Dm.kF fs):=Jr pH Bj (by rfl) hg hm ha (he:=he) (Ct:=Ct)
theorem aN{F:Addr}{fd:FuncData}{ps:List Str}{g:List Dat->Option RV}(G:aT X.prog X.w X.K X.mg X.base CX0 k F fd ps (spD g))(hr:br k X.A)(hg:Gl X x)(hm:X.mg x=some (.ref F))(hk:Qq X.K (.ref F)=true)(hb:Binds X.K fd ps [])
  (ha:DA X (e::es) fs) (M0:(x == ("__debug__" : Str))=false:=by decide) (he:starEach (e::es) X.env=(false,eval e X.env)::starEach es X.env:=by rfl) (Ct:(backTo pos (starEach es X.env)).any (·.1)=false:=by rfl) :
  DE X (.Call (.Name x p) (e::es) [] pos) (Dm.eF g fs):=PE.weak (fB G hr hg hm hk hb .nil (jE (X:=X)) ha M0 he Ct) fun _ _ _=>A4
theorem qf{op}(h:DE X a fa):DE X (.BoolOp op [a] pos) fa:=Ie h
theorem qg(ha:DE X a fa)(hb:DE X (.BoolOp .And (b::BZ) pos) fb):DE X (.BoolOp .And (a::b::BZ) pos) (Dm.kD fa fb):=PE.weak (Ig ha hb) fun _ _ _=>LN
theorem GQ(ha:DE X a fa):DE X (.UnaryOp .Not a pos) (Dm.AZ fa):=PE.weak (Ih ha) fun _ _ _=>LO
noncomputable abbrev DW(X:Cx)(e:Expr)(f:FT):Prop:=PW X e (tDT f)
theorem PW.weak{t t':TT}(h:PW X e t)(k:∀σ H Q,t' σ H Q->t σ H Q):PW X e t':=fun whole jV s σ H Q I q=>h whole jV s σ H Q I (k σ H Q q)
variable{ta tb:FT}
theorem ng(h:DT X a ta):DW X (.BoolOp .And [a] pos) ta:=pw_and1 h
theorem fW(h:DT X a ta):DW X (.BoolOp .Or [a] pos) ta:=pw_or1 h
theorem w_and(ha:DT X a ta)(hb:DW X (.BoolOp .And (b::BZ) pos) tb):DW X (.BoolOp .And (a::b::BZ) pos) (Dm.iE ta tb):=PW.weak (pw_and ha hb) fun _ _ _=>IY
theorem w_or(ha:DT X a ta)(hb:DW X (.BoolOp .Or (b::BZ) pos) tb):DW X (.BoolOp .Or (a::b::BZ) pos) (Dm.tOr ta tb):=PW.weak (pw_or ha hb) fun _ _ _=>LP
theorem t_w(h:DW X a ta):DT X a ta:=h.pt
theorem dZ(h:DT X a ta):DT X (.UnaryOp .Not a pos) (Dm.cA ta):=PT.weak (Ag h) fun _ _ _=>IX
theorem dJ(h:DE X e f)(he:∀whole,isTrue e X.env whole=(do let v <- whole;standAt e.pos;holding [v] (truthy v)):=by intro _;rfl):DT X e (Dm.tV f):=PT.weak (Af h he) fun _ _ _=>rD
variable{tg:Expr}
theorem rO(hg:Gl X "range")(hm:X.mg "range" = none)(ha:DA X [a] [fa])(hs:starEach [a] X.env=[(false,eval a X.env)]:=by rfl):DI X tg (.Call (.Name "range" p) [a] [] pos) (Dm.iR1 fa):=
 PI.weak (yX hg hm ha hs) fun _ _ _=>LY
theorem EN(hg:Gl X "range")(hm:X.mg "range" = none)(ha:DA X [a,b] [fa,fb])(hs:starEach [a,b] X.env=[(false,eval a X.env),(false,eval b X.env)]:=by rfl)(hs2:starEach [b] X.env=[(false,eval b X.env)]:=by rfl):DI X tg (.Call (.Name "range" p) [a,b] [] pos) (Dm.iR2 fa fb):=
 PI.weak (yY hg hm ha hs hs2) fun _ _ _=>LZ
end
end
section
variable{X:Cx}{st:Stmt}{BZ:List Stmt}{fs gs:FS}{e a b c:Expr}{f fa fb:FE}{pos:Pos}
section
variable{is:List Nat}{es:List Expr}{x:Str}{body:List Stmt}{t:FT}
theorem b5:DSs X [] Dm.sNx:=PSs.weak jv fun _ _ _=>Ob
theorem ao(h1:DS X st fs)(h2:DSs X BZ gs):DSs X (st::BZ) (Dm.aC fs gs):=PSs.weak (bf h1 h2) fun _ _ _=>LR
theorem az(h1:DS X st fs):DSs X [st] fs:=fk h1
theorem s_a(i:Nat){pos':Pos}(hN:X.N.Nodup)(he:DE X e f)(hi:X.N[i]?=some x:=by rfl)(hx:Loc X.env.scope x:=by trivial)(hs:swapsWith e (some (.Name x pos')) pos.line X.env=pure false:=by rfl)
  (hf:X.fn x=true\/X.env.scope.names.lookup x=some .local:=by trivial):DS X (.Assign [.Name x pos'] e pos) (Dm.sA i f):=PS.weak (qV hN hi hx he hs hf) fun _ _ _=>A6
theorem iH:PGs X [] (cE []):=Ea
theorem bz(i:Nat){px:Pos}(hN:X.N.Nodup)(h2:PGs X es (cE is))(hi:X.N[i]?=some x:=by rfl)(hx:Loc X.env.scope x:=by trivial)
  (hf:X.fn x=true\/X.env.scope.names.lookup x=some .local:=by trivial) (hs:(assignEach (.Name x px::es) X.env).map (·.2)=assign (.Name x px) X.env::(assignEach es X.env).map (·.2):=by rfl):PGs X (.Name x px::es) (cE (i::is)):=Ak (qT hN hi hx hf) h2 hs
theorem s_u{k:Nat}{tpos:Pos}(hc:X.calm=true)(hg:PGs X es (cE is))(he:DE X e f)(hn:(assignEach es X.env).length=is.length:=by rfl)(hst:(assignEach es X.env).findIdx? (·.1)=none:=by rfl)
  (hs:swapsWithSole [.Tuple es k tpos] e pos.line X.env=pure false:=by rfl) (hw:swappedStores [.Tuple es k tpos] e X.env=pure none:=by rfl) (h1:(assignEach [.Tuple es k tpos] X.env).map (·.2)=[assign (.Tuple es k tpos) X.env]:=by rfl) :
  DS X (.Assign [.Tuple es k tpos] e pos) (Dm.sU is f):=PS.weak (vA he (qU hc hg hn hst) hs hw h1) fun _ _ _=>A7 rfl
theorem s_e(he:DE X e f)(hs:swapsWith e none pos.line X.env=pure false:=by rfl):DS X (.Expr e pos) (Dm.sE f):=PS.weak (dj he hs) fun _ _ _=>IZ
theorem s_r(he:DE X e f):DS X (.Return (some e) pos) (Dm.sR f):=PS.weak (qS he) fun _ _ _=>LS
theorem dM{x y:List Stmt}(ht:DT X c t)(ha:DSs X x fs)(hb:DSs X y gs):DS X (.If c x y pos) (Dm.sIf t fs gs):=PS.weak (sX ht ha hb) fun _ _ _=>LU
theorem EO:DS X st (fun _=>none):=PS.weak Aj fun _ _ _ ⟨_,_,_,_,z,_⟩=>by cases z
theorem xS(i:Nat){px ap cp:Pos}(he:DE X e f)(hi:X.N[i]?=some x:=by rfl)(hv:Vis X.env.scope x:=by trivial)(hd:(x == ("__debug__" : Str))=false:=by decide)
  (G3:(x == ("__classdict__" : Str))=false:=by decide) (Fd:attributeBase (.Name x px) "append" X.env (eval (.Name x px) X.env)=eval (.Name x px) X.env:=by rfl)
  (hfew:((backTo cp (starEach [e] X.env)).all (fun x=>!x.1)&&(backToKw cp (keywordEach [] X.env)).all (fun x=>x.1.isSome)
   && decide ([e].length+([]:List Keyword).length+(if ([]:List Keyword).isEmpty then 0 else 1)<30))=true:=by rfl)
  (Cu:(ap.endLine == cp.line)=true:=by rfl) (hs:starEach [e] X.env=(false,eval e X.env)::starEach [] X.env:=by rfl) (G1:(backTo cp (starEach [] X.env)).any (·.1)=false:=by rfl)
  (hsw:swapsWith (.Call (.Attribute (.Name x px) "append" ap) [e] [] cp) none pos.line X.env=pure false:=by rfl) :
  DS X (.Expr (.Call (.Attribute (.Name x px) "append" ap) [e] [] cp) pos) (Dm.rB i f):=
 PS.weak (dj (tu Qv Q6 Q7 eT (bM hi hv hd G3) (aa he af hs) Fd hfew Cu hs G1) hsw) fun _ _ _=>LV
theorem Me(i:Nat){j:Expr}{fj:FE}{px sp:Pos}(hj:DE X j fj)(he:DE X e f)(hi:X.N[i]?=some x:=by rfl)(hv:Vis X.env.scope x:=by trivial)(hd:(x == ("__debug__" : Str))=false:=by decide)
  (G3:(x == ("__classdict__" : Str))=false:=by decide) (ha:∀ v,assign (.Subscript (.Name x px) j sp) X.env v=(do
   let ov <- holding [v] (eval (.Name x px) X.env)
   let iv <- holding [v,ov] (eval j X.env)
   standAt sp
   holding [v,ov,iv] (setItem ov iv v)
   release [v,ov,iv] []):=by intro _;rfl)
  (hs:swapsWithSole [.Subscript (.Name x px) j sp] e pos.line X.env=pure false:=by rfl) (hw:swappedStores [.Subscript (.Name x px) j sp] e X.env=pure none:=by rfl) (h1:(assignEach [.Subscript (.Name x px) j sp] X.env).map (·.2)=[assign (.Subscript (.Name x px) j sp) X.env]:=by rfl) :
  DS X (.Assign [.Subscript (.Name x px) j sp] e pos) (Dm.zl i fj f):=PS.weak (vA he (Ik (bM hi hv hd G3) hj set_list ha) hs hw h1) fun _ _ _=>LW
theorem Js(n:Nat)(hp:PassesOwn (model X.prog X.w) X.A X.env X.xe)(ht:DT X c t)(hb:DSs X body fs):DS X (.While c body [] pos) (Dm.whD t fs n):=PS.weak (Am hp ht hb) fun _ _ _=>Ez
structure TG'(X:Cx)(tg:Expr)(is:List Nat)(bd:Dm.FB):Prop where
 ex:∃g,PG X tg g/\BD is g bd
theorem g_n(i:Nat){px:Pos}(hN:X.N.Nodup)(hi:X.N[i]?=some x:=by rfl)(hx:Loc X.env.scope x:=by trivial)(hf:X.fn x=true\/X.env.scope.names.lookup x=some .local:=by trivial) :
  TG' X (.Name x px) [i] (Dm.bN i):=⟨⟨_,qT hN hi hx hf,xN i⟩⟩
theorem g_t{k:Nat}{tpos:Pos}(hc:X.calm=true)(hg:PGs X es (cE is))(hn:(assignEach es X.env).length=is.length:=by rfl)(hst:(assignEach es X.env).findIdx? (·.1)=none:=by rfl):TG' X (.Tuple es k tpos) is (Dm.bT is):=
 ⟨⟨_,qU hc hg hn hst,A8 is rfl⟩⟩
theorem d7{tg it:Expr}{fi:Dm.FI}{bd:Dm.FB}(hp:PassesOwn (model X.prog X.w) X.A X.env X.xe)(hc:X.calm=true)(hi:DI X tg it fi)(hg:TG' X tg is bd)(hb:DSs X body fs)
  (hs:∀x,foldedSetIterable it X.env x=pure x:=by intro _;rfl):DS X (.For tg it body [] pos) (Dm.fC fi bd fs):=by
 obtain⟨g,h1,h2⟩:=hg.ex;exact PS.weak (qX hp hc hi h1 hb hs) fun _ _ _=>LX h2
end
end
noncomputable def tyName:Dat->String
 |.non => "NoneType"
 |.bl _ => "bool"
 |.int _ => "int"
 |.str _ => "str"
 |.tup _ => "tuple"
 |.lst _ => "list"
 |.dct _ _ => "dict"
 |.dcp _ _ => "dict"
 |.exc _ => "dict"
 |.dW _ _ => "dict"
 |.fn _ => "dict"
def zw(T:String)(p:Dat->Bool):Prop:=∀(K:Pf) (d:Dat),Sb K (.type (tyName d)) (.type T)=some (p d)
theorem xT:zw "int" Dm.isI:=fun K d=>by cases d<;>rfl
theorem tN:zw "bool" Dm.isB:=fun K d=>by cases d<;>rfl
theorem jQ:zw "list" Dm.isL:=fun K d=>by cases d<;>rfl
theorem kit_tuple:zw "tuple" Dm.isT:=fun K d=>by cases d<;>rfl
theorem Bm{K:Pf}{H:Hp}{v:V}{d:Dat}(r:Rep H v d)(nx:∀C,d≠.exc C/\d≠.fn C/\∀v,d≠.dW C v):jz K H v (.type (tyName d)):=by
 cases r with
 |non=>exact .non
 |bl b=>exact .bl b
 |int i=>exact .int i
 |str s=>exact .str _
 |tup q _=>exact .tup q
 |lst q _=>
  rcases q with q | ⟨o,q⟩
  ·exact .lst q
  ·exact .frz q
 |dct q _ _=>exact .dK q
 |dcp q _ _=>exact .dT q
 |exc _=>exact absurd rfl (nx _).1
 |dW _ _=>exact absurd rfl ((nx _).2.2 _)
 |fn _=>exact absurd rfl (nx _).2.1
def Mf(K:Pf)(T:String):List V->Hp->VK->Prop:=fun xs H Q=>∃x t b,xs=[x,.ty T]/\jz K H x t/\Sb K t (.type T)=some b/\Q (.bl b) H
section
variable{X:Cx}{e:Expr}{f:FE}{p p2 pos:Pos}
theorem Bo{T:String}:cY X (.builtin "isinstance") (Mf X.K T):=by intro jV s σ H xs us Q I r h;obtain⟨x,t,b,rfl,ty,e,q⟩:=h;obtain⟨u,u2,rfl,rx,ry⟩:=vals2 r;cases ry;exact zb I rx ty e fun tk=>⟨.bl b,H,I.tok tk,rfl,q⟩
theorem Mg{K:Pf}{T:String}{p:Dat->Bool}(kp:zw T p){σ:L2.St}{H:Hp}{Q:VK}(h:tD (Dm.e1 (Dm.jH p) f) σ H Q):tCB (Mf K T) (jA (tD f) (jA (tC (.ty T)) pF)) σ H Q:=by
 obtain⟨H0,ρ,x,ρ',st,e,k⟩:=h;unfold Dm.e1 at e;split at e
 ·cases e
 rename_i x1 ρ1 e1;split at e
 ·cases e
 rename_i dx p1;have nx:∀C,dx≠.exc C/\dx≠.fn C/\∀v,dx≠.dW C v:=fun C=>⟨fun z=>(by subst z;cases e),fun z=>(by subst z;cases e),fun v z=>(by subst z;cases e)⟩;have ev:Dm.jH p dx=Dm.vB (p dx):=by cases dx<;>first | rfl | exact absurd rfl (nx _).1 | exact absurd rfl (nx _).2.1 | exact absurd rfl ((nx _).2.2 _)
 rw[ev]at e;dsimp only at e;cases e;refine⟨H0,ρ,x1,_,st,e1,fun v H1 Hb t1 r1=>?_⟩;exact⟨v,_,_,rfl,Bm ((r1.look t1.st p1).full t1.st.same) nx,kp K dx,k _ H1 Hb t1 (Rep.bl _)⟩
theorem iy{T:String}{tn:Str}{p':Dat->Bool}(kp:zw T p')(hvT:bootBuiltins tn=some (.type T))(hgT:Gl X tn)(hmT:X.mg tn=none)(hg:Gl X "isinstance")(hm:X.mg "isinstance" = none)(h:DE X e f)
  (hn:tn ≠ "__name__" := by decide) (M0:(tn == ("__debug__" : Str))=false:=by decide)
  (he:starEach [e,.Name tn p2] X.env=(false,eval e X.env)::starEach [.Name tn p2] X.env:=by rfl) (Ct:(backTo pos (starEach [.Name tn p2] X.env)).any (·.1)=false:=by rfl) (he2:starEach [.Name tn p2] X.env=(false,eval (.Name tn p2) X.env)::starEach [] X.env:=by rfl) :
  DE X (.Call (.Name "isinstance" p) [e,.Name tn p2] [] pos) (Dm.e1 (Dm.jH p') f):=
 PE.weak (mR Bo hg hm PyProof.Rows.boot_isinstance (dX h (dX (D_ (v:=.ty T) hgT hmT hvT rfl hn M0) gj he2) he) (he:=he) (Ct:=Ct)) fun _ _ _=>Mg kp
theorem all_range(bs:List Bool):(Pu bs.length).all (fun i=>bs.getD i true)=bs.all id:=by
 rw[Rc,PY,PY];constructor
 ·intro h b hb;obtain⟨i,hi,rfl⟩:=List.mem_iff_getElem.mp hb;have:=h i (Qp.mpr hi);rw[Qg,Pp hi]at this;exact this
 ·intro h i hi;have hi:=Qp.mp hi;rw[Qg,Pp hi];exact h _ (Rx hi)
theorem zx(hc:X.calm=true):cY X (.builtin "all") (fun xs H Q=>∃(a:Addr) (bs:List Bool),xs=[.ref a]/\Rd H a (.lst (bs.map V.bl))/\Q (.bl (bs.all id)) H):=by
 intro jV s σ H xs us Q I r h;obtain⟨a,bs,rfl,hq,q⟩:=h;obtain⟨u,rfl,rx⟩:=vals1 r;cases rx;obtain⟨z,its,n,rv,e⟩:=hq.ok I.hok;have hl:s.heap.IsList a its.toArray:=⟨_,e,rfl,_,rfl⟩
 have B3:=rv.length;rw[Pg]at B3;have hax:a≠s.heap.objs.size:=Qc (Px e);refine PySem.call_all_walk (wpAny_pyIter_list hl ⟨s.heap.objs.size,_,_,_,_,_,fun i=>bs.getD i true,rfl,Walks.list (A:=X.A.in1) (I.ok.hd hc) s.heap.objs.size a hax its.toArray,⟨⟨_,Qs _ rfl,rfl,rfl⟩,hl.push _⟩,?_,fun h' tk hk=>?_⟩)
 ·intro i v s' Q' E' hv hQ';have hv':its[i]?=some v:=by simpa using hv
  have hi:i<bs.length:=by rw[B3];exact(Ph.mp hv').1
  have hb:(bs.map V.bl)[i]?=some (V.bl bs[i]):=by rw[Py,Pp hi];rfl
  obtain⟨u,hu,ru⟩:=rv.get hb;rw[hv']at hu;cases hu;cases ru;refine wpAny_truthy_bool ?_;have e2:bs.getD i true=bs[i]:=by rw[Qg,Pp hi];rfl
  rw[<- e2];exact hQ'
 ·have e1:its.toArray.size=bs.length:=by rw[Po,B3]
  rw[e1,all_range];refine⟨.bl _,H,I.kept (t':=tk) fun b o eb=>hk b o ?_ (PJ _ eb),rfl,q⟩;intro hm;have:b=s.heap.objs.size:=by simpa using hm
  exact absurd (Px eb) (by rw[this];exact Qy _)
end
section
variable{X:Cx}{a b c e:Expr}{f fa fb fc:FE}{p p2 pos:Pos}
section
variable{g h:Dat->Dat->Option RV}{σ:L2.St}{H:Hp}{Q:VK}
theorem ER{r r':R2}(o1:OpD r g)(o2:OpD r' h)(hh:tD (Dm.fD g h fa fb fc) σ H Q):Aw r r' (tD fa) (tD fb) (tD fc) σ H Q:=by
 obtain⟨H0,ρ,x,ρ',st,e,k⟩:=hh;unfold Dm.fD at e;split at e
 ·cases e
 rename_i x1 ρ1 e1;split at e
 ·cases e
 rename_i y1 ρ2 e2;split at e
 ·cases e
 rename_i dx p1;split at e
 ·cases e
 rename_i dy p2;refine⟨H0,ρ,x1,ρ1,st,e1,fun v H1 Hb t1 r1=>⟨H1,ρ1,y1,ρ2,t1.st,e2,fun u H2 Hc t2 r2=>?_⟩⟩;split at e
 ·rename_i gz;refine o1 H2 Hc v u dx dy _ _ t2.st.same ((r1.mono t2).look t2.st p1) (r2.look t2.st p2) gz fun w H3 Hd g3 r3=>?_;refine⟨true,Rep.rC r3,?_⟩;rw[if_pos rfl];have t3:=t2.trans (.grow t2.st g3);have r2':=r2.mono (.grow t2.st g3);split at e
  ·cases e
  rename_i z ρ3 e3;split at e
  ·cases e
  rename_i dy' p3;split at e
  ·cases e
  rename_i dz p4;split at e
  ·cases e
  rename_i w2 hz;cases e;refine⟨H3,ρ2,z,_,t3.st,e3,fun w' H4 He t4 r4=>?_⟩;refine o2 H4 He u w' dy' dz w2 Q t4.st.same ((r2'.mono t4).look t4.st p3) (r4.look t4.st p4) hz fun w5 H5 Hf g5 r5=>?_;exact k w5 H5 Hf (t1.trans (t3.trans (t4.trans (.grow t4.st g5)))) ((r5.toV t4.st).early fun a n=>(t1.trans (t3.trans t4)).stp.gone n)
 ·rename_i gz;cases e;refine o1 H2 Hc v u dx dy _ _ t2.st.same ((r1.mono t2).look t2.st p1) (r2.look t2.st p2) gz fun w H3 Hd g3 r3=>?_;refine⟨false,Rep.rC r3,?_⟩;rw[if_neg P0];exact k _ H3 Hd (t1.trans (t2.trans (.grow t2.st g3))) (Rep.bl false)
 ·cases e
theorem xU{op op':CmpOp}{r r':R2}(o1:OpR X (compareOp op) r)(q1:OpD r g)(o2:OpR X (compareOp op') r')(q2:OpD r' h)(ha:DE X a fa)(hb:DE X b fb)(hc:DE X c fc)
  (hm:lastMarks [op,op'] [b,c]=false:=by with_unfolding_all rfl):DE X (.Compare a [op,op'] [b,c] pos) (Dm.fD g h fa fb fc):=PE.weak (Ax o1 o2 ha hb hc hm) fun _ _ _=>ER q1 q2
theorem gB(n d:Nat)(o:Option Int)(hd:d<=n):HT.sIx n d o=Dm.sIx n d o:=by
 cases o with
 |none=>rfl
 |some v=>
  unfold HT.sIx Dm.sIx
  first
   |rfl
   |(dsimp only;split<;>lia)
theorem kK{H0:Hp}{xs:List V}{ds:List Dat}(rs:aB H0 xs ds)(lo hi:Option Int):aB H0 (l8 xs lo hi) (Dm.cut ds lo hi):=by unfold l8 Dm.cut;rw[rs.length,gB _ _ _ (Qd _),gB _ _ _ (Pj _)];exact(rs.drop _).take _
theorem gY{fo:Option FE}{H0 H:Hp}{ρ ρ':Dm.Env}{o:Option Int}{Q:Option Int->Hp->Prop}(st:av H0 H σ ρ)(e:Dm.part fo ρ=some (o,ρ'))(k:∀H0' H',ESt σ ρ H0 H ρ' H0' H'->Q o H') :
  (match fo with | none=>qY | some f=>AE (tD f)) σ H Q:=by
 cases fo with
 |none=>cases e;exact k H0 H (.refl st)
 |some f=>
  unfold Dm.part at e;dsimp only at e;split at e
  ·rename_i i ρ1 e1;cases e;exact⟨H0,ρ,_,_,st,e1,fun v H1 Hb t1 r1=>⟨i,Rep.isInt r1,k H1 Hb t1⟩⟩
  ·cases e
noncomputable abbrev tOf(fo:Option FE):TO:=match fo with | none=>qY | some f=>AE (tD f)
theorem Om{K:Pf}{lo hi:Option FE}(h:tD (Dm.eSl f lo hi) σ H Q):tSl (LB K) (tD f) (tOf lo) (tOf hi) σ H Q:=by
 obtain⟨H0,ρ,x,ρ',st,e,k⟩:=h;unfold Dm.eSl at e;split at e
 ·cases e
 rename_i x1 ρ1 e1;split at e
 ·cases e
 rename_i l ρ2 e2;split at e
 ·cases e
 rename_i hh ρ3 e3;split at e
 ·rename_i ds p1;cases e;refine⟨H0,ρ,x1,ρ1,st,e1,fun v H1 Hb t1 r1=>?_⟩;refine gY t1.st e2 fun H2 Hc t2=>?_;refine gY t2.st e3 fun H3 Hd t3=>?_;have tt:=t1.trans (t2.trans t3);obtain⟨a,xs,rfl,qa,ra⟩:=bH t3.st.same ((r1.mono (t2.trans t3)).look t3.st p1);refine⟨a,xs,rfl,.inl qa,fun q hq=>?_⟩;have g:=aI.mh (o:=HO.lst (l8 xs l hh)) t3.st.same hq;refine k _ _ _ (tt.trans (.grow t3.st g)) ⟨q,rfl,tt.stp.gone hq,t3.st.bx hq,t3.st.same.free hq,_,au,kK ra l hh⟩
 ·cases e
theorem Mh{lo hi:Option Expr}{flo fhi:Option FE}(h:DE X e f)(hl:PO X lo (tOf flo))(hh:PO X hi (tOf fhi)):DE X (.Subscript e (.Slice lo hi none p2) pos) (Dm.eSl f flo fhi):=PE.weak (mT Em h hl hh) fun _ _ _=>Om
theorem o_n:PO X none (tOf none):=Ek
theorem o_s(h:DE X e f):PO X (some e) (tOf (some f)):=El h
end
end
section
variable{X:Cx}{nm:List Str}{J8 tg iter:Expr}{J7:List Expr}{scope:Scope}{pos:Pos}{own:List Str}{fi:Dm.FI}{bd:Dm.FB}{is:List Nat}{t:FT}{f:FE}
noncomputable abbrev DTs(X:Cx)(J7:List Expr)(t:FT):Prop:=PTs X J7 (tDT t)
theorem cF:DTs X [] Dm.b_:=fun jV s σ H Q I h=>by obtain⟨H0,ρ,b,ρ',st,e,k⟩:=h;cases e;exact rJ jV s σ H Q I (k H0 H (.refl st))
theorem eG{c:Expr}(h:DT X c t):DTs X [c] t:=EB h
structure TGc(X:Cx)(nm:List Str)(scope:Scope)(own:List Str)(tg:Expr)(is:List Nat)(bd:Dm.FB):Prop where
 ex:∃g,(∀cl C s H fp,PG (aU X nm scope own cl C s H fp) tg g)/\BD is g bd
theorem c_n(i:Nat){x:Str}{px:Pos}(hN:(nm++own).Nodup)(hi:(nm++own)[i]?=some x)(hx:(relabel scope X.env).names.lookup x=some .local):TGc X nm scope own (.Name x px) [i] (Dm.bN i):=
 ⟨⟨_,fun cl C s H fp=>qT (X:=aU X nm scope own cl C s H fp) hN hi (.inl hx) (.inr hx),xN i⟩⟩
theorem c_t{es:List Expr}{k:Nat}{tpos:Pos}(hc:X.calm=true)(hg:∀cl C s H fp,PGs (aU X nm scope own cl C s H fp) es (cE is))(hn:∀cl C,(assignEach es (compEnvC scope cl C X.env)).length=is.length:=by intro _ _;rfl)
  (hst:∀cl C,(assignEach es (compEnvC scope cl C X.env)).findIdx? (·.1)=none:=by intro _ _;rfl):TGc X nm scope own (.Tuple es k tpos) is (Dm.bT is):=
 ⟨⟨_,fun cl C s H fp=>qU (X:=aU X nm scope own cl C s H fp) hc (hg cl C s H fp) (hn cl C) (hst cl C),A8 is rfl⟩⟩
theorem Jt(hc:X.calm=true)(S:cu X nm scope)(hi:DI X tg iter fi)(hg:TGc X nm scope own tg is bd)(ht:∀cl C s H fp,DTs (aU X nm scope own cl C s H fp) J7 t)(he:∀cl C s H fp,DE (aU X nm scope own cl C s H fp) J8 f)
  (hl:∀i∈is,X.N.length<=i) (hs:∀x,foldedSetIterable iter X.env x=pure x:=by intro _;rfl):DE X (.ListComp J8 [⟨tg,iter,J7,0⟩] scope pos) (Dm.cg fi own.length bd t f):=by
 obtain⟨g,h1,h2⟩:=hg.ex;intro jV s σ H Q I h;exact rL hc S hi h1 ht he hs jV s σ H Q I (rH h2 (fun i hi=>by rw[I.len];exact hl i hi) h)
theorem Ju(j:Nat){y:Str}{py G4:Pos}(hN:X.N.Nodup)(hc:X.calm=true)(S:cu X nm scope)(hi:DI X tg iter fi)(hg:TGc X nm scope own tg is bd)(ht:∀cl C s H fp,DTs (aU X nm scope own cl C s H fp) J7 t)(he:∀cl C s H fp,DE (aU X nm scope own cl C s H fp) J8 f)
  (hl:∀i∈is,X.N.length<=i) (hj:X.N[j]?=some y:=by rfl) (hy:Loc X.env.scope y:=by trivial)
  (hsw:swapsWith (.ListComp J8 [⟨tg,iter,J7,0⟩] scope pos) (some (.Name y py)) G4.line X.env=pure true:=by rfl) (hs:∀x,foldedSetIterable iter X.env x=pure x:=by intro _;rfl)
  (hf:X.fn y=true\/X.env.scope.names.lookup y=some .local:=by trivial):DS X (.Assign [.Name y py] (.ListComp J8 [⟨tg,iter,J7,0⟩] scope pos) G4) (Dm.sA j (Dm.cg fi own.length bd t f)):=by
 obtain⟨g,h1,h2⟩:=hg.ex;intro jV s σ H D I h;exact dY hN hj hy hc S hi h1 ht he hsw hs hf jV s σ H D I (rH h2 (fun i hi=>by rw[I.len];exact hl i hi) (A6 h))
end
theorem nh{H0:Hp}:∀{ds:List Dat} {bs:List Bool} {vs:List V},aB H0 vs ds->Dm.bools ds=some bs->vs=bs.map V.bl
 |[],bs,vs,r,e=>by cases r;cases e;rfl
 |.bl b::ds,bs,vs,r,e=>by
  cases r with
  |cons r rs=>
   unfold Dm.bools at e;cases q:Dm.bools ds with
   |none=>rw[q]at e;cases e
   |some cs=>rw[q]at e;cases e;cases Rep.rC r;rw[nh rs q];rfl
 |.non::ds,bs,vs,r,e=>by cases e
 |.int _::ds,bs,vs,r,e=>by cases e
 |.str _::ds,bs,vs,r,e=>by cases e
 |.tup _::ds,bs,vs,r,e=>by cases e
 |.lst _::ds,bs,vs,r,e=>by cases e
 |.dct _ _::ds,bs,vs,r,e=>by cases e
 |.dcp _ _::ds,bs,vs,r,e=>by cases e
theorem Jv:CallD (fun xs H Q=>∃(a:Addr) (bs:List Bool),xs=[.ref a]/\Rd H a (.lst (bs.map V.bl))/\Q (.bl (bs.all id)) H) Dm.pJ:=by
 intro H0 H vs ds z Q s rs e k;unfold Dm.pJ at e;split at e
 ·split at e
  ·rename_i bs hb;cases e;cases rs with
   |cons r rr=>cases rr;obtain⟨a,us,rfl,qa,ra⟩:=bH s r;have:=nh ra hb;subst this;exact⟨a,bs,rfl,qa,k _ H0 H (aI.refl s) (.bl _)⟩
  ·cases e
 ·cases e
section
variable{X:Cx}{a b c e:Expr}{f:FE}{fs:List FE}{p p2 pos:Pos}
theorem tO(hc:X.calm=true)(hg:Gl X "all")(hm:X.mg "all" = none)(ha:DA X [e] fs)(he:starEach [e] X.env=[(false,eval e X.env)]:=by rfl)(Ct:(backTo pos (starEach [] X.env)).any (·.1)=false:=by rfl) :
  DE X (.Call (.Name "all" p) [e] [] pos) (Dm.eB Dm.pJ fs):=zv (zx hc) Jv (by rfl) hg hm ha (he:=he) (Ct:=Ct)
end
noncomputable def cG(sc:Scope):List Str->List Str->Bool
 |[],[]=>true
 |x::N,y::nm=>(x == y||(sc.names.lookup y).isNone)&&cG sc N nm
 |_,_=>false
theorem cG.len{sc:Scope}:∀{N nm:List Str},cG sc N nm=true->nm.length=N.length
 |[],[],_=>rfl
 |[],_::_,h=>by cases h
 |_::_,[],h=>by cases h
 |x::N,y::nm,h=>by rw[cG,Pz]at h;rw[PR,PR,cG.len h.2]
theorem cG.at{sc:Scope}:∀{N nm:List Str},cG sc N nm=true->∀(i:Nat) (x:Str),nm[i]?=some x->N[i]?=some x\/sc.names.lookup x=none
 |[],[],_,i,x,e=>by simp at e
 |[],_::_,h,_,_,_=>by cases h
 |_::_,[],h,_,_,_=>by cases h
 |x::N,y::nm,h,0,z,e=>by
  rw[cG,Pz,Bool.or_eq_true]at h;simp at e;subst e;rcases h.1 with q | q
  ·have:x=y:=by simpa using q
   subst this;exact .inl rfl
  ·exact .inr (by simpa using q)
 |x::N,y::nm,h,i+1,z,e=>by rw[cG,Pz]at h;rw[QU]at e ⊢;exact cG.at h.2 i z e
noncomputable def jR(osc:Scope)(N nm:List Str)(sc:Scope):Bool:=
 sc.names.all (fun y=>y.2 != .cell)&&sc.names.all (fun y=>y.2 != .local||sc.names.lookup y.1 == some .local) &&
 sc.names.all (fun y=>y.2 != .free||(osc.names.lookup y.1 == some .cell||osc.names.lookup y.1 == some .free))&&nm.all (fun x=>sc.names.lookup x != some .local)&&cG sc N nm
theorem cu.of{X:Cx}{nm:List Str}{scope:Scope}(h:jR X.env.scope X.N nm scope=true)(hk:scope.kind=.function):cu X nm scope:=by
 unfold jR at h;simp only[Pz,PY]at h;obtain⟨⟨⟨⟨h1,h2⟩,h3⟩,h4⟩,h5⟩:=h;refine⟨hk,fun y hy=>?_,fun y hy hl=>?_,fun y hy hf=>?_,fun x hx=>?_,cG.len h5,cG.at h5⟩
 ·have:=h1 y hy;simpa using this
 ·have:=h2 y hy;rw[hl]at this
  simpa using this
 ·have:=h3 y hy;rw[hf]at this;have:(X.env.scope.names.lookup y.1 == some .cell||X.env.scope.names.lookup y.1 == some .free)=true:=by simpa using this
  rw[Bool.or_eq_true,beq_iff_eq,beq_iff_eq]at this;exact this
 ·have:=h4 x hx;simpa using this
section
variable{X:Cx}{J8 tg iter:Expr}{J7:List Expr}{scope:Scope}{pos:Pos}{fi:Dm.FI}{bd:Dm.FB}{is:List Nat}{t:FT}{f:FE}
theorem ni{l:List Nat}{n:Nat}(h:(l.all fun i=>decide (n<=i))=true):∀i∈l,n<=i:=fun i hi=>of_decide_eq_true (PY.mp h i hi)
theorem ES(nm own:List Str)(hg:TGc X nm scope own tg is bd)(hi:DI X tg iter fi)(ht:∀cl C s H fp,DTs (aU X nm scope own cl C s H fp) J7 t)(he:∀cl C s H fp,DE (aU X nm scope own cl C s H fp) J8 f)
  (hc:X.calm=true:=by rfl) (hk:scope.kind=.function:=by rfl) (hS:jR X.env.scope X.N nm scope=true:=by rfl) (hl:(is.all fun i=>decide (X.N.length<=i))=true:=by rfl) (hs:∀x,foldedSetIterable iter X.env x=pure x:=by intro _;rfl) :
  DE X (.ListComp J8 [⟨tg,iter,J7,0⟩] scope pos) (Dm.cg fi own.length bd t f):=Jt hc (cu.of hS hk) hi hg ht he (ni hl) hs
theorem Oo(j:Nat)(nm own:List Str){y:Str}{py G4:Pos}(hN:X.N.Nodup)(hg:TGc X nm scope own tg is bd)(hi:DI X tg iter fi)(ht:∀cl C s H fp,DTs (aU X nm scope own cl C s H fp) J7 t)(he:∀cl C s H fp,DE (aU X nm scope own cl C s H fp) J8 f)
  (hc:X.calm=true:=by rfl) (hk:scope.kind=.function:=by rfl) (hS:jR X.env.scope X.N nm scope=true:=by rfl) (hl:(is.all fun i=>decide (X.N.length<=i))=true:=by rfl) (hj:X.N[j]?=some y:=by rfl) (hy:Loc X.env.scope y:=by trivial)
  (hsw:swapsWith (.ListComp J8 [⟨tg,iter,J7,0⟩] scope pos) (some (.Name y py)) G4.line X.env=pure true:=by rfl) (hs:∀x,foldedSetIterable iter X.env x=pure x:=by intro _;rfl)
  (hf:X.fn y=true\/X.env.scope.names.lookup y=some .local:=by trivial):DS X (.Assign [.Name y py] (.ListComp J8 [⟨tg,iter,J7,0⟩] scope pos) G4) (Dm.sA j (Dm.cg fi own.length bd t f)):=
 Ju j hN hc (cu.of hS hk) hi hg ht he (ni hl) hj hy hsw hs hf
end
section
variable{f:FE}{a:Addr}{X:Cx}{H:Hp}
theorem PI.or{tg it:Expr}{t t':TI}(h:PI X tg it t)(h':PI X tg it t'):PI X tg it (fun σ H R=>t σ H R\/t' σ H R):=fun jV s σ H R I q=>q.elim (h jV s σ H R I) (h' jV s σ H R I)
theorem Mi{K:Pf}{σ:L2.St}{R:It->Hp->Prop}(h:tDI (Dm.iS f) σ H R):pW K (tD f) σ H R\/Ao K (tD f) σ H R:=by
 obtain⟨H0,ρ,ys,ρ',st,e,k⟩:=h;unfold Dm.iS at e;split at e
 ·cases e
 rename_i x ρ1 e1;split at e
 ·rename_i ds ρ2 e2;cases e;exact .inl (Oc ⟨H0,ρ,_,_,st,by unfold Dm.iL;rw[e1];dsimp only;rw[e2],k⟩)
 ·rename_i ds ρ2 e2;cases e;exact .inr (Od ⟨H0,ρ,_,_,st,by unfold Dm.iT;rw[e1];dsimp only;rw[e2],k⟩)
 ·cases e
theorem i_S{tg e:Expr}(h:DE X e f):DI X tg e (Dm.iS f):=PI.weak (PI.or (qW h) (Aq h)) fun _ _ _=>Mi
noncomputable def Bp(K:Pf):Bool:=K.all fun p=>match p.2.cls with | .type n=>n != "list" | _=>true
theorem lookup_mem{o:Obj}:∀{K:List (Addr×Obj)},K.lookup a=some o->(a,o)∈K
 |[],h=>by cases h
 |(b,x)::r,h=>by
  rw[Qm]at h;cases q:a == b with
  |true=>
   rw[q]at h;cases h;have:a=b:=by simpa using q
   rw[this];exact Ds
  |false=>rw[q]at h;exact Pa _ (lookup_mem h)
theorem Jw{f:List Dat->Option RV}{K:Pf}{ns:List Int}{E:XK}(hf:f [.lst (ns.map Dat.int)]=some (.val (.bl true)))(hK:Bp K=true)(hS:SqL K H a (ns.map V.int)) :
  spD f [.ref a] H (fun v _=>v=.bl true) E:=by
 have hq:Rd H a (.lst (ns.map V.int)):=by
  rcases hS with h | ⟨o,its,n,hk,hc,_⟩
  ·exact h
  ·have:=PY.mp hK _ (lookup_mem hk);dsimp only at this;rw[hc]at this;exact absurd this (by decide)
 have hr:∀ns:List Int,aB H (ns.map V.int) (ns.map Dat.int):=fun ns=>by
  induction ns with
  |nil=>exact .nil
  |cons n ns ih=>exact .cons (.int n) ih
 exact⟨H,_,_,ai.refl _,.cons (.lst hq (hr ns)) .nil,hf,fun v H0' H' _ r=>Rep.rC r⟩
end
end Br
namespace Br
open PySem PySem.Spec PyProof.Rows L2
theorem zy{X:Cx}{jV:List (Addr×Obj)}{σ:L2.St}{H:Hp}{s:Shared}{h':Heap}{t':Nat}{fp:List Addr}{p:Addr}{o:HO}(I:Inv X jV σ H s)(hf:∀b∈fp,pD X jV H b)
  (k:∀b u,b∉fp->s.heap.get? b=some u->h'.get? b=some u) (hp:s.heap.objs.size<=p) (new:bq X.prog X.w (upd H p o) h' p o):Inv X jV σ (upd H p o) { s with heap:=h',toks:=t' }:=by
 have hn:H p=none:=I.hok.fresh hp;have nf:∀b u,H b=some u->b∉fp:=fun b u e z=>by rw[(hf b z).1]at e;cases e
 have nL:X.env.locals∉fp:=fun z=>(hf _ z).2.1 rfl;refine I.step (g':=s.gens) (d':=s.drawn) (ch:=fp) (fun b hb=>?_) (fun b u _ _ hc e _=>k b u hc e) (fun b u _ _ hc e _=>⟨u.slots,k b u hc e⟩)
  (fun b u _ e n=>by rw[ak (Qc (PD (Px e) hp))];exact n) (fun b u hc e=>⟨u,k b u hc e⟩)
  (fun b xs q=>by rw[ak (aG q hn)];exact q) (fun b u xs q=>by rw[ak (aG q hn)];exact q) (fun b _ _ _ q=>by rw[ak (aG q hn)];exact q) (fun m hm=>?_) (fun b u e=>?_) I.bare
 ·obtain⟨f0,f1,f2,f3,f4,f5⟩:=hf b hb;exact⟨f3,f1,f4,f5⟩
 ·obtain⟨o,es,ep,ho,r⟩:=hm;exact⟨o,es,ep,k _ o nL ho,r⟩
 ·by_cases hb:b=p
  ·subst hb;rw[au]at e;cases e;exact new
  ·rw[ak hb]at e;refine(I.hok b u e).stay (fun c v hc q=>k c v ?_ q) (fun c q=>by rw[ak (aG q hn)];exact q) (fun c _ _ q=>by rw[ak (aG q hn)];exact q) fun c xs q=>by rw[ak (aG q hn)];exact q
   rcases hc with z | z
   ·rw[z];exact nf b u e
   ·exact nf c _ z
end Br
namespace Dm
noncomputable def aO(i:Nat)(own:Nat)(bd:FB)(t:FT)(el:FE):FE:=fun ρ=>match ρ[i]? with
 | some (.ow (.lst ds))=>if ds.length≤SZ then (match dI bd t el ds (ρ.set i .un++gV own .un) [] with
  |none=>none
  |some (ys,ρ2)=>some (.new (.lst ys),(ρ2.take ρ.length).set i (.ow (.lst ds)))) else none
 |_=>cg (iS (eV i)) own bd t el ρ
end Dm
namespace Br
open PySem PySem.Spec PyProof.Rows L2
theorem tP{K:Pf}{H0:Hp}{a:Addr}{xs:List V}{ds:List Dat}(rs:aB H0 xs ds):JWa (Itl K a) H0 (some (a,.lst xs)) ds:=by intro H0' H s0 s1 hq;have hq:=hq _ rfl;have q:SqL K H a xs:=.inl (.inl hq);refine⟨fun i hi=>⟨xs,q,by rw[rs.length];exact hi⟩,fun i d e=>?_⟩;obtain⟨v,hv,rv⟩:=rs.get e;refine⟨⟨xs,v,q,hv⟩,fun x H' y=>?_⟩;obtain⟨e1,y⟩:=y;subst e1;have z:=y xs q;rw[hv]at z;cases z;exact⟨H0',aI.refl s1,rv.mono s0⟩
theorem xV{K:Pf}{σ:L2.St}{H:Hp}{i own:Nat}{bd:Dm.FB}{g:TG}{t:FT}{el:FE}{is:List Nat}{Q:VK}(hb:BD is g bd)(hl:∀i∈is,σ.length<=i)(h:tD (Dm.aO i own bd t el) σ H Q) :
  tLC (fun σ H R=>pW K (tD (Dm.eV i)) σ H R\/Ao K (tD (Dm.eV i)) σ H R) own g (tDT t) (tD el) σ H Q:=by
 obtain⟨H0,ρ,x,ρ',st,e,k⟩:=h;unfold Dm.aO at e;split at e
 ·rename_i ds eo;split at e
  case isFalse=>cases e
  rename_i hsz;split at e
  ·cases e
  rename_i ys ρ2 e2;cases e;refine .inl ⟨H0,ρ,.slot i,ρ,st,by unfold Dm.eV;rw[eo],fun v H0' H' t1 r=>?_⟩;obtain⟨a,qa,na,xs,ha,rs⟩:=t1.st.ow i _ eo;obtain⟨r1,_⟩:=r;rw[qa]at r1;cases r1;have nO:¬ah σ (ρ.set i .un) a:=fun z=>by obtain⟨j,d,hj,h1,h2⟩:=bO z;exact hj (t1.st.dis j i d _ a h1 eo h2 qa)
  have J9:i<ρ.length:=(Ph.mp eo).1;refine⟨a,rfl,⟨xs,.inl (.inl ha)⟩,fun D hD=>tM hb hl (t1.st.mask i) (fun q e=>by cases e;exact⟨ha,na,nO⟩) (tP rs) hsz e2 (fun v H1 Hc t2 r2 hpa=>?_) D hD⟩;obtain⟨ha2,na2⟩:=hpa _ rfl;rw[P4]at t2 r2;have oo:∀b,ah σ ((ρ2.take ρ.length).set i (.ow (.lst ds))) b->b=a\/ah σ (ρ2.take ρ.length) b:=fun b ⟨j,d,h1,h2⟩=>by
   by_cases q:i=j
   ·subst q;rw[qa]at h2;cases h2;exact .inl rfl
   ·rw[Dk q]at h1;exact .inr ⟨j,d,h1,h2⟩
  have om:∀b,ah σ (ρ.set i .un) b->ah σ ρ b:=fun b z=>by obtain⟨j,d,hj,h1,h2⟩:=bO z;exact⟨j,d,h1,h2⟩
  have oa:ah σ ρ a:=⟨i,_,eo,qa⟩
  have nO2:¬ah σ (ρ2.take ρ.length) a:=fun z=>nO (t2.own a z);have Bq:(ρ2.take ρ.length).length=ρ.length:=by rw[<- t2.st.len,st.len]
  refine k v H1 Hc (t1.trans ⟨⟨t2.st.same,by rw[P4];exact t2.st.len,fun j d h=>?_,fun j d h=>?_,fun j j' d d' b h1 h2 h3 h4=>?_⟩,t2.stp.wide om,fun b z=>?_,fun j z=>?_⟩) ?_
  ·by_cases q:i=j
   ·subst q;rw[PM (by rw[Bq];exact J9)]at h;cases h
   ·rw[Dk q]at h;exact t2.st.sh j d h
  ·by_cases q:i=j
   ·subst q;rw[PM (by rw[Bq];exact J9)]at h;cases h;exact⟨a,qa,na2,xs,ha2,rs.mono t2.stp.s0⟩
   ·rw[Dk q]at h;exact t2.st.ow j d h
  ·by_cases q:i=j
   ·subst q;by_cases q':i=j'
    ·exact q'
    ·rw[Dk q']at h2;rw[qa]at h3;cases h3;exact absurd ⟨j',d',h2,h4⟩ nO2
   ·rw[Dk q]at h1;by_cases q':i=j'
    ·subst q';rw[qa]at h4;cases h4;exact absurd ⟨j,d,h1,h3⟩ nO2
    ·rw[Dk q']at h2;exact t2.st.dis j j' d d' b h1 h2 h3 h4
  ·rcases oo b z with rfl | z
   ·exact oa
   ·exact om b (t2.own b z)
  ·trivial
  ·obtain⟨D',e',n',no',n0',w'⟩:=r2;refine⟨D',e',t1.stp.gone n',fun z=>?_,n0',w'⟩;rcases oo D' z with rfl | z
   ·rw[n']at ha;cases ha
   ·exact no' z
 ·have h2:=rH (fi:=Dm.iS (Dm.eV i)) hb hl ⟨H0,ρ,x,ρ',st,e,k⟩;exact Mi h2
section
variable{X:Cx}{J8 tg:Expr}{J7:List Expr}{scope:Scope}{pos px:Pos}{bd:Dm.FB}{is:List Nat}{t:FT}{f:FE}{x:Str}
theorem i_M(i:Nat)(h:DE X (.Name x px) (Dm.eV i)):PI X tg (.Name x px) (fun σ H R=>pW X.K (tD (Dm.eV i)) σ H R\/Ao X.K (tD (Dm.eV i)) σ H R):=PI.or (qW h) (Aq h)
theorem fX(i:Nat)(nm own:List Str)(hg:TGc X nm scope own tg is bd)(hi:DE X (.Name x px) (Dm.eV i))(ht:∀cl C s H fp,DTs (aU X nm scope own cl C s H fp) J7 t)(he:∀cl C s H fp,DE (aU X nm scope own cl C s H fp) J8 f)
  (hc:X.calm=true:=by rfl) (hk:scope.kind=.function:=by rfl) (hS:jR X.env.scope X.N nm scope=true:=by rfl) (hl:(is.all fun i=>decide (X.N.length<=i))=true:=by rfl) (hs:∀y,foldedSetIterable (.Name x px) X.env y=pure y:=by intro _;rfl) :
  DE X (.ListComp J8 [⟨tg,.Name x px,J7,0⟩] scope pos) (Dm.aO i own.length bd t f):=by
 obtain⟨g,h1,h2⟩:=hg.ex;intro jV s σ H Q I h;exact rL hc (cu.of hS hk) (i_M i hi) h1 ht he hs jV s σ H Q I (xV h2 (fun i hi=>by rw[I.len];exact ni hl i hi) h)
theorem tQ(j i:Nat)(nm own:List Str){y:Str}{py G4:Pos}(hN:X.N.Nodup)(hg:TGc X nm scope own tg is bd)(hi:DE X (.Name x px) (Dm.eV i))(ht:∀cl C s H fp,DTs (aU X nm scope own cl C s H fp) J7 t)(he:∀cl C s H fp,DE (aU X nm scope own cl C s H fp) J8 f)
  (hc:X.calm=true:=by rfl) (hk:scope.kind=.function:=by rfl) (hS:jR X.env.scope X.N nm scope=true:=by rfl) (hl:(is.all fun i=>decide (X.N.length<=i))=true:=by rfl) (hj:X.N[j]?=some y:=by rfl) (hy:Loc X.env.scope y:=by trivial)
  (hsw:swapsWith (.ListComp J8 [⟨tg,.Name x px,J7,0⟩] scope pos) (some (.Name y py)) G4.line X.env=pure true:=by rfl) (hs:∀y,foldedSetIterable (.Name x px) X.env y=pure y:=by intro _;rfl)
  (hf:X.fn y=true\/X.env.scope.names.lookup y=some .local:=by trivial):DS X (.Assign [.Name y py] (.ListComp J8 [⟨tg,.Name x px,J7,0⟩] scope pos) G4) (Dm.sA j (Dm.aO i own.length bd t f)):=by
 obtain⟨g,h1,h2⟩:=hg.ex;intro jV s σ H D I h;exact dY hN hj hy hc (cu.of hS hk) (i_M i hi) h1 ht he hsw hs hf jV s σ H D I (xV h2 (fun i hi=>by rw[I.len];exact ni hl i hi) (A6 h))
end
end Br
namespace Dm
noncomputable def nj:List Dat->List Dat->List Dat
 |x::xs,y::ys=>.tup [x,y]::nj xs ys
 |_,_=>[]
noncomputable def Bs(a b:FE):FI:=fun ρ=>match eAs [a,b] ρ with
 | some (vs,ρ1)=>(match tks ρ1 vs with
  |some ([.lst xs,.lst ys],ρ2)=>some (nj xs ys,ρ2)
  |_=>none)
 |none=>none
noncomputable def zz:Dat->Dat->Option RV
 |.int i,.int j=>if 0<=j/\j<=100/\0<=i/\i<=1000000 then vI (i*2 ^ j.toNat) else none
 |_,_=>none
end Dm
namespace Br
open PySem PySem.Spec PyProof.Rows L2
theorem vV{X:Cx}{jV:List (Addr×Obj)}{σ:L2.St}{H:Hp}{s:Shared}{h':Heap}{t':Nat}{fp:List Addr}(I:Inv X jV σ H s)(hf:∀b∈fp,pD X jV H b)
  (k:∀b u,b∉fp->s.heap.get? b=some u->h'.get? b=some u):Inv X jV σ H { s with heap:=h',toks:=t' }:=by
 have nf:∀b u,H b=some u->b∉fp:=fun b u e z=>by rw[(hf b z).1]at e;cases e
 have nL:X.env.locals∉fp:=fun z=>(hf _ z).2.1 rfl;refine I.step (g':=s.gens) (d':=s.drawn) (ch:=fp) (fun b hb=>?_) (fun b u _ _ hc e _=>k b u hc e) (fun b u _ _ hc e _=>⟨u.slots,k b u hc e⟩)
  (fun b u _ e n=>n) (fun b u hc e=>⟨u,k b u hc e⟩)
  (fun b xs q=>q) (fun b u xs q=>q) (fun _ _ _ _ q=>q) (fun m hm=>?_) (fun b u e=>?_) I.bare
 ·obtain⟨f0,f1,f2,f3,f4,f5⟩:=hf b hb;exact⟨f3,f1,f4,f5⟩
 ·obtain⟨o,es,ep,ho,r⟩:=hm;exact⟨o,es,ep,k _ o nL ho,r⟩
 ·refine(I.hok b u e).stay (fun c v hc q=>k c v ?_ q) (fun c q=>q) (fun _ _ _ q=>q) fun c xs q=>q;rcases hc with z | z
  ·rw[z];exact nf b u e
  ·exact nf c _ z
noncomputable def Itz(K:Pf)(a b:Addr):It:=
 ⟨fun i H=>∃ xs ys x y,SqL K H a xs∧SqL K H b ys∧xs[i]?=some x∧ys[i]?=some y,
  fun i H r H'=>∃p x y,H p=none/\r=.ref p/\H'=upd H p (.tup [x,y])/\(∀xs,SqL K H a xs->xs[i]?=some x)/\∀ys,SqL K H b ys->ys[i]?=some y,
  fun i H=>∃xs ys,SqL K H a xs/\SqL K H b ys/\(xs.length<=i\/ys.length<=i)⟩
theorem gC{h:Heap}{a b:Addr}{o o':Obj}(ha:h.get? a=some o)(hb:h.get? b=some o')(n:o.cls≠o'.cls):a≠b:=fun z=>by subst z;rw[ha]at hb;cases hb;exact n rfl
structure rP(z TI TO i1 i2:Addr):Prop where
 TIz:TI≠z
 TOz:TO≠z
 i1z:i1≠z
 i2z:i2≠z
 TITO:TI≠TO
 TIi1:TI≠i1
 TIi2:TI≠i2
 TOi1:TO≠i1
 TOi2:TO≠i2
 i12:i1≠i2
def Bt(a b z TI TO i1 i2:Addr)(i:Nat)(h:Heap):Prop:=IsZip h z TI TO .none/\IsPair h TI (.ref i1) (.ref i2)/\(∃x y,IsPair h TO x y)/\h.IsListIter i1 a i/\h.IsListIter i2 b i
theorem tR{h:Heap}{a b z TI TO i1 i2:Addr}{i:Nat}{xs ys:Array Value}(F:rP z TI TO i1 i2)(st:Bt a b z TI TO i1 i2 i h)(ha:h.IsList a xs)(hb:h.IsList b ys):ZipApart z TI TO i1 i2 a b:=by
 obtain⟨s1,s2,⟨x,y,s3⟩,s4,s5⟩:=st;obtain⟨o4,e4,c4,_⟩:=s4;obtain⟨o5,e5,c5,_⟩:=s5;obtain⟨oa,ea,ca,_⟩:=ha;obtain⟨ob,eb,cb,_⟩:=hb;have d:∀{n m:String},n≠m->(Sn n)≠(Sn m):=fun q z=>q (by injection z);exact ⟨F.TIz,F.TOz,F.i1z,F.i2z,F.TITO,F.TIi1,F.TIi2,F.TOi1,F.TOi2,F.i12,
  gC ea s1 (by rw[ca];exact d (by decide)),gC ea s3 (by rw[ca];exact d (by decide)),gC ea e4 (by rw[ca,c4];exact d (by decide)),gC ea e5 (by rw[ca,c5];exact d (by decide)),
  gC eb s1 (by rw[cb];exact d (by decide)),gC eb s3 (by rw[cb];exact d (by decide)),gC eb e4 (by rw[cb,c4];exact d (by decide)),gC eb e5 (by rw[cb,c5];exact d (by decide))⟩
theorem Bu{P:Program}{w:World}{K:Pf}{elts:List Expr}{x1}{tp:Pos}(a b z TI TO i1 i2:Addr)(F:rP z TI TO i1 i2):Turn P w K (.Tuple elts x1 tp) (Itz K a b) [z,TI,TO,i1,i2] z (Bt a b z TI TO i1 i2) where
 mem:=by simp
 obj:=fun i h st c hc=>by
  obtain⟨s1,s2,⟨x,y,s3⟩,⟨o4,e4,c4,d4⟩,⟨o5,e5,c5,d5⟩⟩:=st;simp only[Pk,Q8,or_false]at hc;rcases hc with rfl | rfl | rfl | rfl | rfl
  ·exact⟨_,s1,fun v q=>by have q':Data.fields _=Si v:=q;cases q'⟩
  ·exact⟨_,s2,fun v q=>by have q':Data.seq _ _=Si v:=q;cases q'⟩
  ·exact⟨_,s3,fun v q=>by have q':Data.seq _ _=Si v:=q;cases q'⟩
  ·exact⟨o4,e4,fun v q=>by rw[d4]at q;cases q⟩
  ·exact⟨o5,e5,fun v q=>by rw[d5]at q;cases q⟩
 keep:=fun i h h' st k=>by obtain⟨s1,s2,⟨x,y,s3⟩,s4,s5⟩:=st;exact⟨k z (by simp) _ s1,k TI (by simp) _ s2,⟨x,y,k TO (by simp) _ s3⟩,s4.at fun o q=>k i1 (by simp) o q,s5.at fun o q=>k i2 (by simp) o q⟩
 item:=by
  intro X hP hw hK hc i jV s σ H E I hf st hg;subst hP hw hK;obtain⟨xs,ys,x,y,hq,hq',hx,hy⟩:=hg;obtain⟨its,rv,p,hz⟩:=I.list hq;obtain⟨its',rv',p',hz'⟩:=I.list hq';obtain⟨u,hu,ru⟩:=rv.get hx;obtain⟨u',hu',ru'⟩:=rv'.get hy;have D:=tR F st p.isList p'.isList;obtain⟨s1,s2,⟨o1,o2,s3⟩,s4,s5⟩:=st;have lt:∀{c o},s.heap.get? c=some o->c<s.heap.objs.size:=fun q=>Px q;have l1:=lt s1;have l2:=lt s2;have l3:=lt s3;have l4:i1<s.heap.objs.size:=by obtain⟨_,q,_⟩:=s4;exact lt q
  have l5:i2<s.heap.objs.size:=by obtain⟨_,q,_⟩:=s5;exact lt q
  refine wpAny_pyNext_zip_item D s1 s2 s3 s4 s5 p.isList p'.isList (x:=u) (y:=u') (by simpa using hu) (by simpa using hu') fun h1 a1 a2 a3 a4 a5 a6 hk=>?_;refine⟨_,rfl,wpAny_letOwnedTupleGo_zip a1 fun h2 z2 hs2=>?_⟩;have ht2:h2.get? s.heap.objs.size=some { cls:=.type "tuple",data:=.seq #[u,u'] }:=(hs2.2 _ (RZ l1)).trans a5;have k2:∀c o,c∉[z,TI,TO,i1,i2]->s.heap.get? c=some o->h2.get? c=some o:=fun c o hc q=>by simp only[Pk,Q8,or_false,not_or]at hc;exact(hs2.2 c hc.1).trans (hk c o hc.1 hc.2.2.1 hc.2.2.2.1 hc.2.2.2.2 q)
  have hn:H s.heap.objs.size=none:=I.hok.fresh (Pj _);have I2:Inv X jV σ (upd H s.heap.objs.size (.tup [x,y])) { s with heap:=h2,toks:=s.toks }:=
   zy I hf k2 (Pj _) ⟨by simp[sizeLine],[u,u'],.cons ru (.cons ru' .nil),_,ht2,rfl,_,rfl⟩
  refine⟨.ref s.heap.objs.size,_,I2,rfl,⟨_,x,y,hn,rfl,rfl,fun vs hv=>by rw[I.mL hv hq];exact hx,fun vs hv=>by rw[I.mL hv hq'];exact hy⟩,⟨z2,?_,⟨_,_,hs2.extBut _ _ D.TOz a2⟩,?_,?_⟩,fun c hc=>?_⟩
  ·exact hs2.extBut _ _ D.TIz (hk TI _ D.TIz D.TITO D.TIi1 D.TIi2 s2)
  ·exact a3.extBut hs2.extBut D.i1z
  ·exact a4.extBut hs2.extBut D.i2z
  ·have hc1:c≠s.heap.objs.size:=fun q=>by
    simp only[Pk,Q8,or_false]at hc;rcases hc with r | r | r | r | r
    ·subst r;rw[q]at l1;exact Qy _ l1
    ·subst r;rw[q]at l2;exact Qy _ l2
    ·subst r;rw[q]at l3;exact Qy _ l3
    ·subst r;rw[q]at l4;exact Qy _ l4
    ·subst r;rw[q]at l5;exact Qy _ l5
   rw[ak hc1];exact(hf c hc).1
 done:=by
  intro X hP hw hK hc i jV s σ H E I hf st hg;subst hP hw hK;obtain⟨xs,ys,hq,hq',hx⟩:=hg;obtain⟨its,rv,p,hz⟩:=I.list hq;obtain⟨its',rv',p',hz'⟩:=I.list hq';have hl:=rv.length;have hl':=rv'.length;have D:=tR F st p.isList p'.isList;obtain⟨s1,s2,⟨o1,o2,s3⟩,s4,s5⟩:=st;refine wpAny_pyNext_zip_end (I.ok.hd hc) D s1 s2 s3 s4 s5 p.isList p'.isList ?_ fun h' hk=>⟨rfl,vV (t':=s.toks) I hf fun c o hc q=>?_⟩
  ·rcases hx with hx | hx
   ·exact .inl (by simp;lia)
   ·exact .inr (by simp;lia)
  ·simp only[Pk,Q8,or_false,not_or]at hc;exact hk c o hc.1 hc.2.2.1 hc.2.2.2.1 hc.2.2.2.2 q
 self:=fun A i s Q E st h=>wpAny_pyIter_zip st.1 h
def GR(K:Pf)(ta:TA):TI:=fun σ H R=>ta σ H fun vs H1=>∃a b,vs=[.ref a,.ref b]/\(∃xs,SqL K H1 a xs)/\(∃ys,SqL K H1 b ys)/\R (Itz K a b) H1
section
variable{X:Cx}{l l':Expr}{ta:TA}{p pos:Pos}{elts:List Expr}{x1:Nat}{tp:Pos}
theorem Jx(hg:Gl X "zip")(hm:X.mg "zip" = none)(ha:PA X [l,l'] ta)(hs:starEach [l,l'] X.env=(false,eval l X.env)::starEach [l'] X.env:=by rfl)(hs2:(backTo pos (starEach [l'] X.env)).any (·.1)=false:=by rfl) :
  PI X (.Tuple elts x1 tp) (.Call (.Name "zip" p) [l,l'] [] pos) (GR X.K ta):=by
 intro jV s σ H R I h;refine Call_ (ko I hg hm boot_zip (QY (thn (ha pos jV s σ H _ I h) fun us s1 ⟨vs,H1,I1,r1,q1⟩=>?_) hs hs2));obtain⟨a,b,e,⟨xs,hq⟩,⟨ys,hq'⟩,q⟩:=q1;subst e;obtain⟨v1,v2,rfl,r,r'⟩:=vals2 r1;cases r;cases r';obtain⟨its,rv,pl,hz⟩:=I1.list hq;obtain⟨its',rv',pl',hz'⟩:=I1.list hq';refine call_zip_2 pl.isList pl'.isList fun h' e1 e2 e3 e4 e5 hsz k=>?_;have I2:Inv X jV σ H1 { s1 with heap:=h' }:=I1.kept (t':=s1.toks) k;have F:rP (s1.heap.objs.size+4) (s1.heap.objs.size+2) (s1.heap.objs.size+3) s1.heap.objs.size (s1.heap.objs.size+1):=by constructor<;>first | exact Qc (by lia) | exact RZ (by lia)
 have T:=Bu (P:=X.prog) (w:=X.w) (K:=X.K) (elts:=elts) (x1:=x1) (tp:=tp) a b _ _ _ _ _ F;have st:Bt a b (s1.heap.objs.size+4) (s1.heap.objs.size+2) (s1.heap.objs.size+3) s1.heap.objs.size (s1.heap.objs.size+1) 0 h':=⟨e1,e2,⟨_,_,e3⟩,e4,e5⟩
 refine T.self X.A 0 { s1 with heap:=h' } _ X.xe st ?_;refine⟨s1.heap.objs.size+4,_,_,_,H1,rfl,I2,T,st,fun c hc=>?_,q⟩;have:s1.heap.objs.size<=c:=by simp only[Pk,Q8,or_false]at hc;rcases hc with r | r | r | r | r<;>(rw[r];first | exact Nat.le_add_right _ _ | exact Pj _)
 exact I1.Ec this (I1.hok.fresh this)
end
theorem xW:∀(xs ys:List Dat),(Dm.nj xs ys).length=min xs.length ys.length
 |[],_=>by simp[Dm.nj]
 |_::_,[]=>by simp[Dm.nj]
 |x::xs,y::ys=>by simp[Dm.nj,xW xs ys]
theorem zip_get:∀(xs ys:List Dat) (j:Nat) (d:Dat),(Dm.nj xs ys)[j]?=some d->∃x y,xs[j]?=some x/\ys[j]?=some y/\d=.tup [x,y]
 |[],_,_,_,h=>by simp[Dm.nj]at h
 |_::_,[],_,_,h=>by simp[Dm.nj]at h
 |x::xs,y::ys,0,d,h=>by cases h;exact⟨x,y,rfl,rfl,rfl⟩
 |x::xs,y::ys,j+1,d,h=>zip_get xs ys j d h
theorem Jy{K:Pf}{H0:Hp}{a b:Addr}{xs ys:List V}{ds es:List Dat}(hq:Rd H0 a (.lst xs))(rs:aB H0 xs ds)(hq':Rd H0 b (.lst ys))(rs':aB H0 ys es):JW (Itz K a b) H0 (Dm.nj ds es):=by
 intro H0' H s0 s1;have q:SqL K H a xs:=.inl (ai.rd s1 (ai.rd s0 hq));have q':SqL K H b ys:=.inl (ai.rd s1 (ai.rd s0 hq'));refine⟨fun i hi=>⟨xs,ys,q,q',?_⟩,fun i d e=>?_⟩
 ·rw[xW]at hi;have:=rs.length;have:=rs'.length
  lia
 obtain⟨x,y,hx,hy,rfl⟩:=zip_get ds es i d e;obtain⟨v,hv,rv⟩:=rs.get hx;obtain⟨v',hv',rv'⟩:=rs'.get hy;refine⟨⟨xs,ys,v,v',q,q',hv,hv'⟩,fun r H' z=>?_⟩;obtain⟨p,u,u',hn,rfl,rfl,z1,z2⟩:=z;have w1:=z1 xs q;have w2:=z2 ys q';rw[hv]at w1;rw[hv']at w2;cases w1;cases w2;have g:=aI.A2 (o:=HO.tup [v,v']) s1 hn;exact⟨_,g,.tup au (.cons ((rv.mono s0).mono g.s0) (.cons ((rv'.mono s0).mono g.s0) .nil))⟩
section
variable{σ:L2.St}{H:Hp}{R:It->Hp->Prop}
theorem Jz{K:Pf}{f g:FE}(h:tDI (Dm.Bs f g) σ H R):GR K (tDA [f,g]) σ H R:=by
 obtain⟨H0,ρ,ys,ρ',st,e,k⟩:=h;unfold Dm.Bs at e;split at e
 ·rename_i vs ρ1 e1;split at e
  ·rename_i xs zs ρ2 e2;cases e;refine⟨H0,ρ,vs,ρ1,st,e1,fun us H0' H' t r=>?_⟩;obtain⟨H1,t1,b1,r1⟩:=takes t (ai.refl _) r e2;cases r1 with
   |cons q1 rr=>
    cases rr with
    |cons q2 rr=>
     cases rr;cases q1 with
     |lst q rs=>
      cases q2 with
      |lst q' rs'=>exact⟨_,_,rfl,⟨_,.inl (ai.rd t1.st.same q)⟩,⟨_,.inl (ai.rd t1.st.same q')⟩,k _ H1 H' t1 (Jy q rs q' rs')⟩
  ·cases e
 ·cases e
end
theorem JA:OpD (rI Ef fun i j=>.int (i*2 ^ j.toNat)) Dm.zz:=by
 intro H0 H x y dx dy z Q s rx ry e k;unfold Dm.zz at e;split at e
 ·split at e
  ·rename_i hb;cases e;cases ay rx;cases ay ry;exact⟨_,_,rfl,rfl,⟨by lia,by lia,by lia⟩,k _ H0 H (aI.refl s) (.int _)⟩
  ·cases e
 ·cases e
section
variable{X:Cx}{a b:Expr}{fa fb:FE}{p pos:Pos}{elts:List Expr}{x1:Nat}{tp:Pos}
theorem GS(hg:Gl X "zip")(hm:X.mg "zip" = none)(ha:DA X [a,b] [fa,fb])(hs:starEach [a,b] X.env=(false,eval a X.env)::starEach [b] X.env:=by rfl)(hs2:(backTo pos (starEach [b] X.env)).any (·.1)=false:=by rfl) :
  DI X (.Tuple elts x1 tp) (.Call (.Name "zip" p) [a,b] [] pos) (Dm.Bs fa fb):=PI.weak (Jx hg hm ha hs hs2) fun _ _ _=>Jz
theorem Mj(ha:DE X a fa)(hb:DE X b fb):DE X (.BinOp a .LShift b pos) (Dm.e2 Dm.zz fa fb):=rM Iv JA ha hb
end
end Br
namespace Dm
noncomputable def fnM(n m:Nat)(body:FS)(ds:List Dat):Option (RV×Dat):=if ds.length=n then (match ds with
 | d::r=>(match body (Cell.ow d::(r.map Cell.sh++gV m .un)) with
  | some (.ret z ρ')=>(match ρ'[0]? with
   |some (Cell.ow d')=>some (z,d')
   |_=>none)
  | some (.nx ρ')=>(match ρ'[0]? with
   |some (Cell.ow d')=>some (.val .non,d')
   |_=>none)
  |_=>none)
 |[]=>none) else none
noncomputable def flat:Dat->Bool
 |.tup xs=>xs.all fun x=>!cZ x
 |d=>!cZ d
noncomputable def vW:Dat->Bool
 |.lst xs=>xs.all fun x=>!cZ x
 |_=>false
noncomputable def eFm(f:List Dat->Option (RV×Dat))(j:Nat)(as:List FE):FE:=fun ρ=>match ρ[j]? with
 | some (.ow _)=>(match eAs as ρ with
  |none=>none
  | some (xs,ρ1)=>(match ρ1[j]? with
   | some (.ow d1)=>(match tks ρ1 xs with
    |none=>none
    | some (ds,ρ2)=>(match ρ2[j]? with
     | some (.ow d)=>(match f (d::ds) with
      |none=>none
      |some (v,d')=>if flat v.dat&&vW d' then some (v.bG,ρ1.set j (.ow d')) else some (v.bG,ρ2.set j (.ow d')))
     |_=>none))
   |_=>none))
 |_=>none
end Dm
namespace Br
open PySem PySem.Spec PyProof.Rows L2
section
variable{ρ:Dm.Env}{σ:L2.St}{a:Addr}
def spM(f:List Dat->Option (RV×Dat)):Sp:=fun vs H Q _=>∃H0 a us d ds z d',vs=V.ref a::us/\ai H0 H/\H0 a=none/\Own H0 H a d/\aB H0 us ds/\f (d::ds)=some (z,d') /\
 ∀v H0' H',Stp (fun b=>b=a) H0 H H0' H'->ai H0' H'->H0' a=none->Own H0' H' a d'->tK H H0' H' v z->Q v H'
theorem mD{n m:Nat}{body:FS}{vs:List V}{H:Hp}{Q:VK}{E:XK}(h:spM (Dm.fnM n m body) vs H Q E):vs.length=n:=by
 obtain⟨H0,a,us,d,ds,z,d',e,_,_,_,rs,ef,_⟩:=h;unfold Dm.fnM at ef;split at ef
 ·rename_i hl;rw[e,PR,rs.length]
  simpa using hl
 ·cases ef
theorem av.kL{H0 H:Hp}{j:Nat}{d:Dat}(st:av H0 H σ ρ)(q:σ[j]?=some (some (V.ref a)))(no:¬ah σ ρ a)(n0:H0 a=none)(w:Own H0 H a d):av H0 H σ (ρ.set j (.ow d)):=by
 have:=st.A5 (i:=j) no n0 w;have e:σ.set j (some (V.ref a))=σ:=by
  apply Rj;intro i;by_cases h:j=i
  ·subst h;have hl:j<σ.length:=(Ph.mp q).1;rw[PM hl,q]
  ·rw[Dk h]
 rw[e]at this;exact this
theorem av.off{H0 H H0' H':Hp}(st:av H0 H σ ρ)(s0:ai H0 H0')(ss:ai H0' H')(no:¬ah σ ρ a)(s1:∀b o,H b=some o->b≠a->H' b=some o)(s2:∀(i:Nat) (d:Dat) (b:Addr),ρ[i]?=some (Dm.Cell.ow d)->σ[i]?=some (some (V.ref b))->H0' b=none):av H0' H' σ ρ where
 same:=ss
 len:=st.len
 sh:=fun i d e=>by obtain⟨v,q,r⟩:=st.sh i d e;exact⟨v,q,r.mono s0⟩
 ow:=fun i d e=>by obtain⟨b,q,n,w⟩:=st.ow i d e;obtain⟨o,z⟩:=w.some;have nb:b≠a:=fun y=>no ⟨i,d,e,y▸q⟩;exact⟨b,q,s2 i d b e q,w.mono s0 ((s1 b o z nb).trans z.symm)⟩
 dis:=st.dis
theorem fF{H0 H1:Hp}:∀{xs:List V} {ds:List Dat},aB H0 xs ds->(ds.all fun x=>!Dm.cZ x)=true->aB H1 xs ds
 |_,_,.nil,_=>.nil
 |_,_,.cons r rs,h=>by rw[Rb,Pz]at h;exact .cons (Rep.plain r (by simpa using h.1)) (fF rs h.2)
end
section
variable{σ:L2.St}{H:Hp}{Q:VK}
theorem ET{f:List Dat->Option (RV×Dat)}{j:Nat}{fs:List FE}{E:XK}(h:tD (Dm.eFm f j fs) σ H Q):gk (spM f) [] E (tDA (Dm.eV j::fs)) σ H Q:=by
 obtain⟨H0,ρ,x,ρ',st,e,k⟩:=h;unfold Dm.eFm at e;split at e
 case h_2=>cases e
 rename_i d0 h0;split at e
 ·cases e
 rename_i xs ρ1 e1;split at e
 case h_2=>cases e
 rename_i d1 h1;split at e
 ·cases e
 rename_i ds ρ2 e2;split at e
 case h_2=>cases e
 rename_i d h2;split at e
 ·cases e
 rename_i z d' fz;have ea:Dm.eAs (Dm.eV j::fs) ρ=some (.slot j::xs,ρ1):=by unfold Dm.eAs;rw[show Dm.eV j ρ=some (.slot j,ρ) from by unfold Dm.eV;rw[h0]];dsimp only;rw[e1]
 refine⟨H0,ρ,.slot j::xs,ρ1,st,ea,fun vs H1 Hb t1 r1=>?_⟩;dsimp only;rw[Qe];cases r1 with
 |cons r0 rr=>
  obtain⟨H2,t2,b2,r2⟩:=takes t1 (ai.refl _) rr e2;obtain⟨a,qa,na,wa⟩:=t2.st.ow j d h2;obtain⟨q0,_⟩:=r0;rw[qa]at q0;cases q0;obtain⟨a1,qa1,na1,wa1⟩:=t1.st.ow j d1 h1;rw[qa]at qa1;cases qa1;obtain⟨oa,ha⟩:=wa.some;have hl2:j<ρ2.length:=(Ph.mp h2).1;have hl1:j<ρ1.length:=(Ph.mp h1).1;have oa0:ah σ ρ a:=t1.own a ⟨j,d1,h1,qa⟩;refine⟨H2,a,_,d,ds,z,d',rfl,t2.st.same,na,wa,r2,fz,fun v H3 Hd s3 ss n3 w3 r3=>?_⟩;have no2:¬ah σ (ρ2.set j .un) a:=fun y=>by obtain⟨i,d4,hi,y1,y2⟩:=bO y;exact hi (t2.st.dis i j d4 d a y1 h2 y2 qa)
  have no1:¬ah σ (ρ1.set j .un) a:=fun y=>by obtain⟨i,d4,hi,y1,y2⟩:=bO y;exact hi (t1.st.dis i j d4 d1 a y1 h1 y2 qa)
  split at e
  ·rename_i fl;cases e;rw[Pz]at fl;obtain⟨f1,f2⟩:=fl;have wp:∀H',Own H' Hd a d':=fun H'=>by
    cases d' with
    |lst ys=>obtain⟨us,y1,y2⟩:=w3;exact⟨us,y1,fF y2 f2⟩
    |_=>cases f2
   have Ks:∀H1':Hp,ai H1 H1'->ai H1' Hd->(∀b o,H1' b=some o->H1 b=some o\/((∃us,o=.tup us)/\H3 b=some o))->gv H H1' Hd σ (ρ1.set j (.ow d')) v z.bG->Q v Hd:=fun H1' m1 m2 m3 rv=>by
    have hd3:∀b,H1' b≠none->b≠a:=fun b hb y=>by
     subst y;cases y2:H1' b with
     |none=>exact hb y2
     |some o=>
      rcases m3 b o y2 with y3 | ⟨_,y3⟩
      ·rw[na1]at y3;cases y3
      ·rw[n3]at y3;cases y3
    have n1':H1' a=none:=by
     cases y:H1' a with
     |none=>rfl
     |some o=>exact absurd rfl (hd3 a (by rw[y];exact fun q=>nomatch q))
    have sm:av H1' Hd σ (ρ1.set j .un):=by
     refine(t1.st.mask j).off m1 m2 no1 (fun b o y nb=>s3.s1 b o y nb) fun i d4 b y1 y2=>?_;obtain⟨b',q',nb',w'⟩:=(t1.st.mask j).ow i d4 y1;rw[y2]at q';cases q';cases y:H1' b with
     |none=>rfl
     |some o=>
      rcases m3 b o y with y3 | ⟨⟨us,y4⟩,y3⟩
      ·rw[nb']at y3;cases y3
      ·subst y4;have nb:b≠a:=hd3 b (by rw[y];exact fun q=>nomatch q);cases d4 with
       |lst _=>obtain⟨ws,z1,_⟩:=w';have z2:=s3.s1 b _ z1 nb;rw[ss _ _ y3]at z2;cases z2
       |dct _ _=>obtain⟨ws,z1,_⟩:=w';have z2:=s3.s1 b _ z1 nb;rw[ss _ _ y3]at z2;cases z2
       |dcp _ _=>obtain⟨ws,z1,_⟩:=w';have z2:=s3.s1 b _ z1 nb;rw[ss _ _ y3]at z2;cases z2
       |_=>exact Qf w'
    have sf:av H1' Hd σ (ρ1.set j (.ow d')):=by have:=sm.kL qa no1 n1' (wp H1');rw[Sj]at this;exact this
    refine k v H1' Hd ⟨sf,⟨t1.stp.s0.trans m1,fun b o y nb=>?_,fun b o y=>?_,fun b o y=>?_⟩,fun b y=>?_,fun i y=>?_⟩ rv
    ·have y1:=t1.stp.s1 b o y nb;exact s3.s1 b o y1 fun q=>nb (by rw[q];exact oa0)
    ·rcases m3 b o y with y3 | ⟨_,y3⟩
     ·exact t1.stp.s2 b o y3
     ·rcases s3.s2 b o y3 with y4 | y4 | y4
      ·exact .inl (t1.stp.gone y4)
      ·exact t2.stp.s2 b o y4
      ·subst y4;rw[n3]at y3;cases y3
    ·obtain⟨o',y1⟩:=t1.stp.s3 b o y;exact s3.s3 b o' y1
    ·obtain⟨i,d4,y1,y2⟩:=y;by_cases hi:j=i
     ·subst hi;rw[qa]at y2;cases y2;exact oa0
     ·rw[Dk hi]at y1;exact t1.own b ⟨i,d4,y1,y2⟩
    ·trivial
   have m0:ai H1 Hd:=fun b o y=>s3.s1 b o (t1.st.same _ _ y) fun q=>by rw[q,na1]at y;cases y
   cases z with
   |new d4=>
    obtain⟨_,_,_,_,w⟩:=r3;cases d4 with
    |lst _=>cases f1
    |dct _ _=>cases f1
    |dcp _ _=>cases f1
    |_=>exact Qf w
   |val d4=>
    have r3':Rep H3 v d4:=r3;cases d4 with
    |tup es=>
     cases r3' with
     |tup q rs=>
      rename_i a2 us;have rp:aB H1 us es:=fF rs f1;refine Ks (upd H1 a2 (.tup us)) (fun b o y=>?_) (fun b o y=>?_) (fun b o y=>?_) (.tup au (fF rs f1))
      ·by_cases hb:b=a2
       ·subst hb;have:=s3.s0 _ _ (b2 _ _ y);rw[q]at this;rw[au,this]
       ·rw[ak hb];exact y
      ·by_cases hb:b=a2
       ·subst hb;rw[au]at y;cases y;exact ss _ _ q
       ·rw[ak hb]at y;exact m0 _ _ y
      ·by_cases hb:b=a2
       ·subst hb;rw[au]at y;cases y;exact .inr ⟨⟨us,rfl⟩,q⟩
       ·rw[ak hb]at y;exact .inl y
    |lst _=>cases f1
    |dct _ _=>cases f1
    |dcp _ _=>cases f1
    |exc _=>cases f1
    |dW _ _=>cases f1
    |fn _=>exact Ks H1 (ai.refl _) m0 (fun b o y=>.inl y) (Rep.plain r3' rfl)
    |non=>exact Ks H1 (ai.refl _) m0 (fun b o y=>.inl y) (Rep.plain r3' rfl)
    |bl _=>exact Ks H1 (ai.refl _) m0 (fun b o y=>.inl y) (Rep.plain r3' rfl)
    |int _=>exact Ks H1 (ai.refl _) m0 (fun b o y=>.inl y) (Rep.plain r3' rfl)
    |str _=>exact Ks H1 (ai.refl _) m0 (fun b o y=>.inl y) (Rep.plain r3' rfl)
  ·cases e;have sm:av H3 Hd σ (ρ2.set j .un):=by
    refine(t2.st.mask j).off s3.s0 ss no2 (fun b o y nb=>s3.s1 b o y nb) fun i d4 b y1 y2=>?_;obtain⟨b',q',nb',w'⟩:=(t2.st.mask j).ow i d4 y1;rw[y2]at q';cases q';obtain⟨ob,hob⟩:=w'.some;cases y:H3 b with
    |none=>rfl
    |some o=>
     rcases s3.s2 b o y with y3 | y3 | y3
     ·rw[hob]at y3;cases y3
     ·rw[nb']at y3;cases y3
     ·exact absurd ⟨i,d4,y1,y3▸y2⟩ no2
   have sf:av H3 Hd σ (ρ2.set j (.ow d')):=by have:=sm.kL qa no2 n3 w3;rw[Sj]at this;exact this
   have of:∀b,ah σ (ρ2.set j (.ow d')) b->b=a\/ah σ ρ2 b:=fun b ⟨i,d4,y1,y2⟩=>by
    by_cases hi:j=i
    ·subst hi;rw[qa]at y2;cases y2;exact .inl rfl
    ·rw[Dk hi]at y1;exact .inr ⟨i,d4,y1,y2⟩
   refine k v H3 Hd ⟨sf,t2.stp.trans s3 (fun b y=>.inl (y▸oa0)),fun b y=>?_,fun i y=>?_⟩ ?_
   ·rcases of b y with y | y
    ·exact y▸oa0
    ·exact t2.own b y
   ·trivial
   ·cases z with
    |val d4=>exact r3
    |new d4=>
     obtain⟨b,y0,y1,y2,y3⟩:=r3;refine⟨b,y0,t2.stp.gone y1,fun y=>?_,y2,y3⟩;rcases of b y with y | y
     ·subst y;rw[ha]at y1;cases y1
     ·exact t2.st.bx y1 y
end
theorem bF{X:Cx}{es:List Expr}{p pos px:Pos}{k:Nat}{F:Addr}{fd:FuncData}{ps:List Str}{g:List Dat->Option (RV×Dat)}{x y:Str}{j:Nat}{fs:List FE}(G:aT X.prog X.w X.K X.mg X.base CX0 k F fd ps (spM g))(hr:br k X.A)(hg:Gl X x)(hm:X.mg x=some (.ref F))(hk:Qq X.K (.ref F)=true)(hb:Binds X.K fd ps [])
  (ha:DA X (.Name y px::es) (Dm.eV j::fs)) (M0:(x == ("__debug__" : Str))=false:=by decide) (he:starEach (.Name y px::es) X.env=(false,eval (.Name y px) X.env)::starEach es X.env:=by rfl) (Ct:(backTo pos (starEach es X.env)).any (·.1)=false:=by rfl) :
  DE X (.Call (.Name x p) (.Name y px::es) [] pos) (Dm.eFm g j fs):=PE.weak (fB G hr hg hm hk hb .nil (jE (X:=X)) ha M0 he Ct) fun _ _ _=>ET
theorem Bv{N:List Str}{n m:Nat}{body:FS}{vs:List V}{H:Hp}{Q:VK}{E:XK}(hm:N.length=n+m)(h:spM (Dm.fnM n m body) vs H Q E) :
  tDS body { nx:=fun _ H'=>Q .non H',rt:=Q } (start N vs) H:=by
 have hvn:=mD h;obtain⟨H0,a,us,d,ds,z,d',e,s,na,wa,rs,ef,k⟩:=h;subst e;have hl:=rs.length;rw[PR]at hvn;have e0:(start N (V.ref a::us))[0]?=some (some (V.ref a)):=rfl;have get:∀{i:Nat} {c:Dm.Cell},(Dm.Cell.ow d::(ds.map Dm.Cell.sh++gV m .un))[i]?=some c->(i=0/\c=.ow d)\/(∃i' d4,i=i'+1/\ds[i']?=some d4/\c=.sh d4)\/c=.un:=fun {i c} y=>by
  cases i with
  |zero=>cases y;exact .inl ⟨rfl,rfl⟩
  |succ i=>
   rw[QU]at y;by_cases hi:i<ds.length
   ·rw[Pq (by simpa using hi),Py,Pp hi]at y;cases y;exact .inr (.inl ⟨i,ds[i],rfl,Pp hi,rfl⟩)
   ·rw[P5 (by simpa using hi),Qi]at y;split at y
    ·cases y;exact .inr (.inr rfl)
    ·cases y
 have ow0:∀{i:Nat} {d4:Dat},(Dm.Cell.ow d::(ds.map Dm.Cell.sh++gV m .un))[i]?=some (.ow d4)->i=0/\d4=d:=fun {i d4} y=>by
  rcases get y with⟨y1,y2⟩ | ⟨_,_,_,_,y2⟩ | y2
  ·cases y2;exact⟨y1,rfl⟩
  ·cases y2
  ·cases y2
 have oa:∀b,ah (start N (V.ref a::us)) (Dm.Cell.ow d::(ds.map Dm.Cell.sh++gV m .un)) b->b=a:=fun b ⟨i,d4,y1,y2⟩=>by obtain⟨y3,_⟩:=ow0 y1;subst y3;rw[e0]at y2;cases y2;rfl
 have st:av H0 H (start N (V.ref a::us)) (Dm.Cell.ow d::(ds.map Dm.Cell.sh++gV m .un)):=by
  refine⟨s,?_,fun i d4 y=>?_,fun i d4 y=>?_,fun i i' d4 d5 b y1 y2 _ _=>(ow0 y1).1.trans (ow0 y2).1.symm⟩
  ·unfold L2.start;simp only[Pr,Pg,Qz,PR];omega
  ·rcases get y with⟨_,y2⟩ | ⟨i',d5,y1,y2,y3⟩ | y2
   ·cases y2
   ·cases y3;subst y1;obtain⟨v,hv,r⟩:=rs.get y2;refine⟨v,?_,r⟩;have hi:i'<us.length:=(Ph.mp hv).1;unfold L2.start;rw[Pq (by simp;omega),Py,QU,hv];rfl
   ·cases y2
  ·obtain⟨y1,y2⟩:=ow0 y;subst y1 y2;exact⟨a,e0,na,wa⟩
 have Ks:∀{σ':L2.St} {ρ':Dm.Env} {H0' H':Hp},SSt (start N (V.ref a::us)) (Dm.Cell.ow d::(ds.map Dm.Cell.sh++gV m .un)) H0 H σ' ρ' H0' H'->ρ'[0]?=some (.ow d')->Stp (fun b=>b=a) H0 H H0' H'/\H0' a=none/\Own H0' H' a d'/\ah σ' ρ' a:=fun {σ' ρ' H0' H'} t y=>by obtain⟨a',q',n',w'⟩:=t.st.ow 0 d' y;have fx:=t.fx;rw[e0,q']at fx;cases fx;exact⟨t.stp.wide fun b z=>oa b z,n',w',0,d',y,q'⟩
 unfold Dm.fnM at ef;split at ef
 case isFalse=>cases ef
 dsimp only at ef;split at ef
 ·rename_i z' ρ' e1;split at ef
  case h_2=>cases ef
  rename_i d4 y;cases ef;refine⟨H0,_,_,st,e1,fun σ' v H0' H' t r no=>?_⟩;obtain⟨f1,f2,f3,f4⟩:=Ks t y;refine k v H0' H' f1 t.st.same f2 f3 ?_;cases z with
  |val d5=>exact r
  |new d5=>
   obtain⟨b,y0,y1,y2,y3⟩:=r;refine⟨b,y0,?_,y2,y3⟩;rcases y1 with y1 | y1
   ·exact y1
   ·exact absurd f4 (oa b y1▸no d5 b rfl y0)
 ·rename_i ρ' e1;split at ef
  case h_2=>cases ef
  rename_i d4 y;cases ef;refine⟨H0,_,_,st,e1,fun σ' H0' H' t=>?_⟩;obtain⟨f1,f2,f3,f4⟩:=Ks t y;exact k _ H0' H' f1 t.st.same f2 f3 .non
 ·cases ef
end Br
namespace Dm
noncomputable def bI:List Int->List Dat->Int->Option Dat
 |k::ks,v::vs,i=>if k=i then some v else bI ks vs i
 |_,_,_=>none
noncomputable def xX:List Int->List Dat->Int->Dat->List Dat
 |k::ks,v::vs,i,d=>(if k=i then d else v)::xX ks vs i d
 |_,_,_,_=>[]
noncomputable def lJ(ks:List Int)(i:Int):List Int:=if (ks.any fun k=>decide (k=i))=true then ks else ks++[i]
noncomputable def lM(ks:List Int)(vs:List Dat)(i:Int)(d:Dat):List Dat:=if (ks.any fun k=>decide (k=i))=true then xX ks vs i d else vs++[d]
noncomputable def eDn:FE:=fun ρ=>some (.new (.dct [] []),ρ)
noncomputable def gDx:Dat->Dat->Option RV
 |.dct ks vs,.int i=>(bI ks vs i).map .val
 |_,_=>none
noncomputable def zA:Dat->Dat->Option RV
 |.int i,.dct ks vs=>vB (bI ks vs i).isSome
 |_,_=>none
noncomputable def tS:Dat->Dat->Option RV
 |.int i,.dct ks vs=>vB (!(bI ks vs i).isSome)
 |_,_=>none
noncomputable def lN(a b:FE):FE:=fun ρ=>match a ρ with
 |none=>none
 |some (x,ρ1)=>match pk ρ1 x with
  | some (.dct _ _)=>(match b ρ1 with
   |none=>none
   |some (y,ρ2)=>match pk ρ2 x with
    | some (.dct ks vs)=>(match pk ρ2 y with
     |some (.int i)=>some (.val ((bI ks vs i).getD .non),ρ2)
     |_=>none)
    |_=>none)
  |_=>none
noncomputable def eD1(a b:FE):FE:=fun ρ=>match a ρ with
 | some (.val (.int i),ρ1)=>(match b ρ1 with
  |none=>none
  |some (x,ρ2)=>match tk ρ2 x with
   |none=>none
   |some (d,ρ3)=>some (.new (.dct [i] [d]),ρ3))
 |_=>none
noncomputable def nk(i:Nat)(j e:FE):FS:=fun ρ=>match e ρ with
 |none=>none
 |some (x,ρ1)=>match tk ρ1 x with
  |none=>none
  |some (d,ρ2)=>match ρ2[i]? with
   | some (.ow _)=>(match j ρ2 with
    | some (.val (.int k),ρ3)=>(match ρ3[i]? with
     |some (.ow (.dct ks vs))=>if ks.length<SZ then some (.nx (ρ3.set i (.ow (.dct (lJ ks k) (lM ks vs k d))))) else none
     |_=>none)
    |_=>none)
   |_=>none
end Dm
namespace Br
open PySem PySem.Spec PyProof.Rows L2
section
variable{ds:List Dat}{ks:List Int}{H0:Hp}{d:Dat}{v:V}
theorem dN{H0 H:Hp}(s:ai H0 H)(r:kH H0 H v (.dct ks ds)):∃a kvs,v=.ref a/\H a=some (.dK kvs)/\kvs.map (·.1)=ks.map PX/\aB H0 (kvs.map (·.2)) ds:=by
 rcases r with r | ⟨a,e,kvs,q,ek,rs⟩
 ·cases r with
  |dct q ek rs=>exact⟨_,_,rfl,s _ _ q,ek,rs⟩
 ·exact⟨a,kvs,e,q,ek,rs⟩
theorem rQ{a b:Int}(h:¬a=b):¬(PX a:Key)=PX b:=fun q=>h (PX.inj q)
theorem gZ(i:Int):∀{kvs:List (Key×V)} {ks:List Int} {ds:List Dat},kvs.map (·.1)=ks.map PX->aB H0 (kvs.map (·.2)) ds ->
  (∃d v,Dm.bI ks ds i=some d/\iF kvs (PX i)=some v/\Rep H0 v d)\/(Dm.bI ks ds i=none/\iF kvs (PX i)=none)
 |[],[],_,_,r=>by cases r;exact .inr ⟨rfl,rfl⟩
 |[],_::_,_,e,_=>by cases e
 |_::_,[],_,e,_=>by cases e
 |(k0,v0)::kvs,k::ks,_,e,r=>by
  rw[gc]at r;cases r with
  |cons r0 rr=>
   rw[gc,gc]at e;injection e with e1 e2
   have e1:k0=PX k:=e1;subst e1;unfold Dm.bI;by_cases h:k=i
   ·subst h;rw[if_pos rfl];exact .inl ⟨_,v0,rfl,jF rfl,r0⟩
   ·rw[if_neg h,jG (rQ h)];exact gZ i e2 rr
theorem Bw(i:Int):∀{kvs:List (Key×V)} {ks:List Int},kvs.map (·.1)=ks.map PX->(kvs.any fun kv=>decide (kv.1=PX i))=(ks.any fun k=>decide (k=i))
 |[],[],_=>rfl
 |[],_::_,e=>by cases e
 |_::_,[],e=>by cases e
 |(k0,v0)::kvs,k::ks,e=>by
  rw[gc,gc]at e;injection e with e1 e2
  have e1:k0=PX k:=e1;subst e1;rw[QT,QT,Bw i e2]
  congr 1
  by_cases h:k=i
  ·subst h;simp
  ·have:=rQ h;simp[h,this]
theorem xY(i:Int)(rv:Rep H0 v d):∀{kvs:List (Key×V)} {ks:List Int} {ds:List Dat},kvs.map (·.1)=ks.map PX->aB H0 (kvs.map (·.2)) ds ->
  ((kvs.map fun kv=>if kv.1=PX i then (kv.1,v) else kv).map (·.1)=ks.map PX)/\aB H0 ((kvs.map fun kv=>if kv.1=PX i then (kv.1,v) else kv).map (·.2)) (Dm.xX ks ds i d)
 |[],[],_,_,r=>by cases r;exact⟨rfl,.nil⟩
 |[],_::_,_,e,_=>by cases e
 |_::_,[],_,e,_=>by cases e
 |(k0,v0)::kvs,k::ks,_,e,r=>by
  rw[gc]at r;cases r with
  |cons r0 rr=>
   rw[gc,gc]at e;injection e with e1 e2
   have e1:k0=PX k:=e1;subst e1;obtain⟨i1,i2⟩:=xY i rv e2 rr;unfold Dm.xX;by_cases h:k=i
   ·subst h;rw[if_pos rfl,gc,gc,gc,i1];simp only[if_true];exact⟨trivial,.cons rv i2⟩
   ·rw[if_neg h,gc,gc,gc,i1];have:=rQ h;simp only[this,if_false];exact⟨trivial,.cons r0 i2⟩
theorem JB(i:Int)(rv:Rep H0 v d){kvs:List (Key×V)}(e:kvs.map (·.1)=ks.map PX)(r:aB H0 (kvs.map (·.2)) ds) :
  (putK kvs (PX i) v).map (·.1)=(Dm.lJ ks i).map PX/\aB H0 ((putK kvs (PX i) v).map (·.2)) (Dm.lM ks ds i d):=by
 have ha:=Bw i e;unfold putK Dm.lJ Dm.lM;rw[ha];cases hb:(ks.any fun k=>decide (k=i)) with
 |true=>simp only[if_true];exact xY i rv e r
 |false=>simp only[RQ,if_false];rw[PF,PF,PF,e];exact⟨rfl,r.append (.cons rv .nil)⟩
theorem Mk:OpD (fun x y H Q=>∃a v,x=.ref a/\gf H a y (some v)/\Q v H) Dm.gDx:=by
 intro H0 H x y dx dy z Q s rx ry e k;unfold Dm.gDx at e;split at e
 ·rename_i ks vs i;cases ay ry;obtain⟨a,kvs,rfl,qa,ek,rs⟩:=dN s rx;rcases gZ i ek rs with⟨d,v,l1,l2,r⟩ | ⟨l1,_⟩
  ·rw[l1]at e;cases e;refine⟨a,v,rfl,?_,k _ H0 H (aI.refl s) r⟩;have:=gf.k (k:=PX i) qa;rw[l2]at this;exact this
  ·rw[l1]at e;cases e
 ·cases e
theorem JC:OpD (fun y x H Q=>∃a o,x=.ref a/\gf H a y o/\Q (.bl o.isSome) H) Dm.zA:=by
 intro H0 H x y dx dy z Q s rx ry e k;unfold Dm.zA at e;split at e
 ·rename_i i ks vs;cases e;cases ay rx;obtain⟨a,kvs,rfl,qa,ek,rs⟩:=dN s ry;refine⟨a,_,rfl,gf.k (k:=PX i) qa,k _ H0 H (aI.refl s) ?_⟩;rcases gZ i ek rs with⟨d,v,l1,l2,r⟩ | ⟨l1,l2⟩
  ·rw[l1,l2];exact .bl _
  ·rw[l1,l2];exact .bl _
 ·cases e
theorem EU:OpD (fun y x H Q=>∃a o,x=.ref a/\gf H a y o/\Q (.bl (!o.isSome)) H) Dm.tS:=by
 intro H0 H x y dx dy z Q s rx ry e k;unfold Dm.tS at e;split at e
 ·rename_i i ks vs;cases e;cases ay rx;obtain⟨a,kvs,rfl,qa,ek,rs⟩:=dN s ry;refine⟨a,_,rfl,gf.k (k:=PX i) qa,k _ H0 H (aI.refl s) ?_⟩;rcases gZ i ek rs with⟨d,v,l1,l2,r⟩ | ⟨l1,l2⟩
  ·rw[l1,l2];exact .bl _
  ·rw[l1,l2];exact .bl _
 ·cases e
end
section
variable{σ:L2.St}{H:Hp}{Q:VK}{D:Ends}
theorem Oq(h:tD Dm.eDn σ H Q):AO σ H Q:=by obtain⟨H0,ρ,x,ρ',st,e,k⟩:=h;cases e;intro p hp;have g:=aI.mh (o:=HO.dK []) st.same hp;exact k _ _ _ (.grow st g) ⟨p,rfl,hp,st.bx hp,st.same.free hp,[],au,rfl,.nil⟩
theorem JD{fo fi:FE}(h:tD (Dm.lN fo fi) σ H Q):AU (tD fo) (tD fi) σ H Q:=by
 obtain⟨H0,ρ,x,ρ',st,e,k⟩:=h;unfold Dm.lN at e;split at e
 ·cases e
 rename_i x1 ρ1 e1;split at e
 case h_2=>cases e
 rename_i ks0 vs0 p0;split at e
 ·cases e
 rename_i y1 ρ2 e2;split at e
 case h_2=>cases e
 rename_i ks vs p1;split at e
 case h_2=>cases e
 rename_i i p2;cases e;refine⟨H0,ρ,x1,ρ1,st,e1,fun v H1 Hb t1 r1=>?_⟩;obtain⟨a,JE,rfl,qa0,_,_⟩:=dN t1.st.same (r1.look t1.st p0);refine⟨a,rfl,.inl ⟨JE,.inl qa0⟩,H1,ρ1,y1,_,t1.st,e2,fun u H2 Hc t2 r2=>?_⟩;have hu:=ay (r2.look t2.st p2);subst hu;obtain⟨a',kvs,ea,qa,ek,rs⟩:=dN t2.st.same ((r1.mono t2).look t2.st p1);cases ea;refine⟨_,gf.k (k:=PX i) qa,k _ H2 Hc (t1.trans t2) ?_⟩;rcases gZ i ek rs with⟨d,w,l1,l2,r⟩ | ⟨l1,l2⟩
 ·rw[l1,l2];exact r
 ·rw[l1,l2];exact Rep.non
theorem JF{i:Nat}{j f:FE}(h:tDS (Dm.nk i j f) D σ H):GJ (eO i) (tD j) (tD f) D σ H:=by
 obtain⟨H0,ρ,o,st,e,k⟩:=h;unfold Dm.nk at e;split at e
 ·cases e
 rename_i x ρ1 e1;split at e
 ·cases e
 rename_i d ρ2 e2;split at e
 case h_2=>cases e
 rename_i d0 h2;split at e
 ·rename_i m ρ3 e3;split at e
  ·rename_i ks vs h3;split at e
   case isFalse=>cases e
   rename_i hz;cases e;refine⟨H0,ρ,_,ρ1,st,e1,fun v H0' H' t r=>?_⟩;obtain⟨H1,t1,b1,r1,_,_⟩:=take1 t (ai.refl _) r e2;obtain⟨a0,q0,_,_⟩:=t1.st.ow i _ h2;refine⟨_,q0,H1,ρ2,_,ρ3,t1.st,e3,fun u H2 Hc t2 r2=>?_⟩;obtain⟨a,q,n,w⟩:=t2.st.ow i _ h3;rw[q0]at q;cases q;obtain⟨kvs,y,ek,rs⟩:=w;have hu:=Rep.isInt r2;subst hu;obtain⟨p1,p2⟩:=JB m (r1.mono t2.stp.s0) ek rs;have B3:kvs.length=ks.length:=by
    have:=congrArg List.length ek
    simpa using this
   refine⟨a0,_,rfl,AM.k (k:=PX m) y (by rw[B3];exact PD hz (by decide)),?_⟩;have ow:ah σ ρ3 a0:=⟨i,_,h3,q0⟩
   have tt:=t1.trans t2;exact k σ H2 _ ⟨t2.st.write h3 q0 ⟨_,au,p1,p2⟩,tt.stp.trans (Stp.write ow) fun b z=>.inl (tt.own b z),fun b z=>.inl (tt.own b (cO h3 z)),rfl⟩
  ·cases e
 ·cases e
theorem Ot{fa fb:FE}(h:tD (Dm.eD1 fa fb) σ H Q):GK [(tD fa,tD fb)] σ H Q:=by
 obtain⟨H0,ρ,x,ρ',st,e,k⟩:=h;unfold Dm.eD1 at e;split at e
 ·rename_i i ρ1 e1;split at e
  ·cases e
  rename_i y ρ2 e2;split at e
  ·cases e
  rename_i d ρ3 e3;cases e;intro p hp;have n0:H0 p=none:=st.same.free hp;have no:¬ah σ ρ p:=st.bx hp;refine⟨H0,ρ,_,ρ1,st.aside n0 no,e1,fun u H1 Hb t1 r1=>⟨H1,ρ1,y,ρ2,t1.st,e2,fun v H2 Hc t2 r2=>?_⟩⟩;have tt:=t1.trans t2;obtain⟨H3,t3,b3,r3,_,_⟩:=take1 tt (ai.refl _) (r2.early fun a n=>t1.stp.gone n) e3;obtain⟨hp3,n3,no3⟩:=t3.bV (o:=HO.dK []) au n0 no;have hu:=Rep.isInt r1;subst hu;refine⟨hp3,[(PX i,v)],rfl,(by simp),?_⟩;have em:kC [] [((PX i:Key),v)]=[(PX i,v)]:=rfl;rw[em];refine k _ H3 _ ⟨t3.st.aside n3 no3,⟨t3.stp.s0,fun a o y nb=>?_,fun a o y=>?_,fun a o y=>?_⟩,t3.own,t3.dfn⟩ ⟨p,rfl,hp,no3,n3,_,au,rfl,.cons r3 .nil⟩
  ·have ne:a≠p:=fun q=>by rw[q,hp]at y;cases y
   rw[ak ne];exact t3.stp.s1 a o (by rw[ak ne];exact y) nb
  ·rcases t3.stp.s2 a o y with y1 | y1 | y1
   ·by_cases ne:a=p
    ·subst ne;rw[n3]at y;cases y
    ·rw[ak ne]at y1;exact .inl y1
   ·exact .inr (.inl y1)
   ·exact .inr (.inr y1)
  ·have ne:a≠p:=fun q=>by rw[q,hp]at y;cases y
   rw[ak ne];exact t3.stp.s3 a o (by rw[ak ne];exact y)
 ·cases e
end
theorem u1{k:Nat}{A:Around}(hr:br k A):A.units+1<cLine:=RP (Nat.add_le_add_left (by decide) _) hr.units
section
variable{X:Cx}{a b e:Expr}{fa fb f:FE}{pos:Pos}{k:Nat}
theorem Ml:DE X (.Dict [] [] pos) Dm.eDn:=PE.weak AQ fun _ _ _=>Oq
theorem Ou(ha:DE X a fa)(hb:DE X b fb):DE X (.Dict [some a] [b] pos) (Dm.eD1 fa fb):=PE.weak (Ex (AR ha hb Ew) rfl rfl (by simp) (by simp)) fun _ _ _=>Ot
theorem Bx(hr:br k X.A)(ha:DE X a fa)(hb:DE X b fb)(hs:IT b:=by intro _ _;rfl):DE X (.Subscript a b pos) (Dm.e2 Dm.gDx fa fb):=PE.weak (Et (u1 hr) ha hb hs) fun _ _ _=>vR Mk
theorem By(hr:br k X.A)(ha:DE X a fa)(hb:DE X b fb)(hm:behindInMarks .In b=false:=by rfl):DT X (.Compare a [.In] [b] pos) (Dm.tV (Dm.e2 Dm.zA fa fb)):=PT.weak (Ae (IU (u1 hr) ha hb) hm) fun σ H Q h=>vR JC (rD h)
theorem JG(hr:br k X.A)(ha:DE X a fa)(hb:DE X b fb)(hm:behindInMarks .NotIn b=false:=by rfl):DT X (.Compare a [.NotIn] [b] pos) (Dm.tV (Dm.e2 Dm.tS fa fb)):=PT.weak (Ae (zk (u1 hr) ha hb) hm) fun σ H Q h=>vR EU (rD h)
theorem BA{J_ cpos:Pos}(hr:br k X.A)(ha:DE X a fa)(hb:DE X b fb)(m:M1 X a "get" J_ b cpos:=by exact⟨rfl,rfl,rfl,rfl⟩):DE X (.Call (.Attribute a "get" J_) [b] [] cpos) (Dm.lN fa fb):=PE.weak (AW (u1 hr) ha hb m) fun _ _ _=>JD
theorem BB(i:Nat){x:Str}{px sp:Pos}(hr:br k X.A)(hb:DE X b fb)(he:DE X e f)(hi:X.N[i]?=some x:=by rfl)(hv:Vis X.env.scope x:=by trivial)(hd:(x == ("__debug__" : Str))=false:=by decide)
  (G3:(x == ("__classdict__" : Str))=false:=by decide) (hs:swapsWith e (some (.Subscript (.Name x px) b sp)) pos.line X.env=pure false:=by rfl):DS X (.Assign [.Subscript (.Name x px) b sp] e pos) (Dm.nk i fb f):=
 PS.weak (Eu (u1 hr) (bM hi hv hd G3) hb he hs) fun _ _ _=>JF
end
end Br
namespace Dm
noncomputable def O_(i:Nat):FE:=fun ρ=>match ρ[i]? with
 | some (.ow (.lst ds))=>(match ds[ds.length-1]? with
  |some d=>some (.val d,ρ.set i (.ow (.lst (ds.take (ds.length-1)))))
  |none=>none)
 |_=>none
noncomputable def zB(a:FE)(lo hi:Option FE):FE:=fun ρ=>match a ρ with
 |none=>none
 |some (x,ρ1)=>match part lo ρ1 with
  |none=>none
  |some (l,ρ2)=>match part hi ρ2 with
   |none=>none
   |some (h,ρ3)=>match pk ρ3 x with
    |some (.tup xs)=>if sIx xs.length 0 l=0/\sIx xs.length xs.length h=xs.length then none else some (.val (.tup (cut xs l h)),ρ3)
    |_=>none
end Dm
namespace Br
open PySem PySem.Spec PyProof.Rows L2
section
variable{σ:L2.St}{H:Hp}{Q:VK}
theorem Ov{K:Pf}{f:FE}{Q:Bool->Hp->Prop}(h:tDT (Dm.tTr f) σ H Q):tD f σ H fun x H'=>∃k,IB K x H' k/\Q k H':=by
 obtain⟨H0,ρ,b,ρ',st,e,k⟩:=h;unfold Dm.tTr at e;split at e
 ·cases e
 rename_i x ρ1 e1;split at e
 ·cases e
 rename_i d p1;split at e
 ·cases e
 rename_i c tc;cases e;refine⟨H0,ρ,x,_,st,e1,fun v H1 Hb t1 r1=>⟨b,?_,k H1 Hb t1⟩⟩;have rl:=r1.look t1.st p1;cases d with
 |non=>
  cases tc;rcases rl with r | ⟨a,_,w⟩
  ·cases r;rfl
  ·exact Qf w
 |bl c=>cases tc;cases EF rl;rfl
 |int i=>cases tc;cases ay rl;rfl
 |tup es=>cases tc;obtain⟨a,xs,rfl,qa,rs⟩:=gy t1.st.same rl;refine .inr (.inl ⟨xs,SqT.of qa,?_⟩);cases rs<;>rfl
 |lst es=>cases tc;obtain⟨a,xs,rfl,qa,rs⟩:=bH t1.st.same rl;refine .inl ⟨xs,.inl qa,?_⟩;cases rs<;>rfl
 |str _=>cases tc
 |dct _ _=>cases tc
 |dcp _ _=>cases tc
 |exc _=>cases tc
 |dW _ _=>cases tc
 |fn _=>cases tc
end
section
variable{X:Cx}{a:Expr}{fa:FE}{p pos:Pos}
theorem Ow(ha:DE X a fa)(he:∀whole,isTrue a X.env whole=(do let v <- whole;standAt a.pos;holding [v] (truthy v)):=by intro _;rfl):DT X a (Dm.tTr fa):=PT.weak (Ay ha he) fun _ _ _=>Ov
end
section
variable{X:Cx}{a b e:Expr}{fa fb f:FE}{fs:List FE}{p p2 pos:Pos}
theorem Mm{K:Pf}{lo hi:Option FE}{σ:L2.St}{H:Hp}{Q:VK}(h:tD (Dm.zB f lo hi) σ H Q):tSl (LA K) (tD f) (tOf lo) (tOf hi) σ H Q:=by
 obtain⟨H0,ρ,x,ρ',st,e,k⟩:=h;unfold Dm.zB at e;split at e
 ·cases e
 rename_i x1 ρ1 e1;split at e
 ·cases e
 rename_i l ρ2 e2;split at e
 ·cases e
 rename_i hh ρ3 e3;split at e
 ·rename_i ds p1;split at e
  ·cases e
  rename_i M3;cases e;refine⟨H0,ρ,x1,ρ1,st,e1,fun v H1 Hb t1 r1=>?_⟩;refine gY t1.st e2 fun H2 Hc t2=>?_;refine gY t2.st e3 fun H3 Hd t3=>?_;have tt:=t1.trans (t2.trans t3);obtain⟨a,xs,rfl,qa,ra⟩:=gy t3.st.same ((r1.mono (t2.trans t3)).look t3.st p1);refine⟨a,xs,rfl,SqT.of qa,?_,fun q hq=>?_⟩
  ·rw[ra.length,gB _ _ _ (Qd _),gB _ _ _ (Pj _)];exact M3
  ·have g:=aI.A2 (o:=HO.tup (l8 xs l hh)) t3.st.same hq;exact k _ _ _ (tt.trans (.grow t3.st g)) (.tup au ((kK ra l hh).mono g.s0))
 ·cases e
theorem Mn{lo hi:Option Expr}{flo fhi:Option FE}(h:DE X e f)(hl:PO X lo (tOf flo))(hh:PO X hi (tOf fhi)):DE X (.Subscript e (.Slice lo hi none p2) pos) (Dm.zB f flo fhi):=PE.weak (mT AF h hl hh) fun _ _ _=>Mm
end
end Br
namespace Dm
noncomputable def eY:List Dat->Option (List Int)
 |[]=>some []
 |.int i::r=>(eY r).map fun ns=>i::ns
 |_=>none
noncomputable def dedup(ns:List Int):List Int:=ns.foldl (fun zL x=>if zL.any (· == x) then zL else zL++[x]) []
noncomputable def fG:Dat->Option RV
 | .lst ds=>(match eY ds with
  |some ns=>if ns.length<=4000 then vI (dedup ns).length else none
  |none=>none)
 |_=>none
end Dm
namespace Br
open PySem PySem.Spec PyProof.Rows L2
def s_(K:Pf):List V->Hp->VK->Prop:=fun xs H Q=>∃(q:Addr) (ns:List Int),xs=[.ref q]/\SqL K H q (ns.map V.int)/\ns.length+1<scanBound /\
 ∀l,H l=none->Q (.ref l) (upd H l (.set (fun k'=>(firstMet (fun i=>ns.getD i 0) ns.length).any (· == k')) (firstMet (fun i=>ns.getD i 0) ns.length).length))
def GU:List V->Hp->VK->Prop:=fun xs H Q=>∃(q:Addr) (S:Int->Bool) (n:Nat),xs=[.ref q]/\H q=some (.set S n)/\Q (.int n) H
theorem intsAre_of:∀{ns:List Int} {its:List Value},Vals (ns.map V.int) its->IntsAre its ns
 |[],_,r=>by cases r;exact .nil
 |n::ns,_,r=>by
  rw[gc]at r;cases r with
  |cons h t=>obtain⟨tk,rfl⟩:=h;exact .cons _ _ (intsAre_of t)
section
variable{X:Cx}
theorem zC(hc:X.calm=true):cY X (.type "set") (s_ X.K):=by
 intro jV s σ H xs us Q I r h;obtain⟨q,ns,rfl,hq,hb,k⟩:=h;obtain⟨u,rfl,rx⟩:=vals1 r;cases rx;obtain⟨its,rv,pl,hz⟩:=I.list hq;have hl:=rv.length;rw[Pg]at hl;refine call_set_list (ns:=ns) (I.ok.hd hc) pl.isList (intsAre_of rv) (by rw[Po,<- hl];exact hb) fun h' tk hS hk=>?_;have hz2:its.toArray.size=ns.length:=by rw[Po,<- hl]
 rw[hz2]at hS;exact⟨.ref s.heap.objs.size,_,I.laid (a:=s.heap.objs.size) (o:=.set (fun k'=>(firstMet (fun i=>ns.getD i 0) ns.length).any (· == k')) (firstMet (fun i=>ns.getD i 0) ns.length).length) (t':=tk) (fun b u e=>hk b u (Px e) e) (Pj _) hS,rfl,k _ (I.hok.fresh (Pj _))⟩
theorem zD:cY X (.builtin "len") GU:=by intro jV s σ H xs us Q I r h;obtain⟨q,S,n,rfl,hq,k⟩:=h;obtain⟨u,rfl,rx⟩:=vals1 r;cases rx;obtain⟨o,es,ep,t,ho,hex,hd,_,_,hb,hf,hn⟩:s.heap.SetOf (intKind X.prog X.w) q S n:=I.hok q _ hq;have hb':es.size<4096:=hb;refine call_len_set ho hex hd hf (by lia) ?_;exact⟨.int n,H,I.tok _,⟨_,by rw[hn]⟩,k⟩
end
theorem tT{H0:Hp}:∀{ds:List Dat} {xs:List V} {ns:List Int},aB H0 xs ds->Dm.eY ds=some ns->xs=ns.map V.int
 |[],_,ns,r,e=>by cases r;cases e;rfl
 |d::ds,_,ns,r,e=>by
  cases r with
  |cons h t=>
   cases d with
   |int i=>
    unfold Dm.eY at e;cases q:Dm.eY ds with
    |none=>rw[q]at e;cases e
    |some ms=>rw[q]at e;cases e;cases Rep.isInt h;rw[tT t q];rfl
   |_=>cases e
theorem range_getD(ns:List Int):(Pu ns.length).map (fun i=>ns.getD i 0)=ns:=by
 apply Rj;intro i;rw[Py];by_cases h:i<ns.length
 ·rw[Q9 h,Pp h];simp[Qg,h]
 ·rw[Qh (by simpa using h),Qh (by simpa using h)];rfl
theorem nu(ns:List Int):(firstMet (fun i=>ns.getD i 0) ns.length)=Dm.dedup ns:=by unfold firstMet Dm.dedup;rw[range_getD];rfl
section
variable{X:Cx}{e:Expr}{f:FE}{p p0 pos pK:Pos}
theorem BC{K:Pf}{σ:L2.St}{H:Hp}{Q:VK}(h:tD (Dm.e1 Dm.fG f) σ H Q):tCB GU (jA (tCB (s_ K) (jA (tD f) pF)) pF) σ H Q:=by
 obtain⟨H0,ρ,x,ρ',st,e,k⟩:=h;unfold Dm.e1 at e;split at e
 ·cases e
 rename_i x1 ρ1 e1;split at e
 ·cases e
 rename_i dx p1;split at e
 ·cases e
 rename_i z gz;cases e;unfold Dm.fG at gz;split at gz
 ·rename_i ds;split at gz
  ·rename_i ns en;split at gz
   ·rename_i hb;cases gz;refine⟨H0,ρ,x1,_,st,e1,fun v H1 Hb t1 r1=>?_⟩;obtain⟨a,xs,rfl,qa,ra⟩:=bH t1.st.same (r1.look t1.st p1);have ex:=tT ra en;subst ex;refine⟨a,ns,rfl,.inl qa,by show ns.length+1<4096;lia,fun l hl=>⟨l,_,_,rfl,au,?_⟩⟩;rw[nu];exact k _ _ _ (t1.trans (.grow t1.st (aI.mh t1.st.same hl))) (Rep.int _)
   ·cases gz
  ·cases gz
 ·cases gz
theorem tU(hc:X.calm=true)(hgl:Gl X "len")(hml:X.mg "len" = none)(hg:Gl X "set")(hm:X.mg "set" = none)(h:DE X e f)(hs:starEach [e] X.env=[(false,eval e X.env)]:=by rfl)
  (hs0:starEach [.Call (.Name "set" p) [e] [] pos] X.env=[(false,eval (.Call (.Name "set" p) [e] [] pos) X.env)]:=by rfl) (Ct:(backTo pos (starEach [] X.env)).any (·.1)=false:=by rfl) (Ox:(backTo pK (starEach [] X.env)).any (·.1)=false:=by rfl) :
  DE X (.Call (.Name "len" p0) [.Call (.Name "set" p) [e] [] pos] [] pK) (Dm.e1 Dm.fG f):=
 PE.weak (mR zD hgl hml PySem.boot_len (dX (p7 (zC hc) hg hm (by rfl) (dX h gj hs) (he:=hs) (Ct:=Ct)) gj hs0) (he:=hs0) (Ct:=Ox)) fun _ _ _=>BC
end
end Br
namespace Ts
open PySem PyProof.Rows
variable{M:Model}{A:Around}{E:Value->Shared->Prop}{s:Shared}{κ:KeyKind}{kd:SortKind}{a₀:Array Keyed}
end Ts
namespace Ts
open PySem PyProof.Rows
variable{M:Model}{A:Around}{E:Value->Shared->Prop}{s:Shared}{κ:KeyKind}{kd:SortKind}{a₀:Array Keyed}
end Ts
namespace Ts
open PySem PyProof.Rows
variable{M:Model}{A:Around}{E:Value->Shared->Prop}{s:Shared}{κ:KeyKind}{kd:SortKind}{a₀:Array Keyed}
end Ts
namespace Ts
open PySem PyProof.Rows
variable{M:Model}{A:Around}{E:Value->Shared->Prop}{s:Shared}{κ:KeyKind}{kd:SortKind}{a₀:Array Keyed}
end Ts
namespace Ts
open PySem PyProof.Rows
variable{A:Around}{E:Value->Shared->Prop}{s:Shared}{κ:KeyKind}{kd:SortKind}{a₀:Array Keyed}{prog:Program}{w:World}
end Ts
namespace Ts
open PySem PyProof.Rows
variable{A:Around}{E:Value->Shared->Prop}{s:Shared}{κ:KeyKind}{kd:SortKind}{a₀:Array Keyed}{prog:Program}{w:World}
end Ts
namespace Ts
open PySem PyProof.Rows
variable{A:Around}{E:Value->Shared->Prop}{s:Shared}{κ:KeyKind}{kd:SortKind}{a₀:Array Keyed}{prog:Program}{w:World}
end Ts
namespace Ts
open PySem PyProof.Rows
variable{A:Around}{E:Value->Shared->Prop}{s:Shared}{κ:KeyKind}{kd:SortKind}{a₀:Array Keyed}{prog:Program}{w:World}
end Ts
namespace Ts
open PySem PyProof.Rows
variable{A:Around}{E:Value->Shared->Prop}{s:Shared}{κ:KeyKind}{kd:SortKind}{prog:Program}{w:World}
end Ts
namespace Ts
open PySem PyProof.Rows
variable{A:Around}{E:Value->Shared->Prop}{s:Shared}{κ:KeyKind}{kd:SortKind}{a₀:Array Keyed}{prog:Program}{w:World}
end Ts
namespace Ts
open PySem PyProof.Rows
variable{A:Around}{E:Value->Shared->Prop}{s:Shared}{κ:KeyKind}{kd:SortKind}{prog:Program}{w:World}
end Ts
namespace Dm
section
variable{α:Type}
noncomputable def ins{α:Type}(lt:α->α->Bool)(x:α):List α->List α
 |[]=>[x]
 |y::l=>if lt y x then y::ins lt x l else x::y::l
noncomputable def fY{α:Type}(lt:α->α->Bool):List α->List α
 |[]=>[]
 |x::l=>ins lt x (fY lt l)
theorem nv(lt:α->α->Bool)(x:α):∀l,(ins lt x l).Perm (x::l)
 |[]=>List.Perm.refl _
 |y::l=>by
  rw[ins];split
  ·exact((nv lt x l).cons y).trans (List.Perm.swap x y l)
  ·exact List.Perm.refl _
theorem fH(lt:α->α->Bool):∀l,(fY lt l).Perm l
 |[]=>List.Perm.refl _
 |x::l=>(nv lt x _).trans ((fH lt l).cons x)
theorem ny{lt:α->α->Bool}(tr:∀a b c,lt b a=false->lt c b=false->lt c a=false)(as:∀a b,lt a b=true->lt b a=false)(x:α):∀l:List α,l.Pairwise (fun a b=>lt b a=false)->(ins lt x l).Pairwise (fun a b=>lt b a=false)
 |[],_=>by simp[ins]
 |y::l,h=>by
  rw[ins];obtain⟨h1,h2⟩:=QJ.mp h;split
  ·rename_i hl;refine QJ.mpr ⟨fun z hz=>?_,ny tr as x l h2⟩;rcases Pk.mp ((nv lt x l).mem_iff.mp hz) with rfl | hz
   ·exact as _ _ hl
   ·exact h1 z hz
  ·rename_i hl;have hl':lt y x=false:=by simpa using hl
   refine QJ.mpr ⟨fun z hz=>?_,h⟩;rcases Pk.mp hz with rfl | hz
   ·exact hl'
   ·exact tr _ _ _ hl' (h1 z hz)
theorem fJ{lt:α->α->Bool}(tr:∀a b c,lt b a=false->lt c b=false->lt c a=false)(as:∀a b,lt a b=true->lt b a=false):∀l:List α,(fY lt l).Pairwise (fun a b=>lt b a=false)
 |[]=>Se.nil
 |x::l=>ny tr as x _ (fJ tr as l)
theorem lO{lt:α->α->Bool}(tot:∀a b,lt a b=false->lt b a=false->a=b):∀{l m:List α},l.Perm m->l.Pairwise (fun a b=>lt b a=false)->m.Pairwise (fun a b=>lt b a=false)->l=m
 |[],m,p,_,_=>(List.nil_perm.mp p).symm
 |x::l,[],p,_,_=>by have:=p.length_eq;simp at this
 |x::l,y::m,p,h1,h2=>by
  obtain⟨a1,a2⟩:=QJ.mp h1;obtain⟨b1,b2⟩:=QJ.mp h2;have e:x=y:=by
   rcases Pk.mp (p.mem_iff.mp Ds) with hx | hx
   ·exact hx
   ·rcases Pk.mp (p.mem_iff.mpr (Ds (a:=y) (l:=m))) with hy | hy
    ·exact hy.symm
    ·exact tot x y (b1 x hx) (a1 y hy)
  subst e;rw[lO tot (List.Perm.cons_inv p) a2 b2]
noncomputable def dO(i:Nat)(e:FE):FE:=fun ρ=>match ρ[i]? with
 | some (.ow (.lst _))=>(match e ρ with
  | some (.val (.int j),ρ1)=>(match ρ1[i]? with
   | some (.ow (.lst ds))=>if 0≤j∧j≤BIG then (match ds[j.toNat]? with
     |some d=>some (.val d,ρ1.set i (.ow (.lst (ds.eraseIdx j.toNat))))
     |none=>none) else none
   |_=>none)
  |_=>none)
 |_=>none
noncomputable def isN:Dat->Bool
 |.non=>true
 |_=>false
noncomputable def rR:Dat->Dat->Option RV
 |d,.non=>vB (isN d)
 |_,_=>none
end
end Dm
namespace Br
open PySem PySem.Spec PyProof.Rows L2
theorem qh{H0:Hp}:∀ns:List Int,aB H0 (ns.map V.int) (ns.map Dat.int)
 |[]=>.nil
 |n::ns=>.cons (.int n) (qh ns)
section
variable{X:Cx}{a b c e:Expr}{f fa fb:FE}{fs:List FE}{p pos:Pos}
def Mp(neg:Bool):R2:=fun x y H Q=>y=.non/\Q (.bl (if neg then !decide (x=V.non) else decide (x=V.non))) H
theorem EV{x:V}{v:Value}(r:RelV x v):(v == Value.none)=decide (x=V.non):=by
 cases x with
 |non=>cases r;rfl
 |bl b=>cases r;rfl
 |int i=>obtain⟨t,rfl⟩:=r;rfl
 |str z=>obtain⟨t,rfl⟩:=r;rfl
 |byt z=>obtain⟨t,rfl⟩:=r;rfl
 |flt z=>obtain⟨t,rfl⟩:=r;rfl
 |ref z=>cases r;rfl
 |ty z=>cases r;rfl
theorem BE:OpR X (compareOp .Is) (Mp false):=by intro jV s σ H x y v u Q I rx ry h;obtain⟨rfl,q⟩:=h;cases ry;refine is_none_gen ?_;rw[EV rx];exact⟨.bl _,H,I,rfl,q⟩
theorem xZ{H0 H:Hp}{x:V}{d:Dat}(r:kH H0 H x d):decide (x=V.non)=Dm.isN d:=by
 rcases r with r | ⟨a,rfl,w⟩
 ·cases r<;>rfl
 ·cases d with
  |non=>exact Qf w
  |_=>rfl
theorem BF:OpD (Mp false) Dm.rR:=by
 intro H0 H x y dx dy z Q s rx ry e k;unfold Dm.rR at e;split at e
 ·cases e;have hy:=xZ ry;have:y=V.non:=of_decide_eq_true (hy.trans rfl);refine⟨this,?_⟩;rw[if_neg (by decide),xZ rx];exact k _ H0 H (aI.refl s) (.bl _)
 ·cases e
theorem Mq(ha:DE X a fa)(hb:DE X b fb):DE X (.Compare a [.Is] [b] pos) (Dm.e2 Dm.rR fa fb):=xP BE BF ha hb (fy _)
theorem GV(ha:DE X a fa)(hb:DE X b fb):DT X (.Compare a [.Is] [b] pos) (Dm.tV (Dm.e2 Dm.rR fa fb)):=m8 BE BF ha hb (fy _)
end
section
variable{σ:L2.St}{H:Hp}{Q:VK}{D:Ends}
theorem nB{α:Type}(l:List α)(i:Nat):l.eraseIdx i=l.take i++l.drop (i+1):=List.eraseIdx_eq_take_drop_succ l i
theorem vX{H0:Hp}{vs:List V}{ds:List Dat}(i:Nat)(r:aB H0 vs ds):aB H0 (vs.eraseIdx i) (ds.eraseIdx i):=by rw[nB,nB];exact(r.take i).append (r.drop (i+1))
theorem EW{K:Pf}{i:Nat}{f:FE}(h:tD (Dm.dO i f) σ H Q):tBM K "list" AI (eO i) (tDA [f]) σ H Q:=by
 obtain⟨H0,ρ,x,ρ',st,e,k⟩:=h;unfold Dm.dO at e;split at e
 case h_2=>cases e
 rename_i ds0 h0;obtain⟨a0,q0,n0,w0⟩:=st.ow i _ h0;refine⟨_,q0,?_⟩;obtain⟨xs0,y0,_⟩:=w0;refine⟨.inl ⟨rfl,xs0,.inl (.inl y0)⟩,?_⟩;split at e
 case h_2=>cases e
 rename_i j ρ1 e1;split at e
 case h_2=>cases e
 rename_i ds h2;split at e
 case isFalse=>cases e
 rename_i hb;split at e
 case h_2=>cases e
 rename_i d hd;cases e;refine⟨H0,ρ,[.val (.int j)],ρ1,st,by unfold Dm.eAs;rw[e1];rfl,fun vs H0' H' t r=>?_⟩;cases r with
 |cons r rr=>
  cases rr;cases Rep.isInt r;obtain⟨a,q,n,w⟩:=t.st.ow i _ h2;rw[q0]at q;cases q;obtain⟨xs,y,rs⟩:=w;obtain⟨v,hv,rv⟩:=rs.get hd;have J9:j.toNat<xs.length:=(Ph.mp hv).1;have hB:Dm.BIG=1000000000:=rfl;refine⟨a0,xs,j,j.toNat,v,rfl,rfl,y,by lia,by lia,?_,hv,?_⟩
  ·unfold seqIndex?;simp only[show ¬j<0 by lia,if_false];rw[if_pos (by rw[decide_eq_true (show 0<=j by lia),decide_eq_true (show j<(xs.length:Int) by lia)];rfl)]
  have ow:ah σ ρ1 a0:=⟨i,_,h2,q0⟩
  have hi:i<ρ1.length:=(Ph.mp h2).1;refine k v H0' _ (t.trans ⟨t.st.write h2 q0 ⟨_,au,vX _ rs⟩,Stp.write ow,fun b z=>cO h2 z,fun j' z=>trivial⟩) rv
end
section
variable{X:Cx}{e:Expr}{f:FE}{pos:Pos}
theorem x6(i:Nat){x:Str}{px ap cp:Pos}(he:DE X e f)(hi:X.N[i]?=some x:=by rfl)(hv:Vis X.env.scope x:=by trivial)(hd:(x == ("__debug__" : Str))=false:=by decide)
  (G3:(x == ("__classdict__" : Str))=false:=by decide) (Fd:attributeBase (.Name x px) "pop" X.env (eval (.Name x px) X.env)=eval (.Name x px) X.env:=by rfl)
  (hfew:((backTo cp (starEach [e] X.env)).all (fun x=>!x.1)&&(backToKw cp (keywordEach [] X.env)).all (fun x=>x.1.isSome)
   && decide ([e].length+([]:List Keyword).length+(if ([]:List Keyword).isEmpty then 0 else 1)<30))=true:=by rfl)
  (Cu:(ap.endLine == cp.line)=true:=by rfl) (hs:starEach [e] X.env=(false,eval e X.env)::starEach [] X.env:=by rfl) (G1:(backTo cp (starEach [] X.env)).any (·.1)=false:=by rfl) :
  DE X (.Call (.Attribute (.Name x px) "pop" ap) [e] [] cp) (Dm.dO i f):=
 PE.weak (tu Qv PySem.F.slot_list_pop PySem.F.type_list_pop AJ (bM hi hv hd G3) (aa he af hs) Fd hfew Cu hs G1) fun _ _ _=>EW
end
end Br
namespace L2
open PySem PySem.Spec PyProof.Rows
section
variable{P:Program}{w:World}{K:Pf}{mg:Str->Option Value}{base:Heap}{N:List Str}{qual:Str}{scope:Scope}{f:Addr}{cd:Value}{A:Around}{outer:List Env}{s₀:Shared}{H₀:Hp}{E:XK}{C:Addr}
 {jV:List (Addr×Obj)} {σ:St} {H:Hp} {s:Shared}
end
end L2
namespace Br
open PySem PySem.Spec PyProof.Rows L2
section
variable{X:Cx}
theorem x8{ns:List Int}{its:List Value}(rv:Vals (ns.map V.int) its):∀(i:Nat) (v:Value),its.toArray[i]?=some v->∃t,v=.int (ns.getD i 0) t:=by
 intro i v hv;have hv':its[i]?=some v:=by simpa using hv
 have B3:=rv.length;rw[Pg]at B3;have hi:i<ns.length:=by rw[B3];exact(Ph.mp hv').1
 have hb:(ns.map V.int)[i]?=some (V.int ns[i]):=by rw[Py,Pp hi];rfl
 obtain⟨u,hu,ru⟩:=rv.get hb;rw[hv']at hu;cases hu;obtain⟨t,rfl⟩:=ru;exact⟨t,by rw[Qg,Pp hi];rfl⟩
theorem nC:∀{H0:Hp} {us:List V} {ds:List Dat} {ns:List Int},aB H0 us ds->Dm.eY ds=some ns->us=ns.map V.int
 |_,_,_,_,.nil,h=>by cases h;rfl
 |_,_,_,_,.cons (ds:=ds) (d:=d) r rr,h=>by
  cases d with
  |int i=>
   rw[Dm.eY]at h;cases hn:Dm.eY ds with
   |none=>rw[hn]at h;cases h
   |some ms=>rw[hn]at h;cases h;have:=Rep.isInt r;subst this;rw[nC rr hn];rfl
  |_=>cases h
end
end Br
namespace Dm
noncomputable abbrev FN:=Env->List (List Dat)->Option (Env×List (List Dat))
noncomputable def nNx:FN:=fun ρ r=>some (ρ,r)
noncomputable def zE(s u:FN):FN:=fun ρ r=>match s ρ r with
 |none=>none
 |some (ρ1,r1)=>u ρ1 r1
noncomputable def nIf(t:FT)(a b:FN):FN:=fun ρ r=>match t ρ with
 |none=>none
 |some (true,ρ1)=>a ρ1 r
 |some (false,ρ1)=>b ρ1 r
noncomputable def vY(i e:FE):FN:=fun ρ r=>match i ρ with
 | some (.val (.int k),ρ1)=>(match ixN r.length k with
  |none=>none
  |some m=>match r[m]? with
   |none=>none
   |some row=>match e ρ1 with
    |none=>none
    |some (x,ρ2)=>match tk ρ2 x with
     |none=>none
     |some (d,ρ3)=>if row.length<SZ then some (ρ3,r.set m (row++[d])) else none)
 |_=>none
noncomputable def gD(bd:FB)(body:FN):List Dat->FN
 |[],ρ,r=>some (ρ,r)
 |d::q,ρ,r=>match bd d ρ with
  |none=>none
  |some ρ1=>match body ρ1 r with
   |none=>none
   |some (ρ2,r2)=>gD bd body q ρ2 r2
noncomputable def pL(it:FI)(bd:FB)(body:FN):FN:=fun ρ r=>match it ρ with
 |none=>none
 |some (ds,ρ1)=>gD bd body ds ρ1 r
noncomputable def nMk(bd:FB):List Dat->Env->Option Env
 |[],ρ=>some ρ
 |d::r,ρ=>match bd d ρ with
  |none=>none
  |some ρ1=>nMk bd r ρ1
noncomputable def nE(j:Nat)(it:FI)(own:Nat)(bd:FB)(Fp:FN):FS:=fun ρ=>if j=0 then none else match it ρ with
 |none=>none
 | some (ds,ρ1)=>if ds.length≤SZ then (match nMk bd ds (ρ1++gV own .un) with
  |none=>none
  |some ρ2=>match Fp ((ρ2.take ρ1.length).set j .un) (gV ds.length []) with
   |none=>none
   |some (ρ3,r)=>some (.nx (ρ3.set j (.ow (.lst (r.map .lst)))))) else none
noncomputable def kM:List Dat->Option RV
 |[.dct ks _]=>if ks.length<=63 then some (.new (.lst ((fY (fun a b=>decide (a<b)) ks).map .int))) else none
 |_=>none
noncomputable def qi:List Dat->Option RV
 |[.dct ks vs]=>some (.new (.dct ks vs))
 |_=>none
noncomputable def fM:List Int->List Dat->Int->List Int
 |k::ks,_::vs,i=>if k=i then fM ks vs i else k::fM ks vs i
 |_,_,_=>[]
noncomputable def fN:List Int->List Dat->Int->List Dat
 |k::ks,v::vs,i=>if k=i then fN ks vs i else v::fN ks vs i
 |_,_,_=>[]
noncomputable def jS(i:Nat)(e:FE):FE:=fun ρ=>match ρ[i]? with
 | some (.ow (.dct _ _))=>(match e ρ with
  | some (.val (.int k),ρ1)=>(match ρ1[i]? with
   | some (.ow (.dct ks vs))=>(match bI ks vs k with
    |some d=>some (.val d,ρ1.set i (.ow (.dct (fM ks vs k) (fN ks vs k))))
    |none=>none)
   |_=>none)
  |_=>none)
 |_=>none
mutual
noncomputable def bC:Dat->Bool
 |.tup xs=>gE xs
 |.lst xs=>gE xs
 |.dct _ _=>false
 |.dcp _ _=>false
 |.exc _=>false
 |.dW _ _=>false
 |_=>true
noncomputable def gE:List Dat->Bool
 |[]=>true
 |x::r=>bC x&&gE r
end
noncomputable def tkd(ρ:Env):Val->Option (Dat×Env)
 |.val d=>some (d,ρ)
 |.new d=>some (d,ρ)
 |.slot i=>match ρ[i]? with
  |some (.ow (.dct ks vs))=>some (.dct ks vs,ρ)
  |some (.ow d)=>some (d,ρ.set i (.sh d))
  |some (.sh d)=>some (d,ρ)
  |_=>none
noncomputable def vZ(ρ:Env):List Val->Option (List Dat×Env)
 |[]=>some ([],ρ)
 |x::r=>match tkd ρ x with
  |none=>none
  |some (d,ρ1)=>match vZ ρ1 r with
   |none=>none
   |some (ds,ρ2)=>some (d::ds,ρ2)
noncomputable def eFd(f:List Dat->Option RV)(as:List FE):FE:=fun ρ=>match eAs as ρ with
 |none=>none
 |some (xs,ρ1)=>match vZ ρ1 xs with
  |none=>none
  |some (ds,ρ2)=>match f ds with
   |none=>none
   |some v=>if bC v.dat then some (v.bG,ρ2) else none
end Dm
namespace Br
open PySem PySem.Spec PyProof.Rows L2
section
variable{H0 H:Hp}{rows:List (List Dat)}{ps:List Addr}{ρs:Dm.Env}{H0s Hs:Hp}{σs:L2.St}{ρ ρ':Dm.Env}{j:Nat}{σ:L2.St}{b:Addr}
def aM(H0 H:Hp):List Addr->List (List Dat)->Prop
 |[],[]=>True
 |p::ps,r::rs=>(∃xs,H p=some (.lst xs)/\aB H0 xs r)/\aM H0 H ps rs
 |_,_=>False
theorem aM.len:∀{ps:List Addr} {rs:List (List Dat)},aM H0 H ps rs->ps.length=rs.length
 |[],[],_=>rfl
 |_::_,_::_,h=>by simp[aM.len h.2]
theorem aM.get:∀{ps:List Addr} {rs:List (List Dat)} {i:Nat} {r:List Dat},aM H0 H ps rs->rs[i]?=some r->∃p xs,ps[i]?=some p/\H p=some (.lst xs)/\aB H0 xs r
 |[],[],_,_,_,e=>by simp at e
 |p::_,_::_,0,_,h,e=>by simp at e;subst e;obtain⟨xs,h1,h2⟩:=h.1;exact⟨p,xs,rfl,h1,h2⟩
 |_::_,_::_,i+1,_,h,e=>by obtain⟨p,xs,h1,h2⟩:=aM.get (i:=i) h.2 (by simpa using e);exact⟨p,xs,by simpa using h1,h2⟩
theorem aM.mono{H0 H H0' H':Hp}:∀{ps:List Addr} {rs:List (List Dat)},aM H0 H ps rs->ai H0 H0'->(∀p∈ps,H' p=H p)->aM H0' H' ps rs
 |[],[],_,_,_=>trivial
 |p::ps,r::rs,h,s,k=>by obtain⟨⟨xs,h1,h2⟩,h3⟩:=h;exact⟨⟨xs,by rw[k p Ds];exact h1,h2.mono s⟩,aM.mono h3 s fun q hq=>k q (Pa _ hq)⟩
theorem aM.set{p:Addr}{xs:List V}{r:List Dat}(w:aB H0 xs r):∀{ps:List Addr} {rs:List (List Dat)} {i:Nat},aM H0 H ps rs->ps.Nodup->ps[i]?=some p->aM H0 (upd H p (.lst xs)) ps (rs.set i r)
 |[],[],_,_,_,e=>by simp at e
 |q::ps,_::rs,0,h,n,e=>by simp at e;subst e;refine⟨⟨xs,au,w⟩,h.2.mono (ai.refl _) fun y hy=>ak fun z=>?_⟩;subst z;exact(Pn.mp n).1 hy
 |q::ps,_::rs,i+1,h,n,e=>by
  have e':ps[i]?=some p:=by simpa using e
  obtain⟨⟨ys,h1,h2⟩,h3⟩:=h;obtain⟨n1,n2⟩:=Pn.mp n;refine⟨⟨ys,?_,h2⟩,aM.set w h3 n2 e'⟩;rw[ak fun z=>?_]
  ·exact h1
  ·subst z;exact n1 (Q0 e')
theorem aM.some:∀{ps:List Addr} {rs:List (List Dat)},aM H0 H ps rs->∀p∈ps,∃o,H p=some o
 |[],[],_,_,h=>by cases h
 |q::ps,_::rs,h,p,hp=>by
  rcases Pk.mp hp with rfl | hp
  ·obtain⟨xs,h1,_⟩:=h.1;exact⟨_,h1⟩
  ·exact aM.some h.2 p hp
structure NS(j:Nat)(σs:L2.St)(ρs:Dm.Env)(H0s Hs:Hp)(σ:L2.St)(ρ:Dm.Env)(H0 H:Hp)(rows:List (List Dat)):Prop where
 st:av H0 H σ ρ
 stp:Stp (ah σs ρs) H0s Hs H0 H
 own:∀a,ah σ ρ a->ah σs ρs a\/Hs a=none
 fx:σ[0]?=σs[0]?
 ex:∃(L:Addr) (ps:List Addr),σ[j]?=some (some (.ref L))/\Hs L=none/\H0 L=none/\¬ah σ ρ L/\H L=some (.lst (ps.map V.ref))/\(L::ps).Nodup/\(∀p∈ps,Hs p=none/\H0 p=none/\¬ah σ ρ p)/\aM H0 H ps rows
theorem NS.est{H0 H H0' H':Hp}(n:NS j σs ρs H0s Hs σ ρ H0 H rows)(t:ESt σ ρ H0 H ρ' H0' H'):NS j σs ρs H0s Hs σ ρ' H0' H' rows:=by
 obtain⟨L,ps,h1,h2,h3,h4,h5,h6,h7,h8⟩:=n.ex;obtain⟨k1,k2,k3⟩:=t.bV h5 h3 h4;refine⟨t.st,n.stp.trans t.stp n.own,fun a z=>n.own a (t.own a z),n.fx,L,ps,h1,h2,k2,k3,k1,h6,fun p hp=>?_,h8.mono t.stp.s0 fun p hp=>?_⟩
 ·obtain⟨q1,q2,q3⟩:=h7 p hp;obtain⟨o,q4⟩:=h8.some p hp;obtain⟨z1,z2,z3⟩:=t.bV q4 q2 q3;exact⟨q1,z2,z3⟩
 ·obtain⟨q1,q2,q3⟩:=h7 p hp;obtain⟨o,q4⟩:=h8.some p hp;obtain⟨z1,z2,z3⟩:=t.bV q4 q2 q3;rw[z1,q4]
theorem NS.bind{σ σ':L2.St}(n:NS j σs ρs H0s Hs σ ρ H0 H rows)(st:av H0 H σ' ρ')(o:∀a,ah σ' ρ' a->ah σ ρ a)(hj:σ'[j]?=σ[j]?)(h0:σ'[0]?=σ[0]?):NS j σs ρs H0s Hs σ' ρ' H0 H rows:=by obtain⟨L,ps,h1,h2,h3,h4,h5,h6,h7,h8⟩:=n.ex;exact⟨st,n.stp,fun a z=>n.own a (o a z),h0.trans n.fx,L,ps,hj.trans h1,h2,h3,fun z=>h4 (o L z),h5,h6,fun p hp=>⟨(h7 p hp).1,(h7 p hp).2.1,fun z=>(h7 p hp).2.2 (o p z)⟩,h8⟩
noncomputable def tW(H0 H:Hp)(ps:List Addr):Hp:=fun b=>if b∈ps then H b else H0 b
theorem rS(h:b∈ps):tW H0 H ps b=H b:=by unfold tW;rw[if_pos h]
theorem gF(h:b∉ps):tW H0 H ps b=H0 b:=by unfold tW;rw[if_neg h]
theorem zF(s:ai H0 H):ai H0 (tW H0 H ps):=fun b o e=>by
 by_cases q:b∈ps
 ·rw[rS q];exact s _ _ e
 ·rw[gF q];exact e
theorem BG(s:ai H0 H):ai (tW H0 H ps) H:=fun b o e=>by
 by_cases q:b∈ps
 ·rw[rS q]at e;exact e
 ·rw[gF q]at e;exact s _ _ e
theorem aM.reps{H0 H H1:Hp}:∀{ps:List Addr} {rs:List (List Dat)},aM H0 H ps rs->ai H0 H1->(∀p∈ps,H1 p=H p)->aB H1 (ps.map V.ref) (rs.map Dat.lst)
 |[],[],_,_,_=>.nil
 |p::ps,r::rs,h,s,k=>by obtain⟨⟨xs,h1,h2⟩,h3⟩:=h;exact .cons (.lst (.inl ((k p Ds).trans h1)) (h2.mono s)) (aM.reps h3 s fun q hq=>k q (Pa _ hq))
theorem NS.done{ρ:Dm.Env}(n:NS j σs ρs H0s Hs σ ρ H0 H rows):∃H0',SSt σs ρs H0s Hs σ (ρ.set j (.ow (.lst (rows.map Dat.lst)))) H0' H:=by
 obtain⟨L,ps,h1,h2,h3,h4,h5,h6,h7,h8⟩:=n.ex;obtain⟨n1,n2⟩:=Pn.mp h6;have ss:=zF (ps:=ps) n.st.same;have st:av (tW H0 H ps) H σ ρ:={
  same:=BG n.st.same
  len:=n.st.len
  sh:=fun i d h=>by obtain⟨v,z,r⟩:=n.st.sh i d h;exact⟨v,z,r.mono ss⟩
  ow:=fun i d h=>by obtain⟨b,z,q,w⟩:=n.st.ow i d h;have nb:b∉ps:=fun y=>(h7 b y).2.2 ⟨i,d,h,z⟩;exact⟨b,z,by rw[gF nb];exact q,w.mono ss rfl⟩
  dis:=n.st.dis }
 refine⟨tW H0 H ps,st.kL h1 h4 (by rw[gF n1];exact h3) ⟨_,h5,h8.reps ss fun p hp=>rS hp⟩,⟨n.stp.s0.trans ss,n.stp.s1,fun a o e=>?_,n.stp.s3⟩,fun a z=>?_,n.fx⟩
 ·by_cases q:a∈ps
  ·exact .inl (h7 a q).1
  ·rw[gF q]at e;exact n.stp.s2 a o e
 ·obtain⟨i,d,z1,z2⟩:=z;by_cases q:j=i
  ·subst q;rw[h1]at z2;cases z2;exact .inr h2
  ·rw[Dk q]at z1;exact n.own a ⟨i,d,z1,z2⟩
def tDN(j:Nat)(f:Dm.FN):TS:=fun D σ H=>∃σs ρs H0s Hs H0 ρ rows ρ' rows',NS j σs ρs H0s Hs σ ρ H0 H rows/\f ρ rows=some (ρ',rows')/\∀σ' H0' H',NS j σs ρs H0s Hs σ' ρ' H0' H' rows'->ai H0 H0'->D.nx σ' H'
end
section
variable{D:Ends}{σ:L2.St}{H:Hp}{j:Nat}
theorem Mr(h:tDN j Dm.nNx D σ H):pV D σ H:=by obtain⟨σs,ρs,H0s,Hs,H0,ρ,rows,ρ',rows',n,e,k⟩:=h;cases e;exact k σ H0 H n (ai.refl _)
theorem JH{s u:Dm.FN}(h:tDN j (Dm.zE s u) D σ H):gi (tDN j s) (tDN j u) D σ H:=by
 obtain⟨σs,ρs,H0s,Hs,H0,ρ,rows,ρ',rows',n,e,k⟩:=h;unfold Dm.zE at e;split at e
 ·cases e
 rename_i ρ1 r1 e1;exact⟨σs,ρs,H0s,Hs,H0,ρ,rows,ρ1,r1,n,e1,fun σ' H0' H' n' s1=>⟨σs,ρs,H0s,Hs,H0',ρ1,r1,ρ',rows',n',e,fun σ2 H2 Hc n2 s2=>k σ2 H2 Hc n2 (s1.trans s2)⟩⟩
theorem Ms{t:FT}{a b:Dm.FN}(h:tDN j (Dm.nIf t a b) D σ H):yV (tDT t) (tDN j a) (tDN j b) D σ H:=by
 obtain⟨σs,ρs,H0s,Hs,H0,ρ,rows,ρ',rows',n,e,k⟩:=h;unfold Dm.nIf at e;split at e
 ·cases e
 ·rename_i ρ1 e1;refine⟨H0,ρ,true,ρ1,n.st,e1,fun H1 Hb t1=>?_⟩;dsimp only;rw[if_pos rfl];exact⟨σs,ρs,H0s,Hs,H1,ρ1,rows,ρ',rows',n.est t1,e,fun σ2 H2 Hc n2 s2=>k σ2 H2 Hc n2 (t1.stp.s0.trans s2)⟩
 ·rename_i ρ1 e1;refine⟨H0,ρ,false,ρ1,n.st,e1,fun H1 Hb t1=>?_⟩;dsimp only;rw[if_neg P0];exact⟨σs,ρs,H0s,Hs,H1,ρ1,rows,ρ',rows',n.est t1,e,fun σ2 H2 Hc n2 s2=>k σ2 H2 Hc n2 (t1.stp.s0.trans s2)⟩
theorem JI{fi:Dm.FI}{bd:Dm.FB}{g:TG}{body:Dm.FN}{is:List Nat}(hb:BD is g bd)(hj:j∉is)(h:tDN j (Dm.pL fi bd body) D σ H):Ar (tDI fi) g (tDN j body) D σ H:=by
 obtain⟨σs,ρs,H0s,Hs,H0,ρ,rows,ρ',rows',n,e,k⟩:=h;unfold Dm.pL at e;split at e
 ·cases e
 rename_i ys ρ1 e1;refine⟨H0,ρ,ys,ρ1,n.st,e1,fun J H00 Hb t1 jw=>?_⟩;refine ⟨fun i m σ H=>∃ H0 ρ rows,NS j σs ρs H0s Hs σ ρ H0 H rows∧ai H00 H0∧m=ys.length-i∧i≤ys.length∧Dm.gD bd body (ys.drop i) ρ rows=some (ρ',rows'),
  ⟨ys.length,H00,ρ1,rows,n.est t1,ai.refl _,by simp,Qd _,by simpa using e⟩,?_⟩
 rintro i m σ H ⟨H0,ρ,rows,n,s00,rfl,hi,e⟩;obtain⟨js,jg⟩:=jw H0 H s00 n.st.same;by_cases J9:i<ys.length
 ·have hd:ys[i]?=some ys[i]:=by simp[J9]
  obtain⟨g1,g2⟩:=jg i ys[i] hd;rw[Qk J9]at e;unfold Dm.gD at e;refine .inr ⟨g1,fun σ' H'=>∃H0 ρ rows,NS j σs ρs H0s Hs σ' ρ H0 H' rows/\ai H00 H0/\Dm.gD bd body (ys.drop (i+1)) ρ rows=some (ρ',rows'),?_,fun x H' y=>?_⟩
  ·rintro σ' H' ⟨H0',ρ2,r2,h1,h2,h3⟩;exact⟨ys.length-(i+1),by lia,H0',ρ2,r2,h1,h2,rfl,J9,h3⟩
  ·obtain⟨H0',gr,rx⟩:=g2 x H' y;split at e
   ·cases e
   ·rename_i ρ2 e2;have t2:=ESt.grow n.st gr;have n2:=n.est t2;refine hb H0' H' σ ρ ρ2 x ys[i] _ t2.st rx e2 fun σ2 st2 o2 k2 _ f2=>?_;have n3:=n2.bind st2 o2 (k2 j hj) f2;have s3:ai H00 H0':=s00.trans gr.s0;split at e
    ·cases e
    ·rename_i ρ3 r3 e3;refine⟨σs,ρs,H0s,Hs,H0',ρ2,rows,ρ3,r3,n3,e3,fun σ4 H4 Hd n4 s4=>⟨H4,ρ3,r3,n4,s3.trans s4,e⟩⟩
 ·have e':i=ys.length:=by lia
  subst e';rw[QW]at e;cases e;exact .inl ⟨js _ (Pj _),k σ H0 H n (t1.stp.s0.trans s00)⟩
theorem JJ{K:Pf}{fi f:FE}(h:tDN j (Dm.vY fi f) D σ H):ir (tBM K "list" jD (tOp (zd K) (eO j) (tD fi)) (tDA [f])) D σ H:=by
 obtain⟨σs,ρs,H0s,Hs,H0,ρ,rows,ρ',rows',n,e,k⟩:=h;unfold Dm.vY at e;split at e
 case h_2=>cases e
 rename_i z ρ1 e1;split at e
 ·cases e
 rename_i m em;split at e
 ·cases e
 rename_i row er;split at e
 ·cases e
 rename_i x ρ2 e2;split at e
 ·cases e
 rename_i d ρ3 e3;split at e
 case isFalse=>cases e
 rename_i hz;cases e;obtain⟨L,ps0,h1,_⟩:=n.ex;refine⟨_,h1,H0,ρ,_,ρ1,n.st,e1,fun y H1 Hb t1 r1=>?_⟩;have n1:=n.est t1;obtain⟨L',ps,q1,q2,q3,q4,q5,q6,q7,q8⟩:=n1.ex;rw[h1]at q1;cases q1;obtain⟨q,xs,hq,hqx,hqr⟩:=q8.get er;have hqm:q∈ps:=Q0 hq;refine⟨L,ps.map V.ref,z,V.ref q,rfl,Rep.isInt r1,.inl (.inl q5),?_,.inl ⟨rfl,xs,.inl (.inl hqx)⟩,?_⟩
 ·show (L2.ixN (ps.map V.ref).length z).bind (fun j=>(ps.map V.ref)[j]?)=_;rw[Pg,q8.len,<- fE,em];show (ps.map V.ref)[m]?=_;rw[Py,hq];rfl
 refine⟨H1,ρ1,[x],ρ2,n1.st,by unfold Dm.eAs;rw[e2];rfl,fun vs H2 Hc t2 r2=>?_⟩;cases r2 with
 |cons r rr=>
  cases rr;obtain⟨H3,t3,b3,r3,_,_⟩:=take1 t2 (ai.refl _) r e3;have n3:=n1.est t3;obtain⟨L',ps',w1,w2,w3,w4,w5,w6,w7,w8⟩:=n3.ex;rw[h1]at w1;cases w1;obtain⟨k1,_,_⟩:=t3.bV q5 q3 q4;rw[k1]at w5;have ep:ps'=ps:=by
   have:ps.map V.ref=ps'.map V.ref:=by injection w5 with z;injection z
   exact((RO fun a b h=>by injection h).mp this).symm
  subst ep;obtain⟨q',ys,hq',hqy,Mt⟩:=w8.get er;rw[hq]at hq';cases hq';have nL:L≠q:=fun z=>(Pn.mp w6).1 (z▸hqm);refine⟨q,ys,_,rfl,rfl,hqy,by rw[Mt.length];exact PD hz (by decide),?_⟩;obtain⟨z1,z2,z3⟩:=w7 q hqm;refine k σ H3 _ ⟨n3.st.aside z2 z3,n3.stp.aside z1,n3.own,n3.fx,L,ps',h1,w2,w3,w4,by rw[ak nL];exact k1,w6,w7,aM.set (Mt.append (.cons r3 .nil)) w8 (Pn.mp w6).2 hq⟩ (t1.stp.s0.trans t3.stp.s0)
end
section
variable{bd:Dm.FB}{is:List Nat}{Fp:Dm.FN}{j own:Nat}{ρ:Dm.Env}{fi:Dm.FI}{σ:L2.St}{g:TG}
theorem BH{own:Nat}{Q:VK}{H00 Hb:Hp}{ρ1 ρ2:Dm.Env}{ds:List Dat}{J:It}(hb:BD is g bd)(hl:∀i∈is,σ.length<=i)
  (st1:av H00 Hb σ ρ1) (jw:JW J H00 ds) (hsz:ds.length<=Dm.SZ) (e2:Dm.nMk bd ds (ρ1++gV own .un)=some ρ2) (D:Addr) (hD:Hb D=none)
  (k:∀ H0' H' (ps:List Addr),av H0' H' σ (ρ2.take ρ1.length)→Stp (ah σ ρ1) H00 Hb H0' H'→(∀ a,ah σ (ρ2.take ρ1.length) a→ah σ ρ1 a)→H' D=some (.lst (ps.map V.ref))→H0' D=none→(D::ps).Nodup→(∀ p∈ps,Hb p=none∧H0' p=none) →
   aM H0' H' ps (gV ds.length [])->Q (.ref D) H') :
  ∃W:Nat->Nat->L2.St->Hp->Prop,(∃m,W 0 m (σ++gV own none) (upd Hb D (.lst [])))/\∀i m σ' H',W i m σ' H' ->
  (J.stop i H'∧Q (.ref D) H')∨(J.go i H'∧∀ x H2,J.yld i H' x H2→g x σ' H2 fun σ2 H3=>vU σ2 H3 fun b H4=>if b=true
   then Az pF σ2 H4 fun y H5=>∃zL,H5 D=some (.lst zL)/\zL.length<sizeLine/\∃m',m'<m/\W (i+1) m' σ2 (upd H5 D (.lst (zL++[y])))
   else ∃m',m'<m/\W (i+1) m' σ2 H4):=by
 have noD:¬ah σ ρ1 D:=st1.bx hD;refine ⟨fun i m σ' H'=>∃ (H0c:Hp) (ρc:Dm.Env) (ps:List Addr),av H0c H' σ' ρc∧ai H00 H0c∧m=ds.length-i∧i≤ds.length∧Dm.nMk bd (ds.drop i) ρc=some ρ2 ∧
  H' D=some (.lst (ps.map V.ref))/\ps.length=i/\H0c D=none/\(D::ps).Nodup/\(∀p∈ps,Hb p=none/\H0c p=none)/\aM H0c H' ps (gV i [])/\Stp (ah σ ρ1) H00 Hb H0c H'/\(∀j,j<σ.length->σ'[j]?=σ[j]?)/\(∀a,ah σ' ρc a->ah σ ρ1 a),
  ⟨ds.length,H00,ρ1++gV own .un,[],(st1.aside (st1.same.free hD) noD).ext own,ai.refl _,by simp,Qd _,by simpa using e2,au,rfl,st1.same.free hD,by simp,by simp,trivial,(Stp.refl _ _ _).aside hD,
   fun j hj=>Pq hj,fun a z=>eX st1 z⟩,?_⟩
 rintro i m σ' H' ⟨H0c,ρc,ps,sc,s00,rfl,hi,ec,hDl,Ct,n0,nd,hps,hro,sp,hσ,ho⟩;have nOc:¬ah σ' ρc D:=fun z=>noD (ho D z);have nOp:∀p∈ps,¬ah σ' ρc p:=fun p hp z=>st1.bx (hps p hp).1 (ho p z);obtain⟨js,jg⟩:=jw H0c H' s00 sc.same;by_cases J9:i<ds.length
 ·have hd:ds[i]?=some ds[i]:=by simp[J9]
  obtain⟨g1,g2⟩:=jg i ds[i] hd;rw[Qk J9]at ec;unfold Dm.nMk at ec;refine .inr ⟨g1,fun y H2 yy=>?_⟩;obtain⟨H0',gr,rx⟩:=g2 y H2 yy;split at ec
  ·cases ec
  rename_i ρ3 e3;have t2:=ESt.grow sc gr;obtain⟨hD2,n02,no2⟩:=t2.bV hDl n0 nOc;refine hb H0' H2 σ' ρc ρ3 y ds[i] _ t2.st rx e3 fun σ3 st3 o3 k3 d3 _=>?_;unfold vU;dsimp only;rw[if_pos rfl];refine⟨Qd _,fun p hp=>?_⟩;have hpD:p≠D:=fun z=>by rw[z,hD2]at hp;cases hp
  have noP:¬ah σ3 ρ3 p:=st3.bx hp;have Mu:∀q∈ps,q≠p:=fun q hq z=>by obtain⟨o,h1⟩:=hro.some q hq;have:=gr.s1 q o h1;rw[z,hp]at this;cases this
  refine⟨ps.map V.ref,by rw[ak (Ne.symm hpD)];exact hD2,?_,ds.length-(i+1),by lia,H0',ρ3,ps++[p],?_,s00.trans gr.s0,rfl,J9,ec,?_,by simp[Ct],n02,?_,?_,?_,?_,?_,?_⟩
  ·rw[Pg,Ct];unfold Dm.SZ at hsz;exact PD (PD J9 hsz) (by decide)
  ·have no3:¬ah σ3 ρ3 D:=fun z=>no2 (o3 D z);exact(st3.aside (st3.same.free hp) noP).aside n02 no3
  ·rw[au,PF];rfl
  ·rw[<- QX];refine P6.mpr ⟨nd,by simp,fun a ha b hb=>?_⟩;rw[PN.mp hb];rcases Pk.mp ha with rfl | ha
   ·exact Ne.symm hpD
   ·exact Mu a ha
  ·intro q hq;rcases PV.mp hq with hq | hq
   ·refine⟨(hps q hq).1,?_⟩;obtain⟨o,h1⟩:=hro.some q hq;exact(t2.bV h1 (hps q hq).2 (nOp q hq)).2.1
   ·rw[PN.mp hq];exact⟨(sp.trans t2.stp fun a z=>.inl (ho a z)).gone hp,st3.same.free hp⟩
  ·have base:aM H0' (upd (upd H2 p (.lst [])) D (.lst (ps.map V.ref++[V.ref p]))) ps (gV i []):=hro.mono gr.s0 fun q hq=>by
    have hqD:q≠D:=fun z=>(Pn.mp nd).1 (z▸hq);obtain⟨o,h1⟩:=hro.some q hq;rw[ak hqD,ak (Mu q hq),gr.s1 q o h1,h1]
   have app:∀{H0 H:Hp} {ps:List Addr} {rs:List (List Dat)} {p:Addr},aM H0 H ps rs->H p=some (.lst [])->aM H0 H (ps++[p]) (rs++[[]]):=by
    intro H0 H ps rs p h1 h2
    induction ps generalizing rs with
    |nil=>cases rs with
     |nil=>exact⟨⟨[],h2,.nil⟩,trivial⟩
     |cons _ _=>exact h1.elim
    |cons q ps ih=>cases rs with
     |nil=>exact h1.elim
     |cons r rs=>exact⟨h1.1,ih h1.2⟩
   have:=app base (p:=p) (by rw[ak hpD,au]);rw[List.replicate_succ'];exact this
  ·exact((sp.trans t2.stp fun a z=>.inl (ho a z)).aside ((sp.trans t2.stp fun a z=>.inl (ho a z)).gone hp)).aside hD
  ·exact fun j hj=>(k3 j fun z=>Q3.mpr (hl j z) hj).trans (hσ j hj)
  ·exact fun a z=>ho a (o3 a z)
 ·have e':i=ds.length:=by lia
  subst e';rw[QW]at ec;cases ec;refine .inl ⟨js _ (Pj _),k H0c H' ps ?_ sp ?_ hDl n0 nd hps hro⟩
  all_goals
   have B3:σ.length<=ρ2.length:=by rw[<- sc.len];refine Q3.mp fun z=>?_;have q:=hσ σ'.length z;rw[Qh (Pj _),Pp z]at q;cases q
   have tk:∀{j:Nat} {c:Dm.Cell},(ρ2.take ρ1.length)[j]?=some c->j<σ.length/\ρ2[j]?=some c:=fun {j c} h=>by
    have hj:j<ρ1.length:=by
     have:=(Ph.mp h).1;rw[P9]at this
     lia
    rw[QM hj]at h;exact⟨by rw[st1.len];exact hj,h⟩
  ·refine⟨sc.same,?_,fun j d h=>?_,fun j d h=>?_,fun j j' d d' a h1 h2 h3 h4=>?_⟩
   ·rw[P9,<- st1.len];lia
   ·obtain⟨hj,h⟩:=tk h;obtain⟨v,q,r⟩:=sc.sh j d h;exact⟨v,(hσ j hj).symm.trans q,r⟩
   ·obtain⟨hj,h⟩:=tk h;obtain⟨v,q,r⟩:=sc.ow j d h;exact⟨v,(hσ j hj).symm.trans q,r⟩
   ·obtain⟨hj,h1⟩:=tk h1;obtain⟨hj',h2⟩:=tk h2;exact sc.dis j j' d d' a h1 h2 ((hσ j hj).trans h3) ((hσ j' hj').trans h4)
  ·intro a ⟨j,d,h1,h2⟩;obtain⟨hj,h1⟩:=tk h1;exact ho a ⟨j,d,h1,(hσ j hj).trans h2⟩
theorem qj{z:Dm.Out}(q:Dm.nE j fi own bd Fp ρ=some z):∃ds ρ1 ρ2 ρ3 r3,j≠0/\fi ρ=some (ds,ρ1)/\ds.length<=Dm.SZ/\Dm.nMk bd ds (ρ1++gV own .un)=some ρ2 /\
  Fp ((ρ2.take ρ1.length).set j .un) (gV ds.length [])=some (ρ3,r3)/\z=.nx (ρ3.set j (.ow (.lst (r3.map .lst)))):=by
 unfold Dm.nE at q;split at q
 ·cases q
 rename_i hj0;split at q
 ·cases q
 rename_i ds ρ1 e1;split at q
 case isFalse=>cases q
 rename_i hsz;split at q
 ·cases q
 rename_i ρ2 e2;split at q
 ·cases q
 rename_i ρ3 r3 e3;cases q;exact⟨ds,ρ1,ρ2,ρ3,r3,hj0,e1,hsz,e2,e3,rfl⟩
theorem EX{s u:FS}{o:Dm.Out}(hs:∀z,s ρ=some z->∃ρ',z=.nx ρ')(e:Dm.aC s u ρ=some o):∃ρ1,s ρ=some (.nx ρ1)/\u ρ1=some o:=by
 cases q:s ρ with
 |none=>unfold Dm.aC at e;rw[q]at e;cases e
 |some z=>obtain⟨ρ1,rfl⟩:=hs z q;unfold Dm.aC at e;rw[q]at e;exact⟨ρ1,rfl,e⟩
theorem JK{H:Hp}{D:Ends}{gs:FS}(hb:BD is g bd)(hl:∀i∈is,σ.length<=i)(hj:j<σ.length)(h:tDS (Dm.aC (Dm.nE j fi own bd Fp) gs) D σ H) :
  gi (jx (tLC (tDI fi) own g vU (Az pF)) (dH j)) (gi (tDN j Fp) (tDS gs)) D σ H:=by
 obtain⟨H0,ρ,o,st,e,k⟩:=h;obtain⟨ρ9,e9,e⟩:=EX (fun z q=>by obtain⟨_,_,_,_,_,_,_,_,_,_,z⟩:=qj q;exact⟨_,z⟩) e;obtain⟨ds,ρ1,ρ2,ρ3,r3,hj0,e1,hsz,e2,e3,z9⟩:=qj e9;cases z9;refine⟨H0,ρ,ds,ρ1,st,e1,fun J H00 Hb t1 jw L hL=>BH (Q:=fun x H1=>dH j x σ H1 (gi (tDN j Fp) (tDS gs) D)) hb hl t1.st jw hsz e2 L hL fun H0' H' ps st' sp' ho' hDl n0 nd hps hro=>?_⟩;have nL:¬ah σ ρ1 L:=t1.st.bx hL;have om:∀a,ah (σ.set j (some (.ref L))) ((ρ2.take ρ1.length).set j .un) a->ah σ (ρ2.take ρ1.length) a:=fun a ⟨i,d,h1,h2⟩=>by
  rcases aJ h1 with⟨_,z⟩ | ⟨hij,h1⟩
  ·cases z
  ·rw[Dk (Ne.symm hij)]at h2;exact⟨i,d,h1,h2⟩
 have st2:av H0' H' (σ.set j (some (.ref L))) ((ρ2.take ρ1.length).set j .un):={
  same:=st'.same
  len:=by rw[P4,P4];exact st'.len
  sh:=fun i d h=>by
   rcases aJ h with⟨_,z⟩ | ⟨hij,h⟩
   ·cases z
   ·obtain⟨v,q,r⟩:=st'.sh i d h;exact⟨v,by rw[Dk (Ne.symm hij)];exact q,r⟩
  ow:=fun i d h=>by
   rcases aJ h with⟨_,z⟩ | ⟨hij,h⟩
   ·cases z
   ·obtain⟨v,q,r⟩:=st'.ow i d h;exact⟨v,by rw[Dk (Ne.symm hij)];exact q,r⟩
  dis:=fun i i' d d' a h1 h2 h3 h4=>by
   rcases aJ h1 with⟨_,z⟩ | ⟨q1,h1⟩
   ·cases z
   rcases aJ h2 with⟨_,z⟩ | ⟨q2,h2⟩
   ·cases z
   rw[Dk (Ne.symm q1)]at h3;rw[Dk (Ne.symm q2)]at h4;exact st'.dis i i' d d' a h1 h2 h3 h4 }
 have sp:Stp (ah σ ρ) H0 H H0' H':=t1.stp.trans sp' fun a z=>.inl (t1.own a z);have n:NS j σ ρ H0 H (σ.set j (some (.ref L))) ((ρ2.take ρ1.length).set j .un) H0' H' (gV ds.length []):=
  ⟨st2,sp,fun a z=>.inl (t1.own a (ho' a (om a z))),Dk hj0,L,ps,PM hj,t1.stp.gone hL,n0,fun z=>nL (ho' L (om L z)),hDl,nd,fun p hp=>⟨t1.stp.gone (hps p hp).1,(hps p hp).2,fun z=>t1.st.bx (hps p hp).1 (ho' p (om p z))⟩,hro⟩
 refine⟨σ,ρ,H0,H,H0',_,_,ρ3,r3,n,e3,fun σ4 H4 Hd n4 _=>?_⟩;obtain⟨H5,t5⟩:=n4.done;exact⟨H5,_,o,t5.st,e,k.pre t5⟩
noncomputable abbrev DN(X:Cx)(j:Nat)(st:Stmt)(f:Dm.FN):Prop:=PS X st (tDN j f)
noncomputable abbrev DNs(X:Cx)(j:Nat)(st:List Stmt)(f:Dm.FN):Prop:=PSs X st (tDN j f)
end
section
variable{X:Cx}{st:Stmt}{BZ:List Stmt}{fs gs:Dm.FN}{e c:Expr}{f:FE}{pos:Pos}{j:Nat}
section
variable{is:List Nat}{bd:Dm.FB}{fi:Dm.FI}
theorem Mv:DNs X j [] Dm.nNx:=PSs.weak jv fun _ _ _=>Mr
theorem JL(h1:DN X j st fs)(h2:DNs X j BZ gs):DNs X j (st::BZ) (Dm.zE fs gs):=PSs.weak (bf h1 h2) fun _ _ _=>JH
theorem GW(h1:DN X j st fs):DNs X j [st] fs:=fk h1
theorem Oz{t:FT}{x y:List Stmt}(ht:DT X c t)(ha:DNs X j x fs)(hb:DNs X j y gs):DN X j (.If c x y pos) (Dm.nIf t fs gs):=PS.weak (sX ht ha hb) fun _ _ _=>Ms
theorem GX{tg it:Expr}{body:List Stmt}(hp:PassesOwn (model X.prog X.w) X.A X.env X.xe)(hc:X.calm=true)(hi:DI X tg it fi)(hg:TG' X tg is bd)(hb:DNs X j body fs)(hj:decide (j∈is)=false:=by rfl)
  (hs:∀x,foldedSetIterable it X.env x=pure x:=by intro _;rfl):DN X j (.For tg it body [] pos) (Dm.pL fi bd fs):=by
 obtain⟨g,h1,h2⟩:=hg.ex;exact PS.weak (qX hp hc hi h1 hb hs) fun _ _ _=>JI h2 (of_decide_eq_false hj)
theorem GY{x:Str}{i:Expr}{fi:FE}{px sp ap cp:Pos}(hi':DE X i fi)(he:DE X e f)(hi:X.N[j]?=some x:=by rfl)(hv:Vis X.env.scope x:=by trivial)(hd:(x == ("__debug__" : Str))=false:=by decide)
  (G3:(x == ("__classdict__" : Str))=false:=by decide) (Ct:b9 i:=by intro _ _;rfl) (Fd:attributeBase (.Subscript (.Name x px) i sp) "append" X.env (eval (.Subscript (.Name x px) i sp) X.env)=eval (.Subscript (.Name x px) i sp) X.env:=by rfl)
  (hfew:((backTo cp (starEach [e] X.env)).all (fun x=>!x.1)&&(backToKw cp (keywordEach [] X.env)).all (fun x=>x.1.isSome)
   && decide ([e].length+([]:List Keyword).length+(if ([]:List Keyword).isEmpty then 0 else 1)<30))=true:=by rfl)
  (Cu:(ap.endLine == cp.line)=true:=by rfl) (hs:starEach [e] X.env=(false,eval e X.env)::starEach [] X.env:=by rfl) (G1:(backTo cp (starEach [] X.env)).any (·.1)=false:=by rfl)
  (hsw:swapsWith (.Call (.Attribute (.Subscript (.Name x px) i sp) "append" ap) [e] [] cp) none pos.line X.env=pure false:=by rfl) :
  DN X j (.Expr (.Call (.Attribute (.Subscript (.Name x px) i sp) "append" ap) [e] [] cp) pos) (Dm.vY fi f):=
 PS.weak (dj (tu Qv Q6 Q7 eT (iu jC (bM hi hv hd G3) hi' Ct) (aa he af hs) Fd hfew Cu hs G1) hsw) fun _ _ _=>JJ
theorem JM(j:Nat)(nm own:List Str){y:Str}{py G4 v9:Pos}{tg iter:Expr}{scope:Scope}{Fp:Dm.FN}{gs:FS}{lst:Stmt}(hN:X.N.Nodup)(hg:TGc X nm scope own tg is bd)(hi:DI X tg iter fi)(hlp:DN X j lst Fp)(hre:DSs X BZ gs)
  (hc:X.calm=true:=by rfl) (hk:scope.kind=.function:=by rfl) (hS:jR X.env.scope X.N nm scope=true:=by rfl) (hl:(is.all fun i=>decide (X.N.length<=i))=true:=by rfl) (hj:X.N[j]?=some y:=by rfl) (hy:Loc X.env.scope y:=by trivial)
  (hsw:swapsWith (.ListComp (.List [] v9) [⟨tg,iter,[],0⟩] scope pos) (some (.Name y py)) G4.line X.env=pure true:=by rfl) (hs:∀y,foldedSetIterable iter X.env y=pure y:=by intro _;rfl)
  (hf:X.fn y=true\/X.env.scope.names.lookup y=some .local:=by trivial) :
  DSs X (.Assign [.Name y py] (.ListComp (.List [] v9) [⟨tg,iter,[],0⟩] scope pos) G4::lst::BZ) (Dm.aC (Dm.nE j fi own.length bd Fp) gs):=by
 obtain⟨g,h1,h2⟩:=hg.ex;have h:=bf (dY hN hj hy hc (cu.of hS hk) hi h1 (fun cl C s H fp=>rJ) (fun cl C s H fp=>vF (pos:=v9) gj) hsw hs hf) (bf hlp hre);intro jV s σ H D I q;exact h jV s σ H D I (JK h2 (fun i hi=>by rw[I.len];exact ni hl i hi) (by rw[I.len];exact(Ph.mp hj).1) q)
end
end
theorem x9{H0:Hp}(i:Int):∀{kvs:List (Key×V)} {ks:List Int} {ds:List Dat},kvs.map (·.1)=ks.map PX->aB H0 (kvs.map (·.2)) ds ->
  (lE kvs (PX i)).map (·.1)=(Dm.fM ks ds i).map PX/\aB H0 ((lE kvs (PX i)).map (·.2)) (Dm.fN ks ds i)
 |[],[],ds,_,r=>by cases r;exact⟨rfl,.nil⟩
 |[],_::_,_,e,_=>by cases e
 |_::_,[],_,e,_=>by cases e
 |(k,v)::kvs,k'::ks,ds,e,r=>by
  rw[gc,gc]at e;injection e with e1 e2
  cases r with
  |cons h t=>
   obtain⟨i1,i2⟩:=x9 i e2 t;unfold lE at i1 i2 ⊢;dsimp only at e1;subst e1;by_cases q:k'=i
   ·subst q;rw[Qw (by simp),Dm.fM,if_pos rfl,Dm.fN,if_pos rfl];exact⟨i1,i2⟩
   ·have q':¬(PX k':Key)=PX i:=rQ q;rw[Qx (by simpa using q'),Dm.fM,if_neg q,Dm.fN,if_neg q];exact⟨by rw[gc,gc,i1],by rw[gc];exact .cons h i2⟩
section
variable{σ:L2.St}{H:Hp}{Q:VK}
theorem JN{i:Nat}{f:FE}(h:tD (Dm.jS i f) σ H Q):AV (eO i) (tD f) σ H Q:=by
 obtain⟨H0,ρ,x,ρ',st,e,k⟩:=h;unfold Dm.jS at e;split at e
 case h_2=>cases e
 rename_i ks0 vs0 h0;split at e
 case h_2=>cases e
 rename_i m ρ1 e1;split at e
 case h_2=>cases e
 rename_i ks vs h1;split at e
 case h_2=>cases e
 rename_i d hl;cases e;obtain⟨a0,q0,n0,JE,y0,_⟩:=st.ow i _ h0;refine⟨_,q0,a0,rfl,.inl ⟨JE,.inl y0⟩,H0,ρ,_,ρ1,st,e1,fun u H1 Hb t1 r1=>?_⟩;have hu:=Rep.isInt r1;subst hu;obtain⟨a,q,n,w⟩:=t1.st.ow i _ h1;rw[q0]at q;cases q;obtain⟨kvs,y,ek,rs⟩:=w;rcases gZ m ek rs with⟨d',v,l1,l2,r⟩ | ⟨l1,_⟩
 ·rw[hl]at l1;cases l1;obtain⟨p1,p2⟩:=x9 m ek rs;have ow:ah σ ρ1 a0:=⟨i,_,h1,q0⟩
  have hil:i<ρ1.length:=(Ph.mp h1).1;refine⟨kvs,PX m,v,y,rfl,l2,k v H1 _ ⟨t1.st.write h1 q0 ⟨_,au,p1,p2⟩,t1.stp.trans (Stp.write ow) fun b z=>.inl (t1.own b z),fun b z=>t1.own b (cO h1 z),fun j z=>trivial⟩ r⟩
 ·rw[hl]at l1;cases l1
end
section
variable{vs:List Dat}{ρ ρ':Dm.Env}{ks:List Int}{x:Dm.Val}{d:Dat}{H H':Hp}{i:Nat}{X:Cx}
theorem v_:cY X (.type "dict") (fun xs H Q=>∃a kvs,xs=[.ref a]/\H a=some (.dK kvs)/\∀p,H p=none->Q (.ref p) (upd H p (.dK kvs))):=by intro jV s σ H xs us Q I r h;obtain⟨a,kvs,rfl,ha,k⟩:=h;obtain⟨u,rfl,rx⟩:=vals1 r;cases rx;exact AY I (.inl ha) fun p s' hp I'=>⟨.ref p,_,I',rfl,k p hp⟩
theorem EY:CallD (fun xs H Q=>∃a kvs,xs=[.ref a]/\H a=some (.dK kvs)/\∀p,H p=none->Q (.ref p) (upd H p (.dK kvs))) Dm.qi:=by
 intro H0 H vs ds z Q s rs e k;unfold Dm.qi at e;split at e
 ·cases e;cases rs with
  |cons r rr=>cases rr;obtain⟨a,kvs,rfl,ha,ek,rs⟩:=dN s r;refine⟨a,kvs,rfl,ha,fun p hp=>k _ _ _ (aI.mh s hp) ⟨p,rfl,hp,s.free hp,kvs,au,ek,rs⟩⟩
 ·cases e
theorem nF:∀(its:List Value) (ns:List Int),its.length=ns.length->(∀(i:Nat) (v:Value),its[i]?=some v->∃n,ns[i]?=some n/\∃t,v=RL n t)->IntsAre its ns
 |[],[],_,_=>.nil
 |[],_::_,h,_=>by cases h
 |_::_,[],h,_=>by cases h
 |v::its,n::ns,h,k=>by
  obtain⟨m,h1,t,h2⟩:=k 0 v rfl;simp at h1;subst h1;subst h2;exact .cons n t (nF its ns (by simpa using h) fun i v e=>by obtain⟨m,q1,q2⟩:=k (i+1) v (by simpa using e);exact⟨m,by simpa using q1,q2⟩)
theorem x_:∀{kvs:List (Key×V)} {vs:List (Key×Value)},KV kvs vs->vs.map (·.1)=kvs.map (·.1)
 |_,_,.nil=>rfl
 |_,_,.cons h t=>by rw[gc,gc,x_ t,h.1]
theorem eU:∀{its:List Value} {ns:List Int},IntsAre its ns->Vals (ns.map V.int) its
 |_,_,.nil=>.nil
 |_,_,.cons n t h=>.cons ⟨t,rfl⟩ (eU h)
def BI:List V->Hp->VK->Prop:=fun xs H Q=>∃(p:Addr) (kvs:List (Key×V)) (ns:List Int),xs=[.ref p]/\H p=some (.dK kvs)/\kvs.map (·.1)=ns.map PX/\ns.length<=63 /\
 ∀(ms:List Int) (l:Addr),ms.Perm ns->ms.Pairwise (·<=·)->H l=none->Q (.ref l) (upd H l (.lst (ms.map V.int)))
theorem wc(hc:X.calm=true):cY X (.builtin "sorted") BI:=by
 intro jV s σ H xs us Q I r h;obtain⟨p,kvs,ns,rfl,hq,ek,hl,k⟩:=h;obtain⟨u,rfl,rx⟩:=vals1 r;cases rx;obtain⟨z,hd,vs,rel,dd⟩:=xJ I.hok hq;obtain⟨ep,hat⟩:=dd.dictAt;have B3:vs.length=ns.length:=by
  rw[<- rel.length];have:=congrArg List.length ek
  simpa using this
 have hns:vs.length<=sizeLine:=by rw[<- rel.length];exact z
 refine Calls.call_function_entry kind_sorted plain_sorted entry_sorted (args_sorted1 _) ?_;unfold Builtin.«sorted»;refine wpAny_bind (m:=checkCount "sorted" 1 1 _) (wpAny_pure ?_);refine wpAny_bind (PySem.W.kdu_collect (A:=X.A.in1) (PySem.W.kdl_dict (knd:=aS X.prog X.w) (kvs:=vs) (ep:=ep) hd) (I.ok.hd hc) hat hns fun h' tk zL hk hacc=>?_);have hsz:zL.toList.length=ns.length:=by rw[Rk,hacc.1,B3]
 have hI:IntsAre zL.toList ns:=nF _ _ hsz fun i v e=>by
  obtain⟨ky,x,h1,h2⟩:=hacc.2 i v (by rw[<- Array.getElem?_toList];exact e);have hk1:(vs.map (·.1))[i]?=some ky:=by rw[Py,h1];rfl
  rw[x_ rel,ek,Py]at hk1;cases q:ns[i]? with
  |none=>rw[q]at hk1;cases hk1
  |some n=>rw[q]at hk1;cases hk1;exact⟨n,rfl,(Value.isInt_shape (k:=n) (v:=v) h2)⟩
 have hn:zL.toList.length<=63:=by rw[hsz];exact hl
 refine wpAny_bind (wpAny_newList ?_ (PL hn (by decide)));have hL0:(h'.push (seqObj "list" zL.toList.toArray 0)).get? h'.objs.size=some (seqObj "list" zL.toList.toArray 0):=Qs _ rfl;have I1:=I.kept (t':=tk) hk;refine wpAny_bind (wpAny_holding (wpAny_call_entry (s:={ s with heap:=h'.push (seqObj "list" zL.toList.toArray 0),toks:=tk }) slot_list_sort ⟨_,hL0,rfl⟩ entry_list_sort (list_sort_tree hL0 hI (by lia) fun out ms a1 a2 a3=>⟨_,rfl,?_⟩) (args_list_sort _)));obtain⟨c,hc'⟩:=sortedHeap_at (out:=out) hL0;have hz2:(ms.map V.int).length<=sizeLine:=by rw[Pg,a2.length_eq];exact PL hl (by decide)
 refine wpAny_pure ⟨_,rfl,.ref h'.objs.size,_,I1.laid (t':=tk) (fun b o e=>?_) (Pj _) (show bq X.prog X.w _ _ _ (.lst (ms.map V.int)) from ⟨hz2,out.toList,c,eU a1,by simpa using hc'⟩),rfl,k ms _ a2 a3 (I1.hok.fresh (Pj _))⟩;have lt:=Px e;rw[sortedHeap_old (Qc lt) (by rw[size_push'];exact Nat.lt_succ_of_lt lt)];exact PJ _ e
theorem BJ:CallD BI Dm.kM:=by
 intro H0 H vs ds z Q s rs e k;unfold Dm.kM at e;split at e
 ·rename_i ks vs';split at e
  case isFalse=>cases e
  rename_i hl;cases e;cases rs with
  |cons r rr=>
   cases rr;obtain⟨a,kvs,rfl,ha,ek,rs⟩:=dN s r;refine⟨a,kvs,ks,rfl,ha,ek,hl,fun ms l pm so hp=>?_⟩;have em:ms=Dm.fY (fun a b=>decide (a<b)) ks:=Dm.lO (lt:=fun a b=>decide (a<b)) (fun a b h1 h2=>by simp at h1 h2;lia) (pm.trans (Dm.fH _ ks).symm) (so.imp fun {a b} h=>by simp;lia)
    (Dm.fJ (fun a b c h1 h2=>by simp at *;lia) (fun a b h=>by simp at *;lia) ks)
   exact k _ _ _ (aI.mh s hp) ⟨l,rfl,hp,s.free hp,_,au,by rw[<- em];exact qh ms⟩
 ·cases e
theorem JO(e:Dm.tkd ρ x=some (d,ρ')):Dm.tk ρ x=some (d,ρ')\/∃i ks vs,x=.slot i/\ρ[i]?=some (.ow (.dct ks vs))/\d=.dct ks vs/\ρ'=ρ:=by
 cases x with
 |val d'=>exact .inl e
 |new d'=>exact .inl e
 |slot i=>
  unfold Dm.tkd at e;dsimp only at e;split at e
  ·rename_i ks vs h;cases e;exact .inr ⟨i,ks,vs,rfl,h,rfl,rfl⟩
  ·rename_i d' _ h;left;unfold Dm.tk;dsimp only;rw[h];exact e
  ·rename_i d' h;left;unfold Dm.tk;dsimp only;rw[h];exact e
  ·cases e
theorem BK(e:Dm.tkd ρ x=some (d,ρ'))(h:ρ[i]?=some (.ow (.dct ks vs))):ρ'[i]?=some (.ow (.dct ks vs)):=by
 cases x with
 |val d'=>cases e;exact h
 |new d'=>cases e;exact h
 |slot j=>
  unfold Dm.tkd at e;dsimp only at e;split at e
  ·cases e;exact h
  ·rename_i d' hn hj;cases e;by_cases q:j=i
   ·subst q;rw[h]at hj;cases hj;exact absurd rfl (hn ks vs)
   ·rw[Dk q];exact h
  ·cases e;exact h
  ·cases e
theorem qk:∀{xs:List Dm.Val} {ρ ρ':Dm.Env} {ds:List Dat},Dm.vZ ρ xs=some (ds,ρ')->ρ[i]?=some (.ow (.dct ks vs))->ρ'[i]?=some (.ow (.dct ks vs))
 |[],_,_,_,e,h=>by cases e;exact h
 |x::xs,ρ,ρ',ds,e,h=>by
  unfold Dm.vZ at e;split at e
  ·cases e
  rename_i d ρ1 e1;split at e
  ·cases e
  rename_i ds' ρ2 e2;cases e;exact qk e2 (BK e1 h)
def OA(H0:Hp)(σ:L2.St)(ρ:Dm.Env)(v:V)(d:Dat):Prop:=Rep H0 v d\/∃(i:Nat) (b:Addr) (ks:List Int) (vs:List Dat),d=.dct ks vs/\v=.ref b/\ρ[i]?=some (.ow (.dct ks vs))/\σ[i]?=some (some (.ref b))
inductive tX(H0:Hp)(σ:L2.St)(ρ:Dm.Env):List V->List Dat->Prop
 |nil:tX H0 σ ρ [] []
 |cons {v:V} {d:Dat} {vs:List V} {ds:List Dat}:OA H0 σ ρ v d->tX H0 σ ρ vs ds->tX H0 σ ρ (v::vs) (d::ds)
theorem we{Hs H0s H0 H:Hp}{σ:L2.St}{ρs:Dm.Env}:∀{xs:List Dm.Val} {vs:List V} {ρ ρ':Dm.Env} {ds:List Dat} {H0c:Hp},ESt σ ρs H0s Hs ρ H0c H->ai H0 H0c->c_ Hs H0 H σ ρ vs xs->Dm.vZ ρ xs=some (ds,ρ') ->
  ∃mY,ESt σ ρs H0s Hs ρ' mY H/\ai H0c mY/\tX mY σ ρ' vs ds
 |[],_,ρ,ρ',ds,H0c,t,b,r,e=>by cases r;cases e;exact⟨H0c,t,ai.refl _,.nil⟩
 |x::xs,_,ρ,ρ',ds,H0c,t,b,r,e=>by
  cases r with
  |cons h r=>
   unfold Dm.vZ at e;split at e
   ·cases e
   ·rename_i d ρ1 e1;split at e
    ·cases e
    ·rename_i ds' ρ2 e2;cases e;rcases JO e1 with e1' | ⟨i,ks,vs,rfl,hi,rfl,rfl⟩
     ·obtain⟨H1,t1,b1,r1,o1,d1⟩:=take1 t b h e1';obtain⟨H2,t2,b2,r2⟩:=we t1 (b.trans b1) (r.rho o1 d1) e2;exact⟨H2,t2,b1.trans b2,.cons (.inl (r1.mono b2)) r2⟩
     ·obtain⟨H2,t2,b2,r2⟩:=we t b r e2;obtain⟨q,_⟩:=h;obtain⟨a,z,_⟩:=t.st.ow i _ hi;rw[q]at z;cases z;exact⟨H2,t2,b2,.cons (.inr ⟨i,a,ks,vs,rfl,rfl,qk e2 hi,q⟩) r2⟩
mutual
theorem Rep.noD(hk:∀a o,H a=some o->H' a=some o\/∃kvs,o=.dK kvs):∀{v:V} {d:Dat},Rep H v d->Dm.bC d=true->Rep H' v d
 |_,_,.non,_=>.non
 |_,_,.bl b,_=>.bl b
 |_,_,.int i,_=>.int i
 |_,_,.str x,_=>.str x
 | _,_,.tup h r,n=>.tup (by
   rcases hk _ _ h with z | ⟨_,z⟩
   ·exact z
   ·cases z) (aB.noD hk r (by unfold Dm.bC at n;exact n))
 | _,_,.lst h r,n=>.lst (by
   rcases h with h | ⟨o,h⟩
   ·rcases hk _ _ h with z | ⟨_,z⟩
    ·exact .inl z
    ·cases z
   ·rcases hk _ _ h with z | ⟨_,z⟩
    ·exact .inr ⟨o,z⟩
    ·cases z) (aB.noD hk r (by unfold Dm.bC at n;exact n))
 |_,_,.dct _ _ _,n=>by unfold Dm.bC at n;cases n
 |_,_,.dcp _ _ _,n=>by unfold Dm.bC at n;cases n
 |_,_,.exc _,n=>by unfold Dm.bC at n;cases n
 |_,_,.dW _ _,n=>by unfold Dm.bC at n;cases n
 |_,_,.fn a,_=>.fn a
theorem aB.noD(hk:∀a o,H a=some o->H' a=some o\/∃kvs,o=.dK kvs):∀{vs:List V} {ds:List Dat},aB H vs ds->Dm.gE ds=true->aB H' vs ds
 |_,_,.nil,_=>.nil
 |_,_,.cons h r,n=>by unfold Dm.gE at n;rw[Pz]at n;exact .cons (Rep.noD hk h n.1) (aB.noD hk r n.2)
end
end
open Classical in
theorem BL{σ:L2.St}{H:Hp}{Q:VK}{f:List Dat->Option RV}{fs:List FE}{E:XK}(h:tD (Dm.eFd f fs) σ H Q):gk (spD f) [] E (tDA fs) σ H Q:=by
 obtain⟨H0,ρ,x,ρ',st,e,k⟩:=h;unfold Dm.eFd at e;split at e
 ·cases e
 rename_i xs ρ1 e1;split at e
 ·cases e
 rename_i ds ρ2 e2;split at e
 ·cases e
 rename_i z fz;split at e
 case isFalse=>cases e
 rename_i hno;injection e with e
 injection e with ea eb
 subst ea;subst eb;refine⟨H0,ρ,xs,ρ1,st,e1,fun vs H1 Hb t1 r1=>?_⟩;dsimp only;rw[Qe];obtain⟨H2,t2,b2,r2⟩:=we t1 (ai.refl _) r1 e2
 let B:Addr->Prop:=fun b=>∃(i:Nat) (ks:List Int) (vs:List Dat),ρ2[i]?=some (.ow (.dct ks vs))/\σ[i]?=some (some (.ref b))
 have hB:∀b,B b->H2 b=none/\∃kvs,Hb b=some (.dK kvs):=fun b ⟨i,ks,vs,h1,h2⟩=>by obtain⟨a,q,n,kvs,w,_⟩:=t2.st.ow i _ h1;rw[h2]at q;cases q;exact⟨n,kvs,w⟩
 let H2':Hp:=fun b=>if B b then Hb b else H2 b
 have in':∀b,B b->H2' b=Hb b:=fun b h=>if_pos h;have out':∀b,¬B b->H2' b=H2 b:=fun b h=>if_neg h;have s2:ai H2 H2':=fun b o e=>by
  by_cases q:B b
  ·rw[(hB b q).1]at e;cases e
  ·rw[out' b q];exact e
 have s2b:ai H2' Hb:=fun b o e=>by
  by_cases q:B b
  ·rw[in' b q]at e;exact e
  ·rw[out' b q]at e;exact t2.st.same _ _ e
 have rr:∀{vs:List V} {ds:List Dat},tX H2 σ ρ2 vs ds->aB H2' vs ds:=fun {vs ds} r=>by
  induction r with
  |nil=>exact .nil
  |cons h _ ih=>
   refine .cons ?_ ih;rcases h with h | ⟨i,b,ks,vs',rfl,rfl,h1,h2⟩
   ·exact h.mono s2
   ·obtain⟨a,q,n,kvs,w,ek,rs⟩:=t2.st.ow i _ h1;rw[h2]at q;cases q;exact .dct (by rw[in' _ ⟨i,ks,vs',h1,h2⟩];exact w) ek (rs.mono s2)
 refine⟨H2',ds,z,s2b,rr r2,fz,fun w H3 Hd g3 r3=>?_⟩
 let H3':Hp:=fun b=>if B b then none else H3 b
 have in3:∀b,B b->H3' b=none:=fun b h=>if_pos h;have BN:∀b,¬B b->H3' b=H3 b:=fun b h=>if_neg h;have gr:aI H2 Hb H3' Hd:=⟨fun b o e=>by
   by_cases q:B b
   ·rw[(hB b q).1]at e;cases e
   ·rw[BN b q];exact g3.s0 _ _ (s2 _ _ e),g3.s1,fun b o e=>by
   by_cases q:B b
   ·rw[in3 b q]at e;cases e
   ·rw[BN b q]at e;rcases g3.s2 b o e with y | y
    ·exact .inl y
    ·rw[out' b q]at y;exact .inr y,fun b o e=>by
   by_cases q:B b
   ·rw[in3 b q]at e;cases e
   ·rw[BN b q]at e;exact g3.s3 _ _ e⟩
 have hk:∀a o,H3 a=some o->H3' a=some o\/∃kvs,o=.dK kvs:=fun a o e=>by
  by_cases q:B a
  ·obtain⟨_,kvs,y⟩:=hB a q;have:=g3.s0 a _ ((in' a q).trans y);rw[e]at this;exact .inr ⟨kvs,Option.some.inj this⟩
  ·exact .inl (by rw[BN a q];exact e)
 have r3':tK Hb H3' Hd w z:=by
  cases z with
  |val d=>exact Rep.noD hk r3 hno
  |new d=>
   obtain⟨a,ea,n,n0,w'⟩:=r3;refine⟨a,ea,n,?_,?_⟩
   ·by_cases q:B a
    ·exact in3 a q
    ·rw[BN a q];exact n0
   ·cases d with
    |lst ds'=>obtain⟨ys,y1,y2⟩:=w';exact⟨ys,y1,aB.noD hk y2 (by have:Dm.bC (.lst ds')=true:=hno;unfold Dm.bC at this;exact this)⟩
    |dct ks ds'=>have:Dm.bC (.dct ks ds')=true:=hno;unfold Dm.bC at this;cases this
    |dcp ks ds'=>have:Dm.bC (.dcp ks ds')=true:=hno;unfold Dm.bC at this;cases this
    |_=>exact w'.elim
 exact k w H3' Hd (t2.trans (.grow t2.st gr)) ((r3'.toV t2.st).early fun a n=>t2.stp.gone n)
section
variable{X:Cx}{e b:Expr}{es:List Expr}{fs:List FE}{fb:FE}{p pos:Pos}
theorem gG{k:Nat}{F:Addr}{fd:FuncData}{ps:List Str}{g:List Dat->Option RV}{x:Str}(G:aT X.prog X.w X.K X.mg X.base CX0 k F fd ps (spD g))(hr:br k X.A)(hg:Gl X x)(hm:X.mg x=some (.ref F))(hk:Qq X.K (.ref F)=true)(hb:Binds X.K fd ps [])
  (ha:DA X (e::es) fs) (M0:(x == ("__debug__" : Str))=false:=by decide) (he:starEach (e::es) X.env=(false,eval e X.env)::starEach es X.env:=by rfl) (Ct:(backTo pos (starEach es X.env)).any (·.1)=false:=by rfl) :
  DE X (.Call (.Name x p) (e::es) [] pos) (Dm.eFd g fs):=PE.weak (fB G hr hg hm hk hb .nil (jE (X:=X)) ha M0 he Ct) fun _ _ _=>BL
theorem BO(hg:Gl X "dict")(hm:X.mg "dict" = none)(ha:DA X [e] fs)(he:starEach [e] X.env=[(false,eval e X.env)]:=by rfl)(Ct:(backTo pos (starEach [] X.env)).any (·.1)=false:=by rfl):DE X (.Call (.Name "dict" p) [e] [] pos) (Dm.eB Dm.qi fs):=Jr v_ EY (by rfl) hg hm ha (he:=he) (Ct:=Ct)
theorem ya(hc:X.calm=true)(hg:Gl X "sorted")(hm:X.mg "sorted" = none)(ha:DA X [e] fs)(he:starEach [e] X.env=[(false,eval e X.env)]:=by rfl)(Ct:(backTo pos (starEach [] X.env)).any (·.1)=false:=by rfl):DE X (.Call (.Name "sorted" p) [e] [] pos) (Dm.eB Dm.kM fs):=zv (wc hc) BJ (by rfl) hg hm ha (he:=he) (Ct:=Ct)
theorem wg(i:Nat){x:Str}{px J_ cpos:Pos}(hb:DE X b fb)(hi:X.N[i]?=some x:=by rfl)(hv:Vis X.env.scope x:=by trivial)(hd:(x == ("__debug__" : Str))=false:=by decide)
  (G3:(x == ("__classdict__" : Str))=false:=by decide) (m:M1 X (.Name x px) "pop" J_ b cpos:=by exact⟨rfl,rfl,rfl,rfl⟩):DE X (.Call (.Attribute (.Name x px) "pop" J_) [b] [] cpos) (Dm.jS i fb):=PE.weak (AX (bM hi hv hd G3) hb m) fun _ _ _=>JN
end
open PySem
variable{C:List Value->Prop}{us:List Value}
theorem len0(h:us.length=0)(c:C []):C us:=by rw[List.eq_nil_of_length_eq_zero h];exact c
theorem BP{n:Nat}{C:List Value->Prop}{us:List Value}(h:us.length=n+1)(c:∀a us,us.length=n->C (a::us)):C us:=by
 cases us with
 |nil=>cases h
 |cons a us=>exact c a us (by simpa using h)
theorem Mw(h:us.length=1)(c:∀a,C [a]):C us:=BP h fun a _ h=>len0 h (C:=fun us=>C (a::us)) (c a)
theorem Bq(h:us.length=2)(c:∀a b,C [a,b]):C us:=BP h fun a _ h=>Mw h (C:=fun us=>C (a::us)) (c a)
theorem Mx(h:us.length=3)(c:∀a b d,C [a,b,d]):C us:=BP h fun a _ h=>Bq h (C:=fun us=>C (a::us)) (c a)
theorem My(h:us.length=4)(c:∀a b d e,C [a,b,d,e]):C us:=BP h fun a _ h=>Mx h (C:=fun us=>C (a::us)) (c a)
theorem OB(h:us.length=5)(c:∀a b d e f,C [a,b,d,e,f]):C us:=BP h fun a _ h=>My h (C:=fun us=>C (a::us)) (c a)
end Br
namespace L2
open PySem
variable{K:Pf}{x qual:Str}{st:Stmt}{f:Addr}{fd:FuncData}{ps:List Str}
theorem Fun.fO(F:Fun K x qual st f fd)(hp:ps.length=1)(h:∀(kV doc pm:Value) (an:Option Addr) (cdv ct:Value) (a:Value),bindArgs (Qj x qual (bw st) (aZ st) (aj st) .none kV doc pm an cdv ct) ⟨[a],[]⟩=pure (ps.zip [a])):Binds K fd ps []:=
 F.binds fun kV doc pm an cdv ct us hl=>Br.Mw (C:=fun us=>bindArgs (Qj x qual (bw st) (aZ st) (aj st) .none kV doc pm an cdv ct) ⟨us,[]⟩=pure (ps.zip us)) (hl.trans hp) (h kV doc pm an cdv ct)
theorem Fun.dP(F:Fun K x qual st f fd)(hp:ps.length=2)(h:∀(kV doc pm:Value) (an:Option Addr) (cdv ct:Value) (a b:Value),bindArgs (Qj x qual (bw st) (aZ st) (aj st) .none kV doc pm an cdv ct) ⟨[a,b],[]⟩=pure (ps.zip [a,b])):Binds K fd ps []:=
 F.binds fun kV doc pm an cdv ct us hl=>Br.Bq (C:=fun us=>bindArgs (Qj x qual (bw st) (aZ st) (aj st) .none kV doc pm an cdv ct) ⟨us,[]⟩=pure (ps.zip us)) (hl.trans hp) (h kV doc pm an cdv ct)
theorem Fun.rT(F:Fun K x qual st f fd)(hp:ps.length=3)(h:∀(kV doc pm:Value) (an:Option Addr) (cdv ct:Value) (a b d:Value),bindArgs (Qj x qual (bw st) (aZ st) (aj st) .none kV doc pm an cdv ct) ⟨[a,b,d],[]⟩=pure (ps.zip [a,b,d])):Binds K fd ps []:=
 F.binds fun kV doc pm an cdv ct us hl=>Br.Mx (C:=fun us=>bindArgs (Qj x qual (bw st) (aZ st) (aj st) .none kV doc pm an cdv ct) ⟨us,[]⟩=pure (ps.zip us)) (hl.trans hp) (h kV doc pm an cdv ct)
theorem Fun.kO(F:Fun K x qual st f fd)(hp:ps.length=4)(h:∀(kV doc pm:Value) (an:Option Addr) (cdv ct:Value) (a b d e:Value),bindArgs (Qj x qual (bw st) (aZ st) (aj st) .none kV doc pm an cdv ct) ⟨[a,b,d,e],[]⟩=pure (ps.zip [a,b,d,e])):Binds K fd ps []:=
 F.binds fun kV doc pm an cdv ct us hl=>Br.My (C:=fun us=>bindArgs (Qj x qual (bw st) (aZ st) (aj st) .none kV doc pm an cdv ct) ⟨us,[]⟩=pure (ps.zip us)) (hl.trans hp) (h kV doc pm an cdv ct)
theorem Fun.kQ(F:Fun K x qual st f fd)(hp:ps.length=5)(h:∀(kV doc pm:Value) (an:Option Addr) (cdv ct:Value) (a b d e g:Value),bindArgs (Qj x qual (bw st) (aZ st) (aj st) .none kV doc pm an cdv ct) ⟨[a,b,d,e,g],[]⟩=pure (ps.zip [a,b,d,e,g])):Binds K fd ps []:=
 F.binds fun kV doc pm an cdv ct us hl=>Br.OB (C:=fun us=>bindArgs (Qj x qual (bw st) (aZ st) (aj st) .none kV doc pm an cdv ct) ⟨us,[]⟩=pure (ps.zip us)) (hl.trans hp) (h kV doc pm an cdv ct)
end L2
namespace Dm
noncomputable def eFp(a i:Nat)(f:List Dat->Option RV)(as:List FE):FE:=fun ρ=>match ρ[i]? with
 |some (.sh (.fn b))=>if b=a then eF f as ρ else none
 |_=>none
end Dm
namespace Br
open PySem L2
section
variable{X:Cx}{e:Expr}{es:List Expr}{fs:List FE}{p pos:Pos}
section
variable{fd:FuncData}{ps:List Str}{F:Addr}{x:Str}{k:Nat}{E:XK}
theorem Mz(hg:Gl X x)(hm:X.mg x=some (.ref F))(hd:(x == ("__debug__" : Str))=false:=by decide):DE X (.Name x pos) (Dm.eC (.fn F)):=
 PE.weak (D9 (v:=V.ref F) hg hm rfl hd) fun _ _ _=>mC fun _=>.fn F
theorem tY{sp:Sp}{t:TA}{CX}(i:Nat)(G:aT X.prog X.w X.K X.mg X.base CX k F fd ps sp)(hr:br k X.A)(hN:X.N[i]?=some x)(hv:Vis X.env.scope x)(hk:Qq X.K (.ref F)=true)(hb:Binds X.K fd ps [])(hx:Passes CX X E)
  (ha:PA X (e::es) t) (hd:(x == ("__debug__" : Str))=false) (G3:(x == ("__classdict__" : Str))=false) (he:starEach (e::es) X.env=(false,eval e X.env)::starEach es X.env) (Ct:(backTo pos (starEach es X.env)).any (·.1)=false) :
  PE X (.Call (.Name x p) (e::es) [] pos) (fun σ H Q=>eO i σ H fun v _=>v=V.ref F/\gk sp [] E t σ H Q):=by
 intro jV s σ H Q I h;obtain⟨v,e1,rfl,h⟩:=h;refine wpAny_Call_Name_kw (thn (bM hN hv hd G3 jV s σ H (fun v H1=>v=V.ref F/\H1=H) I ⟨_,e1,rfl,rfl⟩) fun u s1 ⟨v,H1,I1,r,q1,q2⟩=>?_);subst q1 q2;cases r;refine PySem.W.callWith_K (h₀:=X.base) I1.ok.mod.kin hk (thn (ha pos jV s1 σ H1 _ I1 h) fun us s2 ⟨vs,H2,I2,r,q⟩=>⟨I2.kIn,?_⟩) he Ct;exact AB G hr hb .nil hx I2 r q
theorem EZ{F i:Nat}{f:List Dat->Option RV}{σ:L2.St}{H:Hp}{Q:VK}(h:tD (Dm.eFp F i f fs) σ H Q):eO i σ H fun v _=>v=V.ref F/\gk (spD f) [] E (tDA fs) σ H Q:=by
 obtain⟨H0,ρ,x,ρ',st,e,k⟩:=h;unfold Dm.eFp at e;split at e
 ·rename_i b h1;split at e
  ·rename_i hb;subst hb;obtain⟨v,q,r⟩:=st.sh i _ h1;cases r;exact⟨_,q,rfl,A4 ⟨H0,ρ,x,ρ',st,e,k⟩⟩
  ·cases e
 ·cases e
theorem E1{g:List Dat->Option RV}(i:Nat){x:Str}(G:aT X.prog X.w X.K X.mg X.base CX0 k F fd ps (spD g))(hr:br k X.A)(hk:Qq X.K (.ref F)=true)(hb:Binds X.K fd ps [])
  (ha:DA X (e::es) fs) (hN:X.N[i]?=some x:=by rfl) (hv:Vis X.env.scope x:=by trivial) (hd:(x == ("__debug__" : Str))=false:=by decide) (G3:(x == ("__classdict__" : Str))=false:=by decide)
  (he:starEach (e::es) X.env=(false,eval e X.env)::starEach es X.env:=by rfl) (Ct:(backTo pos (starEach es X.env)).any (·.1)=false:=by rfl) :
  DE X (.Call (.Name x p) (e::es) [] pos) (Dm.eFp F i g fs):=PE.weak (tY i G hr hN hv hk hb (jE (X:=X)) ha hd G3 he Ct) fun _ _ _=>EZ
end
end
end Br
namespace Dm
noncomputable def gg(a:Int):List Int->Int
 |[]=>a
 |x::r=>gg (if x<a then x else a) r
noncomputable def qo:List Dat->Option RV
 | [.lst xs]=>(match eY xs with
  |some (n::ns)=>vI (gg n ns)
  |_=>none)
 |_=>none
end Dm
namespace Br
open PySem PySem.Spec PyProof.Rows L2
theorem BQ(a x:Int)(l:List Int):Dm.gg a (l++[x])=if x<Dm.gg a l then x else Dm.gg a l:=by
 induction l generalizing a with
 |nil=>rfl
 |cons y l ih=>rw[QX,Dm.gg,ih,Dm.gg]
theorem tZ(n0:Int)(ns:List Int):∀k,k<=ns.length->(n0::ns).getD (argBest (fun i j=>decide ((n0::ns).getD i 0<(n0::ns).getD j 0)) k) 0=Dm.gg n0 (ns.take k)
 |0,_=>rfl
 |k+1,h=>by
  have ih:=tZ n0 ns k (by lia);have e:argBest (fun i j=>decide ((n0::ns).getD i 0<(n0::ns).getD j 0)) (k+1)=if decide ((n0::ns).getD (k+1) 0<(n0::ns).getD (argBest (fun i j=>decide ((n0::ns).getD i 0<(n0::ns).getD j 0)) k) 0) then k+1 else argBest (fun i j=>decide ((n0::ns).getD i 0<(n0::ns).getD j 0)) k:=rfl
  have ek:(n0::ns).getD (k+1) 0=ns[k]'(by omega):=by rw[Qg,QU,Pp (by lia)];rfl
  rw[e,ih,ek,List.take_succ_eq_append_getElem (by lia),BQ];by_cases c:ns[k]'(by lia)<Dm.gg n0 (ns.take k)
  ·rw[decide_eq_true c,if_pos rfl,if_pos c,ek]
  ·rw[decide_eq_false c,if_neg (by decide),if_neg c,ih]
section
variable{X:Cx}
theorem zG(hc:X.calm=true):cY X (.builtin "min") (fun xs H Q=>∃(a:Addr) (n:Int) (ns:List Int),xs=[.ref a]/\Rd H a (.lst ((n::ns).map V.int))/\Q (.int (Dm.gg n ns)) H):=by
 intro jV s σ H xs us Q I r h;obtain⟨a,n0,ns,rfl,hq,q⟩:=h;obtain⟨u,rfl,rx⟩:=vals1 r;cases rx;obtain⟨z,its,n,rv,e⟩:=hq.ok I.hok;have hl:s.heap.IsList a its.toArray:=⟨_,e,rfl,_,rfl⟩
 have B3:=rv.length;rw[Pg]at B3;have hax:a≠s.heap.objs.size:=Qc (Px e);have e1:its.toArray.size=ns.length+1:=by rw[Po,<- B3];rfl
 refine PySem.call_min_walk (wpAny_pyIter_list hl ⟨s.heap.objs.size,_,_,_,_,_,_,rfl,Walks.list (A:=X.A.in1) (I.ok.hd hc) s.heap.objs.size a hax its.toArray,⟨⟨_,Qs _ rfl,rfl,rfl⟩,hl.push _⟩,?_,by rw[e1];exact Nat.succ_pos _,CmpOf.ints_lt (fun i=>(n0::ns).getD i 0) (x8 rv),fun v h' tk hp hk=>?_⟩)
 ·intro b hb;simp only[Pk,Q8,or_false]at hb;rcases hb with rfl | rfl
  ·show s.heap.objs.size<_;exact Sd ..▸R0 _
  ·show b<_;exact Sd ..▸Nat.lt_succ_of_lt (Px e)
 ·obtain⟨t',rfl⟩:=x8 rv _ _ hp;refine⟨.int (Dm.gg n0 ns),H,I.kept (t':=tk) fun b o eb=>hk b o ?_ (PJ _ eb),⟨t',?_⟩,q⟩
  ·intro hm;have:b=s.heap.objs.size:=by simpa using hm
   exact absurd (Px eb) (by rw[this];exact Qy _)
  ·rw[e1,Nat.add_sub_cancel,tZ n0 ns _ (Pj _),List.take_length]
theorem E2:CallD (fun xs H Q=>∃(a:Addr) (n:Int) (ns:List Int),xs=[.ref a]/\Rd H a (.lst ((n::ns).map V.int))/\Q (.int (Dm.gg n ns)) H) Dm.qo:=by
 intro H0 H vs ds z Q s rs e k;unfold Dm.qo at e;split at e
 ·split at e
  ·rename_i n ns hb;cases e;cases rs with
   |cons r rr=>cases rr;obtain⟨a,us,rfl,qa,ra⟩:=bH s r;have:=nC ra hb;subst this;exact⟨a,n,ns,rfl,qa,k _ H0 H (aI.refl s) (.int _)⟩
  ·cases e
 ·cases e
end
section
variable{X:Cx}{e:Expr}{fs:List FE}{p pos:Pos}
theorem JP(hc:X.calm=true)(hg:Gl X "min")(hm:X.mg "min" = none)(ha:DA X [e] fs)(he:starEach [e] X.env=[(false,eval e X.env)]:=by rfl)(Ct:(backTo pos (starEach [] X.env)).any (·.1)=false:=by rfl):DE X (.Call (.Name "min" p) [e] [] pos) (Dm.eB Dm.qo fs):=zv (zG hc) E2 (by rfl) hg hm ha (he:=he) (Ct:=Ct)
end
end Br
namespace Dm
inductive Dp where
 |s (d:Dat)
 |l (xs:List Dp)
 |t (xs:List Dp)
mutual
noncomputable def Dp.dat:Dp->Dat
 |.s d=>d
 |.l xs=>.lst (Dp.nG xs)
 |.t xs=>.tup (Dp.nG xs)
noncomputable def Dp.nG:List Dp->List Dat
 |[]=>[]
 |x::r=>x.dat::Dp.nG r
end
theorem Dp.dQ:∀xs:List Dp,Dp.nG xs=xs.map Dp.dat
 |[]=>rfl
 |x::r=>by rw[Dp.nG,Dp.dQ r];rfl
theorem Dp.kR(ds:List Dat):Dp.nG (ds.map Dp.s)=ds:=by rw[Dp.dQ,P7];exact(QG fun d _=>rfl).trans (QE ds)
noncomputable abbrev FP:=Env->Option (Dp×Env)
noncomputable def pO(f:FE):FP:=fun ρ=>match f ρ with
 |some (.val d,ρ1)=>some (.s d,ρ1)
 |some (.new (.lst ds),ρ1)=>some (.l (ds.map .s),ρ1)
 | some (.slot i,ρ1)=>(match ρ1[i]? with
  |some (.ow (.lst ds))=>some (.l (ds.map .s),ρ1.set i .un)
  |some (.sh d)=>some (.s d,ρ1)
  |_=>none)
 |_=>none
noncomputable def pAs:List FP->Env->Option (List Dp×Env)
 |[],ρ=>some ([],ρ)
 |f::r,ρ=>match f ρ with
  |none=>none
  |some (x,ρ1)=>match pAs r ρ1 with
   |none=>none
   |some (xs,ρ2)=>some (x::xs,ρ2)
noncomputable def pT(fs:List FP):FP:=fun ρ=>match pAs fs ρ with
 |none=>none
 |some (ps,ρ1)=>if ps.length<=SZ then some (.t ps,ρ1) else none
noncomputable abbrev FSP:=Env->Option Dp
noncomputable def qR(f:FP):FSP:=fun ρ=>match f ρ with
 |none=>none
 |some (p,_)=>some p
noncomputable def eZ(s:FS)(g:FSP):FSP:=fun ρ=>match s ρ with
 |some (.nx ρ1)=>g ρ1
 |_=>none
noncomputable def fnP(n m:Nat)(g:FSP)(ds:List Dat):Option Dp:=if ds.length=n then g (ds.map Cell.sh++gV m .un) else none
noncomputable def shC:Cell->Cell
 |.ow d=>.sh d
 |c=>c
noncomputable def yb(ρ:Env):Env:=ρ.map shC
noncomputable abbrev FM:=Env->Dp->Option Out
noncomputable def see(j:Nat)(ρ:Env)(p:Dp):Env:=yb (ρ.set j (.sh p.dat))
noncomputable def mIf(j:Nat)(t:FT)(fs:FS)(g:FM):FM:=fun ρ p=>match t (see j ρ p) with
 |none=>none
 | some (true,_)=>(match fs ρ with
  |some (.nx _)=>none
  |o=>o)
 |some (false,_)=>g ρ p
noncomputable def zH(z:Int)(gs:FS):FM:=fun ρ p=>match p with
 | .t xs=>(match ixN xs.length z with
  |none=>none
  | some m=>(match xs[m]? with
   |some (.l _)=>gs ρ
   |_=>none))
 |_=>none
end Dm
namespace Br
open PySem PySem.Spec PyProof.Rows L2
mutual
inductive a_(N:Addr->Prop)(H0 H:Hp):V->Dm.Dp->List Addr->Prop
 |s {v:V} {d:Dat}:Rep H0 v d->a_ N H0 H v (.s d) []
 |l {a:Addr} {vs:List V} {ps:List Dm.Dp} {fp:List Addr}:N a->H a=some (.lst vs)->aA N H0 H vs ps fp->a_ N H0 H (.ref a) (.l ps) (a::fp)
 |t {a:Addr} {vs:List V} {ps:List Dm.Dp} {fp:List Addr}:N a->H a=some (.tup vs)->aA N H0 H vs ps fp->a_ N H0 H (.ref a) (.t ps) fp
inductive aA(N:Addr->Prop)(H0 H:Hp):List V->List Dm.Dp->List Addr->Prop
 |nil:aA N H0 H [] [] []
 |cons {v:V} {p:Dm.Dp} {f:List Addr} {vs:List V} {ps:List Dm.Dp} {fp:List Addr}:a_ N H0 H v p f->aA N H0 H vs ps fp->aA N H0 H (v::vs) (p::ps) (f++fp)
end
section
variable{N N':Addr->Prop}{H0 H H0' H':Hp}
mutual
theorem a_.mono(s:ai H0 H0')(kn:∀a,N a->N' a)(kt:∀a vs,N a->H a=some (.tup vs)->H' a=some (.tup vs)):∀{v:V} {p:Dm.Dp} {fp:List Addr},a_ N H0 H v p fp->(∀a∈fp,H' a=H a)->a_ N' H0' H' v p fp
 |_,_,_,.s r,_=>.s (r.mono s)
 |_,_,_,.l n h r,k=>.l (kn _ n) ((k _ Ds).trans h) (aA.mono s kn kt r fun b hb=>k b (Pa _ hb))
 |_,_,_,.t n h r,k=>.t (kn _ n) (kt _ _ n h) (aA.mono s kn kt r k)
theorem aA.mono(s:ai H0 H0')(kn:∀a,N a->N' a)(kt:∀a vs,N a->H a=some (.tup vs)->H' a=some (.tup vs)):∀{vs:List V} {ps:List Dm.Dp} {fp:List Addr},aA N H0 H vs ps fp->(∀a∈fp,H' a=H a)->aA N' H0' H' vs ps fp
 |_,_,_,.nil,_=>.nil
 |_,_,_,.cons h r,k=>.cons (a_.mono s kn kt h fun a ha=>k a (PK _ ha)) (aA.mono s kn kt r fun a ha=>k a (PB _ ha))
end
mutual
theorem a_.fpN:∀{v:V} {p:Dm.Dp} {fp:List Addr},a_ N H0 H v p fp->∀a∈fp,N a/\∃xs,H a=some (.lst xs)
 |_,_,_,.s _,_,h=>by cases h
 |_,_,_,.l n h r,a,ha=>by
  rcases Pk.mp ha with rfl | ha
  ·exact⟨n,_,h⟩
  ·exact aA.fpN r a ha
 |_,_,_,.t n h r,a,ha=>aA.fpN r a ha
theorem aA.fpN:∀{vs:List V} {ps:List Dm.Dp} {fp:List Addr},aA N H0 H vs ps fp->∀a∈fp,N a/\∃xs,H a=some (.lst xs)
 |_,_,_,.nil,_,h=>by cases h
 |_,_,_,.cons h r,a,ha=>(PV.mp ha).elim (a_.fpN h a) (aA.fpN r a)
end
mutual
theorem a_.rep(s:ai H0 H0')(k:∀a o,N a->H a=some o->H0' a=some o):∀{v:V} {p:Dm.Dp} {fp:List Addr},a_ N H0 H v p fp->Rep H0' v p.dat
 |_,_,_,.s r=>r.mono s
 |_,_,_,.l n h r=>.lst (.inl (k _ _ n h)) (aA.rep s k r)
 |_,_,_,.t n h r=>.tup (k _ _ n h) (aA.rep s k r)
theorem aA.rep(s:ai H0 H0')(k:∀a o,N a->H a=some o->H0' a=some o):∀{vs:List V} {ps:List Dm.Dp} {fp:List Addr},aA N H0 H vs ps fp->aB H0' vs (Dm.Dp.nG ps)
 |_,_,_,.nil=>.nil
 |_,_,_,.cons h r=>.cons (a_.rep s k h) (aA.rep s k r)
end
theorem aA.mE:∀{vs:List V} {ds:List Dat},aB H0 vs ds->aA N H0 H vs (ds.map .s) []
 |_,_,.nil=>.nil
 |_,_,.cons h r=>.cons (.s h) (aA.mE r)
theorem aA.get:∀{vs:List V} {ps:List Dm.Dp} {fp:List Addr} {i:Nat} {p:Dm.Dp},aA N H0 H vs ps fp->ps[i]?=some p->∃v f,vs[i]?=some v/\a_ N H0 H v p f/\∀a∈f,a∈fp
 |_,_,_,_,_,.nil,e=>by simp at e
 |_,_,_,0,_,.cons h _,e=>by simp at e;subst e;exact⟨_,_,rfl,h,fun a ha=>PK _ ha⟩
 |_,_,_,i+1,_,.cons _ r,e=>by obtain⟨v,f,h1,h2,h3⟩:=aA.get (i:=i) r (by simpa using e);exact⟨v,f,by simpa using h1,h2,fun a ha=>PB _ (h3 a ha)⟩
theorem aA.length:∀{vs:List V} {ps:List Dm.Dp} {fp:List Addr},aA N H0 H vs ps fp->vs.length=ps.length
 |_,_,_,.nil=>rfl
 |_,_,_,.cons _ r=>by rw[PR,PR,aA.length r]
end
theorem av.gH{H0 H:Hp}{σ:L2.St}{ρ:Dm.Env}{a:Addr}{vs:List V}(st:av H0 H σ ρ)(h:H a=some (.tup vs)):¬ah σ ρ a:=fun⟨i,d,h1,h2⟩=>by
 obtain⟨b,q,n,w⟩:=st.ow i d h1;rw[h2]at q;cases q;cases d with
 |lst ds=>obtain⟨xs,y,_⟩:=w;rw[h]at y;cases y
 |dct ks ds=>obtain⟨xs,y,_⟩:=w;rw[h]at y;cases y
 |dcp ks ds=>obtain⟨xs,y,_⟩:=w;rw[h]at y;cases y
 |_=>exact w
theorem a_.est{N:Addr->Prop}{σ:L2.St}{ρ ρ':Dm.Env}{H0 H H0' H':Hp}{v:V}{p:Dm.Dp}{fp:List Addr}(st:av H0 H σ ρ)(t:ESt σ ρ H0 H ρ' H0' H')(r:a_ N H0 H v p fp)(k:∀a∈fp,H0 a=none/\¬ah σ ρ a) :
  a_ N H0' H' v p fp/\∀a∈fp,H0' a=none/\¬ah σ ρ' a:=by
 refine⟨r.mono t.stp.s0 (fun _ n=>n) (fun a vs _ h=>t.stp.s1 a _ h (st.gH h)) fun a ha=>?_,fun a ha=>?_⟩
 ·obtain⟨_,xs,h⟩:=r.fpN a ha;rw[(t.bV h (k a ha).1 (k a ha).2).1,h]
 ·obtain⟨_,xs,h⟩:=r.fpN a ha;exact(t.bV h (k a ha).1 (k a ha).2).2
def iI(σ:L2.St)(ρ:Dm.Env)(H:Hp)(a:Addr):Prop:=H a=none\/ah σ ρ a
def cQ(σ:L2.St)(ρ:Dm.Env)(H0:Hp)(fp:List Addr):Prop:=fp.Nodup/\∀a∈fp,H0 a=none/\¬ah σ ρ a
def tDp(f:Dm.FP):TE:=fun σ H Q=>∃H0 ρ p ρ',av H0 H σ ρ/\f ρ=some (p,ρ')/\∀v H0' H' fp,ESt σ ρ H0 H ρ' H0' H'->a_ (iI σ ρ H) H0' H' v p fp->cQ σ ρ' H0' fp->Q v H'
def BR(fs:List Dm.FP):TA:=fun σ H Q=>∃H0 ρ ps ρ',av H0 H σ ρ/\Dm.pAs fs ρ=some (ps,ρ')/\∀vs H0' H' fp,ESt σ ρ H0 H ρ' H0' H'->aA (iI σ ρ H) H0' H' vs ps fp->cQ σ ρ' H0' fp->Q vs H'
noncomputable abbrev DP(X:Cx)(e:Expr)(f:Dm.FP):Prop:=PE X e (tDp f)
noncomputable abbrev DPA(X:Cx)(es:List Expr)(fs:List Dm.FP):Prop:=PA X es (BR fs)
section
variable{σ:L2.St}{H:Hp}{Q:VK}
theorem OC{f:FE}(h:tDp (Dm.pO f) σ H Q):tD f σ H Q:=by
 obtain⟨H0,ρ,p,ρ',st,e,k⟩:=h;unfold Dm.pO at e;split at e
 ·rename_i d ρ1 e1;cases e;exact⟨H0,ρ,_,_,st,e1,fun v H0' H' t r=>k v H0' H' [] t (.s r) ⟨RI,fun a h=>by cases h⟩⟩
 ·rename_i ds ρ1 e1;cases e;refine⟨H0,ρ,_,_,st,e1,fun v H0' H' t r=>?_⟩;obtain⟨a,rfl,n,no,n0,xs,y,rs⟩:=r;refine k _ H0' H' [a] t (.l (.inl n) y (.mE rs)) ⟨by simp,fun b hb=>?_⟩;rw[PN.mp hb];exact⟨n0,no⟩
 ·rename_i i ρ1 e1;split at e
  ·rename_i ds h1;cases e;refine⟨H0,ρ,_,_,st,e1,fun v H0' H' t r=>?_⟩;obtain⟨q,_⟩:=r;obtain⟨a,q',n0,xs,y,rs⟩:=t.st.ow i _ h1;rw[q]at q';cases q';have ow:ah σ ρ1 a:=⟨i,_,h1,q⟩
   refine k _ H0' H' [a] ⟨t.st.mask i,t.stp,fun b z=>?_,fun j z=>trivial⟩ (.l (.inr (t.own a ow)) y (.mE rs)) ⟨by simp,fun b hb=>?_⟩
   ·obtain⟨j,d2,_,z1,z2⟩:=bO z;exact t.own b ⟨j,d2,z1,z2⟩
   ·rw[PN.mp hb];refine⟨n0,fun z=>?_⟩;obtain⟨j,d2,hj,z1,z2⟩:=bO z;exact hj (t.st.dis j i d2 _ a z1 h1 z2 q)
  ·rename_i d h1;cases e;refine⟨H0,ρ,_,_,st,e1,fun v H0' H' t r=>?_⟩;obtain⟨q,_⟩:=r;obtain⟨u,q',w⟩:=t.st.sh i d h1;rw[q]at q';cases q';exact k _ H0' H' [] t (.s w) ⟨RI,fun a h=>by cases h⟩
  ·cases e
 ·cases e
theorem JQ{Q:List V->Hp->Prop}(h:BR [] σ H Q):pF σ H Q:=by obtain⟨H0,ρ,xs,ρ',st,e,k⟩:=h;cases e;exact k [] H0 H [] (.refl st) .nil ⟨RI,fun a h=>by cases h⟩
theorem iI.back{σ:L2.St}{ρ ρ1:Dm.Env}{H0 H H1 Hb:Hp}(t:ESt σ ρ H0 H ρ1 H1 Hb){a:Addr}(n:iI σ ρ1 Hb a):iI σ ρ H a:=n.elim (fun z=>.inl (t.stp.gone z)) fun z=>.inr (t.own a z)
theorem cQ.app{σ:L2.St}{ρ1 ρ2:Dm.Env}{H1 Hb H2 Hc:Hp}{f fp:List Addr}(hf:f.Nodup)(h1:∀a∈f,(∃o,Hb a=some o)/\¬ah σ ρ1 a)(h2:∀a∈f,H2 a=none/\¬ah σ ρ2 a)(g:cQ σ ρ2 H2 fp)(gn:∀a∈fp,iI σ ρ1 Hb a):cQ σ ρ2 H2 (f++fp):=by
 refine⟨P6.mpr ⟨hf,g.1,fun a ha b hb z=>?_⟩,fun a ha=>(PV.mp ha).elim (h2 a) (g.2 a)⟩;subst z;obtain⟨⟨o,q1⟩,q2⟩:=h1 a ha;rcases gn a hb with z | z
 ·rw[q1]at z;cases z
 ·exact q2 z
theorem E3{f:Dm.FP}{fs:List Dm.FP}{Q:List V->Hp->Prop}(h:BR (f::fs) σ H Q):jA (tDp f) (BR fs) σ H Q:=by
 obtain⟨H0,ρ,xs,ρ',st,e,k⟩:=h;unfold Dm.pAs at e;split at e
 ·cases e
 rename_i x1 ρ1 e1;split at e
 ·cases e
 rename_i xs1 ρ2 e2;cases e;refine⟨H0,ρ,x1,ρ1,st,e1,fun v H1 Hb f1 t1 r1 g1=>⟨H1,ρ1,xs1,_,t1.st,e2,fun vs H2 Hc f2 t2 r2 g2=>?_⟩⟩;obtain⟨m1,m2⟩:=r1.est t1.st t2 g1.2;refine k (v::vs) H2 Hc (f1++f2) (t1.trans t2) (.cons m1 (r2.mono (ai.refl _) (fun a n=>iI.back t1 n) (fun _ _ _ h=>h) fun _ _=>rfl)) (cQ.app (H1:=H1) (Hc:=Hc) g1.1 (fun a ha=>⟨?_,(g1.2 a ha).2⟩) m2 g2 fun a ha=>(r2.fpN a ha).1);obtain⟨_,ys,h⟩:=r1.fpN a ha;exact⟨_,h⟩
theorem JR{fs:List Dm.FP}(h:tDp (Dm.pT fs) σ H Q):IE (BR fs) σ H Q:=by
 obtain⟨H0,ρ,x,ρ',st,e,k⟩:=h;unfold Dm.pT at e;split at e
 ·cases e
 rename_i ps ρ1 e1;split at e
 case isFalse=>cases e
 rename_i hz;cases e;refine⟨H0,ρ,ps,_,st,e1,fun vs H1 Hb fp t1 r1 g1=>⟨by rw[r1.length];exact jK hz,fun a ha=>?_⟩⟩;have g:=aI.mh (o:=HO.tup vs) t1.st.same ha;have t2:=ESt.grow t1.st g;refine k _ H1 _ fp (t1.trans t2) (.t (.inl (t1.stp.gone ha)) au (r1.mono g.s0 (fun _ n=>n) (fun b us _ h=>g.s1 b _ h) fun b hb=>?_)) g1;obtain⟨_,xs,h⟩:=r1.fpN b hb;rw[g.s1 b _ h,h]
end
section
variable{X:Cx}{e:Expr}{es:List Expr}{f:FE}{fp:Dm.FP}{fps:List Dm.FP}{pos:Pos}
theorem p_o(h:DE X e f):DP X e (Dm.pO f):=PE.weak h fun _ _ _=>OC
theorem JS:DPA X [] []:=PA.weak gj fun _ _ _=>JQ
theorem t7(h:DP X e fp)(r:DPA X es fps)(hs:starEach (e::es) X.env=(false,eval e X.env)::starEach es X.env:=by rfl):DPA X (e::es) (fp::fps):=PA.weak (dX h r hs) fun _ _ _=>E3
theorem BS{x1}(h:DPA X es fps):DP X (.Tuple es x1 pos) (Dm.pT fps):=PE.weak (AA h) fun _ _ _=>JR
end
def spP(f:List Dat->Option Dm.Dp):Sp:=fun vs H Q _=>∃H0 ds p,ai H0 H/\aB H0 vs ds/\f ds=some p/\∀v H0' H' fp,aI H0 H H0' H'->a_ (fun a=>H a=none) H0' H' v p fp->fp.Nodup->(∀a∈fp,H0' a=none)->Q v H'
def tDP(g:Dm.FSP):TS:=fun D σ H=>∃H0 ρ p,av H0 H σ ρ/\g ρ=some p/\∀σ' ρ' v H0' H' fp,SSt σ ρ H0 H σ' ρ' H0' H'->a_ (iI σ ρ H) H0' H' v p fp->fp.Nodup->(∀a∈fp,H0' a=none)->D.rt v H'
noncomputable abbrev DQs(X:Cx)(st:List Stmt)(g:Dm.FSP):Prop:=PSs X st (tDP g)
section
variable{D:Ends}{σ:L2.St}{H:Hp}
section
variable{vs:List V}{ds:List Dat}{g:Dm.FSP}{n m:Nat}{N:List Str}{Q:VK}{E:XK}
theorem OD{f:Dm.FP}(h:tDP (Dm.qR f) D σ H):Ai (tDp f) D σ H:=by
 obtain⟨H0,ρ,p,st,e,k⟩:=h;unfold Dm.qR at e;split at e
 ·cases e
 rename_i p' ρ1 e1;cases e;exact⟨H0,ρ,_,ρ1,st,e1,fun v H0' H' fp t r g=>k σ ρ1 v H0' H' fp t.sst r g.1 fun a ha=>(g.2 a ha).1⟩
theorem JT{s:FS}(h:tDP (Dm.eZ s g) D σ H):gi (tDS s) (tDP g) D σ H:=by
 obtain⟨H0,ρ,p,st,e,k⟩:=h;unfold Dm.eZ at e;split at e
 case h_2=>cases e
 rename_i ρ1 e1;refine⟨H0,ρ,_,st,e1,fun σ1 H1 Hb t1=>⟨H1,ρ1,p,t1.st,e,fun σ2 ρ2 v H2 Hc fp t2 r nd n=>k σ2 ρ2 v H2 Hc fp (t1.trans t2) ?_ nd n⟩⟩;exact r.mono (ai.refl _) (fun a z=>z.elim (fun z=>.inl (t1.stp.gone z)) fun z=>(t1.own a z).elim .inr .inl) (fun _ _ _ h=>h) fun _ _=>rfl
theorem jT{m i:Nat}{c:Dm.Cell}(h:(ds.map Dm.Cell.sh++gV m .un)[i]?=some c):(∃d,c=.sh d/\ds[i]?=some d)\/c=.un:=by
 by_cases hi:i<ds.length
 ·rw[Pq (by simpa using hi),Py]at h;cases q:ds[i]? with
  |none=>rw[q]at h;cases h
  |some y=>rw[q]at h;cases h;exact .inl ⟨y,rfl,rfl⟩
 ·rw[P5 (by simpa using hi),Qi]at h;split at h<;>cases h
  exact .inr rfl
theorem t8{H0 H:Hp}(hm:N.length=n+m)(hn:ds.length=n)(s:ai H0 H)(rs:aB H0 vs ds) :
  av H0 H (start N vs) (ds.map Dm.Cell.sh++gV m .un)/\∀a,¬ah (start N vs) (ds.map Dm.Cell.sh++gV m .un) a:=by
 have hl:=rs.length;refine⟨⟨s,?_,fun i d h=>?_,fun i d h=>?_,fun i j d e a h1 h2 _ _=>?_⟩,fun a ⟨i,d,h1,_⟩=>?_⟩
 ·unfold L2.start;simp only[Pr,Pg,Qz]
  lia
 ·rcases jT h with⟨d',z,q⟩ | z
  ·cases z;obtain⟨v,hv,r⟩:=rs.get q;have hi:i<vs.length:=(Ph.mp hv).1;refine⟨v,?_,r⟩;unfold L2.start;rw[Pq (by simpa using hi),Py,hv];rfl
  ·cases z
 ·rcases jT h with⟨d',z,q⟩ | z<;>cases z
 ·rcases jT h1 with⟨d',z,q⟩ | z<;>cases z
 ·rcases jT h1 with⟨d',z,q⟩ | z<;>cases z
theorem fP{H:Hp}(h:spP (Dm.fnP n m g) vs H Q E):vs.length=n:=by
 obtain⟨H0,ds,z,s,rs,e,k⟩:=h;unfold Dm.fnP at e;split at e
 ·rename_i hl;rw[rs.length];exact hl
 ·cases e
theorem nH(hm:N.length=n+m)(h:spP (Dm.fnP n m g) vs H Q E) :
  tDP g { nx:=fun _ H'=>Q .non H',rt:=Q } (start N vs) H:=by
 obtain⟨H0,ds,p,s,rs,e,k⟩:=h;unfold Dm.fnP at e;split at e
 case isFalse=>cases e
 rename_i hl;obtain⟨st,no⟩:=t8 hm hl s rs;refine⟨H0,_,p,st,e,fun σ' ρ' v H0' H' fp t r nd n=>k v H0' H' fp ⟨t.stp.s0,fun a o e=>t.stp.s1 a o e (no a),fun a o e=>(t.stp.s2 a o e).imp id fun q=>q.elim id fun z=>absurd z (no a),t.st.same⟩ ?_ nd n⟩;exact r.mono (ai.refl _) (fun a z=>z.elim id fun z=>absurd z (no a)) (fun _ _ _ h=>h) fun _ _=>rfl
end
end
section
variable{X:Cx}{e:Expr}{st:Stmt}{BZ:List Stmt}{fp:Dm.FP}{fs:FS}{g:Dm.FSP}{pos:Pos}
theorem q_r(h:DP X e fp):DQs X [.Return (some e) pos] (Dm.qR fp):=fk (PS.weak (qS h) fun _ _ _=>OD)
theorem eL(h1:DS X st fs)(h2:DQs X BZ g):DQs X (st::BZ) (Dm.eZ fs g):=PSs.weak (bf h1 h2) fun _ _ _=>JT
end
theorem av.rV{H0 H:Hp}{σ:L2.St}{ρ:Dm.Env}(st:av H0 H σ ρ)(j:Nat)(v:Option V):av H0 H (σ.set j v) (ρ.set j .un)/\∀a,ah (σ.set j v) (ρ.set j .un) a->ah σ ρ a:=by
 refine⟨⟨st.same,by rw[P4,P4];exact st.len,fun i d h=>?_,fun i d h=>?_,fun i i' d d' a h1 h2 h3 h4=>?_⟩,fun a ⟨i,d,h1,h2⟩=>?_⟩
 ·rcases aJ h with⟨_,z⟩ | ⟨hij,h⟩
  ·cases z
  ·obtain⟨v,q,r⟩:=st.sh i d h;exact⟨v,by rw[Dk (Ne.symm hij)];exact q,r⟩
 ·rcases aJ h with⟨_,z⟩ | ⟨hij,h⟩
  ·cases z
  ·obtain⟨v,q,r⟩:=st.ow i d h;exact⟨v,by rw[Dk (Ne.symm hij)];exact q,r⟩
 ·rcases aJ h1 with⟨_,z⟩ | ⟨q1,h1⟩
  ·cases z
  rcases aJ h2 with⟨_,z⟩ | ⟨q2,h2⟩
  ·cases z
  rw[Dk (Ne.symm q1)]at h3;rw[Dk (Ne.symm q2)]at h4;exact st.dis i i' d d' a h1 h2 h3 h4
 ·rcases aJ h1 with⟨_,z⟩ | ⟨hij,h1⟩
  ·cases z
  ·rw[Dk (Ne.symm hij)]at h2;exact⟨i,d,h1,h2⟩
structure MS(j:Nat)(σs:L2.St)(ρs:Dm.Env)(H0s Hs:Hp)(σ:L2.St)(ρ:Dm.Env)(H0 H:Hp)(p:Dm.Dp):Prop where
 st:av H0 H σ ρ
 stp:Stp (ah σs ρs) H0s Hs H0 H
 own:∀a,ah σ ρ a->ah σs ρs a\/Hs a=none
 fx:σ[0]?=σs[0]?
 ex:∃v fp,σ[j]?=some (some v)/\a_ (fun a=>Hs a=none) H0 H v p fp/\cQ σ ρ H0 fp
section
variable{j:Nat}{σs:L2.St}{ρs:Dm.Env}{H0s Hs:Hp}{σ:L2.St}{ρ ρ':Dm.Env}{H0 H H0' H':Hp}{p:Dm.Dp}
theorem MS.sst(n:MS j σs ρs H0s Hs σ ρ H0 H p):SSt σs ρs H0s Hs σ ρ H0 H:=⟨n.st,n.stp,n.own,n.fx⟩
theorem MS.est(n:MS j σs ρs H0s Hs σ ρ H0 H p)(t:ESt σ ρ H0 H ρ' H0' H'):MS j σs ρs H0s Hs σ ρ' H0' H' p:=by obtain⟨v,fp,h1,h2,h3⟩:=n.ex;obtain⟨m1,m2⟩:=h2.est n.st t h3.2;exact⟨t.st,n.stp.trans t.stp n.own,fun a z=>n.own a (t.own a z),n.fx,v,fp,h1,m1,h3.1,m2⟩
theorem MS.grow(n:MS j σs ρs H0s Hs σ ρ H0 H p)(g:aI H0 H H0' H'):MS j σs ρs H0s Hs σ ρ H0' H' p:=n.est (.grow n.st g)
open Classical in
noncomputable def bor(H0 H:Hp)(N:Addr->Prop):Hp:=fun a=>match H0 a with
 |some o=>some o
 |none=>if N a then H a else none
theorem cV{N:Addr->Prop}:ai H0 (bor H0 H N):=fun a o e=>by unfold bor;rw[e]
theorem g7{N:Addr->Prop}(s:ai H0 H):ai (bor H0 H N) H:=fun a o e=>by
 unfold bor at e;split at e
 ·rename_i q;cases e;exact s _ _ q
 ·split at e
  ·exact e
  ·cases e
theorem iJ{N:Addr->Prop}(s:ai H0 H){a:Addr}{o:HO}(n:N a)(h:H a=some o):bor H0 H N a=some o:=by
 unfold bor;split
 ·rename_i o' q;rw[<- h];exact(s _ _ q).symm
 ·rw[if_pos n];exact h
def Look(Hs:Hp)(σ:L2.St)(ρ:Dm.Env)(a:Addr):Prop:=Hs a=none\/ah σ ρ a
theorem iK{j:Nat}{σ:L2.St}{ρ:Dm.Env}{p:Dm.Dp}{a:Addr}:¬ah σ (Dm.see j ρ p) a:=fun⟨i,d,h1,_⟩=>by
 unfold Dm.see Dm.yb at h1;rw[Py]at h1;cases q:(ρ.set j (.sh p.dat))[i]? with
 |none=>rw[q]at h1;cases h1
 |some c=>rw[q]at h1;cases c<;>cases h1
theorem MS.see(n:MS j σs ρs H0s Hs σ ρ H0 H p):av (bor H0 H (Look Hs σ ρ)) H σ (Dm.see j ρ p):=by
 obtain⟨v,fp,h1,h2,h3⟩:=n.ex;refine⟨g7 n.st.same,by unfold Dm.see Dm.yb;rw[Pg,P4];exact n.st.len,fun i d h=>?_,fun i d h=>?_,fun i i' d d' a z1 z2 z3 z4=>?_⟩
 ·unfold Dm.see Dm.yb at h;rw[Py]at h;cases q:(ρ.set j (.sh p.dat))[i]? with
  |none=>rw[q]at h;cases h
  |some c=>
   rw[q]at h;rcases aJ q with⟨rfl,rfl⟩ | ⟨_,q⟩
   ·cases h;exact⟨v,h1,h2.rep cV fun a o z w=>iJ n.st.same (.inl z) w⟩
   ·cases c with
    |un=>cases h
    |sh d'=>cases h;obtain⟨u,w1,w2⟩:=n.st.sh i d q;exact⟨u,w1,w2.mono cV⟩
    |ow d'=>
     cases h;obtain⟨a,w1,w2,w3⟩:=n.st.ow i d q;have lk:Look Hs σ ρ a:=.inr ⟨i,d,q,w1⟩;refine⟨_,w1,?_⟩;cases d with
     |lst ds=>obtain⟨xs,y,rs⟩:=w3;exact .lst (.inl (iJ n.st.same lk y)) (rs.mono cV)
     |dct ks ds=>obtain⟨xs,y,k,rs⟩:=w3;exact .dct (iJ n.st.same lk y) k (rs.mono cV)
     |dcp ks ds=>obtain⟨xs,y,k,rs⟩:=w3;exact .dcp (iJ n.st.same lk y) (k.mono cV) (rs.mono cV)
     |_=>exact w3.elim
 ·exact(iK (σ:=gV (i+1) (some (V.ref 0))) (a:=0) ⟨i,d,h,by rw[Qi,if_pos (R0 i)]⟩).elim
 ·exact(iK ⟨i,d,z1,z3⟩).elim
theorem MS.seen(n:MS j σs ρs H0s Hs σ ρ H0 H p){Hb:Hp}(t:ESt σ (Dm.see j ρ p) Hb H ρ' H0' H'):aI H0 H H0 H':=
 ⟨ai.refl _,fun a o e=>t.stp.s1 a o e iK,fun a o e=>.inr e,n.st.same.trans fun a o e=>t.stp.s1 a o e iK⟩
end
def tDM(j:Nat)(g:Dm.FM):TS:=fun D σ H=>∃σs ρs H0s Hs H0 ρ p o,MS j σs ρs H0s Hs σ ρ H0 H p/\g ρ p=some o/\lI D σs ρs H0s Hs o
noncomputable abbrev DMs(X:Cx)(j:Nat)(st:List Stmt)(g:Dm.FM):Prop:=PSs X st (tDM j g)
section
variable{D:Ends}{σ:L2.St}{H:Hp}{j:Nat}
theorem MA{t:FT}{fs:FS}{g:Dm.FM}(h:tDM j (Dm.mIf j t fs g) D σ H):gi (yV (tDT t) (tDS fs) pV) (tDM j g) D σ H:=by
 obtain⟨σs,ρs,H0s,Hs,H0,ρ,p,o,n,e,k⟩:=h;unfold Dm.mIf at e;split at e
 ·cases e
 ·rename_i ρ1 e1;refine⟨_,_,true,ρ1,n.see,e1,fun H1 Hb t1=>?_⟩;dsimp only;rw[if_pos rfl];have n1:=n.grow (n.seen t1);have k1:=k.pre n1.sst;split at e
  ·cases e
  ·rename_i hn;refine⟨H0,ρ,o,n1.st,e,?_⟩;cases o with
   |nx ρ'=>exact(hn ρ' e).elim
   |bk ρ'=>exact k1
   |ct ρ'=>exact k1
   |ret z ρ'=>exact k1
 ·rename_i ρ1 e1;refine⟨_,_,false,ρ1,n.see,e1,fun H1 Hb t1=>?_⟩;dsimp only;rw[if_neg P0];exact⟨σs,ρs,H0s,Hs,H0,ρ,p,o,n.grow (n.seen t1),e,k⟩
theorem MS.wr{σs:L2.St}{ρs:Dm.Env}{H0s Hs:Hp}{ρ:Dm.Env}{H0:Hp}{p:Dm.Dp}(n:MS j σs ρs H0s Hs σ ρ H0 H p){a:Addr}(h1:Hs a=none)(h2:H0 a=none)(h3:¬ah σ ρ a)(o:HO):SSt σs ρs H0s Hs σ ρ H0 (upd H a o):=
 ⟨n.st.aside h2 h3,n.stp.aside h1,n.own,n.fx⟩
theorem JU{K:Pf}{i:Int}{gs:FS}(h:tDM j (Dm.zH i gs) D σ H):gi (ir (En K "list" rz (tOp (vK K) (eO j) (tC (.int i))))) (tDS gs) D σ H:=by
 obtain⟨σs,ρs,H0s,Hs,H0,ρ,p,o,n,e,k⟩:=h;unfold Dm.zH at e;split at e
 case h_2=>cases e
 rename_i ps;split at e
 ·cases e
 rename_i m em;split at e
 case h_2=>cases e
 rename_i rows hi;obtain⟨v,fp,h1,h2,h3⟩:=n.ex;cases h2 with
 |t hN ha rs=>
  rename_i a vs;obtain⟨u,f,hu,ru,hf⟩:=rs.get hi;cases ru with
  |l hNb hb rb=>
   rename_i b us fb;obtain⟨z1,z2⟩:=h3.2 b (hf b Ds);refine⟨_,h1,a,vs,i,.ref b,rfl,rfl,.of ha,?_,.inl ⟨rfl,us,.inl (.inl hb)⟩,b,us,rfl,rfl,hb,?_⟩
   ·show (L2.ixN vs.length i).bind (fun j=>vs[j]?)=_;rw[<- fE,rs.length,em];exact hu
   ·have t:=n.wr hNb z1 z2 (.lst []);exact⟨H0,ρ,o,t.st,e,k.pre t⟩
end
section
variable{X:Cx}{e c:Expr}{BZ:List Stmt}{fs gs:FS}{g:Dm.FM}{pos:Pos}{j:Nat}
theorem MB{t:FT}{x:List Stmt}(ht:DT X c t)(ha:DSs X x fs)(hr:DMs X j BZ g):DMs X j (.If c x [] pos::BZ) (Dm.mIf j t fs g):=PSs.weak (bf (sX ht ha jv) hr) fun _ _ _=>MA
theorem MC{x:Str}{px sp ap cp ip:Pos}{i:Int}{jc}(hr:DSs X BZ gs)(hi:X.N[j]?=some x:=by rfl)(hv:Vis X.env.scope x:=by trivial)(hd:(x == ("__debug__" : Str))=false:=by decide)
  (G3:(x == ("__classdict__" : Str))=false:=by decide) (Ct:b9 (.Constant (.int i) jc ip):=by intro _ _;rfl) (Fd:attributeBase (.Subscript (.Name x px) (.Constant (.int i) jc ip) sp) "clear" X.env (eval (.Subscript (.Name x px) (.Constant (.int i) jc ip) sp) X.env)=eval (.Subscript (.Name x px) (.Constant (.int i) jc ip) sp) X.env:=by rfl)
  (Cu:(ap.endLine == cp.line)=true:=by rfl) (hsw:swapsWith (.Call (.Attribute (.Subscript (.Name x px) (.Constant (.int i) jc ip) sp) "clear" ap) [] [] cp) none pos.line X.env=pure false:=by rfl) :
  DMs X j (.Expr (.Call (.Attribute (.Subscript (.Name x px) (.Constant (.int i) jc ip) sp) "clear" ap) [] [] cp) pos::BZ) (Dm.zH i gs):=
 PSs.weak (bf (dj (vM Qv Ru Rv mU (iu ku (bM hi hv hd G3) kj Ct) Fd Cu) hsw) hr) fun _ _ _=>JU
end
end Br
namespace Dm
mutual
noncomputable def mj:Dat->Bool
 |.tup xs=>nI xs
 |.lst _=>false
 |.dct _ _=>false
 |.dcp _ _=>false
 |.exc _=>false
 |.dW _ _=>false
 |_=>true
noncomputable def nI:List Dat->Bool
 |[]=>true
 |x::r=>mj x&&nI r
end
mutual
noncomputable def aK:Dp->Bool
 |.s d=>mj d
 |.l xs=>aV xs
 |.t xs=>aV xs
noncomputable def aV:List Dp->Bool
 |[]=>true
 |x::r=>aK x&&aV r
end
noncomputable def gI(bd:FB)(el:FP):List Dat->Env->List Dp->Option (List Dp×Env)
 |[],ρ,zL=>some (zL,ρ)
 |d::r,ρ,zL=>match bd d ρ with
  |none=>none
  |some ρ1=>match el ρ1 with
   |none=>none
   |some (p,ρ2)=>gI bd el r ρ2 (zL++[p])
noncomputable def iz(it:FI)(own:Nat)(bd:FB)(el:FP):FP:=fun ρ=>match it ρ with
 |none=>none
 | some (ds,ρ1)=>if ds.length≤SZ then (match gI bd el ds (ρ1++gV own .un) [] with
  |none=>none
  |some (ps,ρ2)=>some (.l ps,ρ2.take ρ1.length)) else none
inductive OM where
 |nx (ρ:Env) (p:Dp)
 |rt (d:Dat) (ρ:Env)
noncomputable abbrev FC:=Env->Dp->Option OM
noncomputable def cNx:FC:=fun ρ p=>some (.nx ρ p)
noncomputable def t_(s u:FC):FC:=fun ρ p=>match s ρ p with
 |some (.nx ρ1 p1)=>u ρ1 p1
 |o=>o
noncomputable def cIf(j:Nat)(t:FT)(a b:FC):FC:=fun ρ p=>match t (see j ρ p) with
 |none=>none
 |some (true,_)=>a ρ p
 |some (false,_)=>b ρ p
noncomputable def cRt(j:Nat)(e:FE):FC:=fun ρ p=>match e (see j ρ p) with
 |some (.val d,_)=>if cZ d then none else some (.rt d ρ)
 |_=>none
noncomputable def iA(bd:FB)(body:FC):List Dat->FC
 |[],ρ,p=>some (.nx ρ p)
 |d::q,ρ,p=>match bd d ρ with
  |none=>none
  |some ρ1=>match body ρ1 p with
   |some (.nx ρ2 p2)=>iA bd body q ρ2 p2
   |o=>o
noncomputable def ua(it:FI)(bd:FB)(body:FC):FC:=fun ρ p=>match it ρ with
 |none=>none
 |some (ds,ρ1)=>iA bd body ds ρ1 p
noncomputable def nJ(j i:Nat)(f:FP):FC:=fun ρ p=>if i=0\/i=j then none else match f (see j ρ p) with
 |none=>none
 |some (q,_)=>if aK q then some (.nx (ρ.set i (.sh q.dat)) p) else none
noncomputable def nK(rows:List Dp)(k:Int)(d:Dat):Option (List Dp):=match ixN rows.length k with
 |none=>none
 |some m=>match rows[m]? with
  |some (.l items)=>if items.length<SZ then some (rows.set m (.l (items++[.s d]))) else none
  |_=>none
noncomputable def mq(s:FC)(g:FM):FM:=fun ρ p=>match s ρ p with
 |some (.nx ρ1 p1)=>g ρ1 p1
 |some (.rt d ρ1)=>some (.ret (.val d) ρ1)
 |none=>none
end Dm
namespace Br
open PySem PySem.Spec PyProof.Rows L2
section
variable{is:List Nat}{bd:Dm.FB}{H0 H1:Hp}{σ:L2.St}{g:TG}
theorem aA.snoc{N:Addr->Prop}{H0 H:Hp}{w:V}{q:Dm.Dp}{f:List Addr}(r:a_ N H0 H w q f):∀{vs:List V} {ps:List Dm.Dp} {fp:List Addr},aA N H0 H vs ps fp->aA N H0 H (vs++[w]) (ps++[q]) (fp++f)
 |_,_,_,.nil=>by have:=aA.cons r (aA.nil (N:=N) (H0:=H0) (H:=H));rw[Qe]at this;exact this
 |_,_,_,.cons h t=>by have:=aA.cons h (aA.snoc r t);rw[<- QO]at this;exact this
theorem BU{own:Nat}{el:Dm.FP}{Q:VK}{H00 Hb:Hp}{ρ1 ρ2:Dm.Env}{ds:List Dat}{ps:List Dm.Dp}{J:It}(hb:BD is g bd)(hl:∀i∈is,σ.length<=i)
  (st1:av H00 Hb σ ρ1) (jw:JW J H00 ds) (hsz:ds.length<=Dm.SZ) (e2:Dm.gI bd el ds (ρ1++gV own .un) []=some (ps,ρ2)) (D:Addr) (hD:Hb D=none)
  (k:∀H0' H' fp,ESt σ ρ1 H00 Hb (ρ2.take ρ1.length) H0' H'->a_ (iI σ ρ1 Hb) H0' H' (.ref D) (.l ps) fp->cQ σ (ρ2.take ρ1.length) H0' fp->Q (.ref D) H') :
  ∃W:Nat->Nat->L2.St->Hp->Prop,(∃m,W 0 m (σ++gV own none) (upd Hb D (.lst [])))/\∀i m σ' H',W i m σ' H' ->
  (J.stop i H'∧Q (.ref D) H')∨(J.go i H'∧∀ x H2,J.yld i H' x H2→g x σ' H2 fun σ2 H3=>vU σ2 H3 fun b H4=>if b=true
   then tDp el σ2 H4 fun y H5=>∃zL,H5 D=some (.lst zL)/\zL.length<sizeLine/\∃m',m'<m/\W (i+1) m' σ2 (upd H5 D (.lst (zL++[y])))
   else ∃m',m'<m/\W (i+1) m' σ2 H4):=by
 have noD:¬ah σ ρ1 D:=st1.bx hD;refine ⟨fun i m σ' H'=>∃ (H0c:Hp) (ρc:Dm.Env) (pa:List Dm.Dp) (fp:List Addr),av H0c H' σ' ρc∧ai H00 H0c∧m=ds.length-i∧i≤ds.length∧Dm.gI bd el (ds.drop i) ρc pa=some (ps,ρ2) ∧
  a_ (iI σ ρ1 Hb) H0c H' (.ref D) (.l pa) fp/\pa.length=i/\cQ σ' ρc H0c fp/\Stp (ah σ ρ1) H00 Hb H0c H'/\(∀j,j<σ.length->σ'[j]?=σ[j]?)/\(∀a,ah σ' ρc a->ah σ ρ1 a),
  ⟨ds.length,H00,ρ1++gV own .un,[],[D],(st1.aside (st1.same.free hD) noD).ext own,ai.refl _,by simp,Qd _,by simpa using e2,.l (.inl hD) au .nil,rfl,⟨by simp,fun a ha=>?_⟩,(Stp.refl _ _ _).aside hD,
   fun j hj=>Pq hj,fun a z=>eX st1 z⟩,?_⟩
 ·rw[PN.mp ha];exact⟨st1.same.free hD,fun z=>noD (eX st1 z)⟩
 rintro i m σ' H' ⟨H0c,ρc,pa,fp,sc,s00,rfl,hi,ec,ra,Ct,fr,sp,hσ,ho⟩;obtain⟨js,jg⟩:=jw H0c H' s00 sc.same;by_cases J9:i<ds.length
 ·have hd:ds[i]?=some ds[i]:=by simp[J9]
  obtain⟨g1,g2⟩:=jg i ds[i] hd;rw[Qk J9]at ec;unfold Dm.gI at ec;refine .inr ⟨g1,fun y H2 yy=>?_⟩;obtain⟨H0',gr,rx⟩:=g2 y H2 yy;split at ec
  ·cases ec
  rename_i ρ3 e3;split at ec
  ·cases ec
  rename_i p5 ρ5 e5;have t2:=ESt.grow sc gr;obtain⟨ra2,fr2⟩:=ra.est sc t2 fr.2;refine hb H0' H2 σ' ρc ρ3 y ds[i] _ t2.st rx e3 fun σ3 st3 o3 k3 d3 _=>?_;unfold vU;dsimp only;rw[if_pos rfl];refine⟨H0',ρ3,p5,ρ5,st3,e5,fun v H5 Hc f5 t5 r5 g5=>?_⟩;have fr3:∀a∈fp,H0' a=none/\¬ah σ3 ρ3 a:=fun a ha=>⟨(fr2 a ha).1,fun z=>(fr2 a ha).2 (o3 a z)⟩;obtain⟨ra5,fr5⟩:=ra2.est st3 t5 fr3;have sp3:Stp (ah σ ρ1) H00 Hb H0' H2:=sp.trans t2.stp fun a z=>.inl (ho a z);have sp5:Stp (ah σ ρ1) H00 Hb H5 Hc:=sp3.trans t5.stp fun a z=>.inl (ho a (o3 a z));have nw:∀a,iI σ3 ρ3 H2 a->iI σ ρ1 Hb a:=fun a z=>z.elim (fun z=>.inl (sp3.gone z)) fun z=>.inr (ho a (o3 a z));have frA:cQ σ3 ρ5 H5 (fp++f5):=cQ.app (H1:=H0') (Hb:=H2) (Hc:=Hc) fr.1 (fun a ha=>⟨by obtain⟨_,xs,h⟩:=ra2.fpN a ha;exact⟨_,h⟩,(fr3 a ha).2⟩) fr5 g5 fun a ha=>(r5.fpN a ha).1;cases ra5 with
  |l nD hDc rs=>
   rename_i vs fq;obtain⟨z1,z2⟩:=fr5 D Ds;have ndA:=frA.1;rw[QX]at ndA;obtain⟨nd1,nd2⟩:=Pn.mp ndA;refine⟨vs,hDc,?_,ds.length-(i+1),by lia,H5,ρ5,pa++[p5],D::(fq++f5),t5.st.aside z1 z2,(s00.trans gr.s0).trans t5.stp.s0,rfl,J9,ec,?_,by simp[Ct],frA,sp5.aside hD,fun j hj=>(k3 j fun z=>Q3.mpr (hl j z) hj).trans (hσ j hj),fun a z=>ho a (o3 a (t5.own a z))⟩
   ·rw[rs.length,Ct];unfold Dm.SZ at hsz;exact PD (PD J9 hsz) (by decide)
   ·refine .l nD au ?_;have r5':a_ (iI σ ρ1 Hb) H5 Hc v p5 f5:=r5.mono (ai.refl _) nw (fun _ _ _ h=>h) fun _ _=>rfl;refine(rs.snoc r5').mono (ai.refl _) (fun _ n=>n) (fun a us _ h=>?_) fun a ha=>?_
    ·rw[ak fun z=>?_]
     ·exact h
     ·rw[z,hDc]at h;cases h
    ·exact ak fun z=>nd1 (z▸ha)
 ·have e':i=ds.length:=by lia
  subst e';rw[QW]at ec;cases ec;have B3:σ.length<=ρ2.length:=by rw[<- sc.len];refine Q3.mp fun z=>?_;have q:=hσ σ'.length z;rw[Qh (Pj _),Pp z]at q;cases q
  have tk:∀{j:Nat} {c:Dm.Cell},(ρ2.take ρ1.length)[j]?=some c->j<σ.length/\ρ2[j]?=some c:=fun {j c} h=>by
   have hj:j<ρ1.length:=by
    have:=(Ph.mp h).1;rw[P9]at this
    lia
   rw[QM hj]at h;exact⟨by rw[st1.len];exact hj,h⟩
  have own':∀a,ah σ (ρ2.take ρ1.length) a->ah σ' ρ2 a:=fun a ⟨j,d,h1,h2⟩=>by obtain⟨hj,h1⟩:=tk h1;exact⟨j,d,h1,(hσ j hj).trans h2⟩
  refine .inl ⟨js _ (Pj _),k H0c H' fp ⟨⟨sc.same,?_,fun j d h=>?_,fun j d h=>?_,fun j j' d d' a h1 h2 h3 h4=>?_⟩,sp,fun a z=>ho a (own' a z),fun j z=>trivial⟩ ra ⟨fr.1,fun a ha=>⟨(fr.2 a ha).1,fun z=>(fr.2 a ha).2 (own' a z)⟩⟩⟩
  ·rw[P9,<- st1.len];lia
  ·obtain⟨hj,h⟩:=tk h;obtain⟨v,q,r⟩:=sc.sh j d h;exact⟨v,(hσ j hj).symm.trans q,r⟩
  ·obtain⟨hj,h⟩:=tk h;obtain⟨v,q,r⟩:=sc.ow j d h;exact⟨v,(hσ j hj).symm.trans q,r⟩
  ·obtain⟨hj,h1⟩:=tk h1;obtain⟨hj',h2⟩:=tk h2;exact sc.dis j j' d d' a h1 h2 ((hσ j hj).trans h3) ((hσ j' hj').trans h4)
theorem E4{H:Hp}{Q:VK}{fi:Dm.FI}{own:Nat}{el:Dm.FP}(hb:BD is g bd)(hl:∀i∈is,σ.length<=i)(h:tDp (Dm.iz fi own bd el) σ H Q):tLC (tDI fi) own g vU (tDp el) σ H Q:=by
 obtain⟨H0,ρ,x,ρ',st,e,k⟩:=h;unfold Dm.iz at e;split at e
 ·cases e
 rename_i ds ρ1 e1;split at e
 case isFalse=>cases e
 rename_i hsz;split at e
 ·cases e
 rename_i ps ρ2 e2;cases e;refine⟨H0,ρ,ds,ρ1,st,e1,fun J H00 Hb t1 jw D hD=>BU hb hl t1.st jw hsz e2 D hD fun H0' H' fp t2 r2 f2=>k _ H0' H' fp (t1.trans t2) (r2.mono (ai.refl _) (fun a n=>iI.back t1 n) (fun _ _ _ h=>h) fun _ _=>rfl) f2⟩
mutual
theorem Rep.wj(k:∀a vs,H0 a=some (.tup vs)->H1 a=some (.tup vs)):∀{v:V} {d:Dat},Rep H0 v d->Dm.mj d=true->Rep H1 v d
 |_,_,.non,_=>.non
 |_,_,.bl b,_=>.bl b
 |_,_,.int i,_=>.int i
 |_,_,.str x,_=>.str x
 |_,_,.tup h r,e=>.tup (k _ _ h) (aB.wj k r (by unfold Dm.mj at e;exact e))
 |_,_,.lst _ _,e=>by unfold Dm.mj at e;cases e
 |_,_,.dct _ _ _,e=>by unfold Dm.mj at e;cases e
 |_,_,.dcp _ _ _,e=>by unfold Dm.mj at e;cases e
 |_,_,.exc _,e=>by unfold Dm.mj at e;cases e
 |_,_,.dW _ _,e=>by unfold Dm.mj at e;cases e
 |_,_,.fn a,_=>.fn a
theorem aB.wj(k:∀a vs,H0 a=some (.tup vs)->H1 a=some (.tup vs)):∀{vs:List V} {ds:List Dat},aB H0 vs ds->Dm.nI ds=true->aB H1 vs ds
 |_,_,.nil,_=>.nil
 |_,_,.cons h r,e=>by unfold Dm.nI at e;rw[Pz]at e;exact .cons (Rep.wj k h e.1) (aB.wj k r e.2)
end
end
section
variable{X:Cx}{e J8 iter tg:Expr}{es:List Expr}{fs:List FE}{fi:Dm.FI}{fp:Dm.FP}{bd:Dm.FB}{is:List Nat}{scope:Scope}{pos p:Pos}
theorem E5(nm own:List Str)(hg:TGc X nm scope own tg is bd)(hi:DI X tg iter fi)(he:∀cl C s H fp',DP (aU X nm scope own cl C s H fp') J8 fp)
  (hc:X.calm=true:=by rfl) (hk:scope.kind=.function:=by rfl) (hS:jR X.env.scope X.N nm scope=true:=by rfl) (hl:(is.all fun i=>decide (X.N.length<=i))=true:=by rfl) (hs:∀x,foldedSetIterable iter X.env x=pure x:=by intro _;rfl) :
  DP X (.ListComp J8 [⟨tg,iter,[],0⟩] scope pos) (Dm.iz fi own.length bd fp):=by
 obtain⟨g,h1,h2⟩:=hg.ex;intro jV s σ H Q I h;exact rL hc (cu.of hS hk) hi h1 (fun cl C s H fp=>rJ) he hs jV s σ H Q I (E4 h2 (fun i hi=>by rw[I.len];exact ni hl i hi) h)
end
def E6(D:Ends)(j:Nat)(σs:L2.St)(ρs:Dm.Env)(H0s Hs H0:Hp):Dm.OM->Prop
 |.nx ρ' p'=>∀σ' H0' H',MS j σs ρs H0s Hs σ' ρ' H0' H' p'->ai H0 H0'->D.nx σ' H'
 |.rt d ρ'=>∀σ' v H0' H' p',MS j σs ρs H0s Hs σ' ρ' H0' H' p'->Rep H0' v d->D.rt v H'
def tDC(j:Nat)(g:Dm.FC):TS:=fun D σ H=>∃σs ρs H0s Hs H0 ρ p o,MS j σs ρs H0s Hs σ ρ H0 H p/\g ρ p=some o/\E6 D j σs ρs H0s Hs H0 o
theorem E6.up{D:Ends}{j:Nat}{σs:L2.St}{ρs:Dm.Env}{H0s Hs H0 H1:Hp}{o:Dm.OM}(k:E6 D j σs ρs H0s Hs H0 o)(s:ai H0 H1):E6 D j σs ρs H0s Hs H1 o:=by
 cases o with
 |nx ρ' p'=>exact fun σ' H0' H' n q=>k σ' H0' H' n (s.trans q)
 |rt d ρ'=>exact k
noncomputable abbrev DC(X:Cx)(j:Nat)(st:Stmt)(g:Dm.FC):Prop:=PS X st (tDC j g)
noncomputable abbrev DCs(X:Cx)(j:Nat)(st:List Stmt)(g:Dm.FC):Prop:=PSs X st (tDC j g)
section
variable{j:Nat}{σs:L2.St}{ρs:Dm.Env}{H0s Hs:Hp}{σ:L2.St}{ρ ρ':Dm.Env}{H0 H H0' H':Hp}{p q:Dm.Dp}
theorem MS.bind(n:MS j σs ρs H0s Hs σ ρ H0 H p){σ':L2.St}{ρ':Dm.Env}(st:av H0 H σ' ρ')(o:∀a,ah σ' ρ' a->ah σ ρ a)(hj:σ'[j]?=σ[j]?)(h0:σ'[0]?=σ[0]?):MS j σs ρs H0s Hs σ' ρ' H0 H p:=by obtain⟨v,fp,h1,h2,h3⟩:=n.ex;exact⟨st,n.stp,fun a z=>n.own a (o a z),h0.trans n.fx,v,fp,hj.trans h1,h2,h3.1,fun a ha=>⟨(h3.2 a ha).1,fun z=>(h3.2 a ha).2 (o a z)⟩⟩
theorem MS.set(n:MS j σs ρs H0s Hs σ ρ H0 H p){i:Nat}{v:V}{d:Dat}(hi:i≠0)(hj:i≠j)(r:Rep H0 v d):MS j σs ρs H0s Hs (σ.set i (some v)) (ρ.set i (.sh d)) H0 H p:=
 n.bind (n.st.rE r) (fun _ z=>dm z) (Dk hj) (Dk hi)
open Classical in
noncomputable def cpy(Hs H0 H H0' H':Hp):Hp:=fun a=>match H0 a with
 |some o=>some o
 |none=>if H a=none then H' a else match H0' a with
  |some (.tup vs)=>if Hs a=none then some (.tup vs) else none
  |_=>none
theorem dR:ai H0 (cpy Hs H0 H H0' H'):=fun a o e=>by unfold cpy;rw[e]
theorem g8(s:ai H0 H){a:Addr}(h:H a=none):cpy Hs H0 H H0' H' a=H' a:=by unfold cpy;rw[s.free h];dsimp only;rw[if_pos h]
theorem cH{a:Addr}{o:HO}(e:cpy Hs H0 H H0' H' a=some o):H0 a=some o\/(H a=none/\H' a=some o)\/(Hs a=none/\H0' a=some o/\∃vs,o=.tup vs):=by
 unfold cpy at e;split at e
 ·rename_i q;cases e;exact .inl q
 ·split at e
  ·rename_i h;exact .inr (.inl ⟨h,e⟩)
  ·split at e
   ·rename_i vs q;split at e
    ·rename_i h;cases e;exact .inr (.inr ⟨h,q,vs,rfl⟩)
    ·cases e
   ·cases e
mutual
theorem a_.copy{N:Addr->Prop}(kn:∀a o,N a->H' a=some o->cpy Hs H0 H H0' H' a=some o)(kt:∀a vs,H0' a=some (.tup vs)->cpy Hs H0 H H0' H' a=some (.tup vs)):∀{v:V} {p:Dm.Dp} {fp:List Addr},a_ N H0' H' v p fp->Dm.aK p=true->Rep (cpy Hs H0 H H0' H') v p.dat
 |_,_,_,.s r,e=>by unfold Dm.aK at e;exact Rep.wj kt r e
 |_,_,_,.l n h r,e=>.lst (.inl (kn _ _ n h)) (aA.copy kn kt r (by unfold Dm.aK at e;exact e))
 |_,_,_,.t n h r,e=>.tup (kn _ _ n h) (aA.copy kn kt r (by unfold Dm.aK at e;exact e))
theorem aA.copy{N:Addr->Prop}(kn:∀a o,N a->H' a=some o->cpy Hs H0 H H0' H' a=some o)(kt:∀a vs,H0' a=some (.tup vs)->cpy Hs H0 H H0' H' a=some (.tup vs)):∀{vs:List V} {ps:List Dm.Dp} {fp:List Addr},aA N H0' H' vs ps fp->Dm.aV ps=true->aB (cpy Hs H0 H H0' H') vs (Dm.Dp.nG ps)
 |_,_,_,.nil,_=>.nil
 |_,_,_,.cons h r,e=>by unfold Dm.aV at e;rw[Pz]at e;exact .cons (a_.copy kn kt h e.1) (aA.copy kn kt r e.2)
end
theorem MS.keep(n:MS j σs ρs H0s Hs σ ρ H0 H p)(t:ESt σ (Dm.see j ρ p) (bor H0 H (Look Hs σ ρ)) H ρ' H0' H'){v:V}{fq:List Addr}(r:a_ (iI σ (Dm.see j ρ p) H) H0' H' v q fq)(e:Dm.aK q=true) :
  MS j σs ρs H0s Hs σ ρ (cpy Hs H0 H H0' H') H' p/\Rep (cpy Hs H0 H H0' H') v q.dat:=by
 have up:ai H H':=fun a o e=>t.stp.s1 a o e iK;have lst:∀{a:Addr} {o:HO},H0 a=none->H a=some o->(∀vs,o≠.tup vs)->cpy Hs H0 H H0' H' a=none:=fun {a o} h0 h nt=>by
  cases z:cpy Hs H0 H H0' H' a with
  |none=>rfl
  |some u=>
   rcases cH z with y | ⟨y,_⟩ | ⟨_,y,vs,rfl⟩
   ·rw[h0]at y;cases y
   ·rw[h]at y;cases y
   ·have:=t.st.same _ _ y;rw[up _ _ h]at this;cases this;exact absurd rfl (nt vs)
 obtain⟨w,fp,h1,h2,h3⟩:=n.ex;have stp:Stp (ah σs ρs) H0s Hs (cpy Hs H0 H H0' H') H':=by
  refine⟨n.stp.s0.trans dR,fun a o e' no=>up _ _ (n.stp.s1 a o e' no),fun a o e'=>?_,fun a o e'=>?_⟩
  ·rcases cH e' with y | ⟨y,_⟩ | ⟨y,_⟩
   ·exact n.stp.s2 a o y
   ·exact .inl (n.stp.gone y)
   ·exact .inl y
  ·obtain⟨o',q⟩:=n.stp.s3 a o e';exact⟨o',up _ _ q⟩
 refine⟨⟨⟨fun a o e'=>?_,n.st.len,fun i d h=>?_,fun i d h=>?_,n.st.dis⟩,stp,n.own,n.fx,w,fp,h1,h2.mono dR (fun _ z=>z) (fun a vs _ h=>up _ _ h) fun a ha=>?_,h3.1,fun a ha=>⟨?_,(h3.2 a ha).2⟩⟩,?_⟩
 ·rcases cH e' with y | ⟨_,y⟩ | ⟨_,y,_⟩
  ·exact up _ _ (n.st.same _ _ y)
  ·exact y
  ·exact t.st.same _ _ y
 ·obtain⟨u,z,y⟩:=n.st.sh i d h;exact⟨u,z,y.mono dR⟩
 ·obtain⟨a,z,n0,y⟩:=n.st.ow i d h;obtain⟨o,ho⟩:=y.some;refine⟨a,z,lst n0 ho fun vs e'=>?_,y.mono dR ((up _ _ ho).trans ho.symm)⟩;subst e';exact n.st.gH ho ⟨i,d,h,z⟩
 ·obtain⟨_,xs,h⟩:=h2.fpN a ha;rw[up _ _ h,h]
 ·obtain⟨_,xs,h⟩:=h2.fpN a ha;exact lst (h3.2 a ha).1 h fun vs z=>by cases z
 ·refine r.copy (fun a o z h=>?_) (fun a vs h=>?_) e
  ·rcases z with z | z
   ·rw[g8 n.st.same z];exact h
   ·exact(iK z).elim
  ·rcases t.stp.s2 a _ h with z | z | z
   ·rw[g8 n.st.same z];exact t.st.same _ _ h
   ·have hH:=g7 n.st.same _ _ z;unfold bor at z;split at z
    ·rename_i o q;cases z;exact dR _ _ q
    ·rename_i q;split at z
     ·rename_i lk;rcases lk with lk | lk
      ·unfold cpy;rw[q];dsimp only;rw[if_neg (by rw[hH];simp),h];dsimp only;rw[if_pos lk]
      ·exact(n.st.gH hH lk).elim
     ·cases z
   ·exact(iK z).elim
end
section
variable{D:Ends}{σ:L2.St}{H:Hp}{j:Nat}
theorem MD(h:tDC j Dm.cNx D σ H):pV D σ H:=by obtain⟨σs,ρs,H0s,Hs,H0,ρ,p,o,n,e,k⟩:=h;cases e;exact k σ H0 H n (ai.refl _)
theorem JV{s u:Dm.FC}(h:tDC j (Dm.t_ s u) D σ H):gi (tDC j s) (tDC j u) D σ H:=by
 obtain⟨σs,ρs,H0s,Hs,H0,ρ,p,o,n,e,k⟩:=h;unfold Dm.t_ at e;split at e
 ·rename_i ρ1 p1 e1;exact⟨σs,ρs,H0s,Hs,H0,ρ,p,_,n,e1,fun σ' H0' H' n' s1=>⟨σs,ρs,H0s,Hs,H0',ρ1,p1,o,n',e,k.up s1⟩⟩
 ·rename_i hn;cases o with
  |nx ρ1 p1=>exact(hn _ _ e).elim
  |rt d ρ1=>exact⟨σs,ρs,H0s,Hs,H0,ρ,p,_,n,e,k⟩
theorem ME{t:FT}{a b:Dm.FC}(h:tDC j (Dm.cIf j t a b) D σ H):yV (tDT t) (tDC j a) (tDC j b) D σ H:=by
 obtain⟨σs,ρs,H0s,Hs,H0,ρ,p,o,n,e,k⟩:=h;unfold Dm.cIf at e;split at e
 ·cases e
 ·rename_i ρ1 e1;refine⟨_,_,true,ρ1,n.see,e1,fun H1 Hb t1=>?_⟩;dsimp only;rw[if_pos rfl];exact⟨σs,ρs,H0s,Hs,H0,ρ,p,o,n.grow (n.seen t1),e,k⟩
 ·rename_i ρ1 e1;refine⟨_,_,false,ρ1,n.see,e1,fun H1 Hb t1=>?_⟩;dsimp only;rw[if_neg P0];exact⟨σs,ρs,H0s,Hs,H0,ρ,p,o,n.grow (n.seen t1),e,k⟩
theorem MF{f:FE}(h:tDC j (Dm.cRt j f) D σ H):Ai (tD f) D σ H:=by
 obtain⟨σs,ρs,H0s,Hs,H0,ρ,p,o,n,e,k⟩:=h;unfold Dm.cRt at e;split at e
 case h_2=>cases e
 rename_i d ρ1 e1;split at e
 ·cases e
 rename_i nb;cases e;exact⟨_,_,_,ρ1,n.see,e1,fun v H1 Hb t1 r1=>k σ v H0 Hb p (n.grow (n.seen t1)) (Rep.plain r1 (by simpa using nb))⟩
theorem E7{i:Nat}{f:Dm.FP}(h:tDC j (Dm.nJ j i f) D σ H):jx (tDp f) (dH i) D σ H:=by
 obtain⟨σs,ρs,H0s,Hs,H0,ρ,p,o,n,e,k⟩:=h;unfold Dm.nJ at e;split at e
 ·cases e
 rename_i hij;split at e
 ·cases e
 rename_i q ρ1 e1;split at e
 case isFalse=>cases e
 rename_i lk;cases e;refine⟨_,_,_,ρ1,n.see,e1,fun v H1 Hb fq t1 r1 g1=>?_⟩;obtain⟨n1,r⟩:=n.keep t1 r1 lk;exact k _ _ Hb (n1.set (fun z=>hij (.inl z)) (fun z=>hij (.inr z)) r) dR
theorem JX{fi:Dm.FI}{bd:Dm.FB}{g:TG}{body:Dm.FC}{is:List Nat}(hb:BD is g bd)(hj:j∉is)(h:tDC j (Dm.ua fi bd body) D σ H):Ar (tDI fi) g (tDC j body) D σ H:=by
 obtain⟨σs,ρs,H0s,Hs,H0,ρ,p,o,n,e,k⟩:=h;unfold Dm.ua at e;split at e
 ·cases e
 rename_i ys ρ1 e1;refine⟨H0,ρ,ys,ρ1,n.st,e1,fun J H00 Hb t1 jw=>?_⟩;have k:=k.up t1.stp.s0;refine ⟨fun i m σ H=>∃ H0 ρ p,MS j σs ρs H0s Hs σ ρ H0 H p∧ai H00 H0∧m=ys.length-i∧i≤ys.length∧Dm.iA bd body (ys.drop i) ρ p=some o,
  ⟨ys.length,H00,ρ1,p,n.est t1,ai.refl _,by simp,Qd _,by simpa using e⟩,?_⟩
 rintro i m σ H ⟨H0,ρ,p,n,s00,rfl,hi,e⟩;obtain⟨js,jg⟩:=jw H0 H s00 n.st.same;by_cases J9:i<ys.length
 ·have hd:ys[i]?=some ys[i]:=by simp[J9]
  obtain⟨g1,g2⟩:=jg i ys[i] hd;rw[Qk J9]at e;unfold Dm.iA at e;refine .inr ⟨g1,fun σ' H'=>∃H0 ρ p,MS j σs ρs H0s Hs σ' ρ H0 H' p/\ai H00 H0/\Dm.iA bd body (ys.drop (i+1)) ρ p=some o,?_,fun x H' y=>?_⟩
  ·rintro σ' H' ⟨H0',ρ2,r2,h1,h2,h3⟩;exact⟨ys.length-(i+1),by lia,H0',ρ2,r2,h1,h2,rfl,J9,h3⟩
  ·obtain⟨H0',gr,rx⟩:=g2 x H' y;split at e
   ·cases e
   ·rename_i ρ2 e2;have n2:=n.grow gr;refine hb H0' H' σ ρ ρ2 x ys[i] _ n2.st rx e2 fun σ2 st2 o2 k2 _ f2=>?_;have n3:=n2.bind st2 o2 (k2 j hj) f2;have s3:ai H00 H0':=s00.trans gr.s0;split at e
    ·rename_i ρ3 p3 e3;exact⟨σs,ρs,H0s,Hs,H0',ρ2,p,_,n3,e3,fun σ4 H4 Hd n4 s4=>⟨H4,ρ3,p3,n4,s3.trans s4,e⟩⟩
    ·rename_i hn;cases o with
     |nx ρ1 p1=>exact(hn _ _ e).elim
     |rt d ρ1=>exact⟨σs,ρs,H0s,Hs,H0',ρ2,p,_,n3,e,k⟩
 ·have e':i=ys.length:=by lia
  subst e';rw[QW]at e;cases e;exact .inl ⟨js _ (Pj _),k σ H0 H n s00⟩
theorem aA.put{N:Addr->Prop}{H0 H:Hp}{items:List Dm.Dp}:∀{vs:List V} {ps:List Dm.Dp} {fp:List Addr} {m:Nat},aA N H0 H vs ps fp->fp.Nodup->ps[m]?=some (.l items) ->
  ∃q xs,vs[m]?=some (.ref q)/\q∈fp/\H q=some (.lst xs)/\xs.length=items.length/\∀w d,Rep H0 w d->aA N H0 (upd H q (.lst (xs++[w]))) vs (ps.set m (.l (items++[.s d]))) fp
 |_,_,_,_,.nil,_,e=>by simp at e
 |_,_,_,0,.cons h r,nd,e=>by
  simp at e;subst e;cases h with
  |l n hq rs=>
   rename_i q xs f;obtain⟨nd1,nd2,nd3⟩:=P6.mp nd;refine⟨q,xs,rfl,PK _ Ds,hq,rs.length,fun w d rw=>?_⟩;have ne:∀(a:Addr),a≠q->upd H q (.lst (xs++[w])) a=H a:=fun a z=>ak z;refine .cons (.l n au ?_) (r.mono (ai.refl _) (fun _ z=>z) (fun a us _ z=>?_) fun a ha=>ne a fun z=>nd3 q Ds a ha z.symm)
   ·have t:=rs.snoc (a_.s (N:=N) (H:=H) rw);rw[Qe]at t;refine t.mono (ai.refl _) (fun _ z=>z) (fun a us _ z=>?_) fun a ha=>ne a fun z=>(Pn.mp nd1).1 (z▸ha);rw[ne a fun y=>by rw[y,hq]at z;cases z];exact z
   ·rw[ne a fun y=>by rw[y,hq]at z;cases z];exact z
 |_,_,_,m+1,.cons h r,nd,e=>by obtain⟨nd1,nd2,nd3⟩:=P6.mp nd;obtain⟨q,xs,h1,h2,h3,h4,h5⟩:=aA.put (m:=m) r nd2 (by simpa using e);refine⟨q,xs,by simpa using h1,PB _ h2,h3,h4,fun w d rw=>?_⟩;refine .cons (h.mono (ai.refl _) (fun _ z=>z) (fun a us _ z=>?_) fun a ha=>ak fun z=>nd3 a ha q h2 z) (h5 w d rw);rw[ak fun y=>by rw[y,h3]at z;cases z];exact z
theorem JY{s:Dm.FC}{g:Dm.FM}(h:tDM j (Dm.mq s g) D σ H):gi (tDC j s) (tDM j g) D σ H:=by
 obtain⟨σs,ρs,H0s,Hs,H0,ρ,p,o,n,e,k⟩:=h;unfold Dm.mq at e;split at e
 ·rename_i ρ1 p1 e1;exact⟨σs,ρs,H0s,Hs,H0,ρ,p,_,n,e1,fun σ' H0' H' n' _=>⟨σs,ρs,H0s,Hs,H0',ρ1,p1,o,n',e,k⟩⟩
 ·rename_i d ρ1 e1;cases e;exact⟨σs,ρs,H0s,Hs,H0,ρ,p,_,n,e1,fun σ' v H0' H' p' n' r=>k σ' v H0' H' n'.sst r fun d' a z=>by cases z⟩
 ·cases e
end
section
variable{X:Cx}{st:Stmt}{BZ:List Stmt}{fs gs:Dm.FC}{g:Dm.FM}{e c:Expr}{f:FE}{pos:Pos}{j:Nat}
theorem m_c(h:DC X j st fs)(hr:DMs X j BZ g):DMs X j (st::BZ) (Dm.mq fs g):=PSs.weak (bf h hr) fun _ _ _=>JY
theorem MG:DCs X j [] Dm.cNx:=PSs.weak jv fun _ _ _=>MD
theorem BV(h1:DC X j st fs)(h2:DCs X j BZ gs):DCs X j (st::BZ) (Dm.t_ fs gs):=PSs.weak (bf h1 h2) fun _ _ _=>JV
theorem BW(h1:DC X j st fs):DCs X j [st] fs:=fk h1
theorem OE{t:FT}{x y:List Stmt}(ht:DT X c t)(ha:DCs X j x fs)(hb:DCs X j y gs):DC X j (.If c x y pos) (Dm.cIf j t fs gs):=PS.weak (sX ht ha hb) fun _ _ _=>ME
theorem OG(he:DE X e f):DC X j (.Return (some e) pos) (Dm.cRt j f):=PS.weak (qS he) fun _ _ _=>MF
theorem GZ{tg it:Expr}{fi:Dm.FI}{is:List Nat}{bd:Dm.FB}{body:List Stmt}(hp:PassesOwn (model X.prog X.w) X.A X.env X.xe)(hc:X.calm=true)(hi:DI X tg it fi)(hg:TG' X tg is bd)(hb:DCs X j body fs)(hj:decide (j∈is)=false:=by rfl)
  (hs:∀x,foldedSetIterable it X.env x=pure x:=by intro _;rfl):DC X j (.For tg it body [] pos) (Dm.ua fi bd fs):=by
 obtain⟨g,h1,h2⟩:=hg.ex;exact PS.weak (qX hp hc hi h1 hb hs) fun _ _ _=>JX h2 (of_decide_eq_false hj)
theorem JZ(i:Nat){x:Str}{pos':Pos}{fp:Dm.FP}(hN:X.N.Nodup)(he:DP X e fp)(hi:X.N[i]?=some x:=by rfl)(hx:Loc X.env.scope x:=by trivial)(hs:swapsWith e (some (.Name x pos')) pos.line X.env=pure false:=by rfl)
  (hf:X.fn x=true\/X.env.scope.names.lookup x=some .local:=by trivial):DC X j (.Assign [.Name x pos'] e pos) (Dm.nJ j i fp):=PS.weak (qV hN hi hx he hs hf) fun _ _ _=>E7
end
end Br
namespace Dm
noncomputable def dg(f:List Dat->Option Dp)(as:List FE):FP:=fun ρ=>match eAs as ρ with
 |none=>none
 |some (xs,ρ1)=>match tks ρ1 xs with
  |none=>none
  |some (ds,ρ2)=>match f ds with
   |none=>none
   |some p=>some (p,ρ2)
noncomputable def pIx(f:FP)(z:Int):FP:=fun ρ=>match f ρ with
 | some (.t xs,ρ1)=>(match ixN xs.length z with
  |none=>none
  |some m=>match xs[m]? with
   |none=>none
   |some x=>some (x,ρ1))
 |_=>none
noncomputable def iM(j:Nat)(f:List Dat->Option Dp)(as:List FE)(g:FM):FS:=fun ρ=>if j=0 then none else match eAs as ρ with
 |none=>none
 |some (xs,ρ1)=>match pks ρ1 xs with
  |none=>none
  |some ds=>match f ds with
   |none=>none
   |some p=>if aK p then g (ρ1.set j .un) p else none
end Dm
namespace Br
open PySem PySem.Spec PyProof.Rows L2
theorem aA.MH{N:Addr->Prop}{H0 H:Hp}:∀{vs:List V} {ps:List Dm.Dp} {fp:List Addr} {i:Nat} {p:Dm.Dp},aA N H0 H vs ps fp->ps[i]?=some p->∃v f,vs[i]?=some v/\a_ N H0 H v p f/\f.Sublist fp
 |_,_,_,_,_,.nil,e=>by simp at e
 |_,_,_,0,_,.cons h _,e=>by simp at e;subst e;exact⟨_,_,rfl,h,List.sublist_append_left _ _⟩
 |_,_,_,i+1,_,.cons _ r,e=>by obtain⟨v,f,h1,h2,h3⟩:=aA.MH (i:=i) r (by simpa using e);exact⟨v,f,by simpa using h1,h2,h3.trans (List.sublist_append_right _ _)⟩
section
variable{σ:L2.St}{H:Hp}{Q:VK}
theorem yc{f:List Dat->Option Dm.Dp}{fs:List FE}{E:XK}(h:tDp (Dm.dg f fs) σ H Q):gk (spP f) [] E (tDA fs) σ H Q:=by
 obtain⟨H0,ρ,p,ρ',st,e,k⟩:=h;unfold Dm.dg at e;split at e
 ·cases e
 rename_i xs ρ1 e1;split at e
 ·cases e
 rename_i ds ρ2 e2;split at e
 ·cases e
 rename_i p' ep;cases e;refine⟨H0,ρ,xs,ρ1,st,e1,fun vs H1 Hb t1 r1=>?_⟩;dsimp only;rw[Qe];obtain⟨H2,t2,b2,r2⟩:=takes t1 (ai.refl _) r1 e2;refine⟨H2,ds,p,t2.st.same,r2,ep,fun v H3 Hd fp g3 r3 nd n3=>?_⟩;exact k v H3 Hd fp (t2.trans (.grow t2.st g3)) (r3.mono (ai.refl _) (fun a n=>.inl (t2.stp.gone n)) (fun _ _ _ h=>h) fun _ _=>rfl) ⟨nd,fun a ha=>⟨n3 a ha,t2.st.bx (r3.fpN a ha).1⟩⟩
theorem MI{K:Pf}{f:Dm.FP}{z:Int}(h:tDp (Dm.pIx f z) σ H Q):tOp (vK K) (tDp f) (tC (.int z)) σ H Q:=by
 obtain⟨H0,ρ,p,ρ',st,e,k⟩:=h;unfold Dm.pIx at e;split at e
 case h_2=>cases e
 rename_i xs ρ1 e1;split at e
 ·cases e
 rename_i m em;split at e
 ·cases e
 rename_i x hx;cases e;refine⟨H0,ρ,_,_,st,e1,fun v H1 Hb fp t1 r1 g1=>?_⟩;cases r1 with
 |t hN ha rs=>rename_i a vs;obtain⟨u,f',hu,ru,sb⟩:=rs.MH hx;refine⟨a,vs,z,u,rfl,rfl,.of ha,?_,k u H1 Hb f' t1 ru ⟨g1.1.sublist sb,fun b hb=>g1.2 b (sb.subset hb)⟩⟩;show (L2.ixN vs.length z).bind (fun j=>vs[j]?)=_;rw[<- fE,rs.length,em];exact hu
end
section
variable{N N':Addr->Prop}{H3 H0' H:Hp}
mutual
theorem a_.leaf(kn:∀a,N a->N' a)(kt:∀a vs,H3 a=some (.tup vs)->H0' a=some (.tup vs)):∀{v:V} {p:Dm.Dp} {fp:List Addr},a_ N H3 H v p fp->Dm.aK p=true->a_ N' H0' H v p fp
 |_,_,_,.s r,e=>.s (Rep.wj kt r (by unfold Dm.aK at e;exact e))
 |_,_,_,.l n h r,e=>.l (kn _ n) h (aA.leaf kn kt r (by unfold Dm.aK at e;exact e))
 |_,_,_,.t n h r,e=>.t (kn _ n) h (aA.leaf kn kt r (by unfold Dm.aK at e;exact e))
theorem aA.leaf(kn:∀a,N a->N' a)(kt:∀a vs,H3 a=some (.tup vs)->H0' a=some (.tup vs)):∀{vs:List V} {ps:List Dm.Dp} {fp:List Addr},aA N H3 H vs ps fp->Dm.aV ps=true->aA N' H0' H vs ps fp
 |_,_,_,.nil,_=>.nil
 |_,_,_,.cons h r,e=>by unfold Dm.aV at e;rw[Pz]at e;exact .cons (a_.leaf kn kt h e.1) (aA.leaf kn kt r e.2)
end
end
theorem nN{Hs H0 H:Hp}{σ:L2.St}{ρ:Dm.Env}(st:av H0 H σ ρ):∀{xs:List Dm.Val} {vs:List V} {ds:List Dat},c_ Hs H0 H σ ρ vs xs->Dm.pks ρ xs=some ds->aB (bor H0 H (Look Hs σ ρ)) vs ds
 |[],_,ds,.nil,e=>by cases e;exact .nil
 |x::xs,_,ds,.cons h r,e=>by
  unfold Dm.pks at e;split at e
  ·cases e
  rename_i d e1;split at e
  ·cases e
  rename_i ds' e2;cases e;refine .cons ?_ (nN st r e2);have own:∀(a:Addr),Look Hs σ ρ a->Own H0 H a d->Rep (bor H0 H (Look Hs σ ρ)) (.ref a) d:=fun a lk w=>by
   cases d with
   |lst ds=>obtain⟨xs,y,rs⟩:=w;exact .lst (.inl (iJ st.same lk y)) (rs.mono cV)
   |dct ks ds=>obtain⟨xs,y,k,rs⟩:=w;exact .dct (iJ st.same lk y) k (rs.mono cV)
   |dcp ks ds=>obtain⟨xs,y,k,rs⟩:=w;exact .dcp (iJ st.same lk y) (k.mono cV) (rs.mono cV)
   |_=>exact w.elim
  cases x with
  |val d'=>cases e1;exact Rep.mono cV h
  |new d'=>cases e1;obtain⟨a,rfl,n,no,n0,w⟩:=h;exact own a (.inl n) w
  |slot i=>
   obtain⟨q,_⟩:=h;unfold Dm.pk at e1;dsimp only at e1;split at e1
   ·rename_i d' hd;cases e1;obtain⟨a,w1,w2,w3⟩:=st.ow i _ hd;rw[q]at w1;cases w1;exact own a (.inr ⟨i,_,hd,q⟩) w3
   ·rename_i d' hd;cases e1;obtain⟨u,w1,w2⟩:=st.sh i _ hd;rw[q]at w1;cases w1;exact w2.mono cV
   ·cases e1
section
variable{D:Ends}{σ:L2.St}{H:Hp}{j:Nat}
theorem E8{f:List Dat->Option Dm.Dp}{fs:List FE}{g:Dm.FM}{E:XK}(hj:j<σ.length)(h:tDS (Dm.iM j f fs g) D σ H):gi (jx (gk (spP f) [] E (tDA fs)) (dH j)) (tDM j g) D σ H:=by
 obtain⟨H0,ρ,o,st,e,k⟩:=h;unfold Dm.iM at e;split at e
 ·cases e
 rename_i hj0;split at e
 ·cases e
 rename_i xs ρ1 e1;split at e
 ·cases e
 rename_i ds e2;split at e
 ·cases e
 rename_i p ep;split at e
 case isFalse=>cases e
 rename_i lk;refine⟨H0,ρ,xs,ρ1,st,e1,fun vs H1 Hb t1 r1=>?_⟩;dsimp only;rw[Qe];refine⟨bor H1 Hb (Look H σ ρ1),ds,p,g7 t1.st.same,nN t1.st r1 e2,ep,fun v H3 Hd fp g3 r3 nd n3=>?_⟩;have up:ai Hb Hd:=g3.s1;have cpE:∀{a:Addr} {u:HO},cpy H H1 Hb H3 Hd a=some u->H1 a=some u\/(Hb a=none/\Hd a=some u)\/(H a=none/\H3 a=some u/\∃vs,u=.tup vs):=fun e=>cH e;have kt:∀a us,H3 a=some (.tup us)->cpy H H1 Hb H3 Hd a=some (.tup us):=fun a us h=>by
  rcases g3.s2 a _ h with z | z
  ·rw[g8 t1.st.same z];exact g3.s3 _ _ h
  ·have hH:=g7 t1.st.same _ _ z;unfold bor at z;split at z
   ·rename_i o q;cases z;exact dR _ _ q
   ·rename_i q;split at z
    ·rename_i lk;rcases lk with lk | lk
     ·unfold cpy;rw[q];dsimp only;rw[if_neg (by rw[hH];simp),h];dsimp only;rw[if_pos lk]
     ·exact(t1.st.gH hH lk).elim
    ·cases z
 have lst:∀{a:Addr} {u:HO},H1 a=none->Hb a=some u->(∀us,u≠.tup us)->cpy H H1 Hb H3 Hd a=none:=fun {a u} h0 h nt=>by
  cases z:cpy H H1 Hb H3 Hd a with
  |none=>rfl
  |some w=>
   rcases cpE z with y | ⟨y,_⟩ | ⟨_,y,us,rfl⟩
   ·rw[h0]at y;cases y
   ·rw[h]at y;cases y
   ·have:=g3.s3 _ _ y;rw[up _ _ h]at this;cases this;exact absurd rfl (nt us)
 let H4:Hp:=fun a=>if a∈fp then none else cpy H H1 Hb H3 Hd a
 have h4:∀{a:Addr} {u:HO},H4 a=some u->cpy H H1 Hb H3 Hd a=some u/\a∉fp:=fun {a u} e=>by
  show cpy H H1 Hb H3 Hd a=some u/\_;have e:(if a∈fp then none else cpy H H1 Hb H3 Hd a)=some u:=e;split at e
  ·cases e
  ·rename_i h;exact⟨e,h⟩
 have h4i:∀{a:Addr} {u:HO},cpy H H1 Hb H3 Hd a=some u->a∉fp->H4 a=some u:=fun {a u} e n=>by show (if a∈fp then none else cpy H H1 Hb H3 Hd a)=some u;rw[if_neg n];exact e
 have nfp:∀a∈fp,Hb a=none/\∃ys,Hd a=some (.lst ys):=fun a ha=>r3.fpN a ha;have up4:ai H1 H4:=fun a u e'=>h4i (dR _ _ e') fun z=>by have:=t1.st.same _ _ e';rw[(nfp a z).1]at this;cases this
 have st4:av H4 Hd σ ρ1:=by
  refine⟨fun a u e'=>?_,t1.st.len,fun i d h=>?_,fun i d h=>?_,t1.st.dis⟩
  ·rcases cpE (h4 e').1 with y | ⟨_,y⟩ | ⟨_,y,_⟩
   ·exact up _ _ (t1.st.same _ _ y)
   ·exact y
   ·exact g3.s3 _ _ y
  ·obtain⟨u,z,y⟩:=t1.st.sh i d h;exact⟨u,z,y.mono up4⟩
  ·obtain⟨a,z,n0,y⟩:=t1.st.ow i d h;obtain⟨w,hw⟩:=y.some;refine⟨a,z,?_,y.mono up4 ((up _ _ hw).trans hw.symm)⟩;have:=lst n0 hw fun us e'=>by subst e';exact t1.st.gH hw ⟨i,d,h,z⟩
   show (if a∈fp then none else cpy H H1 Hb H3 Hd a)=none;rw[this];split<;>rfl
 obtain⟨s1,s2⟩:=st4.rV j (some v);refine⟨σ,ρ,H0,H,H4,_,p,o,⟨s1,⟨t1.stp.s0.trans up4,fun a u e' no=>up _ _ (t1.stp.s1 a u e' no),fun a u e'=>?_,fun a u e'=>?_⟩,fun a z=>.inl (t1.own a (s2 a z)),Dk hj0,v,fp,PM hj,r3.leaf (fun a n=>t1.stp.gone n) (fun a us h=>h4i (kt a us h) fun z=>?_) lk,nd,fun a ha=>⟨?_,fun z=>t1.st.bx (nfp a ha).1 (s2 a z)⟩⟩,e,k⟩
 ·rcases cpE (h4 e').1 with y | ⟨y,_⟩ | ⟨y,_⟩
  ·exact t1.stp.s2 a u y
  ·exact .inl (t1.stp.gone y)
  ·exact .inl y
 ·obtain⟨o',q⟩:=t1.stp.s3 a u e';exact⟨o',up _ _ q⟩
 ·obtain⟨_,ys,y⟩:=nfp a z;have:=g3.s3 _ _ h;rw[y]at this;cases this
 ·show (if a∈fp then none else cpy H H1 Hb H3 Hd a)=none;rw[if_pos ha]
theorem aA.change{N:Addr->Prop}{H0 H:Hp}{x:Dm.Dp}:∀{vs:List V} {ps:List Dm.Dp} {fp:List Addr} {m:Nat},aA N H0 H vs ps fp->fp.Nodup->ps[m]?=some x ->
  ∃v f,vs[m]?=some v/\a_ N H0 H v x f/\(∀a∈f,a∈fp)/\f.Nodup/\∀q o x' ls,q∈f->H q=some (.lst ls)->a_ N H0 (upd H q o) v x' f->aA N H0 (upd H q o) vs (ps.set m x') fp
 |_,_,_,_,.nil,_,e=>by simp at e
 |_,_,_,0,.cons h r,nd,e=>by simp at e;subst e;obtain⟨nd1,nd2,nd3⟩:=P6.mp nd;refine⟨_,_,rfl,h,fun a ha=>PK _ ha,nd1,fun q o x' ls hq hl h'=>.cons h' (r.mono (ai.refl _) (fun _ z=>z) (fun a us _ z=>?_) fun a ha=>ak fun z=>nd3 q hq a ha z.symm)⟩;rw[ak fun y=>by rw[y,hl]at z;cases z];exact z
 |_,_,_,m+1,.cons h r,nd,e=>by obtain⟨nd1,nd2,nd3⟩:=P6.mp nd;obtain⟨v,f,h1,h2,h3,h4,h5⟩:=aA.change (m:=m) r nd2 (by simpa using e);refine⟨v,f,by simpa using h1,h2,fun a ha=>PB _ (h3 a ha),h4,fun q o x' ls hq hl h'=>.cons (h.mono (ai.refl _) (fun _ z=>z) (fun a us _ z=>?_) fun a ha=>ak fun z=>nd3 a ha q (h3 q hq) z) (h5 q o x' ls hq hl h')⟩;rw[ak fun y=>by rw[y,hl]at z;cases z];exact z
end
section
variable{X:Cx}{e c:Expr}{es:List Expr}{BZ:List Stmt}{fs:List FE}{f:FE}{fp:Dm.FP}{gq:Dm.FSP}{g ga:Dm.FM}{pos p:Pos}{j:Nat}
section
variable{fd:FuncData}{ps:List Str}{F:Addr}{k:Nat}
theorem kT{h:List Dat->Option Dm.Dp}{x:Str}(G:aT X.prog X.w X.K X.mg X.base CX0 k F fd ps (spP h))(hr:br k X.A)(hg:Gl X x)(hm:X.mg x=some (.ref F))(hk:Qq X.K (.ref F)=true)(hb:Binds X.K fd ps [])
  (ha:DA X (e::es) fs) (M0:(x == ("__debug__" : Str))=false:=by decide) (he:starEach (e::es) X.env=(false,eval e X.env)::starEach es X.env:=by rfl) (Ct:(backTo pos (starEach es X.env)).any (·.1)=false:=by rfl) :
  DP X (.Call (.Name x p) (e::es) [] pos) (Dm.dg h fs):=PE.weak (fB G hr hg hm hk hb .nil (jE (X:=X)) ha M0 he Ct) fun _ _ _=>yc
theorem OH{i:Int}{jc}{ip:Pos}(h:DP X e fp)(hs:b9 (.Constant (.int i) jc ip):=by intro _ _;rfl):DP X (.Subscript e (.Constant (.int i) jc ip) pos) (Dm.pIx fp i):=PE.weak (iu ku h kj hs) fun _ _ _=>MI
theorem E9(j:Nat){f:List Dat->Option Dm.Dp}{x y:Str}{as:List FE}{pos' cpos:Pos}(hN:X.N.Nodup)(G:aT X.prog X.w X.K X.mg X.base CX0 k F fd ps (spP f))(hr:br k X.A)(hg:Gl X x)(hm:X.mg x=some (.ref F))(hk:Qq X.K (.ref F)=true)(hb:Binds X.K fd ps [])
  (ha:DA X (e::es) as) (hre:DMs X j BZ g) (hi:X.N[j]?=some y:=by rfl) (hx:Loc X.env.scope y:=by trivial) (hs:swapsWith (.Call (.Name x p) (e::es) [] cpos) (some (.Name y pos')) pos.line X.env=pure false:=by rfl)
  (hf:X.fn y=true\/X.env.scope.names.lookup y=some .local:=by trivial) (M0:(x == ("__debug__" : Str))=false:=by decide) (he:starEach (e::es) X.env=(false,eval e X.env)::starEach es X.env:=by rfl) (Ct:(backTo cpos (starEach es X.env)).any (·.1)=false:=by rfl) :
  DSs X (.Assign [.Name y pos'] (.Call (.Name x p) (e::es) [] cpos) pos::BZ) (Dm.iM j f as g):=by
 have h:=bf (qV hN hi hx (fB G hr hg hm hk hb .nil (jE (X:=X)) ha M0 he Ct) hs hf) hre;intro jV s σ H D I q;exact h jV s σ H D I (E8 (by rw[I.len];exact(Ph.mp hi).1) q)
end
end
section
variable{N:Addr->Prop}{H3 H5 H:Hp}
theorem aM.MJ{H0 H:Hp}:∀{ps:List Addr} {rows:List (List Dat)},aM H0 H ps rows->(∀p∈ps,N p)->aA N H0 H (ps.map V.ref) (rows.map fun r=>.l (r.map .s)) ps
 |[],[],_,_=>.nil
 |p::ps,r::rs,h,n=>by obtain⟨⟨xs,h1,h2⟩,h3⟩:=h;exact .cons (.l (n p Ds) h1 (.mE h2)) (aM.MJ h3 fun q hq=>n q (Pa _ hq))
mutual
theorem a_.share(kt:∀a us,N a->H a=some (.tup us)->H5 a=some (.tup us))(ks:∀a us,H3 a=some (.tup us)->H5 a=some (.tup us)):∀{v:V} {p:Dm.Dp} {fp:List Addr},a_ N H3 H v p fp->(∀a∈fp,H5 a=H a)->Dm.aK p=true->Rep H5 v p.dat
 |_,_,_,.s r,_,e=>Rep.wj ks r (by unfold Dm.aK at e;exact e)
 |_,_,_,.l n h r,k,e=>.lst (.inl ((k _ Ds).trans h)) (aA.share kt ks r (fun a ha=>k a (Pa _ ha)) (by unfold Dm.aK at e;exact e))
 |_,_,_,.t n h r,k,e=>.tup (kt _ _ n h) (aA.share kt ks r k (by unfold Dm.aK at e;exact e))
theorem aA.share(kt:∀a us,N a->H a=some (.tup us)->H5 a=some (.tup us))(ks:∀a us,H3 a=some (.tup us)->H5 a=some (.tup us)):∀{vs:List V} {ps:List Dm.Dp} {fp:List Addr},aA N H3 H vs ps fp->(∀a∈fp,H5 a=H a)->Dm.aV ps=true->aB H5 vs (Dm.Dp.nG ps)
 |_,_,_,.nil,_,_=>.nil
 |_,_,_,.cons h r,k,e=>by unfold Dm.aV at e;rw[Pz]at e;exact .cons (a_.share kt ks h (fun a ha=>k a (PK _ ha)) e.1) (aA.share kt ks r (fun a ha=>k a (PB _ ha)) e.2)
end
end
end Br
namespace Br
open PySem PySem.Spec PyProof.Rows L2
theorem aM.snoc{H0 H:Hp}{p:Addr}{xs:List V}{r:List Dat}(h1:H p=Option.some (.lst xs))(h2:aB H0 xs r):∀{ps:List Addr} {rs:List (List Dat)},aM H0 H ps rs->aM H0 H (ps++[p]) (rs++[r])
 |[],[],_=>⟨⟨xs,h1,h2⟩,trivial⟩
 |_::_,_::_,h=>⟨h.1,aM.snoc h1 h2 h.2⟩
open PySem L2
structure bB(K:Pf)(x:Str)(st:Stmt)(a:Addr)(fd:FuncData):Prop where
 e:Qn K mainGlobals x=some (some (.ref a))
 F:Fun K x x st a fd
variable{K:Pf}{x:Str}{st:Stmt}{a:Addr}{fd:FuncData}{hp:Heap}{mg:Str->Option Value}
theorem aL{oc:Value}{od an:Option Addr}{osl:Array (Option Value)}{kV doc pm cdv ct:Value}(e:Qn K mainGlobals x=some (some (.ref a)))
  (l:K.lookup a=some ⟨oc,od,.func (Qj x x (bw st) (aZ st) (aj st) .none kV doc pm an cdv ct),osl⟩) (c:RH K cdv x=true) (k:Qq K (.ref a)=true) :
  bB K x st a (Qj x x (bw st) (aZ st) (aj st) .none kV doc pm an cdv ct):=⟨e,IP l c k⟩
theorem mno(X:K.In hp)(G:hp.Ns mainGlobals mg)(e:Qn K mainGlobals x=some none):mg x=none:=PySem.W.mg_none_of X G e
theorem bB.m(h:bB K x st a fd)(X:K.In hp)(G:hp.Ns mainGlobals mg):mg x=some (.ref a):=PySem.W.mg_of X G h.e
theorem bB.OI{y:Str}(h:bB K x st a fd)(hb:∀(kV doc pm:Value) (an:Option Addr) (cdv ct v:Value),bindArgs (Qj x x (bw st) (aZ st) (aj st) .none kV doc pm an cdv ct) ⟨[v],[]⟩=pure [(y,v)])(s:Shared)(v:Value):BindsTo s fd ⟨[v],[]⟩ [(y,v)]:=by obtain⟨oc,od,kV,doc,pm,an,cdv,ct,osl,rfl,lk,G3⟩:=h.F.ex;exact .of_eq (hb kV doc pm an cdv ct v)
theorem hm{j k:Nat}{A:Around}(r:br k A)(h:j<=k:=by decide):br j A:=r.mono h
theorem fsc{N P:List Str}{sc:Scope}(h1:sc.kind=.function:=by rfl)(h2:sc.isCoroutine=false:=by rfl)(h3:sc.isGenerator=false:=by rfl)(h4:N.take P.length=P:=by rfl)(h:N.Nodup/\(∀x∈P,sc.names.lookup x=some .local\/sc.names.lookup x=some .cell)/\∀y∈sc.names,y.2≠.free:=by decide +kernel):aD N P sc:=⟨h1,h2,h3,h.1,h4,h.2.1,h.2.2⟩
end Br
namespace Dm
noncomputable def nEs(bd:FB)(u:FE):List Dat->Env->Option Env
 |[],ρ=>some ρ
 |d::q,ρ=>match bd d ρ with
  |none=>none
  |some ρ1=>match u ρ1 with
   |none=>none
   |some (_,ρ2)=>nEs bd u q ρ2
noncomputable def zI(j i:Nat)(e:FE)(bd:FB)(u:FE):FN:=fun ρ r=>if i=0\/i=j then none else match e ρ with
 | some (.new (.lst ds),ρ1)=>(match nEs bd u ds (ρ1.set i .un) with
  |none=>none
  |some ρ2=>if r.length<SZ then some (ρ2,r++[ds]) else none)
 |_=>none
noncomputable def qp(j:Nat)(Fp:FN):FSP:=fun ρ=>if j=0 then none else match Fp (ρ.set j .un) [] with
 |none=>none
 |some (_,r)=>some (.l (r.map fun row=>.l (row.map .s)))
end Dm
namespace Br
open PySem PySem.Spec PyProof.Rows L2
section
variable{D:Ends}{σ:L2.St}{H:Hp}{j:Nat}
theorem J0{K:Pf}{i:Nat}{f u:FE}{bd:Dm.FB}{g:TG}{is:List Nat}(hb:BD is g bd)(hj:j∉is)(hi:i∉is)(hil:i<σ.length)(h:tDN j (Dm.zI j i f bd u) D σ H) :
  gi (jx (tD f) (dH i)) (gi (Ar (pW K (eO i)) g (ir (tD u))) (ir (tBM K "list" jD (eO j) (jA (eO i) pF)))) D σ H:=by
 obtain⟨σs,ρs,H0s,Hs,H0,ρ,rows,ρ',rows',n,e,k⟩:=h;unfold Dm.zI at e;split at e
 ·cases e
 rename_i hij;have hi0:i≠0:=fun z=>hij (.inl z);have hnj:i≠j:=fun z=>hij (.inr z);split at e
 case h_2=>cases e
 rename_i ds ρ1 e1;split at e
 ·cases e
 rename_i ρ2 e2;split at e
 case isFalse=>cases e
 rename_i hz;cases e;refine⟨H0,ρ,_,ρ1,n.st,e1,fun v H0' H' t r=>?_⟩;obtain⟨a,ea,na,no,n0,xs,ha,rs⟩:=r;subst ea;have m:=n.est t;obtain⟨L,ps,y1,y2,y3,y4,y5,y6,y7,y8⟩:=n.ex;obtain⟨k1,k2,k3⟩:=t.bV y5 y3 y4;obtain⟨s1,s2⟩:=m.st.rV i (some (.ref a));have n1:=m.bind s1 s2 (Dk hnj) (Dk hi0);have nLa:L≠a:=fun z=>by rw[z,na]at y5;cases y5
 have nPa:a∉ps:=fun hp=>by obtain⟨o,q⟩:=y8.some a hp;rw[na]at q;cases q
 have hsa:Hs a=none:=n.stp.gone na;refine⟨_,PM hil,a,rfl,⟨xs,.inl (.inl ha)⟩,?_⟩;have jw:=tP (K:=K) (a:=a) rs;refine ⟨fun q m σ' H1=>∃ H0c ρc,NS j σs ρs H0s Hs σ' ρc H0c H1 rows∧ai H0' H0c∧m=ds.length-q∧q≤ds.length∧Dm.nEs bd u (ds.drop q) ρc=some ρ'∧(H1 a=some (.lst xs)∧H0c a=none∧¬ ah σ' ρc a)∧σ'[i]?=some (some (.ref a))∧σ'[j]?=some (some (.ref L))∧(H1 L=some (.lst (ps.map V.ref))∧H0c L=none∧¬ ah σ' ρc L),
  ⟨ds.length,H0',ρ1.set i .un,n1,ai.refl _,by simp,Qd _,by simpa using e2,⟨ha,n0,fun z=>no (s2 a z)⟩,PM hil,(Dk hnj).trans y1,⟨k1,k2,fun z=>k3 (s2 L z)⟩⟩,?_⟩
 rintro q m' σ' H1 ⟨H0c,ρc,nc,s0c,rfl,hq,ec,fa,hsi,hsj,fL⟩;obtain⟨js,jg⟩:=jw H0c H1 s0c nc.st.same fun z ez=>by cases ez;exact fa.1
 by_cases J9:q<ds.length
 ·have hd:ds[q]?=some ds[q]:=by simp[J9]
  obtain⟨g1,g2⟩:=jg q ds[q] hd;rw[Qk J9]at ec;unfold Dm.nEs at ec;refine .inr ⟨g1,fun σ' H1=>∃H0c ρc,NS j σs ρs H0s Hs σ' ρc H0c H1 rows/\ai H0' H0c/\Dm.nEs bd u (ds.drop (q+1)) ρc=some ρ'/\(H1 a=some (.lst xs)/\H0c a=none/\¬ah σ' ρc a)/\σ'[i]?=some (some (.ref a))/\σ'[j]?=some (some (.ref L))/\(H1 L=some (.lst (ps.map V.ref))/\H0c L=none/\¬ah σ' ρc L),?_,fun x H2 y=>?_⟩
  ·rintro σ2 H2 ⟨H0d,ρd,h1,h2,h3,h4⟩;exact⟨ds.length-(q+1),by lia,H0d,ρd,h1,h2,rfl,J9,h3,h4⟩
  ·obtain⟨H0d,gr,rx⟩:=g2 x H2 y;split at ec
   ·cases ec
   rename_i ρ3 e3;split at ec
   ·cases ec
   rename_i w ρ4 e4;have t2:=ESt.grow nc.st gr;refine hb H0d H2 σ' ρc ρ3 x ds[q] _ t2.st rx e3 fun σ3 st3 o3 kk3 d3 f3=>?_;have n3:=(nc.est t2).bind st3 o3 (kk3 j hj) f3;refine⟨H0d,ρ3,w,ρ4,st3,e4,fun v4 H04 H4 t4 _=>?_⟩;obtain⟨p1,p2,p3⟩:=t2.bV fa.1 fa.2.1 fa.2.2;obtain⟨q1,q2,q3⟩:=t4.bV p1 p2 fun z=>p3 (o3 a z);obtain⟨u1,u2,u3⟩:=t2.bV fL.1 fL.2.1 fL.2.2;obtain⟨w1,w2,w3⟩:=t4.bV u1 u2 fun z=>u3 (o3 L z);exact⟨H04,ρ4,n3.est t4,(s0c.trans gr.s0).trans t4.stp.s0,ec,⟨q1,q2,q3⟩,(kk3 i hi).trans hsi,(kk3 j hj).trans hsj,⟨w1,w2,w3⟩⟩
 ·have e':q=ds.length:=by lia
  subst e';rw[QW]at ec;cases ec;refine .inl ⟨js _ (Pj _),_,hsj,.inl ⟨rfl,ps.map V.ref,.inl (.inl fL.1)⟩,_,hsi,L,ps.map V.ref,.ref a,rfl,rfl,fL.1,?_,?_⟩
  ·rw[Pg,y8.len];exact PD hz (by decide)
  ·obtain⟨L',ps',v1,v2,v3,v4,v5,v6,v7,v8⟩:=nc.ex;rw[hsj]at v1;cases v1;have ep:ps'=ps:=by
    rw[fL.1]at v5;have:ps.map V.ref=ps'.map V.ref:=by injection v5 with z;injection z
    exact((RO fun a b h=>by injection h).mp this).symm
   subst ep;obtain⟨nd1,nd2⟩:=Pn.mp v6;refine k σ' H0c _ ⟨nc.st.aside fL.2.1 fL.2.2,nc.stp.aside v2,nc.own,nc.fx,L,ps'++[a],hsj,v2,v3,v4,by rw[au,PF];rfl,?_,fun p hp=>?_,?_⟩ (t.stp.s0.trans s0c)
   ·refine Pn.mpr ⟨fun z=>?_,P6.mpr ⟨nd2,by simp,fun b hb c hc z=>?_⟩⟩
    ·rcases PV.mp z with z | z
     ·exact nd1 z
     ·exact nLa (PN.mp z)
    ·rw[PN.mp hc]at z;exact nPa (z▸hb)
   ·rcases PV.mp hp with hp | hp
    ·exact v7 p hp
    ·rw[PN.mp hp];exact⟨hsa,fa.2⟩
   ·refine aM.snoc (xs:=xs) (by rw[ak (Ne.symm nLa)];exact fa.1) (rs.mono s0c) (v8.mono (ai.refl _) fun p hp=>?_);exact ak fun z=>nd1 (z▸hp)
theorem E_{Fp:Dm.FN}(hj:j<σ.length)(h:tDP (Dm.qp j Fp) D σ H):gi (jx (Az pF) (dH j)) (gi (tDN j Fp) (Ai (eO j))) D σ H:=by
 obtain⟨H0,ρ,p,st,e,k⟩:=h;unfold Dm.qp at e;split at e
 ·cases e
 rename_i hj0;split at e
 ·cases e
 rename_i ρ3 r3 e3;cases e;refine⟨Qd _,fun L hL=>?_⟩;have gr:aI H0 H H0 (upd H L (.lst [])):=aI.mh st.same hL;have t1:=ESt.grow st gr;obtain⟨st2,om⟩:=t1.st.rV j (some (.ref L));have nL:¬ah σ ρ L:=st.bx hL;have n:NS j σ ρ H0 H (σ.set j (some (.ref L))) (ρ.set j .un) H0 (upd H L (.lst [])) []:=
  ⟨st2,t1.stp,fun a z=>.inl (om a z),Dk hj0,L,[],PM hj,hL,st.same.free hL,fun z=>nL (om L z),au,by simp,fun p hp=>(by cases hp),trivial⟩
 refine⟨σ,ρ,H0,H,H0,_,_,ρ3,r3,n,e3,fun σ4 H4 Hd n4 _=>?_⟩;obtain⟨L4,ps4,w1,w2,w3,w4,w5,w6,w7,w8⟩:=n4.ex;refine⟨_,w1,k σ4 ρ3 _ H4 Hd (L4::ps4) ⟨n4.st,n4.stp,n4.own,n4.fx⟩ (.l (.inl w2) w5 (w8.MJ fun p hp=>.inl (w7 p hp).1)) w6 fun a ha=>?_⟩;rcases Pk.mp ha with rfl | ha
 ·exact w3
 ·exact(w7 a ha).2.1
end
section
variable{X:Cx}{e:Expr}{es:List Expr}{f:FE}{pos:Pos}{j lo:Nat}
section
variable{is:List Nat}{bd:Dm.FB}
theorem OJ(j:Nat)(nm own:List Str){tg iter J8:Expr}{J7:List Expr}{scope:Scope}{fi:Dm.FI}{t:FT}{y:Str}{py G4:Pos}(hN:X.N.Nodup)(hg:TGc X nm scope own tg is bd)(hi:DI X tg iter fi)(ht:∀cl C s H fp,DTs (aU X nm scope own cl C s H fp) J7 t)(he:∀cl C s H fp,DE (aU X nm scope own cl C s H fp) J8 f)
  (hc:X.calm=true:=by rfl) (hk:scope.kind=.function:=by rfl) (hS:jR X.env.scope X.N nm scope=true:=by rfl) (hl:(is.all fun i=>decide (X.N.length<=i))=true:=by rfl) (hj:X.N[j]?=some y:=by rfl) (hy:Loc X.env.scope y:=by trivial)
  (hsw:swapsWith (.ListComp J8 [⟨tg,iter,J7,0⟩] scope pos) (some (.Name y py)) G4.line X.env=pure true:=by rfl) (hs:∀x,foldedSetIterable iter X.env x=pure x:=by intro _;rfl)
  (hf:X.fn y=true\/X.env.scope.names.lookup y=some .local:=by trivial):PS X (.Assign [.Name y py] (.ListComp J8 [⟨tg,iter,J7,0⟩] scope pos) G4) (jx (tD (Dm.cg fi own.length bd t f)) (dH j)):=by
 obtain⟨g,h1,h2⟩:=hg.ex;intro jV s σ H D I h;exact dY hN hj hy hc (cu.of hS hk) hi h1 ht he hsw hs hf jV s σ H D I (rH h2 (fun i hi=>by rw[I.len];exact ni hl i hi) h)
theorem MK(i:Nat){u:FE}{A:Stmt}{tg b:Expr}{x y:Str}{py py2 ep ML px ap cp:Pos}(hA:PS X A (jx (tD f) (dH i)))(hp:PassesOwn (model X.prog X.w) X.A X.env X.xe)(hc:X.calm=true)(hg:TG' X tg is bd)(hu:DE X b u)
  (hjs:decide (j∈is)=false:=by rfl) (his:decide (i∈is)=false:=by rfl) (hi:X.N[i]?=some y:=by rfl) (hj:X.N[j]?=some x:=by rfl) (hvy:Vis X.env.scope y:=by trivial) (hvx:Vis X.env.scope x:=by trivial)
  (hdy:(y == ("__debug__" : Str))=false:=by decide) (hcy:(y == ("__classdict__" : Str))=false:=by decide) (hdx:(x == ("__debug__" : Str))=false:=by decide) (hcx:(x == ("__classdict__" : Str))=false:=by decide)
  (hs:∀z,foldedSetIterable (.Name y py) X.env z=pure z:=by intro _;rfl) (hse:swapsWith b none ep.line X.env=pure false:=by rfl)
  (Fd:attributeBase (.Name x px) "append" X.env (eval (.Name x px) X.env)=eval (.Name x px) X.env:=by rfl)
  (hfew:((backTo cp (starEach [.Name y py2] X.env)).all (fun x=>!x.1)&&(backToKw cp (keywordEach [] X.env)).all (fun x=>x.1.isSome)
   && decide ([Expr.Name y py2].length+([]:List Keyword).length+(if ([]:List Keyword).isEmpty then 0 else 1)<30))=true:=by rfl)
  (Cu:(ap.endLine == cp.line)=true:=by rfl) (hst:starEach [.Name y py2] X.env=(false,eval (.Name y py2) X.env)::starEach [] X.env:=by rfl) (G1:(backTo cp (starEach [] X.env)).any (·.1)=false:=by rfl)
  (hsw:swapsWith (.Call (.Attribute (.Name x px) "append" ap) [.Name y py2] [] cp) none pos.line X.env=pure false:=by rfl) :
  DNs X j [A,.For tg (.Name y py) [.Expr b ep] [] ML,.Expr (.Call (.Attribute (.Name x px) "append" ap) [.Name y py2] [] cp) pos] (Dm.zI j i f bd u):=by
 obtain⟨g,h1,h2⟩:=hg.ex;have h:=bf hA (bf (qX hp hc (qW (bM (pos:=py) hi hvy hdy hcy)) h1 (fk (dj hu hse)) hs (pos:=ML)) (fk (dj (tu Qv Q6 Q7 eT (bM hj hvx hdx hcx) (dX (bM hi hvy hdy hcy) gj hst) Fd hfew Cu hst G1) hsw)));intro jV s σ H D I q;exact h jV s σ H D I (J0 h2 (of_decide_eq_false hjs) (of_decide_eq_false his) (by rw[I.len];exact(Ph.mp hi).1) q)
theorem J1(j:Nat){y:Str}{py G4 v9 rp np:Pos}{Fp:Dm.FN}{lst:Stmt}(hN:X.N.Nodup)(hlp:DN X j lst Fp)(hj:X.N[j]?=some y:=by rfl)(hy:Loc X.env.scope y:=by trivial)
  (hs:swapsWith (.List [] v9) (some (.Name y py)) G4.line X.env=pure false:=by rfl)
  (hf:X.fn y=true\/X.env.scope.names.lookup y=some .local:=by trivial) (hv:Vis X.env.scope y:=by trivial) (hd:(y == ("__debug__" : Str))=false:=by decide) (G3:(y == ("__classdict__" : Str))=false:=by decide) :
  DQs X [.Assign [.Name y py] (.List [] v9) G4,lst,.Return (some (.Name y np)) rp] (Dm.qp j Fp):=by
 have h:=bf (qV hN hj hy (vF (pos:=v9) gj) hs hf) (bf hlp (fk (qS (pos:=rp) (bM (pos:=np) hj hv hd G3))));intro jV s σ H D I q;exact h jV s σ H D I (E_ (by rw[I.len];exact(Ph.mp hj).1) q)
end
end
end Br
namespace Dm
noncomputable def wk(a:FE)(lo hi:Option FE):FE:=fun ρ=>match a ρ with
 |none=>none
 |some (x,ρ1)=>match part lo ρ1 with
  |none=>none
  |some (l,ρ2)=>match part hi ρ2 with
   |none=>none
   |some (h,ρ3)=>match pk ρ3 x with
    |some (.tup xs)=>some (.val (.tup (cut xs l h)),ρ3)
    |_=>none
noncomputable def wo(z:Nat):FC:=fun ρ p=>match p with
 | .t xs=>(match xs[z]? with
  |some (.l _)=>some (.nx ρ (.t (xs.set z (.l []))))
  |_=>none)
 |_=>none
end Dm
namespace Br
open PySem PySem.Spec PyProof.Rows L2
theorem g9{l z:Nat}(h:z<l):Dm.ixN l (z:Int)=some z:=by unfold Dm.ixN;rw[if_pos (by lia),if_pos (by lia)];rfl
theorem J2{us:List V}{z:Nat}{u:V}(h:us[z]?=some u):atI us (z:Int)=some u:=by show (L2.ixN us.length (z:Int)).bind (fun j=>us[j]?)=_;rw[<- fE,g9 (Ph.mp h).1];exact h
theorem aA.jU{N:Addr->Prop}{H0 H:Hp}{x:Dm.Dp}:∀{vs:List V} {ps:List Dm.Dp} {fp:List Addr} {m:Nat},aA N H0 H vs ps fp->fp.Nodup->ps[m]?=some x ->
  ∃v f,vs[m]?=some v/\a_ N H0 H v x f/\f.Sublist fp/\∀q o x' ls f',q∈f->H q=some (.lst ls)->a_ N H0 (upd H q o) v x' f'->f'.Sublist f->∃fp',aA N H0 (upd H q o) vs (ps.set m x') fp'/\fp'.Sublist fp
 |_,_,_,_,.nil,_,e=>by simp at e
 |_,_,_,0,.cons h r,nd,e=>by simp at e;subst e;obtain⟨nd1,nd2,nd3⟩:=P6.mp nd;refine⟨_,_,rfl,h,List.sublist_append_left _ _,fun q o x' ls f' hq hl h' hs=>⟨_,.cons h' (r.mono (ai.refl _) (fun _ z=>z) (fun a us _ z=>?_) fun a ha=>ak fun z=>nd3 q hq a ha z.symm),hs.append_right _⟩⟩;rw[ak fun y=>by rw[y,hl]at z;cases z];exact z
 |_,_,_,m+1,.cons h r,nd,e=>by obtain⟨nd1,nd2,nd3⟩:=P6.mp nd;obtain⟨v,f,h1,h2,h3,h5⟩:=aA.jU (m:=m) r nd2 (by simpa using e);refine⟨v,f,by simpa using h1,h2,h3.trans (List.sublist_append_right _ _),fun q o x' ls f' hq hl h' hs=>?_⟩;obtain⟨fp',w1,w2⟩:=h5 q o x' ls f' hq hl h' hs;refine⟨_,.cons (h.mono (ai.refl _) (fun _ z=>z) (fun a us _ z=>?_) fun a ha=>ak fun z=>nd3 a ha q (h3.subset hq) z) w1,w2.append_left _⟩;rw[ak fun y=>by rw[y,hl]at z;cases z];exact z
section
variable{D:Ends}{σ:L2.St}{H:Hp}{j:Nat}
section
variable{ρ:Dm.Env}{ρs:Dm.Env}{H0s Hs:Hp}{H0:Hp}{σs:L2.St}
theorem cQ.sub{σ:L2.St}{f g:List Addr}(h:cQ σ ρ H0 f)(s:g.Sublist f):cQ σ ρ H0 g:=⟨h.1.sublist s,fun a ha=>h.2 a (s.subset ha)⟩
theorem MS.OL{xs rows:List Dm.Dp}{m0:Nat}(nx:MS j σs ρs H0s Hs σ ρ H0 H (.t xs))(gJ:xs[m0]?=some (.l rows)) :
  ∃(A L:Addr) (us vs:List V),σ[j]?=some (some (.ref A))/\H A=some (.tup us)/\us[m0]?=some (.ref L)/\H L=some (.lst vs)/\MS j σs ρs H0s Hs σ ρ H0 (upd H L (.lst [])) (.t (xs.set m0 (.l []))):=by
 obtain⟨v,fp,q1,q2,q3⟩:=nx.ex;cases q2 with
 |t nA hA rs=>
  rename_i A us;obtain⟨v',f',c1,c2,c3,c5⟩:=rs.jU q3.1 gJ;cases c2 with
  |l nL hL rl=>
   rename_i L vs fl;obtain⟨z1,z2⟩:=q3.2 L (c3.subset Ds);have neA:A≠L:=fun y=>by rw[y,hL]at hA;cases hA
   have t:=nx.wr nL z1 z2 (.lst []);obtain⟨fp',w1,w2⟩:=c5 L (.lst []) (.l []) vs [L] Ds hL (.l nL au .nil) (Rr.cons_cons _ (List.nil_sublist _));exact⟨A,L,us,vs,q1,hA,c1,hL,t.st,t.stp,t.own,t.fx,_,fp',q1,.t nA (by rw[ak neA];exact hA) w1,q3.sub w2⟩
theorem MS.MM{xs rows items:List Dm.Dp}{m0 m:Nat}(nx:MS j σs ρs H0s Hs σ ρ H0 H (.t xs))(gJ:xs[m0]?=some (.l rows))(hi:rows[m]?=some (.l items)) :
  ∃(A L q:Addr) (us vs ls:List V),σ[j]?=some (some (.ref A))/\H A=some (.tup us)/\us[m0]?=some (.ref L)/\H L=some (.lst vs)/\vs[m]?=some (.ref q)/\H q=some (.lst ls)/\L≠q/\A≠q /\
   MS j σs ρs H0s Hs σ ρ H0 (upd H q (.lst [])) (.t (xs.set m0 (.l (rows.set m (.l []))))):=by
 obtain⟨v,fp,q1,q2,q3⟩:=nx.ex;cases q2 with
 |t nA hA rs=>
  rename_i A us;obtain⟨v',f',c1,c2,c3,c5⟩:=rs.jU q3.1 gJ;cases c2 with
  |l nL hL rl=>
   rename_i L vs fl;have nd:=q3.1.sublist c3;obtain⟨v2,f2,d1,d2,d3,d5⟩:=rl.jU (Pn.mp nd).2 hi;cases d2 with
   |l nq hq rq=>
    rename_i q ls fq;have qm:q∈fl:=d3.subset Ds;obtain⟨z1,z2⟩:=q3.2 q (c3.subset (Pa L qm));have neL:L≠q:=fun y=>(Pn.mp nd).1 (y▸qm);have neA:A≠q:=fun y=>by rw[y,hq]at hA;cases hA
    have t:=nx.wr nq z1 z2 (.lst []);obtain⟨fl',w1,w2⟩:=d5 q (.lst []) (.l []) ls [q] Ds hq (.l nq au .nil) (Rr.cons_cons _ (List.nil_sublist _));obtain⟨fp',y1,y2⟩:=c5 q (.lst []) (.l (rows.set m (.l []))) ls (L::fl') (Pa L qm) hq (.l nL (by rw[ak neL];exact hL) w1) (w2.cons_cons _);exact⟨A,L,q,us,vs,ls,q1,hA,c1,hL,d1,hq,neL,neA,t.st,t.stp,t.own,t.fx,_,fp',q1,.t nA (by rw[ak neA];exact hA) y1,q3.sub y2⟩
theorem J3{K:Pf}{z:Nat}{cz:Int}(hcz:cz=(z:Int))(h:tDC j (Dm.wo z) D σ H):ir (En K "list" rz (tOp (vK K) (eO j) (tC (.int cz)))) D σ H:=by
 subst hcz;obtain⟨σs,ρs,H0s,Hs,H0,ρ,p,o,n,e,k⟩:=h;unfold Dm.wo at e;split at e
 case h_2=>cases e
 rename_i xs;split at e
 case h_2=>cases e
 rename_i rows gJ;cases e;obtain⟨A,L,us,vs,q1,q2,q3,q4,q5⟩:=n.OL gJ;exact⟨_,q1,A,us,(z:Int),.ref L,rfl,rfl,.of q2,J2 q3,.inl ⟨rfl,vs,.inl (.inl q4)⟩,L,vs,rfl,rfl,q4,k σ H0 _ q5 (ai.refl _)⟩
end
end
section
variable{X:Cx}{e:Expr}{es:List Expr}{f:FE}{pos:Pos}{j:Nat}{b:Bool}
theorem G0(z:Nat){x:Str}{px sp ap cp ip:Pos}{cz:Int}{jc}(hcz:cz=(z:Int):=by rfl)(hi:X.N[j]?=some x:=by rfl)(hv:Vis X.env.scope x:=by trivial)(hd:(x == ("__debug__" : Str))=false:=by decide)
  (G3:(x == ("__classdict__" : Str))=false:=by decide) (Ct:b9 (.Constant (.int cz) jc ip):=by intro _ _;rfl) (Fd:attributeBase (.Subscript (.Name x px) (.Constant (.int cz) jc ip) sp) "clear" X.env (eval (.Subscript (.Name x px) (.Constant (.int cz) jc ip) sp) X.env)=eval (.Subscript (.Name x px) (.Constant (.int cz) jc ip) sp) X.env:=by rfl)
  (Cu:(ap.endLine == cp.line)=true:=by rfl) (hsw:swapsWith (.Call (.Attribute (.Subscript (.Name x px) (.Constant (.int cz) jc ip) sp) "clear" ap) [] [] cp) none pos.line X.env=pure false:=by rfl) :
  DC X j (.Expr (.Call (.Attribute (.Subscript (.Name x px) (.Constant (.int cz) jc ip) sp) "clear" ap) [] [] cp) pos) (Dm.wo z):=
 PS.weak (dj (vM Qv Ru Rv mU (iu ku (bM hi hv hd G3) kj Ct) Fd Cu) hsw) fun _ _ _=>J3 hcz
end
end Br
namespace HT
open PySem PySem.Spec PyProof.Rows
section
open PySem.SeqAt
open PySem.AutoSeq1 (wpAny_loadPart')
open PySem.MeetsSeq PySem.MeetsSeq2 PySem.MeetsSeq3
variable{prog:Program}{w:World}{A:Around}{E:Value->Shared->Prop}{s:Shared}
theorem ie{t sl:Addr}{items:Array Value}{vl vu:Value}{lo hi:Option Int}{Q:Value->Shared->Prop}(ht:IsTup s.heap t items)(hs:s.heap.IsSliceOf sl vl vu .none)(pl:IsPart vl lo)(pu:IsPart vu hi)
  (hw:sIx items.size 0 lo=0/\sIx items.size items.size hi=items.size) (h:Q (.ref t) s):wpAny (model prog w) A (getItem (.ref t) (.ref sl)) Q E s:=by
 obtain⟨os,hos,hcs,hds⟩:=id hs;have hTs:s.TypeIs (.ref sl) "slice" := ⟨os,hos,hcs⟩
 unfold getItem
 try with_reducible refine wpAny_holding ?_
 first | refine wpAny_bind (wpAny_pure ?_) | skip
 refine wpAny_bind (wpAny_sequenceKey ht.typeIs (by decide) ?_);refine wpAny_bind (wpAny_callSpecial?_slot (name:=Str.ofString "__getitem__") ht.typeIs Qu
  (wpAny_call_entry Qu ht.typeIs entry_tuple_getitem ?_ (args_tuple_getitem _ _)))
 show wpAny _ _ (Builtin.Tuple.tupleItemsOf (.ref t) >>= _) _ _ s;refine wpAny_bind (tupleItemsOf_ ht ?_);refine wpAny_bind (wpAny_typeOf hTs ?_);rw[if_pos (by decide)];refine wpAny_bind (eS hs pl pu ?_);have hyes:(((sIx items.size 0 lo:Nat):Int) == 0&&(1:Int) == 1&&(sIx items.size items.size hi-sIx items.size 0 lo) == items.size)=true:=by rw[hw.1,hw.2];simp
 show wpAny _ _ (if (((sIx items.size 0 lo:Nat):Int) == 0&&(1:Int) == 1&&(sIx items.size items.size hi-sIx items.size 0 lo) == items.size)=true then _ else _) _ _ s;rw[if_pos hyes];refine wpAny_bind (m:=Builtin.Tuple.tupleIsExact _) ?_;unfold Builtin.Tuple.tupleIsExact;refine wpAny_bind (wpAny_typeOf ht.typeIs (wpAny_pure ?_));rw[if_pos (by decide)];refine wpAny_bind (wpAny_rule ?_)
 first
  |exact wpAny_pure ⟨_,rfl,wpAny_pure h⟩
  |exact wpAny_bind (wpAny_pure (wpAny_pure ⟨_,rfl,wpAny_pure h⟩))
  |exact wpAny_bind (wpAny_pure ⟨_,rfl,wpAny_pure h⟩)
end
end HT
namespace Br
open PySem PySem.Spec PyProof.Rows L2
def MN(K:Pf):V->Option Int->Option Int->Hp->VK->Prop:=fun x lo hi H Q=>∃a xs,x=.ref a/\SqT K H a xs /\
 ((¬(HT.sIx xs.length 0 lo=0/\HT.sIx xs.length xs.length hi=xs.length)/\∀p,H p=none->Q (.ref p) (upd H p (.tup (l8 xs lo hi))))\/((HT.sIx xs.length 0 lo=0/\HT.sIx xs.length xs.length hi=xs.length)/\Q (.ref a) H))
theorem Fb{X:Cx}:SlR X (MN X.K):=by
 intro jV s σ H x v vl vu lo hi sl Q I rx hs pl pu h;obtain⟨a,xs,rfl,hx,⟨hw,q⟩ | ⟨hw,q⟩⟩:=h
 ·exact AF jV s σ H _ v vl vu lo hi sl Q I rx hs pl pu ⟨a,xs,rfl,hx,hw,q⟩
 ·cases rx;obtain⟨its,r,ht,hz⟩:=I.tuple hx;have B3:its.toArray.size=xs.length:=by rw[Po];exact r.length.symm
  refine⟨"tuple",_,Qu.lookup,ht.typeIs,?_⟩;exact HT.ie ht hs pl pu (by rw[B3];exact hw) ⟨.ref a,H,I,rfl,q⟩
theorem zJ{ds:List Dat}{l h:Option Int}(w:Dm.sIx ds.length 0 l=0/\Dm.sIx ds.length ds.length h=ds.length):Dm.cut ds l h=ds:=by unfold Dm.cut;rw[w.1,w.2];simp
section
variable{X:Cx}{e:Expr}{f:FE}{p2 pos:Pos}
theorem MO{K:Pf}{lo hi:Option FE}{σ:L2.St}{H:Hp}{Q:VK}(h:tD (Dm.wk f lo hi) σ H Q):tSl (MN K) (tD f) (tOf lo) (tOf hi) σ H Q:=by
 obtain⟨H0,ρ,x,ρ',st,e,k⟩:=h;unfold Dm.wk at e;split at e
 ·cases e
 rename_i x1 ρ1 e1;split at e
 ·cases e
 rename_i l ρ2 e2;split at e
 ·cases e
 rename_i hh ρ3 e3;split at e
 ·rename_i ds p1;cases e;refine⟨H0,ρ,x1,ρ1,st,e1,fun v H1 Hb t1 r1=>?_⟩;refine gY t1.st e2 fun H2 Hc t2=>?_;refine gY t2.st e3 fun H3 Hd t3=>?_;have tt:=t1.trans (t2.trans t3);rcases (r1.mono (t2.trans t3)).look t3.st p1 with rp | ⟨_,_,z⟩
  ·cases rp with
   |tup qa ra=>
    rename_i a xs;refine⟨a,xs,rfl,SqT.of (t3.st.same _ _ qa),?_⟩;by_cases hw:Dm.sIx ds.length 0 l=0/\Dm.sIx ds.length ds.length hh=ds.length
    ·refine .inr ⟨?_,?_⟩
     ·rw[ra.length,gB _ _ _ (Qd _),gB _ _ _ (Pj _)];exact hw
     ·refine k _ _ _ tt ?_;show Rep H3 (.ref a) (.tup (Dm.cut ds l hh));rw[zJ hw];exact .tup qa ra
    ·refine .inl ⟨?_,fun q hq=>?_⟩
     ·rw[ra.length,gB _ _ _ (Qd _),gB _ _ _ (Pj _)];exact hw
     ·have g:=aI.A2 (o:=HO.tup (l8 xs l hh)) t3.st.same hq;exact k _ _ _ (tt.trans (.grow t3.st g)) (.tup au ((kK ra l hh).mono g.s0))
  ·exact z.elim
 ·cases e
theorem MP{lo hi:Option Expr}{flo fhi:Option FE}(h:DE X e f)(hl:PO X lo (tOf flo))(hh:PO X hi (tOf fhi)):DE X (.Subscript e (.Slice lo hi none p2) pos) (Dm.wk f flo fhi):=PE.weak (mT Fb h hl hh) fun _ _ _=>MO
end
end Br
namespace Dm
noncomputable def eFT(f:List Dat->Option Dp)(as:List FE):FE:=fun ρ=>match eAs as ρ with
 |none=>none
 |some (xs,ρ1)=>match pks ρ1 xs with
  |none=>none
  |some ds=>match f ds with
   |none=>none
   |some p=>if aK p=true then some (.val p.dat,ρ1) else none
end Dm
namespace Br
open PySem PySem.Spec PyProof.Rows L2
theorem MQ{σ:L2.St}{H:Hp}{Q:VK}{f:List Dat->Option Dm.Dp}{fs:List FE}{E:XK}(h:tD (Dm.eFT f fs) σ H Q):gk (spP f) [] E (tDA fs) σ H Q:=by
 obtain⟨H0,ρ,x,ρ',st,e,k⟩:=h;unfold Dm.eFT at e;split at e
 ·cases e
 rename_i xs ρ1 e1;split at e
 ·cases e
 rename_i ds e2;split at e
 ·cases e
 rename_i p ep;split at e
 case isFalse=>cases e
 rename_i lk;cases e;refine⟨H0,ρ,xs,_,st,e1,fun vs H1 Hb t1 r1=>?_⟩;dsimp only;rw[Qe];refine⟨bor H1 Hb (Look H σ ρ'),ds,p,g7 t1.st.same,nN t1.st r1 e2,ep,fun v H3 Hd fp g3 r3 nd n3=>?_⟩;have up:ai Hb Hd:=g3.s1;have up4:ai H1 (cpy H H1 Hb H3 Hd):=dR;have ks:∀b us,H3 b=some (.tup us)->cpy H H1 Hb H3 Hd b=some (.tup us):=fun b us h=>by
  have hd:=g3.s3 _ _ h;rcases g3.s2 b _ h with z | z
  ·rw[g8 t1.st.same z];exact hd
  ·have hH:=g7 t1.st.same _ _ z;unfold bor at z;split at z
   ·rename_i o q;cases z;exact dR _ _ q
   ·rename_i q;split at z
    ·rename_i lk;rcases lk with lk | lk
     ·unfold cpy;rw[q];dsimp only;rw[if_neg (by rw[hH];simp),h];dsimp only;rw[if_pos lk]
     ·exact(t1.st.gH hH lk).elim
    ·cases z
 have st4:av (cpy H H1 Hb H3 Hd) Hd σ ρ':=by
  refine⟨fun b u e'=>?_,t1.st.len,fun i d h=>?_,fun i d h=>?_,t1.st.dis⟩
  ·rcases cH e' with y | ⟨_,y⟩ | ⟨_,y,_⟩
   ·exact up _ _ (t1.st.same _ _ y)
   ·exact y
   ·exact g3.s3 _ _ y
  ·obtain⟨u,z,y⟩:=t1.st.sh i d h;exact⟨u,z,y.mono up4⟩
  ·obtain⟨b,z,n0,y⟩:=t1.st.ow i d h;obtain⟨w,hw⟩:=y.some;refine⟨b,z,?_,y.mono up4 ((up _ _ hw).trans hw.symm)⟩;cases q:cpy H H1 Hb H3 Hd b with
   |none=>rfl
   |some u=>
    rcases cH q with y' | ⟨y',_⟩ | ⟨_,y',us',rfl⟩
    ·rw[n0]at y';cases y'
    ·rw[hw]at y';cases y'
    ·have:=g3.s3 _ _ y';rw[up _ _ hw]at this;cases this;exact(t1.st.gH hw ⟨i,d,h,z⟩).elim
 have stp:Stp (ah σ ρ) H0 H (cpy H H1 Hb H3 Hd) Hd:=by
  refine⟨t1.stp.s0.trans up4,fun b u e' no=>up _ _ (t1.stp.s1 b u e' no),fun b u e'=>?_,fun b u e'=>?_⟩
  ·rcases cH e' with y | ⟨y,_⟩ | ⟨y,_⟩
   ·exact t1.stp.s2 b u y
   ·exact .inl (t1.stp.gone y)
   ·exact .inl y
  ·obtain⟨o',q⟩:=t1.stp.s3 b u e';exact⟨o',up _ _ q⟩
 refine k _ _ Hd ⟨st4,stp,t1.own,fun i _=>trivial⟩ (r3.share (fun b us' n h=>?_) ks (fun b hb=>?_) lk)
 ·rw[g8 t1.st.same n];exact h
 ·exact g8 t1.st.same (r3.fpN b hb).1
section
variable{X:Cx}{e:Expr}{es:List Expr}{fs:List FE}{pos p:Pos}
theorem uc{k:Nat}{F:Addr}{fd:FuncData}{ps:List Str}{h:List Dat->Option Dm.Dp}{x:Str}(G:aT X.prog X.w X.K X.mg X.base CX0 k F fd ps (spP h))(hr:br k X.A)(hg:Gl X x)(hm:X.mg x=some (.ref F))(hk:Qq X.K (.ref F)=true)(hb:Binds X.K fd ps [])
  (ha:DA X (e::es) fs) (M0:(x == ("__debug__" : Str))=false:=by decide) (he:starEach (e::es) X.env=(false,eval e X.env)::starEach es X.env:=by rfl) (Ct:(backTo pos (starEach es X.env)).any (·.1)=false:=by rfl) :
  DE X (.Call (.Name x p) (e::es) [] pos) (Dm.eFT h fs):=PE.weak (fB G hr hg hm hk hb .nil (jE (X:=X)) ha M0 he Ct) fun _ _ _=>MQ
end
end Br
set_option maxHeartbeats 4000000
namespace Ts
open PySem PyProof.Rows
variable{A:Around}{E:Value->Shared->Prop}{s:Shared}{prog:Program}{w:World}
end Ts
namespace Br
open PySem PySem.Spec PyProof.Rows L2
theorem okQ{P:Program}{w:World}{K:Pf}{mg:Str->Option Value}{base:Heap}{x qual:Str}{st:Stmt}{f:Addr}{fd:FuncData}{N ps:List Str}{k n m:Nat}{body:FS}(F:Fun K x qual st f fd)(S:aD N ps (aj st))
  (hb:∀(cdv:Value) (A:Around) (outer:List Env) (s:Shared) (H:Hp) (E:XK),br k (A.deeper (envOfC qual (aj st) s.heap.objs.size f cdv))->DSs (vG CX0 P w K mg base N qual (aj st) f cdv A outer s H E).nox (aZ st) body)
  (hn:ps.length=n:=by rfl) (hm:N.length=n+m:=by rfl):aT P w K mg base CX0 (k+1) f fd ps (spD (Dm.fn n m body)):=
 F.ok S (fun vs H Q E h=>(A_ h).trans hn.symm) fun cdv A outer s H vs Q E hr h=>⟨_,hb cdv A outer s H E hr,Oe hm h⟩
end Br
namespace L2
open PySem PySem.Spec PyProof.Rows
section
variable{P:Program}{w:World}{K:Pf}{mg:Str->Option Value}{base:Heap}{N:List Str}{qual:Str}{scope:Scope}{f:Addr}{cd:Value}{A:Around}{outer:List Env}{s₀:Shared}{H₀:Hp}{E:XK}{C:Addr}
 {jV:List (Addr×Obj)} {σ:St} {H:Hp} {s:Shared}
end
end L2
namespace Dm
noncomputable def pN(f:FE):FP:=fun ρ=>match f ρ with
 |some (.new (.lst ds),ρ1)=>some (.l (ds.map .s),ρ1)
 |_=>none
noncomputable def qq(j:Nat)(c:Int)(i:FE):FC:=fun ρ p=>match p with
 | .t xs=>(match ixN xs.length c with
  |none=>none
  |some m0=>match xs[m0]? with
   | some (.l rows)=>(match i (see j ρ p) with
    | some (.val (.int k),_)=>(match ixN rows.length k with
     |none=>none
     |some m=>match rows[m]? with
      |some (.l _)=>some (.nx ρ (.t (xs.set m0 (.l (rows.set m (.l []))))))
      |_=>none)
    |_=>none)
   |_=>none)
 |_=>none
end Dm
namespace Br
open PySem PySem.Spec PyProof.Rows L2
section
variable{D:Ends}{σ:L2.St}{H:Hp}{j:Nat}
theorem Fc{K:Pf}{c:Int}{fi:FE}(h:tDC j (Dm.qq j c fi) D σ H):ir (En K "list" rz (tOp (zd K) (tOp (vK K) (eO j) (tC (.int c))) (tD fi))) D σ H:=by
 obtain⟨σs,ρs,H0s,Hs,H0,ρ,p,o,n,e,k⟩:=h;unfold Dm.qq at e;split at e
 case h_2=>cases e
 rename_i xs;split at e
 ·cases e
 rename_i m0 em0;split at e
 case h_2=>cases e
 rename_i rows gJ;split at e
 case h_2=>cases e
 rename_i z ρ1 e1;split at e
 ·cases e
 rename_i m em;split at e
 case h_2=>cases e
 rename_i items hi;cases e;have lens:∀{Hx:Hp} {A L:Addr} {us vs:List V},MS j σs ρs H0s Hs σ ρ H0 Hx (.t xs)->σ[j]?=some (some (.ref A))->Hx A=some (.tup us)->us[m0]?=some (.ref L)->Hx L=some (.lst vs)->us.length=xs.length/\vs.length=rows.length:=fun {Hx A L us vs} nx a1 a2 a3 a4=>by
  obtain⟨v,fp,b1,b2,b3⟩:=nx.ex;rw[a1]at b1;cases b1;cases b2 with
  |t nA hA rs=>
   rw[a2]at hA;cases hA;obtain⟨v',f',c1,c2,c3,c5⟩:=rs.jU b3.1 gJ;rw[a3]at c1;cases c1;cases c2 with
   |l nL hL rl=>rw[a4]at hL;cases hL;exact⟨rs.length,rl.length⟩
 obtain⟨A,L,q,us,vs,ls,q1,q2,q3,q4,q5,q6,neL,neA,_⟩:=n.MM gJ hi;obtain⟨l1,l2⟩:=lens n q1 q2 q3 q4;refine⟨_,q1,A,us,c,.ref L,rfl,rfl,.of q2,?_,?_⟩
 ·show (L2.ixN us.length c).bind (fun j=>us[j]?)=_;rw[l1,<- fE,em0];exact q3
 refine⟨_,_,_,ρ1,n.see,e1,fun y H1 Hb t1 r1=>?_⟩;have g1:=n.seen t1;have n1:=n.grow g1;refine⟨L,vs,z,.ref q,rfl,Rep.isInt r1,.inl (.inl (g1.s1 _ _ q4)),?_,.inl ⟨rfl,ls,.inl (.inl (g1.s1 _ _ q6))⟩,?_⟩
 ·show (L2.ixN vs.length z).bind (fun j=>vs[j]?)=_;rw[l2,<- fE,em];exact q5
 obtain⟨A',L',q',us',vs',ls',j1,j2,j3,j4,j5,j6,_,_,jk⟩:=n1.MM gJ hi;rw[q1]at j1;cases j1;have eu:us'=us:=by have:=g1.s1 _ _ q2;rw[j2]at this;cases this;rfl
 subst eu;rw[q3]at j3;cases j3;have ev:vs'=vs:=by have:=g1.s1 _ _ q4;rw[j4]at this;cases this;rfl
 subst ev;rw[q5]at j5;cases j5;exact⟨q,ls',rfl,rfl,j6,k σ H0 _ jk (ai.refl _)⟩
end
section
variable{X:Cx}{e c:Expr}{es:List Expr}{f:FE}{BZ:List Stmt}{pos:Pos}{j:Nat}
theorem J4{x:Str}{i:Expr}{fi:FE}{px sp sp2 ap cp ip:Pos}{z:Int}{jc}(hi':DE X i fi)(hi:X.N[j]?=some x:=by rfl)(hv:Vis X.env.scope x:=by trivial)(hd:(x == ("__debug__" : Str))=false:=by decide)
  (G3:(x == ("__classdict__" : Str))=false:=by decide) (Ct:b9 i:=by intro _ _;rfl) (hpz:b9 (.Constant (.int z) jc ip):=by intro _ _;rfl) (Fd:attributeBase (.Subscript (.Subscript (.Name x px) (.Constant (.int z) jc ip) sp2) i sp) "clear" X.env (eval (.Subscript (.Subscript (.Name x px) (.Constant (.int z) jc ip) sp2) i sp) X.env)=eval (.Subscript (.Subscript (.Name x px) (.Constant (.int z) jc ip) sp2) i sp) X.env:=by rfl)
  (Cu:(ap.endLine == cp.line)=true:=by rfl) (hsw:swapsWith (.Call (.Attribute (.Subscript (.Subscript (.Name x px) (.Constant (.int z) jc ip) sp2) i sp) "clear" ap) [] [] cp) none pos.line X.env=pure false:=by rfl) :
  DC X j (.Expr (.Call (.Attribute (.Subscript (.Subscript (.Name x px) (.Constant (.int z) jc ip) sp2) i sp) "clear" ap) [] [] cp) pos) (Dm.qq j z fi):=
 PS.weak (dj (vM Qv Ru Rv mU (iu jC (iu ku (bM hi hv hd G3) kj hpz) hi' Ct) Fd Cu) hsw) fun _ _ _=>Fc
end
end Br
namespace Ts
open PySem PyProof.Rows
variable{A:Around}{E:Value->Shared->Prop}{s:Shared}{prog:Program}{w:World}
end Ts
namespace Dm
noncomputable def qt(j:Nat)(c:Int)(i1 i2 e:FE):FC:=fun ρ p=>match p with
 | .t xs=>(match ixN xs.length c with
  |none=>none
  |some m0=>match xs[m0]? with
   | some (.l rows)=>(match i1 (see j ρ p) with
    | some (.val (.int k1),_)=>(match ixN rows.length k1 with
     |none=>none
     |some m1=>match rows[m1]? with
      | some (.l ways)=>(match i2 (see j ρ p) with
       | some (.val (.int k2),_)=>(match e (see j ρ p) with
        | some (.val d,_)=>if cZ d then none else (match nK ways k2 d with
         |some qu=>some (.nx ρ (.t (xs.set m0 (.l (rows.set m1 (.l qu))))))
         |none=>none)
        |_=>none)
       |_=>none)
      |_=>none)
    |_=>none)
   |_=>none)
 |_=>none
noncomputable def fnE(n m:Nat)(g:FM)(p:Dp)(ds:List Dat):Option Dat:=if ds.length+1=n then (match g (.un::ds.map Cell.sh++gV m .un) p with
 |some (.ret (.val d) _)=>if cZ d then none else some d
 |_=>none) else none
noncomputable def wu(j:Nat)(f:Dp->List Dat->Option Dat)(as:List FE)(t:FT)(fs gs:FS):FM:=fun ρ p=>match eAs as ρ with
 |none=>none
 |some (xs,ρ1)=>match tks ρ1 xs with
  |none=>none
  |some (ds,ρ2)=>match f p ds with
   | some (.bl true)=>(match t ρ2 with
    |none=>none
    | some (true,ρ3)=>(match fs ρ3 with
     |some (.nx _)=>none
     |o=>o)
    |some (false,ρ3)=>gs ρ3)
   | some (.bl false)=>(match fs ρ2 with
    |some (.nx _)=>none
    |o=>o)
   |_=>none
noncomputable def pIf(t:FT)(f g:FP):FP:=fun ρ=>match t ρ with
 |none=>none
 |some (true,ρ1)=>f ρ1
 |some (false,ρ1)=>g ρ1
noncomputable def pFp(a i:Nat)(h:List Dat->Option Dp)(as:List FE):FP:=fun ρ=>match ρ[i]? with
 |some (.sh (.fn b))=>if b=a then dg h as ρ else none
 |_=>none
noncomputable def kU(j:Nat)(is:List Nat)(f:FP):FC:=fun ρ p=>if is.all (fun i=>!decide (i=j)) then (match f (see j ρ p) with
 | some (.t qs,_)=>if aV qs then (match sets is (Dp.nG qs) ρ with
  |some ρ'=>some (.nx ρ' p)
  |none=>none) else none
 |_=>none) else none
end Dm
namespace Br
open PySem PySem.Spec PyProof.Rows L2
section
variable{D:Ends}{σ:L2.St}{H:Hp}{j:Nat}
theorem Fe{K:Pf}{c:Int}{f1 f2 f:FE}(h:tDC j (Dm.qt j c f1 f2 f) D σ H):ir (tBM K "list" jD (tOp (zd K) (tOp (zd K) (tOp (vK K) (eO j) (tC (.int c))) (tD f1)) (tD f2)) (tDA [f])) D σ H:=by
 obtain⟨σs,ρs,H0s,Hs,H0,ρ,p,o,n,e,k⟩:=h;unfold Dm.qt at e;split at e
 case h_2=>cases e
 rename_i xs;split at e
 ·cases e
 rename_i m0 em0;split at e
 case h_2=>cases e
 rename_i rows gJ;split at e
 case h_2=>cases e
 rename_i y1 ρa ea;split at e
 ·cases e
 rename_i m1 em1;split at e
 case h_2=>cases e
 rename_i ways MR;split at e
 case h_2=>cases e
 rename_i z ρ1 e1;split at e
 case h_2=>cases e
 rename_i d ρ2 e2;split at e
 ·cases e
 rename_i nb;split at e
 case h_2=>cases e
 rename_i qu er;cases e;unfold Dm.nK at er;split at er
 ·cases er
 rename_i m em;split at er
 case h_2=>cases er
 rename_i items hi;split at er
 case isFalse=>cases er
 rename_i hz;cases er;have key:∀{Hx:Hp},MS j σs ρs H0s Hs σ ρ H0 Hx (.t xs)->∃(A L M q:Addr) (us vs ts ls:List V),σ[j]?=some (some (.ref A))/\Hx A=some (.tup us)/\us.length=xs.length/\us[m0]?=some (.ref L)/\Hx L=some (.lst vs)/\vs.length=rows.length/\vs[m1]?=some (.ref M)/\Hx M=some (.lst ts)/\ts.length=ways.length/\ts[m]?=some (.ref q)/\Hx q=some (.lst ls)/\ls.length=items.length /\
   ∀w,Rep H0 w d->MS j σs ρs H0s Hs σ ρ H0 (upd Hx q (.lst (ls++[w]))) (.t (xs.set m0 (.l (rows.set m1 (.l (ways.set m (.l (items++[.s d])))))))):=fun {Hx} nx=>by
  obtain⟨v,fp,q1,q2,q3⟩:=nx.ex;cases q2 with
  |t nA hA rs=>
   rename_i A us;obtain⟨v',f',c1,c2,c3,c4,c5⟩:=rs.change q3.1 gJ;cases c2 with
   |l nL hL rl=>
    rename_i L vs fl;obtain⟨v2,f2,d1,d2,d3,d4,d5⟩:=rl.change (Pn.mp c4).2 MR;cases d2 with
    |l nM hM rm=>
     rename_i M ts fm;obtain⟨q,ls,w1,w2,w3,w4,w5⟩:=rm.put (Pn.mp d4).2 hi;have qM:=Pa M w2;have ql:=d3 q qM;have qm:=Pa L ql;obtain⟨z1,z2⟩:=q3.2 q (c3 q qm);have neL:L≠q:=fun y=>(Pn.mp c4).1 (y▸ql);have neM:M≠q:=fun y=>(Pn.mp d4).1 (y▸w2);refine⟨A,L,M,q,us,vs,ts,ls,q1,hA,rs.length,c1,hL,rl.length,d1,hM,rm.length,w1,w3,w4,fun w rw=>?_⟩;have t:=nx.wr (rm.fpN q w2).1 z1 z2 (.lst (ls++[w]));have neA:A≠q:=fun y=>by rw[y,w3]at hA;cases hA
     exact⟨t.st,t.stp,t.own,t.fx,_,fp,q1,.t nA (by rw[ak neA];exact hA) (c5 q _ _ ls qm w3 (.l nL (by rw[ak neL];exact hL) (d5 q _ _ ls qM w3 (.l nM (by rw[ak neM];exact hM) (w5 w d rw))))),q3⟩
 obtain⟨A,L,M,q,us,vs,ts,ls,k1,k2,k3,k4,k5,k6,k7,k8,k9,k10,k11,k12,_⟩:=key n;refine⟨_,k1,A,us,c,.ref L,rfl,rfl,.of k2,?_,?_⟩
 ·show (L2.ixN us.length c).bind (fun j=>us[j]?)=_;rw[k3,<- fE,em0];exact k4
 refine⟨_,_,_,ρa,n.see,ea,fun y H0a Ha ta ra=>?_⟩;have ga:=n.seen ta;have na:=n.grow ga;refine⟨L,vs,y1,.ref M,rfl,Rep.isInt ra,.inl (.inl (ga.s1 _ _ k5)),?_,?_⟩
 ·show (L2.ixN vs.length y1).bind (fun j=>vs[j]?)=_;rw[k6,<- fE,em1];exact k7
 refine⟨_,_,_,ρ1,na.see,e1,fun y H1 Hb t1 r1=>?_⟩;have g1:=ga.trans (na.seen t1);have n1:=n.grow g1;refine⟨M,ts,z,.ref q,rfl,Rep.isInt r1,.inl (.inl (g1.s1 _ _ k8)),?_,.inl ⟨rfl,ls,.inl (.inl (g1.s1 _ _ k11))⟩,?_⟩
 ·show (L2.ixN ts.length z).bind (fun j=>ts[j]?)=_;rw[k9,<- fE,em];exact k10
 refine⟨_,_,[.val d],ρ2,n1.see,by unfold Dm.eAs;rw[e2];rfl,fun ws H2 Hc t2 r2=>?_⟩;cases r2 with
 |cons r rr=>
  cases rr;rename_i wv;have g2:=n1.seen t2;have n2:=n1.grow g2;have rp:Rep H0 wv d:=Rep.plain r (by simpa using nb);obtain⟨A',L',M',q',us',vs',ts',ls',j1,j2,j3,j4,j5,j6,j7,j8,j9,j10,j11,j12,jk⟩:=key n2;rw[k1]at j1;cases j1;have g:=g1.trans g2;have eu:us'=us:=by have:=g.s1 _ _ k2;rw[j2]at this;cases this;rfl
  subst eu;rw[k4]at j4;cases j4;have ev:vs'=vs:=by have:=g.s1 _ _ k5;rw[j5]at this;cases this;rfl
  subst ev;rw[k7]at j7;cases j7;have et:ts'=ts:=by have:=g.s1 _ _ k8;rw[j8]at this;cases this;rfl
  subst et;rw[k10]at j10;cases j10;have el:ls'=ls:=by have:=g.s1 _ _ k11;rw[j11]at this;cases this;rfl
  subst el;exact⟨q,ls',_,rfl,rfl,j11,by rw[j12];exact PD hz (by decide),k σ H0 _ (jk wv rp) (ai.refl _)⟩
end
section
variable{X:Cx}{e:Expr}{f:FE}{pos:Pos}{j:Nat}
theorem J5{x:Str}{i1 i2:Expr}{f1 f2:FE}{px sp sp2 sp3 ap cp ip:Pos}{z:Int}{jc}(h1:DE X i1 f1)(h2:DE X i2 f2)(he:DE X e f)(hi:X.N[j]?=some x:=by rfl)(hv:Vis X.env.scope x:=by trivial)(hd:(x == ("__debug__" : Str))=false:=by decide)
  (G3:(x == ("__classdict__" : Str))=false:=by decide) (hp1:b9 i1:=by intro _ _;rfl) (hp2:b9 i2:=by intro _ _;rfl) (hpz:b9 (.Constant (.int z) jc ip):=by intro _ _;rfl) (Fd:attributeBase (.Subscript (.Subscript (.Subscript (.Name x px) (.Constant (.int z) jc ip) sp3) i1 sp2) i2 sp) "append" X.env (eval (.Subscript (.Subscript (.Subscript (.Name x px) (.Constant (.int z) jc ip) sp3) i1 sp2) i2 sp) X.env)=eval (.Subscript (.Subscript (.Subscript (.Name x px) (.Constant (.int z) jc ip) sp3) i1 sp2) i2 sp) X.env:=by rfl)
  (hfew:((backTo cp (starEach [e] X.env)).all (fun x=>!x.1)&&(backToKw cp (keywordEach [] X.env)).all (fun x=>x.1.isSome)
   && decide ([e].length+([]:List Keyword).length+(if ([]:List Keyword).isEmpty then 0 else 1)<30))=true:=by rfl)
  (Cu:(ap.endLine == cp.line)=true:=by rfl) (hs:starEach [e] X.env=(false,eval e X.env)::starEach [] X.env:=by rfl) (G1:(backTo cp (starEach [] X.env)).any (·.1)=false:=by rfl)
  (hsw:swapsWith (.Call (.Attribute (.Subscript (.Subscript (.Subscript (.Name x px) (.Constant (.int z) jc ip) sp3) i1 sp2) i2 sp) "append" ap) [e] [] cp) none pos.line X.env=pure false:=by rfl) :
  DC X j (.Expr (.Call (.Attribute (.Subscript (.Subscript (.Subscript (.Name x px) (.Constant (.int z) jc ip) sp3) i1 sp2) i2 sp) "append" ap) [e] [] cp) pos) (Dm.qt j z f1 f2 f):=
 PS.weak (dj (tu Qv Q6 Q7 eT (iu jC (iu jC (iu ku (bM hi hv hd G3) kj hpz) h1 hp1) h2 hp2) (aa he af hs) Fd hfew Cu hs G1) hsw) fun _ _ _=>Fe
end
section
variable{N:Addr->Prop}{H0 H:Hp}
mutual
theorem a_.nodes:∀{v:V} {p:Dm.Dp} {fp:List Addr},a_ N H0 H v p fp->∃ns:List Addr,a_ (fun a=>a∈ns) H0 H v p fp/\∀a∈ns,N a/\(a∈fp\/∃us,H a=some (.tup us))
 |_,_,_,.s r=>⟨[],.s r,fun a h=>by cases h⟩
 |_,_,_,.l (a:=a) n h r=>by
  obtain⟨ns,r1,k⟩:=aA.nodes r;refine⟨a::ns,.l Ds h (r1.mono (ai.refl _) (fun b hb=>Pa _ hb) (fun _ _ _ z=>z) fun _ _=>rfl),fun b hb=>?_⟩;rcases Pk.mp hb with rfl | hb
  ·exact⟨n,.inl Ds⟩
  ·exact⟨(k b hb).1,(k b hb).2.imp (fun z=>Pa _ z) id⟩
 |_,_,_,.t (a:=a) n h r=>by
  obtain⟨ns,r1,k⟩:=aA.nodes r;refine⟨a::ns,.t Ds h (r1.mono (ai.refl _) (fun b hb=>Pa _ hb) (fun _ _ _ z=>z) fun _ _=>rfl),fun b hb=>?_⟩;rcases Pk.mp hb with rfl | hb
  ·exact⟨n,.inr ⟨_,h⟩⟩
  ·exact k b hb
theorem aA.nodes:∀{vs:List V} {ps:List Dm.Dp} {fp:List Addr},aA N H0 H vs ps fp->∃ns:List Addr,aA (fun a=>a∈ns) H0 H vs ps fp/\∀a∈ns,N a/\(a∈fp\/∃us,H a=some (.tup us))
 |_,_,_,.nil=>⟨[],.nil,fun a h=>by cases h⟩
 |_,_,_,.cons h r=>by
  obtain⟨n1,r1,k1⟩:=a_.nodes h;obtain⟨n2,r2,k2⟩:=aA.nodes r;refine⟨n1++n2,.cons (r1.mono (ai.refl _) (fun b hb=>PK _ hb) (fun _ _ _ z=>z) fun _ _=>rfl) (r2.mono (ai.refl _) (fun b hb=>PB _ hb) (fun _ _ _ z=>z) fun _ _=>rfl),fun b hb=>?_⟩;rcases PV.mp hb with hb | hb
  ·exact⟨(k1 b hb).1,(k1 b hb).2.imp (fun z=>PK _ z) id⟩
  ·exact⟨(k2 b hb).1,(k2 b hb).2.imp (fun z=>PB _ z) id⟩
end
end
def spE(f:Dm.Dp->List Dat->Option Dat):Sp:=fun vs H Q _=>∃(H0:Hp) (v:V) (us:List V) (p:Dm.Dp) (fp ns:List Addr) (ds:List Dat) (d:Dat),vs=v::us/\ai H0 H/\a_ (fun a=>a∈ns) H0 H v p fp/\fp.Nodup/\(∀a∈fp,H0 a=none)/\aB H0 us ds/\f p ds=some d /\
 ∀v' H0' H',ai H0 H0'->(∀a o,H a=some o->a∉ns->H' a=some o)->(∀a o,H0' a=some o->(H a=none\/a∈ns)\/H0 a=some o)->ai H0' H'->Rep H0' v' d->Q v' H'
theorem Ff{n m:Nat}{g:Dm.FM}{vs:List V}{H:Hp}{Q:VK}{E:XK}(h:spE (Dm.fnE n m g) vs H Q E):vs.length=n:=by
 obtain⟨H0,v,us,p,fp,ns,ds,d,rfl,s,r,nd,n0,rs,e,k⟩:=h;unfold Dm.fnE at e;split at e
 ·rename_i hl;rw[PR,rs.length];exact hl
 ·cases e
open Classical in
theorem MT{N:List Str}{n m:Nat}{g:Dm.FM}{vs:List V}{H:Hp}{Q:VK}{E:XK}(hm:N.length=n+m)(h:spE (Dm.fnE n m g) vs H Q E) :
  tDM 0 g { nx:=fun _ H'=>Q .non H',rt:=Q } (start N vs) H:=by
 obtain⟨H0,v,us,p,fp,ns,ds,d,rfl,s,r,nd,n0,rs,e,k⟩:=h;unfold Dm.fnE at e;split at e
 case isFalse=>cases e
 rename_i hl;split at e
 case h_2=>cases e
 rename_i d' ρ' eg;split at e
 ·cases e
 cases e;obtain⟨st,no⟩:=t8 (ds:=.non::ds) (vs:=.non::us) (N:=N) (n:=n) (m:=m) hm (by rw[PR];exact hl) s (.cons .non rs);obtain⟨s1,s2⟩:=st.rV 0 (some v);have e1:(start N (.non::us)).set 0 (some v)=start N (v::us):=by unfold L2.start;simp
 have e2:(List.map Dm.Cell.sh (.non::ds)++gV m Dm.Cell.un).set 0 Dm.Cell.un=Dm.Cell.un::ds.map Dm.Cell.sh++gV m Dm.Cell.un:=rfl;rw[e1,e2]at s1 s2;have no':∀a,¬ah (start N (v::us)) (.un::ds.map Dm.Cell.sh++gV m .un) a:=fun a z=>no a (s2 a z)
 let Hs:Hp:=fun a=>if a∈ns then none else H a
 have hs:∀{a:Addr} {o:HO},Hs a=some o->a∉ns/\H a=some o:=fun {a o} z=>by
  have z:(if a∈ns then none else H a)=some o:=z;split at z
  ·cases z
  ·rename_i q;exact⟨q,z⟩
 have hsi:∀{a:Addr} {o:HO},a∉ns->H a=some o->Hs a=some o:=fun {a o} z q=>by show (if a∈ns then none else H a)=some o;rw[if_neg z];exact q
 have hsn:∀{a:Addr},a∈ns->Hs a=none:=fun {a} z=>by show (if a∈ns then none else H a)=none;rw[if_pos z]
 refine⟨_,_,H0,Hs,H0,_,p,_,⟨s1,⟨ai.refl _,fun a o z _=>(hs z).2,fun a o z=>.inr (.inl z),fun a o z=>⟨o,(hs z).2⟩⟩,fun a z=>.inl z,rfl,v,fp,?_,r.mono (ai.refl _) (fun a z=>hsn z) (fun _ _ _ z=>z) fun _ _=>rfl,nd,fun a ha=>⟨n0 a ha,no' a⟩⟩,eg,?_⟩
 ·unfold L2.start;simp
 ·intro σ' v' H0' H' t rep _;refine k v' H0' H' t.stp.s0 (fun a o z q=>t.stp.s1 a o (hsi q z) (no' a)) (fun a o z=>?_) t.st.same rep;rcases t.stp.s2 a o z with y | y | y
  ·left;by_cases q:a∈ns
   ·exact .inr q
   ·left;cases hh:H a with
    |none=>rfl
    |some o'=>rw[hsi q hh]at y;cases y
  ·exact .inr y
  ·exact(no' a y).elim
section
variable{D:Ends}{σ:L2.St}{H:Hp}{j:Nat}
theorem J6{f:Dm.Dp->List Dat->Option Dat}{fs:List FE}{t:FT}{g1 g2:FS}{E:XK}(h:tDM j (Dm.wu j f fs t g1 g2) D σ H) :
  gi (yV (L2.tOr (L2.cA (tB (gk (spE f) [] E (jA (eO j) (tDA fs))))) (tDT t)) (tDS g1) pV) (tDS g2) D σ H:=by
 obtain⟨σs,ρs,H0s,Hs,H0,ρ,p,o,n,e,k⟩:=h;unfold Dm.wu at e;split at e
 ·cases e
 rename_i xs ρ1 e1;split at e
 ·cases e
 rename_i ds ρ2 e2;obtain⟨v,fp,h1,h2,h3⟩:=n.ex;refine⟨v,h1,H0,ρ,xs,ρ1,n.st,e1,fun vs H1 Hb t1 r1=>?_⟩;dsimp only;rw[Qe];obtain⟨H2,t2,b2,r2⟩:=takes t1 (ai.refl _) r1 e2;have n2:=n.est t2;obtain⟨v',fp',y1,y2,y3⟩:=n2.ex;rw[h1]at y1;cases y1;obtain⟨ns,rn,kn⟩:=y2.nodes;have MU:∀a,ah σ ρ2 a->a∉ns:=fun a ow hn=>by
  rcases (kn a hn).2 with z | ⟨us,z⟩
  ·exact(y3.2 a z).2 ow
  ·exact n2.st.gH z ow
 have after:∀{H0' H':Hp},ai H2 H0'->(∀a o,Hb a=some o->a∉ns->H' a=some o)->(∀a o,H0' a=some o->(Hb a=none\/a∈ns)\/H2 a=some o)->ai H0' H'->SSt σs ρs H0s Hs σ ρ2 H0' H':=fun {H0' H'} a1 a2 a3 a4=>by
  refine⟨⟨a4,n2.st.len,fun i d h=>?_,fun i d h=>?_,n2.st.dis⟩,⟨n2.stp.s0.trans a1,fun a o z no=>?_,fun a o z=>?_,fun a o z=>?_⟩,n2.own,n2.fx⟩
  ·obtain⟨u,z,y⟩:=n2.st.sh i d h;exact⟨u,z,y.mono a1⟩
  ·obtain⟨a,z,z0,y⟩:=n2.st.ow i d h;have ow:ah σ ρ2 a:=⟨i,d,h,z⟩
   obtain⟨w,hw⟩:=y.some;refine⟨a,z,?_,y.mono a1 ((a2 a w hw (MU a ow)).trans hw.symm)⟩;cases q:H0' a with
   |none=>rfl
   |some w'=>
    rcases a3 a w' q with(y' | y') | y'
    ·rw[hw]at y';cases y'
    ·exact(MU a ow y').elim
    ·rw[z0]at y';cases y'
  ·have:=n2.stp.s1 a o z no;refine a2 a o this fun q=>?_;have:=(kn a q).1;rw[z]at this;cases this
  ·rcases a3 a o z with(y' | y') | y'
   ·exact .inl (n2.stp.gone y')
   ·exact .inl (kn a y').1
   ·exact n2.stp.s2 a o y'
  ·obtain⟨o',q⟩:=n2.stp.s3 a o z;refine⟨o',a2 a o' q fun q'=>?_⟩;have:=(kn a q').1;rw[z]at this;cases this
 have leave:∀{ρ':Dm.Env} {H0' H':Hp} {o':Dm.Out},SSt σs ρs H0s Hs σ ρ' H0' H'->(match g1 ρ' with | some (.nx _)=>none | o=>o)=some o'->lI D σs ρs H0s Hs o'->tDS g1 { D with nx:=tDS g2 D } σ H':=fun {ρ' H0' H' o'} t q kk=>by
  split at q
  ·cases q
  ·rename_i hn;have k1:=kk.pre t;refine⟨H0',ρ',o',t.st,q,?_⟩;cases o' with
   |nx ρ'=>exact(hn ρ' q).elim
   |bk ρ'=>exact k1
   |ct ρ'=>exact k1
   |ret z ρ'=>exact k1
 split at e
 ·-- what it says is true
  rename_i ef;refine⟨H2,v,vs,p,fp',ns,ds,_,rfl,t2.st.same,rn,y3.1,fun a ha=>(y3.2 a ha).1,r2,ef,fun w H0' H' a1 a2 a3 a4 rw'=>?_⟩;have t3:=after a1 a2 a3 a4;cases rw';refine⟨true,rfl,?_⟩;show (if (!true)=true then _ else _);rw[if_neg (by simp)];split at e
  ·cases e
  ·rename_i ρ3 et;refine⟨H0',ρ2,true,ρ3,t3.st,et,fun H4 Hd t4=>?_⟩;dsimp only;rw[if_pos rfl];exact leave (t3.trans t4.sst) e k
  ·rename_i ρ3 et;refine⟨H0',ρ2,false,ρ3,t3.st,et,fun H4 Hd t4=>?_⟩;dsimp only;rw[if_neg P0];have t5:=t3.trans t4.sst;exact⟨H4,ρ3,o,t5.st,e,k.pre t5⟩
 ·rename_i ef;refine⟨H2,v,vs,p,fp',ns,ds,_,rfl,t2.st.same,rn,y3.1,fun a ha=>(y3.2 a ha).1,r2,ef,fun w H0' H' a1 a2 a3 a4 rw'=>?_⟩;have t3:=after a1 a2 a3 a4;cases rw';refine⟨false,rfl,?_⟩;show (if (!false)=true then _ else _);rw[if_pos rfl];show (if true=true then _ else _);rw[if_pos rfl];exact leave t3 e k
 ·cases e
end
section
variable{σ:L2.St}{H:Hp}{Q:VK}{D:Ends}{j:Nat}
theorem MV{t:FT}{f g:Dm.FP}(h:tDp (Dm.pIf t f g) σ H Q):tIf (tDT t) (tDp f) (tDp g) σ H Q:=by
 obtain⟨H0,ρ,p,ρ',st,e,k⟩:=h;have go:∀{ρ1:Dm.Env} {H1 Hb:Hp} {u:Dm.FP},ESt σ ρ H0 H ρ1 H1 Hb->u ρ1=some (p,ρ')->tDp u σ Hb Q:=fun {ρ1 H1 Hb u} t1 e2=>⟨H1,ρ1,p,ρ',t1.st,e2,fun v H2 Hc fp t2 r fr=>k v H2 Hc fp (t1.trans t2) (r.mono (ai.refl _) (fun a z=>z.elim (fun y=>.inl (t1.stp.gone y)) fun y=>.inr (t1.own a y)) (fun _ _ _ z=>z) fun _ _=>rfl) fr⟩
 unfold Dm.pIf at e;split at e
 ·cases e
 ·rename_i ρ1 e1;refine⟨H0,ρ,true,ρ1,st,e1,fun H1 Hb t1=>?_⟩;dsimp only;rw[if_pos rfl];exact go t1 e
 ·rename_i ρ1 e1;refine⟨H0,ρ,false,ρ1,st,e1,fun H1 Hb t1=>?_⟩;dsimp only;rw[if_neg P0];exact go t1 e
theorem MW{F i:Nat}{f:List Dat->Option Dm.Dp}{fs:List FE}{E:XK}(h:tDp (Dm.pFp F i f fs) σ H Q):eO i σ H fun v _=>v=V.ref F/\gk (spP f) [] E (tDA fs) σ H Q:=by
 obtain⟨H0,ρ,x,ρ',st,e,k⟩:=h;unfold Dm.pFp at e;split at e
 ·rename_i b h1;split at e
  ·rename_i hb;subst hb;obtain⟨v,q,r⟩:=st.sh i _ h1;cases r;exact⟨_,q,rfl,yc ⟨H0,ρ,x,ρ',st,e,k⟩⟩
  ·cases e
 ·cases e
theorem MS.sets{σs:L2.St}{ρs:Dm.Env}{H0s Hs H0:Hp}{p:Dm.Dp}{Q:L2.St->Hp->Prop}:∀{is:List Nat} {xs:List V} {ds:List Dat} {σ:L2.St} {ρ ρ':Dm.Env},MS j σs ρs H0s Hs σ ρ H0 H p->(∀i∈is,i≠j)->aB H0 xs ds->Dm.sets is ds ρ=some ρ' ->
  (∀σ',MS j σs ρs H0s Hs σ' ρ' H0 H p->Q σ' H)->cE is xs σ H Q
 |[],_,[],σ,ρ,ρ',n,hj,r,e,k=>by cases r;cases e;exact⟨rfl,k σ n⟩
 |i::is,_,d::ds,σ,ρ,ρ',n,hj,r,e,k=>by
  cases r with
  |cons h r=>
   unfold Dm.sets at e;split at e
   ·cases e
   rename_i hi0;refine⟨_,_,rfl,?_⟩;exact MS.sets (n.set hi0 (hj i Ds) h) (fun i hi=>hj i (Pa _ hi)) r e k
 |[],_,_::_,_,_,_,_,_,_,e,_=>by cases e
 |_::_,_,[],_,_,_,_,_,_,e,_=>by cases e
theorem BX{K:Pf}{is:List Nat}{m:Nat}{f:Dm.FP}(hm:is.length=m)(h:tDC j (Dm.kU j is f) D σ H):jx (tDp f) (Eb K m (cE is)) D σ H:=by
 obtain⟨σs,ρs,H0s,Hs,H0,ρ,p,o,n,e,k⟩:=h;unfold Dm.kU at e;split at e
 case isFalse=>cases e
 rename_i hij;split at e
 case h_2=>cases e
 rename_i qs ρ1 e1;split at e
 case isFalse=>cases e
 rename_i lk;split at e
 case h_2=>cases e
 rename_i ρ' e3;cases e;refine⟨_,_,_,ρ1,n.see,e1,fun v H1 Hb fq t1 r1 g1=>?_⟩;obtain⟨n1,r⟩:=n.keep t1 r1 (by unfold Dm.aK;exact lk);unfold Dm.Dp.dat at r;cases r with
 |tup q rs=>refine⟨_,_,rfl,SqT.of (n1.st.same _ _ q),by rw[rs.length,jL e3,hm],?_⟩;exact MS.sets n1 (fun i hi=>by simpa using PY.mp hij i hi) rs e3 fun σ' n2=>k σ' _ Hb n2 dR
end
section
variable{X:Cx}{e a b c:Expr}{es:List Expr}{BZ body:List Stmt}{fs:List FE}{fp gp:Dm.FP}{pos p:Pos}{j:Nat}
section
variable{fd:FuncData}{ps:List Str}{F:Addr}{k:Nat}
theorem ON{t:FT}(hq:DT X c t)(ha:DP X a fp)(hb:DP X b gp):DP X (.IfExp c a b pos) (Dm.pIf t fp gp):=PE.weak (Ah hq ha hb) fun _ _ _=>MV
theorem OO{g:List Dat->Option Dm.Dp}(i:Nat){x:Str}(G:aT X.prog X.w X.K X.mg X.base CX0 k F fd ps (spP g))(hr:br k X.A)(hk:Qq X.K (.ref F)=true)(hb:Binds X.K fd ps [])
  (ha:DA X (e::es) fs) (hN:X.N[i]?=some x:=by rfl) (hv:Vis X.env.scope x:=by trivial) (hd:(x == ("__debug__" : Str))=false:=by decide) (G3:(x == ("__classdict__" : Str))=false:=by decide)
  (he:starEach (e::es) X.env=(false,eval e X.env)::starEach es X.env:=by rfl) (Ct:(backTo pos (starEach es X.env)).any (·.1)=false:=by rfl) :
  DP X (.Call (.Name x p) (e::es) [] pos) (Dm.pFp F i g fs):=PE.weak (tY i G hr hN hv hk hb (jE (X:=X)) ha hd G3 he Ct) fun _ _ _=>MW
theorem Fg{is:List Nat}{ts:List Expr}{k:Nat}{tpos:Pos}(hc:X.calm=true)(hg:PGs X ts (cE is))(he:DP X e fp)(hn:(assignEach ts X.env).length=is.length:=by rfl)(hst:(assignEach ts X.env).findIdx? (·.1)=none:=by rfl)
  (hs:swapsWithSole [.Tuple ts k tpos] e pos.line X.env=pure false:=by rfl) (hw:swappedStores [.Tuple ts k tpos] e X.env=pure none:=by rfl) (h1:(assignEach [.Tuple ts k tpos] X.env).map (·.2)=[assign (.Tuple ts k tpos) X.env]:=by rfl) :
  DC X j (.Assign [.Tuple ts k tpos] e pos) (Dm.kU j is fp):=PS.weak (vA he (qU hc hg hn hst) hs hw h1) fun _ _ _=>BX rfl
theorem MX{f:Dm.Dp->List Dat->Option Dat}{x y:Str}{t:FT}{g1 g2:FS}{rt:List Expr}{cpos npos bpos py:Pos}(G:aT X.prog X.w X.K X.mg X.base CX0 k F fd ps (spE f))(hr:br k X.A)(hg:Gl X x)(hm:X.mg x=some (.ref F))(hk:Qq X.K (.ref F)=true)(hb:Binds X.K fd ps [])
  (ha:DA X es fs) (ht:DW X (.BoolOp .Or (b::rt) bpos) t) (h1:DSs X body g1) (h2:DSs X BZ g2) (hi:X.N[j]?=some y:=by rfl) (hv:Vis X.env.scope y:=by trivial) (hd:(y == ("__debug__" : Str))=false:=by decide) (G3:(y == ("__classdict__" : Str))=false:=by decide)
  (M0:(x == ("__debug__" : Str))=false:=by decide) (he:starEach (.Name y py::es) X.env=(false,eval (.Name y py) X.env)::starEach es X.env:=by rfl) (Ct:(backTo cpos (starEach es X.env)).any (·.1)=false:=by rfl)
  (hv2:∀whole,isTrue (.Call (.Name x p) (.Name y py::es) [] cpos) X.env whole=(do let v <- whole;standAt (Expr.pos (.Call (.Name x p) (.Name y py::es) [] cpos));holding [v] (truthy v)):=by intro _;rfl) :
  DMs X j (.If (.BoolOp .Or (.UnaryOp .Not (.Call (.Name x p) (.Name y py::es) [] cpos) npos::b::rt) bpos) body [] pos::BZ) (Dm.wu j f fs t g1 g2):=
 PSs.weak (bf (sX (PW.pt (pw_or (Ag (Af (fB G hr hg hm hk hb .nil (jE (X:=X)) (dX (bM hi hv hd G3) ha he) M0 he Ct) hv2)) ht)) h1 jv) h2) fun _ _ _=>J6
end
end
end Br
namespace Dm
section
variable{o p:Option Dat}{K:RV->Prop}{Q:Val->Env->Prop}{ρ:Env}{R:RV->Env->Prop}{N:Env->Prop}{B C:Env->Prop}{d:Dat}{i j:Int}{f:List Dat->Option RV}{α:Type}{vs:List Dat}{ks:List Int}{as:List FE}{ds:List Dat}{xs:List Dat}{X Y:Prop}{a:FE}{g:Dat->Option RV}{e:FE}{lo hi:Option FE}{c:Bool}{body:FS}{v:RV}{ρ2 ρ3:Env}{t:FT}{n m:Nat}{s u:FS}{k:Int}{bd:FB}{it:FI}
def We(e:FE)(ρ:Env)(Q:Val->Env->Prop):Prop:=∃v ρ',e ρ=some (v,ρ')/\Q v ρ'
def Wt(t:FT)(ρ:Env)(Q:Bool->Env->Prop):Prop:=∃v ρ',t ρ=some (v,ρ')/\Q v ρ'
def Was(as:List FE)(ρ:Env)(Q:List Val->Env->Prop):Prop:=∃v ρ',eAs as ρ=some (v,ρ')/\Q v ρ'
def Wi(it:FI)(ρ:Env)(Q:List Dat->Env->Prop):Prop:=∃v ρ',it ρ=some (v,ρ')/\Q v ρ'
def KO(N:Env->Prop)(R:RV->Env->Prop)(B C:Env->Prop):Out->Prop
 |.nx ρ=>N ρ
 |.ret r ρ=>R r ρ
 |.bk ρ=>B ρ
 |.ct ρ=>C ρ
def Ws(s:FS)(ρ:Env)(N:Env->Prop)(R:RV->Env->Prop)(B C:Env->Prop):Prop:=∃o,s ρ=some o/\KO N R B C o
def Wr(o:Option RV)(P:RV->Prop):Prop:=∃r,o=some r/\P r
def Wif(c:Bool)(X Y:Prop):Prop:=(c=true->X)/\(c=false->Y)
def Wg1(g:Dat->Option RV)(o:Option Dat)(K:RV->Prop):Prop:=∃d v,o=some d/\g d=some v/\K v
def Wg2(g:Dat->Dat->Option RV)(o p:Option Dat)(K:RV->Prop):Prop:=∃d e v,o=some d/\p=some e/\g d e=some v/\K v
def WB(g:List Dat->Option RV)(o:Option (List Dat))(K:RV->Prop):Prop:=∃ds v,o=some ds/\g ds=some v/\K v
def WT(o:Option (List Dat×Env))(K:List Dat->Env->Prop):Prop:=∃ds ρ,o=some (ds,ρ)/\ds.length<=SZ/\K ds ρ
def WF(f:List Dat->Option RV)(ρ:Env)(xs:List Val)(Q:Val->Env->Prop):Prop:=∃ds v,pks ρ xs=some ds/\f ds=some v/\(if cZ v.dat then ∃ds' ρ2,tks ρ xs=some (ds',ρ2)/\Q v.bG ρ2 else Q v.bG ρ)
def Wk(ρ:Env)(x:Val)(K:Dat->Env->Prop):Prop:=∃d ρ',tk ρ x=some (d,ρ')/\K d ρ'
def Wp(o:Option FE)(ρ:Env)(K:Option Int->Env->Prop):Prop:=∃i ρ',part o ρ=some (i,ρ')/\K i ρ'
theorem S2(x:X):Wif true X Y:=⟨fun _=>x,fun h=>by cases h⟩
theorem SJ(y:Y):Wif false X Y:=⟨fun h=>(by cases h),fun _=>y⟩
theorem Tg(h:c=true)(x:X):Wif c X Y:=⟨fun _=>x,fun h'=>by rw[h]at h';cases h'⟩
theorem S5(h:c=false)(y:Y):Wif c X Y:=⟨fun h'=>(by rw[h]at h';cases h'),fun _=>y⟩
theorem SW{p:Prop}[Decidable p](x:p->X)(y:¬p->Y):Wif (decide p) X Y:=⟨fun h=>x (of_decide_eq_true h),fun h=>y (of_decide_eq_false h)⟩
theorem P_{i:Nat}(h:ρ[i]?=some (.sh d))(q:Q (.val d) ρ):We (eV i) ρ Q:=⟨_,_,by unfold eV;rw[h],q⟩
theorem Sz{i:Nat}(h:ρ[i]?=some (.ow d))(q:Q (.slot i) ρ):We (eV i) ρ Q:=⟨_,_,by unfold eV;rw[h],q⟩
theorem Sq(q:Q (.val d) ρ):We (eC d) ρ Q:=⟨_,_,rfl,q⟩
theorem Th(h:We a ρ fun x ρ1=>Wg1 g (pk ρ1 x) fun v=>Q v.bG ρ1):We (e1 g a) ρ Q:=by obtain⟨x,ρ1,h1,d,v,h2,h3,q⟩:=h;exact⟨_,_,by unfold Dm.e1;rw[h1];dsimp only;rw[h2];dsimp only;rw[h3],q⟩
theorem R_{g:Dat->Dat->Option RV}{a b:FE}(h:We a ρ fun x ρ1=>We b ρ1 fun y ρ2=>Wg2 g (pk ρ2 x) (pk ρ2 y) fun v=>Q v.bG ρ2):We (e2 g a b) ρ Q:=by obtain⟨x,ρ1,h1,y,ρ2,h2,d,e,v,h3,h4,h5,q⟩:=h;exact⟨_,_,by unfold Dm.e2;rw[h1];dsimp only;rw[h2];dsimp only;rw[h3];dsimp only;rw[h4];dsimp only;rw[h5],q⟩
theorem Q_{Q:List Val->Env->Prop}(q:Q [] ρ):Was [] ρ Q:=⟨_,_,rfl,q⟩
theorem m_{r:List FE}{Q:List Val->Env->Prop}(h:We a ρ fun x ρ1=>Was r ρ1 fun xs ρ2=>Q (x::xs) ρ2):Was (a::r) ρ Q:=by obtain⟨x,ρ1,h1,xs,ρ2,h2,q⟩:=h;exact⟨_,_,by unfold eAs;rw[h1];dsimp only;rw[h2],q⟩
theorem SG{g:List Dat->Option RV}(h:Was as ρ fun xs ρ1=>WB g (pks ρ1 xs) fun v=>Q v.bG ρ1):We (eB g as) ρ Q:=by obtain⟨x,ρ1,h1,d,v,h2,h3,q⟩:=h;exact⟨_,_,by unfold eB;rw[h1];dsimp only;rw[h2];dsimp only;rw[h3],q⟩
theorem UO(h:Was as ρ fun xs ρ1=>WT (tks ρ1 xs) fun ds ρ2=>Q (.val (.tup ds)) ρ2):We (pI as) ρ Q:=by obtain⟨x,ρ1,h1,ds,ρ2,h2,h3,q⟩:=h;exact⟨_,_,by unfold pI;rw[h1];dsimp only;rw[h2];dsimp only;rw[if_pos h3],q⟩
theorem S8(h:Was as ρ fun xs ρ1=>WT (tks ρ1 xs) fun ds ρ2=>Q (.new (.lst ds)) ρ2):We (cT as) ρ Q:=by obtain⟨x,ρ1,h1,ds,ρ2,h2,h3,q⟩:=h;exact⟨_,_,by unfold cT;rw[h1];dsimp only;rw[h2];dsimp only;rw[if_pos h3],q⟩
theorem SV{xs:List Val}{K:List Dat->Env->Prop}(k:K ds ρ3)(h:tks ρ xs=some (ds,ρ2))(hn:ρ2=ρ3)(hl:ds.length<=SZ):WT (tks ρ xs) K:=⟨_,_,hn▸h,hl,k⟩
theorem SE(h:Was as ρ fun xs ρ1=>WF f ρ1 xs Q):We (eF f as) ρ Q:=by
 obtain⟨x,ρ1,h1,ds,v,h2,h3,h4⟩:=h;by_cases hb:cZ v.dat=true
 ·rw[if_pos hb]at h4;obtain⟨ds',ρ2,h5,q⟩:=h4;exact⟨_,_,by unfold eF;rw[h1];dsimp only;rw[h2];dsimp only;rw[h3];dsimp only;rw[if_pos hb,h5],q⟩
 ·rw[if_neg hb]at h4;exact⟨_,_,by unfold eF;rw[h1];dsimp only;rw[h2];dsimp only;rw[h3];dsimp only;rw[if_neg hb],h4⟩
theorem SN{ρ ρ2 ρ3:Env}{xs:List Val}{ds ds':List Dat}(h2:f ds=some v)(q:Q v.bG ρ3)(h1:pks ρ xs=some ds)(h3:cZ v.dat=true)(h4:tks ρ xs=some (ds',ρ2))(hn:ρ2=ρ3):WF f ρ xs Q:=
 ⟨_,_,h1,h2,by rw[if_pos h3];exact⟨_,_,h4,hn▸q⟩⟩
theorem SO{xs:List Val}(h2:f ds=some v)(q:Q v.bG ρ)(h1:pks ρ xs=some ds)(h3:cZ v.dat=false):WF f ρ xs Q:=
 ⟨_,_,h1,h2,by rw[if_neg (by rw[h3];decide)];exact q⟩
def Wb(v:Val)(K:Bool->Prop):Prop:=∃c,v=.val (.bl c)/\K c
theorem Sv{K:Bool->Prop}(k:K c):Wb (.val (.bl c)) K:=⟨c,rfl,k⟩
theorem TJ{a b:FE}(h:We a ρ fun v ρ1=>Wb v fun c=>Wif c (We b ρ1 Q) (Q (.val (.bl false)) ρ1)):We (kD a b) ρ Q:=by
 obtain⟨v,ρ1,h1,c,rfl,h2,h3⟩:=h;cases c with
 |true=>obtain⟨v,ρ2,h4,q⟩:=h2 rfl;exact⟨_,_,by unfold kD;rw[h1];exact h4,q⟩
 |false=>exact⟨_,_,by unfold kD;rw[h1],h3 rfl⟩
theorem Sw{Q:Bool->Env->Prop}(h:We a ρ fun v ρ1=>Wb v fun c=>Q c ρ1):Wt (tV a) ρ Q:=by obtain⟨v,ρ1,h1,c,rfl,h2⟩:=h;exact⟨_,_,by unfold tV;rw[h1],h2⟩
theorem SS{Q:Bool->Env->Prop}(h:Wt t ρ fun c ρ1=>Q (!c) ρ1):Wt (cA t) ρ Q:=by obtain⟨v,ρ1,h1,h2⟩:=h;exact⟨_,_,by unfold cA;rw[h1],h2⟩
theorem TF{t u:FT}{Q:Bool->Env->Prop}(h:Wt t ρ fun c ρ1=>Wif c (Wt u ρ1 Q) (Q false ρ1)):Wt (iE t u) ρ Q:=by
 obtain⟨c,ρ1,h1,h2,h3⟩:=h;cases c with
 |true=>obtain⟨v,ρ2,h4,q⟩:=h2 rfl;exact⟨_,_,by unfold iE;rw[h1];exact h4,q⟩
 |false=>exact⟨_,_,by unfold iE;rw[h1],h3 rfl⟩
theorem SY{t u:FT}{Q:Bool->Env->Prop}(h:Wt t ρ fun c ρ1=>Wif c (Q true ρ1) (Wt u ρ1 Q)):Wt (tOr t u) ρ Q:=by
 obtain⟨c,ρ1,h1,h2,h3⟩:=h;cases c with
 |false=>obtain⟨v,ρ2,h4,q⟩:=h3 rfl;exact⟨_,_,by unfold tOr;rw[h1];exact h4,q⟩
 |true=>exact⟨_,_,by unfold tOr;rw[h1],h2 rfl⟩
theorem Vt{Q:Bool->Env->Prop}(h:We a ρ fun x ρ1=>∃d c,pk ρ1 x=some d/\truth d=some c/\Q c ρ1):Wt (tTr a) ρ Q:=by obtain⟨x,ρ1,h1,d,c,h2,h3,q⟩:=h;exact⟨_,_,by unfold tTr;rw[h1];dsimp only;rw[h2];dsimp only;rw[h3],q⟩
theorem Um{Q:Bool->Env->Prop}(q:Q true ρ):Wt b_ ρ Q:=⟨_,_,rfl,q⟩
theorem Sx{K:Dat->Env->Prop}(k:K d ρ):Wk ρ (.val d) K:=⟨_,_,rfl,k⟩
theorem TL{K:Dat->Env->Prop}(k:K d ρ):Wk ρ (.new d) K:=⟨_,_,rfl,k⟩
theorem T7{ρ ρ':Env}{i:Nat}{K:Dat->Env->Prop}(k:K d ρ')(h:ρ[i]?=some (.ow d))(hs:ρ.set i (.sh d)=ρ'):Wk ρ (.slot i) K:=⟨_,_,by unfold tk;dsimp only;rw[h];dsimp only;rw[hs],k⟩
noncomputable def zK:Dat->Option (List Dat)
 |.lst ds=>some ds
 |.tup ds=>some ds
 |_=>none
theorem Tf{Q:List Dat->Env->Prop}(h:We a ρ fun x ρ1=>Wk ρ1 x fun d ρ2=>∃ds,zK d=some ds/\Q ds ρ2):Wi (iS a) ρ Q:=by
 obtain⟨x,ρ1,h1,d,ρ2,h2,ds,hd,q⟩:=h;cases d with
 |lst xs=>cases hd;exact⟨_,_,by unfold iS;rw[h1];dsimp only;rw[h2],q⟩
 |tup xs=>cases hd;exact⟨_,_,by unfold iS;rw[h1];dsimp only;rw[h2],q⟩
 |_=>cases hd
def bP(v:Val)(K:Int->Prop):Prop:=∃i,v=.val (.int i)/\K i
theorem bP.mk{i:Int}{K:Int->Prop}(k:K i):bP (.val (.int i)) K:=⟨i,rfl,k⟩
theorem To{Q:List Dat->Env->Prop}(h:We a ρ fun v ρ1=>bP v fun j=>Q (ups 0 j.toNat) ρ1/\j<=BIG/\-BIG<=j):Wi (iR1 a) ρ Q:=by obtain⟨v,ρ1,h1,j,rfl,q,h2⟩:=h;exact⟨_,_,by unfold iR1;rw[h1];dsimp only;rw[if_pos h2],q⟩
theorem TR{a b:FE}{Q:List Dat->Env->Prop}(h:We a ρ fun v ρ1=>bP v fun i=>We b ρ1 fun w ρ2=>bP w fun j=>Q (ups i (j-i).toNat) ρ2/\j<=BIG/\-BIG<=j/\i<=BIG/\-BIG<=i):Wi (iR2 a b) ρ Q:=by obtain⟨v,ρ1,h1,i,rfl,w,ρ2,h2,j,rfl,q,h3⟩:=h;exact⟨_,_,by unfold iR2;rw[h1];dsimp only;rw[h2];dsimp only;rw[if_pos h3],q⟩
theorem Wp.none{K:Option Int->Env->Prop}(k:K none ρ):Wp none ρ K:=⟨_,_,rfl,k⟩
theorem Wp.some{f:FE}{K:Option Int->Env->Prop}(h:We f ρ fun v ρ1=>bP v fun i=>K (some i) ρ1):Wp (some f) ρ K:=by obtain⟨v,ρ1,h1,i,rfl,k⟩:=h;exact⟨_,_,by unfold part;dsimp only;rw[h1],k⟩
def Wsl(o:Option Dat)(l h:Option Int)(K:Dat->Prop):Prop:=∃xs,o=some (.lst xs)/\K (.lst (cut xs l h))
noncomputable def ud{α:Type}(xs:List α)(lo hi:Option Int):List α:=(xs.drop (sIx xs.length 0 lo)).take (sIx xs.length xs.length hi-sIx xs.length 0 lo)
theorem MY(rX:α->Dat)(xs:List α)(lo hi:Option Int):cut (xs.map rX) lo hi=(ud xs lo hi).map rX:=by unfold cut ud;rw[Pg,<- List.map_drop,<- List.map_take]
theorem Wsl.A{rX:α->Dat}{xs:List α}{o:Option Dat}{l h:Option Int}{K:Dat->Prop}(k:K (.lst ((ud xs l h).map rX)))(ho:o=some (.lst (xs.map rX))):Wsl o l h K:=⟨_,ho,by rw[MY];exact k⟩
theorem UU(h:We a ρ fun x ρ1=>Wp lo ρ1 fun l ρ2=>Wp hi ρ2 fun h ρ3=>Wsl (pk ρ3 x) l h fun d=>Q (.new d) ρ3):We (eSl a lo hi) ρ Q:=by obtain⟨x,ρ1,h1,l,ρ2,h2,hh,ρ3,h3,xs,h4,q⟩:=h;exact⟨_,_,by unfold eSl;rw[h1];dsimp only;rw[h2];dsimp only;rw[h3];dsimp only;rw[h4],q⟩
theorem UC(h:We a ρ fun x ρ1=>Wp lo ρ1 fun l ρ2=>Wp hi ρ2 fun h ρ3=>∃xs,pk ρ3 x=some (.tup xs)/\¬(sIx xs.length 0 l=0/\sIx xs.length xs.length h=xs.length)/\Q (.val (.tup (cut xs l h))) ρ3):We (zB a lo hi) ρ Q:=by obtain⟨x,ρ1,h1,l,ρ2,h2,hh,ρ3,h3,xs,h4,h5,q⟩:=h;exact⟨_,_,by unfold zB;rw[h1];dsimp only;rw[h2];dsimp only;rw[h3];dsimp only;rw[h4];dsimp only;rw[if_neg h5],q⟩
theorem SK(n:N ρ):Ws sNx ρ N R B C:=⟨_,rfl,n⟩
theorem Ss(h:Ws s ρ (fun ρ1=>Ws u ρ1 N R B C) R B C):Ws (aC s u) ρ N R B C:=by
 obtain⟨o,h1,h2⟩:=h;cases o with
 |nx ρ1=>obtain⟨o,h3,h4⟩:=h2;exact⟨o,by unfold aC;rw[h1];exact h3,h4⟩
 |ret r ρ1=>exact⟨.ret r ρ1,by unfold aC;rw[h1],h2⟩
 |bk ρ1=>exact⟨.bk ρ1,by unfold aC;rw[h1],h2⟩
 |ct ρ1=>exact⟨.ct ρ1,by unfold aC;rw[h1],h2⟩
def WA(i:Nat)(v:Val)(ρ:Env)(N:Env->Prop):Prop:=match v with
 |.new d=>N (ρ.set i (.ow d))
 |x=>Wk ρ x fun d ρ2=>N (ρ2.set i (.sh d))
theorem Sy{i:Nat}(h:We e ρ fun v ρ1=>WA i v ρ1 N)(hi:i≠0):Ws (sA i e) ρ N R B C:=by
 obtain⟨v,ρ1,h1,h2⟩:=h;cases v with
 |new d=>exact⟨.nx _,by unfold sA;rw[if_neg hi,h1],h2⟩
 |val d=>obtain⟨d',ρ2,h3,h4⟩:=h2;exact⟨.nx _,by unfold sA;rw[if_neg hi,h1];dsimp only;rw[h3],h4⟩
 |slot j=>obtain⟨d',ρ2,h3,h4⟩:=h2;exact⟨.nx _,by unfold sA;rw[if_neg hi,h1];dsimp only;rw[h3],h4⟩
theorem SA{i:Nat}{ρ ρ2:Env}(n:N ρ2)(hs:ρ.set i (.ow d)=ρ2):WA i (.new d) ρ N:=by unfold WA;dsimp only;rw[hs];exact n
theorem SD{i:Nat}{ρ ρ2:Env}(n:N ρ2)(hs:ρ.set i (.sh d)=ρ2):WA i (.val d) ρ N:=⟨_,_,rfl,by show N _;rw[hs];exact n⟩
theorem TX{i j:Nat}{ρ ρ2:Env}(n:N ρ2)(h:ρ[j]?=some (.ow d))(hs:(ρ.set j (.sh d)).set i (.sh d)=ρ2):WA i (.slot j) ρ N:=⟨_,_,by unfold tk;dsimp only;rw[h],by show N _;rw[hs];exact n⟩
theorem Vb{is:List Nat}(h:We e ρ fun x ρ1=>Wk ρ1 x fun d ρ2=>∃ds ρ3,d=.tup ds/\sets is ds ρ2=some ρ3/\N ρ3):Ws (sU is e) ρ N R B C:=by obtain⟨x,ρ1,h1,d,ρ2,h2,ds,ρ3,rfl,h3,n⟩:=h;exact⟨.nx _,by unfold sU;rw[h1];dsimp only;rw[h2];dsimp only;rw[h3],n⟩
theorem T4(h:We e ρ fun _ ρ1=>N ρ1):Ws (sE e) ρ N R B C:=by obtain⟨x,ρ1,h1,n⟩:=h;exact⟨.nx _,by unfold sE;rw[h1],n⟩
def WR(v:Val)(ρ:Env)(R:RV->Env->Prop):Prop:=match v with
 |.new d=>R (.new d) ρ
 |.val d=>R (.val d) ρ
 |.slot i=>(∃d,ρ[i]?=some (.ow d)/\R (.new d) (ρ.set i .un))
theorem SH(h:We e ρ fun v ρ1=>WR v ρ1 R):Ws (sR e) ρ N R B C:=by
 obtain⟨v,ρ1,h1,h2⟩:=h;cases v with
 |new d=>exact⟨.ret _ _,by unfold sR;rw[h1],h2⟩
 |val d=>exact⟨.ret _ _,by unfold sR;rw[h1],h2⟩
 |slot i=>obtain⟨d,h3,h4⟩:=h2;exact⟨.ret _ _,by unfold sR;rw[h1];dsimp only;rw[h3],h4⟩
theorem UN(r:R (.new d) ρ):WR (.new d) ρ R:=r
theorem U6(r:R (.val d) ρ):WR (.val d) ρ R:=r
theorem S9{i:Nat}(r:R (.new d) (ρ.set i .un))(h:ρ[i]?=some (.ow d)):WR (.slot i) ρ R:=⟨d,h,r⟩
theorem SM{a b:FS}(h:Wt t ρ fun c ρ1=>Wif c (Ws a ρ1 N R B C) (Ws b ρ1 N R B C)):Ws (sIf t a b) ρ N R B C:=by
 obtain⟨c,ρ1,h1,h2,h3⟩:=h;cases c with
 |true=>obtain⟨o,h4,q⟩:=h2 rfl;exact⟨_,by unfold sIf;rw[h1];exact h4,q⟩
 |false=>obtain⟨o,h4,q⟩:=h3 rfl;exact⟨_,by unfold sIf;rw[h1];exact h4,q⟩
theorem TH{i:Nat}{ds0:List Dat}(h:We e ρ fun x ρ1=>Wk ρ1 x fun d ρ2=>∃ds ρ3,ρ2[i]?=some (.ow (.lst ds))/\ρ2.set i (.ow (.lst (ds++[d])))=ρ3/\N ρ3/\ds.length<SZ)(h0:ρ[i]?=some (.ow (.lst ds0))):Ws (rB i e) ρ N R B C:=by obtain⟨x,ρ1,h1,d,ρ2,h2,ds,ρ3,h3,h5,n,h4⟩:=h;exact⟨.nx _,by unfold rB;rw[h0];dsimp only;rw[h1];dsimp only;rw[h2];dsimp only;rw[h3];dsimp only;rw[if_pos h4,h5],n⟩
theorem nP{i:Nat}(n:N ρ3)(h:ρ2[i]?=some (.ow (.lst ds)))(hs:ρ2.set i (.ow (.lst (ds++[d])))=ρ3)(hl:ds.length<SZ):∃ds ρ3,ρ2[i]?=some (.ow (.lst ds))/\ρ2.set i (.ow (.lst (ds++[d])))=ρ3/\N ρ3/\ds.length<SZ:=⟨_,_,h,hs,n,hl⟩
theorem UZ{i:Nat}{j e:FE}(h:We e ρ fun x ρ1=>Wk ρ1 x fun d ρ2=>(∃d0,ρ2[i]?=some (.ow d0))/\We j ρ2 fun y ρ3=>bP y fun k=>∃ds m ρ4,ρ3[i]?=some (.ow (.lst ds))/\ixN ds.length k=some m/\ρ3.set i (.ow (.lst (ds.set m d)))=ρ4/\N ρ4):Ws (zl i j e) ρ N R B C:=by obtain⟨x,ρ1,h1,d,ρ2,h2,⟨d0,h0⟩,y,ρ3,h3,k,rfl,ds,m,ρ4,h4,h5,h6,n⟩:=h;exact⟨.nx _,by unfold zl;rw[h1];dsimp only;rw[h2];dsimp only;rw[h0];dsimp only;rw[h3];dsimp only;rw[h4];dsimp only;rw[h5];dsimp only;rw[h6],n⟩
theorem Uz{i:Nat}{j e:FE}(h:We e ρ fun x ρ1=>Wk ρ1 x fun d ρ2=>(∃d0,ρ2[i]?=some (.ow d0))/\We j ρ2 fun y ρ3=>bP y fun k=>∃ks vs ρ4,ρ3[i]?=some (.ow (.dct ks vs))/\ρ3.set i (.ow (.dct (lJ ks k) (lM ks vs k d)))=ρ4/\N ρ4/\ks.length<SZ):Ws (nk i j e) ρ N R B C:=by obtain⟨x,ρ1,h1,d,ρ2,h2,⟨d0,h0⟩,y,ρ3,h3,k,rfl,ks,vs,ρ4,h4,h5,n,h6⟩:=h;exact⟨.nx _,by unfold nk;rw[h1];dsimp only;rw[h2];dsimp only;rw[h0];dsimp only;rw[h3];dsimp only;rw[h4];dsimp only;rw[if_pos h6,h5],n⟩
theorem rW{i:Nat}{ρ3 ρ4:Env}(n:N ρ4)(h:ρ3[i]?=some (.ow (.dct ks vs)))(hs:ρ3.set i (.ow (.dct (lJ ks k) (lM ks vs k d)))=ρ4)(hl:ks.length<SZ):∃ks vs ρ4,ρ3[i]?=some (.ow (.dct ks vs))/\ρ3.set i (.ow (.dct (lJ ks k) (lM ks vs k d)))=ρ4/\N ρ4/\ks.length<SZ:=⟨_,_,_,h,hs,n,hl⟩
theorem SR(h:Wi it ρ fun ds ρ1=>Ws (kE bd body ds) ρ1 N R B C):Ws (fC it bd body) ρ N R B C:=by obtain⟨ds,ρ1,h1,o,h2,h3⟩:=h;exact⟨o,by unfold fC;rw[h1];exact h2,h3⟩
theorem SX(rX:α->Dat)(bd:FB)(body:FS)(xs:List α)(ρ:Env)(N:Env->Prop)(R:RV->Env->Prop)(B C:Env->Prop)(I:List α->List α->Env->Prop)
  (h0:I [] xs ρ) (hs:∀p x q ρ,xs=p++x::q->I p (x::q) ρ->∃ρ1,bd (rX x) ρ=some ρ1/\Ws body ρ1 (fun ρ2=>I (p++[x]) q ρ2) R N (fun ρ2=>I (p++[x]) q ρ2)) (he:∀ρ,I xs [] ρ->N ρ):Ws (kE bd body (xs.map rX)) ρ N R B C:=by
 have go:∀(q p:List α) (ρ:Env),xs=p++q->I p q ρ->Ws (kE bd body (q.map rX)) ρ N R B C:=fun q=>by
  induction q with
  |nil=>intro p ρ e i;rw[Qe]at e;exact⟨.nx _,rfl,he ρ (e▸i)⟩
  |cons x q ih=>
   intro p ρ e i;obtain⟨ρ1,h1,o,h2,h3⟩:=hs p x q ρ e i;have e':xs=(p++[x])++q:=by rw[QO];exact e
   cases o with
   |nx ρ2=>obtain⟨o,h4,h5⟩:=ih _ _ e' h3;exact⟨o,by rw[gc,kE,h1];dsimp only;rw[h2];exact h4,h5⟩
   |ct ρ2=>obtain⟨o,h4,h5⟩:=ih _ _ e' h3;exact⟨o,by rw[gc,kE,h1];dsimp only;rw[h2];exact h4,h5⟩
   |bk ρ2=>exact⟨.nx _,by rw[gc,kE,h1];dsimp only;rw[h2],h3⟩
   |ret r ρ2=>exact⟨.ret _ _,by rw[gc,kE,h1];dsimp only;rw[h2],h3⟩
 exact go xs [] ρ rfl h0
theorem SI{P:RV->Prop}(b:Ws body ρ (fun _=>P (.val .non)) (fun r _=>P r) (fun _=>False) (fun _=>False))(hρ:ds.map Cell.sh++gV m .un=ρ)(h:ds.length=n):Wr (fn n m body ds) P:=by
 obtain⟨o,h1,h2⟩:=b;cases o with
 |nx ρ1=>exact⟨_,by unfold Dm.fn;rw[if_pos h,hρ,h1],h2⟩
 |ret r ρ1=>exact⟨_,by unfold Dm.fn;rw[if_pos h,hρ,h1],h2⟩
 |bk ρ1=>exact h2.elim
 |ct ρ1=>exact h2.elim
theorem SQ{o:Option RV}{r:RV}(h:Wr o fun x=>x=r):o=some r:=by obtain⟨x,h1,rfl⟩:=h;exact h1
theorem yd(rX:α->Dat)(p:α->Bool)(v:α->Dat)(bd:FB)(t:FT)(el:FE)(mk:Cell->Env)(hb:∀d c,bd d (mk c)=some (mk (.sh d))):∀(xs:List α) (c:Cell) (zL:List Dat),
  (∀x∈xs,t (mk (.sh (rX x)))=some (p x,mk (.sh (rX x))))->(∀x∈xs,p x=true->We el (mk (.sh (rX x))) fun w ρ'=>Wk ρ' w fun d ρ''=>d=v x/\ρ''=mk (.sh (rX x))) ->
  ∃c',dI bd t el (xs.map rX) (mk c) zL=some (zL++(xs.filter p).map v,mk c')
 |[],c,zL,_,_=>⟨c,by simp[dI]⟩
 |x::xs,c,zL,ht,he=>by
  rw[gc,dI,hb];dsimp only;rw[ht x Ds];have ht':=fun y hy=>ht y (Pa _ hy);have he':=fun y hy=>he y (Pa _ hy);by_cases h:p x=true
  ·obtain⟨w,ρ',h1,d,ρ'',h2,rfl,rfl⟩:=he x Ds h;rw[h];dsimp only;rw[h1];dsimp only;rw[h2];obtain⟨c',e⟩:=yd rX p v bd t el mk hb xs (.sh (rX x)) (zL++[v x]) ht' he';exact⟨c',by dsimp only;rw[e,Qx h];simp⟩
  ·rw[Bool.not_eq_true]at h;rw[h];obtain⟨c',e⟩:=yd rX p v bd t el mk hb xs (.sh (rX x)) zL ht' he';exact⟨c',by dsimp only;rw[e,Qw (by rw[h];decide)]⟩
theorem Ub(h:Wt t ρ fun c' ρ'=>c'=c/\ρ'=ρ):t ρ=some (c,ρ):=by obtain⟨_,_,h1,rfl,rfl⟩:=h;exact h1
theorem TV(rX:α->Dat)(xs:List α)(p:α->Bool)(v:α->Dat){it:FI}{k:Nat}{t:FT}{el:FE}{ρ ρ1:Env}{Q:Val->Env->Prop}
  (q:Q (.new (.lst ((xs.filter p).map v))) ρ1) (M4:it ρ=some (xs.map rX,ρ1)) (hk:ρ1.length=k) (hk0:k≠0) (hl:xs.length<=SZ)
  (ht:∀x∈xs,Wt t (ρ1++[.sh (rX x)]) fun c ρ'=>c=p x/\ρ'=ρ1++[.sh (rX x)])
  (he:∀x∈xs,p x=true->We el (ρ1++[.sh (rX x)]) fun w ρ'=>Wk ρ' w fun d ρ''=>d=v x/\ρ''=ρ1++[.sh (rX x)]):We (cg it 1 (bN k) t el) ρ Q:=by
 have bd:∀(d:Dat) (c:Cell),bN k d (ρ1++[c])=some (ρ1++[.sh d]):=fun d c=>by unfold bN;rw[if_neg hk0,QA _ _ (by lia)];simp[hk]
 obtain⟨c',e⟩:=yd rX p v (bN k) t el (fun c=>ρ1++[c]) bd xs .un [] (fun x hx=>Ub (ht x hx)) he;refine⟨_,_,?_,q⟩;unfold cg;rw[M4];dsimp only;rw[if_pos (by rw[Pg];exact hl)];show (match dI _ _ _ _ (ρ1++[.un]) [] with | none=>none | some (ys,ρ2)=>some (Val.new (.lst ys),ρ2.take ρ1.length))=_;rw[e];dsimp only;rw[Ro,RJ]
theorem UP(rX:α->Dat)(xs:List α)(p:α->Bool)(v:α->Dat){i:Nat}{k:Nat}{t:FT}{el:FE}{ρ:Env}{Q:Val->Env->Prop}{d:Dat}
  (q:Q (.new (.lst ((xs.filter p).map v))) ρ) (hi:ρ[i]?=some (.sh d)) (hd:zK d=some (xs.map rX)) (hk:ρ.length=k) (hk0:k≠0) (hl:xs.length<=SZ)
  (ht:∀x∈xs,Wt t (ρ++[.sh (rX x)]) fun c ρ'=>c=p x/\ρ'=ρ++[.sh (rX x)])
  (he:∀x∈xs,p x=true->We el (ρ++[.sh (rX x)]) fun w ρ'=>Wk ρ' w fun d ρ''=>d=v x/\ρ''=ρ++[.sh (rX x)]):We (aO i 1 (bN k) t el) ρ Q:=by
 have M4:iS (eV i) ρ=some (xs.map rX,ρ):=by
  unfold iS eV;rw[hi];cases d with
  |lst ys=>cases hd;rfl
  |tup ys=>cases hd;rfl
  |_=>cases hd
 obtain⟨a,ρ',h1,h2⟩:=TV rX xs p v (Q:=Q) q M4 hk hk0 hl ht he;refine⟨a,ρ',?_,h2⟩;unfold aO;rw[hi];exact h1
theorem UQ(rX:α->Dat)(xs:List α)(p:α->Bool)(v:α->Dat){i:Nat}{k:Nat}{t:FT}{el:FE}{ρ ρ1:Env}{Q:Val->Env->Prop}
  (q:Q (.new (.lst ((xs.filter p).map v))) ρ) (hi:ρ[i]?=some (.ow (.lst (xs.map rX)))) (h1:ρ.set i .un=ρ1) (hk:ρ.length=k) (hk0:k≠0) (hl:xs.length<=SZ)
  (ht:∀x∈xs,Wt t (ρ1++[.sh (rX x)]) fun c ρ'=>c=p x/\ρ'=ρ1++[.sh (rX x)])
  (he:∀x∈xs,p x=true->We el (ρ1++[.sh (rX x)]) fun w ρ'=>Wk ρ' w fun d ρ''=>d=v x/\ρ''=ρ1++[.sh (rX x)]):We (aO i 1 (bN k) t el) ρ Q:=by
 have B3:ρ1.length=ρ.length:=by rw[<- h1,P4]
 have hil:i<ρ.length:=(Ph.mp hi).1;have bd:∀(d:Dat) (c:Cell),bN k d (ρ1++[c])=some (ρ1++[.sh d]):=fun d c=>by unfold bN;rw[if_neg hk0,QA _ _ (by lia)];simp[hk,B3]
 obtain⟨c',e⟩:=yd rX p v (bN k) t el (fun c=>ρ1++[c]) bd xs .un [] (fun x hx=>Ub (ht x hx)) he;refine⟨_,_,?_,q⟩;unfold aO;rw[hi];dsimp only;rw[if_pos (by rw[Pg];exact hl),h1];show (match dI _ _ _ _ (ρ1++[.un]) [] with | none=>none | some (ys,ρ2)=>some (Val.new (.lst ys),(ρ2.take ρ.length).set i (.ow (.lst (xs.map rX)))))=_;rw[e];dsimp only;rw[Ro,<- B3,RJ,<- h1,Sj]
 congr 2
 apply Rj;intro j;by_cases h:i=j
 ·subst h;rw[PM hil,hi]
 ·rw[Dk h]
theorem Ui{α β:Type}(rX:α->Dat)(xs:List α)(f:α->β)(cI:β->Dat){it:FI}{k:Nat}{el:FE}{ρ ρ1:Env}{Q:Val->Env->Prop}
  (q:Q (.new (.lst ((xs.map f).map cI))) ρ1) (M4:it ρ=some (xs.map rX,ρ1)) (hk:ρ1.length=k) (hk0:k≠0) (hl:xs.length<=SZ)
  (he:∀x∈xs,We el (ρ1++[.sh (rX x)]) fun w ρ'=>Wk ρ' w fun d ρ''=>d=cI (f x)/\ρ''=ρ1++[.sh (rX x)]):We (cg it 1 (bN k) b_ el) ρ Q:=
 TV rX xs (fun _=>true) (fun x=>cI (f x)) (by rw[Ra.mpr (fun _ _=>rfl)];rw[P7]at q;exact q) M4 hk hk0 hl (fun _ _=>Um ⟨rfl,rfl⟩) fun x hx _=>he x hx
theorem Tn{α β:Type}(rX:α->Dat)(xs:List α)(f:α->β)(cI:β->Dat){i:Nat}{k:Nat}{el:FE}{ρ:Env}{Q:Val->Env->Prop}{d:Dat}
  (q:Q (.new (.lst ((xs.map f).map cI))) ρ) (hi:ρ[i]?=some (.sh d)) (hd:zK d=some (xs.map rX)) (hk:ρ.length=k) (hk0:k≠0) (hl:xs.length<=SZ)
  (he:∀x∈xs,We el (ρ++[.sh (rX x)]) fun w ρ'=>Wk ρ' w fun d ρ''=>d=cI (f x)/\ρ''=ρ++[.sh (rX x)]):We (aO i 1 (bN k) b_ el) ρ Q:=
 UP rX xs (fun _=>true) (fun x=>cI (f x)) (by rw[Ra.mpr (fun _ _=>rfl)];rw[P7]at q;exact q) hi hd hk hk0 hl (fun _ _=>Um ⟨rfl,rfl⟩) fun x hx _=>he x hx
theorem Uv{α β:Type}(rX:α->Dat)(xs:List α)(f:α->β)(cI:β->Dat){i:Nat}{k:Nat}{el:FE}{ρ ρ1:Env}{Q:Val->Env->Prop}
  (q:Q (.new (.lst ((xs.map f).map cI))) ρ) (hi:ρ[i]?=some (.ow (.lst (xs.map rX)))) (h1:ρ.set i .un=ρ1) (hk:ρ.length=k) (hk0:k≠0) (hl:xs.length<=SZ)
  (he:∀x∈xs,We el (ρ1++[.sh (rX x)]) fun w ρ'=>Wk ρ' w fun d ρ''=>d=cI (f x)/\ρ''=ρ1++[.sh (rX x)]):We (aO i 1 (bN k) b_ el) ρ Q:=
 UQ rX xs (fun _=>true) (fun x=>cI (f x)) (by rw[Ra.mpr (fun _ _=>rfl)];rw[P7]at q;exact q) hi h1 hk hk0 hl (fun _ _=>Um ⟨rfl,rfl⟩) fun x hx _=>he x hx
theorem TQ{α β:Type}(rX:α->Dat)(xs:List α)(p:α->Bool)(f:α->β)(cI:β->Dat){i:Nat}{k:Nat}{t:FT}{el:FE}{ρ:Env}{Q:Val->Env->Prop}{d:Dat}
  (q:Q (.new (.lst (((xs.filter p).map f).map cI))) ρ) (hi:ρ[i]?=some (.sh d)) (hd:zK d=some (xs.map rX)) (hk:ρ.length=k) (hk0:k≠0) (hl:xs.length<=SZ)
  (ht:∀x∈xs,Wt t (ρ++[.sh (rX x)]) fun c ρ'=>c=p x/\ρ'=ρ++[.sh (rX x)])
  (he:∀x∈xs,p x=true->We el (ρ++[.sh (rX x)]) fun w ρ'=>Wk ρ' w fun d ρ''=>d=cI (f x)/\ρ''=ρ++[.sh (rX x)]):We (aO i 1 (bN k) t el) ρ Q:=
 UP rX xs p (fun x=>cI (f x)) (by rw[P7]at q;exact q) hi hd hk hk0 hl ht he
theorem Ve{α β:Type}(rX:α->Dat)(xs:List α)(p:α->Bool)(f:α->β)(cI:β->Dat){i:Nat}{k:Nat}{t:FT}{el:FE}{ρ ρ1:Env}{Q:Val->Env->Prop}
  (q:Q (.new (.lst (((xs.filter p).map f).map cI))) ρ) (hi:ρ[i]?=some (.ow (.lst (xs.map rX)))) (h1:ρ.set i .un=ρ1) (hk:ρ.length=k) (hk0:k≠0) (hl:xs.length<=SZ)
  (ht:∀x∈xs,Wt t (ρ1++[.sh (rX x)]) fun c ρ'=>c=p x/\ρ'=ρ1++[.sh (rX x)])
  (he:∀x∈xs,p x=true->We el (ρ1++[.sh (rX x)]) fun w ρ'=>Wk ρ' w fun d ρ''=>d=cI (f x)/\ρ''=ρ1++[.sh (rX x)]):We (aO i 1 (bN k) t el) ρ Q:=
 UQ rX xs p (fun x=>cI (f x)) (by rw[P7]at q;exact q) hi h1 hk hk0 hl ht he
theorem ye(i j:Int):gEq (.int i) (.int j)=vB (decide (i=j)):=by
 have:(i == j)=decide (i=j):=by by_cases h:i=j<;>simp[h]
 show vB (i == j)=_;rw[this]
theorem rY(i j:Int):gNe (.int i) (.int j)=vB (!decide (i=j)):=by
 have:(i == j)=decide (i=j):=by by_cases h:i=j<;>simp[h]
 show vB (!(i == j))=_;rw[this]
theorem S1(k:K (.val (.bl (decide (i=j)))))(ho:o=some (.int i))(hp:p=some (.int j)):Wg2 gEq o p K:=⟨_,_,_,ho,hp,ye i j,k⟩
theorem Tt(k:K (.val (.bl (!decide (i=j)))))(ho:o=some (.int i))(hp:p=some (.int j)):Wg2 gNe o p K:=⟨_,_,_,ho,hp,rY i j,k⟩
theorem TY{i j:Bool}(k:K (.val (.bl (!(i == j)))))(ho:o=some (.bl i))(hp:p=some (.bl j)):Wg2 gNe o p K:=⟨_,_,_,ho,hp,rfl,k⟩
theorem Ue(k:K (.val (.bl (decide (i<j)))))(ho:o=some (.int i))(hp:p=some (.int j)):Wg2 gLt o p K:=⟨_,_,_,ho,hp,rfl,k⟩
theorem TU(k:K (.val (.bl (decide (j<i)))))(ho:o=some (.int i))(hp:p=some (.int j)):Wg2 gGt o p K:=⟨_,_,_,ho,hp,rfl,k⟩
theorem Uo(k:K (.val (.bl (decide (j<=i)))))(ho:o=some (.int i))(hp:p=some (.int j)):Wg2 gGe o p K:=⟨_,_,_,ho,hp,rfl,k⟩
theorem S_(k:K (.val (.int (i+j))))(ho:o=some (.int i))(hp:p=some (.int j)):Wg2 cj o p K:=⟨_,_,_,ho,hp,rfl,k⟩
theorem Uc{xs ys:List Dat}(k:K (.new (.lst (xs++ys))))(ho:o=some (.lst xs))(hp:p=some (.lst ys))(h:xs.length+ys.length<=SZ):Wg2 cj o p K:=⟨_,_,_,ho,hp,by unfold cj;dsimp only;rw[if_pos h],k⟩
theorem Td(k:K (.val (.int (i-j))))(ho:o=some (.int i))(hp:p=some (.int j)):Wg2 kq o p K:=⟨_,_,_,ho,hp,rfl,k⟩
theorem T9(k:K (.val (.int (i*j))))(ho:o=some (.int i))(hp:p=some (.int j))(h:(-B64<i/\i<B64)\/(-B64<j/\j<B64)):Wg2 jI o p K:=⟨_,_,_,ho,hp,by unfold jI;dsimp only;rw[if_pos h],k⟩
theorem Uq(k:K (.val (.int (i / j))))(ho:o=some (.int i))(hp:p=some (.int j))(h:0<j/\j<jJ):Wg2 vO o p K:=⟨_,_,_,ho,hp,by unfold vO;dsimp only;rw[if_pos h],k⟩
theorem T6(k:K (.val (.int (i % j))))(ho:o=some (.int i))(hp:p=some (.int j))(h:0<j):Wg2 l_ o p K:=⟨_,_,_,ho,hp,by unfold l_;dsimp only;rw[if_pos h],k⟩
theorem Up{i j z:Int}(k:K (.val (.int z)))(ho:o=some (.int i))(hp:p=some (.int j))(h:0<=j/\j<=1000000/\i.natAbs<1000000)(hz:i ^ j.toNat=z):Wg2 vP o p K:=⟨_,_,_,ho,hp,by unfold vP;dsimp only;rw[if_pos h,hz],k⟩
theorem Su{d e:Dat}{v:Dat}(k:K (.val v))(ho:o=some d)(hp:p=some e)(h:gIx d e=some (.val v)):Wg2 gIx o p K:=⟨_,_,_,ho,hp,h,k⟩
theorem mF(rX:α->Dat)(xs:List α)(i:Int)(h0:0<=i)(h1:i<xs.length):atI (xs.map rX) i=some (rX (xs[i.toNat]'(by omega))):=by unfold atI ixN;rw[Pg,if_pos h0,if_pos h1];show (xs.map rX)[i.toNat]?=_;rw[Py,Pp (by lia)];rfl
theorem rZ(i:Int)(xs:List Int):inD (.int i) (xs.map Dat.int)=decide (i∈xs):=by
 induction xs with
 |nil=>rfl
 |cons x xs ih=>
  have ih':(xs.map Dat.int).any (fun y=>eqD y (.int i))=decide (i∈xs):=ih;unfold inD;rw[gc,QT,ih'];show ((x == i)||_)=_;by_cases h:x=i
  ·simp[h]
  ·have h':¬i=x:=fun z=>h z.symm;simp[h,h']
theorem wz(xs:List Int):(xs.map Dat.int).all (okD 7)=true:=by rw[PY];intro d hd;obtain⟨x,_,rfl⟩:=Pw.mp hd;rfl
theorem U4{i:Int}{xs:List Int}(k:K (.val (.bl (!decide (i∈xs)))))(ho:o=some (.int i))(hp:p=some (.lst (xs.map Dat.int))):Wg2 ck o p K:=
 ⟨_,_,_,ho,hp,by unfold ck;dsimp only;rw[show okD 8 (.int i)=true from rfl,wz,rZ];rfl,k⟩
theorem TM{i:Int}{xs:List Int}(k:K (.val (.bl (decide (i∈xs)))))(ho:o=some (.int i))(hp:p=some (.tup (xs.map Dat.int))):Wg2 gIn o p K:=
 ⟨_,_,_,ho,hp,by unfold gIn;dsimp only;rw[show okD 8 (.int i)=true from rfl,wz,rZ];rfl,k⟩
theorem U8{i:Int}{xs:List Int}(k:K (.val (.bl (!decide (i∈xs)))))(ho:o=some (.int i))(hp:p=some (.tup (xs.map Dat.int))):Wg2 ck o p K:=
 ⟨_,_,_,ho,hp,by unfold ck;dsimp only;rw[show okD 8 (.int i)=true from rfl,wz,rZ];rfl,k⟩
theorem UE{i a b:Int}(k:K (.val (.bl (!decide (i=a\/i=b)))))(ho:o=some (.int i))(hp:p=some (.tup [.int a,.int b])):Wg2 ck o p K:=
 U8 (xs:=[a,b]) (by have:(i∈[a,b])=(i=a\/i=b):=(by simp);simp only[this];exact k) ho hp
theorem TZ{i:Int}(k:K (.val (.bl (bI ks vs i).isSome)))(ho:o=some (.int i))(hp:p=some (.dct ks vs)):Wg2 zA o p K:=⟨_,_,_,ho,hp,rfl,k⟩
theorem UJ{i:Int}(k:K (.val (.bl (!(bI ks vs i).isSome))))(ho:o=some (.int i))(hp:p=some (.dct ks vs)):Wg2 tS o p K:=⟨_,_,_,ho,hp,rfl,k⟩
theorem Ul{i:Int}(h:bI ks vs i=some d)(k:K (.val d))(ho:o=some (.dct ks vs))(hp:p=some (.int i)):Wg2 gDx o p K:=⟨_,_,_,ho,hp,by unfold gDx;dsimp only;rw[h];rfl,k⟩
theorem T3{o:Option (List Dat)}(k:K (.val (.int (if j<i then j else i))))(ho:o=some [.int i,.int j]):WB p_ o K:=⟨_,_,ho,rfl,k⟩
theorem T5{o:Option (List Dat)}(k:K (.val (.int (if j>i then j else i))))(ho:o=some [.int i,.int j]):WB qc o K:=⟨_,_,ho,rfl,k⟩
theorem Te{o:Option (List Dat)}(k:K (.new (.lst xs)))(ho:o=some [.lst xs]):WB gu o K:=⟨_,_,ho,rfl,k⟩
theorem S7{o:Option Dat}(k:K v)(ho:o=some d)(h:g d=some v):Wg1 g o K:=⟨_,_,ho,h,k⟩
theorem dw{Q:List Dat->Prop}(q:Q xs):∃ds,zK (.lst xs)=some ds/\Q ds:=⟨_,rfl,q⟩
theorem ndT{p:Prop}[Decidable p](h:(!decide p)=true):¬p:=by intro z;rw[decide_eq_true z]at h;cases h
theorem ndF{p:Prop}[Decidable p](h:(!decide p)=false):p:=Rp fun z=>by rw[decide_eq_false z]at h;cases h
theorem Fi(xs:List Dat)(h:okD 8 (.lst xs)=true):gEq (.lst xs) (.lst [])=vB xs.isEmpty:=by unfold gEq;rw[h];cases xs<;>rfl
theorem Fj(xs:List Dat)(h:okD 8 (.lst xs)=true):gNe (.lst xs) (.lst [])=vB (!xs.isEmpty):=by unfold gNe;rw[h];cases xs<;>rfl
theorem BY(rX:α->Dat)(xs:List α)(h:∀x,okD 7 (rX x)=true):okD 8 (.lst (xs.map rX))=true:=by unfold okD;rw[PY];intro d hd;obtain⟨x,_,rfl⟩:=Pw.mp hd;exact h x
theorem Uk(k:K (.val (.bl xs.isEmpty)))(ho:o=some (.lst xs))(hp:p=some (.lst []))(h:okD 8 (.lst xs)=true):Wg2 gEq o p K:=⟨_,_,_,ho,hp,Fi xs h,k⟩
theorem UA(k:K (.val (.bl (!xs.isEmpty))))(ho:o=some (.lst xs))(hp:p=some (.lst []))(h:okD 8 (.lst xs)=true):Wg2 gNe o p K:=⟨_,_,_,ho,hp,Fj xs h,k⟩
theorem UG{xs ys:List Int}(k:K (.new (.lst ((xs++ys).map Dat.int))))(ho:o=some (.lst (xs.map Dat.int)))(hp:p=some (.lst (ys.map Dat.int)))(h:xs.length+ys.length<=SZ):Wg2 cj o p K:=⟨_,_,_,ho,hp,by unfold cj;dsimp only;rw[Pg,Pg,if_pos h,PF],k⟩
theorem S3{rX:α->Dat}{xs:List α}{o:Option (List Dat)}(k:K (.val (.int xs.length)))(ho:o=some [.lst (xs.map rX)]):WB cD o K:=⟨_,_,ho,by unfold cD;dsimp only;rw[Pg],k⟩
theorem UY{s:FS}{N N':Env->Prop}(h:Ws s ρ N' R B C)(k:∀ρ',N' ρ'->N ρ'):Ws s ρ N R B C:=by
 obtain⟨o,h1,h2⟩:=h;cases o with
 |nx ρ1=>exact⟨.nx ρ1,h1,k _ h2⟩
 |ret r ρ1=>exact⟨.ret r ρ1,h1,h2⟩
 |bk ρ1=>exact⟨.bk ρ1,h1,h2⟩
 |ct ρ1=>exact⟨.ct ρ1,h1,h2⟩
theorem wA{i:Nat}{W:Prop}(h:ρ[i]?=some (.ow d))(w:W):(∃d0,ρ[i]?=some (.ow d0))/\W:=⟨⟨d,h⟩,w⟩
theorem UR(q:Q (.new (.dct [] [])) ρ):We eDn ρ Q:=⟨_,_,rfl,q⟩
theorem Vj{a b:FE}(h:We a ρ fun v ρ1=>bP v fun i=>We b ρ1 fun x ρ2=>Wk ρ2 x fun d ρ3=>Q (.new (.dct [i] [d])) ρ3):We (eD1 a b) ρ Q:=by obtain⟨v,ρ1,h1,i,rfl,x,ρ2,h2,d,ρ3,h3,q⟩:=h;exact⟨_,_,by unfold eD1;rw[h1];dsimp only;rw[h2];dsimp only;rw[h3],q⟩
theorem bK{ρ ρ1 ρ2:Env}{W:Env->Prop}(h:bd d ρ=some ρ1)(hn:ρ1=ρ2)(w:W ρ2):∃ρ1,bd d ρ=some ρ1/\W ρ1:=⟨ρ1,h,hn▸w⟩
theorem B0(rX:α->Dat)(p:α->Bool)(v:α->Dat)(bd:FB)(t:FT)(el:FE)(e0:Env)(env:α->Env)(h0:∀x,bd (rX x) e0=some (env x))(h1:∀x y,bd (rX x) (env y)=some (env x)):∀(xs:List α) (zL:List Dat) (e:Env),(e=e0\/∃y,e=env y) ->
  (∀x∈xs,t (env x)=some (p x,env x))->(∀x∈xs,p x=true->We el (env x) fun w ρ'=>Wk ρ' w fun d ρ''=>d=v x/\ρ''=env x) ->
  ∃e',(e'=e0\/∃y,e'=env y)/\dI bd t el (xs.map rX) e zL=some (zL++(xs.filter p).map v,e')
 |[],zL,e,he,_,_=>⟨e,he,by simp[dI]⟩
 |x::xs,zL,e,he,ht,hel=>by
  have hb:bd (rX x) e=some (env x):=by
   rcases he with rfl | ⟨y,rfl⟩
   ·exact h0 x
   ·exact h1 x y
  rw[gc,dI,hb];dsimp only;rw[ht x Ds];have ht':=fun y hy=>ht y (Pa _ hy);have he':=fun y hy=>hel y (Pa _ hy);by_cases h:p x=true
  ·obtain⟨w,ρ',g1,d,ρ'',g2,rfl,rfl⟩:=hel x Ds h;rw[h];dsimp only;rw[g1];dsimp only;rw[g2];obtain⟨e',q,z⟩:=B0 rX p v bd t el e0 env h0 h1 xs (zL++[v x]) _ (.inr ⟨x,rfl⟩) ht' he';exact⟨e',q,by dsimp only;rw[z,Qx h];simp⟩
  ·rw[Bool.not_eq_true]at h;rw[h];obtain⟨e',q,z⟩:=B0 rX p v bd t el e0 env h0 h1 xs zL _ (.inr ⟨x,rfl⟩) ht' he';exact⟨e',q,by dsimp only;rw[z,Qw (by rw[h];decide)]⟩
theorem Uw{α β:Type}(rX:α->Dat)(xs:List α)(p:α->Bool)(f:α->β)(cI:β->Dat)(env:α->Env){it:FI}{own:Nat}{bd:FB}{t:FT}{el:FE}{ρ ρ1:Env}{Q:Val->Env->Prop}
  (q:Q (.new (.lst (((xs.filter p).map f).map cI))) ρ1) (M4:it ρ=some (xs.map rX,ρ1)) (h0:∀x,bd (rX x) (ρ1++gV own .un)=some (env x)) (h1:∀x y,bd (rX x) (env y)=some (env x)) (h2:∀x,(env x).take ρ1.length=ρ1) (hl:xs.length<=SZ)
  (ht:∀x∈xs,Wt t (env x) fun c ρ'=>c=p x/\ρ'=env x)
  (he:∀x∈xs,p x=true->We el (env x) fun w ρ'=>Wk ρ' w fun d ρ''=>d=cI (f x)/\ρ''=env x):We (cg it own bd t el) ρ Q:=by
 obtain⟨e',q',e⟩:=B0 rX p (fun x=>cI (f x)) bd t el _ env h0 h1 xs [] _ (.inl rfl) (fun x hx=>Ub (ht x hx)) he;refine⟨_,_,?_,q⟩;unfold cg;rw[M4];dsimp only;rw[if_pos (by rw[Pg];exact hl),e];dsimp only;rw[Ro,P7];have:e'.take ρ1.length=ρ1:=by
  rcases q' with rfl | ⟨y,rfl⟩
  ·exact RJ
  ·exact h2 y
 rw[this];rfl
theorem Vs{α β:Type}(rX:α->Dat)(xs:List α)(p:α->Bool)(f:α->β)(cI:β->Dat)(d1 d2 d3:α->Dat)(henc:∀x,rX x=.tup [d1 x,d2 x,d3 x]){i k:Nat}{t:FT}{el:FE}{ρ:Env}{Q:Val->Env->Prop}{d:Dat}
  (q:Q (.new (.lst (((xs.filter p).map f).map cI))) ρ) (hi:ρ[i]?=some (.sh d)) (hd:zK d=some (xs.map rX)) (hk:ρ.length=k) (hk0:k≠0) (hl:xs.length<=SZ)
  (ht:∀x∈xs,Wt t (ρ++[.sh (d1 x),.sh (d2 x),.sh (d3 x)]) fun c ρ'=>c=p x/\ρ'=ρ++[.sh (d1 x),.sh (d2 x),.sh (d3 x)])
  (he:∀x∈xs,p x=true->We el (ρ++[.sh (d1 x),.sh (d2 x),.sh (d3 x)]) fun w ρ'=>Wk ρ' w fun d ρ''=>d=cI (f x)/\ρ''=ρ++[.sh (d1 x),.sh (d2 x),.sh (d3 x)]):We (aO i 3 (bT [k,k+1,k+2]) t el) ρ Q:=by
 have M4:iS (eV i) ρ=some (xs.map rX,ρ):=by
  unfold iS eV;rw[hi];cases d with
  |lst ys=>cases hd;rfl
  |tup ys=>cases hd;rfl
  |_=>cases hd
 have b:∀(x:α) (c1 c2 c3:Cell),bT [k,k+1,k+2] (rX x) (ρ++[c1,c2,c3])=some (ρ++[.sh (d1 x),.sh (d2 x),.sh (d3 x)]):=fun x c1 c2 c3=>by rw[henc];show sets [k,k+1,k+2] [d1 x,d2 x,d3 x] _=_;rw[sets,if_neg hk0,sets,if_neg (by lia),sets,if_neg (by lia),sets];rw[QA _ _ (by lia),QA _ _ (by lia),QA _ _ (by lia)];subst hk;rw[RB,show ρ.length+1-ρ.length=1 by lia,show ρ.length+2-ρ.length=2 by lia];rfl
 obtain⟨a,ρ',g1,g2⟩:=Uw rX xs p f cI (fun x=>(ρ++[Cell.sh (d1 x),Cell.sh (d2 x),Cell.sh (d3 x)]:Env)) (own:=3) (bd:=bT [k,k+1,k+2]) (Q:=Q) q M4 (fun x=>b x .un .un .un) (fun x y=>b x (.sh (d1 y)) (.sh (d2 y)) (.sh (d3 y))) (fun x=>RJ) hl ht he;refine⟨a,ρ',?_,g2⟩;unfold aO;rw[hi];exact g1
theorem Ug{o:Option (List Dat)}(k:K (.val (.tup xs)))(ho:o=some [.lst xs]):WB kF o K:=⟨_,_,ho,rfl,k⟩
noncomputable def ltI(a b:Int):Bool:=decide (a<b)
theorem wB(ns:List Int):eY (ns.map Dat.int)=some ns:=by
 induction ns with
 |nil=>rfl
 |cons m ms ih=>rw[gc,eY,ih];rfl
theorem pM(ns:List Int):(fY ltI ns).Pairwise (fun a b=>ltI b a=false):=fJ (fun a b c h1 h2=>by simp[ltI]at *;lia) (fun a b h=>by simp[ltI]at *;lia) ns
theorem UW(k:K (.val (.int (i / 2 ^ j.toNat))))(ho:o=some (.int i))(hp:p=some (.int j))(h:0<=j):Wg2 zm o p K:=⟨_,_,_,ho,hp,by unfold zm;dsimp only;rw[if_pos h],k⟩
theorem U5{i:Int}(k:K (.val (.int (i % 2))))(ho:o=some (.int i))(hp:p=some (.int 1)):Wg2 A0 o p K:=⟨_,_,_,ho,hp,rfl,k⟩
theorem B4(N M:List Int):gNe (.lst (N.map Dat.int)) (.lst (M.map Dat.int))=vB (!decide (N=M)):=by
 have ok:∀ns:List Int,okD 8 (.lst (ns.map Dat.int))=true:=fun ns=>BY Dat.int ns fun _=>rfl;have eq:∀N M:List Int,cU (N.map Dat.int) (M.map Dat.int)=decide (N=M):=fun N=>by
  induction N with
  |nil=>intro M;cases M<;>rfl
  |cons n N ih=>
   intro M;cases M with
   |nil=>rfl
   |cons m M=>rw[gc,gc,cU,ih M];show ((n == m)&&_)=_;rw[Rc];simp
 unfold gNe;rw[ok,ok];show vB (!cU _ _)=_;rw[eq]
theorem UX{N M:List Int}(k:K (.val (.bl (!decide (N=M)))))(ho:o=some (.lst (N.map Dat.int)))(hp:p=some (.lst (M.map Dat.int))):Wg2 gNe o p K:=⟨_,_,_,ho,hp,B4 N M,k⟩
theorem Ua{t:FT}{body:FS}{N:Env->Prop}{R:RV->Env->Prop}{B C:Env->Prop}(I:Nat->Env->Prop)
  (hs:∀k ρ,I k ρ->Wt t ρ fun c ρ1=>Wif c (Ws body ρ1 (fun ρ2=>∃k',k'<k/\I k' ρ2) R N (fun ρ2=>∃k',k'<k/\I k' ρ2)) (N ρ1)):∀(n k:Nat) (ρ:Env),k<n->I k ρ->Ws (whD t body n) ρ N R B C
 |0,k,_,h,_=>absurd h (Nat.not_lt_zero k)
 |n+1,k,ρ,h,i=>by
  obtain⟨c,ρ1,h1,h2,h3⟩:=hs k ρ i;cases c with
  |false=>exact⟨.nx _,by rw[whD,h1],h3 rfl⟩
  |true=>
   obtain⟨o,h4,h5⟩:=h2 rfl;cases o with
   |nx ρ2=>obtain⟨k',hk,i'⟩:=h5;obtain⟨o,h6,h7⟩:=Ua (N:=N) (R:=R) (B:=B) (C:=C) I hs n k' ρ2 (by lia) i';exact⟨o,by rw[whD,h1];dsimp only;rw[h4];exact h6,h7⟩
   |ct ρ2=>obtain⟨k',hk,i'⟩:=h5;obtain⟨o,h6,h7⟩:=Ua (N:=N) (R:=R) (B:=B) (C:=C) I hs n k' ρ2 (by lia) i';exact⟨o,by rw[whD,h1];dsimp only;rw[h4];exact h6,h7⟩
   |bk ρ2=>exact⟨.nx _,by rw[whD,h1];dsimp only;rw[h4],h5⟩
   |ret r ρ2=>exact⟨.ret _ _,by rw[whD,h1];dsimp only;rw[h4],h5⟩
theorem zM(p:α->Bool)(xs:List α):bools (xs.map fun x=>Dat.bl (p x))=some (xs.map p):=by
 induction xs with
 |nil=>rfl
 |cons x xs ih=>rw[gc,bools,ih];rfl
theorem Tz(p:α->Bool){xs:List α}{o:Option (List Dat)}(k:K (.val (.bl (xs.all p))))(ho:o=some [.lst (xs.map fun x=>Dat.bl (p x))]):WB pJ o K:=⟨_,_,ho,by
 unfold pJ;dsimp only;rw[zM];have:(xs.map p).all id=xs.all p:=by rw[Sk];rfl
 dsimp only;rw[this],k⟩
theorem Vn{a b:FE}(h:We a ρ fun x ρ1=>(∃ks vs,pk ρ1 x=some (.dct ks vs))/\We b ρ1 fun y ρ2=>∃ks vs i,pk ρ2 x=some (.dct ks vs)/\pk ρ2 y=some (.int i)/\Q (.val ((bI ks vs i).getD .non)) ρ2):We (lN a b) ρ Q:=by obtain⟨x,ρ1,h1,⟨ks,vs,h2⟩,y,ρ2,h3,ks',vs',i,h4,h5,q⟩:=h;exact⟨_,_,by unfold lN;rw[h1];dsimp only;rw[h2];dsimp only;rw[h3];dsimp only;rw[h4];dsimp only;rw[h5],q⟩
theorem Ut(k:K (.val (.bl (Dm.isN d))))(ho:o=some d)(hp:p=some .non):Wg2 rR o p K:=⟨_,_,_,ho,hp,by cases d<;>rfl,k⟩
theorem Tj(J:Env->Prop)(h1:Ws s ρ J R B C)(h2:∀ρ',J ρ'->Ws u ρ' N R B C):Ws (aC s u) ρ N R B C:=Ss (UY h1 h2)
def WrM(o:Option (RV×Dat))(P:RV->Dat->Prop):Prop:=∃z d,o=some (z,d)/\P z d
theorem Uh{r:List Dat}{P:RV->Dat->Prop}(b:Ws body ρ (fun ρ'=>∃d',ρ'[0]?=some (.ow d')/\P (.val .non) d') (fun z ρ'=>∃d',ρ'[0]?=some (.ow d')/\P z d') (fun _=>False) (fun _=>False))(hρ:Cell.ow d::(r.map Cell.sh++gV m .un)=ρ)(h:(d::r).length=n):WrM (fnM n m body (d::r)) P:=by
 obtain⟨o,h1,h2⟩:=b;cases o with
 |nx ρ1=>obtain⟨d',h3,h4⟩:=h2;exact⟨_,_,by unfold fnM;rw[if_pos h];dsimp only;rw[hρ,h1];dsimp only;rw[h3],h4⟩
 |ret z ρ1=>obtain⟨d',h3,h4⟩:=h2;exact⟨_,_,by unfold fnM;rw[if_pos h];dsimp only;rw[hρ,h1];dsimp only;rw[h3],h4⟩
 |bk ρ1=>exact h2.elim
 |ct ρ1=>exact h2.elim
def WFm(f:List Dat->Option (RV×Dat))(j:Nat)(ρ1:Env)(xs:List Val)(Q:Val->Env->Prop):Prop:=
 ∃d1 ds ρ2 d v d',ρ1[j]?=some (.ow d1)/\tks ρ1 xs=some (ds,ρ2)/\ρ2[j]?=some (.ow d)/\f (d::ds)=some (v,d')/\(if (flat v.dat&&vW d')=true then Q v.bG (ρ1.set j (.ow d')) else Q v.bG (ρ2.set j (.ow d')))
theorem Ux{f:List Dat->Option (RV×Dat)}{j:Nat}{d0:Dat}(h:Was as ρ fun xs ρ1=>WFm f j ρ1 xs Q)(h0:ρ[j]?=some (.ow d0)):We (eFm f j as) ρ Q:=by
 obtain⟨xs,ρ1,h1,d1,ds,ρ2,d,v,d',h2,h3,h4,h5,q⟩:=h;by_cases c:(flat v.dat&&vW d')=true
 ·rw[if_pos c]at q;exact⟨_,_,by unfold eFm;rw[h0];dsimp only;rw[h1];dsimp only;rw[h2];dsimp only;rw[h3];dsimp only;rw[h4];dsimp only;rw[h5];dsimp only;rw[if_pos c],q⟩
 ·rw[if_neg c]at q;exact⟨_,_,by unfold eFm;rw[h0];dsimp only;rw[h1];dsimp only;rw[h2];dsimp only;rw[h3];dsimp only;rw[h4];dsimp only;rw[h5];dsimp only;rw[if_neg c],q⟩
theorem T8{f:List Dat->Option (RV×Dat)}{j:Nat}{ρ1 ρ3:Env}{xs:List Val}{d d':Dat}(h5:f (d::ds)=some (v,d'))(q:Q v.bG ρ3)(h2:ρ1[j]?=some (.ow d))(h3:tks ρ1 xs=some (ds,ρ1))(hn:ρ1.set j (.ow d')=ρ3):WFm f j ρ1 xs Q:=
 ⟨_,_,_,_,_,_,h2,h3,h2,h5,by rw[hn];split<;>exact q⟩
theorem Uu(h:Was as ρ fun xs ρ1=>∃ds ρ2 v,vZ ρ1 xs=some (ds,ρ2)/\f ds=some v/\bC v.dat=true/\Q v.bG ρ2):We (eFd f as) ρ Q:=by obtain⟨xs,ρ1,h1,ds,ρ2,v,h2,h3,h4,q⟩:=h;exact⟨_,_,by unfold eFd;rw[h1];dsimp only;rw[h2];dsimp only;rw[h3];dsimp only;rw[if_pos h4],q⟩
theorem kW:∀(xs:List Dat),(∀x∈xs,bC x=true)->gE xs=true
 |[],_=>by unfold gE;rfl
 |x::xs,h=>by unfold gE;rw[h x Ds,kW xs fun y hy=>h y (Pa _ hy)];rfl
theorem g_(rX:α->Dat)(xs:List α)(h:∀x,bC (rX x)=true):bC (.lst (xs.map rX))=true:=by unfold bC;exact kW _ fun d hd=>by obtain⟨x,_,rfl⟩:=Pw.mp hd;exact h x
theorem qv(i:Int):bC (.int i)=true:=by unfold bC;rfl
theorem wC(xs:List Int):bC (.lst (xs.map Dat.int))=true:=g_ _ _ qv
theorem Ur{o:Option (List Dat)}(k:K (.new (.dct ks vs)))(ho:o=some [.dct ks vs]):WB qi o K:=⟨_,_,ho,rfl,k⟩
theorem Vd{o:Option (List Dat)}(k:K (.new (.lst ((fY ltI ks).map Dat.int))))(ho:o=some [.dct ks vs])(h:ks.length<=63):WB kM o K:=⟨_,_,ho,by unfold kM;dsimp only;rw[if_pos h];rfl,k⟩
theorem Uy{i:Nat}{ρ ρ2:Env}(hl:bI ks vs k=some d)(q:Q (.val d) ρ2)(h:ρ[i]?=some (.ow (.dct ks vs)))(he:e ρ=some (.val (.int k),ρ))(hs:ρ.set i (.ow (.dct (fM ks vs k) (fN ks vs k)))=ρ2):We (jS i e) ρ Q:=⟨_,_,by unfold jS;rw[h];dsimp only;rw[he];dsimp only;rw[h];dsimp only;rw[hl];dsimp only;rw[hs],q⟩
theorem S4{ρ ρ1:Env}(h:Wi it ρ fun x y=>x=ds/\y=ρ1):it ρ=some (ds,ρ1):=by obtain⟨_,_,h1,rfl,rfl⟩:=h;exact h1
theorem Vr{a i:Nat}(h:ρ[i]?=some (.sh (.fn a)))(k:We (eF f as) ρ Q):We (eFp a i f as) ρ Q:=by obtain⟨v,ρ',e,q⟩:=k;exact⟨v,ρ',by unfold eFp;rw[h];dsimp only;rw[if_pos rfl];exact e,q⟩
def Wm(g:FM)(ρ:Env)(p:Dp)(N:Env->Prop)(R:RV->Env->Prop)(B C:Env->Prop):Prop:=∃o,g ρ p=some o/\KO N R B C o
end
section
variable{N:Env->Prop}{R:RV->Env->Prop}{B C:Env->Prop}{ρ:Env}{p:Dp}
theorem US{j:Nat}{t:FT}{fs:FS}{g:FM}{ρ':Env}(h:Wt t ρ' fun c _=>c=false)(k:Wm g ρ p N R B C)(e:see j ρ p=ρ'):Wm (mIf j t fs g) ρ p N R B C:=by obtain⟨c,ρ1,h1,rfl⟩:=h;obtain⟨o,h3,h4⟩:=k;exact⟨o,by unfold mIf;rw[e,h1];exact h3,h4⟩
theorem U3{z:Int}{gs:FS}{xs ys:List Dp}{m:Nat}(k:Ws gs ρ N R B C)(h1:ixN xs.length z=some m)(h2:xs[m]?=some (.l ys)):Wm (zH z gs) ρ (.t xs) N R B C:=by obtain⟨o,h3,h4⟩:=k;exact⟨o,by unfold zH;dsimp only;rw[h1];dsimp only;rw[h2];exact h3,h4⟩
end
def Wq(g:FSP)(ρ:Env)(P:Dp->Prop):Prop:=∃p,g ρ=some p/\P p
def Wp'(f:FP)(ρ:Env)(Q:Dp->Env->Prop):Prop:=∃p ρ',f ρ=some (p,ρ')/\Q p ρ'
def Wpa(fs:List FP)(ρ:Env)(Q:List Dp->Env->Prop):Prop:=∃p ρ',pAs fs ρ=some (p,ρ')/\Q p ρ'
section
variable{ρ:Env}{P:Dp->Prop}
section
variable{Q:Dp->Env->Prop}{ds:List Dat}{g:FSP}{f:FE}
theorem Tv{n m:Nat}{ρ:Env}(h:Wq g ρ P)(hl:ds.length=n)(e:ds.map Cell.sh++gV m .un=ρ):∃p,fnP n m g ds=some p/\P p:=by obtain⟨p,h1,h2⟩:=h;exact⟨p,by unfold fnP;rw[if_pos hl,e];exact h1,h2⟩
theorem Ti{s:FS}(h:Ws s ρ (fun ρ1=>Wq g ρ1 P) (fun _ _=>False) (fun _=>False) (fun _=>False)):Wq (eZ s g) ρ P:=by
 obtain⟨o,h1,h2⟩:=h;cases o with
 |nx ρ1=>obtain⟨p,h3,h4⟩:=h2;exact⟨p,by unfold eZ;rw[h1];exact h3,h4⟩
 |ret _ _=>exact h2.elim
 |bk _=>exact h2.elim
 |ct _=>exact h2.elim
theorem Tq{f:FP}(h:Wp' f ρ fun p _=>P p):Wq (qR f) ρ P:=by obtain⟨p,ρ',h1,h2⟩:=h;exact⟨p,by unfold qR;rw[h1],h2⟩
theorem Us{d:Dat}(h:We f ρ fun v ρ1=>v=.val d/\Q (.s d) ρ1):Wp' (pO f) ρ Q:=by obtain⟨v,ρ1,h1,rfl,h2⟩:=h;exact⟨_,_,by unfold pO;rw[h1],h2⟩
theorem Tp(h:We f ρ fun v ρ1=>v=.new (.lst ds)/\Q (.l (ds.map .s)) ρ1):Wp' (pO f) ρ Q:=by obtain⟨v,ρ1,h1,rfl,h2⟩:=h;exact⟨_,_,by unfold pO;rw[h1],h2⟩
theorem Wpa.nil{Q:List Dp->Env->Prop}(q:Q [] ρ):Wpa [] ρ Q:=⟨_,_,rfl,q⟩
theorem Wpa.cons{f:FP}{fs:List FP}{Q:List Dp->Env->Prop}(h:Wp' f ρ fun p ρ1=>Wpa fs ρ1 fun ps ρ2=>Q (p::ps) ρ2):Wpa (f::fs) ρ Q:=by obtain⟨x,ρ1,h1,xs,ρ2,h2,q⟩:=h;exact⟨_,_,by unfold pAs;rw[h1];dsimp only;rw[h2],q⟩
theorem T_{fs:List FP}(h:Wpa fs ρ fun ps ρ1=>ps.length<=SZ/\Q (.t ps) ρ1):Wp' (pT fs) ρ Q:=by obtain⟨x,ρ1,h1,h2,q⟩:=h;exact⟨_,_,by unfold pT;rw[h1];dsimp only;rw[if_pos h2],q⟩
end
end
def KM(N:Env->Dp->Prop)(R:Dat->Env->Prop):OM->Prop
 |.nx ρ p=>N ρ p
 |.rt d ρ=>R d ρ
def Wc(g:FC)(ρ:Env)(p:Dp)(N:Env->Dp->Prop)(R:Dat->Env->Prop):Prop:=∃o,g ρ p=some o/\KM N R o
section
variable{N:Env->Dp->Prop}{R:Dat->Env->Prop}{ρ ρ':Env}{p:Dp}
section
variable{α:Type}{it:FI}
theorem Tw{s:FC}{g:FM}{N:Env->Prop}{R:RV->Env->Prop}{B C:Env->Prop}(h:Wc s ρ p (fun ρ1 p1=>Wm g ρ1 p1 N R B C) (fun d ρ1=>R (.val d) ρ1)):Wm (mq s g) ρ p N R B C:=by
 obtain⟨o,h1,h2⟩:=h;cases o with
 |nx ρ1 p1=>obtain⟨o,h3,h4⟩:=h2;exact⟨o,by unfold mq;rw[h1];exact h3,h4⟩
 |rt d ρ1=>exact⟨.ret (.val d) ρ1,by unfold mq;rw[h1],h2⟩
theorem Vi(h:N ρ p):Wc cNx ρ p N R:=⟨_,rfl,h⟩
theorem UK{s u:FC}(h:Wc s ρ p (fun ρ1 p1=>Wc u ρ1 p1 N R) R):Wc (t_ s u) ρ p N R:=by
 obtain⟨o,h1,h2⟩:=h;cases o with
 |nx ρ1 p1=>obtain⟨o,h3,h4⟩:=h2;exact⟨o,by unfold t_;rw[h1];exact h3,h4⟩
 |rt d ρ1=>exact⟨.rt d ρ1,by unfold t_;rw[h1],h2⟩
theorem Vl{j:Nat}{t:FT}{a b:FC}(h:Wt t ρ' fun c _=>Wif c (Wc a ρ p N R) (Wc b ρ p N R))(e:see j ρ p=ρ'):Wc (cIf j t a b) ρ p N R:=by
 obtain⟨c,ρ1,h1,h2,h3⟩:=h;cases c with
 |true=>obtain⟨o,h4,h5⟩:=h2 rfl;exact⟨o,by unfold cIf;rw[e,h1];exact h4,h5⟩
 |false=>obtain⟨o,h4,h5⟩:=h3 rfl;exact⟨o,by unfold cIf;rw[e,h1];exact h4,h5⟩
theorem Vh{j i:Nat}{f:FP}{q:Dp}{D:Dat}{ρ2:Env}(h:Wp' f ρ' fun q' _=>q'=q)(k:N ρ2 p)(e:see j ρ p=ρ')(hb:aK q=true)(hd:q.dat=D)(hn:ρ.set i (.sh D)=ρ2)(hi:¬(i=0\/i=j)):Wc (nJ j i f) ρ p N R:=by obtain⟨v,ρ1,h1,rfl⟩:=h;exact⟨.nx ρ2 p,by unfold nJ;rw[if_neg hi,e,h1];dsimp only;rw[if_pos hb,hd,hn],k⟩
theorem UM(rX:α->Dat)(bd:FB)(body:FC)(xs:List α)(I:List α->List α->Env->Dp->Prop)(h0:I [] xs ρ p)
  (hs:∀l x q ρ p,xs=l++x::q->I l (x::q) ρ p->∃ρ1,bd (rX x) ρ=some ρ1/\Wc body ρ1 p (fun ρ2 p2=>I (l++[x]) q ρ2 p2) R) (he:∀ρ p,I xs [] ρ p->N ρ p):Wc (iA bd body (xs.map rX)) ρ p N R:=by
 have go:∀(q l:List α) (ρ:Env) (p:Dp),xs=l++q->I l q ρ p->Wc (iA bd body (q.map rX)) ρ p N R:=fun q=>by
  induction q with
  |nil=>intro l ρ p e i;rw[Qe]at e;exact⟨.nx _ _,rfl,he ρ p (e▸i)⟩
  |cons x q ih=>
   intro l ρ p e i;obtain⟨ρ1,h1,o,h2,h3⟩:=hs l x q ρ p e i;cases o with
   |nx ρ2 p2=>obtain⟨o,h4,h5⟩:=ih (l++[x]) ρ2 p2 (by rw[e];simp) h3;exact⟨o,by rw[gc,iA,h1];dsimp only;rw[h2];exact h4,h5⟩
   |rt d ρ2=>exact⟨.rt d ρ2,by rw[gc,iA,h1];dsimp only;rw[h2],h3⟩
 exact go xs [] ρ p rfl h0
theorem UL{bd:FB}{body:FC}{ds:List Dat}{ρ1:Env}(hi:it ρ=some (ds,ρ1))(h:Wc (iA bd body ds) ρ1 p N R):Wc (ua it bd body) ρ p N R:=by obtain⟨o,h1,h2⟩:=h;exact⟨o,by unfold ua;rw[hi];exact h1,h2⟩
theorem B5(rX:α->Dat)(v:α->Dp)(bd:FB)(el:FP)(I:Env->Prop):∀(xs:List α) (zL:List Dp) (ρ:Env),I ρ ->
  (∀x∈xs,∀ρ,I ρ->∃ρ1,bd (rX x) ρ=some ρ1/\Wp' el ρ1 fun q ρ2=>q=v x/\I ρ2)->∃ρ',gI bd el (xs.map rX) ρ zL=some (zL++xs.map v,ρ')/\I ρ'
 |[],zL,ρ,i,_=>⟨ρ,by simp[gI],i⟩
 |x::xs,zL,ρ,i,h=>by obtain⟨ρ1,h1,q,ρ2,h2,rfl,i2⟩:=h x Ds ρ i;obtain⟨ρ3,h3,i3⟩:=B5 rX v bd el I xs (zL++[v x]) ρ2 i2 fun y hy=>h y (Pa _ hy);exact⟨ρ3,by rw[gc,gI,h1];dsimp only;rw[h2];dsimp only;rw[h3];simp,i3⟩
theorem Tu(rX:α->Dat)(xs:List α)(v:α->Dp)(I:Env->Prop){own:Nat}{bd:FB}{el:FP}{ρ ρ1:Env}{Q:Dp->Env->Prop}(M4:it ρ=some (xs.map rX,ρ1))(hl:xs.length<=SZ)(h0:I (ρ1++gV own .un))
  (hs:∀x∈xs,∀ρ,I ρ->∃ρ1,bd (rX x) ρ=some ρ1/\Wp' el ρ1 fun q ρ2=>q=v x/\I ρ2) (q:∀ρ2,I ρ2->Q (.l (xs.map v)) (ρ2.take ρ1.length)):Wp' (iz it own bd el) ρ Q:=by
 obtain⟨ρ2,h1,i⟩:=B5 rX v bd el I xs [] _ h0 hs;exact⟨_,_,by unfold iz;rw[M4];dsimp only;rw[if_pos (by simpa using hl),h1];rfl,q ρ2 i⟩
end
end
theorem ue(i:Int):mj (.int i)=true:=by unfold mj;rfl
theorem fQ:∀ns:List Int,aV ((ns.map Dat.int).map Dp.s)=true
 |[]=>by unfold aV;rfl
 |i::r=>by rw[gc,gc,aV,fQ r,aK,ue];rfl
section
variable{N:Env->Prop}{R:RV->Env->Prop}{B C:Env->Prop}{ρ:Env}{p:Dp}
theorem Vo{j:Nat}{f:List Dat->Option Dp}{as:List FE}{g:FM}(h:Was as ρ fun xs ρ1=>∃ds p ρ3,f ds=some p/\Wm g ρ3 p N R B C/\pks ρ1 xs=some ds/\aK p=true/\ρ1.set j .un=ρ3)(hj:j≠0):Ws (iM j f as g) ρ N R B C:=by obtain⟨xs,ρ1,h1,ds,p,ρ3,h2,⟨o,h3,h4⟩,h5,h6,rfl⟩:=h;exact⟨o,by unfold iM;rw[if_neg hj,h1];dsimp only;rw[h5];dsimp only;rw[h2];dsimp only;rw[if_pos h6];exact h3,h4⟩
end
section
variable{ρ:Env}{P:Dp->Prop}{Q:Dp->Env->Prop}
theorem Uj{f:FE}{i:Nat}{ds:List Dat}(h:We f ρ fun v ρ1=>v=.slot i/\ρ1[i]?=some (.ow (.lst ds))/\Q (.l (ds.map .s)) (ρ1.set i .un)):Wp' (pO f) ρ Q:=by obtain⟨v,ρ1,h1,rfl,h2,h3⟩:=h;exact⟨_,_,by unfold pO;rw[h1];dsimp only;rw[h2],h3⟩
theorem S6{f:List Dat->Option Dp}{as:List FE}(h:Was as ρ fun xs ρ1=>∃ds p ρ2,f ds=some p/\Q p ρ2/\tks ρ1 xs=some (ds,ρ2)):Wp' (dg f as) ρ Q:=by obtain⟨xs,ρ1,h1,ds,p,ρ2,h2,q,h3⟩:=h;exact⟨_,_,by unfold dg;rw[h1];dsimp only;rw[h3];dsimp only;rw[h2],q⟩
theorem U7{f:FP}{z:Int}{xs:List Dp}{m:Nat}{x:Dp}(h:Wp' f ρ fun p ρ1=>p=.t xs/\Q x ρ1)(h1:ixN xs.length z=some m)(h2:xs[m]?=some x):Wp' (pIx f z) ρ Q:=by obtain⟨p,ρ1,h3,rfl,q⟩:=h;exact⟨_,_,by unfold pIx;rw[h3];dsimp only;rw[h1];dsimp only;rw[h2],q⟩
end
end Dm
namespace Fl
section
variable{r:List Tie}{S:Int->Bool}{R:Int->Step->Prop}{w:List Step}{p q:Int}{a b:Int}{t:Tie}{k:Nat}
structure Tie where
 m:Int
 a:Int
 b:Int
deriving Inhabited
noncomputable def one(b:Bool):Int:=if b then 1 else 0
def Ends(t:Tie)(p q:Int):Prop:=t.a≠t.b/\((t.a=p/\t.b=q)\/(t.b=p/\t.a=q))
theorem Ends.symm(h:Ends t p q):Ends t q p:=⟨h.1,h.2.symm.imp (fun x=>⟨x.2,x.1⟩) (fun x=>⟨x.2,x.1⟩)⟩
noncomputable abbrev Hd:=Int->Option Int
noncomputable def val(o:Option Int)(t:Tie)(S:Int->Bool):Int:=
 if t.a=t.b then 0 else if o=some t.b then one (S t.a)-one (S t.b) else if o=some t.a then one (S t.b)-one (S t.a) else 0
noncomputable def cR(r:List Tie)(H:Hd)(S:Int->Bool):Int:=match r with
 |[]=>0
 |t::r=>val (H t.m) t S+cR r H S
noncomputable def put(H:Hd)(m:Int)(o:Option Int):Hd:=fun x=>if x=m then o else H x
theorem zN{H H':Hd}(h:∀t∈r,H t.m=H' t.m):cR r H S=cR r H' S:=by
 induction r with
 |nil=>rfl
 |cons t r ih=>rw[cR,cR,h t Ds,ih fun u hu=>h u (Pa _ hu)]
theorem uf(nd:(r.map (·.m)).Nodup)(ht:t∈r)(H:Hd)(o:Option Int)(S:Int->Bool):cR r (put H t.m o) S=cR r H S-val (H t.m) t S+val o t S:=by
 induction r with
 |nil=>cases ht
 |cons u r ih=>
  rw[gc,Pn]at nd;rcases Pk.mp ht with rfl | ht'
  ·rw[cR,cR];have e1:put H t.m o t.m=o:=by unfold put;rw[if_pos rfl]
   rw[e1,zN (H:=put H t.m o) (H':=H) fun v hv=>?_]
   ·lia
   ·unfold put;rw[if_neg fun e=>?_];exact nd.1 (Pw.mpr ⟨v,hv,e⟩)
  ·have M3:u.m≠t.m:=fun e=>nd.1 (Pw.mpr ⟨t,ht',e.symm⟩);rw[cR,cR,ih nd.2 ht'];have e1:put H t.m o u.m=H u.m:=by unfold put;rw[if_neg M3]
   rw[e1]
   lia
theorem h_(h:Ends t p q)(S:Int->Bool):val (some q) t S=one (S p)-one (S q):=by
 obtain⟨h1,h2⟩:=h;unfold val;rw[if_neg h1];rcases h2 with⟨rfl,rfl⟩ | ⟨rfl,rfl⟩
 ·rw[if_pos rfl]
 ·rw[if_neg (by intro e;injection e with e;exact h1 e),if_pos rfl]
theorem gM(t:Tie)(S:Int->Bool):val none t S=0:=by
 unfold val;split
 ·rfl
 ·simp
def Ok(r:List Tie)(H:Hd):Prop:=∀t∈r,∀x,H t.m=some x->x=t.a\/x=t.b
noncomputable def gO(H:Hd)(m q:Int):Hd:=put H m (if (H m).isSome then none else some q)
theorem wD(nd:(r.map (·.m)).Nodup){H:Hd}(ok:Ok r H)(ht:t∈r)(he:Ends t p q)(hf:H t.m≠some q)(S:Int->Bool) :
  cR r (gO H t.m q) S=cR r H S+one (S p)-one (S q):=by
 unfold gO;rw[uf nd ht];cases e:H t.m with
 |none=>
  simp only[Option.isSome_none,RQ,if_false];rw[gM,h_ he]
  lia
 |some x=>
  have hx:=ok t ht x e;have:x=p:=by
   rw[e]at hf;have hxq:x≠q:=fun z=>hf (by rw[z]);obtain⟨_,h2⟩:=he
   lia
  subst this;simp only[Option.isSome_some,if_true];rw[gM,h_ he.symm]
  lia
theorem uniq(nd:(r.map (·.m)).Nodup){u t:Tie}(hu:u∈r)(ht:t∈r)(e:u.m=t.m):u=t:=by
 induction r with
 |nil=>cases hu
 |cons v r ih=>
  rw[gc,Pn]at nd;rcases Pk.mp hu with rfl | h1
  ·rcases Pk.mp ht with rfl | h2
   ·rfl
   ·exact absurd (Pw.mpr ⟨t,h2,e.symm⟩) nd.1
  ·rcases Pk.mp ht with rfl | h2
   ·exact absurd (Pw.mpr ⟨u,h1,e⟩) nd.1
   ·exact ih nd.2 h1 h2
theorem B6(nd:(r.map (·.m)).Nodup){H:Hd}(ok:Ok r H)(ht:t∈r)(he:Ends t p q):Ok r (gO H t.m q):=by
 intro u hu x hx;unfold gO put at hx;by_cases e:u.m=t.m
 ·rw[if_pos e]at hx;have:u=t:=uniq nd hu ht e;subst this;split at hx
  ·cases hx
  ·injection hx with hx
   obtain⟨_,h2⟩:=he
   lia
 ·rw[if_neg e]at hx;exact ok u hu x hx
noncomputable abbrev Step:=Int×Int
def Way(R:Int->Step->Prop):Int->List Step->Int->Prop
 |x,[],y=>x=y
 |x,s::w,y=>R x s/\Way R s.2 w y
theorem Way.snoc:∀{w:List Step} {x y:Int} {s:Step},Way R x w y->R y s->Way R x (w++[s]) s.2
 |[],_,_,_,h,k=>by cases h;exact⟨k,rfl⟩
 |_::_,_,_,_,h,k=>⟨h.1,Way.snoc h.2 k⟩
theorem Way.mono{R R':Int->Step->Prop}(h:∀p s,R p s->R' p s):∀{w:List Step} {x y:Int},Way R x w y->Way R' x w y
 |[],_,_,k=>k
 |_::_,_,_,k=>⟨h _ _ k.1,Way.mono h k.2⟩
def fZ(r:List Tie)(p:Int)(s:Step):Prop:=∃t∈r,t.m=s.1/\Ends t p s.2
def cQ(r:List Tie)(H:Hd)(p:Int)(s:Step):Prop:=fZ r p s/\H s.1≠some s.2
def Led(r:List Tie)(H:Hd)(p:Int)(s:Step):Prop:=fZ r p s/\H s.1=some s.2
theorem kX(nd:(r.map (·.m)).Nodup)(hR:∀p s,R p s->fZ r p s){x y:Int}{s:Step}(h:Way R x (s::w) y)(hn:(x::(s::w).map (·.2)).Nodup):∀u∈w,u.1≠s.1:=by
 obtain⟨h1,h2⟩:=h;obtain⟨t,ht,hm,he⟩:=hR _ _ h1;have main:∀(w:List Step) (z:Int),Way R z w y->(∀u∈w,u.2≠x/\u.2≠s.2)->∀u∈w,u.1≠s.1:=fun w=>by
  induction w with
  |nil=>intro z _ _ u hu;cases hu
  |cons v w ih=>
   intro z hw hd u hu;rcases Pk.mp hu with rfl | hu
   ·intro e;obtain⟨t',ht',hm',he'⟩:=hR _ _ hw.1;have:=uniq nd ht' ht (by rw[hm',e,hm]);subst this;obtain⟨d1,d2⟩:=hd u Ds;obtain⟨_,he⟩:=he;obtain⟨_,he'⟩:=he'
    lia
   ·exact ih v.2 hw.2 (fun u hu=>hd u (Pa _ hu)) u hu
 rw[gc,Pn,Pn]at hn;refine main w s.2 h2 fun u hu=>⟨fun e=>hn.1 ?_,fun e=>hn.2.1 ?_⟩
 ·exact Pa _ (Pw.mpr ⟨u,hu,e⟩)
 ·exact Pw.mpr ⟨u,hu,e⟩
theorem lP(nd:(r.map (·.m)).Nodup)(hR:∀p s,R p s->fZ r p s){y:Int}:∀{w:List Step} {x:Int},Way R x w y->(x::w.map (·.2)).Nodup->(w.map (·.1)).Nodup
 |[],_,_,_=>by simp
 |s::w,x,h,hn=>by rw[gc,Pn];refine⟨fun e=>?_,lP nd hR h.2 (by rw[gc,Pn]at hn;exact hn.2)⟩;obtain⟨u,hu,e⟩:=Pw.mp e;exact kX nd hR h hn u hu e
noncomputable def lQ(H:Hd):List Step->Hd
 |[]=>H
 |s::w=>lQ (gO H s.1 s.2) w
theorem ug{H:Hd}{m q x:Int}(h:x≠m):gO H m q x=H x:=by unfold gO put;rw[if_neg h]
theorem iN(nd:(r.map (·.m)).Nodup)(S:Int->Bool):∀{w:List Step} {x y:Int} {H:Hd},Ok r H->Way (cQ r H) x w y->(x::w.map (·.2)).Nodup ->
  Ok r (lQ H w)/\cR r (lQ H w) S=cR r H S+one (S x)-one (S y)
 |[],x,y,H,ok,h,_=>by cases h;exact⟨ok,by rw[lQ];lia⟩
 |s::w,x,y,H,ok,h,hn=>by
  have hfr:=kX nd (fun p s h=>h.1) h hn;obtain⟨⟨⟨t,ht,hm,he⟩,hf⟩,h2⟩:=h;have ok1:=B6 nd ok ht he;have f1:=wD nd ok ht he (by rw[hm];exact hf) S;rw[hm]at ok1 f1;have h3:Way (cQ r (gO H s.1 s.2)) s.2 w y:=by
   have main:∀(w:List Step) (z:Int),(∀u∈w,u.1≠s.1)->Way (cQ r H) z w y->Way (cQ r (gO H s.1 s.2)) z w y:=fun w=>by
    induction w with
    |nil=>intro _ _ h;exact h
    |cons u w ih=>intro z hu hw;exact⟨⟨hw.1.1,by rw[ug (hu u Ds)];exact hw.1.2⟩,ih u.2 (fun v hv=>hu v (Pa _ hv)) hw.2⟩
   exact main w s.2 hfr h2
  obtain⟨k1,k2⟩:=iN nd S ok1 h3 (by rw[gc,Pn]at hn;exact hn.2);rw[lQ];exact⟨k1,by rw[k2,f1];lia⟩
noncomputable def f6(H:Hd):List Step->Hd
 |[]=>H
 |s::w=>f6 (put H s.1 none) w
theorem gQ:∀{w:List Step} {H:Hd} {x:Int},(∀u∈w,u.1≠x)->f6 H w x=H x
 |[],_,_,_=>rfl
 |s::w,H,x,h=>by rw[f6,gQ fun u hu=>h u (Pa _ hu)];unfold put;rw[if_neg fun e=>h s Ds e.symm]
theorem iO:∀{w:List Step} {H:Hd} {x:Int},x∈w.map (·.1)->f6 H w x=none
 |[],_,_,h=>by cases h
 |s::w,H,x,h=>by
  rw[f6];by_cases e:x∈w.map (·.1)
  ·exact iO e
  ·rw[gQ fun u hu z=>e (Pw.mpr ⟨u,hu,z⟩)];rw[gc]at h;rcases Pk.mp h with rfl | h
   ·unfold put;rw[if_pos rfl]
   ·exact absurd h e
theorem iP(nd:(r.map (·.m)).Nodup)(S:Int->Bool):∀{w:List Step} {x y:Int} {H:Hd},Ok r H->Way (Led r H) x w y->(x::w.map (·.2)).Nodup ->
  Ok r (f6 H w)/\cR r (f6 H w) S=cR r H S-one (S x)+one (S y)
 |[],x,y,H,ok,h,_=>by cases h;exact⟨ok,by rw[f6];lia⟩
 |s::w,x,y,H,ok,h,hn=>by
  have hfr:=kX nd (fun p s h=>h.1) h hn;obtain⟨⟨⟨t,ht,hm,he⟩,hf⟩,h2⟩:=h;have ok1:Ok r (put H s.1 none):=fun u hu z hz=>by
   unfold put at hz;split at hz
   ·cases hz
   ·exact ok u hu z hz
  have f1:=uf nd ht H none S;rw[gM,hm,hf,h_ he]at f1;have h3:Way (Led r (put H s.1 none)) s.2 w y:=by
   have main:∀(w:List Step) (z:Int),(∀u∈w,u.1≠s.1)->Way (Led r H) z w y->Way (Led r (put H s.1 none)) z w y:=fun w=>by
    induction w with
    |nil=>intro _ _ h;exact h
    |cons u w ih=>intro z hu hw;exact⟨⟨hw.1.1,by unfold put;rw[if_neg (hu u Ds)];exact hw.1.2⟩,ih u.2 (fun v hv=>hu v (Pa _ hv)) hw.2⟩
   exact main w s.2 hfr h2
  obtain⟨k1,k2⟩:=iP nd S ok1 h3 (by rw[gc,Pn]at hn;exact hn.2);rw[f6];exact⟨k1,by rw[k2,f1];lia⟩
noncomputable def over(S:Int->Bool)(t:Tie):Bool:=S t.a != S t.b
theorem B7{H:Hd}(hc:∀p s,S p=true->cQ r H p s->S s.2=true):cR r H S=((r.filter (over S)).length:Nat):=by
 have main:∀(q:List Tie),(∀t∈q,t∈r)->cR q H S=((q.filter (over S)).length:Nat):=fun q=>by
  induction q with
  |nil=>intro _;rfl
  |cons t q ih=>
   intro hq;rw[cR,ih fun u hu=>hq u (Pa _ hu)];by_cases ho:over S t=true
   ·rw[Qx ho];have M3:t.a≠t.b:=fun e=>by unfold over at ho;rw[e]at ho;simp at ho
    have hv:val (H t.m) t S=1:=by
     unfold over at ho;cases ha:S t.a with
     |true=>
      have hb:S t.b=false:=by rw[ha]at ho;simpa using ho
      have he:Ends t t.a t.b:=⟨M3,.inl ⟨rfl,rfl⟩⟩
      have:H t.m=some t.b:=Rp fun e=>by have:=hc t.a (t.m,t.b) ha ⟨⟨t,hq t Ds,rfl,he⟩,e⟩;rw[hb]at this;cases this
      rw[this,h_ he,ha,hb];rfl
     |false=>
      have hb:S t.b=true:=by rw[ha]at ho;simpa using ho
      have he:Ends t t.b t.a:=⟨M3,.inr ⟨rfl,rfl⟩⟩
      have:H t.m=some t.a:=Rp fun e=>by have:=hc t.b (t.m,t.a) hb ⟨⟨t,hq t Ds,rfl,he⟩,e⟩;rw[ha]at this;cases this
      rw[this,h_ he,ha,hb];rfl
    rw[hv,PR]
    lia
   ·rw[Qw ho];have hv:val (H t.m) t S=0:=by
     unfold over at ho;have:S t.a=S t.b:=by simpa using ho
     unfold val;rw[this];split
     ·rfl
     ·split
      ·lia
      ·split<;>lia
    rw[hv]
    lia
 exact main r fun _ h=>h
theorem B8{H:Hd}(ok:Ok r H)(hc:∀p s,S p=true->Led r H p s->S s.2=true):cR r H S<=0:=by
 have main:∀(q:List Tie),(∀t∈q,t∈r)->cR q H S<=0:=fun q=>by
  induction q with
  |nil=>intro _;exact RK _
  |cons t q ih=>
   intro hq;rw[cR];have h1:=ih fun u hu=>hq u (Pa _ hu);have hv:val (H t.m) t S<=0:=by
    by_cases M3:t.a=t.b
    ·unfold val;rw[if_pos M3];exact RK _
    cases e:H t.m with
    |none=>rw[gM];exact RK _
    |some x=>
     have key:∀p,Ends t p x->val (some x) t S<=0:=fun p he=>by
      rw[h_ he];cases hp:S p with
      |false=>cases S x<;>decide
      |true=>have:=hc p (t.m,x) hp ⟨⟨t,hq t Ds,rfl,he⟩,e⟩;rw[this];decide
     rcases ok t (hq t Ds) x e with rfl | rfl
     ·exact key t.b ⟨M3,.inr ⟨rfl,rfl⟩⟩
     ·exact key t.a ⟨M3,.inl ⟨rfl,rfl⟩⟩
   lia
 exact main r fun _ h=>h
structure Flow(r:List Tie)(H:Hd)(a b:Int)(k:Nat):Prop where
 ok:Ok r H
 eq:∀S,cR r H S=(k:Int)*(one (S a)-one (S b))
theorem Flow.zero(r:List Tie)(a b:Int):Flow r (fun _=>none) a b 0:=⟨fun _ _ _ h=>(by cases h),fun S=>by
 induction r with
 |nil=>simp[cR]
 |cons t r ih=>rw[cR,gM,ih];simp⟩
theorem Flow.more(nd:(r.map (·.m)).Nodup){H:Hd}(f:Flow r H a b k)(h:Way (cQ r H) a w b)(hn:(a::w.map (·.2)).Nodup):Flow r (lQ H w) a b (k+1):=
 ⟨(iN nd (fun _=>true) f.ok h hn).1,fun S=>by
  rw[(iN nd S f.ok h hn).2,f.eq S];have:((k+1:Nat):Int)=(k:Int)+1:=by lia
  rw[this,Int.add_mul]
  lia⟩
theorem Flow.less(nd:(r.map (·.m)).Nodup){H:Hd}(f:Flow r H a b (k+1))(h:Way (Led r H) a w b)(hn:(a::w.map (·.2)).Nodup):Flow r (f6 H w) a b k:=
 ⟨(iP nd (fun _=>true) f.ok h hn).1,fun S=>by
  rw[(iP nd S f.ok h hn).2,f.eq S];have:((k+1:Nat):Int)=(k:Int)+1:=by lia
  rw[this,Int.add_mul]
  lia⟩
theorem Flow.cut{H:Hd}(f:Flow r H a b k)(ha:S a=true)(hb:S b=false)(hc:∀p s,S p=true->cQ r H p s->S s.2=true):(r.filter (over S)).length=k:=by
 have h1:=B7 hc;rw[f.eq S,ha,hb]at h1;simp[one]at h1
 lia
theorem Flow.reach{H:Hd}(f:Flow r H a b (k+1))(ha:S a=true)(hc:∀p s,S p=true->Led r H p s->S s.2=true):S b=true:=by
 cases hb:S b with
 |true=>rfl
 |false=>
  have h1:=B8 f.ok hc;rw[f.eq S,ha,hb]at h1;simp[one]at h1
  lia
end
end Fl
namespace Dm
def Wn(f:FN)(ρ:Env)(r:List (List Dat))(Q:Env->List (List Dat)->Prop):Prop:=∃ρ' r',f ρ r=some (ρ',r')/\Q ρ' r'
section
variable{ρ:Env}{r:List (List Dat)}{Q:Env->List (List Dat)->Prop}
theorem Va{it:FI}{bd:FB}{body:FN}(h:Wi it ρ fun ds ρ1=>Wn (gD bd body ds) ρ1 r Q):Wn (pL it bd body) ρ r Q:=by obtain⟨ds,ρ1,e1,ρ2,r2,e2,q⟩:=h;exact⟨ρ2,r2,by unfold pL;rw[e1];exact e2,q⟩
end
section
variable{R:Dat->Env->Prop}{N:Env->Dp->Prop}{ρ:Env}{as:List FE}{j:Nat}{Q:Dp->Env->Prop}{ds:List Dat}{p:Dp}{α:Type}{c:Int}{d:Dat}{t:FT}
theorem UH(rX:α->Dat)(bd:FB)(body:FN)(Q:Env->List (List Dat)->Prop)(I:List α->List α->Env->List (List Dat)->Prop):∀(q p:List α) (ρ:Env) (r:List (List Dat)),I p q ρ r ->
  (∀p x q ρ r,I p (x::q) ρ r->∃ρ1,bd (rX x) ρ=some ρ1/\Wn body ρ1 r (I (p++[x]) q))->(∀p ρ r,I p [] ρ r->Q ρ r)->Wn (gD bd body (q.map rX)) ρ r Q
 |[],p,ρ,r,h,_,k=>⟨ρ,r,rfl,k p ρ r h⟩
 |x::q,p,ρ,r,h,s,k=>by obtain⟨ρ1,e1,ρ2,r2,e2,h2⟩:=s p x q ρ r h;obtain⟨ρ3,r3,e3,h3⟩:=UH rX bd body Q I q (p++[x]) ρ2 r2 h2 s k;refine⟨ρ3,r3,?_,h3⟩;rw[gc];unfold gD;rw[e1];dsimp only;rw[e2];exact e3
theorem yf(rX:α->Dat)(bd:FB)(u:FE)(I:List α->List α->Env->Prop):∀(q p:List α) (ρ:Env),I p q ρ ->
  (∀p x q ρ,I p (x::q) ρ->∃ρ1,bd (rX x) ρ=some ρ1/\We u ρ1 fun _ ρ2=>I (p++[x]) q ρ2)->∃ρ2 p',nEs bd u (q.map rX) ρ=some ρ2/\p'=p++q/\I p' [] ρ2
 |[],p,ρ,h,_=>⟨ρ,p,rfl,by simp,h⟩
 |x::q,p,ρ,h,s=>by obtain⟨ρ1,e1,v,ρ2,e2,h2⟩:=s p x q ρ h;obtain⟨ρ3,p',e3,h3,h4⟩:=yf rX bd u I q (p++[x]) ρ2 h2 s;refine⟨ρ3,p',?_,by rw[h3];simp,h4⟩;rw[gc];unfold nEs;rw[e1];dsimp only;rw[e2];exact e3
theorem U1{j i:Nat}{e u:FE}{bd:FB}{r:List (List Dat)}{Q:Env->List (List Dat)->Prop}(h:We e ρ fun v ρ1=>∃ds ρ2,v=.new (.lst ds)/\nEs bd u ds (ρ1.set i .un)=some ρ2/\Q ρ2 (r++[ds]))(hi:¬(i=0\/i=j))(hl:r.length<SZ):Wn (zI j i e bd u) ρ r Q:=by obtain⟨v,ρ1,e1,ds,ρ2,rfl,e2,q⟩:=h;refine⟨ρ2,r++[ds],?_,q⟩;unfold zI;rw[if_neg hi,e1];dsimp only;rw[e2];dsimp only;rw[if_pos hl]
theorem Vk{Fp:FN}{ρ ρ1:Env}{P:Dp->Prop}(h:Wn Fp ρ1 [] fun _ r=>P (.l (r.map fun row=>.l (row.map .s))))(h0:j≠0)(h1:ρ.set j .un=ρ1):Wq (qp j Fp) ρ P:=by obtain⟨ρ2,r2,e,q⟩:=h;refine⟨_,?_,q⟩;unfold qp;rw[if_neg h0,h1,e]
theorem UB{z:Nat}{xs rows:List Dp}(q:N ρ (.t (xs.set z (.l []))))(hx:xs[z]?=some (.l rows)):Wc (wo z) ρ (.t xs) N R:=by refine⟨.nx ρ _,?_,q⟩;unfold wo;dsimp only;rw[hx]
theorem UT{f:List Dat->Option Dp}{Q:Val->Env->Prop}(h:Was as ρ fun xs ρ1=>∃ds p,f ds=some p/\pks ρ1 xs=some ds/\aK p=true/\Q (.val p.dat) ρ1):We (eFT f as) ρ Q:=by obtain⟨xs,ρ1,e1,ds,p,e2,e3,e4,q⟩:=h;refine⟨_,_,?_,q⟩;unfold eFT;rw[e1];dsimp only;rw[e3];dsimp only;rw[e2];dsimp only;rw[if_pos e4]
theorem Vq{i:FE}{ρ ρ':Env}{xs rows items:List Dp}{m0 m:Nat}{k:Int}(h1:We i ρ' fun v _=>v=.val (.int k))(q:N ρ (.t (xs.set m0 (.l (rows.set m (.l []))))))(e:see j ρ (.t xs)=ρ')(h3:ixN xs.length c=some m0)(h4:xs[m0]?=some (.l rows))(h5:ixN rows.length k=some m)(h6:rows[m]?=some (.l items)):Wc (qq j c i) ρ (.t xs) N R:=by obtain⟨v,ρ1,e1,rfl⟩:=h1;rw[<- e]at e1;refine⟨.nx _ _,?_,q⟩;unfold qq;dsimp only;rw[h3];dsimp only;rw[h4];dsimp only;rw[e1];dsimp only;rw[h5];dsimp only;rw[h6]
theorem Vc{f g:FP}(h:Wt t ρ fun c ρ1=>Wif c (Wp' f ρ1 Q) (Wp' g ρ1 Q)):Wp' (pIf t f g) ρ Q:=by
 obtain⟨c,ρ1,h1,h2,h3⟩:=h;cases c with
 |true=>obtain⟨p,ρ2,h4,h5⟩:=h2 rfl;exact⟨p,ρ2,by unfold pIf;rw[h1];exact h4,h5⟩
 |false=>obtain⟨p,ρ2,h4,h5⟩:=h3 rfl;exact⟨p,ρ2,by unfold pIf;rw[h1];exact h4,h5⟩
theorem U9{a i:Nat}{h:List Dat->Option Dp}(e:ρ[i]?=some (.sh (.fn a)))(k:Wp' (dg h as) ρ Q):Wp' (pFp a i h as) ρ Q:=by obtain⟨p,ρ2,h4,h5⟩:=k;exact⟨p,ρ2,by unfold pFp;rw[e];dsimp only;rw[if_pos rfl];exact h4,h5⟩
theorem Vm{is:List Nat}{f:FP}{qs:List Dp}{ρ ρ' ρ2:Env}(h:Wp' f ρ' fun q' _=>q'=.t qs)(k:N ρ2 p)(e:see j ρ p=ρ')(hb:aV qs=true)(hs:sets is (Dp.nG qs) ρ=some ρ2)(hi:is.all (fun i=>!decide (i=j))=true):Wc (kU j is f) ρ p N R:=by obtain⟨v,ρ1,h1,rfl⟩:=h;exact⟨.nx ρ2 p,by unfold kU;rw[if_pos hi,e,h1];dsimp only;rw[if_pos hb,hs],k⟩
theorem Vf{i1 i2 f:FE}{ρ ρ':Env}{xs rows ways qu:List Dp}{m0 m1:Nat}{k1 k2:Int}(h1:We i1 ρ' fun v _=>v=.val (.int k1))(h2:We i2 ρ' fun v _=>v=.val (.int k2))(h3:We f ρ' fun v _=>v=.val d)(q:N ρ (.t (xs.set m0 (.l (rows.set m1 (.l qu))))))(e:see j ρ (.t xs)=ρ')(e0:ixN xs.length c=some m0)(e1:xs[m0]?=some (.l rows))(e2:ixN rows.length k1=some m1)(e3:rows[m1]?=some (.l ways))(hb:cZ d=false)(hr:nK ways k2 d=some qu):Wc (qt j c i1 i2 f) ρ (.t xs) N R:=by obtain⟨v,ρ1,h1,rfl⟩:=h1;obtain⟨w,ρ2,h2,rfl⟩:=h2;obtain⟨z,ρ3,h3,rfl⟩:=h3;rw[<- e]at h1 h2 h3;refine⟨.nx ρ _,?_,q⟩;unfold qt;dsimp only;rw[e0];dsimp only;rw[e1];dsimp only;rw[h1];dsimp only;rw[e2];dsimp only;rw[e3];dsimp only;rw[h2];dsimp only;rw[h3];dsimp only;rw[hb,hr];rfl
theorem fnE.mk{n m:Nat}{g:FM}(h:Wm g ρ p (fun _=>False) (fun v _=>v=.val d) (fun _=>False) (fun _=>False))(hl:ds.length+1=n)(e:.un::ds.map Cell.sh++gV m .un=ρ)(hb:cZ d=false):fnE n m g p ds=some d:=by
 obtain⟨o,h1,h2⟩:=h;cases o with
 |nx _=>exact h2.elim
 |bk _=>exact h2.elim
 |ct _=>exact h2.elim
 |ret v ρ1=>have h2:v=.val d:=h2;subst h2;unfold fnE;rw[if_pos hl,e,h1];dsimp only;rw[hb];rfl
theorem Vg{f:Dp->List Dat->Option Dat}{fs gs:FS}{ρ ρ2:Env}{N:Env->Prop}{R:RV->Env->Prop}{B C:Env->Prop}(h:Was as ρ fun xs ρ1=>tks ρ1 xs=some (ds,ρ2))(hf:f p ds=some (.bl true))(ht:Wt t ρ2 fun c ρ3=>c=false/\Ws gs ρ3 N R B C):Wm (wu j f as t fs gs) ρ p N R B C:=by obtain⟨xs,ρ1,h1,h2⟩:=h;obtain⟨c,ρ3,h3,rfl,o,h4,h5⟩:=ht;exact⟨o,by unfold wu;rw[h1];dsimp only;rw[h2];dsimp only;rw[hf];dsimp only;rw[h3];exact h4,h5⟩
end
end Dm
namespace P
open Dm
noncomputable def jW:FN:=
  (nIf (tV (e2 gNe (eV 4) (eV 5))) (zE (vY (eV 4) (pI [(eV 3),(eV 5)]))
  (vY (eV 5) (pI [(eV 3),(eV 4)]))) nNx)
noncomputable def zO:List Dat->Option RV:=fn 2 4
  (aC (nE 2 (iR1 (eV 0)) 1 (bN 6) (pL (iS (eV 1)) (bT [3,4,5])
  jW))
  (sR (eV 2)))
noncomputable def B9:List Dat->Option RV:=fn 2 0
  (sR (aO 0 1 (bN 2) b_ (aO 2 1 (bN 3) (tV (e2 gNe (lN (eV 1) (e2 gIx (eV 3) (eC (.int 0)))) (e2 gIx (eV 3) (eC (.int 1))))) (eV 3))))
noncomputable def zP:List Dat->Option RV:=fn 2 0
  (sR (aO 0 1 (bN 2) b_ (aO 2 1 (bN 3) (tV (e2 gEq (lN (eV 1) (e2 gIx (eV 3) (eC (.int 0)))) (e2 gIx (eV 3) (eC (.int 1))))) (eV 3))))
noncomputable def G5:FS:=
  (sIf (tV (e2 tS (e2 gIx (eV 5) (eC (.int 1))) (eV 2))) (aC (nk 2 (e2 gIx (eV 5) (eC (.int 1))) (e2 cj (e2 gDx (eV 2) (eV 4)) (cT [(eV 5)])))
  (rB 3 (e2 gIx (eV 5) (eC (.int 1))))) sNx)
noncomputable def G6:FS:=
  (aC (sA 4 (dO 3 (eC (.int 0))))
  (fC (iS (e2 gIx (eV 0) (eV 4))) (bN 5)
  G5))
noncomputable def r8:List Dat->Option RV:=fn 2 4
  (aC (sA 2 (eD1 (eV 1) (cT [])))
  (aC (sA 3 (cT [(eV 1)]))
  (aC (whD (tTr (eV 3))
  G6 100)
  (sR (eV 2)))))
noncomputable def G7:FS:=
  (sIf (tV (e2 zA (eV 2) (eV 0))) (sE (jS 0 (eV 2))) (nk 0 (eV 2) (eV 3)))
noncomputable def B_:List Dat->Option (RV×Dat):=fnM 2 2
  (fC (iS (eV 1)) (bT [2,3])
  G7)
noncomputable def G8:FS:=
  (sE (jS 5 (eV 9)))
noncomputable def G9:FS:=
  (aC (sA 8 (cg (iS (e2 gDx (eF r8 [(eFd zP [(eV 0),(eV 5)]),(eV 2)]) (eV 3))) 1 (bN 10) b_ (e2 gIx (eV 10) (eC (.int 0)))))
  (aC (fC (iS (eV 8)) (bN 9)
  G8)
  (rB 6 (eV 8))))
noncomputable def G_:FN:=
  (zI 6 8 (cg (iS (e2 gDx (eF r8 [(eFd zP [(eV 0),(eV 5)]),(eV 2)]) (eV 3))) 1 (bN 10) b_ (e2 gIx (eV 10) (eC (.int 0)))) (bN 9) (jS 5 (eV 9)))
noncomputable def wF:List Dat->Option RV:=fn 5 5
  (aC (sA 5 (eB qi [(eV 1)]))
  (aC (sA 6 (cT []))
  (aC (fC (iR1 (eV 4)) (bN 7)
  G9)
  (sR (eV 6)))))
noncomputable def cJ:List Dat->Option Dp:=fnP 5 5
  (eZ (sA 5 (eB qi [(eV 1)]))
  (qp 6 (pL (iR1 (eV 4)) (bN 7)
  G_)))
noncomputable def yg:FS:=
  (aC (sA 9 (eF r8 [(eFd B9 [(eV 5),(eV 6)]),(eV 2)]))
  (sIf (tV (e2 zA (eV 3) (eV 9))) (aC (sE (eFm B_ 6 [(e2 gDx (eV 9) (eV 3))]))
  (sA 8 (e2 cj (eV 8) (eC (.int 1))))) (sA 7 (eB kF [(eB kM [(eV 9)])]))))
noncomputable def zQ:List Dat->Option RV:=fn 5 5
  (aC (sA 5 (eF zO [(eV 0),(eV 1)]))
  (aC (sA 6 eDn)
  (aC (sA 7 (eC .non))
  (aC (sA 8 (eC (.int 0)))
  (aC (whD (iE (tV (e2 gLt (eV 8) (eV 4))) (tV (e2 rR (eV 7) (eC .non))))
  yg 100)
  (sR (pI [(eFd wF [(eV 5),(eV 6),(eV 2),(eV 3),(eV 8)]),(eV 7)])))))))
noncomputable def bY:List Dat->Option Dp:=fnP 5 5
  (eZ (sA 5 (eF zO [(eV 0),(eV 1)]))
  (eZ (sA 6 eDn)
  (eZ (sA 7 (eC .non))
  (eZ (sA 8 (eC (.int 0)))
  (eZ (whD (iE (tV (e2 gLt (eV 8) (eV 4))) (tV (e2 rR (eV 7) (eC .non))))
  yg 100)
  (qR (pT [(dg cJ [(eV 5),(eV 6),(eV 2),(eV 3),(eV 8)]),(pO (eV 7))])))))))
noncomputable def Fo:List Dat->Option RV:=fn 5 0
  (sR (e2 rR (e2 gIx (eF zQ [(eV 0),(eV 1),(eV 2),(eV 3),(eV 4)]) (eC (.int 1))) (eC .non)))
noncomputable def Ka:List Dat->Option RV:=fn 1 0
  (sR (kD (e1 (jH isI) (eV 0)) (AZ (e1 (jH isB) (eV 0)))))
noncomputable def Fq:List Dat->Option RV:=fn 3 0
  (sR (kD (eF Ka [(eV 0)]) (fD gLe gLe (eV 1) (eV 0) (eV 2))))
noncomputable def yh:List Dat->Option RV:=fn 1 0
  (sR (eF Fq [(eV 0),(eC (.int 1)),(eC (.int 6))]))
noncomputable def yi:List Dat->Option RV:=fn 1 0
  (sIf (cA (tV (eF yh [(eV 0)]))) (fun _=>none) sNx)
noncomputable def qw:List Dat->Option RV:=fn 2 0
  (sR (aO 0 1 (bN 2) (tV (e2 gNe (eV 2) (eV 1))) (eV 2)))
noncomputable def Ca(bZ bg:Nat):FS:=
  (aC (sA 6 (eF qw [(eV 4),(eV 5)]))
  (sIf (tOr (tV (e2 gEq (e2 gIx (eV 5) (eC (.int 1))) (e2 gIx (eV 5) (eC (.int 2))))) (tV (eFp bZ 3 Fo [(eV 0),(eV 6),(e2 gIx (eV 5) (eC (.int 1))),(e2 gIx (eV 5) (eC (.int 2))),(eV 2)]))) (sA 4 (eV 6)) sNx))
noncomputable def uh(bZ bg:Nat):List Dat->Option RV:=fn 4 3
  (aC (sA 4 (eB gu [(eV 1)]))
  (aC (fC (iS (eV 1)) (bN 5)
  (Ca bZ bg))
  (sR (eV 4))))
noncomputable def fR:List Dat->Option Dp:=fnP 1 0
  (qR (iz (iR1 (eV 0)) 1 (bN 1) (pO (cT []))))
noncomputable def bJ:List Dat->Option Dp:=fnP 5 0
  (qR (pIx (dg bY [(eV 0),(eV 1),(eV 2),(eV 3),(eV 4)]) 0))
noncomputable def cS(bZ bg:Nat):List Dat->Option Dp:=fnP 5 1
  (eZ (sA 5 (aO 1 1 (bN 6) (tV (e2 ck (eV 6) (eV 2))) (eV 6)))
  (qR (iz (iS (eV 5)) 1 (bN 6) (pIf (tV (e2 gEq (e2 gIx (eV 6) (eC (.int 1))) (e2 gIx (eV 6) (eC (.int 2))))) (dg fR [(eV 3)]) (pFp bg 4 bJ [(eV 0),(eV 2),(e2 gIx (eV 6) (eC (.int 1))),(e2 gIx (eV 6) (eC (.int 2))),(eV 3)])))))
noncomputable def gR:List Dat->Option RV:=fn 4 0
  (sR (e2 gIx (eF zQ [(eV 0),(eF qw [(eV 1),(eV 2)]),(e2 gIx (eV 2) (eC (.int 1))),(e2 gIx (eV 2) (eC (.int 2))),(eV 3)]) (eC (.int 1))))
noncomputable def bQ(bZ bg:Nat):List Dat->Option Dp:=fnP 3 2
  (eZ (sE (eF yi [(eV 2)]))
  (eZ (sA 3 (eF (uh bZ bg) [(eV 0),(eV 1),(eV 2),(eC (.fn bZ))]))
  (eZ (sA 4 (aO 3 1 (bN 5) b_ (eF gR [(eV 0),(eV 3),(eV 5),(eV 2)])))
  (qR (pT [(pO (aO 3 1 (bN 5) b_ (e2 gIx (eV 5) (eC (.int 0))))),(dg (cS bZ bg) [(eV 0),(eV 1),(eV 3),(eV 2),(eC (.fn bg))]),(pO (eV 4))])))))
noncomputable def um:List Dat->Option RV:=fn 2 0
  (aC (sIf (tV (e2 gLt (eV 1) (eB cD [(eV 0)]))) (sR (e2 gIx (eV 0) (eV 1))) sNx)
  (sR (eC (.int 0))))
noncomputable def Cb:FS:=
  (aC (sA 5 (e2 l_ (e2 jI (e2 cj (e2 cj (e2 cj (e2 l_ (eV 2) (eC (.int 998244353))) (e2 jI (e2 jI (eC (.int 89)) (eV 4)) (eV 4))) (e2 jI (eC (.int 7)) (eV 1))) (eC (.int 1))) (eC (.int 48271))) (eC (.int 2147483647))))
  (aC (sA 5 (e2 l_ (e2 jI (eV 5) (eV 5)) (eC (.int 1000000007))))
  (aC (sA 5 (e2 l_ (e2 jI (e2 cj (eV 5) (e2 jI (eC (.int 7919)) (eV 4))) (eC (.int 69621))) (eC (.int 2147483587))))
  (sA 3 (e2 cj (e2 jI (eV 3) (eC (.int 1000003))) (e2 l_ (e2 vO (eV 5) (eC (.int 8))) (eC (.int 1000003))))))))
noncomputable def qx:List Dat->Option RV:=fn 2 4
  (aC (sA 2 (eF um [(eV 0),(eV 1)]))
  (aC (sIf (tV (e2 gGe (eV 2) (e2 vP (eC (.int 10)) (eC (.int 18))))) (sR (cT [(eV 2)])) sNx)
  (aC (sA 3 (eC (.int 0)))
  (aC (fC (iR1 (eC (.int 48))) (bN 4)
  Cb)
  (sR (cT [(eV 3)]))))))
noncomputable def b7:List Dat->Option (RV×Dat):=fnM 2 1
  (aC (sA 2 (e2 l_ (e2 gIx (eV 0) (eC (.int 0))) (eV 1)))
  (aC (zl 0 (eC (.int 0)) (e2 vO (e2 gIx (eV 0) (eC (.int 0))) (eV 1)))
  (sR (eV 2))))
noncomputable def Cc:FS:=
  (aC (sA 8 (eFm b7 0 [(eV 1)]))
  (aC (sA 9 (eFm b7 0 [(eV 1)]))
  (aC (sIf (iE (tV (e2 gGt (eV 4) (eC (.int 0)))) (tV (e2 gEq (eV 8) (eV 9)))) (sA 9 (e2 l_ (e2 cj (eV 8) (eC (.int 1))) (eV 1))) sNx)
  (aC (sIf (iE (tV (e2 gGt (eV 7) (eC (.int 0)))) (tV (e2 gEq (eFm b7 0 [(eC (.int 4))]) (eC (.int 0))))) (aC (sA 8 (e2 gIx (e2 gIx (eV 6) (e2 kq (eV 7) (eC (.int 1)))) (eC (.int 1))))
  (sA 9 (e2 gIx (e2 gIx (eV 6) (e2 kq (eV 7) (eC (.int 1)))) (eC (.int 2))))) sNx)
  (aC (rB 6 (pI [(eV 5),(eB p_ [(eV 8),(eV 9)]),(eB qc [(eV 8),(eV 9)])]))
  (sA 5 (e2 cj (e2 cj (eV 5) (eC (.int 1))) (e2 jI (eFm b7 0 [(e2 gIx (cT [(eC (.int 1)),(eC (.int 3)),(eC (.int 1000))]) (eV 4))]) (e2 gIx (cT [(eC (.int 1)),(eC (.int 1)),(e2 vP (eC (.int 10)) (eC (.int 25)))]) (eV 4))))))))))
noncomputable def uo:List Dat->Option (RV×Dat):=fnM 3 7
  (aC (sA 3 (eFm b7 0 [(e2 cj (eV 2) (eC (.int 1)))]))
  (aC (sA 4 (eFm b7 0 [(eC (.int 3))]))
  (aC (sA 5 (eFm b7 0 [(eC (.int 4))]))
  (aC (sA 6 (cT []))
  (aC (fC (iR1 (eV 3)) (bN 7)
  Cc)
  (sR (eV 6)))))))
noncomputable def yj:List Dat->Option RV:=fn 1 0
  (sR (kD (e1 (jH isI) (eV 0)) (AZ (e1 (jH isB) (eV 0)))))
noncomputable def qy:List Dat->Option RV:=fn 1 0
  (sR (kD (e1 (jH isL) (eV 0)) (eB pJ [(aO 0 1 (bN 1) b_ (eF yj [(eV 1)]))])))
noncomputable def Cd:FS:=
  (aC (sA 6 (aO 0 1 (bN 7) (tV (e2 gEq (e2 gIx (eV 7) (eC (.int 0))) (eV 5))) (eV 7)))
  (aC (sIf (tOr (tV (e2 gEq (eV 6) (cT []))) (tOr (tV (e2 gEq (e2 gIx (e2 gIx (eV 6) (eC (.int 0))) (eC (.int 1))) (e2 gIx (e2 gIx (eV 6) (eC (.int 0))) (eC (.int 2))))) (tV (e2 ck (eV 4) (zB (e2 gIx (eV 6) (eC (.int 0))) (some (eC (.int 1))) none))))) (sR (eC (.bl false))) sNx)
  (sA 4 (e2 kq (e2 cj (e2 gIx (e2 gIx (eV 6) (eC (.int 0))) (eC (.int 1))) (e2 gIx (e2 gIx (eV 6) (eC (.int 0))) (eC (.int 2)))) (eV 4)))))
noncomputable def yk:List Dat->Option RV:=fn 4 3
  (aC (sIf (tOr (cA (tV (eF qy [(eV 3)]))) (tV (e2 gNe (e1 fG (eV 3)) (eB cD [(eV 3)])))) (sR (eC (.bl false))) sNx)
  (aC (sA 4 (eV 1))
  (aC (fC (iS (eV 3)) (bN 5)
  Cd)
  (sR (e2 gEq (eV 4) (eV 2))))))
noncomputable def Ce:FS:=
  (sA 4 (e2 cj (eV 4) (eV 5)))
noncomputable def yl:List Dat->Option RV:=fn 4 2
  (aC (sIf (tOr (cA (tV (e1 (jH isL) (eV 3)))) (cA (tV (eB pJ [(aO 3 1 (bN 6) b_ (eF yk [(eV 0),(eV 1),(eV 2),(eV 6)]))])))) (sR (eC (.bl false))) sNx)
  (aC (sA 4 (cT []))
  (aC (fC (iS (eV 3)) (bN 5)
  Ce)
  (sR (e2 gEq (e1 fG (eV 4)) (eB cD [(eV 4)]))))))
noncomputable def uq:List Dat->Option RV:=fn 2 0
  (sR (aO 0 3 (bT [2,3,4]) (tV (e2 gNe (e2 gIn (eV 3) (eV 1)) (e2 gIn (eV 4) (eV 1)))) (eV 2)))
noncomputable def ym:List Dat->Option RV:=fn 2 0
  (aC (sIf (tOr (cA (tV (e1 (jH isT) (eV 1)))) (cA (tV (eB pJ [(aO 1 1 (bN 2) b_ (kD (eF yj [(eV 2)]) (fD gLe gLt (eC (.int 0)) (eV 2) (eV 0))))])))) (sR (eC (.bl false))) sNx)
  (sR (eB pJ [(cg (iR2 (eC (.int 1)) (eB cD [(eV 1)])) 1 (bN 2) b_ (e2 gLt (e2 gIx (eV 1) (e2 kq (eV 2) (eC (.int 1)))) (e2 gIx (eV 1) (eV 2))))])))
noncomputable def Cf:FS:=
  (rB 1 (eB kF [(cg (iR2 (eC (.int 1)) (eV 0)) 1 (bN 3) (tV (e2 gEq (e2 A0 (e2 zm (eV 2) (e2 kq (eV 3) (eC (.int 1)))) (eC (.int 1))) (eC (.int 1)))) (eV 3))]))
noncomputable def yo:List Dat->Option RV:=fn 1 2
  (aC (sA 1 (cT []))
  (aC (fC (iR2 (eC (.int 1)) (e2 zz (eC (.int 1)) (e2 kq (eV 0) (eC (.int 1))))) (bN 2)
  Cf)
  (sR (eV 1))))
noncomputable def yp:List Dat->Option RV:=fn 4 0
  (sR (eB qo [(cg (iS (eF yo [(eV 0)])) 1 (bN 4) (tV (e2 gNe (e2 gIn (eV 2) (eV 4)) (e2 gIn (eV 3) (eV 4)))) (eB cD [(eF uq [(eV 1),(eV 4)])]))]))
noncomputable def Cg:FS:=
  (aC (sA 5 (aO 3 1 (bN 6) (tV (e2 gNe (eV 6) (eV 4))) (eV 6)))
  (sIf (tOr (tV (e2 gEq (e2 gIx (eV 4) (eC (.int 1))) (e2 gIx (eV 4) (eC (.int 2))))) (tV (e2 gGe (eF yp [(eV 0),(eV 5),(e2 gIx (eV 4) (eC (.int 1))),(e2 gIx (eV 4) (eC (.int 2)))]) (eV 2)))) (sA 3 (eV 5)) sNx))
noncomputable def ur:List Dat->Option RV:=fn 3 3
  (aC (sA 3 (eB gu [(eV 1)]))
  (aC (fC (iS (eV 1)) (bN 4)
  Cg)
  (sR (eV 3))))
noncomputable def Ci:FS:=
  (aC (sIf (tOr (cA (tV (eF yl [(eV 2),(e2 gIx (eV 8) (eC (.int 1))),(e2 gIx (eV 8) (eC (.int 2))),(eV 9)]))) (tV (e2 gNe (eB cD [(eV 9)]) (eV 3)))) (sR (eC (.bl false))) sNx)
  (sIf (iE (tV (e2 gEq (e2 gIx (eV 8) (eC (.int 1))) (e2 gIx (eV 8) (eC (.int 2))))) (tV (e2 gNe (eV 9) (cg (iR1 (eV 3)) 1 (bN 12) b_ (cT []))))) (sR (eC (.bl false))) sNx))
noncomputable def Cj:FS:=
  (aC (sA 11 (eF uq [(eV 2),(eV 10)]))
  (sIf (tOr (tV (e2 ck (e2 gIx (eV 8) (eC (.int 0))) (eV 11))) (tV (e2 gGt (eB cD [(eV 11)]) (eV 3)))) (sR (eC (.bl false))) sNx))
noncomputable def uu:List Dat->Option RV:=fn 5 7
  (aC (sU [5,6] (eV 4))
  (aC (sA 7 (aO 1 1 (bN 12) (tV (e2 ck (eV 12) (eV 2))) (eV 12)))
  (aC (sIf (tOr (cA (tV (e1 (jH isL) (eV 5)))) (tOr (cA (tV (e1 (jH isL) (eV 6)))) (tV (e2 gNe (eB cD [(eV 5)]) (eB cD [(eV 7)]))))) (sR (eC (.bl false))) sNx)
  (aC (fC (Bs (eV 7) (eV 5)) (bT [8,9])
  Ci)
  (aC (sIf (tOr (tV (e2 gNe (eB cD [(eV 6)]) (eB cD [(eV 2)]))) (cA (tV (eB pJ [(aO 6 1 (bN 12) b_ (eF ym [(eV 0),(eV 12)]))])))) (sR (eC (.bl false))) sNx)
  (aC (fC (Bs (eV 2) (eV 6)) (bT [8,10])
  Cj)
  (sR (eC (.bl true)))))))))
noncomputable def lR:List Dat->Option RV:=fn 4 1
  (aC (sA 4 (eF ur [(eV 0),(eV 1),(eV 2)]))
  (aC (sIf (tOr (cA (tV (e1 (jH isT) (eV 3)))) (tOr (tV (e2 gNe (eB cD [(eV 3)]) (eC (.int 3)))) (cA (tV (eF qy [(e2 gIx (eV 3) (eC (.int 0)))]))))) (sR (eC (.bl false))) sNx)
  (sR (kD (e2 gEq (e2 gIx (eV 3) (eC (.int 0))) (aO 4 1 (bN 5) b_ (e2 gIx (eV 5) (eC (.int 0))))) (eF uu [(eV 0),(eV 1),(eV 4),(eV 2),(wk (eV 3) (some (eC (.int 1))) none)])))))
noncomputable def bR:List Dat->Option Dp:=fnP 1 0
  (qR (pT [(pO (eB gu [(e2 gIx (eV 0) (eC (.int 0)))])),(iz (iS (e2 gIx (eV 0) (eC (.int 1)))) 1 (bN 1) (iz (iS (eV 1)) 1 (bN 2) (pO (eB gu [(eV 2)])))),(pO (eB gu [(e2 gIx (eV 0) (eC (.int 2)))]))]))
noncomputable def wG:FC:=
  (t_ (cIf 0 (tV (e2 gNe (e2 gIx (e2 gIx (e2 gIx (eV 0) (eC (.int 1))) (eV 4)) (eV 5)) (e2 gIx (e2 gIx (eV 2) (eV 4)) (eV 5)))) (cRt 0 (eC (.bl false))) cNx)
  (qt 0 1 (eV 4) (eV 5) (e1 Ey (eC (.int 1)))))
noncomputable def Ck:FC:=
  (t_ (ua (iR1 (eB cD [(e2 gIx (eV 2) (eV 4))])) (bN 5)
  wG)
  (qq 0 1 (eV 4)))
noncomputable def qz:Dp->List Dat->Option Dat:=fnE 1 5
  (mq (kU 0 [1,2,3] (dg bR [(eV 0)]))
  (mq (wo 0)
  (mq (ua (iR1 (eB cD [(eV 2)])) (bN 4)
  Ck)
  (mIf 0 (tV (e2 gNe (e2 gIx (eV 0) (eC (.int 2))) (eV 3))) (sR (eC (.bl false)))
  (mq (wo 1)
  (zH 2
  (sR (eC (.bl true)))))))))
noncomputable def wH(bZ bg:Nat):FS:=
  (aC (sA 1 (eF qx [(eV 0),(eV 3)]))
  (aC (sA 4 (e2 cj (eC (.int 1)) (eFm b7 1 [(e2 gIx (cT [(eC (.int 3)),(eC (.int 6))]) (eFm b7 1 [(eC (.int 2))]))])))
  (aC (sA 5 (eFm uo 1 [(eV 2),(e2 gIx (cT [(eC (.int 9)),(eC (.int 9)),(eC (.int 9)),(eC (.int 14))]) (eFm b7 1 [(eC (.int 4))]))]))
  (aC (sA 6 (eB gu [(eV 5)]))
  (iM 7 (bQ bZ bg) [(eV 2),(eV 6),(eV 4)]
  (mIf 7 (cA (tV (eF lR [(eV 2),(eV 5),(eV 4),(eV 7)]))) (sR (eC (.bl false)))
  (mq (nJ 7 8 (dg bR [(eV 7)]))
  (wu 7 qz [] (tOr (tV (e2 gNe (eFT (bQ bZ bg) [(eV 2),(eV 6),(eV 4)]) (eV 8))) (tV (e2 gNe (eV 6) (eV 5)))) (sR (eC (.bl false)))
  (sIf (tV (e2 gNe (eV 5) (cT []))) (aC (sA 9 (eFm b7 1 [(eB cD [(eV 5)])]))
  (aC (sE (dO 6 (eV 9)))
  (sIf (cA (tV (eF lR [(eV 2),(e2 cj (eSl (eV 5) none (some (eV 9))) (eSl (eV 5) (some (e2 cj (eV 9) (eC (.int 1)))) none)),(eV 4),(eFT (bQ bZ bg) [(eV 2),(eV 6),(eV 4)])]))) (sR (eC (.bl false))) sNx))) sNx)))))))))
noncomputable def nQ(bZ bg:Nat):List Dat->Option RV:=fn 1 9
  (aC (sA 1 (eF qx [(eV 0),(eC (.int 0))]))
  (aC (sA 2 (e2 cj (eC (.int 1)) (eFm b7 1 [(eC (.int 6))])))
  (aC (fC (iR2 (eC (.int 1)) (eB qc [(eC (.int 2)),(eB p_ [(eC (.int 4)),(eB cD [(eV 0)])])])) (bN 3)
  (wH bZ bg))
  (sR (eC (.bl true))))))
end P
local macro_rules|`(tactic|trivial)=>`(tactic|first | (dsimp only[List.set];first | done | rfl) | rfl)
local macro_rules | `(tactic| array_get_dec)=>`(tactic| first | with_reducible refine Dm.Ss ?_ | with_reducible refine Dm.R_ ?_ | ((with_reducible apply Dm.P_);(focus rfl)) | ((with_reducible apply Dm.Sz);(focus rfl)) | with_reducible refine Dm.Sq ?_ | (refine Dm.SD ?_ (by trivial)) | (refine Dm.SA ?_ (by trivial)) | (refine Dm.TX ?_ rfl (by trivial)) | with_reducible refine Dm.Sy ?_ (by decide) | with_reducible refine Dm.SM ?_ | with_reducible refine Dm.Sw ?_ | with_reducible refine Dm.SS ?_ | with_reducible refine Dm.TF ?_ | with_reducible refine Dm.SY ?_ | with_reducible refine Dm.Um ?_ | (refine Dm.Sv ?_) | (refine Dm.bP.mk ?_) | with_reducible refine Dm.S2 ?_ | with_reducible refine Dm.SJ ?_ | with_reducible refine Dm.Q_ ?_ | with_reducible refine Dm.m_ ?_ | with_reducible refine Dm.SG ?_ | with_reducible refine Dm.SE ?_ | with_reducible refine Dm.UO ?_ | with_reducible refine Dm.S8 ?_ | with_reducible refine Dm.Th ?_ | with_reducible refine Dm.We.If ?_ | with_reducible refine Dm.TJ ?_ | with_reducible refine Dm.We.Or ?_ | with_reducible refine Dm.We.Not ?_ | with_reducible refine Dm.UU ?_ | with_reducible refine Dm.UC ?_ | with_reducible refine Dm.Wp.none ?_ | with_reducible refine Dm.Wp.some ?_ | (refine Dm.Wsl.A (rX:=Dat.int) ?_ rfl) | (refine Dm.Wsl.mk ?_ rfl) | (refine Dm.SV ?_ rfl (by trivial) (by exact Nat.le_of_ble_eq_true rfl)) | (refine Dm.Sx ?_) | (refine Dm.TL ?_) | (refine Dm.T7 ?_ rfl (by trivial)) | with_reducible refine Dm.UR ?_ | with_reducible refine Dm.Vj ?_ | with_reducible refine Dm.Uz ?_ | (refine Dm.Pb ?_ rfl) | (refine Dm.wA rfl ?_) | (refine Dm.rW ?_ rfl (by trivial) ?_) | (refine Dm.TH ?_ rfl) | (refine Dm.nP ?_ rfl (by trivial) ?_) | with_reducible refine Dm.Vb ?_ | (refine Dm.OY ?_ rfl (by trivial)) | with_reducible refine Dm.SH ?_ | (refine Dm.UN ?_) | (refine Dm.U6 ?_) | (refine Dm.S9 ?_ rfl) | with_reducible refine Dm.SK ?_ | with_reducible refine Dm.Ws.bk ?_ | with_reducible refine Dm.Ws.ct ?_ | with_reducible refine Dm.T4 ?_ | with_reducible refine Dm.SR ?_ | with_reducible refine Dm.Tf ?_ | with_reducible refine Dm.Wi.L ?_ | with_reducible refine Dm.To ?_ | with_reducible refine Dm.TR ?_ | (refine Dm.dw ?_) | (refine Dm.NX ?_) | (refine Dm.S1 ?_ rfl rfl) | (refine Dm.Tt ?_ rfl rfl) | (refine Dm.Uk ?_ rfl rfl ?_) | (refine Dm.UA ?_ rfl rfl ?_) | (refine Dm.Wg2.eqb ?_ rfl rfl) | (refine Dm.TY ?_ rfl rfl) | (refine Dm.Wg2.OZ ?_ rfl rfl) | (refine Dm.Wg2.isb ?_ rfl rfl) | (refine Dm.Ue ?_ rfl rfl) | (refine Dm.Wg2.le ?_ rfl rfl) | (refine Dm.TU ?_ rfl rfl) | (refine Dm.Uo ?_ rfl rfl) | (refine Dm.S_ ?_ rfl rfl) | (refine Dm.UG ?_ rfl rfl ?_) | (refine Dm.Wg2.O8 ?_ rfl rfl ?_) | (refine Dm.Uc ?_ rfl rfl ?_) | (refine Dm.Td ?_ rfl rfl) | (refine Dm.T9 ?_ rfl rfl (by first | exact Or.inl (by decide) | exact Or.inr (by decide))) | (refine Dm.T9 ?_ rfl rfl ?_) | (refine Dm.Uq ?_ rfl rfl (by decide)) | (refine Dm.Uq ?_ rfl rfl ?_) | (refine Dm.T6 ?_ rfl rfl (by decide)) | (refine Dm.T6 ?_ rfl rfl ?_) | (refine Dm.TZ ?_ rfl rfl) | (refine Dm.UJ ?_ rfl rfl) | (refine Dm.Wg2.inP ?_ rfl rfl) | (refine Dm.UE ?_ rfl rfl) | (refine Dm.Su ?_ rfl rfl rfl) | (refine Dm.S3 (rX:=Dat.int) ?_ rfl) | (refine Dm.WB.len ?_ rfl) | (refine Dm.WB.Pc ?_ rfl) | (refine Dm.T3 ?_ rfl) | (refine Dm.T5 ?_ rfl) | (refine Dm.Te ?_ rfl) | (refine Dm.WB.int ?_ rfl) | (refine Dm.WB.sum2 ?_ rfl ?_) | (refine Dm.Wg1.Pd (rX:=Dat.int) ?_ rfl) | (refine Dm.S7 ?_ rfl rfl))
namespace P
open Dm Fl
section
variable{r:List Tie}{n:Nat}{h:List (Int×Int)}{a b:Int}{ws:List (List Step)}{k:Nat}{o p:Option Dat}{K:List Tie}{Q:Val->Env->Prop}{R:Int->List Step}{s:Step}{α:Type}{w:List Step}{t:Tie}{S:Int->Bool}{m:Int}{i:Int}{x:Int}{j:Nat}{ρ:Env}{d:Dat}{y:Int}
noncomputable def aF(t:Tie):Dat:=.tup [.int t.m,.int t.a,.int t.b]
noncomputable def aq(r:List Tie):Dat:=.lst (r.map aF)
noncomputable def bE(s:Step):Dat:=.tup [.int s.1,.int s.2]
noncomputable def cK(w:List Step):Dat:=.lst (w.map bE)
def Pl(n:Nat)(r:List Tie):Prop:=∀t∈r,0<=t.a/\t.a<n/\0<=t.b/\t.b<n
noncomputable def cL(x:Int)(t:Tie):Option Step:=if t.a=t.b then none else if t.a=x then some (t.m,t.b) else if t.b=x then some (t.m,t.a) else none
noncomputable def aE(r:List Tie)(x:Int):List Step:=r.filterMap (cL x)
noncomputable def b8(n:Nat)(r:List Tie):List (List Dat):=(Pu n).map fun i:Nat=>(aE r i).map bE
theorem yq{i e:FE}{ρ ρ1 ρ2 ρ3:Env}{rows:List (List Dat)}{k:Int}{m:Nat}{row:List Dat}{x:Val}(h1:i ρ=some (.val (.int k),ρ1))(h2:ixN rows.length k=some m)(h3:rows[m]?=some row)(h4:e ρ1=some (x,ρ2))(h5:tk ρ2 x=some (d,ρ3))(h6:row.length<SZ) :
  vY i e ρ rows=some (ρ3,rows.set m (row++[d])):=by
 unfold vY;rw[h1];dsimp only;rw[h2];dsimp only;rw[h3];dsimp only;rw[h4];dsimp only;rw[h5];dsimp only;rw[if_pos h6]
theorem jX(r:List Tie)(t:Tie)(x:Int):aE (r++[t]) x=aE r x++(cL x t).toList:=by
 unfold aE;rw[List.filterMap_append];cases h:cL x t with
 |none=>simp[h]
 |some s=>simp[h]
theorem Cm{k:Int}(h0:0<=k)(h1:k<n):ixN n k=some k.toNat:=by unfold ixN;rw[if_pos h0,if_pos h1]
theorem ia(n:Nat)(r:List Tie)(i:Nat)(h:i<n):(b8 n r)[i]?=some ((aE r i).map bE):=by unfold b8;rw[Py,Q9 h];rfl
theorem dG(n:Nat)(r:List Tie):(b8 n r).length=n:=by simp[b8]
theorem d8(r:List Tie)(x:Int):(aE r x).length<=r.length:=List.length_filterMap_le _ _
theorem wI(n:Nat)(r:List Tie)(t:Tie)(h:t.a≠t.b)(a0:0<=t.a)(a1:t.a<n)(b0:0<=t.b)(b1:t.b<n) :
  ((b8 n r).set t.a.toNat ((aE r t.a).map bE++[bE (t.m,t.b)])).set t.b.toNat ((aE r t.b).map bE++[bE (t.m,t.a)])=b8 n (r++[t]):=by
 apply Rj;intro i;by_cases hi:i<n
 ·rw[ia _ _ _ hi,jX,PF];by_cases eb:t.b.toNat=i
  ·have e:(i:Int)=t.b:=by lia
   rw[<- eb,PM (by rw[P4,dG];lia),eb,e];have:cL t.b t=some (t.m,t.a):=by unfold cL;rw[if_neg h,if_neg (fun z=>h z),if_pos rfl]
   rw[this];rfl
  ·rw[Dk eb];by_cases ea:t.a.toNat=i
   ·have e:(i:Int)=t.a:=by lia
    rw[<- ea,PM (by rw[dG];lia),ea,e];have:cL t.a t=some (t.m,t.b):=by unfold cL;rw[if_neg h,if_pos rfl]
    rw[this];rfl
   ·rw[Dk ea,ia _ _ _ hi];have:cL i t=none:=by unfold cL;rw[if_neg h,if_neg (by lia),if_neg (by lia)]
    rw[this];simp
 ·rw[Qh (by rw[P4,P4,dG];lia),Qh (by rw[dG];lia)]
theorem wJ(n:Nat)(r:List Tie)(t:Tie)(h:t.a=t.b):b8 n (r++[t])=b8 n r:=by
 unfold b8;apply QG;intro i _;rw[jX];have:cL i t=none:=by unfold cL;rw[if_pos h]
 rw[this];simp
theorem zR(n:Nat)(r:List Tie)(t:Tie)(hl:r.length<1000)(a0:0<=t.a)(a1:t.a<n)(b0:0<=t.b)(b1:t.b<n)(c0 c1 c2:Cell) :
  jW [c0,c1,c2,.sh (.int t.m),.sh (.int t.a),.sh (.int t.b)] (b8 n r)=some ([c0,c1,c2,.sh (.int t.m),.sh (.int t.a),.sh (.int t.b)],b8 n (r++[t])):=by
 have ht:tV (e2 gNe (eV 4) (eV 5)) [c0,c1,c2,.sh (.int t.m),.sh (.int t.a),.sh (.int t.b)]=some (!decide (t.a=t.b),[c0,c1,c2,.sh (.int t.m),.sh (.int t.a),.sh (.int t.b)]):=by unfold tV e2 eV;simp[pk,rY,RV.bG]
 unfold jW nIf;rw[ht];by_cases h:t.a=t.b
 ·rw[decide_eq_true h];rw[wJ n r t h];rfl
 ·rw[decide_eq_false h];show zE _ _ _ _=_;unfold zE;have k1:=(d8 r t.a)
  have k2:=(d8 r t.b)
  have hz:SZ=100000:=rfl;have ea:((t.a.toNat:Nat):Int)=t.a:=by lia
  have eb:((t.b.toNat:Nat):Int)=t.b:=by lia
  rw[yq (k:=t.a) (m:=t.a.toNat) (row:=(aE r t.a).map bE) (d:=bE (t.m,t.b)) (ρ3:=[c0,c1,c2,.sh (.int t.m),.sh (.int t.a),.sh (.int t.b)]) rfl (by rw[dG];exact Cm a0 a1) (by rw[ia _ _ _ (by lia),ea]) rfl rfl (by rw[Pg];lia)];dsimp only;rw [yq (k:=t.b) (m:=t.b.toNat) (row:=(aE r t.b).map bE) (d:=bE (t.m,t.a)) (ρ3:=[c0,c1,c2,.sh (.int t.m),.sh (.int t.a),.sh (.int t.b)]) rfl (by rw [P4,dG];exact Cm b0 b1)
   (by rw[Dk (by lia),ia _ _ _ (by lia),eb]) rfl rfl (by rw[Pg];lia)]
  rw[wI n r t h a0 a1 b0 b1]
theorem nR(n:Nat)(c0 c1 c2:Cell):∀(q p:List Tie) (c3 c4 c5:Cell),Pl n q->p.length+q.length<=1000 ->
  ∃c3' c4' c5',gD (bT [3,4,5]) jW (q.map aF) [c0,c1,c2,c3,c4,c5] (b8 n p)=some ([c0,c1,c2,c3',c4',c5'],b8 n (p++q))
 |[],p,c3,c4,c5,_,_=>⟨c3,c4,c5,by rw[Qe];rfl⟩
 |t::q,p,c3,c4,c5,hp,hl=>by obtain⟨a0,a1,b0,b1⟩:=hp t Ds;rw[PR]at hl;obtain⟨c3',c4',c5',e⟩:=nR n c0 c1 c2 q (p++[t]) (.sh (.int t.m)) (.sh (.int t.a)) (.sh (.int t.b)) (fun u hu=>hp u (Pa _ hu)) (by rw[Pr,QH];lia);refine⟨c3',c4',c5',?_⟩;rw[gc,gD];show (match jW [c0,c1,c2,.sh (.int t.m),.sh (.int t.a),.sh (.int t.b)] (b8 n p) with | none=>none | some (ρ2,r2)=>gD (bT [3,4,5]) jW (q.map aF) ρ2 r2)=_;rw[zR n p t (by lia) a0 a1 b0 b1];dsimp only;rw[e,QO];rfl
theorem Cn(pre:Env)(k:Nat)(hk:pre.length=k)(h0:k≠0):∀(ds:List Dat) (c:Cell),∃c',nMk (bN k) ds (pre++[c])=some (pre++[c'])
 |[],c=>⟨c,rfl⟩
 |d::ds,c=>by
  obtain⟨c',e⟩:=Cn pre k hk h0 ds (.sh d);refine⟨c',?_⟩;rw[nMk];have:bN k d (pre++[c])=some (pre++[.sh d]):=by unfold bN;rw[if_neg h0,QA _ _ (by lia)];simp[hk]
  rw[this];exact e
noncomputable def bA(n:Nat)(R:Int->List Step):Dat:=.lst ((Pu n).map fun i:Nat=>cK (R i))
theorem uv(n:Nat)(hn:n<=1000)(r:List Tie)(hr:Pl n r)(hl:r.length<=1000):zO [.int n,aq r]=some (.new (bA n (aE r))):=by
 obtain⟨c3,c4,c5,e⟩:=nR n (.sh (.int n)) (.sh (aq r)) .un r [] .un .un .un hr (by simpa using hl);obtain⟨c',e2⟩:=Cn [.sh (.int n),.sh (aq r),.un,.un,.un,.un] 6 rfl (by decide) (ups 0 n) .un;have h0:b8 n []=gV n []:=by
  unfold b8 aE;apply Rj;intro i;by_cases hi:i<n
  ·rw[Py,Q9 hi,Qi,if_pos hi];rfl
  ·rw[Qh (by simp;lia),Qh (by simp;lia)]
 have hu:(ups 0 n).length=n:=by simp[ups]
 have e1:iR1 (eV 0) [.sh (.int n),.sh (aq r),.un,.un,.un,.un]=some (ups 0 n,[.sh (.int n),.sh (aq r),.un,.un,.un,.un]):=by show (if (n:Int)<=BIG/\-BIG<=(n:Int) then some (ups 0 (n:Int).toNat,_) else none)=_;rw[if_pos (by unfold BIG;lia)];rfl
 rw[h0,Ro]at e;have en:nE 2 (iR1 (eV 0)) 1 (bN 6) (pL (iS (eV 1)) (bT [3,4,5]) jW) [.sh (.int n),.sh (aq r),.un,.un,.un,.un]=some (.nx [.sh (.int n),.sh (aq r),.ow (bA n (aE r)),c3,c4,c5]):=by
  unfold nE;rw[if_neg (by decide),e1];dsimp only;rw[if_pos (by rw[hu];unfold SZ;lia)];show (match nMk (bN 6) (ups 0 n) ([.sh (.int n),.sh (aq r),.un,.un,.un,.un]++[.un]) with | none=>none | some ρ2=>_)=_;rw[e2];dsimp only;rw[hu];show (match pL (iS (eV 1)) (bT [3,4,5]) jW [.sh (.int n),.sh (aq r),.un,.un,.un,.un] (gV n []) with | none=>none | some (ρ3,r3)=>_)=_;have:pL (iS (eV 1)) (bT [3,4,5]) jW [.sh (.int n),.sh (aq r),.un,.un,.un,.un] (gV n [])=some ([.sh (.int n),.sh (aq r),.un,c3,c4,c5],b8 n r):=e;rw[this];have e3:(b8 n r).map Dat.lst=(Pu n).map fun i:Nat=>cK (aE r i):=by unfold b8;rw[P7];rfl
  show some (Out.nx [.sh (.int n),.sh (aq r),.ow (.lst ((b8 n r).map Dat.lst)),c3,c4,c5])=_;rw[e3];rfl
 apply SQ;unfold zO
 (refine Dm.SI ?_ rfl rfl;and_intros)
 refine Ss ⟨_,en,?_⟩;refine SH (Sz rfl (S9 ?_ rfl));rfl
noncomputable def hdF(h:List (Int×Int)):Hd:=fun m=>(h.find? fun e=>decide (e.1=m)).map (·.2)
noncomputable def hk(h:List (Int×Int)):List Int:=h.map (·.1)
noncomputable def hv(h:List (Int×Int)):List Dat:=h.map fun e=>Dat.int e.2
noncomputable def aY(h:List (Int×Int)):Dat:=.dct (hk h) (hv h)
theorem mG(h:List (Int×Int))(m:Int):bI (hk h) (hv h) m=(hdF h m).map Dat.int:=by
 unfold hk hv hdF
 induction h with
 |nil=>rfl
 |cons e h ih=>
  rw[gc,gc,bI,QF];by_cases q:e.1=m
  ·rw[if_pos q,decide_eq_true q];rfl
  ·rw[if_neg q,decide_eq_false q];exact ih
theorem r9:(hdF h m).isSome=decide (m∈hk h):=by
 unfold hdF hk
 induction h with
 |nil=>rfl
 |cons e h ih=>
  rw[QF];by_cases q:e.1=m
  ·rw[decide_eq_true q];simp[q]
  ·rw[decide_eq_false q];have q':¬m=e.1:=fun z=>q z.symm;simp only[gc,Pk,q',false_or];exact ih
theorem Kc(o:Option Int)(y:Int):gNe ((o.map Dat.int).getD .non) (.int y)=vB (!decide (o=some y)):=by
 cases o with
 |none=>rfl
 |some z=>
  show gNe (.int z) (.int y)=_;rw[rY];have:(z=y)=(some z=some y):=by simp
  simp only[this]
theorem Kd(o:Option Int)(y:Int):gEq ((o.map Dat.int).getD .non) (.int y)=vB (decide (o=some y)):=by
 cases o with
 |none=>rfl
 |some z=>
  show gEq (.int z) (.int y)=_;rw[ye];have:(z=y)=(some z=some y):=by simp
  simp only[this]
noncomputable def uw(h:List (Int×Int))(R:Int->List Step):Int->List Step:=fun x=>(R x).filter fun s=>!decide (hdF h s.1=some s.2)
noncomputable def ux(h:List (Int×Int))(R:Int->List Step):Int->List Step:=fun x=>(R x).filter fun s=>decide (hdF h s.1=some s.2)
theorem yr(g:Dat->Dat->Option RV)(p:Option Int->Int->Bool)(hg:∀o y,g ((o.map Dat.int).getD .non) (.int y)=vB (p o y))(h:List (Int×Int))(A:Cell)(w:List Step)(hl:w.length<=1000) :
  We (aO 2 1 (bN 3) (tV (e2 g (lN (eV 1) (e2 gIx (eV 3) (eC (.int 0)))) (e2 gIx (eV 3) (eC (.int 1))))) (eV 3)) [A,.sh (aY h),.sh (cK w)] fun v ρ'=>Wk ρ' v fun d ρ''=>d=cK (w.filter fun s=>p (hdF h s.1) s.2)/\ρ''=[A,.sh (aY h),.sh (cK w)]:=by
 refine TQ bE w (fun s=>p (hdF h s.1) s.2) id bE (d:=cK w) ?_ rfl rfl rfl (by decide) (by unfold SZ;lia) (fun s _=>?_) fun s _ _=>?_
 ·rw[QE];exact TL ⟨rfl,rfl⟩
 ·refine Sw (R_ (Vn (P_ rfl ⟨⟨_,_,rfl⟩,R_ (P_ rfl (Sq (Su ?_ rfl rfl rfl)))⟩)));refine⟨hk h,hv h,s.1,rfl,rfl,R_ (P_ rfl (Sq (Su ?_ rfl rfl rfl)))⟩;refine⟨_,_,_,rfl,rfl,(by rw[mG];exact hg _ _),?_⟩;exact Sv ⟨rfl,rfl⟩
 ·exact P_ rfl (Sx ⟨rfl,rfl⟩)
theorem iB(n:Nat)(hn:n<=1000)(R:Int->List Step)(hR:∀i:Nat,i<n->(R i).length<=1000)(h:List (Int×Int)):B9 [bA n R,aY h]=some (.new (bA n (uw h R))):=by
 apply SQ;unfold B9
 (refine Dm.SI ?_ rfl rfl;and_intros)
 refine SH ?_;refine Tn (fun i:Nat=>cK (R i)) (Pu n) id (fun i:Nat=>cK (uw h R i)) (d:=bA n R) ?_ rfl rfl rfl (by decide) (by rw[P1];unfold SZ;lia) fun i hi=>?_
 ·rw[QE];rfl
 ·exact yr gNe (fun o y=>!decide (o=some y)) Kc h _ (R i) (hR i (Qp.mp hi))
theorem r_(n:Nat)(hn:n<=1000)(R:Int->List Step)(hR:∀i:Nat,i<n->(R i).length<=1000)(h:List (Int×Int)):zP [bA n R,aY h]=some (.new (bA n (ux h R))):=by
 apply SQ;unfold zP
 (refine Dm.SI ?_ rfl rfl;and_intros)
 refine SH ?_;refine Tn (fun i:Nat=>cK (R i)) (Pu n) id (fun i:Nat=>cK (ux h R i)) (d:=bA n R) ?_ rfl rfl rfl (by decide) (by rw[P1];unfold SZ;lia) fun i hi=>?_
 ·rw[QE];rfl
 ·exact yr gEq (fun o y=>decide (o=some y)) Kd h _ (R i) (hR i (Qp.mp hi))
theorem Ft(ks:List Int)(i:Int):(ks.any fun k=>decide (k=i))=decide (i∈ks):=by
 induction ks with
 |nil=>rfl
 |cons k ks ih=>
  rw[QT,ih];by_cases h:k=i
  ·simp[h]
  ·have h':¬i=k:=fun z=>h z.symm;simp[h,h']
theorem yt{ks:List Int}{vs:List Dat}(h:i∉ks):lJ ks i=ks++[i]/\lM ks vs i d=vs++[d]:=by unfold lJ lM;rw[Ft,decide_eq_false h];exact⟨rfl,rfl⟩
theorem zS(key:α->Int)(val:α->Dat)(xs:List α)(i:Int):bI (xs.map key) (xs.map val) i=(xs.find? fun x=>decide (key x=i)).map val:=by
 induction xs with
 |nil=>rfl
 |cons x xs ih=>
  rw[gc,gc,bI,QF];by_cases h:key x=i
  ·simp[h]
  ·simp[h,ih]
theorem e7[DecidableEq α]:∀(l m:List α),l.Nodup->(∀x∈l,x∈m)->l.length<=m.length
 |[],_,_,_=>Qd _
 |x::l,m,h,k=>by
  obtain⟨h1,h2⟩:=Pn.mp h;have hx:x∈m:=k x Ds;have:=e7 l (m.erase x) h2 fun y hy=>(List.mem_erase_of_ne (fun e:y=x=>h1 (by rw[<- e];exact hy))).mpr (k y (Pa _ hy));rw[List.length_erase_of_mem hx]at this;have:=List.length_pos_of_mem hx;simp
  lia
noncomputable def places(n:Nat):List Int:=(Pu n).map fun i:Nat=>(i:Int)
theorem places_len(n:Nat):(places n).length=n:=by simp[places]
theorem wK(n:Nat)(x:Int):x∈places n↔0<=x/\x<n:=by
 unfold places;rw[Pw];constructor
 ·rintro⟨i,hi,rfl⟩;have:=Qp.mp hi
  lia
 ·rintro⟨h0,h1⟩;exact⟨x.toNat,Qp.mpr (by lia),by lia⟩
noncomputable abbrev Sr:=List (Int×List Step)
noncomputable def sk(s:Sr):List Int:=s.map (·.1)
noncomputable def sv(s:Sr):List Dat:=s.map fun e=>cK e.2
def InR(R:Int->List Step)(p:Int)(s:Step):Prop:=s∈R p
structure sd(R:Int->Step->Prop)(a:Int)(w:List Step)(p:Int):Prop where
 way:Way R a w p
 nd:(a::w.map (·.2)).Nodup
structure Fnd(n:Nat)(R:Int->List Step)(a:Int)(s:Sr):Prop where
 nd:(sk s).Nodup
 pl:∀x∈sk s,0<=x/\x<n
 st:a∈sk s
 way:∀e∈s,sd (InR R) a e.2 e.1/\∀x∈a::e.2.map (·.2),x∈sk s
theorem Fnd.len{a:Int}{s:Sr}(h:Fnd n R a s):s.length<=n:=by
 have:=e7 (sk s) (places n) h.nd fun x hx=>(wK n x).mpr (h.pl x hx);rw[places_len]at this
 simpa [sk] using this
theorem Fnd.zT{a:Int}{s:Sr}(h:Fnd n R a s){e:Int×List Step}(he:e∈s):e.2.length<s.length:=by
 obtain⟨h1,h2⟩:=h.way e he;have:=e7 (a::e.2.map (·.2)) (sk s) h1.nd h2;simp[sk]at this
 lia
theorem dB(s:Sr)(x:Int)(w:List Step):sk (s++[(x,w)])=sk s++[x]:=by simp[sk]
theorem Fv(s:Sr)(x:Int)(w:List Step):sv (s++[(x,w)])=sv s++[cK w]:=by simp[sv]
theorem se(s:Sr)(x:Int):(∃w,(x,w)∈s/\bI (sk s) (sv s) x=some (cK w))\/(x∉sk s/\bI (sk s) (sv s) x=none):=by
 unfold sk sv;rw[zS (fun e:Int×List Step=>e.1) (fun e=>cK e.2) s x];cases hf:s.find? fun e=>decide (e.1=x) with
 |none=>refine Or.inr ⟨fun h=>?_,rfl⟩;obtain⟨e,he,hx⟩:=Pw.mp h;have:=Rt.mp hf e he;simp[hx]at this
 |some e=>
  have h1:=List.mem_of_find?_eq_some hf;have h2:=List.find?_some hf;have h2:e.1=x:=by simpa using h2
  exact Or.inl ⟨e.2,by rw[<- h2];exact h1,rfl⟩
theorem lT(s:Sr)(x:Int):(bI (sk s) (sv s) x).isSome=decide (x∈sk s):=by
 rcases se s x with⟨ts,h1,h2⟩ | ⟨h1,h2⟩
 ·have:x∈sk s:=Pw.mpr ⟨_,h1,rfl⟩;rw[h2,decide_eq_true this];rfl
 ·rw[h2,decide_eq_false h1];rfl
theorem Fnd.start{a:Int}(a0:0<=a)(a1:a<n):Fnd n R a [(a,[])] where
 nd:=by simp[sk]
 pl:=by intro x hx;simp[sk]at hx;subst hx;exact⟨a0,a1⟩
 st:=by simp[sk]
 way:=by intro e he;simp at he;subst he;exact⟨⟨rfl,by simp⟩,by simp[sk]⟩
theorem Fnd.step{a:Int}{s:Sr}(h:Fnd n R a s){p:Int}(hp:(p,w)∈s){u:Step}(hu:u∈R p)(hn:u.2∉sk s)(u0:0<=u.2)(u1:u.2<n):Fnd n R a (s++[(u.2,w++[u])]) where
 nd:=by rw[dB];exact P6.mpr ⟨h.nd,by simp,fun x hx y hy=>by rw[PN.mp hy];exact fun e=>hn (e▸hx)⟩
 pl:=by
  intro x hx;rw[dB]at hx;rcases PV.mp hx with hx | hx
  ·exact h.pl x hx
  ·rw[PN.mp hx];exact⟨u0,u1⟩
 st:=by rw[dB];exact PK _ h.st
 way:=by
  intro e he;rw[dB];rcases PV.mp he with he | he
  ·obtain⟨k1,k2⟩:=h.way e he;exact⟨k1,fun x hx=>PK _ (k2 x hx)⟩
  ·rw[PN.mp he];obtain⟨k1,k2⟩:=h.way _ hp;refine⟨⟨k1.way.snoc hu,?_⟩,fun x hx=>?_⟩
   ·dsimp only at k1 k2 ⊢;rw[PF,<- QX];exact P6.mpr ⟨k1.nd,by simp,fun x hx y hy=>by rw[PN.mp hy];exact fun e:x=u.2=>hn (by rw[<- e];exact k2 x hx)⟩
   ·dsimp only at k1 k2 hx ⊢;rw[PF,<- QX]at hx;rcases PV.mp hx with hx | hx
    ·exact PK _ (k2 x hx)
    ·exact PB _ (by simpa using hx)
def Done(R:Int->List Step)(K:List Int)(x:Int):Prop:=∀u∈R x,u.2∈K
noncomputable def Fw(n:Nat)(R:Int->List Step)(a:Int)(s:Sr)(ps:List Int)(c4 c5:Cell):Env:=[.sh (bA n R),.sh (.int a),.ow (.dct (sk s) (sv s)),.ow (.lst (ps.map Dat.int)),c4,c5]
theorem Ke{ps:List Int}{p0:Int}{i:Nat}{e:FE}{ρ ρ2:Env}(q:Q (.val (.int p0)) ρ2)(h:ρ[i]?=some (.ow (.lst ((p0::ps).map Dat.int))))(he:e ρ=some (.val (.int 0),ρ))(hs:ρ.set i (.ow (.lst (ps.map Dat.int)))=ρ2):We (dO i e) ρ Q:=
 ⟨_,_,by unfold dO;rw[h];dsimp only;rw[he];dsimp only;rw[h];dsimp only;rw[if_pos (by unfold BIG;lia)];show some (Val.val (.int p0),ρ.set i (.ow (.lst (ps.map Dat.int))))=_;rw[hs],q⟩
theorem Fx(n:Nat)(R:Int->List Step)(x:Int)(h0:0<=x)(h1:x<n):gIx (bA n R) (.int x)=some (.val (cK (R x))):=by
 unfold bA gIx;dsimp only;rw[mF (fun i:Nat=>cK (R i)) (Pu n) x h0 (by rw[P1];exact h1)];have e:(((Pu n)[x.toNat]'(by rw[P1];lia):Nat):Int)=x:=by rw[List.getElem_range];lia
 rw[e];rfl
theorem lU(n:Nat)(hn:n<=40)(R:Int->List Step)(hR:∀i:Int,0<=i->i<n->∀u∈R i,0<=u.2/\u.2<n)(a:Int)(a0:0<=a)(a1:a<n) :
  ∃s:Sr,r8 [bA n R,.int a]=some (.new (.dct (sk s) (sv s)))/\Fnd n R a s/\∀x∈sk s,Done R (sk s) x:=by
 suffices h:Wr (r8 [bA n R,.int a]) fun v=>∃s:Sr,v=.new (.dct (sk s) (sv s))/\Fnd n R a s/\∀x∈sk s,Done R (sk s) x by obtain⟨v,h1,s,rfl,h2⟩:=h;exact⟨s,h1,h2⟩
 unfold r8
 (refine Dm.SI ?_ rfl rfl;and_intros)
 repeat array_get_dec
 refine Ua (fun k ρ=>∃(s:Sr) (ps:List Int) (c4 c5:Cell),ρ=Fw n R a s ps c4 c5/\Fnd n R a s/\(∀x∈ps,x∈sk s)/\(∀x∈sk s,x∈ps\/Done R (sk s) x)/\k=ps.length+(n-s.length)/\k<=40) ?_ 100 n _ (by lia) ⟨[(a,[])],[a],_,_,rfl,Fnd.start a0 a1,by simp[sk],by simp[sk],by simp;lia,hn⟩;rintro k ρ ⟨s,ps,c4,c5,rfl,F,hps,hd,hk,Pe⟩;unfold Fw;refine Vt ?_;refine Sz rfl ?_;refine⟨_,!(ps.map Dat.int).isEmpty,rfl,rfl,?_⟩;have len:=F.len;cases ps with
 |nil=>refine S5 rfl ?_;refine SH (Sz rfl (S9 ?_ rfl));exact⟨s,rfl,F,fun x hx=>(hd x hx).resolve_left (by simp)⟩
 |cons p0 ps0=>
  refine Tg rfl ?_;unfold G6;refine Ss (Sy ?_ (by decide));refine Ke (ps:=ps0) (p0:=p0) ?_ rfl rfl rfl;refine SD ?_ (by trivial);have hp0:p0∈sk s:=hps p0 (by simp);obtain⟨q0,q1⟩:=F.pl p0 hp0;refine SR (Tf (R_ (P_ rfl (P_ rfl (Su ?_ rfl rfl (Fx n R p0 q0 q1))))));refine Sx (dw ?_);refine SX bE _ _ (R p0) _ _ _ _ _ (fun p q ρ=>∃(s:Sr) (ps:List Int) (c5:Cell),ρ=Fw n R a s ps (.sh (.int p0)) c5/\Fnd n R a s/\(∀x∈ps,x∈sk s)/\p0∈sk s/\(∀x∈sk s,x∈ps\/x=p0\/Done R (sk s) x)/\(∀u∈p,u.2∈sk s)/\k=ps.length+1+(n-s.length)) ⟨s,ps0,_,rfl,F,fun x hx=>hps x (by simp[hx]),hp0,?_,by simp,by rw[hk];simp⟩ ?_ ?_
  ·intro x hx;rcases hd x hx with h | h
   ·rcases Pk.mp h with h | h
    ·exact .inr (.inl h)
    ·exact .inl h
   ·exact .inr (.inr h)
  ·rintro p u q ρ e' ⟨s,ps,c5,rfl,F,hps,hp0,hd,hp,hk⟩;have len:=F.len;have hu:u∈R p0:=by rw[e'];simp
   obtain⟨u0,u1⟩:=hR p0 q0 q1 u hu;unfold Fw;refine Dm.bK rfl (by trivial) ?_;unfold G5;refine SM (Sw (R_ (R_ (P_ rfl (Sq (Su ?_ rfl rfl rfl))))));refine Sz rfl (UJ ?_ rfl rfl);refine Sv ?_;rw[lT];refine⟨fun h=>?_,fun h=>?_⟩
   ·have hnew:=ndT h;obtain⟨w,t1,t2⟩:∃w,(p0,w)∈s/\bI (sk s) (sv s) p0=some (cK w):=by
     rcases se s p0 with h | h
     ·exact h
     ·exact absurd hp0 h.1
    have wl:=F.zT t1;refine Ss (Uz (R_ (R_ (Sz rfl (P_ rfl (Ul t2 ?_ rfl rfl))))));refine S8 (m_ (P_ rfl (Q_ (SV ?_ rfl rfl (by exact P8 rfl)))));refine Uc ?_ rfl rfl (by rw[Pg];dsimp only at wl;simp;unfold SZ;lia);refine TL (wA rfl (R_ (P_ rfl (Sq (Su ?_ rfl rfl rfl)))));refine bP.mk (rW ?_ rfl (by trivial) (by simp only[sk,Pg];unfold SZ;lia));refine TH (R_ (P_ rfl (Sq (Su ?_ rfl rfl rfl)))) rfl;refine Sx (nP ?_ rfl (by trivial) (by rw[Pg];unfold SZ;lia));have F':=F.step t1 hu hnew u0 u1;have len':=F'.len;have em:Dat.lst (w.map bE++[bE u])=cK (w++[u]):=by simp[cK]
    obtain⟨p1,p2⟩:=yt (ks:=sk s) (vs:=sv s) (i:=u.2) (d:=cK (w++[u])) hnew;refine⟨s++[(u.2,w++[u])],ps++[u.2],.sh (bE u),?_,F',?_,?_,?_,?_,?_⟩
    ·rw[em,p1,p2,dB,Fv,PF];rfl
    ·intro x hx;rw[dB];rcases PV.mp hx with hx | hx
     ·exact PK _ (hps x hx)
     ·exact PB _ hx
    ·rw[dB];exact PK _ hp0
    ·intro x hx;rw[dB]at hx ⊢;rcases PV.mp hx with hx | hx
     ·rcases hd x hx with h | h | h
      ·exact .inl (PK _ h)
      ·exact .inr (.inl h)
      ·exact .inr (.inr fun y hy=>PK _ (h y hy))
     ·exact .inl (PB _ hx)
    ·intro v hv;rw[dB];rcases PV.mp hv with hv | hv
     ·exact PK _ (hp v hv)
     ·rw[PN.mp hv];simp
    ·rw[hk];simp at len' ⊢;lia
   ·have hold:=ndF h;refine SK ?_;refine⟨s,ps,.sh (bE u),rfl,F,hps,hp0,hd,fun v hv=>?_,hk⟩;rcases PV.mp hv with hv | hv
    ·exact hp v hv
    ·rw[PN.mp hv];exact hold
  ·rintro ρ ⟨s,ps,c5,rfl,F,hps,hp0,hd,hp,hk⟩;refine⟨ps.length+(n-s.length),by lia,s,ps,_,_,rfl,F,hps,fun x hx=>?_,rfl,by lia⟩;rcases hd x hx with h | rfl | h
   ·exact .inl h
   ·exact .inr hp
   ·exact .inr h
noncomputable def lV(h:List (Int×Int))(s:Step):List (Int×Int):=if s.1∈hk h then h.filter fun e=>decide (e.1≠s.1) else h++[s]
theorem nS(h:List (Int×Int))(m:Int):hdF (h.filter fun e=>decide (e.1≠m))=put (hdF h) m none:=by
 funext x
 unfold put hdF;rw[List.find?_filter];by_cases e:x=m
 ·subst e;rw[if_pos rfl,Rt.mpr fun y _=>by simp];rfl
 ·rw[if_neg e]
  congr 1
  congr 1
  funext y
  by_cases q:y.1=x
  ·have:y.1≠m:=fun z=>e (q.symm.trans z);simp[q,e]
  ·simp[q]
theorem Fy(h:List (Int×Int))(s:Step)(hn:s.1∉hk h):hdF (h++[s])=put (hdF h) s.1 (some s.2):=by
 funext x
 unfold put hdF;rw[List.find?_append];by_cases e:x=s.1
 ·subst e;rw[if_pos rfl];have:(h.find? fun e=>decide (e.1=s.1))=none:=Rt.mpr fun y hy=>by
   intro z;exact hn (Pw.mpr ⟨y,hy,of_decide_eq_true z⟩)
  rw[this];simp
 ·rw[if_neg e];have e':¬s.1=x:=fun z=>e z.symm;cases hf:(h.find? fun e=>decide (e.1=x)) with
  |none=>simp[e']
  |some y=>rfl
theorem Co(h:List (Int×Int))(s:Step):hdF (lV h s)=gO (hdF h) s.1 s.2:=by
 unfold lV gO;rw[r9];by_cases q:s.1∈hk h
 ·rw[if_pos q,if_pos (decide_eq_true q),nS]
 ·rw[if_neg q,if_neg (by simpa using q),Fy h s q]
noncomputable def bS(h:List (Int×Int)):List Step->List (Int×Int)
 |[]=>h
 |s::w=>bS (lV h s) w
theorem qA:∀(w:List Step) (h:List (Int×Int)),hdF (bS h w)=lQ (hdF h) w
 |[],_=>rfl
 |s::w,h=>by rw[bS,lQ,qA w,Co]
theorem gS:∀(w:List Step) (h:List (Int×Int)) (s:Step),bS h (w++[s])=lV (bS h w) s
 |[],_,_=>rfl
 |_::w,h,s=>by rw[QX,bS,bS,gS w]
theorem ic(h:List (Int×Int))(m:Int):fM (hk h) (hv h) m=hk (h.filter fun e=>decide (e.1≠m))/\fN (hk h) (hv h) m=hv (h.filter fun e=>decide (e.1≠m)):=by
 unfold hk hv
 induction h with
 |nil=>exact⟨rfl,rfl⟩
 |cons e h ih=>
  rw[gc,gc,fM,fN];by_cases q:e.1=m
  ·rw[if_pos q,if_pos q,Qw (by simpa using q)];exact ih
  ·rw[if_neg q,if_neg q,Qx (by simpa using q),gc,gc,ih.1,ih.2];exact⟨rfl,rfl⟩
structure Hok(r:List Tie)(h:List (Int×Int)):Prop where
 nd:(hk h).Nodup
 sub:∀m∈hk h,m∈r.map (·.m)
theorem Hok.len(k:Hok r h):h.length<=r.length:=by
 have:=e7 (hk h) (r.map (·.m)) k.nd k.sub
 simpa [hk] using this
theorem Hok.nil(r:List Tie):Hok r []:=⟨by simp[hk],by simp[hk]⟩
theorem Hok.drop(k:Hok r h)(m:Int):Hok r (h.filter fun e=>decide (e.1≠m)):=by refine⟨(k.nd.sublist (Rr.map _ (Rl))),fun x hx=>k.sub x ?_⟩;obtain⟨e,he,rfl⟩:=Pw.mp hx;exact Pw.mpr ⟨e,(Qa.mp he).1,rfl⟩
theorem Hok.lead(k:Hok r h)(hs:s.1∈r.map (·.m)):Hok r (lV h s):=by
 unfold lV;split
 ·exact k.drop _
 ·rename_i q;refine⟨?_,fun x hx=>?_⟩
  ·unfold hk;rw[PF];exact P6.mpr ⟨k.nd,by simp,fun x hx y hy=>by
    have:y=s.1:=by simpa using hy
    rw[this];exact fun e=>q (e▸hx)⟩
  ·unfold hk at hx;rw[PF]at hx;rcases PV.mp hx with hx | hx
   ·exact k.sub x hx
   ·have:x=s.1:=by simpa using hx
    rw[this];exact hs
theorem Hok.Cp:∀{w:List Step} {h:List (Int×Int)},Hok r h->(∀s∈w,s.1∈r.map (·.m))->Hok r (bS h w)
 |[],_,k,_=>k
 |s::w,h,k,hs=>by rw[bS];exact Hok.Cp (w:=w) (k.lead (hs s Ds)) fun u hu=>hs u (Pa _ hu)
theorem pP(r:List Tie)(hl:r.length<=1000)(h:List (Int×Int))(k:Hok r h)(w:List Step)(hw:∀s∈w,s.1∈r.map (·.m)):B_ [aY h,cK w]=some (.val .non,aY (bS h w)):=by
 suffices q:WrM (B_ [aY h,cK w]) fun z d=>z=.val .non/\d=aY (bS h w) by obtain⟨z,d,h1,rfl,rfl⟩:=q;exact h1
 unfold B_;refine Uh ?_ rfl rfl;refine SR (Tf (P_ rfl (Sx (dw ?_))));refine SX bE _ _ w _ _ _ _ _ (fun p q ρ=>∃c2 c3,ρ=[.ow (aY (bS h p)),.sh (cK w),c2,c3]) ⟨_,_,rfl⟩ ?_ ?_
 ·rintro p s q ρ e ⟨c2,c3,rfl⟩;refine Dm.bK rfl (by trivial) ?_;have kp:Hok r (bS h p):=k.Cp fun u hu=>hw u (by rw[e];exact PK _ hu);have len:=kp.len;unfold G7;refine SM (Sw (R_ (P_ rfl (Sz rfl (TZ ?_ rfl rfl)))));refine Sv ?_;rw[mG,Rh,r9];refine SW (fun hm=>?_) fun hm=>?_
  ·obtain⟨x,hx⟩:∃x,hdF (bS h p) s.1=some x:=Option.isSome_iff_exists.mp (by rw[r9];exact decide_eq_true hm);refine T4 (Uy (k:=s.1) (d:=.int x) (by rw[mG,hx];rfl) ?_ rfl rfl rfl);refine⟨.sh (.int s.1),.sh (.int s.2),?_⟩;rw[gS,lV,if_pos hm,(ic _ _).1,(ic _ _).2];rfl
  ·refine Uz (P_ rfl (Sx (wA rfl (P_ rfl (bP.mk (rW ?_ rfl (by trivial) ?_))))))
   ·refine⟨.sh (.int s.1),.sh (.int s.2),?_⟩;rw[gS,lV,if_neg hm];obtain⟨p1,p2⟩:=yt (ks:=hk (bS h p)) (vs:=hv (bS h p)) (i:=s.1) (d:=.int s.2) hm;rw[p1,p2];unfold aY hk hv;rw[PF,PF];rfl
   ·unfold hk;rw[Pg];unfold SZ;lia
 ·rintro ρ ⟨c2,c3,rfl⟩;exact⟨_,rfl,rfl,rfl⟩
theorem lX:s∈aE r x↔fZ r x s:=by
 unfold aE;rw[RM];constructor
 ·rintro⟨t,ht,e⟩;unfold cL at e;split at e
  ·cases e
  rename_i M3;split at e
  ·rename_i ha;cases e;exact⟨t,ht,rfl,M3,.inl ⟨ha,rfl⟩⟩
  ·split at e
   ·rename_i hb;cases e;exact⟨t,ht,rfl,M3,.inr ⟨hb,rfl⟩⟩
   ·cases e
 ·rintro⟨t,ht,hm,M3,he⟩;refine⟨t,ht,?_⟩;unfold cL;rw[if_neg M3];rcases he with⟨h1,h2⟩ | ⟨h1,h2⟩
  ·rw[if_pos h1,hm,h2]
  ·rw[if_neg (fun z=>M3 (z.trans h1.symm)),if_pos h1,hm,h2]
theorem uy(hp:Pl n r)(h:fZ r x s):(0<=x/\x<n)/\0<=s.2/\s.2<n:=by
 obtain⟨t,ht,_,_,he⟩:=h;have:=hp t ht
 lia
theorem Fz(h:fZ r x s):s.1∈r.map (·.m):=by obtain⟨t,ht,hm,_⟩:=h;exact Pw.mpr ⟨t,ht,hm⟩
theorem wL{R:Int->Step->Prop}(hR:∀p s,R p s->fZ r p s):∀{w:List Step} {x:Int},Way R x w y->∀s∈w,s.1∈r.map (·.m)
 |[],_,_,s,hs=>by cases hs
 |u::w,x,h,s,hs=>by
  rcases Pk.mp hs with rfl | hs
  ·exact Fz (hR _ _ h.1)
  ·exact wL hR h.2 s hs
theorem nT{p:Int}:InR (uw h (aE r)) p s↔cQ r (hdF h) p s:=by unfold InR uw cQ;rw[Qa,lX];simp
theorem sj{p:Int}:InR (ux h (aE r)) p s↔Led r (hdF h) p s:=by unfold InR ux Led;rw[Qa,lX];simp
theorem zU(w:List Step):bC (cK w)=true:=g_ _ _ fun s=>by unfold bE bC;exact kW _ (by intro x hx;simp at hx;rcases hx with rfl | rfl<;>exact qv _)
theorem iQ(n:Nat)(R:Int->List Step):bC (bA n R)=true:=g_ (fun i:Nat=>cK (R i)) _ fun i=>zU _
noncomputable def mso(w:List Step):List Int:=w.map (·.1)
noncomputable def msD(w:List Step):Dat:=.lst ((mso w).map Dat.int)
noncomputable def bD(h:List (Int×Int)):List Int->List (Int×Int)
 |[]=>h
 |m::ms=>bD (h.filter fun e=>decide (e.1≠m)) ms
theorem gT:∀(ms:List Int) (h:List (Int×Int)) (m:Int),bD h (ms++[m])=(bD h ms).filter fun e=>decide (e.1≠m)
 |[],_,_=>rfl
 |_::ms,h,m=>by rw[QX,bD,bD,gT ms]
theorem kY:∀(w:List Step) (h:List (Int×Int)),hdF (bD h (mso w))=f6 (hdF h) w
 |[],_=>rfl
 |s::w,h=>by show hdF (bD _ (mso w))=f6 _ w;rw[kY w,nS]
theorem lY:∀(ms:List Int) (h:List (Int×Int)) (x:Int),x∉ms->hdF (bD h ms) x=hdF h x
 |[],_,_,_=>rfl
 |m::ms,h,x,hx=>by rw[bD,lY ms _ x fun z=>hx (Pa _ z),nS];unfold put;rw[if_neg fun z=>hx (by rw[z];exact Ds)]
theorem Hok.drops:∀{ms:List Int} {h:List (Int×Int)},Hok r h->Hok r (bD h ms)
 |[],_,k=>k
 |m::ms,h,k=>by rw[bD];exact Hok.drops (ms:=ms) (k.drop m)
theorem sq{H:Hd}:∀{w:List Step} {x:Int},Way (Led r H) x w y->∀s∈w,H s.1=some s.2
 |[],_,_,s,hs=>by cases hs
 |u::w,x,h,s,hs=>by
  rcases Pk.mp hs with rfl | hs
  ·exact h.1.2
  ·exact sq h.2 s hs
structure uz(r:List Tie)(a b:Int)(ws:List (List Step)):Prop where
 way:∀w∈ws,sd (fZ r) a w b
 nd:(ws.map mso).flatten.Nodup
noncomputable def zV(n:Nat)(r:List Tie)(h0 h:List (Int×Int))(a b:Int)(c:Nat)(ws:List (List Step))(c7 c8 c9:Cell):Env:=
 [.sh (bA n (aE r)),.sh (aY h0),.sh (.int a),.sh (.int b),.sh (.int c),.ow (aY h),.ow (.lst (ws.map msD)),c7,c8,c9]
def Nxt(n:Nat)(r:List Tie)(a b:Int)(h:List (Int×Int))(w:List Step):Prop:=∀(A:Dat) (c4 c6 c7 c8 c9:Cell),
 iS (e2 gDx (eF r8 [(eFd zP [(eV 0),(eV 5)]),(eV 2)]) (eV 3)) [.sh (bA n (aE r)),.sh A,.sh (.int a),.sh (.int b),c4,.ow (aY h),c6,c7,c8,c9]
  = some (w.map bE,[.sh (bA n (aE r)),.sh A,.sh (.int a),.sh (.int b),c4,.ow (aY h),c6,c7,c8,c9])
inductive PRs(n:Nat)(r:List Tie)(a b:Int)(h:List (Int×Int)):List (List Step)->List (Int×Int)->Prop
 |nil:PRs n r a b h [] h
 |snoc {ws:List (List Step)} {h':List (Int×Int)} {w:List Step}:PRs n r a b h ws h'->Nxt n r a b h' w->PRs n r a b h (ws++[w]) (bD h' (mso w))
theorem qB:∀{u v:List Step},u.map bE=v.map bE->u=v
 |[],[],_=>rfl
 |[],_::_,h=>by cases h
 |_::_,[],h=>by cases h
 |x::u,y::v,h=>by
  rw[gc,gc]at h;injection h with h1 h2
  rw[qB h2];obtain⟨x1,x2⟩:=x;obtain⟨y1,y2⟩:=y;unfold bE at h1;injection h1 with h1
  injection h1 with h3 h4
  injection h4 with h4 _
  injection h3 with h3
  injection h4 with h4
  subst h3;subst h4;rfl
theorem Nxt.det{w v:List Step}(x:Nxt n r a b h w)(y:Nxt n r a b h v):w=v:=by
 have e:=(x .non .un .un .un .un .un).symm.trans (y .non .un .un .un .un .un);injection e with e
 injection e with e _
 exact qB e
theorem PRs.det{h1:List (Int×Int)}(x:PRs n r a b h ws h1):∀{vs:List (List Step)} {h2:List (Int×Int)},PRs n r a b h vs h2->ws.length=vs.length->ws=vs/\h1=h2:=by
 induction x with
 |nil=>
  intro vs h2 y e;cases y with
  |nil=>exact⟨rfl,rfl⟩
  |snoc y1 y2=>simp at e
 |snoc x1 x2 ih=>
  intro vs h2 y e;cases y with
  |nil=>simp at e
  |snoc y1 y2=>obtain⟨rfl,rfl⟩:=ih y1 (by simpa using e);rw[x2.det y2];exact⟨rfl,rfl⟩
theorem qC(n:Nat)(hn:n<=40)(r:List Tie)(hp:Pl n r)(nd:(r.map (·.m)).Nodup)(hl:r.length<=1000)(a b:Int)(a0:0<=a)(a1:a<n)(h':List (Int×Int))(c:Nat)(fl':Flow r (hdF h') a b (c+1)) :
  ∃w,Nxt n r a b h' w/\sd (Led r (hdF h')) a w b/\(mso w).Nodup/\w.length<=1000:=by
 have hR:∀i:Nat,i<n->(aE r i).length<=1000:=fun i _=>PL (d8 r i) hl;obtain⟨s,es,F,hd⟩:=lU n hn (ux h' (aE r)) (fun i _ _ u hu=>(uy hp ((sj (h:=h')).mp hu).1).2) a a0 a1;have hb:b∈sk s:=by have:=fl'.reach (S:=fun y=>decide (y∈sk s)) (decide_eq_true F.st) fun y u hy hu=>decide_eq_true (hd y (of_decide_eq_true hy) u (sj.mpr hu));exact of_decide_eq_true this
 obtain⟨w,t1,t2⟩:∃w,(b,w)∈s/\bI (sk s) (sv s) b=some (cK w):=by
  rcases se s b with h | h
  ·exact h
  ·exact absurd hb h.1
 obtain⟨⟨w1,w2⟩,_⟩:=F.way _ t1;have zT:=F.zT t1;have O0:=F.len;dsimp only at w1 w2 zT;have w1':Way (Led r (hdF h')) a w b:=w1.mono fun _ _ z=>sj.mp z;refine⟨w,fun A c4 c6 c7 c8 c9=>?_,⟨w1',w2⟩,lP nd (fun p s h=>h.1) w1' w2,by lia⟩;apply S4;refine Tf (R_ (SE (m_ (Uu (m_ (P_ rfl (m_ (Sz rfl (Q_ ?_)))))))));refine⟨_,_,_,rfl,r_ n (by lia) (aE r) hR h',iQ _ _,?_⟩;refine m_ (P_ rfl (Q_ (SN es ?_ rfl rfl rfl rfl)));refine P_ rfl (Ul t2 ?_ rfl rfl);exact Sx (dw ⟨rfl,rfl⟩)
structure Told(n:Nat)(r:List Tie)(a b:Int)(h:List (Int×Int))(ws:List (List Step))(h':List (Int×Int))(p q:Nat):Prop where
 k:Hok r h'
 wl:ws.length=p
 fl:Flow r (hdF h') a b q
 W:uz r a b ws
 no:∀m∈(ws.map mso).flatten,hdF h' m=none
 run:PRs n r a b h ws h'
theorem Told.more{h h':List (Int×Int)}{p q:Nat}(t:Told n r a b h ws h' p (q+1))(nd:(r.map (·.m)).Nodup)(nx:Nxt n r a b h' w)(sw:sd (Led r (hdF h')) a w b)(wm:(mso w).Nodup) :
  Told n r a b h (ws++[w]) (bD h' (mso w)) (p+1) q:=by
 obtain⟨w1',w2⟩:=sw;have fl2:=t.fl.less nd w1' w2;rw[<- kY]at fl2;refine⟨t.k.drops,by simp[t.wl],fl2,⟨fun v hv=>?_,?_⟩,fun m hm=>?_,t.run.snoc nx⟩
 ·rcases PV.mp hv with hv | hv
  ·exact t.W.way v hv
  ·rw[PN.mp hv];exact⟨w1'.mono fun _ _ z=>z.1,w2⟩
 ·rw[PF,Rm];refine P6.mpr ⟨t.W.nd,by rw[gc,RA,Ql,List.flatten_nil,Qe];exact wm,fun m hm z hz=>?_⟩;intro e;subst e;have:m∈mso w:=by simpa using hz
  obtain⟨st1,hst,rfl⟩:=Pw.mp this;have h1:=sq w1' st1 hst;rw[t.no _ hm]at h1;cases h1
 ·rw[PF,Rm]at hm;rw[kY];rcases PV.mp hm with hm | hm
  ·by_cases z:m∈mso w
   ·exact iO z
   ·rw[gQ fun u hu e=>z (Pw.mpr ⟨u,hu,e⟩)];exact t.no m hm
  ·rw[gc,RA,Ql,List.flatten_nil,Qe]at hm;exact iO hm
theorem yu{h':List (Int×Int)}{pm:List Int}(sw:∀s∈w,hdF h' s.1=some s.2)(hmw:m∈mso w)(hm:m∉pm):∃d,bI (hk (bD h' pm)) (hv (bD h' pm)) m=some (.int d):=by obtain⟨st1,hst,rfl⟩:=Pw.mp hmw;exact⟨st1.2,by rw[mG,lY pm h' st1.1 hm,sw st1 hst];rfl⟩
theorem zW(n:Nat)(hn:n<=40)(r:List Tie)(hp:Pl n r)(nd:(r.map (·.m)).Nodup)(hl:r.length<=1000)(h:List (Int×Int))(k:Hok r h)(a b:Int)(a0:0<=a)(a1:a<n)(c:Nat)(hc:c<=1000)(fl:Flow r (hdF h) a b c) :
  ∃(ws:List (List Step)) (h':List (Int×Int)),wF [bA n (aE r),aY h,.int a,.int b,.int c]=some (.new (.lst (ws.map msD)))/\Told n r a b h ws h' c 0:=by
 suffices q:Wr (wF [bA n (aE r),aY h,.int a,.int b,.int c]) fun v=>∃(ws:List (List Step)) (h':List (Int×Int)),v=.new (.lst (ws.map msD))/\Told n r a b h ws h' c 0 by obtain⟨v,h1,ws,h',rfl,h2⟩:=q;exact⟨ws,h',h1,h2⟩
 unfold wF
 (refine Dm.SI ?_ rfl rfl;and_intros)
 refine Ss (Sy (SG (m_ (P_ rfl (Q_ (Ur (ks:=hk h) (vs:=hv h) ?_ rfl))))) (by decide));refine SA ?_ (by trivial);refine Ss (Sy (S8 (Q_ (SV ?_ rfl rfl (by decide)))) (by decide));refine SA ?_ (by trivial);refine Ss (SR (To (P_ rfl (bP.mk ⟨?_,by unfold BIG;lia,by unfold BIG;lia⟩))));refine SX (fun i:Nat=>Dat.int (0+(i:Nat))) _ _ (Pu c) _ _ _ _ _ (fun p q ρ=>∃(h':List (Int×Int)) (ws:List (List Step)) (c7 c8 c9:Cell),ρ=zV n r h h' a b c ws c7 c8 c9/\Told n r a b h ws h' p.length q.length)
  ⟨h,[],_,_,_,rfl,k,rfl,by rw[P1];exact fl,⟨by simp,by simp⟩,by simp,.nil⟩ ?_ ?_
 ·rintro p x q ρ e ⟨h',ws,c7,c8,c9,rfl,t⟩;rw[PR]at t;unfold zV;refine Dm.bK rfl (by trivial) ?_;unfold G9;obtain⟨w,nx,sw,wm,zT⟩:=qC n hn r hp nd hl a b a0 a1 h' _ t.fl;refine Ss (Sy (Ui bE w (fun s=>s.1) Dat.int ?_ (nx _ _ _ _ _ _) rfl (by decide) (by unfold SZ;lia) fun s _=>R_ (P_ rfl (Sq (Su (Sx ⟨rfl,rfl⟩) rfl rfl rfl)))) (by decide));refine SA ?_ (by trivial);refine Ss (SR (Tf (Sz rfl (T7 (dw ?_) rfl (by trivial)))));refine SX Dat.int _ _ (mso w) _ _ _ _ _ (fun pm qm ρ=>∃c9,ρ=zV n r h (bD h' pm) a b c ws (.sh (.int (0+(x:Nat)))) (.sh (msD w)) c9) ⟨_,rfl⟩ ?_ ?_
  ·rintro pm m qm ρ em ⟨c9,rfl⟩;unfold zV;refine Dm.bK rfl (by trivial) ?_;unfold G8;have hm:m∉pm:=by
    rw[em]at wm;exact fun z=>(P6.mp wm).2.2 m z m Ds rfl
   obtain⟨d,hx⟩:=yu (sq sw.way) (by rw[em];simp) hm;refine T4 (Uy (k:=m) hx ?_ rfl rfl rfl);refine⟨.sh (.int m),?_⟩;rw[gT,(ic _ _).1,(ic _ _).2];rfl
  ·rintro ρ ⟨c9,rfl⟩;unfold zV;refine TH (P_ rfl (Sx (nP ?_ rfl (by trivial) ?_))) rfl
   ·refine⟨bD h' (mso w),ws++[w],.sh (.int (0+(x:Nat))),.sh (msD w),c9,?_,by rw[Pr];exact t.more nd nx sw wm⟩;rw[PF];rfl
   ·rw[Pg,t.wl];have:=congrArg List.length e;rw[P1,Pr]at this;unfold SZ;lia
 ·rintro ρ ⟨h',ws,c7,c8,c9,rfl,t⟩;unfold zV;refine SH (Sz rfl (S9 ?_ rfl));exact⟨ws,h',rfl,by rw[P1]at t;exact t⟩
noncomputable def msP(w:List Step):Dp:=.l (((mso w).map Dat.int).map .s)
noncomputable def wM(n:Nat)(r:List Tie)(h0 h:List (Int×Int))(a b:Int)(c:Nat)(c7 c9:Cell):Env:=
 [.sh (bA n (aE r)),.sh (aY h0),.sh (.int a),.sh (.int b),.sh (.int c),.ow (aY h),.un,c7,.un,c9]
theorem wN(n:Nat)(hn:n<=40)(r:List Tie)(hp:Pl n r)(nd:(r.map (·.m)).Nodup)(hl:r.length<=1000)(h:List (Int×Int))(k:Hok r h)(a b:Int)(a0:0<=a)(a1:a<n)(c:Nat)(hc:c<=1000)(fl:Flow r (hdF h) a b c) :
  ∃(ws:List (List Step)) (h':List (Int×Int)),cJ [bA n (aE r),aY h,.int a,.int b,.int c]=some (.l (ws.map msP))/\Told n r a b h ws h' c 0:=by
 suffices q:∃p,cJ [bA n (aE r),aY h,.int a,.int b,.int c]=some p/\∃(ws:List (List Step)) (h':List (Int×Int)),p=.l (ws.map msP)/\Told n r a b h ws h' c 0 by obtain⟨v,h1,ws,h',rfl,h2⟩:=q;exact⟨ws,h',h1,h2⟩
 unfold cJ;refine Tv ?_ rfl rfl;refine Ti (Sy (SG (m_ (P_ rfl (Q_ (Ur (ks:=hk h) (vs:=hv h) ?_ rfl))))) (by decide));refine SA ?_ rfl;refine Vk ?_ (by decide) rfl;refine Va (To (P_ rfl (bP.mk ⟨?_,by unfold BIG;lia,by unfold BIG;lia⟩)));refine UH (fun i:Nat=>Dat.int (0+(i:Nat))) _ _ _ (fun p q ρ rr=>∃(h':List (Int×Int)) (ws:List (List Step)) (c7 c9:Cell),ρ=wM n r h h' a b c c7 c9/\rr=ws.map (fun w=>(mso w).map Dat.int)/\Told n r a b h ws h' p.length q.length/\p.length+q.length=c) (Pu c) [] _ _
  ⟨h,[],_,_,rfl,rfl,⟨k,rfl,by rw[P1];exact fl,⟨by simp,by simp⟩,by simp,.nil⟩,by simp⟩ ?_ ?_
 ·rintro p x q ρ rr ⟨h',ws,c7,c9,rfl,rfl,t,hpq⟩;rw[PR]at t hpq;refine⟨wM n r h h' a b c (.sh (.int (0+(x:Nat)))) c9,rfl,?_⟩;unfold wM G_;obtain⟨w,nx,sw,wm,zT⟩:=qC n hn r hp nd hl a b a0 a1 h' _ t.fl;refine U1 (Ui bE w (fun s=>s.1) Dat.int ?_ (nx _ _ _ _ _ _) rfl (by decide) (by unfold SZ;lia) fun s _=>R_ (P_ rfl (Sq (Su (Sx ⟨rfl,rfl⟩) rfl rfl rfl)))) (by decide) (by rw[Pg,t.wl];unfold SZ;lia);obtain⟨ρ2,p',e2,ep,c9',em',rfl⟩:=yf Dat.int (bN 9) (jS 5 (eV 9)) (fun pm qm ρ=>∃c9,pm++qm=mso w/\ρ=wM n r h (bD h' pm) a b c (.sh (.int (0+(x:Nat)))) c9) (mso w) [] (wM n r h h' a b c (.sh (.int (0+(x:Nat)))) c9) ⟨c9,rfl,rfl⟩ fun pm m qm ρ hI=>by
   obtain⟨c9,em,rfl⟩:=hI;refine⟨wM n r h (bD h' pm) a b c (.sh (.int (0+(x:Nat)))) (.sh (.int m)),rfl,?_⟩;have hm:m∉pm:=by rw[<- em]at wm;exact fun z=>(P6.mp wm).2.2 m z m Ds rfl
   obtain⟨d,hx⟩:=yu (sq sw.way) (by rw[<- em];simp) hm;refine Uy (k:=m) hx ?_ rfl rfl rfl;refine⟨.sh (.int m),by rw[QO];exact em,?_⟩;unfold wM;rw[gT,(ic _ _).1,(ic _ _).2];rfl
  rw[Qe]at em';subst em';refine⟨_,_,rfl,e2,bD h' (mso w),ws++[w],_,c9',rfl,by rw[PF];rfl,?_,by rw[Pr];simp;lia⟩;rw[Pr];exact t.more nd nx sw wm
 ·rintro p ρ rr ⟨h',ws,c7,c9,rfl,rfl,t,hpq⟩;refine⟨ws,h',by rw[P7];rfl,?_⟩;rw[R7,Nat.add_zero]at hpq;rw[hpq]at t;exact t
theorem uA(n:Nat)(hn:n<=40)(r:List Tie)(hp:Pl n r)(nd:(r.map (·.m)).Nodup)(hl:r.length<=1000)(h:List (Int×Int))(k:Hok r h)(a b:Int)(a0:0<=a)(a1:a<n)(c:Nat)(hc:c<=1000)(fl:Flow r (hdF h) a b c) :
  ∃ws:List (List Step),wF [bA n (aE r),aY h,.int a,.int b,.int c]=some (.new (.lst (ws.map msD)))/\cJ [bA n (aE r),aY h,.int a,.int b,.int c]=some (.l (ws.map msP))/\ws.length=c/\uz r a b ws:=by
 obtain⟨ws,h1,e1,t1⟩:=zW n hn r hp nd hl h k a b a0 a1 c hc fl;obtain⟨vs,h2,e2,t2⟩:=wN n hn r hp nd hl h k a b a0 a1 c hc fl;obtain⟨rfl,_⟩:=t1.run.det t2.run (by rw[t1.wl,t2.wl]);exact⟨ws,e1,e2,t1.wl,t1.W⟩
noncomputable def tupI(S:List Int):Dat:=.tup (S.map Dat.int)
noncomputable def ovr(S:List Int)(t:Tie):Bool:=decide (t.a∈S) != decide (t.b∈S)
noncomputable def e8(r:List Tie)(S:List Int):List Int:=(r.filter (ovr S)).map (·.m)
def FA(n:Nat)(a b:Int)(S:List Int):Prop:=S.Pairwise (· < ·)/\(∀x∈S,0<=x/\x<n)/\a∈S/\b∉S
noncomputable def f7:Option (List Int)->Dat
 |none=>.non
 |some S=>tupI S
theorem Cq{l:List Int}(h:l.Nodup):(fY ltI l).Pairwise (· < ·):=by
 have h1:=pM l;have h2:(fY ltI l).Nodup:=(fH ltI l).nodup_iff.mpr h;refine(Se.and h1 h2).imp fun {x y} q=>?_;obtain⟨q1,q2⟩:=q;simp[ltI]at q1
 lia
structure Apart(n:Nat)(r:List Tie)(a b:Int)(most:Int)(ws:List (List Step))(o:Option (List Int)):Prop where
 ways:uz r a b ws
 le:(ws.length:Int)<=most
 all:o=none->(ws.length:Int)=most
 side:∀S,o=some S->FA n a b S/\(e8 r S).length=ws.length/\(ws.length:Int)<most
noncomputable def wO(n:Nat)(r:List Tie)(a b most:Int)(c5:Cell)(h:List (Int×Int))(o:Option (List Int))(k:Nat)(c9:Cell):Env:=
 [.sh (.int n),.sh (aq r),.sh (.int a),.sh (.int b),.sh (.int most),c5,.ow (aY h),.sh (f7 o),.sh (.int k),c9]
def yw(n:Nat)(r:List Tie)(c:Cell):Prop:=c=.ow (bA n (aE r))\/c=.sh (bA n (aE r))
theorem yx(ws:List (List Step)):bC (.lst (ws.map msD))=true:=g_ _ _ fun w=>wC _
theorem Cr{c5:Cell}(h5:yw n r c5)(A B C D E G H I J:Cell){Q:Val->Env->Prop}(BZ:List FE){Q':List Val->Env->Prop}
  (k:∀x,(x=.slot 5/\c5=.ow (bA n (aE r)))\/(x=.val (bA n (aE r))/\c5=.sh (bA n (aE r)))->Was BZ [A,B,C,D,E,c5,G,H,I,J] fun xs ρ2=>Q' (x::xs) ρ2):Was (eV 5::BZ) [A,B,C,D,E,c5,G,H,I,J] Q':=by
 rcases h5 with rfl | rfl
 ·exact m_ (Sz rfl (k _ (.inl ⟨rfl,rfl⟩)))
 ·exact m_ (P_ rfl (k _ (.inr ⟨rfl,rfl⟩)))
noncomputable def zX:FS:=aC (sA 5 (eF zO [(eV 0),(eV 1)])) (aC (sA 6 eDn) (aC (sA 7 (eC .non)) (aC (sA 8 (eC (.int 0))) (whD (iE (tV (e2 gLt (eV 8) (eV 4))) (tV (e2 rR (eV 7) (eC .non)))) yg 100))))
theorem mH(a b c:FS):aC (aC a b) c=aC a (aC b c):=by
 funext ρ
 unfold aC;cases a ρ with
 |none=>rfl
 |some o=>cases o<;>rfl
theorem jY(a b:FS)(c:FSP):eZ (aC a b) c=eZ a (eZ b c):=by
 funext ρ
 unfold eZ aC;cases a ρ with
 |none=>rfl
 |some o=>cases o<;>rfl
def Kf(n:Nat)(r:List Tie)(a b most:Int)(ρ:Env):Prop:=∃(c5:Cell) (h:List (Int×Int)) (o:Option (List Int)) (MZ:Nat) (c9:Cell),ρ=wO n r a b most c5 h o MZ c9/\yw n r c5/\Hok r h/\Flow r (hdF h) a b MZ/\(MZ:Int)<=most/\(∀S,o=some S->FA n a b S/\(e8 r S).length=MZ/\(MZ:Int)<most)/\(o≠none\/¬(MZ:Int)<most)
theorem Kg(n:Nat)(hn:n<=40)(r:List Tie)(hp:Pl n r)(nd:(r.map (·.m)).Nodup)(hl:r.length<=1000)(a b:Int)(a0:0<=a)(a1:a<n)(b0:0<=b)(b1:b<n)(most:Int)(m0:0<=most)(m1:most<=90) :
  Ws zX [.sh (.int n),.sh (aq r),.sh (.int a),.sh (.int b),.sh (.int most),.un,.un,.un,.un,.un] (Kf n r a b most) (fun _ _=>False) (fun _=>False) (fun _=>False):=by
 unfold zX;refine Ss (Sy (SE (m_ (P_ rfl (m_ (P_ rfl (Q_ (SN (uv n (by lia) r hp hl) ?_ rfl rfl rfl rfl))))))) (by decide));refine SA ?_ (by trivial);refine Ss (Sy (UR (SA ?_ (by trivial))) (by decide));refine Ss (Sy (Sq (SD ?_ (by trivial))) (by decide));refine Ss (Sy (Sq (SD ?_ (by trivial))) (by decide));have hR:∀i:Nat,i<n->(aE r i).length<=1000:=fun i _=>PL (d8 r i) hl;refine Ua (fun k ρ=>∃ (c5:Cell) (h:List (Int×Int)) (o:Option (List Int)) (MZ:Nat) (c9:Cell),ρ=wO n r a b most c5 h o MZ c9∧yw n r c5∧Hok r h∧Flow r (hdF h) a b MZ∧(MZ:Int)≤most∧(∀ S,o=some S→FA n a b S∧(e8 r S).length=MZ∧(MZ:Int)<most) ∧
   k=(most-MZ).toNat+(if o=none then 1 else 0)) ?_ 100 (most.toNat+1) _ (by lia) ⟨_,[],none,0,_,rfl,.inl rfl,Hok.nil r,Flow.zero r a b,m0,by simp,by simp⟩
 rintro k ρ ⟨c5,h,o,MZ,c9,rfl,h5,hok,fl,hle,hs,hk⟩;unfold wO;have Ks:o≠none\/¬(MZ:Int)<most->Kf n r a b most [.sh (.int n),.sh (aq r),.sh (.int a),.sh (.int b),.sh (.int most),c5,.ow (aY h),.sh (f7 o),.sh (.int MZ),c9]:=fun hend=>⟨c5,h,o,MZ,c9,rfl,h5,hok,fl,hle,hs,hend⟩;refine TF (Sw (R_ (P_ rfl (P_ rfl (Ue (Sv ?_) rfl rfl)))));refine SW (fun J9=>?_) fun hge=>?_
 ·refine Sw (R_ (P_ rfl (Sq (Ut (Sv ?_) rfl rfl))));cases o with
  |some S=>refine S5 rfl ?_;exact Ks (.inl (by simp))
  |none=>
   refine Tg rfl ?_;unfold yg;obtain⟨s,es,F,hd⟩:=lU n hn (uw h (aE r)) (fun i _ _ u hu=>(uy hp ((nT (h:=h)).mp hu).1).2) a a0 a1;have O0:=F.len;have search:∀{N:Env->Prop} {R:RV->Env->Prop} {B C:Env->Prop},(∀c5',yw n r c5'->N [.sh (.int n),.sh (aq r),.sh (.int a),.sh (.int b),.sh (.int most),c5',.ow (aY h),.sh (f7 none),.sh (.int MZ),.ow (.dct (sk s) (sv s))]) ->
     Ws (sA 9 (eF r8 [(eFd B9 [(eV 5),(eV 6)]),(eV 2)])) [.sh (.int n),.sh (aq r),.sh (.int a),.sh (.int b),.sh (.int most),c5,.ow (aY h),.sh (f7 none),.sh (.int MZ),c9] N R B C:=fun {N R B C} kN=>by
    refine Sy (SE (m_ (Uu (Cr (Q:=fun _ _=>True) h5 _ _ _ _ _ _ _ _ _ _ fun x hx=>?_)))) (by decide);refine m_ (Sz rfl (Q_ ?_));rcases hx with⟨rfl,rfl⟩ | ⟨rfl,rfl⟩
    ·refine⟨_,_,_,rfl,iB n (by lia) (aE r) hR h,iQ _ _,?_⟩;refine m_ (P_ rfl (Q_ (SN es ?_ rfl rfl rfl rfl)));exact SA (kN _ (.inr rfl)) (by trivial)
    ·refine⟨_,_,_,rfl,iB n (by lia) (aE r) hR h,iQ _ _,?_⟩;refine m_ (P_ rfl (Q_ (SN es ?_ rfl rfl rfl rfl)));exact SA (kN _ (.inr rfl)) (by trivial)
   refine Ss (search fun c5' h5'=>?_);refine SM (Sw (R_ (P_ rfl (Sz rfl (TZ (Sv ?_) rfl rfl)))));rw[lT];refine SW (fun hb=>?_) fun hb=>?_
   ·obtain⟨w,t1,t2⟩:∃w,(b,w)∈s/\bI (sk s) (sv s) b=some (cK w):=by
     rcases se s b with h | h
     ·exact h
     ·exact absurd hb h.1
    obtain⟨⟨w1,w2⟩,_⟩:=F.way _ t1;dsimp only at w1 w2;have w1':Way (cQ r (hdF h)) a w b:=w1.mono fun _ _ z=>nT.mp z;have wms:=wL (fun p s (z:cQ r (hdF h) p s)=>z.1) w1';have el:=pP r hl h hok w wms;refine Ss (T4 (Ux (m_ (R_ (Sz rfl (P_ rfl (Ul t2 (Q_ (T8 el ?_ rfl rfl rfl)) rfl rfl))))) rfl));refine Sy (R_ (P_ rfl (Sq (S_ (SD ?_ (by trivial)) rfl rfl)))) (by decide);have fl2:=fl.more nd w1' w2;rw[<- qA]at fl2;refine⟨(most-(MZ+1:Nat)).toNat+1,by rw[hk];simp;lia,c5',bS h w,none,MZ+1,.ow (.dct (sk s) (sv s)),?_,h5',hok.Cp wms,fl2,by lia,by simp,by simp⟩;have:((MZ:Int)+1)=((MZ+1:Nat):Int):=by lia
    rw[this]
   ·refine Sy (SG (m_ (SG (m_ (Sz rfl (Q_ (Vd (ks:=sk s) (vs:=sv s) ?_ rfl (by simp only[sk,Pg];lia)))))))) (by decide);refine Q_ (Ug ?_ rfl);refine SD ?_ (by trivial);have pm:=fH ltI (sk s);have hS:∀x,x∈fY ltI (sk s)↔x∈sk s:=fun x=>pm.mem_iff;refine⟨(most-MZ).toNat,by rw[hk];simp,c5',h,some (fY ltI (sk s)),MZ,.ow (.dct (sk s) (sv s)),rfl,h5',hok,fl,hle,fun S z=>?_,by simp⟩;cases z;refine⟨⟨Cq F.nd,fun x hx=>F.pl x ((hS x).mp hx),(hS a).mpr F.st,fun z=>hb ((hS b).mp z)⟩,?_,J9⟩;have:=fl.cut (S:=fun y=>decide (y∈fY ltI (sk s))) (decide_eq_true ((hS a).mpr F.st)) (decide_eq_false fun z=>hb ((hS b).mp z)) fun y u hy hu=>decide_eq_true ((hS _).mpr (hd y ((hS y).mp (of_decide_eq_true hy)) u (nT.mpr hu)));unfold e8;rw[Pg];exact this
 ·refine S5 rfl ?_;exact Ks (.inr hge)
theorem qD(n:Nat)(hn:n<=40)(r:List Tie)(hp:Pl n r)(nd:(r.map (·.m)).Nodup)(hl:r.length<=1000)(a b:Int)(a0:0<=a)(a1:a<n)(b0:0<=b)(b1:b<n)(most:Int)(m0:0<=most)(m1:most<=90) :
  ∃ws o,zQ [.int n,aq r,.int a,.int b,.int most]=some (.val (.tup [.lst (ws.map msD),f7 o]))/\bY [.int n,aq r,.int a,.int b,.int most]=some (.t [.l (ws.map msP),.s (f7 o)])/\Apart n r a b most ws o:=by
 obtain⟨z,hS,q⟩:=Kg n hn r hp nd hl a b a0 a1 b0 b1 most m0 m1;cases z with
 |ret _ _=>exact q.elim
 |bk _=>exact q.elim
 |ct _=>exact q.elim
 |nx ρ5=>
  obtain⟨c5,h,o,MZ,c9,rfl,h5,hok,fl,hle,hs,hend⟩:=(show Kf n r a b most ρ5 from q)
  obtain⟨ws,ep,eq,wl,W⟩:=uA n hn r hp nd hl h hok a b a0 a1 MZ (by lia) fl;have fin2:Apart n r a b most ws o:=⟨W,by rw[wl];exact hle,fun z=>by rw[wl];have:=hend.resolve_left (fun y=>y z);lia,fun S z=>by rw[wl];exact hs S z⟩
  refine⟨ws,o,?_,?_,fin2⟩
  ·apply SQ;unfold zQ
   (refine Dm.SI ?_ rfl rfl;and_intros)
   suffices t:Ws (aC zX (sR (pI [(eFd wF [(eV 5),(eV 6),(eV 2),(eV 3),(eV 8)]),(eV 7)]))) [.sh (.int n),.sh (aq r),.sh (.int a),.sh (.int b),.sh (.int most),.un,.un,.un,.un,.un] (fun _=>RV.val .non=RV.val (.tup [.lst (ws.map msD),f7 o])) (fun v _=>v=RV.val (.tup [.lst (ws.map msD),f7 o])) (fun _=>False) (fun _=>False) by unfold zX at t;rw[mH,mH,mH,mH]at t;exact t
   refine Ss ⟨_,hS,?_⟩;show Ws _ (wO n r a b most c5 h o MZ c9) _ _ _ _;unfold wO;refine SH (UO (m_ (Uu (Cr (Q:=fun _ _=>True) h5 _ _ _ _ _ _ _ _ _ _ fun x hx=>?_))));refine m_ (Sz rfl (m_ (P_ rfl (m_ (P_ rfl (m_ (P_ rfl (Q_ ?_))))))));rcases hx with⟨rfl,rfl⟩ | ⟨rfl,rfl⟩
   ·refine⟨_,_,_,rfl,ep,yx ws,?_⟩;exact m_ (P_ rfl (Q_ (SV rfl rfl rfl (by exact P8 rfl))))
   ·refine⟨_,_,_,rfl,ep,yx ws,?_⟩;exact m_ (P_ rfl (Q_ (SV rfl rfl rfl (by exact P8 rfl))))
  ·suffices t:Wq (eZ zX (qR (pT [(dg cJ [(eV 5),(eV 6),(eV 2),(eV 3),(eV 8)]),(pO (eV 7))]))) [.sh (.int n),.sh (aq r),.sh (.int a),.sh (.int b),.sh (.int most),.un,.un,.un,.un,.un] (fun p=>p=.t [.l (ws.map msP),.s (f7 o)]) by
    unfold zX at t;rw[jY,jY,jY,jY]at t;unfold bY;obtain⟨p,e1,rfl⟩:=Tv (n:=5) (m:=5) (ds:=[.int n,aq r,.int a,.int b,.int most]) t rfl rfl;exact e1
   refine Ti ⟨_,hS,?_⟩;show Wq _ (wO n r a b most c5 h o MZ c9) _;unfold wO;refine Tq (T_ (Wpa.cons (S6 (Cr (Q:=fun _ _=>True) h5 _ _ _ _ _ _ _ _ _ _ fun x hx=>?_))));refine m_ (Sz rfl (m_ (P_ rfl (m_ (P_ rfl (m_ (P_ rfl (Q_ ?_))))))));rcases hx with⟨rfl,rfl⟩ | ⟨rfl,rfl⟩
   ·exact⟨_,_,_,eq,Wpa.cons (Us (P_ rfl ⟨rfl,Wpa.nil ⟨by exact P8 rfl,rfl⟩⟩)),rfl⟩
   ·exact⟨_,_,_,eq,Wpa.cons (Us (P_ rfl ⟨rfl,Wpa.nil ⟨by exact P8 rfl,rfl⟩⟩)),rfl⟩
theorem iC(n:Nat)(hn:n<=40)(r:List Tie)(hp:Pl n r)(nd:(r.map (·.m)).Nodup)(hl:r.length<=1000)(a b:Int)(a0:0<=a)(a1:a<n)(b0:0<=b)(b1:b<n)(most:Int)(m0:0<=most)(m1:most<=90) :
  ∃ws o,zQ [.int n,aq r,.int a,.int b,.int most]=some (.val (.tup [.lst (ws.map msD),f7 o]))/\Apart n r a b most ws o:=by
 obtain⟨ws,o,h1,_,h2⟩:=qD n hn r hp nd hl a b a0 a1 b0 b1 most m0 m1;exact⟨ws,o,h1,h2⟩
theorem dD(x n:Int)(h:1<=n):0<=x % n/\x % n<n:=⟨Int.emod_nonneg x (by lia),Int.emod_lt_of_pos x (by lia)⟩
noncomputable def at'(ns:List Int)(i:Int):Int:=ns.getD i.toNat 0
theorem Kh(ns:List Int)(i:Int)(h0:0<=i)(h1:i<ns.length):gIx (.lst (ns.map Dat.int)) (.int i)=some (.val (.int (at' ns i))):=by show (atI (ns.map Dat.int) i).map RV.val=_;rw[Dm.mF Dat.int ns i h0 h1];unfold at';rw[Qg,Pp (by lia)];rfl
theorem M8{ns:List Int}{K:RV->Prop}(h0:0<=i)(h1:i<ns.length)(k:K (.val (.int (at' ns i))))(ho:o=some (.lst (ns.map Dat.int)))(hp:p=some (.int i)):Wg2 gIx o p K:=⟨_,_,_,ho,hp,Kh ns i h0 h1,k⟩
noncomputable def bL(x:Int):Dat:=.lst [.int x]
theorem FD(ns:List Int)(k:Int)(h0:0<=k):∃x,um [.lst (ns.map Dat.int),.int k]=some (.val (.int x)):=by
 suffices h:Wr (um [.lst (ns.map Dat.int),.int k]) fun v=>∃x,v=.val (.int x) by obtain⟨v,h1,c,rfl⟩:=h;exact⟨c,h1⟩
 unfold um
 (refine Dm.SI ?_ rfl rfl;and_intros)
 repeat array_get_dec
 refine⟨fun h=>?_,fun h=>?_⟩
 ·have h:=of_decide_eq_true h
  repeat array_get_dec
  refine M8 h0 (by simpa using h) ?_ rfl rfl;exact⟨_,rfl⟩
 ·repeat array_get_dec
  exact⟨_,rfl⟩
theorem yz(ns:List Int)(k:Int)(h0:0<=k)(h1:k<1000):∃x,qx [.lst (ns.map Dat.int),.int k]=some (.new (bL x)):=by
 suffices h:Wr (qx [.lst (ns.map Dat.int),.int k]) fun v=>∃x,v=.new (bL x) by obtain⟨v,h1,c,rfl⟩:=h;exact⟨c,h1⟩
 obtain⟨c,ec⟩:=FD ns k h0;unfold qx
 (refine Dm.SI ?_ rfl rfl;and_intros)
 refine Ss (Sy (SE (m_ (P_ rfl (m_ (P_ rfl (Q_ (SO ec ?_ rfl rfl))))))) (by decide));refine SD ?_ (by trivial);refine Ss (SM (Sw (R_ (P_ rfl (R_ (Sq (Sq (Up (z:=1000000000000000000) ?_ rfl rfl (by decide) (by decide)))))))));refine Uo (Sv ?_) rfl rfl;refine⟨fun h=>?_,fun h=>?_⟩
 ·repeat array_get_dec
  exact⟨_,rfl⟩
 ·refine SK ?_;refine Ss (Sy (Sq (SD ?_ (by trivial))) (by decide));refine Ss (SR (To (Sq (bP.mk ⟨?_,by decide,by decide⟩))));refine SX (fun i:Nat=>Dat.int (0+(i:Nat))) _ _ (Pu 48) _ _ _ _ _ (fun p q ρ=>∃(x:Int) (c4 c5:Cell),ρ=[.sh (.lst (ns.map Dat.int)),.sh (.int k),.sh (.int c),.sh (.int x),c4,c5]) ⟨_,_,_,rfl⟩ ?_ ?_
  ·rintro p i q ρ e ⟨x,c4,c5,rfl⟩;have hi:i<48:=Qp.mp (by rw[e];simp);refine Dm.bK rfl (by trivial) ?_;unfold Cb;refine Tj (fun ρ=>∃y:Int,(0<=y/\y<2147483647)/\ρ=[.sh (.lst (ns.map Dat.int)),.sh (.int k),.sh (.int c),.sh (.int x),.sh (.int (0+(i:Nat))),.sh (.int y)]) ?_ ?_
   ·repeat array_get_dec
    ·exact⟨_,dD _ _ (by decide),rfl⟩
    all_goals unfold B64
    all_goals lia
   rintro ρ ⟨y,hy,rfl⟩;refine Tj (fun ρ=>∃y:Int,(0<=y/\y<2147483647)/\ρ=[.sh (.lst (ns.map Dat.int)),.sh (.int k),.sh (.int c),.sh (.int x),.sh (.int (0+(i:Nat))),.sh (.int y)]) ?_ ?_
   ·repeat array_get_dec
    ·exact⟨_,by have:=dD (y*y) 1000000007 (by decide);lia,rfl⟩
    ·exact .inl (by unfold B64;lia)
   rintro ρ ⟨z,hz,rfl⟩;refine Tj (fun ρ=>∃y:Int,(0<=y/\y<2147483647)/\ρ=[.sh (.lst (ns.map Dat.int)),.sh (.int k),.sh (.int c),.sh (.int x),.sh (.int (0+(i:Nat))),.sh (.int y)]) ?_ ?_
   ·repeat array_get_dec
    ·exact⟨_,by have:=dD ((z+7919*(0+((i:Nat):Int)))*69621) 2147483587 (by decide);lia,rfl⟩
   rintro ρ ⟨u,hu,rfl⟩
   repeat array_get_dec
   exact⟨_,_,_,rfl⟩
  ·rintro ρ ⟨x,c4,c5,rfl⟩
   repeat array_get_dec
   exact⟨_,rfl⟩
theorem FF(x m:Int)(h0:0<m)(h1:m<jJ):b7 [bL x,.int m]=some (.val (.int (x % m)),bL (x / m)):=by
 suffices h:WrM (b7 [bL x,.int m]) fun v d=>v=.val (.int (x % m))/\d=bL (x / m) by obtain⟨v,d,h1,rfl,rfl⟩:=h;exact h1
 unfold b7;refine Uh ?_ rfl rfl;and_intros;unfold bL
 repeat array_get_dec
 ·refine UZ ?_
  repeat array_get_dec
  ·refine⟨_,0,_,rfl,rfl,rfl,?_⟩
   repeat array_get_dec
   exact⟨_,rfl,rfl,rfl⟩
  ·exact⟨h0,h1⟩
 ·exact h0
def Wtk(j:Nat)(m:Int)(ρ1:Env)(Q:Val->Env->Prop):Prop:=∃x ρ3,Q (.val (.int (x % m))) ρ3/\ρ1[j]?=some (.ow (bL x))/\ρ1.set j (.ow (bL (x / m)))=ρ3/\0<m/\m<jJ
theorem mJ{x m:Int}{ρ1 ρ3:Env}(q:Q (.val (.int (x % m))) ρ3)(h2:ρ1[j]?=some (.ow (bL x)))(hn:ρ1.set j (.ow (bL (x / m)))=ρ3)(h0:0<m)(h1:m<jJ):Wtk j m ρ1 Q:=⟨_,_,q,h2,hn,h0,h1⟩
theorem TN{a:FE}{d0:Dat}(h:We a ρ fun v ρ1=>bP v fun m=>Wtk j m ρ1 Q)(h0:ρ[j]?=some (.ow d0)):We (eFm b7 j [a]) ρ Q:=by refine Ux (m_ ?_) h0;obtain⟨v,ρ1,e1,m,rfl,x,ρ3,q,e2,e3,m0,m1⟩:=h;exact⟨_,_,e1,Q_ (T8 (FF x m m0 m1) q e2 rfl e3)⟩
theorem Tc{a:FE}{x m:Int}(ha:a ρ=some (.val (.int m),ρ))(h0:0<m)(h1:m<jJ)(hj:ρ[j]?=some (.ow (bL x)))(k:∀t x':Int,0<=t->t<m->∀ρ3,ρ.set j (.ow (bL x'))=ρ3->Q (.val (.int t)) ρ3):We (eFm b7 j [a]) ρ Q:=
 TN ⟨_,_,ha,m,rfl,mJ (k _ _ (dD x m (by lia)).1 (dD x m (by lia)).2 _ rfl) hj rfl h0 h1⟩ hj
def Good(n:Int):Int->List Tie->Prop
 |_,[]=>True
 |lo,t::r=>lo<=t.m/\0<=t.a/\t.a<=t.b/\t.b<n/\Good n (t.m+1) r
theorem Good.pl:∀{r:List Tie} {lo:Int},Good n lo r->Pl n r
 |[],_,_,t,ht=>by cases ht
 |u::r,lo,h,t,ht=>by
  obtain⟨h1,h2,h3,h4,h5⟩:=h;rcases Pk.mp ht with rfl | ht
  ·lia
  ·exact Good.pl h5 t ht
theorem Good.lo{n:Int}:∀{r:List Tie} {lo:Int},Good n lo r->∀t∈r,lo<=t.m
 |[],_,_,t,ht=>by cases ht
 |u::r,lo,h,t,ht=>by
  obtain⟨h1,h2,h3,h4,h5⟩:=h;rcases Pk.mp ht with rfl | ht
  ·exact h1
  ·have:=Good.lo h5 t ht;lia
theorem Good.nd{n:Int}:∀{r:List Tie} {lo:Int},Good n lo r->(r.map (·.m)).Nodup
 |[],_,_=>by simp
 |u::r,lo,h=>by
  obtain⟨h1,h2,h3,h4,h5⟩:=h;rw[gc,Pn];refine⟨fun z=>?_,Good.nd h5⟩;obtain⟨t,ht,e⟩:=Pw.mp z;have:=Good.lo h5 t ht
  lia
theorem Good.weak{n:Int}:∀{r:List Tie} {lo lo':Int},lo'<=lo->Good n lo r->Good n lo' r
 |[],_,_,_,_=>trivial
 |_::_,_,_,h,k=>⟨by have:=k.1;lia,k.2⟩
theorem Good.filter{n:Int}(p:Tie->Bool):∀{r:List Tie} {lo:Int},Good n lo r->Good n lo (r.filter p)
 |[],_,_=>trivial
 |u::r,lo,h=>by
  obtain⟨h1,h2,h3,h4,h5⟩:=h;by_cases q:p u=true
  ·rw[Qx q];exact⟨h1,h2,h3,h4,Good.filter p h5⟩
  ·rw[Qw q];exact Good.weak (by lia) (Good.filter p h5)
theorem Good.snoc{n:Int}:∀{r:List Tie} {lo hi:Int} {t:Tie},Good n lo r->(∀u∈r,u.m<hi)->lo<=hi->hi=t.m->0<=t.a->t.a<=t.b->t.b<n->Good n lo (r++[t])
 |[],_,_,_,_,_,h,e,h1,h2,h3=>⟨by lia,h1,h2,h3,trivial⟩
 |u::r,lo,hi,t,h,hu,hl,e,h1,h2,h3=>by obtain⟨k1,k2,k3,k4,k5⟩:=h;exact⟨k1,k2,k3,k4,Good.snoc k5 (fun v hv=>hu v (Pa _ hv)) (by have:=hu u Ds;lia) e h1 h2 h3⟩
theorem Good.pl'{n:Int}:∀{r:List Tie} {lo:Int},Good n lo r->∀t∈r,0<=t.a/\t.a<n/\0<=t.b/\t.b<n
 |[],_,_,t,ht=>by cases ht
 |u::r,lo,h,t,ht=>by
  obtain⟨h1,h2,h3,h4,h5⟩:=h;rcases Pk.mp ht with rfl | ht
  ·lia
  ·exact Good.pl' h5 t ht
theorem ix3(a b c:Int)(x:Int)(h0:0<=x)(h:x<3):gIx (.lst [.int a,.int b,.int c]) (.int x)=some (.val (.int (if x=0 then a else if x=1 then b else c))):=by
 have:x=0\/x=1\/x=2:=by lia
 rcases this with rfl | rfl | rfl<;>rfl
theorem Cs(r:List Tie)(i:Int)(h0:0<=i)(h1:i<r.length):gIx (aq r) (.int i)=some (.val (aF (r[i.toNat]'(by omega)))):=by unfold aq gIx;dsimp only;rw[mF aF r i h0 h1];rfl
noncomputable abbrev Z28:Int:=10000000000000000000000000000
noncomputable abbrev Z30:Int:=1000000000000000000000000000000
noncomputable def RE(pool:Int)(n most many wide Kl:Int)(r:List Tie)(c7 c8 c9:Cell):Env:=
 [.ow (bL pool),.sh (.int n),.sh (.int most),.sh (.int many),.sh (.int wide),.sh (.int Kl),.ow (aq r),c7,c8,c9]
theorem FG(a b:Int):(if b<a then b else a)<=(if b>a then b else a):=by split<;>split<;>lia
theorem zY(x n most:Int)(n1:1<=n)(n10:n<=10)(m0:0<=most)(m60:most<=60) :
  ∃(r:List Tie) (x':Int),uo [bL x,.int n,.int most]=some (.new (aq r),bL x')/\Good n 0 r/\(r.length:Int)<=most/\∀t∈r,t.m<=Z30:=by
 suffices hh:WrM (uo [bL x,.int n,.int most]) fun v d=>∃(r:List Tie) (x':Int),v=.new (aq r)/\d=bL x'/\Good n 0 r/\(r.length:Int)<=most/\∀t∈r,t.m<=Z30 by obtain⟨v,d,h1,h,x',rfl,rfl,h2⟩:=hh;exact⟨h,x',h1,h2⟩
 unfold uo;refine Uh ?_ rfl rfl;and_intros;refine Ss (Sy ?_ (by decide));refine Tc (m:=most+1) rfl (by lia) (by unfold jJ;lia) rfl fun many x1 h1 h2 ρ3 e=>?_;subst e;refine SD ?_ (by trivial);refine Ss (Sy ?_ (by decide));refine Tc (m:=3) rfl (by decide) (by decide) rfl fun wide x2 k1 k2 ρ3 e=>?_;subst e;refine SD ?_ (by trivial);refine Ss (Sy ?_ (by decide));refine Tc (m:=4) rfl (by decide) (by decide) rfl fun mo x3 w1 w2 ρ3 e=>?_;subst e;refine SD ?_ (by trivial);refine Ss (Sy (S8 (Q_ (SV ?_ rfl rfl (by decide)))) (by decide));refine SA ?_ (by trivial);refine Ss (SR (To (P_ rfl (bP.mk ⟨?_,by unfold BIG;lia⟩))));refine SX (fun i:Nat=>Dat.int (0+(i:Nat))) _ _ (Pu many.toNat) _ _ _ _ _ (fun p q ρ=>∃(x mo:Int) (r:List Tie) (c7 c8 c9:Cell),ρ=RE x n most many wide mo r c7 c8 c9/\p=Pu p.length/\Good n 0 r/\r.length=p.length/\(∀u∈r,u.m<mo)/\0<=mo/\mo<=4+(p.length:Int)*Z28)
  ⟨_,_,[],_,_,_,rfl,rfl,trivial,rfl,(fun u hu=>by cases hu),w1,by show mo<=4+((0:Nat):Int)*Z28;lia⟩ ?_ ?_
 ·rintro p i q ρ e ⟨x,mo,r,c7,c8,c9,rfl,hpp,hg,hl,hu,hm,hb⟩;have lp:(Pu many.toNat).length=p.length+(q.length+1):=by rw[e];simp
  rw[P1]at lp;have hi:i=p.length:=by
   have h1:(Pu many.toNat)[p.length]?=some i:=by rw[e];simp
   rw[Q9 (by lia)]at h1;exact(Option.some.inj h1).symm
  unfold RE;refine Dm.bK rfl (by trivial) ?_;unfold Cc;refine Ss (Sy ?_ (by decide));refine Tc (m:=n) rfl (by lia) (by unfold jJ;lia) rfl fun one y1 o1 o2 ρ3 e1=>?_;subst e1;refine SD ?_ (by trivial);refine Ss (Sy ?_ (by decide));refine Tc (m:=n) rfl (by lia) (by unfold jJ;lia) rfl fun oth y2 u1 u2 ρ3 e1=>?_;subst e1;refine SD ?_ (by trivial);refine Tj (fun ρ=>∃o:Int,(0<=o/\o<n)/\ρ=RE y2 n most many wide mo r (.sh (.int (0+(i:Nat)))) (.sh (.int one)) (.sh (.int o))) ?_ ?_
  ·refine SM (TF (Sw (R_ (P_ rfl (Sq (TU (Sv ?_) rfl rfl))))));refine SW (fun _=>?_) fun _=>?_
   ·refine Sw (R_ (P_ rfl (P_ rfl (S1 (Sv ?_) rfl rfl))));refine SW (fun _=>?_) fun _=>?_
    ·refine Sy (R_ (R_ (P_ rfl (Sq (S_ (P_ rfl (T6 ?_ rfl rfl (by lia))) rfl rfl))))) (by decide);exact SD ⟨_,dD _ n n1,rfl⟩ (by trivial)
    ·exact SK ⟨oth,⟨u1,u2⟩,rfl⟩
   ·exact S5 rfl (SK ⟨oth,⟨u1,u2⟩,rfl⟩)
  rintro ρ ⟨o,⟨q1,q2⟩,rfl⟩;refine Tj (fun ρ=>∃y v o:Int,(0<=v/\v<n)/\(0<=o/\o<n)/\ρ=RE y n most many wide mo r (.sh (.int (0+(i:Nat)))) (.sh (.int v)) (.sh (.int o))) ?_ ?_
  ·unfold RE;refine SM (TF (Sw (R_ (P_ rfl (Sq (TU (Sv ?_) rfl rfl))))));refine SW (fun hk=>?_) fun _=>?_
   ·refine Sw (R_ ?_);refine Tc (m:=4) rfl (by decide) (by decide) rfl fun t y3 t1 t2 ρ3 e1=>?_;subst e1;refine Sq (S1 (Sv ?_) rfl rfl);refine SW (fun _=>?_) fun _=>?_
    ·have hj:(0:Int)<=0+((i:Nat):Int)-1:=by lia
     have hj2:0+((i:Nat):Int)-1<r.length:=by rw[hl];lia
     have pt:=hg.pl' (r[(0+((i:Nat):Int)-1).toNat]'(by lia)) (Rx _);refine Ss (Sy (R_ (R_ (Sz rfl (R_ (P_ rfl (Sq (Td ?_ rfl rfl))))))) (by decide));refine Su ?_ rfl rfl (Cs r _ hj hj2);refine Sq (Su ?_ rfl rfl rfl);refine SD ?_ (by trivial);refine Sy (R_ (R_ (Sz rfl (R_ (P_ rfl (Sq (Td ?_ rfl rfl))))))) (by decide);refine Su ?_ rfl rfl (Cs r _ hj hj2);refine Sq (Su ?_ rfl rfl rfl);exact SD ⟨_,_,_,⟨pt.1,pt.2.1⟩,⟨pt.2.2.1,pt.2.2.2⟩,rfl⟩ (by trivial)
    ·exact SK ⟨_,_,_,⟨o1,o2⟩,⟨q1,q2⟩,rfl⟩
   ·exact S5 rfl (SK ⟨_,_,_,⟨o1,o2⟩,⟨q1,q2⟩,rfl⟩)
  rintro ρ ⟨y4,v,o,⟨v1,v2⟩,⟨q1,q2⟩,rfl⟩;unfold RE;refine Ss (TH (UO (m_ (P_ rfl (m_ (SG (m_ (P_ rfl (m_ (P_ rfl (Q_ (T3 ?_ rfl))))))))))) rfl);refine m_ (SG (m_ (P_ rfl (m_ (P_ rfl (Q_ (T5 ?_ rfl)))))));refine Q_ (SV ?_ rfl rfl (by exact P8 rfl));refine Sx (nP ?_ rfl (by trivial) (by rw[Pg];unfold SZ;lia));refine Sy (R_ (R_ (P_ rfl (Sq (S_ ?_ rfl rfl))))) (by decide);have w1':(0:Int)<(if wide=0 then 1 else if wide=1 then 3 else 1000)/\(if wide=0 then 1 else if wide=1 then 3 else 1000:Int)<=1000:=by split;decide;split<;>decide
  refine R_ ?_;refine TN (R_ (S8 (m_ (Sq (m_ (Sq (m_ (Sq (Q_ (SV ?_ rfl rfl (by exact P8 rfl))))))))))) rfl;refine P_ rfl (Su ?_ rfl rfl (ix3 1 3 1000 wide k1 k2));refine bP.mk (mJ ?_ rfl rfl w1'.1 (by unfold jJ;lia));have hm0:=dD y4 (if wide=0 then 1 else if wide=1 then 3 else 1000) (by lia);refine R_ (S8 (m_ (Sq (m_ (Sq (m_ (R_ (Sq (Sq (Up (z:=10000000000000000000000000) ?_ rfl rfl (by decide) (by decide)))))))))));refine Q_ (SV ?_ rfl rfl (by exact P8 rfl));refine P_ rfl (Su ?_ rfl rfl (ix3 1 1 10000000000000000000000000 wide k1 k2));refine T9 ?_ rfl rfl (.inl (by unfold B64;lia));refine S_ ?_ rfl rfl;refine SD ?_ (by trivial)
  generalize hf:(if wide=0 then 1 else if wide=1 then 1 else 10000000000000000000000000:Int)=f
  have hf0:0<=f/\f<=10000000000000000000000000:=by rw[<- hf];split;decide;split<;>decide
  generalize (y4 % if wide=0 then 1 else if wide=1 then 3 else 1000:Int)=t at hm0 ⊢
  have tn:=Int.mul_nonneg hm0.1 hf0.1;have t9:t<=999:=by lia
  have tm:t*f<=999*10000000000000000000000000:=Int.mul_le_mul t9 hf0.2 hf0.1 (by decide);refine⟨y4 / (if wide=0 then 1 else if wide=1 then 3 else 1000),mo+1+t*f,r++[⟨mo,(if o<v then o else v),(if o>v then o else v)⟩],.sh (.int (0+(i:Nat))),.sh (.int v),.sh (.int o),?_,?_,?_,by simp[hl],?_,by lia,?_⟩
  ·unfold aq;rw[PF];rfl
  ·rw[Pr,QH,R8,<- hpp,hi]
  ·refine Good.snoc (hi:=mo) hg hu hm rfl ?_ (FG v o) ?_
   ·show 0<=(if o<v then o else v);split<;>lia
   ·show (if o>v then o else v)<n;split<;>lia
  ·intro u hu';rcases PV.mp hu' with h | h
   ·have:=hu u h;lia
   ·rw[PN.mp h];show mo<_;lia
  ·rw[Pr,QH];have:((p.length+1:Nat):Int)*Z28=(p.length:Int)*Z28+Z28:=by unfold Z28;lia
   rw[this];unfold Z28 at *
   lia
 ·rintro ρ ⟨x,mo,r,c7,c8,c9,rfl,hpp,hg,hl,hu,hm,hb⟩;unfold RE;refine SH (Sz rfl (S9 ?_ rfl));rw[P1]at hl hb;refine⟨_,rfl,r,x,rfl,rfl,hg,by lia,fun t ht=>?_⟩;have:=hu t ht;unfold Z28 at hb;unfold Z30
  lia
noncomputable def aQ(r:List Tie)(S:Int->Bool):Nat:=(r.filter (over S)).length
theorem yC(S:Int->Bool):∀{w:List Step} {x y:Int},Way (fZ r) x w y->S x=true->S y=false->∃s∈w,s.1∈(r.filter (over S)).map (·.m)
 |[],x,y,h,h1,h2=>by cases h;rw[h1]at h2;cases h2
 |s::w,x,y,h,h1,h2=>by
  cases hs:S s.2 with
  |true=>obtain⟨u,hu,k⟩:=yC S h.2 hs h2;exact⟨u,Pa _ hu,k⟩
  |false=>
   obtain⟨t,ht,hm,_,he⟩:=h.1;refine⟨s,Ds,Pw.mpr ⟨t,Qa.mpr ⟨ht,?_⟩,hm⟩⟩;unfold over;rcases he with⟨e1,e2⟩ | ⟨e1,e2⟩
   ·rw[e1,e2,h1,hs];rfl
   ·rw[e1,e2,h1,hs];rfl
theorem picks(S:Int->Bool)(ha:S a=true)(hb:S b=false):∀(ws:List (List Step)),(∀w∈ws,Way (fZ r) a w b)->(ws.map mso).flatten.Nodup ->
  ∃ps:List Int,ps.length=ws.length/\ps.Nodup/\∀m∈ps,m∈(ws.map mso).flatten/\m∈(r.filter (over S)).map (·.m)
 |[],_,_=>⟨[],rfl,by simp,by simp⟩
 |w::ws,h,nd=>by
  rw[gc,Ql]at nd;obtain⟨n1,n2,n3⟩:=P6.mp nd;obtain⟨ps,p1,p2,p3⟩:=picks S ha hb ws (fun v hv=>h v (Pa _ hv)) n2;obtain⟨s,hs,k⟩:=yC S (h w Ds) ha hb;have hsm:s.1∈mso w:=Pw.mpr ⟨s,hs,rfl⟩;refine⟨s.1::ps,by simp[p1],Pn.mpr ⟨fun z=>n3 _ hsm _ (p3 _ z).1 rfl,p2⟩,fun m hm=>?_⟩;rw[gc,Ql];rcases Pk.mp hm with rfl | hm
  ·exact⟨PK _ hsm,k⟩
  ·exact⟨PB _ (p3 m hm).1,(p3 m hm).2⟩
theorem M9(W:uz r a b ws)(ha:S a=true)(hb:S b=false):ws.length<=aQ r S:=by
 obtain⟨ps,p1,p2,p3⟩:=picks S ha hb ws (fun w hw=>(W.way w hw).way) W.nd;have:=e7 ps _ p2 fun m hm=>(p3 m hm).2;rw[Pg]at this;unfold aQ
 lia
theorem kZ(r:List Tie)(S:Int->Bool):aQ r (fun x=>!S x)=aQ r S:=by
 unfold aQ
 congr 1
 apply QS;intro t _;unfold over;dsimp only;cases S t.a<;>cases S t.b<;>rfl
theorem zZ(p:Tie->Bool)(S:Int->Bool):aQ (r.filter p) S<=aQ r S:=by
 unfold aQ;rw[Rf];have:(r.filter fun t=>over S t&&p t)=(r.filter (over S)).filter p:=by rw[Rf];apply QS;intro t _;cases over S t<;>cases p t<;>rfl
 rw[this];exact QI _ _
theorem yD{x y:Tie}(h:x.m=y.m/\x.a=y.a/\x.b=y.b):x=y:=by cases x;cases y;obtain⟨h1,h2,h3⟩:=h;dsimp only at h1 h2 h3;rw[h1,h2,h3]
instance O3:DecidableEq Tie:=fun x y=>decidable_of_iff (x.m=y.m/\x.a=y.a/\x.b=y.b) ⟨yD,fun h=>by rw[h];exact⟨rfl,rfl,rfl⟩⟩
noncomputable def outF(r:List Tie)(t:Tie):List Tie:=r.filter fun u=>decide (u≠t)
structure Kept(r:List Tie)(k:Nat)(p K:List Tie):Prop where
 sub:K.Sublist r
 low:∀S:Int->Bool,min k (aQ r S)<=aQ K S
 cut:∀t∈p,t∈K->∃S:Int->Bool,S t.a=true/\S t.b=false/\aQ (outF K t) S<k
theorem Kept.start(r:List Tie)(k:Nat):Kept r k [] r:=⟨Rr.refl _,fun S=>Nat.min_le_right _ _,fun t ht=>by cases ht⟩
theorem nU(h:over S t=false):aQ (outF K t) S=aQ K S:=by
 unfold aQ outF;rw[Rf]
 congr 1
 apply QS;intro u _;by_cases e:u=t
 ·subst e;simp[h]
 ·simp[e]
theorem pQ(nd:K.Nodup)(t:Tie)(S:Int->Bool):aQ K S<=aQ (outF K t) S+1:=by
 induction K with
 |nil=>simp[aQ]
 |cons u K ih=>
  obtain⟨n1,n2⟩:=Pn.mp nd;have ih:=ih n2;by_cases e:u=t
  ·subst e;have:outF (u::K) u=K:=by
    unfold outF;rw[Qw (by simp),Ra];intro v hv;simp;rintro rfl;exact n1 hv
   rw[this];unfold aQ;rw[QV];split<;>simp
  ·have:outF (u::K) t=u::outF K t:=by
    unfold outF;rw[Qx (by simp[e])]
   rw[this];unfold aQ at ih ⊢;rw[QV,QV];split<;>simp<;>lia
theorem Kept.drop{p K:List Tie}(h:Kept r k p K)(t:Tie)(hh:t.a=t.b\/∀S:Int->Bool,S t.a=true->S t.b=false->k<=aQ (outF K t) S):Kept r k (p++[t]) (outF K t):=by
 refine⟨Rr.trans Rl h.sub,fun S=>?_,fun u hu hK=>?_⟩
 ·cases ho:over S t with
  |false=>rw[nU ho];exact h.low S
  |true=>
   unfold over at ho;rcases hh with hh | hh
   ·rw[hh]at ho;simp at ho
   ·cases ha:S t.a with
    |true=>
     have hb:S t.b=false:=by rw[ha]at ho;cases hb:S t.b<;>simp_all
     have:=hh S ha hb;lia
    |false=>
     have hb:S t.b=true:=by rw[ha]at ho;cases hb:S t.b<;>simp_all
     have:=hh (fun x=>!S x) (by simp[ha]) (by simp[hb]);rw[kZ]at this
     lia
 ·obtain⟨k1,k2⟩:=Qa.mp hK;have k2:=of_decide_eq_true k2;rcases PV.mp hu with hu | hu
  ·obtain⟨S,s1,s2,s3⟩:=h.cut u hu k1;refine⟨S,s1,s2,RP ?_ s3⟩;have:outF (outF K t) u=(outF K u).filter fun x=>decide (x≠t):=by
    unfold outF;rw[Rf,Rf];apply QS;intro x _;rw[Bool.and_comm]
   rw[this];exact zZ _ S
  ·exact absurd (PN.mp hu) k2
theorem Kept.keep{p K:List Tie}(h:Kept r k p K)(t:Tie)(hh:∃S:Int->Bool,S t.a=true/\S t.b=false/\aQ (outF K t) S<k):Kept r k (p++[t]) K:=
 ⟨h.sub,h.low,fun u hu hK=>by
  rcases PV.mp hu with hu | hu
  ·exact h.cut u hu hK
  ·rw[PN.mp hu];exact hh⟩
theorem wQ(u t:Tie):eqD (aF u) (aF t)=decide (u=t):=by rw[Rc,decide_eq_true_iff];unfold aF;simp[eqD,cU];exact⟨yD,fun h=>by rw[h];exact⟨rfl,rfl,rfl⟩⟩
theorem Km(t:Tie)(K:List Tie):inD (aF t) (K.map aF)=decide (t∈K):=by
 induction K with
 |nil=>rfl
 |cons u K ih=>
  unfold inD at ih ⊢;rw[gc,QT,ih];by_cases h:t=u
  ·subst h;simp[wQ]
  ·have h':¬u=t:=fun z=>h z.symm;simp[wQ,h,h']
theorem FH(K:List Tie):(K.map aF).all (okD 7)=true:=by rw[Sk];exact PY.mpr fun t _=>rfl
theorem Ud{u t:Tie}{Q:RV->Prop}(k:Q (.val (.bl (decide (u≠t)))))(ho:o=some (aF u))(hp:p=some (aF t)):Wg2 gNe o p Q:=
 ⟨_,_,_,ho,hp,rfl,by rw[wQ,<- decide_not];exact k⟩
theorem UD{Q:RV->Prop}(k:Q (.val (.bl (!decide (t∈K)))))(ho:o=some (aF t))(hp:p=some (aq K)):Wg2 ck o p Q:=
 ⟨_,_,_,ho,hp,by unfold aq ck;dsimp only;rw[FH,Km];rfl,k⟩
theorem nV(r:List Tie)(hl:r.length<=1000)(t:Tie):qw [aq r,aF t]=some (.new (aq (outF r t))):=by
 apply SQ;unfold qw
 (refine Dm.SI ?_ rfl rfl;and_intros)
 refine SH ?_;refine TQ aF r (fun u=>decide (u≠t)) id aF (d:=aq r) ?_ rfl rfl rfl (by decide) (by unfold SZ;lia) (fun u _=>?_) fun u _ _=>?_
 ·rw[QE];rfl
 ·exact Sw (R_ (P_ rfl (P_ rfl (Ud (Sv ⟨rfl,rfl⟩) rfl rfl))))
 ·exact P_ rfl (Sx ⟨rfl,rfl⟩)
structure Fit(n:Nat)(r:List Tie):Prop where
 n40:n<=40
 pl:Pl n r
 nd:(r.map (·.m)).Nodup
 len:r.length<=1000
theorem Fit.sub{r K:List Tie}(h:Fit n r)(s:K.Sublist r):Fit n K:=⟨h.n40,fun t ht=>h.pl t (s.subset ht),h.nd.sublist (s.map _),PL s.length_le h.len⟩
theorem Fit.out(h:Fit n r)(t:Tie):Fit n (outF r t):=h.sub Rl
theorem Fit.nodup(h:Fit n r):r.Nodup:=by have:=h.nd;unfold List.Nodup at this ⊢;rw[List.pairwise_map]at this;exact this.imp fun h e=>h (by rw[e])
theorem pR(h:Fit n r)(a0:0<=a)(a1:a<n)(b0:0<=b)(b1:b<n)(k6:k<=6) :
  ∃c:Bool,Fo [.int n,aq r,.int a,.int b,.int k]=some (.val (.bl c))/\(c=true->∀S:Int->Bool,S a=true->S b=false->k<=aQ r S)/\(c=false->∃S:Int->Bool,S a=true/\S b=false/\aQ r S<k):=by
 obtain⟨ws,o,e,A⟩:=iC n h.n40 r h.pl h.nd h.len a b a0 a1 b0 b1 k (by lia) (by lia);refine⟨isN (f7 o),?_,fun z S s1 s2=>?_,fun z=>?_⟩
 ·apply SQ;unfold Fo
  (refine Dm.SI ?_ rfl rfl;and_intros)
  refine SH (R_ (R_ (SE (m_ (P_ rfl (m_ (P_ rfl (m_ (P_ rfl (m_ (P_ rfl (m_ (P_ rfl (Q_ (SN e ?_ rfl rfl rfl rfl)))))))))))))));refine Sq (Su ?_ rfl rfl rfl);exact Sq (Ut rfl rfl rfl)
 ·cases o with
  |none=>
   have:=A.all rfl;have:=M9 A.ways s1 s2
   lia
  |some S=>cases z
 ·cases o with
  |none=>cases z
  |some S=>
   obtain⟨⟨_,_,h1,h2⟩,h3,h4⟩:=A.side S rfl;refine⟨fun x=>decide (x∈S),decide_eq_true h1,decide_eq_false h2,?_⟩;have:aQ r (fun x=>decide (x∈S))=(e8 r S).length:=by unfold e8;rw[Pg];rfl
   lia
noncomputable def qE(r K:List Tie):RV:=if r=[] then .new (aq K) else .val (aq K)
inductive KR(r:List Tie)(k:Nat):List Tie->List Tie->Prop
 |start:KR r k [] r
 |drop {p K:List Tie} {t:Tie}:KR r k p K->(t.a=t.b\/∀S:Int->Bool,S t.a=true->S t.b=false->k<=aQ (outF K t) S)->KR r k (p++[t]) (outF K t)
 |keep {p K:List Tie} {t:Tie}:KR r k p K->t.a≠t.b->(∃S:Int->Bool,S t.a=true/\S t.b=false/\aQ (outF K t) S<k)->KR r k (p++[t]) K
theorem KR.kept{p K:List Tie}(h:KR r k p K):Kept r k p K:=by
 induction h with
 |start=>exact Kept.start r k
 |drop _ hh ih=>exact ih.drop _ hh
 |keep _ _ hh ih=>exact ih.keep _ hh
theorem KR.inv{q K:List Tie}(h:KR r k q K):(q=[]/\K=r)\/∃p t K0,q=p++[t]/\KR r k p K0/\((K=outF K0 t/\(t.a=t.b\/∀S:Int->Bool,S t.a=true->S t.b=false->k<=aQ (outF K0 t) S))\/(K=K0/\t.a≠t.b/\∃S:Int->Bool,S t.a=true/\S t.b=false/\aQ (outF K0 t) S<k)):=by
 cases h with
 |start=>exact .inl ⟨rfl,rfl⟩
 |drop h hh=>exact .inr ⟨_,_,_,rfl,h,.inl ⟨rfl,hh⟩⟩
 |keep h hn hh=>exact .inr ⟨_,_,_,rfl,h,.inr ⟨rfl,hn,hh⟩⟩
theorem KR.det{p K:List Tie}(h:KR r k p K):∀{K':List Tie},KR r k p K'->K=K':=by
 induction h with
 |start=>
  intro K' h';rcases h'.inv with⟨_,e⟩ | ⟨p,t,K0,e,_⟩
  ·exact e.symm
  ·simp at e
 |drop h hh ih=>
  intro K' h';rcases h'.inv with⟨e,_⟩ | ⟨p,t,K0,e,h2,h3⟩
  ·simp at e
  ·have e':=List.append_inj' e rfl;obtain⟨rfl,e2⟩:=e';injection e2 with e2 _
   subst e2;have:=ih h2;subst this;rcases h3 with⟨rfl,_⟩ | ⟨_,hn,S,s1,s2,s3⟩
   ·rfl
   ·rcases hh with hh | hh
    ·exact absurd hh hn
    ·have:=hh S s1 s2;lia
 |keep h hn hh ih=>
  intro K' h';rcases h'.inv with⟨e,_⟩ | ⟨p,t,K0,e,h2,h3⟩
  ·simp at e
  ·have e':=List.append_inj' e rfl;obtain⟨rfl,e2⟩:=e';injection e2 with e2 _
   subst e2;have:=ih h2;subst this;rcases h3 with⟨rfl,h4⟩ | ⟨rfl,_⟩
   ·obtain⟨S,s1,s2,s3⟩:=hh;rcases h4 with h4 | h4
    ·exact absurd h4 hn
    ·have:=h4 S s1 s2;lia
   ·rfl
theorem sr(aH aW:Nat)(h:Fit n r)(k6:k<=6) :
  ∃K,uh aH aW [.int n,aq r,.int k,.fn aH]=some (qE r K)/\KR r k r K:=by
 suffices q:Wr (uh aH aW [.int n,aq r,.int k,.fn aH]) fun v=>∃K,v=qE r K/\KR r k r K by obtain⟨v,h1,K,rfl,h2⟩:=q;exact⟨K,h1,h2⟩
 unfold uh
 (refine Dm.SI ?_ rfl rfl;and_intros)
 refine Ss (Sy (SG (m_ (P_ rfl (Q_ (Te (xs:=r.map aF) ?_ rfl))))) (by decide));refine SA ?_ (by trivial);refine Ss (SR (Tf (P_ rfl (Sx ⟨r.map aF,rfl,?_⟩))));refine SX aF _ _ r _ _ _ _ _ (fun p q ρ=>∃(K:List Tie) (c4 c5 c6:Cell),ρ=[.sh (.int n),.sh (aq r),.sh (.int k),.sh (.fn aH),c4,c5,c6]/\KR r k p K/\((p=[]/\c4=.ow (aq K))\/(p≠[]/\c4=.sh (aq K))))
  ⟨r,_,_,_,rfl,.start,.inl ⟨rfl,rfl⟩⟩ ?_ ?_
 ·rintro p t q ρ e ⟨K,c4,c5,c6,rfl,hK,hc⟩;have ht:t∈r:=by rw[e];simp
  have hp:=h.pl t ht;have fK:=h.sub hK.kept.sub;refine Dm.bK rfl (by trivial) ?_;unfold Ca;have ew:=nV K fK.len t;have first:∀{N:Env->Prop} {R:RV->Env->Prop} {B C:Env->Prop},N [.sh (.int n),.sh (aq r),.sh (.int k),.sh (.fn aH),.sh (aq K),.sh (aF t),.ow (aq (outF K t))] ->
    Ws (sA 6 (eF qw [(eV 4),(eV 5)])) [.sh (.int n),.sh (aq r),.sh (.int k),.sh (.fn aH),c4,.sh (aF t),c6] N R B C:=fun kN=>by
   rcases hc with⟨_,rfl⟩ | ⟨_,rfl⟩
   ·refine Sy (SE (m_ (Sz rfl (m_ (P_ rfl (Q_ (SN ew ?_ rfl rfl rfl rfl))))))) (by decide);exact SA kN (by trivial)
   ·refine Sy (SE (m_ (P_ rfl (m_ (P_ rfl (Q_ (SN ew ?_ rfl rfl rfl rfl))))))) (by decide);exact SA kN (by trivial)
  refine Ss (first ?_);have gone:(t.a=t.b\/∀S:Int->Bool,S t.a=true->S t.b=false->k<=aQ (outF K t) S)->∀{R:RV->Env->Prop} {B C:Env->Prop},
    Ws (sA 4 (eV 6)) [.sh (.int n),.sh (aq r),.sh (.int k),.sh (.fn aH),.sh (aq K),.sh (aF t),.ow (aq (outF K t))]
     (fun ρ=>∃(K:List Tie) (c4 c5 c6:Cell),ρ=[.sh (.int n),.sh (aq r),.sh (.int k),.sh (.fn aH),c4,c5,c6]/\KR r k (p++[t]) K/\((p++[t]=[]/\c4=.ow (aq K))\/(p++[t]≠[]/\c4=.sh (aq K)))) R B C:=fun hh=>by
   refine Sy (Sz rfl (TX ?_ rfl (by trivial))) (by decide);exact⟨outF K t,_,_,_,rfl,.drop hK hh,.inr ⟨by simp,rfl⟩⟩
  refine SM (SY (Sw (R_ (R_ (P_ rfl (Sq (Su ?_ rfl rfl rfl)))))));refine R_ (P_ rfl (Sq (Su ?_ rfl rfl rfl)));refine S1 (Sv ?_) rfl rfl;refine SW (fun Ko=>?_) fun Ko=>?_
  ·refine Tg rfl ?_;exact gone (.inl Ko)
  ·obtain⟨c,eh,h1,h2⟩:=pR (h.sub (Rr.trans (Rl (p:=fun u=>decide (u≠t))) hK.kept.sub)) hp.1 hp.2.1 hp.2.2.1 hp.2.2.2 k6;refine Sw (Vr rfl (SE (m_ (P_ rfl (m_ (Sz rfl (m_ (R_ (P_ rfl (Sq (Su ?_ rfl rfl rfl)))))))))));refine m_ (R_ (P_ rfl (Sq (Su ?_ rfl rfl rfl))));refine m_ (P_ rfl (Q_ (SO eh ?_ rfl rfl)));refine Sv ?_;cases c with
   |true=>exact Tg rfl (gone (.inr (h1 rfl)))
   |false=>exact S5 rfl (SK ⟨K,_,_,_,rfl,.keep hK Ko (h2 rfl),.inr ⟨by simp,rfl⟩⟩)
 ·rintro ρ ⟨K,c4,c5,c6,rfl,hK,hc⟩;rcases hc with⟨z,rfl⟩ | ⟨z,rfl⟩
  ·refine SH (Sz rfl (S9 ⟨K,?_,hK⟩ rfl));unfold qE;rw[if_pos z]
  ·refine SH (P_ rfl ⟨K,?_,hK⟩);unfold qE;rw[if_neg z]
noncomputable def su(t:Tie):Bool:=!decide (t.a=t.b)
noncomputable def look(r:List Tie)(m:Int):Option Tie:=r.find? fun t=>decide (t.m=m)&&su t
noncomputable def walk(r:List Tie):List Int->Int->List Int->Option Int
 |_,x,[]=>some x
 |used,x,m::w=>if m∈used then none else match look r m with
  |none=>none
  |some t=>if x=t.a\/x=t.b then walk r (used++[m]) (t.a+t.b-x) w else none
theorem uB(h:look r m=some t):t∈r/\t.m=m/\t.a≠t.b:=by have h1:=List.mem_of_find?_eq_some h;have h2:=List.find?_some h;simp[su]at h2;exact⟨h1,h2.1,h2.2⟩
noncomputable def dd(zL:List Int)(x:Int):List Int:=if zL.any (· == x) then zL else zL++[x]
theorem FJ(zL:List Int)(x:Int):zL.any (· == x)=decide (x∈zL):=by rw[Rc];simp
theorem k_:∀(ns zL:List Int),(ns.foldl dd zL).length<=zL.length+ns.length/\((ns.foldl dd zL).length=zL.length+ns.length↔(ns.Nodup/\∀x∈ns,x∉zL))
 |[],zL=>by simp
 |x::ns,zL=>by
  rw[List.foldl_cons];unfold dd;rw[FJ];by_cases h:x∈zL
  ·rw[decide_eq_true h,if_pos rfl];obtain⟨h1,h2⟩:=k_ ns zL;unfold dd at h1 h2;rw[PR];refine⟨by lia,⟨fun e=>by lia,fun⟨_,e⟩=>absurd h (e x Ds)⟩⟩
  ·rw[decide_eq_false h,if_neg (by decide)];obtain⟨h1,h2⟩:=k_ ns (zL++[x]);unfold dd at h1 h2;rw[Pr,QH]at h1 h2;rw[PR];refine⟨by lia,?_⟩;rw[show zL.length+(ns.length+1)=zL.length+1+ns.length by lia,h2,Pn];constructor
   ·rintro⟨h3,h4⟩;refine⟨⟨fun hx=>h4 x hx (by simp),h3⟩,fun y hy=>?_⟩;rcases Pk.mp hy with rfl | hy
    ·exact h
    ·exact fun z=>h4 y hy (by simp[z])
   ·rintro⟨⟨h3,h4⟩,h5⟩;refine⟨h4,fun y hy z=>?_⟩;rcases PV.mp z with z | z
    ·exact h5 y (Pa _ hy) z
    ·rw[PN]at z;subst z;exact h3 hy
theorem z5(ms:List Int):eY (ms.map Dat.int)=some ms:=by
 induction ms with
 |nil=>rfl
 |cons m ms ih=>rw[gc,eY,ih];rfl
theorem qF(ms:List Int)(h:ms.length<=4000):∃k:Nat,fG (.lst (ms.map Dat.int))=some (.val (.int (k:Nat)))/\(k=ms.length↔ms.Nodup):=by
 refine⟨(dedup ms).length,?_,?_⟩
 ·unfold fG;dsimp only;rw[z5];dsimp only;rw[if_pos h]
 ·have:=(k_ ms []).2;simp at this;exact this
theorem Good.uniq{n:Int}:∀{r:List Tie} {lo:Int},Good n lo r->∀t∈r,∀u∈r,t.m=u.m->t=u
 |[],_,_,t,h,_,_,_=>by cases h
 |x::r,lo,g,t,ht,u,hu,e=>by
  rcases Pk.mp ht with rfl | _
  ·rcases Pk.mp hu with rfl | hu
   ·rfl
   ·have:=Good.lo g.2.2.2.2 u hu;lia
  ·rename_i ht';rcases Pk.mp hu with rfl | hu
   ·have:=Good.lo g.2.2.2.2 t ht';lia
   ·exact Good.uniq g.2.2.2.2 t ht' u hu e
theorem Cv{n:Int}(hr:Good n 0 r)(m:Int)(t:Tie):look r m=some t↔t∈r/\t.m=m/\t.a≠t.b:=by
 constructor
 ·exact uB
 ·rintro⟨h1,h2,h3⟩;cases hk:look r m with
  |none=>have:=Rt.mp hk t h1;simp[su,h2,h3]at this
  |some u=>obtain⟨u1,u2,u3⟩:=uB hk;rw[Good.uniq hr u u1 t h1 (by lia)]
theorem Cw(i:Int):Ka [.int i]=some (.val (.bl true)):=rfl
theorem Cy(i lo hi:Int):Fq [.int i,.int lo,.int hi]=some (.val (.bl (decide (lo<=i/\i<=hi)))):=by
 apply SQ;unfold Fq
 (refine Dm.SI ?_ rfl rfl;and_intros)
 refine SH (TJ (SE (m_ (P_ rfl (Q_ (SO (Cw i) (Sv (S2 ?_)) rfl rfl))))));have e1:gLe (.int lo) (.int i)=some (.val (.bl (decide (lo<=i)))):=rfl;have e2:gLe (.int i) (.int hi)=some (.val (.bl (decide (i<=hi)))):=rfl;have e:fD gLe gLe (eV 1) (eV 0) (eV 2) [.sh (.int i),.sh (.int lo),.sh (.int hi)]=some (.val (.bl (decide (lo<=i/\i<=hi))),[.sh (.int i),.sh (.int lo),.sh (.int hi)]):=by
  unfold fD;simp only[eV,List.getElem?_cons_zero,QU,pk,e1,e2,RV.bG];by_cases q:lo<=i
  ·rw[decide_eq_true q];have:decide (lo<=i/\i<=hi)=decide (i<=hi):=by simp[q]
   rw[this]
  ·rw[decide_eq_false q,decide_eq_false (p:=lo<=i/\i<=hi) fun z=>q z.1]
 exact⟨_,_,e,rfl⟩
noncomputable def aR(ws:List (List Int)):Dat:=.lst (ws.map fun w=>.lst (w.map Dat.int))
theorem z6(p:List (List Int))(x:List Int):(p++[x]).flatten=p.flatten++x:=by simp
noncomputable def fS(r:List Tie)(a b:Int)(ws:List (List Int)):Bool:=decide ws.flatten.Nodup&&ws.all fun w=>decide (walk r [] a w=some b)
def Few(ws:List (List Int)):Prop:=ws.length<=1000/\(∀w∈ws,w.length<=1000)/\ws.flatten.length<=4000
noncomputable def steps(S:List Int):Bool:=(Pu (S.length-1)).all fun i=>decide (S.getD i 0<S.getD (i+1) 0)
theorem qG:∀S:List Int,steps S=true↔S.Pairwise (· < ·)
 |[]=>by simp[steps]
 |[x]=>by simp[steps]
 |x::y::S=>by
  have ih:=qG (y::S);have e:steps (x::y::S)=(decide (x<y)&&steps (y::S)):=by unfold steps;simp only[PR,Nat.add_sub_cancel];rw[List.range_succ_eq_map,Rb,Sk];rfl
  rw[e,Pz,ih,QJ (a:=x)];constructor
  ·rintro⟨h1,h2⟩;have h1:=of_decide_eq_true h1;refine⟨fun z hz=>?_,h2⟩;rcases Pk.mp hz with rfl | hz
   ·exact h1
   ·exact Int.lt_trans h1 ((QJ.mp h2).1 z hz)
  ·rintro⟨h1,h2⟩;exact⟨decide_eq_true (h1 y Ds),h2⟩
noncomputable def lZ(n:Int)(S:List Int):Bool:=(S.all fun x=>decide (0<=x/\x<n))&&steps S
theorem Kn{rX:α->Dat}{xs:List α}{K:RV->Prop}(h0:0<=i)(h1:i<xs.length)(k:K (.val (rX (xs[i.toNat]'(by omega)))))(ho:o=some (.tup (xs.map rX)))(hp:p=some (.int i)):Wg2 gIx o p K:=
 ⟨_,_,_,ho,hp,by unfold gIx;dsimp only;rw[mF rX xs i h0 h1];rfl,k⟩
theorem nW(k:Int)(h0:1<=k)(h1:k<=6):yi [.int k]=some (.val .non):=by
 have e:yh [.int k]=some (.val (.bl true)):=by
  apply SQ;unfold yh
  (refine Dm.SI ?_ rfl rfl;and_intros)
  refine SH (SE (m_ (P_ rfl (m_ (Sq (m_ (Sq (Q_ (SO (Cy k 1 6) ?_ rfl rfl)))))))));rw[decide_eq_true ⟨h0,h1⟩];rfl
 apply SQ;unfold yi
 (refine Dm.SI ?_ rfl rfl;and_intros)
 refine SM (SS (Sw (SE (m_ (P_ rfl (Q_ (SO e ?_ rfl rfl)))))));exact Sv (SJ (SK rfl))
theorem e_:∀N M:List Int,cU (N.map Dat.int) (M.map Dat.int)=decide (N=M)
 |[],[]=>rfl
 |[],_::_=>rfl
 |_::_,[]=>rfl
 |x::N,y::M=>by rw[gc,gc,cU,e_ N M,eqD];by_cases h:x=y<;>by_cases h2:N=M<;>simp[h,h2]
theorem lg:∀N M:List (List Int),cU (N.map fun w=>.lst (w.map Dat.int)) (M.map fun w=>.lst (w.map Dat.int))=decide (N=M)
 |[],[]=>rfl
 |[],_::_=>rfl
 |_::_,[]=>rfl
 |x::N,y::M=>by rw[gc,gc,cU,lg N M,eqD,e_];by_cases h:x=y<;>by_cases h2:N=M<;>simp[h,h2]
theorem sy(k:Nat)(w:List Int):okD (k+1) (.lst (w.map Dat.int))=true:=by unfold okD;rw[PY];intro d hd;obtain⟨x,_,rfl⟩:=Pw.mp hd;unfold okD;rfl
theorem sC(k:Nat)(ws:List (List Int)):okD (k+2) (aR ws)=true:=by unfold aR okD;rw[PY];intro d hd;obtain⟨x,_,rfl⟩:=Pw.mp hd;exact sy k x
theorem U0{N M:List (List Int)}{K:RV->Prop}(k:K (.val (.bl (!decide (N=M)))))(ho:o=some (aR N))(hp:p=some (aR M)):Wg2 gNe o p K:=
 ⟨_,_,_,ho,hp,by unfold gNe;rw[sC 6,sC 6];unfold aR;rw[eqD,lg];rfl,k⟩
noncomputable def d9(k:Nat):List (List Int):=gV k []
theorem Cz(k:Nat):(Pu k).map (fun _=>Dat.lst [])=(d9 k).map fun w=>Dat.lst (w.map Dat.int):=by unfold d9;rw[List.map_replicate,List.map_const',P1];rfl
noncomputable def wR(K:List Tie)(k:Nat)(t:Tie)(ws:List (List Int)):Bool:=if t.a=t.b then decide (ws=d9 k) else decide (ws.length=k)&&fS K t.a t.b ws
noncomputable def qH(n:Int)(K:List Tie)(k:Nat)(t:Tie)(S:List Int):Bool:=lZ n S&&(decide (t.m∈e8 K S)&&decide ((e8 K S).length<=k))
noncomputable def dh(M:List Int)(W:List (List (List Int)))(S:List (List Int)):Dat:=.tup [.lst (M.map Dat.int),.lst (W.map aR),.lst (S.map tupI)]
theorem uC:∀(ws:List (List Int)) (k:Nat),(∀w∈ws,w.length<=k)->ws.flatten.length<=ws.length*k
 |[],k,_=>by simp
 |w::ws,k,h=>by
  have:=uC ws k fun x hx=>h x (Pa _ hx);have:=h w Ds;rw[Ql,Pr,PR,Nat.succ_mul]
  lia
theorem nX{α β:Type}(f:α->Dat)(g:β->Dat):∀(xs:List α) (ys:List β),nj (xs.map f) (ys.map g)=(xs.zip ys).map fun p=>.tup [f p.1,g p.2]
 |[],ys=>by cases ys<;>rfl
 |x::xs,[]=>rfl
 |x::xs,y::ys=>by rw[gc,gc,QK,gc,<- nX f g xs ys];rfl
theorem M_{L:List Int}(h:L.Pairwise (· < ·)):L.Nodup:=h.imp fun z=>Int.ne_of_lt z
theorem jZ(a b:Nat):decide ((a:Int)=(b:Int))=decide (a=b):=by
 by_cases h:a=b
 ·rw[decide_eq_true h,decide_eq_true (by rw[h])]
 ·rw[decide_eq_false h,decide_eq_false (by lia)]
theorem j0(i:Int):yj [.int i]=some (.val (.bl true)):=rfl
theorem FL(xs:List α):xs.all (fun _=>true)=true:=by induction xs<;>simp
theorem iD(ms:List Int)(h:ms.length<=1000):qy [.lst (ms.map Dat.int)]=some (.val (.bl true)):=by
 apply SQ;unfold qy
 (refine Dm.SI ?_ rfl rfl;and_intros)
 refine SH (TJ (Th (P_ rfl (S7 (v:=.val (.bl true)) (Sv (S2 ?_)) rfl rfl))));refine SG (m_ (Tn Dat.int ms (fun _=>true) Dat.bl (d:=.lst (ms.map Dat.int)) ?_ rfl rfl rfl (by decide) (by unfold SZ;lia) fun x hx=>?_))
 ·refine Q_ (Tz (fun _=>true) ?_ (by rw[P7];rfl));rw[FL];rfl
 ·exact SE (m_ (P_ rfl (Q_ (SO (j0 x) (Sx ⟨rfl,rfl⟩) rfl rfl))))
noncomputable def d_(r:List Tie):Int->List Int->Option Int
 |x,[]=>some x
 |x,m::w=>match r.filter (fun t=>decide (t.m=m)) with
  |[]=>none
  |t::_=>if t.a=t.b\/¬(x=t.a\/x=t.b) then none else d_ r (t.a+t.b-x) w
theorem fT{n:Int}(hr:Good n 0 r)(b:Int):∀(w used:List Int) (x:Int),walk r used x w=some b↔((w.Nodup/\∀m∈w,m∉used)/\d_ r x w=some b)
 |[],used,x=>by simp[walk,d_]
 |m::w,used,x=>by
  unfold walk d_;have key:(∀t,look r m=some t↔t∈r/\t.m=m/\t.a≠t.b):=fun t=>Cv hr m t;by_cases hu:m∈used
  ·rw[if_pos hu];constructor
   ·intro h;cases h
   ·rintro⟨⟨_,h⟩,_⟩;exact absurd hu (h m Ds)
  rw[if_neg hu];cases hf:r.filter (fun t=>decide (t.m=m)) with
  |nil=>
   have:look r m=none:=by
    cases hl:look r m with
    |none=>rfl
    |some t=>obtain⟨h1,h2,_⟩:=(key t).mp hl;have:t∈r.filter (fun t=>decide (t.m=m)):=Qa.mpr ⟨h1,decide_eq_true h2⟩;rw[hf]at this;cases this
   rw[this];simp
  |cons t l=>
   have ht:t∈r.filter (fun t=>decide (t.m=m)):=by rw[hf];exact Ds
   obtain⟨t1,t2⟩:=Qa.mp ht;have t2:t.m=m:=of_decide_eq_true t2;by_cases Ko:t.a=t.b
   ·have:look r m=none:=by
     cases hl:look r m with
     |none=>rfl
     |some u=>obtain⟨h1,h2,h3⟩:=(key u).mp hl;have:=Good.uniq hr t t1 u h1 (by rw[t2,h2]);subst this;exact absurd Ko h3
    rw[this];dsimp only;rw[if_pos (.inl Ko)];simp
   ·rw[(key t).mpr ⟨t1,t2,Ko⟩];dsimp only;by_cases hx:x=t.a\/x=t.b
    ·rw[if_pos hx,if_neg (by rintro(z | z);exact Ko z;exact z hx),fT hr b w (used++[m]) (t.a+t.b-x)];constructor
     ·rintro⟨⟨h1,h2⟩,h3⟩;refine⟨⟨Pn.mpr ⟨fun z=>h2 m z (by simp),h1⟩,fun y hy=>?_⟩,h3⟩;rcases Pk.mp hy with rfl | hy
      ·exact hu
      ·exact fun z=>h2 y hy (by simp[z])
     ·rintro⟨⟨h1,h2⟩,h3⟩;obtain⟨n1,n2⟩:=Pn.mp h1;refine⟨⟨n2,fun y hy z=>?_⟩,h3⟩;rcases PV.mp z with z | z
      ·exact h2 y (Pa _ hy) z
      ·rw[PN]at z;exact n1 (z▸hy)
    ·rw[if_neg hx,if_pos (.inr hx)];simp
theorem FO(t:Tie):cut [.int t.m,.int t.a,.int t.b] (some 1) none=[.int t.a,.int t.b]:=rfl
theorem FQ{n:Int}(hr:Good n 0 r)(hl:r.length<=60)(a b:Int)(w:List Int)(hw:w.length<=1000) :
  yk [aq r,.int a,.int b,.lst (w.map Dat.int)]=some (.val (.bl (decide (walk r [] a w=some b)))):=by
 have e0:decide (walk r [] a w=some b)=(decide w.Nodup&&decide (d_ r a w=some b)):=by
  by_cases h:walk r [] a w=some b
  ·obtain⟨⟨h1,_⟩,h2⟩:=(fT hr b w [] a).mp h;rw[decide_eq_true h,decide_eq_true h1,decide_eq_true h2];rfl
  ·rw[decide_eq_false h];by_cases h1:w.Nodup
   ·rw[decide_eq_true h1,decide_eq_false fun h2=>h ((fT hr b w [] a).mpr ⟨⟨h1,by simp⟩,h2⟩)];rfl
   ·rw[decide_eq_false h1];rfl
 rw[e0];apply SQ;unfold yk
 (refine Dm.SI ?_ rfl rfl;and_intros)
 obtain⟨c,hc,hc2⟩:=qF w (by lia);refine Ss (SM (SY (SS (Sw (SE (m_ (P_ rfl (Q_ (SO (iD w hw) (Sv (SJ ?_)) rfl rfl)))))))));refine Sw (R_ (Th (P_ rfl (S7 (v:=.val (.int (c:Nat))) ?_ rfl hc))));refine SG (m_ (P_ rfl (Q_ (S3 (rX:=Dat.int) (xs:=w) ?_ rfl))));refine Tt (Sv ?_) rfl rfl;rw[jZ];by_cases hnd:w.Nodup
 ·rw[decide_eq_true (hc2.mpr hnd),decide_eq_true hnd,Sg];refine SJ (SK ?_);refine Ss (Sy (P_ rfl (SD ?_ (by trivial))) (by decide));refine Ss (SR (Tf (P_ rfl (Sx ⟨w.map Dat.int,rfl,?_⟩))));refine SX Dat.int _ _ w _ _ _ _ _ (fun p q ρ=>∃(x:Int) (c5 c6:Cell),ρ=[.sh (aq r),.sh (.int a),.sh (.int b),.sh (.lst (w.map Dat.int)),.sh (.int x),c5,c6]/\d_ r a w=d_ r x q) ⟨a,_,_,rfl,rfl⟩ ?_ ?_
  ·rintro p m q ρ e ⟨x,c5,c6,rfl,hx⟩;refine Dm.bK rfl (by trivial) ?_;unfold Cd;refine Ss (Sy (TQ aF r (fun t=>decide (t.m=m)) id aF (d:=aq r) ?_ rfl rfl rfl (by decide) (by unfold SZ;lia) (fun u _=>?_) fun u _ _=>P_ rfl (Sx ⟨rfl,rfl⟩)) (by decide))
   rotate_left
   ·refine Sw (R_ (R_ (P_ rfl (Sq (Su (v:=.int u.m) ?_ rfl rfl rfl)))));exact P_ rfl (S1 (Sv ⟨rfl,rfl⟩) rfl rfl)
   refine SA ?_ (by trivial);rw[QE];have hq:d_ r x (m::q)=(match r.filter (fun t=>decide (t.m=m)) with
     |[]=>none
     |t::_=>if t.a=t.b\/¬(x=t.a\/x=t.b) then none else d_ r (t.a+t.b-x) q):=by rw[d_]
   rw[hq]at hx;cases hf:r.filter (fun t=>decide (t.m=m)) with
   |nil=>rw[hf]at hx;refine Ss (SM (SY (Sw (R_ (Sz rfl (S8 (Q_ (SV (Uk (xs:=[]) (Sv (S2 (S2 (SH (Sq ?_))))) rfl rfl rfl) rfl rfl (by decide)))))))));dsimp only at hx;rw[hx];rfl
   |cons t l=>
    rw[hf]at hx;dsimp only at hx;have okl:okD 8 (.lst ((t::l).map aF))=true:=BY aF _ fun t=>rfl;refine Ss (SM (SY (Sw (R_ (Sz rfl (S8 (Q_ (SV (Uk (xs:=(t::l).map aF) (Sv (SJ ?_)) rfl rfl okl) rfl rfl (by decide)))))))));have ix0:gIx (.lst ((t::l).map aF)) (.int 0)=some (.val (aF t)):=by show (atI ((t::l).map aF) 0).map RV.val=_;unfold atI ixN;rw[if_pos (by lia),if_pos (by rw[gc,PR];lia)];rfl
    refine SY (Sw (R_ (R_ (R_ (Sz rfl (Sq (Su (v:=aF t) ?_ rfl rfl ix0)))))));refine Sq (Su (v:=.int t.a) ?_ rfl rfl rfl);refine R_ (R_ (Sz rfl (Sq (Su (v:=aF t) ?_ rfl rfl ix0))));refine Sq (Su (v:=.int t.b) ?_ rfl rfl rfl);refine S1 (Sv ?_) rfl rfl;by_cases Ko:t.a=t.b
    ·rw[if_pos (.inl Ko)]at hx;rw[decide_eq_true Ko];refine S2 (S2 (SH (Sq ?_)));rw[hx];rfl
    rw[decide_eq_false Ko];refine SJ ?_;refine Sw (R_ (P_ rfl (UC (R_ (Sz rfl (Sq (Su (v:=aF t) ?_ rfl rfl ix0)))))));refine Wp.some (Sq (bP.mk (Wp.none ⟨_,rfl,(by show ¬(sIx 3 0 (some 1)=0/\sIx 3 3 none=3);decide),?_⟩)));rw[FO];refine UE (a:=t.a) (b:=t.b) (Sv ?_) rfl rfl;by_cases hm:x=t.a\/x=t.b
    ·rw[decide_eq_true hm];refine SJ (SK ?_);rw[if_neg (by rintro(z | z);exact Ko z;exact z hm)]at hx;refine Sy (R_ (R_ (R_ (R_ (Sz rfl (Sq (Su (v:=aF t) ?_ rfl rfl ix0))))))) (by decide);refine Sq (Su (v:=.int t.a) ?_ rfl rfl rfl);refine R_ (R_ (Sz rfl (Sq (Su (v:=aF t) ?_ rfl rfl ix0))));refine Sq (Su (v:=.int t.b) ?_ rfl rfl rfl);refine S_ ?_ rfl rfl;refine P_ rfl (Td (SD ?_ (by trivial)) rfl rfl);exact⟨_,_,_,rfl,hx⟩
    ·rw[decide_eq_false hm];rw[if_pos (.inr hm)]at hx;refine S2 (SH (Sq ?_));rw[hx];rfl
  ·rintro ρ ⟨x,c5,c6,rfl,hx⟩;refine SH (R_ (P_ rfl (P_ rfl (S1 ?_ rfl rfl))));rw[hx];unfold d_;have:decide (some x=some b)=decide (x=b):=by by_cases h:x=b<;>simp[h]
   rw[this];rfl
 ·rw[decide_eq_false fun z=>hnd (hc2.mp z),decide_eq_false hnd];exact S2 (SH (Sq rfl))
theorem FU{n:Int}(hr:Good n 0 r)(hl:r.length<=60)(a b:Int)(ws:List (List Int))(hw:Few ws) :
  yl [aq r,.int a,.int b,aR ws]=some (.val (.bl (fS r a b ws))):=by
 obtain⟨h1,h2,hf⟩:=hw;apply SQ;unfold yl fS
 (refine Dm.SI ?_ rfl rfl;and_intros)
 refine Ss (SM (SY (SS (Sw (Th (P_ rfl (S7 (v:=.val (.bl true)) (Sv (SJ ?_)) rfl rfl)))))));refine SS (Sw (SG (m_ (Tn (fun w:List Int=>Dat.lst (w.map Dat.int)) ws (fun w=>decide (walk r [] a w=some b)) Dat.bl (d:=aR ws) ?_ rfl rfl rfl (by decide) (by unfold SZ;lia) fun x hx=>?_))))
 rotate_left
 ·exact SE (m_ (P_ rfl (m_ (P_ rfl (m_ (P_ rfl (m_ (P_ rfl (Q_ (SO (FQ hr hl a b x (h2 x hx)) (Sx ⟨rfl,rfl⟩) rfl rfl))))))))))
 refine Q_ (Tz (fun w=>decide (walk r [] a w=some b)) (Sv ?_) (by rw[P7];rfl));cases ha:ws.all fun w=>decide (walk r [] a w=some b) with
 |false=>refine S2 (SH (Sq ?_));rw[Bool.and_false];rfl
 |true=>
  rw[Bool.and_true];refine SJ (SK ?_);refine Ss (Sy (S8 (Q_ (SV ?_ rfl rfl (by decide)))) (by decide));refine SA ?_ (by trivial);refine Ss (SR (Tf (P_ rfl (Sx ⟨ws.map fun w:List Int=>Dat.lst (w.map Dat.int),rfl,?_⟩))));refine SX (fun w:List Int=>Dat.lst (w.map Dat.int)) _ _ ws _ _ _ _ _ (fun p q ρ=>∃c5,ρ=[.sh (aq r),.sh (.int a),.sh (.int b),.sh (aR ws),.ow (.lst (p.flatten.map Dat.int)),c5]) ⟨_,rfl⟩ ?_ ?_
  ·rintro p x q ρ e ⟨c5,rfl⟩;refine Dm.bK rfl (by trivial) ?_;unfold Ce;have hl:ws.flatten.length=p.flatten.length+x.length+q.flatten.length:=by rw[e];simp;lia
   refine Sy (R_ (Sz rfl (P_ rfl (UG (xs:=p.flatten) (ys:=x) ?_ rfl rfl (by unfold SZ;lia))))) (by decide);refine SA ⟨.sh (.lst (x.map Dat.int)),?_⟩ (by trivial);rw[z6]
  ·rintro ρ ⟨c5,rfl⟩;obtain⟨c,hc,hc2⟩:=qF ws.flatten hf;refine SH (R_ (Th (Sz rfl (S7 (v:=.val (.int (c:Nat))) ?_ rfl hc))));refine SG (m_ (Sz rfl (Q_ (S3 (rX:=Dat.int) (xs:=ws.flatten) ?_ rfl))));refine S1 ?_ rfl rfl;rw[jZ];have:decide (c=ws.flatten.length)=decide ws.flatten.Nodup:=by
    by_cases h:ws.flatten.Nodup
    ·rw[decide_eq_true h,decide_eq_true (hc2.mpr h)]
    ·rw[decide_eq_false h,decide_eq_false fun z=>h (hc2.mp z)]
   rw[this];rfl
theorem FW(i:Nat)(ρ:Env)(a n:Int)(h0:ρ[0]?=some (.sh (.int n)))(hi:ρ[i]?=some (.sh (.int a))):fD gLe gLt (eC (.int 0)) (eV i) (eV 0) ρ=some (.val (.bl (decide (0<=a/\a<n))),ρ):=by
 have e1:gLe (.int 0) (.int a)=some (.val (.bl (decide (0<=a)))):=rfl;have e2:gLt (.int a) (.int n)=some (.val (.bl (decide (a<n)))):=rfl;unfold fD;simp only[eC,eV,h0,hi,pk,e1,e2,RV.bG];by_cases q:0<=a
 ·rw[decide_eq_true q];have:decide (0<=a/\a<n)=decide (a<n):=by simp[q]
  rw[this]
 ·rw[decide_eq_false q,decide_eq_false (p:=0<=a/\a<n) fun z=>q z.1]
theorem wU(n:Int)(S:List Int)(hl:S.length<=1000):ym [.int n,tupI S]=some (.val (.bl (lZ n S))):=by
 apply SQ;unfold ym tupI lZ
 (refine Dm.SI ?_ rfl rfl;and_intros)
 refine Ss (SM (SY (SS (Sw (Th (P_ rfl (S7 (v:=.val (.bl true)) (Sv (SJ ?_)) rfl rfl)))))));refine SS (Sw (SG (m_ (Tn Dat.int S (fun x=>decide (0<=x/\x<n)) Dat.bl ?_ rfl rfl rfl (by decide) (by unfold SZ;lia) (fun x hx=>?_)))))
 rotate_left
 ·refine TJ (SE (m_ (P_ rfl (Q_ (SO (j0 x) (Sv (S2 ?_)) rfl rfl)))));exact⟨_,_,FW 2 _ x n rfl rfl,Sx ⟨rfl,rfl⟩⟩
 refine Q_ (Tz (fun x=>decide (0<=x/\x<n)) (Sv ?_) (by rw[P7];rfl));cases ha:S.all fun x=>decide (0<=x/\x<n) with
 |false=>exact S2 (SH (Sq rfl))
 |true=>
  refine SJ (SK ?_);rw[Sg];have ix:∀(i:Int) (h0:0<=i) (h1:i<S.length) {o p:Option Dat} {K:RV->Prop},K (.val (.int (S[i.toNat]'(by lia))))->o=some (.tup (S.map Dat.int))->p=some (.int i)->Wg2 gIx o p K:=fun i h0 h1 {o p K} k ho hp=>Kn (xs:=S) (rX:=Dat.int) h0 h1 k ho hp;have len:cD [.tup (S.map Dat.int)]=some (.val (.int (S.length:Nat))):=by show some (RV.val (.int ((S.map Dat.int).length:Nat)))=_;rw[Pg]
  refine SH (SG (m_ ?_));refine TV (fun i:Nat=>Dat.int (1+(i:Nat))) (Pu (S.length-1)) (fun _=>true) (fun i=>Dat.bl (decide (S.getD i 0<S.getD (i+1) 0))) ?_ (ρ1:=[.sh (.int n),.sh (.tup (S.map Dat.int))]) ?_ rfl (by decide) (by simp[SZ];lia) (fun i _=>?_) (fun i hi _=>?_)
  ·refine Q_ (Tz (fun i=>decide (S.getD i 0<S.getD (i+1) 0)) ?_ (by rw[Ra.mpr (fun _ _=>rfl)];rfl));rfl
  ·apply S4;refine TR (Sq (bP.mk (SG (m_ (P_ rfl (Q_ ⟨_,_,rfl,len,?_⟩))))));refine bP.mk ⟨⟨?_,rfl⟩,by unfold BIG;lia,by unfold BIG;lia,by unfold BIG;lia,by unfold BIG;lia⟩;have e2:(((S.length:Nat):Int)-1).toNat=S.length-1:=by lia
   rw[e2];rfl
  ·exact Um ⟨rfl,rfl⟩
  ·have hi':i<S.length-1:=Qp.mp hi;refine R_ (R_ (P_ rfl (R_ (P_ rfl (Sq (Td (ix _ (by lia) (by lia) ?_ rfl rfl) rfl rfl))))));refine R_ (P_ rfl (P_ rfl (ix _ (by lia) (by lia) ?_ rfl rfl)));refine Ue (Sx ⟨?_,rfl⟩) rfl rfl;have e1:S.getD i 0=S[(1+(i:Int)-1).toNat]'(by omega):=by
    rw[Qg,Pp (by lia)];simp only[Option.getD_some]
    congr 1;lia
   have e2:S.getD (i+1) 0=S[(1+(i:Int)).toNat]'(by lia):=by
    rw[Qg,Pp (by lia)];simp only[Option.getD_some]
    congr 1;lia
   rw[e1,e2]
theorem wV(K:List Tie)(a:Int)(k:Nat):fS K a a (d9 k)=true:=by
 unfold fS d9;have h1:(gV k ([]:List Int)).flatten=[]:=by induction k<;>simp_all [QD]
 rw[h1,Pz];refine⟨decide_eq_true RI,?_⟩;rw[PY];intro w hw;rw[(List.mem_replicate.mp hw).2];exact decide_eq_true rfl
theorem FY(K:List Tie)(k:Nat)(t:Tie)(ws:List (List Int)):wR K k t ws=(decide (ws.length=k)&&(fS K t.a t.b ws&&(!decide (t.a=t.b)||decide (ws=d9 k)))):=by
 unfold wR;by_cases h:t.a=t.b
 ·rw[if_pos h,decide_eq_true h];by_cases e:ws=d9 k
  ·subst e;have:(d9 k).length=k:=Qz;rw[h,wV,decide_eq_true this];simp
  ·simp[e]
 ·rw[if_neg h,decide_eq_false h];simp
theorem lq{n:Int}(hr:Good n 0 r):∀{w:List Step} {x y:Int},Way (fZ r) x w y->d_ r x (mso w)=some y
 |[],x,y,h=>by cases h;rfl
 |s::w,x,y,h=>by
  obtain⟨⟨t,ht,tm,te⟩,hw⟩:=h;show d_ r x (s.1::mso w)=some y;unfold d_;have hm:t∈r.filter (fun t=>decide (t.m=s.1)):=Qa.mpr ⟨ht,decide_eq_true tm⟩;cases hf:r.filter (fun t=>decide (t.m=s.1)) with
  |nil=>rw[hf]at hm;cases hm
  |cons u l=>
   have hu:u∈r.filter (fun t=>decide (t.m=s.1)):=by rw[hf];exact Ds
   obtain⟨u1,u2⟩:=Qa.mp hu;have:u=t:=Good.uniq hr u u1 t ht (by rw[of_decide_eq_true u2,tm]);subst this;dsimp only;obtain⟨ne,e | e⟩:=te
   ·rw[if_neg (by rintro(z | z);exact ne z;exact z (.inl e.1.symm)),show u.a+u.b-x=s.2 by lia];exact lq hr hw
   ·rw[if_neg (by rintro(z | z);exact ne z;exact z (.inr e.1.symm)),show u.a+u.b-x=s.2 by lia];exact lq hr hw
theorem uz.right{n:Int}(hr:Good n 0 r)(W:uz r a b ws):fS r a b (ws.map mso)=true:=by unfold fS;rw[Pz];refine⟨decide_eq_true W.nd,?_⟩;rw[PY];intro m hm;obtain⟨w,hw,rfl⟩:=Pw.mp hm;refine decide_eq_true ((fT hr b (mso w) [] a).mpr ⟨⟨?_,by simp⟩,lq hr (W.way w hw).way⟩);obtain⟨p,q,e⟩:=List.append_of_mem hm;have:=W.nd;rw[e,Rm,Ql]at this;exact(P6.mp (P6.mp this).2.1).1
theorem ff(r:List Tie)(L:List Int):(e8 r L).length=aQ r fun q=>decide (q∈L):=by unfold e8;rw[Pg];rfl
theorem Kept.gone(h:Kept r k r K)(ht:t∈r)(hK:t∉K)(S:Int->Bool)(h1:S t.a=true)(h2:S t.b=false):k<=aQ K S:=by
 have hlow:=h.low S;by_cases hc:k<=aQ K S
 ·exact hc
 ·exfalso;have le:aQ r S<=aQ K S:=by lia
  have sub:(K.filter (over S)).Sublist (r.filter (over S)):=h.sub.filter _;have e:=sub.eq_of_length_le le;have ho:over S t=true:=by unfold over;rw[h1,h2];rfl
  have:t∈r.filter (over S):=Qa.mpr ⟨ht,ho⟩;rw[<- e]at this;exact hK (Qa.mp this).1
theorem FZ{ws:List (List Int)}{w:List Int}(h:w∈ws):w.length<=ws.flatten.length:=by
 obtain⟨p,q,rfl⟩:=List.append_of_mem h;rw[Rm,Ql,Pr,Pr]
 lia
theorem uz.O4(W:uz r a b ws):(ws.map mso).flatten.length<=r.length:=by
 have sub:∀m∈(ws.map mso).flatten,m∈r.map (·.m):=fun m hm=>by obtain⟨l,hl,hm⟩:=List.mem_flatten.mp hm;obtain⟨w,hw,rfl⟩:=Pw.mp hl;obtain⟨s,hs,rfl⟩:=Pw.mp hm;exact wL (fun p s z=>z) (W.way w hw).way s hs
 have:=W.nd.length_le_of_subset (fun m hm=>sub m hm);rw[Pg]at this;exact this
theorem CA{S:List Int}(s:FA n a b S):S.length<=n:=by
 have h1:S.length<=((Pu n).map fun i:Nat=>(i:Int)).length:=(M_ s.1).length_le_of_subset fun x hx=>by obtain⟨z1,z2⟩:=s.2.1 x hx;exact Pw.mpr ⟨x.toNat,Qp.mpr (by lia),by lia⟩
 rw[Pg,P1]at h1;exact h1
theorem uD(n10:n<=10)(h:Fit n K)(ht:t∈K)(k6:k<=6)(hc:∃S:Int->Bool,S t.a=true/\S t.b=false/\aQ (outF K t) S<k) :
  ∃S:List Int,gR [.int n,aq K,aF t,.int k]=some (.val (tupI S))/\qH n K k t S=true/\S.length<=20:=by
 have hp:=h.pl t ht;have h':=h.out t;obtain⟨ws,o,e,A⟩:=iC n h'.n40 _ h'.pl h'.nd h'.len t.a t.b hp.1 hp.2.1 hp.2.2.1 hp.2.2.2 k (by lia) (by lia);cases o with
 |none=>
  obtain⟨S,s1,s2,s3⟩:=hc;have:=A.all rfl;have:=M9 A.ways s1 s2
  lia
 |some S=>
  obtain⟨q1,q2,q3⟩:=A.side S rfl;refine⟨S,?_,?_,PL (CA q1) (by lia)⟩
  ·apply SQ;unfold gR
   (refine Dm.SI ?_ rfl rfl;and_intros)
   refine SH (R_ (SE (m_ (P_ rfl (m_ (SE (m_ (P_ rfl (m_ (P_ rfl (Q_ (SN (nV K h.len t) ?_ rfl rfl rfl rfl))))))))))));refine m_ (R_ (P_ rfl (Sq (Su ?_ rfl rfl rfl))));refine m_ (R_ (P_ rfl (Sq (Su ?_ rfl rfl rfl))));refine m_ (P_ rfl (Q_ (SN e ?_ rfl rfl rfl rfl)));exact Sq (Su rfl rfl rfl rfl)
  ·unfold qH lZ;have c1:(S.all fun x=>decide (0<=x/\x<(n:Int)))=true:=by
    rw[PY];exact fun x hx=>decide_eq_true (q1.2.1 x hx)
   have c2:t.m∈e8 K S:=Pw.mpr ⟨t,Qa.mpr ⟨ht,by unfold ovr;rw[decide_eq_true q1.2.2.1,decide_eq_false q1.2.2.2];rfl⟩,rfl⟩;have c3:(e8 K S).length<=k:=by
    have:=pQ h.nodup t (fun x=>decide (x∈S));rw[<- ff,<- ff]at this
    lia
   rw[c1,(qG S).mpr q1.1,decide_eq_true c2,decide_eq_true c3];rfl
theorem pick{α β:Type}{P:α->β->Prop}:∀l:List α,(∀x∈l,∃y,P x y)->∃ys:List β,ys.length=l.length/\∀p∈l.zip ys,P p.1 p.2
 |[],_=>⟨[],rfl,fun p hp=>by cases hp⟩
 |x::l,h=>by
  obtain⟨y,hy⟩:=h x Ds;obtain⟨ys,e,k⟩:=pick l fun z hz=>h z (Pa _ hz);refine⟨y::ys,by rw[PR,PR,e],fun p hp=>?_⟩;rw[QK]at hp;rcases Pk.mp hp with rfl | hp
  ·exact hy
  ·exact k p hp
theorem uE{α β:Type}{f:α->Dat}{g:β->Dat}:∀(l:List α) (ys:List β),ys.length=l.length->(∀p∈l.zip ys,f p.1=g p.2)->l.map f=ys.map g
 |[],[],_,_=>rfl
 |[],_::_,e,_=>by cases e
 |_::_,[],e,_=>by cases e
 |x::l,y::ys,e,h=>by rw[gc,gc,h (x,y) (by rw[QK];exact Ds),uE l ys (by simpa using e) fun p hp=>h p (by rw[QK];exact Pa _ hp)]
theorem sF{α β:Type}:∀(l:List α) (ys:List β),ys.length=l.length->∀y∈ys,∃x∈l,(x,y)∈l.zip ys
 |[],[],_,y,hy=>by cases hy
 |[],_::_,e,_,_=>by cases e
 |_::_,[],e,_,_=>by cases e
 |x::l,z::ys,e,y,hy=>by
  rw[QK];rcases Pk.mp hy with rfl | hy
  ·exact⟨x,Ds,Ds⟩
  ·obtain⟨w,h1,h2⟩:=sF l ys (by simpa using e) y hy;exact⟨w,Pa _ h1,Pa _ h2⟩
noncomputable def got(o:Option RV):Dat:=(o.map RV.dat).getD .non
theorem nY{r K:List Tie}(s:K.Sublist r):(r.map (·.m)).Nodup->r.filter (fun t=>decide (t.m∈K.map (·.m)))=K:=by
 induction s with
 |slnil=>intro _;rfl
 |cons a s ih=>rename_i K' r';intro nd;rw[gc,Pn]at nd;rw[Qw,ih nd.2];simp only[decide_eq_true_iff];exact fun z=>nd.1 ((s.map (·.m)).subset z)
 |cons_cons a s ih=>
  rename_i K' r';intro nd;rw[gc,Pn]at nd;rw[Qx (by simp)]
  congr 1
  conv=>rhs;rw[<- ih nd.2]
  apply QS;intro t ht;apply decide_eq_decide.mpr;rw[gc,Pk];constructor
  ·rintro(e | e)
   ·exact absurd (Pw.mpr ⟨t,ht,e⟩) nd.1
   ·exact e
  ·exact .inr
theorem nZ(r:List Tie)(hl:r.length<=1000)(S:List Int):uq [aq r,tupI S]=some (.new (.lst ((e8 r S).map Dat.int))):=by
 apply SQ;unfold uq tupI
 (refine Dm.SI ?_ rfl rfl;and_intros)
 refine SH ?_;refine Vs aF r (ovr S) (·.m) Dat.int (fun t=>.int t.m) (fun t=>.int t.a) (fun t=>.int t.b) (fun _=>rfl) ?_ rfl rfl rfl (by decide) (by simp[SZ];lia) (fun t _=>?_) (fun t _ _=>?_)
 ·exact UN rfl
 ·refine Sw (R_ (R_ (P_ rfl (P_ rfl (TM (xs:=S) ?_ rfl rfl)))));refine R_ (P_ rfl (P_ rfl (TM (xs:=S) ?_ rfl rfl)));exact TY (Sv ⟨rfl,rfl⟩) rfl rfl
 ·exact P_ rfl (Sx ⟨rfl,rfl⟩)
noncomputable def j_(w:List Int):Dp:=.l ((w.map Dat.int).map .s)
noncomputable def bh(ws:List (List Int)):Dp:=.l (ws.map j_)
noncomputable def f9(M:List Int)(W:List (List (List Int)))(S:List (List Int)):Dp:=.t [.l ((M.map Dat.int).map .s),.l (W.map bh),.l ((S.map tupI).map .s)]
theorem yE(w:List Int):(j_ w).dat=.lst (w.map Dat.int):=by unfold j_ Dp.dat;rw[Dp.kR]
theorem CB(R:List (List Int)):(bh R).dat=aR R:=by
 unfold bh aR Dp.dat;rw[Dp.dQ,P7]
 congr 1
 exact QG fun w _=>yE w
theorem yF(W:List (List (List Int))):(Dp.l (W.map bh)).dat=.lst (W.map aR):=by
 unfold Dp.dat;rw[Dp.dQ,P7]
 congr 1
 exact QG fun w _=>CB w
theorem gU(M:List Int)(W:List (List (List Int)))(S:List (List Int)):(f9 M W S).dat=dh M W S:=by
 have h1:(Dp.l ((M.map Dat.int).map .s)).dat=.lst (M.map Dat.int):=by unfold Dp.dat;rw[Dp.kR]
 have h2:(Dp.l ((S.map tupI).map .s)).dat=.lst (S.map tupI):=by unfold Dp.dat;rw[Dp.kR]
 show Dat.tup [Dp.dat (.l ((M.map Dat.int).map .s)),Dp.dat (.l (W.map bh)),Dp.dat (.l ((S.map tupI).map .s))]=_;rw[h1,h2,yF];rfl
theorem CC(w:List Int):aK (j_ w)=true:=by unfold j_ aK;exact fQ w
theorem kc(f:α->Dp)(h:∀x,aK (f x)=true):∀l:List α,aV (l.map f)=true
 |[]=>by unfold aV;rfl
 |x::l=>by rw[gc,aV,kc f h l,h x];rfl
theorem z7(ws:List (List Int)):aK (bh ws)=true:=by unfold bh aK;exact kc j_ CC ws
theorem l0:∀ns:List Int,nI (ns.map Dat.int)=true
 |[]=>by unfold nI;rfl
 |i::r=>by rw[gc,nI,l0 r,ue];rfl
theorem CD(S:List Int):aK (.s (tupI S))=true:=by unfold tupI aK mj;exact l0 S
theorem lu(M:List Int)(W:List (List (List Int)))(S:List (List Int)):aK (f9 M W S)=true:=by
 have h1:aK (.l ((M.map Dat.int).map .s))=true:=by unfold aK;exact fQ M
 have h2:aK (.l (W.map bh))=true:=by unfold aK;exact kc bh z7 W
 have h3:aK (.l ((S.map tupI).map .s))=true:=by unfold aK;rw[P7];exact kc (fun x=>.s (tupI x)) CD S
 unfold f9 aK;rw[aV,aV,aV,aV,h1,h2,h3];rfl
theorem gW(k:Nat)(k6:k<=6):fR [.int k]=some (bh (d9 k)):=by
 have q:Wq (qR (iz (iR1 (eV 0)) 1 (bN 1) (pO (cT [])))) [.sh (.int k)] (fun p=>p=bh (d9 k)):=by
  refine Tq (Tu (fun i:Nat=>Dat.int (0+(i:Nat))) (Pu k) (fun _=>.l []) (fun ρ=>∃c,ρ=[.sh (.int k),c]) (ρ1:=[.sh (.int k)]) ?_ (by rw[P1];unfold SZ;lia) ⟨_,rfl⟩ ?_ ?_)
  ·apply S4;refine To (P_ rfl (bP.mk ⟨⟨?_,rfl⟩,by unfold BIG;lia,by unfold BIG;lia⟩));rw[Rw];rfl
  ·rintro i _ ρ ⟨c,rfl⟩;exact⟨[.sh (.int k),.sh (.int (0+(i:Nat)))],rfl,Tp (ds:=[]) (S8 (Q_ (SV ⟨rfl,rfl,_,rfl⟩ rfl rfl (by decide))))⟩
  ·rintro ρ2 _;unfold bh d9;rw[List.map_replicate,List.map_const',P1];rfl
 obtain⟨p,e1,rfl⟩:=Tv (n:=1) (m:=0) (ds:=[.int k]) q rfl rfl;exact e1
theorem ly(h:Fit n K)(g:Good n 0 K)(lK:K.length<=60)(a0:0<=a)(a1:a<n)(b0:0<=b)(b1:b<n)(k6:k<=6)(hk:∀S:Int->Bool,S a=true->S b=false->k<=aQ K S) :
  ∃ws:List (List Int),bJ [.int n,aq K,.int a,.int b,.int k]=some (bh ws)/\ws.length=k/\fS K a b ws=true/\∀w∈ws,w.length<=60:=by
 obtain⟨ws,o,_,e,A⟩:=qD n h.n40 K h.pl h.nd h.len a b a0 a1 b0 b1 k (by lia) (by lia);have hw:bh (ws.map mso)=.l (ws.map msP):=by unfold bh;rw[P7];rfl
 refine⟨ws.map mso,?_,?_,A.ways.right g,fun w hw=>?_⟩
 ·have q:Wq (qR (pIx (dg bY [(eV 0),(eV 1),(eV 2),(eV 3),(eV 4)]) 0)) [.sh (.int n),.sh (aq K),.sh (.int a),.sh (.int b),.sh (.int k)] (fun p=>p=.l (ws.map msP)):=
   Tq (U7 (xs:=[.l (ws.map msP),.s (f7 o)]) (m:=0) (x:=.l (ws.map msP)) (S6 (m_ (P_ rfl (m_ (P_ rfl (m_ (P_ rfl (m_ (P_ rfl (m_ (P_ rfl (Q_ ⟨_,_,_,e,⟨rfl,rfl⟩,rfl⟩)))))))))))) rfl rfl)
  obtain⟨p,e1,rfl⟩:=Tv (n:=5) (m:=0) (ds:=[.int n,aq K,.int a,.int b,.int k]) q rfl rfl;rw[hw];exact e1
 ·rw[Pg];cases o with
  |none=>have:=A.all rfl;lia
  |some S=>
   obtain⟨⟨_,_,s1,s2⟩,s3,s4⟩:=A.side S rfl;have:=hk (fun x=>decide (x∈S)) (decide_eq_true s1) (decide_eq_false s2);rw[<- ff]at this
   lia
 ·exact PL (FZ hw) (PL A.ways.O4 lK)
noncomputable def Na(o:Option Dp):Dp:=o.getD (.s .non)
noncomputable def gP(n k:Nat)(K:List Tie)(t:Tie):Dp:=if t.a=t.b then Na (fR [.int k]) else Na (bJ [.int n,aq K,.int t.a,.int t.b,.int k])
theorem qI{α β γ:Type}{f:α->γ}{g:β->γ}:∀(l:List α) (ys:List β),ys.length=l.length->(∀p∈l.zip ys,f p.1=g p.2)->l.map f=ys.map g
 |[],[],_,_=>rfl
 |[],_::_,e,_=>by simp at e
 |_::_,[],e,_=>by simp at e
 |x::l,y::ys,e,h=>by rw[gc,gc,qI l ys (by simpa using e) fun p hp=>h p (by rw[QK];exact Pa _ hp),h (x,y) (by rw[QK];exact Ds)]
theorem sG(aH aW:Nat){r K:List Tie}(h:Fit n r)(hr:Good n 0 r)(hl:r.length<=60)(k6:k<=6)(hK:Kept r k r K) :
  ∃W:List (List (List Int)),cS aH aW [.int n,aq r,aq K,.int k,.fn aW]=some (.l (W.map bh))/\W.length=(r.filter fun t=>!decide (t∈K)).length/\∀p∈(r.filter fun t=>!decide (t∈K)).zip W,wR K k p.1 p.2=true/\p.2.length=k/\∀w∈p.2,w.length<=60:=by
 have fK:=h.sub hK.sub;have gK:Good n 0 K:=by have:=hr.filter (fun t=>decide (t.m∈K.map (·.m)));rw[nY hK.sub h.nd]at this;exact this
 have lK:K.length<=60:=PL hK.sub.length_le hl;have each:∀t∈(r.filter fun t=>!decide (t∈K)),∃ws:List (List Int),gP n k K t=bh ws/\(t.a≠t.b->bJ [.int n,aq K,.int t.a,.int t.b,.int k]=some (bh ws))/\wR K k t ws=true/\ws.length=k/\∀w∈ws,w.length<=60:=fun t ht=>by
  obtain⟨t1,t2⟩:=Qa.mp ht;have t2:t∉K:=by simpa using t2
  have hp:=h.pl t t1;unfold gP;by_cases Ko:t.a=t.b
  ·refine⟨d9 k,?_,fun z=>absurd Ko z,?_,Qz,fun w hw=>by rw[(List.mem_replicate.mp hw).2];exact Qd _⟩
   ·rw[if_pos Ko,gW k k6];rfl
   ·unfold wR;rw[if_pos Ko];exact decide_eq_true rfl
  ·obtain⟨ws,e,l,rt,sl⟩:=ly fK gK lK hp.1 hp.2.1 hp.2.2.1 hp.2.2.2 k6 (hK.gone t1 t2);refine⟨ws,?_,fun _=>e,?_,l,sl⟩
   ·rw[if_neg Ko,e];rfl
   ·unfold wR;rw[if_neg Ko,rt,decide_eq_true l];rfl
 obtain⟨W,lW,hW⟩:=pick _ each;refine⟨W,?_,lW,fun p hp=>(hW p hp).2.2⟩;rw[<- qI (f:=gP n k K) _ W lW fun p hp=>(hW p hp).1]
 suffices q:∃p,cS aH aW [.int n,aq r,aq K,.int k,.fn aW]=some p/\p=.l ((r.filter fun t=>!decide (t∈K)).map (gP n k K)) by obtain⟨p,e1,rfl⟩:=q;exact e1
 unfold cS;refine Tv ?_ rfl rfl;and_intros;refine Ti (Sy (TQ aF r (fun t=>!decide (t∈K)) id aF (d:=aq r) ?_ rfl rfl rfl (by decide) (by unfold SZ;lia) (fun u _=>?_) fun u _ _=>P_ rfl (Sx ⟨rfl,rfl⟩)) (by decide))
 ·refine SA ?_ (by trivial);rw[QE];refine Tq (Tu aF (r.filter fun t=>!decide (t∈K)) (gP n k K) (fun ρ=>∃c,ρ=[.sh (.int n),.sh (aq r),.sh (aq K),.sh (.int k),.sh (.fn aW),.sh (aq (r.filter fun t=>!decide (t∈K))),c]) (ρ1:=[.sh (.int n),.sh (aq r),.sh (aq K),.sh (.int k),.sh (.fn aW),.sh (aq (r.filter fun t=>!decide (t∈K)))]) ?_ (PL (QI _ _) (by unfold SZ;lia)) ⟨_,rfl⟩ ?_ ?_)
  ·apply S4;exact Tf (Sz rfl (T7 (dw ⟨rfl,rfl⟩) rfl (by trivial)))
  ·rintro t ht ρ ⟨c,rfl⟩;refine⟨[.sh (.int n),.sh (aq r),.sh (aq K),.sh (.int k),.sh (.fn aW),.sh (aq (r.filter fun t=>!decide (t∈K))),.sh (aF t)],rfl,?_⟩;obtain⟨ws,e1,e2,_⟩:=each t ht;refine Vc (Sw (R_ (R_ (P_ rfl (Sq (Su ?_ rfl rfl rfl))))));refine R_ (P_ rfl (Sq (Su ?_ rfl rfl rfl)));refine S1 (Sv ?_) rfl rfl;refine SW (fun Ko=>?_) fun Ko=>?_
   ·refine S6 (m_ (P_ rfl (Q_ ⟨_,_,_,gW k k6,⟨?_,_,rfl⟩,rfl⟩)));unfold gP;rw[if_pos Ko,gW k k6];rfl
   ·refine U9 rfl (S6 (m_ (P_ rfl (m_ (P_ rfl (m_ (R_ (P_ rfl (Sq (Su ?_ rfl rfl rfl))))))))));refine m_ (R_ (P_ rfl (Sq (Su ?_ rfl rfl rfl))));refine m_ (P_ rfl (Q_ ⟨_,_,_,e2 Ko,⟨?_,_,rfl⟩,rfl⟩));rw[e1]
  ·rintro ρ2 _;rfl
 ·exact Sw (R_ (P_ rfl (P_ rfl (UD (Sv ⟨rfl,rfl⟩) rfl rfl))))
structure Prd(n:Nat)(r:List Tie)(k:Nat)(K:List Tie)(W:List (List (List Int)))(S:List (List Int)):Prop where
 kr:KR r k r K
 wl:W.length=(r.filter fun t=>!decide (t∈K)).length
 ws:∀p∈(r.filter fun t=>!decide (t∈K)).zip W,wR K k p.1 p.2=true/\p.2.length=k/\∀w∈p.2,w.length<=60
 sl:S.length=K.length
 ss:∀p∈K.zip S,qH n K k p.1 p.2=true/\p.2.length<=20
theorem qJ(aH aW:Nat)(n10:n<=10)(hr:Good n 0 r)(hl:r.length<=60)(k1:1<=k)(k6:k<=6) :
  ∃K W S,bQ aH aW [.int n,aq r,.int k]=some (f9 (K.map (·.m)) W S)/\Prd n r k K W S:=by
 have h:Fit n r:=⟨by lia,hr.pl,hr.nd,by lia⟩
 obtain⟨K,eK,kr⟩:=sr aH aW h k6;have hK:=kr.kept;have fK:=h.sub hK.sub;have lK:K.length<=60:=PL hK.sub.length_le hl;obtain⟨W,ew,lW,hW⟩:=sG aH aW h hr hl k6 hK;have each:∀t∈K,∃S:List Int,gR [.int n,aq K,aF t,.int k]=some (.val (tupI S))/\qH n K k t S=true/\S.length<=20:=fun t ht=>uD n10 fK ht k6 (hK.cut t (hK.sub.subset ht) ht);obtain⟨S,lS,hS⟩:=pick _ each;have sD:K.map (fun t=>got (gR [.int n,aq K,aF t,.int k]))=S.map tupI:=uE _ S lS fun p hp=>by rw[(hS p hp).1];rfl
 refine⟨K,W,S,?_,kr,lW,hW,lS,fun p hp=>(hS p hp).2⟩;unfold f9;rw[<- sD];have hl':K.length<=SZ:=by unfold SZ;lia
 suffices q:∃p,bQ aH aW [.int n,aq r,.int k]=some p/\p=.t [.l (((K.map (·.m)).map Dat.int).map .s),.l (W.map bh),.l ((K.map (fun t=>got (gR [.int n,aq K,aF t,.int k]))).map .s)] by obtain⟨p,e1,rfl⟩:=q;exact e1
 unfold bQ;refine Tv ?_ rfl rfl;and_intros;refine Ti (T4 (SE (m_ (P_ rfl (Q_ (SO (nW k (by lia) (by lia)) ?_ rfl rfl))))));by_cases hr0:r=[]
 ·have hK0:K=[]:=by
   have:=hK.sub.length_le;rw[hr0]at this;exact List.eq_nil_of_length_eq_zero (by simpa using this)
  unfold qE at eK;rw[if_pos hr0]at eK;refine Ti (Sy (SE (m_ (P_ rfl (m_ (P_ rfl (m_ (P_ rfl (m_ (Sq (Q_ (SN eK ?_ rfl rfl rfl rfl))))))))))) (by decide));refine SA ?_ (by trivial);refine Ti (Sy (Uv aF K (fun t=>got (gR [.int n,aq K,aF t,.int k])) id ?_ rfl (by trivial) rfl (by decide) hl' fun t ht=>?_) (by decide))
  ·refine SA ?_ (by trivial);rw[QE];refine Tq (T_ (Wpa.cons (Tp (ds:=(K.map (·.m)).map Dat.int) (Uv aF K (·.m) Dat.int ?_ rfl (by trivial) rfl (by decide) hl' fun t ht=>?_))))
   ·refine⟨rfl,Wpa.cons (S6 (m_ (P_ rfl (m_ (P_ rfl (m_ (Sz rfl (m_ (P_ rfl (m_ (Sq (Q_ ⟨_,_,_,ew,?_,rfl⟩))))))))))))⟩;refine Wpa.cons (Uj (i:=4) (ds:=K.map (fun t=>got (gR [.int n,aq K,aF t,.int k]))) (Sz rfl ⟨rfl,rfl,Wpa.nil ⟨by exact P8 rfl,rfl⟩⟩))
   ·exact R_ (P_ rfl (Sq (Su (Sx ⟨rfl,rfl⟩) rfl rfl rfl)))
  ·rw[hK0]at ht;cases ht
 ·unfold qE at eK;rw[if_neg hr0]at eK;refine Ti (Sy (SE (m_ (P_ rfl (m_ (P_ rfl (m_ (P_ rfl (m_ (Sq (Q_ (SN eK ?_ rfl rfl rfl rfl))))))))))) (by decide));refine SD ?_ (by trivial);refine Ti (Sy (Tn aF K (fun t=>got (gR [.int n,aq K,aF t,.int k])) id (d:=aq K) ?_ rfl rfl rfl (by decide) hl' fun t ht=>?_) (by decide))
  ·refine SA ?_ (by trivial);rw[QE];refine Tq (T_ (Wpa.cons (Tp (ds:=(K.map (·.m)).map Dat.int) (Tn aF K (·.m) Dat.int (d:=aq K) ?_ rfl rfl rfl (by decide) hl' fun t ht=>?_))))
   ·refine⟨rfl,Wpa.cons (S6 (m_ (P_ rfl (m_ (P_ rfl (m_ (P_ rfl (m_ (P_ rfl (m_ (Sq (Q_ ⟨_,_,_,ew,?_,rfl⟩))))))))))))⟩;refine Wpa.cons (Uj (i:=4) (ds:=K.map (fun t=>got (gR [.int n,aq K,aF t,.int k]))) (Sz rfl ⟨rfl,rfl,Wpa.nil ⟨by exact P8 rfl,rfl⟩⟩))
   ·exact R_ (P_ rfl (Sq (Su (Sx ⟨rfl,rfl⟩) rfl rfl rfl)))
  ·obtain⟨S0,e,_⟩:=each t ht;refine SE (m_ (P_ rfl (m_ (P_ rfl (m_ (P_ rfl (m_ (P_ rfl (Q_ (SN e ?_ rfl rfl rfl rfl))))))))));refine Sx ⟨?_,rfl⟩;rw[e];rfl
noncomputable def mw(n x:Nat):List Int:=((Pu (n-1)).filter fun p=>decide (x / 2 ^ p % 2=1)).map fun p:Nat=>1+(p:Int)
theorem CF(n:Nat)(n1:1<=n)(n10:n<=10):yo [.int n]=some (.new (.lst (((Pu (2 ^ (n-1)-1)).map fun x=>mw n (1+x)).map tupI))):=by
 apply SQ;unfold yo
 (refine Dm.SI ?_ rfl rfl;and_intros)
 refine Ss (Sy (S8 (Q_ (SV ?_ rfl rfl (by decide)))) (by decide));refine SA ?_ (by trivial);have p1:(1:Int)*2 ^ ((n:Int)-1).toNat=((2 ^ (n-1):Nat):Int):=by
  have:((n:Int)-1).toNat=n-1:=by lia
  rw[this,Int.one_mul];norm_cast
 have p2:2 ^ (n-1)<=512:=PL (Nat.pow_le_pow_right (show 2>0 by decide) (show n-1<=9 by lia)) (by decide);have p3:0<2 ^ (n-1):=Nat.pow_pos (by decide);refine Ss (SR (TR (Sq (bP.mk (R_ (Sq (R_ (P_ rfl (Sq (Td ?_ rfl rfl))))))))));refine⟨_,_,_,rfl,rfl,(show zz (.int 1) (.int ((n:Int)-1))=some (.val (.int ((2 ^ (n-1):Nat):Int))) by unfold zz;dsimp only;rw[if_pos (by lia),p1]),?_⟩;refine bP.mk ⟨?_,by unfold BIG;lia⟩;have el:(((2 ^ (n-1):Nat):Int)-1).toNat=2 ^ (n-1)-1:=by lia
 rw[el];refine SX (fun i:Nat=>Dat.int (1+(i:Nat))) _ _ (Pu (2 ^ (n-1)-1)) _ _ _ _ _ (fun p q ρ=>∃c2:Cell,ρ=[.sh (.int n),.ow (.lst ((p.map fun x=>mw n (1+x)).map tupI)),c2]) ⟨_,rfl⟩ ?_ ?_
 ·rintro p i q ρ e ⟨c2,rfl⟩;have hlp:p.length<SZ:=by
   have:(Pu (2 ^ (n-1)-1)).length=p.length+(q.length+1):=by rw[e];simp
   rw[P1]at this;unfold SZ;lia
  refine Dm.bK rfl (by trivial) ?_;unfold Cf;refine TH (SG (m_ (Uw (fun p:Nat=>Dat.int (1+(p:Nat))) (Pu (n-1)) (fun p=>decide ((1+i) / 2 ^ p % 2=1)) (fun p:Nat=>1+(p:Int)) Dat.int (fun j=>[.sh (.int n),.ow (.lst ((p.map fun x=>mw n (1+x)).map tupI)),.sh (.int (1+(i:Nat))),.sh (.int (1+(j:Nat)))]) (ρ1:=[.sh (.int n),.ow (.lst ((p.map fun x=>mw n (1+x)).map tupI)),.sh (.int (1+(i:Nat)))]) ?_ ?_ (fun _=>rfl) (fun _ _=>rfl) (fun _=>rfl) (by rw[P1];unfold SZ;lia) (fun p hp=>?_) fun p _ _=>?_))) rfl
  ·refine Q_ (Ug ?_ rfl);refine Sx (nP ?_ rfl (by trivial) (by simpa using hlp));refine⟨.sh (.int (1+(i:Nat))),?_⟩;rw[PF,PF];rfl
  ·apply S4;refine TR (Sq (bP.mk (P_ rfl (bP.mk ⟨⟨?_,rfl⟩,by unfold BIG;lia⟩))));have:((n:Int)-1).toNat=n-1:=by lia
   rw[this];rfl
  ·refine Sw (R_ (R_ (R_ (P_ rfl (R_ (P_ rfl (Sq (Td ?_ rfl rfl))))))));refine UW ?_ rfl rfl (by lia);refine Sq (U5 ?_ rfl rfl);refine Sq (S1 (Sv ⟨?_,rfl⟩) rfl rfl);have:((1:Int)+(p:Nat)-1).toNat=p:=by lia
   rw[this];apply decide_eq_decide.mpr;have:((1:Int)+((i:Nat):Int)) / 2 ^ p % 2=(((1+i) / 2 ^ p % 2:Nat):Int):=by norm_cast
   rw[this]
   lia
  ·exact P_ rfl (Sx ⟨rfl,rfl⟩)
 ·rintro ρ ⟨c2,rfl⟩;exact SH (Sz rfl (S9 rfl rfl))
noncomputable def cy:Nat->List (List Int)
 |0=>[[]]
 |p+1=>cy p++(cy p).map fun S=>S++[((p+1:Nat):Int)]
theorem qK:∀p,(cy p).length=2 ^ p
 |0=>rfl
 |p+1=>by rw[cy,Pr,Pg,qK p,Nat.pow_succ];lia
theorem n5:∀p,∃r,cy p=[]::r/\∀S∈r,S≠[]
 |0=>⟨[],rfl,fun S h=>by cases h⟩
 |p+1=>by
  obtain⟨r,e,h⟩:=n5 p;refine⟨r++(cy p).map fun S=>S++[((p+1:Nat):Int)],by rw[cy,e];rfl,fun S hS=>?_⟩;rcases PV.mp hS with hS | hS
  ·exact h S hS
  ·obtain⟨T,_,rfl⟩:=Pw.mp hS;simp
noncomputable def ofS(S:Int->Bool):Nat->List Int
 |0=>[]
 |p+1=>ofS S p++if S ((p+1:Nat):Int)=true then [((p+1:Nat):Int)] else []
theorem sH(S:Int->Bool):∀p,ofS S p∈cy p
 |0=>by simp[ofS,cy]
 |p+1=>by
  rw[ofS,cy];cases S ((p+1:Nat):Int) with
  |true=>exact PB _ (Pw.mpr ⟨_,sH S p,rfl⟩)
  |false=>exact PK _ (by simpa using sH S p)
theorem CG(S:Int->Bool)(x:Int):∀p:Nat,x∈ofS S p↔1<=x/\x<=p/\S x=true
 |0=>by simp[ofS];lia
 |p+1=>by
  rw[ofS,PV,CG S x p];cases h:S ((p+1:Nat):Int) with
  |true=>
   rw[if_pos rfl,PN];constructor
   ·rintro(⟨h1,h2,h3⟩ | rfl)
    ·exact⟨h1,by lia,h3⟩
    ·exact⟨by lia,RK _,h⟩
   ·rintro⟨h1,h2,h3⟩;by_cases e:x=((p+1:Nat):Int)
    ·exact .inr e
    ·exact .inl ⟨h1,by lia,h3⟩
  |false=>
   rw[if_neg P0];constructor
   ·rintro(⟨h1,h2,h3⟩ | h1)
    ·exact⟨h1,by lia,h3⟩
    ·cases h1
   ·rintro⟨h1,h2,h3⟩;refine .inl ⟨h1,?_,h3⟩;by_cases e:x=((p+1:Nat):Int)
    ·subst e;rw[h]at h3;cases h3
    ·lia
theorem uF{S T:Int->Bool}(h:∀t∈r,S t.a=T t.a/\S t.b=T t.b):aQ r S=aQ r T:=by
 unfold aQ
 congr 1
 refine QS fun t ht=>?_;unfold over;rw[(h t ht).1,(h t ht).2]
theorem range_add(a b:Nat):Pu (a+b)=Pu a++(Pu b).map (a+·):=List.range_add
theorem Kp{p x:Nat}(h:x<2 ^ p):x / 2 ^ p % 2=0:=by rw[Nat.div_eq_of_lt h]
theorem F0{p q x:Nat}(h:q<p):(2 ^ p+x) / 2 ^ q % 2=x / 2 ^ q % 2:=by
 have e:2 ^ p=2 ^ q*(2*2 ^ (p-q-1)):=by
  rw[<- Nat.pow_succ',<- Nat.pow_add]
  congr 1
  lia
 rw[e,Nat.mul_add_div (R9 q),Nat.mul_add_mod]
theorem F1{p x:Nat}(h:x<2 ^ p):(2 ^ p+x) / 2 ^ p % 2=1:=by rw[Nat.add_div_left _ (R9 p),Nat.div_eq_of_lt h]
theorem qL:∀p:Nat,cy p=(Pu (2 ^ p)).map (mw (p+1))
 |0=>rfl
 |p+1=>by
  rw[cy,qL p,Nat.pow_succ,Nat.mul_two,range_add,PF,P7,P7]
  congr 1
  ·refine QG fun x hx=>?_;have hx:=Qp.mp hx;show mw (p+1) x=mw (p+2) x;unfold mw;show ((Pu p).filter _).map _=((Pu (p+1)).filter _).map _;rw[R8,List.filter_append,QV,if_neg (by simp[Kp hx]),List.filter_nil,Qe]
  ·refine QG fun x hx=>?_;have hx:=Qp.mp hx;show mw (p+1) x++[((p+1:Nat):Int)]=mw (p+2) (2 ^ p+x);unfold mw;show ((Pu p).filter _).map _++_=((Pu (p+1)).filter _).map _;rw[R8,List.filter_append,QV,if_pos (by simp[F1 hx]),List.filter_nil,PF]
   congr 1
   ·congr 1
    refine QS fun q hq=>?_;rw[F0 (Qp.mp hq)]
   ·simp;lia
theorem z8(n1:1<=n):((Pu (2 ^ (n-1)-1)).map fun x=>mw n (1+x))=(cy (n-1)).tail:=by
 obtain⟨m,rfl⟩:∃m,n=m+1:=⟨n-1,by lia⟩
 rw[show m+1-1=m by lia,qL m];have h:2 ^ m=1+(2 ^ m-1):=by have:=R9 m;lia
 conv=>rhs;rw[h,range_add]
 rw[PF,P7];rfl
theorem yG:∀(ns:List Int) (a:Int),gg a ns∈a::ns/\∀x∈a::ns,gg a ns<=x
 |[],a=>⟨Ds ..,fun x h=>by rcases Pk.mp h with rfl | h;exact RK _;exact nomatch h⟩
 |y::r,a=>by
  obtain⟨h1,h2⟩:=yG r (if y<a then y else a);have h0:=h2 _ (Ds ..);show gg (if y<a then y else a) r∈_/\∀x∈_,gg (if y<a then y else a) r<=x
  generalize gg (if y<a then y else a) r=m at *
  refine⟨?_,fun x hx=>?_⟩
  ·rcases Pk.mp h1 with z | z
   ·rw[z];split
    ·exact Pa _ (Ds ..)
    ·exact Ds ..
   ·exact Pa _ (Pa _ z)
  ·rcases Pk.mp hx with rfl | hx
   ·split at h0<;>lia
   ·rcases Pk.mp hx with rfl | hx
    ·split at h0<;>lia
    ·exact h2 x (Pa _ hx)
theorem F2(ms:List Int)(h:ms≠[]):∃m0,qo [.lst (ms.map Dat.int)]=some (.val (.int m0))/\m0∈ms/\∀m∈ms,m0<=m:=by
 cases ms with
 |nil=>exact(h rfl).elim
 |cons a ns=>refine⟨gg a ns,?_,yG ns a⟩;unfold qo;dsimp only;rw[wB]
theorem yH(n1:1<=n)(hr:Pl n r)(a0:0<=a)(a1:a<n)(b0:0<=b)(b1:b<n)(S:Int->Bool)(s0:S 0=false)(hs:S a≠S b) :
  ∃L∈(cy (n-1)).tail,(decide (a∈L) != decide (b∈L))=true/\(e8 r L).length=aQ r S:=by
 obtain⟨q,eq,neq⟩:=n5 (n-1);have mem:∀x:Int,0<=x->x<n->decide (x∈ofS S (n-1))=S x:=fun x x0 x1=>by
  rw[Rc,decide_eq_true_iff,CG];constructor
  ·exact fun h=>h.2.2
  ·intro h;refine⟨?_,by lia,h⟩;by_cases e:x=0
   ·subst e;rw[s0]at h;cases h
   ·lia
 refine⟨ofS S (n-1),?_,?_,?_⟩
 ·have:=sH S (n-1);rw[eq]at this ⊢;rcases Pk.mp this with h | h
  ·exfalso;have ha:=mem a a0 a1;have hb:=mem b b0 b1;rw[h]at ha hb;exact hs (ha.symm.trans hb)
  ·exact h
 ·rw[mem a a0 a1,mem b b0 b1];cases ha:S a<;>cases hb:S b<;>simp_all
 ·rw[ff];refine uF fun t ht=>?_;obtain⟨h1,h2,h3,h4⟩:=hr t ht;exact⟨mem _ h1 h2,mem _ h3 h4⟩
theorem CH(n1:1<=n)(n10:n<=10)(hr:Pl n r)(hl:r.length<=60)(a0:0<=a)(a1:a<n)(b0:0<=b)(b1:b<n)(Ko:a≠b) :
  ∃m:Int,yp [.int n,aq r,.int a,.int b]=some (.val (.int m))/\(∀S:Int->Bool,S a=true->S b=false->m<=aQ r S)/\∃S:Int->Bool,S a=true/\S b=false/\(aQ r S:Int)=m:=by
 have go:∀S:Int->Bool,S a=true->S b=false->∃L∈(cy (n-1)).tail,(decide (a∈L) != decide (b∈L))=true/\(e8 r L).length=aQ r S:=fun S s1 s2=>by
  cases s0:S 0 with
  |false=>exact yH n1 hr a0 a1 b0 b1 S s0 (by rw[s1,s2];decide)
  |true=>obtain⟨L,h1,h2,h3⟩:=yH n1 hr a0 a1 b0 b1 (fun x=>!S x) (by rw[s0];rfl) (by rw[s1,s2];decide);exact⟨L,h1,h2,by rw[h3,kZ]⟩
 have es:=CF n n1 n10;rw[z8 n1]at es;have ls:(cy (n-1)).tail.length<=512:=by
  have:=qK (n-1);have:=Nat.pow_le_pow_right (show 2>0 by decide) (show n-1<=9 by lia);rw[List.length_tail];have e:2 ^ 9=512:=rfl
  lia
 obtain ⟨m,em,hm,hle⟩:=F2 (((cy (n-1)).tail.filter fun L=>decide (a∈L) != decide (b∈L)).map fun L=>((e8 r L).length:Int)) (by obtain⟨L,h1,h2,_⟩:=go (fun x=>decide (x=a)) (decide_eq_true rfl) (decide_eq_false fun z=>Ko z.symm);have:L∈(cy (n-1)).tail.filter fun L=>decide (a∈L) != decide (b∈L):=Qa.mpr ⟨h1,h2⟩;intro z;rw[List.map_eq_nil_iff]at z;rw[z]at this;cases this)
 refine⟨m,?_,fun S s1 s2=>?_,?_⟩
 ·apply SQ;unfold yp
  (refine Dm.SI ?_ rfl rfl;and_intros)
  refine SH (SG (m_ (Uw tupI (cy (n-1)).tail (fun L=>decide (a∈L) != decide (b∈L)) (fun L=>((e8 r L).length:Int)) Dat.int (fun L=>[.sh (.int n),.sh (aq r),.sh (.int a),.sh (.int b),.sh (tupI L)]) (ρ1:=[.sh (.int n),.sh (aq r),.sh (.int a),.sh (.int b)]) ?_ ?_ (fun _=>rfl) (fun _ _=>rfl) (fun _=>rfl) (by unfold SZ;lia) (fun L hL=>?_) fun L _ _=>?_)))
  ·exact Q_ ⟨_,_,rfl,em,rfl⟩
  ·apply S4;exact Tf (SE (m_ (P_ rfl (Q_ (SN es (TL (dw ⟨rfl,rfl⟩)) rfl rfl rfl rfl)))))
  ·refine Sw (R_ (R_ (P_ rfl (P_ rfl (TM (xs:=L) ?_ rfl rfl)))));refine R_ (P_ rfl (P_ rfl (TM (xs:=L) ?_ rfl rfl)));exact TY (Sv ⟨rfl,rfl⟩) rfl rfl
  ·refine SG (m_ (SE (m_ (P_ rfl (m_ (P_ rfl (Q_ (SN (nZ r (by lia) L) ?_ rfl rfl rfl rfl))))))));exact Q_ (S3 (rX:=Dat.int) (xs:=e8 r L) (Sx ⟨rfl,rfl⟩) rfl)
 ·obtain⟨L,h1,h2,h3⟩:=go S s1 s2;have:=hle _ (Pw.mpr ⟨L,Qa.mpr ⟨h1,h2⟩,rfl⟩);rw[h3]at this;exact this
 ·obtain⟨L,h1,h2⟩:=Pw.mp hm;obtain⟨h3,h4⟩:=Qa.mp h1;rw[ff]at h2;cases ha:decide (a∈L) with
  |true=>
   refine⟨fun q=>decide (q∈L),ha,?_,h2⟩;rw[ha]at h4;cases hb:decide (b∈L) with
   |true=>rw[hb]at h4;cases h4
   |false=>exact hb
  |false=>
   refine⟨fun q=>!decide (q∈L),by show (!decide (a∈L))=true;rw[ha];rfl,?_,by rw[kZ];exact h2⟩;rw[ha]at h4;show (!decide (b∈L))=false;cases hb:decide (b∈L) with
   |true=>rfl
   |false=>rw[hb]at h4;cases h4
def Nb(o:Option RV)(d:Dat):Prop:=o=some (.new d)\/o=some (.val d)
theorem uG(n1:1<=n)(n10:n<=10)(h:Fit n r)(hl:r.length<=60){k:Nat} :
  ∃K,Nb (ur [.int n,aq r,.int k]) (aq K)/\KR r k r K:=by
 suffices q:Wr (ur [.int n,aq r,.int k]) fun v=>∃K,(v=.new (aq K)\/v=.val (aq K))/\KR r k r K by
  obtain⟨v,h1,K,h3 | h3,h2⟩:=q
  ·exact⟨K,.inl (by rw[h1,h3]),h2⟩
  ·exact⟨K,.inr (by rw[h1,h3]),h2⟩
 unfold ur
 (refine Dm.SI ?_ rfl rfl;and_intros)
 refine Ss (Sy (SG (m_ (P_ rfl (Q_ (Te (xs:=r.map aF) ?_ rfl))))) (by decide));refine SA ?_ (by trivial);refine Ss (SR (Tf (P_ rfl (Sx ⟨r.map aF,rfl,?_⟩))));refine SX aF _ _ r _ _ _ _ _ (fun p q ρ=>∃(K:List Tie) (c3 c4 c5:Cell),ρ=[.sh (.int n),.sh (aq r),.sh (.int k),c3,c4,c5]/\KR r k p K/\(c3=.ow (aq K)\/c3=.sh (aq K)))
  ⟨r,_,_,_,rfl,.start,.inl rfl⟩ ?_ ?_
 ·rintro p t q ρ e ⟨K,c3,c4,c5,rfl,hK,hc⟩;have ht:t∈r:=by rw[e];simp
  have hp:=h.pl t ht;have hs:=hK.kept.sub;have fK:=h.sub hs;have lK:K.length<=60:=PL hs.length_le hl;have lo:(outF K t).length<=60:=PL (QI _ _) lK;refine Dm.bK rfl (by trivial) ?_;unfold Cg;have first:∀{N:Env->Prop} {R:RV->Env->Prop} {B C:Env->Prop},N [.sh (.int n),.sh (aq r),.sh (.int k),c3,.sh (aF t),.ow (aq (outF K t))] ->
    Ws (sA 5 (aO 3 1 (bN 6) (tV (e2 gNe (eV 6) (eV 4))) (eV 6))) [.sh (.int n),.sh (aq r),.sh (.int k),c3,.sh (aF t),c5] N R B C:=fun kN=>by
   rcases hc with rfl | rfl
   ·refine Sy (Ve aF K (fun u=>decide (u≠t)) id aF ?_ rfl (by trivial) rfl (by decide) (by unfold SZ;lia) (fun u _=>?_) fun u _ _=>P_ rfl (Sx ⟨rfl,rfl⟩)) (by decide)
    ·refine SA ?_ (by trivial);rw[QE];exact kN
    ·exact Sw (R_ (P_ rfl (P_ rfl (Ud (Sv ⟨rfl,rfl⟩) rfl rfl))))
   ·refine Sy (TQ aF K (fun u=>decide (u≠t)) id aF (d:=aq K) ?_ rfl rfl rfl (by decide) (by unfold SZ;lia) (fun u _=>?_) fun u _ _=>P_ rfl (Sx ⟨rfl,rfl⟩)) (by decide)
    ·refine SA ?_ (by trivial);rw[QE];exact kN
    ·exact Sw (R_ (P_ rfl (P_ rfl (Ud (Sv ⟨rfl,rfl⟩) rfl rfl))))
  refine Ss (first ?_);have gone:(t.a=t.b\/∀S:Int->Bool,S t.a=true->S t.b=false->k<=aQ (outF K t) S)->∀{R:RV->Env->Prop} {B C:Env->Prop} {c5:Cell},(c5=.ow (aq (outF K t))\/c5=.sh (aq (outF K t))) ->
    Ws (sA 3 (eV 5)) [.sh (.int n),.sh (aq r),.sh (.int k),c3,.sh (aF t),c5]
     (fun ρ=>∃(K:List Tie) (c3 c4 c5:Cell),ρ=[.sh (.int n),.sh (aq r),.sh (.int k),c3,c4,c5]/\KR r k (p++[t]) K/\(c3=.ow (aq K)\/c3=.sh (aq K))) R B C:=fun hh {R B C c5} h5=>by
   rcases h5 with rfl | rfl
   ·refine Sy (Sz rfl (TX ?_ rfl (by trivial))) (by decide);exact⟨outF K t,_,_,_,rfl,.drop hK hh,.inr rfl⟩
   ·refine Sy (P_ rfl (SD ?_ (by trivial))) (by decide);exact⟨outF K t,_,_,_,rfl,.drop hK hh,.inr rfl⟩
  refine SM (SY (Sw (R_ (R_ (P_ rfl (Sq (Su ?_ rfl rfl rfl)))))));refine R_ (P_ rfl (Sq (Su ?_ rfl rfl rfl)));refine S1 (Sv ?_) rfl rfl;refine SW (fun Ko=>?_) fun Ko=>?_
  ·refine Tg rfl ?_;exact gone (.inl Ko) (.inl rfl)
  ·obtain⟨m,em,h1,S0,s1,s2,s3⟩:=CH n1 n10 (fK.out t).pl lo hp.1 hp.2.1 hp.2.2.1 hp.2.2.2 Ko;refine Sw (R_ (SE (m_ (P_ rfl (m_ (Sz rfl (m_ (R_ (P_ rfl (Sq (Su ?_ rfl rfl rfl)))))))))));refine m_ (R_ (P_ rfl (Sq (Su ?_ rfl rfl rfl))));refine Q_ (SO em ?_ rfl rfl);refine P_ rfl (Uo (Sv ?_) rfl rfl);refine SW (fun hm=>?_) fun hm=>?_
   ·exact gone (.inr fun S s1 s2=>by have:=h1 S s1 s2;lia) (.inl rfl)
   ·exact SK ⟨K,_,_,_,rfl,.keep hK Ko ⟨S0,s1,s2,by lia⟩,hc⟩
 ·rintro ρ ⟨K,c3,c4,c5,rfl,hK,hc⟩;rcases hc with rfl | rfl
  ·exact SH (Sz rfl (S9 ⟨K,.inl rfl,hK⟩ rfl))
  ·exact SH (P_ rfl ⟨K,.inr rfl,hK⟩)
theorem Nc{a e:FE}(h:We a ρ fun v ρ1=>We e ρ1 fun w ρ2=>∃xs k,w=.val (.int k)/\pk ρ2 v=some (.tup xs)/\Q (.val (.tup (cut xs (some k) none))) ρ2):We (wk a (some e) none) ρ Q:=by obtain⟨v,ρ1,e1,w,ρ2,e2,xs,k,rfl,e3,q⟩:=h;refine⟨_,_,?_,q⟩;unfold wk;rw[e1];dsimp only[part];rw[e2];dsimp only;rw[e3]
theorem Prd.gone{W:List (List (List Int))}{S:List (List Int)}(h:Prd n r k K W S):∀ws∈W,ws.length=k/\∀w∈ws,w.length<=60:=fun ws hw=>by obtain⟨t,_,hz⟩:=sF _ W h.wl ws hw;exact(h.ws _ hz).2
theorem Prd.side{W:List (List (List Int))}{S:List (List Int)}(h:Prd n r k K W S):∀x∈S,lZ n x=true/\x.length<=20:=fun x hx=>by obtain⟨t,_,hz⟩:=sF _ S h.sl x hx;obtain⟨h1,h2⟩:=h.ss _ hz;unfold qH at h1;rw[Pz]at h1;exact⟨h1.1,h2⟩
theorem Kq{ws:List (List Int)}(k6:k<=6)(h1:ws.length=k)(h2:∀w∈ws,w.length<=60):Few ws:=by
 refine⟨by lia,fun w hw=>by have:=h2 w hw;lia,?_⟩;have:=uC ws 60 h2;have:ws.length*60<=6*60:=Nat.mul_le_mul_right _ (by lia)
 lia
theorem UI{N:List Int}{K:RV->Prop}(k:K (.val (.bl true)))(ho:o=some (.lst (N.map Dat.int)))(hp:p=some (.lst (N.map Dat.int))):Wg2 gEq o p K:=
 ⟨_,_,_,ho,hp,by unfold gEq;rw[sy 7,eqD,e_,decide_eq_true rfl];rfl,k⟩
end
section
variable{n:Nat}(n1:1<=n)(n10:n<=10){r:List Tie}(hr:Good n 0 r)(hl:r.length<=60){k:Nat}(k6:k<=6){K:List Tie}{W:List (List (List Int))}{S:List (List Int)}(hP:Prd n r k K W S)
theorem Prd.good(hr:Good n 0 r)(hP:Prd n r k K W S):Good n 0 K:=by have:=hr.filter (fun t=>decide (t.m∈K.map (·.m)));rw[nY hP.kr.kept.sub hr.nd]at this;exact this
noncomputable def HE(n:Nat)(r K:List Tie)(k:Nat)(W:List (List (List Int)))(S:List (List Int))(c7 c8 c9 c10 c11:Cell):Env:=
 [.sh (.int (n:Nat)),.sh (aq r),.sh (aq K),.sh (.int (k:Nat)),.sh (.tup [.lst (W.map aR),.lst (S.map tupI)]),.sh (.lst (W.map aR)),.sh (.lst (S.map tupI)),c7,c8,c9,c10,c11]
theorem CI(n10:n<=10)(hr:Good n 0 r)(hl:r.length<=60)(k6:k<=6)(hP:Prd n r k K W S):uu [.int (n:Nat),aq r,aq K,.int (k:Nat),.tup [.lst (W.map aR),.lst (S.map tupI)]]=some (.val (.bl true)):=by
 have gK:=hP.good hr;have lK:K.length<=60:=PL hP.kr.kept.sub.length_le hl;have lG:(r.filter fun t=>!decide (t∈K)).length<=60:=PL (QI _ _) hl;have lW:=hP.wl;have lS:=hP.sl;apply SQ;unfold uu
 (refine Dm.SI ?_ rfl rfl;and_intros)
 refine Ss (Vb (P_ rfl (Sx ⟨_,_,rfl,rfl,?_⟩)));refine Ss (Sy (TQ aF r (fun t=>!decide (t∈K)) id aF (d:=aq r) ?_ rfl rfl rfl (by decide) (by unfold SZ;lia) (fun u _=>?_) fun u _ _=>P_ rfl (Sx ⟨rfl,rfl⟩)) (by decide))
 rotate_left
 ·exact Sw (R_ (P_ rfl (P_ rfl (UD (Sv ⟨rfl,rfl⟩) rfl rfl))))
 refine SA ?_ (by trivial);rw[QE];show Ws _ (HE n r K k W S (.ow (aq (r.filter fun t=>!decide (t∈K)))) .un .un .un .un) _ _ _ _;unfold HE;refine Ss (SM (SY (SS (Sw (Th (P_ rfl (S7 (v:=.val (.bl true)) (Sv (SJ ?_)) rfl rfl)))))));refine SY (SS (Sw (Th (P_ rfl (S7 (v:=.val (.bl true)) (Sv (SJ ?_)) rfl rfl)))));refine Sw (R_ (SG (m_ (P_ rfl (Q_ (S3 (rX:=aR) (xs:=W) ?_ rfl))))));refine SG (m_ (Sz rfl (Q_ (S3 (rX:=aF) (xs:=r.filter fun t=>!decide (t∈K)) ?_ rfl))));refine Tt (Sv ?_) rfl rfl;rw[jZ,decide_eq_true lW];refine SJ (SK ?_);refine Ss (SR ⟨((r.filter fun t=>!decide (t∈K)).zip W).map fun p=>.tup [aF p.1,aR p.2],HE n r K k W S (.sh (aq (r.filter fun t=>!decide (t∈K)))) .un .un .un .un,(by rw[<- nX];rfl),?_⟩);refine SX (fun p:Tie×List (List Int)=>Dat.tup [aF p.1,aR p.2]) _ _ ((r.filter fun t=>!decide (t∈K)).zip W) _ _ _ _ _ (fun p q ρ=>∃(c8 c9:Cell),ρ=HE n r K k W S (.sh (aq (r.filter fun t=>!decide (t∈K)))) c8 c9 .un .un) ⟨_,_,rfl⟩ ?_ ?_
 ·rintro p x q ρ e ⟨c8,c9,rfl⟩;have hx:x∈(r.filter fun t=>!decide (t∈K)).zip W:=by rw[e];simp
  obtain⟨h1,h2,h3⟩:=hP.ws x hx;have hw:=Kq k6 h2 h3;obtain⟨t,ws⟩:=x;dsimp only at h1 h2 h3 hw;rw[FY,decide_eq_true h2,Sg,Pz]at h1;unfold HE;refine Dm.bK rfl (by trivial) ?_;unfold Ci;refine Ss (SM (SY (SS (Sw (SE (m_ (P_ rfl (m_ (R_ (P_ rfl (Sq (Su (v:=.int t.a) ?_ rfl rfl rfl))))))))))));refine m_ (R_ (P_ rfl (Sq (Su (v:=.int t.b) ?_ rfl rfl rfl))));refine m_ (P_ rfl (Q_ (SO (FU gK lK t.a t.b ws hw) ?_ rfl rfl)));rw[h1.1];refine Sv (SJ ?_);refine Sw (R_ (SG (m_ (P_ rfl (Q_ (S3 (rX:=fun w:List Int=>Dat.lst (w.map Dat.int)) (xs:=ws) ?_ rfl))))));refine P_ rfl (Tt (Sv ?_) rfl rfl);rw[jZ,decide_eq_true h2];refine SJ (SK ?_);refine SM (TF (Sw (R_ (R_ (P_ rfl (Sq (Su (v:=.int t.a) ?_ rfl rfl rfl)))))));refine R_ (P_ rfl (Sq (Su (v:=.int t.b) ?_ rfl rfl rfl)));refine S1 (Sv ?_) rfl rfl;by_cases Ko:t.a=t.b
  ·rw[decide_eq_true Ko]at h1 ⊢;refine Tg rfl ?_;have hn:ws=d9 k:=by simpa using h1.2
   refine Sw (R_ (P_ rfl ?_));refine Ui (fun i:Nat=>Dat.int (0+(i:Nat))) (Pu k) (fun _=>Dat.lst []) id (ρ1:=HE n r K k W S (.sh (aq (r.filter fun t=>!decide (t∈K)))) (.sh (aF t)) (.sh (aR ws)) .un .un) ?_ ?_ rfl (by decide) (by rw[P1];unfold SZ;lia) fun i _=>?_
   ·rw[QE,Cz];refine U0 (N:=ws) (M:=d9 k) (Sv ?_) rfl rfl;rw[decide_eq_true hn];exact S5 rfl (SK ⟨_,_,rfl⟩)
   ·apply S4;refine To (P_ rfl (bP.mk ⟨⟨?_,rfl⟩,by unfold BIG;lia,by unfold BIG;lia⟩));rw[Rw];rfl
   ·exact S8 (Q_ (SV (TL ⟨rfl,rfl⟩) rfl rfl (by decide)))
  ·rw[decide_eq_false Ko];exact S5 rfl (S5 rfl (SK ⟨_,_,rfl⟩))
 rintro ρ ⟨c8,c9,rfl⟩;unfold HE;refine Ss (SM (SY (Sw (R_ (SG (m_ (P_ rfl (Q_ (S3 (rX:=tupI) (xs:=S) ?_ rfl)))))))));refine SG (m_ (P_ rfl (Q_ (S3 (rX:=aF) (xs:=K) ?_ rfl))));refine Tt (Sv ?_) rfl rfl;rw[jZ,decide_eq_true lS];refine SJ ?_;refine SS (Sw (SG (m_ (Tn tupI S (fun x=>lZ n x) Dat.bl (d:=.lst (S.map tupI)) ?_ rfl rfl rfl (by decide) (by unfold SZ;lia) fun x hx=>?_))))
 rotate_left
 ·exact SE (m_ (P_ rfl (m_ (P_ rfl (Q_ (SO (wU n x (by have:=(hP.side x hx).2;lia)) (Sx ⟨rfl,rfl⟩) rfl rfl))))))
 refine Q_ (Tz (fun x=>lZ n x) (xs:=S) ?_ (by rw[P7];rfl));have ha:(S.all fun x=>lZ n x)=true:=by rw[PY];exact fun x hx=>(hP.side x hx).1
 rw[ha];refine Sv (SJ (SK ?_));refine Ss (SR ⟨(K.zip S).map fun p=>.tup [aF p.1,tupI p.2],HE n r K k W S (.sh (aq (r.filter fun t=>!decide (t∈K)))) c8 c9 .un .un,(by rw[<- nX];rfl),?_⟩);refine SX (fun p:Tie×List Int=>Dat.tup [aF p.1,tupI p.2]) _ _ (K.zip S) _ _ _ _ _ (fun p q ρ=>∃(c8 c10 c11:Cell),ρ=HE n r K k W S (.sh (aq (r.filter fun t=>!decide (t∈K)))) c8 c9 c10 c11) ⟨_,_,_,rfl⟩ ?_ ?_
 ·rintro p x q ρ e ⟨c8,c10,c11,rfl⟩;have hx:x∈K.zip S:=by rw[e];simp
  obtain⟨h1,h2⟩:=hP.ss x hx;obtain⟨t,L⟩:=x;dsimp only at h1 h2;unfold qH at h1;rw[Pz,Pz]at h1;have m1:=of_decide_eq_true h1.2.1;have m2:=of_decide_eq_true h1.2.2;unfold HE;refine Dm.bK rfl (by trivial) ?_;unfold Cj;refine Ss (Sy (SE (m_ (P_ rfl (m_ (P_ rfl (Q_ (SN (nZ K (by lia) L) ?_ rfl rfl rfl rfl))))))) (by decide));refine SA ?_ (by trivial);refine SM (SY (Sw (R_ (R_ (P_ rfl (Sq (Su (v:=.int t.m) ?_ rfl rfl rfl)))))));refine Sz rfl (U4 (xs:=e8 K L) (Sv ?_) rfl rfl);rw[decide_eq_true m1];refine SJ ?_;refine Sw (R_ (SG (m_ (Sz rfl (Q_ (S3 (rX:=Dat.int) (xs:=e8 K L) ?_ rfl))))));refine P_ rfl (TU (Sv ?_) rfl rfl);refine SW (fun z=>?_) fun z=>?_
  ·exfalso;lia
  ·exact SK ⟨_,_,_,rfl⟩
 ·rintro ρ ⟨c8,c10,c11,rfl⟩;exact SH (Sq rfl)
theorem uH(n1:1<=n)(n10:n<=10)(hr:Good n 0 r)(hl:r.length<=60)(k6:k<=6)(hP:Prd n r k K W S):lR [.int (n:Nat),aq r,.int (k:Nat),dh (K.map (·.m)) W S]=some (.val (.bl true)):=by
 have h:Fit n r:=⟨by lia,hr.pl,hr.nd,by lia⟩
 obtain⟨K',eK,kr⟩:=uG n1 n10 h hl (k:=k);have:=hP.kr.det kr;subst this;have lK:K.length<=60:=PL hP.kr.kept.sub.length_le hl;have es:=CI n10 hr hl k6 hP;have BZ:∀ c4:Cell,(c4=.ow (aq K)∨c4=.sh (aq K))→Ws (aC (sIf (tOr (cA (tV (e1 (jH isT) (eV 3)))) (tOr (tV (e2 gNe (eB cD [(eV 3)]) (eC (.int 3)))) (cA (tV (eF qy [(e2 gIx (eV 3) (eC (.int 0)))]))))) (sR (eC (.bl false))) sNx)
  (sR (kD (e2 gEq (e2 gIx (eV 3) (eC (.int 0))) (aO 4 1 (bN 5) b_ (e2 gIx (eV 5) (eC (.int 0))))) (eF uu [(eV 0),(eV 1),(eV 4),(eV 2),(wk (eV 3) (some (eC (.int 1))) none)])))) [.sh (.int (n:Nat)),.sh (aq r),.sh (.int (k:Nat)),.sh (dh (K.map (·.m)) W S),c4]
   (fun _=>RV.val Dat.non=RV.val (.bl true)) (fun v _=>v=.val (.bl true)) (fun _=>False) (fun _=>False):=fun c4 h4=>by
  refine Ss (SM (SY (SS (Sw (Th (P_ rfl (S7 (v:=.val (.bl true)) (Sv (SJ ?_)) rfl rfl)))))));refine SY (Sw (R_ (SG (m_ (P_ rfl (Q_ ⟨_,_,rfl,(show cD [dh (K.map (·.m)) W S]=some (.val (.int 3)) from rfl),?_⟩))))));refine Sq (Tt (Sv ?_) rfl rfl);rw[show (!decide ((3:Int)=3))=false from rfl];refine SJ ?_;refine SS (Sw (SE (m_ (R_ (P_ rfl (Sq (Su (v:=.lst ((K.map (·.m)).map Dat.int)) ?_ rfl rfl rfl)))))));refine Q_ (SO (iD (K.map (·.m)) (by rw[Pg];lia)) (Sv (SJ (SK ?_))) rfl rfl);refine SH (TJ (R_ (R_ (P_ rfl (Sq (Su (v:=.lst ((K.map (·.m)).map Dat.int)) ?_ rfl rfl rfl))))));rcases h4 with rfl | rfl
  ·refine Uv aF K (·.m) Dat.int ?_ rfl (by trivial) rfl (by decide) (by unfold SZ;lia) fun t ht=>?_
   ·refine UI (N:=K.map (·.m)) ?_ rfl rfl;refine Sv (S2 ?_);refine SE (m_ (P_ rfl (m_ (P_ rfl (m_ (Sz rfl (m_ (P_ rfl (m_ (Nc (P_ rfl (Sq ⟨_,_,rfl,rfl,Q_ (SO es rfl rfl rfl)⟩))))))))))))
   ·exact R_ (P_ rfl (Sq (Su (Sx ⟨rfl,rfl⟩) rfl rfl rfl)))
  ·refine Tn aF K (·.m) Dat.int (d:=aq K) ?_ rfl rfl rfl (by decide) (by unfold SZ;lia) fun t ht=>?_
   ·refine UI (N:=K.map (·.m)) ?_ rfl rfl;refine Sv (S2 ?_);refine SE (m_ (P_ rfl (m_ (P_ rfl (m_ (P_ rfl (m_ (P_ rfl (m_ (Nc (P_ rfl (Sq ⟨_,_,rfl,rfl,Q_ (SO es rfl rfl rfl)⟩))))))))))))
   ·exact R_ (P_ rfl (Sq (Su (Sx ⟨rfl,rfl⟩) rfl rfl rfl)))
 apply SQ;unfold lR
 (refine Dm.SI ?_ rfl rfl;and_intros)
 rcases eK with eK | eK
 ·refine Ss (Sy (SE (m_ (P_ rfl (m_ (P_ rfl (m_ (P_ rfl (Q_ (SN eK ?_ rfl rfl rfl rfl))))))))) (by decide));exact SA (BZ _ (.inl rfl)) (by trivial)
 ·refine Ss (Sy (SE (m_ (P_ rfl (m_ (P_ rfl (m_ (P_ rfl (Q_ (SN eK ?_ rfl rfl rfl rfl))))))))) (by decide));exact SD (BZ _ (.inr rfl)) (by trivial)
end
section
variable{o p:Option Dat}{ws:List (List Int)}{Q:Val->Env->Prop}{r:List Tie}{K:RV->Prop}{i:Nat}{n:Nat}{α:Type}{d:Dat}{j:Nat}{ρ:Env}{k:Nat}
theorem qN:∀W:List (List (List Int)),cU (W.map aR) (W.map aR)=true
 |[]=>rfl
 |ws::W=>by rw[gc,cU,qN W];unfold aR;rw[eqD,lg,decide_eq_true rfl];rfl
theorem iR:∀S:List (List Int),cU (S.map tupI) (S.map tupI)=true
 |[]=>rfl
 |s::S=>by rw[gc,cU,iR S];unfold tupI;rw[eqD,e_,decide_eq_true rfl];rfl
theorem z_(M:List Int):okD 7 (.lst (M.map Dat.int))=true:=sy 6 M
theorem Aa(M:List Int)(W:List (List (List Int)))(S:List (List Int))(k:K (.val (.bl false)))(ho:o=some (dh M W S))(hp:p=some (dh M W S)):Wg2 gNe o p K:=by
 refine⟨_,_,_,ho,hp,?_,k⟩;have e:eqD (dh M W S) (dh M W S)=true:=by unfold dh;rw[eqD,cU,cU,cU,cU,eqD,eqD,eqD,e_,qN,iR,decide_eq_true rfl];rfl
 have w:okD 7 (.lst (W.map aR))=true:=by unfold okD;rw[PY];intro d hd;obtain⟨x,_,rfl⟩:=Pw.mp hd;exact sC 4 x
 have s:okD 7 (.lst (S.map tupI))=true:=by unfold okD;rw[PY];intro d hd;obtain⟨x,_,rfl⟩:=Pw.mp hd;unfold tupI okD;rw[PY];intro d hd;obtain⟨y,_,rfl⟩:=Pw.mp hd;unfold okD;rfl
 have ok:okD 8 (dh M W S)=true:=by unfold dh okD;rw[Rb,Rb,Rb,z_ M,w,s];rfl
 unfold gNe;rw[ok,e];rfl
theorem wW(S:List (List Int))(k:K (.val (.bl false)))(ho:o=some (.lst (S.map tupI)))(hp:p=some (.lst (S.map tupI))):Wg2 gNe o p K:=by
 refine⟨_,_,_,ho,hp,?_,k⟩;have e:eqD (.lst (S.map tupI)) (.lst (S.map tupI))=true:=by rw[eqD];exact iR S
 have ok:okD 8 (.lst (S.map tupI))=true:=by unfold okD;rw[PY];intro d hd;obtain⟨x,_,rfl⟩:=Pw.mp hd;unfold tupI okD;rw[PY];intro d hd;obtain⟨y,_,rfl⟩:=Pw.mp hd;unfold okD;rfl
 unfold gNe;rw[ok,e];rfl
theorem uI(M:List Int)(W:List (List (List Int)))(S:List (List Int))(hM:M.length<=60)(hW:W.length<=60)(hw:∀ws∈W,ws.length<=60):bR [dh M W S]=some (f9 M W S):=by
 suffices q:∃p,bR [dh M W S]=some p/\p=f9 M W S by obtain⟨p,e1,rfl⟩:=q;exact e1
 unfold bR;refine Tv ?_ rfl rfl;and_intros;unfold dh;refine Tq (T_ (Wpa.cons (Tp (ds:=M.map Dat.int) (SG (m_ (R_ (P_ rfl (Sq (Su (v:=.lst (M.map Dat.int)) ?_ rfl rfl rfl)))))))));refine Q_ (Te (xs:=M.map Dat.int) ⟨rfl,?_⟩ rfl);refine Wpa.cons (Tu aR W bh (fun ρ=>∃c',ρ=[.sh (.tup [.lst (M.map Dat.int),.lst (W.map aR),.lst (S.map tupI)]),c']) (ρ1:=[.sh (.tup [.lst (M.map Dat.int),.lst (W.map aR),.lst (S.map tupI)])]) ?_ (by unfold SZ;lia) ⟨_,rfl⟩ ?_ ?_)
 ·apply S4;exact Tf (R_ (P_ rfl (Sq (Su (v:=.lst (W.map aR)) (Sx (dw ⟨rfl,rfl⟩)) rfl rfl rfl))))
 ·rintro ws hws ρ ⟨c',rfl⟩;refine⟨[.sh (.tup [.lst (M.map Dat.int),.lst (W.map aR),.lst (S.map tupI)]),.sh (aR ws)],rfl,?_⟩;refine Tu (fun w:List Int=>Dat.lst (w.map Dat.int)) ws j_ (fun ρ=>∃c',ρ=[.sh (.tup [.lst (M.map Dat.int),.lst (W.map aR),.lst (S.map tupI)]),.sh (aR ws),c']) (ρ1:=[.sh (.tup [.lst (M.map Dat.int),.lst (W.map aR),.lst (S.map tupI)]),.sh (aR ws)]) ?_ (by have:=hw ws hws;unfold SZ;lia) ⟨_,rfl⟩ ?_ ?_
  ·apply S4;exact Tf (P_ rfl (Sx (dw ⟨rfl,rfl⟩)))
  ·rintro w _ ρ ⟨c',rfl⟩;refine⟨[.sh (.tup [.lst (M.map Dat.int),.lst (W.map aR),.lst (S.map tupI)]),.sh (aR ws),.sh (.lst (w.map Dat.int))],rfl,?_⟩;exact Tp (ds:=w.map Dat.int) (SG (m_ (P_ rfl (Q_ (Te (xs:=w.map Dat.int) ⟨rfl,rfl,_,rfl⟩ rfl)))))
  ·rintro ρ2 ⟨c',rfl⟩;exact⟨rfl,_,rfl⟩
 ·rintro ρ2 ⟨c',rfl⟩;refine Wpa.cons (Tp (ds:=S.map tupI) (SG (m_ (R_ (P_ rfl (Sq (Su (v:=.lst (S.map tupI)) ?_ rfl rfl rfl)))))));exact Q_ (Te (xs:=S.map tupI) ⟨rfl,Wpa.nil ⟨by exact P8 rfl,rfl⟩⟩ rfl)
noncomputable def EE(M:List Int)(W:List (List (List Int)))(S:List (List Int))(c4 c5:Cell):Env:=[.un,.sh (.lst (M.map Dat.int)),.sh (.lst (W.map aR)),.sh (.lst (S.map tupI)),c4,c5]
noncomputable def GE(D:List Dat)(M:List Int)(W:List (List (List Int)))(S:List (List Int))(c4 c5:Cell):Env:=[.sh (.tup D),.sh (.lst (M.map Dat.int)),.sh (.lst (W.map aR)),.sh (.lst (S.map tupI)),shC c4,shC c5]
theorem sI(x0 x2:Dp)(rows:List Dp)(M:List Int)(W:List (List (List Int)))(S:List (List Int))(c4 c5:Cell):see 0 (EE M W S c4 c5) (.t [x0,.l rows,x2])=GE [x0.dat,.lst (rows.map Dp.dat),x2.dat] M W S c4 c5:=by rw[<- Dp.dQ];rfl
theorem g9{n i:Nat}(h:i<n):ixN n (0+(i:Nat))=some i:=by
 unfold ixN;rw[if_pos (by lia),if_pos (by lia)]
 congr 1
 lia
theorem uJ{ds:List Dat}(h:ds[i]?=some d):gIx (.lst ds) (.int (0+(i:Nat)))=some (.val d):=by unfold gIx atI;obtain⟨h1,h2⟩:=Ph.mp h;dsimp only;rw[g9 h1];simp[h]
theorem uK{m i:Nat}{l q:List Nat}(e:Pu m=l++i::q):i=l.length/\i<m:=by
 have h1:(Pu m)[l.length]?=some i:=by rw[e,P5 (Pj _),RB];rfl
 obtain⟨h2,h3⟩:=Ph.mp h1;rw[List.getElem_range]at h3;rw[P1]at h2;exact⟨h3.symm,by lia⟩
noncomputable def dS(ws:List (List Int))(j:Nat):List Dp:=((ws.take j).map fun w=>j_ (w++[-1]))++(ws.drop j).map j_
theorem F3(ws:List (List Int))(j:Nat):(dS ws j).length=ws.length:=by
 unfold dS;rw[Pr,Pg,Pg,P9,Q4]
 lia
theorem ext_get(h:j<ws.length):(dS ws j)[j]?=some (j_ ws[j]):=by unfold dS;rw[P5 (by rw[Pg,P9];lia),Pg,P9,Nat.min_eq_left (by lia),RB,Py,List.getElem?_drop,Nat.add_zero,Pp h];rfl
theorem F4(h:j<ws.length)(hs:∀w∈ws,w.length<=60):nK (dS ws j) (0+(j:Nat)) (.int (-1))=some (dS ws (j+1)):=by
 unfold nK;rw[g9 (by rw[F3];exact h)];dsimp only;rw[ext_get h];unfold j_;dsimp only;have hj:=hs ws[j] (Rx _);rw[if_pos (by rw[Pg,Pg];unfold SZ;lia)]
 congr 1
 unfold dS;have ht:ws.take (j+1)=ws.take j++[ws[j]]:=by rw[List.take_succ,Pp h];rfl
 rw[ht,Qk h,PF,gc,QA _ _ (by rw[Pg,P9];lia),Pg,P9,Nat.min_eq_left (by lia),RB,List.set_cons_zero,QO]
 congr 1
 show _::_=_::_
 congr 1
 show Dp.l _=j_ (ws[j]++[-1]);unfold j_;rw[PF,PF];rfl
theorem kg(pre post:List α)(x y:α)(h:pre.length=i):(pre++x::post).set i y=pre++y::post/\(pre++x::post)[i]?=some x:=by subst h;rw[QA _ _ (Pj _),P5 (Pj _),RB];exact⟨rfl,rfl⟩
theorem CJ{M:List Int}{W:List (List (List Int))}{S:List (List Int)}(x0 x2:Dp)(pre post:List Dp){i:Nat}(hi:pre.length=i){ws:List (List Int)}(hw:W[i]?=some ws)(hl:ws.length<=60)(hs:∀w∈ws,w.length<=60)(c5:Cell){N:Env->Dp->Prop}{R:Dat->Env->Prop}
  (k:∀c5,N (EE M W S (.sh (.int (0+(i:Nat)))) c5) (.t [x0,.l (pre++.l (dS ws ws.length)::post),x2])) :
  Wc (ua (iR1 (eB cD [(e2 gIx (eV 2) (eV 4))])) (bN 5) wG) (EE M W S (.sh (.int (0+(i:Nat)))) c5) (.t [x0,.l (pre++bh ws::post),x2]) N R:=by
 have hwD:(W.map aR)[i]?=some (aR ws):=by rw[Py,hw];rfl
 refine UL (ds:=(Pu ws.length).map fun i:Nat=>Dat.int (0+(i:Nat))) (ρ1:=EE M W S (.sh (.int (0+(i:Nat)))) c5) ?_ ?_
 ·apply S4;unfold EE;refine To (SG (m_ (R_ (P_ rfl (P_ rfl (Su (v:=aR ws) ?_ rfl rfl (uJ hwD)))))));refine Q_ (S3 (rX:=fun w:List Int=>Dat.lst (w.map Dat.int)) (xs:=ws) (bP.mk ⟨⟨?_,rfl⟩,by unfold BIG;lia,by unfold BIG;lia⟩) rfl);rw[Rw];rfl
 refine UM (fun i:Nat=>Dat.int (0+(i:Nat))) _ _ (Pu ws.length) (fun l q ρ p=>∃c5,ρ=EE M W S (.sh (.int (0+(i:Nat)))) c5/\p=.t [x0,.l (pre++.l (dS ws l.length)::post),x2]) ⟨c5,rfl,?_⟩ ?_ ?_
 ·show _=Dp.t [x0,.l (pre++.l (dS ws 0)::post),x2];rfl
 ·rintro l j q ρ p e ⟨c5,rfl,rfl⟩;obtain⟨el,hj⟩:=uK e;rw[<- el];refine⟨EE M W S (.sh (.int (0+(i:Nat)))) (.sh (.int (0+(j:Nat)))),rfl,?_⟩;unfold wG;refine UK (Vl ?_ (sI x0 x2 _ M W S _ _));unfold GE;have r1:((pre++Dp.l (dS ws j)::post).map Dp.dat)[i]?=some (Dp.dat (.l (dS ws j))):=by rw[Py,(kg pre post _ (.l []) hi).2];rfl
  have r2:gIx (Dp.dat (.l (dS ws j))) (.int (0+(j:Nat)))=some (.val (.lst (ws[j].map Dat.int))):=by unfold Dp.dat;rw[Dp.dQ];refine uJ ?_;rw[Py,ext_get hj];show some (Dp.dat (j_ _))=_;rw[yE]
  have r3:gIx (aR ws) (.int (0+(j:Nat)))=some (.val (.lst (ws[j].map Dat.int))):=by unfold aR;refine uJ ?_;rw[Py,Pp hj];rfl
  refine Sw (R_ (R_ (R_ (R_ (P_ rfl (Sq (Su (v:=.lst ((pre++Dp.l (dS ws j)::post).map Dp.dat)) ?_ rfl rfl rfl)))))));refine P_ rfl (Su ?_ rfl rfl (uJ r1));refine P_ rfl (Su ?_ rfl rfl r2);refine R_ (R_ (P_ rfl (P_ rfl (Su (v:=aR ws) ?_ rfl rfl (uJ hwD)))));refine P_ rfl (Su ?_ rfl rfl r3);refine UX (N:=ws[j]) (M:=ws[j]) (Sv (S5 (by rw[decide_eq_true rfl];rfl) (Vi ?_))) rfl rfl;refine Vf (rows:=pre++.l (dS ws j)::post) (ways:=dS ws j) (qu:=dS ws (j+1)) (m0:=1) (m1:=i) (k1:=0+(i:Nat)) (k2:=0+(j:Nat)) (d:=.int (-1)) ?_ ?_ ?_ ?_ (sI x0 x2 _ M W S _ _) rfl rfl (g9 (by rw[Pr,hi,PR];lia)) (kg pre post _ (.l []) hi).2 rfl (F4 hj hs)
  ·exact P_ rfl rfl
  ·exact P_ rfl rfl
  ·exact Th (Sq (S7 rfl rfl rfl))
  ·refine⟨_,rfl,?_⟩;show Dp.t [x0,.l ((pre++.l (dS ws j)::post).set i (.l (dS ws (j+1)))),x2]=_;rw[(kg pre post _ (.l (dS ws (j+1))) hi).1,Pr,<- el];rfl
 ·rintro ρ p ⟨c5,rfl,rfl⟩;rw[P1];exact k c5
theorem wX(M:List Int)(W:List (List (List Int)))(S:List (List Int))(hM:M.length<=60)(hW:W.length<=60)(hw:∀ws∈W,ws.length<=60/\∀w∈ws,w.length<=60):qz (f9 M W S) []=some (.bl true):=by
 unfold qz;refine fnE.mk (ρ:=[.un,.un,.un,.un,.un,.un]) ?_ rfl rfl rfl;refine Tw (Vm (qs:=[.l ((M.map Dat.int).map .s),.l (W.map bh),.l ((S.map tupI).map .s)]) (ρ2:=EE M W S .un .un) (ρ':=[.sh (dh M W S),.un,.un,.un,.un,.un]) (S6 (m_ (P_ rfl (Q_ ⟨_,_,_,uI M W S hM hW (fun ws h=>(hw ws h).1),rfl,rfl⟩)))) ?_ ?_ ?_ ?_ rfl)
 ·refine Tw (UB (xs:=[.l ((M.map Dat.int).map .s),.l (W.map bh),.l ((S.map tupI).map .s)]) (rows:=(M.map Dat.int).map .s) ?_ rfl);show Wm _ _ (.t [.l [],.l (W.map bh),.l ((S.map tupI).map .s)]) _ _ _ _;have h2:(Dp.l ((S.map tupI).map .s)).dat=.lst (S.map tupI):=by unfold Dp.dat;rw[Dp.kR]
  refine Tw (UL (ds:=(Pu W.length).map fun i:Nat=>Dat.int (0+(i:Nat))) (ρ1:=EE M W S .un .un) ?_ ?_)
  ·apply S4;unfold EE;refine To (SG (m_ (P_ rfl (Q_ (S3 (rX:=aR) (xs:=W) (bP.mk ⟨⟨?_,rfl⟩,by unfold BIG;lia,by unfold BIG;lia⟩) rfl)))));rw[Rw];rfl
  refine UM (fun i:Nat=>Dat.int (0+(i:Nat))) _ _ (Pu W.length) (fun l q ρ p=>∃c4 c5,ρ=EE M W S c4 c5/\p=.t [.l [],.l (gV l.length (.l [])++(W.drop l.length).map bh),.l ((S.map tupI).map .s)]) ⟨_,_,rfl,rfl⟩ ?_ ?_
  ·rintro l i q ρ p e ⟨c4,c5,rfl,rfl⟩;obtain⟨el,hi⟩:=uK e;have hg:W[i]?=some W[i]:=Pp hi;obtain⟨h60,hs⟩:=hw W[i] (Rx _);rw[<- el,Qk hi,gc];refine⟨EE M W S (.sh (.int (0+(i:Nat)))) c5,rfl,?_⟩;unfold Ck;have hp:(gV i (Dp.l [])).length=i:=Qz;refine UK (CJ (.l []) (.l ((S.map tupI).map .s)) (gV i (.l [])) ((W.drop (i+1)).map bh) hp hg h60 hs c5 fun c5=>?_);refine Vq (rows:=gV i (.l [])++.l (dS W[i] W[i].length)::(W.drop (i+1)).map bh) (items:=dS W[i] W[i].length) (m0:=1) (m:=i) (k:=0+(i:Nat)) ?_ ?_ (sI _ _ _ M W S _ _) rfl rfl (g9 (by rw[Pr,hp,PR];lia)) (kg _ _ _ (.l []) hp).2
   ·exact P_ rfl rfl
   ·refine⟨_,_,rfl,?_⟩;show Dp.t [.l [],.l ((gV i (Dp.l [])++Dp.l (dS W[i] W[i].length)::(W.drop (i+1)).map bh).set i (Dp.l [])),_]=_;rw[(kg _ _ _ (.l []) hp).1,Pr,<- el];show Dp.t [.l [],.l (gV i (.l [])++.l []::_),_]=Dp.t [.l [],.l (gV (i+1) (.l [])++_),_];rw[List.replicate_succ',QO];rfl
  ·rintro ρ p ⟨c4,c5,rfl,rfl⟩;refine US (ρ':=GE [.lst [],.lst ((gV (Pu W.length).length (Dp.l [])++(W.drop (Pu W.length).length).map bh).map Dp.dat),.lst (S.map tupI)] M W S c4 c5) ?_ ?_ ?_
   ·unfold GE;refine Sw (R_ (R_ (P_ rfl (Sq (Su (v:=.lst (S.map tupI)) ?_ rfl rfl rfl)))));exact P_ rfl (wW S (Sv rfl) rfl rfl)
   ·refine Tw (UB (xs:=[.l [],.l (gV (Pu W.length).length (Dp.l [])++(W.drop (Pu W.length).length).map bh),.l ((S.map tupI).map .s)]) ?_ rfl);exact U3 (m:=2) (SH (Sq rfl)) rfl rfl
   ·rw[sI,h2];rfl
 ·show [Cell.sh (f9 M W S).dat,.un,.un,.un,.un,.un]=_;rw[gU]
 ·have:=lu M W S;unfold f9 aK at this;exact this
 ·rw[Dp.dQ];show sets [1,2,3] [Dp.dat (.l ((M.map Dat.int).map .s)),Dp.dat (.l (W.map bh)),Dp.dat (.l ((S.map tupI).map .s))] _=_;have h1:(Dp.l ((M.map Dat.int).map .s)).dat=.lst (M.map Dat.int):=by unfold Dp.dat;rw[Dp.kR]
  have h2:(Dp.l ((S.map tupI).map .s)).dat=.lst (S.map tupI):=by unfold Dp.dat;rw[Dp.kR]
  rw[h1,h2,yF];rfl
theorem ix2(i:Int)(h0:0<=i)(h:i<2):∃v:Int,gIx (.lst [.int 3,.int 6]) (.int i)=some (.val (.int v))/\1<=v/\v<=6:=by
 have:i=0\/i=1:=by lia
 rcases this with rfl | rfl<;>exact⟨_,rfl,by decide,by decide⟩
theorem ix4(a b c d:Int)(i:Int)(h0:0<=i)(h:i<4)(P:Int->Prop)(ha:P a)(hb:P b)(hc:P c)(hd:P d):∃v:Int,gIx (.lst [.int a,.int b,.int c,.int d]) (.int i)=some (.val (.int v))/\P v:=by
 have:i=0\/i=1\/i=2\/i=3:=by lia
 rcases this with rfl | rfl | rfl | rfl
 ·exact⟨a,rfl,ha⟩
 ·exact⟨b,rfl,hb⟩
 ·exact⟨c,rfl,hc⟩
 ·exact⟨d,rfl,hd⟩
theorem Hg{rX:α->Dat}{xs:List α}{a:FE}{lo hi:Option FE}{l h:Option Int}(ha:We a ρ fun x ρ1=>ρ1=ρ/\pk ρ x=some (.lst (xs.map rX)))(hl:part lo ρ=some (l,ρ))(hh:part hi ρ=some (h,ρ))(q:Q (.new (.lst ((ud xs l h).map rX))) ρ):We (eSl a lo hi) ρ Q:=by obtain⟨x,ρ1,e,rfl,hx⟩:=ha;exact UU ⟨x,_,e,l,_,hl,h,_,hh,Wsl.A (rX:=rX) (xs:=xs) q hx⟩
theorem CK(r:List Tie)(i:Int)(h0:0<=i)(h1:i<r.length):ud r none (some i)=r.take i.toNat:=by
 have e:sIx r.length r.length (some i)=i.toNat:=by show (if i<0 then max (i+(r.length:Int)) 0 else min i (r.length:Int)).toNat=_;rw[if_neg (by lia)];lia
 unfold ud;rw[e];rfl
theorem CL(r:List Tie)(i:Int)(h0:0<=i)(h1:i<r.length):ud r (some (i+1)) none=r.drop (i.toNat+1):=by
 have e:sIx r.length 0 (some (i+1))=i.toNat+1:=by show (if i+1<0 then max (i+1+(r.length:Int)) 0 else min (i+1) (r.length:Int)).toNat=_;rw[if_neg (by lia)];lia
 unfold ud;rw[e];apply List.take_of_length_le;rw[Q4];exact Pj _
theorem Kr(r:List Tie):eqD (aq r) (aq r)=true:=by
 unfold aq;rw[eqD]
 induction r with
 |nil=>rfl
 |cons b bs ih=>rw[gc,cU,ih];simp[aF,eqD,cU]
theorem U_{Q:RV->Prop}(hk:okD 8 d=true)(he:eqD d d=true)(k:Q (.val (.bl false)))(ho:o=some d)(hp:p=some d):Wg2 gNe o p Q:=
 ⟨_,_,_,ho,hp,by unfold gNe;rw[hk,he];rfl,k⟩
theorem Vp{e:FE}{ds0:List Dat}(h:We e ρ fun v ρ1=>bP v fun j=>∃ds d ρ2,ρ1[i]?=some (.ow (.lst ds))/\(0<=j/\j<=BIG)/\ds[j.toNat]?=some d/\ρ1.set i (.ow (.lst (ds.eraseIdx j.toNat)))=ρ2/\Q (.val d) ρ2)(h0:ρ[i]?=some (.ow (.lst ds0))):We (dO i e) ρ Q:=by obtain⟨v,ρ1,h1,j,rfl,ds,d,ρ2,h2,h3,h4,h5,q⟩:=h;refine⟨_,_,?_,q⟩;unfold dO;rw[h0];dsimp only;rw[h1];dsimp only;rw[h2];dsimp only;rw[if_pos h3,h4];dsimp only;rw[h5]
theorem CM(r:List Tie):okD 8 (aq r)=true:=BY aF r fun t=>rfl
noncomputable def PE(ns:List Int)(x:Int)(n:Nat)(at_:Int)(k:Nat)(c5 c6 c7 c8 c9:Cell):Env:=
 [.sh (.lst (ns.map Dat.int)),.ow (bL x),.sh (.int n),.sh (.int at_),.sh (.int k),c5,c6,c7,c8,c9]
theorem wY{n:Int}(hr:Good n 0 r)(i:Nat):Good n 0 (r.take i++r.drop (i+1)):=by
 have:∀{r:List Tie} {lo:Int} (i:Nat),Good n lo r->Good n lo (r.take i++r.drop (i+1)):=fun {r}=>by
  induction r with
  |nil=>intro lo i h;simpa using h
  |cons t r ih=>
   intro lo i h;cases i with
   |zero=>show Good n lo (r.drop 0);rw[List.drop_zero];obtain⟨h1,h2,h3,h4,h5⟩:=h;exact h5.weak (by lia)
   |succ i=>obtain⟨h1,h2,h3,h4,h5⟩:=h;exact⟨h1,h2,h3,h4,ih i h5⟩
 exact this i hr
theorem F5(aH aW:Nat){ns:List Int}{at_:Int}(n1:1<=n)(n10:n<=10)(hg:Good n 0 r)(hl:r.length<=60)(k1:1<=k)(k6:k<=6)(x2:Int)(D:Dat)(c9:Cell){B C:Env->Prop}{R:RV->Env->Prop}{N:Env->Prop}
  (k':∀c1 c4 c5 c6 c7 c8 c9:Cell,N [.sh (.lst (ns.map Dat.int)),c1,.sh (.int n),.sh (.int at_),c4,c5,c6,c7,c8,c9]) :
  Ws (sIf (tV (e2 gNe (eV 5) (cT []))) (aC (sA 9 (eFm b7 1 [(eB cD [(eV 5)])]))
  (aC (sE (dO 6 (eV 9)))
  (sIf (cA (tV (eF lR [(eV 2),(e2 cj (eSl (eV 5) none (some (eV 9))) (eSl (eV 5) (some (e2 cj (eV 9) (eC (.int 1)))) none)),(eV 4),(eFT (bQ aH aW) [(eV 2),(eV 6),(eV 4)])]))) (sR (eC (.bl false))) sNx))) sNx) (PE ns x2 n at_ k (.ow (aq r)) (.ow (aq r)) .un (.sh D) c9) N R B C:=by
 unfold PE;refine SM (Sw (R_ (Sz rfl (S8 (Q_ (SV (UA (xs:=r.map aF) (Sv ?_) rfl rfl (CM r)) rfl rfl (by decide)))))));cases hr0:r with
 |nil=>exact S5 rfl (SK (k' _ _ _ _ _ _ _))
 |cons t0 r0=>
  rw[<- hr0];refine Tg (by rw[hr0];rfl) ?_;have pos:0<r.length:=by rw[hr0];simp
  have lm:(r.map aF).length=r.length:=Pg ..;refine Ss (Sy ?_ (by decide));refine TN (SG (m_ (Sz rfl (Q_ (S3 (rX:=aF) (xs:=r) (bP.mk ?_) rfl))))) rfl;refine mJ ?_ rfl rfl (by lia) (by unfold jJ;lia);have hi:=dD x2 r.length (by lia)
  generalize x2 % (r.length:Int)=g at hi ⊢
  refine SD ?_ (by trivial);have hgN:g.toNat<r.length:=by lia
  refine Ss (T4 (Vp (P_ rfl (bP.mk ⟨_,aF r[g.toNat],_,rfl,⟨hi.1,by unfold BIG;lia⟩,?_,rfl,?_⟩)) rfl))
  ·rw[Py,Pp hgN];rfl
  have er:(r.map aF).eraseIdx g.toNat=(r.take g.toNat++r.drop (g.toNat+1)).map aF:=by rw[List.eraseIdx_eq_take_drop_succ,PF,List.map_take,List.map_drop]
  have hg':=wY hg g.toNat;have hl':(r.take g.toNat++r.drop (g.toNat+1)).length<=60:=by rw[Pr,P9,Q4];lia
  obtain⟨K',W',S',eP',hP'⟩:=qJ aH aW n10 hg' hl' k1 k6;have e6:([.sh (.lst (ns.map Dat.int)),.ow (bL (x2 / r.length)),.sh (.int n),.sh (.int at_),.sh (.int k),.ow (aq r),.ow (aq r),.un,.sh D,.sh (.int g)]:Env).set 6 (.ow (.lst ((r.map aF).eraseIdx g.toNat)))=[.sh (.lst (ns.map Dat.int)),.ow (bL (x2 / r.length)),.sh (.int n),.sh (.int at_),.sh (.int k),.ow (aq r),.ow (aq (r.take g.toNat++r.drop (g.toNat+1))),.un,.sh D,.sh (.int g)]:=by rw[er];rfl
  show Ws _ ([.sh (.lst (ns.map Dat.int)),.ow (bL (x2 / r.length)),.sh (.int n),.sh (.int at_),.sh (.int k),.ow (aq r),.ow (aq r),.un,.sh D,.sh (.int g)].set 6 (.ow (.lst ((r.map aF).eraseIdx g.toNat)))) _ _ _ _;rw[e6];refine SM (SS (Sw (SE (m_ (P_ rfl (m_ (R_ ?_)))))));refine Hg (rX:=aF) (xs:=r) (l:=none) (h:=some g) (Sz rfl ⟨rfl,rfl⟩) rfl rfl ?_;refine Hg (rX:=aF) (xs:=r) (l:=some (g+1)) (h:=none) (Sz rfl ⟨rfl,rfl⟩) rfl rfl ?_;rw[CK r g hi.1 hi.2,CL r g hi.1 hi.2];refine Uc ?_ rfl rfl (by rw[Pg,Pg,P9,Q4];unfold SZ;lia);rw[<- PF];refine m_ (P_ rfl (m_ (UT (m_ (P_ rfl (m_ (Sz rfl (m_ (P_ rfl (Q_ ⟨_,_,eP',rfl,lu _ _ _,?_⟩))))))))));rw[gU];refine Q_ (SO (uH n1 n10 hg' hl' k6 hP') ?_ rfl rfl);exact Sv (SJ (SK (k' _ _ _ _ _ _ _)))
theorem Ku(aH aW:Nat){ns:List Int}{at_:Int}(n1:1<=n)(n10:n<=10)(hg:Good n 0 r)(hl:r.length<=60)(k1:1<=k)(k6:k<=6)(x2:Int)(c6 c7 c8 c9:Cell){B C:Env->Prop}{R:RV->Env->Prop}{N:Env->Prop}
  (k':∀c1 c4 c5 c6 c7 c8 c9:Cell,N [.sh (.lst (ns.map Dat.int)),c1,.sh (.int n),.sh (.int at_),c4,c5,c6,c7,c8,c9]) :
  Ws (aC (sA 6 (eB gu [(eV 5)]))
  (iM 7 (bQ aH aW) [(eV 2),(eV 6),(eV 4)]
  (mIf 7 (cA (tV (eF lR [(eV 2),(eV 5),(eV 4),(eV 7)]))) (sR (eC (.bl false)))
  (mq (nJ 7 8 (dg bR [(eV 7)]))
  (wu 7 qz [] (tOr (tV (e2 gNe (eFT (bQ aH aW) [(eV 2),(eV 6),(eV 4)]) (eV 8))) (tV (e2 gNe (eV 6) (eV 5)))) (sR (eC (.bl false)))
  (sIf (tV (e2 gNe (eV 5) (cT []))) (aC (sA 9 (eFm b7 1 [(eB cD [(eV 5)])]))
  (aC (sE (dO 6 (eV 9)))
  (sIf (cA (tV (eF lR [(eV 2),(e2 cj (eSl (eV 5) none (some (eV 9))) (eSl (eV 5) (some (e2 cj (eV 9) (eC (.int 1)))) none)),(eV 4),(eFT (bQ aH aW) [(eV 2),(eV 6),(eV 4)])]))) (sR (eC (.bl false))) sNx))) sNx)))))) (PE ns x2 n at_ k (.ow (aq r)) c6 c7 c8 c9) N R B C:=by
 unfold PE;refine Ss (Sy (SG (m_ (Sz rfl (Q_ (Te (xs:=r.map aF) ?_ rfl))))) (by decide));refine SA ?_ (by trivial);obtain⟨K,W,S,eP,hP⟩:=qJ aH aW n10 hg hl k1 k6;have lK:(K.map (·.m)).length<=60:=by rw[Pg];exact PL hP.kr.kept.sub.length_le hl
 have lW:W.length<=60:=by rw[hP.wl];exact PL (QI _ _) hl
 have hw:=hP.gone;have hw':∀ws∈W,ws.length<=60/\∀w∈ws,w.length<=60:=fun ws h=>⟨by rw[(hw ws h).1];lia,(hw ws h).2⟩;have lf:=lu (K.map (·.m)) W S;refine Vo (m_ (P_ rfl (m_ (Sz rfl (m_ (P_ rfl (Q_ ⟨_,_,PE ns x2 n at_ k (.ow (aq r)) (.ow (aq r)) .un c8 c9,eP,?_,rfl,lf,rfl⟩)))))))  (by decide);have Ng:∀c8 c9:Cell,see 7 (PE ns x2 n at_ k (.ow (aq r)) (.ow (aq r)) .un c8 c9) (f9 (K.map (·.m)) W S)=[.sh (.lst (ns.map Dat.int)),.sh (bL x2),.sh (.int n),.sh (.int at_),.sh (.int k),.sh (aq r),.sh (aq r),.sh (dh (K.map (·.m)) W S),shC c8,shC c9]:=fun c8 c9=>by rw[<- gU];rfl
 refine US ?_ ?_ (Ng c8 c9)
 ·refine SS (Sw (SE (m_ (P_ rfl (m_ (P_ rfl (m_ (P_ rfl (m_ (P_ rfl (Q_ (SO (uH n1 n10 hg hl k6 hP) ?_ rfl rfl))))))))))));exact Sv rfl
 refine Tw (Vh (q:=f9 (K.map (·.m)) W S) (S6 (m_ (P_ rfl (Q_ ⟨_,_,_,uI (K.map (·.m)) W S lK lW (fun ws h=>(hw' ws h).1),rfl,rfl⟩)))) ?_ (Ng c8 c9) lf (gU _ _ _) rfl (by decide));have he:=wX (K.map (·.m)) W S lK lW hw';refine Vg (f:=qz) (ds:=[]) (Q_ rfl) he ?_;refine SY (Sw (R_ (UT (m_ (P_ rfl (m_ (Sz rfl (m_ (P_ rfl (Q_ ⟨_,_,eP,rfl,lf,?_⟩))))))))));refine P_ rfl (Aa (K.map (·.m)) W S (Sv (SJ ?_)) (by rw[gU];rfl) rfl);refine Sw (R_ (Sz rfl (Sz rfl (U_ (CM r) (Kr r) (Sv ⟨rfl,?_⟩) rfl rfl))));exact F5 aH aW n1 n10 hg hl k1 k6 x2 _ _ k'
theorem CN(aH aW:Nat){ns:List Int}{at_:Int}(n1:1<=n)(n10:n<=10)(a0:0<=at_)(a1:at_<1000)(c1 c4 c5 c6 c7 c8 c9:Cell){B C:Env->Prop}{R:RV->Env->Prop}{N:Env->Prop}
  (k':∀c1 c4 c5 c6 c7 c8 c9:Cell,N [.sh (.lst (ns.map Dat.int)),c1,.sh (.int n),.sh (.int at_),c4,c5,c6,c7,c8,c9]) :
  Ws (wH aH aW) [.sh (.lst (ns.map Dat.int)),c1,.sh (.int n),.sh (.int at_),c4,c5,c6,c7,c8,c9] N R B C:=by
 unfold wH;obtain⟨x0,ep⟩:=yz ns at_ a0 a1;refine Ss (Sy (SE (m_ (P_ rfl (m_ (P_ rfl (Q_ (SN ep ?_ rfl rfl rfl rfl))))))) (by decide));refine SA ?_ (by trivial);refine Tj (fun ρ=>∃(k:Nat) (x:Int),1<=k/\k<=6/\ρ=PE ns x n at_ k c5 c6 c7 c8 c9) ?_ ?_
 ·refine Sy (R_ (Sq ?_)) (by decide);refine TN (R_ (S8 (m_ (Sq (m_ (Sq (Q_ (SV ?_ rfl rfl (by exact P8 rfl))))))))) rfl;refine Tc (m:=2) rfl (by decide) (by decide) rfl fun i x1 i0 i1 ρ3 e=>?_;subst e;obtain⟨v,hv,v1,v2⟩:=ix2 i i0 i1;refine Su (bP.mk (mJ ?_ rfl rfl (by lia) (by unfold jJ;lia))) rfl rfl hv;refine S_ (SD ?_ (by trivial)) rfl rfl;have hm:=dD x1 v v1;refine⟨(1+x1 % v).toNat,x1 / v,by lia,by lia,?_⟩;unfold PE;have:(((1+x1 % v).toNat:Nat):Int)=1+x1 % v:=by lia
  rw[this]
 rintro ρ ⟨k,x1,k1,k6,rfl⟩;refine Tj (fun ρ=>∃(r:List Tie) (x:Int),Good n 0 r/\r.length<=60/\ρ=PE ns x n at_ k (.ow (aq r)) c6 c7 c8 c9) ?_ ?_
 ·unfold PE;refine Sy (Ux ?_ rfl) (by decide);refine m_ (P_ rfl (m_ (R_ (S8 (m_ (Sq (m_ (Sq (m_ (Sq (m_ (Sq (Q_ (SV ?_ rfl rfl (by exact P8 rfl)))))))))))))));refine Tc (m:=4) rfl (by decide) (by decide) rfl fun i x2 i0 i1 ρ3 e=>?_;subst e;obtain⟨v,hv,v1,v2⟩:=ix4 9 9 9 14 i i0 i1 (fun v=>1<=v/\v<=60) (by decide) (by decide) (by decide) (by decide);obtain⟨r,x3,er,hg,hl,_⟩:=zY x2 n v (by lia) (by lia) (by lia) v2;refine Su (v:=.int v) (Q_ (T8 er ?_ rfl rfl rfl)) rfl rfl hv;exact SA ⟨r,x3,hg,by lia,rfl⟩ (by trivial)
 rintro ρ ⟨r,x2,hg,hl,rfl⟩;exact Ku aH aW n1 n10 hg hl k1 k6 x2 _ _ _ _ k'
theorem math(aH aW:Nat)(ns:List Int)(h:ns.length<=63):nQ aH aW [.lst (ns.map Dat.int)]=some (.val (.bl true)):=by
 apply SQ;unfold nQ
 (refine Dm.SI ?_ rfl rfl;and_intros)
 obtain⟨x0,ep⟩:=yz ns 0 (by decide) (by decide);refine Ss (Sy (SE (m_ (P_ rfl (m_ (Sq (Q_ (SN ep ?_ rfl rfl rfl rfl))))))) (by decide));refine SA ?_ (by trivial);refine Tj (fun ρ=>∃(n:Nat) (c1:Cell),1<=n/\n<=10/\ρ=[.sh (.lst (ns.map Dat.int)),c1,.sh (.int n),.un,.un,.un,.un,.un,.un,.un]) ?_ ?_
 ·refine Sy (R_ (Sq ?_)) (by decide);refine Tc (m:=6) rfl (by decide) (by decide) rfl fun i x1 i0 i1 ρ3 e=>?_;subst e;refine S_ (SD ?_ (by trivial)) rfl rfl;refine⟨(1+i).toNat,.ow (bL x1),by lia,by lia,?_⟩;have:(((1+i).toNat:Nat):Int)=1+i:=by lia
  rw[this]
 rintro ρ ⟨n,c1,n1,n10,rfl⟩;refine Ss (SR (TR (Sq (bP.mk (SG (m_ (Sq (m_ (SG (m_ (Sq (m_ (SG (m_ (P_ rfl (Q_ (S3 (rX:=Dat.int) (xs:=ns) ?_ rfl)))))))))))))))));refine Q_ (T3 ?_ rfl);refine Q_ (T5 ?_ rfl);have hb:∀z:Int,z=(if (ns.length:Int)<4 then (ns.length:Int) else 4)->(if z>2 then z else 2)<=5/\2<=(if z>2 then z else 2):=fun z hz=>by
  rw[hz];constructor
  ·split<;>split<;>lia
  ·split<;>lia
 have hb:=hb _ rfl
 generalize (if (if (ns.length:Int)<4 then (ns.length:Int) else 4)>2 then (if (ns.length:Int)<4 then (ns.length:Int) else 4) else 2)=top at hb ⊢
 refine bP.mk ⟨?_,by unfold BIG;lia⟩;refine SX (fun i:Nat=>Dat.int (1+(i:Nat))) _ _ (Pu (top-1).toNat) _ _ _ _ _ (fun p q ρ=>∃c1 c3 c4 c5 c6 c7 c8 c9:Cell,ρ=[.sh (.lst (ns.map Dat.int)),c1,.sh (.int n),c3,c4,c5,c6,c7,c8,c9]) ⟨_,_,_,_,_,_,_,_,rfl⟩ ?_ ?_
 ·rintro p i q ρ e ⟨c1,c3,c4,c5,c6,c7,c8,c9,rfl⟩;have hi:i<(top-1).toNat:=by
   have:i∈Pu (top-1).toNat:=by rw[e];simp
   exact Qp.mp this
  refine Dm.bK rfl (by trivial) ?_;exact CN aH aW n1 n10 (by lia) (by lia) _ _ _ _ _ _ _ fun c1 c4 c5 c6 c7 c8 c9=>⟨_,_,_,_,_,_,_,_,rfl⟩
 ·rintro ρ ⟨c1,c3,c4,c5,c6,c7,c8,c9,rfl⟩;exact SH (Sq rfl)
end
end P
namespace Q
open PySem L2 Br Dm P
noncomputable def top(i:Nat):Stmt:=PySem.Challenge.pw_sinceply_k39_pared_told.main.body.getD i (.Pass ⟨0,0,0,0⟩)
structure Txt(mg:Str->Option Value)(K:Pf)(base:Heap)(wZ w_ xg xh xj uL uM bZ xm xo n6 n8 n9 n_ oh bg oi oj oq ou oz oA oB oE oF oG oH oJ oK oM oN oO oQ oR oS oU oV:Addr)(oW oX oY oZ o6 l6 l7 o7 o8 o9 iU iV iW iX iY iZ i6 i7 i8 i9 i_ ja jb jd je jf jh ji jj jl jm jn jo jq jr jt lz:FuncData):Prop where
 uN:mg "all" = none
 CO:mg "bool" = none
 CP:mg "dict" = none
 Hh:mg "int" = none
 aX:mg "isinstance" = none
 cC:mg "len" = none
 eN:mg "list" = none
 Hi:mg "max" = none
 CQ:mg "min" = none
 bU:mg "range" = none
 Hj:mg "set" = none
 uO:mg "sorted" = none
 kh:mg "tuple" = none
 Hl:mg "zip" = none
 Nh:mg "steps_of" = some (.ref wZ)
 Ni:mg "free_steps" = some (.ref w_)
 Nj:mg "led_steps" = some (.ref xg)
 F6:mg "shortest_ways" = some (.ref xh)
 Nk:mg "lead_along" = some (.ref xj)
 Nl:mg "parted" = some (.ref uL)
 Kv:mg "ways_apart" = some (.ref uM)
 O5:mg "hang_often" = some (.ref bZ)
 O6:mg "is_whole" = some (.ref xm)
 O7:mg "is_within" = some (.ref xo)
 Nm:mg "is_layers" = some (.ref n6)
 Nn:mg "look_at_layers" = some (.ref n8)
 Ho:mg "without" = some (.ref n9)
 Np:mg "kept_ties" = some (.ref n_)
 Nq:mg "no_ways" = some (.ref oh)
 Nr:mg "ways_by_ties" = some (.ref bg)
 Nt:mg "ways_out" = some (.ref oi)
 Nu:mg "side_for" = some (.ref oj)
 CS:mg "pared" = some (.ref oq)
 Nv:mg "_law_cell_at" = some (.ref ou)
 Hq:mg "_law_pool" = some (.ref oz)
 f_:mg "_law_take" = some (.ref oA)
 Nx:mg "_law_record" = some (.ref oB)
 Hr:mg "_law_whole" = some (.ref oE)
 Ht:mg "_law_are_wholes" = some (.ref oF)
 Ny:mg "_law_leads" = some (.ref oG)
 Nz:mg "_law_apart" = some (.ref oH)
 Hu:mg "_law_rim" = some (.ref oJ)
 NB:mg "_law_is_side" = some (.ref oK)
 NC:mg "_law_sides" = some (.ref oM)
 ND:mg "_law_often" = some (.ref oN)
 NF:mg "_law_kept" = some (.ref oO)
 NG:mg "_law_shown" = some (.ref oQ)
 Hv:mg "_law_right" = some (.ref oR)
 Hw:mg "_law_copy" = some (.ref oS)
 NH:mg "_law_emptied" = some (.ref oU)
 O9:mg "law" = some (.ref oV)
 Kw:Fun K "steps_of" "steps_of" (top 3) wZ oW
 Ky:Fun K "free_steps" "free_steps" (top 4) w_ oX
 Kz:Fun K "led_steps" "led_steps" (top 5) xg oY
 CT:Fun K "shortest_ways" "shortest_ways" (top 6) xh oZ
 KA:Fun K "lead_along" "lead_along" (top 7) xj o6
 F7:Binds K oY ["steps","heads"] []
 Ab:Binds K oZ ["steps","a"] []
 F8:Fun K "parted" "parted" (top 8) uL l6
 F9:Binds K oW ["n","ties"] []
 F_:Binds K oX ["steps","heads"] []
 Ga:Binds K o6 ["heads","way"] []
 Gb:Binds K l6 ["steps","heads","a","b","count"] []
 CU:Fun K "ways_apart" "ways_apart" (top 1) uM l7
 CV:Binds K l7 ["n","ties","a","b","most"] []
 NI:Fun K "hang_often" "hang_often" (top 2) bZ o7
 NJ:Fun K "is_whole" "is_whole" (top 13) xm o8
 KC:Binds K o8 ["thing"] []
 NK:Fun K "is_within" "is_within" (top 14) xo o9
 KD:Binds K o9 ["thing","low","high"] []
 Hy:Fun K "is_layers" "is_layers" (top 15) n6 iU
 CW:Binds K iU ["thing"] []
 Hz:Fun K "look_at_layers" "look_at_layers" (top 16) n8 iV
 CY:Fun K "without" "without" (top 20) n9 iW
 KG:Binds K o7 ["n","ties","a","b","times"] []
 yI:Binds K iW ["ties","tie"] []
 HA:Fun K "kept_ties" "kept_ties" (top 19) n_ iX
 HB:Fun K "no_ways" "no_ways" (top 22) oh iY
 HC:Fun K "ways_by_ties" "ways_by_ties" (top 23) bg iZ
 CZ:Binds K iY ["k"] []
 C0:Binds K iZ ["n","kept","a","b","k"] []
 HD:Fun K "ways_out" "ways_out" (top 21) oi i6
 HF:Fun K "side_for" "side_for" (top 24) oj i7
 C1:Binds K iV ["k"] []
 C2:Binds K iX ["n","record","k","often"] []
 C3:Binds K i6 ["n","record","kept","k","ways_of"] []
 C4:Binds K i7 ["n","kept","tie","k"] []
 yJ:Fun K "pared" "pared" (top 18) oq i8
 HG:Fun K "_law_cell_at" "_law_cell_at" (top 26) ou i9
 C5:Binds K i9 ["script","k"] []
 C6:Fun K "_law_pool" "_law_pool" (top 27) oz i_
 fh:Fun K "_law_take" "_law_take" (top 28) oA ja
 ee:Binds K ja ["pool","many"] []
 HH:Fun K "_law_record" "_law_record" (top 29) oB jb
 C7:Fun K "_law_whole" "_law_whole" (top 30) oE jd
 yK:Binds K jd ["found"] []
 C8:Fun K "_law_are_wholes" "_law_are_wholes" (top 31) oF je
 yL:Binds K je ["row"] []
 HJ:Fun K "_law_leads" "_law_leads" (top 32) oG jf
 C9:Binds K jf ["record","a","b","way"] []
 HK:Fun K "_law_apart" "_law_apart" (top 33) oH jh
 C_:Fun K "_law_rim" "_law_rim" (top 34) oJ ji
 HL:Fun K "_law_is_side" "_law_is_side" (top 35) oK jj
 HM:Fun K "_law_sides" "_law_sides" (top 36) oM jl
 yM:Binds K ji ["record","side"] []
 Dc:Binds K jl ["n"] []
 HN:Fun K "_law_often" "_law_often" (top 37) oN jm
 Dd:Binds K jm ["n","ties","a","b"] []
 HP:Fun K "_law_kept" "_law_kept" (top 38) oO jn
 De:Binds K jh ["record","a","b","ways"] []
 Df:Binds K jj ["n","side"] []
 HQ:Fun K "_law_shown" "_law_shown" (top 39) oQ jo
 Dg:Binds K jn ["n","record","k"] []
 Dh:Binds K jo ["n","record","kept","k","told"] []
 Di:Fun K "_law_right" "_law_right" (top 40) oR jq
 Dj:Fun K "_law_copy" "_law_copy" (top 41) oS jr
 yN:Binds K jr ["found"] []
 HR:Fun K "_law_emptied" "_law_emptied" (top 42) oU jt
 uP:Binds K i8 ["n","record","k"] []
 yO:Binds K i_ ["script","at"] []
 Dl:Binds K jb ["pool","n","most"] []
 yP:Binds K jq ["n","record","k","found"] []
 Dq:Binds K jt ["found"] []
 NL:Fun K "law" "law" (top 43) oV lz
section
variable{P':Program}{w:World}{K:Pf}{mg:Str->Option Value}{base:Heap}{wZ w_ xg xh xj uL uM bZ xm xo n6 n8 n9 n_ oh bg oi oj oq ou oz oA oB oE oF oG oH oJ oK oM oN oO oQ oR oS oU oV:Addr}
variable{oW oX oY oZ o6 l6 l7 o7 o8 o9 iU iV iW iX iY iZ i6 i7 i8 i9 i_ ja jb jd je jf jh ji jj jl jm jn jo jq jr jt lz:FuncData}
theorem uQ:aD ["n","ties","steps","moment","a","b"] ["n","ties"] (aj (top 3)):=fsc
theorem KH:(["n","ties","steps","moment","a","b","place"]:List Str).Nodup:=by decide +kernel
theorem NN:aD ["steps","heads"] ["steps","heads"] (aj (top 4)):=fsc
theorem KI:(["steps","heads","row"]:List Str).Nodup:=by decide +kernel
theorem KJ:(["steps","heads","row","step"]:List Str).Nodup:=by decide +kernel
theorem NO:aD ["steps","heads"] ["steps","heads"] (aj (top 5)):=fsc
theorem KL:(["steps","heads","row"]:List Str).Nodup:=by decide +kernel
theorem KN:(["steps","heads","row","step"]:List Str).Nodup:=by decide +kernel
theorem uR:aD ["steps","a","ways","pending","place","step"] ["steps","a"] (aj (top 6)):=fsc
theorem Dr:aD ["heads","way","moment","place"] ["heads","way"] (aj (top 7)):=fsc
theorem gb:aD ["steps","heads","a","b","count","left","ways","time","way","moment"] ["steps","heads","a","b","count"] (aj (top 8)):=fsc
theorem KP:(["steps","heads","a","b","count","left","ways","time","way","moment","step"]:List Str).Nodup:=by decide +kernel
theorem KQ:(["steps","heads","a","b","count","left","ways","time","way","moment","step"]:List Str).Nodup:=by decide +kernel
theorem di:aD ["n","ties","a","b","most","steps","heads","side","count","found"] ["n","ties","a","b","most"] (aj (top 1)):=fsc
theorem NP:aD ["n","ties","a","b","times"] ["n","ties","a","b","times"] (aj (top 2)):=fsc
theorem NQ:aD ["thing"] ["thing"] (aj (top 13)):=fsc
theorem NR:aD ["thing","low","high"] ["thing","low","high"] (aj (top 14)):=fsc
theorem KS:aD ["thing"] ["thing"] (aj (top 15)):=fsc
theorem KU:aD ["k"] ["k"] (aj (top 16)):=fsc
theorem KW:aD ["ties","tie"] ["ties","tie"] (aj (top 20)):=fsc
theorem Gd:(["ties","tie","other"]:List Str).Nodup:=by decide +kernel
theorem o_:aD ["n","record","k","often","kept","tie","others"] ["n","record","k","often"] (aj (top 19)):=fsc
theorem KY:aD ["k"] ["k"] (aj (top 22)):=fsc
theorem Ge:(["k","time"]:List Str).Nodup:=by decide +kernel
theorem KZ:aD ["n","kept","a","b","k"] ["n","kept","a","b","k"] (aj (top 23)):=fsc
theorem Dt:aD ["n","record","kept","k","ways_of","gone"] ["n","record","kept","k","ways_of"] (aj (top 21)):=fsc
theorem Gf:(["n","record","kept","k","ways_of","gone","tie"]:List Str).Nodup:=by decide +kernel
theorem Gg:(["n","record","kept","k","ways_of","gone","tie"]:List Str).Nodup:=by decide +kernel
theorem K1:aD ["n","kept","tie","k"] ["n","kept","tie","k"] (aj (top 24)):=fsc
theorem xq:aD ["n","record","k","kept","sides"] ["n","record","k"] (aj (top 18)):=fsc
theorem Gh:(["n","record","k","kept","sides","tie"]:List Str).Nodup:=by decide +kernel
theorem Gi:(["n","record","k","kept","sides","tie"]:List Str).Nodup:=by decide +kernel
theorem K2:aD ["script","k"] ["script","k"] (aj (top 26)):=fsc
theorem gX:aD ["script","at","cell","big","turn","one"] ["script","at"] (aj (top 27)):=fsc
theorem Du:aD ["pool","many","number"] ["pool","many"] (aj (top 28)):=fsc
theorem cW:aD ["pool","n","most","many","wide","moment","record","k","a","b"] ["pool","n","most"] (aj (top 29)):=fsc
theorem K3:aD ["found"] ["found"] (aj (top 30)):=fsc
theorem K4:aD ["row"] ["row"] (aj (top 31)):=fsc
theorem Gj:(["row","number"]:List Str).Nodup:=by decide +kernel
theorem pe:aD ["record","a","b","way","here","moment","found"] ["record","a","b","way"] (aj (top 32)):=fsc
theorem Gk:(["record","a","b","way","here","moment","found","tie"]:List Str).Nodup:=by decide +kernel
theorem sJ:aD ["record","a","b","ways","used","way"] ["record","a","b","ways"] (aj (top 33)):=fsc
theorem Gm:(["record","a","b","ways","used","%5","way"]:List Str).Nodup:=by decide +kernel
theorem K5:aD ["record","side"] ["record","side"] (aj (top 34)):=fsc
theorem sL:(["record","side","moment","a","b"]:List Str).Nodup:=by decide +kernel
theorem K6:aD ["n","side"] ["n","side"] (aj (top 35)):=fsc
theorem Gn:(["n","side","place"]:List Str).Nodup:=by decide +kernel
theorem Gp:(["n","side","k"]:List Str).Nodup:=by decide +kernel
theorem xr:aD ["n","found","bits"] ["n"] (aj (top 36)):=fsc
theorem Gq:(["n","found","bits","place"]:List Str).Nodup:=by decide +kernel
theorem K7:aD ["n","ties","a","b"] ["n","ties","a","b"] (aj (top 37)):=fsc
theorem Gr:(["n","ties","a","b","side"]:List Str).Nodup:=by decide +kernel
theorem pq:aD ["n","record","k","kept","tie","others"] ["n","record","k"] (aj (top 38)):=fsc
theorem Gs:(["n","record","k","kept","tie","others","one"]:List Str).Nodup:=by decide +kernel
theorem fU:aD ["n","record","kept","k","told","ways","sides","gone","tie","some","side","moments"] ["n","record","kept","k","told"] (aj (top 39)):=fsc
theorem Gu:(["n","record","kept","k","told","ways","sides","gone","%8","some","side","moments","tie"]:List Str).Nodup:=by decide +kernel
theorem Gv:(["n","record","kept","k","told","ways","sides","gone","tie","some","side","moments","turn"]:List Str).Nodup:=by decide +kernel
theorem Gw:(["n","record","kept","k","told","ways","sides","gone","tie","some","%10","moments","side"]:List Str).Nodup:=by decide +kernel
theorem Dv:aD ["n","record","k","found","kept"] ["n","record","k","found"] (aj (top 40)):=fsc
theorem Gx:(["n","record","k","found","kept","tie"]:List Str).Nodup:=by decide +kernel
theorem K8:aD ["found"] ["found"] (aj (top 41)):=fsc
theorem Gy:(["found","some"]:List Str).Nodup:=by decide +kernel
theorem Gz:(["found","some","way"]:List Str).Nodup:=by decide +kernel
theorem lA:aD ["found","kept","ways","sides","k","j"] ["found"] (aj (top 42)):=fsc
theorem dU:aD ["script","pool","n","at","k","record","handed","found","first","gone"] ["script"] (aj (top 43)):=fsc
variable(T:Txt mg K base wZ w_ xg xh xj uL uM bZ xm xo n6 n8 n9 n_ oh bg oi oj oq ou oz oA oB oE oF oG oH oJ oK oM oN oO oQ oR oS oU oV oW oX oY oZ o6 l6 l7 o7 o8 o9 iU iV iW iX iY iZ i6 i7 i8 i9 i_ ja jb jd je jf jh ji jj jl jm jn jo jq jr jt lz)
include T
theorem HS :
  aT P' w K mg base CX0 1 wZ oW ["n","ties"] (spD zO):=
 okQ T.Kw uQ fun _ _ _ _ _ _ hr=>(JM 2 ["n","ties","steps","moment","a","b"] ["place"] uQ.nd (c_n 6 KH rfl rfl) (rO rfl T.bU (aa (d_v 0) af)) (GX PZ rfl (i_S (d_v 1)) (g_t rfl (bz 3 uQ.nd (bz 4 uQ.nd (bz 5 uQ.nd iH))))
  (GW (Oz (gA hr (d_v 4) (d_v 5)) (JL (GY (d_v 4) (xR (aa (d_v 3) (aa (d_v 5) af))))
  (GW (GY (d_v 5) (xR (aa (d_v 3) (aa (d_v 4) af)))))) Mv)))
  (az (s_r (d_v 2))))
theorem HU :
  aT P' w K mg base CX0 1 w_ oX ["steps","heads"] (spD B9):=
 okQ T.Ky NN fun _ _ _ _ _ _ hr=>(az (s_r (fX 0 ["steps","heads"] ["row"] (c_n 2 KI rfl rfl) (d_v 0) (fun _ _ _ _ _=>cF) (fun _ _ _ _ _=>(fX 2 ["steps","heads","row"] ["step"] (c_n 3 KJ rfl rfl) (d_v 2) (fun _ _ _ _ _=>eG (gA hr (BA hr (d_v 1) (aP (d_v 3) d_i)) (aP (d_v 3) d_i))) (fun _ _ _ _ _=>(d_v 3)))))))
theorem HV :
  aT P' w K mg base CX0 1 xg oY ["steps","heads"] (spD zP):=
 okQ T.Kz NO fun _ _ _ _ _ _ hr=>(az (s_r (fX 0 ["steps","heads"] ["row"] (c_n 2 KL rfl rfl) (d_v 0) (fun _ _ _ _ _=>cF) (fun _ _ _ _ _=>(fX 2 ["steps","heads","row"] ["step"] (c_n 3 KN rfl rfl) (d_v 2) (fun _ _ _ _ _=>eG (m9 hr (BA hr (d_v 1) (aP (d_v 3) d_i)) (aP (d_v 3) d_i))) (fun _ _ _ _ _=>(d_v 3)))))))
theorem yQ :
  aT P' w K mg base CX0 1 xh oZ ["steps","a"] (spD r8):=
 okQ T.CT uR fun _ _ _ _ _ _ hr=>(ao (s_a 2 uR.nd (Ou (d_v 1) (cP af)))
  (ao (s_a 3 uR.nd (cP (aa (d_v 1) af)))
  (ao (Js 100 PZ (Ow (d_v 3))
  (ao (s_a 4 uR.nd (x6 3 d_i))
  (az (d7 PZ rfl (i_S (aP (d_v 0) (d_v 4))) (g_n 5 uR.nd)
  (az (dM (JG hr (aP (d_v 5) d_i) (d_v 2)) (ao (BB 2 hr (aP (d_v 5) d_i) (cB (Bx hr (d_v 2) (d_v 4)) (cP (aa (d_v 5) af))))
  (az (xS 3 (aP (d_v 5) d_i)))) b5))))))
  (az (s_r (d_v 2))))))
theorem HW :
  aT P' w K mg base CX0 1 xj o6 ["heads","way"] (spM B_):=by
 refine T.KA.ok Dr (fun vs H Q E h=>mD h) (fun cdv A outer s H vs Q E hr h=>?_);exact ⟨_,(az (d7 PZ rfl (i_S (d_v 1)) (g_t rfl (bz 2 Dr.nd (bz 3 Dr.nd iH)))
  (az (dM (By hr (d_v 2) (d_v 0)) (az (s_e (wg 0 (d_v 2)))) (az (BB 0 hr (d_v 2) (d_v 3))))))),Bv (n:=2) (m:=2) rfl h⟩
theorem NT :
  aT P' w K mg base CX0 2 uL l6 ["steps","heads","a","b","count"] (spD wF):=
 okQ T.F8 gb fun _ _ _ _ _ _ hr=>(ao (s_a 5 gb.nd (BO rfl T.CP (aa (d_v 1) af)))
  (ao (s_a 6 gb.nd (cP af))
  (ao (d7 PZ rfl (rO rfl T.bU (aa (d_v 4) af)) (g_n 7 gb.nd)
  (ao (Oo 8 ["steps","heads","a","b","count","left","ways","time","way","moment"] ["step"] gb.nd (c_n 10 KP rfl rfl) (i_S (Bx hr (aN (yQ T) (Br.hm hr) rfl T.F6 T.CT.kp T.Ab (aa (gG (HV T) (Br.hm hr) rfl T.Nj T.Kz.kp T.F7 (aa (d_v 0) (aa (d_v 5) af))) (aa (d_v 2) af))) (d_v 3))) (fun _ _ _ _ _=>cF) (fun _ _ _ _ _=>(aP (d_v 10) d_i)))
  (ao (d7 PZ rfl (i_S (d_v 8)) (g_n 9 gb.nd)
  (az (s_e (wg 5 (d_v 9)))))
  (az (xS 6 (d_v 8))))))
  (az (s_r (d_v 6))))))
theorem xu :
  aT P' w K mg base CX0 2 uL l6 ["steps","heads","a","b","count"] (spP cJ):=by
 refine T.F8.ok gb (fun vs H Q E h=>fP h) (fun cdv A outer s H vs Q E hr h=>?_);exact ⟨_,(eL (s_a 5 gb.nd (BO rfl T.CP (aa (d_v 1) af)))
  (J1 6 gb.nd (GX PZ rfl (rO rfl T.bU (aa (d_v 4) af)) (g_n 7 gb.nd)
  (MK 8 (OJ 8 ["steps","heads","a","b","count","left","ways","time","way","moment"] ["step"] gb.nd (c_n 10 KQ rfl rfl) (i_S (Bx hr (aN (yQ T) (Br.hm hr) rfl T.F6 T.CT.kp T.Ab (aa (gG (HV T) (Br.hm hr) rfl T.Nj T.Kz.kp T.F7 (aa (d_v 0) (aa (d_v 5) af))) (aa (d_v 2) af))) (d_v 3))) (fun _ _ _ _ _=>cF) (fun _ _ _ _ _=>(aP (d_v 10) d_i))) PZ rfl (g_n 9 gb.nd) (wg 5 (d_v 9)))))),nH (n:=5) (m:=5) rfl h⟩
theorem HX :
  aT P' w K mg base CX0 3 uM l7 ["n","ties","a","b","most"] (spD zQ):=
 okQ T.CU di fun _ _ _ _ _ _ hr=>(ao (s_a 5 di.nd (aN (HS T) (Br.hm hr) rfl T.Nh T.Kw.kp T.F9 (aa (d_v 0) (aa (d_v 1) af))))
  (ao (s_a 6 di.nd Ml)
  (ao (s_a 7 di.nd d_n)
  (ao (s_a 8 di.nd d_i)
  (ao (Js 100 PZ (t_w (w_and (Jp (d_v 8) (d_v 4)) (ng (GV (d_v 7) d_n))))
  (ao (s_a 9 di.nd (aN (yQ T) (Br.hm hr) rfl T.F6 T.CT.kp T.Ab (aa (gG (HU T) (Br.hm hr) rfl T.Ni T.Ky.kp T.F_ (aa (d_v 5) (aa (d_v 6) af))) (aa (d_v 2) af))))
  (az (dM (By hr (d_v 3) (d_v 9)) (ao (s_e (bF (HW T) (Br.hm hr) rfl T.Nk T.KA.kp T.Ga (aa (d_v 6) (aa (Bx hr (d_v 9) (d_v 3)) af))))
  (az (s_a 8 di.nd (cB (d_v 8) d_i)))) (az (s_a 7 di.nd (rN rfl T.kh (aa (ya rfl rfl T.uO (aa (d_v 9) af)) af))))))))
  (az (s_r (xR (aa (gG (NT T) (Br.hm hr) rfl T.Nl T.F8.kp T.Gb (@aa _ _ _ _ _ (d_v 5) (@aa _ _ _ _ _ (d_v 6) (@aa _ _ _ _ _ (d_v 2) (@aa _ _ _ _ _ (d_v 3) (@aa _ _ _ _ _ (d_v 8) af rfl) rfl) rfl) rfl) rfl)) (aa (d_v 7) af))))))))))
theorem pA :
  aT P' w K mg base CX0 3 uM l7 ["n","ties","a","b","most"] (spP bY):=by
 refine T.CU.ok di (fun vs H Q E h=>fP h) (fun cdv A outer s H vs Q E hr h=>?_);exact ⟨_,(eL (s_a 5 di.nd (aN (HS T) (Br.hm hr) rfl T.Nh T.Kw.kp T.F9 (aa (d_v 0) (aa (d_v 1) af))))
  (eL (s_a 6 di.nd Ml)
  (eL (s_a 7 di.nd d_n)
  (eL (s_a 8 di.nd d_i)
  (eL (Js 100 PZ (t_w (w_and (Jp (d_v 8) (d_v 4)) (ng (GV (d_v 7) d_n))))
  (ao (s_a 9 di.nd (aN (yQ T) (Br.hm hr) rfl T.F6 T.CT.kp T.Ab (aa (gG (HU T) (Br.hm hr) rfl T.Ni T.Ky.kp T.F_ (aa (d_v 5) (aa (d_v 6) af))) (aa (d_v 2) af))))
  (az (dM (By hr (d_v 3) (d_v 9)) (ao (s_e (bF (HW T) (Br.hm hr) rfl T.Nk T.KA.kp T.Ga (aa (d_v 6) (aa (Bx hr (d_v 9) (d_v 3)) af))))
  (az (s_a 8 di.nd (cB (d_v 8) d_i)))) (az (s_a 7 di.nd (rN rfl T.kh (aa (ya rfl rfl T.uO (aa (d_v 9) af)) af))))))))
  (q_r (BS (t7 (kT (xu T) (Br.hm hr) rfl T.Nl T.F8.kp T.Gb (@aa _ _ _ _ _ (d_v 5) (@aa _ _ _ _ _ (d_v 6) (@aa _ _ _ _ _ (d_v 2) (@aa _ _ _ _ _ (d_v 3) (@aa _ _ _ _ _ (d_v 8) af rfl) rfl) rfl) rfl) rfl)) (t7 (p_o (d_v 7)) JS))))))))),nH (n:=5) (m:=5) rfl h⟩
theorem NU :
  aT P' w K mg base CX0 4 bZ o7 ["n","ties","a","b","times"] (spD Fo):=
 okQ T.NI NP fun _ _ _ _ _ _ hr=>(az (s_r (Mq (aP (aN (HX T) (Br.hm hr) rfl T.Kv T.CU.kp T.CV (@aa _ _ _ _ _ (d_v 0) (@aa _ _ _ _ _ (d_v 1) (@aa _ _ _ _ _ (d_v 2) (@aa _ _ _ _ _ (d_v 3) (@aa _ _ _ _ _ (d_v 4) af rfl) rfl) rfl) rfl) rfl)) d_i) d_n)))
theorem NV :
  aT P' w K mg base CX0 1 xm o8 ["thing"] (spD Ka):=
 okQ T.NJ NQ fun _ _ _ _ _ _ hr=>(az (s_r (qg (iy xT (by rfl) rfl T.Hh rfl T.aX (d_v 0)) (qf (GQ (iy tN (by rfl) rfl T.CO rfl T.aX (d_v 0)))))))
theorem NW :
  aT P' w K mg base CX0 2 xo o9 ["thing","low","high"] (spD Fq):=
 okQ T.NK NR fun _ _ _ _ _ _ hr=>(az (s_r (qg (aN (NV T) (Br.hm hr) rfl T.O6 T.NJ.kp T.KC (aa (d_v 0) af)) (qf (xU Av Bd Av Bd (d_v 1) (d_v 0) (d_v 2))))))
theorem K9 :
  aT P' w K mg base CX0 3 n6 iU ["thing"] (spD yh):=
 okQ T.Hy KS fun _ _ _ _ _ _ hr=>(az (s_r (aN (NW T) (Br.hm hr) rfl T.O7 T.NK.kp T.KD (aa (d_v 0) (aa d_i (aa d_i af))))))
theorem K_ :
  aT P' w K mg base CX0 4 n8 iV ["k"] (spD yi):=
 okQ T.Hz KU fun _ _ _ _ _ _ hr=>(az (dM (dZ (dJ (aN (K9 T) (Br.hm hr) rfl T.Nm T.Hy.kp T.CW (aa (d_v 0) af)))) (az EO) b5))
theorem Dw :
  aT P' w K mg base CX0 1 n9 iW ["ties","tie"] (spD qw):=
 okQ T.CY KW fun _ _ _ _ _ _ hr=>(az (s_r (fX 0 ["ties","tie"] ["other"] (c_n 2 Gd rfl rfl) (d_v 0) (fun _ _ _ _ _=>eG (gA hr (d_v 2) (d_v 1))) (fun _ _ _ _ _=>(d_v 2)))))
theorem La :
  aT P' w K mg base CX0 5 n_ iX ["n","record","k","often"] (spD (uh bZ bg)):=
 okQ T.HA o_ fun _ _ _ _ _ _ hr=>(ao (s_a 4 o_.nd (kJ rfl T.eN (aa (d_v 1) af)))
  (ao (d7 PZ rfl (i_S (d_v 1)) (g_n 5 o_.nd)
  (ao (s_a 6 o_.nd (aN (Dw T) (Br.hm hr) rfl T.Ho T.CY.kp T.yI (aa (d_v 4) (aa (d_v 5) af))))
  (az (dM (t_w (w_or (m9 hr (aP (d_v 5) d_i) (aP (d_v 5) d_i)) (fW (dJ (E1 3 (NU T) (Br.hm hr) T.NI.kp T.KG (@aa _ _ _ _ _ (d_v 0) (@aa _ _ _ _ _ (d_v 6) (@aa _ _ _ _ _ (aP (d_v 5) d_i) (@aa _ _ _ _ _ (aP (d_v 5) d_i) (@aa _ _ _ _ _ (d_v 2) af rfl) rfl) rfl) rfl) rfl)))))) (az (s_a 4 o_.nd (d_v 6))) b5))))
  (az (s_r (d_v 4)))))
theorem uS :
  aT P' w K mg base CX0 1 oh iY ["k"] (spP fR):=by
 refine T.HB.ok KY (fun vs H Q E h=>fP h) (fun cdv A outer s H vs Q E hr h=>?_);exact⟨_,(q_r (E5 ["k"] ["time"] (c_n 1 Ge rfl rfl) (rO rfl T.bU (aa (d_v 0) af)) (fun _ _ _ _ _=>(p_o (cP af))))),nH (n:=1) (m:=0) rfl h⟩
theorem lB :
  aT P' w K mg base CX0 4 bg iZ ["n","kept","a","b","k"] (spP bJ):=by
 refine T.HC.ok KZ (fun vs H Q E h=>fP h) (fun cdv A outer s H vs Q E hr h=>?_);exact⟨_,(q_r (OH (kT (pA T) (Br.hm hr) rfl T.Kv T.CU.kp T.CV (@aa _ _ _ _ _ (d_v 0) (@aa _ _ _ _ _ (d_v 1) (@aa _ _ _ _ _ (d_v 2) (@aa _ _ _ _ _ (d_v 3) (@aa _ _ _ _ _ (d_v 4) af rfl) rfl) rfl) rfl) rfl)))),nH (n:=5) (m:=0) rfl h⟩
theorem sM :
  aT P' w K mg base CX0 5 oi i6 ["n","record","kept","k","ways_of"] (spP (cS bZ bg)):=by
 refine T.HD.ok Dt (fun vs H Q E h=>fP h) (fun cdv A outer s H vs Q E hr h=>?_);exact ⟨_,(eL (tQ 5 1 ["n","record","kept","k","ways_of","gone"] ["tie"] Dt.nd (c_n 6 Gf rfl rfl) (d_v 1) (fun _ _ _ _ _=>eG (xQ hr (d_v 6) (d_v 2))) (fun _ _ _ _ _=>(d_v 6)))
  (q_r (E5 ["n","record","kept","k","ways_of","gone"] ["tie"] (c_n 6 Gg rfl rfl) (i_S (d_v 5)) (fun _ _ _ _ _=>(ON (m9 hr (aP (d_v 6) d_i) (aP (d_v 6) d_i)) (kT (uS T) (Br.hm hr) rfl T.Nq T.HB.kp T.CZ (aa (d_v 3) af)) (OO 4 (lB T) (Br.hm hr) T.HC.kp T.C0 (@aa _ _ _ _ _ (d_v 0) (@aa _ _ _ _ _ (d_v 2) (@aa _ _ _ _ _ (aP (d_v 6) d_i) (@aa _ _ _ _ _ (aP (d_v 6) d_i) (@aa _ _ _ _ _ (d_v 3) af rfl) rfl) rfl) rfl) rfl))))))),nH (n:=5) (m:=1) rfl h⟩
theorem Lb :
  aT P' w K mg base CX0 4 oj i7 ["n","kept","tie","k"] (spD gR):=
 okQ T.HF K1 fun _ _ _ _ _ _ hr=>(az (s_r (aP (aN (HX T) (Br.hm hr) rfl T.Kv T.CU.kp T.CV (@aa _ _ _ _ _ (d_v 0) (@aa _ _ _ _ _ (aN (Dw T) (Br.hm hr) rfl T.Ho T.CY.kp T.yI (aa (d_v 1) (aa (d_v 2) af))) (@aa _ _ _ _ _ (aP (d_v 2) d_i) (@aa _ _ _ _ _ (aP (d_v 2) d_i) (@aa _ _ _ _ _ (d_v 3) af rfl) rfl) rfl) rfl) rfl)) d_i)))
theorem lC :
  aT P' w K mg base CX0 6 oq i8 ["n","record","k"] (spP (bQ bZ bg)):=by
 refine T.yJ.ok xq (fun vs H Q E h=>fP h) (fun cdv A outer s H vs Q E hr h=>?_);exact ⟨_,(eL (s_e (aN (K_ T) (Br.hm hr) rfl T.Nn T.Hz.kp T.C1 (aa (d_v 2) af)))
  (eL (s_a 3 xq.nd (aN (La T) (Br.hm hr) rfl T.Np T.HA.kp T.C2 (aa (d_v 0) (aa (d_v 1) (aa (d_v 2) (aa (Mz rfl T.O5) af))))))
  (eL (tQ 4 3 ["n","record","k","kept","sides"] ["tie"] xq.nd (c_n 5 Gh rfl rfl) (d_v 3) (fun _ _ _ _ _=>cF) (fun _ _ _ _ _=>(aN (Lb T) (Br.hm hr) rfl T.Nu T.HF.kp T.C4 (aa (d_v 0) (aa (d_v 3) (aa (d_v 5) (aa (d_v 2) af)))))))
  (q_r (BS (t7 (p_o (fX 3 ["n","record","k","kept","sides"] ["tie"] (c_n 5 Gi rfl rfl) (d_v 3) (fun _ _ _ _ _=>cF) (fun _ _ _ _ _=>(aP (d_v 5) d_i)))) (t7 (kT (sM T) (Br.hm hr) rfl T.Nt T.HD.kp T.C3 (@aa _ _ _ _ _ (d_v 0) (@aa _ _ _ _ _ (d_v 1) (@aa _ _ _ _ _ (d_v 3) (@aa _ _ _ _ _ (d_v 2) (@aa _ _ _ _ _ (Mz rfl T.Nr) af rfl) rfl) rfl) rfl) rfl)) (t7 (p_o (d_v 4)) JS)))))))),nH (n:=3) (m:=2) rfl h⟩
theorem Lc :
  aT P' w K mg base CX0 1 ou i9 ["script","k"] (spD um):=
 okQ T.HG K2 fun _ _ _ _ _ _ hr=>(ao (dM (Jp (d_v 1) (dc rfl T.cC (aa (d_v 0) af))) (az (s_r (aP (d_v 0) (d_v 1)))) b5)
  (az (s_r d_i)))
theorem Dy :
  aT P' w K mg base CX0 2 oz i_ ["script","at"] (spD qx):=
 okQ T.C6 gX fun _ _ _ _ _ _ hr=>(ao (s_a 2 gX.nd (aN (Lc T) (Br.hm hr) rfl T.Nv T.HG.kp T.C5 (aa (d_v 0) (aa (d_v 1) af))))
  (ao (dM (Mc (d_v 2) (GP d_i d_i)) (az (s_r (cP (aa (d_v 2) af)))) b5)
  (ao (s_a 3 gX.nd d_i)
  (ao (d7 PZ rfl (rO rfl T.bU (aa d_i af)) (g_n 4 gX.nd)
  (ao (s_a 5 gX.nd (m7 (jP (cB (cB (cB (m7 (d_v 2) d_i) (jP (jP d_i (d_v 4)) (d_v 4))) (jP d_i (d_v 1))) d_i) d_i) d_i))
  (ao (s_a 5 gX.nd (m7 (jP (d_v 5) (d_v 5)) d_i))
  (ao (s_a 5 gX.nd (m7 (jP (cB (d_v 5) (jP d_i (d_v 4))) d_i) d_i))
  (az (s_a 3 gX.nd (cB (jP (d_v 3) d_i) (m7 (GO (d_v 5) d_i) d_i))))))))
  (az (s_r (cP (aa (d_v 3) af))))))))
theorem cX :
  aT P' w K mg base CX0 1 oA ja ["pool","many"] (spM b7):=by
 refine T.fh.ok Du (fun vs H Q E h=>mD h) (fun cdv A outer s H vs Q E hr h=>?_);exact ⟨_,(ao (s_a 2 Du.nd (m7 (aP (d_v 0) d_i) (d_v 1)))
  (ao (Me 0 d_i (GO (aP (d_v 0) d_i) (d_v 1)))
  (az (s_r (d_v 2))))),Bv (n:=2) (m:=1) rfl h⟩
theorem Ld :
  aT P' w K mg base CX0 2 oB jb ["pool","n","most"] (spM uo):=by
 refine T.HH.ok cW (fun vs H Q E h=>mD h) (fun cdv A outer s H vs Q E hr h=>?_);exact ⟨_,(ao (s_a 3 cW.nd (bF (cX T) (Br.hm hr) rfl T.f_ T.fh.kp T.ee (aa (d_v 0) (aa (cB (d_v 2) d_i) af))))
  (ao (s_a 4 cW.nd (bF (cX T) (Br.hm hr) rfl T.f_ T.fh.kp T.ee (aa (d_v 0) (aa d_i af))))
  (ao (s_a 5 cW.nd (bF (cX T) (Br.hm hr) rfl T.f_ T.fh.kp T.ee (aa (d_v 0) (aa d_i af))))
  (ao (s_a 6 cW.nd (cP af))
  (ao (d7 PZ rfl (rO rfl T.bU (aa (d_v 3) af)) (g_n 7 cW.nd)
  (ao (s_a 8 cW.nd (bF (cX T) (Br.hm hr) rfl T.f_ T.fh.kp T.ee (aa (d_v 0) (aa (d_v 1) af))))
  (ao (s_a 9 cW.nd (bF (cX T) (Br.hm hr) rfl T.f_ T.fh.kp T.ee (aa (d_v 0) (aa (d_v 1) af))))
  (ao (dM (t_w (w_and (Jq (d_v 4) d_i) (ng (m9 hr (d_v 8) (d_v 9))))) (az (s_a 9 cW.nd (m7 (cB (d_v 8) d_i) (d_v 1)))) b5)
  (ao (dM (t_w (w_and (Jq (d_v 7) d_i) (ng (m9 hr (bF (cX T) (Br.hm hr) rfl T.f_ T.fh.kp T.ee (aa (d_v 0) (aa d_i af))) d_i)))) (ao (s_a 8 cW.nd (aP (aP (d_v 6) (qe (d_v 7) d_i)) d_i))
  (az (s_a 9 cW.nd (aP (aP (d_v 6) (qe (d_v 7) d_i)) d_i)))) b5)
  (ao (xS 6 (xR (aa (d_v 5) (aa (Bk rfl rfl T.CQ (aa (d_v 8) (aa (d_v 9) af))) (aa (Bl rfl rfl T.Hi (aa (d_v 8) (aa (d_v 9) af))) af)))))
  (az (s_a 5 cW.nd (cB (cB (d_v 5) d_i) (jP (bF (cX T) (Br.hm hr) rfl T.f_ T.fh.kp T.ee (aa (d_v 0) (aa (aP (cP (aa d_i (aa d_i (aa d_i af)))) (d_v 4)) af))) (aP (cP (aa d_i (aa d_i (aa (GP d_i d_i) af)))) (d_v 4))))))))))))
  (az (s_r (d_v 6)))))))),Bv (n:=3) (m:=7) rfl h⟩
theorem Dz :
  aT P' w K mg base CX0 1 oE jd ["found"] (spD yj):=
 okQ T.C7 K3 fun _ _ _ _ _ _ hr=>(az (s_r (qg (iy xT (by rfl) rfl T.Hh rfl T.aX (d_v 0)) (qf (GQ (iy tN (by rfl) rfl T.CO rfl T.aX (d_v 0)))))))
theorem DB :
  aT P' w K mg base CX0 2 oF je ["row"] (spD qy):=
 okQ T.C8 K4 fun _ _ _ _ _ _ hr=>(az (s_r (qg (iy jQ (by rfl) rfl T.eN rfl T.aX (d_v 0)) (qf (tO rfl rfl T.uN (aa (fX 0 ["row"] ["number"] (c_n 1 Gj rfl rfl) (d_v 0) (fun _ _ _ _ _=>cF) (fun _ _ _ _ _=>(aN (Dz T) (Br.hm hr) rfl T.Hr T.C7.kp T.yK (aa (d_v 1) af)))) af))))))
theorem Le :
  aT P' w K mg base CX0 3 oG jf ["record","a","b","way"] (spD yk):=
 okQ T.HJ pe fun _ _ _ _ _ _ hr=>(ao (dM (t_w (w_or (dZ (dJ (aN (DB T) (Br.hm hr) rfl T.Ht T.C8.kp T.yL (aa (d_v 3) af)))) (fW (gA hr (tU rfl rfl T.cC rfl T.Hj (d_v 3)) (dc rfl T.cC (aa (d_v 3) af)))))) (az (s_r d_b)) b5)
  (ao (s_a 4 pe.nd (d_v 1))
  (ao (d7 PZ rfl (i_S (d_v 3)) (g_n 5 pe.nd)
  (ao (tQ 6 0 ["record","a","b","way","here","moment","found"] ["tie"] pe.nd (c_n 7 Gk rfl rfl) (d_v 0) (fun _ _ _ _ _=>eG (m9 hr (aP (d_v 7) d_i) (d_v 5))) (fun _ _ _ _ _=>(d_v 7)))
  (ao (dM (t_w (w_or (m9 hr (d_v 6) (cP af)) (w_or (m9 hr (aP (aP (d_v 6) d_i) d_i) (aP (aP (d_v 6) d_i) d_i)) (fW (xQ hr (d_v 4) (Mn (aP (d_v 6) d_i) (o_s d_i) o_n)))))) (az (s_r d_b)) b5)
  (az (s_a 4 pe.nd (qe (cB (aP (aP (d_v 6) d_i) d_i) (aP (aP (d_v 6) d_i) d_i)) (d_v 4)))))))
  (az (s_r (Jo hr (d_v 4) (d_v 2)))))))
theorem Lf :
  aT P' w K mg base CX0 4 oH jh ["record","a","b","ways"] (spD yl):=
 okQ T.HK sJ fun _ _ _ _ _ _ hr=>(ao (dM (t_w (w_or (dZ (dJ (iy jQ (by rfl) rfl T.eN rfl T.aX (d_v 3)))) (fW (dZ (dJ (tO rfl rfl T.uN (aa (fX 3 ["record","a","b","ways","used","%5"] ["way"] (c_n 6 Gm rfl rfl) (d_v 3) (fun _ _ _ _ _=>cF) (fun _ _ _ _ _=>(aN (Le T) (Br.hm hr) rfl T.Ny T.HJ.kp T.C9 (aa (d_v 0) (aa (d_v 1) (aa (d_v 2) (aa (d_v 6) af))))))) af))))))) (az (s_r d_b)) b5)
  (ao (s_a 4 sJ.nd (cP af))
  (ao (d7 PZ rfl (i_S (d_v 3)) (g_n 5 sJ.nd)
  (az (s_a 4 sJ.nd (cB (d_v 4) (d_v 5)))))
  (az (s_r (Jo hr (tU rfl rfl T.cC rfl T.Hj (d_v 4)) (dc rfl T.cC (aa (d_v 4) af))))))))
theorem DF :
  aT P' w K mg base CX0 1 oJ ji ["record","side"] (spD uq):=
 okQ T.C_ K5 fun _ _ _ _ _ _ hr=>(az (s_r (fX 0 ["record","side"] ["moment","a","b"] (c_t rfl (fun _ _ _ _ _=>(bz 2 sL (bz 3 sL (bz 4 sL iH))))) (d_v 0) (fun _ _ _ _ _=>eG (gA hr (zh hr (d_v 3) (d_v 1)) (zh hr (d_v 4) (d_v 1)))) (fun _ _ _ _ _=>(d_v 2)))))
theorem Lg :
  aT P' w K mg base CX0 2 oK jj ["n","side"] (spD ym):=
 okQ T.HL K6 fun _ _ _ _ _ _ hr=>(ao (dM (t_w (w_or (dZ (dJ (iy kit_tuple (by rfl) rfl T.kh rfl T.aX (d_v 1)))) (fW (dZ (dJ (tO rfl rfl T.uN (aa (fX 1 ["n","side"] ["place"] (c_n 2 Gn rfl rfl) (d_v 1) (fun _ _ _ _ _=>cF) (fun _ _ _ _ _=>(qg (aN (Dz T) (Br.hm hr) rfl T.Hr T.C7.kp T.yK (aa (d_v 2) af)) (qf (xU Av Bd Au Bc d_i (d_v 2) (d_v 0)))))) af))))))) (az (s_r d_b)) b5)
  (az (s_r (tO rfl rfl T.uN (aa (ES ["n","side"] ["k"] (c_n 2 Gp rfl rfl) (EN rfl T.bU (aa d_i (aa (dc rfl T.cC (aa (d_v 1) af)) af))) (fun _ _ _ _ _=>cF) (fun _ _ _ _ _=>(Ol (aP (d_v 1) (qe (d_v 2) d_i)) (aP (d_v 1) (d_v 2))))) af)))))
theorem Lh :
  aT P' w K mg base CX0 1 oM jl ["n"] (spD yo):=
 okQ T.HM xr fun _ _ _ _ _ _ hr=>(ao (s_a 1 xr.nd (cP af))
  (ao (d7 PZ rfl (EN rfl T.bU (aa d_i (aa (Mj d_i (qe (d_v 0) d_i)) af))) (g_n 2 xr.nd)
  (az (xS 1 (rN rfl T.kh (aa (ES ["n","found","bits"] ["place"] (c_n 3 Gq rfl rfl) (EN rfl T.bU (aa d_i (aa (d_v 0) af))) (fun _ _ _ _ _=>eG (m9 hr (Jm (Ma (d_v 2) (qe (d_v 3) d_i)) d_i) d_i)) (fun _ _ _ _ _=>(d_v 3))) af)))))
  (az (s_r (d_v 1)))))
theorem Li :
  aT P' w K mg base CX0 2 oN jm ["n","ties","a","b"] (spD yp):=
 okQ T.HN K7 fun _ _ _ _ _ _ hr=>(az (s_r (JP rfl rfl T.CQ (aa (ES ["n","ties","a","b"] ["side"] (c_n 4 Gr rfl rfl) (i_S (aN (Lh T) (Br.hm hr) rfl T.NC T.HM.kp T.Dc (aa (d_v 0) af))) (fun _ _ _ _ _=>eG (gA hr (zh hr (d_v 2) (d_v 4)) (zh hr (d_v 3) (d_v 4)))) (fun _ _ _ _ _=>(dc rfl T.cC (aa (aN (DF T) (Br.hm hr) rfl T.Hu T.C_.kp T.yM (aa (d_v 1) (aa (d_v 4) af))) af)))) af))))
theorem Lj :
  aT P' w K mg base CX0 3 oO jn ["n","record","k"] (spD ur):=
 okQ T.HP pq fun _ _ _ _ _ _ hr=>(ao (s_a 3 pq.nd (kJ rfl T.eN (aa (d_v 1) af)))
  (ao (d7 PZ rfl (i_S (d_v 1)) (g_n 4 pq.nd)
  (ao (tQ 5 3 ["n","record","k","kept","tie","others"] ["one"] pq.nd (c_n 6 Gs rfl rfl) (d_v 3) (fun _ _ _ _ _=>eG (gA hr (d_v 6) (d_v 4))) (fun _ _ _ _ _=>(d_v 6)))
  (az (dM (t_w (w_or (m9 hr (aP (d_v 4) d_i) (aP (d_v 4) d_i)) (fW (Mc (aN (Li T) (Br.hm hr) rfl T.ND T.HN.kp T.Dd (aa (d_v 0) (aa (d_v 5) (aa (aP (d_v 4) d_i) (aa (aP (d_v 4) d_i) af))))) (d_v 2))))) (az (s_a 3 pq.nd (d_v 5))) b5))))
  (az (s_r (d_v 3)))))
theorem Lk :
  aT P' w K mg base CX0 5 oQ jo ["n","record","kept","k","told"] (spD uu):=
 okQ T.HQ fU fun _ _ _ _ _ _ hr=>(ao (s_u rfl (bz 5 fU.nd (bz 6 fU.nd iH)) (d_v 4))
  (ao (tQ 7 1 ["n","record","kept","k","told","ways","sides","gone","%8","some","side","moments"] ["tie"] fU.nd (c_n 12 Gu rfl rfl) (d_v 1) (fun _ _ _ _ _=>eG (xQ hr (d_v 12) (d_v 2))) (fun _ _ _ _ _=>(d_v 12)))
  (ao (dM (t_w (w_or (dZ (dJ (iy jQ (by rfl) rfl T.eN rfl T.aX (d_v 5)))) (w_or (dZ (dJ (iy jQ (by rfl) rfl T.eN rfl T.aX (d_v 6)))) (fW (gA hr (dc rfl T.cC (aa (d_v 5) af)) (dc rfl T.cC (aa (d_v 7) af))))))) (az (s_r d_b)) b5)
  (ao (d7 PZ rfl (GS rfl T.Hl (aa (d_v 7) (aa (d_v 5) af))) (g_t rfl (bz 8 fU.nd (bz 9 fU.nd iH)))
  (ao (dM (t_w (w_or (dZ (dJ (aN (Lf T) (Br.hm hr) rfl T.Nz T.HK.kp T.De (aa (d_v 2) (aa (aP (d_v 8) d_i) (aa (aP (d_v 8) d_i) (aa (d_v 9) af))))))) (fW (gA hr (dc rfl T.cC (aa (d_v 9) af)) (d_v 3))))) (az (s_r d_b)) b5)
  (az (dM (t_w (w_and (m9 hr (aP (d_v 8) d_i) (aP (d_v 8) d_i)) (ng (gA hr (d_v 9) (ES ["n","record","kept","k","told","ways","sides","gone","tie","some","side","moments"] ["turn"] (c_n 12 Gv rfl rfl) (rO rfl T.bU (aa (d_v 3) af)) (fun _ _ _ _ _=>cF) (fun _ _ _ _ _=>(cP af))))))) (az (s_r d_b)) b5))))
  (ao (dM (t_w (w_or (gA hr (dc rfl T.cC (aa (d_v 6) af)) (dc rfl T.cC (aa (d_v 2) af))) (fW (dZ (dJ (tO rfl rfl T.uN (aa (fX 6 ["n","record","kept","k","told","ways","sides","gone","tie","some","%10","moments"] ["side"] (c_n 12 Gw rfl rfl) (d_v 6) (fun _ _ _ _ _=>cF) (fun _ _ _ _ _=>(aN (Lg T) (Br.hm hr) rfl T.NB T.HL.kp T.Df (aa (d_v 0) (aa (d_v 12) af))))) af))))))) (az (s_r d_b)) b5)
  (ao (d7 PZ rfl (GS rfl T.Hl (aa (d_v 2) (aa (d_v 6) af))) (g_t rfl (bz 8 fU.nd (bz 10 fU.nd iH)))
  (ao (s_a 11 fU.nd (aN (DF T) (Br.hm hr) rfl T.Hu T.C_.kp T.yM (aa (d_v 2) (aa (d_v 10) af))))
  (az (dM (t_w (w_or (xQ hr (aP (d_v 8) d_i) (d_v 11)) (fW (Jq (dc rfl T.cC (aa (d_v 11) af)) (d_v 3))))) (az (s_r d_b)) b5))))
  (az (s_r d_b))))))))
theorem DG :
  aT P' w K mg base CX0 6 oR jq ["n","record","k","found"] (spD lR):=
 okQ T.Di Dv fun _ _ _ _ _ _ hr=>(ao (s_a 4 Dv.nd (aN (Lj T) (Br.hm hr) rfl T.NF T.HP.kp T.Dg (aa (d_v 0) (aa (d_v 1) (aa (d_v 2) af)))))
  (ao (dM (t_w (w_or (dZ (dJ (iy kit_tuple (by rfl) rfl T.kh rfl T.aX (d_v 3)))) (w_or (gA hr (dc rfl T.cC (aa (d_v 3) af)) d_i) (fW (dZ (dJ (aN (DB T) (Br.hm hr) rfl T.Ht T.C8.kp T.yL (aa (aP (d_v 3) d_i) af)))))))) (az (s_r d_b)) b5)
  (az (s_r (qg (Jo hr (aP (d_v 3) d_i) (fX 4 ["n","record","k","found","kept"] ["tie"] (c_n 5 Gx rfl rfl) (d_v 4) (fun _ _ _ _ _=>cF) (fun _ _ _ _ _=>(aP (d_v 5) d_i)))) (qf (aN (Lk T) (Br.hm hr) rfl T.NG T.HQ.kp T.Dh (@aa _ _ _ _ _ (d_v 0) (@aa _ _ _ _ _ (d_v 1) (@aa _ _ _ _ _ (d_v 4) (@aa _ _ _ _ _ (d_v 2) (@aa _ _ _ _ _ (MP (d_v 3) (o_s d_i) o_n) af rfl) rfl) rfl) rfl) rfl))))))))
theorem ki :
  aT P' w K mg base CX0 1 oS jr ["found"] (spP bR):=by
 refine T.Dj.ok K8 (fun vs H Q E h=>fP h) (fun cdv A outer s H vs Q E hr h=>?_);exact⟨_,(q_r (BS (t7 (p_o (kJ rfl T.eN (aa (aP (d_v 0) d_i) af))) (t7 (E5 ["found"] ["some"] (c_n 1 Gy rfl rfl) (i_S (aP (d_v 0) d_i)) (fun _ _ _ _ _=>(E5 ["found","some"] ["way"] (c_n 2 Gz rfl rfl) (i_S (d_v 1)) (fun _ _ _ _ _=>(p_o (kJ rfl T.eN (aa (d_v 2) af))))))) (t7 (p_o (kJ rfl T.eN (aa (aP (d_v 0) d_i) af))) JS))))),nH (n:=1) (m:=0) rfl h⟩
theorem Ll :
  aT P' w K mg base CX0 2 oU jt ["found"] (spE qz):=by
 refine T.HR.ok lA (fun vs H Q E h=>Ff h) (fun cdv A outer s H vs Q E hr h=>?_);exact ⟨_,(m_c (Fg rfl (bz 1 lA.nd (bz 2 lA.nd (bz 3 lA.nd iH))) (kT (ki T) (Br.hm hr) rfl T.Hw T.Dj.kp T.yN (aa (d_v 0) af)))
  (m_c (G0 0)
  (m_c (GZ PZ rfl (rO rfl T.bU (aa (dc rfl T.cC (aa (d_v 2) af)) af)) (g_n 4 lA.nd)
  (BV (GZ PZ rfl (rO rfl T.bU (aa (dc rfl T.cC (aa (aP (d_v 2) (d_v 4)) af)) af)) (g_n 5 lA.nd)
  (BV (OE (gA hr (aP (aP (aP (d_v 0) d_i) (d_v 4)) (d_v 5)) (aP (aP (d_v 2) (d_v 4)) (d_v 5))) (BW (OG d_b)) MG)
  (BW (J5 (d_v 4) (d_v 5) (Mb d_i)))))
  (BW (J4 (d_v 4)))))
  (MB (gA hr (aP (d_v 0) d_i) (d_v 3)) (az (s_r d_b))
  (m_c (G0 1)
  (MC (az (s_r d_b)))))))),MT (n:=1) (m:=5) rfl h⟩
theorem Lm :
  aT P' w K mg base CX0 7 oV lz ["script"] (spD (nQ bZ bg)):=
 okQ T.NL dU fun _ _ _ _ _ _ hr=>(ao (s_a 1 dU.nd (aN (Dy T) (Br.hm hr) rfl T.Hq T.C6.kp T.yO (aa (d_v 0) (aa d_i af))))
  (ao (s_a 2 dU.nd (cB d_i (bF (cX T) (Br.hm hr) rfl T.f_ T.fh.kp T.ee (aa (d_v 1) (aa d_i af)))))
  (ao (d7 PZ rfl (EN rfl T.bU (aa d_i (aa (Bl rfl rfl T.Hi (aa d_i (aa (Bk rfl rfl T.CQ (aa d_i (aa (dc rfl T.cC (aa (d_v 0) af)) af))) af))) af))) (g_n 3 dU.nd)
  (ao (s_a 1 dU.nd (aN (Dy T) (Br.hm hr) rfl T.Hq T.C6.kp T.yO (aa (d_v 0) (aa (d_v 3) af))))
  (ao (s_a 4 dU.nd (cB d_i (bF (cX T) (Br.hm hr) rfl T.f_ T.fh.kp T.ee (aa (d_v 1) (aa (aP (cP (aa d_i (aa d_i af))) (bF (cX T) (Br.hm hr) rfl T.f_ T.fh.kp T.ee (aa (d_v 1) (aa d_i af)))) af)))))
  (ao (s_a 5 dU.nd (bF (Ld T) (Br.hm hr) rfl T.Nx T.HH.kp T.Dl (aa (d_v 1) (aa (d_v 2) (aa (aP (cP (aa d_i (aa d_i (aa d_i (aa d_i af))))) (bF (cX T) (Br.hm hr) rfl T.f_ T.fh.kp T.ee (aa (d_v 1) (aa d_i af)))) af)))))
  (ao (s_a 6 dU.nd (kJ rfl T.eN (aa (d_v 5) af)))
  (E9 7 dU.nd (lC T) (Br.hm hr) rfl T.CS T.yJ.kp T.uP (aa (d_v 2) (aa (d_v 6) (aa (d_v 4) af)))
  (MB (dZ (dJ (aN (DG T) (Br.hm hr) rfl T.Hv T.Di.kp T.yP (aa (d_v 2) (aa (d_v 5) (aa (d_v 4) (aa (d_v 7) af))))))) (az (s_r d_b))
  (m_c (JZ 8 dU.nd (kT (ki T) (Br.hm hr) rfl T.Hw T.Dj.kp T.yN (aa (d_v 7) af)))
  (MX (Ll T) (Br.hm hr) rfl T.NH T.HR.kp T.Dq af (w_or (gA hr (uc (lC T) (Br.hm hr) rfl T.CS T.yJ.kp T.uP (aa (d_v 2) (aa (d_v 6) (aa (d_v 4) af)))) (d_v 8)) (fW (gA hr (d_v 6) (d_v 5)))) (az (s_r d_b))
  (az (dM (gA hr (d_v 5) (cP af)) (ao (s_a 9 dU.nd (bF (cX T) (Br.hm hr) rfl T.f_ T.fh.kp T.ee (aa (d_v 1) (aa (dc rfl T.cC (aa (d_v 5) af)) af))))
  (ao (s_e (x6 6 (d_v 9)))
  (az (dM (dZ (dJ (aN (DG T) (Br.hm hr) rfl T.Hv T.Di.kp T.yP (aa (d_v 2) (aa (cB (Mh (d_v 5) o_n (o_s (d_v 9))) (Mh (d_v 5) (o_s (cB (d_v 9) d_i)) o_n)) (aa (d_v 4) (aa (uc (lC T) (Br.hm hr) rfl T.CS T.yJ.kp T.uP (aa (d_v 2) (aa (d_v 6) (aa (d_v 4) af)))) af))))))) (az (s_r d_b)) b5)))) b5)))))))))))
  (az (s_r d_b)))))
end
theorem all_mk{l:R6}{w:World}{K:Pf}{h:Heap}{mg:Str->Option Value}{fa wZ w_ xg xh xj uL uM bZ xm xo n6 n8 n9 n_ oh bg oi oj oq ou oz oA oB oE oF oG oH oJ oK oM oN oO oQ oR oS oU oV:Addr}{oW oX oY oZ o6 l6 l7 o7 o8 o9 iU iV iW iX iY iZ i6 i7 i8 i9 i_ ja jb jd je jf jh ji jj jl jm jn jo jq jr jt lz:FuncData}(X:K.In h)(G:h.Ns mainGlobals mg)(hfa:mg "law" = some (.ref fa))
  (DH:bB K "steps_of" (top 3) wZ oW)
  (DJ:bB K "free_steps" (top 4) w_ oX)
  (DK:bB K "led_steps" (top 5) xg oY)
  (DL:bB K "shortest_ways" (top 6) xh oZ)
  (DM:bB K "lead_along" (top 7) xj o6)
  (DO:bB K "parted" (top 8) uL l6)
  (DQ:bB K "ways_apart" (top 1) uM l7)
  (DR:bB K "hang_often" (top 2) bZ o7)
  (DU:bB K "is_whole" (top 13) xm o8)
  (DV:bB K "is_within" (top 14) xo o9)
  (uT:bB K "is_layers" (top 15) n6 iU)
  (uU:bB K "look_at_layers" (top 16) n8 iV)
  (uV:bB K "without" (top 20) n9 iW)
  (uW:bB K "kept_ties" (top 19) n_ iX)
  (uX:bB K "no_ways" (top 22) oh iY)
  (uY:bB K "ways_by_ties" (top 23) bg iZ)
  (uZ:bB K "ways_out" (top 21) oi i6)
  (u5:bB K "side_for" (top 24) oj i7)
  (u6:bB K "pared" (top 18) oq i8)
  (u7:bB K "_law_cell_at" (top 26) ou i9)
  (u9:bB K "_law_pool" (top 27) oz i_)
  (u_:bB K "_law_take" (top 28) oA ja)
  (vc:bB K "_law_record" (top 29) oB jb)
  (vd:bB K "_law_whole" (top 30) oE jd)
  (ve:bB K "_law_are_wholes" (top 31) oF je)
  (vf:bB K "_law_leads" (top 32) oG jf)
  (vg:bB K "_law_apart" (top 33) oH jh)
  (vh:bB K "_law_rim" (top 34) oJ ji)
  (vj:bB K "_law_is_side" (top 35) oK jj)
  (vm:bB K "_law_sides" (top 36) oM jl)
  (vn:bB K "_law_often" (top 37) oN jm)
  (vo:bB K "_law_kept" (top 38) oO jn)
  (vp:bB K "_law_shown" (top 39) oQ jo)
  (vq:bB K "_law_right" (top 40) oR jq)
  (vt:bB K "_law_copy" (top 41) oS jr)
  (vv:bB K "_law_emptied" (top 42) oU jt)
  (qO:bB K "law" (top 43) oV lz)
  (DX:Qn K mainGlobals "all" = some none)
  (xw:Qn K mainGlobals "bool" = some none)
  (xx:Qn K mainGlobals "dict" = some none)
  (DY:Qn K mainGlobals "int" = some none)
  (fV:Qn K mainGlobals "isinstance" = some none)
  (DZ:Qn K mainGlobals "len" = some none)
  (xy:Qn K mainGlobals "list" = some none)
  (D0:Qn K mainGlobals "max" = some none)
  (D3:Qn K mainGlobals "min" = some none)
  (sN:Qn K mainGlobals "range" = some none)
  (D4:Qn K mainGlobals "set" = some none)
  (pB:Qn K mainGlobals "sorted" = some none)
  (sO:Qn K mainGlobals "tuple" = some none)
  (D5:Qn K mainGlobals "zip" = some none) :
  ∃fd:FuncData,(∀(s:Shared) (v:Value),BindsTo s fd ⟨[v],[]⟩ [("script",v)])/\∀base:Heap,K.In base->base.Ns mainGlobals mg->aT l.prog w K mg base CX0 7 fa fd ["script"] (spD (nQ bZ bg)):=by
 have e:=hfa.symm.trans (qO.m X G);cases e;have F9:=DH.F.dP (ps:=["n","ties"]) rfl fun _ _ _ _ _ _ _ _=>rfl;have F_:=DJ.F.dP (ps:=["steps","heads"]) rfl fun _ _ _ _ _ _ _ _=>rfl;have F7:=DK.F.dP (ps:=["steps","heads"]) rfl fun _ _ _ _ _ _ _ _=>rfl;have Ab:=DL.F.dP (ps:=["steps","a"]) rfl fun _ _ _ _ _ _ _ _=>rfl;have Ga:=DM.F.dP (ps:=["heads","way"]) rfl fun _ _ _ _ _ _ _ _=>rfl;have Gb:=DO.F.kQ (ps:=["steps","heads","a","b","count"]) rfl fun _ _ _ _ _ _ _ _ _ _ _=>rfl;have CV:=DQ.F.kQ (ps:=["n","ties","a","b","most"]) rfl fun _ _ _ _ _ _ _ _ _ _ _=>rfl;have KG:=DR.F.kQ (ps:=["n","ties","a","b","times"]) rfl fun _ _ _ _ _ _ _ _ _ _ _=>rfl;have KC:=DU.F.fO (ps:=["thing"]) rfl fun _ _ _ _ _ _ _=>rfl;have KD:=DV.F.rT (ps:=["thing","low","high"]) rfl fun _ _ _ _ _ _ _ _ _=>rfl;have CW:=uT.F.fO (ps:=["thing"]) rfl fun _ _ _ _ _ _ _=>rfl;have C1:=uU.F.fO (ps:=["k"]) rfl fun _ _ _ _ _ _ _=>rfl;have yI:=uV.F.dP (ps:=["ties","tie"]) rfl fun _ _ _ _ _ _ _ _=>rfl;have C2:=uW.F.kO (ps:=["n","record","k","often"]) rfl fun _ _ _ _ _ _ _ _ _ _=>rfl;have CZ:=uX.F.fO (ps:=["k"]) rfl fun _ _ _ _ _ _ _=>rfl;have C0:=uY.F.kQ (ps:=["n","kept","a","b","k"]) rfl fun _ _ _ _ _ _ _ _ _ _ _=>rfl;have C3:=uZ.F.kQ (ps:=["n","record","kept","k","ways_of"]) rfl fun _ _ _ _ _ _ _ _ _ _ _=>rfl;have C4:=u5.F.kO (ps:=["n","kept","tie","k"]) rfl fun _ _ _ _ _ _ _ _ _ _=>rfl;have uP:=u6.F.rT (ps:=["n","record","k"]) rfl fun _ _ _ _ _ _ _ _ _=>rfl;have C5:=u7.F.dP (ps:=["script","k"]) rfl fun _ _ _ _ _ _ _ _=>rfl;have yO:=u9.F.dP (ps:=["script","at"]) rfl fun _ _ _ _ _ _ _ _=>rfl;have ee:=u_.F.dP (ps:=["pool","many"]) rfl fun _ _ _ _ _ _ _ _=>rfl;have Dl:=vc.F.rT (ps:=["pool","n","most"]) rfl fun _ _ _ _ _ _ _ _ _=>rfl;have yK:=vd.F.fO (ps:=["found"]) rfl fun _ _ _ _ _ _ _=>rfl;have yL:=ve.F.fO (ps:=["row"]) rfl fun _ _ _ _ _ _ _=>rfl;have C9:=vf.F.kO (ps:=["record","a","b","way"]) rfl fun _ _ _ _ _ _ _ _ _ _=>rfl;have De:=vg.F.kO (ps:=["record","a","b","ways"]) rfl fun _ _ _ _ _ _ _ _ _ _=>rfl;have yM:=vh.F.dP (ps:=["record","side"]) rfl fun _ _ _ _ _ _ _ _=>rfl;have Df:=vj.F.dP (ps:=["n","side"]) rfl fun _ _ _ _ _ _ _ _=>rfl;have Dc:=vm.F.fO (ps:=["n"]) rfl fun _ _ _ _ _ _ _=>rfl;have Dd:=vn.F.kO (ps:=["n","ties","a","b"]) rfl fun _ _ _ _ _ _ _ _ _ _=>rfl;have Dg:=vo.F.rT (ps:=["n","record","k"]) rfl fun _ _ _ _ _ _ _ _ _=>rfl;have Dh:=vp.F.kQ (ps:=["n","record","kept","k","told"]) rfl fun _ _ _ _ _ _ _ _ _ _ _=>rfl;have yP:=vq.F.kO (ps:=["n","record","k","found"]) rfl fun _ _ _ _ _ _ _ _ _ _=>rfl;have yN:=vt.F.fO (ps:=["found"]) rfl fun _ _ _ _ _ _ _=>rfl;have Dq:=vv.F.fO (ps:=["found"]) rfl fun _ _ _ _ _ _ _=>rfl;refine⟨_,fun s v=>qO.OI (fun _ _ _ _ _ _ _=>rfl) s v,fun base Xb _=>?_⟩;have T:Txt mg K base ..:=⟨mno X G DX,mno X G xw,mno X G xx,mno X G DY,mno X G fV,mno X G DZ,mno X G xy,mno X G D0,mno X G D3,mno X G sN,mno X G D4,mno X G pB,mno X G sO,mno X G D5,DH.m X G,DJ.m X G,DK.m X G,DL.m X G,DM.m X G,DO.m X G,DQ.m X G,DR.m X G,DU.m X G,DV.m X G,uT.m X G,uU.m X G,uV.m X G,uW.m X G,uX.m X G,uY.m X G,uZ.m X G,u5.m X G,u6.m X G,u7.m X G,u9.m X G,u_.m X G,vc.m X G,vd.m X G,ve.m X G,vf.m X G,vg.m X G,vh.m X G,vj.m X G,vm.m X G,vn.m X G,vo.m X G,vp.m X G,vq.m X G,vt.m X G,vv.m X G,qO.m X G,DH.F,DJ.F,DK.F,DL.F,DM.F,F7,Ab,DO.F,F9,F_,Ga,Gb,DQ.F,CV,DR.F,DU.F,KC,DV.F,KD,uT.F,CW,uU.F,uV.F,KG,yI,uW.F,uX.F,uY.F,CZ,C0,uZ.F,u5.F,C1,C2,C3,C4,u6.F,u7.F,C5,u9.F,u_.F,ee,vc.F,vd.F,yK,ve.F,yL,vf.F,C9,vg.F,vh.F,vj.F,vm.F,yM,Dc,vn.F,Dd,vo.F,De,Df,vp.F,Dg,Dh,vq.F,vt.F,yN,vv.F,uP,yO,Dl,yP,Dq,qO.F⟩
 exact Lm T
theorem walk{bZ bg:Nat}{l:R6}{q:Program}{loose:List Str}{XP:(Str->Option Value)->Heap->Prop}{YP:World->Heap->Prop}{d:DefRec}{K:Params->Pf}(hn:l.most=some 63)(hdf:d.params.defaults=[])
  (hY:∀(w:World) (h:Heap),YP w h->(K w.params).In h) (M:∀ns:List Int,ns.length<=63->nQ bZ bg [.lst (ns.map Dat.int)]=some (.val (.bl true))) (hK:∀w:World,Bp (K w.params)=true)
  (F:∀ (w:World) (mg:Str→Option Value) (fa:Addr) (h:Heap),(K w.params).In h→h.Ns mainGlobals mg→mg d.name=some (.ref fa) →
   ∃fd:FuncData,(∀(s:Shared) (u:Value),BindsTo s fd ⟨[u],[]⟩ [("script",u)])/\∀base:Heap,(K w.params).In base->base.Ns mainGlobals mg->aT l.prog w (K w.params) mg base CX0 7 fa fd ["script"] (spD (nQ bZ bg))) :
  PySem.W.WalkO q loose XP YP l.row.toRowW d [] (fun f vs=>PySem.call f vs):=
 L2.Eo (n:=63) (k:=7) (x := "script") (CX:=fun _=>CX0) (sp:=fun _=>spD (nQ bZ bg)) hn (by decide) hdf ⟨rfl,by decide,by decide,rfl⟩ hY F
  (fun w H a ns hl hO hS=>Jw (M ns hl) (hK w) hS) fun _ _ _ _ _ z=>z
open PySem PySem.W PySem.W.X
theorem D6{q:Program}{loose:List Str}{XP:(Str->Option Value)->Heap->Prop}{r:RowW}{d:DefRec}{kwd:List (Str×Expr)}{run:Value->List Value->Sem Value}{K:Params->Frag}{as:List Addr}{n t:Nat}(e:∀P,as=(K P).map (·.1))
  (W:WalkO q loose XP (fun w h=>(K w.params).In h) r d kwd run):WalkX q loose XP (obsZ as) (valZ K n t) r d kwd run:=
 fun w s₀ s₁ mg mb G y a o pm cd doc dV kV ho hd G3 hD hmg hg args vals as' L=>W w s₀ s₁ mg mb G (InK.keeps w _ _ (z_facts e y).2.1 L.keeps) a o pm cd doc dV kV ho hd G3 hD hmg hg args vals as'
end Q
noncomputable def PySem.W.Fast.tw10301498446999555031:PySem.Program:=PySem.Challenge.pw_sinceply_k39_pared_told
theorem PySem.W.Fast.te10301498446999555031:PySem.Challenge.pw_sinceply_k39_pared_told=PySem.W.Fast.tw10301498446999555031:=rfl
namespace PySem.W.Fast
def tw2594744780628986973:=0
def tw14139602643656460931:=0
def tw11343796732963013513:=0
def tw15077937985709177169:=0
def tw17926542477975820107:=0
def tw12937375125575167206:=0
def tw9092082511718493132:=0
def tw3013039710554561089:=0
def tw7043734578786295969:=0
def tw11115688018956007038:=0
def tw124839679673165677:=0
def tw15529678870205358328:=0
def tw4356187407375045231:=0
def tw15685653670431538359:=0
def tw5829304490493757291:=0
def tw14461569920334279224:=0
def tw15665253624400052387:=0
def tw18212116594131108952:=0
def tw12766877866686182868:=0
def tw7504113308649884119:=0
def tw14815242470424506691:=0
def tw8938092464260761572:=0
def tw15398266638800424619:=0
def tw17066857110007870676:=0
def tw18445379800257422886:=0
def tw966335378419739786:=0
def tw1275551118828091215:=0
def tw14603166810404709159:=0
def tw16153426770869069904:=0
def tw5237739386259013382:=0
def tw14135352117451934649:=0
def tw14236776168464213586:=0
def tw7893341681417574778:=0
def tw8968947579890670577:=0
def tw5459076058507932131:=0
def tw16372650733024778168:=0
def tw2247881956953452854:=0
def tw15312838536541347015:=0
def tw16284807921798542863:=0
def tw4853842227709045609:=0
def tw8156700730145034706:=0
def tw8622094775673376381:=0
def tw10501726073115401747:=0
def tw4652486942060287428:=0
def tw6000912773680380970:=0
def tw17170790770742546254:=0
def tw13909505812795838270:=0
def tw13692323242656567482:=0
def tw13888030708859108276:=0
def tw154406011580344806:=0
def tw1320982293284974354:=0
def tw13615020845821207336:=0
def tw9959791824085263327:=0
def tw3211402358011943222:=0
def tw2683449648392882964:=0
def tw7492242276523847784:=0
def tw9243756460634980799:=0
def tw13981756015023764021:=0
def tw17654242776730410120:=0
def tw10355706715350741821:=0
def tw3242739074595638642:=0
def tw11106765425506552568:=0
def tw18272232110933570268:=0
def tw16877298284992319337:=0
def tw16958186726895843596:=0
def tw16039949402222671016:=0
def tw5619590418588919631:=0
def tw1991397116146309332:=0
def tw6225095377046230169:=0
def tw10553841038070495652:=0
def tw15471506217923338015:=0
def tw15651081414425989092:=0
def tw7869352000650525658:=0
def tw3759599605469633764:=0
def tw6021241430834885267:=0
def tw17362968337434048459:=0
def tw8235247512708001386:=0
def tw14850864371910740596:=0
def tw16406333698191373733:=0
def tw14301739553392083043:=0
def tw1179188022052773355:=0
def tw4440661827086186589:=0
def tw7482992061379691399:=0
def tw997636510117868006:=0
def tw1484100230427480679:=0
def tw5861161884596690380:=0
def tw3132095073828913856:=0
def tw16740775938190771118:=0
def tw4377107746886658852:=0
def tw6882299570294228978:=0
def tw4360510457358970359:=0
def tw17660497390570711682:=0
def tw14362221670819379725:=0
def tw14542516080668446210:=0
def tw11207484593457838918:=0
def tw3136137712494471621:=0
def tw14368509836938387302:=0
def tw13550095746387784047:=0
def tw870943131832852123:=0
def tw10098959335618868608:=0
def tw12606785937871749357:=0
def tw2441784465281062038:=0
def tw17996774054998168946:=0
def tw5505785065612541564:=0
def tw3674567499112210943:=0
def tw12669554255156766732:=0
def tw3847816421281824107:=0
def tw4714443228047230672:=0
def tw6604962070871142440:=0
def tw10314866769902570721:=0
def tw2883289557645041057:=0
def tw6641291495226925577:=0
def tw5611125958641668914:=0
def tw18039160640872460835:=0
def tw14218532995702214581:=0
def tw10093824837360862810:=0
def tw5808329593833159074:=0
def tw3620910739109458698:=0
def tw13966713170297000729:=0
def tw16998057069543556407:=0
def tw11493984770898567282:=0
def tw16632007802347766064:=0
def tw2705302071693122043:=0
def tw3090207491882754204:=0
def tw16725588412514940265:=0
def tw9805308673115137399:=0
def tw15071520873220421859:=0
def tw3618633049434046686:=0
def tw3530898868579536915:=0
def tw15828734597851794321:=0
def tw15873415260675942493:=0
def tw10327179772245599051:=0
def tw16514551843919310327:=0
def tw4575757458222260781:=0
def tw15410489290615432151:=0
def tw6520419243024483844:=0
def tw6843009623856647186:=0
def tw5527668432716809308:=0
def tw2963101205577396419:=0
def tw7687018489485896071:=0
def tw16991892662574033325:=0
def tw10484977706188051314:=0
def tw9264386692959824850:=0
def tw8569688236946873655:=0
def tw17085748080527704363:=0
def tw17465341498122821871:=0
def tw18123661830208273342:=0
def tw14724863514347488936:=0
def tw7629417792925487393:=0
def tw6484232855838409681:=0
def tw6549361886358054426:=0
def tw2212028409956329210:=0
def tw5520189244376458341:=0
def tw4029035786936436625:=0
def tw15195013826599531507:=0
def tw8153446565078259878:=0
def tw11570930508849355089:=0
def tw3400108422403293343:=0
def tw3332358813594347810:=0
def tw2604948660601287062:=0
def tw987839365387965285:=0
def tw12288146381073984669:=0
def tw11049066696702974700:=0
def tw16746814099025969432:=0
def tw39482948042823532:=0
def tw975463244203977751:=0
def tw11036207908456241056:=0
def tw7516362596915654536:=0
def tw13154552242390656565:=0
def tw10416985959385359025:=0
def tw4586576022991778669:=0
def tw13539857069621903681:=0
def tw519576134243948717:=0
def tw13805917967797821562:=0
def tw16564849461223208043:=0
def tw16698313043825602726:=0
def tw3835804254167868506:=0
def tw5782220107703965721:=0
def tw1180269553155100036:=0
def tw5991851514599528640:=0
def tw17365854347182896395:=0
def tw2534678844213285520:=0
def tw106250055163812995:=0
def tw8239379893378501517:=0
def tw13525480190506170152:=0
def tw6091195815492534257:=0
def tw6799760685524214991:=0
def tw13068528684187593563:=0
def tw12523900652016020017:=0
def tw2153034815849902670:=0
def tw11425955359582277717:=0
def tw11861425053482084967:=0
def tw10740134064003004990:=0
def tw10152409277986935641:=0
def tw6670900990117743036:=0
def tw5426568769066561804:=0
def tw17197419616950244110:=0
def tw17499947078821602292:=0
def tw16742340688282050016:=0
def tw11578288865422859888:=0
def tw8165596501491092414:=0
def tw5515853330559128703:=0
def tw10606266360531068350:=0
def tw12039887437700937050:=0
def tw1522040733188813073:=0
def tw17624685514574887685:=0
def tw11404553515155787734:=0
def tw1487330881931951562:=0
def tw394324242526135741:=0
def tw771570524467894607:=0
def tw1157433840985916674:=0
def tw6503362136485558398:=0
def tw17124652931951986858:=0
def tw15918361743407724294:=0
def tw13342884437493019726:=0
def tw11935414102813288299:=0
def tw13236141804190711246:=0
def tw7005541921956226927:=0
def tw10082210264068534858:=0
def tw6578651309695154873:=0
def tw8825796916856054183:=0
def tw20915910890375615:=0
def tw6868127464027416468:=0
def tw4944391135455193091:=0
def tw11637918911680263668:=0
def tw16081607786117510782:=0
def tw14358273394478122015:=0
def tw16558827173811311876:=0
def tw16140928382991492376:=0
def tw4502203279344169824:=0
def tw13695164838897092466:=0
end PySem.W.Fast
open PySem PySem.W PyProof.Rows
set_option maxRecDepth 100000 in
set_option maxHeartbeats 0 in
theorem PySem.Challenge.cw_sinceply_k39_pared_told_holds : PySem.Challenge.rw_sinceply_k39_pared_told.Holds := by
 w_on;o_law;z_head;(case hw=>w_witness2)
 k_fill
 refine' Q.D6 (fun _=>rfl) (Q.walk (l:=PySem.Challenge.rw_sinceply_k39_pared_told) rfl rfl (fun w h Y=>Y) (P.math _ _) ?noL ?fnS)
 case noL=>intro w;rfl
 case fnS=>
  intro w mg fa h KX G hmg
  refine' Q.all_mk KX G hmg ?DH ?DJ ?DK ?DL ?DM ?DO ?DQ ?DR ?DU ?DV ?uT ?uU ?uV ?uW ?uX ?uY ?uZ ?u5 ?u6 ?u7 ?u9 ?u_ ?vc ?vd ?ve ?vf ?vg ?vh ?vj ?vm ?vn ?vo ?vp ?vq ?vt ?vv ?qO ?DX ?xw ?xx ?DY ?fV ?DZ ?xy ?D0 ?D3 ?sN ?D4 ?pB ?sO ?D5
  case DH|DJ|DK|DL|DM|DO|DQ|DR|DU|DV|uT|uU|uV|uW|uX|uY|uZ|u5|u6|u7|u9|u_|vc|vd|ve|vf|vg|vh|vj|vm|vn|vo|vp|vq|vt|vv|qO=>refine' Br.aL ?e ?l ?c ?k;(case e=>k_is);(case l=>k_is);(case c=>k_is);(case k=>k_is)
  case DX|xw|xx|DY|fV|DZ|xy|D0|D3|sN|D4|pB|sO|D5=>k_is
end
