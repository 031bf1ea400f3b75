import PyProof.Rows.All
import Wide.All
import OpenK.AllK
import Wide.FinOn
import Lean
import PyProof.EqAt
import PyProof.EqKinds
import PyProof.TupleCall
import KE.KRevIter
import PyProof.EnumMake
import PyProof.EnumFor
import PyProof.ListRange
import PyProof.Rows.Range3
import PyProof.ZipIter
import PyProof.SumWalk
import PyProof.WalksMore
import PyProof.Rows.SetFrom
import PyProof.SetRoads
import PyProof.Rows.SortRunsK
import PyProof.Rows.SortWalk
import KE.KSortTup
import PyProof.Rows.Own
import PyProof.StationsW
import OpenK.KRaise
import KE.KIsAll
import PyProof.ExcArgsOwn
import PyProof.RulesAs
import PyProof.Ns1
import PyProof.Rows.Catch
import OpenK.KOwn
import PyProof.ExcBaseAll.ValueError
import KE.KDictSum
import PyProof.AttrMiss
import PyProof.IsiH_list
import KE.KDictOf
import PyProof.DictList
import KE.KDictList
import PyProof.FactsAll.set
import PyProof.Rows.TupAdd
import KE.KDictMeth
import PyProof.DictWalks
import PyProof.TupleKey
import PyProof.DictStraight
import PyProof.IsRules
import KE.KRevSl
import PyProof.Rows.CallKwBuiltin
import PyProof.Rows.SortShell
import KE.KSortKey
import KE.KLam
import KE.KNestM
import PyProof.CallStr
import OpenK.KMake
import PyProof.ExcClass2
import PyProof.InstStoreFacts
import OpenK.KCls
import PyProof.DictRoadsH
import PyProof.DictUpdate
import PyProof.DictCopy
import PyProof.MeetsDictList
import PyProof.FactsAll.tuple_1
import PyProof.TupleOfSeq
import PySem.Challenge.RW_sinceply_k43_place_ways_told
open Array renaming length_toList→QU,getElem?_eq_getElem→Rp,getElem?_toList→Ru
open Bool renaming and_eq_true→Pu,false_ne_true→Px,false_eq_true→Qu,eq_iff_iff→Rc
open Classical renaming byContradiction→Q4
open False renaming elim→Qd
open ForInStep renaming yield→QO
open Int renaming toNat_natCast→RM,le_refl→RX
open List renaming map_cons→eg,getElem?_set_ne→gc,length_map→gV,mem_cons_of_mem→Dk,replicate→Ds,mem_cons_self→O9,getElem?_eq_some_iff→Pa,mem_map→Pc,length_append→Pd,size_toArray→Pe,map_append→Pf,getElem?_append_left→Pg,nodup_cons→Pj,mem_cons→Pk,mem_singleton→Pn,mem_append→Pp,map_map→Pr,getElem?_eq_getElem→Py,getElem?_set_self→PB,getElem?_map→PD,mem_append_right→PF,mem_filter→PJ,mem_append_left→PK,length_cons→PL,range→PM,getElem?_append_right→PN,length_set→PR,append_nil→PY,getElem?_eq_none→PZ,length_take→P1,filter_cons_of_neg→P7,nodup_append→P9,filter_cons_of_pos→Qa,all_eq_true→Qe,getElem?_replicate→Qg,mem_range→Qh,length_replicate→Qi,lookup_cons→Qj,drop_eq_getElem_cons→Ql,map_congr_left→Qm,length_filter_le→Qn,flatten_cons→Qo,length_range→Qp,pairwise_map→Qq,getD_eq_getElem?_getD→Qs,find?_cons→Qw,map_id→Qx,append_assoc→QB,length_singleton→QC,getElem?_take_of_lt→QD,any_cons→QF,replicate_succ→QH,pairwise_cons→QI,pairwise_flatten→QJ,mem_of_getElem?→QL,getElem?_range→QV,drop_length→QX,cons_append→QY,ext_getElem?→Q2,filter_eq_self→Q8,getElem?_cons_succ→Ra,all_cons→Rb,nil_append→Rf,getElem?_set→Rh,map_nil→Rj,set_append_right→Rk,length_drop→Rl,getElem_mem→Rm,flatten_append→Rn,nodup_nil→Rr,dropLast_sublist→Rx,filterMap_cons→Rz,filter_sublist→RA,mem_filterMap→RD,map_inj_right→RH,find?_eq_none→RI,all_map→RS,of_mem_zip→RU,range'→RY,Pairwise→R3,set_set→R8,Sublist→R9,foldl→Sd
open List.Pairwise renaming imp_of_mem→QE
open Nat renaming le_refl→Pb,lt_of_lt_of_le→Pq,le_of_ble_eq_true→Pw,le_trans→P0,ne_of_lt→P6,zero_le→Qf,not_lt→QN,lt_irrefl→QT,le_of_lt→RO,ne_of_gt→RP,sub_self→Sa
open Ne renaming symm→P4
open Option renaming isSome_map→QS,isSome_iff_exists→Q6
open PyProof.Rows renaming callWith_type1→QZ,slot_tuple_getitem→Q9
open PySem.Builtin.Dict renaming showsAll→Rw
open PySem.Builtin.List renaming listTooLong→QM
open PySem.Builtin.Slice renaming slicePlaces→Q3,sliceAdjust→Ro
open PySem.Builtin.Tuple renaming tupleExact→Q7,tupleHashOf→Rq
open PySem.Calls renaming callWith_builtin→Rg,spliced_nil→Rt,evalArgs_plain→Ry,spliced_cons→RG
open PySem.F renaming plainAttrs_list→Qy,slot_dict_keyiterator_next→QG,slot_dict_get→Rv,slot_dict_iter→RQ
open PySem.Heap renaming get?_push_of_some→Ph,lt_size→Po,get?_push_size→P5,SameBut→Q5,get?_update_self→Ri
open PySem.Heap.SameBut renaming update→QW
open PySem.NameKind renaming cell→R4
open PySem.Obj renaming mapSeq→RN
open PySem.PassesOwn renaming never→PV
open PySem.PyData renaming eqv→Qz,depthAll→Q0,eqvAll→RJ,canLayAll0→RL
open PySem.Str renaming ofString→R7
open PySem.Value renaming ref→PX,int→R5,str→R6,bool→Sb
open PySem.W renaming Frag→O8,fnOf→Qc,nsIn→Qk,kia_one→Qv,keepIn→QA,codeIn→RC,methodObj→RK,instObj→RT,OpenLaw→RW,lookIn→RZ,kitOne→R0
open Sum renaming inl→P8,inr→RB
open True renaming intro→QK
noncomputable section
set_option Elab.async false
set_option linter.all false

set_option maxRecDepth 100000
local macro_rules|`(tactic|trivial)=>`(tactic|first|exact Or.inl rfl|exact Or.inr rfl|exact Or.inr (Or.inl rfl)|exact Or.inr (Or.inr rfl)|assumption)
local macro_rules|`(tactic|and_intros)=>`(tactic|dsimp only[List.map,List.replicate,List.cons_append,List.nil_append])
namespace L2
open PySem PySem.Spec PyProof.Rows
section
variable{a b:Addr}{H:Hp}{o:HO}
noncomputable abbrev Key:=Sum Int Str
noncomputable def pL:Key->Value->Bool
 |.inl k,v=>Value.isInt k v
 |.inr x,v=>Value.isStrOf x v
noncomputable def NK(w:World):Key->Int
 |.inl k=>hashInt k
 |.inr x=>hashStr w x
theorem bz:∀{k:Key} {v:Value},pL k v=true->(∃i t,k=P8 i/\v=R5 i t)\/(∃x t,k=RB x/\v=R6 x t)
 |.inl i,v,h=>by obtain⟨t,e⟩:=Value.isInt_shape (k:=i) (v:=v) h;exact .inl ⟨i,t,rfl,e⟩
 |.inr x,v,h=>by obtain⟨t,e⟩:=Value.isStrOf_shape (x:=x) (v:=v) h;exact .inr ⟨x,t,rfl,e⟩
theorem zg(i:Int)(t:Tok):pL (.inl i) (.int i t)=true:=by simp[pL,Value.isInt]
theorem zh(x:Str)(t:Tok):pL (.inr x) (.str x t)=true:=by simp[pL,Value.isStrOf]
theorem ID(a b:Int):decide ((P8 a:Key)=P8 b)=(a == b):=by
 by_cases e:a=b
 ·subst e;simp
 ·have h:¬(P8 a:Key)=P8 b:=fun q=>e (Sum.inl.inj q);rw[decide_eq_false h];exact(beq_eq_false_iff_ne.mpr e).symm
theorem IE(a b:Str):decide ((RB a:Key)=RB b)=decide (a=b):=by
 by_cases e:a=b
 ·subst e;simp
 ·have h:¬(RB a:Key)=RB b:=fun q=>e (RB.inj q);rw[decide_eq_false h,decide_eq_false e]
theorem IF(a:Int)(b:Str):decide ((P8 a:Key)=RB b)=false:=decide_eq_false (fun q=>nomatch q)
theorem IG(a:Str)(b:Int):decide ((RB a:Key)=P8 b)=false:=decide_eq_false (fun q=>nomatch q)
noncomputable def aJ(prog:Program)(w:World):PySem.KeyKind prog w Key where
 is:=pL
 hash:=NK w
 inj:=fun v a b ha hb=>by
  rcases bz ha with⟨i,t,rfl,rfl⟩ | ⟨x,t,rfl,rfl⟩
  ·rcases bz hb with⟨j,u,rfl,e⟩ | ⟨y,u,rfl,e⟩
   ·injection e with e1 _;rw[e1]
   ·exact nomatch e
  ·rcases bz hb with⟨j,u,rfl,e⟩ | ⟨y,u,rfl,e⟩
   ·exact nomatch e
   ·injection e with e1 _;rw[e1]
 byValue:=fun k v h=>by rcases bz h with⟨i,t,rfl,rfl⟩ | ⟨x,t,rfl,rfl⟩<;>rfl
 pyHash:=fun hv h=>by
  rcases bz hv with⟨i,t,rfl,rfl⟩ | ⟨x,t,rfl,rfl⟩
  ·exact wpAny_pyHash_int h
  ·exact wpAny_pyHash_str h
 eqBool:=fun hu hv h=>by
  rcases bz hu with⟨i,t,rfl,rfl⟩ | ⟨x,t,rfl,rfl⟩
  ·rcases bz hv with⟨j,u,rfl,rfl⟩ | ⟨y,u,rfl,rfl⟩
   ·rw[ID]at h;exact wpAny_eqBool_int h
   ·rw[IF]at h;exact SeqAt.EqAt.int_str i t y u _ _ _ _ h
  ·rcases bz hv with⟨j,u,rfl,rfl⟩ | ⟨y,u,rfl,rfl⟩
   ·rw[IG]at h;exact SeqAt.EqAt.str_int x t j u _ _ _ _ h
   ·rw[IE]at h;exact wpAny_eqBool_str h
 «strs»:=fun k x t v h=>by
  rcases bz h with⟨i,u,rfl,e⟩ | ⟨y,u,rfl,e⟩
  ·exact nomatch e
  ·injection e with e1 _
   subst e1;cases v<;>rfl
theorem sN(prog:Program)(w:World)(i:Int)(t:Tok):(aJ prog w).is (.inl i) (.int i t)=true:=zg i t
theorem sO(prog:Program)(w:World)(x:Str)(t:Tok):(aJ prog w).is (.inr x) (.str x t)=true:=zh x t
inductive V where
 |non | bl (b:Bool) | int (i:Int) | str (x:Str) | byt (b:Array UInt8) | flt (b:UInt64) | ref (a:Addr) | ty (n:String)
 deriving DecidableEq
def RelV:V->Value->Prop
 |.non,u=>u=Value.none
 |.bl b,u=>u=Sb b
 |.int i,u=>∃t,u=R5 i t
 |.str x,u=>∃t,u=R6 x t
 |.byt b,u=>∃t,u=Value.bytes b t
 |.flt b,u=>∃t,u=Value.float b t
 |.ref a,u=>u=PX a
 |.ty n,u=>u=Value.type n
noncomputable abbrev Vals:List V->List Value->Prop:=Paired RelV
theorem Vals.length{xs:List V}{us:List Value}(r:Vals xs us):xs.length=us.length:=Paired.length r
theorem Vals.get:∀{xs:List V} {us:List Value} {i:Nat} {x:V},Vals xs us->xs[i]?=some x->∃u,us[i]?=some u/\RelV x u
 |_,_,_,_,.nil,e=>by simp at e
 |_,_,0,_,.cons r _,e=>by simp at e;subst e;exact⟨_,rfl,r⟩
 |_,_,i+1,x,.cons _ t,e=>by obtain⟨u,h1,h2⟩:=Vals.get (i:=i) (x:=x) t (by simpa using e);exact⟨u,by simpa using h1,h2⟩
theorem Vals.set{x:V}{u:Value}(r:RelV x u):∀{xs:List V} {us:List Value} (i:Nat),Vals xs us->Vals (xs.set i x) (us.set i u)
 |_,_,_,.nil=>.nil
 |_,_,0,.cons _ t=>.cons r t
 |_,_,i+1,.cons q t=>.cons q (Vals.set r i t)
theorem Vals.append:∀{xs ys:List V} {us ws:List Value},Vals xs us->Vals ys ws->Vals (xs++ys) (us++ws)
 |_,_,_,_,.nil,s=>s
 |_,_,_,_,.cons r t,s=>.cons r (Vals.append t s)
theorem Vals.take:∀{xs:List V} {us:List Value} (n:Nat),Vals xs us->Vals (xs.take n) (us.take n)
 |_,_,0,_=>.nil
 |_,_,_+1,.nil=>.nil
 |_,_,n+1,.cons r t=>.cons r (Vals.take n t)
theorem Vals.drop:∀{xs:List V} {us:List Value} (n:Nat),Vals xs us->Vals (xs.drop n) (us.drop n)
 |_,_,0,r=>r
 |_,_,_+1,.nil=>.nil
 |_,_,n+1,.cons _ t=>Vals.drop n t
def jN:Option V->Option Value->Prop
 |some v,some u=>RelV v u
 |none,none=>True
 |_,_=>False
def KV{κ:Type}:List (κ×V)->List (κ×Value)->Prop:=Paired fun(p:κ×V) (q:κ×Value)=>p.1=q.1/\RelV p.2 q.2
noncomputable def kV:Key->V
 |.inl i=>.int i
 |.inr x=>.str x
inductive HO where
 |lst (xs:List V)
 |tup (xs:List V)
 |dK (kvs:List (Key×V)) | dT (kvs:List (List Key×V)) (ts:List Addr)
 |set (S:Int->Bool) (n:Nat)
 |ins (C dx:Addr) (fs:List (Str×V))
 |own (x:Addr)
 |xd (fs:List (Str×V))
 |met (f x:Addr)
 |rng (lo hi:Int)
 |frz (o:Obj) (u:HO)
 |tbl (ln cl:Value) (q:Str)
 |ext (φ:Heap->Prop)
noncomputable abbrev Hp:=Addr->Option HO
noncomputable def upd(H:Hp)(a:Addr)(o:HO):Hp:=fun b=>if b=a then some o else H b
theorem aq{a:Addr}:upd H a o a=some o:=by unfold upd;rw[if_pos rfl]
theorem ao(h:b≠a):upd H a o b=H b:=by unfold upd;rw[if_neg h]
theorem Hi{o u:HO}(h:H a=some o)(h':H b=some u)(d:o≠u):a≠b:=by intro e;subst e;rw[h]at h';exact d (Option.some.inj h')
theorem aH(h:H a=some o)(h':H b=none):a≠b:=by intro e;subst e;rw[h]at h';cases h'
end
section
variable(P:Program)(w:World)
def aQ(H:Hp)(h:Heap)(a:Addr):HO->Prop
 |.lst xs=>xs.length<=sizeLine/\∃(its:List Value) (n:Nat),Vals xs its/\h.get? a=some { cls:=.type "list",data:=.seq its.toArray n }
 |.tup xs=>xs.length<=sizeLine/\∃its:List Value,Vals xs its/\IsTup h a its.toArray
 |.dK kvs=>kvs.length<=sizeLine/\(a == sysModules)=false/\∃vs,KV kvs vs/\h.DictOf (aJ P w) a vs
 |.dT kvs ts=>kvs.length<=sizeLine/\(a == sysModules)=false/\∃xs:List (List Key×Addr×Value),
   Paired (fun(p:List Key×V) (q:List Key×Addr×Value)=>p.1=q.1/\H q.2.1=some (.tup (p.1.map kV))/\RelV p.2 q.2.2) kvs xs /\
   ∃o es ep,h.get? a=some o/\o.ExactDict/\o.data=.dict es ep/\es.toList=xs.map (entryOfKey (tupleKind (aJ P w)))/\(xs.map (·.1)).Nodup/\xs.map (·.2.1)=ts
 |.set S n=>h.SetOf (intKind P w) a S n
 |.ins C dx fs=>H dx=some (.own a)/\fs.length<=1000/\dx≠a/\h.get? a=some (RT C dx) /\
   ∃mA,h.Ns1 dx mA/\(∀f,jN (fs.lookup f) (mA f))/\PySem.Within mA (fs.map (·.1))
 |.own _=>∃o,h.get? a=some o
 |.xd fs=>∃mA,h.Ns1 a mA/\∀f,jN (fs.lookup f) (mA f)
 |.rng lo hi=>∃t u v,h.get? a=some { cls:=.type "range",data:=.fields #[.int lo t,.int hi u,.int 1 v] }
 |.frz o u=>h.get? a=some o/\aQ H h a u
 |.tbl ln cl q=>∃ps:Array Value,h.get? a=some { cls:=.none,data:=.fields ps }/\(ps=#[]\/∃(c:Addr) (oc:Obj) (vs:Array Value) (t:Tok),ps=#[ln,cl,.ref c]/\H c=some (.frz oc (.own a))/\oc.data=.fields vs/\vs[1]?=some (.str q t))
 |.met f x=>h.get? a=some (RK (.ref f) (.ref x))
 |.ext φ=>φ h/\(∃o,h.get? a=some o)/\∀h1 h2:Heap,φ h1->(∀o,h1.get? a=some o->h2.get? a=some o)->φ h2
def HOk(H:Hp)(h:Heap):Prop:=∀a o,H a=some o->aQ P w H h a o
end
section
variable{P:Program}{w:World}{H H':Hp}{h h':Heap}{a:Addr}{o:HO}
theorem aQ.lt(x:aQ P w H h a o):a<h.objs.size:=by
 cases o with
 |lst xs=>obtain⟨_,_,_,_,e⟩:=x;exact Po e
 |tup xs=>obtain⟨_,_,_,p⟩:=x;exact p.lt
 |dK kvs=>obtain⟨_,_,_,_,o,_,_,e,_⟩:=x;exact Po e
 |dT kvs ts=>obtain⟨_,_,_,_,o,_,_,e,_⟩:=x;exact Po e
 |set S n=>obtain⟨o,_,_,_,e,_⟩:=x;exact Po e
 |ins C dx fs=>obtain⟨_,_,_,e,_⟩:=x;exact Po e
 |own y=>obtain⟨_,e⟩:=x;exact Po e
 |xd fs=>obtain⟨_,⟨_,_,_,e,_⟩,_⟩:=x;exact Po e
 |rng lo hi=>obtain⟨_,_,_,e⟩:=x;exact Po e
 |frz ob u=>obtain⟨e,_⟩:=x;exact Po e
 |tbl ln cl q=>obtain⟨_,e,_⟩:=x;exact Po e
 |met f y=>exact Po (show h.get? a=some _ from x)
 |ext φ=>obtain⟨_,⟨_,e⟩,_⟩:=x;exact Po e
theorem Paired.II{α β:Type}{F G:α->β->Prop}:∀{l₁:List α} {l₂:List β},Paired F l₁ l₂->(∀a b,F a b->G a b)->Paired G l₁ l₂
 |_,_,.nil,_=>.nil
 |_,_,.cons r t,f=>.cons (f _ _ r) (Paired.II t f)
theorem aQ.stay(x:aQ P w H h a o)(k:∀b u,(b=a\/H b=some (.own a))->h.get? b=some u->h'.get? b=some u)
  (ho:∀b,H b=some (.own a)->H' b=some (.own a)) (hf:∀b o c,H b=some (.frz o (.own c))->H' b=some (.frz o (.own c))) (ht:∀b xs,H b=some (.tup xs)->H' b=some (.tup xs)):aQ P w H' h' a o:=by
 induction o with
 |lst xs=>obtain⟨z,its,n,r,e⟩:=x;exact⟨z,its,n,r,k _ _ (.inl rfl) e⟩
 |tup xs=>obtain⟨z,its,r,ob,e,c⟩:=x;exact⟨z,its,r,ob,k _ _ (.inl rfl) e,c⟩
 |dK kvs=>obtain⟨z,y,vs,r,ob,es,ep,e,c⟩:=x;exact⟨z,y,vs,r,ob,es,ep,k _ _ (.inl rfl) e,c⟩
 |dT kvs ts=>obtain⟨z,y,xs,r,ob,es,ep,e,c⟩:=x;exact⟨z,y,xs,Paired.II r fun p q z=>⟨z.1,ht _ _ z.2.1,z.2.2⟩,ob,es,ep,k _ _ (.inl rfl) e,c⟩
 |set S n=>obtain⟨ob,es,ep,t,e,c⟩:=x;exact⟨ob,es,ep,t,k _ _ (.inl rfl) e,c⟩
 |ins C dx fs=>obtain⟨d,z,ne,e,mA,⟨od,es,ep,e2,c⟩,r⟩:=x;exact⟨ho _ d,z,ne,k _ _ (.inl rfl) e,mA,⟨od,es,ep,k _ _ (.inr d) e2,c⟩,r⟩
 |own y=>obtain⟨ob,e⟩:=x;exact⟨ob,k _ _ (.inl rfl) e⟩
 |xd fs=>obtain⟨mA,⟨od,es,ep,e,c⟩,r⟩:=x;exact⟨mA,⟨od,es,ep,k _ _ (.inl rfl) e,c⟩,r⟩
 |rng lo hi=>obtain⟨t,u,v,e⟩:=x;exact⟨t,u,v,k _ _ (.inl rfl) e⟩
 |frz ob u ih=>obtain⟨e,q⟩:=x;exact⟨k _ _ (.inl rfl) e,ih q⟩
 |tbl ln cl q=>
  obtain⟨ps,e,d⟩:=x;refine⟨ps,k _ _ (.inl rfl) e,?_⟩;rcases d with d | ⟨c,oc,vs,t,d,d2,d3⟩
  ·exact .inl d
  ·exact .inr ⟨c,oc,vs,t,d,hf _ _ _ d2,d3⟩
 |met f y=>have e:h.get? a=some (RK (.ref f) (.ref y)):=x;show h'.get? a=some (RK (.ref f) (.ref y));exact k a _ (.inl rfl) e
 |ext φ=>obtain⟨p,⟨o,e⟩,st⟩:=x;exact⟨st _ _ p fun o q=>k _ _ (.inl rfl) q,⟨o,k _ _ (.inl rfl) e⟩,st⟩
theorem HOk.lt(x:HOk P w H h)(e:H a=some o):a<h.objs.size:=(x a o e).lt
theorem HOk.fresh(x:HOk P w H h)(e:h.objs.size<=a):H a=none:=by
 cases q:H a with
 |none=>rfl
 |some u=>exact absurd (Pq (x.lt q) e) (QT _)
theorem HOk.kept(x:HOk P w H h)(k:∀b u,h.get? b=some u->h'.get? b=some u):HOk P w H h':=fun a o e=>(x a o e).stay (fun b u _ q=>k b u q) (fun _ q=>q) (fun _ _ _ q=>q) fun _ _ q=>q
theorem HOk.laid(x:HOk P w H h)(k:∀b u,h.get? b=some u->h'.get? b=some u)(hp:h.objs.size<=a)(new:aQ P w (upd H a o) h' a o):HOk P w (upd H a o) h':=fun b u e=>by
 have hn:=x.fresh hp;by_cases hb:b=a
 ·subst hb;rw[aq]at e;cases e;exact new
 ·rw[ao hb]at e;exact(x b u e).stay (fun c v _ q=>k c v q) (fun c q=>by rw[ao (aH q hn)];exact q) (fun c _ _ q=>by rw[ao (aH q hn)];exact q) fun c xs q=>by rw[ao (aH q hn)];exact q
end
def Rd(H:Hp)(a:Addr)(u:HO):Prop:=H a=some u\/∃o,H a=some (.frz o u)
theorem Rd.ok{P:Program}{w:World}{H:Hp}{h:Heap}{a:Addr}{u:HO}(r:Rd H a u)(x:HOk P w H h):aQ P w H h a u:=by
 rcases r with r | ⟨o,r⟩
 ·exact x a u r
 ·obtain⟨_,q⟩:=x a _ r;exact q
def Mut:Option HO->Prop
 |some (.lst _)=>True
 |some (.dK _)=>True
 |some (.dT _ _)=>True
 |some (.set _ _)=>True
 |some (.ins _ _ _)=>True
 |some (.ext _)=>True
 |_=>False
section
variable{P:Program}{w:World}{H:Hp}{h h':Heap}{x e:Addr}{o':HO}
theorem HOk.write(ok:HOk P w H h)(mu:Mut (H x))(he:e=x\/H e=some (.own x))(k:∀b u,b≠e->h.get? b=some u->h'.get? b=some u)(heo:∃u,h'.get? e=some u)
  (new:aQ P w (upd H x o') h' x o'):HOk P w (upd H x o') h':=fun b u q=>by
 have Lr:∀c y,H c=some (.own y)->c≠x:=fun c y r z=>by subst z;rw[r]at mu;exact mu
 have NL:∀c xs,H c=some (.tup xs)->c≠x:=fun c xs r z=>by subst z;rw[r]at mu;exact mu
 have NN:∀c o y,H c=some (.frz o y)->c≠x:=fun c o y r z=>by subst z;rw[r]at mu;exact mu
 by_cases hb:b=x
 ·subst hb;rw[aq]at q;cases q;exact new
 ·rw[ao hb]at q;by_cases hbe:b=e
  ·have q':H b=some (.own x):=by
    rcases he with z | z
    ·exact absurd (hbe.trans z) hb
    ·rw[hbe];exact z
   rw[q]at q';cases q';obtain⟨v,hv⟩:=heo;exact⟨v,by rw[hbe];exact hv⟩
  ·refine(ok b u q).stay (fun c v hc r=>k c v ?_ r) (fun c r=>by rw[ao (Lr c b r)];exact r) (fun c _ _ r=>by rw[ao (NN c _ _ r)];exact r) fun c xs r=>by rw[ao (NL c xs r)];exact r
   rcases hc with rfl | hc
   ·exact hbe
   ·rintro rfl;rcases he with z | z
    ·exact Lr c b hc z
    ·rw[hc]at z;cases z;exact hb rfl
end
structure Un(fs ex:List Addr)(H H':Hp)(h h':Heap):Prop where
 keep:∀b o,h.get? b=some o->H b=none->b∉fs->b∉ex->h'.get? b=some o
 slot:∀b o,h.get? b=some o->H b=none->b∈fs->b∉ex->∃sl,h'.get? b=some { o with slots:=sl }
 free:∀b o,h.get? b=some o->H b=none->b∉ex->H' b=none
 there:∀b o,h.get? b=some o->b∉ex->∃o',h'.get? b=some o'
 tups:∀b xs,H b=some (.tup xs)->H' b=some (.tup xs)
 qQ:∀b o u,H b=some (.frz o u)->H' b=some (.frz o u)
 sP:∀b x y z,H b=some (.tbl x y z)->H' b=some (.tbl x y z)
section
variable{fs fs' ex ex':List Addr}{H H1 H2:Hp}{h h1 h2 h':Heap}{a x e:Addr}{o:HO}
theorem Un.any(u:Un fs ex H H1 h h1){b:Addr}{ob:Obj}(q:h.get? b=some ob)(n:H b=none)(hx:b∉ex):∃sl,h1.get? b=some { ob with slots:=sl }:=by
 by_cases hb:b∈fs
 ·exact u.slot b ob q n hb hx
 ·exact⟨ob.slots,u.keep b ob q n hb hx⟩
theorem Un.kept(k:∀b u,h.get? b=some u->h'.get? b=some u):Un fs ex H H h h':=
 ⟨fun b ob q _ _ _=>k b ob q,fun b ob q _ _ _=>⟨ob.slots,k b ob q⟩,fun _ _ _ n _=>n,fun b ob q _=>⟨ob,k b ob q⟩,fun _ _ q=>q,fun _ _ _ q=>q,fun _ _ _ _ q=>q⟩
theorem Un.refl:Un fs ex H H h h:=Un.kept fun _ _ q=>q
theorem Un.laid(k:∀b u,h.get? b=some u->h'.get? b=some u)(hp:h.objs.size<=a)(hn:H a=none):Un fs ex H (upd H a o) h h' where
 keep:=fun b u q _ _ _=>k b u q
 slot:=fun b u q _ _ _=>⟨u.slots,k b u q⟩
 free:=fun b u q n _=>by rw[ao (P6 (Pq (Po q) hp))];exact n
 there:=fun b u q _=>⟨u,k b u q⟩
 tups:=fun b xs q=>by rw[ao (aH q hn)];exact q
 qQ:=fun b u xs q=>by rw[ao (aH q hn)];exact q
 sP:=fun b _ _ _ q=>by rw[ao (aH q hn)];exact q
theorem Un.write(mu:Mut (H x))(he:e=x\/H e=some (.own x))(k:∀b u,b≠e->h.get? b=some u->h'.get? b=some u)(heo:∃u,h'.get? e=some u):Un fs ex H (upd H x o) h h':=by
 have hx:∀b,H b=none->b≠x:=fun b n z=>by subst z;rw[n]at mu;exact mu
 have hb:∀b,H b=none->b≠e:=fun b n z=>by
  subst z;rcases he with r | r
  ·exact hx b n r
  ·rw[n]at r;cases r
 have hm:∀b u,H b=some u->¬Mut (some u)->b≠x:=fun b u q nm z=>by subst z;rw[q]at mu;exact nm mu
 refine ⟨fun b u q n _ _=>k b u (hb b n) q,fun b u q n _ _=>⟨u.slots,k b u (hb b n) q⟩,fun b u q n _=>by rw [ao (hx b n)];exact n,fun b u q _=>?_,
  fun b xs q=>by rw[ao (hm b _ q fun z=>z)];exact q,fun b u xs q=>by rw[ao (hm b _ q fun z=>z)];exact q,fun b _ _ _ q=>by rw[ao (hm b _ q fun z=>z)];exact q⟩
 by_cases hbe:b=e
 ·subst hbe;exact heo
 ·exact⟨u,k b u hbe q⟩
end
section
variable{b:Addr}{h:Heap}{o:Obj}{H:Hp}
noncomputable def trk(h:Heap)(H:Hp):List Addr:=(PM h.objs.size).filter fun a=>(H a).isSome
noncomputable def qR(h:Heap)(H:Hp):Heap:=PySem.W.hideAll h (trk h H)
theorem zj(h:Heap)(H:Hp):(qR h H).objs.size=h.objs.size:=PySem.W.hideAll_size _ _
theorem Ay(e:h.get? b=some o)(n:H b=none):(qR h H).get? b=some o:=
 PySem.W.hideAll_get _ e fun hm=>by have q:(H b).isSome=true:=(PJ.mp hm).2;rw[n]at q;simp at q
theorem Ec(e:(qR h H).get? b=some o):h.get? b=some o/\H b=none:=by
 have e':h.get? b=some o:=PySem.W.of_hideAll (trk h H) e;refine⟨e',?_⟩;cases q:H b with
 |none=>rfl
 |some x=>have hm:b∈trk h H:=PJ.mpr ⟨Qh.mpr (Po e'),by simp[q]⟩;have z:(qR h H).get? b=none:=PySem.W.hideAll_none (trk h H) hm;rw[z]at e;cases e
structure Mod(K:O8)(mg:Str->Option Value)(base:Heap):Prop where
 kin:K.In base
 glob:base.Ns mainGlobals mg
 blt:∃mb,base.Ns builtinsNs mb/\∀x:Str,x ≠ "__name__" -> mb x=bootBuiltins x
 nolimit:base.NoLimit
structure Cx where
 prog:Program
 w:World
 K:O8
 mg:Str->Option Value
 base:Heap
 A:Around
 N:List Str
 s₀:Shared
 H₀:Hp
 env:Env
 outer:List Env
 stack:List Env
 ex:List Addr
 fn:Str->Bool
 calm:Bool
 pn:List (Addr×Obj)
 xe:Value->Shared->Prop
noncomputable def frs(l:List Env):List Addr:=l.filterMap (·.frame)
noncomputable abbrev Cx.fs(X:Cx):List Addr:=frs X.outer
def Vis(sc:Scope)(x:Str):Prop:=sc.names.lookup x=some .local\/sc.names.lookup x=some .cell\/sc.names.lookup x=some .free
def Loc(sc:Scope)(x:Str):Prop:=sc.names.lookup x=some .local\/sc.names.lookup x=some .cell
def Look(env:Env)(h:Heap)(m:Str->Option Value)(x:Str)(u:Value):Prop:=
 (env.kindOf x=some .local/\m x=some u)\/((env.kindOf x=some .cell\/env.kindOf x=some .free)/\∃c,env.cells.lookup x=some c/\h.IsCell c (some u))
structure Cx.Ok(X:Cx):Prop where
 mod:Mod X.K X.mg X.base
 kind:X.env.scope.kind=.function
 glob:X.env.globals=mainGlobals
 blt:X.env.builtins=builtinsNs
 above:X.s₀.heap.objs.size<=X.env.locals
 inj:∀x y c,X.env.cells.lookup x=some c->X.env.cells.lookup y=some c->x=y
 has:∀x,(X.env.kindOf x=some .cell\/X.env.kindOf x=some .free)->∃c,X.env.cells.lookup x=some c
 cab:∀x c,X.fn x=true->X.env.cells.lookup x=some c->X.s₀.heap.objs.size<=c
 hd:X.calm=true->X.A.handled=none
 frames:X.A.frames=some X.stack
 stk:X.stack=X.outer\/(X.stack=X.env::X.outer/\X.env.frame=some X.env.locals)
 exf:∀b∈X.ex,b≠X.env.locals/\∀x c,X.env.cells.lookup x=some c->c≠b
 bs:∀b o,X.base.get? b=some o->X.s₀.heap.get? b=some o/\X.H₀ b=none
 bsz:X.base.objs.size<=X.s₀.heap.objs.size
 Az:∀b o,X.base.get? b=some o->b∉X.ex
 Ed:∀b∈X.ex,b∉X.fs
 l8:X.s₀.heap.FunFrames X.base X.outer
 frf:∀b∈X.fs,X.H₀ b=none
structure Inv(X:Cx)(nC:List (Addr×Obj))(σ:List (Option V))(H:Hp)(s:Shared):Prop where
 ok:X.Ok
 os:s.os=X.s₀.os
 bare:AllBare s.gens
 base:Un X.fs X.ex X.H₀ H X.s₀.heap s.heap
 loc:∃m,s.heap.Ns X.env.locals m/\∀(i:Nat) (x:Str) (v:V),X.N[i]?=some x->σ[i]?=some (some v)->Vis X.env.scope x->∃u,RelV v u/\Look X.env s.heap m x u
 cell:∀x c,X.env.cells.lookup x=some c->∃v,s.heap.IsCell c v
 free:H X.env.locals=none
 iN:∀x c,X.env.cells.lookup x=some c->H c=none
 pin:∀p∈X.pn++nC,s.heap.get? p.1=some p.2/\H p.1=none/\p.1≠X.env.locals/\p.1∉X.fs/\∀v,p.2.data≠.cell v
 hok:HOk X.prog X.w H s.heap
 len:σ.length=X.N.length
end
section
variable{X:Cx}{nC:List (Addr×Obj)}{σ:List (Option V)}{H H':Hp}{s:Shared}{h':Heap}
section
variable{ch:List Addr}{x:Str}{u:Value}{a:Addr}{t':Nat}{i:Nat}{v:V}
theorem Cx.Ok.NO(ok:X.Ok){b:Addr}{o:Obj}(e:X.base.get? b=some o):b∉X.fs:=fun hb=>by have:=(ok.l8.mem hb).1;rw[e]at this;cases this
theorem Inv.bs(I:Inv X nC σ H s):∀b o,X.base.get? b=some o->s.heap.get? b=some o/\H b=none:=fun b o e=>⟨I.base.keep b o (I.ok.bs b o e).1 (I.ok.bs b o e).2 (I.ok.NO e) (I.ok.Az b o e),I.base.free b o (I.ok.bs b o e).1 (I.ok.bs b o e).2 (I.ok.Az b o e)⟩
theorem Inv.bk(I:Inv X nC σ H s):∀b o,X.base.get? b=some o->s.heap.get? b=some o:=fun b o e=>(I.bs b o e).1
theorem Inv.mod(I:Inv X nC σ H s):Mod X.K X.mg X.base:=I.ok.mod
theorem Inv.kIn(I:Inv X nC σ H s):X.K.In s.heap:=I.ok.mod.kin.keeps I.bk
theorem Inv.lt(I:Inv X nC σ H s):X.env.locals<s.heap.objs.size:=let ⟨_,hn,_⟩:=I.loc;hn.lt
theorem Inv.sz(I:Inv X nC σ H s):X.s₀.heap.objs.size<=s.heap.objs.size:=P0 I.ok.above (RO I.lt)
theorem Inv.NP(I:Inv X nC σ H s)(h:s.heap.objs.size<=a):a∉X.fs:=fun hb=>by obtain⟨_,o,ho,_⟩:=I.ok.l8.mem hb;exact absurd (Pq (Po ho) (P0 I.sz h)) (QT _)
theorem Inv.cne(I:Inv X nC σ H s):∀x c,X.env.cells.lookup x=some c->c≠X.env.locals:=fun x c e z=>by obtain⟨v,o,ho,hd⟩:=I.cell x c e;obtain⟨m,⟨o',es,ep,ho',hd',_⟩,_⟩:=I.loc;rw[z,ho']at ho;cases ho;rw[hd']at hd;cases hd
theorem Inv.l8(I:Inv X nC σ H s):s.heap.FunFrames X.base X.outer:=by
 have all:∀(l:List Env),(∀b∈frs l,b∈X.fs)->X.s₀.heap.FunFrames X.base l->s.heap.FunFrames X.base l:=by
  intro l
  induction l with
  |nil=>intro _ _;trivial
  |cons env r ih=>intro hs hl;obtain⟨hk,⟨L,o,hf,hn,ho,hd⟩,hr⟩:=hl;have hL:L∈X.fs:=hs L (by unfold frs;rw[Rz,hf];exact O9);obtain⟨sl,e⟩:=I.base.slot L o ho (I.ok.frf L hL) hL fun z=>I.ok.Ed L z hL;exact⟨hk,⟨L,_,hf,hn,e,hd⟩,ih (fun b hb=>hs b (by unfold frs;rw[Rz,hf];exact Dk _ hb)) hr⟩
 exact all X.outer (fun _ hb=>hb) I.ok.l8
theorem Inv.stack(I:Inv X nC σ H s):s.heap.FunFrames X.base X.stack:=by
 rcases I.ok.stk with e | ⟨e,hf⟩
 ·rw[e];exact I.l8
 ·rw[e];obtain⟨m,hn,_⟩:=I.loc;refine .cons (by rw[I.ok.kind];decide) hf hn ?_ I.l8;exact Heap.get?_none_of_le (P0 I.ok.bsz I.ok.above)
theorem Inv.vM(I:Inv X nC σ H s):∀b∈frs X.stack,b∈X.env.locals::X.fs:=fun b hb=>by
 rcases I.ok.stk with e | ⟨e,hf⟩
 ·rw[e]at hb;exact Dk _ hb
 ·rw[e]at hb;unfold frs at hb;rw[Rz,hf]at hb;exact hb
theorem Inv.xS(I:Inv X nC σ H s):∀b∈frs X.stack,H b=none:=fun b hb=>by
 rcases Pk.mp (I.vM b hb) with e | hb
 ·rw[e];exact I.free
 ·obtain⟨_,o,ho,_⟩:=I.ok.l8.mem hb;exact I.base.free b o ho (I.ok.frf b hb) fun z=>I.ok.Ed b z hb
theorem Inv.step{g':Array GenState}{t':Nat}{d':Drawn}{ch:List Addr}(I:Inv X nC σ H s)
  (hch:∀b∈ch,(b∈X.ex\/X.s₀.heap.objs.size<=b)/\b≠X.env.locals/\(∀x c,X.env.cells.lookup x=some c->c≠b)/\∀p∈X.pn++nC,p.1≠b)
  (keep:∀b o,b≠X.env.locals->b∉X.fs->b∉ch->s.heap.get? b=some o->H b=none->h'.get? b=some o)
  (slot:∀b o,b≠X.env.locals->b∈X.fs->b∉ch->s.heap.get? b=some o->H b=none->∃sl,h'.get? b=some { o with slots:=sl }) (free:∀b o,b∉ch->s.heap.get? b=some o->H b=none->H' b=none)
  (there:∀b o,b∉ch->s.heap.get? b=some o->∃o',h'.get? b=some o')
  (tups:∀b xs,H b=some (.tup xs)->H' b=some (.tup xs)) (qQ:∀b o u,H b=some (.frz o u)->H' b=some (.frz o u)) (sP:∀b x y z,H b=some (.tbl x y z)->H' b=some (.tbl x y z))
  (ns:∀m,s.heap.Ns X.env.locals m->h'.Ns X.env.locals m) (hok:HOk X.prog X.w H' h') (hg:AllBare g') :
  Inv X nC σ H' { s with heap:=h',gens:=g',drawn:=d',toks:=t' }:=by
 have neL:∀b o,X.s₀.heap.get? b=some o->b≠X.env.locals:=fun b o e=>P6 (Pq (Po e) I.ok.above);have neC:∀b o,X.s₀.heap.get? b=some o->b∉X.ex->b∉ch:=fun b o e hx hb=>by
  rcases (hch b hb).1 with z | z
  ·exact hx z
  ·exact absurd (Pq (Po e) z) (QT _)
 have cellK:∀x c,X.env.cells.lookup x=some c->∀v,s.heap.IsCell c v->h'.IsCell c v:=fun x c e v ⟨o,ho,hd⟩=>by
  have nch:c∉ch:=fun z=>(hch c z).2.2.1 x c e rfl;by_cases hc:c∈X.fs
  ·obtain⟨sl,q⟩:=slot c o (I.cne x c e) hc nch ho (I.iN x c e);exact⟨_,q,hd⟩
  ·exact⟨o,keep c o (I.cne x c e) hc nch ho (I.iN x c e),hd⟩
 refine⟨I.ok,I.os,hg,⟨fun b o e n hb hx=>?_,fun b o e n hb hx=>?_,fun b o e n hx=>?_,fun b o e hx=>?_,fun b xs e=>tups b xs (I.base.tups b xs e),fun b o xs e=>qQ b o xs (I.base.qQ b o xs e),fun b x y z e=>?_⟩,?_,fun x c e=>?_,?_,fun x c e=>?_,fun p hp=>?_,hok,I.len⟩
 ·exact keep b o (neL b o e) hb (neC b o e hx) (I.base.keep b o e n hb hx) (I.base.free b o e n hx)
 ·obtain⟨sl,e1⟩:=I.base.slot b o e n hb hx;obtain⟨sl',e2⟩:=slot b _ (neL b o e) hb (neC b o e hx) e1 (I.base.free b o e n hx);exact⟨sl',e2⟩
 ·obtain⟨o',e1⟩:=I.base.there b o e hx;exact free b o' (neC b o e hx) e1 (I.base.free b o e n hx)
 ·obtain⟨o',e1⟩:=I.base.there b o e hx;exact there b o' (neC b o e hx) e1
 ·exact sP _ _ _ _ (I.base.sP _ _ _ _ e)
 ·obtain⟨m,hn,hl⟩:=I.loc;refine⟨m,ns m hn,fun i x v e1 e2 e3=>?_⟩;obtain⟨u,r,l⟩:=hl i x v e1 e2 e3;refine⟨u,r,?_⟩;rcases l with l | ⟨k,c,e,z⟩
  ·exact .inl l
  ·exact .inr ⟨k,c,e,cellK x c e _ z⟩
 ·obtain⟨v,z⟩:=I.cell x c e;exact⟨v,cellK x c e v z⟩
 ·obtain⟨m,⟨o,_,_,ho,_⟩,_⟩:=I.loc;exact free _ o (fun z=>(hch _ z).2.1 rfl) ho I.free
 ·obtain⟨v,o,ho,hd⟩:=I.cell x c e;exact free c o (fun z=>(hch c z).2.2.1 x c e rfl) ho (I.iN x c e)
 ·obtain⟨e,n,ne,nf,d⟩:=I.pin p hp;have nch:p.1∉ch:=fun z=>(hch p.1 z).2.2.2 p hp rfl;exact⟨keep p.1 p.2 ne nf nch e n,free p.1 p.2 nch e n,ne,nf,d⟩
theorem Inv.un(I:Inv X nC σ H s)(u:Un X.fs [] H H' s.heap h')(hok:HOk X.prog X.w H' h'):Inv X nC σ H' { s with heap:=h',toks:=t' }:=by
 obtain⟨m,⟨o,es,ep,ho,r⟩,_⟩:=id I.loc;obtain⟨sl,hL⟩:=u.any ho I.free (by simp);exact I.step (g':=s.gens) (d':=s.drawn) (ch:=[]) (fun _ z=>nomatch z) (fun b o _ hb _ e n=>u.keep b o e n hb (by simp)) (fun b o _ hb _ e n=>u.slot b o e n hb (by simp)) (fun b o _ e n=>u.free b o e n (by simp)) (fun b o _ e=>u.there b o e (by simp)) u.tups u.qQ u.sP (fun m' hm=>by obtain⟨o',es',ep',ho',r'⟩:=hm;rw[ho]at ho';cases ho';exact⟨_,es',ep',hL,r'⟩) hok I.bare
theorem Inv.call{g':Array GenState}{t':Nat}{d':Drawn}(I:Inv X nC σ H s)(u:Un (frs X.stack) ch H H' s.heap h')(hok:HOk X.prog X.w H' h')(hg:AllBare g')
  (hch:∀b∈ch,(b∈X.ex\/X.s₀.heap.objs.size<=b)/\b≠X.env.locals/\(∀x c,X.env.cells.lookup x=some c->c≠b)/\∀p∈X.pn++nC,p.1≠b) :
  Inv X nC σ H' { s with heap:=h',gens:=g',drawn:=d',toks:=t' }:=by
 obtain⟨m,⟨o,es,ep,ho,r⟩,_⟩:=id I.loc;obtain⟨sl,hL⟩:=u.any ho I.free fun z=>(hch _ z).2.1 rfl;exact I.step (ch:=ch) hch (fun b o hL hb hc e n=>u.keep b o e n (fun z=>(Pk.mp (I.vM b z)).elim hL hb) hc) (fun b o _ _ hc e n=>u.any e n hc) (fun b o hc e n=>u.free b o e n hc) (fun b o hc e=>u.there b o e hc) u.tups u.qQ u.sP (fun m' hm=>by obtain⟨o',es',ep',ho',r'⟩:=hm;rw[ho]at ho';cases ho';exact⟨_,es',ep',hL,r'⟩) hok hg
theorem Inv.turned{t':Nat}{it:Addr}(I:Inv X nC σ H s)(k:∀b o,b≠it->s.heap.get? b=some o->h'.get? b=some o)(hn:H it=none)(hL:it≠X.env.locals)
  (h1:it∈X.ex\/X.s₀.heap.objs.size<=it) (h2:∀x c,X.env.cells.lookup x=some c->c≠it) (h3:∀p∈X.pn++nC,p.1≠it):Inv X nC σ H { s with heap:=h',toks:=t' }:=by
 have nit:∀b u,H b=some u->b≠it:=fun b u e z=>by rw[z,hn]at e;cases e
 refine I.step (g':=s.gens) (d':=s.drawn) (ch:=[it]) (fun b hb=>?_) (fun b o _ _ hc e _=>k b o (fun z=>hc (by simp[z])) e) (fun b o _ _ hc e _=>⟨o.slots,k b o (fun z=>hc (by simp[z])) e⟩) (fun _ _ _ _ n=>n)
  (fun b o hc e=>⟨o,k b o (fun z=>hc (by simp[z])) e⟩) (fun _ _ e=>e) (fun _ _ _ e=>e) (fun _ _ _ _ e=>e) (fun m hm=>?_) (fun b u e=>?_) I.bare
 ·have e:b=it:=by simpa using hb
  subst e;exact⟨h1,hL,h2,h3⟩
 ·obtain⟨o,es,ep,ho,r⟩:=hm;exact⟨o,es,ep,k _ o (P4 hL) ho,r⟩
 ·refine(I.hok b u e).stay (fun c v hc q=>k c v ?_ q) (fun _ q=>q) (fun _ _ _ q=>q) fun _ _ q=>q;rcases hc with z | z
  ·rw[z];exact nit b u e
  ·exact nit c _ z
theorem Inv.tok(I:Inv X nC σ H s)(t:Nat):Inv X nC σ H { s with toks:=t }:=I.un (h':=s.heap) (t':=t) Un.refl I.hok
theorem Inv.kept(I:Inv X nC σ H s)(k:∀b u,s.heap.get? b=some u->h'.get? b=some u):Inv X nC σ H { s with heap:=h',toks:=t' }:=I.un (Un.kept k) (I.hok.kept k)
theorem Inv.laid{o:HO}{t':Nat}(I:Inv X nC σ H s)(k:∀b u,s.heap.get? b=some u->h'.get? b=some u)(hp:s.heap.objs.size<=a)(new:aQ X.prog X.w (upd H a o) h' a o) :
  Inv X nC σ (upd H a o) { s with heap:=h',toks:=t' }:=I.un (Un.laid k hp (I.hok.fresh hp)) (I.hok.laid k hp new)
theorem Inv.write{x e:Addr}{o:HO}{t':Nat}(I:Inv X nC σ H s)(mu:Mut (H x))(he:e=x\/H e=some (.own x))(k:∀b u,b≠e->s.heap.get? b=some u->h'.get? b=some u)(heo:∃u,h'.get? e=some u)
  (new:aQ X.prog X.w (upd H x o) h' x o):Inv X nC σ (upd H x o) { s with heap:=h',toks:=t' }:=I.un (Un.write mu he k heo) (I.hok.write mu he k heo new)
theorem Inv.xT{Hj:List (Addr×Obj)}(I:Inv X nC σ H s)(h:∀p∈Hj,s.heap.get? p.1=some p.2/\H p.1=none/\p.1≠X.env.locals/\p.1∉X.fs/\∀v,p.2.data≠.cell v):Inv X Hj σ H s:=
 ⟨I.ok,I.os,I.bare,I.base,I.loc,I.cell,I.free,I.iN,fun p hp=>(Pp.mp hp).elim (fun z=>I.pin p (PK _ z)) (h p),I.hok,I.len⟩
theorem sQ{N:List Str}(hN:N.Nodup){i j:Nat}(a:N[i]?=some x)(b:N[j]?=some x):i=j:=by obtain⟨h1,e1⟩:=Pa.mp a;obtain⟨h2,e2⟩:=Pa.mp b;exact(List.getElem_inj hN).mp (e1.trans e2.symm)
theorem pM{M:Model}{A:Around}{E:Value->Shared->Prop}{Q:Unit->Shared->Prop}(I:Inv X nC σ H s)(hN:X.N.Nodup)(hi:X.N[i]?=some x)(hx:Loc X.env.scope x)(r:RelV v u)
  (h:∀s',Inv X nC (σ.set i (some v)) H s'->(∃a,Q5 a s.heap s'.heap/\(a=X.env.locals\/X.env.cells.lookup x=some a))->Q () s') (hf:X.fn x=true\/X.env.scope.names.lookup x=some .local:=by trivial):wpAny M A (storeName X.env x u) Q E s:=by
 obtain⟨m,hn,hl⟩:=id I.loc;have hcls:(X.env.scope.kind == .class||(X.env.scope.kind == .module&&X.env.locals != X.env.globals))=false:=by rw[I.ok.kind];rfl
 have hiσ:i<σ.length:=by rw[I.len];exact(Pa.mp hi).1
 have cne:=I.cne;have tracked:∀{a:Addr} {h':Heap},(∃o,s.heap.get? a=some o/\H a=none)->Q5 a s.heap h'->HOk X.prog X.w H h':=fun {a h'} ha hs b ob e=>by
  obtain⟨_,_,hfree⟩:=ha;refine(I.hok b ob e).stay (fun c w' hc q=>(hs.2 c ?_).trans q) (fun _ q=>q) (fun _ _ _ q=>q) fun _ _ q=>q;rintro rfl;rcases hc with rfl | hc
  ·rw[hfree]at e;cases e
  ·rw[hfree]at hc;cases hc
 rcases hx with hk | hk
 ·refine wpAny_storeName_local hk hn (fun h' hn' hs=>?_) hcls;obtain⟨oL,_,_,hoL,_⟩:=id hn;refine h _ ⟨I.ok,I.os,I.bare,⟨fun b o e n hb hx=>?_,fun b o e n hb hx=>?_,I.base.free,fun b o e hx=>?_,I.base.tups,I.base.qQ,I.base.sP⟩,⟨_,hn',fun j y v' e1 e2 e3=>?_⟩,fun y c e=>?_,I.free,I.iN,fun p hp=>?_,tracked ⟨oL,hoL,I.free⟩ hs,by simpa using I.len⟩ ⟨_,hs,.inl rfl⟩
  ·exact(hs.2 b (P6 (Pq (Po e) I.ok.above))).trans (I.base.keep b o e n hb hx)
  ·obtain⟨sl,e1⟩:=I.base.slot b o e n hb hx;exact⟨sl,(hs.2 b (P6 (Pq (Po e) I.ok.above))).trans e1⟩
  ·obtain⟨o',e1⟩:=I.base.there b o e hx;exact⟨o',(hs.2 b (P6 (Pq (Po e) I.ok.above))).trans e1⟩
  ·by_cases hj:j=i
   ·subst hj;rw[hi]at e1;cases e1;rw[PB hiσ]at e2;cases e2;exact⟨u,r,.inl ⟨hk,by simp⟩⟩
   ·rw[gc (P4 hj)]at e2;obtain⟨u',r',q⟩:=hl j y v' e1 e2 e3;refine⟨u',r',?_⟩;rcases q with⟨k,e⟩ | ⟨k,c,e,z⟩
    ·refine .inl ⟨k,?_⟩;have:y≠x:=fun e=>hj (sQ hN e1 (e▸hi));simp[this,e]
    ·exact .inr ⟨k,c,e,z.sameBut hs (cne y c e)⟩
  ·obtain⟨w',z⟩:=I.cell y c e;exact⟨w',z.sameBut hs (cne y c e)⟩
  ·obtain⟨e,n,ne,nf,d⟩:=I.pin p hp;exact⟨(hs.2 p.1 ne).trans e,n,ne,nf,d⟩
 ·have hfn:X.fn x=true:=by
   rcases hf with z | z
   ·exact z
   ·rw[z]at hk;cases hk
  obtain⟨c,hc⟩:=I.ok.has x (.inl hk);obtain⟨w',z⟩:=I.cell x c hc;refine wpAny_storeName_cell I.ok.kind hk hc z (fun h' hc' hs=>?_);obtain⟨oc,hoc,NQ⟩:=id z;refine h { s with heap:=h' } ⟨I.ok,I.os,I.bare,⟨fun b o e n hb hx=>?_,fun b o e n hb hx=>?_,I.base.free,fun b o e hx=>?_,I.base.tups,I.base.qQ,I.base.sP⟩,⟨m,hn.sameBut hs (P4 (cne x c hc)),fun j y v' e1 e2 e3=>?_⟩,fun y c' e=>?_,I.free,I.iN,fun p hp=>?_,tracked ⟨oc,hoc,I.iN x c hc⟩ hs,by simpa using I.len⟩ ⟨c,hs,.inr hc⟩
  ·exact(hs.2 b (P6 (Pq (Po e) (I.ok.cab x c hfn hc)))).trans (I.base.keep b o e n hb hx)
  ·obtain⟨sl,e1⟩:=I.base.slot b o e n hb hx;exact⟨sl,(hs.2 b (P6 (Pq (Po e) (I.ok.cab x c hfn hc)))).trans e1⟩
  ·obtain⟨o',e1⟩:=I.base.there b o e hx;exact⟨o',(hs.2 b (P6 (Pq (Po e) (I.ok.cab x c hfn hc)))).trans e1⟩
  ·by_cases hj:j=i
   ·subst hj;rw[hi]at e1;cases e1;rw[PB hiσ]at e2;cases e2;exact⟨u,r,.inr ⟨.inl hk,c,hc,hc'⟩⟩
   ·rw[gc (P4 hj)]at e2;obtain⟨u',r',q⟩:=hl j y v' e1 e2 e3;refine⟨u',r',?_⟩;rcases q with q | ⟨k,c',e,z'⟩
    ·exact .inl q
    ·refine .inr ⟨k,c',e,z'.sameBut hs ?_⟩;rintro rfl;exact hj (sQ hN e1 (I.ok.inj _ _ _ e hc▸hi))
  ·by_cases hcc:c'=c
   ·subst hcc;exact⟨_,hc'⟩
   ·obtain⟨w2,z2⟩:=I.cell y c' e;exact⟨w2,z2.sameBut hs hcc⟩
  ·obtain⟨e,n,ne,nf,d⟩:=I.pin p hp;refine⟨(hs.2 p.1 ?_).trans e,n,ne,nf,d⟩;intro q;rw[q,hoc]at e;have q':oc=p.2:=Option.some.inj e;exact d w' (by rw[<- q'];exact NQ)
theorem sS{M:Model}{A:Around}{E:Value->Shared->Prop}{Q:Unit->Shared->Prop}(I:Inv X nC σ H s)(hN:X.N.Nodup)(hi:X.N[i]?=some x)(hx:Loc X.env.scope x)(r:RelV v u)
  (h:∀s',Inv X nC (σ.set i (some v)) H s'->Q () s') (hf:X.fn x=true\/X.env.scope.names.lookup x=some .local:=by trivial):wpAny M A (storeName X.env x u) Q E s:=
 pM I hN hi hx r (fun s' I' _=>h s' I') hf
theorem Inv.Ls{s':Shared}(I:Inv X nC σ H s)(ho:s'.os=s.os)(u:Un (frs X.stack) ch H H' s.heap s'.heap)(hok:HOk X.prog X.w H' s'.heap)(hg:AllBare s'.gens)
  (hch:∀b∈ch,(b∈X.ex\/X.s₀.heap.objs.size<=b)/\b≠X.env.locals/\(∀x c,X.env.cells.lookup x=some c->c≠b)/\∀p∈X.pn++nC,p.1≠b):Inv X nC σ H' s':=by
 obtain⟨h',g',d',t',o'⟩:=s';have e:o'=s.os:=ho;subst e;exact I.call (g':=g') (t':=t') (d':=d') u hok hg hch
end
end
noncomputable abbrev XK:=Value->Option Addr->Hp->Prop
noncomputable abbrev St:=List (Option V)
noncomputable abbrev VK:=V->Hp->Prop
noncomputable abbrev TE:=St->Hp->VK->Prop
noncomputable abbrev TT:=St->Hp->(Bool->Hp->Prop)->Prop
noncomputable abbrev TA:=St->Hp->(List V->Hp->Prop)->Prop
structure Ends where
 nx:St->Hp->Prop
 rt:VK
 bk:St->Hp->Prop:=fun _ _=>False
 ct:St->Hp->Prop:=fun _ _=>False
noncomputable abbrev TS:=Ends->St->Hp->Prop
def EP(X:Cx)(nC:List (Addr×Obj))(σ:St)(Q:VK)(u:Value)(s':Shared):Prop:=∃v H',Inv X nC σ H' s'/\RelV v u/\Q v H'
def TP(X:Cx)(nC:List (Addr×Obj))(σ:St)(Q:Bool->Hp->Prop)(b:Bool)(s':Shared):Prop:=∃H',Inv X nC σ H' s'/\Q b H'
def AP(X:Cx)(nC:List (Addr×Obj))(σ:St)(Q:List V->Hp->Prop)(us:List Value)(s':Shared):Prop:=∃vs H',Inv X nC σ H' s'/\Vals vs us/\Q vs H'
def SP(X:Cx)(nC:List (Addr×Obj))(D:Ends)(f:Flow)(s':Shared):Prop:=
 match f with
 |.next=>∃σ' H',Inv X nC σ' H' s'/\D.nx σ' H'
 |.brk=>∃σ' H',Inv X nC σ' H' s'/\D.bk σ' H'
 |.cont=>∃σ' H',Inv X nC σ' H' s'/\D.ct σ' H'
 |.ret u=>∃v σ' H',Inv X nC σ' H' s'/\RelV v u/\D.rt v H'
def PE(X:Cx)(e:Expr)(t:TE):Prop:=
 ∀(nC:List (Addr×Obj)) (s:Shared) (σ:St) (H:Hp) (Q:VK),Inv X nC σ H s->t σ H Q->wpAny (model X.prog X.w) X.A (eval e X.env) (EP X nC σ Q) X.xe s
def PT(X:Cx)(e:Expr)(t:TT):Prop:=
 ∀(nC:List (Addr×Obj)) (s:Shared) (σ:St) (H:Hp) (Q:Bool->Hp->Prop),Inv X nC σ H s->t σ H Q->wpAny (model X.prog X.w) X.A (isTrue e X.env (eval e X.env)) (TP X nC σ Q) X.xe s
def PW(X:Cx)(e:Expr)(t:TT):Prop:=
 ∀(whole:Sem Value) (nC:List (Addr×Obj)) (s:Shared) (σ:St) (H:Hp) (Q:Bool->Hp->Prop),Inv X nC σ H s->t σ H Q->wpAny (model X.prog X.w) X.A (isTrue e X.env whole) (TP X nC σ Q) X.xe s
theorem PW.pt{X:Cx}{e:Expr}{t:TT}(h:PW X e t):PT X e t:=h _
def PA(X:Cx)(es:List Expr)(t:TA):Prop:=
 ∀(pos:Pos) (nC:List (Addr×Obj)) (s:Shared) (σ:St) (H:Hp) (Q:List V->Hp->Prop),Inv X nC σ H s->t σ H Q->wpAny (model X.prog X.w) X.A (spliced (backTo pos (starEach es X.env))) (AP X nC σ Q) X.xe s
def PS(X:Cx)(st:Stmt)(t:TS):Prop:=
 ∀(nC:List (Addr×Obj)) (s:Shared) (σ:St) (H:Hp) (D:Ends),Inv X nC σ H s->t D σ H->wpAny (model X.prog X.w) X.A (exec st X.env) (SP X nC D) X.xe s
def PSs(X:Cx)(st:List Stmt)(t:TS):Prop:=
 ∀(nC:List (Addr×Obj)) (s:Shared) (σ:St) (H:Hp) (D:Ends),Inv X nC σ H s->t D σ H->wpAny (model X.prog X.w) X.A (execs st X.env) (SP X nC D) X.xe s
theorem thn{α:Type}{t:Sem α}{Q Q':α->Shared->Prop}{M:Model}{A:Around}{E:Value->Shared->Prop}{s:Shared}(h:wpAny M A t Q E s)(hQ:∀a s,Q a s->Q' a s):wpAny M A t Q' E s:=wpAny_mono h hQ fun _ _ x=>x
section
variable{X:Cx}
section
variable{Q:Value->Shared->Prop}{nC:List (Addr×Obj)}{x:Str}{u:Value}{s:Shared}{t:TE}{H:Hp}{σ:St}
def gm(i:Nat):TE:=fun σ H Q=>∃v,σ[i]?=some (some v)/\Q v H
def tC(v:V):TE:=fun _ H Q=>Q v H
theorem bR{i:Nat}{pos:Pos}(hN:X.N[i]?=some x)(hv:Vis X.env.scope x)(hd:(x == ("__debug__" : Str))=false:=by decide)(HQ:(x == ("__classdict__" : Str))=false:=by decide):PE X (.Name x pos) (gm i):=by
 intro nC s σ H Q I h;obtain⟨v,e,h⟩:=h;obtain⟨m,hn,hl⟩:=I.loc;obtain⟨u,r,l⟩:=hl i x v hN e hv;have MR:EP X nC σ Q u s:=⟨v,H,I,r,h⟩
 rcases l with⟨hk,hm⟩ | ⟨hk,c,hc,hcell⟩
 ·exact wpAny_Name (wpAny_loadName_local I.ok.kind hk hn hm MR) hd
 ·rcases hk with hk | hk
  ·exact wpAny_Name (wpAny_loadName_cell I.ok.kind hk hc hcell MR) hd
  ·exact wpAny_Name (wpAny_loadName_free I.ok.kind hk hc hcell MR HQ) hd
theorem l9{i j pos}:PE X (.Constant (.int i) j pos) (tC (.int i)):=fun _ _ _ H _ I h=>wpAny_Constant_int ⟨.int i,H,I.tok _,⟨_,rfl⟩,h⟩
theorem Lu{b j pos}:PE X (.Constant (.bool b) j pos) (tC (.bl b)):=fun _ _ _ H _ I h=>Constant_bool ⟨.bl b,H,I,rfl,h⟩
theorem IJ{j pos}:PE X (.Constant .none j pos) (tC .non):=fun _ _ _ H _ I h=>Constant_none ⟨.non,H,I,rfl,h⟩
def Gl(X:Cx)(x:Str):Prop:=X.env.kindOf x=some .globalImplicit
theorem Ef{E:Value->Shared->Prop}{pos:Pos}(I:Inv X nC σ H s)(hg:Gl X x)(hm:X.mg x=some u)(h:Q u s)
  (hd:(x == ("__debug__" : Str))=false:=by decide):wpAny (model X.prog X.w) X.A (eval (.Name x pos) X.env) Q E s:=
 Calls.Name_function_global I.ok.kind hg (Calls.loadGlobal_global (by rw[I.ok.glob];exact I.mod.glob.keeps I.bk) hm h) hd
theorem kr{E:Value->Shared->Prop}{pos:Pos}(I:Inv X nC σ H s)(hg:Gl X x)(hm:X.mg x=none)(hv:bootBuiltins x=some u)(h:Q u s)
  (hn:x ≠ "__name__" := by decide) (hd:(x == ("__debug__" : Str))=false:=by decide):wpAny (model X.prog X.w) X.A (eval (.Name x pos) X.env) Q E s:=by
 obtain⟨mb,h1,h2⟩:=I.mod.blt;exact Calls.Name_function_global I.ok.kind hg (Calls.loadGlobal_builtin (by rw[I.ok.glob];exact I.mod.glob.keeps I.bk) hm (by rw[I.ok.blt];exact h1.keeps I.bk) ((h2 x hn).trans hv) h) hd
theorem Eg{v:V}{pos:Pos}(hg:Gl X x)(hm:X.mg x=none)(hv:bootBuiltins x=some u)(r:RelV v u)(hn:x ≠ "__name__" := by decide)(hd:(x == ("__debug__" : Str))=false:=by decide):PE X (.Name x pos) (tC v):=
 fun _ _ _ H _ I h=>kr I hg hm hv ⟨v,H,I,r,h⟩ hn hd
variable{a b:Expr}{ta tb:TE}{pos:Pos}
def PC(X:Cx)(op:CmpOp)(a b:Expr)(t:TE):Prop:=
 ∀(nC:List (Addr×Obj)) (s:Shared) (σ:St) (H:Hp) (Q:VK),Inv X nC σ H s->t σ H Q ->
  wpAny (model X.prog X.w) X.A (eval a X.env) (fun v s₁=>wpAny (model X.prog X.w) X.A (eval b X.env) (fun u s₂=>wpAny (model X.prog X.w) X.A (compareOp op v u) (EP X nC σ Q) X.xe s₂) X.xe s₁) X.xe s
def tB(t:TE):TT:=fun σ H Q=>t σ H fun x H1=>∃c,x=.bl c/\Q c H1
theorem vN{op:CmpOp}(h:PC X op a b t)(h1:behindInMarks op b=false:=by first | exact Lv _ (by decide) (by decide) | rfl):PT X (.Compare a [op] [b] pos) (tB t):=by intro nC s σ H Q I hw;refine wpAny_isTrue_Compare1 (thn (h nC s σ H _ I hw) fun v s1 h1=>thn h1 fun u s2 h2=>thn h2 fun c s3 ⟨x,H1,I1,r1,q1⟩=>?_) h1;obtain⟨d,rfl,q⟩:=q1;cases r1;exact wpAny_truthy_bool ⟨H1,I1,q⟩
theorem IK{e:Expr}(h:PE X e t)(he:∀whole,isTrue e X.env whole=(do let v <- whole;standAt e.pos;holding [v] (truthy v)):=by intro _;rfl):PT X e (tB t):=by intro nC s σ H Q I hw;refine isTrue_plain (thn (h nC s σ H _ I hw) fun v s1 ⟨x,H1,I1,r1,q1⟩=>?_) (he _);obtain⟨d,rfl,q⟩:=q1;cases r1;exact wpAny_truthy_bool ⟨H1,I1,q⟩
variable{tA tB':TT}{xq:List Expr}
def e8(t u:TT):TT:=fun σ H Q=>t σ H fun c H1=>if c=true then u σ H1 Q else Q false H1
def tOr(t u:TT):TT:=fun σ H Q=>t σ H fun c H1=>if c=true then Q true H1 else u σ H1 Q
def dI(t:TT):TT:=fun σ H Q=>t σ H fun c H1=>Q (!c) H1
theorem pw_and1(ha:PT X a tA):PW X (.BoolOp .And [a] pos) tA:=by
 intro wh nC s σ H Q I h;refine isTrue_and (thn (ha nC s σ H Q I h) fun c s1 e=>?_);cases c with
 |true=>exact isTrue_and_nil e
 |false=>exact e
theorem pw_or1(ha:PT X a tA):PW X (.BoolOp .Or [a] pos) tA:=by
 intro wh nC s σ H Q I h;refine isTrue_or (thn (ha nC s σ H Q I h) fun c s1 e=>?_);cases c with
 |false=>exact isTrue_or_nil e
 |true=>exact e
theorem pw_and(ha:PT X a tA)(hb:PW X (.BoolOp .And (b::xq) pos) tB'):PW X (.BoolOp .And (a::b::xq) pos) (e8 tA tB'):=by
 intro wh nC s σ H Q I h;refine isTrue_and (thn (ha nC s σ H _ I h) fun c s1 ⟨H1,I1,q1⟩=>?_);cases c with
 |true=>exact hb wh nC s1 σ H1 Q I1 q1
 |false=>exact⟨H1,I1,q1⟩
theorem pw_or(ha:PT X a tA)(hb:PW X (.BoolOp .Or (b::xq) pos) tB'):PW X (.BoolOp .Or (a::b::xq) pos) (tOr tA tB'):=by
 intro wh nC s σ H Q I h;refine isTrue_or (thn (ha nC s σ H _ I h) fun c s1 ⟨H1,I1,q1⟩=>?_);cases c with
 |true=>exact⟨H1,I1,q1⟩
 |false=>exact hb wh nC s1 σ H1 Q I1 q1
theorem IL(ha:PT X a tA):PT X (.UnaryOp .Not a pos) (dI tA):=by intro nC s σ H Q I h;exact isTrue_not (ha nC s σ H (fun c H1=>Q (!c) H1) I h)
def Hl(ta tb:TE):TE:=fun σ H Q=>ta σ H fun x H1=>∃c,x=.bl c/\if c=true then tb σ H1 Q else Q (.bl false) H1
def Ho(ta:TE):TE:=fun σ H Q=>ta σ H fun x H1=>∃c,x=.bl c/\Q (.bl (!c)) H1
theorem IM{op}(h:PE X a t):PE X (.BoolOp op [a] pos) t:=fun nC s σ H Q I hw=>BoolOp_one (h nC s σ H Q I hw)
theorem IP(ha:PE X a ta)(hb:PE X (.BoolOp .And (b::xq) pos) tb):PE X (.BoolOp .And (a::b::xq) pos) (Hl ta tb):=by
 intro nC s σ H Q I h;refine BoolOp_and (thn (ha nC s σ H _ I h) fun v s1 ⟨x,H1,I1,r1,q1⟩=>?_);obtain⟨c,rfl,q1⟩:=q1;cases r1;refine wpAny_truthy_bool ?_;cases c with
 |true=>exact hb nC s1 σ H1 Q I1 q1
 |false=>exact⟨.bl false,H1,I1,rfl,q1⟩
theorem IQ(ha:PE X a ta):PE X (.UnaryOp .Not a pos) (Ho ta):=by intro nC s σ H Q I h;refine UnaryOp_ (thn (ha nC s σ H _ I h) fun v s1 ⟨x,H1,I1,r1,q1⟩=>?_);obtain⟨c,rfl,q1⟩:=q1;cases r1;exact not_of (wpAny_truthy_bool ⟨.bl (!c),H1,I1,rfl,q1⟩)
end
end
def SqL(K:O8)(H:Hp)(a:Addr)(xs:List V):Prop:=
 Rd H a (.lst xs) \/
  ∃(o:Obj) (its:Array Value) (n:Nat),K.lookup a=some o/\o.cls=.type "list" /\ o.dict=none/\o.data=.seq its n/\its.size<=sizeLine/\Vals xs its.toList
def SqT(K:O8)(H:Hp)(a:Addr)(xs:List V):Prop:=
 Rd H a (.tup xs) \/
  ∃(o:Obj) (its:Array Value) (n:Nat),K.lookup a=some o/\o.cls=.type "tuple" /\ o.data=.seq its n/\its.size<=sizeLine/\Vals xs its.toList
noncomputable def NR:Value->Option V
 |.none=>some .non
 |.bool b=>some (.bl b)
 |.int i _=>some (.int i)
 |.str x _=>some (.str x)
 |.bytes b _=>some (.byt b)
 |.float b _=>some (.flt b)
 |.ref a=>some (.ref a)
 |.type n=>some (.ty n)
 |_=>none
theorem RelV.abs{x:V}{u:Value}(r:RelV x u):NR u=some x:=by
 cases x with
 |non=>cases r;rfl
 |bl _=>cases r;rfl
 |int _=>obtain⟨t,rfl⟩:=r;rfl
 |str _=>obtain⟨t,rfl⟩:=r;rfl
 |byt _=>obtain⟨t,rfl⟩:=r;rfl
 |flt _=>obtain⟨t,rfl⟩:=r;rfl
 |ref _=>cases r;rfl
 |ty _=>cases r;rfl
theorem RelV.inj{x y:V}{u:Value}(r:RelV x u)(q:RelV y u):x=y:=Option.some.inj (r.abs.symm.trans q.abs)
theorem Vals.inj:∀{xs ys:List V} {us:List Value},Vals xs us->Vals ys us->xs=ys
 |_,_,_,.nil,.nil=>rfl
 |_,_,_,.cons r t,.cons r' t'=>by rw[r.inj r',Vals.inj t t']
section
variable{X:Cx}{nC:List (Addr×Obj)}{σ:St}{H:Hp}{s:Shared}{a:Addr}{xs ys:List V}
theorem SqT.of{K:O8}(h:H a=some (.tup xs)):SqT K H a xs:=.inl (.inl h)
theorem Inv.list(I:Inv X nC σ H s)(h:SqL X.K H a xs):∃its:List Value,Vals xs its/\PlainL s.heap a its.toArray/\xs.length<=sizeLine:=by
 rcases h with h | ⟨o,its,n,hk,hc,hd,hs,hz,r⟩
 ·obtain⟨z,its,n,r,e⟩:=h.ok I.hok;exact⟨its,r,⟨_,n,e,rfl,rfl,rfl⟩,z⟩
 ·refine⟨its.toList,r,⟨o,n,I.kIn a o hk,hc,hd,by simpa using hs⟩,?_⟩;have e:=r.length;simp only[QU]at e
  lia
theorem Inv.tuple(I:Inv X nC σ H s)(h:SqT X.K H a xs):∃its:List Value,Vals xs its/\IsTup s.heap a its.toArray/\xs.length<=sizeLine:=by
 rcases h with h | ⟨o,its,n,hk,hc,hs,hz,r⟩
 ·obtain⟨z,its,r,p⟩:=h.ok I.hok;exact⟨its,r,p,z⟩
 ·refine⟨its.toList,r,⟨o,I.kIn a o hk,hc,n,by simpa using hs⟩,?_⟩;have e:=r.length;simp only[QU]at e
  lia
theorem Inv.sU(I:Inv X nC σ H s)(h:SqL X.K H a xs)(h':SqL X.K H a ys):xs=ys:=by
 obtain⟨its,r,⟨o,n,e,_,_,d⟩,_⟩:=I.list h;obtain⟨its',r',⟨o',n',e',_,_,d'⟩,_⟩:=I.list h';rw[e]at e';cases e';rw[d]at d';injection d' with d1 _
 have:its=its':=by simpa using congrArg Array.toList d1
 subst this;exact r.inj r'
theorem Inv.zk(I:Inv X nC σ H s)(h:SqT X.K H a xs)(h':SqT X.K H a ys):xs=ys:=by
 obtain⟨its,r,⟨o,e,_,n,d⟩,_⟩:=I.tuple h;obtain⟨its',r',⟨o',e',_,n',d'⟩,_⟩:=I.tuple h';rw[e]at e';cases e';rw[d]at d';injection d' with d1 _
 have:its=its':=by simpa using congrArg Array.toList d1
 subst this;exact r.inj r'
end
noncomputable abbrev Cx.o_(X:Cx)(E:Value->Shared->Prop):Cx:={ X with xe:=E }
noncomputable abbrev Cx.nox(X:Cx):Cx:=X.o_ fun _ _=>False
theorem Cx.Ok.o_{X:Cx}(ok:X.Ok)(E:Value->Shared->Prop):(X.o_ E).Ok:=
 ⟨ok.mod,ok.kind,ok.glob,ok.blt,ok.above,ok.inj,ok.has,ok.cab,ok.hd,ok.frames,ok.stk,ok.exf,ok.bs,ok.bsz,ok.Az,ok.Ed,ok.l8,ok.frf⟩
theorem Cx.Ok.gx{X:Cx}{E:Value->Shared->Prop}(ok:(X.o_ E).Ok):X.Ok:=
 ⟨ok.mod,ok.kind,ok.glob,ok.blt,ok.above,ok.inj,ok.has,ok.cab,ok.hd,ok.frames,ok.stk,ok.exf,ok.bs,ok.bsz,ok.Az,ok.Ed,ok.l8,ok.frf⟩
section
variable{X:Cx}{nC:List (Addr×Obj)}{σ:St}{H:Hp}{s:Shared}{E:Value->Shared->Prop}
theorem Inv.o_(I:Inv X nC σ H s)(E:Value->Shared->Prop):Inv (X.o_ E) nC σ H s:=⟨I.ok.o_ E,I.os,I.bare,I.base,I.loc,I.cell,I.free,I.iN,I.pin,I.hok,I.len⟩
theorem Inv.gx(I:Inv (X.o_ E) nC σ H s):Inv X nC σ H s:=⟨I.ok.gx,I.os,I.bare,I.base,I.loc,I.cell,I.free,I.iN,I.pin,I.hok,I.len⟩
theorem SP.gx{D:Ends}{f:Flow}{s':Shared}(h:SP (X.o_ E) nC D f s'):SP X nC D f s':=by
 cases f with
 |next=>obtain⟨σ',H',I,q⟩:=h;exact⟨σ',H',I.gx,q⟩
 |brk=>obtain⟨σ',H',I,q⟩:=h;exact⟨σ',H',I.gx,q⟩
 |cont=>obtain⟨σ',H',I,q⟩:=h;exact⟨σ',H',I.gx,q⟩
 |ret u=>obtain⟨v,σ',H',I,r,q⟩:=h;exact⟨v,σ',H',I.gx,r,q⟩
theorem PSs.nox{st:List Stmt}{t:TS}(h:PSs X.nox st t):PSs X st t:=fun nC s σ H D I hw=>wpAny_mono (h nC s σ H D (I.o_ _) hw) (fun _ _ q=>q.gx) fun _ _ z=>Qd z
end
section
variable{X:Cx}{st:Stmt}{xq:List Stmt}{t u:TS}{e:Expr}{te:TE}{pos:Pos}
def sV:TS:=fun D σ H=>D.nx σ H
def gA(t u:TS):TS:=fun D σ H=>t { D with nx:=u D } σ H
theorem lT:PSs X [] sV:=fun _ _ σ H _ I h=>wpAny_execs_nil ⟨σ,H,I,h⟩
theorem a_(h1:PS X st t)(h2:PSs X xq u):PSs X (st::xq) (gA t u):=by
 intro nC s σ H D I h;refine wpAny_execs_cons (thn (h1 nC s σ H { D with nx:=u D } I h) fun f s1 q=>?_);cases f with
 |next=>obtain⟨σ',H',I',q⟩:=q;exact h2 nC s1 σ' H' D I' q
 |ret v=>exact q
 |brk=>exact q
 |cont=>exact q
theorem iz(h1:PS X st t):PSs X [st] t:=by
 intro nC s σ H D I h;refine wpAny_execs_cons (thn (h1 nC s σ H D I h) fun f s1 q=>?_);cases f with
 |next=>exact wpAny_execs_nil q
 |ret v=>exact q
 |brk=>exact q
 |cont=>exact q
theorem Inv.quiet{nC:List (Addr×Obj)}{σ:St}{H:Hp}{s:Shared}(I:Inv X nC σ H s):interactive X.env=false:=by simp[interactive,I.ok.kind]
def k9(te:TE):TS:=fun D σ H=>te σ H fun _ H1=>D.nx σ H1
theorem fO(he:PE X e te)(hs:swapsWith e none pos.line X.env=pure false:=by rfl):PS X (.Expr e pos) (k9 te):=by intro nC s σ H D I h;exact wpAny_Expr_any (thn (he nC s σ H _ I h) fun v s1 ⟨x,H1,I1,r1,q1⟩=>⟨σ,H1,I1,q1⟩) I.quiet hs
def zl(te:TE):TS:=fun D σ H=>te σ H D.rt
theorem l_(he:PE X e te):PS X (.Return (some e) pos) (zl te):=by intro nC s σ H D I h;exact wpAny_Return_some (thn (he nC s σ H _ I h) fun v s1 ⟨x,H1,I1,r1,q1⟩=>⟨x,σ,H1,I1,r1,q1⟩)
def zm(c:TT)(t u:TS):TS:=fun D σ H=>c σ H fun b H1=>if b=true then t D σ H1 else u D σ H1
theorem sW{c:Expr}{a b:List Stmt}{tc:TT}(hc:PT X c tc)(ha:PSs X a t)(hb:PSs X b u):PS X (.If c a b pos) (zm tc t u):=by
 intro nC s σ H D I h;refine wpAny_If (thn (hc nC s σ H _ I h) fun d s1 ⟨H1,I1,q1⟩=>?_);cases d with
 |true=>exact ha nC s1 σ H1 D I1 q1
 |false=>exact hb nC s1 σ H1 D I1 q1
def IS:TS:=fun _ _ _=>False
theorem AA:PS X st IS:=fun _ _ _ _ _ _ h=>h.elim
end
noncomputable abbrev TG:=V->St->Hp->(St->Hp->Prop)->Prop
noncomputable abbrev TGs:=List V->St->Hp->(St->Hp->Prop)->Prop
def PG(X:Cx)(target:Expr)(t:TG):Prop:=
 ∀(nC:List (Addr×Obj)) (s:Shared) (σ:St) (H:Hp) (v:V) (u:Value) (Q:St->Hp->Prop),Inv X nC σ H s->RelV v u->t v σ H Q ->
  wpAny (model X.prog X.w) X.A (assign target X.env u) (fun _ s'=>∃σ' H',Inv X nC σ' H' s'/\Q σ' H') X.xe s
def PGs(X:Cx)(ts:List Expr)(t:TGs):Prop:=
 ∀(nC:List (Addr×Obj)) (s:Shared) (σ:St) (H:Hp) (vs:List V) (us:List Value) (Q:St->Hp->Prop),Inv X nC σ H s->Vals vs us->t vs σ H Q ->
  wpAny (model X.prog X.w) X.A (assignInOrder ((assignEach ts X.env).map (·.2)) us) (fun _ s'=>∃σ' H',Inv X nC σ' H' s'/\Q σ' H') X.xe s
noncomputable abbrev IT:=V->V->V->Hp->(Hp->Prop)->Prop
def Lw(X:Cx)(t:IT):Prop:=
 ∀(nC:List (Addr×Obj)) (s:Shared) (σ:St) (H:Hp) (o i v:V) (ov iv u:Value) (Q:Hp->Prop),Inv X nC σ H s->RelV o ov->RelV i iv->RelV v u->t o i v H Q ->
  wpAny (model X.prog X.w) X.A (setItem ov iv u) (fun _ s'=>∃H',Inv X nC σ H' s'/\Q H') X.xe s
section
variable{X:Cx}{pos:Pos}
section
variable{es:List Expr}{e:Expr}{i:Nat}{x:Str}{te:TE}
def cW(i:Nat):TG:=fun v σ H Q=>Q (σ.set i (some v)) H
theorem qS(hN:X.N.Nodup)(hi:X.N[i]?=some x)(hx:Loc X.env.scope x)(hf:X.fn x=true\/X.env.scope.names.lookup x=some .local:=by trivial):PG X (.Name x pos) (cW i):=by intro nC s σ H v u Q I r h;exact wpAny_assign_Name (sS I hN hi hx r (fun s' I'=>⟨_,H,I',h⟩) hf)
def Lx:TGs:=fun vs σ H Q=>vs=[]/\Q σ H
def Hq(t:TG)(u:TGs):TGs:=fun vs σ H Q=>∃v r,vs=v::r/\t v σ H fun σ' H'=>u r σ' H' Q
theorem Eh:PGs X [] Lx:=by intro nC s σ H vs us Q I r h;obtain⟨e,h⟩:=h;subst e;cases r;exact assignInOrder_nil ⟨σ,H,I,h⟩
theorem AB{t:TG}{u:TGs}(h1:PG X e t)(h2:PGs X es u)
  (hs:(assignEach (e::es) X.env).map (·.2)=assign e X.env::(assignEach es X.env).map (·.2):=by rfl):PGs X (e::es) (Hq t u):=by
 intro nC s σ H vs us Q I r h;obtain⟨v,vr,e1,h⟩:=h;subst e1;cases r with
 |cons r rr=>rw[hs];refine assignInOrder_cons (thn (h1 nC s σ H _ _ _ I r h) fun _ s1 ⟨σ1,H1,I1,q1⟩=>?_);exact h2 nC s1 σ1 H1 _ _ Q I1 rr q1
def Ly(K:O8)(n:Nat)(t:TGs):TG:=fun v σ H Q=>∃a xs,v=.ref a/\SqT K H a xs/\xs.length=n/\t xs σ H Q
theorem IU{k:Nat}{t:TGs}{n:Nat}(hc:X.calm=true)(h:PGs X es t)
  (hn:(assignEach es X.env).length=n:=by rfl) (hst:(assignEach es X.env).findIdx? (·.1)=none:=by rfl):PG X (.Tuple es k pos) (Ly X.K n t):=by
 intro nC s σ H v u Q I r hw;obtain⟨a,xs,e1,hq,hl,hw⟩:=hw;subst e1;cases r;obtain⟨its,rv,ht,hz⟩:=I.tuple hq;refine assign_Tuple_tuple (I.ok.hd hc) ht (by simp[hn,<- hl,rv.length]) hst fun h' hx=>?_;have I1:Inv X nC σ H { s with heap:=h' }:=I.kept (t':=s.toks) fun b o e=>hx b o (P6 (Po e)) e;exact h nC _ σ H xs _ Q I1 (by simpa using rv) hw
def gp(to ti:TE)(t:IT):TG:=fun v σ H Q=>to σ H fun o H1=>ti σ H1 fun i H2=>t o i v H2 fun H3=>Q σ H3
theorem IV{o i:Expr}{to ti:TE}{t:IT}(ho:PE X o to)(hi:PE X i ti)(hs:Lw X t)
  (ha:∀ v,assign (.Subscript o i pos) X.env v=(do
   let ov <- holding [v] (eval o X.env)
   let iv <- holding [v,ov] (eval i X.env)
   standAt pos
   holding [v,ov,iv] (setItem ov iv v)
   release [v,ov,iv] []):=by intro _;rfl):PG X (.Subscript o i pos) (gp to ti t):=by
 intro nC s σ H v u Q I r h;rw[ha];refine wpAny_bind (wpAny_holding (thn (ho nC s σ H _ I h) fun ov s1 ⟨x,H1,I1,r1,q1⟩=>?_));refine wpAny_bind (wpAny_holding (thn (hi nC s1 σ H1 _ I1 q1) fun iv s2 ⟨y,H2,I2,r2,q2⟩=>?_));refine wpAny_bind (wpAny_standAt (wpAny_bind (wpAny_holding (thn (hs nC s2 σ H2 x y v ov iv u _ I2 r1 r2 r q2) fun _ s3 ⟨H3,I3,q3⟩=>?_))));exact wpAny_release ⟨σ,H3,I3,q3⟩
def ku(te:TE)(g:TG):TS:=fun D σ H=>te σ H fun x H1=>g x σ H1 D.nx
theorem IW{tg e:Expr}{g:TG}(he:PE X e te)(hg:PG X tg g)(hs:swapsWithSole [tg] e pos.line X.env=pure false:=by rfl)(hw:swappedStores [tg] e X.env=pure none:=by rfl)
  (h1:(assignEach [tg] X.env).map (·.2)=[assign tg X.env]:=by rfl):PS X (.Assign [tg] e pos) (ku te g):=by
 intro nC s σ H D I h;refine wpAny_Assign_stores (thn (he nC s σ H _ I h) fun v s1 ⟨x,H1,I1,r1,q1⟩=>?_) hs hw;rw[h1];exact thn (hg nC s1 σ H1 x v _ I1 r1 q1) fun _ s2 q=>q
theorem qT{pos':Pos}(hN:X.N.Nodup)(hi:X.N[i]?=some x)(hx:Loc X.env.scope x)(he:PE X e te)(hs:swapsWith e (some (.Name x pos')) pos.line X.env=pure false:=by rfl)(hf:X.fn x=true\/X.env.scope.names.lookup x=some .local:=by trivial) :
  PS X (.Assign [.Name x pos'] e pos) (ku te (cW i)):=by
 intro nC s σ H D I h;refine wpAny_Assign_Name (thn (he nC s σ H _ I h) fun v s1 ⟨y,H1,I1,r1,q1⟩=>?_) hs;exact sS I1 hN hi hx r1 (fun s2 I2=>⟨_,H1,I2,q1⟩) hf
end
end
section
variable{X:Cx}{pos:Pos}
def AD(c:TT)(tb:TS):TS:=fun D σ H=>∃W:Nat->St->Hp->Prop,(∃m,W m σ H)/\∀m σ H,W m σ H ->
 c σ H fun b H1=>if b=true then ∃N:St->Hp->Prop,(∀σ' H',N σ' H'->∃m',m'<m/\W m' σ' H')/\tb { D with nx:=N,ct:=N,bk:=D.nx } σ H1 else D.nx σ H1
theorem AE{c:Expr}{body:List Stmt}{tc:TT}{tb:TS}(hp:PassesOwn (model X.prog X.w) X.A X.env X.xe)(hc:PT X c tc)(hb:PSs X body tb):PS X (.While c body [] pos) (AD tc tb):=by
 intro nC s σ H D I h;obtain⟨W,⟨m0,w0⟩,turn⟩:=h;refine wpAny_While (codeAny_whileLoop (fun n s'=>∃σ' H',Inv X nC σ' H' s'/\W n σ' H') ?_ m0 ⟨σ,H,I,w0⟩);rintro n s1 ⟨σ1,H1,I1,w1⟩;refine wpAny_passesOwn hp (thn (hc nC s1 σ1 H1 _ I1 (turn n σ1 H1 w1)) fun b s2 ⟨H2,I2,q2⟩=>?_);cases b with
 |true=>
  obtain⟨N,hN,q2⟩:=q2;rw[if_pos rfl];refine wpAny_passesOwn hp (thn (hb nC s2 σ1 H2 _ I2 q2) fun f s3 q3=>?_);cases f with
  |next=>obtain⟨σ3,H3,I3,n3⟩:=q3;obtain⟨m',hm,w3⟩:=hN σ3 H3 n3;exact⟨m',hm,σ3,H3,I3,w3⟩
  |cont=>obtain⟨σ3,H3,I3,n3⟩:=q3;obtain⟨m',hm,w3⟩:=hN σ3 H3 n3;exact⟨m',hm,σ3,H3,I3,w3⟩
  |brk=>exact q3
  |ret v=>exact q3
 |false=>rw[if_neg Px];exact wpAny_execs_nil ⟨σ1,H2,I2,q2⟩
end
section
variable{P:Program}{w:World}{tg:Expr}{s:Shared}
structure It where
 go:Nat->Hp->Prop
 yld:Nat->Hp->V->Hp->Prop
 stop:Nat->Hp->Prop
def qU(X:Cx)(nC:List (Addr×Obj))(H:Hp)(b:Addr):Prop:=
 H b=none/\b≠X.env.locals/\b∉X.fs/\(b∈X.ex\/X.s₀.heap.objs.size<=b)/\(∀x c,X.env.cells.lookup x=some c->c≠b)/\∀p∈X.pn++nC,p.1≠b
theorem Inv.Ei{X:Cx}{nC:List (Addr×Obj)}{σ:St}{H H':Hp}{b:Addr}(I:Inv X nC σ H s)(hb:s.heap.objs.size<=b)(hn:H' b=none):qU X nC H' b:=by
 refine⟨hn,RP (Pq I.lt hb),I.NP hb,.inr (P0 I.sz hb),fun x c e z=>?_,fun p hp z=>?_⟩
 ·obtain⟨v,q⟩:=I.cell x c e;exact absurd (Pq q.lt (by rw[z];exact hb)) (QT _)
 ·exact absurd (Pq (Po (I.pin p hp).1) (by rw[z];exact hb)) (QT _)
structure Turn(P:Program)(w:World)(K:O8)(tg:Expr)(J:It)(fp:List Addr)(it:Addr)(tn:Nat->Heap->Prop):Prop where
 mem:it∈fp
 obj:∀i h,tn i h->∀b∈fp,∃o,h.get? b=some o/\∀v,o.data≠.cell v
 keep:∀i h h',tn i h->(∀b∈fp,∀o,h.get? b=some o->h'.get? b=some o)->tn i h'
 item:∀(X:Cx),X.prog=P->X.w=w->X.K=K->X.calm=true->∀(i:Nat) (nC:List (Addr×Obj)) (s:Shared) (σ:St) (H:Hp) (E:Value->Shared->Prop),Inv X nC σ H s->(∀b∈fp,qU X nC H b)->tn i s.heap->J.go i H ->
  wpAny (model P w) X.A (pyNext (.ref it)) (fun r s1=>∃ u,r=some u ∧
   wpAny (model P w) X.A (letOwnedTupleGo tg (.ref it) u) (fun _ s2=>∃x H',Inv X nC σ H' s2/\RelV x u/\J.yld i H x H'/\tn (i+1) s2.heap/\∀b∈fp,H' b=none) E s1) E s
 done:∀(X:Cx),X.prog=P->X.w=w->X.K=K->X.calm=true->∀(i:Nat) (nC:List (Addr×Obj)) (s:Shared) (σ:St) (H:Hp) (E:Value->Shared->Prop),Inv X nC σ H s->(∀b∈fp,qU X nC H b)->tn i s.heap->J.stop i H ->
  wpAny (model P w) X.A (pyNext (.ref it)) (fun r s1=>r=none/\Inv X nC σ H s1) E s
 self:∀(A:Around) (i:Nat) (s:Shared) (Q:Value->Shared->Prop) (E:Value->Shared->Prop),tn i s.heap->Q (.ref it) s->wpAny (model P w) A (pyIter (.ref it)) Q E s
noncomputable abbrev TI:=St->Hp->(It->Hp->Prop)->Prop
def PIE(X:Cx)(nC:List (Addr×Obj))(σ:St)(tg:Expr)(R:It->Hp->Prop)(itv:Value)(s2:Shared):Prop:=
 ∃(it:Addr) (fp:List Addr) (tn:Nat->Heap->Prop) (J:It) (H':Hp),itv=.ref it/\Inv X nC σ H' s2/\Turn X.prog X.w X.K tg J fp it tn/\tn 0 s2.heap/\(∀b∈fp,qU X nC H' b)/\R J H'
def PI(X:Cx)(tg iter:Expr)(wi:TI):Prop:=
 ∀(nC:List (Addr×Obj)) (s:Shared) (σ:St) (H:Hp) (R:It->Hp->Prop),Inv X nC σ H s->wi σ H R ->
  wpAny (model X.prog X.w) X.A (eval iter X.env) (fun v s1=>wpAny (model X.prog X.w) X.A (pyIter v) (PIE X nC σ tg R) X.xe s1) X.xe s
theorem AF{M:Model}{A:Around}{E:Value->Shared->Prop}{tg:Expr}{it:Addr}{u:Value}{o:Obj}{n:String}{vs:Array Value}{Q:Unit->Shared->Prop}(ho:s.heap.get? it=some o)(hc:o.cls=.type n)(hd:o.data=.fields vs)
  (hn:["enumerate","zip","dict_itemiterator","dict_reverseitemiterator","odict_iterator","itertools.zip_longest","itertools.pairwise"].contains n=false) (hQ:Q () s):wpAny M A (letOwnedTupleGo tg (.ref it) u) Q E s:=by
 unfold letOwnedTupleGo;cases tg<;>first
  |exact wpAny_pure hQ
  | (cases u<;>first
    |exact wpAny_pure hQ
    | (refine wpAny_bind (wpAny_load ho ?_)
       rw[hc,hd];show wpAny M A (if (["enumerate","zip","dict_itemiterator","dict_reverseitemiterator","odict_iterator","itertools.zip_longest","itertools.pairwise"].contains n&&vs[0]? == some (rawInt _))=true then _ else _) Q E s;rw[if_neg (by intro h;rw[hn,Bool.false_and]at h;cases h)];exact wpAny_pure hQ))
noncomputable def Itl(K:O8)(a:Addr):It:=
 ⟨fun i H=>∃xs x,SqL K H a xs/\xs[i]?=some x,fun i H x H'=>H'=H/\∀xs,SqL K H a xs->xs[i]?=some x,fun i H=>∃xs,SqL K H a xs/\xs.length<=i⟩
noncomputable def Itt(K:O8)(a:Addr):It:=
 ⟨fun i H=>∃xs x,SqT K H a xs/\xs[i]?=some x,fun i H x H'=>H'=H/\∀xs,SqT K H a xs->xs[i]?=some x,fun i H=>∃xs,SqT K H a xs/\xs.length<=i⟩
noncomputable def Itr(lo:Int)(n:Nat):It:=⟨fun i _=>i<n,fun i H x H'=>H'=H/\x=.int (lo+i),fun i _=>n<=i⟩
theorem zo{K:O8}(a it:Addr):Turn P w K tg (Itl K a) [it] it (fun i h=>h.IsListIter it a i) where
 mem:=by simp
 obj:=fun i h st b hb=>by
  have e:b=it:=by simpa using hb
  subst e;obtain⟨o,e,c,d⟩:=st;exact⟨o,e,fun v z=>by rw[d]at z;cases z⟩
 keep:=fun i h h' st k=>st.at fun o e=>k it (by simp) o e
 item:=by intro X hP hw hK hc i nC s σ H E I hf st hg;subst hP hw hK;obtain⟨xs,x,hq,hx⟩:=hg;obtain⟨its,rv,p,hz⟩:=I.list hq;obtain⟨u,hu,ru⟩:=rv.get hx;obtain⟨f0,f1,f2,f3,f4,f5⟩:=hf it (by simp);refine wpAny_pyNext_list_item st p.isList (x:=u) (by simpa using hu) fun h' st' sb=>?_;have I1:Inv X nC σ H { s with heap:=h' }:=I.turned (t':=s.toks) (fun b o hb e=>(sb.2 b hb).trans e) f0 f1 f3 f4 f5;obtain⟨o,e,c,d⟩:=id st';exact⟨u,rfl,AF (s:={ s with heap:=h' }) e c d (by decide) ⟨x,H,I1,ru,⟨rfl,fun ys hy=>by rw[I.sU hy hq];exact hx⟩,st',fun b hb=>(hf b hb).1⟩⟩
 done:=by intro X hP hw hK hc i nC s σ H E I hf st hg;subst hP hw hK;obtain⟨xs,hq,hx⟩:=hg;obtain⟨its,rv,p,hz⟩:=I.list hq;obtain⟨f0,f1,f2,f3,f4,f5⟩:=hf it (by simp);have hl:=rv.length;exact wpAny_pyNext_list_end (I.ok.hd hc) st p.isList (by simp;lia) fun h' eb=>⟨rfl,I.turned (t':=s.toks) (fun b o hb e=>eb b o hb e) f0 f1 f3 f4 f5⟩
 self:=fun _ _ _ _ _ st h=>wpAny_pyIter_listiter st h
theorem vO{K:O8}(a it:Addr):Turn P w K tg (Itt K a) [it] it (fun i h=>h.IsTupleIter it a i) where
 mem:=by simp
 obj:=fun i h st b hb=>by
  have e:b=it:=by simpa using hb
  subst e;obtain⟨o,e,c,d⟩:=st;exact⟨o,e,fun v z=>by rw[d]at z;cases z⟩
 keep:=fun i h h' st k=>st.at fun o e=>k it (by simp) o e
 item:=by intro X hP hw hK hc i nC s σ H E I hf st hg;subst hP hw hK;obtain⟨xs,x,hq,hx⟩:=hg;obtain⟨its,rv,p,hz⟩:=I.tuple hq;obtain⟨u,hu,ru⟩:=rv.get hx;obtain⟨f0,f1,f2,f3,f4,f5⟩:=hf it (by simp);refine wpAny_pyNext_tuple_item st (show s.heap.IsTuple a its.toArray from p) (x:=u) (by simpa using hu) fun h' st' sb=>?_;have I1:Inv X nC σ H { s with heap:=h' }:=I.turned (t':=s.toks) (fun b o hb e=>(sb.2 b hb).trans e) f0 f1 f3 f4 f5;obtain⟨o,e,c,d⟩:=id st';exact⟨u,rfl,AF (s:={ s with heap:=h' }) e c d (by decide) ⟨x,H,I1,ru,⟨rfl,fun ys hy=>by rw[I.zk hy hq];exact hx⟩,st',fun b hb=>(hf b hb).1⟩⟩
 done:=by intro X hP hw hK hc i nC s σ H E I hf st hg;subst hP hw hK;obtain⟨xs,hq,hx⟩:=hg;obtain⟨its,rv,p,hz⟩:=I.tuple hq;obtain⟨f0,f1,f2,f3,f4,f5⟩:=hf it (by simp);have hl:=rv.length;exact wpAny_pyNext_tuple_end (I.ok.hd hc) st (show s.heap.IsTuple a its.toArray from p) (by simp;lia) fun h' eb=>⟨rfl,I.turned (t':=s.toks) (fun b o hb e=>eb b o hb e) f0 f1 f3 f4 f5⟩
 self:=fun _ _ _ _ _ st h=>wpAny_pyIter_tupleiter st h
theorem vP{K:O8}(it:Addr)(lo:Int)(n:Nat):Turn P w K tg (Itr lo n) [it] it (fun i h=>IsRangeIter h it (lo+(i:Nat)*1) ((n:Int)-(i:Nat)) 1) where
 mem:=by simp
 obj:=fun i h st b hb=>by
  have e:b=it:=by simpa using hb
  subst e;exact ⟨_,st,fun v z=>by have z':Data.fields _=Data.cell v:=z;cases z'⟩
 keep:=fun i h h' st k=>k it (by simp) _ st
 item:=by intro X hP hw hK hc i nC s σ H E I hf st hg;subst hP hw hK;obtain⟨f0,f1,f2,f3,f4,f5⟩:=hf it (by simp);have W:=Walks.range (prog:=X.prog) (w:=X.w) (I.ok.hd hc) it lo 1 n;refine W.item i s _ _ hg st fun v h' tk hv st' kk=>?_;obtain⟨t,rfl⟩:=hv;have I1:Inv X nC σ H { s with heap:=h',toks:=tk }:=I.turned (fun b o hb e=>kk b o (by simpa using hb) e) f0 f1 f3 f4 f5;refine⟨_,rfl,AF (s:={ s with heap:=h',toks:=tk }) (n := "range_iterator") st' rfl rfl (by decide) ⟨.int (lo+i),H,I1,⟨t,?_⟩,⟨rfl,rfl⟩,st',fun b hb=>(hf b hb).1⟩⟩;rw[Int.mul_one]
 done:=by intro X hP hw hK hc i nC s σ H E I hf st hg;subst hP hw hK;obtain⟨f0,f1,f2,f3,f4,f5⟩:=hf it (by simp);exact wpAny_pyNext_range_end (I.ok.hd hc) st (by have:n<=i:=hg;lia) fun h' eb=>⟨rfl,I.turned (t':=s.toks) (fun b o hb e=>eb b o hb e) f0 f1 f3 f4 f5⟩
 self:=fun _ _ _ _ _ st h=>wpAny_pyIter_rangeiter st h
end
section
variable{X:Cx}{tg:Expr}
section
variable{nC:List (Addr×Obj)}{fp:List Addr}{s:Shared}{H:Hp}{σ:St}{l:Expr}{h:Heap}{tl:TE}{ta:TA}
def sX(K:O8)(tl:TE):TI:=fun σ H R=>tl σ H fun x H1=>∃a,x=.ref a/\(∃xs,SqL K H1 a xs)/\R (Itl K a) H1
def AG(K:O8)(tl:TE):TI:=fun σ H R=>tl σ H fun x H1=>∃a,x=.ref a/\(∃xs,SqT K H1 a xs)/\R (Itt K a) H1
theorem xU(hl:PE X l tl):PI X tg l (sX X.K tl):=by
 intro nC s σ H R I h;refine thn (hl nC s σ H _ I h) fun v s1 ⟨x,H1,I1,r1,q1⟩=>?_;obtain⟨a,e,⟨xs,hq⟩,q⟩:=q1;subst e;cases r1;obtain⟨its,rv,p,hz⟩:=I1.list hq;refine wpAny_pyIter_list p.isList ?_;refine⟨s1.heap.objs.size,[s1.heap.objs.size],_,_,H1,rfl,I1.kept (t':=s1.toks) fun b o e=>Ph _ e,zo a _,⟨_,P5 _ rfl,rfl,rfl⟩,fun b hb=>?_,q⟩;have e:b=s1.heap.objs.size:=by simpa using hb
 subst e;exact I1.Ei (Pb _) (I1.hok.fresh (Pb _))
theorem AH(hl:PE X l tl):PI X tg l (AG X.K tl):=by
 intro nC s σ H R I h;refine thn (hl nC s σ H _ I h) fun v s1 ⟨x,H1,I1,r1,q1⟩=>?_;obtain⟨a,e,⟨xs,hq⟩,q⟩:=q1;subst e;cases r1;obtain⟨its,rv,p,hz⟩:=I1.tuple hq;refine wpAny_pyIter_tuple (show s1.heap.IsTuple a its.toArray from p) ?_;refine⟨s1.heap.objs.size,[s1.heap.objs.size],_,_,H1,rfl,I1.kept (t':=s1.toks) fun b o e=>Ph _ e,vO a _,⟨_,P5 _ rfl,rfl,rfl⟩,fun b hb=>?_,q⟩;have e:b=s1.heap.objs.size:=by simpa using hb
 subst e;exact I1.Ei (Pb _) (I1.hok.fresh (Pb _))
theorem sY{R:It->Hp->Prop}{E:Value->Shared->Prop}{lo hi:Int}{t u v:Tok}{tk:Nat}(I:Inv X nC σ H s)(h1:-(2 ^ 62)<=lo)(h2:lo<2 ^ 62)(h3:-(2 ^ 62)<=hi)(h4:hi<2 ^ 62)
  (q:R (Itr lo (hi-lo).toNat) H):wpAny (model X.prog X.w) X.A (pyIter (.ref s.heap.objs.size)) (PIE X nC σ tg R) E { s with heap:=s.heap.push { cls:=.type "range",data:=.fields #[.int lo t,.int hi u,.int 1 v] },toks:=tk }:=by
 refine wpAny_pyIter_range (IsRange.new ..) (small_one h1 h2 h3 h4) ?_;have I1:Inv X nC σ H { s with heap:=s.heap.push { cls:=.type "range",data:=.fields #[.int lo t,.int hi u,.int 1 v] },toks:=tk }:=I.kept fun b o e=>Ph _ e;refine ⟨(s.heap.push { cls:=.type "range",data:=.fields #[.int lo t,.int hi u,.int 1 v] }).objs.size,[(s.heap.push { cls:=.type "range",data:=.fields #[.int lo t,.int hi u,.int 1 v] }).objs.size],_,_,H,rfl,
  I1.kept (t':=tk) fun b o e=>Ph _ e,vP _ lo (hi-lo).toNat,?_,fun b hb=>?_,q⟩
 ·have e1:lo+((0:Nat):Int)*1=lo:=by simp
  have e2:(((hi-lo).toNat:Nat):Int)-((0:Nat):Int)=Builtin.Range.rangeSize lo hi 1:=by rw[rangeSize_one];split<;>lia
  show IsRangeIter _ _ (lo+((0:Nat):Int)*1) ((((hi-lo).toNat:Nat):Int)-((0:Nat):Int)) 1;rw[e1,e2];exact P5 _ rfl
 ·have e:b=(s.heap.push { cls:=.type "range",data:=.fields #[.int lo t,.int hi u,.int 1 v] }).objs.size:=by simpa using hb
  subst e;exact I1.Ei (Pb _) (I1.hok.fresh (Pb _))
def AI(ta:TA):TI:=fun σ H R=>ta σ H fun vs H1=>∃j:Int,vs=[.int j]/\-(2 ^ 62)<=j/\j<2 ^ 62/\R (Itr 0 j.toNat) H1
def Hr(ta:TA):TI:=fun σ H R=>ta σ H fun vs H1=>∃i j:Int,vs=[.int i,.int j]/\(-(2 ^ 62)<=i/\i<2 ^ 62/\-(2 ^ 62)<=j/\j<2 ^ 62)/\R (Itr i (j-i).toNat) H1
theorem pP{a:Expr}{p pos:Pos}(hg:Gl X "range")(hm:X.mg "range" = none)(ha:PA X [a] ta)(hs:starEach [a] X.env=[(false,eval a X.env)]:=by rfl):PI X tg (.Call (.Name "range" p) [a] [] pos) (AI ta):=by
 intro nC s σ H R I h;refine Call_ (kr I hg hm boot_range (QZ (thn (ha pos nC s σ H _ I h) fun us s1 ⟨vs,H1,I1,r1,q1⟩=>?_) hs rfl));obtain⟨j,e,q1,q2,q⟩:=q1;subst e;cases r1 with
 |cons r rr=>cases rr;obtain⟨t,rfl⟩:=r;exact call_range_1 (sY I1 (by lia) (by lia) q1 q2 (by simpa using q))
theorem zu{a b:Expr}{p pos:Pos}(hg:Gl X "range")(hm:X.mg "range" = none)(ha:PA X [a,b] ta)(hs:starEach [a,b] X.env=[(false,eval a X.env),(false,eval b X.env)]:=by rfl)(hs2:starEach [b] X.env=[(false,eval b X.env)]:=by rfl) :
  PI X tg (.Call (.Name "range" p) [a,b] [] pos) (Hr ta):=by
 intro nC s σ H R I h;refine Call_ (kr I hg hm boot_range (QZ (thn (ha pos nC s σ H _ I h) fun us s1 ⟨vs,H1,I1,r1,q1⟩=>?_) (by rw[hs,hs2]) (by rw[hs2];rfl)));obtain⟨i,j,e,⟨q1,q2,q3,q4⟩,q⟩:=q1;subst e;cases r1 with
 |cons r rr=>
  cases rr with
  |cons r' rr=>cases rr;obtain⟨t,rfl⟩:=r;obtain⟨t',rfl⟩:=r';exact call_range_2 (sY I1 q1 q2 q3 q4 q)
def Ej(wi:TI)(g:TG)(tb:TS):TS:=fun D σ H=>wi σ H fun J H1=>∃W:Nat->Nat->St->Hp->Prop,(∃m,W 0 m σ H1)/\∀i m σ H,W i m σ H ->
 (J.stop i H/\D.nx σ H)\/(J.go i H/\∃N:St->Hp->Prop,(∀σ' H',N σ' H'->∃m',m'<m/\W (i+1) m' σ' H')/\∀x H',J.yld i H x H'->g x σ H' fun σ2 H2=>tb { D with nx:=N,ct:=N,bk:=D.nx } σ2 H2)
noncomputable def mh(fp:List Addr)(h:Heap):List (Addr×Obj):=fp.filterMap fun b=>(h.get? b).map fun o=>(b,o)
theorem fP{b:Addr}{o:Obj}(hb:b∈fp)(e:h.get? b=some o):(b,o)∈mh fp h:=RD.mpr ⟨b,hb,by rw[e];rfl⟩
theorem zv{p:Addr×Obj}(hp:p∈mh fp h):p.1∈fp/\h.get? p.1=some p.2:=by
 obtain⟨b,hb,e⟩:=RD.mp hp;cases q:h.get? b with
 |none=>rw[q]at e;cases e
 |some o=>rw[q]at e;have e':(b,o)=p:=Option.some.inj e;subst e';exact⟨hb,q⟩
theorem Inv.pinned(I:Inv X nC σ H s)(hf:∀b∈fp,qU X nC H b)(ho:∀b∈fp,∃o,s.heap.get? b=some o/\∀v,o.data≠.cell v):Inv X (nC++mh fp s.heap) σ H s:=
 I.xT fun p hp=>(Pp.mp hp).elim (fun z=>I.pin p (PF _ z)) fun z=>by obtain⟨hb,e⟩:=zv z;obtain⟨f0,f1,f2,_⟩:=hf p.1 hb;obtain⟨o,e',d⟩:=ho p.1 hb;rw[e]at e';cases e';exact⟨e,f0,f1,f2,d⟩
theorem Inv.jO{nC pl:List (Addr×Obj)}(I:Inv X (nC++pl) σ H s):Inv X nC σ H s:=I.xT fun p hp=>I.pin p (PF _ (PK _ hp))
theorem vQ{iter:Expr}{body:List Stmt}{wi:TI}{g:TG}{tb:TS}{pos:Pos}(hp:PassesOwn (model X.prog X.w) X.A X.env X.xe)(hc:X.calm=true)(hi:PI X tg iter wi)(hg:PG X tg g)(hb:PSs X body tb)
  (hs:∀x,foldedSetIterable iter X.env x=pure x:=by intro _;rfl):PS X (.For tg iter body [] pos) (Ej wi g tb):=by
 intro nC s σ H D I h;refine wpAny_For (thn (hi nC s σ H _ I h) fun v s1 h1=>thn h1 fun itv s2 h2=>?_) hs;obtain⟨it,fp,tn,J,H2,e,I2,T,st2,f2,W,⟨m0,w0⟩,turn⟩:=h2;subst e;have stat:∀{H':Hp},(∀b∈fp,H' b=none)->∀b∈fp,qU X nC H' b:=fun hn b hb=>⟨hn b hb,(f2 b hb).2⟩;refine codeAny_forLoop_any (fun n s'=>∃i σ' H',Inv X nC σ' H' s'/\tn i s'.heap/\(∀b∈fp,H' b=none)/\W i n σ' H') ?_ m0 ⟨0,σ,H2,I2,st2,fun b hb=>(f2 b hb).1,w0⟩;rintro n s3 ⟨i,σ3,H3,I3,st3,fr3,w3⟩;rcases turn i n σ3 H3 w3 with⟨stop,qn⟩ | ⟨go,N,hN,step⟩
 ·refine wpAny_passesOwn hp (thn (T.done X rfl rfl rfl hc i nC s3 σ3 H3 X.xe I3 (stat fr3) st3 stop) fun r s4 ⟨hr,I4⟩=>?_);subst hr;exact wpAny_execs_nil ⟨σ3,H3,I4,qn⟩
 ·refine wpAny_passesOwn hp (thn (T.item X rfl rfl rfl hc i nC s3 σ3 H3 X.xe I3 (stat fr3) st3 go) fun r s4 ⟨u,hr,h4⟩=>?_);subst hr;refine wpAny_passesOwn hp (thn h4 fun _ s5 ⟨x,H5,I5,r5,y5,st5,fr5⟩=>?_);have I5':=I5.pinned (stat fr5) (T.obj _ _ st5);refine wpAny_passesOwn hp (thn (hg _ s5 σ3 H5 x u _ I5' r5 (step x H5 y5)) fun _ s6 ⟨σ6,H6,I6,q6⟩=>?_);refine wpAny_passesOwn hp (thn (hb _ s6 σ6 H6 _ I6 q6) fun f s7 q7=>?_);have again:∀{σ7:St} {H7:Hp},Inv X (nC++mh fp s5.heap) σ7 H7 s7->N σ7 H7->∃m,m<n/\∃i σ' H',Inv X nC σ' H' s7/\tn i s7.heap/\(∀b∈fp,H' b=none)/\W i m σ' H':=fun {σ7 H7} I7 n7=>by
   obtain⟨m',hm,w7⟩:=hN σ7 H7 n7;refine⟨m',hm,i+1,σ7,H7,I7.jO,T.keep _ _ _ st5 fun b hb o e=>(I7.pin (b,o) (PF _ (PF _ (fP hb e)))).1,fun b hb=>?_,w7⟩;obtain⟨o,e,d⟩:=T.obj _ _ st5 b hb;exact(I7.pin (b,o) (PF _ (PF _ (fP hb e)))).2.1
  cases f with
  |next=>obtain⟨σ7,H7,I7,n7⟩:=q7;exact again I7 n7
  |cont=>obtain⟨σ7,H7,I7,n7⟩:=q7;exact again I7 n7
  |brk=>obtain⟨σ7,H7,I7,q7⟩:=q7;exact⟨σ7,H7,I7.jO,q7⟩
  |ret v=>obtain⟨x7,σ7,H7,I7,r7,q7⟩:=q7;exact⟨x7,σ7,H7,I7.jO,r7,q7⟩
end
end
noncomputable abbrev R2:=V->V->Hp->VK->Prop
def OpR(X:Cx)(f:Value->Value->Sem Value)(r:R2):Prop:=
 ∀(nC:List (Addr×Obj)) (s:Shared) (σ:St) (H:Hp) (x y:V) (v u:Value) (Q:VK),Inv X nC σ H s->RelV x v->RelV y u->r x y H Q ->
  wpAny (model X.prog X.w) X.A (f v u) (EP X nC σ Q) X.xe s
def UnR(X:Cx)(f:Value->Sem Value)(r:V->Hp->VK->Prop):Prop:=
 ∀(nC:List (Addr×Obj)) (s:Shared) (σ:St) (H:Hp) (x:V) (v:Value) (Q:VK),Inv X nC σ H s->RelV x v->r x H Q ->
  wpAny (model X.prog X.w) X.A (f v) (EP X nC σ Q) X.xe s
def cX(X:Cx)(f:Value)(r:List V->Hp->VK->Prop):Prop:=
 ∀(nC:List (Addr×Obj)) (s:Shared) (σ:St) (H:Hp) (xs:List V) (us:List Value) (Q:VK),Inv X nC σ H s->Vals xs us->r xs H Q ->
  wpAny (model X.prog X.w) X.A (call f us) (EP X nC σ Q) X.xe s
def NT(X:Cx)(r:V->Hp->(Bool->Hp->Prop)->Prop):Prop:=
 ∀(nC:List (Addr×Obj)) (s:Shared) (σ:St) (H:Hp) (x:V) (v:Value) (Q:Bool->Hp->Prop),Inv X nC σ H s->RelV x v->r x H Q ->
  wpAny (model X.prog X.w) X.A (truthy v) (TP X nC σ Q) X.xe s
def tOp(r:R2)(ta tb:TE):TE:=fun σ H Q=>ta σ H fun x H1=>tb σ H1 fun y H2=>r x y H2 Q
def tUn(r:V->Hp->VK->Prop)(ta:TE):TE:=fun σ H Q=>ta σ H fun x H1=>r x H1 Q
def rI(C:Int->Int->Prop)(g:Int->Int->V):R2:=fun x y H Q=>∃i j,x=.int i/\y=.int j/\C i j/\Q (g i j) H
def rI0(g:Int->Int->V):R2:=fun x y H Q=>∃i j,x=.int i/\y=.int j/\Q (g i j) H
def rU(g:Int->V):V->Hp->VK->Prop:=fun x H Q=>∃i,x=.int i/\Q (g i) H
section
variable{X:Cx}{a b c:Expr}{ta tb tc:TE}{pos:Pos}
theorem IX(ha:PE X a ta)(hb:PE X b tb){nC:List (Addr×Obj)}{s:Shared}{σ:St}{H:Hp}{R:V->V->Hp->Prop}(I:Inv X nC σ H s)
  (h:ta σ H fun x H1=>tb σ H1 fun y H2=>R x y H2) {Q:Value->Shared->Prop} {f:Value->Value->Sem Value}
  (hf:∀v u s2 x y H2,Inv X nC σ H2 s2->RelV x v->RelV y u->R x y H2->wpAny (model X.prog X.w) X.A (f v u) Q X.xe s2) :
  wpAny (model X.prog X.w) X.A (eval a X.env) (fun v s₁=>wpAny (model X.prog X.w) X.A (eval b X.env) (fun u s₂=>wpAny (model X.prog X.w) X.A (f v u) Q X.xe s₂) X.xe s₁) X.xe s:=by
 refine thn (ha nC s σ H _ I h) fun v s1 ⟨x,H1,I1,r1,q1⟩=>?_;refine thn (hb nC s1 σ H1 _ I1 q1) fun u s2 ⟨y,H2,I2,r2,q2⟩=>?_;exact hf v u s2 x y H2 I2 r1 r2 q2
theorem Lz{op:Operator}{r:R2}(ho:OpR X (binaryOp op) r)(ha:PE X a ta)(hb:PE X b tb):PE X (.BinOp a op b pos) (tOp r ta tb):=by intro nC s σ H Q I h;exact wpAny_BinOp (IX ha hb I h fun v u s2 x y H2 I2 rx ry q=>ho nC s2 σ H2 x y v u Q I2 rx ry q)
theorem LA{op:UnaryOp}{r:V->Hp->VK->Prop}(ho:UnR X (unaryOp op) r)(ha:PE X a ta):PE X (.UnaryOp op a pos) (tUn r ta):=by intro nC s σ H Q I h;exact UnaryOp_ (thn (ha nC s σ H _ I h) fun v s1 ⟨x,H1,I1,r1,q1⟩=>ho nC s1 σ H1 x v Q I1 r1 q1)
theorem opI{f:Value->Value->Sem Value}{C:Int->Int->Prop}{g:Int->Int->Int}
  (rule:∀(i j:Int) (t u:Tok) (s:Shared) (Q:Value->Shared->Prop) (E:Value->Shared->Prop),C i j->Q (.int (g i j) s.toks) { s with toks:=s.toks+1 }->wpAny (model X.prog X.w) X.A (f (.int i t) (.int j u)) Q E s) :
  OpR X f (rI C fun i j=>.int (g i j)):=by
 intro nC s σ H x y v u Q I rx ry h;obtain⟨i,j,rfl,rfl,hc,q⟩:=h;obtain⟨t,rfl⟩:=rx;obtain⟨t',rfl⟩:=ry;exact rule i j t t' s _ _ hc ⟨.int (g i j),H,I.tok _,⟨_,rfl⟩,q⟩
theorem LB{f:Value->Value->Sem Value}{g:Int->Int->Int}
  (rule:∀(i j:Int) (t u:Tok) (s:Shared) (Q:Value->Shared->Prop) (E:Value->Shared->Prop),Q (.int (g i j) s.toks) { s with toks:=s.toks+1 }->wpAny (model X.prog X.w) X.A (f (.int i t) (.int j u)) Q E s) :
  OpR X f (rI0 fun i j=>.int (g i j)):=by
 intro nC s σ H x y v u Q I rx ry h;obtain⟨i,j,rfl,rfl,q⟩:=h;obtain⟨t,rfl⟩:=rx;obtain⟨t',rfl⟩:=ry;exact rule i j t t' s _ _ ⟨.int (g i j),H,I.tok _,⟨_,rfl⟩,q⟩
theorem Ek{f:Value->Value->Sem Value}{g:Int->Int->Bool}
  (rule:∀(i j:Int) (t u:Tok) (s:Shared) (Q:Value->Shared->Prop) (E:Value->Shared->Prop),Q (.bool (g i j)) s->wpAny (model X.prog X.w) X.A (f (.int i t) (.int j u)) Q E s) :
  OpR X f (rI0 fun i j=>.bl (g i j)):=by
 intro nC s σ H x y v u Q I rx ry h;obtain⟨i,j,rfl,rfl,q⟩:=h;obtain⟨t,rfl⟩:=rx;obtain⟨t',rfl⟩:=ry;exact rule i j t t' s _ _ ⟨.bl (g i j),H,I,rfl,q⟩
def LC(i j:Int):Prop:=0<=j/\j<=1000000/\i.natAbs<2 ^ 64
def AJ(i j:Int):Prop:=(-(2 ^ 64)<i/\i<2 ^ 64)\/(-(2 ^ 64)<j/\j<2 ^ 64)
theorem AJ.ok{i j:Int}(h:AJ i j):IntMulOk i j:=by
 rcases h with⟨h1,h2⟩ | ⟨h1,h2⟩
 ·exact .of_left (intBits_le_64 h1 h2)
 ·exact .of_right (intBits_le_64 h1 h2)
theorem IY:OpR X (binaryOp .Add) (rI0 fun i j=>.int (i+j)):=LB fun _ _ _ _ _ _ _ q=>add_int q
theorem IZ:OpR X (binaryOp .Sub) (rI0 fun i j=>.int (i-j)):=LB fun _ _ _ _ _ _ _ q=>sub_int q
theorem I0:OpR X (binaryOp .Mult) (rI AJ fun i j=>.int (i*j)):=opI fun _ _ _ _ _ _ _ hc q=>mul_int q hc.ok
theorem I_:OpR X (binaryOp .Mod) (rI (fun _ j=>0<j) fun i j=>.int (i % j)):=opI fun i j _ _ _ _ _ hc q=>by have h1:(0:Int)<j:=hc;exact mod_int' (by lia) (by rw[Int.fmod_eq_emod_of_nonneg i (by lia)];exact q)
theorem Ja:OpR X (binaryOp .Pow) (rI LC fun i j=>.int (i ^ j.toNat)):=opI fun _ _ _ _ _ _ _ hc q=>pow_int_small hc.1 hc.2.1 hc.2.2 q
theorem unI{f:Value->Sem Value}{g:Int->Int}
  (rule:∀(i:Int) (t:Tok) (s:Shared) (Q:Value->Shared->Prop) (E:Value->Shared->Prop),Q (.int (g i) s.toks) { s with toks:=s.toks+1 }->wpAny (model X.prog X.w) X.A (f (.int i t)) Q E s) :
  UnR X f (rU fun i=>.int (g i)):=by
 intro nC s σ H x v Q I rx h;obtain⟨i,rfl,q⟩:=h;obtain⟨t,rfl⟩:=rx;exact rule i t s _ _ ⟨.int (g i),H,I.tok _,⟨_,rfl⟩,q⟩
theorem Jb:UnR X (unaryOp .USub) (rU fun i=>.int (-i)):=unI fun _ _ _ _ _ q=>neg_int q
end
section
variable{X:Cx}{a b c:Expr}{ta tb tc:TE}{pos:Pos}
theorem AK:OpR X (compareOp .Lt) (rI0 fun i j=>.bl (decide (i<j))):=Ek fun _ _ _ _ _ _ _ q=>lt_int q
theorem AL:OpR X (compareOp .LtE) (rI0 fun i j=>.bl (decide (i<=j))):=Ek fun _ _ _ _ _ _ _ q=>le_int q
theorem LD:OpR X (compareOp .Gt) (rI0 fun i j=>.bl (decide (j<i))):=Ek fun _ _ _ _ _ _ _ q=>gt_int q
theorem LF:OpR X (compareOp .GtE) (rI0 fun i j=>.bl (decide (j<=i))):=Ek fun _ _ _ _ _ _ _ q=>ge_int q
theorem OpR.or{f:Value->Value->Sem Value}{r r':R2}(h:OpR X f r)(h':OpR X f r'):OpR X f (fun x y H Q=>r x y H Q\/r' x y H Q):=by
 intro nC s σ H x y v u Q I rx ry q;rcases q with q | q
 ·exact h nC s σ H x y v u Q I rx ry q
 ·exact h' nC s σ H x y v u Q I rx ry q
theorem fQ(b:Expr){op:CmpOp}(h:op≠.In:=by decide)(h2:op≠.NotIn:=by decide):behindInMarks op b=false:=by
 have e1:(op == CmpOp.In)=false:=by cases op<;>first | rfl | exact absurd rfl h
 have e2:(op == CmpOp.NotIn)=false:=by cases op<;>first | rfl | exact absurd rfl h2
 cases b<;>simp[behindInMarks,e1,e2]
theorem El{op:CmpOp}{r:R2}(ho:OpR X (compareOp op) r)(ha:PE X a ta)(hb:PE X b tb)(hm:behindInMarks op b=false):PE X (.Compare a [op] [b] pos) (tOp r ta tb):=by intro nC s σ H Q I h;exact wpAny_Compare1 (IX ha hb I h fun v u s2 x y H2 I2 rx ry q=>ho nC s2 σ H2 x y v u Q I2 rx ry q) hm
def Ht(t:TE):TT:=fun σ H Q=>t σ H fun x H'=>∃k,x=.bl k/\Q k H'
theorem Em{op:CmpOp}{r:R2}(ho:OpR X (compareOp op) r)(ha:PE X a ta)(hb:PE X b tb)(hm:behindInMarks op b=false):PT X (.Compare a [op] [b] pos) (Ht (tOp r ta tb)):=by
 intro nC s σ H Q I h;refine wpAny_isTrue_Compare1 (thn (ha nC s σ H _ I h) fun v s1 ⟨x,H1,I1,r1,q1⟩=>thn (hb nC s1 σ H1 _ I1 q1) fun u s2 ⟨y,H2,I2,r2,q2⟩=>thn (ho nC s2 σ H2 x y v u _ I2 r1 r2 q2) fun c s3 ⟨z,H3,I3,r3,k,e,q3⟩=>?_) hm
 subst e;cases r3;exact wpAny_truthy_bool ⟨H3,I3,q3⟩
def AM(r r':R2)(ta tb tc:TE):TE:=fun σ H Q=>ta σ H fun x H1=>tb σ H1 fun y H2=>r x y H2 fun z H3=>∃k,z=.bl k /\
 (if k=true then tc σ H3 fun w' H4=>r' y w' H4 Q else Q (.bl false) H3)
theorem AO{op op':CmpOp}{r r':R2}(ho:OpR X (compareOp op) r)(ho':OpR X (compareOp op') r')(ha:PE X a ta)(hb:PE X b tb)(hc:PE X c tc)
  (hm:lastMarks [op,op'] [b,c]=false:=by with_unfolding_all rfl):PE X (.Compare a [op,op'] [b,c] pos) (AM r r' ta tb tc):=by
 intro nC s σ H Q I h;refine Compare_chain (thn (ha nC s σ H _ I h) fun v s1 ⟨x,H1,I1,r1,q1⟩=>chain_link (thn (hb nC s1 σ H1 _ I1 q1) fun u s2 ⟨y,H2,I2,r2,q2⟩=>thn (ho nC s2 σ H2 x y v u _ I2 r1 r2 q2) fun d s3 ⟨z,H3,I3,r3,k,e,q3⟩=>?_)) hm
 subst e;cases r3;refine wpAny_truthy_bool ?_;cases k with
 |false=>exact ite_ff ⟨.bl false,H3,I3,rfl,q3⟩
 |true=>exact ite_tt (chain_last (thn (hc nC s3 σ H3 _ I3 q3) fun w' s4 ⟨z',H4,I4,r4,q4⟩=>ho' nC s4 σ H4 y z' u w' Q I4 r2 r4 q4))
def Jc(K:O8)(x:V)(H:Hp)(k:Bool):Prop:=
 match x with
 |.non=>k=false
 |.bl b=>k=b
 |.int i=>k=(i != 0)
 |.str y=>y.length<=sizeLine/\k=((y.length:Int) != 0)
 |.byt y=>y.size<=sizeLine/\k=((y.size:Int) != 0)
 |.ref p=>(∃xs,SqL K H p xs/\k=!xs.isEmpty)\/(∃xs,SqT K H p xs/\k=!xs.isEmpty)\/∃kvs,H p=some (.dK kvs)/\k=!kvs.isEmpty
 |_=>False
theorem vR{κ:Type}{kvs:List (κ×V)}{vs:List (κ×Value)}(r:KV kvs vs):(!vs.isEmpty)=!kvs.isEmpty:=by cases r<;>rfl
theorem mj{xs:List V}{its:List Value}(r:Vals xs its):(!its.toArray.isEmpty)=!xs.isEmpty:=by cases r<;>simp
theorem mq:(sizeLine:Nat)<2 ^ 63:=by rw[sizeLine_eq];decide
theorem Jd:NT X (fun x H Q=>∃k,Jc X.K x H k/\Q k H):=by
 intro nC s σ H x v Q I rx h;obtain⟨k,e,q⟩:=h;have hl:=mq;have hs:sizeLine=16777216:=sizeLine_eq;cases x with
 |non=>cases rx;have e':k=false:=e;subst e';exact truthy_none ⟨H,I,q⟩
 |bl b=>cases rx;have e':k=b:=e;subst e';exact wpAny_truthy_bool ⟨H,I,q⟩
 |int i=>obtain⟨t,rfl⟩:=rx;have e':k=(i != 0):=e;subst e';exact PySem.P.truthy_int ⟨H,I,q⟩
 |str y=>obtain⟨t,rfl⟩:=rx;obtain⟨hy,e'⟩:y.length<=sizeLine/\k=((y.length:Int) != 0):=e;subst e';exact PySem.P.truthy_str (by lia) ⟨H,I.tok _,q⟩
 |byt y=>obtain⟨t,rfl⟩:=rx;obtain⟨hy,e'⟩:y.size<=sizeLine/\k=((y.size:Int) != 0):=e;subst e';exact PySem.W.truthy_bytes (by lia) ⟨H,I.tok _,q⟩
 |ref p=>
  cases rx;have e':(∃xs,SqL X.K H p xs/\k=!xs.isEmpty)\/(∃xs,SqT X.K H p xs/\k=!xs.isEmpty)\/∃kvs,H p=some (.dK kvs)/\k=!kvs.isEmpty:=e;rcases e' with⟨xs,hx,e'⟩ | ⟨xs,hx,e'⟩ | ⟨kvs,hx,e'⟩
  ·subst e';obtain⟨its,r,pl,hz⟩:=I.list hx;have sF:=r.length;exact wpAny_truthy_list pl.isList (by simp only[Pe];lia) ⟨H,I.tok _,by rw[mj r];exact q⟩
  ·subst e';obtain⟨its,r,pl,hz⟩:=I.tuple hx;have sF:=r.length;exact truthy_tuple pl (by simp only[Pe];lia) ⟨H,I.tok _,by rw[mj r];exact q⟩
  ·subst e';obtain⟨hz,hS,vs,r,m⟩:kvs.length<=sizeLine/\(p == sysModules)=false/\∃vs,KV kvs vs/\s.heap.DictOf (aJ X.prog X.w) p vs:=I.hok p _ hx;have sF:kvs.length=vs.length:=Paired.length r;exact wpAny_truthy_dict hS m (by lia) ⟨H,I.tok _,by rw[vR r];exact q⟩
 |_=>exact(show False from e).elim
theorem AQ(ha:PE X a ta)(he:∀whole,isTrue a X.env whole=(do let v <- whole;standAt a.pos;holding [v] (truthy v))) :
  PT X a (fun σ H Q=>ta σ H fun x H'=>∃k,Jc X.K x H' k/\Q k H'):=by
 intro nC s σ H Q I h;exact isTrue_plain (thn (ha nC s σ H _ I h) fun v s1 ⟨x,H1,I1,r1,q1⟩=>Jd nC s1 σ H1 x v Q I1 r1 q1) (he _)
theorem vals1{x:V}{us:List Value}(r:Vals [x] us):∃u,us=[u]/\RelV x u:=by
 cases r with
 |cons r1 r2=>cases r2;exact⟨_,rfl,r1⟩
theorem vals2{x y:V}{us:List Value}(r:Vals [x,y] us):∃u w',us=[u,w']/\RelV x u/\RelV y w':=by
 cases r with
 |cons r1 r2=>
  cases r2 with
  |cons r3 r4=>cases r4;exact⟨_,_,rfl,r1,r3⟩
theorem zw(hc:X.calm=true):cX X (.builtin "max") (fun xs H Q=>∃i j,xs=[.int i,.int j]/\Q (.int (if j>i then j else i)) H):=by
 intro nC s σ H xs us Q I r h;obtain⟨i,j,rfl,q⟩:=h;obtain⟨u,w',rfl,⟨t,rfl⟩,⟨t',rfl⟩⟩:=vals2 r;refine max_two_ints (I.ok.hd hc) fun h' tk k=>⟨_,H,I.kept k,?_,q⟩;by_cases hj:j>i
 ·rw[if_pos hj,if_pos hj];exact⟨_,rfl⟩
 ·rw[if_neg hj,if_neg hj];exact⟨_,rfl⟩
theorem zx(hc:X.calm=true):cX X (.builtin "min") (fun xs H Q=>∃i j,xs=[.int i,.int j]/\Q (.int (if j<i then j else i)) H):=by
 intro nC s σ H xs us Q I r h;obtain⟨i,j,rfl,q⟩:=h;obtain⟨u,w',rfl,⟨t,rfl⟩,⟨t',rfl⟩⟩:=vals2 r;refine min_two_ints (I.ok.hd hc) fun h' tk k=>⟨_,H,I.kept k,?_,q⟩;by_cases hj:j<i
 ·rw[if_pos hj,if_pos hj];exact⟨_,rfl⟩
 ·rw[if_neg hj,if_neg hj];exact⟨_,rfl⟩
end
section
variable{mA:Str->Option Value}{h:Heap}
structure Je(h:Heap)(x dx C:Addr)(mA:Str->Option Value):Prop where
 obj:h.get? x=some (RT C dx)
 ns:h.Ns1 dx mA
 ne:dx≠x
theorem zy{dx:Addr}(n:h.Ns1 dx mA):∃od,h.get? dx=some od/\∀name,RZ name od=some (mA name):=by
 obtain⟨o,es,ep,ho,hd,hk,_,hm⟩:=n;refine⟨o,ho,fun name=>?_⟩;have e:=hm name;unfold nsFind findBy at e;rw[<- Array.find?_toList]at e;unfold RZ;rw[hd];dsimp only;split
 ·rename_i y q;rw[q]at e;exact congrArg some e
 ·rename_i q;rw[q]at e;have a:es.toList.any (·.refKey)=false:=by
   rw[List.any_eq_false];intro y hy;obtain⟨z,t,hkey⟩:=hk y (Array.mem_toList_iff.mp hy);simp[DictEntry.refKey,hkey]
  have a':¬es.toList.any (·.refKey)=true:=by rw[a];exact Px
  rw[if_neg a'];exact congrArg some e
theorem Je.look{x dx C:Addr}(I:Je h x dx C mA):∃od,PySem.W.InstAt h x (RT C dx) C (some od)/\∀name,RZ name od=some (mA name):=
 let ⟨od,ho,hl⟩:=zy I.ns
 ⟨od,⟨I.obj,rfl,rfl,ho⟩,hl⟩
theorem jN.some_of{v:V}{o:Option Value}(r:jN (some v) o):∃u,o=some u/\RelV v u:=by
 cases o with
 |none=>exact(show False from r).elim
 |some u=>exact⟨u,rfl,r⟩
end
section
variable{P:Program}{w:World}{H H':Hp}{h h':Heap}{a C dx:Addr}{fs fs':List (Str×V)}
theorem En(hok:HOk P w H h)(e:H a=some (.ins C dx fs)):∃mA,Je h a dx C mA/\(∀f,jN (fs.lookup f) (mA f))/\PySem.Within mA (fs.map (·.1))/\fs.length<=1000/\H dx=some (.own a):=by
 obtain⟨d,z,ne,ob,mA,n,r,q⟩:=(show aQ P w H h a (.ins C dx fs) from hok a _ e)
 exact⟨mA,⟨ob,n,ne⟩,r,q,z,d⟩
end
structure Cls(K:O8)(C:Addr):Prop where
 pg:PySem.W.plainGet K C Str.empty=true
 hd:PySem.W.hasDictIn K C=true
 po:PySem.W.plainOver K C=true
 sa:PySem.W.findIn K (.ref C) "__setattr__" = some (some (.builtin "object.__setattr__"))
theorem Cls.get{K:O8}{C:Addr}(c:Cls K C)(f:Str):PySem.W.plainGet K C f=true:=c.pg
section
variable{X:Cx}{nC:List (Addr×Obj)}{σ:St}{H:Hp}{s:Shared}{A:Around}{E:Value->Shared->Prop}{Q:Value->Shared->Prop}{c:Value}{b:Bool}
inductive jP(K:O8)(H:Hp):V->Value->Prop where
 |non:jP K H .non (.type "NoneType")
 |bl (x:Bool):jP K H (.bl x) (.type "bool")
 |int (i:Int):jP K H (.int i) (.type "int")
 |str (x:Str):jP K H (.str x) (.type "str")
 |flt (x:UInt64):jP K H (.flt x) (.type "float")
 |lst {a:Addr} {xs:List V} (e:H a=some (.lst xs)):jP K H (.ref a) (.type "list")
 |frz {a:Addr} {o:Obj} {xs:List V} (e:H a=some (.frz o (.lst xs))):jP K H (.ref a) (.type "list")
 |tup {a:Addr} {xs:List V} (e:H a=some (.tup xs)):jP K H (.ref a) (.type "tuple")
 |dK {a:Addr} {kvs:List (Key×V)} (e:H a=some (.dK kvs)):jP K H (.ref a) (.type "dict")
 |dT {a:Addr} {kvs:List (List Key×V)} {ts:List Addr} (e:H a=some (.dT kvs ts)):jP K H (.ref a) (.type "dict")
 |ins {a C dx:Addr} {fs:List (Str×V)} (e:H a=some (.ins C dx fs)) (cl:Cls K C) (ha:PySem.W.findIn K (.ref C) "__class__" = some (some (.builtin "object.__class__")))
   (hn:PySem.W.specialIn K (.builtin "object.__class__") "__get__" = some (some (.builtin "getset_descriptor.__get__"))) (htk:PySem.W.takesIn K (.builtin "object.__class__")=some true)
   (hm:PySem.W.mroIn K C (.type "object")=some true):jP K H (.ref a) (.ref C)
theorem zz{x:V}{u t:Value}(I:Inv X nC σ H s)(rx:RelV x u)(ty:jP X.K H x t)(e:R0 X.K t c=some b)(h:∀tk,Q (.bool b) { s with toks:=tk }) :
  wpAny (model X.prog X.w) A (call (.builtin "isinstance") [u,c]) Q E s:=by
 cases ty with
 |non=>cases (show u=Value.none from rx);exact Qv PySem.W.kitx_none I.kIn QK e (fun z=>nomatch z) h
 |bl y=>cases (show u=Sb y from rx);exact Qv PySem.W.kitx_bool I.kIn QK e (fun z=>nomatch z) h
 |int i=>obtain⟨t,q⟩:=(show ∃t,u=R5 i t from rx);cases q;exact Qv PySem.W.kitx_int I.kIn QK e (fun z=>nomatch z) h
 |str y=>obtain⟨t,q⟩:=(show ∃t,u=R6 y t from rx);cases q;exact Qv PySem.W.kitx_str I.kIn QK e (fun z=>nomatch z) h
 |flt y=>obtain⟨t,q⟩:=(show ∃t,u=Value.float y t from rx);cases q;exact Qv PySem.W.kitx_float I.kIn QK e (fun z=>nomatch z) h
 |@lst a xs ea=>
  cases (show u=PX a from rx);obtain⟨_,_,n,_,h1⟩:=(show aQ X.prog X.w H s.heap a (.lst xs) from I.hok a _ ea)
  exact Qv PySem.W.kitx_list I.kIn ⟨_,h1,rfl⟩ e (fun z=>nomatch z) h
 |@frz a ob xs ea=>
  cases (show u=PX a from rx);obtain⟨_,_,_,n,_,h1⟩:=(show aQ X.prog X.w H s.heap a (.frz ob (.lst xs)) from I.hok a _ ea)
  exact Qv PySem.W.kitx_list I.kIn ⟨_,h1,rfl⟩ e (fun z=>nomatch z) h
 |@tup a xs ea=>
  cases (show u=PX a from rx);obtain⟨_,_,_,p⟩:=(show aQ X.prog X.w H s.heap a (.tup xs) from I.hok a _ ea)
  obtain⟨o,h1,h2,_⟩:=p;exact Qv PySem.W.kitx_tuple I.kIn ⟨o,h1,h2⟩ e (fun z=>nomatch z) h
 |@dK a kvs ea=>
  cases (show u=PX a from rx);obtain⟨_,_,vs,_,p⟩:=(show aQ X.prog X.w H s.heap a (.dK kvs) from I.hok a _ ea)
  obtain⟨o,es,ep,h1,h2,_⟩:=p;exact Qv PySem.W.kitx_dict I.kIn ⟨o,h1,h2.1⟩ e (fun z=>nomatch z) h
 |@dT a kvs ts ea=>
  cases (show u=PX a from rx);obtain⟨_,_,xs,_,o,es,ep,h1,h2,_⟩:=(show aQ X.prog X.w H s.heap a (.dT kvs ts) from I.hok a _ ea)
  exact Qv PySem.W.kitx_dict I.kIn ⟨o,h1,h2.1⟩ e (fun z=>nomatch z) h
 |@ins a C dx fs ea cl ha hn htk hm=>cases (show u=PX a from rx);obtain⟨mA,O,_⟩:=En I.hok ea;obtain⟨od,J,_⟩:=O.look;exact Qv (PySem.W.kitx_own (cl.get _) cl.hd ha hn htk hm) I.kIn J e (fun z=>nomatch z) h
end
section
variable{A:Around}{k:Nat}
structure bu(k:Nat)(A:Around):Prop where
 hd:A.handled=none
 dp:A.depth+3*k+5<recursionLimit
 un:A.units+16*k+200<cLine
 gd:A.guards=some []
theorem bu.mono{j k:Nat}(r:bu k A)(h:j<=k):bu j A:=⟨r.hd,by have:=r.dp;lia,by have:=r.un;lia,r.gd⟩
theorem bu.deeper(r:bu (k+1) A)(env:Env):bu k (A.deeper env):=
 ⟨r.hd,by have:=r.dp;show A.depth+1+3*k+5<_;lia,by have:=r.un;show A.units+3+16*k+200<_;lia,r.gd⟩
theorem bu.depth(r:bu k A):A.depth<recursionLimit:=by have:=r.dp;lia
theorem bu.units(r:bu k A):A.units+64<cLine:=by have:=r.un;lia
def kB:TA:=fun _ H Q=>Q [] H
def dW(ta:TE)(tr:TA):TA:=fun σ H Q=>ta σ H fun x H1=>tr σ H1 fun xs H2=>Q (x::xs) H2
end
section
variable{X:Cx}{e:Expr}{es:List Expr}{te:TE}{t:TA}{pos:Pos}
theorem dX:PA X [] kB:=fun _ _ _ _ H Q I h=>Rt ⟨[],H,I,.nil,h⟩
theorem bM(ha:PE X e te)(hr:PA X es t)(hs:starEach (e::es) X.env=(false,eval e X.env)::starEach es X.env:=by rfl):PA X (e::es) (dW te t):=by intro pos nC s σ H Q I h;rw[hs];show wpAny _ _ (spliced ((false,eval e X.env)::backTo pos (starEach es X.env))) _ _ s;refine RG (thn (ha nC s σ H _ I h) fun u s1 ⟨x,H1,I1,r1,q1⟩=>?_);exact thn (hr pos nC s1 σ H1 _ I1 q1) fun us s2 ⟨xs,H2,I2,r2,q2⟩=>⟨x::xs,H2,I2,.cons r1 r2,q2⟩
def zA(t:TA):TE:=fun σ H Q=>t σ H fun xs H1=>xs.length<=sizeLine/\∀p,H1 p=none->Q (.ref p) (upd H1 p (.tup xs))
def AR(t:TA):TE:=fun σ H Q=>t σ H fun xs H1=>xs.length<=sizeLine/\∀p,H1 p=none->Q (.ref p) (upd H1 p (.lst xs))
theorem mw{x1}(h:PA X es t):PE X (.Tuple es x1 pos) (zA t):=by intro nC s σ H Q I hq;refine wpAny_Tuple_spliced (thn (h pos nC s σ H _ I hq) fun us s1 ⟨xs,H1,I1,r,z,q⟩=>⟨by rw[<- r.length];exact z,?_⟩);have hf:H1 s1.heap.objs.size=none:=I1.hok.fresh (Pb _);refine⟨.ref s1.heap.objs.size,upd H1 s1.heap.objs.size (.tup xs),I1.laid (t':=s1.toks) (fun b u e=>Ph _ e) (Pb _) ?_,rfl,q _ hf⟩;exact⟨z,us,r,⟨_,P5 _ rfl,rfl,_,rfl⟩⟩
theorem vS(h:PA X es t):PE X (.List es pos) (AR t):=by intro nC s σ H Q I hq;refine wpAny_List_spliced (thn (h pos nC s σ H _ I hq) fun us s1 ⟨xs,H1,I1,r,z,q⟩=>⟨by rw[<- r.length];exact z,?_⟩);have hf:H1 s1.heap.objs.size=none:=I1.hok.fresh (Pb _);refine⟨.ref s1.heap.objs.size,upd H1 s1.heap.objs.size (.lst xs),I1.laid (t':=s1.toks) (fun b u e=>Ph _ e) (Pb _) ?_,rfl,q _ hf⟩;exact⟨z,us,0,r,P5 _ rfl⟩
end
noncomputable abbrev Sp:=List V->Hp->VK->XK->Prop
noncomputable abbrev CXT:=List Env->Hp->Shared->XK->Value->Shared->Prop
structure Eo(P:Program)(w:World)(K:O8)(mg:Str->Option Value)(base:Heap)(A:Around)(outer:List Env)(s:Shared)(H:Hp):Prop where
 frames:A.frames=some outer
 mod:Mod K mg base
 bs:∀b o,base.get? b=some o->s.heap.get? b=some o/\H b=none
 bsz:base.objs.size<=s.heap.objs.size
 l8:s.heap.FunFrames base outer
 frf:∀b∈frs outer,H b=none
 hok:HOk P w H s.heap
 bare:AllBare s.gens
def CE(outer:List Env)(P:Program)(w:World)(H:Hp)(s:Shared)(Q:VK)(u:Value)(s':Shared):Prop:=
 ∃v H',s'.os=s.os/\AllBare s'.gens/\Un (frs outer) [] H H' s.heap s'.heap/\HOk P w H' s'.heap/\RelV v u/\Q v H'
def CR(CX:CXT)(outer:List Env)(P:Program)(w:World)(H:Hp)(s:Shared)(Q:VK)(E:XK)(r:Result)(s':Shared):Prop:=
 match r with
 |.ok (.ret u)=>CE outer P w H s Q u s'
 |.ok _=>False
 |.error e=>CX outer H s E e s'
structure bw(P:Program)(w:World)(K:O8)(mg:Str->Option Value)(base:Heap)(CX:CXT)(k:Nat)(f:Addr)(fd:FuncData)(ps:List Str)(sp:Sp):Prop where
 len:∀vs H Q E,sp vs H Q E->vs.length=ps.length
 run:∀(A:Around) (outer:List Env) (s:Shared) (H:Hp) (args:Args) (us:List Value) (vs:List V) (Q:VK) (E:XK),bu k A->Eo P w K mg base A outer s H->BindsTo s fd args (ps.zip us)->Vals vs us->sp vs H Q E ->
  codeAny (model P w) A (.call (.ref f) args) (CR CX outer P w H s Q E) s
section
variable{X:Cx}{nC:List (Addr×Obj)}{σ:St}{H:Hp}{s s':Shared}
theorem Inv.NU(I:Inv X nC σ H s):Eo X.prog X.w X.K X.mg X.base X.A X.stack s H:=
 ⟨I.ok.frames,I.ok.mod,I.bs,P0 I.ok.bsz I.sz,I.stack,I.xS,I.hok,I.bare⟩
theorem Inv.after{Q:VK}{u:Value}(I:Inv X nC σ H s)(h:CE X.stack X.prog X.w H s Q u s'):EP X nC σ Q u s':=by obtain⟨v,H',os,bare,un,hok,r,q⟩:=h;obtain⟨hh,g,d,t,os'⟩:=s';obtain rfl:os'=s.os:=os;exact⟨v,H',I.call (h':=hh) (g':=g) (d':=d) (t':=t) (ch:=[]) un hok bare (fun b z=>absurd z (by simp)),r,q⟩
end
def k_(sp:Sp)(dvs:List V)(E:XK)(t:TA):TE:=fun σ H Q=>t σ H fun vs H1=>sp (vs++dvs) H1 Q E
def Binds(K:O8)(fd:FuncData)(ps:List Str)(ds:List Value):Prop:=
 ∀(s:Shared) (us:List Value),K.In s.heap->(us++ds).length=ps.length->BindsTo s fd ⟨us,[]⟩ (ps.zip (us++ds))
theorem Binds.all{K:O8}{fd:FuncData}{ps:List Str}(h:∀us:List Value,us.length=ps.length->bindArgs fd ⟨us,[]⟩=pure (ps.zip us)):Binds K fd ps []:=fun s us _ hl=>by rw[PY]at hl ⊢;exact .of_eq (h us hl)
def Passes(CX:CXT)(X:Cx)(E:XK):Prop:=∀(nC:List (Addr×Obj)) (σ:St) (H:Hp) (s:Shared) (e:Value) (s':Shared),Inv X nC σ H s->CX X.stack H s E e s'->X.xe e s'
section
variable{X:Cx}{CX:CXT}{k:Nat}{f C:Addr}{fd:FuncData}{ps:List Str}{sp:Sp}{dvs:List V}{ds:List Value}{E:XK}{x m:Str}{p pos Ko:Pos}{e o:Expr}{es:List Expr}{ta:TE}{t:TA}
theorem Jf{nC:List (Addr×Obj)}{σ:St}{H:Hp}{s:Shared}{Q:VK}{us:List Value}{vs:List V}(F:bw X.prog X.w X.K X.mg X.base CX k f fd ps sp)(hr:bu k X.A)(hb:Binds X.K fd ps ds)(hd:Vals dvs ds)(hx:Passes CX X E)
  (I:Inv X nC σ H s) (r:Vals vs us) (h:sp (vs++dvs) H Q E):wpAny (model X.prog X.w) X.A (call (.ref f) us) (EP X nC σ Q) X.xe s:=by
 have r2:Vals (vs++dvs) (us++ds):=r.append hd;have hl:(us++ds).length=ps.length:=by rw[<- r2.length];exact F.len _ _ _ _ h
 refine wpAny_call (codeAny_mono (F.run X.A X.stack s H ⟨us,[]⟩ (us++ds) (vs++dvs) Q E hr I.NU (hb s us I.kIn hl) r2 h) fun r s' hq=>?_);cases r with
 |error e=>exact hx nC σ H s e s' I hq
 |ok fl=>
  cases fl with
  |ret u=>exact I.after hq
  |next=>exact Qd hq
  |brk=>exact Qd hq
  |cont=>exact Qd hq
theorem fR(F:bw X.prog X.w X.K X.mg X.base CX k f fd ps sp)(hr:bu k X.A)(hg:Gl X x)(hm:X.mg x=some (.ref f))(hk:QA X.K (.ref f)=true)(hb:Binds X.K fd ps ds)(hd:Vals dvs ds)(hx:Passes CX X E)
  (ha:PA X (e::es) t) (MT:(x == ("__debug__" : Str))=false:=by decide) (he:starEach (e::es) X.env=(false,eval e X.env)::starEach es X.env:=by rfl) (Cs:(backTo pos (starEach es X.env)).any (·.1)=false:=by rfl) :
  PE X (.Call (.Name x p) (e::es) [] pos) (k_ sp dvs E t):=by
 intro nC s σ H Q I h;refine wpAny_Call_Name_kw (Ef I hg hm ?_ MT);refine PySem.W.callWith_K (h₀:=X.base) I.ok.mod.kin hk (thn (ha pos nC s σ H _ I h) fun us s1 ⟨vs,H1,I1,r,q⟩=>⟨I1.kIn,?_⟩) he Cs;exact Jf F hr hb hd hx I1 r q
end
section
variable{x:Str}{v:Value}
structure aF(N P:List Str)(sc:Scope):Prop where
 kind:sc.kind=.function
 co:sc.isCoroutine=false
 gen:sc.isGenerator=false
 nd:N.Nodup
 pre:N.take P.length=P
 par:∀x∈P,sc.names.lookup x=some .local\/sc.names.lookup x=some .cell
 Jg:∀y∈sc.names,y.2≠.free
theorem pQ{kindOf:Str->Option NameKind}:∀{binds:List (Str×Value)} {m:Str->Option Value},(∀v,(x,v)∉binds)->bindL kindOf binds m x=m x
 |[],_,_=>rfl
 |(n,v)::r,m,h=>by
  unfold bindL;rw[pQ fun w hw=>h w (Dk _ hw)];split
  ·have:x≠n:=by rintro rfl;exact h v O9
   simp[this]
  ·rfl
theorem pR{kindOf:Str->Option NameKind}:∀{binds:List (Str×Value)} {m:Str->Option Value},(∀v,(x,v)∉binds)->bindC kindOf binds m x=m x
 |[],_,_=>rfl
 |(n,v)::r,m,h=>by
  unfold bindC;rw[pR fun w hw=>h w (Dk _ hw)];split
  ·rfl
  ·have:x≠n:=by rintro rfl;exact h v O9
   simp[this]
theorem pS{kindOf:Str->Option NameKind}:∀{P:List Str} {vs:List Value} {i:Nat} {m:Str->Option Value},P.Nodup->P[i]?=some x->vs[i]?=some v->kindOf x=some .local ->
  bindL kindOf (P.zip vs) m x=some v
 |[],_,_,_,_,h,_,_=>by simp at h
 |_::_,[],_,_,_,_,h,_=>by simp at h
 |p::P,w::vs,0,m,nd,h1,h2,hk=>by simp at h1 h2;subst h1;subst h2;show bindL kindOf ((p,w)::P.zip vs) m p=_;unfold bindL;rw[pQ fun v hv=>(Pj.mp nd).1 (RU hv).1,if_pos hk];simp
 |p::P,w::vs,i+1,m,nd,h1,h2,hk=>by show bindL kindOf ((p,w)::P.zip vs) m x=_;unfold bindL;exact pS (i:=i) (Pj.mp nd).2 (by simpa using h1) (by simpa using h2) hk
theorem pU{kindOf:Str->Option NameKind}:∀{P:List Str} {vs:List Value} {i:Nat} {m:Str->Option Value},P.Nodup->P[i]?=some x->vs[i]?=some v->kindOf x≠some .local ->
  bindC kindOf (P.zip vs) m x=some v
 |[],_,_,_,_,h,_,_=>by simp at h
 |_::_,[],_,_,_,_,h,_=>by simp at h
 |p::P,w::vs,0,m,nd,h1,h2,hk=>by simp at h1 h2;subst h1;subst h2;show bindC kindOf ((p,w)::P.zip vs) m p=_;unfold bindC;rw[pR fun v hv=>(Pj.mp nd).1 (RU hv).1,if_neg hk];simp
 |p::P,w::vs,i+1,m,nd,h1,h2,hk=>by show bindC kindOf ((p,w)::P.zip vs) m x=_;unfold bindC;exact pU (i:=i) (Pj.mp nd).2 (by simpa using h1) (by simpa using h2) hk
noncomputable def start(N:List Str)(vs:List V):St:=vs.map some++Ds (N.length-vs.length) none
noncomputable def vU(CX:CXT)(P:Program)(w:World)(K:O8)(mg:Str->Option Value)(base:Heap)(N:List Str)(qual:Str)(scope:Scope)(f:Addr)(cd:Value)(A:Around)(outer:List Env)(s:Shared)(H:Hp)(E:XK):Cx where
 prog:=P
 w:=w
 K:=K
 mg:=mg
 base:=base
 A:=A.deeper (envOfC qual scope s.heap.objs.size f cd)
 N:=N
 s₀:=s
 H₀:=H
 env:=envOfC qual scope s.heap.objs.size f cd
 outer:=outer
 stack:=envOfC qual scope s.heap.objs.size f cd::outer
 ex:=[]
 calm:=true
 fn:=fun _=>true
 pn:=[]
 xe:=fun e s'=>wpAny (model P w) (A.deeper (envOfC qual scope s.heap.objs.size f cd)) (leaving (envOfC qual scope s.heap.objs.size f cd) e) (fun _ s''=>CX outer H s E e s'') (fun e' s''=>CX outer H s E e' s'') s'
theorem sZ{sc:Scope}{n:Nat}(h:sc.names.lookup x=some .cell):∃c,(cellsFrom n sc.names []).lookup x=some c:=by have q:=PySem.W.cellsFrom_some sc.names n [] (.inl h);exact Q6.mp q
theorem zB{CX:CXT}{P:Program}{w:World}{K:O8}{mg:Str->Option Value}{base:Heap}{N ps:List Str}{qual:Str}{scope:Scope}{f:Addr}{cd:Value}{A:Around}{outer:List Env}{s s1:Shared}{H:Hp}{E:XK}{us:List Value}{vs:List V}
  (S:aF N ps scope) (hd:A.handled=none) (e0:Eo P w K mg base A outer s H) (hl:vs.length=ps.length) (r:Vals vs us)
  (x:InCallC s s.heap.objs.size (bindL (envOfC qual scope s.heap.objs.size f cd).kindOf (ps.zip us) fun _=>none) (cellsFrom (s.heap.objs.size+1) scope.names []) (bindC (envOfC qual scope s.heap.objs.size f cd).kindOf (ps.zip us) fun _=>none) s1) :
  Inv (vU CX P w K mg base N qual scope f cd A outer s H E) [] (start N vs) H s1:=by
 have Cs:ps.length<=N.length:=by have:=congrArg List.length S.pre;rw[P1]at this;lia
 obtain⟨h1,tk,rfl,hk⟩:=x.done;have noA:∀b:Addr,b∉(vU CX P w K mg base N qual scope f cd A outer s H E).ex:=fun b z=>absurd (show b∈([]:List Addr) from z) (by simp);refine ⟨⟨e0.mod,S.kind,rfl,rfl,Pb _,fun y z c h1 h2=>?_,fun y hy=>?_,fun y c _ h=>?_,fun _=>hd,Around.frames_deeper e0.frames,.inr ⟨rfl,rfl⟩,fun b z=>absurd z (noA b),e0.bs,e0.bsz,fun b _ _=>noA b,fun b z=>absurd z (noA b),e0.l8,e0.frf⟩,
  rfl,e0.bare,Un.kept hk,⟨_,x.toInCall.ns,fun i y v h1 h2 h3=>?_⟩,fun y c h=>⟨_,x.cell y c h⟩,e0.hok.fresh (Pb _),fun y c h=>?_,fun p hp=>absurd (show p∈([]:List (Addr×Obj)) from hp) (by simp),e0.hok.kept hk,?_⟩
 ·exact name_of_addr x.apart (PySem.mem_of_lookup h1) (PySem.mem_of_lookup h2)
 ·have hy:scope.names.lookup y=some .cell\/scope.names.lookup y=some .free:=hy;rcases hy with hy | hy
  ·exact sZ hy
  ·exact absurd rfl (S.Jg _ (PySem.mem_of_lookup hy))
 ·exact RO (x.above y c (PySem.mem_of_lookup h))
 ·have hi:i<vs.length:=by
   unfold start at h2;by_cases hi:i<vs.length
   ·exact hi
   ·rw[PN (by simpa using hi)]at h2;rw[Qg]at h2;split at h2<;>cases h2
  have ha:vs[i]?=some v:=by
   unfold start at h2;rw[Pg (by simpa using hi),PD]at h2;cases e:vs[i]? with
   |none=>rw[e]at h2;cases h2
   |some a=>rw[e]at h2;cases h2;rfl
  obtain⟨u,hu,rv⟩:=r.get ha;have hp:ps[i]?=some y:=by rw[<- S.pre,QD (by lia)];exact h1
  have ndP:ps.Nodup:=by rw[<- S.pre];exact S.nd.sublist (List.take_sublist _ _)
  refine⟨u,rv,?_⟩;rcases S.par y (QL hp) with k | k
  ·exact .inl ⟨k,pS ndP hp hu k⟩
  ·obtain⟨c,e⟩:=sZ (n:=s.heap.objs.size+1) k;refine .inr ⟨.inl k,c,e,?_⟩;have q:=x.cell y c e;rw[pU ndP hp hu (by show scope.names.lookup y≠_;rw[k];decide)]at q;exact q
 ·exact e0.hok.fresh (RO (x.above y c (PySem.mem_of_lookup h)))
 ·unfold start;show _=N.length;rw[Pd,gV,Qi]
  lia
theorem LG{CX:CXT}{P:Program}{w:World}{K:O8}{mg:Str->Option Value}{base:Heap}{k:Nat}{f:Addr}{name qual:Str}{params:Arguments}{body:List Stmt}{scope:Scope}{dV kV doc pm cdv ct oc:Value}{an od:Option Addr}
  {osl:Array (Option Value)} {N ps:List Str} {sp:Sp} (lk:K.lookup f=some ⟨oc,od,.func (Qc name qual params body scope dV kV doc pm an cdv ct),osl⟩) (HQ:RC K cdv qual=true) (S:aF N ps scope)
  (len:∀vs H Q E,sp vs H Q E->vs.length=ps.length)
  (hbody:∀ (A:Around) (outer:List Env) (s:Shared) (H:Hp) (vs:List V) (Q:VK) (E:XK),bu k (A.deeper (envOfC qual scope s.heap.objs.size f cdv))→sp vs H Q E →
   ∃t,PSs (vU CX P w K mg base N qual scope f cdv A outer s H E) body t/\t { nx:=fun _ H'=>Q .non H',rt:=Q } (start N vs) H) :
  bw P w K mg base CX (k+1) f (Qc name qual params body scope dV kV doc pm an cdv ct) ps sp:=by
 refine⟨len,fun A outer s H args us vs Q E hr e0 hb r hsp=>?_⟩;have hl:=len _ _ _ _ hsp;have KX:K.In s.heap:=e0.mod.kin.keeps fun b o e=>(e0.bs b o e).1;have lim:s.heap.NoLimit:=e0.mod.nolimit.keeps fun b o e=>(e0.bs b o e).1;have hkind:∀y∈ps.zip us,scope.names.lookup y.1=some .local\/(scope.names.lookup y.1=some .cell/\((cellsFrom (s.heap.objs.size+1) scope.names []).lookup y.1).isSome=true):=fun⟨n,v⟩ hy=>by
  rcases S.par n (RU hy).1 with q | q
  ·exact .inl q
  ·exact .inr ⟨q,PySem.W.cellsFrom_some _ _ _ (.inl q)⟩
 refine codeAny_call_function hr.depth (KX _ _ lk) rfl S.co S.gen rfl (PySem.W.codeRec_of KX HQ) (hb _ _ _ _ ?_);refine wpAny_newFunctionEnv_cells S.kind hkind fun env he s1 x=>?_;subst he;refine⟨lim.keeps x.toInCall.keep,codeAny_func ?_⟩;obtain⟨t,ht,hq⟩:=hbody A outer s H vs Q E (hr.deeper _) hsp;have I:Inv (vU CX P w K mg base N qual scope f cdv A outer s H E) [] (start N vs) H s1:=zB S hr.hd e0 hl r x;refine wpAny_mono (ht [] s1 (start N vs) H _ I hq) (fun fl s' hs=>?_) fun e s' hs=>hs;have MR:∀{σ':St} {H':Hp} {v:V} {u:Value},Inv (vU CX P w K mg base N qual scope f cdv A outer s H E) [] σ' H' s'->RelV v u->Q v H'->CE outer P w H s Q u s':=
  fun {σ' H' v u} J rv q=>⟨v,H',J.os,J.bare,J.base,J.hok,rv,q⟩
 cases fl with
 |ret u=>obtain⟨v,σ',H',J,rv,q⟩:=hs;exact MR J rv q
 |next=>obtain⟨σ',H',J,q⟩:=hs;exact MR (v:=V.non) (u:=Value.none) J rfl q
 |brk=>obtain⟨_,_,_,q⟩:=hs;exact Qd q
 |cont=>obtain⟨_,_,_,q⟩:=hs;exact Qd q
end
section
variable{X:Cx}{x:Str}{p pos:Pos}{e:Expr}{es:List Expr}{t:TA}{id T:String}{r:List V->Hp->VK->Prop}
def tCB(r:List V->Hp->VK->Prop)(t:TA):TE:=fun σ H Q=>t σ H fun vs H1=>r vs H1 Q
theorem mz(hc:cX X (.builtin id) r)(hg:Gl X x)(hm:X.mg x=none)(hv:bootBuiltins x=some (.builtin id))(ha:PA X (e::es) t)(hn:x ≠ "__name__" := by decide)(MT:(x == ("__debug__" : Str))=false:=by decide)
  (he:starEach (e::es) X.env=(false,eval e X.env)::starEach es X.env:=by rfl) (Cs:(backTo pos (starEach es X.env)).any (·.1)=false:=by rfl):PE X (.Call (.Name x p) (e::es) [] pos) (tCB r t):=by
 intro nC s σ H Q I h;refine wpAny_Call_Name_kw (kr I hg hm hv ?_ hn MT);exact PyProof.Rows.callWith_builtin1 (thn (ha pos nC s σ H _ I h) fun us s1 ⟨vs,H1,I1,r1,q1⟩=>hc nC s1 σ H1 vs us Q I1 r1 q1) he Cs
theorem pV(hc:cX X (.type T) r)(hg:Gl X x)(hm:X.mg x=none)(hv:bootBuiltins x=some (.type T))(ha:PA X (e::es) t)(hn:x ≠ "__name__" := by decide)(MT:(x == ("__debug__" : Str))=false:=by decide)
  (he:starEach (e::es) X.env=(false,eval e X.env)::starEach es X.env:=by rfl) (Cs:(backTo pos (starEach es X.env)).any (·.1)=false:=by rfl):PE X (.Call (.Name x p) (e::es) [] pos) (tCB r t):=by
 intro nC s σ H Q I h;refine wpAny_Call_Name_kw (kr I hg hm hv ?_ hn MT);exact QZ (thn (ha pos nC s σ H _ I h) fun us s1 ⟨vs,H1,I1,r1,q1⟩=>hc nC s1 σ H1 vs us Q I1 r1 q1) he Cs
end
end L2
namespace HT
open PySem PyProof.Rows
section
variable{prog:Program}{w:World}{A:Around}{E:Value->Shared->Prop}{s:Shared}
section
variable{lo hi:Option Int}{vl vu:Value}
noncomputable def sIx(n d:Nat):Option Int->Nat
 |none=>d
 |some v=>if v<0 then (v+(n:Int)).toNat else min v.toNat n
theorem Jh(n d:Nat)(hd:d<=n)(o:Option Int):sIx n d o<=n:=by
 cases o with
 |none=>exact hd
 |some v=>
  show (if v<0 then (v+(n:Int)).toNat else min v.toNat n)<=n;by_cases hv:v<0
  ·rw[if_pos hv];lia
  ·rw[if_neg hv];exact Nat.min_le_right _ _
theorem xV(v:Int)(n d:Nat):(if v<0 then max (v+(n:Int)) 0 else min v (n:Int))=((sIx n d (some v):Nat):Int):=by
 show (if v<0 then max (v+(n:Int)) 0 else min v (n:Int))=(((if v<0 then (v+(n:Int)).toNat else min v.toNat n):Nat):Int)
 by_cases hv:v<0
 ·simp only[if_pos hv];lia
 ·simp only[if_neg hv];lia
theorem vV(lo hi:Option Int)(n:Nat):Ro lo hi 1 (n:Int)=(((sIx n 0 lo:Nat):Int),((sIx n n hi:Nat):Int)):=by
 have h1:¬((1:Int)<0):=by lia
 unfold Ro;simp only[h1,if_false];refine Prod.ext ?_ ?_
 ·cases lo with
  |none=>rfl
  |some v=>exact xV v n 0
 ·cases hi with
  |none=>rfl
  |some v=>exact xV v n n
theorem vW(i j:Nat):Q3 (i:Int) (j:Int) 1=j-i:=by
 unfold Q3;have h1:(1:Int)>0:=by lia
 simp only[h1,if_true,Int.ediv_one];split<;>lia
theorem mC{v:Value}{o:Option Int}{Q:Option Int->Shared->Prop}(p:IsPart v o)(h:Q o s):wpAny (model prog w) A (Builtin.Slice.slicePartIndex v) Q E s:=by
 cases p with
 |none=>exact slicePart_none h
 |int i t=>exact slicePart_int h
theorem kC{sl:Addr}{n:Nat}{Q:Int×Int×Nat->Shared->Prop}(hs:s.heap.IsSliceOf sl vl vu .none)(pl:IsPart vl lo)(pu:IsPart vu hi)
  (h:Q (((sIx n 0 lo:Nat):Int),1,sIx n n hi-sIx n 0 lo) s):wpAny (model prog w) A (Builtin.Slice.sliceApplied (.ref sl) (pure (n:Int))) Q E s:=by
 obtain⟨os,hos,hcs,hds⟩:=id hs;unfold Builtin.Slice.sliceApplied Builtin.Slice.sliceFields;refine wpAny_bind (wpAny_bind (wpAny_field hos hds (x:=vl) rfl (wpAny_bind (wpAny_field hos hds (x:=vu) rfl (wpAny_bind (wpAny_field hos hds (x:=.none) rfl (wpAny_pure ?_)))))));refine wpAny_bind (slicePart_none ?_);show wpAny _ _ (if ((1:Int) == 0)=true then _ else _) _ _ s;rw[if_neg (by decide)];refine wpAny_bind (mC pl (wpAny_bind (mC pu (wpAny_bind (wpAny_pure ?_)))));show wpAny _ _ (match Ro lo hi 1 (n:Int) with | (lo,hi)=>pure (lo,(1:Int),Q3 lo hi 1)) _ _ s;rw[vV lo hi n];show wpAny _ _ (pure (((sIx n 0 lo:Nat):Int),(1:Int),Q3 ((sIx n 0 lo:Nat):Int) ((sIx n n hi:Nat):Int) 1)) _ _ s;rw[vW];exact wpAny_pure h
theorem AS(xs:Array Value)(i k:Nat):((PM k).filterMap fun(m:Nat)=>xs[((i:Int)+(m:Int)*1).toNat]?).toArray=((xs.toList.drop i).take k).toArray:=by
 have e:(fun(m:Nat)=>xs[((i:Int)+(m:Int)*1).toNat]?)=fun m=>xs[i+m]?:=by
  funext m
  have:((i:Int)+(m:Int)*1).toNat=i+m:=by lia
  rw[this]
 rw[e];have:=pick_run xs i k;rw[List.filterMap_map]at this;have e2:((fun x=>xs[x]?)∘fun x=>i+x)=fun m=>xs[i+m]?:=rfl;rw[e2]at this;rw[this]
theorem jQ{t sl:Addr}{items:Array Value}{Q:Value->Shared->Prop}(ht:IsTup s.heap t items)(hs:s.heap.IsSliceOf sl vl vu .none)(pl:IsPart vl lo)(pu:IsPart vu hi)
  (hw:¬(sIx items.size 0 lo=0/\sIx items.size items.size hi=items.size))
  (h:Q (.ref s.heap.objs.size) { s with heap:=s.heap.push { cls:=.type "tuple",data:=.seq ((items.toList.drop (sIx items.size 0 lo)).take (sIx items.size items.size hi-sIx items.size 0 lo)).toArray } })
  (hsz:items.size<=sizeLine):wpAny (model prog w) A (getItem (.ref t) (.ref sl)) Q E s:=by
 have xW:sizeOk (.seq ((items.toList.drop (sIx items.size 0 lo)).take (sIx items.size items.size hi-sIx items.size 0 lo)).toArray):=by show ((items.toList.drop (sIx items.size 0 lo)).take (sIx items.size items.size hi-sIx items.size 0 lo)).toArray.size<=sizeLine;rw[Pe,P1,Rl,QU];omega
 have hj:sIx items.size items.size hi<=items.size:=Jh _ _ (Pb _) hi;obtain⟨os,hos,hcs,hds⟩:=id hs;have hTs:s.TypeIs (.ref sl) "slice" := ⟨os,hos,hcs⟩
 unfold getItem
 try with_reducible refine wpAny_holding ?_
 first | refine wpAny_bind (wpAny_pure ?_) | skip
 refine wpAny_bind (wpAny_sequenceKey ht.typeIs (by decide) ?_);refine wpAny_bind (wpAny_callSpecial?_slot (name:=R7 "__getitem__") ht.typeIs Q9
  (wpAny_call_entry Q9 ht.typeIs entry_tuple_getitem ?_ (args_tuple_getitem _ _)))
 show wpAny _ _ (Builtin.Tuple.tupleItemsOf (.ref t) >>= _) _ _ s;refine wpAny_bind (tupleItemsOf_ ht ?_);refine wpAny_bind (wpAny_typeOf hTs ?_);rw[if_pos (by decide)];refine wpAny_bind (kC hs pl pu ?_);have hno:¬((((sIx items.size 0 lo:Nat):Int) == 0&&(1:Int) == 1&&(sIx items.size items.size hi-sIx items.size 0 lo) == items.size)=true):=by intro q;rw[Pu,Pu]at q;have q1:((sIx items.size 0 lo:Nat):Int)=0:=eq_of_beq q.1.1;have q2:sIx items.size items.size hi-sIx items.size 0 lo=items.size:=eq_of_beq q.2;exact hw ⟨by omega,by omega⟩
 show wpAny _ _ (if (((sIx items.size 0 lo:Nat):Int) == 0&&(1:Int) == 1&&(sIx items.size items.size hi-sIx items.size 0 lo) == items.size)=true then _ else _) _ _ s;rw[if_neg hno,AS]
 first
  |exact wpAny_bind (m:=Q7 _) (wpAny_newObj_type (wpAny_pure ⟨_,rfl,wpAny_pure h⟩) xW)
  |exact wpAny_bind (m:=Q7 _) (wpAny_newObj_type (wpAny_bind (wpAny_pure (wpAny_pure ⟨_,rfl,wpAny_pure h⟩))) xW)
  |exact wpAny_bind (wpAny_bind (m:=Q7 _) (wpAny_newObj_type (wpAny_pure (wpAny_pure ⟨_,rfl,wpAny_pure h⟩)) xW))
  |exact wpAny_bind (wpAny_bind (m:=Q7 _) (wpAny_newObj_type (wpAny_pure ⟨_,rfl,wpAny_pure h⟩) xW))
end
end
end HT
namespace L2
open PySem PySem.Spec PyProof.Rows
noncomputable abbrev TO:=St->Hp->(Option Int->Hp->Prop)->Prop
def PO(X:Cx)(e:Option Expr)(t:TO):Prop:=
 ∀(nC:List (Addr×Obj)) (s:Shared) (σ:St) (H:Hp) (Q:Option Int->Hp->Prop),Inv X nC σ H s->t σ H Q ->
  wpAny (model X.prog X.w) X.A (evalPart e X.env) (fun u s'=>∃o H',Inv X nC σ H' s'/\IsPart u o/\Q o H') X.xe s
def qV:TO:=fun _ H Q=>Q none H
def AU(t:TE):TO:=fun σ H Q=>t σ H fun x H1=>∃i,x=.int i/\Q (some i) H1
section
variable{X:Cx}{e:Expr}{te:TE}{lo hi:Option Expr}{tl th:TO}{pos p2:Pos}
theorem Ep:PO X none qV:=by intro nC s σ H Q I h;rw[evalPart_none];exact wpAny_pure ⟨none,H,I,.none,h⟩
theorem Er(h:PE X e te):PO X (some e) (AU te):=by intro nC s σ H Q I hw;rw[evalPart_some];refine thn (h nC s σ H _ I hw) fun u s1 ⟨x,H1,I1,r1,q1⟩=>?_;obtain⟨i,rfl,q⟩:=q1;obtain⟨t,rfl⟩:=r1;exact⟨some i,H1,I1,.int i t,q⟩
def SlR(X:Cx)(r:V->Option Int->Option Int->Hp->VK->Prop):Prop:=
 ∀(nC:List (Addr×Obj)) (s:Shared) (σ:St) (H:Hp) (x:V) (v vl vu:Value) (lo hi:Option Int) (sl:Addr) (Q:VK),Inv X nC σ H s->RelV x v->s.heap.IsSliceOf sl vl vu .none->IsPart vl lo->IsPart vu hi->r x lo hi H Q ->
  ∃T id,typeLookup (.type T) "__getitem__" = pure (some (.builtin id))/\s.TypeIs v T/\wpAny (model X.prog X.w) X.A (getItem v (.ref sl)) (EP X nC σ Q) X.xe s
def tSl(r:V->Option Int->Option Int->Hp->VK->Prop)(te:TE)(tl th:TO):TE:=fun σ H Q=>te σ H fun x H1=>tl σ H1 fun l H2=>th σ H2 fun u H3=>r x l u H3 Q
theorem s_{r:V->Option Int->Option Int->Hp->VK->Prop}(hr:SlR X r)(he:PE X e te)(hl:PO X lo tl)(hu:PO X hi th):PE X (.Subscript e (.Slice lo hi none p2) pos) (tSl r te tl th):=by intro nC s σ H Q I h;refine Subscript_ (thn (he nC s σ H _ I h) fun v s1 ⟨x,H1,I1,r1,q1⟩=>?_);refine wpAny_Slice (thn (hl nC s1 σ H1 _ I1 q1) fun vl s2 ⟨l,H2,I2,pl,q2⟩=>thn (hu nC s2 σ H2 _ I2 q2) fun vu s3 ⟨u,H3,I3,pu,q3⟩=>?_);rw[evalPart_none];refine wpAny_pure ?_;have I4:Inv X nC σ H3 { s3 with heap:=s3.heap.push { cls:=.type "slice",data:=.fields #[vl,vu,.none] } }:=I3.kept (t':=s3.toks) fun b ob q=>Ph _ q;obtain⟨T,id,hT,ht,hg⟩:=hr nC { s3 with heap:=s3.heap.push { cls:=.type "slice",data:=.fields #[vl,vu,.none] } } σ H3 x v vl vu l u s3.heap.objs.size Q I4 r1 (Heap.IsSliceOf.new ..) pl pu q3;show wpAny (model X.prog X.w) X.A (subscriptTail e (.Slice lo hi none p2) v (.ref s3.heap.objs.size)) (EP X nC σ Q) X.xe { s3 with heap:=s3.heap.push { cls:=.type "slice",data:=.fields #[vl,vu,.none] } };exact tail_any (ops:=[.ref s3.heap.objs.size,v]) ht hT hg (by with_unfolding_all rfl)
noncomputable def pe(xs:List V)(lo hi:Option Int):List V:=(xs.drop (HT.sIx xs.length 0 lo)).take (HT.sIx xs.length xs.length hi-HT.sIx xs.length 0 lo)
theorem lg(xs:List V)(lo hi:Option Int):(pe xs lo hi).length<=xs.length:=by
 unfold pe;rw[P1,Rl]
 lia
def LH(K:O8):V->Option Int->Option Int->Hp->VK->Prop:=fun x lo hi H Q=>∃a xs,x=.ref a/\SqT K H a xs /\
 ¬(HT.sIx xs.length 0 lo=0/\HT.sIx xs.length xs.length hi=xs.length)/\∀p,H p=none->Q (.ref p) (upd H p (.tup (pe xs lo hi)))
theorem Ji:SlR X (LH X.K):=by
 intro nC s σ H x v vl vu lo hi sl Q I rx hs pl pu h;obtain⟨a,xs,rfl,hx,hw,q⟩:=h;cases rx;obtain⟨its,r,ht,hz⟩:=I.tuple hx;have sF:its.toArray.size=xs.length:=by rw[Pe];exact r.length.symm
 refine⟨"tuple",_,Q9.lookup,ht.typeIs,?_⟩;refine HT.jQ ht hs pl pu (by rw[sF];exact hw) ?_ (by rw[sF];exact hz);rw[sF];refine⟨.ref s.heap.objs.size,_,I.laid (t':=s.toks) (o:=.tup (pe xs lo hi)) (fun b ob q=>Ph _ q) (Pb _) ?_,rfl,q _ (I.hok.fresh (Pb _))⟩;exact⟨P0 (lg xs lo hi) hz,_,(r.drop (HT.sIx xs.length 0 lo)).take (HT.sIx xs.length xs.length hi-HT.sIx xs.length 0 lo),IsTup.new _ _⟩
end
noncomputable def ixN(n:Nat)(i:Int):Option Nat:=if 0<=i then (if i<n then some i.toNat else none) else if -(n:Int)<=i then some (i+n).toNat else none
noncomputable def atI{α:Type}(xs:List α)(i:Int):Option α:=(ixN xs.length i).bind fun j=>xs[j]?
theorem xX{n:Nat}{i:Int}{j:Nat}(h:ixN n i=some j):seqIndex? i n=some j/\j<n/\-(n:Int)<=i/\i<n:=by
 unfold ixN at h;by_cases h0:0<=i
 ·rw[if_pos h0]at h;by_cases h1:i<n
  ·rw[if_pos h1]at h;have e:i.toNat=j:=Option.some.inj h;exact⟨by rw[seqIndex_of h0 h1,e],by lia,by lia,h1⟩
  ·rw[if_neg h1]at h;cases h
 ·rw[if_neg h0]at h;by_cases h1:-(n:Int)<=i
  ·rw[if_pos h1]at h;have e:(i+n).toNat=j:=Option.some.inj h;exact⟨by rw[seqIndex_neg (by lia) h1,e],by lia,h1,by lia⟩
  ·rw[if_neg h1]at h;cases h
theorem xY{α:Type}{xs:List α}{i:Int}{v:α}(h:atI xs i=some v):∃j,seqIndex? i xs.length=some j/\xs[j]?=some v/\j<xs.length/\-(xs.length:Int)<=i/\i<xs.length:=by
 unfold atI at h;cases e:ixN xs.length i with
 |none=>rw[e]at h;cases h
 |some j=>rw[e]at h;obtain⟨h1,h2,h3,h4⟩:=xX e;exact⟨j,h1,h,h2,h3,h4⟩
def eN(b:Expr):Prop:=∀o i,subscripted b false o i=operate [o,i] (getItem o i)
def IxR(X:Cx)(r:R2):Prop:=
 ∀(value slice:Expr) (nC:List (Addr×Obj)) (s:Shared) (σ:St) (H:Hp) (x y:V) (v u:Value) (Q:VK),Inv X nC σ H s->RelV x v->RelV y u->r x y H Q ->
  subscripted slice false v u=operate [v,u] (getItem v u)->wpAny (model X.prog X.w) X.A (subscriptTail value slice v u) (EP X nC σ Q) X.xe s
def MtR(X:Cx)(id:String)(r:V->List V->Hp->VK->Prop):Prop:=
 ∀(nC:List (Addr×Obj)) (s:Shared) (σ:St) (H:Hp) (x:V) (xs:List V) (v:Value) (us:List Value) (Q:VK),Inv X nC σ H s->RelV x v->Vals xs us->r x xs H Q ->
  wpAny (model X.prog X.w) X.A (call (.builtin id) (v::us)) (EP X nC σ Q) X.xe s
section
variable{X:Cx}{a b:Expr}{ta tb:TE}{pos:Pos}
section
variable{nC:List (Addr×Obj)}{s:Shared}{H:Hp}{σ:St}
theorem IxR.or{r r':R2}(h:IxR X r)(h':IxR X r'):IxR X (fun x y H Q=>r x y H Q\/r' x y H Q):=by
 intro value slice nC s σ H x y v u Q I rx ry q hs;rcases q with q | q
 ·exact h value slice nC s σ H x y v u Q I rx ry q hs
 ·exact h' value slice nC s σ H x y v u Q I rx ry q hs
theorem mD{r:R2}(hr:IxR X r)(ha:PE X a ta)(hb:PE X b tb)(hs:eN b):PE X (.Subscript a b pos) (tOp r ta tb):=by intro nC s σ H Q I h;exact Subscript_ (IX ha hb I h fun v u s2 x y H2 I2 rx ry q=>hr a b nC s2 σ H2 x y v u Q I2 rx ry q (hs _ _))
def Es(K:O8):R2:=fun x y H Q=>∃p xs i v,x=.ref p/\y=.int i/\SqL K H p xs/\atI xs i=some v/\Q v H
def zC(K:O8):R2:=fun x y H Q=>∃p xs i v,x=.ref p/\y=.int i/\SqT K H p xs/\atI xs i=some v/\Q v H
theorem qW:IxR X (Es X.K):=by
 intro value slice nC s σ H x y v u Q I rx ry h hs;obtain⟨p,xs,i,z,rfl,rfl,hq,he,q⟩:=h;cases rx;obtain⟨t,rfl⟩:=ry;obtain⟨its,r,pl,hz⟩:=I.list hq;obtain⟨j,h1,h2,h3,h4,h5⟩:=xY he;obtain⟨w,ew,rw'⟩:=r.get h2;have hl:=r.length;have hn:=mq;have MR:EP X nC σ Q w s:=⟨z,H,I,rw',q⟩
 by_cases h0:0<=i
 ·have hj:i.toNat=j:=by
   rw[seqIndex_of h0 h5]at h1;exact Option.some.inj h1
  exact item_listR pl.isList h0 (by lia) (by rw[hj];simpa using ew) MR hs
 ·have hj:(i+(its.toArray.size:Int)).toNat=j:=by
   rw[seqIndex_neg (by lia) h4]at h1;rw[Pe,<- hl];exact Option.some.inj h1
  exact subscriptTail_builtinR (x:=w) pl.isList.typeIs slot_list_getitem.lookup
   (wpAny_getItem_list_neg (Q:=fun r s'=>r=w/\EP X nC σ Q r s') pl.isList (by lia) (by rw[Pe]<;>lia) (by lia) (by rw[hj];simpa using ew) ⟨rfl,MR⟩) hs
theorem mE:IxR X (zC X.K):=by
 intro value slice nC s σ H x y v u Q I rx ry h hs;obtain⟨p,xs,i,z,rfl,rfl,hq,he,q⟩:=h;cases rx;obtain⟨t,rfl⟩:=ry;obtain⟨its,r,pl,hz⟩:=I.tuple hq;obtain⟨j,h1,h2,h3,h4,h5⟩:=xY he;obtain⟨w,ew,rw'⟩:=r.get h2;have hl:=r.length;have hn:=mq;have MR:EP X nC σ Q w s:=⟨z,H,I,rw',q⟩
 exact subscriptTail_builtinR (x:=w) pl.typeIs slot_tuple_getitem.lookup
  (getItem_tuple (j:=j) (Q:=fun r s'=>r=w/\EP X nC σ Q r s') pl (by lia) (by lia) (by rw[Pe,<- hl];exact h1) (by simpa using ew) ⟨rfl,MR⟩) hs
theorem vX(its:List Value)(n j:Nat)(u:Value):RN (·.setIfInBounds j u) { cls:=.type "list",data:=.seq its.toArray n }={ cls:=.type "list",data:=.seq (its.set j u).toArray n }:=by simp[RN]
theorem Inv.lst{nC:List (Addr×Obj)}{σ:St}{H:Hp}{s:Shared}{p:Addr}{xs:List V}(I:Inv X nC σ H s)(h:H p=some (.lst xs)) :
  ∃(its:List Value) (n:Nat),Vals xs its/\s.heap.get? p=some { cls:=.type "list",data:=.seq its.toArray n }/\xs.length<=sizeLine:=by
 obtain⟨z,its,n,r,e⟩:=I.hok p _ h;exact⟨its,n,r,e,z⟩
theorem Inv.Jj{p:Addr}{xs ys:List V}{its its':List Value}{n n':Nat}{f:Obj->Obj}(I:Inv X nC σ H s)(h:H p=some (.lst xs))
  (ho:s.heap.get? p=some { cls:=.type "list",data:=.seq its.toArray n }) (hf:f { cls:=.type "list",data:=.seq its.toArray n }={ cls:=.type "list",data:=.seq its'.toArray n' }) (r:Vals ys its') (hz:ys.length<=sizeLine) (t:Nat) :
  Inv X nC σ (upd H p (.lst ys)) { s with heap:=s.heap.update p f,toks:=t }:=by
 have e:(s.heap.update p f).get? p=some { cls:=.type "list",data:=.seq its'.toArray n' }:=by rw[Ri f ho (by rw[hf]<;>rfl),hf]
 refine I.write (x:=p) (e:=p) (by rw[h];trivial) (.inl rfl) (fun b u hb q=>(Heap.get?_update_other _ _ (P4 hb)).trans q) ⟨_,e⟩ ?_;exact⟨hz,its',n',r,e⟩
def tu:V->V->V->Hp->(Hp->Prop)->Prop:=fun o i v H Q=>∃p xs k j,o=.ref p/\i=.int k/\H p=some (.lst xs)/\ixN xs.length k=some j/\Q (upd H p (.lst (xs.set j v)))
theorem set_list:Lw X tu:=by
 intro nC s σ H o i v ov iv u Q I ro ri rv h;obtain⟨p,xs,k,j,rfl,rfl,hp,hj,q⟩:=h;cases ro;obtain⟨t,rfl⟩:=ri;obtain⟨its,n,r,ho,hz⟩:=I.lst hp;obtain⟨h1,h2,h3,h4⟩:=xX hj;have hl:=r.length;have hn:=mq;have I':Inv X nC σ (upd H p (.lst (xs.set j v))) { s with heap:=s.heap.update p (RN (·.setIfInBounds j u)) }:=
  I.Jj hp ho (vX its n j u) (r.set rv j) (by rw[PR];exact hz) s.toks
 by_cases h0:0<=k
 ·have hk:k.toNat=j:=by
   rw[seqIndex_of h0 h4]at h1;exact Option.some.inj h1
  exact PySem.W.ki_setAt ho h0 (by lia) (by rw[Pe,<- hl];exact h4) (by rw[hk];exact⟨_,I',q⟩)
 ·have hk:(k+(its.toArray.size:Int)).toNat=j:=by
   rw[seqIndex_neg (by lia) h3]at h1;rw[Pe,<- hl];exact Option.some.inj h1
  exact PySem.W.ki_setBack ho (by lia) (by rw[Pe,<- hl];exact h3) (by lia) (by rw[hk];exact⟨_,I',q⟩)
theorem qX(lo hi:Option Int)(n:Nat):(sliceBounds lo hi none n).1=((HT.sIx n 0 lo:Nat):Int)/\(sliceBounds lo hi none n).2.1=((HT.sIx n n hi:Nat):Int)/\(sliceBounds lo hi none n).2.2=1:=by
 refine⟨?_,?_,rfl⟩
 ·cases lo with
  |none=>simp[sliceBounds,HT.sIx]
  |some i=>
   simp only[sliceBounds,HT.sIx,Option.getD_none,show (1:Int)>0 by decide,if_true];by_cases h:i<0
   ·simp only[h,if_true]<;>lia
   ·simp only[h,if_false]<;>lia
 ·cases hi with
  |none=>simp[sliceBounds,HT.sIx]
  |some i=>
   simp only[sliceBounds,HT.sIx,Option.getD_none,show (1:Int)>0 by decide,if_true];by_cases h:i<0
   ·simp only[h,if_true]<;>lia
   ·simp only[h,if_false]<;>lia
theorem pq(its:List Value)(lo hi:Option Int):slicePick its.toArray lo hi none=((its.drop (HT.sIx its.length 0 lo)).take (HT.sIx its.length its.length hi-HT.sIx its.length 0 lo)).toArray:=by obtain⟨h1,h2,h3⟩:=qX lo hi its.toArray.size;unfold slicePick;rw[h1,h2,h3];simp only[sliceRange_one,pick_run,Pe]<;>rfl
def LI(K:O8):V->Option Int->Option Int->Hp->VK->Prop:=fun x lo hi H Q=>∃a xs,x=.ref a/\SqL K H a xs/\∀p,H p=none->Q (.ref p) (upd H p (.lst (pe xs lo hi)))
theorem Et:SlR X (LI X.K):=by intro nC s σ H x v vl vu lo hi sl Q I rx hs pl pu h;obtain⟨a,xs,rfl,hx,q⟩:=h;cases rx;obtain⟨its,r,ht,hz⟩:=I.list hx;have sF:=r.length;refine⟨"list",_,slot_list_getitem.lookup,ht.isList.typeIs,?_⟩;refine wpAny_getItem_list_slice ht.isList hs pl pu .none (by simp) ?_ (by rw[Pe]<;>lia);rw[pq,<- sF];refine⟨.ref s.heap.objs.size,_,I.laid (t':=s.toks) (o:=.lst (pe xs lo hi)) (fun b ob q=>Ph _ q) (Pb _) ?_,rfl,q _ (I.hok.fresh (Pb _))⟩;exact⟨P0 (lg xs lo hi) hz,_,0,(r.drop (HT.sIx xs.length 0 lo)).take (HT.sIx xs.length xs.length hi-HT.sIx xs.length 0 lo),P5 _ rfl⟩
theorem qY:cX X (.builtin "len") (fun xs H Q=>∃p ys,xs=[.ref p]/\(SqL X.K H p ys\/SqT X.K H p ys)/\Q (.int ys.length) H):=by
 intro nC s σ H xs us Q I r h;obtain⟨p,ys,rfl,hq,q⟩:=h;obtain⟨u,rfl,rx⟩:=vals1 r;cases rx;have hn:=mq;rcases hq with hq | hq
 ·obtain⟨its,r',pl,hz⟩:=I.list hq;have sF:=r'.length;exact Calls.call_len_list pl.isList (by simp only[Pe]<;>lia) ⟨.int ys.length,H,I.tok _,⟨s.toks+1,by rw[Pe,sF]⟩,q⟩
 ·obtain⟨its,r',pl,hz⟩:=I.tuple hq;have sF:=r'.length;exact len_tuple pl (by simp only[Pe]<;>lia) ⟨.int ys.length,H,I.tok _,⟨s.toks+1,by rw[Pe,sF]⟩,q⟩
theorem qZ:cX X (.type "list") (fun xs H Q=>∃p ys,xs=[.ref p]/\(SqL X.K H p ys\/SqT X.K H p ys)/\∀l,H l=none->Q (.ref l) (upd H l (.lst ys))):=by
 intro nC s σ H xs us Q I r h;obtain⟨p,ys,rfl,hq,q⟩:=h;obtain⟨u,rfl,rx⟩:=vals1 r;cases rx;have MR:∀(its:List Value),Vals ys its->ys.length<=sizeLine->∀(h':Heap) (c':Nat),(∀b o',s.heap.get? b=some o'->h'.get? b=some o') ->
   h'.get? s.heap.objs.size=some { cls:=.type "list",dict:=none,data:=.seq its.toArray c',slots:=#[] }->EP X nC σ Q (.ref s.heap.objs.size) { s with heap:=h' }:=fun its r' hz h' c' kp e=>
  ⟨.ref s.heap.objs.size,_,I.laid (t':=s.toks) kp (Pb _) (show aQ X.prog X.w _ h' _ (.lst ys) from ⟨hz,its,c',r',e⟩),rfl,q _ (I.hok.fresh (Pb _))⟩
 rcases hq with hq | hq
 ·obtain⟨its,r',pl,hz⟩:=I.list hq;have sF:=r'.length;obtain⟨o,ho,hc,n,hd⟩:=pl.isList;exact call_list_seq p (.inl rfl) ho hc hd (fun h' c' kp e=>MR its r' hz h' c' kp e) (by simp only[Pe]<;>lia)
 ·obtain⟨its,r',pl,hz⟩:=I.tuple hq;have sF:=r'.length;obtain⟨o,ho,hc,n,hd⟩:=pl;exact call_list_seq p (.inr rfl) ho hc hd (fun h' c' kp e=>MR its r' hz h' c' kp e) (by simp only[Pe]<;>lia)
theorem pA:cX X (.type "tuple") (fun xs H Q=>∃p ys,xs=[.ref p]/\((SqL X.K H p ys/\∀l,H l=none->Q (.ref l) (upd H l (.tup ys)))\/(SqT X.K H p ys/\Q (.ref p) H))):=by
 intro nC s σ H xs us Q I r h;obtain⟨p,ys,rfl,h⟩:=h;obtain⟨u,rfl,rx⟩:=vals1 r;cases rx;rcases h with⟨hq,q⟩ | ⟨hq,q⟩
 ·obtain⟨its,r',pl,hz⟩:=I.list hq;have sF:=r'.length;refine call_tuple_list pl.isList (fun h' kp=>?_) (by simp only[Pe]<;>lia);have I1:Inv X nC σ H { s with heap:=h' }:=I.kept (t':=s.toks) kp;have I2:Inv X nC σ (upd H h'.objs.size (.tup ys)) { s with heap:=h'.push { cls:=.type "tuple",data:=.seq its.toArray } }:=
   I1.laid (t':=s.toks) (fun b o e=>Ph _ e) (Pb _) (show aQ X.prog X.w _ _ _ (.tup ys) from ⟨hz,its,r',IsTup.new _ _⟩)
  exact⟨.ref h'.objs.size,_,I2,rfl,q _ (I1.hok.fresh (Pb _))⟩
 ·obtain⟨its,r',pl,hz⟩:=I.tuple hq;exact call_tuple_same pl ⟨.ref p,H,I,rfl,q⟩
def tyV(K:O8)(T:String)(x:V)(H:Hp):Prop:=match x with
 |.str _=>T = "str"
 |.int _=>T = "int"
 |.ref p=>(T = "list" /\ ∃xs,SqL K H p xs)\/(T = "tuple" /\ ∃o,K.lookup p=some o/\o.cls=.type "tuple" /\ o.dict=none) \/
   (T = "dict" /\ ((∃kvs,H p=some (.dK kvs))\/∃kvs ts,H p=some (.dT kvs ts)))\/(T = "set" /\ ∃S n,H p=some (.set S n))
 |_=>False
theorem AV{T:String}{x:V}{v:Value}(I:Inv X nC σ H s)(r:RelV x v)(ty:tyV X.K T x H) :
  s.TypeIs v T/\∀a,v=.ref a->∃ob,s.heap.get? a=some ob/\ob.dict=none:=by
 cases x with
 |str z=>obtain⟨t,rfl⟩:=r;cases (show T = "str" from ty);exact⟨typeIs_str s z t,fun _ e=>nomatch e⟩
 |int i=>obtain⟨t,rfl⟩:=r;cases (show T = "int" from ty);exact⟨typeIs_int s i t,fun _ e=>nomatch e⟩
 |ref p=>
  cases r;rcases ty with⟨rfl,xs,hq⟩ | ⟨rfl,o,hk,hc,hd⟩ | ⟨rfl,hk⟩ | ⟨rfl,S,n,hk⟩
  ·obtain⟨its,_,pl,_⟩:=I.list hq;refine⟨pl.isList.typeIs,fun a e=>?_⟩;cases e;obtain⟨o,n,e,c,hd,_⟩:=pl;exact⟨o,e,hd⟩
  ·refine⟨⟨o,I.kIn p o hk,hc⟩,fun a e=>?_⟩;cases e;exact⟨o,I.kIn _ o hk,hd⟩
  ·have z:∃o,s.heap.get? p=some o/\o.ExactDict:=by
    rcases hk with⟨kvs,hk⟩ | ⟨kvs,ts,hk⟩
    ·obtain⟨_,_,_,_,o,_,_,e,ex,_⟩:=I.hok p _ hk;exact⟨o,e,ex⟩
    ·obtain⟨_,_,_,_,o,_,_,e,ex,_⟩:=I.hok p _ hk;exact⟨o,e,ex⟩
   obtain⟨o,e,ex⟩:=z;refine⟨⟨o,e,ex.1⟩,fun a e2=>?_⟩;cases e2;exact⟨o,e,ex.2.1⟩
  ·obtain⟨o,_,_,_,e,ex,_⟩:=I.hok p _ hk;refine⟨⟨o,e,ex.1⟩,fun a e2=>?_⟩;cases e2;exact⟨o,e,ex.2.1⟩
 |_=>exact Qd ty
def Jk(K:O8)(T:String)(r:V->List V->Hp->VK->Prop)(to:TE):TE:=fun σ H Q=>to σ H fun x H1=>tyV K T x H1/\r x [] H1 Q
def tBM(K:O8)(T:String)(r:V->List V->Hp->VK->Prop)(to:TE)(t:TA):TE:=fun σ H Q=>to σ H fun x H1=>tyV K T x H1/\t σ H1 fun xs H2=>r x xs H2 Q
variable{o e:Expr}{es:List Expr}{to:TE}{t:TA}{name:Str}{Ko cpos:Pos}{T id:String}{r:V->List V->Hp->VK->Prop}
theorem AW(pa:PlainAttrs T)(slot:Slot T name id)(hty:typeOf (.builtin id)=pure (.type "method_descriptor"))(hm:MtR X id r)(ho:PE X o to)
  (CA:attributeBase o name X.env (eval o X.env)=eval o X.env:=by rfl) (Cz:(Ko.endLine == cpos.line)=true:=by rfl):PE X (.Call (.Attribute o name Ko) [] [] cpos) (Jk X.K T r to):=by
 intro nC s σ H Q I h;refine wpAny_Call_method0_late CA Cz (thn (ho nC s σ H _ I h) fun v s1 ⟨x,H1,I1,r1,ty,q1⟩=>?_);obtain⟨h1,h2⟩:=AV I1 r1 ty;exact⟨T,id,pa,slot,hty,h1,h2,Rg rfl (PySem.evalArgs_none (hm nC s1 σ H1 x [] v [] Q I1 r1 .nil q1))⟩
theorem tw(pa:PlainAttrs T)(slot:Slot T name id)(hty:typeOf (.builtin id)=pure (.type "method_descriptor"))(hm:MtR X id r)(ho:PE X o to)(ha:PA X (e::es) t)
  (CA:attributeBase o name X.env (eval o X.env)=eval o X.env:=by rfl)
  (hfew:((backTo cpos (starEach (e::es) X.env)).all (fun x=>!x.1)&&(backToKw cpos (keywordEach [] X.env)).all (fun x=>x.1.isSome)
   && decide ((e::es).length+([]:List Keyword).length+(if ([]:List Keyword).isEmpty then 0 else 1)<30))=true:=by rfl)
  (Cz:(Ko.endLine == cpos.line)=true:=by rfl) (hs:starEach (e::es) X.env=(false,eval e X.env)::starEach es X.env:=by rfl) (Gv:(backTo cpos (starEach es X.env)).any (·.1)=false:=by rfl) :
  PE X (.Call (.Attribute o name Ko) (e::es) [] cpos) (tBM X.K T r to t):=by
 intro nC s σ H Q I h;refine wpAny_Call_method_late CA hfew Cz rfl (thn (ho nC s σ H _ I h) fun v s1 ⟨x,H1,I1,r1,ty,q1⟩=>?_);obtain⟨h1,h2⟩:=AV I1 r1 ty;refine⟨T,id,pa,slot,hty,h1,h2,?_⟩;have hA:=ha cpos nC s1 σ H1 _ I1 q1;rw[hs]at hA ⊢;refine Rg (by show (false||(backTo cpos (starEach es X.env)).any (·.1))=false;rw[Gv]<;>rfl) (Ry ?_);exact thn hA fun us s2 ⟨vs,H2,I2,r2,q2⟩=>hm nC s2 σ H2 x vs v us Q I2 r1 r2 q2
end
end
def MtM(X:Cx)(id:String)(r:V->List V->Hp->VK->Prop):Prop:=
 ∀(nC:List (Addr×Obj)) (s:Shared) (σ:St) (H:Hp) (x:V) (xs:List V) (v:Value) (us:List Value) (Q:VK),Inv X nC σ H s->RelV x v->Vals xs us->r x xs H Q ->
  wpAny (model X.prog X.w) X.A (call (.builtin id) (v::us)) (EP X nC σ Q) X.xe s
theorem Vals.one:∀{x:V} {us:List Value},Vals [x] us->∃u,us=[u]/\RelV x u
 |_,_,.cons r .nil=>⟨_,rfl,r⟩
theorem Vals.zero:∀{us:List Value},Vals [] us->us=[]
 |_,.nil=>rfl
theorem Vals.eraseIdx:∀{xs:List V} {us:List Value} (i:Nat),Vals xs us->Vals (xs.eraseIdx i) (us.eraseIdx i)
 |_,_,_,.nil=>.nil
 |_,_,0,.cons _ t=>t
 |_,_,i+1,.cons r t=>.cons r (Vals.eraseIdx i t)
theorem Vals.rep{xs:List V}{us:List Value}(h:Vals xs us):∀k:Nat,Vals (Ds k xs).flatten (Ds k us).flatten
 |0=>.nil
 |k+1=>by rw[QH,QH,Qo,Qo];exact Vals.append h (Vals.rep h k)
theorem pW{α:Type}:∀(l:List α) (i:Nat),(l.eraseIdx i).length<=l.length
 |[],_=>Pb _
 |_::_,0=>Nat.le_succ _
 |_::r,i+1=>Nat.succ_le_succ (pW r i)
theorem foldl_rep(its:List Value):∀(k:Nat) (Cr:List Value),
  Sd (fun x1 x2=>x1++x2) Cr.toArray (Ds k its.toArray)=(Cr++(Ds k its).flatten).toArray
 |0,Cr=>by simp
 |k+1,Cr=>by
  have e:Cr.toArray++its.toArray=(Cr++its).toArray:=by simp
  have e2:(Cr++its)++(Ds k its).flatten=Cr++(Ds (k+1) its).flatten:=by rw[QH,Qo,QB]
  rw[<- e2,<- foldl_rep its k (Cr++its),<- e,QH,List.foldl_cons]
section
variable{X:Cx}{nC:List (Addr×Obj)}{σ:St}{H:Hp}{s:Shared}{l b:Addr}{xs ys zs:List V}
theorem Inv.AX{its its':List Value}{n:Nat}{f:Array Value->Array Value}{t':Nat}(I:Inv X nC σ H s)(hH:H l=some (.lst xs))
  (e:s.heap.get? l=some { cls:=.type "list",data:=.seq its.toArray n }) (hf:f its.toArray=its'.toArray) (hv:Vals ys its') (hz:ys.length<=sizeLine) :
  Inv X nC σ (upd H l (.lst ys)) { s with heap:=s.heap.update l (RN f),toks:=t' }:=by
 have q:=PySem.IsL.update e f;rw[hf]at q;refine I.write (x:=l) (e:=l) (by rw[hH];exact trivial) (.inl rfl) (fun b' u hb hu=>(Heap.get?_update_other s.heap (RN f) (P4 hb)).trans hu) ⟨_,q⟩ ?_;exact⟨hz,its',_,hv,q⟩
theorem Inv.Jl{its:List Value}{t':Nat}(I:Inv X nC σ H s)(hv:Vals ys its)(hz:ys.length<=sizeLine) :
  Inv X nC σ (upd H s.heap.objs.size (.lst ys)) { s with heap:=s.heap.push { cls:=.type "list",data:=.seq its.toArray },toks:=t' }:=
 I.laid (fun _ _ q=>Ph _ q) (Pb _) ⟨hz,its,0,hv,P5 _ rfl⟩
theorem Inv.fresh(I:Inv X nC σ H s):H s.heap.objs.size=none:=I.hok.fresh (Pb _)
theorem Inv.zD(I:Inv X nC σ H s)(hH:H l=some (.lst xs)):xs.length<=sizeLine/\∃(its:List Value) (n:Nat),Vals xs its/\xs.length=its.length/\s.heap.get? l=some { cls:=.type "list",data:=.seq its.toArray n }:=by obtain⟨z,its,n,r,e⟩:=I.hok l _ hH;exact⟨z,its,n,r,r.length,e⟩
theorem mF{n:Nat}(h:n<=sizeLine):QM n=false:=by unfold QM;exact decide_eq_false (by lia)
end
section
variable{X:Cx}
def q_:V->List V->Hp->VK->Prop:=fun x vs H Q=>∃l xs y,x=.ref l/\vs=[y]/\H l=some (.lst xs)/\xs.length<sizeLine/\Q .non (upd H l (.lst (xs++[y])))
theorem kD:MtM X "list.append" q_:=by
 intro nC s σ H x vs v us Q I rx rv h;obtain⟨l,xs,y,rfl,rfl,hH,hz,q⟩:=h;cases rx;obtain⟨u,rfl,ru⟩:=rv.one;obtain⟨z,its,n,r,hl,e⟩:=I.zD hH;refine call_meets F.slot_list_append ⟨_,e,rfl⟩ F.entry_list_append (F.args_list_append_2 _ _) (PySem.list_append l its.toArray n u (by rw[Pe];lia)) ⟨e,?_⟩;refine⟨.non,_,I.AX (its':=its++[u]) hH e (by simp) (r.append (.cons ru .nil)) ?_,rfl,q⟩;rw[Pd,QC]
 lia
def xZ:V->List V->Hp->VK->Prop:=fun x vs H Q=>∃l b xs zs,x=.ref l/\vs=[.ref b]/\H l=some (.lst xs)/\H b=some (.lst zs)/\xs.length+zs.length<=sizeLine/\Q .non (upd H l (.lst (xs++zs)))
theorem zE:MtM X "list.extend" xZ:=by
 intro nC s σ H x vs v us Q I rx rv h;obtain⟨l,b,xs,zs,rfl,rfl,hH,hB,hz,q⟩:=h;cases rx;obtain⟨u,rfl,ru⟩:=rv.one;cases ru;obtain⟨z,its,n,r,hl,e⟩:=I.zD hH;obtain⟨z2,its2,n2,r2,hl2,e2⟩:=I.zD hB;have hsz:its.toArray.size+its2.toArray.size<=sizeLine:=by rw[Pe,Pe];lia
 have AY:¬(!its.toArray.isEmpty&&QM (its.toArray.size+its2.toArray.size))=true:=by rw[mF hsz,Bool.and_false];exact Px
 refine call_meets F.slot_list_extend ⟨_,e,rfl⟩ F.entry_list_extend (F.args_list_extend_2 _ _)
  (AutoSeq1.list_extend_list_list_0 l its.toArray n b its2.toArray n2 AY (by rw[Pe];lia) (by lia)) ⟨e,e2,?_⟩
 refine⟨.non,_,I.AX (its':=its++its2) hH e (by simp) (r.append r2) ?_,rfl,q⟩;rw[Pd]
 lia
def AZ:V->List V->Hp->VK->Prop:=fun x vs H Q=>∃l xs i k y,x=.ref l/\vs=[.int i]/\H l=some (.lst xs)/\-(2 ^ 63)<=i/\i<2 ^ 63/\seqIndex? i xs.length=some k/\xs[k]?=some y/\Q y (upd H l (.lst (xs.eraseIdx k)))
theorem A0:MtM X "list.pop" AZ:=by
 intro nC s σ H x vs v us Q I rx rv h;obtain⟨l,xs,i,k,y,rfl,rfl,hH,h1,h2,hk,hy,q⟩:=h;cases rx;obtain⟨u,rfl,ru⟩:=rv.one;obtain⟨t,rfl⟩:=ru;obtain⟨z,its,n,r,hl,e⟩:=I.zD hH;obtain⟨w,hw,rw'⟩:=r.get hy;refine call_meets F.slot_list_pop ⟨_,e,rfl⟩ F.entry_list_pop (F.args_list_pop_2 _ _)
  (MeetsSeq.list_pop_at l its.toArray n i t k w (fitsIndex_both h1 h2) (by rw[Pe,<- hl];exact hk) (by rw[<- Ru];exact hw) (by rw[Pe];lia)) ⟨e,?_⟩
 refine⟨y,_,I.AX (its':=its.eraseIdx k) hH e ?_ (r.eraseIdx k) ?_,rw',q⟩
 ·show its.toArray.eraseIdxIfInBounds k=(its.eraseIdx k).toArray;rw[List.eraseIdxIfInBounds_toArray]
 ·have:=pW xs k
  lia
def vY:V->List V->Hp->VK->Prop:=fun x vs H Q=>∃l xs,x=.ref l/\vs=[]/\H l=some (.lst xs)/\Q .non (upd H l (.lst []))
theorem tE:MtM X "list.clear" vY:=by intro nC s σ H x vs v us Q I rx rv h;obtain⟨l,xs,rfl,rfl,hH,q⟩:=h;cases rx;have hus:=rv.zero;subst hus;obtain⟨z,its,n,r,hl,e⟩:=I.zD hH;refine call_meets F.slot_list_clear ⟨_,e,rfl⟩ F.entry_list_clear (F.args_list_clear_1 _) (AutoSeq1.list_clear_list_0 l its.toArray n (by rw[Pe];lia)) ⟨e,?_⟩;exact⟨.non,_,I.AX (its':=[]) (ys:=[]) hH e rfl .nil (Qf _),rfl,q⟩
theorem len_rep{α:Type}(xs:List α)(k:Nat):(Ds k xs).flatten.length=k*xs.length:=by
 induction k with
 |zero=>simp
 |succ k ih=>rw[QH,Qo,Pd,ih,Nat.succ_mul,Nat.add_comm]
end
end L2
namespace Att
open PySem PySem.W PySem.Calls PyProof.Rows
theorem lO{P:Params}{h:Heap}:∀(ns:List Int) (vs:List Value),WellAll P h vs (ns.map WData.int)->IntsAre vs ns:=by
 intro ns
 induction ns with
 |nil=>intro vs w;rw[Rj]at w;cases w;exact .nil
 |cons n ns ih=>
  intro vs w;rw[eg]at w;cases w with
  |cons a b=>cases a;exact .cons _ _ (ih _ b)
theorem zF{l:OpenLaw}{n:Nat}(hn:l.most=some n){P:Params}{h:Heap}{args:List WData}{vals:List Value}
  (hpre:l.row.toRowW.claim.pre args=true) (hwl:WellAll P h vals args) :
  ∃a vs ns,vals=[PX a]/\args=[WData.list (ns.map WData.int)]/\h.get? a=some { cls:=.type "list",data:=.seq vs.toArray }/\IntsAre vs ns/\ns.length<=n:=by
 have hsh:WShape.hasAll [] args [.list .int]=true:=(pre_splitW hpre).1;have hc:l.pre.holds [] { args:=args }=true:=(pre_splitW hpre).2;obtain⟨d,r,rfl,h1,h2⟩:=hasAllW_cons hsh;obtain rfl:=hasAllW_nil h2;obtain⟨xs,rfl,h3⟩:=hasW_list h1;obtain⟨ns,rfl⟩:=items_int h3;have sF:ns.length<=n:=by
  unfold OpenLaw.pre at hc;have h4:(WTm.not (.lt (.lit (.int (n:Int))) (.len (.arg 0)))).holds [] { args:=[.list (ns.map .int)] }=true:=by have h4:=(holds_andW hc).1;rw[hn]at h4;exact h4
  have h5:=condW_of h4 (w_not (w_lt w_lit (w_len_list (w_arg rfl))));rw[gV]at h5;refine Nat.le_of_not_lt fun q=>?_;have q':(n:Int)<((ns.length:Nat):Int):=by omega
  first
   |(rw[decide_eq_true q']at h5;exact absurd h5 (by decide))
   |(simp at h5;omega)
 cases hwl with
 |cons w1 w2=>
  cases w2;cases w1 with
  |list ho hall=>exact⟨_,_,ns,rfl,rfl,ho,lO ns _ hall,sF⟩
theorem zG(l:OpenLaw)(args:List WData):l.row.toRowW.claim.post args (.bool true) args=true:=
 postW_of (r:=l.row.toRowW) (X:=(true == true))
  (show WShape.has [] (.bool true) .bool=true by first | rfl | decide | simp[WShape.has,WShape.arms,WShape.armsAll])
  (show (WTm.eq .res (.lit (.bool true))).value [] { args:=args,res:=some (.bool true),after:=args }=some (.bool (true == true)) from w_eq_bool (w_res rfl) w_lit) rfl
theorem tF{l:OpenLaw}{n:Nat}{q:Program}{loose:List Str}{XP:(Str->Option Value)->Heap->Prop}{YP:World->Heap->Prop}{d:DefRec}
  (hn:l.most=some n) (hdf:d.params.defaults=[])
  (call:∀ (w:World) (s₀ s₁:Shared) (mg mb:Str→Option Value) (fa:Addr) (o:Obj) (pm cd doc:Value) (a:Addr) (vs:List Value) (ns:List Int),
   Ground q loose [] XP w s₀ mg mb s₁.heap->YP w s₁.heap ->
   s₁.heap.get? fa=some o->o.data=.func (docDef d.name d.params d.body d.scope pm cd doc)->s₁.heap.CodeRec cd d.name->mg d.name=some (.ref fa) ->
   s₁.heap.get? a=some { cls:=.type "list",data:=.seq vs.toArray }->IntsAre vs ns->ns.length<=n->s₁.gens=#[] ->
   codeAny (model l.prog w) callerA (.call (.ref fa) ⟨[.ref a],[]⟩) (fun r s'=>r=.ok (.ret (.bool true))/\OldK s₁.heap s'.heap/\s'.os=s₁.os/\AllBare s'.gens) s₁) :
  WalkO q loose XP YP l.row.toRowW d [] (fun f vs=>PySem.call f vs):=by
 intro w s₀ s₁ mg mb G Y fa o pm cd doc dV kV ho hd HQ hD hmg hg args vals as hpre hlay hrd hwl hlo;obtain rfl:dV=.none:=Dflts.none hD hdf;obtain rfl:kV=.none:=Dflts.noKw hD;obtain⟨a,vs,ns,rfl,rfl,hobj,hints,sF⟩:=zF hn hpre hwl;refine enter_call (codeAny_mono (call w s₀ s₁ mg mb fa o pm cd doc a vs ns G Y ho (fd_plain hd) HQ hmg hobj hints sF hg) fun r s' hq=>?_);obtain⟨rfl,h2,h3,h4⟩:=hq;exact⟨.inl ⟨.bool true,.bool true,[],rfl,fun _=>rfl,.bool true,zG l _,fun _=>⟨R3.nil,fun _ hm=>(nomatch hm)⟩⟩,h2,h3,h4⟩
end Att
namespace L2
open PySem PySem.Spec PyProof.Rows
theorem dR:∀{vs:List Value} {ns:List Int},IntsAre vs ns->Vals (ns.map V.int) vs
 |_,_,.nil=>.nil
 |_,_,.cons n t h=>.cons ⟨t,rfl⟩ (dR h)
def Jm(H:Hp):Prop:=∀b,H b=none\/∃o xs,H b=some (.frz o (.lst xs))
theorem A1{P:Program}{w:World}{K:O8}{mg mb:Str->Option Value}{CX:CXT}{k:Nat}{fa a:Addr}{fd:FuncData}{x:Str}{sp:Sp}{s₁:Shared}{vs:List Value}{ns:List Int}
  (KX:K.In s₁.heap) (hns:s₁.heap.Ns mainGlobals mg) (hb:s₁.heap.Ns builtinsNs mb) (hbb:∀x:Str,x ≠ "__name__" -> mb x=bootBuiltins x) (hlim:s₁.heap.NoLimit) (hg:s₁.gens=#[])
  (ha:s₁.heap.get? a=some { cls:=.type "list",data:=.seq vs.toArray }) (hi:IntsAre vs ns) (hl:ns.length<=sizeLine) (hr:bu k callerA)
  (F:∀base:Heap,K.In base->base.Ns mainGlobals mg->bw P w K mg base CX k fa fd [x] sp) (hbind:∀(s:Shared) (u:Value),BindsTo s fd ⟨[u],[]⟩ [(x,u)])
  (hsp:∀H:Hp,Jm H->SqL K H a (ns.map V.int)->sp [.ref a] H (fun v _=>v=.bl true) fun _ _ _=>False)
  (hCX:∀H e s',CX [] H s₁ (fun _ _ _=>False) e s'->False) :
  codeAny (model P w) callerA (.call (.ref fa) ⟨[.ref a],[]⟩) (fun r s'=>r=.ok (.ret (.bool true))/\OldK s₁.heap s'.heap/\s'.os=s₁.os/\AllBare s'.gens) s₁:=by
 have rv:=dR hi;have NV:=hi.length;have core:∀H:Hp,Jm H->SqL K H a (ns.map V.int)->HOk P w H s₁.heap->(∀b,H b≠none->b=a)->(H a≠none->K.lookup a=none) ->
   codeAny (model P w) callerA (.call (.ref fa) ⟨[.ref a],[]⟩) (fun r s'=>r=.ok (.ret (.bool true))/\OldK s₁.heap s'.heap/\s'.os=s₁.os/\AllBare s'.gens) s₁:=by
  intro H hO hS hok hA hK;have x6:∀{b:Addr} {o:Obj},s₁.heap.get? b=some o->H b=none->(qR s₁.heap H).get? b=some o:=fun e n=>Ay e n;have noA:∀{b:Addr} {o:Obj} {es:Array DictEntry} {ep:Nat},s₁.heap.get? b=some o->o.data=.dict es ep->H b=none:=fun {b o es ep} e d=>by
   cases q:H b with
   |none=>rfl
   |some u=>have e':b=a:=hA b (by rw[q];simp);subst e';rw[ha]at e;cases e;have d':Data.seq vs.toArray _=Data.dict es ep:=d;cases d'
  have nsK:∀{b:Addr} {m:Str->Option Value},s₁.heap.Ns b m->(qR s₁.heap H).Ns b m:=fun {b m} ⟨o,es,ep,e,d,r⟩=>⟨o,es,ep,x6 e (noA e d),d,r⟩;have hKb:K.In (qR s₁.heap H):=fun b o e=>x6 (KX b o e) (by
   cases q:H b with
   |none=>rfl
   |some u=>have e':b=a:=hA b (by rw[q];simp);subst e';rw[hK (by rw[q];simp)]at e;cases e)
  have hM:Mod K mg (qR s₁.heap H):=⟨hKb,nsK hns,⟨mb,nsK hb,hbb⟩,let ⟨mc,h1,h2⟩:=hlim;⟨mc,nsK h1,h2⟩⟩
  have e0:Eo P w K mg (qR s₁.heap H) callerA [] s₁ H:=⟨rfl,hM,fun b o e=>Ec e,Nat.le_of_eq (zj _ _),trivial,fun b hb=>absurd (show b∈([]:List Addr) from hb) (by simp),hok,.of_eq hg⟩
  refine codeAny_mono ((F _ hKb (nsK hns)).run callerA [] s₁ H ⟨[.ref a],[]⟩ [.ref a] [.ref a] _ _ hr e0 (hbind s₁ (.ref a)) (.cons rfl .nil) (hsp H hO hS)) fun r s' h=>?_;cases r with
  |error e=>exact(hCX H e s' h).elim
  |ok fl=>
   cases fl with
   |next=>exact Qd h
   |brk=>exact Qd h
   |cont=>exact Qd h
   |ret u=>
    obtain⟨v,H',os,bare,un,NW,r',q⟩:=h;have q':v=.bl true:=q;subst q';obtain rfl:u=Sb true:=r';refine⟨rfl,OldK.of_keep fun b o e=>?_,os,bare⟩;cases q:H b with
    |none=>exact un.keep b o e q (by intro z;exact absurd (show b∈([]:List Addr) from z) (by simp)) (by simp)
    |some u=>
     rcases hO b with z | ⟨ob,xs,z⟩
     ·rw[q]at z;cases z
     ·have z2:=un.qQ b ob _ z;obtain⟨e1,_⟩:=hok b _ z;obtain⟨e2,_⟩:=NW b _ z2;rw[e]at e1;cases e1;exact e2
 cases hk:K.lookup a with
 |some o=>have e:=KX a o hk;rw[ha]at e;cases e;refine core (fun _=>none) (fun _=>.inl rfl) (.inr ⟨_,vs.toArray,_,hk,rfl,rfl,rfl,by rw[Pe,NV];exact hl,by simpa using rv⟩) (fun b u z=>by have z':(none:Option HO)=some u:=z;cases z') (fun b z=>absurd rfl z) fun z=>absurd rfl z
 |none=>
  refine core (fun b=>if b=a then some (.frz { cls:=.type "list",data:=.seq vs.toArray } (.lst (ns.map V.int))) else none) (fun b=>?_) (.inl (.inr ⟨{ cls:=.type "list",data:=.seq vs.toArray },if_pos rfl⟩)) (fun b u z=>?_) (fun b z=>?_) fun _=>hk
  ·by_cases hb:b=a
   ·exact .inr ⟨_,_,if_pos hb⟩
   ·exact .inl (if_neg hb)
  ·by_cases hb:b=a
   ·have z':=(if_pos hb).symm.trans z;cases z';subst hb;exact⟨ha,by rw[gV];exact hl,vs,_,rv,ha⟩
   ·have z':=(if_neg hb).symm.trans z;cases z'
  ·by_cases hb:b=a
   ·exact hb
   ·exact absurd (if_neg hb) z
theorem Eu{l:RW}{n k:Nat}{q:Program}{loose:List Str}{XP:(Str->Option Value)->Heap->Prop}{YP:World->Heap->Prop}{d:DefRec}{K:Params->O8}{CX:World->CXT}{sp:World->Sp}{x:Str}
  (hn:l.most=some n) (hn2:n<=sizeLine) (hdf:d.params.defaults=[]) (hr:bu k callerA)
  (hY:∀(w:World) (h:Heap),YP w h->(K w.params).In h)
  (F:∀ (w:World) (mg:Str→Option Value) (fa:Addr) (h:Heap),(K w.params).In h→h.Ns mainGlobals mg→mg d.name=some (.ref fa) →
   ∃fd:FuncData,(∀(s:Shared) (u:Value),BindsTo s fd ⟨[u],[]⟩ [(x,u)]) /\
    ∀base:Heap,(K w.params).In base->base.Ns mainGlobals mg->bw l.prog w (K w.params) mg base (CX w) k fa fd [x] (sp w))
  (hsp:∀(w:World) (H:Hp) (a:Addr) (ns:List Int),ns.length<=n->Jm H->SqL (K w.params) H a (ns.map V.int)->sp w [.ref a] H (fun v _=>v=.bl true) fun _ _ _=>False)
  (hCX:∀(w:World) (H:Hp) (s:Shared) (e:Value) (s':Shared),CX w [] H s (fun _ _ _=>False) e s'->False) :
  PySem.W.WalkO q loose XP YP l.row.toRowW d [] (fun f vs=>PySem.call f vs):=by
 refine Att.tF hn hdf fun w s₀ s₁ mg mb fa o pm cd doc a vs ns G Y ho hd HQ hmg hobj hints sF hg=>?_;have KX:=hY w _ Y;obtain⟨fd,hb,hF⟩:=F w mg fa _ KX G.T.g hmg;exact A1 KX G.T.g G.T.b G.T.builtins G.T.nolimit hg hobj hints (P0 sF hn2) hr hF hb (fun H hO hS=>hsp w H a ns sF hO hS) fun H e s'=>hCX w H s₁ e s'
noncomputable def bh(s:Stmt):Arguments:=match s with
 |.FunctionDef _ a _ _ _ _ _ _ _ _=>a
 |_=>{ posonlyargs:=[],args:=[],vararg:=none,kwonlyargs:=[],kw_defaults:=[],kwarg:=none,defaults:=[] }
noncomputable def aU(s:Stmt):List Stmt:=match s with
 |.FunctionDef _ _ b _ _ _ _ _ _ _=>b
 |_=>[]
noncomputable def ak(s:Stmt):Scope:=match s with
 |.FunctionDef _ _ _ _ _ _ sc _ _ _=>sc
 |_=>{ kind:=.function,names:=[],isGenerator:=false,isCoroutine:=false }
noncomputable abbrev CX0:CXT:=fun _ _ _ _ _ _=>False
noncomputable abbrev E0:XK:=fun _ _ _=>False
theorem mG{X:Cx}:Passes CX0 X E0:=fun _ _ _ _ _ _ _ h=>h.elim
structure Fun(K:O8)(x qual:Str)(st:Stmt)(f:Addr)(fd:FuncData):Prop where
 ex:∃(oc:Value) (od:Option Addr) (kV doc pm:Value) (an:Option Addr) (cdv ct:Value) (osl:Array (Option Value)),
  fd=Qc x qual (bh st) (aU st) (ak st) .none kV doc pm an cdv ct/\K.lookup f=some ⟨oc,od,.func fd,osl⟩/\RC K cdv qual=true
 kp:QA K (.ref f)=true
section
variable{P:Program}{w:World}{K:O8}{mg:Str->Option Value}{base:Heap}
section
variable{x qual:Str}{st:Stmt}{fd:FuncData}{f:Addr}
theorem Fun.ok{N ps:List Str}{k:Nat}{sp:Sp}(F:Fun K x qual st f fd)(S:aF N ps (ak st))(len:∀vs H Q E,sp vs H Q E->vs.length=ps.length)
  (hbody:∀ (cdv:Value) (A:Around) (outer:List Env) (s:Shared) (H:Hp) (vs:List V) (Q:VK) (E:XK),bu k (A.deeper (envOfC qual (ak st) s.heap.objs.size f cdv))→sp vs H Q E →
   ∃t,PSs (vU CX0 P w K mg base N qual (ak st) f cdv A outer s H E).nox (aU st) t/\t { nx:=fun _ H'=>Q .non H',rt:=Q } (start N vs) H):bw P w K mg base CX0 (k+1) f fd ps sp:=by
 obtain⟨oc,od,kV,doc,pm,an,cdv,ct,osl,rfl,lk,HQ⟩:=F.ex;refine LG lk HQ S len fun A outer s H vs Q E hr hsp=>?_;obtain⟨t,h,q⟩:=hbody cdv A outer s H vs Q E hr hsp;exact⟨t,h.nox,q⟩
theorem Fun.binds{ps:List Str}(F:Fun K x qual st f fd)
  (h:∀(kV doc pm:Value) (an:Option Addr) (cdv ct:Value) (us:List Value),us.length=ps.length->bindArgs (Qc x qual (bh st) (aU st) (ak st) .none kV doc pm an cdv ct) ⟨us,[]⟩=pure (ps.zip us)):Binds K fd ps []:=by
 obtain⟨oc,od,kV,doc,pm,an,cdv,ct,osl,rfl,lk,HQ⟩:=F.ex;exact .all (h kV doc pm an cdv ct)
theorem Jo{oc:Value}{od an:Option Addr}{osl:Array (Option Value)}{kV doc pm cdv ct:Value}(l:K.lookup f=some ⟨oc,od,.func (Qc x qual (bh st) (aU st) (ak st) .none kV doc pm an cdv ct),osl⟩)
  (c:RC K cdv qual=true) (k:QA K (.ref f)=true):Fun K x qual st f (Qc x qual (bh st) (aU st) (ak st) .none kV doc pm an cdv ct):=⟨⟨oc,od,kV,doc,pm,an,cdv,ct,osl,rfl,l,c⟩,k⟩
end
end
def aj(H H':Hp):Prop:=∀b o,H b=some o->H' b=some o
theorem aj.refl(H:Hp):aj H H:=fun _ _ h=>h
theorem aj.trans{H H1 H2:Hp}(a:aj H H1)(b:aj H1 H2):aj H H2:=fun c o h=>b c o (a c o h)
theorem aj.free{H H':Hp}(e:aj H H'){l:Addr}(h:H' l=Option.none):H l=Option.none:=by
 cases q:H l with
 |none=>rfl
 |some o=>rw[e l o q]at h;cases h
section
variable{κ:Type}[DecidableEq κ]
section
variable{u:Option Value}{o:Option V}{y:V}
noncomputable def gu(kvs:List (κ×V))(k:κ):Option V:=(kvs.find? fun kv=>decide (kv.1=k)).map (·.2)
noncomputable def putK(kvs:List (κ×V))(k:κ)(v:V):List (κ×V):=
 if (kvs.any fun kv=>decide (kv.1=k))=true then kvs.map (fun kv=>if kv.1=k then (kv.1,v) else kv) else kvs++[(k,v)]
noncomputable def jR(kvs:List (κ×V))(k:κ):List (κ×V):=kvs.filter fun kv=>decide (kv.1≠k)
theorem gB{p:κ×V}{r:List (κ×V)}{k:κ}(e:p.1=k):gu (p::r) k=some p.2:=by simp[gu,Qw,e]
theorem gC{p:κ×V}{r:List (κ×V)}{k:κ}(e:¬p.1=k):gu (p::r) k=gu r k:=by simp[gu,Qw,e]
theorem mH(k:κ):∀kvs:List (κ×V),(kvs.any fun kv=>decide (kv.1=k))=(gu kvs k).isSome
 |[]=>rfl
 |p::r=>by
  rw[QF];by_cases e:p.1=k
  ·simp only[gB e,decide_eq_true e,Bool.true_or,Option.isSome_some]
  ·rw[gC e,decide_eq_false e,Bool.false_or];exact mH k r
theorem gD(kvs:List (κ×V))(k:κ)(v:V):(putK kvs k v).length<=kvs.length+1:=by
 unfold putK;split
 ·rw[gV];lia
 ·rw[Pd,PL,List.length_nil];lia
theorem jN.dS(r:jN o u):o.isSome=u.isSome:=by
 cases o with
 |none=>cases u with
  |none=>rfl
  |some _=>exact(show False from r).elim
 |some _=>cases u with
  |none=>exact(show False from r).elim
  |some _=>rfl
theorem jN.getD{d:V}{d':Value}(r:jN o u)(rd:RelV d d'):RelV (o.getD d) (u.getD d'):=by
 cases o with
 |none=>cases u with
  |none=>exact rd
  |some _=>exact(show False from r).elim
 |some _=>cases u with
  |none=>exact(show False from r).elim
  |some _=>exact r
theorem KV.val{kvs:List (κ×V)}{vs:List (κ×Value)}(r:KV kvs vs)(k:κ):jN (gu kvs k) (valueAt vs k):=by
 unfold KV at r
 induction r with
 |nil=>exact QK
 |@cons p q ps qs h t ih=>
  obtain⟨h1,h2⟩:=h;by_cases e:p.1=k
  ·have e':q.1=k:=h1.symm.trans e;have b:valueAt (q::qs) k=some q.2:=by simp[valueAt,Qw,e']
   rw[gB e,b];exact h2
  ·have e':¬q.1=k:=fun z=>e (h1.trans z);have b:valueAt (q::qs) k=valueAt qs k:=by simp[valueAt,Qw,e']
   rw[gC e,b];exact ih
theorem KV.any{kvs:List (κ×V)}{vs:List (κ×Value)}(r:KV kvs vs)(k:κ):(kvs.any fun kv=>decide (kv.1=k))=vs.any fun kv=>decide (kv.1=k):=by
 unfold KV at r
 induction r with
 |nil=>rfl
 |cons h t ih=>rw[QF,QF,ih,h.1]
theorem KV.repl{kvs:List (κ×V)}{vs:List (κ×Value)}(r:KV kvs vs)(k:κ){u:Value}(ry:RelV y u) :
  KV (kvs.map fun kv=>if kv.1=k then (kv.1,y) else kv) (vs.map fun kv=>if kv.1=k then (kv.1,u) else kv):=by
 unfold KV at r ⊢
 induction r with
 |nil=>exact .nil
 |@cons p q ps qs h t ih=>
  rw[eg,eg];refine .cons ?_ ih;obtain⟨h1,h2⟩:=h;by_cases e:p.1=k
  ·rw[if_pos e,if_pos (h1.symm.trans e)];exact⟨h1,ry⟩
  ·rw[if_neg e,if_neg (fun z=>e (h1.trans z))];exact⟨h1,h2⟩
theorem KV.put{kvs:List (κ×V)}{vs:List (κ×Value)}(r:KV kvs vs)(k:κ){u:Value}(ry:RelV y u):KV (putK kvs k y) (stored vs k u):=by
 unfold putK stored;rw[r.any k];by_cases e:(vs.any fun kv=>decide (kv.1=k))=true
 ·rw[if_pos e,if_pos e];exact r.repl k ry
 ·rw[if_neg e,if_neg e];exact Paired.snoc r ⟨rfl,ry⟩
theorem KV.length{kvs:List (κ×V)}{vs:List (κ×Value)}(r:KV kvs vs):kvs.length=vs.length:=Paired.length r
theorem A2(kvs:List (κ×V))(k:κ):(jR kvs k).length<=kvs.length:=Qn _ _
end
end
section
variable{xs:List (List Key×Addr×Value)}{kvs:List (List Key×V)}{u:Value}{P:Program}{w:World}{H:Hp}{y:V}
theorem mJ{k:Key}(r:RelV (kV k) u):(aJ P w).is k u=true:=by
 cases k with
 |inl i=>obtain⟨t,e⟩:=(show ∃t,u=R5 i t from r);subst e;exact sN P w i t
 |inr x=>obtain⟨t,e⟩:=(show ∃t,u=R6 x t from r);subst e;exact sO P w x t
theorem pX:∀{ks:List Key} {us:List Value},Vals (ks.map kV) us->ItemsAre (aJ P w) ks us
 |[],_,r=>by rw[Rj]at r;cases r;exact .nil
 |k::ks,_,r=>by
  rw[eg]at r;cases r with
  |cons h t=>exact .cons (mJ h) (pX t)
noncomputable abbrev KT(H:Hp):List (List Key×V)->List (List Key×Addr×Value)->Prop:=Paired fun p q=>p.1=q.1/\H q.2.1=some (.tup (p.1.map kV))/\RelV p.2 q.2.2
theorem KT.val(r:KT H kvs xs)(k:List Key):jN (gu kvs k) ((atKey xs k).map (·.2)):=by
 induction r with
 |nil=>exact QK
 |@cons p q ps qs h t ih=>
  obtain⟨h1,_,h2⟩:=h;by_cases e:p.1=k
  ·have e':q.1=k:=h1.symm.trans e;have b:atKey (q::qs) k=some q.2:=by simp[atKey,Qw,e']
   rw[gB e,b];exact h2
  ·have e':¬q.1=k:=fun z=>e (h1.trans z);have b:atKey (q::qs) k=atKey qs k:=by simp[atKey,Qw,e']
   rw[gC e,b];exact ih
theorem KT.repl(r:KT H kvs xs)(k:List Key)(ry:RelV y u) :
  KT H (kvs.map fun kv=>if kv.1=k then (kv.1,y) else kv) (xs.map (putAt k u)):=by
 induction r with
 |nil=>exact .nil
 |@cons p q ps qs h t ih=>
  rw[eg,eg];refine .cons ?_ ih;obtain⟨h1,h2,h3⟩:=h;unfold putAt;by_cases e:p.1=k
  ·rw[if_pos e,if_pos (h1.symm.trans e)];exact⟨h1,h2,ry⟩
  ·rw[if_neg e,if_neg (fun z=>e (h1.trans z))];exact⟨h1,h2,h3⟩
theorem KT.put(r:KT H kvs xs)(k:List Key){b:Addr}(hb:H b=some (.tup (k.map kV)))(ry:RelV y u) :
  KT H (putK kvs k y) (storedH xs k b u):=by
 have e:(kvs.any fun kv=>decide (kv.1=k))=(atKey xs k).isSome:=by rw[mH,(r.val k).dS,QS]
 unfold putK storedH;rw[e];by_cases q:(atKey xs k).isSome=true
 ·rw[if_pos q,if_pos q];exact r.repl k ry
 ·rw[if_neg q,if_neg q];exact Paired.snoc r ⟨rfl,hb,ry⟩
theorem KT.keeps{H H':Hp}(r:KT H kvs xs)(ht:∀b ys,H b=some (.tup ys)->H' b=some (.tup ys)):KT H' kvs xs:=
 Paired.II r fun _ _ z=>⟨z.1,ht _ _ z.2.1,z.2.2⟩
end
section
variable{P:Program}{w:World}{H:Hp}{h:Heap}{a:Addr}
section
variable{kvs:List (List Key×V)}{ts:List Addr}
theorem Hu{u:HO}(ok:HOk P w H h)(e:Rd H a u):aQ P w H h a u:=e.ok ok
theorem mK{kvs:List (Key×V)}(ok:HOk P w H h)(e:Rd H a (.dK kvs)):kvs.length<=sizeLine/\(a == sysModules)=false/\∃vs,KV kvs vs/\h.DictOf (aJ P w) a vs:=
 show aQ P w H h a (.dK kvs) from Hu ok e
theorem Hv{kvs:List (Key×V)}(ok:HOk P w H h)(e:H a=some (.dK kvs)):kvs.length<=sizeLine/\(a == sysModules)=false/\∃vs,KV kvs vs/\h.DictOf (aJ P w) a vs:=mK ok (.inl e)
theorem iY{ks:List Key}(ok:HOk P w H h)(e:H a=some (.tup (ks.map kV))):(tupleKind (aJ P w)).is h ks a:=by
 obtain⟨_,its,r,o,h1,h2,n,h3⟩:=(show aQ P w H h a (.tup (ks.map kV)) from ok a _ e)
 exact⟨o,its.toArray,n,h1,h2,h3,by simpa using pX r⟩
theorem mL(ok:HOk P w H h)(e:Rd H a (.dT kvs ts)):kvs.length<=sizeLine/\(a == sysModules)=false /\
  ∃xs,KT H kvs xs/\h.DictOfH (tupleKind (aJ P w)) a xs:=by
 obtain⟨z,y,xs,r,o,es,ep,h1,h2,h3,h4,h5,_⟩:=(show aQ P w H h a (.dT kvs ts) from Hu ok e)
 refine⟨z,y,xs,r,o,es,ep,h1,h2,h3,h4,fun x hx=>?_,h5⟩;have all:∀{l:List (List Key×V)} {m:List (List Key×Addr×Value)},KT H l m->∀x∈m,(tupleKind (aJ P w)).is h x.1 x.2.1:=by
  intro l m q
  induction q with
  |nil=>intro x hx;exact nomatch hx
  |@cons p q ps qs hq t ih=>
   intro x hx;rcases Pk.mp hx with e | hx
   ·subst e;exact iY ok (by rw[<- hq.1];exact hq.2.1)
   ·exact ih x hx
 exact all r x hx
theorem A3(ok:HOk P w H h)(e:H a=some (.dT kvs ts)):kvs.length<=sizeLine/\(a == sysModules)=false /\
  ∃xs,KT H kvs xs/\h.DictOfH (tupleKind (aJ P w)) a xs:=mL ok (.inl e)
end
end
section
variable{kvs:List (List Key×V)}{H:Hp}{ts:List Addr}{a:Addr}
noncomputable def vZ(kvs:List (List Key×V))(ts:List Addr)(k:List Key)(b:Addr):List Addr:=if (kvs.any fun kv=>decide (kv.1=k))=true then ts else ts++[b]
theorem tG{xs:List (List Key×Addr×Value)}(r:KT H kvs xs)(k:List Key)(b:Addr)(u:Value):(storedH xs k b u).map (·.2.1)=vZ kvs (xs.map (·.2.1)) k b:=by
 have e:(kvs.any fun kv=>decide (kv.1=k))=(atKey xs k).isSome:=by rw[mH,(r.val k).dS,QS]
 unfold storedH vZ;rw[e];by_cases q:(atKey xs k).isSome=true
 ·rw[if_pos q,if_pos q,Pr];refine Qm fun x _=>?_;show (putAt k u x).2.1=x.2.1;unfold putAt;split<;>rfl
 ·rw[if_neg q,if_neg q,Pf];rfl
theorem v5{P:Program}{w:World}{h:Heap}{xs xs2:List (List Key×Addr×Value)}{ts:List Addr}{o:Obj}{es:Array DictEntry}{ep:Nat}(d:h.DictOfH (tupleKind (aJ P w)) a xs)(g1:h.get? a=some o)(g3:o.data=.dict es ep)
  (g4:es.toList=xs2.map (entryOfKey (tupleKind (aJ P w)))) (g6:xs2.map (·.2.1)=ts):xs.map (·.2.1)=ts:=by
 obtain⟨o1,es1,ep1,h1,h2,h3,h4,_⟩:=d;rw[g1]at h1;cases h1;rw[g3]at h3;cases h3;rw[g4]at h4;have key:∀l:List (List Key×Addr×Value),(l.map (entryOfKey (tupleKind (aJ P w)))).map (·.key)=(l.map (·.2.1)).map PX:=fun l=>by rw[Pr,Pr];rfl
 have:=congrArg (List.map (·.key)) h4;rw[key,key,g6]at this;exact(RH (fun a b e=>PX.inj e)).mp this.symm
def dJ(H:Hp)(a:Addr)(y:V)(r:Option V):Prop:=
 (∃kvs k,Rd H a (.dK kvs)/\y=kV k/\r=gu kvs k)\/∃kvs k b ts,Rd H a (.dT kvs ts)/\y=.ref b/\H b=some (.tup (k.map kV))/\r=gu kvs k
def tH(H:Hp)(a:Addr)(y v:V)(H':Hp):Prop:=
 (∃kvs k,H a=some (.dK kvs)/\y=kV k/\kvs.length<sizeLine/\H'=upd H a (.dK (putK kvs k v))) \/
 ∃kvs k b ts,H a=some (.dT kvs ts)/\y=.ref b/\H b=some (.tup (k.map kV))/\kvs.length<sizeLine/\H'=upd H a (.dT (putK kvs k v) (vZ kvs ts k b))
theorem dJ.k{kvs:List (Key×V)}{k:Key}(e:H a=some (.dK kvs)):dJ H a (kV k) (gu kvs k):=.inl ⟨kvs,k,.inl e,rfl,rfl⟩
theorem dJ.t{a b:Addr}{k:List Key}(e:H a=some (.dT kvs ts))(eb:H b=some (.tup (k.map kV))):dJ H a (.ref b) (gu kvs k):=.inr ⟨kvs,k,b,ts,.inl e,rfl,eb,rfl⟩
theorem tH.k{kvs:List (Key×V)}{k:Key}{v:V}(e:H a=some (.dK kvs))(hl:kvs.length<sizeLine):tH H a (kV k) v (upd H a (.dK (putK kvs k v))):=.inl ⟨kvs,k,e,rfl,hl,rfl⟩
theorem tH.t{a b:Addr}{k:List Key}{v:V}(e:H a=some (.dT kvs ts))(eb:H b=some (.tup (k.map kV)))(hl:kvs.length<sizeLine) :
  tH H a (.ref b) v (upd H a (.dT (putK kvs k v) (vZ kvs ts k b))):=.inr ⟨kvs,k,b,ts,e,rfl,eb,hl,rfl⟩
end
section
variable{X:Cx}{nC:List (Addr×Obj)}{σ:St}{H:Hp}{s:Shared}{a:Addr}{y v:V}{u r:Value}{o:Option V}{A:Around}{E:Value->Shared->Prop}
section
variable{Q:Value->Shared->Prop}{h':Heap}
theorem Inv.big(I:Inv X nC σ H s):sysModules<s.heap.objs.size:=by have h:mainGlobals<s.heap.objs.size:=(I.mod.glob.keeps I.bk).lt;exact Nat.lt_trans (by decide) h
theorem zH(hu:A.units+1<cLine)(I:Inv X nC σ H s)(g:dJ H a y (some v))(ry:RelV y u)(h:∀w' s',Inv X nC σ H s'->RelV v w'->Q w' s') :
  wpAny (model X.prog X.w) A (getItem (.ref a) u) Q E s:=by
 rcases g with⟨kvs,k,e,ey,l⟩ | ⟨kvs,k,b,ts,e,ey,eb,l⟩
 ·subst ey;obtain⟨z,hd,vs,rel,dd⟩:=mK I.hok e;obtain⟨w',hw,rw'⟩:=jN.some_of (v:=v) (o:=valueAt vs k) (by rw[l];exact rel.val k);exact wpAny_getItem_of (mJ ry) dd.mapOf hw (h w' _ (I.tok _) rw')
 ·subst ey;cases (show u=PX b from ry);obtain⟨z,hd,xs,rel,dd⟩:=mL I.hok e;obtain⟨w',hw,rw'⟩:=jN.some_of (v:=v) (o:=(atKey xs k).map (·.2)) (by rw[l];exact rel.val k);obtain⟨p,hp,hp2⟩:=Option.map_eq_some_iff.mp hw;refine wpAny_getItem_heap (tupleKind_room_in1 hu) (iY I.hok eb) dd hp ?_;rw[hp2];exact h w' _ (I.tok _) rw'
theorem Jp(hu:A.units+1<cLine)(I:Inv X nC σ H s)(g:dJ H a y o)(ry:RelV y u)(h:∀s',Inv X nC σ H s'->Q (.bool o.isSome) s') :
  wpAny (model X.prog X.w) A (compareOp .In u (.ref a)) Q E s:=by
 rcases g with⟨kvs,k,e,ey,l⟩ | ⟨kvs,k,b,ts,e,ey,eb,l⟩
 ·subst ey;obtain⟨z,hd,vs,rel,dd⟩:=mK I.hok e;refine wpAny_in_of (mJ ry) hd dd.mapOf ?_;rw[<- (rel.val k).dS,<- l];exact h _ (I.tok _)
 ·subst ey;cases (show u=PX b from ry);obtain⟨z,hd,xs,rel,dd⟩:=mL I.hok e;refine wpAny_in_heap (tupleKind_room_in1 hu) (iY I.hok eb) hd dd ?_;have q:=(rel.val k).dS;rw[QS]at q;rw[<- q,<- l];exact h _ (I.tok _)
theorem Ew(hu:A.units+1<cLine)(I:Inv X nC σ H s)(g:dJ H a y o)(ry:RelV y u)(h:∀s',Inv X nC σ H s'->Q (.bool (!o.isSome)) s') :
  wpAny (model X.prog X.w) A (compareOp .NotIn u (.ref a)) Q E s:=by
 rcases g with⟨kvs,k,e,ey,l⟩ | ⟨kvs,k,b,ts,e,ey,eb,l⟩
 ·subst ey;obtain⟨z,hd,vs,rel,dd⟩:=mK I.hok e;refine wpAny_notIn_of (mJ ry) hd dd.mapOf ?_;rw[<- (rel.val k).dS,<- l];exact h _ (I.tok _)
 ·subst ey;cases (show u=PX b from ry);obtain⟨z,hd,xs,rel,dd⟩:=mL I.hok e;refine wpAny_notIn_heap (tupleKind_room_in1 hu) (iY I.hok eb) hd dd ?_;have q:=(rel.val k).dS;rw[QS]at q;rw[<- q,<- l];exact h _ (I.tok _)
theorem lU{t':Nat}{ob:HO}(I:Inv X nC σ H s)(mu:Mut (H a))(hs:Q5 a s.heap h')(he:∃q,h'.get? a=some q)(new:aQ X.prog X.w (upd H a ob) h' a ob) :
  Inv X nC σ (upd H a ob) { s with heap:=h',toks:=t' }:=
 I.write (x:=a) (e:=a) mu (.inl rfl) (fun b q hb z=>(hs.2 b hb).trans z) he new
theorem A4{P:Program}{w:World}{H':Hp}{kvs:List (Key×V)}{vs:List (Key×Value)}(z:kvs.length<=sizeLine)(hd:(a == sysModules)=false)(rel:KV kvs vs)(dd:h'.DictOf (aJ P w) a vs) :
  aQ P w H' h' a (.dK kvs):=⟨z,hd,vs,rel,dd⟩
theorem zI{H':Hp}{Q:Unit->Shared->Prop}(hu:A.units+1<cLine)(I:Inv X nC σ H s)(g:tH H a y v H')(ry:RelV y u)(rv:RelV v r)(h:∀s',Inv X nC σ H' s'->Q () s') :
  wpAny (model X.prog X.w) A (setItem (.ref a) u r) Q E s:=by
 rcases g with⟨kvs,k,e,ey,l,eH⟩ | ⟨kvs,k,b,ts,e,ey,eb,l,eH⟩
 ·subst ey eH;obtain⟨z,hd,vs,rel,dd⟩:=Hv I.hok e;have hz:vs.length<=sizeLine:=by rw[<- rel.length];exact z
  have hl:(putK kvs k v).length<=sizeLine:=by have:=gD kvs k v;lia
  refine wpAny_setItem_pairs (hsz:=hz) (mJ ry) dd fun h' dd' hs=>h _ ?_;have he:∃q,h'.get? a=some q:=let ⟨q,_,_,hq,_⟩:=dd';⟨q,hq⟩
  exact lU I (by rw[e];exact QK) hs he (A4 hl hd (rel.put k rv) dd')
 ·subst ey eH;cases (show u=PX b from ry);obtain⟨z,hd,xs,rel,dd⟩:=A3 I.hok e;have hz:xs.length<=sizeLine:=by rw[<- Paired.length rel];exact z
  have hl:(putK kvs k v).length<=sizeLine:=by have:=gD kvs k v;lia
  refine wpAny_setItem_heap (hsz:=hz) (tupleKind_room_in1 hu) (iY I.hok eb) dd fun h' dd' hs=>h _ ?_;obtain⟨q,es,ep,hq,h2,h3,h4,_,h5⟩:=dd';refine lU I (by rw[e];exact QK) hs ⟨q,hq⟩ ⟨hl,hd,_,(rel.put k eb rv).keeps fun c ys ec=>?_,q,es,ep,hq,h2,h3,h4,h5,?_⟩
  ·rw[ao (Hi ec e (fun z=>nomatch z))];exact ec
  ·have hts:xs.map (·.2.1)=ts:=by
    obtain⟨_,_,xs2,_,o2,es2,ep2,g1,g2,g3,g4,g5,g6⟩:=(show aQ X.prog X.w H s.heap a (.dT kvs ts) from I.hok a _ e)
    exact v5 dd g1 g3 g4 g6
   rw[<- hts];exact tG rel k b r
end
end
def Ex(i:Expr):Prop:=∀ov iv,subscripted i false ov iv=operate [ov,iv] (getItem ov iv)
theorem Ey{prog:Program}{w:World}{A:Around}{E:Value->Shared->Prop}{s:Shared}{env:Env}{value slice:Expr}{pos:Pos}{T id:String}{Q:Value->Shared->Prop}
  (hl:typeLookup (.type T) "__getitem__" = pure (some (.builtin id))) (hs:Ex slice)
  (h:wpAny (model prog w) A (eval value env) (fun o s₁=>wpAny (model prog w) A (eval slice env) (fun i s₂=>s₂.TypeIs o T/\wpAny (model prog w) A (getItem o i) Q E s₂) E s₁) E s) :
  wpAny (model prog w) A (eval (.Subscript value slice pos) env) Q E s:=by
 refine Subscript_ (wpAny_mono h (fun o s₁ h₁=>wpAny_mono h₁ (fun i s₂ h₂=>?_) fun _ _ x=>x) fun _ _ x=>x);obtain⟨hT,h₂⟩:=h₂;unfold subscriptTail;refine wpAny_bind ?_;rw[getitemInPython_of_ne hT.not_modules];refine wpAny_bind (wpAny_specialOf hT hl ?_);have MR:wpAny (model prog w) A (subscripted slice false o i) (fun r s₃=>wpAny (model prog w) A (letTemporaryGo value o r >>= fun _=>pure r) Q E s₃) E s₂:=by rw[hs o i];exact wpAny_operating (wpAny_mono h₂ (fun r s₃ h₃=>wpAny_bind (wpAny_letTemporaryGo (wpAny_pure h₃))) fun _ _ x=>x)
 first
  |exact wpAny_pure (wpAny_bind MR)
  |exact wpAny_bind (wpAny_pure (wpAny_bind MR))
  |exact wpAny_bind MR
theorem tK{X:Cx}{nC:List (Addr×Obj)}{σ:St}{H:Hp}{s:Shared}{a:Addr}{y:V}{o:Option V}(I:Inv X nC σ H s)(g:dJ H a y o):s.TypeIs (.ref a) "dict" := by
 rcases g with⟨kvs,k,e,_,_⟩ | ⟨kvs,k,b,ts,e,_,_,_⟩
 ·obtain⟨_,_,vs,_,dd⟩:=mK I.hok e;exact dd.typeIs
 ·obtain⟨_,_,xs,_,dd⟩:=mL I.hok e;exact dd.typeIs
def LJ(td ty:TE):TE:=fun σ H Q=>td σ H fun x H1=>ty σ H1 fun y H2=>∃a v,x=.ref a/\dJ H2 a y (some v)/\Q v H2
def NX(ty td:TE):TE:=fun σ H Q=>ty σ H fun y H1=>td σ H1 fun x H2=>∃a o,x=.ref a/\dJ H2 a y o/\Q (.bl o.isSome) H2
def Ez(ty td:TE):TE:=fun σ H Q=>ty σ H fun y H1=>td σ H1 fun x H2=>∃a o,x=.ref a/\dJ H2 a y o/\Q (.bl (!o.isSome)) H2
def A5(td ty tv:TE):TS:=fun D σ H=>tv σ H fun v H1=>td σ H1 fun x H2=>ty σ H2 fun y H3=>∃a H4,x=.ref a/\tH H3 a y v H4/\D.nx σ H4
section
variable{X:Cx}{o i e value:Expr}{pos pos' tpos:Pos}{td ty tv:TE}
theorem x8(hu:X.A.units+1<cLine)(ho:PE X o td)(hi:PE X i ty)(hs:Ex i):PE X (.Subscript o i pos) (LJ td ty):=by intro nC s σ H Q I h;refine Ey PySem.F.slot_dict_getitem.lookup hs (thn (ho nC s σ H _ I h) fun u s1 ⟨x,H1,I1,rx,q1⟩=>thn (hi nC s1 σ H1 _ I1 q1) fun iv s2 ⟨y,H2,I2,ry,a,v,ex,g,q2⟩=>?_);subst ex;obtain rfl:u=PX a:=rx;exact⟨tK I2 g,zH hu I2 g ry fun w' s3 I3 rw'=>⟨v,H2,I3,rw',q2⟩⟩
theorem A6(hu:X.A.units+1<cLine)(hi:PE X i ty)(ho:PE X o td):PC X .In i o (NX ty td):=by intro nC s σ H Q I h;refine thn (hi nC s σ H _ I h) fun iv s1 ⟨y,H1,I1,ry,q1⟩=>thn (ho nC s1 σ H1 _ I1 q1) fun u s2 ⟨x,H2,I2,rx,a,ov,ex,g,q2⟩=>?_;subst ex;obtain rfl:u=PX a:=rx;exact Jp hu I2 g ry fun s3 I3=>⟨.bl ov.isSome,H2,I3,rfl,q2⟩
theorem zJ(hu:X.A.units+1<cLine)(hi:PE X i ty)(ho:PE X o td):PC X .NotIn i o (Ez ty td):=by intro nC s σ H Q I h;refine thn (hi nC s σ H _ I h) fun iv s1 ⟨y,H1,I1,ry,q1⟩=>thn (ho nC s1 σ H1 _ I1 q1) fun u s2 ⟨x,H2,I2,rx,a,ov,ex,g,q2⟩=>?_;subst ex;obtain rfl:u=PX a:=rx;exact Ew hu I2 g ry fun s3 I3=>⟨.bl (!ov.isSome),H2,I3,rfl,q2⟩
theorem x9(hu:X.A.units+1<cLine)(ho:PE X o td)(hi:PE X i ty)(hv:PE X value tv)(hs:swapsWith value (some (.Subscript o i pos')) pos.line X.env=pure false) :
  PS X (.Assign [.Subscript o i pos'] value pos) (A5 td ty tv):=by
 intro nC s σ H D I h;refine wpAny_Assign_Subscript (thn (hv nC s σ H _ I h) fun r s1 ⟨v,H1,I1,rv,q1⟩=>thn (ho nC s1 σ H1 _ I1 q1) fun u s2 ⟨x,H2,I2,rx,q2⟩=>thn (hi nC s2 σ H2 _ I2 q2) fun iv s3 ⟨y,H3,I3,ry,a,H4,ex,g,q3⟩=>?_) hs;subst ex;obtain rfl:u=PX a:=rx;exact zI hu I3 g ry rv fun s4 I4=>⟨σ,H4,I4,q3⟩
end
section
variable{P:Program}{w:World}{H:Hp}
theorem A7(h:Heap)(hb:sysModules<h.objs.size):aQ P w H (h.push { cls:=.type "dict",data:=.dict #[] }) h.objs.size (.dK []):=
 ⟨Qf _,beq_eq_false_iff_ne.mpr (P4 (P6 hb)),[],.nil,Heap.DictOf.new h⟩
theorem A8(h:Heap)(hb:sysModules<h.objs.size):aQ P w H (h.push { cls:=.type "dict",data:=.dict #[] }) h.objs.size (.dT [] []):=
 ⟨Qf _,beq_eq_false_iff_ne.mpr (P4 (P6 hb)),[],.nil,_,#[],0,P5 _ rfl,⟨rfl,rfl,rfl⟩,rfl,rfl,Rr,rfl⟩
def A9:TE:=fun _ H Q=>∀p,H p=none->Q (.ref p) (upd H p (.dT [] []))
end
section
variable{X:Cx}{pos:Pos}
theorem A_:PE X (.Dict [] [] pos) A9:=fun nC s σ H Q I h=>wpAny_Dict_empty ⟨.ref s.heap.objs.size,_,I.laid (a:=s.heap.objs.size) (o:=.dT [] []) (t':=s.toks) (fun _ _ q=>Ph _ q) (Pb _) (A8 s.heap I.big),rfl,h _ (I.hok.fresh (Pb _))⟩
end
section
variable{trs:List (TE×TE)}{pos:Pos}{X:Cx}
def v7:List (TE×TE)->St->Hp->(List (V×V)->Hp->Prop)->Prop
 |[],_,H,Q=>Q [] H
 |(tk,tv)::r,σ,H,Q=>tk σ H fun x H1=>tv σ H1 fun y H2=>v7 r σ H2 fun ps H3=>Q ((x,y)::ps) H3
noncomputable abbrev VV:List (V×V)->List (Value×Value)->Prop:=Paired fun p q=>RelV p.1 q.1/\RelV p.2 q.2
def PPs(X:Cx)(pos:Pos)(keys:List (Option Expr))(values:List Expr)(trs:List (TE×TE)):Prop:=
 ∀(nC:List (Addr×Obj)) (s:Shared) (σ:St) (H:Hp) (Q:List (V×V)->Hp->Prop),Inv X nC σ H s->v7 trs σ H Q ->
  wpAny (model X.prog X.w) X.A (evalPairs (pairTrees keys values X.env pos)) (fun vs s'=>∃ps H',Inv X nC σ H' s'/\VV ps vs/\Q ps H') X.xe s
theorem EA:PPs X pos [] [] []:=fun nC s σ H Q I h=>pairTrees_nil_walk ⟨[],H,I,.nil,h⟩
theorem Ba{k v:Expr}{ks:List (Option Expr)}{vs:List Expr}{tk tv:TE}(hk:PE X k tk)(hv:PE X v tv)(hr:PPs X pos ks vs trs) :
  PPs X pos (some k::ks) (v::vs) ((tk,tv)::trs):=fun nC s σ H Q I h=>
 pairTrees_cons_walk (thn (hk nC s σ H _ I h) fun u s1 ⟨x,H1,I1,rx,q1⟩=>thn (hv nC s1 σ H1 _ I1 q1) fun w2 s2 ⟨y,H2,I2,ry,q2⟩=>thn (hr nC s2 σ H2 _ I2 q2) fun ws s3 ⟨ps,H3,I3,rel,q3⟩=>⟨(x,y)::ps,H3,I3,.cons ⟨rx,ry⟩ rel,q3⟩)
noncomputable def kE(kvs more:List (Key×V)):List (Key×V):=more.foldl (fun Cr kv=>putK Cr kv.1 kv.2) kvs
theorem KV.merge:∀{more:List (Key×V)} {rs:List (Key×Value)} {kvs:List (Key×V)} {vs:List (Key×Value)},KV more rs->KV kvs vs->KV (kE kvs more) (merged vs rs):=by
 intro more rs kvs vs r;unfold KV at r
 induction r generalizing kvs vs with
 |nil=>intro q;exact q
 |@cons p q ps qs h t ih=>
  intro r0;have e:KV (putK kvs p.1 p.2) (stored vs q.1 q.2):=by have:=r0.put p.1 h.2;rw[<- h.1];exact this
  exact ih e
theorem iO:∀(more kvs:List (Key×V)),(kE kvs more).length<=kvs.length+more.length
 |[],kvs=>by show kvs.length<=kvs.length+0;lia
 |p::r,kvs=>by have h1:=iO r (putK kvs p.1 p.2);have h2:=gD kvs p.1 p.2;show (kE (putK kvs p.1 p.2) r).length<=_;rw[PL];lia
theorem mO{P:Program}{w:World}:∀{kvs:List (Key×V)} {ws:List (Value×Value)},VV (kvs.map fun kv=>(kV kv.1,kv.2)) ws->∃rs,Carries (aJ P w) ws rs/\KV kvs rs
 |[],_,r=>by rw[Rj]at r;cases r;exact⟨[],QK,.nil⟩
 |p::kvs,_,r=>by
  rw[eg]at r;cases r with
  |@cons a b as bs h t=>obtain⟨rs,c,q⟩:=mO (P:=P) (w:=w) t;obtain⟨b1,b2⟩:=b;exact⟨(p.1,b2)::rs,⟨mJ h.1,rfl,c⟩,.cons ⟨rfl,h.2⟩ q⟩
def Hw(trs:List (TE×TE)):TE:=fun σ H Q=>∀p,H p=none->v7 trs σ (upd H p (.dK [])) fun ps H2=>H2 p=some (.dK [])/\∃kvs:List (Key×V),ps=kvs.map (fun kv=>(kV kv.1,kv.2))/\kvs.length<=15/\Q (.ref p) (upd H2 p (.dK (kE [] kvs)))
theorem EB{keys:List (Option Expr)}{values:List Expr}(h:PPs X pos keys values trs)(hall:keys.all (·.isSome)=true)(hl:keys.length=values.length)(h0:keys≠[])
  (h15:keys.length<=15):PE X (.Dict keys values pos) (Hw trs):=by
 intro nC s σ H Q I q;have hn:=I.hok.fresh (Pb s.heap.objs.size);have I1:=I.laid (a:=s.heap.objs.size) (o:=.dK []) (h':=s.heap.push { cls:=.type "dict",data:=.dict #[] }) (t':=s.toks) (fun _ _ q=>Ph _ q) (Pb _) (A7 s.heap I.big);refine wpAny_Dict_walk (knd:=aJ X.prog X.w) hall hl h0 h15 (thn (h nC _ σ _ _ I1 (q _ hn)) fun ws s2 ⟨ps,H2,I2,rel,e,kvs,ep,lk,q2⟩=>?_);subst ep;obtain⟨rs,c,rk⟩:=mO (P:=X.prog) (w:=X.w) rel;obtain⟨z,hd,vs0,r0,dd⟩:=Hv I2.hok e;cases r0;refine⟨rs,c,dd,fun h' dd' hs=>⟨.ref s.heap.objs.size,_,?_,rfl,q2⟩⟩;have hz:(kE [] kvs).length<=sizeLine:=by have h1:=iO kvs [];rw[List.length_nil]at h1;rw[sizeLine_eq];lia
 have he:∃q,h'.get? s.heap.objs.size=some q:=let ⟨q,_,_,hq,_⟩:=dd';⟨q,hq⟩
 exact lU I2 (by rw[e];exact QK) hs he (A4 hz hd (rk.merge .nil) dd')
structure M1(X:Cx)(o:Expr)(m:Str)(Ko:Pos)(e:Expr)(cpos:Pos):Prop where
 base:attributeBase o m X.env (eval o X.env)=eval o X.env
 few:((backTo cpos (starEach [e] X.env)).all (fun x=>!x.1)&&(backToKw cpos (keywordEach [] X.env)).all (fun x=>x.1.isSome)
  && decide (([e]:List Expr).length+([]:List Keyword).length+(if ([]:List Keyword).isEmpty then 0 else 1)<30))=true
 line:(Ko.endLine == cpos.line)=true
 trees:backTo cpos (starEach [e] X.env)=[(false,eval e X.env)]
def IsD(H:Hp)(a:Addr):Prop:=(∃kvs,Rd H a (.dK kvs))\/∃kvs ts,Rd H a (.dT kvs ts)
theorem Bb{nC:List (Addr×Obj)}{σ:St}{H:Hp}{s:Shared}{a:Addr}(I:Inv X nC σ H s)(d:IsD H a) :
  s.TypeIs (.ref a) "dict" /\ (∀b,PX a=.ref b->∃ob,s.heap.get? b=some ob/\ob.dict=none)/\(a == sysModules)=false:=by
 rcases d with⟨kvs,e⟩ | ⟨kvs,ts,e⟩
 ·obtain⟨_,hd,vs,_,dd⟩:=mK I.hok e;refine⟨dd.typeIs,fun b q=>?_,hd⟩;cases q;obtain⟨ob,_,_,h1,h2,_⟩:=dd;exact⟨ob,h1,h2.2.1⟩
 ·obtain⟨_,hd,xs,_,dd⟩:=mL I.hok e;refine⟨dd.typeIs,fun b q=>?_,hd⟩;cases q;obtain⟨ob,_,_,h1,h2,_⟩:=dd;exact⟨ob,h1,h2.2.1⟩
end
section
variable{X:Cx}{nC:List (Addr×Obj)}{σ:St}{H:Hp}{s:Shared}{a:Addr}{y d:V}{u r:Value}{o:Option V}{A:Around}{E:Value->Shared->Prop}
theorem Jq{Q:Value->Shared->Prop}(hu:A.units+1<cLine)(I:Inv X nC σ H s)(g:dJ H a y o)(ry:RelV y u)(h:∀w' s',Inv X nC σ H s'->RelV (o.getD .non) w'->Q w' s') :
  wpAny (model X.prog X.w) A (call (.builtin "dict.get") [.ref a,u]) Q E s:=by
 rcases g with⟨kvs,k,e,ey,l⟩ | ⟨kvs,k,b,ts,e,ey,eb,l⟩
 ·subst ey;obtain⟨z,hd,vs,rel,dd⟩:=mK I.hok e;refine call_meetsIn Rv dd.typeIs PySem.F.entry_dict_get (PySem.F.args_dict_get_2 _ _) (meets_dict_get (aJ X.prog X.w) a (mJ ry) hd) ⟨_,dd.mapOf,h _ _ (I.tok _) ?_⟩;rw[l];exact(rel.val k).getD rfl
 ·subst ey;cases (show u=PX b from ry);obtain⟨z,hd,xs,rel,dd⟩:=mL I.hok e;refine call_meetsIn Rv dd.typeIs PySem.F.entry_dict_get (PySem.F.args_dict_get_2 _ _) (meetsH_dict_get (tupleKind (aJ X.prog X.w)) a b hd) ⟨tupleKind_room_in1 hu,k,xs,iY I.hok eb,dd,h _ _ (I.tok _) ?_⟩;rw[l];exact(rel.val k).getD rfl
end
def Bc(td ty:TE):TE:=fun σ H Q=>td σ H fun x H1=>∃a,x=.ref a/\IsD H1 a/\ty σ H1 fun y H2=>∃o,dJ H2 a y o/\Q (o.getD .non) H2
section
variable{X:Cx}{o e f:Expr}{Ko cpos:Pos}{td ty tx:TE}
theorem Bd(hu:X.A.units+1<cLine)(ho:PE X o td)(he:PE X e ty)(m:M1 X o "get" Ko e cpos):PE X (.Call (.Attribute o "get" Ko) [e] [] cpos) (Bc td ty):=by intro nC s σ H Q I h;refine wpAny_Call_method m.base m.few m.line PySem.F.plainAttrs_dict Rv PySem.F.type_dict_get (thn (ho nC s σ H _ I h) fun u s1 ⟨x,H1,I1,rx,a,ex,d,q1⟩=>?_);subst ex;obtain rfl:u=PX a:=rx;obtain⟨t1,t2,_⟩:=Bb I1 d;refine⟨t1,t2,?_⟩;rw[m.trees];refine Rg rfl (Ry (RG (thn (he nC s1 σ H1 _ I1 q1) fun iv s2 ⟨y,H2,I2,ry,ov,g,q2⟩=>Rt ?_)));exact Jq hu I2 g ry fun w' s3 I3 rw'=>⟨_,H2,I3,rw',q2⟩
end
end L2
namespace Dm
inductive Dat where
 |non
 |bl (b:Bool)
 |int (i:Int)
 |str (s:List Nat)
 |tup (xs:List Dat)
 |lst (xs:List Dat)
 |dct (ks:List Int) (vs:List Dat)
 |dcp (ks:List (Int×Int)) (vs:List Dat)
 |exc (C:Nat)
 |dh (C:Nat) (v:Int)
 |fn (a:Nat)
deriving Inhabited
inductive Cell where
 |un
 |sh (d:Dat)
 |ow (d:Dat)
deriving Inhabited
noncomputable abbrev Env:=List Cell
inductive Val where
 |val (d:Dat)
 |slot (i:Nat)
 |new (d:Dat)
inductive RV where
 |val (d:Dat)
 |new (d:Dat)
noncomputable def RV.dat:RV->Dat
 |.val d=>d
 |.new d=>d
noncomputable def RV.bC:RV->Val
 |.val d=>.val d
 |.new d=>.new d
noncomputable def SZ:Nat:=100000
noncomputable def dY:Dat->Bool
 |.tup _=>true
 |.lst _=>true
 |.dct _ _=>true
 |.dcp _ _=>true
 |.exc _=>true
 |.dh _ _=>true
 |_=>false
noncomputable def pk(ρ:Env):Val->Option Dat
 |.val d=>some d
 |.new d=>some d
 |.slot i=>match ρ[i]? with
  |some (.ow d)=>some d
  |some (.sh d)=>some d
  |_=>none
noncomputable def tk(ρ:Env):Val->Option (Dat×Env)
 |.val d=>some (d,ρ)
 |.new d=>some (d,ρ)
 |.slot i=>match ρ[i]? with
  |some (.ow d)=>some (d,ρ.set i (.sh d))
  |some (.sh d)=>some (d,ρ)
  |_=>none
noncomputable def pks(ρ:Env):List Val->Option (List Dat)
 |[]=>some []
 |x::r=>match pk ρ x with
  |none=>none
  |some d=>match pks ρ r with
   |none=>none
   |some ds=>some (d::ds)
noncomputable def tks(ρ:Env):List Val->Option (List Dat×Env)
 |[]=>some ([],ρ)
 |x::r=>match tk ρ x with
  |none=>none
  |some (d,ρ1)=>match tks ρ1 r with
   |none=>none
   |some (ds,ρ2)=>some (d::ds,ρ2)
noncomputable abbrev FE:=Env->Option (Val×Env)
noncomputable abbrev FT:=Env->Option (Bool×Env)
noncomputable def eC(d:Dat):FE:=fun ρ=>some (.val d,ρ)
noncomputable def eV(i:Nat):FE:=fun ρ=>match ρ[i]? with
 |some (.sh d)=>some (.val d,ρ)
 |some (.ow _)=>some (.slot i,ρ)
 |_=>none
noncomputable def e1(g:Dat->Option RV)(a:FE):FE:=fun ρ=>match a ρ with
 |none=>none
 |some (x,ρ1)=>match pk ρ1 x with
  |none=>none
  |some d=>match g d with
   |none=>none
   |some v=>some (v.bC,ρ1)
noncomputable def e2(g:Dat->Dat->Option RV)(a b:FE):FE:=fun ρ=>match a ρ with
 |none=>none
 |some (x,ρ1)=>match b ρ1 with
  |none=>none
  |some (y,ρ2)=>match pk ρ2 x with
   |none=>none
   |some d=>match pk ρ2 y with
    |none=>none
    |some e=>match g d e with
     |none=>none
     |some v=>some (v.bC,ρ2)
noncomputable def eAs:List FE->Env->Option (List Val×Env)
 |[],ρ=>some ([],ρ)
 |a::r,ρ=>match a ρ with
  |none=>none
  |some (x,ρ1)=>match eAs r ρ1 with
   |none=>none
   |some (xs,ρ2)=>some (x::xs,ρ2)
noncomputable def eB(g:List Dat->Option RV)(as:List FE):FE:=fun ρ=>match eAs as ρ with
 |none=>none
 |some (xs,ρ1)=>match pks ρ1 xs with
  |none=>none
  |some ds=>match g ds with
   |none=>none
   |some v=>some (v.bC,ρ1)
noncomputable def eE(as:List FE):FE:=fun ρ=>match eAs as ρ with
 |none=>none
 |some (xs,ρ1)=>match tks ρ1 xs with
  |none=>none
  |some (ds,ρ2)=>if ds.length<=SZ then some (.val (.tup ds),ρ2) else none
noncomputable def cL(as:List FE):FE:=fun ρ=>match eAs as ρ with
 |none=>none
 |some (xs,ρ1)=>match tks ρ1 xs with
  |none=>none
  |some (ds,ρ2)=>if ds.length<=SZ then some (.new (.lst ds),ρ2) else none
noncomputable def eF(f:List Dat->Option RV)(as:List FE):FE:=fun ρ=>match eAs as ρ with
 |none=>none
 |some (xs,ρ1)=>match pks ρ1 xs with
  |none=>none
  |some ds=>match f ds with
   |none=>none
   | some v=>if dY v.dat then (match tks ρ1 xs with
     |none=>none
     |some (_,ρ2)=>some (v.bC,ρ2)) else some (v.bC,ρ1)
noncomputable def eIf(t:FT)(a b:FE):FE:=fun ρ=>match t ρ with
 |none=>none
 |some (true,ρ1)=>a ρ1
 |some (false,ρ1)=>b ρ1
noncomputable def iZ(a b:FE):FE:=fun ρ=>match a ρ with
 |some (.val (.bl true),ρ1)=>b ρ1
 |some (.val (.bl false),ρ1)=>some (.val (.bl false),ρ1)
 |_=>none
noncomputable def tL(a:FE):FE:=fun ρ=>match a ρ with
 |some (.val (.bl c),ρ1)=>some (.val (.bl (!c)),ρ1)
 |_=>none
noncomputable def tV(a:FE):FT:=fun ρ=>match a ρ with
 |some (.val (.bl c),ρ1)=>some (c,ρ1)
 |_=>none
noncomputable def dI(t:FT):FT:=fun ρ=>match t ρ with
 |some (c,ρ1)=>some (!c,ρ1)
 |none=>none
noncomputable def e8(t u:FT):FT:=fun ρ=>match t ρ with
 |some (true,ρ1)=>u ρ1
 |some (false,ρ1)=>some (false,ρ1)
 |none=>none
noncomputable def tOr(t u:FT):FT:=fun ρ=>match t ρ with
 |some (true,ρ1)=>some (true,ρ1)
 |some (false,ρ1)=>u ρ1
 |none=>none
noncomputable def truth:Dat->Option Bool
 |.non=>some false
 |.bl b=>some b
 |.int i=>some (i != 0)
 |.tup xs=>some (!xs.isEmpty)
 |.lst xs=>some (!xs.isEmpty)
 |_=>none
noncomputable def tTr(a:FE):FT:=fun ρ=>match a ρ with
 |none=>none
 |some (x,ρ1)=>match pk ρ1 x with
  |none=>none
  |some d=>match truth d with
   |none=>none
   |some c=>some (c,ρ1)
noncomputable def bO:FT:=fun ρ=>some (true,ρ)
noncomputable abbrev FI:=Env->Option (List Dat×Env)
noncomputable def iL(a:FE):FI:=fun ρ=>match a ρ with
 |none=>none
 |some (x,ρ1)=>match tk ρ1 x with
  |some (.lst ds,ρ2)=>some (ds,ρ2)
  |_=>none
noncomputable def iT(a:FE):FI:=fun ρ=>match a ρ with
 |none=>none
 |some (x,ρ1)=>match tk ρ1 x with
  |some (.tup ds,ρ2)=>some (ds,ρ2)
  |_=>none
noncomputable def iS(a:FE):FI:=fun ρ=>match a ρ with
 |none=>none
 |some (x,ρ1)=>match tk ρ1 x with
  |some (.lst ds,ρ2)=>some (ds,ρ2)
  |some (.tup ds,ρ2)=>some (ds,ρ2)
  |_=>none
noncomputable def ups(lo:Int)(n:Nat):List Dat:=(PM n).map fun i=>Dat.int (lo+(i:Nat))
noncomputable def downs(hi:Int)(n:Nat):List Dat:=(PM n).map fun i=>Dat.int (hi-(i:Nat))
noncomputable def BIG:Int:=1000000000
noncomputable def iR1(a:FE):FI:=fun ρ=>match a ρ with
 |some (.val (.int j),ρ1)=>if j<=BIG/\-BIG<=j then some (ups 0 j.toNat,ρ1) else none
 |_=>none
noncomputable def iR2(a b:FE):FI:=fun ρ=>match a ρ with
 | some (.val (.int i),ρ1)=>(match b ρ1 with
  |some (.val (.int j),ρ2)=>if j<=BIG/\-BIG<=j/\i<=BIG/\-BIG<=i then some (ups i (j-i).toNat,ρ2) else none
  |_=>none)
 |_=>none
noncomputable abbrev FB:=Dat->Env->Option Env
noncomputable def bN(i:Nat):FB:=fun d ρ=>if i=0 then none else some (ρ.set i (.sh d))
noncomputable def sets:List Nat->List Dat->Env->Option Env
 |[],[],ρ=>some ρ
 |i::is,d::ds,ρ=>if i=0 then none else sets is ds (ρ.set i (.sh d))
 |_,_,_=>none
noncomputable def bT(is:List Nat):FB:=fun d ρ=>match d with
 |.tup ds=>sets is ds ρ
 |_=>none
noncomputable def gh(bd:FB)(t:FT)(el:FE):List Dat->Env->List Dat->Option (List Dat×Env)
 |[],ρ,Cr=>some (Cr,ρ)
 |d::r,ρ,Cr=>match bd d ρ with
  |none=>none
  |some ρ1=>match t ρ1 with
   |none=>none
   |some (false,ρ2)=>gh bd t el r ρ2 Cr
   |some (true,ρ2)=>match el ρ2 with
    |none=>none
    |some (x,ρ3)=>match tk ρ3 x with
     |none=>none
     |some (y,ρ4)=>gh bd t el r ρ4 (Cr++[y])
noncomputable def cC(it:FI)(own:Nat)(bd:FB)(t:FT)(el:FE):FE:=fun ρ=>match it ρ with
 |none=>none
 | some (ds,ρ1)=>if ds.length≤SZ then (match gh bd t el ds (ρ1++Ds own .un) [] with
  |none=>none
  |some (ys,ρ2)=>some (.new (.lst ys),ρ2.take ρ1.length)) else none
inductive Out where
 |nx (ρ:Env)
 |ret (r:RV) (ρ:Env)
 |bk (ρ:Env)
 |ct (ρ:Env)
noncomputable abbrev FS:=Env->Option Out
noncomputable def sNx:FS:=fun ρ=>some (.nx ρ)
noncomputable def az(s u:FS):FS:=fun ρ=>match s ρ with
 |some (.nx ρ1)=>u ρ1
 |o=>o
noncomputable def sA(i:Nat)(e:FE):FS:=fun ρ=>if i=0 then none else match e ρ with
 |none=>none
 |some (.new d,ρ1)=>some (.nx (ρ1.set i (.ow d)))
 |some (x,ρ1)=>match tk ρ1 x with
  |none=>none
  |some (d,ρ2)=>some (.nx (ρ2.set i (.sh d)))
noncomputable def sE(e:FE):FS:=fun ρ=>match e ρ with
 |none=>none
 |some (_,ρ1)=>some (.nx ρ1)
noncomputable def sR(e:FE):FS:=fun ρ=>match e ρ with
 |none=>none
 |some (.new d,ρ1)=>some (.ret (.new d) ρ1)
 |some (.val d,ρ1)=>some (.ret (.val d) ρ1)
 |some (.slot i,ρ1)=>match ρ1[i]? with
  |some (.ow d)=>some (.ret (.new d) (ρ1.set i .un))
  |some (.sh d)=>some (.ret (.val d) ρ1)
  |_=>none
noncomputable def sIf(t:FT)(a b:FS):FS:=fun ρ=>match t ρ with
 |none=>none
 |some (true,ρ1)=>a ρ1
 |some (false,ρ1)=>b ρ1
noncomputable def pB(i:Nat)(e:FE):FS:=fun ρ=>match ρ[i]? with
 | some (.ow (.lst _))=>(match e ρ with
  |none=>none
  |some (x,ρ1)=>match tk ρ1 x with
   |none=>none
   |some (d,ρ2)=>match ρ2[i]? with
    |some (.ow (.lst ds))=>if ds.length<SZ then some (.nx (ρ2.set i (.ow (.lst (ds++[d]))))) else none
    |_=>none)
 |_=>none
noncomputable def ixN(n:Nat)(i:Int):Option Nat:=
 if 0<=i then (if i<n then some i.toNat else none) else if -(n:Int)<=i then some (i+n).toNat else none
noncomputable def zK(i:Nat)(j e:FE):FS:=fun ρ=>match e ρ with
 |none=>none
 |some (x,ρ1)=>match tk ρ1 x with
  |none=>none
  |some (d,ρ2)=>match ρ2[i]? with
   | some (.ow _)=>(match j ρ2 with
    | some (.val (.int k),ρ3)=>(match ρ3[i]? with
     | some (.ow (.lst ds))=>(match ixN ds.length k with
      |none=>none
      |some m=>some (.nx (ρ3.set i (.ow (.lst (ds.set m d))))))
     |_=>none)
    |_=>none)
   |_=>none
noncomputable def kF(bd:FB)(body:FS):List Dat->FS
 |[],ρ=>some (.nx ρ)
 |d::r,ρ=>match bd d ρ with
  |none=>none
  |some ρ1=>match body ρ1 with
   |some (.nx ρ2)=>kF bd body r ρ2
   |some (.ct ρ2)=>kF bd body r ρ2
   |some (.bk ρ2)=>some (.nx ρ2)
   |some (.ret v ρ2)=>some (.ret v ρ2)
   |none=>none
noncomputable def gv(it:FI)(bd:FB)(body:FS):FS:=fun ρ=>match it ρ with
 |none=>none
 |some (ds,ρ1)=>kF bd body ds ρ1
noncomputable def whD(t:FT)(body:FS):Nat->FS
 |0,_=>none
 |n+1,ρ=>match t ρ with
  |none=>none
  |some (false,ρ1)=>some (.nx ρ1)
  |some (true,ρ1)=>match body ρ1 with
   |some (.nx ρ2)=>whD t body n ρ2
   |some (.ct ρ2)=>whD t body n ρ2
   |some (.bk ρ2)=>some (.nx ρ2)
   |some (.ret v ρ2)=>some (.ret v ρ2)
   |none=>none
noncomputable def fn(n m:Nat)(body:FS)(ds:List Dat):Option RV:=if ds.length=n then (match body (ds.map Cell.sh++Ds m .un) with
 |some (.ret r _)=>some r
 |some (.nx _)=>some (.val .non)
 |_=>none) else none
noncomputable def b2i(b:Bool):Int:=if b then 1 else 0
mutual
noncomputable def eqD:Dat->Dat->Bool
 |.non,.non=>true
 |.bl a,.bl b=>a == b
 |.bl a,.int j=>b2i a == j
 |.int i,.bl b=>i == b2i b
 |.int i,.int j=>i == j
 |.str a,.str b=>a == b
 |.tup xs,.tup ys=>eG xs ys
 |.lst xs,.lst ys=>eG xs ys
 |_,_=>false
noncomputable def eG:List Dat->List Dat->Bool
 |[],[]=>true
 |x::xs,y::ys=>eqD x y&&eG xs ys
 |_,_=>false
end
noncomputable def okD:Nat->Dat->Bool
 |_,.dct _ _=>false
 |_,.dcp _ _=>false
 |_,.exc _=>false
 |_,.dh _ _=>false
 |_,.fn _=>false
 |_,.str s=>s.all fun c=>decide (c<128)
 |0,.tup _=>false
 |0,.lst _=>false
 |n+1,.tup xs=>xs.all (okD n)
 |n+1,.lst xs=>xs.all (okD n)
 |_,_=>true
noncomputable abbrev vB(b:Bool):Option RV:=some (.val (.bl b))
noncomputable def lP(p:Dat->Bool):Dat->Option RV
 |.exc _=>none
 |.dh _ _=>none
 |.fn _=>none
 |d=>vB (p d)
noncomputable abbrev vI(i:Int):Option RV:=some (.val (.int i))
noncomputable def gEq(x y:Dat):Option RV:=if okD 8 x&&okD 8 y then vB (eqD x y) else none
noncomputable def gNe(x y:Dat):Option RV:=if okD 8 x&&okD 8 y then vB (!eqD x y) else none
noncomputable def gLt:Dat->Dat->Option RV
 |.int i,.int j=>vB (decide (i<j))
 |_,_=>none
noncomputable def gLe:Dat->Dat->Option RV
 |.int i,.int j=>vB (decide (i<=j))
 |_,_=>none
noncomputable def gGt:Dat->Dat->Option RV
 |.int i,.int j=>vB (decide (j<i))
 |_,_=>none
noncomputable def gGe:Dat->Dat->Option RV
 |.int i,.int j=>vB (decide (j<=i))
 |_,_=>none
noncomputable def B64:Int:=18446744073709551616
noncomputable def aV:Dat->Dat->Option RV
 |.int i,.int j=>vI (i+j)
 |.lst xs,.lst ys=>if xs.length+ys.length<=SZ then some (.new (.lst (xs++ys))) else none
 |_,_=>none
noncomputable def gp:Dat->Dat->Option RV
 |.int i,.int j=>vI (i-j)
 |_,_=>none
noncomputable def gE:Dat->Dat->Option RV
 |.int i,.int j=>if (-B64<i/\i<B64)\/(-B64<j/\j<B64) then vI (i*j) else none
 |.lst xs,.int k=>if k<=BIG/\-BIG<=k/\xs.length*k.toNat<=SZ then some (.new (.lst (Ds k.toNat xs).flatten)) else none
 |_,_=>none
noncomputable def iJ:Int:=1606938044258990275541962092341162602522202993782792835301376
noncomputable def v8:Dat->Dat->Option RV
 |.int i,.int j=>if 0<j/\j<iJ then vI (i / j) else none
 |_,_=>none
noncomputable def kG:Dat->Dat->Option RV
 |.int i,.int j=>if 0<j then vI (i % j) else none
 |_,_=>none
noncomputable def v9:Dat->Dat->Option RV
 |.int i,.int j=>if 0<=j/\j<=1000000/\i.natAbs<1000000 then vI (i ^ j.toNat) else none
 |_,_=>none
noncomputable def Be:Dat->Option RV
 |.int i=>vI (-i)
 |_=>none
noncomputable def atI(xs:List Dat)(i:Int):Option Dat:=(ixN xs.length i).bind fun j=>xs[j]?
noncomputable def gIx:Dat->Dat->Option RV
 |.lst xs,.int i=>(atI xs i).map .val
 |.tup xs,.int i=>(atI xs i).map .val
 |_,_=>none
noncomputable def inD(x:Dat)(xs:List Dat):Bool:=xs.any fun y=>eqD y x
noncomputable def gIn:Dat->Dat->Option RV
 |x,.lst xs=>if okD 8 x&&xs.all (okD 7) then vB (inD x xs) else none
 |x,.tup xs=>if okD 8 x&&xs.all (okD 7) then vB (inD x xs) else none
 |_,_=>none
noncomputable def bS:Dat->Dat->Option RV
 |x,.lst xs=>if okD 8 x&&xs.all (okD 7) then vB (!inD x xs) else none
 |x,.tup xs=>if okD 8 x&&xs.all (okD 7) then vB (!inD x xs) else none
 |_,_=>none
noncomputable def sIx(n d:Nat):Option Int->Nat
 |none=>d
 |some v=>(if v<0 then max (v+n) 0 else min v n).toNat
noncomputable def cut(xs:List Dat)(lo hi:Option Int):List Dat:=(xs.drop (sIx xs.length 0 lo)).take (sIx xs.length xs.length hi-sIx xs.length 0 lo)
noncomputable def cD:List Dat->Option RV
 |[.lst xs]=>vI xs.length
 |[.tup xs]=>vI xs.length
 |_=>none
noncomputable def pY:List Dat->Option RV
 |[.int i,.int j]=>vI (if j<i then j else i)
 |_=>none
noncomputable def pZ:List Dat->Option RV
 |[.int i,.int j]=>vI (if j>i then j else i)
 |_=>none
noncomputable def iP:List Dat->Option RV
 |[.lst xs]=>some (.new (.lst xs))
 |[.tup xs]=>some (.new (.lst xs))
 |_=>none
noncomputable def gF:List Dat->Option RV
 |[.lst xs]=>some (.val (.tup xs))
 |[.tup xs]=>some (.val (.tup xs))
 |_=>none
noncomputable def isI:Dat->Bool
 |.int _=>true
 |.bl _=>true
 |_=>false
noncomputable def isB:Dat->Bool
 |.bl _=>true
 |_=>false
noncomputable def isL:Dat->Bool
 |.lst _=>true
 |_=>false
noncomputable def isT:Dat->Bool
 |.tup _=>true
 |_=>false
noncomputable def bools:List Dat->Option (List Bool)
 |[]=>some []
 |.bl b::r=>(bools r).map fun bs=>b::bs
 |_=>none
noncomputable def rj:List Dat->Option RV
 | [.lst xs]=>(match bools xs with
  |some bs=>vB (bs.all id)
  |none=>none)
 |_=>none
noncomputable def gG(g h:Dat->Dat->Option RV)(a b c:FE):FE:=fun ρ=>match a ρ with
 |none=>none
 |some (x,ρ1)=>match b ρ1 with
  |none=>none
  |some (y,ρ2)=>match pk ρ2 x with
   |none=>none
   |some d=>match pk ρ2 y with
    |none=>none
    |some e=>match g d e with
     | some (.val (.bl true))=>(match c ρ2 with
      |none=>none
      |some (z,ρ3)=>match pk ρ3 y with
       |none=>none
       |some e'=>match pk ρ3 z with
        |none=>none
        |some f=>match h e' f with
         |none=>none
         |some v=>some (v.bC,ρ3))
     |some (.val (.bl false))=>some (.val (.bl false),ρ2)
     |_=>none
noncomputable def part:Option FE->Env->Option (Option Int×Env)
 |none,ρ=>some (none,ρ)
 |some f,ρ=>match f ρ with
  |some (.val (.int i),ρ1)=>some (some i,ρ1)
  |_=>none
noncomputable def eSl(a:FE)(lo hi:Option FE):FE:=fun ρ=>match a ρ with
 |none=>none
 |some (x,ρ1)=>match part lo ρ1 with
  |none=>none
  |some (l,ρ2)=>match part hi ρ2 with
   |none=>none
   |some (h,ρ3)=>match pk ρ3 x with
    |some (.lst xs)=>some (.new (.lst (cut xs l h)),ρ3)
    |_=>none
end Dm
open Dm(Dat FE RV FT FS)
namespace Br
open PySem L2
noncomputable def kP(p:Int×Int):List Key:=[P8 p.1,P8 p.2]
def bE(H:Hp):List Addr->List (Int×Int)->Prop
 |[],[]=>True
 |t::ts,p::ks=>H t=some (.tup [V.int p.1,V.int p.2])/\bE H ts ks
 |_,_=>False
theorem bE.mono{H H':Hp}(s:aj H H'):∀{ts:List Addr} {ks:List (Int×Int)},bE H ts ks->bE H' ts ks
 |[],[],_=>trivial
 |_::_,_::_,h=>⟨s _ _ h.1,bE.mono s h.2⟩
 |[],_::_,h=>h
 |_::_,[],h=>h
theorem bE.via{H H':Hp}(s:∀t vs,H t=some (.tup vs)->H' t=some (.tup vs)):∀{ts:List Addr} {ks:List (Int×Int)},bE H ts ks->bE H' ts ks
 |[],[],_=>trivial
 |_::_,_::_,h=>⟨s _ _ h.1,bE.via s h.2⟩
 |[],_::_,h=>h
 |_::_,[],h=>h
def zL(H:Hp)(x:List (List Key×V)×List Addr)(ks:List (Int×Int)):Prop:=x.1.map (·.1)=ks.map kP/\bE H x.2 ks
theorem zL.mono{H H':Hp}(s:aj H H'){x:List (List Key×V)×List Addr}{ks:List (Int×Int)}(h:zL H x ks):zL H' x ks:=⟨h.1,h.2.mono s⟩
mutual
inductive Rep(H:Hp):V->Dat->Prop
 |non:Rep H V.non Dat.non
 |bl (b:Bool):Rep H (V.bl b) (Dat.bl b)
 |int (i:Int):Rep H (V.int i) (Dat.int i)
 |str (s:List Nat):Rep H (V.str ⟨s.toArray⟩) (Dat.str s)
 |tup {a:Addr} {xs:List V} {ds:List Dat}:H a=some (.tup xs)->av H xs ds->Rep H (V.ref a) (Dat.tup ds)
 |lst {a:Addr} {xs:List V} {ds:List Dat}:Rd H a (.lst xs)->av H xs ds->Rep H (V.ref a) (Dat.lst ds)
 |dct {a:Addr} {kvs:List (Key×V)} {ks:List Int} {ds:List Dat}:H a=some (.dK kvs)->kvs.map (·.1)=ks.map P8->av H (kvs.map (·.2)) ds->Rep H (V.ref a) (Dat.dct ks ds)
 |dcp {a:Addr} {x:List (List Key×V)×List Addr} {ks:List (Int×Int)} {ds:List Dat}:H a=some (.dT x.1 x.2)->zL H x ks->av H (x.1.map (·.2)) ds->Rep H (V.ref a) (Dat.dcp ks ds)
 |exc {a:Addr} {C:Nat}:H a=some (.ext fun h=>∃o,h.get? a=some o/\o.cls=.ref C)->Rep H (V.ref a) (Dat.exc C)
 |dh {a d:Addr} {C:Nat} {v:Int}:H a=some (.ext fun h=>∃o,h.get? a=some o/\o.cls=.ref C/\o.dict=some d/\∀c,o.data≠.cls c)->H d=some (.xd [("moment",.int v)])->Rep H (V.ref a) (Dat.dh C v)
 |fn (a:Addr):Rep H (V.ref a) (Dat.fn a)
inductive av(H:Hp):List V->List Dat->Prop
 |nil:av H [] []
 |cons {v:V} {d:Dat} {vs:List V} {ds:List Dat}:Rep H v d->av H vs ds->av H (v::vs) (d::ds)
end
theorem aj.rd{H H':Hp}(s:aj H H'){a:Addr}{u:HO}(h:Rd H a u):Rd H' a u:=by
 rcases h with h | ⟨o,h⟩
 ·exact .inl (s _ _ h)
 ·exact .inr ⟨o,s _ _ h⟩
mutual
theorem Rep.mono{H H':Hp}(s:aj H H'):∀{v:V} {d:Dat},Rep H v d->Rep H' v d
 |_,_,.non=>.non
 |_,_,.bl b=>.bl b
 |_,_,.int i=>.int i
 |_,_,.str x=>.str x
 |_,_,.tup h r=>.tup (s _ _ h) (av.mono s r)
 |_,_,.lst h r=>.lst (aj.rd s h) (av.mono s r)
 |_,_,.dct h e r=>.dct (s _ _ h) e (av.mono s r)
 |_,_,.dcp h e r=>.dcp (s _ _ h) (e.mono s) (av.mono s r)
 |_,_,.exc h=>.exc (s _ _ h)
 |_,_,.dh h k=>.dh (s _ _ h) (s _ _ k)
 |_,_,.fn a=>.fn a
theorem av.mono{H H':Hp}(s:aj H H'):∀{vs:List V} {ds:List Dat},av H vs ds->av H' vs ds
 |_,_,.nil=>.nil
 |_,_,.cons h r=>.cons (Rep.mono s h) (av.mono s r)
end
section
variable{ρ:Dm.Env}{H0 H:Hp}{d:Dat}{σ:St}{a:Addr}{x:Dm.Val}{v:V}{X:Cx}{t t':TS}{p:Addr}{e:Expr}{o:HO}
theorem av.length{H:Hp}:∀{vs:List V} {ds:List Dat},av H vs ds->vs.length=ds.length
 |_,_,.nil=>rfl
 |_,_,.cons _ r=>by simp[av.length r]
theorem av.get{H:Hp}:∀{vs:List V} {ds:List Dat} {i:Nat} {d:Dat},av H vs ds->ds[i]?=some d->∃v,vs[i]?=some v/\Rep H v d
 |_,_,_,_,.nil,e=>by simp at e
 |_,_,0,_,.cons h _,e=>by simp at e;subst e;exact⟨_,rfl,h⟩
 |_,_,i+1,_,.cons _ r,e=>by obtain⟨v,h1,h2⟩:=av.get (i:=i) r (by simpa using e);exact⟨v,by simpa using h1,h2⟩
theorem av.append{H:Hp}:∀{vs ws:List V} {ds es:List Dat},av H vs ds->av H ws es->av H (vs++ws) (ds++es)
 |_,_,_,_,.nil,s=>s
 |_,_,_,_,.cons h r,s=>.cons h (av.append r s)
theorem av.take{H:Hp}:∀{vs:List V} {ds:List Dat} (n:Nat),av H vs ds->av H (vs.take n) (ds.take n)
 |_,_,0,_=>by simpa using av.nil
 |_,_,_+1,.nil=>by simpa using av.nil
 |_,_,n+1,.cons h r=>by simpa using av.cons h (av.take n r)
theorem av.drop{H:Hp}:∀{vs:List V} {ds:List Dat} (n:Nat),av H vs ds->av H (vs.drop n) (ds.drop n)
 |_,_,0,r=>by simpa using r
 |_,_,_+1,.nil=>by simpa using av.nil
 |_,_,n+1,.cons _ r=>by simpa using av.drop n r
theorem av.set{H:Hp}(h:Rep H v d):∀{vs:List V} {ds:List Dat} (i:Nat),av H vs ds->av H (vs.set i v) (ds.set i d)
 |_,_,_,.nil=>.nil
 |_,_,0,.cons _ r=>.cons h r
 |_,_,i+1,.cons q r=>.cons q (av.set h i r)
theorem av.rep{H:Hp}{vs:List V}{ds:List Dat}(r:av H vs ds):∀k:Nat,av H (Ds k vs).flatten (Ds k ds).flatten
 |0=>by simpa using av.nil
 |k+1=>by rw[QH,QH,Qo,Qo];exact av.append r (av.rep r k)
def Own(H0 H:Hp)(a:Addr):Dat->Prop
 |.lst ds=>∃xs,H a=some (.lst xs)/\av H0 xs ds
 |.dct ks ds=>∃kvs:List (Key×V),H a=some (.dK kvs)/\kvs.map (·.1)=ks.map P8/\av H0 (kvs.map (·.2)) ds
 |.dcp ks ds=>∃x:List (List Key×V)×List Addr,H a=some (.dT x.1 x.2)/\zL H0 x ks/\av H0 (x.1.map (·.2)) ds
 |_=>False
theorem Own.some(h:Own H0 H a d):∃o,H a=some o:=by
 cases d with
 |lst ds=>obtain⟨xs,e,_⟩:=h;exact⟨_,e⟩
 |dct ks ds=>obtain⟨xs,e,_⟩:=h;exact⟨_,e⟩
 |dcp ks ds=>obtain⟨xs,e,_⟩:=h;exact⟨_,e⟩
 |_=>exact Qd h
theorem Own.mono{H0 H H0' H':Hp}(h:Own H0 H a d)(s:aj H0 H0')(e:H' a=H a):Own H0' H' a d:=by
 cases d with
 |lst ds=>obtain⟨xs,q,r⟩:=h;exact⟨xs,by rw[e];exact q,r.mono s⟩
 |dct ks ds=>obtain⟨xs,q,k,r⟩:=h;exact⟨xs,by rw[e];exact q,k,r.mono s⟩
 |dcp ks ds=>obtain⟨xs,q,k,r⟩:=h;exact⟨xs,by rw[e];exact q,k.mono s,r.mono s⟩
 |_=>exact Qd h
def i6(H0 H:Hp)(v:V)(d:Dat):Prop:=Rep H0 v d\/∃a,v=V.ref a/\Own H0 H a d
inductive tM(H0 H:Hp):List V->List Dat->Prop
 |nil:tM H0 H [] []
 |cons {v:V} {d:Dat} {vs:List V} {ds:List Dat}:i6 H0 H v d->tM H0 H vs ds->tM H0 H (v::vs) (d::ds)
noncomputable def shr(H0 H:Hp)(a:Addr):Hp:=fun b=>if b=a then H a else H0 b
theorem cY:shr H0 H a a=H a:=by unfold shr;rw[if_pos rfl]
theorem i7{a b:Addr}(h:b≠a):shr H0 H a b=H0 b:=by unfold shr;rw[if_neg h]
theorem fE(h:H0 a=none):aj H0 (shr H0 H a):=fun b o e=>by
 by_cases q:b=a
 ·subst q;rw[h]at e;cases e
 ·rw[i7 q];exact e
theorem x_(s:aj H0 H):aj (shr H0 H a) H:=fun b o e=>by
 by_cases q:b=a
 ·subst q;rw[cY]at e;exact e
 ·rw[i7 q]at e;exact s _ _ e
theorem Own.rep(h:Own H0 H a d)(n:H0 a=none):Rep (shr H0 H a) (V.ref a) d:=by
 cases d with
 |lst ds=>obtain⟨xs,q,r⟩:=h;exact .lst (.inl (by rw[cY];exact q)) (r.mono (fE n))
 |dct ks ds=>obtain⟨xs,q,k,r⟩:=h;exact .dct (by rw[cY];exact q) k (r.mono (fE n))
 |dcp ks ds=>obtain⟨xs,q,k,r⟩:=h;exact .dcp (by rw[cY];exact q) (k.mono (fE n)) (r.mono (fE n))
 |_=>exact Qd h
def af(σ:St)(ρ:Dm.Env)(a:Addr):Prop:=∃(i:Nat) (d:Dat),ρ[i]?=some (Dm.Cell.ow d)/\σ[i]?=some (some (V.ref a))
noncomputable abbrev Def(_:Dm.Env)(_:Nat):Prop:=True
structure ay(H0 H:Hp)(σ:St)(ρ:Dm.Env):Prop where
 same:aj H0 H
 len:σ.length=ρ.length
 sh:∀(i:Nat) (d:Dat),ρ[i]?=some (Dm.Cell.sh d)->∃v,σ[i]?=some (some v)/\Rep H0 v d
 ow:∀(i:Nat) (d:Dat),ρ[i]?=some (Dm.Cell.ow d)->∃a,σ[i]?=some (some (V.ref a))/\H0 a=none/\Own H0 H a d
 dis:∀(i j:Nat) (d e:Dat) (a:Addr),ρ[i]?=some (Dm.Cell.ow d)->ρ[j]?=some (Dm.Cell.ow e)->σ[i]?=some (some (V.ref a))->σ[j]?=some (some (V.ref a))->i=j
structure Stp(O:Addr->Prop)(H0 H H0' H':Hp):Prop where
 s0:aj H0 H0'
 s1:∀a o,H a=some o->¬O a->H' a=some o
 s2:∀a o,H0' a=some o->H a=none\/H0 a=some o\/O a
 s3:∀a o,H a=some o->∃o',H' a=some o'
theorem Stp.refl(O:Addr->Prop)(H0 H:Hp):Stp O H0 H H0 H:=⟨aj.refl _,fun _ _ e _=>e,fun _ _ e=>.inr (.inl e),fun _ o e=>⟨o,e⟩⟩
theorem Stp.gone{O:Addr->Prop}{H0 H H0' H':Hp}(t:Stp O H0 H H0' H')(h:H' a=none):H a=none:=by
 cases q:H a with
 |none=>rfl
 |some o=>obtain⟨o',e⟩:=t.s3 a o q;rw[h]at e;cases e
theorem Stp.trans{O1 O2:Addr->Prop}{H0 H H1 H' H2 H'':Hp}(t:Stp O1 H0 H H1 H')(u:Stp O2 H1 H' H2 H'')(k:∀a,O2 a->O1 a\/H a=none):Stp O1 H0 H H2 H'' where
 s0:=t.s0.trans u.s0
 s1:=fun a o e n=>u.s1 a o (t.s1 a o e n) fun z=>(k a z).elim n fun q=>by rw[q]at e;cases e
 s2:=fun a o e=>by
  rcases u.s2 a o e with q | q | q
  ·exact .inl (t.gone q)
  ·exact t.s2 a o q
  ·rcases k a q with z | z
   ·exact .inr (.inr z)
   ·exact .inl z
 s3:=fun a o e=>by obtain⟨o',e'⟩:=t.s3 a o e;exact u.s3 a o' e'
theorem Stp.wide{O O':Addr->Prop}{H0 H H0' H':Hp}(t:Stp O H0 H H0' H')(k:∀a,O a->O' a):Stp O' H0 H H0' H':=
 ⟨t.s0,fun a o e n=>t.s1 a o e fun z=>n (k a z),fun a o e=>(t.s2 a o e).imp id (Or.imp id (k a)),t.s3⟩
structure aG(H0 H H0' H':Hp):Prop where
 s0:aj H0 H0'
 s1:aj H H'
 s2:∀a o,H0' a=some o->H a=none\/H0 a=some o
 s3:aj H0' H'
theorem aG.refl(s:aj H0 H):aG H0 H H0 H:=⟨aj.refl _,aj.refl _,fun _ _ e=>.inr e,s⟩
theorem aG.stp{H0 H H0' H':Hp}(g:aG H0 H H0' H')(O:Addr->Prop):Stp O H0 H H0' H':=
 ⟨g.s0,fun a o e _=>g.s1 a o e,fun a o e=>(g.s2 a o e).imp id .inl,fun a o e=>⟨o,g.s1 a o e⟩⟩
theorem aG.trans{H0 H H1 H' H2 H'':Hp}(t:aG H0 H H1 H')(u:aG H1 H' H2 H''):aG H0 H H2 H'' where
 s0:=t.s0.trans u.s0
 s1:=t.s1.trans u.s1
 s2:=fun a o e=>by
  rcases u.s2 a o e with q | q
  ·exact .inl (t.s1.free q)
  ·exact t.s2 a o q
 s3:=u.s3
theorem aG.EC(s:aj H0 H)(n:H p=none):aG H0 H (upd H0 p o) (upd H p o) where
 s0:=fun b u e=>by rw[ao (aH e (s.free n))];exact e
 s1:=fun b u e=>by rw[ao (aH e n)];exact e
 s2:=fun b u e=>by
  by_cases q:b=p
  ·subst q;exact .inl n
  ·rw[ao q]at e;exact .inr e
 s3:=fun b u e=>by
  by_cases q:b=p
  ·subst q;rw[aq]at e ⊢;exact e
  ·rw[ao q]at e ⊢;exact s _ _ e
theorem aG.iK(s:aj H0 H)(n:H p=none):aG H0 H H0 (upd H p o) where
 s0:=aj.refl _
 s1:=fun b u e=>by rw[ao (aH e n)];exact e
 s2:=fun b u e=>.inr e
 s3:=fun b u e=>by rw[ao (aH (s _ _ e) n)];exact s _ _ e
def gH(Hs H0 H:Hp)(σ:St)(ρ:Dm.Env)(v:V):Dm.Val->Prop
 |.val d=>Rep H0 v d
 |.slot i=>σ[i]?=some (some v)/\Def ρ i
 |.new d=>∃a,v=V.ref a/\Hs a=none/\¬af σ ρ a/\H0 a=none/\Own H0 H a d
structure ESt(σ:St)(ρ:Dm.Env)(H0 H:Hp)(ρ':Dm.Env)(H0' H':Hp):Prop where
 st:ay H0' H' σ ρ'
 stp:Stp (af σ ρ) H0 H H0' H'
 own:∀a,af σ ρ' a->af σ ρ a
 dfn:∀i,Def ρ i->Def ρ' i
theorem ESt.refl(st:ay H0 H σ ρ):ESt σ ρ H0 H ρ H0 H:=⟨st,Stp.refl _ _ _,fun _ z=>z,fun _ z=>z⟩
theorem ESt.trans{ρ ρ1 ρ2:Dm.Env}{H0 H H1 H' H2 H'':Hp}(t:ESt σ ρ H0 H ρ1 H1 H')(u:ESt σ ρ1 H1 H' ρ2 H2 H''):ESt σ ρ H0 H ρ2 H2 H'':=
 ⟨u.st,t.stp.trans u.stp fun a z=>.inl (t.own a z),fun a z=>t.own a (u.own a z),fun i z=>u.dfn i (t.dfn i z)⟩
theorem ay.grow{H0 H H0' H':Hp}(st:ay H0 H σ ρ)(g:aG H0 H H0' H'):ay H0' H' σ ρ where
 same:=g.s3
 len:=st.len
 sh:=fun i d e=>by obtain⟨v,q,r⟩:=st.sh i d e;exact⟨v,q,r.mono g.s0⟩
 ow:=fun i d e=>by
  obtain⟨a,q,n,w⟩:=st.ow i d e;obtain⟨o,z⟩:=w.some;refine⟨a,q,?_,w.mono g.s0 ((g.s1 a o z).trans z.symm)⟩;cases y:H0' a with
  |none=>rfl
  |some u=>
   rcases g.s2 a u y with k | k
   ·rw[z]at k;cases k
   ·rw[n]at k;cases k
 dis:=st.dis
theorem ESt.grow{H0 H H0' H':Hp}(st:ay H0 H σ ρ)(g:aG H0 H H0' H'):ESt σ ρ H0 H ρ H0' H':=
 ⟨st.grow g,g.stp _,fun _ z=>z,fun _ z=>z⟩
theorem gH.mono{Hs H0 H H0' H':Hp}{ρ ρ':Dm.Env}(r:gH Hs H0 H σ ρ v x)(t:ESt σ ρ H0 H ρ' H0' H'):gH Hs H0' H' σ ρ' v x:=by
 cases x with
 |val d=>exact Rep.mono t.stp.s0 r
 |slot i=>exact⟨r.1,t.dfn i r.2⟩
 |new d=>
  obtain⟨a,e,n,no,n0,w⟩:=r;obtain⟨o,z⟩:=w.some;refine⟨a,e,n,fun y=>no (t.own a y),?_,w.mono t.stp.s0 ((t.stp.s1 a o z no).trans z.symm)⟩;cases y:H0' a with
  |none=>rfl
  |some u=>
   rcases t.stp.s2 a u y with k | k | k
   ·rw[z]at k;cases k
   ·rw[n0]at k;cases k
   ·exact absurd k no
theorem gH.early{Hs Hs' H0 H:Hp}(r:gH Hs H0 H σ ρ v x)(k:∀a,Hs a=none->Hs' a=none):gH Hs' H0 H σ ρ v x:=by
 cases x with
 |val d=>exact r
 |slot i=>exact r
 |new d=>obtain⟨a,e,n,z⟩:=r;exact⟨a,e,k a n,z⟩
theorem gH.look{Hs H0 H:Hp}(r:gH Hs H0 H σ ρ v x)(st:ay H0 H σ ρ)(e:Dm.pk ρ x=some d):i6 H0 H v d:=by
 cases x with
 |val d'=>cases e;exact .inl r
 |new d'=>cases e;obtain⟨a,e,_,_,_,w⟩:=r;exact .inr ⟨a,e,w⟩
 |slot i=>
  obtain⟨q,_⟩:=r;unfold Dm.pk at e;dsimp only at e;split at e
  ·rename_i d' h;cases e;obtain⟨a,z,_,w⟩:=st.ow i d h;rw[q]at z;cases z;exact .inr ⟨a,rfl,w⟩
  ·rename_i d' h;cases e;obtain⟨u,z,w⟩:=st.sh i d h;rw[q]at z;cases z;exact .inl w
  ·cases e
def pC(Hs H0 H:Hp)(v:V):RV->Prop
 |.val d=>Rep H0 v d
 |.new d=>∃a,v=V.ref a/\Hs a=none/\H0 a=none/\Own H0 H a d
theorem pC.toV{H H0' H' H0:Hp}{z:RV}(r:pC H H0' H' v z)(st:ay H0 H σ ρ):gH H H0' H' σ ρ v z.bC:=by
 cases z with
 |val d=>exact r
 |new d=>obtain⟨a,e,n,n0,w⟩:=r;refine⟨a,e,n,fun⟨i,d',h1,h2⟩=>?_,n0,w⟩;obtain⟨a',q,_,w'⟩:=st.ow i d' h1;rw[h2]at q;cases q;obtain⟨o,z⟩:=w'.some;rw[n]at z;cases z
def tD(f:FE):TE:=fun σ H Q=>∃H0 ρ x ρ',ay H0 H σ ρ/\f ρ=some (x,ρ')/\∀v H0' H',ESt σ ρ H0 H ρ' H0' H'->gH H H0' H' σ ρ' v x->Q v H'
def tDT(f:FT):TT:=fun σ H Q=>∃H0 ρ b ρ',ay H0 H σ ρ/\f ρ=some (b,ρ')/\∀H0' H',ESt σ ρ H0 H ρ' H0' H'->Q b H'
inductive cM(Hs H0 H:Hp)(σ:St)(ρ:Dm.Env):List V->List Dm.Val->Prop
 |nil:cM Hs H0 H σ ρ [] []
 |cons {v:V} {x:Dm.Val} {vs:List V} {xs:List Dm.Val}:gH Hs H0 H σ ρ v x->cM Hs H0 H σ ρ vs xs->cM Hs H0 H σ ρ (v::vs) (x::xs)
def tDA(fs:List FE):TA:=fun σ H Q=>∃H0 ρ xs ρ',ay H0 H σ ρ/\Dm.eAs fs ρ=some (xs,ρ')/\∀vs H0' H',ESt σ ρ H0 H ρ' H0' H'->cM H H0' H' σ ρ' vs xs->Q vs H'
noncomputable abbrev DE(X:Cx)(e:Expr)(f:FE):Prop:=PE X e (tD f)
noncomputable abbrev DT(X:Cx)(e:Expr)(f:FT):Prop:=PT X e (tDT f)
noncomputable abbrev DA(X:Cx)(es:List Expr)(fs:List FE):Prop:=PA X es (tDA fs)
theorem PE.weak{t t':TE}(h:PE X e t)(k:∀σ H Q,t' σ H Q->t σ H Q):PE X e t':=fun nC s σ H Q I q=>h nC s σ H Q I (k σ H Q q)
theorem PT.weak{t t':TT}(h:PT X e t)(k:∀σ H Q,t' σ H Q->t σ H Q):PT X e t':=fun nC s σ H Q I q=>h nC s σ H Q I (k σ H Q q)
theorem PA.weak{es:List Expr}{t t':TA}(h:PA X es t)(k:∀σ H Q,t' σ H Q->t σ H Q):PA X es t':=fun pos nC s σ H Q I q=>h pos nC s σ H Q I (k σ H Q q)
theorem PS.weak{st:Stmt}(h:PS X st t)(k:∀D σ H,t' D σ H->t D σ H):PS X st t':=fun nC s σ H D I q=>h nC s σ H D I (k D σ H q)
theorem PSs.weak{st:List Stmt}(h:PSs X st t)(k:∀D σ H,t' D σ H->t D σ H):PSs X st t':=fun nC s σ H D I q=>h nC s σ H D I (k D σ H q)
theorem cz(s:aj H0 H):aj H0 (shr H0 H a):=fun b o e=>by
 by_cases q:b=a
 ·subst q;rw[cY];exact s _ _ e
 ·rw[i7 q];exact e
theorem Own.LK{H0 H0c H:Hp}(h:Own H0 H a d)(b:aj H0 H0c)(s:aj H0c H):Rep (shr H0c H a) (V.ref a) d:=by
 cases d with
 |lst ds=>obtain⟨xs,q,r⟩:=h;exact .lst (.inl (by rw[cY];exact q)) (r.mono (b.trans (cz s)))
 |dct ks ds=>obtain⟨xs,q,k,r⟩:=h;exact .dct (by rw[cY];exact q) k (r.mono (b.trans (cz s)))
 |dcp ks ds=>obtain⟨xs,q,k,r⟩:=h;exact .dcp (by rw[cY];exact q) (k.mono (b.trans (cz s))) (r.mono (b.trans (cz s)))
 |_=>exact Qd h
theorem gH.rho{Hs H0 H:Hp}{ρ ρ':Dm.Env}(r:gH Hs H0 H σ ρ v x)(o:∀a,af σ ρ' a->af σ ρ a)(d:∀i,Def ρ i->Def ρ' i):gH Hs H0 H σ ρ' v x:=by
 cases x with
 |val d=>exact r
 |slot i=>exact⟨r.1,d i r.2⟩
 |new d=>obtain⟨a,e,n,no,z⟩:=r;exact⟨a,e,n,fun y=>no (o a y),z⟩
theorem cM.rho{Hs H0 H:Hp}{ρ ρ':Dm.Env}(o:∀a,af σ ρ' a->af σ ρ a)(d:∀i,Def ρ i->Def ρ' i):∀{vs:List V} {xs:List Dm.Val},cM Hs H0 H σ ρ vs xs->cM Hs H0 H σ ρ' vs xs
 |_,_,.nil=>.nil
 |_,_,.cons h r=>.cons (h.rho o d) (cM.rho o d r)
theorem cM.early{Hs Hs' H0 H:Hp}(k:∀a,Hs a=none->Hs' a=none):∀{vs:List V} {xs:List Dm.Val},cM Hs H0 H σ ρ vs xs->cM Hs' H0 H σ ρ vs xs
 |_,_,.nil=>.nil
 |_,_,.cons h r=>.cons (h.early k) (cM.early k r)
theorem aE{i j:Nat}{c d:Dm.Cell}(h:(ρ.set i c)[j]?=some d):(j=i/\d=c)\/(j≠i/\ρ[j]?=some d):=by
 by_cases e:j=i
 ·subst e;by_cases l:j<ρ.length
  ·rw[PB l]at h;exact .inl ⟨rfl,(Option.some.inj h).symm⟩
  ·rw[PZ (by simpa using QN.mp l)]at h;cases h
 ·rw[gc (P4 e)]at h;exact .inr ⟨e,h⟩
theorem v_{i:Nat}(st:ay H0 H σ ρ)(e:ρ[i]?=some (.ow d))(q:σ[i]?=some (some (V.ref a))) :
  ay (shr H0 H a) H σ (ρ.set i (.sh d))/\(∀b,af σ (ρ.set i (.sh d)) b->af σ ρ b)/\∀j,Def ρ j->Def (ρ.set i (.sh d)) j:=by
 obtain⟨a',q',n,w⟩:=st.ow i d e;rw[q]at q';cases q';have hil:i<ρ.length:=(Pa.mp e).1;refine⟨⟨x_ st.same,by rw[PR];exact st.len,fun j d' h=>?_,fun j d' h=>?_,fun j k d1 d2 b h1 h2 h3 h4=>?_⟩,fun b ⟨j,d',h1,h2⟩=>?_,fun j h=>?_⟩
 ·rcases aE h with⟨rfl,z⟩ | ⟨_,h⟩
  ·cases z;exact⟨_,q,w.rep n⟩
  ·obtain⟨v,z,r⟩:=st.sh j d' h;exact⟨v,z,r.mono (fE n)⟩
 ·rcases aE h with⟨_,z⟩ | ⟨hj,h⟩
  ·cases z
  ·obtain⟨b,z,n',w'⟩:=st.ow j d' h;have nb:b≠a:=fun y=>hj (st.dis j i d' d a h e (y▸z) q);exact⟨b,z,by rw[i7 nb];exact n',w'.mono (fE n) rfl⟩
 ·rcases aE h1 with⟨_,z⟩ | ⟨_,h1⟩
  ·cases z
  ·rcases aE h2 with⟨_,z⟩ | ⟨_,h2⟩
   ·cases z
   ·exact st.dis j k d1 d2 b h1 h2 h3 h4
 ·rcases aE h1 with⟨_,z⟩ | ⟨_,h1⟩
  ·cases z
  ·exact⟨j,d',h1,h2⟩
 ·trivial
theorem zM(st:ay H0 H σ ρ)(no:¬af σ ρ a):ay (shr H0 H a) H σ ρ where
 same:=x_ st.same
 len:=st.len
 sh:=fun j d h=>by obtain⟨v,z,r⟩:=st.sh j d h;exact⟨v,z,r.mono (cz st.same)⟩
 ow:=fun j d h=>by obtain⟨b,z,n',w'⟩:=st.ow j d h;have nb:b≠a:=fun y=>no ⟨j,d,h,y▸z⟩;exact⟨b,z,by rw[i7 nb];exact n',w'.mono (cz st.same) rfl⟩
 dis:=st.dis
theorem take1{Hs H0s H0 H0c H:Hp}{ρs ρ ρ':Dm.Env}(t:ESt σ ρs H0s Hs ρ H0c H)(b:aj H0 H0c)(r:gH Hs H0 H σ ρ v x)(e:Dm.tk ρ x=some (d,ρ')) :
  ∃fS,ESt σ ρs H0s Hs ρ' fS H/\aj H0c fS/\Rep fS v d/\(∀a,af σ ρ' a->af σ ρ a)/\∀i,Def ρ i->Def ρ' i:=by
 cases x with
 |val d'=>cases e;exact⟨H0c,t,aj.refl _,Rep.mono b r,fun _ z=>z,fun _ z=>z⟩
 |new d'=>
  cases e;obtain⟨a,e,n,no,n0,w⟩:=r;subst e;have ss:=cz (a:=a) t.st.same;refine⟨shr H0c H a,⟨zM t.st no,⟨t.stp.s0.trans ss,t.stp.s1,fun c o q=>?_,t.stp.s3⟩,t.own,t.dfn⟩,ss,w.LK b t.st.same,fun _ z=>z,fun _ z=>z⟩;by_cases y:c=a
  ·subst y;exact .inl n
  ·rw[i7 y]at q;exact t.stp.s2 c o q
 |slot i=>
  obtain⟨q,_⟩:=r;unfold Dm.tk at e;dsimp only at e;split at e
  ·rename_i d' h;cases e;obtain⟨a,z,n,w⟩:=t.st.ow i _ h;rw[q]at z;cases z;obtain⟨s1,s2,s3⟩:=v_ t.st h q;have ss:=cz (a:=a) t.st.same;refine⟨shr H0c H a,⟨s1,⟨t.stp.s0.trans ss,t.stp.s1,fun c o q'=>?_,t.stp.s3⟩,fun b z=>t.own b (s2 b z),fun j z=>s3 j (t.dfn j z)⟩,ss,w.LK (aj.refl _) t.st.same,s2,s3⟩;by_cases y:c=a
   ·subst y;exact .inr (.inr (t.own c ⟨i,_,h,q⟩))
   ·rw[i7 y]at q';exact t.stp.s2 c o q'
  ·rename_i d' h;cases e;obtain⟨u,z,w⟩:=t.st.sh i _ h;rw[q]at z;cases z;exact⟨H0c,t,aj.refl _,w,fun _ z=>z,fun _ z=>z⟩
  ·cases e
theorem takes{Hs H0s H0 H:Hp}{ρs:Dm.Env}:∀{xs:List Dm.Val} {vs:List V} {ρ ρ':Dm.Env} {ds:List Dat} {H0c:Hp},ESt σ ρs H0s Hs ρ H0c H->aj H0 H0c->cM Hs H0 H σ ρ vs xs->Dm.tks ρ xs=some (ds,ρ') ->
  ∃fS,ESt σ ρs H0s Hs ρ' fS H/\aj H0c fS/\av fS vs ds
 |[],_,ρ,ρ',ds,H0c,t,b,r,e=>by cases r;cases e;exact⟨H0c,t,aj.refl _,.nil⟩
 |x::xs,_,ρ,ρ',ds,H0c,t,b,r,e=>by
  cases r with
  |cons h r=>
   unfold Dm.tks at e;split at e
   ·cases e
   ·rename_i d ρ1 e1;split at e
    ·cases e
    ·rename_i ds' ρ2 e2;cases e;obtain⟨H1,t1,b1,r1,o1,d1⟩:=take1 t b h e1;obtain⟨H2,t2,b2,r2⟩:=takes t1 (b.trans b1) (r.rho o1 d1) e2;exact⟨H2,t2,b1.trans b2,.cons (r1.mono b2) r2⟩
theorem LL{ρ ρ':Dm.Env}(e:Dm.tk ρ x=some (d,ρ'))(y:Dm.Val):Dm.pk ρ' y=Dm.pk ρ y:=by
 cases x with
 |val d'=>cases e;rfl
 |new d'=>cases e;rfl
 |slot i=>
  unfold Dm.tk at e;dsimp only at e;split at e
  ·rename_i d' h;cases e;cases y with
   |val _=>rfl
   |new _=>rfl
   |slot j=>
    unfold Dm.pk;dsimp only;by_cases z:j=i
    ·subst z;rw[PB (Pa.mp h).1,h]
    ·rw[gc (P4 z)]
  ·cases e;rfl
  ·cases e
theorem Bf(e:Dm.pk ρ x=some d):∃ρ',Dm.tk ρ x=some (d,ρ'):=by
 cases x with
 |val d'=>cases e;exact⟨ρ,rfl⟩
 |new d'=>cases e;exact⟨ρ,rfl⟩
 |slot i=>
  unfold Dm.pk at e;dsimp only at e;unfold Dm.tk;dsimp only;split at e
  ·rename_i d' h;cases e;exact⟨_,rfl⟩
  ·rename_i d' h;cases e;exact⟨_,rfl⟩
  ·cases e
theorem mP:∀{xs:List Dm.Val} {ρ:Dm.Env} {ds:List Dat},Dm.pks ρ xs=some ds->∃ρ',Dm.tks ρ xs=some (ds,ρ')
 |[],ρ,ds,e=>by cases e;exact⟨ρ,rfl⟩
 |x::xs,ρ,ds,e=>by
  unfold Dm.pks at e;split at e
  ·cases e
  ·rename_i d e1;split at e
   ·cases e
   ·rename_i ds' e2;cases e;obtain⟨ρ1,h1⟩:=Bf e1;have key:∀ys:List Dm.Val,Dm.pks ρ1 ys=Dm.pks ρ ys:=fun ys=>by
     induction ys with
     |nil=>rfl
     |cons y ys ih=>unfold Dm.pks;rw[LL h1 y,ih]
    obtain⟨ρ2,h2⟩:=mP (xs:=xs) (ρ:=ρ1) (ds:=ds') (by rw[key];exact e2);exact⟨ρ2,by unfold Dm.tks;rw[h1];dsimp only;rw[h2]⟩
theorem looks{Hs H0 H:Hp}(st:ay H0 H σ ρ):∀{xs:List Dm.Val} {vs:List V} {ds:List Dat},cM Hs H0 H σ ρ vs xs->Dm.pks ρ xs=some ds->tM H0 H vs ds
 |[],_,ds,r,e=>by cases r;cases e;exact .nil
 |x::xs,_,ds,r,e=>by
  cases r with
  |cons h r=>
   unfold Dm.pks at e;split at e
   ·cases e
   ·rename_i d e1;split at e
    ·cases e
    ·rename_i ds' e2;cases e;exact .cons (h.look st e1) (looks st r e2)
def OpD(r:R2)(g:Dat->Dat->Option RV):Prop:=∀(H0 H:Hp) (x y:V) (dx dy:Dat) (z:RV) (Q:VK),aj H0 H->i6 H0 H x dx->i6 H0 H y dy->g dx dy=some z ->
 (∀v H0' H',aG H0 H H0' H'->pC H H0' H' v z->Q v H')->r x y H Q
def UnD(r:V->Hp->VK->Prop)(g:Dat->Option RV):Prop:=∀(H0 H:Hp) (x:V) (dx:Dat) (z:RV) (Q:VK),aj H0 H->i6 H0 H x dx->g dx=some z ->
 (∀v H0' H',aG H0 H H0' H'->pC H H0' H' v z->Q v H')->r x H Q
def CallD(r:List V->Hp->VK->Prop)(g:List Dat->Option RV):Prop:=∀(H0 H:Hp) (vs:List V) (ds:List Dat) (z:RV) (Q:VK),aj H0 H->tM H0 H vs ds->g ds=some z ->
 (∀v H0' H',aG H0 H H0' H'->pC H H0' H' v z->Q v H')->r vs H Q
def spD(f:List Dat->Option RV):Sp:=fun vs H Q _=>∃H0 ds z,aj H0 H/\av H0 vs ds/\f ds=some z/\∀v H0' H',aG H0 H H0' H'->pC H H0' H' v z->Q v H'
end
section
variable{σ:St}{H:Hp}{Q:VK}
section
variable{fs:List FE}{d:Dat}{t u:FT}{v:V}{a:FE}{H0:Hp}
theorem LM{i:Nat}(h:tD (Dm.eV i) σ H Q):gm i σ H Q:=by
 obtain⟨H0,ρ,x,ρ',st,e,k⟩:=h;unfold Dm.eV at e;split at e
 ·rename_i d h1;cases e;obtain⟨v,q,r⟩:=st.sh i d h1;exact⟨v,q,k v H0 H (.refl st) r⟩
 ·rename_i d h1;cases e;obtain⟨a,q,_⟩:=st.ow i d h1;exact⟨_,q,k _ H0 H (.refl st) ⟨q,trivial⟩⟩
 ·cases e
theorem rm(c:∀H0:Hp,Rep H0 v d)(h:tD (Dm.eC d) σ H Q):tC v σ H Q:=by obtain⟨H0,ρ,x,ρ',st,e,k⟩:=h;cases e;exact k v H0 H (.refl st) (c H0)
theorem rz{r:R2}{g:Dat->Dat->Option RV}{fa fb:FE}(o:OpD r g)(h:tD (Dm.e2 g fa fb) σ H Q):tOp r (tD fa) (tD fb) σ H Q:=by
 obtain⟨H0,ρ,x,ρ',st,e,k⟩:=h;unfold Dm.e2 at e;split at e
 ·cases e
 rename_i x1 ρ1 e1;split at e
 ·cases e
 rename_i y1 ρ2 e2;split at e
 ·cases e
 rename_i dx p1;split at e
 ·cases e
 rename_i dy p2;split at e
 ·cases e
 rename_i z gz;cases e;refine⟨H0,ρ,x1,ρ1,st,e1,fun v H1 Hb t1 r1=>⟨H1,ρ1,y1,_,t1.st,e2,fun u H2 Hc t2 r2=>?_⟩⟩;refine o H2 Hc v u dx dy z Q t2.st.same ((r1.mono t2).look t2.st p1) (r2.look t2.st p2) gz fun w H3 Hd g3 r3=>?_;exact k w H3 Hd (t1.trans (t2.trans (.grow t2.st g3))) ((r3.toV t2.st).early fun a n=>(t1.trans t2).stp.gone n)
theorem NY{r:V->Hp->VK->Prop}{g:Dat->Option RV}{fa:FE}(o:UnD r g)(h:tD (Dm.e1 g fa) σ H Q):tUn r (tD fa) σ H Q:=by
 obtain⟨H0,ρ,x,ρ',st,e,k⟩:=h;unfold Dm.e1 at e;split at e
 ·cases e
 rename_i x1 ρ1 e1;split at e
 ·cases e
 rename_i dx p1;split at e
 ·cases e
 rename_i z gz;cases e;refine⟨H0,ρ,x1,_,st,e1,fun v H1 Hb t1 r1=>?_⟩;refine o H1 Hb v dx z Q t1.st.same (r1.look t1.st p1) gz fun w H3 Hd g3 r3=>?_;exact k w H3 Hd (t1.trans (.grow t1.st g3)) ((r3.toV t1.st).early fun a n=>t1.stp.gone n)
theorem LN{Q:List V->Hp->Prop}(h:tDA [] σ H Q):kB σ H Q:=by obtain⟨H0,ρ,xs,ρ',st,e,k⟩:=h;cases e;exact k [] H0 H (.refl st) .nil
theorem Jr{f:FE}{Q:List V->Hp->Prop}(h:tDA (f::fs) σ H Q):dW (tD f) (tDA fs) σ H Q:=by
 obtain⟨H0,ρ,xs,ρ',st,e,k⟩:=h;unfold Dm.eAs at e;split at e
 ·cases e
 rename_i x1 ρ1 e1;split at e
 ·cases e
 rename_i xs1 ρ2 e2;cases e;refine⟨H0,ρ,x1,ρ1,st,e1,fun v H1 Hb t1 r1=>⟨H1,ρ1,xs1,_,t1.st,e2,fun vs H2 Hc t2 r2=>?_⟩⟩;exact k (v::vs) H2 Hc (t1.trans t2) (.cons (r1.mono t2) (r2.early fun a n=>t1.stp.gone n))
theorem LO{r:List V->Hp->VK->Prop}{g:List Dat->Option RV}(o:CallD r g)(h:tD (Dm.eB g fs) σ H Q):tCB r (tDA fs) σ H Q:=by
 obtain⟨H0,ρ,x,ρ',st,e,k⟩:=h;unfold Dm.eB at e;split at e
 ·cases e
 rename_i xs ρ1 e1;split at e
 ·cases e
 rename_i ds p1;split at e
 ·cases e
 rename_i z gz;cases e;refine⟨H0,ρ,xs,_,st,e1,fun vs H1 Hb t1 r1=>?_⟩;refine o H1 Hb vs ds z Q t1.st.same (looks t1.st r1 p1) gz fun w H3 Hd g3 r3=>?_;exact k w H3 Hd (t1.trans (.grow t1.st g3)) ((r3.toV t1.st).early fun a n=>t1.stp.gone n)
theorem jS{n:Nat}(h:n<=Dm.SZ):n<=sizeLine:=P0 h (by decide)
theorem LP(h:tD (Dm.eE fs) σ H Q):zA (tDA fs) σ H Q:=by
 obtain⟨H0,ρ,x,ρ',st,e,k⟩:=h;unfold Dm.eE at e;split at e
 ·cases e
 rename_i xs ρ1 e1;split at e
 ·cases e
 rename_i ds ρ2 e2;split at e
 ·rename_i hz;cases e;refine⟨H0,ρ,xs,ρ1,st,e1,fun vs H1 Hb t1 r1=>?_⟩;obtain⟨H2,t2,b2,r2⟩:=takes t1 (aj.refl _) r1 e2;refine⟨by rw[r2.length];exact jS hz,fun p hp=>?_⟩;have g:=aG.EC (o:=HO.tup vs) t2.st.same hp;exact k _ _ _ (t2.trans (.grow t2.st g)) (.tup aq (r2.mono g.s0))
 ·cases e
theorem LQ(h:tD (Dm.cL fs) σ H Q):AR (tDA fs) σ H Q:=by
 obtain⟨H0,ρ,x,ρ',st,e,k⟩:=h;unfold Dm.cL at e;split at e
 ·cases e
 rename_i xs ρ1 e1;split at e
 ·cases e
 rename_i ds ρ2 e2;split at e
 ·rename_i hz;cases e;refine⟨H0,ρ,xs,ρ1,st,e1,fun vs H1 Hb t1 r1=>?_⟩;obtain⟨H2,t2,b2,r2⟩:=takes t1 (aj.refl _) r1 e2;refine⟨by rw[r2.length];exact jS hz,fun p hp=>?_⟩;have g:=aG.iK (o:=HO.lst vs) t2.st.same hp;refine k _ _ _ (t2.trans (.grow t2.st g)) ⟨p,rfl,t2.stp.gone hp,fun⟨i,d,h1,h2⟩=>?_,t2.st.same.free hp,vs,aq,r2⟩;obtain⟨a,q,_,w⟩:=t2.st.ow i d h1;rw[h2]at q;cases q;obtain⟨o,z⟩:=w.some;rw[hp]at z;cases z
 ·cases e
theorem Rep.plain{H0 H1:Hp}(r:Rep H0 v d)(n:Dm.dY d=false):Rep H1 v d:=by
 cases r with
 |non=>exact .non
 |bl b=>exact .bl b
 |int i=>exact .int i
 |str s=>exact .str s
 |tup _ _=>cases n
 |lst _ _=>cases n
 |dct _ _ _=>cases n
 |dcp _ _ _=>cases n
 |exc _=>cases n
 |dh _ _=>cases n
 |fn a=>exact .fn a
theorem Own.box{H0 H:Hp}{a:Addr}(w:Own H0 H a d):Dm.dY d=true:=by
 cases d with
 |lst ds=>rfl
 |dct ks ds=>rfl
 |dcp ks ds=>rfl
 |_=>exact Qd w
theorem Js{f:List Dat->Option RV}{E:XK}(h:tD (Dm.eF f fs) σ H Q):k_ (spD f) [] E (tDA fs) σ H Q:=by
 obtain⟨H0,ρ,x,ρ',st,e,k⟩:=h;unfold Dm.eF at e;split at e
 ·cases e
 rename_i xs ρ1 e1;split at e
 ·cases e
 rename_i ds p1;split at e
 ·cases e
 rename_i z fz;refine⟨H0,ρ,xs,ρ1,st,e1,fun vs H1 Hb t1 r1=>?_⟩;dsimp only;rw[PY];obtain⟨ρ2,e2⟩:=mP p1;obtain⟨H2,t2,b2,r2⟩:=takes t1 (aj.refl _) r1 e2;split at e
 ·rw[e2]at e;cases e;exact⟨H2,ds,z,t2.st.same,r2,fz,fun w H3 Hd g3 r3=>k w H3 Hd (t2.trans (.grow t2.st g3)) ((r3.toV t2.st).early fun a n=>t2.stp.gone n)⟩
 ·rename_i nb;cases e;refine⟨H2,ds,z,t2.st.same,r2,fz,fun w H3 Hd g3 r3=>?_⟩;have g:aG H1 Hb H1 Hd:=⟨aj.refl _,g3.s1,fun a o q=>.inr q,t1.st.same.trans g3.s1⟩
  refine k w H1 Hd (t1.trans (.grow t1.st g)) ?_;cases z with
  |val d=>exact Rep.plain r3 (by simpa [RV.dat] using nb)
  |new d=>obtain⟨a,_,_,_,w⟩:=r3;exact absurd w.box (by simpa [RV.dat] using nb)
theorem Rep.rA{c:Bool}(r:Rep H0 v (.bl c)):v=.bl c:=by cases r;rfl
theorem Rep.isInt{c:Int}(r:Rep H0 v (.int c)):v=.int c:=by cases r;rfl
theorem LR{a b:FE}(h:tD (Dm.iZ a b) σ H Q):Hl (tD a) (tD b) σ H Q:=by
 obtain⟨H0,ρ,x,ρ',st,e,k⟩:=h;unfold Dm.iZ at e;split at e
 ·rename_i ρ1 e1;refine⟨H0,ρ,_,_,st,e1,fun v H1 Hb t1 r1=>⟨true,Rep.rA r1,?_⟩⟩
  try dsimp only
  rw[if_pos rfl];exact⟨H1,ρ1,x,ρ',t1.st,e,fun v H2 Hc t2 r2=>k v H2 Hc (t1.trans t2) (r2.early fun a n=>t1.stp.gone n)⟩
 ·rename_i ρ1 e1;cases e;refine⟨H0,ρ,_,_,st,e1,fun v H1 Hb t1 r1=>⟨false,Rep.rA r1,?_⟩⟩
  try dsimp only
  rw[if_neg Px];exact k _ H1 Hb t1 (Rep.bl false)
 ·cases e
theorem LS(h:tD (Dm.tL a) σ H Q):Ho (tD a) σ H Q:=by
 obtain⟨H0,ρ,x,ρ',st,e,k⟩:=h;unfold Dm.tL at e;split at e
 ·rename_i c ρ1 e1;cases e;exact⟨H0,ρ,_,_,st,e1,fun v H1 Hb t1 r1=>⟨c,Rep.rA r1,k _ H1 Hb t1 (Rep.bl (!c))⟩⟩
 ·cases e
variable{Qt:Bool->Hp->Prop}
theorem mQ(h:tDT (Dm.tV a) σ H Qt):Ht (tD a) σ H Qt:=by
 obtain⟨H0,ρ,x,ρ',st,e,k⟩:=h;unfold Dm.tV at e;split at e
 ·rename_i c ρ1 e1;cases e;exact⟨H0,ρ,_,_,st,e1,fun v H1 Hb t1 r1=>⟨_,Rep.rA r1,k H1 Hb t1⟩⟩
 ·cases e
theorem Jt{t:FT}(h:tDT (Dm.dI t) σ H Qt):dI (tDT t) σ H Qt:=by
 obtain⟨H0,ρ,x,ρ',st,e,k⟩:=h;unfold Dm.dI at e;split at e
 ·rename_i c ρ1 e1;cases e;exact⟨H0,ρ,_,_,st,e1,fun H1 Hb t1=>k H1 Hb t1⟩
 ·cases e
theorem Ju(h:tDT (Dm.e8 t u) σ H Qt):e8 (tDT t) (tDT u) σ H Qt:=by
 obtain⟨H0,ρ,x,ρ',st,e,k⟩:=h;unfold Dm.e8 at e;split at e
 ·rename_i ρ1 e1;refine⟨H0,ρ,_,ρ1,st,e1,fun H1 Hb t1=>?_⟩;dsimp only;rw[if_pos rfl];exact⟨H1,ρ1,x,ρ',t1.st,e,fun H2 Hc t2=>k H2 Hc (t1.trans t2)⟩
 ·rename_i ρ1 e1;cases e;refine⟨H0,ρ,_,_,st,e1,fun H1 Hb t1=>?_⟩;dsimp only;rw[if_neg Px];exact k H1 Hb t1
 ·cases e
theorem LU(h:tDT (Dm.tOr t u) σ H Qt):tOr (tDT t) (tDT u) σ H Qt:=by
 obtain⟨H0,ρ,x,ρ',st,e,k⟩:=h;unfold Dm.tOr at e;split at e
 ·rename_i ρ1 e1;cases e;refine⟨H0,ρ,_,_,st,e1,fun H1 Hb t1=>?_⟩;dsimp only;rw[if_pos rfl];exact k H1 Hb t1
 ·rename_i ρ1 e1;refine⟨H0,ρ,_,ρ1,st,e1,fun H1 Hb t1=>?_⟩;dsimp only;rw[if_neg Px];exact⟨H1,ρ1,x,ρ',t1.st,e,fun H2 Hc t2=>k H2 Hc (t1.trans t2)⟩
 ·cases e
end
end
section
variable{ρ:Dm.Env}{H0 H:Hp}{σ:L2.St}
structure SSt(σ:St)(ρ:Dm.Env)(H0 H:Hp)(σ':St)(ρ':Dm.Env)(H0' H':Hp):Prop where
 st:ay H0' H' σ' ρ'
 stp:Stp (af σ ρ) H0 H H0' H'
 own:∀a,af σ' ρ' a->af σ ρ a\/H a=none
 fx:σ'[0]?=σ[0]?
theorem ESt.sst{σ:St}{ρ ρ':Dm.Env}{H0 H H0' H':Hp}(t:ESt σ ρ H0 H ρ' H0' H'):SSt σ ρ H0 H σ ρ' H0' H':=⟨t.st,t.stp,fun a z=>.inl (t.own a z),rfl⟩
theorem SSt.refl{σ:St}(st:ay H0 H σ ρ):SSt σ ρ H0 H σ ρ H0 H:=(ESt.refl st).sst
theorem SSt.trans{σ σ1 σ2:St}{ρ ρ1 ρ2:Dm.Env}{H0 H H1 H' H2 H'':Hp}(t:SSt σ ρ H0 H σ1 ρ1 H1 H')(u:SSt σ1 ρ1 H1 H' σ2 ρ2 H2 H''):SSt σ ρ H0 H σ2 ρ2 H2 H'':=
 ⟨u.st,t.stp.trans u.stp t.own,fun a z=>(u.own a z).elim (t.own a) fun n=>.inr (t.stp.gone n),u.fx.trans t.fx⟩
def LV(σ:St)(ρ:Dm.Env)(H H0' H':Hp)(v:V):RV->Prop
 |.val d=>Rep H0' v d
 |.new d=>∃a,v=V.ref a/\(H a=none\/af σ ρ a)/\H0' a=none/\Own H0' H' a d
def mR(D:Ends)(σ:St)(ρ:Dm.Env)(H0 H:Hp):Dm.Out->Prop
 |.nx ρ'=>∀σ' H0' H',SSt σ ρ H0 H σ' ρ' H0' H'->D.nx σ' H'
 |.bk ρ'=>∀σ' H0' H',SSt σ ρ H0 H σ' ρ' H0' H'->D.bk σ' H'
 |.ct ρ'=>∀σ' H0' H',SSt σ ρ H0 H σ' ρ' H0' H'->D.ct σ' H'
 |.ret z ρ'=>∀σ' v H0' H',SSt σ ρ H0 H σ' ρ' H0' H'->LV σ ρ H H0' H' v z->(∀d a,z=.new d->v=.ref a->¬af σ' ρ' a)->D.rt v H'
def tDS(g:FS):TS:=fun D σ H=>∃H0 ρ o,ay H0 H σ ρ/\g ρ=some o/\mR D σ ρ H0 H o
theorem mR.pre{D:Ends}{σ σ1:St}{ρ ρ1:Dm.Env}{H0 H H1 H':Hp}{o:Dm.Out}(t:SSt σ ρ H0 H σ1 ρ1 H1 H')(k:mR D σ ρ H0 H o):mR D σ1 ρ1 H1 H' o:=by
 cases o with
 |nx ρ'=>exact fun σ' H0' H' u=>k σ' H0' H' (t.trans u)
 |bk ρ'=>exact fun σ' H0' H' u=>k σ' H0' H' (t.trans u)
 |ct ρ'=>exact fun σ' H0' H' u=>k σ' H0' H' (t.trans u)
 |ret z ρ'=>
  refine fun σ' v H0' H'' u r no=>k σ' v H0' H'' (t.trans u) ?_ no;cases z with
  |val d=>exact r
  |new d=>
   obtain⟨a,e,n,n0,w⟩:=r;refine⟨a,e,?_,n0,w⟩;rcases n with n | n
   ·exact .inl (t.stp.gone n)
   ·exact(t.own a n).symm
theorem ay.mask(st:ay H0 H σ ρ)(i:Nat):ay H0 H σ (ρ.set i .un) where
 same:=st.same
 len:=by rw[PR];exact st.len
 sh:=fun j d h=>by
  by_cases q:i=j
  ·subst q;rw[Rh]at h;simp only[if_true]at h;split at h<;>cases h
  ·rw[gc q]at h;exact st.sh j d h
 ow:=fun j d h=>by
  by_cases q:i=j
  ·subst q;rw[Rh]at h;simp only[if_true]at h;split at h<;>cases h
  ·rw[gc q]at h;exact st.ow j d h
 dis:=fun j j' d d' a h1 h2 h3 h4=>by
  by_cases q:i=j
  ·subst q;rw[Rh]at h1;simp only[if_true]at h1;split at h1<;>cases h1
  ·by_cases q':i=j'
   ·subst q';rw[Rh]at h2;simp only[if_true]at h2;split at h2<;>cases h2
   ·rw[gc q]at h1;rw[gc q']at h2;exact st.dis j j' d d' a h1 h2 h3 h4
theorem bU{i:Nat}{a:Addr}(h:af σ (ρ.set i .un) a):∃(j:Nat) (d:Dat),j≠i/\ρ[j]?=some (Dm.Cell.ow d)/\σ[j]?=some (some (V.ref a)):=by
 obtain⟨j,d,h1,h2⟩:=h;by_cases q:i=j
 ·subst q;rw[Rh]at h1;simp only[if_true]at h1;split at h1<;>cases h1
 ·rw[gc q]at h1;exact⟨j,d,fun z=>q z.symm,h1,h2⟩
end
section
variable{D:Ends}{σ:St}{H:Hp}
theorem NZ(h:tDS Dm.sNx D σ H):sV D σ H:=by obtain⟨H0,ρ,o,st,e,k⟩:=h;cases e;exact k σ H0 H (.refl st)
theorem LW{s u:FS}(h:tDS (Dm.az s u) D σ H):gA (tDS s) (tDS u) D σ H:=by
 obtain⟨H0,ρ,o,st,e,k⟩:=h;unfold Dm.az at e;split at e
 ·rename_i ρ1 e1;exact⟨H0,ρ,.nx ρ1,st,e1,fun σ' H0' H' t=>⟨H0',ρ1,o,t.st,e,k.pre t⟩⟩
 ·rename_i h1;cases o with
  |nx ρ1=>exact absurd e (h1 ρ1)
  |bk ρ1=>exact⟨H0,ρ,_,st,e,k⟩
  |ct ρ1=>exact⟨H0,ρ,_,st,e,k⟩
  |ret z ρ1=>exact⟨H0,ρ,_,st,e,k⟩
theorem Jv{f:FE}(h:tDS (Dm.sE f) D σ H):k9 (tD f) D σ H:=by
 obtain⟨H0,ρ,o,st,e,k⟩:=h;unfold Dm.sE at e;split at e
 ·cases e
 ·rename_i x ρ1 e1;cases e;exact⟨H0,ρ,x,ρ1,st,e1,fun v H0' H' t r=>k σ H0' H' t.sst⟩
theorem LX{f:FE}(h:tDS (Dm.sR f) D σ H):zl (tD f) D σ H:=by
 obtain⟨H0,ρ,o,st,e,k⟩:=h;unfold Dm.sR at e;split at e
 ·cases e
 ·rename_i d ρ1 e1;cases e;refine⟨H0,ρ,_,ρ1,st,e1,fun v H0' H' t r=>?_⟩;obtain⟨a,e,n,no,n0,w⟩:=r;exact k σ v H0' H' t.sst ⟨a,e,.inl n,n0,w⟩ fun d' a' _ e' z=>by rw[e]at e';cases e';exact no z
 ·rename_i d ρ1 e1;cases e;exact⟨H0,ρ,_,ρ1,st,e1,fun v H0' H' t r=>k σ v H0' H' t.sst r fun d' a' z=>by cases z⟩
 ·rename_i i ρ1 e1;split at e
  ·rename_i d h1;cases e;refine⟨H0,ρ,_,ρ1,st,e1,fun v H0' H' t r=>?_⟩;obtain⟨q,_⟩:=r;obtain⟨a,q',n0,w⟩:=t.st.ow i d h1;rw[q]at q';cases q';refine k σ _ H0' H' ⟨t.st.mask i,t.stp,fun b z=>?_,rfl⟩ ⟨a,rfl,.inr (t.own a ⟨i,d,h1,q⟩),n0,w⟩ fun d' a' _ e' z=>?_
   ·obtain⟨j,d2,_,z1,z2⟩:=bU z;exact .inl (t.own b ⟨j,d2,z1,z2⟩)
   ·cases e';obtain⟨j,d2,hj,z1,z2⟩:=bU z;exact hj (t.st.dis j i d2 d a z1 h1 z2 q)
  ·rename_i d h1;cases e;refine⟨H0,ρ,_,ρ1,st,e1,fun v H0' H' t r=>?_⟩;obtain⟨q,_⟩:=r;obtain⟨u,q',w⟩:=t.st.sh i d h1;rw[q]at q';cases q';exact k σ _ H0' H' t.sst w fun d' a' z=>by cases z
  ·cases e
theorem LY{t:FT}{a b:FS}(h:tDS (Dm.sIf t a b) D σ H):zm (tDT t) (tDS a) (tDS b) D σ H:=by
 obtain⟨H0,ρ,o,st,e,k⟩:=h;unfold Dm.sIf at e;split at e
 ·cases e
 ·rename_i ρ1 e1;refine⟨H0,ρ,true,ρ1,st,e1,fun H1 Hb t1=>?_⟩;dsimp only;rw[if_pos rfl];exact⟨H1,ρ1,o,t1.st,e,k.pre t1.sst⟩
 ·rename_i ρ1 e1;refine⟨H0,ρ,false,ρ1,st,e1,fun H1 Hb t1=>?_⟩;dsimp only;rw[if_neg Px];exact⟨H1,ρ1,o,t1.st,e,k.pre t1.sst⟩
end
section
variable{ρ:Dm.Env}{σ:St}{i:Nat}{H0 H:Hp}{d:Dat}{a:Addr}{b:Addr}{o:HO}{v:V}
theorem gI{i j:Nat}{c d:Option V}(h:(σ.set i c)[j]?=some d):(j=i/\d=c)\/(j≠i/\σ[j]?=some d):=by
 by_cases e:j=i
 ·subst e;by_cases l:j<σ.length
  ·rw[PB l]at h;exact .inl ⟨rfl,(Option.some.inj h).symm⟩
  ·rw[PZ (by simpa using QN.mp l)]at h;cases h
 ·rw[gc (P4 e)]at h;exact .inr ⟨e,h⟩
theorem ay.inσ{c d:Dm.Cell}(st:ay H0 H σ ρ)(h:(ρ.set i c)[i]?=some d):i<σ.length:=by have:=(Pa.mp h).1;rw[PR]at this;rw[st.len];exact this
theorem cE(h:af (σ.set i (some v)) (ρ.set i (.sh d)) b):af σ ρ b:=by
 obtain⟨j,d',h1,h2⟩:=h;rcases aE h1 with⟨_,z⟩ | ⟨hj,h1⟩
 ·cases z
 ·rcases gI h2 with⟨z,_⟩ | ⟨_,h2⟩
  ·exact absurd z hj
  ·exact⟨j,d',h1,h2⟩
theorem ay.mS(st:ay H0 H σ ρ)(r:Rep H0 v d):ay H0 H (σ.set i (some v)) (ρ.set i (.sh d)) where
 same:=st.same
 len:=by rw[PR,PR];exact st.len
 sh:=fun j d' h=>by
  rcases aE h with⟨rfl,z⟩ | ⟨hj,h'⟩
  ·cases z;exact⟨v,PB (st.inσ h),r⟩
  ·obtain⟨u,q,w⟩:=st.sh j d' h';exact⟨u,by rw[gc (P4 hj)];exact q,w⟩
 ow:=fun j d' h=>by
  rcases aE h with⟨_,z⟩ | ⟨hj,h'⟩
  ·cases z
  ·obtain⟨u,q,w⟩:=st.ow j d' h';exact⟨u,by rw[gc (P4 hj)];exact q,w⟩
 dis:=fun j k d1 d2 b h1 h2 h3 h4=>by
  rcases aE h1 with⟨_,z⟩ | ⟨hj,h1⟩
  ·cases z
  rcases aE h2 with⟨_,z⟩ | ⟨hk,h2⟩
  ·cases z
  rw[gc (P4 hj)]at h3;rw[gc (P4 hk)]at h4;exact st.dis j k d1 d2 b h1 h2 h3 h4
theorem ay.wc(st:ay H0 H σ ρ)(no:¬af σ ρ a)(n0:H0 a=none)(w:Own H0 H a d):ay H0 H (σ.set i (some (.ref a))) (ρ.set i (.ow d)) where
 same:=st.same
 len:=by rw[PR,PR];exact st.len
 sh:=fun j d' h=>by
  rcases aE h with⟨_,z⟩ | ⟨hj,h'⟩
  ·cases z
  ·obtain⟨u,q,w⟩:=st.sh j d' h';exact⟨u,by rw[gc (P4 hj)];exact q,w⟩
 ow:=fun j d' h=>by
  rcases aE h with⟨rfl,z⟩ | ⟨hj,h'⟩
  ·cases z;exact⟨a,PB (st.inσ h),n0,w⟩
  ·obtain⟨u,q,w⟩:=st.ow j d' h';exact⟨u,by rw[gc (P4 hj)];exact q,w⟩
 dis:=fun j k d1 d2 b h1 h2 h3 h4=>by
  rcases aE h1 with⟨e1,z1⟩ | ⟨hj,h1'⟩
  ·rcases aE h2 with⟨e2,z2⟩ | ⟨hk,h2'⟩
   ·rw[e1,e2]
   ·rcases gI h3 with⟨_,z⟩ | ⟨z,_⟩
    ·cases z;rw[gc (P4 hk)]at h4;exact absurd ⟨k,d2,h2',h4⟩ no
    ·exact absurd e1 z
  ·rcases aE h2 with⟨e2,z2⟩ | ⟨hk,h2'⟩
   ·rcases gI h4 with⟨_,z⟩ | ⟨z,_⟩
    ·cases z;rw[gc (P4 hj)]at h3;exact absurd ⟨j,d1,h1',h3⟩ no
    ·exact absurd e2 z
   ·rw[gc (P4 hj)]at h3;rw[gc (P4 hk)]at h4;exact st.dis j k d1 d2 b h1' h2' h3 h4
theorem dM{a b:Addr}(h:af (σ.set i (some (.ref a))) (ρ.set i (.ow d)) b):b=a\/af σ ρ b:=by
 obtain⟨j,d',h1,h2⟩:=h;rcases aE h1 with⟨e,_⟩ | ⟨hj,h1⟩
 ·rcases gI h2 with⟨_,z⟩ | ⟨z,_⟩
  ·cases z;exact .inl rfl
  ·exact absurd e z
 ·rcases gI h2 with⟨z,_⟩ | ⟨_,h2⟩
  ·exact absurd z hj
  ·exact .inr ⟨j,d',h1,h2⟩
theorem ay.write{d d':Dat}(st:ay H0 H σ ρ)(e:ρ[i]?=some (.ow d))(q:σ[i]?=some (some (V.ref a)))(w':Own H0 (upd H a o) a d') :
  ay H0 (upd H a o) σ (ρ.set i (.ow d')):=by
 obtain⟨a',q',n,w⟩:=st.ow i d e;rw[q]at q';cases q';refine⟨fun b u z=>?_,by rw[PR];exact st.len,fun j d1 h=>?_,fun j d1 h=>?_,fun j k d1 d2 b h1 h2 h3 h4=>?_⟩
 ·rw[ao (aH z n)];exact st.same _ _ z
 ·rcases aE h with⟨_,z⟩ | ⟨hj,h'⟩
  ·cases z
  ·exact st.sh j d1 h'
 ·rcases aE h with⟨rfl,z⟩ | ⟨hj,h'⟩
  ·cases z;exact⟨a,q,n,w'⟩
  ·obtain⟨b,q1,n1,w1⟩:=st.ow j d1 h';have nb:b≠a:=fun y=>hj (st.dis j i d1 d a h' e (y▸q1) q);exact⟨b,q1,n1,w1.mono (aj.refl _) (ao nb)⟩
 ·have f:∀{j:Nat} {d1:Dat},(ρ.set i (.ow d'))[j]?=some (.ow d1)->∃d2,ρ[j]?=some (.ow d2):=fun {j d1} h=>by
   rcases aE h with⟨rfl,_⟩ | ⟨_,h'⟩
   ·exact⟨d,e⟩
   ·exact⟨d1,h'⟩
  obtain⟨x1,y1⟩:=f h1;obtain⟨x2,y2⟩:=f h2;exact st.dis j k x1 x2 b y1 y2 h3 h4
theorem bV{d d':Dat}(e:ρ[i]?=some (.ow d))(h:af σ (ρ.set i (.ow d')) b):af σ ρ b:=by
 obtain⟨j,d1,h1,h2⟩:=h;rcases aE h1 with⟨rfl,_⟩ | ⟨_,h'⟩
 ·exact⟨j,d,e,h2⟩
 ·exact⟨j,d1,h',h2⟩
theorem Stp.write(w:af σ ρ a):Stp (af σ ρ) H0 H H0 (upd H a o):=
 ⟨aj.refl _,fun b u e n=>by rw [ao (show b≠a from fun z=>n (by rw [z];exact w))];exact e,fun b u e=>.inr (.inl e),fun b u e=>by
  by_cases z:b=a
  ·subst z;exact⟨o,aq⟩
  ·exact⟨u,by rw[ao z];exact e⟩⟩
end
section
variable{D:Ends}{σ:St}{H:Hp}
section
variable{ρ:Dm.Env}{body:FS}{f:FE}{a:Addr}{is:List Nat}{i:Nat}{ds:List Dat}{d:Dat}{bd:Dm.FB}{xs:List V}{vs:List V}{n:Nat}{H0:Hp}{k:Nat}{fi:Dm.FI}{t:FT}{g:TG}{o:HO}{Q:VK}{E:XK}
theorem Bg(h:tDS (Dm.sA i f) D σ H):ku (tD f) (cW i) D σ H:=by
 obtain⟨H0,ρ,o,st,e,k⟩:=h;unfold Dm.sA at e;split at e
 ·cases e
 rename_i hi0;split at e
 ·cases e
 ·rename_i d ρ1 e1;cases e;refine⟨H0,ρ,_,ρ1,st,e1,fun v H0' H' t r=>?_⟩;obtain⟨a,e,n,no,n0,w⟩:=r;subst e;refine k _ H0' H' ⟨t.st.wc no n0 w,t.stp,fun b z=>?_,gc hi0⟩;rcases dM z with rfl | z
  ·exact .inr n
  ·exact .inl (t.own b z)
 ·rename_i x ρ1 _ e1;split at e
  ·cases e
  ·rename_i d ρ2 e2;cases e;refine⟨H0,ρ,_,ρ1,st,e1,fun v H0' H' t r=>?_⟩;obtain⟨H1,t1,b1,r1,_,_⟩:=take1 t (aj.refl _) r e2;exact k _ H1 H' ⟨t1.st.mS r1,t1.stp,fun b z=>.inl (t1.own b (cE z)),gc hi0⟩
theorem ya{j:Nat}(h:Def ρ j):Def (ρ.set i (.sh d)) j:=trivial
noncomputable def i8:List Nat->TGs
 |[]=>Lx
 |i::is=>Hq (cW i) (i8 is)
theorem yc{H0 H:Hp}{Q:St->Hp->Prop}:∀{is:List Nat} {xs:List V} {ds:List Dat} {σ:St} {ρ ρ':Dm.Env},ay H0 H σ ρ->av H0 xs ds->Dm.sets is ds ρ=some ρ' ->
  (∀σ',ay H0 H σ' ρ'->(∀a,af σ' ρ' a->af σ ρ a)->(∀j,j∉is->σ'[j]?=σ[j]?)->(∀j,Def ρ j->Def ρ' j)->σ'[0]?=σ[0]?->Q σ' H)->i8 is xs σ H Q
 |[],_,[],σ,ρ,ρ',st,r,e,k=>by cases r;cases e;exact⟨rfl,k σ st (fun _ z=>z) (fun _ _=>rfl) (fun _ z=>z) rfl⟩
 |i::is,_,d::ds,σ,ρ,ρ',st,r,e,k=>by
  cases r with
  |cons h r=>
   unfold Dm.sets at e;split at e
   ·cases e
   rename_i hi0;refine⟨_,_,rfl,?_⟩;refine yc (st.mS h) r e fun σ' st' o' n' d' f'=>k σ' st' (fun a z=>cE (o' a z)) (fun j hj=>?_) (fun j z=>d' j (ya z)) (f'.trans (gc hi0));rw[n' j fun z=>hj (Dk _ z)];exact gc fun z=>hj (by rw[z];exact O9)
 |[],_,_::_,_,_,_,_,_,e,_=>by cases e
 |_::_,_,[],_,_,_,_,_,e,_=>by cases e
theorem tN:∀{is:List Nat} {ds:List Dat} {ρ ρ':Dm.Env},Dm.sets is ds ρ=some ρ'->ds.length=is.length
 |[],[],_,_,_=>rfl
 |i::is,_::ds,_,_,e=>by
  unfold Dm.sets at e;split at e
  ·cases e
  ·simp[tN (is:=is) (ds:=ds) e]
 |[],_::_,_,_,e=>by cases e
 |_::_,[],_,_,e=>by cases e
def BD(is:List Nat)(g:TG)(bd:Dm.FB):Prop:=∀(H0 H:Hp) (σ:St) (ρ ρ':Dm.Env) (x:V) (d:Dat) (Q:St->Hp->Prop),ay H0 H σ ρ->Rep H0 x d->bd d ρ=some ρ' ->
 (∀σ',ay H0 H σ' ρ'->(∀a,af σ' ρ' a->af σ ρ a)->(∀j,j∉is->σ'[j]?=σ[j]?)->(∀j,Def ρ j->Def ρ' j)->σ'[0]?=σ[0]?->Q σ' H)->g x σ H Q
theorem yd(i:Nat):BD [i] (cW i) (Dm.bN i):=by
 intro H0 H σ ρ ρ' x d Q st r e k;unfold Dm.bN at e;split at e
 ·cases e
 rename_i hi0;cases e;refine k _ (st.mS r) (fun a z=>cE z) (fun j hj=>?_) (fun j h=>ya h) (gc hi0);exact gc (fun z=>hj (by rw[z];exact Pn.mpr rfl))
theorem Jw{K:O8}(is:List Nat)(hn:is.length=n):BD is (Ly K n (i8 is)) (Dm.bT is):=by
 intro H0 H σ ρ ρ' x d Q st r e k;unfold Dm.bT at e;split at e
 ·cases r with
  |tup q rs=>exact⟨_,_,rfl,SqT.of (st.same _ _ q),by rw[rs.length,tN e,hn],yc st rs e k⟩
 ·cases e
theorem LZ{K:O8}(h:tDS (Dm.pB i f) D σ H):k9 (tBM K "list" q_ (gm i) (tDA [f])) D σ H:=by
 obtain⟨H0,ρ,o,st,e,k⟩:=h;unfold Dm.pB at e;split at e
 ·rename_i ds0 h0;obtain⟨a0,q0,n0,w0⟩:=st.ow i _ h0;refine⟨_,q0,?_⟩;split at e
  ·cases e
  rename_i x ρ1 e1;split at e
  ·cases e
  rename_i d ρ2 e2;split at e
  ·rename_i ds h2;split at e
   ·rename_i hz;cases e;obtain⟨xs0,y0,_⟩:=w0;refine⟨.inl ⟨rfl,xs0,.inl (.inl y0)⟩,?_⟩;refine⟨H0,ρ,[x],ρ1,st,by unfold Dm.eAs;rw[e1];rfl,fun vs H0' H' t r=>?_⟩;cases r with
    |cons r rr=>
     cases rr;obtain⟨H1,t1,b1,r1,_,_⟩:=take1 t (aj.refl _) r e2;obtain⟨a,q,n,w⟩:=t1.st.ow i _ h2;rw[q0]at q;cases q;obtain⟨xs,y,rs⟩:=w;refine⟨a0,xs,_,rfl,rfl,y,by rw[rs.length];exact Pq hz (by decide),?_⟩;have ow:af σ ρ2 a0:=⟨i,_,h2,q0⟩
     refine k σ H1 _ ⟨t1.st.write h2 q0 ⟨_,aq,rs.append (.cons r1 .nil)⟩,t1.stp.trans (Stp.write ow) fun b z=>.inl (t1.own b z),fun b z=>.inl (t1.own b (bV h2 z)),rfl⟩
   ·cases e
  ·cases e
 ·cases e
theorem rB(n:Nat)(i:Int):Dm.ixN n i=L2.ixN n i:=rfl
theorem L1{j f:FE}(h:tDS (Dm.zK i j f) D σ H):ku (tD f) (gp (gm i) (tD j) tu) D σ H:=by
 obtain⟨H0,ρ,o,st,e,k⟩:=h;unfold Dm.zK at e;split at e
 ·cases e
 rename_i x ρ1 e1;split at e
 ·cases e
 rename_i d ρ2 e2;split at e
 case h_2=>cases e
 rename_i d0 h2;split at e
 ·rename_i m ρ3 e3;split at e
  ·rename_i ds h3;split at e
   ·cases e
   ·rename_i p e4;cases e;refine⟨H0,ρ,_,ρ1,st,e1,fun v H0' H' t r=>?_⟩;obtain⟨H1,t1,b1,r1,_,_⟩:=take1 t (aj.refl _) r e2;obtain⟨a0,q0,_,_⟩:=t1.st.ow i _ h2;refine⟨_,q0,H1,ρ2,_,ρ3,t1.st,e3,fun u H2 Hc t2 r2=>?_⟩;obtain⟨a,q,n,w⟩:=t2.st.ow i _ h3;rw[q0]at q;cases q;obtain⟨xs,y,rs⟩:=w;refine⟨a0,xs,m,p,rfl,Rep.isInt r2,y,by rw[rs.length];exact e4,?_⟩;have ow:af σ ρ3 a0:=⟨i,_,h3,q0⟩
    have tt:=t1.trans t2;refine k σ H2 _ ⟨t2.st.write h3 q0 ⟨_,aq,rs.set (r1.mono t2.stp.s0) p⟩,tt.stp.trans (Stp.write ow) fun b z=>.inl (tt.own b z),fun b z=>.inl (tt.own b (bV h3 z)),rfl⟩
  ·cases e
 ·cases e
theorem ED(h:tDS (Dm.whD t body n) D σ H):AD (tDT t) (tDS body) D σ H:=by
 refine⟨fun m σ H=>tDS (Dm.whD t body m) D σ H,⟨n,h⟩,?_⟩;rintro m σ H ⟨H0,ρ,o,st,e,k⟩;cases m with
 |zero=>unfold Dm.whD at e;cases e
 |succ m=>
  unfold Dm.whD at e;split at e
  ·cases e
  ·rename_i ρ1 e1;cases e;refine⟨H0,ρ,false,ρ1,st,e1,fun H1 Hb t1=>?_⟩;dsimp only;rw[if_neg Px];exact k σ H1 Hb t1.sst
  ·rename_i ρ1 e1;refine⟨H0,ρ,true,ρ1,st,e1,fun H1 Hb t1=>?_⟩;dsimp only;rw[if_pos rfl];refine⟨fun σ' H'=>tDS (Dm.whD t body m) D σ' H',fun σ' H' q=>⟨m,Nat.lt_succ_self m,q⟩,?_⟩;have k1:=k.pre t1.sst;split at e
   ·rename_i ρ2 e2;exact⟨H1,ρ1,_,t1.st,e2,fun σ' H0' H' t2=>⟨H0',ρ2,o,t2.st,e,k1.pre t2⟩⟩
   ·rename_i ρ2 e2;exact⟨H1,ρ1,_,t1.st,e2,fun σ' H0' H' t2=>⟨H0',ρ2,o,t2.st,e,k1.pre t2⟩⟩
   ·rename_i ρ2 e2;cases e;exact⟨H1,ρ1,_,t1.st,e2,k1⟩
   ·rename_i v ρ2 e2;cases e;exact⟨H1,ρ1,_,t1.st,e2,k1⟩
   ·cases e
def JW(J:It)(H00:Hp)(ys:List Dat):Prop:=∀H0 H,aj H00 H0->aj H0 H->(∀i,ys.length<=i->J.stop i H) /\
 ∀(i:Nat) (d:Dat),ys[i]?=some d->J.go i H/\∀x H',J.yld i H x H'->∃H0',aG H0 H H0' H'/\Rep H0' x d
def tDI(fi:Dm.FI):TI:=fun σ H R=>∃H0 ρ ys ρ',ay H0 H σ ρ/\fi ρ=some (ys,ρ')/\∀J H0' H',ESt σ ρ H0 H ρ' H0' H'->JW J H0' ys->R J H'
theorem L3(hb:BD is g bd)(h:tDS (Dm.gv fi bd body) D σ H):Ej (tDI fi) g (tDS body) D σ H:=by
 obtain⟨H0,ρ,o,st,e,k⟩:=h;unfold Dm.gv at e;split at e
 ·cases e
 rename_i ys ρ1 e1;refine⟨H0,ρ,ys,ρ1,st,e1,fun J H00 Hb t1 jw=>?_⟩;refine ⟨fun i m σ H=>∃ H0 ρ o,ay H0 H σ ρ∧aj H00 H0∧m=ys.length-i∧i≤ys.length∧Dm.kF bd body (ys.drop i) ρ=some o∧mR D σ ρ H0 H o,
  ⟨ys.length,H00,ρ1,o,t1.st,aj.refl _,by simp,Qf _,by simpa using e,k.pre t1.sst⟩,?_⟩
 rintro i m σ H ⟨H0,ρ,o,st,s00,rfl,hi,e,k⟩;obtain⟨js,jg⟩:=jw H0 H s00 st.same;by_cases HN:i<ys.length
 ·have hd:ys[i]?=some ys[i]:=by simp[HN]
  obtain⟨g1,g2⟩:=jg i ys[i] hd;rw[Ql HN]at e;unfold Dm.kF at e;refine .inr ⟨g1,fun σ' H'=>∃H0 ρ o,ay H0 H' σ' ρ/\aj H00 H0/\Dm.kF bd body (ys.drop (i+1)) ρ=some o/\mR D σ' ρ H0 H' o,?_,fun x H' y=>?_⟩
  ·rintro σ' H' ⟨H0',ρ',o',h1,h2,h3,h4⟩;exact⟨ys.length-(i+1),by lia,H0',ρ',o',h1,h2,rfl,HN,h3,h4⟩
  ·obtain⟨H0',gr,rx⟩:=g2 x H' y;split at e
   ·cases e
   ·rename_i ρ2 e2;have t2:=ESt.grow st gr;refine hb H0' H' σ ρ ρ2 x ys[i] _ t2.st rx e2 fun σ2 st2 o2 _ _ f2=>?_;have t3:SSt σ ρ H0 H σ2 ρ2 H0' H':=⟨st2,t2.stp,fun a z=>.inl (o2 a z),f2⟩
    have k3:=k.pre t3;have s3:aj H00 H0':=s00.trans gr.s0;split at e
    ·rename_i ρ3 e3;exact⟨H0',ρ2,_,st2,e3,fun σ4 H4 Hd t4=>⟨H4,ρ3,o,t4.st,s3.trans t4.stp.s0,e,k3.pre t4⟩⟩
    ·rename_i ρ3 e3;exact⟨H0',ρ2,_,st2,e3,fun σ4 H4 Hd t4=>⟨H4,ρ3,o,t4.st,s3.trans t4.stp.s0,e,k3.pre t4⟩⟩
    ·rename_i ρ3 e3;cases e;exact⟨H0',ρ2,_,st2,e3,k3⟩
    ·rename_i v ρ3 e3;cases e;exact⟨H0',ρ2,_,st2,e3,k3⟩
    ·cases e
 ·have e':i=ys.length:=by lia
  subst e';rw[QX]at e;cases e;exact .inl ⟨js _ (Pb _),k σ H0 H (.refl st)⟩
theorem EE{K:O8}(hq:Rd H0 a (.lst xs))(rs:av H0 xs ds):JW (Itl K a) H0 ds:=by intro H0' H s0 s1;have q:SqL K H a xs:=.inl (aj.rd s1 (aj.rd s0 hq));refine⟨fun i hi=>⟨xs,q,by rw[rs.length];exact hi⟩,fun i d e=>?_⟩;obtain⟨v,hv,rv⟩:=rs.get e;refine⟨⟨xs,v,q,hv⟩,fun x H' y=>?_⟩;obtain⟨e1,y⟩:=y;subst e1;have z:=y xs q;rw[hv]at z;cases z;exact⟨H0',aG.refl s1,rv.mono s0⟩
theorem Jx{K:O8}(hq:H0 a=some (.tup xs))(rs:av H0 xs ds):JW (Itt K a) H0 ds:=by intro H0' H s0 s1;have q:SqT K H a xs:=.inl (.inl (s1 _ _ (s0 _ _ hq)));refine⟨fun i hi=>⟨xs,q,by rw[rs.length];exact hi⟩,fun i d e=>?_⟩;obtain⟨v,hv,rv⟩:=rs.get e;refine⟨⟨xs,v,q,hv⟩,fun x H' y=>?_⟩;obtain⟨e1,y⟩:=y;subst e1;have z:=y xs q;rw[hv]at z;cases z;exact⟨H0',aG.refl s1,rv.mono s0⟩
theorem mT{lo:Int}:JW (Itr lo n) H0 (Dm.ups lo n):=by
 intro H0' H s0 s1;have el:(Dm.ups lo n).length=n:=by simp[Dm.ups]
 refine⟨fun i hi=>by rw[el]at hi;exact hi,fun i d e=>?_⟩;have hi:i<n:=by have:=(Pa.mp e).1;rw[el]at this;exact this
 have hd:d=.int (lo+i):=by unfold Dm.ups at e;rw[PD,QV hi]at e;exact(Option.some.inj e).symm
 refine⟨hi,fun x H' y=>?_⟩;obtain⟨rfl,rfl⟩:=y;subst hd;exact⟨H0',aG.refl s1,.int _⟩
variable{R:It->Hp->Prop}
theorem N1{K:O8}(h:tDI (Dm.iL f) σ H R):sX K (tD f) σ H R:=by
 obtain⟨H0,ρ,ys,ρ',st,e,k⟩:=h;unfold Dm.iL at e;split at e
 ·cases e
 rename_i x ρ1 e1;split at e
 ·rename_i ds ρ2 e2;cases e;refine⟨H0,ρ,_,ρ1,st,e1,fun v H0' H' t r=>?_⟩;obtain⟨H1,t1,b1,r1,_,_⟩:=take1 t (aj.refl _) r e2;cases r1 with
  |lst q rs=>exact⟨_,rfl,⟨_,.inl (aj.rd t1.st.same q)⟩,k _ H1 H' t1 (EE q rs)⟩
 ·cases e
theorem N2{K:O8}(h:tDI (Dm.iT f) σ H R):AG K (tD f) σ H R:=by
 obtain⟨H0,ρ,ys,ρ',st,e,k⟩:=h;unfold Dm.iT at e;split at e
 ·cases e
 rename_i x ρ1 e1;split at e
 ·rename_i ds ρ2 e2;cases e;refine⟨H0,ρ,_,ρ1,st,e1,fun v H0' H' t r=>?_⟩;obtain⟨H1,t1,b1,r1,_,_⟩:=take1 t (aj.refl _) r e2;cases r1 with
  |tup q rs=>exact⟨_,rfl,⟨_,.inl (.inl (t1.st.same _ _ q))⟩,k _ H1 H' t1 (Jx q rs)⟩
 ·cases e
theorem L4(h:tDI (Dm.iR1 f) σ H R):AI (tDA [f]) σ H R:=by
 obtain⟨H0,ρ,ys,ρ',st,e,k⟩:=h;unfold Dm.iR1 at e;split at e
 ·rename_i j ρ1 e1;split at e
  ·rename_i hb;cases e;refine⟨H0,ρ,[.val (.int j)],_,st,by unfold Dm.eAs;rw[e1];rfl,fun vs H0' H' t r=>?_⟩;cases r with
   |cons r rr=>cases rr;cases Rep.isInt r;have h1:=hb.1;have h2:=hb.2;unfold Dm.BIG at h1 h2;exact⟨j,rfl,by lia,by lia,k _ H0' H' t mT⟩
  ·cases e
 ·cases e
theorem L5{f g:FE}(h:tDI (Dm.iR2 f g) σ H R):Hr (tDA [f,g]) σ H R:=by
 obtain⟨H0,ρ,ys,ρ',st,e,k⟩:=h;unfold Dm.iR2 at e;split at e
 ·rename_i i ρ1 e1;split at e
  ·rename_i j ρ2 e2;split at e
   ·rename_i hb;cases e;refine⟨H0,ρ,[.val (.int i),.val (.int j)],_,st,by unfold Dm.eAs;rw[e1];dsimp only;unfold Dm.eAs;rw[e2];rfl,fun vs H0' H' t r=>?_⟩;cases r with
    |cons r rr=>
     cases rr with
     |cons r' rr=>cases rr;cases Rep.isInt r;cases Rep.isInt r';obtain⟨h1,h2,h3,h4⟩:=hb;unfold Dm.BIG at h1 h2 h3 h4;exact⟨i,j,rfl,⟨by lia,by lia,by lia,by lia⟩,k _ H0' H' t mT⟩
   ·cases e
  ·cases e
 ·cases e
def tLC(wi:TI)(own:Nat)(g:TG)(tt:TT)(te:TE):TE:=fun σ H Q=>wi σ H fun J H1=>∀D,H1 D=none->∃W:Nat->Nat->St->Hp->Prop,
 (∃m,W 0 m (σ++Ds own none) (upd H1 D (.lst [])))/\∀i m σ' H',W i m σ' H' ->
  (J.stop i H'∧Q (.ref D) H')∨(J.go i H'∧∀ x H2,J.yld i H' x H2→g x σ' H2 fun σ2 H3=>tt σ2 H3 fun b H4=>if b=true
   then te σ2 H4 fun y H5=>∃Cr,H5 D=some (.lst Cr)/\Cr.length<sizeLine/\∃m',m'<m/\W (i+1) m' σ2 (upd H5 D (.lst (Cr++[y])))
   else ∃m',m'<m/\W (i+1) m' σ2 H4)
theorem ay.aside{H0 H:Hp}{σ:St}(st:ay H0 H σ ρ)(n0:H0 a=none)(no:¬af σ ρ a):ay H0 (upd H a o) σ ρ where
 same:=fun b u z=>by rw[ao (aH z n0)];exact st.same _ _ z
 len:=st.len
 sh:=st.sh
 ow:=fun j d h=>by obtain⟨b,q,n,w⟩:=st.ow j d h;have nb:b≠a:=fun y=>no ⟨j,d,h,y▸q⟩;exact⟨b,q,n,w.mono (aj.refl _) (ao nb)⟩
 dis:=st.dis
theorem ay.bg{H0 H:Hp}{σ:St}(st:ay H0 H σ ρ)(h:H a=none):¬af σ ρ a:=fun⟨i,d,h1,h2⟩=>by obtain⟨b,q,n,w⟩:=st.ow i d h1;rw[h2]at q;cases q;obtain⟨o,z⟩:=w.some;rw[h]at z;cases z
theorem jT{α:Type}{l:List α}{r:List α}{x:α}(h:(l++r)[i]?=some x)(n:x∉r):i<l.length/\l[i]?=some x:=by
 by_cases hi:i<l.length
 ·rw[Pg hi]at h;exact⟨hi,h⟩
 ·rw[PN (QN.mp hi)]at h;exact absurd (QL h) n
theorem Bh:Dm.Cell.sh d∉Ds k Dm.Cell.un:=fun h=>by have:=List.eq_of_mem_replicate h;cases this
theorem jU:Dm.Cell.ow d∉Ds k Dm.Cell.un:=fun h=>by have:=List.eq_of_mem_replicate h;cases this
theorem ay.ext{H0 H:Hp}{σ:St}(st:ay H0 H σ ρ)(k:Nat):ay H0 H (σ++Ds k none) (ρ++Ds k .un) where
 same:=st.same
 len:=by simp[st.len]
 sh:=fun i d h=>by obtain⟨hi,h⟩:=jT h Bh;obtain⟨v,q,r⟩:=st.sh i d h;exact⟨v,by rw[Pg (by rw[st.len];exact hi)];exact q,r⟩
 ow:=fun i d h=>by obtain⟨hi,h⟩:=jT h jU;obtain⟨v,q,r⟩:=st.ow i d h;exact⟨v,by rw[Pg (by rw[st.len];exact hi)];exact q,r⟩
 dis:=fun i j d e a h1 h2 h3 h4=>by obtain⟨hi,h1⟩:=jT h1 jU;obtain⟨hj,h2⟩:=jT h2 jU;rw[Pg (by rw[st.len];exact hi)]at h3;rw[Pg (by rw[st.len];exact hj)]at h4;exact st.dis i j d e a h1 h2 h3 h4
theorem cP{H0 H:Hp}{σ:St}(st:ay H0 H σ ρ)(h:af (σ++Ds k none) (ρ++Ds k .un) a):af σ ρ a:=by obtain⟨i,d,h1,h2⟩:=h;obtain⟨hi,h1⟩:=jT h1 jU;rw[Pg (by rw[st.len];exact hi)]at h2;exact⟨i,d,h1,h2⟩
theorem Stp.aside{O:Addr->Prop}{H0 H H0' H':Hp}{D:Addr}(t:Stp O H0 H H0' H')(hD:H D=none):Stp O H0 H H0' (upd H' D o):=
 ⟨t.s0,fun a u e n=>by rw[ao (aH e hD)];exact t.s1 a u e n,t.s2,fun a u e=>by rw[ao (aH e hD)];exact t.s3 a u e⟩
theorem ESt.cN{σ:St}{ρ ρ':Dm.Env}{H0 H H0' H':Hp}(t:ESt σ ρ H0 H ρ' H0' H'){D:Addr}(h:H D=some o)(n0:H0 D=none)(no:¬af σ ρ D):H' D=some o/\H0' D=none/\¬af σ ρ' D:=by
 refine⟨t.stp.s1 D o h no,?_,fun z=>no (t.own D z)⟩;cases q:H0' D with
 |none=>rfl
 |some u=>
  rcases t.stp.s2 D u q with z | z | z
  ·rw[h]at z;cases z
  ·rw[n0]at z;cases z
  ·exact absurd z no
def JWa(J:It)(H00:Hp)(pa:Option (Addr×HO))(ys:List Dat):Prop:=∀H0 H,aj H00 H0->aj H0 H->(∀q,pa=some q->H q.1=some q.2)->(∀i,ys.length<=i->J.stop i H) /\
 ∀(i:Nat) (d:Dat),ys[i]?=some d->J.go i H/\∀x H',J.yld i H x H'->∃H0',aG H0 H H0' H'/\Rep H0' x d
theorem tO{σ:St}{own:Nat}{t:FT}{el:FE}{Q:VK}{H00 Hb:Hp}{ρ1 ρ2:Dm.Env}{ds ys:List Dat}{J:It}{pa:Option (Addr×HO)}(hb:BD is g bd)(hl:∀i∈is,σ.length<=i)
  (st1:ay H00 Hb σ ρ1) (hp:∀q,pa=some q->Hb q.1=some q.2/\H00 q.1=none/\¬af σ ρ1 q.1) (jw:JWa J H00 pa ds) (hsz:ds.length<=Dm.SZ) (e2:Dm.gh bd t el ds (ρ1++Ds own .un) []=some (ys,ρ2))
  (k:∀v H0' H',ESt σ ρ1 H00 Hb (ρ2.take ρ1.length) H0' H'->gH Hb H0' H' σ (ρ2.take ρ1.length) v (.new (.lst ys))->(∀q,pa=some q->H' q.1=some q.2/\H0' q.1=none)->Q v H') (D:Addr) (hD:Hb D=none) :
  ∃W:Nat->Nat->St->Hp->Prop,(∃m,W 0 m (σ++Ds own none) (upd Hb D (.lst [])))/\∀i m σ' H',W i m σ' H' ->
  (J.stop i H'∧Q (.ref D) H')∨(J.go i H'∧∀ x H2,J.yld i H' x H2→g x σ' H2 fun σ2 H3=>tDT t σ2 H3 fun b H4=>if b=true
   then tD el σ2 H4 fun y H5=>∃Cr,H5 D=some (.lst Cr)/\Cr.length<sizeLine/\∃m',m'<m/\W (i+1) m' σ2 (upd H5 D (.lst (Cr++[y])))
   else ∃m',m'<m/\W (i+1) m' σ2 H4):=by
 have hpD:∀q,pa=some q->q.1≠D:=fun q e z=>by have:=(hp q e).1;rw[z,hD]at this;cases this
 have noD:¬af σ ρ1 D:=st1.bg hD;refine ⟨fun i m σ' H'=>∃ (H0c:Hp) (ρc:Dm.Env) (zN:List Dat) (we:List V),ay H0c H' σ' ρc∧aj H00 H0c∧m=ds.length-i∧i≤ds.length∧Dm.gh bd t el (ds.drop i) ρc zN=some (ys,ρ2) ∧
  H' D=some (.lst we)/\av H0c we zN/\H0c D=none/\zN.length<=i/\Stp (af σ ρ1) H00 Hb H0c H'/\(∀j,j<σ.length->σ'[j]?=σ[j]?)/\(∀a,af σ' ρc a->af σ ρ1 a)/\(∀j,Def ρ1 j->Def ρc j)/\(∀q,pa=some q->H' q.1=some q.2/\H0c q.1=none/\¬af σ' ρc q.1),
  ⟨ds.length,H00,ρ1++Ds own .un,[],[],(st1.aside (st1.same.free hD) noD).ext own,aj.refl _,by simp,Qf _,by simpa using e2,aq,.nil,st1.same.free hD,Qf _,(Stp.refl _ _ _).aside hD,
   fun j hj=>Pg hj,fun a z=>cP st1 z,fun j z=>trivial,fun q e=>⟨by rw[ao (hpD q e)];exact(hp q e).1,(hp q e).2.1,fun z=>(hp q e).2.2 (cP st1 z)⟩⟩,?_⟩
 rintro i m σ' H' ⟨H0c,ρc,zN,we,sc,s00,rfl,hi,ec,hDl,ra,n0,hal,sp,hσ,ho,hdf,hpc⟩;have nOc:¬af σ' ρc D:=fun z=>noD (ho D z);obtain⟨js,jg⟩:=jw H0c H' s00 sc.same fun q e=>(hpc q e).1;by_cases HN:i<ds.length
 ·have hd:ds[i]?=some ds[i]:=by simp[HN]
  obtain⟨g1,g2⟩:=jg i ds[i] hd;rw[Ql HN]at ec;unfold Dm.gh at ec;refine .inr ⟨g1,fun y H2 yy=>?_⟩;obtain⟨H0',gr,rx⟩:=g2 y H2 yy;split at ec
  ·cases ec
  rename_i ρ3 e3;have t2:=ESt.grow sc gr;obtain⟨hD2,n02,no2⟩:=t2.cN hDl n0 nOc;have hp2:=fun q e=>t2.cN (hpc q e).1 (hpc q e).2.1 (hpc q e).2.2;refine hb H0' H2 σ' ρc ρ3 y ds[i] _ t2.st rx e3 fun σ3 st3 o3 k3 d3 _=>?_;have no3:¬af σ3 ρ3 D:=fun z=>no2 (o3 D z);have po3:∀q,pa=some q->¬af σ3 ρ3 q.1:=fun q e z=>(hp2 q e).2.2 (o3 q.1 z);have hσ3:∀j,j<σ.length->σ3[j]?=σ[j]?:=fun j hj=>(k3 j fun z=>QN.mpr (hl j z) hj).trans (hσ j hj);have ho3:∀a,af σ3 ρ3 a->af σ ρ1 a:=fun a z=>ho a (o3 a z);have L6:∀j,Def ρ1 j->Def ρ3 j:=fun j z=>d3 j (hdf j z);have sp3:Stp (af σ ρ1) H00 Hb H0' H2:=sp.trans t2.stp fun a z=>.inl (ho a z);have ra3:=ra.mono gr.s0;have s3:aj H00 H0':=s00.trans gr.s0;split at ec
  ·cases ec
  ·rename_i ρ4 e4;refine⟨H0',ρ3,false,ρ4,st3,e4,fun Jy H'' t4=>?_⟩;dsimp only;rw[if_neg Px];obtain⟨hD4,n04,no4⟩:=t4.cN hD2 n02 no3;have hp4:=fun q e=>t4.cN (hp2 q e).1 (hp2 q e).2.1 (po3 q e);exact⟨ds.length-(i+1),by lia,Jy,ρ4,zN,we,t4.st,s3.trans t4.stp.s0,rfl,HN,ec,hD4,ra3.mono t4.stp.s0,n04,Nat.le_succ_of_le hal,sp3.trans t4.stp fun a z=>.inl (ho3 a z),hσ3,fun a z=>ho3 a (t4.own a z),fun j z=>t4.dfn j (L6 j z),hp4⟩
  ·rename_i ρ4 e4;refine⟨H0',ρ3,true,ρ4,st3,e4,fun Jy H'' t4=>?_⟩;dsimp only;rw[if_pos rfl];obtain⟨hD4,n04,no4⟩:=t4.cN hD2 n02 no3;have hp4:=fun q e=>t4.cN (hp2 q e).1 (hp2 q e).2.1 (po3 q e);split at ec
   ·cases ec
   rename_i x5 ρ5 e5;split at ec
   ·cases ec
   rename_i y6 ρ6 e6;refine⟨Jy,ρ4,x5,ρ5,t4.st,e5,fun v H5 Hc t5 r5=>?_⟩;obtain⟨H6,t6,b6,r6,_,_⟩:=take1 t5 (aj.refl _) r5 e6;obtain⟨hD6,n06,no6⟩:=t6.cN hD4 n04 no4;have hp6:=fun q e=>t6.cN (hp4 q e).1 (hp4 q e).2.1 (hp4 q e).2.2;refine⟨we,hD6,?_,ds.length-(i+1),by lia,H6,ρ6,zN++[y6],we++[v],t6.st.aside n06 no6,(s3.trans t4.stp.s0).trans t6.stp.s0,rfl,HN,ec,aq,?_,n06,?_,?_,hσ3,fun a z=>ho3 a (t4.own a (t6.own a z)),fun j z=>t6.dfn j (t4.dfn j (L6 j z)),fun q e=>⟨by rw[ao (hpD q e)];exact(hp6 q e).1,(hp6 q e).2.1,(hp6 q e).2.2⟩⟩
   ·rw[ra.length];unfold Dm.SZ at hsz;exact Nat.lt_of_le_of_lt (P0 hal (P0 (RO HN) hsz)) (by decide)
   ·exact((ra3.mono t4.stp.s0).mono t6.stp.s0).append (.cons r6 .nil)
   ·rw[Pd,QC];lia
   ·exact((sp3.trans t4.stp fun a z=>.inl (ho3 a z)).trans t6.stp fun a z=>.inl (ho3 a (t4.own a z))).aside hD
 ·have e':i=ds.length:=by lia
  subst e';rw[QX]at ec;cases ec;refine .inl ⟨js _ (Pb _),k _ H0c H' ?_ ?_ fun q e=>⟨(hpc q e).1,(hpc q e).2.1⟩⟩
  ·have sF:σ.length<=ρ2.length:=by
    rw[<- sc.len];refine QN.mp fun z=>?_;have q:=hσ σ'.length z;rw[PZ (Pb _),Py z]at q;cases q
   have tk:∀{j:Nat} {c:Dm.Cell},(ρ2.take ρ1.length)[j]?=some c->j<σ.length/\ρ2[j]?=some c:=fun {j c} h=>by
    have hj:j<ρ1.length:=by
     have:=(Pa.mp h).1;rw[P1]at this
     lia
    rw[QD hj]at h;exact⟨by rw[st1.len];exact hj,h⟩
   have own':∀a,af σ (ρ2.take ρ1.length) a->af σ' ρ2 a:=fun a ⟨j,d,h1,h2⟩=>by obtain⟨hj,h1⟩:=tk h1;exact⟨j,d,h1,(hσ j hj).trans h2⟩
   refine⟨⟨sc.same,?_,fun j d h=>?_,fun j d h=>?_,fun j j' d d' a h1 h2 h3 h4=>?_⟩,sp,fun a z=>ho a (own' a z),fun j z=>?_⟩
   ·rw[P1,<- st1.len];lia
   ·obtain⟨hj,h⟩:=tk h;obtain⟨v,q,r⟩:=sc.sh j d h;exact⟨v,(hσ j hj).symm.trans q,r⟩
   ·obtain⟨hj,h⟩:=tk h;obtain⟨v,q,r⟩:=sc.ow j d h;exact⟨v,(hσ j hj).symm.trans q,r⟩
   ·obtain⟨hj,h1⟩:=tk h1;obtain⟨hj',h2⟩:=tk h2;exact sc.dis j j' d d' a h1 h2 ((hσ j hj).trans h3) ((hσ j' hj').trans h4)
   ·trivial
  ·refine⟨D,rfl,hD,fun⟨j,d,h1,h2⟩=>?_,n0,we,hDl,ra⟩;have hj:j<ρ1.length:=by
    have:=(Pa.mp h1).1;rw[P1]at this
    lia
   rw[QD hj]at h1;exact nOc ⟨j,d,h1,(hσ j (by rw[st1.len];exact hj)).trans h2⟩
theorem rC{own:Nat}{el:FE}(hb:BD is g bd)(hl:∀i∈is,σ.length<=i)(h:tD (Dm.cC fi own bd t el) σ H Q) :
  tLC (tDI fi) own g (tDT t) (tD el) σ H Q:=by
 obtain⟨H0,ρ,x,ρ',st,e,k⟩:=h;unfold Dm.cC at e;split at e
 ·cases e
 rename_i ds ρ1 e1;split at e
 case isFalse=>cases e
 rename_i hsz;split at e
 ·cases e
 rename_i ys ρ2 e2;cases e;refine⟨H0,ρ,ds,ρ1,st,e1,fun J H00 Hb t1 jw D hD=>tO (pa:=none) hb hl t1.st (fun q e=>by cases e) (fun H0 H s0 s1 _=>jw H0 H s0 s1) hsz e2 (fun v H0' H' t2 r2 _=>k v H0' H' (t1.trans t2) (r2.early fun a n=>t1.stp.gone n)) D hD⟩
theorem Bj{n m:Nat}{H:Hp}(h:spD (Dm.fn n m body) vs H Q E):vs.length=n:=by
 obtain⟨H0,ds,z,s,rs,e,k⟩:=h;unfold Dm.fn at e;split at e
 ·rename_i hl;rw[rs.length];exact hl
 ·cases e
theorem N3{N:List Str}{n m:Nat}(hm:N.length=n+m)(h:spD (Dm.fn n m body) vs H Q E) :
  tDS body { nx:=fun _ H'=>Q .non H',rt:=Q } (start N vs) H:=by
 have hvn:=Bj h;obtain⟨H0,ds,z,s,rs,e,k⟩:=h;have hl:=rs.length;have no:∀a,¬af (start N vs) (ds.map Dm.Cell.sh++Ds m .un) a:=fun a ⟨i,d,h1,_⟩=>by
  by_cases hi:i<ds.length
  ·rw[Pg (by simpa using hi),PD]at h1;cases q:ds[i]? with
   |none=>rw[q]at h1;cases h1
   |some y=>rw[q]at h1;cases h1
  ·rw[PN (by simpa using hi),Qg]at h1;split at h1<;>cases h1
 have st:ay H0 H (start N vs) (ds.map Dm.Cell.sh++Ds m .un):=by
  refine⟨s,?_,fun i d h=>?_,fun i d h=>?_,fun i j d e a h1 h2 _ _=>?_⟩
  ·unfold L2.start;simp only[Pd,gV,Qi]
   lia
  ·have hi:i<ds.length:=by
    by_cases hi:i<ds.length
    ·exact hi
    ·rw[PN (by simpa using hi),Qg]at h;split at h<;>cases h
   rw[Pg (by simpa using hi),PD]at h;cases q:ds[i]? with
   |none=>rw[q]at h;cases h
   |some y=>rw[q]at h;cases h;obtain⟨v,hv,r⟩:=rs.get q;refine⟨v,?_,r⟩;unfold L2.start;rw[Pg (by simpa [hl] using hi),PD,hv];rfl
  ·by_cases hi:i<ds.length
   ·rw[Pg (by simpa using hi),PD]at h;cases q:ds[i]? with
    |none=>rw[q]at h;cases h
    |some y=>rw[q]at h;cases h
   ·rw[PN (by simpa using hi),Qg]at h;split at h<;>cases h
  ·by_cases hi:i<ds.length
   ·rw[Pg (by simpa using hi),PD]at h1;cases q:ds[i]? with
    |none=>rw[q]at h1;cases h1
    |some y=>rw[q]at h1;cases h1
   ·rw[PN (by simpa using hi),Qg]at h1;split at h1<;>cases h1
 have gr:∀{H0' H'},Stp (af (start N vs) (ds.map Dm.Cell.sh++Ds m .un)) H0 H H0' H'->aj H0' H'->aG H0 H H0' H':=fun {H0' H'} t ss=>⟨t.s0,fun a o e=>t.s1 a o e (no a),fun a o e=>(t.s2 a o e).imp id fun q=>q.elim id fun z=>absurd z (no a),ss⟩
 unfold Dm.fn at e;rw[if_pos (by rw[<- hl];exact hvn)]at e;split at e
 ·rename_i r ρ' e1;cases e;refine⟨H0,_,_,st,e1,fun σ' v H0' H' t r _=>k v H0' H' (gr t.stp t.st.same) ?_⟩;cases z with
  |val d=>exact r
  |new d=>obtain⟨a,e,n,n0,w⟩:=r;exact⟨a,e,n.elim id fun z=>absurd z (no a),n0,w⟩
 ·rename_i ρ' e1;cases e;exact⟨H0,_,_,st,e1,fun σ' H0' H' t=>k _ H0' H' (gr t.stp t.st.same) .non⟩
 ·cases e
end
end
open PySem PySem.Spec PyProof.Rows L2
noncomputable def aT(X:Cx)(nm:List Str)(scope:Scope)(own:List Str)(cl:List (Str×Addr))(C:Addr)(s:Shared)(H:Hp)(fp:List Addr):Cx where
 prog:=X.prog
 w:=X.w
 K:=X.K
 mg:=X.mg
 base:=X.base
 A:=X.A
 N:=nm++own
 s₀:=s
 H₀:=H
 env:=compEnvC scope cl C X.env
 outer:=X.stack
 stack:=X.stack
 ex:=fp
 fn:=fun _=>false
 calm:=X.calm
 pn:=[]
 xe:=fun _ _=>False
def PTs(X:Cx)(Kp:List Expr)(t:TT):Prop:=
 ∀(nC:List (Addr×Obj)) (s:Shared) (σ:L2.St) (H:Hp) (Q:Bool->Hp->Prop),Inv X nC σ H s->t σ H Q ->
  wpAny (model X.prog X.w) X.A (forIn Kp true fun c r=>if r=true then do let ok <- isTrue c X.env (eval c X.env);pure (QO ok) else pure (QO r)) (TP X nC σ Q) X.xe s
def mU:TT:=fun _ H Q=>Q true H
theorem jV{X:Cx}:PTs X [] mU:=fun nC s σ H Q I h=>wpAny_tests_nil ⟨H,I,h⟩
theorem EF{X:Cx}{c:Expr}{t:TT}(h:PT X c t):PTs X [c] t:=fun nC s σ H Q I hq=>wpAny_tests_one (h nC s σ H Q I hq)
theorem e_(env:Env):∀(names:List (Str×NameKind)) (cs:List (Str×Addr)),(∀y∈names,y.2=.free->∃c,env.cells.lookup y.1=some c) ->
  ∃cl,(forIn names cs fun(x:Str×NameKind) (r:List (Str×Addr))=>(if (x.2 == NameKind.free)=true then do let c <- cellOf env x.1;pure (QO ((x.1,c)::r)) else pure (QO r):Sem (ForInStep (List (Str×Addr)))))=pure cl /\
   (∀x c,cl.lookup x=some c->env.cells.lookup x=some c\/cs.lookup x=some c)/\(∀y∈names,y.2=.free->∃c,cl.lookup y.1=some c)/\(∀x c,cs.lookup x=some c->∃c',cl.lookup x=some c')
 |[],cs,_=>⟨cs,rfl,fun _ _ h=>.inr h,fun _ h=>(nomatch h),fun _ c h=>⟨c,h⟩⟩
 |(n,k)::r,cs,h=>by
  have hr:∀y∈r,y.2=.free->∃c,env.cells.lookup y.1=some c:=fun y hy=>h y (Dk _ hy);by_cases hk:k=.free
  ·subst hk;obtain⟨c,hc⟩:=h (n,.free) O9 rfl;obtain⟨cl,e,h1,h2,h3⟩:=e_ env r ((n,c)::cs) hr;refine⟨cl,?_,fun x c' q=>?_,fun y hy hf=>?_,fun x c' q=>?_⟩
   ·rw[List.forIn_cons];have e1:cellOf env n=pure c:=by unfold cellOf;rw[hc]
    simp only[beq_self_eq_true,if_true,e1,pure_bind];exact e
   ·rcases h1 x c' q with z | z
    ·exact .inl z
    ·rw[Qj]at z;cases hx:x == n with
     |true=>
      rw[hx]at z;have:x=n:=by simpa using hx
      subst this;injection z with z
      subst z;exact .inl hc
     |false=>rw[hx]at z;exact .inr z
   ·rcases Pk.mp hy with rfl | hy
    ·exact h3 n c (by rw[Qj,beq_self_eq_true])
    ·exact h2 y hy hf
   ·by_cases hx:x=n
    ·subst hx;exact h3 x c (by rw[Qj,beq_self_eq_true])
    ·have hx':(x == n)=false:=by simpa using hx
     exact h3 x c' (by rw[Qj,hx'];exact q)
  ·have hb:(k == NameKind.free)=false:=by simpa using hk
   obtain⟨cl,e,h1,h2,h3⟩:=e_ env r cs hr;refine⟨cl,?_,h1,fun y hy hf=>?_,h3⟩
   ·rw[List.forIn_cons];simp only[hb,Qu,if_false,pure_bind];exact e
   ·rcases Pk.mp hy with rfl | hy
    ·exact absurd hf hk
    ·exact h2 y hy hf
theorem mV{env:Env}{scope:Scope}(h:∀y∈scope.names,y.2=.free->∃c,env.cells.lookup y.1=some c) :
  ∃cl,closureFor scope env=pure cl/\(∀x c,cl.lookup x=some c->env.cells.lookup x=some c)/\∀y∈scope.names,y.2=.free->∃c,cl.lookup y.1=some c:=by
 obtain⟨cl,e,h1,h2,_⟩:=e_ env scope.names [] h;refine⟨cl,?_,fun x c q=>(h1 x c q).elim id fun z=>by simp at z,h2⟩;unfold closureFor;have e':(forIn scope.names ([]:List (Str×Addr)) fun(x:Str×NameKind) (r:List (Str×Addr))=>(if (x.2 == NameKind.free)=true then do let c <- cellOf env x.1;pure (QO ((x.1,c)::r)) else pure (QO r):Sem (ForInStep (List (Str×Addr)))))=pure cl:=e
 first
  |(rw[show (forIn scope.names ([]:List (Str×Addr)) _:Sem (List (Str×Addr)))=pure cl from e'];rfl)
  |(simp only[e'];rfl)
theorem rD{prog:Program}{w:World}{A:Around}{R:Result->Shared->Prop}{s:Shared}{HP target iter:Expr}{Kp:List Expr}{scope:Scope}{pos:Pos}{it Cr:Value}{env:Env}(I:Nat->Shared->Prop)
  (turn:∀ n s,I n s→wpAny (model prog w) A (pyNext it) (fun r s₁=>match r with
   |none=>R (.ok .next) s₁
   | some v=>wpAny (model prog w) A (letOwnedTupleGo target it v) (fun _ s₁'=>wpAny (model prog w) A (assign target env v) (fun _ s₂=>
     wpAny (model prog w) A (forIn Kp true fun c r=>if r=true then do let ok ← isTrue c env (eval c env);pure (QO ok) else pure (QO r)) (fun ok s₃=>
      if ok=true then wpAny (model prog w) A (eval HP env) (fun x s₄=>wpAny (model prog w) A (call (.builtin "list.append") [Cr,x]) (fun _ s₅=>∃m,m<n/\I m s₅) (fun _ _=>False) s₄) (fun _ _=>False) s₃
      else ∃m,m<n/\I m s₃) (fun _ _=>False) s₂) (fun _ _=>False) s₁') (fun _ _=>False) s₁) (fun _ _=>False) s)
  (n:Nat) (h:I n s) :
  codeAny (model prog w) A (.compLoop (.ListComp HP [⟨target,iter,Kp,0⟩] scope pos) 0 it Cr env) R s:=by
 have no:∀{P:Value->Shared->Prop} (x:Value) (s':Shared),False->P x s':=fun _ _ f=>f.elim;refine codeAny_loop rfl I (fun n s hI=>?_) n h;show wpAny _ A ((compTurn (.ListComp HP [⟨target,iter,Kp,0⟩] scope pos) 0 it Cr env).onRaise (fun x=>do noteFrame x env;theTreesLotGoes x)) _ _ s;refine wpAny_noted ?_;rw[compTurn_list];refine wpAny_bind (wpAny_standAt (wpAny_bind (wpAny_mono (turn n s hI) (fun r s₁ h₁=>?_) no)));cases r with
 |none=>exact wpAny_pure h₁
 |some v=>
  refine wpAny_bind (wpAny_mono h₁ (fun _ s₁' h₁'=>?_) no);refine wpAny_bind (wpAny_mono h₁' (fun _ s₂ h₂=>wpAny_bind (wpAny_mono h₂ (fun ok s₃ h₃=>?_) no)) no);cases ok with
  |false=>exact wpAny_pure ⟨rfl,h₃⟩
  |true=>exact wpAny_bind (wpAny_bind (wpAny_mono h₃ (fun x s₄ h₄=>wpAny_bind (wpAny_mono h₄ (fun _ s₅ h₅=>wpAny_pure (wpAny_pure ⟨rfl,h₅⟩)) no)) no))
theorem cU(env:Env):∀(names:List (Str×NameKind)) (x:Str) (k:NameKind),
  (names.map fun(n,k)=>if (k == NameKind.free&&env.scope.kind == .function&&env.kindOf n == some .cell) then (n,R4) else (n,k)).lookup x=some k ->
  ∃k0,names.lookup x=some k0/\(k=k0\/(k0=.free/\k=.cell))
 |[],x,k,h=>by simp at h
 |(n,k1)::r,x,k,h=>by
  have h:List.lookup x ((if (k1 == NameKind.free&&env.scope.kind == .function&&env.kindOf n == some .cell)=true then (n,R4) else (n,k1))::r.map fun(n,k)=>if (k == NameKind.free&&env.scope.kind == .function&&env.kindOf n == some .cell) then (n,R4) else (n,k))=some k:=h;cases hx:x == n with
  |true=>
   by_cases hc:(k1 == NameKind.free&&env.scope.kind == .function&&env.kindOf n == some .cell)=true
   ·rw[if_pos hc,Qj,hx]at h;injection h with h
    have hk:k1=.free:=by simp only[Pu,beq_iff_eq]at hc;exact hc.1.1
    exact⟨k1,by rw[Qj,hx],.inr ⟨hk,h.symm⟩⟩
   ·rw[if_neg hc,Qj,hx]at h;injection h with h
    exact⟨k1,by rw[Qj,hx],.inl h.symm⟩
  |false=>
   by_cases hc:(k1 == NameKind.free&&env.scope.kind == .function&&env.kindOf n == some .cell)=true
   ·rw[if_pos hc,Qj,hx]at h;obtain⟨k0,e,z⟩:=cU env r x k h;exact⟨k0,by rw[Qj,hx];exact e,z⟩
   ·rw[if_neg hc,Qj,hx]at h;obtain⟨k0,e,z⟩:=cU env r x k h;exact⟨k0,by rw[Qj,hx];exact e,z⟩
structure b7(X:Cx)(nm:List Str)(scope:Scope):Prop where
 kind:scope.kind=.function
 cell:∀y∈scope.names,y.2≠.cell
 names:∀y∈scope.names,y.2=.local->scope.names.lookup y.1=some .local
 free:∀y∈scope.names,y.2=.free->X.env.kindOf y.1=some .cell\/X.env.kindOf y.1=some .free
 apart:∀x∈nm,scope.names.lookup x≠some .local
 len:nm.length=X.N.length
 mask:∀(i:Nat) (x:Str),nm[i]?=some x->X.N[i]?=some x\/scope.names.lookup x=none
section
variable{X:Cx}{nm:List Str}{HP tg iter:Expr}{Kp:List Expr}{scope:Scope}{pos:Pos}{own:List Str}{wi:TI}{g:TG}{tt:TT}{te:TE}
theorem p6{nC:List (Addr×Obj)}{s2:Shared}{σ:L2.St}{H2:Hp}{cl:List (Str×Addr)}{it:Addr}{fp:List Addr}{tn:Nat->Heap->Prop}{J:It}{Q:VK}{E:Value->Shared->Prop}{RR:Value->Addr->Result->Shared->Prop}
  (hc:X.calm=true) (S:b7 X nm scope) (mW:∀x c,cl.lookup x=some c->X.env.cells.lookup x=some c) (zO:∀y∈scope.names,y.2=.free->∃c,cl.lookup y.1=some c)
  (hg:∀cl C s H fp,PG (aT X nm scope own cl C s H fp) tg g) (ht:∀cl C s H fp,PTs (aT X nm scope own cl C s H fp) Kp tt) (he:∀cl C s H fp,PE (aT X nm scope own cl C s H fp) HP te)
  (I2:Inv X nC σ H2 s2) (T:Turn X.prog X.w X.K tg J fp it tn) (st2:tn 0 s2.heap) (f2:∀b∈fp,qU X nC H2 b)
  (hR:∀ D,H2 D=none→∃ W:Nat→Nat→L2.St→Hp→Prop,
   (∃m,W 0 m (σ++Ds own.length none) (upd H2 D (.lst [])))/\∀i m σ' H',W i m σ' H' ->
    (J.stop i H'∧Q (.ref D) H')∨(J.go i H'∧∀ x H2,J.yld i H' x H2→g x σ' H2 fun σ2 H3=>tt σ2 H3 fun b H4=>if b=true
     then te σ2 H4 fun y H5=>∃Cr,H5 D=some (.lst Cr)/\Cr.length<sizeLine/\∃m',m'<m/\W (i+1) m' σ2 (upd H5 D (.lst (Cr++[y])))
     else ∃m',m'<m/\W (i+1) m' σ2 H4))
  (N4:∀D C H6 s6,Inv X nC σ H6 s6->H6 C=none->C≠X.env.locals->X.s₀.heap.objs.size<=C->(∀x c,X.env.cells.lookup x=some c->c≠C)->(∀p∈X.pn++nC,p.1≠C)->(∃m,s6.heap.Ns C m)->Q (.ref D) H6->RR (.ref D) C (.ok .next) s6) :
  wpAny (model X.prog X.w) X.A (newList []) (fun Cr s₃=>wpAny (model X.prog X.w) X.A (newFunctionEnv scope X.env.globals cl [] X.env.qual none .none (some X.env)) (fun cenv s₄=>codeAny (model X.prog X.w) X.A (.compStart (.ListComp HP [⟨tg,iter,Kp,0⟩] scope pos) 0 (.ref it) Cr { cenv with scope:=relabel scope X.env }) (RR Cr cenv.locals) s₄) E s₃) E s2:=by
 have no:∀{P:Value->Shared->Prop} (x:Value) (s':Shared),False->P x s':=fun _ _ f=>f.elim;refine wpAny_newObj_type (wpAny_newFunctionEnv S.cell (by intro y hy;simp at hy) (fun h₁ hns₁ hsb₁=>?_) S.kind);dsimp only at hns₁ hsb₁ ⊢;have I3:Inv X nC σ (upd H2 s2.heap.objs.size (.lst [])) { s2 with heap:=s2.heap.push { cls:=.type "list",dict:=none,data:=.seq ([]:List Value).toArray } }:=I2.Jl (t':=s2.toks) (ys:=[]) (its:=[]) .nil (Qf _)
 generalize hG2:s2.heap.push { cls:=.type "list",dict:=none,data:=.seq ([]:List Value).toArray }=G2 at hns₁ hsb₁ I3 ⊢
 have hC:G2.objs.size=s2.heap.objs.size+1:=by rw[<- hG2,Heap.size_push]
 have up2:∀b o,s2.heap.get? b=some o->G2.get? b=some o:=fun b o e=>hG2▸Ph _ e;have up3:∀b o,G2.get? b=some o->h₁.get? b=some o:=fun b o e=>hsb₁.extBut b o (P6 (Po e)) (Ph _ e);have N5:G2.get? G2.objs.size=none:=Heap.get?_none_of_le (Pb _);have fpo:∀b∈fp,∃o,s2.heap.get? b=some o:=fun b hb=>by obtain⟨o,e,_⟩:=T.obj 0 _ st2 b hb;exact⟨o,e⟩
 have fpC:∀b∈fp,b≠G2.objs.size:=fun b hb=>by obtain⟨o,e⟩:=fpo b hb;exact P6 (Po (up2 b o e))
 have H3C:(upd H2 s2.heap.objs.size (.lst [])) G2.objs.size=none:=I3.hok.fresh (Pb _);have fpD:∀b∈fp,b≠s2.heap.objs.size:=fun b hb=>by obtain⟨o,e⟩:=fpo b hb;exact P6 (Po e)
 have L7:∀b∈fp,b∉frs X.stack:=fun b hb z=>by
  rcases Pk.mp (I3.vM b z) with y | y
  ·exact(f2 b hb).2.1 y
  ·exact(f2 b hb).2.2.1 y
 have ok':(aT X nm scope own cl G2.objs.size { s2 with heap:=G2 } (upd H2 s2.heap.objs.size (.lst [])) fp).Ok:=by
  refine ⟨I3.ok.mod,S.kind,I3.ok.glob,I3.ok.blt,Pb _,fun x y c e1 e2=>I3.ok.inj x y c (mW x c e1) (mW y c e2),fun x hx=>?_,fun x c z=>(nomatch z),I3.ok.hd,I3.ok.frames,.inl rfl,
   fun b hb=>⟨fpC b hb,fun x c e=>(f2 b hb).2.2.2.2.1 x c (mW x c e)⟩,fun b o e=>I3.bs b o e,P0 I3.ok.bsz I3.sz,fun b o e hb=>?_,fun b hb=>L7 b hb,I3.stack,I3.xS⟩
  ·have hx:(relabel scope X.env).names.lookup x=some .cell\/(relabel scope X.env).names.lookup x=some .free:=hx;have key:∀k,(relabel scope X.env).names.lookup x=some k->k≠.local->k=.cell\/k=.free->∃c,cl.lookup x=some c:=fun k hk _ hkk=>by
    obtain⟨k0,e0,z⟩:=cU X.env scope.names x k hk;have m0:=PySem.mem_of_lookup e0;have f0:k0=.free:=by
     rcases z with z | z
     ·subst z;rcases hkk with q | q
      ·exact absurd q (S.cell _ m0)
      ·exact q
     ·exact z.1
    exact zO (x,k0) m0 f0
   rcases hx with hx | hx
   ·exact key _ hx (by decide) (.inl rfl)
   ·exact key _ hx (by decide) (.inr rfl)
  ·rcases (f2 b hb).2.2.2.1 with z | z
   ·exact I3.ok.Az b o e z
   ·exact absurd (Pq (Po e) (P0 I3.ok.bsz z)) (QT _)
 have stat:∀{H':Hp},(∀b∈fp,H' b=none)->∀b∈fp,qU (aT X nm scope own cl G2.objs.size { s2 with heap:=G2 } (upd H2 s2.heap.objs.size (.lst [])) fp) [] H' b:=fun hn b hb=>⟨hn b hb,fpC b hb,L7 b hb,.inl hb,fun x c e=>(f2 b hb).2.2.2.2.1 x c (mW x c e),fun p hp=>(nomatch (show p∈([]:List (Addr×Obj)) from hp))⟩
 have I4:Inv (aT X nm scope own cl G2.objs.size { s2 with heap:=G2 } (upd H2 s2.heap.objs.size (.lst [])) fp) [] (σ++Ds own.length none) (upd H2 s2.heap.objs.size (.lst [])) { s2 with heap:=h₁,toks:=s2.toks+([]:List (Str×Value)).length }:=by
  refine⟨ok',rfl,I3.bare,Un.kept up3,⟨_,hns₁,fun i x v e1 e2 e3=>?_⟩,fun x c e=>?_,H3C,fun x c e=>I3.iN x c (mW x c e),fun p hp=>(nomatch (show p∈([]:List (Addr×Obj)) from hp)),I3.hok.kept up3,?_⟩
  ·have e1:(nm++own)[i]?=some x:=e1;have hi:i<σ.length:=by
    by_cases hi:i<σ.length
    ·exact hi
    ·rw[PN (QN.mp hi),Qg]at e2;split at e2<;>cases e2
   rw[Pg hi]at e2;rw[Pg (by rw[S.len,<- I3.len];exact hi)]at e1;have key:∀k,(relabel scope X.env).names.lookup x=some k->k=.local\/k=.cell\/k=.free->scope.names.lookup x=some .free/\(k=.cell\/k=.free):=fun k hk hkk=>by
    obtain⟨k0,e0,z⟩:=cU X.env scope.names x k hk;have m0:=PySem.mem_of_lookup e0;have n1:k0≠.local:=fun y=>S.apart x (QL e1) (y▸e0);have n2:k0≠.cell:=S.cell _ m0;rcases z with z | z
    ·subst z;rcases hkk with q | q | q
     ·exact absurd q n1
     ·exact absurd q n2
     ·subst q;exact⟨e0,.inr rfl⟩
    ·obtain⟨z1,z2⟩:=z;subst z1;subst z2;exact⟨e0,.inl rfl⟩
   have hk:∃k,(relabel scope X.env).names.lookup x=some k/\(k=.cell\/k=.free)/\scope.names.lookup x=some .free:=by
    rcases (show (relabel scope X.env).names.lookup x=some .local\/(relabel scope X.env).names.lookup x=some .cell\/(relabel scope X.env).names.lookup x=some .free from e3) with q | q | q
    ·obtain⟨a,b⟩:=key _ q (.inl rfl);exact⟨_,q,b,a⟩
    ·obtain⟨a,b⟩:=key _ q (.inr (.inl rfl));exact⟨_,q,b,a⟩
    ·obtain⟨a,b⟩:=key _ q (.inr (.inr rfl));exact⟨_,q,b,a⟩
   obtain⟨k,hk1,hk2,hk3⟩:=hk;have m0:=PySem.mem_of_lookup hk3;obtain⟨c,hcc⟩:=zO (x,.free) m0 rfl;obtain⟨m,hn,hl⟩:=I3.loc;have hout:=S.free (x,.free) m0 rfl;have N6:Vis X.env.scope x:=by
    rcases hout with q | q
    ·exact .inr (.inl q)
    ·exact .inr (.inr q)
   have e1':X.N[i]?=some x:=by
    rcases S.mask i x e1 with z | z
    ·exact z
    ·rw[z]at hk3;cases hk3
   obtain⟨u,ru,lk⟩:=hl i x v e1' e2 N6;refine⟨u,ru,.inr ⟨?_,c,hcc,?_⟩⟩
   ·rcases hk2 with q | q
    ·subst q;exact .inl hk1
    ·subst q;exact .inr hk1
   ·rcases lk with⟨q,_⟩ | ⟨_,c',e',z⟩
    ·rcases hout with y | y
     ·rw[q]at y;cases y
     ·rw[q]at y;cases y
    ·rw[mW x c hcc]at e';cases e';obtain⟨o,ho,hd⟩:=z;exact⟨o,up3 c o ho,hd⟩
  ·obtain⟨v,o,ho,hd⟩:=I3.cell x c (mW x c e);exact⟨v,o,up3 c o ho,hd⟩
  ·show (σ++Ds own.length none).length=(nm++own).length;rw[Pd,Pd,Qi,I3.len,S.len]
 obtain⟨W,⟨m0,w0⟩,turn⟩:=hR s2.heap.objs.size I2.fresh;have st4:tn 0 h₁:=T.keep 0 _ _ st2 fun b hb o e=>up3 b o (up2 b o e);have N7:∀b∈fp,(upd H2 s2.heap.objs.size (.lst [])) b=none:=fun b hb=>by rw[ao (fpD b hb)];exact(f2 b hb).1
 have MQ:∀s₃:Shared,s₃={ s2 with heap:=h₁,toks:=s2.toks+([]:List (Str×Value)).length } ->
   codeAny (model X.prog X.w) X.A (.compLoop (.ListComp HP [⟨tg,iter,Kp,0⟩] scope pos) 0 (.ref it) (.ref s2.heap.objs.size) (compEnvC scope cl G2.objs.size X.env))
    (RR (.ref s2.heap.objs.size) G2.objs.size) s₃:=by
  rintro s₃ rfl;refine rD (fun n s'=>∃i σ' H',Inv (aT X nm scope own cl G2.objs.size { s2 with heap:=G2 } (upd H2 s2.heap.objs.size (.lst [])) fp) [] σ' H' s'/\tn i s'.heap/\(∀b∈fp,H' b=none)/\W i n σ' H') ?_ m0
   ⟨0,_,_,I4,st4,N7,w0⟩
  rintro n s5 ⟨i,σ5,H5,I5,st5,fr5,w5⟩;rcases turn i n σ5 H5 w5 with⟨stop,q⟩ | ⟨go,step⟩
  ·refine wpAny_mono (T.done (aT X nm scope own cl G2.objs.size { s2 with heap:=G2 } (upd H2 s2.heap.objs.size (.lst [])) fp) rfl rfl rfl hc i [] s5 σ5 H5 (fun _ _=>False) I5 (stat fr5) st5 stop) (fun r s6 hr6=>?_) no;obtain⟨hr,I6⟩:=hr6;subst hr;have I7:Inv X nC σ H5 s6:=I3.Ls (ch:=fp) I6.os I6.base I6.hok I6.bare fun b hb=>⟨(f2 b hb).2.2.2.1,(f2 b hb).2.1,(f2 b hb).2.2.2.2.1,(f2 b hb).2.2.2.2.2⟩;refine N4 _ _ H5 s6 I7 I6.free (RP (show X.env.locals<G2.objs.size from I3.lt)) I3.sz (fun x c e=>?_) (fun p hp=>?_) (let ⟨m,hn,_⟩:=I6.loc;⟨m,hn⟩) q
   ·obtain⟨v,z⟩:=I3.cell x c e;exact P6 z.lt
   ·exact P6 (Po (I3.pin p hp).1)
  ·refine wpAny_mono (T.item (aT X nm scope own cl G2.objs.size { s2 with heap:=G2 } (upd H2 s2.heap.objs.size (.lst [])) fp) rfl rfl rfl hc i [] s5 σ5 H5 (fun _ _=>False) I5 (stat fr5) st5 go) (fun r s6 hr6=>?_) no;obtain⟨u,hr,h6⟩:=hr6;subst hr;refine wpAny_mono h6 (fun _ s7 h7=>?_) no;obtain⟨x,H7,I7,r7,y7,st7,fr7⟩:=h7;have I7':=I7.pinned (stat fr7) (T.obj _ _ st7);have again:∀{s9:Shared} {σ9:L2.St} {H9:Hp} {m':Nat},m'<n->Inv (aT X nm scope own cl G2.objs.size { s2 with heap:=G2 } (upd H2 s2.heap.objs.size (.lst [])) fp) ([]++mh fp s7.heap) σ9 H9 s9->W (i+1) m' σ9 H9 ->
     ∃m,m<n/\∃i σ' H',Inv (aT X nm scope own cl G2.objs.size { s2 with heap:=G2 } (upd H2 s2.heap.objs.size (.lst [])) fp) [] σ' H' s9/\tn i s9.heap/\(∀b∈fp,H' b=none)/\W i m σ' H':=fun {s9 σ9 H9 m'} hm I9 w9=>by
    refine⟨m',hm,i+1,σ9,H9,I9.jO,T.keep _ _ _ st7 fun b hb o e=>(I9.pin (b,o) (PF _ (PF _ (fP hb e)))).1,fun b hb=>?_,w9⟩;obtain⟨o,e,d⟩:=T.obj _ _ st7 b hb;exact(I9.pin (b,o) (PF _ (PF _ (fP hb e)))).2.1
   refine wpAny_mono (hg cl G2.objs.size _ _ fp _ s7 σ5 H7 x u _ I7' r7 (step x H7 y7)) (fun _ s8 h8=>?_) no;obtain⟨σ8,H8,I8,q8⟩:=h8;refine wpAny_mono (ht cl G2.objs.size _ _ fp _ s8 σ8 H8 _ I8 q8) (fun b s9 h9=>?_) no;obtain⟨H9,I9,q9⟩:=h9;cases b with
   |false=>rw[if_neg Px]at q9 ⊢;obtain⟨m',hm,w9⟩:=q9;exact again hm I9 w9
   |true=>rw[if_pos rfl]at q9 ⊢;refine wpAny_mono (he cl G2.objs.size _ _ fp _ s9 σ8 H9 _ I9 q9) (fun y s10 h10=>?_) no;obtain⟨yv,H10,I10,r10,Cr,hacc,sF,m',hm,w10⟩:=h10;refine wpAny_mono (kD (X:=aT X nm scope own cl G2.objs.size { s2 with heap:=G2 } (upd H2 s2.heap.objs.size (.lst [])) fp) _ s10 σ8 H10 (.ref s2.heap.objs.size) [yv] (.ref s2.heap.objs.size) [y] (fun _ H'=>H'=upd H10 s2.heap.objs.size (.lst (Cr++[yv]))) I10 rfl (.cons r10 .nil) ⟨_,Cr,yv,rfl,rfl,hacc,sF,rfl⟩) (fun _ s11 h11=>?_) no;obtain⟨_,H11,I11,_,e11⟩:=h11;subst e11;exact again hm I11 w10
 exact codeAny_compStart_list (MQ _ rfl) (T.self _ 0 _ _ _ st4 (MQ _ rfl))
theorem rE(hc:X.calm=true)(S:b7 X nm scope)(hi:PI X tg iter wi)
  (hg:∀cl C s H fp,PG (aT X nm scope own cl C s H fp) tg g) (ht:∀cl C s H fp,PTs (aT X nm scope own cl C s H fp) Kp tt) (he:∀cl C s H fp,PE (aT X nm scope own cl C s H fp) HP te)
  (hs:∀x,foldedSetIterable iter X.env x=pure x:=by intro _;rfl):PE X (.ListComp HP [⟨tg,iter,Kp,0⟩] scope pos) (tLC wi own.length g tt te):=by
 intro nC s σ H Q I h;obtain⟨cl,hclos,mW,zO⟩:=mV (env:=X.env) (scope:=scope) fun y hy hf=>I.ok.has y.1 (S.free y hy hf);rw[eval_ListComp];refine wpAny_comprehension_free (use:=none) rfl hs hclos S.kind S.names (thn (hi nC s σ H _ I h) fun v s1 h1=>thn h1 fun itv s2 h2=>?_);obtain⟨it,fp,tn,J,H2,e,I2,T,st2,f2,hR⟩:=h2;subst e;refine p6 (Q:=Q) (RR:=fun Cr C=>compPost (model X.prog X.w) X.A X.xe none (EP X nC σ Q) Cr C) hc S mW zO hg ht he I2 T st2 f2 hR ?_;intro D C H6 s6 I6 hCn hCL hCs hCc hCp hns q;obtain⟨m,hn⟩:=hns;refine⟨m,hn,fun h' hs'=>⟨.ref D,H6,I6.turned (t':=s6.toks) (fun b o hb e=>(hs'.2 b hb).trans e) hCn hCL (.inr hCs) hCc hCp,rfl,q⟩⟩
theorem cA{i:Nat}{y:Str}{py FJ:Pos}(hN:X.N.Nodup)(hi':X.N[i]?=some y)(hy:Loc X.env.scope y)(hc:X.calm=true)(S:b7 X nm scope)(hi:PI X tg iter wi)
  (hg:∀cl C s H fp,PG (aT X nm scope own cl C s H fp) tg g) (ht:∀cl C s H fp,PTs (aT X nm scope own cl C s H fp) Kp tt) (he:∀cl C s H fp,PE (aT X nm scope own cl C s H fp) HP te)
  (hsw:swapsWith (.ListComp HP [⟨tg,iter,Kp,0⟩] scope pos) (some (.Name y py)) FJ.line X.env=pure true:=by rfl)
  (hs:∀x,foldedSetIterable iter X.env x=pure x:=by intro _;rfl) (hf:X.fn y=true\/X.env.scope.names.lookup y=some .local:=by trivial) :
  PS X (.Assign [.Name y py] (.ListComp HP [⟨tg,iter,Kp,0⟩] scope pos) FJ) (ku (tLC wi own.length g tt te) (cW i)):=by
 intro nC s σ H Dn I h;obtain⟨cl,hclos,mW,zO⟩:=mV (env:=X.env) (scope:=scope) fun y hy hf=>I.ok.has y.1 (S.free y hy hf);rw[exec_Assign_Name_used _ _ _ _ hsw];refine wpAny_bind (wpAny_standAt (wpAny_bind ?_));show wpAny _ X.A (do let _ <- comprehension (.ListComp HP [⟨tg,iter,Kp,0⟩] scope pos) scope X.env _ (newList []) false (eval iter X.env) (some (assign (.Name y py) X.env))) _ _ s;refine wpAny_bind (wpAny_mono (wpAny_comprehension_free (use:=some (assign (.Name y py) X.env)) (Q:=fun _ s'=>SP X nC Dn .next s') rfl hs hclos S.kind S.names
  (thn (hi nC s σ H _ I h) fun v s1 h1=>thn h1 fun itv s2 h2=>?_)) (fun _ s' hq=>wpAny_pure (wpAny_pure hq)) fun _ _ e=>e)
 obtain⟨it,fp,tn,J,H2,e,I2,T,st2,f2,hR⟩:=h2;subst e;refine p6 (Q:=fun x H1=>cW i x σ H1 Dn.nx) (RR:=fun Cr C=>compPost (model X.prog X.w) X.A X.xe (some (assign (.Name y py) X.env)) (fun _ s'=>SP X nC Dn .next s') Cr C) hc S mW zO hg ht he I2 T st2 f2 hR ?_;intro D C H6 s6 I6 hCn hCL hCs hCc hCp hns q;obtain⟨m,hn⟩:=hns;show wpAny _ X.A (assign (.Name y py) X.env (.ref D)) _ _ _;refine wpAny_assign_Name (pM I6 hN hi' hy (v:=.ref D) rfl (fun s7 I7 h7=>?_) hf);obtain⟨a,sb,ha⟩:=h7;have hCa:C≠a:=by
  rcases ha with ha | ha
  ·rw[ha];exact hCL
  ·exact P4 (hCc y a ha)
 refine⟨m,hn.sameBut sb hCa,fun h' hs'=>⟨_,H6,I7.turned (t':=s7.toks) (fun b o hb e=>(hs'.2 b hb).trans e) hCn hCL (.inr hCs) hCc hCp,q⟩⟩
end
mutual
noncomputable def toPy:Dat->PyData
 |.non=>.none
 |.bl b=>.bool b
 |.int i=>.int i
 |.str s=>.str ⟨s.toArray⟩
 |.tup xs=>.tuple (b8 xs)
 |.lst xs=>.list (b8 xs)
 |.dct _ _=>.dict []
 |.dcp _ _=>.dict []
 |.exc _=>.dict []
 |.dh _ _=>.dict []
 |.fn _=>.dict []
noncomputable def b8:List Dat->List PyData
 |[]=>[]
 |x::xs=>toPy x::b8 xs
end
mutual
theorem jW:∀a b:Dat,Qz (toPy a) (toPy b)=Dm.eqD a b
 |.non,b=>by cases b<;>simp[toPy,Qz,Dm.eqD]
 |.bl x,b=>by cases b<;>simp[toPy,Qz,Dm.eqD,Dm.b2i]
 |.int x,b=>by cases b<;>simp[toPy,Qz,Dm.eqD,Dm.b2i]
 |.str x,b=>by
  cases b with
  |str y=>
   simp only[toPy,Qz,Dm.eqD];rw[Rc];simp only[beq_iff_eq];constructor
   ·intro h;have h:=congrArg (fun s:Str=>s.cps.toList) h
    simpa using h
   ·rintro rfl;rfl
  |_=>simp[toPy,Qz,Dm.eqD]
 |.tup xs,b=>by
  cases b with
  |tup ys=>simp only[toPy,Qz,Dm.eqD];exact kH xs ys
  |_=>simp[toPy,Qz,Dm.eqD]
 |.lst xs,b=>by
  cases b with
  |lst ys=>simp only[toPy,Qz,Dm.eqD];exact kH xs ys
  |_=>simp[toPy,Qz,Dm.eqD]
 |.dct ks vs,b=>by cases b<;>simp[toPy,Qz,Dm.eqD]
 |.dcp ks vs,b=>by cases b<;>simp[toPy,Qz,Dm.eqD]
 |.exc C,b=>by cases b<;>simp[toPy,Qz,Dm.eqD]
 |.dh C v,b=>by cases b<;>simp[toPy,Qz,Dm.eqD]
 |.fn C,b=>by cases b<;>simp[toPy,Qz,Dm.eqD]
theorem kH:∀a b:List Dat,RJ (b8 a) (b8 b)=Dm.eG a b
 |[],b=>by cases b<;>simp[b8,RJ,Dm.eG]
 |x::xs,b=>by
  cases b with
  |nil=>simp[b8,RJ,Dm.eG]
  |cons y ys=>simp only[b8,RJ,Dm.eG];rw[jW x y,kH xs ys]
end
theorem Bk{s:List Nat}(h:(s.all fun c=>decide (c<128))=true):PyData.strOk ⟨s.toArray⟩=true:=by unfold PyData.strOk;rw[Array.all_eq_true'];intro c hc;have h1:=Qe.mp h c (by simpa using hc);have h2:c<128:=of_decide_eq_true h1;exact decide_eq_true (by lia)
theorem b9{P:Program}{w:World}{H:Hp}{h:Heap}(ok:HOk P w H h):∀(n:Nat),
  (∀(v:V) (d:Dat) (u:Value),Rep H v d->RelV v u->Dm.okD n d=true->∃as,Reads h u (toPy d) as/\(toPy d).canLay0=true/\(toPy d).depth<=n) /\
  (∀(vs:List V) (ds:List Dat) (us:List Value),av H vs ds->Vals vs us->ds.all (Dm.okD n)=true->∃as,ReadsAll h us (b8 ds) as/\RL (b8 ds)=true/\Q0 (b8 ds)<=n):=by
 intro n
 induction n with
 |zero=>
  have one:∀(v:V) (d:Dat) (u:Value),Rep H v d->RelV v u->Dm.okD 0 d=true->∃as,Reads h u (toPy d) as/\(toPy d).canLay0=true/\(toPy d).depth<=0:=by
   intro v d u r rv k;cases r with
   |non=>cases rv;exact⟨_,.none,rfl,Pb _⟩
   |bl b=>cases rv;exact⟨_,.bool b,rfl,Pb _⟩
   |int i=>obtain⟨t,rfl⟩:=rv;exact⟨_,.int i t,rfl,Pb _⟩
   |str s=>obtain⟨t,rfl⟩:=rv;exact⟨_,.str _ t,Bk k,Pb _⟩
   |tup _ _=>cases k
   |lst _ _=>cases k
   |dct _ _ _=>cases k
   |dcp _ _ _=>cases k
   |exc _=>cases k
   |dh _ _=>cases k
   |fn _=>cases k
  refine⟨one,fun vs ds=>?_⟩
  induction ds generalizing vs with
  |nil=>intro us r rv _;cases r;cases rv;exact⟨_,.nil,rfl,Pb _⟩
  |cons d ds ih=>
   intro us r rv k;cases r with
   |cons r rs=>
    cases rv with
    |cons q qs=>rw[Rb,Pu]at k;obtain⟨a1,h1,h2,h3⟩:=one _ _ _ r q k.1;obtain⟨a2,h4,h5,h6⟩:=ih _ _ rs qs k.2;exact⟨_,.cons h1 h4,by simp[b8,RL,h2,h5],by simp only[b8,Q0];lia⟩
 |succ n ih=>
  have one:∀(v:V) (d:Dat) (u:Value),Rep H v d->RelV v u->Dm.okD (n+1) d=true->∃as,Reads h u (toPy d) as/\(toPy d).canLay0=true/\(toPy d).depth<=n+1:=by
   intro v d u r rv k;cases r with
   |non=>cases rv;exact⟨_,.none,rfl,Qf _⟩
   |bl b=>cases rv;exact⟨_,.bool b,rfl,Qf _⟩
   |int i=>obtain⟨t,rfl⟩:=rv;exact⟨_,.int i t,rfl,Qf _⟩
   |str s=>obtain⟨t,rfl⟩:=rv;exact⟨_,.str _ t,Bk k,Qf _⟩
   |tup q rs=>cases rv;obtain⟨z,its,vr,ob,e,hc,m,hd⟩:=ok _ _ q;obtain⟨as,h1,h2,h3⟩:=ih.2 _ _ _ rs vr k;exact⟨_,.tuple e hc hd h1,h2,by simp only[toPy,PyData.depth];lia⟩
   |lst q rs=>cases rv;obtain⟨z,its,m,vr,e⟩:=q.ok ok;obtain⟨as,h1,h2,h3⟩:=ih.2 _ _ _ rs vr k;exact⟨_,.list e rfl rfl h1,h2,by simp only[toPy,PyData.depth];lia⟩
   |dct _ _ _=>cases k
   |dcp _ _ _=>cases k
   |exc _=>cases k
   |dh _ _=>cases k
   |fn _=>cases k
  refine⟨one,fun vs ds=>?_⟩
  induction ds generalizing vs with
  |nil=>intro us r rv _;cases r;cases rv;exact⟨_,.nil,rfl,Qf _⟩
  |cons d ds ih=>
   intro us r rv k;cases r with
   |cons r rs=>
    cases rv with
    |cons q qs=>rw[Rb,Pu]at k;obtain⟨a1,h1,h2,h3⟩:=one _ _ _ r q k.1;obtain⟨a2,h4,h5,h6⟩:=ih _ _ rs qs k.2;exact⟨_,.cons h1 h4,by simp[b8,RL,h2,h5],by simp only[b8,Q0];lia⟩
theorem i6.full{H0 H:Hp}(s:aj H0 H){v:V}{d:Dat}(r:i6 H0 H v d):Rep H v d:=by
 rcases r with r | ⟨a,rfl,w⟩
 ·exact r.mono s
 ·cases d with
  |lst ds=>obtain⟨xs,q,rs⟩:=w;exact .lst (.inl q) (rs.mono s)
  |dct ks ds=>obtain⟨kvs,q,e,rs⟩:=w;exact .dct q e (rs.mono s)
  |dcp ks ds=>obtain⟨kvs,q,e,rs⟩:=w;exact .dcp q (e.mono s) (rs.mono s)
  |_=>exact Qd w
def EG(neg:Bool):R2:=fun x y H Q=>∃dx dy,Rep H x dx/\Rep H y dy/\Dm.okD 8 dx=true/\Dm.okD 8 dy=true/\Q (.bl (if neg then !Dm.eqD dx dy else Dm.eqD dx dy)) H
section
variable{X:Cx}
section
variable{k:Nat}
theorem Bl(hr:bu k X.A):OpR X (compareOp .Eq) (EG false):=by intro nC s σ H x y v u Q I rx ry h;obtain⟨dx,dy,r1,r2,k1,k2,q⟩:=h;obtain⟨as,h1,h2,h3⟩:=(b9 I.hok 8).1 x dx v r1 rx k1;obtain⟨bs,h4,h5,h6⟩:=(b9 I.hok 8).1 y dy u r2 ry k2;have hu:=hr.units;refine PySem.SeqAt.compareEq_reads h1 h4 h2 h5 (by lia) ?_;rw[jW];exact⟨.bl (Dm.eqD dx dy),H,I,rfl,q⟩
theorem Bm(hr:bu k X.A):OpR X (compareOp .NotEq) (EG true):=by intro nC s σ H x y v u Q I rx ry h;obtain⟨dx,dy,r1,r2,k1,k2,q⟩:=h;obtain⟨as,h1,h2,h3⟩:=(b9 I.hok 8).1 x dx v r1 rx k1;obtain⟨bs,h4,h5,h6⟩:=(b9 I.hok 8).1 y dy u r2 ry k2;have hu:=hr.units;refine PySem.SeqAt.compareNe_reads h1 h4 h2 h5 (by lia) ?_;rw[jW];exact⟨.bl (!Dm.eqD dx dy),H,I,rfl,q⟩
def EH(neg:Bool):R2:=fun x y H Q=>∃dx ds,Rep H x dx/\(Rep H y (.lst ds)\/Rep H y (.tup ds))/\Dm.okD 8 dx=true/\ds.all (Dm.okD 7)=true/\Q (.bl (if neg then !Dm.inD dx ds else Dm.inD dx ds)) H
theorem gJ(x:Dat):∀ds:List Dat,((b8 ds).any fun y=>Qz y (toPy x))=Dm.inD x ds
 |[]=>rfl
 |d::ds=>by have:=gJ x ds;unfold Dm.inD at this ⊢;simp only[b8,QF,jW];rw[this]
theorem Bo(hr:bu k X.A):OpR X (compareOp .In) (EH false):=by
 intro nC s σ H x y v u Q I rx ry h;obtain⟨dx,ds,r1,r2,k1,k2,q⟩:=h;obtain⟨as,h1,h2,h3⟩:=(b9 I.hok 8).1 x dx v r1 rx k1;have hu:=hr.units;rcases r2 with r2 | r2
 ·obtain⟨bs,h4,h5,h6⟩:=(b9 I.hok 8).1 y (.lst ds) u r2 ry k2;have h6:Q0 (b8 ds)+1<=8:=h6;refine PySem.SeqAt.in_list_reads h4 h1 h5 h2 (by lia) ?_;rw[gJ];exact⟨.bl (Dm.inD dx ds),H,I,rfl,q⟩
 ·obtain⟨bs,h4,h5,h6⟩:=(b9 I.hok 8).1 y (.tup ds) u r2 ry k2;have h6:Q0 (b8 ds)+1<=8:=h6;refine PySem.SeqAt.in_tuple_reads h4 h1 h5 h2 (by lia) ?_;rw[gJ];exact⟨.bl (Dm.inD dx ds),H,I,rfl,q⟩
theorem zP(hr:bu k X.A):OpR X (compareOp .NotIn) (EH true):=by
 intro nC s σ H x y v u Q I rx ry h;obtain⟨dx,ds,r1,r2,k1,k2,q⟩:=h;obtain⟨as,h1,h2,h3⟩:=(b9 I.hok 8).1 x dx v r1 rx k1;have hu:=hr.units;rcases r2 with r2 | r2
 ·obtain⟨bs,h4,h5,h6⟩:=(b9 I.hok 8).1 y (.lst ds) u r2 ry k2;have h6:Q0 (b8 ds)+1<=8:=h6;refine PySem.SeqAt.notIn_list_reads h4 h1 h5 h2 (by lia) ?_;rw[gJ];exact⟨.bl (!Dm.inD dx ds),H,I,rfl,q⟩
 ·obtain⟨bs,h4,h5,h6⟩:=(b9 I.hok 8).1 y (.tup ds) u r2 ry k2;have h6:Q0 (b8 ds)+1<=8:=h6;refine PySem.SeqAt.notIn_tuple_reads h4 h1 h5 h2 (by lia) ?_;rw[gJ];exact⟨.bl (!Dm.inD dx ds),H,I,rfl,q⟩
end
end
section
variable{H0 H:Hp}{ds:List Dat}{v:V}
theorem aD{i:Int}(r:i6 H0 H v (.int i)):v=.int i:=by
 rcases r with r | ⟨a,_,w⟩
 ·exact Rep.isInt r
 ·exact Qd w
theorem EI{b:Bool}(r:i6 H0 H v (.bl b)):v=.bl b:=by
 rcases r with r | ⟨a,_,w⟩
 ·exact Rep.rA r
 ·exact Qd w
theorem bF(s:aj H0 H)(r:i6 H0 H v (.lst ds)):∃a xs,v=.ref a/\Rd H a (.lst xs)/\av H0 xs ds:=by
 rcases r with r | ⟨a,e,xs,q,rs⟩
 ·cases r with
  |lst q rs=>exact⟨_,_,rfl,aj.rd s q,rs⟩
 ·exact⟨a,xs,e,.inl q,rs⟩
theorem fF(s:aj H0 H)(r:i6 H0 H v (.tup ds)):∃a xs,v=.ref a/\H a=some (.tup xs)/\av H0 xs ds:=by
 rcases r with r | ⟨a,_,w⟩
 ·cases r with
  |tup q rs=>exact⟨_,_,rfl,s _ _ q,rs⟩
 ·exact Qd w
theorem Jz:OpD (rI0 fun i j=>.int (i-j)) Dm.gp:=by
 intro H0 H x y dx dy z Q s rx ry e k;unfold Dm.gp at e;split at e
 ·cases e;cases aD rx;cases aD ry;exact⟨_,_,rfl,rfl,k _ H0 H (aG.refl s) (.int _)⟩
 ·cases e
theorem Bp:OpD (rI0 fun i j=>.bl (decide (i<j))) Dm.gLt:=by
 intro H0 H x y dx dy z Q s rx ry e k;unfold Dm.gLt at e;split at e
 ·cases e;cases aD rx;cases aD ry;exact⟨_,_,rfl,rfl,k _ H0 H (aG.refl s) (.bl _)⟩
 ·cases e
theorem Bq:OpD (rI0 fun i j=>.bl (decide (i<=j))) Dm.gLe:=by
 intro H0 H x y dx dy z Q s rx ry e k;unfold Dm.gLe at e;split at e
 ·cases e;cases aD rx;cases aD ry;exact⟨_,_,rfl,rfl,k _ H0 H (aG.refl s) (.bl _)⟩
 ·cases e
theorem L8:OpD (rI0 fun i j=>.bl (decide (j<i))) Dm.gGt:=by
 intro H0 H x y dx dy z Q s rx ry e k;unfold Dm.gGt at e;split at e
 ·cases e;cases aD rx;cases aD ry;exact⟨_,_,rfl,rfl,k _ H0 H (aG.refl s) (.bl _)⟩
 ·cases e
theorem L_:OpD (rI0 fun i j=>.bl (decide (j<=i))) Dm.gGe:=by
 intro H0 H x y dx dy z Q s rx ry e k;unfold Dm.gGe at e;split at e
 ·cases e;cases aD rx;cases aD ry;exact⟨_,_,rfl,rfl,k _ H0 H (aG.refl s) (.bl _)⟩
 ·cases e
theorem JA:OpD (rI (fun _ j=>0<j) fun i j=>.int (i % j)) Dm.kG:=by
 intro H0 H x y dx dy z Q s rx ry e k;unfold Dm.kG at e;split at e
 ·split at e
  ·rename_i hj;cases e;cases aD rx;cases aD ry;exact⟨_,_,rfl,rfl,hj,k _ H0 H (aG.refl s) (.int _)⟩
  ·cases e
 ·cases e
theorem JB:OpD (rI LC fun i j=>.int (i ^ j.toNat)) Dm.v9:=by
 intro H0 H x y dx dy z Q s rx ry e k;unfold Dm.v9 at e;split at e
 ·split at e
  ·rename_i hj;cases e;cases aD rx;cases aD ry;exact⟨_,_,rfl,rfl,⟨hj.1,hj.2.1,Nat.lt_trans hj.2.2 (by decide)⟩,k _ H0 H (aG.refl s) (.int _)⟩
  ·cases e
 ·cases e
end
section
variable{X:Cx}
def Hy(i j:Int):Prop:=0<j/\j<Dm.iJ
theorem Bs:OpR X (binaryOp .FloorDiv) (rI Hy fun i j=>.int (i / j)):=opI fun i j _ _ _ _ _ hc q=>by
 have h:j.natAbs.log2<9000:=by
  have h1:j.natAbs<2 ^ 200:=by
   have:=hc.2;unfold Dm.iJ at this;have h2:=hc.1;have e:(2:Nat) ^ 200=1606938044258990275541962092341162602522202993782792835301376:=by decide +kernel
   omega
  have h3:j.natAbs≠0:=by have:=hc.1;omega
  have:=(Nat.log2_lt h3).mpr h1;omega
 have e:i.fdiv j=i / j:=Int.fdiv_eq_ediv_of_nonneg i (Int.le_of_lt hc.1);rw[<- e]at q;exact floordiv_int (Int.ne_of_gt hc.1) q (.inl (PyProof.noPylong_of_log2 h))
end
theorem JC:OpD (rI Hy fun i j=>.int (i / j)) Dm.v8:=by
 intro H0 H x y dx dy z Q s rx ry e k;unfold Dm.v8 at e;split at e
 ·split at e
  ·rename_i hj;cases e;cases aD rx;cases aD ry;exact⟨_,_,rfl,rfl,hj,k _ H0 H (aG.refl s) (.int _)⟩
  ·cases e
 ·cases e
theorem JD:UnD (rU fun i=>.int (-i)) Dm.Be:=by
 intro H0 H x dx z Q s rx e k;unfold Dm.Be at e;split at e
 ·cases e;cases aD rx;exact⟨_,rfl,k _ H0 H (aG.refl s) (.int _)⟩
 ·cases e
def Bt:R2:=fun x y H Q=>∃l b xs zs,x=.ref l/\y=.ref b/\Rd H l (.lst xs)/\Rd H b (.lst zs)/\xs.length+zs.length<=sizeLine/\∀p,H p=none->Q (.ref p) (upd H p (.lst (xs++zs)))
def Bu:R2:=fun x y H Q=>∃l k xs,x=.ref l/\y=.int k/\Rd H l (.lst xs)/\-(2 ^ 63)<=k/\k<2 ^ 63/\xs.length*k.toNat<=sizeLine /\
 ∀p,H p=none->Q (.ref p) (upd H p (.lst (Ds k.toNat xs).flatten))
section
variable{X:Cx}
theorem EJ:OpR X (binaryOp .Add) Bt:=by
 intro nC s σ H x y v u Q I rx ry h;obtain⟨l,b,xs,zs,rfl,rfl,hH,hB,hz,q⟩:=h;cases rx;cases ry;obtain⟨z,its,n,r,e⟩:=hH.ok I.hok;obtain⟨z2,its2,n2,r2,e2⟩:=hB.ok I.hok;have hl:=r.length;have hl2:=r2.length;refine PySem.P.add_list e e2 ?_ (by rw[Pe,Pe];lia);have ea:its.toArray++its2.toArray=(its++its2).toArray:=by simp
 rw[ea];exact⟨.ref _,_,I.Jl (t':=s.toks) (r.append r2) (by rw[Pd];lia),rfl,q _ I.fresh⟩
theorem EK:OpR X (binaryOp .Mult) Bu:=by
 intro nC s σ H x y v u Q I rx ry h;obtain⟨l,k,xs,rfl,rfl,hH,h1,h2,hz,q⟩:=h;cases rx;obtain⟨t,rfl⟩:=ry;obtain⟨z,its,n,r,e⟩:=hH.ok I.hok;have hl:=r.length;have sF:its.toArray.size*k.toNat<=sizeLine:=by rw[Pe,<- hl];exact hz
 have hcap:¬its.toArray.size*k.toNat>(2 ^ 63-1) / 8:=by
  have:(sizeLine:Nat)<=(2 ^ 63-1) / 8:=by decide
  lia
 have hfit:¬(!Builtin.List.listFitsIndex k)=true:=by rw[fitsIndex_both h1 h2];exact Px
 have AY:¬QM (its.toArray.size*k.toNat)=true:=by rw[mF sF];exact Px
 have hnew:Sd (fun x1 x2=>x1++x2) #[] (Ds (if its.toArray.isEmpty=true then 0 else k.toNat) its.toArray)=(Ds k.toNat its).flatten.toArray:=by
  have f0:∀m:Nat,Sd (fun x1 x2=>x1++x2) #[] (Ds m its.toArray)=(Ds m its).flatten.toArray:=fun m=>by have:=foldl_rep its m [];rw[Rf]at this;exact this
  rw[f0];cases its with
  |nil=>simp
  |cons a r'=>rw[if_neg (by simp)]
 refine wpAny_binaryOp_repeat_ref (T := "list") (U := "int") (by decide) ⟨_,e,rfl⟩ (fun s'=>typeIs_int s' k t) noFill_list_mul F.fills_int_mul F.slot_int_rmul repeat_list F.slot_int_index.lookup
  (call_meets F.slot_int_rmul (typeIs_int s k t) F.entry_int_rmul (F.args_int_rmul_2 _ _) (int___rmul___int_list k t l its.toArray n)
   ⟨e,rfl,⟨_,e,rfl⟩,call_meets F.slot_list_mul ⟨_,e,rfl⟩ F.entry_list_mul (F.args_list_mul_2 _ _) (AutoListH.list___mul___list_int_3 l its.toArray n k t hfit hcap AY) ⟨e,?_⟩⟩)
 rw[hnew];exact⟨.ref _,_,I.Jl (t':=s.toks) (r.rep k.toNat) (by rw[len_rep,Nat.mul_comm];exact hz),rfl,q _ I.fresh⟩
theorem EL:OpR X (binaryOp .Add) (fun x y H Q=>rI0 (fun i j=>.int (i+j)) x y H Q\/Bt x y H Q):=IY.or EJ
theorem EM:OpR X (binaryOp .Mult) (fun x y H Q=>rI AJ (fun i j=>.int (i*j)) x y H Q\/Bu x y H Q):=I0.or EK
end
theorem JE:OpD (fun x y H Q=>rI0 (fun i j=>.int (i+j)) x y H Q\/Bt x y H Q) Dm.aV:=by
 intro H0 H x y dx dy z Q s rx ry e k;unfold Dm.aV at e;split at e
 ·cases e;cases aD rx;cases aD ry;exact .inl ⟨_,_,rfl,rfl,k _ H0 H (aG.refl s) (.int _)⟩
 ·split at e
  ·rename_i hz;cases e;obtain⟨a,us,rfl,qa,ra⟩:=bF s rx;obtain⟨b,ws,rfl,qb,rb⟩:=bF s ry;refine .inr ⟨a,b,us,ws,rfl,rfl,qa,qb,by rw[ra.length,rb.length];exact jS hz,fun p hp=>?_⟩;exact k _ _ _ (aG.iK s hp) ⟨p,rfl,hp,s.free hp,_,aq,ra.append rb⟩
  ·cases e
 ·cases e
theorem JF:OpD (fun x y H Q=>rI AJ (fun i j=>.int (i*j)) x y H Q\/Bu x y H Q) Dm.gE:=by
 intro H0 H x y dx dy z Q s rx ry e k;unfold Dm.gE at e;split at e
 ·split at e
  ·rename_i hj;cases e;cases aD rx;cases aD ry;exact .inl ⟨_,_,rfl,rfl,hj,k _ H0 H (aG.refl s) (.int _)⟩
  ·cases e
 ·split at e
  ·rename_i hz;cases e;cases aD ry;obtain⟨a,us,rfl,qa,ra⟩:=bF s rx;obtain⟨h1,h2,h3⟩:=hz;unfold Dm.BIG at h1 h2;refine .inr ⟨a,_,us,rfl,rfl,qa,by lia,by lia,by rw[ra.length];exact jS h3,fun p hp=>?_⟩;exact k _ _ _ (aG.iK s hp) ⟨p,rfl,hp,s.free hp,_,aq,ra.rep _⟩
  ·cases e
 ·cases e
theorem Hz:OpD (EG false) Dm.gEq:=by
 intro H0 H x y dx dy z Q s rx ry e k;unfold Dm.gEq at e;split at e
 ·rename_i hk;rw[Pu]at hk;cases e;exact⟨dx,dy,rx.full s,ry.full s,hk.1,hk.2,k _ H0 H (aG.refl s) (.bl _)⟩
 ·cases e
theorem HA:OpD (EG true) Dm.gNe:=by
 intro H0 H x y dx dy z Q s rx ry e k;unfold Dm.gNe at e;split at e
 ·rename_i hk;rw[Pu]at hk;cases e;exact⟨dx,dy,rx.full s,ry.full s,hk.1,hk.2,k _ H0 H (aG.refl s) (.bl _)⟩
 ·cases e
theorem HB:OpD (EH false) Dm.gIn:=by
 intro H0 H x y dx dy z Q s rx ry e k;unfold Dm.gIn at e;split at e
 ·split at e
  ·rename_i hk;rw[Pu]at hk;cases e;exact⟨dx,_,rx.full s,.inl (ry.full s),hk.1,hk.2,k _ H0 H (aG.refl s) (.bl _)⟩
  ·cases e
 ·split at e
  ·rename_i hk;rw[Pu]at hk;cases e;exact⟨dx,_,rx.full s,.inr (ry.full s),hk.1,hk.2,k _ H0 H (aG.refl s) (.bl _)⟩
  ·cases e
 ·cases e
theorem Bv:OpD (EH true) Dm.bS:=by
 intro H0 H x y dx dy z Q s rx ry e k;unfold Dm.bS at e;split at e
 ·split at e
  ·rename_i hk;rw[Pu]at hk;cases e;exact⟨dx,_,rx.full s,.inl (ry.full s),hk.1,hk.2,k _ H0 H (aG.refl s) (.bl _)⟩
  ·cases e
 ·split at e
  ·rename_i hk;rw[Pu]at hk;cases e;exact⟨dx,_,rx.full s,.inr (ry.full s),hk.1,hk.2,k _ H0 H (aG.refl s) (.bl _)⟩
  ·cases e
 ·cases e
theorem ye{H0:Hp}{xs:List V}{ds:List Dat}{i:Int}{d:Dat}(rs:av H0 xs ds)(e:Dm.atI ds i=some d):∃v,L2.atI xs i=some v/\Rep H0 v d:=by
 unfold Dm.atI at e;cases q:Dm.ixN ds.length i with
 |none=>rw[q]at e;cases e
 |some j=>rw[q]at e;obtain⟨v,hv,r⟩:=rs.get (i:=j) e;refine⟨v,?_,r⟩;unfold L2.atI;rw[rs.length];have q':L2.ixN ds.length i=some j:=q;rw[q'];exact hv
theorem Ma{K:O8}:OpD (fun x y H Q=>Es K x y H Q\/zC K x y H Q) Dm.gIx:=by
 intro H0 H x y dx dy z Q s rx ry e k;unfold Dm.gIx at e;split at e
 ·rename_i ds i;cases q:Dm.atI ds i with
  |none=>rw[q]at e;cases e
  |some d=>rw[q]at e;cases e;cases aD ry;obtain⟨a,us,rfl,qa,ra⟩:=bF s rx;obtain⟨v,hv,rv⟩:=ye ra q;exact .inl ⟨a,us,i,v,rfl,rfl,.inl qa,hv,k _ H0 H (aG.refl s) rv⟩
 ·rename_i ds i;cases q:Dm.atI ds i with
  |none=>rw[q]at e;cases e
  |some d=>rw[q]at e;cases e;cases aD ry;obtain⟨a,us,rfl,qa,ra⟩:=fF s rx;obtain⟨v,hv,rv⟩:=ye ra q;exact .inr ⟨a,us,i,v,rfl,rfl,.inl (.inl qa),hv,k _ H0 H (aG.refl s) rv⟩
 ·cases e
theorem JG{K:O8}:CallD (fun xs H Q=>∃p ys,xs=[.ref p]/\(SqL K H p ys\/SqT K H p ys)/\Q (.int ys.length) H) Dm.cD:=by
 intro H0 H vs ds z Q s rs e k;unfold Dm.cD at e;split at e
 ·cases e;cases rs with
  |cons r rr=>cases rr;obtain⟨a,us,rfl,qa,ra⟩:=bF s r;exact⟨a,us,rfl,.inl (.inl qa),k _ H0 H (aG.refl s) (by rw[ra.length];exact .int _)⟩
 ·cases e;cases rs with
  |cons r rr=>cases rr;obtain⟨a,us,rfl,qa,ra⟩:=fF s r;exact⟨a,us,rfl,.inr (.inl (.inl qa)),k _ H0 H (aG.refl s) (by rw[ra.length];exact .int _)⟩
 ·cases e
theorem EN:CallD (fun xs H Q=>∃i j,xs=[.int i,.int j]/\Q (.int (if j<i then j else i)) H) Dm.pY:=by
 intro H0 H vs ds z Q s rs e k;unfold Dm.pY at e;split at e
 ·cases e;cases rs with
  |cons r rr=>
   cases rr with
   |cons r' rr=>cases rr;cases aD r;cases aD r';exact⟨_,_,rfl,k _ H0 H (aG.refl s) (.int _)⟩
 ·cases e
theorem EO:CallD (fun xs H Q=>∃i j,xs=[.int i,.int j]/\Q (.int (if j>i then j else i)) H) Dm.pZ:=by
 intro H0 H vs ds z Q s rs e k;unfold Dm.pZ at e;split at e
 ·cases e;cases rs with
  |cons r rr=>
   cases rr with
   |cons r' rr=>cases rr;cases aD r;cases aD r';exact⟨_,_,rfl,k _ H0 H (aG.refl s) (.int _)⟩
 ·cases e
theorem ER{K:O8}:CallD (fun xs H Q=>∃p ys,xs=[.ref p]/\(SqL K H p ys\/SqT K H p ys)/\∀l,H l=none->Q (.ref l) (upd H l (.lst ys))) Dm.iP:=by
 intro H0 H vs ds z Q s rs e k;unfold Dm.iP at e;split at e
 ·cases e;cases rs with
  |cons r rr=>cases rr;obtain⟨a,us,rfl,qa,ra⟩:=bF s r;exact⟨a,us,rfl,.inl (.inl qa),fun p hp=>k _ _ _ (aG.iK s hp) ⟨p,rfl,hp,s.free hp,_,aq,ra⟩⟩
 ·cases e;cases rs with
  |cons r rr=>cases rr;obtain⟨a,us,rfl,qa,ra⟩:=fF s r;exact⟨a,us,rfl,.inr (.inl (.inl qa)),fun p hp=>k _ _ _ (aG.iK s hp) ⟨p,rfl,hp,s.free hp,_,aq,ra⟩⟩
 ·cases e
theorem Bw{K:O8}:CallD (fun xs H Q=>∃p ys,xs=[.ref p]/\((SqL K H p ys/\∀l,H l=none->Q (.ref l) (upd H l (.tup ys)))\/(SqT K H p ys/\Q (.ref p) H))) Dm.gF:=by
 intro H0 H vs ds z Q s rs e k;unfold Dm.gF at e;split at e
 ·cases e;cases rs with
  |cons r rr=>cases rr;obtain⟨a,us,rfl,qa,ra⟩:=bF s r;refine⟨a,us,rfl,.inl ⟨.inl qa,fun p hp=>?_⟩⟩;have g:=aG.EC (o:=HO.tup us) s hp;exact k _ _ _ g (.tup aq (ra.mono g.s0))
 ·cases e;cases rs with
  |cons r rr=>
   cases rr;rcases r with r | ⟨a,_,w⟩
   ·cases r with
    |tup q rs=>exact⟨_,_,rfl,.inr ⟨.inl (.inl (s _ _ q)),k _ H0 H (aG.refl s) (.tup q rs)⟩⟩
   ·exact Qd w
 ·cases e
noncomputable abbrev DS(X:Cx)(st:Stmt)(f:FS):Prop:=PS X st (tDS f)
noncomputable abbrev DSs(X:Cx)(st:List Stmt)(f:FS):Prop:=PSs X st (tDS f)
noncomputable abbrev DI(X:Cx)(tg it:Expr)(f:Dm.FI):Prop:=PI X tg it (tDI f)
theorem PI.weak{X:Cx}{tg it:Expr}{t t':TI}(h:PI X tg it t)(k:∀σ H R,t' σ H R->t σ H R):PI X tg it t':=fun nC s σ H R I q=>h nC s σ H R I (k σ H R q)
section
variable{X:Cx}{a b c e:Expr}{fa fb fc f:FE}{pos:Pos}
section
variable{g:Dat->Dat->Option RV}{k:Nat}{r:List V->Hp->VK->Prop}{xq:List Expr}{x:Str}
theorem d_v(i:Nat)(hN:X.N[i]?=some x:=by rfl)(hv:Vis X.env.scope x:=by trivial)(hd:(x == ("__debug__" : Str))=false:=by decide)
  (HQ:(x == ("__classdict__" : Str))=false:=by decide):DE X (.Name x pos) (Dm.eV i):=PE.weak (bR hN hv hd HQ) fun _ _ _=>LM
theorem d_i{i:Int}{j}:DE X (.Constant (.int i) j pos) (Dm.eC (.int i)):=PE.weak l9 fun _ _ _=>rm fun _=>.int i
theorem d_b{v:Bool}{j}:DE X (.Constant (.bool v) j pos) (Dm.eC (.bl v)):=PE.weak Lu fun _ _ _=>rm fun _=>.bl v
theorem d_n{j}:DE X (.Constant .none j pos) (Dm.eC .non):=PE.weak IJ fun _ _ _=>rm fun _=>.non
theorem zQ{op:Operator}{r:R2}(o:OpR X (binaryOp op) r)(od:OpD r g)(ha:DE X a fa)(hb:DE X b fb):DE X (.BinOp a op b pos) (Dm.e2 g fa fb):=
 PE.weak (Lz o ha hb) fun _ _ _=>rz od
theorem aY(ha:DE X a fa)(hb:DE X b fb):DE X (.BinOp a .Add b pos) (Dm.e2 Dm.aV fa fb):=zQ EL JE ha hb
theorem iQ(ha:DE X a fa)(hb:DE X b fb):DE X (.BinOp a .Sub b pos) (Dm.e2 Dm.gp fa fb):=zQ IZ Jz ha hb
theorem iR(ha:DE X a fa)(hb:DE X b fb):DE X (.BinOp a .Mult b pos) (Dm.e2 Dm.gE fa fb):=zQ EM JF ha hb
theorem HC(ha:DE X a fa)(hb:DE X b fb):DE X (.BinOp a .FloorDiv b pos) (Dm.e2 Dm.v8 fa fb):=zQ Bs JC ha hb
theorem lq(ha:DE X a fa)(hb:DE X b fb):DE X (.BinOp a .Mod b pos) (Dm.e2 Dm.kG fa fb):=zQ I_ JA ha hb
theorem HD(ha:DE X a fa)(hb:DE X b fb):DE X (.BinOp a .Pow b pos) (Dm.e2 Dm.v9 fa fb):=zQ Ja JB ha hb
theorem HE(ha:DE X a fa):DE X (.UnaryOp .USub a pos) (Dm.e1 Dm.Be fa):=PE.weak (LA Jb ha) fun _ _ _=>NY JD
theorem tP{op:CmpOp}{r:R2}(o:OpR X (compareOp op) r)(od:OpD r g)(ha:DE X a fa)(hb:DE X b fb)(hm:behindInMarks op b=false):DE X (.Compare a [op] [b] pos) (Dm.e2 g fa fb):=
 PE.weak (El o ha hb hm) fun _ _ _=>rz od
theorem mX{op:CmpOp}{r:R2}(o:OpR X (compareOp op) r)(od:OpD r g)(ha:DE X a fa)(hb:DE X b fb)(hm:behindInMarks op b=false):DT X (.Compare a [op] [b] pos) (Dm.tV (Dm.e2 g fa fb)):=
 PT.weak (Em o ha hb hm) fun σ H Q h=>rz od (mQ h)
theorem ES(hr:bu k X.A)(ha:DE X a fa)(hb:DE X b fb):DE X (.Compare a [.Eq] [b] pos) (Dm.e2 Dm.gEq fa fb):=tP (Bl hr) Hz ha hb (fQ _)
theorem N8(hr:bu k X.A)(ha:DE X a fa)(hb:DE X b fb):DE X (.Compare a [.NotEq] [b] pos) (Dm.e2 Dm.gNe fa fb):=tP (Bm hr) HA ha hb (fQ _)
theorem N9(ha:DE X a fa)(hb:DE X b fb):DE X (.Compare a [.Lt] [b] pos) (Dm.e2 Dm.gLt fa fb):=tP AK Bp ha hb (fQ _)
theorem Jp(hr:bu k X.A)(ha:DE X a fa)(hb:DE X b fb)(hm:behindInMarks .In b=false:=by rfl):DE X (.Compare a [.In] [b] pos) (Dm.e2 Dm.gIn fa fb):=tP (Bo hr) HB ha hb hm
theorem mY(hr:bu k X.A)(ha:DE X a fa)(hb:DE X b fb):DT X (.Compare a [.Eq] [b] pos) (Dm.tV (Dm.e2 Dm.gEq fa fb)):=mX (Bl hr) Hz ha hb (fQ _)
theorem rF(hr:bu k X.A)(ha:DE X a fa)(hb:DE X b fb):DT X (.Compare a [.NotEq] [b] pos) (Dm.tV (Dm.e2 Dm.gNe fa fb)):=mX (Bm hr) HA ha hb (fQ _)
theorem Bx(ha:DE X a fa)(hb:DE X b fb):DT X (.Compare a [.Lt] [b] pos) (Dm.tV (Dm.e2 Dm.gLt fa fb)):=mX AK Bp ha hb (fQ _)
theorem JH(ha:DE X a fa)(hb:DE X b fb):DT X (.Compare a [.Gt] [b] pos) (Dm.tV (Dm.e2 Dm.gGt fa fb)):=mX LD L8 ha hb (fQ _)
theorem N_(ha:DE X a fa)(hb:DE X b fb):DT X (.Compare a [.GtE] [b] pos) (Dm.tV (Dm.e2 Dm.gGe fa fb)):=mX LF L_ ha hb (fQ _)
theorem wg(hr:bu k X.A)(ha:DE X a fa)(hb:DE X b fb)(hm:behindInMarks .In b=false:=by rfl):DT X (.Compare a [.In] [b] pos) (Dm.tV (Dm.e2 Dm.gIn fa fb)):=mX (Bo hr) HB ha hb hm
theorem p7(hr:bu k X.A)(ha:DE X a fa)(hb:DE X b fb)(hm:behindInMarks .NotIn b=false:=by rfl):DT X (.Compare a [.NotIn] [b] pos) (Dm.tV (Dm.e2 Dm.bS fa fb)):=mX (zP hr) Bv ha hb hm
theorem aL(ha:DE X a fa)(hb:DE X b fb)(hs:eN b:=by intro _ _;rfl):DE X (.Subscript a b pos) (Dm.e2 Dm.gIx fa fb):=PE.weak (mD (qW.or mE) ha hb hs) fun _ _ _=>rz Ma
theorem ah:DA X [] []:=PA.weak dX fun _ _ _=>LN
theorem aa{es:List Expr}{fs:List FE}(h:DE X e f)(r:DA X es fs)(hs:starEach (e::es) X.env=(false,eval e X.env)::starEach es X.env:=by rfl):DA X (e::es) (f::fs):=PA.weak (bM h r hs) fun _ _ _=>Jr
theorem gK{es:List Expr}{fs:List FE}{x1}(h:DA X es fs):DE X (.Tuple es x1 pos) (Dm.eE fs):=PE.weak (mw h) fun _ _ _=>LP
theorem b_{es:List Expr}{fs:List FE}(h:DA X es fs):DE X (.List es pos) (Dm.cL fs):=PE.weak (vS h) fun _ _ _=>LQ
theorem zR{es:List Expr}{fs:List FE}{g:List Dat->Option RV}{id:String}{p:Pos}(hc:cX X (.builtin id) r)(cd:CallD r g)(hv:bootBuiltins x=some (.builtin id))(hg:Gl X x)(hm:X.mg x=none)(ha:DA X (e::es) fs)
  (hn:x ≠ "__name__" := by decide) (MT:(x == ("__debug__" : Str))=false:=by decide) (he:starEach (e::es) X.env=(false,eval e X.env)::starEach es X.env:=by rfl) (Cs:(backTo pos (starEach es X.env)).any (·.1)=false:=by rfl) :
  DE X (.Call (.Name x p) (e::es) [] pos) (Dm.eB g fs):=PE.weak (mz hc hg hm hv ha hn MT he Cs) fun _ _ _=>LO cd
theorem ET{es:List Expr}{fs:List FE}{g:List Dat->Option RV}{T:String}{p:Pos}(hc:cX X (.type T) r)(cd:CallD r g)(hv:bootBuiltins x=some (.type T))(hg:Gl X x)(hm:X.mg x=none)(ha:DA X (e::es) fs)
  (hn:x ≠ "__name__" := by decide) (MT:(x == ("__debug__" : Str))=false:=by decide) (he:starEach (e::es) X.env=(false,eval e X.env)::starEach es X.env:=by rfl) (Cs:(backTo pos (starEach es X.env)).any (·.1)=false:=by rfl) :
  DE X (.Call (.Name x p) (e::es) [] pos) (Dm.eB g fs):=PE.weak (pV hc hg hm hv ha hn MT he Cs) fun _ _ _=>LO cd
variable{es:List Expr}{fs:List FE}{p:Pos}
theorem cZ(hg:Gl X "len")(hm:X.mg "len" = none)(ha:DA X [e] fs)(he:starEach [e] X.env=[(false,eval e X.env)]:=by rfl)(Cs:(backTo pos (starEach [] X.env)).any (·.1)=false:=by rfl):DE X (.Call (.Name "len" p) [e] [] pos) (Dm.eB Dm.cD fs):=zR qY JG PySem.boot_len hg hm ha (he:=he) (Cs:=Cs)
theorem By(hc:X.calm=true)(hg:Gl X "min")(hm:X.mg "min" = none)(ha:DA X [a,b] fs)(he:starEach [a,b] X.env=(false,eval a X.env)::starEach [b] X.env:=by rfl)(Cs:(backTo pos (starEach [b] X.env)).any (·.1)=false:=by rfl):DE X (.Call (.Name "min" p) [a,b] [] pos) (Dm.eB Dm.pY fs):=zR (zx hc) EN (by rfl) hg hm ha (he:=he) (Cs:=Cs)
theorem BA(hc:X.calm=true)(hg:Gl X "max")(hm:X.mg "max" = none)(ha:DA X [a,b] fs)(he:starEach [a,b] X.env=(false,eval a X.env)::starEach [b] X.env:=by rfl)(Cs:(backTo pos (starEach [b] X.env)).any (·.1)=false:=by rfl):DE X (.Call (.Name "max" p) [a,b] [] pos) (Dm.eB Dm.pZ fs):=zR (zw hc) EO (by rfl) hg hm ha (he:=he) (Cs:=Cs)
theorem wj(hg:Gl X "list")(hm:X.mg "list" = none)(ha:DA X [e] fs)(he:starEach [e] X.env=[(false,eval e X.env)]:=by rfl)(Cs:(backTo pos (starEach [] X.env)).any (·.1)=false:=by rfl):DE X (.Call (.Name "list" p) [e] [] pos) (Dm.eB Dm.iP fs):=ET qZ ER (by rfl) hg hm ha (he:=he) (Cs:=Cs)
theorem yf(hg:Gl X "tuple")(hm:X.mg "tuple" = none)(ha:DA X [e] fs)(he:starEach [e] X.env=[(false,eval e X.env)]:=by rfl)(Cs:(backTo pos (starEach [] X.env)).any (·.1)=false:=by rfl):DE X (.Call (.Name "tuple" p) [e] [] pos) (Dm.eB Dm.gF fs):=ET pA Bw (by rfl) hg hm ha (he:=he) (Cs:=Cs)
theorem aN{F:Addr}{fd:FuncData}{ps:List Str}{g:List Dat->Option RV}(G:bw X.prog X.w X.K X.mg X.base CX0 k F fd ps (spD g))(hr:bu k X.A)(hg:Gl X x)(hm:X.mg x=some (.ref F))(hk:QA X.K (.ref F)=true)(hb:Binds X.K fd ps [])
  (ha:DA X (e::es) fs) (MT:(x == ("__debug__" : Str))=false:=by decide) (he:starEach (e::es) X.env=(false,eval e X.env)::starEach es X.env:=by rfl) (Cs:(backTo pos (starEach es X.env)).any (·.1)=false:=by rfl) :
  DE X (.Call (.Name x p) (e::es) [] pos) (Dm.eF g fs):=PE.weak (fR G hr hg hm hk hb .nil (mG (X:=X)) ha MT he Cs) fun _ _ _=>Js
theorem mZ{op}(h:DE X a fa):DE X (.BoolOp op [a] pos) fa:=IM h
theorem lu(ha:DE X a fa)(hb:DE X (.BoolOp .And (b::xq) pos) fb):DE X (.BoolOp .And (a::b::xq) pos) (Dm.iZ fa fb):=PE.weak (IP ha hb) fun _ _ _=>LR
theorem BB(ha:DE X a fa):DE X (.UnaryOp .Not a pos) (Dm.tL fa):=PE.weak (IQ ha) fun _ _ _=>LS
noncomputable abbrev DW(X:Cx)(e:Expr)(f:FT):Prop:=PW X e (tDT f)
theorem PW.weak{t t':TT}(h:PW X e t)(k:∀σ H Q,t' σ H Q->t σ H Q):PW X e t':=fun whole nC s σ H Q I q=>h whole nC s σ H Q I (k σ H Q q)
variable{ta tb:FT}
theorem gM(h:DT X a ta):DW X (.BoolOp .And [a] pos) ta:=pw_and1 h
theorem ly(h:DT X a ta):DW X (.BoolOp .Or [a] pos) ta:=pw_or1 h
theorem w_and(ha:DT X a ta)(hb:DW X (.BoolOp .And (b::xq) pos) tb):DW X (.BoolOp .And (a::b::xq) pos) (Dm.e8 ta tb):=PW.weak (pw_and ha hb) fun _ _ _=>Ju
theorem w_or(ha:DT X a ta)(hb:DW X (.BoolOp .Or (b::xq) pos) tb):DW X (.BoolOp .Or (a::b::xq) pos) (Dm.tOr ta tb):=PW.weak (pw_or ha hb) fun _ _ _=>LU
theorem t_w(h:DW X a ta):DT X a ta:=h.pt
theorem eO(h:DT X a ta):DT X (.UnaryOp .Not a pos) (Dm.dI ta):=PT.weak (IL h) fun _ _ _=>Jt
theorem eT(h:DE X e f)(he:∀whole,isTrue e X.env whole=(do let v <- whole;standAt e.pos;holding [v] (truthy v)):=by intro _;rfl):DT X e (Dm.tV f):=PT.weak (IK h he) fun _ _ _=>mQ
variable{tg:Expr}
theorem BC(hg:Gl X "range")(hm:X.mg "range" = none)(ha:DA X [a] [fa])(hs:starEach [a] X.env=[(false,eval a X.env)]:=by rfl):DI X tg (.Call (.Name "range" p) [a] [] pos) (Dm.iR1 fa):=
 PI.weak (pP hg hm ha hs) fun _ _ _=>L4
theorem Mb(hg:Gl X "range")(hm:X.mg "range" = none)(ha:DA X [a,b] [fa,fb])(hs:starEach [a,b] X.env=[(false,eval a X.env),(false,eval b X.env)]:=by rfl)(hs2:starEach [b] X.env=[(false,eval b X.env)]:=by rfl):DI X tg (.Call (.Name "range" p) [a,b] [] pos) (Dm.iR2 fa fb):=
 PI.weak (zu hg hm ha hs hs2) fun _ _ _=>L5
end
end
section
variable{X:Cx}{st:Stmt}{xq:List Stmt}{fs gs:FS}{e a b c:Expr}{f fa fb:FE}{pos:Pos}
section
variable{is:List Nat}{x:Str}{body:List Stmt}{es:List Expr}{t:FT}
theorem bW:DSs X [] Dm.sNx:=PSs.weak lT fun _ _ _=>NZ
theorem ai(h1:DS X st fs)(h2:DSs X xq gs):DSs X (st::xq) (Dm.az fs gs):=PSs.weak (a_ h1 h2) fun _ _ _=>LW
theorem aA(h1:DS X st fs):DSs X [st] fs:=iz h1
theorem s_a(i:Nat){pos':Pos}(hN:X.N.Nodup)(he:DE X e f)(hi:X.N[i]?=some x:=by rfl)(hx:Loc X.env.scope x:=by trivial)(hs:swapsWith e (some (.Name x pos')) pos.line X.env=pure false:=by rfl)
  (hf:X.fn x=true\/X.env.scope.names.lookup x=some .local:=by trivial):DS X (.Assign [.Name x pos'] e pos) (Dm.sA i f):=PS.weak (qT hN hi hx he hs hf) fun _ _ _=>Bg
theorem m5:PGs X [] (i8 []):=Eh
theorem cu(i:Nat){px:Pos}(hN:X.N.Nodup)(h2:PGs X es (i8 is))(hi:X.N[i]?=some x:=by rfl)(hx:Loc X.env.scope x:=by trivial)
  (hf:X.fn x=true\/X.env.scope.names.lookup x=some .local:=by trivial) (hs:(assignEach (.Name x px::es) X.env).map (·.2)=assign (.Name x px) X.env::(assignEach es X.env).map (·.2):=by rfl):PGs X (.Name x px::es) (i8 (i::is)):=AB (qS hN hi hx hf) h2 hs
theorem s_e(he:DE X e f)(hs:swapsWith e none pos.line X.env=pure false:=by rfl):DS X (.Expr e pos) (Dm.sE f):=PS.weak (fO he hs) fun _ _ _=>Jv
theorem s_r(he:DE X e f):DS X (.Return (some e) pos) (Dm.sR f):=PS.weak (l_ he) fun _ _ _=>LX
theorem dZ{x y:List Stmt}(ht:DT X c t)(ha:DSs X x fs)(hb:DSs X y gs):DS X (.If c x y pos) (Dm.sIf t fs gs):=PS.weak (sW ht ha hb) fun _ _ _=>LY
theorem EU:DS X st (fun _=>none):=PS.weak AA fun _ _ _ ⟨_,_,_,_,z,_⟩=>by cases z
theorem tQ(i:Nat){px ap cp:Pos}(he:DE X e f)(hi:X.N[i]?=some x:=by rfl)(hv:Vis X.env.scope x:=by trivial)(hd:(x == ("__debug__" : Str))=false:=by decide)
  (HQ:(x == ("__classdict__" : Str))=false:=by decide) (CA:attributeBase (.Name x px) "append" X.env (eval (.Name x px) X.env)=eval (.Name x px) X.env:=by rfl)
  (hfew:((backTo cp (starEach [e] X.env)).all (fun x=>!x.1)&&(backToKw cp (keywordEach [] X.env)).all (fun x=>x.1.isSome)
   && decide ([e].length+([]:List Keyword).length+(if ([]:List Keyword).isEmpty then 0 else 1)<30))=true:=by rfl)
  (Cz:(ap.endLine == cp.line)=true:=by rfl) (hs:starEach [e] X.env=(false,eval e X.env)::starEach [] X.env:=by rfl) (Gv:(backTo cp (starEach [] X.env)).any (·.1)=false:=by rfl)
  (hsw:swapsWith (.Call (.Attribute (.Name x px) "append" ap) [e] [] cp) none pos.line X.env=pure false:=by rfl) :
  DS X (.Expr (.Call (.Attribute (.Name x px) "append" ap) [e] [] cp) pos) (Dm.pB i f):=
 PS.weak (fO (tw Qy PySem.F.slot_list_append PySem.F.type_list_append kD (bR hi hv hd HQ) (aa he ah hs) CA hfew Cz hs Gv) hsw) fun _ _ _=>LZ
theorem Mc(i:Nat){j:Expr}{fj:FE}{px sp:Pos}(hj:DE X j fj)(he:DE X e f)(hi:X.N[i]?=some x:=by rfl)(hv:Vis X.env.scope x:=by trivial)(hd:(x == ("__debug__" : Str))=false:=by decide)
  (HQ:(x == ("__classdict__" : Str))=false:=by decide) (ha:∀ v,assign (.Subscript (.Name x px) j sp) X.env v=(do
   let ov <- holding [v] (eval (.Name x px) X.env)
   let iv <- holding [v,ov] (eval j X.env)
   standAt sp
   holding [v,ov,iv] (setItem ov iv v)
   release [v,ov,iv] []):=by intro _;rfl)
  (hs:swapsWithSole [.Subscript (.Name x px) j sp] e pos.line X.env=pure false:=by rfl) (hw:swappedStores [.Subscript (.Name x px) j sp] e X.env=pure none:=by rfl) (h1:(assignEach [.Subscript (.Name x px) j sp] X.env).map (·.2)=[assign (.Subscript (.Name x px) j sp) X.env]:=by rfl) :
  DS X (.Assign [.Subscript (.Name x px) j sp] e pos) (Dm.zK i fj f):=PS.weak (IW he (IV (bR hi hv hd HQ) hj set_list ha) hs hw h1) fun _ _ _=>L1
theorem EV(n:Nat)(hp:PassesOwn (model X.prog X.w) X.A X.env X.xe)(ht:DT X c t)(hb:DSs X body fs):DS X (.While c body [] pos) (Dm.whD t fs n):=PS.weak (AE hp ht hb) fun _ _ _=>ED
structure TG'(X:Cx)(tg:Expr)(is:List Nat)(bd:Dm.FB):Prop where
 ex:∃g,PG X tg g/\BD is g bd
theorem g_n(i:Nat){px:Pos}(hN:X.N.Nodup)(hi:X.N[i]?=some x:=by rfl)(hx:Loc X.env.scope x:=by trivial)(hf:X.fn x=true\/X.env.scope.names.lookup x=some .local:=by trivial) :
  TG' X (.Name x px) [i] (Dm.bN i):=⟨⟨_,qS hN hi hx hf,yd i⟩⟩
theorem g_t{k:Nat}{tpos:Pos}(hc:X.calm=true)(hg:PGs X es (i8 is))(hn:(assignEach es X.env).length=is.length:=by rfl)(hst:(assignEach es X.env).findIdx? (·.1)=none:=by rfl):TG' X (.Tuple es k tpos) is (Dm.bT is):=
 ⟨⟨_,IU hc hg hn hst,Jw is rfl⟩⟩
theorem fG{tg it:Expr}{fi:Dm.FI}{bd:Dm.FB}(hp:PassesOwn (model X.prog X.w) X.A X.env X.xe)(hc:X.calm=true)(hi:DI X tg it fi)(hg:TG' X tg is bd)(hb:DSs X body fs)
  (hs:∀x,foldedSetIterable it X.env x=pure x:=by intro _;rfl):DS X (.For tg it body [] pos) (Dm.gv fi bd fs):=by
 obtain⟨g,h1,h2⟩:=hg.ex;exact PS.weak (vQ hp hc hi h1 hb hs) fun _ _ _=>L3 h2
end
end
noncomputable def tyName:Dat->String
 |.non => "NoneType"
 |.bl _ => "bool"
 |.int _ => "int"
 |.str _ => "str"
 |.tup _ => "tuple"
 |.lst _ => "list"
 |.dct _ _ => "dict"
 |.dcp _ _ => "dict"
 |.exc _ => "dict"
 |.dh _ _ => "dict"
 |.fn _ => "dict"
def zS(T:String)(p:Dat->Bool):Prop:=∀(K:O8) (d:Dat),R0 K (.type (tyName d)) (.type T)=some (p d)
theorem yg:zS "int" Dm.isI:=fun K d=>by cases d<;>rfl
theorem tR:zS "bool" Dm.isB:=fun K d=>by cases d<;>rfl
theorem m6:zS "list" Dm.isL:=fun K d=>by cases d<;>rfl
theorem kit_tuple:zS "tuple" Dm.isT:=fun K d=>by cases d<;>rfl
theorem BE{K:O8}{H:Hp}{v:V}{d:Dat}(r:Rep H v d)(nx:∀C,d≠.exc C/\d≠.fn C/\∀v,d≠.dh C v):jP K H v (.type (tyName d)):=by
 cases r with
 |non=>exact .non
 |bl b=>exact .bl b
 |int i=>exact .int i
 |str s=>exact .str _
 |tup q _=>exact .tup q
 |lst q _=>
  rcases q with q | ⟨o,q⟩
  ·exact .lst q
  ·exact .frz q
 |dct q _ _=>exact .dK q
 |dcp q _ _=>exact .dT q
 |exc _=>exact absurd rfl (nx _).1
 |dh _ _=>exact absurd rfl ((nx _).2.2 _)
 |fn _=>exact absurd rfl (nx _).2.1
def Me(K:O8)(T:String):List V->Hp->VK->Prop:=fun xs H Q=>∃x t b,xs=[x,.ty T]/\jP K H x t/\R0 K t (.type T)=some b/\Q (.bl b) H
section
variable{X:Cx}{e:Expr}{f:FE}{p p2 pos:Pos}
theorem BF{T:String}:cX X (.builtin "isinstance") (Me X.K T):=by intro nC s σ H xs us Q I r h;obtain⟨x,t,b,rfl,ty,e,q⟩:=h;obtain⟨u,u2,rfl,rx,ry⟩:=vals2 r;cases ry;exact zz I rx ty e fun tk=>⟨.bl b,H,I.tok tk,rfl,q⟩
theorem Mf{K:O8}{T:String}{p:Dat->Bool}(kp:zS T p){σ:L2.St}{H:Hp}{Q:VK}(h:tD (Dm.e1 (Dm.lP p) f) σ H Q):tCB (Me K T) (dW (tD f) (dW (tC (.ty T)) kB)) σ H Q:=by
 obtain⟨H0,ρ,x,ρ',st,e,k⟩:=h;unfold Dm.e1 at e;split at e
 ·cases e
 rename_i x1 ρ1 e1;split at e
 ·cases e
 rename_i dx p1;have nx:∀C,dx≠.exc C/\dx≠.fn C/\∀v,dx≠.dh C v:=fun C=>⟨fun z=>(by subst z;cases e),fun z=>(by subst z;cases e),fun v z=>(by subst z;cases e)⟩;have ev:Dm.lP p dx=Dm.vB (p dx):=by cases dx<;>first | rfl | exact absurd rfl (nx _).1 | exact absurd rfl (nx _).2.1 | exact absurd rfl ((nx _).2.2 _)
 rw[ev]at e;dsimp only at e;cases e;refine⟨H0,ρ,x1,_,st,e1,fun v H1 Hb t1 r1=>?_⟩;exact⟨v,_,_,rfl,BE ((r1.look t1.st p1).full t1.st.same) nx,kp K dx,k _ H1 Hb t1 (Rep.bl _)⟩
theorem jX{T:String}{tn:Str}{p':Dat->Bool}(kp:zS T p')(hvT:bootBuiltins tn=some (.type T))(hgT:Gl X tn)(hmT:X.mg tn=none)(hg:Gl X "isinstance")(hm:X.mg "isinstance" = none)(h:DE X e f)
  (hn:tn ≠ "__name__" := by decide) (MT:(tn == ("__debug__" : Str))=false:=by decide)
  (he:starEach [e,.Name tn p2] X.env=(false,eval e X.env)::starEach [.Name tn p2] X.env:=by rfl) (Cs:(backTo pos (starEach [.Name tn p2] X.env)).any (·.1)=false:=by rfl) (he2:starEach [.Name tn p2] X.env=(false,eval (.Name tn p2) X.env)::starEach [] X.env:=by rfl) :
  DE X (.Call (.Name "isinstance" p) [e,.Name tn p2] [] pos) (Dm.e1 (Dm.lP p') f):=
 PE.weak (mz BF hg hm PyProof.Rows.boot_isinstance (bM h (bM (Eg (v:=.ty T) hgT hmT hvT rfl hn MT) dX he2) he) (he:=he) (Cs:=Cs)) fun _ _ _=>Mf kp
theorem all_range(bs:List Bool):(PM bs.length).all (fun i=>bs.getD i true)=bs.all id:=by
 rw[Rc,Qe,Qe];constructor
 ·intro h b hb;obtain⟨i,hi,rfl⟩:=List.mem_iff_getElem.mp hb;have:=h i (Qh.mpr hi);rw[Qs,Py hi]at this;exact this
 ·intro h i hi;have hi:=Qh.mp hi;rw[Qs,Py hi];exact h _ (Rm hi)
theorem zT(hc:X.calm=true):cX X (.builtin "all") (fun xs H Q=>∃(a:Addr) (bs:List Bool),xs=[.ref a]/\Rd H a (.lst (bs.map V.bl))/\Q (.bl (bs.all id)) H):=by
 intro nC s σ H xs us Q I r h;obtain⟨a,bs,rfl,hq,q⟩:=h;obtain⟨u,rfl,rx⟩:=vals1 r;cases rx;obtain⟨z,its,n,rv,e⟩:=hq.ok I.hok;have hl:s.heap.IsList a its.toArray:=⟨_,e,rfl,_,rfl⟩
 have sF:=rv.length;rw[gV]at sF;have hax:a≠s.heap.objs.size:=P6 (Po e);refine PySem.call_all_walk (wpAny_pyIter_list hl ⟨s.heap.objs.size,_,_,_,_,_,fun i=>bs.getD i true,rfl,Walks.list (A:=X.A.in1) (I.ok.hd hc) s.heap.objs.size a hax its.toArray,⟨⟨_,P5 _ rfl,rfl,rfl⟩,hl.push _⟩,?_,fun h' tk hk=>?_⟩)
 ·intro i v s' Q' E' hv hQ';have hv':its[i]?=some v:=by simpa using hv
  have hi:i<bs.length:=by rw[sF];exact(Pa.mp hv').1
  have hb:(bs.map V.bl)[i]?=some (V.bl bs[i]):=by rw[PD,Py hi];rfl
  obtain⟨u,hu,ru⟩:=rv.get hb;rw[hv']at hu;cases hu;cases ru;refine wpAny_truthy_bool ?_;have e2:bs.getD i true=bs[i]:=by rw[Qs,Py hi];rfl
  rw[<- e2];exact hQ'
 ·have e1:its.toArray.size=bs.length:=by rw[Pe,sF]
  rw[e1,all_range];refine⟨.bl _,H,I.kept (t':=tk) fun b o eb=>hk b o ?_ (Ph _ eb),rfl,q⟩;intro hm;have:b=s.heap.objs.size:=by simpa using hm
  exact absurd (Po eb) (by rw[this];exact QT _)
end
section
variable{X:Cx}{a b c e:Expr}{f fa fb fc:FE}{p p2 pos:Pos}
section
variable{g h:Dat->Dat->Option RV}{σ:L2.St}{H:Hp}{Q:VK}
theorem EW{r r':R2}(o1:OpD r g)(o2:OpD r' h)(hh:tD (Dm.gG g h fa fb fc) σ H Q):AM r r' (tD fa) (tD fb) (tD fc) σ H Q:=by
 obtain⟨H0,ρ,x,ρ',st,e,k⟩:=hh;unfold Dm.gG at e;split at e
 ·cases e
 rename_i x1 ρ1 e1;split at e
 ·cases e
 rename_i y1 ρ2 e2;split at e
 ·cases e
 rename_i dx p1;split at e
 ·cases e
 rename_i dy p2;refine⟨H0,ρ,x1,ρ1,st,e1,fun v H1 Hb t1 r1=>⟨H1,ρ1,y1,ρ2,t1.st,e2,fun u H2 Hc t2 r2=>?_⟩⟩;split at e
 ·rename_i gz;refine o1 H2 Hc v u dx dy _ _ t2.st.same ((r1.mono t2).look t2.st p1) (r2.look t2.st p2) gz fun w H3 Hd g3 r3=>?_;refine⟨true,Rep.rA r3,?_⟩;rw[if_pos rfl];have t3:=t2.trans (.grow t2.st g3);have r2':=r2.mono (.grow t2.st g3);split at e
  ·cases e
  rename_i z ρ3 e3;split at e
  ·cases e
  rename_i dy' p3;split at e
  ·cases e
  rename_i dz p4;split at e
  ·cases e
  rename_i w2 hz;cases e;refine⟨H3,ρ2,z,_,t3.st,e3,fun w' H4 He t4 r4=>?_⟩;refine o2 H4 He u w' dy' dz w2 Q t4.st.same ((r2'.mono t4).look t4.st p3) (r4.look t4.st p4) hz fun w5 H5 Hf g5 r5=>?_;exact k w5 H5 Hf (t1.trans (t3.trans (t4.trans (.grow t4.st g5)))) ((r5.toV t4.st).early fun a n=>(t1.trans (t3.trans t4)).stp.gone n)
 ·rename_i gz;cases e;refine o1 H2 Hc v u dx dy _ _ t2.st.same ((r1.mono t2).look t2.st p1) (r2.look t2.st p2) gz fun w H3 Hd g3 r3=>?_;refine⟨false,Rep.rA r3,?_⟩;rw[if_neg Px];exact k _ H3 Hd (t1.trans (t2.trans (.grow t2.st g3))) (Rep.bl false)
 ·cases e
theorem yh{op op':CmpOp}{r r':R2}(o1:OpR X (compareOp op) r)(q1:OpD r g)(o2:OpR X (compareOp op') r')(q2:OpD r' h)(ha:DE X a fa)(hb:DE X b fb)(hc:DE X c fc)
  (hm:lastMarks [op,op'] [b,c]=false:=by with_unfolding_all rfl):DE X (.Compare a [op,op'] [b,c] pos) (Dm.gG g h fa fb fc):=PE.weak (AO o1 o2 ha hb hc hm) fun _ _ _=>EW q1 q2
theorem rG(n d:Nat)(o:Option Int)(hd:d<=n):HT.sIx n d o=Dm.sIx n d o:=by
 cases o with
 |none=>rfl
 |some v=>
  unfold HT.sIx Dm.sIx
  first
   |rfl
   |(dsimp only;split<;>lia)
theorem p8{H0:Hp}{xs:List V}{ds:List Dat}(rs:av H0 xs ds)(lo hi:Option Int):av H0 (pe xs lo hi) (Dm.cut ds lo hi):=by unfold pe Dm.cut;rw[rs.length,rG _ _ _ (Qf _),rG _ _ _ (Pb _)];exact(rs.drop _).take _
theorem lV{fo:Option FE}{H0 H:Hp}{ρ ρ':Dm.Env}{o:Option Int}{Q:Option Int->Hp->Prop}(st:ay H0 H σ ρ)(e:Dm.part fo ρ=some (o,ρ'))(k:∀H0' H',ESt σ ρ H0 H ρ' H0' H'->Q o H') :
  (match fo with | none=>qV | some f=>AU (tD f)) σ H Q:=by
 cases fo with
 |none=>cases e;exact k H0 H (.refl st)
 |some f=>
  unfold Dm.part at e;dsimp only at e;split at e
  ·rename_i i ρ1 e1;cases e;exact⟨H0,ρ,_,_,st,e1,fun v H1 Hb t1 r1=>⟨i,Rep.isInt r1,k H1 Hb t1⟩⟩
  ·cases e
noncomputable abbrev tOf(fo:Option FE):TO:=match fo with | none=>qV | some f=>AU (tD f)
theorem Oa{K:O8}{lo hi:Option FE}(h:tD (Dm.eSl f lo hi) σ H Q):tSl (LI K) (tD f) (tOf lo) (tOf hi) σ H Q:=by
 obtain⟨H0,ρ,x,ρ',st,e,k⟩:=h;unfold Dm.eSl at e;split at e
 ·cases e
 rename_i x1 ρ1 e1;split at e
 ·cases e
 rename_i l ρ2 e2;split at e
 ·cases e
 rename_i hh ρ3 e3;split at e
 ·rename_i ds p1;cases e;refine⟨H0,ρ,x1,ρ1,st,e1,fun v H1 Hb t1 r1=>?_⟩;refine lV t1.st e2 fun H2 Hc t2=>?_;refine lV t2.st e3 fun H3 Hd t3=>?_;have tt:=t1.trans (t2.trans t3);obtain⟨a,xs,rfl,qa,ra⟩:=bF t3.st.same ((r1.mono (t2.trans t3)).look t3.st p1);refine⟨a,xs,rfl,.inl qa,fun q hq=>?_⟩;have g:=aG.iK (o:=HO.lst (pe xs l hh)) t3.st.same hq;refine k _ _ _ (tt.trans (.grow t3.st g)) ⟨q,rfl,tt.stp.gone hq,t3.st.bg hq,t3.st.same.free hq,_,aq,p8 ra l hh⟩
 ·cases e
theorem BG{lo hi:Option Expr}{flo fhi:Option FE}(h:DE X e f)(hl:PO X lo (tOf flo))(hh:PO X hi (tOf fhi)):DE X (.Subscript e (.Slice lo hi none p2) pos) (Dm.eSl f flo fhi):=PE.weak (s_ Et h hl hh) fun _ _ _=>Oa
theorem o_n:PO X none (tOf none):=Ep
theorem o_s(h:DE X e f):PO X (some e) (tOf (some f)):=Er h
end
end
section
variable{X:Cx}{nm:List Str}{HP tg iter:Expr}{Kp:List Expr}{scope:Scope}{pos:Pos}{own:List Str}{fi:Dm.FI}{bd:Dm.FB}{is:List Nat}{t:FT}{f:FE}
noncomputable abbrev DTs(X:Cx)(Kp:List Expr)(t:FT):Prop:=PTs X Kp (tDT t)
theorem d7:DTs X [] Dm.bO:=fun nC s σ H Q I h=>by obtain⟨H0,ρ,b,ρ',st,e,k⟩:=h;cases e;exact jV nC s σ H Q I (k H0 H (.refl st))
theorem di{c:Expr}(h:DT X c t):DTs X [c] t:=EF h
structure TGc(X:Cx)(nm:List Str)(scope:Scope)(own:List Str)(tg:Expr)(is:List Nat)(bd:Dm.FB):Prop where
 ex:∃g,(∀cl C s H fp,PG (aT X nm scope own cl C s H fp) tg g)/\BD is g bd
theorem c_n(i:Nat){x:Str}{px:Pos}(hN:(nm++own).Nodup)(hi:(nm++own)[i]?=some x)(hx:(relabel scope X.env).names.lookup x=some .local):TGc X nm scope own (.Name x px) [i] (Dm.bN i):=
 ⟨⟨_,fun cl C s H fp=>qS (X:=aT X nm scope own cl C s H fp) hN hi (.inl hx) (.inr hx),yd i⟩⟩
theorem JI(hc:X.calm=true)(S:b7 X nm scope)(hi:DI X tg iter fi)(hg:TGc X nm scope own tg is bd)(ht:∀cl C s H fp,DTs (aT X nm scope own cl C s H fp) Kp t)(he:∀cl C s H fp,DE (aT X nm scope own cl C s H fp) HP f)
  (hl:∀i∈is,X.N.length<=i) (hs:∀x,foldedSetIterable iter X.env x=pure x:=by intro _;rfl):DE X (.ListComp HP [⟨tg,iter,Kp,0⟩] scope pos) (Dm.cC fi own.length bd t f):=by
 obtain⟨g,h1,h2⟩:=hg.ex;intro nC s σ H Q I h;exact rE hc S hi h1 ht he hs nC s σ H Q I (rC h2 (fun i hi=>by rw[I.len];exact hl i hi) h)
theorem JJ(j:Nat){y:Str}{py FJ:Pos}(hN:X.N.Nodup)(hc:X.calm=true)(S:b7 X nm scope)(hi:DI X tg iter fi)(hg:TGc X nm scope own tg is bd)(ht:∀cl C s H fp,DTs (aT X nm scope own cl C s H fp) Kp t)(he:∀cl C s H fp,DE (aT X nm scope own cl C s H fp) HP f)
  (hl:∀i∈is,X.N.length<=i) (hj:X.N[j]?=some y:=by rfl) (hy:Loc X.env.scope y:=by trivial)
  (hsw:swapsWith (.ListComp HP [⟨tg,iter,Kp,0⟩] scope pos) (some (.Name y py)) FJ.line X.env=pure true:=by rfl) (hs:∀x,foldedSetIterable iter X.env x=pure x:=by intro _;rfl)
  (hf:X.fn y=true\/X.env.scope.names.lookup y=some .local:=by trivial):DS X (.Assign [.Name y py] (.ListComp HP [⟨tg,iter,Kp,0⟩] scope pos) FJ) (Dm.sA j (Dm.cC fi own.length bd t f)):=by
 obtain⟨g,h1,h2⟩:=hg.ex;intro nC s σ H D I h;exact cA hN hj hy hc S hi h1 ht he hsw hs hf nC s σ H D I (rC h2 (fun i hi=>by rw[I.len];exact hl i hi) (Bg h))
end
theorem m7{H0:Hp}:∀{ds:List Dat} {bs:List Bool} {vs:List V},av H0 vs ds->Dm.bools ds=some bs->vs=bs.map V.bl
 |[],bs,vs,r,e=>by cases r;cases e;rfl
 |.bl b::ds,bs,vs,r,e=>by
  cases r with
  |cons r rs=>
   unfold Dm.bools at e;cases q:Dm.bools ds with
   |none=>rw[q]at e;cases e
   |some cs=>rw[q]at e;cases e;cases Rep.rA r;rw[m7 rs q];rfl
 |.non::ds,bs,vs,r,e=>by cases e
 |.int _::ds,bs,vs,r,e=>by cases e
 |.str _::ds,bs,vs,r,e=>by cases e
 |.tup _::ds,bs,vs,r,e=>by cases e
 |.lst _::ds,bs,vs,r,e=>by cases e
 |.dct _ _::ds,bs,vs,r,e=>by cases e
 |.dcp _ _::ds,bs,vs,r,e=>by cases e
theorem JK:CallD (fun xs H Q=>∃(a:Addr) (bs:List Bool),xs=[.ref a]/\Rd H a (.lst (bs.map V.bl))/\Q (.bl (bs.all id)) H) Dm.rj:=by
 intro H0 H vs ds z Q s rs e k;unfold Dm.rj at e;split at e
 ·split at e
  ·rename_i bs hb;cases e;cases rs with
   |cons r rr=>cases rr;obtain⟨a,us,rfl,qa,ra⟩:=bF s r;have:=m7 ra hb;subst this;exact⟨a,bs,rfl,qa,k _ H0 H (aG.refl s) (.bl _)⟩
  ·cases e
 ·cases e
section
variable{X:Cx}{a b c e:Expr}{f:FE}{fs:List FE}{p p2 pos:Pos}
theorem yi(hc:X.calm=true)(hg:Gl X "all")(hm:X.mg "all" = none)(ha:DA X [e] fs)(he:starEach [e] X.env=[(false,eval e X.env)]:=by rfl)(Cs:(backTo pos (starEach [] X.env)).any (·.1)=false:=by rfl) :
  DE X (.Call (.Name "all" p) [e] [] pos) (Dm.eB Dm.rj fs):=zR (zT hc) JK (by rfl) hg hm ha (he:=he) (Cs:=Cs)
end
noncomputable def cQ(sc:Scope):List Str->List Str->Bool
 |[],[]=>true
 |x::N,y::nm=>(x == y||(sc.names.lookup y).isNone)&&cQ sc N nm
 |_,_=>false
theorem cQ.len{sc:Scope}:∀{N nm:List Str},cQ sc N nm=true->nm.length=N.length
 |[],[],_=>rfl
 |[],_::_,h=>by cases h
 |_::_,[],h=>by cases h
 |x::N,y::nm,h=>by rw[cQ,Pu]at h;rw[PL,PL,cQ.len h.2]
theorem cQ.at{sc:Scope}:∀{N nm:List Str},cQ sc N nm=true->∀(i:Nat) (x:Str),nm[i]?=some x->N[i]?=some x\/sc.names.lookup x=none
 |[],[],_,i,x,e=>by simp at e
 |[],_::_,h,_,_,_=>by cases h
 |_::_,[],h,_,_,_=>by cases h
 |x::N,y::nm,h,0,z,e=>by
  rw[cQ,Pu,Bool.or_eq_true]at h;simp at e;subst e;rcases h.1 with q | q
  ·have:x=y:=by simpa using q
   subst this;exact .inl rfl
  ·exact .inr (by simpa using q)
 |x::N,y::nm,h,i+1,z,e=>by rw[cQ,Pu]at h;rw[Ra]at e ⊢;exact cQ.at h.2 i z e
noncomputable def gO(osc:Scope)(N nm:List Str)(sc:Scope):Bool:=
 sc.names.all (fun y=>y.2 != .cell)&&sc.names.all (fun y=>y.2 != .local||sc.names.lookup y.1 == some .local) &&
 sc.names.all (fun y=>y.2 != .free||(osc.names.lookup y.1 == some .cell||osc.names.lookup y.1 == some .free))&&nm.all (fun x=>sc.names.lookup x != some .local)&&cQ sc N nm
theorem b7.of{X:Cx}{nm:List Str}{scope:Scope}(h:gO X.env.scope X.N nm scope=true)(hk:scope.kind=.function):b7 X nm scope:=by
 unfold gO at h;simp only[Pu,Qe]at h;obtain⟨⟨⟨⟨h1,h2⟩,h3⟩,h4⟩,h5⟩:=h;refine⟨hk,fun y hy=>?_,fun y hy hl=>?_,fun y hy hf=>?_,fun x hx=>?_,cQ.len h5,cQ.at h5⟩
 ·have:=h1 y hy;simpa using this
 ·have:=h2 y hy;rw[hl]at this
  simpa using this
 ·have:=h3 y hy;rw[hf]at this;have:(X.env.scope.names.lookup y.1 == some .cell||X.env.scope.names.lookup y.1 == some .free)=true:=by simpa using this
  rw[Bool.or_eq_true,beq_iff_eq,beq_iff_eq]at this;exact this
 ·have:=h4 x hx;simpa using this
section
variable{X:Cx}{HP tg iter:Expr}{Kp:List Expr}{scope:Scope}{pos:Pos}{fi:Dm.FI}{bd:Dm.FB}{is:List Nat}{t:FT}{f:FE}
theorem jY{l:List Nat}{n:Nat}(h:(l.all fun i=>decide (n<=i))=true):∀i∈l,n<=i:=fun i hi=>of_decide_eq_true (Qe.mp h i hi)
theorem Ob(nm own:List Str)(hg:TGc X nm scope own tg is bd)(hi:DI X tg iter fi)(ht:∀cl C s H fp,DTs (aT X nm scope own cl C s H fp) Kp t)(he:∀cl C s H fp,DE (aT X nm scope own cl C s H fp) HP f)
  (hc:X.calm=true:=by rfl) (hk:scope.kind=.function:=by rfl) (hS:gO X.env.scope X.N nm scope=true:=by rfl) (hl:(is.all fun i=>decide (X.N.length<=i))=true:=by rfl) (hs:∀x,foldedSetIterable iter X.env x=pure x:=by intro _;rfl) :
  DE X (.ListComp HP [⟨tg,iter,Kp,0⟩] scope pos) (Dm.cC fi own.length bd t f):=JI hc (b7.of hS hk) hi hg ht he (jY hl) hs
theorem Mg(j:Nat)(nm own:List Str){y:Str}{py FJ:Pos}(hN:X.N.Nodup)(hg:TGc X nm scope own tg is bd)(hi:DI X tg iter fi)(ht:∀cl C s H fp,DTs (aT X nm scope own cl C s H fp) Kp t)(he:∀cl C s H fp,DE (aT X nm scope own cl C s H fp) HP f)
  (hc:X.calm=true:=by rfl) (hk:scope.kind=.function:=by rfl) (hS:gO X.env.scope X.N nm scope=true:=by rfl) (hl:(is.all fun i=>decide (X.N.length<=i))=true:=by rfl) (hj:X.N[j]?=some y:=by rfl) (hy:Loc X.env.scope y:=by trivial)
  (hsw:swapsWith (.ListComp HP [⟨tg,iter,Kp,0⟩] scope pos) (some (.Name y py)) FJ.line X.env=pure true:=by rfl) (hs:∀x,foldedSetIterable iter X.env x=pure x:=by intro _;rfl)
  (hf:X.fn y=true\/X.env.scope.names.lookup y=some .local:=by trivial):DS X (.Assign [.Name y py] (.ListComp HP [⟨tg,iter,Kp,0⟩] scope pos) FJ) (Dm.sA j (Dm.cC fi own.length bd t f)):=
 JJ j hN hc (b7.of hS hk) hi hg ht he (jY hl) hj hy hsw hs hf
end
section
variable{f:FE}{a:Addr}{X:Cx}{H:Hp}
theorem PI.or{tg it:Expr}{t t':TI}(h:PI X tg it t)(h':PI X tg it t'):PI X tg it (fun σ H R=>t σ H R\/t' σ H R):=fun nC s σ H R I q=>q.elim (h nC s σ H R I) (h' nC s σ H R I)
theorem Mh{K:O8}{σ:L2.St}{R:It->Hp->Prop}(h:tDI (Dm.iS f) σ H R):sX K (tD f) σ H R\/AG K (tD f) σ H R:=by
 obtain⟨H0,ρ,ys,ρ',st,e,k⟩:=h;unfold Dm.iS at e;split at e
 ·cases e
 rename_i x ρ1 e1;split at e
 ·rename_i ds ρ2 e2;cases e;exact .inl (N1 ⟨H0,ρ,_,_,st,by unfold Dm.iL;rw[e1];dsimp only;rw[e2],k⟩)
 ·rename_i ds ρ2 e2;cases e;exact .inr (N2 ⟨H0,ρ,_,_,st,by unfold Dm.iT;rw[e1];dsimp only;rw[e2],k⟩)
 ·cases e
theorem i_S{tg e:Expr}(h:DE X e f):DI X tg e (Dm.iS f):=PI.weak (PI.or (xU h) (AH h)) fun _ _ _=>Mh
noncomputable def BH(K:O8):Bool:=K.all fun p=>match p.2.cls with | .type n=>n != "list" | _=>true
theorem lookup_mem{o:Obj}:∀{K:List (Addr×Obj)},K.lookup a=some o->(a,o)∈K
 |[],h=>by cases h
 |(b,x)::r,h=>by
  rw[Qj]at h;cases q:a == b with
  |true=>
   rw[q]at h;cases h;have:a=b:=by simpa using q
   rw[this];exact O9
  |false=>rw[q]at h;exact Dk _ (lookup_mem h)
theorem JL{f:List Dat->Option RV}{K:O8}{ns:List Int}{E:XK}(hf:f [.lst (ns.map Dat.int)]=some (.val (.bl true)))(hK:BH K=true)(hS:SqL K H a (ns.map V.int)) :
  spD f [.ref a] H (fun v _=>v=.bl true) E:=by
 have hq:Rd H a (.lst (ns.map V.int)):=by
  rcases hS with h | ⟨o,its,n,hk,hc,_⟩
  ·exact h
  ·have:=Qe.mp hK _ (lookup_mem hk);dsimp only at this;rw[hc]at this;exact absurd this (by decide)
 have hr:∀ns:List Int,av H (ns.map V.int) (ns.map Dat.int):=fun ns=>by
  induction ns with
  |nil=>exact .nil
  |cons n ns ih=>exact .cons (.int n) ih
 exact⟨H,_,_,aj.refl _,.cons (.lst hq (hr ns)) .nil,hf,fun v H0' H' _ r=>Rep.rA r⟩
end
end Br
namespace Dm
noncomputable def iRd(a b c:FE):FI:=fun ρ=>match a ρ with
 | some (.val (.int i),ρ1)=>(match b ρ1 with
  | some (.val (.int j),ρ2)=>(match c ρ2 with
   |some (.val (.int k),ρ3)=>if k=-1/\j<=BIG/\-BIG<=j/\i<=BIG/\-BIG<=i then some (downs i (i-j).toNat,ρ3) else none
   |_=>none)
  |_=>none)
 |_=>none
noncomputable def jZ:Nat->List Dat->List Dat
 |_,[]=>[]
 |i,d::ds=>.tup [.int (i:Nat),d]::jZ (i+1) ds
noncomputable def iEn(a:FE):FI:=fun ρ=>match a ρ with
 |none=>none
 |some (x,ρ1)=>match tk ρ1 x with
  |some (.lst ds,ρ2)=>some (jZ 0 ds,ρ2)
  |_=>none
end Dm
namespace Br
open PySem PySem.Spec PyProof.Rows L2
theorem zU{X:Cx}{nC:List (Addr×Obj)}{σ:L2.St}{H:Hp}{s:Shared}{h':Heap}{t':Nat}{fp:List Addr}{p:Addr}{o:HO}(I:Inv X nC σ H s)(hf:∀b∈fp,qU X nC H b)
  (k:∀b u,b∉fp->s.heap.get? b=some u->h'.get? b=some u) (hp:s.heap.objs.size<=p) (new:aQ X.prog X.w (upd H p o) h' p o):Inv X nC σ (upd H p o) { s with heap:=h',toks:=t' }:=by
 have hn:H p=none:=I.hok.fresh hp;have nf:∀b u,H b=some u->b∉fp:=fun b u e z=>by rw[(hf b z).1]at e;cases e
 have nL:X.env.locals∉fp:=fun z=>(hf _ z).2.1 rfl;refine I.step (g':=s.gens) (d':=s.drawn) (ch:=fp) (fun b hb=>?_) (fun b u _ _ hc e _=>k b u hc e) (fun b u _ _ hc e _=>⟨u.slots,k b u hc e⟩)
  (fun b u _ e n=>by rw[ao (P6 (Pq (Po e) hp))];exact n) (fun b u hc e=>⟨u,k b u hc e⟩)
  (fun b xs q=>by rw[ao (aH q hn)];exact q) (fun b u xs q=>by rw[ao (aH q hn)];exact q) (fun b _ _ _ q=>by rw[ao (aH q hn)];exact q) (fun m hm=>?_) (fun b u e=>?_) I.bare
 ·obtain⟨f0,f1,f2,f3,f4,f5⟩:=hf b hb;exact⟨f3,f1,f4,f5⟩
 ·obtain⟨o,es,ep,ho,r⟩:=hm;exact⟨o,es,ep,k _ o nL ho,r⟩
 ·by_cases hb:b=p
  ·subst hb;rw[aq]at e;cases e;exact new
  ·rw[ao hb]at e;refine(I.hok b u e).stay (fun c v hc q=>k c v ?_ q) (fun c q=>by rw[ao (aH q hn)];exact q) (fun c _ _ q=>by rw[ao (aH q hn)];exact q) fun c xs q=>by rw[ao (aH q hn)];exact q
   rcases hc with z | z
   ·rw[z];exact nf b u e
   ·exact nf c _ z
noncomputable def Ite(K:O8)(a:Addr):It:=
 ⟨fun i H=>∃xs x,SqL K H a xs/\xs[i]?=some x,fun i H x H'=>∃p v,H p=none/\x=.ref p/\H'=upd H p (.tup [.int i,v])/\∀xs,SqL K H a xs->xs[i]?=some v,fun i H=>∃xs,SqL K H a xs/\xs.length<=i⟩
theorem zV{P:Program}{w:World}{K:O8}{elts:List Expr}{x1}{tp:Pos}(a e it:Addr)(MU:e≠it):Turn P w K (.Tuple elts x1 tp) (Ite K a) [e,it] e (fun i h=>(∃old,IsEnum h e it (i:Nat) old)/\h.IsListIter it a i) where
 mem:=by simp
 obj:=fun i h st b hb=>by
  obtain⟨⟨old,he⟩,o,e1,c,d⟩:=st;rcases Pk.mp hb with rfl | hb
  ·exact ⟨_,he,fun v z=>by have z':Data.fields _=Data.cell v:=z;cases z'⟩
  ·have e2:b=it:=by simpa using hb
   subst e2;exact⟨o,e1,fun v z=>by rw[d]at z;cases z⟩
 keep:=fun i h h' st k=>⟨let ⟨old,he⟩:=st.1;⟨old,k e (by simp) _ he⟩,st.2.at fun o z=>k it (by simp) o z⟩
 item:=by
  intro X hP hw hK hc i nC s σ H E I hf st hg;subst hP hw hK;obtain⟨xs,x,hq,hx⟩:=hg;obtain⟨its,rv,p,hz⟩:=I.list hq;obtain⟨u,hu,ru⟩:=rv.get hx;obtain⟨⟨old,he⟩,Ku⟩:=st;refine wpAny_pyNext_enum_item he Ku p.isList (x:=u) (by simpa using hu) MU fun h1 heo Oc ht1 hz1 hk1=>?_;refine⟨_,rfl,wpAny_letOwnedTupleGo_enum heo fun h2 he2 hs2=>?_⟩;have HN:e<s.heap.objs.size:=Po he;have ht2:h2.get? s.heap.objs.size=some { cls:=.type "tuple",data:=.seq #[.int i s.toks,u] }:=(hs2.2 _ (RP HN)).trans ht1;have k2:∀b o,b∉[e,it]->s.heap.get? b=some o->h2.get? b=some o:=fun b o hb z=>by have n1:b≠e:=fun y=>hb (by simp[y]);have n2:b≠it:=fun y=>hb (by simp[y]);exact(hs2.2 b n1).trans (hk1 b o n1 n2 z)
  have hn:H s.heap.objs.size=none:=I.hok.fresh (Pb _);have I2:Inv X nC σ (upd H s.heap.objs.size (.tup [.int i,x])) { s with heap:=h2,toks:=s.toks+1 }:=
   zU I hf k2 (Pb _) ⟨by simp[sizeLine],[.int i s.toks,u],.cons ⟨s.toks,rfl⟩ (.cons ru .nil),_,ht2,rfl,_,rfl⟩
  refine⟨.ref s.heap.objs.size,_,I2,rfl,⟨_,x,hn,rfl,rfl,fun ys hy=>by rw[I.sU hy hq];exact hx⟩,⟨⟨u,?_⟩,?_⟩,fun b hb=>?_⟩
  ·have:(((i+1:Nat):Int))=(i:Int)+1:=by lia
   rw[this];exact he2
  ·exact Oc.at fun o z=>(hs2.2 it (P4 MU)).trans z
  ·have hb1:b≠s.heap.objs.size:=fun y=>by
    rcases Pk.mp hb with z | z
    ·rw[y]at z;exact absurd z (RP HN)
    ·have z':b=it:=by simpa using z
     obtain⟨o,ho,_⟩:=Ku;have:=Po ho;rw[<- z',y]at this;exact QT _ this
   rw[ao hb1];exact(hf b hb).1
 done:=by intro X hP hw hK hc i nC s σ H E I hf st hg;subst hP hw hK;obtain⟨xs,hq,hx⟩:=hg;obtain⟨its,rv,p,hz⟩:=I.list hq;obtain⟨f0,f1,f2,f3,f4,f5⟩:=hf it (by simp);obtain⟨⟨old,he⟩,Ku⟩:=st;have hl:=rv.length;exact wpAny_pyNext_enum_end (I.ok.hd hc) he Ku p.isList (by simp;lia) fun h' eb=>⟨rfl,I.turned (t':=s.toks) (fun b o hb e=>eb b o hb e) f0 f1 f3 f4 f5⟩
 self:=fun A i s Q E st h=>by
  obtain⟨⟨old,he⟩,Ku⟩:=st;have hT:s.TypeIs (.ref e) "enumerate" := ⟨_,he,rfl⟩
  refine wpAny_pyIter_slot hT F.slot_enumerate_iter (wpAny_call_entry F.slot_enumerate_iter hT F.entry_enumerate_iter ?_ (F.args_enumerate_iter_1 _));show wpAny _ _ (ret (.ref e)) _ _ s;exact wpAny_pure ⟨_,rfl,"enumerate",_,hT,F.slot_enumerate_next.lookup,h⟩
def Mi(K:O8)(tl:TE):TI:=fun σ H R=>tl σ H fun x H1=>∃a,x=.ref a/\(∃xs,SqL K H1 a xs)/\R (Ite K a) H1
section
variable{X:Cx}{l:Expr}{tl:TE}{p pos:Pos}{elts:List Expr}{x1:Nat}{tp:Pos}
theorem EX(hg:Gl X "enumerate")(hm:X.mg "enumerate" = none)(hl:PE X l tl)(hs:starEach [l] X.env=[(false,eval l X.env)]:=by rfl):PI X (.Tuple elts x1 tp) (.Call (.Name "enumerate" p) [l] [] pos) (Mi X.K tl):=by
 intro nC s σ H R I h;refine Call_ (kr I hg hm boot_enumerate (QZ (spliced_more ?_ (by rw[hs];rfl)) (by rw[hs];rfl) rfl));refine thn (hl nC s σ H _ I h) fun v s1 ⟨x,H1,I1,r1,q1⟩=>?_;obtain⟨a,e,⟨xs,hq⟩,q⟩:=q1;subst e;cases r1;obtain⟨its,rv,pl,hz⟩:=I1.list hq;refine Rt (call_enumerate_list pl.isList fun h' he Ku hsz k=>?_);have I2:Inv X nC σ H1 { s1 with heap:=h' }:=I1.kept (t':=s1.toks) k;have T:=zV (P:=X.prog) (w:=X.w) (K:=X.K) (elts:=elts) (x1:=x1) (tp:=tp) a (s1.heap.objs.size+1) s1.heap.objs.size (Nat.succ_ne_self _);refine T.self X.A 0 { s1 with heap:=h' } _ X.xe ⟨⟨_,he⟩,Ku⟩ ?_;refine⟨s1.heap.objs.size+1,[s1.heap.objs.size+1,s1.heap.objs.size],_,_,H1,rfl,I2,T,⟨⟨_,he⟩,Ku⟩,fun b hb=>?_,q⟩;have:s1.heap.objs.size<=b:=by
  rcases Pk.mp hb with rfl | hb
  ·exact Nat.le_succ _
  ·have:b=s1.heap.objs.size:=by simpa using hb
   exact Nat.le_of_eq this.symm
 exact I1.Ei this (I1.hok.fresh this)
end
theorem tS:∀(ds:List Dat) (i:Nat),(Dm.jZ i ds).length=ds.length
 |[],_=>rfl
 |_::ds,i=>by simp[Dm.jZ,tS ds]
theorem tT:∀(ds:List Dat) (i j:Nat) (d:Dat),(Dm.jZ i ds)[j]?=some d->∃x,ds[j]?=some x/\d=.tup [.int ((i+j:Nat):Int),x]
 |[],_,_,_,h=>by cases h
 |x::ds,i,0,d,h=>by cases h;exact⟨x,rfl,rfl⟩
 |x::ds,i,j+1,d,h=>by
  obtain⟨y,h1,h2⟩:=tT ds (i+1) j d h;refine⟨y,h1,?_⟩;rw[h2];have:i+1+j=i+(j+1):=by lia
  rw[this]
theorem EY{K:O8}{H0:Hp}{a:Addr}{xs:List V}{ds:List Dat}(hq:Rd H0 a (.lst xs))(rs:av H0 xs ds):JW (Ite K a) H0 (Dm.jZ 0 ds):=by intro H0' H s0 s1;have q:SqL K H a xs:=.inl (aj.rd s1 (aj.rd s0 hq));refine⟨fun i hi=>⟨xs,q,by rw[rs.length,<- tS ds 0];exact hi⟩,fun i d e=>?_⟩;obtain⟨d',hd,rfl⟩:=tT ds 0 i d e;obtain⟨v,hv,rv⟩:=rs.get hd;refine⟨⟨xs,v,q,hv⟩,fun x H' y=>?_⟩;obtain⟨p,v',hn,rfl,rfl,y⟩:=y;have z:=y xs q;rw[hv]at z;cases z;have g:=aG.EC (o:=HO.tup [.int i,v]) s1 hn;refine⟨_,g,.tup aq (.cons ?_ (.cons ((rv.mono s0).mono g.s0) .nil))⟩;rw[Nat.zero_add];exact .int _
section
variable{σ:L2.St}{H:Hp}{R:It->Hp->Prop}
theorem Mj{K:O8}{f:FE}(h:tDI (Dm.iEn f) σ H R):Mi K (tD f) σ H R:=by
 obtain⟨H0,ρ,ys,ρ',st,e,k⟩:=h;unfold Dm.iEn at e;split at e
 ·cases e
 rename_i x ρ1 e1;split at e
 ·rename_i ds ρ2 e2;cases e;refine⟨H0,ρ,_,ρ1,st,e1,fun v H0' H' t r=>?_⟩;obtain⟨H1,t1,b1,r1,_,_⟩:=take1 t (aj.refl _) r e2;cases r1 with
  |lst q rs=>exact⟨_,rfl,⟨_,.inl (aj.rd t1.st.same q)⟩,k _ H1 H' t1 (EY q rs)⟩
 ·cases e
end
section
variable{X:Cx}{tg e a b c:Expr}{f fa fb fc:FE}{p pos p0 pD:Pos}{elts:List Expr}{x1:Nat}{tp:Pos}
theorem Od(hg:Gl X "enumerate")(hm:X.mg "enumerate" = none)(h:DE X e f)(hs:starEach [e] X.env=[(false,eval e X.env)]:=by rfl):DI X (.Tuple elts x1 tp) (.Call (.Name "enumerate" p) [e] [] pos) (Dm.iEn f):=PI.weak (EX hg hm h hs) fun _ _ _=>Mj
end
end Br
namespace Dm
noncomputable def aI(i:Nat)(own:Nat)(bd:FB)(t:FT)(el:FE):FE:=fun ρ=>match ρ[i]? with
 | some (.ow (.lst ds))=>if ds.length≤SZ then (match gh bd t el ds (ρ.set i .un++Ds own .un) [] with
  |none=>none
  |some (ys,ρ2)=>some (.new (.lst ys),(ρ2.take ρ.length).set i (.ow (.lst ds)))) else none
 |_=>cC (iS (eV i)) own bd t el ρ
end Dm
namespace Br
open PySem PySem.Spec PyProof.Rows L2
theorem BI{K:O8}{H0:Hp}{a:Addr}{xs:List V}{ds:List Dat}(rs:av H0 xs ds):JWa (Itl K a) H0 (some (a,.lst xs)) ds:=by intro H0' H s0 s1 hq;have hq:=hq _ rfl;have q:SqL K H a xs:=.inl (.inl hq);refine⟨fun i hi=>⟨xs,q,by rw[rs.length];exact hi⟩,fun i d e=>?_⟩;obtain⟨v,hv,rv⟩:=rs.get e;refine⟨⟨xs,v,q,hv⟩,fun x H' y=>?_⟩;obtain⟨e1,y⟩:=y;subst e1;have z:=y xs q;rw[hv]at z;cases z;exact⟨H0',aG.refl s1,rv.mono s0⟩
theorem yj{K:O8}{σ:L2.St}{H:Hp}{i own:Nat}{bd:Dm.FB}{g:TG}{t:FT}{el:FE}{is:List Nat}{Q:VK}(hb:BD is g bd)(hl:∀i∈is,σ.length<=i)(h:tD (Dm.aI i own bd t el) σ H Q) :
  tLC (fun σ H R=>sX K (tD (Dm.eV i)) σ H R\/AG K (tD (Dm.eV i)) σ H R) own g (tDT t) (tD el) σ H Q:=by
 obtain⟨H0,ρ,x,ρ',st,e,k⟩:=h;unfold Dm.aI at e;split at e
 ·rename_i ds eo;split at e
  case isFalse=>cases e
  rename_i hsz;split at e
  ·cases e
  rename_i ys ρ2 e2;cases e;refine .inl ⟨H0,ρ,.slot i,ρ,st,by unfold Dm.eV;rw[eo],fun v H0' H' t1 r=>?_⟩;obtain⟨a,qa,na,xs,ha,rs⟩:=t1.st.ow i _ eo;obtain⟨r1,_⟩:=r;rw[qa]at r1;cases r1;have nO:¬af σ (ρ.set i .un) a:=fun z=>by obtain⟨j,d,hj,h1,h2⟩:=bU z;exact hj (t1.st.dis j i d _ a h1 eo h2 qa)
  have HN:i<ρ.length:=(Pa.mp eo).1;refine⟨a,rfl,⟨xs,.inl (.inl ha)⟩,fun D hD=>tO hb hl (t1.st.mask i) (fun q e=>by cases e;exact⟨ha,na,nO⟩) (BI rs) hsz e2 (fun v H1 Hc t2 r2 hpa=>?_) D hD⟩;obtain⟨ha2,na2⟩:=hpa _ rfl;rw[PR]at t2 r2;have oo:∀b,af σ ((ρ2.take ρ.length).set i (.ow (.lst ds))) b->b=a\/af σ (ρ2.take ρ.length) b:=fun b ⟨j,d,h1,h2⟩=>by
   by_cases q:i=j
   ·subst q;rw[qa]at h2;cases h2;exact .inl rfl
   ·rw[gc q]at h1;exact .inr ⟨j,d,h1,h2⟩
  have om:∀b,af σ (ρ.set i .un) b->af σ ρ b:=fun b z=>by obtain⟨j,d,hj,h1,h2⟩:=bU z;exact⟨j,d,h1,h2⟩
  have oa:af σ ρ a:=⟨i,_,eo,qa⟩
  have nO2:¬af σ (ρ2.take ρ.length) a:=fun z=>nO (t2.own a z);have BJ:(ρ2.take ρ.length).length=ρ.length:=by rw[<- t2.st.len,st.len]
  refine k v H1 Hc (t1.trans ⟨⟨t2.st.same,by rw[PR];exact t2.st.len,fun j d h=>?_,fun j d h=>?_,fun j j' d d' b h1 h2 h3 h4=>?_⟩,t2.stp.wide om,fun b z=>?_,fun j z=>?_⟩) ?_
  ·by_cases q:i=j
   ·subst q;rw[PB (by rw[BJ];exact HN)]at h;cases h
   ·rw[gc q]at h;exact t2.st.sh j d h
  ·by_cases q:i=j
   ·subst q;rw[PB (by rw[BJ];exact HN)]at h;cases h;exact⟨a,qa,na2,xs,ha2,rs.mono t2.stp.s0⟩
   ·rw[gc q]at h;exact t2.st.ow j d h
  ·by_cases q:i=j
   ·subst q;by_cases q':i=j'
    ·exact q'
    ·rw[gc q']at h2;rw[qa]at h3;cases h3;exact absurd ⟨j',d',h2,h4⟩ nO2
   ·rw[gc q]at h1;by_cases q':i=j'
    ·subst q';rw[qa]at h4;cases h4;exact absurd ⟨j,d,h1,h3⟩ nO2
    ·rw[gc q']at h2;exact t2.st.dis j j' d d' b h1 h2 h3 h4
  ·rcases oo b z with rfl | z
   ·exact oa
   ·exact om b (t2.own b z)
  ·trivial
  ·obtain⟨D',e',n',no',n0',w'⟩:=r2;refine⟨D',e',t1.stp.gone n',fun z=>?_,n0',w'⟩;rcases oo D' z with rfl | z
   ·rw[n']at ha;cases ha
   ·exact no' z
 ·have h2:=rC (fi:=Dm.iS (Dm.eV i)) hb hl ⟨H0,ρ,x,ρ',st,e,k⟩;exact Mh h2
section
variable{X:Cx}{HP tg:Expr}{Kp:List Expr}{scope:Scope}{pos px:Pos}{bd:Dm.FB}{is:List Nat}{t:FT}{f:FE}{x:Str}
theorem i_M(i:Nat)(h:DE X (.Name x px) (Dm.eV i)):PI X tg (.Name x px) (fun σ H R=>sX X.K (tD (Dm.eV i)) σ H R\/AG X.K (tD (Dm.eV i)) σ H R):=PI.or (xU h) (AH h)
theorem eU(i:Nat)(nm own:List Str)(hg:TGc X nm scope own tg is bd)(hi:DE X (.Name x px) (Dm.eV i))(ht:∀cl C s H fp,DTs (aT X nm scope own cl C s H fp) Kp t)(he:∀cl C s H fp,DE (aT X nm scope own cl C s H fp) HP f)
  (hc:X.calm=true:=by rfl) (hk:scope.kind=.function:=by rfl) (hS:gO X.env.scope X.N nm scope=true:=by rfl) (hl:(is.all fun i=>decide (X.N.length<=i))=true:=by rfl) (hs:∀y,foldedSetIterable (.Name x px) X.env y=pure y:=by intro _;rfl) :
  DE X (.ListComp HP [⟨tg,.Name x px,Kp,0⟩] scope pos) (Dm.aI i own.length bd t f):=by
 obtain⟨g,h1,h2⟩:=hg.ex;intro nC s σ H Q I h;exact rE hc (b7.of hS hk) (i_M i hi) h1 ht he hs nC s σ H Q I (yj h2 (fun i hi=>by rw[I.len];exact jY hl i hi) h)
theorem tU(j i:Nat)(nm own:List Str){y:Str}{py FJ:Pos}(hN:X.N.Nodup)(hg:TGc X nm scope own tg is bd)(hi:DE X (.Name x px) (Dm.eV i))(ht:∀cl C s H fp,DTs (aT X nm scope own cl C s H fp) Kp t)(he:∀cl C s H fp,DE (aT X nm scope own cl C s H fp) HP f)
  (hc:X.calm=true:=by rfl) (hk:scope.kind=.function:=by rfl) (hS:gO X.env.scope X.N nm scope=true:=by rfl) (hl:(is.all fun i=>decide (X.N.length<=i))=true:=by rfl) (hj:X.N[j]?=some y:=by rfl) (hy:Loc X.env.scope y:=by trivial)
  (hsw:swapsWith (.ListComp HP [⟨tg,.Name x px,Kp,0⟩] scope pos) (some (.Name y py)) FJ.line X.env=pure true:=by rfl) (hs:∀y,foldedSetIterable (.Name x px) X.env y=pure y:=by intro _;rfl)
  (hf:X.fn y=true\/X.env.scope.names.lookup y=some .local:=by trivial):DS X (.Assign [.Name y py] (.ListComp HP [⟨tg,.Name x px,Kp,0⟩] scope pos) FJ) (Dm.sA j (Dm.aI i own.length bd t f)):=by
 obtain⟨g,h1,h2⟩:=hg.ex;intro nC s σ H D I h;exact cA hN hj hy hc (b7.of hS hk) (i_M i hi) h1 ht he hsw hs hf nC s σ H D I (yj h2 (fun i hi=>by rw[I.len];exact jY hl i hi) (Bg h))
end
end Br
namespace Dm
noncomputable def fnM(n m:Nat)(body:FS)(ds:List Dat):Option (RV×Dat):=if ds.length=n then (match ds with
 | d::r=>(match body (Cell.ow d::(r.map Cell.sh++Ds m .un)) with
  | some (.ret z ρ')=>(match ρ'[0]? with
   |some (Cell.ow d')=>some (z,d')
   |_=>none)
  | some (.nx ρ')=>(match ρ'[0]? with
   |some (Cell.ow d')=>some (.val .non,d')
   |_=>none)
  |_=>none)
 |[]=>none) else none
noncomputable def flat:Dat->Bool
 |.tup xs=>xs.all fun x=>!dY x
 |d=>!dY d
noncomputable def wk:Dat->Bool
 |.lst xs=>xs.all fun x=>!dY x
 |_=>false
noncomputable def eFm(f:List Dat->Option (RV×Dat))(j:Nat)(as:List FE):FE:=fun ρ=>match ρ[j]? with
 | some (.ow _)=>(match eAs as ρ with
  |none=>none
  | some (xs,ρ1)=>(match ρ1[j]? with
   | some (.ow d1)=>(match tks ρ1 xs with
    |none=>none
    | some (ds,ρ2)=>(match ρ2[j]? with
     | some (.ow d)=>(match f (d::ds) with
      |none=>none
      |some (v,d')=>if flat v.dat&&wk d' then some (v.bC,ρ1.set j (.ow d')) else some (v.bC,ρ2.set j (.ow d')))
     |_=>none))
   |_=>none))
 |_=>none
end Dm
namespace Br
open PySem PySem.Spec PyProof.Rows L2
section
variable{ρ:Dm.Env}{σ:L2.St}{a:Addr}
def spM(f:List Dat->Option (RV×Dat)):Sp:=fun vs H Q _=>∃H0 a us d ds z d',vs=V.ref a::us/\aj H0 H/\H0 a=none/\Own H0 H a d/\av H0 us ds/\f (d::ds)=some (z,d') /\
 ∀v H0' H',Stp (fun b=>b=a) H0 H H0' H'->aj H0' H'->H0' a=none->Own H0' H' a d'->pC H H0' H' v z->Q v H'
theorem lW{n m:Nat}{body:FS}{vs:List V}{H:Hp}{Q:VK}{E:XK}(h:spM (Dm.fnM n m body) vs H Q E):vs.length=n:=by
 obtain⟨H0,a,us,d,ds,z,d',e,_,_,_,rs,ef,_⟩:=h;unfold Dm.fnM at ef;split at ef
 ·rename_i hl;rw[e,PL,rs.length]
  simpa using hl
 ·cases ef
theorem ay.kI{H0 H:Hp}{j:Nat}{d:Dat}(st:ay H0 H σ ρ)(q:σ[j]?=some (some (V.ref a)))(no:¬af σ ρ a)(n0:H0 a=none)(w:Own H0 H a d):ay H0 H σ (ρ.set j (.ow d)):=by
 have:=st.wc (i:=j) no n0 w;have e:σ.set j (some (V.ref a))=σ:=by
  apply Q2;intro i;by_cases h:j=i
  ·subst h;have hl:j<σ.length:=(Pa.mp q).1;rw[PB hl,q]
  ·rw[gc h]
 rw[e]at this;exact this
theorem ay.off{H0 H H0' H':Hp}(st:ay H0 H σ ρ)(s0:aj H0 H0')(ss:aj H0' H')(no:¬af σ ρ a)(s1:∀b o,H b=some o->b≠a->H' b=some o)(s2:∀(i:Nat) (d:Dat) (b:Addr),ρ[i]?=some (Dm.Cell.ow d)->σ[i]?=some (some (V.ref b))->H0' b=none):ay H0' H' σ ρ where
 same:=ss
 len:=st.len
 sh:=fun i d e=>by obtain⟨v,q,r⟩:=st.sh i d e;exact⟨v,q,r.mono s0⟩
 ow:=fun i d e=>by obtain⟨b,q,n,w⟩:=st.ow i d e;obtain⟨o,z⟩:=w.some;have nb:b≠a:=fun y=>no ⟨i,d,e,y▸q⟩;exact⟨b,q,s2 i d b e q,w.mono s0 ((s1 b o z nb).trans z.symm)⟩
 dis:=st.dis
theorem fT{H0 H1:Hp}:∀{xs:List V} {ds:List Dat},av H0 xs ds->(ds.all fun x=>!Dm.dY x)=true->av H1 xs ds
 |_,_,.nil,_=>.nil
 |_,_,.cons r rs,h=>by rw[Rb,Pu]at h;exact .cons (Rep.plain r (by simpa using h.1)) (fT rs h.2)
end
section
variable{σ:L2.St}{H:Hp}{Q:VK}
theorem EZ{f:List Dat->Option (RV×Dat)}{j:Nat}{fs:List FE}{E:XK}(h:tD (Dm.eFm f j fs) σ H Q):k_ (spM f) [] E (tDA (Dm.eV j::fs)) σ H Q:=by
 obtain⟨H0,ρ,x,ρ',st,e,k⟩:=h;unfold Dm.eFm at e;split at e
 case h_2=>cases e
 rename_i d0 h0;split at e
 ·cases e
 rename_i xs ρ1 e1;split at e
 case h_2=>cases e
 rename_i d1 h1;split at e
 ·cases e
 rename_i ds ρ2 e2;split at e
 case h_2=>cases e
 rename_i d h2;split at e
 ·cases e
 rename_i z d' fz;have ea:Dm.eAs (Dm.eV j::fs) ρ=some (.slot j::xs,ρ1):=by unfold Dm.eAs;rw[show Dm.eV j ρ=some (.slot j,ρ) from by unfold Dm.eV;rw[h0]];dsimp only;rw[e1]
 refine⟨H0,ρ,.slot j::xs,ρ1,st,ea,fun vs H1 Hb t1 r1=>?_⟩;dsimp only;rw[PY];cases r1 with
 |cons r0 rr=>
  obtain⟨H2,t2,b2,r2⟩:=takes t1 (aj.refl _) rr e2;obtain⟨a,qa,na,wa⟩:=t2.st.ow j d h2;obtain⟨q0,_⟩:=r0;rw[qa]at q0;cases q0;obtain⟨a1,qa1,na1,wa1⟩:=t1.st.ow j d1 h1;rw[qa]at qa1;cases qa1;obtain⟨oa,ha⟩:=wa.some;have hl2:j<ρ2.length:=(Pa.mp h2).1;have hl1:j<ρ1.length:=(Pa.mp h1).1;have oa0:af σ ρ a:=t1.own a ⟨j,d1,h1,qa⟩;refine⟨H2,a,_,d,ds,z,d',rfl,t2.st.same,na,wa,r2,fz,fun v H3 Hd s3 ss n3 w3 r3=>?_⟩;have no2:¬af σ (ρ2.set j .un) a:=fun y=>by obtain⟨i,d4,hi,y1,y2⟩:=bU y;exact hi (t2.st.dis i j d4 d a y1 h2 y2 qa)
  have no1:¬af σ (ρ1.set j .un) a:=fun y=>by obtain⟨i,d4,hi,y1,y2⟩:=bU y;exact hi (t1.st.dis i j d4 d1 a y1 h1 y2 qa)
  split at e
  ·rename_i fl;cases e;rw[Pu]at fl;obtain⟨f1,f2⟩:=fl;have wp:∀H',Own H' Hd a d':=fun H'=>by
    cases d' with
    |lst ys=>obtain⟨us,y1,y2⟩:=w3;exact⟨us,y1,fT y2 f2⟩
    |_=>cases f2
   have MR:∀H1':Hp,aj H1 H1'->aj H1' Hd->(∀b o,H1' b=some o->H1 b=some o\/((∃us,o=.tup us)/\H3 b=some o))->gH H H1' Hd σ (ρ1.set j (.ow d')) v z.bC->Q v Hd:=fun H1' m1 m2 m3 rv=>by
    have hd3:∀b,H1' b≠none->b≠a:=fun b hb y=>by
     subst y;cases y2:H1' b with
     |none=>exact hb y2
     |some o=>
      rcases m3 b o y2 with y3 | ⟨_,y3⟩
      ·rw[na1]at y3;cases y3
      ·rw[n3]at y3;cases y3
    have n1':H1' a=none:=by
     cases y:H1' a with
     |none=>rfl
     |some o=>exact absurd rfl (hd3 a (by rw[y];exact fun q=>nomatch q))
    have sm:ay H1' Hd σ (ρ1.set j .un):=by
     refine(t1.st.mask j).off m1 m2 no1 (fun b o y nb=>s3.s1 b o y nb) fun i d4 b y1 y2=>?_;obtain⟨b',q',nb',w'⟩:=(t1.st.mask j).ow i d4 y1;rw[y2]at q';cases q';cases y:H1' b with
     |none=>rfl
     |some o=>
      rcases m3 b o y with y3 | ⟨⟨us,y4⟩,y3⟩
      ·rw[nb']at y3;cases y3
      ·subst y4;have nb:b≠a:=hd3 b (by rw[y];exact fun q=>nomatch q);cases d4 with
       |lst _=>obtain⟨ws,z1,_⟩:=w';have z2:=s3.s1 b _ z1 nb;rw[ss _ _ y3]at z2;cases z2
       |dct _ _=>obtain⟨ws,z1,_⟩:=w';have z2:=s3.s1 b _ z1 nb;rw[ss _ _ y3]at z2;cases z2
       |dcp _ _=>obtain⟨ws,z1,_⟩:=w';have z2:=s3.s1 b _ z1 nb;rw[ss _ _ y3]at z2;cases z2
       |_=>exact Qd w'
    have sf:ay H1' Hd σ (ρ1.set j (.ow d')):=by have:=sm.kI qa no1 n1' (wp H1');rw[R8]at this;exact this
    refine k v H1' Hd ⟨sf,⟨t1.stp.s0.trans m1,fun b o y nb=>?_,fun b o y=>?_,fun b o y=>?_⟩,fun b y=>?_,fun i y=>?_⟩ rv
    ·have y1:=t1.stp.s1 b o y nb;exact s3.s1 b o y1 fun q=>nb (by rw[q];exact oa0)
    ·rcases m3 b o y with y3 | ⟨_,y3⟩
     ·exact t1.stp.s2 b o y3
     ·rcases s3.s2 b o y3 with y4 | y4 | y4
      ·exact .inl (t1.stp.gone y4)
      ·exact t2.stp.s2 b o y4
      ·subst y4;rw[n3]at y3;cases y3
    ·obtain⟨o',y1⟩:=t1.stp.s3 b o y;exact s3.s3 b o' y1
    ·obtain⟨i,d4,y1,y2⟩:=y;by_cases hi:j=i
     ·subst hi;rw[qa]at y2;cases y2;exact oa0
     ·rw[gc hi]at y1;exact t1.own b ⟨i,d4,y1,y2⟩
    ·trivial
   have m0:aj H1 Hd:=fun b o y=>s3.s1 b o (t1.st.same _ _ y) fun q=>by rw[q,na1]at y;cases y
   cases z with
   |new d4=>
    obtain⟨_,_,_,_,w⟩:=r3;cases d4 with
    |lst _=>cases f1
    |dct _ _=>cases f1
    |dcp _ _=>cases f1
    |_=>exact Qd w
   |val d4=>
    have r3':Rep H3 v d4:=r3;cases d4 with
    |tup es=>
     cases r3' with
     |tup q rs=>
      rename_i a2 us;have rp:av H1 us es:=fT rs f1;refine MR (upd H1 a2 (.tup us)) (fun b o y=>?_) (fun b o y=>?_) (fun b o y=>?_) (.tup aq (fT rs f1))
      ·by_cases hb:b=a2
       ·subst hb;have:=s3.s0 _ _ (b2 _ _ y);rw[q]at this;rw[aq,this]
       ·rw[ao hb];exact y
      ·by_cases hb:b=a2
       ·subst hb;rw[aq]at y;cases y;exact ss _ _ q
       ·rw[ao hb]at y;exact m0 _ _ y
      ·by_cases hb:b=a2
       ·subst hb;rw[aq]at y;cases y;exact .inr ⟨⟨us,rfl⟩,q⟩
       ·rw[ao hb]at y;exact .inl y
    |lst _=>cases f1
    |dct _ _=>cases f1
    |dcp _ _=>cases f1
    |exc _=>cases f1
    |dh _ _=>cases f1
    |fn _=>exact MR H1 (aj.refl _) m0 (fun b o y=>.inl y) (Rep.plain r3' rfl)
    |non=>exact MR H1 (aj.refl _) m0 (fun b o y=>.inl y) (Rep.plain r3' rfl)
    |bl _=>exact MR H1 (aj.refl _) m0 (fun b o y=>.inl y) (Rep.plain r3' rfl)
    |int _=>exact MR H1 (aj.refl _) m0 (fun b o y=>.inl y) (Rep.plain r3' rfl)
    |str _=>exact MR H1 (aj.refl _) m0 (fun b o y=>.inl y) (Rep.plain r3' rfl)
  ·cases e;have sm:ay H3 Hd σ (ρ2.set j .un):=by
    refine(t2.st.mask j).off s3.s0 ss no2 (fun b o y nb=>s3.s1 b o y nb) fun i d4 b y1 y2=>?_;obtain⟨b',q',nb',w'⟩:=(t2.st.mask j).ow i d4 y1;rw[y2]at q';cases q';obtain⟨ob,hob⟩:=w'.some;cases y:H3 b with
    |none=>rfl
    |some o=>
     rcases s3.s2 b o y with y3 | y3 | y3
     ·rw[hob]at y3;cases y3
     ·rw[nb']at y3;cases y3
     ·exact absurd ⟨i,d4,y1,y3▸y2⟩ no2
   have sf:ay H3 Hd σ (ρ2.set j (.ow d')):=by have:=sm.kI qa no2 n3 w3;rw[R8]at this;exact this
   have of:∀b,af σ (ρ2.set j (.ow d')) b->b=a\/af σ ρ2 b:=fun b ⟨i,d4,y1,y2⟩=>by
    by_cases hi:j=i
    ·subst hi;rw[qa]at y2;cases y2;exact .inl rfl
    ·rw[gc hi]at y1;exact .inr ⟨i,d4,y1,y2⟩
   refine k v H3 Hd ⟨sf,t2.stp.trans s3 (fun b y=>.inl (y▸oa0)),fun b y=>?_,fun i y=>?_⟩ ?_
   ·rcases of b y with y | y
    ·exact y▸oa0
    ·exact t2.own b y
   ·trivial
   ·cases z with
    |val d4=>exact r3
    |new d4=>
     obtain⟨b,y0,y1,y2,y3⟩:=r3;refine⟨b,y0,t2.stp.gone y1,fun y=>?_,y2,y3⟩;rcases of b y with y | y
     ·subst y;rw[ha]at y1;cases y1
     ·exact t2.st.bg y1 y
end
theorem bA{X:Cx}{es:List Expr}{p pos px:Pos}{k:Nat}{F:Addr}{fd:FuncData}{ps:List Str}{g:List Dat->Option (RV×Dat)}{x y:Str}{j:Nat}{fs:List FE}(G:bw X.prog X.w X.K X.mg X.base CX0 k F fd ps (spM g))(hr:bu k X.A)(hg:Gl X x)(hm:X.mg x=some (.ref F))(hk:QA X.K (.ref F)=true)(hb:Binds X.K fd ps [])
  (ha:DA X (.Name y px::es) (Dm.eV j::fs)) (MT:(x == ("__debug__" : Str))=false:=by decide) (he:starEach (.Name y px::es) X.env=(false,eval (.Name y px) X.env)::starEach es X.env:=by rfl) (Cs:(backTo pos (starEach es X.env)).any (·.1)=false:=by rfl) :
  DE X (.Call (.Name x p) (.Name y px::es) [] pos) (Dm.eFm g j fs):=PE.weak (fR G hr hg hm hk hb .nil (mG (X:=X)) ha MT he Cs) fun _ _ _=>EZ
theorem BK{N:List Str}{n m:Nat}{body:FS}{vs:List V}{H:Hp}{Q:VK}{E:XK}(hm:N.length=n+m)(h:spM (Dm.fnM n m body) vs H Q E) :
  tDS body { nx:=fun _ H'=>Q .non H',rt:=Q } (start N vs) H:=by
 have hvn:=lW h;obtain⟨H0,a,us,d,ds,z,d',e,s,na,wa,rs,ef,k⟩:=h;subst e;have hl:=rs.length;rw[PL]at hvn;have e0:(start N (V.ref a::us))[0]?=some (some (V.ref a)):=rfl;have get:∀{i:Nat} {c:Dm.Cell},(Dm.Cell.ow d::(ds.map Dm.Cell.sh++Ds m .un))[i]?=some c->(i=0/\c=.ow d)\/(∃i' d4,i=i'+1/\ds[i']?=some d4/\c=.sh d4)\/c=.un:=fun {i c} y=>by
  cases i with
  |zero=>cases y;exact .inl ⟨rfl,rfl⟩
  |succ i=>
   rw[Ra]at y;by_cases hi:i<ds.length
   ·rw[Pg (by simpa using hi),PD,Py hi]at y;cases y;exact .inr (.inl ⟨i,ds[i],rfl,Py hi,rfl⟩)
   ·rw[PN (by simpa using hi),Qg]at y;split at y
    ·cases y;exact .inr (.inr rfl)
    ·cases y
 have ow0:∀{i:Nat} {d4:Dat},(Dm.Cell.ow d::(ds.map Dm.Cell.sh++Ds m .un))[i]?=some (.ow d4)->i=0/\d4=d:=fun {i d4} y=>by
  rcases get y with⟨y1,y2⟩ | ⟨_,_,_,_,y2⟩ | y2
  ·cases y2;exact⟨y1,rfl⟩
  ·cases y2
  ·cases y2
 have oa:∀b,af (start N (V.ref a::us)) (Dm.Cell.ow d::(ds.map Dm.Cell.sh++Ds m .un)) b->b=a:=fun b ⟨i,d4,y1,y2⟩=>by obtain⟨y3,_⟩:=ow0 y1;subst y3;rw[e0]at y2;cases y2;rfl
 have st:ay H0 H (start N (V.ref a::us)) (Dm.Cell.ow d::(ds.map Dm.Cell.sh++Ds m .un)):=by
  refine⟨s,?_,fun i d4 y=>?_,fun i d4 y=>?_,fun i i' d4 d5 b y1 y2 _ _=>(ow0 y1).1.trans (ow0 y2).1.symm⟩
  ·unfold L2.start;simp only[Pd,gV,Qi,PL];omega
  ·rcases get y with⟨_,y2⟩ | ⟨i',d5,y1,y2,y3⟩ | y2
   ·cases y2
   ·cases y3;subst y1;obtain⟨v,hv,r⟩:=rs.get y2;refine⟨v,?_,r⟩;have hi:i'<us.length:=(Pa.mp hv).1;unfold L2.start;rw[Pg (by simp;omega),PD,Ra,hv];rfl
   ·cases y2
  ·obtain⟨y1,y2⟩:=ow0 y;subst y1 y2;exact⟨a,e0,na,wa⟩
 have MR:∀{σ':L2.St} {ρ':Dm.Env} {H0' H':Hp},SSt (start N (V.ref a::us)) (Dm.Cell.ow d::(ds.map Dm.Cell.sh++Ds m .un)) H0 H σ' ρ' H0' H'->ρ'[0]?=some (.ow d')->Stp (fun b=>b=a) H0 H H0' H'/\H0' a=none/\Own H0' H' a d'/\af σ' ρ' a:=fun {σ' ρ' H0' H'} t y=>by obtain⟨a',q',n',w'⟩:=t.st.ow 0 d' y;have fx:=t.fx;rw[e0,q']at fx;cases fx;exact⟨t.stp.wide fun b z=>oa b z,n',w',0,d',y,q'⟩
 unfold Dm.fnM at ef;split at ef
 case isFalse=>cases ef
 dsimp only at ef;split at ef
 ·rename_i z' ρ' e1;split at ef
  case h_2=>cases ef
  rename_i d4 y;cases ef;refine⟨H0,_,_,st,e1,fun σ' v H0' H' t r no=>?_⟩;obtain⟨f1,f2,f3,f4⟩:=MR t y;refine k v H0' H' f1 t.st.same f2 f3 ?_;cases z with
  |val d5=>exact r
  |new d5=>
   obtain⟨b,y0,y1,y2,y3⟩:=r;refine⟨b,y0,?_,y2,y3⟩;rcases y1 with y1 | y1
   ·exact y1
   ·exact absurd f4 (oa b y1▸no d5 b rfl y0)
 ·rename_i ρ' e1;split at ef
  case h_2=>cases ef
  rename_i d4 y;cases ef;refine⟨H0,_,_,st,e1,fun σ' H0' H' t=>?_⟩;obtain⟨f1,f2,f3,f4⟩:=MR t y;exact k _ H0' H' f1 t.st.same f2 f3 .non
 ·cases ef
end Br
namespace Dm
noncomputable def cO:List Int->List Dat->Int->Option Dat
 |k::ks,v::vs,i=>if k=i then some v else cO ks vs i
 |_,_,_=>none
noncomputable def yk:List Int->List Dat->Int->Dat->List Dat
 |k::ks,v::vs,i,d=>(if k=i then d else v)::yk ks vs i d
 |_,_,_,_=>[]
noncomputable def lz(ks:List Int)(i:Int):List Int:=if (ks.any fun k=>decide (k=i))=true then ks else ks++[i]
noncomputable def lA(ks:List Int)(vs:List Dat)(i:Int)(d:Dat):List Dat:=if (ks.any fun k=>decide (k=i))=true then yk ks vs i d else vs++[d]
noncomputable def gDx:Dat->Dat->Option RV
 |.dct ks vs,.int i=>(cO ks vs i).map .val
 |_,_=>none
noncomputable def wo:Dat->Dat->Option RV
 |.int i,.dct ks vs=>vB (cO ks vs i).isSome
 |_,_=>none
noncomputable def p9:Dat->Dat->Option RV
 |.int i,.dct ks vs=>vB (!(cO ks vs i).isSome)
 |_,_=>none
noncomputable def eD1(a b:FE):FE:=fun ρ=>match a ρ with
 | some (.val (.int i),ρ1)=>(match b ρ1 with
  |none=>none
  |some (x,ρ2)=>match tk ρ2 x with
   |none=>none
   |some (d,ρ3)=>some (.new (.dct [i] [d]),ρ3))
 |_=>none
noncomputable def p_(i:Nat)(j e:FE):FS:=fun ρ=>match e ρ with
 |none=>none
 |some (x,ρ1)=>match tk ρ1 x with
  |none=>none
  |some (d,ρ2)=>match ρ2[i]? with
   | some (.ow _)=>(match j ρ2 with
    | some (.val (.int k),ρ3)=>(match ρ3[i]? with
     |some (.ow (.dct ks vs))=>if ks.length<SZ then some (.nx (ρ3.set i (.ow (.dct (lz ks k) (lA ks vs k d))))) else none
     |_=>none)
    |_=>none)
   |_=>none
end Dm
namespace Br
open PySem PySem.Spec PyProof.Rows L2
section
variable{ds:List Dat}{ks:List Int}{H0:Hp}{d:Dat}{v:V}
theorem m8{H0 H:Hp}(s:aj H0 H)(r:i6 H0 H v (.dct ks ds)):∃a kvs,v=.ref a/\H a=some (.dK kvs)/\kvs.map (·.1)=ks.map P8/\av H0 (kvs.map (·.2)) ds:=by
 rcases r with r | ⟨a,e,kvs,q,ek,rs⟩
 ·cases r with
  |dct q ek rs=>exact⟨_,_,rfl,s _ _ q,ek,rs⟩
 ·exact⟨a,kvs,e,q,ek,rs⟩
theorem wu{a b:Int}(h:¬a=b):¬(P8 a:Key)=P8 b:=fun q=>h (Sum.inl.inj q)
theorem lX(i:Int):∀{kvs:List (Key×V)} {ks:List Int} {ds:List Dat},kvs.map (·.1)=ks.map P8->av H0 (kvs.map (·.2)) ds ->
  (∃d v,Dm.cO ks ds i=some d/\gu kvs (P8 i)=some v/\Rep H0 v d)\/(Dm.cO ks ds i=none/\gu kvs (P8 i)=none)
 |[],[],_,_,r=>by cases r;exact .inr ⟨rfl,rfl⟩
 |[],_::_,_,e,_=>by cases e
 |_::_,[],_,e,_=>by cases e
 |(k0,v0)::kvs,k::ks,_,e,r=>by
  rw[eg]at r;cases r with
  |cons r0 rr=>
   rw[eg,eg]at e;injection e with e1 e2
   have e1:k0=P8 k:=e1;subst e1;unfold Dm.cO;by_cases h:k=i
   ·subst h;rw[if_pos rfl];exact .inl ⟨_,v0,rfl,gB rfl,r0⟩
   ·rw[if_neg h,gC (wu h)];exact lX i e2 rr
theorem BL(i:Int):∀{kvs:List (Key×V)} {ks:List Int},kvs.map (·.1)=ks.map P8->(kvs.any fun kv=>decide (kv.1=P8 i))=(ks.any fun k=>decide (k=i))
 |[],[],_=>rfl
 |[],_::_,e=>by cases e
 |_::_,[],e=>by cases e
 |(k0,v0)::kvs,k::ks,e=>by
  rw[eg,eg]at e;injection e with e1 e2
  have e1:k0=P8 k:=e1;subst e1;rw[QF,QF,BL i e2]
  congr 1
  by_cases h:k=i
  ·subst h;simp
  ·have:=wu h;simp[h,this]
theorem yl(i:Int)(rv:Rep H0 v d):∀{kvs:List (Key×V)} {ks:List Int} {ds:List Dat},kvs.map (·.1)=ks.map P8->av H0 (kvs.map (·.2)) ds ->
  ((kvs.map fun kv=>if kv.1=P8 i then (kv.1,v) else kv).map (·.1)=ks.map P8)/\av H0 ((kvs.map fun kv=>if kv.1=P8 i then (kv.1,v) else kv).map (·.2)) (Dm.yk ks ds i d)
 |[],[],_,_,r=>by cases r;exact⟨rfl,.nil⟩
 |[],_::_,_,e,_=>by cases e
 |_::_,[],_,e,_=>by cases e
 |(k0,v0)::kvs,k::ks,_,e,r=>by
  rw[eg]at r;cases r with
  |cons r0 rr=>
   rw[eg,eg]at e;injection e with e1 e2
   have e1:k0=P8 k:=e1;subst e1;obtain⟨i1,i2⟩:=yl i rv e2 rr;unfold Dm.yk;by_cases h:k=i
   ·subst h;rw[if_pos rfl,eg,eg,eg,i1];simp only[if_true];exact⟨trivial,.cons rv i2⟩
   ·rw[if_neg h,eg,eg,eg,i1];have:=wu h;simp only[this,if_false];exact⟨trivial,.cons r0 i2⟩
theorem JM(i:Int)(rv:Rep H0 v d){kvs:List (Key×V)}(e:kvs.map (·.1)=ks.map P8)(r:av H0 (kvs.map (·.2)) ds) :
  (putK kvs (P8 i) v).map (·.1)=(Dm.lz ks i).map P8/\av H0 ((putK kvs (P8 i) v).map (·.2)) (Dm.lA ks ds i d):=by
 have ha:=BL i e;unfold putK Dm.lz Dm.lA;rw[ha];cases hb:(ks.any fun k=>decide (k=i)) with
 |true=>simp only[if_true];exact yl i rv e r
 |false=>simp only[Qu,if_false];rw[Pf,Pf,Pf,e];exact⟨rfl,r.append (.cons rv .nil)⟩
theorem Mk:OpD (fun x y H Q=>∃a v,x=.ref a/\dJ H a y (some v)/\Q v H) Dm.gDx:=by
 intro H0 H x y dx dy z Q s rx ry e k;unfold Dm.gDx at e;split at e
 ·rename_i ks vs i;cases aD ry;obtain⟨a,kvs,rfl,qa,ek,rs⟩:=m8 s rx;rcases lX i ek rs with⟨d,v,l1,l2,r⟩ | ⟨l1,_⟩
  ·rw[l1]at e;cases e;refine⟨a,v,rfl,?_,k _ H0 H (aG.refl s) r⟩;have:=dJ.k (k:=P8 i) qa;rw[l2]at this;exact this
  ·rw[l1]at e;cases e
 ·cases e
theorem JN:OpD (fun y x H Q=>∃a o,x=.ref a/\dJ H a y o/\Q (.bl o.isSome) H) Dm.wo:=by
 intro H0 H x y dx dy z Q s rx ry e k;unfold Dm.wo at e;split at e
 ·rename_i i ks vs;cases e;cases aD rx;obtain⟨a,kvs,rfl,qa,ek,rs⟩:=m8 s ry;refine⟨a,_,rfl,dJ.k (k:=P8 i) qa,k _ H0 H (aG.refl s) ?_⟩;rcases lX i ek rs with⟨d,v,l1,l2,r⟩ | ⟨l1,l2⟩
  ·rw[l1,l2];exact .bl _
  ·rw[l1,l2];exact .bl _
 ·cases e
theorem E1:OpD (fun y x H Q=>∃a o,x=.ref a/\dJ H a y o/\Q (.bl (!o.isSome)) H) Dm.p9:=by
 intro H0 H x y dx dy z Q s rx ry e k;unfold Dm.p9 at e;split at e
 ·rename_i i ks vs;cases e;cases aD rx;obtain⟨a,kvs,rfl,qa,ek,rs⟩:=m8 s ry;refine⟨a,_,rfl,dJ.k (k:=P8 i) qa,k _ H0 H (aG.refl s) ?_⟩;rcases lX i ek rs with⟨d,v,l1,l2,r⟩ | ⟨l1,l2⟩
  ·rw[l1,l2];exact .bl _
  ·rw[l1,l2];exact .bl _
 ·cases e
end
section
variable{σ:L2.St}{H:Hp}{Q:VK}{D:Ends}
theorem JO{i:Nat}{j f:FE}(h:tDS (Dm.p_ i j f) D σ H):A5 (gm i) (tD j) (tD f) D σ H:=by
 obtain⟨H0,ρ,o,st,e,k⟩:=h;unfold Dm.p_ at e;split at e
 ·cases e
 rename_i x ρ1 e1;split at e
 ·cases e
 rename_i d ρ2 e2;split at e
 case h_2=>cases e
 rename_i d0 h2;split at e
 ·rename_i m ρ3 e3;split at e
  ·rename_i ks vs h3;split at e
   case isFalse=>cases e
   rename_i hz;cases e;refine⟨H0,ρ,_,ρ1,st,e1,fun v H0' H' t r=>?_⟩;obtain⟨H1,t1,b1,r1,_,_⟩:=take1 t (aj.refl _) r e2;obtain⟨a0,q0,_,_⟩:=t1.st.ow i _ h2;refine⟨_,q0,H1,ρ2,_,ρ3,t1.st,e3,fun u H2 Hc t2 r2=>?_⟩;obtain⟨a,q,n,w⟩:=t2.st.ow i _ h3;rw[q0]at q;cases q;obtain⟨kvs,y,ek,rs⟩:=w;have hu:=Rep.isInt r2;subst hu;obtain⟨p1,p2⟩:=JM m (r1.mono t2.stp.s0) ek rs;have sF:kvs.length=ks.length:=by
    have:=congrArg List.length ek
    simpa using this
   refine⟨a0,_,rfl,tH.k (k:=P8 m) y (by rw[sF];exact Pq hz (by decide)),?_⟩;have ow:af σ ρ3 a0:=⟨i,_,h3,q0⟩
   have tt:=t1.trans t2;exact k σ H2 _ ⟨t2.st.write h3 q0 ⟨_,aq,p1,p2⟩,tt.stp.trans (Stp.write ow) fun b z=>.inl (tt.own b z),fun b z=>.inl (tt.own b (bV h3 z)),rfl⟩
  ·cases e
 ·cases e
theorem Oe{fa fb:FE}(h:tD (Dm.eD1 fa fb) σ H Q):Hw [(tD fa,tD fb)] σ H Q:=by
 obtain⟨H0,ρ,x,ρ',st,e,k⟩:=h;unfold Dm.eD1 at e;split at e
 ·rename_i i ρ1 e1;split at e
  ·cases e
  rename_i y ρ2 e2;split at e
  ·cases e
  rename_i d ρ3 e3;cases e;intro p hp;have n0:H0 p=none:=st.same.free hp;have no:¬af σ ρ p:=st.bg hp;refine⟨H0,ρ,_,ρ1,st.aside n0 no,e1,fun u H1 Hb t1 r1=>⟨H1,ρ1,y,ρ2,t1.st,e2,fun v H2 Hc t2 r2=>?_⟩⟩;have tt:=t1.trans t2;obtain⟨H3,t3,b3,r3,_,_⟩:=take1 tt (aj.refl _) (r2.early fun a n=>t1.stp.gone n) e3;obtain⟨hp3,n3,no3⟩:=t3.cN (o:=HO.dK []) aq n0 no;have hu:=Rep.isInt r1;subst hu;refine⟨hp3,[(P8 i,v)],rfl,(by simp),?_⟩;have em:kE [] [((P8 i:Key),v)]=[(P8 i,v)]:=rfl;rw[em];refine k _ H3 _ ⟨t3.st.aside n3 no3,⟨t3.stp.s0,fun a o y nb=>?_,fun a o y=>?_,fun a o y=>?_⟩,t3.own,t3.dfn⟩ ⟨p,rfl,hp,no3,n3,_,aq,rfl,.cons r3 .nil⟩
  ·have ne:a≠p:=fun q=>by rw[q,hp]at y;cases y
   rw[ao ne];exact t3.stp.s1 a o (by rw[ao ne];exact y) nb
  ·rcases t3.stp.s2 a o y with y1 | y1 | y1
   ·by_cases ne:a=p
    ·subst ne;rw[n3]at y;cases y
    ·rw[ao ne]at y1;exact .inl y1
   ·exact .inr (.inl y1)
   ·exact .inr (.inr y1)
  ·have ne:a≠p:=fun q=>by rw[q,hp]at y;cases y
   rw[ao ne];exact t3.stp.s3 a o (by rw[ao ne];exact y)
 ·cases e
end
theorem u1{k:Nat}{A:Around}(hr:bu k A):A.units+1<cLine:=Nat.lt_of_le_of_lt (Nat.add_le_add_left (by decide) _) hr.units
section
variable{X:Cx}{a b e:Expr}{fa fb f:FE}{pos:Pos}{k:Nat}
theorem Of(ha:DE X a fa)(hb:DE X b fb):DE X (.Dict [some a] [b] pos) (Dm.eD1 fa fb):=PE.weak (EB (Ba ha hb EA) rfl rfl (by simp) (by simp)) fun _ _ _=>Oe
theorem E2(hr:bu k X.A)(ha:DE X a fa)(hb:DE X b fb)(hs:Ex b:=by intro _ _;rfl):DE X (.Subscript a b pos) (Dm.e2 Dm.gDx fa fb):=PE.weak (x8 (u1 hr) ha hb hs) fun _ _ _=>rz Mk
theorem HF(hr:bu k X.A)(ha:DE X a fa)(hb:DE X b fb)(hm:behindInMarks .In b=false:=by rfl):DT X (.Compare a [.In] [b] pos) (Dm.tV (Dm.e2 Dm.wo fa fb)):=PT.weak (vN (A6 (u1 hr) ha hb) hm) fun σ H Q h=>rz JN (mQ h)
theorem BN(hr:bu k X.A)(ha:DE X a fa)(hb:DE X b fb)(hm:behindInMarks .NotIn b=false:=by rfl):DT X (.Compare a [.NotIn] [b] pos) (Dm.tV (Dm.e2 Dm.p9 fa fb)):=PT.weak (vN (zJ (u1 hr) ha hb) hm) fun σ H Q h=>rz E1 (mQ h)
theorem JP(i:Nat){x:Str}{px sp:Pos}(hr:bu k X.A)(hb:DE X b fb)(he:DE X e f)(hi:X.N[i]?=some x:=by rfl)(hv:Vis X.env.scope x:=by trivial)(hd:(x == ("__debug__" : Str))=false:=by decide)
  (HQ:(x == ("__classdict__" : Str))=false:=by decide) (hs:swapsWith e (some (.Subscript (.Name x px) b sp)) pos.line X.env=pure false:=by rfl):DS X (.Assign [.Subscript (.Name x px) b sp] e pos) (Dm.p_ i fb f):=
 PS.weak (x9 (u1 hr) (bR hi hv hd HQ) hb he hs) fun _ _ _=>JO
end
end Br
namespace Dm
noncomputable def i9(a:FE)(lo hi:Option FE):FE:=fun ρ=>match a ρ with
 |none=>none
 |some (x,ρ1)=>match part lo ρ1 with
  |none=>none
  |some (l,ρ2)=>match part hi ρ2 with
   |none=>none
   |some (h,ρ3)=>match pk ρ3 x with
    |some (.tup xs)=>if sIx xs.length 0 l=0/\sIx xs.length xs.length h=xs.length then none else some (.val (.tup (cut xs l h)),ρ3)
    |_=>none
end Dm
namespace Br
open PySem PySem.Spec PyProof.Rows L2
section
variable{σ:L2.St}{H:Hp}{Q:VK}
theorem Og{K:O8}{f:FE}{Q:Bool->Hp->Prop}(h:tDT (Dm.tTr f) σ H Q):tD f σ H fun x H'=>∃k,Jc K x H' k/\Q k H':=by
 obtain⟨H0,ρ,b,ρ',st,e,k⟩:=h;unfold Dm.tTr at e;split at e
 ·cases e
 rename_i x ρ1 e1;split at e
 ·cases e
 rename_i d p1;split at e
 ·cases e
 rename_i c tc;cases e;refine⟨H0,ρ,x,_,st,e1,fun v H1 Hb t1 r1=>⟨b,?_,k H1 Hb t1⟩⟩;have rl:=r1.look t1.st p1;cases d with
 |non=>
  cases tc;rcases rl with r | ⟨a,_,w⟩
  ·cases r;rfl
  ·exact Qd w
 |bl c=>cases tc;cases EI rl;rfl
 |int i=>cases tc;cases aD rl;rfl
 |tup es=>cases tc;obtain⟨a,xs,rfl,qa,rs⟩:=fF t1.st.same rl;refine .inr (.inl ⟨xs,SqT.of qa,?_⟩);cases rs<;>rfl
 |lst es=>cases tc;obtain⟨a,xs,rfl,qa,rs⟩:=bF t1.st.same rl;refine .inl ⟨xs,.inl qa,?_⟩;cases rs<;>rfl
 |str _=>cases tc
 |dct _ _=>cases tc
 |dcp _ _=>cases tc
 |exc _=>cases tc
 |dh _ _=>cases tc
 |fn _=>cases tc
end
section
variable{X:Cx}{a:Expr}{fa:FE}{p pos:Pos}
theorem Oh(ha:DE X a fa)(he:∀whole,isTrue a X.env whole=(do let v <- whole;standAt a.pos;holding [v] (truthy v)):=by intro _;rfl):DT X a (Dm.tTr fa):=PT.weak (AQ ha he) fun _ _ _=>Og
end
section
variable{X:Cx}{a b e:Expr}{fa fb f:FE}{fs:List FE}{p p2 pos:Pos}
theorem Ml{K:O8}{lo hi:Option FE}{σ:L2.St}{H:Hp}{Q:VK}(h:tD (Dm.i9 f lo hi) σ H Q):tSl (LH K) (tD f) (tOf lo) (tOf hi) σ H Q:=by
 obtain⟨H0,ρ,x,ρ',st,e,k⟩:=h;unfold Dm.i9 at e;split at e
 ·cases e
 rename_i x1 ρ1 e1;split at e
 ·cases e
 rename_i l ρ2 e2;split at e
 ·cases e
 rename_i hh ρ3 e3;split at e
 ·rename_i ds p1;split at e
  ·cases e
  rename_i MU;cases e;refine⟨H0,ρ,x1,ρ1,st,e1,fun v H1 Hb t1 r1=>?_⟩;refine lV t1.st e2 fun H2 Hc t2=>?_;refine lV t2.st e3 fun H3 Hd t3=>?_;have tt:=t1.trans (t2.trans t3);obtain⟨a,xs,rfl,qa,ra⟩:=fF t3.st.same ((r1.mono (t2.trans t3)).look t3.st p1);refine⟨a,xs,rfl,SqT.of qa,?_,fun q hq=>?_⟩
  ·rw[ra.length,rG _ _ _ (Qf _),rG _ _ _ (Pb _)];exact MU
  ·have g:=aG.EC (o:=HO.tup (pe xs l hh)) t3.st.same hq;exact k _ _ _ (tt.trans (.grow t3.st g)) (.tup aq ((p8 ra l hh).mono g.s0))
 ·cases e
theorem qc{lo hi:Option Expr}{flo fhi:Option FE}(h:DE X e f)(hl:PO X lo (tOf flo))(hh:PO X hi (tOf fhi)):DE X (.Subscript e (.Slice lo hi none p2) pos) (Dm.i9 f flo fhi):=PE.weak (s_ Ji h hl hh) fun _ _ _=>Ml
end
end Br
namespace Dm
noncomputable def gP:List Dat->Option (List Int)
 |[]=>some []
 |.int i::r=>(gP r).map fun ns=>i::ns
 |_=>none
noncomputable def dedup(ns:List Int):List Int:=ns.foldl (fun Cr x=>if Cr.any (· == x) then Cr else Cr++[x]) []
noncomputable def cV:Dat->Option RV
 | .lst ds=>(match gP ds with
  |some ns=>if ns.length<=4000 then vI (dedup ns).length else none
  |none=>none)
 |_=>none
end Dm
namespace Br
open PySem PySem.Spec PyProof.Rows L2
def tu(K:O8):List V->Hp->VK->Prop:=fun xs H Q=>∃(q:Addr) (ns:List Int),xs=[.ref q]/\SqL K H q (ns.map V.int)/\ns.length+1<scanBound /\
 ∀l,H l=none->Q (.ref l) (upd H l (.set (fun k'=>(firstMet (fun i=>ns.getD i 0) ns.length).any (· == k')) (firstMet (fun i=>ns.getD i 0) ns.length).length))
def HG:List V->Hp->VK->Prop:=fun xs H Q=>∃(q:Addr) (S:Int->Bool) (n:Nat),xs=[.ref q]/\H q=some (.set S n)/\Q (.int n) H
theorem intsAre_of:∀{ns:List Int} {its:List Value},Vals (ns.map V.int) its->IntsAre its ns
 |[],_,r=>by cases r;exact .nil
 |n::ns,_,r=>by
  rw[eg]at r;cases r with
  |cons h t=>obtain⟨tk,rfl⟩:=h;exact .cons _ _ (intsAre_of t)
section
variable{X:Cx}
theorem zW(hc:X.calm=true):cX X (.type "set") (tu X.K):=by
 intro nC s σ H xs us Q I r h;obtain⟨q,ns,rfl,hq,hb,k⟩:=h;obtain⟨u,rfl,rx⟩:=vals1 r;cases rx;obtain⟨its,rv,pl,hz⟩:=I.list hq;have hl:=rv.length;rw[gV]at hl;refine call_set_list (ns:=ns) (I.ok.hd hc) pl.isList (intsAre_of rv) (by rw[Pe,<- hl];exact hb) fun h' tk hS hk=>?_;have hz2:its.toArray.size=ns.length:=by rw[Pe,<- hl]
 rw[hz2]at hS;exact⟨.ref s.heap.objs.size,_,I.laid (a:=s.heap.objs.size) (o:=.set (fun k'=>(firstMet (fun i=>ns.getD i 0) ns.length).any (· == k')) (firstMet (fun i=>ns.getD i 0) ns.length).length) (t':=tk) (fun b u e=>hk b u (Po e) e) (Pb _) hS,rfl,k _ (I.hok.fresh (Pb _))⟩
theorem zX:cX X (.builtin "len") HG:=by intro nC s σ H xs us Q I r h;obtain⟨q,S,n,rfl,hq,k⟩:=h;obtain⟨u,rfl,rx⟩:=vals1 r;cases rx;obtain⟨o,es,ep,t,ho,hex,hd,_,_,hb,hf,hn⟩:s.heap.SetOf (intKind X.prog X.w) q S n:=I.hok q _ hq;have hb':es.size<4096:=hb;refine call_len_set ho hex hd hf (by lia) ?_;exact⟨.int n,H,I.tok _,⟨_,by rw[hn]⟩,k⟩
end
theorem j0{H0:Hp}:∀{ds:List Dat} {xs:List V} {ns:List Int},av H0 xs ds->Dm.gP ds=some ns->xs=ns.map V.int
 |[],_,ns,r,e=>by cases r;cases e;rfl
 |d::ds,_,ns,r,e=>by
  cases r with
  |cons h t=>
   cases d with
   |int i=>
    unfold Dm.gP at e;cases q:Dm.gP ds with
    |none=>rw[q]at e;cases e
    |some ms=>rw[q]at e;cases e;cases Rep.isInt h;rw[j0 t q];rfl
   |_=>cases e
theorem range_getD(ns:List Int):(PM ns.length).map (fun i=>ns.getD i 0)=ns:=by
 apply Q2;intro i;rw[PD];by_cases h:i<ns.length
 ·rw[QV h,Py h];simp[Qs,h]
 ·rw[PZ (by simpa using h),PZ (by simpa using h)];rfl
theorem m9(ns:List Int):(firstMet (fun i=>ns.getD i 0) ns.length)=Dm.dedup ns:=by unfold firstMet Dm.dedup;rw[range_getD];rfl
section
variable{X:Cx}{e:Expr}{f:FE}{p p0 pos pD:Pos}
theorem BO{K:O8}{σ:L2.St}{H:Hp}{Q:VK}(h:tD (Dm.e1 Dm.cV f) σ H Q):tCB HG (dW (tCB (tu K) (dW (tD f) kB)) kB) σ H Q:=by
 obtain⟨H0,ρ,x,ρ',st,e,k⟩:=h;unfold Dm.e1 at e;split at e
 ·cases e
 rename_i x1 ρ1 e1;split at e
 ·cases e
 rename_i dx p1;split at e
 ·cases e
 rename_i z gz;cases e;unfold Dm.cV at gz;split at gz
 ·rename_i ds;split at gz
  ·rename_i ns en;split at gz
   ·rename_i hb;cases gz;refine⟨H0,ρ,x1,_,st,e1,fun v H1 Hb t1 r1=>?_⟩;obtain⟨a,xs,rfl,qa,ra⟩:=bF t1.st.same (r1.look t1.st p1);have ex:=j0 ra en;subst ex;refine⟨a,ns,rfl,.inl qa,by show ns.length+1<4096;lia,fun l hl=>⟨l,_,_,rfl,aq,?_⟩⟩;rw[m9];exact k _ _ _ (t1.trans (.grow t1.st (aG.iK t1.st.same hl))) (Rep.int _)
   ·cases gz
  ·cases gz
 ·cases gz
theorem j7(hc:X.calm=true)(hgl:Gl X "len")(hml:X.mg "len" = none)(hg:Gl X "set")(hm:X.mg "set" = none)(h:DE X e f)(hs:starEach [e] X.env=[(false,eval e X.env)]:=by rfl)
  (hs0:starEach [.Call (.Name "set" p) [e] [] pos] X.env=[(false,eval (.Call (.Name "set" p) [e] [] pos) X.env)]:=by rfl) (Cs:(backTo pos (starEach [] X.env)).any (·.1)=false:=by rfl) (Oi:(backTo pD (starEach [] X.env)).any (·.1)=false:=by rfl) :
  DE X (.Call (.Name "len" p0) [.Call (.Name "set" p) [e] [] pos] [] pD) (Dm.e1 Dm.cV f):=
 PE.weak (mz zX hgl hml PySem.boot_len (bM (pV (zW hc) hg hm (by rfl) (bM h dX hs) (he:=hs) (Cs:=Cs)) dX hs0) (he:=hs0) (Cs:=Oi)) fun _ _ _=>BO
end
end Br
namespace Ts
open PySem PyProof.Rows
variable{M:Model}{A:Around}{E:Value->Shared->Prop}{s:Shared}{κ:KeyKind}{kd:SortKind}{a₀:Array Keyed}
end Ts
namespace Ts
open PySem PyProof.Rows
variable{M:Model}{A:Around}{E:Value->Shared->Prop}{s:Shared}{κ:KeyKind}{kd:SortKind}{a₀:Array Keyed}
end Ts
namespace Ts
open PySem PyProof.Rows
variable{M:Model}{A:Around}{E:Value->Shared->Prop}{s:Shared}{κ:KeyKind}{kd:SortKind}{a₀:Array Keyed}
end Ts
namespace Ts
open PySem PyProof.Rows
variable{M:Model}{A:Around}{E:Value->Shared->Prop}{s:Shared}{κ:KeyKind}{kd:SortKind}{a₀:Array Keyed}
end Ts
namespace Ts
open PySem PyProof.Rows
variable{A:Around}{E:Value->Shared->Prop}{s:Shared}{κ:KeyKind}{kd:SortKind}{a₀:Array Keyed}{prog:Program}{w:World}
end Ts
namespace Ts
open PySem PyProof.Rows
variable{A:Around}{E:Value->Shared->Prop}{s:Shared}{κ:KeyKind}{kd:SortKind}{a₀:Array Keyed}{prog:Program}{w:World}
end Ts
namespace Ts
open PySem PyProof.Rows
variable{A:Around}{E:Value->Shared->Prop}{s:Shared}{κ:KeyKind}{kd:SortKind}{a₀:Array Keyed}{prog:Program}{w:World}
end Ts
namespace Ts
open PySem PyProof.Rows
variable{A:Around}{E:Value->Shared->Prop}{s:Shared}{κ:KeyKind}{kd:SortKind}{a₀:Array Keyed}{prog:Program}{w:World}
end Ts
namespace Ts
open PySem PyProof.Rows
variable{A:Around}{E:Value->Shared->Prop}{s:Shared}{κ:KeyKind}{kd:SortKind}{prog:Program}{w:World}
end Ts
namespace Ts
open PySem PyProof.Rows
variable{A:Around}{E:Value->Shared->Prop}{s:Shared}{κ:KeyKind}{kd:SortKind}{a₀:Array Keyed}{prog:Program}{w:World}
end Ts
namespace Ts
open PySem PyProof.Rows
variable{A:Around}{E:Value->Shared->Prop}{s:Shared}{κ:KeyKind}{kd:SortKind}{prog:Program}{w:World}
end Ts
namespace Dm
section
variable{α:Type}
noncomputable def ins{α:Type}(lt:α->α->Bool)(x:α):List α->List α
 |[]=>[x]
 |y::l=>if lt y x then y::ins lt x l else x::y::l
noncomputable def bK{α:Type}(lt:α->α->Bool):List α->List α
 |[]=>[]
 |x::l=>ins lt x (bK lt l)
theorem nc(lt:α->α->Bool)(x:α):∀l,(ins lt x l).Perm (x::l)
 |[]=>List.Perm.refl _
 |y::l=>by
  rw[ins];split
  ·exact((nc lt x l).cons y).trans (List.Perm.swap x y l)
  ·exact List.Perm.refl _
theorem cR(lt:α->α->Bool):∀l,(bK lt l).Perm l
 |[]=>List.Perm.refl _
 |x::l=>(nc lt x _).trans ((cR lt l).cons x)
theorem ng{lt:α->α->Bool}(tr:∀a b c,lt b a=false->lt c b=false->lt c a=false)(as:∀a b,lt a b=true->lt b a=false)(x:α):∀l:List α,l.Pairwise (fun a b=>lt b a=false)->(ins lt x l).Pairwise (fun a b=>lt b a=false)
 |[],_=>by simp[ins]
 |y::l,h=>by
  rw[ins];obtain⟨h1,h2⟩:=QI.mp h;split
  ·rename_i hl;refine QI.mpr ⟨fun z hz=>?_,ng tr as x l h2⟩;rcases Pk.mp ((nc lt x l).mem_iff.mp hz) with rfl | hz
   ·exact as _ _ hl
   ·exact h1 z hz
  ·rename_i hl;have hl':lt y x=false:=by simpa using hl
   refine QI.mpr ⟨fun z hz=>?_,h⟩;rcases Pk.mp hz with rfl | hz
   ·exact hl'
   ·exact tr _ _ _ hl' (h1 z hz)
theorem dN{lt:α->α->Bool}(tr:∀a b c,lt b a=false->lt c b=false->lt c a=false)(as:∀a b,lt a b=true->lt b a=false):∀l:List α,(bK lt l).Pairwise (fun a b=>lt b a=false)
 |[]=>R3.nil
 |x::l=>ng tr as x _ (dN tr as l)
theorem gQ{lt:α->α->Bool}(tot:∀a b,lt a b=false->lt b a=false->a=b):∀{l m:List α},l.Perm m->l.Pairwise (fun a b=>lt b a=false)->m.Pairwise (fun a b=>lt b a=false)->l=m
 |[],m,p,_,_=>(List.nil_perm.mp p).symm
 |x::l,[],p,_,_=>by have:=p.length_eq;simp at this
 |x::l,y::m,p,h1,h2=>by
  obtain⟨a1,a2⟩:=QI.mp h1;obtain⟨b1,b2⟩:=QI.mp h2;have e:x=y:=by
   rcases Pk.mp (p.mem_iff.mp O9) with hx | hx
   ·exact hx
   ·rcases Pk.mp (p.mem_iff.mpr (O9 (a:=y) (l:=m))) with hy | hy
    ·exact hy.symm
    ·exact tot x y (b1 x hx) (a1 y hy)
  subst e;rw[gQ tot (List.Perm.cons_inv p) a2 b2]
noncomputable def zY(i:Nat)(e:FE):FS:=fun ρ=>match ρ[i]? with
 | some (.ow (.lst _))=>(match e ρ with
  |none=>none
  |some (x,ρ1)=>match pk ρ1 x with
   | some (.lst es)=>(match ρ1[i]? with
    |some (.ow (.lst ds))=>if ds.length+es.length<=SZ then some (.nx (ρ1.set i (.ow (.lst (ds++es))))) else none
    |_=>none)
   |_=>none)
 |_=>none
noncomputable def ff(i:Nat)(e:FE):FE:=fun ρ=>match ρ[i]? with
 | some (.ow (.lst _))=>(match e ρ with
  | some (.val (.int j),ρ1)=>(match ρ1[i]? with
   | some (.ow (.lst ds))=>if 0≤j∧j≤BIG then (match ds[j.toNat]? with
     |some d=>some (.val d,ρ1.set i (.ow (.lst (ds.eraseIdx j.toNat))))
     |none=>none) else none
   |_=>none)
  |_=>none)
 |_=>none
noncomputable def isN:Dat->Bool
 |.non=>true
 |_=>false
noncomputable def E3:Dat->Dat->Option RV
 |d,.non=>vB (isN d)
 |_,_=>none
end
end Dm
namespace Br
open PySem PySem.Spec PyProof.Rows L2
theorem kJ{H0:Hp}:∀ns:List Int,av H0 (ns.map V.int) (ns.map Dat.int)
 |[]=>.nil
 |n::ns=>.cons (.int n) (kJ ns)
section
variable{X:Cx}{a b c e:Expr}{f fa fb:FE}{fs:List FE}{p pos:Pos}
def Mm(neg:Bool):R2:=fun x y H Q=>y=.non/\Q (.bl (if neg then !decide (x=V.non) else decide (x=V.non))) H
theorem E4{x:V}{v:Value}(r:RelV x v):(v == Value.none)=decide (x=V.non):=by
 cases x with
 |non=>cases r;rfl
 |bl b=>cases r;rfl
 |int i=>obtain⟨t,rfl⟩:=r;rfl
 |str z=>obtain⟨t,rfl⟩:=r;rfl
 |byt z=>obtain⟨t,rfl⟩:=r;rfl
 |flt z=>obtain⟨t,rfl⟩:=r;rfl
 |ref z=>cases r;rfl
 |ty z=>cases r;rfl
theorem JQ:OpR X (compareOp .Is) (Mm false):=by intro nC s σ H x y v u Q I rx ry h;obtain⟨rfl,q⟩:=h;cases ry;refine is_none_gen ?_;rw[E4 rx];exact⟨.bl _,H,I,rfl,q⟩
theorem ym{H0 H:Hp}{x:V}{d:Dat}(r:i6 H0 H x d):decide (x=V.non)=Dm.isN d:=by
 rcases r with r | ⟨a,rfl,w⟩
 ·cases r<;>rfl
 ·cases d with
  |non=>exact Qd w
  |_=>rfl
theorem JR:OpD (Mm false) Dm.E3:=by
 intro H0 H x y dx dy z Q s rx ry e k;unfold Dm.E3 at e;split at e
 ·cases e;have hy:=ym ry;have:y=V.non:=of_decide_eq_true (hy.trans rfl);refine⟨this,?_⟩;rw[if_neg (by decide),ym rx];exact k _ H0 H (aG.refl s) (.bl _)
 ·cases e
theorem Mn(ha:DE X a fa)(hb:DE X b fb):DE X (.Compare a [.Is] [b] pos) (Dm.e2 Dm.E3 fa fb):=tP JQ JR ha hb (fQ _)
end
section
variable{X:Cx}
def HH:V->List V->Hp->VK->Prop:=fun x vs H Q=>∃l b xs zs,x=.ref l/\vs=[.ref b]/\H l=some (.lst xs)/\Rd H b (.lst zs)/\xs.length+zs.length<=sizeLine/\Q .non (upd H l (.lst (xs++zs)))
theorem E5:MtM X "list.extend" HH:=by
 intro nC s σ H x vs v us Q I rx rv h;obtain⟨l,b,xs,zs,rfl,rfl,hH,hB,hz,q⟩:=h;cases rx;obtain⟨u,rfl,ru⟩:=rv.one;cases ru;obtain⟨z,its,n,r,hl,e⟩:=I.zD hH;obtain⟨z2,its2,n2,r2,e2⟩:=hB.ok I.hok;have hl2:=r2.length;have tot:its.toArray.size+its2.toArray.size<=sizeLine:=by simp only[Pe];lia
 have short:¬(!its.toArray.isEmpty&&QM (its.toArray.size+its2.toArray.size))=true:=by rw[mF tot,Bool.and_false];decide
 refine call_meets F.slot_list_extend ⟨_,e,rfl⟩ F.entry_list_extend (F.args_list_extend_2 _ _) (AutoSeq1.list_extend_list_list_0 l its.toArray n b its2.toArray n2 short (by rw[Pe];lia) (by lia)) ⟨e,e2,?_⟩;exact⟨.non,_,I.AX (its':=its++its2) hH e (by simp) (r.append r2) (by rw[Pd];lia),rfl,q⟩
end
section
variable{σ:L2.St}{H:Hp}{Q:VK}{D:Ends}
theorem Mp{K:O8}{i:Nat}{f:FE}(h:tDS (Dm.zY i f) D σ H):k9 (tBM K "list" HH (gm i) (tDA [f])) D σ H:=by
 obtain⟨H0,ρ,o,st,e,k⟩:=h;unfold Dm.zY at e;split at e
 case h_2=>cases e
 rename_i ds0 h0;obtain⟨a0,q0,n0,w0⟩:=st.ow i _ h0;refine⟨_,q0,?_⟩;split at e
 ·cases e
 rename_i x ρ1 e1;split at e
 case h_2=>cases e
 rename_i es p1;split at e
 case h_2=>cases e
 rename_i ds h2;split at e
 case isFalse=>cases e
 rename_i hz;cases e;obtain⟨xs0,y0,_⟩:=w0;refine⟨.inl ⟨rfl,xs0,.inl (.inl y0)⟩,?_⟩;refine⟨H0,ρ,[x],ρ1,st,by unfold Dm.eAs;rw[e1];rfl,fun vs H0' H' t r=>?_⟩;cases r with
 |cons r rr=>
  cases rr;obtain⟨b,zs,rfl,qb,rb⟩:=bF t.st.same (r.look t.st p1);obtain⟨a,q,n,w⟩:=t.st.ow i _ h2;rw[q0]at q;cases q;obtain⟨xs,y,rs⟩:=w;refine⟨a0,b,xs,zs,rfl,rfl,y,qb,by rw[rs.length,rb.length];exact P0 hz (by decide),?_⟩;have ow:af σ ρ1 a0:=⟨i,_,h2,q0⟩
  exact k σ H0' _ ⟨t.st.write h2 q0 ⟨_,aq,rs.append rb⟩,t.stp.trans (Stp.write ow) fun b z=>.inl (t.own b z),fun b z=>.inl (t.own b (bV h2 z)),rfl⟩
theorem nh{α:Type}(l:List α)(i:Nat):l.eraseIdx i=l.take i++l.drop (i+1):=List.eraseIdx_eq_take_drop_succ l i
theorem wz{H0:Hp}{vs:List V}{ds:List Dat}(i:Nat)(r:av H0 vs ds):av H0 (vs.eraseIdx i) (ds.eraseIdx i):=by rw[nh,nh];exact(r.take i).append (r.drop (i+1))
theorem E6{K:O8}{i:Nat}{f:FE}(h:tD (Dm.ff i f) σ H Q):tBM K "list" AZ (gm i) (tDA [f]) σ H Q:=by
 obtain⟨H0,ρ,x,ρ',st,e,k⟩:=h;unfold Dm.ff at e;split at e
 case h_2=>cases e
 rename_i ds0 h0;obtain⟨a0,q0,n0,w0⟩:=st.ow i _ h0;refine⟨_,q0,?_⟩;obtain⟨xs0,y0,_⟩:=w0;refine⟨.inl ⟨rfl,xs0,.inl (.inl y0)⟩,?_⟩;split at e
 case h_2=>cases e
 rename_i j ρ1 e1;split at e
 case h_2=>cases e
 rename_i ds h2;split at e
 case isFalse=>cases e
 rename_i hb;split at e
 case h_2=>cases e
 rename_i d hd;cases e;refine⟨H0,ρ,[.val (.int j)],ρ1,st,by unfold Dm.eAs;rw[e1];rfl,fun vs H0' H' t r=>?_⟩;cases r with
 |cons r rr=>
  cases rr;cases Rep.isInt r;obtain⟨a,q,n,w⟩:=t.st.ow i _ h2;rw[q0]at q;cases q;obtain⟨xs,y,rs⟩:=w;obtain⟨v,hv,rv⟩:=rs.get hd;have HN:j.toNat<xs.length:=(Pa.mp hv).1;have hB:Dm.BIG=1000000000:=rfl;refine⟨a0,xs,j,j.toNat,v,rfl,rfl,y,by lia,by lia,?_,hv,?_⟩
  ·unfold seqIndex?;simp only[show ¬j<0 by lia,if_false];rw[if_pos (by rw[decide_eq_true (show 0<=j by lia),decide_eq_true (show j<(xs.length:Int) by lia)];rfl)]
  have ow:af σ ρ1 a0:=⟨i,_,h2,q0⟩
  have hi:i<ρ1.length:=(Pa.mp h2).1;refine k v H0' _ (t.trans ⟨t.st.write h2 q0 ⟨_,aq,wz _ rs⟩,Stp.write ow,fun b z=>bV h2 z,fun j' z=>trivial⟩) rv
end
section
variable{X:Cx}{e:Expr}{f:FE}{pos:Pos}
theorem Mq(i:Nat){x:Str}{px ap cp:Pos}(he:DE X e f)(hi:X.N[i]?=some x:=by rfl)(hv:Vis X.env.scope x:=by trivial)(hd:(x == ("__debug__" : Str))=false:=by decide)
  (HQ:(x == ("__classdict__" : Str))=false:=by decide) (CA:attributeBase (.Name x px) "extend" X.env (eval (.Name x px) X.env)=eval (.Name x px) X.env:=by rfl)
  (hfew:((backTo cp (starEach [e] X.env)).all (fun x=>!x.1)&&(backToKw cp (keywordEach [] X.env)).all (fun x=>x.1.isSome)
   && decide ([e].length+([]:List Keyword).length+(if ([]:List Keyword).isEmpty then 0 else 1)<30))=true:=by rfl)
  (Cz:(ap.endLine == cp.line)=true:=by rfl) (hs:starEach [e] X.env=(false,eval e X.env)::starEach [] X.env:=by rfl) (Gv:(backTo cp (starEach [] X.env)).any (·.1)=false:=by rfl)
  (hsw:swapsWith (.Call (.Attribute (.Name x px) "extend" ap) [e] [] cp) none pos.line X.env=pure false:=by rfl) :
  DS X (.Expr (.Call (.Attribute (.Name x px) "extend" ap) [e] [] cp) pos) (Dm.zY i f):=
 PS.weak (fO (tw Qy PySem.F.slot_list_extend PySem.F.type_list_extend E5 (bR hi hv hd HQ) (aa he ah hs) CA hfew Cz hs Gv) hsw) fun _ _ _=>Mp
theorem yo(i:Nat){x:Str}{px ap cp:Pos}(he:DE X e f)(hi:X.N[i]?=some x:=by rfl)(hv:Vis X.env.scope x:=by trivial)(hd:(x == ("__debug__" : Str))=false:=by decide)
  (HQ:(x == ("__classdict__" : Str))=false:=by decide) (CA:attributeBase (.Name x px) "pop" X.env (eval (.Name x px) X.env)=eval (.Name x px) X.env:=by rfl)
  (hfew:((backTo cp (starEach [e] X.env)).all (fun x=>!x.1)&&(backToKw cp (keywordEach [] X.env)).all (fun x=>x.1.isSome)
   && decide ([e].length+([]:List Keyword).length+(if ([]:List Keyword).isEmpty then 0 else 1)<30))=true:=by rfl)
  (Cz:(ap.endLine == cp.line)=true:=by rfl) (hs:starEach [e] X.env=(false,eval e X.env)::starEach [] X.env:=by rfl) (Gv:(backTo cp (starEach [] X.env)).any (·.1)=false:=by rfl) :
  DE X (.Call (.Attribute (.Name x px) "pop" ap) [e] [] cp) (Dm.ff i f):=
 PE.weak (tw Qy PySem.F.slot_list_pop PySem.F.type_list_pop A0 (bR hi hv hd HQ) (aa he ah hs) CA hfew Cz hs Gv) fun _ _ _=>E6
end
end Br
namespace L2
open PySem PySem.Spec PyProof.Rows
section
variable{P:Program}{w:World}{K:O8}{mg:Str->Option Value}{base:Heap}{N:List Str}{qual:Str}{scope:Scope}{f:Addr}{cd:Value}{A:Around}{outer:List Env}{s₀:Shared}{H₀:Hp}{E:XK}{C:Addr}
 {nC:List (Addr×Obj)} {σ:St} {H:Hp} {s:Shared}
end
end L2
namespace Dm
noncomputable abbrev FN:=Env->List (List Dat)->Option (Env×List (List Dat))
noncomputable def tW(s u:FN):FN:=fun ρ r=>match s ρ r with
 |none=>none
 |some (ρ1,r1)=>u ρ1 r1
noncomputable def nIf(t:FT)(a b:FN):FN:=fun ρ r=>match t ρ with
 |none=>none
 |some (true,ρ1)=>a ρ1 r
 |some (false,ρ1)=>b ρ1 r
noncomputable def rH(i e:FE):FN:=fun ρ r=>match i ρ with
 | some (.val (.int k),ρ1)=>(match ixN r.length k with
  |none=>none
  |some m=>match r[m]? with
   |none=>none
   |some row=>match e ρ1 with
    |none=>none
    |some (x,ρ2)=>match tk ρ2 x with
     |none=>none
     |some (d,ρ3)=>if row.length<SZ then some (ρ3,r.set m (row++[d])) else none)
 |_=>none
noncomputable def nA(j i:Nat)(e:FE):FN:=fun ρ r=>if i=j then none else match sA i e ρ with
 |some (.nx ρ1)=>some (ρ1,r)
 |_=>none
noncomputable def dB(bd:FB)(body:FN):List Dat->FN
 |[],ρ,r=>some (ρ,r)
 |d::q,ρ,r=>match bd d ρ with
  |none=>none
  |some ρ1=>match body ρ1 r with
   |none=>none
   |some (ρ2,r2)=>dB bd body q ρ2 r2
noncomputable def j8(it:FI)(bd:FB)(body:FN):FN:=fun ρ r=>match it ρ with
 |none=>none
 |some (ds,ρ1)=>dB bd body ds ρ1 r
noncomputable def nMk(bd:FB):List Dat->Env->Option Env
 |[],ρ=>some ρ
 |d::r,ρ=>match bd d ρ with
  |none=>none
  |some ρ1=>nMk bd r ρ1
noncomputable def gi(j:Nat)(it:FI)(own:Nat)(bd:FB)(MQ:FN):FS:=fun ρ=>if j=0 then none else match it ρ with
 |none=>none
 | some (ds,ρ1)=>if ds.length≤SZ then (match nMk bd ds (ρ1++Ds own .un) with
  |none=>none
  |some ρ2=>match MQ ((ρ2.take ρ1.length).set j .un) (Ds ds.length []) with
   |none=>none
   |some (ρ3,r)=>some (.nx (ρ3.set j (.ow (.lst (r.map .lst)))))) else none
mutual
noncomputable def aM:Dat->Bool
 |.tup xs=>fh xs
 |.lst xs=>fh xs
 |.dct _ _=>false
 |.dcp _ _=>false
 |.exc _=>false
 |.dh _ _=>false
 |_=>true
noncomputable def fh:List Dat->Bool
 |[]=>true
 |x::r=>aM x&&fh r
end
noncomputable def tkd(ρ:Env):Val->Option (Dat×Env)
 |.val d=>some (d,ρ)
 |.new d=>some (d,ρ)
 |.slot i=>match ρ[i]? with
  |some (.ow (.dct ks vs))=>some (.dct ks vs,ρ)
  |some (.ow d)=>some (d,ρ.set i (.sh d))
  |some (.sh d)=>some (d,ρ)
  |_=>none
noncomputable def wA(ρ:Env):List Val->Option (List Dat×Env)
 |[]=>some ([],ρ)
 |x::r=>match tkd ρ x with
  |none=>none
  |some (d,ρ1)=>match wA ρ1 r with
   |none=>none
   |some (ds,ρ2)=>some (d::ds,ρ2)
noncomputable def eFd(f:List Dat->Option RV)(as:List FE):FE:=fun ρ=>match eAs as ρ with
 |none=>none
 |some (xs,ρ1)=>match wA ρ1 xs with
  |none=>none
  |some (ds,ρ2)=>match f ds with
   |none=>none
   |some v=>if aM v.dat then some (v.bC,ρ2) else none
end Dm
namespace Br
open PySem PySem.Spec PyProof.Rows L2
section
variable{H0 H:Hp}{rows:List (List Dat)}{ps:List Addr}{ρs:Dm.Env}{H0s Hs:Hp}{σs:L2.St}{ρ ρ':Dm.Env}{j:Nat}{σ:L2.St}{b:Addr}
def aR(H0 H:Hp):List Addr->List (List Dat)->Prop
 |[],[]=>True
 |p::ps,r::rs=>(∃xs,H p=some (.lst xs)/\av H0 xs r)/\aR H0 H ps rs
 |_,_=>False
theorem aR.len:∀{ps:List Addr} {rs:List (List Dat)},aR H0 H ps rs->ps.length=rs.length
 |[],[],_=>rfl
 |_::_,_::_,h=>by simp[aR.len h.2]
theorem aR.get:∀{ps:List Addr} {rs:List (List Dat)} {i:Nat} {r:List Dat},aR H0 H ps rs->rs[i]?=some r->∃p xs,ps[i]?=some p/\H p=some (.lst xs)/\av H0 xs r
 |[],[],_,_,_,e=>by simp at e
 |p::_,_::_,0,_,h,e=>by simp at e;subst e;obtain⟨xs,h1,h2⟩:=h.1;exact⟨p,xs,rfl,h1,h2⟩
 |_::_,_::_,i+1,_,h,e=>by obtain⟨p,xs,h1,h2⟩:=aR.get (i:=i) h.2 (by simpa using e);exact⟨p,xs,by simpa using h1,h2⟩
theorem aR.mono{H0 H H0' H':Hp}:∀{ps:List Addr} {rs:List (List Dat)},aR H0 H ps rs->aj H0 H0'->(∀p∈ps,H' p=H p)->aR H0' H' ps rs
 |[],[],_,_,_=>trivial
 |p::ps,r::rs,h,s,k=>by obtain⟨⟨xs,h1,h2⟩,h3⟩:=h;exact⟨⟨xs,by rw[k p O9];exact h1,h2.mono s⟩,aR.mono h3 s fun q hq=>k q (Dk _ hq)⟩
theorem aR.set{p:Addr}{xs:List V}{r:List Dat}(w:av H0 xs r):∀{ps:List Addr} {rs:List (List Dat)} {i:Nat},aR H0 H ps rs->ps.Nodup->ps[i]?=some p->aR H0 (upd H p (.lst xs)) ps (rs.set i r)
 |[],[],_,_,_,e=>by simp at e
 |q::ps,_::rs,0,h,n,e=>by simp at e;subst e;refine⟨⟨xs,aq,w⟩,h.2.mono (aj.refl _) fun y hy=>ao fun z=>?_⟩;subst z;exact(Pj.mp n).1 hy
 |q::ps,_::rs,i+1,h,n,e=>by
  have e':ps[i]?=some p:=by simpa using e
  obtain⟨⟨ys,h1,h2⟩,h3⟩:=h;obtain⟨n1,n2⟩:=Pj.mp n;refine⟨⟨ys,?_,h2⟩,aR.set w h3 n2 e'⟩;rw[ao fun z=>?_]
  ·exact h1
  ·subst z;exact n1 (QL e')
theorem aR.some:∀{ps:List Addr} {rs:List (List Dat)},aR H0 H ps rs->∀p∈ps,∃o,H p=some o
 |[],[],_,_,h=>by cases h
 |q::ps,_::rs,h,p,hp=>by
  rcases Pk.mp hp with rfl | hp
  ·obtain⟨xs,h1,_⟩:=h.1;exact⟨_,h1⟩
  ·exact aR.some h.2 p hp
structure NS(j:Nat)(σs:L2.St)(ρs:Dm.Env)(H0s Hs:Hp)(σ:L2.St)(ρ:Dm.Env)(H0 H:Hp)(rows:List (List Dat)):Prop where
 st:ay H0 H σ ρ
 stp:Stp (af σs ρs) H0s Hs H0 H
 own:∀a,af σ ρ a->af σs ρs a\/Hs a=none
 fx:σ[0]?=σs[0]?
 ex:∃(L:Addr) (ps:List Addr),σ[j]?=some (some (.ref L))/\Hs L=none/\H0 L=none/\¬af σ ρ L/\H L=some (.lst (ps.map V.ref))/\(L::ps).Nodup/\(∀p∈ps,Hs p=none/\H0 p=none/\¬af σ ρ p)/\aR H0 H ps rows
theorem NS.est{H0 H H0' H':Hp}(n:NS j σs ρs H0s Hs σ ρ H0 H rows)(t:ESt σ ρ H0 H ρ' H0' H'):NS j σs ρs H0s Hs σ ρ' H0' H' rows:=by
 obtain⟨L,ps,h1,h2,h3,h4,h5,h6,h7,h8⟩:=n.ex;obtain⟨k1,k2,k3⟩:=t.cN h5 h3 h4;refine⟨t.st,n.stp.trans t.stp n.own,fun a z=>n.own a (t.own a z),n.fx,L,ps,h1,h2,k2,k3,k1,h6,fun p hp=>?_,h8.mono t.stp.s0 fun p hp=>?_⟩
 ·obtain⟨q1,q2,q3⟩:=h7 p hp;obtain⟨o,q4⟩:=h8.some p hp;obtain⟨z1,z2,z3⟩:=t.cN q4 q2 q3;exact⟨q1,z2,z3⟩
 ·obtain⟨q1,q2,q3⟩:=h7 p hp;obtain⟨o,q4⟩:=h8.some p hp;obtain⟨z1,z2,z3⟩:=t.cN q4 q2 q3;rw[z1,q4]
theorem NS.bind{σ σ':L2.St}(n:NS j σs ρs H0s Hs σ ρ H0 H rows)(st:ay H0 H σ' ρ')(o:∀a,af σ' ρ' a->af σ ρ a)(hj:σ'[j]?=σ[j]?)(h0:σ'[0]?=σ[0]?):NS j σs ρs H0s Hs σ' ρ' H0 H rows:=by obtain⟨L,ps,h1,h2,h3,h4,h5,h6,h7,h8⟩:=n.ex;exact⟨st,n.stp,fun a z=>n.own a (o a z),h0.trans n.fx,L,ps,hj.trans h1,h2,h3,fun z=>h4 (o L z),h5,h6,fun p hp=>⟨(h7 p hp).1,(h7 p hp).2.1,fun z=>(h7 p hp).2.2 (o p z)⟩,h8⟩
noncomputable def tX(H0 H:Hp)(ps:List Addr):Hp:=fun b=>if b∈ps then H b else H0 b
theorem rJ(h:b∈ps):tX H0 H ps b=H b:=by unfold tX;rw[if_pos h]
theorem gR(h:b∉ps):tX H0 H ps b=H0 b:=by unfold tX;rw[if_neg h]
theorem zZ(s:aj H0 H):aj H0 (tX H0 H ps):=fun b o e=>by
 by_cases q:b∈ps
 ·rw[rJ q];exact s _ _ e
 ·rw[gR q];exact e
theorem BP(s:aj H0 H):aj (tX H0 H ps) H:=fun b o e=>by
 by_cases q:b∈ps
 ·rw[rJ q]at e;exact e
 ·rw[gR q]at e;exact s _ _ e
theorem aR.reps{H0 H H1:Hp}:∀{ps:List Addr} {rs:List (List Dat)},aR H0 H ps rs->aj H0 H1->(∀p∈ps,H1 p=H p)->av H1 (ps.map V.ref) (rs.map Dat.lst)
 |[],[],_,_,_=>.nil
 |p::ps,r::rs,h,s,k=>by obtain⟨⟨xs,h1,h2⟩,h3⟩:=h;exact .cons (.lst (.inl ((k p O9).trans h1)) (h2.mono s)) (aR.reps h3 s fun q hq=>k q (Dk _ hq))
theorem NS.done{ρ:Dm.Env}(n:NS j σs ρs H0s Hs σ ρ H0 H rows):∃H0',SSt σs ρs H0s Hs σ (ρ.set j (.ow (.lst (rows.map Dat.lst)))) H0' H:=by
 obtain⟨L,ps,h1,h2,h3,h4,h5,h6,h7,h8⟩:=n.ex;obtain⟨n1,n2⟩:=Pj.mp h6;have ss:=zZ (ps:=ps) n.st.same;have st:ay (tX H0 H ps) H σ ρ:={
  same:=BP n.st.same
  len:=n.st.len
  sh:=fun i d h=>by obtain⟨v,z,r⟩:=n.st.sh i d h;exact⟨v,z,r.mono ss⟩
  ow:=fun i d h=>by obtain⟨b,z,q,w⟩:=n.st.ow i d h;have nb:b∉ps:=fun y=>(h7 b y).2.2 ⟨i,d,h,z⟩;exact⟨b,z,by rw[gR nb];exact q,w.mono ss rfl⟩
  dis:=n.st.dis }
 refine⟨tX H0 H ps,st.kI h1 h4 (by rw[gR n1];exact h3) ⟨_,h5,h8.reps ss fun p hp=>rJ hp⟩,⟨n.stp.s0.trans ss,n.stp.s1,fun a o e=>?_,n.stp.s3⟩,fun a z=>?_,n.fx⟩
 ·by_cases q:a∈ps
  ·exact .inl (h7 a q).1
  ·rw[gR q]at e;exact n.stp.s2 a o e
 ·obtain⟨i,d,z1,z2⟩:=z;by_cases q:j=i
  ·subst q;rw[h1]at z2;cases z2;exact .inr h2
  ·rw[gc q]at z1;exact n.own a ⟨i,d,z1,z2⟩
def tDN(j:Nat)(f:Dm.FN):TS:=fun D σ H=>∃σs ρs H0s Hs H0 ρ rows ρ' rows',NS j σs ρs H0s Hs σ ρ H0 H rows/\f ρ rows=some (ρ',rows')/\∀σ' H0' H',NS j σs ρs H0s Hs σ' ρ' H0' H' rows'->aj H0 H0'->D.nx σ' H'
end
section
variable{D:Ends}{σ:L2.St}{H:Hp}{j:Nat}
theorem JS{s u:Dm.FN}(h:tDN j (Dm.tW s u) D σ H):gA (tDN j s) (tDN j u) D σ H:=by
 obtain⟨σs,ρs,H0s,Hs,H0,ρ,rows,ρ',rows',n,e,k⟩:=h;unfold Dm.tW at e;split at e
 ·cases e
 rename_i ρ1 r1 e1;exact⟨σs,ρs,H0s,Hs,H0,ρ,rows,ρ1,r1,n,e1,fun σ' H0' H' n' s1=>⟨σs,ρs,H0s,Hs,H0',ρ1,r1,ρ',rows',n',e,fun σ2 H2 Hc n2 s2=>k σ2 H2 Hc n2 (s1.trans s2)⟩⟩
theorem Mr{t:FT}{a b:Dm.FN}(h:tDN j (Dm.nIf t a b) D σ H):zm (tDT t) (tDN j a) (tDN j b) D σ H:=by
 obtain⟨σs,ρs,H0s,Hs,H0,ρ,rows,ρ',rows',n,e,k⟩:=h;unfold Dm.nIf at e;split at e
 ·cases e
 ·rename_i ρ1 e1;refine⟨H0,ρ,true,ρ1,n.st,e1,fun H1 Hb t1=>?_⟩;dsimp only;rw[if_pos rfl];exact⟨σs,ρs,H0s,Hs,H1,ρ1,rows,ρ',rows',n.est t1,e,fun σ2 H2 Hc n2 s2=>k σ2 H2 Hc n2 (t1.stp.s0.trans s2)⟩
 ·rename_i ρ1 e1;refine⟨H0,ρ,false,ρ1,n.st,e1,fun H1 Hb t1=>?_⟩;dsimp only;rw[if_neg Px];exact⟨σs,ρs,H0s,Hs,H1,ρ1,rows,ρ',rows',n.est t1,e,fun σ2 H2 Hc n2 s2=>k σ2 H2 Hc n2 (t1.stp.s0.trans s2)⟩
theorem JT{fi:Dm.FI}{bd:Dm.FB}{g:TG}{body:Dm.FN}{is:List Nat}(hb:BD is g bd)(hj:j∉is)(h:tDN j (Dm.j8 fi bd body) D σ H):Ej (tDI fi) g (tDN j body) D σ H:=by
 obtain⟨σs,ρs,H0s,Hs,H0,ρ,rows,ρ',rows',n,e,k⟩:=h;unfold Dm.j8 at e;split at e
 ·cases e
 rename_i ys ρ1 e1;refine⟨H0,ρ,ys,ρ1,n.st,e1,fun J H00 Hb t1 jw=>?_⟩;refine ⟨fun i m σ H=>∃ H0 ρ rows,NS j σs ρs H0s Hs σ ρ H0 H rows∧aj H00 H0∧m=ys.length-i∧i≤ys.length∧Dm.dB bd body (ys.drop i) ρ rows=some (ρ',rows'),
  ⟨ys.length,H00,ρ1,rows,n.est t1,aj.refl _,by simp,Qf _,by simpa using e⟩,?_⟩
 rintro i m σ H ⟨H0,ρ,rows,n,s00,rfl,hi,e⟩;obtain⟨js,jg⟩:=jw H0 H s00 n.st.same;by_cases HN:i<ys.length
 ·have hd:ys[i]?=some ys[i]:=by simp[HN]
  obtain⟨g1,g2⟩:=jg i ys[i] hd;rw[Ql HN]at e;unfold Dm.dB at e;refine .inr ⟨g1,fun σ' H'=>∃H0 ρ rows,NS j σs ρs H0s Hs σ' ρ H0 H' rows/\aj H00 H0/\Dm.dB bd body (ys.drop (i+1)) ρ rows=some (ρ',rows'),?_,fun x H' y=>?_⟩
  ·rintro σ' H' ⟨H0',ρ2,r2,h1,h2,h3⟩;exact⟨ys.length-(i+1),by lia,H0',ρ2,r2,h1,h2,rfl,HN,h3⟩
  ·obtain⟨H0',gr,rx⟩:=g2 x H' y;split at e
   ·cases e
   ·rename_i ρ2 e2;have t2:=ESt.grow n.st gr;have n2:=n.est t2;refine hb H0' H' σ ρ ρ2 x ys[i] _ t2.st rx e2 fun σ2 st2 o2 k2 _ f2=>?_;have n3:=n2.bind st2 o2 (k2 j hj) f2;have s3:aj H00 H0':=s00.trans gr.s0;split at e
    ·cases e
    ·rename_i ρ3 r3 e3;refine⟨σs,ρs,H0s,Hs,H0',ρ2,rows,ρ3,r3,n3,e3,fun σ4 H4 Hd n4 s4=>⟨H4,ρ3,r3,n4,s3.trans s4,e⟩⟩
 ·have e':i=ys.length:=by lia
  subst e';rw[QX]at e;cases e;exact .inl ⟨js _ (Pb _),k σ H0 H n (t1.stp.s0.trans s00)⟩
theorem JU{K:O8}{fi f:FE}(h:tDN j (Dm.rH fi f) D σ H):k9 (tBM K "list" q_ (tOp (Es K) (gm j) (tD fi)) (tDA [f])) D σ H:=by
 obtain⟨σs,ρs,H0s,Hs,H0,ρ,rows,ρ',rows',n,e,k⟩:=h;unfold Dm.rH at e;split at e
 case h_2=>cases e
 rename_i z ρ1 e1;split at e
 ·cases e
 rename_i m em;split at e
 ·cases e
 rename_i row er;split at e
 ·cases e
 rename_i x ρ2 e2;split at e
 ·cases e
 rename_i d ρ3 e3;split at e
 case isFalse=>cases e
 rename_i hz;cases e;obtain⟨L,ps0,h1,_⟩:=n.ex;refine⟨_,h1,H0,ρ,_,ρ1,n.st,e1,fun y H1 Hb t1 r1=>?_⟩;have n1:=n.est t1;obtain⟨L',ps,q1,q2,q3,q4,q5,q6,q7,q8⟩:=n1.ex;rw[h1]at q1;cases q1;obtain⟨q,xs,hq,hqx,hqr⟩:=q8.get er;have hqm:q∈ps:=QL hq;refine⟨L,ps.map V.ref,z,V.ref q,rfl,Rep.isInt r1,.inl (.inl q5),?_,.inl ⟨rfl,xs,.inl (.inl hqx)⟩,?_⟩
 ·show (L2.ixN (ps.map V.ref).length z).bind (fun j=>(ps.map V.ref)[j]?)=_;rw[gV,q8.len,<- rB,em];show (ps.map V.ref)[m]?=_;rw[PD,hq];rfl
 refine⟨H1,ρ1,[x],ρ2,n1.st,by unfold Dm.eAs;rw[e2];rfl,fun vs H2 Hc t2 r2=>?_⟩;cases r2 with
 |cons r rr=>
  cases rr;obtain⟨H3,t3,b3,r3,_,_⟩:=take1 t2 (aj.refl _) r e3;have n3:=n1.est t3;obtain⟨L',ps',w1,w2,w3,w4,w5,w6,w7,w8⟩:=n3.ex;rw[h1]at w1;cases w1;obtain⟨k1,_,_⟩:=t3.cN q5 q3 q4;rw[k1]at w5;have ep:ps'=ps:=by
   have:ps.map V.ref=ps'.map V.ref:=by injection w5 with z;injection z
   exact((RH fun a b h=>by injection h).mp this).symm
  subst ep;obtain⟨q',ys,hq',hqy,Ms⟩:=w8.get er;rw[hq]at hq';cases hq';have nL:L≠q:=fun z=>(Pj.mp w6).1 (z▸hqm);refine⟨q,ys,_,rfl,rfl,hqy,by rw[Ms.length];exact Pq hz (by decide),?_⟩;obtain⟨z1,z2,z3⟩:=w7 q hqm;refine k σ H3 _ ⟨n3.st.aside z2 z3,n3.stp.aside z1,n3.own,n3.fx,L,ps',h1,w2,w3,w4,by rw[ao nL];exact k1,w6,w7,aR.set (Ms.append (.cons r3 .nil)) w8 (Pj.mp w6).2 hq⟩ (t1.stp.s0.trans t3.stp.s0)
theorem Oj{i:Nat}{f:FE}(h:tDN j (Dm.nA j i f) D σ H):ku (tD f) (cW i) D σ H:=by
 obtain⟨σs,ρs,H0s,Hs,H0,ρ,rows,ρ',rows',n,e,k⟩:=h;unfold Dm.nA at e;split at e
 ·cases e
 rename_i hij;split at e
 case h_2=>cases e
 rename_i ρ9 e9;cases e;unfold Dm.sA at e9;split at e9
 ·cases e9
 rename_i hi0;split at e9
 ·cases e9
 ·rename_i d ρ1 e1;cases e9;refine⟨H0,ρ,_,ρ1,n.st,e1,fun v H0' H' t r=>?_⟩;obtain⟨a,e,n1,no,n0,w⟩:=r;subst e;have m:=n.est t;obtain⟨L0,ps0,y1,_,_,_,y5,_,y7,y8⟩:=n.ex;obtain⟨L,ps,h1,h2,h3,h4,h5,h6,h7,h8⟩:=m.ex;rw[y1]at h1;cases h1;obtain⟨k1,_,_⟩:=t.cN y5 (by assumption) (by assumption);rw[k1]at h5;have ep:ps=ps0:=by
   have:ps0.map V.ref=ps.map V.ref:=by injection h5 with z;injection z
   exact((RH fun a b h=>by injection h).mp this).symm
  subst ep;have nL:L0≠a:=fun z=>by rw[z,n1]at y5;cases y5
  have nP:∀p∈ps,p≠a:=fun p hp z=>by obtain⟨o,q⟩:=y8.some p hp;rw[z,n1]at q;cases q
  refine k _ H0' H' ⟨m.st.wc no n0 w,m.stp,fun b z=>?_,(gc hi0).trans m.fx,L0,ps,(gc hij).trans y1,h2,h3,fun z=>?_,k1,h6,fun p hp=>⟨(h7 p hp).1,(h7 p hp).2.1,fun z=>?_⟩,h8⟩ t.stp.s0
  ·rcases dM z with rfl | z
   ·exact .inr (n.stp.gone n1)
   ·exact m.own b z
  ·rcases dM z with z | z
   ·exact nL z
   ·exact h4 z
  ·rcases dM z with z | z
   ·exact nP p hp z
   ·exact(h7 p hp).2.2 z
 ·rename_i x ρ1 _ e1;split at e9
  ·cases e9
  ·rename_i d ρ2 e2;cases e9;refine⟨H0,ρ,_,ρ1,n.st,e1,fun v H0' H' t r=>?_⟩;obtain⟨H1,t1,b1,r1,_,_⟩:=take1 t (aj.refl _) r e2;exact k _ H1 H' ((n.est t1).bind (t1.st.mS r1) (fun b z=>cE z) (gc hij) (gc hi0)) t1.stp.s0
end
section
variable{bd:Dm.FB}{is:List Nat}{MQ:Dm.FN}{j own:Nat}{ρ:Dm.Env}{fi:Dm.FI}{σ:L2.St}{g:TG}
theorem tY{own:Nat}{Q:VK}{H00 Hb:Hp}{ρ1 ρ2:Dm.Env}{ds:List Dat}{J:It}(hb:BD is g bd)(hl:∀i∈is,σ.length<=i)
  (st1:ay H00 Hb σ ρ1) (jw:JW J H00 ds) (hsz:ds.length<=Dm.SZ) (e2:Dm.nMk bd ds (ρ1++Ds own .un)=some ρ2) (D:Addr) (hD:Hb D=none)
  (k:∀ H0' H' (ps:List Addr),ay H0' H' σ (ρ2.take ρ1.length)→Stp (af σ ρ1) H00 Hb H0' H'→(∀ a,af σ (ρ2.take ρ1.length) a→af σ ρ1 a)→H' D=some (.lst (ps.map V.ref))→H0' D=none→(D::ps).Nodup→(∀ p∈ps,Hb p=none∧H0' p=none) →
   aR H0' H' ps (Ds ds.length [])->Q (.ref D) H') :
  ∃W:Nat->Nat->L2.St->Hp->Prop,(∃m,W 0 m (σ++Ds own none) (upd Hb D (.lst [])))/\∀i m σ' H',W i m σ' H' ->
  (J.stop i H'∧Q (.ref D) H')∨(J.go i H'∧∀ x H2,J.yld i H' x H2→g x σ' H2 fun σ2 H3=>mU σ2 H3 fun b H4=>if b=true
   then AR kB σ2 H4 fun y H5=>∃Cr,H5 D=some (.lst Cr)/\Cr.length<sizeLine/\∃m',m'<m/\W (i+1) m' σ2 (upd H5 D (.lst (Cr++[y])))
   else ∃m',m'<m/\W (i+1) m' σ2 H4):=by
 have noD:¬af σ ρ1 D:=st1.bg hD;refine ⟨fun i m σ' H'=>∃ (H0c:Hp) (ρc:Dm.Env) (ps:List Addr),ay H0c H' σ' ρc∧aj H00 H0c∧m=ds.length-i∧i≤ds.length∧Dm.nMk bd (ds.drop i) ρc=some ρ2 ∧
  H' D=some (.lst (ps.map V.ref))/\ps.length=i/\H0c D=none/\(D::ps).Nodup/\(∀p∈ps,Hb p=none/\H0c p=none)/\aR H0c H' ps (Ds i [])/\Stp (af σ ρ1) H00 Hb H0c H'/\(∀j,j<σ.length->σ'[j]?=σ[j]?)/\(∀a,af σ' ρc a->af σ ρ1 a),
  ⟨ds.length,H00,ρ1++Ds own .un,[],(st1.aside (st1.same.free hD) noD).ext own,aj.refl _,by simp,Qf _,by simpa using e2,aq,rfl,st1.same.free hD,by simp,by simp,trivial,(Stp.refl _ _ _).aside hD,
   fun j hj=>Pg hj,fun a z=>cP st1 z⟩,?_⟩
 rintro i m σ' H' ⟨H0c,ρc,ps,sc,s00,rfl,hi,ec,hDl,Cs,n0,nd,hps,hro,sp,hσ,ho⟩;have nOc:¬af σ' ρc D:=fun z=>noD (ho D z);have nOp:∀p∈ps,¬af σ' ρc p:=fun p hp z=>st1.bg (hps p hp).1 (ho p z);obtain⟨js,jg⟩:=jw H0c H' s00 sc.same;by_cases HN:i<ds.length
 ·have hd:ds[i]?=some ds[i]:=by simp[HN]
  obtain⟨g1,g2⟩:=jg i ds[i] hd;rw[Ql HN]at ec;unfold Dm.nMk at ec;refine .inr ⟨g1,fun y H2 yy=>?_⟩;obtain⟨H0',gr,rx⟩:=g2 y H2 yy;split at ec
  ·cases ec
  rename_i ρ3 e3;have t2:=ESt.grow sc gr;obtain⟨hD2,n02,no2⟩:=t2.cN hDl n0 nOc;refine hb H0' H2 σ' ρc ρ3 y ds[i] _ t2.st rx e3 fun σ3 st3 o3 k3 d3 _=>?_;unfold mU;dsimp only;rw[if_pos rfl];refine⟨Qf _,fun p hp=>?_⟩;have hpD:p≠D:=fun z=>by rw[z,hD2]at hp;cases hp
  have noP:¬af σ3 ρ3 p:=st3.bg hp;have Mt:∀q∈ps,q≠p:=fun q hq z=>by obtain⟨o,h1⟩:=hro.some q hq;have:=gr.s1 q o h1;rw[z,hp]at this;cases this
  refine⟨ps.map V.ref,by rw[ao (P4 hpD)];exact hD2,?_,ds.length-(i+1),by lia,H0',ρ3,ps++[p],?_,s00.trans gr.s0,rfl,HN,ec,?_,by simp[Cs],n02,?_,?_,?_,?_,?_,?_⟩
  ·rw[gV,Cs];unfold Dm.SZ at hsz;exact Pq (Pq HN hsz) (by decide)
  ·have no3:¬af σ3 ρ3 D:=fun z=>no2 (o3 D z);exact(st3.aside (st3.same.free hp) noP).aside n02 no3
  ·rw[aq,Pf];rfl
  ·rw[<- QY];refine P9.mpr ⟨nd,by simp,fun a ha b hb=>?_⟩;rw[Pn.mp hb];rcases Pk.mp ha with rfl | ha
   ·exact P4 hpD
   ·exact Mt a ha
  ·intro q hq;rcases Pp.mp hq with hq | hq
   ·refine⟨(hps q hq).1,?_⟩;obtain⟨o,h1⟩:=hro.some q hq;exact(t2.cN h1 (hps q hq).2 (nOp q hq)).2.1
   ·rw[Pn.mp hq];exact⟨(sp.trans t2.stp fun a z=>.inl (ho a z)).gone hp,st3.same.free hp⟩
  ·have base:aR H0' (upd (upd H2 p (.lst [])) D (.lst (ps.map V.ref++[V.ref p]))) ps (Ds i []):=hro.mono gr.s0 fun q hq=>by
    have hqD:q≠D:=fun z=>(Pj.mp nd).1 (z▸hq);obtain⟨o,h1⟩:=hro.some q hq;rw[ao hqD,ao (Mt q hq),gr.s1 q o h1,h1]
   have app:∀{H0 H:Hp} {ps:List Addr} {rs:List (List Dat)} {p:Addr},aR H0 H ps rs->H p=some (.lst [])->aR H0 H (ps++[p]) (rs++[[]]):=by
    intro H0 H ps rs p h1 h2
    induction ps generalizing rs with
    |nil=>cases rs with
     |nil=>exact⟨⟨[],h2,.nil⟩,trivial⟩
     |cons _ _=>exact h1.elim
    |cons q ps ih=>cases rs with
     |nil=>exact h1.elim
     |cons r rs=>exact⟨h1.1,ih h1.2⟩
   have:=app base (p:=p) (by rw[ao hpD,aq]);rw[List.replicate_succ'];exact this
  ·exact((sp.trans t2.stp fun a z=>.inl (ho a z)).aside ((sp.trans t2.stp fun a z=>.inl (ho a z)).gone hp)).aside hD
  ·exact fun j hj=>(k3 j fun z=>QN.mpr (hl j z) hj).trans (hσ j hj)
  ·exact fun a z=>ho a (o3 a z)
 ·have e':i=ds.length:=by lia
  subst e';rw[QX]at ec;cases ec;refine .inl ⟨js _ (Pb _),k H0c H' ps ?_ sp ?_ hDl n0 nd hps hro⟩
  all_goals
   have sF:σ.length<=ρ2.length:=by rw[<- sc.len];refine QN.mp fun z=>?_;have q:=hσ σ'.length z;rw[PZ (Pb _),Py z]at q;cases q
   have tk:∀{j:Nat} {c:Dm.Cell},(ρ2.take ρ1.length)[j]?=some c->j<σ.length/\ρ2[j]?=some c:=fun {j c} h=>by
    have hj:j<ρ1.length:=by
     have:=(Pa.mp h).1;rw[P1]at this
     lia
    rw[QD hj]at h;exact⟨by rw[st1.len];exact hj,h⟩
  ·refine⟨sc.same,?_,fun j d h=>?_,fun j d h=>?_,fun j j' d d' a h1 h2 h3 h4=>?_⟩
   ·rw[P1,<- st1.len];lia
   ·obtain⟨hj,h⟩:=tk h;obtain⟨v,q,r⟩:=sc.sh j d h;exact⟨v,(hσ j hj).symm.trans q,r⟩
   ·obtain⟨hj,h⟩:=tk h;obtain⟨v,q,r⟩:=sc.ow j d h;exact⟨v,(hσ j hj).symm.trans q,r⟩
   ·obtain⟨hj,h1⟩:=tk h1;obtain⟨hj',h2⟩:=tk h2;exact sc.dis j j' d d' a h1 h2 ((hσ j hj).trans h3) ((hσ j' hj').trans h4)
  ·intro a ⟨j,d,h1,h2⟩;obtain⟨hj,h1⟩:=tk h1;exact ho a ⟨j,d,h1,(hσ j hj).trans h2⟩
theorem iA{z:Dm.Out}(q:Dm.gi j fi own bd MQ ρ=some z):∃ds ρ1 ρ2 ρ3 r3,j≠0/\fi ρ=some (ds,ρ1)/\ds.length<=Dm.SZ/\Dm.nMk bd ds (ρ1++Ds own .un)=some ρ2 /\
  MQ ((ρ2.take ρ1.length).set j .un) (Ds ds.length [])=some (ρ3,r3)/\z=.nx (ρ3.set j (.ow (.lst (r3.map .lst)))):=by
 unfold Dm.gi at q;split at q
 ·cases q
 rename_i hj0;split at q
 ·cases q
 rename_i ds ρ1 e1;split at q
 case isFalse=>cases q
 rename_i hsz;split at q
 ·cases q
 rename_i ρ2 e2;split at q
 ·cases q
 rename_i ρ3 r3 e3;cases q;exact⟨ds,ρ1,ρ2,ρ3,r3,hj0,e1,hsz,e2,e3,rfl⟩
theorem yr{s u:FS}{o:Dm.Out}(hs:∀z,s ρ=some z->∃ρ',z=.nx ρ')(e:Dm.az s u ρ=some o):∃ρ1,s ρ=some (.nx ρ1)/\u ρ1=some o:=by
 cases q:s ρ with
 |none=>unfold Dm.az at e;rw[q]at e;cases e
 |some z=>obtain⟨ρ1,rfl⟩:=hs z q;unfold Dm.az at e;rw[q]at e;exact⟨ρ1,rfl,e⟩
theorem JV{H:Hp}{D:Ends}{gs:FS}(hb:BD is g bd)(hl:∀i∈is,σ.length<=i)(hj:j<σ.length)(h:tDS (Dm.az (Dm.gi j fi own bd MQ) gs) D σ H) :
  gA (ku (tLC (tDI fi) own g mU (AR kB)) (cW j)) (gA (tDN j MQ) (tDS gs)) D σ H:=by
 obtain⟨H0,ρ,o,st,e,k⟩:=h;obtain⟨ρ9,e9,e⟩:=yr (fun z q=>by obtain⟨_,_,_,_,_,_,_,_,_,_,z⟩:=iA q;exact⟨_,z⟩) e;obtain⟨ds,ρ1,ρ2,ρ3,r3,hj0,e1,hsz,e2,e3,z9⟩:=iA e9;cases z9;refine⟨H0,ρ,ds,ρ1,st,e1,fun J H00 Hb t1 jw L hL=>tY (Q:=fun x H1=>cW j x σ H1 (gA (tDN j MQ) (tDS gs) D)) hb hl t1.st jw hsz e2 L hL fun H0' H' ps st' sp' ho' hDl n0 nd hps hro=>?_⟩;have nL:¬af σ ρ1 L:=t1.st.bg hL;have om:∀a,af (σ.set j (some (.ref L))) ((ρ2.take ρ1.length).set j .un) a->af σ (ρ2.take ρ1.length) a:=fun a ⟨i,d,h1,h2⟩=>by
  rcases aE h1 with⟨_,z⟩ | ⟨hij,h1⟩
  ·cases z
  ·rw[gc (P4 hij)]at h2;exact⟨i,d,h1,h2⟩
 have st2:ay H0' H' (σ.set j (some (.ref L))) ((ρ2.take ρ1.length).set j .un):={
  same:=st'.same
  len:=by rw[PR,PR];exact st'.len
  sh:=fun i d h=>by
   rcases aE h with⟨_,z⟩ | ⟨hij,h⟩
   ·cases z
   ·obtain⟨v,q,r⟩:=st'.sh i d h;exact⟨v,by rw[gc (P4 hij)];exact q,r⟩
  ow:=fun i d h=>by
   rcases aE h with⟨_,z⟩ | ⟨hij,h⟩
   ·cases z
   ·obtain⟨v,q,r⟩:=st'.ow i d h;exact⟨v,by rw[gc (P4 hij)];exact q,r⟩
  dis:=fun i i' d d' a h1 h2 h3 h4=>by
   rcases aE h1 with⟨_,z⟩ | ⟨q1,h1⟩
   ·cases z
   rcases aE h2 with⟨_,z⟩ | ⟨q2,h2⟩
   ·cases z
   rw[gc (P4 q1)]at h3;rw[gc (P4 q2)]at h4;exact st'.dis i i' d d' a h1 h2 h3 h4 }
 have sp:Stp (af σ ρ) H0 H H0' H':=t1.stp.trans sp' fun a z=>.inl (t1.own a z);have n:NS j σ ρ H0 H (σ.set j (some (.ref L))) ((ρ2.take ρ1.length).set j .un) H0' H' (Ds ds.length []):=
  ⟨st2,sp,fun a z=>.inl (t1.own a (ho' a (om a z))),gc hj0,L,ps,PB hj,t1.stp.gone hL,n0,fun z=>nL (ho' L (om L z)),hDl,nd,fun p hp=>⟨t1.stp.gone (hps p hp).1,(hps p hp).2,fun z=>t1.st.bg (hps p hp).1 (ho' p (om p z))⟩,hro⟩
 refine⟨σ,ρ,H0,H,H0',_,_,ρ3,r3,n,e3,fun σ4 H4 Hd n4 _=>?_⟩;obtain⟨H5,t5⟩:=n4.done;exact⟨H5,_,o,t5.st,e,k.pre t5⟩
noncomputable abbrev DN(X:Cx)(j:Nat)(st:Stmt)(f:Dm.FN):Prop:=PS X st (tDN j f)
noncomputable abbrev DNs(X:Cx)(j:Nat)(st:List Stmt)(f:Dm.FN):Prop:=PSs X st (tDN j f)
end
section
variable{X:Cx}{st:Stmt}{xq:List Stmt}{fs gs:Dm.FN}{e c:Expr}{f:FE}{pos:Pos}{j:Nat}
section
variable{is:List Nat}{bd:Dm.FB}{fi:Dm.FI}
theorem tZ(h1:DN X j st fs):DNs X j [st] fs:=iz h1
theorem Ol{t:FT}{x y:List Stmt}(ht:DT X c t)(ha:DNs X j x fs)(hb:DNs X j y gs):DN X j (.If c x y pos) (Dm.nIf t fs gs):=PS.weak (sW ht ha hb) fun _ _ _=>Mr
theorem BQ{tg it:Expr}{body:List Stmt}(hp:PassesOwn (model X.prog X.w) X.A X.env X.xe)(hc:X.calm=true)(hi:DI X tg it fi)(hg:TG' X tg is bd)(hb:DNs X j body fs)(hj:decide (j∈is)=false:=by rfl)
  (hs:∀x,foldedSetIterable it X.env x=pure x:=by intro _;rfl):DN X j (.For tg it body [] pos) (Dm.j8 fi bd fs):=by
 obtain⟨g,h1,h2⟩:=hg.ex;exact PS.weak (vQ hp hc hi h1 hb hs) fun _ _ _=>JT h2 (of_decide_eq_false hj)
theorem BR{x:Str}{i:Expr}{fi:FE}{px sp ap cp:Pos}(hi':DE X i fi)(he:DE X e f)(hi:X.N[j]?=some x:=by rfl)(hv:Vis X.env.scope x:=by trivial)(hd:(x == ("__debug__" : Str))=false:=by decide)
  (HQ:(x == ("__classdict__" : Str))=false:=by decide) (Cs:eN i:=by intro _ _;rfl) (CA:attributeBase (.Subscript (.Name x px) i sp) "append" X.env (eval (.Subscript (.Name x px) i sp) X.env)=eval (.Subscript (.Name x px) i sp) X.env:=by rfl)
  (hfew:((backTo cp (starEach [e] X.env)).all (fun x=>!x.1)&&(backToKw cp (keywordEach [] X.env)).all (fun x=>x.1.isSome)
   && decide ([e].length+([]:List Keyword).length+(if ([]:List Keyword).isEmpty then 0 else 1)<30))=true:=by rfl)
  (Cz:(ap.endLine == cp.line)=true:=by rfl) (hs:starEach [e] X.env=(false,eval e X.env)::starEach [] X.env:=by rfl) (Gv:(backTo cp (starEach [] X.env)).any (·.1)=false:=by rfl)
  (hsw:swapsWith (.Call (.Attribute (.Subscript (.Name x px) i sp) "append" ap) [e] [] cp) none pos.line X.env=pure false:=by rfl) :
  DN X j (.Expr (.Call (.Attribute (.Subscript (.Name x px) i sp) "append" ap) [e] [] cp) pos) (Dm.rH fi f):=
 PS.weak (fO (tw Qy PySem.F.slot_list_append PySem.F.type_list_append kD (mD qW (bR hi hv hd HQ) hi' Cs) (aa he ah hs) CA hfew Cz hs Gv) hsw) fun _ _ _=>JU
theorem JX(j:Nat)(nm own:List Str){y:Str}{py FJ wB:Pos}{tg iter:Expr}{scope:Scope}{MQ:Dm.FN}{gs:FS}{lst:Stmt}(hN:X.N.Nodup)(hg:TGc X nm scope own tg is bd)(hi:DI X tg iter fi)(hlp:DN X j lst MQ)(hre:DSs X xq gs)
  (hc:X.calm=true:=by rfl) (hk:scope.kind=.function:=by rfl) (hS:gO X.env.scope X.N nm scope=true:=by rfl) (hl:(is.all fun i=>decide (X.N.length<=i))=true:=by rfl) (hj:X.N[j]?=some y:=by rfl) (hy:Loc X.env.scope y:=by trivial)
  (hsw:swapsWith (.ListComp (.List [] wB) [⟨tg,iter,[],0⟩] scope pos) (some (.Name y py)) FJ.line X.env=pure true:=by rfl) (hs:∀y,foldedSetIterable iter X.env y=pure y:=by intro _;rfl)
  (hf:X.fn y=true\/X.env.scope.names.lookup y=some .local:=by trivial) :
  DSs X (.Assign [.Name y py] (.ListComp (.List [] wB) [⟨tg,iter,[],0⟩] scope pos) FJ::lst::xq) (Dm.az (Dm.gi j fi own.length bd MQ) gs):=by
 obtain⟨g,h1,h2⟩:=hg.ex;have h:=a_ (cA hN hj hy hc (b7.of hS hk) hi h1 (fun cl C s H fp=>jV) (fun cl C s H fp=>vS (pos:=wB) dX) hsw hs hf) (a_ hlp hre);intro nC s σ H D I q;exact h nC s σ H D I (JV h2 (fun i hi=>by rw[I.len];exact jY hl i hi) (by rw[I.len];exact(Pa.mp hj).1) q)
end
end
section
variable{vs:List Dat}{ρ ρ':Dm.Env}{ks:List Int}{d:Dat}{x:Dm.Val}{H H':Hp}{i:Nat}
theorem dR:∀{its:List Value} {ns:List Int},IntsAre its ns->Vals (ns.map V.int) its
 |_,_,.nil=>.nil
 |_,_,.cons n t h=>.cons ⟨t,rfl⟩ (dR h)
theorem JY(e:Dm.tkd ρ x=some (d,ρ')):Dm.tk ρ x=some (d,ρ')\/∃i ks vs,x=.slot i/\ρ[i]?=some (.ow (.dct ks vs))/\d=.dct ks vs/\ρ'=ρ:=by
 cases x with
 |val d'=>exact .inl e
 |new d'=>exact .inl e
 |slot i=>
  unfold Dm.tkd at e;dsimp only at e;split at e
  ·rename_i ks vs h;cases e;exact .inr ⟨i,ks,vs,rfl,h,rfl,rfl⟩
  ·rename_i d' _ h;left;unfold Dm.tk;dsimp only;rw[h];exact e
  ·rename_i d' h;left;unfold Dm.tk;dsimp only;rw[h];exact e
  ·cases e
theorem BS(e:Dm.tkd ρ x=some (d,ρ'))(h:ρ[i]?=some (.ow (.dct ks vs))):ρ'[i]?=some (.ow (.dct ks vs)):=by
 cases x with
 |val d'=>cases e;exact h
 |new d'=>cases e;exact h
 |slot j=>
  unfold Dm.tkd at e;dsimp only at e;split at e
  ·cases e;exact h
  ·rename_i d' hn hj;cases e;by_cases q:j=i
   ·subst q;rw[h]at hj;cases hj;exact absurd rfl (hn ks vs)
   ·rw[gc q];exact h
  ·cases e;exact h
  ·cases e
theorem qd:∀{xs:List Dm.Val} {ρ ρ':Dm.Env} {ds:List Dat},Dm.wA ρ xs=some (ds,ρ')->ρ[i]?=some (.ow (.dct ks vs))->ρ'[i]?=some (.ow (.dct ks vs))
 |[],_,_,_,e,h=>by cases e;exact h
 |x::xs,ρ,ρ',ds,e,h=>by
  unfold Dm.wA at e;split at e
  ·cases e
  rename_i d ρ1 e1;split at e
  ·cases e
  rename_i ds' ρ2 e2;cases e;exact qd e2 (BS e1 h)
def Om(H0:Hp)(σ:L2.St)(ρ:Dm.Env)(v:V)(d:Dat):Prop:=Rep H0 v d\/∃(i:Nat) (b:Addr) (ks:List Int) (vs:List Dat),d=.dct ks vs/\v=.ref b/\ρ[i]?=some (.ow (.dct ks vs))/\σ[i]?=some (some (.ref b))
inductive t8(H0:Hp)(σ:L2.St)(ρ:Dm.Env):List V->List Dat->Prop
 |nil:t8 H0 σ ρ [] []
 |cons {v:V} {d:Dat} {vs:List V} {ds:List Dat}:Om H0 σ ρ v d->t8 H0 σ ρ vs ds->t8 H0 σ ρ (v::vs) (d::ds)
theorem wC{Hs H0s H0 H:Hp}{σ:L2.St}{ρs:Dm.Env}:∀{xs:List Dm.Val} {vs:List V} {ρ ρ':Dm.Env} {ds:List Dat} {H0c:Hp},ESt σ ρs H0s Hs ρ H0c H->aj H0 H0c->cM Hs H0 H σ ρ vs xs->Dm.wA ρ xs=some (ds,ρ') ->
  ∃fS,ESt σ ρs H0s Hs ρ' fS H/\aj H0c fS/\t8 fS σ ρ' vs ds
 |[],_,ρ,ρ',ds,H0c,t,b,r,e=>by cases r;cases e;exact⟨H0c,t,aj.refl _,.nil⟩
 |x::xs,_,ρ,ρ',ds,H0c,t,b,r,e=>by
  cases r with
  |cons h r=>
   unfold Dm.wA at e;split at e
   ·cases e
   ·rename_i d ρ1 e1;split at e
    ·cases e
    ·rename_i ds' ρ2 e2;cases e;rcases JY e1 with e1' | ⟨i,ks,vs,rfl,hi,rfl,rfl⟩
     ·obtain⟨H1,t1,b1,r1,o1,d1⟩:=take1 t b h e1';obtain⟨H2,t2,b2,r2⟩:=wC t1 (b.trans b1) (r.rho o1 d1) e2;exact⟨H2,t2,b1.trans b2,.cons (.inl (r1.mono b2)) r2⟩
     ·obtain⟨H2,t2,b2,r2⟩:=wC t b r e2;obtain⟨q,_⟩:=h;obtain⟨a,z,_⟩:=t.st.ow i _ hi;rw[q]at z;cases z;exact⟨H2,t2,b2,.cons (.inr ⟨i,a,ks,vs,rfl,rfl,qd e2 hi,q⟩) r2⟩
mutual
theorem Rep.noD(hk:∀a o,H a=some o->H' a=some o\/∃kvs,o=.dK kvs):∀{v:V} {d:Dat},Rep H v d->Dm.aM d=true->Rep H' v d
 |_,_,.non,_=>.non
 |_,_,.bl b,_=>.bl b
 |_,_,.int i,_=>.int i
 |_,_,.str x,_=>.str x
 | _,_,.tup h r,n=>.tup (by
   rcases hk _ _ h with z | ⟨_,z⟩
   ·exact z
   ·cases z) (av.noD hk r (by unfold Dm.aM at n;exact n))
 | _,_,.lst h r,n=>.lst (by
   rcases h with h | ⟨o,h⟩
   ·rcases hk _ _ h with z | ⟨_,z⟩
    ·exact .inl z
    ·cases z
   ·rcases hk _ _ h with z | ⟨_,z⟩
    ·exact .inr ⟨o,z⟩
    ·cases z) (av.noD hk r (by unfold Dm.aM at n;exact n))
 |_,_,.dct _ _ _,n=>by unfold Dm.aM at n;cases n
 |_,_,.dcp _ _ _,n=>by unfold Dm.aM at n;cases n
 |_,_,.exc _,n=>by unfold Dm.aM at n;cases n
 |_,_,.dh _ _,n=>by unfold Dm.aM at n;cases n
 |_,_,.fn a,_=>.fn a
theorem av.noD(hk:∀a o,H a=some o->H' a=some o\/∃kvs,o=.dK kvs):∀{vs:List V} {ds:List Dat},av H vs ds->Dm.fh ds=true->av H' vs ds
 |_,_,.nil,_=>.nil
 |_,_,.cons h r,n=>by unfold Dm.fh at n;rw[Pu]at n;exact .cons (Rep.noD hk h n.1) (av.noD hk r n.2)
end
end
open Classical in
theorem BU{σ:L2.St}{H:Hp}{Q:VK}{f:List Dat->Option RV}{fs:List FE}{E:XK}(h:tD (Dm.eFd f fs) σ H Q):k_ (spD f) [] E (tDA fs) σ H Q:=by
 obtain⟨H0,ρ,x,ρ',st,e,k⟩:=h;unfold Dm.eFd at e;split at e
 ·cases e
 rename_i xs ρ1 e1;split at e
 ·cases e
 rename_i ds ρ2 e2;split at e
 ·cases e
 rename_i z fz;split at e
 case isFalse=>cases e
 rename_i hno;injection e with e
 injection e with ea eb
 subst ea;subst eb;refine⟨H0,ρ,xs,ρ1,st,e1,fun vs H1 Hb t1 r1=>?_⟩;dsimp only;rw[PY];obtain⟨H2,t2,b2,r2⟩:=wC t1 (aj.refl _) r1 e2
 let B:Addr->Prop:=fun b=>∃(i:Nat) (ks:List Int) (vs:List Dat),ρ2[i]?=some (.ow (.dct ks vs))/\σ[i]?=some (some (.ref b))
 have hB:∀b,B b->H2 b=none/\∃kvs,Hb b=some (.dK kvs):=fun b ⟨i,ks,vs,h1,h2⟩=>by obtain⟨a,q,n,kvs,w,_⟩:=t2.st.ow i _ h1;rw[h2]at q;cases q;exact⟨n,kvs,w⟩
 let H2':Hp:=fun b=>if B b then Hb b else H2 b
 have in':∀b,B b->H2' b=Hb b:=fun b h=>if_pos h;have out':∀b,¬B b->H2' b=H2 b:=fun b h=>if_neg h;have s2:aj H2 H2':=fun b o e=>by
  by_cases q:B b
  ·rw[(hB b q).1]at e;cases e
  ·rw[out' b q];exact e
 have s2b:aj H2' Hb:=fun b o e=>by
  by_cases q:B b
  ·rw[in' b q]at e;exact e
  ·rw[out' b q]at e;exact t2.st.same _ _ e
 have rr:∀{vs:List V} {ds:List Dat},t8 H2 σ ρ2 vs ds->av H2' vs ds:=fun {vs ds} r=>by
  induction r with
  |nil=>exact .nil
  |cons h _ ih=>
   refine .cons ?_ ih;rcases h with h | ⟨i,b,ks,vs',rfl,rfl,h1,h2⟩
   ·exact h.mono s2
   ·obtain⟨a,q,n,kvs,w,ek,rs⟩:=t2.st.ow i _ h1;rw[h2]at q;cases q;exact .dct (by rw[in' _ ⟨i,ks,vs',h1,h2⟩];exact w) ek (rs.mono s2)
 refine⟨H2',ds,z,s2b,rr r2,fz,fun w H3 Hd g3 r3=>?_⟩
 let H3':Hp:=fun b=>if B b then none else H3 b
 have in3:∀b,B b->H3' b=none:=fun b h=>if_pos h;have gS:∀b,¬B b->H3' b=H3 b:=fun b h=>if_neg h;have gr:aG H2 Hb H3' Hd:=⟨fun b o e=>by
   by_cases q:B b
   ·rw[(hB b q).1]at e;cases e
   ·rw[gS b q];exact g3.s0 _ _ (s2 _ _ e),g3.s1,fun b o e=>by
   by_cases q:B b
   ·rw[in3 b q]at e;cases e
   ·rw[gS b q]at e;rcases g3.s2 b o e with y | y
    ·exact .inl y
    ·rw[out' b q]at y;exact .inr y,fun b o e=>by
   by_cases q:B b
   ·rw[in3 b q]at e;cases e
   ·rw[gS b q]at e;exact g3.s3 _ _ e⟩
 have hk:∀a o,H3 a=some o->H3' a=some o\/∃kvs,o=.dK kvs:=fun a o e=>by
  by_cases q:B a
  ·obtain⟨_,kvs,y⟩:=hB a q;have:=g3.s0 a _ ((in' a q).trans y);rw[e]at this;exact .inr ⟨kvs,Option.some.inj this⟩
  ·exact .inl (by rw[gS a q];exact e)
 have r3':pC Hb H3' Hd w z:=by
  cases z with
  |val d=>exact Rep.noD hk r3 hno
  |new d=>
   obtain⟨a,ea,n,n0,w'⟩:=r3;refine⟨a,ea,n,?_,?_⟩
   ·by_cases q:B a
    ·exact in3 a q
    ·rw[gS a q];exact n0
   ·cases d with
    |lst ds'=>obtain⟨ys,y1,y2⟩:=w';exact⟨ys,y1,av.noD hk y2 (by have:Dm.aM (.lst ds')=true:=hno;unfold Dm.aM at this;exact this)⟩
    |dct ks ds'=>have:Dm.aM (.dct ks ds')=true:=hno;unfold Dm.aM at this;cases this
    |dcp ks ds'=>have:Dm.aM (.dcp ks ds')=true:=hno;unfold Dm.aM at this;cases this
    |_=>exact w'.elim
 exact k w H3' Hd (t2.trans (.grow t2.st gr)) ((r3'.toV t2.st).early fun a n=>t2.stp.gone n)
section
variable{X:Cx}{e b:Expr}{es:List Expr}{fs:List FE}{fb:FE}{p pos:Pos}
theorem t9{k:Nat}{F:Addr}{fd:FuncData}{ps:List Str}{g:List Dat->Option RV}{x:Str}(G:bw X.prog X.w X.K X.mg X.base CX0 k F fd ps (spD g))(hr:bu k X.A)(hg:Gl X x)(hm:X.mg x=some (.ref F))(hk:QA X.K (.ref F)=true)(hb:Binds X.K fd ps [])
  (ha:DA X (e::es) fs) (MT:(x == ("__debug__" : Str))=false:=by decide) (he:starEach (e::es) X.env=(false,eval e X.env)::starEach es X.env:=by rfl) (Cs:(backTo pos (starEach es X.env)).any (·.1)=false:=by rfl) :
  DE X (.Call (.Name x p) (e::es) [] pos) (Dm.eFd g fs):=PE.weak (fR G hr hg hm hk hb .nil (mG (X:=X)) ha MT he Cs) fun _ _ _=>BU
end
open PySem
variable{C:List Value->Prop}{us:List Value}
theorem len0(h:us.length=0)(c:C []):C us:=by rw[List.eq_nil_of_length_eq_zero h];exact c
theorem z0{n:Nat}{C:List Value->Prop}{us:List Value}(h:us.length=n+1)(c:∀a us,us.length=n->C (a::us)):C us:=by
 cases us with
 |nil=>cases h
 |cons a us=>exact c a us (by simpa using h)
theorem Mu(h:us.length=1)(c:∀a,C [a]):C us:=z0 h fun a _ h=>len0 h (C:=fun us=>C (a::us)) (c a)
theorem BJ(h:us.length=2)(c:∀a b,C [a,b]):C us:=z0 h fun a _ h=>Mu h (C:=fun us=>C (a::us)) (c a)
theorem Mv(h:us.length=3)(c:∀a b d,C [a,b,d]):C us:=z0 h fun a _ h=>BJ h (C:=fun us=>C (a::us)) (c a)
theorem Mw(h:us.length=4)(c:∀a b d e,C [a,b,d,e]):C us:=z0 h fun a _ h=>Mv h (C:=fun us=>C (a::us)) (c a)
theorem Mx(h:us.length=5)(c:∀a b d e f,C [a,b,d,e,f]):C us:=z0 h fun a _ h=>Mw h (C:=fun us=>C (a::us)) (c a)
theorem Oo(h:us.length=6)(c:∀a b d e f g,C [a,b,d,e,f,g]):C us:=z0 h fun a _ h=>Mx h (C:=fun us=>C (a::us)) (c a)
end Br
namespace L2
open PySem
variable{K:O8}{x qual:Str}{st:Stmt}{f:Addr}{fd:FuncData}{ps:List Str}
theorem Fun.wD(F:Fun K x qual st f fd)(hp:ps.length=1)(h:∀(kV doc pm:Value) (an:Option Addr) (cdv ct:Value) (a:Value),bindArgs (Qc x qual (bh st) (aU st) (ak st) .none kV doc pm an cdv ct) ⟨[a],[]⟩=pure (ps.zip [a])):Binds K fd ps []:=
 F.binds fun kV doc pm an cdv ct us hl=>Br.Mu (C:=fun us=>bindArgs (Qc x qual (bh st) (aU st) (ak st) .none kV doc pm an cdv ct) ⟨us,[]⟩=pure (ps.zip us)) (hl.trans hp) (h kV doc pm an cdv ct)
theorem Fun.d8(F:Fun K x qual st f fd)(hp:ps.length=2)(h:∀(kV doc pm:Value) (an:Option Addr) (cdv ct:Value) (a b:Value),bindArgs (Qc x qual (bh st) (aU st) (ak st) .none kV doc pm an cdv ct) ⟨[a,b],[]⟩=pure (ps.zip [a,b])):Binds K fd ps []:=
 F.binds fun kV doc pm an cdv ct us hl=>Br.BJ (C:=fun us=>bindArgs (Qc x qual (bh st) (aU st) (ak st) .none kV doc pm an cdv ct) ⟨us,[]⟩=pure (ps.zip us)) (hl.trans hp) (h kV doc pm an cdv ct)
theorem Fun.kK(F:Fun K x qual st f fd)(hp:ps.length=3)(h:∀(kV doc pm:Value) (an:Option Addr) (cdv ct:Value) (a b d:Value),bindArgs (Qc x qual (bh st) (aU st) (ak st) .none kV doc pm an cdv ct) ⟨[a,b,d],[]⟩=pure (ps.zip [a,b,d])):Binds K fd ps []:=
 F.binds fun kV doc pm an cdv ct us hl=>Br.Mv (C:=fun us=>bindArgs (Qc x qual (bh st) (aU st) (ak st) .none kV doc pm an cdv ct) ⟨us,[]⟩=pure (ps.zip us)) (hl.trans hp) (h kV doc pm an cdv ct)
theorem Fun.rK(F:Fun K x qual st f fd)(hp:ps.length=4)(h:∀(kV doc pm:Value) (an:Option Addr) (cdv ct:Value) (a b d e:Value),bindArgs (Qc x qual (bh st) (aU st) (ak st) .none kV doc pm an cdv ct) ⟨[a,b,d,e],[]⟩=pure (ps.zip [a,b,d,e])):Binds K fd ps []:=
 F.binds fun kV doc pm an cdv ct us hl=>Br.Mw (C:=fun us=>bindArgs (Qc x qual (bh st) (aU st) (ak st) .none kV doc pm an cdv ct) ⟨us,[]⟩=pure (ps.zip us)) (hl.trans hp) (h kV doc pm an cdv ct)
theorem Fun.wF(F:Fun K x qual st f fd)(hp:ps.length=5)(h:∀(kV doc pm:Value) (an:Option Addr) (cdv ct:Value) (a b d e g:Value),bindArgs (Qc x qual (bh st) (aU st) (ak st) .none kV doc pm an cdv ct) ⟨[a,b,d,e,g],[]⟩=pure (ps.zip [a,b,d,e,g])):Binds K fd ps []:=
 F.binds fun kV doc pm an cdv ct us hl=>Br.Mx (C:=fun us=>bindArgs (Qc x qual (bh st) (aU st) (ak st) .none kV doc pm an cdv ct) ⟨us,[]⟩=pure (ps.zip us)) (hl.trans hp) (h kV doc pm an cdv ct)
theorem Fun.BV(F:Fun K x qual st f fd)(hp:ps.length=6)(h:∀(kV doc pm:Value) (an:Option Addr) (cdv ct:Value) (a b d e g i:Value),bindArgs (Qc x qual (bh st) (aU st) (ak st) .none kV doc pm an cdv ct) ⟨[a,b,d,e,g,i],[]⟩=pure (ps.zip [a,b,d,e,g,i])):Binds K fd ps []:=
 F.binds fun kV doc pm an cdv ct us hl=>Br.Oo (C:=fun us=>bindArgs (Qc x qual (bh st) (aU st) (ak st) .none kV doc pm an cdv ct) ⟨us,[]⟩=pure (ps.zip us)) (hl.trans hp) (h kV doc pm an cdv ct)
end L2
namespace Dm
noncomputable def dD:Dat->Option Nat
 |.lst []=>some 0
 |.lst (.int _::_)=>some 1
 |.lst (.tup xs::_)=>some (2+xs.length)
 |.lst (.lst _::_)=>some 1000000
 |_=>none
mutual
noncomputable def c_(k:Nat):Dat->Bool
 |.tup xs=>dc k xs
 | .lst xs=>(match dD (.lst xs) with
  |some j=>decide (j≠k)
  |none=>false)&&dc k xs
 |.dct _ vs=>dc k vs
 |.dcp _ vs=>dc k vs
 |_=>true
noncomputable def dc(k:Nat):List Dat->Bool
 |[]=>true
 |x::r=>c_ k x&&dc k r
end
noncomputable def tkk(k:Nat)(ρ:Env):Val->Option (Dat×Env)
 |.val d=>some (d,ρ)
 |.new d=>some (d,ρ)
 |.slot i=>match ρ[i]? with
  |some (.ow d)=>if dD d=some k then some (d,ρ) else some (d,ρ.set i (.sh d))
  |some (.sh d)=>some (d,ρ)
  |_=>none
noncomputable def wG(k:Nat)(ρ:Env):List Val->Option (List Dat×Env)
 |[]=>some ([],ρ)
 |x::r=>match tkk k ρ x with
  |none=>none
  |some (d,ρ1)=>match wG k ρ1 r with
   |none=>none
   |some (ds,ρ2)=>some (d::ds,ρ2)
noncomputable def eFk(k:Nat)(f:List Dat->Option RV)(as:List FE):FE:=fun ρ=>match eAs as ρ with
 |none=>none
 |some (xs,ρ1)=>match wG k ρ1 xs with
  |none=>none
  |some (ds,ρ2)=>match f ds with
   |none=>none
   |some v=>if c_ k v.dat then some (v.bC,ρ2) else none
end Dm
namespace Br
open PySem PySem.Spec PyProof.Rows L2
section
variable{k:Nat}{ρ ρ':Dm.Env}{d:Dat}{x:Dm.Val}{H H':Hp}
theorem z5(h:Dm.dD d=some k):∃ds,d=.lst ds:=by
 unfold Dm.dD at h;split at h
 ·exact⟨_,rfl⟩
 ·exact⟨_,rfl⟩
 ·exact⟨_,rfl⟩
 ·exact⟨_,rfl⟩
 ·cases h
theorem yt{H:Hp}{a:Addr}{xs ys:List V}(h:H a=some (.tup xs))(q:Rd H a (.lst ys)):False:=by
 rcases q with q | ⟨o,q⟩
 ·rw[h]at q;cases q
 ·rw[h]at q;cases q
theorem BW{H:Hp}{xs:List V}{ds es:List Dat}{j k:Nat}(r:av H xs ds)(q:av H xs es)(h1:Dm.dD (.lst ds)=some j)(h2:Dm.dD (.lst es)=some k):j=k:=by
 cases r with
 |nil=>cases q;cases h1;cases h2;rfl
 |cons r _=>
  cases q with
  |cons q _=>
   unfold Dm.dD at h1 h2;split at h1
   ·rename_i z;cases z
   ·rename_i z;cases z;cases r;cases q;cases h1;cases h2;rfl
   ·rename_i z;cases z;cases h1;split at h2
    ·rename_i z;cases z
    ·rename_i z;cases z;cases q;cases r
    ·rename_i z;cases z;cases h2;cases r with
     |tup a ra=>
      cases q with
      |tup b rb=>rw[a]at b;cases b;rw[<- ra.length,<- rb.length]
    ·rename_i z;cases z;cases r with
     |tup a ra=>
      cases q with
      |lst b rb=>exact(yt a b).elim
    ·cases h2
   ·rename_i z;cases z;cases h1;split at h2
    ·rename_i z;cases z
    ·rename_i z;cases z;cases q;cases r
    ·rename_i z;cases z;cases q with
     |tup a ra=>
      cases r with
      |lst b rb=>exact(yt a b).elim
    ·cases h2;rfl
    ·cases h2
   ·cases h1
theorem JZ(e:Dm.tkk k ρ x=some (d,ρ')):Dm.tk ρ x=some (d,ρ')\/∃i ds,x=.slot i/\ρ[i]?=some (.ow (.lst ds))/\Dm.dD (.lst ds)=some k/\d=.lst ds/\ρ'=ρ:=by
 cases x with
 |val d'=>exact .inl e
 |new d'=>exact .inl e
 |slot i=>
  unfold Dm.tkk at e;dsimp only at e;split at e
  ·rename_i d' h;split at e
   ·rename_i hk;cases e;obtain⟨ds,rfl⟩:=z5 hk;exact .inr ⟨i,ds,rfl,h,hk,rfl,rfl⟩
   ·left;unfold Dm.tk;dsimp only;rw[h];exact e
  ·rename_i d' h;left;unfold Dm.tk;dsimp only;rw[h];exact e
  ·cases e
theorem BX{d c:Dat}{i:Nat}(e:Dm.tkk k ρ x=some (d,ρ'))(h:ρ[i]?=some (.ow c))(hc:Dm.dD c=some k):ρ'[i]?=some (.ow c):=by
 cases x with
 |val d'=>cases e;exact h
 |new d'=>cases e;exact h
 |slot j=>
  unfold Dm.tkk at e;dsimp only at e;split at e
  ·rename_i d' hj;split at e
   ·cases e;exact h
   ·rename_i hn;cases e;by_cases q:j=i
    ·subst q;rw[h]at hj;cases hj;exact absurd hc hn
    ·rw[gc q];exact h
  ·cases e;exact h
  ·cases e
theorem qe{k i:Nat}{c:Dat}(hc:Dm.dD c=some k):∀{xs:List Dm.Val} {ρ ρ':Dm.Env} {ds:List Dat},Dm.wG k ρ xs=some (ds,ρ')->ρ[i]?=some (.ow c)->ρ'[i]?=some (.ow c)
 |[],_,_,_,e,h=>by cases e;exact h
 |x::xs,ρ,ρ',ds,e,h=>by
  unfold Dm.wG at e;split at e
  ·cases e
  rename_i d ρ1 e1;split at e
  ·cases e
  rename_i ds' ρ2 e2;cases e;exact qe hc e2 (BX e1 h hc)
def Oq(k:Nat)(H0:Hp)(σ:L2.St)(ρ:Dm.Env)(v:V)(d:Dat):Prop:=Rep H0 v d\/∃(i:Nat) (b:Addr) (ds:List Dat),d=.lst ds/\v=.ref b/\ρ[i]?=some (.ow (.lst ds))/\Dm.dD (.lst ds)=some k/\σ[i]?=some (some (.ref b))
inductive t_(k:Nat)(H0:Hp)(σ:L2.St)(ρ:Dm.Env):List V->List Dat->Prop
 |nil:t_ k H0 σ ρ [] []
 |cons {v:V} {d:Dat} {vs:List V} {ds:List Dat}:Oq k H0 σ ρ v d->t_ k H0 σ ρ vs ds->t_ k H0 σ ρ (v::vs) (d::ds)
theorem wH{Hs H0s H0 H:Hp}{σ:L2.St}{ρs:Dm.Env}:∀{xs:List Dm.Val} {vs:List V} {ρ ρ':Dm.Env} {ds:List Dat} {H0c:Hp},ESt σ ρs H0s Hs ρ H0c H->aj H0 H0c->cM Hs H0 H σ ρ vs xs->Dm.wG k ρ xs=some (ds,ρ') ->
  ∃fS,ESt σ ρs H0s Hs ρ' fS H/\aj H0c fS/\t_ k fS σ ρ' vs ds
 |[],_,ρ,ρ',ds,H0c,t,b,r,e=>by cases r;cases e;exact⟨H0c,t,aj.refl _,.nil⟩
 |x::xs,_,ρ,ρ',ds,H0c,t,b,r,e=>by
  cases r with
  |cons h r=>
   unfold Dm.wG at e;split at e
   ·cases e
   ·rename_i d ρ1 e1;split at e
    ·cases e
    ·rename_i ds' ρ2 e2;cases e;rcases JZ e1 with e1' | ⟨i,es,rfl,hi,hk,rfl,rfl⟩
     ·obtain⟨H1,t1,b1,r1,o1,d1⟩:=take1 t b h e1';obtain⟨H2,t2,b2,r2⟩:=wH t1 (b.trans b1) (r.rho o1 d1) e2;exact⟨H2,t2,b1.trans b2,.cons (.inl (r1.mono b2)) r2⟩
     ·obtain⟨H2,t2,b2,r2⟩:=wH t b r e2;obtain⟨q,_⟩:=h;obtain⟨a,z,_⟩:=t.st.ow i _ hi;rw[q]at z;cases z;exact⟨H2,t2,b2,.cons (.inr ⟨i,a,es,rfl,rfl,qe hk e2 hi,hk,q⟩) r2⟩
mutual
theorem Rep.noL(hk:∀a o,H a=some o->H' a=some o\/∃xs,o=.lst xs/\∀ds j,av H xs ds->Dm.dD (.lst ds)=some j->j=k):∀{v:V} {d:Dat},Rep H v d->Dm.c_ k d=true->Rep H' v d
 |_,_,.non,_=>.non
 |_,_,.bl b,_=>.bl b
 |_,_,.int i,_=>.int i
 |_,_,.str x,_=>.str x
 | _,_,.tup h r,n=>.tup (by
   rcases hk _ _ h with z | ⟨_,z,_⟩
   ·exact z
   ·cases z) (av.noL hk r (by unfold Dm.c_ at n;exact n))
 |_,_,.lst (ds:=ds) h r,n=>by
   unfold Dm.c_ at n;rw[Pu]at n;refine .lst ?_ (av.noL hk r n.2);rcases h with h | ⟨o,h⟩
   ·rcases hk _ _ h with z | ⟨_,z,kf⟩
    ·exact .inl z
    ·cases z;obtain⟨n1,_⟩:=n;split at n1
     ·rename_i j e;exact absurd (kf ds j r e) (of_decide_eq_true n1)
     ·cases n1
   ·rcases hk _ _ h with z | ⟨_,z,_⟩
    ·exact .inr ⟨o,z⟩
    ·cases z
 | _,_,.dct h e r,n=>.dct (by
   rcases hk _ _ h with z | ⟨_,z,_⟩
   ·exact z
   ·cases z) e (av.noL hk r (by unfold Dm.c_ at n;exact n))
 | _,_,.dcp h e r,n=>.dcp (by
   rcases hk _ _ h with z | ⟨_,z,_⟩
   ·exact z
   ·cases z) ⟨e.1,e.2.via fun t vs h=>by
       rcases hk _ _ h with z | ⟨_,z,_⟩
       ·exact z
       ·cases z⟩ (av.noL hk r (by unfold Dm.c_ at n;exact n))
 | _,_,.exc h,n=>.exc (by
   rcases hk _ _ h with z | ⟨_,z,_⟩
   ·exact z
   ·cases z)
 | _,_,.dh h k,n=>.dh (by
   rcases hk _ _ h with z | ⟨_,z,_⟩
   ·exact z
   ·cases z) (by
   rcases hk _ _ k with z | ⟨_,z,_⟩
   ·exact z
   ·cases z)
 |_,_,.fn a,_=>.fn a
theorem av.noL(hk:∀a o,H a=some o->H' a=some o\/∃xs,o=.lst xs/\∀ds j,av H xs ds->Dm.dD (.lst ds)=some j->j=k):∀{vs:List V} {ds:List Dat},av H vs ds->Dm.dc k ds=true->av H' vs ds
 |_,_,.nil,_=>.nil
 |_,_,.cons h r,n=>by unfold Dm.dc at n;rw[Pu]at n;exact .cons (Rep.noL hk h n.1) (av.noL hk r n.2)
end
end
open Classical in
theorem BY{k:Nat}{σ:L2.St}{H:Hp}{Q:VK}{f:List Dat->Option RV}{fs:List FE}{E:XK}(h:tD (Dm.eFk k f fs) σ H Q):k_ (spD f) [] E (tDA fs) σ H Q:=by
 obtain⟨H0,ρ,x,ρ',st,e,kk⟩:=h;unfold Dm.eFk at e;split at e
 ·cases e
 rename_i xs ρ1 e1;split at e
 ·cases e
 rename_i ds ρ2 e2;split at e
 ·cases e
 rename_i z fz;split at e
 case isFalse=>cases e
 rename_i hno;injection e with e
 injection e with ea eb
 subst ea;subst eb;refine⟨H0,ρ,xs,ρ1,st,e1,fun vs H1 Hb t1 r1=>?_⟩;dsimp only;rw[PY];obtain⟨H2,t2,b2,r2⟩:=wH t1 (aj.refl _) r1 e2
 let B:Addr->Prop:=fun b=>∃(i:Nat) (es:List Dat),ρ2[i]?=some (.ow (.lst es))/\Dm.dD (.lst es)=some k/\σ[i]?=some (some (.ref b))
 have hB:∀b,B b->H2 b=none/\∃ys es,Hb b=some (.lst ys)/\av H2 ys es/\Dm.dD (.lst es)=some k:=fun b ⟨i,es,h1,h2,h3⟩=>by obtain⟨a,q,n,ys,w,rs⟩:=t2.st.ow i _ h1;rw[h3]at q;cases q;exact⟨n,ys,es,w,rs,h2⟩
 let H2':Hp:=fun b=>if B b then Hb b else H2 b
 have in':∀b,B b->H2' b=Hb b:=fun b h=>if_pos h;have out':∀b,¬B b->H2' b=H2 b:=fun b h=>if_neg h;have s2:aj H2 H2':=fun b o e=>by
  by_cases q:B b
  ·rw[(hB b q).1]at e;cases e
  ·rw[out' b q];exact e
 have s2b:aj H2' Hb:=fun b o e=>by
  by_cases q:B b
  ·rw[in' b q]at e;exact e
  ·rw[out' b q]at e;exact t2.st.same _ _ e
 have rr:∀{vs:List V} {ds:List Dat},t_ k H2 σ ρ2 vs ds->av H2' vs ds:=fun {vs ds} r=>by
  induction r with
  |nil=>exact .nil
  |cons h _ ih=>
   refine .cons ?_ ih;rcases h with h | ⟨i,b,es,rfl,rfl,h1,h2,h3⟩
   ·exact h.mono s2
   ·obtain⟨a,q,n,ys,w,rs⟩:=t2.st.ow i _ h1;rw[h3]at q;cases q;exact .lst (.inl (by rw[in' _ ⟨i,es,h1,h2,h3⟩];exact w)) (rs.mono s2)
 refine⟨H2',ds,z,s2b,rr r2,fz,fun w H3 Hd g3 r3=>?_⟩
 let H3':Hp:=fun b=>if B b then none else H3 b
 have in3:∀b,B b->H3' b=none:=fun b h=>if_pos h;have gS:∀b,¬B b->H3' b=H3 b:=fun b h=>if_neg h;have gr:aG H2 Hb H3' Hd:=⟨fun b o e=>by
   by_cases q:B b
   ·rw[(hB b q).1]at e;cases e
   ·rw[gS b q];exact g3.s0 _ _ (s2 _ _ e),g3.s1,fun b o e=>by
   by_cases q:B b
   ·rw[in3 b q]at e;cases e
   ·rw[gS b q]at e;rcases g3.s2 b o e with y | y
    ·exact .inl y
    ·rw[out' b q]at y;exact .inr y,fun b o e=>by
   by_cases q:B b
   ·rw[in3 b q]at e;cases e
   ·rw[gS b q]at e;exact g3.s3 _ _ e⟩
 have hk:∀a o,H3 a=some o->H3' a=some o\/∃xs,o=.lst xs/\∀ds j,av H3 xs ds->Dm.dD (.lst ds)=some j->j=k:=fun a o e=>by
  by_cases q:B a
  ·obtain⟨_,ys,es,y,rs,he⟩:=hB a q;have:=g3.s0 a _ ((in' a q).trans y);rw[e]at this;refine .inr ⟨ys,Option.some.inj this,fun ds j r hj=>BW r ((rs.mono s2).mono g3.s0) hj he⟩
  ·exact .inl (by rw[gS a q];exact e)
 have r3':pC Hb H3' Hd w z:=by
  cases z with
  |val d=>exact Rep.noL hk r3 hno
  |new d=>
   obtain⟨a,ea,n,n0,w'⟩:=r3;refine⟨a,ea,n,?_,?_⟩
   ·by_cases q:B a
    ·exact in3 a q
    ·rw[gS a q];exact n0
   ·cases d with
    |lst ds'=>obtain⟨ys,y1,y2⟩:=w';have hn:Dm.c_ k (.lst ds')=true:=hno;unfold Dm.c_ at hn;rw[Pu]at hn;exact⟨ys,y1,av.noL hk y2 hn.2⟩
    |dct ks ds'=>obtain⟨ys,y1,y2,y3⟩:=w';have hn:Dm.c_ k (.dct ks ds')=true:=hno;unfold Dm.c_ at hn;exact⟨ys,y1,y2,av.noL hk y3 hn⟩
    |dcp ks ds'=>
     obtain⟨ys,y1,y2,y3⟩:=w';have hn:Dm.c_ k (.dcp ks ds')=true:=hno;unfold Dm.c_ at hn;exact ⟨ys,y1,⟨y2.1,y2.2.via fun t vs h=>by
       rcases hk _ _ h with z | ⟨_,z,_⟩
       ·exact z
       ·cases z⟩,av.noL hk y3 hn⟩
    |_=>exact w'.elim
 exact kk w H3' Hd (t2.trans (.grow t2.st gr)) ((r3'.toV t2.st).early fun a n=>t2.stp.gone n)
section
variable{X:Cx}{e:Expr}{es:List Expr}{fs:List FE}{p pos:Pos}
theorem BZ{k:Nat}(kd:Nat){F:Addr}{fd:FuncData}{ps:List Str}{g:List Dat->Option RV}{x:Str}(G:bw X.prog X.w X.K X.mg X.base CX0 k F fd ps (spD g))(hr:bu k X.A)(hg:Gl X x)(hm:X.mg x=some (.ref F))(hk:QA X.K (.ref F)=true)(hb:Binds X.K fd ps [])
  (ha:DA X (e::es) fs) (MT:(x == ("__debug__" : Str))=false:=by decide) (he:starEach (e::es) X.env=(false,eval e X.env)::starEach es X.env:=by rfl) (Cs:(backTo pos (starEach es X.env)).any (·.1)=false:=by rfl) :
  DE X (.Call (.Name x p) (e::es) [] pos) (Dm.eFk kd g fs):=PE.weak (fR G hr hg hm hk hb .nil (mG (X:=X)) ha MT he Cs) fun _ _ _=>BY
end
end Br
namespace Dm
inductive Dp where
 |s (d:Dat)
 |l (xs:List Dp)
 |t (xs:List Dp)
mutual
noncomputable def Dp.dat:Dp->Dat
 |.s d=>d
 |.l xs=>.lst (Dp.ni xs)
 |.t xs=>.tup (Dp.ni xs)
noncomputable def Dp.ni:List Dp->List Dat
 |[]=>[]
 |x::r=>x.dat::Dp.ni r
end
theorem Dp.fH:∀xs:List Dp,Dp.ni xs=xs.map Dp.dat
 |[]=>rfl
 |x::r=>by rw[Dp.ni,Dp.fH r];rfl
theorem Dp.B0(ds:List Dat):Dp.ni (ds.map Dp.s)=ds:=by rw[Dp.fH,Pr];exact(Qm fun d _=>rfl).trans (Qx ds)
noncomputable abbrev FP:=Env->Option (Dp×Env)
noncomputable def pO(f:FE):FP:=fun ρ=>match f ρ with
 |some (.val d,ρ1)=>some (.s d,ρ1)
 |some (.new (.lst ds),ρ1)=>some (.l (ds.map .s),ρ1)
 | some (.slot i,ρ1)=>(match ρ1[i]? with
  |some (.ow (.lst ds))=>some (.l (ds.map .s),ρ1.set i .un)
  |some (.sh d)=>some (.s d,ρ1)
  |_=>none)
 |_=>none
noncomputable def pAs:List FP->Env->Option (List Dp×Env)
 |[],ρ=>some ([],ρ)
 |f::r,ρ=>match f ρ with
  |none=>none
  |some (x,ρ1)=>match pAs r ρ1 with
   |none=>none
   |some (xs,ρ2)=>some (x::xs,ρ2)
noncomputable def pT(fs:List FP):FP:=fun ρ=>match pAs fs ρ with
 |none=>none
 |some (ps,ρ1)=>if ps.length<=SZ then some (.t ps,ρ1) else none
noncomputable abbrev FSP:=Env->Option Dp
noncomputable def eK(s:FS)(g:FSP):FSP:=fun ρ=>match s ρ with
 |some (.nx ρ1)=>g ρ1
 |_=>none
noncomputable def fnP(n m:Nat)(g:FSP)(ds:List Dat):Option Dp:=if ds.length=n then g (ds.map Cell.sh++Ds m .un) else none
noncomputable def shC:Cell->Cell
 |.ow d=>.sh d
 |c=>c
noncomputable def ua(ρ:Env):Env:=ρ.map shC
noncomputable abbrev FM:=Env->Dp->Option Out
noncomputable def see(j:Nat)(ρ:Env)(p:Dp):Env:=ua (ρ.set j (.sh p.dat))
noncomputable def mIf(j:Nat)(t:FT)(fs:FS)(g:FM):FM:=fun ρ p=>match t (see j ρ p) with
 |none=>none
 | some (true,_)=>(match fs ρ with
  |some (.nx _)=>none
  |o=>o)
 |some (false,_)=>g ρ p
noncomputable def wI(z:Int)(gs:FS):FM:=fun ρ p=>match p with
 | .t xs=>(match ixN xs.length z with
  |none=>none
  | some m=>(match xs[m]? with
   |some (.l _)=>gs ρ
   |_=>none))
 |_=>none
noncomputable def B3(gs:FS):FM:=fun ρ _=>gs ρ
end Dm
namespace Br
open PySem PySem.Spec PyProof.Rows L2
mutual
inductive aZ(N:Addr->Prop)(H0 H:Hp):V->Dm.Dp->List Addr->Prop
 |s {v:V} {d:Dat}:Rep H0 v d->aZ N H0 H v (.s d) []
 |l {a:Addr} {vs:List V} {ps:List Dm.Dp} {fp:List Addr}:N a->H a=some (.lst vs)->aB N H0 H vs ps fp->aZ N H0 H (.ref a) (.l ps) (a::fp)
 |t {a:Addr} {vs:List V} {ps:List Dm.Dp} {fp:List Addr}:N a->H a=some (.tup vs)->aB N H0 H vs ps fp->aZ N H0 H (.ref a) (.t ps) fp
inductive aB(N:Addr->Prop)(H0 H:Hp):List V->List Dm.Dp->List Addr->Prop
 |nil:aB N H0 H [] [] []
 |cons {v:V} {p:Dm.Dp} {f:List Addr} {vs:List V} {ps:List Dm.Dp} {fp:List Addr}:aZ N H0 H v p f->aB N H0 H vs ps fp->aB N H0 H (v::vs) (p::ps) (f++fp)
end
section
variable{N N':Addr->Prop}{H0 H H0' H':Hp}
mutual
theorem aZ.mono(s:aj H0 H0')(kn:∀a,N a->N' a)(kt:∀a vs,N a->H a=some (.tup vs)->H' a=some (.tup vs)):∀{v:V} {p:Dm.Dp} {fp:List Addr},aZ N H0 H v p fp->(∀a∈fp,H' a=H a)->aZ N' H0' H' v p fp
 |_,_,_,.s r,_=>.s (r.mono s)
 |_,_,_,.l n h r,k=>.l (kn _ n) ((k _ O9).trans h) (aB.mono s kn kt r fun b hb=>k b (Dk _ hb))
 |_,_,_,.t n h r,k=>.t (kn _ n) (kt _ _ n h) (aB.mono s kn kt r k)
theorem aB.mono(s:aj H0 H0')(kn:∀a,N a->N' a)(kt:∀a vs,N a->H a=some (.tup vs)->H' a=some (.tup vs)):∀{vs:List V} {ps:List Dm.Dp} {fp:List Addr},aB N H0 H vs ps fp->(∀a∈fp,H' a=H a)->aB N' H0' H' vs ps fp
 |_,_,_,.nil,_=>.nil
 |_,_,_,.cons h r,k=>.cons (aZ.mono s kn kt h fun a ha=>k a (PK _ ha)) (aB.mono s kn kt r fun a ha=>k a (PF _ ha))
end
mutual
theorem aZ.fpN:∀{v:V} {p:Dm.Dp} {fp:List Addr},aZ N H0 H v p fp->∀a∈fp,N a/\∃xs,H a=some (.lst xs)
 |_,_,_,.s _,_,h=>by cases h
 |_,_,_,.l n h r,a,ha=>by
  rcases Pk.mp ha with rfl | ha
  ·exact⟨n,_,h⟩
  ·exact aB.fpN r a ha
 |_,_,_,.t n h r,a,ha=>aB.fpN r a ha
theorem aB.fpN:∀{vs:List V} {ps:List Dm.Dp} {fp:List Addr},aB N H0 H vs ps fp->∀a∈fp,N a/\∃xs,H a=some (.lst xs)
 |_,_,_,.nil,_,h=>by cases h
 |_,_,_,.cons h r,a,ha=>(Pp.mp ha).elim (aZ.fpN h a) (aB.fpN r a)
end
mutual
theorem aZ.rep(s:aj H0 H0')(k:∀a o,N a->H a=some o->H0' a=some o):∀{v:V} {p:Dm.Dp} {fp:List Addr},aZ N H0 H v p fp->Rep H0' v p.dat
 |_,_,_,.s r=>r.mono s
 |_,_,_,.l n h r=>.lst (.inl (k _ _ n h)) (aB.rep s k r)
 |_,_,_,.t n h r=>.tup (k _ _ n h) (aB.rep s k r)
theorem aB.rep(s:aj H0 H0')(k:∀a o,N a->H a=some o->H0' a=some o):∀{vs:List V} {ps:List Dm.Dp} {fp:List Addr},aB N H0 H vs ps fp->av H0' vs (Dm.Dp.ni ps)
 |_,_,_,.nil=>.nil
 |_,_,_,.cons h r=>.cons (aZ.rep s k h) (aB.rep s k r)
end
theorem aB.lY:∀{vs:List V} {ds:List Dat},av H0 vs ds->aB N H0 H vs (ds.map .s) []
 |_,_,.nil=>.nil
 |_,_,.cons h r=>.cons (.s h) (aB.lY r)
theorem aB.get:∀{vs:List V} {ps:List Dm.Dp} {fp:List Addr} {i:Nat} {p:Dm.Dp},aB N H0 H vs ps fp->ps[i]?=some p->∃v f,vs[i]?=some v/\aZ N H0 H v p f/\∀a∈f,a∈fp
 |_,_,_,_,_,.nil,e=>by simp at e
 |_,_,_,0,_,.cons h _,e=>by simp at e;subst e;exact⟨_,_,rfl,h,fun a ha=>PK _ ha⟩
 |_,_,_,i+1,_,.cons _ r,e=>by obtain⟨v,f,h1,h2,h3⟩:=aB.get (i:=i) r (by simpa using e);exact⟨v,f,by simpa using h1,h2,fun a ha=>PF _ (h3 a ha)⟩
theorem aB.length:∀{vs:List V} {ps:List Dm.Dp} {fp:List Addr},aB N H0 H vs ps fp->vs.length=ps.length
 |_,_,_,.nil=>rfl
 |_,_,_,.cons _ r=>by rw[PL,PL,aB.length r]
end
theorem ay.i_{H0 H:Hp}{σ:L2.St}{ρ:Dm.Env}{a:Addr}{vs:List V}(st:ay H0 H σ ρ)(h:H a=some (.tup vs)):¬af σ ρ a:=fun⟨i,d,h1,h2⟩=>by
 obtain⟨b,q,n,w⟩:=st.ow i d h1;rw[h2]at q;cases q;cases d with
 |lst ds=>obtain⟨xs,y,_⟩:=w;rw[h]at y;cases y
 |dct ks ds=>obtain⟨xs,y,_⟩:=w;rw[h]at y;cases y
 |dcp ks ds=>obtain⟨xs,y,_⟩:=w;rw[h]at y;cases y
 |_=>exact w
theorem aZ.est{N:Addr->Prop}{σ:L2.St}{ρ ρ':Dm.Env}{H0 H H0' H':Hp}{v:V}{p:Dm.Dp}{fp:List Addr}(st:ay H0 H σ ρ)(t:ESt σ ρ H0 H ρ' H0' H')(r:aZ N H0 H v p fp)(k:∀a∈fp,H0 a=none/\¬af σ ρ a) :
  aZ N H0' H' v p fp/\∀a∈fp,H0' a=none/\¬af σ ρ' a:=by
 refine⟨r.mono t.stp.s0 (fun _ n=>n) (fun a vs _ h=>t.stp.s1 a _ h (st.i_ h)) fun a ha=>?_,fun a ha=>?_⟩
 ·obtain⟨_,xs,h⟩:=r.fpN a ha;rw[(t.cN h (k a ha).1 (k a ha).2).1,h]
 ·obtain⟨_,xs,h⟩:=r.fpN a ha;exact(t.cN h (k a ha).1 (k a ha).2).2
def gw(σ:L2.St)(ρ:Dm.Env)(H:Hp)(a:Addr):Prop:=H a=none\/af σ ρ a
def bB(σ:L2.St)(ρ:Dm.Env)(H0:Hp)(fp:List Addr):Prop:=fp.Nodup/\∀a∈fp,H0 a=none/\¬af σ ρ a
def tDp(f:Dm.FP):TE:=fun σ H Q=>∃H0 ρ p ρ',ay H0 H σ ρ/\f ρ=some (p,ρ')/\∀v H0' H' fp,ESt σ ρ H0 H ρ' H0' H'->aZ (gw σ ρ H) H0' H' v p fp->bB σ ρ' H0' fp->Q v H'
def B4(fs:List Dm.FP):TA:=fun σ H Q=>∃H0 ρ ps ρ',ay H0 H σ ρ/\Dm.pAs fs ρ=some (ps,ρ')/\∀vs H0' H' fp,ESt σ ρ H0 H ρ' H0' H'->aB (gw σ ρ H) H0' H' vs ps fp->bB σ ρ' H0' fp->Q vs H'
noncomputable abbrev DP(X:Cx)(e:Expr)(f:Dm.FP):Prop:=PE X e (tDp f)
noncomputable abbrev DPA(X:Cx)(es:List Expr)(fs:List Dm.FP):Prop:=PA X es (B4 fs)
section
variable{σ:L2.St}{H:Hp}{Q:VK}
theorem Ot{f:FE}(h:tDp (Dm.pO f) σ H Q):tD f σ H Q:=by
 obtain⟨H0,ρ,p,ρ',st,e,k⟩:=h;unfold Dm.pO at e;split at e
 ·rename_i d ρ1 e1;cases e;exact⟨H0,ρ,_,_,st,e1,fun v H0' H' t r=>k v H0' H' [] t (.s r) ⟨Rr,fun a h=>by cases h⟩⟩
 ·rename_i ds ρ1 e1;cases e;refine⟨H0,ρ,_,_,st,e1,fun v H0' H' t r=>?_⟩;obtain⟨a,rfl,n,no,n0,xs,y,rs⟩:=r;refine k _ H0' H' [a] t (.l (.inl n) y (.lY rs)) ⟨by simp,fun b hb=>?_⟩;rw[Pn.mp hb];exact⟨n0,no⟩
 ·rename_i i ρ1 e1;split at e
  ·rename_i ds h1;cases e;refine⟨H0,ρ,_,_,st,e1,fun v H0' H' t r=>?_⟩;obtain⟨q,_⟩:=r;obtain⟨a,q',n0,xs,y,rs⟩:=t.st.ow i _ h1;rw[q]at q';cases q';have ow:af σ ρ1 a:=⟨i,_,h1,q⟩
   refine k _ H0' H' [a] ⟨t.st.mask i,t.stp,fun b z=>?_,fun j z=>trivial⟩ (.l (.inr (t.own a ow)) y (.lY rs)) ⟨by simp,fun b hb=>?_⟩
   ·obtain⟨j,d2,_,z1,z2⟩:=bU z;exact t.own b ⟨j,d2,z1,z2⟩
   ·rw[Pn.mp hb];refine⟨n0,fun z=>?_⟩;obtain⟨j,d2,hj,z1,z2⟩:=bU z;exact hj (t.st.dis j i d2 _ a z1 h1 z2 q)
  ·rename_i d h1;cases e;refine⟨H0,ρ,_,_,st,e1,fun v H0' H' t r=>?_⟩;obtain⟨q,_⟩:=r;obtain⟨u,q',w⟩:=t.st.sh i d h1;rw[q]at q';cases q';exact k _ H0' H' [] t (.s w) ⟨Rr,fun a h=>by cases h⟩
  ·cases e
 ·cases e
theorem J0{Q:List V->Hp->Prop}(h:B4 [] σ H Q):kB σ H Q:=by obtain⟨H0,ρ,xs,ρ',st,e,k⟩:=h;cases e;exact k [] H0 H [] (.refl st) .nil ⟨Rr,fun a h=>by cases h⟩
theorem gw.back{σ:L2.St}{ρ ρ1:Dm.Env}{H0 H H1 Hb:Hp}(t:ESt σ ρ H0 H ρ1 H1 Hb){a:Addr}(n:gw σ ρ1 Hb a):gw σ ρ H a:=n.elim (fun z=>.inl (t.stp.gone z)) fun z=>.inr (t.own a z)
theorem bB.app{σ:L2.St}{ρ1 ρ2:Dm.Env}{H1 Hb H2 Hc:Hp}{f fp:List Addr}(hf:f.Nodup)(h1:∀a∈f,(∃o,Hb a=some o)/\¬af σ ρ1 a)(h2:∀a∈f,H2 a=none/\¬af σ ρ2 a)(g:bB σ ρ2 H2 fp)(gn:∀a∈fp,gw σ ρ1 Hb a):bB σ ρ2 H2 (f++fp):=by
 refine⟨P9.mpr ⟨hf,g.1,fun a ha b hb z=>?_⟩,fun a ha=>(Pp.mp ha).elim (h2 a) (g.2 a)⟩;subst z;obtain⟨⟨o,q1⟩,q2⟩:=h1 a ha;rcases gn a hb with z | z
 ·rw[q1]at z;cases z
 ·exact q2 z
theorem E7{f:Dm.FP}{fs:List Dm.FP}{Q:List V->Hp->Prop}(h:B4 (f::fs) σ H Q):dW (tDp f) (B4 fs) σ H Q:=by
 obtain⟨H0,ρ,xs,ρ',st,e,k⟩:=h;unfold Dm.pAs at e;split at e
 ·cases e
 rename_i x1 ρ1 e1;split at e
 ·cases e
 rename_i xs1 ρ2 e2;cases e;refine⟨H0,ρ,x1,ρ1,st,e1,fun v H1 Hb f1 t1 r1 g1=>⟨H1,ρ1,xs1,_,t1.st,e2,fun vs H2 Hc f2 t2 r2 g2=>?_⟩⟩;obtain⟨m1,m2⟩:=r1.est t1.st t2 g1.2;refine k (v::vs) H2 Hc (f1++f2) (t1.trans t2) (.cons m1 (r2.mono (aj.refl _) (fun a n=>gw.back t1 n) (fun _ _ _ h=>h) fun _ _=>rfl)) (bB.app (H1:=H1) (Hc:=Hc) g1.1 (fun a ha=>⟨?_,(g1.2 a ha).2⟩) m2 g2 fun a ha=>(r2.fpN a ha).1);obtain⟨_,ys,h⟩:=r1.fpN a ha;exact⟨_,h⟩
theorem J1{fs:List Dm.FP}(h:tDp (Dm.pT fs) σ H Q):zA (B4 fs) σ H Q:=by
 obtain⟨H0,ρ,x,ρ',st,e,k⟩:=h;unfold Dm.pT at e;split at e
 ·cases e
 rename_i ps ρ1 e1;split at e
 case isFalse=>cases e
 rename_i hz;cases e;refine⟨H0,ρ,ps,_,st,e1,fun vs H1 Hb fp t1 r1 g1=>⟨by rw[r1.length];exact jS hz,fun a ha=>?_⟩⟩;have g:=aG.iK (o:=HO.tup vs) t1.st.same ha;have t2:=ESt.grow t1.st g;refine k _ H1 _ fp (t1.trans t2) (.t (.inl (t1.stp.gone ha)) aq (r1.mono g.s0 (fun _ n=>n) (fun b us _ h=>g.s1 b _ h) fun b hb=>?_)) g1;obtain⟨_,xs,h⟩:=r1.fpN b hb;rw[g.s1 b _ h,h]
end
section
variable{X:Cx}{e:Expr}{es:List Expr}{f:FE}{fp:Dm.FP}{fps:List Dm.FP}{pos:Pos}
theorem p_o(h:DE X e f):DP X e (Dm.pO f):=PE.weak h fun _ _ _=>Ot
theorem Ou:DPA X [] []:=PA.weak dX fun _ _ _=>J0
theorem J2(h:DP X e fp)(r:DPA X es fps)(hs:starEach (e::es) X.env=(false,eval e X.env)::starEach es X.env:=by rfl):DPA X (e::es) (fp::fps):=PA.weak (bM h r hs) fun _ _ _=>E7
theorem My{x1}(h:DPA X es fps):DP X (.Tuple es x1 pos) (Dm.pT fps):=PE.weak (mw h) fun _ _ _=>J1
end
def spP(f:List Dat->Option Dm.Dp):Sp:=fun vs H Q _=>∃H0 ds p,aj H0 H/\av H0 vs ds/\f ds=some p/\∀v H0' H' fp,aG H0 H H0' H'->aZ (fun a=>H a=none) H0' H' v p fp->fp.Nodup->(∀a∈fp,H0' a=none)->Q v H'
def tDP(g:Dm.FSP):TS:=fun D σ H=>∃H0 ρ p,ay H0 H σ ρ/\g ρ=some p/\∀σ' ρ' v H0' H' fp,SSt σ ρ H0 H σ' ρ' H0' H'->aZ (gw σ ρ H) H0' H' v p fp->fp.Nodup->(∀a∈fp,H0' a=none)->D.rt v H'
noncomputable abbrev DQs(X:Cx)(st:List Stmt)(g:Dm.FSP):Prop:=PSs X st (tDP g)
section
variable{D:Ends}{σ:L2.St}{H:Hp}
section
variable{vs:List V}{ds:List Dat}{g:Dm.FSP}{n m:Nat}{N:List Str}{E:XK}{Q:VK}
theorem J3{s:FS}(h:tDP (Dm.eK s g) D σ H):gA (tDS s) (tDP g) D σ H:=by
 obtain⟨H0,ρ,p,st,e,k⟩:=h;unfold Dm.eK at e;split at e
 case h_2=>cases e
 rename_i ρ1 e1;refine⟨H0,ρ,_,st,e1,fun σ1 H1 Hb t1=>⟨H1,ρ1,p,t1.st,e,fun σ2 ρ2 v H2 Hc fp t2 r nd n=>k σ2 ρ2 v H2 Hc fp (t1.trans t2) ?_ nd n⟩⟩;exact r.mono (aj.refl _) (fun a z=>z.elim (fun z=>.inl (t1.stp.gone z)) fun z=>(t1.own a z).elim .inr .inl) (fun _ _ _ h=>h) fun _ _=>rfl
theorem j9{m i:Nat}{c:Dm.Cell}(h:(ds.map Dm.Cell.sh++Ds m .un)[i]?=some c):(∃d,c=.sh d/\ds[i]?=some d)\/c=.un:=by
 by_cases hi:i<ds.length
 ·rw[Pg (by simpa using hi),PD]at h;cases q:ds[i]? with
  |none=>rw[q]at h;cases h
  |some y=>rw[q]at h;cases h;exact .inl ⟨y,rfl,rfl⟩
 ·rw[PN (by simpa using hi),Qg]at h;split at h<;>cases h
  exact .inr rfl
theorem B5{H0 H:Hp}(hm:N.length=n+m)(hn:ds.length=n)(s:aj H0 H)(rs:av H0 vs ds) :
  ay H0 H (start N vs) (ds.map Dm.Cell.sh++Ds m .un)/\∀a,¬af (start N vs) (ds.map Dm.Cell.sh++Ds m .un) a:=by
 have hl:=rs.length;refine⟨⟨s,?_,fun i d h=>?_,fun i d h=>?_,fun i j d e a h1 h2 _ _=>?_⟩,fun a ⟨i,d,h1,_⟩=>?_⟩
 ·unfold L2.start;simp only[Pd,gV,Qi]
  lia
 ·rcases j9 h with⟨d',z,q⟩ | z
  ·cases z;obtain⟨v,hv,r⟩:=rs.get q;have hi:i<vs.length:=(Pa.mp hv).1;refine⟨v,?_,r⟩;unfold L2.start;rw[Pg (by simpa using hi),PD,hv];rfl
  ·cases z
 ·rcases j9 h with⟨d',z,q⟩ | z<;>cases z
 ·rcases j9 h1 with⟨d',z,q⟩ | z<;>cases z
 ·rcases j9 h1 with⟨d',z,q⟩ | z<;>cases z
theorem yu{H:Hp}(h:spP (Dm.fnP n m g) vs H Q E):vs.length=n:=by
 obtain⟨H0,ds,z,s,rs,e,k⟩:=h;unfold Dm.fnP at e;split at e
 ·rename_i hl;rw[rs.length];exact hl
 ·cases e
theorem HJ(hm:N.length=n+m)(h:spP (Dm.fnP n m g) vs H Q E) :
  tDP g { nx:=fun _ H'=>Q .non H',rt:=Q } (start N vs) H:=by
 obtain⟨H0,ds,p,s,rs,e,k⟩:=h;unfold Dm.fnP at e;split at e
 case isFalse=>cases e
 rename_i hl;obtain⟨st,no⟩:=B5 hm hl s rs;refine⟨H0,_,p,st,e,fun σ' ρ' v H0' H' fp t r nd n=>k v H0' H' fp ⟨t.stp.s0,fun a o e=>t.stp.s1 a o e (no a),fun a o e=>(t.stp.s2 a o e).imp id fun q=>q.elim id fun z=>absurd z (no a),t.st.same⟩ ?_ nd n⟩;exact r.mono (aj.refl _) (fun a z=>z.elim id fun z=>absurd z (no a)) (fun _ _ _ h=>h) fun _ _=>rfl
end
end
section
variable{X:Cx}{e:Expr}{st:Stmt}{xq:List Stmt}{fp:Dm.FP}{fs:FS}{g:Dm.FSP}{pos:Pos}
theorem fk(h1:DS X st fs)(h2:DQs X xq g):DQs X (st::xq) (Dm.eK fs g):=PSs.weak (a_ h1 h2) fun _ _ _=>J3
end
theorem ay.wJ{H0 H:Hp}{σ:L2.St}{ρ:Dm.Env}(st:ay H0 H σ ρ)(j:Nat)(v:Option V):ay H0 H (σ.set j v) (ρ.set j .un)/\∀a,af (σ.set j v) (ρ.set j .un) a->af σ ρ a:=by
 refine⟨⟨st.same,by rw[PR,PR];exact st.len,fun i d h=>?_,fun i d h=>?_,fun i i' d d' a h1 h2 h3 h4=>?_⟩,fun a ⟨i,d,h1,h2⟩=>?_⟩
 ·rcases aE h with⟨_,z⟩ | ⟨hij,h⟩
  ·cases z
  ·obtain⟨v,q,r⟩:=st.sh i d h;exact⟨v,by rw[gc (P4 hij)];exact q,r⟩
 ·rcases aE h with⟨_,z⟩ | ⟨hij,h⟩
  ·cases z
  ·obtain⟨v,q,r⟩:=st.ow i d h;exact⟨v,by rw[gc (P4 hij)];exact q,r⟩
 ·rcases aE h1 with⟨_,z⟩ | ⟨q1,h1⟩
  ·cases z
  rcases aE h2 with⟨_,z⟩ | ⟨q2,h2⟩
  ·cases z
  rw[gc (P4 q1)]at h3;rw[gc (P4 q2)]at h4;exact st.dis i i' d d' a h1 h2 h3 h4
 ·rcases aE h1 with⟨_,z⟩ | ⟨hij,h1⟩
  ·cases z
  ·rw[gc (P4 hij)]at h2;exact⟨i,d,h1,h2⟩
structure MS(j:Nat)(σs:L2.St)(ρs:Dm.Env)(H0s Hs:Hp)(σ:L2.St)(ρ:Dm.Env)(H0 H:Hp)(p:Dm.Dp):Prop where
 st:ay H0 H σ ρ
 stp:Stp (af σs ρs) H0s Hs H0 H
 own:∀a,af σ ρ a->af σs ρs a\/Hs a=none
 fx:σ[0]?=σs[0]?
 ex:∃v fp,σ[j]?=some (some v)/\aZ (fun a=>Hs a=none) H0 H v p fp/\bB σ ρ H0 fp
section
variable{j:Nat}{σs:L2.St}{ρs:Dm.Env}{H0s Hs:Hp}{σ:L2.St}{ρ ρ':Dm.Env}{H0 H H0' H':Hp}{p:Dm.Dp}
theorem MS.sst(n:MS j σs ρs H0s Hs σ ρ H0 H p):SSt σs ρs H0s Hs σ ρ H0 H:=⟨n.st,n.stp,n.own,n.fx⟩
theorem MS.est(n:MS j σs ρs H0s Hs σ ρ H0 H p)(t:ESt σ ρ H0 H ρ' H0' H'):MS j σs ρs H0s Hs σ ρ' H0' H' p:=by obtain⟨v,fp,h1,h2,h3⟩:=n.ex;obtain⟨m1,m2⟩:=h2.est n.st t h3.2;exact⟨t.st,n.stp.trans t.stp n.own,fun a z=>n.own a (t.own a z),n.fx,v,fp,h1,m1,h3.1,m2⟩
theorem MS.grow(n:MS j σs ρs H0s Hs σ ρ H0 H p)(g:aG H0 H H0' H'):MS j σs ρs H0s Hs σ ρ H0' H' p:=n.est (.grow n.st g)
open Classical in
noncomputable def bor(H0 H:Hp)(N:Addr->Prop):Hp:=fun a=>match H0 a with
 |some o=>some o
 |none=>if N a then H a else none
theorem dj{N:Addr->Prop}:aj H0 (bor H0 H N):=fun a o e=>by unfold bor;rw[e]
theorem j_{N:Addr->Prop}(s:aj H0 H):aj (bor H0 H N) H:=fun a o e=>by
 unfold bor at e;split at e
 ·rename_i q;cases e;exact s _ _ q
 ·split at e
  ·exact e
  ·cases e
theorem ja{N:Addr->Prop}(s:aj H0 H){a:Addr}{o:HO}(n:N a)(h:H a=some o):bor H0 H N a=some o:=by
 unfold bor;split
 ·rename_i o' q;rw[<- h];exact(s _ _ q).symm
 ·rw[if_pos n];exact h
def Look(Hs:Hp)(σ:L2.St)(ρ:Dm.Env)(a:Addr):Prop:=Hs a=none\/af σ ρ a
theorem fU{j:Nat}{σ:L2.St}{ρ:Dm.Env}{p:Dm.Dp}{a:Addr}:¬af σ (Dm.see j ρ p) a:=fun⟨i,d,h1,_⟩=>by
 unfold Dm.see Dm.ua at h1;rw[PD]at h1;cases q:(ρ.set j (.sh p.dat))[i]? with
 |none=>rw[q]at h1;cases h1
 |some c=>rw[q]at h1;cases c<;>cases h1
theorem MS.see(n:MS j σs ρs H0s Hs σ ρ H0 H p):ay (bor H0 H (Look Hs σ ρ)) H σ (Dm.see j ρ p):=by
 obtain⟨v,fp,h1,h2,h3⟩:=n.ex;refine⟨j_ n.st.same,by unfold Dm.see Dm.ua;rw[gV,PR];exact n.st.len,fun i d h=>?_,fun i d h=>?_,fun i i' d d' a z1 z2 z3 z4=>?_⟩
 ·unfold Dm.see Dm.ua at h;rw[PD]at h;cases q:(ρ.set j (.sh p.dat))[i]? with
  |none=>rw[q]at h;cases h
  |some c=>
   rw[q]at h;rcases aE q with⟨rfl,rfl⟩ | ⟨_,q⟩
   ·cases h;exact⟨v,h1,h2.rep dj fun a o z w=>ja n.st.same (.inl z) w⟩
   ·cases c with
    |un=>cases h
    |sh d'=>cases h;obtain⟨u,w1,w2⟩:=n.st.sh i d q;exact⟨u,w1,w2.mono dj⟩
    |ow d'=>
     cases h;obtain⟨a,w1,w2,w3⟩:=n.st.ow i d q;have lk:Look Hs σ ρ a:=.inr ⟨i,d,q,w1⟩;refine⟨_,w1,?_⟩;cases d with
     |lst ds=>obtain⟨xs,y,rs⟩:=w3;exact .lst (.inl (ja n.st.same lk y)) (rs.mono dj)
     |dct ks ds=>obtain⟨xs,y,k,rs⟩:=w3;exact .dct (ja n.st.same lk y) k (rs.mono dj)
     |dcp ks ds=>obtain⟨xs,y,k,rs⟩:=w3;exact .dcp (ja n.st.same lk y) (k.mono dj) (rs.mono dj)
     |_=>exact w3.elim
 ·exact(fU (σ:=Ds (i+1) (some (V.ref 0))) (a:=0) ⟨i,d,h,by rw[Qg,if_pos (Nat.lt_succ_self i)]⟩).elim
 ·exact(fU ⟨i,d,z1,z3⟩).elim
theorem MS.seen(n:MS j σs ρs H0s Hs σ ρ H0 H p){Hb:Hp}(t:ESt σ (Dm.see j ρ p) Hb H ρ' H0' H'):aG H0 H H0 H':=
 ⟨aj.refl _,fun a o e=>t.stp.s1 a o e fU,fun a o e=>.inr e,n.st.same.trans fun a o e=>t.stp.s1 a o e fU⟩
end
def tDM(j:Nat)(g:Dm.FM):TS:=fun D σ H=>∃σs ρs H0s Hs H0 ρ p o,MS j σs ρs H0s Hs σ ρ H0 H p/\g ρ p=some o/\mR D σs ρs H0s Hs o
noncomputable abbrev DMs(X:Cx)(j:Nat)(st:List Stmt)(g:Dm.FM):Prop:=PSs X st (tDM j g)
section
variable{D:Ends}{σ:L2.St}{H:Hp}{j:Nat}
theorem J4{gs:FS}(h:tDM j (Dm.B3 gs) D σ H):tDS gs D σ H:=by obtain⟨σs,ρs,H0s,Hs,H0,ρ,p,o,n,e,k⟩:=h;exact⟨H0,ρ,o,n.st,e,k.pre n.sst⟩
theorem Mz{t:FT}{fs:FS}{g:Dm.FM}(h:tDM j (Dm.mIf j t fs g) D σ H):gA (zm (tDT t) (tDS fs) sV) (tDM j g) D σ H:=by
 obtain⟨σs,ρs,H0s,Hs,H0,ρ,p,o,n,e,k⟩:=h;unfold Dm.mIf at e;split at e
 ·cases e
 ·rename_i ρ1 e1;refine⟨_,_,true,ρ1,n.see,e1,fun H1 Hb t1=>?_⟩;dsimp only;rw[if_pos rfl];have n1:=n.grow (n.seen t1);have k1:=k.pre n1.sst;split at e
  ·cases e
  ·rename_i hn;refine⟨H0,ρ,o,n1.st,e,?_⟩;cases o with
   |nx ρ'=>exact(hn ρ' e).elim
   |bk ρ'=>exact k1
   |ct ρ'=>exact k1
   |ret z ρ'=>exact k1
 ·rename_i ρ1 e1;refine⟨_,_,false,ρ1,n.see,e1,fun H1 Hb t1=>?_⟩;dsimp only;rw[if_neg Px];exact⟨σs,ρs,H0s,Hs,H0,ρ,p,o,n.grow (n.seen t1),e,k⟩
theorem MS.wr{σs:L2.St}{ρs:Dm.Env}{H0s Hs:Hp}{ρ:Dm.Env}{H0:Hp}{p:Dm.Dp}(n:MS j σs ρs H0s Hs σ ρ H0 H p){a:Addr}(h1:Hs a=none)(h2:H0 a=none)(h3:¬af σ ρ a)(o:HO):SSt σs ρs H0s Hs σ ρ H0 (upd H a o):=
 ⟨n.st.aside h2 h3,n.stp.aside h1,n.own,n.fx⟩
theorem J5{K:O8}{i:Int}{gs:FS}(h:tDM j (Dm.wI i gs) D σ H):gA (k9 (Jk K "list" vY (tOp (zC K) (gm j) (tC (.int i))))) (tDS gs) D σ H:=by
 obtain⟨σs,ρs,H0s,Hs,H0,ρ,p,o,n,e,k⟩:=h;unfold Dm.wI at e;split at e
 case h_2=>cases e
 rename_i ps;split at e
 ·cases e
 rename_i m em;split at e
 case h_2=>cases e
 rename_i rows hi;obtain⟨v,fp,h1,h2,h3⟩:=n.ex;cases h2 with
 |t hN ha rs=>
  rename_i a vs;obtain⟨u,f,hu,ru,hf⟩:=rs.get hi;cases ru with
  |l hNb hb rb=>
   rename_i b us fb;obtain⟨z1,z2⟩:=h3.2 b (hf b O9);refine⟨_,h1,a,vs,i,.ref b,rfl,rfl,.of ha,?_,.inl ⟨rfl,us,.inl (.inl hb)⟩,b,us,rfl,rfl,hb,?_⟩
   ·show (L2.ixN vs.length i).bind (fun j=>vs[j]?)=_;rw[<- rB,rs.length,em];exact hu
   ·have t:=n.wr hNb z1 z2 (.lst []);exact⟨H0,ρ,o,t.st,e,k.pre t⟩
end
section
variable{X:Cx}{e c:Expr}{xq:List Stmt}{fs gs:FS}{g:Dm.FM}{pos:Pos}{j:Nat}
theorem MA(h:DSs X xq gs):DMs X j xq (Dm.B3 gs):=PSs.weak h fun _ _ _=>J4
theorem MB{t:FT}{x:List Stmt}(ht:DT X c t)(ha:DSs X x fs)(hr:DMs X j xq g):DMs X j (.If c x [] pos::xq) (Dm.mIf j t fs g):=PSs.weak (a_ (sW ht ha lT) hr) fun _ _ _=>Mz
theorem MC{x:Str}{px sp ap cp ip:Pos}{i:Int}{jc}(hr:DSs X xq gs)(hi:X.N[j]?=some x:=by rfl)(hv:Vis X.env.scope x:=by trivial)(hd:(x == ("__debug__" : Str))=false:=by decide)
  (HQ:(x == ("__classdict__" : Str))=false:=by decide) (Cs:eN (.Constant (.int i) jc ip):=by intro _ _;rfl) (CA:attributeBase (.Subscript (.Name x px) (.Constant (.int i) jc ip) sp) "clear" X.env (eval (.Subscript (.Name x px) (.Constant (.int i) jc ip) sp) X.env)=eval (.Subscript (.Name x px) (.Constant (.int i) jc ip) sp) X.env:=by rfl)
  (Cz:(ap.endLine == cp.line)=true:=by rfl) (hsw:swapsWith (.Call (.Attribute (.Subscript (.Name x px) (.Constant (.int i) jc ip) sp) "clear" ap) [] [] cp) none pos.line X.env=pure false:=by rfl) :
  DMs X j (.Expr (.Call (.Attribute (.Subscript (.Name x px) (.Constant (.int i) jc ip) sp) "clear" ap) [] [] cp) pos::xq) (Dm.wI i gs):=
 PSs.weak (a_ (fO (AW Qy PySem.F.slot_list_clear PySem.F.type_list_clear tE (mD mE (bR hi hv hd HQ) l9 Cs) CA Cz) hsw) hr) fun _ _ _=>J5
end
end Br
namespace Dm
mutual
noncomputable def kc:Dat->Bool
 |.tup xs=>qf xs
 |.lst _=>false
 |.dct _ _=>false
 |.dcp _ _=>false
 |.exc _=>false
 |.dh _ _=>false
 |_=>true
noncomputable def qf:List Dat->Bool
 |[]=>true
 |x::r=>kc x&&qf r
end
mutual
noncomputable def aW:Dp->Bool
 |.s d=>kc d
 |.l xs=>aO xs
 |.t xs=>aO xs
noncomputable def aO:List Dp->Bool
 |[]=>true
 |x::r=>aW x&&aO r
end
noncomputable def d9(bd:FB)(el:FP):List Dat->Env->List Dp->Option (List Dp×Env)
 |[],ρ,Cr=>some (Cr,ρ)
 |d::r,ρ,Cr=>match bd d ρ with
  |none=>none
  |some ρ1=>match el ρ1 with
   |none=>none
   |some (p,ρ2)=>d9 bd el r ρ2 (Cr++[p])
noncomputable def dg(it:FI)(own:Nat)(bd:FB)(el:FP):FP:=fun ρ=>match it ρ with
 |none=>none
 | some (ds,ρ1)=>if ds.length≤SZ then (match d9 bd el ds (ρ1++Ds own .un) [] with
  |none=>none
  |some (ps,ρ2)=>some (.l ps,ρ2.take ρ1.length)) else none
inductive OM where
 |nx (ρ:Env) (p:Dp)
 |rt (d:Dat) (ρ:Env)
noncomputable abbrev FC:=Env->Dp->Option OM
noncomputable def cNx:FC:=fun ρ p=>some (.nx ρ p)
noncomputable def wK(s u:FC):FC:=fun ρ p=>match s ρ p with
 |some (.nx ρ1 p1)=>u ρ1 p1
 |o=>o
noncomputable def cIf(j:Nat)(t:FT)(a b:FC):FC:=fun ρ p=>match t (see j ρ p) with
 |none=>none
 |some (true,_)=>a ρ p
 |some (false,_)=>b ρ p
noncomputable def cRt(j:Nat)(e:FE):FC:=fun ρ p=>match e (see j ρ p) with
 |some (.val d,_)=>if dY d then none else some (.rt d ρ)
 |_=>none
noncomputable def iU(bd:FB)(body:FC):List Dat->FC
 |[],ρ,p=>some (.nx ρ p)
 |d::q,ρ,p=>match bd d ρ with
  |none=>none
  |some ρ1=>match body ρ1 p with
   |some (.nx ρ2 p2)=>iU bd body q ρ2 p2
   |o=>o
noncomputable def nj(j i:Nat)(f:FP):FC:=fun ρ p=>if i=0\/i=j then none else match f (see j ρ p) with
 |none=>none
 |some (q,_)=>if aW q then some (.nx (ρ.set i (.sh q.dat)) p) else none
noncomputable def pF(s:FC)(g:FM):FM:=fun ρ p=>match s ρ p with
 |some (.nx ρ1 p1)=>g ρ1 p1
 |some (.rt d ρ1)=>some (.ret (.val d) ρ1)
 |none=>none
end Dm
namespace Br
open PySem PySem.Spec PyProof.Rows L2
section
variable{is:List Nat}{bd:Dm.FB}{H0 H1:Hp}{σ:L2.St}{g:TG}
theorem aB.snoc{N:Addr->Prop}{H0 H:Hp}{w:V}{q:Dm.Dp}{f:List Addr}(r:aZ N H0 H w q f):∀{vs:List V} {ps:List Dm.Dp} {fp:List Addr},aB N H0 H vs ps fp->aB N H0 H (vs++[w]) (ps++[q]) (fp++f)
 |_,_,_,.nil=>by have:=aB.cons r (aB.nil (N:=N) (H0:=H0) (H:=H));rw[PY]at this;exact this
 |_,_,_,.cons h t=>by have:=aB.cons h (aB.snoc r t);rw[<- QB]at this;exact this
theorem B6{own:Nat}{el:Dm.FP}{Q:VK}{H00 Hb:Hp}{ρ1 ρ2:Dm.Env}{ds:List Dat}{ps:List Dm.Dp}{J:It}(hb:BD is g bd)(hl:∀i∈is,σ.length<=i)
  (st1:ay H00 Hb σ ρ1) (jw:JW J H00 ds) (hsz:ds.length<=Dm.SZ) (e2:Dm.d9 bd el ds (ρ1++Ds own .un) []=some (ps,ρ2)) (D:Addr) (hD:Hb D=none)
  (k:∀H0' H' fp,ESt σ ρ1 H00 Hb (ρ2.take ρ1.length) H0' H'->aZ (gw σ ρ1 Hb) H0' H' (.ref D) (.l ps) fp->bB σ (ρ2.take ρ1.length) H0' fp->Q (.ref D) H') :
  ∃W:Nat->Nat->L2.St->Hp->Prop,(∃m,W 0 m (σ++Ds own none) (upd Hb D (.lst [])))/\∀i m σ' H',W i m σ' H' ->
  (J.stop i H'∧Q (.ref D) H')∨(J.go i H'∧∀ x H2,J.yld i H' x H2→g x σ' H2 fun σ2 H3=>mU σ2 H3 fun b H4=>if b=true
   then tDp el σ2 H4 fun y H5=>∃Cr,H5 D=some (.lst Cr)/\Cr.length<sizeLine/\∃m',m'<m/\W (i+1) m' σ2 (upd H5 D (.lst (Cr++[y])))
   else ∃m',m'<m/\W (i+1) m' σ2 H4):=by
 have noD:¬af σ ρ1 D:=st1.bg hD;refine ⟨fun i m σ' H'=>∃ (H0c:Hp) (ρc:Dm.Env) (pa:List Dm.Dp) (fp:List Addr),ay H0c H' σ' ρc∧aj H00 H0c∧m=ds.length-i∧i≤ds.length∧Dm.d9 bd el (ds.drop i) ρc pa=some (ps,ρ2) ∧
  aZ (gw σ ρ1 Hb) H0c H' (.ref D) (.l pa) fp/\pa.length=i/\bB σ' ρc H0c fp/\Stp (af σ ρ1) H00 Hb H0c H'/\(∀j,j<σ.length->σ'[j]?=σ[j]?)/\(∀a,af σ' ρc a->af σ ρ1 a),
  ⟨ds.length,H00,ρ1++Ds own .un,[],[D],(st1.aside (st1.same.free hD) noD).ext own,aj.refl _,by simp,Qf _,by simpa using e2,.l (.inl hD) aq .nil,rfl,⟨by simp,fun a ha=>?_⟩,(Stp.refl _ _ _).aside hD,
   fun j hj=>Pg hj,fun a z=>cP st1 z⟩,?_⟩
 ·rw[Pn.mp ha];exact⟨st1.same.free hD,fun z=>noD (cP st1 z)⟩
 rintro i m σ' H' ⟨H0c,ρc,pa,fp,sc,s00,rfl,hi,ec,ra,Cs,fr,sp,hσ,ho⟩;obtain⟨js,jg⟩:=jw H0c H' s00 sc.same;by_cases HN:i<ds.length
 ·have hd:ds[i]?=some ds[i]:=by simp[HN]
  obtain⟨g1,g2⟩:=jg i ds[i] hd;rw[Ql HN]at ec;unfold Dm.d9 at ec;refine .inr ⟨g1,fun y H2 yy=>?_⟩;obtain⟨H0',gr,rx⟩:=g2 y H2 yy;split at ec
  ·cases ec
  rename_i ρ3 e3;split at ec
  ·cases ec
  rename_i p5 ρ5 e5;have t2:=ESt.grow sc gr;obtain⟨ra2,fr2⟩:=ra.est sc t2 fr.2;refine hb H0' H2 σ' ρc ρ3 y ds[i] _ t2.st rx e3 fun σ3 st3 o3 k3 d3 _=>?_;unfold mU;dsimp only;rw[if_pos rfl];refine⟨H0',ρ3,p5,ρ5,st3,e5,fun v H5 Hc f5 t5 r5 g5=>?_⟩;have fr3:∀a∈fp,H0' a=none/\¬af σ3 ρ3 a:=fun a ha=>⟨(fr2 a ha).1,fun z=>(fr2 a ha).2 (o3 a z)⟩;obtain⟨ra5,fr5⟩:=ra2.est st3 t5 fr3;have sp3:Stp (af σ ρ1) H00 Hb H0' H2:=sp.trans t2.stp fun a z=>.inl (ho a z);have sp5:Stp (af σ ρ1) H00 Hb H5 Hc:=sp3.trans t5.stp fun a z=>.inl (ho a (o3 a z));have nw:∀a,gw σ3 ρ3 H2 a->gw σ ρ1 Hb a:=fun a z=>z.elim (fun z=>.inl (sp3.gone z)) fun z=>.inr (ho a (o3 a z));have frA:bB σ3 ρ5 H5 (fp++f5):=bB.app (H1:=H0') (Hb:=H2) (Hc:=Hc) fr.1 (fun a ha=>⟨by obtain⟨_,xs,h⟩:=ra2.fpN a ha;exact⟨_,h⟩,(fr3 a ha).2⟩) fr5 g5 fun a ha=>(r5.fpN a ha).1;cases ra5 with
  |l nD hDc rs=>
   rename_i vs fq;obtain⟨z1,z2⟩:=fr5 D O9;have ndA:=frA.1;rw[QY]at ndA;obtain⟨nd1,nd2⟩:=Pj.mp ndA;refine⟨vs,hDc,?_,ds.length-(i+1),by lia,H5,ρ5,pa++[p5],D::(fq++f5),t5.st.aside z1 z2,(s00.trans gr.s0).trans t5.stp.s0,rfl,HN,ec,?_,by simp[Cs],frA,sp5.aside hD,fun j hj=>(k3 j fun z=>QN.mpr (hl j z) hj).trans (hσ j hj),fun a z=>ho a (o3 a (t5.own a z))⟩
   ·rw[rs.length,Cs];unfold Dm.SZ at hsz;exact Pq (Pq HN hsz) (by decide)
   ·refine .l nD aq ?_;have r5':aZ (gw σ ρ1 Hb) H5 Hc v p5 f5:=r5.mono (aj.refl _) nw (fun _ _ _ h=>h) fun _ _=>rfl;refine(rs.snoc r5').mono (aj.refl _) (fun _ n=>n) (fun a us _ h=>?_) fun a ha=>?_
    ·rw[ao fun z=>?_]
     ·exact h
     ·rw[z,hDc]at h;cases h
    ·exact ao fun z=>nd1 (z▸ha)
 ·have e':i=ds.length:=by lia
  subst e';rw[QX]at ec;cases ec;have sF:σ.length<=ρ2.length:=by rw[<- sc.len];refine QN.mp fun z=>?_;have q:=hσ σ'.length z;rw[PZ (Pb _),Py z]at q;cases q
  have tk:∀{j:Nat} {c:Dm.Cell},(ρ2.take ρ1.length)[j]?=some c->j<σ.length/\ρ2[j]?=some c:=fun {j c} h=>by
   have hj:j<ρ1.length:=by
    have:=(Pa.mp h).1;rw[P1]at this
    lia
   rw[QD hj]at h;exact⟨by rw[st1.len];exact hj,h⟩
  have own':∀a,af σ (ρ2.take ρ1.length) a->af σ' ρ2 a:=fun a ⟨j,d,h1,h2⟩=>by obtain⟨hj,h1⟩:=tk h1;exact⟨j,d,h1,(hσ j hj).trans h2⟩
  refine .inl ⟨js _ (Pb _),k H0c H' fp ⟨⟨sc.same,?_,fun j d h=>?_,fun j d h=>?_,fun j j' d d' a h1 h2 h3 h4=>?_⟩,sp,fun a z=>ho a (own' a z),fun j z=>trivial⟩ ra ⟨fr.1,fun a ha=>⟨(fr.2 a ha).1,fun z=>(fr.2 a ha).2 (own' a z)⟩⟩⟩
  ·rw[P1,<- st1.len];lia
  ·obtain⟨hj,h⟩:=tk h;obtain⟨v,q,r⟩:=sc.sh j d h;exact⟨v,(hσ j hj).symm.trans q,r⟩
  ·obtain⟨hj,h⟩:=tk h;obtain⟨v,q,r⟩:=sc.ow j d h;exact⟨v,(hσ j hj).symm.trans q,r⟩
  ·obtain⟨hj,h1⟩:=tk h1;obtain⟨hj',h2⟩:=tk h2;exact sc.dis j j' d d' a h1 h2 ((hσ j hj).trans h3) ((hσ j' hj').trans h4)
theorem E8{H:Hp}{Q:VK}{fi:Dm.FI}{own:Nat}{el:Dm.FP}(hb:BD is g bd)(hl:∀i∈is,σ.length<=i)(h:tDp (Dm.dg fi own bd el) σ H Q):tLC (tDI fi) own g mU (tDp el) σ H Q:=by
 obtain⟨H0,ρ,x,ρ',st,e,k⟩:=h;unfold Dm.dg at e;split at e
 ·cases e
 rename_i ds ρ1 e1;split at e
 case isFalse=>cases e
 rename_i hsz;split at e
 ·cases e
 rename_i ps ρ2 e2;cases e;refine⟨H0,ρ,ds,ρ1,st,e1,fun J H00 Hb t1 jw D hD=>B6 hb hl t1.st jw hsz e2 D hD fun H0' H' fp t2 r2 f2=>k _ H0' H' fp (t1.trans t2) (r2.mono (aj.refl _) (fun a n=>gw.back t1 n) (fun _ _ _ h=>h) fun _ _=>rfl) f2⟩
mutual
theorem Rep.z6(k:∀a vs,H0 a=some (.tup vs)->H1 a=some (.tup vs)):∀{v:V} {d:Dat},Rep H0 v d->Dm.kc d=true->Rep H1 v d
 |_,_,.non,_=>.non
 |_,_,.bl b,_=>.bl b
 |_,_,.int i,_=>.int i
 |_,_,.str x,_=>.str x
 |_,_,.tup h r,e=>.tup (k _ _ h) (av.z6 k r (by unfold Dm.kc at e;exact e))
 |_,_,.lst _ _,e=>by unfold Dm.kc at e;cases e
 |_,_,.dct _ _ _,e=>by unfold Dm.kc at e;cases e
 |_,_,.dcp _ _ _,e=>by unfold Dm.kc at e;cases e
 |_,_,.exc _,e=>by unfold Dm.kc at e;cases e
 |_,_,.dh _ _,e=>by unfold Dm.kc at e;cases e
 |_,_,.fn a,_=>.fn a
theorem av.z6(k:∀a vs,H0 a=some (.tup vs)->H1 a=some (.tup vs)):∀{vs:List V} {ds:List Dat},av H0 vs ds->Dm.qf ds=true->av H1 vs ds
 |_,_,.nil,_=>.nil
 |_,_,.cons h r,e=>by unfold Dm.qf at e;rw[Pu]at e;exact .cons (Rep.z6 k h e.1) (av.z6 k r e.2)
end
end
section
variable{X:Cx}{e HP iter tg:Expr}{es:List Expr}{fs:List FE}{fi:Dm.FI}{fp:Dm.FP}{bd:Dm.FB}{is:List Nat}{scope:Scope}{pos p:Pos}
theorem Ov(nm own:List Str)(hg:TGc X nm scope own tg is bd)(hi:DI X tg iter fi)(he:∀cl C s H fp',DP (aT X nm scope own cl C s H fp') HP fp)
  (hc:X.calm=true:=by rfl) (hk:scope.kind=.function:=by rfl) (hS:gO X.env.scope X.N nm scope=true:=by rfl) (hl:(is.all fun i=>decide (X.N.length<=i))=true:=by rfl) (hs:∀x,foldedSetIterable iter X.env x=pure x:=by intro _;rfl) :
  DP X (.ListComp HP [⟨tg,iter,[],0⟩] scope pos) (Dm.dg fi own.length bd fp):=by
 obtain⟨g,h1,h2⟩:=hg.ex;intro nC s σ H Q I h;exact rE hc (b7.of hS hk) hi h1 (fun cl C s H fp=>jV) he hs nC s σ H Q I (E8 h2 (fun i hi=>by rw[I.len];exact jY hl i hi) h)
end
def E9(D:Ends)(j:Nat)(σs:L2.St)(ρs:Dm.Env)(H0s Hs H0:Hp):Dm.OM->Prop
 |.nx ρ' p'=>∀σ' H0' H',MS j σs ρs H0s Hs σ' ρ' H0' H' p'->aj H0 H0'->D.nx σ' H'
 |.rt d ρ'=>∀σ' v H0' H' p',MS j σs ρs H0s Hs σ' ρ' H0' H' p'->Rep H0' v d->D.rt v H'
def tDC(j:Nat)(g:Dm.FC):TS:=fun D σ H=>∃σs ρs H0s Hs H0 ρ p o,MS j σs ρs H0s Hs σ ρ H0 H p/\g ρ p=some o/\E9 D j σs ρs H0s Hs H0 o
theorem E9.up{D:Ends}{j:Nat}{σs:L2.St}{ρs:Dm.Env}{H0s Hs H0 H1:Hp}{o:Dm.OM}(k:E9 D j σs ρs H0s Hs H0 o)(s:aj H0 H1):E9 D j σs ρs H0s Hs H1 o:=by
 cases o with
 |nx ρ' p'=>exact fun σ' H0' H' n q=>k σ' H0' H' n (s.trans q)
 |rt d ρ'=>exact k
noncomputable abbrev DC(X:Cx)(j:Nat)(st:Stmt)(g:Dm.FC):Prop:=PS X st (tDC j g)
noncomputable abbrev DCs(X:Cx)(j:Nat)(st:List Stmt)(g:Dm.FC):Prop:=PSs X st (tDC j g)
section
variable{j:Nat}{σs:L2.St}{ρs:Dm.Env}{H0s Hs:Hp}{σ:L2.St}{ρ ρ':Dm.Env}{H0 H H0' H':Hp}{p q:Dm.Dp}
theorem MS.bind(n:MS j σs ρs H0s Hs σ ρ H0 H p){σ':L2.St}{ρ':Dm.Env}(st:ay H0 H σ' ρ')(o:∀a,af σ' ρ' a->af σ ρ a)(hj:σ'[j]?=σ[j]?)(h0:σ'[0]?=σ[0]?):MS j σs ρs H0s Hs σ' ρ' H0 H p:=by obtain⟨v,fp,h1,h2,h3⟩:=n.ex;exact⟨st,n.stp,fun a z=>n.own a (o a z),h0.trans n.fx,v,fp,hj.trans h1,h2,h3.1,fun a ha=>⟨(h3.2 a ha).1,fun z=>(h3.2 a ha).2 (o a z)⟩⟩
theorem MS.set(n:MS j σs ρs H0s Hs σ ρ H0 H p){i:Nat}{v:V}{d:Dat}(hi:i≠0)(hj:i≠j)(r:Rep H0 v d):MS j σs ρs H0s Hs (σ.set i (some v)) (ρ.set i (.sh d)) H0 H p:=
 n.bind (n.st.mS r) (fun _ z=>cE z) (gc hj) (gc hi)
open Classical in
noncomputable def cpy(Hs H0 H H0' H':Hp):Hp:=fun a=>match H0 a with
 |some o=>some o
 |none=>if H a=none then H' a else match H0' a with
  |some (.tup vs)=>if Hs a=none then some (.tup vs) else none
  |_=>none
theorem fm:aj H0 (cpy Hs H0 H H0' H'):=fun a o e=>by unfold cpy;rw[e]
theorem lZ(s:aj H0 H){a:Addr}(h:H a=none):cpy Hs H0 H H0' H' a=H' a:=by unfold cpy;rw[s.free h];dsimp only;rw[if_pos h]
theorem cS{a:Addr}{o:HO}(e:cpy Hs H0 H H0' H' a=some o):H0 a=some o\/(H a=none/\H' a=some o)\/(Hs a=none/\H0' a=some o/\∃vs,o=.tup vs):=by
 unfold cpy at e;split at e
 ·rename_i q;cases e;exact .inl q
 ·split at e
  ·rename_i h;exact .inr (.inl ⟨h,e⟩)
  ·split at e
   ·rename_i vs q;split at e
    ·rename_i h;cases e;exact .inr (.inr ⟨h,q,vs,rfl⟩)
    ·cases e
   ·cases e
mutual
theorem aZ.copy{N:Addr->Prop}(kn:∀a o,N a->H' a=some o->cpy Hs H0 H H0' H' a=some o)(kt:∀a vs,H0' a=some (.tup vs)->cpy Hs H0 H H0' H' a=some (.tup vs)):∀{v:V} {p:Dm.Dp} {fp:List Addr},aZ N H0' H' v p fp->Dm.aW p=true->Rep (cpy Hs H0 H H0' H') v p.dat
 |_,_,_,.s r,e=>by unfold Dm.aW at e;exact Rep.z6 kt r e
 |_,_,_,.l n h r,e=>.lst (.inl (kn _ _ n h)) (aB.copy kn kt r (by unfold Dm.aW at e;exact e))
 |_,_,_,.t n h r,e=>.tup (kn _ _ n h) (aB.copy kn kt r (by unfold Dm.aW at e;exact e))
theorem aB.copy{N:Addr->Prop}(kn:∀a o,N a->H' a=some o->cpy Hs H0 H H0' H' a=some o)(kt:∀a vs,H0' a=some (.tup vs)->cpy Hs H0 H H0' H' a=some (.tup vs)):∀{vs:List V} {ps:List Dm.Dp} {fp:List Addr},aB N H0' H' vs ps fp->Dm.aO ps=true->av (cpy Hs H0 H H0' H') vs (Dm.Dp.ni ps)
 |_,_,_,.nil,_=>.nil
 |_,_,_,.cons h r,e=>by unfold Dm.aO at e;rw[Pu]at e;exact .cons (aZ.copy kn kt h e.1) (aB.copy kn kt r e.2)
end
theorem MS.keep(n:MS j σs ρs H0s Hs σ ρ H0 H p)(t:ESt σ (Dm.see j ρ p) (bor H0 H (Look Hs σ ρ)) H ρ' H0' H'){v:V}{fq:List Addr}(r:aZ (gw σ (Dm.see j ρ p) H) H0' H' v q fq)(e:Dm.aW q=true) :
  MS j σs ρs H0s Hs σ ρ (cpy Hs H0 H H0' H') H' p/\Rep (cpy Hs H0 H H0' H') v q.dat:=by
 have up:aj H H':=fun a o e=>t.stp.s1 a o e fU;have lst:∀{a:Addr} {o:HO},H0 a=none->H a=some o->(∀vs,o≠.tup vs)->cpy Hs H0 H H0' H' a=none:=fun {a o} h0 h nt=>by
  cases z:cpy Hs H0 H H0' H' a with
  |none=>rfl
  |some u=>
   rcases cS z with y | ⟨y,_⟩ | ⟨_,y,vs,rfl⟩
   ·rw[h0]at y;cases y
   ·rw[h]at y;cases y
   ·have:=t.st.same _ _ y;rw[up _ _ h]at this;cases this;exact absurd rfl (nt vs)
 obtain⟨w,fp,h1,h2,h3⟩:=n.ex;have stp:Stp (af σs ρs) H0s Hs (cpy Hs H0 H H0' H') H':=by
  refine⟨n.stp.s0.trans fm,fun a o e' no=>up _ _ (n.stp.s1 a o e' no),fun a o e'=>?_,fun a o e'=>?_⟩
  ·rcases cS e' with y | ⟨y,_⟩ | ⟨y,_⟩
   ·exact n.stp.s2 a o y
   ·exact .inl (n.stp.gone y)
   ·exact .inl y
  ·obtain⟨o',q⟩:=n.stp.s3 a o e';exact⟨o',up _ _ q⟩
 refine⟨⟨⟨fun a o e'=>?_,n.st.len,fun i d h=>?_,fun i d h=>?_,n.st.dis⟩,stp,n.own,n.fx,w,fp,h1,h2.mono fm (fun _ z=>z) (fun a vs _ h=>up _ _ h) fun a ha=>?_,h3.1,fun a ha=>⟨?_,(h3.2 a ha).2⟩⟩,?_⟩
 ·rcases cS e' with y | ⟨_,y⟩ | ⟨_,y,_⟩
  ·exact up _ _ (n.st.same _ _ y)
  ·exact y
  ·exact t.st.same _ _ y
 ·obtain⟨u,z,y⟩:=n.st.sh i d h;exact⟨u,z,y.mono fm⟩
 ·obtain⟨a,z,n0,y⟩:=n.st.ow i d h;obtain⟨o,ho⟩:=y.some;refine⟨a,z,lst n0 ho fun vs e'=>?_,y.mono fm ((up _ _ ho).trans ho.symm)⟩;subst e';exact n.st.i_ ho ⟨i,d,h,z⟩
 ·obtain⟨_,xs,h⟩:=h2.fpN a ha;rw[up _ _ h,h]
 ·obtain⟨_,xs,h⟩:=h2.fpN a ha;exact lst (h3.2 a ha).1 h fun vs z=>by cases z
 ·refine r.copy (fun a o z h=>?_) (fun a vs h=>?_) e
  ·rcases z with z | z
   ·rw[lZ n.st.same z];exact h
   ·exact(fU z).elim
  ·rcases t.stp.s2 a _ h with z | z | z
   ·rw[lZ n.st.same z];exact t.st.same _ _ h
   ·have hH:=j_ n.st.same _ _ z;unfold bor at z;split at z
    ·rename_i o q;cases z;exact fm _ _ q
    ·rename_i q;split at z
     ·rename_i lk;rcases lk with lk | lk
      ·unfold cpy;rw[q];dsimp only;rw[if_neg (by rw[hH];simp),h];dsimp only;rw[if_pos lk]
      ·exact(n.st.i_ hH lk).elim
     ·cases z
   ·exact(fU z).elim
end
section
variable{D:Ends}{σ:L2.St}{H:Hp}{j:Nat}
theorem MD(h:tDC j Dm.cNx D σ H):sV D σ H:=by obtain⟨σs,ρs,H0s,Hs,H0,ρ,p,o,n,e,k⟩:=h;cases e;exact k σ H0 H n (aj.refl _)
theorem J6{s u:Dm.FC}(h:tDC j (Dm.wK s u) D σ H):gA (tDC j s) (tDC j u) D σ H:=by
 obtain⟨σs,ρs,H0s,Hs,H0,ρ,p,o,n,e,k⟩:=h;unfold Dm.wK at e;split at e
 ·rename_i ρ1 p1 e1;exact⟨σs,ρs,H0s,Hs,H0,ρ,p,_,n,e1,fun σ' H0' H' n' s1=>⟨σs,ρs,H0s,Hs,H0',ρ1,p1,o,n',e,k.up s1⟩⟩
 ·rename_i hn;cases o with
  |nx ρ1 p1=>exact(hn _ _ e).elim
  |rt d ρ1=>exact⟨σs,ρs,H0s,Hs,H0,ρ,p,_,n,e,k⟩
theorem ME{t:FT}{a b:Dm.FC}(h:tDC j (Dm.cIf j t a b) D σ H):zm (tDT t) (tDC j a) (tDC j b) D σ H:=by
 obtain⟨σs,ρs,H0s,Hs,H0,ρ,p,o,n,e,k⟩:=h;unfold Dm.cIf at e;split at e
 ·cases e
 ·rename_i ρ1 e1;refine⟨_,_,true,ρ1,n.see,e1,fun H1 Hb t1=>?_⟩;dsimp only;rw[if_pos rfl];exact⟨σs,ρs,H0s,Hs,H0,ρ,p,o,n.grow (n.seen t1),e,k⟩
 ·rename_i ρ1 e1;refine⟨_,_,false,ρ1,n.see,e1,fun H1 Hb t1=>?_⟩;dsimp only;rw[if_neg Px];exact⟨σs,ρs,H0s,Hs,H0,ρ,p,o,n.grow (n.seen t1),e,k⟩
theorem MF{f:FE}(h:tDC j (Dm.cRt j f) D σ H):zl (tD f) D σ H:=by
 obtain⟨σs,ρs,H0s,Hs,H0,ρ,p,o,n,e,k⟩:=h;unfold Dm.cRt at e;split at e
 case h_2=>cases e
 rename_i d ρ1 e1;split at e
 ·cases e
 rename_i nb;cases e;exact⟨_,_,_,ρ1,n.see,e1,fun v H1 Hb t1 r1=>k σ v H0 Hb p (n.grow (n.seen t1)) (Rep.plain r1 (by simpa using nb))⟩
theorem E_{i:Nat}{f:Dm.FP}(h:tDC j (Dm.nj j i f) D σ H):ku (tDp f) (cW i) D σ H:=by
 obtain⟨σs,ρs,H0s,Hs,H0,ρ,p,o,n,e,k⟩:=h;unfold Dm.nj at e;split at e
 ·cases e
 rename_i hij;split at e
 ·cases e
 rename_i q ρ1 e1;split at e
 case isFalse=>cases e
 rename_i lk;cases e;refine⟨_,_,_,ρ1,n.see,e1,fun v H1 Hb fq t1 r1 g1=>?_⟩;obtain⟨n1,r⟩:=n.keep t1 r1 lk;exact k _ _ Hb (n1.set (fun z=>hij (.inl z)) (fun z=>hij (.inr z)) r) fm
theorem J7{s:Dm.FC}{g:Dm.FM}(h:tDM j (Dm.pF s g) D σ H):gA (tDC j s) (tDM j g) D σ H:=by
 obtain⟨σs,ρs,H0s,Hs,H0,ρ,p,o,n,e,k⟩:=h;unfold Dm.pF at e;split at e
 ·rename_i ρ1 p1 e1;exact⟨σs,ρs,H0s,Hs,H0,ρ,p,_,n,e1,fun σ' H0' H' n' _=>⟨σs,ρs,H0s,Hs,H0',ρ1,p1,o,n',e,k⟩⟩
 ·rename_i d ρ1 e1;cases e;exact⟨σs,ρs,H0s,Hs,H0,ρ,p,_,n,e1,fun σ' v H0' H' p' n' r=>k σ' v H0' H' n'.sst r fun d' a z=>by cases z⟩
 ·cases e
end
section
variable{X:Cx}{st:Stmt}{xq:List Stmt}{fs gs:Dm.FC}{g:Dm.FM}{e c:Expr}{f:FE}{pos:Pos}{j:Nat}
theorem m_c(h:DC X j st fs)(hr:DMs X j xq g):DMs X j (st::xq) (Dm.pF fs g):=PSs.weak (a_ h hr) fun _ _ _=>J7
theorem MG:DCs X j [] Dm.cNx:=PSs.weak lT fun _ _ _=>MD
theorem J8(h1:DC X j st fs)(h2:DCs X j xq gs):DCs X j (st::xq) (Dm.wK fs gs):=PSs.weak (a_ h1 h2) fun _ _ _=>J6
theorem HK(h1:DC X j st fs):DCs X j [st] fs:=iz h1
theorem Ow{t:FT}{x y:List Stmt}(ht:DT X c t)(ha:DCs X j x fs)(hb:DCs X j y gs):DC X j (.If c x y pos) (Dm.cIf j t fs gs):=PS.weak (sW ht ha hb) fun _ _ _=>ME
theorem Ox(he:DE X e f):DC X j (.Return (some e) pos) (Dm.cRt j f):=PS.weak (l_ he) fun _ _ _=>MF
theorem J9(i:Nat){x:Str}{pos':Pos}{fp:Dm.FP}(hN:X.N.Nodup)(he:DP X e fp)(hi:X.N[i]?=some x:=by rfl)(hx:Loc X.env.scope x:=by trivial)(hs:swapsWith e (some (.Name x pos')) pos.line X.env=pure false:=by rfl)
  (hf:X.fn x=true\/X.env.scope.names.lookup x=some .local:=by trivial):DC X j (.Assign [.Name x pos'] e pos) (Dm.nj j i fp):=PS.weak (qT hN hi hx he hs hf) fun _ _ _=>E_
end
end Br
namespace Dm
noncomputable def OZ(f:List Dat->Option Dp)(as:List FE):FP:=fun ρ=>match eAs as ρ with
 |none=>none
 |some (xs,ρ1)=>match tks ρ1 xs with
  |none=>none
  |some (ds,ρ2)=>match f ds with
   |none=>none
   |some p=>some (p,ρ2)
noncomputable def fV(j:Nat)(f:List Dat->Option Dp)(as:List FE)(g:FM):FS:=fun ρ=>if j=0 then none else match eAs as ρ with
 |none=>none
 |some (xs,ρ1)=>match pks ρ1 xs with
  |none=>none
  |some ds=>match f ds with
   |none=>none
   |some p=>if aW p then g (ρ1.set j .un) p else none
end Dm
namespace Br
open PySem PySem.Spec PyProof.Rows L2
section
variable{N N':Addr->Prop}{H3 H0' H:Hp}
mutual
theorem aZ.leaf(kn:∀a,N a->N' a)(kt:∀a vs,H3 a=some (.tup vs)->H0' a=some (.tup vs)):∀{v:V} {p:Dm.Dp} {fp:List Addr},aZ N H3 H v p fp->Dm.aW p=true->aZ N' H0' H v p fp
 |_,_,_,.s r,e=>.s (Rep.z6 kt r (by unfold Dm.aW at e;exact e))
 |_,_,_,.l n h r,e=>.l (kn _ n) h (aB.leaf kn kt r (by unfold Dm.aW at e;exact e))
 |_,_,_,.t n h r,e=>.t (kn _ n) h (aB.leaf kn kt r (by unfold Dm.aW at e;exact e))
theorem aB.leaf(kn:∀a,N a->N' a)(kt:∀a vs,H3 a=some (.tup vs)->H0' a=some (.tup vs)):∀{vs:List V} {ps:List Dm.Dp} {fp:List Addr},aB N H3 H vs ps fp->Dm.aO ps=true->aB N' H0' H vs ps fp
 |_,_,_,.nil,_=>.nil
 |_,_,_,.cons h r,e=>by unfold Dm.aO at e;rw[Pu]at e;exact .cons (aZ.leaf kn kt h e.1) (aB.leaf kn kt r e.2)
end
end
theorem uc{Hs H0 H:Hp}{σ:L2.St}{ρ:Dm.Env}(st:ay H0 H σ ρ):∀{xs:List Dm.Val} {vs:List V} {ds:List Dat},cM Hs H0 H σ ρ vs xs->Dm.pks ρ xs=some ds->av (bor H0 H (Look Hs σ ρ)) vs ds
 |[],_,ds,.nil,e=>by cases e;exact .nil
 |x::xs,_,ds,.cons h r,e=>by
  unfold Dm.pks at e;split at e
  ·cases e
  rename_i d e1;split at e
  ·cases e
  rename_i ds' e2;cases e;refine .cons ?_ (uc st r e2);have own:∀(a:Addr),Look Hs σ ρ a->Own H0 H a d->Rep (bor H0 H (Look Hs σ ρ)) (.ref a) d:=fun a lk w=>by
   cases d with
   |lst ds=>obtain⟨xs,y,rs⟩:=w;exact .lst (.inl (ja st.same lk y)) (rs.mono dj)
   |dct ks ds=>obtain⟨xs,y,k,rs⟩:=w;exact .dct (ja st.same lk y) k (rs.mono dj)
   |dcp ks ds=>obtain⟨xs,y,k,rs⟩:=w;exact .dcp (ja st.same lk y) (k.mono dj) (rs.mono dj)
   |_=>exact w.elim
  cases x with
  |val d'=>cases e1;exact Rep.mono dj h
  |new d'=>cases e1;obtain⟨a,rfl,n,no,n0,w⟩:=h;exact own a (.inl n) w
  |slot i=>
   obtain⟨q,_⟩:=h;unfold Dm.pk at e1;dsimp only at e1;split at e1
   ·rename_i d' hd;cases e1;obtain⟨a,w1,w2,w3⟩:=st.ow i _ hd;rw[q]at w1;cases w1;exact own a (.inr ⟨i,_,hd,q⟩) w3
   ·rename_i d' hd;cases e1;obtain⟨u,w1,w2⟩:=st.sh i _ hd;rw[q]at w1;cases w1;exact w2.mono dj
   ·cases e1
section
variable{D:Ends}{σ:L2.St}{H:Hp}{j:Nat}
theorem Fb{f:List Dat->Option Dm.Dp}{fs:List FE}{g:Dm.FM}{E:XK}(hj:j<σ.length)(h:tDS (Dm.fV j f fs g) D σ H):gA (ku (k_ (spP f) [] E (tDA fs)) (cW j)) (tDM j g) D σ H:=by
 obtain⟨H0,ρ,o,st,e,k⟩:=h;unfold Dm.fV at e;split at e
 ·cases e
 rename_i hj0;split at e
 ·cases e
 rename_i xs ρ1 e1;split at e
 ·cases e
 rename_i ds e2;split at e
 ·cases e
 rename_i p ep;split at e
 case isFalse=>cases e
 rename_i lk;refine⟨H0,ρ,xs,ρ1,st,e1,fun vs H1 Hb t1 r1=>?_⟩;dsimp only;rw[PY];refine⟨bor H1 Hb (Look H σ ρ1),ds,p,j_ t1.st.same,uc t1.st r1 e2,ep,fun v H3 Hd fp g3 r3 nd n3=>?_⟩;have up:aj Hb Hd:=g3.s1;have cpE:∀{a:Addr} {u:HO},cpy H H1 Hb H3 Hd a=some u->H1 a=some u\/(Hb a=none/\Hd a=some u)\/(H a=none/\H3 a=some u/\∃vs,u=.tup vs):=fun e=>cS e;have kt:∀a us,H3 a=some (.tup us)->cpy H H1 Hb H3 Hd a=some (.tup us):=fun a us h=>by
  rcases g3.s2 a _ h with z | z
  ·rw[lZ t1.st.same z];exact g3.s3 _ _ h
  ·have hH:=j_ t1.st.same _ _ z;unfold bor at z;split at z
   ·rename_i o q;cases z;exact fm _ _ q
   ·rename_i q;split at z
    ·rename_i lk;rcases lk with lk | lk
     ·unfold cpy;rw[q];dsimp only;rw[if_neg (by rw[hH];simp),h];dsimp only;rw[if_pos lk]
     ·exact(t1.st.i_ hH lk).elim
    ·cases z
 have lst:∀{a:Addr} {u:HO},H1 a=none->Hb a=some u->(∀us,u≠.tup us)->cpy H H1 Hb H3 Hd a=none:=fun {a u} h0 h nt=>by
  cases z:cpy H H1 Hb H3 Hd a with
  |none=>rfl
  |some w=>
   rcases cpE z with y | ⟨y,_⟩ | ⟨_,y,us,rfl⟩
   ·rw[h0]at y;cases y
   ·rw[h]at y;cases y
   ·have:=g3.s3 _ _ y;rw[up _ _ h]at this;cases this;exact absurd rfl (nt us)
 let H4:Hp:=fun a=>if a∈fp then none else cpy H H1 Hb H3 Hd a
 have h4:∀{a:Addr} {u:HO},H4 a=some u->cpy H H1 Hb H3 Hd a=some u/\a∉fp:=fun {a u} e=>by
  show cpy H H1 Hb H3 Hd a=some u/\_;have e:(if a∈fp then none else cpy H H1 Hb H3 Hd a)=some u:=e;split at e
  ·cases e
  ·rename_i h;exact⟨e,h⟩
 have h4i:∀{a:Addr} {u:HO},cpy H H1 Hb H3 Hd a=some u->a∉fp->H4 a=some u:=fun {a u} e n=>by show (if a∈fp then none else cpy H H1 Hb H3 Hd a)=some u;rw[if_neg n];exact e
 have nfp:∀a∈fp,Hb a=none/\∃ys,Hd a=some (.lst ys):=fun a ha=>r3.fpN a ha;have up4:aj H1 H4:=fun a u e'=>h4i (fm _ _ e') fun z=>by have:=t1.st.same _ _ e';rw[(nfp a z).1]at this;cases this
 have st4:ay H4 Hd σ ρ1:=by
  refine⟨fun a u e'=>?_,t1.st.len,fun i d h=>?_,fun i d h=>?_,t1.st.dis⟩
  ·rcases cpE (h4 e').1 with y | ⟨_,y⟩ | ⟨_,y,_⟩
   ·exact up _ _ (t1.st.same _ _ y)
   ·exact y
   ·exact g3.s3 _ _ y
  ·obtain⟨u,z,y⟩:=t1.st.sh i d h;exact⟨u,z,y.mono up4⟩
  ·obtain⟨a,z,n0,y⟩:=t1.st.ow i d h;obtain⟨w,hw⟩:=y.some;refine⟨a,z,?_,y.mono up4 ((up _ _ hw).trans hw.symm)⟩;have:=lst n0 hw fun us e'=>by subst e';exact t1.st.i_ hw ⟨i,d,h,z⟩
   show (if a∈fp then none else cpy H H1 Hb H3 Hd a)=none;rw[this];split<;>rfl
 obtain⟨s1,s2⟩:=st4.wJ j (some v);refine⟨σ,ρ,H0,H,H4,_,p,o,⟨s1,⟨t1.stp.s0.trans up4,fun a u e' no=>up _ _ (t1.stp.s1 a u e' no),fun a u e'=>?_,fun a u e'=>?_⟩,fun a z=>.inl (t1.own a (s2 a z)),gc hj0,v,fp,PB hj,r3.leaf (fun a n=>t1.stp.gone n) (fun a us h=>h4i (kt a us h) fun z=>?_) lk,nd,fun a ha=>⟨?_,fun z=>t1.st.bg (nfp a ha).1 (s2 a z)⟩⟩,e,k⟩
 ·rcases cpE (h4 e').1 with y | ⟨y,_⟩ | ⟨y,_⟩
  ·exact t1.stp.s2 a u y
  ·exact .inl (t1.stp.gone y)
  ·exact .inl y
 ·obtain⟨o',q⟩:=t1.stp.s3 a u e';exact⟨o',up _ _ q⟩
 ·obtain⟨_,ys,y⟩:=nfp a z;have:=g3.s3 _ _ h;rw[y]at this;cases this
 ·show (if a∈fp then none else cpy H H1 Hb H3 Hd a)=none;rw[if_pos ha]
end
section
variable{X:Cx}{e c:Expr}{es:List Expr}{xq:List Stmt}{fs:List FE}{f:FE}{fp:Dm.FP}{gq:Dm.FSP}{g ga:Dm.FM}{pos p:Pos}{j:Nat}
theorem yw(j:Nat){k:Nat}{F:Addr}{fd:FuncData}{ps:List Str}{f:List Dat->Option Dm.Dp}{x y:Str}{as:List FE}{pos' cpos:Pos}(hN:X.N.Nodup)(G:bw X.prog X.w X.K X.mg X.base CX0 k F fd ps (spP f))(hr:bu k X.A)(hg:Gl X x)(hm:X.mg x=some (.ref F))(hk:QA X.K (.ref F)=true)(hb:Binds X.K fd ps [])
  (ha:DA X (e::es) as) (hre:DMs X j xq g) (hi:X.N[j]?=some y:=by rfl) (hx:Loc X.env.scope y:=by trivial) (hs:swapsWith (.Call (.Name x p) (e::es) [] cpos) (some (.Name y pos')) pos.line X.env=pure false:=by rfl)
  (hf:X.fn y=true\/X.env.scope.names.lookup y=some .local:=by trivial) (MT:(x == ("__debug__" : Str))=false:=by decide) (he:starEach (e::es) X.env=(false,eval e X.env)::starEach es X.env:=by rfl) (Cs:(backTo cpos (starEach es X.env)).any (·.1)=false:=by rfl) :
  DSs X (.Assign [.Name y pos'] (.Call (.Name x p) (e::es) [] cpos) pos::xq) (Dm.fV j f as g):=by
 have h:=a_ (qT hN hi hx (fR G hr hg hm hk hb .nil (mG (X:=X)) ha MT he Cs) hs hf) hre;intro nC s σ H D I q;exact h nC s σ H D I (Fb (by rw[I.len];exact(Pa.mp hi).1) q)
end
end Br
namespace Br
open PySem PySem.Spec PyProof.Rows L2
open PySem L2
structure bX(K:O8)(x:Str)(st:Stmt)(a:Addr)(fd:FuncData):Prop where
 e:Qk K mainGlobals x=some (some (.ref a))
 F:Fun K x x st a fd
variable{K:O8}{x:Str}{st:Stmt}{a:Addr}{fd:FuncData}{hp:Heap}{mg:Str->Option Value}
theorem aP{oc:Value}{od an:Option Addr}{osl:Array (Option Value)}{kV doc pm cdv ct:Value}(e:Qk K mainGlobals x=some (some (.ref a)))
  (l:K.lookup a=some ⟨oc,od,.func (Qc x x (bh st) (aU st) (ak st) .none kV doc pm an cdv ct),osl⟩) (c:RC K cdv x=true) (k:QA K (.ref a)=true) :
  bX K x st a (Qc x x (bh st) (aU st) (ak st) .none kV doc pm an cdv ct):=⟨e,Jo l c k⟩
theorem mno(X:K.In hp)(G:hp.Ns mainGlobals mg)(e:Qk K mainGlobals x=some none):mg x=none:=PySem.W.mg_none_of X G e
theorem bX.m(h:bX K x st a fd)(X:K.In hp)(G:hp.Ns mainGlobals mg):mg x=some (.ref a):=PySem.W.mg_of X G h.e
theorem bX.Oz{y:Str}(h:bX K x st a fd)(hb:∀(kV doc pm:Value) (an:Option Addr) (cdv ct v:Value),bindArgs (Qc x x (bh st) (aU st) (ak st) .none kV doc pm an cdv ct) ⟨[v],[]⟩=pure [(y,v)])(s:Shared)(v:Value):BindsTo s fd ⟨[v],[]⟩ [(y,v)]:=by obtain⟨oc,od,kV,doc,pm,an,cdv,ct,osl,rfl,lk,HQ⟩:=h.F.ex;exact .of_eq (hb kV doc pm an cdv ct v)
theorem hm{j k:Nat}{A:Around}(r:bu k A)(h:j<=k:=by decide):bu j A:=r.mono h
theorem fsc{N P:List Str}{sc:Scope}(h1:sc.kind=.function:=by rfl)(h2:sc.isCoroutine=false:=by rfl)(h3:sc.isGenerator=false:=by rfl)(h4:N.take P.length=P:=by rfl)(h:N.Nodup/\(∀x∈P,sc.names.lookup x=some .local\/sc.names.lookup x=some .cell)/\∀y∈sc.names,y.2≠.free:=by decide +kernel):aF N P sc:=⟨h1,h2,h3,h.1,h4,h.2.1,h.2.2⟩
end Br
namespace Sx
open PySem PySem.SetTable PySem.W PyProof.Rows
open PySem PySem.W
def pG(h:Heap)(d:Addr)(es:Array DictEntry)(ep:Nat):Prop:=∃o,h.get? d=some o/\o.ExactDict/\o.data=.dict es ep
theorem pG.typeIs{s:Shared}{d:Addr}{es ep}(x:pG s.heap d es ep):s.TypeIs (.ref d) "dict" := let ⟨o,ho,he,_⟩:=x;⟨o,ho,he.1⟩
theorem pG.at{h h':Heap}{d:Addr}{es ep}(x:pG h d es ep)(e:∀o,h.get? d=some o->h'.get? d=some o):pG h' d es ep:=let ⟨o,ho,r⟩:=x;⟨o,e _ ho,r⟩
section
variable{prog:Program}{w:World}{A:Around}{E:Value->Shared->Prop}{s:Shared}{d it:Addr}{es:Array DictEntry}{ep i:Nat}
theorem z7(lo:(d == sysModules)=false)(x:pG s.heap d es ep){Q:Value->Shared->Prop}
  (hQ:Q (.ref s.heap.objs.size) { s with heap:=s.heap.push { cls:=.type "dict_keyiterator",data:=.fields #[.ref d,.int 0 0,.int es.size 0,.int ep 0] } }):wpAny (model prog w) A (pyIter (.ref d)) Q E s:=by
 obtain⟨o,ho,hex,hd⟩:=id x;have hT:=x.typeIs;refine wpAny_pyIter_slot hT RQ (wpAny_call_entry RQ hT F.entry_dict_iter ?_ (F.args_dict_iter_1 _));unfold Builtin.«dict.__iter__» Builtin.Dict.dictSlotNone;refine wpAny_bind (wpAny_bind (wpAny_notOrdered_dict hT ?_));show wpAny _ _ (pure (PX d)) _ _ s;refine wpAny_pure ?_;show wpAny _ _ (Rw d >>= _) _ _ s;unfold Rw;rw[lo,if_neg Px];refine wpAny_bind (wpAny_pure (wpAny_bind (wpAny_dictEntries ho hd (wpAny_bind (wpAny_dictEpoch ho hd ?_)))));refine wpAny_bind (wpAny_newObj_type (wpAny_pure ⟨_,rfl,"dict_keyiterator",_,⟨_,P5 _ rfl,rfl⟩,QG.lookup,?_⟩))
 simpa [rawInt] using hQ
theorem Fc(Ku:s.heap.IsKeyIter it d i es.size ep)(x:pG s.heap d es ep){v:Value}(hv:(es.map (·.key))[i]?=some v){Q:Option Value->Shared->Prop}
  (hQ:∀h',h'.IsKeyIter it d (i+1) es.size ep->Q5 it s.heap h'->Q (some v) { s with heap:=h' }):wpAny (model prog w) A (pyNext (.ref it)) Q E s:=by
 obtain⟨o,ho,hc,hd⟩:=id Ku;obtain⟨od,hod,HQ,hdd⟩:=id x;have HN:i<es.size:=by
  have:=(Array.getElem?_eq_some_iff.mp hv).1
  simpa using this
 have hkey:es[i].key=v:=by rw[Array.getElem?_map,Rp HN]at hv;exact Option.some.inj hv
 unfold pyNext;refine wpAny_bind (wpAny_attempt (wpAny_callSpecial?_slot (name:=R7 "__next__") Ku.typeIs QG (wpAny_call_entry QG Ku.typeIs F.entry_dict_keyiterator_next ?_ (F.args_dict_keyiterator_next_1 _))));refine wpAny_bind (wpAny_pure (wpAny_bind (wpAny_bind ?_)))
 first | refine wpAny_bind (wpAny_typeNameOfWhole_keyiter Ku.typeIs (wpAny_pure ?_)) | refine wpAny_bind (wpAny_typeNameOf_keyiter Ku.typeIs (wpAny_pure ?_))
 refine wpAny_bind (wpAny_fieldsOf ho hd ?_);have hown:Builtin.Dict_items.ownsTuple "dict_keyiterator" = false:=rfl;rw[hown];simp only[Qu,if_false];show wpAny _ _ (if (PX d == Value.none)=true then _ else _) _ _ s;rw[if_neg (show ¬((PX d == Value.none)=true) from Px)];refine wpAny_bind (wpAny_pure (wpAny_bind (wpAny_dictEntries hod hdd ?_)));rw[if_neg (by simp)];refine wpAny_bind (wpAny_pure (wpAny_bind (wpAny_dictEpoch hod hdd ?_)));rw[if_neg (by simp)];refine wpAny_pure ?_;have hneg:¬(i:Int)<0:=by lia
 simp only[hneg,if_false,RM,Rp HN];refine wpAny_bind ?_
 first | refine wpAny_bind (wpAny_typeNameOfWhole_keyiter Ku.typeIs (wpAny_pure ?_)) | refine wpAny_bind (wpAny_typeNameOf_keyiter Ku.typeIs (wpAny_pure ?_))
 refine wpAny_bind (wpAny_isOneOf_keyiter Ku.typeIs ?_);show wpAny _ _ (setField (.ref it) 1 (rawInt ((i:Int)+1)) >>= _) _ _ s;refine wpAny_bind (wpAny_setField ho hd (by simp) ?_);have Fe:(s.heap.update it (Obj.mapFields (·.setIfInBounds 1 (rawInt ((i:Int)+1))))).IsKeyIter it d (i+1) es.size ep:=
  ⟨_,Ri _ ho (Obj.isFreed_of_fields (Obj.data_mapFields hd _)),(Obj.cls_mapFields ..).trans hc,by rw[Obj.data_mapFields hd];simp[rawInt]⟩
 refine wpAny_bind (wpAny_holding (wpAny_bind (wpAny_isOneOf_keyiter (s:={ s with heap:=s.heap.update it (Obj.mapFields (·.setIfInBounds 1 (rawInt ((i:Int)+1)))) }) Fe.typeIs ?_)));show wpAny _ _ (pure es[i].key) _ _ _;rw[hkey];exact wpAny_pure (wpAny_pure ⟨_,rfl,wpAny_pure (hQ _ Fe (QW ..))⟩)
theorem J_(hh:A.handled=none)(Ku:s.heap.IsKeyIter it d es.size es.size ep)(x:pG s.heap d es ep){Q:Option Value->Shared->Prop}
  (hQ:∀h',Heap.ExtBut it s.heap h'->Q none { s with heap:=h' }):wpAny (model prog w) A (pyNext (.ref it)) Q E s:=by
 obtain⟨o,ho,hc,hd⟩:=id Ku;obtain⟨od,hod,HQ,hdd⟩:=id x;unfold pyNext;refine wpAny_bind (wpAny_attempt (wpAny_callSpecial?_slot (name:=R7 "__next__") Ku.typeIs QG (wpAny_call_entry QG Ku.typeIs F.entry_dict_keyiterator_next ?_ (F.args_dict_keyiterator_next_1 _))));refine wpAny_bind (wpAny_pure (wpAny_bind (wpAny_bind ?_)))
 first | refine wpAny_bind (wpAny_typeNameOfWhole_keyiter Ku.typeIs (wpAny_pure ?_)) | refine wpAny_bind (wpAny_typeNameOf_keyiter Ku.typeIs (wpAny_pure ?_))
 refine wpAny_bind (wpAny_fieldsOf ho hd ?_);have hown:Builtin.Dict_items.ownsTuple "dict_keyiterator" = false:=rfl;rw[hown];simp only[Qu,if_false];show wpAny _ _ (if (PX d == Value.none)=true then _ else _) _ _ s;rw[if_neg (show ¬((PX d == Value.none)=true) from Px)];refine wpAny_bind (wpAny_pure (wpAny_bind (wpAny_dictEntries hod hdd ?_)));rw[if_neg (by simp)];refine wpAny_bind (wpAny_pure (wpAny_bind (wpAny_dictEpoch hod hdd ?_)));rw[if_neg (by simp)];refine wpAny_pure ?_;have hneg:¬(es.size:Int)<0:=by lia
 simp only[hneg,if_false,RM,Array.getElem?_eq_none (Pb es.size)];refine wpAny_bind ?_
 first | refine wpAny_bind (wpAny_typeNameOfWhole_keyiter Ku.typeIs (wpAny_pure ?_)) | refine wpAny_bind (wpAny_typeNameOf_keyiter Ku.typeIs (wpAny_pure ?_))
 show wpAny _ _ (setField (.ref it) 0 .none >>= _) _ _ s;refine wpAny_bind (wpAny_setField ho hd (by simp) (wpAny_bind ?_));unfold newExc newTuple;refine wpAny_bind (wpAny_newObj_type (wpAny_bind (m:=firstArgMember _ _) (wpAny_of_eq (a:=.none) rfl (wpAny_newObj_type ?_ (by size_fits)))) (by size_fits));unfold raiseNew;refine wpAny_bind (wpAny_handled ?_);have hx:A.in1.handled=none:=hh;rw[hx];refine wpAny_bind (wpAny_pure (wpAny_throw (wpAny_bind ?_)));refine wpAny_isInstance (b:=true) (T := "StopIteration") ⟨_,P5 _ rfl,rfl⟩ isSubtype_stop (wpAny_pure ?_);exact hQ _ (((QW ..).extBut.push _).push _)
theorem B7(hh:A.handled=none)(I d:Addr)(MU:d≠I) :
  Walks prog w A I [I,d] [I] es.size (fun i v=>(es.map (·.key))[i]?=some v) (fun i h=>h.IsKeyIter I d i es.size ep/\pG h d es ep) where
 sub:=fun b hb=>by simp at hb;simp[hb]
 frame:=fun _ _ _ st hk=>⟨let ⟨o,ho,r⟩:=st.1;⟨o,hk I (by simp) o ho,r⟩,st.2.at fun o e=>hk d (by simp) o e⟩
 item:=fun i s Q E hi st hQ=>by
  obtain⟨v,hv⟩:∃v,(es.map (·.key))[i]?=some v:=⟨_,Rp (by simpa using hi)⟩
  refine Fc st.1 st.2 hv fun h' Fe hs'=>?_;exact hQ v h' s.toks hv ⟨Fe,st.2.at fun o e=>hs'.extBut d o MU e⟩ fun b o hb e=>hs'.extBut b o (fun h=>hb (by simp[h])) e
 done:=fun s Q E st hQ=>J_ hh st.1 st.2 fun h' he'=>hQ h' s.toks fun b o hb e=>he' b o (fun h=>hb (by simp[h])) e
 self:=fun _ _ _ _ st hQ=>wpAny_pyIter_keyiter st.1 hQ
theorem Ka(lo:(d == sysModules)=false):KdlSrc prog w "dict" d d es.size (fun i v=>(es.map (·.key))[i]?=some v) (fun h=>pG h d es ep) where
 type:=fun _ x=>x.typeIs
 there:=fun _ x=>let ⟨_,ho,_⟩:=x;⟨Po ho,Po ho⟩
 keep:=fun _ _ x hk=>x.at fun o e=>hk d (.inl rfl) o e
 notList:=by decide
 notTuple:=by decide
 hint:=fun _ _ _ _ x hq=>kdl_hint_dict x.typeIs hq
 iter:=fun _ s hh x=>⟨_,_,(fun _ _ hq=>z7 lo x hq),B7 hh _ d (let ⟨_,ho,_⟩:=x;P6 (Po ho)),
  ⟨⟨_,P5 _ rfl,rfl,by simp⟩,x.at fun o e=>Ph _ e⟩⟩
end
end Sx
namespace Dm
noncomputable abbrev FQ:=Env->Dp->Option Dp
inductive PU where
 |e (f:FE)
 |v (i:Nat)
 |w
noncomputable def jb(j:Nat)(ρ:Env)(p:Dp):Bool->List PU->Option (List Dp)
 |_,[]=>some []
 | b,.e f::r=>(match f (see j ρ p) with
  | some (.val d,_)=>if dY d then none else (match jb j ρ p b r with
   |none=>none
   |some ps=>some (.s d::ps))
  |_=>none)
 | b,.v i::r=>if i=j then none else (match ρ[i]? with
  | some (.sh d)=>(match jb j ρ p b r with
   |none=>none
   |some ps=>some (.s d::ps))
  |_=>none)
 | b,.w::r=>if b=true then none else (match jb j ρ p true r with
  |none=>none
  |some ps=>some (p::ps))
noncomputable def wL(j:Nat)(ts:List PU):FQ:=fun ρ p=>match jb j ρ p false ts with
 |none=>none
 |some ps=>if ps.length<=SZ then some (.t ps) else none
end Dm
namespace Br
open PySem PySem.Spec PyProof.Rows L2
theorem aB.l0{N:Addr->Prop}{H0 H:Hp}{x:Dm.Dp}:∀{vs:List V} {ps:List Dm.Dp} {fp:List Addr} {m:Nat},aB N H0 H vs ps fp->fp.Nodup->ps[m]?=some x ->
  ∃v f,vs[m]?=some v/\aZ N H0 H v x f/\f.Sublist fp/\∀q o x' ls f',q∈f->H q=some (.lst ls)->aZ N H0 (upd H q o) v x' f'->f'.Sublist f->∃fp',aB N H0 (upd H q o) vs (ps.set m x') fp'/\fp'.Sublist fp
 |_,_,_,_,.nil,_,e=>by simp at e
 |_,_,_,0,.cons h r,nd,e=>by simp at e;subst e;obtain⟨nd1,nd2,nd3⟩:=P9.mp nd;refine⟨_,_,rfl,h,List.sublist_append_left _ _,fun q o x' ls f' hq hl h' hs=>⟨_,.cons h' (r.mono (aj.refl _) (fun _ z=>z) (fun a us _ z=>?_) fun a ha=>ao fun z=>nd3 q hq a ha z.symm),hs.append_right _⟩⟩;rw[ao fun y=>by rw[y,hl]at z;cases z];exact z
 |_,_,_,m+1,.cons h r,nd,e=>by obtain⟨nd1,nd2,nd3⟩:=P9.mp nd;obtain⟨v,f,h1,h2,h3,h5⟩:=aB.l0 (m:=m) r nd2 (by simpa using e);refine⟨v,f,by simpa using h1,h2,h3.trans (List.sublist_append_right _ _),fun q o x' ls f' hq hl h' hs=>?_⟩;obtain⟨fp',w1,w2⟩:=h5 q o x' ls f' hq hl h' hs;refine⟨_,.cons (h.mono (aj.refl _) (fun _ z=>z) (fun a us _ z=>?_) fun a ha=>ao fun z=>nd3 a ha q (h3.subset hq) z) w1,w2.append_left _⟩;rw[ao fun y=>by rw[y,hl]at z;cases z];exact z
section
variable{D:Ends}{σ:L2.St}{H:Hp}{j:Nat}
theorem bB.sub{σ:L2.St}{ρ:Dm.Env}{H0:Hp}{f g:List Addr}(h:bB σ ρ H0 f)(s:g.Sublist f):bB σ ρ H0 g:=⟨h.1.sublist s,fun a ha=>h.2 a (s.subset ha)⟩
theorem MS.MH{σs:L2.St}{ρs:Dm.Env}{H0s Hs:Hp}{ρ:Dm.Env}{H0:Hp}{xs rows items:List Dm.Dp}{m0 m:Nat}(nx:MS j σs ρs H0s Hs σ ρ H0 H (.t xs))(ud:xs[m0]?=some (.l rows))(hi:rows[m]?=some (.l items)) :
  ∃(A L q:Addr) (us vs ls:List V),σ[j]?=some (some (.ref A))/\H A=some (.tup us)/\us[m0]?=some (.ref L)/\H L=some (.lst vs)/\vs[m]?=some (.ref q)/\H q=some (.lst ls)/\L≠q/\A≠q /\
   MS j σs ρs H0s Hs σ ρ H0 (upd H q (.lst [])) (.t (xs.set m0 (.l (rows.set m (.l []))))):=by
 obtain⟨v,fp,q1,q2,q3⟩:=nx.ex;cases q2 with
 |t nA hA rs=>
  rename_i A us;obtain⟨v',f',c1,c2,c3,c5⟩:=rs.l0 q3.1 ud;cases c2 with
  |l nL hL rl=>
   rename_i L vs fl;have nd:=q3.1.sublist c3;obtain⟨v2,f2,d1,d2,d3,d5⟩:=rl.l0 (Pj.mp nd).2 hi;cases d2 with
   |l nq hq rq=>
    rename_i q ls fq;have qm:q∈fl:=d3.subset O9;obtain⟨z1,z2⟩:=q3.2 q (c3.subset (Dk L qm));have neL:L≠q:=fun y=>(Pj.mp nd).1 (y▸qm);have neA:A≠q:=fun y=>by rw[y,hq]at hA;cases hA
    have t:=nx.wr nq z1 z2 (.lst []);obtain⟨fl',w1,w2⟩:=d5 q (.lst []) (.l []) ls [q] O9 hq (.l nq aq .nil) (R9.cons_cons _ (List.nil_sublist _));obtain⟨fp',y1,y2⟩:=c5 q (.lst []) (.l (rows.set m (.l []))) ls (L::fl') (Dk L qm) hq (.l nL (by rw[ao neL];exact hL) w1) (w2.cons_cons _);exact⟨A,L,q,us,vs,ls,q1,hA,c1,hL,d1,hq,neL,neA,t.st,t.stp,t.own,t.fx,_,fp',q1,.t nA (by rw[ao neA];exact hA) y1,q3.sub y2⟩
end
def tDQ(j:Nat)(g:Dm.FQ):TS:=fun D σ H=>∃σs ρs H0s Hs H0 ρ p q,MS j σs ρs H0s Hs σ ρ H0 H p/\g ρ p=some q/\∀σ' ρ' v H0' H' fp,SSt σs ρs H0s Hs σ' ρ' H0' H'->aZ (gw σs ρs Hs) H0' H' v q fp->fp.Nodup->(∀a∈fp,H0' a=none)->D.rt v H'
def OA(N:Addr->Prop)(H0 H:Hp)(σ:L2.St)(j:Nat)(p:Dm.Dp)(b:Bool)(vs:List V)(ps:List Dm.Dp):Prop:=
 ∀v fp,σ[j]?=some (some v)->aZ N H0 H v p fp->∃fq,aB N H0 H vs ps fq/\(b=true->fq=[])/\fq.Sublist fp
def tPu(j:Nat)(b:Bool)(ts:List Dm.PU):TA:=fun σ H Q=>∃σs ρs H0s Hs H0 ρ p ps,MS j σs ρs H0s Hs σ ρ H0 H p/\Dm.jb j ρ p b ts=some ps/\∀vs H',aG H0 H H0 H'->OA (fun a=>Hs a=none) H0 H' σ j p b vs ps->Q vs H'
section
variable{D:Ends}{σ:L2.St}{H:Hp}{j:Nat}{b:Bool}{Q:List V->Hp->Prop}
theorem MI(h:tPu j b [] σ H Q):kB σ H Q:=by obtain⟨σs,ρs,H0s,Hs,H0,ρ,p,ps,n,e,k⟩:=h;unfold Dm.jb at e;cases e;exact k [] H (aG.refl n.st.same) fun v fp _ _=>⟨[],.nil,fun _=>rfl,List.nil_sublist _⟩
theorem MJ{f:FE}{ts:List Dm.PU}(h:tPu j b (.e f::ts) σ H Q):dW (tD f) (tPu j b ts) σ H Q:=by
 obtain⟨σs,ρs,H0s,Hs,H0,ρ,p,ps,n,e,k⟩:=h;unfold Dm.jb at e;split at e
 case h_2=>cases e
 rename_i d ρ1 e1;split at e
 ·cases e
 rename_i nb;split at e
 ·cases e
 rename_i ps' e2;cases e;refine⟨_,_,_,ρ1,n.see,e1,fun v H1 Hb t1 r1=>?_⟩;have g1:=n.seen t1;have rp:Rep H0 v d:=Rep.plain r1 (by simpa using nb);exact ⟨σs,ρs,H0s,Hs,H0,ρ,p,ps',n.grow g1,e2,fun vs H' g ok=>k (v::vs) H' (g1.trans g) fun u fp h1 h2=>by obtain⟨fq,q1,q2,q3⟩:=ok u fp h1 h2;exact⟨[]++fq,.cons (.s rp) q1,q2,q3⟩⟩
theorem MK{ts:List Dm.PU}(h:tPu j b (.w::ts) σ H Q):dW (gm j) (tPu j true ts) σ H Q:=by
 obtain⟨σs,ρs,H0s,Hs,H0,ρ,p,ps,n,e,k⟩:=h;unfold Dm.jb at e;split at e
 ·cases e
 rename_i hb;split at e
 ·cases e
 rename_i ps' e2;cases e;obtain⟨v,_,hv,_,_⟩:=n.ex;exact ⟨v,hv,σs,ρs,H0s,Hs,H0,ρ,p,ps',n,e2,fun vs H' g ok=>k (v::vs) H' g fun u fp h1 h2=>by rw[hv]at h1;cases h1;obtain⟨fq,q1,q2,q3⟩:=ok v fp hv h2;have e0:=q2 rfl;subst e0;exact⟨fp++[],.cons h2 q1,fun z=>absurd z hb,by rw[PY];exact R9.refl _⟩⟩
theorem Kc{ts:List Dm.PU}(h:tDQ j (Dm.wL j ts) D σ H):zl (zA (tPu j false ts)) D σ H:=by
 obtain⟨σs,ρs,H0s,Hs,H0,ρ,p,q,n,e,k⟩:=h;unfold Dm.wL at e;split at e
 ·cases e
 rename_i ps e3;split at e
 case isFalse=>cases e
 rename_i hz;cases e;refine⟨σs,ρs,H0s,Hs,H0,ρ,p,ps,n,e3,fun vs H' g ok=>?_⟩;have n1:=n.grow g;obtain⟨v',fp',h1,h2,h3⟩:=n1.ex;obtain⟨fq,q1,_,q2⟩:=ok v' fp' h1 h2;refine⟨by rw[q1.length];exact P0 hz (by decide),fun T hT=>?_⟩;have n2:=n1.grow (aG.iK (o:=.tup vs) n1.st.same hT);have neT:∀{a:Addr} {o:HO},H' a=some o->a≠T:=fun {a o} q z=>by rw[z,hT]at q;cases q
 refine k _ _ _ _ _ fq n2.sst (.t (.inl (n1.stp.gone hT)) aq (q1.mono (aj.refl _) (fun a z=>.inl z) (fun a us' _ q=>by rw[ao (neT q)];exact q) fun a ha=>?_)) (h3.1.sublist q2) fun a ha=>(h3.2 a (q2.subset ha)).1;obtain⟨_,zs,hz'⟩:=q1.fpN a ha;exact ao (neT hz')
end
section
variable{X:Cx}{e:Expr}{es:List Expr}{f:FE}{ts:List Dm.PU}{pos:Pos}{j:Nat}{b:Bool}
noncomputable abbrev DHs(X:Cx)(j:Nat)(st:List Stmt)(g:Dm.FQ):Prop:=PSs X st (tDQ j g)
theorem OB:PA X [] (tPu j b []):=PA.weak dX fun _ _ _=>MI
theorem OC(he:DE X e f)(r:PA X es (tPu j b ts))(hs:starEach (e::es) X.env=(false,eval e X.env)::starEach es X.env:=by rfl):PA X (e::es) (tPu j b (.e f::ts)):=PA.weak (bM he r hs) fun _ _ _=>MJ
theorem OD{x:Str}{px:Pos}(r:PA X es (tPu j true ts))(hi:X.N[j]?=some x:=by rfl)(hv:Vis X.env.scope x:=by trivial)(hd:(x == ("__debug__" : Str))=false:=by decide)(HQ:(x == ("__classdict__" : Str))=false:=by decide)
  (hs:starEach (.Name x px::es) X.env=(false,eval (.Name x px) X.env)::starEach es X.env:=by rfl):PA X (.Name x px::es) (tPu j b (.w::ts)):=PA.weak (bM (bR hi hv hd HQ) r hs) fun _ _ _=>MK
theorem ML{x1}{tp:Pos}(ht:PA X es (tPu j false ts)):DHs X j [.Return (some (.Tuple es x1 tp)) pos] (Dm.wL j ts):=iz (PS.weak (l_ (mw ht)) fun _ _ _=>Kc)
end
end Br
set_option maxHeartbeats 4000000
namespace Ts
open PySem PyProof.Rows
variable{A:Around}{E:Value->Shared->Prop}{s:Shared}{prog:Program}{w:World}
end Ts
namespace Br
open PySem PySem.Spec PyProof.Rows L2
theorem okQ{P:Program}{w:World}{K:O8}{mg:Str->Option Value}{base:Heap}{x qual:Str}{st:Stmt}{f:Addr}{fd:FuncData}{N ps:List Str}{k n m:Nat}{body:FS}(F:Fun K x qual st f fd)(S:aF N ps (ak st))
  (hb:∀(cdv:Value) (A:Around) (outer:List Env) (s:Shared) (H:Hp) (E:XK),bu k (A.deeper (envOfC qual (ak st) s.heap.objs.size f cdv))->DSs (vU CX0 P w K mg base N qual (ak st) f cdv A outer s H E).nox (aU st) body)
  (hn:ps.length=n:=by rfl) (hm:N.length=n+m:=by rfl):bw P w K mg base CX0 (k+1) f fd ps (spD (Dm.fn n m body)):=
 F.ok S (fun vs H Q E h=>(Bj h).trans hn.symm) fun cdv A outer s H vs Q E hr h=>⟨_,hb cdv A outer s H E hr,N3 hm h⟩
end Br
namespace Dm
noncomputable def eW:List (Int×Int)->List Dat->Int×Int->Option Dat
 |k::ks,v::vs,p=>if k=p then some v else eW ks vs p
 |_,_,_=>none
noncomputable def qg:List (Int×Int)->List Dat->Int×Int->Dat->List Dat
 |k::ks,v::vs,p,d=>(if k=p then d else v)::qg ks vs p d
 |_,_,_,_=>[]
noncomputable def nk(ks:List (Int×Int))(p:Int×Int):Bool:=ks.any fun k=>decide (k=p)
noncomputable def dm(ks:List (Int×Int))(p:Int×Int):List (Int×Int):=if nk ks p then ks else ks++[p]
noncomputable def fu(ks:List (Int×Int))(vs:List Dat)(p:Int×Int)(d:Dat):List Dat:=if nk ks p then qg ks vs p d else vs++[d]
noncomputable def pairD(p:Int×Int):Dat:=.tup [.int p.1,.int p.2]
noncomputable def wM:FE:=fun ρ=>some (.new (.dcp [] []),ρ)
noncomputable def lQ:Dat->Dat->Option RV
 |.dcp ks vs,.tup [.int i,.int j]=>(eW ks vs (i,j)).map .val
 |_,_=>none
noncomputable def eX:Dat->Dat->Option RV
 |.tup [.int i,.int j],.dcp ks vs=>vB (eW ks vs (i,j)).isSome
 |_,_=>none
noncomputable def fy:List Dat->Option RV
 |[.dcp ks _]=>if ks.length<=SZ then some (.new (.lst (ks.map pairD))) else none
 |_=>none
noncomputable def gT(i:Nat)(j e:FE):FS:=fun ρ=>match e ρ with
 |none=>none
 |some (x,ρ1)=>match tk ρ1 x with
  |none=>none
  |some (d,ρ2)=>match ρ2[i]? with
   | some (.ow _)=>(match j ρ2 with
    | some (.val (.tup [.int p,.int q]),ρ3)=>(match ρ3[i]? with
     |some (.ow (.dcp ks vs))=>if ks.length<SZ then some (.nx (ρ3.set i (.ow (.dcp (dm ks (p,q)) (fu ks vs (p,q) d))))) else none
     |_=>none)
    |_=>none)
   |_=>none
end Dm
namespace Br
open PySem PySem.Spec PyProof.Rows L2
section
variable{ks:List (Int×Int)}{kvs:List (List Key×V)}{ds:List Dat}{p:Int×Int}{H0:Hp}{v:V}{d:Dat}{H:Hp}
theorem rL{p q:Int×Int}(h:kP p=kP q):p=q:=by
 unfold kP at h;injection h with h1 h2
 injection h2 with h2 _
 cases p;cases q;exact Prod.ext (Sum.inl.inj h1) (Sum.inl.inj h2)
theorem fJ{H0 H:Hp}(s:aj H0 H)(r:i6 H0 H v (.dcp ks ds)):∃a x,v=.ref a/\H a=some (.dT x.1 x.2)/\zL H0 x ks/\av H0 (x.1.map (·.2)) ds:=by
 rcases r with r | ⟨a,e,x,q,ek,rs⟩
 ·cases r with
  |dcp q ek rs=>exact⟨_,_,rfl,s _ _ q,ek,rs⟩
 ·exact⟨a,x,e,q,ek,rs⟩
theorem fK{H0 H:Hp}(s:aj H0 H){i j:Int}(r:i6 H0 H v (.tup [.int i,.int j])):∃b,v=.ref b/\H0 b=some (.tup ((kP (i,j)).map kV)):=by
 rcases r with r | ⟨a,e,w⟩
 ·cases r with
  |tup q rs=>
   cases rs with
   |cons r1 rr=>
    cases rr with
    |cons r2 rr=>cases rr;cases r1;cases r2;exact⟨_,rfl,q⟩
 ·exact w.elim
theorem gU(p:Int×Int):∀{kvs:List (List Key×V)} {ks:List (Int×Int)} {ds:List Dat},kvs.map (·.1)=ks.map kP->av H0 (kvs.map (·.2)) ds ->
  (∃d v,Dm.eW ks ds p=some d/\gu kvs (kP p)=some v/\Rep H0 v d)\/(Dm.eW ks ds p=none/\gu kvs (kP p)=none)
 |[],[],_,_,r=>by cases r;exact .inr ⟨rfl,rfl⟩
 |[],_::_,_,e,_=>by cases e
 |_::_,[],_,e,_=>by cases e
 |(k0,v0)::kvs,k::ks,_,e,r=>by
  rw[eg]at r;cases r with
  |cons r0 rr=>
   rw[eg,eg]at e;injection e with e1 e2
   have e1:k0=kP k:=e1;subst e1;unfold Dm.eW;by_cases h:k=p
   ·subst h;rw[if_pos rfl];exact .inl ⟨_,v0,rfl,gB rfl,r0⟩
   ·rw[if_neg h,gC (fun q=>h (rL q))];exact gU p e2 rr
theorem rM(p:Int×Int):∀{kvs:List (List Key×V)} {ks:List (Int×Int)},kvs.map (·.1)=ks.map kP->(kvs.any fun kv=>decide (kv.1=kP p))=Dm.nk ks p
 |[],[],_=>rfl
 |[],_::_,e=>by cases e
 |_::_,[],e=>by cases e
 |(k0,v0)::kvs,k::ks,e=>by
  rw[eg,eg]at e;injection e with e1 e2
  have e1:k0=kP k:=e1;subst e1;unfold Dm.nk;rw[QF,QF,rM p e2];unfold Dm.nk
  congr 1
  by_cases h:k=p
  ·subst h;simp
  ·have:¬kP k=kP p:=fun q=>h (rL q);simp[h,this]
theorem ue(p:Int×Int)(rv:Rep H0 v d):∀{kvs:List (List Key×V)} {ks:List (Int×Int)} {ds:List Dat},kvs.map (·.1)=ks.map kP->av H0 (kvs.map (·.2)) ds ->
  ((kvs.map fun kv=>if kv.1=kP p then (kv.1,v) else kv).map (·.1)=ks.map kP)/\av H0 ((kvs.map fun kv=>if kv.1=kP p then (kv.1,v) else kv).map (·.2)) (Dm.qg ks ds p d)
 |[],[],_,_,r=>by cases r;exact⟨rfl,.nil⟩
 |[],_::_,_,e,_=>by cases e
 |_::_,[],_,e,_=>by cases e
 |(k0,v0)::kvs,k::ks,_,e,r=>by
  rw[eg]at r;cases r with
  |cons r0 rr=>
   rw[eg,eg]at e;injection e with e1 e2
   have e1:k0=kP k:=e1;subst e1;obtain⟨i1,i2⟩:=ue p rv e2 rr;unfold Dm.qg;by_cases h:k=p
   ·subst h;rw[if_pos rfl,eg,eg,eg,i1];simp only[if_true];exact⟨trivial,.cons rv i2⟩
   ·rw[if_neg h,eg,eg,eg,i1];have:¬kP k=kP p:=fun q=>h (rL q);simp only[this,if_false];exact⟨trivial,.cons r0 i2⟩
theorem Ff(p:Int×Int)(rv:Rep H0 v d)(e:kvs.map (·.1)=ks.map kP)(r:av H0 (kvs.map (·.2)) ds) :
  (putK kvs (kP p) v).map (·.1)=(Dm.dm ks p).map kP/\av H0 ((putK kvs (kP p) v).map (·.2)) (Dm.fu ks ds p d):=by
 have ha:=rM p e;unfold putK Dm.dm Dm.fu;rw[ha];cases hb:Dm.nk ks p with
 |true=>simp only[if_true];exact ue p rv e r
 |false=>simp only[Qu,if_false];rw[Pf,Pf,Pf,e];exact⟨rfl,r.append (.cons rv .nil)⟩
theorem bE.snoc{t:Addr}(h:H t=some (.tup [V.int p.1,V.int p.2])):∀{ts:List Addr} {ks:List (Int×Int)},bE H ts ks->bE H (ts++[t]) (ks++[p])
 |[],[],_=>⟨h,trivial⟩
 |_::_,_::_,q=>⟨q.1,bE.snoc h q.2⟩
 |[],_::_,q=>q.elim
 |_::_,[],q=>q.elim
theorem B8{b:Addr}(hb:H b=some (.tup ((kP p).map kV))){ts:List Addr}(e:kvs.map (·.1)=ks.map kP)(k:bE H ts ks):bE H (vZ kvs ts (kP p) b) (Dm.dm ks p):=by
 unfold vZ Dm.dm;rw[rM p e];cases Dm.nk ks p with
 |true=>simpa using k
 |false=>simpa using bE.snoc hb k
theorem qh:∀{ts:List Addr} {ks:List (Int×Int)},bE H ts ks->av H (ts.map V.ref) (ks.map Dm.pairD)
 |[],[],_=>.nil
 |_::_,_::_,q=>.cons (.tup q.1 (.cons (.int _) (.cons (.int _) .nil))) (qh q.2)
 |[],_::_,q=>q.elim
 |_::_,[],q=>q.elim
theorem Kd:OpD (fun x y H Q=>∃a v,x=.ref a/\dJ H a y (some v)/\Q v H) Dm.lQ:=by
 intro H0 H x y dx dy z Q s rx ry e k;unfold Dm.lQ at e;split at e
 ·rename_i ks vs i j;obtain⟨b,rfl,hb⟩:=fK s ry;obtain⟨a,x,rfl,qa,ek,rs⟩:=fJ s rx;rcases gU (i,j) ek.1 rs with⟨d,v,l1,l2,r⟩ | ⟨l1,_⟩
  ·rw[l1]at e;cases e;refine⟨a,v,rfl,?_,k _ H0 H (aG.refl s) r⟩;have:=dJ.t (k:=kP (i,j)) qa (s _ _ hb);rw[l2]at this;exact this
  ·rw[l1]at e;cases e
 ·cases e
theorem Fg:OpD (fun y x H Q=>∃a o,x=.ref a/\dJ H a y o/\Q (.bl o.isSome) H) Dm.eX:=by
 intro H0 H x y dx dy z Q s rx ry e k;unfold Dm.eX at e;split at e
 ·rename_i i j ks vs;cases e;obtain⟨b,rfl,hb⟩:=fK s rx;obtain⟨a,x,rfl,qa,ek,rs⟩:=fJ s ry;refine⟨a,_,rfl,dJ.t (k:=kP (i,j)) qa (s _ _ hb),k _ H0 H (aG.refl s) ?_⟩;rcases gU (i,j) ek.1 rs with⟨d,v,l1,l2,r⟩ | ⟨l1,l2⟩
  ·rw[l1,l2];exact .bl _
  ·rw[l1,l2];exact .bl _
 ·cases e
def B9:List V->Hp->VK->Prop:=fun xs H Q=>∃(a:Addr) (kvs:List (List Key×V)) (ts:List Addr),xs=[.ref a]/\H a=some (.dT kvs ts)/\∀l,H l=none->Q (.ref l) (upd H l (.lst (ts.map V.ref)))
theorem qi:∀ts:List Addr,Vals (ts.map V.ref) (ts.map PX)
 |[]=>.nil
 |_::ts=>.cons rfl (qi ts)
theorem wN{X:Cx}(hc:X.calm=true):cX X (.type "list") B9:=by
 intro nC s σ H xs us Q I r h;obtain⟨a,kvs,ts,rfl,hq,k⟩:=h;obtain⟨u,rfl,rx⟩:=vals1 r;cases rx;obtain⟨z,hd,ys,rel,o,es,ep,h1,h2,h3,h4,h5,h6⟩:=(show aQ X.prog X.w H s.heap a (.dT kvs ts) from I.hok a _ hq)
 have hkeys:(es.map (·.key)).toList=ts.map PX:=by rw[Array.toList_map,h4,<- h6,Pr,Pr];rfl
 have hsz:es.size=ts.length:=by
  have:=congrArg List.length hkeys
  simpa using this
 have hyl:ys.length=ts.length:=by rw[<- h6,gV]
 have hl:ts.length<=sizeLine:=by rw[<- hyl,<- Paired.length rel];exact z
 refine PySem.W.kdl_call (Sx.Ka (es:=es) (ep:=ep) hd) (I.ok.hd hc) ⟨o,h1,h2,h3⟩ (by rw[hsz];exact hl) fun h' tk Cr c hk hL hacc=>?_;have hal:Cr.toList=ts.map PX:=by
  apply Q2;intro i;by_cases hi:i<es.size
  ·have e1:Cr.toList[i]?=some (Cr.toList[i]'(by rw[QU,hacc.1];exact hi)):=Py _;have:=hacc.2 i _ (by rw[<- Ru];exact e1);rw[<- hkeys,e1,<- this,Ru]
  ·rw[PZ (by rw[QU,hacc.1];lia),PZ (by rw[gV,<- hsz];lia)]
 have hobj:aQ X.prog X.w (upd H s.heap.objs.size (.lst (ts.map V.ref))) h' s.heap.objs.size (.lst (ts.map V.ref)):=by refine⟨by rw[gV];exact hl,ts.map PX,c,qi ts,?_⟩;rw[hL,<- hal]
 exact⟨.ref s.heap.objs.size,_,I.laid (t':=tk) hk (Pb _) hobj,rfl,k _ (I.hok.fresh (Pb _))⟩
theorem B_:CallD B9 Dm.fy:=by
 intro H0 H vs ds z Q s rs e k;unfold Dm.fy at e;split at e
 ·split at e
  case isFalse=>cases e
  cases e;cases rs with
  |cons r rr=>cases rr;obtain⟨a,x,rfl,qa,ek,ra⟩:=fJ s r;exact⟨a,x.1,x.2,rfl,qa,fun p hp=>k _ _ _ (aG.iK s hp) ⟨p,rfl,hp,s.free hp,_,aq,qh ek.2⟩⟩
 ·cases e
end
section
variable{σ:L2.St}{H:Hp}{Q:VK}{D:Ends}
theorem MM(h:tD Dm.wM σ H Q):A9 σ H Q:=by obtain⟨H0,ρ,x,ρ',st,e,k⟩:=h;cases e;intro p hp;have g:=aG.iK (o:=HO.dT [] []) st.same hp;exact k _ _ _ (.grow st g) ⟨p,rfl,hp,st.bg hp,st.same.free hp,([],[]),aq,⟨rfl,trivial⟩,.nil⟩
theorem Fi{i:Nat}{j f:FE}(h:tDS (Dm.gT i j f) D σ H):A5 (gm i) (tD j) (tD f) D σ H:=by
 obtain⟨H0,ρ,o,st,e,k⟩:=h;unfold Dm.gT at e;split at e
 ·cases e
 rename_i x ρ1 e1;split at e
 ·cases e
 rename_i d ρ2 e2;split at e
 case h_2=>cases e
 rename_i d0 h2;split at e
 ·rename_i m n ρ3 e3;split at e
  ·rename_i ks vs h3;split at e
   case isFalse=>cases e
   rename_i hz;cases e;refine⟨H0,ρ,_,ρ1,st,e1,fun v H0' H' t r=>?_⟩;obtain⟨H1,t1,b1,r1,_,_⟩:=take1 t (aj.refl _) r e2;obtain⟨a0,q0,_,_⟩:=t1.st.ow i _ h2;refine⟨_,q0,H1,ρ2,_,ρ3,t1.st,e3,fun u H2 Hc t2 r2=>?_⟩;obtain⟨a,q,n',w⟩:=t2.st.ow i _ h3;rw[q0]at q;cases q;obtain⟨y,yy,ek,rs⟩:=w;obtain⟨b,rfl,hb⟩:=fK t2.st.same (.inl r2);obtain⟨p1,p2⟩:=Ff (m,n) (r1.mono t2.stp.s0) ek.1 rs;have sF:y.1.length=ks.length:=by
    have:=congrArg List.length ek.1
    simpa using this
   refine⟨a0,_,rfl,tH.t (k:=kP (m,n)) yy (t2.st.same _ _ hb) (by rw[sF];exact Pq hz (by decide)),?_⟩;have ow:af σ ρ3 a0:=⟨i,_,h3,q0⟩
   have tt:=t1.trans t2;exact k σ H2 _ ⟨t2.st.write h3 q0 ⟨(putK y.1 (kP (m,n)) v,vZ y.1 y.2 (kP (m,n)) b),aq,⟨p1,B8 hb ek.1 ek.2⟩,p2⟩,tt.stp.trans (Stp.write ow) fun b z=>.inl (tt.own b z),fun b z=>.inl (tt.own b (bV h3 z)),rfl⟩
  ·cases e
 ·cases e
end
section
variable{X:Cx}{a b e:Expr}{fa fb f:FE}{pos:Pos}{k:Nat}
theorem Ca:DE X (.Dict [] [] pos) Dm.wM:=PE.weak A_ fun _ _ _=>MM
theorem HL(hr:bu k X.A)(ha:DE X a fa)(hb:DE X b fb)(hs:Ex b:=by intro _ _;rfl):DE X (.Subscript a b pos) (Dm.e2 Dm.lQ fa fb):=PE.weak (x8 (u1 hr) ha hb hs) fun _ _ _=>rz Kd
theorem rN(i:Nat){x:Str}{px sp:Pos}(hr:bu k X.A)(hb:DE X b fb)(he:DE X e f)(hi:X.N[i]?=some x:=by rfl)(hv:Vis X.env.scope x:=by trivial)(hd:(x == ("__debug__" : Str))=false:=by decide)
  (HQ:(x == ("__classdict__" : Str))=false:=by decide) (hs:swapsWith e (some (.Subscript (.Name x px) b sp)) pos.line X.env=pure false:=by rfl):DS X (.Assign [.Subscript (.Name x px) b sp] e pos) (Dm.gT i fb f):=
 PS.weak (x9 (u1 hr) (bR hi hv hd HQ) hb he hs) fun _ _ _=>Fi
theorem Fj{fs:List FE}{p:Pos}(hc:X.calm=true)(hg:Gl X "list")(hm:X.mg "list" = none)(ha:DA X [e] fs)(he:starEach [e] X.env=[(false,eval e X.env)]:=by rfl)(Cs:(backTo pos (starEach [] X.env)).any (·.1)=false:=by rfl):DE X (.Call (.Name "list" p) [e] [] pos) (Dm.eB Dm.fy fs):=ET (wN hc) B_ (by rfl) hg hm ha (he:=he) (Cs:=Cs)
end
end Br
namespace L2
open PySem PySem.Spec PyProof.Rows
section
variable{P:Program}{w:World}{K:O8}{mg:Str->Option Value}{base:Heap}{N:List Str}{qual:Str}{scope:Scope}{f:Addr}{cd:Value}{A:Around}{outer:List Env}{s₀:Shared}{H₀:Hp}{E:XK}{C:Addr}
 {nC:List (Addr×Obj)} {σ:St} {H:Hp} {s:Shared}
end
end L2
namespace Pz
open PySem
section
variable{K:Type}[DecidableEq K]
noncomputable def kg(xs:List (K×Addr×Value))(k:K):List (K×Addr×Value):=xs.filter fun x=>decide (x.1≠k)
theorem lB{β:Type}(f:K×Addr×Value->β){k:K}:∀{xs:List (K×Addr×Value)} {j:Nat} {p:Addr×Value},(xs.map (·.1)).Nodup->xs[j]?=some (k,p)->(xs.map f).eraseIdx j=(kg xs k).map f
 |[],_,_,_,h=>by simp at h
 |x::r,j,p,hn,h=>by
  rw[eg,Pj]at hn;cases j with
  |zero=>
   simp only[List.getElem?_cons_zero,Option.some.injEq]at h;subst h;unfold kg;rw[P7 (by simp),eg,List.eraseIdx_cons_zero]
   congr 1
   refine(Q8.mpr fun y hy=>?_).symm;exact decide_eq_true fun e=>hn.1 (Pc.mpr ⟨y,hy,e⟩)
  |succ j=>simp only[Ra]at h;have hm:k∈r.map (·.1):=Pc.mpr ⟨(k,p),QL h,rfl⟩;have MU:x.1≠k:=fun e=>hn.1 (e▸hm);unfold kg;rw[Qa (by simpa using MU),eg,eg,List.eraseIdx_cons_succ,lB f hn.2 h];rfl
end
section
variable{prog:Program}{w:World}{K:Type}[DecidableEq K]{knd:HeapKind prog w K}{A:Around}{E:Value->Shared->Prop}{s:Shared}{d a:Addr}{k:K}{xs:List (K×Addr×Value)}
theorem rO{p:Addr×Value}{Q:Option DictEntry->Shared->Prop}(hu:knd.room A)(hkey:knd.is s.heap k a)(hm:s.heap.DictOfH knd d xs)(hp:atKey xs k=some p)(hsz:xs.length<=sizeLine)
  (h:∀h',h'.DictOfH knd d (kg xs k)->Q5 d s.heap h'->Q (some ⟨knd.hash k,.ref p.1,p.2⟩) { s with heap:=h',toks:=s.toks+knd.draws k }):wpAny (model prog w) A (Builtin.Dict.takeOut d (.ref a)) Q E s:=by
 obtain⟨o,es,ep,ho,hc,hd,he,his,hn⟩:=hm;unfold Builtin.Dict.takeOut
 try with_reducible refine wpAny_holding ?_
 refine wpAny_bind (knd.pyHash hu hkey (wpAny_bind (wpAny_dictFind_heap (s:={ s with toks:=s.toks+knd.draws k }) hu hkey ho hd he his hn ?_ ?_)))
 ·intro hno;rw[atKey_none_of_get hno]at hp;exact nomatch hp
 ·intro j q hj;have e:=atKey_of_get hn hj;rw[e]at hp;cases hp;refine wpAny_bind (wpAny_dictEntries (s:={ s with toks:=s.toks+knd.draws k }) ho hd ?_);rw[entry_at he j,hj];refine wpAny_bind (wpAny_updateDictKeys (hz:=by rw [size_of_entries he];exact hsz) (s:={ s with toks:=s.toks+knd.draws k }) ho hd (wpAny_pure (h _ ⟨_,_,ep+1,Ri _ ho (Obj.isFreed_of_dict (Obj.data_mapDictKeys hd _)),
   hc.mapDictKeys _,Obj.data_mapDictKeys hd _,?_,fun x hx=>knd.keeps (his x (PJ.mp hx).1) ho hd (QW ..),?_⟩ (QW ..))))
  ·have:=lB (entryOfKey knd) hn hj;rw[<- he]at this;rw[<- this];obtain⟨l⟩:=es;have hl:j<l.length:=by
    have:=size_of_entries he;have h2:=(Pa.mp hj).1;simp at this
    lia
   simp[Array.eraseIdxIfInBounds,hl]
  ·exact hn.sublist ((RA (p:=fun x:K×Addr×Value=>decide (x.1≠k)) (l:=xs)).map _)
theorem wO(knd:HeapKind prog w K)(d a:Addr) :
  MeetsIn prog w (Builtin.«dict.pop» ⟨[.ref d,.ref a],[]⟩) (fun A R s=>knd.room A.in1∧∃ k xs p,knd.is s.heap k a∧s.heap.DictOfH knd d xs∧xs.length≤sizeLine∧atKey xs k=some p ∧
   ∀h',h'.DictOfH knd d (kg xs k)->Q5 d s.heap h'->R (.ok (.ret p.2)) { s with heap:=h',toks:=s.toks+knd.draws k }):=
 .of_wp fun A R s ⟨hu,k,xs,p,hkey,hm,hsz,hp,h⟩=>by
  obtain⟨o,es,ep,ho,hc,hd,he,his,hn⟩:=id hm;unfold Builtin.«dict.pop»;refine wpAny_bind ?_;unfold Builtin.Dict.keyAndDefault;refine wpAny_bind (wpAny_notOrdered_dict hm.typeIs ?_);show wpAny _ _ (pure (d,PX a,none)) _ _ s;refine wpAny_pure ?_;have MU:es.isEmpty=false:=by
   cases hx:xs with
   |nil=>rw[hx]at hp;exact nomatch hp
   |cons x r=>
    have:=size_of_entries he;rw[hx]at this;cases hq:es.isEmpty with
    |false=>rfl
    |true=>rw[Array.isEmpty_iff.mp hq]at this;exact nomatch this
  simp only[show (keyPart (.ref a)).isSome=false from rfl,Qu,if_false];refine wpAny_bind (wpAny_dictEntries ho hd (wpAny_bind (wpAny_pure ?_)));simp only[MU,Qu,if_false];refine wpAny_bind (rO hu hkey hm hp hsz fun h' hm' hs'=>?_);simp only[Option.isNone_some,Qu,if_false];exact wpAny_bind (wpAny_letGo (wpAny_pure ⟨p.2,rfl,h h' hm' hs'⟩))
end
section
variable{prog:Program}{w:World}{K:Type}[DecidableEq K]{kd:KeyKind prog w K}{A:Around}{E:Value->Shared->Prop}{s:Shared}{d a:Addr}{k:K}{xs:List (List K×Addr×Value)}
theorem Cb{es:List DictEntry}(hn:(es.map (·.hash)).Nodup){e:DictEntry}(he:e∈es):(es.filter (·.hash == e.hash)).length<=1:=by
 have h1:(es.filter (·.hash == e.hash)).length=((es.map (·.hash)).filter (· == e.hash)).length:=by rw[List.filter_map,gV];rfl
 have h2:((es.map (·.hash)).filter (· == e.hash)).length=(es.map (·.hash)).count e.hash:=by rw[List.count_eq_length_filter]
 rw[h1,h2];exact List.nodup_iff_count.mp hn _
theorem rP{id:String}{o:Obj}{es ep}{Q:Array DictEntry->Shared->Prop}(ho:s.heap.get? d=some o)(hd:o.data=.dict es ep)(he:es.toList=xs.map (entryOfKey (tupleKind kd)))(his:∀x∈xs,(tupleKind kd).is s.heap x.1 x.2.1)(hh:(xs.map fun x=>(tupleKind kd).hash x.1).Nodup)(h:Q es s) :
  wpAny (model prog w) A (Builtin.Dict.entriesForEmpty id d) Q E s:=by
 unfold Builtin.Dict.entriesForEmpty;refine wpAny_bind (wpAny_dictEntries ho hd ?_);refine wpAny_bind ?_;rw[<- Array.forIn_toList];have hn:(es.toList.map (·.hash)).Nodup:=by rw[he,Pr];exact hh
 refine wpAny_forIn_list _ (fun xq _ s'=>s'=s/\∀e∈xq,e∈es.toList) _ ?_ ?_ _ _ ⟨rfl,fun _ h=>h⟩
 ·rintro e xq b s' ⟨rfl,hall⟩;have hm:=hall e (O9 ..);have hm':=hm;rw[he]at hm';obtain⟨x,hx,rfl⟩:=Pc.mp hm';have hT:=(show IsTupleKey kd s'.heap x.1 x.2.1 from his x hx).typeIs;show wpAny _ _ (Builtin.Dict.quietEq (.ref x.2.1) >>= _) _ _ s';refine wpAny_bind ?_;unfold Builtin.Dict.quietEq;refine wpAny_bind (wpAny_specialOf hT F.slot_tuple_eq.lookup (wpAny_pure ?_));have hc:¬(es.filter (·.hash == (entryOfKey (tupleKind kd) x).hash)).size>1:=by
   have:=Cb hn hm;rw[<- Array.toList_filter,QU]at this
   lia
  split
  ·first | rw[if_neg hc] | skip
   exact wpAny_pure ⟨rfl,fun e he'=>hall e (Dk _ he')⟩
  ·exact wpAny_pure ⟨rfl,fun e he'=>hall e (Dk _ he')⟩
 ·rintro b s' ⟨rfl,_⟩;exact wpAny_pure h
theorem wQ{o:Addr}{Q:Value->Shared->Prop}(hoS:(o == sysModules)=false)(ho:s.heap.DictOfH (tupleKind kd) o xs)(hsz:xs.length<=sizeLine)(hh:(xs.map fun x=>(tupleKind kd).hash x.1).Nodup)
  (h:∀h',h'.DictOfH (tupleKind kd) s.heap.objs.size xs->Q5 s.heap.objs.size (s.heap.push { cls:=.type "dict",data:=.dict #[] }) h'->Q (.ref s.heap.objs.size) { s with heap:=h' }) :
  wpAny (model prog w) A (call (.type "dict") [.ref o]) Q E s:=by
 refine callType_codes (Q₁:=fun obj s₁=>obj=.ref s.heap.objs.size/\s₁={ s with heap:=s.heap.push { cls:=.type "dict",data:=.dict #[] } }) F.kt_called_dict (F.kt_typeCall_dict_1 _) F.entry_dict_init (kt_code_dict_new _ ⟨rfl,rfl⟩) ?_;rintro obj s₁ ⟨rfl,rfl⟩;have hnew:(s.heap.push { cls:=.type "dict",data:=.dict #[] }).DictOfH (tupleKind kd) s.heap.objs.size []:=Heap.DictOfH.new s.heap;have hdo:s.heap.objs.size≠o:=by obtain⟨_,_,_,hg,_⟩:=ho;exact fun e=>absurd (Po hg) (by rw[e];exact QT _)
 obtain⟨oo,es,ep,ho1,hc,hd,he,his,hn⟩:=id ho;have kp:∀{k:List K} {b:Addr},(tupleKind kd).is s.heap k b->(tupleKind kd).is (s.heap.push { cls:=.type "dict",data:=.dict #[] }) k b:=fun {k b} ⟨o,it,n,q1,q2⟩=>⟨o,it,n,Ph _ q1,q2⟩;have ho':(s.heap.push { cls:=.type "dict",data:=.dict #[] }).DictOfH (tupleKind kd) o xs:=⟨oo,es,ep,Ph _ ho1,hc,hd,he,fun x hx=>kp (his x hx),hn⟩
 have hg:(s.heap.push { cls:=.type "dict",data:=.dict #[] }).get? s.heap.objs.size=some { cls:=.type "dict",data:=.dict #[] }:=P5 _ rfl;refine⟨hnew.typeIs,F.args_dict_init_2 _ _,?_⟩;unfold Builtin.«dict.__init__»;refine wpAny_bind ?_;unfold Builtin.Dict.selfAndRest;refine wpAny_bind (wpAny_notOrdered_dict hnew.typeIs ?_);show wpAny _ _ (pure (s.heap.objs.size,[PX o])) _ _ _;refine wpAny_pure ?_;show wpAny _ _ (Builtin.Dict.updateFrom "dict.__init__" s.heap.objs.size (.ref o) [] .none) _ _ _;unfold Builtin.Dict.updateFrom;refine wpAny_bind (wpAny_typeOf ho'.typeIs ?_);rw[if_neg (by decide)];refine wpAny_bind ?_;unfold Builtin.Dict.merge;refine wpAny_bind ?_;unfold Builtin.Dict.readDirectly;refine wpAny_bind (wpAny_isInstance ho'.typeIs isSubtype_dict_dict ?_);simp only[Bool.not_true,Qu,if_false];refine wpAny_bind (wpAny_specialOf ho'.typeIs RQ.lookup (wpAny_pure ?_));simp only[beq_self_eq_true,if_true];refine wpAny_bind (wpAny_pure ?_);unfold Builtin.Dict.mergeDict;rw[if_neg (by simpa using hdo)];unfold Rw;rw[if_neg (by rw[hoS];exact Px)];refine wpAny_bind (wpAny_pure ?_);refine wpAny_bind (wpAny_dictEntries (Ph _ ho1) hd ?_);dsimp only;cases hx:xs with
 |nil=>subst hx;have h0:es=#[]:=Array.toList_eq_nil_iff.mp he;subst h0;rw[if_neg (by simp)];refine wpAny_bind (wpAny_dictEpoch (Ph _ ho1) hd ?_);refine wpAny_bind (wpAny_dictEntries (Ph _ ho1) hd ?_);rw[Std.Legacy.Range.forIn_eq_forIn_range'];refine wpAny_bind (wpAny_pure (wpAny_pure ?_));show wpAny _ _ (Builtin.Dict.addKeywords s.heap.objs.size [] >>= _) _ _ _;exact wpAny_bind (wpAny_pure (wpAny_pure ⟨rfl,h _ hnew (Q5.refl _ _)⟩))
 |cons x r=>
  have hf:¬(decide (es.size<=8)&&es.all fun e=>(keyPart e.key).isSome)=true:=fun z=>by have z2:=(Bool.and_eq_true_iff.mp z).2;rw[Array.all_eq_true_iff_forall_mem]at z2;have hm:entryOfKey (tupleKind kd) x∈es:=Array.mem_toList_iff.mp (by rw[he,hx];exact O9 ..);exact nomatch z2 _ hm
  rw[if_pos (by rw[Bool.not_eq_true'];exact Bool.eq_false_iff.mpr hf)];refine wpAny_bind (wpAny_dictEntries hg rfl ?_);rw[if_pos (by rfl)];refine wpAny_bind (rP (Ph _ ho1) hd he (fun x hx=>kp (his x hx)) hh ?_);have MU:(!es.isEmpty)=true:=by
   cases hq:es.isEmpty with
   |false=>rfl
   |true=>rw[Array.isEmpty_iff.mp hq,hx]at he;exact nomatch he
  rw[if_pos MU];refine wpAny_bind (wpAny_updateDictKeysTo hg rfl (wpAny_pure ?_) (by rw[size_of_entries he];exact Nat.le_succ_of_le hsz));show wpAny _ _ (Builtin.Dict.addKeywords s.heap.objs.size [] >>= _) _ _ _;refine wpAny_bind (wpAny_pure (wpAny_pure ⟨rfl,h _ ⟨_,_,1,Ri _ hg rfl,?_,rfl,he,fun y hy=>(tupleKind kd).keeps (kp (his y hy)) hg rfl (QW ..),hn⟩ (QW ..)⟩));exact⟨rfl,rfl,rfl⟩
end
end Pz
namespace Dm
noncomputable def kL(a b:FE):FE:=fun ρ=>match a ρ with
 |none=>none
 |some (x,ρ1)=>match pk ρ1 x with
  | some (.dcp _ _)=>(match b ρ1 with
   |none=>none
   |some (y,ρ2)=>match pk ρ2 x with
    | some (.dcp ks vs)=>(match pk ρ2 y with
     |some (.tup [.int i,.int j])=>some (.val ((eW ks vs (i,j)).getD .non),ρ2)
     |_=>none)
    |_=>none)
  |_=>none
noncomputable def dO:List (Int×Int)->List Dat->Int×Int->List (Int×Int)
 |k::ks,_::vs,p=>if k=p then dO ks vs p else k::dO ks vs p
 |_,_,_=>[]
noncomputable def eY:List (Int×Int)->List Dat->Int×Int->List Dat
 |k::ks,v::vs,p=>if k=p then eY ks vs p else v::eY ks vs p
 |_,_,_=>[]
noncomputable def jd(i:Nat)(e:FE):FE:=fun ρ=>match ρ[i]? with
 | some (.ow (.dcp _ _))=>(match e ρ with
  | some (.val (.tup [.int p,.int q]),ρ1)=>(match ρ1[i]? with
   | some (.ow (.dcp ks vs))=>(match eW ks vs (p,q) with
    |some d=>some (.val d,ρ1.set i (.ow (.dcp (dO ks vs (p,q)) (eY ks vs (p,q)))))
    |none=>none)
   |_=>none)
  |_=>none)
 |_=>none
noncomputable def gW(ks:List (Int×Int)):Bool:=ks.all fun p=>decide (0<=p.1/\p.1<20/\0<=p.2/\p.2<20)
noncomputable def kM:List Dat->Option RV
 |[.dcp ks vs]=>if gW ks then some (.new (.dcp ks vs)) else none
 |_=>none
noncomputable def tkp(ρ:Env):Val->Option (Dat×Env)
 |.val d=>some (d,ρ)
 |.new d=>some (d,ρ)
 |.slot i=>match ρ[i]? with
  |some (.ow (.dcp ks vs))=>some (.dcp ks vs,ρ)
  |some (.ow d)=>some (d,ρ.set i (.sh d))
  |some (.sh d)=>some (d,ρ)
  |_=>none
noncomputable def wR(ρ:Env):List Val->Option (List Dat×Env)
 |[]=>some ([],ρ)
 |x::r=>match tkp ρ x with
  |none=>none
  |some (d,ρ1)=>match wR ρ1 r with
   |none=>none
   |some (ds,ρ2)=>some (d::ds,ρ2)
noncomputable def fW(f:List Dat->Option RV)(as:List FE):FE:=fun ρ=>match eAs as ρ with
 |none=>none
 |some (xs,ρ1)=>match wR ρ1 xs with
  |none=>none
  |some (ds,ρ2)=>match f ds with
   |none=>none
   |some v=>if aM v.dat then some (v.bC,ρ2) else none
end Dm
namespace Br
open PySem PySem.Spec PyProof.Rows L2
noncomputable def kh:List (List Key×V)->List Addr->List Key->List Addr
 |kv::kvs,t::ts,k=>if kv.1=k then kh kvs ts k else t::kh kvs ts k
 |_,_,_=>[]
theorem KT.drop{H:Hp}{kvs:List (List Key×V)}{xs:List (List Key×Addr×Value)}(r:KT H kvs xs)(k:List Key):KT H (jR kvs k) (Pz.kg xs k)/\(Pz.kg xs k).map (·.2.1)=kh kvs (xs.map (·.2.1)) k:=by
 induction r with
 |nil=>exact⟨.nil,rfl⟩
 |@cons p q ps qs h t ih=>
  obtain⟨i1,i2⟩:=ih;unfold jR Pz.kg at i1 ⊢;unfold Pz.kg at i2;rw[eg];unfold kh;by_cases e:p.1=k
  ·have e':q.1=k:=h.1.symm.trans e;rw[P7 (by simp[e]),P7 (by simp[e']),if_pos e];exact⟨i1,i2⟩
  ·have e':¬q.1=k:=fun z=>e (h.1.trans z);rw[Qa (by simp[e]),Qa (by simp[e']),if_neg e,eg,i2];exact⟨.cons h i1,rfl⟩
theorem uf{H0 H1:Hp}(p:Int×Int):∀{kvs:List (List Key×V)} {ts:List Addr} {ks:List (Int×Int)} {ds:List Dat},kvs.map (·.1)=ks.map kP->bE H1 ts ks->av H0 (kvs.map (·.2)) ds ->
  (jR kvs (kP p)).map (·.1)=(Dm.dO ks ds p).map kP/\bE H1 (kh kvs ts (kP p)) (Dm.dO ks ds p)/\av H0 ((jR kvs (kP p)).map (·.2)) (Dm.eY ks ds p)
 |[],[],[],ds,_,_,r=>by cases r;exact⟨rfl,trivial,.nil⟩
 |[],_::_,[],ds,_,h,r=>h.elim
 |[],_,_::_,_,e,_,_=>by cases e
 |_::_,_,[],_,e,_,_=>by cases e
 |_::_,[],_::_,_,_,h,_=>h.elim
 |(k,v)::kvs,t::ts,k'::ks,ds,e,h,r=>by
  rw[eg,eg]at e;injection e with e1 e2
  cases r with
  |cons h0 r=>
   obtain⟨i1,i2,i3⟩:=uf p e2 h.2 r;unfold jR at i1 i3 ⊢;dsimp only at e1;subst e1;unfold kh Dm.dO Dm.eY;by_cases q:k'=p
   ·subst q;rw[P7 (by simp),if_pos rfl,if_pos rfl,if_pos rfl];exact⟨i1,i2,i3⟩
   ·have q':¬kP k'=kP p:=fun z=>q (rL z);rw[Qa (by simpa using q'),if_neg q,if_neg q,if_neg q'];exact⟨by rw[eg,eg,i1],⟨h.1,i2⟩,by rw[eg];exact .cons h0 i3⟩
section
variable{X:Cx}{nC:List (Addr×Obj)}{σ:L2.St}{H:Hp}{s:Shared}{a b:Addr}{kvs:List (List Key×V)}{ts:List Addr}{k:List Key}{A:Around}{E:Value->Shared->Prop}
theorem Ke{v:V}{Q:Value->Shared->Prop}(hu:A.units+1<cLine)(I:Inv X nC σ H s)(e:H a=some (.dT kvs ts))(eb:H b=some (.tup (k.map kV)))(l:gu kvs k=some v)
  (h:∀w' s',Inv X nC σ (upd H a (.dT (jR kvs k) (kh kvs ts k))) s'->RelV v w'->Q w' s'):wpAny (model X.prog X.w) A (call (.builtin "dict.pop") [.ref a,.ref b]) Q E s:=by
 obtain⟨z,hd,xs,rel,dd⟩:=A3 I.hok e;obtain⟨w',hw,rw'⟩:=jN.some_of (v:=v) (o:=(atKey xs k).map (·.2)) (by rw[<- l];exact rel.val k);obtain⟨p,hp,rfl⟩:=Option.map_eq_some_iff.mp hw;have hz:xs.length<=sizeLine:=by rw[<- Paired.length rel];exact z
 have hts:xs.map (·.2.1)=ts:=by
  obtain⟨_,_,xs2,_,o2,es2,ep2,g1,g2,g3,g4,g5,g6⟩:=(show aQ X.prog X.w H s.heap a (.dT kvs ts) from I.hok a _ e)
  exact v5 dd g1 g3 g4 g6
 refine call_meetsIn PySem.F.slot_dict_pop dd.typeIs PySem.F.entry_dict_pop (PySem.F.args_dict_pop_2 _ _) (Pz.wO (tupleKind (aJ X.prog X.w)) a b)
  ⟨tupleKind_room_in1 hu,k,xs,p,iY I.hok eb,dd,hz,hp,fun h' dd' hs=>h _ _ ?_ rw'⟩
 obtain⟨q,es,ep,hq,h2,h3,h4,_,h5⟩:=dd';obtain⟨d1,d2⟩:=KT.drop rel k;refine lU I (by rw[e];exact QK) hs ⟨q,hq⟩ ⟨P0 (A2 kvs k) z,hd,_,d1.keeps fun c ys ec=>?_,q,es,ep,hq,h2,h3,h4,h5,?_⟩
 ·rw[ao (Hi ec e (fun z=>nomatch z))];exact ec
 ·rw[d2,hts]
theorem Fo{Q:Value->Shared->Prop}(I:Inv X nC σ H s)(e:H a=some (.dT kvs ts))(hh:(kvs.map fun kv=>(tupleKind (aJ X.prog X.w)).hash kv.1).Nodup)(h:∀p s',H p=none->Inv X nC σ (upd H p (.dT kvs ts)) s'->Q (.ref p) s'):wpAny (model X.prog X.w) A (call (.type "dict") [.ref a]) Q E s:=by
 obtain⟨z,hd,xs,rel,dd⟩:=A3 I.hok e;have hts:xs.map (·.2.1)=ts:=by
  obtain⟨_,_,xs2,_,o2,es2,ep2,g1,g2,g3,g4,g5,g6⟩:=(show aQ X.prog X.w H s.heap a (.dT kvs ts) from I.hok a _ e)
  exact v5 dd g1 g3 g4 g6
 have keys:∀{l:List (List Key×V)} {m:List (List Key×Addr×Value)},KT H l m->l.map (·.1)=m.map (·.1):=by
  intro l m q
  induction q with
  |nil=>rfl
  |cons hq _ ih=>rw[eg,eg,ih,hq.1]
 have hh':(xs.map fun x=>(tupleKind (aJ X.prog X.w)).hash x.1).Nodup:=by
  have:(xs.map fun x=>(tupleKind (aJ X.prog X.w)).hash x.1)=(xs.map (·.1)).map (tupleKind (aJ X.prog X.w)).hash:=by rw[Pr];rfl
  rw[this,<- keys rel,Pr];exact hh
 refine Pz.wQ hd dd (by rw[<- Paired.length rel];exact z) hh' fun h' dd' hs=>?_;obtain⟨q,es,ep,hq,h2,h3,h4,_,h5⟩:=dd';have hf:=I.hok.fresh (Pb s.heap.objs.size);refine h _ _ hf (I.laid (a:=s.heap.objs.size) (o:=.dT kvs ts) (t':=s.toks) (fun b q hq=>?_) (Pb _) ⟨z,beq_eq_false_iff_ne.mpr (P4 (P6 I.big)),xs,rel.keeps fun c ys ec=>?_,q,es,ep,hq,h2,h3,h4,h5,hts⟩)
 ·exact(hs.2 b (P6 (Po hq))).trans (Ph _ hq)
 ·rw[ao (fun z=>by rw[z,hf]at ec;cases ec)];exact ec
end
section
variable{P:Program}{kvs:List (List Key×V)}{w:World}{ks:List (Int×Int)}{X:Cx}
noncomputable def hp(i j:Nat):Int:=reduceHash (Rq [hashInt (i:Int),hashInt (j:Int)])
theorem Kf:((PM 400).map fun n=>hp (n / 20) (n % 20)).Nodup:=by decide +kernel
theorem z8{i j i' j':Nat}(h1:i<20)(h2:j<20)(h3:i'<20)(h4:j'<20)(e:hp i j=hp i' j'):i=i'/\j=j':=by
 have a1:∀{i j:Nat},i<20->j<20->((PM 400).map fun n=>hp (n / 20) (n % 20))[20*i+j]?=some (hp i j):=fun {i j} h1 h2=>by rw[PD,QV (by lia)];show some (hp ((20*i+j) / 20) ((20*i+j) % 20))=some _;rw[show (20*i+j) / 20=i by lia,show (20*i+j) % 20=j by lia]
 have:=(List.getElem?_inj (by rw[gV,Qp];lia) Kf).mp ((a1 h1 h2).trans ((congrArg some e).trans (a1 h3 h4).symm))
 lia
theorem Cc{K:Type}[DecidableEq K](kd:KeyKind P w K)(ks:List K):(tupleKind kd).hash ks=reduceHash (Rq (ks.map kd.hash)):=rfl
theorem ug(i:Int):(aJ P w).hash (.inl i)=hashInt i:=rfl
theorem yx(p:Int×Int):(tupleKind (aJ P w)).hash (kP p)=reduceHash (Rq [hashInt p.1,hashInt p.2]):=by rw[Cc];unfold kP;rw[eg,eg,Rj,ug,ug]
theorem Cd{f:List Key->Int}(hf:∀p q:Int×Int,(0<=p.1/\p.1<20/\0<=p.2/\p.2<20)->(0<=q.1/\q.1<20/\0<=q.2/\q.2<20)->f (kP p)=f (kP q)->p=q)(e:kvs.map (·.1)=ks.map kP)(hs:Dm.gW ks=true)(hn:(kvs.map (·.1)).Nodup):(kvs.map fun kv=>f kv.1).Nodup:=by
 have h1:(kvs.map fun kv=>f kv.1)=ks.map fun p=>f (kP p):=by have:=congrArg (List.map f) e;rw[Pr,Pr]at this;exact this
 rw[h1];have hk:ks.Nodup:=by rw[e]at hn;exact(Qq.mp hn).imp fun {a b} h q=>h (by rw[q])
 refine Qq.mpr (QE ?_ hk);intro a b ha hb ne q;exact ne (hf a b (of_decide_eq_true (Qe.mp hs a ha)) (of_decide_eq_true (Qe.mp hs b hb)) q)
theorem uh(p q:Int×Int)(h1:0<=p.1/\p.1<20/\0<=p.2/\p.2<20)(h2:0<=q.1/\q.1<20/\0<=q.2/\q.2<20)(e:(tupleKind (aJ P w)).hash (kP p)=(tupleKind (aJ P w)).hash (kP q)):p=q:=by
 rw[yx,yx]at e;obtain⟨p1,p2⟩:=p;obtain⟨q1,q2⟩:=q;obtain⟨i,rfl⟩:∃i:Nat,p1=(i:Int):=⟨p1.toNat,by lia⟩
 obtain⟨j,rfl⟩:∃i:Nat,p2=(i:Int):=⟨p2.toNat,by lia⟩
 obtain⟨i',rfl⟩:∃i:Nat,q1=(i:Int):=⟨q1.toNat,by lia⟩
 obtain⟨j',rfl⟩:∃i:Nat,q2=(i:Int):=⟨q2.toNat,by lia⟩
 dsimp only at h1 h2 e;have e2:hp i j=hp i' j':=by unfold hp;exact e
 obtain⟨rfl,rfl⟩:=z8 (by lia) (by lia) (by lia) (by lia) e2;rfl
theorem uo(e:kvs.map (·.1)=ks.map kP)(hs:Dm.gW ks=true)(hn:(kvs.map (·.1)).Nodup):(kvs.map fun kv=>(tupleKind (aJ P w)).hash kv.1).Nodup:=Cd uh e hs hn
theorem wU:cX X (.type "dict") (fun xs H Q=>∃a kvs ts ks,xs=[.ref a]/\H a=some (.dT kvs ts)/\kvs.map (·.1)=ks.map kP/\Dm.gW ks=true/\∀p,H p=none->Q (.ref p) (upd H p (.dT kvs ts))):=by
 intro nC s σ H xs us Q I r h;obtain⟨a,kvs,ts,ks,rfl,ha,ek,hs,k⟩:=h;obtain⟨u,rfl,rx⟩:=vals1 r;cases rx;have hn:(kvs.map (·.1)).Nodup:=by
  obtain⟨_,_,xs2,rel,o2,es2,ep2,g1,g2,g3,g4,g5,g6⟩:=(show aQ X.prog X.w H s.heap a (.dT kvs ts) from I.hok a _ ha)
  have keys:∀{l:List (List Key×V)} {m:List (List Key×Addr×Value)},KT H l m->l.map (·.1)=m.map (·.1):=by
   intro l m q
   induction q with
   |nil=>rfl
   |cons hq _ ih=>rw[eg,eg,ih,hq.1]
  rw[keys rel];exact g5
 exact Fo I ha (uo ek hs hn) fun p s' hp I'=>⟨.ref p,_,I',rfl,k p hp⟩
theorem Ce:CallD (fun xs H Q=>∃a kvs ts ks,xs=[.ref a]/\H a=some (.dT kvs ts)/\kvs.map (·.1)=ks.map kP/\Dm.gW ks=true/\∀p,H p=none->Q (.ref p) (upd H p (.dT kvs ts))) Dm.kM:=by
 intro H0 H vs ds z Q s rs e k;unfold Dm.kM at e;split at e
 ·rename_i ks vs';split at e
  case isFalse=>cases e
  rename_i hs;cases e;cases rs with
  |cons r rr=>cases rr;obtain⟨a,x,rfl,ha,ek,rs⟩:=fJ s r;exact⟨a,x.1,x.2,ks,rfl,ha,ek.1,hs,fun p hp=>k _ _ _ (aG.iK s hp) ⟨p,rfl,hp,s.free hp,x,aq,ek,rs⟩⟩
 ·cases e
def Cf(td ty:TE):TE:=fun σ H Q=>td σ H fun x H1=>∃a,x=.ref a/\IsD H1 a/\ty σ H1 fun y H2=>∃kvs ts k b v,H2 a=some (.dT kvs ts)/\y=.ref b/\H2 b=some (.tup (k.map kV))/\gu kvs k=some v/\Q v (upd H2 a (.dT (jR kvs k) (kh kvs ts k)))
theorem Cg{o e:Expr}{Ko cpos:Pos}{td ty:TE}(hu:X.A.units+1<cLine)(ho:PE X o td)(he:PE X e ty)(m:M1 X o "pop" Ko e cpos):PE X (.Call (.Attribute o "pop" Ko) [e] [] cpos) (Cf td ty):=by intro nC s σ H Q I h;refine wpAny_Call_method m.base m.few m.line PySem.F.plainAttrs_dict PySem.F.slot_dict_pop PySem.F.type_dict_pop (thn (ho nC s σ H _ I h) fun u s1 ⟨x,H1,I1,rx,a,ex,d,q1⟩=>?_);subst ex;obtain rfl:u=PX a:=rx;obtain⟨t1,t2,_⟩:=Bb I1 d;refine⟨t1,t2,?_⟩;rw[m.trees];refine Rg rfl (Ry (RG (thn (he nC s1 σ H1 _ I1 q1) fun iv s2 ⟨y,H2,I2,ry,kvs,ts,k,b,v,ea,ey,eb,l,q2⟩=>Rt ?_)));subst ey;cases (show iv=PX b from ry);exact Ke hu I2 ea eb l fun w' s3 I3 rw'=>⟨v,_,I3,rw',q2⟩
end
section
variable{σ:L2.St}{H:Hp}{Q:VK}
theorem Fp{i:Nat}{f:FE}(h:tD (Dm.jd i f) σ H Q):Cf (gm i) (tD f) σ H Q:=by
 obtain⟨H0,ρ,x,ρ',st,e,k⟩:=h;unfold Dm.jd at e;split at e
 case h_2=>cases e
 rename_i ks0 vs0 h0;split at e
 case h_2=>cases e
 rename_i m n ρ1 e1;split at e
 case h_2=>cases e
 rename_i ks vs h1;split at e
 case h_2=>cases e
 rename_i d hl;cases e;obtain⟨a0,q0,n0,y0,yy0,_⟩:=st.ow i _ h0;refine⟨_,q0,a0,rfl,.inr ⟨y0.1,y0.2,.inl yy0⟩,H0,ρ,_,ρ1,st,e1,fun u H1 Hb t1 r1=>?_⟩;obtain⟨b,rfl,hb⟩:=fK t1.st.same (.inl r1);obtain⟨a,q,n',w⟩:=t1.st.ow i _ h1;rw[q0]at q;cases q;obtain⟨y,yy,ek,rs⟩:=w;rcases gU (m,n) ek.1 rs with⟨d',v,l1,l2,r⟩ | ⟨l1,_⟩
 ·rw[hl]at l1;cases l1;obtain⟨p1,p2,p3⟩:=uf (m,n) ek.1 ek.2 rs;have ow:af σ ρ1 a0:=⟨i,_,h1,q0⟩
  exact⟨y.1,y.2,kP (m,n),b,v,yy,rfl,t1.st.same _ _ hb,l2,k v H1 _ ⟨t1.st.write h1 q0 ⟨(jR y.1 (kP (m,n)),kh y.1 y.2 (kP (m,n))),aq,⟨p1,p2⟩,p3⟩,t1.stp.trans (Stp.write ow) fun b z=>.inl (t1.own b z),fun b z=>t1.own b (bV h1 z),fun j z=>trivial⟩ r⟩
 ·rw[hl]at l1;cases l1
theorem Fq{fo fi:FE}(h:tD (Dm.kL fo fi) σ H Q):Bc (tD fo) (tD fi) σ H Q:=by
 obtain⟨H0,ρ,x,ρ',st,e,k⟩:=h;unfold Dm.kL at e;split at e
 ·cases e
 rename_i x1 ρ1 e1;split at e
 case h_2=>cases e
 rename_i ks0 vs0 p0;split at e
 ·cases e
 rename_i y1 ρ2 e2;split at e
 case h_2=>cases e
 rename_i ks vs p1;split at e
 case h_2=>cases e
 rename_i i j p2;cases e;refine⟨H0,ρ,x1,ρ1,st,e1,fun v H1 Hb t1 r1=>?_⟩;obtain⟨a,x0,rfl,qa0,_,_⟩:=fJ t1.st.same (r1.look t1.st p0);refine⟨a,rfl,.inr ⟨x0.1,x0.2,.inl qa0⟩,H1,ρ1,y1,_,t1.st,e2,fun u H2 Hc t2 r2=>?_⟩;obtain⟨b,rfl,hb⟩:=fK t2.st.same (r2.look t2.st p2);obtain⟨a',x1,ea,qa,ek,rs⟩:=fJ t2.st.same ((r1.mono t2).look t2.st p1);cases ea;refine⟨_,dJ.t (k:=kP (i,j)) qa (t2.st.same _ _ hb),k _ H2 Hc (t1.trans t2) ?_⟩;rcases gU (i,j) ek.1 rs with⟨d,w,l1,l2,r⟩ | ⟨l1,l2⟩
 ·rw[l1,l2];exact r
 ·rw[l1,l2];exact Rep.non
end
section
variable{X:Cx}{a b e:Expr}{fs:List FE}{fa fb:FE}{p pos:Pos}{k:Nat}
theorem Ft(hg:Gl X "dict")(hm:X.mg "dict" = none)(ha:DA X [e] fs)(he:starEach [e] X.env=[(false,eval e X.env)]:=by rfl)(Cs:(backTo pos (starEach [] X.env)).any (·.1)=false:=by rfl):DE X (.Call (.Name "dict" p) [e] [] pos) (Dm.eB Dm.kM fs):=ET wU Ce (by rfl) hg hm ha (he:=he) (Cs:=Cs)
theorem yz(i:Nat){x:Str}{px Ko cpos:Pos}(hr:bu k X.A)(hb:DE X b fb)(hi:X.N[i]?=some x:=by rfl)(hv:Vis X.env.scope x:=by trivial)(hd:(x == ("__debug__" : Str))=false:=by decide)
  (HQ:(x == ("__classdict__" : Str))=false:=by decide) (m:M1 X (.Name x px) "pop" Ko b cpos:=by exact⟨rfl,rfl,rfl,rfl⟩):DE X (.Call (.Attribute (.Name x px) "pop" Ko) [b] [] cpos) (Dm.jd i fb):=PE.weak (Cg (u1 hr) (bR hi hv hd HQ) hb m) fun _ _ _=>Fp
theorem Fv{Ko cpos:Pos}(hr:bu k X.A)(ha:DE X a fa)(hb:DE X b fb)(m:M1 X a "get" Ko b cpos:=by exact⟨rfl,rfl,rfl,rfl⟩):DE X (.Call (.Attribute a "get" Ko) [b] [] cpos) (Dm.kL fa fb):=PE.weak (Bd (u1 hr) ha hb m) fun _ _ _=>Fq
end
section
variable{ks:List (Int×Int)}{vs:List Dat}{ρ ρ':Dm.Env}{d:Dat}{x:Dm.Val}{H H':Hp}{i:Nat}
theorem Kg(e:Dm.tkp ρ x=some (d,ρ')):Dm.tk ρ x=some (d,ρ')\/∃i ks vs,x=.slot i/\ρ[i]?=some (.ow (.dcp ks vs))/\d=.dcp ks vs/\ρ'=ρ:=by
 cases x with
 |val d'=>exact .inl e
 |new d'=>exact .inl e
 |slot i=>
  unfold Dm.tkp at e;dsimp only at e;split at e
  ·rename_i ks vs h;cases e;exact .inr ⟨i,ks,vs,rfl,h,rfl,rfl⟩
  ·rename_i d' _ h;left;unfold Dm.tk;dsimp only;rw[h];exact e
  ·rename_i d' h;left;unfold Dm.tk;dsimp only;rw[h];exact e
  ·cases e
theorem Ci(e:Dm.tkp ρ x=some (d,ρ'))(h:ρ[i]?=some (.ow (.dcp ks vs))):ρ'[i]?=some (.ow (.dcp ks vs)):=by
 cases x with
 |val d'=>cases e;exact h
 |new d'=>cases e;exact h
 |slot j=>
  unfold Dm.tkp at e;dsimp only at e;split at e
  ·cases e;exact h
  ·rename_i d' hn hj;cases e;by_cases q:j=i
   ·subst q;rw[h]at hj;cases hj;exact absurd rfl (hn ks vs)
   ·rw[gc q];exact h
  ·cases e;exact h
  ·cases e
theorem qj:∀{xs:List Dm.Val} {ρ ρ':Dm.Env} {ds:List Dat},Dm.wR ρ xs=some (ds,ρ')->ρ[i]?=some (.ow (.dcp ks vs))->ρ'[i]?=some (.ow (.dcp ks vs))
 |[],_,_,_,e,h=>by cases e;exact h
 |x::xs,ρ,ρ',ds,e,h=>by
  unfold Dm.wR at e;split at e
  ·cases e
  rename_i d ρ1 e1;split at e
  ·cases e
  rename_i ds' ρ2 e2;cases e;exact qj e2 (Ci e1 h)
def MN(H0:Hp)(σ:L2.St)(ρ:Dm.Env)(v:V)(d:Dat):Prop:=Rep H0 v d\/∃(i:Nat) (b:Addr) (ks:List (Int×Int)) (vs:List Dat),d=.dcp ks vs/\v=.ref b/\ρ[i]?=some (.ow (.dcp ks vs))/\σ[i]?=some (some (.ref b))
inductive nu(H0:Hp)(σ:L2.St)(ρ:Dm.Env):List V->List Dat->Prop
 |nil:nu H0 σ ρ [] []
 |cons {v:V} {d:Dat} {vs:List V} {ds:List Dat}:MN H0 σ ρ v d->nu H0 σ ρ vs ds->nu H0 σ ρ (v::vs) (d::ds)
theorem wV{Hs H0s H0 H:Hp}{σ:L2.St}{ρs:Dm.Env}:∀{xs:List Dm.Val} {vs:List V} {ρ ρ':Dm.Env} {ds:List Dat} {H0c:Hp},ESt σ ρs H0s Hs ρ H0c H->aj H0 H0c->cM Hs H0 H σ ρ vs xs->Dm.wR ρ xs=some (ds,ρ') ->
  ∃fS,ESt σ ρs H0s Hs ρ' fS H/\aj H0c fS/\nu fS σ ρ' vs ds
 |[],_,ρ,ρ',ds,H0c,t,b,r,e=>by cases r;cases e;exact⟨H0c,t,aj.refl _,.nil⟩
 |x::xs,_,ρ,ρ',ds,H0c,t,b,r,e=>by
  cases r with
  |cons h r=>
   unfold Dm.wR at e;split at e
   ·cases e
   ·rename_i d ρ1 e1;split at e
    ·cases e
    ·rename_i ds' ρ2 e2;cases e;rcases Kg e1 with e1' | ⟨i,ks,vs,rfl,hi,rfl,rfl⟩
     ·obtain⟨H1,t1,b1,r1,o1,d1⟩:=take1 t b h e1';obtain⟨H2,t2,b2,r2⟩:=wV t1 (b.trans b1) (r.rho o1 d1) e2;exact⟨H2,t2,b1.trans b2,.cons (.inl (r1.mono b2)) r2⟩
     ·obtain⟨H2,t2,b2,r2⟩:=wV t b r e2;obtain⟨q,_⟩:=h;obtain⟨a,z,_⟩:=t.st.ow i _ hi;rw[q]at z;cases z;exact⟨H2,t2,b2,.cons (.inr ⟨i,a,ks,vs,rfl,rfl,qj e2 hi,q⟩) r2⟩
mutual
theorem Rep.noP(hk:∀a o,H a=some o->H' a=some o\/∃kvs ts,o=.dT kvs ts):∀{v:V} {d:Dat},Rep H v d->Dm.aM d=true->Rep H' v d
 |_,_,.non,_=>.non
 |_,_,.bl b,_=>.bl b
 |_,_,.int i,_=>.int i
 |_,_,.str x,_=>.str x
 | _,_,.tup h r,n=>.tup (by
   rcases hk _ _ h with z | ⟨_,_,z⟩
   ·exact z
   ·cases z) (av.noP hk r (by unfold Dm.aM at n;exact n))
 | _,_,.lst h r,n=>.lst (by
   rcases h with h | ⟨o,h⟩
   ·rcases hk _ _ h with z | ⟨_,_,z⟩
    ·exact .inl z
    ·cases z
   ·rcases hk _ _ h with z | ⟨_,_,z⟩
    ·exact .inr ⟨o,z⟩
    ·cases z) (av.noP hk r (by unfold Dm.aM at n;exact n))
 |_,_,.dct _ _ _,n=>by unfold Dm.aM at n;cases n
 |_,_,.dcp _ _ _,n=>by unfold Dm.aM at n;cases n
 |_,_,.exc _,n=>by unfold Dm.aM at n;cases n
 |_,_,.dh _ _,n=>by unfold Dm.aM at n;cases n
 |_,_,.fn a,_=>.fn a
theorem av.noP(hk:∀a o,H a=some o->H' a=some o\/∃kvs ts,o=.dT kvs ts):∀{vs:List V} {ds:List Dat},av H vs ds->Dm.fh ds=true->av H' vs ds
 |_,_,.nil,_=>.nil
 |_,_,.cons h r,n=>by unfold Dm.fh at n;rw[Pu]at n;exact .cons (Rep.noP hk h n.1) (av.noP hk r n.2)
end
end
open Classical in
theorem Cj{σ:L2.St}{H:Hp}{Q:VK}{f:List Dat->Option RV}{fs:List FE}{E:XK}(h:tD (Dm.fW f fs) σ H Q):k_ (spD f) [] E (tDA fs) σ H Q:=by
 obtain⟨H0,ρ,x,ρ',st,e,k⟩:=h;unfold Dm.fW at e;split at e
 ·cases e
 rename_i xs ρ1 e1;split at e
 ·cases e
 rename_i ds ρ2 e2;split at e
 ·cases e
 rename_i z fz;split at e
 case isFalse=>cases e
 rename_i hno;injection e with e
 injection e with ea eb
 subst ea;subst eb;refine⟨H0,ρ,xs,ρ1,st,e1,fun vs H1 Hb t1 r1=>?_⟩;dsimp only;rw[PY];obtain⟨H2,t2,b2,r2⟩:=wV t1 (aj.refl _) r1 e2
 let B:Addr->Prop:=fun b=>∃(i:Nat) (ks:List (Int×Int)) (vs:List Dat),ρ2[i]?=some (.ow (.dcp ks vs))/\σ[i]?=some (some (.ref b))
 have hB:∀b,B b->H2 b=none/\∃kvs ts,Hb b=some (.dT kvs ts):=fun b ⟨i,ks,vs,h1,h2⟩=>by obtain⟨a,q,n,kvs,w,_⟩:=t2.st.ow i _ h1;rw[h2]at q;cases q;exact⟨n,kvs.1,kvs.2,w⟩
 let H2':Hp:=fun b=>if B b then Hb b else H2 b
 have in':∀b,B b->H2' b=Hb b:=fun b h=>if_pos h;have out':∀b,¬B b->H2' b=H2 b:=fun b h=>if_neg h;have s2:aj H2 H2':=fun b o e=>by
  by_cases q:B b
  ·rw[(hB b q).1]at e;cases e
  ·rw[out' b q];exact e
 have s2b:aj H2' Hb:=fun b o e=>by
  by_cases q:B b
  ·rw[in' b q]at e;exact e
  ·rw[out' b q]at e;exact t2.st.same _ _ e
 have rr:∀{vs:List V} {ds:List Dat},nu H2 σ ρ2 vs ds->av H2' vs ds:=fun {vs ds} r=>by
  induction r with
  |nil=>exact .nil
  |cons h _ ih=>
   refine .cons ?_ ih;rcases h with h | ⟨i,b,ks,vs',rfl,rfl,h1,h2⟩
   ·exact h.mono s2
   ·obtain⟨a,q,n,kvs,w,ek,rs⟩:=t2.st.ow i _ h1;rw[h2]at q;cases q;exact .dcp (by rw[in' _ ⟨i,ks,vs',h1,h2⟩];exact w) (ek.mono s2) (rs.mono s2)
 refine⟨H2',ds,z,s2b,rr r2,fz,fun w H3 Hd g3 r3=>?_⟩
 let H3':Hp:=fun b=>if B b then none else H3 b
 have in3:∀b,B b->H3' b=none:=fun b h=>if_pos h;have gS:∀b,¬B b->H3' b=H3 b:=fun b h=>if_neg h;have gr:aG H2 Hb H3' Hd:=⟨fun b o e=>by
   by_cases q:B b
   ·rw[(hB b q).1]at e;cases e
   ·rw[gS b q];exact g3.s0 _ _ (s2 _ _ e),g3.s1,fun b o e=>by
   by_cases q:B b
   ·rw[in3 b q]at e;cases e
   ·rw[gS b q]at e;rcases g3.s2 b o e with y | y
    ·exact .inl y
    ·rw[out' b q]at y;exact .inr y,fun b o e=>by
   by_cases q:B b
   ·rw[in3 b q]at e;cases e
   ·rw[gS b q]at e;exact g3.s3 _ _ e⟩
 have hk:∀a o,H3 a=some o->H3' a=some o\/∃kvs ts,o=.dT kvs ts:=fun a o e=>by
  by_cases q:B a
  ·obtain⟨_,kvs,ts,y⟩:=hB a q;have:=g3.s0 a _ ((in' a q).trans y);rw[e]at this;exact .inr ⟨kvs,ts,Option.some.inj this⟩
  ·exact .inl (by rw[gS a q];exact e)
 have r3':pC Hb H3' Hd w z:=by
  cases z with
  |val d=>exact Rep.noP hk r3 hno
  |new d=>
   obtain⟨a,ea,n,n0,w'⟩:=r3;refine⟨a,ea,n,?_,?_⟩
   ·by_cases q:B a
    ·exact in3 a q
    ·rw[gS a q];exact n0
   ·cases d with
    |lst ds'=>obtain⟨ys,y1,y2⟩:=w';exact⟨ys,y1,av.noP hk y2 (by have:Dm.aM (.lst ds')=true:=hno;unfold Dm.aM at this;exact this)⟩
    |dct ks ds'=>have:Dm.aM (.dct ks ds')=true:=hno;unfold Dm.aM at this;cases this
    |dcp ks ds'=>have:Dm.aM (.dcp ks ds')=true:=hno;unfold Dm.aM at this;cases this
    |_=>exact w'.elim
 exact k w H3' Hd (t2.trans (.grow t2.st gr)) ((r3'.toV t2.st).early fun a n=>t2.stp.gone n)
section
variable{X:Cx}{e b:Expr}{es:List Expr}{fs:List FE}{fb:FE}{p pos:Pos}
theorem cF{k:Nat}{F:Addr}{fd:FuncData}{ps:List Str}{g:List Dat->Option RV}{x:Str}(G:bw X.prog X.w X.K X.mg X.base CX0 k F fd ps (spD g))(hr:bu k X.A)(hg:Gl X x)(hm:X.mg x=some (.ref F))(hk:QA X.K (.ref F)=true)(hb:Binds X.K fd ps [])
  (ha:DA X (e::es) fs) (MT:(x == ("__debug__" : Str))=false:=by decide) (he:starEach (e::es) X.env=(false,eval e X.env)::starEach es X.env:=by rfl) (Cs:(backTo pos (starEach es X.env)).any (·.1)=false:=by rfl) :
  DE X (.Call (.Name x p) (e::es) [] pos) (Dm.fW g fs):=PE.weak (fR G hr hg hm hk hb .nil (mG (X:=X)) ha MT he Cs) fun _ _ _=>Cj
end
theorem Fw{σ:L2.St}{H:Hp}{D:Ends}{j own:Nat}{fi:Dm.FI}{bd:Dm.FB}{g:TG}{is:List Nat}{MQ:Dm.FN}{gs:FS}{T:TS}(hT:∀D σ H,tDN j MQ { D with nx:=tDS gs D } σ H->T D σ H)(hb:BD is g bd)(hl:∀i∈is,σ.length<=i)(hj:j<σ.length)(h:tDS (Dm.az (Dm.gi j fi own bd MQ) gs) D σ H) :
  gA (ku (tLC (tDI fi) own g mU (AR kB)) (cW j)) T D σ H:=by
 obtain⟨H0,ρ,o,st,e,k⟩:=h;obtain⟨ρ9,e9,e⟩:=yr (fun z q=>by obtain⟨_,_,_,_,_,_,_,_,_,_,z⟩:=iA q;exact⟨_,z⟩) e;obtain⟨ds,ρ1,ρ2,ρ3,r3,hj0,e1,hsz,e2,e3,z9⟩:=iA e9;cases z9;refine⟨H0,ρ,ds,ρ1,st,e1,fun J H00 Hb t1 jw L hL=>tY (Q:=fun x H1=>cW j x σ H1 (T D)) hb hl t1.st jw hsz e2 L hL fun H0' H' ps st' sp' ho' hDl n0 nd hps hro=>?_⟩;have nL:¬af σ ρ1 L:=t1.st.bg hL;have om:∀a,af (σ.set j (some (.ref L))) ((ρ2.take ρ1.length).set j .un) a->af σ (ρ2.take ρ1.length) a:=fun a ⟨i,d,h1,h2⟩=>by
  rcases aE h1 with⟨_,z⟩ | ⟨hij,h1⟩
  ·cases z
  ·rw[gc (P4 hij)]at h2;exact⟨i,d,h1,h2⟩
 have st2:ay H0' H' (σ.set j (some (.ref L))) ((ρ2.take ρ1.length).set j .un):={
  same:=st'.same
  len:=by rw[PR,PR];exact st'.len
  sh:=fun i d h=>by
   rcases aE h with⟨_,z⟩ | ⟨hij,h⟩
   ·cases z
   ·obtain⟨v,q,r⟩:=st'.sh i d h;exact⟨v,by rw[gc (P4 hij)];exact q,r⟩
  ow:=fun i d h=>by
   rcases aE h with⟨_,z⟩ | ⟨hij,h⟩
   ·cases z
   ·obtain⟨v,q,r⟩:=st'.ow i d h;exact⟨v,by rw[gc (P4 hij)];exact q,r⟩
  dis:=fun i i' d d' a h1 h2 h3 h4=>by
   rcases aE h1 with⟨_,z⟩ | ⟨q1,h1⟩
   ·cases z
   rcases aE h2 with⟨_,z⟩ | ⟨q2,h2⟩
   ·cases z
   rw[gc (P4 q1)]at h3;rw[gc (P4 q2)]at h4;exact st'.dis i i' d d' a h1 h2 h3 h4 }
 have sp:Stp (af σ ρ) H0 H H0' H':=t1.stp.trans sp' fun a z=>.inl (t1.own a z);have n:NS j σ ρ H0 H (σ.set j (some (.ref L))) ((ρ2.take ρ1.length).set j .un) H0' H' (Ds ds.length []):=
  ⟨st2,sp,fun a z=>.inl (t1.own a (ho' a (om a z))),gc hj0,L,ps,PB hj,t1.stp.gone hL,n0,fun z=>nL (ho' L (om L z)),hDl,nd,fun p hp=>⟨t1.stp.gone (hps p hp).1,(hps p hp).2,fun z=>t1.st.bg (hps p hp).1 (ho' p (om p z))⟩,hro⟩
 refine hT _ _ _ ⟨σ,ρ,H0,H,H0',_,_,ρ3,r3,n,e3,fun σ4 H4 Hd n4 _=>?_⟩;obtain⟨H5,t5⟩:=n4.done;exact⟨H5,_,o,t5.st,e,k.pre t5⟩
section
variable{X:Cx}{xq:List Stmt}{pos:Pos}
section
variable{scope:Scope}{is:List Nat}{bd:Dm.FB}{fi:Dm.FI}
theorem OE{J:Nat}(j:Nat)(nm own:List Str){tg iter HP:Expr}{Kp:List Expr}{t:FT}{f:FE}{y:Str}{py FJ:Pos}(hN:X.N.Nodup)(hg:TGc X nm scope own tg is bd)(hi:DI X tg iter fi)(ht:∀cl C s H fp,DTs (aT X nm scope own cl C s H fp) Kp t)(he:∀cl C s H fp,DE (aT X nm scope own cl C s H fp) HP f)
  (hc:X.calm=true:=by rfl) (hk:scope.kind=.function:=by rfl) (hS:gO X.env.scope X.N nm scope=true:=by rfl) (hl:(is.all fun i=>decide (X.N.length<=i))=true:=by rfl) (hj:X.N[j]?=some y:=by rfl) (hy:Loc X.env.scope y:=by trivial)
  (hsw:swapsWith (.ListComp HP [⟨tg,iter,Kp,0⟩] scope pos) (some (.Name y py)) FJ.line X.env=pure true:=by rfl) (hs:∀x,foldedSetIterable iter X.env x=pure x:=by intro _;rfl)
  (hf:X.fn y=true\/X.env.scope.names.lookup y=some .local:=by trivial):DN X J (.Assign [.Name y py] (.ListComp HP [⟨tg,iter,Kp,0⟩] scope pos) FJ) (Dm.nA J j (Dm.cC fi own.length bd t f)):=by
 obtain⟨g,h1,h2⟩:=hg.ex;intro nC s σ H D I h;exact cA hN hj hy hc (b7.of hS hk) hi h1 ht he hsw hs hf nC s σ H D I (rC h2 (fun i hi=>by rw[I.len];exact jY hl i hi) (Oj h))
theorem Fx(j:Nat)(nm own:List Str){y:Str}{py FJ wB:Pos}{tg iter:Expr}{l1 l2:Dm.FN}{gs:FS}{st1 st2:Stmt}(hN:X.N.Nodup)(hg:TGc X nm scope own tg is bd)(hi:DI X tg iter fi)(hl1:DN X j st1 l1)(hl2:DN X j st2 l2)(hre:DSs X xq gs)
  (hc:X.calm=true:=by rfl) (hk:scope.kind=.function:=by rfl) (hS:gO X.env.scope X.N nm scope=true:=by rfl) (hl:(is.all fun i=>decide (X.N.length<=i))=true:=by rfl) (hj:X.N[j]?=some y:=by rfl) (hy:Loc X.env.scope y:=by trivial)
  (hsw:swapsWith (.ListComp (.List [] wB) [⟨tg,iter,[],0⟩] scope pos) (some (.Name y py)) FJ.line X.env=pure true:=by rfl) (hs:∀y,foldedSetIterable iter X.env y=pure y:=by intro _;rfl)
  (hf:X.fn y=true\/X.env.scope.names.lookup y=some .local:=by trivial) :
  DSs X (.Assign [.Name y py] (.ListComp (.List [] wB) [⟨tg,iter,[],0⟩] scope pos) FJ::st1::st2::xq) (Dm.az (Dm.gi j fi own.length bd (Dm.tW l1 l2)) gs):=by
 obtain⟨g,h1,h2⟩:=hg.ex;have h:=a_ (cA hN hj hy hc (b7.of hS hk) hi h1 (fun cl C s H fp=>jV) (fun cl C s H fp=>vS (pos:=wB) dX) hsw hs hf) (a_ hl1 (a_ hl2 hre));intro nC s σ H D I q;exact h nC s σ H D I (Fw (fun D σ H z=>JS z) h2 (fun i hi=>by rw[I.len];exact jY hl i hi) (by rw[I.len];exact(Pa.mp hj).1) q)
end
end
section
variable{X:Cx}{a b:Expr}{fa fb:FE}{pos:Pos}{k:Nat}
theorem rQ(hr:bu k X.A)(ha:DE X a fa)(hb:DE X b fb)(hm:behindInMarks .In b=false:=by rfl):DT X (.Compare a [.In] [b] pos) (Dm.tV (Dm.e2 Dm.eX fa fb)):=PT.weak (vN (A6 (u1 hr) ha hb) hm) fun σ H Q h=>rz Fg (mQ h)
end
end Br
namespace Dm
noncomputable def pN(f:FE):FP:=fun ρ=>match f ρ with
 |some (.new (.lst ds),ρ1)=>some (.l (ds.map .s),ρ1)
 |_=>none
noncomputable def iV(j:Nat)(f:FP)(g:FQ):FSP:=fun ρ=>if j=0 then none else match f ρ with
 |none=>none
 |some (p,ρ1)=>g (ρ1.set j .un) p
noncomputable def hIf(j:Nat)(t:FT)(r g:FQ):FQ:=fun ρ p=>match t (see j ρ p) with
 |none=>none
 |some (true,_)=>r ρ p
 |some (false,_)=>g ρ p
noncomputable def nv(j:Nat)(f:List Dat->Option Dp)(as:List FE):FQ:=fun ρ p=>match p with
 | .l ps=>(match eAs as (see j ρ p) with
  |none=>none
  |some (xs,ρ1)=>match tks ρ1 xs with
   |none=>none
   |some (ds,_)=>match f ds with
    |some (.t [.l qs,.s d])=>if ps.length+qs.length<=SZ/\aO qs=true/\kc d=true then some (.t [.s (.int ((ps.length+qs.length:Nat):Int)),.l (ps++qs),.s d]) else none
    |_=>none)
 |_=>none
noncomputable def qk(j:Nat)(c:Int)(i:FE):FC:=fun ρ p=>match p with
 | .t xs=>(match ixN xs.length c with
  |none=>none
  |some m0=>match xs[m0]? with
   | some (.l rows)=>(match i (see j ρ p) with
    | some (.val (.int k),_)=>(match ixN rows.length k with
     |none=>none
     |some m=>match rows[m]? with
      |some (.l _)=>some (.nx ρ (.t (xs.set m0 (.l (rows.set m (.l []))))))
      |_=>none)
    |_=>none)
   |_=>none)
 |_=>none
end Dm
namespace Br
open PySem PySem.Spec PyProof.Rows L2
section
variable{σ:L2.St}{is:List Nat}{bd:Dm.FB}{H:Hp}{Q:VK}{g:TG}
def tDn(f:Dm.FP):TE:=fun σ H Q=>∃H0 ρ p ρ',ay H0 H σ ρ/\f ρ=some (p,ρ')/\∀v H0' H' fp,ESt σ ρ H0 H ρ' H0' H'->aZ (fun a=>H a=none) H0' H' v p fp->bB σ ρ' H0' fp->Q v H'
noncomputable abbrev DNw(X:Cx)(e:Expr)(f:Dm.FP):Prop:=PE X e (tDn f)
theorem OG{f:FE}(h:tDn (Dm.pN f) σ H Q):tD f σ H Q:=by
 obtain⟨H0,ρ,p,ρ',st,e,k⟩:=h;unfold Dm.pN at e;split at e
 case h_2=>cases e
 rename_i ds ρ1 e1;cases e;refine⟨H0,ρ,_,_,st,e1,fun v H0' H' t r=>?_⟩;obtain⟨a,rfl,n,no,n0,xs,y,rs⟩:=r;refine k _ H0' H' [a] t (.l n y (.lY rs)) ⟨by simp,fun b hb=>?_⟩;rw[Pn.mp hb];exact⟨n0,no⟩
theorem z_{own:Nat}{el:Dm.FP}{Q:VK}{H00 Hb:Hp}{ρ1 ρ2:Dm.Env}{ds:List Dat}{ps:List Dm.Dp}{J:It}(hb:BD is g bd)(hl:∀i∈is,σ.length<=i)
  (st1:ay H00 Hb σ ρ1) (jw:JW J H00 ds) (hsz:ds.length<=Dm.SZ) (e2:Dm.d9 bd el ds (ρ1++Ds own .un) []=some (ps,ρ2)) (D:Addr) (hD:Hb D=none)
  (k:∀H0' H' fp,ESt σ ρ1 H00 Hb (ρ2.take ρ1.length) H0' H'->aZ (fun a=>Hb a=none) H0' H' (.ref D) (.l ps) fp->bB σ (ρ2.take ρ1.length) H0' fp->Q (.ref D) H') :
  ∃W:Nat->Nat->L2.St->Hp->Prop,(∃m,W 0 m (σ++Ds own none) (upd Hb D (.lst [])))/\∀i m σ' H',W i m σ' H' ->
  (J.stop i H'∧Q (.ref D) H')∨(J.go i H'∧∀ x H2,J.yld i H' x H2→g x σ' H2 fun σ2 H3=>mU σ2 H3 fun b H4=>if b=true
   then tDn el σ2 H4 fun y H5=>∃Cr,H5 D=some (.lst Cr)/\Cr.length<sizeLine/\∃m',m'<m/\W (i+1) m' σ2 (upd H5 D (.lst (Cr++[y])))
   else ∃m',m'<m/\W (i+1) m' σ2 H4):=by
 have noD:¬af σ ρ1 D:=st1.bg hD;refine ⟨fun i m σ' H'=>∃ (H0c:Hp) (ρc:Dm.Env) (pa:List Dm.Dp) (fp:List Addr),ay H0c H' σ' ρc∧aj H00 H0c∧m=ds.length-i∧i≤ds.length∧Dm.d9 bd el (ds.drop i) ρc pa=some (ps,ρ2) ∧
  aZ (fun a=>Hb a=none) H0c H' (.ref D) (.l pa) fp/\pa.length=i/\bB σ' ρc H0c fp/\Stp (af σ ρ1) H00 Hb H0c H'/\(∀j,j<σ.length->σ'[j]?=σ[j]?)/\(∀a,af σ' ρc a->af σ ρ1 a),
  ⟨ds.length,H00,ρ1++Ds own .un,[],[D],(st1.aside (st1.same.free hD) noD).ext own,aj.refl _,by simp,Qf _,by simpa using e2,.l hD aq .nil,rfl,⟨by simp,fun a ha=>?_⟩,(Stp.refl _ _ _).aside hD,
   fun j hj=>Pg hj,fun a z=>cP st1 z⟩,?_⟩
 ·rw[Pn.mp ha];exact⟨st1.same.free hD,fun z=>noD (cP st1 z)⟩
 rintro i m σ' H' ⟨H0c,ρc,pa,fp,sc,s00,rfl,hi,ec,ra,Cs,fr,sp,hσ,ho⟩;obtain⟨js,jg⟩:=jw H0c H' s00 sc.same;by_cases HN:i<ds.length
 ·have hd:ds[i]?=some ds[i]:=by simp[HN]
  obtain⟨g1,g2⟩:=jg i ds[i] hd;rw[Ql HN]at ec;unfold Dm.d9 at ec;refine .inr ⟨g1,fun y H2 yy=>?_⟩;obtain⟨H0',gr,rx⟩:=g2 y H2 yy;split at ec
  ·cases ec
  rename_i ρ3 e3;split at ec
  ·cases ec
  rename_i p5 ρ5 e5;have t2:=ESt.grow sc gr;obtain⟨ra2,fr2⟩:=ra.est sc t2 fr.2;refine hb H0' H2 σ' ρc ρ3 y ds[i] _ t2.st rx e3 fun σ3 st3 o3 k3 d3 _=>?_;unfold mU;dsimp only;rw[if_pos rfl];refine⟨H0',ρ3,p5,ρ5,st3,e5,fun v H5 Hc f5 t5 r5 g5=>?_⟩;have fr3:∀a∈fp,H0' a=none/\¬af σ3 ρ3 a:=fun a ha=>⟨(fr2 a ha).1,fun z=>(fr2 a ha).2 (o3 a z)⟩;obtain⟨ra5,fr5⟩:=ra2.est st3 t5 fr3;have sp3:Stp (af σ ρ1) H00 Hb H0' H2:=sp.trans t2.stp fun a z=>.inl (ho a z);have sp5:Stp (af σ ρ1) H00 Hb H5 Hc:=sp3.trans t5.stp fun a z=>.inl (ho a (o3 a z));have nw:∀a,H2 a=none->Hb a=none:=fun a z=>sp3.gone z;have frA:bB σ3 ρ5 H5 (fp++f5):=bB.app (H1:=H0') (Hb:=H2) (Hc:=Hc) fr.1 (fun a ha=>⟨by obtain⟨_,xs,h⟩:=ra2.fpN a ha;exact⟨_,h⟩,(fr3 a ha).2⟩) fr5 g5 fun a ha=>.inl (r5.fpN a ha).1;cases ra5 with
  |l nD hDc rs=>
   rename_i vs fq;obtain⟨z1,z2⟩:=fr5 D O9;have ndA:=frA.1;rw[QY]at ndA;obtain⟨nd1,nd2⟩:=Pj.mp ndA;refine⟨vs,hDc,?_,ds.length-(i+1),by lia,H5,ρ5,pa++[p5],D::(fq++f5),t5.st.aside z1 z2,(s00.trans gr.s0).trans t5.stp.s0,rfl,HN,ec,?_,by simp[Cs],frA,sp5.aside hD,fun j hj=>(k3 j fun z=>QN.mpr (hl j z) hj).trans (hσ j hj),fun a z=>ho a (o3 a (t5.own a z))⟩
   ·rw[rs.length,Cs];unfold Dm.SZ at hsz;exact Pq (Pq HN hsz) (by decide)
   ·refine .l nD aq ?_;have r5':aZ (fun a=>Hb a=none) H5 Hc v p5 f5:=r5.mono (aj.refl _) nw (fun _ _ _ h=>h) fun _ _=>rfl;refine(rs.snoc r5').mono (aj.refl _) (fun _ n=>n) (fun a us _ h=>?_) fun a ha=>?_
    ·rw[ao fun z=>?_]
     ·exact h
     ·rw[z,hDc]at h;cases h
    ·exact ao fun z=>nd1 (z▸ha)
 ·have e':i=ds.length:=by lia
  subst e';rw[QX]at ec;cases ec;have sF:σ.length<=ρ2.length:=by rw[<- sc.len];refine QN.mp fun z=>?_;have q:=hσ σ'.length z;rw[PZ (Pb _),Py z]at q;cases q
  have tk:∀{j:Nat} {c:Dm.Cell},(ρ2.take ρ1.length)[j]?=some c->j<σ.length/\ρ2[j]?=some c:=fun {j c} h=>by
   have hj:j<ρ1.length:=by
    have:=(Pa.mp h).1;rw[P1]at this
    lia
   rw[QD hj]at h;exact⟨by rw[st1.len];exact hj,h⟩
  have own':∀a,af σ (ρ2.take ρ1.length) a->af σ' ρ2 a:=fun a ⟨j,d,h1,h2⟩=>by obtain⟨hj,h1⟩:=tk h1;exact⟨j,d,h1,(hσ j hj).trans h2⟩
  refine .inl ⟨js _ (Pb _),k H0c H' fp ⟨⟨sc.same,?_,fun j d h=>?_,fun j d h=>?_,fun j j' d d' a h1 h2 h3 h4=>?_⟩,sp,fun a z=>ho a (own' a z),fun j z=>trivial⟩ ra ⟨fr.1,fun a ha=>⟨(fr.2 a ha).1,fun z=>(fr.2 a ha).2 (own' a z)⟩⟩⟩
  ·rw[P1,<- st1.len];lia
  ·obtain⟨hj,h⟩:=tk h;obtain⟨v,q,r⟩:=sc.sh j d h;exact⟨v,(hσ j hj).symm.trans q,r⟩
  ·obtain⟨hj,h⟩:=tk h;obtain⟨v,q,r⟩:=sc.ow j d h;exact⟨v,(hσ j hj).symm.trans q,r⟩
  ·obtain⟨hj,h1⟩:=tk h1;obtain⟨hj',h2⟩:=tk h2;exact sc.dis j j' d d' a h1 h2 ((hσ j hj).trans h3) ((hσ j' hj').trans h4)
theorem Ck{fi:Dm.FI}{own:Nat}{el:Dm.FP}(hb:BD is g bd)(hl:∀i∈is,σ.length<=i)(h:tDn (Dm.dg fi own bd el) σ H Q):tLC (tDI fi) own g mU (tDn el) σ H Q:=by
 obtain⟨H0,ρ,x,ρ',st,e,k⟩:=h;unfold Dm.dg at e;split at e
 ·cases e
 rename_i ds ρ1 e1;split at e
 case isFalse=>cases e
 rename_i hsz;split at e
 ·cases e
 rename_i ps ρ2 e2;cases e;refine⟨H0,ρ,ds,ρ1,st,e1,fun J H00 Hb t1 jw D hD=>z_ hb hl t1.st jw hsz e2 D hD fun H0' H' fp t2 r2 f2=>k _ H0' H' fp (t1.trans t2) (r2.mono (aj.refl _) (fun a n=>t1.stp.gone n) (fun _ _ _ h=>h) fun _ _=>rfl) f2⟩
end
section
variable{D:Ends}{σ:L2.St}{H:Hp}{j:Nat}
theorem Fy{f:Dm.FP}{g:Dm.FQ}(hj:j<σ.length)(h:tDP (Dm.iV j f g) D σ H):gA (ku (tDn f) (cW j)) (tDQ j g) D σ H:=by
 obtain⟨H0,ρ,o,st,e,k⟩:=h;unfold Dm.iV at e;split at e
 ·cases e
 rename_i hj0;split at e
 ·cases e
 rename_i p ρ1 e1;refine⟨H0,ρ,p,ρ1,st,e1,fun v H3 Hd fp t3 r3 fr=>?_⟩;obtain⟨s1,s2⟩:=t3.st.wJ j (some v);exact⟨σ,ρ,H0,H,H3,_,p,o,⟨s1,t3.stp,fun a z=>.inl (t3.own a (s2 a z)),gc hj0,v,fp,PB hj,r3,fr.1,fun a ha=>⟨(fr.2 a ha).1,fun z=>(fr.2 a ha).2 (s2 a z)⟩⟩,e,k⟩
theorem MO{t:FT}{r g:Dm.FQ}(h:tDQ j (Dm.hIf j t r g) D σ H):gA (zm (tDT t) (tDQ j r) sV) (tDQ j g) D σ H:=by
 obtain⟨σs,ρs,H0s,Hs,H0,ρ,p,q,n,e,k⟩:=h;unfold Dm.hIf at e;split at e
 ·cases e
 ·rename_i ρ1 e1;refine⟨_,_,true,ρ1,n.see,e1,fun H1 Hb t1=>?_⟩;dsimp only;rw[if_pos rfl];exact⟨σs,ρs,H0s,Hs,H0,ρ,p,q,n.grow (n.seen t1),e,k⟩
 ·rename_i ρ1 e1;refine⟨_,_,false,ρ1,n.see,e1,fun H1 Hb t1=>?_⟩;dsimp only;rw[if_neg Px];exact⟨σs,ρs,H0s,Hs,H0,ρ,p,q,n.grow (n.seen t1),e,k⟩
theorem Fz{K:O8}{c:Int}{fi:FE}(h:tDC j (Dm.qk j c fi) D σ H):k9 (Jk K "list" vY (tOp (Es K) (tOp (zC K) (gm j) (tC (.int c))) (tD fi))) D σ H:=by
 obtain⟨σs,ρs,H0s,Hs,H0,ρ,p,o,n,e,k⟩:=h;unfold Dm.qk at e;split at e
 case h_2=>cases e
 rename_i xs;split at e
 ·cases e
 rename_i m0 em0;split at e
 case h_2=>cases e
 rename_i rows ud;split at e
 case h_2=>cases e
 rename_i z ρ1 e1;split at e
 ·cases e
 rename_i m em;split at e
 case h_2=>cases e
 rename_i items hi;cases e;have lens:∀{Hx:Hp} {A L:Addr} {us vs:List V},MS j σs ρs H0s Hs σ ρ H0 Hx (.t xs)->σ[j]?=some (some (.ref A))->Hx A=some (.tup us)->us[m0]?=some (.ref L)->Hx L=some (.lst vs)->us.length=xs.length/\vs.length=rows.length:=fun {Hx A L us vs} nx a1 a2 a3 a4=>by
  obtain⟨v,fp,b1,b2,b3⟩:=nx.ex;rw[a1]at b1;cases b1;cases b2 with
  |t nA hA rs=>
   rw[a2]at hA;cases hA;obtain⟨v',f',c1,c2,c3,c5⟩:=rs.l0 b3.1 ud;rw[a3]at c1;cases c1;cases c2 with
   |l nL hL rl=>rw[a4]at hL;cases hL;exact⟨rs.length,rl.length⟩
 obtain⟨A,L,q,us,vs,ls,q1,q2,q3,q4,q5,q6,neL,neA,_⟩:=n.MH ud hi;obtain⟨l1,l2⟩:=lens n q1 q2 q3 q4;refine⟨_,q1,A,us,c,.ref L,rfl,rfl,.of q2,?_,?_⟩
 ·show (L2.ixN us.length c).bind (fun j=>us[j]?)=_;rw[l1,<- rB,em0];exact q3
 refine⟨_,_,_,ρ1,n.see,e1,fun y H1 Hb t1 r1=>?_⟩;have g1:=n.seen t1;have n1:=n.grow g1;refine⟨L,vs,z,.ref q,rfl,Rep.isInt r1,.inl (.inl (g1.s1 _ _ q4)),?_,.inl ⟨rfl,ls,.inl (.inl (g1.s1 _ _ q6))⟩,?_⟩
 ·show (L2.ixN vs.length z).bind (fun j=>vs[j]?)=_;rw[l2,<- rB,em];exact q5
 obtain⟨A',L',q',us',vs',ls',j1,j2,j3,j4,j5,j6,_,_,jk⟩:=n1.MH ud hi;rw[q1]at j1;cases j1;have eu:us'=us:=by have:=g1.s1 _ _ q2;rw[j2]at this;cases this;rfl
 subst eu;rw[q3]at j3;cases j3;have ev:vs'=vs:=by have:=g1.s1 _ _ q4;rw[j4]at this;cases this;rfl
 subst ev;rw[q5]at j5;cases j5;exact⟨q,ls',rfl,rfl,j6,k σ H0 _ jk (aj.refl _)⟩
end
theorem aB.app{N:Addr->Prop}{H0 H:Hp}{ws:List V}{qs:List Dm.Dp}{g:List Addr}(r:aB N H0 H ws qs g):∀{vs:List V} {ps:List Dm.Dp} {fp:List Addr},aB N H0 H vs ps fp->aB N H0 H (vs++ws) (ps++qs) (fp++g)
 |_,_,_,.nil=>r
 |_,_,_,.cons h t=>by have:=aB.cons h (aB.app r t);rw[<- QB]at this;exact this
section
variable{j:Nat}{σs:L2.St}{ρs:Dm.Env}{H0s Hs:Hp}{σ:L2.St}{ρ ρ':Dm.Env}{H0 H H0' H':Hp}{p q:Dm.Dp}
open Classical in
theorem MS.tree(n:MS j σs ρs H0s Hs σ ρ H0 H p)(t:ESt σ (Dm.see j ρ p) (bor H0 H (Look Hs σ ρ)) H ρ' H0' H'){v:V}{fq:List Addr}(r:aZ (fun a=>H a=none) H0' H' v q fq)(e:Dm.aW q=true) :
  ∃H4,MS j σs ρs H0s Hs σ ρ H4 H' p/\aZ (fun a=>H a=none) H4 H' v q fq/\(∀a∈fq,H4 a=none)/\∃w fp,σ[j]?=some (some w)/\aZ (fun a=>Hs a=none) H4 H' w p fp/\bB σ ρ H4 fp/\∀a∈fp,∃o,H a=some o:=by
 have up:aj H H':=fun a o e=>t.stp.s1 a o e fU;have nfq:∀a∈fq,H a=none/\∃ys,H' a=some (.lst ys):=fun a ha=>r.fpN a ha;have lst:∀{a:Addr} {o:HO},H0 a=none->H a=some o->(∀vs,o≠.tup vs)->cpy Hs H0 H H0' H' a=none:=fun {a o} h0 h nt=>by
  cases z:cpy Hs H0 H H0' H' a with
  |none=>rfl
  |some u=>
   rcases cS z with y | ⟨y,_⟩ | ⟨_,y,vs,rfl⟩
   ·rw[h0]at y;cases y
   ·rw[h]at y;cases y
   ·have:=t.st.same _ _ y;rw[up _ _ h]at this;cases this;exact absurd rfl (nt vs)
 let H4:Hp:=fun a=>if a∈fq then none else cpy Hs H0 H H0' H' a
 have h4:∀{a:Addr} {u:HO},H4 a=some u->cpy Hs H0 H H0' H' a=some u/\a∉fq:=fun {a u} e=>by
  have e:(if a∈fq then none else cpy Hs H0 H H0' H' a)=some u:=e;split at e
  ·cases e
  ·rename_i h;exact⟨e,h⟩
 have h4i:∀{a:Addr} {u:HO},cpy Hs H0 H H0' H' a=some u->a∉fq->H4 a=some u:=fun {a u} e n=>by show (if a∈fq then none else cpy Hs H0 H H0' H' a)=some u;rw[if_neg n];exact e
 have h4n:∀{a:Addr},cpy Hs H0 H H0' H' a=none->H4 a=none:=fun {a} e=>by show (if a∈fq then none else cpy Hs H0 H H0' H' a)=none;rw[e];split<;>rfl
 have up4:aj H0 H4:=fun a u e'=>h4i (fm _ _ e') fun z=>by have:=n.st.same _ _ e';rw[(nfq a z).1]at this;cases this
 obtain⟨w,fp,h1,h2,h3⟩:=n.ex;have kt:∀a vs,H0' a=some (.tup vs)->H4 a=some (.tup vs):=fun a vs h=>by
  refine h4i ?_ fun z=>?_
  ·rcases t.stp.s2 a _ h with z | z | z
   ·rw[lZ n.st.same z];exact t.st.same _ _ h
   ·have hH:=j_ n.st.same _ _ z;unfold bor at z;split at z
    ·rename_i o q;cases z;exact fm _ _ q
    ·rename_i q;split at z
     ·rename_i lk;rcases lk with lk | lk
      ·unfold cpy;rw[q];dsimp only;rw[if_neg (by rw[hH];simp),h];dsimp only;rw[if_pos lk]
      ·exact(n.st.i_ hH lk).elim
     ·cases z
   ·exact(fU z).elim
  ·obtain⟨_,ys,y⟩:=nfq a z;have:=t.st.same _ _ h;rw[y]at this;cases this
 have stp:Stp (af σs ρs) H0s Hs H4 H':=by
  refine⟨n.stp.s0.trans up4,fun a o e' no=>up _ _ (n.stp.s1 a o e' no),fun a o e'=>?_,fun a o e'=>?_⟩
  ·rcases cS (h4 e').1 with y | ⟨y,_⟩ | ⟨y,_⟩
   ·exact n.stp.s2 a o y
   ·exact .inl (n.stp.gone y)
   ·exact .inl y
  ·obtain⟨o',q⟩:=n.stp.s3 a o e';exact⟨o',up _ _ q⟩
 have k1:aZ (fun a=>Hs a=none) H4 H' w p fp:=h2.mono up4 (fun _ z=>z) (fun a vs _ h=>up _ _ h) fun a ha=>by obtain⟨_,xs,h⟩:=h2.fpN a ha;rw[up _ _ h,h]
 have k2:bB σ ρ H4 fp:=⟨h3.1,fun a ha=>⟨by obtain⟨_,xs,h⟩:=h2.fpN a ha;exact h4n (lst (h3.2 a ha).1 h fun vs z=>by cases z),(h3.2 a ha).2⟩⟩
 refine⟨H4,⟨⟨fun a o e'=>?_,n.st.len,fun i d h=>?_,fun i d h=>?_,n.st.dis⟩,stp,n.own,n.fx,w,fp,h1,k1,k2⟩,r.leaf (fun _ z=>z) kt e,fun a ha=>?_,w,fp,h1,k1,k2,fun a ha=>(h2.fpN a ha).2.elim fun _ z=>⟨_,z⟩⟩
 ·rcases cS (h4 e').1 with y | ⟨_,y⟩ | ⟨_,y,_⟩
  ·exact up _ _ (n.st.same _ _ y)
  ·exact y
  ·exact t.st.same _ _ y
 ·obtain⟨u,z,y⟩:=n.st.sh i d h;exact⟨u,z,y.mono up4⟩
 ·obtain⟨a,z,n0,y⟩:=n.st.ow i d h;obtain⟨o,ho⟩:=y.some;refine⟨a,z,h4n (lst n0 ho fun vs e'=>?_),y.mono up4 ((up _ _ ho).trans ho.symm)⟩;subst e';exact n.st.i_ ho ⟨i,d,h,z⟩
 ·show (if a∈fq then none else cpy Hs H0 H H0' H' a)=none;rw[if_pos ha]
end
section
variable{D:Ends}{σ:L2.St}{H:Hp}{j:Nat}
theorem FA{K:O8}{i:Nat}{f:List Dat->Option Dm.Dp}{fs:List FE}{E:XK}(hil:i<σ.length)(hij:i≠j)(hi0:i≠0)(h:tDQ j (Dm.nv j f fs) D σ H) :
  gA (ku (k_ (spP f) [] E (tDA fs)) (cW i)) (gA (k9 (tBM K "list" xZ (gm j) (dW (tOp (zC K) (gm i) (tC (.int 0))) kB))) (zl (zA (dW (tD (Dm.eB Dm.cD [Dm.eV j])) (dW (gm j) (dW (tOp (zC K) (gm i) (tC (.int 1))) kB)))))) D σ H:=by
 obtain⟨σs,ρs,H0s,Hs,H0,ρ,p,q,n,e,k⟩:=h;unfold Dm.nv at e;split at e
 case h_2=>cases e
 rename_i ps;split at e
 ·cases e
 rename_i xs ρ1 e1;split at e
 ·cases e
 rename_i ds ρ2 e2;split at e
 case h_2=>cases e
 rename_i qs d ep;split at e
 case isFalse=>cases e
 rename_i hz;cases e;obtain⟨hz,lk1,lk2⟩:=hz;refine⟨_,_,xs,ρ1,n.see,e1,fun vs H1 Hb t1 r1=>?_⟩;dsimp only;rw[PY];obtain⟨H2,t2,b2,r2⟩:=takes t1 (aj.refl _) r1 e2;refine⟨H2,ds,_,t2.st.same,r2,ep,fun v H3 Hd fq g3 r3 nd n3=>?_⟩;have t3:=t2.trans (.grow t2.st g3);have lk:Dm.aW (.t [.l qs,.s d])=true:=by unfold Dm.aW Dm.aO Dm.aO Dm.aO Dm.aW;rw[lk1,lk2];rfl
 obtain⟨H4,n4,r4,f4,vj,fp,h1,h2,h3,h6⟩:=n.tree t3 (r3.mono (aj.refl _) (fun a z=>t2.stp.gone z) (fun _ _ _ h=>h) fun _ _=>rfl) lk;cases r4 with
 |t nT hT rs=>
  rename_i T us;cases rs with
  |cons rb rr=>
   cases rb with
   |l nb hb rq=>
    rename_i b zs fqs;cases rr with
    |cons rd rn=>
     cases rn;cases rd with
     |s rd=>
      rename_i w;have fqe:(b::fqs)++([]++[])=b::fqs:=by simp
      rw[fqe]at nd f4;obtain⟨s1,s2⟩:=n4.st.wJ i (some (.ref T));have n5:MS j σs ρs H0s Hs (σ.set i (some (.ref T))) (ρ.set i .un) H4 Hd (.l ps):=n4.bind s1 s2 (gc hij) (gc hi0);have hj5:(σ.set i (some (V.ref T)))[j]?=some (some vj):=by rw[gc hij];exact h1
      cases h2 with
      |l nL hL rp=>
       rename_i L ls fl;have hTi:(σ.set i (some (V.ref T)))[i]?=some (some (.ref T)):=PB hil;have szl:Dm.SZ<=sizeLine:=by decide
       refine⟨.ref L,hj5,.inl ⟨rfl,ls,.inl (.inl hL)⟩,.ref T,hTi,T,[.ref b,w],0,.ref b,rfl,rfl,.of hT,rfl,L,b,ls,zs,rfl,rfl,hL,hb,by rw[rp.length,rq.length];lia,?_⟩;have gone:∀a,H a=none->Hs a=none:=fun a z=>n.stp.gone z;have neq:∀{a c:Addr},(∃o,H a=some o)->H c=none->a≠c:=fun {a c} ⟨o,ho⟩ hc z=>by rw[z,hc]at ho;cases ho
       have eL:=h6 L O9;obtain⟨z1,z2⟩:=h3.2 L O9;obtain⟨ndL,ndl⟩:=Pj.mp h3.1;obtain⟨ndb,ndq⟩:=Pj.mp nd;have t6:=n5.wr nL z1 (fun z=>z2 (s2 L z)) (.lst (ls++zs));have neT:T≠L:=fun z=>neq eL nT z.symm;have Cm:∀{a:Addr} {us:List V},Hd a=some (.tup us)->upd Hd L (.lst (ls++zs)) a=some (.tup us):=fun {a us} h=>by rw[ao fun z=>by rw[z,hL]at h;cases h];exact h
       have MP:aB (fun a=>Hs a=none) H4 (upd Hd L (.lst (ls++zs))) (ls++zs) (ps++qs) (fl++fqs):=
        aB.app (rq.mono (aj.refl _) gone (fun a us _ h=>Cm h) fun a ha=>ao fun z=>neq eL (rq.fpN a ha).1 z.symm) (rp.mono (aj.refl _) (fun _ z=>z) (fun a us _ h=>Cm h) fun a ha=>ao fun z=>ndL (z▸ha))
       have fr:bB (σ.set i (some (.ref T))) (ρ.set i .un) H4 (L::(fl++fqs)):=by
        refine⟨Pj.mpr ⟨fun z=>?_,P9.mpr ⟨ndl,ndq,fun a ha c hc z=>?_⟩⟩,fun a ha=>?_⟩
        ·rcases Pp.mp z with z | z
         ·exact ndL z
         ·exact neq eL (rq.fpN L z).1 rfl
        ·exact neq (h6 a (Dk _ ha)) (rq.fpN c hc).1 z
        ·rcases Pk.mp ha with rfl | ha
         ·exact⟨z1,fun z=>z2 (s2 _ z)⟩
         ·rcases Pp.mp ha with ha | ha
          ·obtain⟨y1,y2⟩:=h3.2 a (Dk _ ha);exact⟨y1,fun z=>y2 (s2 _ z)⟩
          ·exact⟨f4 a (Dk _ ha),fun z=>n.st.bg (rq.fpN a ha).1 (s2 a z)⟩
       have n6:MS j σs ρs H0s Hs (σ.set i (some (.ref T))) (ρ.set i .un) H4 (upd Hd L (.lst (ls++zs))) (.l (ps++qs)):=⟨t6.st,t6.stp,t6.own,t6.fx,_,_,hj5,.l nL aq MP,fr⟩
       have hjl:j<ρ.length:=by have:=(Pa.mp h1).1;rw[n.st.len]at this;exact this
       have OH:Dm.eB Dm.cD [Dm.eV j] (Dm.see j (ρ.set i .un) (.l (ps++qs)))=some (.val (.int ((ps.length+qs.length:Nat):Int)),Dm.see j (ρ.set i .un) (.l (ps++qs))):=by
        have hs:(Dm.see j (ρ.set i .un) (.l (ps++qs)))[j]?=some (.sh (Dm.Dp.dat (.l (ps++qs)))):=by unfold Dm.see Dm.ua;rw[PD,PB (by rw[PR];exact hjl)];rfl
        have sF:(Dm.Dp.ni (ps++qs)).length=ps.length+qs.length:=by rw[Dm.Dp.fH,gV,Pd]
        have ev:Dm.eV j (Dm.see j (ρ.set i .un) (.l (ps++qs)))=some (.val (.lst (Dm.Dp.ni (ps++qs))),Dm.see j (ρ.set i .un) (.l (ps++qs))):=by unfold Dm.eV;rw[hs];unfold Dm.Dp.dat;rfl
        unfold Dm.eB Dm.eAs Dm.eAs;rw[ev];show some (Dm.Val.val (.int ((Dm.Dp.ni (ps++qs)).length:Nat)),_)=_;rw[sF]
       refine⟨_,_,_,_,n6.see,OH,fun y H7 Hc t7 r7=>?_⟩;have g7:=n6.seen t7;have n7:=n6.grow g7;refine⟨.ref L,hj5,.ref T,hTi,T,[.ref b,w],1,w,rfl,rfl,.of (g7.s1 _ _ (Cm hT)),rfl,by show 3<=sizeLine;decide,fun T2 hT2=>?_⟩;have n8:=n7.grow (aG.iK (o:=.tup [y,.ref L,w]) n7.st.same hT2);have ey:y=.int ((ps.length+qs.length:Nat):Int):=Rep.isInt r7;have ne2:∀{a:Addr} {o:HO},Hc a=some o->a≠T2:=fun {a o} q z=>by rw[z,hT2]at q;cases q
       have rep2:aZ (gw σs ρs Hs) H4 (upd Hc T2 (.tup [y,.ref L,w])) (.ref L) (.l (ps++qs)) (L::(fl++fqs)):=by
        have base:aZ (fun a=>Hs a=none) H4 (upd Hd L (.lst (ls++zs))) (.ref L) (.l (ps++qs)) (L::(fl++fqs)):=.l nL aq MP;refine base.mono (aj.refl _) (fun a z=>.inl z) (fun a us _ h=>?_) fun a ha=>?_
        ·have:=g7.s1 _ _ h;rw[ao (ne2 this)];exact this
        ·obtain⟨_,xs,h⟩:=base.fpN a ha;have:=g7.s1 _ _ h;rw[ao (ne2 this),this,h]
       have all:=aB.cons (aZ.s (N:=gw σs ρs Hs) (H:=upd Hc T2 (.tup [y,.ref L,w])) (v:=y) (d:=.int ((ps.length+qs.length:Nat):Int)) (H0:=H4) (by rw[ey];exact .int _)) (aB.cons rep2 (aB.cons (aZ.s (v:=w) rd) .nil));have fe:[]++((L::(fl++fqs))++([]++[]))=L::(fl++fqs):=by simp
       rw[fe]at all;exact k _ _ _ _ _ _ n8.sst (.t (.inl (n7.stp.gone hT2)) aq all) fr.1 fun a ha=>(fr.2 a ha).1
end
section
variable{X:Cx}{e c:Expr}{es:List Expr}{f:FE}{xq:List Stmt}{pos:Pos}{j:Nat}
theorem HM(h:DE X e f):DNw X e (Dm.pN f):=PE.weak h fun _ _ _=>OG
theorem Cn(j:Nat)(nm own:List Str){y:Str}{py FJ:Pos}{tg iter HP:Expr}{scope:Scope}{is:List Nat}{bd:Dm.FB}{fi:Dm.FI}{fp:Dm.FP}{gq:Dm.FQ}(hN:X.N.Nodup)(hg:TGc X nm scope own tg is bd)(hi:DI X tg iter fi)(he:∀cl C s H fp',DNw (aT X nm scope own cl C s H fp') HP fp)(hre:DHs X j xq gq)
  (hc:X.calm=true:=by rfl) (hk:scope.kind=.function:=by rfl) (hS:gO X.env.scope X.N nm scope=true:=by rfl) (hl:(is.all fun i=>decide (X.N.length<=i))=true:=by rfl) (hj:X.N[j]?=some y:=by rfl) (hy:Loc X.env.scope y:=by trivial)
  (hsw:swapsWith (.ListComp HP [⟨tg,iter,[],0⟩] scope pos) (some (.Name y py)) FJ.line X.env=pure true:=by rfl) (hs:∀x,foldedSetIterable iter X.env x=pure x:=by intro _;rfl)
  (hf:X.fn y=true\/X.env.scope.names.lookup y=some .local:=by trivial):DQs X (.Assign [.Name y py] (.ListComp HP [⟨tg,iter,[],0⟩] scope pos) FJ::xq) (Dm.iV j (Dm.dg fi own.length bd fp) gq):=by
 obtain⟨g,h1,h2⟩:=hg.ex;have h:PS X (.Assign [.Name y py] (.ListComp HP [⟨tg,iter,[],0⟩] scope pos) FJ) (ku (tDn (Dm.dg fi own.length bd fp)) (cW j)):=fun nC s σ H D I q=>cA hN hj hy hc (b7.of hS hk) hi h1 (fun cl C s H fp=>jV) he hsw hs hf nC s σ H D I (Ck h2 (fun i hi=>by rw[I.len];exact jY hl i hi) q);have h2:=a_ h hre;intro nC s σ H D I q;exact h2 nC s σ H D I (Fy (by rw[I.len];exact(Pa.mp hj).1) q)
theorem OI{t:FT}{x:List Stmt}{r g:Dm.FQ}(ht:DT X c t)(ha:DHs X j x r)(hre:DHs X j xq g):DHs X j (.If c x [] pos::xq) (Dm.hIf j t r g):=PSs.weak (a_ (sW ht ha lT) hre) fun _ _ _=>MO
theorem Kh(i:Nat){k:Nat}{F:Addr}{fd:FuncData}{ps:List Str}{g:List Dat->Option Dm.Dp}{x y z:Str}{as:List FE}{FD:Expr}{p pos' cpos ap xp sp ip zp epos rp tp zq sq iq yp yq:Pos}{c0 c1:Nat}{x1}(hN:X.N.Nodup)(G:bw X.prog X.w X.K X.mg X.base CX0 k F fd ps (spP g))(hr:bu k X.A)(hg:Gl X x)(hm:X.mg x=some (.ref F))(hk:QA X.K (.ref F)=true)(hb:Binds X.K fd ps [])
  (ha:DA X (e::es) as) (sF:DE X FD (Dm.eB Dm.cD [Dm.eV j])) (hij:i≠j:=by decide) (hi0:i≠0:=by decide) (hi:X.N[i]?=some y:=by rfl) (hj:X.N[j]?=some z:=by rfl) (hx:Loc X.env.scope y:=by trivial)
  (hvy:Vis X.env.scope y:=by trivial) (hvz:Vis X.env.scope z:=by trivial)
  (hdy:(y == ("__debug__" : Str))=false:=by decide) (hcy:(y == ("__classdict__" : Str))=false:=by decide) (hdz:(z == ("__debug__" : Str))=false:=by decide) (hcz:(z == ("__classdict__" : Str))=false:=by decide)
  (hs:swapsWith (.Call (.Name x p) (e::es) [] cpos) (some (.Name y pos')) pos.line X.env=pure false:=by rfl)
  (hf:X.fn y=true\/X.env.scope.names.lookup y=some .local:=by trivial) (MT:(x == ("__debug__" : Str))=false:=by decide) (he:starEach (e::es) X.env=(false,eval e X.env)::starEach es X.env:=by rfl) (Cs:(backTo cpos (starEach es X.env)).any (·.1)=false:=by rfl)
  (hp0:eN (.Constant (.int 0) c0 ip):=by intro _ _;rfl) (hp1:eN (.Constant (.int 1) c1 iq):=by intro _ _;rfl)
  (CA:attributeBase (.Name z zp) "extend" X.env (eval (.Name z zp) X.env)=eval (.Name z zp) X.env:=by rfl)
  (hfew:((backTo xp (starEach [.Subscript (.Name y yp) (.Constant (.int 0) c0 ip) sp] X.env)).all (fun x=>!x.1)&&(backToKw xp (keywordEach [] X.env)).all (fun x=>x.1.isSome)
   && decide ([Expr.Subscript (.Name y yp) (.Constant (.int 0) c0 ip) sp].length+([]:List Keyword).length+(if ([]:List Keyword).isEmpty then 0 else 1)<30))=true:=by rfl)
  (Cz:(ap.endLine == xp.line)=true:=by rfl) (hs1:starEach [.Subscript (.Name y yp) (.Constant (.int 0) c0 ip) sp] X.env=(false,eval (.Subscript (.Name y yp) (.Constant (.int 0) c0 ip) sp) X.env)::starEach [] X.env:=by rfl) (Gv:(backTo xp (starEach [] X.env)).any (·.1)=false:=by rfl)
  (hsw:swapsWith (.Call (.Attribute (.Name z zp) "extend" ap) [.Subscript (.Name y yp) (.Constant (.int 0) c0 ip) sp] [] xp) none epos.line X.env=pure false:=by rfl)
  (hs2:starEach [FD,.Name z zq,.Subscript (.Name y yq) (.Constant (.int 1) c1 iq) sq] X.env=(false,eval FD X.env)::starEach [.Name z zq,.Subscript (.Name y yq) (.Constant (.int 1) c1 iq) sq] X.env:=by rfl)
  (hs3:starEach [.Name z zq,.Subscript (.Name y yq) (.Constant (.int 1) c1 iq) sq] X.env=(false,eval (.Name z zq) X.env)::starEach [.Subscript (.Name y yq) (.Constant (.int 1) c1 iq) sq] X.env:=by rfl)
  (hs4:starEach [.Subscript (.Name y yq) (.Constant (.int 1) c1 iq) sq] X.env=(false,eval (.Subscript (.Name y yq) (.Constant (.int 1) c1 iq) sq) X.env)::starEach [] X.env:=by rfl) :
  DHs X j [.Assign [.Name y pos'] (.Call (.Name x p) (e::es) [] cpos) pos,.Expr (.Call (.Attribute (.Name z zp) "extend" ap) [.Subscript (.Name y yp) (.Constant (.int 0) c0 ip) sp] [] xp) epos,.Return (some (.Tuple [FD,.Name z zq,.Subscript (.Name y yq) (.Constant (.int 1) c1 iq) sq] x1 tp)) rp] (Dm.nv j g as):=by
 have h:=a_ (qT hN hi hx (fR G hr hg hm hk hb .nil (mG (X:=X)) ha MT he Cs) hs hf) (a_ (fO (tw Qy PySem.F.slot_list_extend PySem.F.type_list_extend zE (bR (pos:=zp) hj hvz hdz hcz) (bM (mD mE (bR (pos:=yp) hi hvy hdy hcy) l9 hp0 (pos:=sp)) dX hs1) CA hfew Cz hs1 Gv) hsw)
  (iz (l_ (pos:=rp) (mw (x1:=x1) (pos:=tp) (bM sF (bM (bR (pos:=zq) hj hvz hdz hcz) (bM (mD mE (bR (pos:=yq) hi hvy hdy hcy) l9 hp1 (pos:=sq)) dX hs4) hs3) hs2)))))
 intro nC s σ H D I q;exact h nC s σ H D I (FA (by rw[I.len];exact(Pa.mp hi).1) hij hi0 q)
theorem Kl{x:Str}{i:Expr}{fi:FE}{px sp sp2 ap cp ip:Pos}{z:Int}{jc}(hi':DE X i fi)(hi:X.N[j]?=some x:=by rfl)(hv:Vis X.env.scope x:=by trivial)(hd:(x == ("__debug__" : Str))=false:=by decide)
  (HQ:(x == ("__classdict__" : Str))=false:=by decide) (Cs:eN i:=by intro _ _;rfl) (hpz:eN (.Constant (.int z) jc ip):=by intro _ _;rfl) (CA:attributeBase (.Subscript (.Subscript (.Name x px) (.Constant (.int z) jc ip) sp2) i sp) "clear" X.env (eval (.Subscript (.Subscript (.Name x px) (.Constant (.int z) jc ip) sp2) i sp) X.env)=eval (.Subscript (.Subscript (.Name x px) (.Constant (.int z) jc ip) sp2) i sp) X.env:=by rfl)
  (Cz:(ap.endLine == cp.line)=true:=by rfl) (hsw:swapsWith (.Call (.Attribute (.Subscript (.Subscript (.Name x px) (.Constant (.int z) jc ip) sp2) i sp) "clear" ap) [] [] cp) none pos.line X.env=pure false:=by rfl) :
  DC X j (.Expr (.Call (.Attribute (.Subscript (.Subscript (.Name x px) (.Constant (.int z) jc ip) sp2) i sp) "clear" ap) [] [] cp) pos) (Dm.qk j z fi):=
 PS.weak (fO (AW Qy PySem.F.slot_list_clear PySem.F.type_list_clear tE (mD qW (mD mE (bR hi hv hd HQ) l9 hpz) hi' Cs) CA Cz) hsw) fun _ _ _=>Fz
end
end Br
namespace Dm
noncomputable def fL:List Dat->Option RV
 | [.tup xs]=>(match gP xs with
  |some ns=>if ns.length<=63 then some (.new (.lst ((bK (fun a b=>decide (a<b)) ns).map .int))) else none
  |none=>none)
 |_=>none
noncomputable def lC(j:Nat)(f:FE)(bd:FB)(body:FC):FC:=fun ρ p=>match f (see j ρ p) with
 |some (.val (.int m),_)=>if m<=BIG/\-BIG<=m then iU bd body (ups 0 m.toNat) ρ p else none
 |_=>none
end Dm
namespace Br
open PySem PySem.Spec PyProof.Rows L2
def uq:List V->Hp->VK->Prop:=fun xs H Q=>∃(p:Addr) (ns:List Int),xs=[.ref p]/\H p=some (.tup (ns.map V.int))/\ns.length<=63 /\
 ∀(ms:List Int) (l:Addr),ms.Perm ns->ms.Pairwise (·<=·)->H l=none->Q (.ref l) (upd H l (.lst (ms.map V.int)))
theorem fX:∀{ns:List Int} {its:List Value},Vals (ns.map V.int) its->IntsAre its ns
 |[],_,r=>by rw[Rj]at r;cases r;exact .nil
 |n::ns,_,r=>by
  rw[eg]at r;cases r with
  |cons h t=>obtain⟨k,rfl⟩:=h;exact .cons n k (fX t)
theorem rR{X:Cx}:cX X (.builtin "sorted") uq:=by
 intro nC s σ H xs us Q I r h;obtain⟨p,ns,rfl,hq,hl,k⟩:=h;obtain⟨u,rfl,rx⟩:=vals1 r;cases rx;obtain⟨z,its,rv,o,h1,h2,n,h3⟩:=(show aQ X.prog X.w H s.heap p (.tup (ns.map V.int)) from I.hok p _ hq)
 have hI:=fX rv;have sF:its.length=ns.length:=by have:=rv.length;rw[gV]at this;exact this.symm
 refine Calls.call_function_entry kind_sorted plain_sorted entry_sorted (args_sorted1 _) ?_;unfold Builtin.«sorted»;refine wpAny_bind (m:=checkCount "sorted" 1 1 _) (wpAny_pure ?_);refine wpAny_bind (wpAny_collect_seq (hsz:=by rw[Pe,sF];exact P0 hl (by decide)) p (.inr rfl) h1 h2 h3 fun h' hk=>?_);have hn:its.toArray.toList.length<=63:=by rw[List.toList_toArray,sF];exact hl
 refine wpAny_bind (wpAny_newList ?_ (P0 hn (by decide)));have hL0:(h'.push (seqObj "list" its.toArray 0)).get? h'.objs.size=some (seqObj "list" its.toArray 0):=P5 _ rfl;have I1:=I.kept (t':=s.toks) hk;refine wpAny_bind (wpAny_holding (wpAny_call_entry (s:={ s with heap:=h'.push (seqObj "list" its.toArray 0) }) slot_list_sort ⟨_,hL0,rfl⟩ entry_list_sort (list_sort_tree hL0 hI (by rw[sF];lia) fun out ms a1 a2 a3=>⟨_,rfl,?_⟩) (args_list_sort _)));obtain⟨c,hc'⟩:=sortedHeap_at (out:=out) hL0;have hz2:(ms.map V.int).length<=sizeLine:=by rw[gV,a2.length_eq];exact P0 hl (by decide)
 refine wpAny_pure ⟨_,rfl,.ref h'.objs.size,_,I1.laid (t':=s.toks) (fun b o e=>?_) (Pb _) (show aQ X.prog X.w _ _ _ (.lst (ms.map V.int)) from ⟨hz2,out.toList,c,dR a1,by simpa using hc'⟩),rfl,k ms _ a2 a3 (I1.hok.fresh (Pb _))⟩;have lt:=Po e;rw[sortedHeap_old (P6 lt) (by rw[size_push'];exact Nat.lt_succ_of_lt lt)];exact Ph _ e
theorem wW:CallD uq Dm.fL:=by
 intro H0 H vs ds z Q s rs e k;unfold Dm.fL at e;split at e
 ·rename_i xs;split at e
  ·rename_i ns en;split at e
   case isFalse=>cases e
   rename_i hl;cases e;cases rs with
   |cons r rr=>
    cases rr;obtain⟨a,us,rfl,ha,ra⟩:=fF s r;have eu:=j0 ra en;subst eu;refine⟨a,ns,rfl,ha,hl,fun ms l pm so hp=>?_⟩;have em:ms=Dm.bK (fun a b=>decide (a<b)) ns:=Dm.gQ (lt:=fun a b=>decide (a<b)) (fun a b h1 h2=>by simp at h1 h2;lia) (pm.trans (Dm.cR _ ns).symm) (so.imp fun {a b} h=>by simp;lia)
     (Dm.dN (fun a b c h1 h2=>by simp at *;lia) (fun a b h=>by simp at *;lia) ns)
    exact k _ _ _ (aG.iK s hp) ⟨l,rfl,hp,s.free hp,_,aq,by rw[<- em];exact kJ ms⟩
  ·cases e
 ·cases e
theorem Aa{X:Cx}{e:Expr}{fs:List FE}{p pos:Pos}(hg:Gl X "sorted")(hm:X.mg "sorted" = none)(ha:DA X [e] fs)(he:starEach [e] X.env=[(false,eval e X.env)]:=by rfl)(Cs:(backTo pos (starEach [] X.env)).any (·.1)=false:=by rfl):DE X (.Call (.Name "sorted" p) [e] [] pos) (Dm.eB Dm.fL fs):=zR rR wW (by rfl) hg hm ha (he:=he) (Cs:=Cs)
section
variable{D:Ends}{σ:L2.St}{H:Hp}{j:Nat}
theorem FF{f:FE}{bd:Dm.FB}{g:TG}{body:Dm.FC}{is:List Nat}(hb:BD is g bd)(hj:j∉is)(h:tDC j (Dm.lC j f bd body) D σ H):Ej (AI (tDA [f])) g (tDC j body) D σ H:=by
 obtain⟨σs,ρs,H0s,Hs,H00,ρ,p,o,n,e,k⟩:=h;unfold Dm.lC at e;split at e
 case h_2=>cases e
 rename_i m ρ1 e1;split at e
 case isFalse=>cases e
 rename_i hbd;refine⟨_,_,[.val (.int m)],ρ1,n.see,by unfold Dm.eAs;rw[e1];rfl,fun vs H0' H' t r=>?_⟩;cases r with
 |cons r rr=>
  cases rr;cases Rep.isInt r;have hb1:=hbd.1;have hb2:=hbd.2;unfold Dm.BIG at hb1 hb2;refine⟨m,rfl,by lia,by lia,?_⟩;have n:=n.grow (n.seen t)
  generalize hys:Dm.ups 0 m.toNat=ys at e
  have jw:JW (Itr 0 m.toNat) H00 ys:=by rw[<- hys];exact mT
  refine ⟨fun i m σ H=>∃ H0 ρ p,MS j σs ρs H0s Hs σ ρ H0 H p∧aj H00 H0∧m=ys.length-i∧i≤ys.length∧Dm.iU bd body (ys.drop i) ρ p=some o,
   ⟨ys.length,H00,ρ,p,n,aj.refl _,by simp,Qf _,by simpa using e⟩,?_⟩
  rintro i m σ H ⟨H0,ρ,p,n,s00,rfl,hi,e⟩;obtain⟨js,jg⟩:=jw H0 H s00 n.st.same;by_cases HN:i<ys.length
  ·have hd:ys[i]?=some ys[i]:=by simp[HN]
   obtain⟨g1,g2⟩:=jg i ys[i] hd;rw[Ql HN]at e;unfold Dm.iU at e;refine .inr ⟨g1,fun σ' H'=>∃H0 ρ p,MS j σs ρs H0s Hs σ' ρ H0 H' p/\aj H00 H0/\Dm.iU bd body (ys.drop (i+1)) ρ p=some o,?_,fun x H' y=>?_⟩
   ·rintro σ' H' ⟨H0',ρ2,r2,h1,h2,h3⟩;exact⟨ys.length-(i+1),by lia,H0',ρ2,r2,h1,h2,rfl,HN,h3⟩
   ·obtain⟨H0',gr,rx⟩:=g2 x H' y;split at e
    ·cases e
    ·rename_i ρ2 e2;have n2:=n.grow gr;refine hb H0' H' σ ρ ρ2 x ys[i] _ n2.st rx e2 fun σ2 st2 o2 k2 _ f2=>?_;have n3:=n2.bind st2 o2 (k2 j hj) f2;have s3:aj H00 H0':=s00.trans gr.s0;split at e
     ·rename_i ρ3 p3 e3;exact⟨σs,ρs,H0s,Hs,H0',ρ2,p,_,n3,e3,fun σ4 H4 Hd n4 s4=>⟨H4,ρ3,p3,n4,s3.trans s4,e⟩⟩
     ·rename_i hn;cases o with
      |nx ρ1 p1=>exact(hn _ _ e).elim
      |rt d ρ1=>exact⟨σs,ρs,H0s,Hs,H0',ρ2,p,_,n3,e,k⟩
  ·have e':i=ys.length:=by lia
   subst e';rw[QX]at e;cases e;exact .inl ⟨js _ (Pb _),k σ H0 H n s00⟩
end
section
variable{X:Cx}{a:Expr}{fa:FE}{pos p pos':Pos}{j:Nat}
theorem Km{tg:Expr}{is:List Nat}{bd:Dm.FB}{body:List Stmt}{fs:Dm.FC}(hp:PassesOwn (model X.prog X.w) X.A X.env X.xe)(hc:X.calm=true)(hg':Gl X "range")(hm:X.mg "range" = none)(ha:DA X [a] [fa])(hg:TG' X tg is bd)(hb:DCs X j body fs)(hj:decide (j∈is)=false:=by rfl)
  (hs:starEach [a] X.env=[(false,eval a X.env)]:=by rfl) (hs2:∀x,foldedSetIterable (.Call (.Name "range" p) [a] [] pos) X.env x=pure x:=by intro _;rfl):DC X j (.For tg (.Call (.Name "range" p) [a] [] pos) body [] pos') (Dm.lC j fa bd fs):=by
 obtain⟨g,h1,h2⟩:=hg.ex;exact PS.weak (vQ hp hc (pP hg' hm ha hs) h1 hb hs2) fun _ _ _=>FF h2 (of_decide_eq_false hj)
end
end Br
namespace Dm
noncomputable def ny(j:Nat)(f:FE):FQ:=fun ρ p=>match f (see j ρ p) with
 |some (.val d,_)=>if kc d then some (.t [p,.s d]) else none
 |_=>none
end Dm
namespace Br
open PySem PySem.Spec PyProof.Rows L2
section
variable{D:Ends}{σ:L2.St}{H:Hp}{j:Nat}
theorem FG{f:FE}(h:tDQ j (Dm.ny j f) D σ H):zl (zA (dW (gm j) (dW (tD f) kB))) D σ H:=by
 obtain⟨σs,ρs,H0s,Hs,H0,ρ,p,q,n,e,k⟩:=h;unfold Dm.ny at e;split at e
 case h_2=>cases e
 rename_i d ρ1 e1;split at e
 case isFalse=>cases e
 rename_i nl;cases e;obtain⟨vj,fp0,h1,_,_⟩:=n.ex;refine⟨vj,h1,_,_,_,ρ1,n.see,e1,fun v H1 Hb t1 r1=>?_⟩;obtain⟨n1,r⟩:=n.keep (q:=.s d) (fq:=[]) t1 (.s r1) nl;refine⟨by show 2<=sizeLine;decide,fun T hT=>?_⟩;obtain⟨w,fp,g1,g2,g3⟩:=n1.ex;rw[h1]at g1;cases g1;have n2:=n1.grow (aG.iK (o:=.tup [vj,v]) n1.st.same hT);have neT:∀{a:Addr} {o:HO},Hb a=some o->a≠T:=fun {a o} q z=>by rw[z,hT]at q;cases q
 have all:=aB.cons g2 (aB.cons (aZ.s (v:=v) (d:=d) r) .nil);rw[PY,PY]at all;refine k _ _ _ _ _ fp n2.sst (.t (.inl (n1.stp.gone hT)) aq (all.mono (aj.refl _) (fun a z=>.inl z) (fun a us' _ q=>by rw[ao (neT q)];exact q) fun a ha=>?_)) g3.1 fun a ha=>(g3.2 a ha).1;obtain⟨_,zs,hz'⟩:=g2.fpN a ha;exact ao (neT hz')
end
section
variable{X:Cx}{e:Expr}{f:FE}{pos:Pos}{j:Nat}
theorem Kn{x:Str}{px:Pos}{x1}{tp:Pos}(he:DE X e f)(hi:X.N[j]?=some x:=by rfl)(hv:Vis X.env.scope x:=by trivial)(hd:(x == ("__debug__" : Str))=false:=by decide)(HQ:(x == ("__classdict__" : Str))=false:=by decide)
  (hs:starEach [.Name x px,e] X.env=(false,eval (.Name x px) X.env)::starEach [e] X.env:=by rfl) (hs2:starEach [e] X.env=(false,eval e X.env)::starEach [] X.env:=by rfl):DHs X j [.Return (some (.Tuple [.Name x px,e] x1 tp)) pos] (Dm.ny j f):=
 iz (PS.weak (l_ (mw (bM (bR hi hv hd HQ) (bM he dX hs2) hs))) fun _ _ _=>FG)
end
end Br
namespace Dm
noncomputable def fB:List Dat->Option RV
 | [.lst xs]=>(match gP xs with
  |some ns=>if ns.length<=63 then some (.new (.lst ((bK (fun a b=>decide (a<b)) ns).map .int))) else none
  |none=>none)
 |_=>none
end Dm
namespace Br
open PySem PySem.Spec PyProof.Rows L2
def Co(K:O8):List V->Hp->VK->Prop:=fun xs H Q=>∃(p:Addr) (ns:List Int),xs=[.ref p]/\SqL K H p (ns.map V.int)/\ns.length<=63 /\
 ∀(ms:List Int) (l:Addr),ms.Perm ns->ms.Pairwise (·<=·)->H l=none->Q (.ref l) (upd H l (.lst (ms.map V.int)))
theorem wX{X:Cx}:cX X (.builtin "sorted") (Co X.K):=by
 intro nC s σ H xs us Q I r h;obtain⟨p,ns,rfl,hq,hl,k⟩:=h;obtain⟨u,rfl,rx⟩:=vals1 r;cases rx;obtain⟨its,rv,pl,hz⟩:=I.list hq;obtain⟨o,h1,h2,n,h3⟩:=pl.isList;have hI:=fX rv;have sF:its.length=ns.length:=by have:=rv.length;rw[gV]at this;exact this.symm
 refine Calls.call_function_entry kind_sorted plain_sorted entry_sorted (args_sorted1 _) ?_;unfold Builtin.«sorted»;refine wpAny_bind (m:=checkCount "sorted" 1 1 _) (wpAny_pure ?_);refine wpAny_bind (wpAny_collect_seq (hsz:=by rw[Pe,sF];exact P0 hl (by decide)) p (.inl rfl) h1 h2 h3 fun h' hk=>?_);have hn:its.toArray.toList.length<=63:=by rw[List.toList_toArray,sF];exact hl
 refine wpAny_bind (wpAny_newList ?_ (P0 hn (by decide)));have hL0:(h'.push (seqObj "list" its.toArray 0)).get? h'.objs.size=some (seqObj "list" its.toArray 0):=P5 _ rfl;have I1:=I.kept (t':=s.toks) hk;refine wpAny_bind (wpAny_holding (wpAny_call_entry (s:={ s with heap:=h'.push (seqObj "list" its.toArray 0) }) slot_list_sort ⟨_,hL0,rfl⟩ entry_list_sort (list_sort_tree hL0 hI (by rw[sF];lia) fun out ms a1 a2 a3=>⟨_,rfl,?_⟩) (args_list_sort _)));obtain⟨c,hc'⟩:=sortedHeap_at (out:=out) hL0;have hz2:(ms.map V.int).length<=sizeLine:=by rw[gV,a2.length_eq];exact P0 hl (by decide)
 refine wpAny_pure ⟨_,rfl,.ref h'.objs.size,_,I1.laid (t':=s.toks) (fun b o e=>?_) (Pb _) (show aQ X.prog X.w _ _ _ (.lst (ms.map V.int)) from ⟨hz2,out.toList,c,dR a1,by simpa using hc'⟩),rfl,k ms _ a2 a3 (I1.hok.fresh (Pb _))⟩;have lt:=Po e;rw[sortedHeap_old (P6 lt) (by rw[size_push'];exact Nat.lt_succ_of_lt lt)];exact Ph _ e
theorem Cp{K:O8}:CallD (Co K) Dm.fB:=by
 intro H0 H vs ds z Q s rs e k;unfold Dm.fB at e;split at e
 ·rename_i xs;split at e
  ·rename_i ns en;split at e
   case isFalse=>cases e
   rename_i hl;cases e;cases rs with
   |cons r rr=>
    cases rr;obtain⟨a,us,rfl,ha,ra⟩:=bF s r;have eu:=j0 ra en;subst eu;refine⟨a,ns,rfl,.inl ha,hl,fun ms l pm so hp=>?_⟩;have em:ms=Dm.bK (fun a b=>decide (a<b)) ns:=Dm.gQ (lt:=fun a b=>decide (a<b)) (fun a b h1 h2=>by simp at h1 h2;lia) (pm.trans (Dm.cR _ ns).symm) (so.imp fun {a b} h=>by simp;lia)
     (Dm.dN (fun a b c h1 h2=>by simp at *;lia) (fun a b h=>by simp at *;lia) ns)
    exact k _ _ _ (aG.iK s hp) ⟨l,rfl,hp,s.free hp,_,aq,by rw[<- em];exact kJ ms⟩
  ·cases e
 ·cases e
theorem rS{X:Cx}{e:Expr}{fs:List FE}{p pos:Pos}(hg:Gl X "sorted")(hm:X.mg "sorted" = none)(ha:DA X [e] fs)(he:starEach [e] X.env=[(false,eval e X.env)]:=by rfl)(Cs:(backTo pos (starEach [] X.env)).any (·.1)=false:=by rfl):DE X (.Call (.Name "sorted" p) [e] [] pos) (Dm.eB Dm.fB fs):=zR wX Cp (by rfl) hg hm ha (he:=he) (Cs:=Cs)
end Br
namespace Dm
section
variable{K:RV->Prop}{o p:Option Dat}{ρ:Env}{Q:Val->Env->Prop}{R:RV->Env->Prop}{N:Env->Prop}{B C:Env->Prop}{d:Dat}{f:List Dat->Option RV}{α:Type}{i j:Int}{xs:List Dat}{as:List FE}{ds:List Dat}{a:FE}{vs:List Dat}{ks:List Int}{X Y:Prop}{g:Dat->Option RV}{lo hi:Option FE}{c:Bool}{e:FE}{ds0:List Dat}{body:FS}{v:RV}{ρ2 ρ3:Env}{t:FT}{n m:Nat}{s u:FS}{bd:FB}{it:FI}
def We(e:FE)(ρ:Env)(Q:Val->Env->Prop):Prop:=∃v ρ',e ρ=some (v,ρ')/\Q v ρ'
def Wt(t:FT)(ρ:Env)(Q:Bool->Env->Prop):Prop:=∃v ρ',t ρ=some (v,ρ')/\Q v ρ'
def Was(as:List FE)(ρ:Env)(Q:List Val->Env->Prop):Prop:=∃v ρ',eAs as ρ=some (v,ρ')/\Q v ρ'
def Wi(it:FI)(ρ:Env)(Q:List Dat->Env->Prop):Prop:=∃v ρ',it ρ=some (v,ρ')/\Q v ρ'
def KO(N:Env->Prop)(R:RV->Env->Prop)(B C:Env->Prop):Out->Prop
 |.nx ρ=>N ρ
 |.ret r ρ=>R r ρ
 |.bk ρ=>B ρ
 |.ct ρ=>C ρ
def Ws(s:FS)(ρ:Env)(N:Env->Prop)(R:RV->Env->Prop)(B C:Env->Prop):Prop:=∃o,s ρ=some o/\KO N R B C o
def Wr(o:Option RV)(P:RV->Prop):Prop:=∃r,o=some r/\P r
def Wif(c:Bool)(X Y:Prop):Prop:=(c=true->X)/\(c=false->Y)
def Wg1(g:Dat->Option RV)(o:Option Dat)(K:RV->Prop):Prop:=∃d v,o=some d/\g d=some v/\K v
def Wg2(g:Dat->Dat->Option RV)(o p:Option Dat)(K:RV->Prop):Prop:=∃d e v,o=some d/\p=some e/\g d e=some v/\K v
def WB(g:List Dat->Option RV)(o:Option (List Dat))(K:RV->Prop):Prop:=∃ds v,o=some ds/\g ds=some v/\K v
def WT(o:Option (List Dat×Env))(K:List Dat->Env->Prop):Prop:=∃ds ρ,o=some (ds,ρ)/\ds.length<=SZ/\K ds ρ
def WF(f:List Dat->Option RV)(ρ:Env)(xs:List Val)(Q:Val->Env->Prop):Prop:=∃ds v,pks ρ xs=some ds/\f ds=some v/\(if dY v.dat then ∃ds' ρ2,tks ρ xs=some (ds',ρ2)/\Q v.bC ρ2 else Q v.bC ρ)
def Wk(ρ:Env)(x:Val)(K:Dat->Env->Prop):Prop:=∃d ρ',tk ρ x=some (d,ρ')/\K d ρ'
def Wp(o:Option FE)(ρ:Env)(K:Option Int->Env->Prop):Prop:=∃i ρ',part o ρ=some (i,ρ')/\K i ρ'
theorem SN(x:X):Wif true X Y:=⟨fun _=>x,fun h=>by cases h⟩
theorem Ss(y:Y):Wif false X Y:=⟨fun h=>(by cases h),fun _=>y⟩
theorem S2(h:c=true)(x:X):Wif c X Y:=⟨fun _=>x,fun h'=>by rw[h]at h';cases h'⟩
theorem SJ(h:c=false)(y:Y):Wif c X Y:=⟨fun h'=>(by rw[h]at h';cases h'),fun _=>y⟩
theorem SX{p:Prop}[Decidable p](x:p->X)(y:¬p->Y):Wif (decide p) X Y:=⟨fun h=>x (of_decide_eq_true h),fun h=>y (of_decide_eq_false h)⟩
theorem O_{i:Nat}(h:ρ[i]?=some (.sh d))(q:Q (.val d) ρ):We (eV i) ρ Q:=⟨_,_,by unfold eV;rw[h],q⟩
theorem Sg{i:Nat}(h:ρ[i]?=some (.ow d))(q:Q (.slot i) ρ):We (eV i) ρ Q:=⟨_,_,by unfold eV;rw[h],q⟩
theorem Se(q:Q (.val d) ρ):We (eC d) ρ Q:=⟨_,_,rfl,q⟩
theorem SW(h:We a ρ fun x ρ1=>Wg1 g (pk ρ1 x) fun v=>Q v.bC ρ1):We (e1 g a) ρ Q:=by obtain⟨x,ρ1,h1,d,v,h2,h3,q⟩:=h;exact⟨_,_,by unfold Dm.e1;rw[h1];dsimp only;rw[h2];dsimp only;rw[h3],q⟩
theorem P_{g:Dat->Dat->Option RV}{a b:FE}(h:We a ρ fun x ρ1=>We b ρ1 fun y ρ2=>Wg2 g (pk ρ2 x) (pk ρ2 y) fun v=>Q v.bC ρ2):We (e2 g a b) ρ Q:=by obtain⟨x,ρ1,h1,y,ρ2,h2,d,e,v,h3,h4,h5,q⟩:=h;exact⟨_,_,by unfold Dm.e2;rw[h1];dsimp only;rw[h2];dsimp only;rw[h3];dsimp only;rw[h4];dsimp only;rw[h5],q⟩
theorem Q_{Q:List Val->Env->Prop}(q:Q [] ρ):Was [] ρ Q:=⟨_,_,rfl,q⟩
theorem m_{r:List FE}{Q:List Val->Env->Prop}(h:We a ρ fun x ρ1=>Was r ρ1 fun xs ρ2=>Q (x::xs) ρ2):Was (a::r) ρ Q:=by obtain⟨x,ρ1,h1,xs,ρ2,h2,q⟩:=h;exact⟨_,_,by unfold eAs;rw[h1];dsimp only;rw[h2],q⟩
theorem Sw{g:List Dat->Option RV}(h:Was as ρ fun xs ρ1=>WB g (pks ρ1 xs) fun v=>Q v.bC ρ1):We (eB g as) ρ Q:=by obtain⟨x,ρ1,h1,d,v,h2,h3,q⟩:=h;exact⟨_,_,by unfold eB;rw[h1];dsimp only;rw[h2];dsimp only;rw[h3],q⟩
theorem Td(h:Was as ρ fun xs ρ1=>WT (tks ρ1 xs) fun ds ρ2=>Q (.val (.tup ds)) ρ2):We (eE as) ρ Q:=by obtain⟨x,ρ1,h1,ds,ρ2,h2,h3,q⟩:=h;exact⟨_,_,by unfold eE;rw[h1];dsimp only;rw[h2];dsimp only;rw[if_pos h3],q⟩
theorem SK(h:Was as ρ fun xs ρ1=>WT (tks ρ1 xs) fun ds ρ2=>Q (.new (.lst ds)) ρ2):We (cL as) ρ Q:=by obtain⟨x,ρ1,h1,ds,ρ2,h2,h3,q⟩:=h;exact⟨_,_,by unfold cL;rw[h1];dsimp only;rw[h2];dsimp only;rw[if_pos h3],q⟩
theorem So{xs:List Val}{K:List Dat->Env->Prop}(k:K ds ρ3)(h:tks ρ xs=some (ds,ρ2))(hn:ρ2=ρ3)(hl:ds.length<=SZ):WT (tks ρ xs) K:=⟨_,_,hn▸h,hl,k⟩
theorem SD(h:Was as ρ fun xs ρ1=>WF f ρ1 xs Q):We (eF f as) ρ Q:=by
 obtain⟨x,ρ1,h1,ds,v,h2,h3,h4⟩:=h;by_cases hb:dY v.dat=true
 ·rw[if_pos hb]at h4;obtain⟨ds',ρ2,h5,q⟩:=h4;exact⟨_,_,by unfold eF;rw[h1];dsimp only;rw[h2];dsimp only;rw[h3];dsimp only;rw[if_pos hb,h5],q⟩
 ·rw[if_neg hb]at h4;exact⟨_,_,by unfold eF;rw[h1];dsimp only;rw[h2];dsimp only;rw[h3];dsimp only;rw[if_neg hb],h4⟩
theorem S3{ρ ρ2 ρ3:Env}{xs:List Val}{ds ds':List Dat}(h2:f ds=some v)(q:Q v.bC ρ3)(h1:pks ρ xs=some ds)(h3:dY v.dat=true)(h4:tks ρ xs=some (ds',ρ2))(hn:ρ2=ρ3):WF f ρ xs Q:=
 ⟨_,_,h1,h2,by rw[if_pos h3];exact⟨_,_,h4,hn▸q⟩⟩
theorem SA{xs:List Val}(h2:f ds=some v)(q:Q v.bC ρ)(h1:pks ρ xs=some ds)(h3:dY v.dat=false):WF f ρ xs Q:=
 ⟨_,_,h1,h2,by rw[if_neg (by rw[h3];decide)];exact q⟩
def Wb(v:Val)(K:Bool->Prop):Prop:=∃c,v=.val (.bl c)/\K c
theorem Sf{K:Bool->Prop}(k:K c):Wb (.val (.bl c)) K:=⟨c,rfl,k⟩
theorem S7{a b:FE}(h:We a ρ fun v ρ1=>Wb v fun c=>Wif c (We b ρ1 Q) (Q (.val (.bl false)) ρ1)):We (iZ a b) ρ Q:=by
 obtain⟨v,ρ1,h1,c,rfl,h2,h3⟩:=h;cases c with
 |true=>obtain⟨v,ρ2,h4,q⟩:=h2 rfl;exact⟨_,_,by unfold iZ;rw[h1];exact h4,q⟩
 |false=>exact⟨_,_,by unfold iZ;rw[h1],h3 rfl⟩
theorem Ua(h:We a ρ fun v ρ1=>Wb v fun c=>Q (.val (.bl (!c))) ρ1):We (tL a) ρ Q:=by obtain⟨v,ρ1,h1,c,rfl,h2⟩:=h;exact⟨_,_,by unfold tL;rw[h1],h2⟩
theorem Si{Q:Bool->Env->Prop}(h:We a ρ fun v ρ1=>Wb v fun c=>Q c ρ1):Wt (tV a) ρ Q:=by obtain⟨v,ρ1,h1,c,rfl,h2⟩:=h;exact⟨_,_,by unfold tV;rw[h1],h2⟩
theorem SI{Q:Bool->Env->Prop}(h:Wt t ρ fun c ρ1=>Q (!c) ρ1):Wt (dI t) ρ Q:=by obtain⟨v,ρ1,h1,h2⟩:=h;exact⟨_,_,by unfold dI;rw[h1],h2⟩
theorem S5{t u:FT}{Q:Bool->Env->Prop}(h:Wt t ρ fun c ρ1=>Wif c (Wt u ρ1 Q) (Q false ρ1)):Wt (e8 t u) ρ Q:=by
 obtain⟨c,ρ1,h1,h2,h3⟩:=h;cases c with
 |true=>obtain⟨v,ρ2,h4,q⟩:=h2 rfl;exact⟨_,_,by unfold e8;rw[h1];exact h4,q⟩
 |false=>exact⟨_,_,by unfold e8;rw[h1],h3 rfl⟩
theorem SR{t u:FT}{Q:Bool->Env->Prop}(h:Wt t ρ fun c ρ1=>Wif c (Q true ρ1) (Wt u ρ1 Q)):Wt (tOr t u) ρ Q:=by
 obtain⟨c,ρ1,h1,h2,h3⟩:=h;cases c with
 |false=>obtain⟨v,ρ2,h4,q⟩:=h3 rfl;exact⟨_,_,by unfold tOr;rw[h1];exact h4,q⟩
 |true=>exact⟨_,_,by unfold tOr;rw[h1],h2 rfl⟩
theorem Vf{Q:Bool->Env->Prop}(h:We a ρ fun x ρ1=>∃d c,pk ρ1 x=some d/\truth d=some c/\Q c ρ1):Wt (tTr a) ρ Q:=by obtain⟨x,ρ1,h1,d,c,h2,h3,q⟩:=h;exact⟨_,_,by unfold tTr;rw[h1];dsimp only;rw[h2];dsimp only;rw[h3],q⟩
theorem T8{Q:Bool->Env->Prop}(q:Q true ρ):Wt bO ρ Q:=⟨_,_,rfl,q⟩
theorem Sk{K:Dat->Env->Prop}(k:K d ρ):Wk ρ (.val d) K:=⟨_,_,rfl,k⟩
theorem S8{K:Dat->Env->Prop}(k:K d ρ):Wk ρ (.new d) K:=⟨_,_,rfl,k⟩
theorem TV{ρ ρ':Env}{i:Nat}{K:Dat->Env->Prop}(k:K d ρ')(h:ρ[i]?=some (.ow d))(hs:ρ.set i (.sh d)=ρ'):Wk ρ (.slot i) K:=⟨_,_,by unfold tk;dsimp only;rw[h];dsimp only;rw[hs],k⟩
noncomputable def Cq:Dat->Option (List Dat)
 |.lst ds=>some ds
 |.tup ds=>some ds
 |_=>none
theorem SY{Q:List Dat->Env->Prop}(h:We a ρ fun x ρ1=>Wk ρ1 x fun d ρ2=>∃ds,Cq d=some ds/\Q ds ρ2):Wi (iS a) ρ Q:=by
 obtain⟨x,ρ1,h1,d,ρ2,h2,ds,hd,q⟩:=h;cases d with
 |lst xs=>cases hd;exact⟨_,_,by unfold iS;rw[h1];dsimp only;rw[h2],q⟩
 |tup xs=>cases hd;exact⟨_,_,by unfold iS;rw[h1];dsimp only;rw[h2],q⟩
 |_=>cases hd
def bY(v:Val)(K:Int->Prop):Prop:=∃i,v=.val (.int i)/\K i
theorem bY.mk{i:Int}{K:Int->Prop}(k:K i):bY (.val (.int i)) K:=⟨i,rfl,k⟩
theorem Ti{Q:List Dat->Env->Prop}(h:We a ρ fun v ρ1=>bY v fun j=>Q (ups 0 j.toNat) ρ1/\j<=BIG/\-BIG<=j):Wi (iR1 a) ρ Q:=by obtain⟨v,ρ1,h1,j,rfl,q,h2⟩:=h;exact⟨_,_,by unfold iR1;rw[h1];dsimp only;rw[if_pos h2],q⟩
theorem Um{a b:FE}{Q:List Dat->Env->Prop}(h:We a ρ fun v ρ1=>bY v fun i=>We b ρ1 fun w ρ2=>bY w fun j=>Q (ups i (j-i).toNat) ρ2/\j<=BIG/\-BIG<=j/\i<=BIG/\-BIG<=i):Wi (iR2 a b) ρ Q:=by obtain⟨v,ρ1,h1,i,rfl,w,ρ2,h2,j,rfl,q,h3⟩:=h;exact⟨_,_,by unfold iR2;rw[h1];dsimp only;rw[h2];dsimp only;rw[if_pos h3],q⟩
theorem Wp.none{K:Option Int->Env->Prop}(k:K none ρ):Wp none ρ K:=⟨_,_,rfl,k⟩
theorem Wp.some{f:FE}{K:Option Int->Env->Prop}(h:We f ρ fun v ρ1=>bY v fun i=>K (some i) ρ1):Wp (some f) ρ K:=by obtain⟨v,ρ1,h1,i,rfl,k⟩:=h;exact⟨_,_,by unfold part;dsimp only;rw[h1],k⟩
def Wsl(o:Option Dat)(l h:Option Int)(K:Dat->Prop):Prop:=∃xs,o=some (.lst xs)/\K (.lst (cut xs l h))
noncomputable def nB{α:Type}(xs:List α)(lo hi:Option Int):List α:=(xs.drop (sIx xs.length 0 lo)).take (sIx xs.length xs.length hi-sIx xs.length 0 lo)
theorem yC(ur:α->Dat)(xs:List α)(lo hi:Option Int):cut (xs.map ur) lo hi=(nB xs lo hi).map ur:=by unfold cut nB;rw[gV,<- List.map_drop,<- List.map_take]
theorem Wsl.A{ur:α->Dat}{xs:List α}{o:Option Dat}{l h:Option Int}{K:Dat->Prop}(k:K (.lst ((nB xs l h).map ur)))(ho:o=some (.lst (xs.map ur))):Wsl o l h K:=⟨_,ho,by rw[yC];exact k⟩
theorem Tw(h:We a ρ fun x ρ1=>Wp lo ρ1 fun l ρ2=>Wp hi ρ2 fun h ρ3=>Wsl (pk ρ3 x) l h fun d=>Q (.new d) ρ3):We (eSl a lo hi) ρ Q:=by obtain⟨x,ρ1,h1,l,ρ2,h2,hh,ρ3,h3,xs,h4,q⟩:=h;exact⟨_,_,by unfold eSl;rw[h1];dsimp only;rw[h2];dsimp only;rw[h3];dsimp only;rw[h4],q⟩
theorem Tf(h:We a ρ fun x ρ1=>Wp lo ρ1 fun l ρ2=>Wp hi ρ2 fun h ρ3=>∃xs,pk ρ3 x=some (.tup xs)/\¬(sIx xs.length 0 l=0/\sIx xs.length xs.length h=xs.length)/\Q (.val (.tup (cut xs l h))) ρ3):We (i9 a lo hi) ρ Q:=by obtain⟨x,ρ1,h1,l,ρ2,h2,hh,ρ3,h3,xs,h4,h5,q⟩:=h;exact⟨_,_,by unfold i9;rw[h1];dsimp only;rw[h2];dsimp only;rw[h3];dsimp only;rw[h4];dsimp only;rw[if_neg h5],q⟩
theorem Su(n:N ρ):Ws sNx ρ N R B C:=⟨_,rfl,n⟩
theorem R_(h:Ws s ρ (fun ρ1=>Ws u ρ1 N R B C) R B C):Ws (az s u) ρ N R B C:=by
 obtain⟨o,h1,h2⟩:=h;cases o with
 |nx ρ1=>obtain⟨o,h3,h4⟩:=h2;exact⟨o,by unfold az;rw[h1];exact h3,h4⟩
 |ret r ρ1=>exact⟨.ret r ρ1,by unfold az;rw[h1],h2⟩
 |bk ρ1=>exact⟨.bk ρ1,by unfold az;rw[h1],h2⟩
 |ct ρ1=>exact⟨.ct ρ1,by unfold az;rw[h1],h2⟩
def WA(i:Nat)(v:Val)(ρ:Env)(N:Env->Prop):Prop:=match v with
 |.new d=>N (ρ.set i (.ow d))
 |x=>Wk ρ x fun d ρ2=>N (ρ2.set i (.sh d))
theorem Sj{i:Nat}(h:We e ρ fun v ρ1=>WA i v ρ1 N)(hi:i≠0):Ws (sA i e) ρ N R B C:=by
 obtain⟨v,ρ1,h1,h2⟩:=h;cases v with
 |new d=>exact⟨.nx _,by unfold sA;rw[if_neg hi,h1],h2⟩
 |val d=>obtain⟨d',ρ2,h3,h4⟩:=h2;exact⟨.nx _,by unfold sA;rw[if_neg hi,h1];dsimp only;rw[h3],h4⟩
 |slot j=>obtain⟨d',ρ2,h3,h4⟩:=h2;exact⟨.nx _,by unfold sA;rw[if_neg hi,h1];dsimp only;rw[h3],h4⟩
theorem Sm{i:Nat}{ρ ρ2:Env}(n:N ρ2)(hs:ρ.set i (.ow d)=ρ2):WA i (.new d) ρ N:=by unfold WA;dsimp only;rw[hs];exact n
theorem Sn{i:Nat}{ρ ρ2:Env}(n:N ρ2)(hs:ρ.set i (.sh d)=ρ2):WA i (.val d) ρ N:=⟨_,_,rfl,by show N _;rw[hs];exact n⟩
theorem Tt(h:We e ρ fun _ ρ1=>N ρ1):Ws (sE e) ρ N R B C:=by obtain⟨x,ρ1,h1,n⟩:=h;exact⟨.nx _,by unfold sE;rw[h1],n⟩
def WR(v:Val)(ρ:Env)(R:RV->Env->Prop):Prop:=match v with
 |.new d=>R (.new d) ρ
 |.val d=>R (.val d) ρ
 |.slot i=>(∃d,ρ[i]?=some (.ow d)/\R (.new d) (ρ.set i .un))
theorem Sz(h:We e ρ fun v ρ1=>WR v ρ1 R):Ws (sR e) ρ N R B C:=by
 obtain⟨v,ρ1,h1,h2⟩:=h;cases v with
 |new d=>exact⟨.ret _ _,by unfold sR;rw[h1],h2⟩
 |val d=>exact⟨.ret _ _,by unfold sR;rw[h1],h2⟩
 |slot i=>obtain⟨d,h3,h4⟩:=h2;exact⟨.ret _ _,by unfold sR;rw[h1];dsimp only;rw[h3],h4⟩
theorem UT(r:R (.new d) ρ):WR (.new d) ρ R:=r
theorem Tc(r:R (.val d) ρ):WR (.val d) ρ R:=r
theorem S0{i:Nat}(r:R (.new d) (ρ.set i .un))(h:ρ[i]?=some (.ow d)):WR (.slot i) ρ R:=⟨d,h,r⟩
theorem Sv{a b:FS}(h:Wt t ρ fun c ρ1=>Wif c (Ws a ρ1 N R B C) (Ws b ρ1 N R B C)):Ws (sIf t a b) ρ N R B C:=by
 obtain⟨c,ρ1,h1,h2,h3⟩:=h;cases c with
 |true=>obtain⟨o,h4,q⟩:=h2 rfl;exact⟨_,by unfold sIf;rw[h1];exact h4,q⟩
 |false=>obtain⟨o,h4,q⟩:=h3 rfl;exact⟨_,by unfold sIf;rw[h1];exact h4,q⟩
theorem S_{i:Nat}(h:We e ρ fun x ρ1=>Wk ρ1 x fun d ρ2=>∃ds ρ3,ρ2[i]?=some (.ow (.lst ds))/\ρ2.set i (.ow (.lst (ds++[d])))=ρ3/\N ρ3/\ds.length<SZ)(h0:ρ[i]?=some (.ow (.lst ds0))):Ws (pB i e) ρ N R B C:=by obtain⟨x,ρ1,h1,d,ρ2,h2,ds,ρ3,h3,h5,n,h4⟩:=h;exact⟨.nx _,by unfold pB;rw[h0];dsimp only;rw[h1];dsimp only;rw[h2];dsimp only;rw[h3];dsimp only;rw[if_pos h4,h5],n⟩
theorem kN{i:Nat}(n:N ρ3)(h:ρ2[i]?=some (.ow (.lst ds)))(hs:ρ2.set i (.ow (.lst (ds++[d])))=ρ3)(hl:ds.length<SZ):∃ds ρ3,ρ2[i]?=some (.ow (.lst ds))/\ρ2.set i (.ow (.lst (ds++[d])))=ρ3/\N ρ3/\ds.length<SZ:=⟨_,_,h,hs,n,hl⟩
theorem UQ{i:Nat}{j e:FE}(h:We e ρ fun x ρ1=>Wk ρ1 x fun d ρ2=>(∃d0,ρ2[i]?=some (.ow d0))/\We j ρ2 fun y ρ3=>bY y fun k=>∃ds m ρ4,ρ3[i]?=some (.ow (.lst ds))/\ixN ds.length k=some m/\ρ3.set i (.ow (.lst (ds.set m d)))=ρ4/\N ρ4):Ws (zK i j e) ρ N R B C:=by obtain⟨x,ρ1,h1,d,ρ2,h2,⟨d0,h0⟩,y,ρ3,h3,k,rfl,ds,m,ρ4,h4,h5,h6,n⟩:=h;exact⟨.nx _,by unfold zK;rw[h1];dsimp only;rw[h2];dsimp only;rw[h0];dsimp only;rw[h3];dsimp only;rw[h4];dsimp only;rw[h5];dsimp only;rw[h6],n⟩
theorem UG{i:Nat}{j e:FE}(h:We e ρ fun x ρ1=>Wk ρ1 x fun d ρ2=>(∃d0,ρ2[i]?=some (.ow d0))/\We j ρ2 fun y ρ3=>bY y fun k=>∃ks vs ρ4,ρ3[i]?=some (.ow (.dct ks vs))/\ρ3.set i (.ow (.dct (lz ks k) (lA ks vs k d)))=ρ4/\N ρ4/\ks.length<SZ):Ws (p_ i j e) ρ N R B C:=by obtain⟨x,ρ1,h1,d,ρ2,h2,⟨d0,h0⟩,y,ρ3,h3,k,rfl,ks,vs,ρ4,h4,h5,n,h6⟩:=h;exact⟨.nx _,by unfold p_;rw[h1];dsimp only;rw[h2];dsimp only;rw[h0];dsimp only;rw[h3];dsimp only;rw[h4];dsimp only;rw[if_pos h6,h5],n⟩
theorem yD{i:Nat}{k:Int}{ρ3 ρ4:Env}(n:N ρ4)(h:ρ3[i]?=some (.ow (.dct ks vs)))(hs:ρ3.set i (.ow (.dct (lz ks k) (lA ks vs k d)))=ρ4)(hl:ks.length<SZ):∃ks vs ρ4,ρ3[i]?=some (.ow (.dct ks vs))/\ρ3.set i (.ow (.dct (lz ks k) (lA ks vs k d)))=ρ4/\N ρ4/\ks.length<SZ:=⟨_,_,_,h,hs,n,hl⟩
theorem SM(h:Wi it ρ fun ds ρ1=>Ws (kF bd body ds) ρ1 N R B C):Ws (gv it bd body) ρ N R B C:=by obtain⟨ds,ρ1,h1,o,h2,h3⟩:=h;exact⟨o,by unfold gv;rw[h1];exact h2,h3⟩
theorem SQ(ur:α->Dat)(bd:FB)(body:FS)(xs:List α)(ρ:Env)(N:Env->Prop)(R:RV->Env->Prop)(B C:Env->Prop)(I:List α->List α->Env->Prop)
  (h0:I [] xs ρ) (hs:∀p x q ρ,xs=p++x::q->I p (x::q) ρ->∃ρ1,bd (ur x) ρ=some ρ1/\Ws body ρ1 (fun ρ2=>I (p++[x]) q ρ2) R N (fun ρ2=>I (p++[x]) q ρ2)) (he:∀ρ,I xs [] ρ->N ρ):Ws (kF bd body (xs.map ur)) ρ N R B C:=by
 have go:∀(q p:List α) (ρ:Env),xs=p++q->I p q ρ->Ws (kF bd body (q.map ur)) ρ N R B C:=fun q=>by
  induction q with
  |nil=>intro p ρ e i;rw[PY]at e;exact⟨.nx _,rfl,he ρ (e▸i)⟩
  |cons x q ih=>
   intro p ρ e i;obtain⟨ρ1,h1,o,h2,h3⟩:=hs p x q ρ e i;have e':xs=(p++[x])++q:=by rw[QB];exact e
   cases o with
   |nx ρ2=>obtain⟨o,h4,h5⟩:=ih _ _ e' h3;exact⟨o,by rw[eg,kF,h1];dsimp only;rw[h2];exact h4,h5⟩
   |ct ρ2=>obtain⟨o,h4,h5⟩:=ih _ _ e' h3;exact⟨o,by rw[eg,kF,h1];dsimp only;rw[h2];exact h4,h5⟩
   |bk ρ2=>exact⟨.nx _,by rw[eg,kF,h1];dsimp only;rw[h2],h3⟩
   |ret r ρ2=>exact⟨.ret _ _,by rw[eg,kF,h1];dsimp only;rw[h2],h3⟩
 exact go xs [] ρ rfl h0
theorem Sy{P:RV->Prop}(b:Ws body ρ (fun _=>P (.val .non)) (fun r _=>P r) (fun _=>False) (fun _=>False))(hρ:ds.map Cell.sh++Ds m .un=ρ)(h:ds.length=n):Wr (fn n m body ds) P:=by
 obtain⟨o,h1,h2⟩:=b;cases o with
 |nx ρ1=>exact⟨_,by unfold Dm.fn;rw[if_pos h,hρ,h1],h2⟩
 |ret r ρ1=>exact⟨_,by unfold Dm.fn;rw[if_pos h,hρ,h1],h2⟩
 |bk ρ1=>exact h2.elim
 |ct ρ1=>exact h2.elim
theorem SG{o:Option RV}{r:RV}(h:Wr o fun x=>x=r):o=some r:=by obtain⟨x,h1,rfl⟩:=h;exact h1
theorem yE(ur:α->Dat)(p:α->Bool)(v:α->Dat)(bd:FB)(t:FT)(el:FE)(mk:Cell->Env)(hb:∀d c,bd d (mk c)=some (mk (.sh d))):∀(xs:List α) (c:Cell) (Cr:List Dat),
  (∀x∈xs,t (mk (.sh (ur x)))=some (p x,mk (.sh (ur x))))->(∀x∈xs,p x=true->We el (mk (.sh (ur x))) fun w ρ'=>Wk ρ' w fun d ρ''=>d=v x/\ρ''=mk (.sh (ur x))) ->
  ∃c',gh bd t el (xs.map ur) (mk c) Cr=some (Cr++(xs.filter p).map v,mk c')
 |[],c,Cr,_,_=>⟨c,by simp[gh]⟩
 |x::xs,c,Cr,ht,he=>by
  rw[eg,gh,hb];dsimp only;rw[ht x O9];have ht':=fun y hy=>ht y (Dk _ hy);have he':=fun y hy=>he y (Dk _ hy);by_cases h:p x=true
  ·obtain⟨w,ρ',h1,d,ρ'',h2,rfl,rfl⟩:=he x O9 h;rw[h];dsimp only;rw[h1];dsimp only;rw[h2];obtain⟨c',e⟩:=yE ur p v bd t el mk hb xs (.sh (ur x)) (Cr++[v x]) ht' he';exact⟨c',by dsimp only;rw[e,Qa h];simp⟩
  ·rw[Bool.not_eq_true]at h;rw[h];obtain⟨c',e⟩:=yE ur p v bd t el mk hb xs (.sh (ur x)) Cr ht' he';exact⟨c',by dsimp only;rw[e,P7 (by rw[h];decide)]⟩
theorem T5(h:Wt t ρ fun c' ρ'=>c'=c/\ρ'=ρ):t ρ=some (c,ρ):=by obtain⟨_,_,h1,rfl,rfl⟩:=h;exact h1
theorem TN(ur:α->Dat)(xs:List α)(p:α->Bool)(v:α->Dat){it:FI}{k:Nat}{t:FT}{el:FE}{ρ ρ1:Env}{Q:Val->Env->Prop}
  (q:Q (.new (.lst ((xs.filter p).map v))) ρ1) (Ku:it ρ=some (xs.map ur,ρ1)) (hk:ρ1.length=k) (hk0:k≠0) (hl:xs.length<=SZ)
  (ht:∀x∈xs,Wt t (ρ1++[.sh (ur x)]) fun c ρ'=>c=p x/\ρ'=ρ1++[.sh (ur x)])
  (he:∀x∈xs,p x=true->We el (ρ1++[.sh (ur x)]) fun w ρ'=>Wk ρ' w fun d ρ''=>d=v x/\ρ''=ρ1++[.sh (ur x)]):We (cC it 1 (bN k) t el) ρ Q:=by
 have bd:∀(d:Dat) (c:Cell),bN k d (ρ1++[c])=some (ρ1++[.sh d]):=fun d c=>by unfold bN;rw[if_neg hk0,Rk _ _ (by lia)];simp[hk]
 obtain⟨c',e⟩:=yE ur p v (bN k) t el (fun c=>ρ1++[c]) bd xs .un [] (fun x hx=>T5 (ht x hx)) he;refine⟨_,_,?_,q⟩;unfold cC;rw[Ku];dsimp only;rw[if_pos (by rw[gV];exact hl)];show (match gh _ _ _ _ (ρ1++[.un]) [] with | none=>none | some (ys,ρ2)=>some (Val.new (.lst ys),ρ2.take ρ1.length))=_;rw[e];dsimp only;rw[Rf,List.take_left]
theorem UE(ur:α->Dat)(xs:List α)(p:α->Bool)(v:α->Dat){i:Nat}{k:Nat}{t:FT}{el:FE}{ρ:Env}{Q:Val->Env->Prop}{d:Dat}
  (q:Q (.new (.lst ((xs.filter p).map v))) ρ) (hi:ρ[i]?=some (.sh d)) (hd:Cq d=some (xs.map ur)) (hk:ρ.length=k) (hk0:k≠0) (hl:xs.length<=SZ)
  (ht:∀x∈xs,Wt t (ρ++[.sh (ur x)]) fun c ρ'=>c=p x/\ρ'=ρ++[.sh (ur x)])
  (he:∀x∈xs,p x=true->We el (ρ++[.sh (ur x)]) fun w ρ'=>Wk ρ' w fun d ρ''=>d=v x/\ρ''=ρ++[.sh (ur x)]):We (aI i 1 (bN k) t el) ρ Q:=by
 have Ku:iS (eV i) ρ=some (xs.map ur,ρ):=by
  unfold iS eV;rw[hi];cases d with
  |lst ys=>cases hd;rfl
  |tup ys=>cases hd;rfl
  |_=>cases hd
 obtain⟨a,ρ',h1,h2⟩:=TN ur xs p v (Q:=Q) q Ku hk hk0 hl ht he;refine⟨a,ρ',?_,h2⟩;unfold aI;rw[hi];exact h1
theorem U3(ur:α->Dat)(xs:List α)(p:α->Bool)(v:α->Dat){i:Nat}{k:Nat}{t:FT}{el:FE}{ρ ρ1:Env}{Q:Val->Env->Prop}
  (q:Q (.new (.lst ((xs.filter p).map v))) ρ) (hi:ρ[i]?=some (.ow (.lst (xs.map ur)))) (h1:ρ.set i .un=ρ1) (hk:ρ.length=k) (hk0:k≠0) (hl:xs.length<=SZ)
  (ht:∀x∈xs,Wt t (ρ1++[.sh (ur x)]) fun c ρ'=>c=p x/\ρ'=ρ1++[.sh (ur x)])
  (he:∀x∈xs,p x=true->We el (ρ1++[.sh (ur x)]) fun w ρ'=>Wk ρ' w fun d ρ''=>d=v x/\ρ''=ρ1++[.sh (ur x)]):We (aI i 1 (bN k) t el) ρ Q:=by
 have sF:ρ1.length=ρ.length:=by rw[<- h1,PR]
 have hil:i<ρ.length:=(Pa.mp hi).1;have bd:∀(d:Dat) (c:Cell),bN k d (ρ1++[c])=some (ρ1++[.sh d]):=fun d c=>by unfold bN;rw[if_neg hk0,Rk _ _ (by lia)];simp[hk,sF]
 obtain⟨c',e⟩:=yE ur p v (bN k) t el (fun c=>ρ1++[c]) bd xs .un [] (fun x hx=>T5 (ht x hx)) he;refine⟨_,_,?_,q⟩;unfold aI;rw[hi];dsimp only;rw[if_pos (by rw[gV];exact hl),h1];show (match gh _ _ _ _ (ρ1++[.un]) [] with | none=>none | some (ys,ρ2)=>some (Val.new (.lst ys),(ρ2.take ρ.length).set i (.ow (.lst (xs.map ur)))))=_;rw[e];dsimp only;rw[Rf,<- sF,List.take_left,<- h1,R8]
 congr 2
 apply Q2;intro j;by_cases h:i=j
 ·subst h;rw[PB hil,hi]
 ·rw[gc h]
theorem Uc{α β:Type}(ur:α->Dat)(xs:List α)(f:α->β)(je:β->Dat){it:FI}{k:Nat}{el:FE}{ρ ρ1:Env}{Q:Val->Env->Prop}
  (q:Q (.new (.lst ((xs.map f).map je))) ρ1) (Ku:it ρ=some (xs.map ur,ρ1)) (hk:ρ1.length=k) (hk0:k≠0) (hl:xs.length<=SZ)
  (he:∀x∈xs,We el (ρ1++[.sh (ur x)]) fun w ρ'=>Wk ρ' w fun d ρ''=>d=je (f x)/\ρ''=ρ1++[.sh (ur x)]):We (cC it 1 (bN k) bO el) ρ Q:=
 TN ur xs (fun _=>true) (fun x=>je (f x)) (by rw[Q8.mpr (fun _ _=>rfl)];rw[Pr]at q;exact q) Ku hk hk0 hl (fun _ _=>T8 ⟨rfl,rfl⟩) fun x hx _=>he x hx
theorem TJ{α β:Type}(ur:α->Dat)(xs:List α)(f:α->β)(je:β->Dat){i:Nat}{k:Nat}{el:FE}{ρ:Env}{Q:Val->Env->Prop}{d:Dat}
  (q:Q (.new (.lst ((xs.map f).map je))) ρ) (hi:ρ[i]?=some (.sh d)) (hd:Cq d=some (xs.map ur)) (hk:ρ.length=k) (hk0:k≠0) (hl:xs.length<=SZ)
  (he:∀x∈xs,We el (ρ++[.sh (ur x)]) fun w ρ'=>Wk ρ' w fun d ρ''=>d=je (f x)/\ρ''=ρ++[.sh (ur x)]):We (aI i 1 (bN k) bO el) ρ Q:=
 UE ur xs (fun _=>true) (fun x=>je (f x)) (by rw[Q8.mpr (fun _ _=>rfl)];rw[Pr]at q;exact q) hi hd hk hk0 hl (fun _ _=>T8 ⟨rfl,rfl⟩) fun x hx _=>he x hx
theorem UA{α β:Type}(ur:α->Dat)(xs:List α)(f:α->β)(je:β->Dat){i:Nat}{k:Nat}{el:FE}{ρ ρ1:Env}{Q:Val->Env->Prop}
  (q:Q (.new (.lst ((xs.map f).map je))) ρ) (hi:ρ[i]?=some (.ow (.lst (xs.map ur)))) (h1:ρ.set i .un=ρ1) (hk:ρ.length=k) (hk0:k≠0) (hl:xs.length<=SZ)
  (he:∀x∈xs,We el (ρ1++[.sh (ur x)]) fun w ρ'=>Wk ρ' w fun d ρ''=>d=je (f x)/\ρ''=ρ1++[.sh (ur x)]):We (aI i 1 (bN k) bO el) ρ Q:=
 U3 ur xs (fun _=>true) (fun x=>je (f x)) (by rw[Q8.mpr (fun _ _=>rfl)];rw[Pr]at q;exact q) hi h1 hk hk0 hl (fun _ _=>T8 ⟨rfl,rfl⟩) fun x hx _=>he x hx
theorem S1{α β:Type}(ur:α->Dat)(xs:List α)(p:α->Bool)(f:α->β)(je:β->Dat){i:Nat}{k:Nat}{t:FT}{el:FE}{ρ:Env}{Q:Val->Env->Prop}{d:Dat}
  (q:Q (.new (.lst (((xs.filter p).map f).map je))) ρ) (hi:ρ[i]?=some (.sh d)) (hd:Cq d=some (xs.map ur)) (hk:ρ.length=k) (hk0:k≠0) (hl:xs.length<=SZ)
  (ht:∀x∈xs,Wt t (ρ++[.sh (ur x)]) fun c ρ'=>c=p x/\ρ'=ρ++[.sh (ur x)])
  (he:∀x∈xs,p x=true->We el (ρ++[.sh (ur x)]) fun w ρ'=>Wk ρ' w fun d ρ''=>d=je (f x)/\ρ''=ρ++[.sh (ur x)]):We (aI i 1 (bN k) t el) ρ Q:=
 UE ur xs p (fun x=>je (f x)) (by rw[Pr]at q;exact q) hi hd hk hk0 hl ht he
theorem yF(i j:Int):gEq (.int i) (.int j)=vB (decide (i=j)):=by
 have:(i == j)=decide (i=j):=by by_cases h:i=j<;>simp[h]
 show vB (i == j)=_;rw[this]
theorem FH(i j:Int):gNe (.int i) (.int j)=vB (!decide (i=j)):=by
 have:(i == j)=decide (i=j):=by by_cases h:i=j<;>simp[h]
 show vB (!(i == j))=_;rw[this]
theorem SH(k:K (.val (.bl (decide (i=j)))))(ho:o=some (.int i))(hp:p=some (.int j)):Wg2 gEq o p K:=⟨_,_,_,ho,hp,yF i j,k⟩
theorem S6(k:K (.val (.bl (!decide (i=j)))))(ho:o=some (.int i))(hp:p=some (.int j)):Wg2 gNe o p K:=⟨_,_,_,ho,hp,FH i j,k⟩
theorem Te(k:K (.val (.bl (decide (i<j)))))(ho:o=some (.int i))(hp:p=some (.int j)):Wg2 gLt o p K:=⟨_,_,_,ho,hp,rfl,k⟩
theorem TL(k:K (.val (.bl (decide (j<i)))))(ho:o=some (.int i))(hp:p=some (.int j)):Wg2 gGt o p K:=⟨_,_,_,ho,hp,rfl,k⟩
theorem Uu(k:K (.val (.bl (decide (j<=i)))))(ho:o=some (.int i))(hp:p=some (.int j)):Wg2 gGe o p K:=⟨_,_,_,ho,hp,rfl,k⟩
theorem Sq(k:K (.val (.int (i+j))))(ho:o=some (.int i))(hp:p=some (.int j)):Wg2 aV o p K:=⟨_,_,_,ho,hp,rfl,k⟩
theorem Tv{xs ys:List Dat}(k:K (.new (.lst (xs++ys))))(ho:o=some (.lst xs))(hp:p=some (.lst ys))(h:xs.length+ys.length<=SZ):Wg2 aV o p K:=⟨_,_,_,ho,hp,by unfold aV;dsimp only;rw[if_pos h],k⟩
theorem SV(k:K (.val (.int (i-j))))(ho:o=some (.int i))(hp:p=some (.int j)):Wg2 gp o p K:=⟨_,_,_,ho,hp,rfl,k⟩
theorem Tp(k:K (.val (.int (i*j))))(ho:o=some (.int i))(hp:p=some (.int j))(h:(-B64<i/\i<B64)\/(-B64<j/\j<B64)):Wg2 gE o p K:=⟨_,_,_,ho,hp,by unfold gE;dsimp only;rw[if_pos h],k⟩
theorem Ue(k:K (.val (.int (i / j))))(ho:o=some (.int i))(hp:p=some (.int j))(h:0<j/\j<iJ):Wg2 v8 o p K:=⟨_,_,_,ho,hp,by unfold v8;dsimp only;rw[if_pos h],k⟩
theorem Tn(k:K (.val (.int (i % j))))(ho:o=some (.int i))(hp:p=some (.int j))(h:0<j):Wg2 kG o p K:=⟨_,_,_,ho,hp,by unfold kG;dsimp only;rw[if_pos h],k⟩
theorem Ug{i j z:Int}(k:K (.val (.int z)))(ho:o=some (.int i))(hp:p=some (.int j))(h:0<=j/\j<=1000000/\i.natAbs<1000000)(hz:i ^ j.toNat=z):Wg2 v9 o p K:=⟨_,_,_,ho,hp,by unfold v9;dsimp only;rw[if_pos h,hz],k⟩
theorem Sh{d e:Dat}{v:Dat}(k:K (.val v))(ho:o=some d)(hp:p=some e)(h:gIx d e=some (.val v)):Wg2 gIx o p K:=⟨_,_,_,ho,hp,h,k⟩
theorem iB(ur:α->Dat)(xs:List α)(i:Int)(h0:0<=i)(h1:i<xs.length):atI (xs.map ur) i=some (ur (xs[i.toNat]'(by omega))):=by unfold atI ixN;rw[gV,if_pos h0,if_pos h1];show (xs.map ur)[i.toNat]?=_;rw[PD,Py (by lia)];rfl
theorem Tj{ur:α->Dat}{xs:List α}{i:Int}(h0:0<=i)(h1:i<xs.length)(k:K (.val (ur (xs[i.toNat]'(by omega)))))(ho:o=some (.lst (xs.map ur)))(hp:p=some (.int i)):Wg2 gIx o p K:=
 ⟨_,_,_,ho,hp,by unfold gIx;dsimp only;rw[iB ur xs i h0 h1];rfl,k⟩
theorem l5(i:Int)(xs:List Int):inD (.int i) (xs.map Dat.int)=decide (i∈xs):=by
 induction xs with
 |nil=>rfl
 |cons x xs ih=>
  have ih':(xs.map Dat.int).any (fun y=>eqD y (.int i))=decide (i∈xs):=ih;unfold inD;rw[eg,QF,ih'];show ((x == i)||_)=_;by_cases h:x=i
  ·simp[h]
  ·have h':¬i=x:=fun z=>h z.symm;simp[h,h']
theorem rT(xs:List Int):(xs.map Dat.int).all (okD 7)=true:=by rw[Qe];intro d hd;obtain⟨x,_,rfl⟩:=Pc.mp hd;rfl
theorem UL{i:Int}{xs:List Int}(k:K (.val (.bl (decide (i∈xs)))))(ho:o=some (.int i))(hp:p=some (.lst (xs.map Dat.int))):Wg2 gIn o p K:=
 ⟨_,_,_,ho,hp,by unfold gIn;dsimp only;rw[show okD 8 (.int i)=true from rfl,rT,l5];rfl,k⟩
theorem Us{i:Int}{xs:List Int}(k:K (.val (.bl (!decide (i∈xs)))))(ho:o=some (.int i))(hp:p=some (.lst (xs.map Dat.int))):Wg2 bS o p K:=
 ⟨_,_,_,ho,hp,by unfold bS;dsimp only;rw[show okD 8 (.int i)=true from rfl,rT,l5];rfl,k⟩
theorem TQ{i:Int}{xs:List Int}(k:K (.val (.bl (decide (i∈xs)))))(ho:o=some (.int i))(hp:p=some (.tup (xs.map Dat.int))):Wg2 gIn o p K:=
 ⟨_,_,_,ho,hp,by unfold gIn;dsimp only;rw[show okD 8 (.int i)=true from rfl,rT,l5];rfl,k⟩
theorem UR{i:Int}{xs:List Int}(k:K (.val (.bl (!decide (i∈xs)))))(ho:o=some (.int i))(hp:p=some (.tup (xs.map Dat.int))):Wg2 bS o p K:=
 ⟨_,_,_,ho,hp,by unfold bS;dsimp only;rw[show okD 8 (.int i)=true from rfl,rT,l5];rfl,k⟩
theorem To{i a b:Int}(k:K (.val (.bl (decide (i=a\/i=b)))))(ho:o=some (.int i))(hp:p=some (.tup [.int a,.int b])):Wg2 gIn o p K:=
 TQ (xs:=[a,b]) (by have:(i∈[a,b])=(i=a\/i=b):=(by simp);simp only[this];exact k) ho hp
theorem Uv{i a b:Int}(k:K (.val (.bl (!decide (i=a\/i=b)))))(ho:o=some (.int i))(hp:p=some (.tup [.int a,.int b])):Wg2 bS o p K:=
 UR (xs:=[a,b]) (by have:(i∈[a,b])=(i=a\/i=b):=(by simp);simp only[this];exact k) ho hp
theorem Ui{i:Int}(k:K (.val (.bl (cO ks vs i).isSome)))(ho:o=some (.int i))(hp:p=some (.dct ks vs)):Wg2 wo o p K:=⟨_,_,_,ho,hp,rfl,k⟩
theorem T_{i:Int}(k:K (.val (.bl (!(cO ks vs i).isSome))))(ho:o=some (.int i))(hp:p=some (.dct ks vs)):Wg2 p9 o p K:=⟨_,_,_,ho,hp,rfl,k⟩
theorem Ub{i:Int}(h:cO ks vs i=some d)(k:K (.val d))(ho:o=some (.dct ks vs))(hp:p=some (.int i)):Wg2 gDx o p K:=⟨_,_,_,ho,hp,by unfold gDx;dsimp only;rw[h];rfl,k⟩
theorem Up{o:Option (List Dat)}(k:K (.val (.int xs.length)))(ho:o=some [.lst xs]):WB cD o K:=⟨_,_,ho,rfl,k⟩
theorem Uj{o:Option (List Dat)}(k:K (.val (.int xs.length)))(ho:o=some [.tup xs]):WB cD o K:=⟨_,_,ho,rfl,k⟩
theorem TM{o:Option (List Dat)}(k:K (.val (.int (if j<i then j else i))))(ho:o=some [.int i,.int j]):WB pY o K:=⟨_,_,ho,rfl,k⟩
theorem TX{o:Option (List Dat)}(k:K (.val (.int (if j>i then j else i))))(ho:o=some [.int i,.int j]):WB pZ o K:=⟨_,_,ho,rfl,k⟩
theorem TR{o:Option (List Dat)}(k:K (.new (.lst xs)))(ho:o=some [.lst xs]):WB iP o K:=⟨_,_,ho,rfl,k⟩
theorem SO{o:Option Dat}(k:K v)(ho:o=some d)(h:g d=some v):Wg1 g o K:=⟨_,_,ho,h,k⟩
theorem bP{Q:List Dat->Prop}(q:Q xs):∃ds,Cq (.lst xs)=some ds/\Q ds:=⟨_,rfl,q⟩
theorem ndT{p:Prop}[Decidable p](h:(!decide p)=true):¬p:=by intro z;rw[decide_eq_true z]at h;cases h
theorem ndF{p:Prop}[Decidable p](h:(!decide p)=false):p:=Decidable.byContradiction fun z=>by rw[decide_eq_false z]at h;cases h
theorem FL(xs:List Dat)(h:okD 8 (.lst xs)=true):gEq (.lst xs) (.lst [])=vB xs.isEmpty:=by unfold gEq;rw[h];cases xs<;>rfl
theorem FO(xs:List Dat)(h:okD 8 (.lst xs)=true):gNe (.lst xs) (.lst [])=vB (!xs.isEmpty):=by unfold gNe;rw[h];cases xs<;>rfl
theorem yG(ur:α->Dat)(xs:List α)(h:∀x,okD 7 (ur x)=true):okD 8 (.lst (xs.map ur))=true:=by unfold okD;rw[Qe];intro d hd;obtain⟨x,_,rfl⟩:=Pc.mp hd;exact h x
theorem T7(k:K (.val (.bl xs.isEmpty)))(ho:o=some (.lst xs))(hp:p=some (.lst []))(h:okD 8 (.lst xs)=true):Wg2 gEq o p K:=⟨_,_,_,ho,hp,FL xs h,k⟩
theorem T9(k:K (.val (.bl (!xs.isEmpty))))(ho:o=some (.lst xs))(hp:p=some (.lst []))(h:okD 8 (.lst xs)=true):Wg2 gNe o p K:=⟨_,_,_,ho,hp,FO xs h,k⟩
theorem T6{xs ys:List Int}(k:K (.new (.lst ((xs++ys).map Dat.int))))(ho:o=some (.lst (xs.map Dat.int)))(hp:p=some (.lst (ys.map Dat.int)))(h:xs.length+ys.length<=SZ):Wg2 aV o p K:=⟨_,_,_,ho,hp,by unfold aV;dsimp only;rw[gV,gV,if_pos h,Pf],k⟩
theorem S9{ur:α->Dat}{xs:List α}{o:Option (List Dat)}(k:K (.val (.int xs.length)))(ho:o=some [.lst (xs.map ur)]):WB cD o K:=⟨_,_,ho,by unfold cD;dsimp only;rw[gV],k⟩
theorem UP{s:FS}{N N':Env->Prop}(h:Ws s ρ N' R B C)(k:∀ρ',N' ρ'->N ρ'):Ws s ρ N R B C:=by
 obtain⟨o,h1,h2⟩:=h;cases o with
 |nx ρ1=>exact⟨.nx ρ1,h1,k _ h2⟩
 |ret r ρ1=>exact⟨.ret r ρ1,h1,h2⟩
 |bk ρ1=>exact⟨.bk ρ1,h1,h2⟩
 |ct ρ1=>exact⟨.ct ρ1,h1,h2⟩
theorem nE{i:Nat}{W:Prop}(h:ρ[i]?=some (.ow d))(w:W):(∃d0,ρ[i]?=some (.ow d0))/\W:=⟨⟨d,h⟩,w⟩
theorem UJ{a b:FE}(h:We a ρ fun v ρ1=>bY v fun i=>We b ρ1 fun x ρ2=>Wk ρ2 x fun d ρ3=>Q (.new (.dct [i] [d])) ρ3):We (eD1 a b) ρ Q:=by obtain⟨v,ρ1,h1,i,rfl,x,ρ2,h2,d,ρ3,h3,q⟩:=h;exact⟨_,_,by unfold eD1;rw[h1];dsimp only;rw[h2];dsimp only;rw[h3],q⟩
theorem bZ{ρ ρ1 ρ2:Env}{W:Env->Prop}(h:bd d ρ=some ρ1)(hn:ρ1=ρ2)(w:W ρ2):∃ρ1,bd d ρ=some ρ1/\W ρ1:=⟨ρ1,h,hn▸w⟩
theorem Ud{o:Option (List Dat)}(k:K (.val (.tup xs)))(ho:o=some [.lst xs]):WB gF o K:=⟨_,_,ho,rfl,k⟩
noncomputable def ltI(a b:Int):Bool:=decide (a<b)
theorem nF(ns:List Int):gP (ns.map Dat.int)=some ns:=by
 induction ns with
 |nil=>rfl
 |cons m ms ih=>rw[eg,gP,ih];rfl
theorem pH(ns:List Int):(bK ltI ns).Pairwise (fun a b=>ltI b a=false):=dN (fun a b c h1 h2=>by simp[ltI]at *;lia) (fun a b h=>by simp[ltI]at *;lia) ns
theorem uu(N M:List Int):gNe (.lst (N.map Dat.int)) (.lst (M.map Dat.int))=vB (!decide (N=M)):=by
 have ok:∀ns:List Int,okD 8 (.lst (ns.map Dat.int))=true:=fun ns=>yG Dat.int ns fun _=>rfl;have eq:∀N M:List Int,eG (N.map Dat.int) (M.map Dat.int)=decide (N=M):=fun N=>by
  induction N with
  |nil=>intro M;cases M<;>rfl
  |cons n N ih=>
   intro M;cases M with
   |nil=>rfl
   |cons m M=>rw[eg,eg,eG,ih M];show ((n == m)&&_)=_;rw[Rc];simp
 unfold gNe;rw[ok,ok];show vB (!eG _ _)=_;rw[eq]
theorem UK{N M:List Int}(k:K (.val (.bl (!decide (N=M)))))(ho:o=some (.lst (N.map Dat.int)))(hp:p=some (.lst (M.map Dat.int))):Wg2 gNe o p K:=⟨_,_,_,ho,hp,uu N M,k⟩
theorem UU{i:Nat}(h:We e ρ fun x ρ1=>∃es ds ρ3,pk ρ1 x=some (.lst es)/\ρ1[i]?=some (.ow (.lst ds))/\ρ1.set i (.ow (.lst (ds++es)))=ρ3/\N ρ3/\ds.length+es.length<=SZ)(h0:ρ[i]?=some (.ow (.lst ds0))):Ws (zY i e) ρ N R B C:=by obtain⟨x,ρ1,h1,es,ds,ρ3,h2,h3,h5,n,h4⟩:=h;exact⟨.nx _,by unfold zY;rw[h0];dsimp only;rw[h1];dsimp only;rw[h2];dsimp only;rw[h3];dsimp only;rw[if_pos h4,h5],n⟩
theorem TH{t:FT}{body:FS}{N:Env->Prop}{R:RV->Env->Prop}{B C:Env->Prop}(I:Nat->Env->Prop)
  (hs:∀k ρ,I k ρ->Wt t ρ fun c ρ1=>Wif c (Ws body ρ1 (fun ρ2=>∃k',k'<k/\I k' ρ2) R N (fun ρ2=>∃k',k'<k/\I k' ρ2)) (N ρ1)):∀(n k:Nat) (ρ:Env),k<n->I k ρ->Ws (whD t body n) ρ N R B C
 |0,k,_,h,_=>absurd h (Nat.not_lt_zero k)
 |n+1,k,ρ,h,i=>by
  obtain⟨c,ρ1,h1,h2,h3⟩:=hs k ρ i;cases c with
  |false=>exact⟨.nx _,by rw[whD,h1],h3 rfl⟩
  |true=>
   obtain⟨o,h4,h5⟩:=h2 rfl;cases o with
   |nx ρ2=>obtain⟨k',hk,i'⟩:=h5;obtain⟨o,h6,h7⟩:=TH (N:=N) (R:=R) (B:=B) (C:=C) I hs n k' ρ2 (by lia) i';exact⟨o,by rw[whD,h1];dsimp only;rw[h4];exact h6,h7⟩
   |ct ρ2=>obtain⟨k',hk,i'⟩:=h5;obtain⟨o,h6,h7⟩:=TH (N:=N) (R:=R) (B:=B) (C:=C) I hs n k' ρ2 (by lia) i';exact⟨o,by rw[whD,h1];dsimp only;rw[h4];exact h6,h7⟩
   |bk ρ2=>exact⟨.nx _,by rw[whD,h1];dsimp only;rw[h4],h5⟩
   |ret r ρ2=>exact⟨.ret _ _,by rw[whD,h1];dsimp only;rw[h4],h5⟩
theorem Ab(p:α->Bool)(xs:List α):bools (xs.map fun x=>Dat.bl (p x))=some (xs.map p):=by
 induction xs with
 |nil=>rfl
 |cons x xs ih=>rw[eg,bools,ih];rfl
theorem Tu(p:α->Bool){xs:List α}{o:Option (List Dat)}(k:K (.val (.bl (xs.all p))))(ho:o=some [.lst (xs.map fun x=>Dat.bl (p x))]):WB rj o K:=⟨_,_,ho,by
 unfold rj;dsimp only;rw[Ab];have:(xs.map p).all id=xs.all p:=by rw[RS];rfl
 dsimp only;rw[this],k⟩
theorem Tg(J:Env->Prop)(h1:Ws s ρ J R B C)(h2:∀ρ',J ρ'->Ws u ρ' N R B C):Ws (az s u) ρ N R B C:=R_ (UP h1 h2)
def WrM(o:Option (RV×Dat))(P:RV->Dat->Prop):Prop:=∃z d,o=some (z,d)/\P z d
theorem T3{r:List Dat}{P:RV->Dat->Prop}(b:Ws body ρ (fun ρ'=>∃d',ρ'[0]?=some (.ow d')/\P (.val .non) d') (fun z ρ'=>∃d',ρ'[0]?=some (.ow d')/\P z d') (fun _=>False) (fun _=>False))(hρ:Cell.ow d::(r.map Cell.sh++Ds m .un)=ρ)(h:(d::r).length=n):WrM (fnM n m body (d::r)) P:=by
 obtain⟨o,h1,h2⟩:=b;cases o with
 |nx ρ1=>obtain⟨d',h3,h4⟩:=h2;exact⟨_,_,by unfold fnM;rw[if_pos h];dsimp only;rw[hρ,h1];dsimp only;rw[h3],h4⟩
 |ret z ρ1=>obtain⟨d',h3,h4⟩:=h2;exact⟨_,_,by unfold fnM;rw[if_pos h];dsimp only;rw[hρ,h1];dsimp only;rw[h3],h4⟩
 |bk ρ1=>exact h2.elim
 |ct ρ1=>exact h2.elim
def WFm(f:List Dat->Option (RV×Dat))(j:Nat)(ρ1:Env)(xs:List Val)(Q:Val->Env->Prop):Prop:=
 ∃d1 ds ρ2 d v d',ρ1[j]?=some (.ow d1)/\tks ρ1 xs=some (ds,ρ2)/\ρ2[j]?=some (.ow d)/\f (d::ds)=some (v,d')/\(if (flat v.dat&&wk d')=true then Q v.bC (ρ1.set j (.ow d')) else Q v.bC (ρ2.set j (.ow d')))
theorem Uk{f:List Dat->Option (RV×Dat)}{j:Nat}{d0:Dat}(h:Was as ρ fun xs ρ1=>WFm f j ρ1 xs Q)(h0:ρ[j]?=some (.ow d0)):We (eFm f j as) ρ Q:=by
 obtain⟨xs,ρ1,h1,d1,ds,ρ2,d,v,d',h2,h3,h4,h5,q⟩:=h;by_cases c:(flat v.dat&&wk d')=true
 ·rw[if_pos c]at q;exact⟨_,_,by unfold eFm;rw[h0];dsimp only;rw[h1];dsimp only;rw[h2];dsimp only;rw[h3];dsimp only;rw[h4];dsimp only;rw[h5];dsimp only;rw[if_pos c],q⟩
 ·rw[if_neg c]at q;exact⟨_,_,by unfold eFm;rw[h0];dsimp only;rw[h1];dsimp only;rw[h2];dsimp only;rw[h3];dsimp only;rw[h4];dsimp only;rw[h5];dsimp only;rw[if_neg c],q⟩
theorem TY{f:List Dat->Option (RV×Dat)}{j:Nat}{ρ1 ρ3:Env}{xs:List Val}{d d':Dat}(h5:f (d::ds)=some (v,d'))(q:Q v.bC ρ3)(h2:ρ1[j]?=some (.ow d))(h3:tks ρ1 xs=some (ds,ρ1))(hn:ρ1.set j (.ow d')=ρ3):WFm f j ρ1 xs Q:=
 ⟨_,_,_,_,_,_,h2,h3,h2,h5,by rw[hn];split<;>exact q⟩
theorem UI(h:Was as ρ fun xs ρ1=>∃ds ρ2 v,wA ρ1 xs=some (ds,ρ2)/\f ds=some v/\aM v.dat=true/\Q v.bC ρ2):We (eFd f as) ρ Q:=by obtain⟨xs,ρ1,h1,ds,ρ2,v,h2,h3,h4,q⟩:=h;exact⟨_,_,by unfold eFd;rw[h1];dsimp only;rw[h2];dsimp only;rw[h3];dsimp only;rw[if_pos h4],q⟩
theorem iC:∀(xs:List Dat),(∀x∈xs,aM x=true)->fh xs=true
 |[],_=>by unfold fh;rfl
 |x::xs,h=>by unfold fh;rw[h x O9,iC xs fun y hy=>h y (Dk _ hy)];rfl
theorem iD(ur:α->Dat)(xs:List α)(h:∀x,aM (ur x)=true):aM (.lst (xs.map ur))=true:=by unfold aM;exact iC _ fun d hd=>by obtain⟨x,_,rfl⟩:=Pc.mp hd;exact h x
theorem iE(i:Int):aM (.int i)=true:=by unfold aM;rfl
theorem S4{ρ ρ1:Env}(h:Wi it ρ fun x y=>x=ds/\y=ρ1):it ρ=some (ds,ρ1):=by obtain⟨_,_,h1,rfl,rfl⟩:=h;exact h1
theorem Uy{k:Nat}(h:Was as ρ fun xs ρ1=>∃ds ρ2 v,wG k ρ1 xs=some (ds,ρ2)/\f ds=some v/\c_ k v.dat=true/\Q v.bC ρ2):We (eFk k f as) ρ Q:=by obtain⟨xs,ρ1,e1,ds,ρ2,v,e2,e3,e4,q⟩:=h;exact⟨_,_,by unfold eFk;rw[e1];dsimp only;rw[e2];dsimp only;rw[e3];dsimp only;rw[if_pos e4],q⟩
def Wm(g:FM)(ρ:Env)(p:Dp)(N:Env->Prop)(R:RV->Env->Prop)(B C:Env->Prop):Prop:=∃o,g ρ p=some o/\KO N R B C o
end
section
variable{N:Env->Prop}{R:RV->Env->Prop}{B C:Env->Prop}{ρ:Env}{p:Dp}
theorem Uw{j:Nat}{t:FT}{fs:FS}{g:FM}{ρ':Env}(h:Wt t ρ' fun c _=>c=false)(k:Wm g ρ p N R B C)(e:see j ρ p=ρ'):Wm (mIf j t fs g) ρ p N R B C:=by obtain⟨c,ρ1,h1,rfl⟩:=h;obtain⟨o,h3,h4⟩:=k;exact⟨o,by unfold mIf;rw[e,h1];exact h3,h4⟩
theorem UX{z:Int}{gs:FS}{xs ys:List Dp}{m:Nat}(k:Ws gs ρ N R B C)(h1:ixN xs.length z=some m)(h2:xs[m]?=some (.l ys)):Wm (wI z gs) ρ (.t xs) N R B C:=by obtain⟨o,h3,h4⟩:=k;exact⟨o,by unfold wI;dsimp only;rw[h1];dsimp only;rw[h2];exact h3,h4⟩
theorem UW{gs:FS}(k:Ws gs ρ N R B C):Wm (B3 gs) ρ p N R B C:=k
end
def Wq(g:FSP)(ρ:Env)(P:Dp->Prop):Prop:=∃p,g ρ=some p/\P p
def Wp'(f:FP)(ρ:Env)(Q:Dp->Env->Prop):Prop:=∃p ρ',f ρ=some (p,ρ')/\Q p ρ'
def Wpa(fs:List FP)(ρ:Env)(Q:List Dp->Env->Prop):Prop:=∃p ρ',pAs fs ρ=some (p,ρ')/\Q p ρ'
section
variable{ρ:Env}{P:Dp->Prop}
section
variable{Q:Dp->Env->Prop}{ds:List Dat}{g:FSP}{f:FE}
theorem UH{n m:Nat}{ρ:Env}(h:Wq g ρ P)(hl:ds.length=n)(e:ds.map Cell.sh++Ds m .un=ρ):∃p,fnP n m g ds=some p/\P p:=by obtain⟨p,h1,h2⟩:=h;exact⟨p,by unfold fnP;rw[if_pos hl,e];exact h1,h2⟩
theorem TF{s:FS}(h:Ws s ρ (fun ρ1=>Wq g ρ1 P) (fun _ _=>False) (fun _=>False) (fun _=>False)):Wq (eK s g) ρ P:=by
 obtain⟨o,h1,h2⟩:=h;cases o with
 |nx ρ1=>obtain⟨p,h3,h4⟩:=h2;exact⟨p,by unfold eK;rw[h1];exact h3,h4⟩
 |ret _ _=>exact h2.elim
 |bk _=>exact h2.elim
 |ct _=>exact h2.elim
theorem Uh{d:Dat}(h:We f ρ fun v ρ1=>v=.val d/\Q (.s d) ρ1):Wp' (pO f) ρ Q:=by obtain⟨v,ρ1,h1,rfl,h2⟩:=h;exact⟨_,_,by unfold pO;rw[h1],h2⟩
theorem UO(h:We f ρ fun v ρ1=>v=.new (.lst ds)/\Q (.l (ds.map .s)) ρ1):Wp' (pO f) ρ Q:=by obtain⟨v,ρ1,h1,rfl,h2⟩:=h;exact⟨_,_,by unfold pO;rw[h1],h2⟩
theorem Wpa.nil{Q:List Dp->Env->Prop}(q:Q [] ρ):Wpa [] ρ Q:=⟨_,_,rfl,q⟩
theorem Wpa.cons{f:FP}{fs:List FP}{Q:List Dp->Env->Prop}(h:Wp' f ρ fun p ρ1=>Wpa fs ρ1 fun ps ρ2=>Q (p::ps) ρ2):Wpa (f::fs) ρ Q:=by obtain⟨x,ρ1,h1,xs,ρ2,h2,q⟩:=h;exact⟨_,_,by unfold pAs;rw[h1];dsimp only;rw[h2],q⟩
theorem Ve{fs:List FP}(h:Wpa fs ρ fun ps ρ1=>ps.length<=SZ/\Q (.t ps) ρ1):Wp' (pT fs) ρ Q:=by obtain⟨x,ρ1,h1,h2,q⟩:=h;exact⟨_,_,by unfold pT;rw[h1];dsimp only;rw[if_pos h2],q⟩
end
end
def KM(N:Env->Dp->Prop)(R:Dat->Env->Prop):OM->Prop
 |.nx ρ p=>N ρ p
 |.rt d ρ=>R d ρ
def Wc(g:FC)(ρ:Env)(p:Dp)(N:Env->Dp->Prop)(R:Dat->Env->Prop):Prop:=∃o,g ρ p=some o/\KM N R o
section
variable{N:Env->Dp->Prop}{R:Dat->Env->Prop}{ρ ρ':Env}{p:Dp}
theorem Ur{s:FC}{g:FM}{N:Env->Prop}{R:RV->Env->Prop}{B C:Env->Prop}(h:Wc s ρ p (fun ρ1 p1=>Wm g ρ1 p1 N R B C) (fun d ρ1=>R (.val d) ρ1)):Wm (pF s g) ρ p N R B C:=by
 obtain⟨o,h1,h2⟩:=h;cases o with
 |nx ρ1 p1=>obtain⟨o,h3,h4⟩:=h2;exact⟨o,by unfold pF;rw[h1];exact h3,h4⟩
 |rt d ρ1=>exact⟨.ret (.val d) ρ1,by unfold pF;rw[h1],h2⟩
theorem U1(h:N ρ p):Wc cNx ρ p N R:=⟨_,rfl,h⟩
theorem UY{s u:FC}(h:Wc s ρ p (fun ρ1 p1=>Wc u ρ1 p1 N R) R):Wc (wK s u) ρ p N R:=by
 obtain⟨o,h1,h2⟩:=h;cases o with
 |nx ρ1 p1=>obtain⟨o,h3,h4⟩:=h2;exact⟨o,by unfold wK;rw[h1];exact h3,h4⟩
 |rt d ρ1=>exact⟨.rt d ρ1,by unfold wK;rw[h1],h2⟩
theorem Va{j:Nat}{t:FT}{a b:FC}(h:Wt t ρ' fun c _=>Wif c (Wc a ρ p N R) (Wc b ρ p N R))(e:see j ρ p=ρ'):Wc (cIf j t a b) ρ p N R:=by
 obtain⟨c,ρ1,h1,h2,h3⟩:=h;cases c with
 |true=>obtain⟨o,h4,h5⟩:=h2 rfl;exact⟨o,by unfold cIf;rw[e,h1];exact h4,h5⟩
 |false=>obtain⟨o,h4,h5⟩:=h3 rfl;exact⟨o,by unfold cIf;rw[e,h1];exact h4,h5⟩
theorem U5{j i:Nat}{f:FP}{q:Dp}{D:Dat}{ρ2:Env}(h:Wp' f ρ' fun q' _=>q'=q)(k:N ρ2 p)(e:see j ρ p=ρ')(hb:aW q=true)(hd:q.dat=D)(hn:ρ.set i (.sh D)=ρ2)(hi:¬(i=0\/i=j)):Wc (nj j i f) ρ p N R:=by obtain⟨v,ρ1,h1,rfl⟩:=h;exact⟨.nx ρ2 p,by unfold nj;rw[if_neg hi,e,h1];dsimp only;rw[if_pos hb,hd,hn],k⟩
theorem US{α:Type}(ur:α->Dat)(bd:FB)(body:FC)(xs:List α)(I:List α->List α->Env->Dp->Prop)(h0:I [] xs ρ p)
  (hs:∀l x q ρ p,xs=l++x::q->I l (x::q) ρ p->∃ρ1,bd (ur x) ρ=some ρ1/\Wc body ρ1 p (fun ρ2 p2=>I (l++[x]) q ρ2 p2) R) (he:∀ρ p,I xs [] ρ p->N ρ p):Wc (iU bd body (xs.map ur)) ρ p N R:=by
 have go:∀(q l:List α) (ρ:Env) (p:Dp),xs=l++q->I l q ρ p->Wc (iU bd body (q.map ur)) ρ p N R:=fun q=>by
  induction q with
  |nil=>intro l ρ p e i;rw[PY]at e;exact⟨.nx _ _,rfl,he ρ p (e▸i)⟩
  |cons x q ih=>
   intro l ρ p e i;obtain⟨ρ1,h1,o,h2,h3⟩:=hs l x q ρ p e i;cases o with
   |nx ρ2 p2=>obtain⟨o,h4,h5⟩:=ih (l++[x]) ρ2 p2 (by rw[e];simp) h3;exact⟨o,by rw[eg,iU,h1];dsimp only;rw[h2];exact h4,h5⟩
   |rt d ρ2=>exact⟨.rt d ρ2,by rw[eg,iU,h1];dsimp only;rw[h2],h3⟩
 exact go xs [] ρ p rfl h0
theorem Cu{α:Type}(ur:α->Dat)(v:α->Dp)(bd:FB)(el:FP)(I:Env->Prop):∀(xs:List α) (Cr:List Dp) (ρ:Env),I ρ ->
  (∀x∈xs,∀ρ,I ρ->∃ρ1,bd (ur x) ρ=some ρ1/\Wp' el ρ1 fun q ρ2=>q=v x/\I ρ2)->∃ρ',d9 bd el (xs.map ur) ρ Cr=some (Cr++xs.map v,ρ')/\I ρ'
 |[],Cr,ρ,i,_=>⟨ρ,by simp[d9],i⟩
 |x::xs,Cr,ρ,i,h=>by obtain⟨ρ1,h1,q,ρ2,h2,rfl,i2⟩:=h x O9 ρ i;obtain⟨ρ3,h3,i3⟩:=Cu ur v bd el I xs (Cr++[v x]) ρ2 i2 fun y hy=>h y (Dk _ hy);exact⟨ρ3,by rw[eg,d9,h1];dsimp only;rw[h2];dsimp only;rw[h3];simp,i3⟩
theorem Tq{α:Type}(ur:α->Dat)(xs:List α)(v:α->Dp)(I:Env->Prop){it:FI}{own:Nat}{bd:FB}{el:FP}{ρ ρ1:Env}{Q:Dp->Env->Prop}(Ku:it ρ=some (xs.map ur,ρ1))(hl:xs.length<=SZ)(h0:I (ρ1++Ds own .un))
  (hs:∀x∈xs,∀ρ,I ρ->∃ρ1,bd (ur x) ρ=some ρ1/\Wp' el ρ1 fun q ρ2=>q=v x/\I ρ2) (q:∀ρ2,I ρ2->Q (.l (xs.map v)) (ρ2.take ρ1.length)):Wp' (dg it own bd el) ρ Q:=by
 obtain⟨ρ2,h1,i⟩:=Cu ur v bd el I xs [] _ h0 hs;exact⟨_,_,by unfold dg;rw[Ku];dsimp only;rw[if_pos (by simpa using hl),h1];rfl,q ρ2 i⟩
end
section
variable{N:Env->Prop}{R:RV->Env->Prop}{B C:Env->Prop}{ρ:Env}{p:Dp}
theorem UB{j:Nat}{f:List Dat->Option Dp}{as:List FE}{g:FM}(h:Was as ρ fun xs ρ1=>∃ds p ρ3,f ds=some p/\Wm g ρ3 p N R B C/\pks ρ1 xs=some ds/\aW p=true/\ρ1.set j .un=ρ3)(hj:j≠0):Ws (fV j f as g) ρ N R B C:=by obtain⟨xs,ρ1,h1,ds,p,ρ3,h2,⟨o,h3,h4⟩,h5,h6,rfl⟩:=h;exact⟨o,by unfold fV;rw[if_neg hj,h1];dsimp only;rw[h5];dsimp only;rw[h2];dsimp only;rw[if_pos h6];exact h3,h4⟩
end
end Dm
namespace Fl
structure Tie where
 m:Int
 a:Int
 b:Int
deriving Inhabited
noncomputable def one(b:Bool):Int:=if b then 1 else 0
def Ends(t:Tie)(p q:Int):Prop:=t.a≠t.b/\((t.a=p/\t.b=q)\/(t.b=p/\t.a=q))
theorem Ends.ne{t:Tie}{p q:Int}(h:Ends t p q):p≠q:=by
 obtain⟨h1,h2⟩:=h
 lia
noncomputable abbrev Hd:=Int->Option Int
noncomputable def put(H:Hd)(m:Int)(o:Option Int):Hd:=fun x=>if x=m then o else H x
noncomputable def gX(H:Hd)(m q:Int):Hd:=put H m (if (H m).isSome then none else some q)
noncomputable abbrev Step:=Int×Int
def Way(R:Int->Step->Prop):Int->List Step->Int->Prop
 |x,[],y=>x=y
 |x,s::w,y=>R x s/\Way R s.2 w y
theorem Way.snoc{R:Int->Step->Prop}:∀{w:List Step} {x y:Int} {s:Step},Way R x w y->R y s->Way R x (w++[s]) s.2
 |[],_,_,_,h,k=>by cases h;exact⟨k,rfl⟩
 |_::_,_,_,_,h,k=>⟨h.1,Way.snoc h.2 k⟩
theorem Way.mono{R R':Int->Step->Prop}(h:∀p s,R p s->R' p s):∀{w:List Step} {x y:Int},Way R x w y->Way R' x w y
 |[],_,_,k=>k
 |_::_,_,_,k=>⟨h _ _ k.1,Way.mono h k.2⟩
noncomputable def lD(H:Hd):List Step->Hd
 |[]=>H
 |s::w=>lD (gX H s.1 s.2) w
theorem uv{H:Hd}{m q x:Int}(h:x≠m):gX H m q x=H x:=by unfold gX put;rw[if_neg h]
noncomputable def fM(H:Hd):List Step->Hd
 |[]=>H
 |s::w=>fM (put H s.1 none) w
theorem gY:∀{w:List Step} {H:Hd} {x:Int},(∀u∈w,u.1≠x)->fM H w x=H x
 |[],_,_,_=>rfl
 |s::w,H,x,h=>by rw[fM,gY fun u hu=>h u (Dk _ hu)];unfold put;rw[if_neg fun e=>h s O9 e.symm]
theorem jf:∀{w:List Step} {H:Hd} {x:Int},x∈w.map (·.1)->fM H w x=none
 |[],_,_,h=>by cases h
 |s::w,H,x,h=>by
  rw[fM];by_cases e:x∈w.map (·.1)
  ·exact jf e
  ·rw[gY fun u hu z=>e (Pc.mpr ⟨u,hu,z⟩)];rw[eg]at h;rcases Pk.mp h with rfl | h
   ·unfold put;rw[if_pos rfl]
   ·exact absurd h e
end Fl
namespace Fd
open Fl
section
variable{r:List Int}{S:Int->Bool}{s:Step}{w:List Step}{R:Int->Step->Prop}{a b:Int}{p:Int}{k:Nat}
noncomputable def src(c:Int):Int:=c / 20
noncomputable def dst(c:Int):Int:=c % 20
noncomputable def vd(o:Option Int)(c:Int)(S:Int->Bool):Int:=if o.isSome then one (S (src c))-one (S (dst c)) else 0
noncomputable def b4(r:List Int)(H:Hd)(S:Int->Bool):Int:=match r with
 |[]=>0
 |c::r=>vd (H c) c S+b4 r H S
theorem Ac{H H':Hd}(h:∀c∈r,H c=H' c):b4 r H S=b4 r H' S:=by
 induction r with
 |nil=>rfl
 |cons c r ih=>rw[b4,b4,h c O9,ih fun u hu=>h u (Dk _ hu)]
theorem gZ(nd:r.Nodup){c:Int}(hc:c∈r)(H:Hd)(o:Option Int)(S:Int->Bool):b4 r (put H c o) S=b4 r H S-vd (H c) c S+vd o c S:=by
 induction r with
 |nil=>cases hc
 |cons d r ih=>
  rw[Pj]at nd;rcases Pk.mp hc with rfl | h
  ·rw[b4,b4,Ac (H:=put H c o) (H':=H) fun u hu=>by unfold put;rw[if_neg (fun e:u=c=>nd.1 (e▸hu))]];have:put H c o c=o:=by unfold put;rw[if_pos rfl]
   rw[this]
   lia
  ·rw[b4,b4,ih nd.2 h];have:put H c o d=H d:=by unfold put;rw[if_neg (fun e:d=c=>nd.1 (e▸h))]
   rw[this]
   lia
def qo(r:List Int)(p:Int)(s:Step):Prop:=s.1∈r/\((src s.1=p/\dst s.1=s.2)\/(dst s.1=p/\src s.1=s.2))
def bB(r:List Int)(H:Hd)(p:Int)(s:Step):Prop:=s.1∈r/\((H s.1=none/\src s.1=p/\dst s.1=s.2)\/((H s.1).isSome=true/\dst s.1=p/\src s.1=s.2))
def Led(r:List Int)(H:Hd)(p:Int)(s:Step):Prop:=s.1∈r/\H s.1=some s.2/\src s.1=p/\dst s.1=s.2
def Ok(r:List Int)(H:Hd):Prop:=∀c∈r,∀x,H c=some x->x=dst c
theorem bB.along{H:Hd}(h:bB r H p s):qo r p s:=⟨h.1,h.2.imp (fun x=>x.2) fun x=>x.2⟩
theorem Led.along{H:Hd}(h:Led r H p s):qo r p s:=⟨h.1,.inl h.2.2⟩
theorem kO(hR:∀p s,R p s->qo r p s){x y:Int}(h:Way R x (s::w) y)(hn:(x::(s::w).map (·.2)).Nodup):∀u∈w,u.1≠s.1:=by
 obtain⟨h1,h2⟩:=h;obtain⟨_,he⟩:=hR _ _ h1;have main:∀(w:List Step) (z:Int),Way R z w y->(∀u∈w,u.2≠x/\u.2≠s.2)->∀u∈w,u.1≠s.1:=fun w=>by
  induction w with
  |nil=>intro z _ _ u hu;cases hu
  |cons v w ih=>
   intro z hw hd u hu;rcases Pk.mp hu with rfl | hu
   ·intro e;obtain⟨_,he'⟩:=hR _ _ hw.1;obtain⟨d1,d2⟩:=hd u O9;rw[e]at he'
    lia
   ·exact ih v.2 hw.2 (fun u hu=>hd u (Dk _ hu)) u hu
 rw[eg,Pj,Pj]at hn;refine main w s.2 h2 fun u hu=>⟨fun e=>hn.1 ?_,fun e=>hn.2.1 ?_⟩
 ·exact Dk _ (Pc.mpr ⟨u,hu,e⟩)
 ·exact Pc.mpr ⟨u,hu,e⟩
theorem jh(hR:∀p s,R p s->qo r p s){y:Int}:∀{w:List Step} {x:Int},Way R x w y->(x::w.map (·.2)).Nodup->(w.map (·.1)).Nodup
 |[],_,_,_=>by simp
 |s::w,x,h,hn=>by rw[eg,Pj];refine⟨fun e=>?_,jh hR h.2 (by rw[eg,Pj]at hn;exact hn.2)⟩;obtain⟨u,hu,e⟩:=Pc.mp e;exact kO hR h hn u hu e
theorem wY(nd:r.Nodup){H:Hd}(h:bB r H p s)(S:Int->Bool):b4 r (gX H s.1 s.2) S=b4 r H S+one (S p)-one (S s.2):=by
 obtain⟨hm,h⟩:=h;unfold gX;rw[gZ nd hm];rcases h with⟨e,rfl,e2⟩ | ⟨e,rfl,e2⟩
 ·rw[e,<- e2];simp[vd]
  lia
 ·rw[if_pos e,<- e2];simp[vd,e]
  lia
theorem Cv{H:Hd}(ok:Ok r H)(h:bB r H p s):Ok r (gX H s.1 s.2):=fun c hc x hx=>by
 unfold gX put at hx;by_cases e:c=s.1
 ·rw[if_pos e]at hx;obtain⟨hm,h⟩:=h;rcases h with⟨e1,_,e2⟩ | ⟨e1,_,e2⟩
  ·rw[e1]at hx;simp at hx;rw[e,e2,hx]
  ·rw[if_pos e1]at hx;cases hx
 ·rw[if_neg e]at hx;exact ok c hc x hx
theorem ji(nd:r.Nodup)(S:Int->Bool):∀{w:List Step} {x y:Int} {H:Hd},Ok r H->Way (bB r H) x w y->(x::w.map (·.2)).Nodup ->
  Ok r (lD H w)/\b4 r (lD H w) S=b4 r H S+one (S x)-one (S y)
 |[],x,y,H,ok,h,_=>by cases h;exact⟨ok,by rw[lD];lia⟩
 |s::w,x,y,H,ok,h,hn=>by
  have hfr:=kO (fun p s h=>h.along) h hn;obtain⟨hf,h2⟩:=h;have ok1:=Cv ok hf;have f1:=wY nd hf S;have h3:Way (bB r (gX H s.1 s.2)) s.2 w y:=by
   have main:∀(w:List Step) (z:Int),(∀u∈w,u.1≠s.1)->Way (bB r H) z w y->Way (bB r (gX H s.1 s.2)) z w y:=fun w=>by
    induction w with
    |nil=>intro _ _ h;exact h
    |cons u w ih=>intro z hu hw;exact⟨⟨hw.1.1,by rw[uv (hu u O9)];exact hw.1.2⟩,ih u.2 (fun v hv=>hu v (Dk _ hv)) hw.2⟩
   exact main w s.2 hfr h2
  obtain⟨k1,k2⟩:=ji nd S ok1 h3 (by rw[eg,Pj]at hn;exact hn.2);rw[lD];exact⟨k1,by rw[k2,f1];lia⟩
theorem jj(nd:r.Nodup)(S:Int->Bool):∀{w:List Step} {x y:Int} {H:Hd},Ok r H->Way (Led r H) x w y->(x::w.map (·.2)).Nodup ->
  Ok r (fM H w)/\b4 r (fM H w) S=b4 r H S-one (S x)+one (S y)
 |[],x,y,H,ok,h,_=>by cases h;exact⟨ok,by rw[fM];lia⟩
 |s::w,x,y,H,ok,h,hn=>by
  have hfr:=kO (fun p s h=>h.along) h hn;obtain⟨⟨hm,hf,e1,e2⟩,h2⟩:=h;have ok1:Ok r (put H s.1 none):=fun u hu z hz=>by
   unfold put at hz;split at hz
   ·cases hz
   ·exact ok u hu z hz
  have f1:=gZ nd hm H none S;rw[hf]at f1;simp only[vd,Option.isSome_none,Option.isSome_some,Qu,if_false,if_true,e1,e2]at f1;have h3:Way (Led r (put H s.1 none)) s.2 w y:=by
   have main:∀(w:List Step) (z:Int),(∀u∈w,u.1≠s.1)->Way (Led r H) z w y->Way (Led r (put H s.1 none)) z w y:=fun w=>by
    induction w with
    |nil=>intro _ _ h;exact h
    |cons u w ih=>intro z hu hw;exact⟨⟨hw.1.1,by unfold put;rw[if_neg (hu u O9)];exact hw.1.2⟩,ih u.2 (fun v hv=>hu v (Dk _ hv)) hw.2⟩
   exact main w s.2 hfr h2
  obtain⟨k1,k2⟩:=jj nd S ok1 h3 (by rw[eg,Pj]at hn;exact hn.2);rw[fM];exact⟨k1,by rw[k2,f1];lia⟩
theorem Cw{H:Hd}(ok:Ok r H)(hc:∀p s,S p=true->Led r H p s->S s.2=true):b4 r H S<=0:=by
 have main:∀(q:List Int),(∀t∈q,t∈r)->b4 q H S<=0:=fun q=>by
  induction q with
  |nil=>intro _;exact RX _
  |cons c q ih=>
   intro hq;rw[b4];have h1:=ih fun u hu=>hq u (Dk _ hu);have hv:vd (H c) c S<=0:=by
    unfold vd;cases e:H c with
    |none=>exact RX _
    |some x=>
     have hx:=ok c (hq c O9) x e;rw[if_pos (show (some x).isSome=true from rfl)];cases hp:S (src c) with
     |false=>cases S (dst c)<;>decide
     |true=>have:=hc (src c) (c,x) hp ⟨hq c O9,e,rfl,hx.symm⟩;rw[hx]at this;rw[this];decide
   lia
 exact main r fun _ h=>h
noncomputable def out(S:Int->Bool)(c:Int):Bool:=S (src c)&&!S (dst c)
theorem Cy{H:Hd}(hc:∀p s,S p=true->bB r H p s->S s.2=true):b4 r H S=((r.filter (out S)).length:Nat):=by
 have main:∀(q:List Int),(∀t∈q,t∈r)->b4 q H S=((q.filter (out S)).length:Nat):=fun q=>by
  induction q with
  |nil=>intro _;rfl
  |cons c q ih=>
   intro hq;rw[b4,ih fun u hu=>hq u (Dk _ hu)];have hm:=hq c O9;cases h1:S (src c) with
   |true=>
    cases h2:S (dst c) with
    |true=>
     rw[P7 (by simp[out,h1,h2])];have:vd (H c) c S=0:=by unfold vd;rw[h1,h2];split<;>lia
     lia
    |false=>
     rw[Qa (by simp[out,h1,h2]),PL];have:(H c).isSome=true:=by
      cases e:H c with
      |some x=>rfl
      |none=>have:=hc (src c) (c,dst c) h1 ⟨hm,.inl ⟨e,rfl,rfl⟩⟩;rw[h2]at this;cases this
     have:vd (H c) c S=1:=by unfold vd;rw[if_pos this,h1,h2];rfl
     lia
   |false=>
    rw[P7 (by simp[out,h1])];cases h2:S (dst c) with
    |true=>
     have:H c=none:=by
      cases e:H c with
      |none=>rfl
      |some x=>have:=hc (dst c) (c,src c) h2 ⟨hm,.inr ⟨by rw[e];rfl,rfl,rfl⟩⟩;rw[h1]at this;cases this
     have:vd (H c) c S=0:=by unfold vd;rw[this];rfl
     lia
    |false=>
     have:vd (H c) c S=0:=by unfold vd;rw[h1,h2];split<;>lia
     lia
 exact main r fun _ h=>h
structure Flow(r:List Int)(H:Hd)(a b:Int)(k:Nat):Prop where
 ok:Ok r H
 eq:∀S,b4 r H S=(k:Int)*(one (S a)-one (S b))
theorem Flow.zero(r:List Int)(a b:Int):Flow r (fun _=>none) a b 0:=⟨fun _ _ _ h=>(by cases h),fun S=>by
 induction r with
 |nil=>simp[b4]
 |cons t r ih=>rw[b4,ih];simp[vd]⟩
theorem Flow.more(nd:r.Nodup){H:Hd}(f:Flow r H a b k)(h:Way (bB r H) a w b)(hn:(a::w.map (·.2)).Nodup):Flow r (lD H w) a b (k+1):=
 ⟨(ji nd (fun _=>true) f.ok h hn).1,fun S=>by
  rw[(ji nd S f.ok h hn).2,f.eq S];have:((k+1:Nat):Int)=(k:Int)+1:=by lia
  rw[this,Int.add_mul]
  lia⟩
theorem Flow.less(nd:r.Nodup){H:Hd}(f:Flow r H a b (k+1))(h:Way (Led r H) a w b)(hn:(a::w.map (·.2)).Nodup):Flow r (fM H w) a b k:=
 ⟨(jj nd (fun _=>true) f.ok h hn).1,fun S=>by
  rw[(jj nd S f.ok h hn).2,f.eq S];have:((k+1:Nat):Int)=(k:Int)+1:=by lia
  rw[this,Int.add_mul]
  lia⟩
theorem Flow.cut{H:Hd}(f:Flow r H a b k)(ha:S a=true)(hb:S b=false)(hc:∀p s,S p=true->bB r H p s->S s.2=true):(r.filter (out S)).length=k:=by
 have h1:=Cy hc;rw[f.eq S,ha,hb]at h1;simp[one]at h1
 lia
theorem Flow.reach{H:Hd}(f:Flow r H a b (k+1))(ha:S a=true)(hc:∀p s,S p=true->Led r H p s->S s.2=true):S b=true:=by
 cases hb:S b with
 |true=>rfl
 |false=>
  have h1:=Cw f.ok hc;rw[f.eq S,ha,hb]at h1;simp[one]at h1
  lia
end
end Fd
namespace Dm
section
variable{ks:List (Int×Int)}{vs:List Dat}{Q:Val->Env->Prop}{j:Nat}{o:Option (List Dat)}{P:Dp->Prop}{ρ ρ':Env}{K:RV->Prop}{ps:List Dp}{d:Dat}{p:Dp}{R:Dat->Env->Prop}{N:Env->Dp->Prop}{f:FE}{as:List FE}{i:Nat}
def Wh(g:FQ)(ρ:Env)(p:Dp)(P:Dp->Prop):Prop:=∃q,g ρ p=some q/\P q
theorem UZ{ts:List PU}{ρ:Env}(h:jb j ρ p false ts=some ps)(hl:ps.length<=SZ)(q:P (.t ps)):Wh (wL j ts) ρ p P:=⟨_,by unfold wL;rw[h];dsimp only;rw[if_pos hl],q⟩
theorem Kr{b:Bool}{r:List PU}(h:We f ρ' fun v _=>v=.val d)(e:see j ρ p=ρ')(hb:dY d=false)(k:jb j ρ p b r=some ps):jb j ρ p b (.e f::r)=some (.s d::ps):=by obtain⟨v,ρ1,e1,rfl⟩:=h;rw[<- e]at e1;unfold jb;rw[e1];dsimp only;rw[if_neg (by rw[hb];exact Px),k]
theorem Ks{ρ:Env}{r:List PU}(k:jb j ρ p true r=some ps):jb j ρ p false (.w::r)=some (p::ps):=by unfold jb;rw[if_neg Px,k]
theorem Ut{ρ:Env}(q:Q (.new (.dcp [] [])) ρ):We wM ρ Q:=⟨_,_,rfl,q⟩
theorem Ul{j e:FE}{ρ:Env}{N:Env->Prop}{R:RV->Env->Prop}{B C:Env->Prop}(h:We e ρ fun x ρ1=>Wk ρ1 x fun d ρ2=>(∃d0,ρ2[i]?=some (.ow d0))/\We j ρ2 fun y ρ3=>∃p q ks vs ρ4,y=.val (.tup [.int p,.int q])/\ρ3[i]?=some (.ow (.dcp ks vs))/\ρ3.set i (.ow (.dcp (dm ks (p,q)) (fu ks vs (p,q) d)))=ρ4/\N ρ4/\ks.length<SZ):Ws (gT i j e) ρ N R B C:=by obtain⟨x,ρ1,h1,d,ρ2,h2,⟨d0,h0⟩,y,ρ3,h3,p,q,ks,vs,ρ4,rfl,h4,h5,n,h6⟩:=h;exact⟨.nx _,by unfold gT;rw[h1];dsimp only;rw[h2];dsimp only;rw[h0];dsimp only;rw[h3];dsimp only;rw[h4];dsimp only;rw[if_pos h6,h5],n⟩
theorem nG{p q:Int}{ρ3 ρ4:Env}{N:Env->Prop}{y:Val}(n:N ρ4)(hy:y=.val (.tup [.int p,.int q]))(h:ρ3[i]?=some (.ow (.dcp ks vs)))(hs:ρ3.set i (.ow (.dcp (dm ks (p,q)) (fu ks vs (p,q) d)))=ρ4)(hl:ks.length<SZ) :
  ∃p q ks vs ρ4,y=.val (.tup [.int p,.int q])/\ρ3[i]?=some (.ow (.dcp ks vs))/\ρ3.set i (.ow (.dcp (dm ks (p,q)) (fu ks vs (p,q) d)))=ρ4/\N ρ4/\ks.length<SZ:=⟨_,_,_,_,_,hy,h,hs,n,hl⟩
theorem UM{i j:Int}{o p:Option Dat}(h:eW ks vs (i,j)=some d)(k:K (.val d))(ho:o=some (.dcp ks vs))(hp:p=some (.tup [.int i,.int j])):Wg2 lQ o p K:=⟨_,_,_,ho,hp,by unfold lQ;dsimp only;rw[h];rfl,k⟩
theorem U9(k:K (.new (.lst (ks.map pairD))))(ho:o=some [.dcp ks vs])(hl:ks.length<=SZ):WB fy o K:=⟨_,_,ho,by unfold fy;dsimp only;rw[if_pos hl],k⟩
theorem FU{p:Int×Int}(h:p∉ks):nk ks p=false:=by unfold nk;rw[List.any_eq_false];intro k hk e;exact h ((of_decide_eq_true e)▸hk)
theorem uw{p:Int×Int}(h:p∉ks):dm ks p=ks++[p]/\fu ks vs p d=vs++[d]:=by unfold dm fu;rw[FU h];exact⟨rfl,rfl⟩
theorem U6{a b:FE}{ρ:Env}(h:We a ρ fun x ρ1=>(∃ks vs,pk ρ1 x=some (.dcp ks vs))/\We b ρ1 fun y ρ2=>∃ks vs i j,pk ρ2 x=some (.dcp ks vs)/\pk ρ2 y=some (.tup [.int i,.int j])/\Q (.val ((eW ks vs (i,j)).getD .non)) ρ2):We (kL a b) ρ Q:=by obtain⟨x,ρ1,h1,⟨ks,vs,h2⟩,y,ρ2,h3,ks',vs',i,j,h4,h5,q⟩:=h;exact⟨_,_,by unfold kL;rw[h1];dsimp only;rw[h2];dsimp only;rw[h3];dsimp only;rw[h4];dsimp only;rw[h5],q⟩
theorem UC{e:FE}{ρ ρ2:Env}{p q:Int}(hl:eW ks vs (p,q)=some d)(k:Q (.val d) ρ2)(h:ρ[i]?=some (.ow (.dcp ks vs)))(he:e ρ=some (.val (.tup [.int p,.int q]),ρ))(hs:ρ.set i (.ow (.dcp (dO ks vs (p,q)) (eY ks vs (p,q))))=ρ2):We (jd i e) ρ Q:=⟨_,_,by unfold jd;rw[h];dsimp only;rw[he];dsimp only;rw[h];dsimp only;rw[hl];dsimp only;rw[hs],k⟩
theorem Vg(k:K (.new (.dcp ks vs)))(ho:o=some [.dcp ks vs])(h:gW ks=true):WB kM o K:=⟨_,_,ho,by unfold kM;dsimp only;rw[if_pos h],k⟩
theorem TZ{i j:Int}{o p:Option Dat}(k:K (.val (.bl (eW ks vs (i,j)).isSome)))(ho:o=some (.tup [.int i,.int j]))(hp:p=some (.dcp ks vs)):Wg2 eX o p K:=⟨_,_,_,ho,hp,rfl,k⟩
theorem Th{f:List Dat->Option RV}{ρ:Env}(h:Was as ρ fun xs ρ1=>∃ds ρ2 v,wR ρ1 xs=some (ds,ρ2)/\f ds=some v/\aM v.dat=true/\Q v.bC ρ2):We (fW f as) ρ Q:=by obtain⟨xs,ρ1,h1,ds,ρ2,v,h2,h3,h4,q⟩:=h;exact⟨_,_,by unfold fW;rw[h1];dsimp only;rw[h2];dsimp only;rw[h3];dsimp only;rw[if_pos h4],q⟩
theorem Ux{ds:List Dat}{ρ:Env}{Q:Dp->Env->Prop}(h:We f ρ fun v ρ1=>v=.new (.lst ds)/\Q (.l (ds.map .s)) ρ1):Wp' (pN f) ρ Q:=by obtain⟨v,ρ1,e,rfl,q⟩:=h;exact⟨_,_,by unfold pN;rw[e],q⟩
theorem Uz{f:FP}{g:FQ}{ρ:Env}(h:Wp' f ρ fun p ρ1=>∃ρ3,ρ1.set j .un=ρ3/\Wh g ρ3 p P)(h0:j≠0):Wq (iV j f g) ρ P:=by obtain⟨p,ρ1,e,ρ3,rfl,q,e2,k⟩:=h;exact⟨q,by unfold iV;rw[if_neg h0,e];exact e2,k⟩
theorem UD{t:FT}{r g:FQ}(h:Wt t ρ' fun c _=>Wif c (Wh r ρ p P) (Wh g ρ p P))(e:see j ρ p=ρ'):Wh (hIf j t r g) ρ p P:=by
 obtain⟨c,ρ1,e1,h2,h3⟩:=h;rw[<- e]at e1;cases c with
 |true=>obtain⟨q,e2,k⟩:=h2 rfl;exact⟨q,by unfold hIf;rw[e1];exact e2,k⟩
 |false=>obtain⟨q,e2,k⟩:=h3 rfl;exact⟨q,by unfold hIf;rw[e1];exact e2,k⟩
theorem U_{f:List Dat->Option Dp}(h:Was as ρ' fun xs ρ1=>∃ds ρ2 qs d,tks ρ1 xs=some (ds,ρ2)/\f ds=some (.t [.l qs,.s d])/\(ps.length+qs.length<=SZ/\aO qs=true/\kc d=true)/\P (.t [.s (.int ((ps.length+qs.length:Nat):Int)),.l (ps++qs),.s d]))(e:see j ρ (.l ps)=ρ'):Wh (nv j f as) ρ (.l ps) P:=by obtain⟨xs,ρ1,e1,ds,ρ2,qs,d,e2,e3,e4,k⟩:=h;rw[<- e]at e1;refine⟨_,?_,k⟩;unfold nv;dsimp only;rw[e1];dsimp only;rw[e2];dsimp only;rw[e3];dsimp only;rw[if_pos e4]
theorem U7{c:Int}{i:FE}{xs rows items:List Dp}{m0 m:Nat}{k:Int}(h1:We i ρ' fun v _=>v=.val (.int k))(q:N ρ (.t (xs.set m0 (.l (rows.set m (.l []))))))(e:see j ρ (.t xs)=ρ')(h3:ixN xs.length c=some m0)(h4:xs[m0]?=some (.l rows))(h5:ixN rows.length k=some m)(h6:rows[m]?=some (.l items)):Wc (qk j c i) ρ (.t xs) N R:=by obtain⟨v,ρ1,e1,rfl⟩:=h1;rw[<- e]at e1;refine⟨.nx _ _,?_,q⟩;unfold qk;dsimp only;rw[h3];dsimp only;rw[h4];dsimp only;rw[e1];dsimp only;rw[h5];dsimp only;rw[h6]
theorem Vd{bd:FB}{body:FC}{m:Int}(h:We f ρ' fun v _=>v=.val (.int m))(e:see j ρ p=ρ')(hm:m<=BIG/\-BIG<=m)(k:Wc (iU bd body (ups 0 m.toNat)) ρ p N R):Wc (lC j f bd body) ρ p N R:=by obtain⟨v,ρ1,e1,rfl⟩:=h;rw[<- e]at e1;obtain⟨o,e2,k⟩:=k;exact⟨o,by unfold lC;rw[e1];dsimp only;rw[if_pos hm];exact e2,k⟩
theorem U8(h:We f ρ' fun v _=>v=.val d)(e:see j ρ p=ρ')(hn:kc d=true)(q:P (.t [p,.s d])):Wh (ny j f) ρ p P:=by obtain⟨v,ρ1,e1,rfl⟩:=h;rw[<- e]at e1;exact⟨_,by unfold ny;rw[e1];dsimp only;rw[if_pos hn],q⟩
theorem jl:∀ns:List Int,qf (ns.map Dat.int)=true
 |[]=>rfl
 |n::ns=>by rw[eg,qf,jl ns];rfl
theorem Uo{ns:List Int}(k:K (.new (.lst ((bK ltI ns).map Dat.int))))(ho:o=some [.lst (ns.map Dat.int)])(h:ns.length<=63):WB fB o K:=⟨_,_,ho,by unfold fB;dsimp only;rw[nF];dsimp only;rw[if_pos h];rfl,k⟩
end
end Dm
namespace P
open Dm
noncomputable def CB:List Dat->Option RV:=fn 2 0
  (sR (aI 0 1 (bN 2) bO (aI 2 1 (bN 3) (tV (e2 gEq (kL (eV 1) (e2 gIx (eV 3) (eC (.int 0)))) (e2 gIx (eV 3) (eC (.int 1))))) (eV 3))))
noncomputable def HR:FS:=
  (sIf (tV (e2 p9 (e2 gIx (eV 5) (eC (.int 1))) (eV 2))) (az (p_ 2 (e2 gIx (eV 5) (eC (.int 1))) (e2 aV (e2 gDx (eV 2) (eV 4)) (cL [(eV 5)])))
  (pB 3 (e2 gIx (eV 5) (eC (.int 1))))) sNx)
noncomputable def HS:FS:=
  (az (sA 4 (ff 3 (eC (.int 0))))
  (gv (iS (e2 gIx (eV 0) (eV 4))) (bN 5)
  HR))
noncomputable def kQ:List Dat->Option RV:=fn 2 4
  (az (sA 2 (eD1 (eV 1) (cL [])))
  (az (sA 3 (cL [(eV 1)]))
  (az (whD (tTr (eV 3))
  HS 100)
  (sR (eV 2)))))
noncomputable def HU:FS:=
  (sIf (tV (e2 eX (eV 2) (eV 0))) (sE (jd 0 (eV 2))) (gT 0 (eV 2) (eV 3)))
noncomputable def CC:List Dat->Option (RV×Dat):=fnM 2 2
  (gv (iS (eV 1)) (bT [2,3])
  HU)
noncomputable def HV:FS:=
  (sE (jd 5 (eV 9)))
noncomputable def HW:FS:=
  (az (sA 8 (cC (iS (e2 gDx (eF kQ [(fW CB [(eV 0),(eV 5)]),(eV 2)]) (eV 3))) 1 (bN 10) bO (e2 gIx (eV 10) (eC (.int 0)))))
  (az (gv (iS (eV 8)) (bN 9)
  HV)
  (pB 6 (eV 8))))
noncomputable def ux:List Dat->Option RV:=fn 5 5
  (az (sA 5 (eB kM [(eV 1)]))
  (az (sA 6 (cL []))
  (az (gv (iR1 (eV 4)) (bN 7)
  HW)
  (sR (eV 6)))))
noncomputable def FW:List Dat->Option RV:=fn 1 0
  (sR (iZ (e1 (lP isI) (eV 0)) (tL (e1 (lP isB) (eV 0)))))
noncomputable def FY:List Dat->Option RV:=fn 3 0
  (sR (iZ (eF FW [(eV 0)]) (gG gLe gLe (eV 1) (eV 0) (eV 2))))
noncomputable def CD:List Dat->Option RV:=fn 2 0
  (sR (eF FY [(eV 1),(eC (.int 0)),(e2 gp (eV 0) (eC (.int 1)))]))
noncomputable def FZ:List Dat->Option RV:=fn 3 0
  (sR (iZ (eF CD [(eV 0),(eV 1)]) (iZ (eF CD [(eV 0),(eV 2)]) (e2 gNe (eV 1) (eV 2)))))
noncomputable def Ad:List Dat->Option RV:=fn 3 0
  (sIf (dI (tV (eF FZ [(eV 0),(eV 1),(eV 2)]))) (fun _=>none) sNx)
noncomputable def HX:FS:=
  (sIf (tV (e2 gNe (eV 4) (eV 5))) (az (gT 2 (eE [(e2 aV (eV 0) (eV 4)),(eV 5)]) (eV 3))
  (gT 2 (eE [(e2 aV (eV 0) (eV 5)),(eV 4)]) (eV 3))) sNx)
noncomputable def Ae:List Dat->Option RV:=fn 2 4
  (az (sA 2 wM)
  (az (gv (iS (eV 1)) (bT [3,4,5])
  HX)
  (sR (eV 2))))
noncomputable def fY:FN:=
  (rH (e2 gIx (eV 4) (eC (.int 0))) (eE [(eV 4),(e2 gIx (eV 4) (eC (.int 1)))]))
noncomputable def qp:List Dat->Option RV:=fn 2 3
  (az (gi 2 (iR1 (e2 gE (eC (.int 2)) (eV 0))) 1 (bN 5) (tW (nA 2 3 (cC (iR1 (eV 0)) 1 (bN 5) bO (eE [(eV 5),(e2 aV (eV 0) (eV 5))])))
  (j8 (iS (e2 aV (eB fy [(eV 1)]) (eV 3))) (bN 4)
  fY)))
  (sR (eV 2)))
noncomputable def jm:FN:=
  (nIf (tV (e2 eX (eV 5) (eV 1))) (rH (eV 6) (eE [(eV 5),(eV 3)])) (rH (eV 3) (eE [(eV 5),(eV 6)])))
noncomputable def fC:FN:=
  (j8 (iS (eV 4)) (bT [5,6])
  jm)
noncomputable def lE:List Dat->Option RV:=fn 2 5
  (az (gi 2 (iS (eV 0)) 1 (bN 7) (j8 (iEn (eV 0)) (bT [3,4])
  fC))
  (sR (eV 2)))
noncomputable def nH:List Dat->Option RV:=fn 3 0
  (sR (e2 gIx (aI 1 1 (bN 3) (e8 (tV (e2 gLt (e2 gIx (eV 3) (eC (.int 0))) (eV 0))) (tV (e2 p9 (e2 gIx (eV 3) (eC (.int 1))) (eV 2)))) (e2 gIx (eV 3) (eC (.int 0)))) (eC (.int 0))))
noncomputable def rV:FS:=
  (az (sE (eFm CC 7 [(e2 gDx (eV 8) (eV 3))]))
  (az (sA 9 (e2 aV (eV 9) (eC (.int 1))))
  (sA 8 (eF kQ [(fW lE [(eV 6),(eV 7)]),(e2 aV (eV 0) (eV 2))]))))
noncomputable def uy:List Dat->Option RV:=fn 5 7
  (az (sA 5 (eF Ae [(eV 0),(eV 1)]))
  (az (sA 6 (fW qp [(eV 0),(eV 5)]))
  (az (sA 7 wM)
  (az (sA 8 (eF kQ [(fW lE [(eV 6),(eV 7)]),(e2 aV (eV 0) (eV 2))]))
  (az (sA 9 (eC (.int 0)))
  (az (whD (e8 (tV (e2 gLt (eV 9) (eV 4))) (tV (e2 wo (eV 3) (eV 8))))
  rV 100)
  (az (sA 10 (fW ux [(eV 6),(eV 7),(e2 aV (eV 0) (eV 2)),(eV 3),(eV 9)]))
  (az (sA 11 (aI 10 1 (bN 12) bO (aI 12 1 (bN 13) (tV (e2 eX (eV 13) (eV 5))) (e2 lQ (eV 5) (eV 13)))))
  (az (sIf (tV (e2 gEq (eV 9) (eV 4))) (sR (eE [(eV 11),(eC .non)])) sNx)
  (sR (eE [(eV 11),(eB gF [(eB fB [(aI 10 1 (bN 12) bO (eFd nH [(eV 0),(eV 12),(eV 8)]))])])])))))))))))
noncomputable def bG:List Dat->Option Dp:=fnP 5 7
  (eK (sA 5 (eF Ae [(eV 0),(eV 1)]))
  (eK (sA 6 (fW qp [(eV 0),(eV 5)]))
  (eK (sA 7 wM)
  (eK (sA 8 (eF kQ [(fW lE [(eV 6),(eV 7)]),(e2 aV (eV 0) (eV 2))]))
  (eK (sA 9 (eC (.int 0)))
  (eK (whD (e8 (tV (e2 gLt (eV 9) (eV 4))) (tV (e2 wo (eV 3) (eV 8))))
  rV 100)
  (eK (sA 10 (fW ux [(eV 6),(eV 7),(e2 aV (eV 0) (eV 2)),(eV 3),(eV 9)]))
  (iV 11 (dg (iS (eV 10)) 1 (bN 12) (pN (aI 12 1 (bN 13) (tV (e2 eX (eV 13) (eV 5))) (e2 lQ (eV 5) (eV 13)))))
  (hIf 11 (tV (e2 gEq (eV 9) (eV 4))) (wL 11 [.w,.e (eC .non)])
  (ny 11 (eB gF [(eB fB [(aI 10 1 (bN 12) bO (eFd nH [(eV 0),(eV 12),(eV 8)]))])])))))))))))
noncomputable def nI:List Dat->Option RV:=fn 5 4
  (az (sE (eF Ad [(eV 0),(eV 2),(eV 3)]))
  (az (sA 5 (aI 1 1 (bN 9) (e8 (tV (e2 gIn (eV 2) (i9 (eV 9) (some (eC (.int 1))) none))) (tV (e2 gIn (eV 3) (i9 (eV 9) (some (eC (.int 1))) none)))) (eV 9)))
  (az (sA 6 (aI 1 1 (bN 9) (tV (e2 bS (eV 9) (eV 5))) (eV 9)))
  (az (sA 7 (cC (iS (eSl (eV 5) none (some (eV 4)))) 1 (bN 9) bO (cL [(e2 gIx (eV 9) (eC (.int 0)))])))
  (az (sA 8 (eF uy [(eV 0),(eV 6),(eV 2),(eV 3),(e2 gp (eV 4) (eB cD [(eV 7)]))]))
  (az (zY 7 (e2 gIx (eV 8) (eC (.int 0))))
  (sR (eE [(eB cD [(eV 7)]),(eV 7),(e2 gIx (eV 8) (eC (.int 1)))]))))))))
noncomputable def br:List Dat->Option Dp:=fnP 5 4
  (eK (sE (eF Ad [(eV 0),(eV 2),(eV 3)]))
  (eK (sA 5 (aI 1 1 (bN 9) (e8 (tV (e2 gIn (eV 2) (i9 (eV 9) (some (eC (.int 1))) none))) (tV (e2 gIn (eV 3) (i9 (eV 9) (some (eC (.int 1))) none)))) (eV 9)))
  (eK (sA 6 (aI 1 1 (bN 9) (tV (e2 bS (eV 9) (eV 5))) (eV 9)))
  (iV 7 (dg (iS (eSl (eV 5) none (some (eV 4)))) 1 (bN 9) (pN (cL [(e2 gIx (eV 9) (eC (.int 0)))])))
  (nv 7 bG [(eV 0),(eV 6),(eV 2),(eV 3),(e2 gp (eV 4) (eB cD [(eV 7)]))])))))
noncomputable def uz:List Dat->Option RV:=fn 2 0
  (az (sIf (tV (e2 gLt (eV 1) (eB cD [(eV 0)]))) (sR (e2 gIx (eV 0) (eV 1))) sNx)
  (sR (eC (.int 0))))
noncomputable def CF:FS:=
  (az (sA 5 (e2 kG (e2 gE (e2 aV (e2 aV (e2 aV (e2 kG (eV 2) (eC (.int 998244353))) (e2 gE (e2 gE (eC (.int 89)) (eV 4)) (eV 4))) (e2 gE (eC (.int 7)) (eV 1))) (eC (.int 1))) (eC (.int 48271))) (eC (.int 2147483647))))
  (az (sA 5 (e2 kG (e2 gE (eV 5) (eV 5)) (eC (.int 1000000007))))
  (az (sA 5 (e2 kG (e2 gE (e2 aV (eV 5) (e2 gE (eC (.int 7919)) (eV 4))) (eC (.int 69621))) (eC (.int 2147483587))))
  (sA 3 (e2 aV (e2 gE (eV 3) (eC (.int 1000003))) (e2 kG (e2 v8 (eV 5) (eC (.int 8))) (eC (.int 1000003))))))))
noncomputable def qq:List Dat->Option RV:=fn 2 4
  (az (sA 2 (eF uz [(eV 0),(eV 1)]))
  (az (sIf (tV (e2 gGe (eV 2) (e2 v9 (eC (.int 10)) (eC (.int 18))))) (sR (cL [(eV 2)])) sNx)
  (az (sA 3 (eC (.int 0)))
  (az (gv (iR1 (eC (.int 48))) (bN 4)
  CF)
  (sR (cL [(eV 3)]))))))
noncomputable def cg:List Dat->Option (RV×Dat):=fnM 2 1
  (az (sA 2 (e2 kG (e2 gIx (eV 0) (eC (.int 0))) (eV 1)))
  (az (zK 0 (eC (.int 0)) (e2 v8 (e2 gIx (eV 0) (eC (.int 0))) (eV 1)))
  (sR (eV 2))))
noncomputable def CG:FS:=
  (az (sA 8 (eFm cg 0 [(eV 1)]))
  (az (sA 9 (eFm cg 0 [(eV 1)]))
  (az (sIf (e8 (tV (e2 gGt (eV 4) (eC (.int 0)))) (tV (e2 gEq (eV 8) (eV 9)))) (sA 9 (e2 kG (e2 aV (eV 8) (eC (.int 1))) (eV 1))) sNx)
  (az (sIf (e8 (tV (e2 gGt (eV 7) (eC (.int 0)))) (tV (e2 gEq (eFm cg 0 [(eC (.int 4))]) (eC (.int 0))))) (az (sA 8 (e2 gIx (e2 gIx (eV 6) (e2 gp (eV 7) (eC (.int 1)))) (eC (.int 1))))
  (sA 9 (e2 gIx (e2 gIx (eV 6) (e2 gp (eV 7) (eC (.int 1)))) (eC (.int 2))))) sNx)
  (az (pB 6 (eE [(eV 5),(eB pY [(eV 8),(eV 9)]),(eB pZ [(eV 8),(eV 9)])]))
  (sA 5 (e2 aV (e2 aV (eV 5) (eC (.int 1))) (e2 gE (eFm cg 0 [(e2 gIx (cL [(eC (.int 1)),(eC (.int 3)),(eC (.int 1000))]) (eV 4))]) (e2 gIx (cL [(eC (.int 1)),(eC (.int 1)),(e2 v9 (eC (.int 10)) (eC (.int 25)))]) (eV 4))))))))))
noncomputable def uA:List Dat->Option (RV×Dat):=fnM 3 7
  (az (sA 3 (eFm cg 0 [(e2 aV (eV 2) (eC (.int 1)))]))
  (az (sA 4 (eFm cg 0 [(eC (.int 3))]))
  (az (sA 5 (eFm cg 0 [(eC (.int 4))]))
  (az (sA 6 (cL []))
  (az (gv (iR1 (eV 3)) (bN 7)
  CG)
  (sR (eV 6)))))))
noncomputable def uB:List Dat->Option RV:=fn 1 0
  (sR (iZ (e1 (lP isI) (eV 0)) (tL (e1 (lP isB) (eV 0)))))
noncomputable def yH:List Dat->Option RV:=fn 1 0
  (sR (iZ (e1 (lP isL) (eV 0)) (eB rj [(aI 0 1 (bN 1) bO (eF uB [(eV 1)]))])))
noncomputable def CH:FS:=
  (az (sA 6 (aI 0 1 (bN 7) (tV (e2 gEq (e2 gIx (eV 7) (eC (.int 0))) (eV 5))) (eV 7)))
  (az (sIf (tOr (tV (e2 gEq (eV 6) (cL []))) (tOr (tV (e2 gEq (e2 gIx (e2 gIx (eV 6) (eC (.int 0))) (eC (.int 1))) (e2 gIx (e2 gIx (eV 6) (eC (.int 0))) (eC (.int 2))))) (tV (e2 bS (eV 4) (i9 (e2 gIx (eV 6) (eC (.int 0))) (some (eC (.int 1))) none))))) (sR (eC (.bl false))) sNx)
  (sA 4 (e2 gp (e2 aV (e2 gIx (e2 gIx (eV 6) (eC (.int 0))) (eC (.int 1))) (e2 gIx (e2 gIx (eV 6) (eC (.int 0))) (eC (.int 2)))) (eV 4)))))
noncomputable def uC:List Dat->Option RV:=fn 4 3
  (az (sIf (tOr (dI (tV (eF yH [(eV 3)]))) (tV (e2 gNe (e1 cV (eV 3)) (eB cD [(eV 3)])))) (sR (eC (.bl false))) sNx)
  (az (sA 4 (eV 1))
  (az (gv (iS (eV 3)) (bN 5)
  CH)
  (sR (e2 gEq (eV 4) (eV 2))))))
noncomputable def CI:FS:=
  (sA 4 (e2 aV (eV 4) (eV 5)))
noncomputable def yI:List Dat->Option RV:=fn 4 2
  (az (sIf (tOr (dI (tV (e1 (lP isL) (eV 3)))) (dI (tV (eB rj [(aI 3 1 (bN 6) bO (eF uC [(eV 0),(eV 1),(eV 2),(eV 6)]))])))) (sR (eC (.bl false))) sNx)
  (az (sA 4 (cL []))
  (az (gv (iS (eV 3)) (bN 5)
  CI)
  (sR (e2 gEq (e1 cV (eV 4)) (eB cD [(eV 4)]))))))
noncomputable def uD:List Dat->Option RV:=fn 2 0
  (az (sIf (tOr (dI (tV (e1 (lP isT) (eV 1)))) (dI (tV (eB rj [(aI 1 1 (bN 2) bO (iZ (eF uB [(eV 2)]) (gG gLe gLt (eC (.int 0)) (eV 2) (eV 0))))])))) (sR (eC (.bl false))) sNx)
  (sR (eB rj [(cC (iR2 (eC (.int 1)) (eB cD [(eV 1)])) 1 (bN 2) bO (e2 gLt (e2 gIx (eV 1) (e2 gp (eV 2) (eC (.int 1)))) (e2 gIx (eV 1) (eV 2))))])))
noncomputable def CJ:FS:=
  (az (sA 9 (e2 gp (e2 aV (eV 7) (eV 8)) (e2 gIx (eV 4) (eV 5))))
  (sIf (e8 (tV (e2 gIn (e2 gIx (eV 4) (eV 5)) (eE [(eV 7),(eV 8)]))) (e8 (tV (e2 bS (eV 9) (eV 4))) (tV (e2 bS (eV 9) (eV 3))))) (pB 4 (eV 9)) sNx))
noncomputable def CK:FS:=
  (az (gv (iS (eV 0)) (bT [6,7,8])
  CJ)
  (sA 5 (e2 aV (eV 5) (eC (.int 1)))))
noncomputable def yJ:List Dat->Option RV:=fn 4 6
  (az (sA 4 (cL [(eV 1)]))
  (az (sA 5 (eC (.int 0)))
  (az (whD (tV (e2 gLt (eV 5) (eB cD [(eV 4)])))
  CK 100)
  (sR (e2 gIn (eV 2) (eV 4))))))
noncomputable def CL:FS:=
  (az (sA 5 (e2 gIx (aI 0 1 (bN 6) (tV (e2 gEq (e2 gIx (eV 6) (eC (.int 0))) (eV 4))) (eV 6)) (eC (.int 0))))
  (pB 3 (e2 gp (e2 aV (e2 gIx (eV 5) (eC (.int 1))) (e2 gIx (eV 5) (eC (.int 2)))) (e2 gIx (eV 3) (e1 Be (eC (.int 1)))))))
noncomputable def yL:List Dat->Option RV:=fn 3 3
  (az (sA 3 (cL [(eV 1)]))
  (az (gv (iS (eV 2)) (bN 4)
  CL)
  (sR (eV 3))))
noncomputable def CM:FS:=
  (az (sA 6 (eF yL [(eV 0),(eV 1),(eV 5)]))
  (az (sIf (tV (e2 gNe (e1 cV (eV 6)) (eB cD [(eV 6)]))) (sR (eC (.bl false))) sNx)
  (sA 4 (e2 aV (eV 4) (eSl (eV 6) (some (eC (.int 1))) (some (e1 Be (eC (.int 1)))))))))
noncomputable def yM:List Dat->Option RV:=fn 4 3
  (az (sIf (dI (tV (eF yI [(eV 0),(eV 1),(eV 2),(eV 3)]))) (sR (eC (.bl false))) sNx)
  (az (sA 4 (cL []))
  (az (gv (iS (eV 3)) (bN 5)
  CM)
  (sR (e2 gEq (e1 cV (eV 4)) (eB cD [(eV 4)]))))))
noncomputable def qt:List Dat->Option RV:=fn 6 2
  (az (sIf (tOr (dI (tV (eF uD [(eV 0),(eV 5)]))) (tOr (tV (e2 gIn (eV 2) (eV 5))) (tV (e2 gIn (eV 3) (eV 5))))) (sR (eC (.bl false))) sNx)
  (az (sA 6 (aI 1 1 (bN 8) (tV (e2 gEq (eB fL [(i9 (eV 8) (some (eC (.int 1))) none)]) (eB fB [(cL [(eV 2),(eV 3)])]))) (eV 8)))
  (az (sA 7 (aI 1 1 (bN 8) (tV (e2 bS (eV 8) (eV 6))) (eV 8)))
  (sR (iZ (e2 gEq (e2 aV (eB cD [(eV 6)]) (eB cD [(eV 5)])) (eV 4)) (tL (eF yJ [(eV 7),(eV 2),(eV 3),(eB iP [(eV 5)])])))))))
noncomputable def lF:List Dat->Option RV:=fn 6 0
  (az (sIf (tOr (dI (tV (e1 (lP isT) (eV 5)))) (tOr (tV (e2 gNe (eB cD [(eV 5)]) (eC (.int 3)))) (dI (tV (eF uB [(e2 gIx (eV 5) (eC (.int 0)))]))))) (sR (eC (.bl false))) sNx)
  (az (sIf (tOr (dI (tV (e1 (lP isL) (e2 gIx (eV 5) (eC (.int 1)))))) (tOr (tV (e2 gNe (eB cD [(e2 gIx (eV 5) (eC (.int 1)))]) (e2 gIx (eV 5) (eC (.int 0))))) (tV (e2 gGt (e2 gIx (eV 5) (eC (.int 0))) (eV 4))))) (sR (eC (.bl false))) sNx)
  (az (sIf (dI (tV (eF yM [(eV 1),(eV 2),(eV 3),(e2 gIx (eV 5) (eC (.int 1)))]))) (sR (eC (.bl false))) sNx)
  (az (sIf (tV (e2 gEq (e2 gIx (eV 5) (eC (.int 0))) (eV 4))) (sR (e2 E3 (e2 gIx (eV 5) (eC (.int 2))) (eC .non))) sNx)
  (sR (eF qt [(eV 0),(eV 1),(eV 2),(eV 3),(e2 gIx (eV 5) (eC (.int 0))),(e2 gIx (eV 5) (eC (.int 2)))]))))))
noncomputable def rW:FC:=
  (wK (cIf 9 (tV (e2 gNe (e2 gIx (e2 gIx (eV 9) (eC (.int 1))) (eV 11)) (e2 gIx (e2 gIx (eV 10) (eC (.int 1))) (eV 11)))) (cRt 9 (eC (.bl false))) cNx)
  (qk 9 1 (eV 11)))
noncomputable def wZ:FS:=
  (az (sA 1 (eF qq [(eV 0),(eV 3)]))
  (az (sA 4 (eFm cg 1 [(eV 2)]))
  (az (sA 5 (e2 kG (e2 aV (e2 aV (eV 4) (eC (.int 1))) (eFm cg 1 [(e2 gp (eV 2) (eC (.int 1)))])) (eV 2)))
  (az (sA 6 (e2 gIx (cL [(eC (.int 1)),(eC (.int 2)),(eC (.int 3)),(eC (.int 4)),(eC (.int 8)),(eC (.int 60))]) (eFm cg 1 [(eC (.int 6))])))
  (az (sA 7 (eFm uA 1 [(eV 2),(e2 gIx (cL [(eC (.int 16)),(eC (.int 16)),(eC (.int 16)),(eC (.int 60))]) (eFm cg 1 [(eC (.int 4))]))]))
  (az (sA 8 (eB iP [(eV 7)]))
  (fV 9 br [(eV 2),(eV 8),(eV 4),(eV 5),(eV 6)]
  (mIf 9 (dI (tV (eF lF [(eV 2),(eV 7),(eV 4),(eV 5),(eV 6),(eV 9)]))) (sR (eC (.bl false)))
  (pF (nj 9 10 (pT [(pO (e2 gIx (eV 9) (eC (.int 0)))),(dg (iS (e2 gIx (eV 9) (eC (.int 1)))) 1 (bN 13) (pO (eB iP [(eV 13)]))),(pO (e2 gIx (eV 9) (eC (.int 2))))]))
  (pF (lC 9 (e2 gIx (eV 9) (eC (.int 0))) (bN 11)
  rW)
  (wI 1
  (az (sIf (tOr (tV (e2 gNe (eFk 5 nI [(eV 2),(eV 8),(eV 4),(eV 5),(eV 6)]) (eV 10))) (tV (e2 gNe (eV 8) (eV 7)))) (sR (eC (.bl false))) sNx)
  (sIf (tV (e2 gNe (eV 7) (cL []))) (az (sA 12 (eFm cg 1 [(eB cD [(eV 7)])]))
  (az (sE (ff 8 (eV 12)))
  (fV 9 br [(eV 2),(eV 8),(eV 4),(eV 5),(eV 6)]
  (mIf 9 (dI (tV (eF lF [(eV 2),(e2 aV (eSl (eV 7) none (some (eV 12))) (eSl (eV 7) (some (e2 aV (eV 12) (eC (.int 1)))) none)),(eV 4),(eV 5),(eV 6),(eV 9)]))) (sR (eC (.bl false)))
  (B3 sNx))))) sNx)))))))))))))
noncomputable def nJ:List Dat->Option RV:=fn 1 12
  (az (sA 1 (eF qq [(eV 0),(eC (.int 0))]))
  (az (sA 2 (e2 aV (eC (.int 2)) (eFm cg 1 [(e2 gIx (cL [(eC (.int 5)),(eC (.int 9))]) (eFm cg 1 [(eC (.int 2))]))])))
  (az (gv (iR2 (eC (.int 1)) (eB pZ [(eC (.int 2)),(eB pY [(eC (.int 5)),(eB cD [(eV 0)])])])) (bN 3)
  wZ)
  (sR (eC (.bl true))))))
end P
local macro_rules|`(tactic|trivial)=>`(tactic|first | (dsimp only[List.set];first | done | rfl) | rfl)
local macro_rules | `(tactic| array_get_dec)=>`(tactic| first | with_reducible refine Dm.R_ ?_ | with_reducible refine Dm.P_ ?_ | ((with_reducible apply Dm.O_);(focus rfl)) | ((with_reducible apply Dm.Sg);(focus rfl)) | with_reducible refine Dm.Se ?_ | (refine Dm.Sn ?_ (by trivial)) | (refine Dm.Sm ?_ (by trivial)) | (refine Dm.WA.slot ?_ rfl (by trivial)) | with_reducible refine Dm.Sj ?_ (by decide) | with_reducible refine Dm.Sv ?_ | with_reducible refine Dm.Si ?_ | with_reducible refine Dm.SI ?_ | with_reducible refine Dm.S5 ?_ | with_reducible refine Dm.SR ?_ | with_reducible refine Dm.T8 ?_ | (refine Dm.Sf ?_) | (refine Dm.bY.mk ?_) | with_reducible refine Dm.SN ?_ | with_reducible refine Dm.Ss ?_ | with_reducible refine Dm.Q_ ?_ | with_reducible refine Dm.m_ ?_ | with_reducible refine Dm.Sw ?_ | with_reducible refine Dm.SD ?_ | with_reducible refine Dm.Td ?_ | with_reducible refine Dm.SK ?_ | with_reducible refine Dm.SW ?_ | with_reducible refine Dm.We.If ?_ | with_reducible refine Dm.S7 ?_ | with_reducible refine Dm.We.Or ?_ | with_reducible refine Dm.Ua ?_ | with_reducible refine Dm.Tw ?_ | with_reducible refine Dm.Tf ?_ | with_reducible refine Dm.Wp.none ?_ | with_reducible refine Dm.Wp.some ?_ | (refine Dm.Wsl.A (ur:=Dat.int) ?_ rfl) | (refine Dm.Wsl.mk ?_ rfl) | (refine Dm.So ?_ rfl (by trivial) (by exact Nat.le_of_ble_eq_true rfl)) | (refine Dm.Sk ?_) | (refine Dm.S8 ?_) | (refine Dm.TV ?_ rfl (by trivial)) | with_reducible refine Dm.We.Dn ?_ | with_reducible refine Dm.UJ ?_ | with_reducible refine Dm.UG ?_ | (refine Dm.O4 ?_ rfl) | (refine Dm.nE rfl ?_) | (refine Dm.yD ?_ rfl (by trivial) ?_) | (refine Dm.S_ ?_ rfl) | (refine Dm.kN ?_ rfl (by trivial) ?_) | with_reducible refine Dm.Ws.U ?_ | (refine Dm.OR ?_ rfl (by trivial)) | with_reducible refine Dm.Sz ?_ | (refine Dm.UT ?_) | (refine Dm.Tc ?_) | (refine Dm.S0 ?_ rfl) | with_reducible refine Dm.Su ?_ | with_reducible refine Dm.Ws.bk ?_ | with_reducible refine Dm.Ws.ct ?_ | with_reducible refine Dm.Tt ?_ | with_reducible refine Dm.SM ?_ | with_reducible refine Dm.SY ?_ | with_reducible refine Dm.Wi.L ?_ | with_reducible refine Dm.Ti ?_ | with_reducible refine Dm.Um ?_ | (refine Dm.bP ?_) | (refine Dm.NJ ?_) | (refine Dm.SH ?_ rfl rfl) | (refine Dm.S6 ?_ rfl rfl) | (refine Dm.T7 ?_ rfl rfl ?_) | (refine Dm.T9 ?_ rfl rfl ?_) | (refine Dm.Wg2.eqb ?_ rfl rfl) | (refine Dm.Wg2.neb ?_ rfl rfl) | (refine Dm.Wg2.OS ?_ rfl rfl) | (refine Dm.Wg2.isb ?_ rfl rfl) | (refine Dm.Te ?_ rfl rfl) | (refine Dm.Wg2.le ?_ rfl rfl) | (refine Dm.TL ?_ rfl rfl) | (refine Dm.Uu ?_ rfl rfl) | (refine Dm.Sq ?_ rfl rfl) | (refine Dm.T6 ?_ rfl rfl ?_) | (refine Dm.Wg2.O0 ?_ rfl rfl ?_) | (refine Dm.Tv ?_ rfl rfl ?_) | (refine Dm.SV ?_ rfl rfl) | (refine Dm.Tp ?_ rfl rfl (by first | exact Or.inl (by decide) | exact Or.inr (by decide))) | (refine Dm.Tp ?_ rfl rfl ?_) | (refine Dm.Ue ?_ rfl rfl (by decide)) | (refine Dm.Ue ?_ rfl rfl ?_) | (refine Dm.Tn ?_ rfl rfl (by decide)) | (refine Dm.Tn ?_ rfl rfl ?_) | (refine Dm.Ui ?_ rfl rfl) | (refine Dm.T_ ?_ rfl rfl) | (refine Dm.To ?_ rfl rfl) | (refine Dm.Uv ?_ rfl rfl) | (refine Dm.Sh ?_ rfl rfl rfl) | (refine Dm.S9 (ur:=Dat.int) ?_ rfl) | (refine Dm.Up ?_ rfl) | (refine Dm.Uj ?_ rfl) | (refine Dm.TM ?_ rfl) | (refine Dm.TX ?_ rfl) | (refine Dm.TR ?_ rfl) | (refine Dm.WB.int ?_ rfl) | (refine Dm.WB.sum2 ?_ rfl ?_) | (refine Dm.Wg1.O5 (ur:=Dat.int) ?_ rfl) | (refine Dm.SO ?_ rfl rfl))
namespace P
open Dm Fl
section
variable{r:List Int}{h:List (Int×Int)}{R:Int->List Step}{n:Nat}{s:Step}{a:Int}{p:Int}{w:List Step}{A:List Int}{α:Type}{i e:FE}{d:Dat}{c:Int}{x:Int}{y:Int}{k:Int}
theorem F2(ks:List Int)(i:Int):(ks.any fun k=>decide (k=i))=decide (i∈ks):=by
 induction ks with
 |nil=>rfl
 |cons k ks ih=>
  rw[QF,ih];by_cases h:k=i
  ·simp[h]
  ·have h':¬i=k:=fun z=>h z.symm;simp[h,h']
theorem F3{ks:List Int}{vs:List Dat}{i:Int}(h:i∉ks):lz ks i=ks++[i]/\lA ks vs i d=vs++[d]:=by unfold lz lA;rw[F2,decide_eq_false h];exact⟨rfl,rfl⟩
theorem Af(key:α->Int)(val:α->Dat)(xs:List α)(i:Int):cO (xs.map key) (xs.map val) i=(xs.find? fun x=>decide (key x=i)).map val:=by
 induction xs with
 |nil=>rfl
 |cons x xs ih=>
  rw[eg,eg,cO,Qw];by_cases h:key x=i
  ·simp[h]
  ·simp[h,ih]
theorem b5[DecidableEq α]:∀(l m:List α),l.Nodup->(∀x∈l,x∈m)->l.length<=m.length
 |[],_,_,_=>Qf _
 |x::l,m,h,k=>by
  obtain⟨h1,h2⟩:=Pj.mp h;have hx:x∈m:=k x O9;have:=b5 l (m.erase x) h2 fun y hy=>(List.mem_erase_of_ne (fun e:y=x=>h1 (by rw[<- e];exact hy))).mpr (k y (Dk _ hy));rw[List.length_erase_of_mem hx]at this;have:=List.length_pos_of_mem hx;simp
  lia
noncomputable def places(n:Nat):List Int:=(PM n).map fun i:Nat=>(i:Int)
theorem places_len(n:Nat):(places n).length=n:=by simp[places]
theorem fZ(n:Nat)(x:Int):x∈places n↔0<=x/\x<n:=by
 unfold places;rw[Pc];constructor
 ·rintro⟨i,hi,rfl⟩;have:=Qh.mp hi
  lia
 ·rintro⟨h0,h1⟩;exact⟨x.toNat,Qh.mpr (by lia),by lia⟩
noncomputable def stG(lb:Int->Dat)(s:Step):Dat:=.tup [lb s.1,.int s.2]
noncomputable def rwG(lb:Int->Dat)(w:List Step):Dat:=.lst (w.map (stG lb))
noncomputable def rsG(lb:Int->Dat)(n:Nat)(R:Int->List Step):Dat:=.lst ((PM n).map fun i:Nat=>rwG lb (R i))
noncomputable abbrev Sr:=List (Int×List Step)
noncomputable def sk(s:Sr):List Int:=s.map (·.1)
noncomputable def svG(lb:Int->Dat)(s:Sr):List Dat:=s.map fun e=>rwG lb e.2
def InR(R:Int->List Step)(p:Int)(s:Step):Prop:=s∈R p
structure w_(R:Int->Step->Prop)(a:Int)(w:List Step)(p:Int):Prop where
 way:Way R a w p
 nd:(a::w.map (·.2)).Nodup
structure Fnd(n:Nat)(R:Int->List Step)(a:Int)(s:Sr):Prop where
 nd:(sk s).Nodup
 pl:∀x∈sk s,0<=x/\x<n
 st:a∈sk s
 way:∀e∈s,w_ (InR R) a e.2 e.1/\∀x∈a::e.2.map (·.2),x∈sk s
theorem Fnd.len{s:Sr}(h:Fnd n R a s):s.length<=n:=by
 have:=b5 (sk s) (places n) h.nd fun x hx=>(fZ n x).mpr (h.pl x hx);rw[places_len]at this
 simpa [sk] using this
theorem Fnd.g8{s:Sr}(h:Fnd n R a s){e:Int×List Step}(he:e∈s):e.2.length<s.length:=by
 obtain⟨h1,h2⟩:=h.way e he;have:=b5 (a::e.2.map (·.2)) (sk s) h1.nd h2;simp[sk]at this
 lia
theorem dP(s:Sr)(x:Int)(w:List Step):sk (s++[(x,w)])=sk s++[x]:=by simp[sk]
theorem F4(lb:Int->Dat)(s:Sr)(x:Int)(w:List Step):svG lb (s++[(x,w)])=svG lb s++[rwG lb w]:=by simp[svG]
theorem rX(lb:Int->Dat)(s:Sr)(x:Int):(∃w,(x,w)∈s/\cO (sk s) (svG lb s) x=some (rwG lb w))\/(x∉sk s/\cO (sk s) (svG lb s) x=none):=by
 unfold sk svG;rw[Af (fun e:Int×List Step=>e.1) (fun e=>rwG lb e.2) s x];cases hf:s.find? fun e=>decide (e.1=x) with
 |none=>refine Or.inr ⟨fun h=>?_,rfl⟩;obtain⟨e,he,hx⟩:=Pc.mp h;have:=RI.mp hf e he;simp[hx]at this
 |some e=>
  have h1:=List.mem_of_find?_eq_some hf;have h2:=List.find?_some hf;have h2:e.1=x:=by simpa using h2
  exact Or.inl ⟨e.2,by rw[<- h2];exact h1,rfl⟩
theorem g9(lb:Int->Dat)(s:Sr)(x:Int):(cO (sk s) (svG lb s) x).isSome=decide (x∈sk s):=by
 rcases rX lb s x with⟨ts,h1,h2⟩ | ⟨h1,h2⟩
 ·have:x∈sk s:=Pc.mpr ⟨_,h1,rfl⟩;rw[h2,decide_eq_true this];rfl
 ·rw[h2,decide_eq_false h1];rfl
theorem Fnd.start(a0:0<=a)(a1:a<n):Fnd n R a [(a,[])] where
 nd:=by simp[sk]
 pl:=by intro x hx;simp[sk]at hx;subst hx;exact⟨a0,a1⟩
 st:=by simp[sk]
 way:=by intro e he;simp at he;subst he;exact⟨⟨rfl,by simp⟩,by simp[sk]⟩
theorem Fnd.step{s:Sr}(h:Fnd n R a s)(hp:(p,w)∈s){u:Step}(hu:u∈R p)(hn:u.2∉sk s)(u0:0<=u.2)(u1:u.2<n):Fnd n R a (s++[(u.2,w++[u])]) where
 nd:=by rw[dP];exact P9.mpr ⟨h.nd,by simp,fun x hx y hy=>by rw[Pn.mp hy];exact fun e=>hn (e▸hx)⟩
 pl:=by
  intro x hx;rw[dP]at hx;rcases Pp.mp hx with hx | hx
  ·exact h.pl x hx
  ·rw[Pn.mp hx];exact⟨u0,u1⟩
 st:=by rw[dP];exact PK _ h.st
 way:=by
  intro e he;rw[dP];rcases Pp.mp he with he | he
  ·obtain⟨k1,k2⟩:=h.way e he;exact⟨k1,fun x hx=>PK _ (k2 x hx)⟩
  ·rw[Pn.mp he];obtain⟨k1,k2⟩:=h.way _ hp;refine⟨⟨k1.way.snoc hu,?_⟩,fun x hx=>?_⟩
   ·dsimp only at k1 k2 ⊢;rw[Pf,<- QY];exact P9.mpr ⟨k1.nd,by simp,fun x hx y hy=>by rw[Pn.mp hy];exact fun e:x=u.2=>hn (by rw[<- e];exact k2 x hx)⟩
   ·dsimp only at k1 k2 hx ⊢;rw[Pf,<- QY]at hx;rcases Pp.mp hx with hx | hx
    ·exact PK _ (k2 x hx)
    ·exact PF _ (by simpa using hx)
def Done(R:Int->List Step)(K:List Int)(x:Int):Prop:=∀u∈R x,u.2∈K
noncomputable def F5(lb:Int->Dat)(n:Nat)(R:Int->List Step)(a:Int)(s:Sr)(ps:List Int)(c4 c5:Cell):Env:=[.sh (rsG lb n R),.sh (.int a),.ow (.dct (sk s) (svG lb s)),.ow (.lst (ps.map Dat.int)),c4,c5]
theorem Kv{ps:List Int}{p0:Int}{i:Nat}{e:FE}{ρ ρ2:Env}{Q:Val->Env->Prop}(q:Q (.val (.int p0)) ρ2)(h:ρ[i]?=some (.ow (.lst ((p0::ps).map Dat.int))))(he:e ρ=some (.val (.int 0),ρ))(hs:ρ.set i (.ow (.lst (ps.map Dat.int)))=ρ2):We (ff i e) ρ Q:=
 ⟨_,_,by unfold ff;rw[h];dsimp only;rw[he];dsimp only;rw[h];dsimp only;rw[if_pos (by unfold BIG;lia)];show some (Val.val (.int p0),ρ.set i (.ow (.lst (ps.map Dat.int))))=_;rw[hs],q⟩
theorem F6(lb:Int->Dat)(n:Nat)(R:Int->List Step)(x:Int)(h0:0<=x)(h1:x<n):gIx (rsG lb n R) (.int x)=some (.val (rwG lb (R x))):=by
 unfold rsG gIx;dsimp only;rw[iB (fun i:Nat=>rwG lb (R i)) (PM n) x h0 (by rw[Qp];exact h1)];have e:(((PM n)[x.toNat]'(by rw[Qp];lia):Nat):Int)=x:=by rw[List.getElem_range];lia
 rw[e];rfl
theorem nM(lb:Int->Dat)(n:Nat)(hn:n<=40)(R:Int->List Step)(hR:∀i:Int,0<=i->i<n->∀u∈R i,0<=u.2/\u.2<n)(a:Int)(a0:0<=a)(a1:a<n) :
  ∃s:Sr,kQ [rsG lb n R,.int a]=some (.new (.dct (sk s) (svG lb s)))/\Fnd n R a s/\∀x∈sk s,Done R (sk s) x:=by
 suffices h:Wr (kQ [rsG lb n R,.int a]) fun v=>∃s:Sr,v=.new (.dct (sk s) (svG lb s))/\Fnd n R a s/\∀x∈sk s,Done R (sk s) x by obtain⟨v,h1,s,rfl,h2⟩:=h;exact⟨s,h1,h2⟩
 unfold kQ
 (refine Dm.Sy ?_ rfl rfl;and_intros)
 refine R_ (Sj ?_ (by decide));refine UJ (O_ rfl (bY.mk (SK (Q_ (So ?_ rfl (by trivial) (by exact Pw rfl))))));refine Sk (Sm ?_ (by trivial));refine R_ (Sj ?_ (by decide));refine SK (m_ (O_ rfl (Q_ (So ?_ rfl (by trivial) (by exact Pw rfl)))));refine Sm ?_ (by trivial);refine R_ ?_;refine TH (fun k ρ=>∃(s:Sr) (ps:List Int) (c4 c5:Cell),ρ=F5 lb n R a s ps c4 c5/\Fnd n R a s/\(∀x∈ps,x∈sk s)/\(∀x∈sk s,x∈ps\/Done R (sk s) x)/\k=ps.length+(n-s.length)/\k<=40) ?_ 100 n _ (by lia) ⟨[(a,[])],[a],_,_,rfl,Fnd.start a0 a1,by simp[sk],by simp[sk],by simp;lia,hn⟩;rintro k ρ ⟨s,ps,c4,c5,rfl,F,hps,hd,hk,O6⟩;unfold F5;refine Vf ?_;refine Sg rfl ?_;refine⟨_,!(ps.map Dat.int).isEmpty,rfl,rfl,?_⟩;have len:=F.len;cases ps with
 |nil=>refine SJ rfl ?_;refine Sz (Sg rfl (S0 ?_ rfl));exact⟨s,rfl,F,fun x hx=>(hd x hx).resolve_left (by simp)⟩
 |cons p0 ps0=>
  refine S2 rfl ?_;unfold HS;refine R_ (Sj ?_ (by decide));refine Kv (ps:=ps0) (p0:=p0) ?_ rfl rfl rfl;refine Sn ?_ (by trivial);have hp0:p0∈sk s:=hps p0 (by simp);obtain⟨q0,q1⟩:=F.pl p0 hp0;refine SM (SY (P_ (O_ rfl (O_ rfl (Sh ?_ rfl rfl (F6 lb n R p0 q0 q1))))));refine Sk (bP ?_);refine SQ (stG lb) _ _ (R p0) _ _ _ _ _ (fun p q ρ=>∃(s:Sr) (ps:List Int) (c5:Cell),ρ=F5 lb n R a s ps (.sh (.int p0)) c5/\Fnd n R a s/\(∀x∈ps,x∈sk s)/\p0∈sk s/\(∀x∈sk s,x∈ps\/x=p0\/Done R (sk s) x)/\(∀u∈p,u.2∈sk s)/\k=ps.length+1+(n-s.length)) ⟨s,ps0,_,rfl,F,fun x hx=>hps x (by simp[hx]),hp0,?_,by simp,by rw[hk];simp⟩ ?_ ?_
  ·intro x hx;rcases hd x hx with h | h
   ·rcases Pk.mp h with h | h
    ·exact .inr (.inl h)
    ·exact .inl h
   ·exact .inr (.inr h)
  ·rintro p u q ρ e' ⟨s,ps,c5,rfl,F,hps,hp0,hd,hp,hk⟩;have len:=F.len;have hu:u∈R p0:=by rw[e'];simp
   obtain⟨u0,u1⟩:=hR p0 q0 q1 u hu;unfold F5;refine Dm.bZ rfl (by trivial) ?_;unfold HR;refine Sv (Si (P_ (P_ (O_ rfl (Se (Sh ?_ rfl rfl rfl))))));refine Sg rfl (T_ ?_ rfl rfl);refine Sf ?_;rw[g9];refine⟨fun h=>?_,fun h=>?_⟩
   ·have hnew:=ndT h;obtain⟨w,t1,t2⟩:∃w,(p0,w)∈s/\cO (sk s) (svG lb s) p0=some (rwG lb w):=by
     rcases rX lb s p0 with h | h
     ·exact h
     ·exact absurd hp0 h.1
    have wl:=F.g8 t1;refine R_ (UG (P_ (P_ (Sg rfl (O_ rfl (Ub t2 ?_ rfl rfl))))));refine SK (m_ (O_ rfl (Q_ (So ?_ rfl rfl (by exact Pw rfl)))));refine Tv ?_ rfl rfl (by rw[gV];dsimp only at wl;simp;unfold SZ;lia);refine S8 (nE rfl (P_ (O_ rfl (Se (Sh ?_ rfl rfl rfl)))));refine bY.mk (yD ?_ rfl (by trivial) (by simp only[sk,gV];unfold SZ;lia));refine S_ (P_ (O_ rfl (Se (Sh ?_ rfl rfl rfl)))) rfl;refine Sk (kN ?_ rfl (by trivial) (by rw[gV];unfold SZ;lia));have F':=F.step t1 hu hnew u0 u1;have len':=F'.len;have em:Dat.lst (w.map (stG lb)++[(stG lb) u])=rwG lb (w++[u]):=by simp[rwG]
    obtain⟨p1,p2⟩:=F3 (ks:=sk s) (vs:=svG lb s) (i:=u.2) (d:=rwG lb (w++[u])) hnew;refine⟨s++[(u.2,w++[u])],ps++[u.2],.sh ((stG lb) u),?_,F',?_,?_,?_,?_,?_⟩
    ·rw[em,p1,p2,dP,F4,Pf];rfl
    ·intro x hx;rw[dP];rcases Pp.mp hx with hx | hx
     ·exact PK _ (hps x hx)
     ·exact PF _ hx
    ·rw[dP];exact PK _ hp0
    ·intro x hx;rw[dP]at hx ⊢;rcases Pp.mp hx with hx | hx
     ·rcases hd x hx with h | h | h
      ·exact .inl (PK _ h)
      ·exact .inr (.inl h)
      ·exact .inr (.inr fun y hy=>PK _ (h y hy))
     ·exact .inl (PF _ hx)
    ·intro v hv;rw[dP];rcases Pp.mp hv with hv | hv
     ·exact PK _ (hp v hv)
     ·rw[Pn.mp hv];simp
    ·rw[hk];simp at len' ⊢;lia
   ·have hold:=ndF h;refine Su ?_;refine⟨s,ps,.sh ((stG lb) u),rfl,F,hps,hp0,hd,fun v hv=>?_,hk⟩;rcases Pp.mp hv with hv | hv
    ·exact hp v hv
    ·rw[Pn.mp hv];exact hold
  ·rintro ρ ⟨s,ps,c5,rfl,F,hps,hp0,hd,hp,hk⟩;refine⟨ps.length+(n-s.length),by lia,s,ps,_,_,rfl,F,hps,fun x hx=>?_,rfl,by lia⟩;rcases hd x hx with h | rfl | h
   ·exact .inl h
   ·exact .inr hp
   ·exact .inr h
noncomputable def pr(c:Int):Int×Int:=(c / 20,c % 20)
noncomputable def lbP(c:Int):Dat:=.tup [.int (c / 20),.int (c % 20)]
theorem nN{c d:Int}(h:pr c=pr d):c=d:=by
 unfold pr at h;injection h with h1 h2
 lia
noncomputable def hdF(h:List (Int×Int)):Hd:=fun m=>(h.find? fun e=>decide (e.1=m)).map (·.2)
noncomputable def hk(h:List (Int×Int)):List Int:=h.map (·.1)
noncomputable def hkP(h:List (Int×Int)):List (Int×Int):=h.map fun e=>pr e.1
noncomputable def hv(h:List (Int×Int)):List Dat:=h.map fun e=>Dat.int e.2
noncomputable def au(h:List (Int×Int)):Dat:=.dcp (hkP h) (hv h)
theorem f6(h:List (Int×Int))(c:Int):eW (hkP h) (hv h) (c / 20,c % 20)=(hdF h c).map Dat.int:=by
 unfold hkP hv hdF
 induction h with
 |nil=>rfl
 |cons e h ih=>
  rw[eg,eg,eW,Qw];by_cases q:e.1=c
  ·rw[if_pos (by rw[q];rfl),decide_eq_true q];rfl
  ·rw[if_neg (fun z:pr e.1=(c / 20,c % 20)=>q (nN z)),decide_eq_false q];exact ih
theorem ki{m:Int}:(hdF h m).isSome=decide (m∈hk h):=by
 unfold hdF hk
 induction h with
 |nil=>rfl
 |cons e h ih=>
  rw[Qw];by_cases q:e.1=m
  ·rw[decide_eq_true q];simp[q]
  ·rw[decide_eq_false q];have q':¬m=e.1:=fun z=>q z.symm;simp only[eg,Pk,q',false_or];exact ih
theorem Kw(o:Option Int)(y:Int):gEq ((o.map Dat.int).getD .non) (.int y)=vB (decide (o=some y)):=by
 cases o with
 |none=>rfl
 |some z=>
  show gEq (.int z) (.int y)=_;rw[yF];have:(z=y)=(some z=some y):=by simp
  simp only[this]
noncomputable def uE(h:List (Int×Int))(R:Int->List Step):Int->List Step:=fun x=>(R x).filter fun s=>decide (hdF h s.1=some s.2)
theorem rY(n:Nat)(hn:n<=1000)(R:Int->List Step)(hR:∀i:Nat,i<n->(R i).length<=1000)(h:List (Int×Int)):CB [rsG lbP n R,au h]=some (.new (rsG lbP n (uE h R))):=by
 apply SG;unfold CB
 (refine Dm.Sy ?_ rfl rfl;and_intros)
 refine Sz ?_;refine TJ (fun i:Nat=>rwG lbP (R i)) (PM n) id (fun i:Nat=>rwG lbP (uE h R i)) (d:=rsG lbP n R) ?_ rfl rfl rfl (by decide) (by rw[Qp];unfold SZ;lia) fun i hi=>?_
 ·rw[Qx];rfl
 ·have hl:=hR i (Qh.mp hi);refine S1 (stG lbP) (R i) (fun s=>decide (hdF h s.1=some s.2)) id (stG lbP) (d:=rwG lbP (R i)) ?_ rfl rfl rfl (by decide) (by unfold SZ;lia) (fun s _=>?_) fun s _ _=>?_
  ·rw[Qx];exact S8 ⟨rfl,rfl⟩
  ·refine Si (P_ (U6 (O_ rfl ⟨⟨_,_,rfl⟩,P_ (O_ rfl (Se (Sh ?_ rfl rfl rfl)))⟩)));refine⟨hkP h,hv h,s.1 / 20,s.1 % 20,rfl,rfl,P_ (O_ rfl (Se (Sh ?_ rfl rfl rfl)))⟩;refine⟨_,_,_,rfl,rfl,(by rw[f6];exact Kw _ _),?_⟩;exact Sf ⟨rfl,rfl⟩
  ·exact O_ rfl (Sk ⟨rfl,rfl⟩)
noncomputable def lG(h:List (Int×Int))(s:Step):List (Int×Int):=if s.1∈hk h then h.filter fun e=>decide (e.1≠s.1) else h++[s]
theorem nQ(h:List (Int×Int))(m:Int):hdF (h.filter fun e=>decide (e.1≠m))=put (hdF h) m none:=by
 funext x
 unfold put hdF;rw[List.find?_filter];by_cases e:x=m
 ·subst e;rw[if_pos rfl,RI.mpr fun y _=>by simp];rfl
 ·rw[if_neg e]
  congr 1
  congr 1
  funext y
  by_cases q:y.1=x
  ·have:y.1≠m:=fun z=>e (q.symm.trans z);simp[q,e]
  ·simp[q]
theorem yN(h:List (Int×Int))(s:Step)(hn:s.1∉hk h):hdF (h++[s])=put (hdF h) s.1 (some s.2):=by
 funext x
 unfold put hdF;rw[List.find?_append];by_cases e:x=s.1
 ·subst e;rw[if_pos rfl];have:(h.find? fun e=>decide (e.1=s.1))=none:=RI.mpr fun y hy=>by
   intro z;exact hn (Pc.mpr ⟨y,hy,of_decide_eq_true z⟩)
  rw[this];simp
 ·rw[if_neg e];have e':¬s.1=x:=fun z=>e z.symm;cases hf:(h.find? fun e=>decide (e.1=x)) with
  |none=>simp[e']
  |some y=>rfl
theorem CN(h:List (Int×Int))(s:Step):hdF (lG h s)=gX (hdF h) s.1 s.2:=by
 unfold lG gX;rw[ki];by_cases q:s.1∈hk h
 ·rw[if_pos q,if_pos (decide_eq_true q),nQ]
 ·rw[if_neg q,if_neg (by simpa using q),yN h s q]
noncomputable def bJ(h:List (Int×Int)):List Step->List (Int×Int)
 |[]=>h
 |s::w=>bJ (lG h s) w
theorem qu:∀(w:List Step) (h:List (Int×Int)),hdF (bJ h w)=lD (hdF h) w
 |[],_=>rfl
 |s::w,h=>by rw[bJ,lD,qu w,CN]
theorem g_:∀(w:List Step) (h:List (Int×Int)) (s:Step),bJ h (w++[s])=lG (bJ h w) s
 |[],_,_=>rfl
 |_::w,h,s=>by rw[QY,bJ,bJ,g_ w]
theorem l6(h:List (Int×Int))(c:Int):dO (hkP h) (hv h) (c / 20,c % 20)=hkP (h.filter fun e=>decide (e.1≠c))/\eY (hkP h) (hv h) (c / 20,c % 20)=hv (h.filter fun e=>decide (e.1≠c)):=by
 unfold hkP hv
 induction h with
 |nil=>exact⟨rfl,rfl⟩
 |cons e h ih=>
  rw[eg,eg,dO,eY];by_cases q:e.1=c
  ·rw[if_pos (by rw[q];rfl),if_pos (by rw[q];rfl),P7 (by simpa using q)];exact ih
  ·rw[if_neg (fun z:pr e.1=(c / 20,c % 20)=>q (nN z)),if_neg (fun z:pr e.1=(c / 20,c % 20)=>q (nN z)),Qa (by simpa using q),eg,eg,ih.1,ih.2];exact⟨rfl,rfl⟩
structure Hok(r:List Int)(h:List (Int×Int)):Prop where
 nd:(hk h).Nodup
 sub:∀m∈hk h,m∈r
theorem Hok.len(k:Hok r h):h.length<=r.length:=by
 have:=b5 (hk h) r k.nd k.sub
 simpa [hk] using this
theorem Hok.nil(r:List Int):Hok r []:=⟨by simp[hk],by simp[hk]⟩
theorem Hok.drop(k:Hok r h)(m:Int):Hok r (h.filter fun e=>decide (e.1≠m)):=by refine⟨(k.nd.sublist (R9.map _ (RA))),fun x hx=>k.sub x ?_⟩;obtain⟨e,he,rfl⟩:=Pc.mp hx;exact Pc.mpr ⟨e,(PJ.mp he).1,rfl⟩
theorem Hok.lead(k:Hok r h)(hs:s.1∈r):Hok r (lG h s):=by
 unfold lG;split
 ·exact k.drop _
 ·rename_i q;refine⟨?_,fun x hx=>?_⟩
  ·unfold hk;rw[Pf];exact P9.mpr ⟨k.nd,by simp,fun x hx y hy=>by
    have:y=s.1:=by simpa using hy
    rw[this];exact fun e=>q (e▸hx)⟩
  ·unfold hk at hx;rw[Pf]at hx;rcases Pp.mp hx with hx | hx
   ·exact k.sub x hx
   ·have:x=s.1:=by simpa using hx
    rw[this];exact hs
theorem Hok.CO:∀{w:List Step} {h:List (Int×Int)},Hok r h->(∀s∈w,s.1∈r)->Hok r (bJ h w)
 |[],_,k,_=>k
 |s::w,h,k,hs=>by rw[bJ];exact Hok.CO (w:=w) (k.lead (hs s O9)) fun u hu=>hs u (Dk _ hu)
theorem rZ:pr c∈hkP h↔c∈hk h:=by
 unfold hkP hk;rw[Pc,Pc];constructor
 ·rintro⟨e,he,q⟩;exact⟨e,he,nN q⟩
 ·rintro⟨e,he,q⟩;exact⟨e,he,by rw[q]⟩
theorem pI(r:List Int)(hl:r.length<=1000)(h:List (Int×Int))(k:Hok r h)(w:List Step)(hw:∀s∈w,s.1∈r):CC [au h,rwG lbP w]=some (.val .non,au (bJ h w)):=by
 suffices q:WrM (CC [au h,rwG lbP w]) fun z d=>z=.val .non/\d=au (bJ h w) by obtain⟨z,d,h1,rfl,rfl⟩:=q;exact h1
 unfold CC;refine T3 ?_ rfl rfl;refine SM (SY (O_ rfl (Sk (bP ?_))));refine SQ (stG lbP) _ _ w _ _ _ _ _ (fun p q ρ=>∃c2 c3,ρ=[.ow (au (bJ h p)),.sh (rwG lbP w),c2,c3]) ⟨_,_,rfl⟩ ?_ ?_
 ·rintro p s q ρ e ⟨c2,c3,rfl⟩;refine Dm.bZ rfl (by trivial) ?_;have kp:Hok r (bJ h p):=k.CO fun u hu=>hw u (by rw[e];exact PK _ hu);have len:=kp.len;unfold HU;refine Sv (Si (P_ (O_ rfl (Sg rfl (TZ (i:=s.1 / 20) (j:=s.1 % 20) ?_ rfl rfl)))));refine Sf ?_;rw[f6,QS,ki];refine SX (fun hm=>?_) fun hm=>?_
  ·obtain⟨x,hx⟩:∃x,hdF (bJ h p) s.1=some x:=Q6.mp (by rw[ki];exact decide_eq_true hm);refine Tt (UC (p:=s.1 / 20) (q:=s.1 % 20) (d:=.int x) (by rw[f6,hx];rfl) ?_ rfl rfl rfl);refine⟨.sh (lbP s.1),.sh (.int s.2),?_⟩;rw[g_,lG,if_pos hm,(l6 _ _).1,(l6 _ _).2];rfl
  ·refine Ul (O_ rfl (Sk (nE rfl (O_ rfl (nG (p:=s.1 / 20) (q:=s.1 % 20) ?_ rfl rfl (by trivial) ?_)))))
   ·refine⟨.sh (lbP s.1),.sh (.int s.2),?_⟩;rw[g_,lG,if_neg hm];obtain⟨p1,p2⟩:=uw (ks:=hkP (bJ h p)) (vs:=hv (bJ h p)) (p:=pr s.1) (d:=.int s.2) (fun z=>hm (rZ.mp z));unfold pr at p1 p2;rw[p1,p2];unfold au hkP hv;rw[Pf,Pf];rfl
   ·unfold hkP;rw[gV];unfold SZ;lia
 ·rintro ρ ⟨c2,c3,rfl⟩;exact⟨_,rfl,rfl,rfl⟩
noncomputable def aK(r:List Int)(p:Int):List Step:=(r.filter fun c=>decide (Fd.src c=p)).map fun c=>(c,Fd.dst c)
theorem f7:s∈aK r p↔s.1∈r/\Fd.src s.1=p/\Fd.dst s.1=s.2:=by
 unfold aK;rw[Pc];constructor
 ·rintro⟨c,hc,rfl⟩;obtain⟨h1,h2⟩:=PJ.mp hc;exact⟨h1,of_decide_eq_true h2,rfl⟩
 ·rintro⟨h1,h2,h3⟩;exact⟨s.1,PJ.mpr ⟨h1,decide_eq_true h2⟩,by rw[h3]⟩
theorem jn(r:List Int)(p:Int):(aK r p).length<=r.length:=by unfold aK;rw[gV];exact Qn _ _
def Dr(n:Nat)(r:List Int):Prop:=∀c∈r,0<=Fd.src c/\Fd.src c<n/\0<=Fd.dst c/\Fd.dst c<n
theorem uF(hp:Dr n r)(h:Fd.qo r x s):(0<=x/\x<n)/\0<=s.2/\s.2<n:=by
 obtain⟨hs,he⟩:=h;have:=hp s.1 hs
 lia
theorem xg{R:Int->Step->Prop}(hR:∀p s,R p s->Fd.qo r p s):∀{w:List Step} {x:Int},Way R x w y->∀s∈w,s.1∈r
 |[],_,_,s,hs=>by cases hs
 |u::w,x,h,s,hs=>by
  rcases Pk.mp hs with rfl | hs
  ·exact(hR _ _ h.1).1
  ·exact xg hR h.2 s hs
theorem r8:InR (uE h (aK r)) p s↔Fd.Led r (hdF h) p s:=by
 unfold InR uE Fd.Led;rw[PJ,f7,decide_eq_true_iff];constructor
 ·rintro⟨⟨h1,h2,h3⟩,h4⟩;exact⟨h1,h4,h2,h3⟩
 ·rintro⟨h1,h4,h2,h3⟩;exact⟨⟨h1,h2,h3⟩,h4⟩
theorem uG(c:Int):aM (lbP c)=true:=by unfold lbP aM;exact iC _ (by intro x hx;simp at hx;rcases hx with rfl | rfl<;>exact iE _)
theorem Ag(w:List Step):aM (rwG lbP w)=true:=iD _ _ fun s=>by unfold stG aM;exact iC _ (by intro x hx;simp at hx;rcases hx with rfl | rfl;exact uG _;exact iE _)
theorem f9(n:Nat)(R:Int->List Step):aM (rsG lbP n R)=true:=iD (fun i:Nat=>rwG lbP (R i)) _ fun i=>Ag _
noncomputable def mso(w:List Step):List Int:=w.map (·.1)
noncomputable def msD(w:List Step):Dat:=.lst ((mso w).map lbP)
noncomputable def cG(h:List (Int×Int)):List Int->List (Int×Int)
 |[]=>h
 |m::ms=>cG (h.filter fun e=>decide (e.1≠m)) ms
theorem lH:∀(ms:List Int) (h:List (Int×Int)) (m:Int),cG h (ms++[m])=(cG h ms).filter fun e=>decide (e.1≠m)
 |[],_,_=>rfl
 |_::ms,h,m=>by rw[QY,cG,cG,lH ms]
theorem iF:∀(w:List Step) (h:List (Int×Int)),hdF (cG h (mso w))=fM (hdF h) w
 |[],_=>rfl
 |s::w,h=>by show hdF (cG _ (mso w))=fM _ w;rw[iF w,nQ]
theorem lI:∀(ms:List Int) (h:List (Int×Int)) (x:Int),x∉ms->hdF (cG h ms) x=hdF h x
 |[],_,_,_=>rfl
 |m::ms,h,x,hx=>by rw[cG,lI ms _ x fun z=>hx (Dk _ z),nQ];unfold put;rw[if_neg fun z=>hx (by rw[z];exact O9)]
theorem Hok.drops:∀{ms:List Int} {h:List (Int×Int)},Hok r h->Hok r (cG h ms)
 |[],_,k=>k
 |m::ms,h,k=>by rw[cG];exact Hok.drops (ms:=ms) (k.drop m)
theorem xh{H:Hd}:∀{w:List Step} {x:Int},Way (Fd.Led r H) x w y->∀s∈w,H s.1=some s.2
 |[],_,_,s,hs=>by cases hs
 |u::w,x,h,s,hs=>by
  rcases Pk.mp hs with rfl | hs
  ·exact h.1.2.1
  ·exact xh h.2 s hs
structure uH(r:List Int)(H:Hd)(a b:Int)(ws:List (List Step)):Prop where
 way:∀w∈ws,w_ (Fd.Led r H) a w b
 nd:(ws.map mso).flatten.Nodup
theorem uI:∀{w:List Step} {H:Hd} {c x:Int},fM H w c=some x->H c=some x
 |[],_,_,_,h=>h
 |s::w,H,c,x,h=>by
  have:=uI (w:=w) h;unfold put at this;split at this
  ·cases this
  ·exact this
noncomputable def Ah(n:Nat)(r:List Int)(h0 h:List (Int×Int))(a b:Int)(c:Nat)(ws:List (List Step))(c7 c8 c9:Cell):Env:=
 [.sh (rsG lbP n (aK r)),.sh (au h0),.sh (.int a),.sh (.int b),.sh (.int c),.ow (au h),.ow (.lst (ws.map msD)),c7,c8,c9]
theorem Ai(n:Nat)(hn:n<=20)(r:List Int)(hp:Dr n r)(nd:r.Nodup)(hl:r.length<=1000)(h:List (Int×Int))(k:Hok r h)(a b:Int)(a0:0<=a)(a1:a<n)(c:Nat)(hc:c<=1000)(fl:Fd.Flow r (hdF h) a b c) :
  ∃ws:List (List Step),ux [rsG lbP n (aK r),au h,.int a,.int b,.int c]=some (.new (.lst (ws.map msD)))/\ws.length=c/\uH r (hdF h) a b ws:=by
 suffices q:Wr (ux [rsG lbP n (aK r),au h,.int a,.int b,.int c]) fun v=>∃ws:List (List Step),v=.new (.lst (ws.map msD))/\ws.length=c/\uH r (hdF h) a b ws by obtain⟨v,h1,ws,rfl,h2⟩:=q;exact⟨ws,h1,h2⟩
 have hsm:gW (hkP h)=true:=by
  unfold gW hkP;rw[RS];refine Qe.mpr fun e he=>?_;have:=hp e.1 (k.sub e.1 (Pc.mpr ⟨e,he,rfl⟩));unfold Fd.src Fd.dst at this;show decide (0<=e.1 / 20/\e.1 / 20<20/\0<=e.1 % 20/\e.1 % 20<20)=true;rw[decide_eq_true_iff]
  lia
 unfold ux
 (refine Dm.Sy ?_ rfl rfl;and_intros)
 refine R_ (Sj (Sw (m_ (O_ rfl (Q_ (Vg (ks:=hkP h) (vs:=hv h) ?_ rfl hsm))))) (by decide));refine Sm ?_ (by trivial);refine R_ (Sj (SK (Q_ (So ?_ rfl rfl (by decide)))) (by decide));refine Sm ?_ (by trivial);refine R_ (SM (Ti (O_ rfl (bY.mk ⟨?_,by unfold BIG;lia,by unfold BIG;lia⟩))));refine SQ (fun i:Nat=>Dat.int (0+(i:Nat))) _ _ (PM c) _ _ _ _ _ (fun p q ρ=>∃(h':List (Int×Int)) (ws:List (List Step)) (c7 c8 c9:Cell),ρ=Ah n r h h' a b c ws c7 c8 c9/\Hok r h'/\ws.length=p.length/\Fd.Flow r (hdF h') a b q.length/\uH r (hdF h) a b ws/\(∀m∈(ws.map mso).flatten,hdF h' m=none)/\∀c x,hdF h' c=some x->hdF h c=some x)
  ⟨h,[],_,_,_,rfl,k,rfl,by rw[Qp];exact fl,⟨by simp,by simp⟩,by simp,fun _ _ z=>z⟩ ?_ ?_
 ·rintro p x q ρ e ⟨h',ws,c7,c8,c9,rfl,k',wl,fl',W,hno,hle⟩;rw[PL]at fl';unfold Ah;refine Dm.bZ rfl (by trivial) ?_;unfold HW;have hR:∀i:Nat,i<n->(aK r i).length<=1000:=fun i _=>P0 (jn r i) hl;obtain⟨s,es,F,hd⟩:=nM lbP n (by lia) (uE h' (aK r)) (fun i _ _ u hu=>(uF hp ((r8 (h:=h')).mp hu).along).2) a a0 a1;have hb:b∈sk s:=by
   have:=fl'.reach (S:=fun y=>decide (y∈sk s)) (decide_eq_true F.st) fun y u hy hu=>decide_eq_true (hd y (of_decide_eq_true hy) u (r8.mpr hu));exact of_decide_eq_true this
  obtain⟨w,t1,t2⟩:∃w,(b,w)∈s/\cO (sk s) (svG lbP s) b=some (rwG lbP w):=by
   rcases rX lbP s b with h | h
   ·exact h
   ·exact absurd hb h.1
  obtain⟨⟨w1,w2⟩,_⟩:=F.way _ t1;have g8:=F.g8 t1;have O7:=F.len;dsimp only at w1 w2 g8;have w1':Way (Fd.Led r (hdF h')) a w b:=w1.mono fun _ _ z=>r8.mp z;have wm:=Fd.jh (fun p s h=>h.along) w1' w2;have Ku:iS (e2 gDx (eF kQ [(fW CB [(eV 0),(eV 5)]),(eV 2)]) (eV 3)) [.sh (rsG lbP n (aK r)),.sh (au h),.sh (.int a),.sh (.int b),.sh (.int c),.ow (au h'),.ow (.lst (ws.map msD)),.sh (.int (0+(x:Nat))),c8,c9]
    = some (w.map (stG lbP),[.sh (rsG lbP n (aK r)),.sh (au h),.sh (.int a),.sh (.int b),.sh (.int c),.ow (au h'),.ow (.lst (ws.map msD)),.sh (.int (0+(x:Nat))),c8,c9]):=by
   apply S4;refine SY (P_ (SD (m_ (Th (m_ (O_ rfl (m_ (Sg rfl (Q_ ?_)))))))));refine⟨_,_,_,rfl,rY n (by lia) (aK r) hR h',f9 _ _,?_⟩;refine m_ (O_ rfl (Q_ (S3 es ?_ rfl rfl rfl rfl)));refine O_ rfl (Ub t2 ?_ rfl rfl);exact Sk (bP ⟨rfl,rfl⟩)
  refine R_ (Sj (Uc (stG lbP) w (fun s=>s.1) lbP ?_ Ku rfl (by decide) (by unfold SZ;lia) fun s _=>P_ (O_ rfl (Se (Sh (Sk ⟨rfl,rfl⟩) rfl rfl rfl)))) (by decide));refine Sm ?_ (by trivial);refine R_ (SM (SY (Sg rfl (TV (bP ?_) rfl (by trivial)))));refine SQ lbP _ _ (mso w) _ _ _ _ _ (fun pm qm ρ=>∃c9,ρ=Ah n r h (cG h' pm) a b c ws (.sh (.int (0+(x:Nat)))) (.sh (msD w)) c9) ⟨_,rfl⟩ ?_ ?_
  ·rintro pm m qm ρ em ⟨c9,rfl⟩;unfold Ah;refine Dm.bZ rfl (by trivial) ?_;unfold HV;have hm:m∉pm:=by
    have:(mso w).Nodup:=wm;rw[em]at this;exact fun z=>(P9.mp this).2.2 m z m O9 rfl
   have hmw:m∈mso w:=by rw[em];simp
   obtain⟨st,hst,rfl⟩:=Pc.mp hmw;have hx:hdF (cG h' pm) st.1=some st.2:=by rw[lI pm h' st.1 hm];exact xh w1' st hst
   refine Tt (UC (p:=st.1 / 20) (q:=st.1 % 20) (d:=.int st.2) (by rw[f6,hx];rfl) ?_ rfl rfl rfl);refine⟨.sh (lbP st.1),?_⟩;rw[lH,(l6 _ _).1,(l6 _ _).2];rfl
  ·rintro ρ ⟨c9,rfl⟩;unfold Ah;refine S_ (O_ rfl (Sk (kN ?_ rfl (by trivial) ?_))) rfl
   ·have fl2:=fl'.less nd w1' w2;rw[<- iF]at fl2;refine⟨cG h' (mso w),ws++[w],.sh (.int (0+(x:Nat))),.sh (msD w),c9,?_,k'.drops,by simp[wl],fl2,⟨fun v hv=>?_,?_⟩,fun m hm=>?_,fun c x z=>hle c x (uI (by rw[<- iF];exact z))⟩
    ·rw[Pf];rfl
    ·rcases Pp.mp hv with hv | hv
     ·exact W.way v hv
     ·rw[Pn.mp hv];exact⟨w1'.mono fun _ _ z=>⟨z.1,hle _ _ z.2.1,z.2.2⟩,w2⟩
    ·rw[Pf,Rn];refine P9.mpr ⟨W.nd,by rw[eg,Rj,Qo,List.flatten_nil,PY];exact wm,fun m hm z hz=>?_⟩;intro e;subst e;have:m∈mso w:=by simpa using hz
     obtain⟨st,hst,rfl⟩:=Pc.mp this;have h1:=xh w1' st hst;rw[hno _ hm]at h1;cases h1
    ·rw[Pf,Rn]at hm;rw[iF];rcases Pp.mp hm with hm | hm
     ·by_cases z:m∈mso w
      ·exact jf z
      ·rw[gY fun u hu e=>z (Pc.mpr ⟨u,hu,e⟩)];exact hno m hm
     ·rw[eg,Rj,Qo,List.flatten_nil,PY]at hm;exact jf hm
   ·rw[gV,wl];have:=congrArg List.length e;rw[Qp,Pd]at this;unfold SZ;lia
 ·rintro ρ ⟨h',ws,c7,c8,c9,rfl,k',wl,fl',W,hno,hle⟩;unfold Ah;refine Sz (Sg rfl (S0 ?_ rfl));exact⟨ws,rfl,by rw[wl,Qp],W⟩
noncomputable def aX(t:Tie):Dat:=.tup [.int t.m,.int t.a,.int t.b]
noncomputable def aC(r:List Tie):Dat:=.lst (r.map aX)
def Pl(n:Nat)(r:List Tie):Prop:=∀t∈r,0<=t.a/\t.a<n/\0<=t.b/\t.b<n
theorem F7{ρ ρ1 ρ2 ρ3:Env}{rows:List (List Dat)}{m:Nat}{row:List Dat}{x:Val}(h1:i ρ=some (.val (.int k),ρ1))(h2:ixN rows.length k=some m)(h3:rows[m]?=some row)(h4:e ρ1=some (x,ρ2))(h5:tk ρ2 x=some (d,ρ3))(h6:row.length<SZ) :
  rH i e ρ rows=some (ρ3,rows.set m (row++[d])):=by
 unfold rH;rw[h1];dsimp only;rw[h2];dsimp only;rw[h3];dsimp only;rw[h4];dsimp only;rw[h5];dsimp only;rw[if_pos h6]
theorem Ky(h0:0<=k)(h1:k<n):ixN n k=some k.toNat:=by unfold ixN;rw[if_pos h0,if_pos h1]
theorem xj(pre:Env)(k:Nat)(hk:pre.length=k)(h0:k≠0):∀(ds:List Dat) (c:Cell),∃c',nMk (bN k) ds (pre++[c])=some (pre++[c'])
 |[],c=>⟨c,rfl⟩
 |d::ds,c=>by
  obtain⟨c',e⟩:=xj pre k hk h0 ds (.sh d);refine⟨c',?_⟩;rw[nMk];have:bN k d (pre++[c])=some (pre++[.sh d]):=by unfold bN;rw[if_neg h0,Rk _ _ (by lia)];simp[hk]
  rw[this];exact e
noncomputable def bx(n:Nat)(R:Int->List Step):List (List Dat):=(PM n).map fun i:Nat=>(R i).map (stG lbP)
noncomputable def r9(R:Int->List Step)(k:Int)(s:Step):Int->List Step:=fun x=>if x=k then R x++[s] else R x
theorem iG(n:Nat)(R:Int->List Step):(bx n R).length=n:=by simp[bx]
theorem kR(n:Nat)(R:Int->List Step)(i:Nat)(h:i<n):(bx n R)[i]?=some ((R i).map (stG lbP)):=by unfold bx;rw[PD,QV h];rfl
theorem Aj(n:Nat)(R:Int->List Step)(k:Int)(s:Step)(h0:0<=k)(h1:k<n):(bx n R).set k.toNat ((R k).map (stG lbP)++[stG lbP s])=bx n (r9 R k s):=by
 apply Q2;intro i;by_cases hi:i<n
 ·rw[kR _ _ _ hi];unfold r9;by_cases e:k.toNat=i
  ·have e':(i:Int)=k:=by lia
   rw[<- e,PB (by rw[iG];lia),e,if_pos e',e',Pf];rfl
  ·rw[gc e,kR _ _ _ hi,if_neg (by lia)]
 ·rw[PZ (by rw[PR,iG];lia),PZ (by rw[iG];lia)]
theorem qv(n:Nat):bx n (fun _=>[])=Ds n []:=by
 unfold bx;apply Q2;intro i;by_cases hi:i<n
 ·rw[PD,QV hi,Qg,if_pos hi];rfl
 ·rw[PZ (by simp;lia),PZ (by simp;lia)]
theorem uJ(n:Nat)(R:Int->List Step):Dat.lst ((bx n R).map Dat.lst)=rsG lbP n R:=by unfold bx rsG;rw[Pr];rfl
theorem r_(n:Nat)(R:Int->List Step)(k:Int)(s:Step)(h0:0<=k)(h1:k<n)(hl:(R k).length<10000){ρ:Env}(hi:i ρ=some (.val (.int k),ρ))(he:e ρ=some (.val (stG lbP s),ρ)):rH i e ρ (bx n R)=some (ρ,bx n (r9 R k s)):=by
 have hz:SZ=100000:=rfl;have ek:((k.toNat:Nat):Int)=k:=by lia
 rw[F7 (k:=k) (m:=k.toNat) (row:=(R k).map (stG lbP)) (d:=stG lbP s) (ρ3:=ρ) hi (by rw[iG];exact Ky h0 h1) (by rw[kR _ _ _ (by lia),ek]) he rfl (by rw[gV];lia),Aj n R k s h0 h1]
theorem uK(p:List Int)(c:Int):r9 (aK p) (Fd.src c) (c,Fd.dst c)=aK (p++[c]):=by
 funext x
 unfold r9 aK;rw[List.filter_append,Pf];by_cases e:x=Fd.src c
 ·rw[if_pos e,Qa (by simp[e])];rfl
 ·rw[if_neg e,P7 (by simp;exact fun z=>e z.symm)];simp
theorem uL(n:Nat)(c0 c1 c2 c3:Cell):∀(q p:List Int) (c4:Cell),Dr n q->p.length+q.length<=1000 ->
  ∃c4',dB (bN 4) fY (q.map lbP) [c0,c1,c2,c3,c4] (bx n (aK p))=some ([c0,c1,c2,c3,c4'],bx n (aK (p++q)))
 |[],p,c4,_,_=>⟨c4,by rw[PY];rfl⟩
 |c::q,p,c4,hp,hl=>by
  obtain⟨a0,a1,_,_⟩:=hp c O9;rw[PL]at hl;obtain⟨c4',e⟩:=uL n c0 c1 c2 c3 q (p++[c]) (.sh (lbP c)) (fun u hu=>hp u (Dk _ hu)) (by rw[Pd,QC];lia);refine⟨c4',?_⟩;rw[eg,dB];have sl:=jn p (Fd.src c);have h1:fY [c0,c1,c2,c3,.sh (lbP c)] (bx n (aK p))=some ([c0,c1,c2,c3,.sh (lbP c)],bx n (aK (p++[c]))):=by unfold fY;rw[r_ n (aK p) (Fd.src c) (c,Fd.dst c) a0 a1 (by lia) rfl rfl,uK]
  show (match fY [c0,c1,c2,c3,.sh (lbP c)] (bx n (aK p)) with | none=>none | some (ρ2,r2)=>dB (bN 4) fY (q.map lbP) ρ2 r2)=_;rw[h1];dsimp only;rw[e,QB];rfl
noncomputable def thr(n:Nat):List Int:=(PM n).map fun p:Nat=>20*(p:Int)+((n:Int)+p)
theorem F8(n:Nat)(hn:n<=10):(thr n).map lbP=(PM n).map fun p:Nat=>Dat.tup [.int (p:Int),.int ((n:Int)+p)]:=by unfold thr;rw[Pr];refine Qm fun p hp=>?_;have:=Qh.mp hp;show lbP _=_;unfold lbP;rw[show (20*(p:Int)+((n:Int)+p)) / 20=(p:Int) by lia,show (20*(p:Int)+((n:Int)+p)) % 20=(n:Int)+p by lia]
theorem qw(K:List (Int×Int)):(hkP K).map pairD=(hk K).map lbP:=by unfold hkP hk;rw[Pr,Pr];rfl
theorem U0{s:FS}{ρ ρ':Env}(h:Ws s ρ (fun x=>x=ρ') (fun _ _=>False) (fun _=>False) (fun _=>False)):s ρ=some (.nx ρ'):=by
 obtain⟨o,e,h⟩:=h;cases o with
 |nx ρ1=>rw[e,show ρ1=ρ' from h]
 |_=>exact h.elim
theorem CP(n:Nat):ups 0 n=(PM n).map fun i:Nat=>Dat.int (i:Int):=by unfold ups;exact Qm fun i _=>by rw[Int.zero_add]
theorem CQ(n:Nat)(n10:n<=10)(K:List (Int×Int))(hK:Dr (2*n) (hk K))(hl:K.length<=900) :
  qp [.int n,au K]=some (.new (rsG lbP (2*n) (aK (hk K++thr n)))):=by
 have hz:SZ=100000:=rfl;have tl:(thr n).length=n:=by simp[thr]
 have kl:(hk K).length=K.length:=by simp[hk]
 have hT:Dr (2*n) (thr n):=fun c hc=>by
  obtain⟨p,hp,rfl⟩:=Pc.mp hc;have:=Qh.mp hp;unfold Fd.src Fd.dst
  lia
 obtain⟨c4,e⟩:=uL (2*n) (.sh (.int n)) (.sh (au K)) .un (.ow (.lst ((thr n).map lbP))) (hk K++thr n) [] .un (fun c hc=>(Pp.mp hc).elim (hK c) (hT c)) (by rw[Pd];simp;lia);obtain⟨c',eM⟩:=xj [.sh (.int n),.sh (au K),.un,.un,.un] 5 rfl (by decide) (ups 0 (2*n)) .un;have hu:(ups 0 (2*n)).length=2*n:=by simp[ups]
 have e1:iR1 (e2 gE (eC (.int 2)) (eV 0)) [.sh (.int n),.sh (au K),.un,.un,.un]=some (ups 0 (2*n),[.sh (.int n),.sh (au K),.un,.un,.un]):=by apply S4;refine Ti (P_ (Se (O_ rfl (Tp (bY.mk ⟨⟨?_,rfl⟩,by unfold BIG;lia⟩) rfl rfl (.inl (by unfold B64;lia))))));rw[show ((2:Int)*(n:Int)).toNat=2*n by lia]
 have eS:aK []=fun _=>[]:=by funext x;rfl
 rw[eS,qv,Rf]at e;have eA:sA 3 (cC (iR1 (eV 0)) 1 (bN 5) bO (eE [(eV 5),(e2 aV (eV 0) (eV 5))])) [.sh (.int n),.sh (au K),.un,.un,.un]=some (.nx [.sh (.int n),.sh (au K),.un,.ow (.lst ((thr n).map lbP)),.un]):=by
  apply U0;refine Sj (Uc (fun i:Nat=>Dat.int (i:Int)) (PM n) (fun p:Nat=>Dat.tup [.int (p:Int),.int ((n:Int)+p)]) id ?_ (S4 (Ti (O_ rfl (bY.mk ⟨⟨?_,rfl⟩,by unfold BIG;lia⟩)))) rfl (by decide) (by rw[Qp];lia) fun p _=>?_) (by decide)
  ·rw[Qx,<- F8 n n10];exact Sm rfl (by trivial)
  ·rw[RM,CP]
  ·exact Td (m_ (O_ rfl (m_ (P_ (O_ rfl (O_ rfl (Sq (Q_ (So (Sk ⟨rfl,rfl⟩) rfl rfl (by exact Pw rfl))) rfl rfl)))))))
 have eL:iS (e2 aV (eB fy [(eV 1)]) (eV 3)) [.sh (.int n),.sh (au K),.un,.ow (.lst ((thr n).map lbP)),.un]=some ((hk K++thr n).map lbP,[.sh (.int n),.sh (au K),.un,.ow (.lst ((thr n).map lbP)),.un]):=by
  apply S4;refine SY (P_ (Sw (m_ (O_ rfl (Q_ (U9 (ks:=hkP K) (vs:=hv K) (Sg rfl (Tv ?_ rfl rfl ?_)) rfl ?_))))))
  ·rw[qw,<- Pf];exact S8 (bP ⟨rfl,rfl⟩)
  ·rw[qw,gV,gV];lia
  ·unfold hkP;rw[gV];lia
 have en:gi 2 (iR1 (e2 gE (eC (.int 2)) (eV 0))) 1 (bN 5) (tW (nA 2 3 (cC (iR1 (eV 0)) 1 (bN 5) bO (eE [(eV 5),(e2 aV (eV 0) (eV 5))]))) (j8 (iS (e2 aV (eB fy [(eV 1)]) (eV 3))) (bN 4) fY)) [.sh (.int n),.sh (au K),.un,.un,.un]=some (.nx [.sh (.int n),.sh (au K),.ow (rsG lbP (2*n) (aK (hk K++thr n))),.ow (.lst ((thr n).map lbP)),c4]):=by
  unfold gi;rw[if_neg (by decide),e1];dsimp only;rw[if_pos (by rw[hu];lia)];show (match nMk (bN 5) (ups 0 (2*n)) ([.sh (.int n),.sh (au K),.un,.un,.un]++[.un]) with | none=>none | some ρ2=>_)=_;rw[eM];dsimp only;rw[hu];have:tW (nA 2 3 (cC (iR1 (eV 0)) 1 (bN 5) bO (eE [(eV 5),(e2 aV (eV 0) (eV 5))]))) (j8 (iS (e2 aV (eB fy [(eV 1)]) (eV 3))) (bN 4) fY) [.sh (.int n),.sh (au K),.un,.un,.un] (Ds (2*n) [])=some ([.sh (.int n),.sh (au K),.un,.ow (.lst ((thr n).map lbP)),c4],bx (2*n) (aK (hk K++thr n))):=by unfold tW nA;rw[if_neg (by decide),eA];dsimp only;unfold j8;rw[eL];exact e
  show (match tW (nA 2 3 (cC (iR1 (eV 0)) 1 (bN 5) bO (eE [(eV 5),(e2 aV (eV 0) (eV 5))]))) (j8 (iS (e2 aV (eB fy [(eV 1)]) (eV 3))) (bN 4) fY) [.sh (.int n),.sh (au K),.un,.un,.un] (Ds (2*n) []) with | none=>none | some (ρ3,r3)=>_)=_;rw[this];show some (Out.nx [.sh (.int n),.sh (au K),.ow (.lst ((bx (2*n) (aK (hk K++thr n))).map Dat.lst)),.ow (.lst ((thr n).map lbP)),c4])=_;rw[uJ]
 apply SG;unfold qp
 (refine Dm.Sy ?_ rfl rfl;and_intros)
 refine R_ ⟨_,en,?_⟩;refine Sz (Sg rfl (S0 ?_ rfl));rfl
noncomputable def putL(h:List (Int×Int))(c m:Int):List (Int×Int):=if c∈hk h then h.map fun e=>if e.1=c then (e.1,m) else e else h++[(c,m)]
theorem uM(h:List (Int×Int))(c m:Int):qg (hkP h) (hv h) (c / 20,c % 20) (.int m)=hv (h.map fun e=>if e.1=c then (e.1,m) else e)/\hkP (h.map fun e=>if e.1=c then (e.1,m) else e)=hkP h:=by
 unfold hkP hv
 induction h with
 |nil=>exact⟨rfl,rfl⟩
 |cons e h ih=>
  rw[eg,eg,eg,eg,eg,qg,ih.1,ih.2];by_cases q:e.1=c
  ·rw[if_pos (by rw[q];rfl),if_pos q];exact⟨rfl,rfl⟩
  ·rw[if_neg (fun z:pr e.1=(c / 20,c % 20)=>q (nN z)),if_neg q];exact⟨rfl,rfl⟩
theorem CS(h:List (Int×Int))(c m:Int):Dat.dcp (dm (hkP h) (c / 20,c % 20)) (fu (hkP h) (hv h) (c / 20,c % 20) (.int m))=au (putL h c m):=by
 by_cases q:c∈hk h
 ·have hp:nk (hkP h) (c / 20,c % 20)=true:=by
   unfold nk;rw[List.any_eq_true];exact⟨pr c,rZ.mpr q,decide_eq_true rfl⟩
  unfold dm fu putL au;rw[hp,if_pos rfl,if_pos rfl,if_pos q,(uM h c m).1,(uM h c m).2]
 ·obtain⟨p1,p2⟩:=uw (ks:=hkP h) (vs:=hv h) (p:=pr c) (d:=.int m) (fun z=>q (rZ.mp z));unfold pr at p1 p2;rw[p1,p2];unfold putL au;rw[if_neg q];unfold hkP hv;rw[Pf,Pf];rfl
theorem uN{c m x:Int}:x∈hk (putL h c m)↔x∈hk h\/x=c:=by
 unfold putL;by_cases q:c∈hk h
 ·rw[if_pos q];have:hk (h.map fun e=>if e.1=c then (e.1,m) else e)=hk h:=by
   unfold hk;rw[Pr];refine Qm fun e _=>?_;show (if e.1=c then (e.1,m) else e).1=e.1;split<;>rfl
  rw[this];exact⟨.inl,fun z=>z.elim id fun e=>e▸q⟩
 ·rw[if_neg q];unfold hk;rw[Pf,Pp];simp
theorem nR{c m:Int}(nd:(hk h).Nodup):(hk (putL h c m)).Nodup:=by
 unfold putL;by_cases q:c∈hk h
 ·rw[if_pos q];have:hk (h.map fun e=>if e.1=c then (e.1,m) else e)=hk h:=by
   unfold hk;rw[Pr];refine Qm fun e _=>?_;show (if e.1=c then (e.1,m) else e).1=e.1;split<;>rfl
  rw[this];exact nd
 ·rw[if_neg q];unfold hk;rw[Pf];exact P9.mpr ⟨nd,by simp,fun x hx y hy=>by
   have:y=c:=by simpa using hy
   rw[this];exact fun e=>q (e▸hx)⟩
theorem nS(h:List (Int×Int))(c m:Int):(putL h c m).length<=h.length+1:=by
 unfold putL;split
 ·rw[gV];lia
 ·simp
noncomputable def cd(n:Nat)(u v:Int):Int:=20*((n:Int)+u)+v
noncomputable def CT(n:Nat)(h:List (Int×Int))(t:Tie):List (Int×Int):=if t.a=t.b then h else putL (putL h (cd n t.a t.b) t.m) (cd n t.b t.a) t.m
noncomputable def aS(n:Nat)(r:List Tie):List (Int×Int):=r.foldl (CT n) []
theorem kT(n:Nat)(r:List Tie)(t:Tie):aS n (r++[t])=CT n (aS n r) t:=by unfold aS;rw[List.foldl_append];rfl
structure Mom(n:Nat)(r:List Tie)(h:List (Int×Int)):Prop where
 nd:(hk h).Nodup
 mem:∀c,c∈hk h↔∃t∈r,t.a≠t.b/\(c=cd n t.a t.b\/c=cd n t.b t.a)
 len:h.length<=2*r.length
theorem nU(n:Nat)(r:List Tie):Mom n r (aS n r):=by
 suffices h:∀q p:List Tie,Mom n p (aS n p)->Mom n (p++q) (aS n (p++q)) from h r [] ⟨by simp[aS,hk],by simp[aS,hk],by simp[aS]⟩
 intro q
 induction q with
 |nil=>intro p h;rw[PY];exact h
 |cons t q ih=>
  intro p h;rw[show p++t::q=(p++[t])++q by simp];refine ih _ ?_;rw[kT];unfold CT;by_cases e:t.a=t.b
  ·rw[if_pos e];refine⟨h.nd,fun c=>(h.mem c).trans ⟨fun⟨u,hu,k⟩=>⟨u,PK _ hu,k⟩,?_⟩,by have:=h.len;rw[Pd];simp;lia⟩;rintro⟨u,hu,k1,k2⟩;rcases Pp.mp hu with hu | hu
   ·exact⟨u,hu,k1,k2⟩
   ·rw[Pn.mp hu]at k1;exact(k1 e).elim
  ·rw[if_neg e];refine⟨nR (nR h.nd),fun c=>?_,?_⟩
   ·rw[uN,uN,h.mem c];constructor
    ·rintro((⟨u,hu,k⟩ | k) | k)
     ·exact⟨u,PK _ hu,k⟩
     ·exact⟨t,PF _ (Pn.mpr rfl),e,.inl k⟩
     ·exact⟨t,PF _ (Pn.mpr rfl),e,.inr k⟩
    ·rintro⟨u,hu,k1,k2⟩;rcases Pp.mp hu with hu | hu
     ·exact .inl (.inl ⟨u,hu,k1,k2⟩)
     ·rw[Pn.mp hu]at k2;exact k2.elim (fun z=>.inl (.inr z)) .inr
   ·have l1:=nS (putL (aS n p) (cd n t.a t.b) t.m) (cd n t.b t.a) t.m;have l2:=nS (aS n p) (cd n t.a t.b) t.m;have:=h.len;rw[Pd];simp
    lia
theorem d_{u v:Int}(h0:0<=v)(h1:v<20):cd n u v / 20=(n:Int)+u/\cd n u v % 20=v:=by
 unfold cd
 lia
theorem xm(n:Nat)(n10:n<=10)(r:List Tie)(hp:Pl n r)(hl:r.length<=400):Ae [.int n,aC r]=some (.new (au (aS n r))):=by
 have hz:SZ=100000:=rfl;apply SG;unfold Ae
 (refine Dm.Sy ?_ rfl rfl;and_intros)
 refine R_ (Sj (Ut (Sm ?_ (by trivial))) (by decide));refine R_ (SM (SY (O_ rfl (Sk (bP ?_)))));refine SQ aX _ _ r _ _ _ _ _ (fun p q ρ=>∃c3 c4 c5,ρ=[.sh (.int n),.sh (aC r),.ow (au (aS n p)),c3,c4,c5]) ⟨_,_,_,rfl⟩ ?_ ?_
 ·rintro p t q ρ e ⟨c3,c4,c5,rfl⟩;have ht:t∈r:=by rw[e];simp
  obtain⟨a0,a1,b0,b1⟩:=hp t ht;have ml:=(nU n p).len;have pl:p.length<=r.length:=by rw[e];simp
  refine Dm.bZ rfl (by trivial) ?_;unfold HX;rw[kT];unfold CT;refine Sv (Si (P_ (O_ rfl (O_ rfl (S6 (Sf ?_) rfl rfl)))));by_cases h:t.a=t.b
  ·rw[decide_eq_true h,if_pos h];refine Ss (Su ?_);exact⟨_,_,_,rfl⟩
  ·rw[decide_eq_false h,if_neg h];refine SN (R_ (Ul (O_ rfl (Sk (nE rfl ?_)))));have e1:=d_ (n:=n) (u:=t.a) (v:=t.b) b0 (by lia);have e2':=d_ (n:=n) (u:=t.b) (v:=t.a) a0 (by lia);have l2:=nS (aS n p) (cd n t.a t.b) t.m;refine Td (m_ (P_ (O_ rfl (O_ rfl (Sq (m_ (O_ rfl (Q_ (So ?_ rfl rfl (by exact Pw rfl))))) rfl rfl)))));refine nG (p:=(n:Int)+t.a) (q:=t.b) (ks:=hkP (aS n p)) (vs:=hv (aS n p)) ?_ rfl rfl rfl (by unfold hkP;rw[gV];lia);have k1:=CS (aS n p) (cd n t.a t.b) t.m;rw[e1.1,e1.2]at k1;rw[k1];refine Ul (O_ rfl (Sk (nE rfl ?_)));refine Td (m_ (P_ (O_ rfl (O_ rfl (Sq (m_ (O_ rfl (Q_ (So ?_ rfl rfl (by exact Pw rfl))))) rfl rfl)))));refine nG (p:=(n:Int)+t.b) (q:=t.a) (ks:=hkP (putL (aS n p) (cd n t.a t.b) t.m)) (vs:=hv (putL (aS n p) (cd n t.a t.b) t.m)) ?_ rfl rfl rfl (by unfold hkP;rw[gV];lia);have k2:=CS (putL (aS n p) (cd n t.a t.b) t.m) (cd n t.b t.a) t.m;rw[e2'.1,e2'.2]at k2;rw[k2];exact⟨_,_,_,rfl⟩
 ·rintro ρ ⟨c3,c4,c5,rfl⟩;exact Sz (Sg rfl (S0 rfl rfl))
noncomputable def freeOf(H:Hd)(q:List (Int×Step))(x:Int):List Step:=q.filterMap fun e=>if (H e.2.1).isSome=true then (if x=e.2.2 then some (e.2.1,e.1) else none) else if x=e.1 then some e.2 else none
theorem nV(H:Hd)(q:List (Int×Step))(x:Int):(freeOf H q x).length<=q.length:=List.length_filterMap_le _ _
theorem Ak(H:Hd)(q:List (Int×Step))(d:Int)(u:Step)(h:(H u.1).isSome=true):r9 (freeOf H q) u.2 (u.1,d)=freeOf H (q++[(d,u)]):=by
 funext x
 unfold r9 freeOf;rw[List.filterMap_append];by_cases e:x=u.2
 ·rw[if_pos e];simp[h,e]
 ·rw[if_neg e];simp[h,e]
theorem xo(H:Hd)(q:List (Int×Step))(d:Int)(u:Step)(h:¬(H u.1).isSome=true):r9 (freeOf H q) d u=freeOf H (q++[(d,u)]):=by
 funext x
 unfold r9 freeOf;rw[List.filterMap_append];by_cases e:x=d
 ·rw[if_pos e];simp[h,e]
 ·rw[if_neg e];simp[h,e]
theorem uO(n:Nat)(h:List (Int×Int))(c0 c2 c4:Cell)(d:Int)(d0:0<=d)(d1:d<n):∀(w:List Step) (Q:List (Int×Step)) (c5 c6:Cell),(∀u∈w,0<=u.2/\u.2<n)->Q.length+w.length<=9000 ->
  ∃c5' c6',dB (bT [5,6]) jm (w.map (stG lbP)) [c0,.sh (au h),c2,.sh (.int d),c4,c5,c6] (bx n (freeOf (hdF h) Q))=some ([c0,.sh (au h),c2,.sh (.int d),c4,c5',c6'],bx n (freeOf (hdF h) (Q++w.map fun u=>(d,u))))
 |[],Q,c5,c6,_,_=>⟨c5,c6,by simp;rfl⟩
 |u::w,Q,c5,c6,hw,hl=>by
  rw[PL]at hl;obtain⟨u0,u1⟩:=hw u O9;obtain⟨c5',c6',e⟩:=uO n h c0 c2 c4 d d0 d1 w (Q++[(d,u)]) (.sh (lbP u.1)) (.sh (.int u.2)) (fun v hv=>hw v (Dk _ hv)) (by rw[Pd,QC];lia);refine⟨c5',c6',?_⟩;rw[eg,dB];have fl1:=nV (hdF h) Q d;have fl2:=nV (hdF h) Q u.2;have ht:tV (e2 eX (eV 5) (eV 1)) [c0,.sh (au h),c2,.sh (.int d),c4,.sh (lbP u.1),.sh (.int u.2)]=some ((hdF h u.1).isSome,[c0,.sh (au h),c2,.sh (.int d),c4,.sh (lbP u.1),.sh (.int u.2)]):=by refine T5 (Si (P_ (O_ rfl (O_ rfl (TZ (i:=u.1 / 20) (j:=u.1 % 20) (Sf ?_) rfl rfl)))));rw[f6,QS];exact⟨rfl,rfl⟩
  have h1:jm [c0,.sh (au h),c2,.sh (.int d),c4,.sh (lbP u.1),.sh (.int u.2)] (bx n (freeOf (hdF h) Q))=some ([c0,.sh (au h),c2,.sh (.int d),c4,.sh (lbP u.1),.sh (.int u.2)],bx n (freeOf (hdF h) (Q++[(d,u)]))):=by
   unfold jm nIf;rw[ht];by_cases q:(hdF h u.1).isSome=true
   ·rw[q];dsimp only;rw[r_ n _ u.2 (u.1,d) u0 u1 (by lia) rfl rfl,Ak _ _ _ _ q]
   ·rw[Bool.eq_false_iff.mpr q];dsimp only;rw[r_ n _ d u d0 d1 (by lia) rfl rfl,xo _ _ _ _ q]
  show (match jm [c0,.sh (au h),c2,.sh (.int d),c4,.sh (lbP u.1),.sh (.int u.2)] (bx n (freeOf (hdF h) Q)) with | none=>none | some (ρ2,r2)=>dB (bT [5,6]) jm (w.map (stG lbP)) ρ2 r2)=_;rw[h1];dsimp only;rw[e,QB];rfl
noncomputable def prs(R:Int->List Step)(j k:Nat):List (Int×Step):=(RY j k).flatMap fun i:Nat=>(R i).map fun u=>((i:Int),u)
theorem uP(n:Nat)(h:List (Int×Int))(R:Int->List Step)(hR:∀i:Nat,i<n->∀u∈R i,0<=u.2/\u.2<n)(hL:∀i:Nat,(R i).length<=400)(c0 c2:Cell):∀(k j:Nat) (Q:List (Int×Step)) (c3 c4 c5 c6:Cell),j+k<=n->Q.length+400*k<=9000 ->
  ∃c3' c4' c5' c6',dB (bT [3,4]) fC (jZ j ((RY j k).map fun i:Nat=>rwG lbP (R i))) [c0,.sh (au h),c2,c3,c4,c5,c6] (bx n (freeOf (hdF h) Q))=some ([c0,.sh (au h),c2,c3',c4',c5',c6'],bx n (freeOf (hdF h) (Q++prs R j k)))
 |0,j,Q,c3,c4,c5,c6,_,_=>⟨c3,c4,c5,c6,by simp[prs];rfl⟩
 |k+1,j,Q,c3,c4,c5,c6,hj,hq=>by
  have l1:=hL j;obtain⟨c5',c6',e1⟩:=uO n h c0 c2 (.sh (rwG lbP (R j))) (j:Int) (by lia) (by lia) (R j) Q c5 c6 (hR j (by lia)) (by lia);obtain⟨c3',c4',d5,d6,e2⟩:=uP n h R hR hL c0 c2 k (j+1) (Q++(R j).map fun u=>((j:Int),u)) (.sh (.int (j:Int))) (.sh (rwG lbP (R j))) c5' c6' (by lia) (by rw[Pd,gV];lia);refine⟨c3',c4',d5,d6,?_⟩;rw[List.range'_succ,eg];show dB (bT [3,4]) fC (.tup [.int (j:Int),rwG lbP (R j)]::jZ (j+1) ((RY (j+1) k).map fun i:Nat=>rwG lbP (R i))) _ _=_;rw[dB];have h1:fC [c0,.sh (au h),c2,.sh (.int (j:Int)),.sh (rwG lbP (R j)),c5,c6] (bx n (freeOf (hdF h) Q))=some ([c0,.sh (au h),c2,.sh (.int (j:Int)),.sh (rwG lbP (R j)),c5',c6'],bx n (freeOf (hdF h) (Q++(R j).map fun u=>((j:Int),u)))):=by unfold fC j8;show (match some ((R j).map (stG lbP),_) with | none=>none | some (ds,ρ1)=>dB (bT [5,6]) jm ds ρ1 _)=_;exact e1
  show (match fC [c0,.sh (au h),c2,.sh (.int (j:Int)),.sh (rwG lbP (R j)),c5,c6] (bx n (freeOf (hdF h) Q)) with | none=>none | some (ρ2,r2)=>dB (bT [3,4]) fC (jZ (j+1) ((RY (j+1) k).map fun i:Nat=>rwG lbP (R i))) ρ2 r2)=_;rw[h1];dsimp only;rw[e2,QB];unfold prs;rw[List.range'_succ,List.flatMap_cons]
theorem pJ(n:Nat)(hn:n<=20)(h:List (Int×Int))(R:Int->List Step)(hR:∀i:Nat,i<n->∀u∈R i,0<=u.2/\u.2<n)(hL:∀i:Nat,(R i).length<=400):lE [rsG lbP n R,au h]=some (.new (rsG lbP n (freeOf (hdF h) (prs R 0 n)))):=by
 have hz:SZ=100000:=rfl;obtain⟨c3,c4,c5,c6,e⟩:=uP n h R hR hL (.sh (rsG lbP n R)) .un n 0 [] .un .un .un .un (by lia) (by simp;lia);obtain⟨c',eM⟩:=xj [.sh (rsG lbP n R),.sh (au h),.un,.un,.un,.un,.un] 7 rfl (by decide) ((PM n).map fun i:Nat=>rwG lbP (R i)) .un;have hu:((PM n).map fun i:Nat=>rwG lbP (R i)).length=n:=by simp
 have e0:freeOf (hdF h) []=fun _=>[]:=by funext x;rfl
 rw[e0,qv,Rf,<- List.range_eq_range']at e;have en:gi 2 (iS (eV 0)) 1 (bN 7) (j8 (iEn (eV 0)) (bT [3,4]) fC) [.sh (rsG lbP n R),.sh (au h),.un,.un,.un,.un,.un]=some (.nx [.sh (rsG lbP n R),.sh (au h),.ow (rsG lbP n (freeOf (hdF h) (prs R 0 n))),c3,c4,c5,c6]):=by unfold gi;rw[if_neg (by decide)];show (if ((PM n).map fun i:Nat=>rwG lbP (R i)).length<=SZ then (match nMk (bN 7) ((PM n).map fun i:Nat=>rwG lbP (R i)) ([.sh (rsG lbP n R),.sh (au h),.un,.un,.un,.un,.un]++[.un]) with | none=>none | some ρ2=>_) else none)=_;rw[if_pos (by rw[hu];lia),eM];dsimp only;rw[hu];have:j8 (iEn (eV 0)) (bT [3,4]) fC [.sh (rsG lbP n R),.sh (au h),.un,.un,.un,.un,.un] (Ds n [])=some ([.sh (rsG lbP n R),.sh (au h),.un,c3,c4,c5,c6],bx n (freeOf (hdF h) (prs R 0 n))):=e;show (match j8 (iEn (eV 0)) (bT [3,4]) fC [.sh (rsG lbP n R),.sh (au h),.un,.un,.un,.un,.un] (Ds n []) with | none=>none | some (ρ3,r3)=>_)=_;rw[this];show some (Out.nx [.sh (rsG lbP n R),.sh (au h),.ow (.lst ((bx n (freeOf (hdF h) (prs R 0 n))).map Dat.lst)),c3,c4,c5,c6])=_;rw[uJ]
 apply SG;unfold lE
 (refine Dm.Sy ?_ rfl rfl;and_intros)
 refine R_ ⟨_,en,?_⟩;refine Sz (Sg rfl (S0 ?_ rfl));rfl
theorem h_(hp:Dr n r){H:Hd}:InR (freeOf H (prs (aK r) 0 n)) p s↔Fd.bB r H p s:=by
 unfold InR freeOf Fd.bB;rw[RD];constructor
 ·rintro⟨⟨d,u⟩,hm,e⟩;unfold prs at hm;obtain⟨i,hi,hm⟩:=List.mem_flatMap.mp hm;obtain⟨v,hv,e1⟩:=Pc.mp hm;cases e1;obtain⟨h1,h2,h3⟩:=f7.mp hv;dsimp only at e;split at e
  ·rename_i q;split at e
   ·rename_i q2;cases e;exact⟨h1,.inr ⟨q,by rw[q2];exact h3,h2⟩⟩
   ·cases e
  ·rename_i q;split at e
   ·rename_i q2;cases e;exact⟨h1,.inl ⟨by simpa using q,by rw[q2];exact h2,h3⟩⟩
   ·cases e
 ·rintro⟨hm,h⟩;obtain⟨a0,a1,b0,b1⟩:=hp s.1 hm;refine⟨(Fd.src s.1,(s.1,Fd.dst s.1)),?_,?_⟩
  ·unfold prs;refine List.mem_flatMap.mpr ⟨(Fd.src s.1).toNat,List.mem_range'_1.mpr ⟨by lia,by lia⟩,Pc.mpr ⟨(s.1,Fd.dst s.1),f7.mpr ⟨hm,by show Fd.src s.1=_;lia,rfl⟩,?_⟩⟩;rw[show (((Fd.src s.1).toNat:Nat):Int)=Fd.src s.1 by lia]
  ·dsimp only;rcases h with⟨q,h1,h2⟩ | ⟨q,h1,h2⟩
   ·rw[if_neg (by rw[q];decide),if_pos h1.symm,h2]
   ·rw[if_pos q,if_pos h1.symm,h2]
theorem F9{H:Hd}{S:Int->Bool}(h:∀c∈r,(H c).isSome=true->S (Fd.dst c)=false):0<=Fd.b4 r H S:=by
 induction r with
 |nil=>exact RX _
 |cons c r ih=>
  rw[Fd.b4];have:=ih fun d hd=>h d (Dk _ hd);have h2:0<=Fd.vd (H c) c S:=by
   unfold Fd.vd;split
   ·rename_i q;rw[h c O9 q];cases S (Fd.src c)<;>decide
   ·exact RX _
  lia
theorem yO(nd:r.Nodup){H:Hd}{x c d e:Int}(h0:Fd.b4 r H (fun y=>decide (y=x))=0)(hc:c∈r)(lc:(H c).isSome=true)(sc:Fd.src c=x)(tc:Fd.dst c≠x)
  (hd:d∈r) (ld:(H d).isSome=true) (sd:Fd.src d=x) (td:Fd.dst d≠x) (only:∀z∈r,Fd.dst z=x->z=e) (he:e∈r) (le:(H e).isSome=true) (te:Fd.dst e=x) (se:Fd.src e≠x):c=d:=by
 refine Decidable.byContradiction fun ne=>?_;have ce:c≠e:=fun z=>tc (z▸te);have de:d≠e:=fun z=>td (z▸te);have v1:∀{z:Int},Fd.src z=x->Fd.dst z≠x->∀{o:Option Int},o.isSome=true->Fd.vd o z (fun y=>decide (y=x))=1:=fun {z} a b {o} k=>by unfold Fd.vd;rw[if_pos k];show one (decide (Fd.src z=x))-one (decide (Fd.dst z=x))=1;rw[decide_eq_true a,decide_eq_false b];rfl
 have v2:Fd.vd (H e) e (fun y=>decide (y=x))=-1:=by unfold Fd.vd;rw[if_pos le];show one (decide (Fd.src e=x))-one (decide (Fd.dst e=x))=-1;rw[decide_eq_false se,decide_eq_true te];rfl
 have v0:∀z,Fd.vd none z (fun y=>decide (y=x))=0:=fun z=>rfl;have f1:=Fd.gZ nd hc H none (fun y=>decide (y=x));have f2:=Fd.gZ nd hd (put H c none) none (fun y=>decide (y=x));have f3:=Fd.gZ nd he (put (put H c none) d none) none (fun y=>decide (y=x));rw[v0,v1 sc tc lc]at f1;rw[v0,show put H c none d=H d by unfold put;rw[if_neg (fun z=>ne z.symm)],v1 sd td ld]at f2;rw[v0,show put (put H c none) d none e=H e by unfold put;rw[if_neg (fun z=>de z.symm),if_neg (fun z=>ce z.symm)],v2]at f3;have nn:0<=Fd.b4 r (put (put (put H c none) d none) e none) (fun y=>decide (y=x)):=F9 fun z hz hs=>by refine decide_eq_false fun q=>?_;have:=only z hz q;subst this;unfold put at hs;rw[if_pos rfl]at hs;cases hs
 lia
theorem ia{R:Int->Step->Prop}:∀{w:List Step} {x y:Int},Way R x w y->w≠[]->∃w' p c,w=w'++[(c,y)]/\Way R x w' p/\R p (c,y)
 |[],x,y,h,ne=>(ne rfl).elim
 |[s],x,y,h,_=>by obtain⟨h1,h2⟩:=h;have h2:s.2=y:=h2;subst h2;exact⟨[],x,s.1,rfl,rfl,h1⟩
 |s::u::w,x,y,h,ne=>by obtain⟨w',p,c,e1,e2,e3⟩:=ia h.2 (List.cons_ne_nil u w);exact⟨s::w',p,c,by rw[e1];rfl,⟨h.1,e2⟩,e3⟩
theorem sj{R:Int->Step->Prop}{x y:Int}(h:Way R x w y)(ne:x≠y):w≠[]:=fun e=>by subst e;exact ne h
structure uQ(n:Nat)(r:List Tie)(A:List Int):Prop where
 nd:A.Nodup
 dr:Dr (2*n) A
 mem:∀c,c∈A↔(∃t∈r,t.a≠t.b/\(c=cd n t.a t.b\/c=cd n t.b t.a))\/∃p:Nat,p<n/\c=20*(p:Int)+((n:Int)+p)
theorem ee(n:Nat)(n10:n<=10)(r:List Tie)(hp:Pl n r):uQ n r (hk (aS n r)++thr n):=by
 have m:=nU n r;have k1:∀c∈hk (aS n r),(n:Int)<=Fd.src c/\Fd.src c<2*n/\0<=Fd.dst c/\Fd.dst c<n:=fun c hc=>by
  obtain⟨t,ht,ne,h⟩:=(m.mem c).mp hc;obtain⟨p1,p2,p3,p4⟩:=hp t ht;unfold Fd.src Fd.dst;rcases h with rfl | rfl
  ·obtain⟨e1,e2⟩:=d_ (n:=n) (u:=t.a) (v:=t.b) p3 (by lia);rw[e1,e2];exact⟨by lia,by lia,p3,p4⟩
  ·obtain⟨e1,e2⟩:=d_ (n:=n) (u:=t.b) (v:=t.a) p1 (by lia);rw[e1,e2];exact⟨by lia,by lia,p1,p2⟩
 have k2:∀c,c∈thr n↔∃p:Nat,p<n/\c=20*(p:Int)+((n:Int)+p):=fun c=>by
  unfold thr;rw[Pc];constructor
  ·rintro⟨p,h1,rfl⟩;exact⟨p,Qh.mp h1,rfl⟩
  ·rintro⟨p,h1,rfl⟩;exact⟨p,Qh.mpr h1,rfl⟩
 refine⟨P9.mpr ⟨m.nd,?_,fun x hx y hy=>?_⟩,fun c hc=>?_,fun c=>?_⟩
 ·unfold thr;exact Qq.mpr (List.nodup_range.imp fun {a b} h z=>h (by lia))
 ·rintro rfl;obtain⟨p,h1,rfl⟩:=(k2 _).mp hy;have:=(k1 _ hx).1;unfold Fd.src at this
  lia
 ·rcases Pp.mp hc with hc | hc
  ·have:=k1 c hc
   lia
  ·obtain⟨p,h1,rfl⟩:=(k2 c).mp hc;unfold Fd.src Fd.dst
   lia
 ·rw[Pp,m.mem c,k2 c]
theorem f_(n10:n<=10){r:List Tie}(D:uQ n r A)(hp:Pl n r)(hc:c∈A)(h:(n:Int)<=Fd.dst c):Fd.src c=Fd.dst c-n/\Fd.src c<n:=by
 rcases (D.mem c).mp hc with⟨t,ht,ne,k⟩ | ⟨p,h1,rfl⟩
 ·have:=hp t ht;unfold Fd.dst at h;unfold cd at k
  lia
 ·unfold Fd.src Fd.dst
  lia
theorem yP(n10:n<=10){r:List Tie}(hp:Pl n r)(D:uQ n r A){H:Hd}{a b:Int}{k:Nat}(a0:0<=a)(a1:a<n)(b0:0<=b)(b1:b<n)(Kq:∀t∈r,¬((t.a=a/\t.b=b)\/(t.a=b/\t.b=a)))(F:Fd.Flow A H ((n:Int)+a) b k)
  {S:Int->Prop} (hS:∀x,S x->x≠(n:Int)+a->∃p c,S p/\Fd.bB A H p (c,x)) (hb:¬S b) {w:List Step} (hw:w_ (Fd.Led A H) ((n:Int)+a) w b):∃c∈mso w,Fd.src c<n/\¬S (Fd.dst c):=by
 obtain⟨w1,w2⟩:=hw;obtain⟨w',p,c,e1,e2,e3⟩:=ia w1 (sj w1 (by lia));obtain⟨hc,lc,sc,tc⟩:=e3;dsimp only at hc lc sc tc;have hu:(n:Int)<=p/\p≠(n:Int)+a:=by
  rcases (D.mem c).mp hc with⟨t,ht,ne,q⟩ | ⟨z,h1,rfl⟩
  ·have:=hp t ht;have h2:=Kq t ht;unfold Fd.src at sc;unfold Fd.dst at tc;unfold cd at q
   lia
  ·unfold Fd.dst at tc;have:(20*(z:Int)+((n:Int)+z)) % 20=(n:Int)+z:=by lia
   lia
 obtain⟨w'',p',d,f1,f2,f3⟩:=ia e2 (sj e2 (fun z=>hu.2 z.symm));obtain⟨hd,ld,sd,td⟩:=f3;dsimp only at hd ld sd td;obtain⟨g1,g2⟩:=f_ n10 D hp hd (by rw[td];exact hu.1);refine⟨d,?_,g2,?_⟩
 ·rw[e1,f1];unfold mso;simp
 ·rw[td];intro hs;obtain⟨q,x,hq,hx,hf⟩:=hS p hs hu.2;have only:∀z∈A,Fd.dst z=p->z=d:=fun z hz hzp=>by
   obtain⟨k1,_⟩:=f_ n10 D hp hz (by rw[hzp];exact hu.1);unfold Fd.src Fd.dst at *
   lia
  dsimp only at hx hf;rcases hf with⟨z1,z2,z3⟩ | ⟨z1,z2,z3⟩
  ·have:=only x hx z3;rw[this,ld]at z1;cases z1
  ·have h0:Fd.b4 A H (fun y=>decide (y=p))=0:=by
    rw[F.eq];rw[decide_eq_false (fun z=>hu.2 z.symm),decide_eq_false (by lia)];simp
   have hx2:=(D.dr x hx)
   have e:=yO D.nd h0 hc (by rw [lc];rfl) sc (by lia) hx z1 z3 (fun z=>by
    obtain⟨k1,_⟩:=f_ n10 D hp hx (by rw[z];exact hu.1)
    lia) only hd (by rw[ld];rfl) td (by lia)
   apply hb;rw[<- tc,e,z2];exact hq
noncomputable def cH(n:Nat)(K:List Int)(c:Int):Bool:=decide (Fd.src c<n)&&!decide (Fd.dst c∈K)
noncomputable def qx(n:Nat)(K:List Int)(w:List Step):List Int:=((mso w).filter (cH n K)).map Fd.src
noncomputable def cI(n:Nat)(K:List Int)(w:List Step):Int:=(qx n K w).headD 0
theorem iW(n:Nat)(w:List Step)(s:Sr)(hl:w.length<=1000)(hx:∃c∈mso w,Fd.src c<n/\Fd.dst c∉sk s):nH [.int n,msD w,.dct (sk s) (svG lbP s)]=some (.val (.int (cI n (sk s) w))):=by
 have hz:SZ=100000:=rfl;have ml:(mso w).length=w.length:=by simp[mso]
 apply SG;unfold nH
 (refine Dm.Sy ?_ rfl rfl;and_intros)
 refine Sz (P_ (S1 lbP (mso w) (cH n (sk s)) Fd.src Dat.int (d:=msD w) ?_ rfl rfl rfl (by decide) (by lia) (fun c _=>?_) fun c _ _=>?_))
 ·refine Se ?_;obtain⟨c,hc,h1,h2⟩:=hx;have hm:c∈(mso w).filter (cH n (sk s)):=PJ.mpr ⟨hc,by unfold cH;rw[decide_eq_true h1,decide_eq_false h2];rfl⟩;have e:∃x r,qx n (sk s) w=x::r:=by
   unfold qx;cases q:(mso w).filter (cH n (sk s)) with
   |nil=>rw[q]at hm;cases hm
   |cons x r=>exact⟨_,_,rfl⟩
  obtain⟨x,r,e⟩:=e;show Wg2 gIx (some (.lst ((qx n (sk s) w).map Dat.int))) _ _;unfold cI;rw[e];refine Tj (ur:=Dat.int) (xs:=x::r) (i:=0) (by decide) (by rw[PL];lia) ?_ rfl rfl;exact Tc rfl
 ·refine S5 (Si (P_ (P_ (O_ rfl (Se (Sh ?_ rfl rfl rfl))))));refine O_ rfl (Te (Sf ?_) rfl rfl);unfold cH;by_cases h:Fd.src c<n
  ·refine S2 (decide_eq_true h) (Si (P_ (P_ (O_ rfl (Se (Sh ?_ rfl rfl rfl))))));refine O_ rfl (T_ (Sf ?_) rfl rfl);rw[g9,decide_eq_true h];exact⟨rfl,rfl⟩
  ·refine SJ (decide_eq_false h) ?_;rw[decide_eq_false h];exact⟨rfl,rfl⟩
 ·exact P_ (O_ rfl (Se (Sh (Sk ⟨rfl,rfl⟩) rfl rfl rfl)))
noncomputable def bL(n:Nat)(r:List Tie):List Int:=hk (aS n r)++thr n
noncomputable def frR(n:Nat)(r:List Tie)(h:List (Int×Int)):Int->List Step:=freeOf (hdF h) (prs (aK (bL n r)) 0 (2*n))
noncomputable def nW(n:Nat)(r:List Tie)(w:List Step):List Int:=((mso w).filter fun c=>(hdF (aS n r) c).isSome).map fun c=>(hdF (aS n r) c).getD 0
noncomputable def gj(n:Nat)(r:List Tie)(w:List Step):Dat:=.lst ((nW n r w).map Dat.int)
noncomputable def bD:Option (List Int)->Dat
 |none=>.non
 |some S=>.tup (S.map Dat.int)
structure OT(n:Nat)(r:List Tie)(a b:Int)(h:List (Int×Int))(ws:List (List Step))(s:Sr)(S:List Int):Prop where
 fnd:Fnd (2*n) (frR n r h) ((n:Int)+a) s
 cl:∀x∈sk s,Done (frR n r h) (sk s) x
 no:b∉sk s
 eq:S=bK ltI (ws.map (cI n (sk s)))
structure Around(n:Nat)(r:List Tie)(a b most:Int)(ws:List (List Step))(o:Option (List Int))(h:List (Int×Int)):Prop where
 hok:Hok (bL n r) h
 b4:Fd.Flow (bL n r) (hdF h) ((n:Int)+a) b ws.length
 ways:uH (bL n r) (hdF h) ((n:Int)+a) b ws
 le:(ws.length:Int)<=most
 all:o=none->(ws.length:Int)=most
 shut:∀S,o=some S->(ws.length:Int)<most/\∃s,OT n r a b h ws s S
theorem sr{R:Int->Step->Prop}:∀{w:List Step} {x y:Int},Way R x w y->y∈x::w.map (·.2)
 |[],x,y,h=>by cases h;exact O9 ..
 |s::w,x,y,h=>Dk _ (sr h.2)
theorem Fnd.from{s:Sr}(h:Fnd n R a s)(hx:x∈sk s)(ne:x≠a):∃p c,p∈sk s/\InR R p (c,x):=by
 obtain⟨e,he,rfl⟩:=Pc.mp hx;obtain⟨⟨w1,w2⟩,w3⟩:=h.way e he;obtain⟨w',p,c,e1,e2,e3⟩:=ia w1 (sj w1 (fun z=>ne z.symm));refine⟨p,c,w3 p ?_,e3⟩;have:=sr e2;rw[e1,Pf];rcases Pk.mp this with z | z
 ·rw[z];exact O9 ..
 ·exact Dk _ (PK _ z)
theorem uR(n:Nat)(r:List Tie)(n10:n<=10)(hl:r.length<=100):(bL n r).length<=400:=by
 have:=(nU n r).len;unfold bL;rw[Pd];simp[hk,thr]
 lia
theorem F_(ws:List (List Step)):aM (.lst (ws.map msD))=true:=iD _ _ fun w=>iD _ _ uG
end
section
variable(n:Nat)(n10:n<=10)(r:List Tie)(hp:Pl n r)(hl:r.length<=100)(a b:Int)(a0:0<=a)(a1:a<n)
include n10 hp hl a0 a1
theorem qy(h:List (Int×Int)):∃s:Sr,kQ [rsG lbP (2*n) (frR n r h),.int ((n:Int)+a)]=some (.new (.dct (sk s) (svG lbP s)))/\Fnd (2*n) (frR n r h) ((n:Int)+a) s/\∀x∈sk s,Done (frR n r h) (sk s) x:=
 nM lbP (2*n) (by lia) (frR n r h) (fun i _ _ u hu=>(uF (ee n n10 r hp).dr ((h_ (ee n n10 r hp).dr).mp hu).along).2) _ (by lia) (by lia)
theorem qz(h:List (Int×Int)){s:Sr}(es:kQ [rsG lbP (2*n) (frR n r h),.int ((n:Int)+a)]=some (.new (.dct (sk s) (svG lbP s))))(c1 c3 c4 c5 c6 c8 c9 c10 c11:Cell)(h6:c6=.ow (rsG lbP (2*n) (aK (bL n r)))\/c6=.sh (rsG lbP (2*n) (aK (bL n r)))){N:Env->Prop}{R:RV->Env->Prop}{B C:Env->Prop}
  (k:N [.sh (.int n),c1,.sh (.int a),c3,c4,c5,.sh (rsG lbP (2*n) (aK (bL n r))),.ow (au h),.ow (.dct (sk s) (svG lbP s)),c9,c10,c11]) :
  Ws (sA 8 (eF kQ [(fW lE [(eV 6),(eV 7)]),(e2 aV (eV 0) (eV 2))])) [.sh (.int n),c1,.sh (.int a),c3,c4,c5,c6,.ow (au h),c8,c9,c10,c11] N R B C:=by
 have ef:=pJ (2*n) (by lia) h (aK (bL n r)) (fun i _ u hu=>by
  obtain⟨h1,h2,h3⟩:=f7.mp hu;have:=(ee n n10 r hp).dr u.1 h1
  lia) (fun i=>P0 (jn _ _) (uR n r n10 hl))
 rcases h6 with rfl | rfl
 ·refine Sj (SD (m_ (Th (m_ (Sg rfl (m_ (Sg rfl (Q_ ⟨_,_,_,rfl,ef,f9 _ _,?_⟩)))))))) (by decide);refine m_ (P_ (O_ rfl (O_ rfl (Sq (Q_ (S3 es (Sm k rfl) rfl rfl rfl rfl)) rfl rfl))))
 ·refine Sj (SD (m_ (Th (m_ (O_ rfl (m_ (Sg rfl (Q_ ⟨_,_,_,rfl,ef,f9 _ _,?_⟩)))))))) (by decide);refine m_ (P_ (O_ rfl (O_ rfl (Sq (Q_ (S3 es (Sm k rfl) rfl rfl rfl rfl)) rfl rfl))))
end
section
variable{r:List Tie}{n:Nat}{a b:Int}{R:List Tie}{ws:List (List Step)}{o p:Option Dat}{K:RV->Prop}{Q:Val->Env->Prop}{us:List Int}{A:List Int}{S:List Int}{α:Type}{ρ:Env}{t:Tie}{c:Int}{ns:List Int}{ts:List Tie}{w:List Step}{j:Nat}{v:Int}{y:Int}{x m:Int}{s:Step}{i:Int}{k:Nat}
theorem uS(n:Nat)(r:List Tie)(w:List Step)(hl:w.length<=1000)(pre:Env)(hpre:pre.length=12)(h5:pre[5]?=some (.ow (au (aS n r)))) 
  {Q:Val->Env->Prop} (q:Q (.new (gj n r w)) (pre++[.sh (msD w)])):We (aI 12 1 (bN 13) (tV (e2 eX (eV 13) (eV 5))) (e2 lQ (eV 5) (eV 13))) (pre++[.sh (msD w)]) Q:=by
 have hz:SZ=100000:=rfl;have ml:(mso w).length=w.length:=by simp[mso]
 have g5:∀c:Cell,(pre++[.sh (msD w)]++[c])[5]?=some (.ow (au (aS n r))):=fun c=>by rw[QB,Pg (by lia)];exact h5
 have g13:∀c:Int,(pre++[.sh (msD w)]++[.sh (lbP c)])[13]?=some (.sh (lbP c)):=fun c=>by rw[PN (by simp[hpre])];simp[hpre]
 refine S1 lbP (mso w) (fun c=>(hdF (aS n r) c).isSome) (fun c=>(hdF (aS n r) c).getD 0) Dat.int (d:=msD w) ?_ (by rw[PN (by lia)];simp[hpre]) rfl (by simp[hpre]) (by decide) (by lia) (fun c _=>?_) fun c _ hc=>?_
 ·exact q
 ·refine Si (P_ (O_ (g13 c) (Sg (g5 _) (TZ (i:=c / 20) (j:=c % 20) (ks:=hkP (aS n r)) (vs:=hv (aS n r)) (Sf ?_) rfl (by show pk _ (.slot 5)=_;unfold pk;dsimp only;rw[g5];rfl)))));rw[f6,QS];exact⟨rfl,rfl⟩
 ·obtain⟨m,hm⟩:=Q6.mp hc;refine P_ (Sg (g5 _) (O_ (g13 c) (UM (i:=c / 20) (j:=c % 20) (ks:=hkP (aS n r)) (vs:=hv (aS n r)) (d:=.int m) (by rw[f6,hm];rfl) (Sk ⟨?_,rfl⟩) (by show pk _ (.slot 5)=_;unfold pk;dsimp only;rw[g5];rfl) rfl)));rw[hm];rfl
noncomputable def uT:FS:=az (sA 5 (eF Ae [(eV 0),(eV 1)])) (az (sA 6 (fW qp [(eV 0),(eV 5)])) (az (sA 7 wM) (az (sA 8 (eF kQ [(fW lE [(eV 6),(eV 7)]),(e2 aV (eV 0) (eV 2))])) (az (sA 9 (eC (.int 0)))
  (az (whD (e8 (tV (e2 gLt (eV 9) (eV 4))) (tV (e2 wo (eV 3) (eV 8)))) rV 100) (sA 10 (fW ux [(eV 6),(eV 7),(e2 aV (eV 0) (eV 2)),(eV 3),(eV 9)])))))))
theorem iH(a b c:FS):az (az a b) c=az a (az b c):=by
 funext ρ
 unfold az;cases a ρ with
 |none=>rfl
 |some o=>cases o<;>rfl
theorem fN(a b:FS)(c:FSP):eK (az a b) c=eK a (eK b c):=by
 funext ρ
 unfold eK az;cases a ρ with
 |none=>rfl
 |some o=>cases o<;>rfl
noncomputable def WE(n:Nat)(r:List Tie)(a b most:Int)(h:List (Int×Int))(s:Sr)(Ct:Nat)(ws:List (List Step)):Env:=
 [.sh (.int n),.sh (aC r),.sh (.int a),.sh (.int b),.sh (.int most),.ow (au (aS n r)),.sh (rsG lbP (2*n) (aK (bL n r))),.ow (au h),.ow (.dct (sk s) (svG lbP s)),.sh (.int (Ct:Nat)),.ow (.lst (ws.map msD)),.un]
structure Kz(n:Nat)(r:List Tie)(a b most:Int)(h:List (Int×Int))(s:Sr)(Ct:Nat)(ws:List (List Step)):Prop where
 hok:Hok (bL n r) h
 fl:Fd.Flow (bL n r) (hdF h) ((n:Int)+a) b Ct
 hle:(Ct:Int)<=most
 F:Fnd (2*n) (frR n r h) ((n:Int)+a) s
 hd:∀x∈sk s,Done (frR n r h) (sk s) x
 hend:(Ct:Int)=most\/b∉sk s
 wl:ws.length=Ct
 W:uH (bL n r) (hdF h) ((n:Int)+a) b ws
 g8:∀w∈ws,w.length<=1000
theorem KA(n:Nat)(n10:n<=10)(r:List Tie)(hp:Pl n r)(hl:r.length<=100)(a b:Int)(a0:0<=a)(a1:a<n)(b0:0<=b)(b1:b<n)(most:Int)(m0:0<=most)(m1:most<=60) :
  Ws uT [.sh (.int n),.sh (aC r),.sh (.int a),.sh (.int b),.sh (.int most),.un,.un,.un,.un,.un,.un,.un] (fun ρ=>∃h s Ct ws,ρ=WE n r a b most h s Ct ws/\Kz n r a b most h s Ct ws) (fun _ _=>False) (fun _=>False) (fun _=>False):=by
 have hz:SZ=100000:=rfl;have D:=ee n n10 r hp;have mk:=nU n r;have rl:=uR n r n10 hl;have em:=xm n n10 r hp (by lia);have ed:=CQ n n10 (aS n r) (fun c hc=>D.dr c (PK _ hc)) (by have:=mk.len;lia);unfold uT;refine R_ (Sj (SD (m_ (O_ rfl (m_ (O_ rfl (Q_ (S3 em (Sm ?_ (by trivial)) rfl rfl rfl rfl))))))) (by decide));refine R_ (Sj (Th (m_ (O_ rfl (m_ (Sg rfl (Q_ ⟨_,_,_,rfl,ed,f9 _ _,Sm ?_ (by trivial)⟩)))))) (by decide));refine R_ (Sj (Ut (Sm ?_ (by trivial))) (by decide));obtain⟨s0,es0,F0,d0⟩:=qy n n10 r hp hl a a0 a1 [];refine R_ (qz n n10 r hp hl a a0 a1 [] es0 _ _ _ _ _ _ _ _ _ (.inl rfl) ?_);refine R_ (Sj (Se (Sn ?_ (by trivial))) (by decide));refine R_ ?_;refine TH (fun k ρ=>∃(h:List (Int×Int)) (s:Sr) (Ct:Nat),ρ=[.sh (.int n),.sh (aC r),.sh (.int a),.sh (.int b),.sh (.int most),.ow (au (aS n r)),.sh (rsG lbP (2*n) (aK (bL n r))),.ow (au h),.ow (.dct (sk s) (svG lbP s)),.sh (.int (Ct:Nat)),.un,.un]/\Hok (bL n r) h/\Fd.Flow (bL n r) (hdF h) ((n:Int)+a) b Ct/\(Ct:Int)<=most/\Fnd (2*n) (frR n r h) ((n:Int)+a) s/\(∀x∈sk s,Done (frR n r h) (sk s) x)/\k=(most-Ct).toNat) ?_ 100 most.toNat _ (by lia)
  ⟨[],s0,0,rfl,Hok.nil _,Fd.Flow.zero _ _ _,m0,F0,d0,by simp⟩
 rintro k ρ ⟨h,s,Ct,rfl,hok,fl,hle,F,hd,hk⟩;have MR:(Ct:Int)=most\/b∉sk s->Ws (sA 10 (fW ux [(eV 6),(eV 7),(e2 aV (eV 0) (eV 2)),(eV 3),(eV 9)])) [.sh (.int n),.sh (aC r),.sh (.int a),.sh (.int b),.sh (.int most),.ow (au (aS n r)),.sh (rsG lbP (2*n) (aK (bL n r))),.ow (au h),.ow (.dct (sk s) (svG lbP s)),.sh (.int (Ct:Nat)),.un,.un]
   (fun ρ=>∃h s Ct ws,ρ=WE n r a b most h s Ct ws/\Kz n r a b most h s Ct ws) (fun _ _=>False) (fun _=>False) (fun _=>False):=fun hend=>by
  obtain⟨ws,ep,wl,W⟩:=Ai (2*n) (by lia) (bL n r) D.dr D.nd (by lia) h hok ((n:Int)+a) b (by lia) (by lia) Ct (by lia) fl;have g8:∀w∈ws,w.length<=1000:=fun w hw=>by
   obtain⟨v1,v2⟩:=W.way w hw;have:=b5 (w.map (·.1)) (bL n r) (Fd.jh (fun p s h=>h.along) v1 v2) fun c hc=>by obtain⟨u,hu,rfl⟩:=Pc.mp hc;exact xg (fun p s z=>z.along) v1 u hu
   rw[gV]at this
   lia
  refine Sj (Th (m_ (O_ rfl (m_ (Sg rfl (m_ (P_ (O_ rfl (O_ rfl (Sq ?_ rfl rfl)))))))))) (by decide);refine m_ (O_ rfl (m_ (O_ rfl (Q_ ⟨_,_,_,rfl,ep,F_ ws,Sm ?_ (by trivial)⟩))));exact⟨h,s,Ct,ws,rfl,⟨hok,fl,hle,F,hd,hend,wl,W,g8⟩⟩
 refine S5 (Si (P_ (O_ rfl (O_ rfl (Te (Sf ?_) rfl rfl)))));refine SX (fun HN=>?_) fun hge=>?_
 ·refine Si (P_ (O_ rfl (Sg rfl (Ui (Sf ?_) rfl rfl))));rw[g9];refine SX (fun hb=>?_) fun hb=>MR (.inr hb);unfold rV;obtain⟨w,t1,t2⟩:∃w,(b,w)∈s/\cO (sk s) (svG lbP s) b=some (rwG lbP w):=by
   rcases rX lbP s b with h | h
   ·exact h
   ·exact absurd hb h.1
  obtain⟨⟨w1,w2⟩,_⟩:=F.way _ t1;dsimp only at w1 w2;have w1':Way (Fd.bB (bL n r) (hdF h)) ((n:Int)+a) w b:=w1.mono fun _ _ z=>(h_ D.dr).mp z;have wms:=xg (fun p s (z:Fd.bB (bL n r) (hdF h) p s)=>z.along) w1';have el:=pI (bL n r) (by lia) h hok w wms;refine R_ (Tt (Uk (m_ (P_ (Sg rfl (O_ rfl (Ub t2 (Q_ (TY el ?_ rfl rfl rfl)) rfl rfl))))) rfl));refine R_ (Sj (P_ (O_ rfl (Se (Sq (Sn ?_ (by trivial)) rfl rfl)))) (by decide));have fl2:=fl.more D.nd w1' w2;rw[<- qu]at fl2;obtain⟨s1,es1,F1,d1⟩:=qy n n10 r hp hl a a0 a1 (bJ h w);refine qz n n10 r hp hl a a0 a1 (bJ h w) es1 _ _ _ _ _ _ _ _ _ (.inr rfl) ?_;refine⟨(most-(Ct+1:Nat)).toNat,by rw[hk];lia,bJ h w,s1,Ct+1,?_,hok.CO wms,fl2,by lia,F1,d1,rfl⟩;rw[show ((Ct:Int)+1)=((Ct+1:Nat):Int) by lia]
 ·exact SJ rfl (MR (.inl (by lia)))
noncomputable def gk(n:Nat)(r:List Tie)(w:List Step):Dp:=.l (((nW n r w).map Dat.int).map .s)
theorem CU(n:Nat)(r:List Tie)(ws:List (List Step)):(Dp.l (ws.map (gk n r))).dat=.lst (ws.map (gj n r)):=by
 unfold Dp.dat;rw[Dp.fH,Pr]
 congr 1
 refine Qm fun w _=>?_;show Dp.dat (gk n r w)=gj n r w;unfold gk Dp.dat;rw[Dp.B0];rfl
noncomputable def WEs(n:Nat)(r:List Tie)(a b most:Int)(h:List (Int×Int))(s:Sr)(Ct:Nat)(ws:List (List Step)):Env:=
 [.sh (.int n),.sh (aC r),.sh (.int a),.sh (.int b),.sh (.int most),.sh (au (aS n r)),.sh (rsG lbP (2*n) (aK (bL n r))),.sh (au h),.sh (.dct (sk s) (svG lbP s)),.sh (.int (Ct:Nat)),.sh (.lst (ws.map msD)),.sh (.lst (ws.map (gj n r)))]
noncomputable def WP(n:Nat)(r:List Tie)(a b most:Int)(h:List (Int×Int))(s:Sr)(Ct:Nat)(ws:List (List Step)):Env:=
 [.sh (.int n),.sh (aC r),.sh (.int a),.sh (.int b),.sh (.int most),.ow (au (aS n r)),.sh (rsG lbP (2*n) (aK (bL n r))),.ow (au h),.ow (.dct (sk s) (svG lbP s)),.sh (.int (Ct:Nat)),.sh (.lst (ws.map msD)),.un]
theorem yQ(n:Nat)(r:List Tie)(a b most:Int)(h:List (Int×Int))(s:Sr)(Ct:Nat)(ws:List (List Step)):see 11 (WP n r a b most h s Ct ws) (.l (ws.map (gk n r)))=WEs n r a b most h s Ct ws:=by have e:=CU n r ws;unfold see;rw[e];rfl
theorem CV(n:Nat)(r:List Tie)(a b most:Int)(h:List (Int×Int))(s:Sr)(Ct:Nat)(ws:List (List Step))(hw:ws.length<=1000)(g8:∀w∈ws,w.length<=1000){g:FQ}{P:Dp->Prop}(k:Wh g (WP n r a b most h s Ct ws) (.l (ws.map (gk n r))) P) :
  Wq (iV 11 (dg (iS (eV 10)) 1 (bN 12) (pN (aI 12 1 (bN 13) (tV (e2 eX (eV 13) (eV 5))) (e2 lQ (eV 5) (eV 13))))) g) (WE n r a b most h s Ct ws) P:=by
 refine Uz (Tq msD ws (gk n r) (fun ρ=>∃c,ρ=WP n r a b most h s Ct ws++[c]) (ρ1:=WP n r a b most h s Ct ws) ?_ (by unfold SZ;lia) ⟨_,rfl⟩ ?_ ?_) (by decide)
 ·apply S4;exact SY (Sg rfl (TV (bP ⟨rfl,rfl⟩) rfl rfl))
 ·rintro w hw ρ ⟨c,rfl⟩;refine⟨WP n r a b most h s Ct ws++[.sh (msD w)],rfl,?_⟩;exact Ux (uS n r w (g8 w hw) (WP n r a b most h s Ct ws) rfl rfl ⟨rfl,rfl,_,rfl⟩)
 ·rintro ρ2 ⟨c,rfl⟩;exact⟨_,rfl,k⟩
noncomputable def tlS:FS:=(az (sA 11 (aI 10 1 (bN 12) bO (aI 12 1 (bN 13) (tV (e2 eX (eV 13) (eV 5))) (e2 lQ (eV 5) (eV 13)))))
  (az (sIf (tV (e2 gEq (eV 9) (eV 4))) (sR (eE [(eV 11),(eC .non)])) sNx)
  (sR (eE [(eV 11),(eB gF [(eB fB [(aI 10 1 (bN 12) bO (eFd nH [(eV 0),(eV 12),(eV 8)]))])])]))))
noncomputable def tlQ:FSP:=(iV 11 (dg (iS (eV 10)) 1 (bN 12) (pN (aI 12 1 (bN 13) (tV (e2 eX (eV 13) (eV 5))) (e2 lQ (eV 5) (eV 13)))))
  (hIf 11 (tV (e2 gEq (eV 9) (eV 4))) (wL 11 [.w,.e (eC .non)])
  (ny 11 (eB gF [(eB fB [(aI 10 1 (bN 12) bO (eFd nH [(eV 0),(eV 12),(eV 8)]))])]))))
theorem M0{a b most:Int}{v:RV}(hS:uT [.sh (.int n),.sh (aC r),.sh (.int a),.sh (.int b),.sh (.int most),.un,.un,.un,.un,.un,.un,.un]=some (.nx ρ))(t:Ws tlS ρ (fun _=>RV.val .non=v) (fun u _=>u=v) (fun _=>False) (fun _=>False)):uy [.int n,aC r,.int a,.int b,.int most]=some v:=by
 apply SG;unfold uy
 (refine Dm.Sy ?_ rfl rfl;and_intros)
 have q:=R_ (s:=uT) (u:=tlS) ⟨_,hS,t⟩;unfold uT tlS at q;rw[iH,iH,iH,iH,iH,iH]at q;exact q
theorem M3{a b most:Int}{p:Dp}(hS:uT [.sh (.int n),.sh (aC r),.sh (.int a),.sh (.int b),.sh (.int most),.un,.un,.un,.un,.un,.un,.un]=some (.nx ρ))(t:Wq tlQ ρ fun q=>q=p):bG [.int n,aC r,.int a,.int b,.int most]=some p:=by have q:=TF (s:=uT) (g:=tlQ) ⟨_,hS,t⟩;unfold uT tlQ at q;rw[fN,fN,fN,fN,fN,fN]at q;unfold bG;obtain⟨p,e1,rfl⟩:=UH (n:=5) (m:=7) (ds:=[.int n,aC r,.int a,.int b,.int most]) q rfl rfl;exact e1
theorem HY{a b most:Int}{h:List (Int×Int)}{s:Sr}{Ct:Nat}(hw:ws.length<=1000)(g8:∀w∈ws,w.length<=1000){t:FS}{N:Env->Prop}{R:RV->Env->Prop}{B C:Env->Prop}(k:Ws t ((WE n r a b most h s Ct ws).set 11 (.ow (.lst (ws.map (gj n r))))) N R B C):Ws (az (sA 11 (aI 10 1 (bN 12) bO (aI 12 1 (bN 13) (tV (e2 eX (eV 13) (eV 5))) (e2 lQ (eV 5) (eV 13))))) t) (WE n r a b most h s Ct ws) N R B C:=by unfold WE at *;refine R_ (Sj (UA msD ws id (gj n r) ?_ rfl rfl rfl (by decide) (by unfold SZ;lia) fun w hw=>uS n r w (g8 w hw) _ rfl rfl (S8 ⟨rfl,rfl⟩)) (by decide));rw[Qx];exact Sm k (by trivial)
theorem Al(n:Nat)(n10:n<=10)(r:List Tie)(hp:Pl n r)(hl:r.length<=100)(a b:Int)(a0:0<=a)(a1:a<n)(b0:0<=b)(b1:b<n)(Kq:∀t∈r,¬((t.a=a/\t.b=b)\/(t.a=b/\t.b=a)))(most:Int)(m0:0<=most)(m1:most<=60) :
  ∃ws o h,uy [.int n,aC r,.int a,.int b,.int most]=some (.val (.tup [.lst (ws.map (gj n r)),bD o]))/\bG [.int n,aC r,.int a,.int b,.int most]=some (.t [.l (ws.map (gk n r)),.s (bD o)])/\Around n r a b most ws o h:=by
 have hz:SZ=100000:=rfl;obtain⟨z,hS,q⟩:=KA n n10 r hp hl a b a0 a1 b0 b1 most m0 m1;cases z with
 |ret _ _=>exact q.elim
 |bk _=>exact q.elim
 |ct _=>exact q.elim
 |nx ρ5=>
  obtain⟨h,s,Ct,ws,rfl,E⟩:=(show ∃h s Ct ws,ρ5=WE n r a b most h s Ct ws/\Kz n r a b most h s Ct ws from q)
  have D:=ee n n10 r hp;have wl:=E.wl;have cl:=E.hle;by_cases he:(Ct:Int)=most
  ·refine⟨ws,none,h,M0 hS (HY (by lia) E.g8 ?_),M3 hS (CV n r a b most h s Ct ws (by lia) E.g8 (UD ?_ (yQ n r a b most h s Ct ws))),⟨E.hok,by rw[wl];exact E.fl,E.W,by rw[wl];exact cl,fun _=>by rw[wl];exact he,fun S z=>(nomatch z)⟩⟩
   ·unfold WE;refine R_ (Sv (Si (P_ (O_ rfl (O_ rfl (SH (Sf (S2 (decide_eq_true he) ?_)) rfl rfl))))));exact Sz (Td (m_ (Sg rfl (m_ (Se (Q_ (So rfl rfl rfl (by exact Pw rfl))))))))
   ·unfold WEs;refine Si (P_ (O_ rfl (O_ rfl (SH (Sf (S2 (decide_eq_true he) ?_)) rfl rfl))));exact UZ (Ks (Kr (Se rfl) (yQ n r a b most h s Ct ws) rfl rfl)) (by exact Pw rfl) rfl
  ·have hb:=E.hend.resolve_left he;have HN:(Ct:Int)<most:=by lia
   have hfs:∀w∈ws,∃c∈mso w,Fd.src c<n/\Fd.dst c∉sk s:=fun w hw=>
    yP n10 hp D a0 a1 b0 b1 Kq E.fl (S:=fun x=>x∈sk s) (fun x hx ne=>by
     obtain⟨p,c,k1,k2⟩:=Fnd.from E.F hx ne
     exact⟨p,c,k1,(h_ D.dr).mp k2⟩) hb (E.W.way w hw)
   refine⟨ws,some (bK ltI (ws.map (cI n (sk s)))),h,M0 hS (HY (by lia) E.g8 ?_),M3 hS (CV n r a b most h s Ct ws (by lia) E.g8 (UD ?_ (yQ n r a b most h s Ct ws))),⟨E.hok,by rw[wl];exact E.fl,E.W,by rw[wl];exact cl,fun z=>(nomatch z),fun S z=>?_⟩⟩
   ·unfold WE;refine R_ (Sv (Si (P_ (O_ rfl (O_ rfl (SH (Sf (SJ (decide_eq_false he) (Su ?_))) rfl rfl))))));refine Sz (Td (m_ (Sg rfl (m_ (Sw (m_ (Sw (m_ ?_))))))));refine UA msD ws (cI n (sk s)) Dat.int ?_ rfl rfl rfl (by decide) (by lia) fun w hw=>?_
    ·refine Q_ (Uo ?_ rfl (by rw[gV];lia));exact Q_ (Ud (Q_ (So rfl rfl rfl (by exact Pw rfl))) rfl)
    ·refine UI (m_ (O_ rfl (m_ (O_ rfl (m_ (Sg rfl (Q_ ⟨_,_,_,rfl,iW n w s (E.g8 w hw) (hfs w hw),iE _,?_⟩)))))));exact Sk ⟨rfl,rfl⟩
   ·unfold WEs;refine Si (P_ (O_ rfl (O_ rfl (SH (Sf (SJ (decide_eq_false he) ?_)) rfl rfl))));refine U8 (d:=.tup ((bK ltI (ws.map (cI n (sk s)))).map Dat.int)) (Sw (m_ (Sw (m_ ?_)))) (yQ n r a b most h s Ct ws) (jl _) rfl;unfold WEs;refine TJ msD ws (cI n (sk s)) Dat.int (d:=.lst (ws.map msD)) ?_ rfl rfl rfl (by decide) (by lia) fun w hw=>?_
    ·refine Q_ (Uo ?_ rfl (by rw[gV];lia));exact Q_ (Ud rfl rfl)
    ·refine UI (m_ (O_ rfl (m_ (O_ rfl (m_ (O_ rfl (Q_ ⟨_,_,_,rfl,iW n w s (E.g8 w hw) (hfs w hw),iE _,?_⟩)))))));exact Sk ⟨rfl,rfl⟩
   ·cases z;exact⟨by rw[wl];exact HN,s,E.F,E.hd,hb,rfl⟩
theorem CW(i:Int):FW [.int i]=some (.val (.bl true)):=by
 apply SG;unfold FW
 (refine Dm.Sy ?_ rfl rfl;and_intros)
 refine Sz (S7 (SW (O_ rfl (SO ?_ rfl rfl))));refine Sf (SN (Ua (SW (O_ rfl (SO ?_ rfl rfl)))));exact Sf rfl
theorem Am(i lo hi:Int)(h0:lo<=i)(h1:i<=hi):FY [.int i,.int lo,.int hi]=some (.val (.bl true)):=by unfold FY;simp[fn,sR,iZ,eF,eAs,eV,pks,pk,CW,RV.bC,RV.dat,dY,gG,gLe,h0,h1]
theorem uU(n i:Int)(h0:0<=i)(h1:i<n):CD [.int n,.int i]=some (.val (.bl true)):=by
 apply SG;unfold CD
 (refine Dm.Sy ?_ rfl rfl;and_intros)
 refine Sz (SD (m_ (O_ rfl (m_ (Se (m_ (P_ (O_ rfl (Se (SV ?_ rfl rfl))))))))));exact Q_ (SA (Am i 0 (n-1) h0 (by lia)) rfl rfl rfl)
theorem Ga(n a b:Int)(a0:0<=a)(a1:a<n)(b0:0<=b)(b1:b<n)(h:a≠b):FZ [.int n,.int a,.int b]=some (.val (.bl true)):=by
 apply SG;unfold FZ
 (refine Dm.Sy ?_ rfl rfl;and_intros)
 refine Sz (S7 (SD (m_ (O_ rfl (m_ (O_ rfl (Q_ (SA (uU n a a0 a1) ?_ rfl rfl))))))));refine Sf (SN (S7 (SD (m_ (O_ rfl (m_ (O_ rfl (Q_ (SA (uU n b b0 b1) ?_ rfl rfl)))))))));refine Sf (SN (P_ (O_ rfl (O_ rfl (S6 ?_ rfl rfl)))));rw[decide_eq_false h];rfl
theorem kj(n a b:Int)(a0:0<=a)(a1:a<n)(b0:0<=b)(b1:b<n)(h:a≠b):Ad [.int n,.int a,.int b]=some (.val .non):=by
 apply SG;unfold Ad
 (refine Dm.Sy ?_ rfl rfl;and_intros)
 refine Sv (SI (Si (SD (m_ (O_ rfl (m_ (O_ rfl (m_ (O_ rfl (Q_ (SA (Ga n a b a0 a1 b0 b1 h) ?_ rfl rfl)))))))))));exact Sf (Ss (Su rfl))
theorem yR{x y:Tie}(h:x.m=y.m/\x.a=y.a/\x.b=y.b):x=y:=by cases x;cases y;obtain⟨h1,h2,h3⟩:=h;dsimp only at h1 h2 h3;rw[h1,h2,h3]
instance OU:DecidableEq Tie:=fun x y=>decidable_of_iff (x.m=y.m/\x.a=y.a/\x.b=y.b) ⟨yR,fun h=>by rw[h];exact⟨rfl,rfl,rfl⟩⟩
theorem CY(u t:Tie):eqD (aX u) (aX t)=decide (u=t):=by rw[Rc,decide_eq_true_iff];unfold aX;simp[eqD,eG];exact⟨yR,fun h=>by rw[h];exact⟨rfl,rfl,rfl⟩⟩
theorem KC(t:Tie)(K:List Tie):inD (aX t) (K.map aX)=decide (t∈K):=by
 induction K with
 |nil=>rfl
 |cons u K ih=>
  unfold inD at ih ⊢;rw[eg,QF,ih];by_cases h:t=u
  ·subst h;simp[CY]
  ·have h':¬u=t:=fun z=>h z.symm;simp[CY,h,h']
theorem Gb(K:List Tie):(K.map aX).all (okD 7)=true:=by rw[RS];exact Qe.mpr fun t _=>rfl
theorem T4{K:List Tie}{Q:RV->Prop}(k:Q (.val (.bl (!decide (t∈K)))))(ho:o=some (aX t))(hp:p=some (aC K)):Wg2 bS o p Q:=
 ⟨_,_,_,ho,hp,by unfold aC bS;dsimp only;rw[Gb,KC];rfl,k⟩
noncomputable def dF(a b:Int)(t:Tie):Bool:=decide (a=t.a\/a=t.b)&&decide (b=t.a\/b=t.b)
noncomputable def xr(t:Tie):Dat:=.lst [.int t.m]
noncomputable def bQ(r:List Tie)(a b:Int):List Tie:=r.filter (dF a b)
noncomputable def cJ(r:List Tie)(a b:Int):List Tie:=r.filter fun t=>!dF a b t
theorem jo(r:List Tie)(a b:Int):(r.filter fun t=>!decide (t∈bQ r a b))=cJ r a b:=by
 refine List.filter_congr fun t ht=>?_;unfold bQ;cases h:dF a b t with
 |true=>rw[decide_eq_true (PJ.mpr ⟨ht,h⟩)]
 |false=>rw[decide_eq_false fun z=>by rw[(PJ.mp z).2]at h;cases h]
noncomputable def CZ(t:Tie):Dp:=.l ([Dat.int t.m].map .s)
theorem qA(n:Nat)(r:List Tie):∀ws:List (List Step),aO (ws.map (gk n r))=true
 |[]=>rfl
 |w::ws=>by
  rw[eg,aO,qA n r ws,Bool.and_true];unfold gk aW;have:∀ns:List Int,aO ((ns.map Dat.int).map .s)=true:=fun ns=>by
   induction ns with
   |nil=>rfl
   |cons x ns ih=>rw[eg,eg,aO,ih];rfl
  exact this _
theorem qB(o:Option (List Int)):kc (bD o)=true:=by
 cases o with
 |none=>rfl
 |some S=>exact jl S
theorem Gd(st:List Tie):(Dp.l (st.map CZ)).dat=.lst (st.map xr):=by unfold Dp.dat;rw[Dp.fH,Pr];rfl
theorem xu(n:Nat)(n10:n<=10)(r:List Tie)(hp:Pl n r)(hl:r.length<=100)(a b:Int)(a0:0<=a)(a1:a<n)(b0:0<=b)(b1:b<n)(Kq:a≠b)(most:Int)(m0:0<=most)(m1:most<=60) :
  ∃ws o h,nI [.int n,aC r,.int a,.int b,.int most]=some (.val (.tup [.int (((bQ r a b).take most.toNat).length+ws.length:Nat),.lst (((bQ r a b).take most.toNat).map xr++ws.map (gj n (cJ r a b))),bD o])) /\
   br [.int n,aC r,.int a,.int b,.int most]=some (.t [.s (.int (((bQ r a b).take most.toNat).length+ws.length:Nat)),.l (((bQ r a b).take most.toNat).map CZ++ws.map (gk n (cJ r a b))),.s (bD o)])/\Around n (cJ r a b) a b (most-((bQ r a b).take most.toNat).length) ws o h:=by
 have hz:SZ=100000:=rfl;have hpo:Pl n (cJ r a b):=fun t ht=>hp t (PJ.mp ht).1;have hlo:(cJ r a b).length<=r.length:=Qn _ _;have hls:(bQ r a b).length<=r.length:=Qn _ _;have hno:∀t∈cJ r a b,¬((t.a=a/\t.b=b)\/(t.a=b/\t.b=a)):=fun t ht k=>by
  have h2:dF a b t=false:=by simpa using(PJ.mp ht).2
  unfold dF at h2;rcases k with⟨rfl,rfl⟩ | ⟨rfl,rfl⟩
  ·rw[decide_eq_true (.inl rfl),decide_eq_true (.inr rfl)]at h2;cases h2
  ·rw[decide_eq_true (.inr rfl),decide_eq_true (.inl rfl)]at h2;cases h2
 have tl:((bQ r a b).take most.toNat).length<=most.toNat:=by rw[P1];lia
 have tl2:((bQ r a b).take most.toNat).length<=(bQ r a b).length:=by rw[P1];lia
 have ct:nB (bQ r a b) none (some most)=(bQ r a b).take most.toNat:=by
  unfold nB sIx;simp
  lia
 generalize hst:(bQ r a b).take most.toNat=st at tl tl2 ct
 obtain⟨ws,o,h,ew,eP,A⟩:=Al n n10 (cJ r a b) hpo (by lia) a b a0 a1 b0 b1 hno (most-st.length) (by lia) (by lia);have wl:=A.le;have cj:∀(c8 c9:Cell) (t:Tie),Wt (e8 (tV (e2 gIn (eV 2) (i9 (eV 9) (some (eC (.int 1))) none))) (tV (e2 gIn (eV 3) (i9 (eV 9) (some (eC (.int 1))) none)))) ([.sh (.int n),.sh (aC r),.sh (.int a),.sh (.int b),.sh (.int most),.un,.un,.un,c8]++[.sh (aX t)]) fun c ρ'=>c=dF a b t/\ρ'=[.sh (.int n),.sh (aC r),.sh (.int a),.sh (.int b),.sh (.int most),.un,.un,.un,c8]++[.sh (aX t)]:=fun c8 c9 t=>by
  refine S5 (Si (P_ (O_ rfl (Tf (O_ rfl (Wp.some (Se (bY.mk (Wp.none ⟨[.int t.m,.int t.a,.int t.b],rfl,by show ¬(sIx 3 0 (some 1)=0/\sIx 3 3 none=3);decide,?_⟩)))))))));refine To (i:=a) (a:=t.a) (b:=t.b) (Sf ?_) rfl rfl;unfold dF;by_cases h:a=t.a\/a=t.b
  ·refine S2 (decide_eq_true h) (Si (P_ (O_ rfl (Tf (O_ rfl (Wp.some (Se (bY.mk (Wp.none ⟨[.int t.m,.int t.a,.int t.b],rfl,by show ¬(sIx 3 0 (some 1)=0/\sIx 3 3 none=3);decide,?_⟩)))))))));refine To (i:=b) (a:=t.a) (b:=t.b) (Sf ?_) rfl rfl;rw[decide_eq_true h];exact⟨rfl,rfl⟩
  ·refine SJ (decide_eq_false h) ?_;rw[decide_eq_false h];exact⟨rfl,rfl⟩
 have hsl:iS (eSl (eV 5) none (some (eV 4))) [.sh (.int n),.sh (aC r),.sh (.int a),.sh (.int b),.sh (.int most),.ow (aC (bQ r a b)),.ow (aC (cJ r a b)),.un,.un]=some (st.map aX,[.sh (.int n),.sh (aC r),.sh (.int a),.sh (.int b),.sh (.int most),.ow (aC (bQ r a b)),.ow (aC (cJ r a b)),.un,.un]):=by apply S4;refine SY (Tw (Sg rfl (Wp.none (Wp.some (O_ rfl (bY.mk ⟨_,rfl,?_⟩))))));rw[yC,ct];exact S8 (bP ⟨rfl,rfl⟩)
 refine⟨ws,o,h,?_,?_,A⟩
 ·apply SG;unfold nI
  (refine Dm.Sy ?_ rfl rfl;and_intros)
  refine R_ (Tt (SD (m_ (O_ rfl (m_ (O_ rfl (m_ (O_ rfl (Q_ (SA (kj n a b a0 a1 b0 b1 Kq) ?_ rfl rfl))))))))));refine R_ (Sj (S1 aX r (dF a b) id aX (d:=aC r) ?_ rfl rfl rfl (by decide) (by lia) (fun t _=>?_) fun t _ _=>O_ rfl (Sk ⟨rfl,rfl⟩)) (by decide))
  rotate_left
  ·exact cj .un .un t
  rw[Qx];refine Sm ?_ (by trivial);refine R_ (Sj (S1 aX r (fun t=>!decide (t∈bQ r a b)) id aX (d:=aC r) ?_ rfl rfl rfl (by decide) (by lia) (fun t _=>?_) fun t _ _=>O_ rfl (Sk ⟨rfl,rfl⟩)) (by decide))
  rotate_left
  ·exact Si (P_ (O_ rfl (Sg rfl (T4 (t:=t) (K:=bQ r a b) (Sf ⟨rfl,rfl⟩) rfl rfl))))
  rw[Qx,jo];refine Sm ?_ (by trivial);refine R_ (Sj (Uc aX st id xr ?_ hsl rfl (by decide) (by lia) fun t _=>?_) (by decide))
  rotate_left
  ·exact SK (m_ (P_ (O_ rfl (Se (Sh (Q_ (So (S8 ⟨rfl,rfl⟩) rfl rfl (by exact Pw rfl))) rfl rfl rfl)))))
  rw[Qx];refine Sm ?_ (by trivial);refine R_ (Sj (SD (m_ (O_ rfl (m_ (Sg rfl (m_ (O_ rfl (m_ (O_ rfl (m_ (P_ (O_ rfl (Sw (m_ (Sg rfl (Q_ ⟨_,_,rfl,rfl,SV ?_ rfl rfl⟩)))))))))))))))) (by decide));rw[gV];refine Q_ (S3 ew (Sn ?_ (by trivial)) rfl rfl rfl rfl);refine R_ (UU (ds0:=st.map xr) (P_ (O_ rfl (Se (Sh ?_ rfl rfl rfl)))) rfl);refine⟨ws.map (gj n (cJ r a b)),st.map xr,_,rfl,rfl,rfl,?_,by rw[gV,gV];lia⟩;refine Sz (Td (m_ (Sw (m_ (Sg rfl (Q_ ⟨_,_,rfl,rfl,?_⟩))))));refine m_ (Sg rfl (m_ (P_ (O_ rfl (Se (Sh (Q_ (So ?_ rfl rfl (by exact Pw rfl))) rfl rfl rfl))))));rw[Pd,gV,gV];exact Tc rfl
 ·suffices q:Wq (eK (sE (eF Ad [(eV 0),(eV 2),(eV 3)]))
   (eK (sA 5 (aI 1 1 (bN 9) (e8 (tV (e2 gIn (eV 2) (i9 (eV 9) (some (eC (.int 1))) none))) (tV (e2 gIn (eV 3) (i9 (eV 9) (some (eC (.int 1))) none)))) (eV 9)))
   (eK (sA 6 (aI 1 1 (bN 9) (tV (e2 bS (eV 9) (eV 5))) (eV 9)))
   (iV 7 (dg (iS (eSl (eV 5) none (some (eV 4)))) 1 (bN 9) (pN (cL [(e2 gIx (eV 9) (eC (.int 0)))])))
   (nv 7 bG [(eV 0),(eV 6),(eV 2),(eV 3),(e2 gp (eV 4) (eB cD [(eV 7)]))]))))) [.sh (.int n),.sh (aC r),.sh (.int a),.sh (.int b),.sh (.int most),.un,.un,.un,.un] (fun p=>p=.t [.s (.int (st.length+ws.length:Nat)),.l (st.map CZ++ws.map (gk n (cJ r a b))),.s (bD o)]) by
   unfold br;obtain⟨p,e1,rfl⟩:=UH (n:=5) (m:=4) (ds:=[.int n,aC r,.int a,.int b,.int most]) q rfl rfl;exact e1
  refine TF (Tt (SD (m_ (O_ rfl (m_ (O_ rfl (m_ (O_ rfl (Q_ (SA (kj n a b a0 a1 b0 b1 Kq) ?_ rfl rfl))))))))));refine TF (Sj (S1 aX r (dF a b) id aX (d:=aC r) ?_ rfl rfl rfl (by decide) (by lia) (fun t _=>?_) fun t _ _=>O_ rfl (Sk ⟨rfl,rfl⟩)) (by decide))
  rotate_left
  ·exact cj .un .un t
  rw[Qx];refine Sm ?_ (by trivial);refine TF (Sj (S1 aX r (fun t=>!decide (t∈bQ r a b)) id aX (d:=aC r) ?_ rfl rfl rfl (by decide) (by lia) (fun t _=>?_) fun t _ _=>O_ rfl (Sk ⟨rfl,rfl⟩)) (by decide))
  rotate_left
  ·exact Si (P_ (O_ rfl (Sg rfl (T4 (t:=t) (K:=bQ r a b) (Sf ⟨rfl,rfl⟩) rfl rfl))))
  rw[Qx,jo];refine Sm ?_ (by trivial);refine Uz (Tq aX st CZ (fun ρ=>∃c,ρ=[.sh (.int n),.sh (aC r),.sh (.int a),.sh (.int b),.sh (.int most),.ow (aC (bQ r a b)),.ow (aC (cJ r a b)),.un,.un]++[c]) hsl (by lia) ⟨_,rfl⟩ ?_ ?_) (by decide)
  ·rintro t ht ρ ⟨c,rfl⟩;refine⟨_,rfl,?_⟩;exact Ux (SK (m_ (P_ (O_ rfl (Se (Sh (Q_ (So ⟨rfl,rfl,_,rfl⟩ rfl rfl (by exact Pw rfl))) rfl rfl rfl))))))
  ·rintro ρ2 ⟨c,rfl⟩;refine⟨_,rfl,?_⟩;refine U_ (ρ':=[.sh (.int n),.sh (aC r),.sh (.int a),.sh (.int b),.sh (.int most),.sh (aC (bQ r a b)),.sh (aC (cJ r a b)),.sh (.lst (st.map xr)),.un]) ?_ ?_
   ·refine m_ (O_ rfl (m_ (O_ rfl (m_ (O_ rfl (m_ (O_ rfl (m_ (P_ (O_ rfl (Sw (m_ (O_ rfl (Q_ ⟨_,_,rfl,rfl,SV ?_ rfl rfl⟩))))))))))))));rw[gV];refine Q_ ⟨_,_,_,_,rfl,eP,⟨by rw[gV,gV];lia,qA _ _ ws,qB o⟩,?_⟩;rw[gV,gV]
   ·unfold see;rw[Gd];rfl
theorem dQ(x n:Int)(h:1<=n):0<=x % n/\x % n<n:=⟨Int.emod_nonneg x (by lia),Int.emod_lt_of_pos x (by lia)⟩
noncomputable def at'(ns:List Int)(i:Int):Int:=ns.getD i.toNat 0
theorem KD(ns:List Int)(i:Int)(h0:0<=i)(h1:i<ns.length):gIx (.lst (ns.map Dat.int)) (.int i)=some (.val (.int (at' ns i))):=by show (atI (ns.map Dat.int) i).map RV.val=_;rw[Dm.iB Dat.int ns i h0 h1];unfold at';rw[Qs,Py (by lia)];rfl
theorem M4(h0:0<=i)(h1:i<ns.length)(k:K (.val (.int (at' ns i))))(ho:o=some (.lst (ns.map Dat.int)))(hp:p=some (.int i)):Wg2 gIx o p K:=⟨_,_,_,ho,hp,KD ns i h0 h1,k⟩
noncomputable def cB(x:Int):Dat:=.lst [.int x]
theorem Ge(ns:List Int)(k:Int)(h0:0<=k):∃x,uz [.lst (ns.map Dat.int),.int k]=some (.val (.int x)):=by
 suffices h:Wr (uz [.lst (ns.map Dat.int),.int k]) fun v=>∃x,v=.val (.int x) by obtain⟨v,h1,c,rfl⟩:=h;exact⟨c,h1⟩
 unfold uz
 (refine Dm.Sy ?_ rfl rfl;and_intros)
 repeat array_get_dec
 refine⟨fun h=>?_,fun h=>?_⟩
 ·have h:=of_decide_eq_true h
  repeat array_get_dec
  refine M4 h0 (by simpa using h) ?_ rfl rfl;exact⟨_,rfl⟩
 ·repeat array_get_dec
  exact⟨_,rfl⟩
theorem yS(ns:List Int)(k:Int)(h0:0<=k)(h1:k<1000):∃x,qq [.lst (ns.map Dat.int),.int k]=some (.new (cB x)):=by
 suffices h:Wr (qq [.lst (ns.map Dat.int),.int k]) fun v=>∃x,v=.new (cB x) by obtain⟨v,h1,c,rfl⟩:=h;exact⟨c,h1⟩
 obtain⟨c,ec⟩:=Ge ns k h0;unfold qq
 (refine Dm.Sy ?_ rfl rfl;and_intros)
 refine R_ (Sj (SD (m_ (O_ rfl (m_ (O_ rfl (Q_ (SA ec ?_ rfl rfl))))))) (by decide));refine Sn ?_ (by trivial);refine R_ (Sv (Si (P_ (O_ rfl (P_ (Se (Se (Ug (z:=1000000000000000000) ?_ rfl rfl (by decide) (by decide)))))))));refine Uu (Sf ?_) rfl rfl;refine⟨fun h=>?_,fun h=>?_⟩
 ·repeat array_get_dec
  exact⟨_,rfl⟩
 ·refine Su ?_;refine R_ (Sj (Se (Sn ?_ (by trivial))) (by decide));refine R_ (SM (Ti (Se (bY.mk ⟨?_,by decide,by decide⟩))));refine SQ (fun i:Nat=>Dat.int (0+(i:Nat))) _ _ (PM 48) _ _ _ _ _ (fun p q ρ=>∃(x:Int) (c4 c5:Cell),ρ=[.sh (.lst (ns.map Dat.int)),.sh (.int k),.sh (.int c),.sh (.int x),c4,c5]) ⟨_,_,_,rfl⟩ ?_ ?_
  ·rintro p i q ρ e ⟨x,c4,c5,rfl⟩;have hi:i<48:=Qh.mp (by rw[e];simp);refine Dm.bZ rfl (by trivial) ?_;unfold CF;refine Tg (fun ρ=>∃y:Int,(0<=y/\y<2147483647)/\ρ=[.sh (.lst (ns.map Dat.int)),.sh (.int k),.sh (.int c),.sh (.int x),.sh (.int (0+(i:Nat))),.sh (.int y)]) ?_ ?_
   ·repeat array_get_dec
    ·exact⟨_,dQ _ _ (by decide),rfl⟩
    all_goals unfold B64
    all_goals lia
   rintro ρ ⟨y,hy,rfl⟩;refine Tg (fun ρ=>∃y:Int,(0<=y/\y<2147483647)/\ρ=[.sh (.lst (ns.map Dat.int)),.sh (.int k),.sh (.int c),.sh (.int x),.sh (.int (0+(i:Nat))),.sh (.int y)]) ?_ ?_
   ·repeat array_get_dec
    ·exact⟨_,by have:=dQ (y*y) 1000000007 (by decide);lia,rfl⟩
    ·exact .inl (by unfold B64;lia)
   rintro ρ ⟨z,hz,rfl⟩;refine Tg (fun ρ=>∃y:Int,(0<=y/\y<2147483647)/\ρ=[.sh (.lst (ns.map Dat.int)),.sh (.int k),.sh (.int c),.sh (.int x),.sh (.int (0+(i:Nat))),.sh (.int y)]) ?_ ?_
   ·repeat array_get_dec
    ·exact⟨_,by have:=dQ ((z+7919*(0+((i:Nat):Int)))*69621) 2147483587 (by decide);lia,rfl⟩
   rintro ρ ⟨u,hu,rfl⟩
   repeat array_get_dec
   exact⟨_,_,_,rfl⟩
  ·rintro ρ ⟨x,c4,c5,rfl⟩
   repeat array_get_dec
   exact⟨_,rfl⟩
theorem Gf(x m:Int)(h0:0<m)(h1:m<iJ):cg [cB x,.int m]=some (.val (.int (x % m)),cB (x / m)):=by
 suffices h:WrM (cg [cB x,.int m]) fun v d=>v=.val (.int (x % m))/\d=cB (x / m) by obtain⟨v,d,h1,rfl,rfl⟩:=h;exact h1
 unfold cg;refine T3 ?_ rfl rfl;and_intros;unfold cB
 repeat array_get_dec
 ·refine UQ ?_
  repeat array_get_dec
  ·refine⟨_,0,_,rfl,rfl,rfl,?_⟩
   repeat array_get_dec
   exact⟨_,rfl,rfl,rfl⟩
  ·exact⟨h0,h1⟩
 ·exact h0
def Wtk(j:Nat)(m:Int)(ρ1:Env)(Q:Val->Env->Prop):Prop:=∃x ρ3,Q (.val (.int (x % m))) ρ3/\ρ1[j]?=some (.ow (cB x))/\ρ1.set j (.ow (cB (x / m)))=ρ3/\0<m/\m<iJ
theorem su{ρ1 ρ3:Env}(q:Q (.val (.int (x % m))) ρ3)(h2:ρ1[j]?=some (.ow (cB x)))(hn:ρ1.set j (.ow (cB (x / m)))=ρ3)(h0:0<m)(h1:m<iJ):Wtk j m ρ1 Q:=⟨_,_,q,h2,hn,h0,h1⟩
theorem TU{a:FE}{d0:Dat}(h:We a ρ fun v ρ1=>bY v fun m=>Wtk j m ρ1 Q)(h0:ρ[j]?=some (.ow d0)):We (eFm cg j [a]) ρ Q:=by refine Uk (m_ ?_) h0;obtain⟨v,ρ1,e1,m,rfl,x,ρ3,q,e2,e3,m0,m1⟩:=h;exact⟨_,_,e1,Q_ (TY (Gf x m m0 m1) q e2 rfl e3)⟩
theorem SS{a:FE}(ha:a ρ=some (.val (.int m),ρ))(h0:0<m)(h1:m<iJ)(hj:ρ[j]?=some (.ow (cB x)))(k:∀t x':Int,0<=t->t<m->∀ρ3,ρ.set j (.ow (cB x'))=ρ3->Q (.val (.int t)) ρ3):We (eFm cg j [a]) ρ Q:=
 TU ⟨_,_,ha,m,rfl,su (k _ _ (dQ x m (by lia)).1 (dQ x m (by lia)).2 _ rfl) hj rfl h0 h1⟩ hj
def Good(n:Int):Int->List Tie->Prop
 |_,[]=>True
 |lo,t::r=>lo<=t.m/\0<=t.a/\t.a<=t.b/\t.b<n/\Good n (t.m+1) r
theorem Good.pl:∀{r:List Tie} {lo:Int},Good n lo r->Pl n r
 |[],_,_,t,ht=>by cases ht
 |u::r,lo,h,t,ht=>by
  obtain⟨h1,h2,h3,h4,h5⟩:=h;rcases Pk.mp ht with rfl | ht
  ·lia
  ·exact Good.pl h5 t ht
theorem Good.lo{n:Int}:∀{r:List Tie} {lo:Int},Good n lo r->∀t∈r,lo<=t.m
 |[],_,_,t,ht=>by cases ht
 |u::r,lo,h,t,ht=>by
  obtain⟨h1,h2,h3,h4,h5⟩:=h;rcases Pk.mp ht with rfl | ht
  ·exact h1
  ·have:=Good.lo h5 t ht;lia
theorem Good.nd{n:Int}:∀{r:List Tie} {lo:Int},Good n lo r->(r.map (·.m)).Nodup
 |[],_,_=>by simp
 |u::r,lo,h=>by
  obtain⟨h1,h2,h3,h4,h5⟩:=h;rw[eg,Pj];refine⟨fun z=>?_,Good.nd h5⟩;obtain⟨t,ht,e⟩:=Pc.mp z;have:=Good.lo h5 t ht
  lia
theorem Good.snoc{n:Int}:∀{r:List Tie} {lo hi:Int} {t:Tie},Good n lo r->(∀u∈r,u.m<hi)->lo<=hi->hi=t.m->0<=t.a->t.a<=t.b->t.b<n->Good n lo (r++[t])
 |[],_,_,_,_,_,h,e,h1,h2,h3=>⟨by lia,h1,h2,h3,trivial⟩
 |u::r,lo,hi,t,h,hu,hl,e,h1,h2,h3=>by obtain⟨k1,k2,k3,k4,k5⟩:=h;exact⟨k1,k2,k3,k4,Good.snoc k5 (fun v hv=>hu v (Dk _ hv)) (by have:=hu u O9;lia) e h1 h2 h3⟩
theorem Good.pl'{n:Int}:∀{r:List Tie} {lo:Int},Good n lo r->∀t∈r,0<=t.a/\t.a<n/\0<=t.b/\t.b<n
 |[],_,_,t,ht=>by cases ht
 |u::r,lo,h,t,ht=>by
  obtain⟨h1,h2,h3,h4,h5⟩:=h;rcases Pk.mp ht with rfl | ht
  ·lia
  ·exact Good.pl' h5 t ht
theorem ix3(a b c:Int)(x:Int)(h0:0<=x)(h:x<3):gIx (.lst [.int a,.int b,.int c]) (.int x)=some (.val (.int (if x=0 then a else if x=1 then b else c))):=by
 have:x=0\/x=1\/x=2:=by lia
 rcases this with rfl | rfl | rfl<;>rfl
theorem C0(r:List Tie)(i:Int)(h0:0<=i)(h1:i<r.length):gIx (aC r) (.int i)=some (.val (aX (r[i.toNat]'(by omega)))):=by unfold aC gIx;dsimp only;rw[iB aX r i h0 h1];rfl
noncomputable def RE(pool:Int)(n most many wide KG:Int)(r:List Tie)(c7 c8 c9:Cell):Env:=
 [.ow (cB pool),.sh (.int n),.sh (.int most),.sh (.int many),.sh (.int wide),.sh (.int KG),.ow (aC r),c7,c8,c9]
theorem Gg(a b:Int):(if b<a then b else a)<=(if b>a then b else a):=by split<;>split<;>lia
theorem An(x n most:Int)(n1:1<=n)(n10:n<=10)(m0:0<=most)(m60:most<=60) :
  ∃(r:List Tie) (x':Int),uA [cB x,.int n,.int most]=some (.new (aC r),cB x')/\Good n 0 r/\(r.length:Int)<=most:=by
 suffices hh:WrM (uA [cB x,.int n,.int most]) fun v d=>∃(r:List Tie) (x':Int),v=.new (aC r)/\d=cB x'/\Good n 0 r/\(r.length:Int)<=most by obtain⟨v,d,h1,h,x',rfl,rfl,h2⟩:=hh;exact⟨h,x',h1,h2⟩
 unfold uA;refine T3 ?_ rfl rfl;and_intros;refine R_ (Sj ?_ (by decide));refine SS (m:=most+1) rfl (by lia) (by unfold iJ;lia) rfl fun many x1 h1 h2 ρ3 e=>?_;subst e;refine Sn ?_ (by trivial);refine R_ (Sj ?_ (by decide));refine SS (m:=3) rfl (by decide) (by decide) rfl fun wide x2 k1 k2 ρ3 e=>?_;subst e;refine Sn ?_ (by trivial);refine R_ (Sj ?_ (by decide));refine SS (m:=4) rfl (by decide) (by decide) rfl fun mo x3 w1 w2 ρ3 e=>?_;subst e;refine Sn ?_ (by trivial);refine R_ (Sj (SK (Q_ (So ?_ rfl rfl (by decide)))) (by decide));refine Sm ?_ (by trivial);refine R_ (SM (Ti (O_ rfl (bY.mk ⟨?_,by unfold BIG;lia⟩))));refine SQ (fun i:Nat=>Dat.int (0+(i:Nat))) _ _ (PM many.toNat) _ _ _ _ _ (fun p q ρ=>∃(x mo:Int) (r:List Tie) (c7 c8 c9:Cell),ρ=RE x n most many wide mo r c7 c8 c9/\p=PM p.length/\Good n 0 r/\r.length=p.length/\(∀u∈r,u.m<mo)/\0<=mo)
  ⟨_,_,[],_,_,_,rfl,rfl,trivial,rfl,(fun u hu=>by cases hu),w1⟩ ?_ ?_
 ·rintro p i q ρ e ⟨x,mo,r,c7,c8,c9,rfl,hpp,hg,hl,hu,hm⟩;have lp:(PM many.toNat).length=p.length+(q.length+1):=by rw[e];simp
  rw[Qp]at lp;have hi:i=p.length:=by
   have h1:(PM many.toNat)[p.length]?=some i:=by rw[e];simp
   rw[QV (by lia)]at h1;exact(Option.some.inj h1).symm
  unfold RE;refine Dm.bZ rfl (by trivial) ?_;unfold CG;refine R_ (Sj ?_ (by decide));refine SS (m:=n) rfl (by lia) (by unfold iJ;lia) rfl fun one y1 o1 o2 ρ3 e1=>?_;subst e1;refine Sn ?_ (by trivial);refine R_ (Sj ?_ (by decide));refine SS (m:=n) rfl (by lia) (by unfold iJ;lia) rfl fun oth y2 u1 u2 ρ3 e1=>?_;subst e1;refine Sn ?_ (by trivial);refine Tg (fun ρ=>∃o:Int,(0<=o/\o<n)/\ρ=RE y2 n most many wide mo r (.sh (.int (0+(i:Nat)))) (.sh (.int one)) (.sh (.int o))) ?_ ?_
  ·refine Sv (S5 (Si (P_ (O_ rfl (Se (TL (Sf ?_) rfl rfl))))));refine SX (fun _=>?_) fun _=>?_
   ·refine Si (P_ (O_ rfl (O_ rfl (SH (Sf ?_) rfl rfl))));refine SX (fun _=>?_) fun _=>?_
    ·refine Sj (P_ (P_ (O_ rfl (Se (Sq (O_ rfl (Tn ?_ rfl rfl (by lia))) rfl rfl))))) (by decide);exact Sn ⟨_,dQ _ n n1,rfl⟩ (by trivial)
    ·exact Su ⟨oth,⟨u1,u2⟩,rfl⟩
   ·exact SJ rfl (Su ⟨oth,⟨u1,u2⟩,rfl⟩)
  rintro ρ ⟨o,⟨q1,q2⟩,rfl⟩;refine Tg (fun ρ=>∃y v o:Int,(0<=v/\v<n)/\(0<=o/\o<n)/\ρ=RE y n most many wide mo r (.sh (.int (0+(i:Nat)))) (.sh (.int v)) (.sh (.int o))) ?_ ?_
  ·unfold RE;refine Sv (S5 (Si (P_ (O_ rfl (Se (TL (Sf ?_) rfl rfl))))));refine SX (fun hk=>?_) fun _=>?_
   ·refine Si (P_ ?_);refine SS (m:=4) rfl (by decide) (by decide) rfl fun t y3 t1 t2 ρ3 e1=>?_;subst e1;refine Se (SH (Sf ?_) rfl rfl);refine SX (fun _=>?_) fun _=>?_
    ·have hj:(0:Int)<=0+((i:Nat):Int)-1:=by lia
     have hj2:0+((i:Nat):Int)-1<r.length:=by rw[hl];lia
     have pt:=hg.pl' (r[(0+((i:Nat):Int)-1).toNat]'(by lia)) (Rm _);refine R_ (Sj (P_ (P_ (Sg rfl (P_ (O_ rfl (Se (SV ?_ rfl rfl))))))) (by decide));refine Sh ?_ rfl rfl (C0 r _ hj hj2);refine Se (Sh ?_ rfl rfl rfl);refine Sn ?_ (by trivial);refine Sj (P_ (P_ (Sg rfl (P_ (O_ rfl (Se (SV ?_ rfl rfl))))))) (by decide);refine Sh ?_ rfl rfl (C0 r _ hj hj2);refine Se (Sh ?_ rfl rfl rfl);exact Sn ⟨_,_,_,⟨pt.1,pt.2.1⟩,⟨pt.2.2.1,pt.2.2.2⟩,rfl⟩ (by trivial)
    ·exact Su ⟨_,_,_,⟨o1,o2⟩,⟨q1,q2⟩,rfl⟩
   ·exact SJ rfl (Su ⟨_,_,_,⟨o1,o2⟩,⟨q1,q2⟩,rfl⟩)
  rintro ρ ⟨y4,v,o,⟨v1,v2⟩,⟨q1,q2⟩,rfl⟩;unfold RE;refine R_ (S_ (Td (m_ (O_ rfl (m_ (Sw (m_ (O_ rfl (m_ (O_ rfl (Q_ (TM ?_ rfl))))))))))) rfl);refine m_ (Sw (m_ (O_ rfl (m_ (O_ rfl (Q_ (TX ?_ rfl)))))));refine Q_ (So ?_ rfl rfl (by exact Pw rfl));refine Sk (kN ?_ rfl (by trivial) (by rw[gV];unfold SZ;lia));refine Sj (P_ (P_ (O_ rfl (Se (Sq ?_ rfl rfl))))) (by decide);have w1':(0:Int)<(if wide=0 then 1 else if wide=1 then 3 else 1000)/\(if wide=0 then 1 else if wide=1 then 3 else 1000:Int)<2000:=by split;decide;split<;>decide
  refine P_ ?_;refine TU (P_ (SK (m_ (Se (m_ (Se (m_ (Se (Q_ (So ?_ rfl rfl (by exact Pw rfl))))))))))) rfl;refine O_ rfl (Sh ?_ rfl rfl (ix3 1 3 1000 wide k1 k2));refine bY.mk (su ?_ rfl rfl w1'.1 (by unfold iJ;lia));have hm0:=dQ y4 (if wide=0 then 1 else if wide=1 then 3 else 1000) (by lia);refine P_ (SK (m_ (Se (m_ (Se (m_ (P_ (Se (Se (Ug (z:=10000000000000000000000000) ?_ rfl rfl (by decide) (by decide)))))))))));refine Q_ (So ?_ rfl rfl (by exact Pw rfl));refine O_ rfl (Sh ?_ rfl rfl (ix3 1 1 10000000000000000000000000 wide k1 k2));refine Tp ?_ rfl rfl (.inl (by unfold B64;lia));refine Sq ?_ rfl rfl;refine Sn ?_ (by trivial)
  generalize hf:(if wide=0 then 1 else if wide=1 then 1 else 10000000000000000000000000:Int)=f
  have hf0:0<=f:=by rw[<- hf];split;decide;split<;>decide
  generalize (y4 % if wide=0 then 1 else if wide=1 then 3 else 1000:Int)=t at hm0 ⊢
  have tn:=Int.mul_nonneg hm0.1 hf0;refine⟨y4 / (if wide=0 then 1 else if wide=1 then 3 else 1000),mo+1+t*f,r++[⟨mo,(if o<v then o else v),(if o>v then o else v)⟩],.sh (.int (0+(i:Nat))),.sh (.int v),.sh (.int o),?_,?_,?_,by simp[hl],?_,by lia⟩
  ·unfold aC;rw[Pf];rfl
  ·rw[Pd,QC,List.range_succ,<- hpp,hi]
  ·refine Good.snoc (hi:=mo) hg hu hm rfl ?_ (Gg v o) ?_
   ·show 0<=(if o<v then o else v);split<;>lia
   ·show (if o>v then o else v)<n;split<;>lia
  ·intro u hu';rcases Pp.mp hu' with h | h
   ·have:=hu u h;lia
   ·rw[Pn.mp h];show mo<_;lia
 ·rintro ρ ⟨x,mo,r,c7,c8,c9,rfl,hpp,hg,hl,hu,hm⟩;unfold RE;refine Sz (Sg rfl (S0 ?_ rfl));refine⟨_,rfl,r,x,rfl,rfl,hg,?_⟩;rw[hl,Qp]
  lia
noncomputable def dd(Cr:List Int)(x:Int):List Int:=if Cr.any (· == x) then Cr else Cr++[x]
theorem Gh(Cr:List Int)(x:Int):Cr.any (· == x)=decide (x∈Cr):=by rw[Rc];simp
theorem kU:∀(ns Cr:List Int),(ns.foldl dd Cr).length<=Cr.length+ns.length/\((ns.foldl dd Cr).length=Cr.length+ns.length↔(ns.Nodup/\∀x∈ns,x∉Cr))
 |[],Cr=>by simp
 |x::ns,Cr=>by
  rw[List.foldl_cons];unfold dd;rw[Gh];by_cases h:x∈Cr
  ·rw[decide_eq_true h,if_pos rfl];obtain⟨h1,h2⟩:=kU ns Cr;unfold dd at h1 h2;rw[PL];refine⟨by lia,⟨fun e=>by lia,fun⟨_,e⟩=>absurd h (e x O9)⟩⟩
  ·rw[decide_eq_false h,if_neg (by decide)];obtain⟨h1,h2⟩:=kU ns (Cr++[x]);unfold dd at h1 h2;rw[Pd,QC]at h1 h2;rw[PL];refine⟨by lia,?_⟩;rw[show Cr.length+(ns.length+1)=Cr.length+1+ns.length by lia,h2,Pj];constructor
   ·rintro⟨h3,h4⟩;refine⟨⟨fun hx=>h4 x hx (by simp),h3⟩,fun y hy=>?_⟩;rcases Pk.mp hy with rfl | hy
    ·exact h
    ·exact fun z=>h4 y hy (by simp[z])
   ·rintro⟨⟨h3,h4⟩,h5⟩;refine⟨h4,fun y hy z=>?_⟩;rcases Pp.mp z with z | z
    ·exact h5 y (Dk _ hy) z
    ·rw[Pn]at z;subst z;exact h3 hy
theorem Ao(ms:List Int):gP (ms.map Dat.int)=some ms:=by
 induction ms with
 |nil=>rfl
 |cons m ms ih=>rw[eg,gP,ih];rfl
theorem qC(ms:List Int)(h:ms.length<=4000):∃k:Nat,cV (.lst (ms.map Dat.int))=some (.val (.int (k:Nat)))/\(k=ms.length↔ms.Nodup):=by
 refine⟨(dedup ms).length,?_,?_⟩
 ·unfold cV;dsimp only;rw[Ao];dsimp only;rw[if_pos h]
 ·have:=(kU ms []).2;simp at this;exact this
theorem gf(i:Int):uB [.int i]=some (.val (.bl true)):=rfl
theorem yT(xs:List α):xs.all (fun _=>true)=true:=by induction xs<;>simp
theorem pK(ms:List Int)(h:ms.length<=1000):yH [.lst (ms.map Dat.int)]=some (.val (.bl true)):=by
 apply SG;unfold yH
 (refine Dm.Sy ?_ rfl rfl;and_intros)
 refine Sz (S7 (SW (O_ rfl (SO (v:=.val (.bl true)) (Sf (SN ?_)) rfl rfl))));refine Sw (m_ (TJ Dat.int ms (fun _=>true) Dat.bl (d:=.lst (ms.map Dat.int)) ?_ rfl rfl rfl (by decide) (by unfold SZ;lia) fun x hx=>?_))
 ·refine Q_ (Tu (fun _=>true) ?_ (by rw[Pr];rfl));rw[yT];rfl
 ·exact SD (m_ (O_ rfl (Q_ (SA (gf x) (Sk ⟨rfl,rfl⟩) rfl rfl))))
noncomputable def ic(r:List Tie):Int->List Int->Option Int
 |x,[]=>some x
 |x,m::w=>match r.filter (fun t=>decide (t.m=m)) with
  |[]=>none
  |t::_=>if t.a=t.b\/¬(x=t.a\/x=t.b) then none else ic r (t.a+t.b-x) w
theorem Gi(a b:Nat):decide ((a:Int)=(b:Int))=decide (a=b):=by
 by_cases h:a=b
 ·subst h;simp
 ·have:¬(a:Int)=(b:Int):=by lia
  simp[h,this]
theorem Gj(t:Tie):cut [.int t.m,.int t.a,.int t.b] (some 1) none=[.int t.a,.int t.b]:=rfl
theorem Gk(hl:r.length<=1000)(a b:Int)(w:List Int)(hw:w.length<=1000) :
  uC [aC r,.int a,.int b,.lst (w.map Dat.int)]=some (.val (.bl (decide w.Nodup&&decide (ic r a w=some b)))):=by
 apply SG;unfold uC
 (refine Dm.Sy ?_ rfl rfl;and_intros)
 obtain⟨c,hc,hc2⟩:=qC w (by lia);refine R_ (Sv (SR (SI (Si (SD (m_ (O_ rfl (Q_ (SA (pK w hw) (Sf (Ss ?_)) rfl rfl)))))))));refine Si (P_ (SW (O_ rfl (SO (v:=.val (.int (c:Nat))) ?_ rfl hc))));refine Sw (m_ (O_ rfl (Q_ (S9 (ur:=Dat.int) (xs:=w) ?_ rfl))));refine S6 (Sf ?_) rfl rfl;rw[Gi];by_cases hnd:w.Nodup
 ·rw[decide_eq_true (hc2.mpr hnd),decide_eq_true hnd,Bool.true_and];refine Ss (Su ?_);refine R_ (Sj (O_ rfl (Sn ?_ (by trivial))) (by decide));refine R_ (SM (SY (O_ rfl (Sk ⟨w.map Dat.int,rfl,?_⟩))));refine SQ Dat.int _ _ w _ _ _ _ _ (fun p q ρ=>∃(x:Int) (c5 c6:Cell),ρ=[.sh (aC r),.sh (.int a),.sh (.int b),.sh (.lst (w.map Dat.int)),.sh (.int x),c5,c6]/\ic r a w=ic r x q) ⟨a,_,_,rfl,rfl⟩ ?_ ?_
  ·rintro p m q ρ e ⟨x,c5,c6,rfl,hx⟩;refine Dm.bZ rfl (by trivial) ?_;unfold CH;refine R_ (Sj (S1 aX r (fun t=>decide (t.m=m)) id aX (d:=aC r) ?_ rfl rfl rfl (by decide) (by unfold SZ;lia) (fun u _=>?_) fun u _ _=>O_ rfl (Sk ⟨rfl,rfl⟩)) (by decide))
   rotate_left
   ·refine Si (P_ (P_ (O_ rfl (Se (Sh (v:=.int u.m) ?_ rfl rfl rfl)))));exact O_ rfl (SH (Sf ⟨rfl,rfl⟩) rfl rfl)
   refine Sm ?_ (by trivial);rw[Qx];have hq:ic r x (m::q)=(match r.filter (fun t=>decide (t.m=m)) with
     |[]=>none
     |t::_=>if t.a=t.b\/¬(x=t.a\/x=t.b) then none else ic r (t.a+t.b-x) q):=by rw[ic]
   rw[hq]at hx;cases hf:r.filter (fun t=>decide (t.m=m)) with
   |nil=>rw[hf]at hx;refine R_ (Sv (SR (Si (P_ (Sg rfl (SK (Q_ (So (T7 (xs:=[]) (Sf (SN (SN (Sz (Se ?_))))) rfl rfl rfl) rfl rfl (by decide)))))))));dsimp only at hx;rw[hx];rfl
   |cons t l=>
    rw[hf]at hx;dsimp only at hx;have okl:okD 8 (.lst ((t::l).map aX))=true:=yG aX _ fun t=>rfl;refine R_ (Sv (SR (Si (P_ (Sg rfl (SK (Q_ (So (T7 (xs:=(t::l).map aX) (Sf (Ss ?_)) rfl rfl okl) rfl rfl (by decide)))))))));have ix0:gIx (.lst ((t::l).map aX)) (.int 0)=some (.val (aX t)):=by show (atI ((t::l).map aX) 0).map RV.val=_;unfold atI ixN;rw[if_pos (by lia),if_pos (by rw[eg,PL];lia)];rfl
    refine SR (Si (P_ (P_ (P_ (Sg rfl (Se (Sh (v:=aX t) ?_ rfl rfl ix0)))))));refine Se (Sh (v:=.int t.a) ?_ rfl rfl rfl);refine P_ (P_ (Sg rfl (Se (Sh (v:=aX t) ?_ rfl rfl ix0))));refine Se (Sh (v:=.int t.b) ?_ rfl rfl rfl);refine SH (Sf ?_) rfl rfl;by_cases Kq:t.a=t.b
    ·rw[if_pos (.inl Kq)]at hx;rw[decide_eq_true Kq];refine SN (SN (Sz (Se ?_)));rw[hx];rfl
    rw[decide_eq_false Kq];refine Ss ?_;refine Si (P_ (O_ rfl (Tf (P_ (Sg rfl (Se (Sh (v:=aX t) ?_ rfl rfl ix0)))))));refine Wp.some (Se (bY.mk (Wp.none ⟨_,rfl,(by show ¬(sIx 3 0 (some 1)=0/\sIx 3 3 none=3);decide),?_⟩)));rw[Gj];refine Uv (a:=t.a) (b:=t.b) (Sf ?_) rfl rfl;by_cases hm:x=t.a\/x=t.b
    ·rw[decide_eq_true hm];refine Ss (Su ?_);rw[if_neg (by rintro(z | z);exact Kq z;exact z hm)]at hx;refine Sj (P_ (P_ (P_ (P_ (Sg rfl (Se (Sh (v:=aX t) ?_ rfl rfl ix0))))))) (by decide);refine Se (Sh (v:=.int t.a) ?_ rfl rfl rfl);refine P_ (P_ (Sg rfl (Se (Sh (v:=aX t) ?_ rfl rfl ix0))));refine Se (Sh (v:=.int t.b) ?_ rfl rfl rfl);refine Sq ?_ rfl rfl;refine O_ rfl (SV (Sn ?_ (by trivial)) rfl rfl);exact⟨_,_,_,rfl,hx⟩
    ·rw[decide_eq_false hm];rw[if_pos (.inr hm)]at hx;refine SN (Sz (Se ?_));rw[hx];rfl
  ·rintro ρ ⟨x,c5,c6,rfl,hx⟩;refine Sz (P_ (O_ rfl (O_ rfl (SH ?_ rfl rfl))));rw[hx];unfold ic;have:decide (some x=some b)=decide (x=b):=by by_cases h:x=b<;>simp[h]
   rw[this];rfl
 ·rw[decide_eq_false fun z=>hnd (hc2.mp z),decide_eq_false hnd];exact SN (Sz (Se rfl))
def iX(r:List Tie):Int->List Tie->List Int->Prop
 |_,[],[]=>True
 |u,t::ts,v::us=>t∈r/\Ends t u v/\iX r v ts us
 |_,[],_::_=>False
 |_,_::_,[]=>False
def Uq(r:List Tie):Prop:=∀t∈r,∀u∈r,t.m=u.m->t=u
noncomputable def ko(u:Int)(us:List Int):Int:=(us.getLast?).getD u
theorem nX(u v:Int)(us:List Int):ko u (v::us)=ko v us:=by
 unfold ko;cases us with
 |nil=>rfl
 |cons w us=>rw[List.getLast?_cons_cons];cases h:(w::us).getLast? with
  |none=>simp at h
  |some x=>rfl
noncomputable def mss(ts:List Tie):List Int:=ts.map (·.m)
theorem nY(hu:Uq r)(ht:t∈r):∃l,r.filter (fun x=>decide (x.m=t.m))=t::l:=by
 cases h:r.filter (fun x=>decide (x.m=t.m)) with
 |nil=>have:t∈r.filter (fun x=>decide (x.m=t.m)):=PJ.mpr ⟨ht,decide_eq_true rfl⟩;rw[h]at this;cases this
 |cons x l=>
  have:x∈r.filter (fun x=>decide (x.m=t.m)):=by rw[h];exact O9
  obtain⟨h1,h2⟩:=PJ.mp this;rw[hu x h1 t ht (of_decide_eq_true h2)];exact⟨l,rfl⟩
theorem qD{u v:Int}(h:Ends t u v):t.a≠t.b/\(u=t.a\/u=t.b)/\t.a+t.b-u=v:=by
 obtain⟨h1,h2⟩:=h
 lia
theorem lJ(hu:Uq r):∀{ts:List Tie} {us:List Int} {u:Int},iX r u ts us->ic r u (mss ts)=some (ko u us)
 |[],[],u,_=>rfl
 |t::ts,v::us,u,h=>by obtain⟨h1,h2,h3⟩:=h;obtain⟨l,e⟩:=nY hu h1;obtain⟨n1,n2,n3⟩:=qD h2;show ic r u (t.m::mss ts)=_;unfold ic;rw[e];dsimp only;rw[if_neg (by rintro(z | z);exact n1 z;exact z n2),n3,lJ hu h3,nX]
 |[],_::_,_,h=>h.elim
 |_::_,[],_,h=>h.elim
theorem places_of_ok(hl:r.length<=1000)(hu:Uq r)(a:Int)(h:iX r a ts us)(h1:ts.length<=1000):yL [aC r,.int a,.lst ((mss ts).map Dat.int)]=some (.new (.lst ((a::us).map Dat.int))):=by
 have hz:SZ=100000:=rfl;have ml:(mss ts).length=ts.length:=by simp[mss]
 apply SG;unfold yL
 (refine Dm.Sy ?_ rfl rfl;and_intros)
 refine R_ (Sj (SK (m_ (O_ rfl (Q_ (So ?_ rfl rfl (by exact Pw rfl)))))) (by decide));refine Sm ?_ (by trivial);refine R_ (SM (SY (O_ rfl (Sk (bP ?_)))));rw[show (mss ts).map Dat.int=ts.map fun t=>Dat.int t.m by unfold mss;rw[Pr];rfl];refine SQ (fun t:Tie=>Dat.int t.m) _ _ ts _ _ _ _ _ (fun p q ρ=>∃(pre:List Int) (u:Int) (vs:List Int) (c4 c5:Cell),ρ=[.sh (aC r),.sh (.int a),.sh (.lst (ts.map fun t=>Dat.int t.m)),.ow (.lst ((pre++[u]).map Dat.int)),c4,c5]/\pre.length=p.length/\iX r u q vs/\pre++[u]++vs=a::us) ⟨[],a,us,_,_,rfl,rfl,h,rfl⟩ ?_ ?_
 ·rintro p t q ρ e ⟨pre,u,vs,c4,c5,rfl,pl,hT,hv⟩;refine Dm.bZ rfl (by trivial) ?_;cases vs with
  |nil=>exact hT.elim
  |cons v vs=>
   obtain⟨t1,t2,t3⟩:=hT;obtain⟨l,el⟩:=nY hu t1;obtain⟨n1,n2,n3⟩:=qD t2;have ql:p.length+1<=ts.length:=by rw[e];simp
   unfold CL;refine R_ (Sj (P_ (S1 aX r (fun x=>decide (x.m=t.m)) id aX (d:=aC r) ?_ rfl rfl rfl (by decide) (by lia) (fun x _=>?_) fun x _ _=>O_ rfl (Sk ⟨rfl,rfl⟩))) (by decide))
   rotate_left
   ·exact Si (P_ (P_ (O_ rfl (Se (Sh (v:=.int x.m) (O_ rfl (SH (Sf ⟨rfl,rfl⟩) rfl rfl)) rfl rfl rfl)))))
   rw[Qx,el];refine Se (Tj (ur:=aX) (xs:=t::l) (i:=0) (by decide) (by rw[PL];lia) (Sn ?_ (by trivial)) rfl rfl);refine S_ (P_ (P_ (P_ (O_ rfl (Se (Sh (v:=.int t.a) ?_ rfl rfl rfl)))))) rfl;refine P_ (O_ rfl (Se (Sh (v:=.int t.b) ?_ rfl rfl rfl)));refine Sq ?_ rfl rfl;have ixl:gIx (.lst ((pre++[u]).map Dat.int)) (.int (-1))=some (.val (.int u)):=by rw[Pf];show (atI (pre.map Dat.int++[Dat.int u]) (-1)).map RV.val=_;unfold atI ixN;rw[if_neg (by decide),if_pos (by rw[Pd,QC];lia)];rw[Pd,gV];show Option.map RV.val ((pre.map Dat.int++[Dat.int u])[_]?)=_;rw[show ((-1:Int)+((pre.length+[Dat.int u].length:Nat):Int)).toNat=(pre.map Dat.int).length by simp;lia,List.getElem?_concat_length];rfl
   refine P_ (Sg rfl (SW (Se (SO (v:=.val (.int (-1))) (Sh (v:=.int u) ?_ rfl rfl ixl) rfl rfl))));refine SV ?_ rfl rfl;rw[n3];refine Sk (kN ?_ rfl (by trivial) (by rw[gV,Pd];simp;lia));refine⟨pre++[u],v,vs,.sh (.int t.m),.sh (aX t),?_,by simp[pl],t3,by rw[<- hv];simp⟩;rw[show (pre++[u]++[v]).map Dat.int=(pre++[u]).map Dat.int++[Dat.int v] from Pf];rfl
 ·rintro ρ ⟨pre,u,vs,c4,c5,rfl,pl,hT,hv⟩;cases vs with
  |cons _ _=>exact hT.elim
  |nil=>rw[PY]at hv;rw[hv];exact Sz (Sg rfl (S0 rfl rfl))
noncomputable abbrev Tr:=List Tie×List Int
noncomputable def jq(x:Tr):Dat:=.lst ((mss x.1).map Dat.int)
structure Trs(r:List Tie)(a b:Int)(T:List Tr):Prop where
 tr:∀x∈T,iX r a x.1 x.2/\ko a x.2=b
 ms:(T.map fun x=>mss x.1).flatten.Nodup
 pl:∀x∈T,(a::x.2).Nodup
 inn:(T.map fun x=>x.2.dropLast).flatten.Nodup
 few:T.length<=200/\∀x∈T,x.1.length<=20/\x.2.length<=20
theorem nZ(f:α->List Int)(k:Nat):∀(T:List α),(∀x∈T,(f x).length<=k)->(T.map f).flatten.length<=T.length*k
 |[],_=>by simp
 |x::T,h=>by
  have h1:=h x O9;have h2:=nZ f k T fun y hy=>h y (Dk _ hy);rw[eg,Qo,Pd,PL,Nat.succ_mul]
  lia
theorem sy{ms:List Int}(h:ms.length<=4000)(hn:ms.Nodup):cV (.lst (ms.map Dat.int))=some (.val (.int (ms.length:Nat))):=by obtain⟨k,e,h2⟩:=qC ms h;rw[e,h2.mpr hn]
theorem C1(f:α->List Int){T:List α}(h:(T.map f).flatten.Nodup):∀x∈T,(f x).Nodup:=fun x hx=>(QJ.mp h).1 _ (Pc.mpr ⟨x,hx,rfl⟩)
theorem qE(f:α->List Int)(p:List α)(x:α):((p++[x]).map f).flatten=(p.map f).flatten++f x:=by simp
theorem C2(hl:r.length<=1000)(hu:Uq r){T:List Tr}(h:Trs r a b T):yI [aC r,.int a,.int b,.lst (T.map jq)]=some (.val (.bl true)):=by
 have hz:SZ=100000:=rfl;obtain⟨k1,k2⟩:=h.few;have ld:∀x∈T,uC [aC r,.int a,.int b,jq x]=some (.val (.bl true)):=fun x hx=>by
  obtain⟨h1,h2⟩:=h.tr x hx;have ml:(mss x.1).length=x.1.length:=by simp[mss]
  have hle:=(k2 x hx).1;unfold jq;rw[Gk hl a b (mss x.1) (by lia),lJ hu h1,h2,decide_eq_true (C1 _ h.ms x hx),decide_eq_true rfl];rfl
 have fl:(T.map fun x=>mss x.1).flatten.length<=4000:=by
  have:=nZ (fun x:Tr=>mss x.1) 20 T fun x hx=>by
   have:=(k2 x hx).1;simp[mss]
   lia
  lia
 apply SG;unfold yI
 (refine Dm.Sy ?_ rfl rfl;and_intros)
 refine R_ (Sv (SR (SI (Si (SW (O_ rfl (SO (v:=.val (.bl true)) (Sf (Ss ?_)) rfl rfl)))))));refine SI (Si (Sw (m_ (TJ jq T (fun _=>true) Dat.bl (d:=.lst (T.map jq)) ?_ rfl rfl rfl (by decide) (by lia) fun x hx=>?_))))
 rotate_left
 ·exact SD (m_ (O_ rfl (m_ (O_ rfl (m_ (O_ rfl (m_ (O_ rfl (Q_ (SA (ld x hx) (Sk ⟨rfl,rfl⟩) rfl rfl))))))))))
 refine Q_ (Tu (fun _=>true) (Sf ?_) (by rw[Pr];rfl));rw[yT];refine Ss (Su ?_);refine R_ (Sj (SK (Q_ (So ?_ rfl rfl (by decide)))) (by decide));refine Sm ?_ (by trivial);refine R_ (SM (SY (O_ rfl (Sk (bP ?_)))));refine SQ jq _ _ T _ _ _ _ _ (fun p q ρ=>∃c5,ρ=[.sh (aC r),.sh (.int a),.sh (.int b),.sh (.lst (T.map jq)),.ow (.lst ((p.map fun x=>mss x.1).flatten.map Dat.int)),c5]) ⟨_,rfl⟩ ?_ ?_
 ·rintro p x q ρ e ⟨c5,rfl⟩;refine Dm.bZ rfl (by trivial) ?_;unfold CI;have sF:(T.map fun x=>mss x.1).flatten.length=(p.map fun x=>mss x.1).flatten.length+(mss x.1).length+(q.map fun x=>mss x.1).flatten.length:=by rw[e];simp;lia
  refine Sj (P_ (Sg rfl (O_ rfl (T6 (xs:=(p.map fun x=>mss x.1).flatten) (ys:=mss x.1) ?_ rfl rfl (by lia))))) (by decide);refine Sm ⟨.sh (jq x),?_⟩ (by trivial);rw[qE]
 ·rintro ρ ⟨c5,rfl⟩;refine Sz (P_ (SW (Sg rfl (SO (v:=.val (.int ((T.map fun x=>mss x.1).flatten.length:Nat))) ?_ rfl (sy fl h.ms)))));refine Sw (m_ (Sg rfl (Q_ (S9 (ur:=Dat.int) (xs:=(T.map fun x=>mss x.1).flatten) ?_ rfl))));refine SH ?_ rfl rfl;rw[decide_eq_true rfl];rfl
theorem Aq(a:Int)(us:List Int):nB (a::us) (some 1) (some (-1))=us.dropLast:=by unfold nB;rw[show sIx (a::us).length 0 (some 1)=1 by unfold sIx;simp;lia,show sIx (a::us).length (a::us).length (some (-1))=us.length by unfold sIx;simp;lia,List.drop_one,List.tail_cons,List.dropLast_eq_take]
theorem lR(hl:r.length<=1000)(hu:Uq r){T:List Tr}(h:Trs r a b T):yM [aC r,.int a,.int b,.lst (T.map jq)]=some (.val (.bl true)):=by
 have hz:SZ=100000:=rfl;obtain⟨k1,k2⟩:=h.few;have fl:(T.map fun x=>x.2.dropLast).flatten.length<=4000:=by
  have:=nZ (fun x:Tr=>x.2.dropLast) 20 T fun x hx=>by
   have:=(k2 x hx).2;simp
   lia
  lia
 apply SG;unfold yM
 (refine Dm.Sy ?_ rfl rfl;and_intros)
 refine R_ (Sv (SI (Si (SD (m_ (O_ rfl (m_ (O_ rfl (m_ (O_ rfl (m_ (O_ rfl (Q_ (SA (C2 hl hu h) (Sf (Ss (Su ?_))) rfl rfl))))))))))))));refine R_ (Sj (SK (Q_ (So ?_ rfl rfl (by decide)))) (by decide));refine Sm ?_ (by trivial);refine R_ (SM (SY (O_ rfl (Sk (bP ?_)))));refine SQ jq _ _ T _ _ _ _ _ (fun p q ρ=>∃c5 c6,ρ=[.sh (aC r),.sh (.int a),.sh (.int b),.sh (.lst (T.map jq)),.ow (.lst ((p.map fun x=>x.2.dropLast).flatten.map Dat.int)),c5,c6]) ⟨_,_,rfl⟩ ?_ ?_
 ·rintro p x q ρ e ⟨c5,c6,rfl⟩;refine Dm.bZ rfl (by trivial) ?_;have hx:x∈T:=by rw[e];simp
  obtain⟨h1,h2⟩:=h.tr x hx;obtain⟨l1,l2⟩:=k2 x hx;have sF:(T.map fun x=>x.2.dropLast).flatten.length=(p.map fun x=>x.2.dropLast).flatten.length+x.2.dropLast.length+(q.map fun x=>x.2.dropLast).flatten.length:=by rw[e];simp;lia
  unfold CM;refine R_ (Sj (SD (m_ (O_ rfl (m_ (O_ rfl (m_ (O_ rfl (Q_ (S3 (places_of_ok hl hu a h1 (by lia)) (Sm ?_ (by trivial)) rfl rfl rfl rfl))))))))) (by decide));refine R_ (Sv (Si (P_ (SW (Sg rfl (SO (v:=.val (.int ((a::x.2).length:Nat))) ?_ rfl (sy (by rw[PL];lia) (h.pl x hx))))))));refine Sw (m_ (Sg rfl (Q_ (S9 (ur:=Dat.int) (xs:=a::x.2) ?_ rfl))));refine S6 (Sf ?_) rfl rfl;rw[decide_eq_true rfl];refine Ss (Su ?_);refine Sj (P_ (Sg rfl (Tw (Sg rfl (Wp.some (Se (bY.mk (Wp.some (SW (Se (SO (v:=.val (.int (-1))) (bY.mk (Wsl.A (ur:=Dat.int) (xs:=a::x.2) ?_ rfl)) rfl rfl))))))))))) (by decide);rw[Aq];refine T6 (xs:=(p.map fun x=>x.2.dropLast).flatten) (ys:=x.2.dropLast) ?_ rfl rfl (by lia);refine Sm ⟨.sh (jq x),.ow (.lst ((a::x.2).map Dat.int)),?_⟩ (by trivial);rw[qE]
 ·rintro ρ ⟨c5,c6,rfl⟩;refine Sz (P_ (SW (Sg rfl (SO (v:=.val (.int ((T.map fun x=>x.2.dropLast).flatten.length:Nat))) ?_ rfl (sy fl h.inn)))));refine Sw (m_ (Sg rfl (Q_ (S9 (ur:=Dat.int) (xs:=(T.map fun x=>x.2.dropLast).flatten) ?_ rfl))));refine SH ?_ rfl rfl;rw[decide_eq_true rfl];rfl
theorem yU(h:List (Int×Int))(c m x:Int):hdF (putL h c m) x=if x=c then some m else hdF h x:=by
 unfold putL;by_cases q:c∈hk h
 ·rw[if_pos q];unfold hdF hk at *
  induction h with
  |nil=>cases q
  |cons e h ih=>
   rw[eg,Qw,Qw];by_cases e1:e.1=c
   ·rw[if_pos e1];by_cases e2:x=c
    ·rw[if_pos e2,decide_eq_true (show e.1=x by rw[e1,e2])];rfl
    ·rw[if_neg e2,decide_eq_false (show ¬e.1=x by rw[e1];exact fun z=>e2 z.symm)];dsimp only;by_cases q2:c∈h.map (·.1)
     ·rw[ih q2,if_neg e2]
     ·congr 1
      congr 1
      refine(Qm fun y hy=>?_).trans (Qx h);rw[if_neg fun z=>q2 (Pc.mpr ⟨y,hy,z⟩)];rfl
   ·rw[if_neg e1];have q2:c∈h.map (·.1):=by
     rw[eg]at q;exact(Pk.mp q).resolve_left fun z=>e1 z.symm
    by_cases e2:e.1=x
    ·rw[decide_eq_true e2,if_neg (fun z=>e1 (e2.trans z))]
    ·rw[decide_eq_false e2];exact ih q2
 ·rw[if_neg q,yN h (c,m) q];rfl
theorem Gm(n:Nat)(r:List Tie){c m:Int}(h:hdF (aS n r) c=some m):∃t∈r,t.a≠t.b/\t.m=m/\(c=cd n t.a t.b\/c=cd n t.b t.a):=by
 suffices hh:∀q p:List Tie,(∀c m,hdF (aS n p) c=some m->∃t∈p,t.a≠t.b/\t.m=m/\(c=cd n t.a t.b\/c=cd n t.b t.a))->∀c m,hdF (aS n (p++q)) c=some m->∃t∈p++q,t.a≠t.b/\t.m=m/\(c=cd n t.a t.b\/c=cd n t.b t.a) from hh r [] (fun c m z=>by cases z) c m h
 intro q
 induction q with
 |nil=>intro p h;rw[PY];exact h
 |cons t q ih=>
  intro p h;rw[show p++t::q=(p++[t])++q by simp];refine ih _ fun c m z=>?_;rw[kT]at z;unfold CT at z;have up:(∃t∈p,t.a≠t.b/\t.m=m/\(c=cd n t.a t.b\/c=cd n t.b t.a))->∃u∈p++[t],u.a≠u.b/\u.m=m/\(c=cd n u.a u.b\/c=cd n u.b u.a):=fun⟨u,hu,k⟩=>⟨u,PK _ hu,k⟩;by_cases e:t.a=t.b
  ·rw[if_pos e]at z;exact up (h c m z)
  ·rw[if_neg e,yU,yU]at z;have ht:t∈p++[t]:=PF _ (Pn.mpr rfl);by_cases e1:c=cd n t.b t.a
   ·rw[if_pos e1]at z;cases z;exact⟨t,ht,e,rfl,.inr e1⟩
   ·rw[if_neg e1]at z;by_cases e2:c=cd n t.a t.b
    ·rw[if_pos e2]at z;cases z;exact⟨t,ht,e,rfl,.inl e2⟩
    ·rw[if_neg e2]at z;exact up (h c m z)
theorem KH(h:c∉hk (aS n r)):hdF (aS n r) c=none:=by
 have:=ki (h:=aS n r) (m:=c);rw[decide_eq_false h]at this;cases q:hdF (aS n r) c with
 |none=>rfl
 |some x=>rw[q]at this;cases this
structure Wtr(n:Nat)(R:List Tie)(w:List Step)(u b:Int)(ts:List Tie)(us:List Int):Prop where
 tr:iX R u ts us
 last:ko u us=b
 ne:us≠[]
 told:nW n R w=mss ts
 thr:(mso w).filter (fun c=>decide (Fd.src c<n))=us.dropLast.map fun v=>20*v+((n:Int)+v)
 ind:∀v∈us,v∈w.map (·.2)
 M5:∀v∈us.dropLast,(n:Int)+v∈w.map (·.2)
 nd:us.Nodup
 st:u∉us
 len:ts.length=us.length
 rg:∀v∈us,0<=v/\v<n
 arc:∀t∈ts,∃x y,Ends t x y/\cd n x y∈mso w/\(x=u\/x∈us.dropLast)/\y∈us
theorem kW(n:Nat)(R:List Tie)(s:Step)(w:List Step):nW n R (s::w)=(if (hdF (aS n R) s.1).isSome=true then [(hdF (aS n R) s.1).getD 0] else [])++nW n R w:=by
 unfold nW;show ((s.1::mso w).filter _).map _=_;by_cases h:(hdF (aS n R) s.1).isSome=true
 ·rw[Qa (p:=fun c=>(hdF (aS n R) c).isSome) h,if_pos h];rfl
 ·rw[P7 (p:=fun c=>(hdF (aS n R) c).isSome) h,if_neg h];rfl
theorem Gn(h:t.a≠t.b){c u v:Int}(hs:(n:Int)+u=Fd.src c)(hd:v=Fd.dst c)(p1:0<=t.a/\t.a<20/\0<=t.b/\t.b<20)(k:c=cd n t.a t.b\/c=cd n t.b t.a):Ends t u v/\c=cd n u v:=by
 unfold Fd.src at hs;unfold Fd.dst at hd;rcases k with rfl | rfl
 ·obtain⟨e1,e2⟩:=d_ (n:=n) (u:=t.a) (v:=t.b) p1.2.2.1 p1.2.2.2;rw[e1]at hs;rw[e2]at hd;have:u=t.a:=by lia
  subst this;subst hd;exact⟨⟨h,.inl ⟨rfl,rfl⟩⟩,rfl⟩
 ·obtain⟨e1,e2⟩:=d_ (n:=n) (u:=t.b) (v:=t.a) p1.1 p1.2.1;rw[e1]at hs;rw[e2]at hd;have:u=t.b:=by lia
  subst this;subst hd;exact⟨⟨h,.inr ⟨rfl,rfl⟩⟩,rfl⟩
theorem qF(n10:n<=10)(hp:Pl n R){H:Hd}{u:Int}(u0:0<=u)(h:Fd.Led (bL n R) H ((n:Int)+u) s):∃t∈R,Ends t u s.2/\s.1=cd n u s.2/\hdF (aS n R) s.1=some t.m/\0<=s.2/\s.2<n/\¬Fd.src s.1<n:=by
 obtain⟨h1,_,h3,h4⟩:=h;have hm:s.1∈hk (aS n R):=by
  rcases Pp.mp h1 with z | z
  ·exact z
  ·obtain⟨p,hp',e⟩:=Pc.mp z;have:=Qh.mp hp';unfold Fd.src at h3
   lia
 obtain⟨m,em⟩:=Q6.mp (show (hdF (aS n R) s.1).isSome=true by rw[ki];exact decide_eq_true hm);obtain⟨t,ht,ne,e1,e2⟩:=Gm n R em;have p:=hp t ht;obtain⟨en,ec⟩:=Gn ne (n:=n) h3.symm h4.symm (by lia) e2;refine⟨t,ht,en,ec,by rw[em,e1],?_⟩;obtain⟨_,en⟩:=en;rw[h3]
 lia
theorem uV(n10:n<=10)(hp:Pl n R){H:Hd}(v0:0<=v)(v1:v<n)(h:Fd.Led (bL n R) H v s):s.1=20*v+((n:Int)+v)/\s.2=(n:Int)+v/\hdF (aS n R) s.1=none/\Fd.src s.1<n:=by
 obtain⟨h1,_,h3,h4⟩:=h;have D:=ee n n10 R hp;rcases (D.mem s.1).mp h1 with⟨t,ht,ne,k⟩ | ⟨p,hpn,e⟩
 ·have p:=hp t ht;exfalso;unfold Fd.src at h3;rcases k with k | k
  ·rw[k,(d_ (n:=n) (u:=t.a) (v:=t.b) (by lia) (by lia)).1]at h3;lia
  ·rw[k,(d_ (n:=n) (u:=t.b) (v:=t.a) (by lia) (by lia)).1]at h3;lia
 ·have e1:Fd.src s.1=p:=by rw[e];unfold Fd.src;lia
  have e2:Fd.dst s.1=(n:Int)+p:=by rw[e];unfold Fd.dst;lia
  have:v=p:=by rw[<- h3,e1]
  subst this;refine⟨e,by rw[<- h4,e2],KH fun z=>?_,by rw[e1];lia⟩;obtain⟨t,ht,ne,k⟩:=((nU n R).mem s.1).mp z;have q:=hp t ht;unfold Fd.src at e1;rcases k with k | k
  ·rw[k,(d_ (n:=n) (u:=t.a) (v:=t.b) (by lia) (by lia)).1]at e1;lia
  ·rw[k,(d_ (n:=n) (u:=t.b) (v:=t.a) (by lia) (by lia)).1]at e1;lia
theorem qG(n10:n<=10)(hp:Pl n R){H:Hd}{b:Int}(b0:0<=b)(b1:b<n):∀{w:List Step} {u:Int},0<=u->u<n->u≠b->Way (Fd.Led (bL n R) H) ((n:Int)+u) w b->(((n:Int)+u)::w.map (·.2)).Nodup->∃ts us,Wtr n R w u b ts us
 |[],u,u0,u1,ub,h,nd=>by
  have h:(n:Int)+u=b:=h
  lia
 |[s],u,u0,u1,ub,h,nd=>by
  obtain⟨t,ht,en,ec,em,v0,v1,ns⟩:=qF n10 hp u0 h.1;have hb:s.2=b:=h.2;refine⟨[t],[s.2],⟨ht,en,trivial⟩,hb,by simp,?_,?_,by simp,by simp,by simp,?_,rfl,by simp;exact⟨v0,v1⟩,?_⟩
  ·rw[kW,em];rfl
  ·show ([s.1].filter _)=_;rw[P7 (by simpa using ns)];rfl
  ·simp;exact en.ne
  ·intro t' ht';rw[Pn.mp ht'];exact⟨u,s.2,en,by rw[<- ec];exact O9,.inl rfl,by simp⟩
 |s::s2::w,u,u0,u1,ub,h,nd=>by
  obtain⟨h1,h2,h3⟩:=h;obtain⟨t,ht,en,ec,em,v0,v1,ns⟩:=qF n10 hp u0 h1;obtain⟨f1,f2,f3,f4⟩:=uV n10 hp v0 v1 h2;rw[f2]at h3;have nd':=nd;rw[eg,eg,Pj,Pj]at nd;obtain⟨nd1,nd2,nd3⟩:=nd;have vb:s.2≠b:=fun z=>by have:=sr h3;rw[<- f2]at this;exact nd2 (by rw[z];exact this)
  obtain⟨ts,us,W⟩:=qG n10 hp b0 b1 v0 v1 vb h3 (by rw[<- f2];exact nd3);have une:∃y ys,us=y::ys:=by
   cases q:us with
   |nil=>exact(W.ne q).elim
   |cons y ys=>exact⟨y,ys,rfl⟩
  have dl:(s.2::us).dropLast=s.2::us.dropLast:=by obtain⟨y,ys,rfl⟩:=une;rfl
  refine⟨t::ts,s.2::us,⟨ht,en,W.tr⟩,by rw[nX];exact W.last,by simp,?_,?_,?_,?_,Pj.mpr ⟨W.st,W.nd⟩,?_,by simp[W.len],?_,?_⟩
  ·rw[kW,kW,em,f3,W.told];rfl
  ·show ((s.1::s2.1::mso w).filter _)=_;rw[P7 (by simpa using ns),Qa (by simpa using f4),W.thr,dl,eg,f1]
  ·intro v hv;rcases Pk.mp hv with rfl | hv
   ·simp
   ·exact Dk _ (Dk _ (W.ind v hv))
  ·intro v hv;rw[dl]at hv;rcases Pk.mp hv with rfl | hv
   ·rw[eg,eg,f2];simp
   ·exact Dk _ (Dk _ (W.M5 v hv))
  ·intro hu;rcases Pk.mp hu with e | hu
   ·exact en.ne e
   ·by_cases q:u∈us.dropLast
    ·exact nd1 (Dk _ (Dk _ (W.M5 u q)))
    ·have:u=b:=by
      obtain⟨y,ys,e⟩:=une;have MU:us≠[]:=W.ne;have h5:us=us.dropLast++[us.getLast MU]:=(List.dropLast_concat_getLast MU).symm;have h6:us.getLast MU=b:=by have:=W.last;unfold ko at this;rw[List.getLast?_eq_some_getLast MU]at this;exact this
      rw[h5,h6]at hu;rcases Pp.mp hu with hu | hu
      ·exact(q hu).elim
      ·exact Pn.mp hu
     exact ub this
  ·intro v hv;rcases Pk.mp hv with rfl | hv
   ·exact⟨v0,v1⟩
   ·exact W.rg v hv
  ·intro t' ht';rcases Pk.mp ht' with rfl | ht'
   ·exact⟨u,s.2,en,by rw[<- ec];exact O9,.inl rfl,O9⟩
   ·obtain⟨x,y,k1,k2,k3,k4⟩:=W.arc t' ht';refine⟨x,y,k1,Dk _ (Dk _ k2),.inr ?_,Dk _ k4⟩;rw[dl];rcases k3 with rfl | k3
    ·exact O9
    ·exact Dk _ k3
theorem n9{r R:List Tie}(h:∀t∈R,t∈r):∀{ts:List Tie} {us:List Int} {u:Int},iX R u ts us->iX r u ts us
 |[],[],_,_=>trivial
 |_::_,_::_,_,k=>⟨h _ k.1,k.2.1,n9 h k.2.2⟩
 |[],_::_,_,k=>k.elim
 |_::_,[],_,k=>k.elim
theorem dU:∀{ts:List Tie} {us:List Int} {u:Int},iX r u ts us->∀t∈ts,t∈r/\∃x y,Ends t x y/\x∈u::us/\y∈u::us
 |[],[],_,_,t,ht=>by cases ht
 |t::ts,v::us,u,h,t',ht=>by
  rcases Pk.mp ht with rfl | ht
  ·exact⟨h.1,u,v,h.2.1,by simp,by simp⟩
  ·obtain⟨k1,x,y,k2,k3,k4⟩:=dU h.2.2 t' ht;exact⟨k1,x,y,k2,Dk _ k3,Dk _ k4⟩
 |[],_::_,_,k,_,_=>k.elim
 |_::_,[],_,k,_,_=>k.elim
theorem lK:∀{ts:List Tie} {us:List Int} {u:Int},iX r u ts us->(u::us).Nodup->ts.Nodup
 |[],[],_,_,_=>Rr
 |t::ts,v::us,u,h,nd=>by
  obtain⟨n1,n2⟩:=Pj.mp nd;refine Pj.mpr ⟨fun ht=>?_,lK h.2.2 n2⟩;obtain⟨_,x,y,k2,k3,k4⟩:=dU h.2.2 t ht;obtain⟨_,e1⟩:=h.2.1;obtain⟨_,e2⟩:=k2;have:u=x\/u=y:=by lia
  rcases this with rfl | rfl
  ·exact n1 k3
  ·exact n1 k4
 |[],_::_,_,k,_=>k.elim
 |_::_,[],_,k,_=>k.elim
theorem Ar{r ts:List Tie}(hu:Uq r)(hs:∀t∈ts,t∈r)(nd:ts.Nodup):(mss ts).Nodup:=by unfold mss;refine Qq.mpr (QE ?_ nd);intro x y hx hy ne e;exact ne (hu x (hs x hx) y (hs y hy) e)
theorem kX{u b:Int}(nd:us.Nodup)(h:ko u us=b)(ne:us≠[]):us=us.dropLast++[b]/\b∉us.dropLast:=by
 have h6:us.getLast ne=b:=by unfold ko at h;rw[List.getLast?_eq_some_getLast ne]at h;exact h
 have e:us=us.dropLast++[b]:=by rw[<- h6];exact(List.dropLast_concat_getLast ne).symm
 refine⟨e,fun z=>?_⟩;rw[e]at nd;exact(P9.mp nd).2.2 b z b (Pn.mpr rfl) rfl
theorem iI{u b:Int}(W:Wtr n R w u b ts us)(h:v∈us.dropLast):20*v+((n:Int)+v)∈mso w:=by have:20*v+((n:Int)+v)∈us.dropLast.map fun v=>20*v+((n:Int)+v):=Pc.mpr ⟨v,h,rfl⟩;rw[<- W.thr]at this;exact(PJ.mp this).1
theorem Gp{b x:Int}(e:us=us.dropLast++[b])(hx:x∈us)(ne:x≠b):x∈us.dropLast:=by
 rw[e]at hx;rcases Pp.mp hx with h | h
 ·exact h
 ·exact(ne (Pn.mp h)).elim
theorem Gq{x y x' y':Int}(h:x=x'/\y=y'):cd n x y=cd n x' y':=by rw[h.1,h.2]
theorem two_ways(hu:Uq R){w w':List Step}{u b:Int}{ts ts':List Tie}{us us':List Int}(W:Wtr n R w u b ts us)(W':Wtr n R w' u b ts' us')(hd:∀x∈mso w,∀y∈mso w',x≠y):∀x∈mss ts,∀y∈mss ts',x≠y:=by
 intro m hm m' hm' e;obtain⟨t,ht,rfl⟩:=Pc.mp hm;obtain⟨t',ht',rfl⟩:=Pc.mp hm';have e:=hu t (dU W.tr t ht).1 t' (dU W'.tr t' ht').1 e;subst e;obtain⟨x,y,k1,k2,k3,k4⟩:=W.arc t ht;obtain⟨x',y',j1,j2,j3,j4⟩:=W'.arc t ht';obtain⟨_,e1⟩:=k1;obtain⟨_,e2⟩:=j1;have:(x=x'/\y=y')\/(x=y'/\y=x'):=by lia
 rcases this with h | ⟨rfl,rfl⟩
 ·exact hd _ k2 _ j2 (Gq h)
 ·have x1:x∈us.dropLast:=k3.resolve_left fun z=>W'.st (z▸j4);obtain⟨f1,f2⟩:=kX W.nd W.last W.ne;obtain⟨f3,f4⟩:=kX W'.nd W'.last W'.ne;have xb:x≠b:=fun z=>f2 (z▸x1);exact hd _ (iI W x1) _ (iI W' (Gp f3 j4 xb)) rfl
theorem As(h:∀w∈ws,∃ts us,Wtr n R w a b ts us):∃f:List Step->Tr,∀w∈ws,Wtr n R w a b (f w).1 (f w).2:=by refine⟨fun w=>(Classical.epsilon fun x:Tr=>Wtr n R w a b x.1 x.2),fun w hw=>?_⟩;obtain⟨ts,us,W⟩:=h w hw;exact Classical.epsilon_spec (p:=fun x:Tr=>Wtr n R w a b x.1 x.2) ⟨(ts,us),W⟩
theorem KI(n10:n<=10)(hp:Pl n r)(nd:(r.map (·.m)).Nodup)(hu:Uq r)(hl:r.length<=100)(a0:0<=a)(a1:a<n)(b0:0<=b)(b1:b<n)(Kq:a≠b){st:List Tie}(hst:st.Sublist (bQ r a b)){H:Hd}(W:uH (bL n (cJ r a b)) H ((n:Int)+a) b ws)(hlw:ws.length<=100)
  {f:List Step->Tr} (hf:∀w∈ws,Wtr n (cJ r a b) w a b (f w).1 (f w).2):Trs r a b ((st.map fun t=>([t],[b]))++ws.map f):=by
 have hR:∀t∈cJ r a b,t∈r:=fun t ht=>(PJ.mp ht).1;have huR:Uq (cJ r a b):=fun t ht u hu' e=>hu t (hR t ht) u (hR u hu') e;have hS:∀t∈st,t∈r/\dF a b t=true:=fun t ht=>PJ.mp (hst.subset ht);have sl:st.length<=r.length:=by
  have:=hst.length_le;have h2:(bQ r a b).length<=r.length:=Qn _ _
  lia
 have dis:=(QJ.mp W.nd).2;rw[Qq]at dis;have ndm:(st.map (·.m)).Nodup:=nd.sublist ((hst.trans RA).map _);have m2:((ws.map f).map fun x=>mss x.1).flatten.Nodup:=by
  rw[Pr];refine QJ.mpr ⟨fun l hl'=>?_,Qq.mpr (QE ?_ dis)⟩
  ·obtain⟨w,hw,rfl⟩:=Pc.mp hl';have V:=hf w hw;exact Ar huR (fun t ht=>(dU V.tr t ht).1) (lK V.tr (Pj.mpr ⟨V.st,V.nd⟩))
  ·intro w w' hw hw' hd;exact two_ways huR (hf w hw) (hf w' hw') hd
 have e1:((st.map fun t=>(([t],[b]):Tr)).map fun x=>mss x.1).flatten=st.map (·.m):=by
  rw[Pr];clear hS hst sl ndm
  induction st with
  |nil=>rfl
  |cons t st ih=>rw[eg,Qo,ih];rfl
 have e2:((st.map fun t=>(([t],[b]):Tr)).map fun x=>x.2.dropLast).flatten=[]:=by
  rw[Pr];clear hS hst sl ndm e1
  induction st with
  |nil=>rfl
  |cons t st ih=>rw[eg,Qo,ih];rfl
 refine⟨fun x hx=>?_,?_,fun x hx=>?_,?_,?_,fun x hx=>?_⟩
 ·rcases Pp.mp hx with hx | hx
  ·obtain⟨t,ht,rfl⟩:=Pc.mp hx;obtain⟨h1,h2⟩:=hS t ht;unfold dF at h2;rw[Pu,decide_eq_true_iff,decide_eq_true_iff]at h2;exact⟨⟨h1,⟨by lia,by lia⟩,trivial⟩,rfl⟩
  ·obtain⟨w,hw,rfl⟩:=Pc.mp hx;exact⟨n9 hR (hf w hw).tr,(hf w hw).last⟩
 ·rw[Pf,Rn,e1];refine P9.mpr ⟨ndm,m2,fun m hm m' hm' e=>?_⟩;obtain⟨t,ht,rfl⟩:=Pc.mp hm;rw[Pr]at hm';obtain⟨l,hl',hm'⟩:=List.mem_flatten.mp hm';obtain⟨w,hw,rfl⟩:=Pc.mp hl';obtain⟨t',ht',rfl⟩:=Pc.mp hm';have q:=(dU (hf w hw).tr t' ht').1;obtain⟨q1,q2⟩:=PJ.mp q;have:=hu t (hS t ht).1 t' q1 e;subst this;rw[(hS t ht).2]at q2;cases q2
 ·rcases Pp.mp hx with hx | hx
  ·obtain⟨t,ht,rfl⟩:=Pc.mp hx;simp;exact Kq
  ·obtain⟨w,hw,rfl⟩:=Pc.mp hx;exact Pj.mpr ⟨(hf w hw).st,(hf w hw).nd⟩
 ·rw[Pf,Rn,e2,Rf,Pr];refine QJ.mpr ⟨fun l hl'=>?_,Qq.mpr (QE ?_ dis)⟩
  ·obtain⟨w,hw,rfl⟩:=Pc.mp hl';exact(hf w hw).nd.sublist (Rx _)
  ·intro w w' hw hw' hd x hx y hy e;subst e;exact hd _ (iI (hf w hw) hx) _ (iI (hf w' hw') hy) rfl
 ·rw[Pd,gV,gV];lia
 ·rcases Pp.mp hx with hx | hx
  ·obtain⟨t,ht,rfl⟩:=Pc.mp hx;exact⟨by simp,by simp⟩
  ·obtain⟨w,hw,rfl⟩:=Pc.mp hx;have V:=hf w hw;have:=b5 _ (places n) V.nd fun v hv=>(fZ n v).mpr (V.rg v hv);rw[places_len]at this;have h2:=V.len
   lia
theorem jr{H:Hd}{K:List Int}(hK:∀c∈A,(H c).isSome=true->Fd.dst c∈K->Fd.src c∈K):∀{w1:List Step} {x:Int} {u:Step} {w2:List Step},Way (Fd.Led A H) x (w1++u::w2) y->Fd.src u.1∈K->x∈K/\∀v∈w1,Fd.dst v.1∈K
 |[],x,u,w2,h,k=>by have e:=h.1.2.2.1;exact⟨by rw[<- e];exact k,fun v hv=>by cases hv⟩
 |s::w1,x,u,w2,h,k=>by
  obtain⟨h1,h2⟩:=jr hK h.2 k;obtain⟨e1,e2,e3,e4⟩:=h.1;have hd:Fd.dst s.1∈K:=by rw[e4];exact h1
  refine⟨?_,fun v hv=>?_⟩
  ·rw[<- e3];exact hK s.1 e1 (by rw[e2];rfl) hd
  ·rcases Pk.mp hv with rfl | hv
   ·exact hd
   ·exact h2 v hv
theorem sC{R:Int->Step->Prop}:∀{w1:List Step} {x:Int} {u:Step} {w2:List Step},Way R x (w1++u::w2) y->∃p,Way R x w1 p/\R p u/\Way R u.2 w2 y
 |[],x,u,w2,h=>⟨x,rfl,h.1,h.2⟩
 |s::w1,x,u,w2,h=>by obtain⟨p,h1,h2,h3⟩:=sC h.2;exact⟨p,⟨h.1,h1⟩,h2,h3⟩
theorem qH(h:c∈mso w):∃w1 u w2,w=w1++u::w2/\u.1=c:=by obtain⟨u,hu,rfl⟩:=Pc.mp h;obtain⟨w1,w2,e⟩:=List.append_of_mem hu;exact⟨w1,u,w2,e,rfl⟩
theorem leaves{H:Hd}{K:List Int}(hy:y∉K):∀{w:List Step} {x:Int},Way (Fd.Led A H) x w y->x∈K->∃c∈mso w,c∈A/\Fd.src c∈K/\Fd.dst c∉K
 |[],x,h,k=>by have h:x=y:=h;exact(hy (h▸k)).elim
 |s::w,x,h,k=>by
  obtain⟨e1,e2,e3,e4⟩:=h.1;by_cases q:s.2∈K
  ·obtain⟨c,h1,h2⟩:=leaves hy h.2 q;exact⟨c,Dk _ h1,h2⟩
  ·exact⟨s.1,O9,e1,by rw[e3];exact k,by rw[e4];exact q⟩
theorem uW(nd:A.Nodup){H:Hd}(F:Fd.Flow A H a b ws.length)(W:uH A H a b ws){K:List Int}(ka:a∈K)(kb:b∉K)(hc:∀p u,p∈K->Fd.bB A H p u->u.2∈K)(hA:c∈A)(h1:Fd.src c∈K)(h2:Fd.dst c∉K):∃w∈ws,c∈mso w:=by
 have cut:=F.cut (S:=fun x=>decide (x∈K)) (decide_eq_true ka) (decide_eq_false kb) fun p u hp hf=>decide_eq_true (hc p u (of_decide_eq_true hp) hf);apply Q4;intro no;have ex:∀w∈ws,∃c,c∈mso w/\c∈A/\Fd.src c∈K/\Fd.dst c∉K:=fun w hw=>leaves kb (W.way w hw).way ka;obtain⟨l,hl⟩:∃l:List Step->Int,∀w∈ws,l w∈mso w/\l w∈A/\Fd.src (l w)∈K/\Fd.dst (l w)∉K:=
  ⟨fun w=>(Classical.epsilon fun c=>c∈mso w/\c∈A/\Fd.src c∈K/\Fd.dst c∉K),fun w hw=>Classical.epsilon_spec (p:=fun c=>c∈mso w/\c∈A/\Fd.src c∈K/\Fd.dst c∉K) (ex w hw)⟩
 have dis:=(QJ.mp W.nd).2;rw[Qq]at dis;have n1:(ws.map l).Nodup:=Qq.mpr (QE (fun {w w'} hw hw' hd=>hd _ (hl w hw).1 _ (hl w' hw').1) dis);have n2:(c::ws.map l).Nodup:=Pj.mpr ⟨fun z=>by obtain⟨w,hw,e⟩:=Pc.mp z;exact no ⟨w,hw,e▸(hl w hw).1⟩,n1⟩
 have out:∀ x,x∈A→Fd.src x∈K→Fd.dst x∉K→x∈A.filter (Fd.out fun x=>decide (x∈K)):=fun x k1 k2 k3=>PJ.mpr ⟨k1,by unfold Fd.out;dsimp only;rw[decide_eq_true k2,decide_eq_false k3];rfl⟩
 have:=b5 _ (A.filter (Fd.out fun x=>decide (x∈K))) n2 fun x hx=>by
  rcases Pk.mp hx with rfl | hx
  ·exact out _ hA h1 h2
  ·obtain⟨w,hw,rfl⟩:=Pc.mp hx;exact out _ (hl w hw).2.1 (hl w hw).2.2.1 (hl w hw).2.2.2
 rw[cut,PL,gV]at this
 lia
theorem n_{K:List Int}{w1 w2:List Step}{v:Step}(h1:∀z∈w1,cH n K z.1=false)(h2:cH n K v.1=true):cI n K (w1++v::w2)=Fd.src v.1:=by
 unfold cI qx mso;rw[Pf,List.filter_append,eg,Qa h2];have:(w1.map (·.1)).filter (cH n K)=[]:=by refine List.filter_eq_nil_iff.mpr fun c hc=>?_;obtain⟨z,hz,rfl⟩:=Pc.mp hc;rw[h1 z hz];exact Px
 rw[this];rfl
theorem M6(n10:n<=10)(hp:Pl n r)(D:uQ n r A){H:Hd}(a0:0<=a)(a1:a<n)(b0:0<=b)(b1:b<n)(F:Fd.Flow A H ((n:Int)+a) b k)
  {K:List Int} (hS:∀x∈K,x≠(n:Int)+a->∃p c,p∈K/\Fd.bB A H p (c,x)) {w1 w2:List Step} {u:Step} (hw:Way (Fd.Led A H) ((n:Int)+a) (w1++u::w2) b) {x:Int} (x0:0<=x) (hx:Fd.src u.1=(n:Int)+x) (kx:(n:Int)+x∈K) (ky:Fd.dst u.1∉K):x=a:=by
 apply Q4;intro ne;obtain⟨p,e2,e3,_⟩:=sC hw;obtain⟨hc,lc,sc,tc⟩:=e3;rw[hx]at sc;subst sc;obtain⟨w'',p',d,f1,f2,f3⟩:=ia e2 (sj e2 (by lia));obtain⟨hd,ld,sd,td⟩:=f3;dsimp only at hd ld sd td;obtain⟨q,z,hq,hz,hf⟩:=hS _ kx (by lia);have only:∀z∈A,Fd.dst z=(n:Int)+x->z=d:=fun z hz hzp=>by
  obtain⟨k1,_⟩:=f_ n10 D hp hz (by lia);obtain⟨k2,_⟩:=f_ n10 D hp hd (by lia);unfold Fd.src Fd.dst at *
  lia
 dsimp only at hz hf;rcases hf with⟨z1,z2,z3⟩ | ⟨z1,z2,z3⟩
 ·have:=only z hz z3;rw[this,ld]at z1;cases z1
 ·have h0:Fd.b4 A H (fun y=>decide (y=(n:Int)+x))=0:=by
   rw[F.eq];rw[decide_eq_false (by lia),decide_eq_false (by lia)];simp
  have lo:∀c∈A,Fd.src c=(n:Int)+x->Fd.dst c≠(n:Int)+x:=fun c hc hs z=>by
   obtain⟨k1,_⟩:=f_ n10 D hp hc (by lia)
   lia
  have dl:=D.dr d hd;obtain⟨g1,g2⟩:=f_ n10 D hp hd (by lia);have e:=yO D.nd h0 hc (by rw[lc];rfl) hx (lo _ hc hx) hz z1 z3 (lo _ hz z3) only hd (by rw[ld];rfl) td (by lia);rw[e,z2]at ky;exact ky hq
noncomputable def thA(n:Nat)(v:Int):Int:=20*v+((n:Int)+v)
theorem yV(n10:n<=10)(h0:0<=v)(h1:v<n):Fd.src (thA n v)=v/\Fd.dst (thA n v)=(n:Int)+v:=by
 unfold Fd.src Fd.dst thA
 lia
theorem uX{K:List Int}(h:Fd.dst c∈K):cH n K c=false:=by unfold cH;rw[decide_eq_true h];simp
structure M7(n:Nat)(R:List Tie)(a b:Int)(k:Nat)(S:List Int):Prop where
 len:S.length=k
 nd:S.Nodup
 rg:∀v∈S,0<=v/\v<n/\v≠a/\v≠b
 cl:∃G:Int->Prop,G a/\¬G b/\∀t∈R,∀x y,Ends t x y->G x->y∉S->G y
theorem Gr(n10:n<=10)(hp:Pl n R)(a0:0<=a)(a1:a<n)(b0:0<=b)(b1:b<n)(nab:a≠b)(Kq:∀t∈R,¬((t.a=a/\t.b=b)\/(t.a=b/\t.b=a))){h:List (Int×Int)}{ws:List (List Step)}
  (fl:Fd.Flow (bL n R) (hdF h) ((n:Int)+a) b ws.length) (W:uH (bL n R) (hdF h) ((n:Int)+a) b ws) {s:Sr} (F:Fnd (2*n) (frR n R h) ((n:Int)+a) s) (cl:∀x∈sk s,Done (frR n R h) (sk s) x) (hb:b∉sk s)
  {f:List Step->Tr} (hf:∀w∈ws,Wtr n R w a b (f w).1 (f w).2):M7 n R a b ws.length (ws.map (cI n (sk s))):=by
 have D:uQ n R (bL n R):=ee n n10 R hp;have hS:∀x∈sk s,x≠(n:Int)+a->∃p c,p∈sk s/\Fd.bB (bL n R) (hdF h) p (c,x):=fun x hx ne=>by
  obtain⟨p,c,k1,k2⟩:=Fnd.from F hx ne
  exact⟨p,c,k1,(h_ D.dr).mp k2⟩
 have hc:∀p u,p∈sk s->Fd.bB (bL n R) (hdF h) p u->u.2∈sk s:=fun p u hp' hf'=>cl p hp' u ((h_ D.dr).mpr hf')
 generalize hK:sk s=K at *
 have ka:(n:Int)+a∈K:=by rw[<- hK];exact F.st
 have C3:∀c∈bL n R,(hdF h c).isSome=true->Fd.dst c∈K->Fd.src c∈K:=fun c k1 k2 k3=>hc _ (c,Fd.src c) k3 ⟨k1,.inr ⟨k2,rfl,rfl⟩⟩;have dis:=(QJ.mp W.nd).2;rw[Qq]at dis;have hv:∀w∈ws,cI n K w∈(f w).2.dropLast:=fun w hw=>by
  obtain⟨c,k1,k2,k3⟩:=yP n10 hp D a0 a1 b0 b1 Kq fl (S:=fun x=>x∈K) hS hb (W.way w hw);have hm:c∈(mso w).filter (cH n K):=PJ.mpr ⟨k1,by unfold cH;rw[decide_eq_true k2,decide_eq_false k3];rfl⟩;unfold cI qx;cases q:(mso w).filter (cH n K) with
  |nil=>rw[q]at hm;cases hm
  |cons d l=>
   have hd:d∈(mso w).filter (cH n K):=by rw[q];exact O9
   obtain⟨j1,j2⟩:=PJ.mp hd;unfold cH at j2;rw[Pu]at j2;have hd2:d∈(mso w).filter (fun c=>decide (Fd.src c<n)):=PJ.mpr ⟨j1,j2.1⟩;have V:=hf w hw;rw[V.thr]at hd2;obtain⟨v,v1,v2⟩:=Pc.mp hd2;have vr:=V.rg v ((Rx _).subset v1);show Fd.src d∈_;rw[<- v2];have e:=(yV n10 vr.1 vr.2).1;unfold thA at e;rw[e];exact v1
 have hin:∀y,(∃w∈ws,cI n K w=y)->y∈ws.map (cI n K):=fun y ⟨w,k1,k2⟩=>Pc.mpr ⟨w,k1,k2⟩;refine⟨by rw[gV],Qq.mpr (QE ?_ dis),fun v hv'=>?_,⟨fun x=>(n:Int)+x∈K/\0<=x/\x<n/\x≠b,⟨ka,a0,a1,?_⟩,fun z=>z.2.2.2 rfl,?_⟩⟩
 ·intro w w' hw hw' hd e;exact hd _ (iI (hf w hw) (hv w hw)) _ (iI (hf w' hw') (e▸hv w' hw')) rfl
 ·obtain⟨w,hw,rfl⟩:=Pc.mp hv';have V:=hf w hw;have k1:=hv w hw;have k2:=(Rx _).subset k1;have k3:=V.rg _ k2;exact⟨k3.1,k3.2,fun z=>V.st (z▸k2),fun z=>(kX V.nd V.last V.ne).2 (z▸k1)⟩
 ·exact nab
 ·rintro t ht x y en ⟨kx,x0,x1,xb⟩ hy;have p:=hp t ht;obtain⟨ne,en⟩:=en;have y0:0<=y/\y<n:=by lia
  obtain⟨d1,d2⟩:=d_ (n:=n) (u:=x) (v:=y) y0.1 (by lia);have hA:cd n x y∈bL n R:=(D.mem _).mpr (.inl ⟨t,ht,ne,by
   rcases en with⟨e1,e2⟩ | ⟨e1,e2⟩
   ·rw[e1,e2];exact .inl rfl
   ·rw[e1,e2];exact .inr rfl⟩)
  have d1:Fd.src (cd n x y)=(n:Int)+x:=d1;have d2:Fd.dst (cd n x y)=y:=d2;obtain⟨q1,q2⟩:=yV n10 y0.1 y0.2;have hT:thA n y∈bL n R:=(D.mem _).mpr (.inr ⟨y.toNat,by lia,by unfold thA;lia⟩);have yK:y∈K:=by
   apply Q4;intro yK;obtain⟨w,hw,hcw⟩:=uW D.nd fl W ka hb hc hA (by rw[d1];exact kx) (by rw[d2];exact yK);obtain⟨w1,u,w2,e,eu⟩:=qH hcw;have way:=(W.way w hw).way;rw[e]at way;obtain⟨_,bf⟩:=jr C3 way (by rw[eu,d1];exact kx);have xa:=M6 n10 hp D a0 a1 b0 b1 fl hS way x0 (by rw[eu,d1]) kx (by rw[eu,d2];exact yK);subst xa;have yb:y≠b:=fun z=>Kq t ht (by lia);obtain⟨_,_,m2,m3⟩:=sC way;have u2:u.2=y:=by rw[<- m2.2.2.2,eu,d2]
   rw[u2]at m3;cases w2 with
   |nil=>have m3:y=b:=m3;exact yb m3
   |cons s2 w2=>
    obtain⟨n1,n2,_,_⟩:=uV n10 hp y0.1 y0.2 m3.1;apply hy;apply hin;refine⟨w,hw,?_⟩;rw[e,show w1++u::s2::w2=(w1++[u])++s2::w2 by simp];have n1:s2.1=thA n y:=n1;rw[n_,n1,q1]
    ·intro z hz;rcases Pp.mp hz with hz | hz
     ·exact uX (bf z hz)
     ·rw[Pn.mp hz,eu];unfold cH;rw[d1,decide_eq_false (by lia)];rfl
    ·unfold cH;rw[n1,q1,q2,decide_eq_true y0.2,decide_eq_false fun z=>?_]
     ·rfl
     ·have:=C3 (thA n y) hT (by rw[<- n1,m3.1.2.1];rfl) (by rw[q2];exact z);rw[q1]at this;exact yK this
  refine⟨?_,y0.1,y0.2,fun z=>hb (z▸yK)⟩;apply Q4;intro nK;obtain⟨w,hw,hcw⟩:=uW D.nd fl W ka hb hc hT (by rw[q1];exact yK) (by rw[q2];exact nK);obtain⟨w1,u,w2,e,eu⟩:=qH hcw;have way:=(W.way w hw).way;rw[e]at way;obtain⟨_,bf⟩:=jr C3 way (by rw[eu,q1];exact yK);apply hy;apply hin;refine⟨w,hw,?_⟩;rw[e,n_ (fun z hz=>uX (bf z hz)),eu,q1];unfold cH;rw[eu,q1,q2,decide_eq_true y0.2,decide_eq_false nK];rfl
theorem KJ{ur:α->Dat}{xs:List α}(h0:0<=i)(h1:i<xs.length)(k:K (.val (ur (xs[i.toNat]'(by omega)))))(ho:o=some (.tup (xs.map ur)))(hp:p=some (.int i)):Wg2 gIx o p K:=
 ⟨_,_,_,ho,hp,by unfold gIx;dsimp only;rw[iB ur xs i h0 h1];rfl,k⟩
noncomputable def steps(S:List Int):Bool:=(PM (S.length-1)).all fun i=>decide (S.getD i 0<S.getD (i+1) 0)
theorem qI:∀S:List Int,steps S=true↔S.Pairwise (· < ·)
 |[]=>by simp[steps]
 |[x]=>by simp[steps]
 |x::y::S=>by
  have ih:=qI (y::S);have e:steps (x::y::S)=(decide (x<y)&&steps (y::S)):=by unfold steps;simp only[PL,Nat.add_sub_cancel];rw[List.range_succ_eq_map,Rb,RS];rfl
  rw[e,Pu,ih,QI (a:=x)];constructor
  ·rintro⟨h1,h2⟩;have h1:=of_decide_eq_true h1;refine⟨fun z hz=>?_,h2⟩;rcases Pk.mp hz with rfl | hz
   ·exact h1
   ·exact Int.lt_trans h1 ((QI.mp h2).1 z hz)
  ·rintro⟨h1,h2⟩;exact⟨decide_eq_true (h1 y O9),h2⟩
noncomputable def C4(n:Int)(S:List Int):Bool:=(S.all fun x=>decide (0<=x/\x<n))&&steps S
theorem Gs(i:Nat)(ρ:Env)(a n:Int)(h0:ρ[0]?=some (.sh (.int n)))(hi:ρ[i]?=some (.sh (.int a))):gG gLe gLt (eC (.int 0)) (eV i) (eV 0) ρ=some (.val (.bl (decide (0<=a/\a<n))),ρ):=by
 have e1:gLe (.int 0) (.int a)=some (.val (.bl (decide (0<=a)))):=rfl;have e2:gLt (.int a) (.int n)=some (.val (.bl (decide (a<n)))):=rfl;unfold gG;simp only[eC,eV,h0,hi,pk,e1,e2,RV.bC];by_cases q:0<=a
 ·rw[decide_eq_true q];have:decide (0<=a/\a<n)=decide (a<n):=by simp[q]
  rw[this]
 ·rw[decide_eq_false q,decide_eq_false (p:=0<=a/\a<n) fun z=>q z.1]
theorem xw(n:Int)(S:List Int)(hl:S.length<=1000):uD [.int n,.tup (S.map Dat.int)]=some (.val (.bl (C4 n S))):=by
 apply SG;unfold uD C4
 (refine Dm.Sy ?_ rfl rfl;and_intros)
 refine R_ (Sv (SR (SI (Si (SW (O_ rfl (SO (v:=.val (.bl true)) (Sf (Ss ?_)) rfl rfl)))))));refine SI (Si (Sw (m_ (TJ Dat.int S (fun x=>decide (0<=x/\x<n)) Dat.bl ?_ rfl rfl rfl (by decide) (by unfold SZ;lia) (fun x hx=>?_)))))
 rotate_left
 ·refine S7 (SD (m_ (O_ rfl (Q_ (SA (gf x) (Sf (SN ?_)) rfl rfl)))));exact⟨_,_,Gs 2 _ x n rfl rfl,Sk ⟨rfl,rfl⟩⟩
 refine Q_ (Tu (fun x=>decide (0<=x/\x<n)) (Sf ?_) (by rw[Pr];rfl));cases ha:S.all fun x=>decide (0<=x/\x<n) with
 |false=>exact SN (Sz (Se rfl))
 |true=>
  refine Ss (Su ?_);rw[Bool.true_and];have ix:∀(i:Int) (h0:0<=i) (h1:i<S.length) {o p:Option Dat} {K:RV->Prop},K (.val (.int (S[i.toNat]'(by lia))))->o=some (.tup (S.map Dat.int))->p=some (.int i)->Wg2 gIx o p K:=fun i h0 h1 {o p K} k ho hp=>KJ (xs:=S) (ur:=Dat.int) h0 h1 k ho hp;have len:cD [.tup (S.map Dat.int)]=some (.val (.int (S.length:Nat))):=by show some (RV.val (.int ((S.map Dat.int).length:Nat)))=_;rw[gV]
  refine Sz (Sw (m_ ?_));refine TN (fun i:Nat=>Dat.int (1+(i:Nat))) (PM (S.length-1)) (fun _=>true) (fun i=>Dat.bl (decide (S.getD i 0<S.getD (i+1) 0))) ?_ (ρ1:=[.sh (.int n),.sh (.tup (S.map Dat.int))]) ?_ rfl (by decide) (by simp[SZ];lia) (fun i _=>?_) (fun i hi _=>?_)
  ·refine Q_ (Tu (fun i=>decide (S.getD i 0<S.getD (i+1) 0)) ?_ (by rw[Q8.mpr (fun _ _=>rfl)];rfl));rfl
  ·apply S4;refine Um (Se (bY.mk (Sw (m_ (O_ rfl (Q_ ⟨_,_,rfl,len,?_⟩))))));refine bY.mk ⟨⟨?_,rfl⟩,by unfold BIG;lia,by unfold BIG;lia,by unfold BIG;lia,by unfold BIG;lia⟩;have e2:(((S.length:Nat):Int)-1).toNat=S.length-1:=by lia
   rw[e2];rfl
  ·exact T8 ⟨rfl,rfl⟩
  ·have hi':i<S.length-1:=Qh.mp hi;refine P_ (P_ (O_ rfl (P_ (O_ rfl (Se (SV (ix _ (by lia) (by lia) ?_ rfl rfl) rfl rfl))))));refine P_ (O_ rfl (O_ rfl (ix _ (by lia) (by lia) ?_ rfl rfl)));refine Te (Sk ⟨?_,rfl⟩) rfl rfl;have e1:S.getD i 0=S[(1+(i:Int)-1).toNat]'(by omega):=by
    rw[Qs,Py (by lia)];simp only[Option.getD_some]
    congr 1;lia
   have e2:S.getD (i+1) 0=S[(1+(i:Int)).toNat]'(by lia):=by
    rw[Qs,Py (by lia)];simp only[Option.getD_some]
    congr 1;lia
   rw[e1,e2]
theorem xx(nd:S.Nodup):(bK ltI S).Pairwise (· < ·):=by
 have h1:=pH S;have h2:(bK ltI S).Nodup:=(cR ltI S).nodup_iff.mpr nd;refine R3.imp₂ (fun {a b} h k=>?_) h1 h2;simp[ltI]at h
 lia
theorem Gu{n:Int}(hl:S.length<=1000)(hn:S.Nodup)(hr:∀v∈S,0<=v/\v<n):uD [.int n,.tup ((bK ltI S).map Dat.int)]=some (.val (.bl true)):=by have hp:=cR ltI S;rw[xw n _ (by rw[hp.length_eq];exact hl)];unfold C4;rw[(qI _).mpr (xx hn),Bool.and_true,Qe.mpr fun x hx=>decide_eq_true (hr x (hp.mem_iff.mp hx))]
theorem Au(n10:n<=10)(hp:Pl n R)(hl:R.length<=1000)(a0:0<=a)(a1:a<n){G:Int->Prop}(ga:G a)(gb:¬G b)(cl:∀t∈R,∀x y,Ends t x y->G x->y∉S->G y) :
  yJ [aC R,.int a,.int b,.lst (S.map Dat.int)]=some (.val (.bl false)):=by
 have hz:SZ=100000:=rfl;apply SG;unfold yJ
 (refine Dm.Sy ?_ rfl rfl;and_intros)
 refine R_ (Sj (SK (m_ (O_ rfl (Q_ (So (Sm ?_ (by trivial)) rfl rfl (by exact Pw rfl)))))) (by decide));refine R_ (Sj (Se (Sn ?_ (by trivial))) (by decide));refine R_ ?_;refine TH (fun k ρ=>∃(seen:List Int) (i:Nat) (c6 c7 c8 c9:Cell),ρ=[.sh (aC R),.sh (.int a),.sh (.int b),.sh (.lst (S.map Dat.int)),.ow (.lst (seen.map Dat.int)),.sh (.int (i:Nat)),c6,c7,c8,c9]/\seen.Nodup/\(∀x∈seen,0<=x/\x<n/\G x)/\i<=seen.length/\k=n-i) ?_ 100 n _ (by lia)
  ⟨[a],0,_,_,_,_,rfl,by simp,fun x hx=>by rw[Pn.mp hx];exact⟨a0,a1,ga⟩,by simp,by lia⟩
 rintro k ρ ⟨seen,i,c6,c7,c8,c9,rfl,nd,hs,hi,hk⟩;refine Si (P_ (O_ rfl (Sw (m_ (Sg rfl (Q_ (S9 (ur:=Dat.int) (xs:=seen) ?_ rfl)))))));refine Te (Sf ?_) rfl rfl;refine SX (fun h=>?_) fun h=>?_
 ·have hi:i<seen.length:=by lia
  unfold CK;refine R_ (SM (SY (O_ rfl (Sk (bP ?_)))));refine SQ aX _ _ R _ _ _ _ _ (fun p q ρ=>∃(seen:List Int) (c6 c7 c8 c9:Cell),ρ=[.sh (aC R),.sh (.int a),.sh (.int b),.sh (.lst (S.map Dat.int)),.ow (.lst (seen.map Dat.int)),.sh (.int (i:Nat)),c6,c7,c8,c9]/\seen.Nodup/\(∀x∈seen,0<=x/\x<n/\G x)/\i<seen.length) ⟨seen,_,_,_,_,rfl,nd,hs,hi⟩ ?_ ?_
  ·clear hs hi nd h hk;rintro p t q ρ e ⟨seen,c6,c7,c8,c9,rfl,nd,hs,hi⟩;have ht:t∈R:=by rw[e];simp
   have tp:=hp t ht;refine Dm.bZ rfl (by trivial) ?_;unfold CJ;have ix:∀{o p:Option Dat} {K:RV->Prop},K (.val (.int (seen[i]'hi)))->o=some (.lst (seen.map Dat.int))->p=some (.int (i:Nat))->Wg2 gIx o p K:=fun {o p K} k ho hp=>Tj (ur:=Dat.int) (xs:=seen) (by lia) (by lia) (by simpa using k) ho hp;have hx:=hs seen[i] (Rm hi)
   generalize hxe:seen[i]=x at ix hx
   have hxm:x∈seen:=by rw[<- hxe];exact Rm hi
   have sl:seen.length<=n:=by have:=b5 seen (places n) nd fun v hv=>(fZ n v).mpr ⟨(hs v hv).1,(hs v hv).2.1⟩;rw[places_len]at this;exact this
   refine R_ (Sj (P_ (P_ (O_ rfl (O_ rfl (Sq ?_ rfl rfl))))) (by decide));refine P_ (Sg rfl (O_ rfl (ix (SV (Sn ?_ (by trivial)) rfl rfl) rfl rfl)));refine Sv (S5 (Si (P_ (P_ (Sg rfl (O_ rfl (ix ?_ rfl rfl)))))));refine Td (m_ (O_ rfl (m_ (O_ rfl (Q_ (So ?_ rfl rfl (by exact Pw rfl)))))));refine To (i:=x) (a:=t.a) (b:=t.b) (Sf ?_) rfl rfl;have same:∀c9,∃(seen':List Int) (c6' c7' c8' c9':Cell),[Cell.sh (aC R),.sh (.int a),.sh (.int b),.sh (.lst (S.map Dat.int)),.ow (.lst (seen.map Dat.int)),.sh (.int (i:Nat)),.sh (.int t.m),.sh (.int t.a),.sh (.int t.b),c9]=[.sh (aC R),.sh (.int a),.sh (.int b),.sh (.lst (S.map Dat.int)),.ow (.lst (seen'.map Dat.int)),.sh (.int (i:Nat)),c6',c7',c8',c9']/\seen'.Nodup/\(∀x∈seen',0<=x/\x<n/\G x)/\i<seen'.length:=fun c9=>⟨seen,_,_,_,_,rfl,nd,hs,hi⟩;refine SX (fun hin=>?_) fun hin=>Ss (Su (same _));refine S5 (Si (P_ (O_ rfl (Sg rfl (Us (i:=t.a+t.b-x) (xs:=seen) (Sf ?_) rfl rfl)))));by_cases h1:t.a+t.b-x∈seen
   ·rw[decide_eq_true h1];exact Ss (Ss (Su (same _)))
   rw[decide_eq_false h1];refine SN (Si (P_ (O_ rfl (O_ rfl (Us (i:=t.a+t.b-x) (xs:=S) (Sf ?_) rfl rfl)))));by_cases h2:t.a+t.b-x∈S
   ·rw[decide_eq_true h2];exact Ss (Su (same _))
   rw[decide_eq_false h2];refine SN (S_ (O_ rfl (Sk (kN ?_ rfl (by trivial) ?_))) rfl)
   ·have ne:t.a≠t.b:=fun z=>h1 (by rw[show t.a+t.b-x=x by lia];exact hxm);have gy:=cl t ht x (t.a+t.b-x) ⟨ne,by lia⟩ hx.2.2 h2;refine⟨seen++[t.a+t.b-x],_,_,_,_,by rw[Pf];rfl,?_,?_,by rw[Pd];lia⟩
    ·exact P9.mpr ⟨nd,by simp,fun y hy z hz e=>h1 (by rw[<- Pn.mp hz,<- e];exact hy)⟩
    ·intro y hy;rcases Pp.mp hy with hy | hy
     ·exact hs y hy
     ·rw[Pn.mp hy];exact⟨by lia,by lia,gy⟩
   ·rw[gV];lia
  ·rintro ρ ⟨seen,c6,c7,c8,c9,rfl,nd,hs,hi⟩;have sl:seen.length<=n:=by
    have:=b5 seen (places n) nd fun v hv=>(fZ n v).mpr ⟨(hs v hv).1,(hs v hv).2.1⟩;rw[places_len]at this;exact this
   refine Sj (P_ (O_ rfl (Se (Sq (Sn ?_ (by trivial)) rfl rfl)))) (by decide);exact⟨n-(i+1),by lia,seen,i+1,_,_,_,_,by rw[show ((i:Nat):Int)+1=((i+1:Nat):Int) by lia],nd,hs,by lia,rfl⟩
 ·refine Sz (P_ (O_ rfl (Sg rfl (UL (i:=b) (xs:=seen) ?_ rfl rfl))));rw[decide_eq_false fun z=>gb (hs b z).2.2];rfl
theorem C5(N M:List Int):gEq (.lst (N.map Dat.int)) (.lst (M.map Dat.int))=vB (decide (N=M)):=by
 have ok:∀ns:List Int,okD 8 (.lst (ns.map Dat.int))=true:=fun ns=>yG Dat.int ns fun _=>rfl;have h:=uu N M;unfold gNe at h;unfold gEq;rw[ok,ok]at h ⊢;have h:(!eqD (.lst (N.map Dat.int)) (.lst (M.map Dat.int)))=!decide (N=M):=by injection h with h;injection h with h;injection h
 show vB _=_;rw[<- Bool.not_not (eqD _ _),h,Bool.not_not]
theorem UN{N M:List Int}(k:K (.val (.bl (decide (N=M)))))(ho:o=some (.lst (N.map Dat.int)))(hp:p=some (.lst (M.map Dat.int))):Wg2 gEq o p K:=⟨_,_,_,ho,hp,C5 N M,k⟩
theorem U4{o:Option (List Dat)}(k:K (.new (.lst ((bK ltI ns).map Dat.int))))(ho:o=some [.tup (ns.map Dat.int)])(h:ns.length<=63):WB fL o K:=⟨_,_,ho,by unfold fL;dsimp only;rw[nF];dsimp only;rw[if_pos h];rfl,k⟩
theorem xy(Kq:a≠b)(t:Tie):decide (bK ltI [t.a,t.b]=bK ltI [a,b])=dF a b t:=by unfold dF;rw[Rc,Pu,decide_eq_true_iff,decide_eq_true_iff,decide_eq_true_iff];simp only[bK,ins,ltI];by_cases h1:t.b<t.a<;>by_cases h2:b<a<;>simp[h1,h2]<;>lia
theorem Vb{xs:List Dat}{o:Option (List Dat)}(k:K (.new (.lst xs)))(ho:o=some [.tup xs]):WB iP o K:=⟨_,_,ho,rfl,k⟩
theorem Av(n10:n<=10)(hp:Pl n r)(hl:r.length<=1000)(a0:0<=a)(a1:a<n)(b0:0<=b)(b1:b<n)(Kq:a≠b)(hk:k<=100)(B:M7 n (cJ r a b) a b k S) :
  qt [.int n,aC r,.int a,.int b,.int ((bQ r a b).length+k:Nat),.tup ((bK ltI S).map Dat.int)]=some (.val (.bl true)):=by
 have hz:SZ=100000:=rfl;have hpo:Pl n (cJ r a b):=fun t ht=>hp t (PJ.mp ht).1;have hlo:(cJ r a b).length<=r.length:=Qn _ _;have hls:(bQ r a b).length<=r.length:=Qn _ _;have hpm:=cR ltI S;have sl:(bK ltI S).length=k:=by rw[hpm.length_eq,B.len]
 obtain⟨G,ga,gb,cl⟩:=B.cl;have ej:=Au n10 hpo (by lia) (b:=b) a0 a1 (S:=bK ltI S) ga gb fun t ht x y e g hy=>cl t ht x y e g fun z=>hy (hpm.mem_iff.mpr z);have es:=Gu (n:=n) (S:=S) (by rw[B.len];lia) B.nd fun v hv=>⟨(B.rg v hv).1,(B.rg v hv).2.1⟩;have na:a∉bK ltI S:=fun z=>(B.rg a (hpm.mem_iff.mp z)).2.2.1 rfl;have nb:b∉bK ltI S:=fun z=>(B.rg b (hpm.mem_iff.mp z)).2.2.2 rfl
 generalize bK ltI S=T at *
 apply SG;unfold qt
 (refine Dm.Sy ?_ rfl rfl;and_intros)
 refine R_ (Sv (SR (SI (Si (SD (m_ (O_ rfl (m_ (O_ rfl (Q_ (SA es (Sf (Ss ?_)) rfl rfl)))))))))));refine SR (Si (P_ (O_ rfl (O_ rfl (TQ (i:=a) (xs:=T) (Sf (SJ (decide_eq_false na) ?_)) rfl rfl)))));refine Si (P_ (O_ rfl (O_ rfl (TQ (i:=b) (xs:=T) (Sf (SJ (decide_eq_false nb) (Su ?_))) rfl rfl))));refine R_ (Sj (S1 aX r (dF a b) id aX (d:=aC r) ?_ rfl rfl rfl (by decide) (by lia) (fun t _=>?_) fun t _ _=>O_ rfl (Sk ⟨rfl,rfl⟩)) (by decide))
 rotate_left
 ·refine Si (P_ (Sw (m_ (Tf (O_ rfl (Wp.some (Se (bY.mk (Wp.none ⟨[.int t.m,.int t.a,.int t.b],rfl,by show ¬(sIx 3 0 (some 1)=0/\sIx 3 3 none=3);decide,?_⟩)))))))));refine Q_ (U4 (ns:=[t.a,t.b]) ?_ rfl (by exact Pw rfl));refine Sw (m_ (SK (m_ (O_ rfl (m_ (O_ rfl (Q_ (So ?_ rfl rfl (by exact Pw rfl)))))))));refine Q_ (Uo (ns:=[a,b]) ?_ rfl (by exact Pw rfl));refine UN (Sf ?_) rfl rfl;rw[xy Kq];exact⟨rfl,rfl⟩
 rw[Qx];refine Sm ?_ (by trivial);refine R_ (Sj (S1 aX r (fun t=>!decide (t∈bQ r a b)) id aX (d:=aC r) ?_ rfl rfl rfl (by decide) (by lia) (fun t _=>?_) fun t _ _=>O_ rfl (Sk ⟨rfl,rfl⟩)) (by decide))
 rotate_left
 ·exact Si (P_ (O_ rfl (Sg rfl (T4 (t:=t) (K:=bQ r a b) (Sf ⟨rfl,rfl⟩) rfl rfl))))
 rw[Qx,jo];refine Sm ?_ (by trivial);refine Sz (S7 (P_ (P_ (Sw (m_ (Sg rfl (Q_ (S9 (ur:=aX) (xs:=bQ r a b) ?_ rfl))))))));refine Sw (m_ (O_ rfl (Q_ (Uj (xs:=T.map Dat.int) (Sq ?_ rfl rfl) rfl))));refine O_ rfl (SH (Sf (S2 (decide_eq_true ?_) ?_)) rfl rfl)
 ·rw[gV,sl]
  lia
 ·refine Ua (SD (m_ (Sg rfl (m_ (O_ rfl (m_ (O_ rfl (m_ (Sw (m_ (O_ rfl (Q_ (Vb ?_ rfl)))))))))))));refine Q_ (SA ej (Sf ?_) rfl rfl);exact Tc rfl
noncomputable def stF(r:List Tie)(a b most:Int):List Tie:=(bQ r a b).take most.toNat
noncomputable def oh(n:Nat)(r:List Tie)(a b most:Int)(ws:List (List Step)):List Dat:=(stF r a b most).map xr++ws.map (gj n (cJ r a b))
noncomputable def Gw(n:Nat)(r:List Tie)(a b most:Int)(ws:List (List Step))(o:Option (List Int)):Dat:=.tup [.int ((stF r a b most).length+ws.length:Nat),.lst (oh n r a b most ws),bD o]
theorem Gx:∀t∈cJ r a b,¬((t.a=a/\t.b=b)\/(t.a=b/\t.b=a)):=fun t ht k=>by
 have h2:dF a b t=false:=by simpa using(PJ.mp ht).2
 unfold dF at h2;rcases k with⟨rfl,rfl⟩ | ⟨rfl,rfl⟩
 ·rw[decide_eq_true (.inl rfl),decide_eq_true (.inr rfl)]at h2;cases h2
 ·rw[decide_eq_true (.inr rfl),decide_eq_true (.inl rfl)]at h2;cases h2
theorem C6(n10:n<=10)(hp:Pl n r)(nd:(r.map (·.m)).Nodup)(hu:Uq r)(hl:r.length<=100)(a0:0<=a)(a1:a<n)(b0:0<=b)(b1:b<n)(Kq:a≠b){most:Int}(m0:0<=most)(m1:most<=60){ws:List (List Step)}{o:Option (List Int)}{h:List (Int×Int)}
  (A:Around n (cJ r a b) a b (most-(stF r a b most).length) ws o h):lF [.int n,aC r,.int a,.int b,.int most,Gw n r a b most ws o]=some (.val (.bl true)):=by
 have hz:SZ=100000:=rfl;have hpo:Pl n (cJ r a b):=fun t ht=>hp t (PJ.mp ht).1;have hlo:(cJ r a b).length<=r.length:=Qn _ _;have hls:(bQ r a b).length<=r.length:=Qn _ _;have sb:(stF r a b most).Sublist (bQ r a b):=List.take_sublist _ _;have tl:(stF r a b most).length<=most.toNat:=by unfold stF;rw[P1];lia
 have wl:=A.le;obtain⟨f,hf⟩:=As (n:=n) (R:=cJ r a b) (a:=a) (b:=b) (ws:=ws) fun w hw=>qG n10 hpo b0 b1 a0 a1 Kq (A.ways.way w hw).way (A.ways.way w hw).nd;have T:=KI n10 hp nd hu hl a0 a1 b0 b1 Kq sb A.ways (by lia) hf;have er:oh n r a b most ws=(((stF r a b most).map fun t=>(([t],[b]):Tr))++ws.map f).map jq:=by
  unfold oh;rw[Pf,Pr,Pr]
  congr 1
  refine Qm fun w hw=>?_;show gj _ _ _=jq (f w);unfold gj jq;rw[(hf w hw).told]
 have ep:=lR (by lia) hu T;rw[<- er]at ep;have rl:(oh n r a b most ws).length=(stF r a b most).length+ws.length:=by unfold oh;rw[Pd,gV,gV]
 have eb:∀S,o=some S->qt [.int n,aC r,.int a,.int b,.int ((stF r a b most).length+ws.length:Nat),bD o]=some (.val (.bl true)):=fun S hS=>by
  obtain⟨lt,s,hs⟩:=A.shut S hS;have est:stF r a b most=bQ r a b:=by unfold stF at lt ⊢;rw[P1]at lt;exact List.take_of_length_le (by lia)
  have B:=Gr n10 hpo a0 a1 b0 b1 Kq Gx A.b4 A.ways hs.fnd hs.cl hs.no hf;have:=Av n10 hp (by lia) a0 a1 b0 b1 Kq (k:=ws.length) (by lia) B;rw[est,hS];show qt [.int n,aC r,.int a,.int b,_,.tup (S.map Dat.int)]=_;rw[hs.eq];exact this
 have en:o=none->(((stF r a b most).length+ws.length:Nat):Int)=most:=fun z=>by
  have:=A.all z
  lia
 have el:∀S,o=some S->(((stF r a b most).length+ws.length:Nat):Int)<most:=fun S z=>by
  have:=(A.shut S z).1
  lia
 unfold Gw
 generalize (stF r a b most).length+ws.length=c at *
 generalize oh n r a b most ws=rows at *
 apply SG;unfold lF
 (refine Dm.Sy ?_ rfl rfl;and_intros)
 have i0:∀{K:RV->Prop} {x y:Option Dat},K (.val (.int (c:Nat)))->x=some (.tup [.int (c:Nat),.lst rows,bD o])->y=some (.int 0)->Wg2 gIx x y K:=fun k hx hy=>⟨_,_,_,hx,hy,rfl,k⟩;have i1:∀{K:RV->Prop} {x y:Option Dat},K (.val (.lst rows))->x=some (.tup [.int (c:Nat),.lst rows,bD o])->y=some (.int 1)->Wg2 gIx x y K:=fun k hx hy=>⟨_,_,_,hx,hy,rfl,k⟩;have i2:∀{K:RV->Prop} {x y:Option Dat},K (.val (bD o))->x=some (.tup [.int (c:Nat),.lst rows,bD o])->y=some (.int 2)->Wg2 gIx x y K:=fun k hx hy=>⟨_,_,_,hx,hy,rfl,k⟩;refine R_ (Sv (SR (SI (Si (SW (O_ rfl (SO (v:=.val (.bl true)) (Sf (Ss ?_)) rfl rfl)))))));refine SR (Si (P_ (Sw (m_ (O_ rfl (Q_ (Uj (xs:=[.int (c:Nat),.lst rows,bD o]) ?_ rfl)))))));refine Se (S6 (i:=3) (j:=3) (Sf (SJ rfl ?_)) rfl rfl);refine SI (Si (SD (m_ (P_ (O_ rfl (Se (i0 (Q_ (SA (gf _) (Sf (Ss (Su ?_))) rfl rfl)) rfl rfl)))))));refine R_ (Sv (SR (SI (Si (SW (P_ (O_ rfl (Se (i1 (SO (v:=.val (.bl true)) (Sf (Ss ?_)) rfl rfl) rfl rfl)))))))));refine SR (Si (P_ (Sw (m_ (P_ (O_ rfl (Se (i1 (Q_ (Up (xs:=rows) ?_ rfl)) rfl rfl))))))));refine P_ (O_ rfl (Se (i0 (S6 (Sf (SJ (by rw[rl,decide_eq_true rfl];rfl) ?_)) rfl rfl) rfl rfl)));refine Si (P_ (P_ (O_ rfl (Se (i0 ?_ rfl rfl)))));refine O_ rfl (TL (Sf (SJ (decide_eq_false ?_) (Su ?_))) rfl rfl)
 ·cases o with
  |none=>have:=en rfl;lia
  |some S=>have:=el S rfl;lia
 refine R_ (Sv (SI (Si (SD (m_ (O_ rfl (m_ (O_ rfl (m_ (O_ rfl (m_ (P_ (O_ rfl (Se (i1 (Q_ (SA ep (Sf (Ss (Su ?_))) rfl rfl)) rfl rfl)))))))))))))));refine R_ (Sv (Si (P_ (P_ (O_ rfl (Se (i0 ?_ rfl rfl)))))));refine O_ rfl (SH (Sf ?_) rfl rfl);cases o with
 |none=>refine S2 (decide_eq_true (en rfl)) (Sz (P_ (P_ (O_ rfl (Se (i2 (Se ?_) rfl rfl))))));exact⟨_,_,_,rfl,rfl,rfl,Tc rfl⟩
 |some S=>have h1:=el S rfl;refine SJ (decide_eq_false (by lia)) (Su ?_);refine Sz (SD (m_ (O_ rfl (m_ (O_ rfl (m_ (O_ rfl (m_ (O_ rfl (m_ (P_ (O_ rfl (Se (i0 ?_ rfl rfl))))))))))))));refine m_ (P_ (O_ rfl (Se (i2 (Q_ (SA (eb S rfl) ?_ rfl rfl)) rfl rfl))));exact Tc rfl
noncomputable def cT(w:List Int):Dat:=.lst (w.map Dat.int)
noncomputable def kY(w:List Int):Dp:=.l ((w.map Dat.int).map .s)
noncomputable def bI(c:Nat)(R:List (List Int))(o:Option (List Int)):Dat:=.tup [.int (c:Nat),.lst (R.map cT),bD o]
noncomputable def dG(c:Nat)(R:List (List Int))(o:Option (List Int)):Dp:=.t [.s (.int (c:Nat)),.l (R.map kY),.s (bD o)]
theorem sD:∀l:List Int,eG (l.map Dat.int) (l.map Dat.int)=true
 |[]=>rfl
 |x::l=>by rw[eg,eG,sD l];simp[eqD]
theorem KL(w:List Int):eqD (cT w) (cT w)=true:=by unfold cT;rw[eqD];exact sD w
theorem yW(c:Nat)(R:List (List Int))(o:Option (List Int)):eqD (bI c R o) (bI c R o)=true:=by
 have h1:eG (R.map cT) (R.map cT)=true:=by
  induction R with
  |nil=>rfl
  |cons w R ih=>rw[eg,eG,ih,KL];rfl
 have h2:eqD (bD o) (bD o)=true:=by
  cases o with
  |none=>rfl
  |some S=>unfold bD;rw[eqD];exact sD S
 unfold bI;rw[eqD,eG,eG,eG,eG,h2];rw[show eqD (.lst (R.map cT)) (.lst (R.map cT))=eG (R.map cT) (R.map cT) by rw[eqD],h1];simp[eqD]
theorem uY(c:Nat)(R:List (List Int))(o:Option (List Int)):okD 8 (bI c R o)=true:=by
 have h0:∀(m:Nat) (l:List Int),(l.map Dat.int).all (okD m)=true:=fun m l=>by rw[Qe];intro d hd;obtain⟨i,_,rfl⟩:=Pc.mp hd;cases m<;>rfl
 have h1:(R.map cT).all (okD 6)=true:=by rw[Qe];intro d hd;obtain⟨w,_,rfl⟩:=Pc.mp hd;exact h0 5 _
 have h2:okD 7 (bD o)=true:=by
  cases o with
  |none=>rfl
  |some S=>exact h0 6 S
 show ([.int (c:Nat),.lst (R.map cT),bD o].all (okD 7))=true;rw[Rb,Rb,Rb,h2];show (true&&((R.map cT).all (okD 6)&&_))=true;rw[h1];rfl
theorem C7(r:List Tie):okD 8 (aC r)=true:=yG aX r fun t=>rfl
theorem KN(r:List Tie):eqD (aC r) (aC r)=true:=by
 unfold aC;rw[eqD]
 induction r with
 |nil=>rfl
 |cons b bs ih=>rw[eg,eG,ih];simp[aX,eqD,eG]
theorem Tz{d:Dat}{Q:RV->Prop}(hk:okD 8 d=true)(he:eqD d d=true)(k:Q (.val (.bl false)))(ho:o=some d)(hp:p=some d):Wg2 gNe o p Q:=
 ⟨_,_,_,ho,hp,by unfold gNe;rw[hk,he];rfl,k⟩
theorem Gy(w:List Int):(kY w).dat=cT w:=by unfold kY Dp.dat;rw[Dp.B0];rfl
theorem C8(R:List (List Int)):(Dp.l (R.map kY)).dat=.lst (R.map cT):=by
 unfold Dp.dat;rw[Dp.fH,Pr]
 congr 1
 exact Qm fun w _=>Gy w
theorem uZ(c:Nat)(R:List (List Int))(o:Option (List Int)):(dG c R o).dat=bI c R o:=by show Dat.tup [.int (c:Nat),Dp.dat (.l (R.map kY)),bD o]=_;rw[C8];rfl
theorem qJ:∀ns:List Int,aO ((ns.map Dat.int).map .s)=true
 |[]=>rfl
 |x::ns=>by rw[eg,eg,aO,qJ ns];rfl
theorem qK:∀R:List (List Int),aO (R.map kY)=true
 |[]=>rfl
 |w::R=>by rw[eg,aO,qK R];unfold kY aW;rw[qJ];rfl
theorem kZ(c:Nat)(R:List (List Int))(o:Option (List Int)):aW (dG c R o)=true:=by
 have h1:aW (.l (R.map kY))=true:=by unfold aW;exact qK R
 have h2:aW (.s (bD o))=true:=by unfold aW;exact qB o
 unfold dG aW;unfold aO aO aO aO;rw[h1,h2];rfl
theorem jt(k:Nat):∀ns:List Int,dc k (ns.map Dat.int)=true
 |[]=>by unfold dc;rfl
 |i::ns=>by rw[eg];unfold dc;rw[jt k ns];unfold c_;rfl
theorem qL(c:Nat)(R:List (List Int))(o:Option (List Int)):c_ 5 (bI c R o)=true:=by
 have h0:∀w,c_ 5 (cT w)=true:=fun w=>by
  unfold cT c_;rw[jt];cases w with
  |nil=>rfl
  |cons x l=>rfl
 have h1:∀R:List (List Int),dc 5 (R.map cT)=true:=fun R=>by
  induction R with
  |nil=>unfold dc;rfl
  |cons w R ih=>rw[eg];unfold dc;rw[ih,h0];rfl
 have h2:c_ 5 (.lst (R.map cT))=true:=by
  unfold c_;rw[h1];cases R with
  |nil=>rfl
  |cons w R=>rfl
 have h3:c_ 5 (bD o)=true:=by
  cases o with
  |none=>unfold bD c_;rfl
  |some S=>unfold bD c_;exact jt 5 S
 have h4:c_ 5 (.int (c:Nat))=true:=by unfold c_;rfl
 unfold bI c_;unfold dc dc dc dc;rw[h2,h3,h4];rfl
noncomputable def rws(n:Nat)(r:List Tie)(a b most:Int)(ws:List (List Step)):List (List Int):=((stF r a b most).map fun t=>[t.m])++ws.map (nW n (cJ r a b))
theorem HZ:∀{r:List Tie},(r.map (·.m)).Nodup->Uq r
 |[],_=>fun t ht=>nomatch ht
 |x::r,nd=>fun t ht u hu e=>by
  obtain⟨n1,n2⟩:=Pj.mp (show (x.m::r.map (·.m)).Nodup from nd);rcases Pk.mp ht with k1 | k1
  ·rcases Pk.mp hu with k2 | k2
   ·rw[k1,k2]
   ·exact(n1 (by rw[<- k1,e];exact Pc.mpr ⟨u,k2,rfl⟩)).elim
  ·rcases Pk.mp hu with k2 | k2
   ·exact(n1 (by rw[<- k2,<- e];exact Pc.mpr ⟨t,k1,rfl⟩)).elim
   ·exact HZ n2 t k1 u k2 e
theorem u5(n:Nat)(n10:n<=10)(r:List Tie)(hp:Pl n r)(nd:(r.map (·.m)).Nodup)(hl:r.length<=100)(a b:Int)(a0:0<=a)(a1:a<n)(b0:0<=b)(b1:b<n)(Kq:a≠b)(most:Int)(m0:0<=most)(m1:most<=60) :
  ∃R o,nI [.int n,aC r,.int a,.int b,.int most]=some (.val (bI R.length R o))/\br [.int n,aC r,.int a,.int b,.int most]=some (dG R.length R o)/\lF [.int n,aC r,.int a,.int b,.int most,bI R.length R o]=some (.val (.bl true))/\R.length<=1000:=by
 obtain⟨ws,o,h,e1,e2,A⟩:=xu n n10 r hp hl a b a0 a1 b0 b1 Kq most m0 m1;have er:=C6 n10 hp nd (HZ nd) hl a0 a1 b0 b1 Kq m0 m1 A;have sF:(rws n r a b most ws).length=(stF r a b most).length+ws.length:=by unfold rws;rw[Pd,gV,gV]
 have hD:Gw n r a b most ws o=bI (rws n r a b most ws).length (rws n r a b most ws) o:=by unfold Gw bI oh;rw[sF];unfold rws;rw[Pf,Pr,Pr];rfl
 have hP:(.t [.s (.int (((bQ r a b).take most.toNat).length+ws.length:Nat)),.l (((bQ r a b).take most.toNat).map CZ++ws.map (gk n (cJ r a b))),.s (bD o)]:Dp)=dG (rws n r a b most ws).length (rws n r a b most ws) o:=by unfold dG;rw[sF];unfold rws;rw[Pf,Pr,Pr];rfl
 have wl:=A.le;have tl:(stF r a b most).length<=most.toNat:=by unfold stF;rw[P1];lia
 refine⟨rws n r a b most ws,o,?_,by rw[e2,hP],by rw[<- hD];exact er,by rw[sF];have h2:(stF r a b most).length=((bQ r a b).take most.toNat).length:=rfl;lia⟩;rw[e1,<- hD];rfl
noncomputable def LE(ns:List Int)(x:Int)(n:Nat)(at_ a b most:Int)(c7 c8 c9 c10 c11 c12:Cell):Env:=
 [.sh (.lst (ns.map Dat.int)),.ow (cB x),.sh (.int n),.sh (.int at_),.sh (.int a),.sh (.int b),.sh (.int most),c7,c8,c9,c10,c11,c12]
noncomputable def SE(ns:List Int)(x:Int)(n:Nat)(at_ a b most:Int)(r r':List Tie)(D:Dat)(c10 c11 c12:Cell):Env:=
 [.sh (.lst (ns.map Dat.int)),.sh (cB x),.sh (.int n),.sh (.int at_),.sh (.int a),.sh (.int b),.sh (.int most),.sh (aC r),.sh (aC r'),.sh D,shC c10,shC c11,shC c12]
end
section
variable(ns:List Int)(x:Int)(n:Nat)(at_ a b most:Int)
section
variable{R:List (List Int)}{i:Nat}
theorem k6(r r':List Tie)(c:Nat)(R:List (List Int))(o:Option (List Int))(c10 c11 c12:Cell) :
  see 9 (LE ns x n at_ a b most (.ow (aC r)) (.ow (aC r')) .un c10 c11 c12) (dG c R o)=SE ns x n at_ a b most r r' (bI c R o) c10 c11 c12:=by
 rw[<- uZ];rfl
theorem Gz(r r':List Tie)(c:Nat)(R:List (List Int))(o:Option (List Int))(hw:R.length<=1000)(c10 c11 c12:Cell) :
  Wp' (pT [(pO (e2 gIx (eV 9) (eC (.int 0)))),(dg (iS (e2 gIx (eV 9) (eC (.int 1)))) 1 (bN 13) (pO (eB iP [(eV 13)]))),(pO (e2 gIx (eV 9) (eC (.int 2))))]) (SE ns x n at_ a b most r r' (bI c R o) c10 c11 c12) fun q _=>q=dG c R o:=by
 unfold SE bI;refine Ve (Wpa.cons (Uh (d:=.int (c:Nat)) (P_ (O_ rfl (Se (Sh (v:=.int (c:Nat)) ⟨rfl,?_⟩ rfl rfl rfl))))));refine Wpa.cons (Tq cT R kY (fun ρ=>∃c',ρ=SE ns x n at_ a b most r r' (bI c R o) c10 c11 c12++[c']) (ρ1:=SE ns x n at_ a b most r r' (bI c R o) c10 c11 c12) ?_ (by unfold SZ;lia) ⟨_,rfl⟩ ?_ ?_)
 ·apply S4;exact SY (P_ (O_ rfl (Se (Sh (v:=.lst (R.map cT)) (Sk (bP ⟨rfl,rfl⟩)) rfl rfl rfl))))
 ·rintro w hw ρ ⟨c',rfl⟩;refine⟨SE ns x n at_ a b most r r' (bI c R o) c10 c11 c12++[.sh (cT w)],rfl,?_⟩;exact UO (ds:=w.map Dat.int) (Sw (m_ (O_ rfl (Q_ (TR (xs:=w.map Dat.int) ⟨rfl,rfl,_,rfl⟩ rfl)))))
 ·rintro ρ2 ⟨c',rfl⟩;exact Wpa.cons (Uh (d:=bD o) (P_ (O_ rfl (Se (Sh (v:=bD o) ⟨rfl,Wpa.nil ⟨by exact Pw rfl,rfl⟩⟩ rfl rfl rfl)))))
noncomputable def iM(i:Nat)(R:List (List Int)):List (List Int):=Ds i []++R.drop i
theorem GA(h:i<=R.length):(iM i R).length=R.length:=by
 unfold iM;rw[Pd,Qi,Rl]
 lia
theorem yX(h:i<R.length):(iM i R)[i]?=some R[i]:=by unfold iM;rw[PN (by rw[Qi];exact Pb _),Qi,Sa,List.getElem?_drop,Nat.add_zero,Py h]
theorem GB(h:i<R.length):((iM i R).map kY).set i (.l [])=(iM (i+1) R).map kY:=by unfold iM;rw[Ql h,Pf,eg,Rk _ _ (by rw[gV,Qi];exact Pb _),gV,Qi,Sa,List.set_cons_zero,List.replicate_succ',Pf,Pf,QB];rfl
theorem C9{w:List Int}(h:R[i]?=some w){o p:Option Dat}{K:RV->Prop}(k:K (.val (cT w)))(ho:o=some (.lst (R.map cT)))(hp:p=some (.int (0+(i:Nat)))):Wg2 gIx o p K:=by
 have hi:=(Pa.mp h)
 obtain⟨h1,h2⟩:=hi;refine Tj (ur:=cT) (xs:=R) (by lia) (by lia) ?_ ho hp;have:R[((0:Int)+(i:Nat)).toNat]'(by lia)=w:=by
  rw[<- h2]
  congr 1
  lia
 rw[this];exact k
theorem C_(r r':List Tie)(R:List (List Int))(o:Option (List Int))(hw:R.length<=1000)(c11 c12:Cell){N:Env->Dp->Prop}{Q:Dat->Env->Prop}(k:∀c11,N (LE ns x n at_ a b most (.ow (aC r)) (.ow (aC r')) .un (.sh (bI R.length R o)) c11 c12) (dG R.length (iM R.length R) o)) :
  Wc (lC 9 (e2 gIx (eV 9) (eC (.int 0))) (bN 11) rW) (LE ns x n at_ a b most (.ow (aC r)) (.ow (aC r')) .un (.sh (bI R.length R o)) c11 c12) (dG R.length R o) N Q:=by
 have hz:SZ=100000:=rfl;refine Vd (m:=(R.length:Nat)) ?_ (k6 ns x n at_ a b most r r' R.length R o _ _ _) (by unfold BIG;lia) ?_
 ·unfold SE bI;exact P_ (O_ rfl (Se (Sh (v:=.int (R.length:Nat)) rfl rfl rfl rfl)))
 ·refine US (fun i:Nat=>Dat.int (0+(i:Nat))) _ _ (PM ((R.length:Nat):Int).toNat) (fun l q ρ p=>∃c11,ρ=LE ns x n at_ a b most (.ow (aC r)) (.ow (aC r')) .un (.sh (bI R.length R o)) c11 c12/\p=dG R.length (iM l.length R) o) ⟨c11,rfl,?_⟩ ?_ ?_
  ·show _=dG R.length (iM 0 R) o;rfl
  ·rintro l i q ρ p e ⟨c11,rfl,rfl⟩;have el:i=l.length:=by
    have h1:(PM ((R.length:Nat):Int).toNat)[l.length]?=some i:=by rw[e,PN (Pb _),Sa];rfl
    have:=Pa.mp h1;obtain⟨h2,h3⟩:=this;rw[List.getElem_range]at h3;exact h3.symm
   have hi:i<R.length:=by
    have:=Qh.mp (show i∈PM ((R.length:Nat):Int).toNat by rw[e];simp)
    lia
   rw[<- el];refine⟨LE ns x n at_ a b most (.ow (aC r)) (.ow (aC r')) .un (.sh (bI R.length R o)) (.sh (.int (0+(i:Nat)))) c12,rfl,?_⟩;unfold rW;refine UY (Va ?_ (k6 ns x n at_ a b most r r' R.length (iM i R) o _ _ _));unfold SE;refine Si (P_ (P_ (P_ (O_ rfl (Se (Sh (v:=.lst ((iM i R).map cT)) ?_ rfl rfl rfl))))));refine O_ rfl (C9 (yX hi) ?_ rfl rfl);refine P_ (P_ (O_ rfl (Se (Sh (v:=.lst (R.map cT)) ?_ rfl rfl rfl))));refine O_ rfl (C9 (Py hi) ?_ rfl rfl);refine UK (N:=R[i]) (M:=R[i]) (Sf (SJ (by rw[decide_eq_true rfl];rfl) (U1 ?_))) rfl rfl;refine U7 (rows:=(iM i R).map kY) (items:=(R[i].map Dat.int).map .s) (m0:=1) (m:=i) (k:=0+(i:Nat)) ?_ ?_ (k6 ns x n at_ a b most r r' R.length (iM i R) o _ _ _) rfl rfl ?_ ?_
   ·unfold SE;exact O_ rfl rfl
   ·refine⟨.sh (.int (0+(i:Nat))),rfl,?_⟩;rw[Pd,<- el];show Dp.t [_,.l (((iM i R).map kY).set i (.l [])),_]=dG _ (iM (i+1) R) o;rw[GB hi];rfl
   ·rw[gV,GA (by lia)];unfold ixN;rw[if_pos (by lia),if_pos (by lia)]
    congr 1
    lia
   ·rw[PD,yX hi];rfl
  ·rintro ρ p ⟨c11,rfl,rfl⟩;rw[Qp];exact k c11
end
end
theorem qM{α β:Type}(f:α->β):∀(l:List α) (i:Nat),(l.map f).eraseIdx i=(l.eraseIdx i).map f
 |[],_=>rfl
 |_::_,0=>rfl
 |x::l,i+1=>by show f x::(l.map f).eraseIdx i=f x::(l.eraseIdx i).map f;rw[qM f l i]
theorem Vc{i:Nat}{e:FE}{ρ:Env}{ds0:List Dat}{Q:Val->Env->Prop}(h:We e ρ fun v ρ1=>bY v fun j=>∃ds d ρ2,ρ1[i]?=some (.ow (.lst ds))/\(0<=j/\j<=BIG)/\ds[j.toNat]?=some d/\ρ1.set i (.ow (.lst (ds.eraseIdx j.toNat)))=ρ2/\Q (.val d) ρ2)(h0:ρ[i]?=some (.ow (.lst ds0))):We (ff i e) ρ Q:=by obtain⟨v,ρ1,h1,j,rfl,ds,d,ρ2,h2,h3,h4,h5,q⟩:=h;refine⟨_,_,?_,q⟩;unfold ff;rw[h0];dsimp only;rw[h1];dsimp only;rw[h2];dsimp only;rw[if_pos h3,h4];dsimp only;rw[h5]
theorem Aw(n a t:Int)(hn:2<=n)(a0:0<=a)(a1:a<n)(t0:0<=t)(t1:t<n-1):0<=(a+1+t) % n/\(a+1+t) % n<n/\(a+1+t) % n≠a:=by
 have h:=dQ (a+1+t) n (by lia);refine⟨h.1,h.2,?_⟩;by_cases q:a+1+t<n
 ·rw[Int.emod_eq_of_lt (by lia) q];lia
 ·have e:(a+1+t) % n=(a+1+t-n) % n:=by rw[Int.sub_emod_right]
  rw[e,Int.emod_eq_of_lt (by lia) (by lia)];lia
theorem KP(r:List Tie)(g:Int)(g0:0<=g)(g1:g<r.length):nB r none (some g)=r.take g.toNat:=by
 unfold nB sIx;simp
 lia
theorem KQ(r:List Tie)(g:Int)(g0:0<=g)(g1:g<r.length):nB r (some (g+1)) none=r.drop (g.toNat+1):=by
 have h:sIx r.length 0 (some (g+1))=g.toNat+1:=by
  unfold sIx;dsimp only;rw[if_neg (by lia)]
  lia
 have h2:sIx r.length r.length none=r.length:=rfl;unfold nB;rw[h,h2];exact List.take_of_length_le (by rw[Rl];lia)
noncomputable def KR:FS:=(fV 9 br [(eV 2),(eV 8),(eV 4),(eV 5),(eV 6)]
  (mIf 9 (dI (tV (eF lF [(eV 2),(e2 aV (eSl (eV 7) none (some (eV 12))) (eSl (eV 7) (some (e2 aV (eV 12) (eC (.int 1)))) none)),(eV 4),(eV 5),(eV 6),(eV 9)]))) (sR (eC (.bl false)))
  (B3 sNx)))
noncomputable def KS:FS:=(az (sIf (tOr (tV (e2 gNe (eFk 5 nI [(eV 2),(eV 8),(eV 4),(eV 5),(eV 6)]) (eV 10))) (tV (e2 gNe (eV 8) (eV 7)))) (sR (eC (.bl false))) sNx)
  (sIf (tV (e2 gNe (eV 7) (cL []))) (az (sA 12 (eFm cg 1 [(eB cD [(eV 7)])]))
  (az (sE (ff 8 (eV 12)))
  KR)) sNx))
section
variable(ns:List Int)(n:Nat)(n2:2<=n)(n10:n<=10)(at_ a b most:Int)(r:List Tie)(hg:Good n 0 r)(hl:r.length<=60)(a0:0<=a)(a1:a<n)(b0:0<=b)(b1:b<n)(Kq:a≠b)(m0:0<=most)(m1:most<=60)
section
variable{N:Env->Prop}
include n2 n10 hg hl a0 a1 b0 b1 Kq m0 m1
theorem GC(x g:Int)(g0:0<=g)(g1:g<r.length)(c9 c10 c11:Cell){R:RV->Env->Prop}{B C:Env->Prop}(nx:∀x a b most c7 c8 c9 c10 c11 c12,N (LE ns x n at_ a b most c7 c8 c9 c10 c11 c12)) :
  Ws KR (LE ns x n at_ a b most (.ow (aC r)) (.ow (aC (r.eraseIdx g.toNat))) c9 c10 c11 (.sh (.int g))) N R B C:=by
 have hz:SZ=100000:=rfl;have sub:(r.eraseIdx g.toNat).Sublist r:=List.eraseIdx_sublist _ _;have sl:=sub.length_le;obtain⟨L,o,e1,e2,e3,e4⟩:=u5 n n10 (r.eraseIdx g.toNat) (fun t ht=>hg.pl t (sub.subset ht)) (hg.nd.sublist (sub.map _)) (by lia) a b a0 a1 b0 b1 Kq most m0 m1;unfold LE KR;refine UB (m_ (O_ rfl (m_ (Sg rfl (m_ (O_ rfl (m_ (O_ rfl (m_ (O_ rfl (Q_ ⟨_,dG L.length L o,LE ns x n at_ a b most (.ow (aC r)) (.ow (aC (r.eraseIdx g.toNat))) .un c10 c11 (.sh (.int g)),e2,?_,rfl,kZ _ L o,rfl⟩))))))))))) (by decide);refine Uw ?_ (UW (Su (nx _ _ _ _ _ _ _ _ _ _))) (k6 ns x n at_ a b most r (r.eraseIdx g.toNat) L.length L o _ _ _);unfold SE;refine SI (Si (SD (m_ (O_ rfl (m_ (P_ (Tw (O_ rfl (Wp.none (Wp.some (O_ rfl (bY.mk ⟨_,rfl,?_⟩))))))))))));rw[yC,KP r g g0 g1];refine Tw (O_ rfl (Wp.some (P_ (O_ rfl (Se (Sq (bY.mk (Wp.none ⟨_,rfl,?_⟩)) rfl rfl))))));rw[yC,KQ r g g0 g1];refine Tv ?_ rfl rfl (by rw[gV,gV,P1,Rl];lia);rw[<- Pf,<- List.eraseIdx_eq_take_drop_succ];exact m_ (O_ rfl (m_ (O_ rfl (m_ (O_ rfl (m_ (O_ rfl (Q_ (SA e3 (Sf rfl) rfl rfl)))))))))
theorem Dc(x:Int)(L:List (List Int))(o:Option (List Int))(eh:nI [.int n,aC r,.int a,.int b,.int most]=some (.val (bI L.length L o)))(c11 c12:Cell){R:RV->Env->Prop}{B C:Env->Prop}(nx:∀x a b most c7 c8 c9 c10 c11 c12,N (LE ns x n at_ a b most c7 c8 c9 c10 c11 c12)) :
  Ws KS (LE ns x n at_ a b most (.ow (aC r)) (.ow (aC r)) .un (.sh (bI L.length L o)) c11 c12) N R B C:=by
 have hz:SZ=100000:=rfl;unfold LE KS;cases hr:r with
 |nil=>subst hr;refine R_ (Sv (SR (Si (P_ (Uy ?_)))));refine m_ (O_ rfl (m_ (Sg rfl (m_ (O_ rfl (m_ (O_ rfl (m_ (O_ rfl (Q_ ?_))))))))));refine⟨_,_,_,rfl,eh,qL _ L o,?_⟩;refine O_ rfl (Tz (d:=bI L.length L o) (uY _ L o) (yW _ L o) (Sf (Ss ?_)) rfl rfl);refine Si (P_ (O_ rfl (Sg rfl (Tz (d:=aC []) rfl rfl (Sf (Ss (Su ?_))) rfl rfl))));refine Sv (Si (P_ (Sg rfl (SK (Q_ (So ?_ rfl rfl (by decide)))))));exact T9 (xs:=[]) (Sf (Ss (Su (nx _ _ _ _ _ _ _ _ _ _)))) rfl rfl rfl
 |cons t0 r0=>
  subst hr;refine R_ (Sv (SR (Si (P_ (Uy ?_)))));refine m_ (O_ rfl (m_ (Sg rfl (m_ (O_ rfl (m_ (O_ rfl (m_ (O_ rfl (Q_ ?_))))))))));refine⟨_,_,_,rfl,eh,qL _ L o,?_⟩;refine O_ rfl (Tz (d:=bI L.length L o) (uY _ L o) (yW _ L o) (Sf (Ss ?_)) rfl rfl);refine Si (P_ (Sg rfl (Sg rfl (Tz (d:=aC (t0::r0)) (C7 _) (KN _) (Sf (Ss (Su ?_))) rfl rfl))));refine Sv (Si (P_ (Sg rfl (SK (Q_ (So ?_ rfl rfl (by decide)))))));refine T9 (xs:=(t0::r0).map aX) (Sf (SN ?_)) rfl rfl (C7 (t0::r0))
  generalize hR:t0::r0=r at hg hl
  refine R_ (Sj (SS (m:=((r.map aX).length:Nat)) rfl (by rw[<- hR];simp) (by rw[gV];unfold iJ;lia) rfl fun i x2 i0 i1 ρ3 e=>?_) (by decide));subst e;rw[gV]at i1;refine Sn ?_ (by trivial);have hi:i.toNat<r.length:=by lia
  have hgi:r[i.toNat]?=some r[i.toNat]:=by simp[hi]
  refine R_ (Tt (Vc (O_ rfl (bY.mk ⟨_,aX r[i.toNat],_,rfl,⟨i0,by unfold BIG;lia⟩,by rw[PD,hgi];rfl,rfl,?_⟩)) rfl));rw[qM];exact GC ns n n2 n10 at_ a b most r hg hl a0 a1 b0 b1 Kq m0 m1 _ i i0 i1 _ _ _ nx
theorem GD(x:Int)(c9 c10 c11 c12:Cell){R:RV->Env->Prop}{B C:Env->Prop}(nx:∀x a b most c7 c8 c9 c10 c11 c12,N (LE ns x n at_ a b most c7 c8 c9 c10 c11 c12)) :
  Ws (fV 9 br [(eV 2),(eV 8),(eV 4),(eV 5),(eV 6)]
  (mIf 9 (dI (tV (eF lF [(eV 2),(eV 7),(eV 4),(eV 5),(eV 6),(eV 9)]))) (sR (eC (.bl false)))
  (pF (nj 9 10 (pT [(pO (e2 gIx (eV 9) (eC (.int 0)))),(dg (iS (e2 gIx (eV 9) (eC (.int 1)))) 1 (bN 13) (pO (eB iP [(eV 13)]))),(pO (e2 gIx (eV 9) (eC (.int 2))))]))
  (pF (lC 9 (e2 gIx (eV 9) (eC (.int 0))) (bN 11)
  rW)
  (wI 1
  KS))))) (LE ns x n at_ a b most (.ow (aC r)) (.ow (aC r)) c9 c10 c11 c12) N R B C:=by
 obtain⟨L,o,e1,e2,e3,e4⟩:=u5 n n10 r hg.pl hg.nd (by lia) a b a0 a1 b0 b1 Kq most m0 m1;unfold LE;refine UB (m_ (O_ rfl (m_ (Sg rfl (m_ (O_ rfl (m_ (O_ rfl (m_ (O_ rfl (Q_ ⟨_,dG L.length L o,LE ns x n at_ a b most (.ow (aC r)) (.ow (aC r)) .un c10 c11 c12,e2,?_,rfl,kZ _ L o,rfl⟩))))))))))) (by decide);refine Uw ?_ ?_ (k6 ns x n at_ a b most r r L.length L o _ _ _)
 ·unfold SE;exact SI (Si (SD (m_ (O_ rfl (m_ (O_ rfl (m_ (O_ rfl (m_ (O_ rfl (m_ (O_ rfl (m_ (O_ rfl (Q_ (SA e3 (Sf rfl) rfl rfl))))))))))))))))
 refine Ur (U5 (Gz ns x n at_ a b most r r L.length L o e4 c10 c11 c12) ?_ (k6 ns x n at_ a b most r r L.length L o _ _ _) (kZ _ L o) (uZ _ L o) rfl (by decide));refine Ur (C_ ns x n at_ a b most r r L o e4 c11 c12 fun c11=>?_);unfold dG;refine UX ?_ rfl rfl;exact Dc ns n n2 n10 at_ a b most r hg hl a0 a1 b0 b1 Kq m0 m1 x L o e1 c11 c12 nx
end
end
theorem Dd(xs:List Int)(i:Int)(h0:0<=i)(h1:i<xs.length):∃x∈xs,gIx (.lst (xs.map Dat.int)) (.int i)=some (.val (.int x)):=by refine⟨xs[i.toNat]'(by lia),Rm _,?_⟩;show (atI (xs.map Dat.int) i).map RV.val=_;rw[Dm.iB Dat.int xs i h0 h1];rfl
theorem GF(ns:List Int)(n:Nat)(n2:2<=n)(n10:n<=10)(at_:Int)(h0:0<=at_)(h1:at_<100)(c1 c4 c5 c6 c7 c8 c9 c10 c11 c12:Cell){N:Env->Prop}{R:RV->Env->Prop}{B C:Env->Prop}(nx:∀x a b most c7 c8 c9 c10 c11 c12,N (LE ns x n at_ a b most c7 c8 c9 c10 c11 c12)) :
  Ws wZ [.sh (.lst (ns.map Dat.int)),c1,.sh (.int n),.sh (.int at_),c4,c5,c6,c7,c8,c9,c10,c11,c12] N R B C:=by
 have hz:SZ=100000:=rfl;obtain⟨x,ex⟩:=yS ns at_ h0 (by lia);unfold wZ;refine R_ (Sj (SD (m_ (O_ rfl (m_ (O_ rfl (Q_ (S3 ex (Sm ?_ (by trivial)) rfl rfl rfl rfl))))))) (by decide));refine R_ (Sj (SS (m:=(n:Nat)) rfl (by lia) (by unfold iJ;lia) rfl fun a x1 a0 a1 ρ3 e=>?_) (by decide));subst e;refine Sn ?_ (by trivial);refine R_ (Sj (P_ (P_ (P_ (O_ rfl (Se (Sq ?_ rfl rfl)))))) (by decide));refine SS (m:=(n:Int)-1) rfl (by lia) (by unfold iJ;lia) rfl fun t x2 t0 t1 ρ3 e=>?_;subst e;refine Sq (O_ rfl (Tn (Sn ?_ (by trivial)) rfl rfl (by lia))) rfl rfl;obtain⟨b0,b1,Kq⟩:=Aw n a t (by lia) a0 a1 t0 t1
 generalize (a+1+t) % (n:Int)=b at b0 b1 Kq
 refine R_ (Sj (P_ (SK (m_ (Se (m_ (Se (m_ (Se (m_ (Se (m_ (Se (m_ (Se (Q_ (So ?_ rfl rfl (by decide))))))))))))))))) (by decide));refine SS (m:=6) rfl (by decide) (by decide) rfl fun u x3 u0 u1 ρ3 e=>?_;subst e;obtain⟨most,hm,em⟩:=Dd [1,2,3,4,8,60] u u0 u1;refine Sh (v:=.int most) (Sn ?_ (by trivial)) rfl rfl em;have m01:0<=most/\most<=60:=by
  simp at hm
  lia
 refine R_ (Sj (Uk (m_ (O_ rfl (m_ (P_ (SK (m_ (Se (m_ (Se (m_ (Se (m_ (Se (Q_ (So ?_ rfl rfl (by decide)))))))))))))))) rfl) (by decide));refine SS (m:=4) rfl (by decide) (by decide) rfl fun v x4 v0 v1 ρ3 e=>?_;subst e;obtain⟨top,ht,et⟩:=Dd [16,16,16,60] v v0 v1;have t01:0<=top/\top<=60:=by
  simp at ht
  lia
 obtain⟨r,x5,er,hg,hl⟩:=An x4 n top (by lia) (by lia) t01.1 t01.2;refine Sh (v:=.int top) (Q_ (TY er (Sm ?_ (by trivial)) rfl rfl rfl)) rfl rfl et;refine R_ (Sj (Sw (m_ (Sg rfl (Q_ (TR (xs:=r.map aX) (Sm ?_ (by trivial)) rfl))))) (by decide));exact GD ns n n2 n10 at_ a b most r hg (by lia) a0 a1 b0 b1 (fun z=>Kq z.symm) m01.1 m01.2 x5 c9 c10 c11 c12 nx
theorem math(ns:List Int)(h:ns.length<=63):nJ [.lst (ns.map Dat.int)]=some (.val (.bl true)):=by
 apply SG;unfold nJ
 (refine Dm.Sy ?_ rfl rfl;and_intros)
 obtain⟨y0,ep⟩:=yS ns 0 (by decide) (by decide);refine R_ (Sj (SD (m_ (O_ rfl (m_ (Se (Q_ (S3 ep (Sm ?_ (by trivial)) rfl rfl rfl rfl))))))) (by decide));refine R_ (Sj (P_ (Se (TU (P_ (SK (m_ (Se (m_ (Se (Q_ (So ?_ rfl rfl (by decide))))))))) rfl))) (by decide));refine SS (m:=2) rfl (by decide) (by decide) rfl fun t y1 t0 t1 ρ3 e=>?_;subst e;obtain⟨wd,hw,ew⟩:=Dd [5,9] t t0 t1;have w01:0<wd/\wd<=9:=by
  simp at hw
  lia
 refine Sh (v:=.int wd) (bY.mk (su ?_ rfl rfl w01.1 (by unfold iJ;lia))) rfl rfl ew;have um:=dQ y1 wd (by lia);refine Sq (Sn ?_ (by trivial)) rfl rfl;obtain⟨n,hn1⟩:∃n:Nat,(2:Int)+y1 % wd=(n:Nat):=⟨(2+y1 % wd).toNat,by lia⟩
 rw[hn1];refine R_ (SM (Um (Se (bY.mk (Sw (m_ (Se (m_ (Sw (m_ (Se (m_ (Sw (m_ (O_ rfl (Q_ (S9 (ur:=Dat.int) (xs:=ns) ?_ rfl)))))))))))))))));refine Q_ (TM ?_ rfl);refine Q_ (TX ?_ rfl);have hb:∀z:Int,z=(if (ns.length:Int)<5 then (ns.length:Int) else 5)->(if z>2 then z else 2)<=9/\2<=(if z>2 then z else 2):=fun z hz=>by
  rw[hz];constructor
  ·split<;>split<;>lia
  ·split<;>lia
 have hb:=hb _ rfl
 generalize (if (if (ns.length:Int)<5 then (ns.length:Int) else 5)>2 then (if (ns.length:Int)<5 then (ns.length:Int) else 5) else 2)=top at hb ⊢
 refine bY.mk ⟨?_,by unfold BIG;lia⟩;refine SQ (fun i:Nat=>Dat.int (1+(i:Nat))) _ _ (PM (top-1).toNat) _ _ _ _ _ (fun p q ρ=>∃c1 c3 c4 c5 c6 c7 c8 c9 c10 c11 c12:Cell,ρ=[.sh (.lst (ns.map Dat.int)),c1,.sh (.int n),c3,c4,c5,c6,c7,c8,c9,c10,c11,c12]) ⟨_,_,_,_,_,_,_,_,_,_,_,rfl⟩ ?_ ?_
 ·rintro p i q ρ e ⟨c1,c3,c4,c5,c6,c7,c8,c9,c10,c11,c12,rfl⟩;have hi:i<(top-1).toNat:=Qh.mp (by rw[e];simp);refine Dm.bZ rfl (by trivial) ?_;exact GF ns n (by lia) (by lia) _ (by lia) (by lia) _ _ _ _ _ _ _ _ _ _ fun x a b most c7 c8 c9 c10 c11 c12=>⟨_,_,_,_,_,_,_,_,_,_,_,rfl⟩
 ·rintro ρ ⟨c1,c3,c4,c5,c6,c7,c8,c9,c10,c11,c12,rfl⟩;exact Sz (Se rfl)
end P
namespace Q
open PySem L2 Br Dm P
noncomputable def top(i:Nat):Stmt:=PySem.Challenge.pw_sinceply_k43_place_ways_told.main.body.getD i (.Pass ⟨0,0,0,0⟩)
structure Txt(mg:Str->Option Value)(K:O8)(base:Heap)(xA xB xC xD xE xF xG xH xJ xK oi oj oq lM lN ou oz oA oB oE oF oG oH oJ oK oM oN oO oQ oR:Addr)(oS oU oV oW oX oY oZ o4 o5 o6 ju jv jx ie ig jy jz jA jB jC jD jE jF jG jH jI jJ jK jL k7:FuncData):Prop where
 yY:mg "all" = none
 De:mg "bool" = none
 KU:mg "dict" = none
 u6:mg "enumerate" = none
 H_:mg "int" = none
 bq:mg "isinstance" = none
 ck:mg "len" = none
 jM:mg "list" = none
 Ia:mg "max" = none
 Ib:mg "min" = none
 eZ:mg "range" = none
 yZ:mg "set" = none
 kq:mg "sorted" = none
 l7:mg "tuple" = none
 OV:mg "led_steps" = some (.ref xA)
 Df:mg "shortest_ways" = some (.ref xB)
 M_:mg "lead_along" = some (.ref xC)
 Na:mg "parted" = some (.ref xD)
 OW:mg "is_whole" = some (.ref xE)
 OX:mg "is_within" = some (.ref xF)
 Nb:mg "is_place" = some (.ref xG)
 OY:mg "is_pair" = some (.ref xH)
 Nc:mg "look_at_pair" = some (.ref xJ)
 Nd:mg "moments_of_steps" = some (.ref xK)
 Ic:mg "steps_through_doors" = some (.ref oi)
 y9:mg "free_doors" = some (.ref oj)
 Ie:mg "first_shut" = some (.ref oq)
 Ig:mg "ways_around" = some (.ref lM)
 Dg:mg "place_hang" = some (.ref lN)
 Nf:mg "_law_cell_at" = some (.ref ou)
 Ih:mg "_law_pool" = some (.ref oz)
 e7:mg "_law_take" = some (.ref oA)
 Ng:mg "_law_record" = some (.ref oB)
 Dh:mg "_law_whole" = some (.ref oE)
 Nh:mg "_law_are_wholes" = some (.ref oF)
 Ni:mg "_law_leads" = some (.ref oG)
 Nj:mg "_law_apart" = some (.ref oH)
 Nk:mg "_law_is_side" = some (.ref oJ)
 Nl:mg "_law_joined_without" = some (.ref oK)
 Nm:mg "_law_places_of" = some (.ref oM)
 Nn:mg "_law_apart_by_places" = some (.ref oN)
 Np:mg "_law_bars" = some (.ref oO)
 Ii:mg "_law_right" = some (.ref oQ)
 O3:mg "law" = some (.ref oR)
 Nq:Fun K "led_steps" "led_steps" (top 1) xA oS
 Ax:Fun K "shortest_ways" "shortest_ways" (top 2) xB oU
 KW:Fun K "lead_along" "lead_along" (top 3) xC oV
 KY:Binds K oS ["steps","heads"] []
 xM:Binds K oU ["steps","a"] []
 KZ:Fun K "parted" "parted" (top 4) xD oW
 Nr:Fun K "is_whole" "is_whole" (top 9) xE oX
 K0:Binds K oX ["thing"] []
 Nt:Fun K "is_within" "is_within" (top 10) xF oY
 K1:Binds K oY ["thing","low","high"] []
 K2:Fun K "is_place" "is_place" (top 11) xG oZ
 GG:Binds K oZ ["n","thing"] []
 Nu:Fun K "is_pair" "is_pair" (top 12) xH o4
 K3:Binds K o4 ["n","a","b"] []
 K4:Fun K "look_at_pair" "look_at_pair" (top 13) xJ o5
 K5:Fun K "moments_of_steps" "moments_of_steps" (top 17) xK o6
 Di:Fun K "steps_through_doors" "steps_through_doors" (top 18) oi ju
 u7:Fun K "free_doors" "free_doors" (top 19) oj jv
 Dj:Fun K "first_shut" "first_shut" (top 20) oq jx
 GH:Binds K oV ["heads","way"] []
 GI:Binds K oW ["steps","heads","a","b","count"] []
 GJ:Binds K o6 ["n","ties"] []
 y_:Binds K ju ["n","moments"] []
 qN:Binds K jv ["steps","heads"] []
 za:Binds K jx ["n","way","reached"] []
 zb:Fun K "ways_around" "ways_around" (top 16) lM ie
 GK:Binds K o5 ["n","a","b"] []
 zc:Binds K ie ["n","ties","a","b","most"] []
 u9:Fun K "place_hang" "place_hang" (top 15) lN ig
 Ij:Fun K "_law_cell_at" "_law_cell_at" (top 22) ou jy
 Dl:Binds K jy ["script","k"] []
 Dq:Fun K "_law_pool" "_law_pool" (top 23) oz jz
 ez:Fun K "_law_take" "_law_take" (top 24) oA jA
 dH:Binds K jA ["pool","many"] []
 Ik:Fun K "_law_record" "_law_record" (top 25) oB jB
 zd:Fun K "_law_whole" "_law_whole" (top 26) oE jC
 u_:Binds K jC ["found"] []
 Il:Fun K "_law_are_wholes" "_law_are_wholes" (top 27) oF jD
 Dt:Binds K jD ["row"] []
 Im:Fun K "_law_leads" "_law_leads" (top 28) oG jE
 Du:Binds K jE ["record","a","b","way"] []
 Io:Fun K "_law_apart" "_law_apart" (top 29) oH jF
 Ip:Fun K "_law_is_side" "_law_is_side" (top 31) oJ jG
 Iq:Fun K "_law_joined_without" "_law_joined_without" (top 32) oK jH
 Ir:Fun K "_law_places_of" "_law_places_of" (top 33) oM jI
 Dv:Binds K jF ["record","a","b","ways"] []
 Dw:Binds K jI ["record","a","way"] []
 Iu:Fun K "_law_apart_by_places" "_law_apart_by_places" (top 34) oN jJ
 Dy:Binds K jG ["n","side"] []
 Dz:Binds K jH ["ties","a","b","gone"] []
 Iv:Fun K "_law_bars" "_law_bars" (top 35) oO jK
 DB:Binds K jJ ["record","a","b","ways"] []
 DF:Binds K jK ["n","record","a","b","count","places"] []
 DG:Fun K "_law_right" "_law_right" (top 36) oQ jL
 vc:Binds K ig ["n","record","a","b","most"] []
 ze:Binds K jz ["script","at"] []
 DH:Binds K jB ["pool","n","most"] []
 zf:Binds K jL ["n","record","a","b","most","found"] []
 Nv:Fun K "law" "law" (top 37) oR k7
section
variable{P':Program}{w:World}{K:O8}{mg:Str->Option Value}{base:Heap}{xA xB xC xD xE xF xG xH xJ xK oi oj oq lM lN ou oz oA oB oE oF oG oH oJ oK oM oN oO oQ oR:Addr}
variable{oS oU oV oW oX oY oZ o4 o5 o6 ju jv jx ie ig jy jz jA jB jC jD jE jF jG jH jI jJ jK jL k7:FuncData}
theorem Nx:aF ["steps","heads"] ["steps","heads"] (ak (top 1)):=fsc
theorem K6:(["steps","heads","row"]:List Str).Nodup:=by decide +kernel
theorem K7:(["steps","heads","row","step"]:List Str).Nodup:=by decide +kernel
theorem ve:aF ["steps","a","ways","pending","place","step"] ["steps","a"] (ak (top 2)):=fsc
theorem DJ:aF ["heads","way","moment","place"] ["heads","way"] (ak (top 3)):=fsc
theorem qO:aF ["steps","heads","a","b","count","left","ways","time","way","moment"] ["steps","heads","a","b","count"] (ak (top 4)):=fsc
theorem K8:(["steps","heads","a","b","count","left","ways","time","way","moment","step"]:List Str).Nodup:=by decide +kernel
theorem Ny:aF ["thing"] ["thing"] (ak (top 9)):=fsc
theorem Nz:aF ["thing","low","high"] ["thing","low","high"] (ak (top 10)):=fsc
theorem NB:aF ["n","thing"] ["n","thing"] (ak (top 11)):=fsc
theorem NC:aF ["n","a","b"] ["n","a","b"] (ak (top 12)):=fsc
theorem ND:aF ["n","a","b"] ["n","a","b"] (ak (top 13)):=fsc
theorem vf:aF ["n","ties","moments","moment","a","b"] ["n","ties"] (ak (top 17)):=fsc
theorem sG:aF ["n","moments","steps","through","step"] ["n","moments"] (ak (top 18)):=fsc
theorem GL:(["n","moments","steps","through","step","door"]:List Str).Nodup:=by decide +kernel
theorem GN:(["n","moments","steps","through","step","place"]:List Str).Nodup:=by decide +kernel
theorem k8:aF ["steps","heads","free","door","row","step","onward"] ["steps","heads"] (ak (top 19)):=fsc
theorem GO:(["steps","heads","free","door","%4","step","onward","row"]:List Str).Nodup:=by decide +kernel
theorem K9:aF ["n","way","reached"] ["n","way","reached"] (ak (top 20)):=fsc
theorem GP:(["n","way","reached","step"]:List Str).Nodup:=by decide +kernel
theorem bH:aF ["n","ties","a","b","most","moments","steps","heads","reached","count","ways","told"] ["n","ties","a","b","most"] (ak (top 16)):=fsc
theorem GQ:(["n","ties","a","b","most","moments","steps","heads","reached","count","ways","told","way"]:List Str).Nodup:=by decide +kernel
theorem GR:(["n","ties","a","b","most","moments","steps","heads","reached","count","ways","told","way","step"]:List Str).Nodup:=by decide +kernel
theorem GS:(["n","ties","a","b","most","moments","steps","heads","reached","count","ways","told","way"]:List Str).Nodup:=by decide +kernel
theorem GU:(["n","ties","a","b","most","moments","steps","heads","reached","count","ways","told","way"]:List Str).Nodup:=by decide +kernel
theorem GV:(["n","ties","a","b","most","moments","steps","heads","reached","count","ways","told","way","step"]:List Str).Nodup:=by decide +kernel
theorem GW:(["n","ties","a","b","most","moments","steps","heads","reached","count","ways","told","way"]:List Str).Nodup:=by decide +kernel
theorem fD:aF ["n","record","a","b","most","straight","others","ways","around"] ["n","record","a","b","most"] (ak (top 15)):=fsc
theorem GX:(["n","record","a","b","most","straight","others","ways","around","tie"]:List Str).Nodup:=by decide +kernel
theorem GY:(["n","record","a","b","most","straight","others","ways","around","tie"]:List Str).Nodup:=by decide +kernel
theorem GZ:(["n","record","a","b","most","straight","others","ways","around","tie"]:List Str).Nodup:=by decide +kernel
theorem G0:(["n","record","a","b","most","straight","others","ways","around","tie"]:List Str).Nodup:=by decide +kernel
theorem G1:(["n","record","a","b","most","straight","others","ways","around","tie"]:List Str).Nodup:=by decide +kernel
theorem G3:(["n","record","a","b","most","straight","others","ways","around","tie"]:List Str).Nodup:=by decide +kernel
theorem K_:aF ["script","k"] ["script","k"] (ak (top 22)):=fsc
theorem ir:aF ["script","at","cell","big","turn","one"] ["script","at"] (ak (top 23)):=fsc
theorem DK:aF ["pool","many","number"] ["pool","many"] (ak (top 24)):=fsc
theorem dw:aF ["pool","n","most","many","wide","moment","record","k","a","b"] ["pool","n","most"] (ak (top 25)):=fsc
theorem La:aF ["found"] ["found"] (ak (top 26)):=fsc
theorem Lb:aF ["row"] ["row"] (ak (top 27)):=fsc
theorem G4:(["row","number"]:List Str).Nodup:=by decide +kernel
theorem o7:aF ["record","a","b","way","here","moment","found"] ["record","a","b","way"] (ak (top 28)):=fsc
theorem G5:(["record","a","b","way","here","moment","found","tie"]:List Str).Nodup:=by decide +kernel
theorem sH:aF ["record","a","b","ways","used","way"] ["record","a","b","ways"] (ak (top 29)):=fsc
theorem G6:(["record","a","b","ways","used","%5","way"]:List Str).Nodup:=by decide +kernel
theorem Lc:aF ["n","side"] ["n","side"] (ak (top 31)):=fsc
theorem G7:(["n","side","place"]:List Str).Nodup:=by decide +kernel
theorem G8:(["n","side","k"]:List Str).Nodup:=by decide +kernel
theorem iu:aF ["ties","a","b","gone","seen","at","moment","one","other","place"] ["ties","a","b","gone"] (ak (top 32)):=fsc
theorem sI:aF ["record","a","way","found","moment","tie"] ["record","a","way"] (ak (top 33)):=fsc
theorem G9:(["record","a","way","found","moment","tie","one"]:List Str).Nodup:=by decide +kernel
theorem o8:aF ["record","a","b","ways","used","way","places"] ["record","a","b","ways"] (ak (top 34)):=fsc
theorem xN:aF ["n","record","a","b","count","places","direct","rest"] ["n","record","a","b","count","places"] (ak (top 35)):=fsc
theorem G_:(["n","record","a","b","count","places","direct","rest","tie"]:List Str).Nodup:=by decide +kernel
theorem Hg:(["n","record","a","b","count","places","direct","rest","tie"]:List Str).Nodup:=by decide +kernel
theorem Ld:aF ["n","record","a","b","most","found"] ["n","record","a","b","most","found"] (ak (top 36)):=fsc
theorem cy:aF ["script","pool","n","at","a","b","most","record","handed","found","kept","k","gone"] ["script"] (ak (top 37)):=fsc
theorem Hh:(["script","pool","n","at","a","b","most","record","handed","found","kept","k","gone","way"]:List Str).Nodup:=by decide +kernel
variable(T:Txt mg K base xA xB xC xD xE xF xG xH xJ xK oi oj oq lM lN ou oz oA oB oE oF oG oH oJ oK oM oN oO oQ oR oS oU oV oW oX oY oZ o4 o5 o6 ju jv jx ie ig jy jz jA jB jC jD jE jF jG jH jI jJ jK jL k7)
include T
theorem NF :
  bw P' w K mg base CX0 1 xA oS ["steps","heads"] (spD CB):=
 okQ T.Nq Nx fun _ _ _ _ _ _ hr=>(aA (s_r (eU 0 ["steps","heads"] ["row"] (c_n 2 K6 rfl rfl) (d_v 0) (fun _ _ _ _ _=>d7) (fun _ _ _ _ _=>(eU 2 ["steps","heads","row"] ["step"] (c_n 3 K7 rfl rfl) (d_v 2) (fun _ _ _ _ _=>di (mY hr (Fv hr (d_v 1) (aL (d_v 3) d_i)) (aL (d_v 3) d_i))) (fun _ _ _ _ _=>(d_v 3)))))))
theorem vg :
  bw P' w K mg base CX0 1 xB oU ["steps","a"] (spD kQ):=
 okQ T.Ax ve fun _ _ _ _ _ _ hr=>(ai (s_a 2 ve.nd (Of (d_v 1) (b_ ah)))
  (ai (s_a 3 ve.nd (b_ (aa (d_v 1) ah)))
  (ai (EV 100 PV (Oh (d_v 3))
  (ai (s_a 4 ve.nd (yo 3 d_i))
  (aA (fG PV rfl (i_S (aL (d_v 0) (d_v 4))) (g_n 5 ve.nd)
  (aA (dZ (BN hr (aL (d_v 5) d_i) (d_v 2)) (ai (JP 2 hr (aL (d_v 5) d_i) (aY (E2 hr (d_v 2) (d_v 4)) (b_ (aa (d_v 5) ah))))
  (aA (tQ 3 (aL (d_v 5) d_i)))) bW))))))
  (aA (s_r (d_v 2))))))
theorem Iw :
  bw P' w K mg base CX0 1 xC oV ["heads","way"] (spM CC):=by
 refine T.KW.ok DJ (fun vs H Q E h=>lW h) (fun cdv A outer s H vs Q E hr h=>?_);exact ⟨_,(aA (fG PV rfl (i_S (d_v 1)) (g_t rfl (cu 2 DJ.nd (cu 3 DJ.nd m5)))
  (aA (dZ (rQ hr (d_v 2) (d_v 0)) (aA (s_e (yz 0 hr (d_v 2)))) (aA (rN 0 hr (d_v 2) (d_v 3))))))),BK (n:=2) (m:=2) rfl h⟩
theorem Iz :
  bw P' w K mg base CX0 2 xD oW ["steps","heads","a","b","count"] (spD ux):=
 okQ T.KZ qO fun _ _ _ _ _ _ hr=>(ai (s_a 5 qO.nd (Ft rfl T.KU (aa (d_v 1) ah)))
  (ai (s_a 6 qO.nd (b_ ah))
  (ai (fG PV rfl (BC rfl T.eZ (aa (d_v 4) ah)) (g_n 7 qO.nd)
  (ai (Mg 8 ["steps","heads","a","b","count","left","ways","time","way","moment"] ["step"] qO.nd (c_n 10 K8 rfl rfl) (i_S (E2 hr (aN (vg T) (Br.hm hr) rfl T.Df T.Ax.kp T.xM (aa (cF (NF T) (Br.hm hr) rfl T.OV T.Nq.kp T.KY (aa (d_v 0) (aa (d_v 5) ah))) (aa (d_v 2) ah))) (d_v 3))) (fun _ _ _ _ _=>d7) (fun _ _ _ _ _=>(aL (d_v 10) d_i)))
  (ai (fG PV rfl (i_S (d_v 8)) (g_n 9 qO.nd)
  (aA (s_e (yz 5 hr (d_v 9)))))
  (aA (tQ 6 (d_v 8))))))
  (aA (s_r (d_v 6))))))
theorem NG :
  bw P' w K mg base CX0 1 xE oX ["thing"] (spD FW):=
 okQ T.Nr Ny fun _ _ _ _ _ _ hr=>(aA (s_r (lu (jX yg (by rfl) rfl T.H_ rfl T.bq (d_v 0)) (mZ (BB (jX tR (by rfl) rfl T.De rfl T.bq (d_v 0)))))))
theorem NH :
  bw P' w K mg base CX0 2 xF oY ["thing","low","high"] (spD FY):=
 okQ T.Nt Nz fun _ _ _ _ _ _ hr=>(aA (s_r (lu (aN (NG T) (Br.hm hr) rfl T.OW T.Nr.kp T.K0 (aa (d_v 0) ah)) (mZ (yh AL Bq AL Bq (d_v 1) (d_v 0) (d_v 2))))))
theorem IA :
  bw P' w K mg base CX0 3 xG oZ ["n","thing"] (spD CD):=
 okQ T.K2 NB fun _ _ _ _ _ _ hr=>(aA (s_r (aN (NH T) (Br.hm hr) rfl T.OX T.Nt.kp T.K1 (aa (d_v 1) (aa d_i (aa (iQ (d_v 0) d_i) ah))))))
theorem NI :
  bw P' w K mg base CX0 4 xH o4 ["n","a","b"] (spD FZ):=
 okQ T.Nu NC fun _ _ _ _ _ _ hr=>(aA (s_r (lu (aN (IA T) (Br.hm hr) rfl T.Nb T.K2.kp T.GG (aa (d_v 0) (aa (d_v 1) ah))) (lu (aN (IA T) (Br.hm hr) rfl T.Nb T.K2.kp T.GG (aa (d_v 0) (aa (d_v 2) ah))) (mZ (N8 hr (d_v 1) (d_v 2)))))))
theorem IB :
  bw P' w K mg base CX0 5 xJ o5 ["n","a","b"] (spD Ad):=
 okQ T.K4 ND fun _ _ _ _ _ _ hr=>(aA (dZ (eO (eT (aN (NI T) (Br.hm hr) rfl T.OY T.Nu.kp T.K3 (aa (d_v 0) (aa (d_v 1) (aa (d_v 2) ah)))))) (aA EU) bW))
theorem IC :
  bw P' w K mg base CX0 1 xK o6 ["n","ties"] (spD Ae):=
 okQ T.K5 vf fun _ _ _ _ _ _ hr=>(ai (s_a 2 vf.nd Ca)
  (ai (fG PV rfl (i_S (d_v 1)) (g_t rfl (cu 3 vf.nd (cu 4 vf.nd (cu 5 vf.nd m5))))
  (aA (dZ (rF hr (d_v 4) (d_v 5)) (ai (rN 2 hr (gK (aa (aY (d_v 0) (d_v 4)) (aa (d_v 5) ah))) (d_v 3))
  (aA (rN 2 hr (gK (aa (aY (d_v 0) (d_v 5)) (aa (d_v 4) ah))) (d_v 3)))) bW)))
  (aA (s_r (d_v 2)))))
theorem DL :
  bw P' w K mg base CX0 1 oi ju ["n","moments"] (spD qp):=
 okQ T.Di sG fun _ _ _ _ _ _ hr=>(Fx 2 ["n","moments","steps","through","step"] ["door"] sG.nd (c_n 5 GL rfl rfl) (BC rfl T.eZ (aa (iR d_i (d_v 0)) ah)) (OE 3 ["n","moments","steps","through","step"] ["place"] sG.nd (c_n 5 GN rfl rfl) (BC rfl T.eZ (aa (d_v 0) ah)) (fun _ _ _ _ _=>d7) (fun _ _ _ _ _=>(gK (aa (d_v 5) (aa (aY (d_v 0) (d_v 5)) ah))))) (BQ PV rfl (i_S (aY (Fj rfl rfl T.jM (aa (d_v 1) ah)) (d_v 3))) (g_n 4 sG.nd)
  (tZ (BR (aL (d_v 4) d_i) (gK (aa (d_v 4) (aa (aL (d_v 4) d_i) ah))))))
  (aA (s_r (d_v 2))))
theorem sJ :
  bw P' w K mg base CX0 1 oj jv ["steps","heads"] (spD lE):=
 okQ T.u7 k8 fun _ _ _ _ _ _ hr=>(JX 2 ["steps","heads","free","door","%4","step","onward"] ["row"] k8.nd (c_n 7 GO rfl rfl) (i_S (d_v 0)) (BQ PV rfl (Od rfl T.u6 (d_v 0)) (g_t rfl (cu 3 k8.nd (cu 4 k8.nd m5)))
  (tZ (BQ PV rfl (i_S (d_v 4)) (g_t rfl (cu 5 k8.nd (cu 6 k8.nd m5)))
  (tZ (Ol (rQ hr (d_v 5) (d_v 1)) (tZ (BR (d_v 6) (gK (aa (d_v 5) (aa (d_v 3) ah))))) (tZ (BR (d_v 3) (gK (aa (d_v 5) (aa (d_v 6) ah))))))))))
  (aA (s_r (d_v 2))))
theorem DM :
  bw P' w K mg base CX0 1 oq jx ["n","way","reached"] (spD nH):=
 okQ T.Dj K9 fun _ _ _ _ _ _ hr=>(aA (s_r (aL (eU 1 ["n","way","reached"] ["step"] (c_n 3 GP rfl rfl) (d_v 1) (fun _ _ _ _ _=>di (t_w (w_and (Bx (aL (d_v 3) d_i) (d_v 0)) (gM (BN hr (aL (d_v 3) d_i) (d_v 2)))))) (fun _ _ _ _ _=>(aL (d_v 3) d_i))) d_i)))
theorem Le :
  bw P' w K mg base CX0 3 lM ie ["n","ties","a","b","most"] (spD uy):=
 okQ T.zb bH fun _ _ _ _ _ _ hr=>(ai (s_a 5 bH.nd (aN (IC T) (Br.hm hr) rfl T.Nd T.K5.kp T.GJ (aa (d_v 0) (aa (d_v 1) ah))))
  (ai (s_a 6 bH.nd (cF (DL T) (Br.hm hr) rfl T.Ic T.Di.kp T.y_ (aa (d_v 0) (aa (d_v 5) ah))))
  (ai (s_a 7 bH.nd Ca)
  (ai (s_a 8 bH.nd (aN (vg T) (Br.hm hr) rfl T.Df T.Ax.kp T.xM (aa (cF (sJ T) (Br.hm hr) rfl T.y9 T.u7.kp T.qN (aa (d_v 6) (aa (d_v 7) ah))) (aa (aY (d_v 0) (d_v 2)) ah))))
  (ai (s_a 9 bH.nd d_i)
  (ai (EV 100 PV (t_w (w_and (Bx (d_v 9) (d_v 4)) (gM (HF hr (d_v 3) (d_v 8)))))
  (ai (s_e (bA (Iw T) (Br.hm hr) rfl T.M_ T.KW.kp T.GH (aa (d_v 7) (aa (E2 hr (d_v 8) (d_v 3)) ah))))
  (ai (s_a 9 bH.nd (aY (d_v 9) d_i))
  (aA (s_a 8 bH.nd (aN (vg T) (Br.hm hr) rfl T.Df T.Ax.kp T.xM (aa (cF (sJ T) (Br.hm hr) rfl T.y9 T.u7.kp T.qN (aa (d_v 6) (aa (d_v 7) ah))) (aa (aY (d_v 0) (d_v 2)) ah))))))))
  (ai (s_a 10 bH.nd (cF (Iz T) (Br.hm hr) rfl T.Na T.KZ.kp T.GI (@aa _ _ _ _ _ (d_v 6) (@aa _ _ _ _ _ (d_v 7) (@aa _ _ _ _ _ (aY (d_v 0) (d_v 2)) (@aa _ _ _ _ _ (d_v 3) (@aa _ _ _ _ _ (d_v 9) ah rfl) rfl) rfl) rfl) rfl)))
  (ai (tU 11 10 ["n","ties","a","b","most","moments","steps","heads","reached","count","ways","told"] ["way"] bH.nd (c_n 12 GQ rfl rfl) (d_v 10) (fun _ _ _ _ _=>d7) (fun _ _ _ _ _=>(eU 12 ["n","ties","a","b","most","moments","steps","heads","reached","count","ways","told","way"] ["step"] (c_n 13 GR rfl rfl) (d_v 12) (fun _ _ _ _ _=>di (rQ hr (d_v 13) (d_v 5))) (fun _ _ _ _ _=>(HL hr (d_v 5) (d_v 13))))))
  (ai (dZ (mY hr (d_v 9) (d_v 4)) (aA (s_r (gK (aa (d_v 11) (aa d_n ah))))) bW)
  (aA (s_r (gK (aa (d_v 11) (aa (yf rfl T.l7 (aa (rS rfl T.kq (aa (eU 10 ["n","ties","a","b","most","moments","steps","heads","reached","count","ways","told"] ["way"] (c_n 12 GS rfl rfl) (d_v 10) (fun _ _ _ _ _=>d7) (fun _ _ _ _ _=>(t9 (DM T) (Br.hm hr) rfl T.Ie T.Dj.kp T.za (aa (d_v 0) (aa (d_v 12) (aa (d_v 8) ah)))))) ah)) ah)) ah))))))))))))))
theorem lS :
  bw P' w K mg base CX0 3 lM ie ["n","ties","a","b","most"] (spP bG):=by
 refine T.zb.ok bH (fun vs H Q E h=>yu h) (fun cdv A outer s H vs Q E hr h=>?_);exact ⟨_,(fk (s_a 5 bH.nd (aN (IC T) (Br.hm hr) rfl T.Nd T.K5.kp T.GJ (aa (d_v 0) (aa (d_v 1) ah))))
  (fk (s_a 6 bH.nd (cF (DL T) (Br.hm hr) rfl T.Ic T.Di.kp T.y_ (aa (d_v 0) (aa (d_v 5) ah))))
  (fk (s_a 7 bH.nd Ca)
  (fk (s_a 8 bH.nd (aN (vg T) (Br.hm hr) rfl T.Df T.Ax.kp T.xM (aa (cF (sJ T) (Br.hm hr) rfl T.y9 T.u7.kp T.qN (aa (d_v 6) (aa (d_v 7) ah))) (aa (aY (d_v 0) (d_v 2)) ah))))
  (fk (s_a 9 bH.nd d_i)
  (fk (EV 100 PV (t_w (w_and (Bx (d_v 9) (d_v 4)) (gM (HF hr (d_v 3) (d_v 8)))))
  (ai (s_e (bA (Iw T) (Br.hm hr) rfl T.M_ T.KW.kp T.GH (aa (d_v 7) (aa (E2 hr (d_v 8) (d_v 3)) ah))))
  (ai (s_a 9 bH.nd (aY (d_v 9) d_i))
  (aA (s_a 8 bH.nd (aN (vg T) (Br.hm hr) rfl T.Df T.Ax.kp T.xM (aa (cF (sJ T) (Br.hm hr) rfl T.y9 T.u7.kp T.qN (aa (d_v 6) (aa (d_v 7) ah))) (aa (aY (d_v 0) (d_v 2)) ah))))))))
  (fk (s_a 10 bH.nd (cF (Iz T) (Br.hm hr) rfl T.Na T.KZ.kp T.GI (@aa _ _ _ _ _ (d_v 6) (@aa _ _ _ _ _ (d_v 7) (@aa _ _ _ _ _ (aY (d_v 0) (d_v 2)) (@aa _ _ _ _ _ (d_v 3) (@aa _ _ _ _ _ (d_v 9) ah rfl) rfl) rfl) rfl) rfl)))
  (Cn 11 ["n","ties","a","b","most","moments","steps","heads","reached","count","ways","told"] ["way"] bH.nd (c_n 12 GU rfl rfl) (i_S (d_v 10)) (fun _ _ _ _ _=>(HM (eU 12 ["n","ties","a","b","most","moments","steps","heads","reached","count","ways","told","way"] ["step"] (c_n 13 GV rfl rfl) (d_v 12) (fun _ _ _ _ _=>di (rQ hr (d_v 13) (d_v 5))) (fun _ _ _ _ _=>(HL hr (d_v 5) (d_v 13))))))
  (OI (mY hr (d_v 9) (d_v 4)) (ML (OD (OC d_n OB)))
  (Kn (yf rfl T.l7 (aa (rS rfl T.kq (aa (eU 10 ["n","ties","a","b","most","moments","steps","heads","reached","count","ways","told"] ["way"] (c_n 12 GW rfl rfl) (d_v 10) (fun _ _ _ _ _=>d7) (fun _ _ _ _ _=>(t9 (DM T) (Br.hm hr) rfl T.Ie T.Dj.kp T.za (aa (d_v 0) (aa (d_v 12) (aa (d_v 8) ah)))))) ah)) ah)))))))))))),HJ (n:=5) (m:=7) rfl h⟩
theorem Lf :
  bw P' w K mg base CX0 6 lN ig ["n","record","a","b","most"] (spD nI):=
 okQ T.u9 fD fun _ _ _ _ _ _ hr=>(ai (s_e (aN (IB T) (Br.hm hr) rfl T.Nc T.K4.kp T.GK (aa (d_v 0) (aa (d_v 2) (aa (d_v 3) ah)))))
  (ai (s_a 5 fD.nd (eU 1 ["n","record","a","b","most","straight","others","ways","around"] ["tie"] (c_n 9 GX rfl rfl) (d_v 1) (fun _ _ _ _ _=>di (t_w (w_and (wg hr (d_v 2) (qc (d_v 9) (o_s d_i) o_n)) (gM (wg hr (d_v 3) (qc (d_v 9) (o_s d_i) o_n)))))) (fun _ _ _ _ _=>(d_v 9))))
  (ai (tU 6 1 ["n","record","a","b","most","straight","others","ways","around"] ["tie"] fD.nd (c_n 9 GY rfl rfl) (d_v 1) (fun _ _ _ _ _=>di (p7 hr (d_v 9) (d_v 5))) (fun _ _ _ _ _=>(d_v 9)))
  (ai (Mg 7 ["n","record","a","b","most","straight","others","ways","around"] ["tie"] fD.nd (c_n 9 GZ rfl rfl) (i_S (BG (d_v 5) o_n (o_s (d_v 4)))) (fun _ _ _ _ _=>d7) (fun _ _ _ _ _=>(b_ (aa (aL (d_v 9) d_i) ah))))
  (ai (s_a 8 fD.nd (aN (Le T) (Br.hm hr) rfl T.Ig T.zb.kp T.zc (@aa _ _ _ _ _ (d_v 0) (@aa _ _ _ _ _ (d_v 6) (@aa _ _ _ _ _ (d_v 2) (@aa _ _ _ _ _ (d_v 3) (@aa _ _ _ _ _ (iQ (d_v 4) (cZ rfl T.ck (aa (d_v 7) ah))) ah rfl) rfl) rfl) rfl) rfl)))
  (ai (Mq 7 (aL (d_v 8) d_i))
  (aA (s_r (gK (aa (cZ rfl T.ck (aa (d_v 7) ah)) (aa (d_v 7) (aa (aL (d_v 8) d_i) ah))))))))))))
theorem iw :
  bw P' w K mg base CX0 6 lN ig ["n","record","a","b","most"] (spP br):=by
 refine T.u9.ok fD (fun vs H Q E h=>yu h) (fun cdv A outer s H vs Q E hr h=>?_);exact ⟨_,(fk (s_e (aN (IB T) (Br.hm hr) rfl T.Nc T.K4.kp T.GK (aa (d_v 0) (aa (d_v 2) (aa (d_v 3) ah)))))
  (fk (s_a 5 fD.nd (eU 1 ["n","record","a","b","most","straight","others","ways","around"] ["tie"] (c_n 9 G0 rfl rfl) (d_v 1) (fun _ _ _ _ _=>di (t_w (w_and (wg hr (d_v 2) (qc (d_v 9) (o_s d_i) o_n)) (gM (wg hr (d_v 3) (qc (d_v 9) (o_s d_i) o_n)))))) (fun _ _ _ _ _=>(d_v 9))))
  (fk (tU 6 1 ["n","record","a","b","most","straight","others","ways","around"] ["tie"] fD.nd (c_n 9 G1 rfl rfl) (d_v 1) (fun _ _ _ _ _=>di (p7 hr (d_v 9) (d_v 5))) (fun _ _ _ _ _=>(d_v 9)))
  (Cn 7 ["n","record","a","b","most","straight","others","ways","around"] ["tie"] fD.nd (c_n 9 G3 rfl rfl) (i_S (BG (d_v 5) o_n (o_s (d_v 4)))) (fun _ _ _ _ _=>(HM (b_ (aa (aL (d_v 9) d_i) ah))))
  (Kh 8 fD.nd (lS T) (Br.hm hr) rfl T.Ig T.zb.kp T.zc (@aa _ _ _ _ _ (d_v 0) (@aa _ _ _ _ _ (d_v 6) (@aa _ _ _ _ _ (d_v 2) (@aa _ _ _ _ _ (d_v 3) (@aa _ _ _ _ _ (iQ (d_v 4) (cZ rfl T.ck (aa (d_v 7) ah))) ah rfl) rfl) rfl) rfl) rfl) (cZ rfl T.ck (aa (d_v 7) ah))))))),HJ (n:=5) (m:=4) rfl h⟩
theorem Lg :
  bw P' w K mg base CX0 1 ou jy ["script","k"] (spD uz):=
 okQ T.Ij K_ fun _ _ _ _ _ _ hr=>(ai (dZ (Bx (d_v 1) (cZ rfl T.ck (aa (d_v 0) ah))) (aA (s_r (aL (d_v 0) (d_v 1)))) bW)
  (aA (s_r d_i)))
theorem DO :
  bw P' w K mg base CX0 2 oz jz ["script","at"] (spD qq):=
 okQ T.Dq ir fun _ _ _ _ _ _ hr=>(ai (s_a 2 ir.nd (aN (Lg T) (Br.hm hr) rfl T.Nf T.Ij.kp T.Dl (aa (d_v 0) (aa (d_v 1) ah))))
  (ai (dZ (N_ (d_v 2) (HD d_i d_i)) (aA (s_r (b_ (aa (d_v 2) ah)))) bW)
  (ai (s_a 3 ir.nd d_i)
  (ai (fG PV rfl (BC rfl T.eZ (aa d_i ah)) (g_n 4 ir.nd)
  (ai (s_a 5 ir.nd (lq (iR (aY (aY (aY (lq (d_v 2) d_i) (iR (iR d_i (d_v 4)) (d_v 4))) (iR d_i (d_v 1))) d_i) d_i) d_i))
  (ai (s_a 5 ir.nd (lq (iR (d_v 5) (d_v 5)) d_i))
  (ai (s_a 5 ir.nd (lq (iR (aY (d_v 5) (iR d_i (d_v 4))) d_i) d_i))
  (aA (s_a 3 ir.nd (aY (iR (d_v 3) d_i) (lq (HC (d_v 5) d_i) d_i))))))))
  (aA (s_r (b_ (aa (d_v 3) ah))))))))
theorem cK :
  bw P' w K mg base CX0 1 oA jA ["pool","many"] (spM cg):=by
 refine T.ez.ok DK (fun vs H Q E h=>lW h) (fun cdv A outer s H vs Q E hr h=>?_);exact ⟨_,(ai (s_a 2 DK.nd (lq (aL (d_v 0) d_i) (d_v 1)))
  (ai (Mc 0 d_i (HC (aL (d_v 0) d_i) (d_v 1)))
  (aA (s_r (d_v 2))))),BK (n:=2) (m:=1) rfl h⟩
theorem Lh :
  bw P' w K mg base CX0 2 oB jB ["pool","n","most"] (spM uA):=by
 refine T.Ik.ok dw (fun vs H Q E h=>lW h) (fun cdv A outer s H vs Q E hr h=>?_);exact ⟨_,(ai (s_a 3 dw.nd (bA (cK T) (Br.hm hr) rfl T.e7 T.ez.kp T.dH (aa (d_v 0) (aa (aY (d_v 2) d_i) ah))))
  (ai (s_a 4 dw.nd (bA (cK T) (Br.hm hr) rfl T.e7 T.ez.kp T.dH (aa (d_v 0) (aa d_i ah))))
  (ai (s_a 5 dw.nd (bA (cK T) (Br.hm hr) rfl T.e7 T.ez.kp T.dH (aa (d_v 0) (aa d_i ah))))
  (ai (s_a 6 dw.nd (b_ ah))
  (ai (fG PV rfl (BC rfl T.eZ (aa (d_v 3) ah)) (g_n 7 dw.nd)
  (ai (s_a 8 dw.nd (bA (cK T) (Br.hm hr) rfl T.e7 T.ez.kp T.dH (aa (d_v 0) (aa (d_v 1) ah))))
  (ai (s_a 9 dw.nd (bA (cK T) (Br.hm hr) rfl T.e7 T.ez.kp T.dH (aa (d_v 0) (aa (d_v 1) ah))))
  (ai (dZ (t_w (w_and (JH (d_v 4) d_i) (gM (mY hr (d_v 8) (d_v 9))))) (aA (s_a 9 dw.nd (lq (aY (d_v 8) d_i) (d_v 1)))) bW)
  (ai (dZ (t_w (w_and (JH (d_v 7) d_i) (gM (mY hr (bA (cK T) (Br.hm hr) rfl T.e7 T.ez.kp T.dH (aa (d_v 0) (aa d_i ah))) d_i)))) (ai (s_a 8 dw.nd (aL (aL (d_v 6) (iQ (d_v 7) d_i)) d_i))
  (aA (s_a 9 dw.nd (aL (aL (d_v 6) (iQ (d_v 7) d_i)) d_i)))) bW)
  (ai (tQ 6 (gK (aa (d_v 5) (aa (By rfl rfl T.Ib (aa (d_v 8) (aa (d_v 9) ah))) (aa (BA rfl rfl T.Ia (aa (d_v 8) (aa (d_v 9) ah))) ah)))))
  (aA (s_a 5 dw.nd (aY (aY (d_v 5) d_i) (iR (bA (cK T) (Br.hm hr) rfl T.e7 T.ez.kp T.dH (aa (d_v 0) (aa (aL (b_ (aa d_i (aa d_i (aa d_i ah)))) (d_v 4)) ah))) (aL (b_ (aa d_i (aa d_i (aa (HD d_i d_i) ah)))) (d_v 4))))))))))))
  (aA (s_r (d_v 6)))))))),BK (n:=3) (m:=7) rfl h⟩
theorem xO :
  bw P' w K mg base CX0 1 oE jC ["found"] (spD uB):=
 okQ T.zd La fun _ _ _ _ _ _ hr=>(aA (s_r (lu (jX yg (by rfl) rfl T.H_ rfl T.bq (d_v 0)) (mZ (BB (jX tR (by rfl) rfl T.De rfl T.bq (d_v 0)))))))
theorem Li :
  bw P' w K mg base CX0 2 oF jD ["row"] (spD yH):=
 okQ T.Il Lb fun _ _ _ _ _ _ hr=>(aA (s_r (lu (jX m6 (by rfl) rfl T.jM rfl T.bq (d_v 0)) (mZ (yi rfl rfl T.yY (aa (eU 0 ["row"] ["number"] (c_n 1 G4 rfl rfl) (d_v 0) (fun _ _ _ _ _=>d7) (fun _ _ _ _ _=>(aN (xO T) (Br.hm hr) rfl T.Dh T.zd.kp T.u_ (aa (d_v 1) ah)))) ah))))))
theorem Lj :
  bw P' w K mg base CX0 3 oG jE ["record","a","b","way"] (spD uC):=
 okQ T.Im o7 fun _ _ _ _ _ _ hr=>(ai (dZ (t_w (w_or (eO (eT (aN (Li T) (Br.hm hr) rfl T.Nh T.Il.kp T.Dt (aa (d_v 3) ah)))) (ly (rF hr (j7 rfl rfl T.ck rfl T.yZ (d_v 3)) (cZ rfl T.ck (aa (d_v 3) ah)))))) (aA (s_r d_b)) bW)
  (ai (s_a 4 o7.nd (d_v 1))
  (ai (fG PV rfl (i_S (d_v 3)) (g_n 5 o7.nd)
  (ai (tU 6 0 ["record","a","b","way","here","moment","found"] ["tie"] o7.nd (c_n 7 G5 rfl rfl) (d_v 0) (fun _ _ _ _ _=>di (mY hr (aL (d_v 7) d_i) (d_v 5))) (fun _ _ _ _ _=>(d_v 7)))
  (ai (dZ (t_w (w_or (mY hr (d_v 6) (b_ ah)) (w_or (mY hr (aL (aL (d_v 6) d_i) d_i) (aL (aL (d_v 6) d_i) d_i)) (ly (p7 hr (d_v 4) (qc (aL (d_v 6) d_i) (o_s d_i) o_n)))))) (aA (s_r d_b)) bW)
  (aA (s_a 4 o7.nd (iQ (aY (aL (aL (d_v 6) d_i) d_i) (aL (aL (d_v 6) d_i) d_i)) (d_v 4)))))))
  (aA (s_r (ES hr (d_v 4) (d_v 2)))))))
theorem Lk :
  bw P' w K mg base CX0 4 oH jF ["record","a","b","ways"] (spD yI):=
 okQ T.Io sH fun _ _ _ _ _ _ hr=>(ai (dZ (t_w (w_or (eO (eT (jX m6 (by rfl) rfl T.jM rfl T.bq (d_v 3)))) (ly (eO (eT (yi rfl rfl T.yY (aa (eU 3 ["record","a","b","ways","used","%5"] ["way"] (c_n 6 G6 rfl rfl) (d_v 3) (fun _ _ _ _ _=>d7) (fun _ _ _ _ _=>(aN (Lj T) (Br.hm hr) rfl T.Ni T.Im.kp T.Du (aa (d_v 0) (aa (d_v 1) (aa (d_v 2) (aa (d_v 6) ah))))))) ah))))))) (aA (s_r d_b)) bW)
  (ai (s_a 4 sH.nd (b_ ah))
  (ai (fG PV rfl (i_S (d_v 3)) (g_n 5 sH.nd)
  (aA (s_a 4 sH.nd (aY (d_v 4) (d_v 5)))))
  (aA (s_r (ES hr (j7 rfl rfl T.ck rfl T.yZ (d_v 4)) (cZ rfl T.ck (aa (d_v 4) ah))))))))
theorem Ll :
  bw P' w K mg base CX0 2 oJ jG ["n","side"] (spD uD):=
 okQ T.Ip Lc fun _ _ _ _ _ _ hr=>(ai (dZ (t_w (w_or (eO (eT (jX kit_tuple (by rfl) rfl T.l7 rfl T.bq (d_v 1)))) (ly (eO (eT (yi rfl rfl T.yY (aa (eU 1 ["n","side"] ["place"] (c_n 2 G7 rfl rfl) (d_v 1) (fun _ _ _ _ _=>d7) (fun _ _ _ _ _=>(lu (aN (xO T) (Br.hm hr) rfl T.Dh T.zd.kp T.u_ (aa (d_v 2) ah)) (mZ (yh AL Bq AK Bp d_i (d_v 2) (d_v 0)))))) ah))))))) (aA (s_r d_b)) bW)
  (aA (s_r (yi rfl rfl T.yY (aa (Ob ["n","side"] ["k"] (c_n 2 G8 rfl rfl) (Mb rfl T.eZ (aa d_i (aa (cZ rfl T.ck (aa (d_v 1) ah)) ah))) (fun _ _ _ _ _=>d7) (fun _ _ _ _ _=>(N9 (aL (d_v 1) (iQ (d_v 2) d_i)) (aL (d_v 1) (d_v 2))))) ah)))))
theorem Lm :
  bw P' w K mg base CX0 1 oK jH ["ties","a","b","gone"] (spD yJ):=
 okQ T.Iq iu fun _ _ _ _ _ _ hr=>(ai (s_a 4 iu.nd (b_ (aa (d_v 1) ah)))
  (ai (s_a 5 iu.nd d_i)
  (ai (EV 100 PV (Bx (d_v 5) (cZ rfl T.ck (aa (d_v 4) ah)))
  (ai (fG PV rfl (i_S (d_v 0)) (g_t rfl (cu 6 iu.nd (cu 7 iu.nd (cu 8 iu.nd m5))))
  (ai (s_a 9 iu.nd (iQ (aY (d_v 7) (d_v 8)) (aL (d_v 4) (d_v 5))))
  (aA (dZ (t_w (w_and (wg hr (aL (d_v 4) (d_v 5)) (gK (aa (d_v 7) (aa (d_v 8) ah)))) (w_and (p7 hr (d_v 9) (d_v 4)) (gM (p7 hr (d_v 9) (d_v 3)))))) (aA (tQ 4 (d_v 9))) bW))))
  (aA (s_a 5 iu.nd (aY (d_v 5) d_i)))))
  (aA (s_r (Jp hr (d_v 2) (d_v 4)))))))
theorem Ln :
  bw P' w K mg base CX0 1 oM jI ["record","a","way"] (spD yL):=
 okQ T.Ir sI fun _ _ _ _ _ _ hr=>(ai (s_a 3 sI.nd (b_ (aa (d_v 1) ah)))
  (ai (fG PV rfl (i_S (d_v 2)) (g_n 4 sI.nd)
  (ai (s_a 5 sI.nd (aL (eU 0 ["record","a","way","found","moment","tie"] ["one"] (c_n 6 G9 rfl rfl) (d_v 0) (fun _ _ _ _ _=>di (mY hr (aL (d_v 6) d_i) (d_v 4))) (fun _ _ _ _ _=>(d_v 6))) d_i))
  (aA (tQ 3 (iQ (aY (aL (d_v 5) d_i) (aL (d_v 5) d_i)) (aL (d_v 3) (HE d_i)))))))
  (aA (s_r (d_v 3)))))
theorem Lo :
  bw P' w K mg base CX0 5 oN jJ ["record","a","b","ways"] (spD yM):=
 okQ T.Iu o8 fun _ _ _ _ _ _ hr=>(ai (dZ (eO (eT (aN (Lk T) (Br.hm hr) rfl T.Nj T.Io.kp T.Dv (aa (d_v 0) (aa (d_v 1) (aa (d_v 2) (aa (d_v 3) ah))))))) (aA (s_r d_b)) bW)
  (ai (s_a 4 o8.nd (b_ ah))
  (ai (fG PV rfl (i_S (d_v 3)) (g_n 5 o8.nd)
  (ai (s_a 6 o8.nd (aN (Ln T) (Br.hm hr) rfl T.Nm T.Ir.kp T.Dw (aa (d_v 0) (aa (d_v 1) (aa (d_v 5) ah)))))
  (ai (dZ (rF hr (j7 rfl rfl T.ck rfl T.yZ (d_v 6)) (cZ rfl T.ck (aa (d_v 6) ah))) (aA (s_r d_b)) bW)
  (aA (s_a 4 o8.nd (aY (d_v 4) (BG (d_v 6) (o_s d_i) (o_s (HE d_i)))))))))
  (aA (s_r (ES hr (j7 rfl rfl T.ck rfl T.yZ (d_v 4)) (cZ rfl T.ck (aa (d_v 4) ah))))))))
theorem Lp :
  bw P' w K mg base CX0 3 oO jK ["n","record","a","b","count","places"] (spD qt):=
 okQ T.Iv xN fun _ _ _ _ _ _ hr=>(ai (dZ (t_w (w_or (eO (eT (aN (Ll T) (Br.hm hr) rfl T.Nk T.Ip.kp T.Dy (aa (d_v 0) (aa (d_v 5) ah))))) (w_or (wg hr (d_v 2) (d_v 5)) (ly (wg hr (d_v 3) (d_v 5)))))) (aA (s_r d_b)) bW)
  (ai (s_a 6 xN.nd (eU 1 ["n","record","a","b","count","places","direct","rest"] ["tie"] (c_n 8 G_ rfl rfl) (d_v 1) (fun _ _ _ _ _=>di (mY hr (Aa rfl T.kq (aa (qc (d_v 8) (o_s d_i) o_n) ah)) (rS rfl T.kq (aa (b_ (aa (d_v 2) (aa (d_v 3) ah))) ah)))) (fun _ _ _ _ _=>(d_v 8))))
  (ai (tU 7 1 ["n","record","a","b","count","places","direct","rest"] ["tie"] xN.nd (c_n 8 Hg rfl rfl) (d_v 1) (fun _ _ _ _ _=>di (p7 hr (d_v 8) (d_v 6))) (fun _ _ _ _ _=>(d_v 8)))
  (aA (s_r (lu (ES hr (aY (cZ rfl T.ck (aa (d_v 6) ah)) (cZ rfl T.ck (aa (d_v 5) ah))) (d_v 4)) (mZ (BB (aN (Lm T) (Br.hm hr) rfl T.Nl T.Iq.kp T.Dz (aa (d_v 7) (aa (d_v 2) (aa (d_v 3) (aa (wj rfl T.jM (aa (d_v 5) ah)) ah)))))))))))))
theorem DQ :
  bw P' w K mg base CX0 6 oQ jL ["n","record","a","b","most","found"] (spD lF):=
 okQ T.DG Ld fun _ _ _ _ _ _ hr=>(ai (dZ (t_w (w_or (eO (eT (jX kit_tuple (by rfl) rfl T.l7 rfl T.bq (d_v 5)))) (w_or (rF hr (cZ rfl T.ck (aa (d_v 5) ah)) d_i) (ly (eO (eT (aN (xO T) (Br.hm hr) rfl T.Dh T.zd.kp T.u_ (aa (aL (d_v 5) d_i) ah)))))))) (aA (s_r d_b)) bW)
  (ai (dZ (t_w (w_or (eO (eT (jX m6 (by rfl) rfl T.jM rfl T.bq (aL (d_v 5) d_i)))) (w_or (rF hr (cZ rfl T.ck (aa (aL (d_v 5) d_i) ah)) (aL (d_v 5) d_i)) (ly (JH (aL (d_v 5) d_i) (d_v 4)))))) (aA (s_r d_b)) bW)
  (ai (dZ (eO (eT (aN (Lo T) (Br.hm hr) rfl T.Nn T.Iu.kp T.DB (aa (d_v 1) (aa (d_v 2) (aa (d_v 3) (aa (aL (d_v 5) d_i) ah))))))) (aA (s_r d_b)) bW)
  (ai (dZ (mY hr (aL (d_v 5) d_i) (d_v 4)) (aA (s_r (Mn (aL (d_v 5) d_i) d_n))) bW)
  (aA (s_r (aN (Lp T) (Br.hm hr) rfl T.Np T.Iv.kp T.DF (@aa _ _ _ _ _ (d_v 0) (@aa _ _ _ _ _ (d_v 1) (@aa _ _ _ _ _ (d_v 2) (@aa _ _ _ _ _ (d_v 3) (@aa _ _ _ _ _ (aL (d_v 5) d_i) (@aa _ _ _ _ _ (aL (d_v 5) d_i) ah rfl) rfl) rfl) rfl) rfl) rfl))))))))
theorem Lq :
  bw P' w K mg base CX0 7 oR k7 ["script"] (spD nJ):=
 okQ T.Nv cy fun _ _ _ _ _ _ hr=>(ai (s_a 1 cy.nd (aN (DO T) (Br.hm hr) rfl T.Ih T.Dq.kp T.ze (aa (d_v 0) (aa d_i ah))))
  (ai (s_a 2 cy.nd (aY d_i (bA (cK T) (Br.hm hr) rfl T.e7 T.ez.kp T.dH (aa (d_v 1) (aa (aL (b_ (aa d_i (aa d_i ah))) (bA (cK T) (Br.hm hr) rfl T.e7 T.ez.kp T.dH (aa (d_v 1) (aa d_i ah)))) ah)))))
  (ai (fG PV rfl (Mb rfl T.eZ (aa d_i (aa (BA rfl rfl T.Ia (aa d_i (aa (By rfl rfl T.Ib (aa d_i (aa (cZ rfl T.ck (aa (d_v 0) ah)) ah))) ah))) ah))) (g_n 3 cy.nd)
  (ai (s_a 1 cy.nd (aN (DO T) (Br.hm hr) rfl T.Ih T.Dq.kp T.ze (aa (d_v 0) (aa (d_v 3) ah))))
  (ai (s_a 4 cy.nd (bA (cK T) (Br.hm hr) rfl T.e7 T.ez.kp T.dH (aa (d_v 1) (aa (d_v 2) ah))))
  (ai (s_a 5 cy.nd (lq (aY (aY (d_v 4) d_i) (bA (cK T) (Br.hm hr) rfl T.e7 T.ez.kp T.dH (aa (d_v 1) (aa (iQ (d_v 2) d_i) ah)))) (d_v 2)))
  (ai (s_a 6 cy.nd (aL (b_ (@aa _ _ _ _ _ d_i (@aa _ _ _ _ _ d_i (@aa _ _ _ _ _ d_i (@aa _ _ _ _ _ d_i (@aa _ _ _ _ _ d_i (@aa _ _ _ _ _ d_i ah rfl) rfl) rfl) rfl) rfl) rfl)) (bA (cK T) (Br.hm hr) rfl T.e7 T.ez.kp T.dH (aa (d_v 1) (aa d_i ah)))))
  (ai (s_a 7 cy.nd (bA (Lh T) (Br.hm hr) rfl T.Ng T.Ik.kp T.DH (aa (d_v 1) (aa (d_v 2) (aa (aL (b_ (aa d_i (aa d_i (aa d_i (aa d_i ah))))) (bA (cK T) (Br.hm hr) rfl T.e7 T.ez.kp T.dH (aa (d_v 1) (aa d_i ah)))) ah)))))
  (ai (s_a 8 cy.nd (wj rfl T.jM (aa (d_v 7) ah)))
  (yw 9 cy.nd (iw T) (Br.hm hr) rfl T.Dg T.u9.kp T.vc (@aa _ _ _ _ _ (d_v 2) (@aa _ _ _ _ _ (d_v 8) (@aa _ _ _ _ _ (d_v 4) (@aa _ _ _ _ _ (d_v 5) (@aa _ _ _ _ _ (d_v 6) ah rfl) rfl) rfl) rfl) rfl)
  (MB (eO (eT (aN (DQ T) (Br.hm hr) rfl T.Ii T.DG.kp T.zf (@aa _ _ _ _ _ (d_v 2) (@aa _ _ _ _ _ (d_v 7) (@aa _ _ _ _ _ (d_v 4) (@aa _ _ _ _ _ (d_v 5) (@aa _ _ _ _ _ (d_v 6) (@aa _ _ _ _ _ (d_v 9) ah rfl) rfl) rfl) rfl) rfl) rfl)))) (aA (s_r d_b))
  (m_c (J9 10 cy.nd (My (J2 (p_o (aL (d_v 9) d_i)) (J2 (Ov ["script","pool","n","at","a","b","most","record","handed","found","kept","k","gone"] ["way"] (c_n 13 Hh rfl rfl) (i_S (aL (d_v 9) d_i)) (fun _ _ _ _ _=>(p_o (wj rfl T.jM (aa (d_v 13) ah))))) (J2 (p_o (aL (d_v 9) d_i)) Ou)))))
  (m_c (Km PV rfl rfl T.eZ (aa (aL (d_v 9) d_i) ah) (g_n 11 cy.nd)
  (J8 (Ow (rF hr (aL (aL (d_v 9) d_i) (d_v 11)) (aL (aL (d_v 10) d_i) (d_v 11))) (HK (Ox d_b)) MG)
  (HK (Kl (d_v 11)))))
  (MC (ai (dZ (t_w (w_or (rF hr (BZ 5 (Lf T) (Br.hm hr) rfl T.Dg T.u9.kp T.vc (@aa _ _ _ _ _ (d_v 2) (@aa _ _ _ _ _ (d_v 8) (@aa _ _ _ _ _ (d_v 4) (@aa _ _ _ _ _ (d_v 5) (@aa _ _ _ _ _ (d_v 6) ah rfl) rfl) rfl) rfl) rfl)) (d_v 10)) (ly (rF hr (d_v 8) (d_v 7))))) (aA (s_r d_b)) bW)
  (aA (dZ (rF hr (d_v 7) (b_ ah)) (ai (s_a 12 cy.nd (bA (cK T) (Br.hm hr) rfl T.e7 T.ez.kp T.dH (aa (d_v 1) (aa (cZ rfl T.ck (aa (d_v 7) ah)) ah))))
  (ai (s_e (yo 8 (d_v 12)))
  (yw 9 cy.nd (iw T) (Br.hm hr) rfl T.Dg T.u9.kp T.vc (@aa _ _ _ _ _ (d_v 2) (@aa _ _ _ _ _ (d_v 8) (@aa _ _ _ _ _ (d_v 4) (@aa _ _ _ _ _ (d_v 5) (@aa _ _ _ _ _ (d_v 6) ah rfl) rfl) rfl) rfl) rfl)
  (MB (eO (eT (aN (DQ T) (Br.hm hr) rfl T.Ii T.DG.kp T.zf (@aa _ _ _ _ _ (d_v 2) (@aa _ _ _ _ _ (aY (BG (d_v 7) o_n (o_s (d_v 12))) (BG (d_v 7) (o_s (aY (d_v 12) d_i)) o_n)) (@aa _ _ _ _ _ (d_v 4) (@aa _ _ _ _ _ (d_v 5) (@aa _ _ _ _ _ (d_v 6) (@aa _ _ _ _ _ (d_v 9) ah rfl) rfl) rfl) rfl) rfl) rfl)))) (aA (s_r d_b))
  (MA bW))))) bW)))))))))))))))
  (aA (s_r d_b)))))
end
theorem all_mk{l:RW}{w:World}{K:O8}{h:Heap}{mg:Str->Option Value}{fa xA xB xC xD xE xF xG xH xJ xK oi oj oq lM lN ou oz oA oB oE oF oG oH oJ oK oM oN oO oQ oR:Addr}{oS oU oV oW oX oY oZ o4 o5 o6 ju jv jx ie ig jy jz jA jB jC jD jE jF jG jH jI jJ jK jL k7:FuncData}(X:K.In h)(G:h.Ns mainGlobals mg)(hfa:mg "law" = some (.ref fa))
  (DR:bX K "led_steps" (top 1) xA oS)
  (DU:bX K "shortest_ways" (top 2) xB oU)
  (DV:bX K "lead_along" (top 3) xC oV)
  (DX:bX K "parted" (top 4) xD oW)
  (DY:bX K "is_whole" (top 9) xE oX)
  (DZ:bX K "is_within" (top 10) xF oY)
  (D0:bX K "is_place" (top 11) xG oZ)
  (D3:bX K "is_pair" (top 12) xH o4)
  (D4:bX K "look_at_pair" (top 13) xJ o5)
  (D5:bX K "moments_of_steps" (top 17) xK o6)
  (vh:bX K "steps_through_doors" (top 18) oi ju)
  (vm:bX K "free_doors" (top 19) oj jv)
  (vn:bX K "first_shut" (top 20) oq jx)
  (vo:bX K "ways_around" (top 16) lM ie)
  (vp:bX K "place_hang" (top 15) lN ig)
  (vq:bX K "_law_cell_at" (top 22) ou jy)
  (vt:bX K "_law_pool" (top 23) oz jz)
  (vv:bX K "_law_take" (top 24) oA jA)
  (vz:bX K "_law_record" (top 25) oB jB)
  (vA:bX K "_law_whole" (top 26) oE jC)
  (vC:bX K "_law_are_wholes" (top 27) oF jD)
  (vD:bX K "_law_leads" (top 28) oG jE)
  (vE:bX K "_law_apart" (top 29) oH jF)
  (vF:bX K "_law_is_side" (top 31) oJ jG)
  (vG:bX K "_law_joined_without" (top 32) oK jH)
  (vH:bX K "_law_places_of" (top 33) oM jI)
  (vJ:bX K "_law_apart_by_places" (top 34) oN jJ)
  (vK:bX K "_law_bars" (top 35) oO jK)
  (vL:bX K "_law_right" (top 36) oQ jL)
  (qP:bX K "law" (top 37) oR k7)
  (D6:Qk K mainGlobals "all" = some none)
  (xP:Qk K mainGlobals "bool" = some none)
  (xQ:Qk K mainGlobals "dict" = some none)
  (iy:Qk K mainGlobals "enumerate" = some none)
  (D7:Qk K mainGlobals "int" = some none)
  (gg:Qk K mainGlobals "isinstance" = some none)
  (D8:Qk K mainGlobals "len" = some none)
  (xR:Qk K mainGlobals "list" = some none)
  (D9:Qk K mainGlobals "max" = some none)
  (D_:Qk K mainGlobals "min" = some none)
  (sL:Qk K mainGlobals "range" = some none)
  (Ea:Qk K mainGlobals "set" = some none)
  (o9:Qk K mainGlobals "sorted" = some none)
  (sM:Qk K mainGlobals "tuple" = some none) :
  ∃fd:FuncData,(∀(s:Shared) (v:Value),BindsTo s fd ⟨[v],[]⟩ [("script",v)])/\∀base:Heap,K.In base->base.Ns mainGlobals mg->bw l.prog w K mg base CX0 7 fa fd ["script"] (spD nJ):=by
 have e:=hfa.symm.trans (qP.m X G);cases e;have KY:=DR.F.d8 (ps:=["steps","heads"]) rfl fun _ _ _ _ _ _ _ _=>rfl;have xM:=DU.F.d8 (ps:=["steps","a"]) rfl fun _ _ _ _ _ _ _ _=>rfl;have GH:=DV.F.d8 (ps:=["heads","way"]) rfl fun _ _ _ _ _ _ _ _=>rfl;have GI:=DX.F.wF (ps:=["steps","heads","a","b","count"]) rfl fun _ _ _ _ _ _ _ _ _ _ _=>rfl;have K0:=DY.F.wD (ps:=["thing"]) rfl fun _ _ _ _ _ _ _=>rfl;have K1:=DZ.F.kK (ps:=["thing","low","high"]) rfl fun _ _ _ _ _ _ _ _ _=>rfl;have GG:=D0.F.d8 (ps:=["n","thing"]) rfl fun _ _ _ _ _ _ _ _=>rfl;have K3:=D3.F.kK (ps:=["n","a","b"]) rfl fun _ _ _ _ _ _ _ _ _=>rfl;have GK:=D4.F.kK (ps:=["n","a","b"]) rfl fun _ _ _ _ _ _ _ _ _=>rfl;have GJ:=D5.F.d8 (ps:=["n","ties"]) rfl fun _ _ _ _ _ _ _ _=>rfl;have y_:=vh.F.d8 (ps:=["n","moments"]) rfl fun _ _ _ _ _ _ _ _=>rfl;have qN:=vm.F.d8 (ps:=["steps","heads"]) rfl fun _ _ _ _ _ _ _ _=>rfl;have za:=vn.F.kK (ps:=["n","way","reached"]) rfl fun _ _ _ _ _ _ _ _ _=>rfl;have zc:=vo.F.wF (ps:=["n","ties","a","b","most"]) rfl fun _ _ _ _ _ _ _ _ _ _ _=>rfl;have vc:=vp.F.wF (ps:=["n","record","a","b","most"]) rfl fun _ _ _ _ _ _ _ _ _ _ _=>rfl;have Dl:=vq.F.d8 (ps:=["script","k"]) rfl fun _ _ _ _ _ _ _ _=>rfl;have ze:=vt.F.d8 (ps:=["script","at"]) rfl fun _ _ _ _ _ _ _ _=>rfl;have dH:=vv.F.d8 (ps:=["pool","many"]) rfl fun _ _ _ _ _ _ _ _=>rfl;have DH:=vz.F.kK (ps:=["pool","n","most"]) rfl fun _ _ _ _ _ _ _ _ _=>rfl;have u_:=vA.F.wD (ps:=["found"]) rfl fun _ _ _ _ _ _ _=>rfl;have Dt:=vC.F.wD (ps:=["row"]) rfl fun _ _ _ _ _ _ _=>rfl;have Du:=vD.F.rK (ps:=["record","a","b","way"]) rfl fun _ _ _ _ _ _ _ _ _ _=>rfl;have Dv:=vE.F.rK (ps:=["record","a","b","ways"]) rfl fun _ _ _ _ _ _ _ _ _ _=>rfl;have Dy:=vF.F.d8 (ps:=["n","side"]) rfl fun _ _ _ _ _ _ _ _=>rfl;have Dz:=vG.F.rK (ps:=["ties","a","b","gone"]) rfl fun _ _ _ _ _ _ _ _ _ _=>rfl;have Dw:=vH.F.kK (ps:=["record","a","way"]) rfl fun _ _ _ _ _ _ _ _ _=>rfl;have DB:=vJ.F.rK (ps:=["record","a","b","ways"]) rfl fun _ _ _ _ _ _ _ _ _ _=>rfl;have DF:=vK.F.BV (ps:=["n","record","a","b","count","places"]) rfl fun _ _ _ _ _ _ _ _ _ _ _ _=>rfl;have zf:=vL.F.BV (ps:=["n","record","a","b","most","found"]) rfl fun _ _ _ _ _ _ _ _ _ _ _ _=>rfl;refine⟨_,fun s v=>qP.Oz (fun _ _ _ _ _ _ _=>rfl) s v,fun base Xb _=>?_⟩;have T:Txt mg K base ..:=⟨mno X G D6,mno X G xP,mno X G xQ,mno X G iy,mno X G D7,mno X G gg,mno X G D8,mno X G xR,mno X G D9,mno X G D_,mno X G sL,mno X G Ea,mno X G o9,mno X G sM,DR.m X G,DU.m X G,DV.m X G,DX.m X G,DY.m X G,DZ.m X G,D0.m X G,D3.m X G,D4.m X G,D5.m X G,vh.m X G,vm.m X G,vn.m X G,vo.m X G,vp.m X G,vq.m X G,vt.m X G,vv.m X G,vz.m X G,vA.m X G,vC.m X G,vD.m X G,vE.m X G,vF.m X G,vG.m X G,vH.m X G,vJ.m X G,vK.m X G,vL.m X G,qP.m X G,DR.F,DU.F,DV.F,KY,xM,DX.F,DY.F,K0,DZ.F,K1,D0.F,GG,D3.F,K3,D4.F,D5.F,vh.F,vm.F,vn.F,GH,GI,GJ,y_,qN,za,vo.F,GK,zc,vp.F,vq.F,Dl,vt.F,vv.F,dH,vz.F,vA.F,u_,vC.F,Dt,vD.F,Du,vE.F,vF.F,vG.F,vH.F,Dv,Dw,vJ.F,Dy,Dz,vK.F,DB,DF,vL.F,vc,ze,DH,zf,qP.F⟩
 exact Lq T
theorem walk{l:RW}{q:Program}{loose:List Str}{XP:(Str->Option Value)->Heap->Prop}{YP:World->Heap->Prop}{d:DefRec}{K:Params->O8}(hn:l.most=some 63)(hdf:d.params.defaults=[])
  (hY:∀(w:World) (h:Heap),YP w h->(K w.params).In h) (M:∀ns:List Int,ns.length<=63->nJ [.lst (ns.map Dat.int)]=some (.val (.bl true))) (hK:∀w:World,BH (K w.params)=true)
  (F:∀ (w:World) (mg:Str→Option Value) (fa:Addr) (h:Heap),(K w.params).In h→h.Ns mainGlobals mg→mg d.name=some (.ref fa) →
   ∃fd:FuncData,(∀(s:Shared) (u:Value),BindsTo s fd ⟨[u],[]⟩ [("script",u)])/\∀base:Heap,(K w.params).In base->base.Ns mainGlobals mg->bw l.prog w (K w.params) mg base CX0 7 fa fd ["script"] (spD nJ)) :
  PySem.W.WalkO q loose XP YP l.row.toRowW d [] (fun f vs=>PySem.call f vs):=
 L2.Eu (n:=63) (k:=7) (x := "script") (CX:=fun _=>CX0) (sp:=fun _=>spD nJ) hn (by decide) hdf ⟨rfl,by decide,by decide,rfl⟩ hY F
  (fun w H a ns hl hO hS=>JL (M ns hl) (hK w) hS) fun _ _ _ _ _ z=>z
open PySem PySem.W PySem.W.X
theorem Eb{q:Program}{loose:List Str}{XP:(Str->Option Value)->Heap->Prop}{r:RowW}{d:DefRec}{kwd:List (Str×Expr)}{run:Value->List Value->Sem Value}{K:Params->Frag}{as:List Addr}{n t:Nat}(e:∀P,as=(K P).map (·.1))
  (W:WalkO q loose XP (fun w h=>(K w.params).In h) r d kwd run):WalkX q loose XP (obsZ as) (valZ K n t) r d kwd run:=
 fun w s₀ s₁ mg mb G y a o pm cd doc dV kV ho hd HQ hD hmg hg args vals as' L=>W w s₀ s₁ mg mb G (InK.keeps w _ _ (z_facts e y).2.1 L.keeps) a o pm cd doc dV kV ho hd HQ hD hmg hg args vals as'
end Q
noncomputable def PySem.W.Fast.tw4096793401329805843:PySem.Program:=PySem.Challenge.pw_sinceply_k43_place_ways_told
theorem PySem.W.Fast.te4096793401329805843:PySem.Challenge.pw_sinceply_k43_place_ways_told=PySem.W.Fast.tw4096793401329805843:=rfl
namespace PySem.W.Fast
def tw13536132945000879384:=0
def tw12217094683526472005:=0
def tw10526524942200392590:=0
def tw5128706600887385385:=0
def tw16766737631924631069:=0
def tw2637025096169634942:=0
def tw5252422300541705155:=0
def tw1244500788407120921:=0
def tw6246943935083643577:=0
def tw8635598169341157629:=0
def tw52523732022822496:=0
def tw16432007620764868122:=0
def tw13608485415936564033:=0
def tw13954479969363086694:=0
def tw18281048181815637101:=0
def tw10514189919574592674:=0
def tw2753600809052829256:=0
def tw8007526679206738751:=0
def tw3493565525691896783:=0
def tw12084957038143080165:=0
def tw1209121463353115595:=0
def tw293448995397014962:=0
def tw15068977642997182109:=0
def tw8747989424600909662:=0
def tw11987388768802819756:=0
def tw15270569626111835559:=0
def tw17650999538184248597:=0
def tw10235546728997997103:=0
def tw6579977442209995140:=0
def tw6818800824923462691:=0
def tw238347684191412470:=0
def tw2979164167378118174:=0
def tw13756507802782363680:=0
def tw11837448273775737675:=0
def tw13274112908842044000:=0
def tw3298952732901379250:=0
def tw12099805709215468500:=0
def tw7460087215619962061:=0
def tw5236014361680776017:=0
def tw11438796184228708734:=0
def tw9356324045374340931:=0
def tw15033516682429613970:=0
def tw12501793785163365313:=0
def tw12575225909035478182:=0
def tw9415354820701793027:=0
def tw12512572315214620158:=0
def tw14915918237954982576:=0
def tw1758578052925823353:=0
def tw17792106240456655329:=0
def tw1529123616395727713:=0
def tw507874312401958850:=0
def tw15506146364452304011:=0
def tw8785919235755126355:=0
def tw7902442846319760597:=0
def tw5804563030120163039:=0
def tw9942238045896340461:=0
def tw710516226263286425:=0
def tw10294171394970346316:=0
def tw1907517011209699427:=0
def tw6064609420927755504:=0
def tw9336391970021106368:=0
def tw12456622386345783687:=0
def tw13598422302489605259:=0
def tw327527766986944316:=0
def tw7093350041317984318:=0
def tw8956068850258500912:=0
def tw17224135975050257925:=0
def tw2030361013976060047:=0
def tw13208855494936033092:=0
def tw17353800952271039136:=0
def tw10907188847665484733:=0
def tw5506498917077920621:=0
def tw4294779610260105655:=0
def tw16102109288653692003:=0
def tw8661218442394583597:=0
def tw18135136794259227623:=0
def tw9965214073460780518:=0
def tw16541455950805743101:=0
def tw8192887303873289685:=0
def tw8859987339564985266:=0
def tw2128202964046795997:=0
def tw180831151703194050:=0
def tw1602592549251314920:=0
def tw4368468811741923346:=0
def tw3872876678121534577:=0
def tw14723464000662300016:=0
def tw8314134180469482986:=0
def tw9352354228073267792:=0
def tw1914072383318444399:=0
def tw14575178262832346882:=0
def tw14609381001188422087:=0
def tw7254209751607061641:=0
def tw5233558743880768664:=0
def tw8697109953299715312:=0
def tw2866334701062638267:=0
def tw13876399155953942552:=0
def tw11249387677242131001:=0
def tw13247986098244064202:=0
def tw574162867813547311:=0
def tw13497908993935424618:=0
def tw17849005602129539057:=0
def tw7597289224691897825:=0
def tw11675776739955515013:=0
def tw18151832531402050027:=0
def tw3392580426611374603:=0
def tw10289741256844735844:=0
def tw15424216534194174970:=0
def tw6765081129571558445:=0
def tw1681124446461900371:=0
def tw17628446294384179142:=0
def tw4096732281750830322:=0
def tw13157329379505707392:=0
def tw3267743793568481306:=0
def tw5174267674689895846:=0
def tw15780175951092453151:=0
def tw16650752969598842114:=0
def tw3342579200747463248:=0
def tw16763013651889296390:=0
def tw589959534986568578:=0
def tw18133043360996997290:=0
def tw10055109403414482990:=0
def tw10672916345784666345:=0
def tw15248524553491350148:=0
def tw16632048540697975971:=0
def tw18122568647447678655:=0
def tw10967661842605126560:=0
def tw13446824869693259515:=0
def tw6154510253961151902:=0
def tw18065424046009889327:=0
def tw15092455554096300433:=0
def tw8569526768981812081:=0
def tw2638743166010958343:=0
def tw7114451966265549235:=0
def tw2619764971019978538:=0
def tw15482859877131251498:=0
def tw11869555268093278340:=0
def tw10294795833759229386:=0
def tw10915343333713993212:=0
def tw11417197338899661104:=0
def tw2932669005110330368:=0
def tw16596422535768473955:=0
def tw17275818966891206300:=0
def tw102655124610672102:=0
def tw11367681782121214388:=0
def tw8220319948134599974:=0
def tw5137789991641996022:=0
def tw11738449921310439569:=0
def tw11991343805187021463:=0
def tw968910775174468466:=0
def tw12261099391775389156:=0
def tw3821149808636379497:=0
def tw661075376406095872:=0
def tw7651565584868001337:=0
def tw9503279533770675362:=0
def tw18067484597490501503:=0
def tw15266512137297562819:=0
def tw15216033329741185664:=0
def tw15420061269985439038:=0
def tw17343552363987601758:=0
def tw2582543091460220169:=0
def tw15136964518534245524:=0
def tw347703668486457115:=0
def tw3914751937264774637:=0
def tw1620839767723624904:=0
def tw8438264254953039347:=0
def tw11469658787592648109:=0
def tw2986349276899460925:=0
def tw16273234471936210587:=0
def tw5873720140993083533:=0
def tw14424184307364603883:=0
def tw14487276992555271399:=0
def tw17231671576307730584:=0
def tw1610531267850075553:=0
def tw6188868485275193078:=0
def tw14296217248116881019:=0
def tw7965579108046453674:=0
def tw17827065633067017484:=0
def tw8582842047578754046:=0
def tw17648219637581286974:=0
def tw11396580100409029626:=0
def tw7437567973339842598:=0
def tw15652054842997447181:=0
def tw18314845293084174132:=0
def tw7598840125518302972:=0
def tw6184703211164861030:=0
def tw1918661299413783216:=0
def tw6205297862932006096:=0
def tw13124586857272278082:=0
def tw11993731871432049583:=0
def tw1381324042233130760:=0
def tw15203050048586102699:=0
def tw17171120875384144392:=0
def tw14630248979441239870:=0
def tw7579542838718668649:=0
def tw9478558336250506569:=0
def tw13923491920285504071:=0
def tw2216751112947756614:=0
def tw13537786929070263477:=0
def tw16521590540903449150:=0
def tw13684570841553238967:=0
def tw5545316851855641826:=0
end PySem.W.Fast
open PySem PySem.W PyProof.Rows
set_option maxRecDepth 100000 in
set_option maxHeartbeats 0 in
theorem PySem.Challenge.cw_sinceply_k43_place_ways_told_holds : PySem.Challenge.rw_sinceply_k43_place_ways_told.Holds := by
 w_on;o_law;z_head;(case hw=>w_witness2)
 k_fill
 refine' Q.Eb (fun _=>rfl) (Q.walk (l:=PySem.Challenge.rw_sinceply_k43_place_ways_told) rfl rfl (fun w h Y=>Y) P.math ?noL ?fnS)
 case noL=>intro w;rfl
 case fnS=>
  intro w mg fa h KX G hmg
  refine' Q.all_mk KX G hmg ?DR ?DU ?DV ?DX ?DY ?DZ ?D0 ?D3 ?D4 ?D5 ?vh ?vm ?vn ?vo ?vp ?vq ?vt ?vv ?vz ?vA ?vC ?vD ?vE ?vF ?vG ?vH ?vJ ?vK ?vL ?qP ?D6 ?xP ?xQ ?iy ?D7 ?gg ?D8 ?xR ?D9 ?D_ ?sL ?Ea ?o9 ?sM
  case DR|DU|DV|DX|DY|DZ|D0|D3|D4|D5|vh|vm|vn|vo|vp|vq|vt|vv|vz|vA|vC|vD|vE|vF|vG|vH|vJ|vK|vL|qP=>refine' Br.aP ?e ?l ?c ?k;(case e=>k_is);(case l=>k_is);(case c=>k_is);(case k=>k_is)
  case D6|xP|xQ|iy|D7|gg|D8|xR|D9|D_|sL|Ea|o9|sM=>k_is
end
