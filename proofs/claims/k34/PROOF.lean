import PyProof.Rows.All
import Wide.All
import OpenK.AllK
import Wide.FinOn
import Lean
import PyProof.EqAt
import PyProof.EqKinds
import PyProof.TupleCall
import KE.KRevIter
import PyProof.EnumMake
import PyProof.EnumFor
import PyProof.ListRange
import PyProof.Rows.Range3
import PyProof.ZipIter
import PyProof.SumWalk
import PyProof.WalksMore
import PyProof.Rows.SetFrom
import PyProof.SetRoads
import PyProof.Rows.SortRunsK
import PyProof.Rows.SortWalk
import KE.KSortTup
import PyProof.Rows.Own
import PyProof.StationsW
import OpenK.KRaise
import KE.KIsAll
import PyProof.ExcArgsOwn
import PyProof.RulesAs
import PyProof.Ns1
import PyProof.Rows.Catch
import OpenK.KOwn
import PyProof.ExcBaseAll.ValueError
import KE.KDictSum
import PyProof.AttrMiss
import PyProof.IsiH_list
import KE.KDictOf
import PyProof.DictList
import KE.KDictList
import PyProof.FactsAll.set
import PyProof.Rows.TupAdd
import KE.KDictMeth
import PyProof.DictWalks
import PyProof.TupleKey
import PyProof.DictStraight
import PyProof.IsRules
import KE.KRevSl
import PyProof.Rows.CallKwBuiltin
import PyProof.Rows.SortShell
import KE.KSortKey
import KE.KLam
import KE.KNestM
import PySem.Challenge.RW_sinceply_k34_classes_told
open Array renaming length_toList→R6,getElem?_toList→Sn
open Bool renaming false_ne_true→QE,and_eq_true→QJ,false_eq_true→RI,eq_iff_iff→Sa,or_eq_true→S4
open Decidable renaming byContradiction→Sb
open False renaming elim→QN
open ForInStep renaming yield→Rx
open Int renaming toNat_of_nonneg→R9,le_refl→Sk,toNat_natCast→SV,zero_add→S0,add_mul→Tg
open List renaming getElem?_set_ne→Dk,length_map→Dp,getElem?_eq_some_iff→PU,map_cons→Qa,replicate→Qd,mem_cons_self→Qe,mem_cons_of_mem→Qg,getElem?_append_left→Qi,size_toArray→Qj,mem_cons→Qk,getElem?_eq_getElem→Ql,getElem?_map→Qm,length_append→Qn,mem_singleton→Qo,mem_map→Qp,map_append→Qq,range→Qs,mem_append→Qu,nodup_cons→Qv,getElem?_set_self→Qz,length_set→QC,length_range→QG,mem_append_right→QH,getElem?_append_right→QI,mem_append_left→QK,mem_of_getElem?→QL,length_cons→QT,map_map→QX,getElem?_eq_none→QZ,lookup_cons→Q2,all_eq_true→Q3,getD_eq_getElem?_getD→Q4,filter_cons_of_neg→Q5,filter_cons_of_pos→Q6,filter_cons→Q7,getElem?_replicate→Q8,flatten_cons→Ra,append_nil→Rc,pairwise_cons→Rf,length_take→Rg,nodup_append→Rh,mem_filter→Ri,length_singleton→Rj,not_mem_nil→Rk,cons_append→Rl,find?_cons→Ro,replicate_succ→Rp,getElem?_range→Rq,length_reverse→Rr,findIdx?_cons→Rv,drop_eq_getElem_cons→Rw,nil_append→Ry,any_cons→RB,mem_range→RD,set_append_right→RL,getElem?_set→RM,getElem?_take_of_lt→RP,getElem?_cons_succ→RT,ext_getElem?→RX,length_replicate→RY,length_filter_le→R0,drop_length→R5,map_congr_left→R7,filter_eq_self→R8,findIdx?_eq_none_iff→Sd,mem_or_eq_of_mem_set→Se,map_inj_right→Sg,length_eq_zero_iff→Sj,range'→Sm,getElem?_reverse→Sq,of_mem_zip→Ss,map_nil→Su,filterMap_cons→Sw,filter_sublist→Sy,take_left→SA,mem_filterMap→SE,find?_eq_none→SH,zip_cons_cons→SI,all_cons→SK,append_assoc→SN,reverse_cons→SQ,filter_congr→SS,map_id→S7,set_set→Te,foldl→Ti
open Nat renaming le_refl→Qf,lt_of_lt_of_le→Qy,le_of_ble_eq_true→QB,ne_of_lt→QF,zero_le→QM,le_trans→QO,lt_irrefl→Q0,ne_of_gt→RO,not_lt→R4,lt_of_le_of_lt→SG,lt_succ_of_lt→SR,le_of_lt→SW,lt_succ_self→SX,zero_add→SY,le_succ→S6,sub_self→Tf
open Option renaming map_eq_some_iff→Rt,isSome_map→RW
open PyProof.Rows renaming callWith_type1→QU
open PySem.Builtin.Int renaming intBits→Sx
open PySem.Builtin.List renaming listExtendWith→RJ,listTooLong→Sf
open PySem.Builtin.Range renaming rangeSize→RC
open PySem.Calls renaming spliced_nil→Rn,callWith_builtin→RH,spliced_cons→RU,evalArgs_plain→R3
open PySem.Data renaming cell→SD,fields→S5
open PySem.F renaming plainAttrs_list→Rm,slot_list_append→Rz,type_list_append→RA,plain_min_loop→RQ,plainAttrs_dict→RS,slot_dict_get→So
open PySem.Heap renaming get?_push_of_some→Qc,lt_size→Qh,get?_push_size→QA,get?_update_other→Q9,size_push→RN,get?_update_self→RZ,SameBut→Td
open PySem.NameKind renaming cell→Tc
open PySem.Obj renaming mapSeq→Si
open PySem.PassesOwn renaming never→QV
open PySem.PyData renaming depthAll→RK,eqvAll→SJ,canLayAll0→SO
open PySem.Value renaming ref→QW,type→Sh,str→S1,bool→Th
open PySem.W renaming Frag→Ds,fnOf→QD,nsIn→QS,keepIn→QY,kia_one→Rb,codeIn→RG,binds_K→Sv,methodObj→SM,instObj→S2,OpenLaw→S3,lookIn→S8,kitOne→S9
open Sum renaming inl→Qw,inr→Sz
open True renaming intro→Ru
noncomputable section
set_option Elab.async false
set_option linter.all false

set_option maxRecDepth 100000
local macro_rules|`(tactic|trivial)=>`(tactic|first|exact Or.inl rfl|exact Or.inr rfl|exact Or.inr (Or.inl rfl)|exact Or.inr (Or.inr rfl)|assumption)
local macro_rules|`(tactic|and_intros)=>`(tactic|dsimp only[List.map,List.replicate,List.cons_append,List.nil_append])
namespace L2
open PySem PySem.Spec PyProof.Rows
section
variable{a b:Addr}{H:Hp}{o:HO}
noncomputable abbrev Key:=Sum Int Str
noncomputable def oR:Key->Value->Bool
 |.inl k,v=>Value.isInt k v
 |.inr x,v=>Value.isStrOf x v
noncomputable def OD(w:World):Key->Int
 |.inl k=>hashInt k
 |.inr x=>hashStr w x
theorem aY:∀{k:Key} {v:Value},oR k v=true->(∃i t,k=Qw i/\v=Value.int i t)\/(∃x t,k=Sz x/\v=S1 x t)
 |.inl i,v,h=>by obtain⟨t,e⟩:=Value.isInt_shape (k:=i) (v:=v) h;exact .inl ⟨i,t,rfl,e⟩
 |.inr x,v,h=>by obtain⟨t,e⟩:=Value.isStrOf_shape (x:=x) (v:=v) h;exact .inr ⟨x,t,rfl,e⟩
theorem yp(i:Int)(t:Tok):oR (.inl i) (.int i t)=true:=by simp[oR,Value.isInt]
theorem yq(x:Str)(t:Tok):oR (.inr x) (.str x t)=true:=by simp[oR,Value.isStrOf]
theorem Ia(a b:Int):decide ((Qw a:Key)=Qw b)=(a == b):=by
 by_cases e:a=b
 ·subst e;simp
 ·have h:¬(Qw a:Key)=Qw b:=fun q=>e (Sum.inl.inj q);rw[decide_eq_false h];exact(beq_eq_false_iff_ne.mpr e).symm
theorem Ib(a b:Str):decide ((Sz a:Key)=Sz b)=decide (a=b):=by
 by_cases e:a=b
 ·subst e;simp
 ·have h:¬(Sz a:Key)=Sz b:=fun q=>e (Sz.inj q);rw[decide_eq_false h,decide_eq_false e]
theorem Ic(a:Int)(b:Str):decide ((Qw a:Key)=Sz b)=false:=decide_eq_false (fun q=>nomatch q)
theorem Ie(a:Str)(b:Int):decide ((Sz a:Key)=Qw b)=false:=decide_eq_false (fun q=>nomatch q)
noncomputable def aM(prog:Program)(w:World):PySem.KeyKind prog w Key where
 is:=oR
 hash:=OD w
 inj:=fun v a b ha hb=>by
  rcases aY ha with⟨i,t,rfl,rfl⟩ | ⟨x,t,rfl,rfl⟩
  ·rcases aY hb with⟨j,u,rfl,e⟩ | ⟨y,u,rfl,e⟩
   ·injection e with e1 _;rw[e1]
   ·exact nomatch e
  ·rcases aY hb with⟨j,u,rfl,e⟩ | ⟨y,u,rfl,e⟩
   ·exact nomatch e
   ·injection e with e1 _;rw[e1]
 byValue:=fun k v h=>by rcases aY h with⟨i,t,rfl,rfl⟩ | ⟨x,t,rfl,rfl⟩<;>rfl
 pyHash:=fun hv h=>by
  rcases aY hv with⟨i,t,rfl,rfl⟩ | ⟨x,t,rfl,rfl⟩
  ·exact wpAny_pyHash_int h
  ·exact wpAny_pyHash_str h
 eqBool:=fun hu hv h=>by
  rcases aY hu with⟨i,t,rfl,rfl⟩ | ⟨x,t,rfl,rfl⟩
  ·rcases aY hv with⟨j,u,rfl,rfl⟩ | ⟨y,u,rfl,rfl⟩
   ·rw[Ia]at h;exact wpAny_eqBool_int h
   ·rw[Ic]at h;exact SeqAt.EqAt.int_str i t y u _ _ _ _ h
  ·rcases aY hv with⟨j,u,rfl,rfl⟩ | ⟨y,u,rfl,rfl⟩
   ·rw[Ie]at h;exact SeqAt.EqAt.str_int x t j u _ _ _ _ h
   ·rw[Ib]at h;exact wpAny_eqBool_str h
 «strs»:=fun k x t v h=>by
  rcases aY h with⟨i,u,rfl,e⟩ | ⟨y,u,rfl,e⟩
  ·exact nomatch e
  ·injection e with e1 _
   subst e1;cases v<;>rfl
theorem rj(prog:Program)(w:World)(i:Int)(t:Tok):(aM prog w).is (.inl i) (.int i t)=true:=yp i t
theorem rA(prog:Program)(w:World)(x:Str)(t:Tok):(aM prog w).is (.inr x) (.str x t)=true:=yq x t
inductive V where
 |non | bl (b:Bool) | int (i:Int) | str (x:Str) | byt (b:Array UInt8) | flt (b:UInt64) | ref (a:Addr) | ty (n:String)
 deriving DecidableEq
def RelV:V->Value->Prop
 |.non,u=>u=Value.none
 |.bl b,u=>u=Th b
 |.int i,u=>∃t,u=Value.int i t
 |.str x,u=>∃t,u=S1 x t
 |.byt b,u=>∃t,u=Value.bytes b t
 |.flt b,u=>∃t,u=Value.float b t
 |.ref a,u=>u=QW a
 |.ty n,u=>u=Sh n
noncomputable abbrev Vals:List V->List Value->Prop:=Paired RelV
theorem Vals.length{xs:List V}{us:List Value}(r:Vals xs us):xs.length=us.length:=Paired.length r
theorem Vals.get:∀{xs:List V} {us:List Value} {i:Nat} {x:V},Vals xs us->xs[i]?=some x->∃u,us[i]?=some u/\RelV x u
 |_,_,_,_,.nil,e=>by simp at e
 |_,_,0,_,.cons r _,e=>by simp at e;subst e;exact⟨_,rfl,r⟩
 |_,_,i+1,x,.cons _ t,e=>by obtain⟨u,h1,h2⟩:=Vals.get (i:=i) (x:=x) t (by simpa using e);exact⟨u,by simpa using h1,h2⟩
theorem Vals.set{x:V}{u:Value}(r:RelV x u):∀{xs:List V} {us:List Value} (i:Nat),Vals xs us->Vals (xs.set i x) (us.set i u)
 |_,_,_,.nil=>.nil
 |_,_,0,.cons _ t=>.cons r t
 |_,_,i+1,.cons q t=>.cons q (Vals.set r i t)
theorem Vals.append:∀{xs ys:List V} {us ws:List Value},Vals xs us->Vals ys ws->Vals (xs++ys) (us++ws)
 |_,_,_,_,.nil,s=>s
 |_,_,_,_,.cons r t,s=>.cons r (Vals.append t s)
theorem Vals.take:∀{xs:List V} {us:List Value} (n:Nat),Vals xs us->Vals (xs.take n) (us.take n)
 |_,_,0,_=>.nil
 |_,_,_+1,.nil=>.nil
 |_,_,n+1,.cons r t=>.cons r (Vals.take n t)
theorem Vals.drop:∀{xs:List V} {us:List Value} (n:Nat),Vals xs us->Vals (xs.drop n) (us.drop n)
 |_,_,0,r=>r
 |_,_,_+1,.nil=>.nil
 |_,_,n+1,.cons _ t=>Vals.drop n t
def iN:Option V->Option Value->Prop
 |some v,some u=>RelV v u
 |none,none=>True
 |_,_=>False
def KV{κ:Type}:List (κ×V)->List (κ×Value)->Prop:=Paired fun(p:κ×V) (q:κ×Value)=>p.1=q.1/\RelV p.2 q.2
noncomputable def kV:Key->V
 |.inl i=>.int i
 |.inr x=>.str x
inductive HO where
 |lst (xs:List V)
 |tup (xs:List V)
 |dK (kvs:List (Key×V)) | dT (kvs:List (List Key×V)) (ts:List Addr)
 |set (S:Int->Bool) (n:Nat)
 |ins (C dx:Addr) (fs:List (Str×V))
 |own (x:Addr)
 |xd (fs:List (Str×V))
 |met (f x:Addr)
 |rng (lo hi:Int)
 |frz (o:Obj) (u:HO)
 |tbl (ln cl:Value) (q:Str)
 |ext (φ:Heap->Prop)
noncomputable abbrev Hp:=Addr->Option HO
noncomputable def upd(H:Hp)(a:Addr)(o:HO):Hp:=fun b=>if b=a then some o else H b
theorem ao{a:Addr}:upd H a o a=some o:=by unfold upd;rw[if_pos rfl]
theorem ai(h:b≠a):upd H a o b=H b:=by unfold upd;rw[if_neg h]
theorem LY{o u:HO}(h:H a=some o)(h':H b=some u)(d:o≠u):a≠b:=by intro e;subst e;rw[h]at h';exact d (Option.some.inj h')
theorem aI(h:H a=some o)(h':H b=none):a≠b:=by intro e;subst e;rw[h]at h';cases h'
end
section
variable(P:Program)(w:World)
def aT(H:Hp)(h:Heap)(a:Addr):HO->Prop
 |.lst xs=>xs.length<=sizeLine/\∃(its:List Value) (n:Nat),Vals xs its/\h.get? a=some { cls:=.type "list",data:=.seq its.toArray n }
 |.tup xs=>xs.length<=sizeLine/\∃its:List Value,Vals xs its/\IsTup h a its.toArray
 |.dK kvs=>kvs.length<=sizeLine/\(a == sysModules)=false/\∃vs,KV kvs vs/\h.DictOf (aM P w) a vs
 |.dT kvs ts=>kvs.length<=sizeLine/\(a == sysModules)=false/\∃xs:List (List Key×Addr×Value),
   Paired (fun(p:List Key×V) (q:List Key×Addr×Value)=>p.1=q.1/\H q.2.1=some (.tup (p.1.map kV))/\RelV p.2 q.2.2) kvs xs /\
   ∃o es ep,h.get? a=some o/\o.ExactDict/\o.data=.dict es ep/\es.toList=xs.map (entryOfKey (tupleKind (aM P w)))/\(xs.map (·.1)).Nodup/\xs.map (·.2.1)=ts
 |.set S n=>h.SetOf (intKind P w) a S n
 |.ins C dx fs=>H dx=some (.own a)/\fs.length<=1000/\dx≠a/\h.get? a=some (S2 C dx) /\
   ∃mA,h.Ns1 dx mA/\(∀f,iN (fs.lookup f) (mA f))/\PySem.Within mA (fs.map (·.1))
 |.own _=>∃o,h.get? a=some o
 |.xd fs=>∃mA,h.Ns1 a mA/\∀f,iN (fs.lookup f) (mA f)
 |.rng lo hi=>∃t u v,h.get? a=some { cls:=.type "range",data:=.fields #[.int lo t,.int hi u,.int 1 v] }
 |.frz o u=>h.get? a=some o/\aT H h a u
 |.tbl ln cl q=>∃ps:Array Value,h.get? a=some { cls:=.none,data:=.fields ps }/\(ps=#[]\/∃(c:Addr) (oc:Obj) (vs:Array Value) (t:Tok),ps=#[ln,cl,.ref c]/\H c=some (.frz oc (.own a))/\oc.data=.fields vs/\vs[1]?=some (.str q t))
 |.met f x=>h.get? a=some (SM (.ref f) (.ref x))
 |.ext φ=>φ h/\(∃o,h.get? a=some o)/\∀h1 h2:Heap,φ h1->(∀o,h1.get? a=some o->h2.get? a=some o)->φ h2
def HOk(H:Hp)(h:Heap):Prop:=∀a o,H a=some o->aT P w H h a o
end
section
variable{P:Program}{w:World}{H H':Hp}{h h':Heap}{a:Addr}{o:HO}
theorem aT.lt(x:aT P w H h a o):a<h.objs.size:=by
 cases o with
 |lst xs=>obtain⟨_,_,_,_,e⟩:=x;exact Qh e
 |tup xs=>obtain⟨_,_,_,p⟩:=x;exact p.lt
 |dK kvs=>obtain⟨_,_,_,_,o,_,_,e,_⟩:=x;exact Qh e
 |dT kvs ts=>obtain⟨_,_,_,_,o,_,_,e,_⟩:=x;exact Qh e
 |set S n=>obtain⟨o,_,_,_,e,_⟩:=x;exact Qh e
 |ins C dx fs=>obtain⟨_,_,_,e,_⟩:=x;exact Qh e
 |own y=>obtain⟨_,e⟩:=x;exact Qh e
 |xd fs=>obtain⟨_,⟨_,_,_,e,_⟩,_⟩:=x;exact Qh e
 |rng lo hi=>obtain⟨_,_,_,e⟩:=x;exact Qh e
 |frz ob u=>obtain⟨e,_⟩:=x;exact Qh e
 |tbl ln cl q=>obtain⟨_,e,_⟩:=x;exact Qh e
 |met f y=>exact Qh (show h.get? a=some _ from x)
 |ext φ=>obtain⟨_,⟨_,e⟩,_⟩:=x;exact Qh e
theorem Paired.Ig{α β:Type}{F G:α->β->Prop}:∀{l₁:List α} {l₂:List β},Paired F l₁ l₂->(∀a b,F a b->G a b)->Paired G l₁ l₂
 |_,_,.nil,_=>.nil
 |_,_,.cons r t,f=>.cons (f _ _ r) (Paired.Ig t f)
theorem aT.stay(x:aT P w H h a o)(k:∀b u,(b=a\/H b=some (.own a))->h.get? b=some u->h'.get? b=some u)
  (ho:∀b,H b=some (.own a)->H' b=some (.own a)) (hf:∀b o c,H b=some (.frz o (.own c))->H' b=some (.frz o (.own c))) (ht:∀b xs,H b=some (.tup xs)->H' b=some (.tup xs)):aT P w H' h' a o:=by
 induction o with
 |lst xs=>obtain⟨z,its,n,r,e⟩:=x;exact⟨z,its,n,r,k _ _ (.inl rfl) e⟩
 |tup xs=>obtain⟨z,its,r,ob,e,c⟩:=x;exact⟨z,its,r,ob,k _ _ (.inl rfl) e,c⟩
 |dK kvs=>obtain⟨z,y,vs,r,ob,es,ep,e,c⟩:=x;exact⟨z,y,vs,r,ob,es,ep,k _ _ (.inl rfl) e,c⟩
 |dT kvs ts=>obtain⟨z,y,xs,r,ob,es,ep,e,c⟩:=x;exact⟨z,y,xs,Paired.Ig r fun p q z=>⟨z.1,ht _ _ z.2.1,z.2.2⟩,ob,es,ep,k _ _ (.inl rfl) e,c⟩
 |set S n=>obtain⟨ob,es,ep,t,e,c⟩:=x;exact⟨ob,es,ep,t,k _ _ (.inl rfl) e,c⟩
 |ins C dx fs=>obtain⟨d,z,ne,e,mA,⟨od,es,ep,e2,c⟩,r⟩:=x;exact⟨ho _ d,z,ne,k _ _ (.inl rfl) e,mA,⟨od,es,ep,k _ _ (.inr d) e2,c⟩,r⟩
 |own y=>obtain⟨ob,e⟩:=x;exact⟨ob,k _ _ (.inl rfl) e⟩
 |xd fs=>obtain⟨mA,⟨od,es,ep,e,c⟩,r⟩:=x;exact⟨mA,⟨od,es,ep,k _ _ (.inl rfl) e,c⟩,r⟩
 |rng lo hi=>obtain⟨t,u,v,e⟩:=x;exact⟨t,u,v,k _ _ (.inl rfl) e⟩
 |frz ob u ih=>obtain⟨e,q⟩:=x;exact⟨k _ _ (.inl rfl) e,ih q⟩
 |tbl ln cl q=>
  obtain⟨ps,e,d⟩:=x;refine⟨ps,k _ _ (.inl rfl) e,?_⟩;rcases d with d | ⟨c,oc,vs,t,d,d2,d3⟩
  ·exact .inl d
  ·exact .inr ⟨c,oc,vs,t,d,hf _ _ _ d2,d3⟩
 |met f y=>have e:h.get? a=some (SM (.ref f) (.ref y)):=x;show h'.get? a=some (SM (.ref f) (.ref y));exact k a _ (.inl rfl) e
 |ext φ=>obtain⟨p,⟨o,e⟩,st⟩:=x;exact⟨st _ _ p fun o q=>k _ _ (.inl rfl) q,⟨o,k _ _ (.inl rfl) e⟩,st⟩
theorem HOk.lt(x:HOk P w H h)(e:H a=some o):a<h.objs.size:=(x a o e).lt
theorem HOk.fresh(x:HOk P w H h)(e:h.objs.size<=a):H a=none:=by
 cases q:H a with
 |none=>rfl
 |some u=>exact absurd (Qy (x.lt q) e) (Q0 _)
theorem HOk.kept(x:HOk P w H h)(k:∀b u,h.get? b=some u->h'.get? b=some u):HOk P w H h':=fun a o e=>(x a o e).stay (fun b u _ q=>k b u q) (fun _ q=>q) (fun _ _ _ q=>q) fun _ _ q=>q
theorem HOk.laid(x:HOk P w H h)(k:∀b u,h.get? b=some u->h'.get? b=some u)(hp:h.objs.size<=a)(new:aT P w (upd H a o) h' a o):HOk P w (upd H a o) h':=fun b u e=>by
 have hn:=x.fresh hp;by_cases hb:b=a
 ·subst hb;rw[ao]at e;cases e;exact new
 ·rw[ai hb]at e;exact(x b u e).stay (fun c v _ q=>k c v q) (fun c q=>by rw[ai (aI q hn)];exact q) (fun c _ _ q=>by rw[ai (aI q hn)];exact q) fun c xs q=>by rw[ai (aI q hn)];exact q
end
def Rd(H:Hp)(a:Addr)(u:HO):Prop:=H a=some u\/∃o,H a=some (.frz o u)
theorem Rd.ok{P:Program}{w:World}{H:Hp}{h:Heap}{a:Addr}{u:HO}(r:Rd H a u)(x:HOk P w H h):aT P w H h a u:=by
 rcases r with r | ⟨o,r⟩
 ·exact x a u r
 ·obtain⟨_,q⟩:=x a _ r;exact q
def Mut:Option HO->Prop
 |some (.lst _)=>True
 |some (.dK _)=>True
 |some (.dT _ _)=>True
 |some (.set _ _)=>True
 |some (.ins _ _ _)=>True
 |some (.ext _)=>True
 |_=>False
section
variable{P:Program}{w:World}{H:Hp}{h h':Heap}{x e:Addr}{o':HO}
theorem HOk.write(ok:HOk P w H h)(mu:Mut (H x))(he:e=x\/H e=some (.own x))(k:∀b u,b≠e->h.get? b=some u->h'.get? b=some u)(heo:∃u,h'.get? e=some u)
  (new:aT P w (upd H x o') h' x o'):HOk P w (upd H x o') h':=fun b u q=>by
 have LZ:∀c y,H c=some (.own y)->c≠x:=fun c y r z=>by subst z;rw[r]at mu;exact mu
 have OE:∀c xs,H c=some (.tup xs)->c≠x:=fun c xs r z=>by subst z;rw[r]at mu;exact mu
 have OG:∀c o y,H c=some (.frz o y)->c≠x:=fun c o y r z=>by subst z;rw[r]at mu;exact mu
 by_cases hb:b=x
 ·subst hb;rw[ao]at q;cases q;exact new
 ·rw[ai hb]at q;by_cases hbe:b=e
  ·have q':H b=some (.own x):=by
    rcases he with z | z
    ·exact absurd (hbe.trans z) hb
    ·rw[hbe];exact z
   rw[q]at q';cases q';obtain⟨v,hv⟩:=heo;exact⟨v,by rw[hbe];exact hv⟩
  ·refine(ok b u q).stay (fun c v hc r=>k c v ?_ r) (fun c r=>by rw[ai (LZ c b r)];exact r) (fun c _ _ r=>by rw[ai (OG c _ _ r)];exact r) fun c xs r=>by rw[ai (OE c xs r)];exact r
   rcases hc with rfl | hc
   ·exact hbe
   ·rintro rfl;rcases he with z | z
    ·exact LZ c b hc z
    ·rw[hc]at z;cases z;exact hb rfl
end
structure Un(fs ex:List Addr)(H H':Hp)(h h':Heap):Prop where
 keep:∀b o,h.get? b=some o->H b=none->b∉fs->b∉ex->h'.get? b=some o
 slot:∀b o,h.get? b=some o->H b=none->b∈fs->b∉ex->∃sl,h'.get? b=some { o with slots:=sl }
 free:∀b o,h.get? b=some o->H b=none->b∉ex->H' b=none
 there:∀b o,h.get? b=some o->b∉ex->∃o',h'.get? b=some o'
 tups:∀b xs,H b=some (.tup xs)->H' b=some (.tup xs)
 kB:∀b o u,H b=some (.frz o u)->H' b=some (.frz o u)
 oA:∀b x y z,H b=some (.tbl x y z)->H' b=some (.tbl x y z)
section
variable{fs fs' ex ex':List Addr}{H H1 H2:Hp}{h h1 h2 h':Heap}{a x e:Addr}{o:HO}
theorem Un.any(u:Un fs ex H H1 h h1){b:Addr}{ob:Obj}(q:h.get? b=some ob)(n:H b=none)(hx:b∉ex):∃sl,h1.get? b=some { ob with slots:=sl }:=by
 by_cases hb:b∈fs
 ·exact u.slot b ob q n hb hx
 ·exact⟨ob.slots,u.keep b ob q n hb hx⟩
theorem Un.kept(k:∀b u,h.get? b=some u->h'.get? b=some u):Un fs ex H H h h':=
 ⟨fun b ob q _ _ _=>k b ob q,fun b ob q _ _ _=>⟨ob.slots,k b ob q⟩,fun _ _ _ n _=>n,fun b ob q _=>⟨ob,k b ob q⟩,fun _ _ q=>q,fun _ _ _ q=>q,fun _ _ _ _ q=>q⟩
theorem Un.refl:Un fs ex H H h h:=Un.kept fun _ _ q=>q
theorem Un.laid(k:∀b u,h.get? b=some u->h'.get? b=some u)(hp:h.objs.size<=a)(hn:H a=none):Un fs ex H (upd H a o) h h' where
 keep:=fun b u q _ _ _=>k b u q
 slot:=fun b u q _ _ _=>⟨u.slots,k b u q⟩
 free:=fun b u q n _=>by rw[ai (QF (Qy (Qh q) hp))];exact n
 there:=fun b u q _=>⟨u,k b u q⟩
 tups:=fun b xs q=>by rw[ai (aI q hn)];exact q
 kB:=fun b u xs q=>by rw[ai (aI q hn)];exact q
 oA:=fun b _ _ _ q=>by rw[ai (aI q hn)];exact q
theorem Un.write(mu:Mut (H x))(he:e=x\/H e=some (.own x))(k:∀b u,b≠e->h.get? b=some u->h'.get? b=some u)(heo:∃u,h'.get? e=some u):Un fs ex H (upd H x o) h h':=by
 have hx:∀b,H b=none->b≠x:=fun b n z=>by subst z;rw[n]at mu;exact mu
 have hb:∀b,H b=none->b≠e:=fun b n z=>by
  subst z;rcases he with r | r
  ·exact hx b n r
  ·rw[n]at r;cases r
 have hm:∀b u,H b=some u->¬Mut (some u)->b≠x:=fun b u q nm z=>by subst z;rw[q]at mu;exact nm mu
 refine ⟨fun b u q n _ _=>k b u (hb b n) q,fun b u q n _ _=>⟨u.slots,k b u (hb b n) q⟩,fun b u q n _=>by rw [ai (hx b n)];exact n,fun b u q _=>?_,
  fun b xs q=>by rw[ai (hm b _ q fun z=>z)];exact q,fun b u xs q=>by rw[ai (hm b _ q fun z=>z)];exact q,fun b _ _ _ q=>by rw[ai (hm b _ q fun z=>z)];exact q⟩
 by_cases hbe:b=e
 ·subst hbe;exact heo
 ·exact⟨u,k b u hbe q⟩
end
section
variable{b:Addr}{h:Heap}{o:Obj}{H:Hp}
noncomputable def trk(h:Heap)(H:Hp):List Addr:=(Qs h.objs.size).filter fun a=>(H a).isSome
noncomputable def p5(h:Heap)(H:Hp):Heap:=PySem.W.hideAll h (trk h H)
theorem yr(h:Heap)(H:Hp):(p5 h H).objs.size=h.objs.size:=PySem.W.hideAll_size _ _
theorem zT(e:h.get? b=some o)(n:H b=none):(p5 h H).get? b=some o:=
 PySem.W.hideAll_get _ e fun hm=>by have q:(H b).isSome=true:=(Ri.mp hm).2;rw[n]at q;simp at q
theorem DV(e:(p5 h H).get? b=some o):h.get? b=some o/\H b=none:=by
 have e':h.get? b=some o:=PySem.W.of_hideAll (trk h H) e;refine⟨e',?_⟩;cases q:H b with
 |none=>rfl
 |some x=>have hm:b∈trk h H:=Ri.mpr ⟨RD.mpr (Qh e'),by simp[q]⟩;have z:(p5 h H).get? b=none:=PySem.W.hideAll_none (trk h H) hm;rw[z]at e;cases e
structure Mod(K:Ds)(mg:Str->Option Value)(base:Heap):Prop where
 kin:K.In base
 glob:base.Ns mainGlobals mg
 blt:∃mb,base.Ns builtinsNs mb/\∀x:Str,x ≠ "__name__" -> mb x=bootBuiltins x
 nolimit:base.NoLimit
structure Cx where
 prog:Program
 w:World
 K:Ds
 mg:Str->Option Value
 base:Heap
 A:Around
 N:List Str
 s₀:Shared
 H₀:Hp
 env:Env
 outer:List Env
 stack:List Env
 ex:List Addr
 fn:Str->Bool
 calm:Bool
 pn:List (Addr×Obj)
 xe:Value->Shared->Prop
noncomputable def frs(l:List Env):List Addr:=l.filterMap (·.frame)
noncomputable abbrev Cx.fs(X:Cx):List Addr:=frs X.outer
def Vis(sc:Scope)(x:Str):Prop:=sc.names.lookup x=some .local\/sc.names.lookup x=some .cell\/sc.names.lookup x=some .free
def Loc(sc:Scope)(x:Str):Prop:=sc.names.lookup x=some .local\/sc.names.lookup x=some .cell
def Look(env:Env)(h:Heap)(m:Str->Option Value)(x:Str)(u:Value):Prop:=
 (env.kindOf x=some .local/\m x=some u)\/((env.kindOf x=some .cell\/env.kindOf x=some .free)/\∃c,env.cells.lookup x=some c/\h.IsCell c (some u))
structure Cx.Ok(X:Cx):Prop where
 mod:Mod X.K X.mg X.base
 kind:X.env.scope.kind=.function
 glob:X.env.globals=mainGlobals
 blt:X.env.builtins=builtinsNs
 above:X.s₀.heap.objs.size<=X.env.locals
 inj:∀x y c,X.env.cells.lookup x=some c->X.env.cells.lookup y=some c->x=y
 has:∀x,(X.env.kindOf x=some .cell\/X.env.kindOf x=some .free)->∃c,X.env.cells.lookup x=some c
 cab:∀x c,X.fn x=true->X.env.cells.lookup x=some c->X.s₀.heap.objs.size<=c
 hd:X.calm=true->X.A.handled=none
 frames:X.A.frames=some X.stack
 stk:X.stack=X.outer\/(X.stack=X.env::X.outer/\X.env.frame=some X.env.locals)
 exf:∀b∈X.ex,b≠X.env.locals/\∀x c,X.env.cells.lookup x=some c->c≠b
 bs:∀b o,X.base.get? b=some o->X.s₀.heap.get? b=some o/\X.H₀ b=none
 bsz:X.base.objs.size<=X.s₀.heap.objs.size
 zU:∀b o,X.base.get? b=some o->b∉X.ex
 DX:∀b∈X.ex,b∉X.fs
 kX:X.s₀.heap.FunFrames X.base X.outer
 frf:∀b∈X.fs,X.H₀ b=none
structure Inv(X:Cx)(qL:List (Addr×Obj))(σ:List (Option V))(H:Hp)(s:Shared):Prop where
 ok:X.Ok
 os:s.os=X.s₀.os
 bare:AllBare s.gens
 base:Un X.fs X.ex X.H₀ H X.s₀.heap s.heap
 loc:∃m,s.heap.Ns X.env.locals m/\∀(i:Nat) (x:Str) (v:V),X.N[i]?=some x->σ[i]?=some (some v)->Vis X.env.scope x->∃u,RelV v u/\Look X.env s.heap m x u
 cell:∀x c,X.env.cells.lookup x=some c->∃v,s.heap.IsCell c v
 free:H X.env.locals=none
 dw:∀x c,X.env.cells.lookup x=some c->H c=none
 pin:∀p∈X.pn++qL,s.heap.get? p.1=some p.2/\H p.1=none/\p.1≠X.env.locals/\p.1∉X.fs/\∀v,p.2.data≠.cell v
 hok:HOk X.prog X.w H s.heap
 len:σ.length=X.N.length
end
section
variable{X:Cx}{qL:List (Addr×Obj)}{σ:List (Option V)}{H H':Hp}{s:Shared}{h':Heap}
section
variable{ch:List Addr}{x:Str}{u:Value}{a:Addr}{t':Nat}{i:Nat}{v:V}
theorem Cx.Ok.OH(ok:X.Ok){b:Addr}{o:Obj}(e:X.base.get? b=some o):b∉X.fs:=fun hb=>by have:=(ok.kX.mem hb).1;rw[e]at this;cases this
theorem Inv.bs(I:Inv X qL σ H s):∀b o,X.base.get? b=some o->s.heap.get? b=some o/\H b=none:=fun b o e=>⟨I.base.keep b o (I.ok.bs b o e).1 (I.ok.bs b o e).2 (I.ok.OH e) (I.ok.zU b o e),I.base.free b o (I.ok.bs b o e).1 (I.ok.bs b o e).2 (I.ok.zU b o e)⟩
theorem Inv.bk(I:Inv X qL σ H s):∀b o,X.base.get? b=some o->s.heap.get? b=some o:=fun b o e=>(I.bs b o e).1
theorem Inv.mod(I:Inv X qL σ H s):Mod X.K X.mg X.base:=I.ok.mod
theorem Inv.kIn(I:Inv X qL σ H s):X.K.In s.heap:=I.ok.mod.kin.keeps I.bk
theorem Inv.lt(I:Inv X qL σ H s):X.env.locals<s.heap.objs.size:=let ⟨_,hn,_⟩:=I.loc;hn.lt
theorem Inv.sz(I:Inv X qL σ H s):X.s₀.heap.objs.size<=s.heap.objs.size:=QO I.ok.above (SW I.lt)
theorem Inv.OI(I:Inv X qL σ H s)(h:s.heap.objs.size<=a):a∉X.fs:=fun hb=>by obtain⟨_,o,ho,_⟩:=I.ok.kX.mem hb;exact absurd (Qy (Qh ho) (QO I.sz h)) (Q0 _)
theorem Inv.cne(I:Inv X qL σ H s):∀x c,X.env.cells.lookup x=some c->c≠X.env.locals:=fun x c e z=>by obtain⟨v,o,ho,hd⟩:=I.cell x c e;obtain⟨m,⟨o',es,ep,ho',hd',_⟩,_⟩:=I.loc;rw[z,ho']at ho;cases ho;rw[hd']at hd;cases hd
theorem Inv.kX(I:Inv X qL σ H s):s.heap.FunFrames X.base X.outer:=by
 have all:∀(l:List Env),(∀b∈frs l,b∈X.fs)->X.s₀.heap.FunFrames X.base l->s.heap.FunFrames X.base l:=by
  intro l
  induction l with
  |nil=>intro _ _;trivial
  |cons env r ih=>intro hs hl;obtain⟨hk,⟨L,o,hf,hn,ho,hd⟩,hr⟩:=hl;have hL:L∈X.fs:=hs L (by unfold frs;rw[Sw,hf];exact Qe);obtain⟨sl,e⟩:=I.base.slot L o ho (I.ok.frf L hL) hL fun z=>I.ok.DX L z hL;exact⟨hk,⟨L,_,hf,hn,e,hd⟩,ih (fun b hb=>hs b (by unfold frs;rw[Sw,hf];exact Qg _ hb)) hr⟩
 exact all X.outer (fun _ hb=>hb) I.ok.kX
theorem Inv.stack(I:Inv X qL σ H s):s.heap.FunFrames X.base X.stack:=by
 rcases I.ok.stk with e | ⟨e,hf⟩
 ·rw[e];exact I.kX
 ·rw[e];obtain⟨m,hn,_⟩:=I.loc;refine .cons (by rw[I.ok.kind];decide) hf hn ?_ I.kX;exact Heap.get?_none_of_le (QO I.ok.bsz I.ok.above)
theorem Inv.uM(I:Inv X qL σ H s):∀b∈frs X.stack,b∈X.env.locals::X.fs:=fun b hb=>by
 rcases I.ok.stk with e | ⟨e,hf⟩
 ·rw[e]at hb;exact Qg _ hb
 ·rw[e]at hb;unfold frs at hb;rw[Sw,hf]at hb;exact hb
theorem Inv.wB(I:Inv X qL σ H s):∀b∈frs X.stack,H b=none:=fun b hb=>by
 rcases Qk.mp (I.uM b hb) with e | hb
 ·rw[e];exact I.free
 ·obtain⟨_,o,ho,_⟩:=I.ok.kX.mem hb;exact I.base.free b o ho (I.ok.frf b hb) fun z=>I.ok.DX b z hb
theorem Inv.step{g':Array GenState}{t':Nat}{d':Drawn}{ch:List Addr}(I:Inv X qL σ H s)
  (hch:∀b∈ch,(b∈X.ex\/X.s₀.heap.objs.size<=b)/\b≠X.env.locals/\(∀x c,X.env.cells.lookup x=some c->c≠b)/\∀p∈X.pn++qL,p.1≠b)
  (keep:∀b o,b≠X.env.locals->b∉X.fs->b∉ch->s.heap.get? b=some o->H b=none->h'.get? b=some o)
  (slot:∀b o,b≠X.env.locals->b∈X.fs->b∉ch->s.heap.get? b=some o->H b=none->∃sl,h'.get? b=some { o with slots:=sl }) (free:∀b o,b∉ch->s.heap.get? b=some o->H b=none->H' b=none)
  (there:∀b o,b∉ch->s.heap.get? b=some o->∃o',h'.get? b=some o')
  (tups:∀b xs,H b=some (.tup xs)->H' b=some (.tup xs)) (kB:∀b o u,H b=some (.frz o u)->H' b=some (.frz o u)) (oA:∀b x y z,H b=some (.tbl x y z)->H' b=some (.tbl x y z))
  (ns:∀m,s.heap.Ns X.env.locals m->h'.Ns X.env.locals m) (hok:HOk X.prog X.w H' h') (hg:AllBare g') :
  Inv X qL σ H' { s with heap:=h',gens:=g',drawn:=d',toks:=t' }:=by
 have neL:∀b o,X.s₀.heap.get? b=some o->b≠X.env.locals:=fun b o e=>QF (Qy (Qh e) I.ok.above);have neC:∀b o,X.s₀.heap.get? b=some o->b∉X.ex->b∉ch:=fun b o e hx hb=>by
  rcases (hch b hb).1 with z | z
  ·exact hx z
  ·exact absurd (Qy (Qh e) z) (Q0 _)
 have cellK:∀x c,X.env.cells.lookup x=some c->∀v,s.heap.IsCell c v->h'.IsCell c v:=fun x c e v ⟨o,ho,hd⟩=>by
  have nch:c∉ch:=fun z=>(hch c z).2.2.1 x c e rfl;by_cases hc:c∈X.fs
  ·obtain⟨sl,q⟩:=slot c o (I.cne x c e) hc nch ho (I.dw x c e);exact⟨_,q,hd⟩
  ·exact⟨o,keep c o (I.cne x c e) hc nch ho (I.dw x c e),hd⟩
 refine⟨I.ok,I.os,hg,⟨fun b o e n hb hx=>?_,fun b o e n hb hx=>?_,fun b o e n hx=>?_,fun b o e hx=>?_,fun b xs e=>tups b xs (I.base.tups b xs e),fun b o xs e=>kB b o xs (I.base.kB b o xs e),fun b x y z e=>?_⟩,?_,fun x c e=>?_,?_,fun x c e=>?_,fun p hp=>?_,hok,I.len⟩
 ·exact keep b o (neL b o e) hb (neC b o e hx) (I.base.keep b o e n hb hx) (I.base.free b o e n hx)
 ·obtain⟨sl,e1⟩:=I.base.slot b o e n hb hx;obtain⟨sl',e2⟩:=slot b _ (neL b o e) hb (neC b o e hx) e1 (I.base.free b o e n hx);exact⟨sl',e2⟩
 ·obtain⟨o',e1⟩:=I.base.there b o e hx;exact free b o' (neC b o e hx) e1 (I.base.free b o e n hx)
 ·obtain⟨o',e1⟩:=I.base.there b o e hx;exact there b o' (neC b o e hx) e1
 ·exact oA _ _ _ _ (I.base.oA _ _ _ _ e)
 ·obtain⟨m,hn,hl⟩:=I.loc;refine⟨m,ns m hn,fun i x v e1 e2 e3=>?_⟩;obtain⟨u,r,l⟩:=hl i x v e1 e2 e3;refine⟨u,r,?_⟩;rcases l with l | ⟨k,c,e,z⟩
  ·exact .inl l
  ·exact .inr ⟨k,c,e,cellK x c e _ z⟩
 ·obtain⟨v,z⟩:=I.cell x c e;exact⟨v,cellK x c e v z⟩
 ·obtain⟨m,⟨o,_,_,ho,_⟩,_⟩:=I.loc;exact free _ o (fun z=>(hch _ z).2.1 rfl) ho I.free
 ·obtain⟨v,o,ho,hd⟩:=I.cell x c e;exact free c o (fun z=>(hch c z).2.2.1 x c e rfl) ho (I.dw x c e)
 ·obtain⟨e,n,ne,nf,d⟩:=I.pin p hp;have nch:p.1∉ch:=fun z=>(hch p.1 z).2.2.2 p hp rfl;exact⟨keep p.1 p.2 ne nf nch e n,free p.1 p.2 nch e n,ne,nf,d⟩
theorem Inv.un(I:Inv X qL σ H s)(u:Un X.fs [] H H' s.heap h')(hok:HOk X.prog X.w H' h'):Inv X qL σ H' { s with heap:=h',toks:=t' }:=by
 obtain⟨m,⟨o,es,ep,ho,r⟩,_⟩:=id I.loc;obtain⟨sl,hL⟩:=u.any ho I.free (by simp);exact I.step (g':=s.gens) (d':=s.drawn) (ch:=[]) (fun _ z=>nomatch z) (fun b o _ hb _ e n=>u.keep b o e n hb (by simp)) (fun b o _ hb _ e n=>u.slot b o e n hb (by simp)) (fun b o _ e n=>u.free b o e n (by simp)) (fun b o _ e=>u.there b o e (by simp)) u.tups u.kB u.oA (fun m' hm=>by obtain⟨o',es',ep',ho',r'⟩:=hm;rw[ho]at ho';cases ho';exact⟨_,es',ep',hL,r'⟩) hok I.bare
theorem Inv.call{g':Array GenState}{t':Nat}{d':Drawn}(I:Inv X qL σ H s)(u:Un (frs X.stack) ch H H' s.heap h')(hok:HOk X.prog X.w H' h')(hg:AllBare g')
  (hch:∀b∈ch,(b∈X.ex\/X.s₀.heap.objs.size<=b)/\b≠X.env.locals/\(∀x c,X.env.cells.lookup x=some c->c≠b)/\∀p∈X.pn++qL,p.1≠b) :
  Inv X qL σ H' { s with heap:=h',gens:=g',drawn:=d',toks:=t' }:=by
 obtain⟨m,⟨o,es,ep,ho,r⟩,_⟩:=id I.loc;obtain⟨sl,hL⟩:=u.any ho I.free fun z=>(hch _ z).2.1 rfl;exact I.step (ch:=ch) hch (fun b o hL hb hc e n=>u.keep b o e n (fun z=>(Qk.mp (I.uM b z)).elim hL hb) hc) (fun b o _ _ hc e n=>u.any e n hc) (fun b o hc e n=>u.free b o e n hc) (fun b o hc e=>u.there b o e hc) u.tups u.kB u.oA (fun m' hm=>by obtain⟨o',es',ep',ho',r'⟩:=hm;rw[ho]at ho';cases ho';exact⟨_,es',ep',hL,r'⟩) hok hg
theorem Inv.turned{t':Nat}{it:Addr}(I:Inv X qL σ H s)(k:∀b o,b≠it->s.heap.get? b=some o->h'.get? b=some o)(hn:H it=none)(hL:it≠X.env.locals)
  (h1:it∈X.ex\/X.s₀.heap.objs.size<=it) (h2:∀x c,X.env.cells.lookup x=some c->c≠it) (h3:∀p∈X.pn++qL,p.1≠it):Inv X qL σ H { s with heap:=h',toks:=t' }:=by
 have nit:∀b u,H b=some u->b≠it:=fun b u e z=>by rw[z,hn]at e;cases e
 refine I.step (g':=s.gens) (d':=s.drawn) (ch:=[it]) (fun b hb=>?_) (fun b o _ _ hc e _=>k b o (fun z=>hc (by simp[z])) e) (fun b o _ _ hc e _=>⟨o.slots,k b o (fun z=>hc (by simp[z])) e⟩) (fun _ _ _ _ n=>n)
  (fun b o hc e=>⟨o,k b o (fun z=>hc (by simp[z])) e⟩) (fun _ _ e=>e) (fun _ _ _ e=>e) (fun _ _ _ _ e=>e) (fun m hm=>?_) (fun b u e=>?_) I.bare
 ·have e:b=it:=by simpa using hb
  subst e;exact⟨h1,hL,h2,h3⟩
 ·obtain⟨o,es,ep,ho,r⟩:=hm;exact⟨o,es,ep,k _ o (Ne.symm hL) ho,r⟩
 ·refine(I.hok b u e).stay (fun c v hc q=>k c v ?_ q) (fun _ q=>q) (fun _ _ _ q=>q) fun _ _ q=>q;rcases hc with z | z
  ·rw[z];exact nit b u e
  ·exact nit c _ z
theorem Inv.tok(I:Inv X qL σ H s)(t:Nat):Inv X qL σ H { s with toks:=t }:=I.un (h':=s.heap) (t':=t) Un.refl I.hok
theorem Inv.kept(I:Inv X qL σ H s)(k:∀b u,s.heap.get? b=some u->h'.get? b=some u):Inv X qL σ H { s with heap:=h',toks:=t' }:=I.un (Un.kept k) (I.hok.kept k)
theorem Inv.laid{o:HO}{t':Nat}(I:Inv X qL σ H s)(k:∀b u,s.heap.get? b=some u->h'.get? b=some u)(hp:s.heap.objs.size<=a)(new:aT X.prog X.w (upd H a o) h' a o) :
  Inv X qL σ (upd H a o) { s with heap:=h',toks:=t' }:=I.un (Un.laid k hp (I.hok.fresh hp)) (I.hok.laid k hp new)
theorem Inv.write{x e:Addr}{o:HO}{t':Nat}(I:Inv X qL σ H s)(mu:Mut (H x))(he:e=x\/H e=some (.own x))(k:∀b u,b≠e->s.heap.get? b=some u->h'.get? b=some u)(heo:∃u,h'.get? e=some u)
  (new:aT X.prog X.w (upd H x o) h' x o):Inv X qL σ (upd H x o) { s with heap:=h',toks:=t' }:=I.un (Un.write mu he k heo) (I.hok.write mu he k heo new)
theorem Inv.wC{Gj:List (Addr×Obj)}(I:Inv X qL σ H s)(h:∀p∈Gj,s.heap.get? p.1=some p.2/\H p.1=none/\p.1≠X.env.locals/\p.1∉X.fs/\∀v,p.2.data≠.cell v):Inv X Gj σ H s:=
 ⟨I.ok,I.os,I.bare,I.base,I.loc,I.cell,I.free,I.dw,fun p hp=>(Qu.mp hp).elim (fun z=>I.pin p (QK _ z)) (h p),I.hok,I.len⟩
theorem rB{N:List Str}(hN:N.Nodup){i j:Nat}(a:N[i]?=some x)(b:N[j]?=some x):i=j:=by obtain⟨h1,e1⟩:=PU.mp a;obtain⟨h2,e2⟩:=PU.mp b;exact(List.getElem_inj hN).mp (e1.trans e2.symm)
theorem oS{M:Model}{A:Around}{E:Value->Shared->Prop}{Q:Unit->Shared->Prop}(I:Inv X qL σ H s)(hN:X.N.Nodup)(hi:X.N[i]?=some x)(hx:Loc X.env.scope x)(r:RelV v u)
  (h:∀s',Inv X qL (σ.set i (some v)) H s'->(∃a,Td a s.heap s'.heap/\(a=X.env.locals\/X.env.cells.lookup x=some a))->Q () s') (hf:X.fn x=true\/X.env.scope.names.lookup x=some .local:=by trivial):wpAny M A (storeName X.env x u) Q E s:=by
 obtain⟨m,hn,hl⟩:=id I.loc;have hcls:(X.env.scope.kind == .class||(X.env.scope.kind == .module&&X.env.locals != X.env.globals))=false:=by rw[I.ok.kind];rfl
 have hiσ:i<σ.length:=by rw[I.len];exact(PU.mp hi).1
 have cne:=I.cne;have tracked:∀{a:Addr} {h':Heap},(∃o,s.heap.get? a=some o/\H a=none)->Td a s.heap h'->HOk X.prog X.w H h':=fun {a h'} ha hs b ob e=>by
  obtain⟨_,_,hfree⟩:=ha;refine(I.hok b ob e).stay (fun c w' hc q=>(hs.2 c ?_).trans q) (fun _ q=>q) (fun _ _ _ q=>q) fun _ _ q=>q;rintro rfl;rcases hc with rfl | hc
  ·rw[hfree]at e;cases e
  ·rw[hfree]at hc;cases hc
 rcases hx with hk | hk
 ·refine wpAny_storeName_local hk hn (fun h' hn' hs=>?_) hcls;obtain⟨oL,_,_,hoL,_⟩:=id hn;refine h _ ⟨I.ok,I.os,I.bare,⟨fun b o e n hb hx=>?_,fun b o e n hb hx=>?_,I.base.free,fun b o e hx=>?_,I.base.tups,I.base.kB,I.base.oA⟩,⟨_,hn',fun j y v' e1 e2 e3=>?_⟩,fun y c e=>?_,I.free,I.dw,fun p hp=>?_,tracked ⟨oL,hoL,I.free⟩ hs,by simpa using I.len⟩ ⟨_,hs,.inl rfl⟩
  ·exact(hs.2 b (QF (Qy (Qh e) I.ok.above))).trans (I.base.keep b o e n hb hx)
  ·obtain⟨sl,e1⟩:=I.base.slot b o e n hb hx;exact⟨sl,(hs.2 b (QF (Qy (Qh e) I.ok.above))).trans e1⟩
  ·obtain⟨o',e1⟩:=I.base.there b o e hx;exact⟨o',(hs.2 b (QF (Qy (Qh e) I.ok.above))).trans e1⟩
  ·by_cases hj:j=i
   ·subst hj;rw[hi]at e1;cases e1;rw[Qz hiσ]at e2;cases e2;exact⟨u,r,.inl ⟨hk,by simp⟩⟩
   ·rw[Dk (Ne.symm hj)]at e2;obtain⟨u',r',q⟩:=hl j y v' e1 e2 e3;refine⟨u',r',?_⟩;rcases q with⟨k,e⟩ | ⟨k,c,e,z⟩
    ·refine .inl ⟨k,?_⟩;have:y≠x:=fun e=>hj (rB hN e1 (e▸hi));simp[this,e]
    ·exact .inr ⟨k,c,e,z.sameBut hs (cne y c e)⟩
  ·obtain⟨w',z⟩:=I.cell y c e;exact⟨w',z.sameBut hs (cne y c e)⟩
  ·obtain⟨e,n,ne,nf,d⟩:=I.pin p hp;exact⟨(hs.2 p.1 ne).trans e,n,ne,nf,d⟩
 ·have hfn:X.fn x=true:=by
   rcases hf with z | z
   ·exact z
   ·rw[z]at hk;cases hk
  obtain⟨c,hc⟩:=I.ok.has x (.inl hk);obtain⟨w',z⟩:=I.cell x c hc;refine wpAny_storeName_cell I.ok.kind hk hc z (fun h' hc' hs=>?_);obtain⟨oc,hoc,OJ⟩:=id z;refine h { s with heap:=h' } ⟨I.ok,I.os,I.bare,⟨fun b o e n hb hx=>?_,fun b o e n hb hx=>?_,I.base.free,fun b o e hx=>?_,I.base.tups,I.base.kB,I.base.oA⟩,⟨m,hn.sameBut hs (Ne.symm (cne x c hc)),fun j y v' e1 e2 e3=>?_⟩,fun y c' e=>?_,I.free,I.dw,fun p hp=>?_,tracked ⟨oc,hoc,I.dw x c hc⟩ hs,by simpa using I.len⟩ ⟨c,hs,.inr hc⟩
  ·exact(hs.2 b (QF (Qy (Qh e) (I.ok.cab x c hfn hc)))).trans (I.base.keep b o e n hb hx)
  ·obtain⟨sl,e1⟩:=I.base.slot b o e n hb hx;exact⟨sl,(hs.2 b (QF (Qy (Qh e) (I.ok.cab x c hfn hc)))).trans e1⟩
  ·obtain⟨o',e1⟩:=I.base.there b o e hx;exact⟨o',(hs.2 b (QF (Qy (Qh e) (I.ok.cab x c hfn hc)))).trans e1⟩
  ·by_cases hj:j=i
   ·subst hj;rw[hi]at e1;cases e1;rw[Qz hiσ]at e2;cases e2;exact⟨u,r,.inr ⟨.inl hk,c,hc,hc'⟩⟩
   ·rw[Dk (Ne.symm hj)]at e2;obtain⟨u',r',q⟩:=hl j y v' e1 e2 e3;refine⟨u',r',?_⟩;rcases q with q | ⟨k,c',e,z'⟩
    ·exact .inl q
    ·refine .inr ⟨k,c',e,z'.sameBut hs ?_⟩;rintro rfl;exact hj (rB hN e1 (I.ok.inj _ _ _ e hc▸hi))
  ·by_cases hcc:c'=c
   ·subst hcc;exact⟨_,hc'⟩
   ·obtain⟨w2,z2⟩:=I.cell y c' e;exact⟨w2,z2.sameBut hs hcc⟩
  ·obtain⟨e,n,ne,nf,d⟩:=I.pin p hp;refine⟨(hs.2 p.1 ?_).trans e,n,ne,nf,d⟩;intro q;rw[q,hoc]at e;have q':oc=p.2:=Option.some.inj e;exact d w' (by rw[<- q'];exact OJ)
theorem rC{M:Model}{A:Around}{E:Value->Shared->Prop}{Q:Unit->Shared->Prop}(I:Inv X qL σ H s)(hN:X.N.Nodup)(hi:X.N[i]?=some x)(hx:Loc X.env.scope x)(r:RelV v u)
  (h:∀s',Inv X qL (σ.set i (some v)) H s'->Q () s') (hf:X.fn x=true\/X.env.scope.names.lookup x=some .local:=by trivial):wpAny M A (storeName X.env x u) Q E s:=
 oS I hN hi hx r (fun s' I' _=>h s' I') hf
theorem Inv.L0{s':Shared}(I:Inv X qL σ H s)(ho:s'.os=s.os)(u:Un (frs X.stack) ch H H' s.heap s'.heap)(hok:HOk X.prog X.w H' s'.heap)(hg:AllBare s'.gens)
  (hch:∀b∈ch,(b∈X.ex\/X.s₀.heap.objs.size<=b)/\b≠X.env.locals/\(∀x c,X.env.cells.lookup x=some c->c≠b)/\∀p∈X.pn++qL,p.1≠b):Inv X qL σ H' s':=by
 obtain⟨h',g',d',t',o'⟩:=s';have e:o'=s.os:=ho;subst e;exact I.call (g':=g') (t':=t') (d':=d') u hok hg hch
end
end
noncomputable abbrev XK:=Value->Option Addr->Hp->Prop
noncomputable abbrev St:=List (Option V)
noncomputable abbrev VK:=V->Hp->Prop
noncomputable abbrev TE:=St->Hp->VK->Prop
noncomputable abbrev TT:=St->Hp->(Bool->Hp->Prop)->Prop
noncomputable abbrev TA:=St->Hp->(List V->Hp->Prop)->Prop
structure Ends where
 nx:St->Hp->Prop
 rt:VK
 bk:St->Hp->Prop:=fun _ _=>False
 ct:St->Hp->Prop:=fun _ _=>False
noncomputable abbrev TS:=Ends->St->Hp->Prop
def EP(X:Cx)(qL:List (Addr×Obj))(σ:St)(Q:VK)(u:Value)(s':Shared):Prop:=∃v H',Inv X qL σ H' s'/\RelV v u/\Q v H'
def TP(X:Cx)(qL:List (Addr×Obj))(σ:St)(Q:Bool->Hp->Prop)(b:Bool)(s':Shared):Prop:=∃H',Inv X qL σ H' s'/\Q b H'
def AP(X:Cx)(qL:List (Addr×Obj))(σ:St)(Q:List V->Hp->Prop)(us:List Value)(s':Shared):Prop:=∃vs H',Inv X qL σ H' s'/\Vals vs us/\Q vs H'
def SP(X:Cx)(qL:List (Addr×Obj))(D:Ends)(f:Flow)(s':Shared):Prop:=
 match f with
 |.next=>∃σ' H',Inv X qL σ' H' s'/\D.nx σ' H'
 |.brk=>∃σ' H',Inv X qL σ' H' s'/\D.bk σ' H'
 |.cont=>∃σ' H',Inv X qL σ' H' s'/\D.ct σ' H'
 |.ret u=>∃v σ' H',Inv X qL σ' H' s'/\RelV v u/\D.rt v H'
def PE(X:Cx)(e:Expr)(t:TE):Prop:=
 ∀(qL:List (Addr×Obj)) (s:Shared) (σ:St) (H:Hp) (Q:VK),Inv X qL σ H s->t σ H Q->wpAny (model X.prog X.w) X.A (eval e X.env) (EP X qL σ Q) X.xe s
def PT(X:Cx)(e:Expr)(t:TT):Prop:=
 ∀(qL:List (Addr×Obj)) (s:Shared) (σ:St) (H:Hp) (Q:Bool->Hp->Prop),Inv X qL σ H s->t σ H Q->wpAny (model X.prog X.w) X.A (isTrue e X.env (eval e X.env)) (TP X qL σ Q) X.xe s
def PW(X:Cx)(e:Expr)(t:TT):Prop:=
 ∀(whole:Sem Value) (qL:List (Addr×Obj)) (s:Shared) (σ:St) (H:Hp) (Q:Bool->Hp->Prop),Inv X qL σ H s->t σ H Q->wpAny (model X.prog X.w) X.A (isTrue e X.env whole) (TP X qL σ Q) X.xe s
theorem PW.pt{X:Cx}{e:Expr}{t:TT}(h:PW X e t):PT X e t:=h _
def PA(X:Cx)(es:List Expr)(t:TA):Prop:=
 ∀(pos:Pos) (qL:List (Addr×Obj)) (s:Shared) (σ:St) (H:Hp) (Q:List V->Hp->Prop),Inv X qL σ H s->t σ H Q->wpAny (model X.prog X.w) X.A (spliced (backTo pos (starEach es X.env))) (AP X qL σ Q) X.xe s
def PS(X:Cx)(st:Stmt)(t:TS):Prop:=
 ∀(qL:List (Addr×Obj)) (s:Shared) (σ:St) (H:Hp) (D:Ends),Inv X qL σ H s->t D σ H->wpAny (model X.prog X.w) X.A (exec st X.env) (SP X qL D) X.xe s
def PSs(X:Cx)(st:List Stmt)(t:TS):Prop:=
 ∀(qL:List (Addr×Obj)) (s:Shared) (σ:St) (H:Hp) (D:Ends),Inv X qL σ H s->t D σ H->wpAny (model X.prog X.w) X.A (execs st X.env) (SP X qL D) X.xe s
theorem thn{α:Type}{t:Sem α}{Q Q':α->Shared->Prop}{M:Model}{A:Around}{E:Value->Shared->Prop}{s:Shared}(h:wpAny M A t Q E s)(hQ:∀a s,Q a s->Q' a s):wpAny M A t Q' E s:=wpAny_mono h hQ fun _ _ x=>x
section
variable{X:Cx}
section
variable{Q:Value->Shared->Prop}{qL:List (Addr×Obj)}{u:Value}{x:Str}{s:Shared}{t:TE}{H:Hp}{σ:St}{v:V}
def b5(i:Nat):TE:=fun σ H Q=>∃v,σ[i]?=some (some v)/\Q v H
def tC(v:V):TE:=fun _ H Q=>Q v H
theorem bz{i:Nat}{pos:Pos}(hN:X.N[i]?=some x)(hv:Vis X.env.scope x)(hd:(x == ("__debug__" : Str))=false:=by decide)(Nt:(x == ("__classdict__" : Str))=false:=by decide):PE X (.Name x pos) (b5 i):=by
 intro qL s σ H Q I h;obtain⟨v,e,h⟩:=h;obtain⟨m,hn,hl⟩:=I.loc;obtain⟨u,r,l⟩:=hl i x v hN e hv;have Nr:EP X qL σ Q u s:=⟨v,H,I,r,h⟩
 rcases l with⟨hk,hm⟩ | ⟨hk,c,hc,hcell⟩
 ·exact wpAny_Name (wpAny_loadName_local I.ok.kind hk hn hm Nr) hd
 ·rcases hk with hk | hk
  ·exact wpAny_Name (wpAny_loadName_cell I.ok.kind hk hc hcell Nr) hd
  ·exact wpAny_Name (wpAny_loadName_free I.ok.kind hk hc hcell Nr Nt) hd
theorem Ih{i j pos}:PE X (.Constant (.int i) j pos) (tC (.int i)):=fun _ _ _ H _ I h=>wpAny_Constant_int ⟨.int i,H,I.tok _,⟨_,rfl⟩,h⟩
theorem L1{b j pos}:PE X (.Constant (.bool b) j pos) (tC (.bl b)):=fun _ _ _ H _ I h=>Constant_bool ⟨.bl b,H,I,rfl,h⟩
theorem Ii{j pos}:PE X (.Constant .none j pos) (tC .non):=fun _ _ _ H _ I h=>Constant_none ⟨.non,H,I,rfl,h⟩
def Gl(X:Cx)(x:Str):Prop:=X.env.kindOf x=some .globalImplicit
theorem p6{E:Value->Shared->Prop}{pos:Pos}(I:Inv X qL σ H s)(hg:Gl X x)(hm:X.mg x=some u)(h:Q u s)
  (hd:(x == ("__debug__" : Str))=false:=by decide):wpAny (model X.prog X.w) X.A (eval (.Name x pos) X.env) Q E s:=
 Calls.Name_function_global I.ok.kind hg (Calls.loadGlobal_global (by rw[I.ok.glob];exact I.mod.glob.keeps I.bk) hm h) hd
theorem cB{E:Value->Shared->Prop}{pos:Pos}(I:Inv X qL σ H s)(hg:Gl X x)(hm:X.mg x=none)(hv:bootBuiltins x=some u)(h:Q u s)
  (hn:x ≠ "__name__" := by decide) (hd:(x == ("__debug__" : Str))=false:=by decide):wpAny (model X.prog X.w) X.A (eval (.Name x pos) X.env) Q E s:=by
 obtain⟨mb,h1,h2⟩:=I.mod.blt;exact Calls.Name_function_global I.ok.kind hg (Calls.loadGlobal_builtin (by rw[I.ok.glob];exact I.mod.glob.keeps I.bk) hm (by rw[I.ok.blt];exact h1.keeps I.bk) ((h2 x hn).trans hv) h) hd
theorem DY{pos:Pos}(hg:Gl X x)(hm:X.mg x=some u)(r:RelV v u)(hd:(x == ("__debug__" : Str))=false:=by decide):PE X (.Name x pos) (tC v):=
 fun _ _ _ H _ I h=>p6 I hg hm ⟨v,H,I,r,h⟩ hd
theorem DZ{pos:Pos}(hg:Gl X x)(hm:X.mg x=none)(hv:bootBuiltins x=some u)(r:RelV v u)(hn:x ≠ "__name__" := by decide)(hd:(x == ("__debug__" : Str))=false:=by decide):PE X (.Name x pos) (tC v):=
 fun _ _ _ H _ I h=>cB I hg hm hv ⟨v,H,I,r,h⟩ hn hd
variable{a b:Expr}{ta tb:TE}{pos:Pos}
def PC(X:Cx)(op:CmpOp)(a b:Expr)(t:TE):Prop:=
 ∀(qL:List (Addr×Obj)) (s:Shared) (σ:St) (H:Hp) (Q:VK),Inv X qL σ H s->t σ H Q ->
  wpAny (model X.prog X.w) X.A (eval a X.env) (fun v s₁=>wpAny (model X.prog X.w) X.A (eval b X.env) (fun u s₂=>wpAny (model X.prog X.w) X.A (compareOp op v u) (EP X qL σ Q) X.xe s₂) X.xe s₁) X.xe s
def tB(t:TE):TT:=fun σ H Q=>t σ H fun x H1=>∃c,x=.bl c/\Q c H1
theorem zV{op:CmpOp}(h:PC X op a b t)(h1:behindInMarks op b=false:=by first | exact L3 _ (by decide) (by decide) | rfl):PT X (.Compare a [op] [b] pos) (tB t):=by intro qL s σ H Q I hw;refine wpAny_isTrue_Compare1 (thn (h qL s σ H _ I hw) fun v s1 h1=>thn h1 fun u s2 h2=>thn h2 fun c s3 ⟨x,H1,I1,r1,q1⟩=>?_) h1;obtain⟨d,rfl,q⟩:=q1;cases r1;exact wpAny_truthy_bool ⟨H1,I1,q⟩
theorem Ij{e:Expr}(h:PE X e t)(he:∀whole,isTrue e X.env whole=(do let v <- whole;standAt e.pos;holding [v] (truthy v)):=by intro _;rfl):PT X e (tB t):=by intro qL s σ H Q I hw;refine isTrue_plain (thn (h qL s σ H _ I hw) fun v s1 ⟨x,H1,I1,r1,q1⟩=>?_) (he _);obtain⟨d,rfl,q⟩:=q1;cases r1;exact wpAny_truthy_bool ⟨H1,I1,q⟩
variable{tA tB':TT}{Fi:List Expr}
def kC(t u:TT):TT:=fun σ H Q=>t σ H fun c H1=>if c=true then u σ H1 Q else Q false H1
def tOr(t u:TT):TT:=fun σ H Q=>t σ H fun c H1=>if c=true then Q true H1 else u σ H1 Q
def dj(t:TT):TT:=fun σ H Q=>t σ H fun c H1=>Q (!c) H1
theorem pw_and1(ha:PT X a tA):PW X (.BoolOp .And [a] pos) tA:=by
 intro wh qL s σ H Q I h;refine isTrue_and (thn (ha qL s σ H Q I h) fun c s1 e=>?_);cases c with
 |true=>exact isTrue_and_nil e
 |false=>exact e
theorem pw_or1(ha:PT X a tA):PW X (.BoolOp .Or [a] pos) tA:=by
 intro wh qL s σ H Q I h;refine isTrue_or (thn (ha qL s σ H Q I h) fun c s1 e=>?_);cases c with
 |false=>exact isTrue_or_nil e
 |true=>exact e
theorem pw_and(ha:PT X a tA)(hb:PW X (.BoolOp .And (b::Fi) pos) tB'):PW X (.BoolOp .And (a::b::Fi) pos) (kC tA tB'):=by
 intro wh qL s σ H Q I h;refine isTrue_and (thn (ha qL s σ H _ I h) fun c s1 ⟨H1,I1,q1⟩=>?_);cases c with
 |true=>exact hb wh qL s1 σ H1 Q I1 q1
 |false=>exact⟨H1,I1,q1⟩
theorem pw_or(ha:PT X a tA)(hb:PW X (.BoolOp .Or (b::Fi) pos) tB'):PW X (.BoolOp .Or (a::b::Fi) pos) (tOr tA tB'):=by
 intro wh qL s σ H Q I h;refine isTrue_or (thn (ha qL s σ H _ I h) fun c s1 ⟨H1,I1,q1⟩=>?_);cases c with
 |true=>exact⟨H1,I1,q1⟩
 |false=>exact hb wh qL s1 σ H1 Q I1 q1
theorem Ik(ha:PT X a tA):PT X (.UnaryOp .Not a pos) (dj tA):=by intro qL s σ H Q I h;exact isTrue_not (ha qL s σ H (fun c H1=>Q (!c) H1) I h)
def Gk(ta tb:TE):TE:=fun σ H Q=>ta σ H fun x H1=>∃c,x=.bl c/\if c=true then tb σ H1 Q else Q (.bl false) H1
def Gm(ta:TE):TE:=fun σ H Q=>ta σ H fun x H1=>∃c,x=.bl c/\Q (.bl (!c)) H1
theorem Il{op}(h:PE X a t):PE X (.BoolOp op [a] pos) t:=fun qL s σ H Q I hw=>BoolOp_one (h qL s σ H Q I hw)
theorem Im(ha:PE X a ta)(hb:PE X (.BoolOp .And (b::Fi) pos) tb):PE X (.BoolOp .And (a::b::Fi) pos) (Gk ta tb):=by
 intro qL s σ H Q I h;refine BoolOp_and (thn (ha qL s σ H _ I h) fun v s1 ⟨x,H1,I1,r1,q1⟩=>?_);obtain⟨c,rfl,q1⟩:=q1;cases r1;refine wpAny_truthy_bool ?_;cases c with
 |true=>exact hb qL s1 σ H1 Q I1 q1
 |false=>exact⟨.bl false,H1,I1,rfl,q1⟩
theorem Io(ha:PE X a ta):PE X (.UnaryOp .Not a pos) (Gm ta):=by intro qL s σ H Q I h;refine UnaryOp_ (thn (ha qL s σ H _ I h) fun v s1 ⟨x,H1,I1,r1,q1⟩=>?_);obtain⟨c,rfl,q1⟩:=q1;cases r1;exact not_of (wpAny_truthy_bool ⟨.bl (!c),H1,I1,rfl,q1⟩)
def tIf(t:TT)(ta tb:TE):TE:=fun σ H Q=>t σ H fun c H1=>if c=true then ta σ H1 Q else tb σ H1 Q
theorem zW{c:Expr}(hc:PT X c tA)(ha:PE X a ta)(hb:PE X b tb):PE X (.IfExp c a b pos) (tIf tA ta tb):=by
 intro qL s σ H Q I h;refine wpAny_IfExp (thn (hc qL s σ H _ I h) fun d s1 ⟨H1,I1,q1⟩=>?_);cases d with
 |true=>exact ha qL s1 σ H1 Q I1 q1
 |false=>exact hb qL s1 σ H1 Q I1 q1
end
end
def SqL(K:Ds)(H:Hp)(a:Addr)(xs:List V):Prop:=
 Rd H a (.lst xs) \/
  ∃(o:Obj) (its:Array Value) (n:Nat),K.lookup a=some o/\o.cls=.type "list" /\ o.dict=none/\o.data=.seq its n/\its.size<=sizeLine/\Vals xs its.toList
def SqT(K:Ds)(H:Hp)(a:Addr)(xs:List V):Prop:=
 Rd H a (.tup xs) \/
  ∃(o:Obj) (its:Array Value) (n:Nat),K.lookup a=some o/\o.cls=.type "tuple" /\ o.data=.seq its n/\its.size<=sizeLine/\Vals xs its.toList
noncomputable def OL:Value->Option V
 |.none=>some .non
 |.bool b=>some (.bl b)
 |.int i _=>some (.int i)
 |.str x _=>some (.str x)
 |.bytes b _=>some (.byt b)
 |.float b _=>some (.flt b)
 |.ref a=>some (.ref a)
 |.type n=>some (.ty n)
 |_=>none
theorem RelV.abs{x:V}{u:Value}(r:RelV x u):OL u=some x:=by
 cases x with
 |non=>cases r;rfl
 |bl _=>cases r;rfl
 |int _=>obtain⟨t,rfl⟩:=r;rfl
 |str _=>obtain⟨t,rfl⟩:=r;rfl
 |byt _=>obtain⟨t,rfl⟩:=r;rfl
 |flt _=>obtain⟨t,rfl⟩:=r;rfl
 |ref _=>cases r;rfl
 |ty _=>cases r;rfl
theorem RelV.inj{x y:V}{u:Value}(r:RelV x u)(q:RelV y u):x=y:=Option.some.inj (r.abs.symm.trans q.abs)
theorem Vals.inj:∀{xs ys:List V} {us:List Value},Vals xs us->Vals ys us->xs=ys
 |_,_,_,.nil,.nil=>rfl
 |_,_,_,.cons r t,.cons r' t'=>by rw[r.inj r',Vals.inj t t']
section
variable{X:Cx}{qL:List (Addr×Obj)}{σ:St}{H:Hp}{s:Shared}{a:Addr}{xs ys:List V}
theorem SqT.of{K:Ds}(h:H a=some (.tup xs)):SqT K H a xs:=.inl (.inl h)
theorem Inv.list(I:Inv X qL σ H s)(h:SqL X.K H a xs):∃its:List Value,Vals xs its/\PlainL s.heap a its.toArray/\xs.length<=sizeLine:=by
 rcases h with h | ⟨o,its,n,hk,hc,hd,hs,hz,r⟩
 ·obtain⟨z,its,n,r,e⟩:=h.ok I.hok;exact⟨its,r,⟨_,n,e,rfl,rfl,rfl⟩,z⟩
 ·refine⟨its.toList,r,⟨o,n,I.kIn a o hk,hc,hd,by simpa using hs⟩,?_⟩;have e:=r.length;simp only[R6]at e
  lia
theorem Inv.tuple(I:Inv X qL σ H s)(h:SqT X.K H a xs):∃its:List Value,Vals xs its/\IsTup s.heap a its.toArray/\xs.length<=sizeLine:=by
 rcases h with h | ⟨o,its,n,hk,hc,hs,hz,r⟩
 ·obtain⟨z,its,r,p⟩:=h.ok I.hok;exact⟨its,r,p,z⟩
 ·refine⟨its.toList,r,⟨o,I.kIn a o hk,hc,n,by simpa using hs⟩,?_⟩;have e:=r.length;simp only[R6]at e
  lia
theorem Inv.eY(I:Inv X qL σ H s)(h:SqL X.K H a xs)(h':SqL X.K H a ys):xs=ys:=by
 obtain⟨its,r,⟨o,n,e,_,_,d⟩,_⟩:=I.list h;obtain⟨its',r',⟨o',n',e',_,_,d'⟩,_⟩:=I.list h';rw[e]at e';cases e';rw[d]at d';injection d' with d1 _
 have:its=its':=by simpa using congrArg Array.toList d1
 subst this;exact r.inj r'
theorem Inv.yt(I:Inv X qL σ H s)(h:SqT X.K H a xs)(h':SqT X.K H a ys):xs=ys:=by
 obtain⟨its,r,⟨o,e,_,n,d⟩,_⟩:=I.tuple h;obtain⟨its',r',⟨o',e',_,n',d'⟩,_⟩:=I.tuple h';rw[e]at e';cases e';rw[d]at d';injection d' with d1 _
 have:its=its':=by simpa using congrArg Array.toList d1
 subst this;exact r.inj r'
end
noncomputable abbrev Cx.oB(X:Cx)(E:Value->Shared->Prop):Cx:={ X with xe:=E }
noncomputable abbrev Cx.nox(X:Cx):Cx:=X.oB fun _ _=>False
theorem Cx.Ok.oB{X:Cx}(ok:X.Ok)(E:Value->Shared->Prop):(X.oB E).Ok:=
 ⟨ok.mod,ok.kind,ok.glob,ok.blt,ok.above,ok.inj,ok.has,ok.cab,ok.hd,ok.frames,ok.stk,ok.exf,ok.bs,ok.bsz,ok.zU,ok.DX,ok.kX,ok.frf⟩
theorem Cx.Ok.eZ{X:Cx}{E:Value->Shared->Prop}(ok:(X.oB E).Ok):X.Ok:=
 ⟨ok.mod,ok.kind,ok.glob,ok.blt,ok.above,ok.inj,ok.has,ok.cab,ok.hd,ok.frames,ok.stk,ok.exf,ok.bs,ok.bsz,ok.zU,ok.DX,ok.kX,ok.frf⟩
section
variable{X:Cx}{qL:List (Addr×Obj)}{σ:St}{H:Hp}{s:Shared}{E:Value->Shared->Prop}
theorem Inv.oB(I:Inv X qL σ H s)(E:Value->Shared->Prop):Inv (X.oB E) qL σ H s:=⟨I.ok.oB E,I.os,I.bare,I.base,I.loc,I.cell,I.free,I.dw,I.pin,I.hok,I.len⟩
theorem Inv.eZ(I:Inv (X.oB E) qL σ H s):Inv X qL σ H s:=⟨I.ok.eZ,I.os,I.bare,I.base,I.loc,I.cell,I.free,I.dw,I.pin,I.hok,I.len⟩
theorem SP.eZ{D:Ends}{f:Flow}{s':Shared}(h:SP (X.oB E) qL D f s'):SP X qL D f s':=by
 cases f with
 |next=>obtain⟨σ',H',I,q⟩:=h;exact⟨σ',H',I.eZ,q⟩
 |brk=>obtain⟨σ',H',I,q⟩:=h;exact⟨σ',H',I.eZ,q⟩
 |cont=>obtain⟨σ',H',I,q⟩:=h;exact⟨σ',H',I.eZ,q⟩
 |ret u=>obtain⟨v,σ',H',I,r,q⟩:=h;exact⟨v,σ',H',I.eZ,r,q⟩
theorem PSs.nox{st:List Stmt}{t:TS}(h:PSs X.nox st t):PSs X st t:=fun qL s σ H D I hw=>wpAny_mono (h qL s σ H D (I.oB _) hw) (fun _ _ q=>q.eZ) fun _ _ z=>QN z
end
section
variable{X:Cx}{st:Stmt}{Fi:List Stmt}{t u:TS}{e:Expr}{te:TE}{pos:Pos}
def zX:TS:=fun D σ H=>D.nx σ H
def jo(t u:TS):TS:=fun D σ H=>t { D with nx:=u D } σ H
theorem wD:PSs X [] zX:=fun _ _ σ H _ I h=>wpAny_execs_nil ⟨σ,H,I,h⟩
theorem bP(h1:PS X st t)(h2:PSs X Fi u):PSs X (st::Fi) (jo t u):=by
 intro qL s σ H D I h;refine wpAny_execs_cons (thn (h1 qL s σ H { D with nx:=u D } I h) fun f s1 q=>?_);cases f with
 |next=>obtain⟨σ',H',I',q⟩:=q;exact h2 qL s1 σ' H' D I' q
 |ret v=>exact q
 |brk=>exact q
 |cont=>exact q
theorem fN(h1:PS X st t):PSs X [st] t:=by
 intro qL s σ H D I h;refine wpAny_execs_cons (thn (h1 qL s σ H D I h) fun f s1 q=>?_);cases f with
 |next=>exact wpAny_execs_nil q
 |ret v=>exact q
 |brk=>exact q
 |cont=>exact q
theorem Inv.quiet{qL:List (Addr×Obj)}{σ:St}{H:Hp}{s:Shared}(I:Inv X qL σ H s):interactive X.env=false:=by simp[interactive,I.ok.kind]
def e8(te:TE):TS:=fun D σ H=>te σ H fun _ H1=>D.nx σ H1
theorem fO(he:PE X e te)(hs:swapsWith e none pos.line X.env=pure false:=by rfl):PS X (.Expr e pos) (e8 te):=by intro qL s σ H D I h;exact wpAny_Expr_any (thn (he qL s σ H _ I h) fun v s1 ⟨x,H1,I1,r1,q1⟩=>⟨σ,H1,I1,q1⟩) I.quiet hs
def L4(te:TE):TS:=fun D σ H=>te σ H D.rt
theorem Ip(he:PE X e te):PS X (.Return (some e) pos) (L4 te):=by intro qL s σ H D I h;exact wpAny_Return_some (thn (he qL s σ H _ I h) fun v s1 ⟨x,H1,I1,r1,q1⟩=>⟨x,σ,H1,I1,r1,q1⟩)
def D0(c:TT)(t u:TS):TS:=fun D σ H=>c σ H fun b H1=>if b=true then t D σ H1 else u D σ H1
theorem zY{c:Expr}{a b:List Stmt}{tc:TT}(hc:PT X c tc)(ha:PSs X a t)(hb:PSs X b u):PS X (.If c a b pos) (D0 tc t u):=by
 intro qL s σ H D I h;refine wpAny_If (thn (hc qL s σ H _ I h) fun d s1 ⟨H1,I1,q1⟩=>?_);cases d with
 |true=>exact ha qL s1 σ H1 D I1 q1
 |false=>exact hb qL s1 σ H1 D I1 q1
def Iq:TS:=fun _ _ _=>False
theorem zZ:PS X st Iq:=fun _ _ _ _ _ _ h=>h.elim
end
noncomputable abbrev TG:=V->St->Hp->(St->Hp->Prop)->Prop
noncomputable abbrev TGs:=List V->St->Hp->(St->Hp->Prop)->Prop
def PG(X:Cx)(target:Expr)(t:TG):Prop:=
 ∀(qL:List (Addr×Obj)) (s:Shared) (σ:St) (H:Hp) (v:V) (u:Value) (Q:St->Hp->Prop),Inv X qL σ H s->RelV v u->t v σ H Q ->
  wpAny (model X.prog X.w) X.A (assign target X.env u) (fun _ s'=>∃σ' H',Inv X qL σ' H' s'/\Q σ' H') X.xe s
def PGs(X:Cx)(ts:List Expr)(t:TGs):Prop:=
 ∀(qL:List (Addr×Obj)) (s:Shared) (σ:St) (H:Hp) (vs:List V) (us:List Value) (Q:St->Hp->Prop),Inv X qL σ H s->Vals vs us->t vs σ H Q ->
  wpAny (model X.prog X.w) X.A (assignInOrder ((assignEach ts X.env).map (·.2)) us) (fun _ s'=>∃σ' H',Inv X qL σ' H' s'/\Q σ' H') X.xe s
noncomputable abbrev Ir:=V->V->V->Hp->(Hp->Prop)->Prop
def L5(X:Cx)(t:Ir):Prop:=
 ∀(qL:List (Addr×Obj)) (s:Shared) (σ:St) (H:Hp) (o i v:V) (ov iv u:Value) (Q:Hp->Prop),Inv X qL σ H s->RelV o ov->RelV i iv->RelV v u->t o i v H Q ->
  wpAny (model X.prog X.w) X.A (setItem ov iv u) (fun _ s'=>∃H',Inv X qL σ H' s'/\Q H') X.xe s
section
variable{X:Cx}{pos:Pos}
section
variable{es:List Expr}{e:Expr}{x:Str}{i:Nat}{te:TE}
def b7(i:Nat):TG:=fun v σ H Q=>Q (σ.set i (some v)) H
theorem kH(hN:X.N.Nodup)(hi:X.N[i]?=some x)(hx:Loc X.env.scope x)(hf:X.fn x=true\/X.env.scope.names.lookup x=some .local:=by trivial):PG X (.Name x pos) (b7 i):=by intro qL s σ H v u Q I r h;exact wpAny_assign_Name (rC I hN hi hx r (fun s' I'=>⟨_,H,I',h⟩) hf)
def L6:TGs:=fun vs σ H Q=>vs=[]/\Q σ H
def Gn(t:TG)(u:TGs):TGs:=fun vs σ H Q=>∃v r,vs=v::r/\t v σ H fun σ' H'=>u r σ' H' Q
theorem D3:PGs X [] L6:=by intro qL s σ H vs us Q I r h;obtain⟨e,h⟩:=h;subst e;cases r;exact assignInOrder_nil ⟨σ,H,I,h⟩
theorem z0{t:TG}{u:TGs}(h1:PG X e t)(h2:PGs X es u)
  (hs:(assignEach (e::es) X.env).map (·.2)=assign e X.env::(assignEach es X.env).map (·.2):=by rfl):PGs X (e::es) (Gn t u):=by
 intro qL s σ H vs us Q I r h;obtain⟨v,vr,e1,h⟩:=h;subst e1;cases r with
 |cons r rr=>rw[hs];refine assignInOrder_cons (thn (h1 qL s σ H _ _ _ I r h) fun _ s1 ⟨σ1,H1,I1,q1⟩=>?_);exact h2 qL s1 σ1 H1 _ _ Q I1 rr q1
def L7(K:Ds)(n:Nat)(t:TGs):TG:=fun v σ H Q=>∃a xs,v=.ref a/\SqT K H a xs/\xs.length=n/\t xs σ H Q
theorem z4{k:Nat}{t:TGs}{n:Nat}(hc:X.calm=true)(h:PGs X es t)
  (hn:(assignEach es X.env).length=n:=by rfl) (hst:(assignEach es X.env).findIdx? (·.1)=none:=by rfl):PG X (.Tuple es k pos) (L7 X.K n t):=by
 intro qL s σ H v u Q I r hw;obtain⟨a,xs,e1,hq,hl,hw⟩:=hw;subst e1;cases r;obtain⟨its,rv,ht,hz⟩:=I.tuple hq;refine assign_Tuple_tuple (I.ok.hd hc) ht (by simp[hn,<- hl,rv.length]) hst fun h' hx=>?_;have I1:Inv X qL σ H { s with heap:=h' }:=I.kept (t':=s.toks) fun b o e=>hx b o (QF (Qh e)) e;exact h qL _ σ H xs _ Q I1 (by simpa using rv) hw
def jq(to ti:TE)(t:Ir):TG:=fun v σ H Q=>to σ H fun o H1=>ti σ H1 fun i H2=>t o i v H2 fun H3=>Q σ H3
theorem Iu{o i:Expr}{to ti:TE}{t:Ir}(ho:PE X o to)(hi:PE X i ti)(hs:L5 X t)
  (ha:∀ v,assign (.Subscript o i pos) X.env v=(do
   let ov <- holding [v] (eval o X.env)
   let iv <- holding [v,ov] (eval i X.env)
   standAt pos
   holding [v,ov,iv] (setItem ov iv v)
   release [v,ov,iv] []):=by intro _;rfl):PG X (.Subscript o i pos) (jq to ti t):=by
 intro qL s σ H v u Q I r h;rw[ha];refine wpAny_bind (wpAny_holding (thn (ho qL s σ H _ I h) fun ov s1 ⟨x,H1,I1,r1,q1⟩=>?_));refine wpAny_bind (wpAny_holding (thn (hi qL s1 σ H1 _ I1 q1) fun iv s2 ⟨y,H2,I2,r2,q2⟩=>?_));refine wpAny_bind (wpAny_standAt (wpAny_bind (wpAny_holding (thn (hs qL s2 σ H2 x y v ov iv u _ I2 r1 r2 r q2) fun _ s3 ⟨H3,I3,q3⟩=>?_))));exact wpAny_release ⟨σ,H3,I3,q3⟩
def kD(te:TE)(g:TG):TS:=fun D σ H=>te σ H fun x H1=>g x σ H1 D.nx
theorem Iv{tg e:Expr}{g:TG}(he:PE X e te)(hg:PG X tg g)(hs:swapsWithSole [tg] e pos.line X.env=pure false:=by rfl)(hw:swappedStores [tg] e X.env=pure none:=by rfl)
  (h1:(assignEach [tg] X.env).map (·.2)=[assign tg X.env]:=by rfl):PS X (.Assign [tg] e pos) (kD te g):=by
 intro qL s σ H D I h;refine wpAny_Assign_stores (thn (he qL s σ H _ I h) fun v s1 ⟨x,H1,I1,r1,q1⟩=>?_) hs hw;rw[h1];exact thn (hg qL s1 σ H1 x v _ I1 r1 q1) fun _ s2 q=>q
theorem uN{pos':Pos}(hN:X.N.Nodup)(hi:X.N[i]?=some x)(hx:Loc X.env.scope x)(he:PE X e te)(hs:swapsWith e (some (.Name x pos')) pos.line X.env=pure false:=by rfl)(hf:X.fn x=true\/X.env.scope.names.lookup x=some .local:=by trivial) :
  PS X (.Assign [.Name x pos'] e pos) (kD te (b7 i)):=by
 intro qL s σ H D I h;refine wpAny_Assign_Name (thn (he qL s σ H _ I h) fun v s1 ⟨y,H1,I1,r1,q1⟩=>?_) hs;exact rC I1 hN hi hx r1 (fun s2 I2=>⟨_,H1,I2,q1⟩) hf
end
end
section
variable{X:Cx}{pos:Pos}
def z5(c:TT)(tb:TS):TS:=fun D σ H=>∃W:Nat->St->Hp->Prop,(∃m,W m σ H)/\∀m σ H,W m σ H ->
 c σ H fun b H1=>if b=true then ∃N:St->Hp->Prop,(∀σ' H',N σ' H'->∃m',m'<m/\W m' σ' H')/\tb { D with nx:=N,ct:=N,bk:=D.nx } σ H1 else D.nx σ H1
theorem z6{c:Expr}{body:List Stmt}{tc:TT}{tb:TS}(hp:PassesOwn (model X.prog X.w) X.A X.env X.xe)(hc:PT X c tc)(hb:PSs X body tb):PS X (.While c body [] pos) (z5 tc tb):=by
 intro qL s σ H D I h;obtain⟨W,⟨m0,w0⟩,turn⟩:=h;refine wpAny_While (codeAny_whileLoop (fun n s'=>∃σ' H',Inv X qL σ' H' s'/\W n σ' H') ?_ m0 ⟨σ,H,I,w0⟩);rintro n s1 ⟨σ1,H1,I1,w1⟩;refine wpAny_passesOwn hp (thn (hc qL s1 σ1 H1 _ I1 (turn n σ1 H1 w1)) fun b s2 ⟨H2,I2,q2⟩=>?_);cases b with
 |true=>
  obtain⟨N,hN,q2⟩:=q2;rw[if_pos rfl];refine wpAny_passesOwn hp (thn (hb qL s2 σ1 H2 _ I2 q2) fun f s3 q3=>?_);cases f with
  |next=>obtain⟨σ3,H3,I3,n3⟩:=q3;obtain⟨m',hm,w3⟩:=hN σ3 H3 n3;exact⟨m',hm,σ3,H3,I3,w3⟩
  |cont=>obtain⟨σ3,H3,I3,n3⟩:=q3;obtain⟨m',hm,w3⟩:=hN σ3 H3 n3;exact⟨m',hm,σ3,H3,I3,w3⟩
  |brk=>exact q3
  |ret v=>exact q3
 |false=>rw[if_neg QE];exact wpAny_execs_nil ⟨σ1,H2,I2,q2⟩
end
section
variable{P:Program}{tg:Expr}{w:World}{s:Shared}
structure It where
 go:Nat->Hp->Prop
 yld:Nat->Hp->V->Hp->Prop
 stop:Nat->Hp->Prop
def oE(X:Cx)(qL:List (Addr×Obj))(H:Hp)(b:Addr):Prop:=
 H b=none/\b≠X.env.locals/\b∉X.fs/\(b∈X.ex\/X.s₀.heap.objs.size<=b)/\(∀x c,X.env.cells.lookup x=some c->c≠b)/\∀p∈X.pn++qL,p.1≠b
theorem Inv.p7{X:Cx}{qL:List (Addr×Obj)}{σ:St}{H H':Hp}{b:Addr}(I:Inv X qL σ H s)(hb:s.heap.objs.size<=b)(hn:H' b=none):oE X qL H' b:=by
 refine⟨hn,RO (Qy I.lt hb),I.OI hb,.inr (QO I.sz hb),fun x c e z=>?_,fun p hp z=>?_⟩
 ·obtain⟨v,q⟩:=I.cell x c e;exact absurd (Qy q.lt (by rw[z];exact hb)) (Q0 _)
 ·exact absurd (Qy (Qh (I.pin p hp).1) (by rw[z];exact hb)) (Q0 _)
structure Turn(P:Program)(w:World)(K:Ds)(tg:Expr)(J:It)(fp:List Addr)(it:Addr)(tn:Nat->Heap->Prop):Prop where
 mem:it∈fp
 obj:∀i h,tn i h->∀b∈fp,∃o,h.get? b=some o/\∀v,o.data≠.cell v
 keep:∀i h h',tn i h->(∀b∈fp,∀o,h.get? b=some o->h'.get? b=some o)->tn i h'
 item:∀(X:Cx),X.prog=P->X.w=w->X.K=K->X.calm=true->∀(i:Nat) (qL:List (Addr×Obj)) (s:Shared) (σ:St) (H:Hp) (E:Value->Shared->Prop),Inv X qL σ H s->(∀b∈fp,oE X qL H b)->tn i s.heap->J.go i H ->
  wpAny (model P w) X.A (pyNext (.ref it)) (fun r s1=>∃ u,r=some u ∧
   wpAny (model P w) X.A (letOwnedTupleGo tg (.ref it) u) (fun _ s2=>∃x H',Inv X qL σ H' s2/\RelV x u/\J.yld i H x H'/\tn (i+1) s2.heap/\∀b∈fp,H' b=none) E s1) E s
 done:∀(X:Cx),X.prog=P->X.w=w->X.K=K->X.calm=true->∀(i:Nat) (qL:List (Addr×Obj)) (s:Shared) (σ:St) (H:Hp) (E:Value->Shared->Prop),Inv X qL σ H s->(∀b∈fp,oE X qL H b)->tn i s.heap->J.stop i H ->
  wpAny (model P w) X.A (pyNext (.ref it)) (fun r s1=>r=none/\Inv X qL σ H s1) E s
 self:∀(A:Around) (i:Nat) (s:Shared) (Q:Value->Shared->Prop) (E:Value->Shared->Prop),tn i s.heap->Q (.ref it) s->wpAny (model P w) A (pyIter (.ref it)) Q E s
noncomputable abbrev TI:=St->Hp->(It->Hp->Prop)->Prop
def PIE(X:Cx)(qL:List (Addr×Obj))(σ:St)(tg:Expr)(R:It->Hp->Prop)(itv:Value)(s2:Shared):Prop:=
 ∃(it:Addr) (fp:List Addr) (tn:Nat->Heap->Prop) (J:It) (H':Hp),itv=.ref it/\Inv X qL σ H' s2/\Turn X.prog X.w X.K tg J fp it tn/\tn 0 s2.heap/\(∀b∈fp,oE X qL H' b)/\R J H'
def PI(X:Cx)(tg iter:Expr)(wi:TI):Prop:=
 ∀(qL:List (Addr×Obj)) (s:Shared) (σ:St) (H:Hp) (R:It->Hp->Prop),Inv X qL σ H s->wi σ H R ->
  wpAny (model X.prog X.w) X.A (eval iter X.env) (fun v s1=>wpAny (model X.prog X.w) X.A (pyIter v) (PIE X qL σ tg R) X.xe s1) X.xe s
theorem kY{M:Model}{A:Around}{E:Value->Shared->Prop}{tg:Expr}{it:Addr}{u:Value}{o:Obj}{n:String}{vs:Array Value}{Q:Unit->Shared->Prop}(ho:s.heap.get? it=some o)(hc:o.cls=.type n)(hd:o.data=.fields vs)
  (hn:["enumerate","zip","dict_itemiterator","dict_reverseitemiterator","odict_iterator","itertools.zip_longest","itertools.pairwise"].contains n=false) (hQ:Q () s):wpAny M A (letOwnedTupleGo tg (.ref it) u) Q E s:=by
 unfold letOwnedTupleGo;cases tg<;>first
  |exact wpAny_pure hQ
  | (cases u<;>first
    |exact wpAny_pure hQ
    | (refine wpAny_bind (wpAny_load ho ?_)
       rw[hc,hd];show wpAny M A (if (["enumerate","zip","dict_itemiterator","dict_reverseitemiterator","odict_iterator","itertools.zip_longest","itertools.pairwise"].contains n&&vs[0]? == some (rawInt _))=true then _ else _) Q E s;rw[if_neg (by intro h;rw[hn,Bool.false_and]at h;cases h)];exact wpAny_pure hQ))
noncomputable def Itl(K:Ds)(a:Addr):It:=
 ⟨fun i H=>∃xs x,SqL K H a xs/\xs[i]?=some x,fun i H x H'=>H'=H/\∀xs,SqL K H a xs->xs[i]?=some x,fun i H=>∃xs,SqL K H a xs/\xs.length<=i⟩
noncomputable def Itt(K:Ds)(a:Addr):It:=
 ⟨fun i H=>∃xs x,SqT K H a xs/\xs[i]?=some x,fun i H x H'=>H'=H/\∀xs,SqT K H a xs->xs[i]?=some x,fun i H=>∃xs,SqT K H a xs/\xs.length<=i⟩
noncomputable def Itr(lo:Int)(n:Nat):It:=⟨fun i _=>i<n,fun i H x H'=>H'=H/\x=.int (lo+i),fun i _=>n<=i⟩
theorem yu{K:Ds}(a it:Addr):Turn P w K tg (Itl K a) [it] it (fun i h=>h.IsListIter it a i) where
 mem:=by simp
 obj:=fun i h st b hb=>by
  have e:b=it:=by simpa using hb
  subst e;obtain⟨o,e,c,d⟩:=st;exact⟨o,e,fun v z=>by rw[d]at z;cases z⟩
 keep:=fun i h h' st k=>st.at fun o e=>k it (by simp) o e
 item:=by intro X hP hw hK hc i qL s σ H E I hf st hg;subst hP hw hK;obtain⟨xs,x,hq,hx⟩:=hg;obtain⟨its,rv,p,hz⟩:=I.list hq;obtain⟨u,hu,ru⟩:=rv.get hx;obtain⟨f0,f1,f2,f3,f4,f5⟩:=hf it (by simp);refine wpAny_pyNext_list_item st p.isList (x:=u) (by simpa using hu) fun h' st' sb=>?_;have I1:Inv X qL σ H { s with heap:=h' }:=I.turned (t':=s.toks) (fun b o hb e=>(sb.2 b hb).trans e) f0 f1 f3 f4 f5;obtain⟨o,e,c,d⟩:=id st';exact⟨u,rfl,kY (s:={ s with heap:=h' }) e c d (by decide) ⟨x,H,I1,ru,⟨rfl,fun ys hy=>by rw[I.eY hy hq];exact hx⟩,st',fun b hb=>(hf b hb).1⟩⟩
 done:=by intro X hP hw hK hc i qL s σ H E I hf st hg;subst hP hw hK;obtain⟨xs,hq,hx⟩:=hg;obtain⟨its,rv,p,hz⟩:=I.list hq;obtain⟨f0,f1,f2,f3,f4,f5⟩:=hf it (by simp);have hl:=rv.length;exact wpAny_pyNext_list_end (I.ok.hd hc) st p.isList (by simp;lia) fun h' eb=>⟨rfl,I.turned (t':=s.toks) (fun b o hb e=>eb b o hb e) f0 f1 f3 f4 f5⟩
 self:=fun _ _ _ _ _ st h=>wpAny_pyIter_listiter st h
theorem uO{K:Ds}(a it:Addr):Turn P w K tg (Itt K a) [it] it (fun i h=>h.IsTupleIter it a i) where
 mem:=by simp
 obj:=fun i h st b hb=>by
  have e:b=it:=by simpa using hb
  subst e;obtain⟨o,e,c,d⟩:=st;exact⟨o,e,fun v z=>by rw[d]at z;cases z⟩
 keep:=fun i h h' st k=>st.at fun o e=>k it (by simp) o e
 item:=by intro X hP hw hK hc i qL s σ H E I hf st hg;subst hP hw hK;obtain⟨xs,x,hq,hx⟩:=hg;obtain⟨its,rv,p,hz⟩:=I.tuple hq;obtain⟨u,hu,ru⟩:=rv.get hx;obtain⟨f0,f1,f2,f3,f4,f5⟩:=hf it (by simp);refine wpAny_pyNext_tuple_item st (show s.heap.IsTuple a its.toArray from p) (x:=u) (by simpa using hu) fun h' st' sb=>?_;have I1:Inv X qL σ H { s with heap:=h' }:=I.turned (t':=s.toks) (fun b o hb e=>(sb.2 b hb).trans e) f0 f1 f3 f4 f5;obtain⟨o,e,c,d⟩:=id st';exact⟨u,rfl,kY (s:={ s with heap:=h' }) e c d (by decide) ⟨x,H,I1,ru,⟨rfl,fun ys hy=>by rw[I.yt hy hq];exact hx⟩,st',fun b hb=>(hf b hb).1⟩⟩
 done:=by intro X hP hw hK hc i qL s σ H E I hf st hg;subst hP hw hK;obtain⟨xs,hq,hx⟩:=hg;obtain⟨its,rv,p,hz⟩:=I.tuple hq;obtain⟨f0,f1,f2,f3,f4,f5⟩:=hf it (by simp);have hl:=rv.length;exact wpAny_pyNext_tuple_end (I.ok.hd hc) st (show s.heap.IsTuple a its.toArray from p) (by simp;lia) fun h' eb=>⟨rfl,I.turned (t':=s.toks) (fun b o hb e=>eb b o hb e) f0 f1 f3 f4 f5⟩
 self:=fun _ _ _ _ _ st h=>wpAny_pyIter_tupleiter st h
theorem uP{K:Ds}(it:Addr)(lo:Int)(n:Nat):Turn P w K tg (Itr lo n) [it] it (fun i h=>IsRangeIter h it (lo+(i:Nat)*1) ((n:Int)-(i:Nat)) 1) where
 mem:=by simp
 obj:=fun i h st b hb=>by
  have e:b=it:=by simpa using hb
  subst e;exact ⟨_,st,fun v z=>by have z':S5 _=SD v:=z;cases z'⟩
 keep:=fun i h h' st k=>k it (by simp) _ st
 item:=by intro X hP hw hK hc i qL s σ H E I hf st hg;subst hP hw hK;obtain⟨f0,f1,f2,f3,f4,f5⟩:=hf it (by simp);have W:=Walks.range (prog:=X.prog) (w:=X.w) (I.ok.hd hc) it lo 1 n;refine W.item i s _ _ hg st fun v h' tk hv st' kk=>?_;obtain⟨t,rfl⟩:=hv;have I1:Inv X qL σ H { s with heap:=h',toks:=tk }:=I.turned (fun b o hb e=>kk b o (by simpa using hb) e) f0 f1 f3 f4 f5;refine⟨_,rfl,kY (s:={ s with heap:=h',toks:=tk }) (n := "range_iterator") st' rfl rfl (by decide) ⟨.int (lo+i),H,I1,⟨t,?_⟩,⟨rfl,rfl⟩,st',fun b hb=>(hf b hb).1⟩⟩;rw[Int.mul_one]
 done:=by intro X hP hw hK hc i qL s σ H E I hf st hg;subst hP hw hK;obtain⟨f0,f1,f2,f3,f4,f5⟩:=hf it (by simp);exact wpAny_pyNext_range_end (I.ok.hd hc) st (by have:n<=i:=hg;lia) fun h' eb=>⟨rfl,I.turned (t':=s.toks) (fun b o hb e=>eb b o hb e) f0 f1 f3 f4 f5⟩
 self:=fun _ _ _ _ _ st h=>wpAny_pyIter_rangeiter st h
end
section
variable{X:Cx}{tg:Expr}
section
variable{qL:List (Addr×Obj)}{fp:List Addr}{s:Shared}{H:Hp}{σ:St}{l:Expr}{h:Heap}{tl:TE}{ta:TA}
def jT(K:Ds)(tl:TE):TI:=fun σ H R=>tl σ H fun x H1=>∃a,x=.ref a/\(∃xs,SqL K H1 a xs)/\R (Itl K a) H1
def z7(K:Ds)(tl:TE):TI:=fun σ H R=>tl σ H fun x H1=>∃a,x=.ref a/\(∃xs,SqT K H1 a xs)/\R (Itt K a) H1
theorem p8(hl:PE X l tl):PI X tg l (jT X.K tl):=by
 intro qL s σ H R I h;refine thn (hl qL s σ H _ I h) fun v s1 ⟨x,H1,I1,r1,q1⟩=>?_;obtain⟨a,e,⟨xs,hq⟩,q⟩:=q1;subst e;cases r1;obtain⟨its,rv,p,hz⟩:=I1.list hq;refine wpAny_pyIter_list p.isList ?_;refine⟨s1.heap.objs.size,[s1.heap.objs.size],_,_,H1,rfl,I1.kept (t':=s1.toks) fun b o e=>Qc _ e,yu a _,⟨_,QA _ rfl,rfl,rfl⟩,fun b hb=>?_,q⟩;have e:b=s1.heap.objs.size:=by simpa using hb
 subst e;exact I1.p7 (Qf _) (I1.hok.fresh (Qf _))
theorem z8(hl:PE X l tl):PI X tg l (z7 X.K tl):=by
 intro qL s σ H R I h;refine thn (hl qL s σ H _ I h) fun v s1 ⟨x,H1,I1,r1,q1⟩=>?_;obtain⟨a,e,⟨xs,hq⟩,q⟩:=q1;subst e;cases r1;obtain⟨its,rv,p,hz⟩:=I1.tuple hq;refine wpAny_pyIter_tuple (show s1.heap.IsTuple a its.toArray from p) ?_;refine⟨s1.heap.objs.size,[s1.heap.objs.size],_,_,H1,rfl,I1.kept (t':=s1.toks) fun b o e=>Qc _ e,uO a _,⟨_,QA _ rfl,rfl,rfl⟩,fun b hb=>?_,q⟩;have e:b=s1.heap.objs.size:=by simpa using hb
 subst e;exact I1.p7 (Qf _) (I1.hok.fresh (Qf _))
theorem rD{R:It->Hp->Prop}{E:Value->Shared->Prop}{lo hi:Int}{t u v:Tok}{tk:Nat}(I:Inv X qL σ H s)(h1:-(2 ^ 62)<=lo)(h2:lo<2 ^ 62)(h3:-(2 ^ 62)<=hi)(h4:hi<2 ^ 62)
  (q:R (Itr lo (hi-lo).toNat) H):wpAny (model X.prog X.w) X.A (pyIter (.ref s.heap.objs.size)) (PIE X qL σ tg R) E { s with heap:=s.heap.push { cls:=.type "range",data:=.fields #[.int lo t,.int hi u,.int 1 v] },toks:=tk }:=by
 refine wpAny_pyIter_range (IsRange.new ..) (small_one h1 h2 h3 h4) ?_;have I1:Inv X qL σ H { s with heap:=s.heap.push { cls:=.type "range",data:=.fields #[.int lo t,.int hi u,.int 1 v] },toks:=tk }:=I.kept fun b o e=>Qc _ e;refine ⟨(s.heap.push { cls:=.type "range",data:=.fields #[.int lo t,.int hi u,.int 1 v] }).objs.size,[(s.heap.push { cls:=.type "range",data:=.fields #[.int lo t,.int hi u,.int 1 v] }).objs.size],_,_,H,rfl,
  I1.kept (t':=tk) fun b o e=>Qc _ e,uP _ lo (hi-lo).toNat,?_,fun b hb=>?_,q⟩
 ·have e1:lo+((0:Nat):Int)*1=lo:=by simp
  have e2:(((hi-lo).toNat:Nat):Int)-((0:Nat):Int)=RC lo hi 1:=by rw[rangeSize_one];split<;>lia
  show IsRangeIter _ _ (lo+((0:Nat):Int)*1) ((((hi-lo).toNat:Nat):Int)-((0:Nat):Int)) 1;rw[e1,e2];exact QA _ rfl
 ·have e:b=(s.heap.push { cls:=.type "range",data:=.fields #[.int lo t,.int hi u,.int 1 v] }).objs.size:=by simpa using hb
  subst e;exact I1.p7 (Qf _) (I1.hok.fresh (Qf _))
def Gp(ta:TA):TI:=fun σ H R=>ta σ H fun vs H1=>∃j:Int,vs=[.int j]/\-(2 ^ 62)<=j/\j<2 ^ 62/\R (Itr 0 j.toNat) H1
def Gq(ta:TA):TI:=fun σ H R=>ta σ H fun vs H1=>∃i j:Int,vs=[.int i,.int j]/\(-(2 ^ 62)<=i/\i<2 ^ 62/\-(2 ^ 62)<=j/\j<2 ^ 62)/\R (Itr i (j-i).toNat) H1
theorem yw{a:Expr}{p pos:Pos}(hg:Gl X "range")(hm:X.mg "range" = none)(ha:PA X [a] ta)(hs:starEach [a] X.env=[(false,eval a X.env)]:=by rfl):PI X tg (.Call (.Name "range" p) [a] [] pos) (Gp ta):=by
 intro qL s σ H R I h;refine Call_ (cB I hg hm boot_range (QU (thn (ha pos qL s σ H _ I h) fun us s1 ⟨vs,H1,I1,r1,q1⟩=>?_) hs rfl));obtain⟨j,e,q1,q2,q⟩:=q1;subst e;cases r1 with
 |cons r rr=>cases rr;obtain⟨t,rfl⟩:=r;exact call_range_1 (rD I1 (by lia) (by lia) q1 q2 (by simpa using q))
theorem yx{a b:Expr}{p pos:Pos}(hg:Gl X "range")(hm:X.mg "range" = none)(ha:PA X [a,b] ta)(hs:starEach [a,b] X.env=[(false,eval a X.env),(false,eval b X.env)]:=by rfl)(hs2:starEach [b] X.env=[(false,eval b X.env)]:=by rfl) :
  PI X tg (.Call (.Name "range" p) [a,b] [] pos) (Gq ta):=by
 intro qL s σ H R I h;refine Call_ (cB I hg hm boot_range (QU (thn (ha pos qL s σ H _ I h) fun us s1 ⟨vs,H1,I1,r1,q1⟩=>?_) (by rw[hs,hs2]) (by rw[hs2];rfl)));obtain⟨i,j,e,⟨q1,q2,q3,q4⟩,q⟩:=q1;subst e;cases r1 with
 |cons r rr=>
  cases rr with
  |cons r' rr=>cases rr;obtain⟨t,rfl⟩:=r;obtain⟨t',rfl⟩:=r';exact call_range_2 (rD I1 q1 q2 q3 q4 q)
def z_(wi:TI)(g:TG)(tb:TS):TS:=fun D σ H=>wi σ H fun J H1=>∃W:Nat->Nat->St->Hp->Prop,(∃m,W 0 m σ H1)/\∀i m σ H,W i m σ H ->
 (J.stop i H/\D.nx σ H)\/(J.go i H/\∃N:St->Hp->Prop,(∀σ' H',N σ' H'->∃m',m'<m/\W (i+1) m' σ' H')/\∀x H',J.yld i H x H'->g x σ H' fun σ2 H2=>tb { D with nx:=N,ct:=N,bk:=D.nx } σ2 H2)
noncomputable def kZ(fp:List Addr)(h:Heap):List (Addr×Obj):=fp.filterMap fun b=>(h.get? b).map fun o=>(b,o)
theorem dW{b:Addr}{o:Obj}(hb:b∈fp)(e:h.get? b=some o):(b,o)∈kZ fp h:=SE.mpr ⟨b,hb,by rw[e];rfl⟩
theorem yz{p:Addr×Obj}(hp:p∈kZ fp h):p.1∈fp/\h.get? p.1=some p.2:=by
 obtain⟨b,hb,e⟩:=SE.mp hp;cases q:h.get? b with
 |none=>rw[q]at e;cases e
 |some o=>rw[q]at e;have e':(b,o)=p:=Option.some.inj e;subst e';exact⟨hb,q⟩
theorem Inv.pinned(I:Inv X qL σ H s)(hf:∀b∈fp,oE X qL H b)(ho:∀b∈fp,∃o,s.heap.get? b=some o/\∀v,o.data≠.cell v):Inv X (qL++kZ fp s.heap) σ H s:=
 I.wC fun p hp=>(Qu.mp hp).elim (fun z=>I.pin p (QH _ z)) fun z=>by obtain⟨hb,e⟩:=yz z;obtain⟨f0,f1,f2,_⟩:=hf p.1 hb;obtain⟨o,e',d⟩:=ho p.1 hb;rw[e]at e';cases e';exact⟨e,f0,f1,f2,d⟩
theorem Inv.iO{qL pl:List (Addr×Obj)}(I:Inv X (qL++pl) σ H s):Inv X qL σ H s:=I.wC fun p hp=>I.pin p (QH _ (QK _ hp))
theorem uQ{iter:Expr}{body:List Stmt}{wi:TI}{g:TG}{tb:TS}{pos:Pos}(hp:PassesOwn (model X.prog X.w) X.A X.env X.xe)(hc:X.calm=true)(hi:PI X tg iter wi)(hg:PG X tg g)(hb:PSs X body tb)
  (hs:∀x,foldedSetIterable iter X.env x=pure x:=by intro _;rfl):PS X (.For tg iter body [] pos) (z_ wi g tb):=by
 intro qL s σ H D I h;refine wpAny_For (thn (hi qL s σ H _ I h) fun v s1 h1=>thn h1 fun itv s2 h2=>?_) hs;obtain⟨it,fp,tn,J,H2,e,I2,T,st2,f2,W,⟨m0,w0⟩,turn⟩:=h2;subst e;have stat:∀{H':Hp},(∀b∈fp,H' b=none)->∀b∈fp,oE X qL H' b:=fun hn b hb=>⟨hn b hb,(f2 b hb).2⟩;refine codeAny_forLoop_any (fun n s'=>∃i σ' H',Inv X qL σ' H' s'/\tn i s'.heap/\(∀b∈fp,H' b=none)/\W i n σ' H') ?_ m0 ⟨0,σ,H2,I2,st2,fun b hb=>(f2 b hb).1,w0⟩;rintro n s3 ⟨i,σ3,H3,I3,st3,fr3,w3⟩;rcases turn i n σ3 H3 w3 with⟨stop,qn⟩ | ⟨go,N,hN,step⟩
 ·refine wpAny_passesOwn hp (thn (T.done X rfl rfl rfl hc i qL s3 σ3 H3 X.xe I3 (stat fr3) st3 stop) fun r s4 ⟨hr,I4⟩=>?_);subst hr;exact wpAny_execs_nil ⟨σ3,H3,I4,qn⟩
 ·refine wpAny_passesOwn hp (thn (T.item X rfl rfl rfl hc i qL s3 σ3 H3 X.xe I3 (stat fr3) st3 go) fun r s4 ⟨u,hr,h4⟩=>?_);subst hr;refine wpAny_passesOwn hp (thn h4 fun _ s5 ⟨x,H5,I5,r5,y5,st5,fr5⟩=>?_);have I5':=I5.pinned (stat fr5) (T.obj _ _ st5);refine wpAny_passesOwn hp (thn (hg _ s5 σ3 H5 x u _ I5' r5 (step x H5 y5)) fun _ s6 ⟨σ6,H6,I6,q6⟩=>?_);refine wpAny_passesOwn hp (thn (hb _ s6 σ6 H6 _ I6 q6) fun f s7 q7=>?_);have again:∀{σ7:St} {H7:Hp},Inv X (qL++kZ fp s5.heap) σ7 H7 s7->N σ7 H7->∃m,m<n/\∃i σ' H',Inv X qL σ' H' s7/\tn i s7.heap/\(∀b∈fp,H' b=none)/\W i m σ' H':=fun {σ7 H7} I7 n7=>by
   obtain⟨m',hm,w7⟩:=hN σ7 H7 n7;refine⟨m',hm,i+1,σ7,H7,I7.iO,T.keep _ _ _ st5 fun b hb o e=>(I7.pin (b,o) (QH _ (QH _ (dW hb e)))).1,fun b hb=>?_,w7⟩;obtain⟨o,e,d⟩:=T.obj _ _ st5 b hb;exact(I7.pin (b,o) (QH _ (QH _ (dW hb e)))).2.1
  cases f with
  |next=>obtain⟨σ7,H7,I7,n7⟩:=q7;exact again I7 n7
  |cont=>obtain⟨σ7,H7,I7,n7⟩:=q7;exact again I7 n7
  |brk=>obtain⟨σ7,H7,I7,q7⟩:=q7;exact⟨σ7,H7,I7.iO,q7⟩
  |ret v=>obtain⟨x7,σ7,H7,I7,r7,q7⟩:=q7;exact⟨x7,σ7,H7,I7.iO,r7,q7⟩
end
end
noncomputable abbrev R2:=V->V->Hp->VK->Prop
def OpR(X:Cx)(f:Value->Value->Sem Value)(r:R2):Prop:=
 ∀(qL:List (Addr×Obj)) (s:Shared) (σ:St) (H:Hp) (x y:V) (v u:Value) (Q:VK),Inv X qL σ H s->RelV x v->RelV y u->r x y H Q ->
  wpAny (model X.prog X.w) X.A (f v u) (EP X qL σ Q) X.xe s
def UnR(X:Cx)(f:Value->Sem Value)(r:V->Hp->VK->Prop):Prop:=
 ∀(qL:List (Addr×Obj)) (s:Shared) (σ:St) (H:Hp) (x:V) (v:Value) (Q:VK),Inv X qL σ H s->RelV x v->r x H Q ->
  wpAny (model X.prog X.w) X.A (f v) (EP X qL σ Q) X.xe s
def cZ(X:Cx)(f:Value)(r:List V->Hp->VK->Prop):Prop:=
 ∀(qL:List (Addr×Obj)) (s:Shared) (σ:St) (H:Hp) (xs:List V) (us:List Value) (Q:VK),Inv X qL σ H s->Vals xs us->r xs H Q ->
  wpAny (model X.prog X.w) X.A (call f us) (EP X qL σ Q) X.xe s
def OM(X:Cx)(r:V->Hp->(Bool->Hp->Prop)->Prop):Prop:=
 ∀(qL:List (Addr×Obj)) (s:Shared) (σ:St) (H:Hp) (x:V) (v:Value) (Q:Bool->Hp->Prop),Inv X qL σ H s->RelV x v->r x H Q ->
  wpAny (model X.prog X.w) X.A (truthy v) (TP X qL σ Q) X.xe s
def tOp(r:R2)(ta tb:TE):TE:=fun σ H Q=>ta σ H fun x H1=>tb σ H1 fun y H2=>r x y H2 Q
def tUn(r:V->Hp->VK->Prop)(ta:TE):TE:=fun σ H Q=>ta σ H fun x H1=>r x H1 Q
def rI(C:Int->Int->Prop)(g:Int->Int->V):R2:=fun x y H Q=>∃i j,x=.int i/\y=.int j/\C i j/\Q (g i j) H
def rI0(g:Int->Int->V):R2:=fun x y H Q=>∃i j,x=.int i/\y=.int j/\Q (g i j) H
def rU(g:Int->V):V->Hp->VK->Prop:=fun x H Q=>∃i,x=.int i/\Q (g i) H
section
variable{X:Cx}{a b c:Expr}{ta tb tc:TE}{pos:Pos}
theorem Iw(ha:PE X a ta)(hb:PE X b tb){qL:List (Addr×Obj)}{s:Shared}{σ:St}{H:Hp}{R:V->V->Hp->Prop}(I:Inv X qL σ H s)
  (h:ta σ H fun x H1=>tb σ H1 fun y H2=>R x y H2) {Q:Value->Shared->Prop} {f:Value->Value->Sem Value}
  (hf:∀v u s2 x y H2,Inv X qL σ H2 s2->RelV x v->RelV y u->R x y H2->wpAny (model X.prog X.w) X.A (f v u) Q X.xe s2) :
  wpAny (model X.prog X.w) X.A (eval a X.env) (fun v s₁=>wpAny (model X.prog X.w) X.A (eval b X.env) (fun u s₂=>wpAny (model X.prog X.w) X.A (f v u) Q X.xe s₂) X.xe s₁) X.xe s:=by
 refine thn (ha qL s σ H _ I h) fun v s1 ⟨x,H1,I1,r1,q1⟩=>?_;refine thn (hb qL s1 σ H1 _ I1 q1) fun u s2 ⟨y,H2,I2,r2,q2⟩=>?_;exact hf v u s2 x y H2 I2 r1 r2 q2
theorem L8{op:Operator}{r:R2}(ho:OpR X (binaryOp op) r)(ha:PE X a ta)(hb:PE X b tb):PE X (.BinOp a op b pos) (tOp r ta tb):=by intro qL s σ H Q I h;exact wpAny_BinOp (Iw ha hb I h fun v u s2 x y H2 I2 rx ry q=>ho qL s2 σ H2 x y v u Q I2 rx ry q)
theorem L_{op:UnaryOp}{r:V->Hp->VK->Prop}(ho:UnR X (unaryOp op) r)(ha:PE X a ta):PE X (.UnaryOp op a pos) (tUn r ta):=by intro qL s σ H Q I h;exact UnaryOp_ (thn (ha qL s σ H _ I h) fun v s1 ⟨x,H1,I1,r1,q1⟩=>ho qL s1 σ H1 x v Q I1 r1 q1)
theorem opI{f:Value->Value->Sem Value}{C:Int->Int->Prop}{g:Int->Int->Int}
  (rule:∀(i j:Int) (t u:Tok) (s:Shared) (Q:Value->Shared->Prop) (E:Value->Shared->Prop),C i j->Q (.int (g i j) s.toks) { s with toks:=s.toks+1 }->wpAny (model X.prog X.w) X.A (f (.int i t) (.int j u)) Q E s) :
  OpR X f (rI C fun i j=>.int (g i j)):=by
 intro qL s σ H x y v u Q I rx ry h;obtain⟨i,j,rfl,rfl,hc,q⟩:=h;obtain⟨t,rfl⟩:=rx;obtain⟨t',rfl⟩:=ry;exact rule i j t t' s _ _ hc ⟨.int (g i j),H,I.tok _,⟨_,rfl⟩,q⟩
theorem Ma{f:Value->Value->Sem Value}{g:Int->Int->Int}
  (rule:∀(i j:Int) (t u:Tok) (s:Shared) (Q:Value->Shared->Prop) (E:Value->Shared->Prop),Q (.int (g i j) s.toks) { s with toks:=s.toks+1 }->wpAny (model X.prog X.w) X.A (f (.int i t) (.int j u)) Q E s) :
  OpR X f (rI0 fun i j=>.int (g i j)):=by
 intro qL s σ H x y v u Q I rx ry h;obtain⟨i,j,rfl,rfl,q⟩:=h;obtain⟨t,rfl⟩:=rx;obtain⟨t',rfl⟩:=ry;exact rule i j t t' s _ _ ⟨.int (g i j),H,I.tok _,⟨_,rfl⟩,q⟩
theorem D4{f:Value->Value->Sem Value}{g:Int->Int->Bool}
  (rule:∀(i j:Int) (t u:Tok) (s:Shared) (Q:Value->Shared->Prop) (E:Value->Shared->Prop),Q (.bool (g i j)) s->wpAny (model X.prog X.w) X.A (f (.int i t) (.int j u)) Q E s) :
  OpR X f (rI0 fun i j=>.bl (g i j)):=by
 intro qL s σ H x y v u Q I rx ry h;obtain⟨i,j,rfl,rfl,q⟩:=h;obtain⟨t,rfl⟩:=rx;obtain⟨t',rfl⟩:=ry;exact rule i j t t' s _ _ ⟨.bl (g i j),H,I,rfl,q⟩
def Mb(i j:Int):Prop:=0<=j/\j<=1000000/\i.natAbs<2 ^ 64
def Aa(i j:Int):Prop:=(-(2 ^ 64)<i/\i<2 ^ 64)\/(-(2 ^ 64)<j/\j<2 ^ 64)
theorem Aa.ok{i j:Int}(h:Aa i j):IntMulOk i j:=by
 rcases h with⟨h1,h2⟩ | ⟨h1,h2⟩
 ·exact .of_left (intBits_le_64 h1 h2)
 ·exact .of_right (intBits_le_64 h1 h2)
theorem Iz:OpR X (binaryOp .Add) (rI0 fun i j=>.int (i+j)):=Ma fun _ _ _ _ _ _ _ q=>add_int q
theorem IA:OpR X (binaryOp .Sub) (rI0 fun i j=>.int (i-j)):=Ma fun _ _ _ _ _ _ _ q=>sub_int q
theorem IB:OpR X (binaryOp .Mult) (rI Aa fun i j=>.int (i*j)):=opI fun _ _ _ _ _ _ _ hc q=>mul_int q hc.ok
theorem IC:OpR X (binaryOp .Mod) (rI (fun _ j=>0<j) fun i j=>.int (i % j)):=opI fun i j _ _ _ _ _ hc q=>by have h1:(0:Int)<j:=hc;exact mod_int' (by lia) (by rw[Int.fmod_eq_emod_of_nonneg i (by lia)];exact q)
theorem ID:OpR X (binaryOp .Pow) (rI Mb fun i j=>.int (i ^ j.toNat)):=opI fun _ _ _ _ _ _ _ hc q=>pow_int_small hc.1 hc.2.1 hc.2.2 q
theorem unI{f:Value->Sem Value}{g:Int->Int}
  (rule:∀(i:Int) (t:Tok) (s:Shared) (Q:Value->Shared->Prop) (E:Value->Shared->Prop),Q (.int (g i) s.toks) { s with toks:=s.toks+1 }->wpAny (model X.prog X.w) X.A (f (.int i t)) Q E s) :
  UnR X f (rU fun i=>.int (g i)):=by
 intro qL s σ H x v Q I rx h;obtain⟨i,rfl,q⟩:=h;obtain⟨t,rfl⟩:=rx;exact rule i t s _ _ ⟨.int (g i),H,I.tok _,⟨_,rfl⟩,q⟩
theorem IE:UnR X (unaryOp .USub) (rU fun i=>.int (-i)):=unI fun _ _ _ _ _ q=>neg_int q
end
section
variable{X:Cx}{a b c:Expr}{ta tb tc:TE}{pos:Pos}
theorem Gr:OpR X (compareOp .Lt) (rI0 fun i j=>.bl (decide (i<j))):=D4 fun _ _ _ _ _ _ _ q=>lt_int q
theorem Ab:OpR X (compareOp .LtE) (rI0 fun i j=>.bl (decide (i<=j))):=D4 fun _ _ _ _ _ _ _ q=>le_int q
theorem Gs:OpR X (compareOp .Gt) (rI0 fun i j=>.bl (decide (j<i))):=D4 fun _ _ _ _ _ _ _ q=>gt_int q
theorem Mc:OpR X (compareOp .GtE) (rI0 fun i j=>.bl (decide (j<=i))):=D4 fun _ _ _ _ _ _ _ q=>ge_int q
theorem OpR.or{f:Value->Value->Sem Value}{r r':R2}(h:OpR X f r)(h':OpR X f r'):OpR X f (fun x y H Q=>r x y H Q\/r' x y H Q):=by
 intro qL s σ H x y v u Q I rx ry q;rcases q with q | q
 ·exact h qL s σ H x y v u Q I rx ry q
 ·exact h' qL s σ H x y v u Q I rx ry q
theorem cC(b:Expr){op:CmpOp}(h:op≠.In:=by decide)(h2:op≠.NotIn:=by decide):behindInMarks op b=false:=by
 have e1:(op == CmpOp.In)=false:=by cases op<;>first | rfl | exact absurd rfl h
 have e2:(op == CmpOp.NotIn)=false:=by cases op<;>first | rfl | exact absurd rfl h2
 cases b<;>simp[behindInMarks,e1,e2]
theorem D5{op:CmpOp}{r:R2}(ho:OpR X (compareOp op) r)(ha:PE X a ta)(hb:PE X b tb)(hm:behindInMarks op b=false):PE X (.Compare a [op] [b] pos) (tOp r ta tb):=by intro qL s σ H Q I h;exact wpAny_Compare1 (Iw ha hb I h fun v u s2 x y H2 I2 rx ry q=>ho qL s2 σ H2 x y v u Q I2 rx ry q) hm
def Ac(t:TE):TT:=fun σ H Q=>t σ H fun x H'=>∃k,x=.bl k/\Q k H'
theorem wF{op:CmpOp}{r:R2}(ho:OpR X (compareOp op) r)(ha:PE X a ta)(hb:PE X b tb)(hm:behindInMarks op b=false):PT X (.Compare a [op] [b] pos) (Ac (tOp r ta tb)):=by
 intro qL s σ H Q I h;refine wpAny_isTrue_Compare1 (thn (ha qL s σ H _ I h) fun v s1 ⟨x,H1,I1,r1,q1⟩=>thn (hb qL s1 σ H1 _ I1 q1) fun u s2 ⟨y,H2,I2,r2,q2⟩=>thn (ho qL s2 σ H2 x y v u _ I2 r1 r2 q2) fun c s3 ⟨z,H3,I3,r3,k,e,q3⟩=>?_) hm
 subst e;cases r3;exact wpAny_truthy_bool ⟨H3,I3,q3⟩
def Ad(r r':R2)(ta tb tc:TE):TE:=fun σ H Q=>ta σ H fun x H1=>tb σ H1 fun y H2=>r x y H2 fun z H3=>∃k,z=.bl k /\
 (if k=true then tc σ H3 fun w' H4=>r' y w' H4 Q else Q (.bl false) H3)
theorem Ae{op op':CmpOp}{r r':R2}(ho:OpR X (compareOp op) r)(ho':OpR X (compareOp op') r')(ha:PE X a ta)(hb:PE X b tb)(hc:PE X c tc)
  (hm:lastMarks [op,op'] [b,c]=false:=by with_unfolding_all rfl):PE X (.Compare a [op,op'] [b,c] pos) (Ad r r' ta tb tc):=by
 intro qL s σ H Q I h;refine Compare_chain (thn (ha qL s σ H _ I h) fun v s1 ⟨x,H1,I1,r1,q1⟩=>chain_link (thn (hb qL s1 σ H1 _ I1 q1) fun u s2 ⟨y,H2,I2,r2,q2⟩=>thn (ho qL s2 σ H2 x y v u _ I2 r1 r2 q2) fun d s3 ⟨z,H3,I3,r3,k,e,q3⟩=>?_)) hm
 subst e;cases r3;refine wpAny_truthy_bool ?_;cases k with
 |false=>exact ite_ff ⟨.bl false,H3,I3,rfl,q3⟩
 |true=>exact ite_tt (chain_last (thn (hc qL s3 σ H3 _ I3 q3) fun w' s4 ⟨z',H4,I4,r4,q4⟩=>ho' qL s4 σ H4 y z' u w' Q I4 r2 r4 q4))
def IF(K:Ds)(x:V)(H:Hp)(k:Bool):Prop:=
 match x with
 |.non=>k=false
 |.bl b=>k=b
 |.int i=>k=(i != 0)
 |.str y=>y.length<=sizeLine/\k=((y.length:Int) != 0)
 |.byt y=>y.size<=sizeLine/\k=((y.size:Int) != 0)
 |.ref p=>(∃xs,SqL K H p xs/\k=!xs.isEmpty)\/(∃xs,SqT K H p xs/\k=!xs.isEmpty)\/∃kvs,H p=some (.dK kvs)/\k=!kvs.isEmpty
 |_=>False
theorem uR{κ:Type}{kvs:List (κ×V)}{vs:List (κ×Value)}(r:KV kvs vs):(!vs.isEmpty)=!kvs.isEmpty:=by cases r<;>rfl
theorem k7{xs:List V}{its:List Value}(r:Vals xs its):(!its.toArray.isEmpty)=!xs.isEmpty:=by cases r<;>simp
theorem k8:(sizeLine:Nat)<2 ^ 63:=by rw[sizeLine_eq];decide
theorem IG:OM X (fun x H Q=>∃k,IF X.K x H k/\Q k H):=by
 intro qL s σ H x v Q I rx h;obtain⟨k,e,q⟩:=h;have hl:=k8;have hs:sizeLine=16777216:=sizeLine_eq;cases x with
 |non=>cases rx;have e':k=false:=e;subst e';exact truthy_none ⟨H,I,q⟩
 |bl b=>cases rx;have e':k=b:=e;subst e';exact wpAny_truthy_bool ⟨H,I,q⟩
 |int i=>obtain⟨t,rfl⟩:=rx;have e':k=(i != 0):=e;subst e';exact PySem.P.truthy_int ⟨H,I,q⟩
 |str y=>obtain⟨t,rfl⟩:=rx;obtain⟨hy,e'⟩:y.length<=sizeLine/\k=((y.length:Int) != 0):=e;subst e';exact PySem.P.truthy_str (by lia) ⟨H,I.tok _,q⟩
 |byt y=>obtain⟨t,rfl⟩:=rx;obtain⟨hy,e'⟩:y.size<=sizeLine/\k=((y.size:Int) != 0):=e;subst e';exact PySem.W.truthy_bytes (by lia) ⟨H,I.tok _,q⟩
 |ref p=>
  cases rx;have e':(∃xs,SqL X.K H p xs/\k=!xs.isEmpty)\/(∃xs,SqT X.K H p xs/\k=!xs.isEmpty)\/∃kvs,H p=some (.dK kvs)/\k=!kvs.isEmpty:=e;rcases e' with⟨xs,hx,e'⟩ | ⟨xs,hx,e'⟩ | ⟨kvs,hx,e'⟩
  ·subst e';obtain⟨its,r,pl,hz⟩:=I.list hx;have zo:=r.length;exact wpAny_truthy_list pl.isList (by simp only[Qj];lia) ⟨H,I.tok _,by rw[k7 r];exact q⟩
  ·subst e';obtain⟨its,r,pl,hz⟩:=I.tuple hx;have zo:=r.length;exact truthy_tuple pl (by simp only[Qj];lia) ⟨H,I.tok _,by rw[k7 r];exact q⟩
  ·subst e';obtain⟨hz,hS,vs,r,m⟩:kvs.length<=sizeLine/\(p == sysModules)=false/\∃vs,KV kvs vs/\s.heap.DictOf (aM X.prog X.w) p vs:=I.hok p _ hx;have zo:kvs.length=vs.length:=Paired.length r;exact wpAny_truthy_dict hS m (by lia) ⟨H,I.tok _,by rw[uR r];exact q⟩
 |_=>exact(show False from e).elim
theorem Af(ha:PE X a ta)(he:∀whole,isTrue a X.env whole=(do let v <- whole;standAt a.pos;holding [v] (truthy v))) :
  PT X a (fun σ H Q=>ta σ H fun x H'=>∃k,IF X.K x H' k/\Q k H'):=by
 intro qL s σ H Q I h;exact isTrue_plain (thn (ha qL s σ H _ I h) fun v s1 ⟨x,H1,I1,r1,q1⟩=>IG qL s1 σ H1 x v Q I1 r1 q1) (he _)
theorem vals1{x:V}{us:List Value}(r:Vals [x] us):∃u,us=[u]/\RelV x u:=by
 cases r with
 |cons r1 r2=>cases r2;exact⟨_,rfl,r1⟩
theorem vals2{x y:V}{us:List Value}(r:Vals [x,y] us):∃u w',us=[u,w']/\RelV x u/\RelV y w':=by
 cases r with
 |cons r1 r2=>
  cases r2 with
  |cons r3 r4=>cases r4;exact⟨_,_,rfl,r1,r3⟩
theorem yC(hc:X.calm=true):cZ X (.builtin "max") (fun xs H Q=>∃i j,xs=[.int i,.int j]/\Q (.int (if j>i then j else i)) H):=by
 intro qL s σ H xs us Q I r h;obtain⟨i,j,rfl,q⟩:=h;obtain⟨u,w',rfl,⟨t,rfl⟩,⟨t',rfl⟩⟩:=vals2 r;refine max_two_ints (I.ok.hd hc) fun h' tk k=>⟨_,H,I.kept k,?_,q⟩;by_cases hj:j>i
 ·rw[if_pos hj,if_pos hj];exact⟨_,rfl⟩
 ·rw[if_neg hj,if_neg hj];exact⟨_,rfl⟩
theorem yD(hc:X.calm=true):cZ X (.builtin "min") (fun xs H Q=>∃i j,xs=[.int i,.int j]/\Q (.int (if j<i then j else i)) H):=by
 intro qL s σ H xs us Q I r h;obtain⟨i,j,rfl,q⟩:=h;obtain⟨u,w',rfl,⟨t,rfl⟩,⟨t',rfl⟩⟩:=vals2 r;refine min_two_ints (I.ok.hd hc) fun h' tk k=>⟨_,H,I.kept k,?_,q⟩;by_cases hj:j<i
 ·rw[if_pos hj,if_pos hj];exact⟨_,rfl⟩
 ·rw[if_neg hj,if_neg hj];exact⟨_,rfl⟩
theorem yE:cZ X (.type "int") (fun xs H Q=>(∃i,xs=[.int i]/\Q (.int i) H)\/∃k,xs=[.bl k]/\Q (.int (if k then 1 else 0)) H):=by
 intro qL s σ H xs us Q I r h;rcases h with⟨i,rfl,q⟩ | ⟨k,rfl,q⟩
 ·obtain⟨u,rfl,t,rfl⟩:=vals1 r;exact call_int_int ⟨.int i,H,I,⟨_,rfl⟩,q⟩
 ·obtain⟨u,rfl,r1⟩:=vals1 r;cases r1;exact call_int_bool ⟨.int (if k then 1 else 0),H,I.tok _,⟨_,rfl⟩,q⟩
end
section
variable{mA:Str->Option Value}{h:Heap}
structure II(h:Heap)(x dx C:Addr)(mA:Str->Option Value):Prop where
 obj:h.get? x=some (S2 C dx)
 ns:h.Ns1 dx mA
 ne:dx≠x
theorem yF{dx:Addr}(n:h.Ns1 dx mA):∃od,h.get? dx=some od/\∀name,S8 name od=some (mA name):=by
 obtain⟨o,es,ep,ho,hd,hk,_,hm⟩:=n;refine⟨o,ho,fun name=>?_⟩;have e:=hm name;unfold nsFind findBy at e;rw[<- Array.find?_toList]at e;unfold S8;rw[hd];dsimp only;split
 ·rename_i y q;rw[q]at e;exact congrArg some e
 ·rename_i q;rw[q]at e;have a:es.toList.any (·.refKey)=false:=by
   rw[List.any_eq_false];intro y hy;obtain⟨z,t,hkey⟩:=hk y (Array.mem_toList_iff.mp hy);simp[DictEntry.refKey,hkey]
  have a':¬es.toList.any (·.refKey)=true:=by rw[a];exact QE
  rw[if_neg a'];exact congrArg some e
theorem II.look{x dx C:Addr}(I:II h x dx C mA):∃od,PySem.W.InstAt h x (S2 C dx) C (some od)/\∀name,S8 name od=some (mA name):=
 let ⟨od,ho,hl⟩:=yF I.ns
 ⟨od,⟨I.obj,rfl,rfl,ho⟩,hl⟩
theorem iN.some_of{v:V}{o:Option Value}(r:iN (some v) o):∃u,o=some u/\RelV v u:=by
 cases o with
 |none=>exact(show False from r).elim
 |some u=>exact⟨u,rfl,r⟩
end
section
variable{P:Program}{w:World}{H H':Hp}{h h':Heap}{a C dx:Addr}{fs fs':List (Str×V)}
theorem D6(hok:HOk P w H h)(e:H a=some (.ins C dx fs)):∃mA,II h a dx C mA/\(∀f,iN (fs.lookup f) (mA f))/\PySem.Within mA (fs.map (·.1))/\fs.length<=1000/\H dx=some (.own a):=by
 obtain⟨d,z,ne,ob,mA,n,r,q⟩:=(show aT P w H h a (.ins C dx fs) from hok a _ e)
 exact⟨mA,⟨ob,n,ne⟩,r,q,z,d⟩
end
structure Cls(K:Ds)(C:Addr):Prop where
 pg:PySem.W.plainGet K C Str.empty=true
 hd:PySem.W.hasDictIn K C=true
 po:PySem.W.plainOver K C=true
 sa:PySem.W.findIn K (.ref C) "__setattr__" = some (some (.builtin "object.__setattr__"))
theorem Cls.get{K:Ds}{C:Addr}(c:Cls K C)(f:Str):PySem.W.plainGet K C f=true:=c.pg
section
variable{X:Cx}{qL:List (Addr×Obj)}{σ:St}{H:Hp}{s:Shared}{A:Around}{E:Value->Shared->Prop}{Q:Value->Shared->Prop}{c:Value}{b:Bool}
inductive iP(K:Ds)(H:Hp):V->Value->Prop where
 |non:iP K H .non (.type "NoneType")
 |bl (x:Bool):iP K H (.bl x) (.type "bool")
 |int (i:Int):iP K H (.int i) (.type "int")
 |str (x:Str):iP K H (.str x) (.type "str")
 |flt (x:UInt64):iP K H (.flt x) (.type "float")
 |lst {a:Addr} {xs:List V} (e:H a=some (.lst xs)):iP K H (.ref a) (.type "list")
 |frz {a:Addr} {o:Obj} {xs:List V} (e:H a=some (.frz o (.lst xs))):iP K H (.ref a) (.type "list")
 |tup {a:Addr} {xs:List V} (e:H a=some (.tup xs)):iP K H (.ref a) (.type "tuple")
 |dK {a:Addr} {kvs:List (Key×V)} (e:H a=some (.dK kvs)):iP K H (.ref a) (.type "dict")
 |dT {a:Addr} {kvs:List (List Key×V)} {ts:List Addr} (e:H a=some (.dT kvs ts)):iP K H (.ref a) (.type "dict")
 |ins {a C dx:Addr} {fs:List (Str×V)} (e:H a=some (.ins C dx fs)) (cl:Cls K C) (ha:PySem.W.findIn K (.ref C) "__class__" = some (some (.builtin "object.__class__")))
   (hn:PySem.W.specialIn K (.builtin "object.__class__") "__get__" = some (some (.builtin "getset_descriptor.__get__"))) (htk:PySem.W.takesIn K (.builtin "object.__class__")=some true)
   (hm:PySem.W.mroIn K C (.type "object")=some true):iP K H (.ref a) (.ref C)
theorem yG{x:V}{u t:Value}(I:Inv X qL σ H s)(rx:RelV x u)(ty:iP X.K H x t)(e:S9 X.K t c=some b)(h:∀tk,Q (.bool b) { s with toks:=tk }) :
  wpAny (model X.prog X.w) A (call (.builtin "isinstance") [u,c]) Q E s:=by
 cases ty with
 |non=>cases (show u=Value.none from rx);exact Rb PySem.W.kitx_none I.kIn Ru e (fun z=>nomatch z) h
 |bl y=>cases (show u=Th y from rx);exact Rb PySem.W.kitx_bool I.kIn Ru e (fun z=>nomatch z) h
 |int i=>obtain⟨t,q⟩:=(show ∃t,u=Value.int i t from rx);cases q;exact Rb PySem.W.kitx_int I.kIn Ru e (fun z=>nomatch z) h
 |str y=>obtain⟨t,q⟩:=(show ∃t,u=S1 y t from rx);cases q;exact Rb PySem.W.kitx_str I.kIn Ru e (fun z=>nomatch z) h
 |flt y=>obtain⟨t,q⟩:=(show ∃t,u=Value.float y t from rx);cases q;exact Rb PySem.W.kitx_float I.kIn Ru e (fun z=>nomatch z) h
 |@lst a xs ea=>
  cases (show u=QW a from rx);obtain⟨_,_,n,_,h1⟩:=(show aT X.prog X.w H s.heap a (.lst xs) from I.hok a _ ea)
  exact Rb PySem.W.kitx_list I.kIn ⟨_,h1,rfl⟩ e (fun z=>nomatch z) h
 |@frz a ob xs ea=>
  cases (show u=QW a from rx);obtain⟨_,_,_,n,_,h1⟩:=(show aT X.prog X.w H s.heap a (.frz ob (.lst xs)) from I.hok a _ ea)
  exact Rb PySem.W.kitx_list I.kIn ⟨_,h1,rfl⟩ e (fun z=>nomatch z) h
 |@tup a xs ea=>
  cases (show u=QW a from rx);obtain⟨_,_,_,p⟩:=(show aT X.prog X.w H s.heap a (.tup xs) from I.hok a _ ea)
  obtain⟨o,h1,h2,_⟩:=p;exact Rb PySem.W.kitx_tuple I.kIn ⟨o,h1,h2⟩ e (fun z=>nomatch z) h
 |@dK a kvs ea=>
  cases (show u=QW a from rx);obtain⟨_,_,vs,_,p⟩:=(show aT X.prog X.w H s.heap a (.dK kvs) from I.hok a _ ea)
  obtain⟨o,es,ep,h1,h2,_⟩:=p;exact Rb PySem.W.kitx_dict I.kIn ⟨o,h1,h2.1⟩ e (fun z=>nomatch z) h
 |@dT a kvs ts ea=>
  cases (show u=QW a from rx);obtain⟨_,_,xs,_,o,es,ep,h1,h2,_⟩:=(show aT X.prog X.w H s.heap a (.dT kvs ts) from I.hok a _ ea)
  exact Rb PySem.W.kitx_dict I.kIn ⟨o,h1,h2.1⟩ e (fun z=>nomatch z) h
 |@ins a C dx fs ea cl ha hn htk hm=>cases (show u=QW a from rx);obtain⟨mA,O,_⟩:=D6 I.hok ea;obtain⟨od,J,_⟩:=O.look;exact Rb (PySem.W.kitx_own (cl.get _) cl.hd ha hn htk hm) I.kIn J e (fun z=>nomatch z) h
end
section
variable{A:Around}{k:Nat}
structure bf(k:Nat)(A:Around):Prop where
 hd:A.handled=none
 dp:A.depth+3*k+5<recursionLimit
 un:A.units+16*k+200<cLine
 gd:A.guards=some []
theorem bf.mono{j k:Nat}(r:bf k A)(h:j<=k):bf j A:=⟨r.hd,by have:=r.dp;lia,by have:=r.un;lia,r.gd⟩
theorem bf.deeper(r:bf (k+1) A)(env:Env):bf k (A.deeper env):=
 ⟨r.hd,by have:=r.dp;show A.depth+1+3*k+5<_;lia,by have:=r.un;show A.units+3+16*k+200<_;lia,r.gd⟩
theorem bf.depth(r:bf k A):A.depth<recursionLimit:=by have:=r.dp;lia
theorem bf.units(r:bf k A):A.units+64<cLine:=by have:=r.un;lia
def dJ:TA:=fun _ H Q=>Q [] H
def cz(ta:TE)(tr:TA):TA:=fun σ H Q=>ta σ H fun x H1=>tr σ H1 fun xs H2=>Q (x::xs) H2
end
section
variable{X:Cx}{e:Expr}{es:List Expr}{te:TE}{t:TA}{pos:Pos}
theorem c_:PA X [] dJ:=fun _ _ _ _ H Q I h=>Rn ⟨[],H,I,.nil,h⟩
theorem cR(ha:PE X e te)(hr:PA X es t)(hs:starEach (e::es) X.env=(false,eval e X.env)::starEach es X.env:=by rfl):PA X (e::es) (cz te t):=by intro pos qL s σ H Q I h;rw[hs];show wpAny _ _ (spliced ((false,eval e X.env)::backTo pos (starEach es X.env))) _ _ s;refine RU (thn (ha qL s σ H _ I h) fun u s1 ⟨x,H1,I1,r1,q1⟩=>?_);exact thn (hr pos qL s1 σ H1 _ I1 q1) fun us s2 ⟨xs,H2,I2,r2,q2⟩=>⟨x::xs,H2,I2,.cons r1 r2,q2⟩
def Me(t:TA):TE:=fun σ H Q=>t σ H fun xs H1=>xs.length<=sizeLine/\∀p,H1 p=none->Q (.ref p) (upd H1 p (.tup xs))
def oF(t:TA):TE:=fun σ H Q=>t σ H fun xs H1=>xs.length<=sizeLine/\∀p,H1 p=none->Q (.ref p) (upd H1 p (.lst xs))
theorem IJ{x1}(h:PA X es t):PE X (.Tuple es x1 pos) (Me t):=by intro qL s σ H Q I hq;refine wpAny_Tuple_spliced (thn (h pos qL s σ H _ I hq) fun us s1 ⟨xs,H1,I1,r,z,q⟩=>⟨by rw[<- r.length];exact z,?_⟩);have hf:H1 s1.heap.objs.size=none:=I1.hok.fresh (Qf _);refine⟨.ref s1.heap.objs.size,upd H1 s1.heap.objs.size (.tup xs),I1.laid (t':=s1.toks) (fun b u e=>Qc _ e) (Qf _) ?_,rfl,q _ hf⟩;exact⟨z,us,r,⟨_,QA _ rfl,rfl,_,rfl⟩⟩
theorem jr(h:PA X es t):PE X (.List es pos) (oF t):=by intro qL s σ H Q I hq;refine wpAny_List_spliced (thn (h pos qL s σ H _ I hq) fun us s1 ⟨xs,H1,I1,r,z,q⟩=>⟨by rw[<- r.length];exact z,?_⟩);have hf:H1 s1.heap.objs.size=none:=I1.hok.fresh (Qf _);refine⟨.ref s1.heap.objs.size,upd H1 s1.heap.objs.size (.lst xs),I1.laid (t':=s1.toks) (fun b u e=>Qc _ e) (Qf _) ?_,rfl,q _ hf⟩;exact⟨z,us,0,r,QA _ rfl⟩
end
noncomputable abbrev Sp:=List V->Hp->VK->XK->Prop
noncomputable abbrev CXT:=List Env->Hp->Shared->XK->Value->Shared->Prop
structure D7(P:Program)(w:World)(K:Ds)(mg:Str->Option Value)(base:Heap)(A:Around)(outer:List Env)(s:Shared)(H:Hp):Prop where
 frames:A.frames=some outer
 mod:Mod K mg base
 bs:∀b o,base.get? b=some o->s.heap.get? b=some o/\H b=none
 bsz:base.objs.size<=s.heap.objs.size
 kX:s.heap.FunFrames base outer
 frf:∀b∈frs outer,H b=none
 hok:HOk P w H s.heap
 bare:AllBare s.gens
def CE(outer:List Env)(P:Program)(w:World)(H:Hp)(s:Shared)(Q:VK)(u:Value)(s':Shared):Prop:=
 ∃v H',s'.os=s.os/\AllBare s'.gens/\Un (frs outer) [] H H' s.heap s'.heap/\HOk P w H' s'.heap/\RelV v u/\Q v H'
def CR(CX:CXT)(outer:List Env)(P:Program)(w:World)(H:Hp)(s:Shared)(Q:VK)(E:XK)(r:Result)(s':Shared):Prop:=
 match r with
 |.ok (.ret u)=>CE outer P w H s Q u s'
 |.ok _=>False
 |.error e=>CX outer H s E e s'
structure aQ(P:Program)(w:World)(K:Ds)(mg:Str->Option Value)(base:Heap)(CX:CXT)(k:Nat)(f:Addr)(fd:FuncData)(ps:List Str)(sp:Sp):Prop where
 len:∀vs H Q E,sp vs H Q E->vs.length=ps.length
 run:∀(A:Around) (outer:List Env) (s:Shared) (H:Hp) (args:Args) (us:List Value) (vs:List V) (Q:VK) (E:XK),bf k A->D7 P w K mg base A outer s H->BindsTo s fd args (ps.zip us)->Vals vs us->sp vs H Q E ->
  codeAny (model P w) A (.call (.ref f) args) (CR CX outer P w H s Q E) s
section
variable{X:Cx}{qL:List (Addr×Obj)}{σ:St}{H:Hp}{s s':Shared}
theorem Inv.Mf(I:Inv X qL σ H s):D7 X.prog X.w X.K X.mg X.base X.A X.stack s H:=
 ⟨I.ok.frames,I.ok.mod,I.bs,QO I.ok.bsz I.sz,I.stack,I.wB,I.hok,I.bare⟩
theorem Inv.after{Q:VK}{u:Value}(I:Inv X qL σ H s)(h:CE X.stack X.prog X.w H s Q u s'):EP X qL σ Q u s':=by obtain⟨v,H',os,bare,un,hok,r,q⟩:=h;obtain⟨hh,g,d,t,os'⟩:=s';obtain rfl:os'=s.os:=os;exact⟨v,H',I.call (h':=hh) (g':=g) (d':=d) (t':=t) (ch:=[]) un hok bare (fun b z=>absurd z (by simp)),r,q⟩
end
def oU(sp:Sp)(dvs:List V)(E:XK)(t:TA):TE:=fun σ H Q=>t σ H fun vs H1=>sp (vs++dvs) H1 Q E
def Binds(K:Ds)(fd:FuncData)(ps:List Str)(ds:List Value):Prop:=
 ∀(s:Shared) (us:List Value),K.In s.heap->(us++ds).length=ps.length->BindsTo s fd ⟨us,[]⟩ (ps.zip (us++ds))
theorem Binds.all{K:Ds}{fd:FuncData}{ps:List Str}(h:∀us:List Value,us.length=ps.length->bindArgs fd ⟨us,[]⟩=pure (ps.zip us)):Binds K fd ps []:=fun s us _ hl=>by rw[Rc]at hl ⊢;exact .of_eq (h us hl)
def Passes(CX:CXT)(X:Cx)(E:XK):Prop:=∀(qL:List (Addr×Obj)) (σ:St) (H:Hp) (s:Shared) (e:Value) (s':Shared),Inv X qL σ H s->CX X.stack H s E e s'->X.xe e s'
section
variable{X:Cx}{CX:CXT}{k:Nat}{f C:Addr}{fd:FuncData}{ps:List Str}{sp:Sp}{dvs:List V}{ds:List Value}{E:XK}{x m:Str}{p pos Ke:Pos}{e o:Expr}{es:List Expr}{ta:TE}{t:TA}
theorem IK{qL:List (Addr×Obj)}{σ:St}{H:Hp}{s:Shared}{Q:VK}{us:List Value}{vs:List V}(F:aQ X.prog X.w X.K X.mg X.base CX k f fd ps sp)(hr:bf k X.A)(hb:Binds X.K fd ps ds)(hd:Vals dvs ds)(hx:Passes CX X E)
  (I:Inv X qL σ H s) (r:Vals vs us) (h:sp (vs++dvs) H Q E):wpAny (model X.prog X.w) X.A (call (.ref f) us) (EP X qL σ Q) X.xe s:=by
 have r2:Vals (vs++dvs) (us++ds):=r.append hd;have hl:(us++ds).length=ps.length:=by rw[<- r2.length];exact F.len _ _ _ _ h
 refine wpAny_call (codeAny_mono (F.run X.A X.stack s H ⟨us,[]⟩ (us++ds) (vs++dvs) Q E hr I.Mf (hb s us I.kIn hl) r2 h) fun r s' hq=>?_);cases r with
 |error e=>exact hx qL σ H s e s' I hq
 |ok fl=>
  cases fl with
  |ret u=>exact I.after hq
  |next=>exact QN hq
  |brk=>exact QN hq
  |cont=>exact QN hq
theorem iQ(F:aQ X.prog X.w X.K X.mg X.base CX k f fd ps sp)(hr:bf k X.A)(hg:Gl X x)(hm:X.mg x=some (.ref f))(hk:QY X.K (.ref f)=true)(hb:Binds X.K fd ps ds)(hd:Vals dvs ds)(hx:Passes CX X E)
  (ha:PA X (e::es) t) (Ny:(x == ("__debug__" : Str))=false:=by decide) (he:starEach (e::es) X.env=(false,eval e X.env)::starEach es X.env:=by rfl) (Fd:(backTo pos (starEach es X.env)).any (·.1)=false:=by rfl) :
  PE X (.Call (.Name x p) (e::es) [] pos) (oU sp dvs E t):=by
 intro qL s σ H Q I h;refine wpAny_Call_Name_kw (p6 I hg hm ?_ Ny);refine PySem.W.callWith_K (h₀:=X.base) I.ok.mod.kin hk (thn (ha pos qL s σ H _ I h) fun us s1 ⟨vs,H1,I1,r,q⟩=>⟨I1.kIn,?_⟩) he Fd;exact IK F hr hb hd hx I1 r q
end
def PK(X:Cx)(kws:List Keyword)(t:TA):Prop:=
 ∀(pos:Pos) (qL:List (Addr×Obj)) (s:Shared) (σ:St) (H:Hp) (Q:List V->Hp->Prop),Inv X qL σ H s->t σ H Q->wpAny (model X.prog X.w) X.A (evalAll ((backToKw pos (keywordEach kws X.env)).map (·.2))) (AP X qL σ Q) X.xe s
section
variable{X:Cx}{CX:CXT}{k:Nat}{f C:Addr}{fd:FuncData}{ps ks:List Str}{sp:Sp}{E:XK}{x m:Str}{p pos Ke kpos:Pos}{e o:Expr}{es:List Expr}{kws:List Keyword}{te ta:TE}{t tk:TA}{nm:Option Str}
theorem IL:PK X [] dJ:=fun _ _ _ _ H Q I h=>wpAny_evalAll_nil ⟨[],H,I,.nil,h⟩
theorem D8(ha:PE X e te)(hr:PK X kws t):PK X (⟨nm,e,kpos⟩::kws) (cz te t):=by intro pos qL s σ H Q I h;show wpAny _ _ (evalAll ((do let v <- eval e X.env;standAt pos;pure v)::(backToKw pos (keywordEach kws X.env)).map (·.2))) _ _ s;refine wpAny_evalAll_cons (wpAny_bind (thn (ha qL s σ H _ I h) fun u s1 ⟨x,H1,I1,r1,q1⟩=>wpAny_bind (wpAny_standAt (wpAny_pure ?_))));exact thn (hr pos qL s1 σ H1 _ I1 q1) fun us s2 ⟨xs,H2,I2,r2,q2⟩=>⟨x::xs,H2,I2,.cons r1 r2,q2⟩
structure jt(K:Ds)(fd:FuncData)(ps ks:List Str)(g:List Value->List Value->List Value)(gV:List V->List V->List V):Prop where
 to:∀(s:Shared) (us ws:List Value),K.In s.heap->(g us ws).length=ps.length->BindsTo s fd ⟨us,ks.zip ws⟩ (ps.zip (g us ws))
 rel:∀{vs:List V} {us:List Value} {zs:List V} {ws:List Value},Vals vs us->Vals zs ws->Vals (gV vs zs) (g us ws)
def Ag(sp:Sp)(gV:List V->List V->List V)(E:XK)(t tk:TA):TE:=fun σ H Q=>t σ H fun vs H1=>tk σ H1 fun zs H2=>sp (gV vs zs) H2 Q E
variable{g:List Value->List Value->List Value}{gV:List V->List V->List V}
theorem D9{qL:List (Addr×Obj)}{σ:St}{H:Hp}{s:Shared}{Q:VK}{us ws:List Value}{vs zs:List V}(F:aQ X.prog X.w X.K X.mg X.base CX k f fd ps sp)(hr:bf k X.A)(hb:jt X.K fd ps ks g gV)(hx:Passes CX X E)
  (I:Inv X qL σ H s) (r:Vals vs us) (rz:Vals zs ws) (h:sp (gV vs zs) H Q E):wpAny (model X.prog X.w) X.A (call (.ref f) us (ks.zip ws)) (EP X qL σ Q) X.xe s:=by
 have r2:=hb.rel r rz;have hl:(g us ws).length=ps.length:=by rw[<- r2.length];exact F.len _ _ _ _ h
 refine wpAny_call (codeAny_mono (F.run X.A X.stack s H ⟨us,ks.zip ws⟩ (g us ws) (gV vs zs) Q E hr I.Mf (hb.to s us ws I.kIn hl) r2 h) fun r s' hq=>?_);cases r with
 |error e=>exact hx qL σ H s e s' I hq
 |ok fl=>
  cases fl with
  |ret u=>exact I.after hq
  |next=>exact QN hq
  |brk=>exact QN hq
  |cont=>exact QN hq
theorem Ah(F:aQ X.prog X.w X.K X.mg X.base CX k f fd ps sp)(hr:bf k X.A)(hg:Gl X x)(hm:X.mg x=some (.ref f))(hk:QY X.K (.ref f)=true)(hb:jt X.K fd ps ks g gV)(hx:Passes CX X E)
  (ha:PA X (e::es) t) (hkw:PK X kws tk) (hall:(backToKw pos (keywordEach kws X.env)).all (·.1.isSome)=true:=by rfl) (hks:(backToKw pos (keywordEach kws X.env)).filterMap (·.1)=ks:=by rfl)
  (Ny:(x == ("__debug__" : Str))=false:=by decide) (he:starEach (e::es) X.env=(false,eval e X.env)::starEach es X.env:=by rfl)
  (Fd:((backTo pos (starEach (e::es) X.env)).any (·.1)||(backToKw pos (keywordEach kws X.env)).any (·.1.isNone))=false:=by rfl) :
  PE X (.Call (.Name x p) (e::es) kws pos) (Ag sp gV E t tk):=by
 intro qL s σ H Q I h;refine wpAny_Call_Name_kw (p6 I hg hm ?_ Ny);refine PySem.W.callWith_KW (h₀:=X.base) I.ok.mod.kin hk hall (thn (ha pos qL s σ H _ I h) fun us s1 ⟨vs,H1,I1,r,q⟩=>?_) Fd he;refine thn (hkw pos qL s1 σ H1 _ I1 q) fun ws s2 ⟨zs,H2,I2,rz,q2⟩=>⟨I2.kIn,?_⟩;rw[hks];exact D9 F hr hb hx I2 r rz q2
end
section
variable{x:Str}{v:Value}
structure ay(N P:List Str)(sc:Scope):Prop where
 kind:sc.kind=.function
 co:sc.isCoroutine=false
 gen:sc.isGenerator=false
 nd:N.Nodup
 pre:N.take P.length=P
 par:∀x∈P,sc.names.lookup x=some .local\/sc.names.lookup x=some .cell
 IM:∀y∈sc.names,y.2≠.free
theorem oV{kindOf:Str->Option NameKind}:∀{binds:List (Str×Value)} {m:Str->Option Value},(∀v,(x,v)∉binds)->bindL kindOf binds m x=m x
 |[],_,_=>rfl
 |(n,v)::r,m,h=>by
  unfold bindL;rw[oV fun w hw=>h w (Qg _ hw)];split
  ·have:x≠n:=by rintro rfl;exact h v Qe
   simp[this]
  ·rfl
theorem oW{kindOf:Str->Option NameKind}:∀{binds:List (Str×Value)} {m:Str->Option Value},(∀v,(x,v)∉binds)->bindC kindOf binds m x=m x
 |[],_,_=>rfl
 |(n,v)::r,m,h=>by
  unfold bindC;rw[oW fun w hw=>h w (Qg _ hw)];split
  ·rfl
  ·have:x≠n:=by rintro rfl;exact h v Qe
   simp[this]
theorem oX{kindOf:Str->Option NameKind}:∀{P:List Str} {vs:List Value} {i:Nat} {m:Str->Option Value},P.Nodup->P[i]?=some x->vs[i]?=some v->kindOf x=some .local ->
  bindL kindOf (P.zip vs) m x=some v
 |[],_,_,_,_,h,_,_=>by simp at h
 |_::_,[],_,_,_,_,h,_=>by simp at h
 |p::P,w::vs,0,m,nd,h1,h2,hk=>by simp at h1 h2;subst h1;subst h2;show bindL kindOf ((p,w)::P.zip vs) m p=_;unfold bindL;rw[oV fun v hv=>(Qv.mp nd).1 (Ss hv).1,if_pos hk];simp
 |p::P,w::vs,i+1,m,nd,h1,h2,hk=>by show bindL kindOf ((p,w)::P.zip vs) m x=_;unfold bindL;exact oX (i:=i) (Qv.mp nd).2 (by simpa using h1) (by simpa using h2) hk
theorem oY{kindOf:Str->Option NameKind}:∀{P:List Str} {vs:List Value} {i:Nat} {m:Str->Option Value},P.Nodup->P[i]?=some x->vs[i]?=some v->kindOf x≠some .local ->
  bindC kindOf (P.zip vs) m x=some v
 |[],_,_,_,_,h,_,_=>by simp at h
 |_::_,[],_,_,_,_,h,_=>by simp at h
 |p::P,w::vs,0,m,nd,h1,h2,hk=>by simp at h1 h2;subst h1;subst h2;show bindC kindOf ((p,w)::P.zip vs) m p=_;unfold bindC;rw[oW fun v hv=>(Qv.mp nd).1 (Ss hv).1,if_neg hk];simp
 |p::P,w::vs,i+1,m,nd,h1,h2,hk=>by show bindC kindOf ((p,w)::P.zip vs) m x=_;unfold bindC;exact oY (i:=i) (Qv.mp nd).2 (by simpa using h1) (by simpa using h2) hk
noncomputable def start(N:List Str)(vs:List V):St:=vs.map some++Qd (N.length-vs.length) none
noncomputable def rE(CX:CXT)(P:Program)(w:World)(K:Ds)(mg:Str->Option Value)(base:Heap)(N:List Str)(qual:Str)(scope:Scope)(f:Addr)(cd:Value)(A:Around)(outer:List Env)(s:Shared)(H:Hp)(E:XK):Cx where
 prog:=P
 w:=w
 K:=K
 mg:=mg
 base:=base
 A:=A.deeper (envOfC qual scope s.heap.objs.size f cd)
 N:=N
 s₀:=s
 H₀:=H
 env:=envOfC qual scope s.heap.objs.size f cd
 outer:=outer
 stack:=envOfC qual scope s.heap.objs.size f cd::outer
 ex:=[]
 calm:=true
 fn:=fun _=>true
 pn:=[]
 xe:=fun e s'=>wpAny (model P w) (A.deeper (envOfC qual scope s.heap.objs.size f cd)) (leaving (envOfC qual scope s.heap.objs.size f cd) e) (fun _ s''=>CX outer H s E e s'') (fun e' s''=>CX outer H s E e' s'') s'
theorem rF{sc:Scope}{n:Nat}(h:sc.names.lookup x=some .cell):∃c,(cellsFrom n sc.names []).lookup x=some c:=by have q:=PySem.W.cellsFrom_some sc.names n [] (.inl h);exact Option.isSome_iff_exists.mp q
theorem yH{CX:CXT}{P:Program}{w:World}{K:Ds}{mg:Str->Option Value}{base:Heap}{N ps:List Str}{qual:Str}{scope:Scope}{f:Addr}{cd:Value}{A:Around}{outer:List Env}{s s1:Shared}{H:Hp}{E:XK}{us:List Value}{vs:List V}
  (S:ay N ps scope) (hd:A.handled=none) (e0:D7 P w K mg base A outer s H) (hl:vs.length=ps.length) (r:Vals vs us)
  (x:InCallC s s.heap.objs.size (bindL (envOfC qual scope s.heap.objs.size f cd).kindOf (ps.zip us) fun _=>none) (cellsFrom (s.heap.objs.size+1) scope.names []) (bindC (envOfC qual scope s.heap.objs.size f cd).kindOf (ps.zip us) fun _=>none) s1) :
  Inv (rE CX P w K mg base N qual scope f cd A outer s H E) [] (start N vs) H s1:=by
 have Fd:ps.length<=N.length:=by have:=congrArg List.length S.pre;rw[Rg]at this;lia
 obtain⟨h1,tk,rfl,hk⟩:=x.done;have noA:∀b:Addr,b∉(rE CX P w K mg base N qual scope f cd A outer s H E).ex:=fun b z=>absurd (show b∈([]:List Addr) from z) (by simp);refine ⟨⟨e0.mod,S.kind,rfl,rfl,Qf _,fun y z c h1 h2=>?_,fun y hy=>?_,fun y c _ h=>?_,fun _=>hd,Around.frames_deeper e0.frames,.inr ⟨rfl,rfl⟩,fun b z=>absurd z (noA b),e0.bs,e0.bsz,fun b _ _=>noA b,fun b z=>absurd z (noA b),e0.kX,e0.frf⟩,
  rfl,e0.bare,Un.kept hk,⟨_,x.toInCall.ns,fun i y v h1 h2 h3=>?_⟩,fun y c h=>⟨_,x.cell y c h⟩,e0.hok.fresh (Qf _),fun y c h=>?_,fun p hp=>absurd (show p∈([]:List (Addr×Obj)) from hp) (by simp),e0.hok.kept hk,?_⟩
 ·exact name_of_addr x.apart (PySem.mem_of_lookup h1) (PySem.mem_of_lookup h2)
 ·have hy:scope.names.lookup y=some .cell\/scope.names.lookup y=some .free:=hy;rcases hy with hy | hy
  ·exact rF hy
  ·exact absurd rfl (S.IM _ (PySem.mem_of_lookup hy))
 ·exact SW (x.above y c (PySem.mem_of_lookup h))
 ·have hi:i<vs.length:=by
   unfold start at h2;by_cases hi:i<vs.length
   ·exact hi
   ·rw[QI (by simpa using hi)]at h2;rw[Q8]at h2;split at h2<;>cases h2
  have ha:vs[i]?=some v:=by
   unfold start at h2;rw[Qi (by simpa using hi),Qm]at h2;cases e:vs[i]? with
   |none=>rw[e]at h2;cases h2
   |some a=>rw[e]at h2;cases h2;rfl
  obtain⟨u,hu,rv⟩:=r.get ha;have hp:ps[i]?=some y:=by rw[<- S.pre,RP (by lia)];exact h1
  have ndP:ps.Nodup:=by rw[<- S.pre];exact S.nd.sublist (List.take_sublist _ _)
  refine⟨u,rv,?_⟩;rcases S.par y (QL hp) with k | k
  ·exact .inl ⟨k,oX ndP hp hu k⟩
  ·obtain⟨c,e⟩:=rF (n:=s.heap.objs.size+1) k;refine .inr ⟨.inl k,c,e,?_⟩;have q:=x.cell y c e;rw[oY ndP hp hu (by show scope.names.lookup y≠_;rw[k];decide)]at q;exact q
 ·exact e0.hok.fresh (SW (x.above y c (PySem.mem_of_lookup h)))
 ·unfold start;show _=N.length;rw[Qn,Dp,RY]
  lia
theorem Gu{CX:CXT}{P:Program}{w:World}{K:Ds}{mg:Str->Option Value}{base:Heap}{k:Nat}{f:Addr}{name qual:Str}{params:Arguments}{body:List Stmt}{scope:Scope}{dV kV doc pm cdv ct oc:Value}{an od:Option Addr}
  {osl:Array (Option Value)} {N ps:List Str} {sp:Sp} (lk:K.lookup f=some ⟨oc,od,.func (QD name qual params body scope dV kV doc pm an cdv ct),osl⟩) (Nt:RG K cdv qual=true) (S:ay N ps scope)
  (len:∀vs H Q E,sp vs H Q E->vs.length=ps.length)
  (hbody:∀ (A:Around) (outer:List Env) (s:Shared) (H:Hp) (vs:List V) (Q:VK) (E:XK),bf k (A.deeper (envOfC qual scope s.heap.objs.size f cdv))→sp vs H Q E →
   ∃t,PSs (rE CX P w K mg base N qual scope f cdv A outer s H E) body t/\t { nx:=fun _ H'=>Q .non H',rt:=Q } (start N vs) H) :
  aQ P w K mg base CX (k+1) f (QD name qual params body scope dV kV doc pm an cdv ct) ps sp:=by
 refine⟨len,fun A outer s H args us vs Q E hr e0 hb r hsp=>?_⟩;have hl:=len _ _ _ _ hsp;have KX:K.In s.heap:=e0.mod.kin.keeps fun b o e=>(e0.bs b o e).1;have lim:s.heap.NoLimit:=e0.mod.nolimit.keeps fun b o e=>(e0.bs b o e).1;have hkind:∀y∈ps.zip us,scope.names.lookup y.1=some .local\/(scope.names.lookup y.1=some .cell/\((cellsFrom (s.heap.objs.size+1) scope.names []).lookup y.1).isSome=true):=fun⟨n,v⟩ hy=>by
  rcases S.par n (Ss hy).1 with q | q
  ·exact .inl q
  ·exact .inr ⟨q,PySem.W.cellsFrom_some _ _ _ (.inl q)⟩
 refine codeAny_call_function hr.depth (KX _ _ lk) rfl S.co S.gen rfl (PySem.W.codeRec_of KX Nt) (hb _ _ _ _ ?_);refine wpAny_newFunctionEnv_cells S.kind hkind fun env he s1 x=>?_;subst he;refine⟨lim.keeps x.toInCall.keep,codeAny_func ?_⟩;obtain⟨t,ht,hq⟩:=hbody A outer s H vs Q E (hr.deeper _) hsp;have I:Inv (rE CX P w K mg base N qual scope f cdv A outer s H E) [] (start N vs) H s1:=yH S hr.hd e0 hl r x;refine wpAny_mono (ht [] s1 (start N vs) H _ I hq) (fun fl s' hs=>?_) fun e s' hs=>hs;have Nr:∀{σ':St} {H':Hp} {v:V} {u:Value},Inv (rE CX P w K mg base N qual scope f cdv A outer s H E) [] σ' H' s'->RelV v u->Q v H'->CE outer P w H s Q u s':=
  fun {σ' H' v u} J rv q=>⟨v,H',J.os,J.bare,J.base,J.hok,rv,q⟩
 cases fl with
 |ret u=>obtain⟨v,σ',H',J,rv,q⟩:=hs;exact Nr J rv q
 |next=>obtain⟨σ',H',J,q⟩:=hs;exact Nr (v:=V.non) (u:=Value.none) J rfl q
 |brk=>obtain⟨_,_,_,q⟩:=hs;exact QN q
 |cont=>obtain⟨_,_,_,q⟩:=hs;exact QN q
end
section
variable{X:Cx}{x:Str}{p pos:Pos}{e:Expr}{es:List Expr}{t:TA}{id T:String}{r:List V->Hp->VK->Prop}
def tCB(r:List V->Hp->VK->Prop)(t:TA):TE:=fun σ H Q=>t σ H fun vs H1=>r vs H1 Q
theorem rG(hc:cZ X (.builtin id) r)(hg:Gl X x)(hm:X.mg x=none)(hv:bootBuiltins x=some (.builtin id))(ha:PA X (e::es) t)(hn:x ≠ "__name__" := by decide)(Ny:(x == ("__debug__" : Str))=false:=by decide)
  (he:starEach (e::es) X.env=(false,eval e X.env)::starEach es X.env:=by rfl) (Fd:(backTo pos (starEach es X.env)).any (·.1)=false:=by rfl):PE X (.Call (.Name x p) (e::es) [] pos) (tCB r t):=by
 intro qL s σ H Q I h;refine wpAny_Call_Name_kw (cB I hg hm hv ?_ hn Ny);exact PyProof.Rows.callWith_builtin1 (thn (ha pos qL s σ H _ I h) fun us s1 ⟨vs,H1,I1,r1,q1⟩=>hc qL s1 σ H1 vs us Q I1 r1 q1) he Fd
theorem yI(hc:cZ X (.type T) r)(hg:Gl X x)(hm:X.mg x=none)(hv:bootBuiltins x=some (.type T))(ha:PA X (e::es) t)(hn:x ≠ "__name__" := by decide)(Ny:(x == ("__debug__" : Str))=false:=by decide)
  (he:starEach (e::es) X.env=(false,eval e X.env)::starEach es X.env:=by rfl) (Fd:(backTo pos (starEach es X.env)).any (·.1)=false:=by rfl):PE X (.Call (.Name x p) (e::es) [] pos) (tCB r t):=by
 intro qL s σ H Q I h;refine wpAny_Call_Name_kw (cB I hg hm hv ?_ hn Ny);exact QU (thn (ha pos qL s σ H _ I h) fun us s1 ⟨vs,H1,I1,r1,q1⟩=>hc qL s1 σ H1 vs us Q I1 r1 q1) he Fd
end
end L2
namespace HT
open PySem PyProof.Rows
section
variable{prog:Program}{w:World}{A:Around}{E:Value->Shared->Prop}{s:Shared}
noncomputable def sIx(n d:Nat):Option Int->Nat
 |none=>d
 |some v=>if v<0 then (v+(n:Int)).toNat else min v.toNat n
end
end HT
namespace L2
open PySem PySem.Spec PyProof.Rows
noncomputable abbrev TO:=St->Hp->(Option Int->Hp->Prop)->Prop
def PO(X:Cx)(e:Option Expr)(t:TO):Prop:=
 ∀(qL:List (Addr×Obj)) (s:Shared) (σ:St) (H:Hp) (Q:Option Int->Hp->Prop),Inv X qL σ H s->t σ H Q ->
  wpAny (model X.prog X.w) X.A (evalPart e X.env) (fun u s'=>∃o H',Inv X qL σ H' s'/\IsPart u o/\Q o H') X.xe s
def p9:TO:=fun _ H Q=>Q none H
def Ai(t:TE):TO:=fun σ H Q=>t σ H fun x H1=>∃i,x=.int i/\Q (some i) H1
section
variable{X:Cx}{e:Expr}{te:TE}{lo hi:Option Expr}{tl th:TO}{pos p2:Pos}
theorem D_:PO X none p9:=by intro qL s σ H Q I h;rw[evalPart_none];exact wpAny_pure ⟨none,H,I,.none,h⟩
theorem Ea(h:PE X e te):PO X (some e) (Ai te):=by intro qL s σ H Q I hw;rw[evalPart_some];refine thn (h qL s σ H _ I hw) fun u s1 ⟨x,H1,I1,r1,q1⟩=>?_;obtain⟨i,rfl,q⟩:=q1;obtain⟨t,rfl⟩:=r1;exact⟨some i,H1,I1,.int i t,q⟩
def SlR(X:Cx)(r:V->Option Int->Option Int->Hp->VK->Prop):Prop:=
 ∀(qL:List (Addr×Obj)) (s:Shared) (σ:St) (H:Hp) (x:V) (v vl vu:Value) (lo hi:Option Int) (sl:Addr) (Q:VK),Inv X qL σ H s->RelV x v->s.heap.IsSliceOf sl vl vu .none->IsPart vl lo->IsPart vu hi->r x lo hi H Q ->
  ∃T id,typeLookup (.type T) "__getitem__" = pure (some (.builtin id))/\s.TypeIs v T/\wpAny (model X.prog X.w) X.A (getItem v (.ref sl)) (EP X qL σ Q) X.xe s
def tSl(r:V->Option Int->Option Int->Hp->VK->Prop)(te:TE)(tl th:TO):TE:=fun σ H Q=>te σ H fun x H1=>tl σ H1 fun l H2=>th σ H2 fun u H3=>r x l u H3 Q
theorem Aj{r:V->Option Int->Option Int->Hp->VK->Prop}(hr:SlR X r)(he:PE X e te)(hl:PO X lo tl)(hu:PO X hi th):PE X (.Subscript e (.Slice lo hi none p2) pos) (tSl r te tl th):=by intro qL s σ H Q I h;refine Subscript_ (thn (he qL s σ H _ I h) fun v s1 ⟨x,H1,I1,r1,q1⟩=>?_);refine wpAny_Slice (thn (hl qL s1 σ H1 _ I1 q1) fun vl s2 ⟨l,H2,I2,pl,q2⟩=>thn (hu qL s2 σ H2 _ I2 q2) fun vu s3 ⟨u,H3,I3,pu,q3⟩=>?_);rw[evalPart_none];refine wpAny_pure ?_;have I4:Inv X qL σ H3 { s3 with heap:=s3.heap.push { cls:=.type "slice",data:=.fields #[vl,vu,.none] } }:=I3.kept (t':=s3.toks) fun b ob q=>Qc _ q;obtain⟨T,id,hT,ht,hg⟩:=hr qL { s3 with heap:=s3.heap.push { cls:=.type "slice",data:=.fields #[vl,vu,.none] } } σ H3 x v vl vu l u s3.heap.objs.size Q I4 r1 (Heap.IsSliceOf.new ..) pl pu q3;show wpAny (model X.prog X.w) X.A (subscriptTail e (.Slice lo hi none p2) v (.ref s3.heap.objs.size)) (EP X qL σ Q) X.xe { s3 with heap:=s3.heap.push { cls:=.type "slice",data:=.fields #[vl,vu,.none] } };exact tail_any (ops:=[.ref s3.heap.objs.size,v]) ht hT hg (by with_unfolding_all rfl)
noncomputable def uS(xs:List V)(lo hi:Option Int):List V:=(xs.drop (HT.sIx xs.length 0 lo)).take (HT.sIx xs.length xs.length hi-HT.sIx xs.length 0 lo)
theorem rH(xs:List V)(lo hi:Option Int):(uS xs lo hi).length<=xs.length:=by
 unfold uS;rw[Rg,List.length_drop]
 lia
end
noncomputable def ixN(n:Nat)(i:Int):Option Nat:=if 0<=i then (if i<n then some i.toNat else none) else if -(n:Int)<=i then some (i+n).toNat else none
noncomputable def atI{α:Type}(xs:List α)(i:Int):Option α:=(ixN xs.length i).bind fun j=>xs[j]?
theorem wG{n:Nat}{i:Int}{j:Nat}(h:ixN n i=some j):seqIndex? i n=some j/\j<n/\-(n:Int)<=i/\i<n:=by
 unfold ixN at h;by_cases h0:0<=i
 ·rw[if_pos h0]at h;by_cases h1:i<n
  ·rw[if_pos h1]at h;have e:i.toNat=j:=Option.some.inj h;exact⟨by rw[seqIndex_of h0 h1,e],by lia,by lia,h1⟩
  ·rw[if_neg h1]at h;cases h
 ·rw[if_neg h0]at h;by_cases h1:-(n:Int)<=i
  ·rw[if_pos h1]at h;have e:(i+n).toNat=j:=Option.some.inj h;exact⟨by rw[seqIndex_neg (by lia) h1,e],by lia,h1,by lia⟩
  ·rw[if_neg h1]at h;cases h
theorem wH{α:Type}{xs:List α}{i:Int}{v:α}(h:atI xs i=some v):∃j,seqIndex? i xs.length=some j/\xs[j]?=some v/\j<xs.length/\-(xs.length:Int)<=i/\i<xs.length:=by
 unfold atI at h;cases e:ixN xs.length i with
 |none=>rw[e]at h;cases h
 |some j=>rw[e]at h;obtain⟨h1,h2,h3,h4⟩:=wG e;exact⟨j,h1,h,h2,h3,h4⟩
def kI(b:Expr):Prop:=∀o i,subscripted b false o i=operate [o,i] (getItem o i)
def IxR(X:Cx)(r:R2):Prop:=
 ∀(value slice:Expr) (qL:List (Addr×Obj)) (s:Shared) (σ:St) (H:Hp) (x y:V) (v u:Value) (Q:VK),Inv X qL σ H s->RelV x v->RelV y u->r x y H Q ->
  subscripted slice false v u=operate [v,u] (getItem v u)->wpAny (model X.prog X.w) X.A (subscriptTail value slice v u) (EP X qL σ Q) X.xe s
def MtR(X:Cx)(id:String)(r:V->List V->Hp->VK->Prop):Prop:=
 ∀(qL:List (Addr×Obj)) (s:Shared) (σ:St) (H:Hp) (x:V) (xs:List V) (v:Value) (us:List Value) (Q:VK),Inv X qL σ H s->RelV x v->Vals xs us->r x xs H Q ->
  wpAny (model X.prog X.w) X.A (call (.builtin id) (v::us)) (EP X qL σ Q) X.xe s
section
variable{X:Cx}{a b:Expr}{ta tb:TE}{pos:Pos}
section
variable{qL:List (Addr×Obj)}{s:Shared}{H:Hp}{σ:St}
theorem IxR.or{r r':R2}(h:IxR X r)(h':IxR X r'):IxR X (fun x y H Q=>r x y H Q\/r' x y H Q):=by
 intro value slice qL s σ H x y v u Q I rx ry q hs;rcases q with q | q
 ·exact h value slice qL s σ H x y v u Q I rx ry q hs
 ·exact h' value slice qL s σ H x y v u Q I rx ry q hs
theorem Ak{r:R2}(hr:IxR X r)(ha:PE X a ta)(hb:PE X b tb)(hs:kI b):PE X (.Subscript a b pos) (tOp r ta tb):=by intro qL s σ H Q I h;exact Subscript_ (Iw ha hb I h fun v u s2 x y H2 I2 rx ry q=>hr a b qL s2 σ H2 x y v u Q I2 rx ry q (hs _ _))
def yJ(K:Ds):R2:=fun x y H Q=>∃p xs i v,x=.ref p/\y=.int i/\SqL K H p xs/\atI xs i=some v/\Q v H
def Mg(K:Ds):R2:=fun x y H Q=>∃p xs i v,x=.ref p/\y=.int i/\SqT K H p xs/\atI xs i=some v/\Q v H
theorem p_:IxR X (yJ X.K):=by
 intro value slice qL s σ H x y v u Q I rx ry h hs;obtain⟨p,xs,i,z,rfl,rfl,hq,he,q⟩:=h;cases rx;obtain⟨t,rfl⟩:=ry;obtain⟨its,r,pl,hz⟩:=I.list hq;obtain⟨j,h1,h2,h3,h4,h5⟩:=wH he;obtain⟨w,ew,rw'⟩:=r.get h2;have hl:=r.length;have hn:=k8;have Nr:EP X qL σ Q w s:=⟨z,H,I,rw',q⟩
 by_cases h0:0<=i
 ·have hj:i.toNat=j:=by
   rw[seqIndex_of h0 h5]at h1;exact Option.some.inj h1
  exact item_listR pl.isList h0 (by lia) (by rw[hj];simpa using ew) Nr hs
 ·have hj:(i+(its.toArray.size:Int)).toNat=j:=by
   rw[seqIndex_neg (by lia) h4]at h1;rw[Qj,<- hl];exact Option.some.inj h1
  exact subscriptTail_builtinR (x:=w) pl.isList.typeIs slot_list_getitem.lookup
   (wpAny_getItem_list_neg (Q:=fun r s'=>r=w/\EP X qL σ Q r s') pl.isList (by lia) (by rw[Qj]<;>lia) (by lia) (by rw[hj];simpa using ew) ⟨rfl,Nr⟩) hs
theorem IP:IxR X (Mg X.K):=by
 intro value slice qL s σ H x y v u Q I rx ry h hs;obtain⟨p,xs,i,z,rfl,rfl,hq,he,q⟩:=h;cases rx;obtain⟨t,rfl⟩:=ry;obtain⟨its,r,pl,hz⟩:=I.tuple hq;obtain⟨j,h1,h2,h3,h4,h5⟩:=wH he;obtain⟨w,ew,rw'⟩:=r.get h2;have hl:=r.length;have hn:=k8;have Nr:EP X qL σ Q w s:=⟨z,H,I,rw',q⟩
 exact subscriptTail_builtinR (x:=w) pl.typeIs slot_tuple_getitem.lookup
  (getItem_tuple (j:=j) (Q:=fun r s'=>r=w/\EP X qL σ Q r s') pl (by lia) (by lia) (by rw[Qj,<- hl];exact h1) (by simpa using ew) ⟨rfl,Nr⟩) hs
theorem uT(its:List Value)(n j:Nat)(u:Value):Si (·.setIfInBounds j u) { cls:=.type "list",data:=.seq its.toArray n }={ cls:=.type "list",data:=.seq (its.set j u).toArray n }:=by simp[Si]
theorem Inv.lst{qL:List (Addr×Obj)}{σ:St}{H:Hp}{s:Shared}{p:Addr}{xs:List V}(I:Inv X qL σ H s)(h:H p=some (.lst xs)) :
  ∃(its:List Value) (n:Nat),Vals xs its/\s.heap.get? p=some { cls:=.type "list",data:=.seq its.toArray n }/\xs.length<=sizeLine:=by
 obtain⟨z,its,n,r,e⟩:=I.hok p _ h;exact⟨its,n,r,e,z⟩
theorem Inv.IQ{p:Addr}{xs ys:List V}{its its':List Value}{n n':Nat}{f:Obj->Obj}(I:Inv X qL σ H s)(h:H p=some (.lst xs))
  (ho:s.heap.get? p=some { cls:=.type "list",data:=.seq its.toArray n }) (hf:f { cls:=.type "list",data:=.seq its.toArray n }={ cls:=.type "list",data:=.seq its'.toArray n' }) (r:Vals ys its') (hz:ys.length<=sizeLine) (t:Nat) :
  Inv X qL σ (upd H p (.lst ys)) { s with heap:=s.heap.update p f,toks:=t }:=by
 have e:(s.heap.update p f).get? p=some { cls:=.type "list",data:=.seq its'.toArray n' }:=by rw[RZ f ho (by rw[hf]<;>rfl),hf]
 refine I.write (x:=p) (e:=p) (by rw[h];trivial) (.inl rfl) (fun b u hb q=>(Q9 _ _ (Ne.symm hb)).trans q) ⟨_,e⟩ ?_;exact⟨hz,its',n',r,e⟩
def Gv:V->V->V->Hp->(Hp->Prop)->Prop:=fun o i v H Q=>∃p xs k j,o=.ref p/\i=.int k/\H p=some (.lst xs)/\ixN xs.length k=some j/\Q (upd H p (.lst (xs.set j v)))
theorem set_list:L5 X Gv:=by
 intro qL s σ H o i v ov iv u Q I ro ri rv h;obtain⟨p,xs,k,j,rfl,rfl,hp,hj,q⟩:=h;cases ro;obtain⟨t,rfl⟩:=ri;obtain⟨its,n,r,ho,hz⟩:=I.lst hp;obtain⟨h1,h2,h3,h4⟩:=wG hj;have hl:=r.length;have hn:=k8;have I':Inv X qL σ (upd H p (.lst (xs.set j v))) { s with heap:=s.heap.update p (Si (·.setIfInBounds j u)) }:=
  I.IQ hp ho (uT its n j u) (r.set rv j) (by rw[QC];exact hz) s.toks
 by_cases h0:0<=k
 ·have hk:k.toNat=j:=by
   rw[seqIndex_of h0 h4]at h1;exact Option.some.inj h1
  exact PySem.W.ki_setAt ho h0 (by lia) (by rw[Qj,<- hl];exact h4) (by rw[hk];exact⟨_,I',q⟩)
 ·have hk:(k+(its.toArray.size:Int)).toNat=j:=by
   rw[seqIndex_neg (by lia) h3]at h1;rw[Qj,<- hl];exact Option.some.inj h1
  exact PySem.W.ki_setBack ho (by lia) (by rw[Qj,<- hl];exact h3) (by lia) (by rw[hk];exact⟨_,I',q⟩)
theorem qc(lo hi:Option Int)(n:Nat):(sliceBounds lo hi none n).1=((HT.sIx n 0 lo:Nat):Int)/\(sliceBounds lo hi none n).2.1=((HT.sIx n n hi:Nat):Int)/\(sliceBounds lo hi none n).2.2=1:=by
 refine⟨?_,?_,rfl⟩
 ·cases lo with
  |none=>simp[sliceBounds,HT.sIx]
  |some i=>
   simp only[sliceBounds,HT.sIx,Option.getD_none,show (1:Int)>0 by decide,if_true];by_cases h:i<0
   ·simp only[h,if_true]<;>lia
   ·simp only[h,if_false]<;>lia
 ·cases hi with
  |none=>simp[sliceBounds,HT.sIx]
  |some i=>
   simp only[sliceBounds,HT.sIx,Option.getD_none,show (1:Int)>0 by decide,if_true];by_cases h:i<0
   ·simp only[h,if_true]<;>lia
   ·simp only[h,if_false]<;>lia
theorem oG(its:List Value)(lo hi:Option Int):slicePick its.toArray lo hi none=((its.drop (HT.sIx its.length 0 lo)).take (HT.sIx its.length its.length hi-HT.sIx its.length 0 lo)).toArray:=by obtain⟨h1,h2,h3⟩:=qc lo hi its.toArray.size;unfold slicePick;rw[h1,h2,h3];simp only[sliceRange_one,pick_run,Qj]<;>rfl
def Mh(K:Ds):V->Option Int->Option Int->Hp->VK->Prop:=fun x lo hi H Q=>∃a xs,x=.ref a/\SqL K H a xs/\∀p,H p=none->Q (.ref p) (upd H p (.lst (uS xs lo hi)))
theorem Eb:SlR X (Mh X.K):=by intro qL s σ H x v vl vu lo hi sl Q I rx hs pl pu h;obtain⟨a,xs,rfl,hx,q⟩:=h;cases rx;obtain⟨its,r,ht,hz⟩:=I.list hx;have zo:=r.length;refine⟨"list",_,slot_list_getitem.lookup,ht.isList.typeIs,?_⟩;refine wpAny_getItem_list_slice ht.isList hs pl pu .none (by simp) ?_ (by rw[Qj]<;>lia);rw[oG,<- zo];refine⟨.ref s.heap.objs.size,_,I.laid (t':=s.toks) (o:=.lst (uS xs lo hi)) (fun b ob q=>Qc _ q) (Qf _) ?_,rfl,q _ (I.hok.fresh (Qf _))⟩;exact⟨QO (rH xs lo hi) hz,_,0,(r.drop (HT.sIx xs.length 0 lo)).take (HT.sIx xs.length xs.length hi-HT.sIx xs.length 0 lo),QA _ rfl⟩
theorem qd:cZ X (.builtin "len") (fun xs H Q=>∃p ys,xs=[.ref p]/\(SqL X.K H p ys\/SqT X.K H p ys)/\Q (.int ys.length) H):=by
 intro qL s σ H xs us Q I r h;obtain⟨p,ys,rfl,hq,q⟩:=h;obtain⟨u,rfl,rx⟩:=vals1 r;cases rx;have hn:=k8;rcases hq with hq | hq
 ·obtain⟨its,r',pl,hz⟩:=I.list hq;have zo:=r'.length;exact Calls.call_len_list pl.isList (by simp only[Qj]<;>lia) ⟨.int ys.length,H,I.tok _,⟨s.toks+1,by rw[Qj,zo]⟩,q⟩
 ·obtain⟨its,r',pl,hz⟩:=I.tuple hq;have zo:=r'.length;exact len_tuple pl (by simp only[Qj]<;>lia) ⟨.int ys.length,H,I.tok _,⟨s.toks+1,by rw[Qj,zo]⟩,q⟩
theorem qe:cZ X (.type "list") (fun xs H Q=>∃p ys,xs=[.ref p]/\(SqL X.K H p ys\/SqT X.K H p ys)/\∀l,H l=none->Q (.ref l) (upd H l (.lst ys))):=by
 intro qL s σ H xs us Q I r h;obtain⟨p,ys,rfl,hq,q⟩:=h;obtain⟨u,rfl,rx⟩:=vals1 r;cases rx;have Nr:∀(its:List Value),Vals ys its->ys.length<=sizeLine->∀(h':Heap) (c':Nat),(∀b o',s.heap.get? b=some o'->h'.get? b=some o') ->
   h'.get? s.heap.objs.size=some { cls:=.type "list",dict:=none,data:=.seq its.toArray c',slots:=#[] }->EP X qL σ Q (.ref s.heap.objs.size) { s with heap:=h' }:=fun its r' hz h' c' kp e=>
  ⟨.ref s.heap.objs.size,_,I.laid (t':=s.toks) kp (Qf _) (show aT X.prog X.w _ h' _ (.lst ys) from ⟨hz,its,c',r',e⟩),rfl,q _ (I.hok.fresh (Qf _))⟩
 rcases hq with hq | hq
 ·obtain⟨its,r',pl,hz⟩:=I.list hq;have zo:=r'.length;obtain⟨o,ho,hc,n,hd⟩:=pl.isList;exact call_list_seq p (.inl rfl) ho hc hd (fun h' c' kp e=>Nr its r' hz h' c' kp e) (by simp only[Qj]<;>lia)
 ·obtain⟨its,r',pl,hz⟩:=I.tuple hq;have zo:=r'.length;obtain⟨o,ho,hc,n,hd⟩:=pl;exact call_list_seq p (.inr rfl) ho hc hd (fun h' c' kp e=>Nr its r' hz h' c' kp e) (by simp only[Qj]<;>lia)
theorem oH:cZ X (.type "tuple") (fun xs H Q=>∃p ys,xs=[.ref p]/\((SqL X.K H p ys/\∀l,H l=none->Q (.ref l) (upd H l (.tup ys)))\/(SqT X.K H p ys/\Q (.ref p) H))):=by
 intro qL s σ H xs us Q I r h;obtain⟨p,ys,rfl,h⟩:=h;obtain⟨u,rfl,rx⟩:=vals1 r;cases rx;rcases h with⟨hq,q⟩ | ⟨hq,q⟩
 ·obtain⟨its,r',pl,hz⟩:=I.list hq;have zo:=r'.length;refine call_tuple_list pl.isList (fun h' kp=>?_) (by simp only[Qj]<;>lia);have I1:Inv X qL σ H { s with heap:=h' }:=I.kept (t':=s.toks) kp;have I2:Inv X qL σ (upd H h'.objs.size (.tup ys)) { s with heap:=h'.push { cls:=.type "tuple",data:=.seq its.toArray } }:=
   I1.laid (t':=s.toks) (fun b o e=>Qc _ e) (Qf _) (show aT X.prog X.w _ _ _ (.tup ys) from ⟨hz,its,r',IsTup.new _ _⟩)
  exact⟨.ref h'.objs.size,_,I2,rfl,q _ (I1.hok.fresh (Qf _))⟩
 ·obtain⟨its,r',pl,hz⟩:=I.tuple hq;exact call_tuple_same pl ⟨.ref p,H,I,rfl,q⟩
def tyV(K:Ds)(T:String)(x:V)(H:Hp):Prop:=match x with
 |.str _=>T = "str"
 |.int _=>T = "int"
 |.ref p=>(T = "list" /\ ∃xs,SqL K H p xs)\/(T = "tuple" /\ ∃o,K.lookup p=some o/\o.cls=.type "tuple" /\ o.dict=none) \/
   (T = "dict" /\ ((∃kvs,H p=some (.dK kvs))\/∃kvs ts,H p=some (.dT kvs ts)))\/(T = "set" /\ ∃S n,H p=some (.set S n))
 |_=>False
theorem IS{T:String}{x:V}{v:Value}(I:Inv X qL σ H s)(r:RelV x v)(ty:tyV X.K T x H) :
  s.TypeIs v T/\∀a,v=.ref a->∃ob,s.heap.get? a=some ob/\ob.dict=none:=by
 cases x with
 |str z=>obtain⟨t,rfl⟩:=r;cases (show T = "str" from ty);exact⟨typeIs_str s z t,fun _ e=>nomatch e⟩
 |int i=>obtain⟨t,rfl⟩:=r;cases (show T = "int" from ty);exact⟨typeIs_int s i t,fun _ e=>nomatch e⟩
 |ref p=>
  cases r;rcases ty with⟨rfl,xs,hq⟩ | ⟨rfl,o,hk,hc,hd⟩ | ⟨rfl,hk⟩ | ⟨rfl,S,n,hk⟩
  ·obtain⟨its,_,pl,_⟩:=I.list hq;refine⟨pl.isList.typeIs,fun a e=>?_⟩;cases e;obtain⟨o,n,e,c,hd,_⟩:=pl;exact⟨o,e,hd⟩
  ·refine⟨⟨o,I.kIn p o hk,hc⟩,fun a e=>?_⟩;cases e;exact⟨o,I.kIn _ o hk,hd⟩
  ·have z:∃o,s.heap.get? p=some o/\o.ExactDict:=by
    rcases hk with⟨kvs,hk⟩ | ⟨kvs,ts,hk⟩
    ·obtain⟨_,_,_,_,o,_,_,e,ex,_⟩:=I.hok p _ hk;exact⟨o,e,ex⟩
    ·obtain⟨_,_,_,_,o,_,_,e,ex,_⟩:=I.hok p _ hk;exact⟨o,e,ex⟩
   obtain⟨o,e,ex⟩:=z;refine⟨⟨o,e,ex.1⟩,fun a e2=>?_⟩;cases e2;exact⟨o,e,ex.2.1⟩
  ·obtain⟨o,_,_,_,e,ex,_⟩:=I.hok p _ hk;refine⟨⟨o,e,ex.1⟩,fun a e2=>?_⟩;cases e2;exact⟨o,e,ex.2.1⟩
 |_=>exact QN ty
def tBM(K:Ds)(T:String)(r:V->List V->Hp->VK->Prop)(to:TE)(t:TA):TE:=fun σ H Q=>to σ H fun x H1=>tyV K T x H1/\t σ H1 fun xs H2=>r x xs H2 Q
variable{o e:Expr}{es:List Expr}{to:TE}{t:TA}{name:Str}{Ke cpos:Pos}{T id:String}{r:V->List V->Hp->VK->Prop}
theorem oZ(pa:PlainAttrs T)(slot:Slot T name id)(hty:typeOf (.builtin id)=pure (.type "method_descriptor"))(hm:MtR X id r)(ho:PE X o to)(ha:PA X (e::es) t)
  (Kc:attributeBase o name X.env (eval o X.env)=eval o X.env:=by rfl)
  (hfew:((backTo cpos (starEach (e::es) X.env)).all (fun x=>!x.1)&&(backToKw cpos (keywordEach [] X.env)).all (fun x=>x.1.isSome)
   && decide ((e::es).length+([]:List Keyword).length+(if ([]:List Keyword).isEmpty then 0 else 1)<30))=true:=by rfl)
  (G6:(Ke.endLine == cpos.line)=true:=by rfl) (hs:starEach (e::es) X.env=(false,eval e X.env)::starEach es X.env:=by rfl) (G5:(backTo cpos (starEach es X.env)).any (·.1)=false:=by rfl) :
  PE X (.Call (.Attribute o name Ke) (e::es) [] cpos) (tBM X.K T r to t):=by
 intro qL s σ H Q I h;refine wpAny_Call_method_late Kc hfew G6 rfl (thn (ho qL s σ H _ I h) fun v s1 ⟨x,H1,I1,r1,ty,q1⟩=>?_);obtain⟨h1,h2⟩:=IS I1 r1 ty;refine⟨T,id,pa,slot,hty,h1,h2,?_⟩;have hA:=ha cpos qL s1 σ H1 _ I1 q1;rw[hs]at hA ⊢;refine RH (by show (false||(backTo cpos (starEach es X.env)).any (·.1))=false;rw[G5]<;>rfl) (R3 ?_);exact thn hA fun us s2 ⟨vs,H2,I2,r2,q2⟩=>hm qL s2 σ H2 x vs v us Q I2 r1 r2 q2
end
end
def MtM(X:Cx)(id:String)(r:V->List V->Hp->VK->Prop):Prop:=
 ∀(qL:List (Addr×Obj)) (s:Shared) (σ:St) (H:Hp) (x:V) (xs:List V) (v:Value) (us:List Value) (Q:VK),Inv X qL σ H s->RelV x v->Vals xs us->r x xs H Q ->
  wpAny (model X.prog X.w) X.A (call (.builtin id) (v::us)) (EP X qL σ Q) X.xe s
theorem Vals.one:∀{x:V} {us:List Value},Vals [x] us->∃u,us=[u]/\RelV x u
 |_,_,.cons r .nil=>⟨_,rfl,r⟩
theorem Vals.eraseIdx:∀{xs:List V} {us:List Value} (i:Nat),Vals xs us->Vals (xs.eraseIdx i) (us.eraseIdx i)
 |_,_,_,.nil=>.nil
 |_,_,0,.cons _ t=>t
 |_,_,i+1,.cons r t=>.cons r (Vals.eraseIdx i t)
theorem Vals.rep{xs:List V}{us:List Value}(h:Vals xs us):∀k:Nat,Vals (Qd k xs).flatten (Qd k us).flatten
 |0=>.nil
 |k+1=>by rw[Rp,Rp,Ra,Ra];exact Vals.append h (Vals.rep h k)
theorem o6{α:Type}:∀(l:List α) (i:Nat),(l.eraseIdx i).length<=l.length
 |[],_=>Qf _
 |_::_,0=>S6 _
 |_::r,i+1=>Nat.succ_le_succ (o6 r i)
theorem foldl_rep(its:List Value):∀(k:Nat) (En:List Value),
  Ti (fun x1 x2=>x1++x2) En.toArray (Qd k its.toArray)=(En++(Qd k its).flatten).toArray
 |0,En=>by simp
 |k+1,En=>by
  have e:En.toArray++its.toArray=(En++its).toArray:=by simp
  have e2:(En++its)++(Qd k its).flatten=En++(Qd (k+1) its).flatten:=by rw[Rp,Ra,SN]
  rw[<- e2,<- foldl_rep its k (En++its),<- e,Rp,List.foldl_cons]
section
variable{X:Cx}{qL:List (Addr×Obj)}{σ:St}{H:Hp}{s:Shared}{l b:Addr}{xs ys zs:List V}
theorem Inv.Mi{its its':List Value}{n:Nat}{f:Array Value->Array Value}{t':Nat}(I:Inv X qL σ H s)(hH:H l=some (.lst xs))
  (e:s.heap.get? l=some { cls:=.type "list",data:=.seq its.toArray n }) (hf:f its.toArray=its'.toArray) (hv:Vals ys its') (hz:ys.length<=sizeLine) :
  Inv X qL σ (upd H l (.lst ys)) { s with heap:=s.heap.update l (Si f),toks:=t' }:=by
 have q:=PySem.IsL.update e f;rw[hf]at q;refine I.write (x:=l) (e:=l) (by rw[hH];exact trivial) (.inl rfl) (fun b' u hb hu=>(Q9 s.heap (Si f) (Ne.symm hb)).trans hu) ⟨_,q⟩ ?_;exact⟨hz,its',_,hv,q⟩
theorem Inv.IT{its:List Value}{t':Nat}(I:Inv X qL σ H s)(hv:Vals ys its)(hz:ys.length<=sizeLine) :
  Inv X qL σ (upd H s.heap.objs.size (.lst ys)) { s with heap:=s.heap.push { cls:=.type "list",data:=.seq its.toArray },toks:=t' }:=
 I.laid (fun _ _ q=>Qc _ q) (Qf _) ⟨hz,its,0,hv,QA _ rfl⟩
theorem Inv.fresh(I:Inv X qL σ H s):H s.heap.objs.size=none:=I.hok.fresh (Qf _)
theorem Inv.Mj(I:Inv X qL σ H s)(hH:H l=some (.lst xs)):xs.length<=sizeLine/\∃(its:List Value) (n:Nat),Vals xs its/\xs.length=its.length/\s.heap.get? l=some { cls:=.type "list",data:=.seq its.toArray n }:=by obtain⟨z,its,n,r,e⟩:=I.hok l _ hH;exact⟨z,its,n,r,r.length,e⟩
theorem Al{n:Nat}(h:n<=sizeLine):Sf n=false:=by unfold Sf;exact decide_eq_false (by lia)
end
section
variable{X:Cx}
def cJ:V->List V->Hp->VK->Prop:=fun x vs H Q=>∃l xs y,x=.ref l/\vs=[y]/\H l=some (.lst xs)/\xs.length<sizeLine/\Q .non (upd H l (.lst (xs++[y])))
theorem cV:MtM X "list.append" cJ:=by
 intro qL s σ H x vs v us Q I rx rv h;obtain⟨l,xs,y,rfl,rfl,hH,hz,q⟩:=h;cases rx;obtain⟨u,rfl,ru⟩:=rv.one;obtain⟨z,its,n,r,hl,e⟩:=I.Mj hH;refine call_meets F.slot_list_append ⟨_,e,rfl⟩ F.entry_list_append (F.args_list_append_2 _ _) (PySem.list_append l its.toArray n u (by rw[Qj];lia)) ⟨e,?_⟩;refine⟨.non,_,I.Mi (its':=its++[u]) hH e (by simp) (r.append (.cons ru .nil)) ?_,rfl,q⟩;rw[Qn,Rj]
 lia
def Am:V->List V->Hp->VK->Prop:=fun x vs H Q=>∃l xs i k y,x=.ref l/\vs=[.int i]/\H l=some (.lst xs)/\-(2 ^ 63)<=i/\i<2 ^ 63/\seqIndex? i xs.length=some k/\xs[k]?=some y/\Q y (upd H l (.lst (xs.eraseIdx k)))
theorem An:MtM X "list.pop" Am:=by
 intro qL s σ H x vs v us Q I rx rv h;obtain⟨l,xs,i,k,y,rfl,rfl,hH,h1,h2,hk,hy,q⟩:=h;cases rx;obtain⟨u,rfl,ru⟩:=rv.one;obtain⟨t,rfl⟩:=ru;obtain⟨z,its,n,r,hl,e⟩:=I.Mj hH;obtain⟨w,hw,rw'⟩:=r.get hy;refine call_meets F.slot_list_pop ⟨_,e,rfl⟩ F.entry_list_pop (F.args_list_pop_2 _ _)
  (MeetsSeq.list_pop_at l its.toArray n i t k w (fitsIndex_both h1 h2) (by rw[Qj,<- hl];exact hk) (by rw[<- Sn];exact hw) (by rw[Qj];lia)) ⟨e,?_⟩
 refine⟨y,_,I.Mi (its':=its.eraseIdx k) hH e ?_ (r.eraseIdx k) ?_,rw',q⟩
 ·show its.toArray.eraseIdxIfInBounds k=(its.eraseIdx k).toArray;rw[List.eraseIdxIfInBounds_toArray]
 ·have:=o6 xs k
  lia
theorem len_rep{α:Type}(xs:List α)(k:Nat):(Qd k xs).flatten.length=k*xs.length:=by
 induction k with
 |zero=>simp
 |succ k ih=>rw[Rp,Ra,Qn,ih,Nat.succ_mul,Nat.add_comm]
end
end L2
namespace Att
open PySem PySem.W PySem.Calls PyProof.Rows
theorem kE{P:Params}{h:Heap}:∀(ns:List Int) (vs:List Value),WellAll P h vs (ns.map WData.int)->IntsAre vs ns:=by
 intro ns
 induction ns with
 |nil=>intro vs w;rw[Su]at w;cases w;exact .nil
 |cons n ns ih=>
  intro vs w;rw[Qa]at w;cases w with
  |cons a b=>cases a;exact .cons _ _ (ih _ b)
theorem yK{l:OpenLaw}{n:Nat}(hn:l.most=some n){P:Params}{h:Heap}{args:List WData}{vals:List Value}
  (hpre:l.row.toRowW.claim.pre args=true) (hwl:WellAll P h vals args) :
  ∃a vs ns,vals=[QW a]/\args=[WData.list (ns.map WData.int)]/\h.get? a=some { cls:=.type "list",data:=.seq vs.toArray }/\IntsAre vs ns/\ns.length<=n:=by
 have hsh:WShape.hasAll [] args [.list .int]=true:=(pre_splitW hpre).1;have hc:l.pre.holds [] { args:=args }=true:=(pre_splitW hpre).2;obtain⟨d,r,rfl,h1,h2⟩:=hasAllW_cons hsh;obtain rfl:=hasAllW_nil h2;obtain⟨xs,rfl,h3⟩:=hasW_list h1;obtain⟨ns,rfl⟩:=items_int h3;have zo:ns.length<=n:=by
  unfold OpenLaw.pre at hc;have h4:(WTm.not (.lt (.lit (.int (n:Int))) (.len (.arg 0)))).holds [] { args:=[.list (ns.map .int)] }=true:=by have h4:=(holds_andW hc).1;rw[hn]at h4;exact h4
  have h5:=condW_of h4 (w_not (w_lt w_lit (w_len_list (w_arg rfl))));rw[Dp]at h5;refine Nat.le_of_not_lt fun q=>?_;have q':(n:Int)<((ns.length:Nat):Int):=by omega
  first
   |(rw[decide_eq_true q']at h5;exact absurd h5 (by decide))
   |(simp at h5;omega)
 cases hwl with
 |cons w1 w2=>
  cases w2;cases w1 with
  |list ho hall=>exact⟨_,_,ns,rfl,rfl,ho,kE ns _ hall,zo⟩
theorem yL(l:OpenLaw)(args:List WData):l.row.toRowW.claim.post args (.bool true) args=true:=
 postW_of (r:=l.row.toRowW) (X:=(true == true))
  (show WShape.has [] (.bool true) .bool=true by first | rfl | decide | simp[WShape.has,WShape.arms,WShape.armsAll])
  (show (WTm.eq .res (.lit (.bool true))).value [] { args:=args,res:=some (.bool true),after:=args }=some (.bool (true == true)) from w_eq_bool (w_res rfl) w_lit) rfl
theorem rJ{l:OpenLaw}{n:Nat}{q:Program}{loose:List Str}{XP:(Str->Option Value)->Heap->Prop}{YP:World->Heap->Prop}{d:DefRec}
  (hn:l.most=some n) (hdf:d.params.defaults=[])
  (call:∀ (w:World) (s₀ s₁:Shared) (mg mb:Str→Option Value) (fa:Addr) (o:Obj) (pm cd doc:Value) (a:Addr) (vs:List Value) (ns:List Int),
   Ground q loose [] XP w s₀ mg mb s₁.heap->YP w s₁.heap ->
   s₁.heap.get? fa=some o->o.data=.func (docDef d.name d.params d.body d.scope pm cd doc)->s₁.heap.CodeRec cd d.name->mg d.name=some (.ref fa) ->
   s₁.heap.get? a=some { cls:=.type "list",data:=.seq vs.toArray }->IntsAre vs ns->ns.length<=n->s₁.gens=#[] ->
   codeAny (model l.prog w) callerA (.call (.ref fa) ⟨[.ref a],[]⟩) (fun r s'=>r=.ok (.ret (.bool true))/\OldK s₁.heap s'.heap/\s'.os=s₁.os/\AllBare s'.gens) s₁) :
  WalkO q loose XP YP l.row.toRowW d [] (fun f vs=>PySem.call f vs):=by
 intro w s₀ s₁ mg mb G Y fa o pm cd doc dV kV ho hd Nt hD hmg hg args vals as hpre hlay hrd hwl hlo;obtain rfl:dV=.none:=Dflts.none hD hdf;obtain rfl:kV=.none:=Dflts.noKw hD;obtain⟨a,vs,ns,rfl,rfl,hobj,hints,zo⟩:=yK hn hpre hwl;refine enter_call (codeAny_mono (call w s₀ s₁ mg mb fa o pm cd doc a vs ns G Y ho (fd_plain hd) Nt hmg hobj hints zo hg) fun r s' hq=>?_);obtain⟨rfl,h2,h3,h4⟩:=hq;exact⟨.inl ⟨.bool true,.bool true,[],rfl,fun _=>rfl,.bool true,yL l _,fun _=>⟨List.Pairwise.nil,fun _ hm=>(nomatch hm)⟩⟩,h2,h3,h4⟩
end Att
namespace L2
open PySem PySem.Spec PyProof.Rows
theorem dO:∀{vs:List Value} {ns:List Int},IntsAre vs ns->Vals (ns.map V.int) vs
 |_,_,.nil=>.nil
 |_,_,.cons n t h=>.cons ⟨t,rfl⟩ (dO h)
def IU(H:Hp):Prop:=∀b,H b=none\/∃o xs,H b=some (.frz o (.lst xs))
theorem Ao{P:Program}{w:World}{K:Ds}{mg mb:Str->Option Value}{CX:CXT}{k:Nat}{fa a:Addr}{fd:FuncData}{x:Str}{sp:Sp}{s₁:Shared}{vs:List Value}{ns:List Int}
  (KX:K.In s₁.heap) (hns:s₁.heap.Ns mainGlobals mg) (hb:s₁.heap.Ns builtinsNs mb) (hbb:∀x:Str,x ≠ "__name__" -> mb x=bootBuiltins x) (hlim:s₁.heap.NoLimit) (hg:s₁.gens=#[])
  (ha:s₁.heap.get? a=some { cls:=.type "list",data:=.seq vs.toArray }) (hi:IntsAre vs ns) (hl:ns.length<=sizeLine) (hr:bf k callerA)
  (F:∀base:Heap,K.In base->base.Ns mainGlobals mg->aQ P w K mg base CX k fa fd [x] sp) (hbind:∀(s:Shared) (u:Value),BindsTo s fd ⟨[u],[]⟩ [(x,u)])
  (hsp:∀H:Hp,IU H->SqL K H a (ns.map V.int)->sp [.ref a] H (fun v _=>v=.bl true) fun _ _ _=>False)
  (hCX:∀H e s',CX [] H s₁ (fun _ _ _=>False) e s'->False) :
  codeAny (model P w) callerA (.call (.ref fa) ⟨[.ref a],[]⟩) (fun r s'=>r=.ok (.ret (.bool true))/\OldK s₁.heap s'.heap/\s'.os=s₁.os/\AllBare s'.gens) s₁:=by
 have rv:=dO hi;have ON:=hi.length;have core:∀H:Hp,IU H->SqL K H a (ns.map V.int)->HOk P w H s₁.heap->(∀b,H b≠none->b=a)->(H a≠none->K.lookup a=none) ->
   codeAny (model P w) callerA (.call (.ref fa) ⟨[.ref a],[]⟩) (fun r s'=>r=.ok (.ret (.bool true))/\OldK s₁.heap s'.heap/\s'.os=s₁.os/\AllBare s'.gens) s₁:=by
  intro H hO hS hok hA hK;have wI:∀{b:Addr} {o:Obj},s₁.heap.get? b=some o->H b=none->(p5 s₁.heap H).get? b=some o:=fun e n=>zT e n;have noA:∀{b:Addr} {o:Obj} {es:Array DictEntry} {ep:Nat},s₁.heap.get? b=some o->o.data=.dict es ep->H b=none:=fun {b o es ep} e d=>by
   cases q:H b with
   |none=>rfl
   |some u=>have e':b=a:=hA b (by rw[q];simp);subst e';rw[ha]at e;cases e;have d':Data.seq vs.toArray _=Data.dict es ep:=d;cases d'
  have nsK:∀{b:Addr} {m:Str->Option Value},s₁.heap.Ns b m->(p5 s₁.heap H).Ns b m:=fun {b m} ⟨o,es,ep,e,d,r⟩=>⟨o,es,ep,wI e (noA e d),d,r⟩;have hKb:K.In (p5 s₁.heap H):=fun b o e=>wI (KX b o e) (by
   cases q:H b with
   |none=>rfl
   |some u=>have e':b=a:=hA b (by rw[q];simp);subst e';rw[hK (by rw[q];simp)]at e;cases e)
  have hM:Mod K mg (p5 s₁.heap H):=⟨hKb,nsK hns,⟨mb,nsK hb,hbb⟩,let ⟨mc,h1,h2⟩:=hlim;⟨mc,nsK h1,h2⟩⟩
  have e0:D7 P w K mg (p5 s₁.heap H) callerA [] s₁ H:=⟨rfl,hM,fun b o e=>DV e,Nat.le_of_eq (yr _ _),trivial,fun b hb=>absurd (show b∈([]:List Addr) from hb) (by simp),hok,.of_eq hg⟩
  refine codeAny_mono ((F _ hKb (nsK hns)).run callerA [] s₁ H ⟨[.ref a],[]⟩ [.ref a] [.ref a] _ _ hr e0 (hbind s₁ (.ref a)) (.cons rfl .nil) (hsp H hO hS)) fun r s' h=>?_;cases r with
  |error e=>exact(hCX H e s' h).elim
  |ok fl=>
   cases fl with
   |next=>exact QN h
   |brk=>exact QN h
   |cont=>exact QN h
   |ret u=>
    obtain⟨v,H',os,bare,un,OO,r',q⟩:=h;have q':v=.bl true:=q;subst q';obtain rfl:u=Th true:=r';refine⟨rfl,OldK.of_keep fun b o e=>?_,os,bare⟩;cases q:H b with
    |none=>exact un.keep b o e q (by intro z;exact absurd (show b∈([]:List Addr) from z) (by simp)) (by simp)
    |some u=>
     rcases hO b with z | ⟨ob,xs,z⟩
     ·rw[q]at z;cases z
     ·have z2:=un.kB b ob _ z;obtain⟨e1,_⟩:=hok b _ z;obtain⟨e2,_⟩:=OO b _ z2;rw[e]at e1;cases e1;exact e2
 cases hk:K.lookup a with
 |some o=>have e:=KX a o hk;rw[ha]at e;cases e;refine core (fun _=>none) (fun _=>.inl rfl) (.inr ⟨_,vs.toArray,_,hk,rfl,rfl,rfl,by rw[Qj,ON];exact hl,by simpa using rv⟩) (fun b u z=>by have z':(none:Option HO)=some u:=z;cases z') (fun b z=>absurd rfl z) fun z=>absurd rfl z
 |none=>
  refine core (fun b=>if b=a then some (.frz { cls:=.type "list",data:=.seq vs.toArray } (.lst (ns.map V.int))) else none) (fun b=>?_) (.inl (.inr ⟨{ cls:=.type "list",data:=.seq vs.toArray },if_pos rfl⟩)) (fun b u z=>?_) (fun b z=>?_) fun _=>hk
  ·by_cases hb:b=a
   ·exact .inr ⟨_,_,if_pos hb⟩
   ·exact .inl (if_neg hb)
  ·by_cases hb:b=a
   ·have z':=(if_pos hb).symm.trans z;cases z';subst hb;exact⟨ha,by rw[Dp];exact hl,vs,_,rv,ha⟩
   ·have z':=(if_neg hb).symm.trans z;cases z'
  ·by_cases hb:b=a
   ·exact hb
   ·exact absurd (if_neg hb) z
theorem Ec{l:S3}{n k:Nat}{q:Program}{loose:List Str}{XP:(Str->Option Value)->Heap->Prop}{YP:World->Heap->Prop}{d:DefRec}{K:Params->Ds}{CX:World->CXT}{sp:World->Sp}{x:Str}
  (hn:l.most=some n) (hn2:n<=sizeLine) (hdf:d.params.defaults=[]) (hr:bf k callerA)
  (hY:∀(w:World) (h:Heap),YP w h->(K w.params).In h)
  (F:∀ (w:World) (mg:Str→Option Value) (fa:Addr) (h:Heap),(K w.params).In h→h.Ns mainGlobals mg→mg d.name=some (.ref fa) →
   ∃fd:FuncData,(∀(s:Shared) (u:Value),BindsTo s fd ⟨[u],[]⟩ [(x,u)]) /\
    ∀base:Heap,(K w.params).In base->base.Ns mainGlobals mg->aQ l.prog w (K w.params) mg base (CX w) k fa fd [x] (sp w))
  (hsp:∀(w:World) (H:Hp) (a:Addr) (ns:List Int),ns.length<=n->IU H->SqL (K w.params) H a (ns.map V.int)->sp w [.ref a] H (fun v _=>v=.bl true) fun _ _ _=>False)
  (hCX:∀(w:World) (H:Hp) (s:Shared) (e:Value) (s':Shared),CX w [] H s (fun _ _ _=>False) e s'->False) :
  PySem.W.WalkO q loose XP YP l.row.toRowW d [] (fun f vs=>PySem.call f vs):=by
 refine Att.rJ hn hdf fun w s₀ s₁ mg mb fa o pm cd doc a vs ns G Y ho hd Nt hmg hobj hints zo hg=>?_;have KX:=hY w _ Y;obtain⟨fd,hb,hF⟩:=F w mg fa _ KX G.T.g hmg;exact Ao KX G.T.g G.T.b G.T.builtins G.T.nolimit hg hobj hints (QO zo hn2) hr hF hb (fun H hO hS=>hsp w H a ns zo hO hS) fun H e s'=>hCX w H s₁ e s'
noncomputable def aN(s:Stmt):Arguments:=match s with
 |.FunctionDef _ a _ _ _ _ _ _ _ _=>a
 |_=>{ posonlyargs:=[],args:=[],vararg:=none,kwonlyargs:=[],kw_defaults:=[],kwarg:=none,defaults:=[] }
noncomputable def aL(s:Stmt):List Stmt:=match s with
 |.FunctionDef _ _ b _ _ _ _ _ _ _=>b
 |_=>[]
noncomputable def ah(s:Stmt):Scope:=match s with
 |.FunctionDef _ _ _ _ _ _ sc _ _ _=>sc
 |_=>{ kind:=.function,names:=[],isGenerator:=false,isCoroutine:=false }
noncomputable abbrev CX0:CXT:=fun _ _ _ _ _ _=>False
noncomputable abbrev E0:XK:=fun _ _ _=>False
theorem o7{X:Cx}:Passes CX0 X E0:=fun _ _ _ _ _ _ _ h=>h.elim
structure Fun(K:Ds)(x qual:Str)(st:Stmt)(f:Addr)(fd:FuncData):Prop where
 ex:∃(oc:Value) (od:Option Addr) (kV doc pm:Value) (an:Option Addr) (cdv ct:Value) (osl:Array (Option Value)),
  fd=QD x qual (aN st) (aL st) (ah st) .none kV doc pm an cdv ct/\K.lookup f=some ⟨oc,od,.func fd,osl⟩/\RG K cdv qual=true
 kp:QY K (.ref f)=true
section
variable{P:Program}{w:World}{K:Ds}{mg:Str->Option Value}{base:Heap}
section
variable{x qual:Str}{st:Stmt}{fd:FuncData}{f:Addr}
theorem Fun.ok{N ps:List Str}{k:Nat}{sp:Sp}(F:Fun K x qual st f fd)(S:ay N ps (ah st))(len:∀vs H Q E,sp vs H Q E->vs.length=ps.length)
  (hbody:∀ (cdv:Value) (A:Around) (outer:List Env) (s:Shared) (H:Hp) (vs:List V) (Q:VK) (E:XK),bf k (A.deeper (envOfC qual (ah st) s.heap.objs.size f cdv))→sp vs H Q E →
   ∃t,PSs (rE CX0 P w K mg base N qual (ah st) f cdv A outer s H E).nox (aL st) t/\t { nx:=fun _ H'=>Q .non H',rt:=Q } (start N vs) H):aQ P w K mg base CX0 (k+1) f fd ps sp:=by
 obtain⟨oc,od,kV,doc,pm,an,cdv,ct,osl,rfl,lk,Nt⟩:=F.ex;refine Gu lk Nt S len fun A outer s H vs Q E hr hsp=>?_;obtain⟨t,h,q⟩:=hbody cdv A outer s H vs Q E hr hsp;exact⟨t,h.nox,q⟩
theorem Fun.binds{ps:List Str}(F:Fun K x qual st f fd)
  (h:∀(kV doc pm:Value) (an:Option Addr) (cdv ct:Value) (us:List Value),us.length=ps.length->bindArgs (QD x qual (aN st) (aL st) (ah st) .none kV doc pm an cdv ct) ⟨us,[]⟩=pure (ps.zip us)):Binds K fd ps []:=by
 obtain⟨oc,od,kV,doc,pm,an,cdv,ct,osl,rfl,lk,Nt⟩:=F.ex;exact .all (h kV doc pm an cdv ct)
theorem IV{oc:Value}{od an:Option Addr}{osl:Array (Option Value)}{kV doc pm cdv ct:Value}(l:K.lookup f=some ⟨oc,od,.func (QD x qual (aN st) (aL st) (ah st) .none kV doc pm an cdv ct),osl⟩)
  (c:RG K cdv qual=true) (k:QY K (.ref f)=true):Fun K x qual st f (QD x qual (aN st) (aL st) (ah st) .none kV doc pm an cdv ct):=⟨⟨oc,od,kV,doc,pm,an,cdv,ct,osl,rfl,l,c⟩,k⟩
end
end
def aq(H H':Hp):Prop:=∀b o,H b=some o->H' b=some o
theorem aq.refl(H:Hp):aq H H:=fun _ _ h=>h
theorem aq.trans{H H1 H2:Hp}(a:aq H H1)(b:aq H1 H2):aq H H2:=fun c o h=>b c o (a c o h)
theorem aq.free{H H':Hp}(e:aq H H'){l:Addr}(h:H' l=Option.none):H l=Option.none:=by
 cases q:H l with
 |none=>rfl
 |some o=>rw[e l o q]at h;cases h
section
variable{κ:Type}[DecidableEq κ]
section
variable{u:Option Value}{o:Option V}{y:V}
noncomputable def cS(kvs:List (κ×V))(k:κ):Option V:=(kvs.find? fun kv=>decide (kv.1=k)).map (·.2)
noncomputable def putK(kvs:List (κ×V))(k:κ)(v:V):List (κ×V):=
 if (kvs.any fun kv=>decide (kv.1=k))=true then kvs.map (fun kv=>if kv.1=k then (kv.1,v) else kv) else kvs++[(k,v)]
noncomputable def jU(kvs:List (κ×V))(k:κ):List (κ×V):=kvs.filter fun kv=>decide (kv.1≠k)
theorem e_{p:κ×V}{r:List (κ×V)}{k:κ}(e:p.1=k):cS (p::r) k=some p.2:=by simp[cS,Ro,e]
theorem dP{p:κ×V}{r:List (κ×V)}{k:κ}(e:¬p.1=k):cS (p::r) k=cS r k:=by simp[cS,Ro,e]
theorem k9(k:κ):∀kvs:List (κ×V),(kvs.any fun kv=>decide (kv.1=k))=(cS kvs k).isSome
 |[]=>rfl
 |p::r=>by
  rw[RB];by_cases e:p.1=k
  ·simp only[e_ e,decide_eq_true e,Bool.true_or,Option.isSome_some]
  ·rw[dP e,decide_eq_false e,Bool.false_or];exact k9 k r
theorem dB(kvs:List (κ×V))(k:κ)(v:V):(putK kvs k v).length<=kvs.length+1:=by
 unfold putK;split
 ·rw[Dp];lia
 ·rw[Qn,QT,List.length_nil];lia
theorem iN.cW(r:iN o u):o.isSome=u.isSome:=by
 cases o with
 |none=>cases u with
  |none=>rfl
  |some _=>exact(show False from r).elim
 |some _=>cases u with
  |none=>exact(show False from r).elim
  |some _=>rfl
theorem iN.getD{d:V}{d':Value}(r:iN o u)(rd:RelV d d'):RelV (o.getD d) (u.getD d'):=by
 cases o with
 |none=>cases u with
  |none=>exact rd
  |some _=>exact(show False from r).elim
 |some _=>cases u with
  |none=>exact(show False from r).elim
  |some _=>exact r
theorem KV.val{kvs:List (κ×V)}{vs:List (κ×Value)}(r:KV kvs vs)(k:κ):iN (cS kvs k) (valueAt vs k):=by
 unfold KV at r
 induction r with
 |nil=>exact Ru
 |@cons p q ps qs h t ih=>
  obtain⟨h1,h2⟩:=h;by_cases e:p.1=k
  ·have e':q.1=k:=h1.symm.trans e;have b:valueAt (q::qs) k=some q.2:=by simp[valueAt,Ro,e']
   rw[e_ e,b];exact h2
  ·have e':¬q.1=k:=fun z=>e (h1.trans z);have b:valueAt (q::qs) k=valueAt qs k:=by simp[valueAt,Ro,e']
   rw[dP e,b];exact ih
theorem KV.any{kvs:List (κ×V)}{vs:List (κ×Value)}(r:KV kvs vs)(k:κ):(kvs.any fun kv=>decide (kv.1=k))=vs.any fun kv=>decide (kv.1=k):=by
 unfold KV at r
 induction r with
 |nil=>rfl
 |cons h t ih=>rw[RB,RB,ih,h.1]
theorem KV.repl{kvs:List (κ×V)}{vs:List (κ×Value)}(r:KV kvs vs)(k:κ){u:Value}(ry:RelV y u) :
  KV (kvs.map fun kv=>if kv.1=k then (kv.1,y) else kv) (vs.map fun kv=>if kv.1=k then (kv.1,u) else kv):=by
 unfold KV at r ⊢
 induction r with
 |nil=>exact .nil
 |@cons p q ps qs h t ih=>
  rw[Qa,Qa];refine .cons ?_ ih;obtain⟨h1,h2⟩:=h;by_cases e:p.1=k
  ·rw[if_pos e,if_pos (h1.symm.trans e)];exact⟨h1,ry⟩
  ·rw[if_neg e,if_neg (fun z=>e (h1.trans z))];exact⟨h1,h2⟩
theorem KV.put{kvs:List (κ×V)}{vs:List (κ×Value)}(r:KV kvs vs)(k:κ){u:Value}(ry:RelV y u):KV (putK kvs k y) (stored vs k u):=by
 unfold putK stored;rw[r.any k];by_cases e:(vs.any fun kv=>decide (kv.1=k))=true
 ·rw[if_pos e,if_pos e];exact r.repl k ry
 ·rw[if_neg e,if_neg e];exact Paired.snoc r ⟨rfl,ry⟩
theorem KV.drop{kvs:List (κ×V)}{vs:List (κ×Value)}(r:KV kvs vs)(k:κ):KV (jU kvs k) (without vs k):=by
 unfold KV at r ⊢;unfold jU without
 induction r with
 |nil=>exact .nil
 |@cons p q ps qs h t ih=>
  obtain⟨h1,h2⟩:=h;rw[Q7,Q7];by_cases e:p.1=k
  ·have a:¬decide (p.1≠k)=true:=by simp[e]
   have b:¬decide (q.1≠k)=true:=by simp[h1.symm.trans e]
   rw[if_neg a,if_neg b];exact ih
  ·have e':¬q.1=k:=fun z=>e (h1.trans z);have a:decide (p.1≠k)=true:=by simp[e]
   have b:decide (q.1≠k)=true:=by simp[e']
   rw[if_pos a,if_pos b];exact .cons ⟨h1,h2⟩ ih
theorem KV.length{kvs:List (κ×V)}{vs:List (κ×Value)}(r:KV kvs vs):kvs.length=vs.length:=Paired.length r
theorem Aq(kvs:List (κ×V))(k:κ):(jU kvs k).length<=kvs.length:=R0 _ _
end
end
section
variable{xs:List (List Key×Addr×Value)}{kvs:List (List Key×V)}{u:Value}{P:Program}{w:World}{H:Hp}{y:V}
theorem iR{k:Key}(r:RelV (kV k) u):(aM P w).is k u=true:=by
 cases k with
 |inl i=>obtain⟨t,e⟩:=(show ∃t,u=Value.int i t from r);subst e;exact rj P w i t
 |inr x=>obtain⟨t,e⟩:=(show ∃t,u=S1 x t from r);subst e;exact rA P w x t
theorem o8:∀{ks:List Key} {us:List Value},Vals (ks.map kV) us->ItemsAre (aM P w) ks us
 |[],_,r=>by rw[Su]at r;cases r;exact .nil
 |k::ks,_,r=>by
  rw[Qa]at r;cases r with
  |cons h t=>exact .cons (iR h) (o8 t)
noncomputable abbrev KT(H:Hp):List (List Key×V)->List (List Key×Addr×Value)->Prop:=Paired fun p q=>p.1=q.1/\H q.2.1=some (.tup (p.1.map kV))/\RelV p.2 q.2.2
theorem KT.val(r:KT H kvs xs)(k:List Key):iN (cS kvs k) ((atKey xs k).map (·.2)):=by
 induction r with
 |nil=>exact Ru
 |@cons p q ps qs h t ih=>
  obtain⟨h1,_,h2⟩:=h;by_cases e:p.1=k
  ·have e':q.1=k:=h1.symm.trans e;have b:atKey (q::qs) k=some q.2:=by simp[atKey,Ro,e']
   rw[e_ e,b];exact h2
  ·have e':¬q.1=k:=fun z=>e (h1.trans z);have b:atKey (q::qs) k=atKey qs k:=by simp[atKey,Ro,e']
   rw[dP e,b];exact ih
theorem KT.repl(r:KT H kvs xs)(k:List Key)(ry:RelV y u) :
  KT H (kvs.map fun kv=>if kv.1=k then (kv.1,y) else kv) (xs.map (putAt k u)):=by
 induction r with
 |nil=>exact .nil
 |@cons p q ps qs h t ih=>
  rw[Qa,Qa];refine .cons ?_ ih;obtain⟨h1,h2,h3⟩:=h;unfold putAt;by_cases e:p.1=k
  ·rw[if_pos e,if_pos (h1.symm.trans e)];exact⟨h1,h2,ry⟩
  ·rw[if_neg e,if_neg (fun z=>e (h1.trans z))];exact⟨h1,h2,h3⟩
theorem KT.put(r:KT H kvs xs)(k:List Key){b:Addr}(hb:H b=some (.tup (k.map kV)))(ry:RelV y u) :
  KT H (putK kvs k y) (storedH xs k b u):=by
 have e:(kvs.any fun kv=>decide (kv.1=k))=(atKey xs k).isSome:=by rw[k9,(r.val k).cW,RW]
 unfold putK storedH;rw[e];by_cases q:(atKey xs k).isSome=true
 ·rw[if_pos q,if_pos q];exact r.repl k ry
 ·rw[if_neg q,if_neg q];exact Paired.snoc r ⟨rfl,hb,ry⟩
theorem KT.keeps{H H':Hp}(r:KT H kvs xs)(ht:∀b ys,H b=some (.tup ys)->H' b=some (.tup ys)):KT H' kvs xs:=
 Paired.Ig r fun _ _ z=>⟨z.1,ht _ _ z.2.1,z.2.2⟩
end
section
variable{P:Program}{w:World}{H:Hp}{h:Heap}{a:Addr}
section
variable{kvs:List (List Key×V)}{ts:List Addr}
theorem Gw{u:HO}(ok:HOk P w H h)(e:Rd H a u):aT P w H h a u:=e.ok ok
theorem jV{kvs:List (Key×V)}(ok:HOk P w H h)(e:Rd H a (.dK kvs)):kvs.length<=sizeLine/\(a == sysModules)=false/\∃vs,KV kvs vs/\h.DictOf (aM P w) a vs:=
 show aT P w H h a (.dK kvs) from Gw ok e
theorem k_{kvs:List (Key×V)}(ok:HOk P w H h)(e:H a=some (.dK kvs)):kvs.length<=sizeLine/\(a == sysModules)=false/\∃vs,KV kvs vs/\h.DictOf (aM P w) a vs:=jV ok (.inl e)
theorem ju{ks:List Key}(ok:HOk P w H h)(e:H a=some (.tup (ks.map kV))):(tupleKind (aM P w)).is h ks a:=by
 obtain⟨_,its,r,o,h1,h2,n,h3⟩:=(show aT P w H h a (.tup (ks.map kV)) from ok a _ e)
 exact⟨o,its.toArray,n,h1,h2,h3,by simpa using o8 r⟩
theorem lg(ok:HOk P w H h)(e:Rd H a (.dT kvs ts)):kvs.length<=sizeLine/\(a == sysModules)=false /\
  ∃xs,KT H kvs xs/\h.DictOfH (tupleKind (aM P w)) a xs:=by
 obtain⟨z,y,xs,r,o,es,ep,h1,h2,h3,h4,h5,_⟩:=(show aT P w H h a (.dT kvs ts) from Gw ok e)
 refine⟨z,y,xs,r,o,es,ep,h1,h2,h3,h4,fun x hx=>?_,h5⟩;have all:∀{l:List (List Key×V)} {m:List (List Key×Addr×Value)},KT H l m->∀x∈m,(tupleKind (aM P w)).is h x.1 x.2.1:=by
  intro l m q
  induction q with
  |nil=>intro x hx;exact nomatch hx
  |@cons p q ps qs hq t ih=>
   intro x hx;rcases Qk.mp hx with e | hx
   ·subst e;exact ju ok (by rw[<- hq.1];exact hq.2.1)
   ·exact ih x hx
 exact all r x hx
theorem Mk(ok:HOk P w H h)(e:H a=some (.dT kvs ts)):kvs.length<=sizeLine/\(a == sysModules)=false /\
  ∃xs,KT H kvs xs/\h.DictOfH (tupleKind (aM P w)) a xs:=lg ok (.inl e)
end
end
section
variable{kvs:List (Key×V)}{a:Addr}{H:Hp}
noncomputable def kF(kvs:List (List Key×V))(ts:List Addr)(k:List Key)(b:Addr):List Addr:=if (kvs.any fun kv=>decide (kv.1=k))=true then ts else ts++[b]
theorem rK{kvs:List (List Key×V)}{xs:List (List Key×Addr×Value)}(r:KT H kvs xs)(k:List Key)(b:Addr)(u:Value):(storedH xs k b u).map (·.2.1)=kF kvs (xs.map (·.2.1)) k b:=by
 have e:(kvs.any fun kv=>decide (kv.1=k))=(atKey xs k).isSome:=by rw[k9,(r.val k).cW,RW]
 unfold storedH kF;rw[e];by_cases q:(atKey xs k).isSome=true
 ·rw[if_pos q,if_pos q,QX];refine R7 fun x _=>?_;show (putAt k u x).2.1=x.2.1;unfold putAt;split<;>rfl
 ·rw[if_neg q,if_neg q,Qq];rfl
theorem IW{P:Program}{w:World}{h:Heap}{xs xs2:List (List Key×Addr×Value)}{ts:List Addr}{o:Obj}{es:Array DictEntry}{ep:Nat}(d:h.DictOfH (tupleKind (aM P w)) a xs)(g1:h.get? a=some o)(g3:o.data=.dict es ep)
  (g4:es.toList=xs2.map (entryOfKey (tupleKind (aM P w)))) (g6:xs2.map (·.2.1)=ts):xs.map (·.2.1)=ts:=by
 obtain⟨o1,es1,ep1,h1,h2,h3,h4,_⟩:=d;rw[g1]at h1;cases h1;rw[g3]at h3;cases h3;rw[g4]at h4;have key:∀l:List (List Key×Addr×Value),(l.map (entryOfKey (tupleKind (aM P w)))).map (·.key)=(l.map (·.2.1)).map QW:=fun l=>by rw[QX,QX];rfl
 have:=congrArg (List.map (·.key)) h4;rw[key,key,g6]at this;exact(Sg (fun a b e=>QW.inj e)).mp this.symm
def eT(H:Hp)(a:Addr)(y:V)(r:Option V):Prop:=
 (∃kvs k,Rd H a (.dK kvs)/\y=kV k/\r=cS kvs k)\/∃kvs k b ts,Rd H a (.dT kvs ts)/\y=.ref b/\H b=some (.tup (k.map kV))/\r=cS kvs k
def Ar(H:Hp)(a:Addr)(y v:V)(H':Hp):Prop:=
 (∃kvs k,H a=some (.dK kvs)/\y=kV k/\kvs.length<sizeLine/\H'=upd H a (.dK (putK kvs k v))) \/
 ∃kvs k b ts,H a=some (.dT kvs ts)/\y=.ref b/\H b=some (.tup (k.map kV))/\kvs.length<sizeLine/\H'=upd H a (.dT (putK kvs k v) (kF kvs ts k b))
theorem eT.k{k:Key}(e:H a=some (.dK kvs)):eT H a (kV k) (cS kvs k):=.inl ⟨kvs,k,.inl e,rfl,rfl⟩
theorem Ar.k{k:Key}{v:V}(e:H a=some (.dK kvs))(hl:kvs.length<sizeLine):Ar H a (kV k) v (upd H a (.dK (putK kvs k v))):=.inl ⟨kvs,k,e,rfl,hl,rfl⟩
end
section
variable{X:Cx}{qL:List (Addr×Obj)}{σ:St}{H:Hp}{s:Shared}{a:Addr}{y v:V}{u r:Value}{o:Option V}{A:Around}{E:Value->Shared->Prop}
section
variable{Q:Value->Shared->Prop}{h':Heap}
theorem Inv.big(I:Inv X qL σ H s):sysModules<s.heap.objs.size:=by have h:mainGlobals<s.heap.objs.size:=(I.mod.glob.keeps I.bk).lt;exact Nat.lt_trans (by decide) h
theorem yM(hu:A.units+1<cLine)(I:Inv X qL σ H s)(g:eT H a y (some v))(ry:RelV y u)(h:∀w' s',Inv X qL σ H s'->RelV v w'->Q w' s') :
  wpAny (model X.prog X.w) A (getItem (.ref a) u) Q E s:=by
 rcases g with⟨kvs,k,e,ey,l⟩ | ⟨kvs,k,b,ts,e,ey,eb,l⟩
 ·subst ey;obtain⟨z,hd,vs,rel,dd⟩:=jV I.hok e;obtain⟨w',hw,rw'⟩:=iN.some_of (v:=v) (o:=valueAt vs k) (by rw[l];exact rel.val k);exact wpAny_getItem_of (iR ry) dd.mapOf hw (h w' _ (I.tok _) rw')
 ·subst ey;cases (show u=QW b from ry);obtain⟨z,hd,xs,rel,dd⟩:=lg I.hok e;obtain⟨w',hw,rw'⟩:=iN.some_of (v:=v) (o:=(atKey xs k).map (·.2)) (by rw[l];exact rel.val k);obtain⟨p,hp,hp2⟩:=Rt.mp hw;refine wpAny_getItem_heap (tupleKind_room_in1 hu) (ju I.hok eb) dd hp ?_;rw[hp2];exact h w' _ (I.tok _) rw'
theorem yN(hu:A.units+1<cLine)(I:Inv X qL σ H s)(g:eT H a y o)(ry:RelV y u)(h:∀s',Inv X qL σ H s'->Q (.bool o.isSome) s') :
  wpAny (model X.prog X.w) A (compareOp .In u (.ref a)) Q E s:=by
 rcases g with⟨kvs,k,e,ey,l⟩ | ⟨kvs,k,b,ts,e,ey,eb,l⟩
 ·subst ey;obtain⟨z,hd,vs,rel,dd⟩:=jV I.hok e;refine wpAny_in_of (iR ry) hd dd.mapOf ?_;rw[<- (rel.val k).cW,<- l];exact h _ (I.tok _)
 ·subst ey;cases (show u=QW b from ry);obtain⟨z,hd,xs,rel,dd⟩:=lg I.hok e;refine wpAny_in_heap (tupleKind_room_in1 hu) (ju I.hok eb) hd dd ?_;have q:=(rel.val k).cW;rw[RW]at q;rw[<- q,<- l];exact h _ (I.tok _)
theorem Ed(hu:A.units+1<cLine)(I:Inv X qL σ H s)(g:eT H a y o)(ry:RelV y u)(h:∀s',Inv X qL σ H s'->Q (.bool (!o.isSome)) s') :
  wpAny (model X.prog X.w) A (compareOp .NotIn u (.ref a)) Q E s:=by
 rcases g with⟨kvs,k,e,ey,l⟩ | ⟨kvs,k,b,ts,e,ey,eb,l⟩
 ·subst ey;obtain⟨z,hd,vs,rel,dd⟩:=jV I.hok e;refine wpAny_notIn_of (iR ry) hd dd.mapOf ?_;rw[<- (rel.val k).cW,<- l];exact h _ (I.tok _)
 ·subst ey;cases (show u=QW b from ry);obtain⟨z,hd,xs,rel,dd⟩:=lg I.hok e;refine wpAny_notIn_heap (tupleKind_room_in1 hu) (ju I.hok eb) hd dd ?_;have q:=(rel.val k).cW;rw[RW]at q;rw[<- q,<- l];exact h _ (I.tok _)
theorem iU{t':Nat}{ob:HO}(I:Inv X qL σ H s)(mu:Mut (H a))(hs:Td a s.heap h')(he:∃q,h'.get? a=some q)(new:aT X.prog X.w (upd H a ob) h' a ob) :
  Inv X qL σ (upd H a ob) { s with heap:=h',toks:=t' }:=
 I.write (x:=a) (e:=a) mu (.inl rfl) (fun b q hb z=>(hs.2 b hb).trans z) he new
theorem lq{P:Program}{w:World}{H':Hp}{kvs:List (Key×V)}{vs:List (Key×Value)}(z:kvs.length<=sizeLine)(hd:(a == sysModules)=false)(rel:KV kvs vs)(dd:h'.DictOf (aM P w) a vs) :
  aT P w H' h' a (.dK kvs):=⟨z,hd,vs,rel,dd⟩
theorem yO{H':Hp}{Q:Unit->Shared->Prop}(hu:A.units+1<cLine)(I:Inv X qL σ H s)(g:Ar H a y v H')(ry:RelV y u)(rv:RelV v r)(h:∀s',Inv X qL σ H' s'->Q () s') :
  wpAny (model X.prog X.w) A (setItem (.ref a) u r) Q E s:=by
 rcases g with⟨kvs,k,e,ey,l,eH⟩ | ⟨kvs,k,b,ts,e,ey,eb,l,eH⟩
 ·subst ey eH;obtain⟨z,hd,vs,rel,dd⟩:=k_ I.hok e;have hz:vs.length<=sizeLine:=by rw[<- rel.length];exact z
  have hl:(putK kvs k v).length<=sizeLine:=by have:=dB kvs k v;lia
  refine wpAny_setItem_pairs (hsz:=hz) (iR ry) dd fun h' dd' hs=>h _ ?_;have he:∃q,h'.get? a=some q:=let ⟨q,_,_,hq,_⟩:=dd';⟨q,hq⟩
  exact iU I (by rw[e];exact Ru) hs he (lq hl hd (rel.put k rv) dd')
 ·subst ey eH;cases (show u=QW b from ry);obtain⟨z,hd,xs,rel,dd⟩:=Mk I.hok e;have hz:xs.length<=sizeLine:=by rw[<- Paired.length rel];exact z
  have hl:(putK kvs k v).length<=sizeLine:=by have:=dB kvs k v;lia
  refine wpAny_setItem_heap (hsz:=hz) (tupleKind_room_in1 hu) (ju I.hok eb) dd fun h' dd' hs=>h _ ?_;obtain⟨q,es,ep,hq,h2,h3,h4,_,h5⟩:=dd';refine iU I (by rw[e];exact Ru) hs ⟨q,hq⟩ ⟨hl,hd,_,(rel.put k eb rv).keeps fun c ys ec=>?_,q,es,ep,hq,h2,h3,h4,h5,?_⟩
  ·rw[ai (LY ec e (fun z=>nomatch z))];exact ec
  ·have hts:xs.map (·.2.1)=ts:=by
    obtain⟨_,_,xs2,_,o2,es2,ep2,g1,g2,g3,g4,g5,g6⟩:=(show aT X.prog X.w H s.heap a (.dT kvs ts) from I.hok a _ e)
    exact IW dd g1 g3 g4 g6
   rw[<- hts];exact rK rel k b r
end
end
section
variable{X:Cx}{qL:List (Addr×Obj)}{σ:St}{H:Hp}{s:Shared}{a:Addr}{kvs:List (Key×V)}{k:Key}{u:Value}{A:Around}{E:Value->Shared->Prop}
theorem Ml{v:V}{more:List Value}{Q:Value->Shared->Prop}(I:Inv X qL σ H s)(e:H a=some (.dK kvs))(ry:RelV (kV k) u)(l:cS kvs k=some v)(hm:more=[]\/∃x,more=[x])
  (h:∀w' s',Inv X qL σ (upd H a (.dK (jU kvs k))) s'->RelV v w'->Q w' s'):wpAny (model X.prog X.w) A (call (.builtin "dict.pop") (.ref a::u::more)) Q E s:=by
 obtain⟨z,hd,vs,rel,dd⟩:=k_ I.hok e;obtain⟨w',hw,rw'⟩:=iN.some_of (v:=v) (o:=valueAt vs k) (by rw[<- l];exact rel.val k);have hp:(keyPart u).isSome=true:=by
  cases k with
  |inl i=>obtain⟨t,q⟩:=(show ∃t,u=Value.int i t from ry);subst q;rfl
  |inr x=>obtain⟨t,q⟩:=(show ∃t,u=S1 x t from ry);subst q;rfl
 have ha:argsOk "dict.pop" ⟨.ref a::u::more,[]⟩:=by
  rcases hm with q | ⟨x,q⟩
  ·subst q;exact PySem.F.args_dict_pop_2 _ _
  ·subst q;exact PySem.F.args_dict_pop_3 _ _ _
 refine call_meetsIn PySem.F.slot_dict_pop dd.typeIs PySem.F.entry_dict_pop ha (meets_dict_pop_there (aM X.prog X.w) a (iR ry) more hm hp)
  ⟨vs,w',dd,by rw[<- rel.length];exact z,hw,fun h' dd' hs=>h w' _ ?_ rw'⟩
 have he:∃q,h'.get? a=some q:=let ⟨q,_,_,hq,_⟩:=dd';⟨q,hq⟩
 exact iU I (by rw[e];exact Ru) hs he (lq (QO (Aq kvs k) z) hd (rel.drop k) dd')
end
def IX(i:Expr):Prop:=∀ov iv,subscripted i false ov iv=operate [ov,iv] (getItem ov iv)
theorem Ef{prog:Program}{w:World}{A:Around}{E:Value->Shared->Prop}{s:Shared}{env:Env}{value slice:Expr}{pos:Pos}{T id:String}{Q:Value->Shared->Prop}
  (hl:typeLookup (.type T) "__getitem__" = pure (some (.builtin id))) (hs:IX slice)
  (h:wpAny (model prog w) A (eval value env) (fun o s₁=>wpAny (model prog w) A (eval slice env) (fun i s₂=>s₂.TypeIs o T/\wpAny (model prog w) A (getItem o i) Q E s₂) E s₁) E s) :
  wpAny (model prog w) A (eval (.Subscript value slice pos) env) Q E s:=by
 refine Subscript_ (wpAny_mono h (fun o s₁ h₁=>wpAny_mono h₁ (fun i s₂ h₂=>?_) fun _ _ x=>x) fun _ _ x=>x);obtain⟨hT,h₂⟩:=h₂;unfold subscriptTail;refine wpAny_bind ?_;rw[getitemInPython_of_ne hT.not_modules];refine wpAny_bind (wpAny_specialOf hT hl ?_);have Nr:wpAny (model prog w) A (subscripted slice false o i) (fun r s₃=>wpAny (model prog w) A (letTemporaryGo value o r >>= fun _=>pure r) Q E s₃) E s₂:=by rw[hs o i];exact wpAny_operating (wpAny_mono h₂ (fun r s₃ h₃=>wpAny_bind (wpAny_letTemporaryGo (wpAny_pure h₃))) fun _ _ x=>x)
 first
  |exact wpAny_pure (wpAny_bind Nr)
  |exact wpAny_bind (wpAny_pure (wpAny_bind Nr))
  |exact wpAny_bind Nr
theorem rL{X:Cx}{qL:List (Addr×Obj)}{σ:St}{H:Hp}{s:Shared}{a:Addr}{y:V}{o:Option V}(I:Inv X qL σ H s)(g:eT H a y o):s.TypeIs (.ref a) "dict" := by
 rcases g with⟨kvs,k,e,_,_⟩ | ⟨kvs,k,b,ts,e,_,_,_⟩
 ·obtain⟨_,_,vs,_,dd⟩:=jV I.hok e;exact dd.typeIs
 ·obtain⟨_,_,xs,_,dd⟩:=lg I.hok e;exact dd.typeIs
def Mm(td ty:TE):TE:=fun σ H Q=>td σ H fun x H1=>ty σ H1 fun y H2=>∃a v,x=.ref a/\eT H2 a y (some v)/\Q v H2
def OP(ty td:TE):TE:=fun σ H Q=>ty σ H fun y H1=>td σ H1 fun x H2=>∃a o,x=.ref a/\eT H2 a y o/\Q (.bl o.isSome) H2
def Eg(ty td:TE):TE:=fun σ H Q=>ty σ H fun y H1=>td σ H1 fun x H2=>∃a o,x=.ref a/\eT H2 a y o/\Q (.bl (!o.isSome)) H2
def Gx(td ty tv:TE):TS:=fun D σ H=>tv σ H fun v H1=>td σ H1 fun x H2=>ty σ H2 fun y H3=>∃a H4,x=.ref a/\Ar H3 a y v H4/\D.nx σ H4
section
variable{X:Cx}{o i e value:Expr}{pos pos' tpos:Pos}{td ty tv:TE}
theorem Eh(hu:X.A.units+1<cLine)(ho:PE X o td)(hi:PE X i ty)(hs:IX i):PE X (.Subscript o i pos) (Mm td ty):=by intro qL s σ H Q I h;refine Ef PySem.F.slot_dict_getitem.lookup hs (thn (ho qL s σ H _ I h) fun u s1 ⟨x,H1,I1,rx,q1⟩=>thn (hi qL s1 σ H1 _ I1 q1) fun iv s2 ⟨y,H2,I2,ry,a,v,ex,g,q2⟩=>?_);subst ex;obtain rfl:u=QW a:=rx;exact⟨rL I2 g,yM hu I2 g ry fun w' s3 I3 rw'=>⟨v,H2,I3,rw',q2⟩⟩
theorem IY(hu:X.A.units+1<cLine)(hi:PE X i ty)(ho:PE X o td):PC X .In i o (OP ty td):=by intro qL s σ H Q I h;refine thn (hi qL s σ H _ I h) fun iv s1 ⟨y,H1,I1,ry,q1⟩=>thn (ho qL s1 σ H1 _ I1 q1) fun u s2 ⟨x,H2,I2,rx,a,ov,ex,g,q2⟩=>?_;subst ex;obtain rfl:u=QW a:=rx;exact yN hu I2 g ry fun s3 I3=>⟨.bl ov.isSome,H2,I3,rfl,q2⟩
theorem yP(hu:X.A.units+1<cLine)(hi:PE X i ty)(ho:PE X o td):PC X .NotIn i o (Eg ty td):=by intro qL s σ H Q I h;refine thn (hi qL s σ H _ I h) fun iv s1 ⟨y,H1,I1,ry,q1⟩=>thn (ho qL s1 σ H1 _ I1 q1) fun u s2 ⟨x,H2,I2,rx,a,ov,ex,g,q2⟩=>?_;subst ex;obtain rfl:u=QW a:=rx;exact Ed hu I2 g ry fun s3 I3=>⟨.bl (!ov.isSome),H2,I3,rfl,q2⟩
theorem Ei(hu:X.A.units+1<cLine)(ho:PE X o td)(hi:PE X i ty)(hv:PE X value tv)(hs:swapsWith value (some (.Subscript o i pos')) pos.line X.env=pure false) :
  PS X (.Assign [.Subscript o i pos'] value pos) (Gx td ty tv):=by
 intro qL s σ H D I h;refine wpAny_Assign_Subscript (thn (hv qL s σ H _ I h) fun r s1 ⟨v,H1,I1,rv,q1⟩=>thn (ho qL s1 σ H1 _ I1 q1) fun u s2 ⟨x,H2,I2,rx,q2⟩=>thn (hi qL s2 σ H2 _ I2 q2) fun iv s3 ⟨y,H3,I3,ry,a,H4,ex,g,q3⟩=>?_) hs;subst ex;obtain rfl:u=QW a:=rx;exact yO hu I3 g ry rv fun s4 I4=>⟨σ,H4,I4,q3⟩
end
theorem rM{P:Program}{w:World}{H:Hp}(h:Heap)(hb:sysModules<h.objs.size):aT P w H (h.push { cls:=.type "dict",data:=.dict #[] }) h.objs.size (.dK []):=
 ⟨QM _,beq_eq_false_iff_ne.mpr (Ne.symm (QF hb)),[],.nil,Heap.DictOf.new h⟩
def uU:TE:=fun _ H Q=>∀p,H p=none->Q (.ref p) (upd H p (.dK []))
section
variable{X:Cx}{pos:Pos}
theorem rN:PE X (.Dict [] [] pos) uU:=fun qL s σ H Q I h=>wpAny_Dict_empty ⟨.ref s.heap.objs.size,_,I.laid (a:=s.heap.objs.size) (o:=.dK []) (t':=s.toks) (fun _ _ q=>Qc _ q) (Qf _) (rM s.heap I.big),rfl,h _ (I.hok.fresh (Qf _))⟩
end
section
variable{trs:List (TE×TE)}{pos:Pos}{X:Cx}
def uV:List (TE×TE)->St->Hp->(List (V×V)->Hp->Prop)->Prop
 |[],_,H,Q=>Q [] H
 |(tk,tv)::r,σ,H,Q=>tk σ H fun x H1=>tv σ H1 fun y H2=>uV r σ H2 fun ps H3=>Q ((x,y)::ps) H3
noncomputable abbrev VV:List (V×V)->List (Value×Value)->Prop:=Paired fun p q=>RelV p.1 q.1/\RelV p.2 q.2
def PPs(X:Cx)(pos:Pos)(keys:List (Option Expr))(values:List Expr)(trs:List (TE×TE)):Prop:=
 ∀(qL:List (Addr×Obj)) (s:Shared) (σ:St) (H:Hp) (Q:List (V×V)->Hp->Prop),Inv X qL σ H s->uV trs σ H Q ->
  wpAny (model X.prog X.w) X.A (evalPairs (pairTrees keys values X.env pos)) (fun vs s'=>∃ps H',Inv X qL σ H' s'/\VV ps vs/\Q ps H') X.xe s
theorem Ej:PPs X pos [] [] []:=fun qL s σ H Q I h=>pairTrees_nil_walk ⟨[],H,I,.nil,h⟩
theorem As{k v:Expr}{ks:List (Option Expr)}{vs:List Expr}{tk tv:TE}(hk:PE X k tk)(hv:PE X v tv)(hr:PPs X pos ks vs trs) :
  PPs X pos (some k::ks) (v::vs) ((tk,tv)::trs):=fun qL s σ H Q I h=>
 pairTrees_cons_walk (thn (hk qL s σ H _ I h) fun u s1 ⟨x,H1,I1,rx,q1⟩=>thn (hv qL s1 σ H1 _ I1 q1) fun w2 s2 ⟨y,H2,I2,ry,q2⟩=>thn (hr qL s2 σ H2 _ I2 q2) fun ws s3 ⟨ps,H3,I3,rel,q3⟩=>⟨(x,y)::ps,H3,I3,.cons ⟨rx,ry⟩ rel,q3⟩)
noncomputable def jv(kvs more:List (Key×V)):List (Key×V):=more.foldl (fun En kv=>putK En kv.1 kv.2) kvs
theorem KV.merge:∀{more:List (Key×V)} {rs:List (Key×Value)} {kvs:List (Key×V)} {vs:List (Key×Value)},KV more rs->KV kvs vs->KV (jv kvs more) (merged vs rs):=by
 intro more rs kvs vs r;unfold KV at r
 induction r generalizing kvs vs with
 |nil=>intro q;exact q
 |@cons p q ps qs h t ih=>
  intro r0;have e:KV (putK kvs p.1 p.2) (stored vs q.1 q.2):=by have:=r0.put p.1 h.2;rw[<- h.1];exact this
  exact ih e
theorem fZ:∀(more kvs:List (Key×V)),(jv kvs more).length<=kvs.length+more.length
 |[],kvs=>by show kvs.length<=kvs.length+0;lia
 |p::r,kvs=>by have h1:=fZ r (putK kvs p.1 p.2);have h2:=dB kvs p.1 p.2;show (jv (putK kvs p.1 p.2) r).length<=_;rw[QT];lia
theorem lu{P:Program}{w:World}:∀{kvs:List (Key×V)} {ws:List (Value×Value)},VV (kvs.map fun kv=>(kV kv.1,kv.2)) ws->∃rs,Carries (aM P w) ws rs/\KV kvs rs
 |[],_,r=>by rw[Su]at r;cases r;exact⟨[],Ru,.nil⟩
 |p::kvs,_,r=>by
  rw[Qa]at r;cases r with
  |@cons a b as bs h t=>obtain⟨rs,c,q⟩:=lu (P:=P) (w:=w) t;obtain⟨b1,b2⟩:=b;exact⟨(p.1,b2)::rs,⟨iR h.1,rfl,c⟩,.cons ⟨rfl,h.2⟩ q⟩
def Gy(trs:List (TE×TE)):TE:=fun σ H Q=>∀p,H p=none->uV trs σ (upd H p (.dK [])) fun ps H2=>H2 p=some (.dK [])/\∃kvs:List (Key×V),ps=kvs.map (fun kv=>(kV kv.1,kv.2))/\kvs.length<=15/\Q (.ref p) (upd H2 p (.dK (jv [] kvs)))
theorem Ek{keys:List (Option Expr)}{values:List Expr}(h:PPs X pos keys values trs)(hall:keys.all (·.isSome)=true)(hl:keys.length=values.length)(h0:keys≠[])
  (h15:keys.length<=15):PE X (.Dict keys values pos) (Gy trs):=by
 intro qL s σ H Q I q;have hn:=I.hok.fresh (Qf s.heap.objs.size);have I1:=I.laid (a:=s.heap.objs.size) (o:=.dK []) (h':=s.heap.push { cls:=.type "dict",data:=.dict #[] }) (t':=s.toks) (fun _ _ q=>Qc _ q) (Qf _) (rM s.heap I.big);refine wpAny_Dict_walk (knd:=aM X.prog X.w) hall hl h0 h15 (thn (h qL _ σ _ _ I1 (q _ hn)) fun ws s2 ⟨ps,H2,I2,rel,e,kvs,ep,lk,q2⟩=>?_);subst ep;obtain⟨rs,c,rk⟩:=lu (P:=X.prog) (w:=X.w) rel;obtain⟨z,hd,vs0,r0,dd⟩:=k_ I2.hok e;cases r0;refine⟨rs,c,dd,fun h' dd' hs=>⟨.ref s.heap.objs.size,_,?_,rfl,q2⟩⟩;have hz:(jv [] kvs).length<=sizeLine:=by have h1:=fZ kvs [];rw[List.length_nil]at h1;rw[sizeLine_eq];lia
 have he:∃q,h'.get? s.heap.objs.size=some q:=let ⟨q,_,_,hq,_⟩:=dd';⟨q,hq⟩
 exact iU I2 (by rw[e];exact Ru) hs he (lq hz hd (rk.merge .nil) dd')
structure M1(X:Cx)(o:Expr)(m:Str)(Ke:Pos)(e:Expr)(cpos:Pos):Prop where
 base:attributeBase o m X.env (eval o X.env)=eval o X.env
 few:((backTo cpos (starEach [e] X.env)).all (fun x=>!x.1)&&(backToKw cpos (keywordEach [] X.env)).all (fun x=>x.1.isSome)
  && decide (([e]:List Expr).length+([]:List Keyword).length+(if ([]:List Keyword).isEmpty then 0 else 1)<30))=true
 line:(Ke.endLine == cpos.line)=true
 trees:backTo cpos (starEach [e] X.env)=[(false,eval e X.env)]
structure M2(X:Cx)(o:Expr)(m:Str)(Ke:Pos)(e f:Expr)(cpos:Pos):Prop where
 base:attributeBase o m X.env (eval o X.env)=eval o X.env
 few:((backTo cpos (starEach [e,f] X.env)).all (fun x=>!x.1)&&(backToKw cpos (keywordEach [] X.env)).all (fun x=>x.1.isSome)
  && decide (([e,f]:List Expr).length+([]:List Keyword).length+(if ([]:List Keyword).isEmpty then 0 else 1)<30))=true
 line:(Ke.endLine == cpos.line)=true
 trees:backTo cpos (starEach [e,f] X.env)=[(false,eval e X.env),(false,eval f X.env)]
def IsD(H:Hp)(a:Addr):Prop:=(∃kvs,Rd H a (.dK kvs))\/∃kvs ts,Rd H a (.dT kvs ts)
theorem ly{qL:List (Addr×Obj)}{σ:St}{H:Hp}{s:Shared}{a:Addr}(I:Inv X qL σ H s)(d:IsD H a) :
  s.TypeIs (.ref a) "dict" /\ (∀b,QW a=.ref b->∃ob,s.heap.get? b=some ob/\ob.dict=none)/\(a == sysModules)=false:=by
 rcases d with⟨kvs,e⟩ | ⟨kvs,ts,e⟩
 ·obtain⟨_,hd,vs,_,dd⟩:=jV I.hok e;refine⟨dd.typeIs,fun b q=>?_,hd⟩;cases q;obtain⟨ob,_,_,h1,h2,_⟩:=dd;exact⟨ob,h1,h2.2.1⟩
 ·obtain⟨_,hd,xs,_,dd⟩:=lg I.hok e;refine⟨dd.typeIs,fun b q=>?_,hd⟩;cases q;obtain⟨ob,_,_,h1,h2,_⟩:=dd;exact⟨ob,h1,h2.2.1⟩
end
section
variable{X:Cx}{qL:List (Addr×Obj)}{σ:St}{H:Hp}{s:Shared}{a:Addr}{y d:V}{u r:Value}{o:Option V}{A:Around}{E:Value->Shared->Prop}
theorem IZ{Q:Value->Shared->Prop}(hu:A.units+1<cLine)(I:Inv X qL σ H s)(g:eT H a y o)(ry:RelV y u)(h:∀w' s',Inv X qL σ H s'->RelV (o.getD .non) w'->Q w' s') :
  wpAny (model X.prog X.w) A (call (.builtin "dict.get") [.ref a,u]) Q E s:=by
 rcases g with⟨kvs,k,e,ey,l⟩ | ⟨kvs,k,b,ts,e,ey,eb,l⟩
 ·subst ey;obtain⟨z,hd,vs,rel,dd⟩:=jV I.hok e;refine call_meetsIn So dd.typeIs PySem.F.entry_dict_get (PySem.F.args_dict_get_2 _ _) (meets_dict_get (aM X.prog X.w) a (iR ry) hd) ⟨_,dd.mapOf,h _ _ (I.tok _) ?_⟩;rw[l];exact(rel.val k).getD rfl
 ·subst ey;cases (show u=QW b from ry);obtain⟨z,hd,xs,rel,dd⟩:=lg I.hok e;refine call_meetsIn So dd.typeIs PySem.F.entry_dict_get (PySem.F.args_dict_get_2 _ _) (meetsH_dict_get (tupleKind (aM X.prog X.w)) a b hd) ⟨tupleKind_room_in1 hu,k,xs,ju I.hok eb,dd,h _ _ (I.tok _) ?_⟩;rw[l];exact(rel.val k).getD rfl
end
def Au(td ty:TE):TE:=fun σ H Q=>td σ H fun x H1=>∃a,x=.ref a/\IsD H1 a/\ty σ H1 fun y H2=>∃o,eT H2 a y o/\Q (o.getD .non) H2
def Av(td ty:TE):TE:=fun σ H Q=>td σ H fun x H1=>∃a,x=.ref a/\IsD H1 a/\ty σ H1 fun y H2=>∃kvs k v,H2 a=some (.dK kvs)/\y=kV k/\cS kvs k=some v/\Q v (upd H2 a (.dK (jU kvs k)))
section
variable{X:Cx}{o e f:Expr}{Ke cpos:Pos}{td ty tx:TE}
theorem Aw(hu:X.A.units+1<cLine)(ho:PE X o td)(he:PE X e ty)(m:M1 X o "get" Ke e cpos):PE X (.Call (.Attribute o "get" Ke) [e] [] cpos) (Au td ty):=by intro qL s σ H Q I h;refine wpAny_Call_method m.base m.few m.line RS So PySem.F.type_dict_get (thn (ho qL s σ H _ I h) fun u s1 ⟨x,H1,I1,rx,a,ex,d,q1⟩=>?_);subst ex;obtain rfl:u=QW a:=rx;obtain⟨t1,t2,_⟩:=ly I1 d;refine⟨t1,t2,?_⟩;rw[m.trees];refine RH rfl (R3 (RU (thn (he qL s1 σ H1 _ I1 q1) fun iv s2 ⟨y,H2,I2,ry,ov,g,q2⟩=>Rn ?_)));exact IZ hu I2 g ry fun w' s3 I3 rw'=>⟨_,H2,I3,rw',q2⟩
theorem Ax(ho:PE X o td)(he:PE X e ty)(m:M1 X o "pop" Ke e cpos):PE X (.Call (.Attribute o "pop" Ke) [e] [] cpos) (Av td ty):=by intro qL s σ H Q I h;refine wpAny_Call_method m.base m.few m.line RS PySem.F.slot_dict_pop PySem.F.type_dict_pop (thn (ho qL s σ H _ I h) fun u s1 ⟨x,H1,I1,rx,a,ex,d,q1⟩=>?_);subst ex;obtain rfl:u=QW a:=rx;obtain⟨t1,t2,_⟩:=ly I1 d;refine⟨t1,t2,?_⟩;rw[m.trees];refine RH rfl (R3 (RU (thn (he qL s1 σ H1 _ I1 q1) fun iv s2 ⟨y,H2,I2,ry,kvs,k,v,ea,ey,l,q2⟩=>Rn ?_)));subst ey;exact Ml I2 ea ry l (.inl rfl) fun w' s3 I3 rw'=>⟨v,_,I3,rw',q2⟩
end
section
variable{X:Cx}{qL:List (Addr×Obj)}{σ:St}{H:Hp}{s:Shared}{a:Addr}{kvs:List (Key×V)}{A:Around}{E:Value->Shared->Prop}
theorem Ay{Q:Value->Shared->Prop}(I:Inv X qL σ H s)(e:Rd H a (.dK kvs))(h:∀p s',H p=none->Inv X qL σ (upd H p (.dK kvs)) s'->Q (.ref p) s'):wpAny (model X.prog X.w) A (call (.type "dict") [.ref a]) Q E s:=by obtain⟨z,hd,vs,rel,dd⟩:=jV I.hok e;refine kt_call_dict hd dd (by rw[<- rel.length];exact z) fun h' dd' hs=>?_;refine h _ _ (I.hok.fresh (Qf _)) (I.laid (a:=s.heap.objs.size) (o:=.dK kvs) (t':=s.toks) (fun b q hq=>?_) (Qf _) (lq z (beq_eq_false_iff_ne.mpr (Ne.symm (QF I.big))) rel dd'));exact(hs.2 b (QF (Qh hq))).trans (Qc _ hq)
end
end L2
namespace Dm
inductive Dat where
 |non
 |bl (b:Bool)
 |int (i:Int)
 |str (s:List Nat)
 |tup (xs:List Dat)
 |lst (xs:List Dat)
 |dct (ks:List Int) (vs:List Dat)
 |dcp (ks:List (Int×Int)) (vs:List Dat)
 |exc (C:Nat)
 |fn (a:Nat)
deriving Inhabited
inductive Cell where
 |un
 |sh (d:Dat)
 |ow (d:Dat)
deriving Inhabited
noncomputable abbrev Env:=List Cell
inductive Val where
 |val (d:Dat)
 |slot (i:Nat)
 |new (d:Dat)
inductive RV where
 |val (d:Dat)
 |new (d:Dat)
noncomputable def RV.dat:RV->Dat
 |.val d=>d
 |.new d=>d
noncomputable def RV.br:RV->Val
 |.val d=>.val d
 |.new d=>.new d
noncomputable def SZ:Nat:=100000
noncomputable def eK:Dat->Bool
 |.tup _=>true
 |.lst _=>true
 |.dct _ _=>true
 |.dcp _ _=>true
 |.exc _=>true
 |_=>false
noncomputable def pk(ρ:Env):Val->Option Dat
 |.val d=>some d
 |.new d=>some d
 |.slot i=>match ρ[i]? with
  |some (.ow d)=>some d
  |some (.sh d)=>some d
  |_=>none
noncomputable def tk(ρ:Env):Val->Option (Dat×Env)
 |.val d=>some (d,ρ)
 |.new d=>some (d,ρ)
 |.slot i=>match ρ[i]? with
  |some (.ow d)=>some (d,ρ.set i (.sh d))
  |some (.sh d)=>some (d,ρ)
  |_=>none
noncomputable def pks(ρ:Env):List Val->Option (List Dat)
 |[]=>some []
 |x::r=>match pk ρ x with
  |none=>none
  |some d=>match pks ρ r with
   |none=>none
   |some ds=>some (d::ds)
noncomputable def tks(ρ:Env):List Val->Option (List Dat×Env)
 |[]=>some ([],ρ)
 |x::r=>match tk ρ x with
  |none=>none
  |some (d,ρ1)=>match tks ρ1 r with
   |none=>none
   |some (ds,ρ2)=>some (d::ds,ρ2)
noncomputable abbrev FE:=Env->Option (Val×Env)
noncomputable abbrev FT:=Env->Option (Bool×Env)
noncomputable def eC(d:Dat):FE:=fun ρ=>some (.val d,ρ)
noncomputable def eV(i:Nat):FE:=fun ρ=>match ρ[i]? with
 |some (.sh d)=>some (.val d,ρ)
 |some (.ow _)=>some (.slot i,ρ)
 |_=>none
noncomputable def e1(g:Dat->Option RV)(a:FE):FE:=fun ρ=>match a ρ with
 |none=>none
 |some (x,ρ1)=>match pk ρ1 x with
  |none=>none
  |some d=>match g d with
   |none=>none
   |some v=>some (v.br,ρ1)
noncomputable def e2(g:Dat->Dat->Option RV)(a b:FE):FE:=fun ρ=>match a ρ with
 |none=>none
 |some (x,ρ1)=>match b ρ1 with
  |none=>none
  |some (y,ρ2)=>match pk ρ2 x with
   |none=>none
   |some d=>match pk ρ2 y with
    |none=>none
    |some e=>match g d e with
     |none=>none
     |some v=>some (v.br,ρ2)
noncomputable def eAs:List FE->Env->Option (List Val×Env)
 |[],ρ=>some ([],ρ)
 |a::r,ρ=>match a ρ with
  |none=>none
  |some (x,ρ1)=>match eAs r ρ1 with
   |none=>none
   |some (xs,ρ2)=>some (x::xs,ρ2)
noncomputable def eB(g:List Dat->Option RV)(as:List FE):FE:=fun ρ=>match eAs as ρ with
 |none=>none
 |some (xs,ρ1)=>match pks ρ1 xs with
  |none=>none
  |some ds=>match g ds with
   |none=>none
   |some v=>some (v.br,ρ1)
noncomputable def eU(as:List FE):FE:=fun ρ=>match eAs as ρ with
 |none=>none
 |some (xs,ρ1)=>match tks ρ1 xs with
  |none=>none
  |some (ds,ρ2)=>if ds.length<=SZ then some (.val (.tup ds),ρ2) else none
noncomputable def dm(as:List FE):FE:=fun ρ=>match eAs as ρ with
 |none=>none
 |some (xs,ρ1)=>match tks ρ1 xs with
  |none=>none
  |some (ds,ρ2)=>if ds.length<=SZ then some (.new (.lst ds),ρ2) else none
noncomputable def eF(f:List Dat->Option RV)(as:List FE):FE:=fun ρ=>match eAs as ρ with
 |none=>none
 |some (xs,ρ1)=>match pks ρ1 xs with
  |none=>none
  |some ds=>match f ds with
   |none=>none
   | some v=>if eK v.dat then (match tks ρ1 xs with
     |none=>none
     |some (_,ρ2)=>some (v.br,ρ2)) else some (v.br,ρ1)
noncomputable def eIf(t:FT)(a b:FE):FE:=fun ρ=>match t ρ with
 |none=>none
 |some (true,ρ1)=>a ρ1
 |some (false,ρ1)=>b ρ1
noncomputable def fV(a b:FE):FE:=fun ρ=>match a ρ with
 |some (.val (.bl true),ρ1)=>b ρ1
 |some (.val (.bl false),ρ1)=>some (.val (.bl false),ρ1)
 |_=>none
noncomputable def uW(a:FE):FE:=fun ρ=>match a ρ with
 |some (.val (.bl c),ρ1)=>some (.val (.bl (!c)),ρ1)
 |_=>none
noncomputable def tV(a:FE):FT:=fun ρ=>match a ρ with
 |some (.val (.bl c),ρ1)=>some (c,ρ1)
 |_=>none
noncomputable def dj(t:FT):FT:=fun ρ=>match t ρ with
 |some (c,ρ1)=>some (!c,ρ1)
 |none=>none
noncomputable def kC(t u:FT):FT:=fun ρ=>match t ρ with
 |some (true,ρ1)=>u ρ1
 |some (false,ρ1)=>some (false,ρ1)
 |none=>none
noncomputable def tOr(t u:FT):FT:=fun ρ=>match t ρ with
 |some (true,ρ1)=>some (true,ρ1)
 |some (false,ρ1)=>u ρ1
 |none=>none
noncomputable def truth:Dat->Option Bool
 |.non=>some false
 |.bl b=>some b
 |.int i=>some (i != 0)
 |.tup xs=>some (!xs.isEmpty)
 |.lst xs=>some (!xs.isEmpty)
 |_=>none
noncomputable def tTr(a:FE):FT:=fun ρ=>match a ρ with
 |none=>none
 |some (x,ρ1)=>match pk ρ1 x with
  |none=>none
  |some d=>match truth d with
   |none=>none
   |some c=>some (c,ρ1)
noncomputable def b8:FT:=fun ρ=>some (true,ρ)
noncomputable abbrev FI:=Env->Option (List Dat×Env)
noncomputable def iL(a:FE):FI:=fun ρ=>match a ρ with
 |none=>none
 |some (x,ρ1)=>match tk ρ1 x with
  |some (.lst ds,ρ2)=>some (ds,ρ2)
  |_=>none
noncomputable def iT(a:FE):FI:=fun ρ=>match a ρ with
 |none=>none
 |some (x,ρ1)=>match tk ρ1 x with
  |some (.tup ds,ρ2)=>some (ds,ρ2)
  |_=>none
noncomputable def iS(a:FE):FI:=fun ρ=>match a ρ with
 |none=>none
 |some (x,ρ1)=>match tk ρ1 x with
  |some (.lst ds,ρ2)=>some (ds,ρ2)
  |some (.tup ds,ρ2)=>some (ds,ρ2)
  |_=>none
noncomputable def ups(lo:Int)(n:Nat):List Dat:=(Qs n).map fun i=>Dat.int (lo+(i:Nat))
noncomputable def downs(hi:Int)(n:Nat):List Dat:=(Qs n).map fun i=>Dat.int (hi-(i:Nat))
noncomputable def BIG:Int:=1000000000
noncomputable def iR1(a:FE):FI:=fun ρ=>match a ρ with
 |some (.val (.int j),ρ1)=>if j<=BIG/\-BIG<=j then some (ups 0 j.toNat,ρ1) else none
 |_=>none
noncomputable def iR2(a b:FE):FI:=fun ρ=>match a ρ with
 | some (.val (.int i),ρ1)=>(match b ρ1 with
  |some (.val (.int j),ρ2)=>if j<=BIG/\-BIG<=j/\i<=BIG/\-BIG<=i then some (ups i (j-i).toNat,ρ2) else none
  |_=>none)
 |_=>none
noncomputable abbrev FB:=Dat->Env->Option Env
noncomputable def bN(i:Nat):FB:=fun d ρ=>if i=0 then none else some (ρ.set i (.sh d))
noncomputable def sets:List Nat->List Dat->Env->Option Env
 |[],[],ρ=>some ρ
 |i::is,d::ds,ρ=>if i=0 then none else sets is ds (ρ.set i (.sh d))
 |_,_,_=>none
noncomputable def bT(is:List Nat):FB:=fun d ρ=>match d with
 |.tup ds=>sets is ds ρ
 |_=>none
noncomputable def cA(bd:FB)(t:FT)(el:FE):List Dat->Env->List Dat->Option (List Dat×Env)
 |[],ρ,En=>some (En,ρ)
 |d::r,ρ,En=>match bd d ρ with
  |none=>none
  |some ρ1=>match t ρ1 with
   |none=>none
   |some (false,ρ2)=>cA bd t el r ρ2 En
   |some (true,ρ2)=>match el ρ2 with
    |none=>none
    |some (x,ρ3)=>match tk ρ3 x with
     |none=>none
     |some (y,ρ4)=>cA bd t el r ρ4 (En++[y])
noncomputable def b9(it:FI)(own:Nat)(bd:FB)(t:FT)(el:FE):FE:=fun ρ=>match it ρ with
 |none=>none
 | some (ds,ρ1)=>if ds.length≤SZ then (match cA bd t el ds (ρ1++Qd own .un) [] with
  |none=>none
  |some (ys,ρ2)=>some (.new (.lst ys),ρ2.take ρ1.length)) else none
inductive Out where
 |nx (ρ:Env)
 |ret (r:RV) (ρ:Env)
 |bk (ρ:Env)
 |ct (ρ:Env)
noncomputable abbrev FS:=Env->Option Out
noncomputable def sNx:FS:=fun ρ=>some (.nx ρ)
noncomputable def aA(s u:FS):FS:=fun ρ=>match s ρ with
 |some (.nx ρ1)=>u ρ1
 |o=>o
noncomputable def sA(i:Nat)(e:FE):FS:=fun ρ=>if i=0 then none else match e ρ with
 |none=>none
 |some (.new d,ρ1)=>some (.nx (ρ1.set i (.ow d)))
 |some (x,ρ1)=>match tk ρ1 x with
  |none=>none
  |some (d,ρ2)=>some (.nx (ρ2.set i (.sh d)))
noncomputable def sE(e:FE):FS:=fun ρ=>match e ρ with
 |none=>none
 |some (_,ρ1)=>some (.nx ρ1)
noncomputable def sR(e:FE):FS:=fun ρ=>match e ρ with
 |none=>none
 |some (.new d,ρ1)=>some (.ret (.new d) ρ1)
 |some (.val d,ρ1)=>some (.ret (.val d) ρ1)
 |some (.slot i,ρ1)=>match ρ1[i]? with
  |some (.ow d)=>some (.ret (.new d) (ρ1.set i .un))
  |some (.sh d)=>some (.ret (.val d) ρ1)
  |_=>none
noncomputable def sIf(t:FT)(a b:FS):FS:=fun ρ=>match t ρ with
 |none=>none
 |some (true,ρ1)=>a ρ1
 |some (false,ρ1)=>b ρ1
noncomputable def lz(i:Nat)(e:FE):FS:=fun ρ=>match ρ[i]? with
 | some (.ow (.lst _))=>(match e ρ with
  |none=>none
  |some (x,ρ1)=>match tk ρ1 x with
   |none=>none
   |some (d,ρ2)=>match ρ2[i]? with
    |some (.ow (.lst ds))=>if ds.length<SZ then some (.nx (ρ2.set i (.ow (.lst (ds++[d]))))) else none
    |_=>none)
 |_=>none
noncomputable def ixN(n:Nat)(i:Int):Option Nat:=
 if 0<=i then (if i<n then some i.toNat else none) else if -(n:Int)<=i then some (i+n).toNat else none
noncomputable def uX(i:Nat)(j e:FE):FS:=fun ρ=>match e ρ with
 |none=>none
 |some (x,ρ1)=>match tk ρ1 x with
  |none=>none
  |some (d,ρ2)=>match ρ2[i]? with
   | some (.ow _)=>(match j ρ2 with
    | some (.val (.int k),ρ3)=>(match ρ3[i]? with
     | some (.ow (.lst ds))=>(match ixN ds.length k with
      |none=>none
      |some m=>some (.nx (ρ3.set i (.ow (.lst (ds.set m d))))))
     |_=>none)
    |_=>none)
   |_=>none
noncomputable def jx(bd:FB)(body:FS):List Dat->FS
 |[],ρ=>some (.nx ρ)
 |d::r,ρ=>match bd d ρ with
  |none=>none
  |some ρ1=>match body ρ1 with
   |some (.nx ρ2)=>jx bd body r ρ2
   |some (.ct ρ2)=>jx bd body r ρ2
   |some (.bk ρ2)=>some (.nx ρ2)
   |some (.ret v ρ2)=>some (.ret v ρ2)
   |none=>none
noncomputable def ff(it:FI)(bd:FB)(body:FS):FS:=fun ρ=>match it ρ with
 |none=>none
 |some (ds,ρ1)=>jx bd body ds ρ1
noncomputable def whD(t:FT)(body:FS):Nat->FS
 |0,_=>none
 |n+1,ρ=>match t ρ with
  |none=>none
  |some (false,ρ1)=>some (.nx ρ1)
  |some (true,ρ1)=>match body ρ1 with
   |some (.nx ρ2)=>whD t body n ρ2
   |some (.ct ρ2)=>whD t body n ρ2
   |some (.bk ρ2)=>some (.nx ρ2)
   |some (.ret v ρ2)=>some (.ret v ρ2)
   |none=>none
noncomputable def fn(n m:Nat)(body:FS)(ds:List Dat):Option RV:=if ds.length=n then (match body (ds.map Cell.sh++Qd m .un) with
 |some (.ret r _)=>some r
 |some (.nx _)=>some (.val .non)
 |_=>none) else none
noncomputable def b2i(b:Bool):Int:=if b then 1 else 0
mutual
noncomputable def eqD:Dat->Dat->Bool
 |.non,.non=>true
 |.bl a,.bl b=>a == b
 |.bl a,.int j=>b2i a == j
 |.int i,.bl b=>i == b2i b
 |.int i,.int j=>i == j
 |.str a,.str b=>a == b
 |.tup xs,.tup ys=>jy xs ys
 |.lst xs,.lst ys=>jy xs ys
 |_,_=>false
noncomputable def jy:List Dat->List Dat->Bool
 |[],[]=>true
 |x::xs,y::ys=>eqD x y&&jy xs ys
 |_,_=>false
end
noncomputable def okD:Nat->Dat->Bool
 |_,.dct _ _=>false
 |_,.dcp _ _=>false
 |_,.exc _=>false
 |_,.fn _=>false
 |_,.str s=>s.all fun c=>decide (c<128)
 |0,.tup _=>false
 |0,.lst _=>false
 |n+1,.tup xs=>xs.all (okD n)
 |n+1,.lst xs=>xs.all (okD n)
 |_,_=>true
noncomputable abbrev vB(b:Bool):Option RV:=some (.val (.bl b))
noncomputable def kG(p:Dat->Bool):Dat->Option RV
 |.exc _=>none
 |.fn _=>none
 |d=>vB (p d)
noncomputable abbrev vI(i:Int):Option RV:=some (.val (.int i))
noncomputable def gEq(x y:Dat):Option RV:=if okD 8 x&&okD 8 y then vB (eqD x y) else none
noncomputable def gNe(x y:Dat):Option RV:=if okD 8 x&&okD 8 y then vB (!eqD x y) else none
noncomputable def gLt:Dat->Dat->Option RV
 |.int i,.int j=>vB (decide (i<j))
 |_,_=>none
noncomputable def gLe:Dat->Dat->Option RV
 |.int i,.int j=>vB (decide (i<=j))
 |_,_=>none
noncomputable def gGt:Dat->Dat->Option RV
 |.int i,.int j=>vB (decide (j<i))
 |_,_=>none
noncomputable def gGe:Dat->Dat->Option RV
 |.int i,.int j=>vB (decide (j<=i))
 |_,_=>none
noncomputable def B64:Int:=18446744073709551616
noncomputable def bA:Dat->Dat->Option RV
 |.int i,.int j=>vI (i+j)
 |.lst xs,.lst ys=>if xs.length+ys.length<=SZ then some (.new (.lst (xs++ys))) else none
 |_,_=>none
noncomputable def jq:Dat->Dat->Option RV
 |.int i,.int j=>vI (i-j)
 |_,_=>none
noncomputable def gm:Dat->Dat->Option RV
 |.int i,.int j=>if (-B64<i/\i<B64)\/(-B64<j/\j<B64) then vI (i*j) else none
 |.lst xs,.int k=>if k<=BIG/\-BIG<=k/\xs.length*k.toNat<=SZ then some (.new (.lst (Qd k.toNat xs).flatten)) else none
 |_,_=>none
noncomputable def fh:Int:=1606938044258990275541962092341162602522202993782792835301376
noncomputable def yQ:Dat->Dat->Option RV
 |.int i,.int j=>if 0<j/\j<fh then vI (i / j) else none
 |_,_=>none
noncomputable def fW:Dat->Dat->Option RV
 |.int i,.int j=>if 0<j then vI (i % j) else none
 |_,_=>none
noncomputable def gn:Dat->Dat->Option RV
 |.int i,.int j=>if 0<=j/\j<=1000000/\i.natAbs<1000000 then vI (i ^ j.toNat) else none
 |_,_=>none
noncomputable def Az:Dat->Option RV
 |.int i=>vI (-i)
 |_=>none
noncomputable def atI(xs:List Dat)(i:Int):Option Dat:=(ixN xs.length i).bind fun j=>xs[j]?
noncomputable def gIx:Dat->Dat->Option RV
 |.lst xs,.int i=>(atI xs i).map .val
 |.tup xs,.int i=>(atI xs i).map .val
 |_,_=>none
noncomputable def inD(x:Dat)(xs:List Dat):Bool:=xs.any fun y=>eqD y x
noncomputable def gIn:Dat->Dat->Option RV
 |x,.lst xs=>if okD 8 x&&xs.all (okD 7) then vB (inD x xs) else none
 |x,.tup xs=>if okD 8 x&&xs.all (okD 7) then vB (inD x xs) else none
 |_,_=>none
noncomputable def jz:Dat->Dat->Option RV
 |x,.lst xs=>if okD 8 x&&xs.all (okD 7) then vB (!inD x xs) else none
 |x,.tup xs=>if okD 8 x&&xs.all (okD 7) then vB (!inD x xs) else none
 |_,_=>none
noncomputable def sIx(n d:Nat):Option Int->Nat
 |none=>d
 |some v=>(if v<0 then max (v+n) 0 else min v n).toNat
noncomputable def cut(xs:List Dat)(lo hi:Option Int):List Dat:=(xs.drop (sIx xs.length 0 lo)).take (sIx xs.length xs.length hi-sIx xs.length 0 lo)
noncomputable def eW:List Dat->Option RV
 |[.lst xs]=>vI xs.length
 |[.tup xs]=>vI xs.length
 |_=>none
noncomputable def f6:List Dat->Option RV
 |[.int i,.int j]=>vI (if j<i then j else i)
 |_=>none
noncomputable def jW:List Dat->Option RV
 |[.int i,.int j]=>vI (if j>i then j else i)
 |_=>none
noncomputable def rO:List Dat->Option RV
 |[.lst xs]=>some (.new (.lst xs))
 |[.tup xs]=>some (.new (.lst xs))
 |_=>none
noncomputable def fk:List Dat->Option RV
 |[.lst xs]=>some (.val (.tup xs))
 |[.tup xs]=>some (.val (.tup xs))
 |_=>none
noncomputable def isI:Dat->Bool
 |.int _=>true
 |.bl _=>true
 |_=>false
noncomputable def isB:Dat->Bool
 |.bl _=>true
 |_=>false
noncomputable def isL:Dat->Bool
 |.lst _=>true
 |_=>false
noncomputable def isT:Dat->Bool
 |.tup _=>true
 |_=>false
noncomputable def bools:List Dat->Option (List Bool)
 |[]=>some []
 |.bl b::r=>(bools r).map fun bs=>b::bs
 |_=>none
noncomputable def qf:List Dat->Option RV
 | [.lst xs]=>(match bools xs with
  |some bs=>vB (bs.all id)
  |none=>none)
 |_=>none
noncomputable def lA(g h:Dat->Dat->Option RV)(a b c:FE):FE:=fun ρ=>match a ρ with
 |none=>none
 |some (x,ρ1)=>match b ρ1 with
  |none=>none
  |some (y,ρ2)=>match pk ρ2 x with
   |none=>none
   |some d=>match pk ρ2 y with
    |none=>none
    |some e=>match g d e with
     | some (.val (.bl true))=>(match c ρ2 with
      |none=>none
      |some (z,ρ3)=>match pk ρ3 y with
       |none=>none
       |some e'=>match pk ρ3 z with
        |none=>none
        |some f=>match h e' f with
         |none=>none
         |some v=>some (v.br,ρ3))
     |some (.val (.bl false))=>some (.val (.bl false),ρ2)
     |_=>none
noncomputable def part:Option FE->Env->Option (Option Int×Env)
 |none,ρ=>some (none,ρ)
 |some f,ρ=>match f ρ with
  |some (.val (.int i),ρ1)=>some (some i,ρ1)
  |_=>none
noncomputable def eSl(a:FE)(lo hi:Option FE):FE:=fun ρ=>match a ρ with
 |none=>none
 |some (x,ρ1)=>match part lo ρ1 with
  |none=>none
  |some (l,ρ2)=>match part hi ρ2 with
   |none=>none
   |some (h,ρ3)=>match pk ρ3 x with
    |some (.lst xs)=>some (.new (.lst (cut xs l h)),ρ3)
    |_=>none
noncomputable def yR:List Dat->Option RV
 |[.int i]=>vI i
 |[.bl b]=>vI (b2i b)
 |_=>none
end Dm
open Dm(Dat FE RV FT FS)
namespace Br
open PySem L2
noncomputable def kP(p:Int×Int):List Key:=[Qw p.1,Qw p.2]
def jA(H:Hp):List Addr->List (Int×Int)->Prop
 |[],[]=>True
 |t::ts,p::ks=>H t=some (.tup [V.int p.1,V.int p.2])/\jA H ts ks
 |_,_=>False
theorem jA.mono{H H':Hp}(s:aq H H'):∀{ts:List Addr} {ks:List (Int×Int)},jA H ts ks->jA H' ts ks
 |[],[],_=>trivial
 |_::_,_::_,h=>⟨s _ _ h.1,jA.mono s h.2⟩
 |[],_::_,h=>h
 |_::_,[],h=>h
def AA(H:Hp)(x:List (List Key×V)×List Addr)(ks:List (Int×Int)):Prop:=x.1.map (·.1)=ks.map kP/\jA H x.2 ks
theorem AA.mono{H H':Hp}(s:aq H H'){x:List (List Key×V)×List Addr}{ks:List (Int×Int)}(h:AA H x ks):AA H' x ks:=⟨h.1,h.2.mono s⟩
mutual
inductive Rep(H:Hp):V->Dat->Prop
 |non:Rep H V.non Dat.non
 |bl (b:Bool):Rep H (V.bl b) (Dat.bl b)
 |int (i:Int):Rep H (V.int i) (Dat.int i)
 |str (s:List Nat):Rep H (V.str ⟨s.toArray⟩) (Dat.str s)
 |tup {a:Addr} {xs:List V} {ds:List Dat}:H a=some (.tup xs)->aC H xs ds->Rep H (V.ref a) (Dat.tup ds)
 |lst {a:Addr} {xs:List V} {ds:List Dat}:Rd H a (.lst xs)->aC H xs ds->Rep H (V.ref a) (Dat.lst ds)
 |dct {a:Addr} {kvs:List (Key×V)} {ks:List Int} {ds:List Dat}:H a=some (.dK kvs)->kvs.map (·.1)=ks.map Qw->aC H (kvs.map (·.2)) ds->Rep H (V.ref a) (Dat.dct ks ds)
 |dcp {a:Addr} {x:List (List Key×V)×List Addr} {ks:List (Int×Int)} {ds:List Dat}:H a=some (.dT x.1 x.2)->AA H x ks->aC H (x.1.map (·.2)) ds->Rep H (V.ref a) (Dat.dcp ks ds)
 |exc {a:Addr} {C:Nat}:H a=some (.ext fun h=>∃o,h.get? a=some o/\o.cls=.ref C)->Rep H (V.ref a) (Dat.exc C)
 |fn (a:Addr):Rep H (V.ref a) (Dat.fn a)
inductive aC(H:Hp):List V->List Dat->Prop
 |nil:aC H [] []
 |cons {v:V} {d:Dat} {vs:List V} {ds:List Dat}:Rep H v d->aC H vs ds->aC H (v::vs) (d::ds)
end
theorem aq.rd{H H':Hp}(s:aq H H'){a:Addr}{u:HO}(h:Rd H a u):Rd H' a u:=by
 rcases h with h | ⟨o,h⟩
 ·exact .inl (s _ _ h)
 ·exact .inr ⟨o,s _ _ h⟩
mutual
theorem Rep.mono{H H':Hp}(s:aq H H'):∀{v:V} {d:Dat},Rep H v d->Rep H' v d
 |_,_,.non=>.non
 |_,_,.bl b=>.bl b
 |_,_,.int i=>.int i
 |_,_,.str x=>.str x
 |_,_,.tup h r=>.tup (s _ _ h) (aC.mono s r)
 |_,_,.lst h r=>.lst (aq.rd s h) (aC.mono s r)
 |_,_,.dct h e r=>.dct (s _ _ h) e (aC.mono s r)
 |_,_,.dcp h e r=>.dcp (s _ _ h) (e.mono s) (aC.mono s r)
 |_,_,.exc h=>.exc (s _ _ h)
 |_,_,.fn a=>.fn a
theorem aC.mono{H H':Hp}(s:aq H H'):∀{vs:List V} {ds:List Dat},aC H vs ds->aC H' vs ds
 |_,_,.nil=>.nil
 |_,_,.cons h r=>.cons (Rep.mono s h) (aC.mono s r)
end
section
variable{ρ:Dm.Env}{H0 H:Hp}{d:Dat}{σ:St}{a:Addr}{x:Dm.Val}{v:V}{X:Cx}{t t':TS}{p:Addr}{e:Expr}{o:HO}
theorem aC.length{H:Hp}:∀{vs:List V} {ds:List Dat},aC H vs ds->vs.length=ds.length
 |_,_,.nil=>rfl
 |_,_,.cons _ r=>by simp[aC.length r]
theorem aC.get{H:Hp}:∀{vs:List V} {ds:List Dat} {i:Nat} {d:Dat},aC H vs ds->ds[i]?=some d->∃v,vs[i]?=some v/\Rep H v d
 |_,_,_,_,.nil,e=>by simp at e
 |_,_,0,_,.cons h _,e=>by simp at e;subst e;exact⟨_,rfl,h⟩
 |_,_,i+1,_,.cons _ r,e=>by obtain⟨v,h1,h2⟩:=aC.get (i:=i) r (by simpa using e);exact⟨v,by simpa using h1,h2⟩
theorem aC.append{H:Hp}:∀{vs ws:List V} {ds es:List Dat},aC H vs ds->aC H ws es->aC H (vs++ws) (ds++es)
 |_,_,_,_,.nil,s=>s
 |_,_,_,_,.cons h r,s=>.cons h (aC.append r s)
theorem aC.take{H:Hp}:∀{vs:List V} {ds:List Dat} (n:Nat),aC H vs ds->aC H (vs.take n) (ds.take n)
 |_,_,0,_=>by simpa using aC.nil
 |_,_,_+1,.nil=>by simpa using aC.nil
 |_,_,n+1,.cons h r=>by simpa using aC.cons h (aC.take n r)
theorem aC.drop{H:Hp}:∀{vs:List V} {ds:List Dat} (n:Nat),aC H vs ds->aC H (vs.drop n) (ds.drop n)
 |_,_,0,r=>by simpa using r
 |_,_,_+1,.nil=>by simpa using aC.nil
 |_,_,n+1,.cons _ r=>by simpa using aC.drop n r
theorem aC.set{H:Hp}(h:Rep H v d):∀{vs:List V} {ds:List Dat} (i:Nat),aC H vs ds->aC H (vs.set i v) (ds.set i d)
 |_,_,_,.nil=>.nil
 |_,_,0,.cons _ r=>.cons h r
 |_,_,i+1,.cons q r=>.cons q (aC.set h i r)
theorem aC.rep{H:Hp}{vs:List V}{ds:List Dat}(r:aC H vs ds):∀k:Nat,aC H (Qd k vs).flatten (Qd k ds).flatten
 |0=>by simpa using aC.nil
 |k+1=>by rw[Rp,Rp,Ra,Ra];exact aC.append r (aC.rep r k)
def Own(H0 H:Hp)(a:Addr):Dat->Prop
 |.lst ds=>∃xs,H a=some (.lst xs)/\aC H0 xs ds
 |.dct ks ds=>∃kvs:List (Key×V),H a=some (.dK kvs)/\kvs.map (·.1)=ks.map Qw/\aC H0 (kvs.map (·.2)) ds
 |.dcp ks ds=>∃x:List (List Key×V)×List Addr,H a=some (.dT x.1 x.2)/\AA H0 x ks/\aC H0 (x.1.map (·.2)) ds
 |_=>False
theorem Own.some(h:Own H0 H a d):∃o,H a=some o:=by
 cases d with
 |lst ds=>obtain⟨xs,e,_⟩:=h;exact⟨_,e⟩
 |dct ks ds=>obtain⟨xs,e,_⟩:=h;exact⟨_,e⟩
 |dcp ks ds=>obtain⟨xs,e,_⟩:=h;exact⟨_,e⟩
 |_=>exact QN h
theorem Own.mono{H0 H H0' H':Hp}(h:Own H0 H a d)(s:aq H0 H0')(e:H' a=H a):Own H0' H' a d:=by
 cases d with
 |lst ds=>obtain⟨xs,q,r⟩:=h;exact⟨xs,by rw[e];exact q,r.mono s⟩
 |dct ks ds=>obtain⟨xs,q,k,r⟩:=h;exact⟨xs,by rw[e];exact q,k,r.mono s⟩
 |dcp ks ds=>obtain⟨xs,q,k,r⟩:=h;exact⟨xs,by rw[e];exact q,k.mono s,r.mono s⟩
 |_=>exact QN h
def jB(H0 H:Hp)(v:V)(d:Dat):Prop:=Rep H0 v d\/∃a,v=V.ref a/\Own H0 H a d
inductive rP(H0 H:Hp):List V->List Dat->Prop
 |nil:rP H0 H [] []
 |cons {v:V} {d:Dat} {vs:List V} {ds:List Dat}:jB H0 H v d->rP H0 H vs ds->rP H0 H (v::vs) (d::ds)
noncomputable def shr(H0 H:Hp)(a:Addr):Hp:=fun b=>if b=a then H a else H0 b
theorem b_:shr H0 H a a=H a:=by unfold shr;rw[if_pos rfl]
theorem dX{a b:Addr}(h:b≠a):shr H0 H a b=H0 b:=by unfold shr;rw[if_neg h]
theorem dc(h:H0 a=none):aq H0 (shr H0 H a):=fun b o e=>by
 by_cases q:b=a
 ·subst q;rw[h]at e;cases e
 ·rw[dX q];exact e
theorem qg(s:aq H0 H):aq (shr H0 H a) H:=fun b o e=>by
 by_cases q:b=a
 ·subst q;rw[b_]at e;exact e
 ·rw[dX q]at e;exact s _ _ e
theorem Own.rep(h:Own H0 H a d)(n:H0 a=none):Rep (shr H0 H a) (V.ref a) d:=by
 cases d with
 |lst ds=>obtain⟨xs,q,r⟩:=h;exact .lst (.inl (by rw[b_];exact q)) (r.mono (dc n))
 |dct ks ds=>obtain⟨xs,q,k,r⟩:=h;exact .dct (by rw[b_];exact q) k (r.mono (dc n))
 |dcp ks ds=>obtain⟨xs,q,k,r⟩:=h;exact .dcp (by rw[b_];exact q) (k.mono (dc n)) (r.mono (dc n))
 |_=>exact QN h
def ak(σ:St)(ρ:Dm.Env)(a:Addr):Prop:=∃(i:Nat) (d:Dat),ρ[i]?=some (Dm.Cell.ow d)/\σ[i]?=some (some (V.ref a))
noncomputable abbrev Def(_:Dm.Env)(_:Nat):Prop:=True
structure au(H0 H:Hp)(σ:St)(ρ:Dm.Env):Prop where
 same:aq H0 H
 len:σ.length=ρ.length
 sh:∀(i:Nat) (d:Dat),ρ[i]?=some (Dm.Cell.sh d)->∃v,σ[i]?=some (some v)/\Rep H0 v d
 ow:∀(i:Nat) (d:Dat),ρ[i]?=some (Dm.Cell.ow d)->∃a,σ[i]?=some (some (V.ref a))/\H0 a=none/\Own H0 H a d
 dis:∀(i j:Nat) (d e:Dat) (a:Addr),ρ[i]?=some (Dm.Cell.ow d)->ρ[j]?=some (Dm.Cell.ow e)->σ[i]?=some (some (V.ref a))->σ[j]?=some (some (V.ref a))->i=j
structure Stp(O:Addr->Prop)(H0 H H0' H':Hp):Prop where
 s0:aq H0 H0'
 s1:∀a o,H a=some o->¬O a->H' a=some o
 s2:∀a o,H0' a=some o->H a=none\/H0 a=some o\/O a
 s3:∀a o,H a=some o->∃o',H' a=some o'
theorem Stp.refl(O:Addr->Prop)(H0 H:Hp):Stp O H0 H H0 H:=⟨aq.refl _,fun _ _ e _=>e,fun _ _ e=>.inr (.inl e),fun _ o e=>⟨o,e⟩⟩
theorem Stp.gone{O:Addr->Prop}{H0 H H0' H':Hp}(t:Stp O H0 H H0' H')(h:H' a=none):H a=none:=by
 cases q:H a with
 |none=>rfl
 |some o=>obtain⟨o',e⟩:=t.s3 a o q;rw[h]at e;cases e
theorem Stp.trans{O1 O2:Addr->Prop}{H0 H H1 H' H2 H'':Hp}(t:Stp O1 H0 H H1 H')(u:Stp O2 H1 H' H2 H'')(k:∀a,O2 a->O1 a\/H a=none):Stp O1 H0 H H2 H'' where
 s0:=t.s0.trans u.s0
 s1:=fun a o e n=>u.s1 a o (t.s1 a o e n) fun z=>(k a z).elim n fun q=>by rw[q]at e;cases e
 s2:=fun a o e=>by
  rcases u.s2 a o e with q | q | q
  ·exact .inl (t.gone q)
  ·exact t.s2 a o q
  ·rcases k a q with z | z
   ·exact .inr (.inr z)
   ·exact .inl z
 s3:=fun a o e=>by obtain⟨o',e'⟩:=t.s3 a o e;exact u.s3 a o' e'
theorem Stp.wide{O O':Addr->Prop}{H0 H H0' H':Hp}(t:Stp O H0 H H0' H')(k:∀a,O a->O' a):Stp O' H0 H H0' H':=
 ⟨t.s0,fun a o e n=>t.s1 a o e fun z=>n (k a z),fun a o e=>(t.s2 a o e).imp id (Or.imp id (k a)),t.s3⟩
structure aK(H0 H H0' H':Hp):Prop where
 s0:aq H0 H0'
 s1:aq H H'
 s2:∀a o,H0' a=some o->H a=none\/H0 a=some o
 s3:aq H0' H'
theorem aK.refl(s:aq H0 H):aK H0 H H0 H:=⟨aq.refl _,aq.refl _,fun _ _ e=>.inr e,s⟩
theorem aK.stp{H0 H H0' H':Hp}(g:aK H0 H H0' H')(O:Addr->Prop):Stp O H0 H H0' H':=
 ⟨g.s0,fun a o e _=>g.s1 a o e,fun a o e=>(g.s2 a o e).imp id .inl,fun a o e=>⟨o,g.s1 a o e⟩⟩
theorem aK.AB(s:aq H0 H)(n:H p=none):aK H0 H (upd H0 p o) (upd H p o) where
 s0:=fun b u e=>by rw[ai (aI e (s.free n))];exact e
 s1:=fun b u e=>by rw[ai (aI e n)];exact e
 s2:=fun b u e=>by
  by_cases q:b=p
  ·subst q;exact .inl n
  ·rw[ai q]at e;exact .inr e
 s3:=fun b u e=>by
  by_cases q:b=p
  ·subst q;rw[ao]at e ⊢;exact e
  ·rw[ai q]at e ⊢;exact s _ _ e
theorem aK.lB(s:aq H0 H)(n:H p=none):aK H0 H H0 (upd H p o) where
 s0:=aq.refl _
 s1:=fun b u e=>by rw[ai (aI e n)];exact e
 s2:=fun b u e=>.inr e
 s3:=fun b u e=>by rw[ai (aI (s _ _ e) n)];exact s _ _ e
def eX(Hs H0 H:Hp)(σ:St)(ρ:Dm.Env)(v:V):Dm.Val->Prop
 |.val d=>Rep H0 v d
 |.slot i=>σ[i]?=some (some v)/\Def ρ i
 |.new d=>∃a,v=V.ref a/\Hs a=none/\¬ak σ ρ a/\H0 a=none/\Own H0 H a d
structure ESt(σ:St)(ρ:Dm.Env)(H0 H:Hp)(ρ':Dm.Env)(H0' H':Hp):Prop where
 st:au H0' H' σ ρ'
 stp:Stp (ak σ ρ) H0 H H0' H'
 own:∀a,ak σ ρ' a->ak σ ρ a
 dfn:∀i,Def ρ i->Def ρ' i
theorem ESt.refl(st:au H0 H σ ρ):ESt σ ρ H0 H ρ H0 H:=⟨st,Stp.refl _ _ _,fun _ z=>z,fun _ z=>z⟩
theorem ESt.trans{ρ ρ1 ρ2:Dm.Env}{H0 H H1 H' H2 H'':Hp}(t:ESt σ ρ H0 H ρ1 H1 H')(u:ESt σ ρ1 H1 H' ρ2 H2 H''):ESt σ ρ H0 H ρ2 H2 H'':=
 ⟨u.st,t.stp.trans u.stp fun a z=>.inl (t.own a z),fun a z=>t.own a (u.own a z),fun i z=>u.dfn i (t.dfn i z)⟩
theorem au.grow{H0 H H0' H':Hp}(st:au H0 H σ ρ)(g:aK H0 H H0' H'):au H0' H' σ ρ where
 same:=g.s3
 len:=st.len
 sh:=fun i d e=>by obtain⟨v,q,r⟩:=st.sh i d e;exact⟨v,q,r.mono g.s0⟩
 ow:=fun i d e=>by
  obtain⟨a,q,n,w⟩:=st.ow i d e;obtain⟨o,z⟩:=w.some;refine⟨a,q,?_,w.mono g.s0 ((g.s1 a o z).trans z.symm)⟩;cases y:H0' a with
  |none=>rfl
  |some u=>
   rcases g.s2 a u y with k | k
   ·rw[z]at k;cases k
   ·rw[n]at k;cases k
 dis:=st.dis
theorem ESt.grow{H0 H H0' H':Hp}(st:au H0 H σ ρ)(g:aK H0 H H0' H'):ESt σ ρ H0 H ρ H0' H':=
 ⟨st.grow g,g.stp _,fun _ z=>z,fun _ z=>z⟩
theorem eX.mono{Hs H0 H H0' H':Hp}{ρ ρ':Dm.Env}(r:eX Hs H0 H σ ρ v x)(t:ESt σ ρ H0 H ρ' H0' H'):eX Hs H0' H' σ ρ' v x:=by
 cases x with
 |val d=>exact Rep.mono t.stp.s0 r
 |slot i=>exact⟨r.1,t.dfn i r.2⟩
 |new d=>
  obtain⟨a,e,n,no,n0,w⟩:=r;obtain⟨o,z⟩:=w.some;refine⟨a,e,n,fun y=>no (t.own a y),?_,w.mono t.stp.s0 ((t.stp.s1 a o z no).trans z.symm)⟩;cases y:H0' a with
  |none=>rfl
  |some u=>
   rcases t.stp.s2 a u y with k | k | k
   ·rw[z]at k;cases k
   ·rw[n0]at k;cases k
   ·exact absurd k no
theorem eX.early{Hs Hs' H0 H:Hp}(r:eX Hs H0 H σ ρ v x)(k:∀a,Hs a=none->Hs' a=none):eX Hs' H0 H σ ρ v x:=by
 cases x with
 |val d=>exact r
 |slot i=>exact r
 |new d=>obtain⟨a,e,n,z⟩:=r;exact⟨a,e,k a n,z⟩
theorem eX.look{Hs H0 H:Hp}(r:eX Hs H0 H σ ρ v x)(st:au H0 H σ ρ)(e:Dm.pk ρ x=some d):jB H0 H v d:=by
 cases x with
 |val d'=>cases e;exact .inl r
 |new d'=>cases e;obtain⟨a,e,_,_,_,w⟩:=r;exact .inr ⟨a,e,w⟩
 |slot i=>
  obtain⟨q,_⟩:=r;unfold Dm.pk at e;dsimp only at e;split at e
  ·rename_i d' h;cases e;obtain⟨a,z,_,w⟩:=st.ow i d h;rw[q]at z;cases z;exact .inr ⟨a,rfl,w⟩
  ·rename_i d' h;cases e;obtain⟨u,z,w⟩:=st.sh i d h;rw[q]at z;cases z;exact .inl w
  ·cases e
def rQ(Hs H0 H:Hp)(v:V):RV->Prop
 |.val d=>Rep H0 v d
 |.new d=>∃a,v=V.ref a/\Hs a=none/\H0 a=none/\Own H0 H a d
theorem rQ.toV{H H0' H' H0:Hp}{z:RV}(r:rQ H H0' H' v z)(st:au H0 H σ ρ):eX H H0' H' σ ρ v z.br:=by
 cases z with
 |val d=>exact r
 |new d=>obtain⟨a,e,n,n0,w⟩:=r;refine⟨a,e,n,fun⟨i,d',h1,h2⟩=>?_,n0,w⟩;obtain⟨a',q,_,w'⟩:=st.ow i d' h1;rw[h2]at q;cases q;obtain⟨o,z⟩:=w'.some;rw[n]at z;cases z
def tD(f:FE):TE:=fun σ H Q=>∃H0 ρ x ρ',au H0 H σ ρ/\f ρ=some (x,ρ')/\∀v H0' H',ESt σ ρ H0 H ρ' H0' H'->eX H H0' H' σ ρ' v x->Q v H'
def tDT(f:FT):TT:=fun σ H Q=>∃H0 ρ b ρ',au H0 H σ ρ/\f ρ=some (b,ρ')/\∀H0' H',ESt σ ρ H0 H ρ' H0' H'->Q b H'
inductive bu(Hs H0 H:Hp)(σ:St)(ρ:Dm.Env):List V->List Dm.Val->Prop
 |nil:bu Hs H0 H σ ρ [] []
 |cons {v:V} {x:Dm.Val} {vs:List V} {xs:List Dm.Val}:eX Hs H0 H σ ρ v x->bu Hs H0 H σ ρ vs xs->bu Hs H0 H σ ρ (v::vs) (x::xs)
def tDA(fs:List FE):TA:=fun σ H Q=>∃H0 ρ xs ρ',au H0 H σ ρ/\Dm.eAs fs ρ=some (xs,ρ')/\∀vs H0' H',ESt σ ρ H0 H ρ' H0' H'->bu H H0' H' σ ρ' vs xs->Q vs H'
noncomputable abbrev DE(X:Cx)(e:Expr)(f:FE):Prop:=PE X e (tD f)
noncomputable abbrev DT(X:Cx)(e:Expr)(f:FT):Prop:=PT X e (tDT f)
noncomputable abbrev DA(X:Cx)(es:List Expr)(fs:List FE):Prop:=PA X es (tDA fs)
theorem PE.weak{t t':TE}(h:PE X e t)(k:∀σ H Q,t' σ H Q->t σ H Q):PE X e t':=fun qL s σ H Q I q=>h qL s σ H Q I (k σ H Q q)
theorem PT.weak{t t':TT}(h:PT X e t)(k:∀σ H Q,t' σ H Q->t σ H Q):PT X e t':=fun qL s σ H Q I q=>h qL s σ H Q I (k σ H Q q)
theorem PA.weak{es:List Expr}{t t':TA}(h:PA X es t)(k:∀σ H Q,t' σ H Q->t σ H Q):PA X es t':=fun pos qL s σ H Q I q=>h pos qL s σ H Q I (k σ H Q q)
theorem PS.weak{st:Stmt}(h:PS X st t)(k:∀D σ H,t' D σ H->t D σ H):PS X st t':=fun qL s σ H D I q=>h qL s σ H D I (k D σ H q)
theorem PSs.weak{st:List Stmt}(h:PSs X st t)(k:∀D σ H,t' D σ H->t D σ H):PSs X st t':=fun qL s σ H D I q=>h qL s σ H D I (k D σ H q)
theorem bX(s:aq H0 H):aq H0 (shr H0 H a):=fun b o e=>by
 by_cases q:b=a
 ·subst q;rw[b_];exact s _ _ e
 ·rw[dX q];exact e
theorem Own.Mn{H0 H0c H:Hp}(h:Own H0 H a d)(b:aq H0 H0c)(s:aq H0c H):Rep (shr H0c H a) (V.ref a) d:=by
 cases d with
 |lst ds=>obtain⟨xs,q,r⟩:=h;exact .lst (.inl (by rw[b_];exact q)) (r.mono (b.trans (bX s)))
 |dct ks ds=>obtain⟨xs,q,k,r⟩:=h;exact .dct (by rw[b_];exact q) k (r.mono (b.trans (bX s)))
 |dcp ks ds=>obtain⟨xs,q,k,r⟩:=h;exact .dcp (by rw[b_];exact q) (k.mono (b.trans (bX s))) (r.mono (b.trans (bX s)))
 |_=>exact QN h
theorem eX.rho{Hs H0 H:Hp}{ρ ρ':Dm.Env}(r:eX Hs H0 H σ ρ v x)(o:∀a,ak σ ρ' a->ak σ ρ a)(d:∀i,Def ρ i->Def ρ' i):eX Hs H0 H σ ρ' v x:=by
 cases x with
 |val d=>exact r
 |slot i=>exact⟨r.1,d i r.2⟩
 |new d=>obtain⟨a,e,n,no,z⟩:=r;exact⟨a,e,n,fun y=>no (o a y),z⟩
theorem bu.rho{Hs H0 H:Hp}{ρ ρ':Dm.Env}(o:∀a,ak σ ρ' a->ak σ ρ a)(d:∀i,Def ρ i->Def ρ' i):∀{vs:List V} {xs:List Dm.Val},bu Hs H0 H σ ρ vs xs->bu Hs H0 H σ ρ' vs xs
 |_,_,.nil=>.nil
 |_,_,.cons h r=>.cons (h.rho o d) (bu.rho o d r)
theorem bu.early{Hs Hs' H0 H:Hp}(k:∀a,Hs a=none->Hs' a=none):∀{vs:List V} {xs:List Dm.Val},bu Hs H0 H σ ρ vs xs->bu Hs' H0 H σ ρ vs xs
 |_,_,.nil=>.nil
 |_,_,.cons h r=>.cons (h.early k) (bu.early k r)
theorem aE{i j:Nat}{c d:Dm.Cell}(h:(ρ.set i c)[j]?=some d):(j=i/\d=c)\/(j≠i/\ρ[j]?=some d):=by
 by_cases e:j=i
 ·subst e;by_cases l:j<ρ.length
  ·rw[Qz l]at h;exact .inl ⟨rfl,(Option.some.inj h).symm⟩
  ·rw[QZ (by simpa using R4.mp l)]at h;cases h
 ·rw[Dk (Ne.symm e)]at h;exact .inr ⟨e,h⟩
theorem uY{i:Nat}(st:au H0 H σ ρ)(e:ρ[i]?=some (.ow d))(q:σ[i]?=some (some (V.ref a))) :
  au (shr H0 H a) H σ (ρ.set i (.sh d))/\(∀b,ak σ (ρ.set i (.sh d)) b->ak σ ρ b)/\∀j,Def ρ j->Def (ρ.set i (.sh d)) j:=by
 obtain⟨a',q',n,w⟩:=st.ow i d e;rw[q]at q';cases q';have hil:i<ρ.length:=(PU.mp e).1;refine⟨⟨qg st.same,by rw[QC];exact st.len,fun j d' h=>?_,fun j d' h=>?_,fun j k d1 d2 b h1 h2 h3 h4=>?_⟩,fun b ⟨j,d',h1,h2⟩=>?_,fun j h=>?_⟩
 ·rcases aE h with⟨rfl,z⟩ | ⟨_,h⟩
  ·cases z;exact⟨_,q,w.rep n⟩
  ·obtain⟨v,z,r⟩:=st.sh j d' h;exact⟨v,z,r.mono (dc n)⟩
 ·rcases aE h with⟨_,z⟩ | ⟨hj,h⟩
  ·cases z
  ·obtain⟨b,z,n',w'⟩:=st.ow j d' h;have nb:b≠a:=fun y=>hj (st.dis j i d' d a h e (y▸z) q);exact⟨b,z,by rw[dX nb];exact n',w'.mono (dc n) rfl⟩
 ·rcases aE h1 with⟨_,z⟩ | ⟨_,h1⟩
  ·cases z
  ·rcases aE h2 with⟨_,z⟩ | ⟨_,h2⟩
   ·cases z
   ·exact st.dis j k d1 d2 b h1 h2 h3 h4
 ·rcases aE h1 with⟨_,z⟩ | ⟨_,h1⟩
  ·cases z
  ·exact⟨j,d',h1,h2⟩
 ·trivial
theorem yS(st:au H0 H σ ρ)(no:¬ak σ ρ a):au (shr H0 H a) H σ ρ where
 same:=qg st.same
 len:=st.len
 sh:=fun j d h=>by obtain⟨v,z,r⟩:=st.sh j d h;exact⟨v,z,r.mono (bX st.same)⟩
 ow:=fun j d h=>by obtain⟨b,z,n',w'⟩:=st.ow j d h;have nb:b≠a:=fun y=>no ⟨j,d,h,y▸z⟩;exact⟨b,z,by rw[dX nb];exact n',w'.mono (bX st.same) rfl⟩
 dis:=st.dis
theorem take1{Hs H0s H0 H0c H:Hp}{ρs ρ ρ':Dm.Env}(t:ESt σ ρs H0s Hs ρ H0c H)(b:aq H0 H0c)(r:eX Hs H0 H σ ρ v x)(e:Dm.tk ρ x=some (d,ρ')) :
  ∃lC,ESt σ ρs H0s Hs ρ' lC H/\aq H0c lC/\Rep lC v d/\(∀a,ak σ ρ' a->ak σ ρ a)/\∀i,Def ρ i->Def ρ' i:=by
 cases x with
 |val d'=>cases e;exact⟨H0c,t,aq.refl _,Rep.mono b r,fun _ z=>z,fun _ z=>z⟩
 |new d'=>
  cases e;obtain⟨a,e,n,no,n0,w⟩:=r;subst e;have ss:=bX (a:=a) t.st.same;refine⟨shr H0c H a,⟨yS t.st no,⟨t.stp.s0.trans ss,t.stp.s1,fun c o q=>?_,t.stp.s3⟩,t.own,t.dfn⟩,ss,w.Mn b t.st.same,fun _ z=>z,fun _ z=>z⟩;by_cases y:c=a
  ·subst y;exact .inl n
  ·rw[dX y]at q;exact t.stp.s2 c o q
 |slot i=>
  obtain⟨q,_⟩:=r;unfold Dm.tk at e;dsimp only at e;split at e
  ·rename_i d' h;cases e;obtain⟨a,z,n,w⟩:=t.st.ow i _ h;rw[q]at z;cases z;obtain⟨s1,s2,s3⟩:=uY t.st h q;have ss:=bX (a:=a) t.st.same;refine⟨shr H0c H a,⟨s1,⟨t.stp.s0.trans ss,t.stp.s1,fun c o q'=>?_,t.stp.s3⟩,fun b z=>t.own b (s2 b z),fun j z=>s3 j (t.dfn j z)⟩,ss,w.Mn (aq.refl _) t.st.same,s2,s3⟩;by_cases y:c=a
   ·subst y;exact .inr (.inr (t.own c ⟨i,_,h,q⟩))
   ·rw[dX y]at q';exact t.stp.s2 c o q'
  ·rename_i d' h;cases e;obtain⟨u,z,w⟩:=t.st.sh i _ h;rw[q]at z;cases z;exact⟨H0c,t,aq.refl _,w,fun _ z=>z,fun _ z=>z⟩
  ·cases e
theorem takes{Hs H0s H0 H:Hp}{ρs:Dm.Env}:∀{xs:List Dm.Val} {vs:List V} {ρ ρ':Dm.Env} {ds:List Dat} {H0c:Hp},ESt σ ρs H0s Hs ρ H0c H->aq H0 H0c->bu Hs H0 H σ ρ vs xs->Dm.tks ρ xs=some (ds,ρ') ->
  ∃lC,ESt σ ρs H0s Hs ρ' lC H/\aq H0c lC/\aC lC vs ds
 |[],_,ρ,ρ',ds,H0c,t,b,r,e=>by cases r;cases e;exact⟨H0c,t,aq.refl _,.nil⟩
 |x::xs,_,ρ,ρ',ds,H0c,t,b,r,e=>by
  cases r with
  |cons h r=>
   unfold Dm.tks at e;split at e
   ·cases e
   ·rename_i d ρ1 e1;split at e
    ·cases e
    ·rename_i ds' ρ2 e2;cases e;obtain⟨H1,t1,b1,r1,o1,d1⟩:=take1 t b h e1;obtain⟨H2,t2,b2,r2⟩:=takes t1 (b.trans b1) (r.rho o1 d1) e2;exact⟨H2,t2,b1.trans b2,.cons (r1.mono b2) r2⟩
theorem Mp{ρ ρ':Dm.Env}(e:Dm.tk ρ x=some (d,ρ'))(y:Dm.Val):Dm.pk ρ' y=Dm.pk ρ y:=by
 cases x with
 |val d'=>cases e;rfl
 |new d'=>cases e;rfl
 |slot i=>
  unfold Dm.tk at e;dsimp only at e;split at e
  ·rename_i d' h;cases e;cases y with
   |val _=>rfl
   |new _=>rfl
   |slot j=>
    unfold Dm.pk;dsimp only;by_cases z:j=i
    ·subst z;rw[Qz (PU.mp h).1,h]
    ·rw[Dk (Ne.symm z)]
  ·cases e;rfl
  ·cases e
theorem AD(e:Dm.pk ρ x=some d):∃ρ',Dm.tk ρ x=some (d,ρ'):=by
 cases x with
 |val d'=>cases e;exact⟨ρ,rfl⟩
 |new d'=>cases e;exact⟨ρ,rfl⟩
 |slot i=>
  unfold Dm.pk at e;dsimp only at e;unfold Dm.tk;dsimp only;split at e
  ·rename_i d' h;cases e;exact⟨_,rfl⟩
  ·rename_i d' h;cases e;exact⟨_,rfl⟩
  ·cases e
theorem lD:∀{xs:List Dm.Val} {ρ:Dm.Env} {ds:List Dat},Dm.pks ρ xs=some ds->∃ρ',Dm.tks ρ xs=some (ds,ρ')
 |[],ρ,ds,e=>by cases e;exact⟨ρ,rfl⟩
 |x::xs,ρ,ds,e=>by
  unfold Dm.pks at e;split at e
  ·cases e
  ·rename_i d e1;split at e
   ·cases e
   ·rename_i ds' e2;cases e;obtain⟨ρ1,h1⟩:=AD e1;have key:∀ys:List Dm.Val,Dm.pks ρ1 ys=Dm.pks ρ ys:=fun ys=>by
     induction ys with
     |nil=>rfl
     |cons y ys ih=>unfold Dm.pks;rw[Mp h1 y,ih]
    obtain⟨ρ2,h2⟩:=lD (xs:=xs) (ρ:=ρ1) (ds:=ds') (by rw[key];exact e2);exact⟨ρ2,by unfold Dm.tks;rw[h1];dsimp only;rw[h2]⟩
theorem looks{Hs H0 H:Hp}(st:au H0 H σ ρ):∀{xs:List Dm.Val} {vs:List V} {ds:List Dat},bu Hs H0 H σ ρ vs xs->Dm.pks ρ xs=some ds->rP H0 H vs ds
 |[],_,ds,r,e=>by cases r;cases e;exact .nil
 |x::xs,_,ds,r,e=>by
  cases r with
  |cons h r=>
   unfold Dm.pks at e;split at e
   ·cases e
   ·rename_i d e1;split at e
    ·cases e
    ·rename_i ds' e2;cases e;exact .cons (h.look st e1) (looks st r e2)
def OpD(r:R2)(g:Dat->Dat->Option RV):Prop:=∀(H0 H:Hp) (x y:V) (dx dy:Dat) (z:RV) (Q:VK),aq H0 H->jB H0 H x dx->jB H0 H y dy->g dx dy=some z ->
 (∀v H0' H',aK H0 H H0' H'->rQ H H0' H' v z->Q v H')->r x y H Q
def UnD(r:V->Hp->VK->Prop)(g:Dat->Option RV):Prop:=∀(H0 H:Hp) (x:V) (dx:Dat) (z:RV) (Q:VK),aq H0 H->jB H0 H x dx->g dx=some z ->
 (∀v H0' H',aK H0 H H0' H'->rQ H H0' H' v z->Q v H')->r x H Q
def CallD(r:List V->Hp->VK->Prop)(g:List Dat->Option RV):Prop:=∀(H0 H:Hp) (vs:List V) (ds:List Dat) (z:RV) (Q:VK),aq H0 H->rP H0 H vs ds->g ds=some z ->
 (∀v H0' H',aK H0 H H0' H'->rQ H H0' H' v z->Q v H')->r vs H Q
def spD(f:List Dat->Option RV):Sp:=fun vs H Q _=>∃H0 ds z,aq H0 H/\aC H0 vs ds/\f ds=some z/\∀v H0' H',aK H0 H H0' H'->rQ H H0' H' v z->Q v H'
end
section
variable{σ:St}{H:Hp}{Q:VK}
section
variable{fs:List FE}{d:Dat}{a b:FE}{t u:FT}{v:V}{H0:Hp}
theorem Mq{i:Nat}(h:tD (Dm.eV i) σ H Q):b5 i σ H Q:=by
 obtain⟨H0,ρ,x,ρ',st,e,k⟩:=h;unfold Dm.eV at e;split at e
 ·rename_i d h1;cases e;obtain⟨v,q,r⟩:=st.sh i d h1;exact⟨v,q,k v H0 H (.refl st) r⟩
 ·rename_i d h1;cases e;obtain⟨a,q,_⟩:=st.ow i d h1;exact⟨_,q,k _ H0 H (.refl st) ⟨q,trivial⟩⟩
 ·cases e
theorem kJ(c:∀H0:Hp,Rep H0 v d)(h:tD (Dm.eC d) σ H Q):tC v σ H Q:=by obtain⟨H0,ρ,x,ρ',st,e,k⟩:=h;cases e;exact k v H0 H (.refl st) (c H0)
theorem uZ{r:R2}{g:Dat->Dat->Option RV}{fa fb:FE}(o:OpD r g)(h:tD (Dm.e2 g fa fb) σ H Q):tOp r (tD fa) (tD fb) σ H Q:=by
 obtain⟨H0,ρ,x,ρ',st,e,k⟩:=h;unfold Dm.e2 at e;split at e
 ·cases e
 rename_i x1 ρ1 e1;split at e
 ·cases e
 rename_i y1 ρ2 e2;split at e
 ·cases e
 rename_i dx p1;split at e
 ·cases e
 rename_i dy p2;split at e
 ·cases e
 rename_i z gz;cases e;refine⟨H0,ρ,x1,ρ1,st,e1,fun v H1 Hb t1 r1=>⟨H1,ρ1,y1,_,t1.st,e2,fun u H2 Hc t2 r2=>?_⟩⟩;refine o H2 Hc v u dx dy z Q t2.st.same ((r1.mono t2).look t2.st p1) (r2.look t2.st p2) gz fun w H3 Hd g3 r3=>?_;exact k w H3 Hd (t1.trans (t2.trans (.grow t2.st g3))) ((r3.toV t2.st).early fun a n=>(t1.trans t2).stp.gone n)
theorem Mr{r:V->Hp->VK->Prop}{g:Dat->Option RV}{fa:FE}(o:UnD r g)(h:tD (Dm.e1 g fa) σ H Q):tUn r (tD fa) σ H Q:=by
 obtain⟨H0,ρ,x,ρ',st,e,k⟩:=h;unfold Dm.e1 at e;split at e
 ·cases e
 rename_i x1 ρ1 e1;split at e
 ·cases e
 rename_i dx p1;split at e
 ·cases e
 rename_i z gz;cases e;refine⟨H0,ρ,x1,_,st,e1,fun v H1 Hb t1 r1=>?_⟩;refine o H1 Hb v dx z Q t1.st.same (r1.look t1.st p1) gz fun w H3 Hd g3 r3=>?_;exact k w H3 Hd (t1.trans (.grow t1.st g3)) ((r3.toV t1.st).early fun a n=>t1.stp.gone n)
theorem Gz{Q:List V->Hp->Prop}(h:tDA [] σ H Q):dJ σ H Q:=by obtain⟨H0,ρ,xs,ρ',st,e,k⟩:=h;cases e;exact k [] H0 H (.refl st) .nil
theorem qh{f:FE}{Q:List V->Hp->Prop}(h:tDA (f::fs) σ H Q):cz (tD f) (tDA fs) σ H Q:=by
 obtain⟨H0,ρ,xs,ρ',st,e,k⟩:=h;unfold Dm.eAs at e;split at e
 ·cases e
 rename_i x1 ρ1 e1;split at e
 ·cases e
 rename_i xs1 ρ2 e2;cases e;refine⟨H0,ρ,x1,ρ1,st,e1,fun v H1 Hb t1 r1=>⟨H1,ρ1,xs1,_,t1.st,e2,fun vs H2 Hc t2 r2=>?_⟩⟩;exact k (v::vs) H2 Hc (t1.trans t2) (.cons (r1.mono t2) (r2.early fun a n=>t1.stp.gone n))
theorem El{r:List V->Hp->VK->Prop}{g:List Dat->Option RV}(o:CallD r g)(h:tD (Dm.eB g fs) σ H Q):tCB r (tDA fs) σ H Q:=by
 obtain⟨H0,ρ,x,ρ',st,e,k⟩:=h;unfold Dm.eB at e;split at e
 ·cases e
 rename_i xs ρ1 e1;split at e
 ·cases e
 rename_i ds p1;split at e
 ·cases e
 rename_i z gz;cases e;refine⟨H0,ρ,xs,_,st,e1,fun vs H1 Hb t1 r1=>?_⟩;refine o H1 Hb vs ds z Q t1.st.same (looks t1.st r1 p1) gz fun w H3 Hd g3 r3=>?_;exact k w H3 Hd (t1.trans (.grow t1.st g3)) ((r3.toV t1.st).early fun a n=>t1.stp.gone n)
theorem iV{n:Nat}(h:n<=Dm.SZ):n<=sizeLine:=QO h (by decide)
theorem Ms(h:tD (Dm.eU fs) σ H Q):Me (tDA fs) σ H Q:=by
 obtain⟨H0,ρ,x,ρ',st,e,k⟩:=h;unfold Dm.eU at e;split at e
 ·cases e
 rename_i xs ρ1 e1;split at e
 ·cases e
 rename_i ds ρ2 e2;split at e
 ·rename_i hz;cases e;refine⟨H0,ρ,xs,ρ1,st,e1,fun vs H1 Hb t1 r1=>?_⟩;obtain⟨H2,t2,b2,r2⟩:=takes t1 (aq.refl _) r1 e2;refine⟨by rw[r2.length];exact iV hz,fun p hp=>?_⟩;have g:=aK.AB (o:=HO.tup vs) t2.st.same hp;exact k _ _ _ (t2.trans (.grow t2.st g)) (.tup ao (r2.mono g.s0))
 ·cases e
theorem Mt(h:tD (Dm.dm fs) σ H Q):oF (tDA fs) σ H Q:=by
 obtain⟨H0,ρ,x,ρ',st,e,k⟩:=h;unfold Dm.dm at e;split at e
 ·cases e
 rename_i xs ρ1 e1;split at e
 ·cases e
 rename_i ds ρ2 e2;split at e
 ·rename_i hz;cases e;refine⟨H0,ρ,xs,ρ1,st,e1,fun vs H1 Hb t1 r1=>?_⟩;obtain⟨H2,t2,b2,r2⟩:=takes t1 (aq.refl _) r1 e2;refine⟨by rw[r2.length];exact iV hz,fun p hp=>?_⟩;have g:=aK.lB (o:=HO.lst vs) t2.st.same hp;refine k _ _ _ (t2.trans (.grow t2.st g)) ⟨p,rfl,t2.stp.gone hp,fun⟨i,d,h1,h2⟩=>?_,t2.st.same.free hp,vs,ao,r2⟩;obtain⟨a,q,_,w⟩:=t2.st.ow i d h1;rw[h2]at q;cases q;obtain⟨o,z⟩:=w.some;rw[hp]at z;cases z
 ·cases e
theorem Rep.plain{H0 H1:Hp}(r:Rep H0 v d)(n:Dm.eK d=false):Rep H1 v d:=by
 cases r with
 |non=>exact .non
 |bl b=>exact .bl b
 |int i=>exact .int i
 |str s=>exact .str s
 |tup _ _=>cases n
 |lst _ _=>cases n
 |dct _ _ _=>cases n
 |dcp _ _ _=>cases n
 |exc _=>cases n
 |fn a=>exact .fn a
theorem Own.box{H0 H:Hp}{a:Addr}(w:Own H0 H a d):Dm.eK d=true:=by
 cases d with
 |lst ds=>rfl
 |dct ks ds=>rfl
 |dcp ks ds=>rfl
 |_=>exact QN w
theorem u5{f:List Dat->Option RV}{E:XK}(h:tD (Dm.eF f fs) σ H Q):oU (spD f) [] E (tDA fs) σ H Q:=by
 obtain⟨H0,ρ,x,ρ',st,e,k⟩:=h;unfold Dm.eF at e;split at e
 ·cases e
 rename_i xs ρ1 e1;split at e
 ·cases e
 rename_i ds p1;split at e
 ·cases e
 rename_i z fz;refine⟨H0,ρ,xs,ρ1,st,e1,fun vs H1 Hb t1 r1=>?_⟩;dsimp only;rw[Rc];obtain⟨ρ2,e2⟩:=lD p1;obtain⟨H2,t2,b2,r2⟩:=takes t1 (aq.refl _) r1 e2;split at e
 ·rw[e2]at e;cases e;exact⟨H2,ds,z,t2.st.same,r2,fz,fun w H3 Hd g3 r3=>k w H3 Hd (t2.trans (.grow t2.st g3)) ((r3.toV t2.st).early fun a n=>t2.stp.gone n)⟩
 ·rename_i nb;cases e;refine⟨H2,ds,z,t2.st.same,r2,fz,fun w H3 Hd g3 r3=>?_⟩;have g:aK H1 Hb H1 Hd:=⟨aq.refl _,g3.s1,fun a o q=>.inr q,t1.st.same.trans g3.s1⟩
  refine k w H1 Hd (t1.trans (.grow t1.st g)) ?_;cases z with
  |val d=>exact Rep.plain r3 (by simpa [RV.dat] using nb)
  |new d=>obtain⟨a,_,_,_,w⟩:=r3;exact absurd w.box (by simpa [RV.dat] using nb)
theorem OQ{t:FT}(h:tD (Dm.eIf t a b) σ H Q):tIf (tDT t) (tD a) (tD b) σ H Q:=by
 obtain⟨H0,ρ,x,ρ',st,e,k⟩:=h;unfold Dm.eIf at e;split at e
 ·cases e
 ·rename_i ρ1 e1;refine⟨H0,ρ,true,ρ1,st,e1,fun H1 Hb t1=>?_⟩;dsimp only;rw[if_pos rfl];exact⟨H1,ρ1,x,ρ',t1.st,e,fun v H2 Hc t2 r2=>k v H2 Hc (t1.trans t2) (r2.early fun a n=>t1.stp.gone n)⟩
 ·rename_i ρ1 e1;refine⟨H0,ρ,false,ρ1,st,e1,fun H1 Hb t1=>?_⟩;dsimp only;rw[if_neg QE];exact⟨H1,ρ1,x,ρ',t1.st,e,fun v H2 Hc t2 r2=>k v H2 Hc (t1.trans t2) (r2.early fun a n=>t1.stp.gone n)⟩
theorem Rep.qi{c:Bool}(r:Rep H0 v (.bl c)):v=.bl c:=by cases r;rfl
theorem Rep.isInt{c:Int}(r:Rep H0 v (.int c)):v=.int c:=by cases r;rfl
theorem Mu(h:tD (Dm.fV a b) σ H Q):Gk (tD a) (tD b) σ H Q:=by
 obtain⟨H0,ρ,x,ρ',st,e,k⟩:=h;unfold Dm.fV at e;split at e
 ·rename_i ρ1 e1;refine⟨H0,ρ,_,_,st,e1,fun v H1 Hb t1 r1=>⟨true,Rep.qi r1,?_⟩⟩
  try dsimp only
  rw[if_pos rfl];exact⟨H1,ρ1,x,ρ',t1.st,e,fun v H2 Hc t2 r2=>k v H2 Hc (t1.trans t2) (r2.early fun a n=>t1.stp.gone n)⟩
 ·rename_i ρ1 e1;cases e;refine⟨H0,ρ,_,_,st,e1,fun v H1 Hb t1 r1=>⟨false,Rep.qi r1,?_⟩⟩
  try dsimp only
  rw[if_neg QE];exact k _ H1 Hb t1 (Rep.bl false)
 ·cases e
theorem Mv{a:FE}(h:tD (Dm.uW a) σ H Q):Gm (tD a) σ H Q:=by
 obtain⟨H0,ρ,x,ρ',st,e,k⟩:=h;unfold Dm.uW at e;split at e
 ·rename_i c ρ1 e1;cases e;exact⟨H0,ρ,_,_,st,e1,fun v H1 Hb t1 r1=>⟨c,Rep.qi r1,k _ H1 Hb t1 (Rep.bl (!c))⟩⟩
 ·cases e
variable{Qt:Bool->Hp->Prop}
theorem qj{a:FE}(h:tDT (Dm.tV a) σ H Qt):Ac (tD a) σ H Qt:=by
 obtain⟨H0,ρ,x,ρ',st,e,k⟩:=h;unfold Dm.tV at e;split at e
 ·rename_i c ρ1 e1;cases e;exact⟨H0,ρ,_,_,st,e1,fun v H1 Hb t1 r1=>⟨_,Rep.qi r1,k H1 Hb t1⟩⟩
 ·cases e
theorem I0{t:FT}(h:tDT (Dm.dj t) σ H Qt):dj (tDT t) σ H Qt:=by
 obtain⟨H0,ρ,x,ρ',st,e,k⟩:=h;unfold Dm.dj at e;split at e
 ·rename_i c ρ1 e1;cases e;exact⟨H0,ρ,_,_,st,e1,fun H1 Hb t1=>k H1 Hb t1⟩
 ·cases e
theorem I_(h:tDT (Dm.kC t u) σ H Qt):kC (tDT t) (tDT u) σ H Qt:=by
 obtain⟨H0,ρ,x,ρ',st,e,k⟩:=h;unfold Dm.kC at e;split at e
 ·rename_i ρ1 e1;refine⟨H0,ρ,_,ρ1,st,e1,fun H1 Hb t1=>?_⟩;dsimp only;rw[if_pos rfl];exact⟨H1,ρ1,x,ρ',t1.st,e,fun H2 Hc t2=>k H2 Hc (t1.trans t2)⟩
 ·rename_i ρ1 e1;cases e;refine⟨H0,ρ,_,_,st,e1,fun H1 Hb t1=>?_⟩;dsimp only;rw[if_neg QE];exact k H1 Hb t1
 ·cases e
theorem Mw(h:tDT (Dm.tOr t u) σ H Qt):tOr (tDT t) (tDT u) σ H Qt:=by
 obtain⟨H0,ρ,x,ρ',st,e,k⟩:=h;unfold Dm.tOr at e;split at e
 ·rename_i ρ1 e1;cases e;refine⟨H0,ρ,_,_,st,e1,fun H1 Hb t1=>?_⟩;dsimp only;rw[if_pos rfl];exact k H1 Hb t1
 ·rename_i ρ1 e1;refine⟨H0,ρ,_,ρ1,st,e1,fun H1 Hb t1=>?_⟩;dsimp only;rw[if_neg QE];exact⟨H1,ρ1,x,ρ',t1.st,e,fun H2 Hc t2=>k H2 Hc (t1.trans t2)⟩
 ·cases e
end
end
section
variable{ρ:Dm.Env}{H0 H:Hp}{σ:L2.St}
structure SSt(σ:St)(ρ:Dm.Env)(H0 H:Hp)(σ':St)(ρ':Dm.Env)(H0' H':Hp):Prop where
 st:au H0' H' σ' ρ'
 stp:Stp (ak σ ρ) H0 H H0' H'
 own:∀a,ak σ' ρ' a->ak σ ρ a\/H a=none
 fx:σ'[0]?=σ[0]?
theorem ESt.sst{σ:St}{ρ ρ':Dm.Env}{H0 H H0' H':Hp}(t:ESt σ ρ H0 H ρ' H0' H'):SSt σ ρ H0 H σ ρ' H0' H':=⟨t.st,t.stp,fun a z=>.inl (t.own a z),rfl⟩
theorem SSt.refl{σ:St}(st:au H0 H σ ρ):SSt σ ρ H0 H σ ρ H0 H:=(ESt.refl st).sst
theorem SSt.trans{σ σ1 σ2:St}{ρ ρ1 ρ2:Dm.Env}{H0 H H1 H' H2 H'':Hp}(t:SSt σ ρ H0 H σ1 ρ1 H1 H')(u:SSt σ1 ρ1 H1 H' σ2 ρ2 H2 H''):SSt σ ρ H0 H σ2 ρ2 H2 H'':=
 ⟨u.st,t.stp.trans u.stp t.own,fun a z=>(u.own a z).elim (t.own a) fun n=>.inr (t.stp.gone n),u.fx.trans t.fx⟩
def Mx(σ:St)(ρ:Dm.Env)(H H0' H':Hp)(v:V):RV->Prop
 |.val d=>Rep H0' v d
 |.new d=>∃a,v=V.ref a/\(H a=none\/ak σ ρ a)/\H0' a=none/\Own H0' H' a d
def o9(D:Ends)(σ:St)(ρ:Dm.Env)(H0 H:Hp):Dm.Out->Prop
 |.nx ρ'=>∀σ' H0' H',SSt σ ρ H0 H σ' ρ' H0' H'->D.nx σ' H'
 |.bk ρ'=>∀σ' H0' H',SSt σ ρ H0 H σ' ρ' H0' H'->D.bk σ' H'
 |.ct ρ'=>∀σ' H0' H',SSt σ ρ H0 H σ' ρ' H0' H'->D.ct σ' H'
 |.ret z ρ'=>∀σ' v H0' H',SSt σ ρ H0 H σ' ρ' H0' H'->Mx σ ρ H H0' H' v z->(∀d a,z=.new d->v=.ref a->¬ak σ' ρ' a)->D.rt v H'
def tDS(g:FS):TS:=fun D σ H=>∃H0 ρ o,au H0 H σ ρ/\g ρ=some o/\o9 D σ ρ H0 H o
theorem o9.pre{D:Ends}{σ σ1:St}{ρ ρ1:Dm.Env}{H0 H H1 H':Hp}{o:Dm.Out}(t:SSt σ ρ H0 H σ1 ρ1 H1 H')(k:o9 D σ ρ H0 H o):o9 D σ1 ρ1 H1 H' o:=by
 cases o with
 |nx ρ'=>exact fun σ' H0' H' u=>k σ' H0' H' (t.trans u)
 |bk ρ'=>exact fun σ' H0' H' u=>k σ' H0' H' (t.trans u)
 |ct ρ'=>exact fun σ' H0' H' u=>k σ' H0' H' (t.trans u)
 |ret z ρ'=>
  refine fun σ' v H0' H'' u r no=>k σ' v H0' H'' (t.trans u) ?_ no;cases z with
  |val d=>exact r
  |new d=>
   obtain⟨a,e,n,n0,w⟩:=r;refine⟨a,e,?_,n0,w⟩;rcases n with n | n
   ·exact .inl (t.stp.gone n)
   ·exact(t.own a n).symm
theorem au.mask(st:au H0 H σ ρ)(i:Nat):au H0 H σ (ρ.set i .un) where
 same:=st.same
 len:=by rw[QC];exact st.len
 sh:=fun j d h=>by
  by_cases q:i=j
  ·subst q;rw[RM]at h;simp only[if_true]at h;split at h<;>cases h
  ·rw[Dk q]at h;exact st.sh j d h
 ow:=fun j d h=>by
  by_cases q:i=j
  ·subst q;rw[RM]at h;simp only[if_true]at h;split at h<;>cases h
  ·rw[Dk q]at h;exact st.ow j d h
 dis:=fun j j' d d' a h1 h2 h3 h4=>by
  by_cases q:i=j
  ·subst q;rw[RM]at h1;simp only[if_true]at h1;split at h1<;>cases h1
  ·by_cases q':i=j'
   ·subst q';rw[RM]at h2;simp only[if_true]at h2;split at h2<;>cases h2
   ·rw[Dk q]at h1;rw[Dk q']at h2;exact st.dis j j' d d' a h1 h2 h3 h4
theorem bF{i:Nat}{a:Addr}(h:ak σ (ρ.set i .un) a):∃(j:Nat) (d:Dat),j≠i/\ρ[j]?=some (Dm.Cell.ow d)/\σ[j]?=some (some (V.ref a)):=by
 obtain⟨j,d,h1,h2⟩:=h;by_cases q:i=j
 ·subst q;rw[RM]at h1;simp only[if_true]at h1;split at h1<;>cases h1
 ·rw[Dk q]at h1;exact⟨j,d,fun z=>q z.symm,h1,h2⟩
end
section
variable{D:Ends}{σ:St}{H:Hp}
theorem OR(h:tDS Dm.sNx D σ H):zX D σ H:=by obtain⟨H0,ρ,o,st,e,k⟩:=h;cases e;exact k σ H0 H (.refl st)
theorem My{s u:FS}(h:tDS (Dm.aA s u) D σ H):jo (tDS s) (tDS u) D σ H:=by
 obtain⟨H0,ρ,o,st,e,k⟩:=h;unfold Dm.aA at e;split at e
 ·rename_i ρ1 e1;exact⟨H0,ρ,.nx ρ1,st,e1,fun σ' H0' H' t=>⟨H0',ρ1,o,t.st,e,k.pre t⟩⟩
 ·rename_i h1;cases o with
  |nx ρ1=>exact absurd e (h1 ρ1)
  |bk ρ1=>exact⟨H0,ρ,_,st,e,k⟩
  |ct ρ1=>exact⟨H0,ρ,_,st,e,k⟩
  |ret z ρ1=>exact⟨H0,ρ,_,st,e,k⟩
theorem Ja{f:FE}(h:tDS (Dm.sE f) D σ H):e8 (tD f) D σ H:=by
 obtain⟨H0,ρ,o,st,e,k⟩:=h;unfold Dm.sE at e;split at e
 ·cases e
 ·rename_i x ρ1 e1;cases e;exact⟨H0,ρ,x,ρ1,st,e1,fun v H0' H' t r=>k σ H0' H' t.sst⟩
theorem Mz{f:FE}(h:tDS (Dm.sR f) D σ H):L4 (tD f) D σ H:=by
 obtain⟨H0,ρ,o,st,e,k⟩:=h;unfold Dm.sR at e;split at e
 ·cases e
 ·rename_i d ρ1 e1;cases e;refine⟨H0,ρ,_,ρ1,st,e1,fun v H0' H' t r=>?_⟩;obtain⟨a,e,n,no,n0,w⟩:=r;exact k σ v H0' H' t.sst ⟨a,e,.inl n,n0,w⟩ fun d' a' _ e' z=>by rw[e]at e';cases e';exact no z
 ·rename_i d ρ1 e1;cases e;exact⟨H0,ρ,_,ρ1,st,e1,fun v H0' H' t r=>k σ v H0' H' t.sst r fun d' a' z=>by cases z⟩
 ·rename_i i ρ1 e1;split at e
  ·rename_i d h1;cases e;refine⟨H0,ρ,_,ρ1,st,e1,fun v H0' H' t r=>?_⟩;obtain⟨q,_⟩:=r;obtain⟨a,q',n0,w⟩:=t.st.ow i d h1;rw[q]at q';cases q';refine k σ _ H0' H' ⟨t.st.mask i,t.stp,fun b z=>?_,rfl⟩ ⟨a,rfl,.inr (t.own a ⟨i,d,h1,q⟩),n0,w⟩ fun d' a' _ e' z=>?_
   ·obtain⟨j,d2,_,z1,z2⟩:=bF z;exact .inl (t.own b ⟨j,d2,z1,z2⟩)
   ·cases e';obtain⟨j,d2,hj,z1,z2⟩:=bF z;exact hj (t.st.dis j i d2 d a z1 h1 z2 q)
  ·rename_i d h1;cases e;refine⟨H0,ρ,_,ρ1,st,e1,fun v H0' H' t r=>?_⟩;obtain⟨q,_⟩:=r;obtain⟨u,q',w⟩:=t.st.sh i d h1;rw[q]at q';cases q';exact k σ _ H0' H' t.sst w fun d' a' z=>by cases z
  ·cases e
theorem MA{t:FT}{a b:FS}(h:tDS (Dm.sIf t a b) D σ H):D0 (tDT t) (tDS a) (tDS b) D σ H:=by
 obtain⟨H0,ρ,o,st,e,k⟩:=h;unfold Dm.sIf at e;split at e
 ·cases e
 ·rename_i ρ1 e1;refine⟨H0,ρ,true,ρ1,st,e1,fun H1 Hb t1=>?_⟩;dsimp only;rw[if_pos rfl];exact⟨H1,ρ1,o,t1.st,e,k.pre t1.sst⟩
 ·rename_i ρ1 e1;refine⟨H0,ρ,false,ρ1,st,e1,fun H1 Hb t1=>?_⟩;dsimp only;rw[if_neg QE];exact⟨H1,ρ1,o,t1.st,e,k.pre t1.sst⟩
end
section
variable{ρ:Dm.Env}{σ:St}{i:Nat}{H0 H:Hp}{d:Dat}{a:Addr}{b:Addr}{o:HO}{v:V}
theorem fm{i j:Nat}{c d:Option V}(h:(σ.set i c)[j]?=some d):(j=i/\d=c)\/(j≠i/\σ[j]?=some d):=by
 by_cases e:j=i
 ·subst e;by_cases l:j<σ.length
  ·rw[Qz l]at h;exact .inl ⟨rfl,(Option.some.inj h).symm⟩
  ·rw[QZ (by simpa using R4.mp l)]at h;cases h
 ·rw[Dk (Ne.symm e)]at h;exact .inr ⟨e,h⟩
theorem au.inσ{c d:Dm.Cell}(st:au H0 H σ ρ)(h:(ρ.set i c)[i]?=some d):i<σ.length:=by have:=(PU.mp h).1;rw[QC]at this;rw[st.len];exact this
theorem dY(h:ak (σ.set i (some v)) (ρ.set i (.sh d)) b):ak σ ρ b:=by
 obtain⟨j,d',h1,h2⟩:=h;rcases aE h1 with⟨_,z⟩ | ⟨hj,h1⟩
 ·cases z
 ·rcases fm h2 with⟨z,_⟩ | ⟨_,h2⟩
  ·exact absurd z hj
  ·exact⟨j,d',h1,h2⟩
theorem au.u6(st:au H0 H σ ρ)(r:Rep H0 v d):au H0 H (σ.set i (some v)) (ρ.set i (.sh d)) where
 same:=st.same
 len:=by rw[QC,QC];exact st.len
 sh:=fun j d' h=>by
  rcases aE h with⟨rfl,z⟩ | ⟨hj,h'⟩
  ·cases z;exact⟨v,Qz (st.inσ h),r⟩
  ·obtain⟨u,q,w⟩:=st.sh j d' h';exact⟨u,by rw[Dk (Ne.symm hj)];exact q,w⟩
 ow:=fun j d' h=>by
  rcases aE h with⟨_,z⟩ | ⟨hj,h'⟩
  ·cases z
  ·obtain⟨u,q,w⟩:=st.ow j d' h';exact⟨u,by rw[Dk (Ne.symm hj)];exact q,w⟩
 dis:=fun j k d1 d2 b h1 h2 h3 h4=>by
  rcases aE h1 with⟨_,z⟩ | ⟨hj,h1⟩
  ·cases z
  rcases aE h2 with⟨_,z⟩ | ⟨hk,h2⟩
  ·cases z
  rw[Dk (Ne.symm hj)]at h3;rw[Dk (Ne.symm hk)]at h4;exact st.dis j k d1 d2 b h1 h2 h3 h4
theorem au.u7(st:au H0 H σ ρ)(no:¬ak σ ρ a)(n0:H0 a=none)(w:Own H0 H a d):au H0 H (σ.set i (some (.ref a))) (ρ.set i (.ow d)) where
 same:=st.same
 len:=by rw[QC,QC];exact st.len
 sh:=fun j d' h=>by
  rcases aE h with⟨_,z⟩ | ⟨hj,h'⟩
  ·cases z
  ·obtain⟨u,q,w⟩:=st.sh j d' h';exact⟨u,by rw[Dk (Ne.symm hj)];exact q,w⟩
 ow:=fun j d' h=>by
  rcases aE h with⟨rfl,z⟩ | ⟨hj,h'⟩
  ·cases z;exact⟨a,Qz (st.inσ h),n0,w⟩
  ·obtain⟨u,q,w⟩:=st.ow j d' h';exact⟨u,by rw[Dk (Ne.symm hj)];exact q,w⟩
 dis:=fun j k d1 d2 b h1 h2 h3 h4=>by
  rcases aE h1 with⟨e1,z1⟩ | ⟨hj,h1'⟩
  ·rcases aE h2 with⟨e2,z2⟩ | ⟨hk,h2'⟩
   ·rw[e1,e2]
   ·rcases fm h3 with⟨_,z⟩ | ⟨z,_⟩
    ·cases z;rw[Dk (Ne.symm hk)]at h4;exact absurd ⟨k,d2,h2',h4⟩ no
    ·exact absurd e1 z
  ·rcases aE h2 with⟨e2,z2⟩ | ⟨hk,h2'⟩
   ·rcases fm h4 with⟨_,z⟩ | ⟨z,_⟩
    ·cases z;rw[Dk (Ne.symm hj)]at h3;exact absurd ⟨j,d1,h1',h3⟩ no
    ·exact absurd e2 z
   ·rw[Dk (Ne.symm hj)]at h3;rw[Dk (Ne.symm hk)]at h4;exact st.dis j k d1 d2 b h1' h2' h3 h4
theorem iW{a b:Addr}(h:ak (σ.set i (some (.ref a))) (ρ.set i (.ow d)) b):b=a\/ak σ ρ b:=by
 obtain⟨j,d',h1,h2⟩:=h;rcases aE h1 with⟨e,_⟩ | ⟨hj,h1⟩
 ·rcases fm h2 with⟨_,z⟩ | ⟨z,_⟩
  ·cases z;exact .inl rfl
  ·exact absurd e z
 ·rcases fm h2 with⟨z,_⟩ | ⟨_,h2⟩
  ·exact absurd z hj
  ·exact .inr ⟨j,d',h1,h2⟩
theorem au.write{d d':Dat}(st:au H0 H σ ρ)(e:ρ[i]?=some (.ow d))(q:σ[i]?=some (some (V.ref a)))(w':Own H0 (upd H a o) a d') :
  au H0 (upd H a o) σ (ρ.set i (.ow d')):=by
 obtain⟨a',q',n,w⟩:=st.ow i d e;rw[q]at q';cases q';refine⟨fun b u z=>?_,by rw[QC];exact st.len,fun j d1 h=>?_,fun j d1 h=>?_,fun j k d1 d2 b h1 h2 h3 h4=>?_⟩
 ·rw[ai (aI z n)];exact st.same _ _ z
 ·rcases aE h with⟨_,z⟩ | ⟨hj,h'⟩
  ·cases z
  ·exact st.sh j d1 h'
 ·rcases aE h with⟨rfl,z⟩ | ⟨hj,h'⟩
  ·cases z;exact⟨a,q,n,w'⟩
  ·obtain⟨b,q1,n1,w1⟩:=st.ow j d1 h';have nb:b≠a:=fun y=>hj (st.dis j i d1 d a h' e (y▸q1) q);exact⟨b,q1,n1,w1.mono (aq.refl _) (ai nb)⟩
 ·have f:∀{j:Nat} {d1:Dat},(ρ.set i (.ow d'))[j]?=some (.ow d1)->∃d2,ρ[j]?=some (.ow d2):=fun {j d1} h=>by
   rcases aE h with⟨rfl,_⟩ | ⟨_,h'⟩
   ·exact⟨d,e⟩
   ·exact⟨d1,h'⟩
  obtain⟨x1,y1⟩:=f h1;obtain⟨x2,y2⟩:=f h2;exact st.dis j k x1 x2 b y1 y2 h3 h4
theorem cM{d d':Dat}(e:ρ[i]?=some (.ow d))(h:ak σ (ρ.set i (.ow d')) b):ak σ ρ b:=by
 obtain⟨j,d1,h1,h2⟩:=h;rcases aE h1 with⟨rfl,_⟩ | ⟨_,h'⟩
 ·exact⟨j,d,e,h2⟩
 ·exact⟨j,d1,h',h2⟩
theorem Stp.write(w:ak σ ρ a):Stp (ak σ ρ) H0 H H0 (upd H a o):=
 ⟨aq.refl _,fun b u e n=>by rw [ai (show b≠a from fun z=>n (by rw [z];exact w))];exact e,fun b u e=>.inr (.inl e),fun b u e=>by
  by_cases z:b=a
  ·subst z;exact⟨o,ao⟩
  ·exact⟨u,by rw[ai z];exact e⟩⟩
end
section
variable{D:Ends}{σ:St}{H:Hp}
section
variable{ρ:Dm.Env}{body:FS}{f:FE}{a:Addr}{is:List Nat}{i:Nat}{ds:List Dat}{d:Dat}{bd:Dm.FB}{xs:List V}{vs:List V}{n:Nat}{H0:Hp}{k:Nat}{fi:Dm.FI}{t:FT}{g:TG}{o:HO}{Q:VK}{E:XK}
theorem GA(h:tDS (Dm.sA i f) D σ H):kD (tD f) (b7 i) D σ H:=by
 obtain⟨H0,ρ,o,st,e,k⟩:=h;unfold Dm.sA at e;split at e
 ·cases e
 rename_i hi0;split at e
 ·cases e
 ·rename_i d ρ1 e1;cases e;refine⟨H0,ρ,_,ρ1,st,e1,fun v H0' H' t r=>?_⟩;obtain⟨a,e,n,no,n0,w⟩:=r;subst e;refine k _ H0' H' ⟨t.st.u7 no n0 w,t.stp,fun b z=>?_,Dk hi0⟩;rcases iW z with rfl | z
  ·exact .inr n
  ·exact .inl (t.own b z)
 ·rename_i x ρ1 _ e1;split at e
  ·cases e
  ·rename_i d ρ2 e2;cases e;refine⟨H0,ρ,_,ρ1,st,e1,fun v H0' H' t r=>?_⟩;obtain⟨H1,t1,b1,r1,_,_⟩:=take1 t (aq.refl _) r e2;exact k _ H1 H' ⟨t1.st.u6 r1,t1.stp,fun b z=>.inl (t1.own b (dY z)),Dk hi0⟩
theorem wJ{j:Nat}(h:Def ρ j):Def (ρ.set i (.sh d)) j:=trivial
noncomputable def fq:List Nat->TGs
 |[]=>L6
 |i::is=>Gn (b7 i) (fq is)
theorem wK{H0 H:Hp}{Q:St->Hp->Prop}:∀{is:List Nat} {xs:List V} {ds:List Dat} {σ:St} {ρ ρ':Dm.Env},au H0 H σ ρ->aC H0 xs ds->Dm.sets is ds ρ=some ρ' ->
  (∀σ',au H0 H σ' ρ'->(∀a,ak σ' ρ' a->ak σ ρ a)->(∀j,j∉is->σ'[j]?=σ[j]?)->(∀j,Def ρ j->Def ρ' j)->σ'[0]?=σ[0]?->Q σ' H)->fq is xs σ H Q
 |[],_,[],σ,ρ,ρ',st,r,e,k=>by cases r;cases e;exact⟨rfl,k σ st (fun _ z=>z) (fun _ _=>rfl) (fun _ z=>z) rfl⟩
 |i::is,_,d::ds,σ,ρ,ρ',st,r,e,k=>by
  cases r with
  |cons h r=>
   unfold Dm.sets at e;split at e
   ·cases e
   rename_i hi0;refine⟨_,_,rfl,?_⟩;refine wK (st.u6 h) r e fun σ' st' o' n' d' f'=>k σ' st' (fun a z=>dY (o' a z)) (fun j hj=>?_) (fun j z=>d' j (wJ z)) (f'.trans (Dk hi0));rw[n' j fun z=>hj (Qg _ z)];exact Dk fun z=>hj (by rw[z];exact Qe)
 |[],_,_::_,_,_,_,_,_,e,_=>by cases e
 |_::_,_,[],_,_,_,_,_,e,_=>by cases e
theorem rR:∀{is:List Nat} {ds:List Dat} {ρ ρ':Dm.Env},Dm.sets is ds ρ=some ρ'->ds.length=is.length
 |[],[],_,_,_=>rfl
 |i::is,_::ds,_,_,e=>by
  unfold Dm.sets at e;split at e
  ·cases e
  ·simp[rR (is:=is) (ds:=ds) e]
 |[],_::_,_,_,e=>by cases e
 |_::_,[],_,_,e=>by cases e
def BD(is:List Nat)(g:TG)(bd:Dm.FB):Prop:=∀(H0 H:Hp) (σ:St) (ρ ρ':Dm.Env) (x:V) (d:Dat) (Q:St->Hp->Prop),au H0 H σ ρ->Rep H0 x d->bd d ρ=some ρ' ->
 (∀σ',au H0 H σ' ρ'->(∀a,ak σ' ρ' a->ak σ ρ a)->(∀j,j∉is->σ'[j]?=σ[j]?)->(∀j,Def ρ j->Def ρ' j)->σ'[0]?=σ[0]?->Q σ' H)->g x σ H Q
theorem wL(i:Nat):BD [i] (b7 i) (Dm.bN i):=by
 intro H0 H σ ρ ρ' x d Q st r e k;unfold Dm.bN at e;split at e
 ·cases e
 rename_i hi0;cases e;refine k _ (st.u6 r) (fun a z=>dY z) (fun j hj=>?_) (fun j h=>wJ h) (Dk hi0);exact Dk (fun z=>hj (by rw[z];exact Qo.mpr rfl))
theorem AE{K:Ds}(is:List Nat)(hn:is.length=n):BD is (L7 K n (fq is)) (Dm.bT is):=by
 intro H0 H σ ρ ρ' x d Q st r e k;unfold Dm.bT at e;split at e
 ·cases r with
  |tup q rs=>exact⟨_,_,rfl,SqT.of (st.same _ _ q),by rw[rs.length,rR e,hn],wK st rs e k⟩
 ·cases e
theorem MB{K:Ds}(h:tDS (Dm.lz i f) D σ H):e8 (tBM K "list" cJ (b5 i) (tDA [f])) D σ H:=by
 obtain⟨H0,ρ,o,st,e,k⟩:=h;unfold Dm.lz at e;split at e
 ·rename_i ds0 h0;obtain⟨a0,q0,n0,w0⟩:=st.ow i _ h0;refine⟨_,q0,?_⟩;split at e
  ·cases e
  rename_i x ρ1 e1;split at e
  ·cases e
  rename_i d ρ2 e2;split at e
  ·rename_i ds h2;split at e
   ·rename_i hz;cases e;obtain⟨xs0,y0,_⟩:=w0;refine⟨.inl ⟨rfl,xs0,.inl (.inl y0)⟩,?_⟩;refine⟨H0,ρ,[x],ρ1,st,by unfold Dm.eAs;rw[e1];rfl,fun vs H0' H' t r=>?_⟩;cases r with
    |cons r rr=>
     cases rr;obtain⟨H1,t1,b1,r1,_,_⟩:=take1 t (aq.refl _) r e2;obtain⟨a,q,n,w⟩:=t1.st.ow i _ h2;rw[q0]at q;cases q;obtain⟨xs,y,rs⟩:=w;refine⟨a0,xs,_,rfl,rfl,y,by rw[rs.length];exact Qy hz (by decide),?_⟩;have ow:ak σ ρ2 a0:=⟨i,_,h2,q0⟩
     refine k σ H1 _ ⟨t1.st.write h2 q0 ⟨_,ao,rs.append (.cons r1 .nil)⟩,t1.stp.trans (Stp.write ow) fun b z=>.inl (t1.own b z),fun b z=>.inl (t1.own b (cM h2 z)),rfl⟩
   ·cases e
  ·cases e
 ·cases e
theorem Jb(n:Nat)(i:Int):Dm.ixN n i=L2.ixN n i:=rfl
theorem MC{j f:FE}(h:tDS (Dm.uX i j f) D σ H):kD (tD f) (jq (b5 i) (tD j) Gv) D σ H:=by
 obtain⟨H0,ρ,o,st,e,k⟩:=h;unfold Dm.uX at e;split at e
 ·cases e
 rename_i x ρ1 e1;split at e
 ·cases e
 rename_i d ρ2 e2;split at e
 case h_2=>cases e
 rename_i d0 h2;split at e
 ·rename_i m ρ3 e3;split at e
  ·rename_i ds h3;split at e
   ·cases e
   ·rename_i p e4;cases e;refine⟨H0,ρ,_,ρ1,st,e1,fun v H0' H' t r=>?_⟩;obtain⟨H1,t1,b1,r1,_,_⟩:=take1 t (aq.refl _) r e2;obtain⟨a0,q0,_,_⟩:=t1.st.ow i _ h2;refine⟨_,q0,H1,ρ2,_,ρ3,t1.st,e3,fun u H2 Hc t2 r2=>?_⟩;obtain⟨a,q,n,w⟩:=t2.st.ow i _ h3;rw[q0]at q;cases q;obtain⟨xs,y,rs⟩:=w;refine⟨a0,xs,m,p,rfl,Rep.isInt r2,y,by rw[rs.length];exact e4,?_⟩;have ow:ak σ ρ3 a0:=⟨i,_,h3,q0⟩
    have tt:=t1.trans t2;refine k σ H2 _ ⟨t2.st.write h3 q0 ⟨_,ao,rs.set (r1.mono t2.stp.s0) p⟩,tt.stp.trans (Stp.write ow) fun b z=>.inl (tt.own b z),fun b z=>.inl (tt.own b (cM h3 z)),rfl⟩
  ·cases e
 ·cases e
theorem Em(h:tDS (Dm.whD t body n) D σ H):z5 (tDT t) (tDS body) D σ H:=by
 refine⟨fun m σ H=>tDS (Dm.whD t body m) D σ H,⟨n,h⟩,?_⟩;rintro m σ H ⟨H0,ρ,o,st,e,k⟩;cases m with
 |zero=>unfold Dm.whD at e;cases e
 |succ m=>
  unfold Dm.whD at e;split at e
  ·cases e
  ·rename_i ρ1 e1;cases e;refine⟨H0,ρ,false,ρ1,st,e1,fun H1 Hb t1=>?_⟩;dsimp only;rw[if_neg QE];exact k σ H1 Hb t1.sst
  ·rename_i ρ1 e1;refine⟨H0,ρ,true,ρ1,st,e1,fun H1 Hb t1=>?_⟩;dsimp only;rw[if_pos rfl];refine⟨fun σ' H'=>tDS (Dm.whD t body m) D σ' H',fun σ' H' q=>⟨m,SX m,q⟩,?_⟩;have k1:=k.pre t1.sst;split at e
   ·rename_i ρ2 e2;exact⟨H1,ρ1,_,t1.st,e2,fun σ' H0' H' t2=>⟨H0',ρ2,o,t2.st,e,k1.pre t2⟩⟩
   ·rename_i ρ2 e2;exact⟨H1,ρ1,_,t1.st,e2,fun σ' H0' H' t2=>⟨H0',ρ2,o,t2.st,e,k1.pre t2⟩⟩
   ·rename_i ρ2 e2;cases e;exact⟨H1,ρ1,_,t1.st,e2,k1⟩
   ·rename_i v ρ2 e2;cases e;exact⟨H1,ρ1,_,t1.st,e2,k1⟩
   ·cases e
def JW(J:It)(H00:Hp)(ys:List Dat):Prop:=∀H0 H,aq H00 H0->aq H0 H->(∀i,ys.length<=i->J.stop i H) /\
 ∀(i:Nat) (d:Dat),ys[i]?=some d->J.go i H/\∀x H',J.yld i H x H'->∃H0',aK H0 H H0' H'/\Rep H0' x d
def tDI(fi:Dm.FI):TI:=fun σ H R=>∃H0 ρ ys ρ',au H0 H σ ρ/\fi ρ=some (ys,ρ')/\∀J H0' H',ESt σ ρ H0 H ρ' H0' H'->JW J H0' ys->R J H'
theorem MD(hb:BD is g bd)(h:tDS (Dm.ff fi bd body) D σ H):z_ (tDI fi) g (tDS body) D σ H:=by
 obtain⟨H0,ρ,o,st,e,k⟩:=h;unfold Dm.ff at e;split at e
 ·cases e
 rename_i ys ρ1 e1;refine⟨H0,ρ,ys,ρ1,st,e1,fun J H00 Hb t1 jw=>?_⟩;refine ⟨fun i m σ H=>∃ H0 ρ o,au H0 H σ ρ∧aq H00 H0∧m=ys.length-i∧i≤ys.length∧Dm.jx bd body (ys.drop i) ρ=some o∧o9 D σ ρ H0 H o,
  ⟨ys.length,H00,ρ1,o,t1.st,aq.refl _,by simp,QM _,by simpa using e,k.pre t1.sst⟩,?_⟩
 rintro i m σ H ⟨H0,ρ,o,st,s00,rfl,hi,e,k⟩;obtain⟨js,jg⟩:=jw H0 H s00 st.same;by_cases Kd:i<ys.length
 ·have hd:ys[i]?=some ys[i]:=by simp[Kd]
  obtain⟨g1,g2⟩:=jg i ys[i] hd;rw[Rw Kd]at e;unfold Dm.jx at e;refine .inr ⟨g1,fun σ' H'=>∃H0 ρ o,au H0 H' σ' ρ/\aq H00 H0/\Dm.jx bd body (ys.drop (i+1)) ρ=some o/\o9 D σ' ρ H0 H' o,?_,fun x H' y=>?_⟩
  ·rintro σ' H' ⟨H0',ρ',o',h1,h2,h3,h4⟩;exact⟨ys.length-(i+1),by lia,H0',ρ',o',h1,h2,rfl,Kd,h3,h4⟩
  ·obtain⟨H0',gr,rx⟩:=g2 x H' y;split at e
   ·cases e
   ·rename_i ρ2 e2;have t2:=ESt.grow st gr;refine hb H0' H' σ ρ ρ2 x ys[i] _ t2.st rx e2 fun σ2 st2 o2 _ _ f2=>?_;have t3:SSt σ ρ H0 H σ2 ρ2 H0' H':=⟨st2,t2.stp,fun a z=>.inl (o2 a z),f2⟩
    have k3:=k.pre t3;have s3:aq H00 H0':=s00.trans gr.s0;split at e
    ·rename_i ρ3 e3;exact⟨H0',ρ2,_,st2,e3,fun σ4 H4 Hd t4=>⟨H4,ρ3,o,t4.st,s3.trans t4.stp.s0,e,k3.pre t4⟩⟩
    ·rename_i ρ3 e3;exact⟨H0',ρ2,_,st2,e3,fun σ4 H4 Hd t4=>⟨H4,ρ3,o,t4.st,s3.trans t4.stp.s0,e,k3.pre t4⟩⟩
    ·rename_i ρ3 e3;cases e;exact⟨H0',ρ2,_,st2,e3,k3⟩
    ·rename_i v ρ3 e3;cases e;exact⟨H0',ρ2,_,st2,e3,k3⟩
    ·cases e
 ·have e':i=ys.length:=by lia
  subst e';rw[R5]at e;cases e;exact .inl ⟨js _ (Qf _),k σ H0 H (.refl st)⟩
theorem Eo{K:Ds}(hq:Rd H0 a (.lst xs))(rs:aC H0 xs ds):JW (Itl K a) H0 ds:=by intro H0' H s0 s1;have q:SqL K H a xs:=.inl (aq.rd s1 (aq.rd s0 hq));refine⟨fun i hi=>⟨xs,q,by rw[rs.length];exact hi⟩,fun i d e=>?_⟩;obtain⟨v,hv,rv⟩:=rs.get e;refine⟨⟨xs,v,q,hv⟩,fun x H' y=>?_⟩;obtain⟨e1,y⟩:=y;subst e1;have z:=y xs q;rw[hv]at z;cases z;exact⟨H0',aK.refl s1,rv.mono s0⟩
theorem Jc{K:Ds}(hq:H0 a=some (.tup xs))(rs:aC H0 xs ds):JW (Itt K a) H0 ds:=by intro H0' H s0 s1;have q:SqT K H a xs:=.inl (.inl (s1 _ _ (s0 _ _ hq)));refine⟨fun i hi=>⟨xs,q,by rw[rs.length];exact hi⟩,fun i d e=>?_⟩;obtain⟨v,hv,rv⟩:=rs.get e;refine⟨⟨xs,v,q,hv⟩,fun x H' y=>?_⟩;obtain⟨e1,y⟩:=y;subst e1;have z:=y xs q;rw[hv]at z;cases z;exact⟨H0',aK.refl s1,rv.mono s0⟩
theorem rS{lo:Int}:JW (Itr lo n) H0 (Dm.ups lo n):=by
 intro H0' H s0 s1;have el:(Dm.ups lo n).length=n:=by simp[Dm.ups]
 refine⟨fun i hi=>by rw[el]at hi;exact hi,fun i d e=>?_⟩;have hi:i<n:=by have:=(PU.mp e).1;rw[el]at this;exact this
 have hd:d=.int (lo+i):=by unfold Dm.ups at e;rw[Qm,Rq hi]at e;exact(Option.some.inj e).symm
 refine⟨hi,fun x H' y=>?_⟩;obtain⟨rfl,rfl⟩:=y;subst hd;exact⟨H0',aK.refl s1,.int _⟩
variable{R:It->Hp->Prop}
theorem OS{K:Ds}(h:tDI (Dm.iL f) σ H R):jT K (tD f) σ H R:=by
 obtain⟨H0,ρ,ys,ρ',st,e,k⟩:=h;unfold Dm.iL at e;split at e
 ·cases e
 rename_i x ρ1 e1;split at e
 ·rename_i ds ρ2 e2;cases e;refine⟨H0,ρ,_,ρ1,st,e1,fun v H0' H' t r=>?_⟩;obtain⟨H1,t1,b1,r1,_,_⟩:=take1 t (aq.refl _) r e2;cases r1 with
  |lst q rs=>exact⟨_,rfl,⟨_,.inl (aq.rd t1.st.same q)⟩,k _ H1 H' t1 (Eo q rs)⟩
 ·cases e
theorem OT{K:Ds}(h:tDI (Dm.iT f) σ H R):z7 K (tD f) σ H R:=by
 obtain⟨H0,ρ,ys,ρ',st,e,k⟩:=h;unfold Dm.iT at e;split at e
 ·cases e
 rename_i x ρ1 e1;split at e
 ·rename_i ds ρ2 e2;cases e;refine⟨H0,ρ,_,ρ1,st,e1,fun v H0' H' t r=>?_⟩;obtain⟨H1,t1,b1,r1,_,_⟩:=take1 t (aq.refl _) r e2;cases r1 with
  |tup q rs=>exact⟨_,rfl,⟨_,.inl (.inl (t1.st.same _ _ q))⟩,k _ H1 H' t1 (Jc q rs)⟩
 ·cases e
theorem ME(h:tDI (Dm.iR1 f) σ H R):Gp (tDA [f]) σ H R:=by
 obtain⟨H0,ρ,ys,ρ',st,e,k⟩:=h;unfold Dm.iR1 at e;split at e
 ·rename_i j ρ1 e1;split at e
  ·rename_i hb;cases e;refine⟨H0,ρ,[.val (.int j)],_,st,by unfold Dm.eAs;rw[e1];rfl,fun vs H0' H' t r=>?_⟩;cases r with
   |cons r rr=>cases rr;cases Rep.isInt r;have h1:=hb.1;have h2:=hb.2;unfold Dm.BIG at h1 h2;exact⟨j,rfl,by lia,by lia,k _ H0' H' t rS⟩
  ·cases e
 ·cases e
theorem MF{f g:FE}(h:tDI (Dm.iR2 f g) σ H R):Gq (tDA [f,g]) σ H R:=by
 obtain⟨H0,ρ,ys,ρ',st,e,k⟩:=h;unfold Dm.iR2 at e;split at e
 ·rename_i i ρ1 e1;split at e
  ·rename_i j ρ2 e2;split at e
   ·rename_i hb;cases e;refine⟨H0,ρ,[.val (.int i),.val (.int j)],_,st,by unfold Dm.eAs;rw[e1];dsimp only;unfold Dm.eAs;rw[e2];rfl,fun vs H0' H' t r=>?_⟩;cases r with
    |cons r rr=>
     cases rr with
     |cons r' rr=>cases rr;cases Rep.isInt r;cases Rep.isInt r';obtain⟨h1,h2,h3,h4⟩:=hb;unfold Dm.BIG at h1 h2 h3 h4;exact⟨i,j,rfl,⟨by lia,by lia,by lia,by lia⟩,k _ H0' H' t rS⟩
   ·cases e
  ·cases e
 ·cases e
def tLC(wi:TI)(own:Nat)(g:TG)(tt:TT)(te:TE):TE:=fun σ H Q=>wi σ H fun J H1=>∀D,H1 D=none->∃W:Nat->Nat->St->Hp->Prop,
 (∃m,W 0 m (σ++Qd own none) (upd H1 D (.lst [])))/\∀i m σ' H',W i m σ' H' ->
  (J.stop i H'∧Q (.ref D) H')∨(J.go i H'∧∀ x H2,J.yld i H' x H2→g x σ' H2 fun σ2 H3=>tt σ2 H3 fun b H4=>if b=true
   then te σ2 H4 fun y H5=>∃En,H5 D=some (.lst En)/\En.length<sizeLine/\∃m',m'<m/\W (i+1) m' σ2 (upd H5 D (.lst (En++[y])))
   else ∃m',m'<m/\W (i+1) m' σ2 H4)
theorem au.aside{H0 H:Hp}{σ:St}(st:au H0 H σ ρ)(n0:H0 a=none)(no:¬ak σ ρ a):au H0 (upd H a o) σ ρ where
 same:=fun b u z=>by rw[ai (aI z n0)];exact st.same _ _ z
 len:=st.len
 sh:=st.sh
 ow:=fun j d h=>by obtain⟨b,q,n,w⟩:=st.ow j d h;have nb:b≠a:=fun y=>no ⟨j,d,h,y▸q⟩;exact⟨b,q,n,w.mono (aq.refl _) (ai nb)⟩
 dis:=st.dis
theorem au.aR{H0 H:Hp}{σ:St}(st:au H0 H σ ρ)(h:H a=none):¬ak σ ρ a:=fun⟨i,d,h1,h2⟩=>by obtain⟨b,q,n,w⟩:=st.ow i d h1;rw[h2]at q;cases q;obtain⟨o,z⟩:=w.some;rw[h]at z;cases z
theorem iX{α:Type}{l:List α}{r:List α}{x:α}(h:(l++r)[i]?=some x)(n:x∉r):i<l.length/\l[i]?=some x:=by
 by_cases hi:i<l.length
 ·rw[Qi hi]at h;exact⟨hi,h⟩
 ·rw[QI (R4.mp hi)]at h;exact absurd (QL h) n
theorem AF:Dm.Cell.sh d∉Qd k Dm.Cell.un:=fun h=>by have:=List.eq_of_mem_replicate h;cases this
theorem iY:Dm.Cell.ow d∉Qd k Dm.Cell.un:=fun h=>by have:=List.eq_of_mem_replicate h;cases this
theorem au.ext{H0 H:Hp}{σ:St}(st:au H0 H σ ρ)(k:Nat):au H0 H (σ++Qd k none) (ρ++Qd k .un) where
 same:=st.same
 len:=by simp[st.len]
 sh:=fun i d h=>by obtain⟨hi,h⟩:=iX h AF;obtain⟨v,q,r⟩:=st.sh i d h;exact⟨v,by rw[Qi (by rw[st.len];exact hi)];exact q,r⟩
 ow:=fun i d h=>by obtain⟨hi,h⟩:=iX h iY;obtain⟨v,q,r⟩:=st.ow i d h;exact⟨v,by rw[Qi (by rw[st.len];exact hi)];exact q,r⟩
 dis:=fun i j d e a h1 h2 h3 h4=>by obtain⟨hi,h1⟩:=iX h1 iY;obtain⟨hj,h2⟩:=iX h2 iY;rw[Qi (by rw[st.len];exact hi)]at h3;rw[Qi (by rw[st.len];exact hj)]at h4;exact st.dis i j d e a h1 h2 h3 h4
theorem jC{H0 H:Hp}{σ:St}(st:au H0 H σ ρ)(h:ak (σ++Qd k none) (ρ++Qd k .un) a):ak σ ρ a:=by obtain⟨i,d,h1,h2⟩:=h;obtain⟨hi,h1⟩:=iX h1 iY;rw[Qi (by rw[st.len];exact hi)]at h2;exact⟨i,d,h1,h2⟩
theorem Stp.aside{O:Addr->Prop}{H0 H H0' H':Hp}{D:Addr}(t:Stp O H0 H H0' H')(hD:H D=none):Stp O H0 H H0' (upd H' D o):=
 ⟨t.s0,fun a u e n=>by rw[ai (aI e hD)];exact t.s1 a u e n,t.s2,fun a u e=>by rw[ai (aI e hD)];exact t.s3 a u e⟩
theorem ESt.bY{σ:St}{ρ ρ':Dm.Env}{H0 H H0' H':Hp}(t:ESt σ ρ H0 H ρ' H0' H'){D:Addr}(h:H D=some o)(n0:H0 D=none)(no:¬ak σ ρ D):H' D=some o/\H0' D=none/\¬ak σ ρ' D:=by
 refine⟨t.stp.s1 D o h no,?_,fun z=>no (t.own D z)⟩;cases q:H0' D with
 |none=>rfl
 |some u=>
  rcases t.stp.s2 D u q with z | z | z
  ·rw[h]at z;cases z
  ·rw[n0]at z;cases z
  ·exact absurd z no
def JWa(J:It)(H00:Hp)(pa:Option (Addr×HO))(ys:List Dat):Prop:=∀H0 H,aq H00 H0->aq H0 H->(∀q,pa=some q->H q.1=some q.2)->(∀i,ys.length<=i->J.stop i H) /\
 ∀(i:Nat) (d:Dat),ys[i]?=some d->J.go i H/\∀x H',J.yld i H x H'->∃H0',aK H0 H H0' H'/\Rep H0' x d
theorem lE{σ:St}{own:Nat}{t:FT}{el:FE}{Q:VK}{H00 Hb:Hp}{ρ1 ρ2:Dm.Env}{ds ys:List Dat}{J:It}{pa:Option (Addr×HO)}(hb:BD is g bd)(hl:∀i∈is,σ.length<=i)
  (st1:au H00 Hb σ ρ1) (hp:∀q,pa=some q->Hb q.1=some q.2/\H00 q.1=none/\¬ak σ ρ1 q.1) (jw:JWa J H00 pa ds) (hsz:ds.length<=Dm.SZ) (e2:Dm.cA bd t el ds (ρ1++Qd own .un) []=some (ys,ρ2))
  (k:∀v H0' H',ESt σ ρ1 H00 Hb (ρ2.take ρ1.length) H0' H'->eX Hb H0' H' σ (ρ2.take ρ1.length) v (.new (.lst ys))->(∀q,pa=some q->H' q.1=some q.2/\H0' q.1=none)->Q v H') (D:Addr) (hD:Hb D=none) :
  ∃W:Nat->Nat->St->Hp->Prop,(∃m,W 0 m (σ++Qd own none) (upd Hb D (.lst [])))/\∀i m σ' H',W i m σ' H' ->
  (J.stop i H'∧Q (.ref D) H')∨(J.go i H'∧∀ x H2,J.yld i H' x H2→g x σ' H2 fun σ2 H3=>tDT t σ2 H3 fun b H4=>if b=true
   then tD el σ2 H4 fun y H5=>∃En,H5 D=some (.lst En)/\En.length<sizeLine/\∃m',m'<m/\W (i+1) m' σ2 (upd H5 D (.lst (En++[y])))
   else ∃m',m'<m/\W (i+1) m' σ2 H4):=by
 have hpD:∀q,pa=some q->q.1≠D:=fun q e z=>by have:=(hp q e).1;rw[z,hD]at this;cases this
 have noD:¬ak σ ρ1 D:=st1.aR hD;refine ⟨fun i m σ' H'=>∃ (H0c:Hp) (ρc:Dm.Env) (yT:List Dat) (u9:List V),au H0c H' σ' ρc∧aq H00 H0c∧m=ds.length-i∧i≤ds.length∧Dm.cA bd t el (ds.drop i) ρc yT=some (ys,ρ2) ∧
  H' D=some (.lst u9)/\aC H0c u9 yT/\H0c D=none/\yT.length<=i/\Stp (ak σ ρ1) H00 Hb H0c H'/\(∀j,j<σ.length->σ'[j]?=σ[j]?)/\(∀a,ak σ' ρc a->ak σ ρ1 a)/\(∀j,Def ρ1 j->Def ρc j)/\(∀q,pa=some q->H' q.1=some q.2/\H0c q.1=none/\¬ak σ' ρc q.1),
  ⟨ds.length,H00,ρ1++Qd own .un,[],[],(st1.aside (st1.same.free hD) noD).ext own,aq.refl _,by simp,QM _,by simpa using e2,ao,.nil,st1.same.free hD,QM _,(Stp.refl _ _ _).aside hD,
   fun j hj=>Qi hj,fun a z=>jC st1 z,fun j z=>trivial,fun q e=>⟨by rw[ai (hpD q e)];exact(hp q e).1,(hp q e).2.1,fun z=>(hp q e).2.2 (jC st1 z)⟩⟩,?_⟩
 rintro i m σ' H' ⟨H0c,ρc,yT,u9,sc,s00,rfl,hi,ec,hDl,ra,n0,hal,sp,hσ,ho,hdf,hpc⟩;have nOc:¬ak σ' ρc D:=fun z=>noD (ho D z);obtain⟨js,jg⟩:=jw H0c H' s00 sc.same fun q e=>(hpc q e).1;by_cases Kd:i<ds.length
 ·have hd:ds[i]?=some ds[i]:=by simp[Kd]
  obtain⟨g1,g2⟩:=jg i ds[i] hd;rw[Rw Kd]at ec;unfold Dm.cA at ec;refine .inr ⟨g1,fun y H2 yy=>?_⟩;obtain⟨H0',gr,rx⟩:=g2 y H2 yy;split at ec
  ·cases ec
  rename_i ρ3 e3;have t2:=ESt.grow sc gr;obtain⟨hD2,n02,no2⟩:=t2.bY hDl n0 nOc;have hp2:=fun q e=>t2.bY (hpc q e).1 (hpc q e).2.1 (hpc q e).2.2;refine hb H0' H2 σ' ρc ρ3 y ds[i] _ t2.st rx e3 fun σ3 st3 o3 k3 d3 _=>?_;have no3:¬ak σ3 ρ3 D:=fun z=>no2 (o3 D z);have po3:∀q,pa=some q->¬ak σ3 ρ3 q.1:=fun q e z=>(hp2 q e).2.2 (o3 q.1 z);have hσ3:∀j,j<σ.length->σ3[j]?=σ[j]?:=fun j hj=>(k3 j fun z=>R4.mpr (hl j z) hj).trans (hσ j hj);have ho3:∀a,ak σ3 ρ3 a->ak σ ρ1 a:=fun a z=>ho a (o3 a z);have MG:∀j,Def ρ1 j->Def ρ3 j:=fun j z=>d3 j (hdf j z);have sp3:Stp (ak σ ρ1) H00 Hb H0' H2:=sp.trans t2.stp fun a z=>.inl (ho a z);have ra3:=ra.mono gr.s0;have s3:aq H00 H0':=s00.trans gr.s0;split at ec
  ·cases ec
  ·rename_i ρ4 e4;refine⟨H0',ρ3,false,ρ4,st3,e4,fun AG H'' t4=>?_⟩;dsimp only;rw[if_neg QE];obtain⟨hD4,n04,no4⟩:=t4.bY hD2 n02 no3;have hp4:=fun q e=>t4.bY (hp2 q e).1 (hp2 q e).2.1 (po3 q e);exact⟨ds.length-(i+1),by lia,AG,ρ4,yT,u9,t4.st,s3.trans t4.stp.s0,rfl,Kd,ec,hD4,ra3.mono t4.stp.s0,n04,Nat.le_succ_of_le hal,sp3.trans t4.stp fun a z=>.inl (ho3 a z),hσ3,fun a z=>ho3 a (t4.own a z),fun j z=>t4.dfn j (MG j z),hp4⟩
  ·rename_i ρ4 e4;refine⟨H0',ρ3,true,ρ4,st3,e4,fun AG H'' t4=>?_⟩;dsimp only;rw[if_pos rfl];obtain⟨hD4,n04,no4⟩:=t4.bY hD2 n02 no3;have hp4:=fun q e=>t4.bY (hp2 q e).1 (hp2 q e).2.1 (po3 q e);split at ec
   ·cases ec
   rename_i x5 ρ5 e5;split at ec
   ·cases ec
   rename_i y6 ρ6 e6;refine⟨AG,ρ4,x5,ρ5,t4.st,e5,fun v H5 Hc t5 r5=>?_⟩;obtain⟨H6,t6,b6,r6,_,_⟩:=take1 t5 (aq.refl _) r5 e6;obtain⟨hD6,n06,no6⟩:=t6.bY hD4 n04 no4;have hp6:=fun q e=>t6.bY (hp4 q e).1 (hp4 q e).2.1 (hp4 q e).2.2;refine⟨u9,hD6,?_,ds.length-(i+1),by lia,H6,ρ6,yT++[y6],u9++[v],t6.st.aside n06 no6,(s3.trans t4.stp.s0).trans t6.stp.s0,rfl,Kd,ec,ao,?_,n06,?_,?_,hσ3,fun a z=>ho3 a (t4.own a (t6.own a z)),fun j z=>t6.dfn j (t4.dfn j (MG j z)),fun q e=>⟨by rw[ai (hpD q e)];exact(hp6 q e).1,(hp6 q e).2.1,(hp6 q e).2.2⟩⟩
   ·rw[ra.length];unfold Dm.SZ at hsz;exact SG (QO hal (QO (SW Kd) hsz)) (by decide)
   ·exact((ra3.mono t4.stp.s0).mono t6.stp.s0).append (.cons r6 .nil)
   ·rw[Qn,Rj];lia
   ·exact((sp3.trans t4.stp fun a z=>.inl (ho3 a z)).trans t6.stp fun a z=>.inl (ho3 a (t4.own a z))).aside hD
 ·have e':i=ds.length:=by lia
  subst e';rw[R5]at ec;cases ec;refine .inl ⟨js _ (Qf _),k _ H0c H' ?_ ?_ fun q e=>⟨(hpc q e).1,(hpc q e).2.1⟩⟩
  ·have zo:σ.length<=ρ2.length:=by
    rw[<- sc.len];refine R4.mp fun z=>?_;have q:=hσ σ'.length z;rw[QZ (Qf _),Ql z]at q;cases q
   have tk:∀{j:Nat} {c:Dm.Cell},(ρ2.take ρ1.length)[j]?=some c->j<σ.length/\ρ2[j]?=some c:=fun {j c} h=>by
    have hj:j<ρ1.length:=by
     have:=(PU.mp h).1;rw[Rg]at this
     lia
    rw[RP hj]at h;exact⟨by rw[st1.len];exact hj,h⟩
   have own':∀a,ak σ (ρ2.take ρ1.length) a->ak σ' ρ2 a:=fun a ⟨j,d,h1,h2⟩=>by obtain⟨hj,h1⟩:=tk h1;exact⟨j,d,h1,(hσ j hj).trans h2⟩
   refine⟨⟨sc.same,?_,fun j d h=>?_,fun j d h=>?_,fun j j' d d' a h1 h2 h3 h4=>?_⟩,sp,fun a z=>ho a (own' a z),fun j z=>?_⟩
   ·rw[Rg,<- st1.len];lia
   ·obtain⟨hj,h⟩:=tk h;obtain⟨v,q,r⟩:=sc.sh j d h;exact⟨v,(hσ j hj).symm.trans q,r⟩
   ·obtain⟨hj,h⟩:=tk h;obtain⟨v,q,r⟩:=sc.ow j d h;exact⟨v,(hσ j hj).symm.trans q,r⟩
   ·obtain⟨hj,h1⟩:=tk h1;obtain⟨hj',h2⟩:=tk h2;exact sc.dis j j' d d' a h1 h2 ((hσ j hj).trans h3) ((hσ j' hj').trans h4)
   ·trivial
  ·refine⟨D,rfl,hD,fun⟨j,d,h1,h2⟩=>?_,n0,u9,hDl,ra⟩;have hj:j<ρ1.length:=by
    have:=(PU.mp h1).1;rw[Rg]at this
    lia
   rw[RP hj]at h1;exact nOc ⟨j,d,h1,(hσ j (by rw[st1.len];exact hj)).trans h2⟩
theorem u_{own:Nat}{el:FE}(hb:BD is g bd)(hl:∀i∈is,σ.length<=i)(h:tD (Dm.b9 fi own bd t el) σ H Q) :
  tLC (tDI fi) own g (tDT t) (tD el) σ H Q:=by
 obtain⟨H0,ρ,x,ρ',st,e,k⟩:=h;unfold Dm.b9 at e;split at e
 ·cases e
 rename_i ds ρ1 e1;split at e
 case isFalse=>cases e
 rename_i hsz;split at e
 ·cases e
 rename_i ys ρ2 e2;cases e;refine⟨H0,ρ,ds,ρ1,st,e1,fun J H00 Hb t1 jw D hD=>lE (pa:=none) hb hl t1.st (fun q e=>by cases e) (fun H0 H s0 s1 _=>jw H0 H s0 s1) hsz e2 (fun v H0' H' t2 r2 _=>k v H0' H' (t1.trans t2) (r2.early fun a n=>t1.stp.gone n)) D hD⟩
theorem lF{n m:Nat}{H:Hp}(h:spD (Dm.fn n m body) vs H Q E):vs.length=n:=by
 obtain⟨H0,ds,z,s,rs,e,k⟩:=h;unfold Dm.fn at e;split at e
 ·rename_i hl;rw[rs.length];exact hl
 ·cases e
theorem Ep{N:List Str}{n m:Nat}(hm:N.length=n+m)(h:spD (Dm.fn n m body) vs H Q E) :
  tDS body { nx:=fun _ H'=>Q .non H',rt:=Q } (start N vs) H:=by
 have hvn:=lF h;obtain⟨H0,ds,z,s,rs,e,k⟩:=h;have hl:=rs.length;have no:∀a,¬ak (start N vs) (ds.map Dm.Cell.sh++Qd m .un) a:=fun a ⟨i,d,h1,_⟩=>by
  by_cases hi:i<ds.length
  ·rw[Qi (by simpa using hi),Qm]at h1;cases q:ds[i]? with
   |none=>rw[q]at h1;cases h1
   |some y=>rw[q]at h1;cases h1
  ·rw[QI (by simpa using hi),Q8]at h1;split at h1<;>cases h1
 have st:au H0 H (start N vs) (ds.map Dm.Cell.sh++Qd m .un):=by
  refine⟨s,?_,fun i d h=>?_,fun i d h=>?_,fun i j d e a h1 h2 _ _=>?_⟩
  ·unfold L2.start;simp only[Qn,Dp,RY]
   lia
  ·have hi:i<ds.length:=by
    by_cases hi:i<ds.length
    ·exact hi
    ·rw[QI (by simpa using hi),Q8]at h;split at h<;>cases h
   rw[Qi (by simpa using hi),Qm]at h;cases q:ds[i]? with
   |none=>rw[q]at h;cases h
   |some y=>rw[q]at h;cases h;obtain⟨v,hv,r⟩:=rs.get q;refine⟨v,?_,r⟩;unfold L2.start;rw[Qi (by simpa [hl] using hi),Qm,hv];rfl
  ·by_cases hi:i<ds.length
   ·rw[Qi (by simpa using hi),Qm]at h;cases q:ds[i]? with
    |none=>rw[q]at h;cases h
    |some y=>rw[q]at h;cases h
   ·rw[QI (by simpa using hi),Q8]at h;split at h<;>cases h
  ·by_cases hi:i<ds.length
   ·rw[Qi (by simpa using hi),Qm]at h1;cases q:ds[i]? with
    |none=>rw[q]at h1;cases h1
    |some y=>rw[q]at h1;cases h1
   ·rw[QI (by simpa using hi),Q8]at h1;split at h1<;>cases h1
 have gr:∀{H0' H'},Stp (ak (start N vs) (ds.map Dm.Cell.sh++Qd m .un)) H0 H H0' H'->aq H0' H'->aK H0 H H0' H':=fun {H0' H'} t ss=>⟨t.s0,fun a o e=>t.s1 a o e (no a),fun a o e=>(t.s2 a o e).imp id fun q=>q.elim id fun z=>absurd z (no a),ss⟩
 unfold Dm.fn at e;rw[if_pos (by rw[<- hl];exact hvn)]at e;split at e
 ·rename_i r ρ' e1;cases e;refine⟨H0,_,_,st,e1,fun σ' v H0' H' t r _=>k v H0' H' (gr t.stp t.st.same) ?_⟩;cases z with
  |val d=>exact r
  |new d=>obtain⟨a,e,n,n0,w⟩:=r;exact⟨a,e,n.elim id fun z=>absurd z (no a),n0,w⟩
 ·rename_i ρ' e1;cases e;exact⟨H0,_,_,st,e1,fun σ' H0' H' t=>k _ H0' H' (gr t.stp t.st.same) .non⟩
 ·cases e
end
end
open PySem PySem.Spec PyProof.Rows L2
noncomputable def aU(X:Cx)(nm:List Str)(scope:Scope)(own:List Str)(cl:List (Str×Addr))(C:Addr)(s:Shared)(H:Hp)(fp:List Addr):Cx where
 prog:=X.prog
 w:=X.w
 K:=X.K
 mg:=X.mg
 base:=X.base
 A:=X.A
 N:=nm++own
 s₀:=s
 H₀:=H
 env:=compEnvC scope cl C X.env
 outer:=X.stack
 stack:=X.stack
 ex:=fp
 fn:=fun _=>false
 calm:=X.calm
 pn:=[]
 xe:=fun _ _=>False
def PTs(X:Cx)(Kr:List Expr)(t:TT):Prop:=
 ∀(qL:List (Addr×Obj)) (s:Shared) (σ:L2.St) (H:Hp) (Q:Bool->Hp->Prop),Inv X qL σ H s->t σ H Q ->
  wpAny (model X.prog X.w) X.A (forIn Kr true fun c r=>if r=true then do let ok <- isTrue c X.env (eval c X.env);pure (Rx ok) else pure (Rx r)) (TP X qL σ Q) X.xe s
def Er:TT:=fun _ H Q=>Q true H
theorem wM{X:Cx}:PTs X [] Er:=fun qL s σ H Q I h=>wpAny_tests_nil ⟨H,I,h⟩
theorem wN{X:Cx}{c:Expr}{t:TT}(h:PT X c t):PTs X [c] t:=fun qL s σ H Q I hq=>wpAny_tests_one (h qL s σ H Q I hq)
theorem dM(env:Env):∀(names:List (Str×NameKind)) (cs:List (Str×Addr)),(∀y∈names,y.2=.free->∃c,env.cells.lookup y.1=some c) ->
  ∃cl,(forIn names cs fun(x:Str×NameKind) (r:List (Str×Addr))=>(if (x.2 == NameKind.free)=true then do let c <- cellOf env x.1;pure (Rx ((x.1,c)::r)) else pure (Rx r):Sem (ForInStep (List (Str×Addr)))))=pure cl /\
   (∀x c,cl.lookup x=some c->env.cells.lookup x=some c\/cs.lookup x=some c)/\(∀y∈names,y.2=.free->∃c,cl.lookup y.1=some c)/\(∀x c,cs.lookup x=some c->∃c',cl.lookup x=some c')
 |[],cs,_=>⟨cs,rfl,fun _ _ h=>.inr h,fun _ h=>(nomatch h),fun _ c h=>⟨c,h⟩⟩
 |(n,k)::r,cs,h=>by
  have hr:∀y∈r,y.2=.free->∃c,env.cells.lookup y.1=some c:=fun y hy=>h y (Qg _ hy);by_cases hk:k=.free
  ·subst hk;obtain⟨c,hc⟩:=h (n,.free) Qe rfl;obtain⟨cl,e,h1,h2,h3⟩:=dM env r ((n,c)::cs) hr;refine⟨cl,?_,fun x c' q=>?_,fun y hy hf=>?_,fun x c' q=>?_⟩
   ·rw[List.forIn_cons];have e1:cellOf env n=pure c:=by unfold cellOf;rw[hc]
    simp only[beq_self_eq_true,if_true,e1,pure_bind];exact e
   ·rcases h1 x c' q with z | z
    ·exact .inl z
    ·rw[Q2]at z;cases hx:x == n with
     |true=>
      rw[hx]at z;have:x=n:=by simpa using hx
      subst this;injection z with z
      subst z;exact .inl hc
     |false=>rw[hx]at z;exact .inr z
   ·rcases Qk.mp hy with rfl | hy
    ·exact h3 n c (by rw[Q2,beq_self_eq_true])
    ·exact h2 y hy hf
   ·by_cases hx:x=n
    ·subst hx;exact h3 x c (by rw[Q2,beq_self_eq_true])
    ·have hx':(x == n)=false:=by simpa using hx
     exact h3 x c' (by rw[Q2,hx'];exact q)
  ·have hb:(k == NameKind.free)=false:=by simpa using hk
   obtain⟨cl,e,h1,h2,h3⟩:=dM env r cs hr;refine⟨cl,?_,h1,fun y hy hf=>?_,h3⟩
   ·rw[List.forIn_cons];simp only[hb,RI,if_false,pure_bind];exact e
   ·rcases Qk.mp hy with rfl | hy
    ·exact absurd hf hk
    ·exact h2 y hy hf
theorem lG{env:Env}{scope:Scope}(h:∀y∈scope.names,y.2=.free->∃c,env.cells.lookup y.1=some c) :
  ∃cl,closureFor scope env=pure cl/\(∀x c,cl.lookup x=some c->env.cells.lookup x=some c)/\∀y∈scope.names,y.2=.free->∃c,cl.lookup y.1=some c:=by
 obtain⟨cl,e,h1,h2,_⟩:=dM env scope.names [] h;refine⟨cl,?_,fun x c q=>(h1 x c q).elim id fun z=>by simp at z,h2⟩;unfold closureFor;have e':(forIn scope.names ([]:List (Str×Addr)) fun(x:Str×NameKind) (r:List (Str×Addr))=>(if (x.2 == NameKind.free)=true then do let c <- cellOf env x.1;pure (Rx ((x.1,c)::r)) else pure (Rx r):Sem (ForInStep (List (Str×Addr)))))=pure cl:=e
 first
  |(rw[show (forIn scope.names ([]:List (Str×Addr)) _:Sem (List (Str×Addr)))=pure cl from e'];rfl)
  |(simp only[e'];rfl)
theorem qk{prog:Program}{w:World}{A:Around}{R:Result->Shared->Prop}{s:Shared}{Nv target iter:Expr}{Kr:List Expr}{scope:Scope}{pos:Pos}{it En:Value}{env:Env}(I:Nat->Shared->Prop)
  (turn:∀ n s,I n s→wpAny (model prog w) A (pyNext it) (fun r s₁=>match r with
   |none=>R (.ok .next) s₁
   | some v=>wpAny (model prog w) A (letOwnedTupleGo target it v) (fun _ s₁'=>wpAny (model prog w) A (assign target env v) (fun _ s₂=>
     wpAny (model prog w) A (forIn Kr true fun c r=>if r=true then do let ok ← isTrue c env (eval c env);pure (Rx ok) else pure (Rx r)) (fun ok s₃=>
      if ok=true then wpAny (model prog w) A (eval Nv env) (fun x s₄=>wpAny (model prog w) A (call (.builtin "list.append") [En,x]) (fun _ s₅=>∃m,m<n/\I m s₅) (fun _ _=>False) s₄) (fun _ _=>False) s₃
      else ∃m,m<n/\I m s₃) (fun _ _=>False) s₂) (fun _ _=>False) s₁') (fun _ _=>False) s₁) (fun _ _=>False) s)
  (n:Nat) (h:I n s) :
  codeAny (model prog w) A (.compLoop (.ListComp Nv [⟨target,iter,Kr,0⟩] scope pos) 0 it En env) R s:=by
 have no:∀{P:Value->Shared->Prop} (x:Value) (s':Shared),False->P x s':=fun _ _ f=>f.elim;refine codeAny_loop rfl I (fun n s hI=>?_) n h;show wpAny _ A ((compTurn (.ListComp Nv [⟨target,iter,Kr,0⟩] scope pos) 0 it En env).onRaise (fun x=>do noteFrame x env;theTreesLotGoes x)) _ _ s;refine wpAny_noted ?_;rw[compTurn_list];refine wpAny_bind (wpAny_standAt (wpAny_bind (wpAny_mono (turn n s hI) (fun r s₁ h₁=>?_) no)));cases r with
 |none=>exact wpAny_pure h₁
 |some v=>
  refine wpAny_bind (wpAny_mono h₁ (fun _ s₁' h₁'=>?_) no);refine wpAny_bind (wpAny_mono h₁' (fun _ s₂ h₂=>wpAny_bind (wpAny_mono h₂ (fun ok s₃ h₃=>?_) no)) no);cases ok with
  |false=>exact wpAny_pure ⟨rfl,h₃⟩
  |true=>exact wpAny_bind (wpAny_bind (wpAny_mono h₃ (fun x s₄ h₄=>wpAny_bind (wpAny_mono h₄ (fun _ s₅ h₅=>wpAny_pure (wpAny_pure ⟨rfl,h₅⟩)) no)) no))
theorem cK(env:Env):∀(names:List (Str×NameKind)) (x:Str) (k:NameKind),
  (names.map fun(n,k)=>if (k == NameKind.free&&env.scope.kind == .function&&env.kindOf n == some .cell) then (n,Tc) else (n,k)).lookup x=some k ->
  ∃k0,names.lookup x=some k0/\(k=k0\/(k0=.free/\k=.cell))
 |[],x,k,h=>by simp at h
 |(n,k1)::r,x,k,h=>by
  have h:List.lookup x ((if (k1 == NameKind.free&&env.scope.kind == .function&&env.kindOf n == some .cell)=true then (n,Tc) else (n,k1))::r.map fun(n,k)=>if (k == NameKind.free&&env.scope.kind == .function&&env.kindOf n == some .cell) then (n,Tc) else (n,k))=some k:=h;cases hx:x == n with
  |true=>
   by_cases hc:(k1 == NameKind.free&&env.scope.kind == .function&&env.kindOf n == some .cell)=true
   ·rw[if_pos hc,Q2,hx]at h;injection h with h
    have hk:k1=.free:=by simp only[QJ,beq_iff_eq]at hc;exact hc.1.1
    exact⟨k1,by rw[Q2,hx],.inr ⟨hk,h.symm⟩⟩
   ·rw[if_neg hc,Q2,hx]at h;injection h with h
    exact⟨k1,by rw[Q2,hx],.inl h.symm⟩
  |false=>
   by_cases hc:(k1 == NameKind.free&&env.scope.kind == .function&&env.kindOf n == some .cell)=true
   ·rw[if_pos hc,Q2,hx]at h;obtain⟨k0,e,z⟩:=cK env r x k h;exact⟨k0,by rw[Q2,hx];exact e,z⟩
   ·rw[if_neg hc,Q2,hx]at h;obtain⟨k0,e,z⟩:=cK env r x k h;exact⟨k0,by rw[Q2,hx];exact e,z⟩
structure cD(X:Cx)(nm:List Str)(scope:Scope):Prop where
 kind:scope.kind=.function
 cell:∀y∈scope.names,y.2≠.cell
 names:∀y∈scope.names,y.2=.local->scope.names.lookup y.1=some .local
 free:∀y∈scope.names,y.2=.free->X.env.kindOf y.1=some .cell\/X.env.kindOf y.1=some .free
 apart:∀x∈nm,scope.names.lookup x≠some .local
 len:nm.length=X.N.length
 mask:∀(i:Nat) (x:Str),nm[i]?=some x->X.N[i]?=some x\/scope.names.lookup x=none
section
variable{X:Cx}{nm:List Str}{Nv tg iter:Expr}{Kr:List Expr}{scope:Scope}{pos:Pos}{own:List Str}{wi:TI}{g:TG}{tt:TT}{te:TE}
theorem o_{qL:List (Addr×Obj)}{s2:Shared}{σ:L2.St}{H2:Hp}{cl:List (Str×Addr)}{it:Addr}{fp:List Addr}{tn:Nat->Heap->Prop}{J:It}{Q:VK}{E:Value->Shared->Prop}{RR:Value->Addr->Result->Shared->Prop}
  (hc:X.calm=true) (S:cD X nm scope) (lH:∀x c,cl.lookup x=some c->X.env.cells.lookup x=some c) (yU:∀y∈scope.names,y.2=.free->∃c,cl.lookup y.1=some c)
  (hg:∀cl C s H fp,PG (aU X nm scope own cl C s H fp) tg g) (ht:∀cl C s H fp,PTs (aU X nm scope own cl C s H fp) Kr tt) (he:∀cl C s H fp,PE (aU X nm scope own cl C s H fp) Nv te)
  (I2:Inv X qL σ H2 s2) (T:Turn X.prog X.w X.K tg J fp it tn) (st2:tn 0 s2.heap) (f2:∀b∈fp,oE X qL H2 b)
  (hR:∀ D,H2 D=none→∃ W:Nat→Nat→L2.St→Hp→Prop,
   (∃m,W 0 m (σ++Qd own.length none) (upd H2 D (.lst [])))/\∀i m σ' H',W i m σ' H' ->
    (J.stop i H'∧Q (.ref D) H')∨(J.go i H'∧∀ x H2,J.yld i H' x H2→g x σ' H2 fun σ2 H3=>tt σ2 H3 fun b H4=>if b=true
     then te σ2 H4 fun y H5=>∃En,H5 D=some (.lst En)/\En.length<sizeLine/\∃m',m'<m/\W (i+1) m' σ2 (upd H5 D (.lst (En++[y])))
     else ∃m',m'<m/\W (i+1) m' σ2 H4))
  (OU:∀D C H6 s6,Inv X qL σ H6 s6->H6 C=none->C≠X.env.locals->X.s₀.heap.objs.size<=C->(∀x c,X.env.cells.lookup x=some c->c≠C)->(∀p∈X.pn++qL,p.1≠C)->(∃m,s6.heap.Ns C m)->Q (.ref D) H6->RR (.ref D) C (.ok .next) s6) :
  wpAny (model X.prog X.w) X.A (newList []) (fun En s₃=>wpAny (model X.prog X.w) X.A (newFunctionEnv scope X.env.globals cl [] X.env.qual none .none (some X.env)) (fun cenv s₄=>codeAny (model X.prog X.w) X.A (.compStart (.ListComp Nv [⟨tg,iter,Kr,0⟩] scope pos) 0 (.ref it) En { cenv with scope:=relabel scope X.env }) (RR En cenv.locals) s₄) E s₃) E s2:=by
 have no:∀{P:Value->Shared->Prop} (x:Value) (s':Shared),False->P x s':=fun _ _ f=>f.elim;refine wpAny_newObj_type (wpAny_newFunctionEnv S.cell (by intro y hy;simp at hy) (fun h₁ hns₁ hsb₁=>?_) S.kind);dsimp only at hns₁ hsb₁ ⊢;have I3:Inv X qL σ (upd H2 s2.heap.objs.size (.lst [])) { s2 with heap:=s2.heap.push { cls:=.type "list",dict:=none,data:=.seq ([]:List Value).toArray } }:=I2.IT (t':=s2.toks) (ys:=[]) (its:=[]) .nil (QM _)
 generalize hG2:s2.heap.push { cls:=.type "list",dict:=none,data:=.seq ([]:List Value).toArray }=G2 at hns₁ hsb₁ I3 ⊢
 have hC:G2.objs.size=s2.heap.objs.size+1:=by rw[<- hG2,RN]
 have up2:∀b o,s2.heap.get? b=some o->G2.get? b=some o:=fun b o e=>hG2▸Qc _ e;have up3:∀b o,G2.get? b=some o->h₁.get? b=some o:=fun b o e=>hsb₁.extBut b o (QF (Qh e)) (Qc _ e);have OV:G2.get? G2.objs.size=none:=Heap.get?_none_of_le (Qf _);have fpo:∀b∈fp,∃o,s2.heap.get? b=some o:=fun b hb=>by obtain⟨o,e,_⟩:=T.obj 0 _ st2 b hb;exact⟨o,e⟩
 have fpC:∀b∈fp,b≠G2.objs.size:=fun b hb=>by obtain⟨o,e⟩:=fpo b hb;exact QF (Qh (up2 b o e))
 have H3C:(upd H2 s2.heap.objs.size (.lst [])) G2.objs.size=none:=I3.hok.fresh (Qf _);have fpD:∀b∈fp,b≠s2.heap.objs.size:=fun b hb=>by obtain⟨o,e⟩:=fpo b hb;exact QF (Qh e)
 have MH:∀b∈fp,b∉frs X.stack:=fun b hb z=>by
  rcases Qk.mp (I3.uM b z) with y | y
  ·exact(f2 b hb).2.1 y
  ·exact(f2 b hb).2.2.1 y
 have ok':(aU X nm scope own cl G2.objs.size { s2 with heap:=G2 } (upd H2 s2.heap.objs.size (.lst [])) fp).Ok:=by
  refine ⟨I3.ok.mod,S.kind,I3.ok.glob,I3.ok.blt,Qf _,fun x y c e1 e2=>I3.ok.inj x y c (lH x c e1) (lH y c e2),fun x hx=>?_,fun x c z=>(nomatch z),I3.ok.hd,I3.ok.frames,.inl rfl,
   fun b hb=>⟨fpC b hb,fun x c e=>(f2 b hb).2.2.2.2.1 x c (lH x c e)⟩,fun b o e=>I3.bs b o e,QO I3.ok.bsz I3.sz,fun b o e hb=>?_,fun b hb=>MH b hb,I3.stack,I3.wB⟩
  ·have hx:(relabel scope X.env).names.lookup x=some .cell\/(relabel scope X.env).names.lookup x=some .free:=hx;have key:∀k,(relabel scope X.env).names.lookup x=some k->k≠.local->k=.cell\/k=.free->∃c,cl.lookup x=some c:=fun k hk _ hkk=>by
    obtain⟨k0,e0,z⟩:=cK X.env scope.names x k hk;have m0:=PySem.mem_of_lookup e0;have f0:k0=.free:=by
     rcases z with z | z
     ·subst z;rcases hkk with q | q
      ·exact absurd q (S.cell _ m0)
      ·exact q
     ·exact z.1
    exact yU (x,k0) m0 f0
   rcases hx with hx | hx
   ·exact key _ hx (by decide) (.inl rfl)
   ·exact key _ hx (by decide) (.inr rfl)
  ·rcases (f2 b hb).2.2.2.1 with z | z
   ·exact I3.ok.zU b o e z
   ·exact absurd (Qy (Qh e) (QO I3.ok.bsz z)) (Q0 _)
 have stat:∀{H':Hp},(∀b∈fp,H' b=none)->∀b∈fp,oE (aU X nm scope own cl G2.objs.size { s2 with heap:=G2 } (upd H2 s2.heap.objs.size (.lst [])) fp) [] H' b:=fun hn b hb=>⟨hn b hb,fpC b hb,MH b hb,.inl hb,fun x c e=>(f2 b hb).2.2.2.2.1 x c (lH x c e),fun p hp=>(nomatch (show p∈([]:List (Addr×Obj)) from hp))⟩
 have I4:Inv (aU X nm scope own cl G2.objs.size { s2 with heap:=G2 } (upd H2 s2.heap.objs.size (.lst [])) fp) [] (σ++Qd own.length none) (upd H2 s2.heap.objs.size (.lst [])) { s2 with heap:=h₁,toks:=s2.toks+([]:List (Str×Value)).length }:=by
  refine⟨ok',rfl,I3.bare,Un.kept up3,⟨_,hns₁,fun i x v e1 e2 e3=>?_⟩,fun x c e=>?_,H3C,fun x c e=>I3.dw x c (lH x c e),fun p hp=>(nomatch (show p∈([]:List (Addr×Obj)) from hp)),I3.hok.kept up3,?_⟩
  ·have e1:(nm++own)[i]?=some x:=e1;have hi:i<σ.length:=by
    by_cases hi:i<σ.length
    ·exact hi
    ·rw[QI (R4.mp hi),Q8]at e2;split at e2<;>cases e2
   rw[Qi hi]at e2;rw[Qi (by rw[S.len,<- I3.len];exact hi)]at e1;have key:∀k,(relabel scope X.env).names.lookup x=some k->k=.local\/k=.cell\/k=.free->scope.names.lookup x=some .free/\(k=.cell\/k=.free):=fun k hk hkk=>by
    obtain⟨k0,e0,z⟩:=cK X.env scope.names x k hk;have m0:=PySem.mem_of_lookup e0;have n1:k0≠.local:=fun y=>S.apart x (QL e1) (y▸e0);have n2:k0≠.cell:=S.cell _ m0;rcases z with z | z
    ·subst z;rcases hkk with q | q | q
     ·exact absurd q n1
     ·exact absurd q n2
     ·subst q;exact⟨e0,.inr rfl⟩
    ·obtain⟨z1,z2⟩:=z;subst z1;subst z2;exact⟨e0,.inl rfl⟩
   have hk:∃k,(relabel scope X.env).names.lookup x=some k/\(k=.cell\/k=.free)/\scope.names.lookup x=some .free:=by
    rcases (show (relabel scope X.env).names.lookup x=some .local\/(relabel scope X.env).names.lookup x=some .cell\/(relabel scope X.env).names.lookup x=some .free from e3) with q | q | q
    ·obtain⟨a,b⟩:=key _ q (.inl rfl);exact⟨_,q,b,a⟩
    ·obtain⟨a,b⟩:=key _ q (.inr (.inl rfl));exact⟨_,q,b,a⟩
    ·obtain⟨a,b⟩:=key _ q (.inr (.inr rfl));exact⟨_,q,b,a⟩
   obtain⟨k,hk1,hk2,hk3⟩:=hk;have m0:=PySem.mem_of_lookup hk3;obtain⟨c,hcc⟩:=yU (x,.free) m0 rfl;obtain⟨m,hn,hl⟩:=I3.loc;have hout:=S.free (x,.free) m0 rfl;have OW:Vis X.env.scope x:=by
    rcases hout with q | q
    ·exact .inr (.inl q)
    ·exact .inr (.inr q)
   have e1':X.N[i]?=some x:=by
    rcases S.mask i x e1 with z | z
    ·exact z
    ·rw[z]at hk3;cases hk3
   obtain⟨u,ru,lk⟩:=hl i x v e1' e2 OW;refine⟨u,ru,.inr ⟨?_,c,hcc,?_⟩⟩
   ·rcases hk2 with q | q
    ·subst q;exact .inl hk1
    ·subst q;exact .inr hk1
   ·rcases lk with⟨q,_⟩ | ⟨_,c',e',z⟩
    ·rcases hout with y | y
     ·rw[q]at y;cases y
     ·rw[q]at y;cases y
    ·rw[lH x c hcc]at e';cases e';obtain⟨o,ho,hd⟩:=z;exact⟨o,up3 c o ho,hd⟩
  ·obtain⟨v,o,ho,hd⟩:=I3.cell x c (lH x c e);exact⟨v,o,up3 c o ho,hd⟩
  ·show (σ++Qd own.length none).length=(nm++own).length;rw[Qn,Qn,RY,I3.len,S.len]
 obtain⟨W,⟨m0,w0⟩,turn⟩:=hR s2.heap.objs.size I2.fresh;have st4:tn 0 h₁:=T.keep 0 _ _ st2 fun b hb o e=>up3 b o (up2 b o e);have OX:∀b∈fp,(upd H2 s2.heap.objs.size (.lst [])) b=none:=fun b hb=>by rw[ai (fpD b hb)];exact(f2 b hb).1
 have Fz:∀s₃:Shared,s₃={ s2 with heap:=h₁,toks:=s2.toks+([]:List (Str×Value)).length } ->
   codeAny (model X.prog X.w) X.A (.compLoop (.ListComp Nv [⟨tg,iter,Kr,0⟩] scope pos) 0 (.ref it) (.ref s2.heap.objs.size) (compEnvC scope cl G2.objs.size X.env))
    (RR (.ref s2.heap.objs.size) G2.objs.size) s₃:=by
  rintro s₃ rfl;refine qk (fun n s'=>∃i σ' H',Inv (aU X nm scope own cl G2.objs.size { s2 with heap:=G2 } (upd H2 s2.heap.objs.size (.lst [])) fp) [] σ' H' s'/\tn i s'.heap/\(∀b∈fp,H' b=none)/\W i n σ' H') ?_ m0
   ⟨0,_,_,I4,st4,OX,w0⟩
  rintro n s5 ⟨i,σ5,H5,I5,st5,fr5,w5⟩;rcases turn i n σ5 H5 w5 with⟨stop,q⟩ | ⟨go,step⟩
  ·refine wpAny_mono (T.done (aU X nm scope own cl G2.objs.size { s2 with heap:=G2 } (upd H2 s2.heap.objs.size (.lst [])) fp) rfl rfl rfl hc i [] s5 σ5 H5 (fun _ _=>False) I5 (stat fr5) st5 stop) (fun r s6 hr6=>?_) no;obtain⟨hr,I6⟩:=hr6;subst hr;have I7:Inv X qL σ H5 s6:=I3.L0 (ch:=fp) I6.os I6.base I6.hok I6.bare fun b hb=>⟨(f2 b hb).2.2.2.1,(f2 b hb).2.1,(f2 b hb).2.2.2.2.1,(f2 b hb).2.2.2.2.2⟩;refine OU _ _ H5 s6 I7 I6.free (RO (show X.env.locals<G2.objs.size from I3.lt)) I3.sz (fun x c e=>?_) (fun p hp=>?_) (let ⟨m,hn,_⟩:=I6.loc;⟨m,hn⟩) q
   ·obtain⟨v,z⟩:=I3.cell x c e;exact QF z.lt
   ·exact QF (Qh (I3.pin p hp).1)
  ·refine wpAny_mono (T.item (aU X nm scope own cl G2.objs.size { s2 with heap:=G2 } (upd H2 s2.heap.objs.size (.lst [])) fp) rfl rfl rfl hc i [] s5 σ5 H5 (fun _ _=>False) I5 (stat fr5) st5 go) (fun r s6 hr6=>?_) no;obtain⟨u,hr,h6⟩:=hr6;subst hr;refine wpAny_mono h6 (fun _ s7 h7=>?_) no;obtain⟨x,H7,I7,r7,y7,st7,fr7⟩:=h7;have I7':=I7.pinned (stat fr7) (T.obj _ _ st7);have again:∀{s9:Shared} {σ9:L2.St} {H9:Hp} {m':Nat},m'<n->Inv (aU X nm scope own cl G2.objs.size { s2 with heap:=G2 } (upd H2 s2.heap.objs.size (.lst [])) fp) ([]++kZ fp s7.heap) σ9 H9 s9->W (i+1) m' σ9 H9 ->
     ∃m,m<n/\∃i σ' H',Inv (aU X nm scope own cl G2.objs.size { s2 with heap:=G2 } (upd H2 s2.heap.objs.size (.lst [])) fp) [] σ' H' s9/\tn i s9.heap/\(∀b∈fp,H' b=none)/\W i m σ' H':=fun {s9 σ9 H9 m'} hm I9 w9=>by
    refine⟨m',hm,i+1,σ9,H9,I9.iO,T.keep _ _ _ st7 fun b hb o e=>(I9.pin (b,o) (QH _ (QH _ (dW hb e)))).1,fun b hb=>?_,w9⟩;obtain⟨o,e,d⟩:=T.obj _ _ st7 b hb;exact(I9.pin (b,o) (QH _ (QH _ (dW hb e)))).2.1
   refine wpAny_mono (hg cl G2.objs.size _ _ fp _ s7 σ5 H7 x u _ I7' r7 (step x H7 y7)) (fun _ s8 h8=>?_) no;obtain⟨σ8,H8,I8,q8⟩:=h8;refine wpAny_mono (ht cl G2.objs.size _ _ fp _ s8 σ8 H8 _ I8 q8) (fun b s9 h9=>?_) no;obtain⟨H9,I9,q9⟩:=h9;cases b with
   |false=>rw[if_neg QE]at q9 ⊢;obtain⟨m',hm,w9⟩:=q9;exact again hm I9 w9
   |true=>rw[if_pos rfl]at q9 ⊢;refine wpAny_mono (he cl G2.objs.size _ _ fp _ s9 σ8 H9 _ I9 q9) (fun y s10 h10=>?_) no;obtain⟨yv,H10,I10,r10,En,hacc,zo,m',hm,w10⟩:=h10;refine wpAny_mono (cV (X:=aU X nm scope own cl G2.objs.size { s2 with heap:=G2 } (upd H2 s2.heap.objs.size (.lst [])) fp) _ s10 σ8 H10 (.ref s2.heap.objs.size) [yv] (.ref s2.heap.objs.size) [y] (fun _ H'=>H'=upd H10 s2.heap.objs.size (.lst (En++[yv]))) I10 rfl (.cons r10 .nil) ⟨_,En,yv,rfl,rfl,hacc,zo,rfl⟩) (fun _ s11 h11=>?_) no;obtain⟨_,H11,I11,_,e11⟩:=h11;subst e11;exact again hm I11 w10
 exact codeAny_compStart_list (Fz _ rfl) (T.self _ 0 _ _ _ st4 (Fz _ rfl))
theorem wO(hc:X.calm=true)(S:cD X nm scope)(hi:PI X tg iter wi)
  (hg:∀cl C s H fp,PG (aU X nm scope own cl C s H fp) tg g) (ht:∀cl C s H fp,PTs (aU X nm scope own cl C s H fp) Kr tt) (he:∀cl C s H fp,PE (aU X nm scope own cl C s H fp) Nv te)
  (hs:∀x,foldedSetIterable iter X.env x=pure x:=by intro _;rfl):PE X (.ListComp Nv [⟨tg,iter,Kr,0⟩] scope pos) (tLC wi own.length g tt te):=by
 intro qL s σ H Q I h;obtain⟨cl,hclos,lH,yU⟩:=lG (env:=X.env) (scope:=scope) fun y hy hf=>I.ok.has y.1 (S.free y hy hf);rw[eval_ListComp];refine wpAny_comprehension_free (use:=none) rfl hs hclos S.kind S.names (thn (hi qL s σ H _ I h) fun v s1 h1=>thn h1 fun itv s2 h2=>?_);obtain⟨it,fp,tn,J,H2,e,I2,T,st2,f2,hR⟩:=h2;subst e;refine o_ (Q:=Q) (RR:=fun En C=>compPost (model X.prog X.w) X.A X.xe none (EP X qL σ Q) En C) hc S lH yU hg ht he I2 T st2 f2 hR ?_;intro D C H6 s6 I6 hCn hCL hCs hCc hCp hns q;obtain⟨m,hn⟩:=hns;refine⟨m,hn,fun h' hs'=>⟨.ref D,H6,I6.turned (t':=s6.toks) (fun b o hb e=>(hs'.2 b hb).trans e) hCn hCL (.inr hCs) hCc hCp,rfl,q⟩⟩
theorem dD{i:Nat}{y:Str}{py Nx:Pos}(hN:X.N.Nodup)(hi':X.N[i]?=some y)(hy:Loc X.env.scope y)(hc:X.calm=true)(S:cD X nm scope)(hi:PI X tg iter wi)
  (hg:∀cl C s H fp,PG (aU X nm scope own cl C s H fp) tg g) (ht:∀cl C s H fp,PTs (aU X nm scope own cl C s H fp) Kr tt) (he:∀cl C s H fp,PE (aU X nm scope own cl C s H fp) Nv te)
  (hsw:swapsWith (.ListComp Nv [⟨tg,iter,Kr,0⟩] scope pos) (some (.Name y py)) Nx.line X.env=pure true:=by rfl)
  (hs:∀x,foldedSetIterable iter X.env x=pure x:=by intro _;rfl) (hf:X.fn y=true\/X.env.scope.names.lookup y=some .local:=by trivial) :
  PS X (.Assign [.Name y py] (.ListComp Nv [⟨tg,iter,Kr,0⟩] scope pos) Nx) (kD (tLC wi own.length g tt te) (b7 i)):=by
 intro qL s σ H Dn I h;obtain⟨cl,hclos,lH,yU⟩:=lG (env:=X.env) (scope:=scope) fun y hy hf=>I.ok.has y.1 (S.free y hy hf);rw[exec_Assign_Name_used _ _ _ _ hsw];refine wpAny_bind (wpAny_standAt (wpAny_bind ?_));show wpAny _ X.A (do let _ <- comprehension (.ListComp Nv [⟨tg,iter,Kr,0⟩] scope pos) scope X.env _ (newList []) false (eval iter X.env) (some (assign (.Name y py) X.env))) _ _ s;refine wpAny_bind (wpAny_mono (wpAny_comprehension_free (use:=some (assign (.Name y py) X.env)) (Q:=fun _ s'=>SP X qL Dn .next s') rfl hs hclos S.kind S.names
  (thn (hi qL s σ H _ I h) fun v s1 h1=>thn h1 fun itv s2 h2=>?_)) (fun _ s' hq=>wpAny_pure (wpAny_pure hq)) fun _ _ e=>e)
 obtain⟨it,fp,tn,J,H2,e,I2,T,st2,f2,hR⟩:=h2;subst e;refine o_ (Q:=fun x H1=>b7 i x σ H1 Dn.nx) (RR:=fun En C=>compPost (model X.prog X.w) X.A X.xe (some (assign (.Name y py) X.env)) (fun _ s'=>SP X qL Dn .next s') En C) hc S lH yU hg ht he I2 T st2 f2 hR ?_;intro D C H6 s6 I6 hCn hCL hCs hCc hCp hns q;obtain⟨m,hn⟩:=hns;show wpAny _ X.A (assign (.Name y py) X.env (.ref D)) _ _ _;refine wpAny_assign_Name (oS I6 hN hi' hy (v:=.ref D) rfl (fun s7 I7 h7=>?_) hf);obtain⟨a,sb,ha⟩:=h7;have hCa:C≠a:=by
  rcases ha with ha | ha
  ·rw[ha];exact hCL
  ·exact Ne.symm (hCc y a ha)
 refine⟨m,hn.sameBut sb hCa,fun h' hs'=>⟨_,H6,I7.turned (t':=s7.toks) (fun b o hb e=>(hs'.2 b hb).trans e) hCn hCL (.inr hCs) hCc hCp,q⟩⟩
end
mutual
noncomputable def toPy:Dat->PyData
 |.non=>.none
 |.bl b=>.bool b
 |.int i=>.int i
 |.str s=>.str ⟨s.toArray⟩
 |.tup xs=>.tuple (bQ xs)
 |.lst xs=>.list (bQ xs)
 |.dct _ _=>.dict []
 |.dcp _ _=>.dict []
 |.exc _=>.dict []
 |.fn _=>.dict []
noncomputable def bQ:List Dat->List PyData
 |[]=>[]
 |x::xs=>toPy x::bQ xs
end
mutual
theorem iZ:∀a b:Dat,PyData.eqv (toPy a) (toPy b)=Dm.eqD a b
 |.non,b=>by cases b<;>simp[toPy,PyData.eqv,Dm.eqD]
 |.bl x,b=>by cases b<;>simp[toPy,PyData.eqv,Dm.eqD,Dm.b2i]
 |.int x,b=>by cases b<;>simp[toPy,PyData.eqv,Dm.eqD,Dm.b2i]
 |.str x,b=>by
  cases b with
  |str y=>
   simp only[toPy,PyData.eqv,Dm.eqD];rw[Sa];simp only[beq_iff_eq];constructor
   ·intro h;have h:=congrArg (fun s:Str=>s.cps.toList) h
    simpa using h
   ·rintro rfl;rfl
  |_=>simp[toPy,PyData.eqv,Dm.eqD]
 |.tup xs,b=>by
  cases b with
  |tup ys=>simp only[toPy,PyData.eqv,Dm.eqD];exact jD xs ys
  |_=>simp[toPy,PyData.eqv,Dm.eqD]
 |.lst xs,b=>by
  cases b with
  |lst ys=>simp only[toPy,PyData.eqv,Dm.eqD];exact jD xs ys
  |_=>simp[toPy,PyData.eqv,Dm.eqD]
 |.dct ks vs,b=>by cases b<;>simp[toPy,PyData.eqv,Dm.eqD]
 |.dcp ks vs,b=>by cases b<;>simp[toPy,PyData.eqv,Dm.eqD]
 |.exc C,b=>by cases b<;>simp[toPy,PyData.eqv,Dm.eqD]
 |.fn C,b=>by cases b<;>simp[toPy,PyData.eqv,Dm.eqD]
theorem jD:∀a b:List Dat,SJ (bQ a) (bQ b)=Dm.jy a b
 |[],b=>by cases b<;>simp[bQ,SJ,Dm.jy]
 |x::xs,b=>by
  cases b with
  |nil=>simp[bQ,SJ,Dm.jy]
  |cons y ys=>simp only[bQ,SJ,Dm.jy];rw[iZ x y,jD xs ys]
end
theorem AH{s:List Nat}(h:(s.all fun c=>decide (c<128))=true):PyData.strOk ⟨s.toArray⟩=true:=by unfold PyData.strOk;rw[Array.all_eq_true'];intro c hc;have h1:=Q3.mp h c (by simpa using hc);have h2:c<128:=of_decide_eq_true h1;exact decide_eq_true (by lia)
theorem bR{P:Program}{w:World}{H:Hp}{h:Heap}(ok:HOk P w H h):∀(n:Nat),
  (∀(v:V) (d:Dat) (u:Value),Rep H v d->RelV v u->Dm.okD n d=true->∃as,Reads h u (toPy d) as/\(toPy d).canLay0=true/\(toPy d).depth<=n) /\
  (∀(vs:List V) (ds:List Dat) (us:List Value),aC H vs ds->Vals vs us->ds.all (Dm.okD n)=true->∃as,ReadsAll h us (bQ ds) as/\SO (bQ ds)=true/\RK (bQ ds)<=n):=by
 intro n
 induction n with
 |zero=>
  have one:∀(v:V) (d:Dat) (u:Value),Rep H v d->RelV v u->Dm.okD 0 d=true->∃as,Reads h u (toPy d) as/\(toPy d).canLay0=true/\(toPy d).depth<=0:=by
   intro v d u r rv k;cases r with
   |non=>cases rv;exact⟨_,.none,rfl,Qf _⟩
   |bl b=>cases rv;exact⟨_,.bool b,rfl,Qf _⟩
   |int i=>obtain⟨t,rfl⟩:=rv;exact⟨_,.int i t,rfl,Qf _⟩
   |str s=>obtain⟨t,rfl⟩:=rv;exact⟨_,.str _ t,AH k,Qf _⟩
   |tup _ _=>cases k
   |lst _ _=>cases k
   |dct _ _ _=>cases k
   |dcp _ _ _=>cases k
   |exc _=>cases k
   |fn _=>cases k
  refine⟨one,fun vs ds=>?_⟩
  induction ds generalizing vs with
  |nil=>intro us r rv _;cases r;cases rv;exact⟨_,.nil,rfl,Qf _⟩
  |cons d ds ih=>
   intro us r rv k;cases r with
   |cons r rs=>
    cases rv with
    |cons q qs=>rw[SK,QJ]at k;obtain⟨a1,h1,h2,h3⟩:=one _ _ _ r q k.1;obtain⟨a2,h4,h5,h6⟩:=ih _ _ rs qs k.2;exact⟨_,.cons h1 h4,by simp[bQ,SO,h2,h5],by simp only[bQ,RK];lia⟩
 |succ n ih=>
  have one:∀(v:V) (d:Dat) (u:Value),Rep H v d->RelV v u->Dm.okD (n+1) d=true->∃as,Reads h u (toPy d) as/\(toPy d).canLay0=true/\(toPy d).depth<=n+1:=by
   intro v d u r rv k;cases r with
   |non=>cases rv;exact⟨_,.none,rfl,QM _⟩
   |bl b=>cases rv;exact⟨_,.bool b,rfl,QM _⟩
   |int i=>obtain⟨t,rfl⟩:=rv;exact⟨_,.int i t,rfl,QM _⟩
   |str s=>obtain⟨t,rfl⟩:=rv;exact⟨_,.str _ t,AH k,QM _⟩
   |tup q rs=>cases rv;obtain⟨z,its,vr,ob,e,hc,m,hd⟩:=ok _ _ q;obtain⟨as,h1,h2,h3⟩:=ih.2 _ _ _ rs vr k;exact⟨_,.tuple e hc hd h1,h2,by simp only[toPy,PyData.depth];lia⟩
   |lst q rs=>cases rv;obtain⟨z,its,m,vr,e⟩:=q.ok ok;obtain⟨as,h1,h2,h3⟩:=ih.2 _ _ _ rs vr k;exact⟨_,.list e rfl rfl h1,h2,by simp only[toPy,PyData.depth];lia⟩
   |dct _ _ _=>cases k
   |dcp _ _ _=>cases k
   |exc _=>cases k
   |fn _=>cases k
  refine⟨one,fun vs ds=>?_⟩
  induction ds generalizing vs with
  |nil=>intro us r rv _;cases r;cases rv;exact⟨_,.nil,rfl,QM _⟩
  |cons d ds ih=>
   intro us r rv k;cases r with
   |cons r rs=>
    cases rv with
    |cons q qs=>rw[SK,QJ]at k;obtain⟨a1,h1,h2,h3⟩:=one _ _ _ r q k.1;obtain⟨a2,h4,h5,h6⟩:=ih _ _ rs qs k.2;exact⟨_,.cons h1 h4,by simp[bQ,SO,h2,h5],by simp only[bQ,RK];lia⟩
theorem jB.full{H0 H:Hp}(s:aq H0 H){v:V}{d:Dat}(r:jB H0 H v d):Rep H v d:=by
 rcases r with r | ⟨a,rfl,w⟩
 ·exact r.mono s
 ·cases d with
  |lst ds=>obtain⟨xs,q,rs⟩:=w;exact .lst (.inl q) (rs.mono s)
  |dct ks ds=>obtain⟨kvs,q,e,rs⟩:=w;exact .dct q e (rs.mono s)
  |dcp ks ds=>obtain⟨kvs,q,e,rs⟩:=w;exact .dcp q (e.mono s) (rs.mono s)
  |_=>exact QN w
def AI(neg:Bool):R2:=fun x y H Q=>∃dx dy,Rep H x dx/\Rep H y dy/\Dm.okD 8 dx=true/\Dm.okD 8 dy=true/\Q (.bl (if neg then !Dm.eqD dx dy else Dm.eqD dx dy)) H
section
variable{X:Cx}
section
variable{k:Nat}
theorem vc(hr:bf k X.A):OpR X (compareOp .Eq) (AI false):=by intro qL s σ H x y v u Q I rx ry h;obtain⟨dx,dy,r1,r2,k1,k2,q⟩:=h;obtain⟨as,h1,h2,h3⟩:=(bR I.hok 8).1 x dx v r1 rx k1;obtain⟨bs,h4,h5,h6⟩:=(bR I.hok 8).1 y dy u r2 ry k2;have hu:=hr.units;refine PySem.SeqAt.compareEq_reads h1 h4 h2 h5 (by lia) ?_;rw[iZ];exact⟨.bl (Dm.eqD dx dy),H,I,rfl,q⟩
theorem AJ(hr:bf k X.A):OpR X (compareOp .NotEq) (AI true):=by intro qL s σ H x y v u Q I rx ry h;obtain⟨dx,dy,r1,r2,k1,k2,q⟩:=h;obtain⟨as,h1,h2,h3⟩:=(bR I.hok 8).1 x dx v r1 rx k1;obtain⟨bs,h4,h5,h6⟩:=(bR I.hok 8).1 y dy u r2 ry k2;have hu:=hr.units;refine PySem.SeqAt.compareNe_reads h1 h4 h2 h5 (by lia) ?_;rw[iZ];exact⟨.bl (!Dm.eqD dx dy),H,I,rfl,q⟩
def Es(neg:Bool):R2:=fun x y H Q=>∃dx ds,Rep H x dx/\(Rep H y (.lst ds)\/Rep H y (.tup ds))/\Dm.okD 8 dx=true/\ds.all (Dm.okD 7)=true/\Q (.bl (if neg then !Dm.inD dx ds else Dm.inD dx ds)) H
theorem fu(x:Dat):∀ds:List Dat,((bQ ds).any fun y=>PyData.eqv y (toPy x))=Dm.inD x ds
 |[]=>rfl
 |d::ds=>by have:=fu x ds;unfold Dm.inD at this ⊢;simp only[bQ,RB,iZ];rw[this]
theorem Jd(hr:bf k X.A):OpR X (compareOp .In) (Es false):=by
 intro qL s σ H x y v u Q I rx ry h;obtain⟨dx,ds,r1,r2,k1,k2,q⟩:=h;obtain⟨as,h1,h2,h3⟩:=(bR I.hok 8).1 x dx v r1 rx k1;have hu:=hr.units;rcases r2 with r2 | r2
 ·obtain⟨bs,h4,h5,h6⟩:=(bR I.hok 8).1 y (.lst ds) u r2 ry k2;have h6:RK (bQ ds)+1<=8:=h6;refine PySem.SeqAt.in_list_reads h4 h1 h5 h2 (by lia) ?_;rw[fu];exact⟨.bl (Dm.inD dx ds),H,I,rfl,q⟩
 ·obtain⟨bs,h4,h5,h6⟩:=(bR I.hok 8).1 y (.tup ds) u r2 ry k2;have h6:RK (bQ ds)+1<=8:=h6;refine PySem.SeqAt.in_tuple_reads h4 h1 h5 h2 (by lia) ?_;rw[fu];exact⟨.bl (Dm.inD dx ds),H,I,rfl,q⟩
theorem yV(hr:bf k X.A):OpR X (compareOp .NotIn) (Es true):=by
 intro qL s σ H x y v u Q I rx ry h;obtain⟨dx,ds,r1,r2,k1,k2,q⟩:=h;obtain⟨as,h1,h2,h3⟩:=(bR I.hok 8).1 x dx v r1 rx k1;have hu:=hr.units;rcases r2 with r2 | r2
 ·obtain⟨bs,h4,h5,h6⟩:=(bR I.hok 8).1 y (.lst ds) u r2 ry k2;have h6:RK (bQ ds)+1<=8:=h6;refine PySem.SeqAt.notIn_list_reads h4 h1 h5 h2 (by lia) ?_;rw[fu];exact⟨.bl (!Dm.inD dx ds),H,I,rfl,q⟩
 ·obtain⟨bs,h4,h5,h6⟩:=(bR I.hok 8).1 y (.tup ds) u r2 ry k2;have h6:RK (bQ ds)+1<=8:=h6;refine PySem.SeqAt.notIn_tuple_reads h4 h1 h5 h2 (by lia) ?_;rw[fu];exact⟨.bl (!Dm.inD dx ds),H,I,rfl,q⟩
end
end
section
variable{H0 H:Hp}{ds:List Dat}{v:V}
theorem az{i:Int}(r:jB H0 H v (.int i)):v=.int i:=by
 rcases r with r | ⟨a,_,w⟩
 ·exact Rep.isInt r
 ·exact QN w
theorem wQ{b:Bool}(r:jB H0 H v (.bl b)):v=.bl b:=by
 rcases r with r | ⟨a,_,w⟩
 ·exact Rep.qi r
 ·exact QN w
theorem bq(s:aq H0 H)(r:jB H0 H v (.lst ds)):∃a xs,v=.ref a/\Rd H a (.lst xs)/\aC H0 xs ds:=by
 rcases r with r | ⟨a,e,xs,q,rs⟩
 ·cases r with
  |lst q rs=>exact⟨_,_,rfl,aq.rd s q,rs⟩
 ·exact⟨a,xs,e,.inl q,rs⟩
theorem dQ(s:aq H0 H)(r:jB H0 H v (.tup ds)):∃a xs,v=.ref a/\H a=some (.tup xs)/\aC H0 xs ds:=by
 rcases r with r | ⟨a,_,w⟩
 ·cases r with
  |tup q rs=>exact⟨_,_,rfl,s _ _ q,rs⟩
 ·exact QN w
theorem Je:OpD (rI0 fun i j=>.int (i-j)) Dm.jq:=by
 intro H0 H x y dx dy z Q s rx ry e k;unfold Dm.jq at e;split at e
 ·cases e;cases az rx;cases az ry;exact⟨_,_,rfl,rfl,k _ H0 H (aK.refl s) (.int _)⟩
 ·cases e
theorem GB:OpD (rI0 fun i j=>.bl (decide (i<j))) Dm.gLt:=by
 intro H0 H x y dx dy z Q s rx ry e k;unfold Dm.gLt at e;split at e
 ·cases e;cases az rx;cases az ry;exact⟨_,_,rfl,rfl,k _ H0 H (aK.refl s) (.bl _)⟩
 ·cases e
theorem AK:OpD (rI0 fun i j=>.bl (decide (i<=j))) Dm.gLe:=by
 intro H0 H x y dx dy z Q s rx ry e k;unfold Dm.gLe at e;split at e
 ·cases e;cases az rx;cases az ry;exact⟨_,_,rfl,rfl,k _ H0 H (aK.refl s) (.bl _)⟩
 ·cases e
theorem GC:OpD (rI0 fun i j=>.bl (decide (j<i))) Dm.gGt:=by
 intro H0 H x y dx dy z Q s rx ry e k;unfold Dm.gGt at e;split at e
 ·cases e;cases az rx;cases az ry;exact⟨_,_,rfl,rfl,k _ H0 H (aK.refl s) (.bl _)⟩
 ·cases e
theorem MI:OpD (rI0 fun i j=>.bl (decide (j<=i))) Dm.gGe:=by
 intro H0 H x y dx dy z Q s rx ry e k;unfold Dm.gGe at e;split at e
 ·cases e;cases az rx;cases az ry;exact⟨_,_,rfl,rfl,k _ H0 H (aK.refl s) (.bl _)⟩
 ·cases e
theorem Jf:OpD (rI (fun _ j=>0<j) fun i j=>.int (i % j)) Dm.fW:=by
 intro H0 H x y dx dy z Q s rx ry e k;unfold Dm.fW at e;split at e
 ·split at e
  ·rename_i hj;cases e;cases az rx;cases az ry;exact⟨_,_,rfl,rfl,hj,k _ H0 H (aK.refl s) (.int _)⟩
  ·cases e
 ·cases e
theorem Jg:OpD (rI Mb fun i j=>.int (i ^ j.toNat)) Dm.gn:=by
 intro H0 H x y dx dy z Q s rx ry e k;unfold Dm.gn at e;split at e
 ·split at e
  ·rename_i hj;cases e;cases az rx;cases az ry;exact⟨_,_,rfl,rfl,⟨hj.1,hj.2.1,Nat.lt_trans hj.2.2 (by decide)⟩,k _ H0 H (aK.refl s) (.int _)⟩
  ·cases e
 ·cases e
end
section
variable{X:Cx}
def GD(i j:Int):Prop:=0<j/\j<Dm.fh
theorem AL:OpR X (binaryOp .FloorDiv) (rI GD fun i j=>.int (i / j)):=opI fun i j _ _ _ _ _ hc q=>by
 have h:j.natAbs.log2<9000:=by
  have h1:j.natAbs<2 ^ 200:=by
   have:=hc.2;unfold Dm.fh at this;have h2:=hc.1;have e:(2:Nat) ^ 200=1606938044258990275541962092341162602522202993782792835301376:=by decide +kernel
   omega
  have h3:j.natAbs≠0:=by have:=hc.1;omega
  have:=(Nat.log2_lt h3).mpr h1;omega
 have e:i.fdiv j=i / j:=Int.fdiv_eq_ediv_of_nonneg i (Int.le_of_lt hc.1);rw[<- e]at q;exact floordiv_int (Int.ne_of_gt hc.1) q (.inl (PyProof.noPylong_of_log2 h))
end
theorem Jh:OpD (rI GD fun i j=>.int (i / j)) Dm.yQ:=by
 intro H0 H x y dx dy z Q s rx ry e k;unfold Dm.yQ at e;split at e
 ·split at e
  ·rename_i hj;cases e;cases az rx;cases az ry;exact⟨_,_,rfl,rfl,hj,k _ H0 H (aK.refl s) (.int _)⟩
  ·cases e
 ·cases e
theorem Ji:UnD (rU fun i=>.int (-i)) Dm.Az:=by
 intro H0 H x dx z Q s rx e k;unfold Dm.Az at e;split at e
 ·cases e;cases az rx;exact⟨_,rfl,k _ H0 H (aK.refl s) (.int _)⟩
 ·cases e
def AM:R2:=fun x y H Q=>∃l b xs zs,x=.ref l/\y=.ref b/\Rd H l (.lst xs)/\Rd H b (.lst zs)/\xs.length+zs.length<=sizeLine/\∀p,H p=none->Q (.ref p) (upd H p (.lst (xs++zs)))
def AO:R2:=fun x y H Q=>∃l k xs,x=.ref l/\y=.int k/\Rd H l (.lst xs)/\-(2 ^ 63)<=k/\k<2 ^ 63/\xs.length*k.toNat<=sizeLine /\
 ∀p,H p=none->Q (.ref p) (upd H p (.lst (Qd k.toNat xs).flatten))
section
variable{X:Cx}
theorem Et:OpR X (binaryOp .Add) AM:=by
 intro qL s σ H x y v u Q I rx ry h;obtain⟨l,b,xs,zs,rfl,rfl,hH,hB,hz,q⟩:=h;cases rx;cases ry;obtain⟨z,its,n,r,e⟩:=hH.ok I.hok;obtain⟨z2,its2,n2,r2,e2⟩:=hB.ok I.hok;have hl:=r.length;have hl2:=r2.length;refine PySem.P.add_list e e2 ?_ (by rw[Qj,Qj];lia);have ea:its.toArray++its2.toArray=(its++its2).toArray:=by simp
 rw[ea];exact⟨.ref _,_,I.IT (t':=s.toks) (r.append r2) (by rw[Qn];lia),rfl,q _ I.fresh⟩
theorem Eu:OpR X (binaryOp .Mult) AO:=by
 intro qL s σ H x y v u Q I rx ry h;obtain⟨l,k,xs,rfl,rfl,hH,h1,h2,hz,q⟩:=h;cases rx;obtain⟨t,rfl⟩:=ry;obtain⟨z,its,n,r,e⟩:=hH.ok I.hok;have hl:=r.length;have zo:its.toArray.size*k.toNat<=sizeLine:=by rw[Qj,<- hl];exact hz
 have hcap:¬its.toArray.size*k.toNat>(2 ^ 63-1) / 8:=by
  have:(sizeLine:Nat)<=(2 ^ 63-1) / 8:=by decide
  lia
 have hfit:¬(!Builtin.List.listFitsIndex k)=true:=by rw[fitsIndex_both h1 h2];exact QE
 have MJ:¬Sf (its.toArray.size*k.toNat)=true:=by rw[Al zo];exact QE
 have hnew:Ti (fun x1 x2=>x1++x2) #[] (Qd (if its.toArray.isEmpty=true then 0 else k.toNat) its.toArray)=(Qd k.toNat its).flatten.toArray:=by
  have f0:∀m:Nat,Ti (fun x1 x2=>x1++x2) #[] (Qd m its.toArray)=(Qd m its).flatten.toArray:=fun m=>by have:=foldl_rep its m [];rw[Ry]at this;exact this
  rw[f0];cases its with
  |nil=>simp
  |cons a r'=>rw[if_neg (by simp)]
 refine wpAny_binaryOp_repeat_ref (T := "list") (U := "int") (by decide) ⟨_,e,rfl⟩ (fun s'=>typeIs_int s' k t) noFill_list_mul F.fills_int_mul F.slot_int_rmul repeat_list F.slot_int_index.lookup
  (call_meets F.slot_int_rmul (typeIs_int s k t) F.entry_int_rmul (F.args_int_rmul_2 _ _) (int___rmul___int_list k t l its.toArray n)
   ⟨e,rfl,⟨_,e,rfl⟩,call_meets F.slot_list_mul ⟨_,e,rfl⟩ F.entry_list_mul (F.args_list_mul_2 _ _) (AutoListH.list___mul___list_int_3 l its.toArray n k t hfit hcap MJ) ⟨e,?_⟩⟩)
 rw[hnew];exact⟨.ref _,_,I.IT (t':=s.toks) (r.rep k.toNat) (by rw[len_rep,Nat.mul_comm];exact hz),rfl,q _ I.fresh⟩
theorem Ew:OpR X (binaryOp .Add) (fun x y H Q=>rI0 (fun i j=>.int (i+j)) x y H Q\/AM x y H Q):=Iz.or Et
theorem Ex:OpR X (binaryOp .Mult) (fun x y H Q=>rI Aa (fun i j=>.int (i*j)) x y H Q\/AO x y H Q):=IB.or Eu
end
theorem Jj:OpD (fun x y H Q=>rI0 (fun i j=>.int (i+j)) x y H Q\/AM x y H Q) Dm.bA:=by
 intro H0 H x y dx dy z Q s rx ry e k;unfold Dm.bA at e;split at e
 ·cases e;cases az rx;cases az ry;exact .inl ⟨_,_,rfl,rfl,k _ H0 H (aK.refl s) (.int _)⟩
 ·split at e
  ·rename_i hz;cases e;obtain⟨a,us,rfl,qa,ra⟩:=bq s rx;obtain⟨b,ws,rfl,qb,rb⟩:=bq s ry;refine .inr ⟨a,b,us,ws,rfl,rfl,qa,qb,by rw[ra.length,rb.length];exact iV hz,fun p hp=>?_⟩;exact k _ _ _ (aK.lB s hp) ⟨p,rfl,hp,s.free hp,_,ao,ra.append rb⟩
  ·cases e
 ·cases e
theorem Jk:OpD (fun x y H Q=>rI Aa (fun i j=>.int (i*j)) x y H Q\/AO x y H Q) Dm.gm:=by
 intro H0 H x y dx dy z Q s rx ry e k;unfold Dm.gm at e;split at e
 ·split at e
  ·rename_i hj;cases e;cases az rx;cases az ry;exact .inl ⟨_,_,rfl,rfl,hj,k _ H0 H (aK.refl s) (.int _)⟩
  ·cases e
 ·split at e
  ·rename_i hz;cases e;cases az ry;obtain⟨a,us,rfl,qa,ra⟩:=bq s rx;obtain⟨h1,h2,h3⟩:=hz;unfold Dm.BIG at h1 h2;refine .inr ⟨a,_,us,rfl,rfl,qa,by lia,by lia,by rw[ra.length];exact iV h3,fun p hp=>?_⟩;exact k _ _ _ (aK.lB s hp) ⟨p,rfl,hp,s.free hp,_,ao,ra.rep _⟩
  ·cases e
 ·cases e
theorem GF:OpD (AI false) Dm.gEq:=by
 intro H0 H x y dx dy z Q s rx ry e k;unfold Dm.gEq at e;split at e
 ·rename_i hk;rw[QJ]at hk;cases e;exact⟨dx,dy,rx.full s,ry.full s,hk.1,hk.2,k _ H0 H (aK.refl s) (.bl _)⟩
 ·cases e
theorem GG:OpD (AI true) Dm.gNe:=by
 intro H0 H x y dx dy z Q s rx ry e k;unfold Dm.gNe at e;split at e
 ·rename_i hk;rw[QJ]at hk;cases e;exact⟨dx,dy,rx.full s,ry.full s,hk.1,hk.2,k _ H0 H (aK.refl s) (.bl _)⟩
 ·cases e
theorem MK:OpD (Es false) Dm.gIn:=by
 intro H0 H x y dx dy z Q s rx ry e k;unfold Dm.gIn at e;split at e
 ·split at e
  ·rename_i hk;rw[QJ]at hk;cases e;exact⟨dx,_,rx.full s,.inl (ry.full s),hk.1,hk.2,k _ H0 H (aK.refl s) (.bl _)⟩
  ·cases e
 ·split at e
  ·rename_i hk;rw[QJ]at hk;cases e;exact⟨dx,_,rx.full s,.inr (ry.full s),hk.1,hk.2,k _ H0 H (aK.refl s) (.bl _)⟩
  ·cases e
 ·cases e
theorem AQ:OpD (Es true) Dm.jz:=by
 intro H0 H x y dx dy z Q s rx ry e k;unfold Dm.jz at e;split at e
 ·split at e
  ·rename_i hk;rw[QJ]at hk;cases e;exact⟨dx,_,rx.full s,.inl (ry.full s),hk.1,hk.2,k _ H0 H (aK.refl s) (.bl _)⟩
  ·cases e
 ·split at e
  ·rename_i hk;rw[QJ]at hk;cases e;exact⟨dx,_,rx.full s,.inr (ry.full s),hk.1,hk.2,k _ H0 H (aK.refl s) (.bl _)⟩
  ·cases e
 ·cases e
theorem wR{H0:Hp}{xs:List V}{ds:List Dat}{i:Int}{d:Dat}(rs:aC H0 xs ds)(e:Dm.atI ds i=some d):∃v,L2.atI xs i=some v/\Rep H0 v d:=by
 unfold Dm.atI at e;cases q:Dm.ixN ds.length i with
 |none=>rw[q]at e;cases e
 |some j=>rw[q]at e;obtain⟨v,hv,r⟩:=rs.get (i:=j) e;refine⟨v,?_,r⟩;unfold L2.atI;rw[rs.length];have q':L2.ixN ds.length i=some j:=q;rw[q'];exact hv
theorem ML{K:Ds}:OpD (fun x y H Q=>yJ K x y H Q\/Mg K x y H Q) Dm.gIx:=by
 intro H0 H x y dx dy z Q s rx ry e k;unfold Dm.gIx at e;split at e
 ·rename_i ds i;cases q:Dm.atI ds i with
  |none=>rw[q]at e;cases e
  |some d=>rw[q]at e;cases e;cases az ry;obtain⟨a,us,rfl,qa,ra⟩:=bq s rx;obtain⟨v,hv,rv⟩:=wR ra q;exact .inl ⟨a,us,i,v,rfl,rfl,.inl qa,hv,k _ H0 H (aK.refl s) rv⟩
 ·rename_i ds i;cases q:Dm.atI ds i with
  |none=>rw[q]at e;cases e
  |some d=>rw[q]at e;cases e;cases az ry;obtain⟨a,us,rfl,qa,ra⟩:=dQ s rx;obtain⟨v,hv,rv⟩:=wR ra q;exact .inr ⟨a,us,i,v,rfl,rfl,.inl (.inl qa),hv,k _ H0 H (aK.refl s) rv⟩
 ·cases e
theorem Jl{K:Ds}:CallD (fun xs H Q=>∃p ys,xs=[.ref p]/\(SqL K H p ys\/SqT K H p ys)/\Q (.int ys.length) H) Dm.eW:=by
 intro H0 H vs ds z Q s rs e k;unfold Dm.eW at e;split at e
 ·cases e;cases rs with
  |cons r rr=>cases rr;obtain⟨a,us,rfl,qa,ra⟩:=bq s r;exact⟨a,us,rfl,.inl (.inl qa),k _ H0 H (aK.refl s) (by rw[ra.length];exact .int _)⟩
 ·cases e;cases rs with
  |cons r rr=>cases rr;obtain⟨a,us,rfl,qa,ra⟩:=dQ s r;exact⟨a,us,rfl,.inr (.inl (.inl qa)),k _ H0 H (aK.refl s) (by rw[ra.length];exact .int _)⟩
 ·cases e
theorem Ey:CallD (fun xs H Q=>∃i j,xs=[.int i,.int j]/\Q (.int (if j<i then j else i)) H) Dm.f6:=by
 intro H0 H vs ds z Q s rs e k;unfold Dm.f6 at e;split at e
 ·cases e;cases rs with
  |cons r rr=>
   cases rr with
   |cons r' rr=>cases rr;cases az r;cases az r';exact⟨_,_,rfl,k _ H0 H (aK.refl s) (.int _)⟩
 ·cases e
theorem Ez:CallD (fun xs H Q=>∃i j,xs=[.int i,.int j]/\Q (.int (if j>i then j else i)) H) Dm.jW:=by
 intro H0 H vs ds z Q s rs e k;unfold Dm.jW at e;split at e
 ·cases e;cases rs with
  |cons r rr=>
   cases rr with
   |cons r' rr=>cases rr;cases az r;cases az r';exact⟨_,_,rfl,k _ H0 H (aK.refl s) (.int _)⟩
 ·cases e
theorem EA{K:Ds}:CallD (fun xs H Q=>∃p ys,xs=[.ref p]/\(SqL K H p ys\/SqT K H p ys)/\∀l,H l=none->Q (.ref l) (upd H l (.lst ys))) Dm.rO:=by
 intro H0 H vs ds z Q s rs e k;unfold Dm.rO at e;split at e
 ·cases e;cases rs with
  |cons r rr=>cases rr;obtain⟨a,us,rfl,qa,ra⟩:=bq s r;exact⟨a,us,rfl,.inl (.inl qa),fun p hp=>k _ _ _ (aK.lB s hp) ⟨p,rfl,hp,s.free hp,_,ao,ra⟩⟩
 ·cases e;cases rs with
  |cons r rr=>cases rr;obtain⟨a,us,rfl,qa,ra⟩:=dQ s r;exact⟨a,us,rfl,.inr (.inl (.inl qa)),fun p hp=>k _ _ _ (aK.lB s hp) ⟨p,rfl,hp,s.free hp,_,ao,ra⟩⟩
 ·cases e
theorem AR{K:Ds}:CallD (fun xs H Q=>∃p ys,xs=[.ref p]/\((SqL K H p ys/\∀l,H l=none->Q (.ref l) (upd H l (.tup ys)))\/(SqT K H p ys/\Q (.ref p) H))) Dm.fk:=by
 intro H0 H vs ds z Q s rs e k;unfold Dm.fk at e;split at e
 ·cases e;cases rs with
  |cons r rr=>cases rr;obtain⟨a,us,rfl,qa,ra⟩:=bq s r;refine⟨a,us,rfl,.inl ⟨.inl qa,fun p hp=>?_⟩⟩;have g:=aK.AB (o:=HO.tup us) s hp;exact k _ _ _ g (.tup ao (ra.mono g.s0))
 ·cases e;cases rs with
  |cons r rr=>
   cases rr;rcases r with r | ⟨a,_,w⟩
   ·cases r with
    |tup q rs=>exact⟨_,_,rfl,.inr ⟨.inl (.inl (s _ _ q)),k _ H0 H (aK.refl s) (.tup q rs)⟩⟩
   ·exact QN w
 ·cases e
noncomputable abbrev DS(X:Cx)(st:Stmt)(f:FS):Prop:=PS X st (tDS f)
noncomputable abbrev DSs(X:Cx)(st:List Stmt)(f:FS):Prop:=PSs X st (tDS f)
noncomputable abbrev DI(X:Cx)(tg it:Expr)(f:Dm.FI):Prop:=PI X tg it (tDI f)
theorem PI.weak{X:Cx}{tg it:Expr}{t t':TI}(h:PI X tg it t)(k:∀σ H R,t' σ H R->t σ H R):PI X tg it t':=fun qL s σ H R I q=>h qL s σ H R I (k σ H R q)
section
variable{X:Cx}{a b c e:Expr}{fa fb fc f:FE}{pos:Pos}
section
variable{g:Dat->Dat->Option RV}{k:Nat}{r:List V->Hp->VK->Prop}{Fi:List Expr}{x:Str}{i:Int}
theorem d_v(i:Nat)(hN:X.N[i]?=some x:=by rfl)(hv:Vis X.env.scope x:=by trivial)(hd:(x == ("__debug__" : Str))=false:=by decide)
  (Nt:(x == ("__classdict__" : Str))=false:=by decide):DE X (.Name x pos) (Dm.eV i):=PE.weak (bz hN hv hd Nt) fun _ _ _=>Mq
theorem d_i{j}:DE X (.Constant (.int i) j pos) (Dm.eC (.int i)):=PE.weak Ih fun _ _ _=>kJ fun _=>.int i
theorem d_b{v:Bool}{j}:DE X (.Constant (.bool v) j pos) (Dm.eC (.bl v)):=PE.weak L1 fun _ _ _=>kJ fun _=>.bl v
theorem d_n{j}:DE X (.Constant .none j pos) (Dm.eC .non):=PE.weak Ii fun _ _ _=>kJ fun _=>.non
theorem d_g{t:Tok}(hg:Gl X x)(hm:X.mg x=some (.int i t))(hd:(x == ("__debug__" : Str))=false:=by decide):DE X (.Name x pos) (Dm.eC (.int i)):=
 PE.weak (DY (v:=.int i) hg hm ⟨t,rfl⟩ hd) fun _ _ _=>kJ fun _=>.int i
theorem rT{op:Operator}{r:R2}(o:OpR X (binaryOp op) r)(od:OpD r g)(ha:DE X a fa)(hb:DE X b fb):DE X (.BinOp a op b pos) (Dm.e2 g fa fb):=
 PE.weak (L8 o ha hb) fun _ _ _=>uZ od
theorem aZ(ha:DE X a fa)(hb:DE X b fb):DE X (.BinOp a .Add b pos) (Dm.e2 Dm.bA fa fb):=rT Ew Jj ha hb
theorem pe(ha:DE X a fa)(hb:DE X b fb):DE X (.BinOp a .Sub b pos) (Dm.e2 Dm.jq fa fb):=rT IA Je ha hb
theorem f7(ha:DE X a fa)(hb:DE X b fb):DE X (.BinOp a .Mult b pos) (Dm.e2 Dm.gm fa fb):=rT Ex Jk ha hb
theorem MM(ha:DE X a fa)(hb:DE X b fb):DE X (.BinOp a .FloorDiv b pos) (Dm.e2 Dm.yQ fa fb):=rT AL Jh ha hb
theorem fy(ha:DE X a fa)(hb:DE X b fb):DE X (.BinOp a .Mod b pos) (Dm.e2 Dm.fW fa fb):=rT IC Jf ha hb
theorem i0(ha:DE X a fa)(hb:DE X b fb):DE X (.BinOp a .Pow b pos) (Dm.e2 Dm.gn fa fb):=rT ID Jg ha hb
theorem GH(ha:DE X a fa):DE X (.UnaryOp .USub a pos) (Dm.e1 Dm.Az fa):=PE.weak (L_ IE ha) fun _ _ _=>Mr Ji
theorem jX{op:CmpOp}{r:R2}(o:OpR X (compareOp op) r)(od:OpD r g)(ha:DE X a fa)(hb:DE X b fb)(hm:behindInMarks op b=false):DE X (.Compare a [op] [b] pos) (Dm.e2 g fa fb):=
 PE.weak (D5 o ha hb hm) fun _ _ _=>uZ od
theorem pq{op:CmpOp}{r:R2}(o:OpR X (compareOp op) r)(od:OpD r g)(ha:DE X a fa)(hb:DE X b fb)(hm:behindInMarks op b=false):DT X (.Compare a [op] [b] pos) (Dm.tV (Dm.e2 g fa fb)):=
 PT.weak (wF o ha hb hm) fun σ H Q h=>uZ od (qj h)
theorem MN(hr:bf k X.A)(ha:DE X a fa)(hb:DE X b fb):DE X (.Compare a [.Eq] [b] pos) (Dm.e2 Dm.gEq fa fb):=jX (vc hr) GF ha hb (cC _)
theorem OY(hr:bf k X.A)(ha:DE X a fa)(hb:DE X b fb):DE X (.Compare a [.NotEq] [b] pos) (Dm.e2 Dm.gNe fa fb):=jX (AJ hr) GG ha hb (cC _)
theorem OZ(ha:DE X a fa)(hb:DE X b fb):DE X (.Compare a [.Lt] [b] pos) (Dm.e2 Dm.gLt fa fb):=jX Gr GB ha hb (cC _)
theorem O0(ha:DE X a fa)(hb:DE X b fb):DE X (.Compare a [.LtE] [b] pos) (Dm.e2 Dm.gLe fa fb):=jX Ab AK ha hb (cC _)
theorem O3(ha:DE X a fa)(hb:DE X b fb):DE X (.Compare a [.Gt] [b] pos) (Dm.e2 Dm.gGt fa fb):=jX Gs GC ha hb (cC _)
theorem yN(hr:bf k X.A)(ha:DE X a fa)(hb:DE X b fb)(hm:behindInMarks .In b=false:=by rfl):DE X (.Compare a [.In] [b] pos) (Dm.e2 Dm.gIn fa fb):=jX (Jd hr) MK ha hb hm
theorem MO(hr:bf k X.A)(ha:DE X a fa)(hb:DE X b fb)(hm:behindInMarks .NotIn b=false:=by rfl):DE X (.Compare a [.NotIn] [b] pos) (Dm.e2 Dm.jz fa fb):=jX (yV hr) AQ ha hb hm
theorem ql(hr:bf k X.A)(ha:DE X a fa)(hb:DE X b fb):DT X (.Compare a [.Eq] [b] pos) (Dm.tV (Dm.e2 Dm.gEq fa fb)):=pq (vc hr) GF ha hb (cC _)
theorem lI(hr:bf k X.A)(ha:DE X a fa)(hb:DE X b fb):DT X (.Compare a [.NotEq] [b] pos) (Dm.tV (Dm.e2 Dm.gNe fa fb)):=pq (AJ hr) GG ha hb (cC _)
theorem MP(ha:DE X a fa)(hb:DE X b fb):DT X (.Compare a [.Lt] [b] pos) (Dm.tV (Dm.e2 Dm.gLt fa fb)):=pq Gr GB ha hb (cC _)
theorem Jm(ha:DE X a fa)(hb:DE X b fb):DT X (.Compare a [.Gt] [b] pos) (Dm.tV (Dm.e2 Dm.gGt fa fb)):=pq Gs GC ha hb (cC _)
theorem EB(ha:DE X a fa)(hb:DE X b fb):DT X (.Compare a [.GtE] [b] pos) (Dm.tV (Dm.e2 Dm.gGe fa fb)):=pq Mc MI ha hb (cC _)
theorem aS(ha:DE X a fa)(hb:DE X b fb)(hs:kI b:=by intro _ _;rfl):DE X (.Subscript a b pos) (Dm.e2 Dm.gIx fa fb):=PE.weak (Ak (p_.or IP) ha hb hs) fun _ _ _=>uZ ML
theorem af:DA X [] []:=PA.weak c_ fun _ _ _=>Gz
theorem aa{es:List Expr}{fs:List FE}(h:DE X e f)(r:DA X es fs)(hs:starEach (e::es) X.env=(false,eval e X.env)::starEach es X.env:=by rfl):DA X (e::es) (f::fs):=PA.weak (cR h r hs) fun _ _ _=>qh
theorem fB{es:List Expr}{fs:List FE}{x1}(h:DA X es fs):DE X (.Tuple es x1 pos) (Dm.eU fs):=PE.weak (IJ h) fun _ _ _=>Ms
theorem cN{es:List Expr}{fs:List FE}(h:DA X es fs):DE X (.List es pos) (Dm.dm fs):=PE.weak (jr h) fun _ _ _=>Mt
theorem yW{es:List Expr}{fs:List FE}{g:List Dat->Option RV}{id:String}{p:Pos}(hc:cZ X (.builtin id) r)(cd:CallD r g)(hv:bootBuiltins x=some (.builtin id))(hg:Gl X x)(hm:X.mg x=none)(ha:DA X (e::es) fs)
  (hn:x ≠ "__name__" := by decide) (Ny:(x == ("__debug__" : Str))=false:=by decide) (he:starEach (e::es) X.env=(false,eval e X.env)::starEach es X.env:=by rfl) (Fd:(backTo pos (starEach es X.env)).any (·.1)=false:=by rfl) :
  DE X (.Call (.Name x p) (e::es) [] pos) (Dm.eB g fs):=PE.weak (rG hc hg hm hv ha hn Ny he Fd) fun _ _ _=>El cd
theorem EC{es:List Expr}{fs:List FE}{g:List Dat->Option RV}{T:String}{p:Pos}(hc:cZ X (.type T) r)(cd:CallD r g)(hv:bootBuiltins x=some (.type T))(hg:Gl X x)(hm:X.mg x=none)(ha:DA X (e::es) fs)
  (hn:x ≠ "__name__" := by decide) (Ny:(x == ("__debug__" : Str))=false:=by decide) (he:starEach (e::es) X.env=(false,eval e X.env)::starEach es X.env:=by rfl) (Fd:(backTo pos (starEach es X.env)).any (·.1)=false:=by rfl) :
  DE X (.Call (.Name x p) (e::es) [] pos) (Dm.eB g fs):=PE.weak (yI hc hg hm hv ha hn Ny he Fd) fun _ _ _=>El cd
variable{es:List Expr}{fs:List FE}{p:Pos}
theorem f9(hg:Gl X "len")(hm:X.mg "len" = none)(ha:DA X [e] fs)(he:starEach [e] X.env=[(false,eval e X.env)]:=by rfl)(Fd:(backTo pos (starEach [] X.env)).any (·.1)=false:=by rfl):DE X (.Call (.Name "len" p) [e] [] pos) (Dm.eB Dm.eW fs):=yW qd Jl PySem.boot_len hg hm ha (he:=he) (Fd:=Fd)
theorem jE(hc:X.calm=true)(hg:Gl X "min")(hm:X.mg "min" = none)(ha:DA X [a,b] fs)(he:starEach [a,b] X.env=(false,eval a X.env)::starEach [b] X.env:=by rfl)(Fd:(backTo pos (starEach [b] X.env)).any (·.1)=false:=by rfl):DE X (.Call (.Name "min" p) [a,b] [] pos) (Dm.eB Dm.f6 fs):=yW (yD hc) Ey (by rfl) hg hm ha (he:=he) (Fd:=Fd)
theorem qo(hc:X.calm=true)(hg:Gl X "max")(hm:X.mg "max" = none)(ha:DA X [a,b] fs)(he:starEach [a,b] X.env=(false,eval a X.env)::starEach [b] X.env:=by rfl)(Fd:(backTo pos (starEach [b] X.env)).any (·.1)=false:=by rfl):DE X (.Call (.Name "max" p) [a,b] [] pos) (Dm.eB Dm.jW fs):=yW (yC hc) Ez (by rfl) hg hm ha (he:=he) (Fd:=Fd)
theorem Jo(hg:Gl X "list")(hm:X.mg "list" = none)(ha:DA X [e] fs)(he:starEach [e] X.env=[(false,eval e X.env)]:=by rfl)(Fd:(backTo pos (starEach [] X.env)).any (·.1)=false:=by rfl):DE X (.Call (.Name "list" p) [e] [] pos) (Dm.eB Dm.rO fs):=EC qe EA (by rfl) hg hm ha (he:=he) (Fd:=Fd)
theorem kK(hg:Gl X "tuple")(hm:X.mg "tuple" = none)(ha:DA X [e] fs)(he:starEach [e] X.env=[(false,eval e X.env)]:=by rfl)(Fd:(backTo pos (starEach [] X.env)).any (·.1)=false:=by rfl):DE X (.Call (.Name "tuple" p) [e] [] pos) (Dm.eB Dm.fk fs):=EC oH AR (by rfl) hg hm ha (he:=he) (Fd:=Fd)
theorem aB{F:Addr}{fd:FuncData}{ps:List Str}{g:List Dat->Option RV}(G:aQ X.prog X.w X.K X.mg X.base CX0 k F fd ps (spD g))(hr:bf k X.A)(hg:Gl X x)(hm:X.mg x=some (.ref F))(hk:QY X.K (.ref F)=true)(hb:Binds X.K fd ps [])
  (ha:DA X (e::es) fs) (Ny:(x == ("__debug__" : Str))=false:=by decide) (he:starEach (e::es) X.env=(false,eval e X.env)::starEach es X.env:=by rfl) (Fd:(backTo pos (starEach es X.env)).any (·.1)=false:=by rfl) :
  DE X (.Call (.Name x p) (e::es) [] pos) (Dm.eF g fs):=PE.weak (iQ G hr hg hm hk hb .nil (o7 (X:=X)) ha Ny he Fd) fun _ _ _=>u5
theorem O4{t:FT}{q:Expr}(hq:DT X q t)(ha:DE X a fa)(hb:DE X b fb):DE X (.IfExp q a b pos) (Dm.eIf t fa fb):=PE.weak (zW hq ha hb) fun _ _ _=>OQ
theorem lJ{op}(h:DE X a fa):DE X (.BoolOp op [a] pos) fa:=Il h
theorem i6(ha:DE X a fa)(hb:DE X (.BoolOp .And (b::Fi) pos) fb):DE X (.BoolOp .And (a::b::Fi) pos) (Dm.fV fa fb):=PE.weak (Im ha hb) fun _ _ _=>Mu
theorem GI(ha:DE X a fa):DE X (.UnaryOp .Not a pos) (Dm.uW fa):=PE.weak (Io ha) fun _ _ _=>Mv
noncomputable abbrev DW(X:Cx)(e:Expr)(f:FT):Prop:=PW X e (tDT f)
theorem PW.weak{t t':TT}(h:PW X e t)(k:∀σ H Q,t' σ H Q->t σ H Q):PW X e t':=fun whole qL s σ H Q I q=>h whole qL s σ H Q I (k σ H Q q)
variable{ta tb:FT}
theorem vd(h:DT X a ta):DW X (.BoolOp .And [a] pos) ta:=pw_and1 h
theorem pA(h:DT X a ta):DW X (.BoolOp .Or [a] pos) ta:=pw_or1 h
theorem w_and(ha:DT X a ta)(hb:DW X (.BoolOp .And (b::Fi) pos) tb):DW X (.BoolOp .And (a::b::Fi) pos) (Dm.kC ta tb):=PW.weak (pw_and ha hb) fun _ _ _=>I_
theorem w_or(ha:DT X a ta)(hb:DW X (.BoolOp .Or (b::Fi) pos) tb):DW X (.BoolOp .Or (a::b::Fi) pos) (Dm.tOr ta tb):=PW.weak (pw_or ha hb) fun _ _ _=>Mw
theorem t_w(h:DW X a ta):DT X a ta:=h.pt
theorem dF(h:DT X a ta):DT X (.UnaryOp .Not a pos) (Dm.dj ta):=PT.weak (Ik h) fun _ _ _=>I0
theorem dg(h:DE X e f)(he:∀whole,isTrue e X.env whole=(do let v <- whole;standAt e.pos;holding [v] (truthy v)):=by intro _;rfl):DT X e (Dm.tV f):=PT.weak (Ij h he) fun _ _ _=>qj
variable{tg:Expr}
theorem qp(hg:Gl X "range")(hm:X.mg "range" = none)(ha:DA X [a] [fa])(hs:starEach [a] X.env=[(false,eval a X.env)]:=by rfl):DI X tg (.Call (.Name "range" p) [a] [] pos) (Dm.iR1 fa):=
 PI.weak (yw hg hm ha hs) fun _ _ _=>ME
theorem MQ(hg:Gl X "range")(hm:X.mg "range" = none)(ha:DA X [a,b] [fa,fb])(hs:starEach [a,b] X.env=[(false,eval a X.env),(false,eval b X.env)]:=by rfl)(hs2:starEach [b] X.env=[(false,eval b X.env)]:=by rfl):DI X tg (.Call (.Name "range" p) [a,b] [] pos) (Dm.iR2 fa fb):=
 PI.weak (yx hg hm ha hs hs2) fun _ _ _=>MF
end
end
section
variable{X:Cx}{st:Stmt}{Fi:List Stmt}{fs gs:FS}{e a b c:Expr}{f fa fb:FE}{pos:Pos}
section
variable{is:List Nat}{x:Str}{body:List Stmt}{es:List Expr}{t:FT}
theorem bB:DSs X [] Dm.sNx:=PSs.weak wD fun _ _ _=>OR
theorem aj(h1:DS X st fs)(h2:DSs X Fi gs):DSs X (st::Fi) (Dm.aA fs gs):=PSs.weak (bP h1 h2) fun _ _ _=>My
theorem av(h1:DS X st fs):DSs X [st] fs:=fN h1
theorem s_a(i:Nat){pos':Pos}(hN:X.N.Nodup)(he:DE X e f)(hi:X.N[i]?=some x:=by rfl)(hx:Loc X.env.scope x:=by trivial)(hs:swapsWith e (some (.Name x pos')) pos.line X.env=pure false:=by rfl)
  (hf:X.fn x=true\/X.env.scope.names.lookup x=some .local:=by trivial):DS X (.Assign [.Name x pos'] e pos) (Dm.sA i f):=PS.weak (uN hN hi hx he hs hf) fun _ _ _=>GA
theorem lK:PGs X [] (fq []):=D3
theorem bS(i:Nat){px:Pos}(hN:X.N.Nodup)(h2:PGs X es (fq is))(hi:X.N[i]?=some x:=by rfl)(hx:Loc X.env.scope x:=by trivial)
  (hf:X.fn x=true\/X.env.scope.names.lookup x=some .local:=by trivial) (hs:(assignEach (.Name x px::es) X.env).map (·.2)=assign (.Name x px) X.env::(assignEach es X.env).map (·.2):=by rfl):PGs X (.Name x px::es) (fq (i::is)):=z0 (kH hN hi hx hf) h2 hs
theorem s_e(he:DE X e f)(hs:swapsWith e none pos.line X.env=pure false:=by rfl):DS X (.Expr e pos) (Dm.sE f):=PS.weak (fO he hs) fun _ _ _=>Ja
theorem s_r(he:DE X e f):DS X (.Return (some e) pos) (Dm.sR f):=PS.weak (Ip he) fun _ _ _=>Mz
theorem cO{x y:List Stmt}(ht:DT X c t)(ha:DSs X x fs)(hb:DSs X y gs):DS X (.If c x y pos) (Dm.sIf t fs gs):=PS.weak (zY ht ha hb) fun _ _ _=>MA
theorem kL:DS X st (fun _=>none):=PS.weak zZ fun _ _ _ ⟨_,_,_,_,z,_⟩=>by cases z
theorem pB(i:Nat){px ap cp:Pos}(he:DE X e f)(hi:X.N[i]?=some x:=by rfl)(hv:Vis X.env.scope x:=by trivial)(hd:(x == ("__debug__" : Str))=false:=by decide)
  (Nt:(x == ("__classdict__" : Str))=false:=by decide) (Kc:attributeBase (.Name x px) "append" X.env (eval (.Name x px) X.env)=eval (.Name x px) X.env:=by rfl)
  (hfew:((backTo cp (starEach [e] X.env)).all (fun x=>!x.1)&&(backToKw cp (keywordEach [] X.env)).all (fun x=>x.1.isSome)
   && decide ([e].length+([]:List Keyword).length+(if ([]:List Keyword).isEmpty then 0 else 1)<30))=true:=by rfl)
  (G6:(ap.endLine == cp.line)=true:=by rfl) (hs:starEach [e] X.env=(false,eval e X.env)::starEach [] X.env:=by rfl) (G5:(backTo cp (starEach [] X.env)).any (·.1)=false:=by rfl)
  (hsw:swapsWith (.Call (.Attribute (.Name x px) "append" ap) [e] [] cp) none pos.line X.env=pure false:=by rfl) :
  DS X (.Expr (.Call (.Attribute (.Name x px) "append" ap) [e] [] cp) pos) (Dm.lz i f):=
 PS.weak (fO (oZ Rm Rz RA cV (bz hi hv hd Nt) (aa he af hs) Kc hfew G6 hs G5) hsw) fun _ _ _=>MB
theorem GJ(i:Nat){j:Expr}{fj:FE}{px sp:Pos}(hj:DE X j fj)(he:DE X e f)(hi:X.N[i]?=some x:=by rfl)(hv:Vis X.env.scope x:=by trivial)(hd:(x == ("__debug__" : Str))=false:=by decide)
  (Nt:(x == ("__classdict__" : Str))=false:=by decide) (ha:∀ v,assign (.Subscript (.Name x px) j sp) X.env v=(do
   let ov <- holding [v] (eval (.Name x px) X.env)
   let iv <- holding [v,ov] (eval j X.env)
   standAt sp
   holding [v,ov,iv] (setItem ov iv v)
   release [v,ov,iv] []):=by intro _;rfl)
  (hs:swapsWithSole [.Subscript (.Name x px) j sp] e pos.line X.env=pure false:=by rfl) (hw:swappedStores [.Subscript (.Name x px) j sp] e X.env=pure none:=by rfl) (h1:(assignEach [.Subscript (.Name x px) j sp] X.env).map (·.2)=[assign (.Subscript (.Name x px) j sp) X.env]:=by rfl) :
  DS X (.Assign [.Subscript (.Name x px) j sp] e pos) (Dm.uX i fj f):=PS.weak (Iv he (Iu (bz hi hv hd Nt) hj set_list ha) hs hw h1) fun _ _ _=>MC
theorem MR(n:Nat)(hp:PassesOwn (model X.prog X.w) X.A X.env X.xe)(ht:DT X c t)(hb:DSs X body fs):DS X (.While c body [] pos) (Dm.whD t fs n):=PS.weak (z6 hp ht hb) fun _ _ _=>Em
structure TG'(X:Cx)(tg:Expr)(is:List Nat)(bd:Dm.FB):Prop where
 ex:∃g,PG X tg g/\BD is g bd
theorem g_n(i:Nat){px:Pos}(hN:X.N.Nodup)(hi:X.N[i]?=some x:=by rfl)(hx:Loc X.env.scope x:=by trivial)(hf:X.fn x=true\/X.env.scope.names.lookup x=some .local:=by trivial) :
  TG' X (.Name x px) [i] (Dm.bN i):=⟨⟨_,kH hN hi hx hf,wL i⟩⟩
theorem g_t{k:Nat}{tpos:Pos}(hc:X.calm=true)(hg:PGs X es (fq is))(hn:(assignEach es X.env).length=is.length:=by rfl)(hst:(assignEach es X.env).findIdx? (·.1)=none:=by rfl):TG' X (.Tuple es k tpos) is (Dm.bT is):=
 ⟨⟨_,z4 hc hg hn hst,AE is rfl⟩⟩
theorem eL{tg it:Expr}{fi:Dm.FI}{bd:Dm.FB}(hp:PassesOwn (model X.prog X.w) X.A X.env X.xe)(hc:X.calm=true)(hi:DI X tg it fi)(hg:TG' X tg is bd)(hb:DSs X body fs)
  (hs:∀x,foldedSetIterable it X.env x=pure x:=by intro _;rfl):DS X (.For tg it body [] pos) (Dm.ff fi bd fs):=by
 obtain⟨g,h1,h2⟩:=hg.ex;exact PS.weak (uQ hp hc hi h1 hb hs) fun _ _ _=>MD h2
end
end
noncomputable def tyName:Dat->String
 |.non => "NoneType"
 |.bl _ => "bool"
 |.int _ => "int"
 |.str _ => "str"
 |.tup _ => "tuple"
 |.lst _ => "list"
 |.dct _ _ => "dict"
 |.dcp _ _ => "dict"
 |.exc _ => "dict"
 |.fn _ => "dict"
def yX(T:String)(p:Dat->Bool):Prop:=∀(K:Ds) (d:Dat),S9 K (.type (tyName d)) (.type T)=some (p d)
theorem wU:yX "int" Dm.isI:=fun K d=>by cases d<;>rfl
theorem rV:yX "bool" Dm.isB:=fun K d=>by cases d<;>rfl
theorem rW:yX "list" Dm.isL:=fun K d=>by cases d<;>rfl
theorem kit_tuple:yX "tuple" Dm.isT:=fun K d=>by cases d<;>rfl
theorem AS{K:Ds}{H:Hp}{v:V}{d:Dat}(r:Rep H v d)(nx:∀C,d≠.exc C/\d≠.fn C):iP K H v (.type (tyName d)):=by
 cases r with
 |non=>exact .non
 |bl b=>exact .bl b
 |int i=>exact .int i
 |str s=>exact .str _
 |tup q _=>exact .tup q
 |lst q _=>
  rcases q with q | ⟨o,q⟩
  ·exact .lst q
  ·exact .frz q
 |dct q _ _=>exact .dK q
 |dcp q _ _=>exact .dT q
 |exc _=>exact absurd rfl (nx _).1
 |fn _=>exact absurd rfl (nx _).2
def MS(K:Ds)(T:String):List V->Hp->VK->Prop:=fun xs H Q=>∃x t b,xs=[x,.ty T]/\iP K H x t/\S9 K t (.type T)=some b/\Q (.bl b) H
section
variable{X:Cx}{e:Expr}{f:FE}{p p2 pos:Pos}
theorem AU{T:String}:cZ X (.builtin "isinstance") (MS X.K T):=by intro qL s σ H xs us Q I r h;obtain⟨x,t,b,rfl,ty,e,q⟩:=h;obtain⟨u,u2,rfl,rx,ry⟩:=vals2 r;cases ry;exact yG I rx ty e fun tk=>⟨.bl b,H,I.tok tk,rfl,q⟩
theorem MT{K:Ds}{T:String}{p:Dat->Bool}(kp:yX T p){σ:L2.St}{H:Hp}{Q:VK}(h:tD (Dm.e1 (Dm.kG p) f) σ H Q):tCB (MS K T) (cz (tD f) (cz (tC (.ty T)) dJ)) σ H Q:=by
 obtain⟨H0,ρ,x,ρ',st,e,k⟩:=h;unfold Dm.e1 at e;split at e
 ·cases e
 rename_i x1 ρ1 e1;split at e
 ·cases e
 rename_i dx p1;have nx:∀C,dx≠.exc C/\dx≠.fn C:=fun C=>⟨fun z=>(by subst z;cases e),fun z=>(by subst z;cases e)⟩;have ev:Dm.kG p dx=Dm.vB (p dx):=by cases dx<;>first | rfl | exact absurd rfl (nx _).1 | exact absurd rfl (nx _).2
 rw[ev]at e;dsimp only at e;cases e;refine⟨H0,ρ,x1,_,st,e1,fun v H1 Hb t1 r1=>?_⟩;exact⟨v,_,_,rfl,AS ((r1.look t1.st p1).full t1.st.same) nx,kp K dx,k _ H1 Hb t1 (Rep.bl _)⟩
theorem i7{T:String}{tn:Str}{p':Dat->Bool}(kp:yX T p')(hvT:bootBuiltins tn=some (.type T))(hgT:Gl X tn)(hmT:X.mg tn=none)(hg:Gl X "isinstance")(hm:X.mg "isinstance" = none)(h:DE X e f)
  (hn:tn ≠ "__name__" := by decide) (Ny:(tn == ("__debug__" : Str))=false:=by decide)
  (he:starEach [e,.Name tn p2] X.env=(false,eval e X.env)::starEach [.Name tn p2] X.env:=by rfl) (Fd:(backTo pos (starEach [.Name tn p2] X.env)).any (·.1)=false:=by rfl) (he2:starEach [.Name tn p2] X.env=(false,eval (.Name tn p2) X.env)::starEach [] X.env:=by rfl) :
  DE X (.Call (.Name "isinstance" p) [e,.Name tn p2] [] pos) (Dm.e1 (Dm.kG p') f):=
 PE.weak (rG AU hg hm PyProof.Rows.boot_isinstance (cR h (cR (DZ (v:=.ty T) hgT hmT hvT rfl hn Ny) c_ he2) he) (he:=he) (Fd:=Fd)) fun _ _ _=>MT kp
theorem all_range(bs:List Bool):(Qs bs.length).all (fun i=>bs.getD i true)=bs.all id:=by
 rw[Sa,Q3,Q3];constructor
 ·intro h b hb;obtain⟨i,hi,rfl⟩:=List.mem_iff_getElem.mp hb;have:=h i (RD.mpr hi);rw[Q4,Ql hi]at this;exact this
 ·intro h i hi;have hi:=RD.mp hi;rw[Q4,Ql hi];exact h _ (List.getElem_mem hi)
theorem yY(hc:X.calm=true):cZ X (.builtin "all") (fun xs H Q=>∃(a:Addr) (bs:List Bool),xs=[.ref a]/\Rd H a (.lst (bs.map V.bl))/\Q (.bl (bs.all id)) H):=by
 intro qL s σ H xs us Q I r h;obtain⟨a,bs,rfl,hq,q⟩:=h;obtain⟨u,rfl,rx⟩:=vals1 r;cases rx;obtain⟨z,its,n,rv,e⟩:=hq.ok I.hok;have hl:s.heap.IsList a its.toArray:=⟨_,e,rfl,_,rfl⟩
 have zo:=rv.length;rw[Dp]at zo;have hax:a≠s.heap.objs.size:=QF (Qh e);refine PySem.call_all_walk (wpAny_pyIter_list hl ⟨s.heap.objs.size,_,_,_,_,_,fun i=>bs.getD i true,rfl,Walks.list (A:=X.A.in1) (I.ok.hd hc) s.heap.objs.size a hax its.toArray,⟨⟨_,QA _ rfl,rfl,rfl⟩,hl.push _⟩,?_,fun h' tk hk=>?_⟩)
 ·intro i v s' Q' E' hv hQ';have hv':its[i]?=some v:=by simpa using hv
  have hi:i<bs.length:=by rw[zo];exact(PU.mp hv').1
  have hb:(bs.map V.bl)[i]?=some (V.bl bs[i]):=by rw[Qm,Ql hi];rfl
  obtain⟨u,hu,ru⟩:=rv.get hb;rw[hv']at hu;cases hu;cases ru;refine wpAny_truthy_bool ?_;have e2:bs.getD i true=bs[i]:=by rw[Q4,Ql hi];rfl
  rw[<- e2];exact hQ'
 ·have e1:its.toArray.size=bs.length:=by rw[Qj,zo]
  rw[e1,all_range];refine⟨.bl _,H,I.kept (t':=tk) fun b o eb=>hk b o ?_ (Qc _ eb),rfl,q⟩;intro hm;have:b=s.heap.objs.size:=by simpa using hm
  exact absurd (Qh eb) (by rw[this];exact Q0 _)
end
section
variable{X:Cx}{a b c e:Expr}{f fa fb fc:FE}{p p2 pos:Pos}
section
variable{g h:Dat->Dat->Option RV}{σ:L2.St}{H:Hp}{Q:VK}
theorem ED{r r':R2}(o1:OpD r g)(o2:OpD r' h)(hh:tD (Dm.lA g h fa fb fc) σ H Q):Ad r r' (tD fa) (tD fb) (tD fc) σ H Q:=by
 obtain⟨H0,ρ,x,ρ',st,e,k⟩:=hh;unfold Dm.lA at e;split at e
 ·cases e
 rename_i x1 ρ1 e1;split at e
 ·cases e
 rename_i y1 ρ2 e2;split at e
 ·cases e
 rename_i dx p1;split at e
 ·cases e
 rename_i dy p2;refine⟨H0,ρ,x1,ρ1,st,e1,fun v H1 Hb t1 r1=>⟨H1,ρ1,y1,ρ2,t1.st,e2,fun u H2 Hc t2 r2=>?_⟩⟩;split at e
 ·rename_i gz;refine o1 H2 Hc v u dx dy _ _ t2.st.same ((r1.mono t2).look t2.st p1) (r2.look t2.st p2) gz fun w H3 Hd g3 r3=>?_;refine⟨true,Rep.qi r3,?_⟩;rw[if_pos rfl];have t3:=t2.trans (.grow t2.st g3);have r2':=r2.mono (.grow t2.st g3);split at e
  ·cases e
  rename_i z ρ3 e3;split at e
  ·cases e
  rename_i dy' p3;split at e
  ·cases e
  rename_i dz p4;split at e
  ·cases e
  rename_i w2 hz;cases e;refine⟨H3,ρ2,z,_,t3.st,e3,fun w' H4 He t4 r4=>?_⟩;refine o2 H4 He u w' dy' dz w2 Q t4.st.same ((r2'.mono t4).look t4.st p3) (r4.look t4.st p4) hz fun w5 H5 Hf g5 r5=>?_;exact k w5 H5 Hf (t1.trans (t3.trans (t4.trans (.grow t4.st g5)))) ((r5.toV t4.st).early fun a n=>(t1.trans (t3.trans t4)).stp.gone n)
 ·rename_i gz;cases e;refine o1 H2 Hc v u dx dy _ _ t2.st.same ((r1.mono t2).look t2.st p1) (r2.look t2.st p2) gz fun w H3 Hd g3 r3=>?_;refine⟨false,Rep.qi r3,?_⟩;rw[if_neg QE];exact k _ H3 Hd (t1.trans (t2.trans (.grow t2.st g3))) (Rep.bl false)
 ·cases e
theorem EE{op op':CmpOp}{r r':R2}(o1:OpR X (compareOp op) r)(q1:OpD r g)(o2:OpR X (compareOp op') r')(q2:OpD r' h)(ha:DE X a fa)(hb:DE X b fb)(hc:DE X c fc)
  (hm:lastMarks [op,op'] [b,c]=false:=by with_unfolding_all rfl):DE X (.Compare a [op,op'] [b,c] pos) (Dm.lA g h fa fb fc):=PE.weak (Ae o1 o2 ha hb hc hm) fun _ _ _=>ED q1 q2
theorem AV(n d:Nat)(o:Option Int)(hd:d<=n):HT.sIx n d o=Dm.sIx n d o:=by
 cases o with
 |none=>rfl
 |some v=>
  unfold HT.sIx Dm.sIx
  first
   |rfl
   |(dsimp only;split<;>lia)
theorem yZ{H0:Hp}{xs:List V}{ds:List Dat}(rs:aC H0 xs ds)(lo hi:Option Int):aC H0 (uS xs lo hi) (Dm.cut ds lo hi):=by unfold uS Dm.cut;rw[rs.length,AV _ _ _ (QM _),AV _ _ _ (Qf _)];exact(rs.drop _).take _
theorem wV{fo:Option FE}{H0 H:Hp}{ρ ρ':Dm.Env}{o:Option Int}{Q:Option Int->Hp->Prop}(st:au H0 H σ ρ)(e:Dm.part fo ρ=some (o,ρ'))(k:∀H0' H',ESt σ ρ H0 H ρ' H0' H'->Q o H') :
  (match fo with | none=>p9 | some f=>Ai (tD f)) σ H Q:=by
 cases fo with
 |none=>cases e;exact k H0 H (.refl st)
 |some f=>
  unfold Dm.part at e;dsimp only at e;split at e
  ·rename_i i ρ1 e1;cases e;exact⟨H0,ρ,_,_,st,e1,fun v H1 Hb t1 r1=>⟨i,Rep.isInt r1,k H1 Hb t1⟩⟩
  ·cases e
noncomputable abbrev tOf(fo:Option FE):TO:=match fo with | none=>p9 | some f=>Ai (tD f)
theorem O5{K:Ds}{lo hi:Option FE}(h:tD (Dm.eSl f lo hi) σ H Q):tSl (Mh K) (tD f) (tOf lo) (tOf hi) σ H Q:=by
 obtain⟨H0,ρ,x,ρ',st,e,k⟩:=h;unfold Dm.eSl at e;split at e
 ·cases e
 rename_i x1 ρ1 e1;split at e
 ·cases e
 rename_i l ρ2 e2;split at e
 ·cases e
 rename_i hh ρ3 e3;split at e
 ·rename_i ds p1;cases e;refine⟨H0,ρ,x1,ρ1,st,e1,fun v H1 Hb t1 r1=>?_⟩;refine wV t1.st e2 fun H2 Hc t2=>?_;refine wV t2.st e3 fun H3 Hd t3=>?_;have tt:=t1.trans (t2.trans t3);obtain⟨a,xs,rfl,qa,ra⟩:=bq t3.st.same ((r1.mono (t2.trans t3)).look t3.st p1);refine⟨a,xs,rfl,.inl qa,fun q hq=>?_⟩;have g:=aK.lB (o:=HO.lst (uS xs l hh)) t3.st.same hq;refine k _ _ _ (tt.trans (.grow t3.st g)) ⟨q,rfl,tt.stp.gone hq,t3.st.aR hq,t3.st.same.free hq,_,ao,yZ ra l hh⟩
 ·cases e
theorem MU{lo hi:Option Expr}{flo fhi:Option FE}(h:DE X e f)(hl:PO X lo (tOf flo))(hh:PO X hi (tOf fhi)):DE X (.Subscript e (.Slice lo hi none p2) pos) (Dm.eSl f flo fhi):=PE.weak (Aj Eb h hl hh) fun _ _ _=>O5
theorem o_n:PO X none (tOf none):=D_
theorem o_s(h:DE X e f):PO X (some e) (tOf (some f)):=Ea h
end
end
section
variable{X:Cx}{nm:List Str}{Nv tg iter:Expr}{Kr:List Expr}{scope:Scope}{pos:Pos}{own:List Str}{fi:Dm.FI}{bd:Dm.FB}{is:List Nat}{t:FT}{f:FE}
noncomputable abbrev DTs(X:Cx)(Kr:List Expr)(t:FT):Prop:=PTs X Kr (tDT t)
theorem cg:DTs X [] Dm.b8:=fun qL s σ H Q I h=>by obtain⟨H0,ρ,b,ρ',st,e,k⟩:=h;cases e;exact wM qL s σ H Q I (k H0 H (.refl st))
theorem gp{c:Expr}(h:DT X c t):DTs X [c] t:=wN h
structure TGc(X:Cx)(nm:List Str)(scope:Scope)(own:List Str)(tg:Expr)(is:List Nat)(bd:Dm.FB):Prop where
 ex:∃g,(∀cl C s H fp,PG (aU X nm scope own cl C s H fp) tg g)/\BD is g bd
theorem c_n(i:Nat){x:Str}{px:Pos}(hN:(nm++own).Nodup)(hi:(nm++own)[i]?=some x)(hx:(relabel scope X.env).names.lookup x=some .local):TGc X nm scope own (.Name x px) [i] (Dm.bN i):=
 ⟨⟨_,fun cl C s H fp=>kH (X:=aU X nm scope own cl C s H fp) hN hi (.inl hx) (.inr hx),wL i⟩⟩
theorem c_t{es:List Expr}{k:Nat}{tpos:Pos}(hc:X.calm=true)(hg:∀cl C s H fp,PGs (aU X nm scope own cl C s H fp) es (fq is))(hn:∀cl C,(assignEach es (compEnvC scope cl C X.env)).length=is.length:=by intro _ _;rfl)
  (hst:∀cl C,(assignEach es (compEnvC scope cl C X.env)).findIdx? (·.1)=none:=by intro _ _;rfl):TGc X nm scope own (.Tuple es k tpos) is (Dm.bT is):=
 ⟨⟨_,fun cl C s H fp=>z4 (X:=aU X nm scope own cl C s H fp) hc (hg cl C s H fp) (hn cl C) (hst cl C),AE is rfl⟩⟩
theorem Jp(hc:X.calm=true)(S:cD X nm scope)(hi:DI X tg iter fi)(hg:TGc X nm scope own tg is bd)(ht:∀cl C s H fp,DTs (aU X nm scope own cl C s H fp) Kr t)(he:∀cl C s H fp,DE (aU X nm scope own cl C s H fp) Nv f)
  (hl:∀i∈is,X.N.length<=i) (hs:∀x,foldedSetIterable iter X.env x=pure x:=by intro _;rfl):DE X (.ListComp Nv [⟨tg,iter,Kr,0⟩] scope pos) (Dm.b9 fi own.length bd t f):=by
 obtain⟨g,h1,h2⟩:=hg.ex;intro qL s σ H Q I h;exact wO hc S hi h1 ht he hs qL s σ H Q I (u_ h2 (fun i hi=>by rw[I.len];exact hl i hi) h)
theorem Jq(j:Nat){y:Str}{py Nx:Pos}(hN:X.N.Nodup)(hc:X.calm=true)(S:cD X nm scope)(hi:DI X tg iter fi)(hg:TGc X nm scope own tg is bd)(ht:∀cl C s H fp,DTs (aU X nm scope own cl C s H fp) Kr t)(he:∀cl C s H fp,DE (aU X nm scope own cl C s H fp) Nv f)
  (hl:∀i∈is,X.N.length<=i) (hj:X.N[j]?=some y:=by rfl) (hy:Loc X.env.scope y:=by trivial)
  (hsw:swapsWith (.ListComp Nv [⟨tg,iter,Kr,0⟩] scope pos) (some (.Name y py)) Nx.line X.env=pure true:=by rfl) (hs:∀x,foldedSetIterable iter X.env x=pure x:=by intro _;rfl)
  (hf:X.fn y=true\/X.env.scope.names.lookup y=some .local:=by trivial):DS X (.Assign [.Name y py] (.ListComp Nv [⟨tg,iter,Kr,0⟩] scope pos) Nx) (Dm.sA j (Dm.b9 fi own.length bd t f)):=by
 obtain⟨g,h1,h2⟩:=hg.ex;intro qL s σ H D I h;exact dD hN hj hy hc S hi h1 ht he hsw hs hf qL s σ H D I (u_ h2 (fun i hi=>by rw[I.len];exact hl i hi) (GA h))
end
theorem lM{H0:Hp}:∀{ds:List Dat} {bs:List Bool} {vs:List V},aC H0 vs ds->Dm.bools ds=some bs->vs=bs.map V.bl
 |[],bs,vs,r,e=>by cases r;cases e;rfl
 |.bl b::ds,bs,vs,r,e=>by
  cases r with
  |cons r rs=>
   unfold Dm.bools at e;cases q:Dm.bools ds with
   |none=>rw[q]at e;cases e
   |some cs=>rw[q]at e;cases e;cases Rep.qi r;rw[lM rs q];rfl
 |.non::ds,bs,vs,r,e=>by cases e
 |.int _::ds,bs,vs,r,e=>by cases e
 |.str _::ds,bs,vs,r,e=>by cases e
 |.tup _::ds,bs,vs,r,e=>by cases e
 |.lst _::ds,bs,vs,r,e=>by cases e
 |.dct _ _::ds,bs,vs,r,e=>by cases e
 |.dcp _ _::ds,bs,vs,r,e=>by cases e
theorem Jr:CallD (fun xs H Q=>∃(a:Addr) (bs:List Bool),xs=[.ref a]/\Rd H a (.lst (bs.map V.bl))/\Q (.bl (bs.all id)) H) Dm.qf:=by
 intro H0 H vs ds z Q s rs e k;unfold Dm.qf at e;split at e
 ·split at e
  ·rename_i bs hb;cases e;cases rs with
   |cons r rr=>cases rr;obtain⟨a,us,rfl,qa,ra⟩:=bq s r;have:=lM ra hb;subst this;exact⟨a,bs,rfl,qa,k _ H0 H (aK.refl s) (.bl _)⟩
  ·cases e
 ·cases e
theorem Js:CallD (fun xs H Q=>(∃i,xs=[.int i]/\Q (.int i) H)\/∃k,xs=[.bl k]/\Q (.int (if k then 1 else 0)) H) Dm.yR:=by
 intro H0 H vs ds z Q s rs e k;unfold Dm.yR at e;split at e
 ·cases e;cases rs with
  |cons r rr=>cases rr;cases az r;exact .inl ⟨_,rfl,k _ H0 H (aK.refl s) (.int _)⟩
 ·cases e;cases rs with
  |cons r rr=>cases rr;cases wQ r;exact .inr ⟨_,rfl,k _ H0 H (aK.refl s) (.int _)⟩
 ·cases e
section
variable{X:Cx}{a b c e:Expr}{f:FE}{fs:List FE}{p p2 pos:Pos}
theorem wW(hc:X.calm=true)(hg:Gl X "all")(hm:X.mg "all" = none)(ha:DA X [e] fs)(he:starEach [e] X.env=[(false,eval e X.env)]:=by rfl)(Fd:(backTo pos (starEach [] X.env)).any (·.1)=false:=by rfl) :
  DE X (.Call (.Name "all" p) [e] [] pos) (Dm.eB Dm.qf fs):=yW (yY hc) Jr (by rfl) hg hm ha (he:=he) (Fd:=Fd)
theorem GK(hg:Gl X "int")(hm:X.mg "int" = none)(ha:DA X [e] fs)(he:starEach [e] X.env=[(false,eval e X.env)]:=by rfl)(Fd:(backTo pos (starEach [] X.env)).any (·.1)=false:=by rfl) :
  DE X (.Call (.Name "int" p) [e] [] pos) (Dm.eB Dm.yR fs):=EC yE Js (by rfl) hg hm ha (he:=he) (Fd:=Fd)
end
noncomputable def cE(sc:Scope):List Str->List Str->Bool
 |[],[]=>true
 |x::N,y::nm=>(x == y||(sc.names.lookup y).isNone)&&cE sc N nm
 |_,_=>false
theorem cE.len{sc:Scope}:∀{N nm:List Str},cE sc N nm=true->nm.length=N.length
 |[],[],_=>rfl
 |[],_::_,h=>by cases h
 |_::_,[],h=>by cases h
 |x::N,y::nm,h=>by rw[cE,QJ]at h;rw[QT,QT,cE.len h.2]
theorem cE.at{sc:Scope}:∀{N nm:List Str},cE sc N nm=true->∀(i:Nat) (x:Str),nm[i]?=some x->N[i]?=some x\/sc.names.lookup x=none
 |[],[],_,i,x,e=>by simp at e
 |[],_::_,h,_,_,_=>by cases h
 |_::_,[],h,_,_,_=>by cases h
 |x::N,y::nm,h,0,z,e=>by
  rw[cE,QJ,S4]at h;simp at e;subst e;rcases h.1 with q | q
  ·have:x=y:=by simpa using q
   subst this;exact .inl rfl
  ·exact .inr (by simpa using q)
 |x::N,y::nm,h,i+1,z,e=>by rw[cE,QJ]at h;rw[RT]at e ⊢;exact cE.at h.2 i z e
noncomputable def jY(osc:Scope)(N nm:List Str)(sc:Scope):Bool:=
 sc.names.all (fun y=>y.2 != .cell)&&sc.names.all (fun y=>y.2 != .local||sc.names.lookup y.1 == some .local) &&
 sc.names.all (fun y=>y.2 != .free||(osc.names.lookup y.1 == some .cell||osc.names.lookup y.1 == some .free))&&nm.all (fun x=>sc.names.lookup x != some .local)&&cE sc N nm
theorem cD.of{X:Cx}{nm:List Str}{scope:Scope}(h:jY X.env.scope X.N nm scope=true)(hk:scope.kind=.function):cD X nm scope:=by
 unfold jY at h;simp only[QJ,Q3]at h;obtain⟨⟨⟨⟨h1,h2⟩,h3⟩,h4⟩,h5⟩:=h;refine⟨hk,fun y hy=>?_,fun y hy hl=>?_,fun y hy hf=>?_,fun x hx=>?_,cE.len h5,cE.at h5⟩
 ·have:=h1 y hy;simpa using this
 ·have:=h2 y hy;rw[hl]at this
  simpa using this
 ·have:=h3 y hy;rw[hf]at this;have:(X.env.scope.names.lookup y.1 == some .cell||X.env.scope.names.lookup y.1 == some .free)=true:=by simpa using this
  rw[S4,beq_iff_eq,beq_iff_eq]at this;exact this
 ·have:=h4 x hx;simpa using this
section
variable{X:Cx}{Nv tg iter:Expr}{Kr:List Expr}{scope:Scope}{pos:Pos}{fi:Dm.FI}{bd:Dm.FB}{is:List Nat}{t:FT}{f:FE}
theorem rX{l:List Nat}{n:Nat}(h:(l.all fun i=>decide (n<=i))=true):∀i∈l,n<=i:=fun i hi=>of_decide_eq_true (Q3.mp h i hi)
theorem Jt(nm own:List Str)(hg:TGc X nm scope own tg is bd)(hi:DI X tg iter fi)(ht:∀cl C s H fp,DTs (aU X nm scope own cl C s H fp) Kr t)(he:∀cl C s H fp,DE (aU X nm scope own cl C s H fp) Nv f)
  (hc:X.calm=true:=by rfl) (hk:scope.kind=.function:=by rfl) (hS:jY X.env.scope X.N nm scope=true:=by rfl) (hl:(is.all fun i=>decide (X.N.length<=i))=true:=by rfl) (hs:∀x,foldedSetIterable iter X.env x=pure x:=by intro _;rfl) :
  DE X (.ListComp Nv [⟨tg,iter,Kr,0⟩] scope pos) (Dm.b9 fi own.length bd t f):=Jp hc (cD.of hS hk) hi hg ht he (rX hl) hs
theorem MV(j:Nat)(nm own:List Str){y:Str}{py Nx:Pos}(hN:X.N.Nodup)(hg:TGc X nm scope own tg is bd)(hi:DI X tg iter fi)(ht:∀cl C s H fp,DTs (aU X nm scope own cl C s H fp) Kr t)(he:∀cl C s H fp,DE (aU X nm scope own cl C s H fp) Nv f)
  (hc:X.calm=true:=by rfl) (hk:scope.kind=.function:=by rfl) (hS:jY X.env.scope X.N nm scope=true:=by rfl) (hl:(is.all fun i=>decide (X.N.length<=i))=true:=by rfl) (hj:X.N[j]?=some y:=by rfl) (hy:Loc X.env.scope y:=by trivial)
  (hsw:swapsWith (.ListComp Nv [⟨tg,iter,Kr,0⟩] scope pos) (some (.Name y py)) Nx.line X.env=pure true:=by rfl) (hs:∀x,foldedSetIterable iter X.env x=pure x:=by intro _;rfl)
  (hf:X.fn y=true\/X.env.scope.names.lookup y=some .local:=by trivial):DS X (.Assign [.Name y py] (.ListComp Nv [⟨tg,iter,Kr,0⟩] scope pos) Nx) (Dm.sA j (Dm.b9 fi own.length bd t f)):=
 Jq j hN hc (cD.of hS hk) hi hg ht he (rX hl) hj hy hsw hs hf
end
section
variable{f:FE}{a:Addr}{X:Cx}{H:Hp}
theorem PI.or{tg it:Expr}{t t':TI}(h:PI X tg it t)(h':PI X tg it t'):PI X tg it (fun σ H R=>t σ H R\/t' σ H R):=fun qL s σ H R I q=>q.elim (h qL s σ H R I) (h' qL s σ H R I)
theorem MW{K:Ds}{σ:L2.St}{R:It->Hp->Prop}(h:tDI (Dm.iS f) σ H R):jT K (tD f) σ H R\/z7 K (tD f) σ H R:=by
 obtain⟨H0,ρ,ys,ρ',st,e,k⟩:=h;unfold Dm.iS at e;split at e
 ·cases e
 rename_i x ρ1 e1;split at e
 ·rename_i ds ρ2 e2;cases e;exact .inl (OS ⟨H0,ρ,_,_,st,by unfold Dm.iL;rw[e1];dsimp only;rw[e2],k⟩)
 ·rename_i ds ρ2 e2;cases e;exact .inr (OT ⟨H0,ρ,_,_,st,by unfold Dm.iT;rw[e1];dsimp only;rw[e2],k⟩)
 ·cases e
theorem i_S{tg e:Expr}(h:DE X e f):DI X tg e (Dm.iS f):=PI.weak (PI.or (p8 h) (z8 h)) fun _ _ _=>MW
noncomputable def AW(K:Ds):Bool:=K.all fun p=>match p.2.cls with | .type n=>n != "list" | _=>true
theorem lookup_mem{o:Obj}:∀{K:List (Addr×Obj)},K.lookup a=some o->(a,o)∈K
 |[],h=>by cases h
 |(b,x)::r,h=>by
  rw[Q2]at h;cases q:a == b with
  |true=>
   rw[q]at h;cases h;have:a=b:=by simpa using q
   rw[this];exact Qe
  |false=>rw[q]at h;exact Qg _ (lookup_mem h)
theorem Ju{f:List Dat->Option RV}{K:Ds}{ns:List Int}{E:XK}(hf:f [.lst (ns.map Dat.int)]=some (.val (.bl true)))(hK:AW K=true)(hS:SqL K H a (ns.map V.int)) :
  spD f [.ref a] H (fun v _=>v=.bl true) E:=by
 have hq:Rd H a (.lst (ns.map V.int)):=by
  rcases hS with h | ⟨o,its,n,hk,hc,_⟩
  ·exact h
  ·have:=Q3.mp hK _ (lookup_mem hk);dsimp only at this;rw[hc]at this;exact absurd this (by decide)
 have hr:∀ns:List Int,aC H (ns.map V.int) (ns.map Dat.int):=fun ns=>by
  induction ns with
  |nil=>exact .nil
  |cons n ns ih=>exact .cons (.int n) ih
 exact⟨H,_,_,aq.refl _,.cons (.lst hq (hr ns)) .nil,hf,fun v H0' H' _ r=>Rep.qi r⟩
end
end Br
namespace Dm
noncomputable def iRd(a b c:FE):FI:=fun ρ=>match a ρ with
 | some (.val (.int i),ρ1)=>(match b ρ1 with
  | some (.val (.int j),ρ2)=>(match c ρ2 with
   |some (.val (.int k),ρ3)=>if k=-1/\j<=BIG/\-BIG<=j/\i<=BIG/\-BIG<=i then some (downs i (i-j).toNat,ρ3) else none
   |_=>none)
  |_=>none)
 |_=>none
noncomputable def y9(a:FE):FI:=fun ρ=>match a ρ with
 |none=>none
 |some (x,ρ1)=>match tk ρ1 x with
  |some (.lst ds,ρ2)=>some (ds.reverse,ρ2)
  |_=>none
noncomputable def i8:Nat->List Dat->List Dat
 |_,[]=>[]
 |i,d::ds=>.tup [.int (i:Nat),d]::i8 (i+1) ds
noncomputable def iEn(a:FE):FI:=fun ρ=>match a ρ with
 |none=>none
 |some (x,ρ1)=>match tk ρ1 x with
  |some (.lst ds,ρ2)=>some (i8 0 ds,ρ2)
  |_=>none
noncomputable def lO(d:Dat):Option RV:=match d with
 |.lst ds=>some (.new (.lst ds.reverse))
 |_=>none
noncomputable def pC:List Dat->Option RV
 |[.int j]=>if j<=1000000/\-1000000<=j then some (.new (.lst (ups 0 j.toNat))) else none
 |_=>none
end Dm
namespace Br
open PySem PySem.Spec PyProof.Rows L2
theorem pD{X:Cx}{qL:List (Addr×Obj)}{σ:L2.St}{H:Hp}{s:Shared}{h':Heap}{t':Nat}{fp:List Addr}{p:Addr}{o:HO}(I:Inv X qL σ H s)(hf:∀b∈fp,oE X qL H b)
  (k:∀b u,b∉fp->s.heap.get? b=some u->h'.get? b=some u) (hp:s.heap.objs.size<=p) (new:aT X.prog X.w (upd H p o) h' p o):Inv X qL σ (upd H p o) { s with heap:=h',toks:=t' }:=by
 have hn:H p=none:=I.hok.fresh hp;have nf:∀b u,H b=some u->b∉fp:=fun b u e z=>by rw[(hf b z).1]at e;cases e
 have nL:X.env.locals∉fp:=fun z=>(hf _ z).2.1 rfl;refine I.step (g':=s.gens) (d':=s.drawn) (ch:=fp) (fun b hb=>?_) (fun b u _ _ hc e _=>k b u hc e) (fun b u _ _ hc e _=>⟨u.slots,k b u hc e⟩)
  (fun b u _ e n=>by rw[ai (QF (Qy (Qh e) hp))];exact n) (fun b u hc e=>⟨u,k b u hc e⟩)
  (fun b xs q=>by rw[ai (aI q hn)];exact q) (fun b u xs q=>by rw[ai (aI q hn)];exact q) (fun b _ _ _ q=>by rw[ai (aI q hn)];exact q) (fun m hm=>?_) (fun b u e=>?_) I.bare
 ·obtain⟨f0,f1,f2,f3,f4,f5⟩:=hf b hb;exact⟨f3,f1,f4,f5⟩
 ·obtain⟨o,es,ep,ho,r⟩:=hm;exact⟨o,es,ep,k _ o nL ho,r⟩
 ·by_cases hb:b=p
  ·subst hb;rw[ao]at e;cases e;exact new
  ·rw[ai hb]at e;refine(I.hok b u e).stay (fun c v hc q=>k c v ?_ q) (fun c q=>by rw[ai (aI q hn)];exact q) (fun c _ _ q=>by rw[ai (aI q hn)];exact q) fun c xs q=>by rw[ai (aI q hn)];exact q
   rcases hc with z | z
   ·rw[z];exact nf b u e
   ·exact nf c _ z
noncomputable def Itv(K:Ds)(a:Addr)(n:Nat):It:=
 ⟨fun i H=>∃xs x,SqL K H a xs/\xs.length=n/\xs.reverse[i]?=some x,fun i H x H'=>H'=H/\∀xs,SqL K H a xs->xs.reverse[i]?=some x,fun i H=>n<=i⟩
theorem AX{P:Program}{w:World}{K:Ds}{tg:Expr}(a it:Addr)(n:Nat):Turn P w K tg (Itv K a n) [it] it (fun i h=>i<=n/\h.IsRevIter it a ((n:Int)-1-(i:Nat))) where
 mem:=by simp
 obj:=fun i h st b hb=>by
  have e:b=it:=by simpa using hb
  subst e;obtain⟨_,o,e,c,d⟩:=st;exact⟨o,e,fun v z=>by rw[d]at z;cases z⟩
 keep:=fun i h h' st k=>⟨st.1,st.2.at fun o e=>k it (by simp) o e⟩
 item:=by
  intro X hP hw hK hc i qL s σ H E I hf st hg;subst hP hw hK;obtain⟨xs,x,hq,hl,hx⟩:=hg;obtain⟨its,rv,p,hz⟩:=I.list hq;have hi:i<n:=by have:=(PU.mp hx).1;rw[Rr,hl]at this;exact this
  rw[Sq (by lia),hl]at hx;obtain⟨u,hu,ru⟩:=rv.get hx;obtain⟨f0,f1,f2,f3,f4,f5⟩:=hf it (by simp);obtain⟨_,st⟩:=st;have ei:((n:Int)-1-(i:Nat))=((n-1-i:Nat):Int):=by lia
  rw[ei]at st;refine wpAny_pyNext_rev_item st p.isList (x:=u) (by simpa using hu) fun h' st' sb=>?_;have ej:((n-1-i:Nat):Int)-1=(n:Int)-1-((i+1:Nat):Int):=by lia
  rw[ej]at st';have I1:Inv X qL σ H { s with heap:=h' }:=I.turned (t':=s.toks) (fun b o hb e=>(sb.2 b hb).trans e) f0 f1 f3 f4 f5;obtain⟨o,e,c,d⟩:=id st';refine⟨u,rfl,kY (s:={ s with heap:=h' }) e c d (by decide) ⟨x,H,I1,ru,⟨rfl,fun ys hy=>?_⟩,⟨hi,st'⟩,fun b hb=>(hf b hb).1⟩⟩;rw[I.eY hy hq,Sq (by lia),hl];exact hx
 done:=by
  intro X hP hw hK hc i qL s σ H E I hf st hg;subst hP hw hK;obtain⟨f0,f1,f2,f3,f4,f5⟩:=hf it (by simp);obtain⟨h1,st⟩:=st;have h2:n<=i:=hg;have ei:((n:Int)-1-(i:Nat))=-1:=by lia
  rw[ei]at st;exact wpAny_pyNext_rev_end (I.ok.hd hc) st fun h' eb=>⟨rfl,I.turned (t':=s.toks) (fun b o hb e=>eb b o hb e) f0 f1 f3 f4 f5⟩
 self:=fun _ _ _ _ _ st h=>wpAny_pyIter_revIter st.2 h
def GL(K:Ds)(tl:TE):TI:=fun σ H R=>tl σ H fun x H1=>∃a xs,x=.ref a/\SqL K H1 a xs/\R (Itv K a xs.length) H1
section
variable{X:Cx}{tg l:Expr}{tl:TE}{p pos:Pos}
theorem AY{Q:Value->Shared->Prop}{Qx:VK}{qL:List (Addr×Obj)}{s:Shared}{σ:L2.St}{H:Hp}(hg:Gl X "reversed")(hm:X.mg "reversed" = none)(hl:PE X l tl)(hs:starEach [l] X.env=[(false,eval l X.env)])(I:Inv X qL σ H s)(h:tl σ H Qx)
  (k:∀x H1 s1,Inv X qL σ H1 s1->Qx x H1->∃a xs,x=.ref a/\SqL X.K H1 a xs/\∀its:List Value,Vals xs its->PlainL s1.heap a its.toArray->xs.length<=sizeLine->Q (.ref s1.heap.objs.size) { s1 with heap:=s1.heap.push (revObj a ((its.toArray.size:Int)-1)) }) :
  wpAny (model X.prog X.w) X.A (eval (.Call (.Name "reversed" p) [l] [] pos) X.env) Q X.xe s:=by
 refine Call_ (cB I hg hm boot_reversed (QU (spliced_more ?_ (by rw[hs];rfl)) (by rw[hs];rfl) rfl));refine thn (hl qL s σ H _ I h) fun v s1 ⟨x,H1,I1,r1,q1⟩=>?_;obtain⟨a,xs,e,hq,q⟩:=k x H1 s1 I1 q1;subst e;cases r1;obtain⟨its,rv,pl,hz⟩:=I1.list hq;refine Rn (call_reversed_list pl.isList (q its rv pl hz))
theorem Jv(hg:Gl X "reversed")(hm:X.mg "reversed" = none)(hl:PE X l tl)(hs:starEach [l] X.env=[(false,eval l X.env)]:=by rfl):PI X tg (.Call (.Name "reversed" p) [l] [] pos) (GL X.K tl):=by
 intro qL s σ H R I h;refine AY hg hm hl hs I h fun x H1 s1 I1 q1=>?_;obtain⟨a,xs,e,hq,q⟩:=q1;refine⟨a,xs,e,hq,fun its rv pl hz=>?_⟩;have hn:(its.toArray.size:Int)=((xs.length:Nat):Int):=by rw[Qj,rv.length]
 have st:({ s1 with heap:=s1.heap.push (revObj a ((its.toArray.size:Int)-1)) }:Shared).heap.IsRevIter s1.heap.objs.size a (((xs.length:Nat):Int)-1-((0:Nat):Int)):=⟨_,QA _ rfl,rfl,by rw[hn];simp[revObj]⟩
 refine wpAny_pyIter_revIter st ?_;refine⟨s1.heap.objs.size,[s1.heap.objs.size],_,_,H1,rfl,I1.kept (t':=s1.toks) fun b o e=>Qc _ e,AX a _ xs.length,⟨QM _,st⟩,fun b hb=>?_,q⟩;have e:b=s1.heap.objs.size:=by simpa using hb
 subst e;exact I1.p7 (Qf _) (I1.hok.fresh (Qf _))
end
noncomputable def Ite(K:Ds)(a:Addr):It:=
 ⟨fun i H=>∃xs x,SqL K H a xs/\xs[i]?=some x,fun i H x H'=>∃p v,H p=none/\x=.ref p/\H'=upd H p (.tup [.int i,v])/\∀xs,SqL K H a xs->xs[i]?=some v,fun i H=>∃xs,SqL K H a xs/\xs.length<=i⟩
theorem y_{P:Program}{w:World}{K:Ds}{elts:List Expr}{x1}{tp:Pos}(a e it:Addr)(Pu:e≠it):Turn P w K (.Tuple elts x1 tp) (Ite K a) [e,it] e (fun i h=>(∃old,IsEnum h e it (i:Nat) old)/\h.IsListIter it a i) where
 mem:=by simp
 obj:=fun i h st b hb=>by
  obtain⟨⟨old,he⟩,o,e1,c,d⟩:=st;rcases Qk.mp hb with rfl | hb
  ·exact ⟨_,he,fun v z=>by have z':S5 _=SD v:=z;cases z'⟩
  ·have e2:b=it:=by simpa using hb
   subst e2;exact⟨o,e1,fun v z=>by rw[d]at z;cases z⟩
 keep:=fun i h h' st k=>⟨let ⟨old,he⟩:=st.1;⟨old,k e (by simp) _ he⟩,st.2.at fun o z=>k it (by simp) o z⟩
 item:=by
  intro X hP hw hK hc i qL s σ H E I hf st hg;subst hP hw hK;obtain⟨xs,x,hq,hx⟩:=hg;obtain⟨its,rv,p,hz⟩:=I.list hq;obtain⟨u,hu,ru⟩:=rv.get hx;obtain⟨⟨old,he⟩,Kf⟩:=st;refine wpAny_pyNext_enum_item he Kf p.isList (x:=u) (by simpa using hu) Pu fun h1 heo O6 ht1 hz1 hk1=>?_;refine⟨_,rfl,wpAny_letOwnedTupleGo_enum heo fun h2 he2 hs2=>?_⟩;have Kd:e<s.heap.objs.size:=Qh he;have ht2:h2.get? s.heap.objs.size=some { cls:=.type "tuple",data:=.seq #[.int i s.toks,u] }:=(hs2.2 _ (RO Kd)).trans ht1;have k2:∀b o,b∉[e,it]->s.heap.get? b=some o->h2.get? b=some o:=fun b o hb z=>by have n1:b≠e:=fun y=>hb (by simp[y]);have n2:b≠it:=fun y=>hb (by simp[y]);exact(hs2.2 b n1).trans (hk1 b o n1 n2 z)
  have hn:H s.heap.objs.size=none:=I.hok.fresh (Qf _);have I2:Inv X qL σ (upd H s.heap.objs.size (.tup [.int i,x])) { s with heap:=h2,toks:=s.toks+1 }:=
   pD I hf k2 (Qf _) ⟨by simp[sizeLine],[.int i s.toks,u],.cons ⟨s.toks,rfl⟩ (.cons ru .nil),_,ht2,rfl,_,rfl⟩
  refine⟨.ref s.heap.objs.size,_,I2,rfl,⟨_,x,hn,rfl,rfl,fun ys hy=>by rw[I.eY hy hq];exact hx⟩,⟨⟨u,?_⟩,?_⟩,fun b hb=>?_⟩
  ·have:(((i+1:Nat):Int))=(i:Int)+1:=by lia
   rw[this];exact he2
  ·exact O6.at fun o z=>(hs2.2 it (Ne.symm Pu)).trans z
  ·have hb1:b≠s.heap.objs.size:=fun y=>by
    rcases Qk.mp hb with z | z
    ·rw[y]at z;exact absurd z (RO Kd)
    ·have z':b=it:=by simpa using z
     obtain⟨o,ho,_⟩:=Kf;have:=Qh ho;rw[<- z',y]at this;exact Q0 _ this
   rw[ai hb1];exact(hf b hb).1
 done:=by intro X hP hw hK hc i qL s σ H E I hf st hg;subst hP hw hK;obtain⟨xs,hq,hx⟩:=hg;obtain⟨its,rv,p,hz⟩:=I.list hq;obtain⟨f0,f1,f2,f3,f4,f5⟩:=hf it (by simp);obtain⟨⟨old,he⟩,Kf⟩:=st;have hl:=rv.length;exact wpAny_pyNext_enum_end (I.ok.hd hc) he Kf p.isList (by simp;lia) fun h' eb=>⟨rfl,I.turned (t':=s.toks) (fun b o hb e=>eb b o hb e) f0 f1 f3 f4 f5⟩
 self:=fun A i s Q E st h=>by
  obtain⟨⟨old,he⟩,Kf⟩:=st;have hT:s.TypeIs (.ref e) "enumerate" := ⟨_,he,rfl⟩
  refine wpAny_pyIter_slot hT F.slot_enumerate_iter (wpAny_call_entry F.slot_enumerate_iter hT F.entry_enumerate_iter ?_ (F.args_enumerate_iter_1 _));show wpAny _ _ (ret (.ref e)) _ _ s;exact wpAny_pure ⟨_,rfl,"enumerate",_,hT,F.slot_enumerate_next.lookup,h⟩
def MX(K:Ds)(tl:TE):TI:=fun σ H R=>tl σ H fun x H1=>∃a,x=.ref a/\(∃xs,SqL K H1 a xs)/\R (Ite K a) H1
section
variable{X:Cx}{l:Expr}{tl:TE}{p pos:Pos}{elts:List Expr}{x1:Nat}{tp:Pos}
theorem EF(hg:Gl X "enumerate")(hm:X.mg "enumerate" = none)(hl:PE X l tl)(hs:starEach [l] X.env=[(false,eval l X.env)]:=by rfl):PI X (.Tuple elts x1 tp) (.Call (.Name "enumerate" p) [l] [] pos) (MX X.K tl):=by
 intro qL s σ H R I h;refine Call_ (cB I hg hm boot_enumerate (QU (spliced_more ?_ (by rw[hs];rfl)) (by rw[hs];rfl) rfl));refine thn (hl qL s σ H _ I h) fun v s1 ⟨x,H1,I1,r1,q1⟩=>?_;obtain⟨a,e,⟨xs,hq⟩,q⟩:=q1;subst e;cases r1;obtain⟨its,rv,pl,hz⟩:=I1.list hq;refine Rn (call_enumerate_list pl.isList fun h' he Kf hsz k=>?_);have I2:Inv X qL σ H1 { s1 with heap:=h' }:=I1.kept (t':=s1.toks) k;have T:=y_ (P:=X.prog) (w:=X.w) (K:=X.K) (elts:=elts) (x1:=x1) (tp:=tp) a (s1.heap.objs.size+1) s1.heap.objs.size (Nat.succ_ne_self _);refine T.self X.A 0 { s1 with heap:=h' } _ X.xe ⟨⟨_,he⟩,Kf⟩ ?_;refine⟨s1.heap.objs.size+1,[s1.heap.objs.size+1,s1.heap.objs.size],_,_,H1,rfl,I2,T,⟨⟨_,he⟩,Kf⟩,fun b hb=>?_,q⟩;have:s1.heap.objs.size<=b:=by
  rcases Qk.mp hb with rfl | hb
  ·exact S6 _
  ·have:b=s1.heap.objs.size:=by simpa using hb
   exact Nat.le_of_eq this.symm
 exact I1.p7 this (I1.hok.fresh this)
end
theorem ve:typeLookup (.type "list_reverseiterator") "__len__" = pure none:=by rw[typeLookup_type,builtinLookup_eq_fast];kernel_rfl
theorem AZ:typeLookup (.type "list_reverseiterator") "__length_hint__" = pure (some (.builtin "list_reverseiterator.__length_hint__")):=by rw[typeLookup_type,builtinLookup_eq_fast];kernel_rfl
section
variable{prog:Program}{w:World}{A:Around}{E:Value->Shared->Prop}{s:Shared}
section
variable{I l:Addr}
theorem A0{i:Int}{Q:Bool->Shared->Prop}(Kf:s.heap.IsRevIter I l i)(h:Q false s):wpAny (model prog w) A (Builtin.List.listLengthHint (.ref I)) Q E s:=by
 unfold Builtin.List.listLengthHint;refine wpAny_bind (wpAny_specialOf Kf.typeIs ve ?_);show wpAny _ A (specialOf (QW I) (Str.ofString "__length_hint__") >>= _) _ _ _;refine wpAny_bind (wpAny_specialOf Kf.typeIs AZ ?_)
 generalize hid:("list_reverseiterator.__length_hint__" : String)=id0
 wp_delta
 rw[show splitId id0=some ("list_reverseiterator","__length_hint__") from by subst hid;decide +kernel];subst hid;refine wpAny_bind (wpAny_isInstance (T := "list_reverseiterator") (b:=true) Kf.typeIs (by rw[isSubtype_type];kernel_rfl) ?_);refine wpAny_ite_split (fun Px=>absurd Px (by decide)) (fun _=>?_);refine wpAny_ite_split (fun _=>?_) (fun Px=>absurd (by decide +kernel) Px);refine wpAny_ite_split (fun Px=>absurd Px (by decide +kernel)) (fun _=>wpAny_pure h)
theorem vf{R:Result->Shared->Prop}{items:Array Value}(hh:A.handled=none)(Kf:s.heap.IsRevIter I l ((items.size:Int)-1))(hl:s.heap.IsList l items)(Pu:l≠I)(zo:items.size<=sizeLine)
  (S:Addr) (res:Value) (c₀:Nat) (hSI:S≠I) (hSl:S≠l) (hS:s.heap.get? S=some { cls:=.type "list",data:=.seq #[] c₀ })
  (hR:∀ h' tk acc' c',(∀ b o,b≠S→b≠I→s.heap.get? b=some o→h'.get? b=some o)→h'.get? S=some { cls:=.type "list",dict:=none,data:=.seq acc' c',slots:=#[] } →
   ItemsOf (fun i v=>items[items.size-1-i]?=some v) acc' items.size->R (.ok (.ret res)) { s with heap:=h',toks:=tk }) :
  wpAny (model prog w) A.in1 (RJ (.ref S) (.ref I) res)
   (fun Nr s'=>match Nr with | .done f=>R (.ok f) s' | .again c'=>c'.quiet=true/\codeAny (model prog w) A c' R s') (fun e s'=>R (.error e) s') s:=by
 have hSf:S∉[I,l]:=fun hm=>by
  rcases Qk.mp hm with z | z
  ·exact hSI z
  ·exact hSl (Qo.mp z)
 have W:=(Walks.listRev (prog:=prog) (w:=w) (A:=A.in1) hh I l Pu items).toS;unfold RJ;refine wpAny_bind (wpAny_typeOf (T := "list_reverseiterator") Kf.typeIs ?_);have h1:Builtin.List.listSameRef (.ref S) (.ref I)=false:=by simp[Builtin.List.listSameRef,hSI]
 have h2:(Sh "list_reverseiterator" == Sh "list")=false:=by decide
 have h3:(Sh "list_reverseiterator" == Sh "tuple")=false:=by decide
 simp only[h1,h2,h3,Bool.or_false,RI,if_false];refine wpAny_bind (wpAny_pyIter_revIter Kf ?_);refine wpAny_bind (wpAny_holding (A0 Kf ?_));refine wpAny_ite_split (fun Px=>absurd Px (by decide +kernel)) (fun _=>wpAny_pure ⟨plainId_quiet F.plain_extend_loop _,?_⟩);have hst:(0<=items.size)/\s.heap.IsRevIter I l ((items.size:Int)-1-((0:Nat):Int))/\s.heap.IsList l items:=⟨QM _,by simpa using Kf,hl⟩
 refine codeAny_extend_loopS W zo S hSf res items.size 0 _ #[] c₀ rfl (QM _) hst hS (ItemsOf.nil _) fun s' acc' c' hm hS' hacc=>?_;rw[Moved.eq_with hm];refine hR s'.heap s'.toks acc' c' (fun b o hb hb2 e=>hm.heap b o (fun hmem=>?_) e) hS' hacc;rcases Qk.mp hmem with e' | hmem
 ·exact hb e'
 ·exact hb2 (Qo.mp hmem)
theorem A1{R:Result->Shared->Prop}{items:Array Value}(hh:A.handled=none)(Kf:s.heap.IsRevIter I l ((items.size:Int)-1))(hl:s.heap.IsList l items)(Pu:l≠I)(zo:items.size<=sizeLine)
  (S:Addr) (hSI:S≠I) (hSl:S≠l) (hS:s.heap.get? S=some { cls:=.type "list",data:=.seq #[] })
  (hR:∀ h' tk acc' c',(∀ b o,b≠S→b≠I→s.heap.get? b=some o→h'.get? b=some o)→h'.get? S=some { cls:=.type "list",dict:=none,data:=.seq acc' c',slots:=#[] } →
   ItemsOf (fun i v=>items[items.size-1-i]?=some v) acc' items.size->R (.ok (.ret .none)) { s with heap:=h',toks:=tk }) :
  wpAny (model prog w) A.in1 (Builtin.«list.__init__» ⟨[.ref S,.ref I],[]⟩)
   (fun Nr s'=>match Nr with | .done f=>R (.ok f) s' | .again c'=>c'.quiet=true/\codeAny (model prog w) A c' R s') (fun e s'=>R (.error e) s') s:=by
 show wpAny _ A.in1 (do let old <- Builtin.List.listItems (.ref S);Builtin.List.listUpdate (.ref S) (fun _=>#[]);letGo old.toList.reverse;RJ (.ref S) (.ref I) .none) _ _ s;refine wpAny_bind ?_;unfold Builtin.List.listItems;refine wpAny_bind (wpAny_seqItems hS rfl (wpAny_pure ?_));show wpAny _ A.in1 (updateSeq S (fun _=>#[]) >>= fun _=>letGo (#[]:Array Value).toList.reverse >>= fun _=>RJ (.ref S) (.ref I) .none) _ _ s;refine wpAny_bind (wpAny_updateSeq hS rfl ?_);have hS₂:=RZ (Si (fun _=>(#[]:Array Value))) hS rfl;have oth:∀b o,b≠S->s.heap.get? b=some o->(s.heap.update S (Si (fun _=>(#[]:Array Value)))).get? b=some o:=
  fun b o hb e=>(Q9 _ _ (Ne.symm hb)).trans e
 refine wpAny_bind (wpAny_letGo ?_);refine vf hh (Kf.at fun o e=>oth I o (Ne.symm hSI) e) (hl.at fun o e=>oth l o (Ne.symm hSl) e) Pu zo S .none _ hSI hSl hS₂ fun h' tk acc' c' hk hS' hacc=>?_;exact hR h' tk acc' c' (fun b o hb hb2 e=>hk b o hb hb2 (oth b o hb e)) hS' hacc
theorem oJ{Q:Value->Shared->Prop}{items:Array Value}(hh:A.handled=none)(Kf:s.heap.IsRevIter I l ((items.size:Int)-1))(hl:s.heap.IsList l items)(Pu:l≠I)(zo:items.size<=sizeLine)
  (hQ:∀ h' tk acc' c',(∀ b o,b≠I→s.heap.get? b=some o→h'.get? b=some o)→h'.get? s.heap.objs.size=some { cls:=.type "list",dict:=none,data:=.seq acc' c',slots:=#[] } →
   ItemsOf (fun i v=>items[items.size-1-i]?=some v) acc' items.size->Q (.ref s.heap.objs.size) { s with heap:=h',toks:=tk }) :
  wpAny (model prog w) A (call (.type "list") [.ref I]) Q E s:=by
 refine callType_codes (Q₁:=fun obj s₁=>obj=.ref s.heap.objs.size/\s₁={ s with heap:=s.heap.push { cls:=.type "list",data:=.seq #[] } }) F.called_list (F.typeCall_list_1 _) F.entry_list_init
  (code_list_new _ ⟨rfl,rfl⟩) fun obj s₁ h₁=>?_
 obtain⟨rfl,rfl⟩:=h₁;have hS:(s.heap.push { cls:=.type "list",data:=.seq #[] }).get? s.heap.objs.size=some { cls:=.type "list",data:=.seq #[] }:=QA _ rfl;obtain⟨oi,hoi,_⟩:=id Kf;obtain⟨ol,hol,_⟩:=id hl;refine⟨⟨_,hS,rfl⟩,F.args_list_init_2 _ _,A1 (A:=A.in1) hh (Kf.at fun o e=>Qc _ e) (hl.at fun o e=>Qc _ e) Pu zo _ (RO (Qh hoi)) (RO (Qh hol)) hS fun h' tk acc' c' hk hS' hacc=>?_⟩;exact⟨rfl,hQ h' tk acc' c' (fun b o hb e=>hk b o (QF (Qh e)) hb (Qc _ e)) hS' hacc⟩
end
end
theorem lP{P:Nat->Value->Prop}{En:Array Value}{ys:List V}(h:ItemsOf P En ys.length)(k:∀i v,P i v->i<ys.length->∃y,ys[i]?=some y/\RelV y v):Vals ys En.toList:=by
 have:∀(ys:List V) (us:List Value),ys.length=us.length->(∀(i:Nat) (u:Value),us[i]?=some u->∃y,ys[i]?=some y/\RelV y u)->Vals ys us:=by
  intro ys
  induction ys with
  |nil=>intro us e _;cases us with
   |nil=>exact .nil
   |cons _ _=>cases e
  |cons y ys ih=>intro us e f;cases us with
   |nil=>cases e
   |cons u us=>obtain⟨y',h1,h2⟩:=f 0 u rfl;cases h1;exact .cons h2 (ih us (by simpa using e) fun i u' hu=>by simpa using f (i+1) u' (by simpa using hu))
 refine this ys En.toList (by have:=h.1;simp only[R6];exact this.symm) fun i u hu=>?_;have hu':En[i]?=some u:=by rw[<- Sn];exact hu
 have hi:i<ys.length:=by rw[<- h.1];exact(Array.getElem?_eq_some_iff.mp hu').1
 exact k i u (h.2 i u hu') hi
def Jw(K:Ds)(tl:TE):TE:=fun σ H Q=>tl σ H fun x H1=>∃a xs,x=.ref a/\SqL K H1 a xs/\∀q,H1 q=none->Q (.ref q) (upd H1 q (.lst xs.reverse))
def MY(ta:TA):TE:=fun σ H Q=>ta σ H fun vs H1=>∃j:Int,vs=[.int j]/\-(2 ^ 62)<=j/\j<=1000000/\∀q,H1 q=none->Q (.ref q) (upd H1 q (.lst ((Qs j.toNat).map fun i=>V.int (i:Nat))))
section
variable{X:Cx}{l a:Expr}{tl:TE}{ta:TA}{p pos p0 lQ:Pos}
theorem A2(hc:X.calm=true)(hgl:Gl X "list")(hml:X.mg "list" = none)(hg:Gl X "reversed")(hm:X.mg "reversed" = none)(hl:PE X l tl)(hs:starEach [l] X.env=[(false,eval l X.env)]:=by rfl)
  (hs0:starEach [.Call (.Name "reversed" p) [l] [] pos] X.env=[(false,eval (.Call (.Name "reversed" p) [l] [] pos) X.env)]:=by rfl) :
  PE X (.Call (.Name "list" p0) [.Call (.Name "reversed" p) [l] [] pos] [] lQ) (Jw X.K tl):=by
 intro qL s σ H Q I h;refine wpAny_Call_Name_kw (cB I hgl hml boot_list (QU (spliced_more ?_ (by rw[hs0];rfl)) (by rw[hs0];rfl) rfl));refine AY hg hm hl hs I h fun x H1 s1 I1 q1=>?_;obtain⟨a,xs,e,hq,q⟩:=q1;refine⟨a,xs,e,hq,fun its rv pl hz=>Rn ?_⟩;have hal:a<s1.heap.objs.size:=by obtain⟨o,ho,_⟩:=pl.isList;exact Qh ho
 have hn:=rv.length;refine oJ (items:=its.toArray) (I.ok.hd hc) ⟨_,QA _ rfl,rfl,rfl⟩ (pl.isList.at fun o e=>Qc _ e) (QF hal) (by rw[Qj,<- hn];exact hz) fun h' tk acc' c' hk hS' hacc=>?_;have hsz:({ s1 with heap:=s1.heap.push (revObj a ((its.toArray.size:Int)-1)) }:Shared).heap.objs.size=s1.heap.objs.size+1:=RN ..;have hp:s1.heap.objs.size<=({ s1 with heap:=s1.heap.push (revObj a ((its.toArray.size:Int)-1)) }:Shared).heap.objs.size:=by rw[hsz];exact S6 _
 have vl:Vals xs.reverse acc'.toList:=by
  refine lP (by rw[Rr,hn,<- Qj];exact hacc) fun i v hv hi=>?_;rw[Rr]at hi;rw[Qj]at hv;have hv':its[its.length-1-i]?=some v:=by simpa using hv
  rw[Sq hi,hn];have Kd:=(PU.mp hv').1;have hx:xs[its.length-1-i]?=some (xs[its.length-1-i]'(by lia)):=Ql _;obtain⟨u,hu,ru⟩:=rv.get hx;rw[hv']at hu;cases hu;exact⟨_,hx,ru⟩
 have ok:aT X.prog X.w (upd H1 ({ s1 with heap:=s1.heap.push (revObj a ((its.toArray.size:Int)-1)) }:Shared).heap.objs.size (.lst xs.reverse)) h' ({ s1 with heap:=s1.heap.push (revObj a ((its.toArray.size:Int)-1)) }:Shared).heap.objs.size (.lst xs.reverse):=⟨by rw[Rr];exact hz,acc'.toList,c',vl,by simpa using hS'⟩
 exact⟨.ref _,_,I1.laid (t':=tk) (fun b u e=>hk b u (QF (Qh e)) (Qc _ e)) hp ok,rfl,q _ (I1.hok.fresh hp)⟩
theorem EG(hc:X.calm=true)(hgl:Gl X "list")(hml:X.mg "list" = none)(hg:Gl X "range")(hm:X.mg "range" = none)(ha:PA X [a] ta)(hs:starEach [a] X.env=[(false,eval a X.env)]:=by rfl)
  (hs0:starEach [.Call (.Name "range" p) [a] [] pos] X.env=[(false,eval (.Call (.Name "range" p) [a] [] pos) X.env)]:=by rfl) :
  PE X (.Call (.Name "list" p0) [.Call (.Name "range" p) [a] [] pos] [] lQ) (MY ta):=by
 intro qL s σ H Q I h;refine wpAny_Call_Name_kw (cB I hgl hml boot_list (QU (spliced_more ?_ (by rw[hs0];rfl)) (by rw[hs0];rfl) rfl));refine Call_ (cB I hg hm boot_range (QU (thn (ha pos qL s σ H _ I h) fun us s1 ⟨vs,H1,I1,r1,q1⟩=>?_) hs rfl));obtain⟨j,e,q1,q2,q⟩:=q1;subst e;cases r1 with
 |cons r rr=>
  cases rr;obtain⟨t,rfl⟩:=r;refine call_range_1 (Rn ?_);have hn:RC 0 j 1=(j.toNat:Nat):=by rw[rangeSize_one];split<;>lia
  refine call_list_range (n:=j.toNat) (I.ok.hd hc) (IsRange.new ..) (small_one (by lia) (by lia) q1 (by lia)) hn (by lia) fun h' tk acc' c' hk hS' hacc=>?_;have hsz:(s1.heap.push { cls:=.type "range",data:=.fields #[.int 0 s1.toks,.int j t,.int 1 (s1.toks+1)] }).objs.size=s1.heap.objs.size+1:=RN ..;have hp:s1.heap.objs.size<=(s1.heap.push { cls:=.type "range",data:=.fields #[.int 0 s1.toks,.int j t,.int 1 (s1.toks+1)] }).objs.size:=by rw[hsz];exact S6 _
  have vl:Vals ((Qs j.toNat).map fun i=>V.int (i:Nat)) acc'.toList:=by
   refine lP (by rw[Dp,QG];exact hacc) fun i v hv hi=>?_;obtain⟨t,rfl⟩:=hv;rw[Dp,QG]at hi;refine⟨.int (i:Nat),by rw[Qm,Rq hi];rfl,t,?_⟩;have:(0:Int)+(i:Int)*1=i:=by lia
   rw[this]
  have ok:aT X.prog X.w (upd H1 (s1.heap.push { cls:=.type "range",data:=.fields #[.int 0 s1.toks,.int j t,.int 1 (s1.toks+1)] }).objs.size (.lst ((Qs j.toNat).map fun i=>V.int (i:Nat)))) h' (s1.heap.push { cls:=.type "range",data:=.fields #[.int 0 s1.toks,.int j t,.int 1 (s1.toks+1)] }).objs.size (.lst ((Qs j.toNat).map fun i=>V.int (i:Nat))):=
   ⟨by rw[Dp,QG,sizeLine_eq];lia,acc'.toList,c',vl,by simpa using hS'⟩
  exact⟨.ref _,_,I1.laid (t':=tk) (fun b u e=>hk b u (Qc _ e)) hp ok,rfl,q _ (I1.hok.fresh hp)⟩
end
section
variable{ds:List Dat}{xs:List V}{a:Addr}{H0:Hp}
theorem aC.rev{H:Hp}(h:aC H xs ds):aC H xs.reverse ds.reverse:=by
 induction xs generalizing ds with
 |nil=>cases h;exact .nil
 |cons x xs ih=>
  cases h with
  |cons r rs=>rw[SQ,SQ];exact(ih rs).append (.cons r .nil)
theorem Jx{K:Ds}(hq:Rd H0 a (.lst xs))(rs:aC H0 xs ds):JW (Itv K a xs.length) H0 ds.reverse:=by intro H0' H s0 s1;have q:SqL K H a xs:=.inl (aq.rd s1 (aq.rd s0 hq));refine⟨fun i hi=>by rw[Rr,<- rs.length]at hi;exact hi,fun i d e=>?_⟩;obtain⟨v,hv,rv⟩:=rs.rev.get e;refine⟨⟨xs,v,q,rfl,hv⟩,fun x H' y=>?_⟩;obtain⟨e1,y⟩:=y;subst e1;have z:=y xs q;rw[hv]at z;cases z;exact⟨H0',aK.refl s1,rv.mono s0⟩
theorem rY:∀(ds:List Dat) (i:Nat),(Dm.i8 i ds).length=ds.length
 |[],_=>rfl
 |_::ds,i=>by simp[Dm.i8,rY ds]
theorem rZ:∀(ds:List Dat) (i j:Nat) (d:Dat),(Dm.i8 i ds)[j]?=some d->∃x,ds[j]?=some x/\d=.tup [.int ((i+j:Nat):Int),x]
 |[],_,_,_,h=>by cases h
 |x::ds,i,0,d,h=>by cases h;exact⟨x,rfl,rfl⟩
 |x::ds,i,j+1,d,h=>by
  obtain⟨y,h1,h2⟩:=rZ ds (i+1) j d h;refine⟨y,h1,?_⟩;rw[h2];have:i+1+j=i+(j+1):=by lia
  rw[this]
theorem EH{K:Ds}(hq:Rd H0 a (.lst xs))(rs:aC H0 xs ds):JW (Ite K a) H0 (Dm.i8 0 ds):=by intro H0' H s0 s1;have q:SqL K H a xs:=.inl (aq.rd s1 (aq.rd s0 hq));refine⟨fun i hi=>⟨xs,q,by rw[rs.length,<- rY ds 0];exact hi⟩,fun i d e=>?_⟩;obtain⟨d',hd,rfl⟩:=rZ ds 0 i d e;obtain⟨v,hv,rv⟩:=rs.get hd;refine⟨⟨xs,v,q,hv⟩,fun x H' y=>?_⟩;obtain⟨p,v',hn,rfl,rfl,y⟩:=y;have z:=y xs q;rw[hv]at z;cases z;have g:=aK.AB (o:=HO.tup [.int i,v]) s1 hn;refine⟨_,g,.tup ao (.cons ?_ (.cons ((rv.mono s0).mono g.s0) .nil))⟩;rw[SY];exact .int _
end
section
variable{σ:L2.St}{H:Hp}{R:It->Hp->Prop}
theorem Jy{K:Ds}{f:FE}(h:tDI (Dm.y9 f) σ H R):GL K (tD f) σ H R:=by
 obtain⟨H0,ρ,ys,ρ',st,e,k⟩:=h;unfold Dm.y9 at e;split at e
 ·cases e
 rename_i x ρ1 e1;split at e
 ·rename_i ds ρ2 e2;cases e;refine⟨H0,ρ,_,ρ1,st,e1,fun v H0' H' t r=>?_⟩;obtain⟨H1,t1,b1,r1,_,_⟩:=take1 t (aq.refl _) r e2;cases r1 with
  |lst q rs=>exact⟨_,_,rfl,.inl (aq.rd t1.st.same q),k _ H1 H' t1 (Jx q rs)⟩
 ·cases e
theorem MZ{K:Ds}{f:FE}(h:tDI (Dm.iEn f) σ H R):MX K (tD f) σ H R:=by
 obtain⟨H0,ρ,ys,ρ',st,e,k⟩:=h;unfold Dm.iEn at e;split at e
 ·cases e
 rename_i x ρ1 e1;split at e
 ·rename_i ds ρ2 e2;cases e;refine⟨H0,ρ,_,ρ1,st,e1,fun v H0' H' t r=>?_⟩;obtain⟨H1,t1,b1,r1,_,_⟩:=take1 t (aq.refl _) r e2;cases r1 with
  |lst q rs=>exact⟨_,rfl,⟨_,.inl (aq.rd t1.st.same q)⟩,k _ H1 H' t1 (EH q rs)⟩
 ·cases e
end
theorem A3{K:Ds}:UnD (fun x H Q=>∃a xs,x=.ref a/\SqL K H a xs/\∀q,H q=none->Q (.ref q) (upd H q (.lst xs.reverse))) Dm.lO:=by
 intro H0 H x dx z Q s rx e k;unfold Dm.lO at e;split at e
 ·cases e;obtain⟨a,us,rfl,qa,ra⟩:=bq s rx;exact⟨a,us,rfl,.inl qa,fun p hp=>k _ _ _ (aK.lB s hp) ⟨p,rfl,hp,s.free hp,_,ao,ra.rev⟩⟩
 ·cases e
theorem A4{H:Hp}:∀(n:Nat) ,aC H ((Qs n).map fun i=>V.int (i:Nat)) (Dm.ups 0 n):=by
 intro n;unfold Dm.ups;have:∀l:List Nat,aC H (l.map fun i=>V.int (i:Nat)) (l.map fun i=>Dat.int (0+(i:Nat))):=fun l=>by
  induction l with
  |nil=>exact .nil
  |cons x l ih=>rw[Qa,Qa,S0];exact .cons (.int _) ih
 exact this _
theorem EI:CallD (fun xs H Q=>∃j:Int,xs=[.int j]/\-(2 ^ 62)<=j/\j<=1000000/\∀q,H q=none->Q (.ref q) (upd H q (.lst ((Qs j.toNat).map fun i=>V.int (i:Nat))))) Dm.pC:=by
 intro H0 H xs ds z Q s rx e k;unfold Dm.pC at e;split at e
 ·rename_i j;split at e
  ·rename_i hb;cases e;cases rx with
   |cons r rr=>cases rr;cases az r;exact⟨j,rfl,by lia,hb.1,fun p hp=>k _ _ _ (aK.lB s hp) ⟨p,rfl,hp,s.free hp,_,ao,A4 _⟩⟩
  ·cases e
 ·cases e
section
variable{X:Cx}{tg e a b c:Expr}{f fa fb fc:FE}{p pos p0 lQ:Pos}{elts:List Expr}{x1:Nat}{tp:Pos}
theorem M0(hg:Gl X "reversed")(hm:X.mg "reversed" = none)(h:DE X e f)(hs:starEach [e] X.env=[(false,eval e X.env)]:=by rfl):DI X tg (.Call (.Name "reversed" p) [e] [] pos) (Dm.y9 f):=PI.weak (Jv hg hm h hs) fun _ _ _=>Jy
theorem O7(hg:Gl X "enumerate")(hm:X.mg "enumerate" = none)(h:DE X e f)(hs:starEach [e] X.env=[(false,eval e X.env)]:=by rfl):DI X (.Tuple elts x1 tp) (.Call (.Name "enumerate" p) [e] [] pos) (Dm.iEn f):=PI.weak (EF hg hm h hs) fun _ _ _=>MZ
theorem EJ(hc:X.calm=true)(hgl:Gl X "list")(hml:X.mg "list" = none)(hg:Gl X "reversed")(hm:X.mg "reversed" = none)(h:DE X e f)(hs:starEach [e] X.env=[(false,eval e X.env)]:=by rfl)
  (hs0:starEach [.Call (.Name "reversed" p) [e] [] pos] X.env=[(false,eval (.Call (.Name "reversed" p) [e] [] pos) X.env)]:=by rfl) :
  DE X (.Call (.Name "list" p0) [.Call (.Name "reversed" p) [e] [] pos] [] lQ) (Dm.e1 Dm.lO f):=PE.weak (A2 hc hgl hml hg hm h hs hs0) fun _ _ _=>Mr A3
theorem Jz(hc:X.calm=true)(hgl:Gl X "list")(hml:X.mg "list" = none)(hg:Gl X "range")(hm:X.mg "range" = none)(h:DA X [a] [fa])(hs:starEach [a] X.env=[(false,eval a X.env)]:=by rfl)
  (hs0:starEach [.Call (.Name "range" p) [a] [] pos] X.env=[(false,eval (.Call (.Name "range" p) [a] [] pos) X.env)]:=by rfl) :
  DE X (.Call (.Name "list" p0) [.Call (.Name "range" p) [a] [] pos] [] lQ) (Dm.eB Dm.pC [fa]):=PE.weak (EG hc hgl hml hg hm h hs hs0) fun _ _ _=>El EI
end
end Br
namespace Dm
noncomputable def aV(i:Nat)(own:Nat)(bd:FB)(t:FT)(el:FE):FE:=fun ρ=>match ρ[i]? with
 | some (.ow (.lst ds))=>if ds.length≤SZ then (match cA bd t el ds (ρ.set i .un++Qd own .un) [] with
  |none=>none
  |some (ys,ρ2)=>some (.new (.lst ys),(ρ2.take ρ.length).set i (.ow (.lst ds)))) else none
 |_=>b9 (iS (eV i)) own bd t el ρ
end Dm
namespace Br
open PySem PySem.Spec PyProof.Rows L2
theorem A5{K:Ds}{H0:Hp}{a:Addr}{xs:List V}{ds:List Dat}(rs:aC H0 xs ds):JWa (Itl K a) H0 (some (a,.lst xs)) ds:=by intro H0' H s0 s1 hq;have hq:=hq _ rfl;have q:SqL K H a xs:=.inl (.inl hq);refine⟨fun i hi=>⟨xs,q,by rw[rs.length];exact hi⟩,fun i d e=>?_⟩;obtain⟨v,hv,rv⟩:=rs.get e;refine⟨⟨xs,v,q,hv⟩,fun x H' y=>?_⟩;obtain⟨e1,y⟩:=y;subst e1;have z:=y xs q;rw[hv]at z;cases z;exact⟨H0',aK.refl s1,rv.mono s0⟩
theorem EK{K:Ds}{σ:L2.St}{H:Hp}{i own:Nat}{bd:Dm.FB}{g:TG}{t:FT}{el:FE}{is:List Nat}{Q:VK}(hb:BD is g bd)(hl:∀i∈is,σ.length<=i)(h:tD (Dm.aV i own bd t el) σ H Q) :
  tLC (fun σ H R=>jT K (tD (Dm.eV i)) σ H R\/z7 K (tD (Dm.eV i)) σ H R) own g (tDT t) (tD el) σ H Q:=by
 obtain⟨H0,ρ,x,ρ',st,e,k⟩:=h;unfold Dm.aV at e;split at e
 ·rename_i ds eo;split at e
  case isFalse=>cases e
  rename_i hsz;split at e
  ·cases e
  rename_i ys ρ2 e2;cases e;refine .inl ⟨H0,ρ,.slot i,ρ,st,by unfold Dm.eV;rw[eo],fun v H0' H' t1 r=>?_⟩;obtain⟨a,qa,na,xs,ha,rs⟩:=t1.st.ow i _ eo;obtain⟨r1,_⟩:=r;rw[qa]at r1;cases r1;have nO:¬ak σ (ρ.set i .un) a:=fun z=>by obtain⟨j,d,hj,h1,h2⟩:=bF z;exact hj (t1.st.dis j i d _ a h1 eo h2 qa)
  have Kd:i<ρ.length:=(PU.mp eo).1;refine⟨a,rfl,⟨xs,.inl (.inl ha)⟩,fun D hD=>lE hb hl (t1.st.mask i) (fun q e=>by cases e;exact⟨ha,na,nO⟩) (A5 rs) hsz e2 (fun v H1 Hc t2 r2 hpa=>?_) D hD⟩;obtain⟨ha2,na2⟩:=hpa _ rfl;rw[QC]at t2 r2;have oo:∀b,ak σ ((ρ2.take ρ.length).set i (.ow (.lst ds))) b->b=a\/ak σ (ρ2.take ρ.length) b:=fun b ⟨j,d,h1,h2⟩=>by
   by_cases q:i=j
   ·subst q;rw[qa]at h2;cases h2;exact .inl rfl
   ·rw[Dk q]at h1;exact .inr ⟨j,d,h1,h2⟩
  have om:∀b,ak σ (ρ.set i .un) b->ak σ ρ b:=fun b z=>by obtain⟨j,d,hj,h1,h2⟩:=bF z;exact⟨j,d,h1,h2⟩
  have oa:ak σ ρ a:=⟨i,_,eo,qa⟩
  have nO2:¬ak σ (ρ2.take ρ.length) a:=fun z=>nO (t2.own a z);have vg:(ρ2.take ρ.length).length=ρ.length:=by rw[<- t2.st.len,st.len]
  refine k v H1 Hc (t1.trans ⟨⟨t2.st.same,by rw[QC];exact t2.st.len,fun j d h=>?_,fun j d h=>?_,fun j j' d d' b h1 h2 h3 h4=>?_⟩,t2.stp.wide om,fun b z=>?_,fun j z=>?_⟩) ?_
  ·by_cases q:i=j
   ·subst q;rw[Qz (by rw[vg];exact Kd)]at h;cases h
   ·rw[Dk q]at h;exact t2.st.sh j d h
  ·by_cases q:i=j
   ·subst q;rw[Qz (by rw[vg];exact Kd)]at h;cases h;exact⟨a,qa,na2,xs,ha2,rs.mono t2.stp.s0⟩
   ·rw[Dk q]at h;exact t2.st.ow j d h
  ·by_cases q:i=j
   ·subst q;by_cases q':i=j'
    ·exact q'
    ·rw[Dk q']at h2;rw[qa]at h3;cases h3;exact absurd ⟨j',d',h2,h4⟩ nO2
   ·rw[Dk q]at h1;by_cases q':i=j'
    ·subst q';rw[qa]at h4;cases h4;exact absurd ⟨j,d,h1,h3⟩ nO2
    ·rw[Dk q']at h2;exact t2.st.dis j j' d d' b h1 h2 h3 h4
  ·rcases oo b z with rfl | z
   ·exact oa
   ·exact om b (t2.own b z)
  ·trivial
  ·obtain⟨D',e',n',no',n0',w'⟩:=r2;refine⟨D',e',t1.stp.gone n',fun z=>?_,n0',w'⟩;rcases oo D' z with rfl | z
   ·rw[n']at ha;cases ha
   ·exact no' z
 ·have h2:=u_ (fi:=Dm.iS (Dm.eV i)) hb hl ⟨H0,ρ,x,ρ',st,e,k⟩;exact MW h2
section
variable{X:Cx}{Nv tg:Expr}{Kr:List Expr}{scope:Scope}{pos px:Pos}{bd:Dm.FB}{is:List Nat}{t:FT}{f:FE}{x:Str}
theorem i_M(i:Nat)(h:DE X (.Name x px) (Dm.eV i)):PI X tg (.Name x px) (fun σ H R=>jT X.K (tD (Dm.eV i)) σ H R\/z7 X.K (tD (Dm.eV i)) σ H R):=PI.or (p8 h) (z8 h)
theorem dh(i:Nat)(nm own:List Str)(hg:TGc X nm scope own tg is bd)(hi:DE X (.Name x px) (Dm.eV i))(ht:∀cl C s H fp,DTs (aU X nm scope own cl C s H fp) Kr t)(he:∀cl C s H fp,DE (aU X nm scope own cl C s H fp) Nv f)
  (hc:X.calm=true:=by rfl) (hk:scope.kind=.function:=by rfl) (hS:jY X.env.scope X.N nm scope=true:=by rfl) (hl:(is.all fun i=>decide (X.N.length<=i))=true:=by rfl) (hs:∀y,foldedSetIterable (.Name x px) X.env y=pure y:=by intro _;rfl) :
  DE X (.ListComp Nv [⟨tg,.Name x px,Kr,0⟩] scope pos) (Dm.aV i own.length bd t f):=by
 obtain⟨g,h1,h2⟩:=hg.ex;intro qL s σ H Q I h;exact wO hc (cD.of hS hk) (i_M i hi) h1 ht he hs qL s σ H Q I (EK h2 (fun i hi=>by rw[I.len];exact rX hl i hi) h)
end
end Br
namespace Dm
noncomputable def fX:List Dat->List Dat->List Dat
 |x::xs,y::ys=>.tup [x,y]::fX xs ys
 |_,_=>[]
noncomputable def EL(a b:FE):FI:=fun ρ=>match eAs [a,b] ρ with
 | some (vs,ρ1)=>(match tks ρ1 vs with
  |some ([.lst xs,.lst ys],ρ2)=>some (fX xs ys,ρ2)
  |_=>none)
 |none=>none
end Dm
namespace Br
open PySem PySem.Spec PyProof.Rows L2
theorem vh{X:Cx}{qL:List (Addr×Obj)}{σ:L2.St}{H:Hp}{s:Shared}{h':Heap}{t':Nat}{fp:List Addr}(I:Inv X qL σ H s)(hf:∀b∈fp,oE X qL H b)
  (k:∀b u,b∉fp->s.heap.get? b=some u->h'.get? b=some u):Inv X qL σ H { s with heap:=h',toks:=t' }:=by
 have nf:∀b u,H b=some u->b∉fp:=fun b u e z=>by rw[(hf b z).1]at e;cases e
 have nL:X.env.locals∉fp:=fun z=>(hf _ z).2.1 rfl;refine I.step (g':=s.gens) (d':=s.drawn) (ch:=fp) (fun b hb=>?_) (fun b u _ _ hc e _=>k b u hc e) (fun b u _ _ hc e _=>⟨u.slots,k b u hc e⟩)
  (fun b u _ e n=>n) (fun b u hc e=>⟨u,k b u hc e⟩)
  (fun b xs q=>q) (fun b u xs q=>q) (fun _ _ _ _ q=>q) (fun m hm=>?_) (fun b u e=>?_) I.bare
 ·obtain⟨f0,f1,f2,f3,f4,f5⟩:=hf b hb;exact⟨f3,f1,f4,f5⟩
 ·obtain⟨o,es,ep,ho,r⟩:=hm;exact⟨o,es,ep,k _ o nL ho,r⟩
 ·refine(I.hok b u e).stay (fun c v hc q=>k c v ?_ q) (fun c q=>q) (fun _ _ _ q=>q) fun c xs q=>q;rcases hc with z | z
  ·rw[z];exact nf b u e
  ·exact nf c _ z
noncomputable def Itz(K:Ds)(a b:Addr):It:=
 ⟨fun i H=>∃ xs ys x y,SqL K H a xs∧SqL K H b ys∧xs[i]?=some x∧ys[i]?=some y,
  fun i H r H'=>∃p x y,H p=none/\r=.ref p/\H'=upd H p (.tup [x,y])/\(∀xs,SqL K H a xs->xs[i]?=some x)/\∀ys,SqL K H b ys->ys[i]?=some y,
  fun i H=>∃xs ys,SqL K H a xs/\SqL K H b ys/\(xs.length<=i\/ys.length<=i)⟩
theorem fC{h:Heap}{a b:Addr}{o o':Obj}(ha:h.get? a=some o)(hb:h.get? b=some o')(n:o.cls≠o'.cls):a≠b:=fun z=>by subst z;rw[ha]at hb;cases hb;exact n rfl
structure qq(z TI TO i1 i2:Addr):Prop where
 TIz:TI≠z
 TOz:TO≠z
 i1z:i1≠z
 i2z:i2≠z
 TITO:TI≠TO
 TIi1:TI≠i1
 TIi2:TI≠i2
 TOi1:TO≠i1
 TOi2:TO≠i2
 i12:i1≠i2
def A6(a b z TI TO i1 i2:Addr)(i:Nat)(h:Heap):Prop:=IsZip h z TI TO .none/\IsPair h TI (.ref i1) (.ref i2)/\(∃x y,IsPair h TO x y)/\h.IsListIter i1 a i/\h.IsListIter i2 b i
theorem r8{h:Heap}{a b z TI TO i1 i2:Addr}{i:Nat}{xs ys:Array Value}(F:qq z TI TO i1 i2)(st:A6 a b z TI TO i1 i2 i h)(ha:h.IsList a xs)(hb:h.IsList b ys):ZipApart z TI TO i1 i2 a b:=by
 obtain⟨s1,s2,⟨x,y,s3⟩,s4,s5⟩:=st;obtain⟨o4,e4,c4,_⟩:=s4;obtain⟨o5,e5,c5,_⟩:=s5;obtain⟨oa,ea,ca,_⟩:=ha;obtain⟨ob,eb,cb,_⟩:=hb;have d:∀{n m:String},n≠m->(Sh n)≠(Sh m):=fun q z=>q (by injection z);exact ⟨F.TIz,F.TOz,F.i1z,F.i2z,F.TITO,F.TIi1,F.TIi2,F.TOi1,F.TOi2,F.i12,
  fC ea s1 (by rw[ca];exact d (by decide)),fC ea s3 (by rw[ca];exact d (by decide)),fC ea e4 (by rw[ca,c4];exact d (by decide)),fC ea e5 (by rw[ca,c5];exact d (by decide)),
  fC eb s1 (by rw[cb];exact d (by decide)),fC eb s3 (by rw[cb];exact d (by decide)),fC eb e4 (by rw[cb,c4];exact d (by decide)),fC eb e5 (by rw[cb,c5];exact d (by decide))⟩
theorem A7{P:Program}{w:World}{K:Ds}{elts:List Expr}{x1}{tp:Pos}(a b z TI TO i1 i2:Addr)(F:qq z TI TO i1 i2):Turn P w K (.Tuple elts x1 tp) (Itz K a b) [z,TI,TO,i1,i2] z (A6 a b z TI TO i1 i2) where
 mem:=by simp
 obj:=fun i h st c hc=>by
  obtain⟨s1,s2,⟨x,y,s3⟩,⟨o4,e4,c4,d4⟩,⟨o5,e5,c5,d5⟩⟩:=st;simp only[Qk,Rk,or_false]at hc;rcases hc with rfl | rfl | rfl | rfl | rfl
  ·exact⟨_,s1,fun v q=>by have q':S5 _=SD v:=q;cases q'⟩
  ·exact⟨_,s2,fun v q=>by have q':Data.seq _ _=SD v:=q;cases q'⟩
  ·exact⟨_,s3,fun v q=>by have q':Data.seq _ _=SD v:=q;cases q'⟩
  ·exact⟨o4,e4,fun v q=>by rw[d4]at q;cases q⟩
  ·exact⟨o5,e5,fun v q=>by rw[d5]at q;cases q⟩
 keep:=fun i h h' st k=>by obtain⟨s1,s2,⟨x,y,s3⟩,s4,s5⟩:=st;exact⟨k z (by simp) _ s1,k TI (by simp) _ s2,⟨x,y,k TO (by simp) _ s3⟩,s4.at fun o q=>k i1 (by simp) o q,s5.at fun o q=>k i2 (by simp) o q⟩
 item:=by
  intro X hP hw hK hc i qL s σ H E I hf st hg;subst hP hw hK;obtain⟨xs,ys,x,y,hq,hq',hx,hy⟩:=hg;obtain⟨its,rv,p,hz⟩:=I.list hq;obtain⟨its',rv',p',hz'⟩:=I.list hq';obtain⟨u,hu,ru⟩:=rv.get hx;obtain⟨u',hu',ru'⟩:=rv'.get hy;have D:=r8 F st p.isList p'.isList;obtain⟨s1,s2,⟨o1,o2,s3⟩,s4,s5⟩:=st;have lt:∀{c o},s.heap.get? c=some o->c<s.heap.objs.size:=fun q=>Qh q;have l1:=lt s1;have l2:=lt s2;have l3:=lt s3;have l4:i1<s.heap.objs.size:=by obtain⟨_,q,_⟩:=s4;exact lt q
  have l5:i2<s.heap.objs.size:=by obtain⟨_,q,_⟩:=s5;exact lt q
  refine wpAny_pyNext_zip_item D s1 s2 s3 s4 s5 p.isList p'.isList (x:=u) (y:=u') (by simpa using hu) (by simpa using hu') fun h1 a1 a2 a3 a4 a5 a6 hk=>?_;refine⟨_,rfl,wpAny_letOwnedTupleGo_zip a1 fun h2 z2 hs2=>?_⟩;have ht2:h2.get? s.heap.objs.size=some { cls:=.type "tuple",data:=.seq #[u,u'] }:=(hs2.2 _ (RO l1)).trans a5;have k2:∀c o,c∉[z,TI,TO,i1,i2]->s.heap.get? c=some o->h2.get? c=some o:=fun c o hc q=>by simp only[Qk,Rk,or_false,not_or]at hc;exact(hs2.2 c hc.1).trans (hk c o hc.1 hc.2.2.1 hc.2.2.2.1 hc.2.2.2.2 q)
  have hn:H s.heap.objs.size=none:=I.hok.fresh (Qf _);have I2:Inv X qL σ (upd H s.heap.objs.size (.tup [x,y])) { s with heap:=h2,toks:=s.toks }:=
   pD I hf k2 (Qf _) ⟨by simp[sizeLine],[u,u'],.cons ru (.cons ru' .nil),_,ht2,rfl,_,rfl⟩
  refine⟨.ref s.heap.objs.size,_,I2,rfl,⟨_,x,y,hn,rfl,rfl,fun vs hv=>by rw[I.eY hv hq];exact hx,fun vs hv=>by rw[I.eY hv hq'];exact hy⟩,⟨z2,?_,⟨_,_,hs2.extBut _ _ D.TOz a2⟩,?_,?_⟩,fun c hc=>?_⟩
  ·exact hs2.extBut _ _ D.TIz (hk TI _ D.TIz D.TITO D.TIi1 D.TIi2 s2)
  ·exact a3.extBut hs2.extBut D.i1z
  ·exact a4.extBut hs2.extBut D.i2z
  ·have hc1:c≠s.heap.objs.size:=fun q=>by
    simp only[Qk,Rk,or_false]at hc;rcases hc with r | r | r | r | r
    ·subst r;rw[q]at l1;exact Q0 _ l1
    ·subst r;rw[q]at l2;exact Q0 _ l2
    ·subst r;rw[q]at l3;exact Q0 _ l3
    ·subst r;rw[q]at l4;exact Q0 _ l4
    ·subst r;rw[q]at l5;exact Q0 _ l5
   rw[ai hc1];exact(hf c hc).1
 done:=by
  intro X hP hw hK hc i qL s σ H E I hf st hg;subst hP hw hK;obtain⟨xs,ys,hq,hq',hx⟩:=hg;obtain⟨its,rv,p,hz⟩:=I.list hq;obtain⟨its',rv',p',hz'⟩:=I.list hq';have hl:=rv.length;have hl':=rv'.length;have D:=r8 F st p.isList p'.isList;obtain⟨s1,s2,⟨o1,o2,s3⟩,s4,s5⟩:=st;refine wpAny_pyNext_zip_end (I.ok.hd hc) D s1 s2 s3 s4 s5 p.isList p'.isList ?_ fun h' hk=>⟨rfl,vh (t':=s.toks) I hf fun c o hc q=>?_⟩
  ·rcases hx with hx | hx
   ·exact .inl (by simp;lia)
   ·exact .inr (by simp;lia)
  ·simp only[Qk,Rk,or_false,not_or]at hc;exact hk c o hc.1 hc.2.2.1 hc.2.2.2.1 hc.2.2.2.2 q
 self:=fun A i s Q E st h=>wpAny_pyIter_zip st.1 h
def GN(K:Ds)(ta:TA):TI:=fun σ H R=>ta σ H fun vs H1=>∃a b,vs=[.ref a,.ref b]/\(∃xs,SqL K H1 a xs)/\(∃ys,SqL K H1 b ys)/\R (Itz K a b) H1
section
variable{X:Cx}{l l':Expr}{ta:TA}{p pos:Pos}{elts:List Expr}{x1:Nat}{tp:Pos}
theorem JA(hg:Gl X "zip")(hm:X.mg "zip" = none)(ha:PA X [l,l'] ta)(hs:starEach [l,l'] X.env=(false,eval l X.env)::starEach [l'] X.env:=by rfl)(hs2:(backTo pos (starEach [l'] X.env)).any (·.1)=false:=by rfl) :
  PI X (.Tuple elts x1 tp) (.Call (.Name "zip" p) [l,l'] [] pos) (GN X.K ta):=by
 intro qL s σ H R I h;refine Call_ (cB I hg hm boot_zip (QU (thn (ha pos qL s σ H _ I h) fun us s1 ⟨vs,H1,I1,r1,q1⟩=>?_) hs hs2));obtain⟨a,b,e,⟨xs,hq⟩,⟨ys,hq'⟩,q⟩:=q1;subst e;obtain⟨v1,v2,rfl,r,r'⟩:=vals2 r1;cases r;cases r';obtain⟨its,rv,pl,hz⟩:=I1.list hq;obtain⟨its',rv',pl',hz'⟩:=I1.list hq';refine call_zip_2 pl.isList pl'.isList fun h' e1 e2 e3 e4 e5 hsz k=>?_;have I2:Inv X qL σ H1 { s1 with heap:=h' }:=I1.kept (t':=s1.toks) k;have F:qq (s1.heap.objs.size+4) (s1.heap.objs.size+2) (s1.heap.objs.size+3) s1.heap.objs.size (s1.heap.objs.size+1):=by constructor<;>first | exact QF (by lia) | exact RO (by lia)
 have T:=A7 (P:=X.prog) (w:=X.w) (K:=X.K) (elts:=elts) (x1:=x1) (tp:=tp) a b _ _ _ _ _ F;have st:A6 a b (s1.heap.objs.size+4) (s1.heap.objs.size+2) (s1.heap.objs.size+3) s1.heap.objs.size (s1.heap.objs.size+1) 0 h':=⟨e1,e2,⟨_,_,e3⟩,e4,e5⟩
 refine T.self X.A 0 { s1 with heap:=h' } _ X.xe st ?_;refine⟨s1.heap.objs.size+4,_,_,_,H1,rfl,I2,T,st,fun c hc=>?_,q⟩;have:s1.heap.objs.size<=c:=by simp only[Qk,Rk,or_false]at hc;rcases hc with r | r | r | r | r<;>(rw[r];first | exact Nat.le_add_right _ _ | exact Qf _)
 exact I1.p7 this (I1.hok.fresh this)
end
theorem wX:∀(xs ys:List Dat),(Dm.fX xs ys).length=min xs.length ys.length
 |[],_=>by simp[Dm.fX]
 |_::_,[]=>by simp[Dm.fX]
 |x::xs,y::ys=>by simp[Dm.fX,wX xs ys]
theorem zip_get:∀(xs ys:List Dat) (j:Nat) (d:Dat),(Dm.fX xs ys)[j]?=some d->∃x y,xs[j]?=some x/\ys[j]?=some y/\d=.tup [x,y]
 |[],_,_,_,h=>by simp[Dm.fX]at h
 |_::_,[],_,_,h=>by simp[Dm.fX]at h
 |x::xs,y::ys,0,d,h=>by cases h;exact⟨x,y,rfl,rfl,rfl⟩
 |x::xs,y::ys,j+1,d,h=>zip_get xs ys j d h
theorem JB{K:Ds}{H0:Hp}{a b:Addr}{xs ys:List V}{ds es:List Dat}(hq:Rd H0 a (.lst xs))(rs:aC H0 xs ds)(hq':Rd H0 b (.lst ys))(rs':aC H0 ys es):JW (Itz K a b) H0 (Dm.fX ds es):=by
 intro H0' H s0 s1;have q:SqL K H a xs:=.inl (aq.rd s1 (aq.rd s0 hq));have q':SqL K H b ys:=.inl (aq.rd s1 (aq.rd s0 hq'));refine⟨fun i hi=>⟨xs,ys,q,q',?_⟩,fun i d e=>?_⟩
 ·rw[wX]at hi;have:=rs.length;have:=rs'.length
  lia
 obtain⟨x,y,hx,hy,rfl⟩:=zip_get ds es i d e;obtain⟨v,hv,rv⟩:=rs.get hx;obtain⟨v',hv',rv'⟩:=rs'.get hy;refine⟨⟨xs,ys,v,v',q,q',hv,hv'⟩,fun r H' z=>?_⟩;obtain⟨p,u,u',hn,rfl,rfl,z1,z2⟩:=z;have w1:=z1 xs q;have w2:=z2 ys q';rw[hv]at w1;rw[hv']at w2;cases w1;cases w2;have g:=aK.AB (o:=HO.tup [v,v']) s1 hn;exact⟨_,g,.tup ao (.cons ((rv.mono s0).mono g.s0) (.cons ((rv'.mono s0).mono g.s0) .nil))⟩
section
variable{σ:L2.St}{H:Hp}{R:It->Hp->Prop}
theorem JC{K:Ds}{f g:FE}(h:tDI (Dm.EL f g) σ H R):GN K (tDA [f,g]) σ H R:=by
 obtain⟨H0,ρ,ys,ρ',st,e,k⟩:=h;unfold Dm.EL at e;split at e
 ·rename_i vs ρ1 e1;split at e
  ·rename_i xs zs ρ2 e2;cases e;refine⟨H0,ρ,vs,ρ1,st,e1,fun us H0' H' t r=>?_⟩;obtain⟨H1,t1,b1,r1⟩:=takes t (aq.refl _) r e2;cases r1 with
   |cons q1 rr=>
    cases rr with
    |cons q2 rr=>
     cases rr;cases q1 with
     |lst q rs=>
      cases q2 with
      |lst q' rs'=>exact⟨_,_,rfl,⟨_,.inl (aq.rd t1.st.same q)⟩,⟨_,.inl (aq.rd t1.st.same q')⟩,k _ H1 H' t1 (JB q rs q' rs')⟩
  ·cases e
 ·cases e
end
section
variable{X:Cx}{a b:Expr}{fa fb:FE}{p pos:Pos}{elts:List Expr}{x1:Nat}{tp:Pos}
theorem M3(hg:Gl X "zip")(hm:X.mg "zip" = none)(ha:DA X [a,b] [fa,fb])(hs:starEach [a,b] X.env=(false,eval a X.env)::starEach [b] X.env:=by rfl)(hs2:(backTo pos (starEach [b] X.env)).any (·.1)=false:=by rfl) :
  DI X (.Tuple elts x1 tp) (.Call (.Name "zip" p) [a,b] [] pos) (Dm.EL fa fb):=PI.weak (JA hg hm ha hs hs2) fun _ _ _=>JC
end
end Br
namespace Dm
noncomputable def fnM(n m:Nat)(body:FS)(ds:List Dat):Option (RV×Dat):=if ds.length=n then (match ds with
 | d::r=>(match body (Cell.ow d::(r.map Cell.sh++Qd m .un)) with
  | some (.ret z ρ')=>(match ρ'[0]? with
   |some (Cell.ow d')=>some (z,d')
   |_=>none)
  | some (.nx ρ')=>(match ρ'[0]? with
   |some (Cell.ow d')=>some (.val .non,d')
   |_=>none)
  |_=>none)
 |[]=>none) else none
noncomputable def flat:Dat->Bool
 |.tup xs=>xs.all fun x=>!eK x
 |d=>!eK d
noncomputable def vj:Dat->Bool
 |.lst xs=>xs.all fun x=>!eK x
 |_=>false
noncomputable def eFm(f:List Dat->Option (RV×Dat))(j:Nat)(as:List FE):FE:=fun ρ=>match ρ[j]? with
 | some (.ow _)=>(match eAs as ρ with
  |none=>none
  | some (xs,ρ1)=>(match ρ1[j]? with
   | some (.ow d1)=>(match tks ρ1 xs with
    |none=>none
    | some (ds,ρ2)=>(match ρ2[j]? with
     | some (.ow d)=>(match f (d::ds) with
      |none=>none
      |some (v,d')=>if flat v.dat&&vj d' then some (v.br,ρ1.set j (.ow d')) else some (v.br,ρ2.set j (.ow d')))
     |_=>none))
   |_=>none))
 |_=>none
end Dm
namespace Br
open PySem PySem.Spec PyProof.Rows L2
section
variable{ρ:Dm.Env}{σ:L2.St}{a:Addr}
def spM(f:List Dat->Option (RV×Dat)):Sp:=fun vs H Q _=>∃H0 a us d ds z d',vs=V.ref a::us/\aq H0 H/\H0 a=none/\Own H0 H a d/\aC H0 us ds/\f (d::ds)=some (z,d') /\
 ∀v H0' H',Stp (fun b=>b=a) H0 H H0' H'->aq H0' H'->H0' a=none->Own H0' H' a d'->rQ H H0' H' v z->Q v H'
theorem dG{n m:Nat}{body:FS}{vs:List V}{H:Hp}{Q:VK}{E:XK}(h:spM (Dm.fnM n m body) vs H Q E):vs.length=n:=by
 obtain⟨H0,a,us,d,ds,z,d',e,_,_,_,rs,ef,_⟩:=h;unfold Dm.fnM at ef;split at ef
 ·rename_i hl;rw[e,QT,rs.length]
  simpa using hl
 ·cases ef
theorem au.fP{H0 H:Hp}{j:Nat}{d:Dat}(st:au H0 H σ ρ)(q:σ[j]?=some (some (V.ref a)))(no:¬ak σ ρ a)(n0:H0 a=none)(w:Own H0 H a d):au H0 H σ (ρ.set j (.ow d)):=by
 have:=st.u7 (i:=j) no n0 w;have e:σ.set j (some (V.ref a))=σ:=by
  apply RX;intro i;by_cases h:j=i
  ·subst h;have hl:j<σ.length:=(PU.mp q).1;rw[Qz hl,q]
  ·rw[Dk h]
 rw[e]at this;exact this
theorem au.off{H0 H H0' H':Hp}(st:au H0 H σ ρ)(s0:aq H0 H0')(ss:aq H0' H')(no:¬ak σ ρ a)(s1:∀b o,H b=some o->b≠a->H' b=some o)(s2:∀(i:Nat) (d:Dat) (b:Addr),ρ[i]?=some (Dm.Cell.ow d)->σ[i]?=some (some (V.ref b))->H0' b=none):au H0' H' σ ρ where
 same:=ss
 len:=st.len
 sh:=fun i d e=>by obtain⟨v,q,r⟩:=st.sh i d e;exact⟨v,q,r.mono s0⟩
 ow:=fun i d e=>by obtain⟨b,q,n,w⟩:=st.ow i d e;obtain⟨o,z⟩:=w.some;have nb:b≠a:=fun y=>no ⟨i,d,e,y▸q⟩;exact⟨b,q,s2 i d b e q,w.mono s0 ((s1 b o z nb).trans z.symm)⟩
 dis:=st.dis
theorem dZ{H0 H1:Hp}:∀{xs:List V} {ds:List Dat},aC H0 xs ds->(ds.all fun x=>!Dm.eK x)=true->aC H1 xs ds
 |_,_,.nil,_=>.nil
 |_,_,.cons r rs,h=>by rw[SK,QJ]at h;exact .cons (Rep.plain r (by simpa using h.1)) (dZ rs h.2)
end
section
variable{σ:L2.St}{H:Hp}{Q:VK}
theorem EM{f:List Dat->Option (RV×Dat)}{j:Nat}{fs:List FE}{E:XK}(h:tD (Dm.eFm f j fs) σ H Q):oU (spM f) [] E (tDA (Dm.eV j::fs)) σ H Q:=by
 obtain⟨H0,ρ,x,ρ',st,e,k⟩:=h;unfold Dm.eFm at e;split at e
 case h_2=>cases e
 rename_i d0 h0;split at e
 ·cases e
 rename_i xs ρ1 e1;split at e
 case h_2=>cases e
 rename_i d1 h1;split at e
 ·cases e
 rename_i ds ρ2 e2;split at e
 case h_2=>cases e
 rename_i d h2;split at e
 ·cases e
 rename_i z d' fz;have ea:Dm.eAs (Dm.eV j::fs) ρ=some (.slot j::xs,ρ1):=by unfold Dm.eAs;rw[show Dm.eV j ρ=some (.slot j,ρ) from by unfold Dm.eV;rw[h0]];dsimp only;rw[e1]
 refine⟨H0,ρ,.slot j::xs,ρ1,st,ea,fun vs H1 Hb t1 r1=>?_⟩;dsimp only;rw[Rc];cases r1 with
 |cons r0 rr=>
  obtain⟨H2,t2,b2,r2⟩:=takes t1 (aq.refl _) rr e2;obtain⟨a,qa,na,wa⟩:=t2.st.ow j d h2;obtain⟨q0,_⟩:=r0;rw[qa]at q0;cases q0;obtain⟨a1,qa1,na1,wa1⟩:=t1.st.ow j d1 h1;rw[qa]at qa1;cases qa1;obtain⟨oa,ha⟩:=wa.some;have hl2:j<ρ2.length:=(PU.mp h2).1;have hl1:j<ρ1.length:=(PU.mp h1).1;have oa0:ak σ ρ a:=t1.own a ⟨j,d1,h1,qa⟩;refine⟨H2,a,_,d,ds,z,d',rfl,t2.st.same,na,wa,r2,fz,fun v H3 Hd s3 ss n3 w3 r3=>?_⟩;have no2:¬ak σ (ρ2.set j .un) a:=fun y=>by obtain⟨i,d4,hi,y1,y2⟩:=bF y;exact hi (t2.st.dis i j d4 d a y1 h2 y2 qa)
  have no1:¬ak σ (ρ1.set j .un) a:=fun y=>by obtain⟨i,d4,hi,y1,y2⟩:=bF y;exact hi (t1.st.dis i j d4 d1 a y1 h1 y2 qa)
  split at e
  ·rename_i fl;cases e;rw[QJ]at fl;obtain⟨f1,f2⟩:=fl;have wp:∀H',Own H' Hd a d':=fun H'=>by
    cases d' with
    |lst ys=>obtain⟨us,y1,y2⟩:=w3;exact⟨us,y1,dZ y2 f2⟩
    |_=>cases f2
   have Nr:∀H1':Hp,aq H1 H1'->aq H1' Hd->(∀b o,H1' b=some o->H1 b=some o\/((∃us,o=.tup us)/\H3 b=some o))->eX H H1' Hd σ (ρ1.set j (.ow d')) v z.br->Q v Hd:=fun H1' m1 m2 m3 rv=>by
    have hd3:∀b,H1' b≠none->b≠a:=fun b hb y=>by
     subst y;cases y2:H1' b with
     |none=>exact hb y2
     |some o=>
      rcases m3 b o y2 with y3 | ⟨_,y3⟩
      ·rw[na1]at y3;cases y3
      ·rw[n3]at y3;cases y3
    have n1':H1' a=none:=by
     cases y:H1' a with
     |none=>rfl
     |some o=>exact absurd rfl (hd3 a (by rw[y];exact fun q=>nomatch q))
    have sm:au H1' Hd σ (ρ1.set j .un):=by
     refine(t1.st.mask j).off m1 m2 no1 (fun b o y nb=>s3.s1 b o y nb) fun i d4 b y1 y2=>?_;obtain⟨b',q',nb',w'⟩:=(t1.st.mask j).ow i d4 y1;rw[y2]at q';cases q';cases y:H1' b with
     |none=>rfl
     |some o=>
      rcases m3 b o y with y3 | ⟨⟨us,y4⟩,y3⟩
      ·rw[nb']at y3;cases y3
      ·subst y4;have nb:b≠a:=hd3 b (by rw[y];exact fun q=>nomatch q);cases d4 with
       |lst _=>obtain⟨ws,z1,_⟩:=w';have z2:=s3.s1 b _ z1 nb;rw[ss _ _ y3]at z2;cases z2
       |dct _ _=>obtain⟨ws,z1,_⟩:=w';have z2:=s3.s1 b _ z1 nb;rw[ss _ _ y3]at z2;cases z2
       |dcp _ _=>obtain⟨ws,z1,_⟩:=w';have z2:=s3.s1 b _ z1 nb;rw[ss _ _ y3]at z2;cases z2
       |_=>exact QN w'
    have sf:au H1' Hd σ (ρ1.set j (.ow d')):=by have:=sm.fP qa no1 n1' (wp H1');rw[Te]at this;exact this
    refine k v H1' Hd ⟨sf,⟨t1.stp.s0.trans m1,fun b o y nb=>?_,fun b o y=>?_,fun b o y=>?_⟩,fun b y=>?_,fun i y=>?_⟩ rv
    ·have y1:=t1.stp.s1 b o y nb;exact s3.s1 b o y1 fun q=>nb (by rw[q];exact oa0)
    ·rcases m3 b o y with y3 | ⟨_,y3⟩
     ·exact t1.stp.s2 b o y3
     ·rcases s3.s2 b o y3 with y4 | y4 | y4
      ·exact .inl (t1.stp.gone y4)
      ·exact t2.stp.s2 b o y4
      ·subst y4;rw[n3]at y3;cases y3
    ·obtain⟨o',y1⟩:=t1.stp.s3 b o y;exact s3.s3 b o' y1
    ·obtain⟨i,d4,y1,y2⟩:=y;by_cases hi:j=i
     ·subst hi;rw[qa]at y2;cases y2;exact oa0
     ·rw[Dk hi]at y1;exact t1.own b ⟨i,d4,y1,y2⟩
    ·trivial
   have m0:aq H1 Hd:=fun b o y=>s3.s1 b o (t1.st.same _ _ y) fun q=>by rw[q,na1]at y;cases y
   cases z with
   |new d4=>
    obtain⟨_,_,_,_,w⟩:=r3;cases d4 with
    |lst _=>cases f1
    |dct _ _=>cases f1
    |dcp _ _=>cases f1
    |_=>exact QN w
   |val d4=>
    have r3':Rep H3 v d4:=r3;cases d4 with
    |tup es=>
     cases r3' with
     |tup q rs=>
      rename_i a2 us;have rp:aC H1 us es:=dZ rs f1;refine Nr (upd H1 a2 (.tup us)) (fun b o y=>?_) (fun b o y=>?_) (fun b o y=>?_) (.tup ao (dZ rs f1))
      ·by_cases hb:b=a2
       ·subst hb;have:=s3.s0 _ _ (b2 _ _ y);rw[q]at this;rw[ao,this]
       ·rw[ai hb];exact y
      ·by_cases hb:b=a2
       ·subst hb;rw[ao]at y;cases y;exact ss _ _ q
       ·rw[ai hb]at y;exact m0 _ _ y
      ·by_cases hb:b=a2
       ·subst hb;rw[ao]at y;cases y;exact .inr ⟨⟨us,rfl⟩,q⟩
       ·rw[ai hb]at y;exact .inl y
    |lst _=>cases f1
    |dct _ _=>cases f1
    |dcp _ _=>cases f1
    |exc _=>cases f1
    |fn _=>exact Nr H1 (aq.refl _) m0 (fun b o y=>.inl y) (Rep.plain r3' rfl)
    |non=>exact Nr H1 (aq.refl _) m0 (fun b o y=>.inl y) (Rep.plain r3' rfl)
    |bl _=>exact Nr H1 (aq.refl _) m0 (fun b o y=>.inl y) (Rep.plain r3' rfl)
    |int _=>exact Nr H1 (aq.refl _) m0 (fun b o y=>.inl y) (Rep.plain r3' rfl)
    |str _=>exact Nr H1 (aq.refl _) m0 (fun b o y=>.inl y) (Rep.plain r3' rfl)
  ·cases e;have sm:au H3 Hd σ (ρ2.set j .un):=by
    refine(t2.st.mask j).off s3.s0 ss no2 (fun b o y nb=>s3.s1 b o y nb) fun i d4 b y1 y2=>?_;obtain⟨b',q',nb',w'⟩:=(t2.st.mask j).ow i d4 y1;rw[y2]at q';cases q';obtain⟨ob,hob⟩:=w'.some;cases y:H3 b with
    |none=>rfl
    |some o=>
     rcases s3.s2 b o y with y3 | y3 | y3
     ·rw[hob]at y3;cases y3
     ·rw[nb']at y3;cases y3
     ·exact absurd ⟨i,d4,y1,y3▸y2⟩ no2
   have sf:au H3 Hd σ (ρ2.set j (.ow d')):=by have:=sm.fP qa no2 n3 w3;rw[Te]at this;exact this
   have of:∀b,ak σ (ρ2.set j (.ow d')) b->b=a\/ak σ ρ2 b:=fun b ⟨i,d4,y1,y2⟩=>by
    by_cases hi:j=i
    ·subst hi;rw[qa]at y2;cases y2;exact .inl rfl
    ·rw[Dk hi]at y1;exact .inr ⟨i,d4,y1,y2⟩
   refine k v H3 Hd ⟨sf,t2.stp.trans s3 (fun b y=>.inl (y▸oa0)),fun b y=>?_,fun i y=>?_⟩ ?_
   ·rcases of b y with y | y
    ·exact y▸oa0
    ·exact t2.own b y
   ·trivial
   ·cases z with
    |val d4=>exact r3
    |new d4=>
     obtain⟨b,y0,y1,y2,y3⟩:=r3;refine⟨b,y0,t2.stp.gone y1,fun y=>?_,y2,y3⟩;rcases of b y with y | y
     ·subst y;rw[ha]at y1;cases y1
     ·exact t2.st.aR y1 y
end
theorem aO{X:Cx}{es:List Expr}{p pos px:Pos}{k:Nat}{F:Addr}{fd:FuncData}{ps:List Str}{g:List Dat->Option (RV×Dat)}{x y:Str}{j:Nat}{fs:List FE}(G:aQ X.prog X.w X.K X.mg X.base CX0 k F fd ps (spM g))(hr:bf k X.A)(hg:Gl X x)(hm:X.mg x=some (.ref F))(hk:QY X.K (.ref F)=true)(hb:Binds X.K fd ps [])
  (ha:DA X (.Name y px::es) (Dm.eV j::fs)) (Ny:(x == ("__debug__" : Str))=false:=by decide) (he:starEach (.Name y px::es) X.env=(false,eval (.Name y px) X.env)::starEach es X.env:=by rfl) (Fd:(backTo pos (starEach es X.env)).any (·.1)=false:=by rfl) :
  DE X (.Call (.Name x p) (.Name y px::es) [] pos) (Dm.eFm g j fs):=PE.weak (iQ G hr hg hm hk hb .nil (o7 (X:=X)) ha Ny he Fd) fun _ _ _=>EM
theorem lR{N:List Str}{n m:Nat}{body:FS}{vs:List V}{H:Hp}{Q:VK}{E:XK}(hm:N.length=n+m)(h:spM (Dm.fnM n m body) vs H Q E) :
  tDS body { nx:=fun _ H'=>Q .non H',rt:=Q } (start N vs) H:=by
 have hvn:=dG h;obtain⟨H0,a,us,d,ds,z,d',e,s,na,wa,rs,ef,k⟩:=h;subst e;have hl:=rs.length;rw[QT]at hvn;have e0:(start N (V.ref a::us))[0]?=some (some (V.ref a)):=rfl;have get:∀{i:Nat} {c:Dm.Cell},(Dm.Cell.ow d::(ds.map Dm.Cell.sh++Qd m .un))[i]?=some c->(i=0/\c=.ow d)\/(∃i' d4,i=i'+1/\ds[i']?=some d4/\c=.sh d4)\/c=.un:=fun {i c} y=>by
  cases i with
  |zero=>cases y;exact .inl ⟨rfl,rfl⟩
  |succ i=>
   rw[RT]at y;by_cases hi:i<ds.length
   ·rw[Qi (by simpa using hi),Qm,Ql hi]at y;cases y;exact .inr (.inl ⟨i,ds[i],rfl,Ql hi,rfl⟩)
   ·rw[QI (by simpa using hi),Q8]at y;split at y
    ·cases y;exact .inr (.inr rfl)
    ·cases y
 have ow0:∀{i:Nat} {d4:Dat},(Dm.Cell.ow d::(ds.map Dm.Cell.sh++Qd m .un))[i]?=some (.ow d4)->i=0/\d4=d:=fun {i d4} y=>by
  rcases get y with⟨y1,y2⟩ | ⟨_,_,_,_,y2⟩ | y2
  ·cases y2;exact⟨y1,rfl⟩
  ·cases y2
  ·cases y2
 have oa:∀b,ak (start N (V.ref a::us)) (Dm.Cell.ow d::(ds.map Dm.Cell.sh++Qd m .un)) b->b=a:=fun b ⟨i,d4,y1,y2⟩=>by obtain⟨y3,_⟩:=ow0 y1;subst y3;rw[e0]at y2;cases y2;rfl
 have st:au H0 H (start N (V.ref a::us)) (Dm.Cell.ow d::(ds.map Dm.Cell.sh++Qd m .un)):=by
  refine⟨s,?_,fun i d4 y=>?_,fun i d4 y=>?_,fun i i' d4 d5 b y1 y2 _ _=>(ow0 y1).1.trans (ow0 y2).1.symm⟩
  ·unfold L2.start;simp only[Qn,Dp,RY,QT];omega
  ·rcases get y with⟨_,y2⟩ | ⟨i',d5,y1,y2,y3⟩ | y2
   ·cases y2
   ·cases y3;subst y1;obtain⟨v,hv,r⟩:=rs.get y2;refine⟨v,?_,r⟩;have hi:i'<us.length:=(PU.mp hv).1;unfold L2.start;rw[Qi (by simp;omega),Qm,RT,hv];rfl
   ·cases y2
  ·obtain⟨y1,y2⟩:=ow0 y;subst y1 y2;exact⟨a,e0,na,wa⟩
 have Nr:∀{σ':L2.St} {ρ':Dm.Env} {H0' H':Hp},SSt (start N (V.ref a::us)) (Dm.Cell.ow d::(ds.map Dm.Cell.sh++Qd m .un)) H0 H σ' ρ' H0' H'->ρ'[0]?=some (.ow d')->Stp (fun b=>b=a) H0 H H0' H'/\H0' a=none/\Own H0' H' a d'/\ak σ' ρ' a:=fun {σ' ρ' H0' H'} t y=>by obtain⟨a',q',n',w'⟩:=t.st.ow 0 d' y;have fx:=t.fx;rw[e0,q']at fx;cases fx;exact⟨t.stp.wide fun b z=>oa b z,n',w',0,d',y,q'⟩
 unfold Dm.fnM at ef;split at ef
 case isFalse=>cases ef
 dsimp only at ef;split at ef
 ·rename_i z' ρ' e1;split at ef
  case h_2=>cases ef
  rename_i d4 y;cases ef;refine⟨H0,_,_,st,e1,fun σ' v H0' H' t r no=>?_⟩;obtain⟨f1,f2,f3,f4⟩:=Nr t y;refine k v H0' H' f1 t.st.same f2 f3 ?_;cases z with
  |val d5=>exact r
  |new d5=>
   obtain⟨b,y0,y1,y2,y3⟩:=r;refine⟨b,y0,?_,y2,y3⟩;rcases y1 with y1 | y1
   ·exact y1
   ·exact absurd f4 (oa b y1▸no d5 b rfl y0)
 ·rename_i ρ' e1;split at ef
  case h_2=>cases ef
  rename_i d4 y;cases ef;refine⟨H0,_,_,st,e1,fun σ' H0' H' t=>?_⟩;obtain⟨f1,f2,f3,f4⟩:=Nr t y;exact k _ H0' H' f1 t.st.same f2 f3 .non
 ·cases ef
end Br
namespace Dm
noncomputable def bC:List Int->List Dat->Int->Option Dat
 |k::ks,v::vs,i=>if k=i then some v else bC ks vs i
 |_,_,_=>none
noncomputable def wY:List Int->List Dat->Int->Dat->List Dat
 |k::ks,v::vs,i,d=>(if k=i then d else v)::wY ks vs i d
 |_,_,_,_=>[]
noncomputable def jZ(ks:List Int)(i:Int):List Int:=if (ks.any fun k=>decide (k=i))=true then ks else ks++[i]
noncomputable def j0(ks:List Int)(vs:List Dat)(i:Int)(d:Dat):List Dat:=if (ks.any fun k=>decide (k=i))=true then wY ks vs i d else vs++[d]
noncomputable def eDn:FE:=fun ρ=>some (.new (.dct [] []),ρ)
noncomputable def gDx:Dat->Dat->Option RV
 |.dct ks vs,.int i=>(bC ks vs i).map .val
 |_,_=>none
noncomputable def za:Dat->Dat->Option RV
 |.int i,.dct ks vs=>vB (bC ks vs i).isSome
 |_,_=>none
noncomputable def r9:Dat->Dat->Option RV
 |.int i,.dct ks vs=>vB (!(bC ks vs i).isSome)
 |_,_=>none
noncomputable def j3(a b:FE):FE:=fun ρ=>match a ρ with
 |none=>none
 |some (x,ρ1)=>match pk ρ1 x with
  | some (.dct _ _)=>(match b ρ1 with
   |none=>none
   |some (y,ρ2)=>match pk ρ2 x with
    | some (.dct ks vs)=>(match pk ρ2 y with
     |some (.int i)=>some (.val ((bC ks vs i).getD .non),ρ2)
     |_=>none)
    |_=>none)
  |_=>none
noncomputable def eD1(a b:FE):FE:=fun ρ=>match a ρ with
 | some (.val (.int i),ρ1)=>(match b ρ1 with
  |none=>none
  |some (x,ρ2)=>match tk ρ2 x with
   |none=>none
   |some (d,ρ3)=>some (.new (.dct [i] [d]),ρ3))
 |_=>none
noncomputable def lS(i:Nat)(j e:FE):FS:=fun ρ=>match e ρ with
 |none=>none
 |some (x,ρ1)=>match tk ρ1 x with
  |none=>none
  |some (d,ρ2)=>match ρ2[i]? with
   | some (.ow _)=>(match j ρ2 with
    | some (.val (.int k),ρ3)=>(match ρ3[i]? with
     |some (.ow (.dct ks vs))=>if ks.length<SZ then some (.nx (ρ3.set i (.ow (.dct (jZ ks k) (j0 ks vs k d))))) else none
     |_=>none)
    |_=>none)
   |_=>none
end Dm
namespace Br
open PySem PySem.Spec PyProof.Rows L2
section
variable{ds:List Dat}{ks:List Int}{H0:Hp}{d:Dat}{v:V}
theorem di{H0 H:Hp}(s:aq H0 H)(r:jB H0 H v (.dct ks ds)):∃a kvs,v=.ref a/\H a=some (.dK kvs)/\kvs.map (·.1)=ks.map Qw/\aC H0 (kvs.map (·.2)) ds:=by
 rcases r with r | ⟨a,e,kvs,q,ek,rs⟩
 ·cases r with
  |dct q ek rs=>exact⟨_,_,rfl,s _ _ q,ek,rs⟩
 ·exact⟨a,kvs,e,q,ek,rs⟩
theorem qt{a b:Int}(h:¬a=b):¬(Qw a:Key)=Qw b:=fun q=>h (Sum.inl.inj q)
theorem fQ(i:Int):∀{kvs:List (Key×V)} {ks:List Int} {ds:List Dat},kvs.map (·.1)=ks.map Qw->aC H0 (kvs.map (·.2)) ds ->
  (∃d v,Dm.bC ks ds i=some d/\cS kvs (Qw i)=some v/\Rep H0 v d)\/(Dm.bC ks ds i=none/\cS kvs (Qw i)=none)
 |[],[],_,_,r=>by cases r;exact .inr ⟨rfl,rfl⟩
 |[],_::_,_,e,_=>by cases e
 |_::_,[],_,e,_=>by cases e
 |(k0,v0)::kvs,k::ks,_,e,r=>by
  rw[Qa]at r;cases r with
  |cons r0 rr=>
   rw[Qa,Qa]at e;injection e with e1 e2
   have e1:k0=Qw k:=e1;subst e1;unfold Dm.bC;by_cases h:k=i
   ·subst h;rw[if_pos rfl];exact .inl ⟨_,v0,rfl,e_ rfl,r0⟩
   ·rw[if_neg h,dP (qt h)];exact fQ i e2 rr
theorem A8(i:Int):∀{kvs:List (Key×V)} {ks:List Int},kvs.map (·.1)=ks.map Qw->(kvs.any fun kv=>decide (kv.1=Qw i))=(ks.any fun k=>decide (k=i))
 |[],[],_=>rfl
 |[],_::_,e=>by cases e
 |_::_,[],e=>by cases e
 |(k0,v0)::kvs,k::ks,e=>by
  rw[Qa,Qa]at e;injection e with e1 e2
  have e1:k0=Qw k:=e1;subst e1;rw[RB,RB,A8 i e2]
  congr 1
  by_cases h:k=i
  ·subst h;simp
  ·have:=qt h;simp[h,this]
theorem wZ(i:Int)(rv:Rep H0 v d):∀{kvs:List (Key×V)} {ks:List Int} {ds:List Dat},kvs.map (·.1)=ks.map Qw->aC H0 (kvs.map (·.2)) ds ->
  ((kvs.map fun kv=>if kv.1=Qw i then (kv.1,v) else kv).map (·.1)=ks.map Qw)/\aC H0 ((kvs.map fun kv=>if kv.1=Qw i then (kv.1,v) else kv).map (·.2)) (Dm.wY ks ds i d)
 |[],[],_,_,r=>by cases r;exact⟨rfl,.nil⟩
 |[],_::_,_,e,_=>by cases e
 |_::_,[],_,e,_=>by cases e
 |(k0,v0)::kvs,k::ks,_,e,r=>by
  rw[Qa]at r;cases r with
  |cons r0 rr=>
   rw[Qa,Qa]at e;injection e with e1 e2
   have e1:k0=Qw k:=e1;subst e1;obtain⟨i1,i2⟩:=wZ i rv e2 rr;unfold Dm.wY;by_cases h:k=i
   ·subst h;rw[if_pos rfl,Qa,Qa,Qa,i1];simp only[if_true];exact⟨trivial,.cons rv i2⟩
   ·rw[if_neg h,Qa,Qa,Qa,i1];have:=qt h;simp only[this,if_false];exact⟨trivial,.cons r0 i2⟩
theorem JD(i:Int)(rv:Rep H0 v d){kvs:List (Key×V)}(e:kvs.map (·.1)=ks.map Qw)(r:aC H0 (kvs.map (·.2)) ds) :
  (putK kvs (Qw i) v).map (·.1)=(Dm.jZ ks i).map Qw/\aC H0 ((putK kvs (Qw i) v).map (·.2)) (Dm.j0 ks ds i d):=by
 have ha:=A8 i e;unfold putK Dm.jZ Dm.j0;rw[ha];cases hb:(ks.any fun k=>decide (k=i)) with
 |true=>simp only[if_true];exact wZ i rv e r
 |false=>simp only[RI,if_false];rw[Qq,Qq,Qq,e];exact⟨rfl,r.append (.cons rv .nil)⟩
theorem M4:OpD (fun x y H Q=>∃a v,x=.ref a/\eT H a y (some v)/\Q v H) Dm.gDx:=by
 intro H0 H x y dx dy z Q s rx ry e k;unfold Dm.gDx at e;split at e
 ·rename_i ks vs i;cases az ry;obtain⟨a,kvs,rfl,qa,ek,rs⟩:=di s rx;rcases fQ i ek rs with⟨d,v,l1,l2,r⟩ | ⟨l1,_⟩
  ·rw[l1]at e;cases e;refine⟨a,v,rfl,?_,k _ H0 H (aK.refl s) r⟩;have:=eT.k (k:=Qw i) qa;rw[l2]at this;exact this
  ·rw[l1]at e;cases e
 ·cases e
theorem JE:OpD (fun y x H Q=>∃a o,x=.ref a/\eT H a y o/\Q (.bl o.isSome) H) Dm.za:=by
 intro H0 H x y dx dy z Q s rx ry e k;unfold Dm.za at e;split at e
 ·rename_i i ks vs;cases e;cases az rx;obtain⟨a,kvs,rfl,qa,ek,rs⟩:=di s ry;refine⟨a,_,rfl,eT.k (k:=Qw i) qa,k _ H0 H (aK.refl s) ?_⟩;rcases fQ i ek rs with⟨d,v,l1,l2,r⟩ | ⟨l1,l2⟩
  ·rw[l1,l2];exact .bl _
  ·rw[l1,l2];exact .bl _
 ·cases e
theorem EN:OpD (fun y x H Q=>∃a o,x=.ref a/\eT H a y o/\Q (.bl (!o.isSome)) H) Dm.r9:=by
 intro H0 H x y dx dy z Q s rx ry e k;unfold Dm.r9 at e;split at e
 ·rename_i i ks vs;cases e;cases az rx;obtain⟨a,kvs,rfl,qa,ek,rs⟩:=di s ry;refine⟨a,_,rfl,eT.k (k:=Qw i) qa,k _ H0 H (aK.refl s) ?_⟩;rcases fQ i ek rs with⟨d,v,l1,l2,r⟩ | ⟨l1,l2⟩
  ·rw[l1,l2];exact .bl _
  ·rw[l1,l2];exact .bl _
 ·cases e
end
section
variable{σ:L2.St}{H:Hp}{Q:VK}{D:Ends}
theorem O8(h:tD Dm.eDn σ H Q):uU σ H Q:=by obtain⟨H0,ρ,x,ρ',st,e,k⟩:=h;cases e;intro p hp;have g:=aK.lB (o:=HO.dK []) st.same hp;exact k _ _ _ (.grow st g) ⟨p,rfl,hp,st.aR hp,st.same.free hp,[],ao,rfl,.nil⟩
theorem JF{fo fi:FE}(h:tD (Dm.j3 fo fi) σ H Q):Au (tD fo) (tD fi) σ H Q:=by
 obtain⟨H0,ρ,x,ρ',st,e,k⟩:=h;unfold Dm.j3 at e;split at e
 ·cases e
 rename_i x1 ρ1 e1;split at e
 case h_2=>cases e
 rename_i ks0 vs0 p0;split at e
 ·cases e
 rename_i y1 ρ2 e2;split at e
 case h_2=>cases e
 rename_i ks vs p1;split at e
 case h_2=>cases e
 rename_i i p2;cases e;refine⟨H0,ρ,x1,ρ1,st,e1,fun v H1 Hb t1 r1=>?_⟩;obtain⟨a,JG,rfl,qa0,_,_⟩:=di t1.st.same (r1.look t1.st p0);refine⟨a,rfl,.inl ⟨JG,.inl qa0⟩,H1,ρ1,y1,_,t1.st,e2,fun u H2 Hc t2 r2=>?_⟩;have hu:=az (r2.look t2.st p2);subst hu;obtain⟨a',kvs,ea,qa,ek,rs⟩:=di t2.st.same ((r1.mono t2).look t2.st p1);cases ea;refine⟨_,eT.k (k:=Qw i) qa,k _ H2 Hc (t1.trans t2) ?_⟩;rcases fQ i ek rs with⟨d,w,l1,l2,r⟩ | ⟨l1,l2⟩
 ·rw[l1,l2];exact r
 ·rw[l1,l2];exact Rep.non
theorem JH{i:Nat}{j f:FE}(h:tDS (Dm.lS i j f) D σ H):Gx (b5 i) (tD j) (tD f) D σ H:=by
 obtain⟨H0,ρ,o,st,e,k⟩:=h;unfold Dm.lS at e;split at e
 ·cases e
 rename_i x ρ1 e1;split at e
 ·cases e
 rename_i d ρ2 e2;split at e
 case h_2=>cases e
 rename_i d0 h2;split at e
 ·rename_i m ρ3 e3;split at e
  ·rename_i ks vs h3;split at e
   case isFalse=>cases e
   rename_i hz;cases e;refine⟨H0,ρ,_,ρ1,st,e1,fun v H0' H' t r=>?_⟩;obtain⟨H1,t1,b1,r1,_,_⟩:=take1 t (aq.refl _) r e2;obtain⟨a0,q0,_,_⟩:=t1.st.ow i _ h2;refine⟨_,q0,H1,ρ2,_,ρ3,t1.st,e3,fun u H2 Hc t2 r2=>?_⟩;obtain⟨a,q,n,w⟩:=t2.st.ow i _ h3;rw[q0]at q;cases q;obtain⟨kvs,y,ek,rs⟩:=w;have hu:=Rep.isInt r2;subst hu;obtain⟨p1,p2⟩:=JD m (r1.mono t2.stp.s0) ek rs;have zo:kvs.length=ks.length:=by
    have:=congrArg List.length ek
    simpa using this
   refine⟨a0,_,rfl,Ar.k (k:=Qw m) y (by rw[zo];exact Qy hz (by decide)),?_⟩;have ow:ak σ ρ3 a0:=⟨i,_,h3,q0⟩
   have tt:=t1.trans t2;exact k σ H2 _ ⟨t2.st.write h3 q0 ⟨_,ao,p1,p2⟩,tt.stp.trans (Stp.write ow) fun b z=>.inl (tt.own b z),fun b z=>.inl (tt.own b (cM h3 z)),rfl⟩
  ·cases e
 ·cases e
theorem O9{fa fb:FE}(h:tD (Dm.eD1 fa fb) σ H Q):Gy [(tD fa,tD fb)] σ H Q:=by
 obtain⟨H0,ρ,x,ρ',st,e,k⟩:=h;unfold Dm.eD1 at e;split at e
 ·rename_i i ρ1 e1;split at e
  ·cases e
  rename_i y ρ2 e2;split at e
  ·cases e
  rename_i d ρ3 e3;cases e;intro p hp;have n0:H0 p=none:=st.same.free hp;have no:¬ak σ ρ p:=st.aR hp;refine⟨H0,ρ,_,ρ1,st.aside n0 no,e1,fun u H1 Hb t1 r1=>⟨H1,ρ1,y,ρ2,t1.st,e2,fun v H2 Hc t2 r2=>?_⟩⟩;have tt:=t1.trans t2;obtain⟨H3,t3,b3,r3,_,_⟩:=take1 tt (aq.refl _) (r2.early fun a n=>t1.stp.gone n) e3;obtain⟨hp3,n3,no3⟩:=t3.bY (o:=HO.dK []) ao n0 no;have hu:=Rep.isInt r1;subst hu;refine⟨hp3,[(Qw i,v)],rfl,(by simp),?_⟩;have em:jv [] [((Qw i:Key),v)]=[(Qw i,v)]:=rfl;rw[em];refine k _ H3 _ ⟨t3.st.aside n3 no3,⟨t3.stp.s0,fun a o y nb=>?_,fun a o y=>?_,fun a o y=>?_⟩,t3.own,t3.dfn⟩ ⟨p,rfl,hp,no3,n3,_,ao,rfl,.cons r3 .nil⟩
  ·have ne:a≠p:=fun q=>by rw[q,hp]at y;cases y
   rw[ai ne];exact t3.stp.s1 a o (by rw[ai ne];exact y) nb
  ·rcases t3.stp.s2 a o y with y1 | y1 | y1
   ·by_cases ne:a=p
    ·subst ne;rw[n3]at y;cases y
    ·rw[ai ne]at y1;exact .inl y1
   ·exact .inr (.inl y1)
   ·exact .inr (.inr y1)
  ·have ne:a≠p:=fun q=>by rw[q,hp]at y;cases y
   rw[ai ne];exact t3.stp.s3 a o (by rw[ai ne];exact y)
 ·cases e
end
theorem u1{k:Nat}{A:Around}(hr:bf k A):A.units+1<cLine:=SG (Nat.add_le_add_left (by decide) _) hr.units
section
variable{X:Cx}{a b e:Expr}{fa fb f:FE}{pos:Pos}{k:Nat}
theorem O_:DE X (.Dict [] [] pos) Dm.eDn:=PE.weak rN fun _ _ _=>O8
theorem Pa(ha:DE X a fa)(hb:DE X b fb):DE X (.Dict [some a] [b] pos) (Dm.eD1 fa fb):=PE.weak (Ek (As ha hb Ej) rfl rfl (by simp) (by simp)) fun _ _ _=>O9
theorem JI(hr:bf k X.A)(ha:DE X a fa)(hb:DE X b fb)(hs:IX b:=by intro _ _;rfl):DE X (.Subscript a b pos) (Dm.e2 Dm.gDx fa fb):=PE.weak (Eh (u1 hr) ha hb hs) fun _ _ _=>uZ M4
theorem GO(hr:bf k X.A)(ha:DE X a fa)(hb:DE X b fb)(hm:behindInMarks .In b=false:=by rfl):DT X (.Compare a [.In] [b] pos) (Dm.tV (Dm.e2 Dm.za fa fb)):=PT.weak (zV (IY (u1 hr) ha hb) hm) fun σ H Q h=>uZ JE (qj h)
theorem JJ(hr:bf k X.A)(ha:DE X a fa)(hb:DE X b fb)(hm:behindInMarks .NotIn b=false:=by rfl):DT X (.Compare a [.NotIn] [b] pos) (Dm.tV (Dm.e2 Dm.r9 fa fb)):=PT.weak (zV (yP (u1 hr) ha hb) hm) fun σ H Q h=>uZ EN (qj h)
theorem A9{Ke cpos:Pos}(hr:bf k X.A)(ha:DE X a fa)(hb:DE X b fb)(m:M1 X a "get" Ke b cpos:=by exact⟨rfl,rfl,rfl,rfl⟩):DE X (.Call (.Attribute a "get" Ke) [b] [] cpos) (Dm.j3 fa fb):=PE.weak (Aw (u1 hr) ha hb m) fun _ _ _=>JF
theorem A_(i:Nat){x:Str}{px sp:Pos}(hr:bf k X.A)(hb:DE X b fb)(he:DE X e f)(hi:X.N[i]?=some x:=by rfl)(hv:Vis X.env.scope x:=by trivial)(hd:(x == ("__debug__" : Str))=false:=by decide)
  (Nt:(x == ("__classdict__" : Str))=false:=by decide) (hs:swapsWith e (some (.Subscript (.Name x px) b sp)) pos.line X.env=pure false:=by rfl):DS X (.Assign [.Subscript (.Name x px) b sp] e pos) (Dm.lS i fb f):=
 PS.weak (Ei (u1 hr) (bz hi hv hd Nt) hb he hs) fun _ _ _=>JH
end
section
variable{σ:L2.St}{H:Hp}{Q:VK}
theorem Pb{K:Ds}{f:FE}{Q:Bool->Hp->Prop}(h:tDT (Dm.tTr f) σ H Q):tD f σ H fun x H'=>∃k,IF K x H' k/\Q k H':=by
 obtain⟨H0,ρ,b,ρ',st,e,k⟩:=h;unfold Dm.tTr at e;split at e
 ·cases e
 rename_i x ρ1 e1;split at e
 ·cases e
 rename_i d p1;split at e
 ·cases e
 rename_i c tc;cases e;refine⟨H0,ρ,x,_,st,e1,fun v H1 Hb t1 r1=>⟨b,?_,k H1 Hb t1⟩⟩;have rl:=r1.look t1.st p1;cases d with
 |non=>
  cases tc;rcases rl with r | ⟨a,_,w⟩
  ·cases r;rfl
  ·exact QN w
 |bl c=>cases tc;cases wQ rl;rfl
 |int i=>cases tc;cases az rl;rfl
 |tup es=>cases tc;obtain⟨a,xs,rfl,qa,rs⟩:=dQ t1.st.same rl;refine .inr (.inl ⟨xs,SqT.of qa,?_⟩);cases rs<;>rfl
 |lst es=>cases tc;obtain⟨a,xs,rfl,qa,rs⟩:=bq t1.st.same rl;refine .inl ⟨xs,.inl qa,?_⟩;cases rs<;>rfl
 |str _=>cases tc
 |dct _ _=>cases tc
 |dcp _ _=>cases tc
 |exc _=>cases tc
 |fn _=>cases tc
end
section
variable{X:Cx}{a:Expr}{fa:FE}{p pos:Pos}
theorem Pc(ha:DE X a fa)(he:∀whole,isTrue a X.env whole=(do let v <- whole;standAt a.pos;holding [v] (truthy v)):=by intro _;rfl):DT X a (Dm.tTr fa):=PT.weak (Af ha he) fun _ _ _=>Pb
end
end Br
namespace Dm
noncomputable def j4:List Dat->Option (List Int)
 |[]=>some []
 |.int i::r=>(j4 r).map fun ns=>i::ns
 |_=>none
end Dm
namespace Ts
open PySem PyProof.Rows
variable{M:Model}{A:Around}{E:Value->Shared->Prop}{s:Shared}{κ:KeyKind}{kd:SortKind}{a₀:Array Keyed}
end Ts
namespace Ts
open PySem PyProof.Rows
variable{M:Model}{A:Around}{E:Value->Shared->Prop}{s:Shared}{κ:KeyKind}{kd:SortKind}{a₀:Array Keyed}
end Ts
namespace Ts
open PySem PyProof.Rows
variable{M:Model}{A:Around}{E:Value->Shared->Prop}{s:Shared}{κ:KeyKind}{kd:SortKind}{a₀:Array Keyed}
end Ts
namespace Ts
open PySem PyProof.Rows
variable{M:Model}{A:Around}{E:Value->Shared->Prop}{s:Shared}{κ:KeyKind}{kd:SortKind}{a₀:Array Keyed}
end Ts
namespace Ts
open PySem PyProof.Rows
variable{A:Around}{E:Value->Shared->Prop}{s:Shared}{κ:KeyKind}{kd:SortKind}{a₀:Array Keyed}{prog:Program}{w:World}
end Ts
namespace Ts
open PySem PyProof.Rows
variable{A:Around}{E:Value->Shared->Prop}{s:Shared}{κ:KeyKind}{kd:SortKind}{a₀:Array Keyed}{prog:Program}{w:World}
end Ts
namespace Ts
open PySem PyProof.Rows
variable{A:Around}{E:Value->Shared->Prop}{s:Shared}{κ:KeyKind}{kd:SortKind}{a₀:Array Keyed}{prog:Program}{w:World}
end Ts
namespace Ts
open PySem PyProof.Rows
variable{A:Around}{E:Value->Shared->Prop}{s:Shared}{κ:KeyKind}{kd:SortKind}{a₀:Array Keyed}{prog:Program}{w:World}
end Ts
namespace Ts
open PySem PyProof.Rows
variable{A:Around}{E:Value->Shared->Prop}{s:Shared}{κ:KeyKind}{kd:SortKind}{prog:Program}{w:World}
end Ts
namespace Ts
open PySem PyProof.Rows
variable{A:Around}{E:Value->Shared->Prop}{s:Shared}{κ:KeyKind}{kd:SortKind}{a₀:Array Keyed}{prog:Program}{w:World}
end Ts
namespace Ts
open PySem PyProof.Rows
variable{A:Around}{E:Value->Shared->Prop}{s:Shared}{κ:KeyKind}{kd:SortKind}{prog:Program}{w:World}
end Ts
namespace Dm
section
variable{α:Type}
noncomputable def ins{α:Type}(lt:α->α->Bool)(x:α):List α->List α
 |[]=>[x]
 |y::l=>if lt y x then y::ins lt x l else x::y::l
noncomputable def eN{α:Type}(lt:α->α->Bool):List α->List α
 |[]=>[]
 |x::l=>ins lt x (eN lt l)
theorem lT(lt:α->α->Bool)(x:α):∀l,(ins lt x l).Perm (x::l)
 |[]=>List.Perm.refl _
 |y::l=>by
  rw[ins];split
  ·exact((lT lt x l).cons y).trans (List.Perm.swap x y l)
  ·exact List.Perm.refl _
theorem d7(lt:α->α->Bool):∀l,(eN lt l).Perm l
 |[]=>List.Perm.refl _
 |x::l=>(lT lt x _).trans ((d7 lt l).cons x)
theorem lU{lt:α->α->Bool}(tr:∀a b c,lt b a=false->lt c b=false->lt c a=false)(as:∀a b,lt a b=true->lt b a=false)(x:α):∀l:List α,l.Pairwise (fun a b=>lt b a=false)->(ins lt x l).Pairwise (fun a b=>lt b a=false)
 |[],_=>by simp[ins]
 |y::l,h=>by
  rw[ins];obtain⟨h1,h2⟩:=Rf.mp h;split
  ·rename_i hl;refine Rf.mpr ⟨fun z hz=>?_,lU tr as x l h2⟩;rcases Qk.mp ((lT lt x l).mem_iff.mp hz) with rfl | hz
   ·exact as _ _ hl
   ·exact h1 z hz
  ·rename_i hl;have hl':lt y x=false:=by simpa using hl
   refine Rf.mpr ⟨fun z hz=>?_,h⟩;rcases Qk.mp hz with rfl | hz
   ·exact hl'
   ·exact tr _ _ _ hl' (h1 z hz)
theorem d8{lt:α->α->Bool}(tr:∀a b c,lt b a=false->lt c b=false->lt c a=false)(as:∀a b,lt a b=true->lt b a=false):∀l:List α,(eN lt l).Pairwise (fun a b=>lt b a=false)
 |[]=>List.Pairwise.nil
 |x::l=>lU tr as x _ (d8 tr as l)
theorem j5{lt:α->α->Bool}(tot:∀a b,lt a b=false->lt b a=false->a=b):∀{l m:List α},l.Perm m->l.Pairwise (fun a b=>lt b a=false)->m.Pairwise (fun a b=>lt b a=false)->l=m
 |[],m,p,_,_=>(List.nil_perm.mp p).symm
 |x::l,[],p,_,_=>by have:=p.length_eq;simp at this
 |x::l,y::m,p,h1,h2=>by
  obtain⟨a1,a2⟩:=Rf.mp h1;obtain⟨b1,b2⟩:=Rf.mp h2;have e:x=y:=by
   rcases Qk.mp (p.mem_iff.mp Qe) with hx | hx
   ·exact hx
   ·rcases Qk.mp (p.mem_iff.mpr (Qe (a:=y) (l:=m))) with hy | hy
    ·exact hy.symm
    ·exact tot x y (b1 x hx) (a1 y hy)
  subst e;rw[j5 tot (List.Perm.cons_inv p) a2 b2]
noncomputable def jF(i:Nat)(e:FE):FE:=fun ρ=>match ρ[i]? with
 | some (.ow (.lst _))=>(match e ρ with
  | some (.val (.int j),ρ1)=>(match ρ1[i]? with
   | some (.ow (.lst ds))=>if 0≤j∧j≤BIG then (match ds[j.toNat]? with
     |some d=>some (.val d,ρ1.set i (.ow (.lst (ds.eraseIdx j.toNat))))
     |none=>none) else none
   |_=>none)
  |_=>none)
 |_=>none
noncomputable def isN:Dat->Bool
 |.non=>true
 |_=>false
noncomputable def vm:Dat->Dat->Option RV
 |d,.non=>vB (isN d)
 |_,_=>none
end
end Dm
namespace Br
open PySem PySem.Spec PyProof.Rows L2
theorem pF{H0:Hp}:∀ns:List Int,aC H0 (ns.map V.int) (ns.map Dat.int)
 |[]=>.nil
 |n::ns=>.cons (.int n) (pF ns)
section
variable{X:Cx}{a b c e:Expr}{f fa fb:FE}{fs:List FE}{p pos:Pos}
def M5(neg:Bool):R2:=fun x y H Q=>y=.non/\Q (.bl (if neg then !decide (x=V.non) else decide (x=V.non))) H
theorem EO{x:V}{v:Value}(r:RelV x v):(v == Value.none)=decide (x=V.non):=by
 cases x with
 |non=>cases r;rfl
 |bl b=>cases r;rfl
 |int i=>obtain⟨t,rfl⟩:=r;rfl
 |str z=>obtain⟨t,rfl⟩:=r;rfl
 |byt z=>obtain⟨t,rfl⟩:=r;rfl
 |flt z=>obtain⟨t,rfl⟩:=r;rfl
 |ref z=>cases r;rfl
 |ty z=>cases r;rfl
theorem Ba:OpR X (compareOp .Is) (M5 false):=by intro qL s σ H x y v u Q I rx ry h;obtain⟨rfl,q⟩:=h;cases ry;refine is_none_gen ?_;rw[EO rx];exact⟨.bl _,H,I,rfl,q⟩
theorem w_{H0 H:Hp}{x:V}{d:Dat}(r:jB H0 H x d):decide (x=V.non)=Dm.isN d:=by
 rcases r with r | ⟨a,rfl,w⟩
 ·cases r<;>rfl
 ·cases d with
  |non=>exact QN w
  |_=>rfl
theorem Bb:OpD (M5 false) Dm.vm:=by
 intro H0 H x y dx dy z Q s rx ry e k;unfold Dm.vm at e;split at e
 ·cases e;have hy:=w_ ry;have:y=V.non:=of_decide_eq_true (hy.trans rfl);refine⟨this,?_⟩;rw[if_neg (by decide),w_ rx];exact k _ H0 H (aK.refl s) (.bl _)
 ·cases e
theorem M6(ha:DE X a fa)(hb:DE X b fb):DE X (.Compare a [.Is] [b] pos) (Dm.e2 Dm.vm fa fb):=jX Ba Bb ha hb (cC _)
theorem M7(ha:DE X a fa)(hb:DE X b fb):DT X (.Compare a [.Is] [b] pos) (Dm.tV (Dm.e2 Dm.vm fa fb)):=pq Ba Bb ha hb (cC _)
end
section
variable{σ:L2.St}{H:Hp}{Q:VK}{D:Ends}
theorem lV{α:Type}(l:List α)(i:Nat):l.eraseIdx i=l.take i++l.drop (i+1):=List.eraseIdx_eq_take_drop_succ l i
theorem vo{H0:Hp}{vs:List V}{ds:List Dat}(i:Nat)(r:aC H0 vs ds):aC H0 (vs.eraseIdx i) (ds.eraseIdx i):=by rw[lV,lV];exact(r.take i).append (r.drop (i+1))
theorem ER{K:Ds}{i:Nat}{f:FE}(h:tD (Dm.jF i f) σ H Q):tBM K "list" Am (b5 i) (tDA [f]) σ H Q:=by
 obtain⟨H0,ρ,x,ρ',st,e,k⟩:=h;unfold Dm.jF at e;split at e
 case h_2=>cases e
 rename_i ds0 h0;obtain⟨a0,q0,n0,w0⟩:=st.ow i _ h0;refine⟨_,q0,?_⟩;obtain⟨xs0,y0,_⟩:=w0;refine⟨.inl ⟨rfl,xs0,.inl (.inl y0)⟩,?_⟩;split at e
 case h_2=>cases e
 rename_i j ρ1 e1;split at e
 case h_2=>cases e
 rename_i ds h2;split at e
 case isFalse=>cases e
 rename_i hb;split at e
 case h_2=>cases e
 rename_i d hd;cases e;refine⟨H0,ρ,[.val (.int j)],ρ1,st,by unfold Dm.eAs;rw[e1];rfl,fun vs H0' H' t r=>?_⟩;cases r with
 |cons r rr=>
  cases rr;cases Rep.isInt r;obtain⟨a,q,n,w⟩:=t.st.ow i _ h2;rw[q0]at q;cases q;obtain⟨xs,y,rs⟩:=w;obtain⟨v,hv,rv⟩:=rs.get hd;have Kd:j.toNat<xs.length:=(PU.mp hv).1;have hB:Dm.BIG=1000000000:=rfl;refine⟨a0,xs,j,j.toNat,v,rfl,rfl,y,by lia,by lia,?_,hv,?_⟩
  ·unfold seqIndex?;simp only[show ¬j<0 by lia,if_false];rw[if_pos (by rw[decide_eq_true (show 0<=j by lia),decide_eq_true (show j<(xs.length:Int) by lia)];rfl)]
  have ow:ak σ ρ1 a0:=⟨i,_,h2,q0⟩
  have hi:i<ρ1.length:=(PU.mp h2).1;refine k v H0' _ (t.trans ⟨t.st.write h2 q0 ⟨_,ao,vo _ rs⟩,Stp.write ow,fun b z=>cM h2 z,fun j' z=>trivial⟩) rv
end
section
variable{X:Cx}{e:Expr}{f:FE}{pos:Pos}
theorem ES(i:Nat){x:Str}{px ap cp:Pos}(he:DE X e f)(hi:X.N[i]?=some x:=by rfl)(hv:Vis X.env.scope x:=by trivial)(hd:(x == ("__debug__" : Str))=false:=by decide)
  (Nt:(x == ("__classdict__" : Str))=false:=by decide) (Kc:attributeBase (.Name x px) "pop" X.env (eval (.Name x px) X.env)=eval (.Name x px) X.env:=by rfl)
  (hfew:((backTo cp (starEach [e] X.env)).all (fun x=>!x.1)&&(backToKw cp (keywordEach [] X.env)).all (fun x=>x.1.isSome)
   && decide ([e].length+([]:List Keyword).length+(if ([]:List Keyword).isEmpty then 0 else 1)<30))=true:=by rfl)
  (G6:(ap.endLine == cp.line)=true:=by rfl) (hs:starEach [e] X.env=(false,eval e X.env)::starEach [] X.env:=by rfl) (G5:(backTo cp (starEach [] X.env)).any (·.1)=false:=by rfl) :
  DE X (.Call (.Attribute (.Name x px) "pop" ap) [e] [] cp) (Dm.jF i f):=
 PE.weak (oZ Rm PySem.F.slot_list_pop PySem.F.type_list_pop An (bz hi hv hd Nt) (aa he af hs) Kc hfew G6 hs G5) fun _ _ _=>ER
end
end Br
namespace L2
open PySem PySem.Spec PyProof.Rows
section
variable{P:Program}{w:World}{K:Ds}{mg:Str->Option Value}{base:Heap}{N:List Str}{qual:Str}{scope:Scope}{f:Addr}{cd:Value}{A:Around}{outer:List Env}{s₀:Shared}{H₀:Hp}{E:XK}{C:Addr}
 {qL:List (Addr×Obj)} {σ:St} {H:Hp} {s:Shared}
end
end L2
namespace Dm
noncomputable def gq:List Int->Int
 |[]=>0
 |x::r=>x+gq r
noncomputable def pG:List Dat->Option RV
 | [.lst xs]=>(match j4 xs with
  |some ns=>vI (gq ns)
  |none=>none)
 |_=>none
end Dm
namespace Br
open PySem PySem.Spec PyProof.Rows L2
theorem Bc(a b:List Int):Dm.gq (a++b)=Dm.gq a+Dm.gq b:=by
 induction a with
 |nil=>rw[Dm.gq,Ry,S0]
 |cons x a ih=>rw[Rl,Dm.gq,Dm.gq,ih,Int.add_assoc]
theorem j7(ns:List Int):∀k,k<=ns.length->preSum (fun i=>ns.getD i 0) k=Dm.gq (ns.take k)
 |0,_=>rfl
 |k+1,h=>by have e:preSum (fun i=>ns.getD i 0) (k+1)=preSum (fun i=>ns.getD i 0) k+ns.getD k 0:=rfl;rw[e,j7 ns k (by lia),List.take_succ_eq_append_getElem (by lia),Bc];rw[Q4,Ql (by lia)];simp[Dm.gq]
section
variable{X:Cx}
theorem qu{ns:List Int}{its:List Value}(rv:Vals (ns.map V.int) its):∀(i:Nat) (v:Value),its.toArray[i]?=some v->∃t,v=.int (ns.getD i 0) t:=by
 intro i v hv;have hv':its[i]?=some v:=by simpa using hv
 have zo:=rv.length;rw[Dp]at zo;have hi:i<ns.length:=by rw[zo];exact(PU.mp hv').1
 have hb:(ns.map V.int)[i]?=some (V.int ns[i]):=by rw[Qm,Ql hi];rfl
 obtain⟨u,hu,ru⟩:=rv.get hb;rw[hv']at hu;cases hu;obtain⟨t,rfl⟩:=ru;exact⟨t,by rw[Q4,Ql hi];rfl⟩
theorem zb(hc:X.calm=true):cZ X (.builtin "sum") (fun xs H Q=>∃(a:Addr) (ns:List Int),xs=[.ref a]/\Rd H a (.lst (ns.map V.int))/\Q (.int (Dm.gq ns)) H):=by
 intro qL s σ H xs us Q I r h;obtain⟨a,ns,rfl,hq,q⟩:=h;obtain⟨u,rfl,rx⟩:=vals1 r;cases rx;obtain⟨z,its,n,rv,e⟩:=hq.ok I.hok;have hl:s.heap.IsList a its.toArray:=⟨_,e,rfl,_,rfl⟩
 have zo:=rv.length;rw[Dp]at zo;have hax:a≠s.heap.objs.size:=QF (Qh e);refine PySem.call_sum_walkG (wpAny_pyIter_list hl ⟨s.heap.objs.size,_,_,_,_,_,fun i=>ns.getD i 0,rfl,Walks.list (A:=X.A.in1) (I.ok.hd hc) s.heap.objs.size a hax its.toArray,⟨⟨_,QA _ rfl,rfl,rfl⟩,hl.push _⟩,?_,qu rv,fun h' tk t' hk=>?_⟩)
 ·intro b hb;simp only[Qk,Rk,or_false]at hb;rcases hb with rfl | rfl
  ·show s.heap.objs.size<_;exact RN ..▸SX _
  ·show b<_;exact RN ..▸SR (Qh e)
 ·have e1:its.toArray.size=ns.length:=by rw[Qj,zo]
  refine⟨.int (Dm.gq ns),H,I.kept (t':=tk) fun b o eb=>hk b o ?_ (Qc _ eb),⟨t',?_⟩,q⟩
  ·intro hm;have:b=s.heap.objs.size:=by simpa using hm
   exact absurd (Qh eb) (by rw[this];exact Q0 _)
  ·rw[e1,j7 ns _ (Qf _),List.take_length]
theorem gu:∀{H0:Hp} {us:List V} {ds:List Dat} {ns:List Int},aC H0 us ds->Dm.j4 ds=some ns->us=ns.map V.int
 |_,_,_,_,.nil,h=>by cases h;rfl
 |_,_,_,_,.cons (ds:=ds) (d:=d) r rr,h=>by
  cases d with
  |int i=>
   rw[Dm.j4]at h;cases hn:Dm.j4 ds with
   |none=>rw[hn]at h;cases h
   |some ms=>rw[hn]at h;cases h;have:=Rep.isInt r;subst this;rw[gu rr hn];rfl
  |_=>cases h
theorem ET:CallD (fun xs H Q=>∃(a:Addr) (ns:List Int),xs=[.ref a]/\Rd H a (.lst (ns.map V.int))/\Q (.int (Dm.gq ns)) H) Dm.pG:=by
 intro H0 H vs ds z Q s rs e k;unfold Dm.pG at e;split at e
 ·split at e
  ·rename_i ns hb;cases e;cases rs with
   |cons r rr=>cases rr;obtain⟨a,us,rfl,qa,ra⟩:=bq s r;have:=gu ra hb;subst this;exact⟨a,ns,rfl,qa,k _ H0 H (aK.refl s) (.int _)⟩
  ·cases e
 ·cases e
end
section
variable{X:Cx}{e:Expr}{fs:List FE}{p pos:Pos}
theorem JK(hc:X.calm=true)(hg:Gl X "sum")(hm:X.mg "sum" = none)(ha:DA X [e] fs)(he:starEach [e] X.env=[(false,eval e X.env)]:=by rfl)(Fd:(backTo pos (starEach [] X.env)).any (·.1)=false:=by rfl):DE X (.Call (.Name "sum" p) [e] [] pos) (Dm.eB Dm.pG fs):=yW (zb hc) ET PyProof.Rows.boot_sum hg hm ha (he:=he) (Fd:=Fd)
end
structure Bd(K:Ds)(x qual:Str)(st:Stmt)(f:Addr)(fd:FuncData):Prop where
 ex:∃(oc:Value) (od:Option Addr) (dV kV doc pm:Value) (an:Option Addr) (cdv ct:Value) (osl:Array (Option Value)),
  fd=QD x qual (aN st) (aL st) (ah st) dV kV doc pm an cdv ct/\K.lookup f=some ⟨oc,od,.func fd,osl⟩/\RG K cdv qual=true
 kp:QY K (.ref f)=true
section
variable{P:Program}{w:World}{K:Ds}{mg:Str->Option Value}{base:Heap}
section
variable{x qual:Str}{st:Stmt}{f:Addr}
theorem Bd.ok{fd:FuncData}{N ps:List Str}{k:Nat}{sp:Sp}(F:Bd K x qual st f fd)(S:ay N ps (ah st))(len:∀vs H Q E,sp vs H Q E->vs.length=ps.length)
  (hbody:∀ (cdv:Value) (A:Around) (outer:List Env) (s:Shared) (H:Hp) (vs:List V) (Q:VK) (E:XK),bf k (A.deeper (envOfC qual (ah st) s.heap.objs.size f cdv))→sp vs H Q E →
   ∃t,PSs (rE CX0 P w K mg base N qual (ah st) f cdv A outer s H E).nox (aL st) t/\t { nx:=fun _ H'=>Q .non H',rt:=Q } (start N vs) H):aQ P w K mg base CX0 (k+1) f fd ps sp:=by
 obtain⟨oc,od,dV,kV,doc,pm,an,cdv,ct,osl,rfl,lk,Nt⟩:=F.ex;refine Gu lk Nt S len fun A outer s H vs Q E hr hsp=>?_;obtain⟨t,h,q⟩:=hbody cdv A outer s H vs Q E hr hsp;exact⟨t,h.nox,q⟩
theorem xg{oc:Value}{od an:Option Addr}{osl:Array (Option Value)}{dV kV doc pm cdv ct:Value}(l:K.lookup f=some ⟨oc,od,.func (QD x qual (aN st) (aL st) (ah st) dV kV doc pm an cdv ct),osl⟩)
  (c:RG K cdv qual=true) (k:QY K (.ref f)=true):Bd K x qual st f (QD x qual (aN st) (aL st) (ah st) dV kV doc pm an cdv ct):=⟨⟨oc,od,dV,kV,doc,pm,an,cdv,ct,osl,rfl,l,c⟩,k⟩
end
end
theorem EU{g:List Dat->Option RV}{c:Int}{vs:List V}{H:Hp}{Q:VK}{E:XK}(h:spD (fun ds=>g (ds++[.int c])) vs H Q E):spD g (vs++[.int c]) H Q E:=by obtain⟨H0,ds,z,s,r,e,k⟩:=h;exact⟨H0,ds++[.int c],z,s,r.append (.cons (.int _) .nil),e,k⟩
section
variable{σ:L2.St}{H:Hp}{Q:VK}
theorem EV{g:List Dat->Option RV}{c:Int}{fs:List FE}{E:XK}(h:tD (Dm.eF (fun ds=>g (ds++[.int c])) fs) σ H Q):oU (spD g) [.int c] E (tDA fs) σ H Q:=by obtain⟨H0,ρ,xs,ρ',st,e,k⟩:=u5 (E:=E) h;refine⟨H0,ρ,xs,ρ',st,e,fun vs H0' H' t r=>?_⟩;have:=k vs H0' H' t r;dsimp only at this;rw[Rc]at this;exact EU this
end
section
variable{X:Cx}{e:Expr}{es:List Expr}{fs:List FE}{p pos:Pos}
theorem EW{k:Nat}{F:Addr}{fd:FuncData}{ps:List Str}{g:List Dat->Option RV}{x:Str}{c:Int}{tk:Tok}(G:aQ X.prog X.w X.K X.mg X.base CX0 k F fd ps (spD g))(hr:bf k X.A)(hg:Gl X x)(hm:X.mg x=some (.ref F))(hk:QY X.K (.ref F)=true)(hb:Binds X.K fd ps [.int c tk])
  (ha:DA X (e::es) fs) (Ny:(x == ("__debug__" : Str))=false:=by decide) (he:starEach (e::es) X.env=(false,eval e X.env)::starEach es X.env:=by rfl) (Fd:(backTo pos (starEach es X.env)).any (·.1)=false:=by rfl) :
  DE X (.Call (.Name x p) (e::es) [] pos) (Dm.eF (fun ds=>g (ds++[.int c])) fs):=PE.weak (iQ G hr hg hm hk hb (dvs:=[.int c]) (.cons (show RelV (.int c) (.int c tk) from ⟨tk,rfl⟩) .nil) (o7 (X:=X)) ha Ny he Fd) fun _ _ _=>EV
end
end Br
namespace Dm
noncomputable abbrev FN:=Env->List (List Dat)->Option (Env×List (List Dat))
noncomputable def nNx:FN:=fun ρ r=>some (ρ,r)
noncomputable def zc(s u:FN):FN:=fun ρ r=>match s ρ r with
 |none=>none
 |some (ρ1,r1)=>u ρ1 r1
noncomputable def nIf(t:FT)(a b:FN):FN:=fun ρ r=>match t ρ with
 |none=>none
 |some (true,ρ1)=>a ρ1 r
 |some (false,ρ1)=>b ρ1 r
noncomputable def vp(i e:FE):FN:=fun ρ r=>match i ρ with
 | some (.val (.int k),ρ1)=>(match ixN r.length k with
  |none=>none
  |some m=>match r[m]? with
   |none=>none
   |some row=>match e ρ1 with
    |none=>none
    |some (x,ρ2)=>match tk ρ2 x with
     |none=>none
     |some (d,ρ3)=>if row.length<SZ then some (ρ3,r.set m (row++[d])) else none)
 |_=>none
noncomputable def f_(bd:FB)(body:FN):List Dat->FN
 |[],ρ,r=>some (ρ,r)
 |d::q,ρ,r=>match bd d ρ with
  |none=>none
  |some ρ1=>match body ρ1 r with
   |none=>none
   |some (ρ2,r2)=>f_ bd body q ρ2 r2
noncomputable def jG(it:FI)(bd:FB)(body:FN):FN:=fun ρ r=>match it ρ with
 |none=>none
 |some (ds,ρ1)=>f_ bd body ds ρ1 r
noncomputable def nMk(bd:FB):List Dat->Env->Option Env
 |[],ρ=>some ρ
 |d::r,ρ=>match bd d ρ with
  |none=>none
  |some ρ1=>nMk bd r ρ1
noncomputable def lW(j:Nat)(it:FI)(own:Nat)(bd:FB)(Fz:FN):FS:=fun ρ=>if j=0 then none else match it ρ with
 |none=>none
 | some (ds,ρ1)=>if ds.length≤SZ then (match nMk bd ds (ρ1++Qd own .un) with
  |none=>none
  |some ρ2=>match Fz ((ρ2.take ρ1.length).set j .un) (Qd ds.length []) with
   |none=>none
   |some (ρ3,r)=>some (.nx (ρ3.set j (.ow (.lst (r.map .lst)))))) else none
noncomputable def jH:List Dat->Option RV
 |[.dct ks _]=>if ks.length<=63 then some (.new (.lst ((eN (fun a b=>decide (a<b)) ks).map .int))) else none
 |_=>none
noncomputable def r_:List Dat->Option RV
 |[.dct ks vs]=>some (.new (.dct ks vs))
 |_=>none
noncomputable def d9:List Int->List Dat->Int->List Int
 |k::ks,_::vs,i=>if k=i then d9 ks vs i else k::d9 ks vs i
 |_,_,_=>[]
noncomputable def d_:List Int->List Dat->Int->List Dat
 |k::ks,v::vs,i=>if k=i then d_ ks vs i else v::d_ ks vs i
 |_,_,_=>[]
noncomputable def lX(i:Nat)(e:FE):FE:=fun ρ=>match ρ[i]? with
 | some (.ow (.dct _ _))=>(match e ρ with
  | some (.val (.int k),ρ1)=>(match ρ1[i]? with
   | some (.ow (.dct ks vs))=>(match bC ks vs k with
    |some d=>some (.val d,ρ1.set i (.ow (.dct (d9 ks vs k) (d_ ks vs k))))
    |none=>none)
   |_=>none)
  |_=>none)
 |_=>none
mutual
noncomputable def bw:Dat->Bool
 |.tup xs=>fD xs
 |.lst xs=>fD xs
 |.dct _ _=>false
 |.dcp _ _=>false
 |.exc _=>false
 |_=>true
noncomputable def fD:List Dat->Bool
 |[]=>true
 |x::r=>bw x&&fD r
end
noncomputable def tkd(ρ:Env):Val->Option (Dat×Env)
 |.val d=>some (d,ρ)
 |.new d=>some (d,ρ)
 |.slot i=>match ρ[i]? with
  |some (.ow (.dct ks vs))=>some (.dct ks vs,ρ)
  |some (.ow d)=>some (d,ρ.set i (.sh d))
  |some (.sh d)=>some (d,ρ)
  |_=>none
noncomputable def vq(ρ:Env):List Val->Option (List Dat×Env)
 |[]=>some ([],ρ)
 |x::r=>match tkd ρ x with
  |none=>none
  |some (d,ρ1)=>match vq ρ1 r with
   |none=>none
   |some (ds,ρ2)=>some (d::ds,ρ2)
noncomputable def eFd(f:List Dat->Option RV)(as:List FE):FE:=fun ρ=>match eAs as ρ with
 |none=>none
 |some (xs,ρ1)=>match vq ρ1 xs with
  |none=>none
  |some (ds,ρ2)=>match f ds with
   |none=>none
   |some v=>if bw v.dat then some (v.br,ρ2) else none
noncomputable def i9:Dat->Dat->Option RV
 |.int i,.int j=>if i.natAbs.log2<1000000/\j.natAbs.log2<1000000 then vI (i*j) else none
 |_,_=>none
noncomputable def gw(lo k:Int)(n:Nat):List Dat:=(Qs n).map fun i=>Dat.int (lo+(i:Nat)*k)
noncomputable def cF(i j k:Int):Nat:=if i<j then ((j-i-1) / k+1).toNat else 0
noncomputable def iRs(a b c:FE):FI:=fun ρ=>match a ρ with
 | some (.val (.int i),ρ1)=>(match b ρ1 with
  | some (.val (.int j),ρ2)=>(match c ρ2 with
   |some (.val (.int k),ρ3)=>if (0<k/\k<=1000)/\j<=BIG/\-BIG<=j/\i<=BIG/\-BIG<=i then some (gw i k (cF i j k),ρ3) else none
   |_=>none)
  |_=>none)
 |_=>none
noncomputable def jI:List Val->Option (List Dat)
 |[]=>some []
 |.val d::r=>(jI r).map fun ds=>d::ds
 |_=>none
noncomputable def eFn(f:List Dat->Option (RV×Dat))(e0:FE)(as:List FE):FE:=fun ρ=>match eAs (e0::as) ρ with
 | some (.new d::xs,ρ1)=>(match jI xs with
  |none=>none
  |some ds=>match f (d::ds) with
   |none=>none
   |some (v,_)=>some (v.br,ρ1))
 |_=>none
end Dm
namespace Br
open PySem PySem.Spec PyProof.Rows L2
section
variable{H0 H:Hp}{rows:List (List Dat)}{ps:List Addr}{ρs:Dm.Env}{H0s Hs:Hp}{σs:L2.St}{ρ ρ':Dm.Env}{j:Nat}{σ:L2.St}{b:Addr}
def aF(H0 H:Hp):List Addr->List (List Dat)->Prop
 |[],[]=>True
 |p::ps,r::rs=>(∃xs,H p=some (.lst xs)/\aC H0 xs r)/\aF H0 H ps rs
 |_,_=>False
theorem aF.len:∀{ps:List Addr} {rs:List (List Dat)},aF H0 H ps rs->ps.length=rs.length
 |[],[],_=>rfl
 |_::_,_::_,h=>by simp[aF.len h.2]
theorem aF.get:∀{ps:List Addr} {rs:List (List Dat)} {i:Nat} {r:List Dat},aF H0 H ps rs->rs[i]?=some r->∃p xs,ps[i]?=some p/\H p=some (.lst xs)/\aC H0 xs r
 |[],[],_,_,_,e=>by simp at e
 |p::_,_::_,0,_,h,e=>by simp at e;subst e;obtain⟨xs,h1,h2⟩:=h.1;exact⟨p,xs,rfl,h1,h2⟩
 |_::_,_::_,i+1,_,h,e=>by obtain⟨p,xs,h1,h2⟩:=aF.get (i:=i) h.2 (by simpa using e);exact⟨p,xs,by simpa using h1,h2⟩
theorem aF.mono{H0 H H0' H':Hp}:∀{ps:List Addr} {rs:List (List Dat)},aF H0 H ps rs->aq H0 H0'->(∀p∈ps,H' p=H p)->aF H0' H' ps rs
 |[],[],_,_,_=>trivial
 |p::ps,r::rs,h,s,k=>by obtain⟨⟨xs,h1,h2⟩,h3⟩:=h;exact⟨⟨xs,by rw[k p Qe];exact h1,h2.mono s⟩,aF.mono h3 s fun q hq=>k q (Qg _ hq)⟩
theorem aF.set{p:Addr}{xs:List V}{r:List Dat}(w:aC H0 xs r):∀{ps:List Addr} {rs:List (List Dat)} {i:Nat},aF H0 H ps rs->ps.Nodup->ps[i]?=some p->aF H0 (upd H p (.lst xs)) ps (rs.set i r)
 |[],[],_,_,_,e=>by simp at e
 |q::ps,_::rs,0,h,n,e=>by simp at e;subst e;refine⟨⟨xs,ao,w⟩,h.2.mono (aq.refl _) fun y hy=>ai fun z=>?_⟩;subst z;exact(Qv.mp n).1 hy
 |q::ps,_::rs,i+1,h,n,e=>by
  have e':ps[i]?=some p:=by simpa using e
  obtain⟨⟨ys,h1,h2⟩,h3⟩:=h;obtain⟨n1,n2⟩:=Qv.mp n;refine⟨⟨ys,?_,h2⟩,aF.set w h3 n2 e'⟩;rw[ai fun z=>?_]
  ·exact h1
  ·subst z;exact n1 (QL e')
theorem aF.some:∀{ps:List Addr} {rs:List (List Dat)},aF H0 H ps rs->∀p∈ps,∃o,H p=some o
 |[],[],_,_,h=>by cases h
 |q::ps,_::rs,h,p,hp=>by
  rcases Qk.mp hp with rfl | hp
  ·obtain⟨xs,h1,_⟩:=h.1;exact⟨_,h1⟩
  ·exact aF.some h.2 p hp
structure NS(j:Nat)(σs:L2.St)(ρs:Dm.Env)(H0s Hs:Hp)(σ:L2.St)(ρ:Dm.Env)(H0 H:Hp)(rows:List (List Dat)):Prop where
 st:au H0 H σ ρ
 stp:Stp (ak σs ρs) H0s Hs H0 H
 own:∀a,ak σ ρ a->ak σs ρs a\/Hs a=none
 fx:σ[0]?=σs[0]?
 ex:∃(L:Addr) (ps:List Addr),σ[j]?=some (some (.ref L))/\Hs L=none/\H0 L=none/\¬ak σ ρ L/\H L=some (.lst (ps.map V.ref))/\(L::ps).Nodup/\(∀p∈ps,Hs p=none/\H0 p=none/\¬ak σ ρ p)/\aF H0 H ps rows
theorem NS.est{H0 H H0' H':Hp}(n:NS j σs ρs H0s Hs σ ρ H0 H rows)(t:ESt σ ρ H0 H ρ' H0' H'):NS j σs ρs H0s Hs σ ρ' H0' H' rows:=by
 obtain⟨L,ps,h1,h2,h3,h4,h5,h6,h7,h8⟩:=n.ex;obtain⟨k1,k2,k3⟩:=t.bY h5 h3 h4;refine⟨t.st,n.stp.trans t.stp n.own,fun a z=>n.own a (t.own a z),n.fx,L,ps,h1,h2,k2,k3,k1,h6,fun p hp=>?_,h8.mono t.stp.s0 fun p hp=>?_⟩
 ·obtain⟨q1,q2,q3⟩:=h7 p hp;obtain⟨o,q4⟩:=h8.some p hp;obtain⟨z1,z2,z3⟩:=t.bY q4 q2 q3;exact⟨q1,z2,z3⟩
 ·obtain⟨q1,q2,q3⟩:=h7 p hp;obtain⟨o,q4⟩:=h8.some p hp;obtain⟨z1,z2,z3⟩:=t.bY q4 q2 q3;rw[z1,q4]
theorem NS.bind{σ σ':L2.St}(n:NS j σs ρs H0s Hs σ ρ H0 H rows)(st:au H0 H σ' ρ')(o:∀a,ak σ' ρ' a->ak σ ρ a)(hj:σ'[j]?=σ[j]?)(h0:σ'[0]?=σ[0]?):NS j σs ρs H0s Hs σ' ρ' H0 H rows:=by obtain⟨L,ps,h1,h2,h3,h4,h5,h6,h7,h8⟩:=n.ex;exact⟨st,n.stp,fun a z=>n.own a (o a z),h0.trans n.fx,L,ps,hj.trans h1,h2,h3,fun z=>h4 (o L z),h5,h6,fun p hp=>⟨(h7 p hp).1,(h7 p hp).2.1,fun z=>(h7 p hp).2.2 (o p z)⟩,h8⟩
noncomputable def oK(H0 H:Hp)(ps:List Addr):Hp:=fun b=>if b∈ps then H b else H0 b
theorem kM(h:b∈ps):oK H0 H ps b=H b:=by unfold oK;rw[if_pos h]
theorem cP(h:b∉ps):oK H0 H ps b=H0 b:=by unfold oK;rw[if_neg h]
theorem pH(s:aq H0 H):aq H0 (oK H0 H ps):=fun b o e=>by
 by_cases q:b∈ps
 ·rw[kM q];exact s _ _ e
 ·rw[cP q];exact e
theorem sd(s:aq H0 H):aq (oK H0 H ps) H:=fun b o e=>by
 by_cases q:b∈ps
 ·rw[kM q]at e;exact e
 ·rw[cP q]at e;exact s _ _ e
theorem aF.reps{H0 H H1:Hp}:∀{ps:List Addr} {rs:List (List Dat)},aF H0 H ps rs->aq H0 H1->(∀p∈ps,H1 p=H p)->aC H1 (ps.map V.ref) (rs.map Dat.lst)
 |[],[],_,_,_=>.nil
 |p::ps,r::rs,h,s,k=>by obtain⟨⟨xs,h1,h2⟩,h3⟩:=h;exact .cons (.lst (.inl ((k p Qe).trans h1)) (h2.mono s)) (aF.reps h3 s fun q hq=>k q (Qg _ hq))
theorem NS.done{ρ:Dm.Env}(n:NS j σs ρs H0s Hs σ ρ H0 H rows):∃H0',SSt σs ρs H0s Hs σ (ρ.set j (.ow (.lst (rows.map Dat.lst)))) H0' H:=by
 obtain⟨L,ps,h1,h2,h3,h4,h5,h6,h7,h8⟩:=n.ex;obtain⟨n1,n2⟩:=Qv.mp h6;have ss:=pH (ps:=ps) n.st.same;have st:au (oK H0 H ps) H σ ρ:={
  same:=sd n.st.same
  len:=n.st.len
  sh:=fun i d h=>by obtain⟨v,z,r⟩:=n.st.sh i d h;exact⟨v,z,r.mono ss⟩
  ow:=fun i d h=>by obtain⟨b,z,q,w⟩:=n.st.ow i d h;have nb:b∉ps:=fun y=>(h7 b y).2.2 ⟨i,d,h,z⟩;exact⟨b,z,by rw[cP nb];exact q,w.mono ss rfl⟩
  dis:=n.st.dis }
 refine⟨oK H0 H ps,st.fP h1 h4 (by rw[cP n1];exact h3) ⟨_,h5,h8.reps ss fun p hp=>kM hp⟩,⟨n.stp.s0.trans ss,n.stp.s1,fun a o e=>?_,n.stp.s3⟩,fun a z=>?_,n.fx⟩
 ·by_cases q:a∈ps
  ·exact .inl (h7 a q).1
  ·rw[cP q]at e;exact n.stp.s2 a o e
 ·obtain⟨i,d,z1,z2⟩:=z;by_cases q:j=i
  ·subst q;rw[h1]at z2;cases z2;exact .inr h2
  ·rw[Dk q]at z1;exact n.own a ⟨i,d,z1,z2⟩
def tDN(j:Nat)(f:Dm.FN):TS:=fun D σ H=>∃σs ρs H0s Hs H0 ρ rows ρ' rows',NS j σs ρs H0s Hs σ ρ H0 H rows/\f ρ rows=some (ρ',rows')/\∀σ' H0' H',NS j σs ρs H0s Hs σ' ρ' H0' H' rows'->aq H0 H0'->D.nx σ' H'
end
section
variable{D:Ends}{σ:L2.St}{H:Hp}{j:Nat}
theorem M8(h:tDN j Dm.nNx D σ H):zX D σ H:=by obtain⟨σs,ρs,H0s,Hs,H0,ρ,rows,ρ',rows',n,e,k⟩:=h;cases e;exact k σ H0 H n (aq.refl _)
theorem JL{s u:Dm.FN}(h:tDN j (Dm.zc s u) D σ H):jo (tDN j s) (tDN j u) D σ H:=by
 obtain⟨σs,ρs,H0s,Hs,H0,ρ,rows,ρ',rows',n,e,k⟩:=h;unfold Dm.zc at e;split at e
 ·cases e
 rename_i ρ1 r1 e1;exact⟨σs,ρs,H0s,Hs,H0,ρ,rows,ρ1,r1,n,e1,fun σ' H0' H' n' s1=>⟨σs,ρs,H0s,Hs,H0',ρ1,r1,ρ',rows',n',e,fun σ2 H2 Hc n2 s2=>k σ2 H2 Hc n2 (s1.trans s2)⟩⟩
theorem M9{t:FT}{a b:Dm.FN}(h:tDN j (Dm.nIf t a b) D σ H):D0 (tDT t) (tDN j a) (tDN j b) D σ H:=by
 obtain⟨σs,ρs,H0s,Hs,H0,ρ,rows,ρ',rows',n,e,k⟩:=h;unfold Dm.nIf at e;split at e
 ·cases e
 ·rename_i ρ1 e1;refine⟨H0,ρ,true,ρ1,n.st,e1,fun H1 Hb t1=>?_⟩;dsimp only;rw[if_pos rfl];exact⟨σs,ρs,H0s,Hs,H1,ρ1,rows,ρ',rows',n.est t1,e,fun σ2 H2 Hc n2 s2=>k σ2 H2 Hc n2 (t1.stp.s0.trans s2)⟩
 ·rename_i ρ1 e1;refine⟨H0,ρ,false,ρ1,n.st,e1,fun H1 Hb t1=>?_⟩;dsimp only;rw[if_neg QE];exact⟨σs,ρs,H0s,Hs,H1,ρ1,rows,ρ',rows',n.est t1,e,fun σ2 H2 Hc n2 s2=>k σ2 H2 Hc n2 (t1.stp.s0.trans s2)⟩
theorem JM{fi:Dm.FI}{bd:Dm.FB}{g:TG}{body:Dm.FN}{is:List Nat}(hb:BD is g bd)(hj:j∉is)(h:tDN j (Dm.jG fi bd body) D σ H):z_ (tDI fi) g (tDN j body) D σ H:=by
 obtain⟨σs,ρs,H0s,Hs,H0,ρ,rows,ρ',rows',n,e,k⟩:=h;unfold Dm.jG at e;split at e
 ·cases e
 rename_i ys ρ1 e1;refine⟨H0,ρ,ys,ρ1,n.st,e1,fun J H00 Hb t1 jw=>?_⟩;refine ⟨fun i m σ H=>∃ H0 ρ rows,NS j σs ρs H0s Hs σ ρ H0 H rows∧aq H00 H0∧m=ys.length-i∧i≤ys.length∧Dm.f_ bd body (ys.drop i) ρ rows=some (ρ',rows'),
  ⟨ys.length,H00,ρ1,rows,n.est t1,aq.refl _,by simp,QM _,by simpa using e⟩,?_⟩
 rintro i m σ H ⟨H0,ρ,rows,n,s00,rfl,hi,e⟩;obtain⟨js,jg⟩:=jw H0 H s00 n.st.same;by_cases Kd:i<ys.length
 ·have hd:ys[i]?=some ys[i]:=by simp[Kd]
  obtain⟨g1,g2⟩:=jg i ys[i] hd;rw[Rw Kd]at e;unfold Dm.f_ at e;refine .inr ⟨g1,fun σ' H'=>∃H0 ρ rows,NS j σs ρs H0s Hs σ' ρ H0 H' rows/\aq H00 H0/\Dm.f_ bd body (ys.drop (i+1)) ρ rows=some (ρ',rows'),?_,fun x H' y=>?_⟩
  ·rintro σ' H' ⟨H0',ρ2,r2,h1,h2,h3⟩;exact⟨ys.length-(i+1),by lia,H0',ρ2,r2,h1,h2,rfl,Kd,h3⟩
  ·obtain⟨H0',gr,rx⟩:=g2 x H' y;split at e
   ·cases e
   ·rename_i ρ2 e2;have t2:=ESt.grow n.st gr;have n2:=n.est t2;refine hb H0' H' σ ρ ρ2 x ys[i] _ t2.st rx e2 fun σ2 st2 o2 k2 _ f2=>?_;have n3:=n2.bind st2 o2 (k2 j hj) f2;have s3:aq H00 H0':=s00.trans gr.s0;split at e
    ·cases e
    ·rename_i ρ3 r3 e3;refine⟨σs,ρs,H0s,Hs,H0',ρ2,rows,ρ3,r3,n3,e3,fun σ4 H4 Hd n4 s4=>⟨H4,ρ3,r3,n4,s3.trans s4,e⟩⟩
 ·have e':i=ys.length:=by lia
  subst e';rw[R5]at e;cases e;exact .inl ⟨js _ (Qf _),k σ H0 H n (t1.stp.s0.trans s00)⟩
theorem JN{K:Ds}{fi f:FE}(h:tDN j (Dm.vp fi f) D σ H):e8 (tBM K "list" cJ (tOp (yJ K) (b5 j) (tD fi)) (tDA [f])) D σ H:=by
 obtain⟨σs,ρs,H0s,Hs,H0,ρ,rows,ρ',rows',n,e,k⟩:=h;unfold Dm.vp at e;split at e
 case h_2=>cases e
 rename_i z ρ1 e1;split at e
 ·cases e
 rename_i m em;split at e
 ·cases e
 rename_i row er;split at e
 ·cases e
 rename_i x ρ2 e2;split at e
 ·cases e
 rename_i d ρ3 e3;split at e
 case isFalse=>cases e
 rename_i hz;cases e;obtain⟨L,ps0,h1,_⟩:=n.ex;refine⟨_,h1,H0,ρ,_,ρ1,n.st,e1,fun y H1 Hb t1 r1=>?_⟩;have n1:=n.est t1;obtain⟨L',ps,q1,q2,q3,q4,q5,q6,q7,q8⟩:=n1.ex;rw[h1]at q1;cases q1;obtain⟨q,xs,hq,hqx,hqr⟩:=q8.get er;have hqm:q∈ps:=QL hq;refine⟨L,ps.map V.ref,z,V.ref q,rfl,Rep.isInt r1,.inl (.inl q5),?_,.inl ⟨rfl,xs,.inl (.inl hqx)⟩,?_⟩
 ·show (L2.ixN (ps.map V.ref).length z).bind (fun j=>(ps.map V.ref)[j]?)=_;rw[Dp,q8.len,<- Jb,em];show (ps.map V.ref)[m]?=_;rw[Qm,hq];rfl
 refine⟨H1,ρ1,[x],ρ2,n1.st,by unfold Dm.eAs;rw[e2];rfl,fun vs H2 Hc t2 r2=>?_⟩;cases r2 with
 |cons r rr=>
  cases rr;obtain⟨H3,t3,b3,r3,_,_⟩:=take1 t2 (aq.refl _) r e3;have n3:=n1.est t3;obtain⟨L',ps',w1,w2,w3,w4,w5,w6,w7,w8⟩:=n3.ex;rw[h1]at w1;cases w1;obtain⟨k1,_,_⟩:=t3.bY q5 q3 q4;rw[k1]at w5;have ep:ps'=ps:=by
   have:ps.map V.ref=ps'.map V.ref:=by injection w5 with z;injection z
   exact((Sg fun a b h=>by injection h).mp this).symm
  subst ep;obtain⟨q',ys,hq',hqy,Be⟩:=w8.get er;rw[hq]at hq';cases hq';have nL:L≠q:=fun z=>(Qv.mp w6).1 (z▸hqm);refine⟨q,ys,_,rfl,rfl,hqy,by rw[Be.length];exact Qy hz (by decide),?_⟩;obtain⟨z1,z2,z3⟩:=w7 q hqm;refine k σ H3 _ ⟨n3.st.aside z2 z3,n3.stp.aside z1,n3.own,n3.fx,L,ps',h1,w2,w3,w4,by rw[ai nL];exact k1,w6,w7,aF.set (Be.append (.cons r3 .nil)) w8 (Qv.mp w6).2 hq⟩ (t1.stp.s0.trans t3.stp.s0)
end
section
variable{bd:Dm.FB}{is:List Nat}{Fz:Dm.FN}{j own:Nat}{ρ:Dm.Env}{fi:Dm.FI}{σ:L2.St}{g:TG}
theorem Bf{own:Nat}{Q:VK}{H00 Hb:Hp}{ρ1 ρ2:Dm.Env}{ds:List Dat}{J:It}(hb:BD is g bd)(hl:∀i∈is,σ.length<=i)
  (st1:au H00 Hb σ ρ1) (jw:JW J H00 ds) (hsz:ds.length<=Dm.SZ) (e2:Dm.nMk bd ds (ρ1++Qd own .un)=some ρ2) (D:Addr) (hD:Hb D=none)
  (k:∀ H0' H' (ps:List Addr),au H0' H' σ (ρ2.take ρ1.length)→Stp (ak σ ρ1) H00 Hb H0' H'→(∀ a,ak σ (ρ2.take ρ1.length) a→ak σ ρ1 a)→H' D=some (.lst (ps.map V.ref))→H0' D=none→(D::ps).Nodup→(∀ p∈ps,Hb p=none∧H0' p=none) →
   aF H0' H' ps (Qd ds.length [])->Q (.ref D) H') :
  ∃W:Nat->Nat->L2.St->Hp->Prop,(∃m,W 0 m (σ++Qd own none) (upd Hb D (.lst [])))/\∀i m σ' H',W i m σ' H' ->
  (J.stop i H'∧Q (.ref D) H')∨(J.go i H'∧∀ x H2,J.yld i H' x H2→g x σ' H2 fun σ2 H3=>Er σ2 H3 fun b H4=>if b=true
   then oF dJ σ2 H4 fun y H5=>∃En,H5 D=some (.lst En)/\En.length<sizeLine/\∃m',m'<m/\W (i+1) m' σ2 (upd H5 D (.lst (En++[y])))
   else ∃m',m'<m/\W (i+1) m' σ2 H4):=by
 have noD:¬ak σ ρ1 D:=st1.aR hD;refine ⟨fun i m σ' H'=>∃ (H0c:Hp) (ρc:Dm.Env) (ps:List Addr),au H0c H' σ' ρc∧aq H00 H0c∧m=ds.length-i∧i≤ds.length∧Dm.nMk bd (ds.drop i) ρc=some ρ2 ∧
  H' D=some (.lst (ps.map V.ref))/\ps.length=i/\H0c D=none/\(D::ps).Nodup/\(∀p∈ps,Hb p=none/\H0c p=none)/\aF H0c H' ps (Qd i [])/\Stp (ak σ ρ1) H00 Hb H0c H'/\(∀j,j<σ.length->σ'[j]?=σ[j]?)/\(∀a,ak σ' ρc a->ak σ ρ1 a),
  ⟨ds.length,H00,ρ1++Qd own .un,[],(st1.aside (st1.same.free hD) noD).ext own,aq.refl _,by simp,QM _,by simpa using e2,ao,rfl,st1.same.free hD,by simp,by simp,trivial,(Stp.refl _ _ _).aside hD,
   fun j hj=>Qi hj,fun a z=>jC st1 z⟩,?_⟩
 rintro i m σ' H' ⟨H0c,ρc,ps,sc,s00,rfl,hi,ec,hDl,Fd,n0,nd,hps,hro,sp,hσ,ho⟩;have nOc:¬ak σ' ρc D:=fun z=>noD (ho D z);have nOp:∀p∈ps,¬ak σ' ρc p:=fun p hp z=>st1.aR (hps p hp).1 (ho p z);obtain⟨js,jg⟩:=jw H0c H' s00 sc.same;by_cases Kd:i<ds.length
 ·have hd:ds[i]?=some ds[i]:=by simp[Kd]
  obtain⟨g1,g2⟩:=jg i ds[i] hd;rw[Rw Kd]at ec;unfold Dm.nMk at ec;refine .inr ⟨g1,fun y H2 yy=>?_⟩;obtain⟨H0',gr,rx⟩:=g2 y H2 yy;split at ec
  ·cases ec
  rename_i ρ3 e3;have t2:=ESt.grow sc gr;obtain⟨hD2,n02,no2⟩:=t2.bY hDl n0 nOc;refine hb H0' H2 σ' ρc ρ3 y ds[i] _ t2.st rx e3 fun σ3 st3 o3 k3 d3 _=>?_;unfold Er;dsimp only;rw[if_pos rfl];refine⟨QM _,fun p hp=>?_⟩;have hpD:p≠D:=fun z=>by rw[z,hD2]at hp;cases hp
  have noP:¬ak σ3 ρ3 p:=st3.aR hp;have M_:∀q∈ps,q≠p:=fun q hq z=>by obtain⟨o,h1⟩:=hro.some q hq;have:=gr.s1 q o h1;rw[z,hp]at this;cases this
  refine⟨ps.map V.ref,by rw[ai (Ne.symm hpD)];exact hD2,?_,ds.length-(i+1),by lia,H0',ρ3,ps++[p],?_,s00.trans gr.s0,rfl,Kd,ec,?_,by simp[Fd],n02,?_,?_,?_,?_,?_,?_⟩
  ·rw[Dp,Fd];unfold Dm.SZ at hsz;exact Qy (Qy Kd hsz) (by decide)
  ·have no3:¬ak σ3 ρ3 D:=fun z=>no2 (o3 D z);exact(st3.aside (st3.same.free hp) noP).aside n02 no3
  ·rw[ao,Qq];rfl
  ·rw[<- Rl];refine Rh.mpr ⟨nd,by simp,fun a ha b hb=>?_⟩;rw[Qo.mp hb];rcases Qk.mp ha with rfl | ha
   ·exact Ne.symm hpD
   ·exact M_ a ha
  ·intro q hq;rcases Qu.mp hq with hq | hq
   ·refine⟨(hps q hq).1,?_⟩;obtain⟨o,h1⟩:=hro.some q hq;exact(t2.bY h1 (hps q hq).2 (nOp q hq)).2.1
   ·rw[Qo.mp hq];exact⟨(sp.trans t2.stp fun a z=>.inl (ho a z)).gone hp,st3.same.free hp⟩
  ·have base:aF H0' (upd (upd H2 p (.lst [])) D (.lst (ps.map V.ref++[V.ref p]))) ps (Qd i []):=hro.mono gr.s0 fun q hq=>by
    have hqD:q≠D:=fun z=>(Qv.mp nd).1 (z▸hq);obtain⟨o,h1⟩:=hro.some q hq;rw[ai hqD,ai (M_ q hq),gr.s1 q o h1,h1]
   have app:∀{H0 H:Hp} {ps:List Addr} {rs:List (List Dat)} {p:Addr},aF H0 H ps rs->H p=some (.lst [])->aF H0 H (ps++[p]) (rs++[[]]):=by
    intro H0 H ps rs p h1 h2
    induction ps generalizing rs with
    |nil=>cases rs with
     |nil=>exact⟨⟨[],h2,.nil⟩,trivial⟩
     |cons _ _=>exact h1.elim
    |cons q ps ih=>cases rs with
     |nil=>exact h1.elim
     |cons r rs=>exact⟨h1.1,ih h1.2⟩
   have:=app base (p:=p) (by rw[ai hpD,ao]);rw[List.replicate_succ'];exact this
  ·exact((sp.trans t2.stp fun a z=>.inl (ho a z)).aside ((sp.trans t2.stp fun a z=>.inl (ho a z)).gone hp)).aside hD
  ·exact fun j hj=>(k3 j fun z=>R4.mpr (hl j z) hj).trans (hσ j hj)
  ·exact fun a z=>ho a (o3 a z)
 ·have e':i=ds.length:=by lia
  subst e';rw[R5]at ec;cases ec;refine .inl ⟨js _ (Qf _),k H0c H' ps ?_ sp ?_ hDl n0 nd hps hro⟩
  all_goals
   have zo:σ.length<=ρ2.length:=by rw[<- sc.len];refine R4.mp fun z=>?_;have q:=hσ σ'.length z;rw[QZ (Qf _),Ql z]at q;cases q
   have tk:∀{j:Nat} {c:Dm.Cell},(ρ2.take ρ1.length)[j]?=some c->j<σ.length/\ρ2[j]?=some c:=fun {j c} h=>by
    have hj:j<ρ1.length:=by
     have:=(PU.mp h).1;rw[Rg]at this
     lia
    rw[RP hj]at h;exact⟨by rw[st1.len];exact hj,h⟩
  ·refine⟨sc.same,?_,fun j d h=>?_,fun j d h=>?_,fun j j' d d' a h1 h2 h3 h4=>?_⟩
   ·rw[Rg,<- st1.len];lia
   ·obtain⟨hj,h⟩:=tk h;obtain⟨v,q,r⟩:=sc.sh j d h;exact⟨v,(hσ j hj).symm.trans q,r⟩
   ·obtain⟨hj,h⟩:=tk h;obtain⟨v,q,r⟩:=sc.ow j d h;exact⟨v,(hσ j hj).symm.trans q,r⟩
   ·obtain⟨hj,h1⟩:=tk h1;obtain⟨hj',h2⟩:=tk h2;exact sc.dis j j' d d' a h1 h2 ((hσ j hj).trans h3) ((hσ j' hj').trans h4)
  ·intro a ⟨j,d,h1,h2⟩;obtain⟨hj,h1⟩:=tk h1;exact ho a ⟨j,d,h1,(hσ j hj).trans h2⟩
theorem pI{z:Dm.Out}(q:Dm.lW j fi own bd Fz ρ=some z):∃ds ρ1 ρ2 ρ3 r3,j≠0/\fi ρ=some (ds,ρ1)/\ds.length<=Dm.SZ/\Dm.nMk bd ds (ρ1++Qd own .un)=some ρ2 /\
  Fz ((ρ2.take ρ1.length).set j .un) (Qd ds.length [])=some (ρ3,r3)/\z=.nx (ρ3.set j (.ow (.lst (r3.map .lst)))):=by
 unfold Dm.lW at q;split at q
 ·cases q
 rename_i hj0;split at q
 ·cases q
 rename_i ds ρ1 e1;split at q
 case isFalse=>cases q
 rename_i hsz;split at q
 ·cases q
 rename_i ρ2 e2;split at q
 ·cases q
 rename_i ρ3 r3 e3;cases q;exact⟨ds,ρ1,ρ2,ρ3,r3,hj0,e1,hsz,e2,e3,rfl⟩
theorem xh{s u:FS}{o:Dm.Out}(hs:∀z,s ρ=some z->∃ρ',z=.nx ρ')(e:Dm.aA s u ρ=some o):∃ρ1,s ρ=some (.nx ρ1)/\u ρ1=some o:=by
 cases q:s ρ with
 |none=>unfold Dm.aA at e;rw[q]at e;cases e
 |some z=>obtain⟨ρ1,rfl⟩:=hs z q;unfold Dm.aA at e;rw[q]at e;exact⟨ρ1,rfl,e⟩
theorem JO{H:Hp}{D:Ends}{gs:FS}(hb:BD is g bd)(hl:∀i∈is,σ.length<=i)(hj:j<σ.length)(h:tDS (Dm.aA (Dm.lW j fi own bd Fz) gs) D σ H) :
  jo (kD (tLC (tDI fi) own g Er (oF dJ)) (b7 j)) (jo (tDN j Fz) (tDS gs)) D σ H:=by
 obtain⟨H0,ρ,o,st,e,k⟩:=h;obtain⟨ρ9,e9,e⟩:=xh (fun z q=>by obtain⟨_,_,_,_,_,_,_,_,_,_,z⟩:=pI q;exact⟨_,z⟩) e;obtain⟨ds,ρ1,ρ2,ρ3,r3,hj0,e1,hsz,e2,e3,z9⟩:=pI e9;cases z9;refine⟨H0,ρ,ds,ρ1,st,e1,fun J H00 Hb t1 jw L hL=>Bf (Q:=fun x H1=>b7 j x σ H1 (jo (tDN j Fz) (tDS gs) D)) hb hl t1.st jw hsz e2 L hL fun H0' H' ps st' sp' ho' hDl n0 nd hps hro=>?_⟩;have nL:¬ak σ ρ1 L:=t1.st.aR hL;have om:∀a,ak (σ.set j (some (.ref L))) ((ρ2.take ρ1.length).set j .un) a->ak σ (ρ2.take ρ1.length) a:=fun a ⟨i,d,h1,h2⟩=>by
  rcases aE h1 with⟨_,z⟩ | ⟨hij,h1⟩
  ·cases z
  ·rw[Dk (Ne.symm hij)]at h2;exact⟨i,d,h1,h2⟩
 have st2:au H0' H' (σ.set j (some (.ref L))) ((ρ2.take ρ1.length).set j .un):={
  same:=st'.same
  len:=by rw[QC,QC];exact st'.len
  sh:=fun i d h=>by
   rcases aE h with⟨_,z⟩ | ⟨hij,h⟩
   ·cases z
   ·obtain⟨v,q,r⟩:=st'.sh i d h;exact⟨v,by rw[Dk (Ne.symm hij)];exact q,r⟩
  ow:=fun i d h=>by
   rcases aE h with⟨_,z⟩ | ⟨hij,h⟩
   ·cases z
   ·obtain⟨v,q,r⟩:=st'.ow i d h;exact⟨v,by rw[Dk (Ne.symm hij)];exact q,r⟩
  dis:=fun i i' d d' a h1 h2 h3 h4=>by
   rcases aE h1 with⟨_,z⟩ | ⟨q1,h1⟩
   ·cases z
   rcases aE h2 with⟨_,z⟩ | ⟨q2,h2⟩
   ·cases z
   rw[Dk (Ne.symm q1)]at h3;rw[Dk (Ne.symm q2)]at h4;exact st'.dis i i' d d' a h1 h2 h3 h4 }
 have sp:Stp (ak σ ρ) H0 H H0' H':=t1.stp.trans sp' fun a z=>.inl (t1.own a z);have n:NS j σ ρ H0 H (σ.set j (some (.ref L))) ((ρ2.take ρ1.length).set j .un) H0' H' (Qd ds.length []):=
  ⟨st2,sp,fun a z=>.inl (t1.own a (ho' a (om a z))),Dk hj0,L,ps,Qz hj,t1.stp.gone hL,n0,fun z=>nL (ho' L (om L z)),hDl,nd,fun p hp=>⟨t1.stp.gone (hps p hp).1,(hps p hp).2,fun z=>t1.st.aR (hps p hp).1 (ho' p (om p z))⟩,hro⟩
 refine⟨σ,ρ,H0,H,H0',_,_,ρ3,r3,n,e3,fun σ4 H4 Hd n4 _=>?_⟩;obtain⟨H5,t5⟩:=n4.done;exact⟨H5,_,o,t5.st,e,k.pre t5⟩
noncomputable abbrev DN(X:Cx)(j:Nat)(st:Stmt)(f:Dm.FN):Prop:=PS X st (tDN j f)
noncomputable abbrev DNs(X:Cx)(j:Nat)(st:List Stmt)(f:Dm.FN):Prop:=PSs X st (tDN j f)
end
section
variable{X:Cx}{st:Stmt}{Fi:List Stmt}{fs gs:Dm.FN}{e c:Expr}{f:FE}{pos:Pos}{j:Nat}
section
variable{is:List Nat}{bd:Dm.FB}{fi:Dm.FI}
theorem Na:DNs X j [] Dm.nNx:=PSs.weak wD fun _ _ _=>M8
theorem JP(h1:DN X j st fs)(h2:DNs X j Fi gs):DNs X j (st::Fi) (Dm.zc fs gs):=PSs.weak (bP h1 h2) fun _ _ _=>JL
theorem GP(h1:DN X j st fs):DNs X j [st] fs:=fN h1
theorem Pd{t:FT}{x y:List Stmt}(ht:DT X c t)(ha:DNs X j x fs)(hb:DNs X j y gs):DN X j (.If c x y pos) (Dm.nIf t fs gs):=PS.weak (zY ht ha hb) fun _ _ _=>M9
theorem Bg{tg it:Expr}{body:List Stmt}(hp:PassesOwn (model X.prog X.w) X.A X.env X.xe)(hc:X.calm=true)(hi:DI X tg it fi)(hg:TG' X tg is bd)(hb:DNs X j body fs)(hj:decide (j∈is)=false:=by rfl)
  (hs:∀x,foldedSetIterable it X.env x=pure x:=by intro _;rfl):DN X j (.For tg it body [] pos) (Dm.jG fi bd fs):=by
 obtain⟨g,h1,h2⟩:=hg.ex;exact PS.weak (uQ hp hc hi h1 hb hs) fun _ _ _=>JM h2 (of_decide_eq_false hj)
theorem GQ{x:Str}{i:Expr}{fi:FE}{px sp ap cp:Pos}(hi':DE X i fi)(he:DE X e f)(hi:X.N[j]?=some x:=by rfl)(hv:Vis X.env.scope x:=by trivial)(hd:(x == ("__debug__" : Str))=false:=by decide)
  (Nt:(x == ("__classdict__" : Str))=false:=by decide) (Fd:kI i:=by intro _ _;rfl) (Kc:attributeBase (.Subscript (.Name x px) i sp) "append" X.env (eval (.Subscript (.Name x px) i sp) X.env)=eval (.Subscript (.Name x px) i sp) X.env:=by rfl)
  (hfew:((backTo cp (starEach [e] X.env)).all (fun x=>!x.1)&&(backToKw cp (keywordEach [] X.env)).all (fun x=>x.1.isSome)
   && decide ([e].length+([]:List Keyword).length+(if ([]:List Keyword).isEmpty then 0 else 1)<30))=true:=by rfl)
  (G6:(ap.endLine == cp.line)=true:=by rfl) (hs:starEach [e] X.env=(false,eval e X.env)::starEach [] X.env:=by rfl) (G5:(backTo cp (starEach [] X.env)).any (·.1)=false:=by rfl)
  (hsw:swapsWith (.Call (.Attribute (.Subscript (.Name x px) i sp) "append" ap) [e] [] cp) none pos.line X.env=pure false:=by rfl) :
  DN X j (.Expr (.Call (.Attribute (.Subscript (.Name x px) i sp) "append" ap) [e] [] cp) pos) (Dm.vp fi f):=
 PS.weak (fO (oZ Rm Rz RA cV (Ak p_ (bz hi hv hd Nt) hi' Fd) (aa he af hs) Kc hfew G6 hs G5) hsw) fun _ _ _=>JN
theorem JQ(j:Nat)(nm own:List Str){y:Str}{py Nx lY:Pos}{tg iter:Expr}{scope:Scope}{Fz:Dm.FN}{gs:FS}{lst:Stmt}(hN:X.N.Nodup)(hg:TGc X nm scope own tg is bd)(hi:DI X tg iter fi)(hlp:DN X j lst Fz)(hre:DSs X Fi gs)
  (hc:X.calm=true:=by rfl) (hk:scope.kind=.function:=by rfl) (hS:jY X.env.scope X.N nm scope=true:=by rfl) (hl:(is.all fun i=>decide (X.N.length<=i))=true:=by rfl) (hj:X.N[j]?=some y:=by rfl) (hy:Loc X.env.scope y:=by trivial)
  (hsw:swapsWith (.ListComp (.List [] lY) [⟨tg,iter,[],0⟩] scope pos) (some (.Name y py)) Nx.line X.env=pure true:=by rfl) (hs:∀y,foldedSetIterable iter X.env y=pure y:=by intro _;rfl)
  (hf:X.fn y=true\/X.env.scope.names.lookup y=some .local:=by trivial) :
  DSs X (.Assign [.Name y py] (.ListComp (.List [] lY) [⟨tg,iter,[],0⟩] scope pos) Nx::lst::Fi) (Dm.aA (Dm.lW j fi own.length bd Fz) gs):=by
 obtain⟨g,h1,h2⟩:=hg.ex;have h:=bP (dD hN hj hy hc (cD.of hS hk) hi h1 (fun cl C s H fp=>wM) (fun cl C s H fp=>jr (pos:=lY) c_) hsw hs hf) (bP hlp hre);intro qL s σ H D I q;exact h qL s σ H D I (JO h2 (fun i hi=>by rw[I.len];exact rX hl i hi) (by rw[I.len];exact(PU.mp hj).1) q)
end
end
theorem xj{H0:Hp}(i:Int):∀{kvs:List (Key×V)} {ks:List Int} {ds:List Dat},kvs.map (·.1)=ks.map Qw->aC H0 (kvs.map (·.2)) ds ->
  (jU kvs (Qw i)).map (·.1)=(Dm.d9 ks ds i).map Qw/\aC H0 ((jU kvs (Qw i)).map (·.2)) (Dm.d_ ks ds i)
 |[],[],ds,_,r=>by cases r;exact⟨rfl,.nil⟩
 |[],_::_,_,e,_=>by cases e
 |_::_,[],_,e,_=>by cases e
 |(k,v)::kvs,k'::ks,ds,e,r=>by
  rw[Qa,Qa]at e;injection e with e1 e2
  cases r with
  |cons h t=>
   obtain⟨i1,i2⟩:=xj i e2 t;unfold jU at i1 i2 ⊢;dsimp only at e1;subst e1;by_cases q:k'=i
   ·subst q;rw[Q5 (by simp),Dm.d9,if_pos rfl,Dm.d_,if_pos rfl];exact⟨i1,i2⟩
   ·have q':¬(Qw k':Key)=Qw i:=qt q;rw[Q6 (by simpa using q'),Dm.d9,if_neg q,Dm.d_,if_neg q];exact⟨by rw[Qa,Qa,i1],by rw[Qa];exact .cons h i2⟩
section
variable{σ:L2.St}{H:Hp}{Q:VK}
theorem JR{i:Nat}{f:FE}(h:tD (Dm.lX i f) σ H Q):Av (b5 i) (tD f) σ H Q:=by
 obtain⟨H0,ρ,x,ρ',st,e,k⟩:=h;unfold Dm.lX at e;split at e
 case h_2=>cases e
 rename_i ks0 vs0 h0;split at e
 case h_2=>cases e
 rename_i m ρ1 e1;split at e
 case h_2=>cases e
 rename_i ks vs h1;split at e
 case h_2=>cases e
 rename_i d hl;cases e;obtain⟨a0,q0,n0,JG,y0,_⟩:=st.ow i _ h0;refine⟨_,q0,a0,rfl,.inl ⟨JG,.inl y0⟩,H0,ρ,_,ρ1,st,e1,fun u H1 Hb t1 r1=>?_⟩;have hu:=Rep.isInt r1;subst hu;obtain⟨a,q,n,w⟩:=t1.st.ow i _ h1;rw[q0]at q;cases q;obtain⟨kvs,y,ek,rs⟩:=w;rcases fQ m ek rs with⟨d',v,l1,l2,r⟩ | ⟨l1,_⟩
 ·rw[hl]at l1;cases l1;obtain⟨p1,p2⟩:=xj m ek rs;have ow:ak σ ρ1 a0:=⟨i,_,h1,q0⟩
  have hil:i<ρ1.length:=(PU.mp h1).1;refine⟨kvs,Qw m,v,y,rfl,l2,k v H1 _ ⟨t1.st.write h1 q0 ⟨_,ao,p1,p2⟩,t1.stp.trans (Stp.write ow) fun b z=>.inl (t1.own b z),fun b z=>t1.own b (cM h1 z),fun j z=>trivial⟩ r⟩
 ·rw[hl]at l1;cases l1
end
section
variable{vs:List Dat}{ρ ρ':Dm.Env}{ks:List Int}{d:Dat}{x:Dm.Val}{H H':Hp}{i:Nat}{X:Cx}
theorem vt:cZ X (.type "dict") (fun xs H Q=>∃a kvs,xs=[.ref a]/\H a=some (.dK kvs)/\∀p,H p=none->Q (.ref p) (upd H p (.dK kvs))):=by intro qL s σ H xs us Q I r h;obtain⟨a,kvs,rfl,ha,k⟩:=h;obtain⟨u,rfl,rx⟩:=vals1 r;cases rx;exact Ay I (.inl ha) fun p s' hp I'=>⟨.ref p,_,I',rfl,k p hp⟩
theorem EX:CallD (fun xs H Q=>∃a kvs,xs=[.ref a]/\H a=some (.dK kvs)/\∀p,H p=none->Q (.ref p) (upd H p (.dK kvs))) Dm.r_:=by
 intro H0 H vs ds z Q s rs e k;unfold Dm.r_ at e;split at e
 ·cases e;cases rs with
  |cons r rr=>cases rr;obtain⟨a,kvs,rfl,ha,ek,rs⟩:=di s r;refine⟨a,kvs,rfl,ha,fun p hp=>k _ _ _ (aK.lB s hp) ⟨p,rfl,hp,s.free hp,kvs,ao,ek,rs⟩⟩
 ·cases e
theorem lZ:∀(its:List Value) (ns:List Int),its.length=ns.length->(∀(i:Nat) (v:Value),its[i]?=some v->∃n,ns[i]?=some n/\∃t,v=Value.int n t)->IntsAre its ns
 |[],[],_,_=>.nil
 |[],_::_,h,_=>by cases h
 |_::_,[],h,_=>by cases h
 |v::its,n::ns,h,k=>by
  obtain⟨m,h1,t,h2⟩:=k 0 v rfl;simp at h1;subst h1;subst h2;exact .cons n t (lZ its ns (by simpa using h) fun i v e=>by obtain⟨m,q1,q2⟩:=k (i+1) v (by simpa using e);exact⟨m,by simpa using q1,q2⟩)
theorem xm:∀{kvs:List (Key×V)} {vs:List (Key×Value)},KV kvs vs->vs.map (·.1)=kvs.map (·.1)
 |_,_,.nil=>rfl
 |_,_,.cons h t=>by rw[Qa,Qa,xm t,h.1]
theorem dO:∀{its:List Value} {ns:List Int},IntsAre its ns->Vals (ns.map V.int) its
 |_,_,.nil=>.nil
 |_,_,.cons n t h=>.cons ⟨t,rfl⟩ (dO h)
def Bh:List V->Hp->VK->Prop:=fun xs H Q=>∃(p:Addr) (kvs:List (Key×V)) (ns:List Int),xs=[.ref p]/\H p=some (.dK kvs)/\kvs.map (·.1)=ns.map Qw/\ns.length<=63 /\
 ∀(ms:List Int) (l:Addr),ms.Perm ns->ms.Pairwise (·<=·)->H l=none->Q (.ref l) (upd H l (.lst (ms.map V.int)))
theorem vz(hc:X.calm=true):cZ X (.builtin "sorted") Bh:=by
 intro qL s σ H xs us Q I r h;obtain⟨p,kvs,ns,rfl,hq,ek,hl,k⟩:=h;obtain⟨u,rfl,rx⟩:=vals1 r;cases rx;obtain⟨z,hd,vs,rel,dd⟩:=k_ I.hok hq;obtain⟨ep,hat⟩:=dd.dictAt;have zo:vs.length=ns.length:=by
  rw[<- rel.length];have:=congrArg List.length ek
  simpa using this
 have hns:vs.length<=sizeLine:=by rw[<- rel.length];exact z
 refine Calls.call_function_entry kind_sorted plain_sorted entry_sorted (args_sorted1 _) ?_;unfold Builtin.«sorted»;refine wpAny_bind (m:=checkCount "sorted" 1 1 _) (wpAny_pure ?_);refine wpAny_bind (PySem.W.kdu_collect (A:=X.A.in1) (PySem.W.kdl_dict (knd:=aM X.prog X.w) (kvs:=vs) (ep:=ep) hd) (I.ok.hd hc) hat hns fun h' tk En hk hacc=>?_);have hsz:En.toList.length=ns.length:=by rw[R6,hacc.1,zo]
 have hI:IntsAre En.toList ns:=lZ _ _ hsz fun i v e=>by
  obtain⟨ky,x,h1,h2⟩:=hacc.2 i v (by rw[<- Sn];exact e);have hk1:(vs.map (·.1))[i]?=some ky:=by rw[Qm,h1];rfl
  rw[xm rel,ek,Qm]at hk1;cases q:ns[i]? with
  |none=>rw[q]at hk1;cases hk1
  |some n=>rw[q]at hk1;cases hk1;exact⟨n,rfl,(Value.isInt_shape (k:=n) (v:=v) h2)⟩
 have hn:En.toList.length<=63:=by rw[hsz];exact hl
 refine wpAny_bind (wpAny_newList ?_ (QO hn (by decide)));have hL0:(h'.push (seqObj "list" En.toList.toArray 0)).get? h'.objs.size=some (seqObj "list" En.toList.toArray 0):=QA _ rfl;have I1:=I.kept (t':=tk) hk;refine wpAny_bind (wpAny_holding (wpAny_call_entry (s:={ s with heap:=h'.push (seqObj "list" En.toList.toArray 0),toks:=tk }) slot_list_sort ⟨_,hL0,rfl⟩ entry_list_sort (list_sort_tree hL0 hI (by lia) fun out ms a1 a2 a3=>⟨_,rfl,?_⟩) (args_list_sort _)));obtain⟨c,hc'⟩:=sortedHeap_at (out:=out) hL0;have hz2:(ms.map V.int).length<=sizeLine:=by rw[Dp,a2.length_eq];exact QO hl (by decide)
 refine wpAny_pure ⟨_,rfl,.ref h'.objs.size,_,I1.laid (t':=tk) (fun b o e=>?_) (Qf _) (show aT X.prog X.w _ _ _ (.lst (ms.map V.int)) from ⟨hz2,out.toList,c,dO a1,by simpa using hc'⟩),rfl,k ms _ a2 a3 (I1.hok.fresh (Qf _))⟩;have lt:=Qh e;rw[sortedHeap_old (QF lt) (by rw[size_push'];exact SR lt)];exact Qc _ e
theorem Bj:CallD Bh Dm.jH:=by
 intro H0 H vs ds z Q s rs e k;unfold Dm.jH at e;split at e
 ·rename_i ks vs';split at e
  case isFalse=>cases e
  rename_i hl;cases e;cases rs with
  |cons r rr=>
   cases rr;obtain⟨a,kvs,rfl,ha,ek,rs⟩:=di s r;refine⟨a,kvs,ks,rfl,ha,ek,hl,fun ms l pm so hp=>?_⟩;have em:ms=Dm.eN (fun a b=>decide (a<b)) ks:=Dm.j5 (lt:=fun a b=>decide (a<b)) (fun a b h1 h2=>by simp at h1 h2;lia) (pm.trans (Dm.d7 _ ks).symm) (so.imp fun {a b} h=>by simp;lia)
    (Dm.d8 (fun a b c h1 h2=>by simp at *;lia) (fun a b h=>by simp at *;lia) ks)
   exact k _ _ _ (aK.lB s hp) ⟨l,rfl,hp,s.free hp,_,ao,by rw[<- em];exact pF ms⟩
 ·cases e
theorem JS(e:Dm.tkd ρ x=some (d,ρ')):Dm.tk ρ x=some (d,ρ')\/∃i ks vs,x=.slot i/\ρ[i]?=some (.ow (.dct ks vs))/\d=.dct ks vs/\ρ'=ρ:=by
 cases x with
 |val d'=>exact .inl e
 |new d'=>exact .inl e
 |slot i=>
  unfold Dm.tkd at e;dsimp only at e;split at e
  ·rename_i ks vs h;cases e;exact .inr ⟨i,ks,vs,rfl,h,rfl,rfl⟩
  ·rename_i d' _ h;left;unfold Dm.tk;dsimp only;rw[h];exact e
  ·rename_i d' h;left;unfold Dm.tk;dsimp only;rw[h];exact e
  ·cases e
theorem Bk(e:Dm.tkd ρ x=some (d,ρ'))(h:ρ[i]?=some (.ow (.dct ks vs))):ρ'[i]?=some (.ow (.dct ks vs)):=by
 cases x with
 |val d'=>cases e;exact h
 |new d'=>cases e;exact h
 |slot j=>
  unfold Dm.tkd at e;dsimp only at e;split at e
  ·cases e;exact h
  ·rename_i d' hn hj;cases e;by_cases q:j=i
   ·subst q;rw[h]at hj;cases hj;exact absurd rfl (hn ks vs)
   ·rw[Dk q];exact h
  ·cases e;exact h
  ·cases e
theorem pJ:∀{xs:List Dm.Val} {ρ ρ':Dm.Env} {ds:List Dat},Dm.vq ρ xs=some (ds,ρ')->ρ[i]?=some (.ow (.dct ks vs))->ρ'[i]?=some (.ow (.dct ks vs))
 |[],_,_,_,e,h=>by cases e;exact h
 |x::xs,ρ,ρ',ds,e,h=>by
  unfold Dm.vq at e;split at e
  ·cases e
  rename_i d ρ1 e1;split at e
  ·cases e
  rename_i ds' ρ2 e2;cases e;exact pJ e2 (Bk e1 h)
def Pe(H0:Hp)(σ:L2.St)(ρ:Dm.Env)(v:V)(d:Dat):Prop:=Rep H0 v d\/∃(i:Nat) (b:Addr) (ks:List Int) (vs:List Dat),d=.dct ks vs/\v=.ref b/\ρ[i]?=some (.ow (.dct ks vs))/\σ[i]?=some (some (.ref b))
inductive se(H0:Hp)(σ:L2.St)(ρ:Dm.Env):List V->List Dat->Prop
 |nil:se H0 σ ρ [] []
 |cons {v:V} {d:Dat} {vs:List V} {ds:List Dat}:Pe H0 σ ρ v d->se H0 σ ρ vs ds->se H0 σ ρ (v::vs) (d::ds)
theorem vA{Hs H0s H0 H:Hp}{σ:L2.St}{ρs:Dm.Env}:∀{xs:List Dm.Val} {vs:List V} {ρ ρ':Dm.Env} {ds:List Dat} {H0c:Hp},ESt σ ρs H0s Hs ρ H0c H->aq H0 H0c->bu Hs H0 H σ ρ vs xs->Dm.vq ρ xs=some (ds,ρ') ->
  ∃lC,ESt σ ρs H0s Hs ρ' lC H/\aq H0c lC/\se lC σ ρ' vs ds
 |[],_,ρ,ρ',ds,H0c,t,b,r,e=>by cases r;cases e;exact⟨H0c,t,aq.refl _,.nil⟩
 |x::xs,_,ρ,ρ',ds,H0c,t,b,r,e=>by
  cases r with
  |cons h r=>
   unfold Dm.vq at e;split at e
   ·cases e
   ·rename_i d ρ1 e1;split at e
    ·cases e
    ·rename_i ds' ρ2 e2;cases e;rcases JS e1 with e1' | ⟨i,ks,vs,rfl,hi,rfl,rfl⟩
     ·obtain⟨H1,t1,b1,r1,o1,d1⟩:=take1 t b h e1';obtain⟨H2,t2,b2,r2⟩:=vA t1 (b.trans b1) (r.rho o1 d1) e2;exact⟨H2,t2,b1.trans b2,.cons (.inl (r1.mono b2)) r2⟩
     ·obtain⟨H2,t2,b2,r2⟩:=vA t b r e2;obtain⟨q,_⟩:=h;obtain⟨a,z,_⟩:=t.st.ow i _ hi;rw[q]at z;cases z;exact⟨H2,t2,b2,.cons (.inr ⟨i,a,ks,vs,rfl,rfl,pJ e2 hi,q⟩) r2⟩
mutual
theorem Rep.noD(hk:∀a o,H a=some o->H' a=some o\/∃kvs,o=.dK kvs):∀{v:V} {d:Dat},Rep H v d->Dm.bw d=true->Rep H' v d
 |_,_,.non,_=>.non
 |_,_,.bl b,_=>.bl b
 |_,_,.int i,_=>.int i
 |_,_,.str x,_=>.str x
 | _,_,.tup h r,n=>.tup (by
   rcases hk _ _ h with z | ⟨_,z⟩
   ·exact z
   ·cases z) (aC.noD hk r (by unfold Dm.bw at n;exact n))
 | _,_,.lst h r,n=>.lst (by
   rcases h with h | ⟨o,h⟩
   ·rcases hk _ _ h with z | ⟨_,z⟩
    ·exact .inl z
    ·cases z
   ·rcases hk _ _ h with z | ⟨_,z⟩
    ·exact .inr ⟨o,z⟩
    ·cases z) (aC.noD hk r (by unfold Dm.bw at n;exact n))
 |_,_,.dct _ _ _,n=>by unfold Dm.bw at n;cases n
 |_,_,.dcp _ _ _,n=>by unfold Dm.bw at n;cases n
 |_,_,.exc _,n=>by unfold Dm.bw at n;cases n
 |_,_,.fn a,_=>.fn a
theorem aC.noD(hk:∀a o,H a=some o->H' a=some o\/∃kvs,o=.dK kvs):∀{vs:List V} {ds:List Dat},aC H vs ds->Dm.fD ds=true->aC H' vs ds
 |_,_,.nil,_=>.nil
 |_,_,.cons h r,n=>by unfold Dm.fD at n;rw[QJ]at n;exact .cons (Rep.noD hk h n.1) (aC.noD hk r n.2)
end
end
open Classical in
theorem Bl{σ:L2.St}{H:Hp}{Q:VK}{f:List Dat->Option RV}{fs:List FE}{E:XK}(h:tD (Dm.eFd f fs) σ H Q):oU (spD f) [] E (tDA fs) σ H Q:=by
 obtain⟨H0,ρ,x,ρ',st,e,k⟩:=h;unfold Dm.eFd at e;split at e
 ·cases e
 rename_i xs ρ1 e1;split at e
 ·cases e
 rename_i ds ρ2 e2;split at e
 ·cases e
 rename_i z fz;split at e
 case isFalse=>cases e
 rename_i hno;injection e with e
 injection e with ea eb
 subst ea;subst eb;refine⟨H0,ρ,xs,ρ1,st,e1,fun vs H1 Hb t1 r1=>?_⟩;dsimp only;rw[Rc];obtain⟨H2,t2,b2,r2⟩:=vA t1 (aq.refl _) r1 e2
 let B:Addr->Prop:=fun b=>∃(i:Nat) (ks:List Int) (vs:List Dat),ρ2[i]?=some (.ow (.dct ks vs))/\σ[i]?=some (some (.ref b))
 have hB:∀b,B b->H2 b=none/\∃kvs,Hb b=some (.dK kvs):=fun b ⟨i,ks,vs,h1,h2⟩=>by obtain⟨a,q,n,kvs,w,_⟩:=t2.st.ow i _ h1;rw[h2]at q;cases q;exact⟨n,kvs,w⟩
 let H2':Hp:=fun b=>if B b then Hb b else H2 b
 have in':∀b,B b->H2' b=Hb b:=fun b h=>if_pos h;have out':∀b,¬B b->H2' b=H2 b:=fun b h=>if_neg h;have s2:aq H2 H2':=fun b o e=>by
  by_cases q:B b
  ·rw[(hB b q).1]at e;cases e
  ·rw[out' b q];exact e
 have s2b:aq H2' Hb:=fun b o e=>by
  by_cases q:B b
  ·rw[in' b q]at e;exact e
  ·rw[out' b q]at e;exact t2.st.same _ _ e
 have rr:∀{vs:List V} {ds:List Dat},se H2 σ ρ2 vs ds->aC H2' vs ds:=fun {vs ds} r=>by
  induction r with
  |nil=>exact .nil
  |cons h _ ih=>
   refine .cons ?_ ih;rcases h with h | ⟨i,b,ks,vs',rfl,rfl,h1,h2⟩
   ·exact h.mono s2
   ·obtain⟨a,q,n,kvs,w,ek,rs⟩:=t2.st.ow i _ h1;rw[h2]at q;cases q;exact .dct (by rw[in' _ ⟨i,ks,vs',h1,h2⟩];exact w) ek (rs.mono s2)
 refine⟨H2',ds,z,s2b,rr r2,fz,fun w H3 Hd g3 r3=>?_⟩
 let H3':Hp:=fun b=>if B b then none else H3 b
 have in3:∀b,B b->H3' b=none:=fun b h=>if_pos h;have Bm:∀b,¬B b->H3' b=H3 b:=fun b h=>if_neg h;have gr:aK H2 Hb H3' Hd:=⟨fun b o e=>by
   by_cases q:B b
   ·rw[(hB b q).1]at e;cases e
   ·rw[Bm b q];exact g3.s0 _ _ (s2 _ _ e),g3.s1,fun b o e=>by
   by_cases q:B b
   ·rw[in3 b q]at e;cases e
   ·rw[Bm b q]at e;rcases g3.s2 b o e with y | y
    ·exact .inl y
    ·rw[out' b q]at y;exact .inr y,fun b o e=>by
   by_cases q:B b
   ·rw[in3 b q]at e;cases e
   ·rw[Bm b q]at e;exact g3.s3 _ _ e⟩
 have hk:∀a o,H3 a=some o->H3' a=some o\/∃kvs,o=.dK kvs:=fun a o e=>by
  by_cases q:B a
  ·obtain⟨_,kvs,y⟩:=hB a q;have:=g3.s0 a _ ((in' a q).trans y);rw[e]at this;exact .inr ⟨kvs,Option.some.inj this⟩
  ·exact .inl (by rw[Bm a q];exact e)
 have r3':rQ Hb H3' Hd w z:=by
  cases z with
  |val d=>exact Rep.noD hk r3 hno
  |new d=>
   obtain⟨a,ea,n,n0,w'⟩:=r3;refine⟨a,ea,n,?_,?_⟩
   ·by_cases q:B a
    ·exact in3 a q
    ·rw[Bm a q];exact n0
   ·cases d with
    |lst ds'=>obtain⟨ys,y1,y2⟩:=w';exact⟨ys,y1,aC.noD hk y2 (by have:Dm.bw (.lst ds')=true:=hno;unfold Dm.bw at this;exact this)⟩
    |dct ks ds'=>have:Dm.bw (.dct ks ds')=true:=hno;unfold Dm.bw at this;cases this
    |dcp ks ds'=>have:Dm.bw (.dcp ks ds')=true:=hno;unfold Dm.bw at this;cases this
    |_=>exact w'.elim
 exact k w H3' Hd (t2.trans (.grow t2.st gr)) ((r3'.toV t2.st).early fun a n=>t2.stp.gone n)
section
variable{X:Cx}{e b:Expr}{es:List Expr}{fs:List FE}{fb:FE}{p pos:Pos}
theorem l0{k:Nat}{F:Addr}{fd:FuncData}{ps:List Str}{g:List Dat->Option RV}{x:Str}(G:aQ X.prog X.w X.K X.mg X.base CX0 k F fd ps (spD g))(hr:bf k X.A)(hg:Gl X x)(hm:X.mg x=some (.ref F))(hk:QY X.K (.ref F)=true)(hb:Binds X.K fd ps [])
  (ha:DA X (e::es) fs) (Ny:(x == ("__debug__" : Str))=false:=by decide) (he:starEach (e::es) X.env=(false,eval e X.env)::starEach es X.env:=by rfl) (Fd:(backTo pos (starEach es X.env)).any (·.1)=false:=by rfl) :
  DE X (.Call (.Name x p) (e::es) [] pos) (Dm.eFd g fs):=PE.weak (iQ G hr hg hm hk hb .nil (o7 (X:=X)) ha Ny he Fd) fun _ _ _=>Bl
theorem JT(hg:Gl X "dict")(hm:X.mg "dict" = none)(ha:DA X [e] fs)(he:starEach [e] X.env=[(false,eval e X.env)]:=by rfl)(Fd:(backTo pos (starEach [] X.env)).any (·.1)=false:=by rfl):DE X (.Call (.Name "dict" p) [e] [] pos) (Dm.eB Dm.r_ fs):=EC vt EX (by rfl) hg hm ha (he:=he) (Fd:=Fd)
theorem EY(hc:X.calm=true)(hg:Gl X "sorted")(hm:X.mg "sorted" = none)(ha:DA X [e] fs)(he:starEach [e] X.env=[(false,eval e X.env)]:=by rfl)(Fd:(backTo pos (starEach [] X.env)).any (·.1)=false:=by rfl):DE X (.Call (.Name "sorted" p) [e] [] pos) (Dm.eB Dm.jH fs):=yW (vz hc) Bj (by rfl) hg hm ha (he:=he) (Fd:=Fd)
theorem Bo(i:Nat){x:Str}{px Ke cpos:Pos}(hb:DE X b fb)(hi:X.N[i]?=some x:=by rfl)(hv:Vis X.env.scope x:=by trivial)(hd:(x == ("__debug__" : Str))=false:=by decide)
  (Nt:(x == ("__classdict__" : Str))=false:=by decide) (m:M1 X (.Name x px) "pop" Ke b cpos:=by exact⟨rfl,rfl,rfl,rfl⟩):DE X (.Call (.Attribute (.Name x px) "pop" Ke) [b] [] cpos) (Dm.lX i fb):=PE.weak (Ax (bz hi hv hd Nt) hb m) fun _ _ _=>JR
end
section
variable{X:Cx}{a b c e:Expr}{fa fb fc:FE}{p pos:Pos}
theorem bits_le{i:Int}(h:i.natAbs.log2<1000000):Sx i<=2 ^ 20:=by
 have:Sx i<=i.natAbs.log2+1:=by
  unfold Sx
  first | lia | (split<;>lia) | simp
 lia
def GR(i j:Int):Prop:=i.natAbs.log2<1000000/\j.natAbs.log2<1000000
theorem EZ:OpR X (binaryOp .Mult) (rI GR fun i j=>.int (i*j)):=opI fun _ _ _ _ _ _ _ hc q=>mul_int q (.of_bits (bits_le hc.1) (bits_le hc.2))
theorem E1:OpD (rI GR fun i j=>.int (i*j)) Dm.i9:=by
 intro H0 H x y dx dy z Q s rx ry e k;unfold Dm.i9 at e;split at e
 ·split at e
  case isFalse=>cases e
  rename_i hb;cases e;cases az rx;cases az ry;exact⟨_,_,rfl,rfl,hb,k _ H0 H (aK.refl s) (.int _)⟩
 ·cases e
theorem qv(ha:DE X a fa)(hb:DE X b fb):DE X (.BinOp a .Mult b pos) (Dm.e2 Dm.i9 fa fb):=rT EZ E1 ha hb
end
noncomputable def Its(lo k:Int)(n:Nat):It:=⟨fun i _=>i<n,fun i H x H'=>H'=H/\x=.int (lo+(i:Nat)*k),fun i _=>n<=i⟩
theorem vC{P:Program}{w:World}{K:Ds}{tg:Expr}(it:Addr)(lo k:Int)(n:Nat):Turn P w K tg (Its lo k n) [it] it (fun i h=>IsRangeIter h it (lo+(i:Nat)*k) ((n:Int)-(i:Nat)) k) where
 mem:=by simp
 obj:=fun i h st b hb=>by
  have e:b=it:=by simpa using hb
  subst e;exact ⟨_,st,fun v z=>by have z':S5 _=SD v:=z;cases z'⟩
 keep:=fun i h h' st k=>k it (by simp) _ st
 item:=by intro X hP hw hK hc i qL s σ H E I hf st hg;subst hP hw hK;obtain⟨f0,f1,f2,f3,f4,f5⟩:=hf it (by simp);have W:=Walks.range (prog:=X.prog) (w:=X.w) (I.ok.hd hc) it lo k n;refine W.item i s _ _ hg st fun v h' tk hv st' kk=>?_;obtain⟨t,rfl⟩:=hv;have I1:Inv X qL σ H { s with heap:=h',toks:=tk }:=I.turned (fun b o hb e=>kk b o (by simpa using hb) e) f0 f1 f3 f4 f5;exact⟨_,rfl,kY (s:={ s with heap:=h',toks:=tk }) (n := "range_iterator") st' rfl rfl (by decide) ⟨.int (lo+(i:Nat)*k),H,I1,⟨t,rfl⟩,⟨rfl,rfl⟩,st',fun b hb=>(hf b hb).1⟩⟩
 done:=by intro X hP hw hK hc i qL s σ H E I hf st hg;subst hP hw hK;obtain⟨f0,f1,f2,f3,f4,f5⟩:=hf it (by simp);exact wpAny_pyNext_range_end (I.ok.hd hc) st (by have:n<=i:=hg;lia) fun h' eb=>⟨rfl,I.turned (t':=s.toks) (fun b o hb e=>eb b o hb e) f0 f1 f3 f4 f5⟩
 self:=fun _ _ _ _ _ st h=>wpAny_pyIter_rangeiter st h
theorem xo{a k:Int}(hk:0<k)(h:0<=a):0<=a / k/\a / k<=a:=⟨Int.ediv_nonneg h (by lia),by
 have:=Int.ediv_mul_le a (b:=k) (by lia);have h2:0<=a / k:=Int.ediv_nonneg h (by lia);have:(a / k)*1<=(a / k)*k:=Int.mul_le_mul_of_nonneg_left (by lia) h2
 lia⟩
theorem i_(a b k:Int)(hk:0<k):RC a b k=(Dm.cF a b k:Nat):=by
 unfold RC Dm.cF;simp only[hk,show (k>0)=True from eq_true hk,if_true];by_cases h:a<b
 ·have:=xo hk (show 0<=b-a-1 by lia);simp only[h,show (a<b)=True from eq_true h,if_true]
  first | lia | (split<;>lia)
 ·simp only[show (a<b)=False from eq_false h,if_false]
  first | lia | (split<;>lia) | simp
theorem Bp{a b k:Int}(hk:0<k)(hk':k<=1000)(ha:-(2 ^ 60)<=a)(ha':a<2 ^ 60)(hb:-(2 ^ 60)<=b)(hb':b<2 ^ 60):Builtin.Range.small a b k=true:=by
 unfold Builtin.Range.small;rw[i_ a b k hk];have hs:(Dm.cF a b k:Int)<=2 ^ 61:=by
  unfold Dm.cF;split
  ·have:=xo hk (show 0<=b-a-1 by lia)
   lia
  ·lia
 simp only[Builtin.Range.rangeFitsLong,QJ,S4,decide_eq_true_eq,beq_iff_eq,show (k>0)=True from eq_true hk,if_true]
 first | lia | (refine⟨?_,?_⟩<;>lia) | (split<;>lia)
section
variable{X:Cx}{tg:Expr}
def GS(ta:TA):TI:=fun σ H R=>ta σ H fun vs H1=>∃i j k:Int,vs=[.int i,.int j,.int k]/\(0<k/\k<=1000)/\(-(2 ^ 60)<=i/\i<2 ^ 60/\-(2 ^ 60)<=j/\j<2 ^ 60)/\R (Its i k (Dm.cF i j k)) H1
theorem zd{a b c:Expr}{ta:TA}{p pos:Pos}(hg:Gl X "range")(hm:X.mg "range" = none)(ha:PA X [a,b,c] ta)(hs:starEach [a,b,c] X.env=(false,eval a X.env)::starEach [b,c] X.env:=by rfl)(hs2:(backTo pos (starEach [b,c] X.env)).any (·.1)=false:=by rfl) :
  PI X tg (.Call (.Name "range" p) [a,b,c] [] pos) (GS ta):=by
 intro qL s σ H R I h;refine Call_ (cB I hg hm boot_range (QU (thn (ha pos qL s σ H _ I h) fun us s1 ⟨vs,H1,I1,r1,q1⟩=>?_) hs hs2));obtain⟨i,j,k,e,⟨hk,hk'⟩,⟨q1,q2,q3,q4⟩,q⟩:=q1;subst e;cases r1 with
 |cons r rr=>
  cases rr with
  |cons r' rr=>
   cases rr with
   |cons r'' rr=>
   cases rr;obtain⟨t,rfl⟩:=r;obtain⟨t',rfl⟩:=r';obtain⟨t'',rfl⟩:=r'';refine call_range_3 (by simp;lia) ?_ (Or.inl (PyProof.noPylong_small (by lia)));refine wpAny_pyIter_range (IsRange.new ..) (Bp hk hk' q1 q2 q3 q4) ?_;have I2:Inv X qL σ H1 { s1 with heap:=s1.heap.push { cls:=.type "range",data:=.fields #[.int i t,.int j t',.int k t''] },toks:=s1.toks }:=I1.kept fun b o e=>Qc _ e;refine ⟨(s1.heap.push { cls:=.type "range",data:=.fields #[.int i t,.int j t',.int k t''] }).objs.size,[(s1.heap.push { cls:=.type "range",data:=.fields #[.int i t,.int j t',.int k t''] }).objs.size],_,_,H1,rfl,
    I2.kept (t':=s1.toks) fun b o e=>Qc _ e,vC _ i k (Dm.cF i j k),?_,fun b hb=>?_,q⟩
   ·have e1:i+((0:Nat):Int)*k=i:=by simp
    have e2:((Dm.cF i j k:Nat):Int)-((0:Nat):Int)=RC i j k:=by rw[i_ i j k hk];lia
    show IsRangeIter _ _ (i+((0:Nat):Int)*k) (((Dm.cF i j k:Nat):Int)-((0:Nat):Int)) k;rw[e1,e2];exact QA _ rfl
   ·have e:b=(s1.heap.push { cls:=.type "range",data:=.fields #[.int i t,.int j t',.int k t''] }).objs.size:=by simpa using hb
    subst e;exact I2.p7 (Qf _) (I2.hok.fresh (Qf _))
theorem Bq{H0:Hp}{lo k:Int}{n:Nat}:JW (Its lo k n) H0 (Dm.gw lo k n):=by
 intro H0' H s0 s1;have el:(Dm.gw lo k n).length=n:=by simp[Dm.gw]
 refine⟨fun i hi=>by rw[el]at hi;exact hi,fun i d e=>?_⟩;have Kd:i<n:=by have:=(PU.mp e).1;rw[el]at this;exact this
 have hd:d=.int (lo+(i:Nat)*k):=by unfold Dm.gw at e;rw[Qm,Rq Kd]at e;exact(Option.some.inj e).symm
 refine⟨Kd,fun x H' y=>?_⟩;obtain⟨rfl,rfl⟩:=y;subst hd;exact⟨H0',aK.refl s1,.int _⟩
theorem Nb{σ:L2.St}{H:Hp}{R:It->Hp->Prop}{f g c:FE}(h:tDI (Dm.iRs f g c) σ H R):GS (tDA [f,g,c]) σ H R:=by
 obtain⟨H0,ρ,ys,ρ',st,e,k⟩:=h;unfold Dm.iRs at e;split at e
 ·rename_i i ρ1 e1;split at e
  ·rename_i j ρ2 e2;split at e
   ·rename_i l ρ3 e3;split at e
    ·rename_i hb;cases e;refine⟨H0,ρ,[.val (.int i),.val (.int j),.val (.int l)],_,st,by simp only[Dm.eAs,e1,e2,e3];rfl,fun vs H0' H' t r=>?_⟩;cases r with
     |cons r rr=>
      cases rr with
      |cons r' rr=>
       cases rr with
       |cons r'' rr=>cases rr;cases Rep.isInt r;cases Rep.isInt r';cases Rep.isInt r'';obtain⟨h0,h1,h2,h3,h4⟩:=hb;unfold Dm.BIG at h1 h2 h3 h4;exact⟨i,j,l,rfl,h0,⟨by lia,by lia,by lia,by lia⟩,k _ H0' H' t Bq⟩
    ·cases e
   ·cases e
  ·cases e
 ·cases e
theorem Pf{a b c:Expr}{fa fb fc:FE}{p pos:Pos}(hg:Gl X "range")(hm:X.mg "range" = none)(ha:DA X [a,b,c] [fa,fb,fc])(hs:starEach [a,b,c] X.env=(false,eval a X.env)::starEach [b,c] X.env:=by rfl)(hs2:(backTo pos (starEach [b,c] X.env)).any (·.1)=false:=by rfl) :
  DI X tg (.Call (.Name "range" p) [a,b,c] [] pos) (Dm.iRs fa fb fc):=PI.weak (zd hg hm ha hs hs2) fun _ _ _=>Nb
end
theorem pK{Hs H0 H:Hp}{σ:L2.St}{ρ:Dm.Env}:∀{xs:List Dm.Val} {vs:List V} {ds:List Dat},bu Hs H0 H σ ρ vs xs->Dm.jI xs=some ds->aC H0 vs ds
 |[],_,_,.nil,e=>by cases e;exact .nil
 |.val d::xs,_,ds,.cons h r,e=>by
  unfold Dm.jI at e;cases q:Dm.jI xs with
  |none=>rw[q]at e;cases e
  |some es=>rw[q]at e;cases e;exact .cons h (pK r q)
 |.new _::_,_,_,_,e=>by cases e
 |.slot _::_,_,_,_,e=>by cases e
theorem E2{σ:L2.St}{H:Hp}{Q:VK}{f:List Dat->Option (RV×Dat)}{f0:FE}{fs:List FE}{E:XK}(h:tD (Dm.eFn f f0 fs) σ H Q):oU (spM f) [] E (tDA (f0::fs)) σ H Q:=by
 obtain⟨H0,ρ,x,ρ',st,e,k⟩:=h;unfold Dm.eFn at e;split at e
 case h_2=>cases e
 rename_i d xs ρ1 e1;split at e
 ·cases e
 rename_i ds e2;split at e
 ·cases e
 rename_i z d' fz;cases e;refine⟨H0,ρ,_,_,st,e1,fun vs H1 Hb t1 r1=>?_⟩;dsimp only;rw[Rc];cases r1 with
 |cons r0 rr=>
  obtain⟨a,rfl,n,no,n0,w⟩:=r0;obtain⟨oa,ha⟩:=w.some;refine⟨H1,a,_,d,ds,z,d',rfl,t1.st.same,n0,w,pK rr e2,fz,fun v H3 Hd s3 ss n3 w3 r3=>?_⟩;have st3:au H3 Hd σ ρ':=t1.st.off s3.s0 ss no (fun b o y nb=>s3.s1 b o y nb) fun i d4 b y1 y2=>by
   obtain⟨b',q',nb',w'⟩:=t1.st.ow i d4 y1;rw[y2]at q';cases q';cases y:H3 b with
   |none=>rfl
   |some o=>
    obtain⟨o',z'⟩:=w'.some;rcases s3.s2 b o y with y3 | y3 | y3
    ·rw[y3]at z';cases z'
    ·rw[nb']at y3;cases y3
    ·exact absurd ⟨i,d4,y1,y3▸y2⟩ no
  exact k v H3 Hd ⟨st3,t1.stp.trans s3 fun b y=>.inr (by rw[y];exact n),t1.own,t1.dfn⟩ ((r3.toV t1.st).early fun b y=>t1.stp.gone y)
theorem qw{X:Cx}{e0:Expr}{es:List Expr}{p pos:Pos}{k:Nat}{F:Addr}{fd:FuncData}{ps:List Str}{g:List Dat->Option (RV×Dat)}{x:Str}{f0:FE}{fs:List FE}(G:aQ X.prog X.w X.K X.mg X.base CX0 k F fd ps (spM g))(hr:bf k X.A)(hg:Gl X x)(hm:X.mg x=some (.ref F))(hk:QY X.K (.ref F)=true)(hb:Binds X.K fd ps [])
  (ha:DA X (e0::es) (f0::fs)) (Ny:(x == ("__debug__" : Str))=false:=by decide) (he:starEach (e0::es) X.env=(false,eval e0 X.env)::starEach es X.env:=by rfl) (Fd:(backTo pos (starEach es X.env)).any (·.1)=false:=by rfl) :
  DE X (.Call (.Name x p) (e0::es) [] pos) (Dm.eFn g f0 fs):=PE.weak (iQ G hr hg hm hk hb .nil (o7 (X:=X)) ha Ny he Fd) fun _ _ _=>E2
open PySem
variable{C:List Value->Prop}{us:List Value}
theorem len0(h:us.length=0)(c:C []):C us:=by rw[List.eq_nil_of_length_eq_zero h];exact c
theorem Bs{n:Nat}{C:List Value->Prop}{us:List Value}(h:us.length=n+1)(c:∀a us,us.length=n->C (a::us)):C us:=by
 cases us with
 |nil=>cases h
 |cons a us=>exact c a us (by simpa using h)
theorem JU(h:us.length=1)(c:∀a,C [a]):C us:=Bs h fun a _ h=>len0 h (C:=fun us=>C (a::us)) (c a)
theorem vg(h:us.length=2)(c:∀a b,C [a,b]):C us:=Bs h fun a _ h=>JU h (C:=fun us=>C (a::us)) (c a)
theorem Nc(h:us.length=3)(c:∀a b d,C [a,b,d]):C us:=Bs h fun a _ h=>vg h (C:=fun us=>C (a::us)) (c a)
theorem Nd(h:us.length=4)(c:∀a b d e,C [a,b,d,e]):C us:=Bs h fun a _ h=>Nc h (C:=fun us=>C (a::us)) (c a)
theorem Pg(h:us.length=5)(c:∀a b d e f,C [a,b,d,e,f]):C us:=Bs h fun a _ h=>Nd h (C:=fun us=>C (a::us)) (c a)
end Br
namespace L2
open PySem
variable{K:Ds}{x qual:Str}{st:Stmt}{f:Addr}{fd:FuncData}{ps:List Str}
theorem Fun.cG(F:Fun K x qual st f fd)(hp:ps.length=1)(h:∀(kV doc pm:Value) (an:Option Addr) (cdv ct:Value) (a:Value),bindArgs (QD x qual (aN st) (aL st) (ah st) .none kV doc pm an cdv ct) ⟨[a],[]⟩=pure (ps.zip [a])):Binds K fd ps []:=
 F.binds fun kV doc pm an cdv ct us hl=>Br.JU (C:=fun us=>bindArgs (QD x qual (aN st) (aL st) (ah st) .none kV doc pm an cdv ct) ⟨us,[]⟩=pure (ps.zip us)) (hl.trans hp) (h kV doc pm an cdv ct)
theorem Fun.bO(F:Fun K x qual st f fd)(hp:ps.length=2)(h:∀(kV doc pm:Value) (an:Option Addr) (cdv ct:Value) (a b:Value),bindArgs (QD x qual (aN st) (aL st) (ah st) .none kV doc pm an cdv ct) ⟨[a,b],[]⟩=pure (ps.zip [a,b])):Binds K fd ps []:=
 F.binds fun kV doc pm an cdv ct us hl=>Br.vg (C:=fun us=>bindArgs (QD x qual (aN st) (aL st) (ah st) .none kV doc pm an cdv ct) ⟨us,[]⟩=pure (ps.zip us)) (hl.trans hp) (h kV doc pm an cdv ct)
theorem Fun.dN(F:Fun K x qual st f fd)(hp:ps.length=3)(h:∀(kV doc pm:Value) (an:Option Addr) (cdv ct:Value) (a b d:Value),bindArgs (QD x qual (aN st) (aL st) (ah st) .none kV doc pm an cdv ct) ⟨[a,b,d],[]⟩=pure (ps.zip [a,b,d])):Binds K fd ps []:=
 F.binds fun kV doc pm an cdv ct us hl=>Br.Nc (C:=fun us=>bindArgs (QD x qual (aN st) (aL st) (ah st) .none kV doc pm an cdv ct) ⟨us,[]⟩=pure (ps.zip us)) (hl.trans hp) (h kV doc pm an cdv ct)
theorem Fun.JV(F:Fun K x qual st f fd)(hp:ps.length=4)(h:∀(kV doc pm:Value) (an:Option Addr) (cdv ct:Value) (a b d e:Value),bindArgs (QD x qual (aN st) (aL st) (ah st) .none kV doc pm an cdv ct) ⟨[a,b,d,e],[]⟩=pure (ps.zip [a,b,d,e])):Binds K fd ps []:=
 F.binds fun kV doc pm an cdv ct us hl=>Br.Nd (C:=fun us=>bindArgs (QD x qual (aN st) (aL st) (ah st) .none kV doc pm an cdv ct) ⟨us,[]⟩=pure (ps.zip us)) (hl.trans hp) (h kV doc pm an cdv ct)
theorem Fun.vD(F:Fun K x qual st f fd)(hp:ps.length=5)(h:∀(kV doc pm:Value) (an:Option Addr) (cdv ct:Value) (a b d e g:Value),bindArgs (QD x qual (aN st) (aL st) (ah st) .none kV doc pm an cdv ct) ⟨[a,b,d,e,g],[]⟩=pure (ps.zip [a,b,d,e,g])):Binds K fd ps []:=
 F.binds fun kV doc pm an cdv ct us hl=>Br.Pg (C:=fun us=>bindArgs (QD x qual (aN st) (aL st) (ah st) .none kV doc pm an cdv ct) ⟨us,[]⟩=pure (ps.zip us)) (hl.trans hp) (h kV doc pm an cdv ct)
end L2
namespace Br
open PySem PySem.Spec PyProof.Rows L2
noncomputable def kw1{α:Type}(n:Nat)(us ws:List α):List α:=if us.length=n/\ws.length=1 then us++ws else []
theorem JX(n:Nat){vs zs:List V}{us ws:List Value}(r:Vals vs us)(q:Vals zs ws):Vals (kw1 n vs zs) (kw1 n us ws):=by
 unfold kw1;rw[r.length,q.length];split
 ·exact r.append q
 ·exact .nil
theorem E3{K:Ds}{fd:FuncData}{p1 p2 p3:Str}(h:∀(s:Shared) (a b c:Value),K.In s.heap->BindsTo s fd ⟨[a,b],[(p3,c)]⟩ [(p1,a),(p2,b),(p3,c)]):jt K fd [p1,p2,p3] [p3] (kw1 2) (kw1 2):=by
 refine⟨fun s us ws hIn hl=>?_,fun r q=>JX 2 r q⟩;unfold kw1 at hl ⊢;split at hl
 ·rename_i hh;rw[if_pos hh];refine vg (C:=fun us=>BindsTo s fd ⟨us,[p3].zip ws⟩ ([p1,p2,p3].zip (us++ws))) hh.1 fun a b=>?_;exact JU (C:=fun ws=>BindsTo s fd ⟨[a,b],[p3].zip ws⟩ ([p1,p2,p3].zip ([a,b]++ws))) hh.2 fun c=>h s a b c hIn
 ·cases hl
section
variable{X:Cx}{e1 e2 e3:Expr}{f1 f2 f3:FE}{p pos kpos:Pos}
section
variable{g:List Dat->Option RV}
theorem E4{E:XK}{σ:L2.St}{H:Hp}{Q:VK}(h:tD (Dm.eF g [f1,f2,f3]) σ H Q):Ag (spD g) (kw1 2) E (cz (tD f1) (cz (tD f2) dJ)) (cz (tD f3) dJ) σ H Q:=by have h1:=qh (u5 (E:=E) h);obtain⟨H0,ρ,x,ρ',st,e,k⟩:=h1;refine⟨H0,ρ,x,ρ',st,e,fun v H0' H' t r=>?_⟩;have h2:=qh (k v H0' H' t r);obtain⟨H0,ρ,x,ρ',st,e,k⟩:=h2;refine⟨H0,ρ,x,ρ',st,e,fun v H0' H' t r=>?_⟩;have h3:=qh (k v H0' H' t r);obtain⟨H0,ρ,x,ρ',st,e,k⟩:=h3;refine⟨H0,ρ,x,ρ',st,e,fun v H0' H' t r=>?_⟩;have h4:=Gz (k v H0' H' t r);exact h4
theorem E5{k:Nat}{F:Addr}{fd:FuncData}{ps:List Str}{x nm:Str}(G:aQ X.prog X.w X.K X.mg X.base CX0 k F fd ps (spD g))(hr:bf k X.A)(hg:Gl X x)(hm:X.mg x=some (.ref F))(hk:QY X.K (.ref F)=true)(hb:jt X.K fd ps [nm] (kw1 2) (kw1 2))
  (h1:DE X e1 f1) (h2:DE X e2 f2) (h3:DE X e3 f3) (hs1:starEach [e1,e2] X.env=(false,eval e1 X.env)::starEach [e2] X.env:=by rfl) (hs2:starEach [e2] X.env=(false,eval e2 X.env)::starEach [] X.env:=by rfl)
  (hall:(backToKw pos (keywordEach [⟨some nm,e3,kpos⟩] X.env)).all (·.1.isSome)=true:=by rfl) (hks:(backToKw pos (keywordEach [⟨some nm,e3,kpos⟩] X.env)).filterMap (·.1)=[nm]:=by rfl)
  (Ny:(x == ("__debug__" : Str))=false:=by decide) (Fd:((backTo pos (starEach [e1,e2] X.env)).any (·.1)||(backToKw pos (keywordEach [⟨some nm,e3,kpos⟩] X.env)).any (·.1.isNone))=false:=by rfl) :
  DE X (.Call (.Name x p) [e1,e2] [⟨some nm,e3,kpos⟩] pos) (Dm.eF g [f1,f2,f3]):=
 PE.weak (Ah G hr hg hm hk hb (o7 (X:=X)) (cR h1 (cR h2 c_ hs2) hs1) (D8 h3 IL) hall hks Ny hs1 Fd) fun _ _ _=>E4
end
end
end Br
namespace Dm
noncomputable def qx(a:Int):List Int->Int
 |[]=>a
 |x::r=>qx (if x<a then x else a) r
end Dm
namespace Br
open PySem PySem.Spec PyProof.Rows L2
theorem Bt(a x:Int)(l:List Int):Dm.qx a (l++[x])=if x<Dm.qx a l then x else Dm.qx a l:=by
 induction l generalizing a with
 |nil=>rfl
 |cons y l ih=>rw[Rl,Dm.qx,ih,Dm.qx]
theorem sj(n0:Int)(ns:List Int):∀k,k<=ns.length->(n0::ns).getD (argBest (fun i j=>decide ((n0::ns).getD i 0<(n0::ns).getD j 0)) k) 0=Dm.qx n0 (ns.take k)
 |0,_=>rfl
 |k+1,h=>by
  have ih:=sj n0 ns k (by lia);have e:argBest (fun i j=>decide ((n0::ns).getD i 0<(n0::ns).getD j 0)) (k+1)=if decide ((n0::ns).getD (k+1) 0<(n0::ns).getD (argBest (fun i j=>decide ((n0::ns).getD i 0<(n0::ns).getD j 0)) k) 0) then k+1 else argBest (fun i j=>decide ((n0::ns).getD i 0<(n0::ns).getD j 0)) k:=rfl
  have ek:(n0::ns).getD (k+1) 0=ns[k]'(by omega):=by rw[Q4,RT,Ql (by lia)];rfl
  rw[e,ih,ek,List.take_succ_eq_append_getElem (by lia),Bt];by_cases c:ns[k]'(by lia)<Dm.qx n0 (ns.take k)
  ·rw[decide_eq_true c,if_pos rfl,if_pos c,ek]
  ·rw[decide_eq_false c,if_neg (by decide),if_neg c,ih]
end Br
namespace Dm
noncomputable def shC:Cell->Cell
 |.ow d=>.sh d
 |c=>c
noncomputable def dH(ρ:Env):Env:=ρ.map shC
end Dm
namespace Br
open PySem PySem.Spec PyProof.Rows L2
theorem au.JY{H0 H:Hp}{σ:L2.St}{ρ:Dm.Env}(st:au H0 H σ ρ)(j:Nat)(v:Option V):au H0 H (σ.set j v) (ρ.set j .un)/\∀a,ak (σ.set j v) (ρ.set j .un) a->ak σ ρ a:=by
 refine⟨⟨st.same,by rw[QC,QC];exact st.len,fun i d h=>?_,fun i d h=>?_,fun i i' d d' a h1 h2 h3 h4=>?_⟩,fun a ⟨i,d,h1,h2⟩=>?_⟩
 ·rcases aE h with⟨_,z⟩ | ⟨hij,h⟩
  ·cases z
  ·obtain⟨v,q,r⟩:=st.sh i d h;exact⟨v,by rw[Dk (Ne.symm hij)];exact q,r⟩
 ·rcases aE h with⟨_,z⟩ | ⟨hij,h⟩
  ·cases z
  ·obtain⟨v,q,r⟩:=st.ow i d h;exact⟨v,by rw[Dk (Ne.symm hij)];exact q,r⟩
 ·rcases aE h1 with⟨_,z⟩ | ⟨q1,h1⟩
  ·cases z
  rcases aE h2 with⟨_,z⟩ | ⟨q2,h2⟩
  ·cases z
  rw[Dk (Ne.symm q1)]at h3;rw[Dk (Ne.symm q2)]at h4;exact st.dis i i' d d' a h1 h2 h3 h4
 ·rcases aE h1 with⟨_,z⟩ | ⟨hij,h1⟩
  ·cases z
  ·rw[Dk (Ne.symm hij)]at h2;exact⟨i,d,h1,h2⟩
end Br
namespace Dm
noncomputable def xq(j:Nat):FI:=fun ρ=>match ρ[j]? with
 |some (.ow (.dct _ ds))=>some (ds,ρ.set j .un)
 |_=>none
noncomputable def qy(ks:List Int)(rows:List (List Dat))(g:Int)(d:Dat):Option (List Int×List (List Dat)):=match ks.findIdx? (· == g) with
 | some m=>(match rows[m]? with
  |some r=>if r.length<SZ then some (ks,rows.set m (r++[d])) else none
  |none=>none)
 |none=>if ks.length<SZ then some (ks++[g],rows++[[d]]) else none
end Dm
namespace Br
open PySem PySem.Spec PyProof.Rows L2
section
variable{X:Cx}{qL:List (Addr×Obj)}{σ:L2.St}{H:Hp}{s:Shared}{a:Addr}{kvs:List (Key×V)}{k:Key}{u:Value}{A:Around}{E:Value->Shared->Prop}
theorem JZ{z:V}{r:Value}{Q:Value->Shared->Prop}(I:Inv X qL σ H s)(e:H a=some (.dK kvs))(ry:RelV (kV k) u)(rz:RelV z r)(hl:kvs.length<sizeLine)
  (h1:∀v w' s',cS kvs k=some v->RelV v w'->Inv X qL σ H s'->Q w' s') (h2:cS kvs k=none->∀s',Inv X qL σ (upd H a (.dK (putK kvs k z))) s'->Q r s') :
  wpAny (model X.prog X.w) A (call (.builtin "dict.setdefault") [.ref a,u,r]) Q E s:=by
 obtain⟨zz,hd,vs,rel,dd⟩:=k_ I.hok e;refine call_meetsIn PySem.F.slot_dict_setdefault dd.typeIs PySem.F.entry_dict_setdefault (PySem.F.args_dict_setdefault_3 _ _ _) (kt_meets_setdefault (aM X.prog X.w) a (iR ry) hd r)
  ⟨vs,dd,by rw[<- rel.length];exact zz,fun v' hv'=>?_,fun hn h' dd' hs=>?_⟩
 ·have q:=rel.val k;rw[hv']at q;cases l:cS kvs k with
  |none=>rw[l]at q;exact q.elim
  |some v=>rw[l]at q;exact h1 v v' _ l q (I.tok _)
 ·have q:=rel.val k;rw[hn]at q;have l:cS kvs k=none:=by
   cases l:cS kvs k with
   |none=>rfl
   |some v=>rw[l]at q;exact q.elim
  have hl':(putK kvs k z).length<=sizeLine:=by have:=dB kvs k z;lia
  have he:∃q,h'.get? a=some q:=let ⟨q,_,_,hq,_⟩:=dd';⟨q,hq⟩
  exact h2 l _ (iU I (by rw[e];exact Ru) hs he (lq hl' hd (rel.put k rz) dd'))
end
def Bu(td ty tx:TE):TE:=fun σ H Q=>td σ H fun x H1=>∃a,x=.ref a/\IsD H1 a/\ty σ H1 fun y H2=>tx σ H2 fun z H3=>∃kvs k,H3 a=some (.dK kvs)/\y=kV k/\kvs.length<sizeLine /\
 (∀v,cS kvs k=some v->Q v H3)/\(cS kvs k=none->Q z (upd H3 a (.dK (putK kvs k z))))
theorem Bv{X:Cx}{o e f:Expr}{Ke cpos:Pos}{td ty tx:TE}(ho:PE X o td)(he:PE X e ty)(hf:PE X f tx)(m:M2 X o "setdefault" Ke e f cpos):PE X (.Call (.Attribute o "setdefault" Ke) [e,f] [] cpos) (Bu td ty tx):=by
 intro qL s σ H Q I h;refine wpAny_Call_method m.base m.few m.line RS PySem.F.slot_dict_setdefault PySem.F.type_dict_setdefault (thn (ho qL s σ H _ I h) fun u s1 ⟨x,H1,I1,rx,a,ex,d,q1⟩=>?_);subst ex;obtain rfl:u=QW a:=rx;obtain⟨t1,t2,_⟩:=ly I1 d;refine⟨t1,t2,?_⟩;rw[m.trees];refine RH rfl (R3 (RU (thn (he qL s1 σ H1 _ I1 q1) fun iv s2 ⟨y,H2,I2,ry,q2⟩=>RU (thn (hf qL s2 σ H2 _ I2 q2) fun fv s3 ⟨z,H3,I3,rz,kvs,k,ea,ey,hl,q3,q4⟩=>Rn ?_))))
 subst ey;exact JZ I3 ea ry rz hl (fun v w' s4 l rw' I4=>⟨v,_,I4,rw',q3 v l⟩) fun l s4 I4=>⟨z,_,I4,rz,q4 l⟩
noncomputable def bK:List Int->List Addr->List (Key×V)
 |k::ks,p::ps=>(Qw k,V.ref p)::bK ks ps
 |_,_=>[]
theorem dR:∀{ks:List Int} {ps:List Addr},ks.length=ps.length->(bK ks ps).map (·.1)=ks.map Qw/\(bK ks ps).map (·.2)=ps.map V.ref
 |[],[],_=>⟨rfl,rfl⟩
 |k::ks,p::ps,h=>by obtain⟨a,b⟩:=dR (ks:=ks) (ps:=ps) (by simpa using h);exact⟨by rw[bK,Qa,a];rfl,by rw[bK,Qa,b];rfl⟩
 |[],_::_,h=>by cases h
 |_::_,[],h=>by cases h
theorem pL(g:Int)(q:Addr):∀{ks:List Int} {ps:List Addr},ks.length=ps.length->bK (ks++[g]) (ps++[q])=bK ks ps++[(Qw g,V.ref q)]
 |[],[],_=>rfl
 |k::ks,p::ps,h=>by show _::bK (ks++[g]) (ps++[q])=_;rw[pL g q (by simpa using h)];rfl
 |[],_::_,h=>by cases h
 |_::_,[],h=>by cases h
theorem qz(g:Int):∀{ks:List Int} {ps:List Addr},ks.length=ps.length ->
  (∃m p,ks.findIdx? (· == g)=some m/\ps[m]?=some p/\cS (bK ks ps) (Qw g)=some (.ref p))\/(ks.findIdx? (· == g)=none/\cS (bK ks ps) (Qw g)=none/\∀v,putK (bK ks ps) (Qw g) v=bK ks ps++[(Qw g,v)])
 |[],[],_=>.inr ⟨rfl,rfl,fun v=>rfl⟩
 |k::ks,p::ps,h=>by
  by_cases e:k=g
  ·subst e;exact .inl ⟨0,p,by simp[Rv],rfl,by unfold bK;exact e_ rfl⟩
  ·have ne:¬(Qw k:Key)=Qw g:=fun z=>e (Sum.inl.inj z);rcases qz g (ks:=ks) (ps:=ps) (by simpa using h) with⟨m,q,h1,h2,h3⟩ | ⟨h1,h2,h3⟩
   ·exact .inl ⟨m+1,q,by simp[Rv,e,h1],by simpa using h2,by unfold bK;rw[dP ne];exact h3⟩
   ·refine .inr ⟨by simp[Rv,e,h1],by unfold bK;rw[dP ne];exact h2,fun v=>?_⟩;have h4:=h3 v;unfold putK at h4 ⊢;unfold bK;rw[RB,decide_eq_false ne,Bool.false_or];split at h4
    ·rename_i hy;have:=congrArg List.length h4;rw[Dp,Qn]at this;simp at this
    ·rename_i hy;rw[if_neg hy]
     try rfl
 |[],_::_,h=>by cases h
 |_::_,[],h=>by cases h
theorem aF.snoc{H0 H:Hp}{p:Addr}{xs:List V}{r:List Dat}(h1:H p=Option.some (.lst xs))(h2:aC H0 xs r):∀{ps:List Addr} {rs:List (List Dat)},aF H0 H ps rs->aF H0 H (ps++[p]) (rs++[r])
 |[],[],_=>⟨⟨xs,h1,h2⟩,trivial⟩
 |_::_,_::_,h=>⟨h.1,aF.snoc h1 h2 h.2⟩
structure DGs(j:Nat)(σs:L2.St)(ρs:Dm.Env)(H0s Hs:Hp)(σ:L2.St)(ρ:Dm.Env)(H0 H:Hp)(ks:List Int)(rows:List (List Dat)):Prop where
 st:au H0 H σ ρ
 stp:Stp (ak σs ρs) H0s Hs H0 H
 own:∀a,ak σ ρ a->ak σs ρs a\/Hs a=none
 fx:σ[0]?=σs[0]?
 ex:∃(L:Addr) (ps:List Addr),σ[j]?=some (some (.ref L))/\Hs L=none/\H0 L=none/\¬ak σ ρ L/\H L=some (.dK (bK ks ps))/\(L::ps).Nodup/\(∀p∈ps,Hs p=none/\H0 p=none/\¬ak σ ρ p)/\aF H0 H ps rows/\ks.length=ps.length/\ks.length<=Dm.SZ
section
variable{j:Nat}{σs:L2.St}{ρs:Dm.Env}{H0s Hs:Hp}{σ:L2.St}{ρ ρ':Dm.Env}{H0 H H0' H':Hp}{ks:List Int}{rows:List (List Dat)}
theorem DGs.est(n:DGs j σs ρs H0s Hs σ ρ H0 H ks rows)(t:ESt σ ρ H0 H ρ' H0' H'):DGs j σs ρs H0s Hs σ ρ' H0' H' ks rows:=by
 obtain⟨L,ps,h1,h2,h3,h4,h5,h6,h7,h8,h9⟩:=n.ex;obtain⟨k1,k2,k3⟩:=t.bY h5 h3 h4;refine⟨t.st,n.stp.trans t.stp n.own,fun a z=>n.own a (t.own a z),n.fx,L,ps,h1,h2,k2,k3,k1,h6,fun p hp=>?_,h8.mono t.stp.s0 fun p hp=>?_,h9⟩
 ·obtain⟨q1,q2,q3⟩:=h7 p hp;obtain⟨o,q4⟩:=h8.some p hp;obtain⟨z1,z2,z3⟩:=t.bY q4 q2 q3;exact⟨q1,z2,z3⟩
 ·obtain⟨q1,q2,q3⟩:=h7 p hp;obtain⟨o,q4⟩:=h8.some p hp;obtain⟨z1,z2,z3⟩:=t.bY q4 q2 q3;rw[z1,q4]
theorem DGs.bind{σ':L2.St}(n:DGs j σs ρs H0s Hs σ ρ H0 H ks rows)(st:au H0 H σ' ρ')(o:∀a,ak σ' ρ' a->ak σ ρ a)(hj:σ'[j]?=σ[j]?)(h0:σ'[0]?=σ[0]?):DGs j σs ρs H0s Hs σ' ρ' H0 H ks rows:=by obtain⟨L,ps,h1,h2,h3,h4,h5,h6,h7,h8,h9⟩:=n.ex;exact⟨st,n.stp,fun a z=>n.own a (o a z),h0.trans n.fx,L,ps,hj.trans h1,h2,h3,fun z=>h4 (o L z),h5,h6,fun p hp=>⟨(h7 p hp).1,(h7 p hp).2.1,fun z=>(h7 p hp).2.2 (o p z)⟩,h8,h9⟩
theorem DGs.done(n:DGs j σs ρs H0s Hs σ ρ H0 H ks rows):∃H0',SSt σs ρs H0s Hs σ (ρ.set j (.ow (.dct ks (rows.map Dat.lst)))) H0' H:=by
 obtain⟨L,ps,h1,h2,h3,h4,h5,h6,h7,h8,h9,_⟩:=n.ex;obtain⟨n1,n2⟩:=Qv.mp h6;have ss:=pH (ps:=ps) n.st.same;have st:au (oK H0 H ps) H σ ρ:={
  same:=sd n.st.same
  len:=n.st.len
  sh:=fun i d h=>by obtain⟨v,z,r⟩:=n.st.sh i d h;exact⟨v,z,r.mono ss⟩
  ow:=fun i d h=>by obtain⟨b,z,q,w⟩:=n.st.ow i d h;have nb:b∉ps:=fun y=>(h7 b y).2.2 ⟨i,d,h,z⟩;exact⟨b,z,by rw[cP nb];exact q,w.mono ss rfl⟩
  dis:=n.st.dis }
 obtain⟨kk,kv⟩:=dR h9;refine⟨oK H0 H ps,st.fP h1 h4 (by rw[cP n1];exact h3) ⟨_,h5,kk,by rw[kv];exact h8.reps ss fun p hp=>kM hp⟩,⟨n.stp.s0.trans ss,n.stp.s1,fun a o e=>?_,n.stp.s3⟩,fun a z=>?_,n.fx⟩
 ·by_cases q:a∈ps
  ·exact .inl (h7 a q).1
  ·rw[cP q]at e;exact n.stp.s2 a o e
 ·obtain⟨i,d,z1,z2⟩:=z;by_cases q:j=i
  ·subst q;rw[h1]at z2;cases z2;exact .inr h2
  ·rw[Dk q]at z1;exact n.own a ⟨i,d,z1,z2⟩
end
section
variable{kvs:List (Key×V)}{qL:List (Addr×Obj)}{s:Shared}{σ:L2.St}{o:Obj}{H:Hp}{X:Cx}
theorem Inv.freeze{a:Addr}(I:Inv X qL σ H s)(h:H a=some (.dK kvs))(ho:s.heap.get? a=some o):Inv X qL σ (upd H a (.frz o (.dK kvs))) s:=by
 have ne:∀{b:Addr},H b=none->b≠a:=fun {b} hb z=>by rw[z,h]at hb;cases hb
 refine⟨I.ok,I.os,I.bare,⟨I.base.keep,I.base.slot,fun b o' h1 h2 h3=>?_,I.base.there,fun b ys h1=>?_,fun b o' u h1=>?_,fun b x1 x2 x3 h1=>?_⟩,I.loc,I.cell,?_,fun x c hx=>?_,fun p hp=>?_,fun b u e=>?_,I.len⟩
 ·have q:=I.base.free b o' h1 h2 h3;rw[ai (ne q)];exact q
 ·have q:=I.base.tups b ys h1;rw[ai fun z=>by rw[z,h]at q;cases q];exact q
 ·have q:=I.base.kB b o' u h1;rw[ai fun z=>by rw[z,h]at q;cases q];exact q
 ·have q:=I.base.oA b _ _ _ h1;rw[ai fun z=>by rw[z,h]at q;cases q];exact q
 ·rw[ai (ne I.free)];exact I.free
 ·rw[ai (ne (I.dw x c hx))];exact I.dw x c hx
 ·obtain⟨q1,q2,q3⟩:=I.pin p hp;exact⟨q1,by rw[ai (ne q2)];exact q2,q3⟩
 ·by_cases z:b=a
  ·subst z;rw[ao]at e;cases e;exact⟨ho,I.hok b _ h⟩
  ·rw[ai z]at e;exact(I.hok b u e).stay (fun c v _ q=>q) (fun c q=>by rw[ai fun z=>by rw[z,h]at q;cases q];exact q) (fun c _ _ q=>by rw[ai fun z=>by rw[z,h]at q;cases q];exact q) fun c ys q=>by rw[ai fun z=>by rw[z,h]at q;cases q];exact q
noncomputable def J0(D:Addr)(o:Obj)(kvs:List (Key×V)):It:=
 ⟨fun i H=>i<kvs.length/\H D=some (.frz o (.dK kvs)),fun i H x H'=>H'=H/\(kvs.map (·.2))[i]?=some x,fun i H=>kvs.length<=i/\H D=some (.frz o (.dK kvs))⟩
theorem qA{D:Addr}{es ep}(hep:o.data=.dict es ep)(I:Inv X qL σ H s)(h:H D=some (.frz o (.dK kvs))) :
  ∃vs,KV kvs vs/\s.heap.DictAt (aM X.prog X.w) D vs ep:=by
 obtain⟨hg,_,_,vs,rel,dd⟩:=(show aT X.prog X.w H s.heap D (.frz o (.dK kvs)) from I.hok D _ h)
 obtain⟨ep',o',es',ho',hc',hd',r⟩:=dd.dictAt;rw[hg]at ho';cases ho';rw[hep]at hd';cases hd';exact⟨vs,rel,o,es,hg,hc',hep,r⟩
theorem Nf{vs:List (Key×Value)}(r:KV kvs vs):∀{i:Nat},i<kvs.length->∃k x u,(kvs.map (·.2))[i]?=some x/\vs[i]?=some (k,u)/\RelV x u:=by
 induction r with
 |nil=>intro i h;cases h
 |@cons p q ps qs hq t ih=>
  intro i h;cases i with
  |zero=>exact⟨q.1,p.2,q.2,rfl,rfl,hq.2⟩
  |succ i=>obtain⟨k,x,u,h1,h2,h3⟩:=ih (i:=i) (by simpa using h);exact⟨k,x,u,by simpa using h1,by simpa using h2,h3⟩
theorem ze{P:Program}{w:World}{K:Ds}{tg:Expr}(D it:Addr)(o:Obj)(kvs:List (Key×V)){es ep}(hep:o.data=.dict es ep):Turn P w K tg (J0 D o kvs) [it] it (fun i h=>h.IsValIter it D i kvs.length ep) where
 mem:=by simp
 obj:=fun i h st b hb=>by
  have e:b=it:=by simpa using hb
  subst e;obtain⟨o,e,c,d⟩:=st;exact⟨o,e,fun v z=>by rw[d]at z;cases z⟩
 keep:=fun i h h' st k=>st.at fun o e=>k it (by simp) o e
 item:=by intro X hP hw hK hc i qL s σ H E I hf st hg;subst hP hw hK;obtain⟨hi,hD⟩:=hg;obtain⟨vs,rel,hm⟩:=qA hep I hD;obtain⟨f0,f1,f2,f3,f4,f5⟩:=hf it (by simp);obtain⟨k,x,u,h1,h2,h3⟩:=Nf rel hi;have hl:kvs.length=vs.length:=rel.length;rw[hl]at st;refine wpAny_pyNext_values_item st hm h2 fun h' st' sb=>?_;have I1:Inv X qL σ H { s with heap:=h' }:=I.turned (t':=s.toks) (fun b o hb e=>(sb.2 b hb).trans e) f0 f1 f3 f4 f5;obtain⟨o,e,c,d⟩:=id st';rw[<- hl]at st';exact⟨u,rfl,kY (s:={ s with heap:=h' }) e c d (by decide) ⟨x,H,I1,h3,⟨rfl,h1⟩,st',fun b hb=>(hf b hb).1⟩⟩
 done:=by intro X hP hw hK hc i qL s σ H E I hf st hg;subst hP hw hK;obtain⟨hi,hD⟩:=hg;obtain⟨vs,rel,hm⟩:=qA hep I hD;obtain⟨f0,f1,f2,f3,f4,f5⟩:=hf it (by simp);have hl:kvs.length=vs.length:=rel.length;rw[hl]at st hi;exact wpAny_pyNext_values_end (I.ok.hd hc) st hm (QZ hi) fun h' eb=>⟨rfl,I.turned (t':=s.toks) (fun b o hb e=>eb b o hb e) f0 f1 f3 f4 f5⟩
 self:=fun _ _ _ _ _ st h=>wpAny_pyIter_valiter st h
def iVl(j:Nat):TI:=fun σ H R=>∃D kvs,σ[j]?=some (some (.ref D))/\H D=some (.dK kvs)/\∀o,R (J0 D o kvs) (upd H D (.frz o (.dK kvs)))
end
section
variable{X:Cx}{tg:Expr}{x:Str}{px ap cp:Pos}{j:Nat}
theorem E6(hi:X.N[j]?=some x)(hv:Vis X.env.scope x)(hd:(x == ("__debug__" : Str))=false)(Nt:(x == ("__classdict__" : Str))=false)(Kc:attributeBase (.Name x px) "values" X.env (eval (.Name x px) X.env)=eval (.Name x px) X.env)(G6:(ap.endLine == cp.line)=true) :
  PI X tg (.Call (.Attribute (.Name x px) "values" ap) [] [] cp) (iVl j):=by
 intro qL s σ H R I h;obtain⟨D,kvs,hσ,hD,k⟩:=h;refine wpAny_Call_method0_late Kc G6 (thn (bz hi hv hd Nt qL s σ H (fun v H'=>v=.ref D/\H'=H) I ⟨_,hσ,rfl,rfl⟩) fun v s1 ⟨y,H1,I1,r1,q1,q2⟩=>?_);subst q1 q2;obtain rfl:v=QW D:=r1;obtain⟨t1,t2,hs⟩:=ly I1 (.inl ⟨_,.inl hD⟩);refine⟨"dict","dict.values",RS,PySem.F.slot_dict_values,PySem.F.type_dict_values,t1,t2,RH rfl (PySem.evalArgs_none ?_)⟩;obtain⟨zz,hsm,vs,rel,dd⟩:=k_ I1.hok hD;refine call_meetsIn PySem.F.slot_dict_values dd.typeIs PySem.F.entry_dict_values (PySem.F.args_dict_values_1 _) (meets_dict_values (aM X.prog X.w) D hs) ⟨⟨vs,dd⟩,?_⟩;obtain⟨ep,o,es,ho,hc,hdt,r⟩:=dd.dictAt;have I2:Inv X qL σ H1 { s1 with heap:=s1.heap.push { cls:=.type "dict_values",data:=.fields #[.ref D] } }:=I1.kept (t':=s1.toks) fun b o e=>Qc _ e;have ho2:(s1.heap.push { cls:=.type "dict_values",data:=.fields #[.ref D] }).get? D=some o:=Qc _ ho;refine wpAny_pyIter_values (knd:=aM X.prog X.w) (kvs:=vs) (ep:=ep) ⟨_,QA _ rfl,rfl,rfl⟩ ⟨o,es,ho2,hc,hdt,r⟩ ?_;have hl:kvs.length=vs.length:=rel.length;have I3:=I2.kept (t':=s1.toks) (h':=(s1.heap.push { cls:=.type "dict_values",data:=.fields #[.ref D] }).push { cls:=.type "dict_valueiterator",data:=.fields #[.ref D,.int 0 0,.int vs.length 0,.int ep 0] }) fun b o e=>Qc _ e;refine⟨_,[(s1.heap.push { cls:=.type "dict_values",data:=.fields #[.ref D] }).objs.size],_,_,_,rfl,Inv.freeze I3 hD (Qc _ ho2),ze D _ o kvs hdt,?_,fun b hb=>?_,k o⟩
 ·exact⟨_,QA _ rfl,rfl,by rw[hl];rfl⟩
 ·have e:b=(s1.heap.push { cls:=.type "dict_values",data:=.fields #[.ref D] }).objs.size:=by simpa using hb
  subst e;have hn:=I2.hok.fresh (Qf (s1.heap.push { cls:=.type "dict_values",data:=.fields #[.ref D] }).objs.size);exact I2.p7 (Qf _) (by rw[ai fun z=>by rw[z,hD]at hn;cases hn];exact hn)
theorem E7{σ:L2.St}{H:Hp}{R:It->Hp->Prop}(h:tDI (Dm.xq j) σ H R):iVl j σ H R:=by
 obtain⟨H0,ρ,ys,ρ',st,e,k⟩:=h;unfold Dm.xq at e;split at e
 case h_2=>cases e
 rename_i ks ds hj;cases e;obtain⟨D,hσ,n0,kvs,hD,ek,rs⟩:=st.ow j _ hj;refine⟨D,kvs,hσ,hD,fun o=>?_⟩;have ow:ak σ ρ D:=⟨j,_,hj,hσ⟩
 have no:¬ak σ (ρ.set j .un) D:=fun z=>by obtain⟨i,d2,hij,z1,z2⟩:=bF z;exact hij (st.dis i j d2 _ D z1 hj z2 hσ)
 have st1:au H0 (upd H D (.frz o (.dK kvs))) σ (ρ.set j .un):=(st.mask j).aside n0 no;have ss:aq H0 (shr H0 (upd H D (.frz o (.dK kvs))) D):=dc n0;have st2:au (shr H0 (upd H D (.frz o (.dK kvs))) D) (upd H D (.frz o (.dK kvs))) σ (ρ.set j .un):={
  same:=qg st1.same
  len:=st1.len
  sh:=fun i d h=>by obtain⟨v,z,r⟩:=st1.sh i d h;exact⟨v,z,r.mono ss⟩
  ow:=fun i d h=>by obtain⟨b,z,q,w⟩:=st1.ow i d h;have nb:b≠D:=fun y=>no ⟨i,d,h,y▸z⟩;exact⟨b,z,by rw[dX nb];exact q,w.mono ss rfl⟩
  dis:=st1.dis }
 refine k (J0 D o kvs) (shr H0 (upd H D (.frz o (.dK kvs))) D) (upd H D (.frz o (.dK kvs))) ⟨st2,⟨ss,fun a u e n=>?_,fun a u e=>?_,fun a u e=>?_⟩,fun a z=>?_,fun i z=>trivial⟩ fun Ha Hb s1 s2=>?_
 ·rw[ai fun z:a=D=>n (z▸ow)];exact e
 ·by_cases z:a=D
  ·subst z;exact .inr (.inr ow)
  ·rw[dX z]at e;exact .inr (.inl e)
 ·by_cases z:a=D
  ·subst z;exact⟨_,ao⟩
  ·exact⟨u,by rw[ai z];exact e⟩
 ·obtain⟨i,d2,_,z1,z2⟩:=bF z;exact⟨i,d2,z1,z2⟩
 ·have hf:Ha D=some (.frz o (.dK kvs)):=s1 _ _ (by rw[b_];exact ao);have hl:kvs.length=ys.length:=by rw[<- Dp (f:=(·.2)),rs.length]
  refine⟨fun i hi=>⟨by rw[hl];exact hi,s2 _ _ hf⟩,fun i d hd=>⟨⟨by rw[hl];exact(PU.mp hd).1,s2 _ _ hf⟩,fun y H2 hy=>?_⟩⟩;obtain⟨rfl,hy⟩:=hy;obtain⟨v,hv,rv⟩:=rs.get hd;rw[hy]at hv;cases hv;exact⟨Ha,aK.refl s2,rv.mono (ss.trans s1)⟩
theorem J1(j:Nat)(hi:X.N[j]?=some x:=by rfl)(hv:Vis X.env.scope x:=by trivial)(hd:(x == ("__debug__" : Str))=false:=by decide)(Nt:(x == ("__classdict__" : Str))=false:=by decide)
  (Kc:attributeBase (.Name x px) "values" X.env (eval (.Name x px) X.env)=eval (.Name x px) X.env:=by rfl) (G6:(ap.endLine == cp.line)=true:=by rfl):DI X tg (.Call (.Attribute (.Name x px) "values" ap) [] [] cp) (Dm.xq j):=
 PI.weak (E6 hi hv hd Nt Kc G6) fun _ _ _=>E7
end
end Br
namespace Dm
noncomputable def pM:Dat->Dat->Option RV
 |.tup xs,.tup (y::ys)=>if xs.length+(y::ys).length<=SZ then some (.val (.tup (xs++(y::ys)))) else none
 |_,_=>none
end Dm
namespace Br
open PySem PySem.Spec PyProof.Rows L2
def GU:R2:=fun x y H Q=>∃l b xs zs,x=.ref l/\y=.ref b/\H l=some (.tup xs)/\H b=some (.tup zs)/\zs≠[]/\xs.length+zs.length<=sizeLine/\(xs=[]->Q (.ref b) H)/\(xs≠[]->∀p,H p=none->Q (.ref p) (upd H p (.tup (xs++zs))))
theorem E8{X:Cx}:OpR X (binaryOp .Add) GU:=by
 intro qL s σ H x y v u Q I rx ry h;obtain⟨l,b,xs,zs,rfl,rfl,hH,hB,n2,hz,q0,q⟩:=h;cases rx;cases ry;obtain⟨z1,its,r1,⟨⟨cls,dd,data,sl⟩,ho,hc,n,hd⟩⟩:=(show aT X.prog X.w H s.heap l (.tup xs) from I.hok l _ hH)
 obtain⟨z2,its2,r2,⟨⟨P5,dd2,data2,sl2⟩,ho2,hc2,n',hd2⟩⟩:=(show aT X.prog X.w H s.heap b (.tup zs) from I.hok b _ hB)
 simp only at hc hd hc2 hd2;subst hc hd hc2 hd2;have e:its.toArray++its2.toArray=(its++its2).toArray:=by simp
 have hl:=r1.length;have hl2:=r2.length;have m2:its2≠[]:=fun y=>n2 (Sj.mp (by rw[hl2,y];rfl));by_cases n1:xs=[]
 ·have m1:its=[]:=Sj.mp (by rw[<- hl,n1];rfl);exact concat_meets ⟨_,ho,rfl⟩ ⟨_,ho2,rfl⟩ noFill_tuple_add seq_tuple_add PySem.F.slot_tuple_add PySem.F.entry_tuple_add (PySem.F.args_tuple_add_2 _ _)
   (tuple_addW0 l b its.toArray its2.toArray n n' dd dd2 sl sl2 (by simp[m1])) ⟨ho,ho2,.ref b,H,I,rfl,q0 n1⟩
 ·have m1:its≠[]:=fun y=>n1 (Sj.mp (by rw[hl,y];rfl));refine concat_meets ⟨_,ho,rfl⟩ ⟨_,ho2,rfl⟩ noFill_tuple_add seq_tuple_add PySem.F.slot_tuple_add PySem.F.entry_tuple_add (PySem.F.args_tuple_add_2 _ _)
   (tuple_addW2 l b its.toArray its2.toArray n n' dd dd2 sl sl2 (by simpa using m1) (by simpa using m2) (by rw[Qj,Qj];lia)) ⟨ho,ho2,?_⟩
  rw[e];refine⟨.ref _,_,I.laid (t':=s.toks) (fun _ _ q=>Qc _ q) (Qf _) (show aT X.prog X.w _ _ _ (.tup (xs++zs)) from ⟨by rw[Qn];exact hz,its++its2,r1.append r2,⟨_,QA _ rfl,rfl,0,rfl⟩⟩),rfl,q n1 _ I.fresh⟩
theorem E9:OpD GU Dm.pM:=by
 intro H0 H x y dx dy z Q s rx ry e k;unfold Dm.pM at e;split at e
 ·rename_i xs y1 ys;split at e
  case isFalse=>cases e
  rename_i hz;cases e;have r0:Rep H0 y (.tup (y1::ys)):=by
   rcases ry with r | ⟨a,_,w⟩
   ·exact r
   ·exact QN w
  obtain⟨a,us,rfl,qa,ra⟩:=dQ s rx;obtain⟨b,ws,rfl,qb,rb⟩:=dQ s ry;have la:=ra.length;have lb:=rb.length;refine⟨a,b,us,ws,rfl,rfl,qa,qb,fun q=>(by rw[q]at lb;cases lb),by rw[la,lb];exact iV hz,fun q=>?_,fun _ p hp=>?_⟩
  ·subst q;cases ra;exact k _ _ _ (aK.refl s) r0
  ·have g:=aK.AB (o:=.tup (us++ws)) s hp;exact k _ _ _ g (.tup ao ((ra.append rb).mono g.s0))
 ·cases e
section
variable{X:Cx}{pos:Pos}
theorem J2{a b:Expr}{fa fb:FE}(ha:DE X a fa)(hb:DE X b fb):DE X (.BinOp a .Add b pos) (Dm.e2 Dm.pM fa fb):=rT E8 E9 ha hb
end
open PySem L2
structure aW(K:Ds)(x:Str)(st:Stmt)(a:Addr)(fd:FuncData):Prop where
 e:QS K mainGlobals x=some (some (.ref a))
 F:Fun K x x st a fd
variable{K:Ds}{x:Str}{st:Stmt}{a:Addr}{fd:FuncData}{hp:Heap}{mg:Str->Option Value}
theorem aG{oc:Value}{od an:Option Addr}{osl:Array (Option Value)}{kV doc pm cdv ct:Value}(e:QS K mainGlobals x=some (some (.ref a)))
  (l:K.lookup a=some ⟨oc,od,.func (QD x x (aN st) (aL st) (ah st) .none kV doc pm an cdv ct),osl⟩) (c:RG K cdv x=true) (k:QY K (.ref a)=true) :
  aW K x st a (QD x x (aN st) (aL st) (ah st) .none kV doc pm an cdv ct):=⟨e,IV l c k⟩
theorem mgo{v:Value}(X:K.In hp)(G:hp.Ns mainGlobals mg)(e:QS K mainGlobals x=some (some v)):mg x=some v:=PySem.W.mg_of X G e
theorem mno(X:K.In hp)(G:hp.Ns mainGlobals mg)(e:QS K mainGlobals x=some none):mg x=none:=PySem.W.mg_none_of X G e
theorem aW.m(h:aW K x st a fd)(X:K.In hp)(G:hp.Ns mainGlobals mg):mg x=some (.ref a):=PySem.W.mg_of X G h.e
theorem aW.Ph{y:Str}(h:aW K x st a fd)(hb:∀(kV doc pm:Value) (an:Option Addr) (cdv ct v:Value),bindArgs (QD x x (aN st) (aL st) (ah st) .none kV doc pm an cdv ct) ⟨[v],[]⟩=pure [(y,v)])(s:Shared)(v:Value):BindsTo s fd ⟨[v],[]⟩ [(y,v)]:=by obtain⟨oc,od,kV,doc,pm,an,cdv,ct,osl,rfl,lk,Nt⟩:=h.F.ex;exact .of_eq (hb kV doc pm an cdv ct v)
theorem hm{j k:Nat}{A:Around}(r:bf k A)(h:j<=k:=by decide):bf j A:=r.mono h
theorem fsc{N P:List Str}{sc:Scope}(h1:sc.kind=.function:=by rfl)(h2:sc.isCoroutine=false:=by rfl)(h3:sc.isGenerator=false:=by rfl)(h4:N.take P.length=P:=by rfl)(h:N.Nodup/\(∀x∈P,sc.names.lookup x=some .local\/sc.names.lookup x=some .cell)/\∀y∈sc.names,y.2≠.free:=by decide +kernel):ay N P sc:=⟨h1,h2,h3,h.1,h4,h.2.1,h.2.2⟩
end Br
namespace Br
open PySem PySem.Spec PyProof.Rows L2
theorem sq{f:FE}:∀{fs:List FE} {ρ ρ':Dm.Env} {xs:List Dm.Val},Dm.eAs (fs++[f]) ρ=some (xs,ρ')->∃ys ρ1 y,Dm.eAs fs ρ=some (ys,ρ1)/\f ρ1=some (y,ρ')/\xs=ys++[y]/\ys.length=fs.length
 |[],ρ,ρ',xs,h=>by
  rw[Ry]at h;unfold Dm.eAs at h;split at h
  ·cases h
  rename_i y ρ1 e1;unfold Dm.eAs at h;cases h;exact⟨[],ρ,y,rfl,e1,rfl,rfl⟩
 |g::fs,ρ,ρ',xs,h=>by
  rw[Rl]at h;unfold Dm.eAs at h;split at h
  ·cases h
  rename_i z ρ1 e1;split at h
  ·cases h
  rename_i zs ρ2 e2;cases h;obtain⟨ys,ρ3,y,h1,h2,h3,h4⟩:=sq e2;refine⟨z::ys,ρ3,y,?_,h2,by rw[h3];rfl,by rw[QT,QT,h4]⟩;unfold Dm.eAs;rw[e1];dsimp only;rw[h1]
theorem bu.GW{Hs H0 H:Hp}{σ:L2.St}{ρ:Dm.Env}{v:V}{x:Dm.Val}(h:eX Hs H0 H σ ρ v x):∀{vs:List V} {xs:List Dm.Val},bu Hs H0 H σ ρ vs xs->bu Hs H0 H σ ρ (vs++[v]) (xs++[x])
 |_,_,.nil=>.cons h .nil
 |_,_,.cons a r=>.cons a (bu.GW h r)
theorem bu.GX{Hs H0 H H0' H':Hp}{σ:L2.St}{ρ ρ':Dm.Env}(t:ESt σ ρ H0 H ρ' H0' H'):∀{vs:List V} {xs:List Dm.Val},bu Hs H0 H σ ρ vs xs->bu Hs H0' H' σ ρ' vs xs
 |_,_,.nil=>.nil
 |_,_,.cons a r=>.cons (a.mono t) (bu.GX t r)
end Br
namespace Dm
noncomputable def j8:List Int->Int->Int
 |[],d=>d
 |n::ns,_=>qx n ns
noncomputable def l6:List Dat->Option RV
 | [.lst xs,.int d]=>(match j4 xs with
  |some ns=>vI (j8 ns d)
  |none=>none)
 |_=>none
end Dm
namespace PySem
open Sem (wp)
def J3(P:Nat->Value->Prop)(bt:Nat->Nat->Bool):Nat->Array Value->Prop
 |0,old=>old=#[]
 |j+1,old=>∃vb,old=#[vb,vb]/\P (argBest bt j) vb
def xr(P:Nat->Value->Prop)(bt:Nat->Nat->Bool)(n:Nat)(d v:Value):Prop:=match n with
 |0=>v=d
 |m+1=>P (argBest bt m) v
theorem E_{prog:Program}{w:World}{A:Around}{E:Value->Shared->Prop}{s:Shared}{id:String}{b:Builtin}{args:List Value}{kw:List (Str×Value)}{Q:Value->Shared->Prop}(hk:builtinKind id=none)(hp:plainId id=true)
  (hb:entryFor table id=some b) (ha:argsOk id ⟨args,kw⟩)
  (hc:wpAny (model prog w) A.in1 (b ⟨args,kw⟩) (fun Nr s'=>match Nr with
   |.done f=>(match (Except.ok f:Result) with | .ok (.ret v)=>Q v s' | .ok _=>False | .error e=>E e s')
   |.again c'=>c'.quiet=true/\codeAny (model prog w) A c' (fun r s'=>match r with | .ok (.ret v)=>Q v s' | .ok _=>False | .error e=>E e s') s') E s) :
  wpAny (model prog w) A (call (.builtin id) args kw) Q E s:=by
 refine wpAny_call (codeAny_call_builtin hp hb ?_);simp only[checkBuiltinCall,hk];cases Pj:Manifest.signature? id with
 |none=>exact wpAny_pure hc
 |some sig=>refine wpAny_of_eq (a:=()) ?_ hc;unfold argsOk at ha;rw[Pj]at ha;exact ha
theorem zf(a d:Value):argsOk "min" ⟨[a],[("default",d)]⟩:=by unfold argsOk;kernel_rfl
section
variable{prog:Program}{w:World}{A:Around}{R:Result->Shared->Prop}{I:Addr}{fp wr:List Addr}{n:Nat}{P:Nat->Value->Prop}{St:Nat->Heap->Prop}
theorem zg(W:Walks prog w A.in1 I fp wr n P St)(bt:Nat->Nat->Bool)(hcmp:CmpOf prog w A.in1 .Lt P bt)(S:Addr)(hSf:S∉fp)(dv:Value) :
  ∀(k j:Nat) (s:Shared) (old:Array Value) (c:Nat),n-j=k->j<=n->St j s.heap->J3 P bt j old->s.heap.get? S=some { cls:=.type "list",dict:=none,data:=.seq old c,slots:=#[] } ->
  (∀v h' tk,xr P bt n dv v->(∀b o,b∉wr->b≠S->s.heap.get? b=some o->h'.get? b=some o)->R (.ok (.ret v)) { s with heap:=h',toks:=tk }) ->
  codeAny (model prog w) A (.builtin "min.loop" ⟨[.ref I,.none,.ref S],[("default",dv)]⟩) R s:=by
 have hSw:S∉wr:=fun h=>hSf (W.sub _ h);have nm:(toString "min" ++ toString ".loop" : String) = "min.loop" := by decide
 intro k
 induction k with
 |zero=>
  intro j s old c hk hj hst hB hS hR;have hin:j=n:=by lia
  subst hin;refine codeAny_builtin F.entry_min_loop (?_:wpAny _ _ _ _ _ _);rw[Around.under_plainId RQ _];refine wpAny_bind (wpAny_seqItems hS rfl ?_);refine wpAny_bind (wpAny_tryCatch (W.done s _ _ hst fun h' tk hk'=>?_));have hS':=hk' S _ hSw hS;cases j with
  |zero=>have ho:old=#[]:=hB;subst ho;exact wpAny_bind (wpAny_rule (wpAny_pure (hR dv h' tk rfl fun b o hbw _ e=>hk' b o hbw e)))
  |succ j=>obtain⟨vb,ho,hP⟩:=hB;subst ho;refine wpAny_bind ?_;refine wpAny_updateSeq hS' rfl (wpAny_bind (wpAny_letGo (wpAny_pure ?_)));exact hR vb _ tk hP fun b o hbw hbS e=>(Q9 _ _ (Ne.symm hbS)).trans (hk' b o hbw e)
 |succ k ih=>
  intro j s old c hk hj hst hB hS hR;have Kd:j<n:=by lia
  refine codeAny_builtin F.entry_min_loop (?_:wpAny _ _ _ _ _ _);rw[Around.under_plainId RQ _];refine wpAny_bind (wpAny_seqItems hS rfl ?_);refine wpAny_bind (wpAny_tryCatch (W.item j s _ _ Kd hst fun v h' tk hP J4 hk'=>?_));have hS':=hk' S _ hSw hS;cases j with
  |zero=>have ho:old=#[]:=hB;subst ho;refine wpAny_bind (wpAny_pure (wpAny_bind ?_));refine wpAny_updateSeq hS' rfl ?_;rw[nm];refine wpAny_pure ⟨plainId_quiet RQ _,ih 1 _ _ _ (by lia) Kd (W.frame _ _ _ J4 fun b hbf o e=>(Q9 _ _ (fun h:S=b=>hSf (by rw[h];exact hbf))).trans e) ⟨v,rfl,hP⟩ (RZ _ hS' rfl) fun v' h'' Bw hP' Bx=>?_⟩;exact hR v' h'' Bw hP' fun b o hbw hbS e=>Bx b o hbw hbS ((Q9 _ _ (Ne.symm hbS)).trans (hk' b o hbw e))
  |succ j=>
   obtain⟨vb,ho,hPb⟩:=hB;subst ho;refine wpAny_bind (wpAny_pure ?_);refine wpAny_bind (wpAny_tryCatch (wpAny_holding (wpAny_bind (hcmp (j+1) (argBest bt j) v vb _ _ _ hP hPb (wpAny_bind (wpAny_holding (wpAny_truthy_bool (wpAny_bind (wpAny_letGo (wpAny_pure ?_))))))))));cases hb:bt (j+1) (argBest bt j) with
   |true=>simp only[if_true];refine wpAny_bind (wpAny_updateSeq hS' rfl (wpAny_bind (wpAny_letGo ?_)));rw[nm];refine wpAny_pure ⟨plainId_quiet RQ _,ih (j+2) _ _ _ (by lia) Kd (W.frame _ _ _ J4 fun b hbf o e=>(Q9 _ _ (fun h:S=b=>hSf (by rw[h];exact hbf))).trans e) ⟨v,rfl,by simp only[argBest,hb,if_true];exact hP⟩ (RZ _ hS' rfl) fun v' h'' Bw hP' Bx=>?_⟩;exact hR v' h'' Bw hP' fun b o hbw hbS e=>Bx b o hbw hbS ((Q9 _ _ (Ne.symm hbS)).trans (hk' b o hbw e))
   |false=>simp only[RI,if_false];refine wpAny_bind (wpAny_letGo ?_);rw[nm];refine wpAny_pure ⟨plainId_quiet RQ _,ih (j+2) _ _ _ (by lia) Kd J4 ⟨vb,rfl,by simp only[argBest,hb,RI,if_false];exact hPb⟩ hS' fun v' h'' Bw hP' Bx=>?_⟩;exact hR v' h'' Bw hP' fun b o hbw hbS e=>Bx b o hbw hbS (hk' b o hbw e)
end
theorem zh{prog:Program}{w:World}{A:Around}{E:Value->Shared->Prop}{s:Shared}{x dv:Value}{Q:Value->Shared->Prop}
  (h:wpAny (model prog w) A.in1 (pyIter x) (fun it s₂=>∃ I fp wr n P St bt,it=.ref I∧Walks prog w A.in1 I fp wr n P St∧St 0 s₂.heap∧(∀ b∈fp,b<s₂.heap.objs.size)∧CmpOf prog w A.in1 .Lt P bt ∧
   ∀v h' tk,xr P bt n dv v->(∀b o,b∉wr->s₂.heap.get? b=some o->h'.get? b=some o)->Q v { s₂ with heap:=h',toks:=tk }) E s) :
  wpAny (model prog w) A (call (.builtin "min") [x] [("default",dv)]) Q E s:=by
 have nm:(toString "min" ++ toString ".loop" : String) = "min.loop" := by decide
 refine E_ F.kind_min F.plain_min F.entry_min (zf _ _) ?_;refine wpAny_bind (wpAny_of_eq (show Builtin.Builtins.bindParams "min" ["key","default"] 0 ⟨[],[("default",dv)]⟩=pure [none,some dv] from rfl) ?_);refine wpAny_bind (wpAny_pure ?_);refine wpAny_bind (wpAny_mono h (fun it s₂ h₂=>?_) fun _ _ e=>e);obtain⟨I,fp,wr,n,P,St,bt,rfl,W,hst,hfp,hcmp,hQ⟩:=h₂;refine wpAny_bind (wpAny_newObj_type ?_);have hSf:s₂.heap.objs.size∉fp:=fun hm=>Q0 _ (hfp _ hm);rw[nm];refine wpAny_pure ⟨plainId_quiet RQ _,zg W bt hcmp s₂.heap.objs.size hSf dv n 0 _ _ _ rfl (QM _) (W.frame _ _ _ hst fun b _ o e=>Qc _ e) rfl (QA _ rfl) fun v h' tk hP hk=>?_⟩;exact hQ v h' tk hP fun b o hbw e=>hk b o hbw (QF (Qh e)) (Qc _ e)
end PySem
namespace Br
open PySem PySem.Spec PyProof.Rows L2
def By(X:Cx)(f:Value)(nm:Str)(r:List V->Hp->VK->Prop):Prop:=∀(qL:List (Addr×Obj)) (s:Shared) (σ:L2.St) (H:Hp) (vs:List V) (v:V) (us:List Value) (u:Value) (Q:VK),Inv X qL σ H s->Vals vs us->RelV v u->r (vs++[v]) H Q->wpAny (model X.prog X.w) X.A (call f us [(nm,u)]) (EP X qL σ Q) X.xe s
theorem Pk{X:Cx}{x nm:Str}{id:String}{e e2:Expr}{es:List Expr}{fs:List FE}{f:FE}{p pos kpos:Pos}{r:List V->Hp->VK->Prop}{g:List Dat->Option RV}(hc:By X (.builtin id) nm r)(cd:CallD r g)(hv:bootBuiltins x=some (.builtin id))(hg:Gl X x)(hm:X.mg x=none)(ha:DA X (e::es) fs)(h2:DE X e2 f)
  (he:backTo pos (starEach (e::es) X.env)=(false,eval e X.env)::backTo pos (starEach es X.env)) (Fd:(backTo pos (starEach (e::es) X.env)).any (·.1)=false) (hn:x ≠ "__name__" := by decide) (Ny:(x == ("__debug__" : Str))=false:=by decide) :
  DE X (.Call (.Name x p) (e::es) [⟨some nm,e2,kpos⟩] pos) (Dm.eB g (fs++[f])):=by
 intro qL s σ H Q I h;have h':=El cd h;obtain⟨H0,ρ,xs,ρ',st,e0,k⟩:=h';obtain⟨ys,ρ1,y,e1,e2',rfl,hl⟩:=sq e0;refine wpAny_Call_Name_kw (cB I hg hm hv ?_ hn Ny);refine PyProof.Rows.callWith_kw (thn (ha pos qL s σ H (fun vs H1=>tD f σ H1 fun v H2=>r (vs++[v]) H2 Q) I ⟨H0,ρ,ys,ρ1,st,e1,fun vs H0' H' t rr=>⟨H0',ρ1,y,ρ',t.st,e2',fun v AG H'' t2 r2=>k (vs++[v]) AG H'' (t.trans t2) (bu.GW (r2.early fun a z=>t.stp.gone z) (bu.GX t2 rr))⟩⟩) fun us s1 ⟨vs,H1,I1,r1,q1⟩=>?_) he Fd rfl rfl;refine kws_cons (thn (h2 qL s1 σ H1 _ I1 q1) fun u s2 ⟨v,H2,I2,r2,q2⟩=>?_);exact kws_nil (hc qL s2 σ H2 vs v us u Q I2 r1 r2 q2)
section
variable{X:Cx}
theorem zj(hc:X.calm=true):By X (.builtin "min") "default" (fun xs H Q=>∃(a:Addr) (ns:List Int) (d:Int),xs=[.ref a,.int d]/\Rd H a (.lst (ns.map V.int))/\Q (.int (Dm.j8 ns d)) H):=by
 intro qL s σ H xs y us u Q I r ry h;obtain⟨a,ns,d,hxs,hq,q⟩:=h;obtain⟨rfl,rfl⟩:xs=[.ref a]/\y=.int d:=by have:=List.append_inj' (s₂:=[V.ref a]) (t₂:=[V.int d]) hxs rfl;exact⟨this.1,by injection this.2⟩
 obtain⟨u1,rfl,rx⟩:=vals1 r;cases rx;obtain⟨t0,rfl⟩:=ry;obtain⟨z,its,n,rv,e⟩:=hq.ok I.hok;have hl:s.heap.IsList a its.toArray:=⟨_,e,rfl,_,rfl⟩
 have zo:=rv.length;rw[Dp]at zo;have hax:a≠s.heap.objs.size:=QF (Qh e);have e1:its.toArray.size=ns.length:=by rw[Qj,<- zo]
 refine PySem.zh (wpAny_pyIter_list hl ⟨s.heap.objs.size,_,_,_,_,_,_,rfl,Walks.list (A:=X.A.in1) (I.ok.hd hc) s.heap.objs.size a hax its.toArray,⟨⟨_,QA _ rfl,rfl,rfl⟩,hl.push _⟩,?_,CmpOf.ints_lt (fun i=>ns.getD i 0) (qu rv),fun v h' tk hp hk=>?_⟩)
 ·intro b hb;simp only[Qk,Rk,or_false]at hb;rcases hb with rfl | rfl
  ·show s.heap.objs.size<_;exact RN ..▸SX _
  ·show b<_;exact RN ..▸SR (Qh e)
 ·have out:∃t',v=.int (Dm.j8 ns d) t':=by
   cases ns with
   |nil=>
    have e0:its.toArray.size=0:=e1;have hv:v=.int d t0:=by rw[e0]at hp;exact hp
    exact⟨t0,hv⟩
   |cons n0 nr=>have e2:its.toArray.size=nr.length+1:=e1;rw[e2]at hp;obtain⟨t',hv⟩:=qu rv _ _ hp;refine⟨t',hv.trans ?_⟩;rw[sj n0 nr _ (Qf _),List.take_length];rfl
  obtain⟨t',rfl⟩:=out;refine⟨.int (Dm.j8 ns d),H,I.kept (t':=tk) fun b o eb=>hk b o ?_ (Qc _ eb),⟨t',rfl⟩,q⟩;intro hm;have:b=s.heap.objs.size:=by simpa using hm
  exact absurd (Qh eb) (by rw[this];exact Q0 _)
theorem Fb:CallD (fun xs H Q=>∃(a:Addr) (ns:List Int) (d:Int),xs=[.ref a,.int d]/\Rd H a (.lst (ns.map V.int))/\Q (.int (Dm.j8 ns d)) H) Dm.l6:=by
 intro H0 H vs ds z Q s rs e k;unfold Dm.l6 at e;split at e
 ·split at e
  ·rename_i ns hb;cases e;cases rs with
   |cons r rr=>
    cases rr with
    |cons r2 rr2=>
    cases rr2;obtain⟨a,us,rfl,qa,ra⟩:=bq s r;have:=gu ra hb;subst this;have:=az r2;subst this;exact⟨a,ns,_,rfl,qa,k _ H0 H (aK.refl s) (.int _)⟩
  ·cases e
 ·cases e
theorem J5{e e2:Expr}{fs:List FE}{f:FE}{p pos kpos:Pos}(hc:X.calm=true)(hg:Gl X "min")(hm:X.mg "min" = none)(ha:DA X [e] fs)(h2:DE X e2 f)(he:backTo pos (starEach [e] X.env)=(false,eval e X.env)::backTo pos (starEach [] X.env):=by rfl)
  (Fd:(backTo pos (starEach [e] X.env)).any (·.1)=false:=by rfl):DE X (.Call (.Name "min" p) [e] [⟨some "default",e2,kpos⟩] pos) (Dm.eB Dm.l6 (fs++[f])):=Pk (zj hc) Fb (by rfl) hg hm ha h2 he Fd
end
end Br
namespace Dm
noncomputable def qB(bd:FB)(hx k vx:Nat)(t:FT)(ky:FE):List Dat->Env->List Int->List (List Dat)->Option (Env×List Int×List (List Dat))
 |[],ρ,ks,rows=>some (ρ,ks,rows)
 |d::q,ρ,ks,rows=>match bd d ρ with
  |none=>none
  | some ρ1=>if ks.length≤SZ then (match cA (bN k) t (eV k) (ks.map Dat.int) (ρ1++[.un]) [] with
   | some (ys,ρ2)=>(match ky ((ρ2.take ρ1.length).set hx (.ow (.lst ys))) with
    | some (.val (.int g),ρ3)=>(match ρ3[vx]? with
     | some (.sh (.int v))=>(match qy ks rows g (.int v) with
      |some (ks1,sr)=>qB bd hx k vx t ky q ρ3 ks1 sr
      |none=>none)
     |_=>none)
    |_=>none)
   |none=>none) else none
noncomputable def zk(j:Nat)(it:FI)(bd:FB)(hx k vx:Nat)(t:FT)(ky:FE)(g:FS):FS:=fun ρ=>if j=0\/hx=0\/j=hx then none else match it (ρ.set j .un) with
 |none=>none
 | some (ds,ρ1)=>(match qB bd hx k vx t ky ds ρ1 [] [] with
  |some (ρ2,ks,rows)=>g (ρ2.set j (.ow (.dct ks (rows.map .lst))))
  |none=>none)
end Dm
namespace Br
open PySem PySem.Spec PyProof.Rows L2
section
variable{kvs:List (Key×V)}{P:Program}{w:World}{X:Cx}{tg:Expr}
theorem Fc{k:Key}{u:Value}(h:(aM P w).is k u=true):RelV (kV k) u:=by
 rcases aY h with⟨i,t,rfl,rfl⟩ | ⟨x,t,rfl,rfl⟩
 ·exact⟨t,rfl⟩
 ·exact⟨t,rfl⟩
theorem Inv.Ng{qL:List (Addr×Obj)}{σ:L2.St}{H:Hp}{s:Shared}{a:Addr}{o:Obj}(I:Inv X qL σ H s)(h:H a=some (.frz o (.dK kvs)))(n0:∀o u,X.H₀ a≠some (.frz o u)):Inv X qL σ (upd H a (.dK kvs)) s:=by
 have ne:∀{b:Addr},H b=none->b≠a:=fun {b} hb z=>by rw[z,h]at hb;cases hb
 refine⟨I.ok,I.os,I.bare,⟨I.base.keep,I.base.slot,fun b o' h1 h2 h3=>?_,I.base.there,fun b ys h1=>?_,fun b o' u h1=>?_,fun b x1 x2 x3 h1=>?_⟩,I.loc,I.cell,?_,fun x c hx=>?_,fun p hp=>?_,fun b u e=>?_,I.len⟩
 ·have q:=I.base.free b o' h1 h2 h3;rw[ai (ne q)];exact q
 ·have q:=I.base.tups b ys h1;rw[ai fun z=>by rw[z,h]at q;cases q];exact q
 ·have q:=I.base.kB b o' u h1;rw[ai fun z=>by rw[z]at h1;exact n0 _ _ h1];exact q
 ·have q:=I.base.oA b _ _ _ h1;rw[ai fun z=>by rw[z,h]at q;cases q];exact q
 ·rw[ai (ne I.free)];exact I.free
 ·rw[ai (ne (I.dw x c hx))];exact I.dw x c hx
 ·obtain⟨q1,q2,q3⟩:=I.pin p hp;exact⟨q1,by rw[ai (ne q2)];exact q2,q3⟩
 ·by_cases z:b=a
  ·subst z;rw[ao]at e;cases e;obtain⟨_,q⟩:=(show aT X.prog X.w H s.heap b (.frz o (.dK kvs)) from I.hok b _ h)
   exact q
  ·rw[ai z]at e;exact(I.hok b u e).stay (fun c v _ q=>q) (fun c q=>by rw[ai fun z=>by rw[z,h]at q;cases q];exact q) (fun c _ _ q=>by rw[ai fun z=>by rw[z,h]at q;cases q];exact q) fun c ys q=>by rw[ai fun z=>by rw[z,h]at q;cases q];exact q
noncomputable def J6(D:Addr)(o:Obj)(kvs:List (Key×V)):It:=
 ⟨fun i H=>i<kvs.length/\H D=some (.frz o (.dK kvs)),fun i H x H'=>H'=H/\(kvs.map fun p=>kV p.1)[i]?=some x,fun i H=>kvs.length<=i/\H D=some (.frz o (.dK kvs))⟩
theorem J7{vs:List (Key×Value)}(r:KV kvs vs):∀{i:Nat},i<kvs.length->∃k u,(kvs.map fun p=>kV p.1)[i]?=some (kV k)/\vs[i]?=some (k,u):=by
 induction r with
 |nil=>intro i h;cases h
 |@cons p q ps qs hq t ih=>
  intro i h;cases i with
  |zero=>exact⟨q.1,q.2,by rw[<- hq.1];rfl,rfl⟩
  |succ i=>obtain⟨k,u,h1,h2⟩:=ih (i:=i) (by simpa using h);exact⟨k,u,by simpa using h1,by simpa using h2⟩
theorem zl{K:Ds}(D it:Addr)(o:Obj)(kvs:List (Key×V)){es ep}(hep:o.data=.dict es ep):Turn P w K tg (J6 D o kvs) [it] it (fun i h=>h.IsKeyIter it D i kvs.length ep) where
 mem:=by simp
 obj:=fun i h st b hb=>by
  have e:b=it:=by simpa using hb
  subst e;obtain⟨o,e,c,d⟩:=st;exact⟨o,e,fun v z=>by rw[d]at z;cases z⟩
 keep:=fun i h h' st k=>st.at fun o e=>k it (by simp) o e
 item:=by intro X hP hw hK hc i qL s σ H E I hf st hg;subst hP hw hK;obtain⟨hi,hD⟩:=hg;obtain⟨vs,rel,hm⟩:=qA hep I hD;obtain⟨f0,f1,f2,f3,f4,f5⟩:=hf it (by simp);obtain⟨k,u,h1,h2⟩:=J7 rel hi;have hl:kvs.length=vs.length:=rel.length;rw[hl]at st;refine wpAny_pyNext_dict_item st hm h2 fun key h' hk st' sb=>?_;have I1:Inv X qL σ H { s with heap:=h' }:=I.turned (t':=s.toks) (fun b o hb e=>(sb.2 b hb).trans e) f0 f1 f3 f4 f5;obtain⟨o,e,c,d⟩:=id st';rw[<- hl]at st';exact⟨key,rfl,kY (s:={ s with heap:=h' }) e c d (by decide) ⟨kV k,H,I1,Fc hk,⟨rfl,h1⟩,st',fun b hb=>(hf b hb).1⟩⟩
 done:=by intro X hP hw hK hc i qL s σ H E I hf st hg;subst hP hw hK;obtain⟨hi,hD⟩:=hg;obtain⟨vs,rel,hm⟩:=qA hep I hD;obtain⟨f0,f1,f2,f3,f4,f5⟩:=hf it (by simp);have hl:kvs.length=vs.length:=rel.length;rw[hl]at st hi;exact wpAny_pyNext_dict_end (I.ok.hd hc) st hm (QZ hi) fun h' eb=>⟨rfl,I.turned (t':=s.toks) (fun b o hb e=>eb b o hb e) f0 f1 f3 f4 f5⟩
 self:=fun _ _ _ _ _ st h=>wpAny_pyIter_keyiter st h
def iKy(j:Nat):TI:=fun σ H R=>∃D kvs,σ[j]?=some (some (.ref D))/\H D=some (.dK kvs)/\∀o,R (J6 D o kvs) (upd H D (.frz o (.dK kvs)))
theorem Fe{x:Str}{px:Pos}{j:Nat}(hi:X.N[j]?=some x)(hv:Vis X.env.scope x)(hd:(x == ("__debug__" : Str))=false)(Nt:(x == ("__classdict__" : Str))=false):PI X tg (.Name x px) (iKy j):=by
 intro qL s σ H R I h;obtain⟨D,kvs,hσ,hD,k⟩:=h;refine thn (bz hi hv hd Nt qL s σ H (fun v H'=>v=.ref D/\H'=H) I ⟨_,hσ,rfl,rfl⟩) fun v s1 ⟨y,H1,I1,r1,q1,q2⟩=>?_;subst q1 q2;obtain rfl:v=QW D:=r1;obtain⟨t1,t2,hs⟩:=ly I1 (.inl ⟨_,.inl hD⟩);obtain⟨zz,hsm,vs,rel,dd⟩:=k_ I1.hok hD;obtain⟨ep,o,es,ho,hc,hdt,r⟩:=dd.dictAt;refine wpAny_pyIter_dict (knd:=aM X.prog X.w) (kvs:=vs) (ep:=ep) hs ⟨o,es,ho,hc,hdt,r⟩ ?_;have hl:kvs.length=vs.length:=rel.length;have I3:=I1.kept (t':=s1.toks) (h':=s1.heap.push { cls:=.type "dict_keyiterator",data:=.fields #[.ref D,.int 0 0,.int vs.length 0,.int ep 0] }) fun b o e=>Qc _ e;refine⟨_,[s1.heap.objs.size],_,_,_,rfl,Inv.freeze I3 hD (Qc _ ho),zl D _ o kvs hdt,?_,fun b hb=>?_,k o⟩
 ·exact⟨_,QA _ rfl,rfl,by rw[hl];rfl⟩
 ·have e:b=s1.heap.objs.size:=by simpa using hb
  subst e;have hn:=I1.hok.fresh (Qf s1.heap.objs.size);exact I1.p7 (Qf _) (by rw[ai fun z=>by rw[z,hD]at hn;cases hn];exact hn)
def GY(t:TS):TS:=fun E σ H=>∃L kvs,H L=some (.dK kvs)/\t { nx:=fun σ' H'=>∃o,H' L=some (.frz o (.dK kvs))/\E.nx σ' (upd H' L (.dK kvs)),rt:=fun _ _=>False,bk:=fun _ _=>False,ct:=fun _ _=>False } σ H
theorem Ff{st:Stmt}{t:TS}(h:PS X st t):PS X st (GY t):=by
 intro qL s σ H E I q;obtain⟨L,kvs,hL,q⟩:=q;refine wpAny_mono (h qL s σ H _ I q) (fun f s1 z=>?_) fun _ _ z=>z;cases f with
 |next=>obtain⟨σ',H',J,o,h1,h3⟩:=z;exact⟨σ',_,Inv.Ng J h1 (fun o u e=>by have:=I.base.kB L o u e;rw[hL]at this;cases this),h3⟩
 |ret v=>obtain⟨u,σ',H',J,r,k⟩:=z;exact k.elim
 |brk=>obtain⟨σ',H',J,k⟩:=z;exact k.elim
 |cont=>obtain⟨σ',H',J,k⟩:=z;exact k.elim
end
section
variable{D:Ends}{j hx vx k:Nat}{σs:L2.St}{ρs:Dm.Env}{H0s Hs:Hp}{σ:L2.St}{ρ ρ1 ρ2:Dm.Env}{H0 H:Hp}{ks:List Int}{rows:List (List Dat)}
section
variable{ys:List Dat}{is:List Nat}{bd:Dm.FB}{g:TG}{t:FT}{f:FE}
theorem ESt.Pn{ρ':Dm.Env}{H0' H':Hp}{L:Addr}{o:Obj}{kvs:List (Key×V)}(t:ESt σ ρ H0 (upd H L (.frz o (.dK kvs))) ρ' H0' H')(hL:H L=some (.dK kvs))(h0:H0' L=none)(no:¬ak σ ρ L):ESt σ ρ H0 H ρ' H0' (upd H' L (.dK kvs)):=by
 refine⟨t.st.aside h0 fun z=>no (t.own L z),⟨t.stp.s0,fun a u e n=>?_,fun a u e=>?_,fun a u e=>?_⟩,t.own,t.dfn⟩
 ·by_cases z:a=L
  ·subst z;rw[ao];rw[hL]at e;exact e
  ·rw[ai z];exact t.stp.s1 a u (by rw[ai z];exact e) n
 ·by_cases z:a=L
  ·subst z;rw[h0]at e;cases e
  ·have:=t.stp.s2 a u e;rw[ai z]at this;exact this
 ·by_cases z:a=L
  ·subst z;exact⟨_,ao⟩
  ·obtain⟨o',e'⟩:=t.stp.s3 a u (by rw[ai z];exact e);exact⟨o',by rw[ai z];exact e'⟩
theorem DGs.store{a:Addr}(n:DGs j σs ρs H0s Hs σ ρ H0 H ks rows)(hj:hx≠j)(h0:hx≠0)(no:¬ak σ ρ a)(n0:H0 a=none)(w:Own H0 H a (.lst ys))(hs:Hs a=none)(na:∀L ps,σ[j]?=some (some (.ref L))->H L=some (.dK (bK ks ps))->aF H0 H ps rows->ks.length=ps.length->a≠L/\a∉ps) :
  DGs j σs ρs H0s Hs (σ.set hx (some (.ref a))) (ρ.set hx (.ow (.lst ys))) H0 H ks rows:=by
 obtain⟨L,ps,h1,h2,h3,h4,h5,h6,h7,h8,h9⟩:=n.ex;obtain⟨nL,nP⟩:=na L ps h1 h5 h8 h9.1;have ow:∀b,ak (σ.set hx (some (.ref a))) (ρ.set hx (.ow (.lst ys))) b->b=a\/ak σ ρ b:=fun b z=>iW z;refine⟨n.st.u7 no n0 w,n.stp,fun b z=>?_,(Dk h0).trans n.fx,L,ps,by rw[Dk hj];exact h1,h2,h3,fun z=>?_,h5,h6,fun p hp=>⟨(h7 p hp).1,(h7 p hp).2.1,fun z=>?_⟩,h8,h9⟩
 ·rcases ow b z with rfl | z
  ·exact .inr hs
  ·exact n.own b z
 ·rcases ow L z with e | z
  ·exact nL e.symm
  ·exact h4 z
 ·rcases ow p z with e | z
  ·exact nP (e▸hp)
  ·exact(h7 p hp).2.2 z
theorem J8(hb:BD [k] g (Dm.bN k))(hl:σ.length<=k)(n:DGs j σs ρs H0s Hs σ ρ1 H0 H ks rows)(hj:hx≠j)(h0:hx≠0)(hsz:ks.length<=Dm.SZ)(e2:Dm.cA (Dm.bN k) t (Dm.eV k) (ks.map Dat.int) (ρ1++[.un]) []=some (ys,ρ2))
  (c:∀σ' H0' H',DGs j σs ρs H0s Hs σ' ((ρ2.take ρ1.length).set hx (.ow (.lst ys))) H0' H' ks rows->aq H0 H0'->D.nx σ' H'):GY (kD (tLC (iKy j) 1 g (tDT t) (tD (Dm.eV k))) (b7 hx)) D σ H:=by
 obtain⟨L,ps,h1,h2,h3,h4,h5,h6,h7,h8,h9,h10⟩:=n.ex;refine⟨L,bK ks ps,h5,L,bK ks ps,h1,h5,fun o=>?_⟩;intro D' hD';have hf:(upd H L (.frz o (.dK (bK ks ps)))) L=some (.frz o (.dK (bK ks ps))):=ao;obtain⟨kk,kv⟩:=dR h9;have lk:(bK ks ps).length=ks.length:=by rw[<- Dp (f:=(·.1)),kk,Dp]
 refine lE (own:=1) (J:=J6 L o (bK ks ps)) (Q:=fun v H1=>∃o,H1 L=some (.frz o (.dK (bK ks ps)))/\D.nx (σ.set hx (some v)) (upd H1 L (.dK (bK ks ps)))) (pa:=some (L,.frz o (.dK (bK ks ps)))) hb (fun i hi=>by rw[Qo.mp hi];exact hl) (n.st.aside h3 h4) (fun q e=>by cases e;exact⟨hf,h3,h4⟩) (fun Ha Hc s0 s1 hq=>?_) (by rw[Dp];exact hsz) e2 (fun v H0' H' t2 r2 hpa=>?_) D' hD'
 ·have hL:Hc L=some (.frz o (.dK (bK ks ps))):=hq _ rfl;refine⟨fun i hi=>⟨by rw[lk];rw[Dp]at hi;exact hi,hL⟩,fun i d hd=>⟨⟨by rw[lk];have:=(PU.mp hd).1;rw[Dp]at this;exact this,hL⟩,fun x H2 hy=>?_⟩⟩;obtain⟨rfl,hy⟩:=hy;refine⟨Ha,aK.refl s1,?_⟩;have e3:((bK ks ps).map fun p=>kV p.1)=ks.map V.int:=by
   have:=congrArg (List.map kV) kk;rw[QX,QX]at this;exact this
  rw[e3,Qm]at hy;rw[Qm]at hd;cases q:ks[i]? with
  |none=>rw[q]at hd;cases hd
  |some m=>rw[q]at hd hy;cases hd;cases hy;exact .int m
 ·obtain⟨z1,z2⟩:=hpa _ rfl;obtain⟨a,rfl,na,no,n0,w⟩:=r2;have nL:a≠L:=fun z=>by rw[z,hf]at na;cases na
  have nHa:H a=none:=by rw[ai nL]at na;exact na
  have n1:=n.est (ESt.Pn t2 h5 z2 h4);refine⟨o,z1,?_⟩;obtain⟨xs,w1,w2⟩:=w;refine c (σ.set hx (some (.ref a))) H0' _ (n1.store hj h0 no n0 ⟨xs,by rw[ai nL];exact w1,w2⟩ (n.stp.gone nHa) fun L2 ps2 q1 q2 q3 q4=>?_) t2.stp.s0;rw[h1]at q1;cases q1;refine⟨nL,fun hp=>?_⟩;rw[ao]at q2;have e4:bK ks ps=bK ks ps2:=by injection q2 with q2;injection q2
  have e5:ps.map V.ref=ps2.map V.ref:=by rw[<- kv,<- (dR q4).2,e4]
  have hp':V.ref a∈ps.map V.ref:=by rw[e5];exact List.mem_map_of_mem hp
  obtain⟨b,hb',eb⟩:=Qp.mp hp';cases eb;obtain⟨o',q5⟩:=h8.some a hb';rw[nHa]at q5;cases q5
def tDH(j vx:Nat)(f:FE):TS:=fun D σ H=>∃σs ρs H0s Hs H0 ρ ρ' ks rows g v ks' rows',DGs j σs ρs H0s Hs σ ρ H0 H ks rows/\f ρ=some (.val (.int g),ρ')/\ρ'[vx]?=some (.sh (.int v))/\Dm.qy ks rows g (.int v)=some (ks',rows') /\
 ∀H0' H',DGs j σs ρs H0s Hs σ ρ' H0' H' ks' rows'->aq H0 H0'->D.nx σ H'
theorem J9{K:Ds}(h:tDH j vx f D σ H):e8 (tBM K "list" cJ (Bu (b5 j) (tD f) (oF dJ)) (cz (b5 vx) dJ)) D σ H:=by
 obtain⟨σs,ρs,H0s,Hs,H0,ρ,ρ',ks,rows,g,v,ks',rows',n,hf,hv,e,k⟩:=h;obtain⟨L,ps0,h1,_,_,_,h5',_⟩:=n.ex;refine⟨_,h1,L,rfl,.inl ⟨_,.inl h5'⟩,H0,ρ,_,ρ',n.st,hf,fun vk H0' H' t r=>?_⟩;cases r;have n:=n.est t;obtain⟨L2,ps,h1',h2,h3,h4,h5,h6,h7,h8,h9,h10⟩:=n.ex;obtain rfl:L2=L:=by rw[h1]at h1';cases h1';rfl
 obtain⟨n1,n2⟩:=Qv.mp h6;obtain⟨gv,sv,rv⟩:=n.st.sh vx _ hv;cases rv;refine⟨QM _,fun p0 hp0=>?_⟩;have nL:L2≠p0:=fun z=>by rw[z,hp0]at h5;cases h5
 have nP:∀p∈ps,p≠p0:=fun p hp z=>by obtain⟨o,q⟩:=h8.some p hp;rw[z,hp0]at q;cases q
 have lk:(bK ks ps).length=ks.length:=by rw[<- Dp (f:=(·.1)),(dR h9).1,Dp]
 have st0:au H0' (upd H' p0 (.lst [])) σ ρ':=n.st.aside (n.st.same.free hp0) (n.st.aR hp0);have sp0:Stp (ak σs ρs) H0s Hs H0' (upd H' p0 (.lst [])):=n.stp.aside (n.stp.gone hp0);have ro0:aF H0' (upd H' p0 (.lst [])) ps rows:=h8.mono (aq.refl _) fun p hp=>ai (nP p hp);unfold Dm.qy at e;refine⟨bK ks ps,Qw g,by rw[ai nL];exact h5,rfl,by rw[lk];exact SG h10 (by decide),fun w hw=>?_,fun hw=>?_⟩
 ·rcases qz g h9 with⟨m,p,f1,f2,f3⟩ | ⟨f1,f2,f3⟩
  ·rw[hw]at f3;cases f3;rw[f1]at e;dsimp only at e;split at e
   case h_2=>cases e
   rename_i row Po;split at e
   case isFalse=>cases e
   rename_i hz;cases e;obtain⟨q,xs,hq,hqx,hqr⟩:=ro0.get Po;rw[f2]at hq;cases hq;have hqm:p∈ps:=QL f2;refine⟨.inl ⟨rfl,xs,.inl (.inl hqx)⟩,_,sv,p,xs,_,rfl,rfl,hqx,by rw[hqr.length];exact Qy hz (by decide),?_⟩;obtain⟨z1,z2,z3⟩:=h7 p hqm;have nLq:L2≠p:=fun z=>n1 (z▸hqm);refine k _ _ ⟨st0.aside z2 z3,sp0.aside z1,n.own,n.fx,L2,ps,h1,h2,h3,h4,by rw[ai nLq,ai nL];exact h5,h6,h7,aF.set (hqr.append (.cons (.int v) .nil)) ro0 n2 f2,h9,h10⟩ t.stp.s0
  ·rw[hw]at f2;cases f2
 ·rcases qz g h9 with⟨m,p,f1,f2,f3⟩ | ⟨f1,f2,f3⟩
  ·rw[hw]at f3;cases f3
  ·rw[f1]at e;dsimp only at e;split at e
   case isFalse=>cases e
   rename_i hz;cases e;rw[f3];have hg0:(upd (upd H' p0 (.lst [])) L2 (.dK (bK ks ps++[(Qw g,V.ref p0)]))) p0=some (.lst []):=by rw[ai (Ne.symm nL)];exact ao
   refine⟨.inl ⟨rfl,[],.inl (.inl hg0)⟩,_,sv,p0,[],_,rfl,rfl,hg0,by decide,?_⟩;refine k _ _ ?_ t.stp.s0;refine⟨(st0.aside h3 h4).aside (n.st.same.free hp0) (n.st.aR hp0),(sp0.aside h2).aside (n.stp.gone hp0),n.own,n.fx,L2,ps++[p0],h1,h2,h3,h4,?_,?_,fun p hp=>?_,?_,by rw[Qn,Qn,h9];rfl,by rw[Qn];exact hz⟩
   ·rw[ai nL,ao,pL g p0 h9]
   ·rw[Qv];refine⟨fun z=>?_,Rh.mpr ⟨n2,by simp,fun a ha b hb=>?_⟩⟩
    ·rcases Qu.mp z with z | z
     ·exact n1 z
     ·exact nL (Qo.mp z)
    ·rw[Qo.mp hb];exact nP a ha
   ·rcases Qu.mp hp with hp | hp
    ·exact h7 p hp
    ·rw[Qo.mp hp];exact⟨n.stp.gone hp0,n.st.same.free hp0,n.st.aR hp0⟩
   ·refine aF.snoc (xs:=[.int v]) ao (.cons (.int v) .nil) (ro0.mono (aq.refl _) fun p hp=>?_);rw[ai (nP p hp),ai fun z:p=L2=>n1 (z▸hp)]
def tDL(j hx k:Nat)(t:FT):TS:=fun D σ H=>∃σs ρs H0s Hs H0 ρ1 ks rows ys ρ2,DGs j σs ρs H0s Hs σ ρ1 H0 H ks rows/\ks.length<=Dm.SZ/\Dm.cA (Dm.bN k) t (Dm.eV k) (ks.map Dat.int) (ρ1++[.un]) []=some (ys,ρ2) /\
 ∀σ' H0' H',DGs j σs ρs H0s Hs σ' ((ρ2.take ρ1.length).set hx (.ow (.lst ys))) H0' H' ks rows->aq H0 H0'->D.nx σ' H'
theorem Nh{fi:Dm.FI}{t:FT}{f:FE}{ρ':Dm.Env}{ys:List Dat}{ks':List Int}{rows':List (List Dat)}(hb:BD is g bd)(hj:j∉is)(n:DGs j σs ρs H0s Hs σ ρ H0 H ks rows)
  (e1:fi ρ=some (ys,ρ1)) (e:Dm.qB bd hx k vx t f ys ρ1 ks rows=some (ρ',ks',rows')) (c:∀σ' H0' H',DGs j σs ρs H0s Hs σ' ρ' H0' H' ks' rows'->D.nx σ' H'):z_ (tDI fi) g (jo (tDL j hx k t) (tDH j vx f)) D σ H:=by
 refine⟨H0,ρ,ys,ρ1,n.st,e1,fun J H00 Hb t1 jw=>?_⟩;refine ⟨fun i m σ' H=>∃ H0 ρ ks rows,DGs j σs ρs H0s Hs σ' ρ H0 H ks rows∧aq H00 H0∧m=ys.length-i∧i≤ys.length∧Dm.qB bd hx k vx t f (ys.drop i) ρ ks rows=some (ρ',ks',rows'),
  ⟨ys.length,H00,ρ1,ks,rows,n.est t1,aq.refl _,by simp,QM _,by simpa using e⟩,?_⟩
 rintro i m σ1 H ⟨H0,ρ,ks,rows,n,s00,rfl,hi,e⟩;obtain⟨js,jg⟩:=jw H0 H s00 n.st.same;by_cases Kd:i<ys.length
 ·have hd:ys[i]?=some ys[i]:=by simp[Kd]
  obtain⟨g1,g2⟩:=jg i ys[i] hd;rw[Rw Kd]at e;unfold Dm.qB at e;refine .inr ⟨g1,fun σ' H'=>∃H0 ρ ks rows,DGs j σs ρs H0s Hs σ' ρ H0 H' ks rows/\aq H00 H0/\Dm.qB bd hx k vx t f (ys.drop (i+1)) ρ ks rows=some (ρ',ks',rows'),?_,fun x H' y=>?_⟩
  ·rintro σ' H' ⟨H0',ρ2,k2,r2,h1,h2,h3⟩;exact⟨ys.length-(i+1),by lia,H0',ρ2,k2,r2,h1,h2,rfl,Kd,h3⟩
  ·obtain⟨H0',gr,rx⟩:=g2 x H' y;split at e
   ·cases e
   rename_i ρ2 e2;have t2:=ESt.grow n.st gr;have n2:=n.est t2;refine hb H0' H' σ1 ρ ρ2 x ys[i] _ t2.st rx e2 fun σ2 st2 o2 k2 _ f2=>?_;have n3:=n2.bind st2 o2 (k2 j hj) f2;split at e
   case isFalse=>cases e
   rename_i hsz;split at e
   case h_2=>cases e
   rename_i zs ρ3 e3;split at e
   case h_2=>cases e
   rename_i gg ρ4 e4;split at e
   case h_2=>cases e
   rename_i vv e5;split at e
   case h_2=>cases e
   rename_i ks1 sr e6;refine⟨σs,ρs,H0s,Hs,H0',ρ2,ks,rows,zs,ρ3,n3,hsz,e3,fun σ5 H05 H5 n5 s5=>?_⟩;refine⟨σs,ρs,H0s,Hs,H05,_,ρ4,ks,rows,gg,vv,ks1,sr,n5,e4,e5,e6,fun H06 H6 n6 s6=>⟨H06,ρ4,ks1,sr,n6,(s00.trans gr.s0).trans (s5.trans s6),e⟩⟩
 ·have e':i=ys.length:=by lia
  subst e';rw[R5]at e;cases e;exact .inl ⟨js _ (Qf _),c σ1 H0 H n⟩
theorem Ni{fi:Dm.FI}{gs:FS}(hb:BD is g bd)(hj:j∉is)(hjl:j<σ.length)(h:tDS (Dm.zk j fi bd hx k vx t f gs) D σ H):jo (kD uU (b7 j)) (jo (z_ (tDI fi) g (jo (tDL j hx k t) (tDH j vx f))) (tDS gs)) D σ H:=by
 obtain⟨H0,ρ,o,st,e,c⟩:=h;unfold Dm.zk at e;split at e
 ·cases e
 rename_i hj0;split at e
 ·cases e
 rename_i ds ρ1 e1;split at e
 case h_2=>cases e
 rename_i ρ2 ks rows e2;intro L hL;have st1:au H0 (upd H L (.dK [])) σ ρ:=st.aside (st.same.free hL) (st.aR hL);obtain⟨s1,s2⟩:=st1.JY j (some (.ref L));have n:DGs j σ ρ H0 H (σ.set j (some (.ref L))) (ρ.set j .un) H0 (upd H L (.dK [])) [] []:=
  ⟨s1,(Stp.refl _ _ _).aside hL,fun a z=>.inl (s2 a z),Dk fun z=>hj0 (.inl z),L,[],Qz hjl,hL,st.same.free hL,fun z=>st.aR hL (s2 L z),ao,by simp,by simp,trivial,rfl,QM _⟩
 refine Nh hb hj n e1 e2 fun σ' H0' H' n'=>?_;obtain⟨H5,t5⟩:=n'.done;exact⟨H5,_,o,t5.st,e,c.pre t5⟩
end
end
section
variable{X:Cx}{Fi:List Stmt}
theorem Nj(j hx k vx:Nat)(nm:List Str){x y v vn:Str}{px px2 px3 py pv pv1 dp sp sp2 fp lp lY ap2 cp2 ap cp ep:Pos}{tg it ke Nv:Expr}{Kr:List Expr}{scope:Scope}{fi:Dm.FI}{is:List Nat}{bd:Dm.FB}{t:FT}{f:FE}{gs:FS}(hN:X.N.Nodup)(hp:PassesOwn (model X.prog X.w) X.A X.env X.xe)(hc:X.calm=true)(hi:DI X tg it fi)(hg:TG' X tg is bd)
  (hgc:TGc X nm scope [v] (.Name v pv1) [k] (Dm.bN k)) (ht:∀cl C s H fp,DTs (aU X nm scope [v] cl C s H fp) Kr t) (he:∀cl C s H fp,DE (aU X nm scope [v] cl C s H fp) Nv (Dm.eV k)) (hke:DE X ke f) (hre:DSs X Fi gs)
  (hxj:hx≠j:=by decide) (hx0:hx≠0:=by decide) (hk:scope.kind=.function:=by rfl) (hS:jY X.env.scope X.N nm scope=true:=by rfl) (hl:([k].all fun i=>decide (X.N.length<=i))=true:=by rfl)
  (hj:decide (j∈is)=false:=by rfl) (hjn:X.N[j]?=some x:=by rfl) (hyn:X.N[hx]?=some y:=by rfl) (hvn:X.N[vx]?=some vn:=by rfl) (hx':Loc X.env.scope x:=by trivial) (hy:Loc X.env.scope y:=by trivial)
  (hv:Vis X.env.scope x:=by trivial) (hvv:Vis X.env.scope vn:=by trivial)
  (hd:(x == ("__debug__" : Str))=false:=by decide) (hdv:(vn == ("__debug__" : Str))=false:=by decide)
  (Nt:(x == ("__classdict__" : Str))=false:=by decide) (Pp:(vn == ("__classdict__" : Str))=false:=by decide)
  (hsx:swapsWith (.Dict [] [] dp) (some (.Name x px)) sp.line X.env=pure false:=by rfl) (hf:X.fn x=true\/X.env.scope.names.lookup x=some .local:=by trivial) (hfy:X.fn y=true\/X.env.scope.names.lookup y=some .local:=by trivial)
  (hsw2:swapsWith (.ListComp Nv [⟨.Name v pv1,.Name x px3,Kr,0⟩] scope lY) (some (.Name y py)) sp2.line X.env=pure true:=by rfl) (hs2:∀z,foldedSetIterable (.Name x px3) X.env z=pure z:=by intro _;rfl)
  (m:M2 X (.Name x px2) "setdefault" ap2 ke (.List [] lp) cp2:=by exact⟨rfl,rfl,rfl,rfl⟩)
  (Kc:attributeBase (.Call (.Attribute (.Name x px2) "setdefault" ap2) [ke,.List [] lp] [] cp2) "append" X.env (eval (.Call (.Attribute (.Name x px2) "setdefault" ap2) [ke,.List [] lp] [] cp2) X.env)=eval (.Call (.Attribute (.Name x px2) "setdefault" ap2) [ke,.List [] lp] [] cp2) X.env:=by rfl)
  (hfew:((backTo cp (starEach [.Name vn pv] X.env)).all (fun x=>!x.1)&&(backToKw cp (keywordEach [] X.env)).all (fun x=>x.1.isSome)
   && decide ([Expr.Name vn pv].length+([]:List Keyword).length+(if ([]:List Keyword).isEmpty then 0 else 1)<30))=true:=by rfl)
  (G6:(ap.endLine == cp.line)=true:=by rfl) (hs:starEach [.Name vn pv] X.env=(false,eval (.Name vn pv) X.env)::starEach [] X.env:=by rfl) (G5:(backTo cp (starEach [] X.env)).any (·.1)=false:=by rfl)
  (hsw:swapsWith (.Call (.Attribute (.Call (.Attribute (.Name x px2) "setdefault" ap2) [ke,.List [] lp] [] cp2) "append" ap) [.Name vn pv] [] cp) none ep.line X.env=pure false:=by rfl)
  (hfs:∀y,foldedSetIterable it X.env y=pure y:=by intro _;rfl) :
  DSs X (.Assign [.Name x px] (.Dict [] [] dp) sp::.For tg it [.Assign [.Name y py] (.ListComp Nv [⟨.Name v pv1,.Name x px3,Kr,0⟩] scope lY) sp2,.Expr (.Call (.Attribute (.Call (.Attribute (.Name x px2) "setdefault" ap2) [ke,.List [] lp] [] cp2) "append" ap) [.Name vn pv] [] cp) ep] [] fp::Fi) (Dm.zk j fi bd hx k vx t f gs):=by
 obtain⟨g,h1,h2⟩:=hg.ex;obtain⟨gc,h1c,h2c⟩:=hgc.ex;have b1:PS X (.Assign [.Name y py] (.ListComp Nv [⟨.Name v pv1,.Name x px3,Kr,0⟩] scope lY) sp2) (tDL j hx k t):=by intro qL s σ H D I q;obtain⟨σs,ρs,H0s,Hs,H0,ρ1,ks,rows,ys,ρ2,n,hsz,e,c⟩:=q;exact Ff (dD hN hyn hy hc (cD.of hS hk) (Fe hjn hv hd Nt) h1c ht he hsw2 hs2 hfy) qL s σ H D I (J8 h2c (by rw[I.len];exact rX hl k Qe) n hxj hx0 hsz e c)
 have b2:PS X (.Expr (.Call (.Attribute (.Call (.Attribute (.Name x px2) "setdefault" ap2) [ke,.List [] lp] [] cp2) "append" ap) [.Name vn pv] [] cp) ep) (tDH j vx f):=
  PS.weak (fO (oZ Rm Rz RA cV (Bv (bz hjn hv hd Nt) hke (jr c_) m) (cR (bz hvn hvv hdv Pp) c_ hs) Kc hfew G6 hs G5) hsw) fun _ _ _=>J9
 have h:=bP (uN hN hjn hx' rN hsx hf) (bP (uQ (pos:=fp) hp hc hi h1 (bP b1 (fN b2)) hfs) hre);intro qL s σ H D I q;exact h qL s σ H D I (Ni h2 (of_decide_eq_false hj) (by rw[I.len];exact(PU.mp hjn).1) q)
end
end Br
set_option maxHeartbeats 4000000
namespace Ts
open PySem PyProof.Rows
variable{A:Around}{E:Value->Shared->Prop}{s:Shared}{prog:Program}{w:World}
end Ts
namespace Br
open PySem PySem.Spec PyProof.Rows L2
theorem okQ{P:Program}{w:World}{K:Ds}{mg:Str->Option Value}{base:Heap}{x qual:Str}{st:Stmt}{f:Addr}{fd:FuncData}{N ps:List Str}{k n m:Nat}{body:FS}(F:Fun K x qual st f fd)(S:ay N ps (ah st))
  (hb:∀(cdv:Value) (A:Around) (outer:List Env) (s:Shared) (H:Hp) (E:XK),bf k (A.deeper (envOfC qual (ah st) s.heap.objs.size f cdv))->DSs (rE CX0 P w K mg base N qual (ah st) f cdv A outer s H E).nox (aL st) body)
  (hn:ps.length=n:=by rfl) (hm:N.length=n+m:=by rfl):aQ P w K mg base CX0 (k+1) f fd ps (spD (Dm.fn n m body)):=
 F.ok S (fun vs H Q E h=>(lF h).trans hn.symm) fun cdv A outer s H vs Q E hr h=>⟨_,hb cdv A outer s H E hr,Ep hm h⟩
end Br
namespace Dm
noncomputable def vE(t:FT)(ρ:Env):List (List Dat)->Option (List Bool)
 |[]=>some []
 |r::q=>match t (dH ρ++[.sh (.lst r)]) with
  |none=>none
  |some (b,_)=>match vE t ρ q with
   |none=>none
   |some bs=>some (b::bs)
noncomputable def fE:List Bool->Option Nat
 |[]=>none
 |true::_=>some 0
 |false::r=>(fE r).map (·+1)
noncomputable def Fg(rows:List (List Dat))(d:Dat):Option Nat->List (List Dat)
 |none=>rows++[[d]]
 |some m=>rows.set m ((rows[m]?).getD []++[d])
noncomputable def vF(ks p:Nat)(t:FT):FN:=fun ρ rows=>if ks=0 then none else match ρ[p]? with
 | some (.sh d)=>(match vE t ρ rows with
  |none=>none
  |some bs=>if rows.length<SZ/\(∀r∈rows,r.length<SZ)/\okD 8 (.lst (rows.map .lst))=true then some (ρ.set ks .un,Fg rows d (fE bs)) else none)
 |_=>none
noncomputable def su(j:Nat)(Fz:FN):FS:=fun ρ=>if j=0 then none else match Fz (ρ.set j .un) [] with
 |none=>none
 |some (ρ3,r)=>some (.nx (ρ3.set j (.ow (.lst (r.map .lst)))))
end Dm
namespace Br
open PySem PySem.Spec PyProof.Rows L2
section
variable{ρ:Dm.Env}{α:Type}{H0 H:Hp}{σ:L2.St}{a:Addr}{d:Dat}
theorem Own.look(h:Own H0 H a d)(s:aq H0 H):Rep H (V.ref a) d:=by
 cases d with
 |lst ds=>obtain⟨xs,e,r⟩:=h;exact .lst (.inl e) (r.mono s)
 |dct ks ds=>obtain⟨kvs,e,q,r⟩:=h;exact .dct e q (r.mono s)
 |dcp ks ds=>obtain⟨x,e,q,r⟩:=h;exact .dcp e (q.mono s) (r.mono s)
 |_=>exact QN h
theorem BA{x:List Dat}:¬ak σ (Dm.dH ρ++x.map Dm.Cell.sh) a:=fun⟨i,d,h1,_⟩=>by
 have:Dm.Cell.ow d∈Dm.dH ρ++x.map Dm.Cell.sh:=QL h1;rcases Qu.mp this with z | z
 ·unfold Dm.dH at z;obtain⟨c,_,hc⟩:=Qp.mp z;cases c<;>simp[Dm.shC]at hc
 ·obtain⟨c,_,hc⟩:=Qp.mp z;cases hc
theorem au.look(st:au H0 H σ ρ):au H H σ (Dm.dH ρ) where
 same:=aq.refl _
 len:=by unfold Dm.dH;rw[Dp];exact st.len
 sh:=fun i d h=>by
  unfold Dm.dH at h;rw[Qm]at h;obtain⟨c,hc,e⟩:=Rt.mp h;cases c with
  |un=>cases e
  |sh d'=>cases e;obtain⟨v,q,r⟩:=st.sh i _ hc;exact⟨v,q,r.mono st.same⟩
  |ow d'=>cases e;obtain⟨a,q,_,r⟩:=st.ow i _ hc;exact⟨_,q,r.look st.same⟩
 ow:=fun i d h=>by unfold Dm.dH at h;rw[Qm]at h;obtain⟨c,hc,e⟩:=Rt.mp h;cases c<;>cases e
 dis:=fun i i' d d' a h _ _ _=>by unfold Dm.dH at h;rw[Qm]at h;obtain⟨c,hc,e⟩:=Rt.mp h;cases c<;>cases e
theorem kO{l:List α}{x y:α}{i:Nat}(h:(l++[x])[i]?=some y):l[i]?=some y\/(i=l.length/\y=x):=by
 by_cases q:i<l.length
 ·rw[Qi q]at h;exact .inl h
 ·rw[QI (by lia)]at h;have:i-l.length=0:=by
   have:=(PU.mp h).1;simp at this;lia
  rw[this]at h;simp at h;exact .inr ⟨by lia,h.symm⟩
theorem au.push(st:au H0 H σ ρ){v:V}(r:Rep H0 v d):au H0 H (σ++[some v]) (ρ++[.sh d]) where
 same:=st.same
 len:=by rw[Qn,Qn,st.len];rfl
 sh:=fun i e h=>by
  rcases kO h with h | ⟨hi,hh⟩
  ·obtain⟨w,q,z⟩:=st.sh i e h;exact⟨w,(Qi (PU.mp q).1).trans q,z⟩
  ·cases hh;subst hi;exact⟨v,by rw[<- st.len];simp,r⟩
 ow:=fun i e h=>by
  rcases kO h with h | ⟨hi,hh⟩
  ·obtain⟨w,q,z⟩:=st.ow i e h;exact⟨w,(Qi (PU.mp q).1).trans q,z⟩
  ·cases hh
 dis:=fun i i' e e' a h1 h2 h3 h4=>by
  rcases kO h1 with h1 | ⟨rfl,h⟩
  ·rcases kO h2 with h2 | ⟨rfl,h⟩
   ·obtain⟨w,q,_⟩:=st.ow i e h1;obtain⟨w',q',_⟩:=st.ow i' e' h2;rw[Qi (PU.mp q).1]at h3;rw[Qi (PU.mp q').1]at h4;exact st.dis i i' e e' a h1 h2 h3 h4
   ·cases h
  ·cases h
theorem au.un(st:au H0 H σ ρ)(j:Nat)(v:Option V):au H0 H (σ.set j v) (ρ.set j .un) where
 same:=st.same
 len:=by rw[QC,QC];exact st.len
 sh:=fun i d h=>by
  rcases aE h with⟨_,z⟩ | ⟨hij,h⟩
  ·cases z
  ·obtain⟨w,q,r⟩:=st.sh i d h;exact⟨w,by rw[Dk (Ne.symm hij)];exact q,r⟩
 ow:=fun i d h=>by
  rcases aE h with⟨_,z⟩ | ⟨hij,h⟩
  ·cases z
  ·obtain⟨w,q,r⟩:=st.ow i d h;exact⟨w,by rw[Dk (Ne.symm hij)];exact q,r⟩
 dis:=fun i i' d d' a h1 h2 h3 h4=>by
  rcases aE h1 with⟨_,z⟩ | ⟨q1,h1⟩
  ·cases z
  rcases aE h2 with⟨_,z⟩ | ⟨q2,h2⟩
  ·cases z
  rw[Dk (Ne.symm q1)]at h3;rw[Dk (Ne.symm q2)]at h4;exact st.dis i i' d d' a h1 h2 h3 h4
theorem ja{j:Nat}{v:Option V}(h:ak (σ.set j v) (ρ.set j .un) a):ak σ ρ a:=by
 obtain⟨i,d,h1,h2⟩:=h;rcases aE h1 with⟨_,z⟩ | ⟨hij,h1⟩
 ·cases z
 ·rw[Dk (Ne.symm hij)]at h2;exact⟨i,d,h1,h2⟩
noncomputable def cT{α:Type}:List α->List Bool->List α
 |p::ps,true::bs=>p::cT ps bs
 |_::ps,false::bs=>cT ps bs
 |_,_=>[]
theorem l7:∀(ps:List α) (bs:List Bool),(cT ps bs).length<=ps.length
 |[],[]=>Qf _
 |[],_::_=>Qf _
 |_::_,[]=>QM _
 |_::ps,true::bs=>by rw[cT,QT,QT];have:=l7 ps bs;lia
 |_::ps,false::bs=>by rw[cT,QT];have:=l7 ps bs;lia
theorem l8{x:α}:∀{ps:List α} {bs:List Bool},x∈cT ps bs->x∈ps
 |[],[],h=>h
 |[],_::_,h=>h
 |_::_,[],h=>by cases h
 |_::ps,true::bs,h=>by
  rw[cT]at h;rcases Qk.mp h with rfl | h
  ·exact Qe
  ·exact Qg _ (l8 h)
 |_::ps,false::bs,h=>Qg _ (l8 (by rw[cT]at h;exact h))
theorem jJ{p:α}{b:Bool}:∀{ps:List α} {bs:List Bool},ps.length=bs.length->cT (ps++[p]) (bs++[b])=cT ps bs++if b=true then [p] else []
 |[],[],_=>by cases b<;>rfl
 |_::ps,true::bs,h=>by have:=jJ (p:=p) (b:=b) (ps:=ps) (bs:=bs) (by simpa using h);show _::cT (ps++[p]) (bs++[b])=_;rw[this];rfl
 |_::ps,false::bs,h=>by have:=jJ (p:=p) (b:=b) (ps:=ps) (bs:=bs) (by simpa using h);show cT (ps++[p]) (bs++[b])=_;rw[this];rfl
 |[],_::_,h=>by simp at h
 |_::_,[],h=>by simp at h
theorem l9:∀{ps:List α} {bs:List Bool},Dm.fE bs=none->cT ps bs=[]
 |[],[],_=>rfl
 |[],_::_,_=>rfl
 |_::_,[],_=>rfl
 |_::ps,true::bs,h=>by cases h
 |_::ps,false::bs,h=>by rw[cT];exact l9 (by rw[Dm.fE]at h;simpa using h)
theorem gx:∀{ps:List α} {bs:List Bool} {m:Nat},ps.length=bs.length->Dm.fE bs=some m->∃q r,ps[m]?=some q/\cT ps bs=q::r
 |[],[],_,_,h=>by cases h
 |[],_::_,_,h,_=>by simp at h
 |_::_,[],_,h,_=>by simp at h
 |p::ps,true::bs,m,_,h=>by cases h;exact⟨p,_,rfl,rfl⟩
 |p::ps,false::bs,m,hl,h=>by rw[Dm.fE]at h;obtain⟨m',h1,rfl⟩:=Rt.mp h;obtain⟨q,r,h2,h3⟩:=gx (ps:=ps) (by simpa using hl) h1;exact⟨q,r,by simpa using h2,by rw[cT];exact h3⟩
theorem xu{t:FT}:∀{rows:List (List Dat)} {bs:List Bool},Dm.vE t ρ rows=some bs->rows.length=bs.length/\∀(i:Nat) (r:List Dat),rows[i]?=some r->∃b ρ1,bs[i]?=some b/\t (Dm.dH ρ++[.sh (.lst r)])=some (b,ρ1)
 |[],bs,h=>by cases h;exact⟨rfl,fun i r e=>by simp at e⟩
 |r::q,bs,h=>by
  unfold Dm.vE at h;split at h
  ·cases h
  rename_i b ρ1 e1;split at h
  ·cases h
  rename_i bs' e2;cases h;obtain⟨h1,h2⟩:=xu e2;refine⟨by simp[h1],fun i r' e=>?_⟩;cases i with
  |zero=>simp at e;subst e;exact⟨b,ρ1,rfl,e1⟩
  |succ i=>obtain⟨b',ρ',h3,h4⟩:=h2 i r' (by simpa using e);exact⟨b',ρ',by simpa using h3,h4⟩
theorem aF.sel:∀{ps:List Addr} {rs:List (List Dat)} (bs:List Bool),aF H0 H ps rs->aF H0 H (cT ps bs) (cT rs bs)
 |[],[],[],_=>trivial
 |[],[],_::_,_=>trivial
 |_::_,_::_,[],_=>trivial
 |_::ps,_::rs,true::bs,h=>⟨h.1,aF.sel bs h.2⟩
 |_::ps,_::rs,false::bs,h=>aF.sel (ps:=ps) (rs:=rs) bs h.2
 |[],_::_,_,h=>h.elim
 |_::_,[],_,h=>h.elim
theorem J_{rows:List (List Dat)}{bs:List Bool}(h:Dm.okD 8 (.lst (rows.map .lst))=true):Dm.okD 8 (.lst ((cT rows bs).map .lst))=true:=by unfold Dm.okD at h ⊢;rw[Q3]at h ⊢;intro x hx;obtain⟨r,hr,rfl⟩:=Qp.mp hx;exact h _ (Qp.mpr ⟨r,l8 hr,rfl⟩)
end
section
variable{D:Ends}{σ:L2.St}{H:Hp}{j:Nat}
theorem Ka{K:Ds}{ks p k:Nat}{t:FT}(hk:k=σ.length)(hkj:ks≠j)(hpk:p≠ks)(hkl:ks<σ.length)(h:tDN j (Dm.vF ks p t) D σ H) :
  jo (kD (tLC (jT K (b5 j)) 1 (b7 k) (tDT t) (b5 k)) (b7 ks)) (D0 (Ac (tOp (AI false) (b5 ks) (oF dJ)))
   (e8 (tBM K "list" cJ (b5 j) (cz (oF (cz (b5 p) dJ)) dJ)))
   (e8 (tBM K "list" cJ (tOp (yJ K) (b5 ks) (tD (Dm.eC (.int 0)))) (cz (b5 p) dJ)))) D σ H:=by
 obtain⟨σs,ρs,H0s,Hs,H0,ρ,rows,ρ',rows',n,e,kc⟩:=h;unfold Dm.vF at e;split at e
 ·cases e
 rename_i Pq;split at e
 case h_2=>cases e
 rename_i d ep;split at e
 ·cases e
 rename_i bs eb;split at e
 case isFalse=>cases e
 rename_i hz;cases e;obtain⟨hz1,hz2,hz3⟩:=hz;obtain⟨L,ps,h1,h2,h3,h4,h5,h6,h7,h8⟩:=n.ex;obtain⟨lb,tb⟩:=xu eb;have lp:=h8.len;have szl:Dm.SZ<=sizeLine:=by decide
 subst hk;refine⟨_,h1,L,rfl,⟨_,.inl (.inl h5)⟩,fun Lk hLk=>?_⟩;have Nk:∀{H':Hp},aq H H'->ESt σ ρ H0 H ρ H0 H':=fun sm=>ESt.grow n.st ⟨aq.refl _,sm,fun _ _ e=>.inr e,n.st.same.trans sm⟩;have Nl:∀a o,H a=some o->a≠Lk:=fun a o e z=>by rw[z,hLk]at e;cases e
 refine ⟨fun i m σ' H'=>∃ o:Option V,σ'=σ++[o]∧m=rows.length-i∧i≤rows.length∧aq H H'∧H' Lk=some (.lst ((cT (ps.take i) (bs.take i)).map V.ref)),
  ⟨rows.length,none,rfl,by simp,QM _,fun a o e=>(ai (Nl a o e)).trans e,ao⟩,?_⟩
 rintro i m σ' H' ⟨o,rfl,rfl,hi,sm,hk'⟩;by_cases Kd:i<rows.length
 ·obtain⟨pa,xs,hpa,hpx,hpr⟩:=h8.get (Ql Kd);obtain⟨b,ρ1,hb,ht⟩:=tb i rows[i] (Ql Kd);refine .inr ⟨⟨ps.map V.ref,V.ref pa,.inl (.inl (sm _ _ h5)),by rw[Qm,hpa];rfl⟩,?_⟩;rintro x H2 ⟨rfl,hx⟩;have hx:=hx (ps.map V.ref) (.inl (.inl (sm _ _ h5)));rw[Qm,hpa]at hx;cases hx;show tDT t ((σ++[o]).set σ.length (some (V.ref pa))) _ _;rw[show (σ++[o]).set σ.length (some (V.ref pa))=σ++[some (V.ref pa)] by simp];have stx:=((Nk sm).st.look).push (d:=.lst rows[i]) (v:=V.ref pa) (.lst (.inl (sm _ _ hpx)) (hpr.mono (n.st.same.trans sm)));refine⟨_,_,b,ρ1,stx,ht,fun H0' H4 t4=>?_⟩;have up:aq H2 H4:=fun a o e=>t4.stp.s1 a o e (BA (x:=[.lst rows[i]]));have tk:cT (ps.take (i+1)) (bs.take (i+1))=cT (ps.take i) (bs.take i)++if b=true then [pa] else []:=by
   rw[List.take_add_one,List.take_add_one,hpa,hb];exact jJ (by rw[Rg,Rg];lia)
  have sm4:aq H H4:=sm.trans up;cases b with
  |true=>
   dsimp only;rw[if_pos rfl];rw[if_pos rfl]at tk;refine⟨V.ref pa,by simp,_,up _ _ hk',?_,rows.length-(i+1),by lia,some (V.ref pa),rfl,rfl,Kd,fun a o e=>(ai (Nl a o e)).trans (sm4 a o e),?_⟩
   ·have:=l7 (ps.take i) (bs.take i);rw[Rg]at this;rw[Dp]
    lia
   ·rw[ao,tk,Qq];rfl
  |false=>dsimp only;rw[if_neg QE];rw[if_neg QE,Rc]at tk;exact⟨rows.length-(i+1),by lia,some (V.ref pa),rfl,rfl,Kd,sm4,by rw[tk];exact up _ _ hk'⟩
 ·have ei:i=rows.length:=by lia
  subst ei;rw[List.take_of_length_le (by lia),List.take_of_length_le (by lia)]at hk';refine .inl ⟨⟨_,.inl (.inl (sm _ _ h5)),by rw[Dp];lia⟩,?_⟩;have n1:=n.est (Nk sm);have n2:=n1.bind (n1.st.un ks (some (V.ref Lk))) (fun a z=>ja z) (Dk hkj) (Dk Pq);have ek:(σ.set ks (some (V.ref Lk)))[ks]?=some (some (V.ref Lk)):=Qz hkl;have ej:(σ.set ks (some (V.ref Lk)))[j]?=some (some (V.ref L)):=(Dk hkj).trans h1;have Nm:¬ak (σ.set ks (some (V.ref Lk))) (ρ.set ks .un) Lk:=fun z=>n.st.aR hLk (ja z);obtain⟨v,e7,rv⟩:=n2.st.sh p d ((Dk (Ne.symm hpk)).trans ep);dsimp only[b7]
  generalize σ.set ks (some (V.ref Lk))=σk at n2 ek ej e7 Nm
  refine⟨_,ek,QM _,fun q hq=>?_⟩;have nq:∀a o,H' a=some o->a≠q:=fun a o e z=>by rw[z,hq]at e;cases e
  have s1:aq H' (upd H' q (.lst [])):=fun a o e=>(ai (nq a o e)).trans e;have hk1:=s1 _ _ hk';have hL1:=s1 _ _ (sm _ _ h5);have n3:NS j σs ρs H0s Hs σk (ρ.set ks .un) H0 (upd H' q (.lst [])) rows:=n2.est (ESt.grow n2.st ⟨aq.refl _,s1,fun _ _ e=>.inr e,n2.st.same.trans s1⟩);have rq:Rep (upd H' q (.lst [])) (V.ref q) (.lst []):=.lst (.inl ao) .nil
  generalize upd H' q (.lst [])=H1 at hk1 hL1 n3 rq
  obtain⟨L',ps',y1,y2,y3,y4,y5,y6,y7,y8⟩:=n3.ex;rw[ej]at y1;cases y1;rw[hL1]at y5;have ep':ps'=ps:=by
   have:ps.map V.ref=ps'.map V.ref:=by injection y5 with z;injection z
   exact((Sg fun a b h=>by injection h).mp this).symm
  subst ep';have rk:Rep H1 (V.ref Lk) (.lst ((cT rows bs).map .lst)):=.lst (.inl hk1) ((y8.sel bs).reps n3.st.same fun _ _=>rfl);refine⟨_,_,rk,rq,J_ hz3,rfl,_,rfl,?_⟩;cases hf:Dm.fE bs with
  |none=>
   rw[hf]at kc;rw[show cT rows bs=[] from l9 hf];rw[if_pos (by rfl)];refine⟨_,ej,.inl ⟨rfl,_,.inl (.inl hL1)⟩,v,e7,QB rfl,fun q2 hq2=>?_⟩;have nL:L≠q2:=fun z=>by rw[<- z,hL1]at hq2;cases hq2
   have nP:∀a∈ps',a≠q2:=fun a ha z=>by obtain⟨o,w⟩:=y8.some a ha;rw[z,hq2]at w;cases w
   have nPL:∀a∈ps',a≠L:=fun a ha z=>(Qv.mp y6).1 (z▸ha);refine⟨L,ps'.map V.ref,V.ref q2,rfl,rfl,(ai nL).trans hL1,by rw[Dp];lia,?_⟩;refine kc σk H0 _ ⟨(n3.st.aside (n3.st.same.free hq2) (n3.st.aR hq2)).aside y3 y4,(n3.stp.aside (n3.stp.gone hq2)).aside y2,n3.own,n3.fx,L,ps'++[q2],ej,y2,y3,y4,?_,?_,fun a ha=>?_,?_⟩ (aq.refl _)
   ·rw[ao,Qq];rfl
   ·rw[<- Rl];refine Rh.mpr ⟨y6,by simp,fun a ha b hb=>?_⟩;rw[Qo.mp hb];rcases Qk.mp ha with rfl | ha
    ·exact nL
    ·exact nP a ha
   ·rcases Qu.mp ha with ha | ha
    ·exact y7 a ha
    ·rw[Qo.mp ha];exact⟨n3.stp.gone hq2,n3.st.same.free hq2,n3.st.aR hq2⟩
   ·exact aF.snoc ((ai (Ne.symm nL)).trans ao) (.cons rv .nil) (y8.mono (aq.refl _) fun a ha=>by rw[ai (nPL a ha),ai (nP a ha)])
  |some m=>
   rw[hf]at kc;obtain⟨qa,rr,hqa,Pr⟩:=gx (ps:=ps') (lp.trans lb) hf;obtain⟨ra,rr',hra,Nn⟩:=gx (ps:=rows) lb hf;rw[Nn];rw[if_neg QE,if_neg (show ¬(Dm.eqD (.lst ((ra::rr').map .lst)) (.lst [])=true) from fun z=>by cases z)];refine⟨_,ek,H0,_,_,_,n3.st,rfl,fun y H0b Hb t1 r1=>?_⟩;have n4:=n3.est t1;obtain⟨k1,_,_⟩:=t1.bY hL1 y3 y4;obtain⟨k2,_,_⟩:=t1.bY hk1 (n.st.same.free hLk) Nm;obtain⟨L',ps2,w1,w2,w3,w4,w5,w6,w7,w8⟩:=n4.ex;rw[ej]at w1;cases w1;rw[k1]at w5;have ep2:ps2=ps':=by
    have:ps'.map V.ref=ps2.map V.ref:=by injection w5 with z;injection z
    exact((Sg fun a b h=>by injection h).mp this).symm
   subst ep2;obtain⟨q',ys,hq',hqy,Be⟩:=w8.get hra;rw[hqa]at hq';cases hq';have hqm:qa∈ps2:=QL hqa;have nL:L≠qa:=fun z=>(Qv.mp w6).1 (z▸hqm);refine⟨Lk,_,0,V.ref qa,rfl,Rep.isInt r1,.inl (.inl k2),by rw[Pr];simp[L2.atI,L2.ixN],.inl ⟨rfl,ys,.inl (.inl hqy)⟩,v,e7,qa,ys,v,rfl,rfl,hqy,?_,?_⟩
   ·have:=hz2 ra (QL hra);rw[Be.length];lia
   obtain⟨z1,z2,z3⟩:=w7 qa hqm;have er:Dm.Fg rows d (some m)=rows.set m (ra++[d]):=by show rows.set m (rows[m]?.getD []++[d])=_;rw[hra];rfl
   rw[er]at kc;exact kc σk H0b _ ⟨n4.st.aside z2 z3,n4.stp.aside z1,n4.own,n4.fx,L,ps2,ej,w2,w3,w4,by rw[ai nL];exact k1,w6,w7,aF.set (Be.append (.cons (rv.mono t1.stp.s0) .nil)) w8 (Qv.mp w6).2 hqa⟩ t1.stp.s0
theorem sy{j:Nat}{Fz:Dm.FN}{ρ:Dm.Env}{z:Dm.Out}(q:Dm.su j Fz ρ=some z):∃ρ3 r3,j≠0/\Fz (ρ.set j .un) []=some (ρ3,r3)/\z=.nx (ρ3.set j (.ow (.lst (r3.map .lst)))):=by
 unfold Dm.su at q;split at q
 ·cases q
 rename_i hj0;split at q
 ·cases q
 rename_i ρ3 r3 e3;cases q;exact⟨ρ3,r3,hj0,e3,rfl⟩
theorem Np{Fz:Dm.FN}{gs:FS}(hj:j<σ.length)(h:tDS (Dm.aA (Dm.su j Fz) gs) D σ H):jo (kD (oF dJ) (b7 j)) (jo (tDN j Fz) (tDS gs)) D σ H:=by
 obtain⟨H0,ρ,o,st,e,k⟩:=h;obtain⟨ρ9,e9,e⟩:=xh (fun z q=>by obtain⟨_,_,_,_,z⟩:=sy q;exact⟨_,z⟩) e;obtain⟨ρ3,r3,hj0,e3,z9⟩:=sy e9;cases z9;refine⟨QM _,fun L hL=>?_⟩;have nL:¬ak σ ρ L:=st.aR hL;have H0L:=st.same.free hL;have s1:aq H (upd H L (.lst [])):=fun a o e=>(ai fun z=>by rw[z,hL]at e;cases e).trans e;have st2:=(st.aside (o:=.lst []) H0L nL).un j (some (V.ref L));have n:NS j σ ρ H0 H (σ.set j (some (.ref L))) (ρ.set j .un) H0 (upd H L (.lst [])) []:=
  ⟨st2,(Stp.refl _ _ _).aside hL,fun a z=>.inl (ja z),Dk hj0,L,[],Qz hj,hL,H0L,fun z=>nL (ja z),ao,Qv.mpr ⟨Rk,List.nodup_nil⟩,(fun p hp=>absurd hp Rk),trivial⟩
 refine⟨σ,ρ,H0,H,H0,_,_,ρ3,r3,n,e3,fun σ4 H4 Hd n4 _=>?_⟩;obtain⟨H5,t5⟩:=n4.done;exact⟨H5,_,o,t5.st,e,k.pre t5⟩
end
section
variable{X:Cx}{st:Stmt}{Fi:List Stmt}{fs gs:Dm.FN}{e c:Expr}{f:FE}{pos:Pos}{j:Nat}
theorem GZ(j:Nat){y:Str}{py lY:Pos}{Fz:Dm.FN}{gs:FS}{lst:Stmt}(hN:X.N.Nodup)(hlp:DN X j lst Fz)(hre:DSs X Fi gs)(hj:X.N[j]?=some y:=by rfl)(hy:Loc X.env.scope y:=by trivial)
  (hsw:swapsWith (.List [] lY) (some (.Name y py)) pos.line X.env=pure false:=by rfl) (hf:X.fn y=true\/X.env.scope.names.lookup y=some .local:=by trivial) :
  DSs X (.Assign [.Name y py] (.List [] lY) pos::lst::Fi) (Dm.aA (Dm.su j Fz) gs):=by
 have h:=bP (uN (pos:=pos) hN hj hy (jr (pos:=lY) c_) hsw hf) (bP hlp hre);intro qL s σ H D I q;exact h qL s σ H D I (Np (by rw[I.len];exact(PU.mp hj).1) q)
theorem G0(j ks k:Nat)(nm:List Str){x y z:Str}{px pt pf py cpos Nx:Pos}{c:Expr}{scope:Scope}{t:FT}(hN:X.N.Nodup)(hn:(nm++[x]).Nodup)(hx:(relabel scope X.env).names.lookup x=some .local)
  (ht:∀cl C s H fp,DT (aU X nm scope [x] cl C s H fp) c t) (hk:(nm++[x])[k]?=some x:=by rfl) (hi:X.N[j]?=some z:=by rfl) (hj:X.N[ks]?=some y:=by rfl) (hy:Loc X.env.scope y:=by trivial)
  (hvz:Vis X.env.scope z:=by trivial) (hdz:(z == ("__debug__" : Str))=false:=by decide) (hcz:(z == ("__classdict__" : Str))=false:=by decide) (hdx:(x == ("__debug__" : Str))=false:=by decide) (hcx:(x == ("__classdict__" : Str))=false:=by decide)
  (hc:X.calm=true:=by rfl) (hkd:scope.kind=.function:=by rfl) (hS:jY X.env.scope X.N nm scope=true:=by rfl)
  (hsw:swapsWith (.ListComp (.Name x px) [⟨.Name x pt,.Name z pf,[c],0⟩] scope cpos) (some (.Name y py)) Nx.line X.env=pure true:=by rfl) (hs:∀y,foldedSetIterable (.Name z pf) X.env y=pure y:=by intro _;rfl)
  (hf:X.fn y=true\/X.env.scope.names.lookup y=some .local:=by trivial) :
  PS X (.Assign [.Name y py] (.ListComp (.Name x px) [⟨.Name x pt,.Name z pf,[c],0⟩] scope cpos) Nx) (kD (tLC (jT X.K (b5 j)) 1 (b7 k) (tDT t) (b5 k)) (b7 ks)):=
 dD (own:=[x]) hN hj hy hc (cD.of hS hkd) (p8 (bz hi hvz hdz hcz)) (fun cl C s H fp=>kH (X:=aU X nm scope [x] cl C s H fp) hn hk (.inl hx) (.inr hx)) (fun cl C s H fp=>wN (ht cl C s H fp))
  (fun cl C s H fp=>bz (X:=aU X nm scope [x] cl C s H fp) hk (.inl hx) hdx hcx) hsw hs hf
theorem G1(j p:Nat){x y:Str}{px py lp ap cp:Pos}(hi:X.N[j]?=some x:=by rfl)(hp:X.N[p]?=some y:=by rfl)(hvx:Vis X.env.scope x:=by trivial)(hdx:(x == ("__debug__" : Str))=false:=by decide)(hcx:(x == ("__classdict__" : Str))=false:=by decide)(hvy:Vis X.env.scope y:=by trivial)(hdy:(y == ("__debug__" : Str))=false:=by decide)(hcy:(y == ("__classdict__" : Str))=false:=by decide)
  (hs1:starEach [.Name y py] X.env=(false,eval (.Name y py) X.env)::starEach [] X.env:=by rfl) (Kc:attributeBase (.Name x px) "append" X.env (eval (.Name x px) X.env)=eval (.Name x px) X.env:=by rfl)
  (hfew:((backTo cp (starEach [.List [.Name y py] lp] X.env)).all (fun x=>!x.1)&&(backToKw cp (keywordEach [] X.env)).all (fun x=>x.1.isSome)
   && decide (([.List [.Name y py] lp]:List Expr).length+([]:List Keyword).length+(if ([]:List Keyword).isEmpty then 0 else 1)<30))=true:=by rfl)
  (G6:(ap.endLine == cp.line)=true:=by rfl) (hs:starEach [.List [.Name y py] lp] X.env=(false,eval (.List [.Name y py] lp) X.env)::starEach [] X.env:=by rfl) (G5:(backTo cp (starEach [] X.env)).any (·.1)=false:=by rfl)
  (hsw:swapsWith (.Call (.Attribute (.Name x px) "append" ap) [.List [.Name y py] lp] [] cp) none pos.line X.env=pure false:=by rfl) :
  PS X (.Expr (.Call (.Attribute (.Name x px) "append" ap) [.List [.Name y py] lp] [] cp) pos) (e8 (tBM X.K "list" cJ (b5 j) (cz (oF (cz (b5 p) dJ)) dJ))):=
 fO (oZ Rm Rz RA cV (bz hi hvx hdx hcx) (cR (jr (pos:=lp) (cR (bz hp hvy hdy hcy) c_ hs1)) c_ hs) Kc hfew G6 hs G5) hsw
theorem G3(ks p:Nat){x y:Str}{i:Expr}{px py sp ap cp:Pos}(hi':DE X i (Dm.eC (.int 0)))(hi:X.N[ks]?=some x:=by rfl)(hp:X.N[p]?=some y:=by rfl)(hvx:Vis X.env.scope x:=by trivial)(hdx:(x == ("__debug__" : Str))=false:=by decide)(hcx:(x == ("__classdict__" : Str))=false:=by decide)(hvy:Vis X.env.scope y:=by trivial)(hdy:(y == ("__debug__" : Str))=false:=by decide)(hcy:(y == ("__classdict__" : Str))=false:=by decide)
  (Fd:kI i:=by intro _ _;rfl) (Kc:attributeBase (.Subscript (.Name x px) i sp) "append" X.env (eval (.Subscript (.Name x px) i sp) X.env)=eval (.Subscript (.Name x px) i sp) X.env:=by rfl)
  (hfew:((backTo cp (starEach [.Name y py] X.env)).all (fun x=>!x.1)&&(backToKw cp (keywordEach [] X.env)).all (fun x=>x.1.isSome)
   && decide (([.Name y py]:List Expr).length+([]:List Keyword).length+(if ([]:List Keyword).isEmpty then 0 else 1)<30))=true:=by rfl)
  (G6:(ap.endLine == cp.line)=true:=by rfl) (hs:starEach [.Name y py] X.env=(false,eval (.Name y py) X.env)::starEach [] X.env:=by rfl) (G5:(backTo cp (starEach [] X.env)).any (·.1)=false:=by rfl)
  (hsw:swapsWith (.Call (.Attribute (.Subscript (.Name x px) i sp) "append" ap) [.Name y py] [] cp) none pos.line X.env=pure false:=by rfl) :
  PS X (.Expr (.Call (.Attribute (.Subscript (.Name x px) i sp) "append" ap) [.Name y py] [] cp) pos) (e8 (tBM X.K "list" cJ (tOp (yJ X.K) (b5 ks) (tD (Dm.eC (.int 0)))) (cz (b5 p) dJ))):=
 fO (oZ Rm Rz RA cV (Ak p_ (bz hi hvx hdx hcx) hi' Fd) (cR (bz hp hvy hdy hcy) c_ hs) Kc hfew G6 hs G5) hsw
theorem G4{ks p k rm:Nat}{s1 s2 s3:Stmt}{y:Str}{py lp ifp:Pos}{t:FT}(hr:bf rm X.A)(h1:PS X s1 (kD (tLC (jT X.K (b5 j)) 1 (b7 k) (tDT t) (b5 k)) (b7 ks)))
  (h2:PS X s2 (e8 (tBM X.K "list" cJ (b5 j) (cz (oF (cz (b5 p) dJ)) dJ)))) (h3:PS X s3 (e8 (tBM X.K "list" cJ (tOp (yJ X.K) (b5 ks) (tD (Dm.eC (.int 0)))) (cz (b5 p) dJ))))
  (hi:X.N[ks]?=some y:=by rfl) (hvy:Vis X.env.scope y:=by trivial) (hdy:(y == ("__debug__" : Str))=false:=by decide) (hcy:(y == ("__classdict__" : Str))=false:=by decide) (hk:X.N.length=k:=by rfl) (hkj:decide (ks=j)=false:=by rfl) (hpk:decide (p=ks)=false:=by rfl) :
  DNs X j [s1,.If (.Compare (.Name y py) [.Eq] [.List [] lp] pos) [s2] [s3] ifp] (Dm.vF ks p t):=by
 have h:=bP h1 (fN (zY (pos:=ifp) (wF (pos:=pos) (vc hr) (bz (pos:=py) hi hvy hdy hcy) (jr (pos:=lp) c_) (cC _)) (fN h2) (fN h3)));intro qL s σ H D I q;exact h qL s σ H D I (Ka (by rw[I.len];exact hk.symm) (of_decide_eq_false hkj) (of_decide_eq_false hpk) (by rw[I.len];exact(PU.mp hi).1) q)
end
end Br
namespace Dm
section
variable{K:RV->Prop}{Q:Val->Env->Prop}{ρ:Env}{o p:Option Dat}{R:RV->Env->Prop}{N:Env->Prop}{B C:Env->Prop}{d:Dat}{α:Type}{i j:Int}{f:List Dat->Option RV}{vs:List Dat}{ks:List Int}{as:List FE}{ds:List Dat}{xs:List Dat}{a:FE}{X Y:Prop}{g:Dat->Option RV}{e:FE}{c:Bool}{body:FS}{v:RV}{t:FT}{ρ2 ρ3:Env}{n m:Nat}{s u:FS}{k:Int}{it:FI}{bd:FB}
def We(e:FE)(ρ:Env)(Q:Val->Env->Prop):Prop:=∃v ρ',e ρ=some (v,ρ')/\Q v ρ'
def Wt(t:FT)(ρ:Env)(Q:Bool->Env->Prop):Prop:=∃v ρ',t ρ=some (v,ρ')/\Q v ρ'
def Was(as:List FE)(ρ:Env)(Q:List Val->Env->Prop):Prop:=∃v ρ',eAs as ρ=some (v,ρ')/\Q v ρ'
def Wi(it:FI)(ρ:Env)(Q:List Dat->Env->Prop):Prop:=∃v ρ',it ρ=some (v,ρ')/\Q v ρ'
def KO(N:Env->Prop)(R:RV->Env->Prop)(B C:Env->Prop):Out->Prop
 |.nx ρ=>N ρ
 |.ret r ρ=>R r ρ
 |.bk ρ=>B ρ
 |.ct ρ=>C ρ
def Ws(s:FS)(ρ:Env)(N:Env->Prop)(R:RV->Env->Prop)(B C:Env->Prop):Prop:=∃o,s ρ=some o/\KO N R B C o
def Wr(o:Option RV)(P:RV->Prop):Prop:=∃r,o=some r/\P r
def Wif(c:Bool)(X Y:Prop):Prop:=(c=true->X)/\(c=false->Y)
def Wg1(g:Dat->Option RV)(o:Option Dat)(K:RV->Prop):Prop:=∃d v,o=some d/\g d=some v/\K v
def Wg2(g:Dat->Dat->Option RV)(o p:Option Dat)(K:RV->Prop):Prop:=∃d e v,o=some d/\p=some e/\g d e=some v/\K v
def WB(g:List Dat->Option RV)(o:Option (List Dat))(K:RV->Prop):Prop:=∃ds v,o=some ds/\g ds=some v/\K v
def WT(o:Option (List Dat×Env))(K:List Dat->Env->Prop):Prop:=∃ds ρ,o=some (ds,ρ)/\ds.length<=SZ/\K ds ρ
def WF(f:List Dat->Option RV)(ρ:Env)(xs:List Val)(Q:Val->Env->Prop):Prop:=∃ds v,pks ρ xs=some ds/\f ds=some v/\(if eK v.dat then ∃ds' ρ2,tks ρ xs=some (ds',ρ2)/\Q v.br ρ2 else Q v.br ρ)
def Wk(ρ:Env)(x:Val)(K:Dat->Env->Prop):Prop:=∃d ρ',tk ρ x=some (d,ρ')/\K d ρ'
def Wp(o:Option FE)(ρ:Env)(K:Option Int->Env->Prop):Prop:=∃i ρ',part o ρ=some (i,ρ')/\K i ρ'
theorem Uo(x:X):Wif true X Y:=⟨fun _=>x,fun h=>by cases h⟩
theorem Ua(y:Y):Wif false X Y:=⟨fun h=>(by cases h),fun _=>y⟩
theorem Us(h:c=true)(x:X):Wif c X Y:=⟨fun _=>x,fun h'=>by rw[h]at h';cases h'⟩
theorem T4(h:c=false)(y:Y):Wif c X Y:=⟨fun h'=>(by rw[h]at h';cases h'),fun _=>y⟩
theorem Ut{p:Prop}[Decidable p](x:p->X)(y:¬p->Y):Wif (decide p) X Y:=⟨fun h=>x (of_decide_eq_true h),fun h=>y (of_decide_eq_false h)⟩
theorem Q_{i:Nat}(h:ρ[i]?=some (.sh d))(q:Q (.val d) ρ):We (eV i) ρ Q:=⟨_,_,by unfold eV;rw[h],q⟩
theorem TV{i:Nat}(h:ρ[i]?=some (.ow d))(q:Q (.slot i) ρ):We (eV i) ρ Q:=⟨_,_,by unfold eV;rw[h],q⟩
theorem Tj(q:Q (.val d) ρ):We (eC d) ρ Q:=⟨_,_,rfl,q⟩
theorem Ue(h:We a ρ fun x ρ1=>Wg1 g (pk ρ1 x) fun v=>Q v.br ρ1):We (e1 g a) ρ Q:=by obtain⟨x,ρ1,h1,d,v,h2,h3,q⟩:=h;exact⟨_,_,by unfold Dm.e1;rw[h1];dsimp only;rw[h2];dsimp only;rw[h3],q⟩
theorem S_{g:Dat->Dat->Option RV}{a b:FE}(h:We a ρ fun x ρ1=>We b ρ1 fun y ρ2=>Wg2 g (pk ρ2 x) (pk ρ2 y) fun v=>Q v.br ρ2):We (e2 g a b) ρ Q:=by obtain⟨x,ρ1,h1,y,ρ2,h2,d,e,v,h3,h4,h5,q⟩:=h;exact⟨_,_,by unfold Dm.e2;rw[h1];dsimp only;rw[h2];dsimp only;rw[h3];dsimp only;rw[h4];dsimp only;rw[h5],q⟩
theorem R_{Q:List Val->Env->Prop}(q:Q [] ρ):Was [] ρ Q:=⟨_,_,rfl,q⟩
theorem m_{r:List FE}{Q:List Val->Env->Prop}(h:We a ρ fun x ρ1=>Was r ρ1 fun xs ρ2=>Q (x::xs) ρ2):Was (a::r) ρ Q:=by obtain⟨x,ρ1,h1,xs,ρ2,h2,q⟩:=h;exact⟨_,_,by unfold eAs;rw[h1];dsimp only;rw[h2],q⟩
theorem TR{g:List Dat->Option RV}(h:Was as ρ fun xs ρ1=>WB g (pks ρ1 xs) fun v=>Q v.br ρ1):We (eB g as) ρ Q:=by obtain⟨x,ρ1,h1,d,v,h2,h3,q⟩:=h;exact⟨_,_,by unfold eB;rw[h1];dsimp only;rw[h2];dsimp only;rw[h3],q⟩
theorem Ur(h:Was as ρ fun xs ρ1=>WT (tks ρ1 xs) fun ds ρ2=>Q (.val (.tup ds)) ρ2):We (eU as) ρ Q:=by obtain⟨x,ρ1,h1,ds,ρ2,h2,h3,q⟩:=h;exact⟨_,_,by unfold eU;rw[h1];dsimp only;rw[h2];dsimp only;rw[if_pos h3],q⟩
theorem T_(h:Was as ρ fun xs ρ1=>WT (tks ρ1 xs) fun ds ρ2=>Q (.new (.lst ds)) ρ2):We (dm as) ρ Q:=by obtain⟨x,ρ1,h1,ds,ρ2,h2,h3,q⟩:=h;exact⟨_,_,by unfold dm;rw[h1];dsimp only;rw[h2];dsimp only;rw[if_pos h3],q⟩
theorem TU{xs:List Val}{K:List Dat->Env->Prop}(k:K ds ρ3)(h:tks ρ xs=some (ds,ρ2))(hn:ρ2=ρ3)(hl:ds.length<=SZ):WT (tks ρ xs) K:=⟨_,_,hn▸h,hl,k⟩
theorem Tu(h:Was as ρ fun xs ρ1=>WF f ρ1 xs Q):We (eF f as) ρ Q:=by
 obtain⟨x,ρ1,h1,ds,v,h2,h3,h4⟩:=h;by_cases hb:eK v.dat=true
 ·rw[if_pos hb]at h4;obtain⟨ds',ρ2,h5,q⟩:=h4;exact⟨_,_,by unfold eF;rw[h1];dsimp only;rw[h2];dsimp only;rw[h3];dsimp only;rw[if_pos hb,h5],q⟩
 ·rw[if_neg hb]at h4;exact⟨_,_,by unfold eF;rw[h1];dsimp only;rw[h2];dsimp only;rw[h3];dsimp only;rw[if_neg hb],h4⟩
theorem TM{ρ ρ2 ρ3:Env}{xs:List Val}{ds ds':List Dat}(h2:f ds=some v)(q:Q v.br ρ3)(h1:pks ρ xs=some ds)(h3:eK v.dat=true)(h4:tks ρ xs=some (ds',ρ2))(hn:ρ2=ρ3):WF f ρ xs Q:=
 ⟨_,_,h1,h2,by rw[if_pos h3];exact⟨_,_,h4,hn▸q⟩⟩
theorem TJ{xs:List Val}(h2:f ds=some v)(q:Q v.br ρ)(h1:pks ρ xs=some ds)(h3:eK v.dat=false):WF f ρ xs Q:=
 ⟨_,_,h1,h2,by rw[if_neg (by rw[h3];decide)];exact q⟩
theorem Vn{a b:FE}(h:Wt t ρ fun c ρ1=>Wif c (We a ρ1 Q) (We b ρ1 Q)):We (eIf t a b) ρ Q:=by
 obtain⟨c,ρ1,h1,h2,h3⟩:=h;cases c with
 |true=>obtain⟨v,ρ2,h4,q⟩:=h2 rfl;exact⟨_,_,by unfold eIf;rw[h1];exact h4,q⟩
 |false=>obtain⟨v,ρ2,h4,q⟩:=h3 rfl;exact⟨_,_,by unfold eIf;rw[h1];exact h4,q⟩
def Wb(v:Val)(K:Bool->Prop):Prop:=∃c,v=.val (.bl c)/\K c
theorem Tp{K:Bool->Prop}(k:K c):Wb (.val (.bl c)) K:=⟨c,rfl,k⟩
theorem Ui{a b:FE}(h:We a ρ fun v ρ1=>Wb v fun c=>Wif c (We b ρ1 Q) (Q (.val (.bl false)) ρ1)):We (fV a b) ρ Q:=by
 obtain⟨v,ρ1,h1,c,rfl,h2,h3⟩:=h;cases c with
 |true=>obtain⟨v,ρ2,h4,q⟩:=h2 rfl;exact⟨_,_,by unfold fV;rw[h1];exact h4,q⟩
 |false=>exact⟨_,_,by unfold fV;rw[h1],h3 rfl⟩
theorem Vg(h:We a ρ fun v ρ1=>Wb v fun c=>Q (.val (.bl (!c))) ρ1):We (uW a) ρ Q:=by obtain⟨v,ρ1,h1,c,rfl,h2⟩:=h;exact⟨_,_,by unfold uW;rw[h1],h2⟩
theorem TF{Q:Bool->Env->Prop}(h:We a ρ fun v ρ1=>Wb v fun c=>Q c ρ1):Wt (tV a) ρ Q:=by obtain⟨v,ρ1,h1,c,rfl,h2⟩:=h;exact⟨_,_,by unfold tV;rw[h1],h2⟩
theorem T6{Q:Bool->Env->Prop}(h:Wt t ρ fun c ρ1=>Q (!c) ρ1):Wt (dj t) ρ Q:=by obtain⟨v,ρ1,h1,h2⟩:=h;exact⟨_,_,by unfold dj;rw[h1],h2⟩
theorem UL{t u:FT}{Q:Bool->Env->Prop}(h:Wt t ρ fun c ρ1=>Wif c (Wt u ρ1 Q) (Q false ρ1)):Wt (kC t u) ρ Q:=by
 obtain⟨c,ρ1,h1,h2,h3⟩:=h;cases c with
 |true=>obtain⟨v,ρ2,h4,q⟩:=h2 rfl;exact⟨_,_,by unfold kC;rw[h1];exact h4,q⟩
 |false=>exact⟨_,_,by unfold kC;rw[h1],h3 rfl⟩
theorem Uq{t u:FT}{Q:Bool->Env->Prop}(h:Wt t ρ fun c ρ1=>Wif c (Q true ρ1) (Wt u ρ1 Q)):Wt (tOr t u) ρ Q:=by
 obtain⟨c,ρ1,h1,h2,h3⟩:=h;cases c with
 |false=>obtain⟨v,ρ2,h4,q⟩:=h3 rfl;exact⟨_,_,by unfold tOr;rw[h1];exact h4,q⟩
 |true=>exact⟨_,_,by unfold tOr;rw[h1],h2 rfl⟩
theorem VC{Q:Bool->Env->Prop}(h:We a ρ fun x ρ1=>∃d c,pk ρ1 x=some d/\truth d=some c/\Q c ρ1):Wt (tTr a) ρ Q:=by obtain⟨x,ρ1,h1,d,c,h2,h3,q⟩:=h;exact⟨_,_,by unfold tTr;rw[h1];dsimp only;rw[h2];dsimp only;rw[h3],q⟩
theorem Vb{Q:Bool->Env->Prop}(q:Q true ρ):Wt b8 ρ Q:=⟨_,_,rfl,q⟩
theorem Tw{K:Dat->Env->Prop}(k:K d ρ):Wk ρ (.val d) K:=⟨_,_,rfl,k⟩
theorem Ux{K:Dat->Env->Prop}(k:K d ρ):Wk ρ (.new d) K:=⟨_,_,rfl,k⟩
theorem U6{ρ ρ':Env}{i:Nat}{K:Dat->Env->Prop}(k:K d ρ')(h:ρ[i]?=some (.ow d))(hs:ρ.set i (.sh d)=ρ'):Wk ρ (.slot i) K:=⟨_,_,by unfold tk;dsimp only;rw[h];dsimp only;rw[hs],k⟩
noncomputable def BB:Dat->Option (List Dat)
 |.lst ds=>some ds
 |.tup ds=>some ds
 |_=>none
theorem UU{Q:List Dat->Env->Prop}(h:We a ρ fun x ρ1=>Wk ρ1 x fun d ρ2=>∃ds,BB d=some ds/\Q ds ρ2):Wi (iS a) ρ Q:=by
 obtain⟨x,ρ1,h1,d,ρ2,h2,ds,hd,q⟩:=h;cases d with
 |lst xs=>cases hd;exact⟨_,_,by unfold iS;rw[h1];dsimp only;rw[h2],q⟩
 |tup xs=>cases hd;exact⟨_,_,by unfold iS;rw[h1];dsimp only;rw[h2],q⟩
 |_=>cases hd
def bV(v:Val)(K:Int->Prop):Prop:=∃i,v=.val (.int i)/\K i
theorem bV.mk{i:Int}{K:Int->Prop}(k:K i):bV (.val (.int i)) K:=⟨i,rfl,k⟩
theorem Um{Q:List Dat->Env->Prop}(h:We a ρ fun v ρ1=>bV v fun j=>Q (ups 0 j.toNat) ρ1/\j<=BIG/\-BIG<=j):Wi (iR1 a) ρ Q:=by obtain⟨v,ρ1,h1,j,rfl,q,h2⟩:=h;exact⟨_,_,by unfold iR1;rw[h1];dsimp only;rw[if_pos h2],q⟩
theorem U_{a b:FE}{Q:List Dat->Env->Prop}(h:We a ρ fun v ρ1=>bV v fun i=>We b ρ1 fun w ρ2=>bV w fun j=>Q (ups i (j-i).toNat) ρ2/\j<=BIG/\-BIG<=j/\i<=BIG/\-BIG<=i):Wi (iR2 a b) ρ Q:=by obtain⟨v,ρ1,h1,i,rfl,w,ρ2,h2,j,rfl,q,h3⟩:=h;exact⟨_,_,by unfold iR2;rw[h1];dsimp only;rw[h2];dsimp only;rw[if_pos h3],q⟩
theorem Vv{Q:List Dat->Env->Prop}(h:We a ρ fun x ρ1=>Wk ρ1 x fun d ρ2=>∃ds,d=.lst ds/\Q ds.reverse ρ2):Wi (y9 a) ρ Q:=by obtain⟨x,ρ1,h1,d,ρ2,h2,ds,rfl,q⟩:=h;exact⟨_,_,by unfold y9;rw[h1];dsimp only;rw[h2],q⟩
theorem VB{Q:List Dat->Env->Prop}(h:We a ρ fun x ρ1=>Wk ρ1 x fun d ρ2=>∃ds,d=.lst ds/\Q (i8 0 ds) ρ2):Wi (iEn a) ρ Q:=by obtain⟨x,ρ1,h1,d,ρ2,h2,ds,rfl,q⟩:=h;exact⟨_,_,by unfold iEn;rw[h1];dsimp only;rw[h2],q⟩
theorem Wp.none{K:Option Int->Env->Prop}(k:K none ρ):Wp none ρ K:=⟨_,_,rfl,k⟩
theorem Wp.some{f:FE}{K:Option Int->Env->Prop}(h:We f ρ fun v ρ1=>bV v fun i=>K (some i) ρ1):Wp (some f) ρ K:=by obtain⟨v,ρ1,h1,i,rfl,k⟩:=h;exact⟨_,_,by unfold part;dsimp only;rw[h1],k⟩
def Wsl(o:Option Dat)(l h:Option Int)(K:Dat->Prop):Prop:=∃xs,o=some (.lst xs)/\K (.lst (cut xs l h))
noncomputable def zm{α:Type}(xs:List α)(lo hi:Option Int):List α:=(xs.drop (sIx xs.length 0 lo)).take (sIx xs.length xs.length hi-sIx xs.length 0 lo)
theorem Nq(sD:α->Dat)(xs:List α)(lo hi:Option Int):cut (xs.map sD) lo hi=(zm xs lo hi).map sD:=by unfold cut zm;rw[Dp,<- List.map_drop,<- List.map_take]
theorem Wsl.A{sD:α->Dat}{xs:List α}{o:Option Dat}{l h:Option Int}{K:Dat->Prop}(k:K (.lst ((zm xs l h).map sD)))(ho:o=some (.lst (xs.map sD))):Wsl o l h K:=⟨_,ho,by rw[Nq];exact k⟩
theorem Vc{lo hi:Option FE}(h:We a ρ fun x ρ1=>Wp lo ρ1 fun l ρ2=>Wp hi ρ2 fun h ρ3=>Wsl (pk ρ3 x) l h fun d=>Q (.new d) ρ3):We (eSl a lo hi) ρ Q:=by obtain⟨x,ρ1,h1,l,ρ2,h2,hh,ρ3,h3,xs,h4,q⟩:=h;exact⟨_,_,by unfold eSl;rw[h1];dsimp only;rw[h2];dsimp only;rw[h3];dsimp only;rw[h4],q⟩
theorem TY(n:N ρ):Ws sNx ρ N R B C:=⟨_,rfl,n⟩
theorem Tn(h:Ws s ρ (fun ρ1=>Ws u ρ1 N R B C) R B C):Ws (aA s u) ρ N R B C:=by
 obtain⟨o,h1,h2⟩:=h;cases o with
 |nx ρ1=>obtain⟨o,h3,h4⟩:=h2;exact⟨o,by unfold aA;rw[h1];exact h3,h4⟩
 |ret r ρ1=>exact⟨.ret r ρ1,by unfold aA;rw[h1],h2⟩
 |bk ρ1=>exact⟨.bk ρ1,by unfold aA;rw[h1],h2⟩
 |ct ρ1=>exact⟨.ct ρ1,by unfold aA;rw[h1],h2⟩
def WA(i:Nat)(v:Val)(ρ:Env)(N:Env->Prop):Prop:=match v with
 |.new d=>N (ρ.set i (.ow d))
 |x=>Wk ρ x fun d ρ2=>N (ρ2.set i (.sh d))
theorem Tt{i:Nat}(h:We e ρ fun v ρ1=>WA i v ρ1 N)(hi:i≠0):Ws (sA i e) ρ N R B C:=by
 obtain⟨v,ρ1,h1,h2⟩:=h;cases v with
 |new d=>exact⟨.nx _,by unfold sA;rw[if_neg hi,h1],h2⟩
 |val d=>obtain⟨d',ρ2,h3,h4⟩:=h2;exact⟨.nx _,by unfold sA;rw[if_neg hi,h1];dsimp only;rw[h3],h4⟩
 |slot j=>obtain⟨d',ρ2,h3,h4⟩:=h2;exact⟨.nx _,by unfold sA;rw[if_neg hi,h1];dsimp only;rw[h3],h4⟩
theorem TN{i:Nat}{ρ ρ2:Env}(n:N ρ2)(hs:ρ.set i (.ow d)=ρ2):WA i (.new d) ρ N:=by unfold WA;dsimp only;rw[hs];exact n
theorem Tq{i:Nat}{ρ ρ2:Env}(n:N ρ2)(hs:ρ.set i (.sh d)=ρ2):WA i (.val d) ρ N:=⟨_,_,rfl,by show N _;rw[hs];exact n⟩
theorem UC(h:We e ρ fun _ ρ1=>N ρ1):Ws (sE e) ρ N R B C:=by obtain⟨x,ρ1,h1,n⟩:=h;exact⟨.nx _,by unfold sE;rw[h1],n⟩
def WR(v:Val)(ρ:Env)(R:RV->Env->Prop):Prop:=match v with
 |.new d=>R (.new d) ρ
 |.val d=>R (.val d) ρ
 |.slot i=>(∃d,ρ[i]?=some (.ow d)/\R (.new d) (ρ.set i .un))
theorem TL(h:We e ρ fun v ρ1=>WR v ρ1 R):Ws (sR e) ρ N R B C:=by
 obtain⟨v,ρ1,h1,h2⟩:=h;cases v with
 |new d=>exact⟨.ret _ _,by unfold sR;rw[h1],h2⟩
 |val d=>exact⟨.ret _ _,by unfold sR;rw[h1],h2⟩
 |slot i=>obtain⟨d,h3,h4⟩:=h2;exact⟨.ret _ _,by unfold sR;rw[h1];dsimp only;rw[h3],h4⟩
theorem UB(r:R (.new d) ρ):WR (.new d) ρ R:=r
theorem Uc(r:R (.val d) ρ):WR (.val d) ρ R:=r
theorem Uj{i:Nat}(r:R (.new d) (ρ.set i .un))(h:ρ[i]?=some (.ow d)):WR (.slot i) ρ R:=⟨d,h,r⟩
theorem TX{a b:FS}(h:Wt t ρ fun c ρ1=>Wif c (Ws a ρ1 N R B C) (Ws b ρ1 N R B C)):Ws (sIf t a b) ρ N R B C:=by
 obtain⟨c,ρ1,h1,h2,h3⟩:=h;cases c with
 |true=>obtain⟨o,h4,q⟩:=h2 rfl;exact⟨_,by unfold sIf;rw[h1];exact h4,q⟩
 |false=>obtain⟨o,h4,q⟩:=h3 rfl;exact⟨_,by unfold sIf;rw[h1];exact h4,q⟩
theorem Ul{i:Nat}{ds0:List Dat}(h:We e ρ fun x ρ1=>Wk ρ1 x fun d ρ2=>∃ds ρ3,ρ2[i]?=some (.ow (.lst ds))/\ρ2.set i (.ow (.lst (ds++[d])))=ρ3/\N ρ3/\ds.length<SZ)(h0:ρ[i]?=some (.ow (.lst ds0))):Ws (lz i e) ρ N R B C:=by obtain⟨x,ρ1,h1,d,ρ2,h2,ds,ρ3,h3,h5,n,h4⟩:=h;exact⟨.nx _,by unfold lz;rw[h0];dsimp only;rw[h1];dsimp only;rw[h2];dsimp only;rw[h3];dsimp only;rw[if_pos h4,h5],n⟩
theorem gy{i:Nat}(n:N ρ3)(h:ρ2[i]?=some (.ow (.lst ds)))(hs:ρ2.set i (.ow (.lst (ds++[d])))=ρ3)(hl:ds.length<SZ):∃ds ρ3,ρ2[i]?=some (.ow (.lst ds))/\ρ2.set i (.ow (.lst (ds++[d])))=ρ3/\N ρ3/\ds.length<SZ:=⟨_,_,h,hs,n,hl⟩
theorem Vh{i:Nat}{j e:FE}(h:We e ρ fun x ρ1=>Wk ρ1 x fun d ρ2=>(∃d0,ρ2[i]?=some (.ow d0))/\We j ρ2 fun y ρ3=>bV y fun k=>∃ds m ρ4,ρ3[i]?=some (.ow (.lst ds))/\ixN ds.length k=some m/\ρ3.set i (.ow (.lst (ds.set m d)))=ρ4/\N ρ4):Ws (uX i j e) ρ N R B C:=by obtain⟨x,ρ1,h1,d,ρ2,h2,⟨d0,h0⟩,y,ρ3,h3,k,rfl,ds,m,ρ4,h4,h5,h6,n⟩:=h;exact⟨.nx _,by unfold uX;rw[h1];dsimp only;rw[h2];dsimp only;rw[h0];dsimp only;rw[h3];dsimp only;rw[h4];dsimp only;rw[h5];dsimp only;rw[h6],n⟩
theorem Va{i:Nat}{j e:FE}(h:We e ρ fun x ρ1=>Wk ρ1 x fun d ρ2=>(∃d0,ρ2[i]?=some (.ow d0))/\We j ρ2 fun y ρ3=>bV y fun k=>∃ks vs ρ4,ρ3[i]?=some (.ow (.dct ks vs))/\ρ3.set i (.ow (.dct (jZ ks k) (j0 ks vs k d)))=ρ4/\N ρ4/\ks.length<SZ):Ws (lS i j e) ρ N R B C:=by obtain⟨x,ρ1,h1,d,ρ2,h2,⟨d0,h0⟩,y,ρ3,h3,k,rfl,ks,vs,ρ4,h4,h5,n,h6⟩:=h;exact⟨.nx _,by unfold lS;rw[h1];dsimp only;rw[h2];dsimp only;rw[h0];dsimp only;rw[h3];dsimp only;rw[h4];dsimp only;rw[if_pos h6,h5],n⟩
theorem qC{i:Nat}{ρ3 ρ4:Env}(n:N ρ4)(h:ρ3[i]?=some (.ow (.dct ks vs)))(hs:ρ3.set i (.ow (.dct (jZ ks k) (j0 ks vs k d)))=ρ4)(hl:ks.length<SZ):∃ks vs ρ4,ρ3[i]?=some (.ow (.dct ks vs))/\ρ3.set i (.ow (.dct (jZ ks k) (j0 ks vs k d)))=ρ4/\N ρ4/\ks.length<SZ:=⟨_,_,_,h,hs,n,hl⟩
theorem T8(h:Wi it ρ fun ds ρ1=>Ws (jx bd body ds) ρ1 N R B C):Ws (ff it bd body) ρ N R B C:=by obtain⟨ds,ρ1,h1,o,h2,h3⟩:=h;exact⟨o,by unfold ff;rw[h1];exact h2,h3⟩
theorem T9(sD:α->Dat)(bd:FB)(body:FS)(xs:List α)(ρ:Env)(N:Env->Prop)(R:RV->Env->Prop)(B C:Env->Prop)(I:List α->List α->Env->Prop)
  (h0:I [] xs ρ) (hs:∀p x q ρ,xs=p++x::q->I p (x::q) ρ->∃ρ1,bd (sD x) ρ=some ρ1/\Ws body ρ1 (fun ρ2=>I (p++[x]) q ρ2) R N (fun ρ2=>I (p++[x]) q ρ2)) (he:∀ρ,I xs [] ρ->N ρ):Ws (jx bd body (xs.map sD)) ρ N R B C:=by
 have go:∀(q p:List α) (ρ:Env),xs=p++q->I p q ρ->Ws (jx bd body (q.map sD)) ρ N R B C:=fun q=>by
  induction q with
  |nil=>intro p ρ e i;rw[Rc]at e;exact⟨.nx _,rfl,he ρ (e▸i)⟩
  |cons x q ih=>
   intro p ρ e i;obtain⟨ρ1,h1,o,h2,h3⟩:=hs p x q ρ e i;have e':xs=(p++[x])++q:=by rw[SN];exact e
   cases o with
   |nx ρ2=>obtain⟨o,h4,h5⟩:=ih _ _ e' h3;exact⟨o,by rw[Qa,jx,h1];dsimp only;rw[h2];exact h4,h5⟩
   |ct ρ2=>obtain⟨o,h4,h5⟩:=ih _ _ e' h3;exact⟨o,by rw[Qa,jx,h1];dsimp only;rw[h2];exact h4,h5⟩
   |bk ρ2=>exact⟨.nx _,by rw[Qa,jx,h1];dsimp only;rw[h2],h3⟩
   |ret r ρ2=>exact⟨.ret _ _,by rw[Qa,jx,h1];dsimp only;rw[h2],h3⟩
 exact go xs [] ρ rfl h0
theorem Tz{P:RV->Prop}(b:Ws body ρ (fun _=>P (.val .non)) (fun r _=>P r) (fun _=>False) (fun _=>False))(hρ:ds.map Cell.sh++Qd m .un=ρ)(h:ds.length=n):Wr (fn n m body ds) P:=by
 obtain⟨o,h1,h2⟩:=b;cases o with
 |nx ρ1=>exact⟨_,by unfold Dm.fn;rw[if_pos h,hρ,h1],h2⟩
 |ret r ρ1=>exact⟨_,by unfold Dm.fn;rw[if_pos h,hρ,h1],h2⟩
 |bk ρ1=>exact h2.elim
 |ct ρ1=>exact h2.elim
theorem TQ{o:Option RV}{r:RV}(h:Wr o fun x=>x=r):o=some r:=by obtain⟨x,h1,rfl⟩:=h;exact h1
theorem sC(sD:α->Dat)(p:α->Bool)(v:α->Dat)(bd:FB)(t:FT)(el:FE)(mk:Cell->Env)(hb:∀d c,bd d (mk c)=some (mk (.sh d))):∀(xs:List α) (c:Cell) (En:List Dat),
  (∀x∈xs,t (mk (.sh (sD x)))=some (p x,mk (.sh (sD x))))->(∀x∈xs,p x=true->We el (mk (.sh (sD x))) fun w ρ'=>Wk ρ' w fun d ρ''=>d=v x/\ρ''=mk (.sh (sD x))) ->
  ∃c',cA bd t el (xs.map sD) (mk c) En=some (En++(xs.filter p).map v,mk c')
 |[],c,En,_,_=>⟨c,by simp[cA]⟩
 |x::xs,c,En,ht,he=>by
  rw[Qa,cA,hb];dsimp only;rw[ht x Qe];have ht':=fun y hy=>ht y (Qg _ hy);have he':=fun y hy=>he y (Qg _ hy);by_cases h:p x=true
  ·obtain⟨w,ρ',h1,d,ρ'',h2,rfl,rfl⟩:=he x Qe h;rw[h];dsimp only;rw[h1];dsimp only;rw[h2];obtain⟨c',e⟩:=sC sD p v bd t el mk hb xs (.sh (sD x)) (En++[v x]) ht' he';exact⟨c',by dsimp only;rw[e,Q6 h];simp⟩
  ·rw[Bool.not_eq_true]at h;rw[h];obtain⟨c',e⟩:=sC sD p v bd t el mk hb xs (.sh (sD x)) En ht' he';exact⟨c',by dsimp only;rw[e,Q5 (by rw[h];decide)]⟩
theorem Uu(h:Wt t ρ fun c' ρ'=>c'=c/\ρ'=ρ):t ρ=some (c,ρ):=by obtain⟨_,_,h1,rfl,rfl⟩:=h;exact h1
theorem U4(sD:α->Dat)(xs:List α)(p:α->Bool)(v:α->Dat){it:FI}{k:Nat}{t:FT}{el:FE}{ρ ρ1:Env}{Q:Val->Env->Prop}
  (q:Q (.new (.lst ((xs.filter p).map v))) ρ1) (Kf:it ρ=some (xs.map sD,ρ1)) (hk:ρ1.length=k) (hk0:k≠0) (hl:xs.length<=SZ)
  (ht:∀x∈xs,Wt t (ρ1++[.sh (sD x)]) fun c ρ'=>c=p x/\ρ'=ρ1++[.sh (sD x)])
  (he:∀x∈xs,p x=true->We el (ρ1++[.sh (sD x)]) fun w ρ'=>Wk ρ' w fun d ρ''=>d=v x/\ρ''=ρ1++[.sh (sD x)]):We (b9 it 1 (bN k) t el) ρ Q:=by
 have bd:∀(d:Dat) (c:Cell),bN k d (ρ1++[c])=some (ρ1++[.sh d]):=fun d c=>by unfold bN;rw[if_neg hk0,RL _ _ (by lia)];simp[hk]
 obtain⟨c',e⟩:=sC sD p v (bN k) t el (fun c=>ρ1++[c]) bd xs .un [] (fun x hx=>Uu (ht x hx)) he;refine⟨_,_,?_,q⟩;unfold b9;rw[Kf];dsimp only;rw[if_pos (by rw[Dp];exact hl)];show (match cA _ _ _ _ (ρ1++[.un]) [] with | none=>none | some (ys,ρ2)=>some (Val.new (.lst ys),ρ2.take ρ1.length))=_;rw[e];dsimp only;rw[Ry,SA]
theorem Vp(sD:α->Dat)(xs:List α)(p:α->Bool)(v:α->Dat){i:Nat}{k:Nat}{t:FT}{el:FE}{ρ:Env}{Q:Val->Env->Prop}{d:Dat}
  (q:Q (.new (.lst ((xs.filter p).map v))) ρ) (hi:ρ[i]?=some (.sh d)) (hd:BB d=some (xs.map sD)) (hk:ρ.length=k) (hk0:k≠0) (hl:xs.length<=SZ)
  (ht:∀x∈xs,Wt t (ρ++[.sh (sD x)]) fun c ρ'=>c=p x/\ρ'=ρ++[.sh (sD x)])
  (he:∀x∈xs,p x=true->We el (ρ++[.sh (sD x)]) fun w ρ'=>Wk ρ' w fun d ρ''=>d=v x/\ρ''=ρ++[.sh (sD x)]):We (aV i 1 (bN k) t el) ρ Q:=by
 have Kf:iS (eV i) ρ=some (xs.map sD,ρ):=by
  unfold iS eV;rw[hi];cases d with
  |lst ys=>cases hd;rfl
  |tup ys=>cases hd;rfl
  |_=>cases hd
 obtain⟨a,ρ',h1,h2⟩:=U4 sD xs p v (Q:=Q) q Kf hk hk0 hl ht he;refine⟨a,ρ',?_,h2⟩;unfold aV;rw[hi];exact h1
theorem Vz(sD:α->Dat)(xs:List α)(p:α->Bool)(v:α->Dat){i:Nat}{k:Nat}{t:FT}{el:FE}{ρ ρ1:Env}{Q:Val->Env->Prop}
  (q:Q (.new (.lst ((xs.filter p).map v))) ρ) (hi:ρ[i]?=some (.ow (.lst (xs.map sD)))) (h1:ρ.set i .un=ρ1) (hk:ρ.length=k) (hk0:k≠0) (hl:xs.length<=SZ)
  (ht:∀x∈xs,Wt t (ρ1++[.sh (sD x)]) fun c ρ'=>c=p x/\ρ'=ρ1++[.sh (sD x)])
  (he:∀x∈xs,p x=true->We el (ρ1++[.sh (sD x)]) fun w ρ'=>Wk ρ' w fun d ρ''=>d=v x/\ρ''=ρ1++[.sh (sD x)]):We (aV i 1 (bN k) t el) ρ Q:=by
 have zo:ρ1.length=ρ.length:=by rw[<- h1,QC]
 have hil:i<ρ.length:=(PU.mp hi).1;have bd:∀(d:Dat) (c:Cell),bN k d (ρ1++[c])=some (ρ1++[.sh d]):=fun d c=>by unfold bN;rw[if_neg hk0,RL _ _ (by lia)];simp[hk,zo]
 obtain⟨c',e⟩:=sC sD p v (bN k) t el (fun c=>ρ1++[c]) bd xs .un [] (fun x hx=>Uu (ht x hx)) he;refine⟨_,_,?_,q⟩;unfold aV;rw[hi];dsimp only;rw[if_pos (by rw[Dp];exact hl),h1];show (match cA _ _ _ _ (ρ1++[.un]) [] with | none=>none | some (ys,ρ2)=>some (Val.new (.lst ys),(ρ2.take ρ.length).set i (.ow (.lst (xs.map sD)))))=_;rw[e];dsimp only;rw[Ry,<- zo,SA,<- h1,Te]
 congr 2
 apply RX;intro j;by_cases h:i=j
 ·subst h;rw[Qz hil,hi]
 ·rw[Dk h]
theorem UH{α β:Type}(sD:α->Dat)(xs:List α)(f:α->β)(ee:β->Dat){it:FI}{k:Nat}{el:FE}{ρ ρ1:Env}{Q:Val->Env->Prop}
  (q:Q (.new (.lst ((xs.map f).map ee))) ρ1) (Kf:it ρ=some (xs.map sD,ρ1)) (hk:ρ1.length=k) (hk0:k≠0) (hl:xs.length<=SZ)
  (he:∀x∈xs,We el (ρ1++[.sh (sD x)]) fun w ρ'=>Wk ρ' w fun d ρ''=>d=ee (f x)/\ρ''=ρ1++[.sh (sD x)]):We (b9 it 1 (bN k) b8 el) ρ Q:=
 U4 sD xs (fun _=>true) (fun x=>ee (f x)) (by rw[R8.mpr (fun _ _=>rfl)];rw[QX]at q;exact q) Kf hk hk0 hl (fun _ _=>Vb ⟨rfl,rfl⟩) fun x hx _=>he x hx
theorem UE{α β:Type}(sD:α->Dat)(xs:List α)(f:α->β)(ee:β->Dat){i:Nat}{k:Nat}{el:FE}{ρ:Env}{Q:Val->Env->Prop}{d:Dat}
  (q:Q (.new (.lst ((xs.map f).map ee))) ρ) (hi:ρ[i]?=some (.sh d)) (hd:BB d=some (xs.map sD)) (hk:ρ.length=k) (hk0:k≠0) (hl:xs.length<=SZ)
  (he:∀x∈xs,We el (ρ++[.sh (sD x)]) fun w ρ'=>Wk ρ' w fun d ρ''=>d=ee (f x)/\ρ''=ρ++[.sh (sD x)]):We (aV i 1 (bN k) b8 el) ρ Q:=
 Vp sD xs (fun _=>true) (fun x=>ee (f x)) (by rw[R8.mpr (fun _ _=>rfl)];rw[QX]at q;exact q) hi hd hk hk0 hl (fun _ _=>Vb ⟨rfl,rfl⟩) fun x hx _=>he x hx
theorem UW{α β:Type}(sD:α->Dat)(xs:List α)(f:α->β)(ee:β->Dat){i:Nat}{k:Nat}{el:FE}{ρ ρ1:Env}{Q:Val->Env->Prop}
  (q:Q (.new (.lst ((xs.map f).map ee))) ρ) (hi:ρ[i]?=some (.ow (.lst (xs.map sD)))) (h1:ρ.set i .un=ρ1) (hk:ρ.length=k) (hk0:k≠0) (hl:xs.length<=SZ)
  (he:∀x∈xs,We el (ρ1++[.sh (sD x)]) fun w ρ'=>Wk ρ' w fun d ρ''=>d=ee (f x)/\ρ''=ρ1++[.sh (sD x)]):We (aV i 1 (bN k) b8 el) ρ Q:=
 Vz sD xs (fun _=>true) (fun x=>ee (f x)) (by rw[R8.mpr (fun _ _=>rfl)];rw[QX]at q;exact q) hi h1 hk hk0 hl (fun _ _=>Vb ⟨rfl,rfl⟩) fun x hx _=>he x hx
theorem Ve{α β:Type}(sD:α->Dat)(xs:List α)(p:α->Bool)(f:α->β)(ee:β->Dat){i:Nat}{k:Nat}{t:FT}{el:FE}{ρ:Env}{Q:Val->Env->Prop}{d:Dat}
  (q:Q (.new (.lst (((xs.filter p).map f).map ee))) ρ) (hi:ρ[i]?=some (.sh d)) (hd:BB d=some (xs.map sD)) (hk:ρ.length=k) (hk0:k≠0) (hl:xs.length<=SZ)
  (ht:∀x∈xs,Wt t (ρ++[.sh (sD x)]) fun c ρ'=>c=p x/\ρ'=ρ++[.sh (sD x)])
  (he:∀x∈xs,p x=true->We el (ρ++[.sh (sD x)]) fun w ρ'=>Wk ρ' w fun d ρ''=>d=ee (f x)/\ρ''=ρ++[.sh (sD x)]):We (aV i 1 (bN k) t el) ρ Q:=
 Vp sD xs p (fun x=>ee (f x)) (by rw[QX]at q;exact q) hi hd hk hk0 hl ht he
theorem xw(i j:Int):gEq (.int i) (.int j)=vB (decide (i=j)):=by
 have:(i == j)=decide (i=j):=by by_cases h:i=j<;>simp[h]
 show vB (i == j)=_;rw[this]
theorem qD(i j:Int):gNe (.int i) (.int j)=vB (!decide (i=j)):=by
 have:(i == j)=decide (i=j):=by by_cases h:i=j<;>simp[h]
 show vB (!(i == j))=_;rw[this]
theorem Ud(k:K (.val (.bl (decide (i=j)))))(ho:o=some (.int i))(hp:p=some (.int j)):Wg2 gEq o p K:=⟨_,_,_,ho,hp,xw i j,k⟩
theorem UD(k:K (.val (.bl (!decide (i=j)))))(ho:o=some (.int i))(hp:p=some (.int j)):Wg2 gNe o p K:=⟨_,_,_,ho,hp,qD i j,k⟩
theorem US{i j:Bool}(k:K (.val (.bl (!(i == j)))))(ho:o=some (.bl i))(hp:p=some (.bl j)):Wg2 gNe o p K:=⟨_,_,_,ho,hp,rfl,k⟩
theorem UO(k:K (.val (.bl (decide (i<j)))))(ho:o=some (.int i))(hp:p=some (.int j)):Wg2 gLt o p K:=⟨_,_,_,ho,hp,rfl,k⟩
theorem Vj(k:K (.val (.bl (decide (i<=j)))))(ho:o=some (.int i))(hp:p=some (.int j)):Wg2 gLe o p K:=⟨_,_,_,ho,hp,rfl,k⟩
theorem UA(k:K (.val (.bl (decide (j<i)))))(ho:o=some (.int i))(hp:p=some (.int j)):Wg2 gGt o p K:=⟨_,_,_,ho,hp,rfl,k⟩
theorem UM(k:K (.val (.bl (decide (j<=i)))))(ho:o=some (.int i))(hp:p=some (.int j)):Wg2 gGe o p K:=⟨_,_,_,ho,hp,rfl,k⟩
theorem Tv(k:K (.val (.int (i+j))))(ho:o=some (.int i))(hp:p=some (.int j)):Wg2 bA o p K:=⟨_,_,_,ho,hp,rfl,k⟩
theorem UZ{xs ys:List Dat}(k:K (.new (.lst (xs++ys))))(ho:o=some (.lst xs))(hp:p=some (.lst ys))(h:xs.length+ys.length<=SZ):Wg2 bA o p K:=⟨_,_,_,ho,hp,by unfold bA;dsimp only;rw[if_pos h],k⟩
theorem Ug(k:K (.val (.int (i-j))))(ho:o=some (.int i))(hp:p=some (.int j)):Wg2 jq o p K:=⟨_,_,_,ho,hp,rfl,k⟩
theorem T7(k:K (.val (.int (i*j))))(ho:o=some (.int i))(hp:p=some (.int j))(h:(-B64<i/\i<B64)\/(-B64<j/\j<B64)):Wg2 gm o p K:=⟨_,_,_,ho,hp,by unfold gm;dsimp only;rw[if_pos h],k⟩
theorem UR(k:K (.val (.int (i / j))))(ho:o=some (.int i))(hp:p=some (.int j))(h:0<j/\j<fh):Wg2 yQ o p K:=⟨_,_,_,ho,hp,by unfold yQ;dsimp only;rw[if_pos h],k⟩
theorem T5(k:K (.val (.int (i % j))))(ho:o=some (.int i))(hp:p=some (.int j))(h:0<j):Wg2 fW o p K:=⟨_,_,_,ho,hp,by unfold fW;dsimp only;rw[if_pos h],k⟩
theorem Uv{i j z:Int}(k:K (.val (.int z)))(ho:o=some (.int i))(hp:p=some (.int j))(h:0<=j/\j<=1000000/\i.natAbs<1000000)(hz:i ^ j.toNat=z):Wg2 gn o p K:=⟨_,_,_,ho,hp,by unfold gn;dsimp only;rw[if_pos h,hz],k⟩
theorem To{d e:Dat}{v:Dat}(k:K (.val v))(ho:o=some d)(hp:p=some e)(h:gIx d e=some (.val v)):Wg2 gIx o p K:=⟨_,_,_,ho,hp,h,k⟩
theorem jb(sD:α->Dat)(xs:List α)(i:Int)(h0:0<=i)(h1:i<xs.length):atI (xs.map sD) i=some (sD (xs[i.toNat]'(by omega))):=by unfold atI ixN;rw[Dp,if_pos h0,if_pos h1];show (xs.map sD)[i.toNat]?=_;rw[Qm,Ql (by lia)];rfl
theorem U7{sD:α->Dat}{xs:List α}{i:Int}(h0:0<=i)(h1:i<xs.length)(k:K (.val (sD (xs[i.toNat]'(by lia)))))(ho:o=some (.lst (xs.map sD)))(hp:p=some (.int i)):Wg2 gIx o p K:=
 ⟨_,_,_,ho,hp,by unfold gIx;dsimp only;rw[jb sD xs i h0 h1];rfl,k⟩
theorem xx(i:Int)(xs:List Int):inD (.int i) (xs.map Dat.int)=decide (i∈xs):=by
 induction xs with
 |nil=>rfl
 |cons x xs ih=>
  have ih':(xs.map Dat.int).any (fun y=>eqD y (.int i))=decide (i∈xs):=ih;unfold inD;rw[Qa,RB,ih'];show ((x == i)||_)=_;by_cases h:x=i
  ·simp[h]
  ·have h':¬i=x:=fun z=>h z.symm;simp[h,h']
theorem BC(xs:List Int):(xs.map Dat.int).all (okD 7)=true:=by rw[Q3];intro d hd;obtain⟨x,_,rfl⟩:=Qp.mp hd;rfl
theorem Vy{i:Int}{xs:List Int}(k:K (.val (.bl (!decide (i∈xs)))))(ho:o=some (.int i))(hp:p=some (.lst (xs.map Dat.int))):Wg2 jz o p K:=
 ⟨_,_,_,ho,hp,by unfold jz;dsimp only;rw[show okD 8 (.int i)=true from rfl,BC,xx];rfl,k⟩
theorem UG{i:Int}{xs:List Int}(k:K (.val (.bl (decide (i∈xs)))))(ho:o=some (.int i))(hp:p=some (.tup (xs.map Dat.int))):Wg2 gIn o p K:=
 ⟨_,_,_,ho,hp,by unfold gIn;dsimp only;rw[show okD 8 (.int i)=true from rfl,BC,xx];rfl,k⟩
theorem UQ{i:Int}(k:K (.val (.bl (bC ks vs i).isSome)))(ho:o=some (.int i))(hp:p=some (.dct ks vs)):Wg2 za o p K:=⟨_,_,_,ho,hp,rfl,k⟩
theorem Vf{i:Int}(k:K (.val (.bl (!(bC ks vs i).isSome))))(ho:o=some (.int i))(hp:p=some (.dct ks vs)):Wg2 r9 o p K:=⟨_,_,_,ho,hp,rfl,k⟩
theorem UY{i:Int}(h:bC ks vs i=some d)(k:K (.val d))(ho:o=some (.dct ks vs))(hp:p=some (.int i)):Wg2 gDx o p K:=⟨_,_,_,ho,hp,by unfold gDx;dsimp only;rw[h];rfl,k⟩
theorem Vi{o:Option (List Dat)}(k:K (.val (.int xs.length)))(ho:o=some [.lst xs]):WB eW o K:=⟨_,_,ho,rfl,k⟩
theorem U8{o:Option (List Dat)}(k:K (.val (.int xs.length)))(ho:o=some [.tup xs]):WB eW o K:=⟨_,_,ho,rfl,k⟩
theorem Uh{o:Option (List Dat)}(k:K (.val (.int (if j<i then j else i))))(ho:o=some [.int i,.int j]):WB f6 o K:=⟨_,_,ho,rfl,k⟩
theorem Uw{o:Option (List Dat)}(k:K (.val (.int (if j>i then j else i))))(ho:o=some [.int i,.int j]):WB jW o K:=⟨_,_,ho,rfl,k⟩
theorem U3{o:Option (List Dat)}(k:K (.new (.lst xs)))(ho:o=some [.lst xs]):WB rO o K:=⟨_,_,ho,rfl,k⟩
theorem U1{b:Bool}{o:Option (List Dat)}(k:K (.val (.int (b2i b))))(ho:o=some [.bl b]):WB yR o K:=⟨_,_,ho,rfl,k⟩
theorem Ub{o:Option Dat}(k:K v)(ho:o=some d)(h:g d=some v):Wg1 g o K:=⟨_,_,ho,h,k⟩
theorem fR{Q:List Dat->Prop}(q:Q xs):∃ds,BB (.lst xs)=some ds/\Q ds:=⟨_,rfl,q⟩
theorem ndT{p:Prop}[Decidable p](h:(!decide p)=true):¬p:=by intro z;rw[decide_eq_true z]at h;cases h
theorem ndF{p:Prop}[Decidable p](h:(!decide p)=false):p:=Sb fun z=>by rw[decide_eq_false z]at h;cases h
theorem Fj(xs:List Dat)(h:okD 8 (.lst xs)=true):gEq (.lst xs) (.lst [])=vB xs.isEmpty:=by unfold gEq;rw[h];cases xs<;>rfl
theorem Nu(sD:α->Dat)(xs:List α)(h:∀x,okD 7 (sD x)=true):okD 8 (.lst (xs.map sD))=true:=by unfold okD;rw[Q3];intro d hd;obtain⟨x,_,rfl⟩:=Qp.mp hd;exact h x
theorem Vl(k:K (.val (.bl xs.isEmpty)))(ho:o=some (.lst xs))(hp:p=some (.lst []))(h:okD 8 (.lst xs)=true):Wg2 gEq o p K:=⟨_,_,_,ho,hp,Fj xs h,k⟩
theorem Up{sD:α->Dat}{xs:List α}{o:Option (List Dat)}(k:K (.val (.int xs.length)))(ho:o=some [.lst (xs.map sD)]):WB eW o K:=⟨_,_,ho,by unfold eW;dsimp only;rw[Dp],k⟩
theorem Vs{s:FS}{N N':Env->Prop}(h:Ws s ρ N' R B C)(k:∀ρ',N' ρ'->N ρ'):Ws s ρ N R B C:=by
 obtain⟨o,h1,h2⟩:=h;cases o with
 |nx ρ1=>exact⟨.nx ρ1,h1,k _ h2⟩
 |ret r ρ1=>exact⟨.ret r ρ1,h1,h2⟩
 |bk ρ1=>exact⟨.bk ρ1,h1,h2⟩
 |ct ρ1=>exact⟨.ct ρ1,h1,h2⟩
theorem qE{i:Nat}{W:Prop}(h:ρ[i]?=some (.ow d))(w:W):(∃d0,ρ[i]?=some (.ow d0))/\W:=⟨⟨d,h⟩,w⟩
theorem Vq(q:Q (.new (.dct [] [])) ρ):We eDn ρ Q:=⟨_,_,rfl,q⟩
theorem Vr{a b:FE}(h:We a ρ fun v ρ1=>bV v fun i=>We b ρ1 fun x ρ2=>Wk ρ2 x fun d ρ3=>Q (.new (.dct [i] [d])) ρ3):We (eD1 a b) ρ Q:=by obtain⟨v,ρ1,h1,i,rfl,x,ρ2,h2,d,ρ3,h3,q⟩:=h;exact⟨_,_,by unfold eD1;rw[h1];dsimp only;rw[h2];dsimp only;rw[h3],q⟩
theorem bU{ρ ρ1 ρ2:Env}{W:Env->Prop}(h:bd d ρ=some ρ1)(hn:ρ1=ρ2)(w:W ρ2):∃ρ1,bd d ρ=some ρ1/\W ρ1:=⟨ρ1,h,hn▸w⟩
theorem BE(sD:α->Dat)(p:α->Bool)(v:α->Dat)(bd:FB)(t:FT)(el:FE)(e0:Env)(env:α->Env)(h0:∀x,bd (sD x) e0=some (env x))(h1:∀x y,bd (sD x) (env y)=some (env x)):∀(xs:List α) (En:List Dat) (e:Env),(e=e0\/∃y,e=env y) ->
  (∀x∈xs,t (env x)=some (p x,env x))->(∀x∈xs,p x=true->We el (env x) fun w ρ'=>Wk ρ' w fun d ρ''=>d=v x/\ρ''=env x) ->
  ∃e',(e'=e0\/∃y,e'=env y)/\cA bd t el (xs.map sD) e En=some (En++(xs.filter p).map v,e')
 |[],En,e,he,_,_=>⟨e,he,by simp[cA]⟩
 |x::xs,En,e,he,ht,hel=>by
  have hb:bd (sD x) e=some (env x):=by
   rcases he with rfl | ⟨y,rfl⟩
   ·exact h0 x
   ·exact h1 x y
  rw[Qa,cA,hb];dsimp only;rw[ht x Qe];have ht':=fun y hy=>ht y (Qg _ hy);have he':=fun y hy=>hel y (Qg _ hy);by_cases h:p x=true
  ·obtain⟨w,ρ',g1,d,ρ'',g2,rfl,rfl⟩:=hel x Qe h;rw[h];dsimp only;rw[g1];dsimp only;rw[g2];obtain⟨e',q,z⟩:=BE sD p v bd t el e0 env h0 h1 xs (En++[v x]) _ (.inr ⟨x,rfl⟩) ht' he';exact⟨e',q,by dsimp only;rw[z,Q6 h];simp⟩
  ·rw[Bool.not_eq_true]at h;rw[h];obtain⟨e',q,z⟩:=BE sD p v bd t el e0 env h0 h1 xs En _ (.inr ⟨x,rfl⟩) ht' he';exact⟨e',q,by dsimp only;rw[z,Q5 (by rw[h];decide)]⟩
theorem VH{α β:Type}(sD:α->Dat)(xs:List α)(p:α->Bool)(f:α->β)(ee:β->Dat)(env:α->Env){it:FI}{own:Nat}{bd:FB}{t:FT}{el:FE}{ρ ρ1:Env}{Q:Val->Env->Prop}
  (q:Q (.new (.lst (((xs.filter p).map f).map ee))) ρ1) (Kf:it ρ=some (xs.map sD,ρ1)) (h0:∀x,bd (sD x) (ρ1++Qd own .un)=some (env x)) (h1:∀x y,bd (sD x) (env y)=some (env x)) (h2:∀x,(env x).take ρ1.length=ρ1) (hl:xs.length<=SZ)
  (ht:∀x∈xs,Wt t (env x) fun c ρ'=>c=p x/\ρ'=env x)
  (he:∀x∈xs,p x=true->We el (env x) fun w ρ'=>Wk ρ' w fun d ρ''=>d=ee (f x)/\ρ''=env x):We (b9 it own bd t el) ρ Q:=by
 obtain⟨e',q',e⟩:=BE sD p (fun x=>ee (f x)) bd t el _ env h0 h1 xs [] _ (.inl rfl) (fun x hx=>Uu (ht x hx)) he;refine⟨_,_,?_,q⟩;unfold b9;rw[Kf];dsimp only;rw[if_pos (by rw[Dp];exact hl),e];dsimp only;rw[Ry,QX];have:e'.take ρ1.length=ρ1:=by
  rcases q' with rfl | ⟨y,rfl⟩
  ·exact SA
  ·exact h2 y
 rw[this];rfl
theorem Uz{o:Option (List Dat)}(k:K (.val (.tup xs)))(ho:o=some [.lst xs]):WB fk o K:=⟨_,_,ho,rfl,k⟩
noncomputable def ltI(a b:Int):Bool:=decide (a<b)
theorem l_(ns:List Int):j4 (ns.map Dat.int)=some ns:=by
 induction ns with
 |nil=>rfl
 |cons m ms ih=>rw[Qa,j4,ih];rfl
theorem oM(ns:List Int):(eN ltI ns).Pairwise (fun a b=>ltI b a=false):=d8 (fun a b c h1 h2=>by simp[ltI]at *;lia) (fun a b h=>by simp[ltI]at *;lia) ns
theorem UX{t:FT}{body:FS}{N:Env->Prop}{R:RV->Env->Prop}{B C:Env->Prop}(I:Nat->Env->Prop)
  (hs:∀k ρ,I k ρ->Wt t ρ fun c ρ1=>Wif c (Ws body ρ1 (fun ρ2=>∃k',k'<k/\I k' ρ2) R N (fun ρ2=>∃k',k'<k/\I k' ρ2)) (N ρ1)):∀(n k:Nat) (ρ:Env),k<n->I k ρ->Ws (whD t body n) ρ N R B C
 |0,k,_,h,_=>absurd h (Nat.not_lt_zero k)
 |n+1,k,ρ,h,i=>by
  obtain⟨c,ρ1,h1,h2,h3⟩:=hs k ρ i;cases c with
  |false=>exact⟨.nx _,by rw[whD,h1],h3 rfl⟩
  |true=>
   obtain⟨o,h4,h5⟩:=h2 rfl;cases o with
   |nx ρ2=>obtain⟨k',hk,i'⟩:=h5;obtain⟨o,h6,h7⟩:=UX (N:=N) (R:=R) (B:=B) (C:=C) I hs n k' ρ2 (by lia) i';exact⟨o,by rw[whD,h1];dsimp only;rw[h4];exact h6,h7⟩
   |ct ρ2=>obtain⟨k',hk,i'⟩:=h5;obtain⟨o,h6,h7⟩:=UX (N:=N) (R:=R) (B:=B) (C:=C) I hs n k' ρ2 (by lia) i';exact⟨o,by rw[whD,h1];dsimp only;rw[h4];exact h6,h7⟩
   |bk ρ2=>exact⟨.nx _,by rw[whD,h1];dsimp only;rw[h4],h5⟩
   |ret r ρ2=>exact⟨.ret _ _,by rw[whD,h1];dsimp only;rw[h4],h5⟩
theorem zp(p:α->Bool)(xs:List α):bools (xs.map fun x=>Dat.bl (p x))=some (xs.map p):=by
 induction xs with
 |nil=>rfl
 |cons x xs ih=>rw[Qa,bools,ih];rfl
theorem UI(p:α->Bool){xs:List α}{o:Option (List Dat)}(k:K (.val (.bl (xs.all p))))(ho:o=some [.lst (xs.map fun x=>Dat.bl (p x))]):WB qf o K:=⟨_,_,ho,by
 unfold qf;dsimp only;rw[zp];have:(xs.map p).all id=xs.all p:=by rw[List.all_map];rfl
 dsimp only;rw[this],k⟩
theorem VF{a b:FE}(h:We a ρ fun x ρ1=>(∃ks vs,pk ρ1 x=some (.dct ks vs))/\We b ρ1 fun y ρ2=>∃ks vs i,pk ρ2 x=some (.dct ks vs)/\pk ρ2 y=some (.int i)/\Q (.val ((bC ks vs i).getD .non)) ρ2):We (j3 a b) ρ Q:=by obtain⟨x,ρ1,h1,⟨ks,vs,h2⟩,y,ρ2,h3,ks',vs',i,h4,h5,q⟩:=h;exact⟨_,_,by unfold j3;rw[h1];dsimp only;rw[h2];dsimp only;rw[h3];dsimp only;rw[h4];dsimp only;rw[h5],q⟩
theorem U5(k:K (.val (.bl (Dm.isN d))))(ho:o=some d)(hp:p=some .non):Wg2 vm o p K:=⟨_,_,_,ho,hp,by cases d<;>rfl,k⟩
theorem VE{ns:List Int}{o:Option (List Dat)}(k:K (.val (.int (gq ns))))(ho:o=some [.lst (ns.map Dat.int)]):WB pG o K:=⟨_,_,ho,by unfold pG;dsimp only;rw[l_],k⟩
theorem VI{j:Int}{o:Option (List Dat)}(k:K (.new (.lst (ups 0 j.toNat))))(ho:o=some [.int j])(h:j<=1000000/\-1000000<=j):WB pC o K:=⟨_,_,ho,by unfold pC;dsimp only;rw[if_pos h],k⟩
theorem T3(J:Env->Prop)(h1:Ws s ρ J R B C)(h2:∀ρ',J ρ'->Ws u ρ' N R B C):Ws (aA s u) ρ N R B C:=Tn (Vs h1 h2)
def WrM(o:Option (RV×Dat))(P:RV->Dat->Prop):Prop:=∃z d,o=some (z,d)/\P z d
theorem Uk{r:List Dat}{P:RV->Dat->Prop}(b:Ws body ρ (fun ρ'=>∃d',ρ'[0]?=some (.ow d')/\P (.val .non) d') (fun z ρ'=>∃d',ρ'[0]?=some (.ow d')/\P z d') (fun _=>False) (fun _=>False))(hρ:Cell.ow d::(r.map Cell.sh++Qd m .un)=ρ)(h:(d::r).length=n):WrM (fnM n m body (d::r)) P:=by
 obtain⟨o,h1,h2⟩:=b;cases o with
 |nx ρ1=>obtain⟨d',h3,h4⟩:=h2;exact⟨_,_,by unfold fnM;rw[if_pos h];dsimp only;rw[hρ,h1];dsimp only;rw[h3],h4⟩
 |ret z ρ1=>obtain⟨d',h3,h4⟩:=h2;exact⟨_,_,by unfold fnM;rw[if_pos h];dsimp only;rw[hρ,h1];dsimp only;rw[h3],h4⟩
 |bk ρ1=>exact h2.elim
 |ct ρ1=>exact h2.elim
def WFm(f:List Dat->Option (RV×Dat))(j:Nat)(ρ1:Env)(xs:List Val)(Q:Val->Env->Prop):Prop:=
 ∃d1 ds ρ2 d v d',ρ1[j]?=some (.ow d1)/\tks ρ1 xs=some (ds,ρ2)/\ρ2[j]?=some (.ow d)/\f (d::ds)=some (v,d')/\(if (flat v.dat&&vj d')=true then Q v.br (ρ1.set j (.ow d')) else Q v.br (ρ2.set j (.ow d')))
theorem UK{f:List Dat->Option (RV×Dat)}{j:Nat}{d0:Dat}(h:Was as ρ fun xs ρ1=>WFm f j ρ1 xs Q)(h0:ρ[j]?=some (.ow d0)):We (eFm f j as) ρ Q:=by
 obtain⟨xs,ρ1,h1,d1,ds,ρ2,d,v,d',h2,h3,h4,h5,q⟩:=h;by_cases c:(flat v.dat&&vj d')=true
 ·rw[if_pos c]at q;exact⟨_,_,by unfold eFm;rw[h0];dsimp only;rw[h1];dsimp only;rw[h2];dsimp only;rw[h3];dsimp only;rw[h4];dsimp only;rw[h5];dsimp only;rw[if_pos c],q⟩
 ·rw[if_neg c]at q;exact⟨_,_,by unfold eFm;rw[h0];dsimp only;rw[h1];dsimp only;rw[h2];dsimp only;rw[h3];dsimp only;rw[h4];dsimp only;rw[h5];dsimp only;rw[if_neg c],q⟩
theorem Uy{f:List Dat->Option (RV×Dat)}{j:Nat}{ρ1 ρ3:Env}{xs:List Val}{d d':Dat}(h5:f (d::ds)=some (v,d'))(q:Q v.br ρ3)(h2:ρ1[j]?=some (.ow d))(h3:tks ρ1 xs=some (ds,ρ1))(hn:ρ1.set j (.ow d')=ρ3):WFm f j ρ1 xs Q:=
 ⟨_,_,_,_,_,_,h2,h3,h2,h5,by rw[hn];split<;>exact q⟩
theorem U9(h:Was as ρ fun xs ρ1=>∃ds ρ2 v,vq ρ1 xs=some (ds,ρ2)/\f ds=some v/\bw v.dat=true/\Q v.br ρ2):We (eFd f as) ρ Q:=by obtain⟨xs,ρ1,h1,ds,ρ2,v,h2,h3,h4,q⟩:=h;exact⟨_,_,by unfold eFd;rw[h1];dsimp only;rw[h2];dsimp only;rw[h3];dsimp only;rw[if_pos h4],q⟩
theorem jK:∀(xs:List Dat),(∀x∈xs,bw x=true)->fD xs=true
 |[],_=>by unfold fD;rfl
 |x::xs,h=>by unfold fD;rw[h x Qe,jK xs fun y hy=>h y (Qg _ hy)];rfl
theorem fS(sD:α->Dat)(xs:List α)(h:∀x,bw (sD x)=true):bw (.lst (xs.map sD))=true:=by unfold bw;exact jK _ fun d hd=>by obtain⟨x,_,rfl⟩:=Qp.mp hd;exact h x
theorem pN(i:Int):bw (.int i)=true:=by unfold bw;rfl
theorem vG(xs:List Int):bw (.lst (xs.map Dat.int))=true:=fS _ _ pN
theorem Vt{o:Option (List Dat)}(k:K (.new (.dct ks vs)))(ho:o=some [.dct ks vs]):WB r_ o K:=⟨_,_,ho,rfl,k⟩
theorem VG{o:Option (List Dat)}(k:K (.new (.lst ((eN ltI ks).map Dat.int))))(ho:o=some [.dct ks vs])(h:ks.length<=63):WB jH o K:=⟨_,_,ho,by unfold jH;dsimp only;rw[if_pos h];rfl,k⟩
theorem Vo{i:Nat}{ρ ρ2:Env}(hl:bC ks vs k=some d)(q:Q (.val d) ρ2)(h:ρ[i]?=some (.ow (.dct ks vs)))(he:e ρ=some (.val (.int k),ρ))(hs:ρ.set i (.ow (.dct (d9 ks vs k) (d_ ks vs k)))=ρ2):We (lX i e) ρ Q:=⟨_,_,by unfold lX;rw[h];dsimp only;rw[he];dsimp only;rw[h];dsimp only;rw[hl];dsimp only;rw[hs],q⟩
theorem U0{ρ ρ1:Env}(h:Wi it ρ fun x y=>x=ds/\y=ρ1):it ρ=some (ds,ρ1):=by obtain⟨_,_,h1,rfl,rfl⟩:=h;exact h1
theorem VA{a b c:FE}{i j k:Int}{Q:List Dat->Env->Prop}(ha:a ρ=some (.val (.int i),ρ))(hb:b ρ=some (.val (.int j),ρ))(hc:c ρ=some (.val (.int k),ρ))(hk:(0<k/\k<=1000)/\j<=BIG/\-BIG<=j/\i<=BIG/\-BIG<=i)(q:Q (gw i k (cF i j k)) ρ):Wi (iRs a b c) ρ Q:=⟨_,_,by unfold iRs;rw[ha];dsimp only;rw[hb];dsimp only;rw[hc];dsimp only;rw[if_pos hk],q⟩
theorem Vm{ρ ρ':Env}{v:Val}(h:We e ρ fun x y=>x=v/\y=ρ'):e ρ=some (v,ρ'):=by obtain⟨_,_,h1,rfl,rfl⟩:=h;exact h1
theorem Vd{f:List Dat->Option (RV×Dat)}{e0:FE}(h:Was (e0::as) ρ fun xs ρ1=>∃d ys ds v d',xs=.new d::ys/\jI ys=some ds/\f (d::ds)=some (v,d')/\Q v.br ρ1):We (eFn f e0 as) ρ Q:=by obtain⟨xs,ρ1,h1,d,ys,ds,v,d',rfl,h2,h3,q⟩:=h;refine⟨_,_,?_,q⟩;unfold eFn;rw[h1];dsimp only;rw[h2];dsimp only;rw[h3]
end
end Dm
namespace Fl
section
variable{r:List Tie}{S:Int->Bool}{R:Int->Step->Prop}{w:List Step}{p q:Int}{a b:Int}{t:Tie}{k:Nat}
structure Tie where
 m:Int
 a:Int
 b:Int
deriving Inhabited
noncomputable def one(b:Bool):Int:=if b then 1 else 0
def Ends(t:Tie)(p q:Int):Prop:=t.a≠t.b/\((t.a=p/\t.b=q)\/(t.b=p/\t.a=q))
theorem Ends.symm(h:Ends t p q):Ends t q p:=⟨h.1,h.2.symm.imp (fun x=>⟨x.2,x.1⟩) (fun x=>⟨x.2,x.1⟩)⟩
noncomputable abbrev Hd:=Int->Option Int
noncomputable def val(o:Option Int)(t:Tie)(S:Int->Bool):Int:=
 if t.a=t.b then 0 else if o=some t.b then one (S t.a)-one (S t.b) else if o=some t.a then one (S t.b)-one (S t.a) else 0
noncomputable def cQ(r:List Tie)(H:Hd)(S:Int->Bool):Int:=match r with
 |[]=>0
 |t::r=>val (H t.m) t S+cQ r H S
noncomputable def put(H:Hd)(m:Int)(o:Option Int):Hd:=fun x=>if x=m then o else H x
theorem zq{H H':Hd}(h:∀t∈r,H t.m=H' t.m):cQ r H S=cQ r H' S:=by
 induction r with
 |nil=>rfl
 |cons t r ih=>rw[cQ,cQ,h t Qe,ih fun u hu=>h u (Qg _ hu)]
theorem sF(nd:(r.map (·.m)).Nodup)(ht:t∈r)(H:Hd)(o:Option Int)(S:Int->Bool):cQ r (put H t.m o) S=cQ r H S-val (H t.m) t S+val o t S:=by
 induction r with
 |nil=>cases ht
 |cons u r ih=>
  rw[Qa,Qv]at nd;rcases Qk.mp ht with rfl | ht'
  ·rw[cQ,cQ];have e1:put H t.m o t.m=o:=by unfold put;rw[if_pos rfl]
   rw[e1,zq (H:=put H t.m o) (H':=H) fun v hv=>?_]
   ·lia
   ·unfold put;rw[if_neg fun e=>?_];exact nd.1 (Qp.mpr ⟨v,hv,e⟩)
  ·have Pu:u.m≠t.m:=fun e=>nd.1 (Qp.mpr ⟨t,ht',e.symm⟩);rw[cQ,cQ,ih nd.2 ht'];have e1:put H t.m o u.m=H u.m:=by unfold put;rw[if_neg Pu]
   rw[e1]
   lia
theorem fT(h:Ends t p q)(S:Int->Bool):val (some q) t S=one (S p)-one (S q):=by
 obtain⟨h1,h2⟩:=h;unfold val;rw[if_neg h1];rcases h2 with⟨rfl,rfl⟩ | ⟨rfl,rfl⟩
 ·rw[if_pos rfl]
 ·rw[if_neg (by intro e;injection e with e;exact h1 e),if_pos rfl]
theorem fF(t:Tie)(S:Int->Bool):val none t S=0:=by
 unfold val;split
 ·rfl
 ·simp
def Ok(r:List Tie)(H:Hd):Prop:=∀t∈r,∀x,H t.m=some x->x=t.a\/x=t.b
noncomputable def fG(H:Hd)(m q:Int):Hd:=put H m (if (H m).isSome then none else some q)
theorem vH(nd:(r.map (·.m)).Nodup){H:Hd}(ok:Ok r H)(ht:t∈r)(he:Ends t p q)(hf:H t.m≠some q)(S:Int->Bool) :
  cQ r (fG H t.m q) S=cQ r H S+one (S p)-one (S q):=by
 unfold fG;rw[sF nd ht];cases e:H t.m with
 |none=>
  simp only[Option.isSome_none,RI,if_false];rw[fF,fT he]
  lia
 |some x=>
  have hx:=ok t ht x e;have:x=p:=by
   rw[e]at hf;have hxq:x≠q:=fun z=>hf (by rw[z]);obtain⟨_,h2⟩:=he
   lia
  subst this;simp only[Option.isSome_some,if_true];rw[fF,fT he.symm]
  lia
theorem uniq(nd:(r.map (·.m)).Nodup){u t:Tie}(hu:u∈r)(ht:t∈r)(e:u.m=t.m):u=t:=by
 induction r with
 |nil=>cases hu
 |cons v r ih=>
  rw[Qa,Qv]at nd;rcases Qk.mp hu with rfl | h1
  ·rcases Qk.mp ht with rfl | h2
   ·rfl
   ·exact absurd (Qp.mpr ⟨t,h2,e.symm⟩) nd.1
  ·rcases Qk.mp ht with rfl | h2
   ·exact absurd (Qp.mpr ⟨u,h1,e⟩) nd.1
   ·exact ih nd.2 h1 h2
theorem BF(nd:(r.map (·.m)).Nodup){H:Hd}(ok:Ok r H)(ht:t∈r)(he:Ends t p q):Ok r (fG H t.m q):=by
 intro u hu x hx;unfold fG put at hx;by_cases e:u.m=t.m
 ·rw[if_pos e]at hx;have:u=t:=uniq nd hu ht e;subst this;split at hx
  ·cases hx
  ·injection hx with hx
   obtain⟨_,h2⟩:=he
   lia
 ·rw[if_neg e]at hx;exact ok u hu x hx
noncomputable abbrev Step:=Int×Int
def Way(R:Int->Step->Prop):Int->List Step->Int->Prop
 |x,[],y=>x=y
 |x,s::w,y=>R x s/\Way R s.2 w y
theorem Way.snoc:∀{w:List Step} {x y:Int} {s:Step},Way R x w y->R y s->Way R x (w++[s]) s.2
 |[],_,_,_,h,k=>by cases h;exact⟨k,rfl⟩
 |_::_,_,_,_,h,k=>⟨h.1,Way.snoc h.2 k⟩
theorem Way.mono{R R':Int->Step->Prop}(h:∀p s,R p s->R' p s):∀{w:List Step} {x y:Int},Way R x w y->Way R' x w y
 |[],_,_,k=>k
 |_::_,_,_,k=>⟨h _ _ k.1,Way.mono h k.2⟩
def fH(r:List Tie)(p:Int)(s:Step):Prop:=∃t∈r,t.m=s.1/\Ends t p s.2
def mh(r:List Tie)(H:Hd)(p:Int)(s:Step):Prop:=fH r p s/\H s.1≠some s.2
def Led(r:List Tie)(H:Hd)(p:Int)(s:Step):Prop:=fH r p s/\H s.1=some s.2
theorem jL(nd:(r.map (·.m)).Nodup)(hR:∀p s,R p s->fH r p s){x y:Int}{s:Step}(h:Way R x (s::w) y)(hn:(x::(s::w).map (·.2)).Nodup):∀u∈w,u.1≠s.1:=by
 obtain⟨h1,h2⟩:=h;obtain⟨t,ht,hm,he⟩:=hR _ _ h1;have main:∀(w:List Step) (z:Int),Way R z w y->(∀u∈w,u.2≠x/\u.2≠s.2)->∀u∈w,u.1≠s.1:=fun w=>by
  induction w with
  |nil=>intro z _ _ u hu;cases hu
  |cons v w ih=>
   intro z hw hd u hu;rcases Qk.mp hu with rfl | hu
   ·intro e;obtain⟨t',ht',hm',he'⟩:=hR _ _ hw.1;have:=uniq nd ht' ht (by rw[hm',e,hm]);subst this;obtain⟨d1,d2⟩:=hd u Qe;obtain⟨_,he⟩:=he;obtain⟨_,he'⟩:=he'
    lia
   ·exact ih v.2 hw.2 (fun u hu=>hd u (Qg _ hu)) u hu
 rw[Qa,Qv,Qv]at hn;refine main w s.2 h2 fun u hu=>⟨fun e=>hn.1 ?_,fun e=>hn.2.1 ?_⟩
 ·exact Qg _ (Qp.mpr ⟨u,hu,e⟩)
 ·exact Qp.mpr ⟨u,hu,e⟩
theorem j9(nd:(r.map (·.m)).Nodup)(hR:∀p s,R p s->fH r p s){y:Int}:∀{w:List Step} {x:Int},Way R x w y->(x::w.map (·.2)).Nodup->(w.map (·.1)).Nodup
 |[],_,_,_=>by simp
 |s::w,x,h,hn=>by rw[Qa,Qv];refine⟨fun e=>?_,j9 nd hR h.2 (by rw[Qa,Qv]at hn;exact hn.2)⟩;obtain⟨u,hu,e⟩:=Qp.mp e;exact jL nd hR h hn u hu e
noncomputable def j_(H:Hd):List Step->Hd
 |[]=>H
 |s::w=>j_ (fG H s.1 s.2) w
theorem sG{H:Hd}{m q x:Int}(h:x≠m):fG H m q x=H x:=by unfold fG put;rw[if_neg h]
theorem gA(nd:(r.map (·.m)).Nodup)(S:Int->Bool):∀{w:List Step} {x y:Int} {H:Hd},Ok r H->Way (mh r H) x w y->(x::w.map (·.2)).Nodup ->
  Ok r (j_ H w)/\cQ r (j_ H w) S=cQ r H S+one (S x)-one (S y)
 |[],x,y,H,ok,h,_=>by cases h;exact⟨ok,by rw[j_];lia⟩
 |s::w,x,y,H,ok,h,hn=>by
  have hfr:=jL nd (fun p s h=>h.1) h hn;obtain⟨⟨⟨t,ht,hm,he⟩,hf⟩,h2⟩:=h;have ok1:=BF nd ok ht he;have f1:=vH nd ok ht he (by rw[hm];exact hf) S;rw[hm]at ok1 f1;have h3:Way (mh r (fG H s.1 s.2)) s.2 w y:=by
   have main:∀(w:List Step) (z:Int),(∀u∈w,u.1≠s.1)->Way (mh r H) z w y->Way (mh r (fG H s.1 s.2)) z w y:=fun w=>by
    induction w with
    |nil=>intro _ _ h;exact h
    |cons u w ih=>intro z hu hw;exact⟨⟨hw.1.1,by rw[sG (hu u Qe)];exact hw.1.2⟩,ih u.2 (fun v hv=>hu v (Qg _ hv)) hw.2⟩
   exact main w s.2 hfr h2
  obtain⟨k1,k2⟩:=gA nd S ok1 h3 (by rw[Qa,Qv]at hn;exact hn.2);rw[j_];exact⟨k1,by rw[k2,f1];lia⟩
noncomputable def eO(H:Hd):List Step->Hd
 |[]=>H
 |s::w=>eO (put H s.1 none) w
theorem fJ:∀{w:List Step} {H:Hd} {x:Int},(∀u∈w,u.1≠x)->eO H w x=H x
 |[],_,_,_=>rfl
 |s::w,H,x,h=>by rw[eO,fJ fun u hu=>h u (Qg _ hu)];unfold put;rw[if_neg fun e=>h s Qe e.symm]
theorem gB:∀{w:List Step} {H:Hd} {x:Int},x∈w.map (·.1)->eO H w x=none
 |[],_,_,h=>by cases h
 |s::w,H,x,h=>by
  rw[eO];by_cases e:x∈w.map (·.1)
  ·exact gB e
  ·rw[fJ fun u hu z=>e (Qp.mpr ⟨u,hu,z⟩)];rw[Qa]at h;rcases Qk.mp h with rfl | h
   ·unfold put;rw[if_pos rfl]
   ·exact absurd h e
theorem gC(nd:(r.map (·.m)).Nodup)(S:Int->Bool):∀{w:List Step} {x y:Int} {H:Hd},Ok r H->Way (Led r H) x w y->(x::w.map (·.2)).Nodup ->
  Ok r (eO H w)/\cQ r (eO H w) S=cQ r H S-one (S x)+one (S y)
 |[],x,y,H,ok,h,_=>by cases h;exact⟨ok,by rw[eO];lia⟩
 |s::w,x,y,H,ok,h,hn=>by
  have hfr:=jL nd (fun p s h=>h.1) h hn;obtain⟨⟨⟨t,ht,hm,he⟩,hf⟩,h2⟩:=h;have ok1:Ok r (put H s.1 none):=fun u hu z hz=>by
   unfold put at hz;split at hz
   ·cases hz
   ·exact ok u hu z hz
  have f1:=sF nd ht H none S;rw[fF,hm,hf,fT he]at f1;have h3:Way (Led r (put H s.1 none)) s.2 w y:=by
   have main:∀(w:List Step) (z:Int),(∀u∈w,u.1≠s.1)->Way (Led r H) z w y->Way (Led r (put H s.1 none)) z w y:=fun w=>by
    induction w with
    |nil=>intro _ _ h;exact h
    |cons u w ih=>intro z hu hw;exact⟨⟨hw.1.1,by unfold put;rw[if_neg (hu u Qe)];exact hw.1.2⟩,ih u.2 (fun v hv=>hu v (Qg _ hv)) hw.2⟩
   exact main w s.2 hfr h2
  obtain⟨k1,k2⟩:=gC nd S ok1 h3 (by rw[Qa,Qv]at hn;exact hn.2);rw[eO];exact⟨k1,by rw[k2,f1];lia⟩
noncomputable def over(S:Int->Bool)(t:Tie):Bool:=S t.a != S t.b
theorem BG{H:Hd}(hc:∀p s,S p=true->mh r H p s->S s.2=true):cQ r H S=((r.filter (over S)).length:Nat):=by
 have main:∀(q:List Tie),(∀t∈q,t∈r)->cQ q H S=((q.filter (over S)).length:Nat):=fun q=>by
  induction q with
  |nil=>intro _;rfl
  |cons t q ih=>
   intro hq;rw[cQ,ih fun u hu=>hq u (Qg _ hu)];by_cases ho:over S t=true
   ·rw[Q6 ho];have Pu:t.a≠t.b:=fun e=>by unfold over at ho;rw[e]at ho;simp at ho
    have hv:val (H t.m) t S=1:=by
     unfold over at ho;cases ha:S t.a with
     |true=>
      have hb:S t.b=false:=by rw[ha]at ho;simpa using ho
      have he:Ends t t.a t.b:=⟨Pu,.inl ⟨rfl,rfl⟩⟩
      have:H t.m=some t.b:=Sb fun e=>by have:=hc t.a (t.m,t.b) ha ⟨⟨t,hq t Qe,rfl,he⟩,e⟩;rw[hb]at this;cases this
      rw[this,fT he,ha,hb];rfl
     |false=>
      have hb:S t.b=true:=by rw[ha]at ho;simpa using ho
      have he:Ends t t.b t.a:=⟨Pu,.inr ⟨rfl,rfl⟩⟩
      have:H t.m=some t.a:=Sb fun e=>by have:=hc t.b (t.m,t.a) hb ⟨⟨t,hq t Qe,rfl,he⟩,e⟩;rw[ha]at this;cases this
      rw[this,fT he,ha,hb];rfl
    rw[hv,QT]
    lia
   ·rw[Q5 ho];have hv:val (H t.m) t S=0:=by
     unfold over at ho;have:S t.a=S t.b:=by simpa using ho
     unfold val;rw[this];split
     ·rfl
     ·split
      ·lia
      ·split<;>lia
    rw[hv]
    lia
 exact main r fun _ h=>h
theorem BH{H:Hd}(ok:Ok r H)(hc:∀p s,S p=true->Led r H p s->S s.2=true):cQ r H S<=0:=by
 have main:∀(q:List Tie),(∀t∈q,t∈r)->cQ q H S<=0:=fun q=>by
  induction q with
  |nil=>intro _;exact Sk _
  |cons t q ih=>
   intro hq;rw[cQ];have h1:=ih fun u hu=>hq u (Qg _ hu);have hv:val (H t.m) t S<=0:=by
    by_cases Pu:t.a=t.b
    ·unfold val;rw[if_pos Pu];exact Sk _
    cases e:H t.m with
    |none=>rw[fF];exact Sk _
    |some x=>
     have key:∀p,Ends t p x->val (some x) t S<=0:=fun p he=>by
      rw[fT he];cases hp:S p with
      |false=>cases S x<;>decide
      |true=>have:=hc p (t.m,x) hp ⟨⟨t,hq t Qe,rfl,he⟩,e⟩;rw[this];decide
     rcases ok t (hq t Qe) x e with rfl | rfl
     ·exact key t.b ⟨Pu,.inr ⟨rfl,rfl⟩⟩
     ·exact key t.a ⟨Pu,.inl ⟨rfl,rfl⟩⟩
   lia
 exact main r fun _ h=>h
structure Flow(r:List Tie)(H:Hd)(a b:Int)(k:Nat):Prop where
 ok:Ok r H
 eq:∀S,cQ r H S=(k:Int)*(one (S a)-one (S b))
theorem Flow.zero(r:List Tie)(a b:Int):Flow r (fun _=>none) a b 0:=⟨fun _ _ _ h=>(by cases h),fun S=>by
 induction r with
 |nil=>simp[cQ]
 |cons t r ih=>rw[cQ,fF,ih];simp⟩
theorem Flow.more(nd:(r.map (·.m)).Nodup){H:Hd}(f:Flow r H a b k)(h:Way (mh r H) a w b)(hn:(a::w.map (·.2)).Nodup):Flow r (j_ H w) a b (k+1):=
 ⟨(gA nd (fun _=>true) f.ok h hn).1,fun S=>by
  rw[(gA nd S f.ok h hn).2,f.eq S];have:((k+1:Nat):Int)=(k:Int)+1:=by lia
  rw[this,Tg]
  lia⟩
theorem Flow.less(nd:(r.map (·.m)).Nodup){H:Hd}(f:Flow r H a b (k+1))(h:Way (Led r H) a w b)(hn:(a::w.map (·.2)).Nodup):Flow r (eO H w) a b k:=
 ⟨(gC nd (fun _=>true) f.ok h hn).1,fun S=>by
  rw[(gC nd S f.ok h hn).2,f.eq S];have:((k+1:Nat):Int)=(k:Int)+1:=by lia
  rw[this,Tg]
  lia⟩
theorem Flow.cut{H:Hd}(f:Flow r H a b k)(ha:S a=true)(hb:S b=false)(hc:∀p s,S p=true->mh r H p s->S s.2=true):(r.filter (over S)).length=k:=by
 have h1:=BG hc;rw[f.eq S,ha,hb]at h1;simp[one]at h1
 lia
theorem Flow.reach{H:Hd}(f:Flow r H a b (k+1))(ha:S a=true)(hc:∀p s,S p=true->Led r H p s->S s.2=true):S b=true:=by
 cases hb:S b with
 |true=>rfl
 |false=>
  have h1:=BH f.ok hc;rw[f.eq S,ha,hb]at h1;simp[one]at h1
  lia
end
end Fl
namespace Dm
theorem Vu{ns:List Int}{d:Int}{o:Option (List Dat)}{K:RV->Prop}(k:K (.val (.int (j8 ns d))))(ho:o=some [.lst (ns.map Dat.int),.int d]):WB l6 o K:=⟨_,_,ho,by unfold l6;dsimp only;rw[l_],k⟩
end Dm
namespace P
open Dm
noncomputable def jc:FN:=
  (nIf (tV (e2 gNe (eV 4) (eV 5))) (zc (vp (eV 4) (eU [(eV 3),(eV 5)]))
  (vp (eV 5) (eU [(eV 3),(eV 4)]))) nNx)
noncomputable def Fo:List Dat->Option RV:=fn 2 4
  (aA (lW 2 (iR1 (eV 0)) 1 (bN 6) (jG (iS (eV 1)) (bT [3,4,5])
  jc))
  (sR (eV 2)))
noncomputable def BI:List Dat->Option RV:=fn 2 0
  (sR (aV 0 1 (bN 2) b8 (aV 2 1 (bN 3) (tV (e2 gNe (j3 (eV 1) (e2 gIx (eV 3) (eC (.int 0)))) (e2 gIx (eV 3) (eC (.int 1))))) (eV 3))))
noncomputable def BJ:List Dat->Option RV:=fn 2 0
  (sR (aV 0 1 (bN 2) b8 (aV 2 1 (bN 3) (tV (e2 gEq (j3 (eV 1) (e2 gIx (eV 3) (eC (.int 0)))) (e2 gIx (eV 3) (eC (.int 1))))) (eV 3))))
noncomputable def G7:FS:=
  (sIf (tV (e2 r9 (e2 gIx (eV 5) (eC (.int 1))) (eV 2))) (aA (lS 2 (e2 gIx (eV 5) (eC (.int 1))) (e2 bA (e2 gDx (eV 2) (eV 4)) (dm [(eV 5)])))
  (lz 3 (e2 gIx (eV 5) (eC (.int 1))))) sNx)
noncomputable def G8:FS:=
  (aA (sA 4 (jF 3 (eC (.int 0))))
  (ff (iS (e2 gIx (eV 0) (eV 4))) (bN 5)
  G7))
noncomputable def sH:List Dat->Option RV:=fn 2 4
  (aA (sA 2 (eD1 (eV 1) (dm [])))
  (aA (sA 3 (dm [(eV 1)]))
  (aA (whD (tTr (eV 3))
  G8 100)
  (sR (eV 2)))))
noncomputable def G9:FS:=
  (sIf (tV (e2 za (eV 2) (eV 0))) (sE (lX 0 (eV 2))) (lS 0 (eV 2) (eV 3)))
noncomputable def BK:List Dat->Option (RV×Dat):=fnM 2 2
  (ff (iS (eV 1)) (bT [2,3])
  G9)
noncomputable def G_:FS:=
  (sE (lX 5 (eV 9)))
noncomputable def Hh:FS:=
  (aA (sA 8 (b9 (iS (e2 gDx (eF sH [(eFd BJ [(eV 0),(eV 5)]),(eV 2)]) (eV 3))) 1 (bN 10) b8 (e2 gIx (eV 10) (eC (.int 0)))))
  (aA (ff (iS (eV 8)) (bN 9)
  G_)
  (lz 6 (eV 8))))
noncomputable def zu:List Dat->Option RV:=fn 5 5
  (aA (sA 5 (eB r_ [(eV 1)]))
  (aA (sA 6 (dm []))
  (aA (ff (iR1 (eV 4)) (bN 7)
  Hh)
  (sR (eV 6)))))
noncomputable def Hi:FS:=
  (aA (sA 9 (eF sH [(eFd BI [(eV 5),(eV 6)]),(eV 2)]))
  (sIf (tV (e2 za (eV 3) (eV 9))) (aA (sE (eFm BK 6 [(e2 gDx (eV 9) (eV 3))]))
  (sA 8 (e2 bA (eV 8) (eC (.int 1))))) (sA 7 (eB fk [(eB jH [(eV 9)])]))))
noncomputable def zv:List Dat->Option RV:=fn 5 5
  (aA (sA 5 (eF Fo [(eV 0),(eV 1)]))
  (aA (sA 6 eDn)
  (aA (sA 7 (eC .non))
  (aA (sA 8 (eC (.int 0)))
  (aA (whD (kC (tV (e2 gLt (eV 8) (eV 4))) (tV (e2 vm (eV 7) (eC .non))))
  Hi 100)
  (sR (eU [(eFd zu [(eV 5),(eV 6),(eV 2),(eV 3),(eV 8)]),(eV 7)])))))))
noncomputable def zw:List Dat->Option RV:=fn 5 0
  (sR (e2 vm (e2 gIx (eF zv [(eV 0),(eV 1),(eV 2),(eV 3),(eV 4)]) (eC (.int 1))) (eC .non)))
noncomputable def zx:List Dat->Option RV:=fn 1 0
  (sR (fV (e1 (kG isI) (eV 0)) (uW (e1 (kG isB) (eV 0)))))
noncomputable def sI:List Dat->Option RV:=fn 3 0
  (sR (fV (eF zx [(eV 0)]) (lA gLe gLe (eV 1) (eV 0) (eV 2))))
noncomputable def xy:List Dat->Option RV:=fn 1 0
  (sR (eF sI [(eV 0),(eC (.int 1)),(eC (.int 10))]))
noncomputable def mj:List Dat->Option RV:=fn 2 0
  (sR (eF sI [(eV 1),(eC (.int 0)),(e2 jq (eV 0) (eC (.int 1)))]))
noncomputable def mq:List Dat->Option RV:=fn 1 0
  (sR (eF sI [(eV 0),(eC (.int 1)),(eC (.int 6))]))
noncomputable def xA:List Dat->Option RV:=fn 1 0
  (sR (eF sI [(eV 0),(eC (.int 0)),(e2 gn (eC (.int 10)) (eC (.int 30)))]))
noncomputable def xB:List Dat->Option RV:=fn 2 0
  (aA (sIf (tOr (dj (tV (e1 (kG isT) (eV 1)))) (tV (e2 gNe (eB eW [(eV 1)]) (eC (.int 3))))) (sR (eC (.bl false))) sNx)
  (sR (fV (eF xA [(e2 gIx (eV 1) (eC (.int 0)))]) (fV (eF mj [(eV 0),(e2 gIx (eV 1) (eC (.int 1)))]) (eF mj [(eV 0),(e2 gIx (eV 1) (eC (.int 2)))])))))
noncomputable def xC:List Dat->Option RV:=fn 2 0
  (sR (fV (eF xB [(eV 0),(eV 1)]) (e2 gLe (e2 gIx (eV 1) (eC (.int 1))) (e2 gIx (eV 1) (eC (.int 2))))))
noncomputable def xD:List Dat->Option RV:=fn 1 0
  (sR (eB qf [(b9 (iR2 (eC (.int 1)) (eB eW [(eV 0)])) 1 (bN 1) b8 (e2 gLt (e2 gIx (eV 0) (e2 jq (eV 1) (eC (.int 1)))) (e2 gIx (eV 0) (eV 1))))]))
noncomputable def xE:List Dat->Option RV:=fn 3 0
  (sR (fV (eF mj [(eV 0),(eV 1)]) (fV (eF mj [(eV 0),(eV 2)]) (e2 gNe (eV 1) (eV 2)))))
noncomputable def xF:List Dat->Option RV:=fn 1 0
  (sIf (dj (tV (eF mq [(eV 0)]))) (fun _=>none) sNx)
noncomputable def xG:List Dat->Option RV:=fn 3 0
  (sIf (dj (tV (eF xE [(eV 0),(eV 1),(eV 2)]))) (fun _=>none) sNx)
noncomputable def xH:List Dat->Option RV:=fn 3 0
  (sR (aV 0 1 (bN 3) b8 (eIf (tV (e2 gEq (eV 3) (e2 gIx (eV 0) (eV 2)))) (e2 gIx (eV 0) (eV 1)) (eV 3))))
noncomputable def BL:FS:=
  (sIf (tV (e2 gNe (e2 gIx (eV 4) (eV 1)) (e2 gIx (eV 4) (eV 2)))) (sR (e2 bA (eV 3) (eC (.int 1)))) sNx)
noncomputable def sJ:List Dat->Option RV:=fn 3 2
  (aA (ff (iEn (eV 0)) (bT [3,4])
  BL)
  (sR (eC (.int 0))))
noncomputable def BN:FS:=
  (aA (sA 8 (eF sJ [(eV 3),(eV 6),(eV 7)]))
  (aA (sIf (tV (e2 gGt (eV 8) (eC (.int 0)))) (uX 3 (e2 jq (eV 8) (eC (.int 1))) (eF xH [(e2 gIx (eV 3) (e2 jq (eV 8) (eC (.int 1)))),(eV 6),(eV 7)])) sNx)
  (lz 4 (eV 8))))
noncomputable def pO:List Dat->Option RV:=fn 3 6
  (aA (sE (eF xF [(eV 2)]))
  (aA (sA 3 (b9 (iR1 (eV 2)) 1 (bN 9) b8 (eB pC [(eV 0)])))
  (aA (sA 4 (dm []))
  (aA (ff (y9 (eV 1)) (bT [5,6,7])
  BN)
  (sR (e1 lO (eV 4)))))))
noncomputable def xJ:List Dat->Option RV:=fn 2 0
  (aA (sIf (tOr (dj (tV (eF xy [(eV 0)]))) (tOr (dj (tV (e1 (kG isL) (eV 1)))) (tV (e2 gGt (eB eW [(eV 1)]) (eC (.int 60)))))) (sR (eC (.bl false))) sNx)
  (aA (sIf (dj (tV (eB qf [(aV 1 1 (bN 2) b8 (eF xC [(eV 0),(eV 2)]))]))) (sR (eC (.bl false))) sNx)
  (sR (eF xD [(aV 1 1 (bN 2) b8 (e2 gIx (eV 2) (eC (.int 0))))]))))
noncomputable def mw:List Dat->Option RV:=fn 2 0
  (sR (aV 0 1 (bN 2) (tV (e2 gGe (e2 gIx (eV 2) (eC (.int 0))) (eV 1))) (eV 2)))
noncomputable def xK:List Dat->Option RV:=fn 1 0
  (aA (sIf (tOr (dj (tV (e1 (kG isT) (eV 0)))) (tV (e2 gNe (eB eW [(eV 0)]) (eC (.int 3))))) (sR (eC (.bl false))) sNx)
  (aA (sIf (tOr (dj (tV (eF mq [(e2 gIx (eV 0) (eC (.int 1)))]))) (dj (tV (eF xJ [(e2 gIx (eV 0) (eC (.int 0))),(e2 gIx (eV 0) (eC (.int 2)))])))) (sR (eC (.bl false))) sNx)
  (sR (e2 jz (eC (.int 0)) (eF pO [(e2 gIx (eV 0) (eC (.int 0))),(e2 gIx (eV 0) (eC (.int 2))),(e2 gIx (eV 0) (eC (.int 1)))])))))
noncomputable def xM:List Dat->Option RV:=fn 1 0
  (sIf (dj (tV (eF xK [(eV 0)]))) (fun _=>none) sNx)
noncomputable def xN:List Dat->Option RV:=fn 2 0
  (aA (sE (eF xM [(eV 0)]))
  (sIf (dj (tV (eF sI [(eV 1),(eC (.int 1)),(e2 gIx (eV 0) (eC (.int 1)))]))) (fun _=>none) sNx))
noncomputable def pP:List Dat->Option RV:=fn 3 1
  (aA (sA 3 (eF pO [(eV 0),(eV 1),(eV 2)]))
  (sR (eU [(eV 0),(eV 2),(b9 (EL (eV 1) (eV 3)) 2 (bT [4,5]) (tV (e2 gGt (eV 5) (eC (.int 0)))) (eV 4))])))
noncomputable def kg:List Dat->Option RV:=fn 3 4
  (aA (sE (eF xN [(eV 0),(eV 1)]))
  (aA (sA 3 (eF mw [(e2 gIx (eV 0) (eC (.int 2))),(eV 2)]))
  (zk 4 (iR1 (e2 gIx (eV 0) (eC (.int 0)))) (bN 5) 6 7 5 (tV (eF zw [(e2 gIx (eV 0) (eC (.int 0))),(eV 3),(eV 7),(eV 5),(eV 1)])) (eB l6 ([(eV 6)]++[(eV 5)]))
  (sR (b9 (xq 4) 1 (bN 7) b8 (eB fk [(eV 7)]))))))
noncomputable def xO:List Dat->Option RV:=fn 6 1
  (aA (sE (eF xG [(eV 0),(eV 2),(eV 3)]))
  (aA (sA 6 (eF zv [(eV 0),(eF mw [(eV 1),(eV 5)]),(eV 2),(eV 3),(eV 4)]))
  (sR (eU [(eB eW [(e2 gIx (eV 6) (eC (.int 0)))]),(e2 gIx (eV 6) (eC (.int 0))),(e2 gIx (eV 6) (eC (.int 1)))]))))
noncomputable def BO:FS:=
  (aA (sA 3 (e2 fW (e2 bA (e2 bA (e2 gm (eV 3) (eC (.int 48271))) (e2 gm (eC (.int 7919)) (eV 5))) (eC (.int 3))) (eC (.int 2147483629))))
  (aA (sA 3 (e2 fW (e2 gm (eV 3) (eV 3)) (eC (.int 2147483587))))
  (sA 4 (e2 bA (e2 gm (eV 4) (eC (.int 2147483587))) (e2 fW (e2 bA (e2 gm (eV 3) (eC (.int 69621))) (eV 1)) (eC (.int 2147483587)))))))
noncomputable def jd:List Dat->Option RV:=fn 2 4
  (aA (sA 2 (eC (.int 0)))
  (aA (sIf (tV (e2 gLt (eV 1) (eB eW [(eV 0)]))) (sA 2 (e2 gIx (eV 0) (eV 1))) sNx)
  (aA (sIf (tV (e2 gGe (eV 2) (e2 gn (eC (.int 10)) (eC (.int 18))))) (sR (dm [(e2 fW (eV 2) (e2 i9 (e2 i9 (e2 i9 (e2 i9 (e2 gn (eC (.int 10)) (eC (.int 60))) (e2 gn (eC (.int 10)) (eC (.int 60)))) (e2 gn (eC (.int 10)) (eC (.int 60)))) (e2 gn (eC (.int 10)) (eC (.int 60)))) (e2 gn (eC (.int 10)) (eC (.int 60)))))])) sNx)
  (aA (sA 3 (e2 fW (e2 bA (e2 bA (e2 bA (eV 2) (e2 gm (e2 gm (eC (.int 104729)) (eV 1)) (eV 1))) (e2 gm (eC (.int 7)) (eV 1))) (eC (.int 11))) (eC (.int 2147483647))))
  (aA (sA 4 (eC (.int 0)))
  (aA (ff (iR1 (eC (.int 40))) (bN 5)
  BO)
  (sR (dm [(eV 4)]))))))))
noncomputable def bh:List Dat->Option (RV×Dat):=fnM 2 1
  (aA (sA 2 (e2 fW (e2 gIx (eV 0) (eC (.int 0))) (eV 1)))
  (aA (uX 0 (eC (.int 0)) (e2 yQ (e2 gIx (eV 0) (eC (.int 0))) (eV 1)))
  (sR (eV 2))))
noncomputable def sL:List Dat->Option (RV×Dat):=fnM 1 0
  (sR (e2 gIx (dm [(eC (.int 1)),(eC (.int 2)),(eC (.int 3)),(eC (.int 4)),(eC (.int 5)),(eC (.int 6)),(eC (.int 4)),(eC (.int 10))]) (eFm bh 0 [(eC (.int 8))])))
noncomputable def BP:FS:=
  (aA (sA 11 (eFm bh 0 [(eV 1)]))
  (aA (sA 12 (eFm bh 0 [(eV 1)]))
  (aA (sIf (tV (e2 gEq (eV 7) (eC (.int 1)))) (sA 12 (e2 fW (e2 bA (eV 11) (eC (.int 1))) (eV 1))) sNx)
  (aA (sIf (tV (e2 gEq (eV 7) (eC (.int 2)))) (sA 12 (e2 fW (e2 fW (e2 bA (e2 bA (eV 11) (e2 fW (eV 12) (eC (.int 2)))) (eC (.int 1))) (eB f6 [(eV 1),(eC (.int 3))])) (eV 1))) sNx)
  (aA (lz 9 (eU [(eV 8),(eB f6 [(eV 11),(eV 12)]),(eB jW [(eV 11),(eV 12)])]))
  (sA 8 (e2 bA (e2 bA (eV 8) (eC (.int 1))) (e2 gm (eFm bh 0 [(eV 5)]) (eV 6)))))))))
noncomputable def pQ:List Dat->Option (RV×Dat):=fnM 3 10
  (aA (sA 3 (eFm bh 0 [(e2 bA (eV 2) (eC (.int 1)))]))
  (aA (sA 4 (eFm bh 0 [(eC (.int 4))]))
  (aA (sA 5 (e2 gIx (dm [(eC (.int 1)),(eC (.int 3)),(e2 gn (eC (.int 10)) (eC (.int 6))),(eC (.int 1000))]) (eV 4)))
  (aA (sA 6 (e2 gIx (dm [(eC (.int 1)),(e2 gn (eC (.int 10)) (eC (.int 25)))]) (eB yR [(e2 gEq (eV 4) (eC (.int 3)))])))
  (aA (sA 7 (eFm bh 0 [(eC (.int 4))]))
  (aA (sA 8 (e2 gm (eFm bh 0 [(eV 5)]) (eV 6)))
  (aA (sA 9 (dm []))
  (aA (ff (iR1 (eV 3)) (bN 10)
  BP)
  (sR (eV 9))))))))))
noncomputable def sM:List Dat->Option (RV×Dat):=fnM 2 1
  (aA (sIf (tV (e2 gEq (eV 1) (dm []))) (sR (eFm bh 0 [(eC (.int 3))])) sNx)
  (aA (sA 2 (e2 gIx (e2 gIx (eV 1) (eFm bh 0 [(eB eW [(eV 1)])])) (eC (.int 0))))
  (sR (e2 gIx (dm [(eC (.int 0)),(eV 2),(e2 bA (eV 2) (eC (.int 1))),(eB jW [(eC (.int 0)),(e2 jq (eV 2) (eC (.int 1)))]),(e2 bA (e2 gIx (e2 gIx (eV 1) (e1 Az (eC (.int 1)))) (eC (.int 0))) (eC (.int 1))),(eV 2)]) (eFm bh 0 [(eC (.int 6))])))))
noncomputable def sN:List Dat->Option RV:=fn 2 0
  (sR (aV 0 1 (bN 2) (tV (e2 gGe (e2 gIx (eV 2) (eC (.int 0))) (eV 1))) (eV 2)))
noncomputable def sO:List Dat->Option RV:=fn 1 0
  (sR (fV (e1 (kG isI) (eV 0)) (uW (e1 (kG isB) (eV 0)))))
noncomputable def xP:List Dat->Option RV:=fn 1 0
  (sR (eB qf [(aV 0 1 (bN 1) b8 (eF sO [(eV 1)]))]))
noncomputable def xQ:List Dat->Option RV:=fn 2 0
  (sR (aV 0 1 (bN 2) (tV (e2 gNe (e2 gIn (e2 gIx (eV 2) (eC (.int 1))) (eV 1)) (e2 gIn (e2 gIx (eV 2) (eC (.int 2))) (eV 1)))) (e2 gIx (eV 2) (eC (.int 0)))))
noncomputable def BQ:FS:=
  (sA 1 (e2 bA (eV 1) (aV 1 1 (bN 3) b8 (e2 pM (eV 3) (eU [(eV 2)])))))
noncomputable def xR:List Dat->Option RV:=fn 1 2
  (aA (sA 1 (dm [(eU [])]))
  (aA (ff (iR2 (eC (.int 1)) (eV 0)) (bN 2)
  BQ)
  (sR (eSl (eV 1) (some (eC (.int 1))) none))))
noncomputable def BR:FS:=
  (sIf (tV (e2 gNe (e2 gIn (eV 2) (eV 5)) (e2 gIn (eV 3) (eV 5)))) (sA 4 (eB f6 [(eV 4),(eB eW [(eF xQ [(eV 1),(eV 5)])])])) sNx)
noncomputable def sP:List Dat->Option RV:=fn 4 2
  (aA (sA 4 (eB eW [(eV 1)]))
  (aA (ff (iS (eF xR [(eV 0)])) (bN 5)
  BR)
  (sR (eV 4))))
noncomputable def mz:FN:=
  (vF 5 4 (tV (e2 gGe (eF sP [(eV 0),(eV 1),(e2 gIx (eV 6) (eC (.int 0))),(eV 4)]) (eV 2))))
noncomputable def sQ:List Dat->Option RV:=fn 3 3
  (aA (su 3 (jG (iR1 (eV 0)) (bN 4)
  mz))
  (sR (aV 3 1 (bN 6) b8 (eB fk [(eV 6)]))))
noncomputable def BS:FS:=
  (aA (sA 6 (eFm bh 0 [(eV 1)]))
  (aA (sA 7 (e2 fW (e2 bA (e2 bA (eV 6) (eC (.int 1))) (eFm bh 0 [(e2 jq (eV 1) (eC (.int 1)))])) (eV 1)))
  (aA (lz 3 (eU [(eV 4),(eB f6 [(eV 6),(eV 7)]),(eB jW [(eV 6),(eV 7)])]))
  (sA 4 (e2 bA (e2 bA (eV 4) (eC (.int 1))) (eFm bh 0 [(eC (.int 3))]))))))
noncomputable def pR:List Dat->Option (RV×Dat):=fnM 3 5
  (aA (sA 3 (dm []))
  (aA (sA 4 (eFm bh 0 [(eC (.int 9))]))
  (aA (ff (iR1 (eV 2)) (bN 5)
  BS)
  (sR (eV 3)))))
noncomputable def mC:FN:=
  (vF 6 5 (tV (e2 gEq (e2 gIx (eF xO [(eC (.int 10)),(eV 1),(e2 gIx (eV 7) (eC (.int 0))),(eV 5),(eV 3),(eV 2)]) (eC (.int 0))) (eV 3))))
noncomputable def sS:List Dat->Option (RV×Dat):=fnM 1 6
  (aA (sA 1 (eFm pR 0 [(eC (.int 10)),(e2 bA (eC (.int 40)) (eFm bh 0 [(eC (.int 21))]))]))
  (aA (sA 2 (e2 gIx (e2 gIx (eV 1) (eFm bh 0 [(eC (.int 20))])) (eC (.int 0))))
  (aA (sA 3 (e2 bA (eC (.int 1)) (eFm bh 0 [(eC (.int 6))])))
  (aA (su 4 (jG (iR1 (eC (.int 10))) (bN 5)
  mC))
  (sR (e2 gEq (eF kg [(eF pP [(eC (.int 10)),(eV 1),(eC (.int 6))]),(eV 3),(eV 2)]) (aV 4 1 (bN 7) b8 (eB fk [(eV 7)]))))))))
noncomputable def vJ:FS:=
  (aA (sA 1 (eF jd [(eV 0),(eV 2)]))
  (aA (sA 3 (eB f6 [(eC (.int 7)),(eFm sL 1 [])]))
  (aA (sA 4 (e2 bA (eC (.int 1)) (eFm bh 1 [(eC (.int 6))])))
  (aA (sA 5 (eFn pQ (eF jd [(eV 0),(e2 bA (eV 2) (eC (.int 1)))]) [(eV 3),(e2 gIx (dm [(eC (.int 16)),(eC (.int 6))]) (eB yR [(e2 gGt (eV 3) (eC (.int 6)))]))]))
  (aA (sIf (kC (tV (e2 gEq (eV 2) (eC (.int 0)))) (tV (e2 gEq (eFm bh 1 [(eC (.int 8))]) (eC (.int 7))))) (aA (sA 3 (eC (.int 7)))
  (aA (sA 4 (eC (.int 6)))
  (sA 5 (eFn pR (eF jd [(eV 0),(e2 bA (eV 2) (eC (.int 1)))]) [(eC (.int 7)),(e2 bA (eC (.int 40)) (eFm bh 1 [(eC (.int 11))]))])))) sNx)
  (aA (sA 6 (e2 bA (eC (.int 1)) (eFm bh 1 [(eV 4)])))
  (aA (sA 7 (eF pP [(eV 3),(eV 5),(eV 4)]))
  (aA (sA 8 (eB rO [(e2 gIx (eV 7) (eC (.int 2)))]))
  (aA (sA 9 (eFn sM (eF jd [(eV 0),(e2 bA (eV 2) (eC (.int 2)))]) [(eV 5)]))
  (aA (sA 10 (eF kg [(eV 7),(eV 6),(eV 9)]))
  (aA (sIf (tOr (dj (tV (e1 (kG isL) (eV 10)))) (tV (e2 gNe (eV 10) (eF sQ [(eV 3),(eF sN [(eV 5),(eV 9)]),(eV 6)])))) (sR (eC (.bl false))) sNx)
  (aA (sIf (dj (tV (eB qf [(aV 10 1 (bN 11) b8 (fV (e1 (kG isT) (eV 11)) (eF xP [(eV 11)])))]))) (sR (eC (.bl false))) sNx)
  (aA (lz 10 (eU [(eC (.int 0))]))
  (aA (sIf (tOr (tV (e2 gNe (eF (fun ds=>kg (ds++[.int 0])) [(eV 7),(eV 6)]) (eF sQ [(eV 3),(eV 8),(eV 6)]))) (tV (e2 gNe (eF kg [(eV 7),(eV 6),(eV 9)]) (eSl (eV 10) none (some (e1 Az (eC (.int 1)))))))) (sR (eC (.bl false))) sNx)
  (sIf (tV (e2 gNe (eV 7) (eU [(eV 3),(eV 4),(eV 8)]))) (sR (eC (.bl false))) sNx)))))))))))))))
noncomputable def mD:List Dat->Option RV:=fn 1 10
  (aA (sA 1 (eF jd [(dm [(eB pG [(eV 0)])]),(eC (.int 0))]))
  (aA (sIf (kC (tV (e2 gEq (eFm bh 1 [(eC (.int 8))]) (eC (.int 7)))) (dj (tV (eFm sS 1 [])))) (sR (eC (.bl false))) sNx)
  (aA (ff (iRs (eC (.int 0)) (eB jW [(eC (.int 1)),(eB f6 [(eB eW [(eV 0)]),(eC (.int 9))])]) (eC (.int 3))) (bN 2)
  vJ)
  (sR (eC (.bl true))))))
end P
local macro_rules|`(tactic|trivial)=>`(tactic|first | (dsimp only[List.set];first | done | rfl) | rfl)
local macro_rules | `(tactic| array_get_dec)=>`(tactic| first | with_reducible refine Dm.Tn ?_ | with_reducible refine Dm.S_ ?_ | ((with_reducible apply Dm.Q_);(focus rfl)) | ((with_reducible apply Dm.TV);(focus rfl)) | with_reducible refine Dm.Tj ?_ | (refine Dm.Tq ?_ (by trivial)) | (refine Dm.TN ?_ (by trivial)) | (refine Dm.WA.slot ?_ rfl (by trivial)) | with_reducible refine Dm.Tt ?_ (by decide) | with_reducible refine Dm.TX ?_ | with_reducible refine Dm.TF ?_ | with_reducible refine Dm.T6 ?_ | with_reducible refine Dm.UL ?_ | with_reducible refine Dm.Uq ?_ | with_reducible refine Dm.Vb ?_ | (refine Dm.Tp ?_) | (refine Dm.bV.mk ?_) | with_reducible refine Dm.Uo ?_ | with_reducible refine Dm.Ua ?_ | with_reducible refine Dm.R_ ?_ | with_reducible refine Dm.m_ ?_ | with_reducible refine Dm.TR ?_ | with_reducible refine Dm.Tu ?_ | with_reducible refine Dm.Ur ?_ | with_reducible refine Dm.T_ ?_ | with_reducible refine Dm.Ue ?_ | with_reducible refine Dm.Vn ?_ | with_reducible refine Dm.Ui ?_ | with_reducible refine Dm.We.Or ?_ | with_reducible refine Dm.Vg ?_ | with_reducible refine Dm.Vc ?_ | with_reducible refine Dm.We.SlT ?_ | with_reducible refine Dm.Wp.none ?_ | with_reducible refine Dm.Wp.some ?_ | (refine Dm.Wsl.A (sD:=Dat.int) ?_ rfl) | (refine Dm.Wsl.mk ?_ rfl) | (refine Dm.TU ?_ rfl (by trivial) (by exact Nat.le_of_ble_eq_true rfl)) | (refine Dm.Tw ?_) | (refine Dm.Ux ?_) | (refine Dm.U6 ?_ rfl (by trivial)) | with_reducible refine Dm.Vq ?_ | with_reducible refine Dm.Vr ?_ | with_reducible refine Dm.Va ?_ | (refine Dm.P6 ?_ rfl) | (refine Dm.qE rfl ?_) | (refine Dm.qC ?_ rfl (by trivial) ?_) | (refine Dm.Ul ?_ rfl) | (refine Dm.gy ?_ rfl (by trivial) ?_) | with_reducible refine Dm.Ws.U ?_ | (refine Dm.Pz ?_ rfl (by trivial)) | with_reducible refine Dm.TL ?_ | (refine Dm.UB ?_) | (refine Dm.Uc ?_) | (refine Dm.Uj ?_ rfl) | with_reducible refine Dm.TY ?_ | with_reducible refine Dm.Ws.bk ?_ | with_reducible refine Dm.Ws.ct ?_ | with_reducible refine Dm.UC ?_ | with_reducible refine Dm.T8 ?_ | with_reducible refine Dm.UU ?_ | with_reducible refine Dm.Wi.L ?_ | with_reducible refine Dm.Um ?_ | with_reducible refine Dm.U_ ?_ | (refine Dm.fR ?_) | (refine Dm.OC ?_) | (refine Dm.Ud ?_ rfl rfl) | (refine Dm.UD ?_ rfl rfl) | (refine Dm.Vl ?_ rfl rfl ?_) | (refine Dm.Wg2.P0 ?_ rfl rfl ?_) | (refine Dm.Wg2.eqb ?_ rfl rfl) | (refine Dm.US ?_ rfl rfl) | (refine Dm.Wg2.PB ?_ rfl rfl) | (refine Dm.Wg2.isb ?_ rfl rfl) | (refine Dm.UO ?_ rfl rfl) | (refine Dm.Vj ?_ rfl rfl) | (refine Dm.UA ?_ rfl rfl) | (refine Dm.UM ?_ rfl rfl) | (refine Dm.Tv ?_ rfl rfl) | (refine Dm.Wg2.P7 ?_ rfl rfl ?_) | (refine Dm.Wg2.P1 ?_ rfl rfl ?_) | (refine Dm.UZ ?_ rfl rfl ?_) | (refine Dm.Ug ?_ rfl rfl) | (refine Dm.T7 ?_ rfl rfl (by first | exact Or.inl (by decide) | exact Or.inr (by decide))) | (refine Dm.T7 ?_ rfl rfl ?_) | (refine Dm.UR ?_ rfl rfl (by decide)) | (refine Dm.UR ?_ rfl rfl ?_) | (refine Dm.T5 ?_ rfl rfl (by decide)) | (refine Dm.T5 ?_ rfl rfl ?_) | (refine Dm.UQ ?_ rfl rfl) | (refine Dm.Vf ?_ rfl rfl) | (refine Dm.Wg2.inP ?_ rfl rfl) | (refine Dm.Wg2.P8 ?_ rfl rfl) | (refine Dm.To ?_ rfl rfl rfl) | (refine Dm.Up (sD:=Dat.int) ?_ rfl) | (refine Dm.Vi ?_ rfl) | (refine Dm.U8 ?_ rfl) | (refine Dm.Uh ?_ rfl) | (refine Dm.Uw ?_ rfl) | (refine Dm.U3 ?_ rfl) | (refine Dm.U1 ?_ rfl) | (refine Dm.WB.sum2 ?_ rfl ?_) | (refine Dm.Wg1.P9 (sD:=Dat.int) ?_ rfl) | (refine Dm.Ub ?_ rfl rfl))
namespace P
open Dm Fl
noncomputable def bG(t:Tie):Dat:=.tup [.int t.m,.int t.a,.int t.b]
noncomputable def aD(r:List Tie):Dat:=.lst (r.map bG)
noncomputable def bM(s:Step):Dat:=.tup [.int s.1,.int s.2]
noncomputable def cH(w:List Step):Dat:=.lst (w.map bM)
def Pl(n:Nat)(r:List Tie):Prop:=∀t∈r,0<=t.a/\t.a<n/\0<=t.b/\t.b<n
noncomputable def cI(x:Int)(t:Tie):Option Step:=if t.a=t.b then none else if t.a=x then some (t.m,t.b) else if t.b=x then some (t.m,t.a) else none
noncomputable def aH(r:List Tie)(x:Int):List Step:=r.filterMap (cI x)
noncomputable def bZ(n:Nat)(r:List Tie):List (List Dat):=(Qs n).map fun i:Nat=>(aH r i).map bM
theorem xS{i e:FE}{ρ ρ1 ρ2 ρ3:Env}{rows:List (List Dat)}{k:Int}{m:Nat}{row:List Dat}{x:Val}{d:Dat}(h1:i ρ=some (.val (.int k),ρ1))(h2:ixN rows.length k=some m)(h3:rows[m]?=some row)(h4:e ρ1=some (x,ρ2))(h5:tk ρ2 x=some (d,ρ3))(h6:row.length<SZ) :
  vp i e ρ rows=some (ρ3,rows.set m (row++[d])):=by
 unfold vp;rw[h1];dsimp only;rw[h2];dsimp only;rw[h3];dsimp only;rw[h4];dsimp only;rw[h5];dsimp only;rw[if_pos h6]
theorem je(r:List Tie)(t:Tie)(x:Int):aH (r++[t]) x=aH r x++(cI x t).toList:=by
 unfold aH;rw[List.filterMap_append];cases h:cI x t with
 |none=>simp[h]
 |some s=>simp[h]
theorem BU{n:Nat}{k:Int}(h0:0<=k)(h1:k<n):ixN n k=some k.toNat:=by unfold ixN;rw[if_pos h0,if_pos h1]
theorem fU(n:Nat)(r:List Tie)(i:Nat)(h:i<n):(bZ n r)[i]?=some ((aH r i).map bM):=by unfold bZ;rw[Qm,Rq h];rfl
theorem cX(n:Nat)(r:List Tie):(bZ n r).length=n:=by simp[bZ]
theorem dI(r:List Tie)(x:Int):(aH r x).length<=r.length:=List.length_filterMap_le _ _
theorem vK(n:Nat)(r:List Tie)(t:Tie)(h:t.a≠t.b)(a0:0<=t.a)(a1:t.a<n)(b0:0<=t.b)(b1:t.b<n) :
  ((bZ n r).set t.a.toNat ((aH r t.a).map bM++[bM (t.m,t.b)])).set t.b.toNat ((aH r t.b).map bM++[bM (t.m,t.a)])=bZ n (r++[t]):=by
 apply RX;intro i;by_cases hi:i<n
 ·rw[fU _ _ _ hi,je,Qq];by_cases eb:t.b.toNat=i
  ·have e:(i:Int)=t.b:=by lia
   rw[<- eb,Qz (by rw[QC,cX];lia),eb,e];have:cI t.b t=some (t.m,t.a):=by unfold cI;rw[if_neg h,if_neg (fun z=>h z),if_pos rfl]
   rw[this];rfl
  ·rw[Dk eb];by_cases ea:t.a.toNat=i
   ·have e:(i:Int)=t.a:=by lia
    rw[<- ea,Qz (by rw[cX];lia),ea,e];have:cI t.a t=some (t.m,t.b):=by unfold cI;rw[if_neg h,if_pos rfl]
    rw[this];rfl
   ·rw[Dk ea,fU _ _ _ hi];have:cI i t=none:=by unfold cI;rw[if_neg h,if_neg (by lia),if_neg (by lia)]
    rw[this];simp
 ·rw[QZ (by rw[QC,QC,cX];lia),QZ (by rw[cX];lia)]
theorem vL(n:Nat)(r:List Tie)(t:Tie)(h:t.a=t.b):bZ n (r++[t])=bZ n r:=by
 unfold bZ;apply R7;intro i _;rw[je];have:cI i t=none:=by unfold cI;rw[if_pos h]
 rw[this];simp
theorem zy(n:Nat)(r:List Tie)(t:Tie)(hl:r.length<1000)(a0:0<=t.a)(a1:t.a<n)(b0:0<=t.b)(b1:t.b<n)(c0 c1 c2:Cell) :
  jc [c0,c1,c2,.sh (.int t.m),.sh (.int t.a),.sh (.int t.b)] (bZ n r)=some ([c0,c1,c2,.sh (.int t.m),.sh (.int t.a),.sh (.int t.b)],bZ n (r++[t])):=by
 have ht:tV (e2 gNe (eV 4) (eV 5)) [c0,c1,c2,.sh (.int t.m),.sh (.int t.a),.sh (.int t.b)]=some (!decide (t.a=t.b),[c0,c1,c2,.sh (.int t.m),.sh (.int t.a),.sh (.int t.b)]):=by unfold tV e2 eV;simp[pk,qD,RV.br]
 unfold jc nIf;rw[ht];by_cases h:t.a=t.b
 ·rw[decide_eq_true h];rw[vL n r t h];rfl
 ·rw[decide_eq_false h];show zc _ _ _ _=_;unfold zc;have k1:=(dI r t.a)
  have k2:=(dI r t.b)
  have hz:SZ=100000:=rfl;have ea:((t.a.toNat:Nat):Int)=t.a:=by lia
  have eb:((t.b.toNat:Nat):Int)=t.b:=by lia
  rw[xS (k:=t.a) (m:=t.a.toNat) (row:=(aH r t.a).map bM) (d:=bM (t.m,t.b)) (ρ3:=[c0,c1,c2,.sh (.int t.m),.sh (.int t.a),.sh (.int t.b)]) rfl (by rw[cX];exact BU a0 a1) (by rw[fU _ _ _ (by lia),ea]) rfl rfl (by rw[Dp];lia)];dsimp only;rw [xS (k:=t.b) (m:=t.b.toNat) (row:=(aH r t.b).map bM) (d:=bM (t.m,t.a)) (ρ3:=[c0,c1,c2,.sh (.int t.m),.sh (.int t.a),.sh (.int t.b)]) rfl (by rw [QC,cX];exact BU b0 b1)
   (by rw[Dk (by lia),fU _ _ _ (by lia),eb]) rfl rfl (by rw[Dp];lia)]
  rw[vK n r t h a0 a1 b0 b1]
theorem mE(n:Nat)(c0 c1 c2:Cell):∀(q p:List Tie) (c3 c4 c5:Cell),Pl n q->p.length+q.length<=1000 ->
  ∃c3' c4' c5',f_ (bT [3,4,5]) jc (q.map bG) [c0,c1,c2,c3,c4,c5] (bZ n p)=some ([c0,c1,c2,c3',c4',c5'],bZ n (p++q))
 |[],p,c3,c4,c5,_,_=>⟨c3,c4,c5,by rw[Rc];rfl⟩
 |t::q,p,c3,c4,c5,hp,hl=>by obtain⟨a0,a1,b0,b1⟩:=hp t Qe;rw[QT]at hl;obtain⟨c3',c4',c5',e⟩:=mE n c0 c1 c2 q (p++[t]) (.sh (.int t.m)) (.sh (.int t.a)) (.sh (.int t.b)) (fun u hu=>hp u (Qg _ hu)) (by rw[Qn,Rj];lia);refine⟨c3',c4',c5',?_⟩;rw[Qa,f_];show (match jc [c0,c1,c2,.sh (.int t.m),.sh (.int t.a),.sh (.int t.b)] (bZ n p) with | none=>none | some (ρ2,r2)=>f_ (bT [3,4,5]) jc (q.map bG) ρ2 r2)=_;rw[zy n p t (by lia) a0 a1 b0 b1];dsimp only;rw[e,SN];rfl
theorem BV(pre:Env)(k:Nat)(hk:pre.length=k)(h0:k≠0):∀(ds:List Dat) (c:Cell),∃c',nMk (bN k) ds (pre++[c])=some (pre++[c'])
 |[],c=>⟨c,rfl⟩
 |d::ds,c=>by
  obtain⟨c',e⟩:=BV pre k hk h0 ds (.sh d);refine⟨c',?_⟩;rw[nMk];have:bN k d (pre++[c])=some (pre++[.sh d]):=by unfold bN;rw[if_neg h0,RL _ _ (by lia)];simp[hk]
  rw[this];exact e
noncomputable def bD(n:Nat)(R:Int->List Step):Dat:=.lst ((Qs n).map fun i:Nat=>cH (R i))
theorem sU(n:Nat)(hn:n<=1000)(r:List Tie)(hr:Pl n r)(hl:r.length<=1000):Fo [.int n,aD r]=some (.new (bD n (aH r))):=by
 obtain⟨c3,c4,c5,e⟩:=mE n (.sh (.int n)) (.sh (aD r)) .un r [] .un .un .un hr (by simpa using hl);obtain⟨c',e2⟩:=BV [.sh (.int n),.sh (aD r),.un,.un,.un,.un] 6 rfl (by decide) (ups 0 n) .un;have h0:bZ n []=Qd n []:=by
  unfold bZ aH;apply RX;intro i;by_cases hi:i<n
  ·rw[Qm,Rq hi,Q8,if_pos hi];rfl
  ·rw[QZ (by simp;lia),QZ (by simp;lia)]
 have hu:(ups 0 n).length=n:=by simp[ups]
 have e1:iR1 (eV 0) [.sh (.int n),.sh (aD r),.un,.un,.un,.un]=some (ups 0 n,[.sh (.int n),.sh (aD r),.un,.un,.un,.un]):=by show (if (n:Int)<=BIG/\-BIG<=(n:Int) then some (ups 0 (n:Int).toNat,_) else none)=_;rw[if_pos (by unfold BIG;lia)];rfl
 rw[h0,Ry]at e;have en:lW 2 (iR1 (eV 0)) 1 (bN 6) (jG (iS (eV 1)) (bT [3,4,5]) jc) [.sh (.int n),.sh (aD r),.un,.un,.un,.un]=some (.nx [.sh (.int n),.sh (aD r),.ow (bD n (aH r)),c3,c4,c5]):=by
  unfold lW;rw[if_neg (by decide),e1];dsimp only;rw[if_pos (by rw[hu];unfold SZ;lia)];show (match nMk (bN 6) (ups 0 n) ([.sh (.int n),.sh (aD r),.un,.un,.un,.un]++[.un]) with | none=>none | some ρ2=>_)=_;rw[e2];dsimp only;rw[hu];show (match jG (iS (eV 1)) (bT [3,4,5]) jc [.sh (.int n),.sh (aD r),.un,.un,.un,.un] (Qd n []) with | none=>none | some (ρ3,r3)=>_)=_;have:jG (iS (eV 1)) (bT [3,4,5]) jc [.sh (.int n),.sh (aD r),.un,.un,.un,.un] (Qd n [])=some ([.sh (.int n),.sh (aD r),.un,c3,c4,c5],bZ n r):=e;rw[this];have e3:(bZ n r).map Dat.lst=(Qs n).map fun i:Nat=>cH (aH r i):=by unfold bZ;rw[QX];rfl
  show some (Out.nx [.sh (.int n),.sh (aD r),.ow (.lst ((bZ n r).map Dat.lst)),c3,c4,c5])=_;rw[e3];rfl
 apply TQ;unfold Fo
 (refine Dm.Tz ?_ rfl rfl;and_intros)
 refine Tn ⟨_,en,?_⟩;refine TL (TV rfl (Uj ?_ rfl));rfl
noncomputable def hdF(h:List (Int×Int)):Hd:=fun m=>(h.find? fun e=>decide (e.1=m)).map (·.2)
noncomputable def hk(h:List (Int×Int)):List Int:=h.map (·.1)
noncomputable def hv(h:List (Int×Int)):List Dat:=h.map fun e=>Dat.int e.2
noncomputable def bg(h:List (Int×Int)):Dat:=.dct (hk h) (hv h)
theorem kQ(h:List (Int×Int))(m:Int):bC (hk h) (hv h) m=(hdF h m).map Dat.int:=by
 unfold hk hv hdF
 induction h with
 |nil=>rfl
 |cons e h ih=>
  rw[Qa,Qa,bC,Ro];by_cases q:e.1=m
  ·rw[if_pos q,decide_eq_true q];rfl
  ·rw[if_neg q,decide_eq_false q];exact ih
theorem qF{h:List (Int×Int)}{m:Int}:(hdF h m).isSome=decide (m∈hk h):=by
 unfold hdF hk
 induction h with
 |nil=>rfl
 |cons e h ih=>
  rw[Ro];by_cases q:e.1=m
  ·rw[decide_eq_true q];simp[q]
  ·rw[decide_eq_false q];have q':¬m=e.1:=fun z=>q z.symm;simp only[Qa,Qk,q',false_or];exact ih
theorem Kg(o:Option Int)(y:Int):gNe ((o.map Dat.int).getD .non) (.int y)=vB (!decide (o=some y)):=by
 cases o with
 |none=>rfl
 |some z=>
  show gNe (.int z) (.int y)=_;rw[qD];have:(z=y)=(some z=some y):=by simp
  simp only[this]
theorem Kh(o:Option Int)(y:Int):gEq ((o.map Dat.int).getD .non) (.int y)=vB (decide (o=some y)):=by
 cases o with
 |none=>rfl
 |some z=>
  show gEq (.int z) (.int y)=_;rw[xw];have:(z=y)=(some z=some y):=by simp
  simp only[this]
noncomputable def sV(h:List (Int×Int))(R:Int->List Step):Int->List Step:=fun x=>(R x).filter fun s=>!decide (hdF h s.1=some s.2)
noncomputable def sW(h:List (Int×Int))(R:Int->List Step):Int->List Step:=fun x=>(R x).filter fun s=>decide (hdF h s.1=some s.2)
theorem xT(g:Dat->Dat->Option RV)(p:Option Int->Int->Bool)(hg:∀o y,g ((o.map Dat.int).getD .non) (.int y)=vB (p o y))(h:List (Int×Int))(A:Cell)(w:List Step)(hl:w.length<=1000) :
  We (aV 2 1 (bN 3) (tV (e2 g (j3 (eV 1) (e2 gIx (eV 3) (eC (.int 0)))) (e2 gIx (eV 3) (eC (.int 1))))) (eV 3)) [A,.sh (bg h),.sh (cH w)] fun v ρ'=>Wk ρ' v fun d ρ''=>d=cH (w.filter fun s=>p (hdF h s.1) s.2)/\ρ''=[A,.sh (bg h),.sh (cH w)]:=by
 refine Ve bM w (fun s=>p (hdF h s.1) s.2) id bM (d:=cH w) ?_ rfl rfl rfl (by decide) (by unfold SZ;lia) (fun s _=>?_) fun s _ _=>?_
 ·rw[S7];exact Ux ⟨rfl,rfl⟩
 ·refine TF (S_ (VF (Q_ rfl ⟨⟨_,_,rfl⟩,S_ (Q_ rfl (Tj (To ?_ rfl rfl rfl)))⟩)));refine⟨hk h,hv h,s.1,rfl,rfl,S_ (Q_ rfl (Tj (To ?_ rfl rfl rfl)))⟩;refine⟨_,_,_,rfl,rfl,(by rw[kQ];exact hg _ _),?_⟩;exact Tp ⟨rfl,rfl⟩
 ·exact Q_ rfl (Tw ⟨rfl,rfl⟩)
theorem gb(n:Nat)(hn:n<=1000)(R:Int->List Step)(hR:∀i:Nat,i<n->(R i).length<=1000)(h:List (Int×Int)):BI [bD n R,bg h]=some (.new (bD n (sV h R))):=by
 apply TQ;unfold BI
 (refine Dm.Tz ?_ rfl rfl;and_intros)
 refine TL ?_;refine UE (fun i:Nat=>cH (R i)) (Qs n) id (fun i:Nat=>cH (sV h R i)) (d:=bD n R) ?_ rfl rfl rfl (by decide) (by rw[QG];unfold SZ;lia) fun i hi=>?_
 ·rw[S7];rfl
 ·exact xT gNe (fun o y=>!decide (o=some y)) Kg h _ (R i) (hR i (RD.mp hi))
theorem qG(n:Nat)(hn:n<=1000)(R:Int->List Step)(hR:∀i:Nat,i<n->(R i).length<=1000)(h:List (Int×Int)):BJ [bD n R,bg h]=some (.new (bD n (sW h R))):=by
 apply TQ;unfold BJ
 (refine Dm.Tz ?_ rfl rfl;and_intros)
 refine TL ?_;refine UE (fun i:Nat=>cH (R i)) (Qs n) id (fun i:Nat=>cH (sW h R i)) (d:=bD n R) ?_ rfl rfl rfl (by decide) (by rw[QG];unfold SZ;lia) fun i hi=>?_
 ·rw[S7];rfl
 ·exact xT gEq (fun o y=>decide (o=some y)) Kh h _ (R i) (hR i (RD.mp hi))
theorem Fp(ks:List Int)(i:Int):(ks.any fun k=>decide (k=i))=decide (i∈ks):=by
 induction ks with
 |nil=>rfl
 |cons k ks ih=>
  rw[RB,ih];by_cases h:k=i
  ·simp[h]
  ·have h':¬i=k:=fun z=>h z.symm;simp[h,h']
theorem xU{ks:List Int}{vs:List Dat}{i:Int}{d:Dat}(h:i∉ks):jZ ks i=ks++[i]/\j0 ks vs i d=vs++[d]:=by unfold jZ j0;rw[Fp,decide_eq_false h];exact⟨rfl,rfl⟩
theorem zA{α:Type}(key:α->Int)(val:α->Dat)(xs:List α)(i:Int):bC (xs.map key) (xs.map val) i=(xs.find? fun x=>decide (key x=i)).map val:=by
 induction xs with
 |nil=>rfl
 |cons x xs ih=>
  rw[Qa,Qa,bC,Ro];by_cases h:key x=i
  ·simp[h]
  ·simp[h,ih]
theorem dS{α:Type}[DecidableEq α]:∀(l m:List α),l.Nodup->(∀x∈l,x∈m)->l.length<=m.length
 |[],_,_,_=>QM _
 |x::l,m,h,k=>by
  obtain⟨h1,h2⟩:=Qv.mp h;have hx:x∈m:=k x Qe;have:=dS l (m.erase x) h2 fun y hy=>(List.mem_erase_of_ne (fun e:y=x=>h1 (by rw[<- e];exact hy))).mpr (k y (Qg _ hy));rw[List.length_erase_of_mem hx]at this;have:=List.length_pos_of_mem hx;simp
  lia
noncomputable def places(n:Nat):List Int:=(Qs n).map fun i:Nat=>(i:Int)
theorem places_len(n:Nat):(places n).length=n:=by simp[places]
theorem vM(n:Nat)(x:Int):x∈places n↔0<=x/\x<n:=by
 unfold places;rw[Qp];constructor
 ·rintro⟨i,hi,rfl⟩;have:=RD.mp hi
  lia
 ·rintro⟨h0,h1⟩;exact⟨x.toNat,RD.mpr (by lia),by lia⟩
noncomputable abbrev Sr:=List (Int×List Step)
noncomputable def sk(s:Sr):List Int:=s.map (·.1)
noncomputable def sv(s:Sr):List Dat:=s.map fun e=>cH e.2
def InR(R:Int->List Step)(p:Int)(s:Step):Prop:=s∈R p
structure BW(R:Int->Step->Prop)(a:Int)(w:List Step)(p:Int):Prop where
 way:Way R a w p
 nd:(a::w.map (·.2)).Nodup
structure Fnd(n:Nat)(R:Int->List Step)(a:Int)(s:Sr):Prop where
 nd:(sk s).Nodup
 pl:∀x∈sk s,0<=x/\x<n
 st:a∈sk s
 way:∀e∈s,BW (InR R) a e.2 e.1/\∀x∈a::e.2.map (·.2),x∈sk s
theorem Fnd.len{n:Nat}{R:Int->List Step}{a:Int}{s:Sr}(h:Fnd n R a s):s.length<=n:=by
 have:=dS (sk s) (places n) h.nd fun x hx=>(vM n x).mpr (h.pl x hx);rw[places_len]at this
 simpa [sk] using this
theorem Fnd.Fq{n:Nat}{R:Int->List Step}{a:Int}{s:Sr}(h:Fnd n R a s){e:Int×List Step}(he:e∈s):e.2.length<s.length:=by
 obtain⟨h1,h2⟩:=h.way e he;have:=dS (a::e.2.map (·.2)) (sk s) h1.nd h2;simp[sk]at this
 lia
theorem cU(s:Sr)(x:Int)(w:List Step):sk (s++[(x,w)])=sk s++[x]:=by simp[sk]
theorem Ft(s:Sr)(x:Int)(w:List Step):sv (s++[(x,w)])=sv s++[cH w]:=by simp[sv]
theorem qH(s:Sr)(x:Int):(∃w,(x,w)∈s/\bC (sk s) (sv s) x=some (cH w))\/(x∉sk s/\bC (sk s) (sv s) x=none):=by
 unfold sk sv;rw[zA (fun e:Int×List Step=>e.1) (fun e=>cH e.2) s x];cases hf:s.find? fun e=>decide (e.1=x) with
 |none=>refine Or.inr ⟨fun h=>?_,rfl⟩;obtain⟨e,he,hx⟩:=Qp.mp h;have:=SH.mp hf e he;simp[hx]at this
 |some e=>
  have h1:=List.mem_of_find?_eq_some hf;have h2:=List.find?_some hf;have h2:e.1=x:=by simpa using h2
  exact Or.inl ⟨e.2,by rw[<- h2];exact h1,rfl⟩
theorem kh(s:Sr)(x:Int):(bC (sk s) (sv s) x).isSome=decide (x∈sk s):=by
 rcases qH s x with⟨ts,h1,h2⟩ | ⟨h1,h2⟩
 ·have:x∈sk s:=Qp.mpr ⟨_,h1,rfl⟩;rw[h2,decide_eq_true this];rfl
 ·rw[h2,decide_eq_false h1];rfl
theorem Fnd.start{n:Nat}{R:Int->List Step}{a:Int}(a0:0<=a)(a1:a<n):Fnd n R a [(a,[])] where
 nd:=by simp[sk]
 pl:=by intro x hx;simp[sk]at hx;subst hx;exact⟨a0,a1⟩
 st:=by simp[sk]
 way:=by intro e he;simp at he;subst he;exact⟨⟨rfl,by simp⟩,by simp[sk]⟩
theorem Fnd.step{n:Nat}{R:Int->List Step}{a:Int}{s:Sr}(h:Fnd n R a s){p:Int}{w:List Step}(hp:(p,w)∈s){u:Step}(hu:u∈R p)(hn:u.2∉sk s)(u0:0<=u.2)(u1:u.2<n):Fnd n R a (s++[(u.2,w++[u])]) where
 nd:=by rw[cU];exact Rh.mpr ⟨h.nd,by simp,fun x hx y hy=>by rw[Qo.mp hy];exact fun e=>hn (e▸hx)⟩
 pl:=by
  intro x hx;rw[cU]at hx;rcases Qu.mp hx with hx | hx
  ·exact h.pl x hx
  ·rw[Qo.mp hx];exact⟨u0,u1⟩
 st:=by rw[cU];exact QK _ h.st
 way:=by
  intro e he;rw[cU];rcases Qu.mp he with he | he
  ·obtain⟨k1,k2⟩:=h.way e he;exact⟨k1,fun x hx=>QK _ (k2 x hx)⟩
  ·rw[Qo.mp he];obtain⟨k1,k2⟩:=h.way _ hp;refine⟨⟨k1.way.snoc hu,?_⟩,fun x hx=>?_⟩
   ·dsimp only at k1 k2 ⊢;rw[Qq,<- Rl];exact Rh.mpr ⟨k1.nd,by simp,fun x hx y hy=>by rw[Qo.mp hy];exact fun e:x=u.2=>hn (by rw[<- e];exact k2 x hx)⟩
   ·dsimp only at k1 k2 hx ⊢;rw[Qq,<- Rl]at hx;rcases Qu.mp hx with hx | hx
    ·exact QK _ (k2 x hx)
    ·exact QH _ (by simpa using hx)
def Done(R:Int->List Step)(K:List Int)(x:Int):Prop:=∀u∈R x,u.2∈K
noncomputable def Fv(n:Nat)(R:Int->List Step)(a:Int)(s:Sr)(ps:List Int)(c4 c5:Cell):Env:=[.sh (bD n R),.sh (.int a),.ow (.dct (sk s) (sv s)),.ow (.lst (ps.map Dat.int)),c4,c5]
theorem Kl{ps:List Int}{p0:Int}{i:Nat}{e:FE}{ρ ρ2:Env}{Q:Val->Env->Prop}(q:Q (.val (.int p0)) ρ2)(h:ρ[i]?=some (.ow (.lst ((p0::ps).map Dat.int))))(he:e ρ=some (.val (.int 0),ρ))(hs:ρ.set i (.ow (.lst (ps.map Dat.int)))=ρ2):We (jF i e) ρ Q:=
 ⟨_,_,by unfold jF;rw[h];dsimp only;rw[he];dsimp only;rw[h];dsimp only;rw[if_pos (by unfold BIG;lia)];show some (Val.val (.int p0),ρ.set i (.ow (.lst (ps.map Dat.int))))=_;rw[hs],q⟩
theorem Fw(n:Nat)(R:Int->List Step)(x:Int)(h0:0<=x)(h1:x<n):gIx (bD n R) (.int x)=some (.val (cH (R x))):=by
 unfold bD gIx;dsimp only;rw[jb (fun i:Nat=>cH (R i)) (Qs n) x h0 (by rw[QG];exact h1)];have e:(((Qs n)[x.toNat]'(by rw[QG];lia):Nat):Int)=x:=by rw[List.getElem_range];lia
 rw[e];rfl
theorem ki(n:Nat)(hn:n<=40)(R:Int->List Step)(hR:∀i:Int,0<=i->i<n->∀u∈R i,0<=u.2/\u.2<n)(a:Int)(a0:0<=a)(a1:a<n) :
  ∃s:Sr,sH [bD n R,.int a]=some (.new (.dct (sk s) (sv s)))/\Fnd n R a s/\∀x∈sk s,Done R (sk s) x:=by
 suffices h:Wr (sH [bD n R,.int a]) fun v=>∃s:Sr,v=.new (.dct (sk s) (sv s))/\Fnd n R a s/\∀x∈sk s,Done R (sk s) x by obtain⟨v,h1,s,rfl,h2⟩:=h;exact⟨s,h1,h2⟩
 unfold sH
 (refine Dm.Tz ?_ rfl rfl;and_intros)
 refine Tn (Tt ?_ (by decide));refine Vr (Q_ rfl (bV.mk (T_ (R_ (TU ?_ rfl (by trivial) (by exact QB rfl))))));refine Tw (TN ?_ (by trivial));refine Tn (Tt ?_ (by decide));refine T_ (m_ (Q_ rfl (R_ (TU ?_ rfl (by trivial) (by exact QB rfl)))));refine TN ?_ (by trivial);refine Tn ?_;refine UX (fun k ρ=>∃(s:Sr) (ps:List Int) (c4 c5:Cell),ρ=Fv n R a s ps c4 c5/\Fnd n R a s/\(∀x∈ps,x∈sk s)/\(∀x∈sk s,x∈ps\/Done R (sk s) x)/\k=ps.length+(n-s.length)/\k<=40) ?_ 100 n _ (by lia) ⟨[(a,[])],[a],_,_,rfl,Fnd.start a0 a1,by simp[sk],by simp[sk],by simp;lia,hn⟩;rintro k ρ ⟨s,ps,c4,c5,rfl,F,hps,hd,hk,P_⟩;unfold Fv;refine VC ?_;refine TV rfl ?_;refine⟨_,!(ps.map Dat.int).isEmpty,rfl,rfl,?_⟩;have len:=F.len;cases ps with
 |nil=>refine T4 rfl ?_;refine TL (TV rfl (Uj ?_ rfl));exact⟨s,rfl,F,fun x hx=>(hd x hx).resolve_left (by simp)⟩
 |cons p0 ps0=>
  refine Us rfl ?_;unfold G8;refine Tn (Tt ?_ (by decide));refine Kl (ps:=ps0) (p0:=p0) ?_ rfl rfl rfl;refine Tq ?_ (by trivial);have hp0:p0∈sk s:=hps p0 (by simp);obtain⟨q0,q1⟩:=F.pl p0 hp0;refine T8 (UU (S_ (Q_ rfl (Q_ rfl (To ?_ rfl rfl (Fw n R p0 q0 q1))))));refine Tw (fR ?_);refine T9 bM _ _ (R p0) _ _ _ _ _ (fun p q ρ=>∃(s:Sr) (ps:List Int) (c5:Cell),ρ=Fv n R a s ps (.sh (.int p0)) c5/\Fnd n R a s/\(∀x∈ps,x∈sk s)/\p0∈sk s/\(∀x∈sk s,x∈ps\/x=p0\/Done R (sk s) x)/\(∀u∈p,u.2∈sk s)/\k=ps.length+1+(n-s.length)) ⟨s,ps0,_,rfl,F,fun x hx=>hps x (by simp[hx]),hp0,?_,by simp,by rw[hk];simp⟩ ?_ ?_
  ·intro x hx;rcases hd x hx with h | h
   ·rcases Qk.mp h with h | h
    ·exact .inr (.inl h)
    ·exact .inl h
   ·exact .inr (.inr h)
  ·rintro p u q ρ e' ⟨s,ps,c5,rfl,F,hps,hp0,hd,hp,hk⟩;have len:=F.len;have hu:u∈R p0:=by rw[e'];simp
   obtain⟨u0,u1⟩:=hR p0 q0 q1 u hu;unfold Fv;refine Dm.bU rfl (by trivial) ?_;unfold G7;refine TX (TF (S_ (S_ (Q_ rfl (Tj (To ?_ rfl rfl rfl))))));refine TV rfl (Vf ?_ rfl rfl);refine Tp ?_;rw[kh];refine⟨fun h=>?_,fun h=>?_⟩
   ·have hnew:=ndT h;obtain⟨w,t1,t2⟩:∃w,(p0,w)∈s/\bC (sk s) (sv s) p0=some (cH w):=by
     rcases qH s p0 with h | h
     ·exact h
     ·exact absurd hp0 h.1
    have wl:=F.Fq t1;refine Tn (Va (S_ (S_ (TV rfl (Q_ rfl (UY t2 ?_ rfl rfl))))));refine T_ (m_ (Q_ rfl (R_ (TU ?_ rfl rfl (by exact QB rfl)))));refine UZ ?_ rfl rfl (by rw[Dp];dsimp only at wl;simp;unfold SZ;lia);refine Ux (qE rfl (S_ (Q_ rfl (Tj (To ?_ rfl rfl rfl)))));refine bV.mk (qC ?_ rfl (by trivial) (by simp only[sk,Dp];unfold SZ;lia));refine Ul (S_ (Q_ rfl (Tj (To ?_ rfl rfl rfl)))) rfl;refine Tw (gy ?_ rfl (by trivial) (by rw[Dp];unfold SZ;lia));have F':=F.step t1 hu hnew u0 u1;have len':=F'.len;have em:Dat.lst (w.map bM++[bM u])=cH (w++[u]):=by simp[cH]
    obtain⟨p1,p2⟩:=xU (ks:=sk s) (vs:=sv s) (i:=u.2) (d:=cH (w++[u])) hnew;refine⟨s++[(u.2,w++[u])],ps++[u.2],.sh (bM u),?_,F',?_,?_,?_,?_,?_⟩
    ·rw[em,p1,p2,cU,Ft,Qq];rfl
    ·intro x hx;rw[cU];rcases Qu.mp hx with hx | hx
     ·exact QK _ (hps x hx)
     ·exact QH _ hx
    ·rw[cU];exact QK _ hp0
    ·intro x hx;rw[cU]at hx ⊢;rcases Qu.mp hx with hx | hx
     ·rcases hd x hx with h | h | h
      ·exact .inl (QK _ h)
      ·exact .inr (.inl h)
      ·exact .inr (.inr fun y hy=>QK _ (h y hy))
     ·exact .inl (QH _ hx)
    ·intro v hv;rw[cU];rcases Qu.mp hv with hv | hv
     ·exact QK _ (hp v hv)
     ·rw[Qo.mp hv];simp
    ·rw[hk];simp at len' ⊢;lia
   ·have hold:=ndF h;refine TY ?_;refine⟨s,ps,.sh (bM u),rfl,F,hps,hp0,hd,fun v hv=>?_,hk⟩;rcases Qu.mp hv with hv | hv
    ·exact hp v hv
    ·rw[Qo.mp hv];exact hold
  ·rintro ρ ⟨s,ps,c5,rfl,F,hps,hp0,hd,hp,hk⟩;refine⟨ps.length+(n-s.length),by lia,s,ps,_,_,rfl,F,hps,fun x hx=>?_,rfl,by lia⟩;rcases hd x hx with h | rfl | h
   ·exact .inl h
   ·exact .inr hp
   ·exact .inr h
noncomputable def kj(h:List (Int×Int))(s:Step):List (Int×Int):=if s.1∈hk h then h.filter fun e=>decide (e.1≠s.1) else h++[s]
theorem mF(h:List (Int×Int))(m:Int):hdF (h.filter fun e=>decide (e.1≠m))=put (hdF h) m none:=by
 funext x
 unfold put hdF;rw[List.find?_filter];by_cases e:x=m
 ·subst e;rw[if_pos rfl,SH.mpr fun y _=>by simp];rfl
 ·rw[if_neg e]
  congr 1
  congr 1
  funext y
  by_cases q:y.1=x
  ·have:y.1≠m:=fun z=>e (q.symm.trans z);simp[q,e]
  ·simp[q]
theorem Fx(h:List (Int×Int))(s:Step)(hn:s.1∉hk h):hdF (h++[s])=put (hdF h) s.1 (some s.2):=by
 funext x
 unfold put hdF;rw[List.find?_append];by_cases e:x=s.1
 ·subst e;rw[if_pos rfl];have:(h.find? fun e=>decide (e.1=s.1))=none:=SH.mpr fun y hy=>by
   intro z;exact hn (Qp.mpr ⟨y,hy,of_decide_eq_true z⟩)
  rw[this];simp
 ·rw[if_neg e];have e':¬s.1=x:=fun z=>e z.symm;cases hf:(h.find? fun e=>decide (e.1=x)) with
  |none=>simp[e']
  |some y=>rfl
theorem BX(h:List (Int×Int))(s:Step):hdF (kj h s)=fG (hdF h) s.1 s.2:=by
 unfold kj fG;rw[qF];by_cases q:s.1∈hk h
 ·rw[if_pos q,if_pos (decide_eq_true q),mF]
 ·rw[if_neg q,if_neg (by simpa using q),Fx h s q]
noncomputable def bH(h:List (Int×Int)):List Step->List (Int×Int)
 |[]=>h
 |s::w=>bH (kj h s) w
theorem pS:∀(w:List Step) (h:List (Int×Int)),hdF (bH h w)=j_ (hdF h) w
 |[],_=>rfl
 |s::w,h=>by rw[bH,j_,pS w,BX]
theorem fK:∀(w:List Step) (h:List (Int×Int)) (s:Step),bH h (w++[s])=kj (bH h w) s
 |[],_,_=>rfl
 |_::w,h,s=>by rw[Rl,bH,bH,fK w]
theorem kR(h:List (Int×Int))(m:Int):d9 (hk h) (hv h) m=hk (h.filter fun e=>decide (e.1≠m))/\d_ (hk h) (hv h) m=hv (h.filter fun e=>decide (e.1≠m)):=by
 unfold hk hv
 induction h with
 |nil=>exact⟨rfl,rfl⟩
 |cons e h ih=>
  rw[Qa,Qa,d9,d_];by_cases q:e.1=m
  ·rw[if_pos q,if_pos q,Q5 (by simpa using q)];exact ih
  ·rw[if_neg q,if_neg q,Q6 (by simpa using q),Qa,Qa,ih.1,ih.2];exact⟨rfl,rfl⟩
structure Hok(r:List Tie)(h:List (Int×Int)):Prop where
 nd:(hk h).Nodup
 sub:∀m∈hk h,m∈r.map (·.m)
theorem Hok.len{r:List Tie}{h:List (Int×Int)}(k:Hok r h):h.length<=r.length:=by
 have:=dS (hk h) (r.map (·.m)) k.nd k.sub
 simpa [hk] using this
theorem Hok.nil(r:List Tie):Hok r []:=⟨by simp[hk],by simp[hk]⟩
theorem Hok.drop{r:List Tie}{h:List (Int×Int)}(k:Hok r h)(m:Int):Hok r (h.filter fun e=>decide (e.1≠m)):=by refine⟨(k.nd.sublist (List.Sublist.map _ (Sy))),fun x hx=>k.sub x ?_⟩;obtain⟨e,he,rfl⟩:=Qp.mp hx;exact Qp.mpr ⟨e,(Ri.mp he).1,rfl⟩
theorem Hok.lead{r:List Tie}{h:List (Int×Int)}(k:Hok r h){s:Step}(hs:s.1∈r.map (·.m)):Hok r (kj h s):=by
 unfold kj;split
 ·exact k.drop _
 ·rename_i q;refine⟨?_,fun x hx=>?_⟩
  ·unfold hk;rw[Qq];exact Rh.mpr ⟨k.nd,by simp,fun x hx y hy=>by
    have:y=s.1:=by simpa using hy
    rw[this];exact fun e=>q (e▸hx)⟩
  ·unfold hk at hx;rw[Qq]at hx;rcases Qu.mp hx with hx | hx
   ·exact k.sub x hx
   ·have:x=s.1:=by simpa using hx
    rw[this];exact hs
theorem Hok.BY{r:List Tie}:∀{w:List Step} {h:List (Int×Int)},Hok r h->(∀s∈w,s.1∈r.map (·.m))->Hok r (bH h w)
 |[],_,k,_=>k
 |s::w,h,k,hs=>by rw[bH];exact Hok.BY (w:=w) (k.lead (hs s Qe)) fun u hu=>hs u (Qg _ hu)
theorem oN(r:List Tie)(hl:r.length<=1000)(h:List (Int×Int))(k:Hok r h)(w:List Step)(hw:∀s∈w,s.1∈r.map (·.m)):BK [bg h,cH w]=some (.val .non,bg (bH h w)):=by
 suffices q:WrM (BK [bg h,cH w]) fun z d=>z=.val .non/\d=bg (bH h w) by obtain⟨z,d,h1,rfl,rfl⟩:=q;exact h1
 unfold BK;refine Uk ?_ rfl rfl;refine T8 (UU (Q_ rfl (Tw (fR ?_))));refine T9 bM _ _ w _ _ _ _ _ (fun p q ρ=>∃c2 c3,ρ=[.ow (bg (bH h p)),.sh (cH w),c2,c3]) ⟨_,_,rfl⟩ ?_ ?_
 ·rintro p s q ρ e ⟨c2,c3,rfl⟩;refine Dm.bU rfl (by trivial) ?_;have kp:Hok r (bH h p):=k.BY fun u hu=>hw u (by rw[e];exact QK _ hu);have len:=kp.len;unfold G9;refine TX (TF (S_ (Q_ rfl (TV rfl (UQ ?_ rfl rfl)))));refine Tp ?_;rw[kQ,RW,qF];refine Ut (fun hm=>?_) fun hm=>?_
  ·obtain⟨x,hx⟩:∃x,hdF (bH h p) s.1=some x:=Option.isSome_iff_exists.mp (by rw[qF];exact decide_eq_true hm);refine UC (Vo (k:=s.1) (d:=.int x) (by rw[kQ,hx];rfl) ?_ rfl rfl rfl);refine⟨.sh (.int s.1),.sh (.int s.2),?_⟩;rw[fK,kj,if_pos hm,(kR _ _).1,(kR _ _).2];rfl
  ·refine Va (Q_ rfl (Tw (qE rfl (Q_ rfl (bV.mk (qC ?_ rfl (by trivial) ?_))))))
   ·refine⟨.sh (.int s.1),.sh (.int s.2),?_⟩;rw[fK,kj,if_neg hm];obtain⟨p1,p2⟩:=xU (ks:=hk (bH h p)) (vs:=hv (bH h p)) (i:=s.1) (d:=.int s.2) hm;rw[p1,p2];unfold bg hk hv;rw[Qq,Qq];rfl
   ·unfold hk;rw[Dp];unfold SZ;lia
 ·rintro ρ ⟨c2,c3,rfl⟩;exact⟨_,rfl,rfl,rfl⟩
theorem ko{r:List Tie}{x:Int}{s:Step}:s∈aH r x↔fH r x s:=by
 unfold aH;rw[SE];constructor
 ·rintro⟨t,ht,e⟩;unfold cI at e;split at e
  ·cases e
  rename_i Pu;split at e
  ·rename_i ha;cases e;exact⟨t,ht,rfl,Pu,.inl ⟨ha,rfl⟩⟩
  ·split at e
   ·rename_i hb;cases e;exact⟨t,ht,rfl,Pu,.inr ⟨hb,rfl⟩⟩
   ·cases e
 ·rintro⟨t,ht,hm,Pu,he⟩;refine⟨t,ht,?_⟩;unfold cI;rw[if_neg Pu];rcases he with⟨h1,h2⟩ | ⟨h1,h2⟩
  ·rw[if_pos h1,hm,h2]
  ·rw[if_neg (fun z=>Pu (z.trans h1.symm)),if_pos h1,hm,h2]
theorem sX{n:Nat}{r:List Tie}(hp:Pl n r){x:Int}{s:Step}(h:fH r x s):(0<=x/\x<n)/\0<=s.2/\s.2<n:=by
 obtain⟨t,ht,_,_,he⟩:=h;have:=hp t ht
 lia
theorem Fy{r:List Tie}{x:Int}{s:Step}(h:fH r x s):s.1∈r.map (·.m):=by obtain⟨t,ht,hm,_⟩:=h;exact Qp.mpr ⟨t,ht,hm⟩
theorem BZ{r:List Tie}{R:Int->Step->Prop}(hR:∀p s,R p s->fH r p s){y:Int}:∀{w:List Step} {x:Int},Way R x w y->∀s∈w,s.1∈r.map (·.m)
 |[],_,_,s,hs=>by cases hs
 |u::w,x,h,s,hs=>by
  rcases Qk.mp hs with rfl | hs
  ·exact Fy (hR _ _ h.1)
  ·exact BZ hR h.2 s hs
theorem mG{r:List Tie}{h:List (Int×Int)}{p:Int}{s:Step}:InR (sV h (aH r)) p s↔mh r (hdF h) p s:=by unfold InR sV mh;rw[Ri,ko];simp
theorem qI{r:List Tie}{h:List (Int×Int)}{p:Int}{s:Step}:InR (sW h (aH r)) p s↔Led r (hdF h) p s:=by unfold InR sW Led;rw[Ri,ko];simp
theorem zB(w:List Step):bw (cH w)=true:=fS _ _ fun s=>by unfold bM bw;exact jK _ (by intro x hx;simp at hx;rcases hx with rfl | rfl<;>exact pN _)
theorem gD(n:Nat)(R:Int->List Step):bw (bD n R)=true:=fS (fun i:Nat=>cH (R i)) _ fun i=>zB _
noncomputable def mso(w:List Step):List Int:=w.map (·.1)
noncomputable def msD(w:List Step):Dat:=.lst ((mso w).map Dat.int)
noncomputable def cj(h:List (Int×Int)):List Int->List (Int×Int)
 |[]=>h
 |m::ms=>cj (h.filter fun e=>decide (e.1≠m)) ms
theorem kq:∀(ms:List Int) (h:List (Int×Int)) (m:Int),cj h (ms++[m])=(cj h ms).filter fun e=>decide (e.1≠m)
 |[],_,_=>rfl
 |_::ms,h,m=>by rw[Rl,cj,cj,kq ms]
theorem jM:∀(w:List Step) (h:List (Int×Int)),hdF (cj h (mso w))=eO (hdF h) w
 |[],_=>rfl
 |s::w,h=>by show hdF (cj _ (mso w))=eO _ w;rw[jM w,mF]
theorem kr:∀(ms:List Int) (h:List (Int×Int)) (x:Int),x∉ms->hdF (cj h ms) x=hdF h x
 |[],_,_,_=>rfl
 |m::ms,h,x,hx=>by rw[cj,kr ms _ x fun z=>hx (Qg _ z),mF];unfold put;rw[if_neg fun z=>hx (by rw[z];exact Qe)]
theorem Hok.drops{r:List Tie}:∀{ms:List Int} {h:List (Int×Int)},Hok r h->Hok r (cj h ms)
 |[],_,k=>k
 |m::ms,h,k=>by rw[cj];exact Hok.drops (ms:=ms) (k.drop m)
theorem vN{r:List Tie}{H:Hd}{y:Int}:∀{w:List Step} {x:Int},Way (Led r H) x w y->∀s∈w,H s.1=some s.2
 |[],_,_,s,hs=>by cases hs
 |u::w,x,h,s,hs=>by
  rcases Qk.mp hs with rfl | hs
  ·exact h.1.2
  ·exact vN h.2 s hs
structure B0(r:List Tie)(a b:Int)(ws:List (List Step)):Prop where
 way:∀w∈ws,BW (fH r) a w b
 nd:(ws.map mso).flatten.Nodup
noncomputable def zC(n:Nat)(r:List Tie)(h0 h:List (Int×Int))(a b:Int)(c:Nat)(ws:List (List Step))(c7 c8 c9:Cell):Env:=
 [.sh (bD n (aH r)),.sh (bg h0),.sh (.int a),.sh (.int b),.sh (.int c),.ow (bg h),.ow (.lst (ws.map msD)),c7,c8,c9]
theorem zD(n:Nat)(hn:n<=40)(r:List Tie)(hp:Pl n r)(nd:(r.map (·.m)).Nodup)(hl:r.length<=1000)(h:List (Int×Int))(k:Hok r h)(a b:Int)(a0:0<=a)(a1:a<n)(c:Nat)(hc:c<=1000)(fl:Flow r (hdF h) a b c) :
  ∃ws:List (List Step),zu [bD n (aH r),bg h,.int a,.int b,.int c]=some (.new (.lst (ws.map msD)))/\ws.length=c/\B0 r a b ws:=by
 suffices q:Wr (zu [bD n (aH r),bg h,.int a,.int b,.int c]) fun v=>∃ws:List (List Step),v=.new (.lst (ws.map msD))/\ws.length=c/\B0 r a b ws by obtain⟨v,h1,ws,rfl,h2⟩:=q;exact⟨ws,h1,h2⟩
 unfold zu
 (refine Dm.Tz ?_ rfl rfl;and_intros)
 refine Tn (Tt (TR (m_ (Q_ rfl (R_ (Vt (ks:=hk h) (vs:=hv h) ?_ rfl))))) (by decide));refine TN ?_ (by trivial);refine Tn (Tt (T_ (R_ (TU ?_ rfl rfl (by decide)))) (by decide));refine TN ?_ (by trivial);refine Tn (T8 (Um (Q_ rfl (bV.mk ⟨?_,by unfold BIG;lia,by unfold BIG;lia⟩))));refine T9 (fun i:Nat=>Dat.int (0+(i:Nat))) _ _ (Qs c) _ _ _ _ _ (fun p q ρ=>∃(h':List (Int×Int)) (ws:List (List Step)) (c7 c8 c9:Cell),ρ=zC n r h h' a b c ws c7 c8 c9/\Hok r h'/\ws.length=p.length/\Flow r (hdF h') a b q.length/\B0 r a b ws/\∀m∈(ws.map mso).flatten,hdF h' m=none)
  ⟨h,[],_,_,_,rfl,k,rfl,by rw[QG];exact fl,⟨by simp,by simp⟩,by simp⟩ ?_ ?_
 ·rintro p x q ρ e ⟨h',ws,c7,c8,c9,rfl,k',wl,fl',W,hno⟩;rw[QT]at fl';unfold zC;refine Dm.bU rfl (by trivial) ?_;unfold Hh;have hR:∀i:Nat,i<n->(aH r i).length<=1000:=fun i _=>QO (dI r i) hl;obtain⟨s,es,F,hd⟩:=ki n hn (sW h' (aH r)) (fun i _ _ u hu=>(sX hp ((qI (h:=h')).mp hu).1).2) a a0 a1;have hb:b∈sk s:=by
   have:=fl'.reach (S:=fun y=>decide (y∈sk s)) (decide_eq_true F.st) fun y u hy hu=>decide_eq_true (hd y (of_decide_eq_true hy) u (qI.mpr hu));exact of_decide_eq_true this
  obtain⟨w,t1,t2⟩:∃w,(b,w)∈s/\bC (sk s) (sv s) b=some (cH w):=by
   rcases qH s b with h | h
   ·exact h
   ·exact absurd hb h.1
  obtain⟨⟨w1,w2⟩,_⟩:=F.way _ t1;have Fq:=F.Fq t1;have PD:=F.len;dsimp only at w1 w2 Fq;have w1':Way (Led r (hdF h')) a w b:=w1.mono fun _ _ z=>qI.mp z;have wm:=j9 nd (fun p s h=>h.1) w1' w2;have Kf:iS (e2 gDx (eF sH [(eFd BJ [(eV 0),(eV 5)]),(eV 2)]) (eV 3)) [.sh (bD n (aH r)),.sh (bg h),.sh (.int a),.sh (.int b),.sh (.int c),.ow (bg h'),.ow (.lst (ws.map msD)),.sh (.int (0+(x:Nat))),c8,c9]
    = some (w.map bM,[.sh (bD n (aH r)),.sh (bg h),.sh (.int a),.sh (.int b),.sh (.int c),.ow (bg h'),.ow (.lst (ws.map msD)),.sh (.int (0+(x:Nat))),c8,c9]):=by
   apply U0;refine UU (S_ (Tu (m_ (U9 (m_ (Q_ rfl (m_ (TV rfl (R_ ?_)))))))));refine⟨_,_,_,rfl,qG n (by lia) (aH r) hR h',gD _ _,?_⟩;refine m_ (Q_ rfl (R_ (TM es ?_ rfl rfl rfl rfl)));refine Q_ rfl (UY t2 ?_ rfl rfl);exact Tw (fR ⟨rfl,rfl⟩)
  refine Tn (Tt (UH bM w (fun s=>s.1) Dat.int ?_ Kf rfl (by decide) (by unfold SZ;lia) fun s _=>S_ (Q_ rfl (Tj (To (Tw ⟨rfl,rfl⟩) rfl rfl rfl)))) (by decide));refine TN ?_ (by trivial);refine Tn (T8 (UU (TV rfl (U6 (fR ?_) rfl (by trivial)))));refine T9 Dat.int _ _ (mso w) _ _ _ _ _ (fun pm qm ρ=>∃c9,ρ=zC n r h (cj h' pm) a b c ws (.sh (.int (0+(x:Nat)))) (.sh (msD w)) c9) ⟨_,rfl⟩ ?_ ?_
  ·rintro pm m qm ρ em ⟨c9,rfl⟩;unfold zC;refine Dm.bU rfl (by trivial) ?_;unfold G_;have hm:m∉pm:=by
    have:(mso w).Nodup:=wm;rw[em]at this;exact fun z=>(Rh.mp this).2.2 m z m Qe rfl
   have hmw:m∈mso w:=by rw[em];simp
   obtain⟨st,hst,rfl⟩:=Qp.mp hmw;have hx:hdF (cj h' pm) st.1=some st.2:=by rw[kr pm h' st.1 hm];exact vN w1' st hst
   refine UC (Vo (k:=st.1) (d:=.int st.2) (by rw[kQ,hx];rfl) ?_ rfl rfl rfl);refine⟨.sh (.int st.1),?_⟩;rw[kq,(kR _ _).1,(kR _ _).2];rfl
  ·rintro ρ ⟨c9,rfl⟩;unfold zC;refine Ul (Q_ rfl (Tw (gy ?_ rfl (by trivial) ?_))) rfl
   ·have fl2:=fl'.less nd w1' w2;rw[<- jM]at fl2;refine⟨cj h' (mso w),ws++[w],.sh (.int (0+(x:Nat))),.sh (msD w),c9,?_,k'.drops,by simp[wl],fl2,⟨fun v hv=>?_,?_⟩,fun m hm=>?_⟩
    ·rw[Qq];rfl
    ·rcases Qu.mp hv with hv | hv
     ·exact W.way v hv
     ·rw[Qo.mp hv];exact⟨w1'.mono fun _ _ z=>z.1,w2⟩
    ·rw[Qq,List.flatten_append];refine Rh.mpr ⟨W.nd,by rw[Qa,Su,Ra,List.flatten_nil,Rc];exact wm,fun m hm z hz=>?_⟩;intro e;subst e;have:m∈mso w:=by simpa using hz
     obtain⟨st,hst,rfl⟩:=Qp.mp this;have h1:=vN w1' st hst;rw[hno _ hm]at h1;cases h1
    ·rw[Qq,List.flatten_append]at hm;rw[jM];rcases Qu.mp hm with hm | hm
     ·by_cases z:m∈mso w
      ·exact gB z
      ·rw[fJ fun u hu e=>z (Qp.mpr ⟨u,hu,e⟩)];exact hno m hm
     ·rw[Qa,Su,Ra,List.flatten_nil,Rc]at hm;exact gB hm
   ·rw[Dp,wl];have:=congrArg List.length e;rw[QG,Qn]at this;unfold SZ;lia
 ·rintro ρ ⟨h',ws,c7,c8,c9,rfl,k',wl,fl',W,hno⟩;unfold zC;refine TL (TV rfl (Uj ?_ rfl));exact⟨ws,rfl,by rw[wl,QG],W⟩
noncomputable def tupI(S:List Int):Dat:=.tup (S.map Dat.int)
noncomputable def ovr(S:List Int)(t:Tie):Bool:=decide (t.a∈S) != decide (t.b∈S)
noncomputable def fY(r:List Tie)(S:List Int):List Int:=(r.filter (ovr S)).map (·.m)
def Nz(n:Nat)(a b:Int)(S:List Int):Prop:=S.Pairwise (· < ·)/\(∀x∈S,0<=x/\x<n)/\a∈S/\b∉S
noncomputable def gf:Option (List Int)->Dat
 |none=>.non
 |some S=>tupI S
theorem B3{l:List Int}(h:l.Nodup):(eN ltI l).Pairwise (· < ·):=by
 have h1:=oM l;have h2:(eN ltI l).Nodup:=(d7 ltI l).nodup_iff.mpr h;refine(List.Pairwise.and h1 h2).imp fun {x y} q=>?_;obtain⟨q1,q2⟩:=q;simp[ltI]at q1
 lia
structure Apart(n:Nat)(r:List Tie)(a b:Int)(most:Int)(ws:List (List Step))(o:Option (List Int)):Prop where
 ways:B0 r a b ws
 le:(ws.length:Int)<=most
 all:o=none->(ws.length:Int)=most
 side:∀S,o=some S->Nz n a b S/\(fY r S).length=ws.length/\(ws.length:Int)<most
noncomputable def NB(n:Nat)(r:List Tie)(a b most:Int)(c5:Cell)(h:List (Int×Int))(o:Option (List Int))(k:Nat)(c9:Cell):Env:=
 [.sh (.int n),.sh (aD r),.sh (.int a),.sh (.int b),.sh (.int most),c5,.ow (bg h),.sh (gf o),.sh (.int k),c9]
def B4(n:Nat)(r:List Tie)(c:Cell):Prop:=c=.ow (bD n (aH r))\/c=.sh (bD n (aH r))
theorem xV(ws:List (List Step)):bw (.lst (ws.map msD))=true:=fS _ _ fun w=>vG _
theorem Hj{n:Nat}{r:List Tie}{c5:Cell}(h5:B4 n r c5)(A B C D E G H I J:Cell){Q:Val->Env->Prop}(Fi:List FE){Q':List Val->Env->Prop}
  (k:∀x,(x=.slot 5/\c5=.ow (bD n (aH r)))\/(x=.val (bD n (aH r))/\c5=.sh (bD n (aH r)))->Was Fi [A,B,C,D,E,c5,G,H,I,J] fun xs ρ2=>Q' (x::xs) ρ2):Was (eV 5::Fi) [A,B,C,D,E,c5,G,H,I,J] Q':=by
 rcases h5 with rfl | rfl
 ·exact m_ (TV rfl (k _ (.inl ⟨rfl,rfl⟩)))
 ·exact m_ (Q_ rfl (k _ (.inr ⟨rfl,rfl⟩)))
theorem gh(n:Nat)(hn:n<=40)(r:List Tie)(hp:Pl n r)(nd:(r.map (·.m)).Nodup)(hl:r.length<=1000)(a b:Int)(a0:0<=a)(a1:a<n)(b0:0<=b)(b1:b<n)(most:Int)(m0:0<=most)(m1:most<=90) :
  ∃ws o,zv [.int n,aD r,.int a,.int b,.int most]=some (.val (.tup [.lst (ws.map msD),gf o]))/\Apart n r a b most ws o:=by
 suffices q:Wr (zv [.int n,aD r,.int a,.int b,.int most]) fun v=>∃ws o,v=.val (.tup [.lst (ws.map msD),gf o])/\Apart n r a b most ws o by obtain⟨v,h1,ws,o,rfl,h2⟩:=q;exact⟨ws,o,h1,h2⟩
 unfold zv
 (refine Dm.Tz ?_ rfl rfl;and_intros)
 refine Tn (Tt (Tu (m_ (Q_ rfl (m_ (Q_ rfl (R_ (TM (sU n (by lia) r hp hl) ?_ rfl rfl rfl rfl))))))) (by decide));refine TN ?_ (by trivial);refine Tn (Tt (Vq (TN ?_ (by trivial))) (by decide));refine Tn (Tt (Tj (Tq ?_ (by trivial))) (by decide));refine Tn (Tt (Tj (Tq ?_ (by trivial))) (by decide));have hR:∀i:Nat,i<n->(aH r i).length<=1000:=fun i _=>QO (dI r i) hl;refine Tn ?_;refine UX (fun k ρ=>∃ (c5:Cell) (h:List (Int×Int)) (o:Option (List Int)) (Pw:Nat) (c9:Cell),ρ=NB n r a b most c5 h o Pw c9∧B4 n r c5∧Hok r h∧Flow r (hdF h) a b Pw∧(Pw:Int)≤most∧(∀ S,o=some S→Nz n a b S∧(fY r S).length=Pw∧(Pw:Int)<most) ∧
   k=(most-Pw).toNat+(if o=none then 1 else 0)) ?_ 100 (most.toNat+1) _ (by lia) ⟨_,[],none,0,_,rfl,.inl rfl,Hok.nil r,Flow.zero r a b,m0,by simp,by simp⟩
 rintro k ρ ⟨c5,h,o,Pw,c9,rfl,h5,hok,fl,hle,hs,hk⟩;unfold NB;have Nr:o≠none\/¬(Pw:Int)<most->Ws (sR (eU [(eFd zu [(eV 5),(eV 6),(eV 2),(eV 3),(eV 8)]),(eV 7)])) [.sh (.int n),.sh (aD r),.sh (.int a),.sh (.int b),.sh (.int most),c5,.ow (bg h),.sh (gf o),.sh (.int Pw),c9]
   (fun _=>∃ws o,RV.val .non=.val (.tup [.lst (ws.map msD),gf o])/\Apart n r a b most ws o) (fun v _=>∃ws o,v=.val (.tup [.lst (ws.map msD),gf o])/\Apart n r a b most ws o) (fun _=>False) (fun _=>False):=fun hend=>by
  obtain⟨ws,ep,wl,W⟩:=zD n hn r hp nd hl h hok a b a0 a1 Pw (by lia) fl;refine TL (Ur (m_ (U9 (Hj (Q:=fun _ _=>True) h5 _ _ _ _ _ _ _ _ _ _ fun x hx=>?_))));refine m_ (TV rfl (m_ (Q_ rfl (m_ (Q_ rfl (m_ (Q_ rfl (R_ ?_))))))));have fin2:Apart n r a b most ws o:=⟨W,by rw[wl];exact hle,fun z=>by rw[wl];have:=hend.resolve_left (fun y=>y z);lia,fun S z=>by rw[wl];exact hs S z⟩
  rcases hx with⟨rfl,rfl⟩ | ⟨rfl,rfl⟩
  ·refine⟨_,_,_,rfl,ep,xV ws,?_⟩;refine m_ (Q_ rfl (R_ (TU ?_ rfl rfl (by exact QB rfl))));exact⟨ws,o,rfl,fin2⟩
  ·refine⟨_,_,_,rfl,ep,xV ws,?_⟩;refine m_ (Q_ rfl (R_ (TU ?_ rfl rfl (by exact QB rfl))));exact⟨ws,o,rfl,fin2⟩
 refine UL (TF (S_ (Q_ rfl (Q_ rfl (UO (Tp ?_) rfl rfl)))));refine Ut (fun Kd=>?_) fun hge=>?_
 ·refine TF (S_ (Q_ rfl (Tj (U5 (Tp ?_) rfl rfl))));cases o with
  |some S=>refine T4 rfl ?_;exact Nr (.inl (by simp))
  |none=>
   refine Us rfl ?_;unfold Hi;obtain⟨s,es,F,hd⟩:=ki n hn (sV h (aH r)) (fun i _ _ u hu=>(sX hp ((mG (h:=h)).mp hu).1).2) a a0 a1;have PD:=F.len;have search:∀{N:Env->Prop} {R:RV->Env->Prop} {B C:Env->Prop},(∀c5',B4 n r c5'->N [.sh (.int n),.sh (aD r),.sh (.int a),.sh (.int b),.sh (.int most),c5',.ow (bg h),.sh (gf none),.sh (.int Pw),.ow (.dct (sk s) (sv s))]) ->
     Ws (sA 9 (eF sH [(eFd BI [(eV 5),(eV 6)]),(eV 2)])) [.sh (.int n),.sh (aD r),.sh (.int a),.sh (.int b),.sh (.int most),c5,.ow (bg h),.sh (gf none),.sh (.int Pw),c9] N R B C:=fun {N R B C} kN=>by
    refine Tt (Tu (m_ (U9 (Hj (Q:=fun _ _=>True) h5 _ _ _ _ _ _ _ _ _ _ fun x hx=>?_)))) (by decide);refine m_ (TV rfl (R_ ?_));rcases hx with⟨rfl,rfl⟩ | ⟨rfl,rfl⟩
    ·refine⟨_,_,_,rfl,gb n (by lia) (aH r) hR h,gD _ _,?_⟩;refine m_ (Q_ rfl (R_ (TM es ?_ rfl rfl rfl rfl)));exact TN (kN _ (.inr rfl)) (by trivial)
    ·refine⟨_,_,_,rfl,gb n (by lia) (aH r) hR h,gD _ _,?_⟩;refine m_ (Q_ rfl (R_ (TM es ?_ rfl rfl rfl rfl)));exact TN (kN _ (.inr rfl)) (by trivial)
   refine Tn (search fun c5' h5'=>?_);refine TX (TF (S_ (Q_ rfl (TV rfl (UQ (Tp ?_) rfl rfl)))));rw[kh];refine Ut (fun hb=>?_) fun hb=>?_
   ·obtain⟨w,t1,t2⟩:∃w,(b,w)∈s/\bC (sk s) (sv s) b=some (cH w):=by
     rcases qH s b with h | h
     ·exact h
     ·exact absurd hb h.1
    obtain⟨⟨w1,w2⟩,_⟩:=F.way _ t1;dsimp only at w1 w2;have w1':Way (mh r (hdF h)) a w b:=w1.mono fun _ _ z=>mG.mp z;have wms:=BZ (fun p s (z:mh r (hdF h) p s)=>z.1) w1';have el:=oN r hl h hok w wms;refine Tn (UC (UK (m_ (S_ (TV rfl (Q_ rfl (UY t2 (R_ (Uy el ?_ rfl rfl rfl)) rfl rfl))))) rfl));refine Tt (S_ (Q_ rfl (Tj (Tv (Tq ?_ (by trivial)) rfl rfl)))) (by decide);have fl2:=fl.more nd w1' w2;rw[<- pS]at fl2;refine⟨(most-(Pw+1:Nat)).toNat+1,by rw[hk];simp;lia,c5',bH h w,none,Pw+1,.ow (.dct (sk s) (sv s)),?_,h5',hok.BY wms,fl2,by lia,by simp,by simp⟩;have:((Pw:Int)+1)=((Pw+1:Nat):Int):=by lia
    rw[this]
   ·refine Tt (TR (m_ (TR (m_ (TV rfl (R_ (VG (ks:=sk s) (vs:=sv s) ?_ rfl (by simp only[sk,Dp];lia)))))))) (by decide);refine R_ (Uz ?_ rfl);refine Tq ?_ (by trivial);have pm:=d7 ltI (sk s);have hS:∀x,x∈eN ltI (sk s)↔x∈sk s:=fun x=>pm.mem_iff;refine⟨(most-Pw).toNat,by rw[hk];simp,c5',h,some (eN ltI (sk s)),Pw,.ow (.dct (sk s) (sv s)),rfl,h5',hok,fl,hle,fun S z=>?_,by simp⟩;cases z;refine⟨⟨B3 F.nd,fun x hx=>F.pl x ((hS x).mp hx),(hS a).mpr F.st,fun z=>hb ((hS b).mp z)⟩,?_,Kd⟩;have:=fl.cut (S:=fun y=>decide (y∈eN ltI (sk s))) (decide_eq_true ((hS a).mpr F.st)) (decide_eq_false fun z=>hb ((hS b).mp z)) fun y u hy hu=>decide_eq_true ((hS _).mpr (hd y ((hS y).mp (of_decide_eq_true hy)) u (mG.mpr hu)));unfold fY;rw[Dp];exact this
 ·refine T4 rfl ?_;exact Nr (.inr hge)
theorem cL(x n:Int)(h:1<=n):0<=x % n/\x % n<n:=⟨Int.emod_nonneg x (by lia),Int.emod_lt_of_pos x (by lia)⟩
noncomputable def at'(ns:List Int)(i:Int):Int:=ns.getD i.toNat 0
theorem B5(ns:List Int)(i:Int)(h0:0<=i)(h1:i<ns.length):gIx (.lst (ns.map Dat.int)) (.int i)=some (.val (.int (at' ns i))):=by show (atI (ns.map Dat.int) i).map RV.val=_;rw[Dm.jb Dat.int ns i h0 h1];unfold at';rw[Q4,Ql (by lia)];rfl
theorem NC{ns:List Int}{i:Int}{o p:Option Dat}{K:RV->Prop}(h0:0<=i)(h1:i<ns.length)(k:K (.val (.int (at' ns i))))(ho:o=some (.lst (ns.map Dat.int)))(hp:p=some (.int i)):Wg2 gIx o p K:=⟨_,_,_,ho,hp,B5 ns i h0 h1,k⟩
theorem UJ{i j:Int}{o p:Option Dat}{K:RV->Prop}(k:K (.val (.int (i*j))))(ho:o=some (.int i))(hp:p=some (.int j))(h:i.natAbs.log2<1000000/\j.natAbs.log2<1000000):Wg2 i9 o p K:=⟨_,_,_,ho,hp,by unfold i9;dsimp only;rw[if_pos h],k⟩
noncomputable def aJ(x:Int):Dat:=.lst [.int x]
noncomputable abbrev Z60:Int:=1000000000000000000000000000000000000000000000000000000000000
theorem kT(ns:List Int)(k:Int)(h0:0<=k)(h1:k<1000):∃x,jd [.lst (ns.map Dat.int),.int k]=some (.new (aJ x)):=by
 suffices h:Wr (jd [.lst (ns.map Dat.int),.int k]) fun v=>∃x,v=.new (aJ x) by obtain⟨v,h1,c,rfl⟩:=h;exact⟨c,h1⟩
 unfold jd
 (refine Dm.Tz ?_ rfl rfl;and_intros)
 refine Tn (Tt (Tj (Tq ?_ (by trivial))) (by decide));refine T3 (fun ρ=>∃c:Int,ρ=[.sh (.lst (ns.map Dat.int)),.sh (.int k),.sh (.int c),.un,.un,.un]) ?_ ?_
 ·refine TX (TF (S_ (Q_ rfl (TR (m_ (Q_ rfl (R_ (Up (sD:=Dat.int) ?_ rfl))))))));refine UO ?_ rfl rfl;refine Tp ?_;refine⟨fun h=>?_,fun h=>?_⟩
  ·have h:=of_decide_eq_true h;refine Tt ?_ (by decide);refine S_ (Q_ rfl (Q_ rfl ?_));refine NC h0 (by simpa using h) ?_ rfl rfl;refine Tq ?_ (by trivial);exact⟨_,rfl⟩
  ·refine TY ?_;exact⟨_,rfl⟩
 rintro ρ ⟨c,rfl⟩;refine Tn (TX (TF (S_ (Q_ rfl (S_ (Tj (Tj (Uv (z:=1000000000000000000) ?_ rfl rfl (by decide) (by decide)))))))));refine UM (Tp ?_) rfl rfl;have p60:∀{K:RV->Prop} {o p:Option Dat},K (.val (.int Z60))->o=some (.int 10)->p=some (.int 60)->Wg2 gn o p K:=fun k ho hp=>Uv (z:=Z60) k ho hp (by decide) (by decide +kernel);refine⟨fun h=>?_,fun h=>?_⟩
 ·refine TL (T_ (m_ (S_ (Q_ rfl ?_))));refine S_ (S_ (S_ (S_ (S_ (Tj (Tj (p60 ?_ rfl rfl)))))));refine S_ (Tj (Tj (p60 ?_ rfl rfl)));refine UJ ?_ rfl rfl (by decide +kernel);refine S_ (Tj (Tj (p60 ?_ rfl rfl)));refine UJ ?_ rfl rfl (by decide +kernel);refine S_ (Tj (Tj (p60 ?_ rfl rfl)));refine UJ ?_ rfl rfl (by decide +kernel);refine S_ (Tj (Tj (p60 ?_ rfl rfl)));refine UJ ?_ rfl rfl (by decide +kernel);refine T5 ?_ rfl rfl (by decide +kernel);refine R_ (TU ?_ rfl rfl (by exact QB rfl));exact⟨_,rfl⟩
 ·refine TY ?_;refine T3 (fun ρ=>∃x:Int,(0<=x/\x<2147483647)/\ρ=[.sh (.lst (ns.map Dat.int)),.sh (.int k),.sh (.int c),.sh (.int x),.un,.un]) ?_ ?_
  ·refine Tt ?_ (by decide);refine S_ (S_ (S_ (S_ (Q_ rfl (S_ (S_ (Tj (Q_ rfl (T7 ?_ rfl rfl (by first | exact Or.inl (by decide) | exact Or.inr (by decide)))))))))));refine Q_ rfl (T7 ?_ rfl rfl ?_);refine Tv ?_ rfl rfl;refine S_ (Tj (Q_ rfl (T7 ?_ rfl rfl (by first | exact Or.inl (by decide) | exact Or.inr (by decide)))));refine Tv ?_ rfl rfl;refine Tj (Tv ?_ rfl rfl);refine Tj (T5 ?_ rfl rfl (by decide));refine Tq ?_ (by trivial)
   ·exact⟨_,cL _ _ (by decide),rfl⟩
   ·exact .inr (by unfold B64;lia)
  rintro ρ ⟨x,hx,rfl⟩;refine Tn (Tt (Tj (Tq ?_ (by trivial))) (by decide));refine Tn (T8 (Um (Tj (bV.mk ⟨?_,by decide,by decide⟩))));refine T9 (fun i:Nat=>Dat.int (0+(i:Nat))) _ _ (Qs 40) _ _ _ _ _ (fun p q ρ=>∃(x f:Int) (c5:Cell),(0<=x/\x<2147483647)/\ρ=[.sh (.lst (ns.map Dat.int)),.sh (.int k),.sh (.int c),.sh (.int x),.sh (.int f),c5]) ⟨_,_,_,hx,rfl⟩ ?_ ?_
  ·rintro p i q ρ e ⟨x,f,c5,hx,rfl⟩;refine Dm.bU rfl (by trivial) ?_;unfold BO;refine T3 (fun ρ=>∃y:Int,(0<=y/\y<2147483647)/\ρ=[.sh (.lst (ns.map Dat.int)),.sh (.int k),.sh (.int c),.sh (.int y),.sh (.int f),.sh (.int (0+(i:Nat)))]) ?_ ?_
   ·refine Tt ?_ (by decide);refine S_ (S_ (S_ (S_ (Q_ rfl (Tj (T7 ?_ rfl rfl (by first | exact Or.inl (by decide) | exact Or.inr (by decide))))))));refine S_ (Tj (Q_ rfl (T7 ?_ rfl rfl (by first | exact Or.inl (by decide) | exact Or.inr (by decide)))));refine Tv ?_ rfl rfl;refine Tj (Tv ?_ rfl rfl);refine Tj (T5 ?_ rfl rfl (by decide));refine Tq ?_ (by trivial);exact⟨_,by have:=cL (x*48271+7919*(0+((i:Nat):Int))+3) 2147483629 (by decide);lia,rfl⟩
   rintro ρ ⟨y,hy,rfl⟩;refine T3 (fun ρ=>∃y:Int,(0<=y/\y<2147483647)/\ρ=[.sh (.lst (ns.map Dat.int)),.sh (.int k),.sh (.int c),.sh (.int y),.sh (.int f),.sh (.int (0+(i:Nat)))]) ?_ ?_
   ·refine Tt ?_ (by decide);refine S_ (S_ (Q_ rfl (Q_ rfl (T7 ?_ rfl rfl ?_))));refine Tj (T5 ?_ rfl rfl (by decide));refine Tq ?_ (by trivial)
    ·exact⟨_,by have:=cL (y*y) 2147483587 (by decide);lia,rfl⟩
    ·exact .inl (by unfold B64;lia)
   rintro ρ ⟨z,hz,rfl⟩;refine Tt ?_ (by decide);refine S_ (S_ (Q_ rfl (Tj (T7 ?_ rfl rfl (by first | exact Or.inl (by decide) | exact Or.inr (by decide))))));refine S_ (S_ (S_ (Q_ rfl (Tj (T7 ?_ rfl rfl (by first | exact Or.inl (by decide) | exact Or.inr (by decide)))))));refine Q_ rfl (Tv ?_ rfl rfl);refine Tj (T5 ?_ rfl rfl (by decide));refine Tv ?_ rfl rfl;refine Tq ?_ (by trivial);exact⟨_,_,_,hz,rfl⟩
  ·rintro ρ ⟨x,f,c5,hx,rfl⟩;refine TL (T_ (m_ (Q_ rfl (R_ (TU ?_ rfl (by trivial) (by exact QB rfl))))));refine UB ?_;exact⟨_,rfl⟩
theorem FA(x m:Int)(h0:0<m)(h1:m<fh):bh [aJ x,.int m]=some (.val (.int (x % m)),aJ (x / m)):=by
 suffices h:WrM (bh [aJ x,.int m]) fun v d=>v=.val (.int (x % m))/\d=aJ (x / m) by obtain⟨v,d,h1,rfl,rfl⟩:=h;exact h1
 unfold bh;refine Uk ?_ rfl rfl;and_intros;unfold aJ;refine Tn (Tt ?_ (by decide));refine S_ (S_ (TV rfl (Tj (To ?_ rfl rfl rfl))));refine Q_ rfl (T5 ?_ rfl rfl ?_);refine Tq ?_ (by trivial);refine Tn ?_
 ·refine Vh ?_;refine S_ (S_ (TV rfl (Tj (To ?_ rfl rfl rfl))));refine Q_ rfl (UR ?_ rfl rfl ?_);refine Tw (qE rfl (Tj (bV.mk ?_)))
  ·refine⟨_,0,_,rfl,rfl,rfl,?_⟩;refine TL (Q_ rfl (Uc ?_));exact⟨_,rfl,rfl,rfl⟩
  ·exact⟨h0,h1⟩
 ·exact h0
def Wtk(j:Nat)(m:Int)(ρ1:Env)(Q:Val->Env->Prop):Prop:=∃x ρ3,Q (.val (.int (x % m))) ρ3/\ρ1[j]?=some (.ow (aJ x))/\ρ1.set j (.ow (aJ (x / m)))=ρ3/\0<m/\m<fh
theorem qJ{j:Nat}{x m:Int}{ρ1 ρ3:Env}{Q:Val->Env->Prop}(q:Q (.val (.int (x % m))) ρ3)(h2:ρ1[j]?=some (.ow (aJ x)))(hn:ρ1.set j (.ow (aJ (x / m)))=ρ3)(h0:0<m)(h1:m<fh):Wtk j m ρ1 Q:=⟨_,_,q,h2,hn,h0,h1⟩
theorem UT{j:Nat}{a:FE}{ρ:Env}{d0:Dat}{Q:Val->Env->Prop}(h:We a ρ fun v ρ1=>bV v fun m=>Wtk j m ρ1 Q)(h0:ρ[j]?=some (.ow d0)):We (eFm bh j [a]) ρ Q:=by refine UK (m_ ?_) h0;obtain⟨v,ρ1,e1,m,rfl,x,ρ3,q,e2,e3,m0,m1⟩:=h;exact⟨_,_,e1,R_ (Uy (FA x m m0 m1) q e2 rfl e3)⟩
theorem TZ{j:Nat}{a:FE}{ρ:Env}{x m:Int}{Q:Val->Env->Prop}(ha:a ρ=some (.val (.int m),ρ))(h0:0<m)(h1:m<fh)(hj:ρ[j]?=some (.ow (aJ x)))(k:∀t x':Int,0<=t->t<m->∀ρ3,ρ.set j (.ow (aJ x'))=ρ3->Q (.val (.int t)) ρ3):We (eFm bh j [a]) ρ Q:=
 UT ⟨_,_,ha,m,rfl,qJ (k _ _ (cL x m (by lia)).1 (cL x m (by lia)).2 _ rfl) hj rfl h0 h1⟩ hj
def Good(n:Int):Int->List Tie->Prop
 |_,[]=>True
 |lo,t::r=>lo<=t.m/\0<=t.a/\t.a<=t.b/\t.b<n/\Good n (t.m+1) r
theorem Good.pl{n:Nat}:∀{r:List Tie} {lo:Int},Good n lo r->Pl n r
 |[],_,_,t,ht=>by cases ht
 |u::r,lo,h,t,ht=>by
  obtain⟨h1,h2,h3,h4,h5⟩:=h;rcases Qk.mp ht with rfl | ht
  ·lia
  ·exact Good.pl h5 t ht
theorem Good.lo{n:Int}:∀{r:List Tie} {lo:Int},Good n lo r->∀t∈r,lo<=t.m
 |[],_,_,t,ht=>by cases ht
 |u::r,lo,h,t,ht=>by
  obtain⟨h1,h2,h3,h4,h5⟩:=h;rcases Qk.mp ht with rfl | ht
  ·exact h1
  ·have:=Good.lo h5 t ht;lia
theorem Good.nd{n:Int}:∀{r:List Tie} {lo:Int},Good n lo r->(r.map (·.m)).Nodup
 |[],_,_=>by simp
 |u::r,lo,h=>by
  obtain⟨h1,h2,h3,h4,h5⟩:=h;rw[Qa,Qv];refine⟨fun z=>?_,Good.nd h5⟩;obtain⟨t,ht,e⟩:=Qp.mp z;have:=Good.lo h5 t ht
  lia
theorem Good.weak{n:Int}:∀{r:List Tie} {lo lo':Int},lo'<=lo->Good n lo r->Good n lo' r
 |[],_,_,_,_=>trivial
 |_::_,_,_,h,k=>⟨by have:=k.1;lia,k.2⟩
theorem Good.filter{n:Int}(p:Tie->Bool):∀{r:List Tie} {lo:Int},Good n lo r->Good n lo (r.filter p)
 |[],_,_=>trivial
 |u::r,lo,h=>by
  obtain⟨h1,h2,h3,h4,h5⟩:=h;by_cases q:p u=true
  ·rw[Q6 q];exact⟨h1,h2,h3,h4,Good.filter p h5⟩
  ·rw[Q5 q];exact Good.weak (by lia) (Good.filter p h5)
theorem UP{s:FS}{ρ:Env}{Q B C:Env->Prop}{R:RV->Env->Prop}(h:∀K:Env->Prop,(∀ρ,Q ρ->K ρ)->Ws s ρ K R B C):Ws s ρ Q R B C:=h Q fun _ h=>h
theorem Good.snoc{n:Int}:∀{r:List Tie} {lo hi:Int} {t:Tie},Good n lo r->(∀u∈r,u.m<hi)->lo<=hi->hi=t.m->0<=t.a->t.a<=t.b->t.b<n->Good n lo (r++[t])
 |[],_,_,_,_,_,h,e,h1,h2,h3=>⟨by lia,h1,h2,h3,trivial⟩
 |u::r,lo,hi,t,h,hu,hl,e,h1,h2,h3=>by obtain⟨k1,k2,k3,k4,k5⟩:=h;exact⟨k1,k2,k3,k4,Good.snoc k5 (fun v hv=>hu v (Qg _ hv)) (by have:=hu u Qe;lia) e h1 h2 h3⟩
theorem FD(x:Int):∃(n x':Int),sL [aJ x]=some (.val (.int n),aJ x')/\1<=n/\n<=10:=by
 suffices h:WrM (sL [aJ x]) fun v d=>∃n x':Int,v=.val (.int n)/\d=aJ x'/\1<=n/\n<=10 by obtain⟨v,d,h1,n,x',rfl,rfl,h2⟩:=h;exact⟨n,x',h1,h2⟩
 unfold sL;refine Uk ?_ rfl rfl;and_intros;refine TL (S_ ?_)
 ((with_reducible refine Dm.T_ ?_);(with_reducible refine Dm.m_ ?_);(with_reducible refine Dm.Tj ?_);(with_reducible refine Dm.m_ ?_);(with_reducible refine Dm.Tj ?_);(with_reducible refine Dm.m_ ?_);(with_reducible refine Dm.Tj ?_);(with_reducible refine Dm.m_ ?_);(with_reducible refine Dm.Tj ?_);(with_reducible refine Dm.m_ ?_);(with_reducible refine Dm.Tj ?_);(with_reducible refine Dm.m_ ?_);(with_reducible refine Dm.Tj ?_);(with_reducible refine Dm.m_ ?_);(with_reducible refine Dm.Tj ?_);(with_reducible refine Dm.m_ ?_);(with_reducible refine Dm.Tj ?_);(with_reducible refine Dm.R_ ?_);(refine Dm.TU ?_ rfl (by trivial) (by exact QB rfl)))
 refine TZ (m:=8) rfl (by decide) (by decide) rfl fun t x' h0 h1 ρ3 e=>?_;subst e;have:t=0\/t=1\/t=2\/t=3\/t=4\/t=5\/t=6\/t=7:=by lia
 rcases this with rfl | rfl | rfl | rfl | rfl | rfl | rfl | rfl <;>
 ·refine To ?_ rfl rfl rfl;exact⟨_,rfl,_,x',rfl,rfl,by decide,by decide⟩
theorem ix4(a b c d:Int)(x:Int)(h0:0<=x)(h:x<4):gIx (.lst [.int a,.int b,.int c,.int d]) (.int x)=some (.val (.int (if x=0 then a else if x=1 then b else if x=2 then c else d))):=by
 have:x=0\/x=1\/x=2\/x=3:=by lia
 rcases this with rfl | rfl | rfl | rfl<;>rfl
noncomputable abbrev Z28:Int:=10000000000000000000000000000
noncomputable abbrev Z30:Int:=1000000000000000000000000000000
noncomputable def RE(pool:Int)(n most many kind step times way Km:Int)(r:List Tie)(c10 c11 c12:Cell):Env:=
 [.ow (aJ pool),.sh (.int n),.sh (.int most),.sh (.int many),.sh (.int kind),.sh (.int step),.sh (.int times),.sh (.int way),.sh (.int Km),.ow (aD r),c10,c11,c12]
theorem xW(a b:Int):(if b<a then b else a)<=(if b>a then b else a):=by split<;>split<;>lia
theorem zF(x n most:Int)(n1:1<=n)(n10:n<=10)(m0:0<=most)(m60:most<=60) :
  ∃(r:List Tie) (x':Int),pQ [aJ x,.int n,.int most]=some (.new (aD r),aJ x')/\Good n 0 r/\(r.length:Int)<=most/\∀t∈r,t.m<=Z30:=by
 suffices hh:WrM (pQ [aJ x,.int n,.int most]) fun v d=>∃(r:List Tie) (x':Int),v=.new (aD r)/\d=aJ x'/\Good n 0 r/\(r.length:Int)<=most/\∀t∈r,t.m<=Z30 by obtain⟨v,d,h1,h,x',rfl,rfl,h2⟩:=hh;exact⟨h,x',h1,h2⟩
 suffices hK:∀K:RV->Dat->Prop,(∀v d,(∃(r:List Tie) (x':Int),v=.new (aD r)/\d=aJ x'/\Good n 0 r/\(r.length:Int)<=most/\∀t∈r,t.m<=Z30)->K v d)->WrM (pQ [aJ x,.int n,.int most]) K from hK _ fun _ _ h=>h
 intro K hK;unfold pQ;refine Uk ?_ rfl rfl;and_intros;refine Tn (Tt ?_ (by decide));refine TZ (m:=most+1) rfl (by lia) (by unfold fh;lia) rfl fun many x1 h1 h2 ρ3 e=>?_;subst e;refine Tq ?_ (by trivial);refine Tn (Tt ?_ (by decide));refine TZ (m:=4) rfl (by decide) (by decide) rfl fun kind x2 k1 k2 ρ3 e=>?_;subst e;refine Tq ?_ (by trivial);refine T3 (fun ρ=>∃step:Int,(1<=step/\step<=1000000/\(kind=3->step<=1000))/\ρ=[.ow (aJ x2),.sh (.int n),.sh (.int most),.sh (.int many),.sh (.int kind),.sh (.int step),.un,.un,.un,.un,.un,.un,.un]) ?_ ?_
 ·refine UP fun K0 hK0=>?_;refine Tt (S_ (T_ (m_ (Tj (m_ (Tj (m_ (S_ (Tj (Tj (Uv (z:=1000000) ?_ rfl rfl (by decide) (by decide)))))))))))) (by decide);refine m_ (Tj (R_ (TU ?_ rfl rfl (by exact QB rfl))));refine Q_ rfl (To ?_ rfl rfl (ix4 1 3 1000000 1000 kind k1 k2));refine Tq ?_ (by trivial);refine hK0 _ ⟨_,?_,rfl⟩;have:kind=0\/kind=1\/kind=2\/kind=3:=by lia
  rcases this with q | q | q | q<;>rw[q]<;>decide
 rintro ρ ⟨step,hs,rfl⟩;refine T3 (fun ρ=>∃times:Int,(0<=times/\step*times<=Z28)/\ρ=[.ow (aJ x2),.sh (.int n),.sh (.int most),.sh (.int many),.sh (.int kind),.sh (.int step),.sh (.int times),.un,.un,.un,.un,.un,.un]) ?_ ?_
 ·refine UP fun K1 hK1=>?_;refine Tt (S_ (T_ (m_ (Tj (m_ (S_ (Tj (Tj (Uv (z:=10000000000000000000000000) ?_ rfl rfl (by decide) (by decide)))))))))) (by decide);refine R_ (TU ?_ rfl rfl (by exact QB rfl));refine TR (m_ (S_ (Q_ rfl (Tj (Ud ?_ rfl rfl)))));refine R_ (U1 ?_ rfl);by_cases q:kind=3
  ·rw[decide_eq_true q];refine To (v:=.int 10000000000000000000000000) ?_ rfl rfl rfl;exact Tq (hK1 _ ⟨10000000000000000000000000,⟨by decide,by have:=hs.2.2 q;unfold Z28;lia⟩,rfl⟩) (by trivial)
  ·rw[decide_eq_false q];refine To (v:=.int 1) ?_ rfl rfl rfl;exact Tq (hK1 _ ⟨1,⟨by decide,by unfold Z28;lia⟩,rfl⟩) (by trivial)
 rintro ρ ⟨times,⟨ht,hst⟩,rfl⟩;have tb:∀t:Int,0<=t->t<step->t*times<=Z28:=fun t _ t2=>Int.le_trans (Int.mul_le_mul_of_nonneg_right (Int.le_of_lt t2) ht) hst;refine Tn (Tt ?_ (by decide));refine TZ (m:=4) rfl (by decide) (by decide) rfl fun way x3 w1 w2 ρ3 e=>?_;subst e;refine Tq ?_ (by trivial);refine T3 (fun ρ=>∃x4 mo:Int,(0<=mo/\mo<=Z28)/\ρ=[.ow (aJ x4),.sh (.int n),.sh (.int most),.sh (.int many),.sh (.int kind),.sh (.int step),.sh (.int times),.sh (.int way),.sh (.int mo),.un,.un,.un,.un]) ?_ ?_
 ·refine UP fun K2 hK2=>?_;refine Tt (S_ ?_) (by decide);refine TZ (m:=step) rfl (by lia) (by unfold fh;lia) rfl fun t x4 t1 t2 ρ3 e=>?_;subst e;refine Q_ rfl (T7 ?_ rfl rfl (.inl (by unfold B64;lia)));exact Tq (hK2 _ ⟨_,_,⟨Int.mul_nonneg t1 ht,tb t t1 t2⟩,rfl⟩) (by trivial)
 rintro ρ ⟨x4,mo,hmo,rfl⟩;refine Tn (Tt (T_ (R_ (TU ?_ rfl rfl (by decide)))) (by decide));refine TN ?_ (by trivial);refine Tn (T8 (Um (Q_ rfl (bV.mk ⟨?_,by unfold BIG;lia⟩))));refine T9 (fun i:Nat=>Dat.int (0+(i:Nat))) _ _ (Qs many.toNat) _ _ _ _ _ (fun p q ρ=>∃(x mo:Int) (r:List Tie) (c10 c11 c12:Cell),ρ=RE x n most many kind step times way mo r c10 c11 c12/\Good n 0 r/\r.length=p.length/\(∀u∈r,u.m<mo)/\0<=mo/\mo<=((p.length:Int)+1)*(Z28+1))
  ⟨_,_,[],_,_,_,rfl,trivial,rfl,(fun u hu=>by cases hu),hmo.1,by have:=hmo.2;simp;lia⟩ ?_ ?_
 ·rintro p i q ρ e ⟨x,mo,r,c10,c11,c12,rfl,hg,hl,hu,hm,hM⟩;have lp:p.length<100:=by
   have:(Qs many.toNat).length=p.length+(q.length+1):=by rw[e];simp
   rw[QG]at this;lia
  unfold RE;refine Dm.bU rfl (by trivial) ?_;unfold BP;refine UP fun KL hKL=>?_;refine Tn (Tt ?_ (by decide));refine TZ (m:=n) rfl (by lia) (by unfold fh;lia) rfl fun one y1 o1 o2 ρ3 e=>?_;subst e;refine Tq ?_ (by trivial);refine Tn (Tt ?_ (by decide));refine TZ (m:=n) rfl (by lia) (by unfold fh;lia) rfl fun oth y2 u1 u2 ρ3 e=>?_;subst e;refine Tq ?_ (by trivial);refine T3 (fun ρ=>∃o:Int,(0<=o/\o<n)/\ρ=RE y2 n most many kind step times way mo r (.sh (.int (0+(i:Nat)))) (.sh (.int one)) (.sh (.int o))) ?_ ?_
  ·refine UP fun K3 hK3=>?_;refine TX (TF (S_ (Q_ rfl (Tj (Ud (Tp ?_) rfl rfl)))));refine Ut (fun _=>?_) fun _=>?_
   ·refine Tt (S_ (S_ (Q_ rfl (Tj (Tv (Q_ rfl (T5 ?_ rfl rfl (by lia))) rfl rfl))))) (by decide);exact Tq (hK3 _ ⟨_,cL _ n n1,rfl⟩) (by trivial)
   ·exact TY (hK3 _ ⟨oth,⟨u1,u2⟩,rfl⟩)
  rintro ρ ⟨o,⟨q1,q2⟩,rfl⟩;refine T3 (fun ρ=>∃o:Int,(0<=o/\o<n)/\ρ=RE y2 n most many kind step times way mo r (.sh (.int (0+(i:Nat)))) (.sh (.int one)) (.sh (.int o))) ?_ ?_
  ·refine UP fun K4 hK4=>?_;unfold RE;refine TX (TF (S_ (Q_ rfl (Tj (Ud (Tp ?_) rfl rfl)))));refine Ut (fun _=>?_) fun _=>?_
   ·refine Tt (S_ (S_ (S_ (S_ (Q_ rfl (S_ (Q_ rfl (Tj (T5 ?_ rfl rfl (by decide)))))))))) (by decide);refine Tv ?_ rfl rfl;refine Tj (Tv ?_ rfl rfl);refine TR (m_ (Q_ rfl (m_ (Tj (R_ (Uh ?_ rfl))))));refine T5 ?_ rfl rfl (by split<;>lia);refine Q_ rfl (T5 ?_ rfl rfl (by lia));exact Tq (hK4 _ ⟨_,cL _ n n1,rfl⟩) (by trivial)
   ·exact TY (hK4 _ ⟨o,⟨q1,q2⟩,rfl⟩)
  rintro ρ ⟨o,⟨q1,q2⟩,rfl⟩;unfold RE;refine Tn (Ul (Ur (m_ (Q_ rfl (m_ (TR (m_ (Q_ rfl (m_ (Q_ rfl (R_ (Uh ?_ rfl))))))))))) rfl);refine m_ (TR (m_ (Q_ rfl (m_ (Q_ rfl (R_ (Uw ?_ rfl)))))));refine R_ (TU ?_ rfl rfl (by exact QB rfl));refine Tw (gy ?_ rfl (by trivial) (by rw[Dp];unfold SZ;lia));refine Tt (S_ (S_ (Q_ rfl (Tj (Tv ?_ rfl rfl))))) (by decide);refine S_ ?_;refine TZ (m:=step) rfl (by lia) (by unfold fh;lia) rfl fun t x4 t1 t2 ρ3 e=>?_;subst e;refine Q_ rfl (T7 ?_ rfl rfl (.inl (by unfold B64;lia)));refine Tv ?_ rfl rfl;refine Tq ?_ (by trivial);have tn:=Int.mul_nonneg t1 ht;refine hKL _ ⟨x4,mo+1+t*times,r++[⟨mo,(if o<one then o else one),(if o>one then o else one)⟩],.sh (.int (0+(i:Nat))),.sh (.int one),.sh (.int o),?_,?_,by simp[hl],?_,by lia,?_⟩
  ·unfold aD;rw[Qq];rfl
  ·refine Good.snoc (hi:=mo) hg hu hm rfl ?_ (xW one o) ?_
   ·show 0<=(if o<one then o else one);split<;>lia
   ·show (if o>one then o else one)<n;split<;>lia
  ·intro u hu';rcases Qu.mp hu' with h | h
   ·have:=hu u h;lia
   ·rw[Qo.mp h];show mo<_;lia
  ·have:=tb t t1 t2;rw[Qn,Rj];have e:(((p.length+1:Nat):Int)+1)*(Z28+1)=((p.length:Int)+1)*(Z28+1)+(Z28+1):=by
    rw[Int.natCast_add,Tg (((p.length:Int))+((1:Nat):Int)) 1,Int.one_mul];rfl
   rw[e]
   lia
 ·rintro ρ ⟨x,mo,r,c10,c11,c12,rfl,hg,hl,hu,hm,hM⟩;unfold RE;refine TL (TV rfl (Uj ?_ rfl));rw[QG]at hM hl;refine⟨_,rfl,hK _ _ ⟨r,x,rfl,rfl,hg,?_,fun t ht=>?_⟩⟩
  ·rw[hl]
   lia
  ·have h1:=hu t ht;have h2:((many.toNat:Int)+1)*(Z28+1)<=61*(Z28+1):=Int.mul_le_mul_of_nonneg_right (by lia) (by decide);have h3:(61:Int)*(Z28+1)<=Z30:=by decide
   lia
noncomputable def ck(r:List Tie)(S:Int->Bool):Nat:=(r.filter (over S)).length
theorem xX{r:List Tie}(S:Int->Bool):∀{w:List Step} {x y:Int},Way (fH r) x w y->S x=true->S y=false->∃s∈w,s.1∈(r.filter (over S)).map (·.m)
 |[],x,y,h,h1,h2=>by cases h;rw[h1]at h2;cases h2
 |s::w,x,y,h,h1,h2=>by
  cases hs:S s.2 with
  |true=>obtain⟨u,hu,k⟩:=xX S h.2 hs h2;exact⟨u,Qg _ hu,k⟩
  |false=>
   obtain⟨t,ht,hm,_,he⟩:=h.1;refine⟨s,Qe,Qp.mpr ⟨t,Ri.mpr ⟨ht,?_⟩,hm⟩⟩;unfold over;rcases he with⟨e1,e2⟩ | ⟨e1,e2⟩
   ·rw[e1,e2,h1,hs];rfl
   ·rw[e1,e2,h1,hs];rfl
theorem picks{r:List Tie}{a b:Int}(S:Int->Bool)(ha:S a=true)(hb:S b=false):∀(ws:List (List Step)),(∀w∈ws,Way (fH r) a w b)->(ws.map mso).flatten.Nodup ->
  ∃ps:List Int,ps.length=ws.length/\ps.Nodup/\∀m∈ps,m∈(ws.map mso).flatten/\m∈(r.filter (over S)).map (·.m)
 |[],_,_=>⟨[],rfl,by simp,by simp⟩
 |w::ws,h,nd=>by
  rw[Qa,Ra]at nd;obtain⟨n1,n2,n3⟩:=Rh.mp nd;obtain⟨ps,p1,p2,p3⟩:=picks S ha hb ws (fun v hv=>h v (Qg _ hv)) n2;obtain⟨s,hs,k⟩:=xX S (h w Qe) ha hb;have hsm:s.1∈mso w:=Qp.mpr ⟨s,hs,rfl⟩;refine⟨s.1::ps,by simp[p1],Qv.mpr ⟨fun z=>n3 _ hsm _ (p3 _ z).1 rfl,p2⟩,fun m hm=>?_⟩;rw[Qa,Ra];rcases Qk.mp hm with rfl | hm
  ·exact⟨QK _ hsm,k⟩
  ·exact⟨QH _ (p3 m hm).1,(p3 m hm).2⟩
theorem Kn{r:List Tie}{a b:Int}{ws:List (List Step)}(W:B0 r a b ws){S:Int->Bool}(ha:S a=true)(hb:S b=false):ws.length<=ck r S:=by
 obtain⟨ps,p1,p2,p3⟩:=picks S ha hb ws (fun w hw=>(W.way w hw).way) W.nd;have:=dS ps _ p2 fun m hm=>(p3 m hm).2;rw[Dp]at this;unfold ck
 lia
theorem jN(r:List Tie)(S:Int->Bool):ck r (fun x=>!S x)=ck r S:=by
 unfold ck
 congr 1
 apply SS;intro t _;unfold over;dsimp only;cases S t.a<;>cases S t.b<;>rfl
structure Fit(n:Nat)(r:List Tie):Prop where
 n40:n<=40
 pl:Pl n r
 nd:(r.map (·.m)).Nodup
 len:r.length<=1000
theorem Fit.sub{n:Nat}{r K:List Tie}(h:Fit n r)(s:K.Sublist r):Fit n K:=⟨h.n40,fun t ht=>h.pl t (s.subset ht),h.nd.sublist (s.map _),QO s.length_le h.len⟩
theorem oO{n:Nat}{r:List Tie}(h:Fit n r){a b:Int}(a0:0<=a)(a1:a<n)(b0:0<=b)(b1:b<n){k:Nat}(k6:k<=6) :
  ∃c:Bool,zw [.int n,aD r,.int a,.int b,.int k]=some (.val (.bl c))/\(c=true->∀S:Int->Bool,S a=true->S b=false->k<=ck r S)/\(c=false->∃S:Int->Bool,S a=true/\S b=false/\ck r S<k):=by
 obtain⟨ws,o,e,A⟩:=gh n h.n40 r h.pl h.nd h.len a b a0 a1 b0 b1 k (by lia) (by lia);refine⟨isN (gf o),?_,fun z S s1 s2=>?_,fun z=>?_⟩
 ·apply TQ;unfold zw
  (refine Dm.Tz ?_ rfl rfl;and_intros)
  refine TL (S_ (S_ (Tu (m_ (Q_ rfl (m_ (Q_ rfl (m_ (Q_ rfl (m_ (Q_ rfl (m_ (Q_ rfl (R_ (TM e ?_ rfl rfl rfl rfl)))))))))))))));refine Tj (To ?_ rfl rfl rfl);exact Tj (U5 rfl rfl rfl)
 ·cases o with
  |none=>
   have:=A.all rfl;have:=Kn A.ways s1 s2
   lia
  |some S=>cases z
 ·cases o with
  |none=>cases z
  |some S=>
   obtain⟨⟨_,_,h1,h2⟩,h3,h4⟩:=A.side S rfl;refine⟨fun x=>decide (x∈S),decide_eq_true h1,decide_eq_false h2,?_⟩;have:ck r (fun x=>decide (x∈S))=(fY r S).length:=by unfold fY;rw[Dp];rfl
   lia
theorem sY(i:Int):zx [.int i]=some (.val (.bl true)):=by
 apply TQ;unfold zx
 (refine Dm.Tz ?_ rfl rfl;and_intros)
 refine TL (Ui (Ue (Q_ rfl (Ub ?_ rfl rfl))));refine Tp (Uo (Vg (Ue (Q_ rfl (Ub ?_ rfl rfl)))));exact Tp rfl
theorem cY(i lo hi:Int)(h0:lo<=i)(h1:i<=hi):sI [.int i,.int lo,.int hi]=some (.val (.bl true)):=by unfold sI;simp[fn,sR,fV,eF,eAs,eV,pks,pk,sY,RV.br,RV.dat,eK,lA,gLe,h0,h1]
theorem mH(k:Int)(h0:1<=k)(h1:k<=6):xF [.int k]=some (.val .non):=by
 have e:mq [.int k]=some (.val (.bl true)):=by
  apply TQ;unfold mq
  (refine Dm.Tz ?_ rfl rfl;and_intros)
  refine TL (Tu (m_ (Q_ rfl (m_ (Tj (m_ (Tj (R_ (TJ (cY k 1 6 h0 h1) ?_ rfl rfl)))))))));rfl
 apply TQ;unfold xF
 (refine Dm.Tz ?_ rfl rfl;and_intros)
 refine TX (T6 (TF (Tu (m_ (Q_ rfl (R_ (TJ e ?_ rfl rfl)))))));exact Tp (Ua (TY rfl))
noncomputable def mgf(f:Int->Int)(a b:Int):Int->Int:=fun x=>if f x=f b then f a else f x
inductive Con(ts:List Tie):Int->Int->Prop
 |refl (x:Int):Con ts x x
 |tie (t:Tie):t∈ts->Con ts t.a t.b
 |symm {x y:Int}:Con ts x y->Con ts y x
 |trans {x y z:Int}:Con ts x y->Con ts y z->Con ts x z
theorem Con.mono{ts us:List Tie}(h:∀t∈ts,t∈us){x y:Int}(c:Con ts x y):Con us x y:=by
 induction c with
 |refl x=>exact .refl x
 |tie t m=>exact .tie t (h t m)
 |symm _ ih=>exact .symm ih
 |trans _ _ i1 i2=>exact .trans i1 i2
def Tells(f:Int->Int)(ts:List Tie):Prop:=∀x y,f x=f y↔Con ts x y
theorem Con.nil{x y:Int}(c:Con [] x y):x=y:=by
 induction c with
 |refl x=>rfl
 |tie t m=>cases m
 |symm _ ih=>exact ih.symm
 |trans _ _ i1 i2=>exact i1.trans i2
theorem tells_nil:Tells (fun x=>x) []:=fun x y=>⟨fun h=>by cases h;exact .refl _,fun c=>c.nil⟩
theorem tells_mgf{f:Int->Int}{ts:List Tie}(h:Tells f ts)(t:Tie)(a b:Int)(Px:(a=t.a/\b=t.b)\/(a=t.b/\b=t.a)):Tells (mgf f a b) (t::ts):=by
 have up:∀{x y},f x=f y->Con (t::ts) x y:=fun e=>Con.mono (fun u m=>Qg _ m) ((h _ _).mp e);have ab:Con (t::ts) a b:=by
  rcases Px with⟨rfl,rfl⟩ | ⟨rfl,rfl⟩
  ·exact .tie t Qe
  ·exact .symm (.tie t Qe)
 intro x y;unfold mgf;constructor
 ·intro e;by_cases hx:f x=f b
  ·rw[if_pos hx]at e;by_cases hy:f y=f b
   ·exact up (hx.trans hy.symm)
   ·rw[if_neg hy]at e;exact .trans (up hx) (.trans (.symm ab) (up e))
  ·rw[if_neg hx]at e;by_cases hy:f y=f b
   ·rw[if_pos hy]at e;exact .trans (up e) (.trans ab (.symm (up hy)))
   ·rw[if_neg hy]at e;exact up e
 ·intro c;have key:∀{x y:Int},Con (t::ts) x y->(if f x=f b then f a else f x)=(if f y=f b then f a else f y):=fun c=>by
   induction c with
   |refl x=>rfl
   |tie u m=>
    rcases Qk.mp m with rfl | m
    ·rcases Px with⟨rfl,rfl⟩ | ⟨rfl,rfl⟩
     ·rw[if_pos (rfl:f u.b=f u.b)];split
      ·rfl
      ·rfl
     ·rw[if_pos (rfl:f u.a=f u.a)];split
      ·rfl
      ·rfl
    ·have e:=(h u.a u.b).mpr (.tie u m);rw[e]
   |symm _ ih=>exact ih.symm
   |trans _ _ i1 i2=>exact i1.trans i2
  exact key c
noncomputable def lay(r:List Tie)(ms:List Int)(j:Int):List Tie:=((r.zip ms).filter fun p=>decide (p.2=j)).map (·.1)
theorem jf(t:Tie)(m:Int)(r:List Tie)(ms:List Int)(j:Int):lay (t::r) (m::ms) j=if m=j then t::lay r ms j else lay r ms j:=by unfold lay;rw[SI,Q7];by_cases h:m=j<;>simp[h]
def sZ(k:Int)(r:List Tie)(ms:List Int)(t:Tie)(m:Int):Prop:=
 (m=0/\∀j,1<=j->j<=k->Con (lay r ms j) t.a t.b)\/(1<=m/\m<=k/\¬Con (lay r ms m) t.a t.b/\∀j,1<=j->j<m->Con (lay r ms j) t.a t.b)
def bI(k:Int):List Tie->List Int->Prop
 |[],[]=>True
 |t::r,m::ms=>bI k r ms/\sZ k r ms t m
 |_,_=>False
theorem sZ.uniq{k:Int}{r:List Tie}{ms:List Int}{t:Tie}{m m':Int}(h:sZ k r ms t m)(h':sZ k r ms t m'):m=m':=by
 rcases h with⟨rfl,h⟩ | ⟨h1,h2,h3,h4⟩
 ·rcases h' with⟨rfl,_⟩ | ⟨g1,g2,g3,_⟩
  ·rfl
  ·exact absurd (h m' g1 g2) g3
 ·rcases h' with⟨rfl,h'⟩ | ⟨g1,g2,g3,g4⟩
  ·exact absurd (h' m h1 h2) h3
  ·rcases Int.lt_trichotomy m m' with q | q | q
   ·exact absurd (g4 m h1 q) h3
   ·exact q
   ·exact absurd (h4 m' g1 q) g3
theorem bI.len{k:Int}:∀{r:List Tie} {ms:List Int},bI k r ms->ms.length=r.length
 |[],[],_=>rfl
 |_::r,_::ms,h=>by simp[bI.len h.1]
 |[],_::_,h=>h.elim
 |_::_,[],h=>h.elim
theorem bI.uniq{k:Int}:∀{r:List Tie} {ms ms':List Int},bI k r ms->bI k r ms'->ms=ms'
 |[],[],[],_,_=>rfl
 |_::r,m::ms,m'::ms',h,h'=>by have e:=bI.uniq h.1 h'.1;subst e;rw[h.2.uniq h'.2]
 |[],_::_,_,h,_=>h.elim
 |[],[],_::_,_,h=>h.elim
 |_::_,[],_,h,_=>h.elim
 |_::_,_::_,[],_,h=>h.elim
noncomputable def lab(n:Nat)(f:Int->Int):Dat:=.lst ((Qs n).map fun(i:Nat)=>Dat.int (f i))
theorem qK(n:Nat)(f:Int->Int)(x:Int)(h0:0<=x)(h1:x<n):gIx (lab n f) (.int x)=some (.val (.int (f x))):=by
 unfold lab gIx atI ixN;have hx:x.toNat<n:=by lia
 have hc:((x.toNat:Nat):Int)=x:=by lia
 simp only[Dp,QG,h0,h1,if_true];simp[Rq hx,hc]
theorem Ko(n:Nat):Dat.lst (ups 0 n)=lab n fun x=>x:=by unfold ups lab;simp
theorem FF(n:Nat)(f:Int->Int):lab n f=.lst (((Qs n).map fun(i:Nat)=>f i).map Dat.int):=by unfold lab;rw[QX];rfl
theorem zG(n:Nat)(hn:n<=10)(f:Int->Int)(a b:Int)(a0:0<=a)(a1:a<n)(b0:0<=b)(b1:b<n):xH [lab n f,.int a,.int b]=some (.new (lab n (mgf f a b))):=by
 apply TQ;unfold xH
 (refine Dm.Tz ?_ rfl rfl;and_intros)
 refine TL (UE (fun i:Nat=>Dat.int (f i)) (Qs n) (fun i:Nat=>mgf f a b i) Dat.int (d:=lab n f) ?_ rfl rfl rfl (by decide) (by rw[QG];unfold SZ;lia) fun i _=>?_)
 ·rw[<- FF];rfl
 ·refine Vn (TF (S_ (Q_ rfl (S_ (Q_ rfl (Q_ rfl (To ?_ rfl rfl (qK n f b b0 b1))))))));refine Ud (Tp ⟨fun g=>?_,fun g=>?_⟩) rfl rfl
  ·refine S_ (Q_ rfl (Q_ rfl (To (Tw ⟨?_,rfl⟩) rfl rfl (qK n f a a0 a1))));unfold mgf;rw[if_pos (of_decide_eq_true g)]
  ·refine Q_ rfl (Tw ⟨?_,rfl⟩);unfold mgf;rw[if_neg (of_decide_eq_false g)]
theorem s_{α:Type}(sD:α->Dat)(d:α):∀(k:Nat) (l:List α),i8 k (l.map sD)=(Qs l.length).map fun i=>.tup [.int ((k+i:Nat):Int),sD (l.getD i d)]
 |k,[]=>rfl
 |k,x::l=>by
  rw[Qa,i8,s_ sD d (k+1) l,QT,List.range_succ_eq_map,Qa,QX]
  congr 1
  apply R7;intro i _;show _=Dat.tup [.int ((k+(i+1):Nat):Int),sD ((x::l).getD (i+1) d)];rw[show k+1+i=k+(i+1) by lia];rfl
theorem mJ{n k:Nat}{p q:List Nat}(e:Qs n=p++k::q):k=p.length/\k<n:=by
 have h1:(Qs n)[p.length]?=some k:=by rw[e,QI (Qf _),Tf];rfl
 have h2:p.length<n:=by
  have:(Qs n).length=p.length+(q.length+1):=by rw[e];simp
  rw[QG]at this;lia
 rw[Rq h2]at h1;injection h1 with h1
 lia
def B6(gs:List (Int->Int))(a b:Int)(i:Nat)(num:Int):Prop:=
 (num=0/\∀(j:Nat) f,j<i->gs[j]?=some f->f a=f b)\/∃(j:Nat) (f:Int->Int),j<i/\gs[j]?=some f/\f a≠f b/\(∀(j':Nat) f',j'<j->gs[j']?=some f'->f' a=f' b)/\num=(j:Int)+1
theorem B7(n:Nat)(gs:List (Int->Int))(a b:Int)(a0:0<=a)(a1:a<n)(b0:0<=b)(b1:b<n):∃num:Int,sJ [.lst (gs.map (lab n)),.int a,.int b]=some (.val (.int num))/\B6 gs a b gs.length num:=by
 suffices hh:Wr (sJ [.lst (gs.map (lab n)),.int a,.int b]) fun v=>∃num:Int,v=.val (.int num)/\B6 gs a b gs.length num by obtain⟨v,h1,num,rfl,h2⟩:=hh;exact⟨num,h1,h2⟩
 unfold sJ
 (refine Dm.Tz ?_ rfl rfl;and_intros)
 refine Tn (T8 (VB (Q_ rfl (Tw ⟨_,rfl,?_⟩))));rw[s_ (lab n) fun x=>x];refine T9 (fun i:Nat=>Dat.tup [.int ((0+i:Nat):Int),lab n (gs.getD i fun x=>x)]) _ _ (Qs gs.length) _ _ _ _ _ (fun p q ρ=>∃c3 c4:Cell,ρ=[.sh (.lst (gs.map (lab n))),.sh (.int a),.sh (.int b),c3,c4]/\∀(j:Nat) f,j<p.length->gs[j]?=some f->f a=f b) ⟨_,_,rfl,fun j f hj=>by simp at hj⟩ ?_ ?_
 ·rintro p i q ρ e ⟨c3,c4,rfl,low⟩;obtain⟨ip,il⟩:=mJ e;have hf:gs[i]?=some (gs.getD i fun x=>x):=by rw[Q4,Ql il];rfl
  generalize (gs.getD i fun x=>x)=f at hf
  refine Dm.bU rfl (by trivial) ?_;unfold BL;refine TX (TF (S_ (S_ (Q_ rfl (Q_ rfl (To ?_ rfl rfl (qK n f a a0 a1)))))));refine S_ (Q_ rfl (Q_ rfl (To ?_ rfl rfl (qK n f b b0 b1))));refine UD (Tp ?_) rfl rfl;by_cases h:f a=f b
  ·refine T4 (by simp[h]) (TY ⟨_,_,rfl,fun j g hj hg=>?_⟩);rw[Qn,Rj]at hj;by_cases q:j=i
   ·subst q;rw[hf]at hg;cases hg;exact h
   ·exact low j g (by lia) hg
  ·refine Us (by simp[h]) (TL (S_ (Q_ rfl (Tj (Tv ?_ rfl rfl)))));exact⟨_,rfl,.inr ⟨i,f,il,hf,h,fun j g hj=>low j g (by lia),by lia⟩⟩
 ·rintro ρ ⟨c3,c4,rfl,low⟩;rw[QG]at low;exact TL (Tj ⟨0,rfl,.inl ⟨rfl,low⟩⟩)
def Ends(n:Int)(r:List Tie):Prop:=∀t∈r,0<=t.a/\t.a<n/\0<=t.b/\t.b<n
def FG(k:Nat)(gs:List (Int->Int))(r:List Tie)(ms:List Int):Prop:=gs.length=k/\∀(j:Nat) f,gs[j]?=some f->Tells f (lay r ms ((j:Int)+1))
theorem map_set(n:Nat)(gs:List (Int->Int))(i:Nat)(f:Int->Int):(gs.map (lab n)).set i (lab n f)=(gs.set i f).map (lab n):=by rw[List.map_set]
def B8(o:Bool)(gs gs':List (Int->Int))(a b:Int)(i:Nat)(num:Int):Prop:=
 (num=0/\gs'=gs/\∀(j:Nat) f,j<i->gs[j]?=some f->f a=f b)\/∃(j:Nat) (f:Int->Int),j<i/\gs[j]?=some f/\f a≠f b/\(∀(j':Nat) f',j'<j->gs[j']?=some f'->f' a=f' b)/\num=(j:Int)+1/\gs'=gs.set j (mgf f (if o then a else b) (if o then b else a))
theorem B8.num{k:Nat}{o:Bool}{gs gs':List (Int->Int)}{r:List Tie}{ms:List Int}(h:FG k gs r ms)(t:Tie){num:Int}(l:B8 o gs gs' t.a t.b k num):sZ k r ms t num/\FG k gs' (t::r) (num::ms):=by
 obtain⟨hl,ht⟩:=h;rcases l with⟨rfl,rfl,h2⟩ | ⟨j,f,jk,h1,h3,h4,rfl,rfl⟩
 ·refine⟨.inl ⟨rfl,fun j j1 j2=>?_⟩,hl,fun i g hg=>?_⟩
  ·have hj:(j-1).toNat<gs'.length:=by lia
   have:=(ht (j-1).toNat _ (Ql hj) t.a t.b).mp (h2 _ _ (by lia) (Ql hj));rw[show (((j-1).toNat:Nat):Int)+1=j by lia]at this;exact this
  ·rw[jf,if_neg (by lia)];exact ht i g hg
 ·have hj:j<gs.length:=(PU.mp h1).1;refine⟨.inr ⟨by lia,by lia,fun c=>h3 ((ht j f h1 t.a t.b).mpr c),fun i i1 i2=>?_⟩,by rw[QC];exact hl,fun i g hg=>?_⟩
  ·have hi:(i-1).toNat<gs.length:=by lia
   have:=(ht (i-1).toNat _ (Ql hi) t.a t.b).mp (h4 (i-1).toNat _ (by lia) (Ql hi));rw[show (((i-1).toNat:Nat):Int)+1=i by lia]at this;exact this
  ·rw[jf];by_cases q:j=i
   ·subst q;rw[Qz hj]at hg;cases hg;rw[if_pos rfl];cases o
    ·exact tells_mgf (ht j f h1) t t.b t.a (.inr ⟨rfl,rfl⟩)
    ·exact tells_mgf (ht j f h1) t t.a t.b (.inl ⟨rfl,rfl⟩)
   ·rw[Dk q]at hg;rw[if_neg (by lia)];exact ht i g hg
theorem ND(n:Nat)(gs:List (Int->Int)){i:Nat}{f:Int->Int}(h:gs[i]?=some f):gIx (.lst (gs.map (lab n))) (.int (0+(i:Nat)))=some (.val (lab n f)):=by
 have hi:=(PU.mp h).1;rw[S0];show (atI (gs.map (lab n)) i).map RV.val=_;rw[Dm.jb (lab n) gs (i:Nat) (by lia) (by lia)];have:gs[((i:Nat):Int).toNat]'(by lia)=f:=by
  have:=PU.mp h
  simpa using this.2
 rw[this];rfl
theorem PF(k:Nat):FG k ((Qs k).map fun _=>(fun x:Int=>x)) [] []:=⟨by simp,fun j f hf=>by
 rw[Qm]at hf;cases h:(Qs k)[j]? with
 |none=>rw[h]at hf;cases hf
 |some x=>rw[h]at hf;cases hf;exact tells_nil⟩
theorem gF(n k:Nat)(hn:n<=10)(hk1:1<=k)(hk6:k<=6)(r:List Tie)(hr:Ends n r)(hl:r.length<=1000):∃ms:List Int,pO [.int n,aD r,.int k]=some (.new (.lst (ms.map Dat.int)))/\bI k r ms:=by
 suffices hh:Wr (pO [.int (n:Nat),aD r,.int (k:Nat)]) fun v=>∃ms:List Int,v=.new (.lst (ms.map Dat.int))/\bI k r ms by obtain⟨v,h1,ms,rfl,h2⟩:=hh;exact⟨ms,h1,h2⟩
 unfold pO
 (refine Dm.Tz ?_ rfl rfl;and_intros)
 refine Tn (UC (Tu (m_ (Q_ rfl (R_ (TJ (mH k (by lia) (by lia)) ?_ rfl rfl))))));refine Tn (Tt (UH (fun i:Nat=>Dat.int (0+(i:Nat))) (Qs k) (fun _=>(fun x:Int=>x)) (lab n) (ρ1:=[.sh (.int (n:Nat)),.sh (aD r),.sh (.int (k:Nat)),.un,.un,.un,.un,.un,.un]) ?_ ?_ rfl (by decide) (by rw[QG];unfold SZ;lia) fun i _=>?_) (by decide))
 rotate_left
 ·apply U0;refine Um (Q_ rfl (bV.mk ⟨⟨?_,rfl⟩,by unfold BIG;lia,by unfold BIG;lia⟩));rw[SV];rfl
 ·refine TR (m_ (Q_ rfl (R_ (VI ?_ rfl (by lia)))));rw[SV,Ko];exact Ux ⟨rfl,rfl⟩
 refine TN ?_ (by trivial);refine Tn (Tt (T_ (R_ (TU ?_ rfl rfl (by decide)))) (by decide));refine TN ?_ (by trivial);refine Tn (T8 (Vv (Q_ rfl (Tw ⟨_,rfl,?_⟩))));rw[<- List.map_reverse];refine T9 bG _ _ r.reverse _ _ _ _ _ (fun p q ρ=>∃(gs:List (Int->Int)) (ms:List Int) (c5 c6 c7 c8:Cell),ρ=[.sh (.int (n:Nat)),.sh (aD r),.sh (.int (k:Nat)),.ow (.lst (gs.map (lab n))),.ow (.lst (ms.reverse.map Dat.int)),c5,c6,c7,c8]/\FG k gs p.reverse ms/\bI k p.reverse ms) ⟨(Qs k).map fun _=>(fun x:Int=>x),[],.un,.un,.un,.un,rfl,PF k,trivial⟩ ?_ ?_
 ·rintro p t q ρ e ⟨gs,ms,c5,c6,c7,c8,rfl,I,A⟩;have ht:t∈r:=List.mem_reverse.mp (by rw[e];simp);obtain⟨t0,t1,t2,t3⟩:=hr t ht;have lp:ms.length<=1000:=by
   have a:=A.len;have:r.reverse.length=p.length+(q.length+1):=by rw[e];simp
   rw[Rr]at a this
   lia
  obtain⟨num,en,ln⟩:=B7 n gs t.a t.b t0 t1 t2 t3;rw[I.1]at ln;refine Dm.bU rfl (by trivial) ?_;unfold BN;refine Tn (Tt (Tu (m_ (TV rfl (m_ (Q_ rfl (m_ (Q_ rfl (R_ (TJ en (Tq ?_ (by trivial)) rfl rfl))))))))) (by decide));refine T3 (fun ρ=>∃gs',ρ=[.sh (.int (n:Nat)),.sh (aD r),.sh (.int (k:Nat)),.ow (.lst (gs'.map (lab n))),.ow (.lst (ms.reverse.map Dat.int)),.sh (.int t.m),.sh (.int t.a),.sh (.int t.b),.sh (.int num)]/\B8 true gs gs' t.a t.b k num) ?_ ?_
  ·refine TX (TF (S_ (Q_ rfl (Tj (UA (Tp ?_) rfl rfl)))));rcases ln with⟨rfl,low⟩ | ⟨j,f,jk,hf,ne,low,rfl⟩
   ·exact T4 rfl (TY ⟨gs,rfl,.inl ⟨rfl,rfl,low⟩⟩)
   ·have gi:gIx (.lst (gs.map (lab n))) (.int ((j:Int)+1-1))=some (.val (lab n f)):=by
     have:=ND n gs hf;rw[show (j:Int)+1-1=0+(j:Nat) by lia];exact this
    refine Us (decide_eq_true (by lia)) ?_;refine Vh (Tu (m_ (S_ (TV rfl (S_ (Q_ rfl (Tj (Ug (To ?_ rfl rfl gi) rfl rfl))))))));refine m_ (Q_ rfl (m_ (Q_ rfl (R_ (TM (zG n hn f t.a t.b t0 t1 t2 t3) ?_ rfl rfl rfl (by trivial))))));refine Ux ⟨⟨_,rfl⟩,S_ (Q_ rfl (Tj (Ug (bV.mk ⟨gs.map (lab n),j,_,rfl,?_,rfl,?_⟩) rfl rfl)))⟩
    ·have hj:j<gs.length:=(PU.mp hf).1;rw[Dp];unfold ixN;rw[if_pos (by lia),if_pos (by lia)]
     congr 1
     lia
    ·exact⟨gs.set j (mgf f t.a t.b),by rw[<- map_set];rfl,.inr ⟨j,f,jk,hf,ne,low,rfl,rfl⟩⟩
  ·rintro ρ ⟨gs',rfl,L⟩;obtain⟨h1,h2⟩:=L.num I t;refine Ul (Q_ rfl (Tw (gy ?_ rfl (by trivial) (by rw[Dp,Rr];unfold SZ;lia)))) rfl;refine⟨gs',num::ms,.sh (.int t.m),.sh (.int t.a),.sh (.int t.b),.sh (.int num),by rw[SQ,Qq];rfl,?_⟩;rw[List.reverse_append];exact⟨h2,A,h1⟩
 ·rintro ρ ⟨gs,ms,c5,c6,c7,c8,rfl,I,A⟩;rw[List.reverse_reverse]at A;refine TL (Ue (TV rfl (Ub (v:=.new (.lst (ms.map Dat.int))) ?_ rfl ?_)))
  ·exact⟨ms,rfl,A⟩
  ·unfold lO;dsimp only;rw[<- List.map_reverse,List.reverse_reverse]
theorem Good.mem{n:Int}:∀{r:List Tie} {lo:Int},Good n lo r->∀t∈r,0<=t.a/\t.a<=t.b/\t.b<n
 |[],_,_,t,h=>by cases h
 |x::r,lo,g,t,h=>by
  rcases Qk.mp h with rfl | h
  ·exact⟨g.2.1,g.2.2.1,g.2.2.2.1⟩
  ·exact Good.mem g.2.2.2.2 t h
noncomputable def keep(r:List Tie)(ms:List Int):List Tie:=((r.zip ms).filter fun p=>decide (0<p.2)).map (·.1)
theorem dU(t:Tie)(m:Int)(r:List Tie)(ms:List Int):keep (t::r) (m::ms)=if 0<m then t::keep r ms else keep r ms:=by unfold keep;rw[SI,Q7];by_cases h:0<m<;>simp[h]
noncomputable def zE(x:Tie×Int):Dat:=.tup [bG x.1,.int x.2]
theorem xY:∀(r:List Tie) (ms:List Int),fX (r.map bG) (ms.map Dat.int)=(r.zip ms).map zE
 |[],_=>by simp[fX]
 |_::_,[]=>by simp[fX]
 |t::r,m::ms=>by rw[Qa,Qa,fX,xY r ms,SI,Qa];rfl
theorem VD(r:List Tie)(ms:List Int)(p:Tie×Int->Bool){it:FI}{k:Nat}{t:FT}{ρ ρ1:Env}{Q:Val->Env->Prop}(q:Q (.new (aD (((r.zip ms).filter p).map (·.1)))) ρ1)(Kf:it ρ=some (fX (r.map bG) (ms.map Dat.int),ρ1))(hk:ρ1.length=k)(hk0:k≠0)(hl:r.length<=SZ)
  (ht:∀x:Tie×Int,Wt t (ρ1++[.sh (bG x.1),.sh (.int x.2)]) fun c ρ'=>c=p x/\ρ'=ρ1++[.sh (bG x.1),.sh (.int x.2)]):We (b9 it 2 (bT [k,k+1]) t (eV k)) ρ Q:=by
 have b:∀(x:Tie×Int) (c1 c2:Cell),bT [k,k+1] (zE x) (ρ1++[c1,c2])=some (ρ1++[.sh (bG x.1),.sh (.int x.2)]):=fun x c1 c2=>by show sets [k,k+1] [bG x.1,.int x.2] _=_;rw[sets,if_neg hk0,sets,if_neg (by lia),sets];rw[RL _ _ (by lia),RL _ _ (by lia)];subst hk;rw[Tf,show ρ1.length+1-ρ1.length=1 by lia];rfl
 refine VH zE (r.zip ms) p (fun x=>x.1) bG (fun x=>(ρ1++[Cell.sh (bG x.1),Cell.sh (.int x.2)]:Env)) (own:=2) (bd:=bT [k,k+1]) (Q:=Q) q (by rw[Kf,xY]) (fun x=>b x .un .un) (fun x y=>b x (.sh (bG y.1)) (.sh (.int y.2))) (fun x=>SA) (by rw[List.length_zip];lia) (fun x _=>ht x) (fun x _ _=>?_);refine Q_ (d:=bG x.1) ?_ (Tw ⟨rfl,rfl⟩);rw[QI (by lia),hk,Tf];rfl
theorem Kp(r:List Tie):eqD (aD r) (aD r)=true:=by
 unfold aD;rw[eqD]
 induction r with
 |nil=>rfl
 |cons b bs ih=>rw[Qa,jy,ih];simp[bG,eqD,jy]
theorem Kq(r:List Tie):okD 8 (aD r)=true:=Nu bG r fun t=>rfl
theorem UN{d:Dat}{o p:Option Dat}{Q:RV->Prop}(hk:okD 8 d=true)(he:eqD d d=true)(k:Q (.val (.bl false)))(ho:o=some d)(hp:p=some d):Wg2 gNe o p Q:=
 ⟨_,_,_,ho,hp,by unfold gNe;rw[hk,he];rfl,k⟩
theorem Vw{d:Dat}{o p:Option Dat}{Q:RV->Prop}(hk:okD 8 d=true)(he:eqD d d=true)(k:Q (.val (.bl true)))(ho:o=some d)(hp:p=some d):Wg2 gEq o p Q:=
 ⟨_,_,_,ho,hp,by unfold gEq;rw[hk,he];rfl,k⟩
noncomputable def gG(n k:Nat)(r:List Tie):Dat:=.tup [.int (n:Nat),.int (k:Nat),aD r]
theorem zH{ρ ρ1:Env}{it:FI}{k:Nat}(r:List Tie)(ms:List Int){Q:Val->Env->Prop}(q:Q (.new (aD (keep r ms))) ρ1)(Kf:it ρ=some (fX (r.map bG) (ms.map Dat.int),ρ1))(hk:ρ1.length=k)(hk0:k≠0)(hl:r.length<=SZ):We (b9 it 2 (bT [k,k+1]) (tV (e2 gGt (eV (k+1)) (eC (.int 0)))) (eV k)) ρ Q:=by refine VD r ms (fun p=>decide (0<p.2)) q Kf hk hk0 hl fun x=>?_;refine TF (S_ (Q_ (d:=.int x.2) ?_ (Tj (UA (Tp ⟨rfl,rfl⟩) rfl rfl))));rw[QI (by lia),hk];simp
theorem Ks(n k:Nat)(hn:n<=10)(hk1:1<=k)(hk6:k<=6)(r:List Tie)(ms:List Int)(hr:Ends n r)(hl:r.length<=1000)(ha:bI k r ms):pP [.int (n:Nat),aD r,.int (k:Nat)]=some (.val (gG n k (keep r ms))):=by
 obtain⟨ms',el,al⟩:=gF n k hn hk1 hk6 r hr hl;rw[al.uniq ha]at el;apply TQ;unfold pP
 (refine Dm.Tz ?_ rfl rfl;and_intros)
 refine Tn (Tt (Tu (m_ (Q_ rfl (m_ (Q_ rfl (m_ (Q_ rfl (R_ (TM el ?_ rfl rfl rfl rfl)))))))) ) (by decide));refine TN ?_ (by trivial);refine TL (Ur (m_ (Q_ rfl (m_ (Q_ rfl (m_ (zH (ρ1:=[.sh (.int (n:Nat)),.sh (aD r),.sh (.int (k:Nat)),.sh (.lst (ms.map Dat.int))]) r ms (k:=4) ?_ ?_ rfl (by decide) (QO hl (by decide)))))))))
 ·exact R_ (TU rfl rfl rfl (QB rfl))
 ·rfl
theorem FH{r:List Tie}{ms:List Int}{j:Int}{t:Tie}(h:t∈lay r ms j):(t,j)∈r.zip ms:=by unfold lay at h;obtain⟨q,hq,rfl⟩:=Qp.mp h;obtain⟨h1,h2⟩:=Ri.mp hq;have:q.2=j:=of_decide_eq_true h2;rw[<- this];exact h1
theorem tu:∀(r:List Tie) (ms:List Int) (j:Int),1<=j->lay (keep r ms) (ms.filter fun m=>decide (0<m)) j=lay r ms j\/r.length≠ms.length
 |[],[],_,_=>.inl rfl
 |[],_::_,_,_=>.inr (by simp)
 |_::_,[],_,_=>.inr (by simp)
 |t::r,m::ms,j,hj=>by
  rcases tu r ms j hj with ih | ih
  ·left;rw[dU,jf];by_cases h:0<m
   ·rw[if_pos h,Q6 (by simpa using h),jf,ih]
   ·rw[if_neg h,Q5 (by simpa using h),ih,if_neg (by lia)]
  ·right
   simpa using ih
theorem tw{k:Int}:∀{r:List Tie} {ms:List Int},bI k r ms->bI k (keep r ms) (ms.filter fun m=>decide (0<m))
 |[],[],_=>trivial
 |t::r,m::ms,h=>by
  have ih:=tw h.1;rw[dU];by_cases q:0<m
  ·rw[if_pos q,Q6 (by simpa using q)];refine⟨ih,?_⟩;have e:∀j,1<=j->lay (keep r ms) (ms.filter fun m=>decide (0<m)) j=lay r ms j:=fun j hj=>by
    rcases tu r ms j hj with z | z
    ·exact z
    ·exact absurd h.1.len.symm z
   rcases h.2 with⟨h0,_⟩ | ⟨h1,h2,h3,h4⟩
   ·lia
   ·exact .inr ⟨h1,h2,by rw[e m h1];exact h3,fun j j1 j2=>by rw[e j j1];exact h4 j j1 j2⟩
  ·rw[if_neg q,Q5 (by simpa using q)];exact ih
 |[],_::_,h=>h.elim
 |_::_,[],h=>h.elim
theorem jh:∀(r:List Tie) (ms:List Int),(keep r ms).Sublist r
 |[],ms=>by unfold keep;simp
 |_::_,[]=>by unfold keep;simp
 |t::r,m::ms=>by
  rw[dU];split
  ·exact(jh r ms).cons_cons t
  ·exact(jh r ms).cons t
theorem ji(n i:Int)(h0:0<=i)(h1:i<n):mj [.int n,.int i]=some (.val (.bl true)):=by
 apply TQ;unfold mj
 (refine Dm.Tz ?_ rfl rfl;and_intros)
 refine TL (Tu (m_ (Q_ rfl (m_ (Tj (m_ (S_ (Q_ rfl (Tj (Ug ?_ rfl rfl))))))))));exact R_ (TJ (cY i 0 (n-1) h0 (by lia)) rfl rfl rfl)
theorem zI(m:Int)(h0:0<=m)(h1:m<=Z30):xA [.int m]=some (.val (.bl true)):=by
 apply TQ;unfold xA
 (refine Dm.Tz ?_ rfl rfl;and_intros)
 refine TL (Tu (m_ (Q_ rfl (m_ (Tj (m_ (S_ (Tj (Tj (Uv (z:=Z30) ?_ rfl rfl (by decide) (by decide)))))))))));exact R_ (TJ (cY m 0 Z30 h0 h1) rfl rfl rfl)
theorem zJ(n:Int)(t:Tie)(m0:0<=t.m)(m1:t.m<=Z30)(a0:0<=t.a)(a1:t.a<n)(b0:0<=t.b)(b1:t.b<n):xB [.int n,bG t]=some (.val (.bl true)):=by
 apply TQ;unfold xB bG
 (refine Dm.Tz ?_ rfl rfl;and_intros)
 refine Tn (TX (Uq (T6 (TF (Ue (Q_ rfl (Ub ?_ rfl rfl)))))));refine Tp ?_;refine T4 rfl ?_;refine TF (S_ (TR (m_ (Q_ rfl (R_ (U8 ?_ rfl))))));refine Tj (UD ?_ rfl rfl);refine Tp ?_;refine T4 rfl ?_;refine TY (TL (Ui (Tu (m_ (S_ (Q_ rfl (Tj (To ?_ rfl rfl rfl))))))));refine R_ ?_;refine TJ (zI t.m m0 m1) ?_ rfl rfl;refine Tp (Uo (Ui (Tu (m_ (Q_ rfl (m_ (S_ (Q_ rfl (Tj (To ?_ rfl rfl rfl))))))))));refine R_ ?_;refine TJ (ji n t.a a0 a1) ?_ rfl rfl;refine Tp (Uo (Tu (m_ (Q_ rfl (m_ (S_ (Q_ rfl (Tj (To ?_ rfl rfl rfl)))))))));refine R_ ?_;refine TJ (ji n t.b b0 b1) ?_ rfl rfl;refine Uc ?_;rfl
theorem zK(n:Int)(t:Tie)(m0:0<=t.m)(m1:t.m<=Z30)(a0:0<=t.a)(ab:t.a<=t.b)(b1:t.b<n):xC [.int n,bG t]=some (.val (.bl true)):=by
 apply TQ;unfold xC
 (refine Dm.Tz ?_ rfl rfl;and_intros)
 refine TL (Ui (Tu (m_ (Q_ rfl (m_ (Q_ rfl (R_ ?_)))))));refine TJ (zJ n t m0 m1 a0 (by lia) (by lia) b1) ?_ rfl rfl;refine Tp (Uo (S_ (S_ (Q_ rfl (Tj (To ?_ rfl rfl rfl))))));refine S_ (Q_ rfl (Tj (To ?_ rfl rfl rfl)));refine Vj ?_ rfl rfl;refine Uc ?_;exact congrArg (fun b=>RV.val (Dat.bl b)) (decide_eq_true ab)
noncomputable abbrev FJ(D:List Tie):Prop:=D.Pairwise fun t u=>t.m<u.m
theorem xZ(n:Nat):ups 1 n=(Qs n).map fun i:Nat=>Dat.int (1+(i:Int)):=rfl
theorem qM(n:Int)(h1:1<=n)(h2:n<=10):xy [.int n]=some (.val (.bl true)):=by
 apply TQ;unfold xy
 (refine Dm.Tz ?_ rfl rfl;and_intros)
 refine TL (Tu (m_ (Q_ rfl (m_ (Tj (m_ (Tj (R_ ?_))))))));refine TJ (cY n 1 10 h1 h2) ?_ rfl rfl;refine Uc ?_;rfl
theorem qN(n:Int)(h1:1<=n)(h2:n<=6):mq [.int n]=some (.val (.bl true)):=by
 apply TQ;unfold mq
 (refine Dm.Tz ?_ rfl rfl;and_intros)
 refine TL (Tu (m_ (Q_ rfl (m_ (Tj (m_ (Tj (R_ ?_))))))));refine TJ (cY n 1 6 h1 h2) ?_ rfl rfl;refine Uc ?_;rfl
theorem zL(D:List Tie)(h:FJ D)(hl:D.length<=75):xD [.lst ((D.map (·.m)).map Dat.int)]=some (.val (.bl true)):=by
 have sz:1000<=SZ:=by decide
 apply TQ;unfold xD
 (refine Dm.Tz ?_ rfl rfl;and_intros)
 refine TL (TR (m_ ?_));have Kf:iR2 (eC (.int 1)) (eB eW [eV 0]) [.sh (.lst ((D.map (·.m)).map Dat.int))]=some ((Qs ((D.length:Int)-1).toNat).map (fun i:Nat=>Dat.int (1+(i:Int))),[.sh (.lst ((D.map (·.m)).map Dat.int))]):=by
  refine U0 ?_;refine U_ (Tj (bV.mk (TR (m_ (Q_ rfl (R_ (Up (sD:=Dat.int) ?_ rfl)))))));refine bV.mk ?_;refine⟨⟨?_,rfl⟩,?_⟩
  ·rw[xZ,Dp]
  ·rw[Dp];unfold BIG;lia
 refine UH (fun i:Nat=>Dat.int (1+(i:Int))) (Qs ((D.length:Int)-1).toNat) (fun _=>true) Dat.bl ?_ Kf rfl (by decide) (by simp;lia) (fun i hi=>?_)
 ·refine R_ (UI (fun b=>b) (xs:=(Qs ((D.length:Int)-1).toNat).map fun _=>true) ?_ rfl);exact Uc (congrArg (fun b=>RV.val (Dat.bl b)) (by simp))
 ·have hi':=RD.mp hi;refine S_ (S_ (Q_ rfl (S_ (Q_ rfl (Tj (Ug ?_ rfl rfl))))));refine U7 (sD:=Dat.int) (xs:=D.map (·.m)) (i:=1+(i:Int)-1) (by lia) (by rw[Dp];lia) ?_ rfl rfl;refine S_ (Q_ rfl (Q_ rfl ?_));refine U7 (sD:=Dat.int) (xs:=D.map (·.m)) (i:=1+(i:Int)) (by lia) (by rw[Dp];lia) ?_ rfl rfl;refine UO ?_ rfl rfl;refine Tw ?_;have lt:=List.pairwise_iff_getElem.mp h (1+(i:Int)-1).toNat (1+(i:Int)).toNat (by lia) (by lia) (by lia);refine⟨congrArg Dat.bl (decide_eq_true ?_),rfl⟩;rw[List.getElem_map,List.getElem_map];exact lt
structure Rcd(n:Nat)(r:List Tie):Prop where
 ok:∀t∈r,0<=t.m/\t.m<=Z30/\0<=t.a/\t.a<=t.b/\t.b<n
 up:FJ r
 len:r.length<=60
theorem Rcd.sub{n:Nat}{r q:List Tie}(h:Rcd n r)(s:q.Sublist r):Rcd n q:=⟨fun t ht=>h.ok t (s.subset ht),h.up.sublist s,QO s.length_le h.len⟩
theorem Rcd.ends{n:Nat}{r:List Tie}(h:Rcd n r):Ends n r:=fun t ht=>by obtain⟨h1,h2,h3,h4,h5⟩:=h.ok t ht;exact⟨h3,by lia,by lia,h5⟩
theorem Rcd.good{n:Nat}{r:List Tie}(h:Rcd n r):Good n 0 r:=by
 have go:∀(r:List Tie) (lo:Int),(∀t∈r,0<=t.a/\t.a<=t.b/\t.b<(n:Nat))->(∀t∈r,lo<=t.m)->FJ r->Good n lo r:=fun r=>by
  induction r with
  |nil=>intro lo _ _ _;trivial
  |cons t r ih=>intro lo h1 h2 h3;obtain⟨p1,p2⟩:=Rf.mp h3;obtain⟨q1,q2,q3⟩:=h1 t Qe;exact⟨h2 t Qe,q1,q2,q3,ih (t.m+1) (fun u hu=>h1 u (Qg _ hu)) (fun u hu=>by have:=p1 u hu;lia) p2⟩
 exact go r 0 (fun t ht=>(h.ok t ht).2.2) (fun t ht=>(h.ok t ht).1) h.up
theorem qO(n:Nat)(n1:1<=n)(n10:n<=10)(r:List Tie)(h:Rcd n r):xJ [.int (n:Nat),aD r]=some (.val (.bl true)):=by
 have sz:1000<=SZ:=by decide
 have hl:=h.len;apply TQ;unfold xJ
 (refine Dm.Tz ?_ rfl rfl;and_intros)
 refine Tn (TX (Uq (T6 (TF (Tu (m_ (Q_ rfl (R_ ?_))))))));refine TJ (qM n (by lia) (by lia)) ?_ rfl rfl;refine Tp ?_;refine T4 rfl ?_;refine Uq (T6 (TF (Ue (Q_ rfl (Ub ?_ rfl rfl)))));refine Tp ?_;refine T4 rfl ?_;refine TF (S_ (TR (m_ (Q_ rfl (R_ (Vi ?_ rfl))))));refine Tj (UA ?_ rfl rfl);refine Tp ?_;refine T4 (decide_eq_false (by rw[Dp];lia)) ?_;refine TY (Tn (TX (T6 (TF (TR (m_ ?_))))));refine UE bG r (fun _=>true) Dat.bl ?_ rfl rfl rfl (by decide) (by lia) (fun t ht=>?_)
 rotate_left
 ·obtain⟨h1,h2,h3,h4,h5⟩:=h.ok t ht;refine Tu (m_ (Q_ rfl (m_ (Q_ rfl (R_ ?_)))));refine TJ (zK n t h1 h2 h3 h4 h5) ?_ rfl rfl;refine Tw ?_;exact⟨rfl,rfl⟩
 refine R_ ?_;refine UI (fun b=>b) (xs:=r.map fun _=>true) ?_ rfl;refine Tp ?_;refine T4 (by simp) ?_;refine TY (TL (Tu (m_ ?_)));refine UE bG r (·.m) Dat.int ?_ rfl rfl rfl (by decide) (by lia) (fun t ht=>?_)
 rotate_left
 ·refine S_ (Q_ rfl (Tj (To ?_ rfl rfl rfl)));refine Tw ?_;exact⟨rfl,rfl⟩
 refine R_ ?_;refine TJ (zL r h.up (by lia)) ?_ rfl rfl;refine Uc ?_;rfl
structure Net(n k:Nat)(N:List Tie):Prop where
 rc:Rcd n N
 num:∃ms,bI k N ms/\(0:Int)∉ms
theorem zM(n k:Nat)(n1:1<=n)(n10:n<=10)(k1:1<=k)(k6:k<=6)(N:List Tie)(h:Net n k N):xK [gG n k N]=some (.val (.bl true)):=by
 have hl:=h.rc.len;obtain⟨ms,el,al⟩:=gF n k n10 k1 k6 N h.rc.ends (by lia);obtain⟨ms',al',h0⟩:=h.num;rw[al'.uniq al]at h0;apply TQ;unfold xK gG
 (refine Dm.Tz ?_ rfl rfl;and_intros)
 refine Tn (TX (Uq (T6 (TF (Ue (Q_ rfl (Ub ?_ rfl rfl)))))));refine Tp ?_;refine T4 rfl ?_;refine TF (S_ (TR (m_ (Q_ rfl (R_ (U8 ?_ rfl))))));refine Tj (UD ?_ rfl rfl);refine Tp ?_;refine T4 rfl ?_;refine TY (Tn (TX (Uq (T6 (TF (Tu (m_ (S_ (Q_ rfl (Tj (To ?_ rfl rfl rfl)))))))))));refine R_ ?_;refine TJ (qN k (by lia) (by lia)) ?_ rfl rfl;refine Tp ?_;refine T4 rfl ?_;refine T6 (TF (Tu (m_ (S_ (Q_ rfl (Tj (To ?_ rfl rfl rfl)))))));refine m_ (S_ (Q_ rfl (Tj (To ?_ rfl rfl rfl))));refine R_ ?_;refine TJ (qO n n1 n10 N h.rc) ?_ rfl rfl;refine Tp ?_;refine T4 rfl ?_;refine TY (TL (S_ (Tj (Tu (m_ (S_ (Q_ rfl (Tj (To ?_ rfl rfl rfl)))))))));refine m_ (S_ (Q_ rfl (Tj (To ?_ rfl rfl rfl))));refine m_ (S_ (Q_ rfl (Tj (To ?_ rfl rfl rfl))));refine R_ ?_;refine TM el ?_ rfl rfl rfl (by trivial)
 skip
 refine Vy (xs:=ms) ?_ rfl rfl;refine Uc ?_;exact congrArg (fun b=>RV.val (Dat.bl b)) (by simp[h0])
theorem Rcd.of{n:Nat}{r:List Tie}(g:Good n 0 r)(hl:r.length<=60)(hm:∀t∈r,t.m<=Z30):Rcd n r:=⟨fun t ht=>by
  obtain⟨q1,q2,q3⟩:=Good.mem g t ht;exact⟨Good.lo g t ht,hm t ht,q1,q2,q3⟩,by
  have up:∀(r:List Tie) (lo:Int),Good n lo r->FJ r:=fun r=>by
   induction r with
   |nil=>intro _ _;exact List.Pairwise.nil
   |cons t r ih=>intro lo g;exact Rf.mpr ⟨fun u hu=>by have:=Good.lo g.2.2.2.2 u hu;lia,ih _ g.2.2.2.2⟩
  exact up r 0 g,hl⟩
noncomputable def cu(r:List Tie)(t:Int):List Tie:=r.filter fun x=>decide (t<=x.m)
theorem mK(r:List Tie)(hl:r.length<=1000)(t:Int):mw [aD r,.int t]=some (.new (aD (cu r t))):=by
 apply TQ;unfold mw
 (refine Dm.Tz ?_ rfl rfl;and_intros)
 refine TL ?_;refine Ve bG r (fun x=>decide (t<=x.m)) id bG (d:=aD r) ?_ rfl rfl rfl (by decide) (by unfold SZ;lia) (fun u _=>?_) fun u _ _=>?_
 ·rw[S7];rfl
 ·exact TF (S_ (S_ (Q_ rfl (Tj (To (Q_ rfl (UM (Tp ⟨rfl,rfl⟩) rfl rfl)) rfl rfl rfl)))))
 ·exact Q_ rfl (Tw ⟨rfl,rfl⟩)
theorem FL(n a b:Int)(a0:0<=a)(a1:a<n)(b0:0<=b)(b1:b<n)(h:a≠b):xE [.int n,.int a,.int b]=some (.val (.bl true)):=by
 apply TQ;unfold xE
 (refine Dm.Tz ?_ rfl rfl;and_intros)
 refine TL (Ui (Tu (m_ (Q_ rfl (m_ (Q_ rfl (R_ (TJ (ji n a a0 a1) ?_ rfl rfl))))))));refine Tp (Uo (Ui (Tu (m_ (Q_ rfl (m_ (Q_ rfl (R_ (TJ (ji n b b0 b1) ?_ rfl rfl)))))))));refine Tp (Uo (S_ (Q_ rfl (Q_ rfl (UD ?_ rfl rfl)))));rw[decide_eq_false h];rfl
theorem qP(n a b:Int)(a0:0<=a)(a1:a<n)(b0:0<=b)(b1:b<n)(h:a≠b):xG [.int n,.int a,.int b]=some (.val .non):=by
 apply TQ;unfold xG
 (refine Dm.Tz ?_ rfl rfl;and_intros)
 refine TX (T6 (TF (Tu (m_ (Q_ rfl (m_ (Q_ rfl (m_ (Q_ rfl (R_ (TJ (FL n a b a0 a1 b0 b1 h) ?_ rfl rfl)))))))))));exact Tp (Ua (TY rfl))
theorem Good.since{n:Int}{r:List Tie}{lo t:Int}(h:Good n lo r):Good n lo (cu r t):=h.filter _
theorem x6(r:List Tie)(t:Int):(cu r t).length<=r.length:=R0 _ _
theorem tE(n k:Nat)(n1:1<=n)(n10:n<=10)(k1:1<=k)(k6:k<=6)(N:List Tie)(h:Net n k N):xM [gG n k N]=some (.val .non):=by
 apply TQ;unfold xM
 (refine Dm.Tz ?_ rfl rfl;and_intros)
 exact TX (T6 (TF (Tu (m_ (Q_ rfl (R_ (TJ (zM n k n1 n10 k1 k6 N h) (Tp (Ua (TY rfl))) rfl rfl)))))))
def Hg(r:List Tie)(j:Nat)(a b:Int):Prop:=∀S:Int->Bool,S a≠S b->j<=ck r S
theorem Hg.symm{r:List Tie}{j:Nat}{a b:Int}(h:Hg r j a b):Hg r j b a:=fun S hs=>h S (Ne.symm hs)
theorem Hg.trans{r:List Tie}{j:Nat}{a b c:Int}(h:Hg r j a b)(h':Hg r j b c):Hg r j a c:=fun S hs=>by
 by_cases q:S a=S b
 ·exact h' S (q▸hs)
 ·exact h S q
theorem B9{K r:List Tie}(h:K.Sublist r)(S:Int->Bool):ck K S<=ck r S:=(h.filter _).length_le
theorem Hg.up{K r:List Tie}{j:Nat}{a b:Int}(s:K.Sublist r)(h:Hg K j a b):Hg r j a b:=fun S hs=>QO (h S hs) (B9 s S)
theorem NF{n:Nat}{r:List Tie}(h:Fit n r){a b:Int}(a0:0<=a)(a1:a<n)(b0:0<=b)(b1:b<n){k:Nat}(k6:k<=6) :
  ∃c:Bool,zw [.int n,aD r,.int a,.int b,.int k]=some (.val (.bl c))/\(c=true->Hg r k a b)/\(c=false->¬Hg r k a b):=by
 obtain⟨c,e,h1,h2⟩:=oO h a0 a1 b0 b1 k6;refine⟨c,e,fun q S hs=>?_,fun q hh=>?_⟩
 ·cases ha:S a
  ·cases hb:S b
   ·rw[ha,hb]at hs;exact absurd rfl hs
   ·have:=h1 q (fun x=>!S x) (by rw[ha];rfl) (by rw[hb];rfl);rw[jN]at this;exact this
  ·cases hb:S b
   ·exact h1 q S ha hb
   ·rw[ha,hb]at hs;exact absurd rfl hs
 ·obtain⟨S,s1,s2,s3⟩:=h2 q;have:=hh S (by rw[s1,s2];decide)
  lia
theorem Rcd.fit{n:Nat}(n10:n<=10){N:List Tie}(h:Rcd n N):Fit n N:=⟨by lia,fun t ht=>by
 obtain⟨_,_,h3,h4,h5⟩:=h.ok t ht;exact⟨h3,by lia,by lia,h5⟩,by
 have:=h.up;unfold List.Nodup;rw[List.pairwise_map];exact this.imp fun q e=>by lia,by have:=h.len;lia⟩
theorem oQ{n k j:Nat}(n1:1<=n)(n10:n<=10)(k1:1<=k)(k6:k<=6)(j1:1<=j)(jk:j<=k){N:List Tie}(h:Net n k N):xN [gG n k N,.int (j:Nat)]=some (.val .non):=by
 apply TQ;unfold xN
 (refine Dm.Tz ?_ rfl rfl;and_intros)
 refine Tn (UC (Tu (m_ (Q_ rfl (R_ (TJ (tE n k n1 n10 k1 k6 N h) ?_ rfl rfl))))));refine TX (T6 (TF (Tu (m_ (Q_ rfl (m_ (Tj (m_ (S_ (Q_ rfl (Tj (To (v:=.int (k:Nat)) ?_ rfl rfl rfl))))))))))));exact R_ (TJ (cY j 1 k (by lia) (by lia)) (Tp (Ua (TY rfl))) rfl rfl)
theorem filter_lt{α:Type}(p q:α->Bool):∀(l:List α),(∀x∈l,q x=true->p x=true)->(∃x∈l,p x=true/\q x=false)->(l.filter q).length+1<=(l.filter p).length
 |[],_,⟨x,h,_⟩=>by cases h
 |y::l,h,⟨x,hx,hp,hq⟩=>by
  have le:∀l:List α,(∀x∈l,q x=true->p x=true)->(l.filter q).length<=(l.filter p).length:=by
   intro l
   induction l with
   |nil=>intro _;simp
   |cons z l ih=>
    intro hh;have i2:=ih fun u hu=>hh u (Qg _ hu);have hz:=hh z Qe;rw[Q7,Q7];cases hqz:q z with
    |false=>cases p z<;>simp<;>lia
    |true=>rw[hz hqz];simp;lia
  have tl:∀u∈l,q u=true->p u=true:=fun u hu=>h u (Qg _ hu);rw[Q7,Q7];rcases Qk.mp hx with rfl | hx
  ·rw[hp,hq];have:=le l tl;simp;lia
  ·have ih:=filter_lt p q l tl ⟨x,hx,hp,hq⟩;cases hqy:q y with
   |false=>cases p y<;>simp<;>lia
   |true=>rw[h y Qe hqy];simp;lia
theorem zN{ts:List Tie}{a b:Int}(S:Int->Int)(c:Con ts a b)(h:S a≠S b):∃t∈ts,S t.a≠S t.b:=by
 apply Classical.byContradiction;intro hc;have all:∀t∈ts,S t.a=S t.b:=fun t ht=>Classical.byContradiction fun z=>hc ⟨t,ht,z⟩;have key:∀{x y:Int},Con ts x y->S x=S y:=fun c=>by
  induction c with
  |refl x=>rfl
  |tie t m=>exact all t m
  |symm _ ih=>exact ih.symm
  |trans _ _ i1 i2=>exact i1.trans i2
 exact h (key c)
theorem tF:∀(k:Nat) (l:List (Tie×Int)),(∀j:Int,1<=j->j<=k->∃p∈l,p.2=j)->k<=l.length
 |0,l,_=>QM _
 |k+1,l,h=>by
  obtain⟨p,hp,ep⟩:=h ((k+1:Nat):Int) (by lia) (by lia);have ih:=tF k (l.filter fun p=>decide (p.2≠((k+1:Nat):Int))) fun j j1 j2=>by obtain⟨q,hq,eq⟩:=h j j1 (by lia);exact⟨q,Ri.mpr ⟨hq,decide_eq_true (by lia)⟩,eq⟩
  have:=filter_lt (fun _=>true) (fun p:Tie×Int=>decide (p.2≠((k+1:Nat):Int))) l (fun _ _ _=>rfl) ⟨p,hp,rfl,by simp[ep]⟩;have:=R0 (fun _:Tie×Int=>true) l
  lia
noncomputable def gj(S:Int->Int)(t:Int)(r:List Tie):List Tie:=r.filter fun x=>decide (t<=x.m)&&decide (S x.a≠S x.b)
theorem pT(k:Nat)(n:Int)(S:Int->Int)(t0:Int):∀(r:List Tie) (ms:List Int) (lo:Int),Good n lo r->bI k r ms->gj S t0 (keep r ms)=gj S t0 r\/k<=(gj S t0 (keep r ms)).length
 |[],[],_,_,_=>.inl rfl
 |t::r,m::ms,lo,hg,ha=>by
  obtain⟨g1,g2,g3,g4,g5⟩:=hg;rcases pT k n S t0 r ms (t.m+1) g5 ha.1 with ih | ih
  ·rw[dU];by_cases h0:0<m
   ·rw[if_pos h0];left;unfold gj at ih ⊢;rw[Q7,Q7,ih]
   ·rw[if_neg h0];by_cases hc:(decide (t0<=t.m)&&decide (S t.a≠S t.b))=true
    ·right;rw[QJ,decide_eq_true_eq,decide_eq_true_eq]at hc;have hm:∀j:Int,1<=j->j<=k->Con (lay r ms j) t.a t.b:=by
      rcases ha.2 with⟨_,h⟩ | ⟨h1,_⟩
      ·exact h
      ·lia
     have e:gj S t0 (keep r ms)=((r.zip ms).filter fun p=>decide (0<p.2)&&(decide (t0<=p.1.m)&&decide (S p.1.a≠S p.1.b))).map (·.1):=by
      unfold gj keep;rw[List.filter_map,List.filter_filter]
      congr 2
      funext p
      simp[Bool.and_comm]
     rw[e,Dp];refine tF k _ fun j j1 j2=>?_;obtain⟨u,hu,hs⟩:=zN S (hm j j1 j2) hc.2;have hz:=FH hu;have hur:u∈r:=(Ss hz).1;have:=Good.lo g5 u hur;refine⟨(u,j),Ri.mpr ⟨hz,?_⟩,rfl⟩;simp only[QJ,decide_eq_true_eq];exact⟨by lia,by lia,hs⟩
    ·left;have hf:(decide (t0<=t.m)&&decide (S t.a≠S t.b))=false:=by cases hq:(decide (t0<=t.m)&&decide (S t.a≠S t.b)) with | false=>rfl | true=>exact absurd hq hc
     unfold gj at ih ⊢;rw[Q7,hf,ih];simp
  ·right;rw[dU];by_cases h0:0<m
   ·rw[if_pos h0];unfold gj at ih ⊢;rw[Q7];split
    ·rw[QT];lia
    ·exact ih
   ·rw[if_neg h0];exact ih
 |[],_::_,_,_,h=>h.elim
 |_::_,[],_,_,h=>h.elim
theorem FO(r:List Tie)(hl:r.length<=1000)(S:List Int):xQ [aD r,tupI S]=some (.new (.lst ((fY r S).map Dat.int))):=by
 apply TQ;unfold xQ
 (refine Dm.Tz ?_ rfl rfl;and_intros)
 refine TL ?_;refine Ve bG r (ovr S) (·.m) Dat.int (d:=aD r) ?_ rfl rfl rfl (by decide) (by unfold SZ;lia) (fun u _=>?_) fun u _ _=>?_
 ·rfl
 ·refine TF (S_ (S_ (S_ (Q_ rfl (Tj (To (v:=.int u.a) ?_ rfl rfl rfl))))));refine Q_ rfl (UG (xs:=S) ?_ rfl rfl);refine S_ (S_ (Q_ rfl (Tj (To (v:=.int u.b) ?_ rfl rfl rfl))));refine Q_ rfl (UG (xs:=S) ?_ rfl rfl);exact US (Tp ⟨rfl,rfl⟩) rfl rfl
 ·exact S_ (Q_ rfl (Tj (To (v:=.int u.m) (Tw ⟨rfl,rfl⟩) rfl rfl rfl)))
theorem zO(r:List Tie)(hl:r.length<=1000)(t:Int):sN [aD r,.int t]=some (.new (aD (cu r t))):=by
 have:sN=mw:=by unfold sN mw;rfl
 rw[this];exact mK r hl t
noncomputable def b4:Nat->List (List Int)
 |0=>[[]]
 |p+1=>b4 p++(b4 p).map fun S=>S++[((p+1:Nat):Int)]
theorem jO:∀p,(b4 p).length=2 ^ p
 |0=>rfl
 |p+1=>by rw[b4,Qn,Dp,jO p,Nat.pow_succ];lia
theorem mL:∀(p:Nat) (S:List Int),S∈b4 p->(∀x∈S,1<=x/\x<=p)/\S.length<=p
 |0,S,h=>by rw[b4]at h;have:=Qo.mp h;subst this;refine⟨fun x hx=>?_,Qf _⟩;cases hx
 |p+1,S,h=>by
  rw[b4]at h;rcases Qu.mp h with h | h
  ·obtain⟨a,b⟩:=mL p S h;exact⟨fun x hx=>⟨(a x hx).1,by have:=(a x hx).2;lia⟩,by lia⟩
  ·obtain⟨T,hT,rfl⟩:=Qp.mp h;obtain⟨a,b⟩:=mL p T hT;refine⟨fun x hx=>?_,by rw[Qn];simp;lia⟩;rcases Qu.mp hx with hx | hx
   ·exact⟨(a x hx).1,by have:=(a x hx).2;lia⟩
   ·rw[Qo.mp hx];lia
theorem gH:∀p,∃r,b4 p=[]::r/\∀S∈r,S≠[]
 |0=>⟨[],rfl,fun S h=>by cases h⟩
 |p+1=>by
  obtain⟨r,e,h⟩:=gH p;refine⟨r++(b4 p).map fun S=>S++[((p+1:Nat):Int)],by rw[b4,e];rfl,fun S hS=>?_⟩;rcases Qu.mp hS with hS | hS
  ·exact h S hS
  ·obtain⟨T,_,rfl⟩:=Qp.mp hS;simp
theorem NG{p:Nat}(h:p<=9):2 ^ p<=512:=Nat.pow_le_pow_right (by decide) h
theorem zP(S:List Int)(x:Int){ρ:Env}{a b:FE}{Q:Val->Env->Prop}(ha:a ρ=some (.val (tupI S),ρ))(hb:b ρ=some (.val (.int x),ρ))(hl:S.length<=20)(q:Q (.val (tupI (S++[x]))) ρ):We (e2 pM a (eU [b])) ρ Q:=by refine S_ ⟨_,_,ha,Ur (m_ ⟨_,_,hb,R_ (TU ?_ rfl rfl (by show 1<=SZ;unfold SZ;lia))⟩)⟩;refine⟨_,_,_,rfl,rfl,(show pM (tupI S) (.tup [.int x])=some (.val (tupI (S++[x]))) from ?_),q⟩;show (if (S.map Dat.int).length+1<=SZ then some (RV.val (.tup (S.map Dat.int++[.int x]))) else none)=_;rw[if_pos (by rw[Dp];unfold SZ;lia)];show _=some (RV.val (.tup ((S++[x]).map Dat.int)));rw[Qq];rfl
theorem zQ(n:Nat)(n1:1<=n)(n10:n<=10):xR [.int (n:Nat)]=some (.new (.lst ((b4 (n-1)).tail.map tupI))):=by
 apply TQ;unfold xR
 (refine Dm.Tz ?_ rfl rfl;and_intros)
 refine Tn (Tt (T_ (m_ (Ur (R_ (TU (R_ (TU (TN ?_ (by trivial)) rfl rfl (by decide))) rfl rfl (by decide)))))) (by decide));refine Tn (T8 (U_ (Tj (bV.mk (Q_ rfl (bV.mk ⟨?_,by unfold BIG;lia⟩))))));rw[show ((n:Int)-1).toNat=n-1 by lia,xZ];refine T9 (fun i:Nat=>Dat.int (1+(i:Int))) _ _ (Qs (n-1)) _ _ _ _ _ (fun p q ρ=>∃c2:Cell,ρ=[.sh (.int (n:Nat)),.ow (.lst ((b4 p.length).map tupI)),c2]) ⟨_,rfl⟩ ?_ ?_
 ·rintro p i q ρ e ⟨c2,rfl⟩;obtain⟨hi,hin⟩:=mJ e;have hb:=NG (p:=p.length) (by lia);refine Dm.bU rfl (by trivial) ?_;unfold BQ;refine Tt (S_ (TV rfl ?_)) (by decide);refine UW tupI (b4 p.length) (fun S=>S++[((p.length+1:Nat):Int)]) tupI ?_ rfl (by trivial) rfl (by decide) (by rw[jO];unfold SZ;lia) fun S hS=>?_
  ·refine UZ (TN ⟨.sh (.int (1+(i:Int))),?_⟩ (by trivial)) rfl rfl (by rw[Dp,Dp,Dp,jO];unfold SZ;lia);rw[Qn,<- Qq];rfl
  ·refine zP S _ rfl rfl (by have:=(mL _ S hS).2;lia) (Tw ⟨?_,rfl⟩);rw[hi,show (1+(p.length:Int))=((p.length+1:Nat):Int) by lia]
 ·rintro ρ ⟨c2,rfl⟩;rw[QG];refine TL (Vc (TV rfl (Wp.some (Tj (bV.mk (Wp.none (Wsl.A (sD:=tupI) (xs:=b4 (n-1)) (UB ?_) rfl)))))));obtain⟨r,er,_⟩:=gH (n-1);rw[er];show _=_
  congr 2
  unfold zm;have e1:(min (1:Int) ((r.length:Int)+1)).toNat=1:=by lia
  simp[sIx,e1]
theorem Ku{n:Int}{k j:Nat}(jk:j<=k){r:List Tie}{ms:List Int}(g:Good n 0 r)(al:bI k r ms)(a b t:Int):Hg (cu (keep r ms) t) j a b↔Hg (cu r t) j a b:=by
 refine⟨fun h=>h.up ((jh r ms).filter _),fun h S hs=>?_⟩;have key:=pT k n (fun x=>if S x then 1 else 0) t r ms 0 g al;have ec:∀q:List Tie,(gj (fun x=>if S x=true then (1:Int) else 0) t q).length=ck (cu q t) S:=fun q=>by
  unfold gj ck cu;rw[List.filter_filter]
  congr 1
  refine SS fun x _=>?_;rw[Bool.and_comm]
  congr 1
  unfold over;rw[Sa,decide_eq_true_iff];by_cases h1:S x.a=true<;>by_cases h2:S x.b=true<;>simp[h1,h2]
 have h1:=h S hs;rcases key with e | e
 ·have:=congrArg List.length e;rw[ec,ec]at this
  lia
 ·rw[ec]at e
  lia
noncomputable def ofS(S:Int->Bool):Nat->List Int
 |0=>[]
 |p+1=>ofS S p++if S ((p+1:Nat):Int)=true then [((p+1:Nat):Int)] else []
theorem qQ(S:Int->Bool):∀p,ofS S p∈b4 p
 |0=>by simp[ofS,b4]
 |p+1=>by
  rw[ofS,b4];cases S ((p+1:Nat):Int) with
  |true=>exact QH _ (Qp.mpr ⟨_,qQ S p,rfl⟩)
  |false=>exact QK _ (by simpa using qQ S p)
theorem B_(S:Int->Bool)(x:Int):∀p:Nat,x∈ofS S p↔1<=x/\x<=p/\S x=true
 |0=>by simp[ofS];lia
 |p+1=>by
  rw[ofS,Qu,B_ S x p];cases h:S ((p+1:Nat):Int) with
  |true=>
   rw[if_pos rfl,Qo];constructor
   ·rintro(⟨h1,h2,h3⟩ | rfl)
    ·exact⟨h1,by lia,h3⟩
    ·exact⟨by lia,Sk _,h⟩
   ·rintro⟨h1,h2,h3⟩;by_cases e:x=((p+1:Nat):Int)
    ·exact .inr e
    ·exact .inl ⟨h1,by lia,h3⟩
  |false=>
   rw[if_neg QE];constructor
   ·rintro(⟨h1,h2,h3⟩ | h1)
    ·exact⟨h1,by lia,h3⟩
    ·cases h1
   ·rintro⟨h1,h2,h3⟩;refine .inl ⟨h1,?_,h3⟩;by_cases e:x=((p+1:Nat):Int)
    ·subst e;rw[h]at h3;cases h3
    ·lia
theorem jP(r:List Tie)(L:List Int):(fY r L).length=ck r fun q=>decide (q∈L):=by unfold fY ck;rw[Dp];rfl
theorem tG{r:List Tie}{S T:Int->Bool}(h:∀t∈r,S t.a=T t.a/\S t.b=T t.b):ck r S=ck r T:=by
 unfold ck
 congr 1
 refine SS fun t ht=>?_;unfold over;rw[(h t ht).1,(h t ht).2]
theorem Ca{n:Nat}{r:List Tie}(hr:Ends n r){a b:Int}(a0:0<=a)(a1:a<n)(b0:0<=b)(b1:b<n)(Px:a≠b)(j:Nat) :
  (j<=r.length/\∀L∈(b4 (n-1)).tail,decide (a∈L)≠decide (b∈L)->j<=(fY r L).length)↔Hg r j a b:=by
 obtain⟨q,eq,neq⟩:=gH (n-1);have side:∀S:Int->Bool,S 0=false->S a≠S b->∃L∈(b4 (n-1)).tail,decide (a∈L)≠decide (b∈L)/\(fY r L).length=ck r S:=fun S s0 hs=>by
  have mem:∀x:Int,0<=x->x<n->decide (x∈ofS S (n-1))=S x:=fun x x0 x1=>by
   rw[Sa,decide_eq_true_iff,B_];constructor
   ·exact fun h=>h.2.2
   ·intro h;refine⟨?_,by lia,h⟩;by_cases e:x=0
    ·subst e;rw[s0]at h;cases h
    ·lia
  refine⟨ofS S (n-1),?_,?_,?_⟩
  ·have:=qQ S (n-1);rw[eq]at this ⊢;rcases Qk.mp this with h | h
   ·exfalso;have ha:=mem a a0 a1;have hb:=mem b b0 b1;rw[h]at ha hb;simp at ha hb;rw[ha,hb]at hs;exact hs rfl
   ·exact h
  ·rw[mem a a0 a1,mem b b0 b1];exact hs
  ·rw[jP];exact tG fun t ht=>by obtain⟨h1,h2,h3,h4⟩:=hr t ht;exact⟨mem _ h1 h2,mem _ h3 h4⟩
 constructor
 ·rintro⟨_,h⟩ S hs;cases s0:S 0 with
  |false=>obtain⟨L,h1,h2,h3⟩:=side S s0 hs;rw[<- h3];exact h L h1 h2
  |true=>obtain⟨L,h1,h2,h3⟩:=side (fun x=>!S x) (by rw[s0];rfl) (fun e=>hs (by simpa using e));rw[<- jN r S,<- h3];exact h L h1 h2
 ·intro h;refine⟨?_,fun L _ hL=>?_⟩
  ·have:=h (fun x=>decide (x=a)) (by
    rw[decide_eq_true (rfl:a=a),decide_eq_false (fun e:b=a=>Px e.symm)];decide)
   exact QO this (R0 _ _)
  ·rw[jP];exact h _ hL
theorem FP{n:Nat}(n1:1<=n)(n10:n<=10){r:List Tie}(hr:Ends n r)(hl:r.length<=60){a b:Int}(a0:0<=a)(a1:a<n)(b0:0<=b)(b1:b<n)(Px:a≠b) :
  ∃m:Nat,sP [.int (n:Nat),aD r,.int a,.int b]=some (.val (.int (m:Nat)))/\∀j:Nat,j<=m↔Hg r j a b:=by
 suffices hh:Wr (sP [.int (n:Nat),aD r,.int a,.int b]) fun v=>∃m:Nat,v=.val (.int (m:Nat))/\∀j:Nat,j<=m↔Hg r j a b by obtain⟨v,h1,m,rfl,h2⟩:=hh;exact⟨m,h1,h2⟩
 unfold sP
 (refine Dm.Tz ?_ rfl rfl;and_intros)
 refine Tn (Tt (TR (m_ (Q_ rfl (R_ (Up (sD:=bG) (xs:=r) (Tq ?_ (by trivial)) rfl))))) (by decide));refine Tn (T8 ?_);refine UU (Tu (m_ (Q_ rfl (R_ (TM (zQ n n1 n10) (Ux (fR ?_)) rfl rfl rfl rfl)))));refine T9 tupI _ _ (b4 (n-1)).tail _ _ _ _ _ (fun p q ρ=>∃(m:Nat) (c5:Cell),ρ=[.sh (.int (n:Nat)),.sh (aD r),.sh (.int a),.sh (.int b),.sh (.int (m:Nat)),c5]/\∀j:Nat,j<=m↔(j<=r.length/\∀L∈p,decide (a∈L)≠decide (b∈L)->j<=(fY r L).length)) ⟨r.length,_,rfl,fun j=>by simp⟩ ?_ ?_
 ·rintro p L q ρ e ⟨m,c5,rfl,hm⟩;refine Dm.bU rfl (by trivial) ?_;unfold BR;refine TX (TF (S_ (S_ (Q_ rfl (Q_ rfl (UG (xs:=L) ?_ rfl rfl))))));refine S_ (Q_ rfl (Q_ rfl (UG (xs:=L) ?_ rfl rfl)));refine US (Tp ?_) rfl rfl;refine⟨fun c=>?_,fun c=>?_⟩
  ·have hs:decide (a∈L)≠decide (b∈L):=by simpa using c
   refine Tt ?_ (by decide);refine TR (m_ (Q_ rfl (m_ (TR (m_ (Tu (m_ (Q_ rfl (m_ (Q_ rfl (R_ (TM (FO r (by lia) L) ?_ rfl rfl rfl rfl))))))))))));refine R_ (Up (sD:=Dat.int) (xs:=fY r L) (R_ (Uh (Tq ?_ (by trivial)) rfl)) rfl);refine⟨min m (fY r L).length,.sh (tupI L),?_,fun j=>?_⟩
   ·have:(if ((fY r L).length:Int)<(m:Nat) then ((fY r L).length:Int) else (m:Nat))=((min m (fY r L).length:Nat):Int):=by split<;>lia
    rw[this]
   ·rw[Nat.le_min,hm j];constructor
    ·rintro⟨⟨h1,h2⟩,h3⟩;refine⟨h1,fun M hM hd=>?_⟩;rcases Qu.mp hM with z | z
     ·exact h2 M z hd
     ·rw[Qo.mp z];exact h3
    ·rintro⟨h1,h2⟩;exact⟨⟨h1,fun M hM hd=>h2 M (QK _ hM) hd⟩,h2 L (by simp) hs⟩
  ·have hs:decide (a∈L)=decide (b∈L):=by simpa using c
   refine TY ⟨m,_,rfl,fun j=>?_⟩;rw[hm j];refine and_congr Iff.rfl ⟨fun h M hM hd=>?_,fun h M hM hd=>h M (QK _ hM) hd⟩;rcases Qu.mp hM with z | z
   ·exact h M z hd
   ·rw[Qo.mp z]at hd;exact absurd hs hd
 ·rintro ρ ⟨m,c5,rfl,hm⟩;refine TL (Q_ rfl (Uc ⟨m,rfl,fun j=>?_⟩));rw[hm j];exact Ca hr a0 a1 b0 b1 Px j
open Classical in
noncomputable def TH(r:List Tie)(j:Nat)(a b:Int):Bool:=decide (Hg r j a b)
theorem TH.iff{r:List Tie}{j:Nat}{a b:Int}:TH r j a b=true↔Hg r j a b:=by unfold TH;simp
theorem TH.of{r:List Tie}{j:Nat}{a b:Int}{c:Bool}(h:c=true↔Hg r j a b):TH r j a b=c:=by rw[Sa,TH.iff,h]
structure Eqv(T:Int->Int->Bool):Prop where
 refl:∀a,T a a=true
 symm:∀a b,T a b=true->T b a=true
 trans:∀a b c,T a b=true->T b c=true->T a c=true
theorem TH.eqv(r:List Tie)(j:Nat):Eqv (TH r j):=⟨fun a=>TH.iff.mpr fun S hs=>absurd rfl hs,fun a b h=>TH.iff.mpr (TH.iff.mp h).symm,fun a b c h k=>TH.iff.mpr ((TH.iff.mp h).trans (TH.iff.mp k))⟩
noncomputable def hd(r:List Int):Int:=r.headD 0
theorem Cb{r:List Int}(h:r≠[])(q:List Int):hd (r++q)=hd r:=by
 cases r with
 |nil=>exact absurd rfl h
 |cons x r=>rfl
noncomputable def kF(rows:List (List Int))(i:Int):Option Nat->List (List Int)
 |none=>rows++[[i]]
 |some m=>rows.set m ((rows[m]?).getD []++[i])
noncomputable def qR(T:Int->Int->Bool)(rows:List (List Int))(i:Int):Option Nat:=(rows.map hd).findIdx? fun x=>T x i
noncomputable def grT(T:Int->Int->Bool):Nat->List (List Int)
 |0=>[]
 |i+1=>kF (grT T i) i (qR T (grT T i) i)
structure GV(T:Int->Int->Bool)(i:Nat)(rows:List (List Int)):Prop where
 ne:∀r∈rows,r≠[]
 lo:∀r∈rows,0<=hd r/\hd r<i
 un:(rows.map hd).Pairwise fun a b=>T a b=false
 len:rows.length<=i
 rl:∀r∈rows,r.length<=i
theorem GV.heads{T:Int->Int->Bool}{i:Nat}{rows:List (List Int)}(h:GV T i rows){m:Nat}{r:List Int}(e:rows[m]?=some r)(x:Int):(rows.set m (r++[x])).map hd=rows.map hd:=by
 rw[List.map_set,Cb (h.ne r (QL e))];refine RX fun k=>?_;rw[RM];by_cases q:m=k
 ·subst q;rw[if_pos rfl,Qm,e];have:=(PU.mp e).1;simp[this]
 ·rw[if_neg q]
theorem vO{T:Int->Int->Bool}{rows:List (List Int)}{i:Int}{m:Nat}(h:qR T rows i=some m):∃r,rows[m]?=some r:=by unfold qR at h;have:=(List.findIdx?_eq_some_iff_getElem.mp h).1;rw[Dp]at this;exact⟨_,Ql this⟩
theorem GV.step{T:Int->Int->Bool}{i:Nat}{rows:List (List Int)}(h:GV T i rows):GV T (i+1) (kF rows i (qR T rows i)):=by
 cases hf:qR T rows i with
 |none=>
  have hn:=Sd.mp hf;refine⟨fun r hr=>?_,fun r hr=>?_,?_,?_,fun r hr=>?_⟩
  ·rcases Qu.mp hr with hr | hr
   ·exact h.ne r hr
   ·rw[Qo.mp hr];simp
  ·rcases Qu.mp hr with hr | hr
   ·have:=h.lo r hr;lia
   ·rw[Qo.mp hr];show 0<=(i:Int)/\(i:Int)<_
    lia
  ·show ((rows++[[(i:Int)]]).map hd).Pairwise _;rw[Qq,List.pairwise_append];refine⟨h.un,by simp,fun a ha b hb=>?_⟩;have:b=(i:Int):=by simpa [hd] using hb
   rw[this]
   simpa using hn a ha
  ·show (rows++[_]).length<=_;rw[Qn];have:=h.len;simp;lia
  ·rcases Qu.mp hr with hr | hr
   ·have:=h.rl r hr;lia
   ·rw[Qo.mp hr];simp
 |some m=>
  obtain⟨r0,e0⟩:=vO hf;have e:kF rows (i:Int) (some m)=rows.set m (r0++[(i:Int)]):=by show rows.set m (rows[m]?.getD []++[(i:Int)])=_;rw[e0];rfl
  have h0:=h.ne r0 (QL e0);rw[e];refine⟨fun r hr=>?_,fun r hr=>?_,by rw[h.heads e0];exact h.un,by rw[QC];have:=h.len;lia,fun r hr=>?_⟩
  ·rcases Se hr with hr | hr
   ·exact h.ne r hr
   ·rw[hr];simp
  ·rcases Se hr with hr | hr
   ·have:=h.lo r hr;lia
   ·rw[hr,Cb h0];have:=h.lo r0 (QL e0);lia
  ·rcases Se hr with hr | hr
   ·have:=h.rl r hr;lia
   ·rw[hr,Qn];have:=h.rl r0 (QL e0);simp;lia
theorem jj(T:Int->Int->Bool):∀i,GV T i (grT T i)
 |0=>⟨(fun r hr=>by cases hr),(fun r hr=>by cases hr),.nil,Qf _,fun r hr=>by cases hr⟩
 |i+1=>(jj T i).step
theorem Cc{T:Int->Int->Bool}(E:Eqv T){i:Int}:∀{ks:List Int} {m:Nat},ks.Pairwise (fun a b=>T a b=false)->(ks.findIdx? fun x=>T x i)=some m->∃x,ks[m]?=some x/\ks.filter (fun x=>T x i)=[x]
 |[],m,_,h=>by simp at h
 |y::ks,m,hp,h=>by
  rw[Rv]at h;obtain⟨p1,p2⟩:=Rf.mp hp;by_cases q:T y i=true
  ·rw[if_pos q]at h;cases h;refine⟨y,rfl,?_⟩;rw[Q6 (p:=fun x=>T x i) q,List.filter_eq_nil_iff.mpr fun z hz hzi=>?_];have:=p1 z hz;rw[E.trans y i z q (E.symm z i hzi)]at this;cases this
  ·rw[if_neg q]at h;obtain⟨m',h1,rfl⟩:=Rt.mp h;obtain⟨x,e1,e2⟩:=Cc E p2 h1;exact⟨x,by simpa using e1,by rw[Q5 (p:=fun x=>T x i) q];exact e2⟩
theorem at_of{T:Int->Int->Bool}(E:Eqv T){x:Int}:∀{ks:List Int} {m:Nat},ks.Pairwise (fun a b=>T a b=false)->ks[m]?=some x->(ks.findIdx? fun y=>y == x)=some m
 |[],m,_,h=>by simp at h
 |y::ks,0,hp,h=>by simp at h;subst h;rw[Rv,if_pos (by simp)]
 |y::ks,m+1,hp,h=>by
  obtain⟨p1,p2⟩:=Rf.mp hp;have h:ks[m]?=some x:=by simpa using h
  rw[Rv,if_neg ?_,at_of E p2 h]
  ·rfl
  ·intro z;have z:y=x:=by simpa using z
   have:=p1 x (QL h);rw[z,E.refl]at this;cases this
noncomputable def aP(rows:List (List Int)):List (List Dat):=rows.map fun r=>r.map Dat.int
theorem FQ{T:Int->Int->Bool}(E:Eqv T){i:Nat}{rows:List (List Int)}(h:GV T i rows)(i40:i<=40):qy (rows.map hd) (aP rows) (j8 ((rows.map hd).filter fun x=>T x i) i) (.int (i:Nat))=some ((kF rows i (qR T rows i)).map hd,aP (kF rows i (qR T rows i))):=by
 have l2:=h.len;cases hf:qR T rows i with
 |none=>
  have hn:=Sd.mp hf;have e:(rows.map hd).filter (fun x=>T x i)=[]:=List.filter_eq_nil_iff.mpr fun x hx z=>by have:=hn x hx;rw[z]at this;cases this
  rw[e];show qy _ _ (i:Int) _=_;unfold qy;have e2:(rows.map hd).findIdx? (· == (i:Int))=none:=Sd.mpr fun x hx=>by obtain⟨r,hr,rfl⟩:=Qp.mp hx;have:=h.lo r hr;simp;lia
  rw[e2];dsimp only;rw[if_pos (by rw[Dp];unfold SZ;lia)];show some (_,_)=some ((rows++[[(i:Int)]]).map hd,aP (rows++[[(i:Int)]]));unfold aP;rw[Qq,Qq];rfl
 |some m=>
  obtain⟨r0,e0⟩:=vO hf;obtain⟨x,e1,e2⟩:=Cc E h.un hf;rw[Qm,e0]at e1;cases e1;rw[e2];show qy _ _ (hd r0) _=_;unfold qy;rw[at_of E h.un (x:=hd r0) (m:=m) (by rw[Qm,e0];rfl)];dsimp only;have e3:(aP rows)[m]?=some (r0.map Dat.int):=by unfold aP;rw[Qm,e0];rfl
  rw[e3];dsimp only;have:=h.rl r0 (QL e0);rw[if_pos (by rw[Dp];unfold SZ;lia)];have e:kF rows (i:Int) (some m)=rows.set m (r0++[(i:Int)]):=by show rows.set m (rows[m]?.getD []++[(i:Int)])=_;rw[e0];rfl
  rw[e,h.heads e0];unfold aP;rw[List.map_set,Qq];rfl
theorem Vx{j:Nat}{it:FI}{bd:FB}{hx k vx:Nat}{t:FT}{ky:FE}{g:FS}{ρ:Env}{N:Env->Prop}{R:RV->Env->Prop}{B C:Env->Prop}(h0:¬(j=0\/hx=0\/j=hx))(h:Wi it (ρ.set j .un) fun ds ρ1=>∃ρ2 ks rows,qB bd hx k vx t ky ds ρ1 [] []=some (ρ2,ks,rows)/\Ws g (ρ2.set j (.ow (.dct ks (rows.map .lst)))) N R B C):Ws (zk j it bd hx k vx t ky g) ρ N R B C:=by obtain⟨ds,ρ1,h1,ρ2,ks,rows,h2,o,h3,h4⟩:=h;exact⟨o,by unfold zk;rw[if_neg h0,h1];dsimp only;rw[h2];exact h3,h4⟩
noncomputable abbrev clT:FT:=tV (eF zw [(e2 gIx (eV 0) (eC (.int 0))),(eV 3),(eV 7),(eV 5),(eV 1)])
noncomputable abbrev clK:FE:=eB l6 ([(eV 6)]++[(eV 5)])
noncomputable abbrev clE(n k:Nat)(N r:List Tie)(j:Nat)(t:Dat)(c5 c6:Cell):Env:=[.sh (gG n k N),.sh (.int (j:Nat)),.sh t,.ow (aD r),.un,c5,c6]
theorem Cd{n k:Nat}(n10:n<=10)(N:List Tie){r:List Tie}(hF:Fit n r){j:Nat}(j6:j<=6)(t:Dat):∀(m i:Nat) (c5 c6:Cell),i+m<=n ->
  ∃c5' c6',qB (bN 5) 6 7 5 clT clK ((Sm i m).map fun x:Nat=>Dat.int (x:Nat)) (clE n k N r j t c5 c6) ((grT (TH r j) i).map hd) (aP (grT (TH r j) i))=some (clE n k N r j t c5' c6',(grT (TH r j) (i+m)).map hd,aP (grT (TH r j) (i+m)))
 |0,i,c5,c6,_=>⟨c5,c6,rfl⟩
 |m+1,i,c5,c6,him=>by
  have h:=jj (TH r j) i;have h2:=h.len;rw[List.range'_succ,Qa];unfold qB;have e1:bN 5 (.int (i:Nat)) (clE n k N r j t c5 c6)=some (clE n k N r j t (.sh (.int (i:Nat))) c6):=rfl;rw[e1];dsimp only;rw[if_pos (show ((grT (TH r j) i).map hd).length<=SZ by rw[Dp];unfold SZ;lia)];have ht:∀x∈(grT (TH r j) i).map hd,clT (clE n k N r j t (.sh (.int (i:Nat))) c6++[.sh (.int x)])=some (TH r j x (i:Nat),clE n k N r j t (.sh (.int (i:Nat))) c6++[.sh (.int x)]):=fun x hx=>by obtain⟨q,hq,rfl⟩:=Qp.mp hx;obtain⟨x0,x1⟩:=h.lo q hq;obtain⟨c,e,ec⟩:=NF hF x0 (by lia) (show (0:Int)<=(i:Nat) by lia) (by lia) (k:=j) j6;rw[TH.of ⟨ec.1,fun z=>by cases c with | true=>rfl | false=>exact absurd z (ec.2 rfl)⟩];refine Uu (TF (Tu (m_ (S_ (Q_ rfl (Tj (To (v:=.int n) ?_ rfl rfl rfl)))))));exact m_ (TV rfl (m_ (Q_ rfl (m_ (Q_ rfl (m_ (Q_ rfl (R_ (TJ e (Tp ⟨rfl,rfl⟩) rfl rfl)))))))))
  obtain⟨c',e2⟩:=sC Dat.int (fun x=>TH r j x (i:Nat)) Dat.int (bN 7) clT (eV 7) (fun c=>clE n k N r j t (.sh (.int (i:Nat))) c6++[c]) (fun d c=>rfl) ((grT (TH r j) i).map hd) .un [] ht (fun x hx _=>Q_ rfl (Tw ⟨rfl,rfl⟩));rw[e2];dsimp only;rw[Ry];have e3:clK (((clE n k N r j t (.sh (.int (i:Nat))) c6++[c']).take (clE n k N r j t (.sh (.int (i:Nat))) c6).length).set 6 (.ow (.lst ((((grT (TH r j) i).map hd).filter fun x=>TH r j x (i:Nat)).map Dat.int)))) =
    some (.val (.int (j8 (((grT (TH r j) i).map hd).filter fun x=>TH r j x (i:Nat)) (i:Nat))),clE n k N r j t (.sh (.int (i:Nat))) (.ow (.lst ((((grT (TH r j) i).map hd).filter fun x=>TH r j x (i:Nat)).map Dat.int)))):=
   Vm (TR (m_ (TV rfl (m_ (Q_ rfl (R_ (Vu ⟨rfl,rfl⟩ rfl)))))))
  rw[e3];dsimp only;have e4:=FQ (TH.eqv r j) h (by lia);obtain⟨d5,d6,e5⟩:=Cd n10 N hF j6 t m (i+1) (.sh (.int (i:Nat))) (.ow (.lst ((((grT (TH r j) i).map hd).filter fun x=>TH r j x (i:Nat)).map Dat.int))) (by lia);refine⟨d5,d6,?_⟩;show (match qy _ _ _ (.int (i:Nat)) with | some (ks1,sr)=>_ | none=>none)=_;rw[e4];rw[show i+(m+1)=i+1+m by lia];exact e5
noncomputable def eS(mss:List (List Int)):Dat:=.lst (mss.map fun ms=>.tup (ms.map Dat.int))
theorem Hl(n:Nat):ups 0 ((n:Nat):Int).toNat=(Sm 0 n).map fun x:Nat=>Dat.int (x:Nat):=by rw[SV,<- List.range_eq_range'];unfold ups;exact R7 fun x _=>by rw[S0]
theorem gI{n k j:Nat}(n1:1<=n)(n10:n<=10)(k1:1<=k)(k6:k<=6)(j1:1<=j)(jk:j<=k){N:List Tie}(h:Net n k N)(t:Int):kg [gG n k N,.int (j:Nat),.int t]=some (.new (eS (grT (TH (cu N t) j) n))):=by
 have lN:=h.rc.len;apply TQ;unfold kg
 (refine Dm.Tz ?_ rfl rfl;and_intros)
 refine Tn (UC (Tu (m_ (Q_ rfl (m_ (Q_ rfl (R_ (TJ (oQ n1 n10 k1 k6 j1 jk h) ?_ rfl rfl))))))));refine Tn (Tt (Tu (m_ (S_ (Q_ rfl (Tj (To (v:=aD N) ?_ rfl rfl rfl)))))) (by decide));refine m_ (Q_ rfl (R_ (TM (mK N (by lia) t) (TN ?_ (by trivial)) rfl rfl rfl rfl)));have hF:Fit n (cu N t):=(h.rc.fit n10).sub Sy;refine Vx (by decide) (Um (S_ (Q_ rfl (Tj (To (v:=.int n) (bV.mk ⟨?_,by unfold BIG;lia,by unfold BIG;lia⟩) rfl rfl rfl)))));obtain⟨c5,c6,e⟩:=Cd (k:=k) n10 N hF (j:=j) (by lia) (.int t) n 0 .un .un (by lia);rw[SY]at e;rw[Hl];refine⟨_,_,_,e,?_⟩;have gv:=jj (TH (cu N t) j) n
 generalize grT (TH (cu N t) j) n=rows at gv
 refine TL (UH Dat.lst (aP rows) (fun row=>row) Dat.tup (ρ1:=[.sh (gG n k N),.sh (.int (j:Nat)),.sh (.int t),.ow (aD (cu N t)),.un,c5,c6]) ?_ rfl rfl (by decide) (by unfold aP;rw[Dp];have:=gv.len;unfold SZ;lia) fun row hr=>?_)
 ·refine UB ?_;unfold eS aP;rw[QX,QX];rfl
 ·exact TR (m_ (Q_ rfl (R_ (Uz (xs:=row) (Tw ⟨rfl,rfl⟩) rfl))))
theorem kU(mss:List (List Int)):eqD (eS mss) (eS mss)=true:=by
 have h3:∀l:List Int,jy (l.map Dat.int) (l.map Dat.int)=true:=fun l=>by
  induction l with
  |nil=>rfl
  |cons x l ih=>rw[Qa,jy,ih];simp[eqD]
 unfold eS;rw[eqD]
 induction mss with
 |nil=>rfl
 |cons b bs ih=>rw[Qa,jy,ih,eqD,h3];rfl
theorem x8(ms:List Int)(k:Nat):(ms.map Dat.int).all (okD (k+1))=true:=by rw[Q3];intro x hx;obtain⟨i,_,rfl⟩:=Qp.mp hx;rfl
theorem kW(mss:List (List Int)):okD 8 (eS mss)=true:=by unfold eS okD;rw[Q3];intro x hx;obtain⟨i,_,rfl⟩:=Qp.mp hx;rw[okD];exact x8 i _
theorem FU(mss:List (List Int)):okD 8 (.lst ((aP mss).map .lst))=true:=by unfold aP okD;rw[Q3];intro x hx;rw[QX]at hx;obtain⟨i,_,rfl⟩:=Qp.mp hx;show okD 7 (.lst (i.map Dat.int))=true;rw[okD];exact x8 i _
theorem Vk{j:Nat}{Fz:FN}{ρ ρ3:Env}{r:List (List Dat)}{N:Env->Prop}{R:RV->Env->Prop}{B C:Env->Prop}(h0:j≠0)(h:Fz (ρ.set j .un) []=some (ρ3,r))(k:N (ρ3.set j (.ow (.lst (r.map .lst))))):Ws (su j Fz) ρ N R B C:=
 ⟨.nx _,by unfold su;rw[if_neg h0,h],k⟩
theorem x9{T:Int->Int->Bool}{i:Int}{t:FT}{ρ:Env}:∀{rows:List (List Int)},(∀r∈rows,∃ρ1,t (dH ρ++[.sh (.lst (r.map Dat.int))])=some (T (hd r) i,ρ1))->vE t ρ (aP rows)=some ((rows.map hd).map fun x=>T x i)
 |[],_=>rfl
 |r::rows,h=>by obtain⟨ρ1,e⟩:=h r Qe;show vE t ρ (r.map Dat.int::aP rows)=_;unfold vE;rw[e];dsimp only;rw[x9 fun q hq=>h q (Qg _ hq)];rfl
theorem pU{T:Int->Int->Bool}{i:Int}:∀ks:List Int,fE (ks.map fun x=>T x i)=ks.findIdx? fun x=>T x i
 |[]=>rfl
 |x::ks=>by
  rw[Qa,Rv];cases q:T x i with
  |true=>rfl
  |false=>rw[if_neg QE,<- pU ks];rfl
theorem FW(rows:List (List Int))(i:Int)(o:Option Nat)(h:∀m,o=some m->∃r,rows[m]?=some r):Fg (aP rows) (.int i) o=aP (kF rows i o):=by
 unfold aP;cases o with
 |none=>show _++_=_;rw[kF,Qq];rfl
 |some m=>obtain⟨r,e⟩:=h m rfl;show (rows.map _).set m (((rows.map fun r=>r.map Dat.int)[m]?).getD []++_)=(rows.set m ((rows[m]?).getD []++[i])).map _;rw[Qm,e,List.map_set];show _=(rows.map _).set m ((r++[i]).map Dat.int);rw[Qq];rfl
theorem x_{T:Int->Int->Bool}{i ks p:Nat}{t:FT}{ρ:Env}(h0:ks≠0)(hi:i<=40)(hp:ρ[p]?=some (.sh (.int (i:Nat))))(ht:∀r∈grT T i,∃ρ1,t (dH ρ++[.sh (.lst (r.map Dat.int))])=some (T (hd r) i,ρ1)):vF ks p t ρ (aP (grT T i))=some (ρ.set ks .un,aP (grT T (i+1))):=by
 have h:=jj T i;have l:=h.len;have hrl:∀r∈aP (grT T i),r.length<SZ:=fun r hr=>by unfold aP at hr;obtain⟨q,hq,rfl⟩:=Qp.mp hr;have:=h.rl q hq;rw[Dp];unfold SZ;lia
 have hrn:(aP (grT T i)).length<SZ:=by unfold aP;rw[Dp];unfold SZ;lia
 unfold vF;rw[if_neg h0,hp];dsimp only;rw[x9 ht];dsimp only;rw[pU,if_pos ⟨hrn,hrl,FU _⟩];show some (_,Fg _ _ (qR T (grT T i) i))=_;rw[FW _ _ _ fun m hm=>vO (T:=T) (i:=i) hm];rfl
theorem qS{T:Int->Int->Bool}{bd:FB}{body:FN}{E:Cell->Cell->Env}(hb:∀(i:Nat) (c d:Cell),bd (.int (i:Nat)) (E c d)=some (E (.sh (.int (i:Nat))) d)){n:Nat}(hs:∀(i:Nat) (d:Cell),i<n->body (E (.sh (.int (i:Nat))) d) (aP (grT T i))=some (E (.sh (.int (i:Nat))) .un,aP (grT T (i+1)))):∀(m i:Nat) (c d:Cell),i+m<=n->∃c' d',f_ bd body ((Sm i m).map fun x:Nat=>Dat.int (x:Nat)) (E c d) (aP (grT T i))=some (E c' d',aP (grT T (i+m)))
 |0,i,c,d,_=>⟨c,d,rfl⟩
 |m+1,i,c,d,him=>by obtain⟨c',d',e⟩:=qS hb hs m (i+1) (.sh (.int (i:Nat))) .un (by lia);refine⟨c',d',?_⟩;rw[List.range'_succ,Qa];unfold f_;rw[hb i c d];dsimp only;rw[hs i d (by lia)];dsimp only;rw[show i+(m+1)=i+1+m by lia];exact e
theorem tH(rows:List (List Int)):Dat.lst (((aP rows).map fun row=>row).map Dat.tup)=eS rows:=by unfold eS aP;rw[QX,QX];rfl
theorem Ho{r:List Int}(h:r≠[]):gIx (.lst (r.map Dat.int)) (.int 0)=some (.val (.int (hd r))):=by
 cases r with
 |nil=>exact absurd rfl h
 |cons x r=>exact(B5 (x::r) 0 (Sk _) (by simp)).trans rfl
theorem Ce{n j:Nat}(n1:1<=n)(n10:n<=10){r:List Tie}(hr:Ends n r)(hl:r.length<=60):sQ [.int (n:Nat),aD r,.int (j:Nat)]=some (.new (eS (grT (TH r j) n))):=by
 apply TQ;unfold sQ
 (refine Dm.Tz ?_ rfl rfl;and_intros)
 have turn:∀(i:Nat) (d:Cell),i<n->mz [.sh (.int (n:Nat)),.sh (aD r),.sh (.int (j:Nat)),.un,.sh (.int (i:Nat)),d] (aP (grT (TH r j) i))=some ([.sh (.int (n:Nat)),.sh (aD r),.sh (.int (j:Nat)),.un,.sh (.int (i:Nat)),.un],aP (grT (TH r j) (i+1))):=fun i d hi=>by unfold mz;have h:=jj (TH r j) i;refine x_ (ρ:=[.sh (.int (n:Nat)),.sh (aD r),.sh (.int (j:Nat)),.un,.sh (.int (i:Nat)),d]) (by decide) (by lia) rfl fun q hq=>?_;obtain⟨x0,x1⟩:=h.lo q hq;obtain⟨m,em,hm⟩:=FP n1 n10 hr hl x0 (by lia) (show (0:Int)<=(i:Nat) by lia) (by lia) (show hd q≠(i:Nat) by lia);have e:TH r j (hd q) (i:Nat)=decide ((j:Int)<=(m:Int)):=TH.of (by rw[decide_eq_true_iff,<- hm j];lia);rw[e];refine⟨dH [.sh (.int (n:Nat)),.sh (aD r),.sh (.int (j:Nat)),.un,.sh (.int (i:Nat)),d]++[.sh (.lst (q.map Dat.int))],Uu (TF (S_ (Tu (m_ (Q_ rfl (m_ (Q_ rfl (m_ (S_ (Q_ rfl (Tj (To ?_ rfl rfl (Ho (h.ne q hq))))))))))))))⟩;exact m_ (Q_ rfl (R_ (TJ em (Q_ rfl (UM (Tp ⟨rfl,rfl⟩) rfl rfl)) rfl rfl)))
 obtain⟨c4,c5,e⟩:=qS (T:=TH r j) (bd:=bN 4) (body:=mz) (E:=fun c d=>[.sh (.int (n:Nat)),.sh (aD r),.sh (.int (j:Nat)),.un,c,d]) (fun i c d=>rfl) (n:=n) turn n 0 .un .un (by lia);rw[SY]at e;refine Tn (Vk (by decide) (ρ3:=[.sh (.int (n:Nat)),.sh (aD r),.sh (.int (j:Nat)),.un,c4,c5]) (r:=aP (grT (TH r j) n)) ?_ ?_)
 ·have ei:iR1 (eV 0) [.sh (.int (n:Nat)),.sh (aD r),.sh (.int (j:Nat)),.un,.un,.un]=some ((Sm 0 n).map fun x:Nat=>Dat.int (x:Nat),[.sh (.int (n:Nat)),.sh (aD r),.sh (.int (j:Nat)),.un,.un,.un]):=by
   obtain⟨ds,ρ1,e1,e2,e3⟩:=Um (a:=eV 0) (ρ:=[.sh (.int (n:Nat)),.sh (aD r),.sh (.int (j:Nat)),.un,.un,.un]) (Q:=fun ds ρ1=>ds=(Sm 0 n).map (fun x:Nat=>Dat.int (x:Nat))/\ρ1=[.sh (.int (n:Nat)),.sh (aD r),.sh (.int (j:Nat)),.un,.un,.un]) (Q_ rfl (bV.mk ⟨⟨Hl n,rfl⟩,by unfold BIG;lia,by unfold BIG;lia⟩));rw[e1,e2,e3]
  show jG (iR1 (eV 0)) (bN 4) mz [.sh (.int (n:Nat)),.sh (aD r),.sh (.int (j:Nat)),.un,.un,.un] []=_;unfold jG;rw[ei];exact e
 ·have gv:=jj (TH r j) n
  generalize grT (TH r j) n=rows at gv
  show Ws _ [.sh (.int (n:Nat)),.sh (aD r),.sh (.int (j:Nat)),.ow (.lst ((aP rows).map Dat.lst)),c4,c5] _ _ _ _;refine TL (UW Dat.lst (aP rows) (fun row=>row) Dat.tup ?_ rfl (by trivial) rfl (by decide) (by unfold aP;rw[Dp];have:=gv.len;unfold SZ;lia) fun row hr=>?_)
  ·rw[tH];exact UB rfl
  ·exact TR (m_ (Q_ rfl (R_ (Uz (xs:=row) (Tw ⟨rfl,rfl⟩) rfl))))
theorem Cf(r:List Tie)(i:Int)(h0:0<=i)(h1:i<r.length):gIx (aD r) (.int i)=some (.val (bG (r[i.toNat]'(by omega)))):=by unfold aD gIx;dsimp only;rw[jb bG r i h0 h1];rfl
theorem Cg(r:List Tie)(t:Tie):gIx (aD (r++[t])) (.int (-1))=some (.val (bG t)):=by
 unfold aD gIx atI ixN;dsimp only;rw[Dp,Qn,Rj,if_neg (by decide),if_pos (by lia)];have:(-1+((r.length+1:Nat):Int)).toNat=r.length:=by lia
 rw[this];simp
theorem vP(x:Int)(r:List Tie)(hr:∀t∈r,0<=t.m)(hl:r.length<=1000):∃(t x':Int),sM [aJ x,aD r]=some (.val (.int t),aJ x')/\0<=t:=by
 suffices h:WrM (sM [aJ x,aD r]) fun v d=>∃t x':Int,v=.val (.int t)/\d=aJ x'/\0<=t by obtain⟨v,d,h1,n,x',rfl,rfl,h2⟩:=h;exact⟨n,x',h1,h2⟩
 unfold sM;refine Uk ?_ rfl rfl;and_intros;refine Tn (TX (TF (S_ (Q_ rfl (T_ (R_ (TU ?_ rfl rfl (by decide))))))));refine Vl (xs:=r.map bG) (Tp ?_) rfl rfl (Kq r);rcases List.eq_nil_or_concat r with e | ⟨r0,tl,e⟩
 ·subst e;refine Us rfl ?_;refine TL ?_;refine TZ (m:=3) rfl (by decide) (by decide) rfl fun t x' h0 h1 ρ3 e=>?_;subst e;exact⟨_,rfl,t,x',rfl,rfl,h0⟩
 ·rw[List.concat_eq_append]at e;have Pu:(r.map bG).isEmpty=false:=by rw[e];simp
  rw[Pu];refine T4 rfl (TY ?_);have zo:r.length=r0.length+1:=by rw[e];simp
  refine T3 (fun ρ=>∃(at_ x1:Int),0<=at_/\ρ=[.ow (aJ x1),.sh (aD r),.sh (.int at_)]) ?_ ?_
  ·refine Tt (S_ (S_ (Q_ rfl ?_))) (by decide);refine UT (TR (m_ (Q_ rfl (R_ (Up (sD:=bG) (xs:=r) (bV.mk ?_) rfl))))) rfl;refine qJ ?_ rfl rfl (by lia) (by unfold fh;lia);have hi:=cL x r.length (by lia);refine To ?_ rfl rfl (Cf r _ hi.1 hi.2);refine Tj (To ?_ rfl rfl rfl);exact Tq ⟨_,_,hr _ (List.getElem_mem _),rfl⟩ (by trivial)
  rintro ρ ⟨at_,x1,ha,rfl⟩;refine TL (S_ ?_);refine T_ (m_ (Tj (m_ (Q_ rfl (m_ (S_ (Q_ rfl (Tj (Tv ?_ rfl rfl)))))))));refine m_ (TR (m_ (Tj (m_ (S_ (Q_ rfl (Tj (Ug ?_ rfl rfl))))))));refine R_ (Uw ?_ rfl);refine m_ (S_ (S_ (S_ (Q_ rfl (Ue (Tj (Ub ?_ rfl rfl)))))));refine To ?_ rfl rfl (by rw[e];exact Cg r0 tl);refine Tj (To ?_ rfl rfl rfl);refine Tj (Tv ?_ rfl rfl);refine m_ (Q_ rfl (R_ (TU ?_ rfl rfl (by exact QB rfl))));refine TZ (m:=6) rfl (by decide) (by decide) rfl fun t x' h0 h1 ρ3 e'=>?_;subst e';have htl:0<=tl.m:=hr tl (by rw[e];simp);have:t=0\/t=1\/t=2\/t=3\/t=4\/t=5:=by lia
  rcases this with rfl | rfl | rfl | rfl | rfl | rfl
  ·exact To (⟨_,rfl,_,x',rfl,rfl,by decide⟩) rfl rfl rfl
  ·exact To (⟨_,rfl,_,x',rfl,rfl,ha⟩) rfl rfl rfl
  ·exact To (⟨_,rfl,_,x',rfl,rfl,by lia⟩) rfl rfl rfl
  ·exact To (⟨_,rfl,_,x',rfl,rfl,by split<;>lia⟩) rfl rfl rfl
  ·exact To (⟨_,rfl,_,x',rfl,rfl,by lia⟩) rfl rfl rfl
  ·exact To (⟨_,rfl,_,x',rfl,rfl,ha⟩) rfl rfl rfl
theorem vQ(n:Nat)(hn:n<=40)(r:List Tie)(hg:Good n 0 r)(hl:r.length<=1000)(a b:Int)(a0:0<=a)(a1:a<n)(b0:0<=b)(b1:b<n)(h:a≠b)(most:Int)(m0:0<=most)(m1:most<=90)(t:Int) :
  ∃ws o,xO [.int n,aD r,.int a,.int b,.int most,.int t]=some (.val (.tup [.int (ws.length:Nat),.lst (ws.map msD),gf o]))/\Apart n (cu r t) a b most ws o:=by
 obtain⟨ws,o,e,A⟩:=gh n hn (cu r t) hg.since.pl hg.since.nd (QO (x6 r t) hl) a b a0 a1 b0 b1 most m0 m1;refine⟨ws,o,?_,A⟩;apply TQ;unfold xO
 (refine Dm.Tz ?_ rfl rfl;and_intros)
 refine Tn (UC (Tu (m_ (Q_ rfl (m_ (Q_ rfl (m_ (Q_ rfl (R_ (TJ (qP n a b a0 a1 b0 b1 h) ?_ rfl rfl))))))))));refine Tn (Tt (Tu (m_ (Q_ rfl (m_ (Tu (m_ (Q_ rfl (m_ (Q_ rfl (R_ (TM (mK r hl t) ?_ rfl rfl rfl rfl))))))))))) (by decide));refine m_ (Q_ rfl (m_ (Q_ rfl (m_ (Q_ rfl (R_ (TM e ?_ rfl rfl rfl rfl)))))));refine Tq ?_ (by trivial);refine TL (Ur (m_ (TR (m_ (S_ (Q_ rfl (Tj (To ?_ rfl rfl rfl))))))));refine R_ (Up (sD:=msD) (xs:=ws) ?_ rfl);refine m_ (S_ (Q_ rfl (Tj (To ?_ rfl rfl rfl))));refine m_ (S_ (Q_ rfl (Tj (To ?_ rfl rfl rfl))));refine R_ (TU ?_ rfl rfl (by exact QB rfl));rfl
theorem tK(x:Int)(w:Nat)(w2:2<=w)(w10:w<=10)(many:Int)(m0:0<=many)(m1:many<=60):∃(r:List Tie) (x':Int),pR [aJ x,.int (w:Nat),.int many]=some (.new (aD r),aJ x')/\Good (w:Nat) 0 r/\(r.length:Int)=many/\∀t∈r,t.m<=Z30:=by
 have sz:1000<=SZ:=by decide
 suffices hh:WrM (pR [aJ x,.int (w:Nat),.int many]) fun v d=>∃(r:List Tie) (x':Int),v=.new (aD r)/\d=aJ x'/\Good (w:Nat) 0 r/\(r.length:Int)=many/\∀t∈r,t.m<=Z30 by obtain⟨v,d,h1,r,x',rfl,rfl,h2⟩:=hh;exact⟨r,x',h1,h2⟩
 unfold pR;refine Uk ?_ rfl rfl;and_intros;refine Tn (Tt (T_ (R_ (TU ?_ rfl rfl (by decide)))) (by decide));refine TN ?_ (by trivial);refine Tn (Tt ?_ (by decide));refine TZ (m:=9) rfl (by decide) (by decide) rfl fun mo x1 h0 h1 ρ3 e=>?_;subst e;refine Tq ?_ (by trivial);refine Tn (T8 (Um (Q_ rfl (bV.mk ⟨?_,by unfold BIG;lia⟩))));refine T9 (fun i:Nat=>Dat.int (0+(i:Nat))) _ _ (Qs many.toNat) _ _ _ _ _ (fun p q ρ=>∃(x mo:Int) (r:List Tie) (c5 c6 c7:Cell),ρ=[.ow (aJ x),.sh (.int (w:Nat)),.sh (.int many),.ow (aD r),.sh (.int mo),c5,c6,c7]/\Good (w:Nat) 0 r/\r.length=p.length/\(∀u∈r,u.m<mo)/\0<=mo/\mo<=9+4*(p.length:Int)) ⟨_,_,[],_,_,_,rfl,trivial,rfl,fun u hu=>(by cases hu),h0,by simp;lia⟩ ?_ ?_
 ·rintro p i q ρ e ⟨x,mo,r,c5,c6,c7,rfl,hg,hl,hu,hm,hM⟩;have lp:p.length<60:=by
   have:=congrArg List.length e;simp at this
   lia
  refine Dm.bU rfl (by trivial) ?_;unfold BS;refine Tn (Tt ?_ (by decide));refine TZ (m:=(w:Nat)) rfl (by lia) (by unfold fh;lia) rfl fun a x1 a0 a1 ρ3 e3=>?_;subst e3;refine Tq ?_ (by trivial);refine Tn (Tt (S_ (S_ (S_ (Q_ rfl (Tj (Tv ?_ rfl rfl)))))) (by decide));refine UT (S_ (Q_ rfl (Tj (Ug (bV.mk (qJ ?_ rfl rfl (by lia) (by unfold fh;lia))) rfl rfl)))) rfl;have hv:=cL x1 ((w:Nat)-1) (by lia)
  generalize x1 % ((w:Nat)-1)=d at hv
  refine Tv (Q_ rfl (T5 ?_ rfl rfl (by lia))) rfl rfl;have hb:=cL (a+1+d) (w:Nat) (by lia)
  generalize (a+1+d) % (w:Nat)=b at hb
  refine Tq ?_ (by trivial);refine Tn (Ul (Ur (m_ (Q_ rfl (m_ (TR ?_))))) rfl);refine m_ (Q_ rfl (m_ (Q_ rfl (R_ (Uh ?_ rfl)))));refine m_ (TR (m_ (Q_ rfl (m_ (Q_ rfl (R_ (Uw ?_ rfl)))))));refine R_ (TU ?_ rfl rfl (QB rfl));refine Tw (gy (ds:=r.map bG) (ρ3:=[.ow (aJ (x1 / ((w:Nat)-1))),.sh (.int (w:Nat)),.sh (.int many),.ow (aD (r++[⟨mo,if b<a then b else a,if b>a then b else a⟩])),.sh (.int mo),.sh (.int (0+(i:Nat))),.sh (.int a),.sh (.int b)]) ?_ rfl (by unfold aD;rw[Qq];rfl) (by rw[Dp];lia));refine Tt (S_ (S_ (Q_ rfl (Tj (Tv ?_ rfl rfl))))) (by decide);refine TZ (m:=3) rfl (by decide) (by decide) rfl fun d x3 d0 d1 ρ3 e3=>?_;subst e3;refine Tv (Tq ⟨x3,mo+1+d,r++[⟨mo,if b<a then b else a,if b>a then b else a⟩],_,_,_,rfl,?_,by simp[hl],fun u hu'=>?_,by lia,by simp;lia⟩ (by trivial)) rfl rfl
  ·refine hg.snoc hu hm rfl ?_ (xW a b) ?_
   ·show 0<=(if b<a then b else a)
    split<;>lia
   ·show (if b>a then b else a)<(w:Nat);split<;>lia
  ·rcases Qu.mp hu' with h | h
   ·have:=hu u h;lia
   ·rw[Qo.mp h];show mo<_
    lia
 ·rintro ρ ⟨x,mo,r,c5,c6,c7,rfl,hg,hl,hu,hm,hM⟩;rw[QG]at hl hM;refine TL (TV rfl (Uj ?_ rfl));refine⟨_,rfl,r,x,rfl,rfl,hg,by lia,fun t ht=>?_⟩;have:=hu t ht;unfold Z30
  lia
theorem Kv(n k:Nat)(r:List Tie):eqD (gG n k r) (gG n k r)=true:=by unfold gG;simp only[eqD,jy,beq_self_eq_true,Bool.true_and,Bool.and_true];exact Kp r
theorem FY(r:List Tie):okD 7 (aD r)=true:=by unfold aD okD;rw[Q3];intro x hx;obtain⟨t,_,rfl⟩:=Qp.mp hx;rfl
theorem Kw(n k:Nat)(r:List Tie):okD 8 (gG n k r)=true:=by unfold gG okD;simp only[SK,List.all_nil,Bool.and_true,FY];rfl
theorem Ci{n:Nat}{r:List Tie}{a b:Int}{j:Nat}{ws:List (List Step)}{o:Option (List Int)}(A:Apart n r a b (j:Nat) ws o):(ws.length:Int)=j↔Hg r j a b:=by
 constructor
 ·intro e S hs;have e:ws.length=j:=by lia
  rw[<- e];cases ha:S a
  ·cases hb:S b
   ·rw[ha,hb]at hs;exact absurd rfl hs
   ·have:=Kn A.ways (S:=fun x=>!S x) (by rw[ha];rfl) (by rw[hb];rfl);rw[jN]at this;exact this
  ·cases hb:S b
   ·exact Kn A.ways ha hb
   ·rw[ha,hb]at hs;exact absurd rfl hs
 ·intro h;cases o with
  |none=>exact A.all rfl
  |some S=>
   obtain⟨⟨_,_,s1,s2⟩,s3,s4⟩:=A.side S rfl;have:=h (fun x=>decide (x∈S)) (by rw[decide_eq_true s1,decide_eq_false s2];decide);rw[<- jP,s3]at this
   lia
theorem zR(i:Int):sO [.int i]=some (.val (.bl true)):=by
 have:sO=zx:=by unfold sO zx;rfl
 rw[this];exact sY i
theorem vR(ms:List Int)(h:ms.length<=40):xP [.tup (ms.map Dat.int)]=some (.val (.bl true)):=by
 apply TQ;unfold xP
 (refine Dm.Tz ?_ rfl rfl;and_intros)
 refine TL (TR (m_ (UE Dat.int ms (fun _=>true) Dat.bl (d:=.tup (ms.map Dat.int)) ?_ rfl rfl rfl (by decide) (by unfold SZ;lia) fun x _=>?_)))
 ·refine R_ (UI (fun b:Bool=>b) (xs:=ms.map fun _=>true) ?_ rfl);have:(ms.map fun _=>true).all (fun b:Bool=>b)=true:=by simp
  rw[this];rfl
 ·exact Tu (m_ (Q_ rfl (R_ (TJ (zR x) (Tw ⟨rfl,rfl⟩) rfl rfl))))
theorem pV{n k:Nat}(n10:n<=10)(k1:1<=k)(k6:k<=6){r:List Tie}(hr:Rcd n r):∃N,pP [.int (n:Nat),aD r,.int (k:Nat)]=some (.val (gG n k N))/\Net n k N/\∀(j:Nat) (t:Int),j<=k->TH (cu N t) j=TH (cu r t) j:=by
 have lr:=hr.len;obtain⟨ms,_,al⟩:=gF n k n10 k1 k6 r hr.ends (by lia);refine⟨keep r ms,Ks n k n10 k1 k6 r ms hr.ends (by lia) al,⟨hr.sub (jh r ms),_,tw al,fun z=>by simpa using(Ri.mp z).2⟩,fun j t jk=>?_⟩
 funext a b
 exact TH.of (TH.iff.trans (Ku jk hr.good al a b t).symm)
noncomputable abbrev gE(x:Int)(r:List Tie)(t:Int)(j:Nat)(c5 c6:Cell):Env:=[.ow (aJ x),.ow (aD r),.sh (.int t),.sh (.int (j:Nat)),.un,c5,c6]
theorem vS{x:Int}{r:List Tie}(hr:Rcd 10 r){t:Int}{j:Nat}(j6:j<=6)(i:Nat)(d:Cell)(hi:i<10):mC (gE x r t j (.sh (.int (i:Nat))) d) (aP (grT (TH (cu r t) j) i))=some (gE x r t j (.sh (.int (i:Nat))) .un,aP (grT (TH (cu r t) j) (i+1))):=by unfold mC;have lr:=hr.len;have h:=jj (TH (cu r t) j) i;refine x_ (ρ:=gE x r t j (.sh (.int (i:Nat))) d) (by decide) (by lia) rfl fun q hq=>?_;obtain⟨x0,x1⟩:=h.lo q hq;obtain⟨ws,o,e,A⟩:=vQ 10 (by decide) r hr.good (by lia) (hd q) (i:Nat) x0 (by lia) (by lia) (by lia) (by lia) (j:Nat) (by lia) (by lia) t;have et:TH (cu r t) j (hd q) (i:Nat)=decide ((ws.length:Int)=(j:Int)):=TH.of (by rw[decide_eq_true_iff];exact Ci A);rw[et];refine⟨dH (gE x r t j (.sh (.int (i:Nat))) d)++[.sh (.lst (q.map Dat.int))],Uu (TF (S_ (S_ (Tu (m_ (Tj (m_ (Q_ rfl (m_ (S_ (Q_ rfl (Tj (To ?_ rfl rfl (Ho (h.ne q hq)))))))))))))))⟩;refine m_ (Q_ rfl (m_ (Q_ rfl (m_ (Q_ rfl (R_ (TM e ?_ rfl rfl rfl rfl)))))));refine Tj (To (v:=.int (ws.length:Nat)) ?_ rfl rfl rfl);exact Q_ rfl (Ud (Tp ⟨rfl,rfl⟩) rfl rfl)
theorem Cj(x:Int):∃x':Int,sS [aJ x]=some (.val (.bl true),aJ x'):=by
 suffices hh:WrM (sS [aJ x]) fun v d=>∃x':Int,v=.val (.bl true)/\d=aJ x' by obtain⟨v,d,h1,x',rfl,rfl⟩:=hh;exact⟨x',h1⟩
 unfold sS;refine Uk ?_ rfl rfl;and_intros;refine T3 (fun ρ=>∃(x:Int) (r:List Tie),Rcd 10 r/\40<=r.length/\ρ=[.ow (aJ x),.ow (aD r),.un,.un,.un,.un,.un]) ?_ ?_
 ·refine Tt (UK (m_ (Tj (m_ (S_ (Tj ?_))))) rfl) (by decide);refine TZ (m:=21) rfl (by decide) (by decide) rfl fun v x1 v0 v1 ρ3 e=>?_;subst e;obtain⟨r,y,er,gr,lr,mr⟩:=tK x1 10 (by decide) (by decide) (40+v) (by lia) (by lia);refine Tv (R_ (Uy er ?_ rfl rfl (by trivial))) rfl rfl;exact TN ⟨y,r,Rcd.of gr (by lia) mr,by lia,rfl⟩ (by trivial)
 rintro ρ ⟨x,r,hr,l40,rfl⟩;have lr:=hr.len;refine T3 (fun ρ=>∃(x t:Int),ρ=[.ow (aJ x),.ow (aD r),.sh (.int t),.un,.un,.un,.un]) ?_ ?_
 ·refine Tt (S_ (S_ (TV rfl ?_))) (by decide);refine TZ (m:=20) rfl (by decide) (by decide) rfl fun v x1 v0 v1 ρ3 e=>?_;subst e;refine To ?_ rfl rfl (Cf r _ v0 (by lia));refine Tj (To ?_ rfl rfl rfl);exact Tq ⟨_,_,rfl⟩ (by trivial)
 rintro ρ ⟨x,t,rfl⟩;refine T3 (fun ρ=>∃(x:Int) (j:Nat),(1<=j/\j<=6)/\ρ=gE x r t j .un .un) ?_ ?_
 ·refine Tt (S_ (Tj ?_)) (by decide);refine TZ (m:=6) rfl (by decide) (by decide) rfl fun v x2 t0 t1 ρ3 e=>?_;subst e;refine Tv (Tq ⟨x2,(1+v).toNat,by lia,?_⟩ rfl) rfl rfl;unfold gE;rw[R9 (by lia)];rfl
 rintro ρ ⟨x,j,⟨j1,j6⟩,rfl⟩;obtain⟨c5,c6,e⟩:=qS (T:=TH (cu r t) j) (bd:=bN 5) (body:=mC) (E:=gE x r t j) (fun i c d=>rfl) (n:=10) (vS hr j6) 10 0 .un .un (by decide);rw[SY]at e;refine Tn (Vk (by decide) (ρ3:=gE x r t j c5 c6) (r:=aP (grT (TH (cu r t) j) 10)) ?_ ?_)
 ·show jG (iR1 (eC (.int 10))) (bN 5) mC (gE x r t j .un .un) []=_;unfold jG;have ei:iR1 (eC (.int 10)) (gE x r t j .un .un)=some ((Sm 0 10).map fun x:Nat=>Dat.int (x:Nat),gE x r t j .un .un):=rfl;rw[ei];exact e
 ·obtain⟨N,en,hN,hT⟩:=pV (n:=10) (k:=6) (by decide) (by decide) (by decide) hr;have ec:=gI (by decide) (by decide) (by decide) (by decide) j1 j6 hN t;rw[hT j t j6]at ec;have gv:=jj (TH (cu r t) j) 10
  generalize grT (TH (cu r t) j) 10=rows at ec gv
  show Ws _ [.ow (aJ x),.ow (aD r),.sh (.int t),.sh (.int (j:Nat)),.ow (.lst ((aP rows).map Dat.lst)),c5,c6] _ _ _ _;refine TL (S_ (Tu (m_ (Tu (m_ (Tj (m_ (TV rfl (m_ (Tj (R_ (TM en ?_ rfl rfl rfl (by trivial)))))))))))));refine m_ (Q_ rfl (m_ (Q_ rfl (R_ (TM ec ?_ rfl rfl rfl (by trivial))))));refine UW Dat.lst (aP rows) (fun row=>row) Dat.tup ?_ rfl (by trivial) rfl (by decide) (by unfold aP;rw[Dp];have:=gv.len;unfold SZ;lia) fun row hr=>?_
  ·rw[tH];refine Vw (kW rows) (kU rows) ?_ rfl rfl;exact⟨_,rfl,x,rfl,rfl⟩
  ·exact TR (m_ (Q_ rfl (R_ (Uz (xs:=row) (Tw ⟨rfl,rfl⟩) rfl))))
theorem Ck{n:Nat}{r:List Tie}(h:Rcd n r):cu r 0=r:=R8.mpr fun t ht=>decide_eq_true (h.ok t ht).1
theorem Cm{α:Type}(l:List α)(x:α)(h:l.length<=100):zm (l++[x]) none (some (-1))=l:=by
 unfold zm;have e:sIx (l++[x]).length (l++[x]).length (some (-1))=l.length:=by
  show (if (-1:Int)<0 then max (-1+((l++[x]).length:Int)) 0 else _).toNat=_;rw[if_pos (by decide),Qn,Rj]
  lia
 rw[e];show ((l++[x]).drop 0).take (l.length-0)=l;simp
theorem FZ(S:List Int)(at_:Int)(h0:0<=at_)(h1:at_<900)(c1 c3 c4 c5 c6 c7 c8 c9 c10:Cell){N:Env->Prop}{R:RV->Env->Prop}{B C:Env->Prop}(nx:∀c1 c2 c3 c4 c5 c6 c7 c8 c9 c10,N [.sh (.lst (S.map Dat.int)),c1,c2,c3,c4,c5,c6,c7,c8,c9,c10]) :
  Ws vJ [.sh (.lst (S.map Dat.int)),c1,.sh (.int at_),c3,c4,c5,c6,c7,c8,c9,c10] N R B C:=by
 obtain⟨x,ep⟩:=kT S at_ h0 (by lia);obtain⟨n0,x1,en,n1,n10⟩:=FD x;unfold vJ;refine Tn (Tt (Tu ?_) (by decide));refine m_ (Q_ rfl (m_ (Q_ rfl (R_ (TM ep (TN ?_ (by trivial)) rfl rfl rfl (by trivial))))));refine T3 (fun ρ=>∃(n:Nat) (x:Int),(1<=n/\n<=7)/\ρ=[.sh (.lst (S.map Dat.int)),.ow (aJ x),.sh (.int at_),.sh (.int (n:Nat)),c4,c5,c6,c7,c8,c9,c10]) ?_ ?_
 ·refine Tt (TR (m_ (Tj (m_ (UK (R_ (Uy en ?_ rfl rfl (by trivial))) rfl))))) (by decide);refine R_ (Uh (Tq ⟨(if n0<7 then n0 else 7).toNat,x1,by split<;>lia,?_⟩ (by trivial)) rfl);rw[R9 (by split<;>lia)]
 rintro ρ ⟨n,x1,⟨n1,n7⟩,rfl⟩;refine T3 (fun ρ=>∃(k:Nat) (x2:Int),(1<=k/\k<=6)/\ρ=[.sh (.lst (S.map Dat.int)),.ow (aJ x2),.sh (.int at_),.sh (.int (n:Nat)),.sh (.int (k:Nat)),c5,c6,c7,c8,c9,c10]) ?_ ?_
 ·refine Tt (S_ (Tj ?_)) (by decide);refine TZ (m:=6) rfl (by decide) (by decide) rfl fun t x2 t0 t1 ρ3 e=>?_;subst e;refine Tv (Tq ⟨(1+t).toNat,x2,by lia,?_⟩ rfl) rfl rfl;rw[R9 (by lia)];rfl
 rintro ρ ⟨k,x2,⟨k1,k6⟩,rfl⟩;obtain⟨y,ey⟩:=kT S (at_+1) (by lia) (by lia);refine T3 (fun ρ=>∃r:List Tie,Rcd n r/\ρ=[.sh (.lst (S.map Dat.int)),.ow (aJ x2),.sh (.int at_),.sh (.int (n:Nat)),.sh (.int (k:Nat)),.ow (aD r),c6,c7,c8,c9,c10]) ?_ ?_
 ·refine Tt (Vd (m_ (Tu ?_))) (by decide);refine m_ (Q_ rfl (m_ (S_ (Q_ rfl (Tj (Tv ?_ rfl rfl))))));refine R_ (TM ey ?_ rfl rfl rfl (by trivial));refine m_ (Q_ rfl (m_ ?_));obtain⟨most,em,m0,m30⟩:∃most:Int,gIx (.lst [.int 16,.int 6]) (.int (b2i (decide (6<(n:Int)))))=some (.val (.int most))/\0<=most/\most<=60:=by
   by_cases q:6<(n:Int)
   ·rw[decide_eq_true q];exact⟨6,rfl,by decide,by decide⟩
   ·rw[decide_eq_false q];exact⟨16,rfl,by decide,by decide⟩
  obtain⟨r,y',er,gr,lr,mr⟩:=zF y n most (by lia) (by lia) m0 m30;refine S_ (T_ (m_ (Tj (m_ (Tj (R_ (TU ?_ rfl rfl (by decide))))))));refine TR (m_ (S_ (Q_ rfl (Tj (UA (R_ (U1 ?_ rfl)) rfl rfl)))));refine To ?_ rfl rfl em;refine R_ ⟨_,_,_,_,_,rfl,rfl,er,?_⟩;exact TN ⟨r,Rcd.of gr (by lia) mr,rfl⟩ (by trivial)
 rintro ρ ⟨r,hr,rfl⟩;refine T3 (fun ρ=>∃(n k:Nat) (r:List Tie) (x:Int),(1<=n/\n<=10/\1<=k/\k<=6)/\Rcd n r/\ρ=[.sh (.lst (S.map Dat.int)),.ow (aJ x),.sh (.int at_),.sh (.int (n:Nat)),.sh (.int (k:Nat)),.ow (aD r),c6,c7,c8,c9,c10]) ?_ ?_
 ·refine TX (UL (TF (S_ (Q_ rfl (Tj (Ud (Tp ⟨fun _=>?_,fun _=>Ua (TY ⟨n,k,r,x2,⟨by lia,by lia,k1,k6⟩,hr,rfl⟩)⟩) rfl rfl))))));refine TF (S_ ?_);refine TZ (m:=8) rfl (by decide) (by decide) rfl fun t x3 t0 t1 ρ3 e=>?_;subst e;refine Tj (Ud (Tp ⟨fun _=>?_,fun _=>TY ⟨n,k,r,x3,⟨by lia,by lia,k1,k6⟩,hr,rfl⟩⟩) rfl rfl);refine Tn (Tt (Tj (Tq ?_ (by trivial))) (by decide));refine Tn (Tt (Tj (Tq ?_ (by trivial))) (by decide));refine Tt (Vd (m_ (Tu ?_))) (by decide);refine m_ (Q_ rfl (m_ (S_ (Q_ rfl (Tj (Tv ?_ rfl rfl))))));refine R_ (TM ey ?_ rfl rfl rfl (by trivial));refine m_ (Tj (m_ (S_ (Tj ?_))));refine TZ (m:=11) rfl (by decide) (by decide) rfl fun v x4 v0 v1 ρ3 e=>?_;subst e;obtain⟨r',y',er,gr,lr,mr⟩:=tK y 7 (by decide) (by decide) (40+v) (by lia) (by lia);refine Tv (R_ ⟨_,_,_,_,_,rfl,rfl,er,?_⟩) rfl rfl;exact TN ⟨7,6,r',x4,⟨by decide,by decide,by decide,by decide⟩,Rcd.of gr (by lia) mr,rfl⟩ (by trivial)
 rintro ρ ⟨n,k,r,x3,⟨n1,n10,k1,k6⟩,hr,rfl⟩;have lr:=hr.len;refine T3 (fun ρ=>∃(j:Nat) (x:Int),(1<=j/\j<=k)/\ρ=[.sh (.lst (S.map Dat.int)),.ow (aJ x),.sh (.int at_),.sh (.int (n:Nat)),.sh (.int (k:Nat)),.ow (aD r),.sh (.int (j:Nat)),c7,c8,c9,c10]) ?_ ?_
 ·refine Tt (S_ (Tj ?_)) (by decide);refine TZ (m:=(k:Nat)) rfl (by lia) (by unfold fh;lia) rfl fun t x2 t0 t1 ρ3 e=>?_;subst e;refine Tv (Tq ⟨(1+t).toNat,x2,by lia,?_⟩ rfl) rfl rfl;rw[R9 (by lia)];rfl
 rintro ρ ⟨j,x4,⟨j1,jk⟩,rfl⟩;obtain⟨K,PL,net,hT⟩:=pV n10 k1 k6 hr;refine Tn (Tt (Tu ?_) (by decide));refine m_ (Q_ rfl (m_ (TV rfl (m_ (Q_ rfl (R_ (TM PL (Tq ?_ (by trivial)) rfl rfl rfl (by trivial))))))));refine Tn (Tt (TR (m_ (S_ (Q_ rfl (Tj (To (v:=aD K) (R_ (U3 (xs:=K.map bG) (TN ?_ (by trivial)) rfl)) rfl rfl rfl)))))) (by decide));obtain⟨z,ez⟩:=kT S (at_+2) (by lia) (by lia);obtain⟨t,z',et,t0⟩:=vP z r (fun u hu=>(hr.ok u hu).1) (by lia);refine Tn (Tt (Vd (m_ (Tu ?_))) (by decide));refine m_ (Q_ rfl (m_ (S_ (Q_ rfl (Tj (Tv ?_ rfl rfl))))));refine R_ (TM ez ?_ rfl rfl rfl (by trivial));refine m_ (Q_ rfl (R_ ⟨_,_,_,_,_,rfl,rfl,et,?_⟩));refine Tq ?_ (by trivial);have c1:=gI n1 n10 k1 k6 j1 jk net t;have c2:=gI n1 n10 k1 k6 j1 jk net 0;rw[hT j t jk]at c1;rw[Ck net.rc]at c2;have hse:Ends n (cu r t):=(hr.sub Sy).ends;have d1:=Ce (j:=j) n1 n10 hse (by have:=x6 r t;lia);have d2:=Ce (j:=j) n1 n10 net.rc.ends net.rc.len;have gv:=jj (TH (cu r t) j) n
 generalize grT (TH (cu r t) j) n=rows at c1 d1 gv
 generalize grT (TH K j) n=Hq at c2 d2
 refine Tn (Tt (Tu ?_) (by decide));refine m_ (Q_ rfl (m_ (Q_ rfl (m_ (Q_ rfl (R_ (TM c1 (TN ?_ (by trivial)) rfl rfl rfl (by trivial))))))));refine Tn (TX (Uq (T6 (TF (Ue (TV rfl (Ub (v:=.val (.bl true)) (Tp (Ua ?_)) rfl rfl)))))));refine TF (S_ (TV rfl (Tu (m_ (Q_ rfl (m_ (Tu (m_ (Q_ rfl (m_ (Q_ rfl (R_ (TM (zO r (by lia) t) ?_ rfl rfl rfl (by trivial))))))))))))));refine m_ (Q_ rfl (R_ (TM d1 ?_ rfl rfl rfl (by trivial))));refine UN (kW rows) (kU rows) (Tp (Ua (TY ?_))) rfl rfl;have gl:=gv.len;refine Tn (TX (T6 (TF (TR (m_ (UW (fun ms:List Int=>Dat.tup (ms.map Dat.int)) rows (fun _=>true) Dat.bl ?_ rfl (by trivial) rfl (by decide) (by unfold SZ;lia) fun ms hm=>?_))))))
 ·refine R_ (UI (fun b:Bool=>b) (xs:=rows.map fun _=>true) ?_ rfl);have:(rows.map fun _=>true).all (fun b:Bool=>b)=true:=by simp
  rw[this];refine Tp (Ua (TY ?_));refine Tn (Ul (Ur (m_ (Tj (R_ (TU ?_ rfl rfl (by decide)))))) rfl);refine Tw (gy (ds:=rows.map fun ms:List Int=>Dat.tup (ms.map Dat.int)) (ρ3:=[.sh (.lst (S.map Dat.int)),.ow (aJ x4),.sh (.int at_),.sh (.int (n:Nat)),.sh (.int (k:Nat)),.sh (aD r),.sh (.int (j:Nat)),.sh (gG n k K),.ow (aD K),.sh (.int t),.ow (eS (rows++[[0]]))]) ?_ rfl (by unfold eS;rw[Qq];rfl) (by rw[Dp];unfold SZ;lia));refine Tn (TX (Uq (TF (S_ (Tu (m_ (Q_ rfl (m_ (Q_ rfl (R_ (TM (f:=fun ds=>kg (ds++[.int 0])) c2 ?_ rfl rfl rfl (by trivial))))))))))));refine Tu (m_ (Q_ rfl (m_ (TV rfl (m_ (Q_ rfl (R_ (TM d2 ?_ rfl rfl rfl (by trivial)))))))));refine UN (kW Hq) (kU Hq) (Tp (Ua ?_)) rfl rfl;refine TF (S_ (Tu (m_ (Q_ rfl (m_ (Q_ rfl (m_ (Q_ rfl (R_ (TM c1 ?_ rfl rfl rfl (by trivial)))))))))));refine Vc (TV rfl (Wp.none (Wp.some (Ue (Tj (Ub (v:=.val (.int (-1))) (bV.mk (Wsl.A (sD:=fun ms:List Int=>Dat.tup (ms.map Dat.int)) (xs:=rows++[[0]]) ?_ rfl)) rfl rfl))))));rw[Cm rows [0] (by lia)];refine UN (kW rows) (kU rows) (Tp (Ua (TY ?_))) rfl rfl;refine TX (TF (S_ (Q_ rfl (Ur (m_ (Q_ rfl (m_ (Q_ rfl (m_ (Q_ rfl (R_ (TU ?_ rfl (by trivial) (QB rfl)))))))))))));refine UN (Kw n k K) (Kv n k K) (Tp (Ua (TY ?_))) rfl rfl;exact nx _ _ _ _ _ _ _ _ _ _
 ·have:=gv.rl ms hm;refine Ui (Ue (Q_ rfl (Ub (v:=.val (.bl true)) (Tp (Uo ?_)) rfl rfl)));exact Tu (m_ (Q_ rfl (R_ (TJ (vR ms (by lia)) (Tw ⟨rfl,rfl⟩) rfl rfl))))
theorem math(ns:List Int)(h:ns.length<=63):mD [.lst (ns.map Dat.int)]=some (.val (.bl true)):=by
 apply TQ;unfold mD
 (refine Dm.Tz ?_ rfl rfl;and_intros)
 obtain⟨x,ep⟩:=kT [gq ns] 0 (Sk _) (by decide);refine Tn (Tt (Tu (m_ (T_ (m_ (TR (m_ (Q_ rfl (R_ (VE (ns:=ns) (R_ (TU ?_ rfl rfl (QB rfl))) rfl))))))))) (by decide));refine m_ (Tj (R_ (TM ep (TN ?_ (by trivial)) rfl rfl rfl (by trivial))));refine T3 (fun ρ=>∃c1:Cell,ρ=[.sh (.lst (ns.map Dat.int)),c1,.un,.un,.un,.un,.un,.un,.un,.un,.un]) ?_ ?_
 ·refine TX (UL (TF (S_ ?_)));refine TZ (m:=8) rfl (by decide) (by decide) rfl fun t x3 t0 t1 ρ3 e=>?_;subst e;obtain⟨x',eg⟩:=Cj x3;refine Tj (Ud (Tp ⟨fun _=>?_,fun _=>Ua (TY ⟨_,rfl⟩)⟩) rfl rfl);refine T6 (TF (UK (R_ (Uy eg (Tp (Ua (TY ⟨_,rfl⟩))) rfl rfl (by trivial))) rfl))
 rintro ρ ⟨c1,rfl⟩;obtain⟨top,et,t0,t1⟩:∃top:Int,top=(if (if (9:Int)<((ns.length:Nat):Int) then 9 else ((ns.length:Nat):Int))>1 then (if (9:Int)<((ns.length:Nat):Int) then 9 else ((ns.length:Nat):Int)) else 1)/\1<=top/\top<=12:=⟨_,rfl,by split<;>lia,by split<;>split<;>lia⟩
 refine Tn (T8 (VA (i:=0) (j:=top) (k:=3) rfl ?_ rfl ⟨by decide,by unfold BIG;lia,by unfold BIG;lia,by decide,by decide⟩ ?_))
 ·rw[et];exact Vm (TR (m_ (Tj (m_ (TR (m_ (TR (m_ (Q_ rfl (R_ (Up (sD:=Dat.int) (xs:=ns) (m_ (Tj (R_ (Uh (R_ (Uw ⟨rfl,rfl⟩ rfl)) rfl)))) rfl)))))))))))
 unfold gw;refine T9 (fun i:Nat=>Dat.int (0+(i:Nat)*3)) _ _ (Qs (cF 0 top 3)) _ _ _ _ _ (fun p q ρ=>∃c1 c2 c3 c4 c5 c6 c7 c8 c9 c10:Cell,ρ=[.sh (.lst (ns.map Dat.int)),c1,c2,c3,c4,c5,c6,c7,c8,c9,c10]) ⟨_,_,_,_,_,_,_,_,_,_,rfl⟩ ?_ ?_
 ·rintro p i q ρ e ⟨c1,c2,c3,c4,c5,c6,c7,c8,c9,c10,rfl⟩;have hi:i<cF 0 top 3:=(mJ e).2;unfold cF at hi;rw[if_pos (by lia)]at hi;refine Dm.bU rfl (by trivial) ?_;exact FZ ns _ (by lia) (by lia) _ _ _ _ _ _ _ _ _ fun c1 c2 c3 c4 c5 c6 c7 c8 c9 c10=>⟨_,_,_,_,_,_,_,_,_,_,rfl⟩
 ·rintro ρ ⟨c1,c2,c3,c4,c5,c6,c7,c8,c9,c10,rfl⟩;exact TL (Tj rfl)
end P
namespace Q
open PySem L2 Br Dm P
noncomputable def top(i:Nat):Stmt:=PySem.Challenge.pw_sinceply_k34_classes_told.main.body.getD i (.Pass ⟨0,0,0,0⟩)
structure Txt(mg:Str->Option Value)(K:Ds)(base:Heap)(vU vV vW vX vY vZ v5 v7 v8 v9 mO mP mQ mR mS mT mU mV mW mX mY mZ m5 m6 m7 m8 m9 nc ng jl jm nh ni nj nk nt nu nv ny nA nB nC nD nE nF nG:Addr)(nH nI nJ nK nM nN nQ nR nS nT gJ gK gM gO gP gQ gR gS gT gU gW gX gY gZ g7 g8 g9 g_ h_ ia nU ic ie ig ir iu iw iy iz iA iB iC iD iE iF jQ:FuncData)(iG:Tok):Prop where
 ya:mg "all" = none
 Cn:mg "bool" = none
 Ky:mg "dict" = none
 tL:mg "enumerate" = none
 yb:mg "int" = none
 aX:mg "isinstance" = none
 gk:mg "len" = none
 nV:mg "list" = none
 yc:mg "max" = none
 nW:mg "min" = none
 bL:mg "range" = none
 nX:mg "reversed" = none
 Co:mg "sorted" = none
 NH:mg "sum" = none
 eu:mg "tuple" = none
 NI:mg "zip" = none
 nY:∃t,mg "MOST_TIES" = some (.int 60 t)
 PM:mg "steps_of" = some (.ref vU)
 PN:mg "free_steps" = some (.ref vV)
 PR:mg "led_steps" = some (.ref vW)
 NJ:mg "shortest_ways" = some (.ref vX)
 PV:mg "lead_along" = some (.ref vY)
 PX:mg "parted" = some (.ref vZ)
 NK:mg "ways_apart" = some (.ref v5)
 PY:mg "hang_often" = some (.ref v7)
 PZ:mg "is_whole" = some (.ref v8)
 Cp:mg "is_within" = some (.ref v9)
 NL:mg "is_places" = some (.ref mO)
 yd:mg "is_place" = some (.ref mP)
 Hr:mg "is_layers" = some (.ref mQ)
 NN:mg "is_moment" = some (.ref mR)
 NO:mg "is_tie_either_way" = some (.ref mS)
 NP:mg "is_tie" = some (.ref mT)
 NQ:mg "is_rising" = some (.ref mU)
 NR:mg "is_pair" = some (.ref mV)
 NT:mg "look_at_layers" = some (.ref mW)
 NU:mg "look_at_pair" = some (.ref mX)
 NV:mg "merged" = some (.ref mY)
 NW:mg "least_layer" = some (.ref mZ)
 Ht:mg "layered" = some (.ref m5)
 NX:mg "is_record" = some (.ref m6)
 Hu:mg "since" = some (.ref m7)
 NY:mg "is_net" = some (.ref m8)
 NZ:mg "look_at_net" = some (.ref m9)
 N1:mg "look_at_net_layers" = some (.ref nc)
 Hv:mg "net_of" = some (.ref ng)
 ye:mg "classes" = some (.ref jl)
 N2:mg "hang_of" = some (.ref jm)
 tM:mg "_law_pool" = some (.ref nh)
 bJ:mg "_law_take" = some (.ref ni)
 N3:mg "_law_many" = some (.ref nj)
 N4:mg "_law_record" = some (.ref nk)
 N5:mg "_law_moment" = some (.ref nt)
 N6:mg "_law_since" = some (.ref nu)
 N7:mg "_law_whole" = some (.ref nv)
 N8:mg "_law_wholes" = some (.ref ny)
 N9:mg "_law_rim" = some (.ref nA)
 N_:mg "_law_sides" = some (.ref nB)
 Oa:mg "_law_hang" = some (.ref nC)
 Hw:mg "_law_due" = some (.ref nD)
 Hx:mg "_law_thick" = some (.ref nE)
 Ob:mg "_law_great" = some (.ref nF)
 P4:mg "law" = some (.ref nG)
 Oc:Fun K "steps_of" "steps_of" (top 3) vU nH
 Od:Fun K "free_steps" "free_steps" (top 4) vV nI
 Oe:Fun K "led_steps" "led_steps" (top 5) vW nJ
 Kz:Fun K "shortest_ways" "shortest_ways" (top 6) vX nK
 Of:Fun K "lead_along" "lead_along" (top 7) vY nM
 KA:Binds K nJ ["steps","heads"] []
 F0:Binds K nK ["steps","a"] []
 Og:Fun K "parted" "parted" (top 8) vZ nN
 KC:Binds K nH ["n","ties"] []
 KD:Binds K nI ["steps","heads"] []
 KG:Binds K nM ["heads","way"] []
 KH:Binds K nN ["steps","heads","a","b","count"] []
 KI:Fun K "ways_apart" "ways_apart" (top 1) v5 nQ
 F1:Binds K nQ ["n","ties","a","b","most"] []
 Oh:Fun K "hang_often" "hang_often" (top 2) v7 nR
 Oi:Fun K "is_whole" "is_whole" (top 15) v8 nS
 KJ:Binds K nS ["thing"] []
 zS:Fun K "is_within" "is_within" (top 16) v9 nT
 v_:Binds K nT ["thing","low","high"] []
 Hy:Fun K "is_places" "is_places" (top 17) mO gJ
 tN:Fun K "is_place" "is_place" (top 18) mP gK
 Cq:Fun K "is_layers" "is_layers" (top 19) mQ gM
 Hz:Fun K "is_moment" "is_moment" (top 20) mR gO
 pW:Binds K gK ["n","thing"] []
 Cr:Binds K gO ["thing"] []
 HA:Fun K "is_tie_either_way" "is_tie_either_way" (top 21) mS gP
 Cs:Binds K gP ["n","thing"] []
 HB:Fun K "is_tie" "is_tie" (top 22) mT gQ
 HC:Fun K "is_rising" "is_rising" (top 23) mU gR
 HD:Fun K "is_pair" "is_pair" (top 24) mV gS
 yf:Binds K gM ["thing"] []
 HE:Fun K "look_at_layers" "look_at_layers" (top 25) mW gT
 Ct:Binds K gS ["n","a","b"] []
 HF:Fun K "look_at_pair" "look_at_pair" (top 26) mX gU
 HG:Fun K "merged" "merged" (top 28) mY gW
 HH:Fun K "least_layer" "least_layer" (top 31) mZ gX
 Cu:Binds K gT ["k"] []
 Cv:Binds K gW ["groups","a","b"] []
 Cw:Binds K gX ["layers","a","b"] []
 Cy:Fun K "layered" "layered" (top 30) m5 gY
 Cz:Binds K gJ ["thing"] []
 CA:Binds K gQ ["n","thing"] []
 CB:Binds K gR ["things"] []
 HJ:Fun K "is_record" "is_record" (top 34) m6 gZ
 CC:Fun K "since" "since" (top 35) m7 g7
 yg:Binds K gY ["n","record","k"] []
 CD:Binds K gZ ["n","thing"] []
 HK:Fun K "is_net" "is_net" (top 37) m8 g8
 CF:Binds K g8 ["thing"] []
 HL:Fun K "look_at_net" "look_at_net" (top 38) m9 g9
 CG:Binds K g9 ["thing"] []
 HM:Fun K "look_at_net_layers" "look_at_net_layers" (top 39) nc g_
 CH:Fun K "net_of" "net_of" (top 40) ng h_
 KN:Binds K nR ["n","ties","a","b","times"] []
 yh:Binds K g7 ["record","t"] []
 CI:Binds K g_ ["net","j"] []
 nZ:Bd K "classes" "classes" (top 42) jl ia
 CJ:Binds K gU ["n","a","b"] []
 yi:Bd K "hang_of" "hang_of" (top 44) jm nU
 pX:Fun K "_law_pool" "_law_pool" (top 46) nh ic
 bE:Fun K "_law_take" "_law_take" (top 47) ni ie
 bx:Binds K ie ["pool","many"] []
 HN:Fun K "_law_many" "_law_many" (top 48) nj ig
 HP:Fun K "_law_record" "_law_record" (top 49) nk ir
 HQ:Fun K "_law_moment" "_law_moment" (top 50) nt iu
 HR:Fun K "_law_since" "_law_since" (top 51) nu iw
 HS:Fun K "_law_whole" "_law_whole" (top 52) nv iy
 CK:Binds K iy ["thing"] []
 HU:Fun K "_law_wholes" "_law_wholes" (top 53) ny iz
 HV:Fun K "_law_rim" "_law_rim" (top 54) nA iA
 HW:Fun K "_law_sides" "_law_sides" (top 58) nB iB
 CL:Binds K iA ["ties","side"] []
 CM:Binds K iB ["n"] []
 HX:Fun K "_law_hang" "_law_hang" (top 59) nC iC
 CN:Binds K iC ["n","ties","a","b"] []
 CO:Fun K "_law_due" "_law_due" (top 60) nD iD
 CP:Fun K "_law_thick" "_law_thick" (top 61) nE iE
 yj:Binds K h_ ["n","record","k"] []
 yk:Binds K ia ["net","j","t"] []
 wc:Binds K ia ["net","j","t"] [.int 0 iG]
 iH:jt K ia ["net","j","t"] ["t"] (kw1 2) (kw1 2)
 CQ:Binds K nU ["n","record","a","b","most","t"] []
 yl:Binds K iE ["pool","n","many"] []
 HY:Fun K "_law_great" "_law_great" (top 62) nF iF
 n8:Binds K ic ["script","k"] []
 CS:Binds K ig ["pool"] []
 CT:Binds K ir ["pool","n","most"] []
 CU:Binds K iu ["pool","record"] []
 CV:Binds K iw ["record","start"] []
 CW:Binds K iz ["thing"] []
 ym:Binds K iD ["n","ties","j"] []
 CY:Binds K iF ["pool"] []
 Oj:Fun K "law" "law" (top 63) nG jQ
section
variable{P':Program}{w:World}{K:Ds}{mg:Str->Option Value}{base:Heap}{vU vV vW vX vY vZ v5 v7 v8 v9 mO mP mQ mR mS mT mU mV mW mX mY mZ m5 m6 m7 m8 m9 nc ng jl jm nh ni nj nk nt nu nv ny nA nB nC nD nE nF nG:Addr}
variable{nH nI nJ nK nM nN nQ nR nS nT gJ gK gM gO gP gQ gR gS gT gU gW gX gY gZ g7 g8 g9 g_ h_ ia nU ic ie ig ir iu iw iy iz iA iB iC iD iE iF jQ:FuncData}{iG:Tok}
theorem tO:ay ["n","ties","steps","moment","a","b"] ["n","ties"] (ah (top 3)):=fsc
theorem KP:(["n","ties","steps","moment","a","b","place"]:List Str).Nodup:=by decide +kernel
theorem Ol:ay ["steps","heads"] ["steps","heads"] (ah (top 4)):=fsc
theorem KQ:(["steps","heads","row"]:List Str).Nodup:=by decide +kernel
theorem KR:(["steps","heads","row","step"]:List Str).Nodup:=by decide +kernel
theorem Om:ay ["steps","heads"] ["steps","heads"] (ah (top 5)):=fsc
theorem KS:(["steps","heads","row"]:List Str).Nodup:=by decide +kernel
theorem KU:(["steps","heads","row","step"]:List Str).Nodup:=by decide +kernel
theorem tP:ay ["steps","a","ways","pending","place","step"] ["steps","a"] (ah (top 6)):=fsc
theorem CZ:ay ["heads","way","moment","place"] ["heads","way"] (ah (top 7)):=fsc
theorem pY:ay ["steps","heads","a","b","count","left","ways","time","way","moment"] ["steps","heads","a","b","count"] (ah (top 8)):=fsc
theorem KW:(["steps","heads","a","b","count","left","ways","time","way","moment","step"]:List Str).Nodup:=by decide +kernel
theorem ku:ay ["n","ties","a","b","most","steps","heads","side","count","found"] ["n","ties","a","b","most"] (ah (top 1)):=fsc
theorem Oo:ay ["n","ties","a","b","times"] ["n","ties","a","b","times"] (ah (top 2)):=fsc
theorem Oq:ay ["thing"] ["thing"] (ah (top 15)):=fsc
theorem Ot:ay ["thing","low","high"] ["thing","low","high"] (ah (top 16)):=fsc
theorem KY:ay ["thing"] ["thing"] (ah (top 17)):=fsc
theorem KZ:ay ["n","thing"] ["n","thing"] (ah (top 18)):=fsc
theorem K5:ay ["thing"] ["thing"] (ah (top 19)):=fsc
theorem K6:ay ["thing"] ["thing"] (ah (top 20)):=fsc
theorem K7:ay ["n","thing"] ["n","thing"] (ah (top 21)):=fsc
theorem K8:ay ["n","thing"] ["n","thing"] (ah (top 22)):=fsc
theorem K9:ay ["things"] ["things"] (ah (top 23)):=fsc
theorem F2:(["things","at"]:List Str).Nodup:=by decide +kernel
theorem K_:ay ["n","a","b"] ["n","a","b"] (ah (top 24)):=fsc
theorem La:ay ["k"] ["k"] (ah (top 25)):=fsc
theorem Lb:ay ["n","a","b"] ["n","a","b"] (ah (top 26)):=fsc
theorem Lc:ay ["groups","a","b"] ["groups","a","b"] (ah (top 28)):=fsc
theorem F3:(["groups","a","b","group"]:List Str).Nodup:=by decide +kernel
theorem we:ay ["layers","a","b","at","groups"] ["layers","a","b"] (ah (top 31)):=fsc
theorem iI:ay ["n","record","k","layers","numbers","moment","a","b","number"] ["n","record","k"] (ah (top 30)):=fsc
theorem F4:(["n","record","k","layers","numbers","moment","a","b","number","layer"]:List Str).Nodup:=by decide +kernel
theorem Ld:ay ["n","thing"] ["n","thing"] (ah (top 34)):=fsc
theorem F5:(["n","thing","tie"]:List Str).Nodup:=by decide +kernel
theorem F6:(["n","thing","tie"]:List Str).Nodup:=by decide +kernel
theorem Le:ay ["record","t"] ["record","t"] (ah (top 35)):=fsc
theorem F7:(["record","t","tie"]:List Str).Nodup:=by decide +kernel
theorem Lf:ay ["thing"] ["thing"] (ah (top 37)):=fsc
theorem Lg:ay ["thing"] ["thing"] (ah (top 38)):=fsc
theorem Lh:ay ["net","j"] ["net","j"] (ah (top 39)):=fsc
theorem C0:ay ["n","record","k","numbers"] ["n","record","k"] (ah (top 40)):=fsc
theorem yo:(["n","record","k","numbers","tie","number"]:List Str).Nodup:=by decide +kernel
theorem qT:ay ["net","j","t","ties","members","place","homes"] ["net","j","t"] (ah (top 42)):=fsc
theorem F8:(["net","j","t","ties","members","place","homes","first"]:List Str).Nodup:=by decide +kernel
theorem F9:(["net","j","t","ties","members","place","homes","places"]:List Str).Nodup:=by decide +kernel
theorem C1:ay ["n","record","a","b","most","t","found"] ["n","record","a","b","most","t"] (ah (top 44)):=fsc
theorem eE:ay ["script","k","cell","number","found","turn"] ["script","k"] (ah (top 46)):=fsc
theorem C2:ay ["pool","many","digit"] ["pool","many"] (ah (top 47)):=fsc
theorem Li:ay ["pool"] ["pool"] (ah (top 48)):=fsc
theorem cy:ay ["pool","n","most","many","kind","step","times","way","moment","found","k","one","other"] ["pool","n","most"] (ah (top 49)):=fsc
theorem C3:ay ["pool","record","at"] ["pool","record"] (ah (top 50)):=fsc
theorem Lj:ay ["record","start"] ["record","start"] (ah (top 51)):=fsc
theorem F_:(["record","start","tie"]:List Str).Nodup:=by decide +kernel
theorem Ll:ay ["thing"] ["thing"] (ah (top 52)):=fsc
theorem Lm:ay ["thing"] ["thing"] (ah (top 53)):=fsc
theorem Ga:(["thing","part"]:List Str).Nodup:=by decide +kernel
theorem Ln:ay ["ties","side"] ["ties","side"] (ah (top 54)):=fsc
theorem Gb:(["ties","side","tie"]:List Str).Nodup:=by decide +kernel
theorem qU:ay ["n","found","place"] ["n"] (ah (top 58)):=fsc
theorem Gd:(["n","found","place","side"]:List Str).Nodup:=by decide +kernel
theorem qV:ay ["n","ties","a","b","found","side"] ["n","ties","a","b"] (ah (top 59)):=fsc
theorem qW:ay ["n","ties","j","found","place","kin"] ["n","ties","j"] (ah (top 60)):=fsc
theorem Ge:(["n","ties","j","found","place","kin","some"]:List Str).Nodup:=by decide +kernel
theorem Gf:(["n","ties","j","found","place","kin","some"]:List Str).Nodup:=by decide +kernel
theorem iJ:ay ["pool","n","many","found","moment","k","one","other"] ["pool","n","many"] (ah (top 61)):=fsc
theorem iK:ay ["pool","record","start","j","found","place","kin"] ["pool"] (ah (top 62)):=fsc
theorem Gg:(["pool","record","start","j","found","place","kin","some"]:List Str).Nodup:=by decide +kernel
theorem Gh:(["pool","record","start","j","found","place","kin","some"]:List Str).Nodup:=by decide +kernel
theorem bW:ay ["script","pool","at","n","k","record","j","net","ties","start","found"] ["script"] (ah (top 63)):=fsc
theorem Gi:(["script","pool","at","n","k","record","j","net","ties","start","found","some"]:List Str).Nodup:=by decide +kernel
variable(T:Txt mg K base vU vV vW vX vY vZ v5 v7 v8 v9 mO mP mQ mR mS mT mU mV mW mX mY mZ m5 m6 m7 m8 m9 nc ng jl jm nh ni nj nk nt nu nv ny nA nB nC nD nE nF nG nH nI nJ nK nM nN nQ nR nS nT gJ gK gM gO gP gQ gR gS gT gU gW gX gY gZ g7 g8 g9 g_ h_ ia nU ic ie ig ir iu iw iy iz iA iB iC iD iE iF jQ iG)
include T
theorem Ou :
  aQ P' w K mg base CX0 1 vU nH ["n","ties"] (spD Fo):=
 okQ T.Oc tO fun _ _ _ _ _ _ hr=>(JQ 2 ["n","ties","steps","moment","a","b"] ["place"] tO.nd (c_n 6 KP rfl rfl) (qp rfl T.bL (aa (d_v 0) af)) (Bg QV rfl (i_S (d_v 1)) (g_t rfl (bS 3 tO.nd (bS 4 tO.nd (bS 5 tO.nd lK))))
  (GP (Pd (lI hr (d_v 4) (d_v 5)) (JP (GQ (d_v 4) (fB (aa (d_v 3) (aa (d_v 5) af))))
  (GP (GQ (d_v 5) (fB (aa (d_v 3) (aa (d_v 4) af)))))) Na)))
  (av (s_r (d_v 2))))
theorem Ov :
  aQ P' w K mg base CX0 1 vV nI ["steps","heads"] (spD BI):=
 okQ T.Od Ol fun _ _ _ _ _ _ hr=>(av (s_r (dh 0 ["steps","heads"] ["row"] (c_n 2 KQ rfl rfl) (d_v 0) (fun _ _ _ _ _=>cg) (fun _ _ _ _ _=>(dh 2 ["steps","heads","row"] ["step"] (c_n 3 KR rfl rfl) (d_v 2) (fun _ _ _ _ _=>gp (lI hr (A9 hr (d_v 1) (aS (d_v 3) d_i)) (aS (d_v 3) d_i))) (fun _ _ _ _ _=>(d_v 3)))))))
theorem Ow :
  aQ P' w K mg base CX0 1 vW nJ ["steps","heads"] (spD BJ):=
 okQ T.Oe Om fun _ _ _ _ _ _ hr=>(av (s_r (dh 0 ["steps","heads"] ["row"] (c_n 2 KS rfl rfl) (d_v 0) (fun _ _ _ _ _=>cg) (fun _ _ _ _ _=>(dh 2 ["steps","heads","row"] ["step"] (c_n 3 KU rfl rfl) (d_v 2) (fun _ _ _ _ _=>gp (ql hr (A9 hr (d_v 1) (aS (d_v 3) d_i)) (aS (d_v 3) d_i))) (fun _ _ _ _ _=>(d_v 3)))))))
theorem HZ :
  aQ P' w K mg base CX0 1 vX nK ["steps","a"] (spD sH):=
 okQ T.Kz tP fun _ _ _ _ _ _ hr=>(aj (s_a 2 tP.nd (Pa (d_v 1) (cN af)))
  (aj (s_a 3 tP.nd (cN (aa (d_v 1) af)))
  (aj (MR 100 QV (Pc (d_v 3))
  (aj (s_a 4 tP.nd (ES 3 d_i))
  (av (eL QV rfl (i_S (aS (d_v 0) (d_v 4))) (g_n 5 tP.nd)
  (av (cO (JJ hr (aS (d_v 5) d_i) (d_v 2)) (aj (A_ 2 hr (aS (d_v 5) d_i) (aZ (JI hr (d_v 2) (d_v 4)) (cN (aa (d_v 5) af))))
  (av (pB 3 (aS (d_v 5) d_i)))) bB))))))
  (av (s_r (d_v 2))))))
theorem Ox :
  aQ P' w K mg base CX0 1 vY nM ["heads","way"] (spM BK):=by
 refine T.Of.ok CZ (fun vs H Q E h=>dG h) (fun cdv A outer s H vs Q E hr h=>?_);exact ⟨_,(av (eL QV rfl (i_S (d_v 1)) (g_t rfl (bS 2 CZ.nd (bS 3 CZ.nd lK)))
  (av (cO (GO hr (d_v 2) (d_v 0)) (av (s_e (Bo 0 (d_v 2)))) (av (A_ 0 hr (d_v 2) (d_v 3))))))),lR (n:=2) (m:=2) rfl h⟩
theorem Oz :
  aQ P' w K mg base CX0 2 vZ nN ["steps","heads","a","b","count"] (spD zu):=
 okQ T.Og pY fun _ _ _ _ _ _ hr=>(aj (s_a 5 pY.nd (JT rfl T.Ky (aa (d_v 1) af)))
  (aj (s_a 6 pY.nd (cN af))
  (aj (eL QV rfl (qp rfl T.bL (aa (d_v 4) af)) (g_n 7 pY.nd)
  (aj (MV 8 ["steps","heads","a","b","count","left","ways","time","way","moment"] ["step"] pY.nd (c_n 10 KW rfl rfl) (i_S (JI hr (aB (HZ T) (Br.hm hr) rfl T.NJ T.Kz.kp T.F0 (aa (l0 (Ow T) (Br.hm hr) rfl T.PR T.Oe.kp T.KA (aa (d_v 0) (aa (d_v 5) af))) (aa (d_v 2) af))) (d_v 3))) (fun _ _ _ _ _=>cg) (fun _ _ _ _ _=>(aS (d_v 10) d_i)))
  (aj (eL QV rfl (i_S (d_v 8)) (g_n 9 pY.nd)
  (av (s_e (Bo 5 (d_v 9)))))
  (av (pB 6 (d_v 8))))))
  (av (s_r (d_v 6))))))
theorem H_ :
  aQ P' w K mg base CX0 3 v5 nQ ["n","ties","a","b","most"] (spD zv):=
 okQ T.KI ku fun _ _ _ _ _ _ hr=>(aj (s_a 5 ku.nd (aB (Ou T) (Br.hm hr) rfl T.PM T.Oc.kp T.KC (aa (d_v 0) (aa (d_v 1) af))))
  (aj (s_a 6 ku.nd O_)
  (aj (s_a 7 ku.nd d_n)
  (aj (s_a 8 ku.nd d_i)
  (aj (MR 100 QV (t_w (w_and (MP (d_v 8) (d_v 4)) (vd (M7 (d_v 7) d_n))))
  (aj (s_a 9 ku.nd (aB (HZ T) (Br.hm hr) rfl T.NJ T.Kz.kp T.F0 (aa (l0 (Ov T) (Br.hm hr) rfl T.PN T.Od.kp T.KD (aa (d_v 5) (aa (d_v 6) af))) (aa (d_v 2) af))))
  (av (cO (GO hr (d_v 3) (d_v 9)) (aj (s_e (aO (Ox T) (Br.hm hr) rfl T.PV T.Of.kp T.KG (aa (d_v 6) (aa (JI hr (d_v 9) (d_v 3)) af))))
  (av (s_a 8 ku.nd (aZ (d_v 8) d_i)))) (av (s_a 7 ku.nd (kK rfl T.eu (aa (EY rfl rfl T.Co (aa (d_v 9) af)) af))))))))
  (av (s_r (fB (aa (l0 (Oz T) (Br.hm hr) rfl T.PX T.Og.kp T.KH (@aa _ _ _ _ _ (d_v 5) (@aa _ _ _ _ _ (d_v 6) (@aa _ _ _ _ _ (d_v 2) (@aa _ _ _ _ _ (d_v 3) (@aa _ _ _ _ _ (d_v 8) af rfl) rfl) rfl) rfl) rfl)) (aa (d_v 7) af))))))))))
theorem OA :
  aQ P' w K mg base CX0 4 v7 nR ["n","ties","a","b","times"] (spD zw):=
 okQ T.Oh Oo fun _ _ _ _ _ _ hr=>(av (s_r (M6 (aS (aB (H_ T) (Br.hm hr) rfl T.NK T.KI.kp T.F1 (@aa _ _ _ _ _ (d_v 0) (@aa _ _ _ _ _ (d_v 1) (@aa _ _ _ _ _ (d_v 2) (@aa _ _ _ _ _ (d_v 3) (@aa _ _ _ _ _ (d_v 4) af rfl) rfl) rfl) rfl) rfl)) d_i) d_n)))
theorem OB :
  aQ P' w K mg base CX0 1 v8 nS ["thing"] (spD zx):=
 okQ T.Oi Oq fun _ _ _ _ _ _ hr=>(av (s_r (i6 (i7 wU (by rfl) rfl T.yb rfl T.aX (d_v 0)) (lJ (GI (i7 rV (by rfl) rfl T.Cn rfl T.aX (d_v 0)))))))
theorem tQ :
  aQ P' w K mg base CX0 2 v9 nT ["thing","low","high"] (spD sI):=
 okQ T.zS Ot fun _ _ _ _ _ _ hr=>(av (s_r (i6 (aB (OB T) (Br.hm hr) rfl T.PZ T.Oi.kp T.KJ (aa (d_v 0) af)) (lJ (EE Ab AK Ab AK (d_v 1) (d_v 0) (d_v 2))))))
theorem Lo :
  aQ P' w K mg base CX0 3 mO gJ ["thing"] (spD xy):=
 okQ T.Hy KY fun _ _ _ _ _ _ hr=>(av (s_r (aB (tQ T) (Br.hm hr) rfl T.Cp T.zS.kp T.v_ (aa (d_v 0) (aa d_i (aa d_i af))))))
theorem qX :
  aQ P' w K mg base CX0 3 mP gK ["n","thing"] (spD mj):=
 okQ T.tN KZ fun _ _ _ _ _ _ hr=>(av (s_r (aB (tQ T) (Br.hm hr) rfl T.Cp T.zS.kp T.v_ (aa (d_v 1) (aa d_i (aa (pe (d_v 0) d_i) af))))))
theorem C4 :
  aQ P' w K mg base CX0 3 mQ gM ["thing"] (spD mq):=
 okQ T.Cq K5 fun _ _ _ _ _ _ hr=>(av (s_r (aB (tQ T) (Br.hm hr) rfl T.Cp T.zS.kp T.v_ (aa (d_v 0) (aa d_i (aa d_i af))))))
theorem Lp :
  aQ P' w K mg base CX0 3 mR gO ["thing"] (spD xA):=
 okQ T.Hz K6 fun _ _ _ _ _ _ hr=>(av (s_r (aB (tQ T) (Br.hm hr) rfl T.Cp T.zS.kp T.v_ (aa (d_v 0) (aa d_i (aa (i0 d_i d_i) af))))))
theorem Lq :
  aQ P' w K mg base CX0 4 mS gP ["n","thing"] (spD xB):=
 okQ T.HA K7 fun _ _ _ _ _ _ hr=>(aj (cO (t_w (w_or (dF (dg (i7 kit_tuple (by rfl) rfl T.eu rfl T.aX (d_v 1)))) (pA (lI hr (f9 rfl T.gk (aa (d_v 1) af)) d_i)))) (av (s_r d_b)) bB)
  (av (s_r (i6 (aB (Lp T) (Br.hm hr) rfl T.NN T.Hz.kp T.Cr (aa (aS (d_v 1) d_i) af)) (i6 (aB (qX T) (Br.hm hr) rfl T.yd T.tN.kp T.pW (aa (d_v 0) (aa (aS (d_v 1) d_i) af))) (lJ (aB (qX T) (Br.hm hr) rfl T.yd T.tN.kp T.pW (aa (d_v 0) (aa (aS (d_v 1) d_i) af)))))))))
theorem Lr :
  aQ P' w K mg base CX0 5 mT gQ ["n","thing"] (spD xC):=
 okQ T.HB K8 fun _ _ _ _ _ _ hr=>(av (s_r (i6 (aB (Lq T) (Br.hm hr) rfl T.NO T.HA.kp T.Cs (aa (d_v 0) (aa (d_v 1) af))) (lJ (O0 (aS (d_v 1) d_i) (aS (d_v 1) d_i))))))
theorem Ls :
  aQ P' w K mg base CX0 1 mU gR ["things"] (spD xD):=
 okQ T.HC K9 fun _ _ _ _ _ _ hr=>(av (s_r (wW rfl rfl T.ya (aa (Jt ["things"] ["at"] (c_n 1 F2 rfl rfl) (MQ rfl T.bL (aa d_i (aa (f9 rfl T.gk (aa (d_v 0) af)) af))) (fun _ _ _ _ _=>cg) (fun _ _ _ _ _=>(OZ (aS (d_v 0) (pe (d_v 1) d_i)) (aS (d_v 0) (d_v 1))))) af))))
theorem Lu :
  aQ P' w K mg base CX0 4 mV gS ["n","a","b"] (spD xE):=
 okQ T.HD K_ fun _ _ _ _ _ _ hr=>(av (s_r (i6 (aB (qX T) (Br.hm hr) rfl T.yd T.tN.kp T.pW (aa (d_v 0) (aa (d_v 1) af))) (i6 (aB (qX T) (Br.hm hr) rfl T.yd T.tN.kp T.pW (aa (d_v 0) (aa (d_v 2) af))) (lJ (OY hr (d_v 1) (d_v 2)))))))
theorem Lv :
  aQ P' w K mg base CX0 4 mW gT ["k"] (spD xF):=
 okQ T.HE La fun _ _ _ _ _ _ hr=>(av (cO (dF (dg (aB (C4 T) (Br.hm hr) rfl T.Hr T.Cq.kp T.yf (aa (d_v 0) af)))) (av kL) bB))
theorem Lw :
  aQ P' w K mg base CX0 5 mX gU ["n","a","b"] (spD xG):=
 okQ T.HF Lb fun _ _ _ _ _ _ hr=>(av (cO (dF (dg (aB (Lu T) (Br.hm hr) rfl T.NR T.HD.kp T.Ct (aa (d_v 0) (aa (d_v 1) (aa (d_v 2) af)))))) (av kL) bB))
theorem Lx :
  aQ P' w K mg base CX0 1 mY gW ["groups","a","b"] (spD xH):=
 okQ T.HG Lc fun _ _ _ _ _ _ hr=>(av (s_r (dh 0 ["groups","a","b"] ["group"] (c_n 3 F3 rfl rfl) (d_v 0) (fun _ _ _ _ _=>cg) (fun _ _ _ _ _=>(O4 (ql hr (d_v 3) (aS (d_v 0) (d_v 2))) (aS (d_v 0) (d_v 1)) (d_v 3))))))
theorem Ly :
  aQ P' w K mg base CX0 1 mZ gX ["layers","a","b"] (spD sJ):=
 okQ T.HH we fun _ _ _ _ _ _ hr=>(aj (eL QV rfl (O7 rfl T.tL (d_v 0)) (g_t rfl (bS 3 we.nd (bS 4 we.nd lK)))
  (av (cO (lI hr (aS (d_v 4) (d_v 1)) (aS (d_v 4) (d_v 2))) (av (s_r (aZ (d_v 3) d_i))) bB)))
  (av (s_r d_i)))
theorem C5 :
  aQ P' w K mg base CX0 5 m5 gY ["n","record","k"] (spD pO):=
 okQ T.Cy iI fun _ _ _ _ _ _ hr=>(aj (s_e (aB (Lv T) (Br.hm hr) rfl T.NT T.HE.kp T.Cu (aa (d_v 2) af)))
  (aj (MV 3 ["n","record","k","layers","numbers","moment","a","b","number"] ["layer"] iI.nd (c_n 9 F4 rfl rfl) (qp rfl T.bL (aa (d_v 2) af)) (fun _ _ _ _ _=>cg) (fun _ _ _ _ _=>(Jz rfl rfl T.nV rfl T.bL (aa (d_v 0) af))))
  (aj (s_a 4 iI.nd (cN af))
  (aj (eL QV rfl (M0 rfl T.nX (d_v 1)) (g_t rfl (bS 5 iI.nd (bS 6 iI.nd (bS 7 iI.nd lK))))
  (aj (s_a 8 iI.nd (aB (Ly T) (Br.hm hr) rfl T.NW T.HH.kp T.Cw (aa (d_v 3) (aa (d_v 6) (aa (d_v 7) af)))))
  (aj (cO (Jm (d_v 8) d_i) (av (GJ 3 (pe (d_v 8) d_i) (aB (Lx T) (Br.hm hr) rfl T.NV T.HG.kp T.Cv (aa (aS (d_v 3) (pe (d_v 8) d_i)) (aa (d_v 6) (aa (d_v 7) af)))))) bB)
  (av (pB 4 (d_v 8))))))
  (av (s_r (EJ rfl rfl T.nV rfl T.nX (d_v 4))))))))
theorem Lz :
  aQ P' w K mg base CX0 6 m6 gZ ["n","thing"] (spD xJ):=by
 refine T.HJ.ok Ld (fun vs H Q E h=>lF h) (fun cdv A outer s H vs Q E hr h=>?_);obtain⟨jn,tR⟩:=T.nY;exact ⟨_,(aj (cO (t_w (w_or (dF (dg (aB (Lo T) (Br.hm hr) rfl T.NL T.Hy.kp T.Cz (aa (d_v 0) af)))) (w_or (dF (dg (i7 rW (by rfl) rfl T.nV rfl T.aX (d_v 1)))) (pA (Jm (f9 rfl T.gk (aa (d_v 1) af)) (d_g rfl tR)))))) (av (s_r d_b)) bB)
  (aj (cO (dF (dg (wW rfl rfl T.ya (aa (dh 1 ["n","thing"] ["tie"] (c_n 2 F5 rfl rfl) (d_v 1) (fun _ _ _ _ _=>cg) (fun _ _ _ _ _=>(aB (Lr T) (Br.hm hr) rfl T.NP T.HB.kp T.CA (aa (d_v 0) (aa (d_v 2) af))))) af)))) (av (s_r d_b)) bB)
  (av (s_r (aB (Ls T) (Br.hm hr) rfl T.NQ T.HC.kp T.CB (aa (dh 1 ["n","thing"] ["tie"] (c_n 2 F6 rfl rfl) (d_v 1) (fun _ _ _ _ _=>cg) (fun _ _ _ _ _=>(aS (d_v 2) d_i))) af)))))),Ep (n:=2) (m:=0) rfl h⟩
theorem C6 :
  aQ P' w K mg base CX0 1 m7 g7 ["record","t"] (spD mw):=
 okQ T.CC Le fun _ _ _ _ _ _ hr=>(av (s_r (dh 0 ["record","t"] ["tie"] (c_n 2 F7 rfl rfl) (d_v 0) (fun _ _ _ _ _=>gp (EB (aS (d_v 2) d_i) (d_v 1))) (fun _ _ _ _ _=>(d_v 2)))))
theorem LA :
  aQ P' w K mg base CX0 7 m8 g8 ["thing"] (spD xK):=
 okQ T.HK Lf fun _ _ _ _ _ _ hr=>(aj (cO (t_w (w_or (dF (dg (i7 kit_tuple (by rfl) rfl T.eu rfl T.aX (d_v 0)))) (pA (lI hr (f9 rfl T.gk (aa (d_v 0) af)) d_i)))) (av (s_r d_b)) bB)
  (aj (cO (t_w (w_or (dF (dg (aB (C4 T) (Br.hm hr) rfl T.Hr T.Cq.kp T.yf (aa (aS (d_v 0) d_i) af)))) (pA (dF (dg (aB (Lz T) (Br.hm hr) rfl T.NX T.HJ.kp T.CD (aa (aS (d_v 0) d_i) (aa (aS (d_v 0) d_i) af)))))))) (av (s_r d_b)) bB)
  (av (s_r (MO hr d_i (aB (C5 T) (Br.hm hr) rfl T.Ht T.Cy.kp T.yg (aa (aS (d_v 0) d_i) (aa (aS (d_v 0) d_i) (aa (aS (d_v 0) d_i) af)))))))))
theorem LB :
  aQ P' w K mg base CX0 8 m9 g9 ["thing"] (spD xM):=
 okQ T.HL Lg fun _ _ _ _ _ _ hr=>(av (cO (dF (dg (aB (LA T) (Br.hm hr) rfl T.NY T.HK.kp T.CF (aa (d_v 0) af)))) (av kL) bB))
theorem LC :
  aQ P' w K mg base CX0 9 nc g_ ["net","j"] (spD xN):=
 okQ T.HM Lh fun _ _ _ _ _ _ hr=>(aj (s_e (aB (LB T) (Br.hm hr) rfl T.NZ T.HL.kp T.CG (aa (d_v 0) af)))
  (av (cO (dF (dg (aB (tQ T) (Br.hm hr) rfl T.Cp T.zS.kp T.v_ (aa (d_v 1) (aa d_i (aa (aS (d_v 0) d_i) af)))))) (av kL) bB)))
theorem C7 :
  aQ P' w K mg base CX0 6 ng h_ ["n","record","k"] (spD pP):=
 okQ T.CH C0 fun _ _ _ _ _ _ hr=>(aj (s_a 3 C0.nd (aB (C5 T) (Br.hm hr) rfl T.Ht T.Cy.kp T.yg (aa (d_v 0) (aa (d_v 1) (aa (d_v 2) af)))))
  (av (s_r (fB (aa (d_v 0) (aa (d_v 2) (aa (Jt ["n","record","k","numbers"] ["tie","number"] (c_t rfl (fun _ _ _ _ _=>(bS 4 yo (bS 5 yo lK)))) (M3 rfl T.NI (aa (d_v 1) (aa (d_v 3) af))) (fun _ _ _ _ _=>gp (Jm (d_v 5) d_i)) (fun _ _ _ _ _=>(d_v 4))) af)))))))
theorem qY :
  aQ P' w K mg base CX0 10 jl ia ["net","j","t"] (spD kg):=by
 refine T.nZ.ok qT (fun vs H Q E h=>lF h) (fun cdv A outer s H vs Q E hr h=>?_);exact ⟨_,(aj (s_e (aB (LC T) (Br.hm hr) rfl T.N1 T.HM.kp T.CI (aa (d_v 0) (aa (d_v 1) af))))
  (aj (s_a 3 qT.nd (aB (C6 T) (Br.hm hr) rfl T.Hu T.CC.kp T.yh (aa (aS (d_v 0) d_i) (aa (d_v 2) af))))
  (Nj 4 6 7 5 ["net","j","t","ties","members","place","homes"] qT.nd QV rfl (qp rfl T.bL (aa (aS (d_v 0) d_i) af)) (g_n 5 qT.nd) (c_n 7 F8 rfl rfl) (fun _ _ _ _ _=>gp (dg (aB (OA T) (Br.hm hr) rfl T.PY T.Oh.kp T.KN (@aa _ _ _ _ _ (aS (d_v 0) d_i) (@aa _ _ _ _ _ (d_v 3) (@aa _ _ _ _ _ (d_v 7) (@aa _ _ _ _ _ (d_v 5) (@aa _ _ _ _ _ (d_v 1) af rfl) rfl) rfl) rfl) rfl)))) (fun _ _ _ _ _=>(d_v 7)) (J5 rfl rfl T.nW (aa (d_v 6) af) (d_v 5))
  (av (s_r (Jt ["net","j","t","ties","members","place","homes"] ["places"] (c_n 7 F9 rfl rfl) (J1 4) (fun _ _ _ _ _=>cg) (fun _ _ _ _ _=>(kK rfl T.eu (aa (d_v 7) af))))))))),Ep (n:=3) (m:=4) rfl h⟩
theorem LD :
  aQ P' w K mg base CX0 6 jm nU ["n","record","a","b","most","t"] (spD xO):=by
 refine T.yi.ok C1 (fun vs H Q E h=>lF h) (fun cdv A outer s H vs Q E hr h=>?_);exact ⟨_,(aj (s_e (aB (Lw T) (Br.hm hr) rfl T.NU T.HF.kp T.CJ (aa (d_v 0) (aa (d_v 2) (aa (d_v 3) af)))))
  (aj (s_a 6 C1.nd (aB (H_ T) (Br.hm hr) rfl T.NK T.KI.kp T.F1 (@aa _ _ _ _ _ (d_v 0) (@aa _ _ _ _ _ (aB (C6 T) (Br.hm hr) rfl T.Hu T.CC.kp T.yh (aa (d_v 1) (aa (d_v 5) af))) (@aa _ _ _ _ _ (d_v 2) (@aa _ _ _ _ _ (d_v 3) (@aa _ _ _ _ _ (d_v 4) af rfl) rfl) rfl) rfl) rfl)))
  (av (s_r (fB (aa (f9 rfl T.gk (aa (aS (d_v 6) d_i) af)) (aa (aS (d_v 6) d_i) (aa (aS (d_v 6) d_i) af)))))))),Ep (n:=6) (m:=1) rfl h⟩
theorem n9 :
  aQ P' w K mg base CX0 1 nh ic ["script","k"] (spD jd):=
 okQ T.pX eE fun _ _ _ _ _ _ hr=>(aj (s_a 2 eE.nd d_i)
  (aj (cO (MP (d_v 1) (f9 rfl T.gk (aa (d_v 0) af))) (av (s_a 2 eE.nd (aS (d_v 0) (d_v 1)))) bB)
  (aj (cO (EB (d_v 2) (i0 d_i d_i)) (av (s_r (cN (aa (fy (d_v 2) (qv (qv (qv (qv (i0 d_i d_i) (i0 d_i d_i)) (i0 d_i d_i)) (i0 d_i d_i)) (i0 d_i d_i))) af)))) bB)
  (aj (s_a 3 eE.nd (fy (aZ (aZ (aZ (d_v 2) (f7 (f7 d_i (d_v 1)) (d_v 1))) (f7 d_i (d_v 1))) d_i) d_i))
  (aj (s_a 4 eE.nd d_i)
  (aj (eL QV rfl (qp rfl T.bL (aa d_i af)) (g_n 5 eE.nd)
  (aj (s_a 3 eE.nd (fy (aZ (aZ (f7 (d_v 3) d_i) (f7 d_i (d_v 5))) d_i) d_i))
  (aj (s_a 3 eE.nd (fy (f7 (d_v 3) (d_v 3)) d_i))
  (av (s_a 4 eE.nd (aZ (f7 (d_v 4) d_i) (fy (aZ (f7 (d_v 3) d_i) (d_v 1)) d_i)))))))
  (av (s_r (cN (aa (d_v 4) af))))))))))
theorem a_ :
  aQ P' w K mg base CX0 1 ni ie ["pool","many"] (spM bh):=by
 refine T.bE.ok C2 (fun vs H Q E h=>dG h) (fun cdv A outer s H vs Q E hr h=>?_);exact ⟨_,(aj (s_a 2 C2.nd (fy (aS (d_v 0) d_i) (d_v 1)))
  (aj (GJ 0 d_i (MM (aS (d_v 0) d_i) (d_v 1)))
  (av (s_r (d_v 2))))),lR (n:=2) (m:=1) rfl h⟩
theorem LF :
  aQ P' w K mg base CX0 2 nj ig ["pool"] (spM sL):=by
 refine T.HN.ok Li (fun vs H Q E h=>dG h) (fun cdv A outer s H vs Q E hr h=>?_);exact⟨_,(av (s_r (aS (cN (@aa _ _ _ _ _ d_i (@aa _ _ _ _ _ d_i (@aa _ _ _ _ _ d_i (@aa _ _ _ _ _ d_i (@aa _ _ _ _ _ d_i (@aa _ _ _ _ _ d_i (@aa _ _ _ _ _ d_i (@aa _ _ _ _ _ d_i af rfl) rfl) rfl) rfl) rfl) rfl) rfl) rfl)) (aO (a_ T) (Br.hm hr) rfl T.bJ T.bE.kp T.bx (aa (d_v 0) (aa d_i af)))))),lR (n:=1) (m:=0) rfl h⟩
theorem LG :
  aQ P' w K mg base CX0 2 nk ir ["pool","n","most"] (spM pQ):=by
 refine T.HP.ok cy (fun vs H Q E h=>dG h) (fun cdv A outer s H vs Q E hr h=>?_);exact ⟨_,(aj (s_a 3 cy.nd (aO (a_ T) (Br.hm hr) rfl T.bJ T.bE.kp T.bx (aa (d_v 0) (aa (aZ (d_v 2) d_i) af))))
  (aj (s_a 4 cy.nd (aO (a_ T) (Br.hm hr) rfl T.bJ T.bE.kp T.bx (aa (d_v 0) (aa d_i af))))
  (aj (s_a 5 cy.nd (aS (cN (aa d_i (aa d_i (aa (i0 d_i d_i) (aa d_i af))))) (d_v 4)))
  (aj (s_a 6 cy.nd (aS (cN (aa d_i (aa (i0 d_i d_i) af))) (GK rfl T.yb (aa (MN hr (d_v 4) d_i) af))))
  (aj (s_a 7 cy.nd (aO (a_ T) (Br.hm hr) rfl T.bJ T.bE.kp T.bx (aa (d_v 0) (aa d_i af))))
  (aj (s_a 8 cy.nd (f7 (aO (a_ T) (Br.hm hr) rfl T.bJ T.bE.kp T.bx (aa (d_v 0) (aa (d_v 5) af))) (d_v 6)))
  (aj (s_a 9 cy.nd (cN af))
  (aj (eL QV rfl (qp rfl T.bL (aa (d_v 3) af)) (g_n 10 cy.nd)
  (aj (s_a 11 cy.nd (aO (a_ T) (Br.hm hr) rfl T.bJ T.bE.kp T.bx (aa (d_v 0) (aa (d_v 1) af))))
  (aj (s_a 12 cy.nd (aO (a_ T) (Br.hm hr) rfl T.bJ T.bE.kp T.bx (aa (d_v 0) (aa (d_v 1) af))))
  (aj (cO (ql hr (d_v 7) d_i) (av (s_a 12 cy.nd (fy (aZ (d_v 11) d_i) (d_v 1)))) bB)
  (aj (cO (ql hr (d_v 7) d_i) (av (s_a 12 cy.nd (fy (fy (aZ (aZ (d_v 11) (fy (d_v 12) d_i)) d_i) (jE rfl rfl T.nW (aa (d_v 1) (aa d_i af)))) (d_v 1)))) bB)
  (aj (pB 9 (fB (aa (d_v 8) (aa (jE rfl rfl T.nW (aa (d_v 11) (aa (d_v 12) af))) (aa (qo rfl rfl T.yc (aa (d_v 11) (aa (d_v 12) af))) af)))))
  (av (s_a 8 cy.nd (aZ (aZ (d_v 8) d_i) (f7 (aO (a_ T) (Br.hm hr) rfl T.bJ T.bE.kp T.bx (aa (d_v 0) (aa (d_v 5) af))) (d_v 6)))))))))))
  (av (s_r (d_v 9))))))))))),lR (n:=3) (m:=10) rfl h⟩
theorem LH :
  aQ P' w K mg base CX0 2 nt iu ["pool","record"] (spM sM):=by
 refine T.HQ.ok C3 (fun vs H Q E h=>dG h) (fun cdv A outer s H vs Q E hr h=>?_);exact ⟨_,(aj (cO (ql hr (d_v 1) (cN af)) (av (s_r (aO (a_ T) (Br.hm hr) rfl T.bJ T.bE.kp T.bx (aa (d_v 0) (aa d_i af))))) bB)
  (aj (s_a 2 C3.nd (aS (aS (d_v 1) (aO (a_ T) (Br.hm hr) rfl T.bJ T.bE.kp T.bx (aa (d_v 0) (aa (f9 rfl T.gk (aa (d_v 1) af)) af)))) d_i))
  (av (s_r (aS (cN (@aa _ _ _ _ _ d_i (@aa _ _ _ _ _ (d_v 2) (@aa _ _ _ _ _ (aZ (d_v 2) d_i) (@aa _ _ _ _ _ (qo rfl rfl T.yc (aa d_i (aa (pe (d_v 2) d_i) af))) (@aa _ _ _ _ _ (aZ (aS (aS (d_v 1) (GH d_i)) d_i) d_i) (@aa _ _ _ _ _ (d_v 2) af rfl) rfl) rfl) rfl) rfl) rfl)) (aO (a_ T) (Br.hm hr) rfl T.bJ T.bE.kp T.bx (aa (d_v 0) (aa d_i af)))))))),lR (n:=2) (m:=1) rfl h⟩
theorem LI :
  aQ P' w K mg base CX0 1 nu iw ["record","start"] (spD sN):=
 okQ T.HR Lj fun _ _ _ _ _ _ hr=>(av (s_r (dh 0 ["record","start"] ["tie"] (c_n 2 F_ rfl rfl) (d_v 0) (fun _ _ _ _ _=>gp (EB (aS (d_v 2) d_i) (d_v 1))) (fun _ _ _ _ _=>(d_v 2)))))
theorem LJ :
  aQ P' w K mg base CX0 1 nv iy ["thing"] (spD sO):=
 okQ T.HS Ll fun _ _ _ _ _ _ hr=>(av (s_r (i6 (i7 wU (by rfl) rfl T.yb rfl T.aX (d_v 0)) (lJ (GI (i7 rV (by rfl) rfl T.Cn rfl T.aX (d_v 0)))))))
theorem LK :
  aQ P' w K mg base CX0 2 ny iz ["thing"] (spD xP):=
 okQ T.HU Lm fun _ _ _ _ _ _ hr=>(av (s_r (wW rfl rfl T.ya (aa (dh 0 ["thing"] ["part"] (c_n 1 Ga rfl rfl) (d_v 0) (fun _ _ _ _ _=>cg) (fun _ _ _ _ _=>(aB (LJ T) (Br.hm hr) rfl T.N7 T.HS.kp T.CK (aa (d_v 1) af)))) af))))
theorem LL :
  aQ P' w K mg base CX0 1 nA iA ["ties","side"] (spD xQ):=
 okQ T.HV Ln fun _ _ _ _ _ _ hr=>(av (s_r (dh 0 ["ties","side"] ["tie"] (c_n 2 Gb rfl rfl) (d_v 0) (fun _ _ _ _ _=>gp (lI hr (yN hr (aS (d_v 2) d_i) (d_v 1)) (yN hr (aS (d_v 2) d_i) (d_v 1)))) (fun _ _ _ _ _=>(aS (d_v 2) d_i)))))
theorem LM :
  aQ P' w K mg base CX0 1 nB iB ["n"] (spD xR):=
 okQ T.HW qU fun _ _ _ _ _ _ hr=>(aj (s_a 1 qU.nd (cN (aa (fB af) af)))
  (aj (eL QV rfl (MQ rfl T.bL (aa d_i (aa (d_v 0) af))) (g_n 2 qU.nd)
  (av (s_a 1 qU.nd (aZ (d_v 1) (dh 1 ["n","found","place"] ["side"] (c_n 3 Gd rfl rfl) (d_v 1) (fun _ _ _ _ _=>cg) (fun _ _ _ _ _=>(J2 (d_v 3) (fB (aa (d_v 2) af)))))))))
  (av (s_r (MU (d_v 1) (o_s d_i) o_n)))))
theorem LN :
  aQ P' w K mg base CX0 2 nC iC ["n","ties","a","b"] (spD sP):=
 okQ T.HX qV fun _ _ _ _ _ _ hr=>(aj (s_a 4 qV.nd (f9 rfl T.gk (aa (d_v 1) af)))
  (aj (eL QV rfl (i_S (aB (LM T) (Br.hm hr) rfl T.N_ T.HW.kp T.CM (aa (d_v 0) af))) (g_n 5 qV.nd)
  (av (cO (lI hr (yN hr (d_v 2) (d_v 5)) (yN hr (d_v 3) (d_v 5))) (av (s_a 4 qV.nd (jE rfl rfl T.nW (aa (d_v 4) (aa (f9 rfl T.gk (aa (aB (LL T) (Br.hm hr) rfl T.N9 T.HV.kp T.CL (aa (d_v 1) (aa (d_v 5) af))) af)) af))))) bB)))
  (av (s_r (d_v 4)))))
theorem C8 :
  aQ P' w K mg base CX0 3 nD iD ["n","ties","j"] (spD sQ):=
 okQ T.CO qW fun _ _ _ _ _ _ hr=>(GZ 3 qW.nd (Bg QV rfl (qp rfl T.bL (aa (d_v 0) af)) (g_n 4 qW.nd)
  (G4 hr (G0 3 5 6 ["n","ties","j","found","place","kin"] qW.nd Ge rfl (fun _ _ _ _ _=>(EB (aB (LN T) (Br.hm hr) rfl T.Oa T.HX.kp T.CN (aa (d_v 0) (aa (d_v 1) (aa (aS (d_v 6) d_i) (aa (d_v 4) af))))) (d_v 2)))) (G1 3 4) (G3 5 4 d_i)))
  (av (s_r (dh 3 ["n","ties","j","found","place","kin"] ["some"] (c_n 6 Gf rfl rfl) (d_v 3) (fun _ _ _ _ _=>cg) (fun _ _ _ _ _=>(kK rfl T.eu (aa (d_v 6) af)))))))
theorem C9 :
  aQ P' w K mg base CX0 2 nE iE ["pool","n","many"] (spM pR):=by
 refine T.CP.ok iJ (fun vs H Q E h=>dG h) (fun cdv A outer s H vs Q E hr h=>?_);exact ⟨_,(aj (s_a 3 iJ.nd (cN af))
  (aj (s_a 4 iJ.nd (aO (a_ T) (Br.hm hr) rfl T.bJ T.bE.kp T.bx (aa (d_v 0) (aa d_i af))))
  (aj (eL QV rfl (qp rfl T.bL (aa (d_v 2) af)) (g_n 5 iJ.nd)
  (aj (s_a 6 iJ.nd (aO (a_ T) (Br.hm hr) rfl T.bJ T.bE.kp T.bx (aa (d_v 0) (aa (d_v 1) af))))
  (aj (s_a 7 iJ.nd (fy (aZ (aZ (d_v 6) d_i) (aO (a_ T) (Br.hm hr) rfl T.bJ T.bE.kp T.bx (aa (d_v 0) (aa (pe (d_v 1) d_i) af)))) (d_v 1)))
  (aj (pB 3 (fB (aa (d_v 4) (aa (jE rfl rfl T.nW (aa (d_v 6) (aa (d_v 7) af))) (aa (qo rfl rfl T.yc (aa (d_v 6) (aa (d_v 7) af))) af)))))
  (av (s_a 4 iJ.nd (aZ (aZ (d_v 4) d_i) (aO (a_ T) (Br.hm hr) rfl T.bJ T.bE.kp T.bx (aa (d_v 0) (aa d_i af))))))))))
  (av (s_r (d_v 3)))))),lR (n:=3) (m:=5) rfl h⟩
theorem LO :
  aQ P' w K mg base CX0 11 nF iF ["pool"] (spM sS):=by
 refine T.HY.ok iK (fun vs H Q E h=>dG h) (fun cdv A outer s H vs Q E hr h=>?_);exact ⟨_,(aj (s_a 1 iK.nd (aO (C9 T) (Br.hm hr) rfl T.Hx T.CP.kp T.yl (aa (d_v 0) (aa d_i (aa (aZ d_i (aO (a_ T) (Br.hm hr) rfl T.bJ T.bE.kp T.bx (aa (d_v 0) (aa d_i af)))) af)))))
  (aj (s_a 2 iK.nd (aS (aS (d_v 1) (aO (a_ T) (Br.hm hr) rfl T.bJ T.bE.kp T.bx (aa (d_v 0) (aa d_i af)))) d_i))
  (aj (s_a 3 iK.nd (aZ d_i (aO (a_ T) (Br.hm hr) rfl T.bJ T.bE.kp T.bx (aa (d_v 0) (aa d_i af)))))
  (GZ 4 iK.nd (Bg QV rfl (qp rfl T.bL (aa d_i af)) (g_n 5 iK.nd)
  (G4 hr (G0 4 6 7 ["pool","record","start","j","found","place","kin"] iK.nd Gg rfl (fun _ _ _ _ _=>(ql hr (aS (aB (LD T) (Br.hm hr) rfl T.N2 T.yi.kp T.CQ (@aa _ _ _ _ _ d_i (@aa _ _ _ _ _ (d_v 1) (@aa _ _ _ _ _ (aS (d_v 7) d_i) (@aa _ _ _ _ _ (d_v 5) (@aa _ _ _ _ _ (d_v 3) (@aa _ _ _ _ _ (d_v 2) af rfl) rfl) rfl) rfl) rfl) rfl)) d_i) (d_v 3)))) (G1 4 5) (G3 6 5 d_i)))
  (av (s_r (MN hr (aB (qY T) (Br.hm hr) rfl T.ye T.nZ.kp T.yk (aa (aB (C7 T) (Br.hm hr) rfl T.Hv T.CH.kp T.yj (aa d_i (aa (d_v 1) (aa d_i af)))) (aa (d_v 3) (aa (d_v 2) af)))) (dh 4 ["pool","record","start","j","found","place","kin"] ["some"] (c_n 7 Gh rfl rfl) (d_v 4) (fun _ _ _ _ _=>cg) (fun _ _ _ _ _=>(kK rfl T.eu (aa (d_v 7) af))))))))))),lR (n:=1) (m:=6) rfl h⟩
theorem LP :
  aQ P' w K mg base CX0 12 nG jQ ["script"] (spD mD):=
 okQ T.Oj bW fun _ _ _ _ _ _ hr=>(aj (s_a 1 bW.nd (aB (n9 T) (Br.hm hr) rfl T.tM T.pX.kp T.n8 (aa (cN (aa (JK rfl rfl T.NH (aa (d_v 0) af)) af)) (aa d_i af))))
  (aj (cO (t_w (w_and (ql hr (aO (a_ T) (Br.hm hr) rfl T.bJ T.bE.kp T.bx (aa (d_v 1) (aa d_i af))) d_i) (vd (dF (dg (aO (LO T) (Br.hm hr) rfl T.Ob T.HY.kp T.CY (aa (d_v 1) af))))))) (av (s_r d_b)) bB)
  (aj (eL QV rfl (Pf rfl T.bL (aa d_i (aa (qo rfl rfl T.yc (aa d_i (aa (jE rfl rfl T.nW (aa (f9 rfl T.gk (aa (d_v 0) af)) (aa d_i af))) af))) (aa d_i af)))) (g_n 2 bW.nd)
  (aj (s_a 1 bW.nd (aB (n9 T) (Br.hm hr) rfl T.tM T.pX.kp T.n8 (aa (d_v 0) (aa (d_v 2) af))))
  (aj (s_a 3 bW.nd (jE rfl rfl T.nW (aa d_i (aa (aO (LF T) (Br.hm hr) rfl T.N3 T.HN.kp T.CS (aa (d_v 1) af)) af))))
  (aj (s_a 4 bW.nd (aZ d_i (aO (a_ T) (Br.hm hr) rfl T.bJ T.bE.kp T.bx (aa (d_v 1) (aa d_i af)))))
  (aj (s_a 5 bW.nd (qw (LG T) (Br.hm hr) rfl T.N4 T.HP.kp T.CT (aa (aB (n9 T) (Br.hm hr) rfl T.tM T.pX.kp T.n8 (aa (d_v 0) (aa (aZ (d_v 2) d_i) af))) (aa (d_v 3) (aa (aS (cN (aa d_i (aa d_i af))) (GK rfl T.yb (aa (O3 (d_v 3) d_i) af))) af)))))
  (aj (cO (t_w (w_and (ql hr (d_v 2) d_i) (vd (ql hr (aO (a_ T) (Br.hm hr) rfl T.bJ T.bE.kp T.bx (aa (d_v 1) (aa d_i af))) d_i)))) (aj (s_a 3 bW.nd d_i)
  (aj (s_a 4 bW.nd d_i)
  (av (s_a 5 bW.nd (qw (C9 T) (Br.hm hr) rfl T.Hx T.CP.kp T.yl (aa (aB (n9 T) (Br.hm hr) rfl T.tM T.pX.kp T.n8 (aa (d_v 0) (aa (aZ (d_v 2) d_i) af))) (aa d_i (aa (aZ d_i (aO (a_ T) (Br.hm hr) rfl T.bJ T.bE.kp T.bx (aa (d_v 1) (aa d_i af)))) af)))))))) bB)
  (aj (s_a 6 bW.nd (aZ d_i (aO (a_ T) (Br.hm hr) rfl T.bJ T.bE.kp T.bx (aa (d_v 1) (aa (d_v 4) af)))))
  (aj (s_a 7 bW.nd (aB (C7 T) (Br.hm hr) rfl T.Hv T.CH.kp T.yj (aa (d_v 3) (aa (d_v 5) (aa (d_v 4) af)))))
  (aj (s_a 8 bW.nd (Jo rfl T.nV (aa (aS (d_v 7) d_i) af)))
  (aj (s_a 9 bW.nd (qw (LH T) (Br.hm hr) rfl T.N5 T.HQ.kp T.CU (aa (aB (n9 T) (Br.hm hr) rfl T.tM T.pX.kp T.n8 (aa (d_v 0) (aa (aZ (d_v 2) d_i) af))) (aa (d_v 5) af))))
  (aj (s_a 10 bW.nd (aB (qY T) (Br.hm hr) rfl T.ye T.nZ.kp T.yk (aa (d_v 7) (aa (d_v 6) (aa (d_v 9) af)))))
  (aj (cO (t_w (w_or (dF (dg (i7 rW (by rfl) rfl T.nV rfl T.aX (d_v 10)))) (pA (lI hr (d_v 10) (aB (C8 T) (Br.hm hr) rfl T.Hw T.CO.kp T.ym (aa (d_v 3) (aa (aB (LI T) (Br.hm hr) rfl T.N6 T.HR.kp T.CV (aa (d_v 5) (aa (d_v 9) af))) (aa (d_v 6) af)))))))) (av (s_r d_b)) bB)
  (aj (cO (dF (dg (wW rfl rfl T.ya (aa (dh 10 ["script","pool","at","n","k","record","j","net","ties","start","found"] ["some"] (c_n 11 Gi rfl rfl) (d_v 10) (fun _ _ _ _ _=>cg) (fun _ _ _ _ _=>(i6 (i7 kit_tuple (by rfl) rfl T.eu rfl T.aX (d_v 11)) (lJ (aB (LK T) (Br.hm hr) rfl T.N8 T.HU.kp T.CW (aa (d_v 11) af)))))) af)))) (av (s_r d_b)) bB)
  (aj (pB 10 (fB (aa d_i af)))
  (aj (cO (t_w (w_or (lI hr (EW (qY T) (Br.hm hr) rfl T.ye T.nZ.kp T.wc (aa (d_v 7) (aa (d_v 6) af))) (aB (C8 T) (Br.hm hr) rfl T.Hw T.CO.kp T.ym (aa (d_v 3) (aa (d_v 8) (aa (d_v 6) af))))) (pA (lI hr (E5 (qY T) (Br.hm hr) rfl T.ye T.nZ.kp T.iH (d_v 7) (d_v 6) (d_v 9)) (MU (d_v 10) o_n (o_s (GH d_i))))))) (av (s_r d_b)) bB)
  (av (cO (lI hr (d_v 7) (fB (aa (d_v 3) (aa (d_v 4) (aa (d_v 8) af))))) (av (s_r d_b)) bB)))))))))))))))))
  (av (s_r d_b)))))
end
theorem all_mk{l:S3}{w:World}{K:Ds}{h:Heap}{mg:Str->Option Value}{fa vU vV vW vX vY vZ v5 v7 v8 v9 mO mP mQ mR mS mT mU mV mW mX mY mZ m5 m6 m7 m8 m9 nc ng jl jm nh ni nj nk nt nu nv ny nA nB nC nD nE nF nG:Addr}{nH nI nJ nK nM nN nQ nR nS nT gJ gK gM gO gP gQ gR gS gT gU gW gX gY gZ g7 g8 g9 g_ h_ ic ie ig ir iu iw iy iz iA iB iC iD iE iF jQ:FuncData}(X:K.In h)(G:h.Ns mainGlobals mg)(hfa:mg "law" = some (.ref fa))
  {LQ n_:Option Addr} {LR:Array (Option Value)} {LS oh oj oq jR ou:Value} {jS:Addr} {iG:Tok} {wg:Nat} {tS:Value} {tT:Option Addr} {tU:Array (Option Value)}
  {LU C_:Option Addr} {LV:Array (Option Value)} {LW Dc Dd De wj Df:Value} {wk:Addr} {LX:Tok} {wo:Nat} {tW:Value} {tX:Option Addr} {tY:Array (Option Value)}
  {jn:Tok}
  (Dg:aW K "steps_of" (top 3) vU nH)
  (Dh:aW K "free_steps" (top 4) vV nI)
  (Di:aW K "led_steps" (top 5) vW nJ)
  (Dj:aW K "shortest_ways" (top 6) vX nK)
  (Dl:aW K "lead_along" (top 7) vY nM)
  (Dq:aW K "parted" (top 8) vZ nN)
  (Dr:aW K "ways_apart" (top 1) v5 nQ)
  (Dt:aW K "hang_often" (top 2) v7 nR)
  (Du:aW K "is_whole" (top 15) v8 nS)
  (Dv:aW K "is_within" (top 16) v9 nT)
  (tZ:aW K "is_places" (top 17) mO gJ)
  (t7:aW K "is_place" (top 18) mP gK)
  (t8:aW K "is_layers" (top 19) mQ gM)
  (t9:aW K "is_moment" (top 20) mR gO)
  (t_:aW K "is_tie_either_way" (top 21) mS gP)
  (ua:aW K "is_tie" (top 22) mT gQ)
  (uc:aW K "is_rising" (top 23) mU gR)
  (ud:aW K "is_pair" (top 24) mV gS)
  (ue:aW K "look_at_layers" (top 25) mW gT)
  (uf:aW K "look_at_pair" (top 26) mX gU)
  (ug:aW K "merged" (top 28) mY gW)
  (uh:aW K "least_layer" (top 31) mZ gX)
  (um:aW K "layered" (top 30) m5 gY)
  (uo:aW K "is_record" (top 34) m6 gZ)
  (uq:aW K "since" (top 35) m7 g7)
  (ur:aW K "is_net" (top 37) m8 g8)
  (uu:aW K "look_at_net" (top 38) m9 g9)
  (uv:aW K "look_at_net_layers" (top 39) nc g_)
  (uw:aW K "net_of" (top 40) ng h_)
  (Dw:QS K mainGlobals "classes" = some (some (.ref jl))) (Dy:K.lookup jl=some ⟨LS,LQ,.func (QD "classes" "classes" (aN (top 42)) (aL (top 42)) (ah (top 42)) (.ref jS) oh oj oq n_ jR ou),LR⟩) (Dz:RG K jR "classes" = true) (DB:QY K (.ref jl)=true)
  (ux:K.lookup jS=some ⟨tS,tT,.seq #[.int 0 iG] wg,tU⟩)
  (DC:QS K mainGlobals "hang_of" = some (some (.ref jm))) (DF:K.lookup jm=some ⟨LW,LU,.func (QD "hang_of" "hang_of" (aN (top 44)) (aL (top 44)) (ah (top 44)) (.ref wk) Dc Dd De C_ wj Df),LV⟩) (DG:RG K wj "hang_of" = true) (DH:QY K (.ref jm)=true)
  (DJ:K.lookup wk=some ⟨tW,tX,.seq #[.int 0 LX] wo,tY⟩)
  (uy:aW K "_law_pool" (top 46) nh ic)
  (uz:aW K "_law_take" (top 47) ni ie)
  (uA:aW K "_law_many" (top 48) nj ig)
  (uB:aW K "_law_record" (top 49) nk ir)
  (uC:aW K "_law_moment" (top 50) nt iu)
  (uD:aW K "_law_since" (top 51) nu iw)
  (uE:aW K "_law_whole" (top 52) nv iy)
  (uF:aW K "_law_wholes" (top 53) ny iz)
  (uG:aW K "_law_rim" (top 54) nA iA)
  (uH:aW K "_law_sides" (top 58) nB iB)
  (uI:aW K "_law_hang" (top 59) nC iC)
  (uJ:aW K "_law_due" (top 60) nD iD)
  (uK:aW K "_law_thick" (top 61) nE iE)
  (uL:aW K "_law_great" (top 62) nF iF)
  (pZ:aW K "law" (top 63) nG jQ)
  (DK:QS K mainGlobals "all" = some none)
  (wu:QS K mainGlobals "bool" = some none)
  (wz:QS K mainGlobals "dict" = some none)
  (fL:QS K mainGlobals "enumerate" = some none)
  (DL:QS K mainGlobals "int" = some none)
  (eG:QS K mainGlobals "isinstance" = some none)
  (DM:QS K mainGlobals "len" = some none)
  (wA:QS K mainGlobals "list" = some none)
  (DO:QS K mainGlobals "max" = some none)
  (DP:QS K mainGlobals "min" = some none)
  (qZ:QS K mainGlobals "range" = some none)
  (iM:QS K mainGlobals "reversed" = some none)
  (oz:QS K mainGlobals "sorted" = some none)
  (DQ:QS K mainGlobals "sum" = some none)
  (q_:QS K mainGlobals "tuple" = some none)
  (DR:QS K mainGlobals "zip" = some none)
  (fM:QS K mainGlobals "MOST_TIES" = some (some (.int 60 jn))) :
  ∃fd:FuncData,(∀(s:Shared) (v:Value),BindsTo s fd ⟨[v],[]⟩ [("script",v)])/\∀base:Heap,K.In base->base.Ns mainGlobals mg->aQ l.prog w K mg base CX0 12 fa fd ["script"] (spD mD):=by
 have e:=hfa.symm.trans (pZ.m X G);cases e;have KC:=Dg.F.bO (ps:=["n","ties"]) rfl fun _ _ _ _ _ _ _ _=>rfl;have KD:=Dh.F.bO (ps:=["steps","heads"]) rfl fun _ _ _ _ _ _ _ _=>rfl;have KA:=Di.F.bO (ps:=["steps","heads"]) rfl fun _ _ _ _ _ _ _ _=>rfl;have F0:=Dj.F.bO (ps:=["steps","a"]) rfl fun _ _ _ _ _ _ _ _=>rfl;have KG:=Dl.F.bO (ps:=["heads","way"]) rfl fun _ _ _ _ _ _ _ _=>rfl;have KH:=Dq.F.vD (ps:=["steps","heads","a","b","count"]) rfl fun _ _ _ _ _ _ _ _ _ _ _=>rfl;have F1:=Dr.F.vD (ps:=["n","ties","a","b","most"]) rfl fun _ _ _ _ _ _ _ _ _ _ _=>rfl;have KN:=Dt.F.vD (ps:=["n","ties","a","b","times"]) rfl fun _ _ _ _ _ _ _ _ _ _ _=>rfl;have KJ:=Du.F.cG (ps:=["thing"]) rfl fun _ _ _ _ _ _ _=>rfl;have v_:=Dv.F.dN (ps:=["thing","low","high"]) rfl fun _ _ _ _ _ _ _ _ _=>rfl;have Cz:=tZ.F.cG (ps:=["thing"]) rfl fun _ _ _ _ _ _ _=>rfl;have pW:=t7.F.bO (ps:=["n","thing"]) rfl fun _ _ _ _ _ _ _ _=>rfl;have yf:=t8.F.cG (ps:=["thing"]) rfl fun _ _ _ _ _ _ _=>rfl;have Cr:=t9.F.cG (ps:=["thing"]) rfl fun _ _ _ _ _ _ _=>rfl;have Cs:=t_.F.bO (ps:=["n","thing"]) rfl fun _ _ _ _ _ _ _ _=>rfl;have CA:=ua.F.bO (ps:=["n","thing"]) rfl fun _ _ _ _ _ _ _ _=>rfl;have CB:=uc.F.cG (ps:=["things"]) rfl fun _ _ _ _ _ _ _=>rfl;have Ct:=ud.F.dN (ps:=["n","a","b"]) rfl fun _ _ _ _ _ _ _ _ _=>rfl;have Cu:=ue.F.cG (ps:=["k"]) rfl fun _ _ _ _ _ _ _=>rfl;have CJ:=uf.F.dN (ps:=["n","a","b"]) rfl fun _ _ _ _ _ _ _ _ _=>rfl;have Cv:=ug.F.dN (ps:=["groups","a","b"]) rfl fun _ _ _ _ _ _ _ _ _=>rfl;have Cw:=uh.F.dN (ps:=["layers","a","b"]) rfl fun _ _ _ _ _ _ _ _ _=>rfl;have yg:=um.F.dN (ps:=["n","record","k"]) rfl fun _ _ _ _ _ _ _ _ _=>rfl;have CD:=uo.F.bO (ps:=["n","thing"]) rfl fun _ _ _ _ _ _ _ _=>rfl;have yh:=uq.F.bO (ps:=["record","t"]) rfl fun _ _ _ _ _ _ _ _=>rfl;have CF:=ur.F.cG (ps:=["thing"]) rfl fun _ _ _ _ _ _ _=>rfl;have CG:=uu.F.cG (ps:=["thing"]) rfl fun _ _ _ _ _ _ _=>rfl;have CI:=uv.F.bO (ps:=["net","j"]) rfl fun _ _ _ _ _ _ _ _=>rfl;have yj:=uw.F.dN (ps:=["n","record","k"]) rfl fun _ _ _ _ _ _ _ _ _=>rfl;have nZ:=xg (st:=top 42) Dy Dz DB;have yk:Binds K (QD "classes" "classes" (aN (top 42)) (aL (top 42)) (ah (top 42)) (.ref jS) oh oj oq n_ jR ou) ["net","j","t"] []:=fun s us hIn hl=>match us,hl with | [_,_,_],_=>Sv hIn rfl ux rfl rfl rfl
 have wc:Binds K (QD "classes" "classes" (aN (top 42)) (aL (top 42)) (ah (top 42)) (.ref jS) oh oj oq n_ jR ou) ["net","j","t"] [.int 0 iG]:=fun s us hIn hl=>vg (C:=fun us=>BindsTo s (QD "classes" "classes" (aN (top 42)) (aL (top 42)) (ah (top 42)) (.ref jS) oh oj oq n_ jR ou) ⟨us,[]⟩ ((["net","j","t"]:List Str).zip (us++[.int 0 iG]))) (by simpa using hl) fun _ _=>Sv hIn rfl ux rfl rfl rfl;have iH:jt K (QD "classes" "classes" (aN (top 42)) (aL (top 42)) (ah (top 42)) (.ref jS) oh oj oq n_ jR ou) ["net","j","t"] ["t"] (kw1 2) (kw1 2):=E3 fun s v0 v1 v2 hIn=>Sv hIn rfl ux rfl rfl rfl;have yi:=xg (st:=top 44) DF DG DH;have CQ:Binds K (QD "hang_of" "hang_of" (aN (top 44)) (aL (top 44)) (ah (top 44)) (.ref wk) Dc Dd De C_ wj Df) ["n","record","a","b","most","t"] []:=fun s us hIn hl=>match us,hl with | [_,_,_,_,_,_],_=>Sv hIn rfl DJ rfl rfl rfl
 have n8:=uy.F.bO (ps:=["script","k"]) rfl fun _ _ _ _ _ _ _ _=>rfl;have bx:=uz.F.bO (ps:=["pool","many"]) rfl fun _ _ _ _ _ _ _ _=>rfl;have CS:=uA.F.cG (ps:=["pool"]) rfl fun _ _ _ _ _ _ _=>rfl;have CT:=uB.F.dN (ps:=["pool","n","most"]) rfl fun _ _ _ _ _ _ _ _ _=>rfl;have CU:=uC.F.bO (ps:=["pool","record"]) rfl fun _ _ _ _ _ _ _ _=>rfl;have CV:=uD.F.bO (ps:=["record","start"]) rfl fun _ _ _ _ _ _ _ _=>rfl;have CK:=uE.F.cG (ps:=["thing"]) rfl fun _ _ _ _ _ _ _=>rfl;have CW:=uF.F.cG (ps:=["thing"]) rfl fun _ _ _ _ _ _ _=>rfl;have CL:=uG.F.bO (ps:=["ties","side"]) rfl fun _ _ _ _ _ _ _ _=>rfl;have CM:=uH.F.cG (ps:=["n"]) rfl fun _ _ _ _ _ _ _=>rfl;have CN:=uI.F.JV (ps:=["n","ties","a","b"]) rfl fun _ _ _ _ _ _ _ _ _ _=>rfl;have ym:=uJ.F.dN (ps:=["n","ties","j"]) rfl fun _ _ _ _ _ _ _ _ _=>rfl;have yl:=uK.F.dN (ps:=["pool","n","many"]) rfl fun _ _ _ _ _ _ _ _ _=>rfl;have CY:=uL.F.cG (ps:=["pool"]) rfl fun _ _ _ _ _ _ _=>rfl;refine⟨_,fun s v=>pZ.Ph (fun _ _ _ _ _ _ _=>rfl) s v,fun base Xb _=>?_⟩;have T:Txt mg K base ..:=⟨mno X G DK,mno X G wu,mno X G wz,mno X G fL,mno X G DL,mno X G eG,mno X G DM,mno X G wA,mno X G DO,mno X G DP,mno X G qZ,mno X G iM,mno X G oz,mno X G DQ,mno X G q_,mno X G DR,⟨_,mgo X G fM⟩,Dg.m X G,Dh.m X G,Di.m X G,Dj.m X G,Dl.m X G,Dq.m X G,Dr.m X G,Dt.m X G,Du.m X G,Dv.m X G,tZ.m X G,t7.m X G,t8.m X G,t9.m X G,t_.m X G,ua.m X G,uc.m X G,ud.m X G,ue.m X G,uf.m X G,ug.m X G,uh.m X G,um.m X G,uo.m X G,uq.m X G,ur.m X G,uu.m X G,uv.m X G,uw.m X G,mgo X G Dw,mgo X G DC,uy.m X G,uz.m X G,uA.m X G,uB.m X G,uC.m X G,uD.m X G,uE.m X G,uF.m X G,uG.m X G,uH.m X G,uI.m X G,uJ.m X G,uK.m X G,uL.m X G,pZ.m X G,Dg.F,Dh.F,Di.F,Dj.F,Dl.F,KA,F0,Dq.F,KC,KD,KG,KH,Dr.F,F1,Dt.F,Du.F,KJ,Dv.F,v_,tZ.F,t7.F,t8.F,t9.F,pW,Cr,t_.F,Cs,ua.F,uc.F,ud.F,yf,ue.F,Ct,uf.F,ug.F,uh.F,Cu,Cv,Cw,um.F,Cz,CA,CB,uo.F,uq.F,yg,CD,ur.F,CF,uu.F,CG,uv.F,uw.F,KN,yh,CI,nZ,CJ,yi,uy.F,uz.F,bx,uA.F,uB.F,uC.F,uD.F,uE.F,CK,uF.F,uG.F,uH.F,CL,CM,uI.F,CN,uJ.F,uK.F,yj,yk,wc,iH,CQ,yl,uL.F,n8,CS,CT,CU,CV,CW,ym,CY,pZ.F⟩
 exact LP T
theorem walk{l:S3}{q:Program}{loose:List Str}{XP:(Str->Option Value)->Heap->Prop}{YP:World->Heap->Prop}{d:DefRec}{K:Params->Ds}(hn:l.most=some 63)(hdf:d.params.defaults=[])
  (hY:∀(w:World) (h:Heap),YP w h->(K w.params).In h) (M:∀ns:List Int,ns.length<=63->mD [.lst (ns.map Dat.int)]=some (.val (.bl true))) (hK:∀w:World,AW (K w.params)=true)
  (F:∀ (w:World) (mg:Str→Option Value) (fa:Addr) (h:Heap),(K w.params).In h→h.Ns mainGlobals mg→mg d.name=some (.ref fa) →
   ∃fd:FuncData,(∀(s:Shared) (u:Value),BindsTo s fd ⟨[u],[]⟩ [("script",u)])/\∀base:Heap,(K w.params).In base->base.Ns mainGlobals mg->aQ l.prog w (K w.params) mg base CX0 12 fa fd ["script"] (spD mD)) :
  PySem.W.WalkO q loose XP YP l.row.toRowW d [] (fun f vs=>PySem.call f vs):=
 L2.Ec (n:=63) (k:=12) (x := "script") (CX:=fun _=>CX0) (sp:=fun _=>spD mD) hn (by decide) hdf ⟨rfl,by decide,by decide,rfl⟩ hY F
  (fun w H a ns hl hO hS=>Ju (M ns hl) (hK w) hS) fun _ _ _ _ _ z=>z
open PySem PySem.W PySem.W.X
theorem DU{q:Program}{loose:List Str}{XP:(Str->Option Value)->Heap->Prop}{r:RowW}{d:DefRec}{kwd:List (Str×Expr)}{run:Value->List Value->Sem Value}{K:Params->Frag}{as:List Addr}{n t:Nat}(e:∀P,as=(K P).map (·.1))
  (W:WalkO q loose XP (fun w h=>(K w.params).In h) r d kwd run):WalkX q loose XP (obsZ as) (valZ K n t) r d kwd run:=
 fun w s₀ s₁ mg mb G y a o pm cd doc dV kV ho hd Nt hD hmg hg args vals as' L=>W w s₀ s₁ mg mb G (InK.keeps w _ _ (z_facts e y).2.1 L.keeps) a o pm cd doc dV kV ho hd Nt hD hmg hg args vals as'
end Q
noncomputable def PySem.W.Fast.tw2682808991928800274:PySem.Program:=PySem.Challenge.pw_sinceply_k34_classes_told
theorem PySem.W.Fast.te2682808991928800274:PySem.Challenge.pw_sinceply_k34_classes_told=PySem.W.Fast.tw2682808991928800274:=rfl
namespace PySem.W.Fast
def tw8340624125474067971:=0
def tw6881798335068649831:=0
def tw14355631404872783566:=0
def tw15025880380154524914:=0
def tw16674240327574352296:=0
def tw4111284096188691838:=0
def tw24147421405083482:=0
def tw11449621591088818715:=0
def tw16148428101736775472:=0
def tw14279510807726234530:=0
def tw12878232164167240705:=0
def tw999946566941184317:=0
def tw12935249373404100302:=0
def tw16559850589461866048:=0
def tw13537798809833026469:=0
def tw16146138055224431544:=0
def tw6534703524530678287:=0
def tw12449010988839028137:=0
def tw10718337126109450066:=0
def tw13086384634351046633:=0
def tw4428178392385589721:=0
def tw5667007080032400882:=0
def tw9490950504469637398:=0
def tw2878510756176011203:=0
def tw22934003864653654:=0
def tw17527805713016538372:=0
def tw1121353645829649580:=0
def tw505205784905105032:=0
def tw15030207191244119638:=0
def tw14104050443013970625:=0
def tw17514305737993913637:=0
def tw17606335926719833678:=0
def tw2542060261676543254:=0
def tw3239121815233232475:=0
def tw10470630311034639338:=0
def tw6064517596634575313:=0
def tw13253405544334702595:=0
def tw16031915545414850842:=0
def tw9705963801452357837:=0
def tw12684597539939898893:=0
def tw8432636880334918023:=0
def tw10349715380636664528:=0
def tw12389755057675250370:=0
def tw14678790585410688672:=0
def tw1757783133000521467:=0
def tw4933793496613318904:=0
def tw17380674223683592198:=0
def tw5744049607465963433:=0
def tw3839316633760461658:=0
def tw6122016467488969930:=0
def tw1549847202687625009:=0
def tw9212501406869504365:=0
def tw5334383895350748620:=0
def tw12933273164031897616:=0
def tw5461242910214247797:=0
def tw4070847535652288755:=0
def tw18403808080750369505:=0
def tw4887111070915197819:=0
def tw2735800292066310013:=0
def tw8731524060446883310:=0
def tw3968376112221045111:=0
def tw11996036907379512258:=0
def tw3999947800905330932:=0
def tw2768839103326184914:=0
def tw8105220295144135554:=0
def tw8376899848319683915:=0
def tw13488678996253152432:=0
def tw6719981296086143088:=0
def tw13536830597814349350:=0
def tw4369930842952454494:=0
def tw5037258717934113939:=0
def tw13840285591328790423:=0
def tw852959849712984435:=0
def tw15656773710597808048:=0
def tw2361147715408132559:=0
def tw867314961344452099:=0
def tw17698397400934646848:=0
def tw4671582719842457129:=0
def tw15220642139280355163:=0
def tw6346270806600649895:=0
def tw13763914517843176928:=0
def tw2308211799434899344:=0
def tw18322711380745435462:=0
def tw3850343414659859388:=0
def tw930734293710176908:=0
def tw8218941732626709880:=0
def tw10411295720624897267:=0
def tw5627198477084116367:=0
def tw12329458876624174042:=0
def tw9257299456631575011:=0
def tw17204283275469146594:=0
def tw15688456672405892976:=0
def tw10645833593804442537:=0
def tw8623400261748626686:=0
def tw11228082989154468124:=0
def tw6448754857862557897:=0
def tw14866024958376372238:=0
def tw5506962276281060279:=0
def tw8552787263060173212:=0
def tw4920563329266044100:=0
def tw10986577687797849846:=0
def tw10770594788446254713:=0
def tw10811289076624173858:=0
def tw5661932587946239111:=0
def tw1409718490000735398:=0
def tw11229200598168620432:=0
def tw5201014814188177828:=0
def tw4509567987742762437:=0
def tw3936792811277041465:=0
def tw446476013146319159:=0
def tw2277968362816618919:=0
def tw14686308545139789262:=0
def tw16321257642613601196:=0
def tw4377163613978629413:=0
def tw10260612876302063862:=0
def tw17024247933504531612:=0
def tw11349954746241182922:=0
def tw15141180409676331460:=0
def tw16195518228474923225:=0
def tw13721608463513548471:=0
def tw15659070180037384627:=0
def tw7228810529498413372:=0
def tw1859503565245520134:=0
def tw9963309978407666:=0
def tw5101108814345835152:=0
def tw11067937285034319836:=0
def tw1797107942807854513:=0
def tw9433629771557896306:=0
def tw3125026398601589570:=0
def tw17094808958050982272:=0
def tw1139549598075379904:=0
def tw6495887093291110236:=0
def tw3911695698700198231:=0
def tw11453798939952969274:=0
def tw16171001748458743781:=0
def tw2961420257721428240:=0
def tw1439730281334022624:=0
def tw9394975860022904523:=0
def tw83025377908170628:=0
def tw5116837636508444343:=0
def tw5287571096739968240:=0
def tw5640111658213501847:=0
def tw10944707021573392875:=0
def tw15393973960537000359:=0
def tw7774423020106774629:=0
def tw4734691920710083961:=0
def tw4621688515958329866:=0
def tw8593880968106382655:=0
def tw11822477571030643450:=0
def tw1354357723386682422:=0
def tw2761802941316868549:=0
def tw4409811989025140096:=0
def tw7298971484172030267:=0
def tw10391961214338065982:=0
def tw6410040730758705741:=0
def tw3649107457802407049:=0
def tw13060298639722277581:=0
def tw11455475700428142769:=0
def tw12036641352979594527:=0
def tw16615846507371145703:=0
def tw9967741434792409696:=0
def tw17516932943633608699:=0
def tw11025662081365708760:=0
def tw16924143808817824566:=0
def tw5982218692233100831:=0
def tw9565531906674395133:=0
def tw2464733647417162588:=0
def tw6551002262297813462:=0
def tw6528049675689245990:=0
def tw4877836405454953222:=0
def tw2442948606724566335:=0
def tw15086977565717938344:=0
def tw15304292834295990510:=0
def tw10704514847568432124:=0
def tw17069588191170551283:=0
def tw300260809397192090:=0
def tw5211309310392092031:=0
def tw15270491646761027678:=0
def tw650371937112016391:=0
def tw15515293748956429475:=0
def tw6988007210706120625:=0
def tw9902851949418442798:=0
def tw4777298762199751783:=0
def tw5899017574176979546:=0
def tw3032216453851310561:=0
def tw6514285997831605572:=0
def tw16203916334183562474:=0
def tw13868202612667461028:=0
def tw15457157153373414641:=0
def tw6771646986159226424:=0
def tw14342159790190398041:=0
def tw2705361435503624228:=0
def tw16713617881048362158:=0
def tw7079396904549221942:=0
def tw6924346392703983307:=0
def tw2545375663445013825:=0
def tw5375070492273764346:=0
def tw10985546144728616937:=0
def tw9759109712301370547:=0
def tw8731486814999871242:=0
def tw3494010804999696880:=0
def tw1500446826250108253:=0
def tw14834812515515893294:=0
def tw16533975691304547760:=0
def tw18234801421004901103:=0
def tw17827026678366335034:=0
def tw1168209459840644538:=0
def tw4243336761152787772:=0
def tw8281253446371210151:=0
def tw7898935847578363386:=0
def tw7869403559146714406:=0
def tw15464986256001616837:=0
def tw4253991239885406222:=0
def tw8656288566277601917:=0
def tw7750209046821240415:=0
def tw10613439625766558783:=0
def tw216915071069208037:=0
def tw9681525231637188710:=0
def tw664189064974142029:=0
def tw2291813472372879890:=0
def tw2891321089341271313:=0
def tw3474708189090834260:=0
def tw12974273864425136081:=0
def tw11212477563101190928:=0
def tw6124472212590978309:=0
def tw1044278116220751903:=0
def tw3738760337334423854:=0
def tw4559850721390549676:=0
def tw527421628299018552:=0
def tw16962177765529813274:=0
def tw14992195192152789646:=0
def tw9437362690236675029:=0
def tw10721783082312223461:=0
def tw3358607262166266312:=0
def tw16733284668925612631:=0
def tw10450017036892409465:=0
def tw2668332138893715950:=0
def tw15085012484015829634:=0
def tw2852838671992757458:=0
def tw8636330477642557670:=0
def tw10927170268840237082:=0
def tw3470918945801280056:=0
def tw8589081046663282867:=0
def tw18380254875327619977:=0
def tw7935622601064062042:=0
def tw12894666615625749749:=0
def tw17683053497937829151:=0
def tw5126067372821547426:=0
def tw5598496741074004430:=0
def tw14292701064329273860:=0
def tw2565828291578895966:=0
def tw17906714573046409399:=0
def tw1389420851805139939:=0
def tw1934135999286619510:=0
def tw9642206852642652240:=0
def tw13787535785786678102:=0
def tw13759715719255326278:=0
def tw3302640445801191696:=0
def tw1569300572116736989:=0
def tw2542939477330352659:=0
def tw13825013795156578846:=0
def tw8428312100017027118:=0
def tw11822862504754220088:=0
def tw13494499596847266742:=0
def tw10707410004869140121:=0
def tw11618178265421381029:=0
def tw11768536562289191703:=0
def tw1330535817368383611:=0
def tw4972053887882035548:=0
def tw5984497512094279234:=0
def tw7578246719086170726:=0
def tw4764680720789837743:=0
def tw1983312862807956818:=0
def tw14901080375364661272:=0
def tw8888858412747053473:=0
def tw1174424117047715136:=0
def tw8955946247935981925:=0
def tw17667515802436170630:=0
def tw5086825763140061679:=0
def tw15748140837073731986:=0
def tw8217357115611898498:=0
def tw18329774935752933196:=0
def tw4567429866841539965:=0
def tw1280475497726558704:=0
def tw1817922310727673782:=0
def tw12236580770319237538:=0
def tw17035628575291277535:=0
def tw5733061565559644218:=0
def tw12680893320112253816:=0
def tw17349597267854329376:=0
def tw1734166180857747767:=0
def tw17654281003596863060:=0
def tw8782169173080512730:=0
def tw12708003581605963380:=0
def tw15143984056435876984:=0
def tw73376393991473185:=0
def tw2816108713038744505:=0
def tw1144165438554451226:=0
def tw2811334833802617410:=0
def tw2515264771553367036:=0
def tw9847144494888816149:=0
def tw13565274818269929410:=0
def tw635517637879931055:=0
def tw7595390210677494959:=0
def tw17033846985278599145:=0
def tw15994324591916813823:=0
def tw4770937474743930163:=0
def tw10041385968733432949:=0
def tw5384148376264058471:=0
def tw5921370391991325447:=0
def tw2460150099620598823:=0
def tw5715371185864629202:=0
def tw16522719012394889963:=0
def tw16147036622271228881:=0
def tw17639768816483077343:=0
def tw2741120228379422238:=0
def tw12434386144553333741:=0
def tw8739493775705896175:=0
def tw3945782158987298533:=0
def tw17263036990232003845:=0
def tw1084321819837444142:=0
def tw10908315665636054335:=0
def tw14756075501086205242:=0
def tw14012928191042699690:=0
def tw10363773584757553484:=0
def tw2030877234636786966:=0
def tw10095581376120967463:=0
def tw7774575749101484417:=0
def tw5341524665476850821:=0
def tw5072706990830828508:=0
def tw16804941870178651817:=0
def tw14174291023172390212:=0
def tw7850714245506578295:=0
def tw728759162917602171:=0
def tw18028404559613066615:=0
end PySem.W.Fast
open PySem PySem.W PyProof.Rows
set_option maxRecDepth 100000 in
set_option maxHeartbeats 0 in
theorem PySem.Challenge.cw_sinceply_k34_classes_told_holds : PySem.Challenge.rw_sinceply_k34_classes_told.Holds := by
 w_on;o_law;z_head;(case hw=>w_witness2)
 k_fill
 refine' Q.DU (fun _=>rfl) (Q.walk (l:=PySem.Challenge.rw_sinceply_k34_classes_told) rfl rfl (fun w h Y=>Y) P.math ?noL ?fnS)
 case noL=>intro w;rfl
 case fnS=>
  intro w mg fa h KX G hmg
  refine' Q.all_mk KX G hmg ?Dg ?Dh ?Di ?Dj ?Dl ?Dq ?Dr ?Dt ?Du ?Dv ?tZ ?t7 ?t8 ?t9 ?t_ ?ua ?uc ?ud ?ue ?uf ?ug ?uh ?um ?uo ?uq ?ur ?uu ?uv ?uw ?Dw ?Dy ?Dz ?DB ?ux ?DC ?DF ?DG ?DH ?DJ ?uy ?uz ?uA ?uB ?uC ?uD ?uE ?uF ?uG ?uH ?uI ?uJ ?uK ?uL ?pZ ?DK ?wu ?wz ?fL ?DL ?eG ?DM ?wA ?DO ?DP ?qZ ?iM ?oz ?DQ ?q_ ?DR ?fM
  case Dg|Dh|Di|Dj|Dl|Dq|Dr|Dt|Du|Dv|tZ|t7|t8|t9|t_|ua|uc|ud|ue|uf|ug|uh|um|uo|uq|ur|uu|uv|uw=>refine' Br.aG ?e ?l ?c ?k;(case e=>k_is);(case l=>k_is);(case c=>k_is);(case k=>k_is)
  case Dw|Dy|Dz|DB|ux|DC|DF|DG|DH|DJ=>k_is
  case uy|uz|uA|uB|uC|uD|uE|uF|uG|uH|uI|uJ|uK|uL|pZ=>refine' Br.aG ?e ?l ?c ?k;(case e=>k_is);(case l=>k_is);(case c=>k_is);(case k=>k_is)
  case DK|wu|wz|fL|DL|eG|DM|wA|DO|DP|qZ|iM|oz|DQ|q_|DR|fM=>k_is
end
