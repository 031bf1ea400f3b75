import PyProof.Rows.All
import Wide.All
import OpenK.AllK
import Wide.FinOn
import Lean
import PyProof.EqAt
import PyProof.EqKinds
import PyProof.TupleCall
import KE.KRevIter
import PyProof.EnumMake
import PyProof.EnumFor
import PyProof.ListRange
import PyProof.Rows.Range3
import PyProof.ZipIter
import PyProof.SumWalk
import PyProof.WalksMore
import PyProof.Rows.SetFrom
import PyProof.SetRoads
import PyProof.Rows.SortRunsK
import PyProof.Rows.SortWalk
import KE.KSortTup
import PyProof.StationsW
import PyProof.Rows.MatchSeqLen
import PyProof.RangeIter
import PyProof.Rows.Own
import OpenK.KRaise
import KE.KIsAll
import PyProof.ExcArgsOwn
import PyProof.RulesAs
import PyProof.Ns1
import PyProof.Rows.Catch
import OpenK.KOwn
import PyProof.ExcBaseAll.ValueError
import KE.KDictSum
import PyProof.AttrMiss
import PyProof.IsiH_list
import KE.KDictOf
import PyProof.DictList
import KE.KDictList
import PyProof.FactsAll.set
import PyProof.Rows.TupAdd
import KE.KDictMeth
import PyProof.DictWalks
import PyProof.TupleKey
import PyProof.DictStraight
import PyProof.IsRules
import KE.KRevSl
import PyProof.Rows.CallKwBuiltin
import PyProof.Rows.SortShell
import KE.KSortKey
import KE.KLam
import KE.KNestM
import PyProof.CallStr
import OpenK.KMake
import PyProof.ExcClass2
import PyProof.InstStoreFacts
import OpenK.KCls
import PyProof.DictRoadsH
import PyProof.DictUpdate
import PyProof.DictCopy
import PyProof.MeetsDictList
import PyProof.FactsAll.tuple_1
import PyProof.TupleOfSeq
import KE.KSortAsk
import PyProof.Rows.StrLawsPart
import PyProof.StrLawsChain
import PyProof.StrBlockL
import PyProof.SliceStr2
import PyProof.StrOps2
import PyProof.StrWalks
import PyProof.StrCalls2
import KE.KIntText
import KE.IntTextLaws
import PyProof.Rows.FStrParts
import PySem.Challenge.RW_sinceply_k26_hangs_judged
open Array renaming length_toList→QH,getElem?_eq_getElem→QJ,getD_eq_getD_getElem?→Q5,getElem?_toList→RA,getElem?_eq_some_iff→RL,getElem?_eq_none→S2,getElem_toList→Td
open Bool renaming and_eq_true→QD,false_ne_true→Q0,true_and→Q7,false_eq_true→Rm,eq_iff_iff→So,false_and→Tj,not_true→TF,or_eq_true→T6,and_false→Ub,and_true→Uh
open Classical renaming byContradiction→SM
open Decidable renaming byContradiction→SO
open False renaming elim→Rc
open ForInStep renaming yield→RT
open Int renaming toNat_natCast→TN,le_of_lt→Uj,le_refl→Uo,add_mul→Up
open List renaming getElem?_set_ne→eg,length_map→gc,map_cons→gp,mem_cons_self→gV,replicate→Ds,mem_cons_of_mem→Pa,length_append→Qv,mem_cons→Qw,getElem?_eq_some_iff→Qx,size_toArray→Qy,getElem?_eq_getElem→Qz,nodup_cons→QB,mem_append→QE,mem_map→QF,range→QG,getElem?_append_left→QI,map_append→QK,getElem?_map→QL,mem_singleton→QN,length_cons→QO,length_set→QU,mem_append_right→QV,getElem?_set_self→QZ,mem_append_left→Q2,mem_range→Q3,getElem?_eq_none→Q6,mem_filter→Q8,flatten_cons→Q9,all_eq_true→Ra,getD_eq_getElem?_getD→Rf,length_range→Rg,filterMap_cons→Rh,nodup_append→Rj,map_map→Rk,length_take→Rl,getElem?_append_right→Rn,lookup_cons→Ro,getElem?_replicate→Rp,append_nil→Rr,length_filter_le→RB,getElem_mem→RC,pairwise_cons→RD,filter_cons_of_neg→RG,filter_cons_of_pos→RH,find?_cons→RI,replicate_succ→RJ,flatten_append→RK,length_singleton→RM,set_append_right→RN,drop_eq_getElem_cons→RO,getElem?_take_of_lt→RQ,not_mem_nil→RY,cons_append→RZ,mem_flatten→R0,map_id→R3,any_cons→R6,ext_getElem?→R8,mem_of_getElem?→R9,length_drop→Se,getElem?_range→Sh,getElem?_cons_succ→Sk,length_eq_zero_iff→Sn,nil_append→Sq,find?_eq_none→Ss,append_assoc→Sv,getElem?_set→Sw,length_replicate→Sz,drop_length→SE,getElem_of_mem→SG,length_nil→SI,pairwise_iff_getElem→SK,mem_of_find?_eq_some→SN,map_nil→SQ,eraseIdx_cons_succ→SY,reverse_cons→S0,length_pos_of_mem→S3,any_eq_true→S5,foldl_cons→Tc,mem_of_mem_drop→Te,map_congr_left→Tf,filter_eq_self→Th,take_left→Tn,mem_filterMap→To,filterMap_map→Tq,all_cons→Tz,filter_cons→TU,isEmpty_nil→TX,map_set→TY,of_mem_zip→T4,Perm→T7,find?_some→T8,Pairwise→Ue,set_set→Uk,foldl→Us
open Nat renaming le_refl→Pz,le_of_ble_eq_true→QC,lt_of_lt_of_le→QM,le_trans→QT,ne_of_lt→QX,zero_le→Q4,not_lt→RS,lt_succ_of_lt→RU,lt_irrefl→RW,lt_succ_self→Sg,add_sub_cancel→SV,le_of_lt→S7,lt_of_le_of_lt→Tt,eq_or_lt_of_le→Tu,le_of_lt_succ→TM,lt_trans→TV,mod_lt→Uc,ne_of_gt→Ui,zero_add→Ul,succ_pos→Um
open Option renaming isSome_map→R7,getD_some→S4
open PyProof.Rows renaming slot_tuple_getitem→Ru,callWith_type1→R4
open PyProof.Rows.F renaming plain_set_update_loop→SX
open PySem.Builtin.Int renaming intBits→Tg
open PySem.Builtin.List renaming listTooLong→Sf
open PySem.Builtin.Range renaming rangeSize→Sj
open PySem.Builtin.Slice renaming slicePlaces→Rv,sliceApplied→R5,sliceAdjust→SH
open PySem.Builtin.Tuple renaming tupleExact→Rt
open PySem.Calls renaming call_function_entry→SJ,callWith_builtin→S1,evalArgs_plain→S9,spliced_cons→Tp,spliced_nil→TJ
open PySem.F renaming plainAttrs_list→RX,slot_list_append→SR,type_list_append→SS,slot_dict_get→S6
open PySem.Heap renaming get?_push_of_some→PU,lt_size→QA,get?_push_size→QS,size_push→Sb,SameBut→Sy,get?_update_self→SA
open PySem.Heap.SameBut renaming update→Si
open PySem.NameKind renaming cell→Ug
open PySem.Obj renaming data_mapFields→SW,mapSeq→TR,putSet→Ud
open PySem.PassesOwn renaming never→Rb
open PySem.PyData renaming eqv→Ry,depthAll→Rz,showable→Su,hasDict→SD,showableAll→Tv,eqvAll→Tw,canLayAll0→TL,hasDictAll→TQ
open PySem.Str renaming ofString→S8
open PySem.Value renaming ref→Rq,str→TZ,bool→Uq,type→Ur
open PySem.W renaming Frag→Dk,fnOf→QY,nsIn→Ri,keepIn→Rw,kia_one→Rx,codeIn→Sa,methodObj→TH,instObj→T3,OpenLaw→T5,lookIn→T9,kitOne→Ua
open Sum renaming inl→QW,inr→Ti
open True renaming intro→RP
noncomputable section
set_option Elab.async false
set_option linter.all false

set_option maxRecDepth 100000
local macro_rules|`(tactic|trivial)=>`(tactic|first|exact Or.inl rfl|exact Or.inr rfl|exact Or.inr (Or.inl rfl)|exact Or.inr (Or.inr rfl)|assumption)
local macro_rules|`(tactic|and_intros)=>`(tactic|dsimp only[List.map,List.replicate,List.cons_append,List.nil_append])
namespace L2
open PySem PySem.Spec PyProof.Rows
section
variable{a b:Addr}{H:Hp}{o:HO}
noncomputable abbrev Key:=Sum Int Str
noncomputable def pN:Key->Value->Bool
 |.inl k,v=>Value.isInt k v
 |.inr x,v=>Value.isStrOf x v
noncomputable def OV(w:World):Key->Int
 |.inl k=>hashInt k
 |.inr x=>hashStr w x
theorem bw:∀{k:Key} {v:Value},pN k v=true->(∃i t,k=QW i/\v=Value.int i t)\/(∃x t,k=Ti x/\v=TZ x t)
 |.inl i,v,h=>by obtain⟨t,e⟩:=Value.isInt_shape (k:=i) (v:=v) h;exact .inl ⟨i,t,rfl,e⟩
 |.inr x,v,h=>by obtain⟨t,e⟩:=Value.isStrOf_shape (x:=x) (v:=v) h;exact .inr ⟨x,t,rfl,e⟩
theorem zB(i:Int)(t:Tok):pN (.inl i) (.int i t)=true:=by simp[pN,Value.isInt]
theorem zC(x:Str)(t:Tok):pN (.inr x) (.str x t)=true:=by simp[pN,Value.isStrOf]
theorem I0(a b:Int):decide ((QW a:Key)=QW b)=(a == b):=by
 by_cases e:a=b
 ·subst e;simp
 ·have h:¬(QW a:Key)=QW b:=fun q=>e (QW.inj q);rw[decide_eq_false h];exact(beq_eq_false_iff_ne.mpr e).symm
theorem I_(a b:Str):decide ((Ti a:Key)=Ti b)=decide (a=b):=by
 by_cases e:a=b
 ·subst e;simp
 ·have h:¬(Ti a:Key)=Ti b:=fun q=>e (Ti.inj q);rw[decide_eq_false h,decide_eq_false e]
theorem Ja(a:Int)(b:Str):decide ((QW a:Key)=Ti b)=false:=decide_eq_false (fun q=>nomatch q)
theorem Jb(a:Str)(b:Int):decide ((Ti a:Key)=QW b)=false:=decide_eq_false (fun q=>nomatch q)
noncomputable def aO(prog:Program)(w:World):PySem.KeyKind prog w Key where
 is:=pN
 hash:=OV w
 inj:=fun v a b ha hb=>by
  rcases bw ha with⟨i,t,rfl,rfl⟩ | ⟨x,t,rfl,rfl⟩
  ·rcases bw hb with⟨j,u,rfl,e⟩ | ⟨y,u,rfl,e⟩
   ·injection e with e1 _;rw[e1]
   ·exact nomatch e
  ·rcases bw hb with⟨j,u,rfl,e⟩ | ⟨y,u,rfl,e⟩
   ·exact nomatch e
   ·injection e with e1 _;rw[e1]
 byValue:=fun k v h=>by rcases bw h with⟨i,t,rfl,rfl⟩ | ⟨x,t,rfl,rfl⟩<;>rfl
 pyHash:=fun hv h=>by
  rcases bw hv with⟨i,t,rfl,rfl⟩ | ⟨x,t,rfl,rfl⟩
  ·exact wpAny_pyHash_int h
  ·exact wpAny_pyHash_str h
 eqBool:=fun hu hv h=>by
  rcases bw hu with⟨i,t,rfl,rfl⟩ | ⟨x,t,rfl,rfl⟩
  ·rcases bw hv with⟨j,u,rfl,rfl⟩ | ⟨y,u,rfl,rfl⟩
   ·rw[I0]at h;exact wpAny_eqBool_int h
   ·rw[Ja]at h;exact SeqAt.EqAt.int_str i t y u _ _ _ _ h
  ·rcases bw hv with⟨j,u,rfl,rfl⟩ | ⟨y,u,rfl,rfl⟩
   ·rw[Jb]at h;exact SeqAt.EqAt.str_int x t j u _ _ _ _ h
   ·rw[I_]at h;exact wpAny_eqBool_str h
 «strs»:=fun k x t v h=>by
  rcases bw h with⟨i,u,rfl,e⟩ | ⟨y,u,rfl,e⟩
  ·exact nomatch e
  ·injection e with e1 _
   subst e1;cases v<;>rfl
theorem sF(prog:Program)(w:World)(i:Int)(t:Tok):(aO prog w).is (.inl i) (.int i t)=true:=zB i t
theorem sG(prog:Program)(w:World)(x:Str)(t:Tok):(aO prog w).is (.inr x) (.str x t)=true:=zC x t
inductive V where
 |non | bl (b:Bool) | int (i:Int) | str (x:Str) | byt (b:Array UInt8) | flt (b:UInt64) | ref (a:Addr) | ty (n:String)
 deriving DecidableEq
def RelV:V->Value->Prop
 |.non,u=>u=Value.none
 |.bl b,u=>u=Uq b
 |.int i,u=>∃t,u=Value.int i t
 |.str x,u=>∃t,u=TZ x t
 |.byt b,u=>∃t,u=Value.bytes b t
 |.flt b,u=>∃t,u=Value.float b t
 |.ref a,u=>u=Rq a
 |.ty n,u=>u=Ur n
noncomputable abbrev Vals:List V->List Value->Prop:=Paired RelV
theorem Vals.length{xs:List V}{us:List Value}(r:Vals xs us):xs.length=us.length:=Paired.length r
theorem Vals.get:∀{xs:List V} {us:List Value} {i:Nat} {x:V},Vals xs us->xs[i]?=some x->∃u,us[i]?=some u/\RelV x u
 |_,_,_,_,.nil,e=>by simp at e
 |_,_,0,_,.cons r _,e=>by simp at e;subst e;exact⟨_,rfl,r⟩
 |_,_,i+1,x,.cons _ t,e=>by obtain⟨u,h1,h2⟩:=Vals.get (i:=i) (x:=x) t (by simpa using e);exact⟨u,by simpa using h1,h2⟩
theorem Vals.set{x:V}{u:Value}(r:RelV x u):∀{xs:List V} {us:List Value} (i:Nat),Vals xs us->Vals (xs.set i x) (us.set i u)
 |_,_,_,.nil=>.nil
 |_,_,0,.cons _ t=>.cons r t
 |_,_,i+1,.cons q t=>.cons q (Vals.set r i t)
theorem Vals.append:∀{xs ys:List V} {us ws:List Value},Vals xs us->Vals ys ws->Vals (xs++ys) (us++ws)
 |_,_,_,_,.nil,s=>s
 |_,_,_,_,.cons r t,s=>.cons r (Vals.append t s)
theorem Vals.take:∀{xs:List V} {us:List Value} (n:Nat),Vals xs us->Vals (xs.take n) (us.take n)
 |_,_,0,_=>.nil
 |_,_,_+1,.nil=>.nil
 |_,_,n+1,.cons r t=>.cons r (Vals.take n t)
theorem Vals.drop:∀{xs:List V} {us:List Value} (n:Nat),Vals xs us->Vals (xs.drop n) (us.drop n)
 |_,_,0,r=>r
 |_,_,_+1,.nil=>.nil
 |_,_,n+1,.cons _ t=>Vals.drop n t
def jj:Option V->Option Value->Prop
 |some v,some u=>RelV v u
 |none,none=>True
 |_,_=>False
def KV{κ:Type}:List (κ×V)->List (κ×Value)->Prop:=Paired fun(p:κ×V) (q:κ×Value)=>p.1=q.1/\RelV p.2 q.2
noncomputable def kV:Key->V
 |.inl i=>.int i
 |.inr x=>.str x
inductive HO where
 |lst (xs:List V)
 |tup (xs:List V)
 |dK (kvs:List (Key×V)) | dT (kvs:List (List Key×V)) (ts:List Addr)
 |set (S:Int->Bool) (n:Nat)
 |ins (C dx:Addr) (fs:List (Str×V))
 |own (x:Addr)
 |xd (fs:List (Str×V))
 |met (f x:Addr)
 |rng (lo hi:Int)
 |frz (o:Obj) (u:HO)
 |tbl (ln cl:Value) (q:Str)
 |ext (φ:Heap->Prop)
noncomputable abbrev Hp:=Addr->Option HO
noncomputable def upd(H:Hp)(a:Addr)(o:HO):Hp:=fun b=>if b=a then some o else H b
theorem au{a:Addr}:upd H a o a=some o:=by unfold upd;rw[if_pos rfl]
theorem aA(h:b≠a):upd H a o b=H b:=by unfold upd;rw[if_neg h]
theorem Mk{o u:HO}(h:H a=some o)(h':H b=some u)(d:o≠u):a≠b:=by intro e;subst e;rw[h]at h';exact d (Option.some.inj h')
theorem aP(h:H a=some o)(h':H b=none):a≠b:=by intro e;subst e;rw[h]at h';cases h'
end
section
variable(P:Program)(w:World)
def aQ(H:Hp)(h:Heap)(a:Addr):HO->Prop
 |.lst xs=>xs.length<=sizeLine/\∃(its:List Value) (n:Nat),Vals xs its/\h.get? a=some { cls:=.type "list",data:=.seq its.toArray n }
 |.tup xs=>xs.length<=sizeLine/\∃its:List Value,Vals xs its/\IsTup h a its.toArray
 |.dK kvs=>kvs.length<=sizeLine/\(a == sysModules)=false/\∃vs,KV kvs vs/\h.DictOf (aO P w) a vs
 |.dT kvs ts=>kvs.length<=sizeLine/\(a == sysModules)=false/\∃xs:List (List Key×Addr×Value),
   Paired (fun(p:List Key×V) (q:List Key×Addr×Value)=>p.1=q.1/\H q.2.1=some (.tup (p.1.map kV))/\RelV p.2 q.2.2) kvs xs /\
   ∃o es ep,h.get? a=some o/\o.ExactDict/\o.data=.dict es ep/\es.toList=xs.map (entryOfKey (tupleKind (aO P w)))/\(xs.map (·.1)).Nodup/\xs.map (·.2.1)=ts
 |.set S n=>h.SetOf (intKind P w) a S n
 |.ins C dx fs=>H dx=some (.own a)/\fs.length<=1000/\dx≠a/\h.get? a=some (T3 C dx) /\
   ∃mA,h.Ns1 dx mA/\(∀f,jj (fs.lookup f) (mA f))/\PySem.Within mA (fs.map (·.1))
 |.own _=>∃o,h.get? a=some o
 |.xd fs=>∃mA,h.Ns1 a mA/\∀f,jj (fs.lookup f) (mA f)
 |.rng lo hi=>∃t u v,h.get? a=some { cls:=.type "range",data:=.fields #[.int lo t,.int hi u,.int 1 v] }
 |.frz o u=>h.get? a=some o/\aQ H h a u
 |.tbl ln cl q=>∃ps:Array Value,h.get? a=some { cls:=.none,data:=.fields ps }/\(ps=#[]\/∃(c:Addr) (oc:Obj) (vs:Array Value) (t:Tok),ps=#[ln,cl,.ref c]/\H c=some (.frz oc (.own a))/\oc.data=.fields vs/\vs[1]?=some (.str q t))
 |.met f x=>h.get? a=some (TH (.ref f) (.ref x))
 |.ext φ=>φ h/\(∃o,h.get? a=some o)/\∀h1 h2:Heap,φ h1->(∀o,h1.get? a=some o->h2.get? a=some o)->φ h2
def HOk(H:Hp)(h:Heap):Prop:=∀a o,H a=some o->aQ P w H h a o
end
section
variable{P:Program}{w:World}{H H':Hp}{h h':Heap}{a:Addr}{o:HO}
theorem aQ.lt(x:aQ P w H h a o):a<h.objs.size:=by
 cases o with
 |lst xs=>obtain⟨_,_,_,_,e⟩:=x;exact QA e
 |tup xs=>obtain⟨_,_,_,p⟩:=x;exact p.lt
 |dK kvs=>obtain⟨_,_,_,_,o,_,_,e,_⟩:=x;exact QA e
 |dT kvs ts=>obtain⟨_,_,_,_,o,_,_,e,_⟩:=x;exact QA e
 |set S n=>obtain⟨o,_,_,_,e,_⟩:=x;exact QA e
 |ins C dx fs=>obtain⟨_,_,_,e,_⟩:=x;exact QA e
 |own y=>obtain⟨_,e⟩:=x;exact QA e
 |xd fs=>obtain⟨_,⟨_,_,_,e,_⟩,_⟩:=x;exact QA e
 |rng lo hi=>obtain⟨_,_,_,e⟩:=x;exact QA e
 |frz ob u=>obtain⟨e,_⟩:=x;exact QA e
 |tbl ln cl q=>obtain⟨_,e,_⟩:=x;exact QA e
 |met f y=>exact QA (show h.get? a=some _ from x)
 |ext φ=>obtain⟨_,⟨_,e⟩,_⟩:=x;exact QA e
theorem Paired.Jc{α β:Type}{F G:α->β->Prop}:∀{l₁:List α} {l₂:List β},Paired F l₁ l₂->(∀a b,F a b->G a b)->Paired G l₁ l₂
 |_,_,.nil,_=>.nil
 |_,_,.cons r t,f=>.cons (f _ _ r) (Paired.Jc t f)
theorem aQ.stay(x:aQ P w H h a o)(k:∀b u,(b=a\/H b=some (.own a))->h.get? b=some u->h'.get? b=some u)
  (ho:∀b,H b=some (.own a)->H' b=some (.own a)) (hf:∀b o c,H b=some (.frz o (.own c))->H' b=some (.frz o (.own c))) (ht:∀b xs,H b=some (.tup xs)->H' b=some (.tup xs)):aQ P w H' h' a o:=by
 induction o with
 |lst xs=>obtain⟨z,its,n,r,e⟩:=x;exact⟨z,its,n,r,k _ _ (.inl rfl) e⟩
 |tup xs=>obtain⟨z,its,r,ob,e,c⟩:=x;exact⟨z,its,r,ob,k _ _ (.inl rfl) e,c⟩
 |dK kvs=>obtain⟨z,y,vs,r,ob,es,ep,e,c⟩:=x;exact⟨z,y,vs,r,ob,es,ep,k _ _ (.inl rfl) e,c⟩
 |dT kvs ts=>obtain⟨z,y,xs,r,ob,es,ep,e,c⟩:=x;exact⟨z,y,xs,Paired.Jc r fun p q z=>⟨z.1,ht _ _ z.2.1,z.2.2⟩,ob,es,ep,k _ _ (.inl rfl) e,c⟩
 |set S n=>obtain⟨ob,es,ep,t,e,c⟩:=x;exact⟨ob,es,ep,t,k _ _ (.inl rfl) e,c⟩
 |ins C dx fs=>obtain⟨d,z,ne,e,mA,⟨od,es,ep,e2,c⟩,r⟩:=x;exact⟨ho _ d,z,ne,k _ _ (.inl rfl) e,mA,⟨od,es,ep,k _ _ (.inr d) e2,c⟩,r⟩
 |own y=>obtain⟨ob,e⟩:=x;exact⟨ob,k _ _ (.inl rfl) e⟩
 |xd fs=>obtain⟨mA,⟨od,es,ep,e,c⟩,r⟩:=x;exact⟨mA,⟨od,es,ep,k _ _ (.inl rfl) e,c⟩,r⟩
 |rng lo hi=>obtain⟨t,u,v,e⟩:=x;exact⟨t,u,v,k _ _ (.inl rfl) e⟩
 |frz ob u ih=>obtain⟨e,q⟩:=x;exact⟨k _ _ (.inl rfl) e,ih q⟩
 |tbl ln cl q=>
  obtain⟨ps,e,d⟩:=x;refine⟨ps,k _ _ (.inl rfl) e,?_⟩;rcases d with d | ⟨c,oc,vs,t,d,d2,d3⟩
  ·exact .inl d
  ·exact .inr ⟨c,oc,vs,t,d,hf _ _ _ d2,d3⟩
 |met f y=>have e:h.get? a=some (TH (.ref f) (.ref y)):=x;show h'.get? a=some (TH (.ref f) (.ref y));exact k a _ (.inl rfl) e
 |ext φ=>obtain⟨p,⟨o,e⟩,st⟩:=x;exact⟨st _ _ p fun o q=>k _ _ (.inl rfl) q,⟨o,k _ _ (.inl rfl) e⟩,st⟩
theorem HOk.lt(x:HOk P w H h)(e:H a=some o):a<h.objs.size:=(x a o e).lt
theorem HOk.fresh(x:HOk P w H h)(e:h.objs.size<=a):H a=none:=by
 cases q:H a with
 |none=>rfl
 |some u=>exact absurd (QM (x.lt q) e) (RW _)
theorem HOk.kept(x:HOk P w H h)(k:∀b u,h.get? b=some u->h'.get? b=some u):HOk P w H h':=fun a o e=>(x a o e).stay (fun b u _ q=>k b u q) (fun _ q=>q) (fun _ _ _ q=>q) fun _ _ q=>q
theorem HOk.laid(x:HOk P w H h)(k:∀b u,h.get? b=some u->h'.get? b=some u)(hp:h.objs.size<=a)(new:aQ P w (upd H a o) h' a o):HOk P w (upd H a o) h':=fun b u e=>by
 have hn:=x.fresh hp;by_cases hb:b=a
 ·subst hb;rw[au]at e;cases e;exact new
 ·rw[aA hb]at e;exact(x b u e).stay (fun c v _ q=>k c v q) (fun c q=>by rw[aA (aP q hn)];exact q) (fun c _ _ q=>by rw[aA (aP q hn)];exact q) fun c xs q=>by rw[aA (aP q hn)];exact q
end
def Rd(H:Hp)(a:Addr)(u:HO):Prop:=H a=some u\/∃o,H a=some (.frz o u)
theorem Rd.ok{P:Program}{w:World}{H:Hp}{h:Heap}{a:Addr}{u:HO}(r:Rd H a u)(x:HOk P w H h):aQ P w H h a u:=by
 rcases r with r | ⟨o,r⟩
 ·exact x a u r
 ·obtain⟨_,q⟩:=x a _ r;exact q
def Mut:Option HO->Prop
 |some (.lst _)=>True
 |some (.dK _)=>True
 |some (.dT _ _)=>True
 |some (.set _ _)=>True
 |some (.ins _ _ _)=>True
 |some (.ext _)=>True
 |_=>False
section
variable{P:Program}{w:World}{H:Hp}{h h':Heap}{x e:Addr}{o':HO}
theorem HOk.write(ok:HOk P w H h)(mu:Mut (H x))(he:e=x\/H e=some (.own x))(k:∀b u,b≠e->h.get? b=some u->h'.get? b=some u)(heo:∃u,h'.get? e=some u)
  (new:aQ P w (upd H x o') h' x o'):HOk P w (upd H x o') h':=fun b u q=>by
 have Ml:∀c y,H c=some (.own y)->c≠x:=fun c y r z=>by subst z;rw[r]at mu;exact mu
 have OW:∀c xs,H c=some (.tup xs)->c≠x:=fun c xs r z=>by subst z;rw[r]at mu;exact mu
 have OX:∀c o y,H c=some (.frz o y)->c≠x:=fun c o y r z=>by subst z;rw[r]at mu;exact mu
 by_cases hb:b=x
 ·subst hb;rw[au]at q;cases q;exact new
 ·rw[aA hb]at q;by_cases hbe:b=e
  ·have q':H b=some (.own x):=by
    rcases he with z | z
    ·exact absurd (hbe.trans z) hb
    ·rw[hbe];exact z
   rw[q]at q';cases q';obtain⟨v,hv⟩:=heo;exact⟨v,by rw[hbe];exact hv⟩
  ·refine(ok b u q).stay (fun c v hc r=>k c v ?_ r) (fun c r=>by rw[aA (Ml c b r)];exact r) (fun c _ _ r=>by rw[aA (OX c _ _ r)];exact r) fun c xs r=>by rw[aA (OW c xs r)];exact r
   rcases hc with rfl | hc
   ·exact hbe
   ·rintro rfl;rcases he with z | z
    ·exact Ml c b hc z
    ·rw[hc]at z;cases z;exact hb rfl
end
structure Un(fs ex:List Addr)(H H':Hp)(h h':Heap):Prop where
 keep:∀b o,h.get? b=some o->H b=none->b∉fs->b∉ex->h'.get? b=some o
 slot:∀b o,h.get? b=some o->H b=none->b∈fs->b∉ex->∃sl,h'.get? b=some { o with slots:=sl }
 free:∀b o,h.get? b=some o->H b=none->b∉ex->H' b=none
 there:∀b o,h.get? b=some o->b∉ex->∃o',h'.get? b=some o'
 tups:∀b xs,H b=some (.tup xs)->H' b=some (.tup xs)
 qH:∀b o u,H b=some (.frz o u)->H' b=some (.frz o u)
 sH:∀b x y z,H b=some (.tbl x y z)->H' b=some (.tbl x y z)
section
variable{fs fs' ex ex':List Addr}{H H1 H2:Hp}{h h1 h2 h':Heap}{a x e:Addr}{o:HO}
theorem Un.any(u:Un fs ex H H1 h h1){b:Addr}{ob:Obj}(q:h.get? b=some ob)(n:H b=none)(hx:b∉ex):∃sl,h1.get? b=some { ob with slots:=sl }:=by
 by_cases hb:b∈fs
 ·exact u.slot b ob q n hb hx
 ·exact⟨ob.slots,u.keep b ob q n hb hx⟩
theorem Un.kept(k:∀b u,h.get? b=some u->h'.get? b=some u):Un fs ex H H h h':=
 ⟨fun b ob q _ _ _=>k b ob q,fun b ob q _ _ _=>⟨ob.slots,k b ob q⟩,fun _ _ _ n _=>n,fun b ob q _=>⟨ob,k b ob q⟩,fun _ _ q=>q,fun _ _ _ q=>q,fun _ _ _ _ q=>q⟩
theorem Un.refl:Un fs ex H H h h:=Un.kept fun _ _ q=>q
theorem Un.laid(k:∀b u,h.get? b=some u->h'.get? b=some u)(hp:h.objs.size<=a)(hn:H a=none):Un fs ex H (upd H a o) h h' where
 keep:=fun b u q _ _ _=>k b u q
 slot:=fun b u q _ _ _=>⟨u.slots,k b u q⟩
 free:=fun b u q n _=>by rw[aA (QX (QM (QA q) hp))];exact n
 there:=fun b u q _=>⟨u,k b u q⟩
 tups:=fun b xs q=>by rw[aA (aP q hn)];exact q
 qH:=fun b u xs q=>by rw[aA (aP q hn)];exact q
 sH:=fun b _ _ _ q=>by rw[aA (aP q hn)];exact q
theorem Un.write(mu:Mut (H x))(he:e=x\/H e=some (.own x))(k:∀b u,b≠e->h.get? b=some u->h'.get? b=some u)(heo:∃u,h'.get? e=some u):Un fs ex H (upd H x o) h h':=by
 have hx:∀b,H b=none->b≠x:=fun b n z=>by subst z;rw[n]at mu;exact mu
 have hb:∀b,H b=none->b≠e:=fun b n z=>by
  subst z;rcases he with r | r
  ·exact hx b n r
  ·rw[n]at r;cases r
 have hm:∀b u,H b=some u->¬Mut (some u)->b≠x:=fun b u q nm z=>by subst z;rw[q]at mu;exact nm mu
 refine ⟨fun b u q n _ _=>k b u (hb b n) q,fun b u q n _ _=>⟨u.slots,k b u (hb b n) q⟩,fun b u q n _=>by rw [aA (hx b n)];exact n,fun b u q _=>?_,
  fun b xs q=>by rw[aA (hm b _ q fun z=>z)];exact q,fun b u xs q=>by rw[aA (hm b _ q fun z=>z)];exact q,fun b _ _ _ q=>by rw[aA (hm b _ q fun z=>z)];exact q⟩
 by_cases hbe:b=e
 ·subst hbe;exact heo
 ·exact⟨u,k b u hbe q⟩
end
section
variable{h:Heap}{b:Addr}{o:Obj}{H:Hp}
noncomputable def trk(h:Heap)(H:Hp):List Addr:=(QG h.objs.size).filter fun a=>(H a).isSome
noncomputable def qI(h:Heap)(H:Hp):Heap:=PySem.W.hideAll h (trk h H)
theorem zD(h:Heap)(H:Hp):(qI h H).objs.size=h.objs.size:=PySem.W.hideAll_size _ _
theorem AI(e:h.get? b=some o)(n:H b=none):(qI h H).get? b=some o:=
 PySem.W.hideAll_get _ e fun hm=>by have q:(H b).isSome=true:=(Q8.mp hm).2;rw[n]at q;simp at q
theorem E6(e:(qI h H).get? b=some o):h.get? b=some o/\H b=none:=by
 have e':h.get? b=some o:=PySem.W.of_hideAll (trk h H) e;refine⟨e',?_⟩;cases q:H b with
 |none=>rfl
 |some x=>have hm:b∈trk h H:=Q8.mpr ⟨Q3.mpr (QA e'),by simp[q]⟩;have z:(qI h H).get? b=none:=PySem.W.hideAll_none (trk h H) hm;rw[z]at e;cases e
structure Mod(K:Dk)(mg:Str->Option Value)(base:Heap):Prop where
 kin:K.In base
 glob:base.Ns mainGlobals mg
 blt:∃mb,base.Ns builtinsNs mb/\∀x:Str,x ≠ "__name__" -> mb x=bootBuiltins x
 nolimit:base.NoLimit
structure Cx where
 prog:Program
 w:World
 K:Dk
 mg:Str->Option Value
 base:Heap
 A:Around
 N:List Str
 s₀:Shared
 H₀:Hp
 env:Env
 outer:List Env
 stack:List Env
 ex:List Addr
 fn:Str->Bool
 calm:Bool
 pn:List (Addr×Obj)
 xe:Value->Shared->Prop
noncomputable def frs(l:List Env):List Addr:=l.filterMap (·.frame)
noncomputable abbrev Cx.fs(X:Cx):List Addr:=frs X.outer
def Vis(sc:Scope)(x:Str):Prop:=sc.names.lookup x=some .local\/sc.names.lookup x=some .cell\/sc.names.lookup x=some .free
def Loc(sc:Scope)(x:Str):Prop:=sc.names.lookup x=some .local\/sc.names.lookup x=some .cell
def Look(env:Env)(h:Heap)(m:Str->Option Value)(x:Str)(u:Value):Prop:=
 (env.kindOf x=some .local/\m x=some u)\/((env.kindOf x=some .cell\/env.kindOf x=some .free)/\∃c,env.cells.lookup x=some c/\h.IsCell c (some u))
structure Cx.Ok(X:Cx):Prop where
 mod:Mod X.K X.mg X.base
 kind:X.env.scope.kind=.function
 glob:X.env.globals=mainGlobals
 blt:X.env.builtins=builtinsNs
 above:X.s₀.heap.objs.size<=X.env.locals
 inj:∀x y c,X.env.cells.lookup x=some c->X.env.cells.lookup y=some c->x=y
 has:∀x,(X.env.kindOf x=some .cell\/X.env.kindOf x=some .free)->∃c,X.env.cells.lookup x=some c
 cab:∀x c,X.fn x=true->X.env.cells.lookup x=some c->X.s₀.heap.objs.size<=c
 hd:X.calm=true->X.A.handled=none
 frames:X.A.frames=some X.stack
 stk:X.stack=X.outer\/(X.stack=X.env::X.outer/\X.env.frame=some X.env.locals)
 exf:∀b∈X.ex,b≠X.env.locals/\∀x c,X.env.cells.lookup x=some c->c≠b
 bs:∀b o,X.base.get? b=some o->X.s₀.heap.get? b=some o/\X.H₀ b=none
 bsz:X.base.objs.size<=X.s₀.heap.objs.size
 AJ:∀b o,X.base.get? b=some o->b∉X.ex
 E7:∀b∈X.ex,b∉X.fs
 l7:X.s₀.heap.FunFrames X.base X.outer
 frf:∀b∈X.fs,X.H₀ b=none
structure Inv(X:Cx)(kC:List (Addr×Obj))(σ:List (Option V))(H:Hp)(s:Shared):Prop where
 ok:X.Ok
 os:s.os=X.s₀.os
 bare:AllBare s.gens
 base:Un X.fs X.ex X.H₀ H X.s₀.heap s.heap
 loc:∃m,s.heap.Ns X.env.locals m/\∀(i:Nat) (x:Str) (v:V),X.N[i]?=some x->σ[i]?=some (some v)->Vis X.env.scope x->∃u,RelV v u/\Look X.env s.heap m x u
 cell:∀x c,X.env.cells.lookup x=some c->∃v,s.heap.IsCell c v
 free:H X.env.locals=none
 gW:∀x c,X.env.cells.lookup x=some c->H c=none
 pin:∀p∈X.pn++kC,s.heap.get? p.1=some p.2/\H p.1=none/\p.1≠X.env.locals/\p.1∉X.fs/\∀v,p.2.data≠.cell v
 hok:HOk X.prog X.w H s.heap
 len:σ.length=X.N.length
end
section
variable{X:Cx}{kC:List (Addr×Obj)}{σ:List (Option V)}{H H':Hp}{s:Shared}{h':Heap}
section
variable{ch:List Addr}{x:Str}{u:Value}{a:Addr}{t':Nat}{i:Nat}{v:V}
theorem Cx.Ok.OY(ok:X.Ok){b:Addr}{o:Obj}(e:X.base.get? b=some o):b∉X.fs:=fun hb=>by have:=(ok.l7.mem hb).1;rw[e]at this;cases this
theorem Inv.bs(I:Inv X kC σ H s):∀b o,X.base.get? b=some o->s.heap.get? b=some o/\H b=none:=fun b o e=>⟨I.base.keep b o (I.ok.bs b o e).1 (I.ok.bs b o e).2 (I.ok.OY e) (I.ok.AJ b o e),I.base.free b o (I.ok.bs b o e).1 (I.ok.bs b o e).2 (I.ok.AJ b o e)⟩
theorem Inv.bk(I:Inv X kC σ H s):∀b o,X.base.get? b=some o->s.heap.get? b=some o:=fun b o e=>(I.bs b o e).1
theorem Inv.mod(I:Inv X kC σ H s):Mod X.K X.mg X.base:=I.ok.mod
theorem Inv.kIn(I:Inv X kC σ H s):X.K.In s.heap:=I.ok.mod.kin.keeps I.bk
theorem Inv.lt(I:Inv X kC σ H s):X.env.locals<s.heap.objs.size:=let ⟨_,hn,_⟩:=I.loc;hn.lt
theorem Inv.sz(I:Inv X kC σ H s):X.s₀.heap.objs.size<=s.heap.objs.size:=QT I.ok.above (S7 I.lt)
theorem Inv.OZ(I:Inv X kC σ H s)(h:s.heap.objs.size<=a):a∉X.fs:=fun hb=>by obtain⟨_,o,ho,_⟩:=I.ok.l7.mem hb;exact absurd (QM (QA ho) (QT I.sz h)) (RW _)
theorem Inv.cne(I:Inv X kC σ H s):∀x c,X.env.cells.lookup x=some c->c≠X.env.locals:=fun x c e z=>by obtain⟨v,o,ho,hd⟩:=I.cell x c e;obtain⟨m,⟨o',es,ep,ho',hd',_⟩,_⟩:=I.loc;rw[z,ho']at ho;cases ho;rw[hd']at hd;cases hd
theorem Inv.l7(I:Inv X kC σ H s):s.heap.FunFrames X.base X.outer:=by
 have all:∀(l:List Env),(∀b∈frs l,b∈X.fs)->X.s₀.heap.FunFrames X.base l->s.heap.FunFrames X.base l:=by
  intro l
  induction l with
  |nil=>intro _ _;trivial
  |cons env r ih=>intro hs hl;obtain⟨hk,⟨L,o,hf,hn,ho,hd⟩,hr⟩:=hl;have hL:L∈X.fs:=hs L (by unfold frs;rw[Rh,hf];exact gV);obtain⟨sl,e⟩:=I.base.slot L o ho (I.ok.frf L hL) hL fun z=>I.ok.E7 L z hL;exact⟨hk,⟨L,_,hf,hn,e,hd⟩,ih (fun b hb=>hs b (by unfold frs;rw[Rh,hf];exact Pa _ hb)) hr⟩
 exact all X.outer (fun _ hb=>hb) I.ok.l7
theorem Inv.stack(I:Inv X kC σ H s):s.heap.FunFrames X.base X.stack:=by
 rcases I.ok.stk with e | ⟨e,hf⟩
 ·rw[e];exact I.l7
 ·rw[e];obtain⟨m,hn,_⟩:=I.loc;refine .cons (by rw[I.ok.kind];decide) hf hn ?_ I.l7;exact Heap.get?_none_of_le (QT I.ok.bsz I.ok.above)
theorem Inv.vN(I:Inv X kC σ H s):∀b∈frs X.stack,b∈X.env.locals::X.fs:=fun b hb=>by
 rcases I.ok.stk with e | ⟨e,hf⟩
 ·rw[e]at hb;exact Pa _ hb
 ·rw[e]at hb;unfold frs at hb;rw[Rh,hf]at hb;exact hb
theorem Inv.xU(I:Inv X kC σ H s):∀b∈frs X.stack,H b=none:=fun b hb=>by
 rcases Qw.mp (I.vN b hb) with e | hb
 ·rw[e];exact I.free
 ·obtain⟨_,o,ho,_⟩:=I.ok.l7.mem hb;exact I.base.free b o ho (I.ok.frf b hb) fun z=>I.ok.E7 b z hb
theorem Inv.step{g':Array GenState}{t':Nat}{d':Drawn}{ch:List Addr}(I:Inv X kC σ H s)
  (hch:∀b∈ch,(b∈X.ex\/X.s₀.heap.objs.size<=b)/\b≠X.env.locals/\(∀x c,X.env.cells.lookup x=some c->c≠b)/\∀p∈X.pn++kC,p.1≠b)
  (keep:∀b o,b≠X.env.locals->b∉X.fs->b∉ch->s.heap.get? b=some o->H b=none->h'.get? b=some o)
  (slot:∀b o,b≠X.env.locals->b∈X.fs->b∉ch->s.heap.get? b=some o->H b=none->∃sl,h'.get? b=some { o with slots:=sl }) (free:∀b o,b∉ch->s.heap.get? b=some o->H b=none->H' b=none)
  (there:∀b o,b∉ch->s.heap.get? b=some o->∃o',h'.get? b=some o')
  (tups:∀b xs,H b=some (.tup xs)->H' b=some (.tup xs)) (qH:∀b o u,H b=some (.frz o u)->H' b=some (.frz o u)) (sH:∀b x y z,H b=some (.tbl x y z)->H' b=some (.tbl x y z))
  (ns:∀m,s.heap.Ns X.env.locals m->h'.Ns X.env.locals m) (hok:HOk X.prog X.w H' h') (hg:AllBare g') :
  Inv X kC σ H' { s with heap:=h',gens:=g',drawn:=d',toks:=t' }:=by
 have neL:∀b o,X.s₀.heap.get? b=some o->b≠X.env.locals:=fun b o e=>QX (QM (QA e) I.ok.above);have neC:∀b o,X.s₀.heap.get? b=some o->b∉X.ex->b∉ch:=fun b o e hx hb=>by
  rcases (hch b hb).1 with z | z
  ·exact hx z
  ·exact absurd (QM (QA e) z) (RW _)
 have cellK:∀x c,X.env.cells.lookup x=some c->∀v,s.heap.IsCell c v->h'.IsCell c v:=fun x c e v ⟨o,ho,hd⟩=>by
  have nch:c∉ch:=fun z=>(hch c z).2.2.1 x c e rfl;by_cases hc:c∈X.fs
  ·obtain⟨sl,q⟩:=slot c o (I.cne x c e) hc nch ho (I.gW x c e);exact⟨_,q,hd⟩
  ·exact⟨o,keep c o (I.cne x c e) hc nch ho (I.gW x c e),hd⟩
 refine⟨I.ok,I.os,hg,⟨fun b o e n hb hx=>?_,fun b o e n hb hx=>?_,fun b o e n hx=>?_,fun b o e hx=>?_,fun b xs e=>tups b xs (I.base.tups b xs e),fun b o xs e=>qH b o xs (I.base.qH b o xs e),fun b x y z e=>?_⟩,?_,fun x c e=>?_,?_,fun x c e=>?_,fun p hp=>?_,hok,I.len⟩
 ·exact keep b o (neL b o e) hb (neC b o e hx) (I.base.keep b o e n hb hx) (I.base.free b o e n hx)
 ·obtain⟨sl,e1⟩:=I.base.slot b o e n hb hx;obtain⟨sl',e2⟩:=slot b _ (neL b o e) hb (neC b o e hx) e1 (I.base.free b o e n hx);exact⟨sl',e2⟩
 ·obtain⟨o',e1⟩:=I.base.there b o e hx;exact free b o' (neC b o e hx) e1 (I.base.free b o e n hx)
 ·obtain⟨o',e1⟩:=I.base.there b o e hx;exact there b o' (neC b o e hx) e1
 ·exact sH _ _ _ _ (I.base.sH _ _ _ _ e)
 ·obtain⟨m,hn,hl⟩:=I.loc;refine⟨m,ns m hn,fun i x v e1 e2 e3=>?_⟩;obtain⟨u,r,l⟩:=hl i x v e1 e2 e3;refine⟨u,r,?_⟩;rcases l with l | ⟨k,c,e,z⟩
  ·exact .inl l
  ·exact .inr ⟨k,c,e,cellK x c e _ z⟩
 ·obtain⟨v,z⟩:=I.cell x c e;exact⟨v,cellK x c e v z⟩
 ·obtain⟨m,⟨o,_,_,ho,_⟩,_⟩:=I.loc;exact free _ o (fun z=>(hch _ z).2.1 rfl) ho I.free
 ·obtain⟨v,o,ho,hd⟩:=I.cell x c e;exact free c o (fun z=>(hch c z).2.2.1 x c e rfl) ho (I.gW x c e)
 ·obtain⟨e,n,ne,nf,d⟩:=I.pin p hp;have nch:p.1∉ch:=fun z=>(hch p.1 z).2.2.2 p hp rfl;exact⟨keep p.1 p.2 ne nf nch e n,free p.1 p.2 nch e n,ne,nf,d⟩
theorem Inv.un(I:Inv X kC σ H s)(u:Un X.fs [] H H' s.heap h')(hok:HOk X.prog X.w H' h'):Inv X kC σ H' { s with heap:=h',toks:=t' }:=by
 obtain⟨m,⟨o,es,ep,ho,r⟩,_⟩:=id I.loc;obtain⟨sl,hL⟩:=u.any ho I.free (by simp);exact I.step (g':=s.gens) (d':=s.drawn) (ch:=[]) (fun _ z=>nomatch z) (fun b o _ hb _ e n=>u.keep b o e n hb (by simp)) (fun b o _ hb _ e n=>u.slot b o e n hb (by simp)) (fun b o _ e n=>u.free b o e n (by simp)) (fun b o _ e=>u.there b o e (by simp)) u.tups u.qH u.sH (fun m' hm=>by obtain⟨o',es',ep',ho',r'⟩:=hm;rw[ho]at ho';cases ho';exact⟨_,es',ep',hL,r'⟩) hok I.bare
theorem Inv.call{g':Array GenState}{t':Nat}{d':Drawn}(I:Inv X kC σ H s)(u:Un (frs X.stack) ch H H' s.heap h')(hok:HOk X.prog X.w H' h')(hg:AllBare g')
  (hch:∀b∈ch,(b∈X.ex\/X.s₀.heap.objs.size<=b)/\b≠X.env.locals/\(∀x c,X.env.cells.lookup x=some c->c≠b)/\∀p∈X.pn++kC,p.1≠b) :
  Inv X kC σ H' { s with heap:=h',gens:=g',drawn:=d',toks:=t' }:=by
 obtain⟨m,⟨o,es,ep,ho,r⟩,_⟩:=id I.loc;obtain⟨sl,hL⟩:=u.any ho I.free fun z=>(hch _ z).2.1 rfl;exact I.step (ch:=ch) hch (fun b o hL hb hc e n=>u.keep b o e n (fun z=>(Qw.mp (I.vN b z)).elim hL hb) hc) (fun b o _ _ hc e n=>u.any e n hc) (fun b o hc e n=>u.free b o e n hc) (fun b o hc e=>u.there b o e hc) u.tups u.qH u.sH (fun m' hm=>by obtain⟨o',es',ep',ho',r'⟩:=hm;rw[ho]at ho';cases ho';exact⟨_,es',ep',hL,r'⟩) hok hg
theorem Inv.turned{t':Nat}{it:Addr}(I:Inv X kC σ H s)(k:∀b o,b≠it->s.heap.get? b=some o->h'.get? b=some o)(hn:H it=none)(hL:it≠X.env.locals)
  (h1:it∈X.ex\/X.s₀.heap.objs.size<=it) (h2:∀x c,X.env.cells.lookup x=some c->c≠it) (h3:∀p∈X.pn++kC,p.1≠it):Inv X kC σ H { s with heap:=h',toks:=t' }:=by
 have nit:∀b u,H b=some u->b≠it:=fun b u e z=>by rw[z,hn]at e;cases e
 refine I.step (g':=s.gens) (d':=s.drawn) (ch:=[it]) (fun b hb=>?_) (fun b o _ _ hc e _=>k b o (fun z=>hc (by simp[z])) e) (fun b o _ _ hc e _=>⟨o.slots,k b o (fun z=>hc (by simp[z])) e⟩) (fun _ _ _ _ n=>n)
  (fun b o hc e=>⟨o,k b o (fun z=>hc (by simp[z])) e⟩) (fun _ _ e=>e) (fun _ _ _ e=>e) (fun _ _ _ _ e=>e) (fun m hm=>?_) (fun b u e=>?_) I.bare
 ·have e:b=it:=by simpa using hb
  subst e;exact⟨h1,hL,h2,h3⟩
 ·obtain⟨o,es,ep,ho,r⟩:=hm;exact⟨o,es,ep,k _ o (Ne.symm hL) ho,r⟩
 ·refine(I.hok b u e).stay (fun c v hc q=>k c v ?_ q) (fun _ q=>q) (fun _ _ _ q=>q) fun _ _ q=>q;rcases hc with z | z
  ·rw[z];exact nit b u e
  ·exact nit c _ z
theorem Inv.tok(I:Inv X kC σ H s)(t:Nat):Inv X kC σ H { s with toks:=t }:=I.un (h':=s.heap) (t':=t) Un.refl I.hok
theorem Inv.kept(I:Inv X kC σ H s)(k:∀b u,s.heap.get? b=some u->h'.get? b=some u):Inv X kC σ H { s with heap:=h',toks:=t' }:=I.un (Un.kept k) (I.hok.kept k)
theorem Inv.laid{o:HO}{t':Nat}(I:Inv X kC σ H s)(k:∀b u,s.heap.get? b=some u->h'.get? b=some u)(hp:s.heap.objs.size<=a)(new:aQ X.prog X.w (upd H a o) h' a o) :
  Inv X kC σ (upd H a o) { s with heap:=h',toks:=t' }:=I.un (Un.laid k hp (I.hok.fresh hp)) (I.hok.laid k hp new)
theorem Inv.write{x e:Addr}{o:HO}{t':Nat}(I:Inv X kC σ H s)(mu:Mut (H x))(he:e=x\/H e=some (.own x))(k:∀b u,b≠e->s.heap.get? b=some u->h'.get? b=some u)(heo:∃u,h'.get? e=some u)
  (new:aQ X.prog X.w (upd H x o) h' x o):Inv X kC σ (upd H x o) { s with heap:=h',toks:=t' }:=I.un (Un.write mu he k heo) (I.hok.write mu he k heo new)
theorem Inv.xV{Hz:List (Addr×Obj)}(I:Inv X kC σ H s)(h:∀p∈Hz,s.heap.get? p.1=some p.2/\H p.1=none/\p.1≠X.env.locals/\p.1∉X.fs/\∀v,p.2.data≠.cell v):Inv X Hz σ H s:=
 ⟨I.ok,I.os,I.bare,I.base,I.loc,I.cell,I.free,I.gW,fun p hp=>(QE.mp hp).elim (fun z=>I.pin p (Q2 _ z)) (h p),I.hok,I.len⟩
theorem sI{N:List Str}(hN:N.Nodup){i j:Nat}(a:N[i]?=some x)(b:N[j]?=some x):i=j:=by obtain⟨h1,e1⟩:=Qx.mp a;obtain⟨h2,e2⟩:=Qx.mp b;exact(List.getElem_inj hN).mp (e1.trans e2.symm)
theorem pP{M:Model}{A:Around}{E:Value->Shared->Prop}{Q:Unit->Shared->Prop}(I:Inv X kC σ H s)(hN:X.N.Nodup)(hi:X.N[i]?=some x)(hx:Loc X.env.scope x)(r:RelV v u)
  (h:∀s',Inv X kC (σ.set i (some v)) H s'->(∃a,Sy a s.heap s'.heap/\(a=X.env.locals\/X.env.cells.lookup x=some a))->Q () s') (hf:X.fn x=true\/X.env.scope.names.lookup x=some .local:=by trivial):wpAny M A (storeName X.env x u) Q E s:=by
 obtain⟨m,hn,hl⟩:=id I.loc;have hcls:(X.env.scope.kind == .class||(X.env.scope.kind == .module&&X.env.locals != X.env.globals))=false:=by rw[I.ok.kind];rfl
 have hiσ:i<σ.length:=by rw[I.len];exact(Qx.mp hi).1
 have cne:=I.cne;have tracked:∀{a:Addr} {h':Heap},(∃o,s.heap.get? a=some o/\H a=none)->Sy a s.heap h'->HOk X.prog X.w H h':=fun {a h'} ha hs b ob e=>by
  obtain⟨_,_,hfree⟩:=ha;refine(I.hok b ob e).stay (fun c w' hc q=>(hs.2 c ?_).trans q) (fun _ q=>q) (fun _ _ _ q=>q) fun _ _ q=>q;rintro rfl;rcases hc with rfl | hc
  ·rw[hfree]at e;cases e
  ·rw[hfree]at hc;cases hc
 rcases hx with hk | hk
 ·refine wpAny_storeName_local hk hn (fun h' hn' hs=>?_) hcls;obtain⟨oL,_,_,hoL,_⟩:=id hn;refine h _ ⟨I.ok,I.os,I.bare,⟨fun b o e n hb hx=>?_,fun b o e n hb hx=>?_,I.base.free,fun b o e hx=>?_,I.base.tups,I.base.qH,I.base.sH⟩,⟨_,hn',fun j y v' e1 e2 e3=>?_⟩,fun y c e=>?_,I.free,I.gW,fun p hp=>?_,tracked ⟨oL,hoL,I.free⟩ hs,by simpa using I.len⟩ ⟨_,hs,.inl rfl⟩
  ·exact(hs.2 b (QX (QM (QA e) I.ok.above))).trans (I.base.keep b o e n hb hx)
  ·obtain⟨sl,e1⟩:=I.base.slot b o e n hb hx;exact⟨sl,(hs.2 b (QX (QM (QA e) I.ok.above))).trans e1⟩
  ·obtain⟨o',e1⟩:=I.base.there b o e hx;exact⟨o',(hs.2 b (QX (QM (QA e) I.ok.above))).trans e1⟩
  ·by_cases hj:j=i
   ·subst hj;rw[hi]at e1;cases e1;rw[QZ hiσ]at e2;cases e2;exact⟨u,r,.inl ⟨hk,by simp⟩⟩
   ·rw[eg (Ne.symm hj)]at e2;obtain⟨u',r',q⟩:=hl j y v' e1 e2 e3;refine⟨u',r',?_⟩;rcases q with⟨k,e⟩ | ⟨k,c,e,z⟩
    ·refine .inl ⟨k,?_⟩;have:y≠x:=fun e=>hj (sI hN e1 (e▸hi));simp[this,e]
    ·exact .inr ⟨k,c,e,z.sameBut hs (cne y c e)⟩
  ·obtain⟨w',z⟩:=I.cell y c e;exact⟨w',z.sameBut hs (cne y c e)⟩
  ·obtain⟨e,n,ne,nf,d⟩:=I.pin p hp;exact⟨(hs.2 p.1 ne).trans e,n,ne,nf,d⟩
 ·have hfn:X.fn x=true:=by
   rcases hf with z | z
   ·exact z
   ·rw[z]at hk;cases hk
  obtain⟨c,hc⟩:=I.ok.has x (.inl hk);obtain⟨w',z⟩:=I.cell x c hc;refine wpAny_storeName_cell I.ok.kind hk hc z (fun h' hc' hs=>?_);obtain⟨oc,hoc,O0⟩:=id z;refine h { s with heap:=h' } ⟨I.ok,I.os,I.bare,⟨fun b o e n hb hx=>?_,fun b o e n hb hx=>?_,I.base.free,fun b o e hx=>?_,I.base.tups,I.base.qH,I.base.sH⟩,⟨m,hn.sameBut hs (Ne.symm (cne x c hc)),fun j y v' e1 e2 e3=>?_⟩,fun y c' e=>?_,I.free,I.gW,fun p hp=>?_,tracked ⟨oc,hoc,I.gW x c hc⟩ hs,by simpa using I.len⟩ ⟨c,hs,.inr hc⟩
  ·exact(hs.2 b (QX (QM (QA e) (I.ok.cab x c hfn hc)))).trans (I.base.keep b o e n hb hx)
  ·obtain⟨sl,e1⟩:=I.base.slot b o e n hb hx;exact⟨sl,(hs.2 b (QX (QM (QA e) (I.ok.cab x c hfn hc)))).trans e1⟩
  ·obtain⟨o',e1⟩:=I.base.there b o e hx;exact⟨o',(hs.2 b (QX (QM (QA e) (I.ok.cab x c hfn hc)))).trans e1⟩
  ·by_cases hj:j=i
   ·subst hj;rw[hi]at e1;cases e1;rw[QZ hiσ]at e2;cases e2;exact⟨u,r,.inr ⟨.inl hk,c,hc,hc'⟩⟩
   ·rw[eg (Ne.symm hj)]at e2;obtain⟨u',r',q⟩:=hl j y v' e1 e2 e3;refine⟨u',r',?_⟩;rcases q with q | ⟨k,c',e,z'⟩
    ·exact .inl q
    ·refine .inr ⟨k,c',e,z'.sameBut hs ?_⟩;rintro rfl;exact hj (sI hN e1 (I.ok.inj _ _ _ e hc▸hi))
  ·by_cases hcc:c'=c
   ·subst hcc;exact⟨_,hc'⟩
   ·obtain⟨w2,z2⟩:=I.cell y c' e;exact⟨w2,z2.sameBut hs hcc⟩
  ·obtain⟨e,n,ne,nf,d⟩:=I.pin p hp;refine⟨(hs.2 p.1 ?_).trans e,n,ne,nf,d⟩;intro q;rw[q,hoc]at e;have q':oc=p.2:=Option.some.inj e;exact d w' (by rw[<- q'];exact O0)
theorem sJ{M:Model}{A:Around}{E:Value->Shared->Prop}{Q:Unit->Shared->Prop}(I:Inv X kC σ H s)(hN:X.N.Nodup)(hi:X.N[i]?=some x)(hx:Loc X.env.scope x)(r:RelV v u)
  (h:∀s',Inv X kC (σ.set i (some v)) H s'->Q () s') (hf:X.fn x=true\/X.env.scope.names.lookup x=some .local:=by trivial):wpAny M A (storeName X.env x u) Q E s:=
 pP I hN hi hx r (fun s' I' _=>h s' I') hf
theorem Inv.Mm{s':Shared}(I:Inv X kC σ H s)(ho:s'.os=s.os)(u:Un (frs X.stack) ch H H' s.heap s'.heap)(hok:HOk X.prog X.w H' s'.heap)(hg:AllBare s'.gens)
  (hch:∀b∈ch,(b∈X.ex\/X.s₀.heap.objs.size<=b)/\b≠X.env.locals/\(∀x c,X.env.cells.lookup x=some c->c≠b)/\∀p∈X.pn++kC,p.1≠b):Inv X kC σ H' s':=by
 obtain⟨h',g',d',t',o'⟩:=s';have e:o'=s.os:=ho;subst e;exact I.call (g':=g') (t':=t') (d':=d') u hok hg hch
end
end
noncomputable abbrev XK:=Value->Option Addr->Hp->Prop
noncomputable abbrev St:=List (Option V)
noncomputable abbrev VK:=V->Hp->Prop
noncomputable abbrev TE:=St->Hp->VK->Prop
noncomputable abbrev TT:=St->Hp->(Bool->Hp->Prop)->Prop
noncomputable abbrev TA:=St->Hp->(List V->Hp->Prop)->Prop
structure Ends where
 nx:St->Hp->Prop
 rt:VK
 bk:St->Hp->Prop:=fun _ _=>False
 ct:St->Hp->Prop:=fun _ _=>False
noncomputable abbrev TS:=Ends->St->Hp->Prop
def EP(X:Cx)(kC:List (Addr×Obj))(σ:St)(Q:VK)(u:Value)(s':Shared):Prop:=∃v H',Inv X kC σ H' s'/\RelV v u/\Q v H'
def TP(X:Cx)(kC:List (Addr×Obj))(σ:St)(Q:Bool->Hp->Prop)(b:Bool)(s':Shared):Prop:=∃H',Inv X kC σ H' s'/\Q b H'
def AP(X:Cx)(kC:List (Addr×Obj))(σ:St)(Q:List V->Hp->Prop)(us:List Value)(s':Shared):Prop:=∃vs H',Inv X kC σ H' s'/\Vals vs us/\Q vs H'
def SP(X:Cx)(kC:List (Addr×Obj))(D:Ends)(f:Flow)(s':Shared):Prop:=
 match f with
 |.next=>∃σ' H',Inv X kC σ' H' s'/\D.nx σ' H'
 |.brk=>∃σ' H',Inv X kC σ' H' s'/\D.bk σ' H'
 |.cont=>∃σ' H',Inv X kC σ' H' s'/\D.ct σ' H'
 |.ret u=>∃v σ' H',Inv X kC σ' H' s'/\RelV v u/\D.rt v H'
def PE(X:Cx)(e:Expr)(t:TE):Prop:=
 ∀(kC:List (Addr×Obj)) (s:Shared) (σ:St) (H:Hp) (Q:VK),Inv X kC σ H s->t σ H Q->wpAny (model X.prog X.w) X.A (eval e X.env) (EP X kC σ Q) X.xe s
def PT(X:Cx)(e:Expr)(t:TT):Prop:=
 ∀(kC:List (Addr×Obj)) (s:Shared) (σ:St) (H:Hp) (Q:Bool->Hp->Prop),Inv X kC σ H s->t σ H Q->wpAny (model X.prog X.w) X.A (isTrue e X.env (eval e X.env)) (TP X kC σ Q) X.xe s
def PW(X:Cx)(e:Expr)(t:TT):Prop:=
 ∀(whole:Sem Value) (kC:List (Addr×Obj)) (s:Shared) (σ:St) (H:Hp) (Q:Bool->Hp->Prop),Inv X kC σ H s->t σ H Q->wpAny (model X.prog X.w) X.A (isTrue e X.env whole) (TP X kC σ Q) X.xe s
theorem PW.pt{X:Cx}{e:Expr}{t:TT}(h:PW X e t):PT X e t:=h _
def PA(X:Cx)(es:List Expr)(t:TA):Prop:=
 ∀(pos:Pos) (kC:List (Addr×Obj)) (s:Shared) (σ:St) (H:Hp) (Q:List V->Hp->Prop),Inv X kC σ H s->t σ H Q->wpAny (model X.prog X.w) X.A (spliced (backTo pos (starEach es X.env))) (AP X kC σ Q) X.xe s
def PS(X:Cx)(st:Stmt)(t:TS):Prop:=
 ∀(kC:List (Addr×Obj)) (s:Shared) (σ:St) (H:Hp) (D:Ends),Inv X kC σ H s->t D σ H->wpAny (model X.prog X.w) X.A (exec st X.env) (SP X kC D) X.xe s
def PSs(X:Cx)(st:List Stmt)(t:TS):Prop:=
 ∀(kC:List (Addr×Obj)) (s:Shared) (σ:St) (H:Hp) (D:Ends),Inv X kC σ H s->t D σ H->wpAny (model X.prog X.w) X.A (execs st X.env) (SP X kC D) X.xe s
theorem thn{α:Type}{t:Sem α}{Q Q':α->Shared->Prop}{M:Model}{A:Around}{E:Value->Shared->Prop}{s:Shared}(h:wpAny M A t Q E s)(hQ:∀a s,Q a s->Q' a s):wpAny M A t Q' E s:=wpAny_mono h hQ fun _ _ x=>x
section
variable{X:Cx}
section
variable{Q:Value->Shared->Prop}{kC:List (Addr×Obj)}{x:Str}{u:Value}{s:Shared}{t:TE}{σ:St}{H:Hp}
def l8(i:Nat):TE:=fun σ H Q=>∃v,σ[i]?=some (some v)/\Q v H
def tC(v:V):TE:=fun _ H Q=>Q v H
theorem eK{i:Nat}{pos:Pos}(hN:X.N[i]?=some x)(hv:Vis X.env.scope x)(hd:(x == ("__debug__" : Str))=false:=by decide)(Ij:(x == ("__classdict__" : Str))=false:=by decide):PE X (.Name x pos) (l8 i):=by
 intro kC s σ H Q I h;obtain⟨v,e,h⟩:=h;obtain⟨m,hn,hl⟩:=I.loc;obtain⟨u,r,l⟩:=hl i x v hN e hv;have CY:EP X kC σ Q u s:=⟨v,H,I,r,h⟩
 rcases l with⟨hk,hm⟩ | ⟨hk,c,hc,hcell⟩
 ·exact wpAny_Name (wpAny_loadName_local I.ok.kind hk hn hm CY) hd
 ·rcases hk with hk | hk
  ·exact wpAny_Name (wpAny_loadName_cell I.ok.kind hk hc hcell CY) hd
  ·exact wpAny_Name (wpAny_loadName_free I.ok.kind hk hc hcell CY Ij) hd
theorem AK{i j pos}:PE X (.Constant (.int i) j pos) (tC (.int i)):=fun _ _ _ H _ I h=>wpAny_Constant_int ⟨.int i,H,I.tok _,⟨_,rfl⟩,h⟩
theorem Mn{b j pos}:PE X (.Constant (.bool b) j pos) (tC (.bl b)):=fun _ _ _ H _ I h=>Constant_bool ⟨.bl b,H,I,rfl,h⟩
theorem Jd{j pos}:PE X (.Constant .none j pos) (tC .non):=fun _ _ _ H _ I h=>Constant_none ⟨.non,H,I,rfl,h⟩
def Gl(X:Cx)(x:Str):Prop:=X.env.kindOf x=some .globalImplicit
theorem E8{E:Value->Shared->Prop}{pos:Pos}(I:Inv X kC σ H s)(hg:Gl X x)(hm:X.mg x=some u)(h:Q u s)
  (hd:(x == ("__debug__" : Str))=false:=by decide):wpAny (model X.prog X.w) X.A (eval (.Name x pos) X.env) Q E s:=
 Calls.Name_function_global I.ok.kind hg (Calls.loadGlobal_global (by rw[I.ok.glob];exact I.mod.glob.keeps I.bk) hm h) hd
theorem jW{E:Value->Shared->Prop}{pos:Pos}(I:Inv X kC σ H s)(hg:Gl X x)(hm:X.mg x=none)(hv:bootBuiltins x=some u)(h:Q u s)
  (hn:x ≠ "__name__" := by decide) (hd:(x == ("__debug__" : Str))=false:=by decide):wpAny (model X.prog X.w) X.A (eval (.Name x pos) X.env) Q E s:=by
 obtain⟨mb,h1,h2⟩:=I.mod.blt;exact Calls.Name_function_global I.ok.kind hg (Calls.loadGlobal_builtin (by rw[I.ok.glob];exact I.mod.glob.keeps I.bk) hm (by rw[I.ok.blt];exact h1.keeps I.bk) ((h2 x hn).trans hv) h) hd
theorem E9{v:V}{pos:Pos}(hg:Gl X x)(hm:X.mg x=none)(hv:bootBuiltins x=some u)(r:RelV v u)(hn:x ≠ "__name__" := by decide)(hd:(x == ("__debug__" : Str))=false:=by decide):PE X (.Name x pos) (tC v):=
 fun _ _ _ H _ I h=>jW I hg hm hv ⟨v,H,I,r,h⟩ hn hd
variable{a b:Expr}{ta tb:TE}{pos:Pos}
def PC(X:Cx)(op:CmpOp)(a b:Expr)(t:TE):Prop:=
 ∀(kC:List (Addr×Obj)) (s:Shared) (σ:St) (H:Hp) (Q:VK),Inv X kC σ H s->t σ H Q ->
  wpAny (model X.prog X.w) X.A (eval a X.env) (fun v s₁=>wpAny (model X.prog X.w) X.A (eval b X.env) (fun u s₂=>wpAny (model X.prog X.w) X.A (compareOp op v u) (EP X kC σ Q) X.xe s₂) X.xe s₁) X.xe s
def tB(t:TE):TT:=fun σ H Q=>t σ H fun x H1=>∃c,x=.bl c/\Q c H1
theorem AL{op:CmpOp}(h:PC X op a b t)(h1:behindInMarks op b=false:=by first | exact Mp _ (by decide) (by decide) | rfl):PT X (.Compare a [op] [b] pos) (tB t):=by intro kC s σ H Q I hw;refine wpAny_isTrue_Compare1 (thn (h kC s σ H _ I hw) fun v s1 h1=>thn h1 fun u s2 h2=>thn h2 fun c s3 ⟨x,H1,I1,r1,q1⟩=>?_) h1;obtain⟨d,rfl,q⟩:=q1;cases r1;exact wpAny_truthy_bool ⟨H1,I1,q⟩
theorem Je{e:Expr}(h:PE X e t)(he:∀whole,isTrue e X.env whole=(do let v <- whole;standAt e.pos;holding [v] (truthy v)):=by intro _;rfl):PT X e (tB t):=by intro kC s σ H Q I hw;refine isTrue_plain (thn (h kC s σ H _ I hw) fun v s1 ⟨x,H1,I1,r1,q1⟩=>?_) (he _);obtain⟨d,rfl,q⟩:=q1;cases r1;exact wpAny_truthy_bool ⟨H1,I1,q⟩
variable{tA tB':TT}{CJ:List Expr}
def l9(t u:TT):TT:=fun σ H Q=>t σ H fun c H1=>if c=true then u σ H1 Q else Q false H1
def tOr(t u:TT):TT:=fun σ H Q=>t σ H fun c H1=>if c=true then Q true H1 else u σ H1 Q
def eZ(t:TT):TT:=fun σ H Q=>t σ H fun c H1=>Q (!c) H1
theorem pw_and1(ha:PT X a tA):PW X (.BoolOp .And [a] pos) tA:=by
 intro wh kC s σ H Q I h;refine isTrue_and (thn (ha kC s σ H Q I h) fun c s1 e=>?_);cases c with
 |true=>exact isTrue_and_nil e
 |false=>exact e
theorem pw_or1(ha:PT X a tA):PW X (.BoolOp .Or [a] pos) tA:=by
 intro wh kC s σ H Q I h;refine isTrue_or (thn (ha kC s σ H Q I h) fun c s1 e=>?_);cases c with
 |false=>exact isTrue_or_nil e
 |true=>exact e
theorem pw_and(ha:PT X a tA)(hb:PW X (.BoolOp .And (b::CJ) pos) tB'):PW X (.BoolOp .And (a::b::CJ) pos) (l9 tA tB'):=by
 intro wh kC s σ H Q I h;refine isTrue_and (thn (ha kC s σ H _ I h) fun c s1 ⟨H1,I1,q1⟩=>?_);cases c with
 |true=>exact hb wh kC s1 σ H1 Q I1 q1
 |false=>exact⟨H1,I1,q1⟩
theorem pw_or(ha:PT X a tA)(hb:PW X (.BoolOp .Or (b::CJ) pos) tB'):PW X (.BoolOp .Or (a::b::CJ) pos) (tOr tA tB'):=by
 intro wh kC s σ H Q I h;refine isTrue_or (thn (ha kC s σ H _ I h) fun c s1 ⟨H1,I1,q1⟩=>?_);cases c with
 |true=>exact⟨H1,I1,q1⟩
 |false=>exact hb wh kC s1 σ H1 Q I1 q1
theorem Jf(ha:PT X a tA):PT X (.UnaryOp .Not a pos) (eZ tA):=by intro kC s σ H Q I h;exact isTrue_not (ha kC s σ H (fun c H1=>Q (!c) H1) I h)
def HA(ta tb:TE):TE:=fun σ H Q=>ta σ H fun x H1=>∃c,x=.bl c/\if c=true then tb σ H1 Q else Q (.bl false) H1
def HB(ta:TE):TE:=fun σ H Q=>ta σ H fun x H1=>∃c,x=.bl c/\Q (.bl (!c)) H1
theorem Jg{op}(h:PE X a t):PE X (.BoolOp op [a] pos) t:=fun kC s σ H Q I hw=>BoolOp_one (h kC s σ H Q I hw)
theorem Jh(ha:PE X a ta)(hb:PE X (.BoolOp .And (b::CJ) pos) tb):PE X (.BoolOp .And (a::b::CJ) pos) (HA ta tb):=by
 intro kC s σ H Q I h;refine BoolOp_and (thn (ha kC s σ H _ I h) fun v s1 ⟨x,H1,I1,r1,q1⟩=>?_);obtain⟨c,rfl,q1⟩:=q1;cases r1;refine wpAny_truthy_bool ?_;cases c with
 |true=>exact hb kC s1 σ H1 Q I1 q1
 |false=>exact⟨.bl false,H1,I1,rfl,q1⟩
theorem Ji(ha:PE X a ta):PE X (.UnaryOp .Not a pos) (HB ta):=by intro kC s σ H Q I h;refine UnaryOp_ (thn (ha kC s σ H _ I h) fun v s1 ⟨x,H1,I1,r1,q1⟩=>?_);obtain⟨c,rfl,q1⟩:=q1;cases r1;exact not_of (wpAny_truthy_bool ⟨.bl (!c),H1,I1,rfl,q1⟩)
end
end
def SqL(K:Dk)(H:Hp)(a:Addr)(xs:List V):Prop:=
 Rd H a (.lst xs) \/
  ∃(o:Obj) (its:Array Value) (n:Nat),K.lookup a=some o/\o.cls=.type "list" /\ o.dict=none/\o.data=.seq its n/\its.size<=sizeLine/\Vals xs its.toList
def SqT(K:Dk)(H:Hp)(a:Addr)(xs:List V):Prop:=
 Rd H a (.tup xs) \/
  ∃(o:Obj) (its:Array Value) (n:Nat),K.lookup a=some o/\o.cls=.type "tuple" /\ o.data=.seq its n/\its.size<=sizeLine/\Vals xs its.toList
noncomputable def O3:Value->Option V
 |.none=>some .non
 |.bool b=>some (.bl b)
 |.int i _=>some (.int i)
 |.str x _=>some (.str x)
 |.bytes b _=>some (.byt b)
 |.float b _=>some (.flt b)
 |.ref a=>some (.ref a)
 |.type n=>some (.ty n)
 |_=>none
theorem RelV.abs{x:V}{u:Value}(r:RelV x u):O3 u=some x:=by
 cases x with
 |non=>cases r;rfl
 |bl _=>cases r;rfl
 |int _=>obtain⟨t,rfl⟩:=r;rfl
 |str _=>obtain⟨t,rfl⟩:=r;rfl
 |byt _=>obtain⟨t,rfl⟩:=r;rfl
 |flt _=>obtain⟨t,rfl⟩:=r;rfl
 |ref _=>cases r;rfl
 |ty _=>cases r;rfl
theorem RelV.inj{x y:V}{u:Value}(r:RelV x u)(q:RelV y u):x=y:=Option.some.inj (r.abs.symm.trans q.abs)
theorem Vals.inj:∀{xs ys:List V} {us:List Value},Vals xs us->Vals ys us->xs=ys
 |_,_,_,.nil,.nil=>rfl
 |_,_,_,.cons r t,.cons r' t'=>by rw[r.inj r',Vals.inj t t']
section
variable{X:Cx}{kC:List (Addr×Obj)}{σ:St}{H:Hp}{s:Shared}{a:Addr}{xs ys:List V}
theorem SqT.of{K:Dk}(h:H a=some (.tup xs)):SqT K H a xs:=.inl (.inl h)
theorem Inv.list(I:Inv X kC σ H s)(h:SqL X.K H a xs):∃its:List Value,Vals xs its/\PlainL s.heap a its.toArray/\xs.length<=sizeLine:=by
 rcases h with h | ⟨o,its,n,hk,hc,hd,hs,hz,r⟩
 ·obtain⟨z,its,n,r,e⟩:=h.ok I.hok;exact⟨its,r,⟨_,n,e,rfl,rfl,rfl⟩,z⟩
 ·refine⟨its.toList,r,⟨o,n,I.kIn a o hk,hc,hd,by simpa using hs⟩,?_⟩;have e:=r.length;simp only[QH]at e
  lia
theorem Inv.tuple(I:Inv X kC σ H s)(h:SqT X.K H a xs):∃its:List Value,Vals xs its/\IsTup s.heap a its.toArray/\xs.length<=sizeLine:=by
 rcases h with h | ⟨o,its,n,hk,hc,hs,hz,r⟩
 ·obtain⟨z,its,r,p⟩:=h.ok I.hok;exact⟨its,r,p,z⟩
 ·refine⟨its.toList,r,⟨o,I.kIn a o hk,hc,n,by simpa using hs⟩,?_⟩;have e:=r.length;simp only[QH]at e
  lia
theorem Inv.AM(I:Inv X kC σ H s)(h:SqL X.K H a xs)(h':SqL X.K H a ys):xs=ys:=by
 obtain⟨its,r,⟨o,n,e,_,_,d⟩,_⟩:=I.list h;obtain⟨its',r',⟨o',n',e',_,_,d'⟩,_⟩:=I.list h';rw[e]at e';cases e';rw[d]at d';injection d' with d1 _
 have:its=its':=by simpa using congrArg Array.toList d1
 subst this;exact r.inj r'
theorem Inv.zE(I:Inv X kC σ H s)(h:SqT X.K H a xs)(h':SqT X.K H a ys):xs=ys:=by
 obtain⟨its,r,⟨o,e,_,n,d⟩,_⟩:=I.tuple h;obtain⟨its',r',⟨o',e',_,n',d'⟩,_⟩:=I.tuple h';rw[e]at e';cases e';rw[d]at d';injection d' with d1 _
 have:its=its':=by simpa using congrArg Array.toList d1
 subst this;exact r.inj r'
end
noncomputable abbrev Cx.o8(X:Cx)(E:Value->Shared->Prop):Cx:={ X with xe:=E }
noncomputable abbrev Cx.nox(X:Cx):Cx:=X.o8 fun _ _=>False
theorem Cx.Ok.o8{X:Cx}(ok:X.Ok)(E:Value->Shared->Prop):(X.o8 E).Ok:=
 ⟨ok.mod,ok.kind,ok.glob,ok.blt,ok.above,ok.inj,ok.has,ok.cab,ok.hd,ok.frames,ok.stk,ok.exf,ok.bs,ok.bsz,ok.AJ,ok.E7,ok.l7,ok.frf⟩
theorem Cx.Ok.f6{X:Cx}{E:Value->Shared->Prop}(ok:(X.o8 E).Ok):X.Ok:=
 ⟨ok.mod,ok.kind,ok.glob,ok.blt,ok.above,ok.inj,ok.has,ok.cab,ok.hd,ok.frames,ok.stk,ok.exf,ok.bs,ok.bsz,ok.AJ,ok.E7,ok.l7,ok.frf⟩
section
variable{X:Cx}{kC:List (Addr×Obj)}{σ:St}{H:Hp}{s:Shared}{E:Value->Shared->Prop}
theorem Inv.o8(I:Inv X kC σ H s)(E:Value->Shared->Prop):Inv (X.o8 E) kC σ H s:=⟨I.ok.o8 E,I.os,I.bare,I.base,I.loc,I.cell,I.free,I.gW,I.pin,I.hok,I.len⟩
theorem Inv.f6(I:Inv (X.o8 E) kC σ H s):Inv X kC σ H s:=⟨I.ok.f6,I.os,I.bare,I.base,I.loc,I.cell,I.free,I.gW,I.pin,I.hok,I.len⟩
theorem SP.f6{D:Ends}{f:Flow}{s':Shared}(h:SP (X.o8 E) kC D f s'):SP X kC D f s':=by
 cases f with
 |next=>obtain⟨σ',H',I,q⟩:=h;exact⟨σ',H',I.f6,q⟩
 |brk=>obtain⟨σ',H',I,q⟩:=h;exact⟨σ',H',I.f6,q⟩
 |cont=>obtain⟨σ',H',I,q⟩:=h;exact⟨σ',H',I.f6,q⟩
 |ret u=>obtain⟨v,σ',H',I,r,q⟩:=h;exact⟨v,σ',H',I.f6,r,q⟩
theorem PSs.nox{st:List Stmt}{t:TS}(h:PSs X.nox st t):PSs X st t:=fun kC s σ H D I hw=>wpAny_mono (h kC s σ H D (I.o8 _) hw) (fun _ _ q=>q.f6) fun _ _ z=>Rc z
end
section
variable{X:Cx}{st:Stmt}{CJ:List Stmt}{t u:TS}{e:Expr}{te:TE}{pos:Pos}
def xW:TS:=fun D σ H=>D.nx σ H
def o9(t u:TS):TS:=fun D σ H=>t { D with nx:=u D } σ H
theorem qJ:PSs X [] xW:=fun _ _ σ H _ I h=>wpAny_execs_nil ⟨σ,H,I,h⟩
theorem cO(h1:PS X st t)(h2:PSs X CJ u):PSs X (st::CJ) (o9 t u):=by
 intro kC s σ H D I h;refine wpAny_execs_cons (thn (h1 kC s σ H { D with nx:=u D } I h) fun f s1 q=>?_);cases f with
 |next=>obtain⟨σ',H',I',q⟩:=q;exact h2 kC s1 σ' H' D I' q
 |ret v=>exact q
 |brk=>exact q
 |cont=>exact q
theorem xX(h1:PS X st t):PSs X [st] t:=by
 intro kC s σ H D I h;refine wpAny_execs_cons (thn (h1 kC s σ H D I h) fun f s1 q=>?_);cases f with
 |next=>exact wpAny_execs_nil q
 |ret v=>exact q
 |brk=>exact q
 |cont=>exact q
theorem Inv.quiet{kC:List (Addr×Obj)}{σ:St}{H:Hp}{s:Shared}(I:Inv X kC σ H s):interactive X.env=false:=by simp[interactive,I.ok.kind]
def pQ(te:TE):TS:=fun D σ H=>te σ H fun _ H1=>D.nx σ H1
theorem jl(he:PE X e te)(hs:swapsWith e none pos.line X.env=pure false:=by rfl):PS X (.Expr e pos) (pQ te):=by intro kC s σ H D I h;exact wpAny_Expr_any (thn (he kC s σ H _ I h) fun v s1 ⟨x,H1,I1,r1,q1⟩=>⟨σ,H1,I1,q1⟩) I.quiet hs
def Mq(te:TE):TS:=fun D σ H=>te σ H D.rt
theorem Jj(he:PE X e te):PS X (.Return (some e) pos) (Mq te):=by intro kC s σ H D I h;exact wpAny_Return_some (thn (he kC s σ H _ I h) fun v s1 ⟨x,H1,I1,r1,q1⟩=>⟨x,σ,H1,I1,r1,q1⟩)
def AO(c:TT)(t u:TS):TS:=fun D σ H=>c σ H fun b H1=>if b=true then t D σ H1 else u D σ H1
theorem xY{c:Expr}{a b:List Stmt}{tc:TT}(hc:PT X c tc)(ha:PSs X a t)(hb:PSs X b u):PS X (.If c a b pos) (AO tc t u):=by
 intro kC s σ H D I h;refine wpAny_If (thn (hc kC s σ H _ I h) fun d s1 ⟨H1,I1,q1⟩=>?_);cases d with
 |true=>exact ha kC s1 σ H1 D I1 q1
 |false=>exact hb kC s1 σ H1 D I1 q1
def Jk:TS:=fun _ _ _=>False
theorem AQ:PS X st Jk:=fun _ _ _ _ _ _ h=>h.elim
end
noncomputable abbrev TG:=V->St->Hp->(St->Hp->Prop)->Prop
noncomputable abbrev TGs:=List V->St->Hp->(St->Hp->Prop)->Prop
def PG(X:Cx)(target:Expr)(t:TG):Prop:=
 ∀(kC:List (Addr×Obj)) (s:Shared) (σ:St) (H:Hp) (v:V) (u:Value) (Q:St->Hp->Prop),Inv X kC σ H s->RelV v u->t v σ H Q ->
  wpAny (model X.prog X.w) X.A (assign target X.env u) (fun _ s'=>∃σ' H',Inv X kC σ' H' s'/\Q σ' H') X.xe s
def PGs(X:Cx)(ts:List Expr)(t:TGs):Prop:=
 ∀(kC:List (Addr×Obj)) (s:Shared) (σ:St) (H:Hp) (vs:List V) (us:List Value) (Q:St->Hp->Prop),Inv X kC σ H s->Vals vs us->t vs σ H Q ->
  wpAny (model X.prog X.w) X.A (assignInOrder ((assignEach ts X.env).map (·.2)) us) (fun _ s'=>∃σ' H',Inv X kC σ' H' s'/\Q σ' H') X.xe s
noncomputable abbrev Jl:=V->V->V->Hp->(Hp->Prop)->Prop
def Mr(X:Cx)(t:Jl):Prop:=
 ∀(kC:List (Addr×Obj)) (s:Shared) (σ:St) (H:Hp) (o i v:V) (ov iv u:Value) (Q:Hp->Prop),Inv X kC σ H s->RelV o ov->RelV i iv->RelV v u->t o i v H Q ->
  wpAny (model X.prog X.w) X.A (setItem ov iv u) (fun _ s'=>∃H',Inv X kC σ H' s'/\Q H') X.xe s
section
variable{X:Cx}{pos:Pos}
section
variable{es:List Expr}{e:Expr}{x:Str}{i:Nat}{te:TE}
def fS(i:Nat):TG:=fun v σ H Q=>Q (σ.set i (some v)) H
theorem qK(hN:X.N.Nodup)(hi:X.N[i]?=some x)(hx:Loc X.env.scope x)(hf:X.fn x=true\/X.env.scope.names.lookup x=some .local:=by trivial):PG X (.Name x pos) (fS i):=by intro kC s σ H v u Q I r h;exact wpAny_assign_Name (sJ I hN hi hx r (fun s' I'=>⟨_,H,I',h⟩) hf)
def Ms:TGs:=fun vs σ H Q=>vs=[]/\Q σ H
def HC(t:TG)(u:TGs):TGs:=fun vs σ H Q=>∃v r,vs=v::r/\t v σ H fun σ' H'=>u r σ' H' Q
theorem E_:PGs X [] Ms:=by intro kC s σ H vs us Q I r h;obtain⟨e,h⟩:=h;subst e;cases r;exact assignInOrder_nil ⟨σ,H,I,h⟩
theorem AR{t:TG}{u:TGs}(h1:PG X e t)(h2:PGs X es u)
  (hs:(assignEach (e::es) X.env).map (·.2)=assign e X.env::(assignEach es X.env).map (·.2):=by rfl):PGs X (e::es) (HC t u):=by
 intro kC s σ H vs us Q I r h;obtain⟨v,vr,e1,h⟩:=h;subst e1;cases r with
 |cons r rr=>rw[hs];refine assignInOrder_cons (thn (h1 kC s σ H _ _ _ I r h) fun _ s1 ⟨σ1,H1,I1,q1⟩=>?_);exact h2 kC s1 σ1 H1 _ _ Q I1 rr q1
def Jm(K:Dk)(n:Nat)(t:TGs):TG:=fun v σ H Q=>∃a xs,v=.ref a/\SqT K H a xs/\xs.length=n/\t xs σ H Q
theorem vO{k:Nat}{t:TGs}{n:Nat}(hc:X.calm=true)(h:PGs X es t)
  (hn:(assignEach es X.env).length=n:=by rfl) (hst:(assignEach es X.env).findIdx? (·.1)=none:=by rfl):PG X (.Tuple es k pos) (Jm X.K n t):=by
 intro kC s σ H v u Q I r hw;obtain⟨a,xs,e1,hq,hl,hw⟩:=hw;subst e1;cases r;obtain⟨its,rv,ht,hz⟩:=I.tuple hq;refine assign_Tuple_tuple (I.ok.hd hc) ht (by simp[hn,<- hl,rv.length]) hst fun h' hx=>?_;have I1:Inv X kC σ H { s with heap:=h' }:=I.kept (t':=s.toks) fun b o e=>hx b o (QX (QA e)) e;exact h kC _ σ H xs _ Q I1 (by simpa using rv) hw
def f7(to ti:TE)(t:Jl):TG:=fun v σ H Q=>to σ H fun o H1=>ti σ H1 fun i H2=>t o i v H2 fun H3=>Q σ H3
theorem AS{o i:Expr}{to ti:TE}{t:Jl}(ho:PE X o to)(hi:PE X i ti)(hs:Mr X t)
  (ha:∀ v,assign (.Subscript o i pos) X.env v=(do
   let ov <- holding [v] (eval o X.env)
   let iv <- holding [v,ov] (eval i X.env)
   standAt pos
   holding [v,ov,iv] (setItem ov iv v)
   release [v,ov,iv] []):=by intro _;rfl):PG X (.Subscript o i pos) (f7 to ti t):=by
 intro kC s σ H v u Q I r h;rw[ha];refine wpAny_bind (wpAny_holding (thn (ho kC s σ H _ I h) fun ov s1 ⟨x,H1,I1,r1,q1⟩=>?_));refine wpAny_bind (wpAny_holding (thn (hi kC s1 σ H1 _ I1 q1) fun iv s2 ⟨y,H2,I2,r2,q2⟩=>?_));refine wpAny_bind (wpAny_standAt (wpAny_bind (wpAny_holding (thn (hs kC s2 σ H2 x y v ov iv u _ I2 r1 r2 r q2) fun _ s3 ⟨H3,I3,q3⟩=>?_))));exact wpAny_release ⟨σ,H3,I3,q3⟩
def l_(te:TE)(g:TG):TS:=fun D σ H=>te σ H fun x H1=>g x σ H1 D.nx
theorem vP{tg e:Expr}{g:TG}(he:PE X e te)(hg:PG X tg g)(hs:swapsWithSole [tg] e pos.line X.env=pure false:=by rfl)(hw:swappedStores [tg] e X.env=pure none:=by rfl)
  (h1:(assignEach [tg] X.env).map (·.2)=[assign tg X.env]:=by rfl):PS X (.Assign [tg] e pos) (l_ te g):=by
 intro kC s σ H D I h;refine wpAny_Assign_stores (thn (he kC s σ H _ I h) fun v s1 ⟨x,H1,I1,r1,q1⟩=>?_) hs hw;rw[h1];exact thn (hg kC s1 σ H1 x v _ I1 r1 q1) fun _ s2 q=>q
theorem vQ{pos':Pos}(hN:X.N.Nodup)(hi:X.N[i]?=some x)(hx:Loc X.env.scope x)(he:PE X e te)(hs:swapsWith e (some (.Name x pos')) pos.line X.env=pure false:=by rfl)(hf:X.fn x=true\/X.env.scope.names.lookup x=some .local:=by trivial) :
  PS X (.Assign [.Name x pos'] e pos) (l_ te (fS i)):=by
 intro kC s σ H D I h;refine wpAny_Assign_Name (thn (he kC s σ H _ I h) fun v s1 ⟨y,H1,I1,r1,q1⟩=>?_) hs;exact sJ I1 hN hi hx r1 (fun s2 I2=>⟨_,H1,I2,q1⟩) hf
end
end
section
variable{X:Cx}{pos:Pos}
def AU(c:TT)(tb:TS):TS:=fun D σ H=>∃W:Nat->St->Hp->Prop,(∃m,W m σ H)/\∀m σ H,W m σ H ->
 c σ H fun b H1=>if b=true then ∃N:St->Hp->Prop,(∀σ' H',N σ' H'->∃m',m'<m/\W m' σ' H')/\tb { D with nx:=N,ct:=N,bk:=D.nx } σ H1 else D.nx σ H1
theorem AV{c:Expr}{body:List Stmt}{tc:TT}{tb:TS}(hp:PassesOwn (model X.prog X.w) X.A X.env X.xe)(hc:PT X c tc)(hb:PSs X body tb):PS X (.While c body [] pos) (AU tc tb):=by
 intro kC s σ H D I h;obtain⟨W,⟨m0,w0⟩,turn⟩:=h;refine wpAny_While (codeAny_whileLoop (fun n s'=>∃σ' H',Inv X kC σ' H' s'/\W n σ' H') ?_ m0 ⟨σ,H,I,w0⟩);rintro n s1 ⟨σ1,H1,I1,w1⟩;refine wpAny_passesOwn hp (thn (hc kC s1 σ1 H1 _ I1 (turn n σ1 H1 w1)) fun b s2 ⟨H2,I2,q2⟩=>?_);cases b with
 |true=>
  obtain⟨N,hN,q2⟩:=q2;rw[if_pos rfl];refine wpAny_passesOwn hp (thn (hb kC s2 σ1 H2 _ I2 q2) fun f s3 q3=>?_);cases f with
  |next=>obtain⟨σ3,H3,I3,n3⟩:=q3;obtain⟨m',hm,w3⟩:=hN σ3 H3 n3;exact⟨m',hm,σ3,H3,I3,w3⟩
  |cont=>obtain⟨σ3,H3,I3,n3⟩:=q3;obtain⟨m',hm,w3⟩:=hN σ3 H3 n3;exact⟨m',hm,σ3,H3,I3,w3⟩
  |brk=>exact q3
  |ret v=>exact q3
 |false=>rw[if_neg Q0];exact wpAny_execs_nil ⟨σ1,H2,I2,q2⟩
end
section
variable{P:Program}{tg:Expr}{w:World}{s:Shared}
structure It where
 go:Nat->Hp->Prop
 yld:Nat->Hp->V->Hp->Prop
 stop:Nat->Hp->Prop
def sL(X:Cx)(kC:List (Addr×Obj))(H:Hp)(b:Addr):Prop:=
 H b=none/\b≠X.env.locals/\b∉X.fs/\(b∈X.ex\/X.s₀.heap.objs.size<=b)/\(∀x c,X.env.cells.lookup x=some c->c≠b)/\∀p∈X.pn++kC,p.1≠b
theorem Inv.Fb{X:Cx}{kC:List (Addr×Obj)}{σ:St}{H H':Hp}{b:Addr}(I:Inv X kC σ H s)(hb:s.heap.objs.size<=b)(hn:H' b=none):sL X kC H' b:=by
 refine⟨hn,Ui (QM I.lt hb),I.OZ hb,.inr (QT I.sz hb),fun x c e z=>?_,fun p hp z=>?_⟩
 ·obtain⟨v,q⟩:=I.cell x c e;exact absurd (QM q.lt (by rw[z];exact hb)) (RW _)
 ·exact absurd (QM (QA (I.pin p hp).1) (by rw[z];exact hb)) (RW _)
structure Turn(P:Program)(w:World)(K:Dk)(tg:Expr)(J:It)(fp:List Addr)(it:Addr)(tn:Nat->Heap->Prop)(CC:Cx->Prop:=fun X=>X.calm=true):Prop where
 mem:it∈fp
 obj:∀i h,tn i h->∀b∈fp,∃o,h.get? b=some o/\∀v,o.data≠.cell v
 keep:∀i h h',tn i h->(∀b∈fp,∀o,h.get? b=some o->h'.get? b=some o)->tn i h'
 item:∀(X:Cx),X.prog=P->X.w=w->X.K=K->CC X->∀(i:Nat) (kC:List (Addr×Obj)) (s:Shared) (σ:St) (H:Hp) (E:Value->Shared->Prop),Inv X kC σ H s->(∀b∈fp,sL X kC H b)->tn i s.heap->J.go i H ->
  wpAny (model P w) X.A (pyNext (.ref it)) (fun r s1=>∃ u,r=some u ∧
   wpAny (model P w) X.A (letOwnedTupleGo tg (.ref it) u) (fun _ s2=>∃x H',Inv X kC σ H' s2/\RelV x u/\J.yld i H x H'/\tn (i+1) s2.heap/\∀b∈fp,H' b=none) E s1) E s
 done:∀(X:Cx),X.prog=P->X.w=w->X.K=K->CC X->∀(i:Nat) (kC:List (Addr×Obj)) (s:Shared) (σ:St) (H:Hp) (E:Value->Shared->Prop),Inv X kC σ H s->(∀b∈fp,sL X kC H b)->tn i s.heap->J.stop i H ->
  wpAny (model P w) X.A (pyNext (.ref it)) (fun r s1=>r=none/\Inv X kC σ H s1) E s
 self:∀(A:Around) (i:Nat) (s:Shared) (Q:Value->Shared->Prop) (E:Value->Shared->Prop),tn i s.heap->Q (.ref it) s->wpAny (model P w) A (pyIter (.ref it)) Q E s
noncomputable abbrev TI:=St->Hp->(It->Hp->Prop)->Prop
def PIE(X:Cx)(kC:List (Addr×Obj))(σ:St)(tg:Expr)(R:It->Hp->Prop)(itv:Value)(s2:Shared):Prop:=
 ∃(it:Addr) (fp:List Addr) (tn:Nat->Heap->Prop) (J:It) (H':Hp),itv=.ref it/\Inv X kC σ H' s2/\Turn X.prog X.w X.K tg J fp it tn/\tn 0 s2.heap/\(∀b∈fp,sL X kC H' b)/\R J H'
def PI(X:Cx)(tg iter:Expr)(wi:TI):Prop:=
 ∀(kC:List (Addr×Obj)) (s:Shared) (σ:St) (H:Hp) (R:It->Hp->Prop),Inv X kC σ H s->wi σ H R ->
  wpAny (model X.prog X.w) X.A (eval iter X.env) (fun v s1=>wpAny (model X.prog X.w) X.A (pyIter v) (PIE X kC σ tg R) X.xe s1) X.xe s
theorem xZ{M:Model}{A:Around}{E:Value->Shared->Prop}{tg:Expr}{it:Addr}{u:Value}{o:Obj}{n:String}{vs:Array Value}{Q:Unit->Shared->Prop}(ho:s.heap.get? it=some o)(hc:o.cls=.type n)(hd:o.data=.fields vs)
  (hn:["enumerate","zip","dict_itemiterator","dict_reverseitemiterator","odict_iterator","itertools.zip_longest","itertools.pairwise"].contains n=false) (hQ:Q () s):wpAny M A (letOwnedTupleGo tg (.ref it) u) Q E s:=by
 unfold letOwnedTupleGo;cases tg<;>first
  |exact wpAny_pure hQ
  | (cases u<;>first
    |exact wpAny_pure hQ
    | (refine wpAny_bind (wpAny_load ho ?_)
       rw[hc,hd];show wpAny M A (if (["enumerate","zip","dict_itemiterator","dict_reverseitemiterator","odict_iterator","itertools.zip_longest","itertools.pairwise"].contains n&&vs[0]? == some (rawInt _))=true then _ else _) Q E s;rw[if_neg (by intro h;rw[hn,Tj]at h;cases h)];exact wpAny_pure hQ))
noncomputable def Itl(K:Dk)(a:Addr):It:=
 ⟨fun i H=>∃xs x,SqL K H a xs/\xs[i]?=some x,fun i H x H'=>H'=H/\∀xs,SqL K H a xs->xs[i]?=some x,fun i H=>∃xs,SqL K H a xs/\xs.length<=i⟩
noncomputable def Itt(K:Dk)(a:Addr):It:=
 ⟨fun i H=>∃xs x,SqT K H a xs/\xs[i]?=some x,fun i H x H'=>H'=H/\∀xs,SqT K H a xs->xs[i]?=some x,fun i H=>∃xs,SqT K H a xs/\xs.length<=i⟩
noncomputable def Itr(lo:Int)(n:Nat):It:=⟨fun i _=>i<n,fun i H x H'=>H'=H/\x=.int (lo+i),fun i _=>n<=i⟩
theorem zF{K:Dk}(a it:Addr):Turn P w K tg (Itl K a) [it] it (fun i h=>h.IsListIter it a i) where
 mem:=by simp
 obj:=fun i h st b hb=>by
  have e:b=it:=by simpa using hb
  subst e;obtain⟨o,e,c,d⟩:=st;exact⟨o,e,fun v z=>by rw[d]at z;cases z⟩
 keep:=fun i h h' st k=>st.at fun o e=>k it (by simp) o e
 item:=by intro X hP hw hK hc i kC s σ H E I hf st hg;subst hP hw hK;obtain⟨xs,x,hq,hx⟩:=hg;obtain⟨its,rv,p,hz⟩:=I.list hq;obtain⟨u,hu,ru⟩:=rv.get hx;obtain⟨f0,f1,f2,f3,f4,f5⟩:=hf it (by simp);refine wpAny_pyNext_list_item st p.isList (x:=u) (by simpa using hu) fun h' st' sb=>?_;have I1:Inv X kC σ H { s with heap:=h' }:=I.turned (t':=s.toks) (fun b o hb e=>(sb.2 b hb).trans e) f0 f1 f3 f4 f5;obtain⟨o,e,c,d⟩:=id st';exact⟨u,rfl,xZ (s:={ s with heap:=h' }) e c d (by decide) ⟨x,H,I1,ru,⟨rfl,fun ys hy=>by rw[I.AM hy hq];exact hx⟩,st',fun b hb=>(hf b hb).1⟩⟩
 done:=by intro X hP hw hK hc i kC s σ H E I hf st hg;subst hP hw hK;obtain⟨xs,hq,hx⟩:=hg;obtain⟨its,rv,p,hz⟩:=I.list hq;obtain⟨f0,f1,f2,f3,f4,f5⟩:=hf it (by simp);have hl:=rv.length;exact wpAny_pyNext_list_end (I.ok.hd hc) st p.isList (by simp;lia) fun h' eb=>⟨rfl,I.turned (t':=s.toks) (fun b o hb e=>eb b o hb e) f0 f1 f3 f4 f5⟩
 self:=fun _ _ _ _ _ st h=>wpAny_pyIter_listiter st h
theorem vR{K:Dk}(a it:Addr):Turn P w K tg (Itt K a) [it] it (fun i h=>h.IsTupleIter it a i) where
 mem:=by simp
 obj:=fun i h st b hb=>by
  have e:b=it:=by simpa using hb
  subst e;obtain⟨o,e,c,d⟩:=st;exact⟨o,e,fun v z=>by rw[d]at z;cases z⟩
 keep:=fun i h h' st k=>st.at fun o e=>k it (by simp) o e
 item:=by intro X hP hw hK hc i kC s σ H E I hf st hg;subst hP hw hK;obtain⟨xs,x,hq,hx⟩:=hg;obtain⟨its,rv,p,hz⟩:=I.tuple hq;obtain⟨u,hu,ru⟩:=rv.get hx;obtain⟨f0,f1,f2,f3,f4,f5⟩:=hf it (by simp);refine wpAny_pyNext_tuple_item st (show s.heap.IsTuple a its.toArray from p) (x:=u) (by simpa using hu) fun h' st' sb=>?_;have I1:Inv X kC σ H { s with heap:=h' }:=I.turned (t':=s.toks) (fun b o hb e=>(sb.2 b hb).trans e) f0 f1 f3 f4 f5;obtain⟨o,e,c,d⟩:=id st';exact⟨u,rfl,xZ (s:={ s with heap:=h' }) e c d (by decide) ⟨x,H,I1,ru,⟨rfl,fun ys hy=>by rw[I.zE hy hq];exact hx⟩,st',fun b hb=>(hf b hb).1⟩⟩
 done:=by intro X hP hw hK hc i kC s σ H E I hf st hg;subst hP hw hK;obtain⟨xs,hq,hx⟩:=hg;obtain⟨its,rv,p,hz⟩:=I.tuple hq;obtain⟨f0,f1,f2,f3,f4,f5⟩:=hf it (by simp);have hl:=rv.length;exact wpAny_pyNext_tuple_end (I.ok.hd hc) st (show s.heap.IsTuple a its.toArray from p) (by simp;lia) fun h' eb=>⟨rfl,I.turned (t':=s.toks) (fun b o hb e=>eb b o hb e) f0 f1 f3 f4 f5⟩
 self:=fun _ _ _ _ _ st h=>wpAny_pyIter_tupleiter st h
theorem vS{K:Dk}(it:Addr)(lo:Int)(n:Nat):Turn P w K tg (Itr lo n) [it] it (fun i h=>IsRangeIter h it (lo+(i:Nat)*1) ((n:Int)-(i:Nat)) 1) where
 mem:=by simp
 obj:=fun i h st b hb=>by
  have e:b=it:=by simpa using hb
  subst e;exact ⟨_,st,fun v z=>by have z':Data.fields _=Data.cell v:=z;cases z'⟩
 keep:=fun i h h' st k=>k it (by simp) _ st
 item:=by intro X hP hw hK hc i kC s σ H E I hf st hg;subst hP hw hK;obtain⟨f0,f1,f2,f3,f4,f5⟩:=hf it (by simp);have W:=Walks.range (prog:=X.prog) (w:=X.w) (I.ok.hd hc) it lo 1 n;refine W.item i s _ _ hg st fun v h' tk hv st' kk=>?_;obtain⟨t,rfl⟩:=hv;have I1:Inv X kC σ H { s with heap:=h',toks:=tk }:=I.turned (fun b o hb e=>kk b o (by simpa using hb) e) f0 f1 f3 f4 f5;refine⟨_,rfl,xZ (s:={ s with heap:=h',toks:=tk }) (n := "range_iterator") st' rfl rfl (by decide) ⟨.int (lo+i),H,I1,⟨t,?_⟩,⟨rfl,rfl⟩,st',fun b hb=>(hf b hb).1⟩⟩;rw[Int.mul_one]
 done:=by intro X hP hw hK hc i kC s σ H E I hf st hg;subst hP hw hK;obtain⟨f0,f1,f2,f3,f4,f5⟩:=hf it (by simp);exact wpAny_pyNext_range_end (I.ok.hd hc) st (by have:n<=i:=hg;lia) fun h' eb=>⟨rfl,I.turned (t':=s.toks) (fun b o hb e=>eb b o hb e) f0 f1 f3 f4 f5⟩
 self:=fun _ _ _ _ _ st h=>wpAny_pyIter_rangeiter st h
end
section
variable{X:Cx}{tg:Expr}
section
variable{kC:List (Addr×Obj)}{fp:List Addr}{s:Shared}{σ:St}{H:Hp}{l:Expr}{h:Heap}{tl:TE}{ta:TA}
def sM(K:Dk)(tl:TE):TI:=fun σ H R=>tl σ H fun x H1=>∃a,x=.ref a/\(∃xs,SqL K H1 a xs)/\R (Itl K a) H1
def AW(K:Dk)(tl:TE):TI:=fun σ H R=>tl σ H fun x H1=>∃a,x=.ref a/\(∃xs,SqT K H1 a xs)/\R (Itt K a) H1
theorem x8(hl:PE X l tl):PI X tg l (sM X.K tl):=by
 intro kC s σ H R I h;refine thn (hl kC s σ H _ I h) fun v s1 ⟨x,H1,I1,r1,q1⟩=>?_;obtain⟨a,e,⟨xs,hq⟩,q⟩:=q1;subst e;cases r1;obtain⟨its,rv,p,hz⟩:=I1.list hq;refine wpAny_pyIter_list p.isList ?_;refine⟨s1.heap.objs.size,[s1.heap.objs.size],_,_,H1,rfl,I1.kept (t':=s1.toks) fun b o e=>PU _ e,zF a _,⟨_,QS _ rfl,rfl,rfl⟩,fun b hb=>?_,q⟩;have e:b=s1.heap.objs.size:=by simpa using hb
 subst e;exact I1.Fb (Pz _) (I1.hok.fresh (Pz _))
theorem AX(hl:PE X l tl):PI X tg l (AW X.K tl):=by
 intro kC s σ H R I h;refine thn (hl kC s σ H _ I h) fun v s1 ⟨x,H1,I1,r1,q1⟩=>?_;obtain⟨a,e,⟨xs,hq⟩,q⟩:=q1;subst e;cases r1;obtain⟨its,rv,p,hz⟩:=I1.tuple hq;refine wpAny_pyIter_tuple (show s1.heap.IsTuple a its.toArray from p) ?_;refine⟨s1.heap.objs.size,[s1.heap.objs.size],_,_,H1,rfl,I1.kept (t':=s1.toks) fun b o e=>PU _ e,vR a _,⟨_,QS _ rfl,rfl,rfl⟩,fun b hb=>?_,q⟩;have e:b=s1.heap.objs.size:=by simpa using hb
 subst e;exact I1.Fb (Pz _) (I1.hok.fresh (Pz _))
theorem sN{R:It->Hp->Prop}{E:Value->Shared->Prop}{lo hi:Int}{t u v:Tok}{tk:Nat}(I:Inv X kC σ H s)(h1:-(2 ^ 62)<=lo)(h2:lo<2 ^ 62)(h3:-(2 ^ 62)<=hi)(h4:hi<2 ^ 62)
  (q:R (Itr lo (hi-lo).toNat) H):wpAny (model X.prog X.w) X.A (pyIter (.ref s.heap.objs.size)) (PIE X kC σ tg R) E { s with heap:=s.heap.push { cls:=.type "range",data:=.fields #[.int lo t,.int hi u,.int 1 v] },toks:=tk }:=by
 refine wpAny_pyIter_range (IsRange.new ..) (small_one h1 h2 h3 h4) ?_;have I1:Inv X kC σ H { s with heap:=s.heap.push { cls:=.type "range",data:=.fields #[.int lo t,.int hi u,.int 1 v] },toks:=tk }:=I.kept fun b o e=>PU _ e;refine ⟨(s.heap.push { cls:=.type "range",data:=.fields #[.int lo t,.int hi u,.int 1 v] }).objs.size,[(s.heap.push { cls:=.type "range",data:=.fields #[.int lo t,.int hi u,.int 1 v] }).objs.size],_,_,H,rfl,
  I1.kept (t':=tk) fun b o e=>PU _ e,vS _ lo (hi-lo).toNat,?_,fun b hb=>?_,q⟩
 ·have e1:lo+((0:Nat):Int)*1=lo:=by simp
  have e2:(((hi-lo).toNat:Nat):Int)-((0:Nat):Int)=Sj lo hi 1:=by rw[rangeSize_one];split<;>lia
  show IsRangeIter _ _ (lo+((0:Nat):Int)*1) ((((hi-lo).toNat:Nat):Int)-((0:Nat):Int)) 1;rw[e1,e2];exact QS _ rfl
 ·have e:b=(s.heap.push { cls:=.type "range",data:=.fields #[.int lo t,.int hi u,.int 1 v] }).objs.size:=by simpa using hb
  subst e;exact I1.Fb (Pz _) (I1.hok.fresh (Pz _))
def HD(ta:TA):TI:=fun σ H R=>ta σ H fun vs H1=>∃j:Int,vs=[.int j]/\-(2 ^ 62)<=j/\j<2 ^ 62/\R (Itr 0 j.toNat) H1
def HE(ta:TA):TI:=fun σ H R=>ta σ H fun vs H1=>∃i j:Int,vs=[.int i,.int j]/\(-(2 ^ 62)<=i/\i<2 ^ 62/\-(2 ^ 62)<=j/\j<2 ^ 62)/\R (Itr i (j-i).toNat) H1
theorem zG{a:Expr}{p pos:Pos}(hg:Gl X "range")(hm:X.mg "range" = none)(ha:PA X [a] ta)(hs:starEach [a] X.env=[(false,eval a X.env)]:=by rfl):PI X tg (.Call (.Name "range" p) [a] [] pos) (HD ta):=by
 intro kC s σ H R I h;refine Call_ (jW I hg hm boot_range (R4 (thn (ha pos kC s σ H _ I h) fun us s1 ⟨vs,H1,I1,r1,q1⟩=>?_) hs rfl));obtain⟨j,e,q1,q2,q⟩:=q1;subst e;cases r1 with
 |cons r rr=>cases rr;obtain⟨t,rfl⟩:=r;exact call_range_1 (sN I1 (by lia) (by lia) q1 q2 (by simpa using q))
theorem zH{a b:Expr}{p pos:Pos}(hg:Gl X "range")(hm:X.mg "range" = none)(ha:PA X [a,b] ta)(hs:starEach [a,b] X.env=[(false,eval a X.env),(false,eval b X.env)]:=by rfl)(hs2:starEach [b] X.env=[(false,eval b X.env)]:=by rfl) :
  PI X tg (.Call (.Name "range" p) [a,b] [] pos) (HE ta):=by
 intro kC s σ H R I h;refine Call_ (jW I hg hm boot_range (R4 (thn (ha pos kC s σ H _ I h) fun us s1 ⟨vs,H1,I1,r1,q1⟩=>?_) (by rw[hs,hs2]) (by rw[hs2];rfl)));obtain⟨i,j,e,⟨q1,q2,q3,q4⟩,q⟩:=q1;subst e;cases r1 with
 |cons r rr=>
  cases rr with
  |cons r' rr=>cases rr;obtain⟨t,rfl⟩:=r;obtain⟨t',rfl⟩:=r';exact call_range_2 (sN I1 q1 q2 q3 q4 q)
def Jo(wi:TI)(g:TG)(tb:TS):TS:=fun D σ H=>wi σ H fun J H1=>∃W:Nat->Nat->St->Hp->Prop,(∃m,W 0 m σ H1)/\∀i m σ H,W i m σ H ->
 (J.stop i H/\D.nx σ H)\/(J.go i H/\∃N:St->Hp->Prop,(∀σ' H',N σ' H'->∃m',m'<m/\W (i+1) m' σ' H')/\∀x H',J.yld i H x H'->g x σ H' fun σ2 H2=>tb { D with nx:=N,ct:=N,bk:=D.nx } σ2 H2)
noncomputable def mh(fp:List Addr)(h:Heap):List (Addr×Obj):=fp.filterMap fun b=>(h.get? b).map fun o=>(b,o)
theorem fD{b:Addr}{o:Obj}(hb:b∈fp)(e:h.get? b=some o):(b,o)∈mh fp h:=To.mpr ⟨b,hb,by rw[e];rfl⟩
theorem zI{p:Addr×Obj}(hp:p∈mh fp h):p.1∈fp/\h.get? p.1=some p.2:=by
 obtain⟨b,hb,e⟩:=To.mp hp;cases q:h.get? b with
 |none=>rw[q]at e;cases e
 |some o=>rw[q]at e;have e':(b,o)=p:=Option.some.inj e;subst e';exact⟨hb,q⟩
theorem Inv.pinned(I:Inv X kC σ H s)(hf:∀b∈fp,sL X kC H b)(ho:∀b∈fp,∃o,s.heap.get? b=some o/\∀v,o.data≠.cell v):Inv X (kC++mh fp s.heap) σ H s:=
 I.xV fun p hp=>(QE.mp hp).elim (fun z=>I.pin p (QV _ z)) fun z=>by obtain⟨hb,e⟩:=zI z;obtain⟨f0,f1,f2,_⟩:=hf p.1 hb;obtain⟨o,e',d⟩:=ho p.1 hb;rw[e]at e';cases e';exact⟨e,f0,f1,f2,d⟩
theorem Inv.jm{kC pl:List (Addr×Obj)}(I:Inv X (kC++pl) σ H s):Inv X kC σ H s:=I.xV fun p hp=>I.pin p (QV _ (Q2 _ hp))
theorem AY{iter:Expr}{body:List Stmt}{wi:TI}{g:TG}{tb:TS}{pos:Pos}(hp:PassesOwn (model X.prog X.w) X.A X.env X.xe)(hc:X.calm=true)(hi:PI X tg iter wi)(hg:PG X tg g)(hb:PSs X body tb)
  (hs:∀x,foldedSetIterable iter X.env x=pure x:=by intro _;rfl):PS X (.For tg iter body [] pos) (Jo wi g tb):=by
 intro kC s σ H D I h;refine wpAny_For (thn (hi kC s σ H _ I h) fun v s1 h1=>thn h1 fun itv s2 h2=>?_) hs;obtain⟨it,fp,tn,J,H2,e,I2,T,st2,f2,W,⟨m0,w0⟩,turn⟩:=h2;subst e;have stat:∀{H':Hp},(∀b∈fp,H' b=none)->∀b∈fp,sL X kC H' b:=fun hn b hb=>⟨hn b hb,(f2 b hb).2⟩;refine codeAny_forLoop_any (fun n s'=>∃i σ' H',Inv X kC σ' H' s'/\tn i s'.heap/\(∀b∈fp,H' b=none)/\W i n σ' H') ?_ m0 ⟨0,σ,H2,I2,st2,fun b hb=>(f2 b hb).1,w0⟩;rintro n s3 ⟨i,σ3,H3,I3,st3,fr3,w3⟩;rcases turn i n σ3 H3 w3 with⟨stop,qn⟩ | ⟨go,N,hN,step⟩
 ·refine wpAny_passesOwn hp (thn (T.done X rfl rfl rfl hc i kC s3 σ3 H3 X.xe I3 (stat fr3) st3 stop) fun r s4 ⟨hr,I4⟩=>?_);subst hr;exact wpAny_execs_nil ⟨σ3,H3,I4,qn⟩
 ·refine wpAny_passesOwn hp (thn (T.item X rfl rfl rfl hc i kC s3 σ3 H3 X.xe I3 (stat fr3) st3 go) fun r s4 ⟨u,hr,h4⟩=>?_);subst hr;refine wpAny_passesOwn hp (thn h4 fun _ s5 ⟨x,H5,I5,r5,y5,st5,fr5⟩=>?_);have I5':=I5.pinned (stat fr5) (T.obj _ _ st5);refine wpAny_passesOwn hp (thn (hg _ s5 σ3 H5 x u _ I5' r5 (step x H5 y5)) fun _ s6 ⟨σ6,H6,I6,q6⟩=>?_);refine wpAny_passesOwn hp (thn (hb _ s6 σ6 H6 _ I6 q6) fun f s7 q7=>?_);have again:∀{σ7:St} {H7:Hp},Inv X (kC++mh fp s5.heap) σ7 H7 s7->N σ7 H7->∃m,m<n/\∃i σ' H',Inv X kC σ' H' s7/\tn i s7.heap/\(∀b∈fp,H' b=none)/\W i m σ' H':=fun {σ7 H7} I7 n7=>by
   obtain⟨m',hm,w7⟩:=hN σ7 H7 n7;refine⟨m',hm,i+1,σ7,H7,I7.jm,T.keep _ _ _ st5 fun b hb o e=>(I7.pin (b,o) (QV _ (QV _ (fD hb e)))).1,fun b hb=>?_,w7⟩;obtain⟨o,e,d⟩:=T.obj _ _ st5 b hb;exact(I7.pin (b,o) (QV _ (QV _ (fD hb e)))).2.1
  cases f with
  |next=>obtain⟨σ7,H7,I7,n7⟩:=q7;exact again I7 n7
  |cont=>obtain⟨σ7,H7,I7,n7⟩:=q7;exact again I7 n7
  |brk=>obtain⟨σ7,H7,I7,q7⟩:=q7;exact⟨σ7,H7,I7.jm,q7⟩
  |ret v=>obtain⟨x7,σ7,H7,I7,r7,q7⟩:=q7;exact⟨x7,σ7,H7,I7.jm,r7,q7⟩
end
end
noncomputable abbrev R2:=V->V->Hp->VK->Prop
def OpR(X:Cx)(f:Value->Value->Sem Value)(r:R2):Prop:=
 ∀(kC:List (Addr×Obj)) (s:Shared) (σ:St) (H:Hp) (x y:V) (v u:Value) (Q:VK),Inv X kC σ H s->RelV x v->RelV y u->r x y H Q ->
  wpAny (model X.prog X.w) X.A (f v u) (EP X kC σ Q) X.xe s
def UnR(X:Cx)(f:Value->Sem Value)(r:V->Hp->VK->Prop):Prop:=
 ∀(kC:List (Addr×Obj)) (s:Shared) (σ:St) (H:Hp) (x:V) (v:Value) (Q:VK),Inv X kC σ H s->RelV x v->r x H Q ->
  wpAny (model X.prog X.w) X.A (f v) (EP X kC σ Q) X.xe s
def bW(X:Cx)(f:Value)(r:List V->Hp->VK->Prop):Prop:=
 ∀(kC:List (Addr×Obj)) (s:Shared) (σ:St) (H:Hp) (xs:List V) (us:List Value) (Q:VK),Inv X kC σ H s->Vals xs us->r xs H Q ->
  wpAny (model X.prog X.w) X.A (call f us) (EP X kC σ Q) X.xe s
def O4(X:Cx)(r:V->Hp->(Bool->Hp->Prop)->Prop):Prop:=
 ∀(kC:List (Addr×Obj)) (s:Shared) (σ:St) (H:Hp) (x:V) (v:Value) (Q:Bool->Hp->Prop),Inv X kC σ H s->RelV x v->r x H Q ->
  wpAny (model X.prog X.w) X.A (truthy v) (TP X kC σ Q) X.xe s
def tOp(r:R2)(ta tb:TE):TE:=fun σ H Q=>ta σ H fun x H1=>tb σ H1 fun y H2=>r x y H2 Q
def tUn(r:V->Hp->VK->Prop)(ta:TE):TE:=fun σ H Q=>ta σ H fun x H1=>r x H1 Q
def rI(C:Int->Int->Prop)(g:Int->Int->V):R2:=fun x y H Q=>∃i j,x=.int i/\y=.int j/\C i j/\Q (g i j) H
def rI0(g:Int->Int->V):R2:=fun x y H Q=>∃i j,x=.int i/\y=.int j/\Q (g i j) H
def rU(g:Int->V):V->Hp->VK->Prop:=fun x H Q=>∃i,x=.int i/\Q (g i) H
section
variable{X:Cx}{a b c:Expr}{ta tb tc:TE}{pos:Pos}
theorem Jp(ha:PE X a ta)(hb:PE X b tb){kC:List (Addr×Obj)}{s:Shared}{σ:St}{H:Hp}{R:V->V->Hp->Prop}(I:Inv X kC σ H s)
  (h:ta σ H fun x H1=>tb σ H1 fun y H2=>R x y H2) {Q:Value->Shared->Prop} {f:Value->Value->Sem Value}
  (hf:∀v u s2 x y H2,Inv X kC σ H2 s2->RelV x v->RelV y u->R x y H2->wpAny (model X.prog X.w) X.A (f v u) Q X.xe s2) :
  wpAny (model X.prog X.w) X.A (eval a X.env) (fun v s₁=>wpAny (model X.prog X.w) X.A (eval b X.env) (fun u s₂=>wpAny (model X.prog X.w) X.A (f v u) Q X.xe s₂) X.xe s₁) X.xe s:=by
 refine thn (ha kC s σ H _ I h) fun v s1 ⟨x,H1,I1,r1,q1⟩=>?_;refine thn (hb kC s1 σ H1 _ I1 q1) fun u s2 ⟨y,H2,I2,r2,q2⟩=>?_;exact hf v u s2 x y H2 I2 r1 r2 q2
theorem Mt{op:Operator}{r:R2}(ho:OpR X (binaryOp op) r)(ha:PE X a ta)(hb:PE X b tb):PE X (.BinOp a op b pos) (tOp r ta tb):=by intro kC s σ H Q I h;exact wpAny_BinOp (Jp ha hb I h fun v u s2 x y H2 I2 rx ry q=>ho kC s2 σ H2 x y v u Q I2 rx ry q)
theorem HF{op:UnaryOp}{r:V->Hp->VK->Prop}(ho:UnR X (unaryOp op) r)(ha:PE X a ta):PE X (.UnaryOp op a pos) (tUn r ta):=by intro kC s σ H Q I h;exact UnaryOp_ (thn (ha kC s σ H _ I h) fun v s1 ⟨x,H1,I1,r1,q1⟩=>ho kC s1 σ H1 x v Q I1 r1 q1)
theorem opI{f:Value->Value->Sem Value}{C:Int->Int->Prop}{g:Int->Int->Int}
  (rule:∀(i j:Int) (t u:Tok) (s:Shared) (Q:Value->Shared->Prop) (E:Value->Shared->Prop),C i j->Q (.int (g i j) s.toks) { s with toks:=s.toks+1 }->wpAny (model X.prog X.w) X.A (f (.int i t) (.int j u)) Q E s) :
  OpR X f (rI C fun i j=>.int (g i j)):=by
 intro kC s σ H x y v u Q I rx ry h;obtain⟨i,j,rfl,rfl,hc,q⟩:=h;obtain⟨t,rfl⟩:=rx;obtain⟨t',rfl⟩:=ry;exact rule i j t t' s _ _ hc ⟨.int (g i j),H,I.tok _,⟨_,rfl⟩,q⟩
theorem Mu{f:Value->Value->Sem Value}{g:Int->Int->Int}
  (rule:∀(i j:Int) (t u:Tok) (s:Shared) (Q:Value->Shared->Prop) (E:Value->Shared->Prop),Q (.int (g i j) s.toks) { s with toks:=s.toks+1 }->wpAny (model X.prog X.w) X.A (f (.int i t) (.int j u)) Q E s) :
  OpR X f (rI0 fun i j=>.int (g i j)):=by
 intro kC s σ H x y v u Q I rx ry h;obtain⟨i,j,rfl,rfl,q⟩:=h;obtain⟨t,rfl⟩:=rx;obtain⟨t',rfl⟩:=ry;exact rule i j t t' s _ _ ⟨.int (g i j),H,I.tok _,⟨_,rfl⟩,q⟩
theorem Fc{f:Value->Value->Sem Value}{g:Int->Int->Bool}
  (rule:∀(i j:Int) (t u:Tok) (s:Shared) (Q:Value->Shared->Prop) (E:Value->Shared->Prop),Q (.bool (g i j)) s->wpAny (model X.prog X.w) X.A (f (.int i t) (.int j u)) Q E s) :
  OpR X f (rI0 fun i j=>.bl (g i j)):=by
 intro kC s σ H x y v u Q I rx ry h;obtain⟨i,j,rfl,rfl,q⟩:=h;obtain⟨t,rfl⟩:=rx;obtain⟨t',rfl⟩:=ry;exact rule i j t t' s _ _ ⟨.bl (g i j),H,I,rfl,q⟩
def Mv(i j:Int):Prop:=0<=j/\j<=1000000/\i.natAbs<2 ^ 64
def AZ(i j:Int):Prop:=(-(2 ^ 64)<i/\i<2 ^ 64)\/(-(2 ^ 64)<j/\j<2 ^ 64)
theorem AZ.ok{i j:Int}(h:AZ i j):IntMulOk i j:=by
 rcases h with⟨h1,h2⟩ | ⟨h1,h2⟩
 ·exact .of_left (intBits_le_64 h1 h2)
 ·exact .of_right (intBits_le_64 h1 h2)
theorem Jq:OpR X (binaryOp .Add) (rI0 fun i j=>.int (i+j)):=Mu fun _ _ _ _ _ _ _ q=>add_int q
theorem Jr:OpR X (binaryOp .Sub) (rI0 fun i j=>.int (i-j)):=Mu fun _ _ _ _ _ _ _ q=>sub_int q
theorem Js:OpR X (binaryOp .Mult) (rI AZ fun i j=>.int (i*j)):=opI fun _ _ _ _ _ _ _ hc q=>mul_int q hc.ok
theorem Jt:OpR X (binaryOp .Mod) (rI (fun _ j=>0<j) fun i j=>.int (i % j)):=opI fun i j _ _ _ _ _ hc q=>by have h1:(0:Int)<j:=hc;exact mod_int' (by lia) (by rw[Int.fmod_eq_emod_of_nonneg i (by lia)];exact q)
theorem Ju:OpR X (binaryOp .Pow) (rI Mv fun i j=>.int (i ^ j.toNat)):=opI fun _ _ _ _ _ _ _ hc q=>pow_int_small hc.1 hc.2.1 hc.2.2 q
theorem unI{f:Value->Sem Value}{g:Int->Int}
  (rule:∀(i:Int) (t:Tok) (s:Shared) (Q:Value->Shared->Prop) (E:Value->Shared->Prop),Q (.int (g i) s.toks) { s with toks:=s.toks+1 }->wpAny (model X.prog X.w) X.A (f (.int i t)) Q E s) :
  UnR X f (rU fun i=>.int (g i)):=by
 intro kC s σ H x v Q I rx h;obtain⟨i,rfl,q⟩:=h;obtain⟨t,rfl⟩:=rx;exact rule i t s _ _ ⟨.int (g i),H,I.tok _,⟨_,rfl⟩,q⟩
theorem A0:UnR X (unaryOp .USub) (rU fun i=>.int (-i)):=unI fun _ _ _ _ _ q=>neg_int q
end
section
variable{X:Cx}{a b c:Expr}{ta tb tc:TE}{pos:Pos}
theorem A1:OpR X (compareOp .Lt) (rI0 fun i j=>.bl (decide (i<j))):=Fc fun _ _ _ _ _ _ _ q=>lt_int q
theorem A2:OpR X (compareOp .LtE) (rI0 fun i j=>.bl (decide (i<=j))):=Fc fun _ _ _ _ _ _ _ q=>le_int q
theorem Mw:OpR X (compareOp .Gt) (rI0 fun i j=>.bl (decide (j<i))):=Fc fun _ _ _ _ _ _ _ q=>gt_int q
theorem Mx:OpR X (compareOp .GtE) (rI0 fun i j=>.bl (decide (j<=i))):=Fc fun _ _ _ _ _ _ _ q=>ge_int q
theorem OpR.or{f:Value->Value->Sem Value}{r r':R2}(h:OpR X f r)(h':OpR X f r'):OpR X f (fun x y H Q=>r x y H Q\/r' x y H Q):=by
 intro kC s σ H x y v u Q I rx ry q;rcases q with q | q
 ·exact h kC s σ H x y v u Q I rx ry q
 ·exact h' kC s σ H x y v u Q I rx ry q
theorem dD(b:Expr){op:CmpOp}(h:op≠.In:=by decide)(h2:op≠.NotIn:=by decide):behindInMarks op b=false:=by
 have e1:(op == CmpOp.In)=false:=by cases op<;>first | rfl | exact absurd rfl h
 have e2:(op == CmpOp.NotIn)=false:=by cases op<;>first | rfl | exact absurd rfl h2
 cases b<;>simp[behindInMarks,e1,e2]
theorem Fe{op:CmpOp}{r:R2}(ho:OpR X (compareOp op) r)(ha:PE X a ta)(hb:PE X b tb)(hm:behindInMarks op b=false):PE X (.Compare a [op] [b] pos) (tOp r ta tb):=by intro kC s σ H Q I h;exact wpAny_Compare1 (Jp ha hb I h fun v u s2 x y H2 I2 rx ry q=>ho kC s2 σ H2 x y v u Q I2 rx ry q) hm
def HG(t:TE):TT:=fun σ H Q=>t σ H fun x H'=>∃k,x=.bl k/\Q k H'
theorem Ff{op:CmpOp}{r:R2}(ho:OpR X (compareOp op) r)(ha:PE X a ta)(hb:PE X b tb)(hm:behindInMarks op b=false):PT X (.Compare a [op] [b] pos) (HG (tOp r ta tb)):=by
 intro kC s σ H Q I h;refine wpAny_isTrue_Compare1 (thn (ha kC s σ H _ I h) fun v s1 ⟨x,H1,I1,r1,q1⟩=>thn (hb kC s1 σ H1 _ I1 q1) fun u s2 ⟨y,H2,I2,r2,q2⟩=>thn (ho kC s2 σ H2 x y v u _ I2 r1 r2 q2) fun c s3 ⟨z,H3,I3,r3,k,e,q3⟩=>?_) hm
 subst e;cases r3;exact wpAny_truthy_bool ⟨H3,I3,q3⟩
def A3(r r':R2)(ta tb tc:TE):TE:=fun σ H Q=>ta σ H fun x H1=>tb σ H1 fun y H2=>r x y H2 fun z H3=>∃k,z=.bl k /\
 (if k=true then tc σ H3 fun w' H4=>r' y w' H4 Q else Q (.bl false) H3)
theorem A4{op op':CmpOp}{r r':R2}(ho:OpR X (compareOp op) r)(ho':OpR X (compareOp op') r')(ha:PE X a ta)(hb:PE X b tb)(hc:PE X c tc)
  (hm:lastMarks [op,op'] [b,c]=false:=by with_unfolding_all rfl):PE X (.Compare a [op,op'] [b,c] pos) (A3 r r' ta tb tc):=by
 intro kC s σ H Q I h;refine Compare_chain (thn (ha kC s σ H _ I h) fun v s1 ⟨x,H1,I1,r1,q1⟩=>chain_link (thn (hb kC s1 σ H1 _ I1 q1) fun u s2 ⟨y,H2,I2,r2,q2⟩=>thn (ho kC s2 σ H2 x y v u _ I2 r1 r2 q2) fun d s3 ⟨z,H3,I3,r3,k,e,q3⟩=>?_)) hm
 subst e;cases r3;refine wpAny_truthy_bool ?_;cases k with
 |false=>exact ite_ff ⟨.bl false,H3,I3,rfl,q3⟩
 |true=>exact ite_tt (chain_last (thn (hc kC s3 σ H3 _ I3 q3) fun w' s4 ⟨z',H4,I4,r4,q4⟩=>ho' kC s4 σ H4 y z' u w' Q I4 r2 r4 q4))
def Jv(K:Dk)(x:V)(H:Hp)(k:Bool):Prop:=
 match x with
 |.non=>k=false
 |.bl b=>k=b
 |.int i=>k=(i != 0)
 |.str y=>y.length<=sizeLine/\k=((y.length:Int) != 0)
 |.byt y=>y.size<=sizeLine/\k=((y.size:Int) != 0)
 |.ref p=>(∃xs,SqL K H p xs/\k=!xs.isEmpty)\/(∃xs,SqT K H p xs/\k=!xs.isEmpty)\/∃kvs,H p=some (.dK kvs)/\k=!kvs.isEmpty
 |_=>False
theorem vU{κ:Type}{kvs:List (κ×V)}{vs:List (κ×Value)}(r:KV kvs vs):(!vs.isEmpty)=!kvs.isEmpty:=by cases r<;>rfl
theorem mj{xs:List V}{its:List Value}(r:Vals xs its):(!its.toArray.isEmpty)=!xs.isEmpty:=by cases r<;>simp
theorem mq:(sizeLine:Nat)<2 ^ 63:=by rw[sizeLine_eq];decide
theorem Jw:O4 X (fun x H Q=>∃k,Jv X.K x H k/\Q k H):=by
 intro kC s σ H x v Q I rx h;obtain⟨k,e,q⟩:=h;have hl:=mq;have hs:sizeLine=16777216:=sizeLine_eq;cases x with
 |non=>cases rx;have e':k=false:=e;subst e';exact truthy_none ⟨H,I,q⟩
 |bl b=>cases rx;have e':k=b:=e;subst e';exact wpAny_truthy_bool ⟨H,I,q⟩
 |int i=>obtain⟨t,rfl⟩:=rx;have e':k=(i != 0):=e;subst e';exact PySem.P.truthy_int ⟨H,I,q⟩
 |str y=>obtain⟨t,rfl⟩:=rx;obtain⟨hy,e'⟩:y.length<=sizeLine/\k=((y.length:Int) != 0):=e;subst e';exact PySem.P.truthy_str (by lia) ⟨H,I.tok _,q⟩
 |byt y=>obtain⟨t,rfl⟩:=rx;obtain⟨hy,e'⟩:y.size<=sizeLine/\k=((y.size:Int) != 0):=e;subst e';exact PySem.W.truthy_bytes (by lia) ⟨H,I.tok _,q⟩
 |ref p=>
  cases rx;have e':(∃xs,SqL X.K H p xs/\k=!xs.isEmpty)\/(∃xs,SqT X.K H p xs/\k=!xs.isEmpty)\/∃kvs,H p=some (.dK kvs)/\k=!kvs.isEmpty:=e;rcases e' with⟨xs,hx,e'⟩ | ⟨xs,hx,e'⟩ | ⟨kvs,hx,e'⟩
  ·subst e';obtain⟨its,r,pl,hz⟩:=I.list hx;have ur:=r.length;exact wpAny_truthy_list pl.isList (by simp only[Qy];lia) ⟨H,I.tok _,by rw[mj r];exact q⟩
  ·subst e';obtain⟨its,r,pl,hz⟩:=I.tuple hx;have ur:=r.length;exact truthy_tuple pl (by simp only[Qy];lia) ⟨H,I.tok _,by rw[mj r];exact q⟩
  ·subst e';obtain⟨hz,hS,vs,r,m⟩:kvs.length<=sizeLine/\(p == sysModules)=false/\∃vs,KV kvs vs/\s.heap.DictOf (aO X.prog X.w) p vs:=I.hok p _ hx;have ur:kvs.length=vs.length:=Paired.length r;exact wpAny_truthy_dict hS m (by lia) ⟨H,I.tok _,by rw[vU r];exact q⟩
 |_=>exact(show False from e).elim
theorem A5(ha:PE X a ta)(he:∀whole,isTrue a X.env whole=(do let v <- whole;standAt a.pos;holding [v] (truthy v))) :
  PT X a (fun σ H Q=>ta σ H fun x H'=>∃k,Jv X.K x H' k/\Q k H'):=by
 intro kC s σ H Q I h;exact isTrue_plain (thn (ha kC s σ H _ I h) fun v s1 ⟨x,H1,I1,r1,q1⟩=>Jw kC s1 σ H1 x v Q I1 r1 q1) (he _)
theorem vals1{x:V}{us:List Value}(r:Vals [x] us):∃u,us=[u]/\RelV x u:=by
 cases r with
 |cons r1 r2=>cases r2;exact⟨_,rfl,r1⟩
theorem vals2{x y:V}{us:List Value}(r:Vals [x,y] us):∃u w',us=[u,w']/\RelV x u/\RelV y w':=by
 cases r with
 |cons r1 r2=>
  cases r2 with
  |cons r3 r4=>cases r4;exact⟨_,_,rfl,r1,r3⟩
theorem zJ(hc:X.calm=true):bW X (.builtin "max") (fun xs H Q=>∃i j,xs=[.int i,.int j]/\Q (.int (if j>i then j else i)) H):=by
 intro kC s σ H xs us Q I r h;obtain⟨i,j,rfl,q⟩:=h;obtain⟨u,w',rfl,⟨t,rfl⟩,⟨t',rfl⟩⟩:=vals2 r;refine max_two_ints (I.ok.hd hc) fun h' tk k=>⟨_,H,I.kept k,?_,q⟩;by_cases hj:j>i
 ·rw[if_pos hj,if_pos hj];exact⟨_,rfl⟩
 ·rw[if_neg hj,if_neg hj];exact⟨_,rfl⟩
theorem zK(hc:X.calm=true):bW X (.builtin "min") (fun xs H Q=>∃i j,xs=[.int i,.int j]/\Q (.int (if j<i then j else i)) H):=by
 intro kC s σ H xs us Q I r h;obtain⟨i,j,rfl,q⟩:=h;obtain⟨u,w',rfl,⟨t,rfl⟩,⟨t',rfl⟩⟩:=vals2 r;refine min_two_ints (I.ok.hd hc) fun h' tk k=>⟨_,H,I.kept k,?_,q⟩;by_cases hj:j<i
 ·rw[if_pos hj,if_pos hj];exact⟨_,rfl⟩
 ·rw[if_neg hj,if_neg hj];exact⟨_,rfl⟩
theorem zL:bW X (.type "int") (fun xs H Q=>(∃i,xs=[.int i]/\Q (.int i) H)\/∃k,xs=[.bl k]/\Q (.int (if k then 1 else 0)) H):=by
 intro kC s σ H xs us Q I r h;rcases h with⟨i,rfl,q⟩ | ⟨k,rfl,q⟩
 ·obtain⟨u,rfl,t,rfl⟩:=vals1 r;exact call_int_int ⟨.int i,H,I,⟨_,rfl⟩,q⟩
 ·obtain⟨u,rfl,r1⟩:=vals1 r;cases r1;exact call_int_bool ⟨.int (if k then 1 else 0),H,I.tok _,⟨_,rfl⟩,q⟩
end
section
variable{mA:Str->Option Value}{h:Heap}
structure Jx(h:Heap)(x dx C:Addr)(mA:Str->Option Value):Prop where
 obj:h.get? x=some (T3 C dx)
 ns:h.Ns1 dx mA
 ne:dx≠x
theorem zM{dx:Addr}(n:h.Ns1 dx mA):∃od,h.get? dx=some od/\∀name,T9 name od=some (mA name):=by
 obtain⟨o,es,ep,ho,hd,hk,_,hm⟩:=n;refine⟨o,ho,fun name=>?_⟩;have e:=hm name;unfold nsFind findBy at e;rw[<- Array.find?_toList]at e;unfold T9;rw[hd];dsimp only;split
 ·rename_i y q;rw[q]at e;exact congrArg some e
 ·rename_i q;rw[q]at e;have a:es.toList.any (·.refKey)=false:=by
   rw[List.any_eq_false];intro y hy;obtain⟨z,t,hkey⟩:=hk y (Array.mem_toList_iff.mp hy);simp[DictEntry.refKey,hkey]
  have a':¬es.toList.any (·.refKey)=true:=by rw[a];exact Q0
  rw[if_neg a'];exact congrArg some e
theorem Jx.look{x dx C:Addr}(I:Jx h x dx C mA):∃od,PySem.W.InstAt h x (T3 C dx) C (some od)/\∀name,T9 name od=some (mA name):=
 let ⟨od,ho,hl⟩:=zM I.ns
 ⟨od,⟨I.obj,rfl,rfl,ho⟩,hl⟩
theorem jj.some_of{v:V}{o:Option Value}(r:jj (some v) o):∃u,o=some u/\RelV v u:=by
 cases o with
 |none=>exact(show False from r).elim
 |some u=>exact⟨u,rfl,r⟩
end
section
variable{P:Program}{w:World}{H H':Hp}{h h':Heap}{a C dx:Addr}{fs fs':List (Str×V)}
theorem Fg(hok:HOk P w H h)(e:H a=some (.ins C dx fs)):∃mA,Jx h a dx C mA/\(∀f,jj (fs.lookup f) (mA f))/\PySem.Within mA (fs.map (·.1))/\fs.length<=1000/\H dx=some (.own a):=by
 obtain⟨d,z,ne,ob,mA,n,r,q⟩:=(show aQ P w H h a (.ins C dx fs) from hok a _ e)
 exact⟨mA,⟨ob,n,ne⟩,r,q,z,d⟩
end
structure Cls(K:Dk)(C:Addr):Prop where
 pg:PySem.W.plainGet K C Str.empty=true
 hd:PySem.W.hasDictIn K C=true
 po:PySem.W.plainOver K C=true
 sa:PySem.W.findIn K (.ref C) "__setattr__" = some (some (.builtin "object.__setattr__"))
theorem Cls.get{K:Dk}{C:Addr}(c:Cls K C)(f:Str):PySem.W.plainGet K C f=true:=c.pg
section
variable{X:Cx}{kC:List (Addr×Obj)}{σ:St}{H:Hp}{s:Shared}{A:Around}{E:Value->Shared->Prop}{Q:Value->Shared->Prop}{c:Value}{b:Bool}
inductive jn(K:Dk)(H:Hp):V->Value->Prop where
 |non:jn K H .non (.type "NoneType")
 |bl (x:Bool):jn K H (.bl x) (.type "bool")
 |int (i:Int):jn K H (.int i) (.type "int")
 |str (x:Str):jn K H (.str x) (.type "str")
 |flt (x:UInt64):jn K H (.flt x) (.type "float")
 |lst {a:Addr} {xs:List V} (e:H a=some (.lst xs)):jn K H (.ref a) (.type "list")
 |frz {a:Addr} {o:Obj} {xs:List V} (e:H a=some (.frz o (.lst xs))):jn K H (.ref a) (.type "list")
 |tup {a:Addr} {xs:List V} (e:H a=some (.tup xs)):jn K H (.ref a) (.type "tuple")
 |dK {a:Addr} {kvs:List (Key×V)} (e:H a=some (.dK kvs)):jn K H (.ref a) (.type "dict")
 |dT {a:Addr} {kvs:List (List Key×V)} {ts:List Addr} (e:H a=some (.dT kvs ts)):jn K H (.ref a) (.type "dict")
 |ins {a C dx:Addr} {fs:List (Str×V)} (e:H a=some (.ins C dx fs)) (cl:Cls K C) (ha:PySem.W.findIn K (.ref C) "__class__" = some (some (.builtin "object.__class__")))
   (hn:PySem.W.specialIn K (.builtin "object.__class__") "__get__" = some (some (.builtin "getset_descriptor.__get__"))) (htk:PySem.W.takesIn K (.builtin "object.__class__")=some true)
   (hm:PySem.W.mroIn K C (.type "object")=some true):jn K H (.ref a) (.ref C)
theorem zN{x:V}{u t:Value}(I:Inv X kC σ H s)(rx:RelV x u)(ty:jn X.K H x t)(e:Ua X.K t c=some b)(h:∀tk,Q (.bool b) { s with toks:=tk }) :
  wpAny (model X.prog X.w) A (call (.builtin "isinstance") [u,c]) Q E s:=by
 cases ty with
 |non=>cases (show u=Value.none from rx);exact Rx PySem.W.kitx_none I.kIn RP e (fun z=>nomatch z) h
 |bl y=>cases (show u=Uq y from rx);exact Rx PySem.W.kitx_bool I.kIn RP e (fun z=>nomatch z) h
 |int i=>obtain⟨t,q⟩:=(show ∃t,u=Value.int i t from rx);cases q;exact Rx PySem.W.kitx_int I.kIn RP e (fun z=>nomatch z) h
 |str y=>obtain⟨t,q⟩:=(show ∃t,u=TZ y t from rx);cases q;exact Rx PySem.W.kitx_str I.kIn RP e (fun z=>nomatch z) h
 |flt y=>obtain⟨t,q⟩:=(show ∃t,u=Value.float y t from rx);cases q;exact Rx PySem.W.kitx_float I.kIn RP e (fun z=>nomatch z) h
 |@lst a xs ea=>
  cases (show u=Rq a from rx);obtain⟨_,_,n,_,h1⟩:=(show aQ X.prog X.w H s.heap a (.lst xs) from I.hok a _ ea)
  exact Rx PySem.W.kitx_list I.kIn ⟨_,h1,rfl⟩ e (fun z=>nomatch z) h
 |@frz a ob xs ea=>
  cases (show u=Rq a from rx);obtain⟨_,_,_,n,_,h1⟩:=(show aQ X.prog X.w H s.heap a (.frz ob (.lst xs)) from I.hok a _ ea)
  exact Rx PySem.W.kitx_list I.kIn ⟨_,h1,rfl⟩ e (fun z=>nomatch z) h
 |@tup a xs ea=>
  cases (show u=Rq a from rx);obtain⟨_,_,_,p⟩:=(show aQ X.prog X.w H s.heap a (.tup xs) from I.hok a _ ea)
  obtain⟨o,h1,h2,_⟩:=p;exact Rx PySem.W.kitx_tuple I.kIn ⟨o,h1,h2⟩ e (fun z=>nomatch z) h
 |@dK a kvs ea=>
  cases (show u=Rq a from rx);obtain⟨_,_,vs,_,p⟩:=(show aQ X.prog X.w H s.heap a (.dK kvs) from I.hok a _ ea)
  obtain⟨o,es,ep,h1,h2,_⟩:=p;exact Rx PySem.W.kitx_dict I.kIn ⟨o,h1,h2.1⟩ e (fun z=>nomatch z) h
 |@dT a kvs ts ea=>
  cases (show u=Rq a from rx);obtain⟨_,_,xs,_,o,es,ep,h1,h2,_⟩:=(show aQ X.prog X.w H s.heap a (.dT kvs ts) from I.hok a _ ea)
  exact Rx PySem.W.kitx_dict I.kIn ⟨o,h1,h2.1⟩ e (fun z=>nomatch z) h
 |@ins a C dx fs ea cl ha hn htk hm=>cases (show u=Rq a from rx);obtain⟨mA,O,_⟩:=Fg I.hok ea;obtain⟨od,J,_⟩:=O.look;exact Rx (PySem.W.kitx_own (cl.get _) cl.hd ha hn htk hm) I.kIn J e (fun z=>nomatch z) h
end
section
variable{A:Around}{k:Nat}
structure bg(k:Nat)(A:Around):Prop where
 hd:A.handled=none
 dp:A.depth+3*k+5<recursionLimit
 un:A.units+16*k+200<cLine
 gd:A.guards=some []
theorem bg.mono{j k:Nat}(r:bg k A)(h:j<=k):bg j A:=⟨r.hd,by have:=r.dp;lia,by have:=r.un;lia,r.gd⟩
theorem bg.deeper(r:bg (k+1) A)(env:Env):bg k (A.deeper env):=
 ⟨r.hd,by have:=r.dp;show A.depth+1+3*k+5<_;lia,by have:=r.un;show A.units+3+16*k+200<_;lia,r.gd⟩
theorem bg.depth(r:bg k A):A.depth<recursionLimit:=by have:=r.dp;lia
theorem bg.units(r:bg k A):A.units+64<cLine:=by have:=r.un;lia
def qL:TA:=fun _ H Q=>Q [] H
def kU(ta:TE)(tr:TA):TA:=fun σ H Q=>ta σ H fun x H1=>tr σ H1 fun xs H2=>Q (x::xs) H2
end
section
variable{X:Cx}{e:Expr}{es:List Expr}{te:TE}{t:TA}{pos:Pos}
theorem g_:PA X [] qL:=fun _ _ _ _ H Q I h=>TJ ⟨[],H,I,.nil,h⟩
theorem fE(ha:PE X e te)(hr:PA X es t)(hs:starEach (e::es) X.env=(false,eval e X.env)::starEach es X.env:=by rfl):PA X (e::es) (kU te t):=by intro pos kC s σ H Q I h;rw[hs];show wpAny _ _ (spliced ((false,eval e X.env)::backTo pos (starEach es X.env))) _ _ s;refine Tp (thn (ha kC s σ H _ I h) fun u s1 ⟨x,H1,I1,r1,q1⟩=>?_);exact thn (hr pos kC s1 σ H1 _ I1 q1) fun us s2 ⟨xs,H2,I2,r2,q2⟩=>⟨x::xs,H2,I2,.cons r1 r2,q2⟩
def My(t:TA):TE:=fun σ H Q=>t σ H fun xs H1=>xs.length<=sizeLine/\∀p,H1 p=none->Q (.ref p) (upd H1 p (.tup xs))
def Fi(t:TA):TE:=fun σ H Q=>t σ H fun xs H1=>xs.length<=sizeLine/\∀p,H1 p=none->Q (.ref p) (upd H1 p (.lst xs))
theorem Jy{x1}(h:PA X es t):PE X (.Tuple es x1 pos) (My t):=by intro kC s σ H Q I hq;refine wpAny_Tuple_spliced (thn (h pos kC s σ H _ I hq) fun us s1 ⟨xs,H1,I1,r,z,q⟩=>⟨by rw[<- r.length];exact z,?_⟩);have hf:H1 s1.heap.objs.size=none:=I1.hok.fresh (Pz _);refine⟨.ref s1.heap.objs.size,upd H1 s1.heap.objs.size (.tup xs),I1.laid (t':=s1.toks) (fun b u e=>PU _ e) (Pz _) ?_,rfl,q _ hf⟩;exact⟨z,us,r,⟨_,QS _ rfl,rfl,_,rfl⟩⟩
theorem A6(h:PA X es t):PE X (.List es pos) (Fi t):=by intro kC s σ H Q I hq;refine wpAny_List_spliced (thn (h pos kC s σ H _ I hq) fun us s1 ⟨xs,H1,I1,r,z,q⟩=>⟨by rw[<- r.length];exact z,?_⟩);have hf:H1 s1.heap.objs.size=none:=I1.hok.fresh (Pz _);refine⟨.ref s1.heap.objs.size,upd H1 s1.heap.objs.size (.lst xs),I1.laid (t':=s1.toks) (fun b u e=>PU _ e) (Pz _) ?_,rfl,q _ hf⟩;exact⟨z,us,0,r,QS _ rfl⟩
end
noncomputable abbrev Sp:=List V->Hp->VK->XK->Prop
noncomputable abbrev CXT:=List Env->Hp->Shared->XK->Value->Shared->Prop
structure Fj(P:Program)(w:World)(K:Dk)(mg:Str->Option Value)(base:Heap)(A:Around)(outer:List Env)(s:Shared)(H:Hp):Prop where
 frames:A.frames=some outer
 mod:Mod K mg base
 bs:∀b o,base.get? b=some o->s.heap.get? b=some o/\H b=none
 bsz:base.objs.size<=s.heap.objs.size
 l7:s.heap.FunFrames base outer
 frf:∀b∈frs outer,H b=none
 hok:HOk P w H s.heap
 bare:AllBare s.gens
def CE(outer:List Env)(P:Program)(w:World)(H:Hp)(s:Shared)(Q:VK)(u:Value)(s':Shared):Prop:=
 ∃v H',s'.os=s.os/\AllBare s'.gens/\Un (frs outer) [] H H' s.heap s'.heap/\HOk P w H' s'.heap/\RelV v u/\Q v H'
def CR(CX:CXT)(outer:List Env)(P:Program)(w:World)(H:Hp)(s:Shared)(Q:VK)(E:XK)(r:Result)(s':Shared):Prop:=
 match r with
 |.ok (.ret u)=>CE outer P w H s Q u s'
 |.ok _=>False
 |.error e=>CX outer H s E e s'
structure aW(P:Program)(w:World)(K:Dk)(mg:Str->Option Value)(base:Heap)(CX:CXT)(k:Nat)(f:Addr)(fd:FuncData)(ps:List Str)(sp:Sp):Prop where
 len:∀vs H Q E,sp vs H Q E->vs.length=ps.length
 run:∀(A:Around) (outer:List Env) (s:Shared) (H:Hp) (args:Args) (us:List Value) (vs:List V) (Q:VK) (E:XK),bg k A->Fj P w K mg base A outer s H->BindsTo s fd args (ps.zip us)->Vals vs us->sp vs H Q E ->
  codeAny (model P w) A (.call (.ref f) args) (CR CX outer P w H s Q E) s
section
variable{X:Cx}{kC:List (Addr×Obj)}{σ:St}{H:Hp}{s s':Shared}
theorem Inv.O5(I:Inv X kC σ H s):Fj X.prog X.w X.K X.mg X.base X.A X.stack s H:=
 ⟨I.ok.frames,I.ok.mod,I.bs,QT I.ok.bsz I.sz,I.stack,I.xU,I.hok,I.bare⟩
theorem Inv.after{Q:VK}{u:Value}(I:Inv X kC σ H s)(h:CE X.stack X.prog X.w H s Q u s'):EP X kC σ Q u s':=by obtain⟨v,H',os,bare,un,hok,r,q⟩:=h;obtain⟨hh,g,d,t,os'⟩:=s';obtain rfl:os'=s.os:=os;exact⟨v,H',I.call (h':=hh) (g':=g) (d':=d) (t':=t) (ch:=[]) un hok bare (fun b z=>absurd z (by simp)),r,q⟩
end
def pR(sp:Sp)(dvs:List V)(E:XK)(t:TA):TE:=fun σ H Q=>t σ H fun vs H1=>sp (vs++dvs) H1 Q E
def Binds(K:Dk)(fd:FuncData)(ps:List Str)(ds:List Value):Prop:=
 ∀(s:Shared) (us:List Value),K.In s.heap->(us++ds).length=ps.length->BindsTo s fd ⟨us,[]⟩ (ps.zip (us++ds))
theorem Binds.all{K:Dk}{fd:FuncData}{ps:List Str}(h:∀us:List Value,us.length=ps.length->bindArgs fd ⟨us,[]⟩=pure (ps.zip us)):Binds K fd ps []:=fun s us _ hl=>by rw[Rr]at hl ⊢;exact .of_eq (h us hl)
def Passes(CX:CXT)(X:Cx)(E:XK):Prop:=∀(kC:List (Addr×Obj)) (σ:St) (H:Hp) (s:Shared) (e:Value) (s':Shared),Inv X kC σ H s->CX X.stack H s E e s'->X.xe e s'
section
variable{X:Cx}{CX:CXT}{k:Nat}{f C:Addr}{fd:FuncData}{ps:List Str}{sp:Sp}{dvs:List V}{ds:List Value}{E:XK}{x m:Str}{p pos K8:Pos}{e o:Expr}{es:List Expr}{ta:TE}{t:TA}
theorem Jz{kC:List (Addr×Obj)}{σ:St}{H:Hp}{s:Shared}{Q:VK}{us:List Value}{vs:List V}(F:aW X.prog X.w X.K X.mg X.base CX k f fd ps sp)(hr:bg k X.A)(hb:Binds X.K fd ps ds)(hd:Vals dvs ds)(hx:Passes CX X E)
  (I:Inv X kC σ H s) (r:Vals vs us) (h:sp (vs++dvs) H Q E):wpAny (model X.prog X.w) X.A (call (.ref f) us) (EP X kC σ Q) X.xe s:=by
 have r2:Vals (vs++dvs) (us++ds):=r.append hd;have hl:(us++ds).length=ps.length:=by rw[<- r2.length];exact F.len _ _ _ _ h
 refine wpAny_call (codeAny_mono (F.run X.A X.stack s H ⟨us,[]⟩ (us++ds) (vs++dvs) Q E hr I.O5 (hb s us I.kIn hl) r2 h) fun r s' hq=>?_);cases r with
 |error e=>exact hx kC σ H s e s' I hq
 |ok fl=>
  cases fl with
  |ret u=>exact I.after hq
  |next=>exact Rc hq
  |brk=>exact Rc hq
  |cont=>exact Rc hq
theorem jo(F:aW X.prog X.w X.K X.mg X.base CX k f fd ps sp)(hr:bg k X.A)(hg:Gl X x)(hm:X.mg x=some (.ref f))(hk:Rw X.K (.ref f)=true)(hb:Binds X.K fd ps ds)(hd:Vals dvs ds)(hx:Passes CX X E)
  (ha:PA X (e::es) t) (NV:(x == ("__debug__" : Str))=false:=by decide) (he:starEach (e::es) X.env=(false,eval e X.env)::starEach es X.env:=by rfl) (CI:(backTo pos (starEach es X.env)).any (·.1)=false:=by rfl) :
  PE X (.Call (.Name x p) (e::es) [] pos) (pR sp dvs E t):=by
 intro kC s σ H Q I h;refine wpAny_Call_Name_kw (E8 I hg hm ?_ NV);refine PySem.W.callWith_K (h₀:=X.base) I.ok.mod.kin hk (thn (ha pos kC s σ H _ I h) fun us s1 ⟨vs,H1,I1,r,q⟩=>⟨I1.kIn,?_⟩) he CI;exact Jz F hr hb hd hx I1 r q
end
section
variable{x:Str}{v:Value}
structure aB(N P:List Str)(sc:Scope):Prop where
 kind:sc.kind=.function
 co:sc.isCoroutine=false
 gen:sc.isGenerator=false
 nd:N.Nodup
 pre:N.take P.length=P
 par:∀x∈P,sc.names.lookup x=some .local\/sc.names.lookup x=some .cell
 JA:∀y∈sc.names,y.2≠.free
theorem pS{kindOf:Str->Option NameKind}:∀{binds:List (Str×Value)} {m:Str->Option Value},(∀v,(x,v)∉binds)->bindL kindOf binds m x=m x
 |[],_,_=>rfl
 |(n,v)::r,m,h=>by
  unfold bindL;rw[pS fun w hw=>h w (Pa _ hw)];split
  ·have:x≠n:=by rintro rfl;exact h v gV
   simp[this]
  ·rfl
theorem pT{kindOf:Str->Option NameKind}:∀{binds:List (Str×Value)} {m:Str->Option Value},(∀v,(x,v)∉binds)->bindC kindOf binds m x=m x
 |[],_,_=>rfl
 |(n,v)::r,m,h=>by
  unfold bindC;rw[pT fun w hw=>h w (Pa _ hw)];split
  ·rfl
  ·have:x≠n:=by rintro rfl;exact h v gV
   simp[this]
theorem pU{kindOf:Str->Option NameKind}:∀{P:List Str} {vs:List Value} {i:Nat} {m:Str->Option Value},P.Nodup->P[i]?=some x->vs[i]?=some v->kindOf x=some .local ->
  bindL kindOf (P.zip vs) m x=some v
 |[],_,_,_,_,h,_,_=>by simp at h
 |_::_,[],_,_,_,_,h,_=>by simp at h
 |p::P,w::vs,0,m,nd,h1,h2,hk=>by simp at h1 h2;subst h1;subst h2;show bindL kindOf ((p,w)::P.zip vs) m p=_;unfold bindL;rw[pS fun v hv=>(QB.mp nd).1 (T4 hv).1,if_pos hk];simp
 |p::P,w::vs,i+1,m,nd,h1,h2,hk=>by show bindL kindOf ((p,w)::P.zip vs) m x=_;unfold bindL;exact pU (i:=i) (QB.mp nd).2 (by simpa using h1) (by simpa using h2) hk
theorem pV{kindOf:Str->Option NameKind}:∀{P:List Str} {vs:List Value} {i:Nat} {m:Str->Option Value},P.Nodup->P[i]?=some x->vs[i]?=some v->kindOf x≠some .local ->
  bindC kindOf (P.zip vs) m x=some v
 |[],_,_,_,_,h,_,_=>by simp at h
 |_::_,[],_,_,_,_,h,_=>by simp at h
 |p::P,w::vs,0,m,nd,h1,h2,hk=>by simp at h1 h2;subst h1;subst h2;show bindC kindOf ((p,w)::P.zip vs) m p=_;unfold bindC;rw[pT fun v hv=>(QB.mp nd).1 (T4 hv).1,if_neg hk];simp
 |p::P,w::vs,i+1,m,nd,h1,h2,hk=>by show bindC kindOf ((p,w)::P.zip vs) m x=_;unfold bindC;exact pV (i:=i) (QB.mp nd).2 (by simpa using h1) (by simpa using h2) hk
noncomputable def start(N:List Str)(vs:List V):St:=vs.map some++Ds (N.length-vs.length) none
noncomputable def sO(CX:CXT)(P:Program)(w:World)(K:Dk)(mg:Str->Option Value)(base:Heap)(N:List Str)(qual:Str)(scope:Scope)(f:Addr)(cd:Value)(A:Around)(outer:List Env)(s:Shared)(H:Hp)(E:XK):Cx where
 prog:=P
 w:=w
 K:=K
 mg:=mg
 base:=base
 A:=A.deeper (envOfC qual scope s.heap.objs.size f cd)
 N:=N
 s₀:=s
 H₀:=H
 env:=envOfC qual scope s.heap.objs.size f cd
 outer:=outer
 stack:=envOfC qual scope s.heap.objs.size f cd::outer
 ex:=[]
 calm:=true
 fn:=fun _=>true
 pn:=[]
 xe:=fun e s'=>wpAny (model P w) (A.deeper (envOfC qual scope s.heap.objs.size f cd)) (leaving (envOfC qual scope s.heap.objs.size f cd) e) (fun _ s''=>CX outer H s E e s'') (fun e' s''=>CX outer H s E e' s'') s'
theorem sP{sc:Scope}{n:Nat}(h:sc.names.lookup x=some .cell):∃c,(cellsFrom n sc.names []).lookup x=some c:=by have q:=PySem.W.cellsFrom_some sc.names n [] (.inl h);exact Option.isSome_iff_exists.mp q
theorem zO{CX:CXT}{P:Program}{w:World}{K:Dk}{mg:Str->Option Value}{base:Heap}{N ps:List Str}{qual:Str}{scope:Scope}{f:Addr}{cd:Value}{A:Around}{outer:List Env}{s s1:Shared}{H:Hp}{E:XK}{us:List Value}{vs:List V}
  (S:aB N ps scope) (hd:A.handled=none) (e0:Fj P w K mg base A outer s H) (hl:vs.length=ps.length) (r:Vals vs us)
  (x:InCallC s s.heap.objs.size (bindL (envOfC qual scope s.heap.objs.size f cd).kindOf (ps.zip us) fun _=>none) (cellsFrom (s.heap.objs.size+1) scope.names []) (bindC (envOfC qual scope s.heap.objs.size f cd).kindOf (ps.zip us) fun _=>none) s1) :
  Inv (sO CX P w K mg base N qual scope f cd A outer s H E) [] (start N vs) H s1:=by
 have CI:ps.length<=N.length:=by have:=congrArg List.length S.pre;rw[Rl]at this;lia
 obtain⟨h1,tk,rfl,hk⟩:=x.done;have noA:∀b:Addr,b∉(sO CX P w K mg base N qual scope f cd A outer s H E).ex:=fun b z=>absurd (show b∈([]:List Addr) from z) (by simp);refine ⟨⟨e0.mod,S.kind,rfl,rfl,Pz _,fun y z c h1 h2=>?_,fun y hy=>?_,fun y c _ h=>?_,fun _=>hd,Around.frames_deeper e0.frames,.inr ⟨rfl,rfl⟩,fun b z=>absurd z (noA b),e0.bs,e0.bsz,fun b _ _=>noA b,fun b z=>absurd z (noA b),e0.l7,e0.frf⟩,
  rfl,e0.bare,Un.kept hk,⟨_,x.toInCall.ns,fun i y v h1 h2 h3=>?_⟩,fun y c h=>⟨_,x.cell y c h⟩,e0.hok.fresh (Pz _),fun y c h=>?_,fun p hp=>absurd (show p∈([]:List (Addr×Obj)) from hp) (by simp),e0.hok.kept hk,?_⟩
 ·exact name_of_addr x.apart (PySem.mem_of_lookup h1) (PySem.mem_of_lookup h2)
 ·have hy:scope.names.lookup y=some .cell\/scope.names.lookup y=some .free:=hy;rcases hy with hy | hy
  ·exact sP hy
  ·exact absurd rfl (S.JA _ (PySem.mem_of_lookup hy))
 ·exact S7 (x.above y c (PySem.mem_of_lookup h))
 ·have hi:i<vs.length:=by
   unfold start at h2;by_cases hi:i<vs.length
   ·exact hi
   ·rw[Rn (by simpa using hi)]at h2;rw[Rp]at h2;split at h2<;>cases h2
  have ha:vs[i]?=some v:=by
   unfold start at h2;rw[QI (by simpa using hi),QL]at h2;cases e:vs[i]? with
   |none=>rw[e]at h2;cases h2
   |some a=>rw[e]at h2;cases h2;rfl
  obtain⟨u,hu,rv⟩:=r.get ha;have hp:ps[i]?=some y:=by rw[<- S.pre,RQ (by lia)];exact h1
  have ndP:ps.Nodup:=by rw[<- S.pre];exact S.nd.sublist (List.take_sublist _ _)
  refine⟨u,rv,?_⟩;rcases S.par y (R9 hp) with k | k
  ·exact .inl ⟨k,pU ndP hp hu k⟩
  ·obtain⟨c,e⟩:=sP (n:=s.heap.objs.size+1) k;refine .inr ⟨.inl k,c,e,?_⟩;have q:=x.cell y c e;rw[pV ndP hp hu (by show scope.names.lookup y≠_;rw[k];decide)]at q;exact q
 ·exact e0.hok.fresh (S7 (x.above y c (PySem.mem_of_lookup h)))
 ·unfold start;show _=N.length;rw[Qv,gc,Sz]
  lia
theorem HH{CX:CXT}{P:Program}{w:World}{K:Dk}{mg:Str->Option Value}{base:Heap}{k:Nat}{f:Addr}{name qual:Str}{params:Arguments}{body:List Stmt}{scope:Scope}{dV kV doc pm cdv ct oc:Value}{an od:Option Addr}
  {osl:Array (Option Value)} {N ps:List Str} {sp:Sp} (lk:K.lookup f=some ⟨oc,od,.func (QY name qual params body scope dV kV doc pm an cdv ct),osl⟩) (Ij:Sa K cdv qual=true) (S:aB N ps scope)
  (len:∀vs H Q E,sp vs H Q E->vs.length=ps.length)
  (hbody:∀ (A:Around) (outer:List Env) (s:Shared) (H:Hp) (vs:List V) (Q:VK) (E:XK),bg k (A.deeper (envOfC qual scope s.heap.objs.size f cdv))→sp vs H Q E →
   ∃t,PSs (sO CX P w K mg base N qual scope f cdv A outer s H E) body t/\t { nx:=fun _ H'=>Q .non H',rt:=Q } (start N vs) H) :
  aW P w K mg base CX (k+1) f (QY name qual params body scope dV kV doc pm an cdv ct) ps sp:=by
 refine⟨len,fun A outer s H args us vs Q E hr e0 hb r hsp=>?_⟩;have hl:=len _ _ _ _ hsp;have KX:K.In s.heap:=e0.mod.kin.keeps fun b o e=>(e0.bs b o e).1;have lim:s.heap.NoLimit:=e0.mod.nolimit.keeps fun b o e=>(e0.bs b o e).1;have hkind:∀y∈ps.zip us,scope.names.lookup y.1=some .local\/(scope.names.lookup y.1=some .cell/\((cellsFrom (s.heap.objs.size+1) scope.names []).lookup y.1).isSome=true):=fun⟨n,v⟩ hy=>by
  rcases S.par n (T4 hy).1 with q | q
  ·exact .inl q
  ·exact .inr ⟨q,PySem.W.cellsFrom_some _ _ _ (.inl q)⟩
 refine codeAny_call_function hr.depth (KX _ _ lk) rfl S.co S.gen rfl (PySem.W.codeRec_of KX Ij) (hb _ _ _ _ ?_);refine wpAny_newFunctionEnv_cells S.kind hkind fun env he s1 x=>?_;subst he;refine⟨lim.keeps x.toInCall.keep,codeAny_func ?_⟩;obtain⟨t,ht,hq⟩:=hbody A outer s H vs Q E (hr.deeper _) hsp;have I:Inv (sO CX P w K mg base N qual scope f cdv A outer s H E) [] (start N vs) H s1:=zO S hr.hd e0 hl r x;refine wpAny_mono (ht [] s1 (start N vs) H _ I hq) (fun fl s' hs=>?_) fun e s' hs=>hs;have CY:∀{σ':St} {H':Hp} {v:V} {u:Value},Inv (sO CX P w K mg base N qual scope f cdv A outer s H E) [] σ' H' s'->RelV v u->Q v H'->CE outer P w H s Q u s':=
  fun {σ' H' v u} J rv q=>⟨v,H',J.os,J.bare,J.base,J.hok,rv,q⟩
 cases fl with
 |ret u=>obtain⟨v,σ',H',J,rv,q⟩:=hs;exact CY J rv q
 |next=>obtain⟨σ',H',J,q⟩:=hs;exact CY (v:=V.non) (u:=Value.none) J rfl q
 |brk=>obtain⟨_,_,_,q⟩:=hs;exact Rc q
 |cont=>obtain⟨_,_,_,q⟩:=hs;exact Rc q
end
section
variable{X:Cx}{x:Str}{p pos:Pos}{e:Expr}{es:List Expr}{t:TA}{id T:String}{r:List V->Hp->VK->Prop}
def tCB(r:List V->Hp->VK->Prop)(t:TA):TE:=fun σ H Q=>t σ H fun vs H1=>r vs H1 Q
theorem jq(hc:bW X (.builtin id) r)(hg:Gl X x)(hm:X.mg x=none)(hv:bootBuiltins x=some (.builtin id))(ha:PA X (e::es) t)(hn:x ≠ "__name__" := by decide)(NV:(x == ("__debug__" : Str))=false:=by decide)
  (he:starEach (e::es) X.env=(false,eval e X.env)::starEach es X.env:=by rfl) (CI:(backTo pos (starEach es X.env)).any (·.1)=false:=by rfl):PE X (.Call (.Name x p) (e::es) [] pos) (tCB r t):=by
 intro kC s σ H Q I h;refine wpAny_Call_Name_kw (jW I hg hm hv ?_ hn NV);exact PyProof.Rows.callWith_builtin1 (thn (ha pos kC s σ H _ I h) fun us s1 ⟨vs,H1,I1,r1,q1⟩=>hc kC s1 σ H1 vs us Q I1 r1 q1) he CI
theorem jX(hc:bW X (.type T) r)(hg:Gl X x)(hm:X.mg x=none)(hv:bootBuiltins x=some (.type T))(ha:PA X (e::es) t)(hn:x ≠ "__name__" := by decide)(NV:(x == ("__debug__" : Str))=false:=by decide)
  (he:starEach (e::es) X.env=(false,eval e X.env)::starEach es X.env:=by rfl) (CI:(backTo pos (starEach es X.env)).any (·.1)=false:=by rfl):PE X (.Call (.Name x p) (e::es) [] pos) (tCB r t):=by
 intro kC s σ H Q I h;refine wpAny_Call_Name_kw (jW I hg hm hv ?_ hn NV);exact R4 (thn (ha pos kC s σ H _ I h) fun us s1 ⟨vs,H1,I1,r1,q1⟩=>hc kC s1 σ H1 vs us Q I1 r1 q1) he CI
end
end L2
namespace HT
open PySem PyProof.Rows
section
variable{prog:Program}{w:World}{A:Around}{E:Value->Shared->Prop}{s:Shared}
section
variable{lo hi:Option Int}{vl vu:Value}
noncomputable def sIx(n d:Nat):Option Int->Nat
 |none=>d
 |some v=>if v<0 then (v+(n:Int)).toNat else min v.toNat n
theorem JB(n d:Nat)(hd:d<=n)(o:Option Int):sIx n d o<=n:=by
 cases o with
 |none=>exact hd
 |some v=>
  show (if v<0 then (v+(n:Int)).toNat else min v.toNat n)<=n;by_cases hv:v<0
  ·rw[if_pos hv];lia
  ·rw[if_neg hv];exact Nat.min_le_right _ _
theorem x9(v:Int)(n d:Nat):(if v<0 then max (v+(n:Int)) 0 else min v (n:Int))=((sIx n d (some v):Nat):Int):=by
 show (if v<0 then max (v+(n:Int)) 0 else min v (n:Int))=(((if v<0 then (v+(n:Int)).toNat else min v.toNat n):Nat):Int)
 by_cases hv:v<0
 ·simp only[if_pos hv];lia
 ·simp only[if_neg hv];lia
theorem vV(lo hi:Option Int)(n:Nat):SH lo hi 1 (n:Int)=(((sIx n 0 lo:Nat):Int),((sIx n n hi:Nat):Int)):=by
 have h1:¬((1:Int)<0):=by lia
 unfold SH;simp only[h1,if_false];refine Prod.ext ?_ ?_
 ·cases lo with
  |none=>rfl
  |some v=>exact x9 v n 0
 ·cases hi with
  |none=>rfl
  |some v=>exact x9 v n n
theorem vW(i j:Nat):Rv (i:Int) (j:Int) 1=j-i:=by
 unfold Rv;have h1:(1:Int)>0:=by lia
 simp only[h1,if_true,Int.ediv_one];split<;>lia
theorem h_{v:Value}{o:Option Int}{Q:Option Int->Shared->Prop}(p:IsPart v o)(h:Q o s):wpAny (model prog w) A (Builtin.Slice.slicePartIndex v) Q E s:=by
 cases p with
 |none=>exact slicePart_none h
 |int i t=>exact slicePart_int h
theorem jY{sl:Addr}{n:Nat}{Q:Int×Int×Nat->Shared->Prop}(hs:s.heap.IsSliceOf sl vl vu .none)(pl:IsPart vl lo)(pu:IsPart vu hi)
  (h:Q (((sIx n 0 lo:Nat):Int),1,sIx n n hi-sIx n 0 lo) s):wpAny (model prog w) A (R5 (.ref sl) (pure (n:Int))) Q E s:=by
 obtain⟨os,hos,hcs,hds⟩:=id hs;unfold R5 Builtin.Slice.sliceFields;refine wpAny_bind (wpAny_bind (wpAny_field hos hds (x:=vl) rfl (wpAny_bind (wpAny_field hos hds (x:=vu) rfl (wpAny_bind (wpAny_field hos hds (x:=.none) rfl (wpAny_pure ?_)))))));refine wpAny_bind (slicePart_none ?_);show wpAny _ _ (if ((1:Int) == 0)=true then _ else _) _ _ s;rw[if_neg (by decide)];refine wpAny_bind (h_ pl (wpAny_bind (h_ pu (wpAny_bind (wpAny_pure ?_)))));show wpAny _ _ (match SH lo hi 1 (n:Int) with | (lo,hi)=>pure (lo,(1:Int),Rv lo hi 1)) _ _ s;rw[vV lo hi n];show wpAny _ _ (pure (((sIx n 0 lo:Nat):Int),(1:Int),Rv ((sIx n 0 lo:Nat):Int) ((sIx n n hi:Nat):Int) 1)) _ _ s;rw[vW];exact wpAny_pure h
theorem A7(xs:Array Value)(i k:Nat):((QG k).filterMap fun(m:Nat)=>xs[((i:Int)+(m:Int)*1).toNat]?).toArray=((xs.toList.drop i).take k).toArray:=by
 have e:(fun(m:Nat)=>xs[((i:Int)+(m:Int)*1).toNat]?)=fun m=>xs[i+m]?:=by
  funext m
  have:((i:Int)+(m:Int)*1).toNat=i+m:=by lia
  rw[this]
 rw[e];have:=pick_run xs i k;rw[Tq]at this;have e2:((fun x=>xs[x]?)∘fun x=>i+x)=fun m=>xs[i+m]?:=rfl;rw[e2]at this;rw[this]
theorem jr{t sl:Addr}{items:Array Value}{Q:Value->Shared->Prop}(ht:IsTup s.heap t items)(hs:s.heap.IsSliceOf sl vl vu .none)(pl:IsPart vl lo)(pu:IsPart vu hi)
  (hw:¬(sIx items.size 0 lo=0/\sIx items.size items.size hi=items.size))
  (h:Q (.ref s.heap.objs.size) { s with heap:=s.heap.push { cls:=.type "tuple",data:=.seq ((items.toList.drop (sIx items.size 0 lo)).take (sIx items.size items.size hi-sIx items.size 0 lo)).toArray } })
  (hsz:items.size<=sizeLine):wpAny (model prog w) A (getItem (.ref t) (.ref sl)) Q E s:=by
 have x_:sizeOk (.seq ((items.toList.drop (sIx items.size 0 lo)).take (sIx items.size items.size hi-sIx items.size 0 lo)).toArray):=by show ((items.toList.drop (sIx items.size 0 lo)).take (sIx items.size items.size hi-sIx items.size 0 lo)).toArray.size<=sizeLine;rw[Qy,Rl,Se,QH];omega
 have hj:sIx items.size items.size hi<=items.size:=JB _ _ (Pz _) hi;obtain⟨os,hos,hcs,hds⟩:=id hs;have hTs:s.TypeIs (.ref sl) "slice" := ⟨os,hos,hcs⟩
 unfold getItem
 try with_reducible refine wpAny_holding ?_
 first | refine wpAny_bind (wpAny_pure ?_) | skip
 refine wpAny_bind (wpAny_sequenceKey ht.typeIs (by decide) ?_);refine wpAny_bind (wpAny_callSpecial?_slot (name:=S8 "__getitem__") ht.typeIs Ru
  (wpAny_call_entry Ru ht.typeIs entry_tuple_getitem ?_ (args_tuple_getitem _ _)))
 show wpAny _ _ (Builtin.Tuple.tupleItemsOf (.ref t) >>= _) _ _ s;refine wpAny_bind (tupleItemsOf_ ht ?_);refine wpAny_bind (wpAny_typeOf hTs ?_);rw[if_pos (by decide)];refine wpAny_bind (jY hs pl pu ?_);have hno:¬((((sIx items.size 0 lo:Nat):Int) == 0&&(1:Int) == 1&&(sIx items.size items.size hi-sIx items.size 0 lo) == items.size)=true):=by intro q;rw[QD,QD]at q;have q1:((sIx items.size 0 lo:Nat):Int)=0:=eq_of_beq q.1.1;have q2:sIx items.size items.size hi-sIx items.size 0 lo=items.size:=eq_of_beq q.2;exact hw ⟨by omega,by omega⟩
 show wpAny _ _ (if (((sIx items.size 0 lo:Nat):Int) == 0&&(1:Int) == 1&&(sIx items.size items.size hi-sIx items.size 0 lo) == items.size)=true then _ else _) _ _ s;rw[if_neg hno,A7]
 first
  |exact wpAny_bind (m:=Rt _) (wpAny_newObj_type (wpAny_pure ⟨_,rfl,wpAny_pure h⟩) x_)
  |exact wpAny_bind (m:=Rt _) (wpAny_newObj_type (wpAny_bind (wpAny_pure (wpAny_pure ⟨_,rfl,wpAny_pure h⟩))) x_)
  |exact wpAny_bind (wpAny_bind (m:=Rt _) (wpAny_newObj_type (wpAny_pure (wpAny_pure ⟨_,rfl,wpAny_pure h⟩)) x_))
  |exact wpAny_bind (wpAny_bind (m:=Rt _) (wpAny_newObj_type (wpAny_pure ⟨_,rfl,wpAny_pure h⟩) x_))
end
end
end HT
namespace L2
open PySem PySem.Spec PyProof.Rows
noncomputable abbrev TO:=St->Hp->(Option Int->Hp->Prop)->Prop
def PO(X:Cx)(e:Option Expr)(t:TO):Prop:=
 ∀(kC:List (Addr×Obj)) (s:Shared) (σ:St) (H:Hp) (Q:Option Int->Hp->Prop),Inv X kC σ H s->t σ H Q ->
  wpAny (model X.prog X.w) X.A (evalPart e X.env) (fun u s'=>∃o H',Inv X kC σ H' s'/\IsPart u o/\Q o H') X.xe s
def qM:TO:=fun _ H Q=>Q none H
def A8(t:TE):TO:=fun σ H Q=>t σ H fun x H1=>∃i,x=.int i/\Q (some i) H1
section
variable{X:Cx}{e:Expr}{te:TE}{lo hi:Option Expr}{tl th:TO}{pos p2:Pos}
theorem Fo:PO X none qM:=by intro kC s σ H Q I h;rw[evalPart_none];exact wpAny_pure ⟨none,H,I,.none,h⟩
theorem ya(h:PE X e te):PO X (some e) (A8 te):=by intro kC s σ H Q I hw;rw[evalPart_some];refine thn (h kC s σ H _ I hw) fun u s1 ⟨x,H1,I1,r1,q1⟩=>?_;obtain⟨i,rfl,q⟩:=q1;obtain⟨t,rfl⟩:=r1;exact⟨some i,H1,I1,.int i t,q⟩
def SlR(X:Cx)(r:V->Option Int->Option Int->Hp->VK->Prop):Prop:=
 ∀(kC:List (Addr×Obj)) (s:Shared) (σ:St) (H:Hp) (x:V) (v vl vu:Value) (lo hi:Option Int) (sl:Addr) (Q:VK),Inv X kC σ H s->RelV x v->s.heap.IsSliceOf sl vl vu .none->IsPart vl lo->IsPart vu hi->r x lo hi H Q ->
  ∃T id,typeLookup (.type T) "__getitem__" = pure (some (.builtin id))/\s.TypeIs v T/\wpAny (model X.prog X.w) X.A (getItem v (.ref sl)) (EP X kC σ Q) X.xe s
def tSl(r:V->Option Int->Option Int->Hp->VK->Prop)(te:TE)(tl th:TO):TE:=fun σ H Q=>te σ H fun x H1=>tl σ H1 fun l H2=>th σ H2 fun u H3=>r x l u H3 Q
theorem sQ{r:V->Option Int->Option Int->Hp->VK->Prop}(hr:SlR X r)(he:PE X e te)(hl:PO X lo tl)(hu:PO X hi th):PE X (.Subscript e (.Slice lo hi none p2) pos) (tSl r te tl th):=by intro kC s σ H Q I h;refine Subscript_ (thn (he kC s σ H _ I h) fun v s1 ⟨x,H1,I1,r1,q1⟩=>?_);refine wpAny_Slice (thn (hl kC s1 σ H1 _ I1 q1) fun vl s2 ⟨l,H2,I2,pl,q2⟩=>thn (hu kC s2 σ H2 _ I2 q2) fun vu s3 ⟨u,H3,I3,pu,q3⟩=>?_);rw[evalPart_none];refine wpAny_pure ?_;have I4:Inv X kC σ H3 { s3 with heap:=s3.heap.push { cls:=.type "slice",data:=.fields #[vl,vu,.none] } }:=I3.kept (t':=s3.toks) fun b ob q=>PU _ q;obtain⟨T,id,hT,ht,hg⟩:=hr kC { s3 with heap:=s3.heap.push { cls:=.type "slice",data:=.fields #[vl,vu,.none] } } σ H3 x v vl vu l u s3.heap.objs.size Q I4 r1 (Heap.IsSliceOf.new ..) pl pu q3;show wpAny (model X.prog X.w) X.A (subscriptTail e (.Slice lo hi none p2) v (.ref s3.heap.objs.size)) (EP X kC σ Q) X.xe { s3 with heap:=s3.heap.push { cls:=.type "slice",data:=.fields #[vl,vu,.none] } };exact tail_any (ops:=[.ref s3.heap.objs.size,v]) ht hT hg (by with_unfolding_all rfl)
noncomputable def o_(xs:List V)(lo hi:Option Int):List V:=(xs.drop (HT.sIx xs.length 0 lo)).take (HT.sIx xs.length xs.length hi-HT.sIx xs.length 0 lo)
theorem kW(xs:List V)(lo hi:Option Int):(o_ xs lo hi).length<=xs.length:=by
 unfold o_;rw[Rl,Se]
 lia
def Mz(K:Dk):V->Option Int->Option Int->Hp->VK->Prop:=fun x lo hi H Q=>∃a xs,x=.ref a/\SqT K H a xs /\
 ¬(HT.sIx xs.length 0 lo=0/\HT.sIx xs.length xs.length hi=xs.length)/\∀p,H p=none->Q (.ref p) (upd H p (.tup (o_ xs lo hi)))
theorem JC:SlR X (Mz X.K):=by
 intro kC s σ H x v vl vu lo hi sl Q I rx hs pl pu h;obtain⟨a,xs,rfl,hx,hw,q⟩:=h;cases rx;obtain⟨its,r,ht,hz⟩:=I.tuple hx;have ur:its.toArray.size=xs.length:=by rw[Qy];exact r.length.symm
 refine⟨"tuple",_,Ru.lookup,ht.typeIs,?_⟩;refine HT.jr ht hs pl pu (by rw[ur];exact hw) ?_ (by rw[ur];exact hz);rw[ur];refine⟨.ref s.heap.objs.size,_,I.laid (t':=s.toks) (o:=.tup (o_ xs lo hi)) (fun b ob q=>PU _ q) (Pz _) ?_,rfl,q _ (I.hok.fresh (Pz _))⟩;exact⟨QT (kW xs lo hi) hz,_,(r.drop (HT.sIx xs.length 0 lo)).take (HT.sIx xs.length xs.length hi-HT.sIx xs.length 0 lo),IsTup.new _ _⟩
end
noncomputable def ixN(n:Nat)(i:Int):Option Nat:=if 0<=i then (if i<n then some i.toNat else none) else if -(n:Int)<=i then some (i+n).toNat else none
noncomputable def atI{α:Type}(xs:List α)(i:Int):Option α:=(ixN xs.length i).bind fun j=>xs[j]?
theorem yb{n:Nat}{i:Int}{j:Nat}(h:ixN n i=some j):seqIndex? i n=some j/\j<n/\-(n:Int)<=i/\i<n:=by
 unfold ixN at h;by_cases h0:0<=i
 ·rw[if_pos h0]at h;by_cases h1:i<n
  ·rw[if_pos h1]at h;have e:i.toNat=j:=Option.some.inj h;exact⟨by rw[seqIndex_of h0 h1,e],by lia,by lia,h1⟩
  ·rw[if_neg h1]at h;cases h
 ·rw[if_neg h0]at h;by_cases h1:-(n:Int)<=i
  ·rw[if_pos h1]at h;have e:(i+n).toNat=j:=Option.some.inj h;exact⟨by rw[seqIndex_neg (by lia) h1,e],by lia,h1,by lia⟩
  ·rw[if_neg h1]at h;cases h
theorem yc{α:Type}{xs:List α}{i:Int}{v:α}(h:atI xs i=some v):∃j,seqIndex? i xs.length=some j/\xs[j]?=some v/\j<xs.length/\-(xs.length:Int)<=i/\i<xs.length:=by
 unfold atI at h;cases e:ixN xs.length i with
 |none=>rw[e]at h;cases h
 |some j=>rw[e]at h;obtain⟨h1,h2,h3,h4⟩:=yb e;exact⟨j,h1,h,h2,h3,h4⟩
def jt(b:Expr):Prop:=∀o i,subscripted b false o i=operate [o,i] (getItem o i)
def IxR(X:Cx)(r:R2):Prop:=
 ∀(value slice:Expr) (kC:List (Addr×Obj)) (s:Shared) (σ:St) (H:Hp) (x y:V) (v u:Value) (Q:VK),Inv X kC σ H s->RelV x v->RelV y u->r x y H Q ->
  subscripted slice false v u=operate [v,u] (getItem v u)->wpAny (model X.prog X.w) X.A (subscriptTail value slice v u) (EP X kC σ Q) X.xe s
def MtR(X:Cx)(id:String)(r:V->List V->Hp->VK->Prop):Prop:=
 ∀(kC:List (Addr×Obj)) (s:Shared) (σ:St) (H:Hp) (x:V) (xs:List V) (v:Value) (us:List Value) (Q:VK),Inv X kC σ H s->RelV x v->Vals xs us->r x xs H Q ->
  wpAny (model X.prog X.w) X.A (call (.builtin id) (v::us)) (EP X kC σ Q) X.xe s
section
variable{X:Cx}{a b:Expr}{ta tb:TE}{pos:Pos}
section
variable{kC:List (Addr×Obj)}{s:Shared}{σ:St}{H:Hp}
theorem IxR.or{r r':R2}(h:IxR X r)(h':IxR X r'):IxR X (fun x y H Q=>r x y H Q\/r' x y H Q):=by
 intro value slice kC s σ H x y v u Q I rx ry q hs;rcases q with q | q
 ·exact h value slice kC s σ H x y v u Q I rx ry q hs
 ·exact h' value slice kC s σ H x y v u Q I rx ry q hs
theorem yd{r:R2}(hr:IxR X r)(ha:PE X a ta)(hb:PE X b tb)(hs:jt b):PE X (.Subscript a b pos) (tOp r ta tb):=by intro kC s σ H Q I h;exact Subscript_ (Jp ha hb I h fun v u s2 x y H2 I2 rx ry q=>hr a b kC s2 σ H2 x y v u Q I2 rx ry q (hs _ _))
def A9(K:Dk):R2:=fun x y H Q=>∃p xs i v,x=.ref p/\y=.int i/\SqL K H p xs/\atI xs i=some v/\Q v H
def MA(K:Dk):R2:=fun x y H Q=>∃p xs i v,x=.ref p/\y=.int i/\SqT K H p xs/\atI xs i=some v/\Q v H
theorem lQ:IxR X (A9 X.K):=by
 intro value slice kC s σ H x y v u Q I rx ry h hs;obtain⟨p,xs,i,z,rfl,rfl,hq,he,q⟩:=h;cases rx;obtain⟨t,rfl⟩:=ry;obtain⟨its,r,pl,hz⟩:=I.list hq;obtain⟨j,h1,h2,h3,h4,h5⟩:=yc he;obtain⟨w,ew,rw'⟩:=r.get h2;have hl:=r.length;have hn:=mq;have CY:EP X kC σ Q w s:=⟨z,H,I,rw',q⟩
 by_cases h0:0<=i
 ·have hj:i.toNat=j:=by
   rw[seqIndex_of h0 h5]at h1;exact Option.some.inj h1
  exact item_listR pl.isList h0 (by lia) (by rw[hj];simpa using ew) CY hs
 ·have hj:(i+(its.toArray.size:Int)).toNat=j:=by
   rw[seqIndex_neg (by lia) h4]at h1;rw[Qy,<- hl];exact Option.some.inj h1
  exact subscriptTail_builtinR (x:=w) pl.isList.typeIs slot_list_getitem.lookup
   (wpAny_getItem_list_neg (Q:=fun r s'=>r=w/\EP X kC σ Q r s') pl.isList (by lia) (by rw[Qy]<;>lia) (by lia) (by rw[hj];simpa using ew) ⟨rfl,CY⟩) hs
theorem JD:IxR X (MA X.K):=by
 intro value slice kC s σ H x y v u Q I rx ry h hs;obtain⟨p,xs,i,z,rfl,rfl,hq,he,q⟩:=h;cases rx;obtain⟨t,rfl⟩:=ry;obtain⟨its,r,pl,hz⟩:=I.tuple hq;obtain⟨j,h1,h2,h3,h4,h5⟩:=yc he;obtain⟨w,ew,rw'⟩:=r.get h2;have hl:=r.length;have hn:=mq;have CY:EP X kC σ Q w s:=⟨z,H,I,rw',q⟩
 exact subscriptTail_builtinR (x:=w) pl.typeIs slot_tuple_getitem.lookup
  (getItem_tuple (j:=j) (Q:=fun r s'=>r=w/\EP X kC σ Q r s') pl (by lia) (by lia) (by rw[Qy,<- hl];exact h1) (by simpa using ew) ⟨rfl,CY⟩) hs
theorem vX(its:List Value)(n j:Nat)(u:Value):TR (·.setIfInBounds j u) { cls:=.type "list",data:=.seq its.toArray n }={ cls:=.type "list",data:=.seq (its.set j u).toArray n }:=by simp[TR]
theorem Inv.lst{kC:List (Addr×Obj)}{σ:St}{H:Hp}{s:Shared}{p:Addr}{xs:List V}(I:Inv X kC σ H s)(h:H p=some (.lst xs)) :
  ∃(its:List Value) (n:Nat),Vals xs its/\s.heap.get? p=some { cls:=.type "list",data:=.seq its.toArray n }/\xs.length<=sizeLine:=by
 obtain⟨z,its,n,r,e⟩:=I.hok p _ h;exact⟨its,n,r,e,z⟩
theorem Inv.JE{p:Addr}{xs ys:List V}{its its':List Value}{n n':Nat}{f:Obj->Obj}(I:Inv X kC σ H s)(h:H p=some (.lst xs))
  (ho:s.heap.get? p=some { cls:=.type "list",data:=.seq its.toArray n }) (hf:f { cls:=.type "list",data:=.seq its.toArray n }={ cls:=.type "list",data:=.seq its'.toArray n' }) (r:Vals ys its') (hz:ys.length<=sizeLine) (t:Nat) :
  Inv X kC σ (upd H p (.lst ys)) { s with heap:=s.heap.update p f,toks:=t }:=by
 have e:(s.heap.update p f).get? p=some { cls:=.type "list",data:=.seq its'.toArray n' }:=by rw[SA f ho (by rw[hf]<;>rfl),hf]
 refine I.write (x:=p) (e:=p) (by rw[h];trivial) (.inl rfl) (fun b u hb q=>(Heap.get?_update_other _ _ (Ne.symm hb)).trans q) ⟨_,e⟩ ?_;exact⟨hz,its',n',r,e⟩
def pW:V->V->V->Hp->(Hp->Prop)->Prop:=fun o i v H Q=>∃p xs k j,o=.ref p/\i=.int k/\H p=some (.lst xs)/\ixN xs.length k=some j/\Q (upd H p (.lst (xs.set j v)))
theorem set_list:Mr X pW:=by
 intro kC s σ H o i v ov iv u Q I ro ri rv h;obtain⟨p,xs,k,j,rfl,rfl,hp,hj,q⟩:=h;cases ro;obtain⟨t,rfl⟩:=ri;obtain⟨its,n,r,ho,hz⟩:=I.lst hp;obtain⟨h1,h2,h3,h4⟩:=yb hj;have hl:=r.length;have hn:=mq;have I':Inv X kC σ (upd H p (.lst (xs.set j v))) { s with heap:=s.heap.update p (TR (·.setIfInBounds j u)) }:=
  I.JE hp ho (vX its n j u) (r.set rv j) (by rw[QU];exact hz) s.toks
 by_cases h0:0<=k
 ·have hk:k.toNat=j:=by
   rw[seqIndex_of h0 h4]at h1;exact Option.some.inj h1
  exact PySem.W.ki_setAt ho h0 (by lia) (by rw[Qy,<- hl];exact h4) (by rw[hk];exact⟨_,I',q⟩)
 ·have hk:(k+(its.toArray.size:Int)).toNat=j:=by
   rw[seqIndex_neg (by lia) h3]at h1;rw[Qy,<- hl];exact Option.some.inj h1
  exact PySem.W.ki_setBack ho (by lia) (by rw[Qy,<- hl];exact h3) (by lia) (by rw[hk];exact⟨_,I',q⟩)
theorem qN(lo hi:Option Int)(n:Nat):(sliceBounds lo hi none n).1=((HT.sIx n 0 lo:Nat):Int)/\(sliceBounds lo hi none n).2.1=((HT.sIx n n hi:Nat):Int)/\(sliceBounds lo hi none n).2.2=1:=by
 refine⟨?_,?_,rfl⟩
 ·cases lo with
  |none=>simp[sliceBounds,HT.sIx]
  |some i=>
   simp only[sliceBounds,HT.sIx,Option.getD_none,show (1:Int)>0 by decide,if_true];by_cases h:i<0
   ·simp only[h,if_true]<;>lia
   ·simp only[h,if_false]<;>lia
 ·cases hi with
  |none=>simp[sliceBounds,HT.sIx]
  |some i=>
   simp only[sliceBounds,HT.sIx,Option.getD_none,show (1:Int)>0 by decide,if_true];by_cases h:i<0
   ·simp only[h,if_true]<;>lia
   ·simp only[h,if_false]<;>lia
theorem pA(its:List Value)(lo hi:Option Int):slicePick its.toArray lo hi none=((its.drop (HT.sIx its.length 0 lo)).take (HT.sIx its.length its.length hi-HT.sIx its.length 0 lo)).toArray:=by obtain⟨h1,h2,h3⟩:=qN lo hi its.toArray.size;unfold slicePick;rw[h1,h2,h3];simp only[sliceRange_one,pick_run,Qy]<;>rfl
def MB(K:Dk):V->Option Int->Option Int->Hp->VK->Prop:=fun x lo hi H Q=>∃a xs,x=.ref a/\SqL K H a xs/\∀p,H p=none->Q (.ref p) (upd H p (.lst (o_ xs lo hi)))
theorem Fp:SlR X (MB X.K):=by intro kC s σ H x v vl vu lo hi sl Q I rx hs pl pu h;obtain⟨a,xs,rfl,hx,q⟩:=h;cases rx;obtain⟨its,r,ht,hz⟩:=I.list hx;have ur:=r.length;refine⟨"list",_,slot_list_getitem.lookup,ht.isList.typeIs,?_⟩;refine wpAny_getItem_list_slice ht.isList hs pl pu .none (by simp) ?_ (by rw[Qy]<;>lia);rw[pA,<- ur];refine⟨.ref s.heap.objs.size,_,I.laid (t':=s.toks) (o:=.lst (o_ xs lo hi)) (fun b ob q=>PU _ q) (Pz _) ?_,rfl,q _ (I.hok.fresh (Pz _))⟩;exact⟨QT (kW xs lo hi) hz,_,0,(r.drop (HT.sIx xs.length 0 lo)).take (HT.sIx xs.length xs.length hi-HT.sIx xs.length 0 lo),QS _ rfl⟩
theorem qO:bW X (.builtin "len") (fun xs H Q=>∃p ys,xs=[.ref p]/\(SqL X.K H p ys\/SqT X.K H p ys)/\Q (.int ys.length) H):=by
 intro kC s σ H xs us Q I r h;obtain⟨p,ys,rfl,hq,q⟩:=h;obtain⟨u,rfl,rx⟩:=vals1 r;cases rx;have hn:=mq;rcases hq with hq | hq
 ·obtain⟨its,r',pl,hz⟩:=I.list hq;have ur:=r'.length;exact Calls.call_len_list pl.isList (by simp only[Qy]<;>lia) ⟨.int ys.length,H,I.tok _,⟨s.toks+1,by rw[Qy,ur]⟩,q⟩
 ·obtain⟨its,r',pl,hz⟩:=I.tuple hq;have ur:=r'.length;exact len_tuple pl (by simp only[Qy]<;>lia) ⟨.int ys.length,H,I.tok _,⟨s.toks+1,by rw[Qy,ur]⟩,q⟩
theorem qP:bW X (.type "list") (fun xs H Q=>∃p ys,xs=[.ref p]/\(SqL X.K H p ys\/SqT X.K H p ys)/\∀l,H l=none->Q (.ref l) (upd H l (.lst ys))):=by
 intro kC s σ H xs us Q I r h;obtain⟨p,ys,rfl,hq,q⟩:=h;obtain⟨u,rfl,rx⟩:=vals1 r;cases rx;have CY:∀(its:List Value),Vals ys its->ys.length<=sizeLine->∀(h':Heap) (c':Nat),(∀b o',s.heap.get? b=some o'->h'.get? b=some o') ->
   h'.get? s.heap.objs.size=some { cls:=.type "list",dict:=none,data:=.seq its.toArray c',slots:=#[] }->EP X kC σ Q (.ref s.heap.objs.size) { s with heap:=h' }:=fun its r' hz h' c' kp e=>
  ⟨.ref s.heap.objs.size,_,I.laid (t':=s.toks) kp (Pz _) (show aQ X.prog X.w _ h' _ (.lst ys) from ⟨hz,its,c',r',e⟩),rfl,q _ (I.hok.fresh (Pz _))⟩
 rcases hq with hq | hq
 ·obtain⟨its,r',pl,hz⟩:=I.list hq;have ur:=r'.length;obtain⟨o,ho,hc,n,hd⟩:=pl.isList;exact call_list_seq p (.inl rfl) ho hc hd (fun h' c' kp e=>CY its r' hz h' c' kp e) (by simp only[Qy]<;>lia)
 ·obtain⟨its,r',pl,hz⟩:=I.tuple hq;have ur:=r'.length;obtain⟨o,ho,hc,n,hd⟩:=pl;exact call_list_seq p (.inr rfl) ho hc hd (fun h' c' kp e=>CY its r' hz h' c' kp e) (by simp only[Qy]<;>lia)
theorem pB:bW X (.type "tuple") (fun xs H Q=>∃p ys,xs=[.ref p]/\((SqL X.K H p ys/\∀l,H l=none->Q (.ref l) (upd H l (.tup ys)))\/(SqT X.K H p ys/\Q (.ref p) H))):=by
 intro kC s σ H xs us Q I r h;obtain⟨p,ys,rfl,h⟩:=h;obtain⟨u,rfl,rx⟩:=vals1 r;cases rx;rcases h with⟨hq,q⟩ | ⟨hq,q⟩
 ·obtain⟨its,r',pl,hz⟩:=I.list hq;have ur:=r'.length;refine call_tuple_list pl.isList (fun h' kp=>?_) (by simp only[Qy]<;>lia);have I1:Inv X kC σ H { s with heap:=h' }:=I.kept (t':=s.toks) kp;have I2:Inv X kC σ (upd H h'.objs.size (.tup ys)) { s with heap:=h'.push { cls:=.type "tuple",data:=.seq its.toArray } }:=
   I1.laid (t':=s.toks) (fun b o e=>PU _ e) (Pz _) (show aQ X.prog X.w _ _ _ (.tup ys) from ⟨hz,its,r',IsTup.new _ _⟩)
  exact⟨.ref h'.objs.size,_,I2,rfl,q _ (I1.hok.fresh (Pz _))⟩
 ·obtain⟨its,r',pl,hz⟩:=I.tuple hq;exact call_tuple_same pl ⟨.ref p,H,I,rfl,q⟩
def tyV(K:Dk)(T:String)(x:V)(H:Hp):Prop:=match x with
 |.str _=>T = "str"
 |.int _=>T = "int"
 |.ref p=>(T = "list" /\ ∃xs,SqL K H p xs)\/(T = "tuple" /\ ∃o,K.lookup p=some o/\o.cls=.type "tuple" /\ o.dict=none) \/
   (T = "dict" /\ ((∃kvs,H p=some (.dK kvs))\/∃kvs ts,H p=some (.dT kvs ts)))\/(T = "set" /\ ∃S n,H p=some (.set S n))
 |_=>False
theorem JF{T:String}{x:V}{v:Value}(I:Inv X kC σ H s)(r:RelV x v)(ty:tyV X.K T x H) :
  s.TypeIs v T/\∀a,v=.ref a->∃ob,s.heap.get? a=some ob/\ob.dict=none:=by
 cases x with
 |str z=>obtain⟨t,rfl⟩:=r;cases (show T = "str" from ty);exact⟨typeIs_str s z t,fun _ e=>nomatch e⟩
 |int i=>obtain⟨t,rfl⟩:=r;cases (show T = "int" from ty);exact⟨typeIs_int s i t,fun _ e=>nomatch e⟩
 |ref p=>
  cases r;rcases ty with⟨rfl,xs,hq⟩ | ⟨rfl,o,hk,hc,hd⟩ | ⟨rfl,hk⟩ | ⟨rfl,S,n,hk⟩
  ·obtain⟨its,_,pl,_⟩:=I.list hq;refine⟨pl.isList.typeIs,fun a e=>?_⟩;cases e;obtain⟨o,n,e,c,hd,_⟩:=pl;exact⟨o,e,hd⟩
  ·refine⟨⟨o,I.kIn p o hk,hc⟩,fun a e=>?_⟩;cases e;exact⟨o,I.kIn _ o hk,hd⟩
  ·have z:∃o,s.heap.get? p=some o/\o.ExactDict:=by
    rcases hk with⟨kvs,hk⟩ | ⟨kvs,ts,hk⟩
    ·obtain⟨_,_,_,_,o,_,_,e,ex,_⟩:=I.hok p _ hk;exact⟨o,e,ex⟩
    ·obtain⟨_,_,_,_,o,_,_,e,ex,_⟩:=I.hok p _ hk;exact⟨o,e,ex⟩
   obtain⟨o,e,ex⟩:=z;refine⟨⟨o,e,ex.1⟩,fun a e2=>?_⟩;cases e2;exact⟨o,e,ex.2.1⟩
  ·obtain⟨o,_,_,_,e,ex,_⟩:=I.hok p _ hk;refine⟨⟨o,e,ex.1⟩,fun a e2=>?_⟩;cases e2;exact⟨o,e,ex.2.1⟩
 |_=>exact Rc ty
def tBM(K:Dk)(T:String)(r:V->List V->Hp->VK->Prop)(to:TE)(t:TA):TE:=fun σ H Q=>to σ H fun x H1=>tyV K T x H1/\t σ H1 fun xs H2=>r x xs H2 Q
variable{o e:Expr}{es:List Expr}{to:TE}{t:TA}{name:Str}{K8 cpos:Pos}{T id:String}{r:V->List V->Hp->VK->Prop}
theorem sS(pa:PlainAttrs T)(slot:Slot T name id)(hty:typeOf (.builtin id)=pure (.type "method_descriptor"))(hm:MtR X id r)(ho:PE X o to)(ha:PA X (e::es) t)
  (Gz:attributeBase o name X.env (eval o X.env)=eval o X.env:=by rfl)
  (hfew:((backTo cpos (starEach (e::es) X.env)).all (fun x=>!x.1)&&(backToKw cpos (keywordEach [] X.env)).all (fun x=>x.1.isSome)
   && decide ((e::es).length+([]:List Keyword).length+(if ([]:List Keyword).isEmpty then 0 else 1)<30))=true:=by rfl)
  (Fd:(K8.endLine == cpos.line)=true:=by rfl) (hs:starEach (e::es) X.env=(false,eval e X.env)::starEach es X.env:=by rfl) (CW:(backTo cpos (starEach es X.env)).any (·.1)=false:=by rfl) :
  PE X (.Call (.Attribute o name K8) (e::es) [] cpos) (tBM X.K T r to t):=by
 intro kC s σ H Q I h;refine wpAny_Call_method_late Gz hfew Fd rfl (thn (ho kC s σ H _ I h) fun v s1 ⟨x,H1,I1,r1,ty,q1⟩=>?_);obtain⟨h1,h2⟩:=JF I1 r1 ty;refine⟨T,id,pa,slot,hty,h1,h2,?_⟩;have hA:=ha cpos kC s1 σ H1 _ I1 q1;rw[hs]at hA ⊢;refine S1 (by show (false||(backTo cpos (starEach es X.env)).any (·.1))=false;rw[CW]<;>rfl) (S9 ?_);exact thn hA fun us s2 ⟨vs,H2,I2,r2,q2⟩=>hm kC s2 σ H2 x vs v us Q I2 r1 r2 q2
end
end
section
variable{us:List Value}{xs:List V}
def MtM(X:Cx)(id:String)(r:V->List V->Hp->VK->Prop):Prop:=
 ∀(kC:List (Addr×Obj)) (s:Shared) (σ:St) (H:Hp) (x:V) (xs:List V) (v:Value) (us:List Value) (Q:VK),Inv X kC σ H s->RelV x v->Vals xs us->r x xs H Q ->
  wpAny (model X.prog X.w) X.A (call (.builtin id) (v::us)) (EP X kC σ Q) X.xe s
theorem Vals.one:∀{x:V} {us:List Value},Vals [x] us->∃u,us=[u]/\RelV x u
 |_,_,.cons r .nil=>⟨_,rfl,r⟩
theorem Vals.eraseIdx:∀{xs:List V} {us:List Value} (i:Nat),Vals xs us->Vals (xs.eraseIdx i) (us.eraseIdx i)
 |_,_,_,.nil=>.nil
 |_,_,0,.cons _ t=>t
 |_,_,i+1,.cons r t=>.cons r (Vals.eraseIdx i t)
theorem Vals.reverse(h:Vals xs us):Vals xs.reverse us.reverse:=by
 induction h with
 |nil=>exact .nil
 |cons r t ih=>rw[S0,S0];exact Vals.append ih (.cons r .nil)
theorem Vals.rep(h:Vals xs us):∀k:Nat,Vals (Ds k xs).flatten (Ds k us).flatten
 |0=>.nil
 |k+1=>by rw[RJ,RJ,Q9,Q9];exact Vals.append h (Vals.rep h k)
theorem pX{α:Type}:∀(l:List α) (i:Nat),(l.eraseIdx i).length<=l.length
 |[],_=>Pz _
 |_::_,0=>Nat.le_succ _
 |_::r,i+1=>Nat.succ_le_succ (pX r i)
theorem foldl_rep(its:List Value):∀(k:Nat) (pI:List Value),
  Us (fun x1 x2=>x1++x2) pI.toArray (Ds k its.toArray)=(pI++(Ds k its).flatten).toArray
 |0,pI=>by simp
 |k+1,pI=>by
  have e:pI.toArray++its.toArray=(pI++its).toArray:=by simp
  have e2:(pI++its)++(Ds k its).flatten=pI++(Ds (k+1) its).flatten:=by rw[RJ,Q9,Sv]
  rw[<- e2,<- foldl_rep its k (pI++its),<- e,RJ,Tc]
end
section
variable{X:Cx}{kC:List (Addr×Obj)}{σ:St}{H:Hp}{s:Shared}{l b:Addr}{xs ys zs:List V}
theorem Inv.JG{its its':List Value}{n:Nat}{f:Array Value->Array Value}{t':Nat}(I:Inv X kC σ H s)(hH:H l=some (.lst xs))
  (e:s.heap.get? l=some { cls:=.type "list",data:=.seq its.toArray n }) (hf:f its.toArray=its'.toArray) (hv:Vals ys its') (hz:ys.length<=sizeLine) :
  Inv X kC σ (upd H l (.lst ys)) { s with heap:=s.heap.update l (TR f),toks:=t' }:=by
 have q:=PySem.IsL.update e f;rw[hf]at q;refine I.write (x:=l) (e:=l) (by rw[hH];exact trivial) (.inl rfl) (fun b' u hb hu=>(Heap.get?_update_other s.heap (TR f) (Ne.symm hb)).trans hu) ⟨_,q⟩ ?_;exact⟨hz,its',_,hv,q⟩
theorem Inv.JH{its:List Value}{t':Nat}(I:Inv X kC σ H s)(hv:Vals ys its)(hz:ys.length<=sizeLine) :
  Inv X kC σ (upd H s.heap.objs.size (.lst ys)) { s with heap:=s.heap.push { cls:=.type "list",data:=.seq its.toArray },toks:=t' }:=
 I.laid (fun _ _ q=>PU _ q) (Pz _) ⟨hz,its,0,hv,QS _ rfl⟩
theorem Inv.fresh(I:Inv X kC σ H s):H s.heap.objs.size=none:=I.hok.fresh (Pz _)
theorem Inv.JI(I:Inv X kC σ H s)(hH:H l=some (.lst xs)):xs.length<=sizeLine/\∃(its:List Value) (n:Nat),Vals xs its/\xs.length=its.length/\s.heap.get? l=some { cls:=.type "list",data:=.seq its.toArray n }:=by obtain⟨z,its,n,r,e⟩:=I.hok l _ hH;exact⟨z,its,n,r,r.length,e⟩
theorem sV{n:Nat}(h:n<=sizeLine):Sf n=false:=by unfold Sf;exact decide_eq_false (by lia)
end
section
variable{X:Cx}
def lR:V->List V->Hp->VK->Prop:=fun x vs H Q=>∃l xs y,x=.ref l/\vs=[y]/\H l=some (.lst xs)/\xs.length<sizeLine/\Q .non (upd H l (.lst (xs++[y])))
theorem gH:MtM X "list.append" lR:=by
 intro kC s σ H x vs v us Q I rx rv h;obtain⟨l,xs,y,rfl,rfl,hH,hz,q⟩:=h;cases rx;obtain⟨u,rfl,ru⟩:=rv.one;obtain⟨z,its,n,r,hl,e⟩:=I.JI hH;refine call_meets F.slot_list_append ⟨_,e,rfl⟩ F.entry_list_append (F.args_list_append_2 _ _) (PySem.list_append l its.toArray n u (by rw[Qy];lia)) ⟨e,?_⟩;refine⟨.non,_,I.JG (its':=its++[u]) hH e (by simp) (r.append (.cons ru .nil)) ?_,rfl,q⟩;rw[Qv,RM]
 lia
def A_:V->List V->Hp->VK->Prop:=fun x vs H Q=>∃l xs i k y,x=.ref l/\vs=[.int i]/\H l=some (.lst xs)/\-(2 ^ 63)<=i/\i<2 ^ 63/\seqIndex? i xs.length=some k/\xs[k]?=some y/\Q y (upd H l (.lst (xs.eraseIdx k)))
theorem Ba:MtM X "list.pop" A_:=by
 intro kC s σ H x vs v us Q I rx rv h;obtain⟨l,xs,i,k,y,rfl,rfl,hH,h1,h2,hk,hy,q⟩:=h;cases rx;obtain⟨u,rfl,ru⟩:=rv.one;obtain⟨t,rfl⟩:=ru;obtain⟨z,its,n,r,hl,e⟩:=I.JI hH;obtain⟨w,hw,rw'⟩:=r.get hy;refine call_meets F.slot_list_pop ⟨_,e,rfl⟩ F.entry_list_pop (F.args_list_pop_2 _ _)
  (MeetsSeq.list_pop_at l its.toArray n i t k w (fitsIndex_both h1 h2) (by rw[Qy,<- hl];exact hk) (by rw[<- RA];exact hw) (by rw[Qy];lia)) ⟨e,?_⟩
 refine⟨y,_,I.JG (its':=its.eraseIdx k) hH e ?_ (r.eraseIdx k) ?_,rw',q⟩
 ·show its.toArray.eraseIdxIfInBounds k=(its.eraseIdx k).toArray;rw[List.eraseIdxIfInBounds_toArray]
 ·have:=pX xs k
  lia
theorem len_rep{α:Type}(xs:List α)(k:Nat):(Ds k xs).flatten.length=k*xs.length:=by
 induction k with
 |zero=>simp
 |succ k ih=>rw[RJ,Q9,Qv,ih,Nat.succ_mul,Nat.add_comm]
end
end L2
namespace Att
open PySem PySem.W PySem.Calls PyProof.Rows
theorem lI{P:Params}{h:Heap}:∀(ns:List Int) (vs:List Value),WellAll P h vs (ns.map WData.int)->IntsAre vs ns:=by
 intro ns
 induction ns with
 |nil=>intro vs w;rw[SQ]at w;cases w;exact .nil
 |cons n ns ih=>
  intro vs w;rw[gp]at w;cases w with
  |cons a b=>cases a;exact .cons _ _ (ih _ b)
theorem zP{l:OpenLaw}{n:Nat}(hn:l.most=some n){P:Params}{h:Heap}{args:List WData}{vals:List Value}
  (hpre:l.row.toRowW.claim.pre args=true) (hwl:WellAll P h vals args) :
  ∃a vs ns,vals=[Rq a]/\args=[WData.list (ns.map WData.int)]/\h.get? a=some { cls:=.type "list",data:=.seq vs.toArray }/\IntsAre vs ns/\ns.length<=n:=by
 have hsh:WShape.hasAll [] args [.list .int]=true:=(pre_splitW hpre).1;have hc:l.pre.holds [] { args:=args }=true:=(pre_splitW hpre).2;obtain⟨d,r,rfl,h1,h2⟩:=hasAllW_cons hsh;obtain rfl:=hasAllW_nil h2;obtain⟨xs,rfl,h3⟩:=hasW_list h1;obtain⟨ns,rfl⟩:=items_int h3;have ur:ns.length<=n:=by
  unfold OpenLaw.pre at hc;have h4:(WTm.not (.lt (.lit (.int (n:Int))) (.len (.arg 0)))).holds [] { args:=[.list (ns.map .int)] }=true:=by have h4:=(holds_andW hc).1;rw[hn]at h4;exact h4
  have h5:=condW_of h4 (w_not (w_lt w_lit (w_len_list (w_arg rfl))));rw[gc]at h5;refine Nat.le_of_not_lt fun q=>?_;have q':(n:Int)<((ns.length:Nat):Int):=by omega
  first
   |(rw[decide_eq_true q']at h5;exact absurd h5 (by decide))
   |(simp at h5;omega)
 cases hwl with
 |cons w1 w2=>
  cases w2;cases w1 with
  |list ho hall=>exact⟨_,_,ns,rfl,rfl,ho,lI ns _ hall,ur⟩
theorem zQ(l:OpenLaw)(args:List WData):l.row.toRowW.claim.post args (.bool true) args=true:=
 postW_of (r:=l.row.toRowW) (X:=(true == true))
  (show WShape.has [] (.bool true) .bool=true by first | rfl | decide | simp[WShape.has,WShape.arms,WShape.armsAll])
  (show (WTm.eq .res (.lit (.bool true))).value [] { args:=args,res:=some (.bool true),after:=args }=some (.bool (true == true)) from w_eq_bool (w_res rfl) w_lit) rfl
theorem sW{l:OpenLaw}{n:Nat}{q:Program}{loose:List Str}{XP:(Str->Option Value)->Heap->Prop}{YP:World->Heap->Prop}{d:DefRec}
  (hn:l.most=some n) (hdf:d.params.defaults=[])
  (call:∀ (w:World) (s₀ s₁:Shared) (mg mb:Str→Option Value) (fa:Addr) (o:Obj) (pm cd doc:Value) (a:Addr) (vs:List Value) (ns:List Int),
   Ground q loose [] XP w s₀ mg mb s₁.heap->YP w s₁.heap ->
   s₁.heap.get? fa=some o->o.data=.func (docDef d.name d.params d.body d.scope pm cd doc)->s₁.heap.CodeRec cd d.name->mg d.name=some (.ref fa) ->
   s₁.heap.get? a=some { cls:=.type "list",data:=.seq vs.toArray }->IntsAre vs ns->ns.length<=n->s₁.gens=#[] ->
   codeAny (model l.prog w) callerA (.call (.ref fa) ⟨[.ref a],[]⟩) (fun r s'=>r=.ok (.ret (.bool true))/\OldK s₁.heap s'.heap/\s'.os=s₁.os/\AllBare s'.gens) s₁) :
  WalkO q loose XP YP l.row.toRowW d [] (fun f vs=>PySem.call f vs):=by
 intro w s₀ s₁ mg mb G Y fa o pm cd doc dV kV ho hd Ij hD hmg hg args vals as hpre hlay hrd hwl hlo;obtain rfl:dV=.none:=Dflts.none hD hdf;obtain rfl:kV=.none:=Dflts.noKw hD;obtain⟨a,vs,ns,rfl,rfl,hobj,hints,ur⟩:=zP hn hpre hwl;refine enter_call (codeAny_mono (call w s₀ s₁ mg mb fa o pm cd doc a vs ns G Y ho (fd_plain hd) Ij hmg hobj hints ur hg) fun r s' hq=>?_);obtain⟨rfl,h2,h3,h4⟩:=hq;exact⟨.inl ⟨.bool true,.bool true,[],rfl,fun _=>rfl,.bool true,zQ l _,fun _=>⟨Ue.nil,fun _ hm=>(nomatch hm)⟩⟩,h2,h3,h4⟩
end Att
namespace L2
open PySem PySem.Spec PyProof.Rows
theorem cD:∀{vs:List Value} {ns:List Int},IntsAre vs ns->Vals (ns.map V.int) vs
 |_,_,.nil=>.nil
 |_,_,.cons n t h=>.cons ⟨t,rfl⟩ (cD h)
def JJ(H:Hp):Prop:=∀b,H b=none\/∃o xs,H b=some (.frz o (.lst xs))
theorem Bb{P:Program}{w:World}{K:Dk}{mg mb:Str->Option Value}{CX:CXT}{k:Nat}{fa a:Addr}{fd:FuncData}{x:Str}{sp:Sp}{s₁:Shared}{vs:List Value}{ns:List Int}
  (KX:K.In s₁.heap) (hns:s₁.heap.Ns mainGlobals mg) (hb:s₁.heap.Ns builtinsNs mb) (hbb:∀x:Str,x ≠ "__name__" -> mb x=bootBuiltins x) (hlim:s₁.heap.NoLimit) (hg:s₁.gens=#[])
  (ha:s₁.heap.get? a=some { cls:=.type "list",data:=.seq vs.toArray }) (hi:IntsAre vs ns) (hl:ns.length<=sizeLine) (hr:bg k callerA)
  (F:∀base:Heap,K.In base->base.Ns mainGlobals mg->aW P w K mg base CX k fa fd [x] sp) (hbind:∀(s:Shared) (u:Value),BindsTo s fd ⟨[u],[]⟩ [(x,u)])
  (hsp:∀H:Hp,JJ H->SqL K H a (ns.map V.int)->sp [.ref a] H (fun v _=>v=.bl true) fun _ _ _=>False)
  (hCX:∀H e s',CX [] H s₁ (fun _ _ _=>False) e s'->False) :
  codeAny (model P w) callerA (.call (.ref fa) ⟨[.ref a],[]⟩) (fun r s'=>r=.ok (.ret (.bool true))/\OldK s₁.heap s'.heap/\s'.os=s₁.os/\AllBare s'.gens) s₁:=by
 have rv:=cD hi;have O6:=hi.length;have core:∀H:Hp,JJ H->SqL K H a (ns.map V.int)->HOk P w H s₁.heap->(∀b,H b≠none->b=a)->(H a≠none->K.lookup a=none) ->
   codeAny (model P w) callerA (.call (.ref fa) ⟨[.ref a],[]⟩) (fun r s'=>r=.ok (.ret (.bool true))/\OldK s₁.heap s'.heap/\s'.os=s₁.os/\AllBare s'.gens) s₁:=by
  intro H hO hS hok hA hK;have ye:∀{b:Addr} {o:Obj},s₁.heap.get? b=some o->H b=none->(qI s₁.heap H).get? b=some o:=fun e n=>AI e n;have noA:∀{b:Addr} {o:Obj} {es:Array DictEntry} {ep:Nat},s₁.heap.get? b=some o->o.data=.dict es ep->H b=none:=fun {b o es ep} e d=>by
   cases q:H b with
   |none=>rfl
   |some u=>have e':b=a:=hA b (by rw[q];simp);subst e';rw[ha]at e;cases e;have d':Data.seq vs.toArray _=Data.dict es ep:=d;cases d'
  have nsK:∀{b:Addr} {m:Str->Option Value},s₁.heap.Ns b m->(qI s₁.heap H).Ns b m:=fun {b m} ⟨o,es,ep,e,d,r⟩=>⟨o,es,ep,ye e (noA e d),d,r⟩;have hKb:K.In (qI s₁.heap H):=fun b o e=>ye (KX b o e) (by
   cases q:H b with
   |none=>rfl
   |some u=>have e':b=a:=hA b (by rw[q];simp);subst e';rw[hK (by rw[q];simp)]at e;cases e)
  have hM:Mod K mg (qI s₁.heap H):=⟨hKb,nsK hns,⟨mb,nsK hb,hbb⟩,let ⟨mc,h1,h2⟩:=hlim;⟨mc,nsK h1,h2⟩⟩
  have e0:Fj P w K mg (qI s₁.heap H) callerA [] s₁ H:=⟨rfl,hM,fun b o e=>E6 e,Nat.le_of_eq (zD _ _),trivial,fun b hb=>absurd (show b∈([]:List Addr) from hb) (by simp),hok,.of_eq hg⟩
  refine codeAny_mono ((F _ hKb (nsK hns)).run callerA [] s₁ H ⟨[.ref a],[]⟩ [.ref a] [.ref a] _ _ hr e0 (hbind s₁ (.ref a)) (.cons rfl .nil) (hsp H hO hS)) fun r s' h=>?_;cases r with
  |error e=>exact(hCX H e s' h).elim
  |ok fl=>
   cases fl with
   |next=>exact Rc h
   |brk=>exact Rc h
   |cont=>exact Rc h
   |ret u=>
    obtain⟨v,H',os,bare,un,O7,r',q⟩:=h;have q':v=.bl true:=q;subst q';obtain rfl:u=Uq true:=r';refine⟨rfl,OldK.of_keep fun b o e=>?_,os,bare⟩;cases q:H b with
    |none=>exact un.keep b o e q (by intro z;exact absurd (show b∈([]:List Addr) from z) (by simp)) (by simp)
    |some u=>
     rcases hO b with z | ⟨ob,xs,z⟩
     ·rw[q]at z;cases z
     ·have z2:=un.qH b ob _ z;obtain⟨e1,_⟩:=hok b _ z;obtain⟨e2,_⟩:=O7 b _ z2;rw[e]at e1;cases e1;exact e2
 cases hk:K.lookup a with
 |some o=>have e:=KX a o hk;rw[ha]at e;cases e;refine core (fun _=>none) (fun _=>.inl rfl) (.inr ⟨_,vs.toArray,_,hk,rfl,rfl,rfl,by rw[Qy,O6];exact hl,by simpa using rv⟩) (fun b u z=>by have z':(none:Option HO)=some u:=z;cases z') (fun b z=>absurd rfl z) fun z=>absurd rfl z
 |none=>
  refine core (fun b=>if b=a then some (.frz { cls:=.type "list",data:=.seq vs.toArray } (.lst (ns.map V.int))) else none) (fun b=>?_) (.inl (.inr ⟨{ cls:=.type "list",data:=.seq vs.toArray },if_pos rfl⟩)) (fun b u z=>?_) (fun b z=>?_) fun _=>hk
  ·by_cases hb:b=a
   ·exact .inr ⟨_,_,if_pos hb⟩
   ·exact .inl (if_neg hb)
  ·by_cases hb:b=a
   ·have z':=(if_pos hb).symm.trans z;cases z';subst hb;exact⟨ha,by rw[gc];exact hl,vs,_,rv,ha⟩
   ·have z':=(if_neg hb).symm.trans z;cases z'
  ·by_cases hb:b=a
   ·exact hb
   ·exact absurd (if_neg hb) z
theorem Fq{l:T5}{n k:Nat}{q:Program}{loose:List Str}{XP:(Str->Option Value)->Heap->Prop}{YP:World->Heap->Prop}{d:DefRec}{K:Params->Dk}{CX:World->CXT}{sp:World->Sp}{x:Str}
  (hn:l.most=some n) (hn2:n<=sizeLine) (hdf:d.params.defaults=[]) (hr:bg k callerA)
  (hY:∀(w:World) (h:Heap),YP w h->(K w.params).In h)
  (F:∀ (w:World) (mg:Str→Option Value) (fa:Addr) (h:Heap),(K w.params).In h→h.Ns mainGlobals mg→mg d.name=some (.ref fa) →
   ∃fd:FuncData,(∀(s:Shared) (u:Value),BindsTo s fd ⟨[u],[]⟩ [(x,u)]) /\
    ∀base:Heap,(K w.params).In base->base.Ns mainGlobals mg->aW l.prog w (K w.params) mg base (CX w) k fa fd [x] (sp w))
  (hsp:∀(w:World) (H:Hp) (a:Addr) (ns:List Int),ns.length<=n->JJ H->SqL (K w.params) H a (ns.map V.int)->sp w [.ref a] H (fun v _=>v=.bl true) fun _ _ _=>False)
  (hCX:∀(w:World) (H:Hp) (s:Shared) (e:Value) (s':Shared),CX w [] H s (fun _ _ _=>False) e s'->False) :
  PySem.W.WalkO q loose XP YP l.row.toRowW d [] (fun f vs=>PySem.call f vs):=by
 refine Att.sW hn hdf fun w s₀ s₁ mg mb fa o pm cd doc a vs ns G Y ho hd Ij hmg hobj hints ur hg=>?_;have KX:=hY w _ Y;obtain⟨fd,hb,hF⟩:=F w mg fa _ KX G.T.g hmg;exact Bb KX G.T.g G.T.b G.T.builtins G.T.nolimit hg hobj hints (QT ur hn2) hr hF hb (fun H hO hS=>hsp w H a ns ur hO hS) fun H e s'=>hCX w H s₁ e s'
noncomputable def aN(s:Stmt):Arguments:=match s with
 |.FunctionDef _ a _ _ _ _ _ _ _ _=>a
 |_=>{ posonlyargs:=[],args:=[],vararg:=none,kwonlyargs:=[],kw_defaults:=[],kwarg:=none,defaults:=[] }
noncomputable def aK(s:Stmt):List Stmt:=match s with
 |.FunctionDef _ _ b _ _ _ _ _ _ _=>b
 |_=>[]
noncomputable def ai(s:Stmt):Scope:=match s with
 |.FunctionDef _ _ _ _ _ _ sc _ _ _=>sc
 |_=>{ kind:=.function,names:=[],isGenerator:=false,isCoroutine:=false }
noncomputable abbrev CX0:CXT:=fun _ _ _ _ _ _=>False
noncomputable abbrev E0:XK:=fun _ _ _=>False
theorem sX{X:Cx}:Passes CX0 X E0:=fun _ _ _ _ _ _ _ h=>h.elim
structure Fun(K:Dk)(x qual:Str)(st:Stmt)(f:Addr)(fd:FuncData):Prop where
 ex:∃(oc:Value) (od:Option Addr) (kV doc pm:Value) (an:Option Addr) (cdv ct:Value) (osl:Array (Option Value)),
  fd=QY x qual (aN st) (aK st) (ai st) .none kV doc pm an cdv ct/\K.lookup f=some ⟨oc,od,.func fd,osl⟩/\Sa K cdv qual=true
 kp:Rw K (.ref f)=true
section
variable{P:Program}{w:World}{K:Dk}{mg:Str->Option Value}{base:Heap}
section
variable{x qual:Str}{st:Stmt}{fd:FuncData}{f:Addr}
theorem Fun.ok{N ps:List Str}{k:Nat}{sp:Sp}(F:Fun K x qual st f fd)(S:aB N ps (ai st))(len:∀vs H Q E,sp vs H Q E->vs.length=ps.length)
  (hbody:∀ (cdv:Value) (A:Around) (outer:List Env) (s:Shared) (H:Hp) (vs:List V) (Q:VK) (E:XK),bg k (A.deeper (envOfC qual (ai st) s.heap.objs.size f cdv))→sp vs H Q E →
   ∃t,PSs (sO CX0 P w K mg base N qual (ai st) f cdv A outer s H E).nox (aK st) t/\t { nx:=fun _ H'=>Q .non H',rt:=Q } (start N vs) H):aW P w K mg base CX0 (k+1) f fd ps sp:=by
 obtain⟨oc,od,kV,doc,pm,an,cdv,ct,osl,rfl,lk,Ij⟩:=F.ex;refine HH lk Ij S len fun A outer s H vs Q E hr hsp=>?_;obtain⟨t,h,q⟩:=hbody cdv A outer s H vs Q E hr hsp;exact⟨t,h.nox,q⟩
theorem Fun.binds{ps:List Str}(F:Fun K x qual st f fd)
  (h:∀(kV doc pm:Value) (an:Option Addr) (cdv ct:Value) (us:List Value),us.length=ps.length->bindArgs (QY x qual (aN st) (aK st) (ai st) .none kV doc pm an cdv ct) ⟨us,[]⟩=pure (ps.zip us)):Binds K fd ps []:=by
 obtain⟨oc,od,kV,doc,pm,an,cdv,ct,osl,rfl,lk,Ij⟩:=F.ex;exact .all (h kV doc pm an cdv ct)
theorem JK{oc:Value}{od an:Option Addr}{osl:Array (Option Value)}{kV doc pm cdv ct:Value}(l:K.lookup f=some ⟨oc,od,.func (QY x qual (aN st) (aK st) (ai st) .none kV doc pm an cdv ct),osl⟩)
  (c:Sa K cdv qual=true) (k:Rw K (.ref f)=true):Fun K x qual st f (QY x qual (aN st) (aK st) (ai st) .none kV doc pm an cdv ct):=⟨⟨oc,od,kV,doc,pm,an,cdv,ct,osl,rfl,l,c⟩,k⟩
end
end
def ak(H H':Hp):Prop:=∀b o,H b=some o->H' b=some o
theorem ak.refl(H:Hp):ak H H:=fun _ _ h=>h
theorem ak.trans{H H1 H2:Hp}(a:ak H H1)(b:ak H1 H2):ak H H2:=fun c o h=>b c o (a c o h)
theorem ak.free{H H':Hp}(e:ak H H'){l:Addr}(h:H' l=Option.none):H l=Option.none:=by
 cases q:H l with
 |none=>rfl
 |some o=>rw[e l o q]at h;cases h
section
variable{κ:Type}[DecidableEq κ]
section
variable{u:Option Value}{o:Option V}{y:V}
noncomputable def ia(kvs:List (κ×V))(k:κ):Option V:=(kvs.find? fun kv=>decide (kv.1=k)).map (·.2)
noncomputable def putK(kvs:List (κ×V))(k:κ)(v:V):List (κ×V):=
 if (kvs.any fun kv=>decide (kv.1=k))=true then kvs.map (fun kv=>if kv.1=k then (kv.1,v) else kv) else kvs++[(k,v)]
noncomputable def kX(kvs:List (κ×V))(k:κ):List (κ×V):=kvs.filter fun kv=>decide (kv.1≠k)
theorem ju{p:κ×V}{r:List (κ×V)}{k:κ}(e:p.1=k):ia (p::r) k=some p.2:=by simp[ia,RI,e]
theorem jv{p:κ×V}{r:List (κ×V)}{k:κ}(e:¬p.1=k):ia (p::r) k=ia r k:=by simp[ia,RI,e]
theorem mz(k:κ):∀kvs:List (κ×V),(kvs.any fun kv=>decide (kv.1=k))=(ia kvs k).isSome
 |[]=>rfl
 |p::r=>by
  rw[R6];by_cases e:p.1=k
  ·simp only[ju e,decide_eq_true e,Bool.true_or,Option.isSome_some]
  ·rw[jv e,decide_eq_false e,Bool.false_or];exact mz k r
theorem f9(kvs:List (κ×V))(k:κ)(v:V):(putK kvs k v).length<=kvs.length+1:=by
 unfold putK;split
 ·rw[gc];lia
 ·rw[Qv,QO,SI];lia
theorem jj.dw(r:jj o u):o.isSome=u.isSome:=by
 cases o with
 |none=>cases u with
  |none=>rfl
  |some _=>exact(show False from r).elim
 |some _=>cases u with
  |none=>exact(show False from r).elim
  |some _=>rfl
theorem jj.getD{d:V}{d':Value}(r:jj o u)(rd:RelV d d'):RelV (o.getD d) (u.getD d'):=by
 cases o with
 |none=>cases u with
  |none=>exact rd
  |some _=>exact(show False from r).elim
 |some _=>cases u with
  |none=>exact(show False from r).elim
  |some _=>exact r
theorem KV.val{kvs:List (κ×V)}{vs:List (κ×Value)}(r:KV kvs vs)(k:κ):jj (ia kvs k) (valueAt vs k):=by
 unfold KV at r
 induction r with
 |nil=>exact RP
 |@cons p q ps qs h t ih=>
  obtain⟨h1,h2⟩:=h;by_cases e:p.1=k
  ·have e':q.1=k:=h1.symm.trans e;have b:valueAt (q::qs) k=some q.2:=by simp[valueAt,RI,e']
   rw[ju e,b];exact h2
  ·have e':¬q.1=k:=fun z=>e (h1.trans z);have b:valueAt (q::qs) k=valueAt qs k:=by simp[valueAt,RI,e']
   rw[jv e,b];exact ih
theorem KV.any{kvs:List (κ×V)}{vs:List (κ×Value)}(r:KV kvs vs)(k:κ):(kvs.any fun kv=>decide (kv.1=k))=vs.any fun kv=>decide (kv.1=k):=by
 unfold KV at r
 induction r with
 |nil=>rfl
 |cons h t ih=>rw[R6,R6,ih,h.1]
theorem KV.repl{kvs:List (κ×V)}{vs:List (κ×Value)}(r:KV kvs vs)(k:κ){u:Value}(ry:RelV y u) :
  KV (kvs.map fun kv=>if kv.1=k then (kv.1,y) else kv) (vs.map fun kv=>if kv.1=k then (kv.1,u) else kv):=by
 unfold KV at r ⊢
 induction r with
 |nil=>exact .nil
 |@cons p q ps qs h t ih=>
  rw[gp,gp];refine .cons ?_ ih;obtain⟨h1,h2⟩:=h;by_cases e:p.1=k
  ·rw[if_pos e,if_pos (h1.symm.trans e)];exact⟨h1,ry⟩
  ·rw[if_neg e,if_neg (fun z=>e (h1.trans z))];exact⟨h1,h2⟩
theorem KV.put{kvs:List (κ×V)}{vs:List (κ×Value)}(r:KV kvs vs)(k:κ){u:Value}(ry:RelV y u):KV (putK kvs k y) (stored vs k u):=by
 unfold putK stored;rw[r.any k];by_cases e:(vs.any fun kv=>decide (kv.1=k))=true
 ·rw[if_pos e,if_pos e];exact r.repl k ry
 ·rw[if_neg e,if_neg e];exact Paired.snoc r ⟨rfl,ry⟩
theorem KV.drop{kvs:List (κ×V)}{vs:List (κ×Value)}(r:KV kvs vs)(k:κ):KV (kX kvs k) (without vs k):=by
 unfold KV at r ⊢;unfold kX without
 induction r with
 |nil=>exact .nil
 |@cons p q ps qs h t ih=>
  obtain⟨h1,h2⟩:=h;rw[TU,TU];by_cases e:p.1=k
  ·have a:¬decide (p.1≠k)=true:=by simp[e]
   have b:¬decide (q.1≠k)=true:=by simp[h1.symm.trans e]
   rw[if_neg a,if_neg b];exact ih
  ·have e':¬q.1=k:=fun z=>e (h1.trans z);have a:decide (p.1≠k)=true:=by simp[e]
   have b:decide (q.1≠k)=true:=by simp[e']
   rw[if_pos a,if_pos b];exact .cons ⟨h1,h2⟩ ih
theorem KV.length{kvs:List (κ×V)}{vs:List (κ×Value)}(r:KV kvs vs):kvs.length=vs.length:=Paired.length r
theorem Bc(kvs:List (κ×V))(k:κ):(kX kvs k).length<=kvs.length:=RB _ _
end
end
section
variable{xs:List (List Key×Addr×Value)}{kvs:List (List Key×V)}{u:Value}{P:Program}{w:World}{H:Hp}{y:V}
theorem kY{k:Key}(r:RelV (kV k) u):(aO P w).is k u=true:=by
 cases k with
 |inl i=>obtain⟨t,e⟩:=(show ∃t,u=Value.int i t from r);subst e;exact sF P w i t
 |inr x=>obtain⟨t,e⟩:=(show ∃t,u=TZ x t from r);subst e;exact sG P w x t
theorem pY:∀{ks:List Key} {us:List Value},Vals (ks.map kV) us->ItemsAre (aO P w) ks us
 |[],_,r=>by rw[SQ]at r;cases r;exact .nil
 |k::ks,_,r=>by
  rw[gp]at r;cases r with
  |cons h t=>exact .cons (kY h) (pY t)
noncomputable abbrev KT(H:Hp):List (List Key×V)->List (List Key×Addr×Value)->Prop:=Paired fun p q=>p.1=q.1/\H q.2.1=some (.tup (p.1.map kV))/\RelV p.2 q.2.2
theorem KT.val(r:KT H kvs xs)(k:List Key):jj (ia kvs k) ((atKey xs k).map (·.2)):=by
 induction r with
 |nil=>exact RP
 |@cons p q ps qs h t ih=>
  obtain⟨h1,_,h2⟩:=h;by_cases e:p.1=k
  ·have e':q.1=k:=h1.symm.trans e;have b:atKey (q::qs) k=some q.2:=by simp[atKey,RI,e']
   rw[ju e,b];exact h2
  ·have e':¬q.1=k:=fun z=>e (h1.trans z);have b:atKey (q::qs) k=atKey qs k:=by simp[atKey,RI,e']
   rw[jv e,b];exact ih
theorem KT.repl(r:KT H kvs xs)(k:List Key)(ry:RelV y u) :
  KT H (kvs.map fun kv=>if kv.1=k then (kv.1,y) else kv) (xs.map (putAt k u)):=by
 induction r with
 |nil=>exact .nil
 |@cons p q ps qs h t ih=>
  rw[gp,gp];refine .cons ?_ ih;obtain⟨h1,h2,h3⟩:=h;unfold putAt;by_cases e:p.1=k
  ·rw[if_pos e,if_pos (h1.symm.trans e)];exact⟨h1,h2,ry⟩
  ·rw[if_neg e,if_neg (fun z=>e (h1.trans z))];exact⟨h1,h2,h3⟩
theorem KT.put(r:KT H kvs xs)(k:List Key){b:Addr}(hb:H b=some (.tup (k.map kV)))(ry:RelV y u) :
  KT H (putK kvs k y) (storedH xs k b u):=by
 have e:(kvs.any fun kv=>decide (kv.1=k))=(atKey xs k).isSome:=by rw[mz,(r.val k).dw,R7]
 unfold putK storedH;rw[e];by_cases q:(atKey xs k).isSome=true
 ·rw[if_pos q,if_pos q];exact r.repl k ry
 ·rw[if_neg q,if_neg q];exact Paired.snoc r ⟨rfl,hb,ry⟩
theorem KT.keeps{H H':Hp}(r:KT H kvs xs)(ht:∀b ys,H b=some (.tup ys)->H' b=some (.tup ys)):KT H' kvs xs:=
 Paired.Jc r fun _ _ z=>⟨z.1,ht _ _ z.2.1,z.2.2⟩
end
section
variable{P:Program}{w:World}{H:Hp}{h:Heap}{a:Addr}
section
variable{kvs:List (List Key×V)}{ts:List Addr}
theorem HJ{u:HO}(ok:HOk P w H h)(e:Rd H a u):aQ P w H h a u:=e.ok ok
theorem kZ{kvs:List (Key×V)}(ok:HOk P w H h)(e:Rd H a (.dK kvs)):kvs.length<=sizeLine/\(a == sysModules)=false/\∃vs,KV kvs vs/\h.DictOf (aO P w) a vs:=
 show aQ P w H h a (.dK kvs) from HJ ok e
theorem yf{kvs:List (Key×V)}(ok:HOk P w H h)(e:H a=some (.dK kvs)):kvs.length<=sizeLine/\(a == sysModules)=false/\∃vs,KV kvs vs/\h.DictOf (aO P w) a vs:=kZ ok (.inl e)
theorem jZ{ks:List Key}(ok:HOk P w H h)(e:H a=some (.tup (ks.map kV))):(tupleKind (aO P w)).is h ks a:=by
 obtain⟨_,its,r,o,h1,h2,n,h3⟩:=(show aQ P w H h a (.tup (ks.map kV)) from ok a _ e)
 exact⟨o,its.toArray,n,h1,h2,h3,by simpa using pY r⟩
theorem mC(ok:HOk P w H h)(e:Rd H a (.dT kvs ts)):kvs.length<=sizeLine/\(a == sysModules)=false /\
  ∃xs,KT H kvs xs/\h.DictOfH (tupleKind (aO P w)) a xs:=by
 obtain⟨z,y,xs,r,o,es,ep,h1,h2,h3,h4,h5,_⟩:=(show aQ P w H h a (.dT kvs ts) from HJ ok e)
 refine⟨z,y,xs,r,o,es,ep,h1,h2,h3,h4,fun x hx=>?_,h5⟩;have all:∀{l:List (List Key×V)} {m:List (List Key×Addr×Value)},KT H l m->∀x∈m,(tupleKind (aO P w)).is h x.1 x.2.1:=by
  intro l m q
  induction q with
  |nil=>intro x hx;exact nomatch hx
  |@cons p q ps qs hq t ih=>
   intro x hx;rcases Qw.mp hx with e | hx
   ·subst e;exact jZ ok (by rw[<- hq.1];exact hq.2.1)
   ·exact ih x hx
 exact all r x hx
theorem MC(ok:HOk P w H h)(e:H a=some (.dT kvs ts)):kvs.length<=sizeLine/\(a == sysModules)=false /\
  ∃xs,KT H kvs xs/\h.DictOfH (tupleKind (aO P w)) a xs:=mC ok (.inl e)
end
end
section
variable{kvs:List (Key×V)}{a:Addr}{H:Hp}
noncomputable def JL(kvs:List (List Key×V))(ts:List Addr)(k:List Key)(b:Addr):List Addr:=if (kvs.any fun kv=>decide (kv.1=k))=true then ts else ts++[b]
theorem sY{kvs:List (List Key×V)}{xs:List (List Key×Addr×Value)}(r:KT H kvs xs)(k:List Key)(b:Addr)(u:Value):(storedH xs k b u).map (·.2.1)=JL kvs (xs.map (·.2.1)) k b:=by
 have e:(kvs.any fun kv=>decide (kv.1=k))=(atKey xs k).isSome:=by rw[mz,(r.val k).dw,R7]
 unfold storedH JL;rw[e];by_cases q:(atKey xs k).isSome=true
 ·rw[if_pos q,if_pos q,Rk];refine Tf fun x _=>?_;show (putAt k u x).2.1=x.2.1;unfold putAt;split<;>rfl
 ·rw[if_neg q,if_neg q,QK];rfl
theorem JM{P:Program}{w:World}{h:Heap}{xs xs2:List (List Key×Addr×Value)}{ts:List Addr}{o:Obj}{es:Array DictEntry}{ep:Nat}(d:h.DictOfH (tupleKind (aO P w)) a xs)(g1:h.get? a=some o)(g3:o.data=.dict es ep)
  (g4:es.toList=xs2.map (entryOfKey (tupleKind (aO P w)))) (g6:xs2.map (·.2.1)=ts):xs.map (·.2.1)=ts:=by
 obtain⟨o1,es1,ep1,h1,h2,h3,h4,_⟩:=d;rw[g1]at h1;cases h1;rw[g3]at h3;cases h3;rw[g4]at h4;have key:∀l:List (List Key×Addr×Value),(l.map (entryOfKey (tupleKind (aO P w)))).map (·.key)=(l.map (·.2.1)).map Rq:=fun l=>by rw[Rk,Rk];rfl
 have:=congrArg (List.map (·.key)) h4;rw[key,key,g6]at this;exact(List.map_inj_right (fun a b e=>Rq.inj e)).mp this.symm
def fX(H:Hp)(a:Addr)(y:V)(r:Option V):Prop:=
 (∃kvs k,Rd H a (.dK kvs)/\y=kV k/\r=ia kvs k)\/∃kvs k b ts,Rd H a (.dT kvs ts)/\y=.ref b/\H b=some (.tup (k.map kV))/\r=ia kvs k
def Bd(H:Hp)(a:Addr)(y v:V)(H':Hp):Prop:=
 (∃kvs k,H a=some (.dK kvs)/\y=kV k/\kvs.length<sizeLine/\H'=upd H a (.dK (putK kvs k v))) \/
 ∃kvs k b ts,H a=some (.dT kvs ts)/\y=.ref b/\H b=some (.tup (k.map kV))/\kvs.length<sizeLine/\H'=upd H a (.dT (putK kvs k v) (JL kvs ts k b))
theorem fX.k{k:Key}(e:H a=some (.dK kvs)):fX H a (kV k) (ia kvs k):=.inl ⟨kvs,k,.inl e,rfl,rfl⟩
theorem Bd.k{k:Key}{v:V}(e:H a=some (.dK kvs))(hl:kvs.length<sizeLine):Bd H a (kV k) v (upd H a (.dK (putK kvs k v))):=.inl ⟨kvs,k,e,rfl,hl,rfl⟩
end
section
variable{X:Cx}{kC:List (Addr×Obj)}{σ:St}{H:Hp}{s:Shared}{a:Addr}{y v:V}{u r:Value}{o:Option V}{A:Around}{E:Value->Shared->Prop}
section
variable{Q:Value->Shared->Prop}{h':Heap}
theorem Inv.big(I:Inv X kC σ H s):sysModules<s.heap.objs.size:=by have h:mainGlobals<s.heap.objs.size:=(I.mod.glob.keeps I.bk).lt;exact TV (by decide) h
theorem zR(hu:A.units+1<cLine)(I:Inv X kC σ H s)(g:fX H a y (some v))(ry:RelV y u)(h:∀w' s',Inv X kC σ H s'->RelV v w'->Q w' s') :
  wpAny (model X.prog X.w) A (getItem (.ref a) u) Q E s:=by
 rcases g with⟨kvs,k,e,ey,l⟩ | ⟨kvs,k,b,ts,e,ey,eb,l⟩
 ·subst ey;obtain⟨z,hd,vs,rel,dd⟩:=kZ I.hok e;obtain⟨w',hw,rw'⟩:=jj.some_of (v:=v) (o:=valueAt vs k) (by rw[l];exact rel.val k);exact wpAny_getItem_of (kY ry) dd.mapOf hw (h w' _ (I.tok _) rw')
 ·subst ey;cases (show u=Rq b from ry);obtain⟨z,hd,xs,rel,dd⟩:=mC I.hok e;obtain⟨w',hw,rw'⟩:=jj.some_of (v:=v) (o:=(atKey xs k).map (·.2)) (by rw[l];exact rel.val k);obtain⟨p,hp,hp2⟩:=Option.map_eq_some_iff.mp hw;refine wpAny_getItem_heap (tupleKind_room_in1 hu) (jZ I.hok eb) dd hp ?_;rw[hp2];exact h w' _ (I.tok _) rw'
theorem sZ(hu:A.units+1<cLine)(I:Inv X kC σ H s)(g:fX H a y o)(ry:RelV y u)(h:∀s',Inv X kC σ H s'->Q (.bool o.isSome) s') :
  wpAny (model X.prog X.w) A (compareOp .In u (.ref a)) Q E s:=by
 rcases g with⟨kvs,k,e,ey,l⟩ | ⟨kvs,k,b,ts,e,ey,eb,l⟩
 ·subst ey;obtain⟨z,hd,vs,rel,dd⟩:=kZ I.hok e;refine wpAny_in_of (kY ry) hd dd.mapOf ?_;rw[<- (rel.val k).dw,<- l];exact h _ (I.tok _)
 ·subst ey;cases (show u=Rq b from ry);obtain⟨z,hd,xs,rel,dd⟩:=mC I.hok e;refine wpAny_in_heap (tupleKind_room_in1 hu) (jZ I.hok eb) hd dd ?_;have q:=(rel.val k).dw;rw[R7]at q;rw[<- q,<- l];exact h _ (I.tok _)
theorem Ft(hu:A.units+1<cLine)(I:Inv X kC σ H s)(g:fX H a y o)(ry:RelV y u)(h:∀s',Inv X kC σ H s'->Q (.bool (!o.isSome)) s') :
  wpAny (model X.prog X.w) A (compareOp .NotIn u (.ref a)) Q E s:=by
 rcases g with⟨kvs,k,e,ey,l⟩ | ⟨kvs,k,b,ts,e,ey,eb,l⟩
 ·subst ey;obtain⟨z,hd,vs,rel,dd⟩:=kZ I.hok e;refine wpAny_notIn_of (kY ry) hd dd.mapOf ?_;rw[<- (rel.val k).dw,<- l];exact h _ (I.tok _)
 ·subst ey;cases (show u=Rq b from ry);obtain⟨z,hd,xs,rel,dd⟩:=mC I.hok e;refine wpAny_notIn_heap (tupleKind_room_in1 hu) (jZ I.hok eb) hd dd ?_;have q:=(rel.val k).dw;rw[R7]at q;rw[<- q,<- l];exact h _ (I.tok _)
theorem lT{t':Nat}{ob:HO}(I:Inv X kC σ H s)(mu:Mut (H a))(hs:Sy a s.heap h')(he:∃q,h'.get? a=some q)(new:aQ X.prog X.w (upd H a ob) h' a ob) :
  Inv X kC σ (upd H a ob) { s with heap:=h',toks:=t' }:=
 I.write (x:=a) (e:=a) mu (.inl rfl) (fun b q hb z=>(hs.2 b hb).trans z) he new
theorem qQ{P:Program}{w:World}{H':Hp}{kvs:List (Key×V)}{vs:List (Key×Value)}(z:kvs.length<=sizeLine)(hd:(a == sysModules)=false)(rel:KV kvs vs)(dd:h'.DictOf (aO P w) a vs) :
  aQ P w H' h' a (.dK kvs):=⟨z,hd,vs,rel,dd⟩
theorem zS{H':Hp}{Q:Unit->Shared->Prop}(hu:A.units+1<cLine)(I:Inv X kC σ H s)(g:Bd H a y v H')(ry:RelV y u)(rv:RelV v r)(h:∀s',Inv X kC σ H' s'->Q () s') :
  wpAny (model X.prog X.w) A (setItem (.ref a) u r) Q E s:=by
 rcases g with⟨kvs,k,e,ey,l,eH⟩ | ⟨kvs,k,b,ts,e,ey,eb,l,eH⟩
 ·subst ey eH;obtain⟨z,hd,vs,rel,dd⟩:=yf I.hok e;have hz:vs.length<=sizeLine:=by rw[<- rel.length];exact z
  have hl:(putK kvs k v).length<=sizeLine:=by have:=f9 kvs k v;lia
  refine wpAny_setItem_pairs (hsz:=hz) (kY ry) dd fun h' dd' hs=>h _ ?_;have he:∃q,h'.get? a=some q:=let ⟨q,_,_,hq,_⟩:=dd';⟨q,hq⟩
  exact lT I (by rw[e];exact RP) hs he (qQ hl hd (rel.put k rv) dd')
 ·subst ey eH;cases (show u=Rq b from ry);obtain⟨z,hd,xs,rel,dd⟩:=MC I.hok e;have hz:xs.length<=sizeLine:=by rw[<- Paired.length rel];exact z
  have hl:(putK kvs k v).length<=sizeLine:=by have:=f9 kvs k v;lia
  refine wpAny_setItem_heap (hsz:=hz) (tupleKind_room_in1 hu) (jZ I.hok eb) dd fun h' dd' hs=>h _ ?_;obtain⟨q,es,ep,hq,h2,h3,h4,_,h5⟩:=dd';refine lT I (by rw[e];exact RP) hs ⟨q,hq⟩ ⟨hl,hd,_,(rel.put k eb rv).keeps fun c ys ec=>?_,q,es,ep,hq,h2,h3,h4,h5,?_⟩
  ·rw[aA (Mk ec e (fun z=>nomatch z))];exact ec
  ·have hts:xs.map (·.2.1)=ts:=by
    obtain⟨_,_,xs2,_,o2,es2,ep2,g1,g2,g3,g4,g5,g6⟩:=(show aQ X.prog X.w H s.heap a (.dT kvs ts) from I.hok a _ e)
    exact JM dd g1 g3 g4 g6
   rw[<- hts];exact sY rel k b r
end
end
section
variable{X:Cx}{kC:List (Addr×Obj)}{σ:St}{H:Hp}{s:Shared}{a:Addr}{kvs:List (Key×V)}{k:Key}{u:Value}{A:Around}{E:Value->Shared->Prop}
theorem MD{v:V}{more:List Value}{Q:Value->Shared->Prop}(I:Inv X kC σ H s)(e:H a=some (.dK kvs))(ry:RelV (kV k) u)(l:ia kvs k=some v)(hm:more=[]\/∃x,more=[x])
  (h:∀w' s',Inv X kC σ (upd H a (.dK (kX kvs k))) s'->RelV v w'->Q w' s'):wpAny (model X.prog X.w) A (call (.builtin "dict.pop") (.ref a::u::more)) Q E s:=by
 obtain⟨z,hd,vs,rel,dd⟩:=yf I.hok e;obtain⟨w',hw,rw'⟩:=jj.some_of (v:=v) (o:=valueAt vs k) (by rw[<- l];exact rel.val k);have hp:(keyPart u).isSome=true:=by
  cases k with
  |inl i=>obtain⟨t,q⟩:=(show ∃t,u=Value.int i t from ry);subst q;rfl
  |inr x=>obtain⟨t,q⟩:=(show ∃t,u=TZ x t from ry);subst q;rfl
 have ha:argsOk "dict.pop" ⟨.ref a::u::more,[]⟩:=by
  rcases hm with q | ⟨x,q⟩
  ·subst q;exact PySem.F.args_dict_pop_2 _ _
  ·subst q;exact PySem.F.args_dict_pop_3 _ _ _
 refine call_meetsIn PySem.F.slot_dict_pop dd.typeIs PySem.F.entry_dict_pop ha (meets_dict_pop_there (aO X.prog X.w) a (kY ry) more hm hp)
  ⟨vs,w',dd,by rw[<- rel.length];exact z,hw,fun h' dd' hs=>h w' _ ?_ rw'⟩
 have he:∃q,h'.get? a=some q:=let ⟨q,_,_,hq,_⟩:=dd';⟨q,hq⟩
 exact lT I (by rw[e];exact RP) hs he (qQ (QT (Bc kvs k) z) hd (rel.drop k) dd')
end
def JN(i:Expr):Prop:=∀ov iv,subscripted i false ov iv=operate [ov,iv] (getItem ov iv)
theorem Fv{prog:Program}{w:World}{A:Around}{E:Value->Shared->Prop}{s:Shared}{env:Env}{value slice:Expr}{pos:Pos}{T id:String}{Q:Value->Shared->Prop}
  (hl:typeLookup (.type T) "__getitem__" = pure (some (.builtin id))) (hs:JN slice)
  (h:wpAny (model prog w) A (eval value env) (fun o s₁=>wpAny (model prog w) A (eval slice env) (fun i s₂=>s₂.TypeIs o T/\wpAny (model prog w) A (getItem o i) Q E s₂) E s₁) E s) :
  wpAny (model prog w) A (eval (.Subscript value slice pos) env) Q E s:=by
 refine Subscript_ (wpAny_mono h (fun o s₁ h₁=>wpAny_mono h₁ (fun i s₂ h₂=>?_) fun _ _ x=>x) fun _ _ x=>x);obtain⟨hT,h₂⟩:=h₂;unfold subscriptTail;refine wpAny_bind ?_;rw[getitemInPython_of_ne hT.not_modules];refine wpAny_bind (wpAny_specialOf hT hl ?_);have CY:wpAny (model prog w) A (subscripted slice false o i) (fun r s₃=>wpAny (model prog w) A (letTemporaryGo value o r >>= fun _=>pure r) Q E s₃) E s₂:=by rw[hs o i];exact wpAny_operating (wpAny_mono h₂ (fun r s₃ h₃=>wpAny_bind (wpAny_letTemporaryGo (wpAny_pure h₃))) fun _ _ x=>x)
 first
  |exact wpAny_pure (wpAny_bind CY)
  |exact wpAny_bind (wpAny_pure (wpAny_bind CY))
  |exact wpAny_bind CY
theorem s_{X:Cx}{kC:List (Addr×Obj)}{σ:St}{H:Hp}{s:Shared}{a:Addr}{y:V}{o:Option V}(I:Inv X kC σ H s)(g:fX H a y o):s.TypeIs (.ref a) "dict" := by
 rcases g with⟨kvs,k,e,_,_⟩ | ⟨kvs,k,b,ts,e,_,_,_⟩
 ·obtain⟨_,_,vs,_,dd⟩:=kZ I.hok e;exact dd.typeIs
 ·obtain⟨_,_,xs,_,dd⟩:=mC I.hok e;exact dd.typeIs
def ME(td ty:TE):TE:=fun σ H Q=>td σ H fun x H1=>ty σ H1 fun y H2=>∃a v,x=.ref a/\fX H2 a y (some v)/\Q v H2
def O8(ty td:TE):TE:=fun σ H Q=>ty σ H fun y H1=>td σ H1 fun x H2=>∃a o,x=.ref a/\fX H2 a y o/\Q (.bl o.isSome) H2
def Fw(ty td:TE):TE:=fun σ H Q=>ty σ H fun y H1=>td σ H1 fun x H2=>∃a o,x=.ref a/\fX H2 a y o/\Q (.bl (!o.isSome)) H2
def HK(td ty tv:TE):TS:=fun D σ H=>tv σ H fun v H1=>td σ H1 fun x H2=>ty σ H2 fun y H3=>∃a H4,x=.ref a/\Bd H3 a y v H4/\D.nx σ H4
section
variable{X:Cx}{o i e value:Expr}{pos pos' tpos:Pos}{td ty tv:TE}
theorem Fx(hu:X.A.units+1<cLine)(ho:PE X o td)(hi:PE X i ty)(hs:JN i):PE X (.Subscript o i pos) (ME td ty):=by intro kC s σ H Q I h;refine Fv PySem.F.slot_dict_getitem.lookup hs (thn (ho kC s σ H _ I h) fun u s1 ⟨x,H1,I1,rx,q1⟩=>thn (hi kC s1 σ H1 _ I1 q1) fun iv s2 ⟨y,H2,I2,ry,a,v,ex,g,q2⟩=>?_);subst ex;obtain rfl:u=Rq a:=rx;exact⟨s_ I2 g,zR hu I2 g ry fun w' s3 I3 rw'=>⟨v,H2,I3,rw',q2⟩⟩
theorem JO(hu:X.A.units+1<cLine)(hi:PE X i ty)(ho:PE X o td):PC X .In i o (O8 ty td):=by intro kC s σ H Q I h;refine thn (hi kC s σ H _ I h) fun iv s1 ⟨y,H1,I1,ry,q1⟩=>thn (ho kC s1 σ H1 _ I1 q1) fun u s2 ⟨x,H2,I2,rx,a,ov,ex,g,q2⟩=>?_;subst ex;obtain rfl:u=Rq a:=rx;exact sZ hu I2 g ry fun s3 I3=>⟨.bl ov.isSome,H2,I3,rfl,q2⟩
theorem zT(hu:X.A.units+1<cLine)(hi:PE X i ty)(ho:PE X o td):PC X .NotIn i o (Fw ty td):=by intro kC s σ H Q I h;refine thn (hi kC s σ H _ I h) fun iv s1 ⟨y,H1,I1,ry,q1⟩=>thn (ho kC s1 σ H1 _ I1 q1) fun u s2 ⟨x,H2,I2,rx,a,ov,ex,g,q2⟩=>?_;subst ex;obtain rfl:u=Rq a:=rx;exact Ft hu I2 g ry fun s3 I3=>⟨.bl (!ov.isSome),H2,I3,rfl,q2⟩
theorem Fy(hu:X.A.units+1<cLine)(ho:PE X o td)(hi:PE X i ty)(hv:PE X value tv)(hs:swapsWith value (some (.Subscript o i pos')) pos.line X.env=pure false) :
  PS X (.Assign [.Subscript o i pos'] value pos) (HK td ty tv):=by
 intro kC s σ H D I h;refine wpAny_Assign_Subscript (thn (hv kC s σ H _ I h) fun r s1 ⟨v,H1,I1,rv,q1⟩=>thn (ho kC s1 σ H1 _ I1 q1) fun u s2 ⟨x,H2,I2,rx,q2⟩=>thn (hi kC s2 σ H2 _ I2 q2) fun iv s3 ⟨y,H3,I3,ry,a,H4,ex,g,q3⟩=>?_) hs;subst ex;obtain rfl:u=Rq a:=rx;exact zS hu I3 g ry rv fun s4 I4=>⟨σ,H4,I4,q3⟩
end
theorem tu{P:Program}{w:World}{H:Hp}(h:Heap)(hb:sysModules<h.objs.size):aQ P w H (h.push { cls:=.type "dict",data:=.dict #[] }) h.objs.size (.dK []):=
 ⟨Q4 _,beq_eq_false_iff_ne.mpr (Ne.symm (QX hb)),[],.nil,Heap.DictOf.new h⟩
def Be:TE:=fun _ H Q=>∀p,H p=none->Q (.ref p) (upd H p (.dK []))
section
variable{X:Cx}{pos:Pos}
theorem Bf:PE X (.Dict [] [] pos) Be:=fun kC s σ H Q I h=>wpAny_Dict_empty ⟨.ref s.heap.objs.size,_,I.laid (a:=s.heap.objs.size) (o:=.dK []) (t':=s.toks) (fun _ _ q=>PU _ q) (Pz _) (tu s.heap I.big),rfl,h _ (I.hok.fresh (Pz _))⟩
end
section
variable{trs:List (TE×TE)}{pos:Pos}{X:Cx}
def vY:List (TE×TE)->St->Hp->(List (V×V)->Hp->Prop)->Prop
 |[],_,H,Q=>Q [] H
 |(tk,tv)::r,σ,H,Q=>tk σ H fun x H1=>tv σ H1 fun y H2=>vY r σ H2 fun ps H3=>Q ((x,y)::ps) H3
noncomputable abbrev VV:List (V×V)->List (Value×Value)->Prop:=Paired fun p q=>RelV p.1 q.1/\RelV p.2 q.2
def PPs(X:Cx)(pos:Pos)(keys:List (Option Expr))(values:List Expr)(trs:List (TE×TE)):Prop:=
 ∀(kC:List (Addr×Obj)) (s:Shared) (σ:St) (H:Hp) (Q:List (V×V)->Hp->Prop),Inv X kC σ H s->vY trs σ H Q ->
  wpAny (model X.prog X.w) X.A (evalPairs (pairTrees keys values X.env pos)) (fun vs s'=>∃ps H',Inv X kC σ H' s'/\VV ps vs/\Q ps H') X.xe s
theorem Fz:PPs X pos [] [] []:=fun kC s σ H Q I h=>pairTrees_nil_walk ⟨[],H,I,.nil,h⟩
theorem Bg{k v:Expr}{ks:List (Option Expr)}{vs:List Expr}{tk tv:TE}(hk:PE X k tk)(hv:PE X v tv)(hr:PPs X pos ks vs trs) :
  PPs X pos (some k::ks) (v::vs) ((tk,tv)::trs):=fun kC s σ H Q I h=>
 pairTrees_cons_walk (thn (hk kC s σ H _ I h) fun u s1 ⟨x,H1,I1,rx,q1⟩=>thn (hv kC s1 σ H1 _ I1 q1) fun w2 s2 ⟨y,H2,I2,ry,q2⟩=>thn (hr kC s2 σ H2 _ I2 q2) fun ws s3 ⟨ps,H3,I3,rel,q3⟩=>⟨(x,y)::ps,H3,I3,.cons ⟨rx,ry⟩ rel,q3⟩)
noncomputable def j3(kvs more:List (Key×V)):List (Key×V):=more.foldl (fun pI kv=>putK pI kv.1 kv.2) kvs
theorem KV.merge:∀{more:List (Key×V)} {rs:List (Key×Value)} {kvs:List (Key×V)} {vs:List (Key×Value)},KV more rs->KV kvs vs->KV (j3 kvs more) (merged vs rs):=by
 intro more rs kvs vs r;unfold KV at r
 induction r generalizing kvs vs with
 |nil=>intro q;exact q
 |@cons p q ps qs h t ih=>
  intro r0;have e:KV (putK kvs p.1 p.2) (stored vs q.1 q.2):=by have:=r0.put p.1 h.2;rw[<- h.1];exact this
  exact ih e
theorem gX:∀(more kvs:List (Key×V)),(j3 kvs more).length<=kvs.length+more.length
 |[],kvs=>by show kvs.length<=kvs.length+0;lia
 |p::r,kvs=>by have h1:=gX r (putK kvs p.1 p.2);have h2:=f9 kvs p.1 p.2;show (j3 (putK kvs p.1 p.2) r).length<=_;rw[QO];lia
theorem mD{P:Program}{w:World}:∀{kvs:List (Key×V)} {ws:List (Value×Value)},VV (kvs.map fun kv=>(kV kv.1,kv.2)) ws->∃rs,Carries (aO P w) ws rs/\KV kvs rs
 |[],_,r=>by rw[SQ]at r;cases r;exact⟨[],RP,.nil⟩
 |p::kvs,_,r=>by
  rw[gp]at r;cases r with
  |@cons a b as bs h t=>obtain⟨rs,c,q⟩:=mD (P:=P) (w:=w) t;obtain⟨b1,b2⟩:=b;exact⟨(p.1,b2)::rs,⟨kY h.1,rfl,c⟩,.cons ⟨rfl,h.2⟩ q⟩
def HL(trs:List (TE×TE)):TE:=fun σ H Q=>∀p,H p=none->vY trs σ (upd H p (.dK [])) fun ps H2=>H2 p=some (.dK [])/\∃kvs:List (Key×V),ps=kvs.map (fun kv=>(kV kv.1,kv.2))/\kvs.length<=15/\Q (.ref p) (upd H2 p (.dK (j3 [] kvs)))
theorem FA{keys:List (Option Expr)}{values:List Expr}(h:PPs X pos keys values trs)(hall:keys.all (·.isSome)=true)(hl:keys.length=values.length)(h0:keys≠[])
  (h15:keys.length<=15):PE X (.Dict keys values pos) (HL trs):=by
 intro kC s σ H Q I q;have hn:=I.hok.fresh (Pz s.heap.objs.size);have I1:=I.laid (a:=s.heap.objs.size) (o:=.dK []) (h':=s.heap.push { cls:=.type "dict",data:=.dict #[] }) (t':=s.toks) (fun _ _ q=>PU _ q) (Pz _) (tu s.heap I.big);refine wpAny_Dict_walk (knd:=aO X.prog X.w) hall hl h0 h15 (thn (h kC _ σ _ _ I1 (q _ hn)) fun ws s2 ⟨ps,H2,I2,rel,e,kvs,ep,lk,q2⟩=>?_);subst ep;obtain⟨rs,c,rk⟩:=mD (P:=X.prog) (w:=X.w) rel;obtain⟨z,hd,vs0,r0,dd⟩:=yf I2.hok e;cases r0;refine⟨rs,c,dd,fun h' dd' hs=>⟨.ref s.heap.objs.size,_,?_,rfl,q2⟩⟩;have hz:(j3 [] kvs).length<=sizeLine:=by have h1:=gX kvs [];rw[SI]at h1;rw[sizeLine_eq];lia
 have he:∃q,h'.get? s.heap.objs.size=some q:=let ⟨q,_,_,hq,_⟩:=dd';⟨q,hq⟩
 exact lT I2 (by rw[e];exact RP) hs he (qQ hz hd (rk.merge .nil) dd')
structure M1(X:Cx)(o:Expr)(m:Str)(K8:Pos)(e:Expr)(cpos:Pos):Prop where
 base:attributeBase o m X.env (eval o X.env)=eval o X.env
 few:((backTo cpos (starEach [e] X.env)).all (fun x=>!x.1)&&(backToKw cpos (keywordEach [] X.env)).all (fun x=>x.1.isSome)
  && decide (([e]:List Expr).length+([]:List Keyword).length+(if ([]:List Keyword).isEmpty then 0 else 1)<30))=true
 line:(K8.endLine == cpos.line)=true
 trees:backTo cpos (starEach [e] X.env)=[(false,eval e X.env)]
def IsD(H:Hp)(a:Addr):Prop:=(∃kvs,Rd H a (.dK kvs))\/∃kvs ts,Rd H a (.dT kvs ts)
theorem Bh{kC:List (Addr×Obj)}{σ:St}{H:Hp}{s:Shared}{a:Addr}(I:Inv X kC σ H s)(d:IsD H a) :
  s.TypeIs (.ref a) "dict" /\ (∀b,Rq a=.ref b->∃ob,s.heap.get? b=some ob/\ob.dict=none)/\(a == sysModules)=false:=by
 rcases d with⟨kvs,e⟩ | ⟨kvs,ts,e⟩
 ·obtain⟨_,hd,vs,_,dd⟩:=kZ I.hok e;refine⟨dd.typeIs,fun b q=>?_,hd⟩;cases q;obtain⟨ob,_,_,h1,h2,_⟩:=dd;exact⟨ob,h1,h2.2.1⟩
 ·obtain⟨_,hd,xs,_,dd⟩:=mC I.hok e;refine⟨dd.typeIs,fun b q=>?_,hd⟩;cases q;obtain⟨ob,_,_,h1,h2,_⟩:=dd;exact⟨ob,h1,h2.2.1⟩
end
section
variable{X:Cx}{kC:List (Addr×Obj)}{σ:St}{H:Hp}{s:Shared}{a:Addr}{y d:V}{u r:Value}{o:Option V}{A:Around}{E:Value->Shared->Prop}
theorem JP{Q:Value->Shared->Prop}(hu:A.units+1<cLine)(I:Inv X kC σ H s)(g:fX H a y o)(ry:RelV y u)(h:∀w' s',Inv X kC σ H s'->RelV (o.getD .non) w'->Q w' s') :
  wpAny (model X.prog X.w) A (call (.builtin "dict.get") [.ref a,u]) Q E s:=by
 rcases g with⟨kvs,k,e,ey,l⟩ | ⟨kvs,k,b,ts,e,ey,eb,l⟩
 ·subst ey;obtain⟨z,hd,vs,rel,dd⟩:=kZ I.hok e;refine call_meetsIn S6 dd.typeIs PySem.F.entry_dict_get (PySem.F.args_dict_get_2 _ _) (meets_dict_get (aO X.prog X.w) a (kY ry) hd) ⟨_,dd.mapOf,h _ _ (I.tok _) ?_⟩;rw[l];exact(rel.val k).getD rfl
 ·subst ey;cases (show u=Rq b from ry);obtain⟨z,hd,xs,rel,dd⟩:=mC I.hok e;refine call_meetsIn S6 dd.typeIs PySem.F.entry_dict_get (PySem.F.args_dict_get_2 _ _) (meetsH_dict_get (tupleKind (aO X.prog X.w)) a b hd) ⟨tupleKind_room_in1 hu,k,xs,jZ I.hok eb,dd,h _ _ (I.tok _) ?_⟩;rw[l];exact(rel.val k).getD rfl
end
def Bj(td ty:TE):TE:=fun σ H Q=>td σ H fun x H1=>∃a,x=.ref a/\IsD H1 a/\ty σ H1 fun y H2=>∃o,fX H2 a y o/\Q (o.getD .non) H2
def Bk(td ty:TE):TE:=fun σ H Q=>td σ H fun x H1=>∃a,x=.ref a/\IsD H1 a/\ty σ H1 fun y H2=>∃kvs k v,H2 a=some (.dK kvs)/\y=kV k/\ia kvs k=some v/\Q v (upd H2 a (.dK (kX kvs k)))
section
variable{X:Cx}{o e f:Expr}{K8 cpos:Pos}{td ty tx:TE}
theorem Bl(hu:X.A.units+1<cLine)(ho:PE X o td)(he:PE X e ty)(m:M1 X o "get" K8 e cpos):PE X (.Call (.Attribute o "get" K8) [e] [] cpos) (Bj td ty):=by intro kC s σ H Q I h;refine wpAny_Call_method m.base m.few m.line PySem.F.plainAttrs_dict S6 PySem.F.type_dict_get (thn (ho kC s σ H _ I h) fun u s1 ⟨x,H1,I1,rx,a,ex,d,q1⟩=>?_);subst ex;obtain rfl:u=Rq a:=rx;obtain⟨t1,t2,_⟩:=Bh I1 d;refine⟨t1,t2,?_⟩;rw[m.trees];refine S1 rfl (S9 (Tp (thn (he kC s1 σ H1 _ I1 q1) fun iv s2 ⟨y,H2,I2,ry,ov,g,q2⟩=>TJ ?_)));exact JP hu I2 g ry fun w' s3 I3 rw'=>⟨_,H2,I3,rw',q2⟩
theorem Bm(ho:PE X o td)(he:PE X e ty)(m:M1 X o "pop" K8 e cpos):PE X (.Call (.Attribute o "pop" K8) [e] [] cpos) (Bk td ty):=by intro kC s σ H Q I h;refine wpAny_Call_method m.base m.few m.line PySem.F.plainAttrs_dict PySem.F.slot_dict_pop PySem.F.type_dict_pop (thn (ho kC s σ H _ I h) fun u s1 ⟨x,H1,I1,rx,a,ex,d,q1⟩=>?_);subst ex;obtain rfl:u=Rq a:=rx;obtain⟨t1,t2,_⟩:=Bh I1 d;refine⟨t1,t2,?_⟩;rw[m.trees];refine S1 rfl (S9 (Tp (thn (he kC s1 σ H1 _ I1 q1) fun iv s2 ⟨y,H2,I2,ry,kvs,k,v,ea,ey,l,q2⟩=>TJ ?_)));subst ey;exact MD I2 ea ry l (.inl rfl) fun w' s3 I3 rw'=>⟨v,_,I3,rw',q2⟩
end
section
variable{X:Cx}{kC:List (Addr×Obj)}{σ:St}{H:Hp}{s:Shared}{a:Addr}{kvs:List (Key×V)}{A:Around}{E:Value->Shared->Prop}
theorem Bo{Q:Value->Shared->Prop}(I:Inv X kC σ H s)(e:Rd H a (.dK kvs))(h:∀p s',H p=none->Inv X kC σ (upd H p (.dK kvs)) s'->Q (.ref p) s'):wpAny (model X.prog X.w) A (call (.type "dict") [.ref a]) Q E s:=by obtain⟨z,hd,vs,rel,dd⟩:=kZ I.hok e;refine kt_call_dict hd dd (by rw[<- rel.length];exact z) fun h' dd' hs=>?_;refine h _ _ (I.hok.fresh (Pz _)) (I.laid (a:=s.heap.objs.size) (o:=.dK kvs) (t':=s.toks) (fun b q hq=>?_) (Pz _) (qQ z (beq_eq_false_iff_ne.mpr (Ne.symm (QX I.big))) rel dd'));exact(hs.2 b (QX (QA hq))).trans (PU _ hq)
end
end L2
namespace Dm
inductive Dat where
 |non
 |bl (b:Bool)
 |int (i:Int)
 |str (s:List Nat)
 |tup (xs:List Dat)
 |lst (xs:List Dat)
 |dct (ks:List Int) (vs:List Dat)
 |dcp (ks:List (Int×Int)) (vs:List Dat)
 |exc (C:Nat)
 |bU (C:Nat) (v:Int)
 |fn (a:Nat)
deriving Inhabited
inductive Cell where
 |un
 |sh (d:Dat)
 |ow (d:Dat)
deriving Inhabited
noncomputable abbrev Env:=List Cell
inductive Val where
 |val (d:Dat)
 |slot (i:Nat)
 |new (d:Dat)
inductive RV where
 |val (d:Dat)
 |new (d:Dat)
noncomputable def RV.dat:RV->Dat
 |.val d=>d
 |.new d=>d
noncomputable def RV.a_:RV->Val
 |.val d=>.val d
 |.new d=>.new d
noncomputable def SZ:Nat:=100000
noncomputable def cj:Dat->Bool
 |.tup _=>true
 |.lst _=>true
 |.dct _ _=>true
 |.dcp _ _=>true
 |.exc _=>true
 |.bU _ _=>true
 |_=>false
noncomputable def pk(ρ:Env):Val->Option Dat
 |.val d=>some d
 |.new d=>some d
 |.slot i=>match ρ[i]? with
  |some (.ow d)=>some d
  |some (.sh d)=>some d
  |_=>none
noncomputable def tk(ρ:Env):Val->Option (Dat×Env)
 |.val d=>some (d,ρ)
 |.new d=>some (d,ρ)
 |.slot i=>match ρ[i]? with
  |some (.ow d)=>some (d,ρ.set i (.sh d))
  |some (.sh d)=>some (d,ρ)
  |_=>none
noncomputable def pks(ρ:Env):List Val->Option (List Dat)
 |[]=>some []
 |x::r=>match pk ρ x with
  |none=>none
  |some d=>match pks ρ r with
   |none=>none
   |some ds=>some (d::ds)
noncomputable def tks(ρ:Env):List Val->Option (List Dat×Env)
 |[]=>some ([],ρ)
 |x::r=>match tk ρ x with
  |none=>none
  |some (d,ρ1)=>match tks ρ1 r with
   |none=>none
   |some (ds,ρ2)=>some (d::ds,ρ2)
noncomputable abbrev FE:=Env->Option (Val×Env)
noncomputable abbrev FT:=Env->Option (Bool×Env)
noncomputable def eC(d:Dat):FE:=fun ρ=>some (.val d,ρ)
noncomputable def eV(i:Nat):FE:=fun ρ=>match ρ[i]? with
 |some (.sh d)=>some (.val d,ρ)
 |some (.ow _)=>some (.slot i,ρ)
 |_=>none
noncomputable def e1(g:Dat->Option RV)(a:FE):FE:=fun ρ=>match a ρ with
 |none=>none
 |some (x,ρ1)=>match pk ρ1 x with
  |none=>none
  |some d=>match g d with
   |none=>none
   |some v=>some (v.a_,ρ1)
noncomputable def e2(g:Dat->Dat->Option RV)(a b:FE):FE:=fun ρ=>match a ρ with
 |none=>none
 |some (x,ρ1)=>match b ρ1 with
  |none=>none
  |some (y,ρ2)=>match pk ρ2 x with
   |none=>none
   |some d=>match pk ρ2 y with
    |none=>none
    |some e=>match g d e with
     |none=>none
     |some v=>some (v.a_,ρ2)
noncomputable def eAs:List FE->Env->Option (List Val×Env)
 |[],ρ=>some ([],ρ)
 |a::r,ρ=>match a ρ with
  |none=>none
  |some (x,ρ1)=>match eAs r ρ1 with
   |none=>none
   |some (xs,ρ2)=>some (x::xs,ρ2)
noncomputable def eB(g:List Dat->Option RV)(as:List FE):FE:=fun ρ=>match eAs as ρ with
 |none=>none
 |some (xs,ρ1)=>match pks ρ1 xs with
  |none=>none
  |some ds=>match g ds with
   |none=>none
   |some v=>some (v.a_,ρ1)
noncomputable def e_(as:List FE):FE:=fun ρ=>match eAs as ρ with
 |none=>none
 |some (xs,ρ1)=>match tks ρ1 xs with
  |none=>none
  |some (ds,ρ2)=>if ds.length<=SZ then some (.val (.tup ds),ρ2) else none
noncomputable def cB(as:List FE):FE:=fun ρ=>match eAs as ρ with
 |none=>none
 |some (xs,ρ1)=>match tks ρ1 xs with
  |none=>none
  |some (ds,ρ2)=>if ds.length<=SZ then some (.new (.lst ds),ρ2) else none
noncomputable def eF(f:List Dat->Option RV)(as:List FE):FE:=fun ρ=>match eAs as ρ with
 |none=>none
 |some (xs,ρ1)=>match pks ρ1 xs with
  |none=>none
  |some ds=>match f ds with
   |none=>none
   | some v=>if cj v.dat then (match tks ρ1 xs with
     |none=>none
     |some (_,ρ2)=>some (v.a_,ρ2)) else some (v.a_,ρ1)
noncomputable def eIf(t:FT)(a b:FE):FE:=fun ρ=>match t ρ with
 |none=>none
 |some (true,ρ1)=>a ρ1
 |some (false,ρ1)=>b ρ1
noncomputable def dX(a b:FE):FE:=fun ρ=>match a ρ with
 |some (.val (.bl true),ρ1)=>b ρ1
 |some (.val (.bl false),ρ1)=>some (.val (.bl false),ρ1)
 |_=>none
noncomputable def vZ(a:FE):FE:=fun ρ=>match a ρ with
 |some (.val (.bl c),ρ1)=>some (.val (.bl (!c)),ρ1)
 |_=>none
noncomputable def tV(a:FE):FT:=fun ρ=>match a ρ with
 |some (.val (.bl c),ρ1)=>some (c,ρ1)
 |_=>none
noncomputable def eZ(t:FT):FT:=fun ρ=>match t ρ with
 |some (c,ρ1)=>some (!c,ρ1)
 |none=>none
noncomputable def l9(t u:FT):FT:=fun ρ=>match t ρ with
 |some (true,ρ1)=>u ρ1
 |some (false,ρ1)=>some (false,ρ1)
 |none=>none
noncomputable def tOr(t u:FT):FT:=fun ρ=>match t ρ with
 |some (true,ρ1)=>some (true,ρ1)
 |some (false,ρ1)=>u ρ1
 |none=>none
noncomputable def truth:Dat->Option Bool
 |.non=>some false
 |.bl b=>some b
 |.int i=>some (i != 0)
 |.tup xs=>some (!xs.isEmpty)
 |.lst xs=>some (!xs.isEmpty)
 |_=>none
noncomputable def tTr(a:FE):FT:=fun ρ=>match a ρ with
 |none=>none
 |some (x,ρ1)=>match pk ρ1 x with
  |none=>none
  |some d=>match truth d with
   |none=>none
   |some c=>some (c,ρ1)
noncomputable def dF:FT:=fun ρ=>some (true,ρ)
noncomputable abbrev FI:=Env->Option (List Dat×Env)
noncomputable def iL(a:FE):FI:=fun ρ=>match a ρ with
 |none=>none
 |some (x,ρ1)=>match tk ρ1 x with
  |some (.lst ds,ρ2)=>some (ds,ρ2)
  |_=>none
noncomputable def iT(a:FE):FI:=fun ρ=>match a ρ with
 |none=>none
 |some (x,ρ1)=>match tk ρ1 x with
  |some (.tup ds,ρ2)=>some (ds,ρ2)
  |_=>none
noncomputable def iS(a:FE):FI:=fun ρ=>match a ρ with
 |none=>none
 |some (x,ρ1)=>match tk ρ1 x with
  |some (.lst ds,ρ2)=>some (ds,ρ2)
  |some (.tup ds,ρ2)=>some (ds,ρ2)
  |_=>none
noncomputable def ups(lo:Int)(n:Nat):List Dat:=(QG n).map fun i=>Dat.int (lo+(i:Nat))
noncomputable def BIG:Int:=1000000000
noncomputable def iR1(a:FE):FI:=fun ρ=>match a ρ with
 |some (.val (.int j),ρ1)=>if j<=BIG/\-BIG<=j then some (ups 0 j.toNat,ρ1) else none
 |_=>none
noncomputable def iR2(a b:FE):FI:=fun ρ=>match a ρ with
 | some (.val (.int i),ρ1)=>(match b ρ1 with
  |some (.val (.int j),ρ2)=>if j<=BIG/\-BIG<=j/\i<=BIG/\-BIG<=i then some (ups i (j-i).toNat,ρ2) else none
  |_=>none)
 |_=>none
noncomputable abbrev FB:=Dat->Env->Option Env
noncomputable def bN(i:Nat):FB:=fun d ρ=>if i=0 then none else some (ρ.set i (.sh d))
noncomputable def sets:List Nat->List Dat->Env->Option Env
 |[],[],ρ=>some ρ
 |i::is,d::ds,ρ=>if i=0 then none else sets is ds (ρ.set i (.sh d))
 |_,_,_=>none
noncomputable def bT(is:List Nat):FB:=fun d ρ=>match d with
 |.tup ds=>sets is ds ρ
 |_=>none
noncomputable def dG(bd:FB)(t:FT)(el:FE):List Dat->Env->List Dat->Option (List Dat×Env)
 |[],ρ,pI=>some (pI,ρ)
 |d::r,ρ,pI=>match bd d ρ with
  |none=>none
  |some ρ1=>match t ρ1 with
   |none=>none
   |some (false,ρ2)=>dG bd t el r ρ2 pI
   |some (true,ρ2)=>match el ρ2 with
    |none=>none
    |some (x,ρ3)=>match tk ρ3 x with
     |none=>none
     |some (y,ρ4)=>dG bd t el r ρ4 (pI++[y])
noncomputable def dH(it:FI)(own:Nat)(bd:FB)(t:FT)(el:FE):FE:=fun ρ=>match it ρ with
 |none=>none
 | some (ds,ρ1)=>if ds.length≤SZ then (match dG bd t el ds (ρ1++Ds own .un) [] with
  |none=>none
  |some (ys,ρ2)=>some (.new (.lst ys),ρ2.take ρ1.length)) else none
inductive Out where
 |nx (ρ:Env)
 |ret (r:RV) (ρ:Env)
 |bk (ρ:Env)
 |ct (ρ:Env)
noncomputable abbrev FS:=Env->Option Out
noncomputable def sNx:FS:=fun ρ=>some (.nx ρ)
noncomputable def aq(s u:FS):FS:=fun ρ=>match s ρ with
 |some (.nx ρ1)=>u ρ1
 |o=>o
noncomputable def sA(i:Nat)(e:FE):FS:=fun ρ=>if i=0 then none else match e ρ with
 |none=>none
 |some (.new d,ρ1)=>some (.nx (ρ1.set i (.ow d)))
 |some (x,ρ1)=>match tk ρ1 x with
  |none=>none
  |some (d,ρ2)=>some (.nx (ρ2.set i (.sh d)))
noncomputable def sU(is:List Nat)(e:FE):FS:=fun ρ=>match e ρ with
 |none=>none
 |some (x,ρ1)=>match tk ρ1 x with
  | some (.tup ds,ρ2)=>(match sets is ds ρ2 with
   |none=>none
   |some ρ3=>some (.nx ρ3))
  |_=>none
noncomputable def sE(e:FE):FS:=fun ρ=>match e ρ with
 |none=>none
 |some (_,ρ1)=>some (.nx ρ1)
noncomputable def sR(e:FE):FS:=fun ρ=>match e ρ with
 |none=>none
 |some (.new d,ρ1)=>some (.ret (.new d) ρ1)
 |some (.val d,ρ1)=>some (.ret (.val d) ρ1)
 |some (.slot i,ρ1)=>match ρ1[i]? with
  |some (.ow d)=>some (.ret (.new d) (ρ1.set i .un))
  |some (.sh d)=>some (.ret (.val d) ρ1)
  |_=>none
noncomputable def sIf(t:FT)(a b:FS):FS:=fun ρ=>match t ρ with
 |none=>none
 |some (true,ρ1)=>a ρ1
 |some (false,ρ1)=>b ρ1
noncomputable def qR(i:Nat)(e:FE):FS:=fun ρ=>match ρ[i]? with
 | some (.ow (.lst _))=>(match e ρ with
  |none=>none
  |some (x,ρ1)=>match tk ρ1 x with
   |none=>none
   |some (d,ρ2)=>match ρ2[i]? with
    |some (.ow (.lst ds))=>if ds.length<SZ then some (.nx (ρ2.set i (.ow (.lst (ds++[d]))))) else none
    |_=>none)
 |_=>none
noncomputable def ixN(n:Nat)(i:Int):Option Nat:=
 if 0<=i then (if i<n then some i.toNat else none) else if -(n:Int)<=i then some (i+n).toNat else none
noncomputable def v5(i:Nat)(j e:FE):FS:=fun ρ=>match e ρ with
 |none=>none
 |some (x,ρ1)=>match tk ρ1 x with
  |none=>none
  |some (d,ρ2)=>match ρ2[i]? with
   | some (.ow _)=>(match j ρ2 with
    | some (.val (.int k),ρ3)=>(match ρ3[i]? with
     | some (.ow (.lst ds))=>(match ixN ds.length k with
      |none=>none
      |some m=>some (.nx (ρ3.set i (.ow (.lst (ds.set m d))))))
     |_=>none)
    |_=>none)
   |_=>none
noncomputable def j4(bd:FB)(body:FS):List Dat->FS
 |[],ρ=>some (.nx ρ)
 |d::r,ρ=>match bd d ρ with
  |none=>none
  |some ρ1=>match body ρ1 with
   |some (.nx ρ2)=>j4 bd body r ρ2
   |some (.ct ρ2)=>j4 bd body r ρ2
   |some (.bk ρ2)=>some (.nx ρ2)
   |some (.ret v ρ2)=>some (.ret v ρ2)
   |none=>none
noncomputable def ff(it:FI)(bd:FB)(body:FS):FS:=fun ρ=>match it ρ with
 |none=>none
 |some (ds,ρ1)=>j4 bd body ds ρ1
noncomputable def whD(t:FT)(body:FS):Nat->FS
 |0,_=>none
 |n+1,ρ=>match t ρ with
  |none=>none
  |some (false,ρ1)=>some (.nx ρ1)
  |some (true,ρ1)=>match body ρ1 with
   |some (.nx ρ2)=>whD t body n ρ2
   |some (.ct ρ2)=>whD t body n ρ2
   |some (.bk ρ2)=>some (.nx ρ2)
   |some (.ret v ρ2)=>some (.ret v ρ2)
   |none=>none
noncomputable def fn(n m:Nat)(body:FS)(ds:List Dat):Option RV:=if ds.length=n then (match body (ds.map Cell.sh++Ds m .un) with
 |some (.ret r _)=>some r
 |some (.nx _)=>some (.val .non)
 |_=>none) else none
noncomputable def b2i(b:Bool):Int:=if b then 1 else 0
mutual
noncomputable def eqD:Dat->Dat->Bool
 |.non,.non=>true
 |.bl a,.bl b=>a == b
 |.bl a,.int j=>b2i a == j
 |.int i,.bl b=>i == b2i b
 |.int i,.int j=>i == j
 |.str a,.str b=>a == b
 |.tup xs,.tup ys=>j5 xs ys
 |.lst xs,.lst ys=>j5 xs ys
 |_,_=>false
noncomputable def j5:List Dat->List Dat->Bool
 |[],[]=>true
 |x::xs,y::ys=>eqD x y&&j5 xs ys
 |_,_=>false
end
noncomputable def okD:Nat->Dat->Bool
 |_,.dct _ _=>false
 |_,.dcp _ _=>false
 |_,.exc _=>false
 |_,.bU _ _=>false
 |_,.fn _=>false
 |_,.str s=>s.all fun c=>decide (c<128)
 |0,.tup _=>false
 |0,.lst _=>false
 |n+1,.tup xs=>xs.all (okD n)
 |n+1,.lst xs=>xs.all (okD n)
 |_,_=>true
noncomputable abbrev vB(b:Bool):Option RV:=some (.val (.bl b))
noncomputable def j6(p:Dat->Bool):Dat->Option RV
 |.exc _=>none
 |.bU _ _=>none
 |.fn _=>none
 |d=>vB (p d)
noncomputable abbrev vI(i:Int):Option RV:=some (.val (.int i))
noncomputable def gEq(x y:Dat):Option RV:=if okD 8 x&&okD 8 y then vB (eqD x y) else none
noncomputable def gNe(x y:Dat):Option RV:=if okD 8 x&&okD 8 y then vB (!eqD x y) else none
noncomputable def gLt:Dat->Dat->Option RV
 |.int i,.int j=>vB (decide (i<j))
 |_,_=>none
noncomputable def gLe:Dat->Dat->Option RV
 |.int i,.int j=>vB (decide (i<=j))
 |_,_=>none
noncomputable def gGt:Dat->Dat->Option RV
 |.int i,.int j=>vB (decide (j<i))
 |_,_=>none
noncomputable def gGe:Dat->Dat->Option RV
 |.int i,.int j=>vB (decide (j<=i))
 |_,_=>none
noncomputable def B64:Int:=18446744073709551616
noncomputable def bE:Dat->Dat->Option RV
 |.int i,.int j=>vI (i+j)
 |.lst xs,.lst ys=>if xs.length+ys.length<=SZ then some (.new (.lst (xs++ys))) else none
 |_,_=>none
noncomputable def f7:Dat->Dat->Option RV
 |.int i,.int j=>vI (i-j)
 |_,_=>none
noncomputable def ic:Dat->Dat->Option RV
 |.int i,.int j=>if (-B64<i/\i<B64)\/(-B64<j/\j<B64) then vI (i*j) else none
 |.lst xs,.int k=>if k<=BIG/\-BIG<=k/\xs.length*k.toNat<=SZ then some (.new (.lst (Ds k.toNat xs).flatten)) else none
 |_,_=>none
noncomputable def dI:Int:=1606938044258990275541962092341162602522202993782792835301376
noncomputable def zU:Dat->Dat->Option RV
 |.int i,.int j=>if 0<j/\j<dI then vI (i / j) else none
 |_,_=>none
noncomputable def gT:Dat->Dat->Option RV
 |.int i,.int j=>if 0<j then vI (i % j) else none
 |_,_=>none
noncomputable def jx:Dat->Dat->Option RV
 |.int i,.int j=>if 0<=j/\j<=1000000/\i.natAbs<1000000 then vI (i ^ j.toNat) else none
 |_,_=>none
noncomputable def FD:Dat->Option RV
 |.int i=>vI (-i)
 |_=>none
noncomputable def atI(xs:List Dat)(i:Int):Option Dat:=(ixN xs.length i).bind fun j=>xs[j]?
noncomputable def gIx:Dat->Dat->Option RV
 |.lst xs,.int i=>(atI xs i).map .val
 |.tup xs,.int i=>(atI xs i).map .val
 |_,_=>none
noncomputable def inD(x:Dat)(xs:List Dat):Bool:=xs.any fun y=>eqD y x
noncomputable def gIn:Dat->Dat->Option RV
 |x,.lst xs=>if okD 8 x&&xs.all (okD 7) then vB (inD x xs) else none
 |x,.tup xs=>if okD 8 x&&xs.all (okD 7) then vB (inD x xs) else none
 |_,_=>none
noncomputable def cW:Dat->Dat->Option RV
 |x,.lst xs=>if okD 8 x&&xs.all (okD 7) then vB (!inD x xs) else none
 |x,.tup xs=>if okD 8 x&&xs.all (okD 7) then vB (!inD x xs) else none
 |_,_=>none
noncomputable def sIx(n d:Nat):Option Int->Nat
 |none=>d
 |some v=>(if v<0 then max (v+n) 0 else min v n).toNat
noncomputable def cut(xs:List Dat)(lo hi:Option Int):List Dat:=(xs.drop (sIx xs.length 0 lo)).take (sIx xs.length xs.length hi-sIx xs.length 0 lo)
noncomputable def cE:List Dat->Option RV
 |[.lst xs]=>vI xs.length
 |[.tup xs]=>vI xs.length
 |_=>none
noncomputable def mE:List Dat->Option RV
 |[.int i,.int j]=>vI (if j<i then j else i)
 |_=>none
noncomputable def k6:List Dat->Option RV
 |[.int i,.int j]=>vI (if j>i then j else i)
 |_=>none
noncomputable def c_:List Dat->Option RV
 |[.lst xs]=>some (.new (.lst xs))
 |[.tup xs]=>some (.new (.lst xs))
 |_=>none
noncomputable def f_:List Dat->Option RV
 |[.lst xs]=>some (.val (.tup xs))
 |[.tup xs]=>some (.val (.tup xs))
 |_=>none
noncomputable def isI:Dat->Bool
 |.int _=>true
 |.bl _=>true
 |_=>false
noncomputable def isB:Dat->Bool
 |.bl _=>true
 |_=>false
noncomputable def isL:Dat->Bool
 |.lst _=>true
 |_=>false
noncomputable def isT:Dat->Bool
 |.tup _=>true
 |_=>false
noncomputable def bools:List Dat->Option (List Bool)
 |[]=>some []
 |.bl b::r=>(bools r).map fun bs=>b::bs
 |_=>none
noncomputable def pC:List Dat->Option RV
 | [.lst xs]=>(match bools xs with
  |some bs=>vB (bs.all id)
  |none=>none)
 |_=>none
noncomputable def eN(g h:Dat->Dat->Option RV)(a b c:FE):FE:=fun ρ=>match a ρ with
 |none=>none
 |some (x,ρ1)=>match b ρ1 with
  |none=>none
  |some (y,ρ2)=>match pk ρ2 x with
   |none=>none
   |some d=>match pk ρ2 y with
    |none=>none
    |some e=>match g d e with
     | some (.val (.bl true))=>(match c ρ2 with
      |none=>none
      |some (z,ρ3)=>match pk ρ3 y with
       |none=>none
       |some e'=>match pk ρ3 z with
        |none=>none
        |some f=>match h e' f with
         |none=>none
         |some v=>some (v.a_,ρ3))
     |some (.val (.bl false))=>some (.val (.bl false),ρ2)
     |_=>none
noncomputable def part:Option FE->Env->Option (Option Int×Env)
 |none,ρ=>some (none,ρ)
 |some f,ρ=>match f ρ with
  |some (.val (.int i),ρ1)=>some (some i,ρ1)
  |_=>none
noncomputable def eSl(a:FE)(lo hi:Option FE):FE:=fun ρ=>match a ρ with
 |none=>none
 |some (x,ρ1)=>match part lo ρ1 with
  |none=>none
  |some (l,ρ2)=>match part hi ρ2 with
   |none=>none
   |some (h,ρ3)=>match pk ρ3 x with
    |some (.lst xs)=>some (.new (.lst (cut xs l h)),ρ3)
    |_=>none
noncomputable def Ql:Dat->Dat->Option RV
 |.bl b,.bl c=>vB (b == c)
 |_,_=>none
noncomputable def jy:Dat->Dat->Option RV
 |.bl b,.bl c=>vB (b != c)
 |_,_=>none
noncomputable def Bp:List Dat->Option RV
 |[.int i]=>vI i
 |[.bl b]=>vI (b2i b)
 |_=>none
end Dm
namespace Br
open PySem L2
noncomputable def kP(p:Int×Int):List Key:=[QW p.1,QW p.2]
def eO(H:Hp):List Addr->List (Int×Int)->Prop
 |[],[]=>True
 |t::ts,p::ks=>H t=some (.tup [V.int p.1,V.int p.2])/\eO H ts ks
 |_,_=>False
theorem eO.mono{H H':Hp}(s:ak H H'):∀{ts:List Addr} {ks:List (Int×Int)},eO H ts ks->eO H' ts ks
 |[],[],_=>trivial
 |_::_,_::_,h=>⟨s _ _ h.1,eO.mono s h.2⟩
 |[],_::_,h=>h
 |_::_,[],h=>h
theorem eO.via{H H':Hp}(s:∀t vs,H t=some (.tup vs)->H' t=some (.tup vs)):∀{ts:List Addr} {ks:List (Int×Int)},eO H ts ks->eO H' ts ks
 |[],[],_=>trivial
 |_::_,_::_,h=>⟨s _ _ h.1,eO.via s h.2⟩
 |[],_::_,h=>h
 |_::_,[],h=>h
def Bq(H:Hp)(x:List (List Key×V)×List Addr)(ks:List (Int×Int)):Prop:=x.1.map (·.1)=ks.map kP/\eO H x.2 ks
theorem Bq.mono{H H':Hp}(s:ak H H'){x:List (List Key×V)×List Addr}{ks:List (Int×Int)}(h:Bq H x ks):Bq H' x ks:=⟨h.1,h.2.mono s⟩
mutual
inductive Rep(H:Hp):V->Dm.Dat->Prop
 |non:Rep H V.non Dm.Dat.non
 |bl (b:Bool):Rep H (V.bl b) (Dm.Dat.bl b)
 |int (i:Int):Rep H (V.int i) (Dm.Dat.int i)
 |str (s:List Nat):Rep H (V.str ⟨s.toArray⟩) (Dm.Dat.str s)
 |tup {a:Addr} {xs:List V} {ds:List Dm.Dat}:H a=some (.tup xs)->av H xs ds->Rep H (V.ref a) (Dm.Dat.tup ds)
 |lst {a:Addr} {xs:List V} {ds:List Dm.Dat}:Rd H a (.lst xs)->av H xs ds->Rep H (V.ref a) (Dm.Dat.lst ds)
 |dct {a:Addr} {kvs:List (Key×V)} {ks:List Int} {ds:List Dm.Dat}:H a=some (.dK kvs)->kvs.map (·.1)=ks.map QW->av H (kvs.map (·.2)) ds->Rep H (V.ref a) (Dm.Dat.dct ks ds)
 |dcp {a:Addr} {x:List (List Key×V)×List Addr} {ks:List (Int×Int)} {ds:List Dm.Dat}:H a=some (.dT x.1 x.2)->Bq H x ks->av H (x.1.map (·.2)) ds->Rep H (V.ref a) (Dm.Dat.dcp ks ds)
 |exc {a:Addr} {C:Nat} {o:Obj}:H a=some (.frz o (.ext fun h=>∃o,h.get? a=some o/\o.cls=.ref C/\∃vs,o.data=.fields vs/\vs[2]?=some .none))->Rep H (V.ref a) (Dm.Dat.exc C)
 |bU {a d:Addr} {C:Nat} {v:Int}:H a=some (.ext fun h=>∃o,h.get? a=some o/\o.cls=.ref C/\o.dict=some d/\∀c,o.data≠.cls c)->H d=some (.xd [("moment",.int v)])->Rep H (V.ref a) (Dm.Dat.bU C v)
 |fn (a:Addr):Rep H (V.ref a) (Dm.Dat.fn a)
inductive av(H:Hp):List V->List Dm.Dat->Prop
 |nil:av H [] []
 |cons {v:V} {d:Dm.Dat} {vs:List V} {ds:List Dm.Dat}:Rep H v d->av H vs ds->av H (v::vs) (d::ds)
end
theorem ak.rd{H H':Hp}(s:ak H H'){a:Addr}{u:HO}(h:Rd H a u):Rd H' a u:=by
 rcases h with h | ⟨o,h⟩
 ·exact .inl (s _ _ h)
 ·exact .inr ⟨o,s _ _ h⟩
mutual
theorem Rep.mono{H H':Hp}(s:ak H H'):∀{v:V} {d:Dm.Dat},Rep H v d->Rep H' v d
 |_,_,.non=>.non
 |_,_,.bl b=>.bl b
 |_,_,.int i=>.int i
 |_,_,.str x=>.str x
 |_,_,.tup h r=>.tup (s _ _ h) (av.mono s r)
 |_,_,.lst h r=>.lst (ak.rd s h) (av.mono s r)
 |_,_,.dct h e r=>.dct (s _ _ h) e (av.mono s r)
 |_,_,.dcp h e r=>.dcp (s _ _ h) (e.mono s) (av.mono s r)
 |_,_,.exc h=>.exc (s _ _ h)
 |_,_,.bU h k=>.bU (s _ _ h) (s _ _ k)
 |_,_,.fn a=>.fn a
theorem av.mono{H H':Hp}(s:ak H H'):∀{vs:List V} {ds:List Dm.Dat},av H vs ds->av H' vs ds
 |_,_,.nil=>.nil
 |_,_,.cons h r=>.cons (Rep.mono s h) (av.mono s r)
end
section
variable{ρ:Dm.Env}{H0 H:Hp}{d:Dm.Dat}{σ:St}{a:Addr}{x:Dm.Val}{v:V}{X:Cx}{t t':TS}{p:Addr}{e:Expr}{o:HO}
theorem av.length{H:Hp}:∀{vs:List V} {ds:List Dm.Dat},av H vs ds->vs.length=ds.length
 |_,_,.nil=>rfl
 |_,_,.cons _ r=>by simp[av.length r]
theorem av.get{H:Hp}:∀{vs:List V} {ds:List Dm.Dat} {i:Nat} {d:Dm.Dat},av H vs ds->ds[i]?=some d->∃v,vs[i]?=some v/\Rep H v d
 |_,_,_,_,.nil,e=>by simp at e
 |_,_,0,_,.cons h _,e=>by simp at e;subst e;exact⟨_,rfl,h⟩
 |_,_,i+1,_,.cons _ r,e=>by obtain⟨v,h1,h2⟩:=av.get (i:=i) r (by simpa using e);exact⟨v,by simpa using h1,h2⟩
theorem av.append{H:Hp}:∀{vs ws:List V} {ds es:List Dm.Dat},av H vs ds->av H ws es->av H (vs++ws) (ds++es)
 |_,_,_,_,.nil,s=>s
 |_,_,_,_,.cons h r,s=>.cons h (av.append r s)
theorem av.take{H:Hp}:∀{vs:List V} {ds:List Dm.Dat} (n:Nat),av H vs ds->av H (vs.take n) (ds.take n)
 |_,_,0,_=>by simpa using av.nil
 |_,_,_+1,.nil=>by simpa using av.nil
 |_,_,n+1,.cons h r=>by simpa using av.cons h (av.take n r)
theorem av.drop{H:Hp}:∀{vs:List V} {ds:List Dm.Dat} (n:Nat),av H vs ds->av H (vs.drop n) (ds.drop n)
 |_,_,0,r=>by simpa using r
 |_,_,_+1,.nil=>by simpa using av.nil
 |_,_,n+1,.cons _ r=>by simpa using av.drop n r
theorem av.set{H:Hp}(h:Rep H v d):∀{vs:List V} {ds:List Dm.Dat} (i:Nat),av H vs ds->av H (vs.set i v) (ds.set i d)
 |_,_,_,.nil=>.nil
 |_,_,0,.cons _ r=>.cons h r
 |_,_,i+1,.cons q r=>.cons q (av.set h i r)
theorem av.reverse{H:Hp}:∀{vs:List V} {ds:List Dm.Dat},av H vs ds->av H vs.reverse ds.reverse
 |_,_,.nil=>.nil
 |_,_,.cons h r=>by rw[S0,S0];exact av.append (av.reverse r) (.cons h .nil)
theorem av.rep{H:Hp}{vs:List V}{ds:List Dm.Dat}(r:av H vs ds):∀k:Nat,av H (Ds k vs).flatten (Ds k ds).flatten
 |0=>by simpa using av.nil
 |k+1=>by rw[RJ,RJ,Q9,Q9];exact av.append r (av.rep r k)
def Own(H0 H:Hp)(a:Addr):Dm.Dat->Prop
 |.lst ds=>∃xs,H a=some (.lst xs)/\av H0 xs ds
 |.dct ks ds=>∃kvs:List (Key×V),H a=some (.dK kvs)/\kvs.map (·.1)=ks.map QW/\av H0 (kvs.map (·.2)) ds
 |.dcp ks ds=>∃x:List (List Key×V)×List Addr,H a=some (.dT x.1 x.2)/\Bq H0 x ks/\av H0 (x.1.map (·.2)) ds
 |_=>False
theorem Own.some(h:Own H0 H a d):∃o,H a=some o:=by
 cases d with
 |lst ds=>obtain⟨xs,e,_⟩:=h;exact⟨_,e⟩
 |dct ks ds=>obtain⟨xs,e,_⟩:=h;exact⟨_,e⟩
 |dcp ks ds=>obtain⟨xs,e,_⟩:=h;exact⟨_,e⟩
 |_=>exact Rc h
theorem Own.mono{H0 H H0' H':Hp}(h:Own H0 H a d)(s:ak H0 H0')(e:H' a=H a):Own H0' H' a d:=by
 cases d with
 |lst ds=>obtain⟨xs,q,r⟩:=h;exact⟨xs,by rw[e];exact q,r.mono s⟩
 |dct ks ds=>obtain⟨xs,q,k,r⟩:=h;exact⟨xs,by rw[e];exact q,k,r.mono s⟩
 |dcp ks ds=>obtain⟨xs,q,k,r⟩:=h;exact⟨xs,by rw[e];exact q,k.mono s,r.mono s⟩
 |_=>exact Rc h
def j7(H0 H:Hp)(v:V)(d:Dm.Dat):Prop:=Rep H0 v d\/∃a,v=V.ref a/\Own H0 H a d
inductive tw(H0 H:Hp):List V->List Dm.Dat->Prop
 |nil:tw H0 H [] []
 |cons {v:V} {d:Dm.Dat} {vs:List V} {ds:List Dm.Dat}:j7 H0 H v d->tw H0 H vs ds->tw H0 H (v::vs) (d::ds)
noncomputable def shr(H0 H:Hp)(a:Addr):Hp:=fun b=>if b=a then H a else H0 b
theorem cP:shr H0 H a a=H a:=by unfold shr;rw[if_pos rfl]
theorem ie{a b:Addr}(h:b≠a):shr H0 H a b=H0 b:=by unfold shr;rw[if_neg h]
theorem fh(h:H0 a=none):ak H0 (shr H0 H a):=fun b o e=>by
 by_cases q:b=a
 ·subst q;rw[h]at e;cases e
 ·rw[ie q];exact e
theorem yg(s:ak H0 H):ak (shr H0 H a) H:=fun b o e=>by
 by_cases q:b=a
 ·subst q;rw[cP]at e;exact e
 ·rw[ie q]at e;exact s _ _ e
theorem Own.rep(h:Own H0 H a d)(n:H0 a=none):Rep (shr H0 H a) (V.ref a) d:=by
 cases d with
 |lst ds=>obtain⟨xs,q,r⟩:=h;exact .lst (.inl (by rw[cP];exact q)) (r.mono (fh n))
 |dct ks ds=>obtain⟨xs,q,k,r⟩:=h;exact .dct (by rw[cP];exact q) k (r.mono (fh n))
 |dcp ks ds=>obtain⟨xs,q,k,r⟩:=h;exact .dcp (by rw[cP];exact q) (k.mono (fh n)) (r.mono (fh n))
 |_=>exact Rc h
def aj(σ:St)(ρ:Dm.Env)(a:Addr):Prop:=∃(i:Nat) (d:Dm.Dat),ρ[i]?=some (Dm.Cell.ow d)/\σ[i]?=some (some (V.ref a))
noncomputable abbrev Def(_:Dm.Env)(_:Nat):Prop:=True
structure ay(H0 H:Hp)(σ:St)(ρ:Dm.Env):Prop where
 same:ak H0 H
 len:σ.length=ρ.length
 sh:∀(i:Nat) (d:Dm.Dat),ρ[i]?=some (Dm.Cell.sh d)->∃v,σ[i]?=some (some v)/\Rep H0 v d
 ow:∀(i:Nat) (d:Dm.Dat),ρ[i]?=some (Dm.Cell.ow d)->∃a,σ[i]?=some (some (V.ref a))/\H0 a=none/\Own H0 H a d
 dis:∀(i j:Nat) (d e:Dm.Dat) (a:Addr),ρ[i]?=some (Dm.Cell.ow d)->ρ[j]?=some (Dm.Cell.ow e)->σ[i]?=some (some (V.ref a))->σ[j]?=some (some (V.ref a))->i=j
structure Stp(O:Addr->Prop)(H0 H H0' H':Hp):Prop where
 s0:ak H0 H0'
 s1:∀a o,H a=some o->¬O a->H' a=some o
 s2:∀a o,H0' a=some o->H a=none\/H0 a=some o\/O a
 s3:∀a o,H a=some o->∃o',H' a=some o'
theorem Stp.refl(O:Addr->Prop)(H0 H:Hp):Stp O H0 H H0 H:=⟨ak.refl _,fun _ _ e _=>e,fun _ _ e=>.inr (.inl e),fun _ o e=>⟨o,e⟩⟩
theorem Stp.gone{O:Addr->Prop}{H0 H H0' H':Hp}(t:Stp O H0 H H0' H')(h:H' a=none):H a=none:=by
 cases q:H a with
 |none=>rfl
 |some o=>obtain⟨o',e⟩:=t.s3 a o q;rw[h]at e;cases e
theorem Stp.trans{O1 O2:Addr->Prop}{H0 H H1 H' H2 H'':Hp}(t:Stp O1 H0 H H1 H')(u:Stp O2 H1 H' H2 H'')(k:∀a,O2 a->O1 a\/H a=none):Stp O1 H0 H H2 H'' where
 s0:=t.s0.trans u.s0
 s1:=fun a o e n=>u.s1 a o (t.s1 a o e n) fun z=>(k a z).elim n fun q=>by rw[q]at e;cases e
 s2:=fun a o e=>by
  rcases u.s2 a o e with q | q | q
  ·exact .inl (t.gone q)
  ·exact t.s2 a o q
  ·rcases k a q with z | z
   ·exact .inr (.inr z)
   ·exact .inl z
 s3:=fun a o e=>by obtain⟨o',e'⟩:=t.s3 a o e;exact u.s3 a o' e'
theorem Stp.wide{O O':Addr->Prop}{H0 H H0' H':Hp}(t:Stp O H0 H H0' H')(k:∀a,O a->O' a):Stp O' H0 H H0' H':=
 ⟨t.s0,fun a o e n=>t.s1 a o e fun z=>n (k a z),fun a o e=>(t.s2 a o e).imp id (Or.imp id (k a)),t.s3⟩
structure aI(H0 H H0' H':Hp):Prop where
 s0:ak H0 H0'
 s1:ak H H'
 s2:∀a o,H0' a=some o->H a=none\/H0 a=some o
 s3:ak H0' H'
theorem aI.refl(s:ak H0 H):aI H0 H H0 H:=⟨ak.refl _,ak.refl _,fun _ _ e=>.inr e,s⟩
theorem aI.stp{H0 H H0' H':Hp}(g:aI H0 H H0' H')(O:Addr->Prop):Stp O H0 H H0' H':=
 ⟨g.s0,fun a o e _=>g.s1 a o e,fun a o e=>(g.s2 a o e).imp id .inl,fun a o e=>⟨o,g.s1 a o e⟩⟩
theorem aI.Bs(s:ak H0 H)(n:H p=none):aI H0 H (upd H0 p o) (upd H p o) where
 s0:=fun b u e=>by rw[aA (aP e (s.free n))];exact e
 s1:=fun b u e=>by rw[aA (aP e n)];exact e
 s2:=fun b u e=>by
  by_cases q:b=p
  ·subst q;exact .inl n
  ·rw[aA q]at e;exact .inr e
 s3:=fun b u e=>by
  by_cases q:b=p
  ·subst q;rw[au]at e ⊢;exact e
  ·rw[aA q]at e ⊢;exact s _ _ e
theorem aI.j8(s:ak H0 H)(n:H p=none):aI H0 H H0 (upd H p o) where
 s0:=ak.refl _
 s1:=fun b u e=>by rw[aA (aP e n)];exact e
 s2:=fun b u e=>.inr e
 s3:=fun b u e=>by rw[aA (aP (s _ _ e) n)];exact s _ _ e
def gf(Hs H0 H:Hp)(σ:St)(ρ:Dm.Env)(v:V):Dm.Val->Prop
 |.val d=>Rep H0 v d
 |.slot i=>σ[i]?=some (some v)/\Def ρ i
 |.new d=>∃a,v=V.ref a/\Hs a=none/\¬aj σ ρ a/\H0 a=none/\Own H0 H a d
structure ESt(σ:St)(ρ:Dm.Env)(H0 H:Hp)(ρ':Dm.Env)(H0' H':Hp):Prop where
 st:ay H0' H' σ ρ'
 stp:Stp (aj σ ρ) H0 H H0' H'
 own:∀a,aj σ ρ' a->aj σ ρ a
 dfn:∀i,Def ρ i->Def ρ' i
theorem ESt.refl(st:ay H0 H σ ρ):ESt σ ρ H0 H ρ H0 H:=⟨st,Stp.refl _ _ _,fun _ z=>z,fun _ z=>z⟩
theorem ESt.trans{ρ ρ1 ρ2:Dm.Env}{H0 H H1 H' H2 H'':Hp}(t:ESt σ ρ H0 H ρ1 H1 H')(u:ESt σ ρ1 H1 H' ρ2 H2 H''):ESt σ ρ H0 H ρ2 H2 H'':=
 ⟨u.st,t.stp.trans u.stp fun a z=>.inl (t.own a z),fun a z=>t.own a (u.own a z),fun i z=>u.dfn i (t.dfn i z)⟩
theorem ay.grow{H0 H H0' H':Hp}(st:ay H0 H σ ρ)(g:aI H0 H H0' H'):ay H0' H' σ ρ where
 same:=g.s3
 len:=st.len
 sh:=fun i d e=>by obtain⟨v,q,r⟩:=st.sh i d e;exact⟨v,q,r.mono g.s0⟩
 ow:=fun i d e=>by
  obtain⟨a,q,n,w⟩:=st.ow i d e;obtain⟨o,z⟩:=w.some;refine⟨a,q,?_,w.mono g.s0 ((g.s1 a o z).trans z.symm)⟩;cases y:H0' a with
  |none=>rfl
  |some u=>
   rcases g.s2 a u y with k | k
   ·rw[z]at k;cases k
   ·rw[n]at k;cases k
 dis:=st.dis
theorem ESt.grow{H0 H H0' H':Hp}(st:ay H0 H σ ρ)(g:aI H0 H H0' H'):ESt σ ρ H0 H ρ H0' H':=
 ⟨st.grow g,g.stp _,fun _ z=>z,fun _ z=>z⟩
theorem gf.mono{Hs H0 H H0' H':Hp}{ρ ρ':Dm.Env}(r:gf Hs H0 H σ ρ v x)(t:ESt σ ρ H0 H ρ' H0' H'):gf Hs H0' H' σ ρ' v x:=by
 cases x with
 |val d=>exact Rep.mono t.stp.s0 r
 |slot i=>exact⟨r.1,t.dfn i r.2⟩
 |new d=>
  obtain⟨a,e,n,no,n0,w⟩:=r;obtain⟨o,z⟩:=w.some;refine⟨a,e,n,fun y=>no (t.own a y),?_,w.mono t.stp.s0 ((t.stp.s1 a o z no).trans z.symm)⟩;cases y:H0' a with
  |none=>rfl
  |some u=>
   rcases t.stp.s2 a u y with k | k | k
   ·rw[z]at k;cases k
   ·rw[n0]at k;cases k
   ·exact absurd k no
theorem gf.early{Hs Hs' H0 H:Hp}(r:gf Hs H0 H σ ρ v x)(k:∀a,Hs a=none->Hs' a=none):gf Hs' H0 H σ ρ v x:=by
 cases x with
 |val d=>exact r
 |slot i=>exact r
 |new d=>obtain⟨a,e,n,z⟩:=r;exact⟨a,e,k a n,z⟩
theorem gf.look{Hs H0 H:Hp}(r:gf Hs H0 H σ ρ v x)(st:ay H0 H σ ρ)(e:Dm.pk ρ x=some d):j7 H0 H v d:=by
 cases x with
 |val d'=>cases e;exact .inl r
 |new d'=>cases e;obtain⟨a,e,_,_,_,w⟩:=r;exact .inr ⟨a,e,w⟩
 |slot i=>
  obtain⟨q,_⟩:=r;unfold Dm.pk at e;dsimp only at e;split at e
  ·rename_i d' h;cases e;obtain⟨a,z,_,w⟩:=st.ow i d h;rw[q]at z;cases z;exact .inr ⟨a,rfl,w⟩
  ·rename_i d' h;cases e;obtain⟨u,z,w⟩:=st.sh i d h;rw[q]at z;cases z;exact .inl w
  ·cases e
def qS(Hs H0 H:Hp)(v:V):Dm.RV->Prop
 |.val d=>Rep H0 v d
 |.new d=>∃a,v=V.ref a/\Hs a=none/\H0 a=none/\Own H0 H a d
theorem qS.toV{H H0' H' H0:Hp}{z:Dm.RV}(r:qS H H0' H' v z)(st:ay H0 H σ ρ):gf H H0' H' σ ρ v z.a_:=by
 cases z with
 |val d=>exact r
 |new d=>obtain⟨a,e,n,n0,w⟩:=r;refine⟨a,e,n,fun⟨i,d',h1,h2⟩=>?_,n0,w⟩;obtain⟨a',q,_,w'⟩:=st.ow i d' h1;rw[h2]at q;cases q;obtain⟨o,z⟩:=w'.some;rw[n]at z;cases z
def tD(f:Dm.FE):TE:=fun σ H Q=>∃H0 ρ x ρ',ay H0 H σ ρ/\f ρ=some (x,ρ')/\∀v H0' H',ESt σ ρ H0 H ρ' H0' H'->gf H H0' H' σ ρ' v x->Q v H'
def tDT(f:Dm.FT):TT:=fun σ H Q=>∃H0 ρ b ρ',ay H0 H σ ρ/\f ρ=some (b,ρ')/\∀H0' H',ESt σ ρ H0 H ρ' H0' H'->Q b H'
inductive cQ(Hs H0 H:Hp)(σ:St)(ρ:Dm.Env):List V->List Dm.Val->Prop
 |nil:cQ Hs H0 H σ ρ [] []
 |cons {v:V} {x:Dm.Val} {vs:List V} {xs:List Dm.Val}:gf Hs H0 H σ ρ v x->cQ Hs H0 H σ ρ vs xs->cQ Hs H0 H σ ρ (v::vs) (x::xs)
def tDA(fs:List Dm.FE):TA:=fun σ H Q=>∃H0 ρ xs ρ',ay H0 H σ ρ/\Dm.eAs fs ρ=some (xs,ρ')/\∀vs H0' H',ESt σ ρ H0 H ρ' H0' H'->cQ H H0' H' σ ρ' vs xs->Q vs H'
noncomputable abbrev DE(X:Cx)(e:Expr)(f:Dm.FE):Prop:=PE X e (tD f)
noncomputable abbrev DT(X:Cx)(e:Expr)(f:Dm.FT):Prop:=PT X e (tDT f)
noncomputable abbrev DA(X:Cx)(es:List Expr)(fs:List Dm.FE):Prop:=PA X es (tDA fs)
theorem PE.weak{t t':TE}(h:PE X e t)(k:∀σ H Q,t' σ H Q->t σ H Q):PE X e t':=fun kC s σ H Q I q=>h kC s σ H Q I (k σ H Q q)
theorem PT.weak{t t':TT}(h:PT X e t)(k:∀σ H Q,t' σ H Q->t σ H Q):PT X e t':=fun kC s σ H Q I q=>h kC s σ H Q I (k σ H Q q)
theorem PA.weak{es:List Expr}{t t':TA}(h:PA X es t)(k:∀σ H Q,t' σ H Q->t σ H Q):PA X es t':=fun pos kC s σ H Q I q=>h pos kC s σ H Q I (k σ H Q q)
theorem PS.weak{st:Stmt}(h:PS X st t)(k:∀D σ H,t' D σ H->t D σ H):PS X st t':=fun kC s σ H D I q=>h kC s σ H D I (k D σ H q)
theorem PSs.weak{st:List Stmt}(h:PSs X st t)(k:∀D σ H,t' D σ H->t D σ H):PSs X st t':=fun kC s σ H D I q=>h kC s σ H D I (k D σ H q)
theorem b8(s:ak H0 H):ak H0 (shr H0 H a):=fun b o e=>by
 by_cases q:b=a
 ·subst q;rw[cP];exact s _ _ e
 ·rw[ie q];exact e
theorem Own.MF{H0 H0c H:Hp}(h:Own H0 H a d)(b:ak H0 H0c)(s:ak H0c H):Rep (shr H0c H a) (V.ref a) d:=by
 cases d with
 |lst ds=>obtain⟨xs,q,r⟩:=h;exact .lst (.inl (by rw[cP];exact q)) (r.mono (b.trans (b8 s)))
 |dct ks ds=>obtain⟨xs,q,k,r⟩:=h;exact .dct (by rw[cP];exact q) k (r.mono (b.trans (b8 s)))
 |dcp ks ds=>obtain⟨xs,q,k,r⟩:=h;exact .dcp (by rw[cP];exact q) (k.mono (b.trans (b8 s))) (r.mono (b.trans (b8 s)))
 |_=>exact Rc h
theorem gf.rho{Hs H0 H:Hp}{ρ ρ':Dm.Env}(r:gf Hs H0 H σ ρ v x)(o:∀a,aj σ ρ' a->aj σ ρ a)(d:∀i,Def ρ i->Def ρ' i):gf Hs H0 H σ ρ' v x:=by
 cases x with
 |val d=>exact r
 |slot i=>exact⟨r.1,d i r.2⟩
 |new d=>obtain⟨a,e,n,no,z⟩:=r;exact⟨a,e,n,fun y=>no (o a y),z⟩
theorem cQ.rho{Hs H0 H:Hp}{ρ ρ':Dm.Env}(o:∀a,aj σ ρ' a->aj σ ρ a)(d:∀i,Def ρ i->Def ρ' i):∀{vs:List V} {xs:List Dm.Val},cQ Hs H0 H σ ρ vs xs->cQ Hs H0 H σ ρ' vs xs
 |_,_,.nil=>.nil
 |_,_,.cons h r=>.cons (h.rho o d) (cQ.rho o d r)
theorem cQ.early{Hs Hs' H0 H:Hp}(k:∀a,Hs a=none->Hs' a=none):∀{vs:List V} {xs:List Dm.Val},cQ Hs H0 H σ ρ vs xs->cQ Hs' H0 H σ ρ vs xs
 |_,_,.nil=>.nil
 |_,_,.cons h r=>.cons (h.early k) (cQ.early k r)
theorem aD{i j:Nat}{c d:Dm.Cell}(h:(ρ.set i c)[j]?=some d):(j=i/\d=c)\/(j≠i/\ρ[j]?=some d):=by
 by_cases e:j=i
 ·subst e;by_cases l:j<ρ.length
  ·rw[QZ l]at h;exact .inl ⟨rfl,(Option.some.inj h).symm⟩
  ·rw[Q6 (by simpa using RS.mp l)]at h;cases h
 ·rw[eg (Ne.symm e)]at h;exact .inr ⟨e,h⟩
theorem v7{i:Nat}(st:ay H0 H σ ρ)(e:ρ[i]?=some (.ow d))(q:σ[i]?=some (some (V.ref a))) :
  ay (shr H0 H a) H σ (ρ.set i (.sh d))/\(∀b,aj σ (ρ.set i (.sh d)) b->aj σ ρ b)/\∀j,Def ρ j->Def (ρ.set i (.sh d)) j:=by
 obtain⟨a',q',n,w⟩:=st.ow i d e;rw[q]at q';cases q';have hil:i<ρ.length:=(Qx.mp e).1;refine⟨⟨yg st.same,by rw[QU];exact st.len,fun j d' h=>?_,fun j d' h=>?_,fun j k d1 d2 b h1 h2 h3 h4=>?_⟩,fun b ⟨j,d',h1,h2⟩=>?_,fun j h=>?_⟩
 ·rcases aD h with⟨rfl,z⟩ | ⟨_,h⟩
  ·cases z;exact⟨_,q,w.rep n⟩
  ·obtain⟨v,z,r⟩:=st.sh j d' h;exact⟨v,z,r.mono (fh n)⟩
 ·rcases aD h with⟨_,z⟩ | ⟨hj,h⟩
  ·cases z
  ·obtain⟨b,z,n',w'⟩:=st.ow j d' h;have nb:b≠a:=fun y=>hj (st.dis j i d' d a h e (y▸z) q);exact⟨b,z,by rw[ie nb];exact n',w'.mono (fh n) rfl⟩
 ·rcases aD h1 with⟨_,z⟩ | ⟨_,h1⟩
  ·cases z
  ·rcases aD h2 with⟨_,z⟩ | ⟨_,h2⟩
   ·cases z
   ·exact st.dis j k d1 d2 b h1 h2 h3 h4
 ·rcases aD h1 with⟨_,z⟩ | ⟨_,h1⟩
  ·cases z
  ·exact⟨j,d',h1,h2⟩
 ·trivial
theorem zV(st:ay H0 H σ ρ)(no:¬aj σ ρ a):ay (shr H0 H a) H σ ρ where
 same:=yg st.same
 len:=st.len
 sh:=fun j d h=>by obtain⟨v,z,r⟩:=st.sh j d h;exact⟨v,z,r.mono (b8 st.same)⟩
 ow:=fun j d h=>by obtain⟨b,z,n',w'⟩:=st.ow j d h;have nb:b≠a:=fun y=>no ⟨j,d,h,y▸z⟩;exact⟨b,z,by rw[ie nb];exact n',w'.mono (b8 st.same) rfl⟩
 dis:=st.dis
theorem take1{Hs H0s H0 H0c H:Hp}{ρs ρ ρ':Dm.Env}(t:ESt σ ρs H0s Hs ρ H0c H)(b:ak H0 H0c)(r:gf Hs H0 H σ ρ v x)(e:Dm.tk ρ x=some (d,ρ')) :
  ∃ig,ESt σ ρs H0s Hs ρ' ig H/\ak H0c ig/\Rep ig v d/\(∀a,aj σ ρ' a->aj σ ρ a)/\∀i,Def ρ i->Def ρ' i:=by
 cases x with
 |val d'=>cases e;exact⟨H0c,t,ak.refl _,Rep.mono b r,fun _ z=>z,fun _ z=>z⟩
 |new d'=>
  cases e;obtain⟨a,e,n,no,n0,w⟩:=r;subst e;have ss:=b8 (a:=a) t.st.same;refine⟨shr H0c H a,⟨zV t.st no,⟨t.stp.s0.trans ss,t.stp.s1,fun c o q=>?_,t.stp.s3⟩,t.own,t.dfn⟩,ss,w.MF b t.st.same,fun _ z=>z,fun _ z=>z⟩;by_cases y:c=a
  ·subst y;exact .inl n
  ·rw[ie y]at q;exact t.stp.s2 c o q
 |slot i=>
  obtain⟨q,_⟩:=r;unfold Dm.tk at e;dsimp only at e;split at e
  ·rename_i d' h;cases e;obtain⟨a,z,n,w⟩:=t.st.ow i _ h;rw[q]at z;cases z;obtain⟨s1,s2,s3⟩:=v7 t.st h q;have ss:=b8 (a:=a) t.st.same;refine⟨shr H0c H a,⟨s1,⟨t.stp.s0.trans ss,t.stp.s1,fun c o q'=>?_,t.stp.s3⟩,fun b z=>t.own b (s2 b z),fun j z=>s3 j (t.dfn j z)⟩,ss,w.MF (ak.refl _) t.st.same,s2,s3⟩;by_cases y:c=a
   ·subst y;exact .inr (.inr (t.own c ⟨i,_,h,q⟩))
   ·rw[ie y]at q';exact t.stp.s2 c o q'
  ·rename_i d' h;cases e;obtain⟨u,z,w⟩:=t.st.sh i _ h;rw[q]at z;cases z;exact⟨H0c,t,ak.refl _,w,fun _ z=>z,fun _ z=>z⟩
  ·cases e
theorem takes{Hs H0s H0 H:Hp}{ρs:Dm.Env}:∀{xs:List Dm.Val} {vs:List V} {ρ ρ':Dm.Env} {ds:List Dm.Dat} {H0c:Hp},ESt σ ρs H0s Hs ρ H0c H->ak H0 H0c->cQ Hs H0 H σ ρ vs xs->Dm.tks ρ xs=some (ds,ρ') ->
  ∃ig,ESt σ ρs H0s Hs ρ' ig H/\ak H0c ig/\av ig vs ds
 |[],_,ρ,ρ',ds,H0c,t,b,r,e=>by cases r;cases e;exact⟨H0c,t,ak.refl _,.nil⟩
 |x::xs,_,ρ,ρ',ds,H0c,t,b,r,e=>by
  cases r with
  |cons h r=>
   unfold Dm.tks at e;split at e
   ·cases e
   ·rename_i d ρ1 e1;split at e
    ·cases e
    ·rename_i ds' ρ2 e2;cases e;obtain⟨H1,t1,b1,r1,o1,d1⟩:=take1 t b h e1;obtain⟨H2,t2,b2,r2⟩:=takes t1 (b.trans b1) (r.rho o1 d1) e2;exact⟨H2,t2,b1.trans b2,.cons (r1.mono b2) r2⟩
theorem MG{ρ ρ':Dm.Env}(e:Dm.tk ρ x=some (d,ρ'))(y:Dm.Val):Dm.pk ρ' y=Dm.pk ρ y:=by
 cases x with
 |val d'=>cases e;rfl
 |new d'=>cases e;rfl
 |slot i=>
  unfold Dm.tk at e;dsimp only at e;split at e
  ·rename_i d' h;cases e;cases y with
   |val _=>rfl
   |new _=>rfl
   |slot j=>
    unfold Dm.pk;dsimp only;by_cases z:j=i
    ·subst z;rw[QZ (Qx.mp h).1,h]
    ·rw[eg (Ne.symm z)]
  ·cases e;rfl
  ·cases e
theorem Bt(e:Dm.pk ρ x=some d):∃ρ',Dm.tk ρ x=some (d,ρ'):=by
 cases x with
 |val d'=>cases e;exact⟨ρ,rfl⟩
 |new d'=>cases e;exact⟨ρ,rfl⟩
 |slot i=>
  unfold Dm.pk at e;dsimp only at e;unfold Dm.tk;dsimp only;split at e
  ·rename_i d' h;cases e;exact⟨_,rfl⟩
  ·rename_i d' h;cases e;exact⟨_,rfl⟩
  ·cases e
theorem mF:∀{xs:List Dm.Val} {ρ:Dm.Env} {ds:List Dm.Dat},Dm.pks ρ xs=some ds->∃ρ',Dm.tks ρ xs=some (ds,ρ')
 |[],ρ,ds,e=>by cases e;exact⟨ρ,rfl⟩
 |x::xs,ρ,ds,e=>by
  unfold Dm.pks at e;split at e
  ·cases e
  ·rename_i d e1;split at e
   ·cases e
   ·rename_i ds' e2;cases e;obtain⟨ρ1,h1⟩:=Bt e1;have key:∀ys:List Dm.Val,Dm.pks ρ1 ys=Dm.pks ρ ys:=fun ys=>by
     induction ys with
     |nil=>rfl
     |cons y ys ih=>unfold Dm.pks;rw[MG h1 y,ih]
    obtain⟨ρ2,h2⟩:=mF (xs:=xs) (ρ:=ρ1) (ds:=ds') (by rw[key];exact e2);exact⟨ρ2,by unfold Dm.tks;rw[h1];dsimp only;rw[h2]⟩
theorem looks{Hs H0 H:Hp}(st:ay H0 H σ ρ):∀{xs:List Dm.Val} {vs:List V} {ds:List Dm.Dat},cQ Hs H0 H σ ρ vs xs->Dm.pks ρ xs=some ds->tw H0 H vs ds
 |[],_,ds,r,e=>by cases r;cases e;exact .nil
 |x::xs,_,ds,r,e=>by
  cases r with
  |cons h r=>
   unfold Dm.pks at e;split at e
   ·cases e
   ·rename_i d e1;split at e
    ·cases e
    ·rename_i ds' e2;cases e;exact .cons (h.look st e1) (looks st r e2)
def OpD(r:R2)(g:Dm.Dat->Dm.Dat->Option Dm.RV):Prop:=∀(H0 H:Hp) (x y:V) (dx dy:Dm.Dat) (z:Dm.RV) (Q:VK),ak H0 H->j7 H0 H x dx->j7 H0 H y dy->g dx dy=some z ->
 (∀v H0' H',aI H0 H H0' H'->qS H H0' H' v z->Q v H')->r x y H Q
def UnD(r:V->Hp->VK->Prop)(g:Dm.Dat->Option Dm.RV):Prop:=∀(H0 H:Hp) (x:V) (dx:Dm.Dat) (z:Dm.RV) (Q:VK),ak H0 H->j7 H0 H x dx->g dx=some z ->
 (∀v H0' H',aI H0 H H0' H'->qS H H0' H' v z->Q v H')->r x H Q
def CallD(r:List V->Hp->VK->Prop)(g:List Dm.Dat->Option Dm.RV):Prop:=∀(H0 H:Hp) (vs:List V) (ds:List Dm.Dat) (z:Dm.RV) (Q:VK),ak H0 H->tw H0 H vs ds->g ds=some z ->
 (∀v H0' H',aI H0 H H0' H'->qS H H0' H' v z->Q v H')->r vs H Q
def spD(f:List Dm.Dat->Option Dm.RV):Sp:=fun vs H Q _=>∃H0 ds z,ak H0 H/\av H0 vs ds/\f ds=some z/\∀v H0' H',aI H0 H H0' H'->qS H H0' H' v z->Q v H'
end
section
variable{σ:St}{H:Hp}{Q:VK}
section
variable{fs:List Dm.FE}{d:Dm.Dat}{t u:Dm.FT}{v:V}{a:Dm.FE}{H0:Hp}
theorem MH{i:Nat}(h:tD (Dm.eV i) σ H Q):l8 i σ H Q:=by
 obtain⟨H0,ρ,x,ρ',st,e,k⟩:=h;unfold Dm.eV at e;split at e
 ·rename_i d h1;cases e;obtain⟨v,q,r⟩:=st.sh i d h1;exact⟨v,q,k v H0 H (.refl st) r⟩
 ·rename_i d h1;cases e;obtain⟨a,q,_⟩:=st.ow i d h1;exact⟨_,q,k _ H0 H (.refl st) ⟨q,trivial⟩⟩
 ·cases e
theorem qT(c:∀H0:Hp,Rep H0 v d)(h:tD (Dm.eC d) σ H Q):tC v σ H Q:=by obtain⟨H0,ρ,x,ρ',st,e,k⟩:=h;cases e;exact k v H0 H (.refl st) (c H0)
theorem v8{r:R2}{g:Dm.Dat->Dm.Dat->Option Dm.RV}{fa fb:Dm.FE}(o:OpD r g)(h:tD (Dm.e2 g fa fb) σ H Q):tOp r (tD fa) (tD fb) σ H Q:=by
 obtain⟨H0,ρ,x,ρ',st,e,k⟩:=h;unfold Dm.e2 at e;split at e
 ·cases e
 rename_i x1 ρ1 e1;split at e
 ·cases e
 rename_i y1 ρ2 e2;split at e
 ·cases e
 rename_i dx p1;split at e
 ·cases e
 rename_i dy p2;split at e
 ·cases e
 rename_i z gz;cases e;refine⟨H0,ρ,x1,ρ1,st,e1,fun v H1 Hb t1 r1=>⟨H1,ρ1,y1,_,t1.st,e2,fun u H2 Hc t2 r2=>?_⟩⟩;refine o H2 Hc v u dx dy z Q t2.st.same ((r1.mono t2).look t2.st p1) (r2.look t2.st p2) gz fun w H3 Hd g3 r3=>?_;exact k w H3 Hd (t1.trans (t2.trans (.grow t2.st g3))) ((r3.toV t2.st).early fun a n=>(t1.trans t2).stp.gone n)
theorem O9{r:V->Hp->VK->Prop}{g:Dm.Dat->Option Dm.RV}{fa:Dm.FE}(o:UnD r g)(h:tD (Dm.e1 g fa) σ H Q):tUn r (tD fa) σ H Q:=by
 obtain⟨H0,ρ,x,ρ',st,e,k⟩:=h;unfold Dm.e1 at e;split at e
 ·cases e
 rename_i x1 ρ1 e1;split at e
 ·cases e
 rename_i dx p1;split at e
 ·cases e
 rename_i z gz;cases e;refine⟨H0,ρ,x1,_,st,e1,fun v H1 Hb t1 r1=>?_⟩;refine o H1 Hb v dx z Q t1.st.same (r1.look t1.st p1) gz fun w H3 Hd g3 r3=>?_;exact k w H3 Hd (t1.trans (.grow t1.st g3)) ((r3.toV t1.st).early fun a n=>t1.stp.gone n)
theorem MI{Q:List V->Hp->Prop}(h:tDA [] σ H Q):qL σ H Q:=by obtain⟨H0,ρ,xs,ρ',st,e,k⟩:=h;cases e;exact k [] H0 H (.refl st) .nil
theorem JQ{f:Dm.FE}{Q:List V->Hp->Prop}(h:tDA (f::fs) σ H Q):kU (tD f) (tDA fs) σ H Q:=by
 obtain⟨H0,ρ,xs,ρ',st,e,k⟩:=h;unfold Dm.eAs at e;split at e
 ·cases e
 rename_i x1 ρ1 e1;split at e
 ·cases e
 rename_i xs1 ρ2 e2;cases e;refine⟨H0,ρ,x1,ρ1,st,e1,fun v H1 Hb t1 r1=>⟨H1,ρ1,xs1,_,t1.st,e2,fun vs H2 Hc t2 r2=>?_⟩⟩;exact k (v::vs) H2 Hc (t1.trans t2) (.cons (r1.mono t2) (r2.early fun a n=>t1.stp.gone n))
theorem MJ{r:List V->Hp->VK->Prop}{g:List Dm.Dat->Option Dm.RV}(o:CallD r g)(h:tD (Dm.eB g fs) σ H Q):tCB r (tDA fs) σ H Q:=by
 obtain⟨H0,ρ,x,ρ',st,e,k⟩:=h;unfold Dm.eB at e;split at e
 ·cases e
 rename_i xs ρ1 e1;split at e
 ·cases e
 rename_i ds p1;split at e
 ·cases e
 rename_i z gz;cases e;refine⟨H0,ρ,xs,_,st,e1,fun vs H1 Hb t1 r1=>?_⟩;refine o H1 Hb vs ds z Q t1.st.same (looks t1.st r1 p1) gz fun w H3 Hd g3 r3=>?_;exact k w H3 Hd (t1.trans (.grow t1.st g3)) ((r3.toV t1.st).early fun a n=>t1.stp.gone n)
theorem jz{n:Nat}(h:n<=Dm.SZ):n<=sizeLine:=QT h (by decide)
theorem MK(h:tD (Dm.e_ fs) σ H Q):My (tDA fs) σ H Q:=by
 obtain⟨H0,ρ,x,ρ',st,e,k⟩:=h;unfold Dm.e_ at e;split at e
 ·cases e
 rename_i xs ρ1 e1;split at e
 ·cases e
 rename_i ds ρ2 e2;split at e
 ·rename_i hz;cases e;refine⟨H0,ρ,xs,ρ1,st,e1,fun vs H1 Hb t1 r1=>?_⟩;obtain⟨H2,t2,b2,r2⟩:=takes t1 (ak.refl _) r1 e2;refine⟨by rw[r2.length];exact jz hz,fun p hp=>?_⟩;have g:=aI.Bs (o:=HO.tup vs) t2.st.same hp;exact k _ _ _ (t2.trans (.grow t2.st g)) (.tup au (r2.mono g.s0))
 ·cases e
theorem ML(h:tD (Dm.cB fs) σ H Q):Fi (tDA fs) σ H Q:=by
 obtain⟨H0,ρ,x,ρ',st,e,k⟩:=h;unfold Dm.cB at e;split at e
 ·cases e
 rename_i xs ρ1 e1;split at e
 ·cases e
 rename_i ds ρ2 e2;split at e
 ·rename_i hz;cases e;refine⟨H0,ρ,xs,ρ1,st,e1,fun vs H1 Hb t1 r1=>?_⟩;obtain⟨H2,t2,b2,r2⟩:=takes t1 (ak.refl _) r1 e2;refine⟨by rw[r2.length];exact jz hz,fun p hp=>?_⟩;have g:=aI.j8 (o:=HO.lst vs) t2.st.same hp;refine k _ _ _ (t2.trans (.grow t2.st g)) ⟨p,rfl,t2.stp.gone hp,fun⟨i,d,h1,h2⟩=>?_,t2.st.same.free hp,vs,au,r2⟩;obtain⟨a,q,_,w⟩:=t2.st.ow i d h1;rw[h2]at q;cases q;obtain⟨o,z⟩:=w.some;rw[hp]at z;cases z
 ·cases e
theorem Rep.plain{H0 H1:Hp}(r:Rep H0 v d)(n:Dm.cj d=false):Rep H1 v d:=by
 cases r with
 |non=>exact .non
 |bl b=>exact .bl b
 |int i=>exact .int i
 |str s=>exact .str s
 |tup _ _=>cases n
 |lst _ _=>cases n
 |dct _ _ _=>cases n
 |dcp _ _ _=>cases n
 |exc _=>cases n
 |bU _ _=>cases n
 |fn a=>exact .fn a
theorem Own.box{H0 H:Hp}{a:Addr}(w:Own H0 H a d):Dm.cj d=true:=by
 cases d with
 |lst ds=>rfl
 |dct ks ds=>rfl
 |dcp ks ds=>rfl
 |_=>exact Rc w
theorem JR{f:List Dm.Dat->Option Dm.RV}{E:XK}(h:tD (Dm.eF f fs) σ H Q):pR (spD f) [] E (tDA fs) σ H Q:=by
 obtain⟨H0,ρ,x,ρ',st,e,k⟩:=h;unfold Dm.eF at e;split at e
 ·cases e
 rename_i xs ρ1 e1;split at e
 ·cases e
 rename_i ds p1;split at e
 ·cases e
 rename_i z fz;refine⟨H0,ρ,xs,ρ1,st,e1,fun vs H1 Hb t1 r1=>?_⟩;dsimp only;rw[Rr];obtain⟨ρ2,e2⟩:=mF p1;obtain⟨H2,t2,b2,r2⟩:=takes t1 (ak.refl _) r1 e2;split at e
 ·rw[e2]at e;cases e;exact⟨H2,ds,z,t2.st.same,r2,fz,fun w H3 Hd g3 r3=>k w H3 Hd (t2.trans (.grow t2.st g3)) ((r3.toV t2.st).early fun a n=>t2.stp.gone n)⟩
 ·rename_i nb;cases e;refine⟨H2,ds,z,t2.st.same,r2,fz,fun w H3 Hd g3 r3=>?_⟩;have g:aI H1 Hb H1 Hd:=⟨ak.refl _,g3.s1,fun a o q=>.inr q,t1.st.same.trans g3.s1⟩
  refine k w H1 Hd (t1.trans (.grow t1.st g)) ?_;cases z with
  |val d=>exact Rep.plain r3 (by simpa [Dm.RV.dat] using nb)
  |new d=>obtain⟨a,_,_,_,w⟩:=r3;exact absurd w.box (by simpa [Dm.RV.dat] using nb)
theorem Rep.qU{c:Bool}(r:Rep H0 v (.bl c)):v=.bl c:=by cases r;rfl
theorem Rep.isInt{c:Int}(r:Rep H0 v (.int c)):v=.int c:=by cases r;rfl
theorem MM{a b:Dm.FE}(h:tD (Dm.dX a b) σ H Q):HA (tD a) (tD b) σ H Q:=by
 obtain⟨H0,ρ,x,ρ',st,e,k⟩:=h;unfold Dm.dX at e;split at e
 ·rename_i ρ1 e1;refine⟨H0,ρ,_,_,st,e1,fun v H1 Hb t1 r1=>⟨true,Rep.qU r1,?_⟩⟩
  try dsimp only
  rw[if_pos rfl];exact⟨H1,ρ1,x,ρ',t1.st,e,fun v H2 Hc t2 r2=>k v H2 Hc (t1.trans t2) (r2.early fun a n=>t1.stp.gone n)⟩
 ·rename_i ρ1 e1;cases e;refine⟨H0,ρ,_,_,st,e1,fun v H1 Hb t1 r1=>⟨false,Rep.qU r1,?_⟩⟩
  try dsimp only
  rw[if_neg Q0];exact k _ H1 Hb t1 (Rep.bl false)
 ·cases e
theorem MN(h:tD (Dm.vZ a) σ H Q):HB (tD a) σ H Q:=by
 obtain⟨H0,ρ,x,ρ',st,e,k⟩:=h;unfold Dm.vZ at e;split at e
 ·rename_i c ρ1 e1;cases e;exact⟨H0,ρ,_,_,st,e1,fun v H1 Hb t1 r1=>⟨c,Rep.qU r1,k _ H1 Hb t1 (Rep.bl (!c))⟩⟩
 ·cases e
variable{Qt:Bool->Hp->Prop}
theorem qV(h:tDT (Dm.tV a) σ H Qt):HG (tD a) σ H Qt:=by
 obtain⟨H0,ρ,x,ρ',st,e,k⟩:=h;unfold Dm.tV at e;split at e
 ·rename_i c ρ1 e1;cases e;exact⟨H0,ρ,_,_,st,e1,fun v H1 Hb t1 r1=>⟨_,Rep.qU r1,k H1 Hb t1⟩⟩
 ·cases e
theorem JS{t:Dm.FT}(h:tDT (Dm.eZ t) σ H Qt):eZ (tDT t) σ H Qt:=by
 obtain⟨H0,ρ,x,ρ',st,e,k⟩:=h;unfold Dm.eZ at e;split at e
 ·rename_i c ρ1 e1;cases e;exact⟨H0,ρ,_,_,st,e1,fun H1 Hb t1=>k H1 Hb t1⟩
 ·cases e
theorem JT(h:tDT (Dm.l9 t u) σ H Qt):l9 (tDT t) (tDT u) σ H Qt:=by
 obtain⟨H0,ρ,x,ρ',st,e,k⟩:=h;unfold Dm.l9 at e;split at e
 ·rename_i ρ1 e1;refine⟨H0,ρ,_,ρ1,st,e1,fun H1 Hb t1=>?_⟩;dsimp only;rw[if_pos rfl];exact⟨H1,ρ1,x,ρ',t1.st,e,fun H2 Hc t2=>k H2 Hc (t1.trans t2)⟩
 ·rename_i ρ1 e1;cases e;refine⟨H0,ρ,_,_,st,e1,fun H1 Hb t1=>?_⟩;dsimp only;rw[if_neg Q0];exact k H1 Hb t1
 ·cases e
theorem MO(h:tDT (Dm.tOr t u) σ H Qt):tOr (tDT t) (tDT u) σ H Qt:=by
 obtain⟨H0,ρ,x,ρ',st,e,k⟩:=h;unfold Dm.tOr at e;split at e
 ·rename_i ρ1 e1;cases e;refine⟨H0,ρ,_,_,st,e1,fun H1 Hb t1=>?_⟩;dsimp only;rw[if_pos rfl];exact k H1 Hb t1
 ·rename_i ρ1 e1;refine⟨H0,ρ,_,ρ1,st,e1,fun H1 Hb t1=>?_⟩;dsimp only;rw[if_neg Q0];exact⟨H1,ρ1,x,ρ',t1.st,e,fun H2 Hc t2=>k H2 Hc (t1.trans t2)⟩
 ·cases e
end
end
section
variable{ρ:Dm.Env}{H0 H:Hp}{σ:L2.St}
structure SSt(σ:St)(ρ:Dm.Env)(H0 H:Hp)(σ':St)(ρ':Dm.Env)(H0' H':Hp):Prop where
 st:ay H0' H' σ' ρ'
 stp:Stp (aj σ ρ) H0 H H0' H'
 own:∀a,aj σ' ρ' a->aj σ ρ a\/H a=none
 fx:σ'[0]?=σ[0]?
theorem ESt.sst{σ:St}{ρ ρ':Dm.Env}{H0 H H0' H':Hp}(t:ESt σ ρ H0 H ρ' H0' H'):SSt σ ρ H0 H σ ρ' H0' H':=⟨t.st,t.stp,fun a z=>.inl (t.own a z),rfl⟩
theorem SSt.refl{σ:St}(st:ay H0 H σ ρ):SSt σ ρ H0 H σ ρ H0 H:=(ESt.refl st).sst
theorem SSt.trans{σ σ1 σ2:St}{ρ ρ1 ρ2:Dm.Env}{H0 H H1 H' H2 H'':Hp}(t:SSt σ ρ H0 H σ1 ρ1 H1 H')(u:SSt σ1 ρ1 H1 H' σ2 ρ2 H2 H''):SSt σ ρ H0 H σ2 ρ2 H2 H'':=
 ⟨u.st,t.stp.trans u.stp t.own,fun a z=>(u.own a z).elim (t.own a) fun n=>.inr (t.stp.gone n),u.fx.trans t.fx⟩
def MP(σ:St)(ρ:Dm.Env)(H H0' H':Hp)(v:V):Dm.RV->Prop
 |.val d=>Rep H0' v d
 |.new d=>∃a,v=V.ref a/\(H a=none\/aj σ ρ a)/\H0' a=none/\Own H0' H' a d
def mG(D:Ends)(σ:St)(ρ:Dm.Env)(H0 H:Hp):Dm.Out->Prop
 |.nx ρ'=>∀σ' H0' H',SSt σ ρ H0 H σ' ρ' H0' H'->D.nx σ' H'
 |.bk ρ'=>∀σ' H0' H',SSt σ ρ H0 H σ' ρ' H0' H'->D.bk σ' H'
 |.ct ρ'=>∀σ' H0' H',SSt σ ρ H0 H σ' ρ' H0' H'->D.ct σ' H'
 |.ret z ρ'=>∀σ' v H0' H',SSt σ ρ H0 H σ' ρ' H0' H'->MP σ ρ H H0' H' v z->(∀d a,z=.new d->v=.ref a->¬aj σ' ρ' a)->D.rt v H'
def tDS(g:Dm.FS):TS:=fun D σ H=>∃H0 ρ o,ay H0 H σ ρ/\g ρ=some o/\mG D σ ρ H0 H o
theorem mG.pre{D:Ends}{σ σ1:St}{ρ ρ1:Dm.Env}{H0 H H1 H':Hp}{o:Dm.Out}(t:SSt σ ρ H0 H σ1 ρ1 H1 H')(k:mG D σ ρ H0 H o):mG D σ1 ρ1 H1 H' o:=by
 cases o with
 |nx ρ'=>exact fun σ' H0' H' u=>k σ' H0' H' (t.trans u)
 |bk ρ'=>exact fun σ' H0' H' u=>k σ' H0' H' (t.trans u)
 |ct ρ'=>exact fun σ' H0' H' u=>k σ' H0' H' (t.trans u)
 |ret z ρ'=>
  refine fun σ' v H0' H'' u r no=>k σ' v H0' H'' (t.trans u) ?_ no;cases z with
  |val d=>exact r
  |new d=>
   obtain⟨a,e,n,n0,w⟩:=r;refine⟨a,e,?_,n0,w⟩;rcases n with n | n
   ·exact .inl (t.stp.gone n)
   ·exact(t.own a n).symm
theorem ay.mask(st:ay H0 H σ ρ)(i:Nat):ay H0 H σ (ρ.set i .un) where
 same:=st.same
 len:=by rw[QU];exact st.len
 sh:=fun j d h=>by
  by_cases q:i=j
  ·subst q;rw[Sw]at h;simp only[if_true]at h;split at h<;>cases h
  ·rw[eg q]at h;exact st.sh j d h
 ow:=fun j d h=>by
  by_cases q:i=j
  ·subst q;rw[Sw]at h;simp only[if_true]at h;split at h<;>cases h
  ·rw[eg q]at h;exact st.ow j d h
 dis:=fun j j' d d' a h1 h2 h3 h4=>by
  by_cases q:i=j
  ·subst q;rw[Sw]at h1;simp only[if_true]at h1;split at h1<;>cases h1
  ·by_cases q':i=j'
   ·subst q';rw[Sw]at h2;simp only[if_true]at h2;split at h2<;>cases h2
   ·rw[eg q]at h1;rw[eg q']at h2;exact st.dis j j' d d' a h1 h2 h3 h4
theorem bM{i:Nat}{a:Addr}(h:aj σ (ρ.set i .un) a):∃(j:Nat) (d:Dm.Dat),j≠i/\ρ[j]?=some (Dm.Cell.ow d)/\σ[j]?=some (some (V.ref a)):=by
 obtain⟨j,d,h1,h2⟩:=h;by_cases q:i=j
 ·subst q;rw[Sw]at h1;simp only[if_true]at h1;split at h1<;>cases h1
 ·rw[eg q]at h1;exact⟨j,d,fun z=>q z.symm,h1,h2⟩
end
section
variable{D:Ends}{σ:St}{H:Hp}
theorem O_(h:tDS Dm.sNx D σ H):xW D σ H:=by obtain⟨H0,ρ,o,st,e,k⟩:=h;cases e;exact k σ H0 H (.refl st)
theorem MQ{s u:Dm.FS}(h:tDS (Dm.aq s u) D σ H):o9 (tDS s) (tDS u) D σ H:=by
 obtain⟨H0,ρ,o,st,e,k⟩:=h;unfold Dm.aq at e;split at e
 ·rename_i ρ1 e1;exact⟨H0,ρ,.nx ρ1,st,e1,fun σ' H0' H' t=>⟨H0',ρ1,o,t.st,e,k.pre t⟩⟩
 ·rename_i h1;cases o with
  |nx ρ1=>exact absurd e (h1 ρ1)
  |bk ρ1=>exact⟨H0,ρ,_,st,e,k⟩
  |ct ρ1=>exact⟨H0,ρ,_,st,e,k⟩
  |ret z ρ1=>exact⟨H0,ρ,_,st,e,k⟩
theorem JU{f:Dm.FE}(h:tDS (Dm.sE f) D σ H):pQ (tD f) D σ H:=by
 obtain⟨H0,ρ,o,st,e,k⟩:=h;unfold Dm.sE at e;split at e
 ·cases e
 ·rename_i x ρ1 e1;cases e;exact⟨H0,ρ,x,ρ1,st,e1,fun v H0' H' t r=>k σ H0' H' t.sst⟩
theorem MR{f:Dm.FE}(h:tDS (Dm.sR f) D σ H):Mq (tD f) D σ H:=by
 obtain⟨H0,ρ,o,st,e,k⟩:=h;unfold Dm.sR at e;split at e
 ·cases e
 ·rename_i d ρ1 e1;cases e;refine⟨H0,ρ,_,ρ1,st,e1,fun v H0' H' t r=>?_⟩;obtain⟨a,e,n,no,n0,w⟩:=r;exact k σ v H0' H' t.sst ⟨a,e,.inl n,n0,w⟩ fun d' a' _ e' z=>by rw[e]at e';cases e';exact no z
 ·rename_i d ρ1 e1;cases e;exact⟨H0,ρ,_,ρ1,st,e1,fun v H0' H' t r=>k σ v H0' H' t.sst r fun d' a' z=>by cases z⟩
 ·rename_i i ρ1 e1;split at e
  ·rename_i d h1;cases e;refine⟨H0,ρ,_,ρ1,st,e1,fun v H0' H' t r=>?_⟩;obtain⟨q,_⟩:=r;obtain⟨a,q',n0,w⟩:=t.st.ow i d h1;rw[q]at q';cases q';refine k σ _ H0' H' ⟨t.st.mask i,t.stp,fun b z=>?_,rfl⟩ ⟨a,rfl,.inr (t.own a ⟨i,d,h1,q⟩),n0,w⟩ fun d' a' _ e' z=>?_
   ·obtain⟨j,d2,_,z1,z2⟩:=bM z;exact .inl (t.own b ⟨j,d2,z1,z2⟩)
   ·cases e';obtain⟨j,d2,hj,z1,z2⟩:=bM z;exact hj (t.st.dis j i d2 d a z1 h1 z2 q)
  ·rename_i d h1;cases e;refine⟨H0,ρ,_,ρ1,st,e1,fun v H0' H' t r=>?_⟩;obtain⟨q,_⟩:=r;obtain⟨u,q',w⟩:=t.st.sh i d h1;rw[q]at q';cases q';exact k σ _ H0' H' t.sst w fun d' a' z=>by cases z
  ·cases e
theorem MT{t:Dm.FT}{a b:Dm.FS}(h:tDS (Dm.sIf t a b) D σ H):AO (tDT t) (tDS a) (tDS b) D σ H:=by
 obtain⟨H0,ρ,o,st,e,k⟩:=h;unfold Dm.sIf at e;split at e
 ·cases e
 ·rename_i ρ1 e1;refine⟨H0,ρ,true,ρ1,st,e1,fun H1 Hb t1=>?_⟩;dsimp only;rw[if_pos rfl];exact⟨H1,ρ1,o,t1.st,e,k.pre t1.sst⟩
 ·rename_i ρ1 e1;refine⟨H0,ρ,false,ρ1,st,e1,fun H1 Hb t1=>?_⟩;dsimp only;rw[if_neg Q0];exact⟨H1,ρ1,o,t1.st,e,k.pre t1.sst⟩
end
section
variable{ρ:Dm.Env}{σ:St}{i:Nat}{H0 H:Hp}{d:Dm.Dat}{a:Addr}{b:Addr}{o:HO}{v:V}
theorem gg{i j:Nat}{c d:Option V}(h:(σ.set i c)[j]?=some d):(j=i/\d=c)\/(j≠i/\σ[j]?=some d):=by
 by_cases e:j=i
 ·subst e;by_cases l:j<σ.length
  ·rw[QZ l]at h;exact .inl ⟨rfl,(Option.some.inj h).symm⟩
  ·rw[Q6 (by simpa using RS.mp l)]at h;cases h
 ·rw[eg (Ne.symm e)]at h;exact .inr ⟨e,h⟩
theorem ay.inσ{c d:Dm.Cell}(st:ay H0 H σ ρ)(h:(ρ.set i c)[i]?=some d):i<σ.length:=by have:=(Qx.mp h).1;rw[QU]at this;rw[st.len];exact this
theorem dg(h:aj (σ.set i (some v)) (ρ.set i (.sh d)) b):aj σ ρ b:=by
 obtain⟨j,d',h1,h2⟩:=h;rcases aD h1 with⟨_,z⟩ | ⟨hj,h1⟩
 ·cases z
 ·rcases gg h2 with⟨z,_⟩ | ⟨_,h2⟩
  ·exact absurd z hj
  ·exact⟨j,d',h1,h2⟩
theorem ay.qW(st:ay H0 H σ ρ)(r:Rep H0 v d):ay H0 H (σ.set i (some v)) (ρ.set i (.sh d)) where
 same:=st.same
 len:=by rw[QU,QU];exact st.len
 sh:=fun j d' h=>by
  rcases aD h with⟨rfl,z⟩ | ⟨hj,h'⟩
  ·cases z;exact⟨v,QZ (st.inσ h),r⟩
  ·obtain⟨u,q,w⟩:=st.sh j d' h';exact⟨u,by rw[eg (Ne.symm hj)];exact q,w⟩
 ow:=fun j d' h=>by
  rcases aD h with⟨_,z⟩ | ⟨hj,h'⟩
  ·cases z
  ·obtain⟨u,q,w⟩:=st.ow j d' h';exact⟨u,by rw[eg (Ne.symm hj)];exact q,w⟩
 dis:=fun j k d1 d2 b h1 h2 h3 h4=>by
  rcases aD h1 with⟨_,z⟩ | ⟨hj,h1⟩
  ·cases z
  rcases aD h2 with⟨_,z⟩ | ⟨hk,h2⟩
  ·cases z
  rw[eg (Ne.symm hj)]at h3;rw[eg (Ne.symm hk)]at h4;exact st.dis j k d1 d2 b h1 h2 h3 h4
theorem ay.Bu(st:ay H0 H σ ρ)(no:¬aj σ ρ a)(n0:H0 a=none)(w:Own H0 H a d):ay H0 H (σ.set i (some (.ref a))) (ρ.set i (.ow d)) where
 same:=st.same
 len:=by rw[QU,QU];exact st.len
 sh:=fun j d' h=>by
  rcases aD h with⟨_,z⟩ | ⟨hj,h'⟩
  ·cases z
  ·obtain⟨u,q,w⟩:=st.sh j d' h';exact⟨u,by rw[eg (Ne.symm hj)];exact q,w⟩
 ow:=fun j d' h=>by
  rcases aD h with⟨rfl,z⟩ | ⟨hj,h'⟩
  ·cases z;exact⟨a,QZ (st.inσ h),n0,w⟩
  ·obtain⟨u,q,w⟩:=st.ow j d' h';exact⟨u,by rw[eg (Ne.symm hj)];exact q,w⟩
 dis:=fun j k d1 d2 b h1 h2 h3 h4=>by
  rcases aD h1 with⟨e1,z1⟩ | ⟨hj,h1'⟩
  ·rcases aD h2 with⟨e2,z2⟩ | ⟨hk,h2'⟩
   ·rw[e1,e2]
   ·rcases gg h3 with⟨_,z⟩ | ⟨z,_⟩
    ·cases z;rw[eg (Ne.symm hk)]at h4;exact absurd ⟨k,d2,h2',h4⟩ no
    ·exact absurd e1 z
  ·rcases aD h2 with⟨e2,z2⟩ | ⟨hk,h2'⟩
   ·rcases gg h4 with⟨_,z⟩ | ⟨z,_⟩
    ·cases z;rw[eg (Ne.symm hj)]at h3;exact absurd ⟨j,d1,h1',h3⟩ no
    ·exact absurd e2 z
   ·rw[eg (Ne.symm hj)]at h3;rw[eg (Ne.symm hk)]at h4;exact st.dis j k d1 d2 b h1' h2' h3 h4
theorem qX{a b:Addr}(h:aj (σ.set i (some (.ref a))) (ρ.set i (.ow d)) b):b=a\/aj σ ρ b:=by
 obtain⟨j,d',h1,h2⟩:=h;rcases aD h1 with⟨e,_⟩ | ⟨hj,h1⟩
 ·rcases gg h2 with⟨_,z⟩ | ⟨z,_⟩
  ·cases z;exact .inl rfl
  ·exact absurd e z
 ·rcases gg h2 with⟨z,_⟩ | ⟨_,h2⟩
  ·exact absurd z hj
  ·exact .inr ⟨j,d',h1,h2⟩
theorem ay.write{d d':Dm.Dat}(st:ay H0 H σ ρ)(e:ρ[i]?=some (.ow d))(q:σ[i]?=some (some (V.ref a)))(w':Own H0 (upd H a o) a d') :
  ay H0 (upd H a o) σ (ρ.set i (.ow d')):=by
 obtain⟨a',q',n,w⟩:=st.ow i d e;rw[q]at q';cases q';refine⟨fun b u z=>?_,by rw[QU];exact st.len,fun j d1 h=>?_,fun j d1 h=>?_,fun j k d1 d2 b h1 h2 h3 h4=>?_⟩
 ·rw[aA (aP z n)];exact st.same _ _ z
 ·rcases aD h with⟨_,z⟩ | ⟨hj,h'⟩
  ·cases z
  ·exact st.sh j d1 h'
 ·rcases aD h with⟨rfl,z⟩ | ⟨hj,h'⟩
  ·cases z;exact⟨a,q,n,w'⟩
  ·obtain⟨b,q1,n1,w1⟩:=st.ow j d1 h';have nb:b≠a:=fun y=>hj (st.dis j i d1 d a h' e (y▸q1) q);exact⟨b,q1,n1,w1.mono (ak.refl _) (aA nb)⟩
 ·have f:∀{j:Nat} {d1:Dm.Dat},(ρ.set i (.ow d'))[j]?=some (.ow d1)->∃d2,ρ[j]?=some (.ow d2):=fun {j d1} h=>by
   rcases aD h with⟨rfl,_⟩ | ⟨_,h'⟩
   ·exact⟨d,e⟩
   ·exact⟨d1,h'⟩
  obtain⟨x1,y1⟩:=f h1;obtain⟨x2,y2⟩:=f h2;exact st.dis j k x1 x2 b y1 y2 h3 h4
theorem b9{d d':Dm.Dat}(e:ρ[i]?=some (.ow d))(h:aj σ (ρ.set i (.ow d')) b):aj σ ρ b:=by
 obtain⟨j,d1,h1,h2⟩:=h;rcases aD h1 with⟨rfl,_⟩ | ⟨_,h'⟩
 ·exact⟨j,d,e,h2⟩
 ·exact⟨j,d1,h',h2⟩
theorem Stp.write(w:aj σ ρ a):Stp (aj σ ρ) H0 H H0 (upd H a o):=
 ⟨ak.refl _,fun b u e n=>by rw [aA (show b≠a from fun z=>n (by rw [z];exact w))];exact e,fun b u e=>.inr (.inl e),fun b u e=>by
  by_cases z:b=a
  ·subst z;exact⟨o,au⟩
  ·exact⟨u,by rw[aA z];exact e⟩⟩
end
section
variable{D:Ends}{σ:St}{H:Hp}
section
variable{f:Dm.FE}{is:List Nat}{ρ:Dm.Env}{body:Dm.FS}{a:Addr}{i:Nat}{ds:List Dm.Dat}{d:Dm.Dat}{bd:Dm.FB}{n:Nat}{xs:List V}{vs:List V}{H0:Hp}{k:Nat}{fi:Dm.FI}{t:Dm.FT}{g:TG}{o:HO}{Q:VK}{E:XK}
theorem Bv(h:tDS (Dm.sA i f) D σ H):l_ (tD f) (fS i) D σ H:=by
 obtain⟨H0,ρ,o,st,e,k⟩:=h;unfold Dm.sA at e;split at e
 ·cases e
 rename_i hi0;split at e
 ·cases e
 ·rename_i d ρ1 e1;cases e;refine⟨H0,ρ,_,ρ1,st,e1,fun v H0' H' t r=>?_⟩;obtain⟨a,e,n,no,n0,w⟩:=r;subst e;refine k _ H0' H' ⟨t.st.Bu no n0 w,t.stp,fun b z=>?_,eg hi0⟩;rcases qX z with rfl | z
  ·exact .inr n
  ·exact .inl (t.own b z)
 ·rename_i x ρ1 _ e1;split at e
  ·cases e
  ·rename_i d ρ2 e2;cases e;refine⟨H0,ρ,_,ρ1,st,e1,fun v H0' H' t r=>?_⟩;obtain⟨H1,t1,b1,r1,_,_⟩:=take1 t (ak.refl _) r e2;exact k _ H1 H' ⟨t1.st.qW r1,t1.stp,fun b z=>.inl (t1.own b (dg z)),eg hi0⟩
theorem yh{j:Nat}(h:Def ρ j):Def (ρ.set i (.sh d)) j:=trivial
noncomputable def eS:List Nat->TGs
 |[]=>Ms
 |i::is=>HC (fS i) (eS is)
theorem qY{H0 H:Hp}{Q:St->Hp->Prop}:∀{is:List Nat} {xs:List V} {ds:List Dm.Dat} {σ:St} {ρ ρ':Dm.Env},ay H0 H σ ρ->av H0 xs ds->Dm.sets is ds ρ=some ρ' ->
  (∀σ',ay H0 H σ' ρ'->(∀a,aj σ' ρ' a->aj σ ρ a)->(∀j,j∉is->σ'[j]?=σ[j]?)->(∀j,Def ρ j->Def ρ' j)->σ'[0]?=σ[0]?->Q σ' H)->eS is xs σ H Q
 |[],_,[],σ,ρ,ρ',st,r,e,k=>by cases r;cases e;exact⟨rfl,k σ st (fun _ z=>z) (fun _ _=>rfl) (fun _ z=>z) rfl⟩
 |i::is,_,d::ds,σ,ρ,ρ',st,r,e,k=>by
  cases r with
  |cons h r=>
   unfold Dm.sets at e;split at e
   ·cases e
   rename_i hi0;refine⟨_,_,rfl,?_⟩;refine qY (st.qW h) r e fun σ' st' o' n' d' f'=>k σ' st' (fun a z=>dg (o' a z)) (fun j hj=>?_) (fun j z=>d' j (yh z)) (f'.trans (eg hi0));rw[n' j fun z=>hj (Pa _ z)];exact eg fun z=>hj (by rw[z];exact gV)
 |[],_,_::_,_,_,_,_,_,e,_=>by cases e
 |_::_,_,[],_,_,_,_,_,e,_=>by cases e
theorem mH:∀{is:List Nat} {ds:List Dm.Dat} {ρ ρ':Dm.Env},Dm.sets is ds ρ=some ρ'->ds.length=is.length
 |[],[],_,_,_=>rfl
 |i::is,_::ds,_,_,e=>by
  unfold Dm.sets at e;split at e
  ·cases e
  ·simp[mH (is:=is) (ds:=ds) e]
 |[],_::_,_,_,e=>by cases e
 |_::_,[],_,_,e=>by cases e
def BD(is:List Nat)(g:TG)(bd:Dm.FB):Prop:=∀(H0 H:Hp) (σ:St) (ρ ρ':Dm.Env) (x:V) (d:Dm.Dat) (Q:St->Hp->Prop),ay H0 H σ ρ->Rep H0 x d->bd d ρ=some ρ' ->
 (∀σ',ay H0 H σ' ρ'->(∀a,aj σ' ρ' a->aj σ ρ a)->(∀j,j∉is->σ'[j]?=σ[j]?)->(∀j,Def ρ j->Def ρ' j)->σ'[0]?=σ[0]?->Q σ' H)->g x σ H Q
theorem yi(i:Nat):BD [i] (fS i) (Dm.bN i):=by
 intro H0 H σ ρ ρ' x d Q st r e k;unfold Dm.bN at e;split at e
 ·cases e
 rename_i hi0;cases e;refine k _ (st.qW r) (fun a z=>dg z) (fun j hj=>?_) (fun j h=>yh h) (eg hi0);exact eg (fun z=>hj (by rw[z];exact QN.mpr rfl))
theorem Bw{K:Dk}(hn:is.length=n)(h:tDS (Dm.sU is f) D σ H):l_ (tD f) (Jm K n (eS is)) D σ H:=by
 obtain⟨H0,ρ,o,st,e,k⟩:=h;unfold Dm.sU at e;split at e
 ·cases e
 ·rename_i x ρ1 e1;split at e
  ·rename_i ds ρ2 e2;split at e
   ·cases e
   ·rename_i ρ3 e3;cases e;refine⟨H0,ρ,_,ρ1,st,e1,fun v H0' H' t r=>?_⟩;obtain⟨H1,t1,b1,r1,_,_⟩:=take1 t (ak.refl _) r e2;cases r1 with
    |tup q rs=>refine⟨_,_,rfl,SqT.of (t1.st.same _ _ q),by rw[rs.length,mH e3,hn],?_⟩;exact qY t1.st rs e3 fun σ' st' o' _ _ f'=>k σ' H1 H' ⟨st',t1.stp,fun a z=>.inl (t1.own a (o' a z)),f'⟩
  ·cases e
theorem Bx{K:Dk}(is:List Nat)(hn:is.length=n):BD is (Jm K n (eS is)) (Dm.bT is):=by
 intro H0 H σ ρ ρ' x d Q st r e k;unfold Dm.bT at e;split at e
 ·cases r with
  |tup q rs=>exact⟨_,_,rfl,SqT.of (st.same _ _ q),by rw[rs.length,mH e,hn],qY st rs e k⟩
 ·cases e
theorem MU{K:Dk}(h:tDS (Dm.qR i f) D σ H):pQ (tBM K "list" lR (l8 i) (tDA [f])) D σ H:=by
 obtain⟨H0,ρ,o,st,e,k⟩:=h;unfold Dm.qR at e;split at e
 ·rename_i ds0 h0;obtain⟨a0,q0,n0,w0⟩:=st.ow i _ h0;refine⟨_,q0,?_⟩;split at e
  ·cases e
  rename_i x ρ1 e1;split at e
  ·cases e
  rename_i d ρ2 e2;split at e
  ·rename_i ds h2;split at e
   ·rename_i hz;cases e;obtain⟨xs0,y0,_⟩:=w0;refine⟨.inl ⟨rfl,xs0,.inl (.inl y0)⟩,?_⟩;refine⟨H0,ρ,[x],ρ1,st,by unfold Dm.eAs;rw[e1];rfl,fun vs H0' H' t r=>?_⟩;cases r with
    |cons r rr=>
     cases rr;obtain⟨H1,t1,b1,r1,_,_⟩:=take1 t (ak.refl _) r e2;obtain⟨a,q,n,w⟩:=t1.st.ow i _ h2;rw[q0]at q;cases q;obtain⟨xs,y,rs⟩:=w;refine⟨a0,xs,_,rfl,rfl,y,by rw[rs.length];exact QM hz (by decide),?_⟩;have ow:aj σ ρ2 a0:=⟨i,_,h2,q0⟩
     refine k σ H1 _ ⟨t1.st.write h2 q0 ⟨_,au,rs.append (.cons r1 .nil)⟩,t1.stp.trans (Stp.write ow) fun b z=>.inl (t1.own b z),fun b z=>.inl (t1.own b (b9 h2 z)),rfl⟩
   ·cases e
  ·cases e
 ·cases e
theorem v9(n:Nat)(i:Int):Dm.ixN n i=L2.ixN n i:=rfl
theorem MV{j f:Dm.FE}(h:tDS (Dm.v5 i j f) D σ H):l_ (tD f) (f7 (l8 i) (tD j) pW) D σ H:=by
 obtain⟨H0,ρ,o,st,e,k⟩:=h;unfold Dm.v5 at e;split at e
 ·cases e
 rename_i x ρ1 e1;split at e
 ·cases e
 rename_i d ρ2 e2;split at e
 case h_2=>cases e
 rename_i d0 h2;split at e
 ·rename_i m ρ3 e3;split at e
  ·rename_i ds h3;split at e
   ·cases e
   ·rename_i p e4;cases e;refine⟨H0,ρ,_,ρ1,st,e1,fun v H0' H' t r=>?_⟩;obtain⟨H1,t1,b1,r1,_,_⟩:=take1 t (ak.refl _) r e2;obtain⟨a0,q0,_,_⟩:=t1.st.ow i _ h2;refine⟨_,q0,H1,ρ2,_,ρ3,t1.st,e3,fun u H2 Hc t2 r2=>?_⟩;obtain⟨a,q,n,w⟩:=t2.st.ow i _ h3;rw[q0]at q;cases q;obtain⟨xs,y,rs⟩:=w;refine⟨a0,xs,m,p,rfl,Rep.isInt r2,y,by rw[rs.length];exact e4,?_⟩;have ow:aj σ ρ3 a0:=⟨i,_,h3,q0⟩
    have tt:=t1.trans t2;refine k σ H2 _ ⟨t2.st.write h3 q0 ⟨_,au,rs.set (r1.mono t2.stp.s0) p⟩,tt.stp.trans (Stp.write ow) fun b z=>.inl (tt.own b z),fun b z=>.inl (tt.own b (b9 h3 z)),rfl⟩
  ·cases e
 ·cases e
theorem FF(h:tDS (Dm.whD t body n) D σ H):AU (tDT t) (tDS body) D σ H:=by
 refine⟨fun m σ H=>tDS (Dm.whD t body m) D σ H,⟨n,h⟩,?_⟩;rintro m σ H ⟨H0,ρ,o,st,e,k⟩;cases m with
 |zero=>unfold Dm.whD at e;cases e
 |succ m=>
  unfold Dm.whD at e;split at e
  ·cases e
  ·rename_i ρ1 e1;cases e;refine⟨H0,ρ,false,ρ1,st,e1,fun H1 Hb t1=>?_⟩;dsimp only;rw[if_neg Q0];exact k σ H1 Hb t1.sst
  ·rename_i ρ1 e1;refine⟨H0,ρ,true,ρ1,st,e1,fun H1 Hb t1=>?_⟩;dsimp only;rw[if_pos rfl];refine⟨fun σ' H'=>tDS (Dm.whD t body m) D σ' H',fun σ' H' q=>⟨m,Sg m,q⟩,?_⟩;have k1:=k.pre t1.sst;split at e
   ·rename_i ρ2 e2;exact⟨H1,ρ1,_,t1.st,e2,fun σ' H0' H' t2=>⟨H0',ρ2,o,t2.st,e,k1.pre t2⟩⟩
   ·rename_i ρ2 e2;exact⟨H1,ρ1,_,t1.st,e2,fun σ' H0' H' t2=>⟨H0',ρ2,o,t2.st,e,k1.pre t2⟩⟩
   ·rename_i ρ2 e2;cases e;exact⟨H1,ρ1,_,t1.st,e2,k1⟩
   ·rename_i v ρ2 e2;cases e;exact⟨H1,ρ1,_,t1.st,e2,k1⟩
   ·cases e
def JW(J:It)(H00:Hp)(ys:List Dm.Dat):Prop:=∀H0 H,ak H00 H0->ak H0 H->(∀i,ys.length<=i->J.stop i H) /\
 ∀(i:Nat) (d:Dm.Dat),ys[i]?=some d->J.go i H/\∀x H',J.yld i H x H'->∃H0',aI H0 H H0' H'/\Rep H0' x d
def tDI(fi:Dm.FI):TI:=fun σ H R=>∃H0 ρ ys ρ',ay H0 H σ ρ/\fi ρ=some (ys,ρ')/\∀J H0' H',ESt σ ρ H0 H ρ' H0' H'->JW J H0' ys->R J H'
theorem MW(hb:BD is g bd)(h:tDS (Dm.ff fi bd body) D σ H):Jo (tDI fi) g (tDS body) D σ H:=by
 obtain⟨H0,ρ,o,st,e,k⟩:=h;unfold Dm.ff at e;split at e
 ·cases e
 rename_i ys ρ1 e1;refine⟨H0,ρ,ys,ρ1,st,e1,fun J H00 Hb t1 jw=>?_⟩;refine ⟨fun i m σ H=>∃ H0 ρ o,ay H0 H σ ρ∧ak H00 H0∧m=ys.length-i∧i≤ys.length∧Dm.j4 bd body (ys.drop i) ρ=some o∧mG D σ ρ H0 H o,
  ⟨ys.length,H00,ρ1,o,t1.st,ak.refl _,by simp,Q4 _,by simpa using e,k.pre t1.sst⟩,?_⟩
 rintro i m σ H ⟨H0,ρ,o,st,s00,rfl,hi,e,k⟩;obtain⟨js,jg⟩:=jw H0 H s00 st.same;by_cases CK:i<ys.length
 ·have hd:ys[i]?=some ys[i]:=by simp[CK]
  obtain⟨g1,g2⟩:=jg i ys[i] hd;rw[RO CK]at e;unfold Dm.j4 at e;refine .inr ⟨g1,fun σ' H'=>∃H0 ρ o,ay H0 H' σ' ρ/\ak H00 H0/\Dm.j4 bd body (ys.drop (i+1)) ρ=some o/\mG D σ' ρ H0 H' o,?_,fun x H' y=>?_⟩
  ·rintro σ' H' ⟨H0',ρ',o',h1,h2,h3,h4⟩;exact⟨ys.length-(i+1),by lia,H0',ρ',o',h1,h2,rfl,CK,h3,h4⟩
  ·obtain⟨H0',gr,rx⟩:=g2 x H' y;split at e
   ·cases e
   ·rename_i ρ2 e2;have t2:=ESt.grow st gr;refine hb H0' H' σ ρ ρ2 x ys[i] _ t2.st rx e2 fun σ2 st2 o2 _ _ f2=>?_;have t3:SSt σ ρ H0 H σ2 ρ2 H0' H':=⟨st2,t2.stp,fun a z=>.inl (o2 a z),f2⟩
    have k3:=k.pre t3;have s3:ak H00 H0':=s00.trans gr.s0;split at e
    ·rename_i ρ3 e3;exact⟨H0',ρ2,_,st2,e3,fun σ4 H4 Hd t4=>⟨H4,ρ3,o,t4.st,s3.trans t4.stp.s0,e,k3.pre t4⟩⟩
    ·rename_i ρ3 e3;exact⟨H0',ρ2,_,st2,e3,fun σ4 H4 Hd t4=>⟨H4,ρ3,o,t4.st,s3.trans t4.stp.s0,e,k3.pre t4⟩⟩
    ·rename_i ρ3 e3;cases e;exact⟨H0',ρ2,_,st2,e3,k3⟩
    ·rename_i v ρ3 e3;cases e;exact⟨H0',ρ2,_,st2,e3,k3⟩
    ·cases e
 ·have e':i=ys.length:=by lia
  subst e';rw[SE]at e;cases e;exact .inl ⟨js _ (Pz _),k σ H0 H (.refl st)⟩
theorem FG{K:Dk}(hq:Rd H0 a (.lst xs))(rs:av H0 xs ds):JW (Itl K a) H0 ds:=by intro H0' H s0 s1;have q:SqL K H a xs:=.inl (ak.rd s1 (ak.rd s0 hq));refine⟨fun i hi=>⟨xs,q,by rw[rs.length];exact hi⟩,fun i d e=>?_⟩;obtain⟨v,hv,rv⟩:=rs.get e;refine⟨⟨xs,v,q,hv⟩,fun x H' y=>?_⟩;obtain⟨e1,y⟩:=y;subst e1;have z:=y xs q;rw[hv]at z;cases z;exact⟨H0',aI.refl s1,rv.mono s0⟩
theorem JV{K:Dk}(hq:H0 a=some (.tup xs))(rs:av H0 xs ds):JW (Itt K a) H0 ds:=by intro H0' H s0 s1;have q:SqT K H a xs:=.inl (.inl (s1 _ _ (s0 _ _ hq)));refine⟨fun i hi=>⟨xs,q,by rw[rs.length];exact hi⟩,fun i d e=>?_⟩;obtain⟨v,hv,rv⟩:=rs.get e;refine⟨⟨xs,v,q,hv⟩,fun x H' y=>?_⟩;obtain⟨e1,y⟩:=y;subst e1;have z:=y xs q;rw[hv]at z;cases z;exact⟨H0',aI.refl s1,rv.mono s0⟩
theorem tE{lo:Int}:JW (Itr lo n) H0 (Dm.ups lo n):=by
 intro H0' H s0 s1;have el:(Dm.ups lo n).length=n:=by simp[Dm.ups]
 refine⟨fun i hi=>by rw[el]at hi;exact hi,fun i d e=>?_⟩;have hi:i<n:=by have:=(Qx.mp e).1;rw[el]at this;exact this
 have hd:d=.int (lo+i):=by unfold Dm.ups at e;rw[QL,Sh hi]at e;exact(Option.some.inj e).symm
 refine⟨hi,fun x H' y=>?_⟩;obtain⟨rfl,rfl⟩:=y;subst hd;exact⟨H0',aI.refl s1,.int _⟩
variable{R:It->Hp->Prop}
theorem Pb{K:Dk}(h:tDI (Dm.iL f) σ H R):sM K (tD f) σ H R:=by
 obtain⟨H0,ρ,ys,ρ',st,e,k⟩:=h;unfold Dm.iL at e;split at e
 ·cases e
 rename_i x ρ1 e1;split at e
 ·rename_i ds ρ2 e2;cases e;refine⟨H0,ρ,_,ρ1,st,e1,fun v H0' H' t r=>?_⟩;obtain⟨H1,t1,b1,r1,_,_⟩:=take1 t (ak.refl _) r e2;cases r1 with
  |lst q rs=>exact⟨_,rfl,⟨_,.inl (ak.rd t1.st.same q)⟩,k _ H1 H' t1 (FG q rs)⟩
 ·cases e
theorem Pc{K:Dk}(h:tDI (Dm.iT f) σ H R):AW K (tD f) σ H R:=by
 obtain⟨H0,ρ,ys,ρ',st,e,k⟩:=h;unfold Dm.iT at e;split at e
 ·cases e
 rename_i x ρ1 e1;split at e
 ·rename_i ds ρ2 e2;cases e;refine⟨H0,ρ,_,ρ1,st,e1,fun v H0' H' t r=>?_⟩;obtain⟨H1,t1,b1,r1,_,_⟩:=take1 t (ak.refl _) r e2;cases r1 with
  |tup q rs=>exact⟨_,rfl,⟨_,.inl (.inl (t1.st.same _ _ q))⟩,k _ H1 H' t1 (JV q rs)⟩
 ·cases e
theorem MX(h:tDI (Dm.iR1 f) σ H R):HD (tDA [f]) σ H R:=by
 obtain⟨H0,ρ,ys,ρ',st,e,k⟩:=h;unfold Dm.iR1 at e;split at e
 ·rename_i j ρ1 e1;split at e
  ·rename_i hb;cases e;refine⟨H0,ρ,[.val (.int j)],_,st,by unfold Dm.eAs;rw[e1];rfl,fun vs H0' H' t r=>?_⟩;cases r with
   |cons r rr=>cases rr;cases Rep.isInt r;have h1:=hb.1;have h2:=hb.2;unfold Dm.BIG at h1 h2;exact⟨j,rfl,by lia,by lia,k _ H0' H' t tE⟩
  ·cases e
 ·cases e
theorem MY{f g:Dm.FE}(h:tDI (Dm.iR2 f g) σ H R):HE (tDA [f,g]) σ H R:=by
 obtain⟨H0,ρ,ys,ρ',st,e,k⟩:=h;unfold Dm.iR2 at e;split at e
 ·rename_i i ρ1 e1;split at e
  ·rename_i j ρ2 e2;split at e
   ·rename_i hb;cases e;refine⟨H0,ρ,[.val (.int i),.val (.int j)],_,st,by unfold Dm.eAs;rw[e1];dsimp only;unfold Dm.eAs;rw[e2];rfl,fun vs H0' H' t r=>?_⟩;cases r with
    |cons r rr=>
     cases rr with
     |cons r' rr=>cases rr;cases Rep.isInt r;cases Rep.isInt r';obtain⟨h1,h2,h3,h4⟩:=hb;unfold Dm.BIG at h1 h2 h3 h4;exact⟨i,j,rfl,⟨by lia,by lia,by lia,by lia⟩,k _ H0' H' t tE⟩
   ·cases e
  ·cases e
 ·cases e
def tLC(wi:TI)(own:Nat)(g:TG)(tt:TT)(te:TE):TE:=fun σ H Q=>wi σ H fun J H1=>∀D,H1 D=none->∃W:Nat->Nat->St->Hp->Prop,
 (∃m,W 0 m (σ++Ds own none) (upd H1 D (.lst [])))/\∀i m σ' H',W i m σ' H' ->
  (J.stop i H'∧Q (.ref D) H')∨(J.go i H'∧∀ x H2,J.yld i H' x H2→g x σ' H2 fun σ2 H3=>tt σ2 H3 fun b H4=>if b=true
   then te σ2 H4 fun y H5=>∃pI,H5 D=some (.lst pI)/\pI.length<sizeLine/\∃m',m'<m/\W (i+1) m' σ2 (upd H5 D (.lst (pI++[y])))
   else ∃m',m'<m/\W (i+1) m' σ2 H4)
theorem ay.aside{H0 H:Hp}{σ:St}(st:ay H0 H σ ρ)(n0:H0 a=none)(no:¬aj σ ρ a):ay H0 (upd H a o) σ ρ where
 same:=fun b u z=>by rw[aA (aP z n0)];exact st.same _ _ z
 len:=st.len
 sh:=st.sh
 ow:=fun j d h=>by obtain⟨b,q,n,w⟩:=st.ow j d h;have nb:b≠a:=fun y=>no ⟨j,d,h,y▸q⟩;exact⟨b,q,n,w.mono (ak.refl _) (aA nb)⟩
 dis:=st.dis
theorem ay.bH{H0 H:Hp}{σ:St}(st:ay H0 H σ ρ)(h:H a=none):¬aj σ ρ a:=fun⟨i,d,h1,h2⟩=>by obtain⟨b,q,n,w⟩:=st.ow i d h1;rw[h2]at q;cases q;obtain⟨o,z⟩:=w.some;rw[h]at z;cases z
theorem jA{α:Type}{l:List α}{r:List α}{x:α}(h:(l++r)[i]?=some x)(n:x∉r):i<l.length/\l[i]?=some x:=by
 by_cases hi:i<l.length
 ·rw[QI hi]at h;exact⟨hi,h⟩
 ·rw[Rn (RS.mp hi)]at h;exact absurd (R9 h) n
theorem By:Dm.Cell.sh d∉Ds k Dm.Cell.un:=fun h=>by have:=List.eq_of_mem_replicate h;cases this
theorem jB:Dm.Cell.ow d∉Ds k Dm.Cell.un:=fun h=>by have:=List.eq_of_mem_replicate h;cases this
theorem ay.ext{H0 H:Hp}{σ:St}(st:ay H0 H σ ρ)(k:Nat):ay H0 H (σ++Ds k none) (ρ++Ds k .un) where
 same:=st.same
 len:=by simp[st.len]
 sh:=fun i d h=>by obtain⟨hi,h⟩:=jA h By;obtain⟨v,q,r⟩:=st.sh i d h;exact⟨v,by rw[QI (by rw[st.len];exact hi)];exact q,r⟩
 ow:=fun i d h=>by obtain⟨hi,h⟩:=jA h jB;obtain⟨v,q,r⟩:=st.ow i d h;exact⟨v,by rw[QI (by rw[st.len];exact hi)];exact q,r⟩
 dis:=fun i j d e a h1 h2 h3 h4=>by obtain⟨hi,h1⟩:=jA h1 jB;obtain⟨hj,h2⟩:=jA h2 jB;rw[QI (by rw[st.len];exact hi)]at h3;rw[QI (by rw[st.len];exact hj)]at h4;exact st.dis i j d e a h1 h2 h3 h4
theorem fm{H0 H:Hp}{σ:St}(st:ay H0 H σ ρ)(h:aj (σ++Ds k none) (ρ++Ds k .un) a):aj σ ρ a:=by obtain⟨i,d,h1,h2⟩:=h;obtain⟨hi,h1⟩:=jA h1 jB;rw[QI (by rw[st.len];exact hi)]at h2;exact⟨i,d,h1,h2⟩
theorem Stp.aside{O:Addr->Prop}{H0 H H0' H':Hp}{D:Addr}(t:Stp O H0 H H0' H')(hD:H D=none):Stp O H0 H H0' (upd H' D o):=
 ⟨t.s0,fun a u e n=>by rw[aA (aP e hD)];exact t.s1 a u e n,t.s2,fun a u e=>by rw[aA (aP e hD)];exact t.s3 a u e⟩
theorem ESt.cR{σ:St}{ρ ρ':Dm.Env}{H0 H H0' H':Hp}(t:ESt σ ρ H0 H ρ' H0' H'){D:Addr}(h:H D=some o)(n0:H0 D=none)(no:¬aj σ ρ D):H' D=some o/\H0' D=none/\¬aj σ ρ' D:=by
 refine⟨t.stp.s1 D o h no,?_,fun z=>no (t.own D z)⟩;cases q:H0' D with
 |none=>rfl
 |some u=>
  rcases t.stp.s2 D u q with z | z | z
  ·rw[h]at z;cases z
  ·rw[n0]at z;cases z
  ·exact absurd z no
def JWa(J:It)(H00:Hp)(pa:Option (Addr×HO))(ys:List Dm.Dat):Prop:=∀H0 H,ak H00 H0->ak H0 H->(∀q,pa=some q->H q.1=some q.2)->(∀i,ys.length<=i->J.stop i H) /\
 ∀(i:Nat) (d:Dm.Dat),ys[i]?=some d->J.go i H/\∀x H',J.yld i H x H'->∃H0',aI H0 H H0' H'/\Rep H0' x d
theorem tF{σ:St}{own:Nat}{t:Dm.FT}{el:Dm.FE}{Q:VK}{H00 Hb:Hp}{ρ1 ρ2:Dm.Env}{ds ys:List Dm.Dat}{J:It}{pa:Option (Addr×HO)}(hb:BD is g bd)(hl:∀i∈is,σ.length<=i)
  (st1:ay H00 Hb σ ρ1) (hp:∀q,pa=some q->Hb q.1=some q.2/\H00 q.1=none/\¬aj σ ρ1 q.1) (jw:JWa J H00 pa ds) (hsz:ds.length<=Dm.SZ) (e2:Dm.dG bd t el ds (ρ1++Ds own .un) []=some (ys,ρ2))
  (k:∀v H0' H',ESt σ ρ1 H00 Hb (ρ2.take ρ1.length) H0' H'->gf Hb H0' H' σ (ρ2.take ρ1.length) v (.new (.lst ys))->(∀q,pa=some q->H' q.1=some q.2/\H0' q.1=none)->Q v H') (D:Addr) (hD:Hb D=none) :
  ∃W:Nat->Nat->St->Hp->Prop,(∃m,W 0 m (σ++Ds own none) (upd Hb D (.lst [])))/\∀i m σ' H',W i m σ' H' ->
  (J.stop i H'∧Q (.ref D) H')∨(J.go i H'∧∀ x H2,J.yld i H' x H2→g x σ' H2 fun σ2 H3=>tDT t σ2 H3 fun b H4=>if b=true
   then tD el σ2 H4 fun y H5=>∃pI,H5 D=some (.lst pI)/\pI.length<sizeLine/\∃m',m'<m/\W (i+1) m' σ2 (upd H5 D (.lst (pI++[y])))
   else ∃m',m'<m/\W (i+1) m' σ2 H4):=by
 have hpD:∀q,pa=some q->q.1≠D:=fun q e z=>by have:=(hp q e).1;rw[z,hD]at this;cases this
 have noD:¬aj σ ρ1 D:=st1.bH hD;refine ⟨fun i m σ' H'=>∃ (H0c:Hp) (ρc:Dm.Env) (zW:List Dm.Dat) (v_:List V),ay H0c H' σ' ρc∧ak H00 H0c∧m=ds.length-i∧i≤ds.length∧Dm.dG bd t el (ds.drop i) ρc zW=some (ys,ρ2) ∧
  H' D=some (.lst v_)/\av H0c v_ zW/\H0c D=none/\zW.length<=i/\Stp (aj σ ρ1) H00 Hb H0c H'/\(∀j,j<σ.length->σ'[j]?=σ[j]?)/\(∀a,aj σ' ρc a->aj σ ρ1 a)/\(∀j,Def ρ1 j->Def ρc j)/\(∀q,pa=some q->H' q.1=some q.2/\H0c q.1=none/\¬aj σ' ρc q.1),
  ⟨ds.length,H00,ρ1++Ds own .un,[],[],(st1.aside (st1.same.free hD) noD).ext own,ak.refl _,by simp,Q4 _,by simpa using e2,au,.nil,st1.same.free hD,Q4 _,(Stp.refl _ _ _).aside hD,
   fun j hj=>QI hj,fun a z=>fm st1 z,fun j z=>trivial,fun q e=>⟨by rw[aA (hpD q e)];exact(hp q e).1,(hp q e).2.1,fun z=>(hp q e).2.2 (fm st1 z)⟩⟩,?_⟩
 rintro i m σ' H' ⟨H0c,ρc,zW,v_,sc,s00,rfl,hi,ec,hDl,ra,n0,hal,sp,hσ,ho,hdf,hpc⟩;have nOc:¬aj σ' ρc D:=fun z=>noD (ho D z);obtain⟨js,jg⟩:=jw H0c H' s00 sc.same fun q e=>(hpc q e).1;by_cases CK:i<ds.length
 ·have hd:ds[i]?=some ds[i]:=by simp[CK]
  obtain⟨g1,g2⟩:=jg i ds[i] hd;rw[RO CK]at ec;unfold Dm.dG at ec;refine .inr ⟨g1,fun y H2 yy=>?_⟩;obtain⟨H0',gr,rx⟩:=g2 y H2 yy;split at ec
  ·cases ec
  rename_i ρ3 e3;have t2:=ESt.grow sc gr;obtain⟨hD2,n02,no2⟩:=t2.cR hDl n0 nOc;have hp2:=fun q e=>t2.cR (hpc q e).1 (hpc q e).2.1 (hpc q e).2.2;refine hb H0' H2 σ' ρc ρ3 y ds[i] _ t2.st rx e3 fun σ3 st3 o3 k3 d3 _=>?_;have no3:¬aj σ3 ρ3 D:=fun z=>no2 (o3 D z);have po3:∀q,pa=some q->¬aj σ3 ρ3 q.1:=fun q e z=>(hp2 q e).2.2 (o3 q.1 z);have hσ3:∀j,j<σ.length->σ3[j]?=σ[j]?:=fun j hj=>(k3 j fun z=>RS.mpr (hl j z) hj).trans (hσ j hj);have ho3:∀a,aj σ3 ρ3 a->aj σ ρ1 a:=fun a z=>ho a (o3 a z);have MZ:∀j,Def ρ1 j->Def ρ3 j:=fun j z=>d3 j (hdf j z);have sp3:Stp (aj σ ρ1) H00 Hb H0' H2:=sp.trans t2.stp fun a z=>.inl (ho a z);have ra3:=ra.mono gr.s0;have s3:ak H00 H0':=s00.trans gr.s0;split at ec
  ·cases ec
  ·rename_i ρ4 e4;refine⟨H0',ρ3,false,ρ4,st3,e4,fun JX H'' t4=>?_⟩;dsimp only;rw[if_neg Q0];obtain⟨hD4,n04,no4⟩:=t4.cR hD2 n02 no3;have hp4:=fun q e=>t4.cR (hp2 q e).1 (hp2 q e).2.1 (po3 q e);exact⟨ds.length-(i+1),by lia,JX,ρ4,zW,v_,t4.st,s3.trans t4.stp.s0,rfl,CK,ec,hD4,ra3.mono t4.stp.s0,n04,Nat.le_succ_of_le hal,sp3.trans t4.stp fun a z=>.inl (ho3 a z),hσ3,fun a z=>ho3 a (t4.own a z),fun j z=>t4.dfn j (MZ j z),hp4⟩
  ·rename_i ρ4 e4;refine⟨H0',ρ3,true,ρ4,st3,e4,fun JX H'' t4=>?_⟩;dsimp only;rw[if_pos rfl];obtain⟨hD4,n04,no4⟩:=t4.cR hD2 n02 no3;have hp4:=fun q e=>t4.cR (hp2 q e).1 (hp2 q e).2.1 (po3 q e);split at ec
   ·cases ec
   rename_i x5 ρ5 e5;split at ec
   ·cases ec
   rename_i y6 ρ6 e6;refine⟨JX,ρ4,x5,ρ5,t4.st,e5,fun v H5 Hc t5 r5=>?_⟩;obtain⟨H6,t6,b6,r6,_,_⟩:=take1 t5 (ak.refl _) r5 e6;obtain⟨hD6,n06,no6⟩:=t6.cR hD4 n04 no4;have hp6:=fun q e=>t6.cR (hp4 q e).1 (hp4 q e).2.1 (hp4 q e).2.2;refine⟨v_,hD6,?_,ds.length-(i+1),by lia,H6,ρ6,zW++[y6],v_++[v],t6.st.aside n06 no6,(s3.trans t4.stp.s0).trans t6.stp.s0,rfl,CK,ec,au,?_,n06,?_,?_,hσ3,fun a z=>ho3 a (t4.own a (t6.own a z)),fun j z=>t6.dfn j (t4.dfn j (MZ j z)),fun q e=>⟨by rw[aA (hpD q e)];exact(hp6 q e).1,(hp6 q e).2.1,(hp6 q e).2.2⟩⟩
   ·rw[ra.length];unfold Dm.SZ at hsz;exact Tt (QT hal (QT (S7 CK) hsz)) (by decide)
   ·exact((ra3.mono t4.stp.s0).mono t6.stp.s0).append (.cons r6 .nil)
   ·rw[Qv,RM];lia
   ·exact((sp3.trans t4.stp fun a z=>.inl (ho3 a z)).trans t6.stp fun a z=>.inl (ho3 a (t4.own a z))).aside hD
 ·have e':i=ds.length:=by lia
  subst e';rw[SE]at ec;cases ec;refine .inl ⟨js _ (Pz _),k _ H0c H' ?_ ?_ fun q e=>⟨(hpc q e).1,(hpc q e).2.1⟩⟩
  ·have ur:σ.length<=ρ2.length:=by
    rw[<- sc.len];refine RS.mp fun z=>?_;have q:=hσ σ'.length z;rw[Q6 (Pz _),Qz z]at q;cases q
   have tk:∀{j:Nat} {c:Dm.Cell},(ρ2.take ρ1.length)[j]?=some c->j<σ.length/\ρ2[j]?=some c:=fun {j c} h=>by
    have hj:j<ρ1.length:=by
     have:=(Qx.mp h).1;rw[Rl]at this
     lia
    rw[RQ hj]at h;exact⟨by rw[st1.len];exact hj,h⟩
   have own':∀a,aj σ (ρ2.take ρ1.length) a->aj σ' ρ2 a:=fun a ⟨j,d,h1,h2⟩=>by obtain⟨hj,h1⟩:=tk h1;exact⟨j,d,h1,(hσ j hj).trans h2⟩
   refine⟨⟨sc.same,?_,fun j d h=>?_,fun j d h=>?_,fun j j' d d' a h1 h2 h3 h4=>?_⟩,sp,fun a z=>ho a (own' a z),fun j z=>?_⟩
   ·rw[Rl,<- st1.len];lia
   ·obtain⟨hj,h⟩:=tk h;obtain⟨v,q,r⟩:=sc.sh j d h;exact⟨v,(hσ j hj).symm.trans q,r⟩
   ·obtain⟨hj,h⟩:=tk h;obtain⟨v,q,r⟩:=sc.ow j d h;exact⟨v,(hσ j hj).symm.trans q,r⟩
   ·obtain⟨hj,h1⟩:=tk h1;obtain⟨hj',h2⟩:=tk h2;exact sc.dis j j' d d' a h1 h2 ((hσ j hj).trans h3) ((hσ j' hj').trans h4)
   ·trivial
  ·refine⟨D,rfl,hD,fun⟨j,d,h1,h2⟩=>?_,n0,v_,hDl,ra⟩;have hj:j<ρ1.length:=by
    have:=(Qx.mp h1).1;rw[Rl]at this
    lia
   rw[RQ hj]at h1;exact nOc ⟨j,d,h1,(hσ j (by rw[st1.len];exact hj)).trans h2⟩
theorem wc{own:Nat}{el:Dm.FE}(hb:BD is g bd)(hl:∀i∈is,σ.length<=i)(h:tD (Dm.dH fi own bd t el) σ H Q) :
  tLC (tDI fi) own g (tDT t) (tD el) σ H Q:=by
 obtain⟨H0,ρ,x,ρ',st,e,k⟩:=h;unfold Dm.dH at e;split at e
 ·cases e
 rename_i ds ρ1 e1;split at e
 case isFalse=>cases e
 rename_i hsz;split at e
 ·cases e
 rename_i ys ρ2 e2;cases e;refine⟨H0,ρ,ds,ρ1,st,e1,fun J H00 Hb t1 jw D hD=>tF (pa:=none) hb hl t1.st (fun q e=>by cases e) (fun H0 H s0 s1 _=>jw H0 H s0 s1) hsz e2 (fun v H0' H' t2 r2 _=>k v H0' H' (t1.trans t2) (r2.early fun a n=>t1.stp.gone n)) D hD⟩
theorem we{n m:Nat}{H:Hp}(h:spD (Dm.fn n m body) vs H Q E):vs.length=n:=by
 obtain⟨H0,ds,z,s,rs,e,k⟩:=h;unfold Dm.fn at e;split at e
 ·rename_i hl;rw[rs.length];exact hl
 ·cases e
theorem M0{N:List Str}{n m:Nat}(hm:N.length=n+m)(h:spD (Dm.fn n m body) vs H Q E) :
  tDS body { nx:=fun _ H'=>Q .non H',rt:=Q } (start N vs) H:=by
 have hvn:=we h;obtain⟨H0,ds,z,s,rs,e,k⟩:=h;have hl:=rs.length;have no:∀a,¬aj (start N vs) (ds.map Dm.Cell.sh++Ds m .un) a:=fun a ⟨i,d,h1,_⟩=>by
  by_cases hi:i<ds.length
  ·rw[QI (by simpa using hi),QL]at h1;cases q:ds[i]? with
   |none=>rw[q]at h1;cases h1
   |some y=>rw[q]at h1;cases h1
  ·rw[Rn (by simpa using hi),Rp]at h1;split at h1<;>cases h1
 have st:ay H0 H (start N vs) (ds.map Dm.Cell.sh++Ds m .un):=by
  refine⟨s,?_,fun i d h=>?_,fun i d h=>?_,fun i j d e a h1 h2 _ _=>?_⟩
  ·unfold L2.start;simp only[Qv,gc,Sz]
   lia
  ·have hi:i<ds.length:=by
    by_cases hi:i<ds.length
    ·exact hi
    ·rw[Rn (by simpa using hi),Rp]at h;split at h<;>cases h
   rw[QI (by simpa using hi),QL]at h;cases q:ds[i]? with
   |none=>rw[q]at h;cases h
   |some y=>rw[q]at h;cases h;obtain⟨v,hv,r⟩:=rs.get q;refine⟨v,?_,r⟩;unfold L2.start;rw[QI (by simpa [hl] using hi),QL,hv];rfl
  ·by_cases hi:i<ds.length
   ·rw[QI (by simpa using hi),QL]at h;cases q:ds[i]? with
    |none=>rw[q]at h;cases h
    |some y=>rw[q]at h;cases h
   ·rw[Rn (by simpa using hi),Rp]at h;split at h<;>cases h
  ·by_cases hi:i<ds.length
   ·rw[QI (by simpa using hi),QL]at h1;cases q:ds[i]? with
    |none=>rw[q]at h1;cases h1
    |some y=>rw[q]at h1;cases h1
   ·rw[Rn (by simpa using hi),Rp]at h1;split at h1<;>cases h1
 have gr:∀{H0' H'},Stp (aj (start N vs) (ds.map Dm.Cell.sh++Ds m .un)) H0 H H0' H'->ak H0' H'->aI H0 H H0' H':=fun {H0' H'} t ss=>⟨t.s0,fun a o e=>t.s1 a o e (no a),fun a o e=>(t.s2 a o e).imp id fun q=>q.elim id fun z=>absurd z (no a),ss⟩
 unfold Dm.fn at e;rw[if_pos (by rw[<- hl];exact hvn)]at e;split at e
 ·rename_i r ρ' e1;cases e;refine⟨H0,_,_,st,e1,fun σ' v H0' H' t r _=>k v H0' H' (gr t.stp t.st.same) ?_⟩;cases z with
  |val d=>exact r
  |new d=>obtain⟨a,e,n,n0,w⟩:=r;exact⟨a,e,n.elim id fun z=>absurd z (no a),n0,w⟩
 ·rename_i ρ' e1;cases e;exact⟨H0,_,_,st,e1,fun σ' H0' H' t=>k _ H0' H' (gr t.stp t.st.same) .non⟩
 ·cases e
end
end
open PySem PySem.Spec PyProof.Rows L2
noncomputable def aV(X:Cx)(nm:List Str)(scope:Scope)(own:List Str)(cl:List (Str×Addr))(C:Addr)(s:Shared)(H:Hp)(fp:List Addr):Cx where
 prog:=X.prog
 w:=X.w
 K:=X.K
 mg:=X.mg
 base:=X.base
 A:=X.A
 N:=nm++own
 s₀:=s
 H₀:=H
 env:=compEnvC scope cl C X.env
 outer:=X.stack
 stack:=X.stack
 ex:=fp
 fn:=fun _=>false
 calm:=X.calm
 pn:=[]
 xe:=fun _ _=>False
def PTs(X:Cx)(GA:List Expr)(t:TT):Prop:=
 ∀(kC:List (Addr×Obj)) (s:Shared) (σ:L2.St) (H:Hp) (Q:Bool->Hp->Prop),Inv X kC σ H s->t σ H Q ->
  wpAny (model X.prog X.w) X.A (forIn GA true fun c r=>if r=true then do let ok <- isTrue c X.env (eval c X.env);pure (RT ok) else pure (RT r)) (TP X kC σ Q) X.xe s
def wg:TT:=fun _ H Q=>Q true H
theorem qZ{X:Cx}:PTs X [] wg:=fun kC s σ H Q I h=>wpAny_tests_nil ⟨H,I,h⟩
theorem FH{X:Cx}{c:Expr}{t:TT}(h:PT X c t):PTs X [c] t:=fun kC s σ H Q I hq=>wpAny_tests_one (h kC s σ H Q I hq)
theorem eT(env:Env):∀(names:List (Str×NameKind)) (cs:List (Str×Addr)),(∀y∈names,y.2=.free->∃c,env.cells.lookup y.1=some c) ->
  ∃cl,(forIn names cs fun(x:Str×NameKind) (r:List (Str×Addr))=>(if (x.2 == NameKind.free)=true then do let c <- cellOf env x.1;pure (RT ((x.1,c)::r)) else pure (RT r):Sem (ForInStep (List (Str×Addr)))))=pure cl /\
   (∀x c,cl.lookup x=some c->env.cells.lookup x=some c\/cs.lookup x=some c)/\(∀y∈names,y.2=.free->∃c,cl.lookup y.1=some c)/\(∀x c,cs.lookup x=some c->∃c',cl.lookup x=some c')
 |[],cs,_=>⟨cs,rfl,fun _ _ h=>.inr h,fun _ h=>(nomatch h),fun _ c h=>⟨c,h⟩⟩
 |(n,k)::r,cs,h=>by
  have hr:∀y∈r,y.2=.free->∃c,env.cells.lookup y.1=some c:=fun y hy=>h y (Pa _ hy);by_cases hk:k=.free
  ·subst hk;obtain⟨c,hc⟩:=h (n,.free) gV rfl;obtain⟨cl,e,h1,h2,h3⟩:=eT env r ((n,c)::cs) hr;refine⟨cl,?_,fun x c' q=>?_,fun y hy hf=>?_,fun x c' q=>?_⟩
   ·rw[List.forIn_cons];have e1:cellOf env n=pure c:=by unfold cellOf;rw[hc]
    simp only[beq_self_eq_true,if_true,e1,pure_bind];exact e
   ·rcases h1 x c' q with z | z
    ·exact .inl z
    ·rw[Ro]at z;cases hx:x == n with
     |true=>
      rw[hx]at z;have:x=n:=by simpa using hx
      subst this;injection z with z
      subst z;exact .inl hc
     |false=>rw[hx]at z;exact .inr z
   ·rcases Qw.mp hy with rfl | hy
    ·exact h3 n c (by rw[Ro,beq_self_eq_true])
    ·exact h2 y hy hf
   ·by_cases hx:x=n
    ·subst hx;exact h3 x c (by rw[Ro,beq_self_eq_true])
    ·have hx':(x == n)=false:=by simpa using hx
     exact h3 x c' (by rw[Ro,hx'];exact q)
  ·have hb:(k == NameKind.free)=false:=by simpa using hk
   obtain⟨cl,e,h1,h2,h3⟩:=eT env r cs hr;refine⟨cl,?_,h1,fun y hy hf=>?_,h3⟩
   ·rw[List.forIn_cons];simp only[hb,Rm,if_false,pure_bind];exact e
   ·rcases Qw.mp hy with rfl | hy
    ·exact absurd hf hk
    ·exact h2 y hy hf
theorem mJ{env:Env}{scope:Scope}(h:∀y∈scope.names,y.2=.free->∃c,env.cells.lookup y.1=some c) :
  ∃cl,closureFor scope env=pure cl/\(∀x c,cl.lookup x=some c->env.cells.lookup x=some c)/\∀y∈scope.names,y.2=.free->∃c,cl.lookup y.1=some c:=by
 obtain⟨cl,e,h1,h2,_⟩:=eT env scope.names [] h;refine⟨cl,?_,fun x c q=>(h1 x c q).elim id fun z=>by simp at z,h2⟩;unfold closureFor;have e':(forIn scope.names ([]:List (Str×Addr)) fun(x:Str×NameKind) (r:List (Str×Addr))=>(if (x.2 == NameKind.free)=true then do let c <- cellOf env x.1;pure (RT ((x.1,c)::r)) else pure (RT r):Sem (ForInStep (List (Str×Addr)))))=pure cl:=e
 first
  |(rw[show (forIn scope.names ([]:List (Str×Addr)) _:Sem (List (Str×Addr)))=pure cl from e'];rfl)
  |(simp only[e'];rfl)
theorem q_{prog:Program}{w:World}{A:Around}{R:Result->Shared->Prop}{s:Shared}{GC target iter:Expr}{GA:List Expr}{scope:Scope}{pos:Pos}{it pI:Value}{env:Env}(I:Nat->Shared->Prop)
  (turn:∀ n s,I n s→wpAny (model prog w) A (pyNext it) (fun r s₁=>match r with
   |none=>R (.ok .next) s₁
   | some v=>wpAny (model prog w) A (letOwnedTupleGo target it v) (fun _ s₁'=>wpAny (model prog w) A (assign target env v) (fun _ s₂=>
     wpAny (model prog w) A (forIn GA true fun c r=>if r=true then do let ok ← isTrue c env (eval c env);pure (RT ok) else pure (RT r)) (fun ok s₃=>
      if ok=true then wpAny (model prog w) A (eval GC env) (fun x s₄=>wpAny (model prog w) A (call (.builtin "list.append") [pI,x]) (fun _ s₅=>∃m,m<n/\I m s₅) (fun _ _=>False) s₄) (fun _ _=>False) s₃
      else ∃m,m<n/\I m s₃) (fun _ _=>False) s₂) (fun _ _=>False) s₁') (fun _ _=>False) s₁) (fun _ _=>False) s)
  (n:Nat) (h:I n s) :
  codeAny (model prog w) A (.compLoop (.ListComp GC [⟨target,iter,GA,0⟩] scope pos) 0 it pI env) R s:=by
 have no:∀{P:Value->Shared->Prop} (x:Value) (s':Shared),False->P x s':=fun _ _ f=>f.elim;refine codeAny_loop rfl I (fun n s hI=>?_) n h;show wpAny _ A ((compTurn (.ListComp GC [⟨target,iter,GA,0⟩] scope pos) 0 it pI env).onRaise (fun x=>do noteFrame x env;theTreesLotGoes x)) _ _ s;refine wpAny_noted ?_;rw[compTurn_list];refine wpAny_bind (wpAny_standAt (wpAny_bind (wpAny_mono (turn n s hI) (fun r s₁ h₁=>?_) no)));cases r with
 |none=>exact wpAny_pure h₁
 |some v=>
  refine wpAny_bind (wpAny_mono h₁ (fun _ s₁' h₁'=>?_) no);refine wpAny_bind (wpAny_mono h₁' (fun _ s₂ h₂=>wpAny_bind (wpAny_mono h₂ (fun ok s₃ h₃=>?_) no)) no);cases ok with
  |false=>exact wpAny_pure ⟨rfl,h₃⟩
  |true=>exact wpAny_bind (wpAny_bind (wpAny_mono h₃ (fun x s₄ h₄=>wpAny_bind (wpAny_mono h₄ (fun _ s₅ h₅=>wpAny_pure (wpAny_pure ⟨rfl,h₅⟩)) no)) no))
theorem cM(env:Env):∀(names:List (Str×NameKind)) (x:Str) (k:NameKind),
  (names.map fun(n,k)=>if (k == NameKind.free&&env.scope.kind == .function&&env.kindOf n == some .cell) then (n,Ug) else (n,k)).lookup x=some k ->
  ∃k0,names.lookup x=some k0/\(k=k0\/(k0=.free/\k=.cell))
 |[],x,k,h=>by simp at h
 |(n,k1)::r,x,k,h=>by
  have h:List.lookup x ((if (k1 == NameKind.free&&env.scope.kind == .function&&env.kindOf n == some .cell)=true then (n,Ug) else (n,k1))::r.map fun(n,k)=>if (k == NameKind.free&&env.scope.kind == .function&&env.kindOf n == some .cell) then (n,Ug) else (n,k))=some k:=h;cases hx:x == n with
  |true=>
   by_cases hc:(k1 == NameKind.free&&env.scope.kind == .function&&env.kindOf n == some .cell)=true
   ·rw[if_pos hc,Ro,hx]at h;injection h with h
    have hk:k1=.free:=by simp only[QD,beq_iff_eq]at hc;exact hc.1.1
    exact⟨k1,by rw[Ro,hx],.inr ⟨hk,h.symm⟩⟩
   ·rw[if_neg hc,Ro,hx]at h;injection h with h
    exact⟨k1,by rw[Ro,hx],.inl h.symm⟩
  |false=>
   by_cases hc:(k1 == NameKind.free&&env.scope.kind == .function&&env.kindOf n == some .cell)=true
   ·rw[if_pos hc,Ro,hx]at h;obtain⟨k0,e,z⟩:=cM env r x k h;exact⟨k0,by rw[Ro,hx];exact e,z⟩
   ·rw[if_neg hc,Ro,hx]at h;obtain⟨k0,e,z⟩:=cM env r x k h;exact⟨k0,by rw[Ro,hx];exact e,z⟩
structure cF(X:Cx)(nm:List Str)(scope:Scope):Prop where
 kind:scope.kind=.function
 cell:∀y∈scope.names,y.2≠.cell
 names:∀y∈scope.names,y.2=.local->scope.names.lookup y.1=some .local
 free:∀y∈scope.names,y.2=.free->X.env.kindOf y.1=some .cell\/X.env.kindOf y.1=some .free
 apart:∀x∈nm,scope.names.lookup x≠some .local
 len:nm.length=X.N.length
 mask:∀(i:Nat) (x:Str),nm[i]?=some x->X.N[i]?=some x\/scope.names.lookup x=none
section
variable{X:Cx}{nm:List Str}{GC tg iter:Expr}{GA:List Expr}{scope:Scope}{pos:Pos}{own:List Str}{wi:TI}{g:TG}{tt:TT}{te:TE}
theorem pZ{kC:List (Addr×Obj)}{s2:Shared}{σ:L2.St}{H2:Hp}{cl:List (Str×Addr)}{it:Addr}{fp:List Addr}{tn:Nat->Heap->Prop}{J:It}{Q:VK}{E:Value->Shared->Prop}{RR:Value->Addr->Result->Shared->Prop}{CC:Cx->Prop}
  (hc:∀cl C s D fp,H2 D=none->CC (aV X nm scope own cl C s (upd H2 D (.lst [])) fp)) (S:cF X nm scope) (mK:∀x c,cl.lookup x=some c->X.env.cells.lookup x=some c) (zX:∀y∈scope.names,y.2=.free->∃c,cl.lookup y.1=some c)
  (hg:∀cl C s H fp,PG (aV X nm scope own cl C s H fp) tg g) (ht:∀cl C s H fp,PTs (aV X nm scope own cl C s H fp) GA tt) (he:∀cl C s H fp,PE (aV X nm scope own cl C s H fp) GC te)
  (I2:Inv X kC σ H2 s2) (T:Turn X.prog X.w X.K tg J fp it tn CC) (st2:tn 0 s2.heap) (f2:∀b∈fp,sL X kC H2 b)
  (hR:∀ D,H2 D=none→∃ W:Nat→Nat→L2.St→Hp→Prop,
   (∃m,W 0 m (σ++Ds own.length none) (upd H2 D (.lst [])))/\∀i m σ' H',W i m σ' H' ->
    (J.stop i H'∧Q (.ref D) H')∨(J.go i H'∧∀ x H2,J.yld i H' x H2→g x σ' H2 fun σ2 H3=>tt σ2 H3 fun b H4=>if b=true
     then te σ2 H4 fun y H5=>∃pI,H5 D=some (.lst pI)/\pI.length<sizeLine/\∃m',m'<m/\W (i+1) m' σ2 (upd H5 D (.lst (pI++[y])))
     else ∃m',m'<m/\W (i+1) m' σ2 H4))
  (Pd:∀D C H6 s6,Inv X kC σ H6 s6->H6 C=none->C≠X.env.locals->X.s₀.heap.objs.size<=C->(∀x c,X.env.cells.lookup x=some c->c≠C)->(∀p∈X.pn++kC,p.1≠C)->(∃m,s6.heap.Ns C m)->Q (.ref D) H6->RR (.ref D) C (.ok .next) s6) :
  wpAny (model X.prog X.w) X.A (newList []) (fun pI s₃=>wpAny (model X.prog X.w) X.A (newFunctionEnv scope X.env.globals cl [] X.env.qual none .none (some X.env)) (fun cenv s₄=>codeAny (model X.prog X.w) X.A (.compStart (.ListComp GC [⟨tg,iter,GA,0⟩] scope pos) 0 (.ref it) pI { cenv with scope:=relabel scope X.env }) (RR pI cenv.locals) s₄) E s₃) E s2:=by
 have no:∀{P:Value->Shared->Prop} (x:Value) (s':Shared),False->P x s':=fun _ _ f=>f.elim;refine wpAny_newObj_type (wpAny_newFunctionEnv S.cell (by intro y hy;simp at hy) (fun h₁ hns₁ hsb₁=>?_) S.kind);dsimp only at hns₁ hsb₁ ⊢;have I3:Inv X kC σ (upd H2 s2.heap.objs.size (.lst [])) { s2 with heap:=s2.heap.push { cls:=.type "list",dict:=none,data:=.seq ([]:List Value).toArray } }:=I2.JH (t':=s2.toks) (ys:=[]) (its:=[]) .nil (Q4 _)
 generalize hG2:s2.heap.push { cls:=.type "list",dict:=none,data:=.seq ([]:List Value).toArray }=G2 at hns₁ hsb₁ I3 ⊢
 have hC:G2.objs.size=s2.heap.objs.size+1:=by rw[<- hG2,Sb]
 have up2:∀b o,s2.heap.get? b=some o->G2.get? b=some o:=fun b o e=>hG2▸PU _ e;have up3:∀b o,G2.get? b=some o->h₁.get? b=some o:=fun b o e=>hsb₁.extBut b o (QX (QA e)) (PU _ e);have Pe:G2.get? G2.objs.size=none:=Heap.get?_none_of_le (Pz _);have fpo:∀b∈fp,∃o,s2.heap.get? b=some o:=fun b hb=>by obtain⟨o,e,_⟩:=T.obj 0 _ st2 b hb;exact⟨o,e⟩
 have fpC:∀b∈fp,b≠G2.objs.size:=fun b hb=>by obtain⟨o,e⟩:=fpo b hb;exact QX (QA (up2 b o e))
 have H3C:(upd H2 s2.heap.objs.size (.lst [])) G2.objs.size=none:=I3.hok.fresh (Pz _);have fpD:∀b∈fp,b≠s2.heap.objs.size:=fun b hb=>by obtain⟨o,e⟩:=fpo b hb;exact QX (QA e)
 have M3:∀b∈fp,b∉frs X.stack:=fun b hb z=>by
  rcases Qw.mp (I3.vN b z) with y | y
  ·exact(f2 b hb).2.1 y
  ·exact(f2 b hb).2.2.1 y
 have ok':(aV X nm scope own cl G2.objs.size { s2 with heap:=G2 } (upd H2 s2.heap.objs.size (.lst [])) fp).Ok:=by
  refine ⟨I3.ok.mod,S.kind,I3.ok.glob,I3.ok.blt,Pz _,fun x y c e1 e2=>I3.ok.inj x y c (mK x c e1) (mK y c e2),fun x hx=>?_,fun x c z=>(nomatch z),I3.ok.hd,I3.ok.frames,.inl rfl,
   fun b hb=>⟨fpC b hb,fun x c e=>(f2 b hb).2.2.2.2.1 x c (mK x c e)⟩,fun b o e=>I3.bs b o e,QT I3.ok.bsz I3.sz,fun b o e hb=>?_,fun b hb=>M3 b hb,I3.stack,I3.xU⟩
  ·have hx:(relabel scope X.env).names.lookup x=some .cell\/(relabel scope X.env).names.lookup x=some .free:=hx;have key:∀k,(relabel scope X.env).names.lookup x=some k->k≠.local->k=.cell\/k=.free->∃c,cl.lookup x=some c:=fun k hk _ hkk=>by
    obtain⟨k0,e0,z⟩:=cM X.env scope.names x k hk;have m0:=PySem.mem_of_lookup e0;have f0:k0=.free:=by
     rcases z with z | z
     ·subst z;rcases hkk with q | q
      ·exact absurd q (S.cell _ m0)
      ·exact q
     ·exact z.1
    exact zX (x,k0) m0 f0
   rcases hx with hx | hx
   ·exact key _ hx (by decide) (.inl rfl)
   ·exact key _ hx (by decide) (.inr rfl)
  ·rcases (f2 b hb).2.2.2.1 with z | z
   ·exact I3.ok.AJ b o e z
   ·exact absurd (QM (QA e) (QT I3.ok.bsz z)) (RW _)
 have stat:∀{H':Hp},(∀b∈fp,H' b=none)->∀b∈fp,sL (aV X nm scope own cl G2.objs.size { s2 with heap:=G2 } (upd H2 s2.heap.objs.size (.lst [])) fp) [] H' b:=fun hn b hb=>⟨hn b hb,fpC b hb,M3 b hb,.inl hb,fun x c e=>(f2 b hb).2.2.2.2.1 x c (mK x c e),fun p hp=>(nomatch (show p∈([]:List (Addr×Obj)) from hp))⟩
 have I4:Inv (aV X nm scope own cl G2.objs.size { s2 with heap:=G2 } (upd H2 s2.heap.objs.size (.lst [])) fp) [] (σ++Ds own.length none) (upd H2 s2.heap.objs.size (.lst [])) { s2 with heap:=h₁,toks:=s2.toks+([]:List (Str×Value)).length }:=by
  refine⟨ok',rfl,I3.bare,Un.kept up3,⟨_,hns₁,fun i x v e1 e2 e3=>?_⟩,fun x c e=>?_,H3C,fun x c e=>I3.gW x c (mK x c e),fun p hp=>(nomatch (show p∈([]:List (Addr×Obj)) from hp)),I3.hok.kept up3,?_⟩
  ·have e1:(nm++own)[i]?=some x:=e1;have hi:i<σ.length:=by
    by_cases hi:i<σ.length
    ·exact hi
    ·rw[Rn (RS.mp hi),Rp]at e2;split at e2<;>cases e2
   rw[QI hi]at e2;rw[QI (by rw[S.len,<- I3.len];exact hi)]at e1;have key:∀k,(relabel scope X.env).names.lookup x=some k->k=.local\/k=.cell\/k=.free->scope.names.lookup x=some .free/\(k=.cell\/k=.free):=fun k hk hkk=>by
    obtain⟨k0,e0,z⟩:=cM X.env scope.names x k hk;have m0:=PySem.mem_of_lookup e0;have n1:k0≠.local:=fun y=>S.apart x (R9 e1) (y▸e0);have n2:k0≠.cell:=S.cell _ m0;rcases z with z | z
    ·subst z;rcases hkk with q | q | q
     ·exact absurd q n1
     ·exact absurd q n2
     ·subst q;exact⟨e0,.inr rfl⟩
    ·obtain⟨z1,z2⟩:=z;subst z1;subst z2;exact⟨e0,.inl rfl⟩
   have hk:∃k,(relabel scope X.env).names.lookup x=some k/\(k=.cell\/k=.free)/\scope.names.lookup x=some .free:=by
    rcases (show (relabel scope X.env).names.lookup x=some .local\/(relabel scope X.env).names.lookup x=some .cell\/(relabel scope X.env).names.lookup x=some .free from e3) with q | q | q
    ·obtain⟨a,b⟩:=key _ q (.inl rfl);exact⟨_,q,b,a⟩
    ·obtain⟨a,b⟩:=key _ q (.inr (.inl rfl));exact⟨_,q,b,a⟩
    ·obtain⟨a,b⟩:=key _ q (.inr (.inr rfl));exact⟨_,q,b,a⟩
   obtain⟨k,hk1,hk2,hk3⟩:=hk;have m0:=PySem.mem_of_lookup hk3;obtain⟨c,hcc⟩:=zX (x,.free) m0 rfl;obtain⟨m,hn,hl⟩:=I3.loc;have hout:=S.free (x,.free) m0 rfl;have Pf:Vis X.env.scope x:=by
    rcases hout with q | q
    ·exact .inr (.inl q)
    ·exact .inr (.inr q)
   have e1':X.N[i]?=some x:=by
    rcases S.mask i x e1 with z | z
    ·exact z
    ·rw[z]at hk3;cases hk3
   obtain⟨u,ru,lk⟩:=hl i x v e1' e2 Pf;refine⟨u,ru,.inr ⟨?_,c,hcc,?_⟩⟩
   ·rcases hk2 with q | q
    ·subst q;exact .inl hk1
    ·subst q;exact .inr hk1
   ·rcases lk with⟨q,_⟩ | ⟨_,c',e',z⟩
    ·rcases hout with y | y
     ·rw[q]at y;cases y
     ·rw[q]at y;cases y
    ·rw[mK x c hcc]at e';cases e';obtain⟨o,ho,hd⟩:=z;exact⟨o,up3 c o ho,hd⟩
  ·obtain⟨v,o,ho,hd⟩:=I3.cell x c (mK x c e);exact⟨v,o,up3 c o ho,hd⟩
  ·show (σ++Ds own.length none).length=(nm++own).length;rw[Qv,Qv,Sz,I3.len,S.len]
 obtain⟨W,⟨m0,w0⟩,turn⟩:=hR s2.heap.objs.size I2.fresh;have st4:tn 0 h₁:=T.keep 0 _ _ st2 fun b hb o e=>up3 b o (up2 b o e);have Pg:∀b∈fp,(upd H2 s2.heap.objs.size (.lst [])) b=none:=fun b hb=>by rw[aA (fpD b hb)];exact(f2 b hb).1
 have NU:∀s₃:Shared,s₃={ s2 with heap:=h₁,toks:=s2.toks+([]:List (Str×Value)).length } ->
   codeAny (model X.prog X.w) X.A (.compLoop (.ListComp GC [⟨tg,iter,GA,0⟩] scope pos) 0 (.ref it) (.ref s2.heap.objs.size) (compEnvC scope cl G2.objs.size X.env))
    (RR (.ref s2.heap.objs.size) G2.objs.size) s₃:=by
  rintro s₃ rfl;refine q_ (fun n s'=>∃i σ' H',Inv (aV X nm scope own cl G2.objs.size { s2 with heap:=G2 } (upd H2 s2.heap.objs.size (.lst [])) fp) [] σ' H' s'/\tn i s'.heap/\(∀b∈fp,H' b=none)/\W i n σ' H') ?_ m0
   ⟨0,_,_,I4,st4,Pg,w0⟩
  rintro n s5 ⟨i,σ5,H5,I5,st5,fr5,w5⟩;rcases turn i n σ5 H5 w5 with⟨stop,q⟩ | ⟨go,step⟩
  ·refine wpAny_mono (T.done (aV X nm scope own cl G2.objs.size { s2 with heap:=G2 } (upd H2 s2.heap.objs.size (.lst [])) fp) rfl rfl rfl (hc _ _ _ _ _ (I2.hok.fresh (Pz _))) i [] s5 σ5 H5 (fun _ _=>False) I5 (stat fr5) st5 stop) (fun r s6 hr6=>?_) no;obtain⟨hr,I6⟩:=hr6;subst hr;have I7:Inv X kC σ H5 s6:=I3.Mm (ch:=fp) I6.os I6.base I6.hok I6.bare fun b hb=>⟨(f2 b hb).2.2.2.1,(f2 b hb).2.1,(f2 b hb).2.2.2.2.1,(f2 b hb).2.2.2.2.2⟩;refine Pd _ _ H5 s6 I7 I6.free (Ui (show X.env.locals<G2.objs.size from I3.lt)) I3.sz (fun x c e=>?_) (fun p hp=>?_) (let ⟨m,hn,_⟩:=I6.loc;⟨m,hn⟩) q
   ·obtain⟨v,z⟩:=I3.cell x c e;exact QX z.lt
   ·exact QX (QA (I3.pin p hp).1)
  ·refine wpAny_mono (T.item (aV X nm scope own cl G2.objs.size { s2 with heap:=G2 } (upd H2 s2.heap.objs.size (.lst [])) fp) rfl rfl rfl (hc _ _ _ _ _ (I2.hok.fresh (Pz _))) i [] s5 σ5 H5 (fun _ _=>False) I5 (stat fr5) st5 go) (fun r s6 hr6=>?_) no;obtain⟨u,hr,h6⟩:=hr6;subst hr;refine wpAny_mono h6 (fun _ s7 h7=>?_) no;obtain⟨x,H7,I7,r7,y7,st7,fr7⟩:=h7;have I7':=I7.pinned (stat fr7) (T.obj _ _ st7);have again:∀{s9:Shared} {σ9:L2.St} {H9:Hp} {m':Nat},m'<n->Inv (aV X nm scope own cl G2.objs.size { s2 with heap:=G2 } (upd H2 s2.heap.objs.size (.lst [])) fp) ([]++mh fp s7.heap) σ9 H9 s9->W (i+1) m' σ9 H9 ->
     ∃m,m<n/\∃i σ' H',Inv (aV X nm scope own cl G2.objs.size { s2 with heap:=G2 } (upd H2 s2.heap.objs.size (.lst [])) fp) [] σ' H' s9/\tn i s9.heap/\(∀b∈fp,H' b=none)/\W i m σ' H':=fun {s9 σ9 H9 m'} hm I9 w9=>by
    refine⟨m',hm,i+1,σ9,H9,I9.jm,T.keep _ _ _ st7 fun b hb o e=>(I9.pin (b,o) (QV _ (QV _ (fD hb e)))).1,fun b hb=>?_,w9⟩;obtain⟨o,e,d⟩:=T.obj _ _ st7 b hb;exact(I9.pin (b,o) (QV _ (QV _ (fD hb e)))).2.1
   refine wpAny_mono (hg cl G2.objs.size _ _ fp _ s7 σ5 H7 x u _ I7' r7 (step x H7 y7)) (fun _ s8 h8=>?_) no;obtain⟨σ8,H8,I8,q8⟩:=h8;refine wpAny_mono (ht cl G2.objs.size _ _ fp _ s8 σ8 H8 _ I8 q8) (fun b s9 h9=>?_) no;obtain⟨H9,I9,q9⟩:=h9;cases b with
   |false=>rw[if_neg Q0]at q9 ⊢;obtain⟨m',hm,w9⟩:=q9;exact again hm I9 w9
   |true=>rw[if_pos rfl]at q9 ⊢;refine wpAny_mono (he cl G2.objs.size _ _ fp _ s9 σ8 H9 _ I9 q9) (fun y s10 h10=>?_) no;obtain⟨yv,H10,I10,r10,pI,hacc,ur,m',hm,w10⟩:=h10;refine wpAny_mono (gH (X:=aV X nm scope own cl G2.objs.size { s2 with heap:=G2 } (upd H2 s2.heap.objs.size (.lst [])) fp) _ s10 σ8 H10 (.ref s2.heap.objs.size) [yv] (.ref s2.heap.objs.size) [y] (fun _ H'=>H'=upd H10 s2.heap.objs.size (.lst (pI++[yv]))) I10 rfl (.cons r10 .nil) ⟨_,pI,yv,rfl,rfl,hacc,ur,rfl⟩) (fun _ s11 h11=>?_) no;obtain⟨_,H11,I11,_,e11⟩:=h11;subst e11;exact again hm I11 w10
 exact codeAny_compStart_list (NU _ rfl) (T.self _ 0 _ _ _ st4 (NU _ rfl))
theorem yj(hc:X.calm=true)(S:cF X nm scope)(hi:PI X tg iter wi)
  (hg:∀cl C s H fp,PG (aV X nm scope own cl C s H fp) tg g) (ht:∀cl C s H fp,PTs (aV X nm scope own cl C s H fp) GA tt) (he:∀cl C s H fp,PE (aV X nm scope own cl C s H fp) GC te)
  (hs:∀x,foldedSetIterable iter X.env x=pure x:=by intro _;rfl):PE X (.ListComp GC [⟨tg,iter,GA,0⟩] scope pos) (tLC wi own.length g tt te):=by
 intro kC s σ H Q I h;obtain⟨cl,hclos,mK,zX⟩:=mJ (env:=X.env) (scope:=scope) fun y hy hf=>I.ok.has y.1 (S.free y hy hf);rw[eval_ListComp];refine wpAny_comprehension_free (use:=none) rfl hs hclos S.kind S.names (thn (hi kC s σ H _ I h) fun v s1 h1=>thn h1 fun itv s2 h2=>?_);obtain⟨it,fp,tn,J,H2,e,I2,T,st2,f2,hR⟩:=h2;subst e;refine pZ (Q:=Q) (RR:=fun pI C=>compPost (model X.prog X.w) X.A X.xe none (EP X kC σ Q) pI C) (fun _ _ _ _ _ _=>hc) S mK zX hg ht he I2 T st2 f2 hR ?_;intro D C H6 s6 I6 hCn hCL hCs hCc hCp hns q;obtain⟨m,hn⟩:=hns;refine⟨m,hn,fun h' hs'=>⟨.ref D,H6,I6.turned (t':=s6.toks) (fun b o hb e=>(hs'.2 b hb).trans e) hCn hCL (.inr hCs) hCc hCp,rfl,q⟩⟩
theorem dZ{i:Nat}{y:Str}{py GQ:Pos}(hN:X.N.Nodup)(hi':X.N[i]?=some y)(hy:Loc X.env.scope y)(hc:X.calm=true)(S:cF X nm scope)(hi:PI X tg iter wi)
  (hg:∀cl C s H fp,PG (aV X nm scope own cl C s H fp) tg g) (ht:∀cl C s H fp,PTs (aV X nm scope own cl C s H fp) GA tt) (he:∀cl C s H fp,PE (aV X nm scope own cl C s H fp) GC te)
  (hsw:swapsWith (.ListComp GC [⟨tg,iter,GA,0⟩] scope pos) (some (.Name y py)) GQ.line X.env=pure true:=by rfl)
  (hs:∀x,foldedSetIterable iter X.env x=pure x:=by intro _;rfl) (hf:X.fn y=true\/X.env.scope.names.lookup y=some .local:=by trivial) :
  PS X (.Assign [.Name y py] (.ListComp GC [⟨tg,iter,GA,0⟩] scope pos) GQ) (l_ (tLC wi own.length g tt te) (fS i)):=by
 intro kC s σ H Dn I h;obtain⟨cl,hclos,mK,zX⟩:=mJ (env:=X.env) (scope:=scope) fun y hy hf=>I.ok.has y.1 (S.free y hy hf);rw[exec_Assign_Name_used _ _ _ _ hsw];refine wpAny_bind (wpAny_standAt (wpAny_bind ?_));show wpAny _ X.A (do let _ <- comprehension (.ListComp GC [⟨tg,iter,GA,0⟩] scope pos) scope X.env _ (newList []) false (eval iter X.env) (some (assign (.Name y py) X.env))) _ _ s;refine wpAny_bind (wpAny_mono (wpAny_comprehension_free (use:=some (assign (.Name y py) X.env)) (Q:=fun _ s'=>SP X kC Dn .next s') rfl hs hclos S.kind S.names
  (thn (hi kC s σ H _ I h) fun v s1 h1=>thn h1 fun itv s2 h2=>?_)) (fun _ s' hq=>wpAny_pure (wpAny_pure hq)) fun _ _ e=>e)
 obtain⟨it,fp,tn,J,H2,e,I2,T,st2,f2,hR⟩:=h2;subst e;refine pZ (Q:=fun x H1=>fS i x σ H1 Dn.nx) (RR:=fun pI C=>compPost (model X.prog X.w) X.A X.xe (some (assign (.Name y py) X.env)) (fun _ s'=>SP X kC Dn .next s') pI C) (fun _ _ _ _ _ _=>hc) S mK zX hg ht he I2 T st2 f2 hR ?_;intro D C H6 s6 I6 hCn hCL hCs hCc hCp hns q;obtain⟨m,hn⟩:=hns;show wpAny _ X.A (assign (.Name y py) X.env (.ref D)) _ _ _;refine wpAny_assign_Name (pP I6 hN hi' hy (v:=.ref D) rfl (fun s7 I7 h7=>?_) hf);obtain⟨a,sb,ha⟩:=h7;have hCa:C≠a:=by
  rcases ha with ha | ha
  ·rw[ha];exact hCL
  ·exact Ne.symm (hCc y a ha)
 refine⟨m,hn.sameBut sb hCa,fun h' hs'=>⟨_,H6,I7.turned (t':=s7.toks) (fun b o hb e=>(hs'.2 b hb).trans e) hCn hCL (.inr hCs) hCc hCp,q⟩⟩
end
mutual
noncomputable def toPy:Dm.Dat->PyData
 |.non=>.none
 |.bl b=>.bool b
 |.int i=>.int i
 |.str s=>.str ⟨s.toArray⟩
 |.tup xs=>.tuple (bZ xs)
 |.lst xs=>.list (bZ xs)
 |.dct _ _=>.dict []
 |.dcp _ _=>.dict []
 |.exc _=>.dict []
 |.bU _ _=>.dict []
 |.fn _=>.dict []
noncomputable def bZ:List Dm.Dat->List PyData
 |[]=>[]
 |x::xs=>toPy x::bZ xs
end
mutual
theorem jC:∀a b:Dm.Dat,Ry (toPy a) (toPy b)=Dm.eqD a b
 |.non,b=>by cases b<;>simp[toPy,Ry,Dm.eqD]
 |.bl x,b=>by cases b<;>simp[toPy,Ry,Dm.eqD,Dm.b2i]
 |.int x,b=>by cases b<;>simp[toPy,Ry,Dm.eqD,Dm.b2i]
 |.str x,b=>by
  cases b with
  |str y=>
   simp only[toPy,Ry,Dm.eqD];rw[So];simp only[beq_iff_eq];constructor
   ·intro h;have h:=congrArg (fun s:Str=>s.cps.toList) h
    simpa using h
   ·rintro rfl;rfl
  |_=>simp[toPy,Ry,Dm.eqD]
 |.tup xs,b=>by
  cases b with
  |tup ys=>simp only[toPy,Ry,Dm.eqD];exact j9 xs ys
  |_=>simp[toPy,Ry,Dm.eqD]
 |.lst xs,b=>by
  cases b with
  |lst ys=>simp only[toPy,Ry,Dm.eqD];exact j9 xs ys
  |_=>simp[toPy,Ry,Dm.eqD]
 |.dct ks vs,b=>by cases b<;>simp[toPy,Ry,Dm.eqD]
 |.dcp ks vs,b=>by cases b<;>simp[toPy,Ry,Dm.eqD]
 |.exc C,b=>by cases b<;>simp[toPy,Ry,Dm.eqD]
 |.bU C v,b=>by cases b<;>simp[toPy,Ry,Dm.eqD]
 |.fn C,b=>by cases b<;>simp[toPy,Ry,Dm.eqD]
theorem j9:∀a b:List Dm.Dat,Tw (bZ a) (bZ b)=Dm.j5 a b
 |[],b=>by cases b<;>simp[bZ,Tw,Dm.j5]
 |x::xs,b=>by
  cases b with
  |nil=>simp[bZ,Tw,Dm.j5]
  |cons y ys=>simp only[bZ,Tw,Dm.j5];rw[jC x y,j9 xs ys]
end
theorem BA{s:List Nat}(h:(s.all fun c=>decide (c<128))=true):PyData.strOk ⟨s.toArray⟩=true:=by unfold PyData.strOk;rw[Array.all_eq_true'];intro c hc;have h1:=Ra.mp h c (by simpa using hc);have h2:c<128:=of_decide_eq_true h1;exact decide_eq_true (by lia)
theorem b4{P:Program}{w:World}{H:Hp}{h:Heap}(ok:HOk P w H h):∀(n:Nat),
  (∀(v:V) (d:Dm.Dat) (u:Value),Rep H v d->RelV v u->Dm.okD n d=true->∃as,Reads h u (toPy d) as/\(toPy d).canLay0=true/\(toPy d).depth<=n) /\
  (∀(vs:List V) (ds:List Dm.Dat) (us:List Value),av H vs ds->Vals vs us->ds.all (Dm.okD n)=true->∃as,ReadsAll h us (bZ ds) as/\TL (bZ ds)=true/\Rz (bZ ds)<=n):=by
 intro n
 induction n with
 |zero=>
  have one:∀(v:V) (d:Dm.Dat) (u:Value),Rep H v d->RelV v u->Dm.okD 0 d=true->∃as,Reads h u (toPy d) as/\(toPy d).canLay0=true/\(toPy d).depth<=0:=by
   intro v d u r rv k;cases r with
   |non=>cases rv;exact⟨_,.none,rfl,Pz _⟩
   |bl b=>cases rv;exact⟨_,.bool b,rfl,Pz _⟩
   |int i=>obtain⟨t,rfl⟩:=rv;exact⟨_,.int i t,rfl,Pz _⟩
   |str s=>obtain⟨t,rfl⟩:=rv;exact⟨_,.str _ t,BA k,Pz _⟩
   |tup _ _=>cases k
   |lst _ _=>cases k
   |dct _ _ _=>cases k
   |dcp _ _ _=>cases k
   |exc _=>cases k
   |bU _ _=>cases k
   |fn _=>cases k
  refine⟨one,fun vs ds=>?_⟩
  induction ds generalizing vs with
  |nil=>intro us r rv _;cases r;cases rv;exact⟨_,.nil,rfl,Pz _⟩
  |cons d ds ih=>
   intro us r rv k;cases r with
   |cons r rs=>
    cases rv with
    |cons q qs=>rw[Tz,QD]at k;obtain⟨a1,h1,h2,h3⟩:=one _ _ _ r q k.1;obtain⟨a2,h4,h5,h6⟩:=ih _ _ rs qs k.2;exact⟨_,.cons h1 h4,by simp[bZ,TL,h2,h5],by simp only[bZ,Rz];lia⟩
 |succ n ih=>
  have one:∀(v:V) (d:Dm.Dat) (u:Value),Rep H v d->RelV v u->Dm.okD (n+1) d=true->∃as,Reads h u (toPy d) as/\(toPy d).canLay0=true/\(toPy d).depth<=n+1:=by
   intro v d u r rv k;cases r with
   |non=>cases rv;exact⟨_,.none,rfl,Q4 _⟩
   |bl b=>cases rv;exact⟨_,.bool b,rfl,Q4 _⟩
   |int i=>obtain⟨t,rfl⟩:=rv;exact⟨_,.int i t,rfl,Q4 _⟩
   |str s=>obtain⟨t,rfl⟩:=rv;exact⟨_,.str _ t,BA k,Q4 _⟩
   |tup q rs=>cases rv;obtain⟨z,its,vr,ob,e,hc,m,hd⟩:=ok _ _ q;obtain⟨as,h1,h2,h3⟩:=ih.2 _ _ _ rs vr k;exact⟨_,.tuple e hc hd h1,h2,by simp only[toPy,PyData.depth];lia⟩
   |lst q rs=>cases rv;obtain⟨z,its,m,vr,e⟩:=q.ok ok;obtain⟨as,h1,h2,h3⟩:=ih.2 _ _ _ rs vr k;exact⟨_,.list e rfl rfl h1,h2,by simp only[toPy,PyData.depth];lia⟩
   |dct _ _ _=>cases k
   |dcp _ _ _=>cases k
   |exc _=>cases k
   |bU _ _=>cases k
   |fn _=>cases k
  refine⟨one,fun vs ds=>?_⟩
  induction ds generalizing vs with
  |nil=>intro us r rv _;cases r;cases rv;exact⟨_,.nil,rfl,Q4 _⟩
  |cons d ds ih=>
   intro us r rv k;cases r with
   |cons r rs=>
    cases rv with
    |cons q qs=>rw[Tz,QD]at k;obtain⟨a1,h1,h2,h3⟩:=one _ _ _ r q k.1;obtain⟨a2,h4,h5,h6⟩:=ih _ _ rs qs k.2;exact⟨_,.cons h1 h4,by simp[bZ,TL,h2,h5],by simp only[bZ,Rz];lia⟩
theorem j7.full{H0 H:Hp}(s:ak H0 H){v:V}{d:Dm.Dat}(r:j7 H0 H v d):Rep H v d:=by
 rcases r with r | ⟨a,rfl,w⟩
 ·exact r.mono s
 ·cases d with
  |lst ds=>obtain⟨xs,q,rs⟩:=w;exact .lst (.inl q) (rs.mono s)
  |dct ks ds=>obtain⟨kvs,q,e,rs⟩:=w;exact .dct q e (rs.mono s)
  |dcp ks ds=>obtain⟨kvs,q,e,rs⟩:=w;exact .dcp q (e.mono s) (rs.mono s)
  |_=>exact Rc w
def FJ(neg:Bool):R2:=fun x y H Q=>∃dx dy,Rep H x dx/\Rep H y dy/\Dm.okD 8 dx=true/\Dm.okD 8 dy=true/\Q (.bl (if neg then !Dm.eqD dx dy else Dm.eqD dx dy)) H
section
variable{X:Cx}
section
variable{k:Nat}
theorem BB(hr:bg k X.A):OpR X (compareOp .Eq) (FJ false):=by intro kC s σ H x y v u Q I rx ry h;obtain⟨dx,dy,r1,r2,k1,k2,q⟩:=h;obtain⟨as,h1,h2,h3⟩:=(b4 I.hok 8).1 x dx v r1 rx k1;obtain⟨bs,h4,h5,h6⟩:=(b4 I.hok 8).1 y dy u r2 ry k2;have hu:=hr.units;refine PySem.SeqAt.compareEq_reads h1 h4 h2 h5 (by lia) ?_;rw[jC];exact⟨.bl (Dm.eqD dx dy),H,I,rfl,q⟩
theorem BC(hr:bg k X.A):OpR X (compareOp .NotEq) (FJ true):=by intro kC s σ H x y v u Q I rx ry h;obtain⟨dx,dy,r1,r2,k1,k2,q⟩:=h;obtain⟨as,h1,h2,h3⟩:=(b4 I.hok 8).1 x dx v r1 rx k1;obtain⟨bs,h4,h5,h6⟩:=(b4 I.hok 8).1 y dy u r2 ry k2;have hu:=hr.units;refine PySem.SeqAt.compareNe_reads h1 h4 h2 h5 (by lia) ?_;rw[jC];exact⟨.bl (!Dm.eqD dx dy),H,I,rfl,q⟩
def FL(neg:Bool):R2:=fun x y H Q=>∃dx ds,Rep H x dx/\(Rep H y (.lst ds)\/Rep H y (.tup ds))/\Dm.okD 8 dx=true/\ds.all (Dm.okD 7)=true/\Q (.bl (if neg then !Dm.inD dx ds else Dm.inD dx ds)) H
theorem gh(x:Dm.Dat):∀ds:List Dm.Dat,((bZ ds).any fun y=>Ry y (toPy x))=Dm.inD x ds
 |[]=>rfl
 |d::ds=>by have:=gh x ds;unfold Dm.inD at this ⊢;simp only[bZ,R6,jC];rw[this]
theorem BE(hr:bg k X.A):OpR X (compareOp .In) (FL false):=by
 intro kC s σ H x y v u Q I rx ry h;obtain⟨dx,ds,r1,r2,k1,k2,q⟩:=h;obtain⟨as,h1,h2,h3⟩:=(b4 I.hok 8).1 x dx v r1 rx k1;have hu:=hr.units;rcases r2 with r2 | r2
 ·obtain⟨bs,h4,h5,h6⟩:=(b4 I.hok 8).1 y (.lst ds) u r2 ry k2;have h6:Rz (bZ ds)+1<=8:=h6;refine PySem.SeqAt.in_list_reads h4 h1 h5 h2 (by lia) ?_;rw[gh];exact⟨.bl (Dm.inD dx ds),H,I,rfl,q⟩
 ·obtain⟨bs,h4,h5,h6⟩:=(b4 I.hok 8).1 y (.tup ds) u r2 ry k2;have h6:Rz (bZ ds)+1<=8:=h6;refine PySem.SeqAt.in_tuple_reads h4 h1 h5 h2 (by lia) ?_;rw[gh];exact⟨.bl (Dm.inD dx ds),H,I,rfl,q⟩
theorem p6(hr:bg k X.A):OpR X (compareOp .NotIn) (FL true):=by
 intro kC s σ H x y v u Q I rx ry h;obtain⟨dx,ds,r1,r2,k1,k2,q⟩:=h;obtain⟨as,h1,h2,h3⟩:=(b4 I.hok 8).1 x dx v r1 rx k1;have hu:=hr.units;rcases r2 with r2 | r2
 ·obtain⟨bs,h4,h5,h6⟩:=(b4 I.hok 8).1 y (.lst ds) u r2 ry k2;have h6:Rz (bZ ds)+1<=8:=h6;refine PySem.SeqAt.notIn_list_reads h4 h1 h5 h2 (by lia) ?_;rw[gh];exact⟨.bl (!Dm.inD dx ds),H,I,rfl,q⟩
 ·obtain⟨bs,h4,h5,h6⟩:=(b4 I.hok 8).1 y (.tup ds) u r2 ry k2;have h6:Rz (bZ ds)+1<=8:=h6;refine PySem.SeqAt.notIn_tuple_reads h4 h1 h5 h2 (by lia) ?_;rw[gh];exact⟨.bl (!Dm.inD dx ds),H,I,rfl,q⟩
end
end
section
variable{H0 H:Hp}{ds:List Dm.Dat}{v:V}
theorem aC{i:Int}(r:j7 H0 H v (.int i)):v=.int i:=by
 rcases r with r | ⟨a,_,w⟩
 ·exact Rep.isInt r
 ·exact Rc w
theorem lU{b:Bool}(r:j7 H0 H v (.bl b)):v=.bl b:=by
 rcases r with r | ⟨a,_,w⟩
 ·exact Rep.qU r
 ·exact Rc w
theorem bx(s:ak H0 H)(r:j7 H0 H v (.lst ds)):∃a xs,v=.ref a/\Rd H a (.lst xs)/\av H0 xs ds:=by
 rcases r with r | ⟨a,e,xs,q,rs⟩
 ·cases r with
  |lst q rs=>exact⟨_,_,rfl,ak.rd s q,rs⟩
 ·exact⟨a,xs,e,.inl q,rs⟩
theorem bO(s:ak H0 H)(r:j7 H0 H v (.tup ds)):∃a xs,v=.ref a/\H a=some (.tup xs)/\av H0 xs ds:=by
 rcases r with r | ⟨a,_,w⟩
 ·cases r with
  |tup q rs=>exact⟨_,_,rfl,s _ _ q,rs⟩
 ·exact Rc w
theorem JY:OpD (rI0 fun i j=>.int (i-j)) Dm.f7:=by
 intro H0 H x y dx dy z Q s rx ry e k;unfold Dm.f7 at e;split at e
 ·cases e;cases aC rx;cases aC ry;exact⟨_,_,rfl,rfl,k _ H0 H (aI.refl s) (.int _)⟩
 ·cases e
theorem BF:OpD (rI0 fun i j=>.bl (decide (i<j))) Dm.gLt:=by
 intro H0 H x y dx dy z Q s rx ry e k;unfold Dm.gLt at e;split at e
 ·cases e;cases aC rx;cases aC ry;exact⟨_,_,rfl,rfl,k _ H0 H (aI.refl s) (.bl _)⟩
 ·cases e
theorem BG:OpD (rI0 fun i j=>.bl (decide (i<=j))) Dm.gLe:=by
 intro H0 H x y dx dy z Q s rx ry e k;unfold Dm.gLe at e;split at e
 ·cases e;cases aC rx;cases aC ry;exact⟨_,_,rfl,rfl,k _ H0 H (aI.refl s) (.bl _)⟩
 ·cases e
theorem M4:OpD (rI0 fun i j=>.bl (decide (j<i))) Dm.gGt:=by
 intro H0 H x y dx dy z Q s rx ry e k;unfold Dm.gGt at e;split at e
 ·cases e;cases aC rx;cases aC ry;exact⟨_,_,rfl,rfl,k _ H0 H (aI.refl s) (.bl _)⟩
 ·cases e
theorem M5:OpD (rI0 fun i j=>.bl (decide (j<=i))) Dm.gGe:=by
 intro H0 H x y dx dy z Q s rx ry e k;unfold Dm.gGe at e;split at e
 ·cases e;cases aC rx;cases aC ry;exact⟨_,_,rfl,rfl,k _ H0 H (aI.refl s) (.bl _)⟩
 ·cases e
theorem JZ:OpD (rI (fun _ j=>0<j) fun i j=>.int (i % j)) Dm.gT:=by
 intro H0 H x y dx dy z Q s rx ry e k;unfold Dm.gT at e;split at e
 ·split at e
  ·rename_i hj;cases e;cases aC rx;cases aC ry;exact⟨_,_,rfl,rfl,hj,k _ H0 H (aI.refl s) (.int _)⟩
  ·cases e
 ·cases e
theorem J0:OpD (rI Mv fun i j=>.int (i ^ j.toNat)) Dm.jx:=by
 intro H0 H x y dx dy z Q s rx ry e k;unfold Dm.jx at e;split at e
 ·split at e
  ·rename_i hj;cases e;cases aC rx;cases aC ry;exact⟨_,_,rfl,rfl,⟨hj.1,hj.2.1,TV hj.2.2 (by decide)⟩,k _ H0 H (aI.refl s) (.int _)⟩
  ·cases e
 ·cases e
end
section
variable{X:Cx}
def HM(i j:Int):Prop:=0<j/\j<Dm.dI
theorem BH:OpR X (binaryOp .FloorDiv) (rI HM fun i j=>.int (i / j)):=opI fun i j _ _ _ _ _ hc q=>by
 have h:j.natAbs.log2<9000:=by
  have h1:j.natAbs<2 ^ 200:=by
   have:=hc.2;unfold Dm.dI at this;have h2:=hc.1;have e:(2:Nat) ^ 200=1606938044258990275541962092341162602522202993782792835301376:=by decide +kernel
   omega
  have h3:j.natAbs≠0:=by have:=hc.1;omega
  have:=(Nat.log2_lt h3).mpr h1;omega
 have e:i.fdiv j=i / j:=Int.fdiv_eq_ediv_of_nonneg i (Uj hc.1);rw[<- e]at q;exact floordiv_int (Int.ne_of_gt hc.1) q (.inl (PyProof.noPylong_of_log2 h))
end
theorem J1:OpD (rI HM fun i j=>.int (i / j)) Dm.zU:=by
 intro H0 H x y dx dy z Q s rx ry e k;unfold Dm.zU at e;split at e
 ·split at e
  ·rename_i hj;cases e;cases aC rx;cases aC ry;exact⟨_,_,rfl,rfl,hj,k _ H0 H (aI.refl s) (.int _)⟩
  ·cases e
 ·cases e
theorem J2:UnD (rU fun i=>.int (-i)) Dm.FD:=by
 intro H0 H x dx z Q s rx e k;unfold Dm.FD at e;split at e
 ·cases e;cases aC rx;exact⟨_,rfl,k _ H0 H (aI.refl s) (.int _)⟩
 ·cases e
def BI:R2:=fun x y H Q=>∃l b xs zs,x=.ref l/\y=.ref b/\Rd H l (.lst xs)/\Rd H b (.lst zs)/\xs.length+zs.length<=sizeLine/\∀p,H p=none->Q (.ref p) (upd H p (.lst (xs++zs)))
def BJ:R2:=fun x y H Q=>∃l k xs,x=.ref l/\y=.int k/\Rd H l (.lst xs)/\-(2 ^ 63)<=k/\k<2 ^ 63/\xs.length*k.toNat<=sizeLine /\
 ∀p,H p=none->Q (.ref p) (upd H p (.lst (Ds k.toNat xs).flatten))
section
variable{X:Cx}
theorem FO:OpR X (binaryOp .Add) BI:=by
 intro kC s σ H x y v u Q I rx ry h;obtain⟨l,b,xs,zs,rfl,rfl,hH,hB,hz,q⟩:=h;cases rx;cases ry;obtain⟨z,its,n,r,e⟩:=hH.ok I.hok;obtain⟨z2,its2,n2,r2,e2⟩:=hB.ok I.hok;have hl:=r.length;have hl2:=r2.length;refine PySem.P.add_list e e2 ?_ (by rw[Qy,Qy];lia);have ea:its.toArray++its2.toArray=(its++its2).toArray:=by simp
 rw[ea];exact⟨.ref _,_,I.JH (t':=s.toks) (r.append r2) (by rw[Qv];lia),rfl,q _ I.fresh⟩
theorem FQ:OpR X (binaryOp .Mult) BJ:=by
 intro kC s σ H x y v u Q I rx ry h;obtain⟨l,k,xs,rfl,rfl,hH,h1,h2,hz,q⟩:=h;cases rx;obtain⟨t,rfl⟩:=ry;obtain⟨z,its,n,r,e⟩:=hH.ok I.hok;have hl:=r.length;have ur:its.toArray.size*k.toNat<=sizeLine:=by rw[Qy,<- hl];exact hz
 have hcap:¬its.toArray.size*k.toNat>(2 ^ 63-1) / 8:=by
  have:(sizeLine:Nat)<=(2 ^ 63-1) / 8:=by decide
  lia
 have hfit:¬(!Builtin.List.listFitsIndex k)=true:=by rw[fitsIndex_both h1 h2];exact Q0
 have M6:¬Sf (its.toArray.size*k.toNat)=true:=by rw[sV ur];exact Q0
 have hnew:Us (fun x1 x2=>x1++x2) #[] (Ds (if its.toArray.isEmpty=true then 0 else k.toNat) its.toArray)=(Ds k.toNat its).flatten.toArray:=by
  have f0:∀m:Nat,Us (fun x1 x2=>x1++x2) #[] (Ds m its.toArray)=(Ds m its).flatten.toArray:=fun m=>by have:=foldl_rep its m [];rw[Sq]at this;exact this
  rw[f0];cases its with
  |nil=>simp
  |cons a r'=>rw[if_neg (by simp)]
 refine wpAny_binaryOp_repeat_ref (T := "list") (U := "int") (by decide) ⟨_,e,rfl⟩ (fun s'=>typeIs_int s' k t) noFill_list_mul F.fills_int_mul F.slot_int_rmul repeat_list F.slot_int_index.lookup
  (call_meets F.slot_int_rmul (typeIs_int s k t) F.entry_int_rmul (F.args_int_rmul_2 _ _) (int___rmul___int_list k t l its.toArray n)
   ⟨e,rfl,⟨_,e,rfl⟩,call_meets F.slot_list_mul ⟨_,e,rfl⟩ F.entry_list_mul (F.args_list_mul_2 _ _) (AutoListH.list___mul___list_int_3 l its.toArray n k t hfit hcap M6) ⟨e,?_⟩⟩)
 rw[hnew];exact⟨.ref _,_,I.JH (t':=s.toks) (r.rep k.toNat) (by rw[len_rep,Nat.mul_comm];exact hz),rfl,q _ I.fresh⟩
theorem FU:OpR X (binaryOp .Add) (fun x y H Q=>rI0 (fun i j=>.int (i+j)) x y H Q\/BI x y H Q):=Jq.or FO
theorem FW:OpR X (binaryOp .Mult) (fun x y H Q=>rI AZ (fun i j=>.int (i*j)) x y H Q\/BJ x y H Q):=Js.or FQ
end
theorem J3:OpD (fun x y H Q=>rI0 (fun i j=>.int (i+j)) x y H Q\/BI x y H Q) Dm.bE:=by
 intro H0 H x y dx dy z Q s rx ry e k;unfold Dm.bE at e;split at e
 ·cases e;cases aC rx;cases aC ry;exact .inl ⟨_,_,rfl,rfl,k _ H0 H (aI.refl s) (.int _)⟩
 ·split at e
  ·rename_i hz;cases e;obtain⟨a,us,rfl,qa,ra⟩:=bx s rx;obtain⟨b,ws,rfl,qb,rb⟩:=bx s ry;refine .inr ⟨a,b,us,ws,rfl,rfl,qa,qb,by rw[ra.length,rb.length];exact jz hz,fun p hp=>?_⟩;exact k _ _ _ (aI.j8 s hp) ⟨p,rfl,hp,s.free hp,_,au,ra.append rb⟩
  ·cases e
 ·cases e
theorem J4:OpD (fun x y H Q=>rI AZ (fun i j=>.int (i*j)) x y H Q\/BJ x y H Q) Dm.ic:=by
 intro H0 H x y dx dy z Q s rx ry e k;unfold Dm.ic at e;split at e
 ·split at e
  ·rename_i hj;cases e;cases aC rx;cases aC ry;exact .inl ⟨_,_,rfl,rfl,hj,k _ H0 H (aI.refl s) (.int _)⟩
  ·cases e
 ·split at e
  ·rename_i hz;cases e;cases aC ry;obtain⟨a,us,rfl,qa,ra⟩:=bx s rx;obtain⟨h1,h2,h3⟩:=hz;unfold Dm.BIG at h1 h2;refine .inr ⟨a,_,us,rfl,rfl,qa,by lia,by lia,by rw[ra.length];exact jz h3,fun p hp=>?_⟩;exact k _ _ _ (aI.j8 s hp) ⟨p,rfl,hp,s.free hp,_,au,ra.rep _⟩
  ·cases e
 ·cases e
theorem HN:OpD (FJ false) Dm.gEq:=by
 intro H0 H x y dx dy z Q s rx ry e k;unfold Dm.gEq at e;split at e
 ·rename_i hk;rw[QD]at hk;cases e;exact⟨dx,dy,rx.full s,ry.full s,hk.1,hk.2,k _ H0 H (aI.refl s) (.bl _)⟩
 ·cases e
theorem HP:OpD (FJ true) Dm.gNe:=by
 intro H0 H x y dx dy z Q s rx ry e k;unfold Dm.gNe at e;split at e
 ·rename_i hk;rw[QD]at hk;cases e;exact⟨dx,dy,rx.full s,ry.full s,hk.1,hk.2,k _ H0 H (aI.refl s) (.bl _)⟩
 ·cases e
theorem HQ:OpD (FL false) Dm.gIn:=by
 intro H0 H x y dx dy z Q s rx ry e k;unfold Dm.gIn at e;split at e
 ·split at e
  ·rename_i hk;rw[QD]at hk;cases e;exact⟨dx,_,rx.full s,.inl (ry.full s),hk.1,hk.2,k _ H0 H (aI.refl s) (.bl _)⟩
  ·cases e
 ·split at e
  ·rename_i hk;rw[QD]at hk;cases e;exact⟨dx,_,rx.full s,.inr (ry.full s),hk.1,hk.2,k _ H0 H (aI.refl s) (.bl _)⟩
  ·cases e
 ·cases e
theorem tG:OpD (FL true) Dm.cW:=by
 intro H0 H x y dx dy z Q s rx ry e k;unfold Dm.cW at e;split at e
 ·split at e
  ·rename_i hk;rw[QD]at hk;cases e;exact⟨dx,_,rx.full s,.inl (ry.full s),hk.1,hk.2,k _ H0 H (aI.refl s) (.bl _)⟩
  ·cases e
 ·split at e
  ·rename_i hk;rw[QD]at hk;cases e;exact⟨dx,_,rx.full s,.inr (ry.full s),hk.1,hk.2,k _ H0 H (aI.refl s) (.bl _)⟩
  ·cases e
 ·cases e
theorem yk{H0:Hp}{xs:List V}{ds:List Dm.Dat}{i:Int}{d:Dm.Dat}(rs:av H0 xs ds)(e:Dm.atI ds i=some d):∃v,L2.atI xs i=some v/\Rep H0 v d:=by
 unfold Dm.atI at e;cases q:Dm.ixN ds.length i with
 |none=>rw[q]at e;cases e
 |some j=>rw[q]at e;obtain⟨v,hv,r⟩:=rs.get (i:=j) e;refine⟨v,?_,r⟩;unfold L2.atI;rw[rs.length];have q':L2.ixN ds.length i=some j:=q;rw[q'];exact hv
theorem M7{K:Dk}:OpD (fun x y H Q=>A9 K x y H Q\/MA K x y H Q) Dm.gIx:=by
 intro H0 H x y dx dy z Q s rx ry e k;unfold Dm.gIx at e;split at e
 ·rename_i ds i;cases q:Dm.atI ds i with
  |none=>rw[q]at e;cases e
  |some d=>rw[q]at e;cases e;cases aC ry;obtain⟨a,us,rfl,qa,ra⟩:=bx s rx;obtain⟨v,hv,rv⟩:=yk ra q;exact .inl ⟨a,us,i,v,rfl,rfl,.inl qa,hv,k _ H0 H (aI.refl s) rv⟩
 ·rename_i ds i;cases q:Dm.atI ds i with
  |none=>rw[q]at e;cases e
  |some d=>rw[q]at e;cases e;cases aC ry;obtain⟨a,us,rfl,qa,ra⟩:=bO s rx;obtain⟨v,hv,rv⟩:=yk ra q;exact .inr ⟨a,us,i,v,rfl,rfl,.inl (.inl qa),hv,k _ H0 H (aI.refl s) rv⟩
 ·cases e
theorem J5{K:Dk}:CallD (fun xs H Q=>∃p ys,xs=[.ref p]/\(SqL K H p ys\/SqT K H p ys)/\Q (.int ys.length) H) Dm.cE:=by
 intro H0 H vs ds z Q s rs e k;unfold Dm.cE at e;split at e
 ·cases e;cases rs with
  |cons r rr=>cases rr;obtain⟨a,us,rfl,qa,ra⟩:=bx s r;exact⟨a,us,rfl,.inl (.inl qa),k _ H0 H (aI.refl s) (by rw[ra.length];exact .int _)⟩
 ·cases e;cases rs with
  |cons r rr=>cases rr;obtain⟨a,us,rfl,qa,ra⟩:=bO s r;exact⟨a,us,rfl,.inr (.inl (.inl qa)),k _ H0 H (aI.refl s) (by rw[ra.length];exact .int _)⟩
 ·cases e
theorem FY:CallD (fun xs H Q=>∃i j,xs=[.int i,.int j]/\Q (.int (if j<i then j else i)) H) Dm.mE:=by
 intro H0 H vs ds z Q s rs e k;unfold Dm.mE at e;split at e
 ·cases e;cases rs with
  |cons r rr=>
   cases rr with
   |cons r' rr=>cases rr;cases aC r;cases aC r';exact⟨_,_,rfl,k _ H0 H (aI.refl s) (.int _)⟩
 ·cases e
theorem FZ:CallD (fun xs H Q=>∃i j,xs=[.int i,.int j]/\Q (.int (if j>i then j else i)) H) Dm.k6:=by
 intro H0 H vs ds z Q s rs e k;unfold Dm.k6 at e;split at e
 ·cases e;cases rs with
  |cons r rr=>
   cases rr with
   |cons r' rr=>cases rr;cases aC r;cases aC r';exact⟨_,_,rfl,k _ H0 H (aI.refl s) (.int _)⟩
 ·cases e
theorem F0{K:Dk}:CallD (fun xs H Q=>∃p ys,xs=[.ref p]/\(SqL K H p ys\/SqT K H p ys)/\∀l,H l=none->Q (.ref l) (upd H l (.lst ys))) Dm.c_:=by
 intro H0 H vs ds z Q s rs e k;unfold Dm.c_ at e;split at e
 ·cases e;cases rs with
  |cons r rr=>cases rr;obtain⟨a,us,rfl,qa,ra⟩:=bx s r;exact⟨a,us,rfl,.inl (.inl qa),fun p hp=>k _ _ _ (aI.j8 s hp) ⟨p,rfl,hp,s.free hp,_,au,ra⟩⟩
 ·cases e;cases rs with
  |cons r rr=>cases rr;obtain⟨a,us,rfl,qa,ra⟩:=bO s r;exact⟨a,us,rfl,.inr (.inl (.inl qa)),fun p hp=>k _ _ _ (aI.j8 s hp) ⟨p,rfl,hp,s.free hp,_,au,ra⟩⟩
 ·cases e
theorem BK{K:Dk}:CallD (fun xs H Q=>∃p ys,xs=[.ref p]/\((SqL K H p ys/\∀l,H l=none->Q (.ref l) (upd H l (.tup ys)))\/(SqT K H p ys/\Q (.ref p) H))) Dm.f_:=by
 intro H0 H vs ds z Q s rs e k;unfold Dm.f_ at e;split at e
 ·cases e;cases rs with
  |cons r rr=>cases rr;obtain⟨a,us,rfl,qa,ra⟩:=bx s r;refine⟨a,us,rfl,.inl ⟨.inl qa,fun p hp=>?_⟩⟩;have g:=aI.Bs (o:=HO.tup us) s hp;exact k _ _ _ g (.tup au (ra.mono g.s0))
 ·cases e;cases rs with
  |cons r rr=>
   cases rr;rcases r with r | ⟨a,_,w⟩
   ·cases r with
    |tup q rs=>exact⟨_,_,rfl,.inr ⟨.inl (.inl (s _ _ q)),k _ H0 H (aI.refl s) (.tup q rs)⟩⟩
   ·exact Rc w
 ·cases e
noncomputable abbrev DS(X:Cx)(st:Stmt)(f:Dm.FS):Prop:=PS X st (tDS f)
noncomputable abbrev DSs(X:Cx)(st:List Stmt)(f:Dm.FS):Prop:=PSs X st (tDS f)
noncomputable abbrev DI(X:Cx)(tg it:Expr)(f:Dm.FI):Prop:=PI X tg it (tDI f)
theorem PI.weak{X:Cx}{tg it:Expr}{t t':TI}(h:PI X tg it t)(k:∀σ H R,t' σ H R->t σ H R):PI X tg it t':=fun kC s σ H R I q=>h kC s σ H R I (k σ H R q)
section
variable{X:Cx}{a b c e:Expr}{fa fb fc f:Dm.FE}{pos:Pos}
section
variable{g:Dm.Dat->Dm.Dat->Option Dm.RV}{k:Nat}{r:List V->Hp->VK->Prop}{CJ:List Expr}{x:Str}
theorem d_v(i:Nat)(hN:X.N[i]?=some x:=by rfl)(hv:Vis X.env.scope x:=by trivial)(hd:(x == ("__debug__" : Str))=false:=by decide)
  (Ij:(x == ("__classdict__" : Str))=false:=by decide):DE X (.Name x pos) (Dm.eV i):=PE.weak (eK hN hv hd Ij) fun _ _ _=>MH
theorem d_i{i:Int}{j}:DE X (.Constant (.int i) j pos) (Dm.eC (.int i)):=PE.weak AK fun _ _ _=>qT fun _=>.int i
theorem d_b{v:Bool}{j}:DE X (.Constant (.bool v) j pos) (Dm.eC (.bl v)):=PE.weak Mn fun _ _ _=>qT fun _=>.bl v
theorem d_n{j}:DE X (.Constant .none j pos) (Dm.eC .non):=PE.weak Jd fun _ _ _=>qT fun _=>.non
theorem tH{op:Operator}{r:R2}(o:OpR X (binaryOp op) r)(od:OpD r g)(ha:DE X a fa)(hb:DE X b fb):DE X (.BinOp a op b pos) (Dm.e2 g fa fb):=
 PE.weak (Mt o ha hb) fun _ _ _=>v8 od
theorem bf(ha:DE X a fa)(hb:DE X b fb):DE X (.BinOp a .Add b pos) (Dm.e2 Dm.bE fa fb):=tH FU J3 ha hb
theorem jD(ha:DE X a fa)(hb:DE X b fb):DE X (.BinOp a .Sub b pos) (Dm.e2 Dm.f7 fa fb):=tH Jr JY ha hb
theorem gY(ha:DE X a fa)(hb:DE X b fb):DE X (.BinOp a .Mult b pos) (Dm.e2 Dm.ic fa fb):=tH FW J4 ha hb
theorem M8(ha:DE X a fa)(hb:DE X b fb):DE X (.BinOp a .FloorDiv b pos) (Dm.e2 Dm.zU fa fb):=tH BH J1 ha hb
theorem gi(ha:DE X a fa)(hb:DE X b fb):DE X (.BinOp a .Mod b pos) (Dm.e2 Dm.gT fa fb):=tH Jt JZ ha hb
theorem k7(ha:DE X a fa)(hb:DE X b fb):DE X (.BinOp a .Pow b pos) (Dm.e2 Dm.jx fa fb):=tH Ju J0 ha hb
theorem M9(ha:DE X a fa):DE X (.UnaryOp .USub a pos) (Dm.e1 Dm.FD fa):=PE.weak (HF A0 ha) fun _ _ _=>O9 J2
theorem p7{op:CmpOp}{r:R2}(o:OpR X (compareOp op) r)(od:OpD r g)(ha:DE X a fa)(hb:DE X b fb)(hm:behindInMarks op b=false):DE X (.Compare a [op] [b] pos) (Dm.e2 g fa fb):=
 PE.weak (Fe o ha hb hm) fun _ _ _=>v8 od
theorem jE{op:CmpOp}{r:R2}(o:OpR X (compareOp op) r)(od:OpD r g)(ha:DE X a fa)(hb:DE X b fb)(hm:behindInMarks op b=false):DT X (.Compare a [op] [b] pos) (Dm.tV (Dm.e2 g fa fb)):=
 PT.weak (Ff o ha hb hm) fun σ H Q h=>v8 od (qV h)
theorem tK(hr:bg k X.A)(ha:DE X a fa)(hb:DE X b fb):DE X (.Compare a [.Eq] [b] pos) (Dm.e2 Dm.gEq fa fb):=p7 (BB hr) HN ha hb (dD _)
theorem Ph(hr:bg k X.A)(ha:DE X a fa)(hb:DE X b fb):DE X (.Compare a [.NotEq] [b] pos) (Dm.e2 Dm.gNe fa fb):=p7 (BC hr) HP ha hb (dD _)
theorem M_(ha:DE X a fa)(hb:DE X b fb):DE X (.Compare a [.Lt] [b] pos) (Dm.e2 Dm.gLt fa fb):=p7 A1 BF ha hb (dD _)
theorem sZ(hr:bg k X.A)(ha:DE X a fa)(hb:DE X b fb)(hm:behindInMarks .In b=false:=by rfl):DE X (.Compare a [.In] [b] pos) (Dm.e2 Dm.gIn fa fb):=p7 (BE hr) HQ ha hb hm
theorem HR(hr:bg k X.A)(ha:DE X a fa)(hb:DE X b fb)(hm:behindInMarks .NotIn b=false:=by rfl):DE X (.Compare a [.NotIn] [b] pos) (Dm.e2 Dm.cW fa fb):=p7 (p6 hr) tG ha hb hm
theorem dJ(hr:bg k X.A)(ha:DE X a fa)(hb:DE X b fb):DT X (.Compare a [.Eq] [b] pos) (Dm.tV (Dm.e2 Dm.gEq fa fb)):=jE (BB hr) HN ha hb (dD _)
theorem fF(hr:bg k X.A)(ha:DE X a fa)(hb:DE X b fb):DT X (.Compare a [.NotEq] [b] pos) (Dm.tV (Dm.e2 Dm.gNe fa fb)):=jE (BC hr) HP ha hb (dD _)
theorem Na(ha:DE X a fa)(hb:DE X b fb):DT X (.Compare a [.Lt] [b] pos) (Dm.tV (Dm.e2 Dm.gLt fa fb)):=jE A1 BF ha hb (dD _)
theorem Nb(ha:DE X a fa)(hb:DE X b fb):DT X (.Compare a [.Gt] [b] pos) (Dm.tV (Dm.e2 Dm.gGt fa fb)):=jE Mw M4 ha hb (dD _)
theorem J6(ha:DE X a fa)(hb:DE X b fb):DT X (.Compare a [.GtE] [b] pos) (Dm.tV (Dm.e2 Dm.gGe fa fb)):=jE Mx M5 ha hb (dD _)
theorem Pj(hr:bg k X.A)(ha:DE X a fa)(hb:DE X b fb)(hm:behindInMarks .In b=false:=by rfl):DT X (.Compare a [.In] [b] pos) (Dm.tV (Dm.e2 Dm.gIn fa fb)):=jE (BE hr) HQ ha hb hm
theorem BL(hr:bg k X.A)(ha:DE X a fa)(hb:DE X b fb)(hm:behindInMarks .NotIn b=false:=by rfl):DT X (.Compare a [.NotIn] [b] pos) (Dm.tV (Dm.e2 Dm.cW fa fb)):=jE (p6 hr) tG ha hb hm
theorem aS(ha:DE X a fa)(hb:DE X b fb)(hs:jt b:=by intro _ _;rfl):DE X (.Subscript a b pos) (Dm.e2 Dm.gIx fa fb):=PE.weak (yd (lQ.or JD) ha hb hs) fun _ _ _=>v8 M7
theorem af:DA X [] []:=PA.weak g_ fun _ _ _=>MI
theorem aa{es:List Expr}{fs:List Dm.FE}(h:DE X e f)(r:DA X es fs)(hs:starEach (e::es) X.env=(false,eval e X.env)::starEach es X.env:=by rfl):DA X (e::es) (f::fs):=PA.weak (fE h r hs) fun _ _ _=>JQ
theorem d7{es:List Expr}{fs:List Dm.FE}{x1}(h:DA X es fs):DE X (.Tuple es x1 pos) (Dm.e_ fs):=PE.weak (Jy h) fun _ _ _=>MK
theorem bP{es:List Expr}{fs:List Dm.FE}(h:DA X es fs):DE X (.List es pos) (Dm.cB fs):=PE.weak (A6 h) fun _ _ _=>ML
theorem tL{es:List Expr}{fs:List Dm.FE}{g:List Dm.Dat->Option Dm.RV}{id:String}{p:Pos}(hc:bW X (.builtin id) r)(cd:CallD r g)(hv:bootBuiltins x=some (.builtin id))(hg:Gl X x)(hm:X.mg x=none)(ha:DA X (e::es) fs)
  (hn:x ≠ "__name__" := by decide) (NV:(x == ("__debug__" : Str))=false:=by decide) (he:starEach (e::es) X.env=(false,eval e X.env)::starEach es X.env:=by rfl) (CI:(backTo pos (starEach es X.env)).any (·.1)=false:=by rfl) :
  DE X (.Call (.Name x p) (e::es) [] pos) (Dm.eB g fs):=PE.weak (jq hc hg hm hv ha hn NV he CI) fun _ _ _=>MJ cd
theorem BN{es:List Expr}{fs:List Dm.FE}{g:List Dm.Dat->Option Dm.RV}{T:String}{p:Pos}(hc:bW X (.type T) r)(cd:CallD r g)(hv:bootBuiltins x=some (.type T))(hg:Gl X x)(hm:X.mg x=none)(ha:DA X (e::es) fs)
  (hn:x ≠ "__name__" := by decide) (NV:(x == ("__debug__" : Str))=false:=by decide) (he:starEach (e::es) X.env=(false,eval e X.env)::starEach es X.env:=by rfl) (CI:(backTo pos (starEach es X.env)).any (·.1)=false:=by rfl) :
  DE X (.Call (.Name x p) (e::es) [] pos) (Dm.eB g fs):=PE.weak (jX hc hg hm hv ha hn NV he CI) fun _ _ _=>MJ cd
variable{es:List Expr}{fs:List Dm.FE}{p:Pos}
theorem ck(hg:Gl X "len")(hm:X.mg "len" = none)(ha:DA X [e] fs)(he:starEach [e] X.env=[(false,eval e X.env)]:=by rfl)(CI:(backTo pos (starEach [] X.env)).any (·.1)=false:=by rfl):DE X (.Call (.Name "len" p) [e] [] pos) (Dm.eB Dm.cE fs):=tL qO J5 PySem.boot_len hg hm ha (he:=he) (CI:=CI)
theorem wj(hc:X.calm=true)(hg:Gl X "min")(hm:X.mg "min" = none)(ha:DA X [a,b] fs)(he:starEach [a,b] X.env=(false,eval a X.env)::starEach [b] X.env:=by rfl)(CI:(backTo pos (starEach [b] X.env)).any (·.1)=false:=by rfl):DE X (.Call (.Name "min" p) [a,b] [] pos) (Dm.eB Dm.mE fs):=tL (zK hc) FY (by rfl) hg hm ha (he:=he) (CI:=CI)
theorem rj(hc:X.calm=true)(hg:Gl X "max")(hm:X.mg "max" = none)(ha:DA X [a,b] fs)(he:starEach [a,b] X.env=(false,eval a X.env)::starEach [b] X.env:=by rfl)(CI:(backTo pos (starEach [b] X.env)).any (·.1)=false:=by rfl):DE X (.Call (.Name "max" p) [a,b] [] pos) (Dm.eB Dm.k6 fs):=tL (zJ hc) FZ (by rfl) hg hm ha (he:=he) (CI:=CI)
theorem eU(hg:Gl X "list")(hm:X.mg "list" = none)(ha:DA X [e] fs)(he:starEach [e] X.env=[(false,eval e X.env)]:=by rfl)(CI:(backTo pos (starEach [] X.env)).any (·.1)=false:=by rfl):DE X (.Call (.Name "list" p) [e] [] pos) (Dm.eB Dm.c_ fs):=BN qP F0 (by rfl) hg hm ha (he:=he) (CI:=CI)
theorem lV(hg:Gl X "tuple")(hm:X.mg "tuple" = none)(ha:DA X [e] fs)(he:starEach [e] X.env=[(false,eval e X.env)]:=by rfl)(CI:(backTo pos (starEach [] X.env)).any (·.1)=false:=by rfl):DE X (.Call (.Name "tuple" p) [e] [] pos) (Dm.eB Dm.f_ fs):=BN pB BK (by rfl) hg hm ha (he:=he) (CI:=CI)
theorem aL{F:Addr}{fd:FuncData}{ps:List Str}{g:List Dm.Dat->Option Dm.RV}(G:aW X.prog X.w X.K X.mg X.base CX0 k F fd ps (spD g))(hr:bg k X.A)(hg:Gl X x)(hm:X.mg x=some (.ref F))(hk:Rw X.K (.ref F)=true)(hb:Binds X.K fd ps [])
  (ha:DA X (e::es) fs) (NV:(x == ("__debug__" : Str))=false:=by decide) (he:starEach (e::es) X.env=(false,eval e X.env)::starEach es X.env:=by rfl) (CI:(backTo pos (starEach es X.env)).any (·.1)=false:=by rfl) :
  DE X (.Call (.Name x p) (e::es) [] pos) (Dm.eF g fs):=PE.weak (jo G hr hg hm hk hb .nil (sX (X:=X)) ha NV he CI) fun _ _ _=>JR
theorem jF{op}(h:DE X a fa):DE X (.BoolOp op [a] pos) fa:=Jg h
theorem dM(ha:DE X a fa)(hb:DE X (.BoolOp .And (b::CJ) pos) fb):DE X (.BoolOp .And (a::b::CJ) pos) (Dm.dX fa fb):=PE.weak (Jh ha hb) fun _ _ _=>MM
theorem HS(ha:DE X a fa):DE X (.UnaryOp .Not a pos) (Dm.vZ fa):=PE.weak (Ji ha) fun _ _ _=>MN
noncomputable abbrev DW(X:Cx)(e:Expr)(f:Dm.FT):Prop:=PW X e (tDT f)
theorem PW.weak{t t':TT}(h:PW X e t)(k:∀σ H Q,t' σ H Q->t σ H Q):PW X e t':=fun whole kC s σ H Q I q=>h whole kC s σ H Q I (k σ H Q q)
variable{ta tb:Dm.FT}
theorem BO(h:DT X a ta):DW X (.BoolOp .And [a] pos) ta:=pw_and1 h
theorem fT(h:DT X a ta):DW X (.BoolOp .Or [a] pos) ta:=pw_or1 h
theorem w_and(ha:DT X a ta)(hb:DW X (.BoolOp .And (b::CJ) pos) tb):DW X (.BoolOp .And (a::b::CJ) pos) (Dm.l9 ta tb):=PW.weak (pw_and ha hb) fun _ _ _=>JT
theorem w_or(ha:DT X a ta)(hb:DW X (.BoolOp .Or (b::CJ) pos) tb):DW X (.BoolOp .Or (a::b::CJ) pos) (Dm.tOr ta tb):=PW.weak (pw_or ha hb) fun _ _ _=>MO
theorem t_w(h:DW X a ta):DT X a ta:=h.pt
theorem gj(h:DT X a ta):DT X (.UnaryOp .Not a pos) (Dm.eZ ta):=PT.weak (Jf h) fun _ _ _=>JS
theorem gk(h:DE X e f)(he:∀whole,isTrue e X.env whole=(do let v <- whole;standAt e.pos;holding [v] (truthy v)):=by intro _;rfl):DT X e (Dm.tV f):=PT.weak (Je h he) fun _ _ _=>qV
variable{tg:Expr}
theorem zY(hg:Gl X "range")(hm:X.mg "range" = none)(ha:DA X [a] [fa])(hs:starEach [a] X.env=[(false,eval a X.env)]:=by rfl):DI X tg (.Call (.Name "range" p) [a] [] pos) (Dm.iR1 fa):=
 PI.weak (zG hg hm ha hs) fun _ _ _=>MX
theorem Pk(hg:Gl X "range")(hm:X.mg "range" = none)(ha:DA X [a,b] [fa,fb])(hs:starEach [a,b] X.env=[(false,eval a X.env),(false,eval b X.env)]:=by rfl)(hs2:starEach [b] X.env=[(false,eval b X.env)]:=by rfl):DI X tg (.Call (.Name "range" p) [a,b] [] pos) (Dm.iR2 fa fb):=
 PI.weak (zH hg hm ha hs hs2) fun _ _ _=>MY
end
end
section
variable{X:Cx}{st:Stmt}{CJ:List Stmt}{fs gs:Dm.FS}{e a b c:Expr}{f fa fb:Dm.FE}{pos:Pos}
section
variable{is:List Nat}{es:List Expr}{x:Str}{body:List Stmt}{t:Dm.FT}
theorem aR:DSs X [] Dm.sNx:=PSs.weak qJ fun _ _ _=>O_
theorem ah(h1:DS X st fs)(h2:DSs X CJ gs):DSs X (st::CJ) (Dm.aq fs gs):=PSs.weak (cO h1 h2) fun _ _ _=>MQ
theorem ao(h1:DS X st fs):DSs X [st] fs:=xX h1
theorem s_a(i:Nat){pos':Pos}(hN:X.N.Nodup)(he:DE X e f)(hi:X.N[i]?=some x:=by rfl)(hx:Loc X.env.scope x:=by trivial)(hs:swapsWith e (some (.Name x pos')) pos.line X.env=pure false:=by rfl)
  (hf:X.fn x=true\/X.env.scope.names.lookup x=some .local:=by trivial):DS X (.Assign [.Name x pos'] e pos) (Dm.sA i f):=PS.weak (vQ hN hi hx he hs hf) fun _ _ _=>Bv
theorem j_:PGs X [] (eS []):=E_
theorem bz(i:Nat){px:Pos}(hN:X.N.Nodup)(h2:PGs X es (eS is))(hi:X.N[i]?=some x:=by rfl)(hx:Loc X.env.scope x:=by trivial)
  (hf:X.fn x=true\/X.env.scope.names.lookup x=some .local:=by trivial) (hs:(assignEach (.Name x px::es) X.env).map (·.2)=assign (.Name x px) X.env::(assignEach es X.env).map (·.2):=by rfl):PGs X (.Name x px::es) (eS (i::is)):=AR (qK hN hi hx hf) h2 hs
theorem s_u{k:Nat}{tpos:Pos}(hc:X.calm=true)(hg:PGs X es (eS is))(he:DE X e f)(hn:(assignEach es X.env).length=is.length:=by rfl)(hst:(assignEach es X.env).findIdx? (·.1)=none:=by rfl)
  (hs:swapsWithSole [.Tuple es k tpos] e pos.line X.env=pure false:=by rfl) (hw:swappedStores [.Tuple es k tpos] e X.env=pure none:=by rfl) (h1:(assignEach [.Tuple es k tpos] X.env).map (·.2)=[assign (.Tuple es k tpos) X.env]:=by rfl) :
  DS X (.Assign [.Tuple es k tpos] e pos) (Dm.sU is f):=PS.weak (vP he (vO hc hg hn hst) hs hw h1) fun _ _ _=>Bw rfl
theorem s_e(he:DE X e f)(hs:swapsWith e none pos.line X.env=pure false:=by rfl):DS X (.Expr e pos) (Dm.sE f):=PS.weak (jl he hs) fun _ _ _=>JU
theorem s_r(he:DE X e f):DS X (.Return (some e) pos) (Dm.sR f):=PS.weak (Jj he) fun _ _ _=>MR
theorem bQ{x y:List Stmt}(ht:DT X c t)(ha:DSs X x fs)(hb:DSs X y gs):DS X (.If c x y pos) (Dm.sIf t fs gs):=PS.weak (xY ht ha hb) fun _ _ _=>MT
theorem F1:DS X st (fun _=>none):=PS.weak AQ fun _ _ _ ⟨_,_,_,_,z,_⟩=>by cases z
theorem yl(i:Nat){px ap cp:Pos}(he:DE X e f)(hi:X.N[i]?=some x:=by rfl)(hv:Vis X.env.scope x:=by trivial)(hd:(x == ("__debug__" : Str))=false:=by decide)
  (Ij:(x == ("__classdict__" : Str))=false:=by decide) (Gz:attributeBase (.Name x px) "append" X.env (eval (.Name x px) X.env)=eval (.Name x px) X.env:=by rfl)
  (hfew:((backTo cp (starEach [e] X.env)).all (fun x=>!x.1)&&(backToKw cp (keywordEach [] X.env)).all (fun x=>x.1.isSome)
   && decide ([e].length+([]:List Keyword).length+(if ([]:List Keyword).isEmpty then 0 else 1)<30))=true:=by rfl)
  (Fd:(ap.endLine == cp.line)=true:=by rfl) (hs:starEach [e] X.env=(false,eval e X.env)::starEach [] X.env:=by rfl) (CW:(backTo cp (starEach [] X.env)).any (·.1)=false:=by rfl)
  (hsw:swapsWith (.Call (.Attribute (.Name x px) "append" ap) [e] [] cp) none pos.line X.env=pure false:=by rfl) :
  DS X (.Expr (.Call (.Attribute (.Name x px) "append" ap) [e] [] cp) pos) (Dm.qR i f):=
 PS.weak (jl (sS RX SR SS gH (eK hi hv hd Ij) (aa he af hs) Gz hfew Fd hs CW) hsw) fun _ _ _=>MU
theorem HU(i:Nat){j:Expr}{fj:Dm.FE}{px sp:Pos}(hj:DE X j fj)(he:DE X e f)(hi:X.N[i]?=some x:=by rfl)(hv:Vis X.env.scope x:=by trivial)(hd:(x == ("__debug__" : Str))=false:=by decide)
  (Ij:(x == ("__classdict__" : Str))=false:=by decide) (ha:∀ v,assign (.Subscript (.Name x px) j sp) X.env v=(do
   let ov <- holding [v] (eval (.Name x px) X.env)
   let iv <- holding [v,ov] (eval j X.env)
   standAt sp
   holding [v,ov,iv] (setItem ov iv v)
   release [v,ov,iv] []):=by intro _;rfl)
  (hs:swapsWithSole [.Subscript (.Name x px) j sp] e pos.line X.env=pure false:=by rfl) (hw:swappedStores [.Subscript (.Name x px) j sp] e X.env=pure none:=by rfl) (h1:(assignEach [.Subscript (.Name x px) j sp] X.env).map (·.2)=[assign (.Subscript (.Name x px) j sp) X.env]:=by rfl) :
  DS X (.Assign [.Subscript (.Name x px) j sp] e pos) (Dm.v5 i fj f):=PS.weak (vP he (AS (eK hi hv hd Ij) hj set_list ha) hs hw h1) fun _ _ _=>MV
theorem Nc(n:Nat)(hp:PassesOwn (model X.prog X.w) X.A X.env X.xe)(ht:DT X c t)(hb:DSs X body fs):DS X (.While c body [] pos) (Dm.whD t fs n):=PS.weak (AV hp ht hb) fun _ _ _=>FF
structure TG'(X:Cx)(tg:Expr)(is:List Nat)(bd:Dm.FB):Prop where
 ex:∃g,PG X tg g/\BD is g bd
theorem g_n(i:Nat){px:Pos}(hN:X.N.Nodup)(hi:X.N[i]?=some x:=by rfl)(hx:Loc X.env.scope x:=by trivial)(hf:X.fn x=true\/X.env.scope.names.lookup x=some .local:=by trivial) :
  TG' X (.Name x px) [i] (Dm.bN i):=⟨⟨_,qK hN hi hx hf,yi i⟩⟩
theorem g_t{k:Nat}{tpos:Pos}(hc:X.calm=true)(hg:PGs X es (eS is))(hn:(assignEach es X.env).length=is.length:=by rfl)(hst:(assignEach es X.env).findIdx? (·.1)=none:=by rfl):TG' X (.Tuple es k tpos) is (Dm.bT is):=
 ⟨⟨_,vO hc hg hn hst,Bx is rfl⟩⟩
theorem dN{tg it:Expr}{fi:Dm.FI}{bd:Dm.FB}(hp:PassesOwn (model X.prog X.w) X.A X.env X.xe)(hc:X.calm=true)(hi:DI X tg it fi)(hg:TG' X tg is bd)(hb:DSs X body fs)
  (hs:∀x,foldedSetIterable it X.env x=pure x:=by intro _;rfl):DS X (.For tg it body [] pos) (Dm.ff fi bd fs):=by
 obtain⟨g,h1,h2⟩:=hg.ex;exact PS.weak (AY hp hc hi h1 hb hs) fun _ _ _=>MW h2
end
end
noncomputable def tyName:Dm.Dat->String
 |.non => "NoneType"
 |.bl _ => "bool"
 |.int _ => "int"
 |.str _ => "str"
 |.tup _ => "tuple"
 |.lst _ => "list"
 |.dct _ _ => "dict"
 |.dcp _ _ => "dict"
 |.exc _ => "dict"
 |.bU _ _ => "dict"
 |.fn _ => "dict"
def zZ(T:String)(p:Dm.Dat->Bool):Prop:=∀(K:Dk) (d:Dm.Dat),Ua K (.type (tyName d)) (.type T)=some (p d)
theorem ym:zZ "int" Dm.isI:=fun K d=>by cases d<;>rfl
theorem mL:zZ "bool" Dm.isB:=fun K d=>by cases d<;>rfl
theorem tM:zZ "list" Dm.isL:=fun K d=>by cases d<;>rfl
theorem kit_tuple:zZ "tuple" Dm.isT:=fun K d=>by cases d<;>rfl
theorem BP{K:Dk}{H:Hp}{v:V}{d:Dm.Dat}(r:Rep H v d)(nx:∀C,d≠.exc C/\d≠.fn C/\∀v,d≠.bU C v):jn K H v (.type (tyName d)):=by
 cases r with
 |non=>exact .non
 |bl b=>exact .bl b
 |int i=>exact .int i
 |str s=>exact .str _
 |tup q _=>exact .tup q
 |lst q _=>
  rcases q with q | ⟨o,q⟩
  ·exact .lst q
  ·exact .frz q
 |dct q _ _=>exact .dK q
 |dcp q _ _=>exact .dT q
 |exc _=>exact absurd rfl (nx _).1
 |bU _ _=>exact absurd rfl ((nx _).2.2 _)
 |fn _=>exact absurd rfl (nx _).2.1
def Nd(K:Dk)(T:String):List V->Hp->VK->Prop:=fun xs H Q=>∃x t b,xs=[x,.ty T]/\jn K H x t/\Ua K t (.type T)=some b/\Q (.bl b) H
section
variable{X:Cx}{e:Expr}{f:Dm.FE}{p p2 pos:Pos}
theorem BQ{T:String}:bW X (.builtin "isinstance") (Nd X.K T):=by intro kC s σ H xs us Q I r h;obtain⟨x,t,b,rfl,ty,e,q⟩:=h;obtain⟨u,u2,rfl,rx,ry⟩:=vals2 r;cases ry;exact zN I rx ty e fun tk=>⟨.bl b,H,I.tok tk,rfl,q⟩
theorem Nf{K:Dk}{T:String}{p:Dm.Dat->Bool}(kp:zZ T p){σ:L2.St}{H:Hp}{Q:VK}(h:tD (Dm.e1 (Dm.j6 p) f) σ H Q):tCB (Nd K T) (kU (tD f) (kU (tC (.ty T)) qL)) σ H Q:=by
 obtain⟨H0,ρ,x,ρ',st,e,k⟩:=h;unfold Dm.e1 at e;split at e
 ·cases e
 rename_i x1 ρ1 e1;split at e
 ·cases e
 rename_i dx p1;have nx:∀C,dx≠.exc C/\dx≠.fn C/\∀v,dx≠.bU C v:=fun C=>⟨fun z=>(by subst z;cases e),fun z=>(by subst z;cases e),fun v z=>(by subst z;cases e)⟩;have ev:Dm.j6 p dx=Dm.vB (p dx):=by cases dx<;>first | rfl | exact absurd rfl (nx _).1 | exact absurd rfl (nx _).2.1 | exact absurd rfl ((nx _).2.2 _)
 rw[ev]at e;dsimp only at e;cases e;refine⟨H0,ρ,x1,_,st,e1,fun v H1 Hb t1 r1=>?_⟩;exact⟨v,_,_,rfl,BP ((r1.look t1.st p1).full t1.st.same) nx,kp K dx,k _ H1 Hb t1 (Rep.bl _)⟩
theorem jG{T:String}{tn:Str}{p':Dm.Dat->Bool}(kp:zZ T p')(hvT:bootBuiltins tn=some (.type T))(hgT:Gl X tn)(hmT:X.mg tn=none)(hg:Gl X "isinstance")(hm:X.mg "isinstance" = none)(h:DE X e f)
  (hn:tn ≠ "__name__" := by decide) (NV:(tn == ("__debug__" : Str))=false:=by decide)
  (he:starEach [e,.Name tn p2] X.env=(false,eval e X.env)::starEach [.Name tn p2] X.env:=by rfl) (CI:(backTo pos (starEach [.Name tn p2] X.env)).any (·.1)=false:=by rfl) (he2:starEach [.Name tn p2] X.env=(false,eval (.Name tn p2) X.env)::starEach [] X.env:=by rfl) :
  DE X (.Call (.Name "isinstance" p) [e,.Name tn p2] [] pos) (Dm.e1 (Dm.j6 p') f):=
 PE.weak (jq BQ hg hm PyProof.Rows.boot_isinstance (fE h (fE (E9 (v:=.ty T) hgT hmT hvT rfl hn NV) g_ he2) he) (he:=he) (CI:=CI)) fun _ _ _=>Nf kp
theorem all_range(bs:List Bool):(QG bs.length).all (fun i=>bs.getD i true)=bs.all id:=by
 rw[So,Ra,Ra];constructor
 ·intro h b hb;obtain⟨i,hi,rfl⟩:=List.mem_iff_getElem.mp hb;have:=h i (Q3.mpr hi);rw[Rf,Qz hi]at this;exact this
 ·intro h i hi;have hi:=Q3.mp hi;rw[Rf,Qz hi];exact h _ (RC hi)
theorem z0(hc:X.calm=true):bW X (.builtin "all") (fun xs H Q=>∃(a:Addr) (bs:List Bool),xs=[.ref a]/\Rd H a (.lst (bs.map V.bl))/\Q (.bl (bs.all id)) H):=by
 intro kC s σ H xs us Q I r h;obtain⟨a,bs,rfl,hq,q⟩:=h;obtain⟨u,rfl,rx⟩:=vals1 r;cases rx;obtain⟨z,its,n,rv,e⟩:=hq.ok I.hok;have hl:s.heap.IsList a its.toArray:=⟨_,e,rfl,_,rfl⟩
 have ur:=rv.length;rw[gc]at ur;have hax:a≠s.heap.objs.size:=QX (QA e);refine PySem.call_all_walk (wpAny_pyIter_list hl ⟨s.heap.objs.size,_,_,_,_,_,fun i=>bs.getD i true,rfl,Walks.list (A:=X.A.in1) (I.ok.hd hc) s.heap.objs.size a hax its.toArray,⟨⟨_,QS _ rfl,rfl,rfl⟩,hl.push _⟩,?_,fun h' tk hk=>?_⟩)
 ·intro i v s' Q' E' hv hQ';have hv':its[i]?=some v:=by simpa using hv
  have hi:i<bs.length:=by rw[ur];exact(Qx.mp hv').1
  have hb:(bs.map V.bl)[i]?=some (V.bl bs[i]):=by rw[QL,Qz hi];rfl
  obtain⟨u,hu,ru⟩:=rv.get hb;rw[hv']at hu;cases hu;cases ru;refine wpAny_truthy_bool ?_;have e2:bs.getD i true=bs[i]:=by rw[Rf,Qz hi];rfl
  rw[<- e2];exact hQ'
 ·have e1:its.toArray.size=bs.length:=by rw[Qy,ur]
  rw[e1,all_range];refine⟨.bl _,H,I.kept (t':=tk) fun b o eb=>hk b o ?_ (PU _ eb),rfl,q⟩;intro hm;have:b=s.heap.objs.size:=by simpa using hm
  exact absurd (QA eb) (by rw[this];exact RW _)
end
section
variable{X:Cx}{a b c e:Expr}{f fa fb fc:Dm.FE}{p p2 pos:Pos}
section
variable{g h:Dm.Dat->Dm.Dat->Option Dm.RV}{σ:L2.St}{Q:VK}{H:Hp}
def Ng(neg:Bool):R2:=fun x y H Q=>∃i j,x=.bl i/\y=.bl j/\Q (.bl (if neg then i != j else i == j)) H
theorem z5:OpR X (compareOp .IsNot) (Ng true):=by intro kC s σ H x y v u Q I rx ry h;obtain⟨i,j,rfl,rfl,q⟩:=h;cases rx;cases ry;exact isnot_bool ⟨.bl _,H,I,rfl,q⟩
theorem z6:OpD (Ng true) Dm.jy:=by
 intro H0 H x y dx dy z Q s rx ry e k;unfold Dm.jy at e;split at e
 ·cases e;cases lU rx;cases lU ry;exact⟨_,_,rfl,rfl,k _ H0 H (aI.refl s) (.bl _)⟩
 ·cases e
theorem Nh(ha:DE X a fa)(hb:DE X b fb):DT X (.Compare a [.IsNot] [b] pos) (Dm.tV (Dm.e2 Dm.jy fa fb)):=jE z5 z6 ha hb (dD _)
theorem F2{r r':R2}(o1:OpD r g)(o2:OpD r' h)(hh:tD (Dm.eN g h fa fb fc) σ H Q):A3 r r' (tD fa) (tD fb) (tD fc) σ H Q:=by
 obtain⟨H0,ρ,x,ρ',st,e,k⟩:=hh;unfold Dm.eN at e;split at e
 ·cases e
 rename_i x1 ρ1 e1;split at e
 ·cases e
 rename_i y1 ρ2 e2;split at e
 ·cases e
 rename_i dx p1;split at e
 ·cases e
 rename_i dy p2;refine⟨H0,ρ,x1,ρ1,st,e1,fun v H1 Hb t1 r1=>⟨H1,ρ1,y1,ρ2,t1.st,e2,fun u H2 Hc t2 r2=>?_⟩⟩;split at e
 ·rename_i gz;refine o1 H2 Hc v u dx dy _ _ t2.st.same ((r1.mono t2).look t2.st p1) (r2.look t2.st p2) gz fun w H3 Hd g3 r3=>?_;refine⟨true,Rep.qU r3,?_⟩;rw[if_pos rfl];have t3:=t2.trans (.grow t2.st g3);have r2':=r2.mono (.grow t2.st g3);split at e
  ·cases e
  rename_i z ρ3 e3;split at e
  ·cases e
  rename_i dy' p3;split at e
  ·cases e
  rename_i dz p4;split at e
  ·cases e
  rename_i w2 hz;cases e;refine⟨H3,ρ2,z,_,t3.st,e3,fun w' H4 He t4 r4=>?_⟩;refine o2 H4 He u w' dy' dz w2 Q t4.st.same ((r2'.mono t4).look t4.st p3) (r4.look t4.st p4) hz fun w5 H5 Hf g5 r5=>?_;exact k w5 H5 Hf (t1.trans (t3.trans (t4.trans (.grow t4.st g5)))) ((r5.toV t4.st).early fun a n=>(t1.trans (t3.trans t4)).stp.gone n)
 ·rename_i gz;cases e;refine o1 H2 Hc v u dx dy _ _ t2.st.same ((r1.mono t2).look t2.st p1) (r2.look t2.st p2) gz fun w H3 Hd g3 r3=>?_;refine⟨false,Rep.qU r3,?_⟩;rw[if_neg Q0];exact k _ H3 Hd (t1.trans (t2.trans (.grow t2.st g3))) (Rep.bl false)
 ·cases e
theorem yo{op op':CmpOp}{r r':R2}(o1:OpR X (compareOp op) r)(q1:OpD r g)(o2:OpR X (compareOp op') r')(q2:OpD r' h)(ha:DE X a fa)(hb:DE X b fb)(hc:DE X c fc)
  (hm:lastMarks [op,op'] [b,c]=false:=by with_unfolding_all rfl):DE X (.Compare a [op,op'] [b,c] pos) (Dm.eN g h fa fb fc):=PE.weak (A4 o1 o2 ha hb hc hm) fun _ _ _=>F2 q1 q2
theorem rm(n d:Nat)(o:Option Int)(hd:d<=n):HT.sIx n d o=Dm.sIx n d o:=by
 cases o with
 |none=>rfl
 |some v=>
  unfold HT.sIx Dm.sIx
  first
   |rfl
   |(dsimp only;split<;>lia)
theorem p8{H0:Hp}{xs:List V}{ds:List Dm.Dat}(rs:av H0 xs ds)(lo hi:Option Int):av H0 (o_ xs lo hi) (Dm.cut ds lo hi):=by unfold o_ Dm.cut;rw[rs.length,rm _ _ _ (Q4 _),rm _ _ _ (Pz _)];exact(rs.drop _).take _
theorem lW{fo:Option Dm.FE}{H0 H:Hp}{ρ ρ':Dm.Env}{o:Option Int}{Q:Option Int->Hp->Prop}(st:ay H0 H σ ρ)(e:Dm.part fo ρ=some (o,ρ'))(k:∀H0' H',ESt σ ρ H0 H ρ' H0' H'->Q o H') :
  (match fo with | none=>qM | some f=>A8 (tD f)) σ H Q:=by
 cases fo with
 |none=>cases e;exact k H0 H (.refl st)
 |some f=>
  unfold Dm.part at e;dsimp only at e;split at e
  ·rename_i i ρ1 e1;cases e;exact⟨H0,ρ,_,_,st,e1,fun v H1 Hb t1 r1=>⟨i,Rep.isInt r1,k H1 Hb t1⟩⟩
  ·cases e
noncomputable abbrev tOf(fo:Option Dm.FE):TO:=match fo with | none=>qM | some f=>A8 (tD f)
theorem Pn{K:Dk}{lo hi:Option Dm.FE}(h:tD (Dm.eSl f lo hi) σ H Q):tSl (MB K) (tD f) (tOf lo) (tOf hi) σ H Q:=by
 obtain⟨H0,ρ,x,ρ',st,e,k⟩:=h;unfold Dm.eSl at e;split at e
 ·cases e
 rename_i x1 ρ1 e1;split at e
 ·cases e
 rename_i l ρ2 e2;split at e
 ·cases e
 rename_i hh ρ3 e3;split at e
 ·rename_i ds p1;cases e;refine⟨H0,ρ,x1,ρ1,st,e1,fun v H1 Hb t1 r1=>?_⟩;refine lW t1.st e2 fun H2 Hc t2=>?_;refine lW t2.st e3 fun H3 Hd t3=>?_;have tt:=t1.trans (t2.trans t3);obtain⟨a,xs,rfl,qa,ra⟩:=bx t3.st.same ((r1.mono (t2.trans t3)).look t3.st p1);refine⟨a,xs,rfl,.inl qa,fun q hq=>?_⟩;have g:=aI.j8 (o:=HO.lst (o_ xs l hh)) t3.st.same hq;refine k _ _ _ (tt.trans (.grow t3.st g)) ⟨q,rfl,tt.stp.gone hq,t3.st.bH hq,t3.st.same.free hq,_,au,p8 ra l hh⟩
 ·cases e
theorem J7{lo hi:Option Expr}{flo fhi:Option Dm.FE}(h:DE X e f)(hl:PO X lo (tOf flo))(hh:PO X hi (tOf fhi)):DE X (.Subscript e (.Slice lo hi none p2) pos) (Dm.eSl f flo fhi):=PE.weak (sQ Fp h hl hh) fun _ _ _=>Pn
theorem o_n:PO X none (tOf none):=Fo
theorem o_s(h:DE X e f):PO X (some e) (tOf (some f)):=ya h
end
end
section
variable{X:Cx}{nm:List Str}{GC tg iter:Expr}{GA:List Expr}{scope:Scope}{pos:Pos}{own:List Str}{fi:Dm.FI}{bd:Dm.FB}{is:List Nat}{t:Dm.FT}{f:Dm.FE}
noncomputable abbrev DTs(X:Cx)(GA:List Expr)(t:Dm.FT):Prop:=PTs X GA (tDT t)
theorem dO:DTs X [] Dm.dF:=fun kC s σ H Q I h=>by obtain⟨H0,ρ,b,ρ',st,e,k⟩:=h;cases e;exact qZ kC s σ H Q I (k H0 H (.refl st))
theorem dP{c:Expr}(h:DT X c t):DTs X [c] t:=FH h
structure TGc(X:Cx)(nm:List Str)(scope:Scope)(own:List Str)(tg:Expr)(is:List Nat)(bd:Dm.FB):Prop where
 ex:∃g,(∀cl C s H fp,PG (aV X nm scope own cl C s H fp) tg g)/\BD is g bd
theorem c_n(i:Nat){x:Str}{px:Pos}(hN:(nm++own).Nodup)(hi:(nm++own)[i]?=some x)(hx:(relabel scope X.env).names.lookup x=some .local):TGc X nm scope own (.Name x px) [i] (Dm.bN i):=
 ⟨⟨_,fun cl C s H fp=>qK (X:=aV X nm scope own cl C s H fp) hN hi (.inl hx) (.inr hx),yi i⟩⟩
theorem c_t{es:List Expr}{k:Nat}{tpos:Pos}(hc:X.calm=true)(hg:∀cl C s H fp,PGs (aV X nm scope own cl C s H fp) es (eS is))(hn:∀cl C,(assignEach es (compEnvC scope cl C X.env)).length=is.length:=by intro _ _;rfl)
  (hst:∀cl C,(assignEach es (compEnvC scope cl C X.env)).findIdx? (·.1)=none:=by intro _ _;rfl):TGc X nm scope own (.Tuple es k tpos) is (Dm.bT is):=
 ⟨⟨_,fun cl C s H fp=>vO (X:=aV X nm scope own cl C s H fp) hc (hg cl C s H fp) (hn cl C) (hst cl C),Bx is rfl⟩⟩
theorem J8(hc:X.calm=true)(S:cF X nm scope)(hi:DI X tg iter fi)(hg:TGc X nm scope own tg is bd)(ht:∀cl C s H fp,DTs (aV X nm scope own cl C s H fp) GA t)(he:∀cl C s H fp,DE (aV X nm scope own cl C s H fp) GC f)
  (hl:∀i∈is,X.N.length<=i) (hs:∀x,foldedSetIterable iter X.env x=pure x:=by intro _;rfl):DE X (.ListComp GC [⟨tg,iter,GA,0⟩] scope pos) (Dm.dH fi own.length bd t f):=by
 obtain⟨g,h1,h2⟩:=hg.ex;intro kC s σ H Q I h;exact yj hc S hi h1 ht he hs kC s σ H Q I (wc h2 (fun i hi=>by rw[I.len];exact hl i hi) h)
theorem J9(j:Nat){y:Str}{py GQ:Pos}(hN:X.N.Nodup)(hc:X.calm=true)(S:cF X nm scope)(hi:DI X tg iter fi)(hg:TGc X nm scope own tg is bd)(ht:∀cl C s H fp,DTs (aV X nm scope own cl C s H fp) GA t)(he:∀cl C s H fp,DE (aV X nm scope own cl C s H fp) GC f)
  (hl:∀i∈is,X.N.length<=i) (hj:X.N[j]?=some y:=by rfl) (hy:Loc X.env.scope y:=by trivial)
  (hsw:swapsWith (.ListComp GC [⟨tg,iter,GA,0⟩] scope pos) (some (.Name y py)) GQ.line X.env=pure true:=by rfl) (hs:∀x,foldedSetIterable iter X.env x=pure x:=by intro _;rfl)
  (hf:X.fn y=true\/X.env.scope.names.lookup y=some .local:=by trivial):DS X (.Assign [.Name y py] (.ListComp GC [⟨tg,iter,GA,0⟩] scope pos) GQ) (Dm.sA j (Dm.dH fi own.length bd t f)):=by
 obtain⟨g,h1,h2⟩:=hg.ex;intro kC s σ H D I h;exact dZ hN hj hy hc S hi h1 ht he hsw hs hf kC s σ H D I (wc h2 (fun i hi=>by rw[I.len];exact hl i hi) (Bv h))
end
theorem mO{H0:Hp}:∀{ds:List Dm.Dat} {bs:List Bool} {vs:List V},av H0 vs ds->Dm.bools ds=some bs->vs=bs.map V.bl
 |[],bs,vs,r,e=>by cases r;cases e;rfl
 |.bl b::ds,bs,vs,r,e=>by
  cases r with
  |cons r rs=>
   unfold Dm.bools at e;cases q:Dm.bools ds with
   |none=>rw[q]at e;cases e
   |some cs=>rw[q]at e;cases e;cases Rep.qU r;rw[mO rs q];rfl
 |.non::ds,bs,vs,r,e=>by cases e
 |.int _::ds,bs,vs,r,e=>by cases e
 |.str _::ds,bs,vs,r,e=>by cases e
 |.tup _::ds,bs,vs,r,e=>by cases e
 |.lst _::ds,bs,vs,r,e=>by cases e
 |.dct _ _::ds,bs,vs,r,e=>by cases e
 |.dcp _ _::ds,bs,vs,r,e=>by cases e
theorem J_:CallD (fun xs H Q=>∃(a:Addr) (bs:List Bool),xs=[.ref a]/\Rd H a (.lst (bs.map V.bl))/\Q (.bl (bs.all id)) H) Dm.pC:=by
 intro H0 H vs ds z Q s rs e k;unfold Dm.pC at e;split at e
 ·split at e
  ·rename_i bs hb;cases e;cases rs with
   |cons r rr=>cases rr;obtain⟨a,us,rfl,qa,ra⟩:=bx s r;have:=mO ra hb;subst this;exact⟨a,bs,rfl,qa,k _ H0 H (aI.refl s) (.bl _)⟩
  ·cases e
 ·cases e
theorem Ka:CallD (fun xs H Q=>(∃i,xs=[.int i]/\Q (.int i) H)\/∃k,xs=[.bl k]/\Q (.int (if k then 1 else 0)) H) Dm.Bp:=by
 intro H0 H vs ds z Q s rs e k;unfold Dm.Bp at e;split at e
 ·cases e;cases rs with
  |cons r rr=>cases rr;cases aC r;exact .inl ⟨_,rfl,k _ H0 H (aI.refl s) (.int _)⟩
 ·cases e;cases rs with
  |cons r rr=>cases rr;cases lU r;exact .inr ⟨_,rfl,k _ H0 H (aI.refl s) (.int _)⟩
 ·cases e
section
variable{X:Cx}{a b c e:Expr}{f:Dm.FE}{fs:List Dm.FE}{p p2 pos:Pos}
theorem tN(hc:X.calm=true)(hg:Gl X "all")(hm:X.mg "all" = none)(ha:DA X [e] fs)(he:starEach [e] X.env=[(false,eval e X.env)]:=by rfl)(CI:(backTo pos (starEach [] X.env)).any (·.1)=false:=by rfl) :
  DE X (.Call (.Name "all" p) [e] [] pos) (Dm.eB Dm.pC fs):=tL (z0 hc) J_ (by rfl) hg hm ha (he:=he) (CI:=CI)
theorem Ni(hg:Gl X "int")(hm:X.mg "int" = none)(ha:DA X [e] fs)(he:starEach [e] X.env=[(false,eval e X.env)]:=by rfl)(CI:(backTo pos (starEach [] X.env)).any (·.1)=false:=by rfl) :
  DE X (.Call (.Name "int" p) [e] [] pos) (Dm.eB Dm.Bp fs):=BN zL Ka (by rfl) hg hm ha (he:=he) (CI:=CI)
end
noncomputable def cG(sc:Scope):List Str->List Str->Bool
 |[],[]=>true
 |x::N,y::nm=>(x == y||(sc.names.lookup y).isNone)&&cG sc N nm
 |_,_=>false
theorem cG.len{sc:Scope}:∀{N nm:List Str},cG sc N nm=true->nm.length=N.length
 |[],[],_=>rfl
 |[],_::_,h=>by cases h
 |_::_,[],h=>by cases h
 |x::N,y::nm,h=>by rw[cG,QD]at h;rw[QO,QO,cG.len h.2]
theorem cG.at{sc:Scope}:∀{N nm:List Str},cG sc N nm=true->∀(i:Nat) (x:Str),nm[i]?=some x->N[i]?=some x\/sc.names.lookup x=none
 |[],[],_,i,x,e=>by simp at e
 |[],_::_,h,_,_,_=>by cases h
 |_::_,[],h,_,_,_=>by cases h
 |x::N,y::nm,h,0,z,e=>by
  rw[cG,QD,T6]at h;simp at e;subst e;rcases h.1 with q | q
  ·have:x=y:=by simpa using q
   subst this;exact .inl rfl
  ·exact .inr (by simpa using q)
 |x::N,y::nm,h,i+1,z,e=>by rw[cG,QD]at h;rw[Sk]at e ⊢;exact cG.at h.2 i z e
noncomputable def k8(osc:Scope)(N nm:List Str)(sc:Scope):Bool:=
 sc.names.all (fun y=>y.2 != .cell)&&sc.names.all (fun y=>y.2 != .local||sc.names.lookup y.1 == some .local) &&
 sc.names.all (fun y=>y.2 != .free||(osc.names.lookup y.1 == some .cell||osc.names.lookup y.1 == some .free))&&nm.all (fun x=>sc.names.lookup x != some .local)&&cG sc N nm
theorem cF.of{X:Cx}{nm:List Str}{scope:Scope}(h:k8 X.env.scope X.N nm scope=true)(hk:scope.kind=.function):cF X nm scope:=by
 unfold k8 at h;simp only[QD,Ra]at h;obtain⟨⟨⟨⟨h1,h2⟩,h3⟩,h4⟩,h5⟩:=h;refine⟨hk,fun y hy=>?_,fun y hy hl=>?_,fun y hy hf=>?_,fun x hx=>?_,cG.len h5,cG.at h5⟩
 ·have:=h1 y hy;simpa using this
 ·have:=h2 y hy;rw[hl]at this
  simpa using this
 ·have:=h3 y hy;rw[hf]at this;have:(X.env.scope.names.lookup y.1 == some .cell||X.env.scope.names.lookup y.1 == some .free)=true:=by simpa using this
  rw[T6,beq_iff_eq,beq_iff_eq]at this;exact this
 ·have:=h4 x hx;simpa using this
section
variable{X:Cx}{GC tg iter:Expr}{GA:List Expr}{scope:Scope}{pos:Pos}{fi:Dm.FI}{bd:Dm.FB}{is:List Nat}{t:Dm.FT}{f:Dm.FE}
theorem p9{l:List Nat}{n:Nat}(h:(l.all fun i=>decide (n<=i))=true):∀i∈l,n<=i:=fun i hi=>of_decide_eq_true (Ra.mp h i hi)
theorem Nj(nm own:List Str)(hg:TGc X nm scope own tg is bd)(hi:DI X tg iter fi)(ht:∀cl C s H fp,DTs (aV X nm scope own cl C s H fp) GA t)(he:∀cl C s H fp,DE (aV X nm scope own cl C s H fp) GC f)
  (hc:X.calm=true:=by rfl) (hk:scope.kind=.function:=by rfl) (hS:k8 X.env.scope X.N nm scope=true:=by rfl) (hl:(is.all fun i=>decide (X.N.length<=i))=true:=by rfl) (hs:∀x,foldedSetIterable iter X.env x=pure x:=by intro _;rfl) :
  DE X (.ListComp GC [⟨tg,iter,GA,0⟩] scope pos) (Dm.dH fi own.length bd t f):=J8 hc (cF.of hS hk) hi hg ht he (p9 hl) hs
theorem Po(j:Nat)(nm own:List Str){y:Str}{py GQ:Pos}(hN:X.N.Nodup)(hg:TGc X nm scope own tg is bd)(hi:DI X tg iter fi)(ht:∀cl C s H fp,DTs (aV X nm scope own cl C s H fp) GA t)(he:∀cl C s H fp,DE (aV X nm scope own cl C s H fp) GC f)
  (hc:X.calm=true:=by rfl) (hk:scope.kind=.function:=by rfl) (hS:k8 X.env.scope X.N nm scope=true:=by rfl) (hl:(is.all fun i=>decide (X.N.length<=i))=true:=by rfl) (hj:X.N[j]?=some y:=by rfl) (hy:Loc X.env.scope y:=by trivial)
  (hsw:swapsWith (.ListComp GC [⟨tg,iter,GA,0⟩] scope pos) (some (.Name y py)) GQ.line X.env=pure true:=by rfl) (hs:∀x,foldedSetIterable iter X.env x=pure x:=by intro _;rfl)
  (hf:X.fn y=true\/X.env.scope.names.lookup y=some .local:=by trivial):DS X (.Assign [.Name y py] (.ListComp GC [⟨tg,iter,GA,0⟩] scope pos) GQ) (Dm.sA j (Dm.dH fi own.length bd t f)):=
 J9 j hN hc (cF.of hS hk) hi hg ht he (p9 hl) hj hy hsw hs hf
end
section
variable{f:Dm.FE}{a:Addr}{X:Cx}{H:Hp}
theorem PI.or{tg it:Expr}{t t':TI}(h:PI X tg it t)(h':PI X tg it t'):PI X tg it (fun σ H R=>t σ H R\/t' σ H R):=fun kC s σ H R I q=>q.elim (h kC s σ H R I) (h' kC s σ H R I)
theorem Nk{K:Dk}{σ:L2.St}{R:It->Hp->Prop}(h:tDI (Dm.iS f) σ H R):sM K (tD f) σ H R\/AW K (tD f) σ H R:=by
 obtain⟨H0,ρ,ys,ρ',st,e,k⟩:=h;unfold Dm.iS at e;split at e
 ·cases e
 rename_i x ρ1 e1;split at e
 ·rename_i ds ρ2 e2;cases e;exact .inl (Pb ⟨H0,ρ,_,_,st,by unfold Dm.iL;rw[e1];dsimp only;rw[e2],k⟩)
 ·rename_i ds ρ2 e2;cases e;exact .inr (Pc ⟨H0,ρ,_,_,st,by unfold Dm.iT;rw[e1];dsimp only;rw[e2],k⟩)
 ·cases e
theorem i_S{tg e:Expr}(h:DE X e f):DI X tg e (Dm.iS f):=PI.weak (PI.or (x8 h) (AX h)) fun _ _ _=>Nk
noncomputable def BR(K:Dk):Bool:=K.all fun p=>match p.2.cls with | .type n=>n != "list" | _=>true
theorem lookup_mem{o:Obj}:∀{K:List (Addr×Obj)},K.lookup a=some o->(a,o)∈K
 |[],h=>by cases h
 |(b,x)::r,h=>by
  rw[Ro]at h;cases q:a == b with
  |true=>
   rw[q]at h;cases h;have:a=b:=by simpa using q
   rw[this];exact gV
  |false=>rw[q]at h;exact Pa _ (lookup_mem h)
theorem Kc{f:List Dm.Dat->Option Dm.RV}{K:Dk}{ns:List Int}{E:XK}(hf:f [.lst (ns.map Dm.Dat.int)]=some (.val (.bl true)))(hK:BR K=true)(hS:SqL K H a (ns.map V.int)) :
  spD f [.ref a] H (fun v _=>v=.bl true) E:=by
 have hq:Rd H a (.lst (ns.map V.int)):=by
  rcases hS with h | ⟨o,its,n,hk,hc,_⟩
  ·exact h
  ·have:=Ra.mp hK _ (lookup_mem hk);dsimp only at this;rw[hc]at this;exact absurd this (by decide)
 have hr:∀ns:List Int,av H (ns.map V.int) (ns.map Dm.Dat.int):=fun ns=>by
  induction ns with
  |nil=>exact .nil
  |cons n ns ih=>exact .cons (.int n) ih
 exact⟨H,_,_,ak.refl _,.cons (.lst hq (hr ns)) .nil,hf,fun v H0' H' _ r=>Rep.qU r⟩
end
end Br
namespace Dm
noncomputable def aM(i:Nat)(own:Nat)(bd:FB)(t:FT)(el:FE):FE:=fun ρ=>match ρ[i]? with
 | some (.ow (.lst ds))=>if ds.length≤SZ then (match dG bd t el ds (ρ.set i .un++Ds own .un) [] with
  |none=>none
  |some (ys,ρ2)=>some (.new (.lst ys),(ρ2.take ρ.length).set i (.ow (.lst ds)))) else none
 |_=>dH (iS (eV i)) own bd t el ρ
end Dm
namespace Br
open PySem PySem.Spec PyProof.Rows L2
theorem BS{K:Dk}{H0:Hp}{a:Addr}{xs:List V}{ds:List Dm.Dat}(rs:av H0 xs ds):JWa (Itl K a) H0 (some (a,.lst xs)) ds:=by intro H0' H s0 s1 hq;have hq:=hq _ rfl;have q:SqL K H a xs:=.inl (.inl hq);refine⟨fun i hi=>⟨xs,q,by rw[rs.length];exact hi⟩,fun i d e=>?_⟩;obtain⟨v,hv,rv⟩:=rs.get e;refine⟨⟨xs,v,q,hv⟩,fun x H' y=>?_⟩;obtain⟨e1,y⟩:=y;subst e1;have z:=y xs q;rw[hv]at z;cases z;exact⟨H0',aI.refl s1,rv.mono s0⟩
theorem yp{K:Dk}{σ:L2.St}{H:Hp}{i own:Nat}{bd:Dm.FB}{g:TG}{t:Dm.FT}{el:Dm.FE}{is:List Nat}{Q:VK}(hb:BD is g bd)(hl:∀i∈is,σ.length<=i)(h:tD (Dm.aM i own bd t el) σ H Q) :
  tLC (fun σ H R=>sM K (tD (Dm.eV i)) σ H R\/AW K (tD (Dm.eV i)) σ H R) own g (tDT t) (tD el) σ H Q:=by
 obtain⟨H0,ρ,x,ρ',st,e,k⟩:=h;unfold Dm.aM at e;split at e
 ·rename_i ds eo;split at e
  case isFalse=>cases e
  rename_i hsz;split at e
  ·cases e
  rename_i ys ρ2 e2;cases e;refine .inl ⟨H0,ρ,.slot i,ρ,st,by unfold Dm.eV;rw[eo],fun v H0' H' t1 r=>?_⟩;obtain⟨a,qa,na,xs,ha,rs⟩:=t1.st.ow i _ eo;obtain⟨r1,_⟩:=r;rw[qa]at r1;cases r1;have nO:¬aj σ (ρ.set i .un) a:=fun z=>by obtain⟨j,d,hj,h1,h2⟩:=bM z;exact hj (t1.st.dis j i d _ a h1 eo h2 qa)
  have CK:i<ρ.length:=(Qx.mp eo).1;refine⟨a,rfl,⟨xs,.inl (.inl ha)⟩,fun D hD=>tF hb hl (t1.st.mask i) (fun q e=>by cases e;exact⟨ha,na,nO⟩) (BS rs) hsz e2 (fun v H1 Hc t2 r2 hpa=>?_) D hD⟩;obtain⟨ha2,na2⟩:=hpa _ rfl;rw[QU]at t2 r2;have oo:∀b,aj σ ((ρ2.take ρ.length).set i (.ow (.lst ds))) b->b=a\/aj σ (ρ2.take ρ.length) b:=fun b ⟨j,d,h1,h2⟩=>by
   by_cases q:i=j
   ·subst q;rw[qa]at h2;cases h2;exact .inl rfl
   ·rw[eg q]at h1;exact .inr ⟨j,d,h1,h2⟩
  have om:∀b,aj σ (ρ.set i .un) b->aj σ ρ b:=fun b z=>by obtain⟨j,d,hj,h1,h2⟩:=bM z;exact⟨j,d,h1,h2⟩
  have oa:aj σ ρ a:=⟨i,_,eo,qa⟩
  have nO2:¬aj σ (ρ2.take ρ.length) a:=fun z=>nO (t2.own a z);have BU:(ρ2.take ρ.length).length=ρ.length:=by rw[<- t2.st.len,st.len]
  refine k v H1 Hc (t1.trans ⟨⟨t2.st.same,by rw[QU];exact t2.st.len,fun j d h=>?_,fun j d h=>?_,fun j j' d d' b h1 h2 h3 h4=>?_⟩,t2.stp.wide om,fun b z=>?_,fun j z=>?_⟩) ?_
  ·by_cases q:i=j
   ·subst q;rw[QZ (by rw[BU];exact CK)]at h;cases h
   ·rw[eg q]at h;exact t2.st.sh j d h
  ·by_cases q:i=j
   ·subst q;rw[QZ (by rw[BU];exact CK)]at h;cases h;exact⟨a,qa,na2,xs,ha2,rs.mono t2.stp.s0⟩
   ·rw[eg q]at h;exact t2.st.ow j d h
  ·by_cases q:i=j
   ·subst q;by_cases q':i=j'
    ·exact q'
    ·rw[eg q']at h2;rw[qa]at h3;cases h3;exact absurd ⟨j',d',h2,h4⟩ nO2
   ·rw[eg q]at h1;by_cases q':i=j'
    ·subst q';rw[qa]at h4;cases h4;exact absurd ⟨j,d,h1,h3⟩ nO2
    ·rw[eg q']at h2;exact t2.st.dis j j' d d' b h1 h2 h3 h4
  ·rcases oo b z with rfl | z
   ·exact oa
   ·exact om b (t2.own b z)
  ·trivial
  ·obtain⟨D',e',n',no',n0',w'⟩:=r2;refine⟨D',e',t1.stp.gone n',fun z=>?_,n0',w'⟩;rcases oo D' z with rfl | z
   ·rw[n']at ha;cases ha
   ·exact no' z
 ·have h2:=wc (fi:=Dm.iS (Dm.eV i)) hb hl ⟨H0,ρ,x,ρ',st,e,k⟩;exact Nk h2
section
variable{X:Cx}{GC tg:Expr}{GA:List Expr}{scope:Scope}{pos px:Pos}{bd:Dm.FB}{is:List Nat}{t:Dm.FT}{f:Dm.FE}{x:Str}
theorem i_M(i:Nat)(h:DE X (.Name x px) (Dm.eV i)):PI X tg (.Name x px) (fun σ H R=>sM X.K (tD (Dm.eV i)) σ H R\/AW X.K (tD (Dm.eV i)) σ H R):=PI.or (x8 h) (AX h)
theorem cS(i:Nat)(nm own:List Str)(hg:TGc X nm scope own tg is bd)(hi:DE X (.Name x px) (Dm.eV i))(ht:∀cl C s H fp,DTs (aV X nm scope own cl C s H fp) GA t)(he:∀cl C s H fp,DE (aV X nm scope own cl C s H fp) GC f)
  (hc:X.calm=true:=by rfl) (hk:scope.kind=.function:=by rfl) (hS:k8 X.env.scope X.N nm scope=true:=by rfl) (hl:(is.all fun i=>decide (X.N.length<=i))=true:=by rfl) (hs:∀y,foldedSetIterable (.Name x px) X.env y=pure y:=by intro _;rfl) :
  DE X (.ListComp GC [⟨tg,.Name x px,GA,0⟩] scope pos) (Dm.aM i own.length bd t f):=by
 obtain⟨g,h1,h2⟩:=hg.ex;intro kC s σ H Q I h;exact yj hc (cF.of hS hk) (i_M i hi) h1 ht he hs kC s σ H Q I (yp h2 (fun i hi=>by rw[I.len];exact p9 hl i hi) h)
theorem HV(j i:Nat)(nm own:List Str){y:Str}{py GQ:Pos}(hN:X.N.Nodup)(hg:TGc X nm scope own tg is bd)(hi:DE X (.Name x px) (Dm.eV i))(ht:∀cl C s H fp,DTs (aV X nm scope own cl C s H fp) GA t)(he:∀cl C s H fp,DE (aV X nm scope own cl C s H fp) GC f)
  (hc:X.calm=true:=by rfl) (hk:scope.kind=.function:=by rfl) (hS:k8 X.env.scope X.N nm scope=true:=by rfl) (hl:(is.all fun i=>decide (X.N.length<=i))=true:=by rfl) (hj:X.N[j]?=some y:=by rfl) (hy:Loc X.env.scope y:=by trivial)
  (hsw:swapsWith (.ListComp GC [⟨tg,.Name x px,GA,0⟩] scope pos) (some (.Name y py)) GQ.line X.env=pure true:=by rfl) (hs:∀y,foldedSetIterable (.Name x px) X.env y=pure y:=by intro _;rfl)
  (hf:X.fn y=true\/X.env.scope.names.lookup y=some .local:=by trivial):DS X (.Assign [.Name y py] (.ListComp GC [⟨tg,.Name x px,GA,0⟩] scope pos) GQ) (Dm.sA j (Dm.aM i own.length bd t f)):=by
 obtain⟨g,h1,h2⟩:=hg.ex;intro kC s σ H D I h;exact dZ hN hj hy hc (cF.of hS hk) (i_M i hi) h1 ht he hsw hs hf kC s σ H D I (yp h2 (fun i hi=>by rw[I.len];exact p9 hl i hi) (Bv h))
end
end Br
namespace Dm
noncomputable def fnM(n m:Nat)(body:FS)(ds:List Dat):Option (RV×Dat):=if ds.length=n then (match ds with
 | d::r=>(match body (Cell.ow d::(r.map Cell.sh++Ds m .un)) with
  | some (.ret z ρ')=>(match ρ'[0]? with
   |some (Cell.ow d')=>some (z,d')
   |_=>none)
  | some (.nx ρ')=>(match ρ'[0]? with
   |some (Cell.ow d')=>some (.val .non,d')
   |_=>none)
  |_=>none)
 |[]=>none) else none
noncomputable def flat:Dat->Bool
 |.tup xs=>xs.all fun x=>!cj x
 |d=>!cj d
noncomputable def rq:Dat->Bool
 |.lst xs=>xs.all fun x=>!cj x
 |_=>false
noncomputable def eFm(f:List Dat->Option (RV×Dat))(j:Nat)(as:List FE):FE:=fun ρ=>match ρ[j]? with
 | some (.ow _)=>(match eAs as ρ with
  |none=>none
  | some (xs,ρ1)=>(match ρ1[j]? with
   | some (.ow d1)=>(match tks ρ1 xs with
    |none=>none
    | some (ds,ρ2)=>(match ρ2[j]? with
     | some (.ow d)=>(match f (d::ds) with
      |none=>none
      |some (v,d')=>if flat v.dat&&rq d' then some (v.a_,ρ1.set j (.ow d')) else some (v.a_,ρ2.set j (.ow d')))
     |_=>none))
   |_=>none))
 |_=>none
end Dm
namespace Br
open PySem PySem.Spec PyProof.Rows L2
section
variable{ρ:Dm.Env}{σ:L2.St}{a:Addr}
def spM(f:List Dm.Dat->Option (Dm.RV×Dm.Dat)):Sp:=fun vs H Q _=>∃H0 a us d ds z d',vs=V.ref a::us/\ak H0 H/\H0 a=none/\Own H0 H a d/\av H0 us ds/\f (d::ds)=some (z,d') /\
 ∀v H0' H',Stp (fun b=>b=a) H0 H H0' H'->ak H0' H'->H0' a=none->Own H0' H' a d'->qS H H0' H' v z->Q v H'
theorem cN{n m:Nat}{body:Dm.FS}{vs:List V}{H:Hp}{Q:VK}{E:XK}(h:spM (Dm.fnM n m body) vs H Q E):vs.length=n:=by
 obtain⟨H0,a,us,d,ds,z,d',e,_,_,_,rs,ef,_⟩:=h;unfold Dm.fnM at ef;split at ef
 ·rename_i hl;rw[e,QO,rs.length]
  simpa using hl
 ·cases ef
theorem ay.kc{H0 H:Hp}{j:Nat}{d:Dm.Dat}(st:ay H0 H σ ρ)(q:σ[j]?=some (some (V.ref a)))(no:¬aj σ ρ a)(n0:H0 a=none)(w:Own H0 H a d):ay H0 H σ (ρ.set j (.ow d)):=by
 have:=st.Bu (i:=j) no n0 w;have e:σ.set j (some (V.ref a))=σ:=by
  apply R8;intro i;by_cases h:j=i
  ·subst h;have hl:j<σ.length:=(Qx.mp q).1;rw[QZ hl,q]
  ·rw[eg h]
 rw[e]at this;exact this
theorem ay.off{H0 H H0' H':Hp}(st:ay H0 H σ ρ)(s0:ak H0 H0')(ss:ak H0' H')(no:¬aj σ ρ a)(s1:∀b o,H b=some o->b≠a->H' b=some o)(s2:∀(i:Nat) (d:Dm.Dat) (b:Addr),ρ[i]?=some (Dm.Cell.ow d)->σ[i]?=some (some (V.ref b))->H0' b=none):ay H0' H' σ ρ where
 same:=ss
 len:=st.len
 sh:=fun i d e=>by obtain⟨v,q,r⟩:=st.sh i d e;exact⟨v,q,r.mono s0⟩
 ow:=fun i d e=>by obtain⟨b,q,n,w⟩:=st.ow i d e;obtain⟨o,z⟩:=w.some;have nb:b≠a:=fun y=>no ⟨i,d,e,y▸q⟩;exact⟨b,q,s2 i d b e q,w.mono s0 ((s1 b o z nb).trans z.symm)⟩
 dis:=st.dis
theorem fG{H0 H1:Hp}:∀{xs:List V} {ds:List Dm.Dat},av H0 xs ds->(ds.all fun x=>!Dm.cj x)=true->av H1 xs ds
 |_,_,.nil,_=>.nil
 |_,_,.cons r rs,h=>by rw[Tz,QD]at h;exact .cons (Rep.plain r (by simpa using h.1)) (fG rs h.2)
end
section
variable{σ:L2.St}{H:Hp}{Q:VK}
theorem F3{f:List Dm.Dat->Option (Dm.RV×Dm.Dat)}{j:Nat}{fs:List Dm.FE}{E:XK}(h:tD (Dm.eFm f j fs) σ H Q):pR (spM f) [] E (tDA (Dm.eV j::fs)) σ H Q:=by
 obtain⟨H0,ρ,x,ρ',st,e,k⟩:=h;unfold Dm.eFm at e;split at e
 case h_2=>cases e
 rename_i d0 h0;split at e
 ·cases e
 rename_i xs ρ1 e1;split at e
 case h_2=>cases e
 rename_i d1 h1;split at e
 ·cases e
 rename_i ds ρ2 e2;split at e
 case h_2=>cases e
 rename_i d h2;split at e
 ·cases e
 rename_i z d' fz;have ea:Dm.eAs (Dm.eV j::fs) ρ=some (.slot j::xs,ρ1):=by unfold Dm.eAs;rw[show Dm.eV j ρ=some (.slot j,ρ) from by unfold Dm.eV;rw[h0]];dsimp only;rw[e1]
 refine⟨H0,ρ,.slot j::xs,ρ1,st,ea,fun vs H1 Hb t1 r1=>?_⟩;dsimp only;rw[Rr];cases r1 with
 |cons r0 rr=>
  obtain⟨H2,t2,b2,r2⟩:=takes t1 (ak.refl _) rr e2;obtain⟨a,qa,na,wa⟩:=t2.st.ow j d h2;obtain⟨q0,_⟩:=r0;rw[qa]at q0;cases q0;obtain⟨a1,qa1,na1,wa1⟩:=t1.st.ow j d1 h1;rw[qa]at qa1;cases qa1;obtain⟨oa,ha⟩:=wa.some;have hl2:j<ρ2.length:=(Qx.mp h2).1;have hl1:j<ρ1.length:=(Qx.mp h1).1;have oa0:aj σ ρ a:=t1.own a ⟨j,d1,h1,qa⟩;refine⟨H2,a,_,d,ds,z,d',rfl,t2.st.same,na,wa,r2,fz,fun v H3 Hd s3 ss n3 w3 r3=>?_⟩;have no2:¬aj σ (ρ2.set j .un) a:=fun y=>by obtain⟨i,d4,hi,y1,y2⟩:=bM y;exact hi (t2.st.dis i j d4 d a y1 h2 y2 qa)
  have no1:¬aj σ (ρ1.set j .un) a:=fun y=>by obtain⟨i,d4,hi,y1,y2⟩:=bM y;exact hi (t1.st.dis i j d4 d1 a y1 h1 y2 qa)
  split at e
  ·rename_i fl;cases e;rw[QD]at fl;obtain⟨f1,f2⟩:=fl;have wp:∀H',Own H' Hd a d':=fun H'=>by
    cases d' with
    |lst ys=>obtain⟨us,y1,y2⟩:=w3;exact⟨us,y1,fG y2 f2⟩
    |_=>cases f2
   have CY:∀H1':Hp,ak H1 H1'->ak H1' Hd->(∀b o,H1' b=some o->H1 b=some o\/((∃us,o=.tup us)/\H3 b=some o))->gf H H1' Hd σ (ρ1.set j (.ow d')) v z.a_->Q v Hd:=fun H1' m1 m2 m3 rv=>by
    have hd3:∀b,H1' b≠none->b≠a:=fun b hb y=>by
     subst y;cases y2:H1' b with
     |none=>exact hb y2
     |some o=>
      rcases m3 b o y2 with y3 | ⟨_,y3⟩
      ·rw[na1]at y3;cases y3
      ·rw[n3]at y3;cases y3
    have n1':H1' a=none:=by
     cases y:H1' a with
     |none=>rfl
     |some o=>exact absurd rfl (hd3 a (by rw[y];exact fun q=>nomatch q))
    have sm:ay H1' Hd σ (ρ1.set j .un):=by
     refine(t1.st.mask j).off m1 m2 no1 (fun b o y nb=>s3.s1 b o y nb) fun i d4 b y1 y2=>?_;obtain⟨b',q',nb',w'⟩:=(t1.st.mask j).ow i d4 y1;rw[y2]at q';cases q';cases y:H1' b with
     |none=>rfl
     |some o=>
      rcases m3 b o y with y3 | ⟨⟨us,y4⟩,y3⟩
      ·rw[nb']at y3;cases y3
      ·subst y4;have nb:b≠a:=hd3 b (by rw[y];exact fun q=>nomatch q);cases d4 with
       |lst _=>obtain⟨ws,z1,_⟩:=w';have z2:=s3.s1 b _ z1 nb;rw[ss _ _ y3]at z2;cases z2
       |dct _ _=>obtain⟨ws,z1,_⟩:=w';have z2:=s3.s1 b _ z1 nb;rw[ss _ _ y3]at z2;cases z2
       |dcp _ _=>obtain⟨ws,z1,_⟩:=w';have z2:=s3.s1 b _ z1 nb;rw[ss _ _ y3]at z2;cases z2
       |_=>exact Rc w'
    have sf:ay H1' Hd σ (ρ1.set j (.ow d')):=by have:=sm.kc qa no1 n1' (wp H1');rw[Uk]at this;exact this
    refine k v H1' Hd ⟨sf,⟨t1.stp.s0.trans m1,fun b o y nb=>?_,fun b o y=>?_,fun b o y=>?_⟩,fun b y=>?_,fun i y=>?_⟩ rv
    ·have y1:=t1.stp.s1 b o y nb;exact s3.s1 b o y1 fun q=>nb (by rw[q];exact oa0)
    ·rcases m3 b o y with y3 | ⟨_,y3⟩
     ·exact t1.stp.s2 b o y3
     ·rcases s3.s2 b o y3 with y4 | y4 | y4
      ·exact .inl (t1.stp.gone y4)
      ·exact t2.stp.s2 b o y4
      ·subst y4;rw[n3]at y3;cases y3
    ·obtain⟨o',y1⟩:=t1.stp.s3 b o y;exact s3.s3 b o' y1
    ·obtain⟨i,d4,y1,y2⟩:=y;by_cases hi:j=i
     ·subst hi;rw[qa]at y2;cases y2;exact oa0
     ·rw[eg hi]at y1;exact t1.own b ⟨i,d4,y1,y2⟩
    ·trivial
   have m0:ak H1 Hd:=fun b o y=>s3.s1 b o (t1.st.same _ _ y) fun q=>by rw[q,na1]at y;cases y
   cases z with
   |new d4=>
    obtain⟨_,_,_,_,w⟩:=r3;cases d4 with
    |lst _=>cases f1
    |dct _ _=>cases f1
    |dcp _ _=>cases f1
    |_=>exact Rc w
   |val d4=>
    have r3':Rep H3 v d4:=r3;cases d4 with
    |tup es=>
     cases r3' with
     |tup q rs=>
      rename_i a2 us;have rp:av H1 us es:=fG rs f1;refine CY (upd H1 a2 (.tup us)) (fun b o y=>?_) (fun b o y=>?_) (fun b o y=>?_) (.tup au (fG rs f1))
      ·by_cases hb:b=a2
       ·subst hb;have:=s3.s0 _ _ (b2 _ _ y);rw[q]at this;rw[au,this]
       ·rw[aA hb];exact y
      ·by_cases hb:b=a2
       ·subst hb;rw[au]at y;cases y;exact ss _ _ q
       ·rw[aA hb]at y;exact m0 _ _ y
      ·by_cases hb:b=a2
       ·subst hb;rw[au]at y;cases y;exact .inr ⟨⟨us,rfl⟩,q⟩
       ·rw[aA hb]at y;exact .inl y
    |lst _=>cases f1
    |dct _ _=>cases f1
    |dcp _ _=>cases f1
    |exc _=>cases f1
    |bU _ _=>cases f1
    |fn _=>exact CY H1 (ak.refl _) m0 (fun b o y=>.inl y) (Rep.plain r3' rfl)
    |non=>exact CY H1 (ak.refl _) m0 (fun b o y=>.inl y) (Rep.plain r3' rfl)
    |bl _=>exact CY H1 (ak.refl _) m0 (fun b o y=>.inl y) (Rep.plain r3' rfl)
    |int _=>exact CY H1 (ak.refl _) m0 (fun b o y=>.inl y) (Rep.plain r3' rfl)
    |str _=>exact CY H1 (ak.refl _) m0 (fun b o y=>.inl y) (Rep.plain r3' rfl)
  ·cases e;have sm:ay H3 Hd σ (ρ2.set j .un):=by
    refine(t2.st.mask j).off s3.s0 ss no2 (fun b o y nb=>s3.s1 b o y nb) fun i d4 b y1 y2=>?_;obtain⟨b',q',nb',w'⟩:=(t2.st.mask j).ow i d4 y1;rw[y2]at q';cases q';obtain⟨ob,hob⟩:=w'.some;cases y:H3 b with
    |none=>rfl
    |some o=>
     rcases s3.s2 b o y with y3 | y3 | y3
     ·rw[hob]at y3;cases y3
     ·rw[nb']at y3;cases y3
     ·exact absurd ⟨i,d4,y1,y3▸y2⟩ no2
   have sf:ay H3 Hd σ (ρ2.set j (.ow d')):=by have:=sm.kc qa no2 n3 w3;rw[Uk]at this;exact this
   have of:∀b,aj σ (ρ2.set j (.ow d')) b->b=a\/aj σ ρ2 b:=fun b ⟨i,d4,y1,y2⟩=>by
    by_cases hi:j=i
    ·subst hi;rw[qa]at y2;cases y2;exact .inl rfl
    ·rw[eg hi]at y1;exact .inr ⟨i,d4,y1,y2⟩
   refine k v H3 Hd ⟨sf,t2.stp.trans s3 (fun b y=>.inl (y▸oa0)),fun b y=>?_,fun i y=>?_⟩ ?_
   ·rcases of b y with y | y
    ·exact y▸oa0
    ·exact t2.own b y
   ·trivial
   ·cases z with
    |val d4=>exact r3
    |new d4=>
     obtain⟨b,y0,y1,y2,y3⟩:=r3;refine⟨b,y0,t2.stp.gone y1,fun y=>?_,y2,y3⟩;rcases of b y with y | y
     ·subst y;rw[ha]at y1;cases y1
     ·exact t2.st.bH y1 y
end
theorem aF{X:Cx}{es:List Expr}{p pos px:Pos}{k:Nat}{F:Addr}{fd:FuncData}{ps:List Str}{g:List Dm.Dat->Option (Dm.RV×Dm.Dat)}{x y:Str}{j:Nat}{fs:List Dm.FE}(G:aW X.prog X.w X.K X.mg X.base CX0 k F fd ps (spM g))(hr:bg k X.A)(hg:Gl X x)(hm:X.mg x=some (.ref F))(hk:Rw X.K (.ref F)=true)(hb:Binds X.K fd ps [])
  (ha:DA X (.Name y px::es) (Dm.eV j::fs)) (NV:(x == ("__debug__" : Str))=false:=by decide) (he:starEach (.Name y px::es) X.env=(false,eval (.Name y px) X.env)::starEach es X.env:=by rfl) (CI:(backTo pos (starEach es X.env)).any (·.1)=false:=by rfl) :
  DE X (.Call (.Name x p) (.Name y px::es) [] pos) (Dm.eFm g j fs):=PE.weak (jo G hr hg hm hk hb .nil (sX (X:=X)) ha NV he CI) fun _ _ _=>F3
theorem jH{N:List Str}{n m:Nat}{body:Dm.FS}{vs:List V}{H:Hp}{Q:VK}{E:XK}(hm:N.length=n+m)(h:spM (Dm.fnM n m body) vs H Q E) :
  tDS body { nx:=fun _ H'=>Q .non H',rt:=Q } (start N vs) H:=by
 have hvn:=cN h;obtain⟨H0,a,us,d,ds,z,d',e,s,na,wa,rs,ef,k⟩:=h;subst e;have hl:=rs.length;rw[QO]at hvn;have e0:(start N (V.ref a::us))[0]?=some (some (V.ref a)):=rfl;have get:∀{i:Nat} {c:Dm.Cell},(Dm.Cell.ow d::(ds.map Dm.Cell.sh++Ds m .un))[i]?=some c->(i=0/\c=.ow d)\/(∃i' d4,i=i'+1/\ds[i']?=some d4/\c=.sh d4)\/c=.un:=fun {i c} y=>by
  cases i with
  |zero=>cases y;exact .inl ⟨rfl,rfl⟩
  |succ i=>
   rw[Sk]at y;by_cases hi:i<ds.length
   ·rw[QI (by simpa using hi),QL,Qz hi]at y;cases y;exact .inr (.inl ⟨i,ds[i],rfl,Qz hi,rfl⟩)
   ·rw[Rn (by simpa using hi),Rp]at y;split at y
    ·cases y;exact .inr (.inr rfl)
    ·cases y
 have ow0:∀{i:Nat} {d4:Dm.Dat},(Dm.Cell.ow d::(ds.map Dm.Cell.sh++Ds m .un))[i]?=some (.ow d4)->i=0/\d4=d:=fun {i d4} y=>by
  rcases get y with⟨y1,y2⟩ | ⟨_,_,_,_,y2⟩ | y2
  ·cases y2;exact⟨y1,rfl⟩
  ·cases y2
  ·cases y2
 have oa:∀b,aj (start N (V.ref a::us)) (Dm.Cell.ow d::(ds.map Dm.Cell.sh++Ds m .un)) b->b=a:=fun b ⟨i,d4,y1,y2⟩=>by obtain⟨y3,_⟩:=ow0 y1;subst y3;rw[e0]at y2;cases y2;rfl
 have st:ay H0 H (start N (V.ref a::us)) (Dm.Cell.ow d::(ds.map Dm.Cell.sh++Ds m .un)):=by
  refine⟨s,?_,fun i d4 y=>?_,fun i d4 y=>?_,fun i i' d4 d5 b y1 y2 _ _=>(ow0 y1).1.trans (ow0 y2).1.symm⟩
  ·unfold L2.start;simp only[Qv,gc,Sz,QO];omega
  ·rcases get y with⟨_,y2⟩ | ⟨i',d5,y1,y2,y3⟩ | y2
   ·cases y2
   ·cases y3;subst y1;obtain⟨v,hv,r⟩:=rs.get y2;refine⟨v,?_,r⟩;have hi:i'<us.length:=(Qx.mp hv).1;unfold L2.start;rw[QI (by simp;omega),QL,Sk,hv];rfl
   ·cases y2
  ·obtain⟨y1,y2⟩:=ow0 y;subst y1 y2;exact⟨a,e0,na,wa⟩
 have CY:∀{σ':L2.St} {ρ':Dm.Env} {H0' H':Hp},SSt (start N (V.ref a::us)) (Dm.Cell.ow d::(ds.map Dm.Cell.sh++Ds m .un)) H0 H σ' ρ' H0' H'->ρ'[0]?=some (.ow d')->Stp (fun b=>b=a) H0 H H0' H'/\H0' a=none/\Own H0' H' a d'/\aj σ' ρ' a:=fun {σ' ρ' H0' H'} t y=>by obtain⟨a',q',n',w'⟩:=t.st.ow 0 d' y;have fx:=t.fx;rw[e0,q']at fx;cases fx;exact⟨t.stp.wide fun b z=>oa b z,n',w',0,d',y,q'⟩
 unfold Dm.fnM at ef;split at ef
 case isFalse=>cases ef
 dsimp only at ef;split at ef
 ·rename_i z' ρ' e1;split at ef
  case h_2=>cases ef
  rename_i d4 y;cases ef;refine⟨H0,_,_,st,e1,fun σ' v H0' H' t r no=>?_⟩;obtain⟨f1,f2,f3,f4⟩:=CY t y;refine k v H0' H' f1 t.st.same f2 f3 ?_;cases z with
  |val d5=>exact r
  |new d5=>
   obtain⟨b,y0,y1,y2,y3⟩:=r;refine⟨b,y0,?_,y2,y3⟩;rcases y1 with y1 | y1
   ·exact y1
   ·exact absurd f4 (oa b y1▸no d5 b rfl y0)
 ·rename_i ρ' e1;split at ef
  case h_2=>cases ef
  rename_i d4 y;cases ef;refine⟨H0,_,_,st,e1,fun σ' H0' H' t=>?_⟩;obtain⟨f1,f2,f3,f4⟩:=CY t y;exact k _ H0' H' f1 t.st.same f2 f3 .non
 ·cases ef
end Br
namespace Dm
noncomputable def bh:List Int->List Dat->Int->Option Dat
 |k::ks,v::vs,i=>if k=i then some v else bh ks vs i
 |_,_,_=>none
noncomputable def yq:List Int->List Dat->Int->Dat->List Dat
 |k::ks,v::vs,i,d=>(if k=i then d else v)::yq ks vs i d
 |_,_,_,_=>[]
noncomputable def jI(ks:List Int)(i:Int):List Int:=if (ks.any fun k=>decide (k=i))=true then ks else ks++[i]
noncomputable def jJ(ks:List Int)(vs:List Dat)(i:Int)(d:Dat):List Dat:=if (ks.any fun k=>decide (k=i))=true then yq ks vs i d else vs++[d]
noncomputable def eDn:FE:=fun ρ=>some (.new (.dct [] []),ρ)
noncomputable def gDx:Dat->Dat->Option RV
 |.dct ks vs,.int i=>(bh ks vs i).map .val
 |_,_=>none
noncomputable def wk:Dat->Dat->Option RV
 |.int i,.dct ks vs=>vB (bh ks vs i).isSome
 |_,_=>none
noncomputable def mP:Dat->Dat->Option RV
 |.int i,.dct ks vs=>vB (!(bh ks vs i).isSome)
 |_,_=>none
noncomputable def k9(a b:FE):FE:=fun ρ=>match a ρ with
 |none=>none
 |some (x,ρ1)=>match pk ρ1 x with
  | some (.dct _ _)=>(match b ρ1 with
   |none=>none
   |some (y,ρ2)=>match pk ρ2 x with
    | some (.dct ks vs)=>(match pk ρ2 y with
     |some (.int i)=>some (.val ((bh ks vs i).getD .non),ρ2)
     |_=>none)
    |_=>none)
  |_=>none
noncomputable def eD1(a b:FE):FE:=fun ρ=>match a ρ with
 | some (.val (.int i),ρ1)=>(match b ρ1 with
  |none=>none
  |some (x,ρ2)=>match tk ρ2 x with
   |none=>none
   |some (d,ρ3)=>some (.new (.dct [i] [d]),ρ3))
 |_=>none
noncomputable def gZ(i:Nat)(j e:FE):FS:=fun ρ=>match e ρ with
 |none=>none
 |some (x,ρ1)=>match tk ρ1 x with
  |none=>none
  |some (d,ρ2)=>match ρ2[i]? with
   | some (.ow _)=>(match j ρ2 with
    | some (.val (.int k),ρ3)=>(match ρ3[i]? with
     |some (.ow (.dct ks vs))=>if ks.length<SZ then some (.nx (ρ3.set i (.ow (.dct (jI ks k) (jJ ks vs k d))))) else none
     |_=>none)
    |_=>none)
   |_=>none
end Dm
namespace Br
open PySem PySem.Spec PyProof.Rows L2
section
variable{ds:List Dm.Dat}{ks:List Int}{H0:Hp}{d:Dm.Dat}{v:V}
theorem dQ{H0 H:Hp}(s:ak H0 H)(r:j7 H0 H v (.dct ks ds)):∃a kvs,v=.ref a/\H a=some (.dK kvs)/\kvs.map (·.1)=ks.map QW/\av H0 (kvs.map (·.2)) ds:=by
 rcases r with r | ⟨a,e,kvs,q,ek,rs⟩
 ·cases r with
  |dct q ek rs=>exact⟨_,_,rfl,s _ _ q,ek,rs⟩
 ·exact⟨a,kvs,e,q,ek,rs⟩
theorem rz{a b:Int}(h:¬a=b):¬(QW a:Key)=QW b:=fun q=>h (QW.inj q)
theorem gI(i:Int):∀{kvs:List (Key×V)} {ks:List Int} {ds:List Dm.Dat},kvs.map (·.1)=ks.map QW->av H0 (kvs.map (·.2)) ds ->
  (∃d v,Dm.bh ks ds i=some d/\ia kvs (QW i)=some v/\Rep H0 v d)\/(Dm.bh ks ds i=none/\ia kvs (QW i)=none)
 |[],[],_,_,r=>by cases r;exact .inr ⟨rfl,rfl⟩
 |[],_::_,_,e,_=>by cases e
 |_::_,[],_,e,_=>by cases e
 |(k0,v0)::kvs,k::ks,_,e,r=>by
  rw[gp]at r;cases r with
  |cons r0 rr=>
   rw[gp,gp]at e;injection e with e1 e2
   have e1:k0=QW k:=e1;subst e1;unfold Dm.bh;by_cases h:k=i
   ·subst h;rw[if_pos rfl];exact .inl ⟨_,v0,rfl,ju rfl,r0⟩
   ·rw[if_neg h,jv (rz h)];exact gI i e2 rr
theorem BV(i:Int):∀{kvs:List (Key×V)} {ks:List Int},kvs.map (·.1)=ks.map QW->(kvs.any fun kv=>decide (kv.1=QW i))=(ks.any fun k=>decide (k=i))
 |[],[],_=>rfl
 |[],_::_,e=>by cases e
 |_::_,[],e=>by cases e
 |(k0,v0)::kvs,k::ks,e=>by
  rw[gp,gp]at e;injection e with e1 e2
  have e1:k0=QW k:=e1;subst e1;rw[R6,R6,BV i e2]
  congr 1
  by_cases h:k=i
  ·subst h;simp
  ·have:=rz h;simp[h,this]
theorem yr(i:Int)(rv:Rep H0 v d):∀{kvs:List (Key×V)} {ks:List Int} {ds:List Dm.Dat},kvs.map (·.1)=ks.map QW->av H0 (kvs.map (·.2)) ds ->
  ((kvs.map fun kv=>if kv.1=QW i then (kv.1,v) else kv).map (·.1)=ks.map QW)/\av H0 ((kvs.map fun kv=>if kv.1=QW i then (kv.1,v) else kv).map (·.2)) (Dm.yq ks ds i d)
 |[],[],_,_,r=>by cases r;exact⟨rfl,.nil⟩
 |[],_::_,_,e,_=>by cases e
 |_::_,[],_,e,_=>by cases e
 |(k0,v0)::kvs,k::ks,_,e,r=>by
  rw[gp]at r;cases r with
  |cons r0 rr=>
   rw[gp,gp]at e;injection e with e1 e2
   have e1:k0=QW k:=e1;subst e1;obtain⟨i1,i2⟩:=yr i rv e2 rr;unfold Dm.yq;by_cases h:k=i
   ·subst h;rw[if_pos rfl,gp,gp,gp,i1];simp only[if_true];exact⟨trivial,.cons rv i2⟩
   ·rw[if_neg h,gp,gp,gp,i1];have:=rz h;simp only[this,if_false];exact⟨trivial,.cons r0 i2⟩
theorem wo(i:Int)(rv:Rep H0 v d){kvs:List (Key×V)}(e:kvs.map (·.1)=ks.map QW)(r:av H0 (kvs.map (·.2)) ds) :
  (putK kvs (QW i) v).map (·.1)=(Dm.jI ks i).map QW/\av H0 ((putK kvs (QW i) v).map (·.2)) (Dm.jJ ks ds i d):=by
 have ha:=BV i e;unfold putK Dm.jI Dm.jJ;rw[ha];cases hb:(ks.any fun k=>decide (k=i)) with
 |true=>simp only[if_true];exact yr i rv e r
 |false=>simp only[Rm,if_false];rw[QK,QK,QK,e];exact⟨rfl,r.append (.cons rv .nil)⟩
theorem Nl:OpD (fun x y H Q=>∃a v,x=.ref a/\fX H a y (some v)/\Q v H) Dm.gDx:=by
 intro H0 H x y dx dy z Q s rx ry e k;unfold Dm.gDx at e;split at e
 ·rename_i ks vs i;cases aC ry;obtain⟨a,kvs,rfl,qa,ek,rs⟩:=dQ s rx;rcases gI i ek rs with⟨d,v,l1,l2,r⟩ | ⟨l1,_⟩
  ·rw[l1]at e;cases e;refine⟨a,v,rfl,?_,k _ H0 H (aI.refl s) r⟩;have:=fX.k (k:=QW i) qa;rw[l2]at this;exact this
  ·rw[l1]at e;cases e
 ·cases e
theorem Kd:OpD (fun y x H Q=>∃a o,x=.ref a/\fX H a y o/\Q (.bl o.isSome) H) Dm.wk:=by
 intro H0 H x y dx dy z Q s rx ry e k;unfold Dm.wk at e;split at e
 ·rename_i i ks vs;cases e;cases aC rx;obtain⟨a,kvs,rfl,qa,ek,rs⟩:=dQ s ry;refine⟨a,_,rfl,fX.k (k:=QW i) qa,k _ H0 H (aI.refl s) ?_⟩;rcases gI i ek rs with⟨d,v,l1,l2,r⟩ | ⟨l1,l2⟩
  ·rw[l1,l2];exact .bl _
  ·rw[l1,l2];exact .bl _
 ·cases e
theorem F4:OpD (fun y x H Q=>∃a o,x=.ref a/\fX H a y o/\Q (.bl (!o.isSome)) H) Dm.mP:=by
 intro H0 H x y dx dy z Q s rx ry e k;unfold Dm.mP at e;split at e
 ·rename_i i ks vs;cases e;cases aC rx;obtain⟨a,kvs,rfl,qa,ek,rs⟩:=dQ s ry;refine⟨a,_,rfl,fX.k (k:=QW i) qa,k _ H0 H (aI.refl s) ?_⟩;rcases gI i ek rs with⟨d,v,l1,l2,r⟩ | ⟨l1,l2⟩
  ·rw[l1,l2];exact .bl _
  ·rw[l1,l2];exact .bl _
 ·cases e
end
section
variable{σ:L2.St}{H:Hp}{Q:VK}{D:Ends}
theorem Pp(h:tD Dm.eDn σ H Q):Be σ H Q:=by obtain⟨H0,ρ,x,ρ',st,e,k⟩:=h;cases e;intro p hp;have g:=aI.j8 (o:=HO.dK []) st.same hp;exact k _ _ _ (.grow st g) ⟨p,rfl,hp,st.bH hp,st.same.free hp,[],au,rfl,.nil⟩
theorem Ke{fo fi:Dm.FE}(h:tD (Dm.k9 fo fi) σ H Q):Bj (tD fo) (tD fi) σ H Q:=by
 obtain⟨H0,ρ,x,ρ',st,e,k⟩:=h;unfold Dm.k9 at e;split at e
 ·cases e
 rename_i x1 ρ1 e1;split at e
 case h_2=>cases e
 rename_i ks0 vs0 p0;split at e
 ·cases e
 rename_i y1 ρ2 e2;split at e
 case h_2=>cases e
 rename_i ks vs p1;split at e
 case h_2=>cases e
 rename_i i p2;cases e;refine⟨H0,ρ,x1,ρ1,st,e1,fun v H1 Hb t1 r1=>?_⟩;obtain⟨a,Kf,rfl,qa0,_,_⟩:=dQ t1.st.same (r1.look t1.st p0);refine⟨a,rfl,.inl ⟨Kf,.inl qa0⟩,H1,ρ1,y1,_,t1.st,e2,fun u H2 Hc t2 r2=>?_⟩;have hu:=aC (r2.look t2.st p2);subst hu;obtain⟨a',kvs,ea,qa,ek,rs⟩:=dQ t2.st.same ((r1.mono t2).look t2.st p1);cases ea;refine⟨_,fX.k (k:=QW i) qa,k _ H2 Hc (t1.trans t2) ?_⟩;rcases gI i ek rs with⟨d,w,l1,l2,r⟩ | ⟨l1,l2⟩
 ·rw[l1,l2];exact r
 ·rw[l1,l2];exact Rep.non
theorem Kg{i:Nat}{j f:Dm.FE}(h:tDS (Dm.gZ i j f) D σ H):HK (l8 i) (tD j) (tD f) D σ H:=by
 obtain⟨H0,ρ,o,st,e,k⟩:=h;unfold Dm.gZ at e;split at e
 ·cases e
 rename_i x ρ1 e1;split at e
 ·cases e
 rename_i d ρ2 e2;split at e
 case h_2=>cases e
 rename_i d0 h2;split at e
 ·rename_i m ρ3 e3;split at e
  ·rename_i ks vs h3;split at e
   case isFalse=>cases e
   rename_i hz;cases e;refine⟨H0,ρ,_,ρ1,st,e1,fun v H0' H' t r=>?_⟩;obtain⟨H1,t1,b1,r1,_,_⟩:=take1 t (ak.refl _) r e2;obtain⟨a0,q0,_,_⟩:=t1.st.ow i _ h2;refine⟨_,q0,H1,ρ2,_,ρ3,t1.st,e3,fun u H2 Hc t2 r2=>?_⟩;obtain⟨a,q,n,w⟩:=t2.st.ow i _ h3;rw[q0]at q;cases q;obtain⟨kvs,y,ek,rs⟩:=w;have hu:=Rep.isInt r2;subst hu;obtain⟨p1,p2⟩:=wo m (r1.mono t2.stp.s0) ek rs;have ur:kvs.length=ks.length:=by
    have:=congrArg List.length ek
    simpa using this
   refine⟨a0,_,rfl,Bd.k (k:=QW m) y (by rw[ur];exact QM hz (by decide)),?_⟩;have ow:aj σ ρ3 a0:=⟨i,_,h3,q0⟩
   have tt:=t1.trans t2;exact k σ H2 _ ⟨t2.st.write h3 q0 ⟨_,au,p1,p2⟩,tt.stp.trans (Stp.write ow) fun b z=>.inl (tt.own b z),fun b z=>.inl (tt.own b (b9 h3 z)),rfl⟩
  ·cases e
 ·cases e
theorem Pq{fa fb:Dm.FE}(h:tD (Dm.eD1 fa fb) σ H Q):HL [(tD fa,tD fb)] σ H Q:=by
 obtain⟨H0,ρ,x,ρ',st,e,k⟩:=h;unfold Dm.eD1 at e;split at e
 ·rename_i i ρ1 e1;split at e
  ·cases e
  rename_i y ρ2 e2;split at e
  ·cases e
  rename_i d ρ3 e3;cases e;intro p hp;have n0:H0 p=none:=st.same.free hp;have no:¬aj σ ρ p:=st.bH hp;refine⟨H0,ρ,_,ρ1,st.aside n0 no,e1,fun u H1 Hb t1 r1=>⟨H1,ρ1,y,ρ2,t1.st,e2,fun v H2 Hc t2 r2=>?_⟩⟩;have tt:=t1.trans t2;obtain⟨H3,t3,b3,r3,_,_⟩:=take1 tt (ak.refl _) (r2.early fun a n=>t1.stp.gone n) e3;obtain⟨hp3,n3,no3⟩:=t3.cR (o:=HO.dK []) au n0 no;have hu:=Rep.isInt r1;subst hu;refine⟨hp3,[(QW i,v)],rfl,(by simp),?_⟩;have em:j3 [] [((QW i:Key),v)]=[(QW i,v)]:=rfl;rw[em];refine k _ H3 _ ⟨t3.st.aside n3 no3,⟨t3.stp.s0,fun a o y nb=>?_,fun a o y=>?_,fun a o y=>?_⟩,t3.own,t3.dfn⟩ ⟨p,rfl,hp,no3,n3,_,au,rfl,.cons r3 .nil⟩
  ·have ne:a≠p:=fun q=>by rw[q,hp]at y;cases y
   rw[aA ne];exact t3.stp.s1 a o (by rw[aA ne];exact y) nb
  ·rcases t3.stp.s2 a o y with y1 | y1 | y1
   ·by_cases ne:a=p
    ·subst ne;rw[n3]at y;cases y
    ·rw[aA ne]at y1;exact .inl y1
   ·exact .inr (.inl y1)
   ·exact .inr (.inr y1)
  ·have ne:a≠p:=fun q=>by rw[q,hp]at y;cases y
   rw[aA ne];exact t3.stp.s3 a o (by rw[aA ne];exact y)
 ·cases e
end
theorem u1{k:Nat}{A:Around}(hr:bg k A):A.units+1<cLine:=Tt (Nat.add_le_add_left (by decide) _) hr.units
section
variable{X:Cx}{a b e:Expr}{fa fb f:Dm.FE}{pos:Pos}{k:Nat}
theorem F5:DE X (.Dict [] [] pos) Dm.eDn:=PE.weak Bf fun _ _ _=>Pp
theorem Pr(ha:DE X a fa)(hb:DE X b fb):DE X (.Dict [some a] [b] pos) (Dm.eD1 fa fb):=PE.weak (FA (Bg ha hb Fz) rfl rfl (by simp) (by simp)) fun _ _ _=>Pq
theorem rA(hr:bg k X.A)(ha:DE X a fa)(hb:DE X b fb)(hs:JN b:=by intro _ _;rfl):DE X (.Subscript a b pos) (Dm.e2 Dm.gDx fa fb):=PE.weak (Fx (u1 hr) ha hb hs) fun _ _ _=>v8 Nl
theorem BW(hr:bg k X.A)(ha:DE X a fa)(hb:DE X b fb)(hm:behindInMarks .In b=false:=by rfl):DT X (.Compare a [.In] [b] pos) (Dm.tV (Dm.e2 Dm.wk fa fb)):=PT.weak (AL (JO (u1 hr) ha hb) hm) fun σ H Q h=>v8 Kd (qV h)
theorem wu(hr:bg k X.A)(ha:DE X a fa)(hb:DE X b fb)(hm:behindInMarks .NotIn b=false:=by rfl):DT X (.Compare a [.NotIn] [b] pos) (Dm.tV (Dm.e2 Dm.mP fa fb)):=PT.weak (AL (zT (u1 hr) ha hb) hm) fun σ H Q h=>v8 F4 (qV h)
theorem BX{K8 cpos:Pos}(hr:bg k X.A)(ha:DE X a fa)(hb:DE X b fb)(m:M1 X a "get" K8 b cpos:=by exact⟨rfl,rfl,rfl,rfl⟩):DE X (.Call (.Attribute a "get" K8) [b] [] cpos) (Dm.k9 fa fb):=PE.weak (Bl (u1 hr) ha hb m) fun _ _ _=>Ke
theorem mQ(i:Nat){x:Str}{px sp:Pos}(hr:bg k X.A)(hb:DE X b fb)(he:DE X e f)(hi:X.N[i]?=some x:=by rfl)(hv:Vis X.env.scope x:=by trivial)(hd:(x == ("__debug__" : Str))=false:=by decide)
  (Ij:(x == ("__classdict__" : Str))=false:=by decide) (hs:swapsWith e (some (.Subscript (.Name x px) b sp)) pos.line X.env=pure false:=by rfl):DS X (.Assign [.Subscript (.Name x px) b sp] e pos) (Dm.gZ i fb f):=
 PS.weak (Fy (u1 hr) (eK hi hv hd Ij) hb he hs) fun _ _ _=>Kg
end
end Br
namespace Dm
noncomputable def Qm(i:Nat):FE:=fun ρ=>match ρ[i]? with
 | some (.ow (.lst ds))=>(match ds[ds.length-1]? with
  |some d=>some (.val d,ρ.set i (.ow (.lst (ds.take (ds.length-1)))))
  |none=>none)
 |_=>none
noncomputable def tO(a:FE)(lo hi:Option FE):FE:=fun ρ=>match a ρ with
 |none=>none
 |some (x,ρ1)=>match part lo ρ1 with
  |none=>none
  |some (l,ρ2)=>match part hi ρ2 with
   |none=>none
   |some (h,ρ3)=>match pk ρ3 x with
    |some (.tup xs)=>if sIx xs.length 0 l=0/\sIx xs.length xs.length h=xs.length then none else some (.val (.tup (cut xs l h)),ρ3)
    |_=>none
noncomputable def mR:List Dat->Option RV
 |[.tup [.int a,.int b]]=>if -1000000<=a/\a<=1000000/\-1000000<=b/\b<=1000000 then vI (a+b) else none
 |_=>none
end Dm
namespace Br
open PySem PySem.Spec PyProof.Rows L2
section
variable{σ:L2.St}{H:Hp}{Q:VK}
theorem Pu{K:Dk}{f:Dm.FE}{Q:Bool->Hp->Prop}(h:tDT (Dm.tTr f) σ H Q):tD f σ H fun x H'=>∃k,Jv K x H' k/\Q k H':=by
 obtain⟨H0,ρ,b,ρ',st,e,k⟩:=h;unfold Dm.tTr at e;split at e
 ·cases e
 rename_i x ρ1 e1;split at e
 ·cases e
 rename_i d p1;split at e
 ·cases e
 rename_i c tc;cases e;refine⟨H0,ρ,x,_,st,e1,fun v H1 Hb t1 r1=>⟨b,?_,k H1 Hb t1⟩⟩;have rl:=r1.look t1.st p1;cases d with
 |non=>
  cases tc;rcases rl with r | ⟨a,_,w⟩
  ·cases r;rfl
  ·exact Rc w
 |bl c=>cases tc;cases lU rl;rfl
 |int i=>cases tc;cases aC rl;rfl
 |tup es=>cases tc;obtain⟨a,xs,rfl,qa,rs⟩:=bO t1.st.same rl;refine .inr (.inl ⟨xs,SqT.of qa,?_⟩);cases rs<;>rfl
 |lst es=>cases tc;obtain⟨a,xs,rfl,qa,rs⟩:=bx t1.st.same rl;refine .inl ⟨xs,.inl qa,?_⟩;cases rs<;>rfl
 |str _=>cases tc
 |dct _ _=>cases tc
 |dcp _ _=>cases tc
 |exc _=>cases tc
 |bU _ _=>cases tc
 |fn _=>cases tc
end
section
variable{X:Cx}{a:Expr}{fa:Dm.FE}{p pos:Pos}
theorem Pw(ha:DE X a fa)(he:∀whole,isTrue a X.env whole=(do let v <- whole;standAt a.pos;holding [v] (truthy v)):=by intro _;rfl):DT X a (Dm.tTr fa):=PT.weak (A5 ha he) fun _ _ _=>Pu
end
section
variable{X:Cx}{a b e:Expr}{fa fb f:Dm.FE}{fs:List Dm.FE}{p p2 pos:Pos}
theorem Nm{K:Dk}{lo hi:Option Dm.FE}{σ:L2.St}{H:Hp}{Q:VK}(h:tD (Dm.tO f lo hi) σ H Q):tSl (Mz K) (tD f) (tOf lo) (tOf hi) σ H Q:=by
 obtain⟨H0,ρ,x,ρ',st,e,k⟩:=h;unfold Dm.tO at e;split at e
 ·cases e
 rename_i x1 ρ1 e1;split at e
 ·cases e
 rename_i l ρ2 e2;split at e
 ·cases e
 rename_i hh ρ3 e3;split at e
 ·rename_i ds p1;split at e
  ·cases e
  rename_i NW;cases e;refine⟨H0,ρ,x1,ρ1,st,e1,fun v H1 Hb t1 r1=>?_⟩;refine lW t1.st e2 fun H2 Hc t2=>?_;refine lW t2.st e3 fun H3 Hd t3=>?_;have tt:=t1.trans (t2.trans t3);obtain⟨a,xs,rfl,qa,ra⟩:=bO t3.st.same ((r1.mono (t2.trans t3)).look t3.st p1);refine⟨a,xs,rfl,SqT.of qa,?_,fun q hq=>?_⟩
  ·rw[ra.length,rm _ _ _ (Q4 _),rm _ _ _ (Pz _)];exact NW
  ·have g:=aI.Bs (o:=HO.tup (o_ xs l hh)) t3.st.same hq;exact k _ _ _ (tt.trans (.grow t3.st g)) (.tup au ((p8 ra l hh).mono g.s0))
 ·cases e
theorem BY{lo hi:Option Expr}{flo fhi:Option Dm.FE}(h:DE X e f)(hl:PO X lo (tOf flo))(hh:PO X hi (tOf fhi)):DE X (.Subscript e (.Slice lo hi none p2) pos) (Dm.tO f flo fhi):=PE.weak (sQ JC h hl hh) fun _ _ _=>Nm
theorem z7(hc:X.calm=true):bW X (.builtin "sum") (fun xs H Q=>∃(q:Addr) (i j:Int),xs=[.ref q]/\H q=some (.tup [.int i,.int j])/\(-1000000<=i/\i<=1000000/\-1000000<=j/\j<=1000000)/\Q (.int (i+j)) H):=by
 intro kC s σ H xs us Q I r h;obtain⟨q,i,j,rfl,hq,hb,k⟩:=h;obtain⟨u,rfl,rx⟩:=vals1 r;cases rx;obtain⟨its,rv,pl,hz⟩:=I.tuple (SqT.of hq);obtain⟨u1,u2,rfl,r1,r2⟩:=vals2 rv;obtain⟨t1,rfl⟩:=r1;obtain⟨t2,rfl⟩:=r2;have ht:s.heap.IsTuple q #[.int i t1,.int j t2]:=pl;obtain⟨oq,eq,_⟩:=id ht;have hax:q≠s.heap.objs.size:=QX (QA eq);refine PySem.call_sum_walk (wpAny_pyIter_tuple ht ⟨s.heap.objs.size,_,_,_,_,_,fun n=>if n=0 then i else j,rfl,Walks.tuple (A:=X.A.in1) (I.ok.hd hc) s.heap.objs.size q hax #[.int i t1,.int j t2],⟨⟨_,QS _ rfl,rfl,rfl⟩,?_⟩,?_,?_,?_,fun h' tk t' hk=>?_⟩)
 ·exact ht.at fun o e=>PU _ e
 ·intro b hb;simp only[Qw,RY,or_false]at hb;have hz:(s.heap.push { cls:=.type "tuple_iterator",data:=.fields #[.ref q,.int 0 0] }).objs.size=s.heap.objs.size+1:=Sb ..;show b<(s.heap.push { cls:=.type "tuple_iterator",data:=.fields #[.ref q,.int 0 0] }).objs.size;rw[hz];rcases hb with rfl | rfl
  ·exact Sg _
  ·exact RU (QA eq)
 ·intro n v hv
  match n,hv with
  |0,hv=>cases hv;exact⟨t1,rfl⟩
  |1,hv=>cases hv;exact⟨t2,rfl⟩
  |n+2,hv=>simp at hv
 ·intro n hn;have hn:n<2:=hn
  match n,hn with
  |0,_=>simp[InLong,preSum];lia
  |1,_=>simp[InLong,preSum];lia
 ·refine⟨.int (i+j),H,I.kept (t':=tk) fun b o eb=>hk b o ?_ (PU _ eb),⟨t',?_⟩,k⟩
  ·intro hm;have:b=s.heap.objs.size:=by simpa using hm
   exact absurd (QA eb) (by rw[this];exact RW _)
  ·simp[preSum]
theorem F6:CallD (fun xs H Q=>∃(q:Addr) (i j:Int),xs=[.ref q]/\H q=some (.tup [.int i,.int j])/\(-1000000<=i/\i<=1000000/\-1000000<=j/\j<=1000000)/\Q (.int (i+j)) H) Dm.mR:=by
 intro H0 H xs ds z Q s rx e k;unfold Dm.mR at e;split at e
 ·rename_i i j;split at e
  ·rename_i hb;cases e;cases rx with
   |cons r rr=>
    cases rr;obtain⟨q,us,rfl,qa,ra⟩:=bO s r;cases ra with
    |cons r1 rr=>
     cases rr with
     |cons r2 rr=>cases rr;cases Rep.isInt r1;cases Rep.isInt r2;exact⟨q,i,j,rfl,qa,hb,k _ H0 H (aI.refl s) (.int _)⟩
  ·cases e
 ·cases e
theorem BZ(hc:X.calm=true)(hg:Gl X "sum")(hm:X.mg "sum" = none)(ha:DA X [e] fs)(he:starEach [e] X.env=[(false,eval e X.env)]:=by rfl)(CI:(backTo pos (starEach [] X.env)).any (·.1)=false:=by rfl):DE X (.Call (.Name "sum" p) [e] [] pos) (Dm.eB Dm.mR fs):=tL (z7 hc) F6 PyProof.Rows.boot_sum hg hm ha (he:=he) (CI:=CI)
end
end Br
namespace Dm
noncomputable def dR:List Dat->Option (List Int)
 |[]=>some []
 |.int i::r=>(dR r).map fun ns=>i::ns
 |_=>none
noncomputable def dedup(ns:List Int):List Int:=ns.foldl (fun pI x=>if pI.any (· == x) then pI else pI++[x]) []
noncomputable def d8:Dat->Option RV
 | .lst ds=>(match dR ds with
  |some ns=>if ns.length<=4000 then vI (dedup ns).length else none
  |none=>none)
 |_=>none
end Dm
namespace Br
open PySem PySem.Spec PyProof.Rows L2
def pW(K:Dk):List V->Hp->VK->Prop:=fun xs H Q=>∃(q:Addr) (ns:List Int),xs=[.ref q]/\SqL K H q (ns.map V.int)/\ns.length+1<scanBound /\
 ∀l,H l=none->Q (.ref l) (upd H l (.set (fun k'=>(firstMet (fun i=>ns.getD i 0) ns.length).any (· == k')) (firstMet (fun i=>ns.getD i 0) ns.length).length))
def HW:List V->Hp->VK->Prop:=fun xs H Q=>∃(q:Addr) (S:Int->Bool) (n:Nat),xs=[.ref q]/\H q=some (.set S n)/\Q (.int n) H
theorem intsAre_of:∀{ns:List Int} {its:List Value},Vals (ns.map V.int) its->IntsAre its ns
 |[],_,r=>by cases r;exact .nil
 |n::ns,_,r=>by
  rw[gp]at r;cases r with
  |cons h t=>obtain⟨tk,rfl⟩:=h;exact .cons _ _ (intsAre_of t)
section
variable{X:Cx}
theorem z8(hc:X.calm=true):bW X (.type "set") (pW X.K):=by
 intro kC s σ H xs us Q I r h;obtain⟨q,ns,rfl,hq,hb,k⟩:=h;obtain⟨u,rfl,rx⟩:=vals1 r;cases rx;obtain⟨its,rv,pl,hz⟩:=I.list hq;have hl:=rv.length;rw[gc]at hl;refine call_set_list (ns:=ns) (I.ok.hd hc) pl.isList (intsAre_of rv) (by rw[Qy,<- hl];exact hb) fun h' tk hS hk=>?_;have hz2:its.toArray.size=ns.length:=by rw[Qy,<- hl]
 rw[hz2]at hS;exact⟨.ref s.heap.objs.size,_,I.laid (a:=s.heap.objs.size) (o:=.set (fun k'=>(firstMet (fun i=>ns.getD i 0) ns.length).any (· == k')) (firstMet (fun i=>ns.getD i 0) ns.length).length) (t':=tk) (fun b u e=>hk b u (QA e) e) (Pz _) hS,rfl,k _ (I.hok.fresh (Pz _))⟩
theorem z_:bW X (.builtin "len") HW:=by intro kC s σ H xs us Q I r h;obtain⟨q,S,n,rfl,hq,k⟩:=h;obtain⟨u,rfl,rx⟩:=vals1 r;cases rx;obtain⟨o,es,ep,t,ho,hex,hd,_,_,hb,hf,hn⟩:s.heap.SetOf (intKind X.prog X.w) q S n:=I.hok q _ hq;have hb':es.size<4096:=hb;refine call_len_set ho hex hd hf (by lia) ?_;exact⟨.int n,H,I.tok _,⟨_,by rw[hn]⟩,k⟩
end
theorem jK{H0:Hp}:∀{ds:List Dm.Dat} {xs:List V} {ns:List Int},av H0 xs ds->Dm.dR ds=some ns->xs=ns.map V.int
 |[],_,ns,r,e=>by cases r;cases e;rfl
 |d::ds,_,ns,r,e=>by
  cases r with
  |cons h t=>
   cases d with
   |int i=>
    unfold Dm.dR at e;cases q:Dm.dR ds with
    |none=>rw[q]at e;cases e
    |some ms=>rw[q]at e;cases e;cases Rep.isInt h;rw[jK t q];rfl
   |_=>cases e
theorem range_getD(ns:List Int):(QG ns.length).map (fun i=>ns.getD i 0)=ns:=by
 apply R8;intro i;rw[QL];by_cases h:i<ns.length
 ·rw[Sh h,Qz h];simp[Rf,h]
 ·rw[Q6 (by simpa using h),Q6 (by simpa using h)];rfl
theorem dS(ns:List Int):(firstMet (fun i=>ns.getD i 0) ns.length)=Dm.dedup ns:=by unfold firstMet Dm.dedup;rw[range_getD];rfl
section
variable{X:Cx}{e:Expr}{f:Dm.FE}{p p0 pos lJ:Pos}
theorem B0{K:Dk}{σ:L2.St}{H:Hp}{Q:VK}(h:tD (Dm.e1 Dm.d8 f) σ H Q):tCB HW (kU (tCB (pW K) (kU (tD f) qL)) qL) σ H Q:=by
 obtain⟨H0,ρ,x,ρ',st,e,k⟩:=h;unfold Dm.e1 at e;split at e
 ·cases e
 rename_i x1 ρ1 e1;split at e
 ·cases e
 rename_i dx p1;split at e
 ·cases e
 rename_i z gz;cases e;unfold Dm.d8 at gz;split at gz
 ·rename_i ds;split at gz
  ·rename_i ns en;split at gz
   ·rename_i hb;cases gz;refine⟨H0,ρ,x1,_,st,e1,fun v H1 Hb t1 r1=>?_⟩;obtain⟨a,xs,rfl,qa,ra⟩:=bx t1.st.same (r1.look t1.st p1);have ex:=jK ra en;subst ex;refine⟨a,ns,rfl,.inl qa,by show ns.length+1<4096;lia,fun l hl=>⟨l,_,_,rfl,au,?_⟩⟩;rw[dS];exact k _ _ _ (t1.trans (.grow t1.st (aI.j8 t1.st.same hl))) (Rep.int _)
   ·cases gz
  ·cases gz
 ·cases gz
theorem mS(hc:X.calm=true)(hgl:Gl X "len")(hml:X.mg "len" = none)(hg:Gl X "set")(hm:X.mg "set" = none)(h:DE X e f)(hs:starEach [e] X.env=[(false,eval e X.env)]:=by rfl)
  (hs0:starEach [.Call (.Name "set" p) [e] [] pos] X.env=[(false,eval (.Call (.Name "set" p) [e] [] pos) X.env)]:=by rfl) (CI:(backTo pos (starEach [] X.env)).any (·.1)=false:=by rfl) (Kh:(backTo lJ (starEach [] X.env)).any (·.1)=false:=by rfl) :
  DE X (.Call (.Name "len" p0) [.Call (.Name "set" p) [e] [] pos] [] lJ) (Dm.e1 Dm.d8 f):=
 PE.weak (jq z_ hgl hml PySem.boot_len (fE (jX (z8 hc) hg hm (by rfl) (fE h g_ hs) (he:=hs) (CI:=CI)) g_ hs0) (he:=hs0) (CI:=Kh)) fun _ _ _=>B0
end
end Br
namespace Ts
open PySem PyProof.Rows
variable{M:Model}{A:Around}{E:Value->Shared->Prop}{s:Shared}{κ:KeyKind}{kd:SortKind}{a₀:Array Keyed}
end Ts
namespace Ts
open PySem PyProof.Rows
variable{M:Model}{A:Around}{E:Value->Shared->Prop}{s:Shared}{κ:KeyKind}{kd:SortKind}{a₀:Array Keyed}
end Ts
namespace Ts
open PySem PyProof.Rows
variable{M:Model}{A:Around}{E:Value->Shared->Prop}{s:Shared}{κ:KeyKind}{kd:SortKind}{a₀:Array Keyed}
end Ts
namespace Ts
open PySem PyProof.Rows
variable{M:Model}{A:Around}{E:Value->Shared->Prop}{s:Shared}{κ:KeyKind}{kd:SortKind}{a₀:Array Keyed}
end Ts
namespace Ts
open PySem PyProof.Rows
variable{A:Around}{E:Value->Shared->Prop}{s:Shared}{κ:KeyKind}{kd:SortKind}{a₀:Array Keyed}{prog:Program}{w:World}
end Ts
namespace Ts
open PySem PyProof.Rows
variable{A:Around}{E:Value->Shared->Prop}{s:Shared}{κ:KeyKind}{kd:SortKind}{a₀:Array Keyed}{prog:Program}{w:World}
end Ts
namespace Ts
open PySem PyProof.Rows
variable{A:Around}{E:Value->Shared->Prop}{s:Shared}{κ:KeyKind}{kd:SortKind}{a₀:Array Keyed}{prog:Program}{w:World}
end Ts
namespace Ts
open PySem PyProof.Rows
variable{A:Around}{E:Value->Shared->Prop}{s:Shared}{κ:KeyKind}{kd:SortKind}{a₀:Array Keyed}{prog:Program}{w:World}
end Ts
namespace Ts
open PySem PyProof.Rows
variable{A:Around}{E:Value->Shared->Prop}{s:Shared}{κ:KeyKind}{kd:SortKind}{prog:Program}{w:World}
end Ts
namespace Ts
open PySem PyProof.Rows
variable{A:Around}{E:Value->Shared->Prop}{s:Shared}{κ:KeyKind}{kd:SortKind}{a₀:Array Keyed}{prog:Program}{w:World}
end Ts
namespace Ts
open PySem PyProof.Rows
variable{A:Around}{E:Value->Shared->Prop}{s:Shared}{κ:KeyKind}{kd:SortKind}{prog:Program}{w:World}
end Ts
namespace Dm
section
variable{α:Type}
noncomputable def ins{α:Type}(lt:α->α->Bool)(x:α):List α->List α
 |[]=>[x]
 |y::l=>if lt y x then y::ins lt x l else x::y::l
noncomputable def bK{α:Type}(lt:α->α->Bool):List α->List α
 |[]=>[]
 |x::l=>ins lt x (bK lt l)
theorem mT(lt:α->α->Bool)(x:α):∀l,(ins lt x l).Perm (x::l)
 |[]=>List.Perm.refl _
 |y::l=>by
  rw[ins];split
  ·exact((mT lt x l).cons y).trans (T7.swap x y l)
  ·exact List.Perm.refl _
theorem bF(lt:α->α->Bool):∀l,(bK lt l).Perm l
 |[]=>List.Perm.refl _
 |x::l=>(mT lt x _).trans ((bF lt l).cons x)
theorem mU{lt:α->α->Bool}(tr:∀a b c,lt b a=false->lt c b=false->lt c a=false)(as:∀a b,lt a b=true->lt b a=false)(x:α):∀l:List α,l.Pairwise (fun a b=>lt b a=false)->(ins lt x l).Pairwise (fun a b=>lt b a=false)
 |[],_=>by simp[ins]
 |y::l,h=>by
  rw[ins];obtain⟨h1,h2⟩:=RD.mp h;split
  ·rename_i hl;refine RD.mpr ⟨fun z hz=>?_,mU tr as x l h2⟩;rcases Qw.mp ((mT lt x l).mem_iff.mp hz) with rfl | hz
   ·exact as _ _ hl
   ·exact h1 z hz
  ·rename_i hl;have hl':lt y x=false:=by simpa using hl
   refine RD.mpr ⟨fun z hz=>?_,h⟩;rcases Qw.mp hz with rfl | hz
   ·exact hl'
   ·exact tr _ _ _ hl' (h1 z hz)
theorem bV{lt:α->α->Bool}(tr:∀a b c,lt b a=false->lt c b=false->lt c a=false)(as:∀a b,lt a b=true->lt b a=false):∀l:List α,(bK lt l).Pairwise (fun a b=>lt b a=false)
 |[]=>Ue.nil
 |x::l=>mU tr as x _ (bV tr as l)
theorem cT{lt:α->α->Bool}(tot:∀a b,lt a b=false->lt b a=false->a=b):∀{l m:List α},l.Perm m->l.Pairwise (fun a b=>lt b a=false)->m.Pairwise (fun a b=>lt b a=false)->l=m
 |[],m,p,_,_=>(List.nil_perm.mp p).symm
 |x::l,[],p,_,_=>by have:=p.length_eq;simp at this
 |x::l,y::m,p,h1,h2=>by
  obtain⟨a1,a2⟩:=RD.mp h1;obtain⟨b1,b2⟩:=RD.mp h2;have e:x=y:=by
   rcases Qw.mp (p.mem_iff.mp gV) with hx | hx
   ·exact hx
   ·rcases Qw.mp (p.mem_iff.mpr (gV (a:=y) (l:=m))) with hy | hy
    ·exact hy.symm
    ·exact tot x y (b1 x hx) (a1 y hy)
  subst e;rw[cT tot (T7.cons_inv p) a2 b2]
noncomputable def wz(i:Nat)(e:FE):FS:=fun ρ=>match ρ[i]? with
 | some (.ow (.lst _))=>(match e ρ with
  |none=>none
  |some (x,ρ1)=>match pk ρ1 x with
   | some (.lst es)=>(match ρ1[i]? with
    |some (.ow (.lst ds))=>if ds.length+es.length<=SZ then some (.nx (ρ1.set i (.ow (.lst (ds++es))))) else none
    |_=>none)
   |_=>none)
 |_=>none
noncomputable def fH(i:Nat)(e:FE):FE:=fun ρ=>match ρ[i]? with
 | some (.ow (.lst _))=>(match e ρ with
  | some (.val (.int j),ρ1)=>(match ρ1[i]? with
   | some (.ow (.lst ds))=>if 0≤j∧j≤BIG then (match ds[j.toNat]? with
     |some d=>some (.val d,ρ1.set i (.ow (.lst (ds.eraseIdx j.toNat))))
     |none=>none) else none
   |_=>none)
  |_=>none)
 |_=>none
noncomputable def isN:Dat->Bool
 |.non=>true
 |_=>false
noncomputable def rB:Dat->Dat->Option RV
 |d,.non=>vB (isN d)
 |_,_=>none
end
end Dm
namespace Br
open PySem PySem.Spec PyProof.Rows L2
theorem gJ{H0:Hp}:∀ns:List Int,av H0 (ns.map V.int) (ns.map Dm.Dat.int)
 |[]=>.nil
 |n::ns=>.cons (.int n) (gJ ns)
section
variable{X:Cx}{a b c e:Expr}{f fa fb:Dm.FE}{fs:List Dm.FE}{p pos:Pos}
def Nn(neg:Bool):R2:=fun x y H Q=>y=.non/\Q (.bl (if neg then !decide (x=V.non) else decide (x=V.non))) H
theorem F7{x:V}{v:Value}(r:RelV x v):(v == Value.none)=decide (x=V.non):=by
 cases x with
 |non=>cases r;rfl
 |bl b=>cases r;rfl
 |int i=>obtain⟨t,rfl⟩:=r;rfl
 |str z=>obtain⟨t,rfl⟩:=r;rfl
 |byt z=>obtain⟨t,rfl⟩:=r;rfl
 |flt z=>obtain⟨t,rfl⟩:=r;rfl
 |ref z=>cases r;rfl
 |ty z=>cases r;rfl
theorem B3:OpR X (compareOp .Is) (Nn false):=by intro kC s σ H x y v u Q I rx ry h;obtain⟨rfl,q⟩:=h;cases ry;refine is_none_gen ?_;rw[F7 rx];exact⟨.bl _,H,I,rfl,q⟩
theorem yt{H0 H:Hp}{x:V}{d:Dm.Dat}(r:j7 H0 H x d):decide (x=V.non)=Dm.isN d:=by
 rcases r with r | ⟨a,rfl,w⟩
 ·cases r<;>rfl
 ·cases d with
  |non=>exact Rc w
  |_=>rfl
theorem B4:OpD (Nn false) Dm.rB:=by
 intro H0 H x y dx dy z Q s rx ry e k;unfold Dm.rB at e;split at e
 ·cases e;have hy:=yt ry;have:y=V.non:=of_decide_eq_true (hy.trans rfl);refine⟨this,?_⟩;rw[if_neg (by decide),yt rx];exact k _ H0 H (aI.refl s) (.bl _)
 ·cases e
theorem Np(ha:DE X a fa)(hb:DE X b fb):DE X (.Compare a [.Is] [b] pos) (Dm.e2 Dm.rB fa fb):=p7 B3 B4 ha hb (dD _)
theorem B5(ha:DE X a fa)(hb:DE X b fb):DT X (.Compare a [.Is] [b] pos) (Dm.tV (Dm.e2 Dm.rB fa fb)):=jE B3 B4 ha hb (dD _)
end
section
variable{X:Cx}
def HX:V->List V->Hp->VK->Prop:=fun x vs H Q=>∃l b xs zs,x=.ref l/\vs=[.ref b]/\H l=some (.lst xs)/\Rd H b (.lst zs)/\xs.length+zs.length<=sizeLine/\Q .non (upd H l (.lst (xs++zs)))
theorem F8:MtM X "list.extend" HX:=by
 intro kC s σ H x vs v us Q I rx rv h;obtain⟨l,b,xs,zs,rfl,rfl,hH,hB,hz,q⟩:=h;cases rx;obtain⟨u,rfl,ru⟩:=rv.one;cases ru;obtain⟨z,its,n,r,hl,e⟩:=I.JI hH;obtain⟨z2,its2,n2,r2,e2⟩:=hB.ok I.hok;have hl2:=r2.length;have tot:its.toArray.size+its2.toArray.size<=sizeLine:=by simp only[Qy];lia
 have short:¬(!its.toArray.isEmpty&&Sf (its.toArray.size+its2.toArray.size))=true:=by rw[sV tot,Ub];decide
 refine call_meets F.slot_list_extend ⟨_,e,rfl⟩ F.entry_list_extend (F.args_list_extend_2 _ _) (AutoSeq1.list_extend_list_list_0 l its.toArray n b its2.toArray n2 short (by rw[Qy];lia) (by lia)) ⟨e,e2,?_⟩;exact⟨.non,_,I.JG (its':=its++its2) hH e (by simp) (r.append r2) (by rw[Qv];lia),rfl,q⟩
end
section
variable{σ:L2.St}{H:Hp}{Q:VK}{D:Ends}
theorem Nq{K:Dk}{i:Nat}{f:Dm.FE}(h:tDS (Dm.wz i f) D σ H):pQ (tBM K "list" HX (l8 i) (tDA [f])) D σ H:=by
 obtain⟨H0,ρ,o,st,e,k⟩:=h;unfold Dm.wz at e;split at e
 case h_2=>cases e
 rename_i ds0 h0;obtain⟨a0,q0,n0,w0⟩:=st.ow i _ h0;refine⟨_,q0,?_⟩;split at e
 ·cases e
 rename_i x ρ1 e1;split at e
 case h_2=>cases e
 rename_i es p1;split at e
 case h_2=>cases e
 rename_i ds h2;split at e
 case isFalse=>cases e
 rename_i hz;cases e;obtain⟨xs0,y0,_⟩:=w0;refine⟨.inl ⟨rfl,xs0,.inl (.inl y0)⟩,?_⟩;refine⟨H0,ρ,[x],ρ1,st,by unfold Dm.eAs;rw[e1];rfl,fun vs H0' H' t r=>?_⟩;cases r with
 |cons r rr=>
  cases rr;obtain⟨b,zs,rfl,qb,rb⟩:=bx t.st.same (r.look t.st p1);obtain⟨a,q,n,w⟩:=t.st.ow i _ h2;rw[q0]at q;cases q;obtain⟨xs,y,rs⟩:=w;refine⟨a0,b,xs,zs,rfl,rfl,y,qb,by rw[rs.length,rb.length];exact QT hz (by decide),?_⟩;have ow:aj σ ρ1 a0:=⟨i,_,h2,q0⟩
  exact k σ H0' _ ⟨t.st.write h2 q0 ⟨_,au,rs.append rb⟩,t.stp.trans (Stp.write ow) fun b z=>.inl (t.own b z),fun b z=>.inl (t.own b (b9 h2 z)),rfl⟩
theorem mV{α:Type}(l:List α)(i:Nat):l.eraseIdx i=l.take i++l.drop (i+1):=List.eraseIdx_eq_take_drop_succ l i
theorem wA{H0:Hp}{vs:List V}{ds:List Dm.Dat}(i:Nat)(r:av H0 vs ds):av H0 (vs.eraseIdx i) (ds.eraseIdx i):=by rw[mV,mV];exact(r.take i).append (r.drop (i+1))
theorem F9{K:Dk}{i:Nat}{f:Dm.FE}(h:tD (Dm.fH i f) σ H Q):tBM K "list" A_ (l8 i) (tDA [f]) σ H Q:=by
 obtain⟨H0,ρ,x,ρ',st,e,k⟩:=h;unfold Dm.fH at e;split at e
 case h_2=>cases e
 rename_i ds0 h0;obtain⟨a0,q0,n0,w0⟩:=st.ow i _ h0;refine⟨_,q0,?_⟩;obtain⟨xs0,y0,_⟩:=w0;refine⟨.inl ⟨rfl,xs0,.inl (.inl y0)⟩,?_⟩;split at e
 case h_2=>cases e
 rename_i j ρ1 e1;split at e
 case h_2=>cases e
 rename_i ds h2;split at e
 case isFalse=>cases e
 rename_i hb;split at e
 case h_2=>cases e
 rename_i d hd;cases e;refine⟨H0,ρ,[.val (.int j)],ρ1,st,by unfold Dm.eAs;rw[e1];rfl,fun vs H0' H' t r=>?_⟩;cases r with
 |cons r rr=>
  cases rr;cases Rep.isInt r;obtain⟨a,q,n,w⟩:=t.st.ow i _ h2;rw[q0]at q;cases q;obtain⟨xs,y,rs⟩:=w;obtain⟨v,hv,rv⟩:=rs.get hd;have CK:j.toNat<xs.length:=(Qx.mp hv).1;have hB:Dm.BIG=1000000000:=rfl;refine⟨a0,xs,j,j.toNat,v,rfl,rfl,y,by lia,by lia,?_,hv,?_⟩
  ·unfold seqIndex?;simp only[show ¬j<0 by lia,if_false];rw[if_pos (by rw[decide_eq_true (show 0<=j by lia),decide_eq_true (show j<(xs.length:Int) by lia)];rfl)]
  have ow:aj σ ρ1 a0:=⟨i,_,h2,q0⟩
  have hi:i<ρ1.length:=(Qx.mp h2).1;refine k v H0' _ (t.trans ⟨t.st.write h2 q0 ⟨_,au,wA _ rs⟩,Stp.write ow,fun b z=>b9 h2 z,fun j' z=>trivial⟩) rv
end
section
variable{X:Cx}{e:Expr}{f:Dm.FE}{pos:Pos}
theorem HY(i:Nat){x:Str}{px ap cp:Pos}(he:DE X e f)(hi:X.N[i]?=some x:=by rfl)(hv:Vis X.env.scope x:=by trivial)(hd:(x == ("__debug__" : Str))=false:=by decide)
  (Ij:(x == ("__classdict__" : Str))=false:=by decide) (Gz:attributeBase (.Name x px) "extend" X.env (eval (.Name x px) X.env)=eval (.Name x px) X.env:=by rfl)
  (hfew:((backTo cp (starEach [e] X.env)).all (fun x=>!x.1)&&(backToKw cp (keywordEach [] X.env)).all (fun x=>x.1.isSome)
   && decide ([e].length+([]:List Keyword).length+(if ([]:List Keyword).isEmpty then 0 else 1)<30))=true:=by rfl)
  (Fd:(ap.endLine == cp.line)=true:=by rfl) (hs:starEach [e] X.env=(false,eval e X.env)::starEach [] X.env:=by rfl) (CW:(backTo cp (starEach [] X.env)).any (·.1)=false:=by rfl)
  (hsw:swapsWith (.Call (.Attribute (.Name x px) "extend" ap) [e] [] cp) none pos.line X.env=pure false:=by rfl) :
  DS X (.Expr (.Call (.Attribute (.Name x px) "extend" ap) [e] [] cp) pos) (Dm.wz i f):=
 PS.weak (jl (sS RX PySem.F.slot_list_extend PySem.F.type_list_extend F8 (eK hi hv hd Ij) (aa he af hs) Gz hfew Fd hs CW) hsw) fun _ _ _=>Nq
theorem yu(i:Nat){x:Str}{px ap cp:Pos}(he:DE X e f)(hi:X.N[i]?=some x:=by rfl)(hv:Vis X.env.scope x:=by trivial)(hd:(x == ("__debug__" : Str))=false:=by decide)
  (Ij:(x == ("__classdict__" : Str))=false:=by decide) (Gz:attributeBase (.Name x px) "pop" X.env (eval (.Name x px) X.env)=eval (.Name x px) X.env:=by rfl)
  (hfew:((backTo cp (starEach [e] X.env)).all (fun x=>!x.1)&&(backToKw cp (keywordEach [] X.env)).all (fun x=>x.1.isSome)
   && decide ([e].length+([]:List Keyword).length+(if ([]:List Keyword).isEmpty then 0 else 1)<30))=true:=by rfl)
  (Fd:(ap.endLine == cp.line)=true:=by rfl) (hs:starEach [e] X.env=(false,eval e X.env)::starEach [] X.env:=by rfl) (CW:(backTo cp (starEach [] X.env)).any (·.1)=false:=by rfl) :
  DE X (.Call (.Attribute (.Name x px) "pop" ap) [e] [] cp) (Dm.fH i f):=
 PE.weak (sS RX PySem.F.slot_list_pop PySem.F.type_list_pop Ba (eK hi hv hd Ij) (aa he af hs) Gz hfew Fd hs CW) fun _ _ _=>F9
end
end Br
namespace L2
open PySem PySem.Spec PyProof.Rows
section
variable{P:Program}{w:World}{K:Dk}{mg:Str->Option Value}{base:Heap}{N:List Str}{qual:Str}{scope:Scope}{f:Addr}{cd:Value}{A:Around}{outer:List Env}{s₀:Shared}{H₀:Hp}{E:XK}{C:Addr}
 {kC:List (Addr×Obj)} {σ:St} {H:Hp} {s:Shared}
end
end L2
namespace Dm
noncomputable def jL:List Int->Int
 |[]=>0
 |x::r=>x+jL r
noncomputable def p_:List Dat->Option RV
 | [.lst xs]=>(match dR xs with
  |some ns=>vI (jL ns)
  |none=>none)
 |_=>none
end Dm
namespace Br
open PySem PySem.Spec PyProof.Rows L2
theorem B6(a b:List Int):Dm.jL (a++b)=Dm.jL a+Dm.jL b:=by
 induction a with
 |nil=>rw[Dm.jL,Sq,Int.zero_add]
 |cons x a ih=>rw[RZ,Dm.jL,Dm.jL,ih,Int.add_assoc]
theorem k_(ns:List Int):∀k,k<=ns.length->preSum (fun i=>ns.getD i 0) k=Dm.jL (ns.take k)
 |0,_=>rfl
 |k+1,h=>by have e:preSum (fun i=>ns.getD i 0) (k+1)=preSum (fun i=>ns.getD i 0) k+ns.getD k 0:=rfl;rw[e,k_ ns k (by lia),List.take_succ_eq_append_getElem (by lia),B6];rw[Rf,Qz (by lia)];simp[Dm.jL]
section
variable{X:Cx}
theorem F_{ns:List Int}{its:List Value}(rv:Vals (ns.map V.int) its):∀(i:Nat) (v:Value),its.toArray[i]?=some v->∃t,v=.int (ns.getD i 0) t:=by
 intro i v hv;have hv':its[i]?=some v:=by simpa using hv
 have ur:=rv.length;rw[gc]at ur;have hi:i<ns.length:=by rw[ur];exact(Qx.mp hv').1
 have hb:(ns.map V.int)[i]?=some (V.int ns[i]):=by rw[QL,Qz hi];rfl
 obtain⟨u,hu,ru⟩:=rv.get hb;rw[hv']at hu;cases hu;obtain⟨t,rfl⟩:=ru;exact⟨t,by rw[Rf,Qz hi];rfl⟩
theorem Aa(hc:X.calm=true):bW X (.builtin "sum") (fun xs H Q=>∃(a:Addr) (ns:List Int),xs=[.ref a]/\Rd H a (.lst (ns.map V.int))/\Q (.int (Dm.jL ns)) H):=by
 intro kC s σ H xs us Q I r h;obtain⟨a,ns,rfl,hq,q⟩:=h;obtain⟨u,rfl,rx⟩:=vals1 r;cases rx;obtain⟨z,its,n,rv,e⟩:=hq.ok I.hok;have hl:s.heap.IsList a its.toArray:=⟨_,e,rfl,_,rfl⟩
 have ur:=rv.length;rw[gc]at ur;have hax:a≠s.heap.objs.size:=QX (QA e);refine PySem.call_sum_walkG (wpAny_pyIter_list hl ⟨s.heap.objs.size,_,_,_,_,_,fun i=>ns.getD i 0,rfl,Walks.list (A:=X.A.in1) (I.ok.hd hc) s.heap.objs.size a hax its.toArray,⟨⟨_,QS _ rfl,rfl,rfl⟩,hl.push _⟩,?_,F_ rv,fun h' tk t' hk=>?_⟩)
 ·intro b hb;simp only[Qw,RY,or_false]at hb;rcases hb with rfl | rfl
  ·show s.heap.objs.size<_;exact Sb ..▸Sg _
  ·show b<_;exact Sb ..▸RU (QA e)
 ·have e1:its.toArray.size=ns.length:=by rw[Qy,ur]
  refine⟨.int (Dm.jL ns),H,I.kept (t':=tk) fun b o eb=>hk b o ?_ (PU _ eb),⟨t',?_⟩,q⟩
  ·intro hm;have:b=s.heap.objs.size:=by simpa using hm
   exact absurd (QA eb) (by rw[this];exact RW _)
  ·rw[e1,k_ ns _ (Pz _),List.take_length]
theorem mW:∀{H0:Hp} {us:List V} {ds:List Dm.Dat} {ns:List Int},av H0 us ds->Dm.dR ds=some ns->us=ns.map V.int
 |_,_,_,_,.nil,h=>by cases h;rfl
 |_,_,_,_,.cons (ds:=ds) (d:=d) r rr,h=>by
  cases d with
  |int i=>
   rw[Dm.dR]at h;cases hn:Dm.dR ds with
   |none=>rw[hn]at h;cases h
   |some ms=>rw[hn]at h;cases h;have:=Rep.isInt r;subst this;rw[mW rr hn];rfl
  |_=>cases h
theorem Ga:CallD (fun xs H Q=>∃(a:Addr) (ns:List Int),xs=[.ref a]/\Rd H a (.lst (ns.map V.int))/\Q (.int (Dm.jL ns)) H) Dm.p_:=by
 intro H0 H vs ds z Q s rs e k;unfold Dm.p_ at e;split at e
 ·split at e
  ·rename_i ns hb;cases e;cases rs with
   |cons r rr=>cases rr;obtain⟨a,us,rfl,qa,ra⟩:=bx s r;have:=mW ra hb;subst this;exact⟨a,ns,rfl,qa,k _ H0 H (aI.refl s) (.int _)⟩
  ·cases e
 ·cases e
end
section
variable{X:Cx}{e:Expr}{fs:List Dm.FE}{p pos:Pos}
theorem Kl(hc:X.calm=true)(hg:Gl X "sum")(hm:X.mg "sum" = none)(ha:DA X [e] fs)(he:starEach [e] X.env=[(false,eval e X.env)]:=by rfl)(CI:(backTo pos (starEach [] X.env)).any (·.1)=false:=by rfl):DE X (.Call (.Name "sum" p) [e] [] pos) (Dm.eB Dm.p_ fs):=tL (Aa hc) Ga PyProof.Rows.boot_sum hg hm ha (he:=he) (CI:=CI)
end
structure Gb(K:Dk)(x qual:Str)(st:Stmt)(f:Addr)(fd:FuncData):Prop where
 ex:∃(oc:Value) (od:Option Addr) (dV kV doc pm:Value) (an:Option Addr) (cdv ct:Value) (osl:Array (Option Value)),
  fd=QY x qual (aN st) (aK st) (ai st) dV kV doc pm an cdv ct/\K.lookup f=some ⟨oc,od,.func fd,osl⟩/\Sa K cdv qual=true
 kp:Rw K (.ref f)=true
section
variable{P:Program}{w:World}{K:Dk}{mg:Str->Option Value}{base:Heap}
section
variable{x qual:Str}{st:Stmt}{f:Addr}
theorem Gb.ok{fd:FuncData}{N ps:List Str}{k:Nat}{sp:Sp}(F:Gb K x qual st f fd)(S:aB N ps (ai st))(len:∀vs H Q E,sp vs H Q E->vs.length=ps.length)
  (hbody:∀ (cdv:Value) (A:Around) (outer:List Env) (s:Shared) (H:Hp) (vs:List V) (Q:VK) (E:XK),bg k (A.deeper (envOfC qual (ai st) s.heap.objs.size f cdv))→sp vs H Q E →
   ∃t,PSs (sO CX0 P w K mg base N qual (ai st) f cdv A outer s H E).nox (aK st) t/\t { nx:=fun _ H'=>Q .non H',rt:=Q } (start N vs) H):aW P w K mg base CX0 (k+1) f fd ps sp:=by
 obtain⟨oc,od,dV,kV,doc,pm,an,cdv,ct,osl,rfl,lk,Ij⟩:=F.ex;refine HH lk Ij S len fun A outer s H vs Q E hr hsp=>?_;obtain⟨t,h,q⟩:=hbody cdv A outer s H vs Q E hr hsp;exact⟨t,h.nox,q⟩
theorem Gd{oc:Value}{od an:Option Addr}{osl:Array (Option Value)}{dV kV doc pm cdv ct:Value}(l:K.lookup f=some ⟨oc,od,.func (QY x qual (aN st) (aK st) (ai st) dV kV doc pm an cdv ct),osl⟩)
  (c:Sa K cdv qual=true) (k:Rw K (.ref f)=true):Gb K x qual st f (QY x qual (aN st) (aK st) (ai st) dV kV doc pm an cdv ct):=⟨⟨oc,od,dV,kV,doc,pm,an,cdv,ct,osl,rfl,l,c⟩,k⟩
end
end
end Br
namespace Dm
noncomputable abbrev FN:=Env->List (List Dat)->Option (Env×List (List Dat))
noncomputable def nNx:FN:=fun ρ r=>some (ρ,r)
noncomputable def Ab(s u:FN):FN:=fun ρ r=>match s ρ r with
 |none=>none
 |some (ρ1,r1)=>u ρ1 r1
noncomputable def nIf(t:FT)(a b:FN):FN:=fun ρ r=>match t ρ with
 |none=>none
 |some (true,ρ1)=>a ρ1 r
 |some (false,ρ1)=>b ρ1 r
noncomputable def wB(i e:FE):FN:=fun ρ r=>match i ρ with
 | some (.val (.int k),ρ1)=>(match ixN r.length k with
  |none=>none
  |some m=>match r[m]? with
   |none=>none
   |some row=>match e ρ1 with
    |none=>none
    |some (x,ρ2)=>match tk ρ2 x with
     |none=>none
     |some (d,ρ3)=>if row.length<SZ then some (ρ3,r.set m (row++[d])) else none)
 |_=>none
noncomputable def lg(bd:FB)(body:FN):List Dat->FN
 |[],ρ,r=>some (ρ,r)
 |d::q,ρ,r=>match bd d ρ with
  |none=>none
  |some ρ1=>match body ρ1 r with
   |none=>none
   |some (ρ2,r2)=>lg bd body q ρ2 r2
noncomputable def wC(it:FI)(bd:FB)(body:FN):FN:=fun ρ r=>match it ρ with
 |none=>none
 |some (ds,ρ1)=>lg bd body ds ρ1 r
noncomputable def nMk(bd:FB):List Dat->Env->Option Env
 |[],ρ=>some ρ
 |d::r,ρ=>match bd d ρ with
  |none=>none
  |some ρ1=>nMk bd r ρ1
noncomputable def mX(j:Nat)(it:FI)(own:Nat)(bd:FB)(NU:FN):FS:=fun ρ=>if j=0 then none else match it ρ with
 |none=>none
 | some (ds,ρ1)=>if ds.length≤SZ then (match nMk bd ds (ρ1++Ds own .un) with
  |none=>none
  |some ρ2=>match NU ((ρ2.take ρ1.length).set j .un) (Ds ds.length []) with
   |none=>none
   |some (ρ3,r)=>some (.nx (ρ3.set j (.ow (.lst (r.map .lst)))))) else none
noncomputable def kg:List Dat->Option RV
 |[.dct ks _]=>if ks.length<=63 then some (.new (.lst ((bK (fun a b=>decide (a<b)) ks).map .int))) else none
 |_=>none
noncomputable def tP:List Dat->Option RV
 |[.dct ks vs]=>some (.new (.dct ks vs))
 |_=>none
noncomputable def fJ:List Int->List Dat->Int->List Int
 |k::ks,_::vs,i=>if k=i then fJ ks vs i else k::fJ ks vs i
 |_,_,_=>[]
noncomputable def fK:List Int->List Dat->Int->List Dat
 |k::ks,v::vs,i=>if k=i then fK ks vs i else v::fK ks vs i
 |_,_,_=>[]
noncomputable def mY(i:Nat)(e:FE):FE:=fun ρ=>match ρ[i]? with
 | some (.ow (.dct _ _))=>(match e ρ with
  | some (.val (.int k),ρ1)=>(match ρ1[i]? with
   | some (.ow (.dct ks vs))=>(match bh ks vs k with
    |some d=>some (.val d,ρ1.set i (.ow (.dct (fJ ks vs k) (fK ks vs k))))
    |none=>none)
   |_=>none)
  |_=>none)
 |_=>none
mutual
noncomputable def bD:Dat->Bool
 |.tup xs=>gm xs
 |.lst xs=>gm xs
 |.dct _ _=>false
 |.dcp _ _=>false
 |.exc _=>false
 |.bU _ _=>false
 |_=>true
noncomputable def gm:List Dat->Bool
 |[]=>true
 |x::r=>bD x&&gm r
end
noncomputable def tkd(ρ:Env):Val->Option (Dat×Env)
 |.val d=>some (d,ρ)
 |.new d=>some (d,ρ)
 |.slot i=>match ρ[i]? with
  |some (.ow (.dct ks vs))=>some (.dct ks vs,ρ)
  |some (.ow d)=>some (d,ρ.set i (.sh d))
  |some (.sh d)=>some (d,ρ)
  |_=>none
noncomputable def wD(ρ:Env):List Val->Option (List Dat×Env)
 |[]=>some ([],ρ)
 |x::r=>match tkd ρ x with
  |none=>none
  |some (d,ρ1)=>match wD ρ1 r with
   |none=>none
   |some (ds,ρ2)=>some (d::ds,ρ2)
noncomputable def eFd(f:List Dat->Option RV)(as:List FE):FE:=fun ρ=>match eAs as ρ with
 |none=>none
 |some (xs,ρ1)=>match wD ρ1 xs with
  |none=>none
  |some (ds,ρ2)=>match f ds with
   |none=>none
   |some v=>if bD v.dat then some (v.a_,ρ2) else none
noncomputable def jM:Dat->Dat->Option RV
 |.int i,.int j=>if i.natAbs.log2<1000000/\j.natAbs.log2<1000000 then vI (i*j) else none
 |_,_=>none
noncomputable def ir(lo k:Int)(n:Nat):List Dat:=(QG n).map fun i=>Dat.int (lo+(i:Nat)*k)
noncomputable def cH(i j k:Int):Nat:=if i<j then ((j-i-1) / k+1).toNat else 0
noncomputable def iRs(a b c:FE):FI:=fun ρ=>match a ρ with
 | some (.val (.int i),ρ1)=>(match b ρ1 with
  | some (.val (.int j),ρ2)=>(match c ρ2 with
   |some (.val (.int k),ρ3)=>if (0<k/\k<=1000)/\j<=BIG/\-BIG<=j/\i<=BIG/\-BIG<=i then some (ir i k (cH i j k),ρ3) else none
   |_=>none)
  |_=>none)
 |_=>none
noncomputable def kh:List Val->Option (List Dat)
 |[]=>some []
 |.val d::r=>(kh r).map fun ds=>d::ds
 |_=>none
noncomputable def eFn(f:List Dat->Option (RV×Dat))(e0:FE)(as:List FE):FE:=fun ρ=>match eAs (e0::as) ρ with
 | some (.new d::xs,ρ1)=>(match kh xs with
  |none=>none
  |some ds=>match f (d::ds) with
   |none=>none
   |some (v,_)=>some (v.a_,ρ1))
 |_=>none
end Dm
namespace Br
open PySem PySem.Spec PyProof.Rows L2
section
variable{H0 H:Hp}{rows:List (List Dm.Dat)}{ps:List Addr}{H0s Hs:Hp}{ρs:Dm.Env}{σs:L2.St}{ρ ρ':Dm.Env}{j:Nat}{σ:L2.St}{b:Addr}
def aT(H0 H:Hp):List Addr->List (List Dm.Dat)->Prop
 |[],[]=>True
 |p::ps,r::rs=>(∃xs,H p=some (.lst xs)/\av H0 xs r)/\aT H0 H ps rs
 |_,_=>False
theorem aT.len:∀{ps:List Addr} {rs:List (List Dm.Dat)},aT H0 H ps rs->ps.length=rs.length
 |[],[],_=>rfl
 |_::_,_::_,h=>by simp[aT.len h.2]
theorem aT.get:∀{ps:List Addr} {rs:List (List Dm.Dat)} {i:Nat} {r:List Dm.Dat},aT H0 H ps rs->rs[i]?=some r->∃p xs,ps[i]?=some p/\H p=some (.lst xs)/\av H0 xs r
 |[],[],_,_,_,e=>by simp at e
 |p::_,_::_,0,_,h,e=>by simp at e;subst e;obtain⟨xs,h1,h2⟩:=h.1;exact⟨p,xs,rfl,h1,h2⟩
 |_::_,_::_,i+1,_,h,e=>by obtain⟨p,xs,h1,h2⟩:=aT.get (i:=i) h.2 (by simpa using e);exact⟨p,xs,by simpa using h1,h2⟩
theorem aT.mono{H0 H H0' H':Hp}:∀{ps:List Addr} {rs:List (List Dm.Dat)},aT H0 H ps rs->ak H0 H0'->(∀p∈ps,H' p=H p)->aT H0' H' ps rs
 |[],[],_,_,_=>trivial
 |p::ps,r::rs,h,s,k=>by obtain⟨⟨xs,h1,h2⟩,h3⟩:=h;exact⟨⟨xs,by rw[k p gV];exact h1,h2.mono s⟩,aT.mono h3 s fun q hq=>k q (Pa _ hq)⟩
theorem aT.set{p:Addr}{xs:List V}{r:List Dm.Dat}(w:av H0 xs r):∀{ps:List Addr} {rs:List (List Dm.Dat)} {i:Nat},aT H0 H ps rs->ps.Nodup->ps[i]?=some p->aT H0 (upd H p (.lst xs)) ps (rs.set i r)
 |[],[],_,_,_,e=>by simp at e
 |q::ps,_::rs,0,h,n,e=>by simp at e;subst e;refine⟨⟨xs,au,w⟩,h.2.mono (ak.refl _) fun y hy=>aA fun z=>?_⟩;subst z;exact(QB.mp n).1 hy
 |q::ps,_::rs,i+1,h,n,e=>by
  have e':ps[i]?=some p:=by simpa using e
  obtain⟨⟨ys,h1,h2⟩,h3⟩:=h;obtain⟨n1,n2⟩:=QB.mp n;refine⟨⟨ys,?_,h2⟩,aT.set w h3 n2 e'⟩;rw[aA fun z=>?_]
  ·exact h1
  ·subst z;exact n1 (R9 e')
theorem aT.some:∀{ps:List Addr} {rs:List (List Dm.Dat)},aT H0 H ps rs->∀p∈ps,∃o,H p=some o
 |[],[],_,_,h=>by cases h
 |q::ps,_::rs,h,p,hp=>by
  rcases Qw.mp hp with rfl | hp
  ·obtain⟨xs,h1,_⟩:=h.1;exact⟨_,h1⟩
  ·exact aT.some h.2 p hp
structure NS(j:Nat)(σs:L2.St)(ρs:Dm.Env)(H0s Hs:Hp)(σ:L2.St)(ρ:Dm.Env)(H0 H:Hp)(rows:List (List Dm.Dat)):Prop where
 st:ay H0 H σ ρ
 stp:Stp (aj σs ρs) H0s Hs H0 H
 own:∀a,aj σ ρ a->aj σs ρs a\/Hs a=none
 fx:σ[0]?=σs[0]?
 ex:∃(L:Addr) (ps:List Addr),σ[j]?=some (some (.ref L))/\Hs L=none/\H0 L=none/\¬aj σ ρ L/\H L=some (.lst (ps.map V.ref))/\(L::ps).Nodup/\(∀p∈ps,Hs p=none/\H0 p=none/\¬aj σ ρ p)/\aT H0 H ps rows
theorem NS.est{H0 H H0' H':Hp}(n:NS j σs ρs H0s Hs σ ρ H0 H rows)(t:ESt σ ρ H0 H ρ' H0' H'):NS j σs ρs H0s Hs σ ρ' H0' H' rows:=by
 obtain⟨L,ps,h1,h2,h3,h4,h5,h6,h7,h8⟩:=n.ex;obtain⟨k1,k2,k3⟩:=t.cR h5 h3 h4;refine⟨t.st,n.stp.trans t.stp n.own,fun a z=>n.own a (t.own a z),n.fx,L,ps,h1,h2,k2,k3,k1,h6,fun p hp=>?_,h8.mono t.stp.s0 fun p hp=>?_⟩
 ·obtain⟨q1,q2,q3⟩:=h7 p hp;obtain⟨o,q4⟩:=h8.some p hp;obtain⟨z1,z2,z3⟩:=t.cR q4 q2 q3;exact⟨q1,z2,z3⟩
 ·obtain⟨q1,q2,q3⟩:=h7 p hp;obtain⟨o,q4⟩:=h8.some p hp;obtain⟨z1,z2,z3⟩:=t.cR q4 q2 q3;rw[z1,q4]
theorem NS.bind{σ σ':L2.St}(n:NS j σs ρs H0s Hs σ ρ H0 H rows)(st:ay H0 H σ' ρ')(o:∀a,aj σ' ρ' a->aj σ ρ a)(hj:σ'[j]?=σ[j]?)(h0:σ'[0]?=σ[0]?):NS j σs ρs H0s Hs σ' ρ' H0 H rows:=by obtain⟨L,ps,h1,h2,h3,h4,h5,h6,h7,h8⟩:=n.ex;exact⟨st,n.stp,fun a z=>n.own a (o a z),h0.trans n.fx,L,ps,hj.trans h1,h2,h3,fun z=>h4 (o L z),h5,h6,fun p hp=>⟨(h7 p hp).1,(h7 p hp).2.1,fun z=>(h7 p hp).2.2 (o p z)⟩,h8⟩
noncomputable def tQ(H0 H:Hp)(ps:List Addr):Hp:=fun b=>if b∈ps then H b else H0 b
theorem rC(h:b∈ps):tQ H0 H ps b=H b:=by unfold tQ;rw[if_pos h]
theorem gq(h:b∉ps):tQ H0 H ps b=H0 b:=by unfold tQ;rw[if_neg h]
theorem Ac(s:ak H0 H):ak H0 (tQ H0 H ps):=fun b o e=>by
 by_cases q:b∈ps
 ·rw[rC q];exact s _ _ e
 ·rw[gq q];exact e
theorem B7(s:ak H0 H):ak (tQ H0 H ps) H:=fun b o e=>by
 by_cases q:b∈ps
 ·rw[rC q]at e;exact e
 ·rw[gq q]at e;exact s _ _ e
theorem aT.reps{H0 H H1:Hp}:∀{ps:List Addr} {rs:List (List Dm.Dat)},aT H0 H ps rs->ak H0 H1->(∀p∈ps,H1 p=H p)->av H1 (ps.map V.ref) (rs.map Dm.Dat.lst)
 |[],[],_,_,_=>.nil
 |p::ps,r::rs,h,s,k=>by obtain⟨⟨xs,h1,h2⟩,h3⟩:=h;exact .cons (.lst (.inl ((k p gV).trans h1)) (h2.mono s)) (aT.reps h3 s fun q hq=>k q (Pa _ hq))
theorem NS.done{ρ:Dm.Env}(n:NS j σs ρs H0s Hs σ ρ H0 H rows):∃H0',SSt σs ρs H0s Hs σ (ρ.set j (.ow (.lst (rows.map Dm.Dat.lst)))) H0' H:=by
 obtain⟨L,ps,h1,h2,h3,h4,h5,h6,h7,h8⟩:=n.ex;obtain⟨n1,n2⟩:=QB.mp h6;have ss:=Ac (ps:=ps) n.st.same;have st:ay (tQ H0 H ps) H σ ρ:={
  same:=B7 n.st.same
  len:=n.st.len
  sh:=fun i d h=>by obtain⟨v,z,r⟩:=n.st.sh i d h;exact⟨v,z,r.mono ss⟩
  ow:=fun i d h=>by obtain⟨b,z,q,w⟩:=n.st.ow i d h;have nb:b∉ps:=fun y=>(h7 b y).2.2 ⟨i,d,h,z⟩;exact⟨b,z,by rw[gq nb];exact q,w.mono ss rfl⟩
  dis:=n.st.dis }
 refine⟨tQ H0 H ps,st.kc h1 h4 (by rw[gq n1];exact h3) ⟨_,h5,h8.reps ss fun p hp=>rC hp⟩,⟨n.stp.s0.trans ss,n.stp.s1,fun a o e=>?_,n.stp.s3⟩,fun a z=>?_,n.fx⟩
 ·by_cases q:a∈ps
  ·exact .inl (h7 a q).1
  ·rw[gq q]at e;exact n.stp.s2 a o e
 ·obtain⟨i,d,z1,z2⟩:=z;by_cases q:j=i
  ·subst q;rw[h1]at z2;cases z2;exact .inr h2
  ·rw[eg q]at z1;exact n.own a ⟨i,d,z1,z2⟩
def tDN(j:Nat)(f:Dm.FN):TS:=fun D σ H=>∃σs ρs H0s Hs H0 ρ rows ρ' rows',NS j σs ρs H0s Hs σ ρ H0 H rows/\f ρ rows=some (ρ',rows')/\∀σ' H0' H',NS j σs ρs H0s Hs σ' ρ' H0' H' rows'->ak H0 H0'->D.nx σ' H'
end
section
variable{D:Ends}{σ:L2.St}{H:Hp}{j:Nat}
theorem Nr(h:tDN j Dm.nNx D σ H):xW D σ H:=by obtain⟨σs,ρs,H0s,Hs,H0,ρ,rows,ρ',rows',n,e,k⟩:=h;cases e;exact k σ H0 H n (ak.refl _)
theorem Km{s u:Dm.FN}(h:tDN j (Dm.Ab s u) D σ H):o9 (tDN j s) (tDN j u) D σ H:=by
 obtain⟨σs,ρs,H0s,Hs,H0,ρ,rows,ρ',rows',n,e,k⟩:=h;unfold Dm.Ab at e;split at e
 ·cases e
 rename_i ρ1 r1 e1;exact⟨σs,ρs,H0s,Hs,H0,ρ,rows,ρ1,r1,n,e1,fun σ' H0' H' n' s1=>⟨σs,ρs,H0s,Hs,H0',ρ1,r1,ρ',rows',n',e,fun σ2 H2 Hc n2 s2=>k σ2 H2 Hc n2 (s1.trans s2)⟩⟩
theorem Nt{t:Dm.FT}{a b:Dm.FN}(h:tDN j (Dm.nIf t a b) D σ H):AO (tDT t) (tDN j a) (tDN j b) D σ H:=by
 obtain⟨σs,ρs,H0s,Hs,H0,ρ,rows,ρ',rows',n,e,k⟩:=h;unfold Dm.nIf at e;split at e
 ·cases e
 ·rename_i ρ1 e1;refine⟨H0,ρ,true,ρ1,n.st,e1,fun H1 Hb t1=>?_⟩;dsimp only;rw[if_pos rfl];exact⟨σs,ρs,H0s,Hs,H1,ρ1,rows,ρ',rows',n.est t1,e,fun σ2 H2 Hc n2 s2=>k σ2 H2 Hc n2 (t1.stp.s0.trans s2)⟩
 ·rename_i ρ1 e1;refine⟨H0,ρ,false,ρ1,n.st,e1,fun H1 Hb t1=>?_⟩;dsimp only;rw[if_neg Q0];exact⟨σs,ρs,H0s,Hs,H1,ρ1,rows,ρ',rows',n.est t1,e,fun σ2 H2 Hc n2 s2=>k σ2 H2 Hc n2 (t1.stp.s0.trans s2)⟩
theorem Kn{fi:Dm.FI}{bd:Dm.FB}{g:TG}{body:Dm.FN}{is:List Nat}(hb:BD is g bd)(hj:j∉is)(h:tDN j (Dm.wC fi bd body) D σ H):Jo (tDI fi) g (tDN j body) D σ H:=by
 obtain⟨σs,ρs,H0s,Hs,H0,ρ,rows,ρ',rows',n,e,k⟩:=h;unfold Dm.wC at e;split at e
 ·cases e
 rename_i ys ρ1 e1;refine⟨H0,ρ,ys,ρ1,n.st,e1,fun J H00 Hb t1 jw=>?_⟩;refine ⟨fun i m σ H=>∃ H0 ρ rows,NS j σs ρs H0s Hs σ ρ H0 H rows∧ak H00 H0∧m=ys.length-i∧i≤ys.length∧Dm.lg bd body (ys.drop i) ρ rows=some (ρ',rows'),
  ⟨ys.length,H00,ρ1,rows,n.est t1,ak.refl _,by simp,Q4 _,by simpa using e⟩,?_⟩
 rintro i m σ H ⟨H0,ρ,rows,n,s00,rfl,hi,e⟩;obtain⟨js,jg⟩:=jw H0 H s00 n.st.same;by_cases CK:i<ys.length
 ·have hd:ys[i]?=some ys[i]:=by simp[CK]
  obtain⟨g1,g2⟩:=jg i ys[i] hd;rw[RO CK]at e;unfold Dm.lg at e;refine .inr ⟨g1,fun σ' H'=>∃H0 ρ rows,NS j σs ρs H0s Hs σ' ρ H0 H' rows/\ak H00 H0/\Dm.lg bd body (ys.drop (i+1)) ρ rows=some (ρ',rows'),?_,fun x H' y=>?_⟩
  ·rintro σ' H' ⟨H0',ρ2,r2,h1,h2,h3⟩;exact⟨ys.length-(i+1),by lia,H0',ρ2,r2,h1,h2,rfl,CK,h3⟩
  ·obtain⟨H0',gr,rx⟩:=g2 x H' y;split at e
   ·cases e
   ·rename_i ρ2 e2;have t2:=ESt.grow n.st gr;have n2:=n.est t2;refine hb H0' H' σ ρ ρ2 x ys[i] _ t2.st rx e2 fun σ2 st2 o2 k2 _ f2=>?_;have n3:=n2.bind st2 o2 (k2 j hj) f2;have s3:ak H00 H0':=s00.trans gr.s0;split at e
    ·cases e
    ·rename_i ρ3 r3 e3;refine⟨σs,ρs,H0s,Hs,H0',ρ2,rows,ρ3,r3,n3,e3,fun σ4 H4 Hd n4 s4=>⟨H4,ρ3,r3,n4,s3.trans s4,e⟩⟩
 ·have e':i=ys.length:=by lia
  subst e';rw[SE]at e;cases e;exact .inl ⟨js _ (Pz _),k σ H0 H n (t1.stp.s0.trans s00)⟩
theorem Ko{K:Dk}{fi f:Dm.FE}(h:tDN j (Dm.wB fi f) D σ H):pQ (tBM K "list" lR (tOp (A9 K) (l8 j) (tD fi)) (tDA [f])) D σ H:=by
 obtain⟨σs,ρs,H0s,Hs,H0,ρ,rows,ρ',rows',n,e,k⟩:=h;unfold Dm.wB at e;split at e
 case h_2=>cases e
 rename_i z ρ1 e1;split at e
 ·cases e
 rename_i m em;split at e
 ·cases e
 rename_i row er;split at e
 ·cases e
 rename_i x ρ2 e2;split at e
 ·cases e
 rename_i d ρ3 e3;split at e
 case isFalse=>cases e
 rename_i hz;cases e;obtain⟨L,ps0,h1,_⟩:=n.ex;refine⟨_,h1,H0,ρ,_,ρ1,n.st,e1,fun y H1 Hb t1 r1=>?_⟩;have n1:=n.est t1;obtain⟨L',ps,q1,q2,q3,q4,q5,q6,q7,q8⟩:=n1.ex;rw[h1]at q1;cases q1;obtain⟨q,xs,hq,hqx,hqr⟩:=q8.get er;have hqm:q∈ps:=R9 hq;refine⟨L,ps.map V.ref,z,V.ref q,rfl,Rep.isInt r1,.inl (.inl q5),?_,.inl ⟨rfl,xs,.inl (.inl hqx)⟩,?_⟩
 ·show (L2.ixN (ps.map V.ref).length z).bind (fun j=>(ps.map V.ref)[j]?)=_;rw[gc,q8.len,<- v9,em];show (ps.map V.ref)[m]?=_;rw[QL,hq];rfl
 refine⟨H1,ρ1,[x],ρ2,n1.st,by unfold Dm.eAs;rw[e2];rfl,fun vs H2 Hc t2 r2=>?_⟩;cases r2 with
 |cons r rr=>
  cases rr;obtain⟨H3,t3,b3,r3,_,_⟩:=take1 t2 (ak.refl _) r e3;have n3:=n1.est t3;obtain⟨L',ps',w1,w2,w3,w4,w5,w6,w7,w8⟩:=n3.ex;rw[h1]at w1;cases w1;obtain⟨k1,_,_⟩:=t3.cR q5 q3 q4;rw[k1]at w5;have ep:ps'=ps:=by
   have:ps.map V.ref=ps'.map V.ref:=by injection w5 with z;injection z
   exact((List.map_inj_right fun a b h=>by injection h).mp this).symm
  subst ep;obtain⟨q',ys,hq',hqy,Nu⟩:=w8.get er;rw[hq]at hq';cases hq';have nL:L≠q:=fun z=>(QB.mp w6).1 (z▸hqm);refine⟨q,ys,_,rfl,rfl,hqy,by rw[Nu.length];exact QM hz (by decide),?_⟩;obtain⟨z1,z2,z3⟩:=w7 q hqm;refine k σ H3 _ ⟨n3.st.aside z2 z3,n3.stp.aside z1,n3.own,n3.fx,L,ps',h1,w2,w3,w4,by rw[aA nL];exact k1,w6,w7,aT.set (Nu.append (.cons r3 .nil)) w8 (QB.mp w6).2 hq⟩ (t1.stp.s0.trans t3.stp.s0)
end
section
variable{bd:Dm.FB}{is:List Nat}{NU:Dm.FN}{j own:Nat}{ρ:Dm.Env}{fi:Dm.FI}{σ:L2.St}{g:TG}
theorem B8{own:Nat}{Q:VK}{H00 Hb:Hp}{ρ1 ρ2:Dm.Env}{ds:List Dm.Dat}{J:It}(hb:BD is g bd)(hl:∀i∈is,σ.length<=i)
  (st1:ay H00 Hb σ ρ1) (jw:JW J H00 ds) (hsz:ds.length<=Dm.SZ) (e2:Dm.nMk bd ds (ρ1++Ds own .un)=some ρ2) (D:Addr) (hD:Hb D=none)
  (k:∀ H0' H' (ps:List Addr),ay H0' H' σ (ρ2.take ρ1.length)→Stp (aj σ ρ1) H00 Hb H0' H'→(∀ a,aj σ (ρ2.take ρ1.length) a→aj σ ρ1 a)→H' D=some (.lst (ps.map V.ref))→H0' D=none→(D::ps).Nodup→(∀ p∈ps,Hb p=none∧H0' p=none) →
   aT H0' H' ps (Ds ds.length [])->Q (.ref D) H') :
  ∃W:Nat->Nat->L2.St->Hp->Prop,(∃m,W 0 m (σ++Ds own none) (upd Hb D (.lst [])))/\∀i m σ' H',W i m σ' H' ->
  (J.stop i H'∧Q (.ref D) H')∨(J.go i H'∧∀ x H2,J.yld i H' x H2→g x σ' H2 fun σ2 H3=>wg σ2 H3 fun b H4=>if b=true
   then Fi qL σ2 H4 fun y H5=>∃pI,H5 D=some (.lst pI)/\pI.length<sizeLine/\∃m',m'<m/\W (i+1) m' σ2 (upd H5 D (.lst (pI++[y])))
   else ∃m',m'<m/\W (i+1) m' σ2 H4):=by
 have noD:¬aj σ ρ1 D:=st1.bH hD;refine ⟨fun i m σ' H'=>∃ (H0c:Hp) (ρc:Dm.Env) (ps:List Addr),ay H0c H' σ' ρc∧ak H00 H0c∧m=ds.length-i∧i≤ds.length∧Dm.nMk bd (ds.drop i) ρc=some ρ2 ∧
  H' D=some (.lst (ps.map V.ref))/\ps.length=i/\H0c D=none/\(D::ps).Nodup/\(∀p∈ps,Hb p=none/\H0c p=none)/\aT H0c H' ps (Ds i [])/\Stp (aj σ ρ1) H00 Hb H0c H'/\(∀j,j<σ.length->σ'[j]?=σ[j]?)/\(∀a,aj σ' ρc a->aj σ ρ1 a),
  ⟨ds.length,H00,ρ1++Ds own .un,[],(st1.aside (st1.same.free hD) noD).ext own,ak.refl _,by simp,Q4 _,by simpa using e2,au,rfl,st1.same.free hD,by simp,by simp,trivial,(Stp.refl _ _ _).aside hD,
   fun j hj=>QI hj,fun a z=>fm st1 z⟩,?_⟩
 rintro i m σ' H' ⟨H0c,ρc,ps,sc,s00,rfl,hi,ec,hDl,CI,n0,nd,hps,hro,sp,hσ,ho⟩;have nOc:¬aj σ' ρc D:=fun z=>noD (ho D z);have nOp:∀p∈ps,¬aj σ' ρc p:=fun p hp z=>st1.bH (hps p hp).1 (ho p z);obtain⟨js,jg⟩:=jw H0c H' s00 sc.same;by_cases CK:i<ds.length
 ·have hd:ds[i]?=some ds[i]:=by simp[CK]
  obtain⟨g1,g2⟩:=jg i ds[i] hd;rw[RO CK]at ec;unfold Dm.nMk at ec;refine .inr ⟨g1,fun y H2 yy=>?_⟩;obtain⟨H0',gr,rx⟩:=g2 y H2 yy;split at ec
  ·cases ec
  rename_i ρ3 e3;have t2:=ESt.grow sc gr;obtain⟨hD2,n02,no2⟩:=t2.cR hDl n0 nOc;refine hb H0' H2 σ' ρc ρ3 y ds[i] _ t2.st rx e3 fun σ3 st3 o3 k3 d3 _=>?_;unfold wg;dsimp only;rw[if_pos rfl];refine⟨Q4 _,fun p hp=>?_⟩;have hpD:p≠D:=fun z=>by rw[z,hD2]at hp;cases hp
  have noP:¬aj σ3 ρ3 p:=st3.bH hp;have Nv:∀q∈ps,q≠p:=fun q hq z=>by obtain⟨o,h1⟩:=hro.some q hq;have:=gr.s1 q o h1;rw[z,hp]at this;cases this
  refine⟨ps.map V.ref,by rw[aA (Ne.symm hpD)];exact hD2,?_,ds.length-(i+1),by lia,H0',ρ3,ps++[p],?_,s00.trans gr.s0,rfl,CK,ec,?_,by simp[CI],n02,?_,?_,?_,?_,?_,?_⟩
  ·rw[gc,CI];unfold Dm.SZ at hsz;exact QM (QM CK hsz) (by decide)
  ·have no3:¬aj σ3 ρ3 D:=fun z=>no2 (o3 D z);exact(st3.aside (st3.same.free hp) noP).aside n02 no3
  ·rw[au,QK];rfl
  ·rw[<- RZ];refine Rj.mpr ⟨nd,by simp,fun a ha b hb=>?_⟩;rw[QN.mp hb];rcases Qw.mp ha with rfl | ha
   ·exact Ne.symm hpD
   ·exact Nv a ha
  ·intro q hq;rcases QE.mp hq with hq | hq
   ·refine⟨(hps q hq).1,?_⟩;obtain⟨o,h1⟩:=hro.some q hq;exact(t2.cR h1 (hps q hq).2 (nOp q hq)).2.1
   ·rw[QN.mp hq];exact⟨(sp.trans t2.stp fun a z=>.inl (ho a z)).gone hp,st3.same.free hp⟩
  ·have base:aT H0' (upd (upd H2 p (.lst [])) D (.lst (ps.map V.ref++[V.ref p]))) ps (Ds i []):=hro.mono gr.s0 fun q hq=>by
    have hqD:q≠D:=fun z=>(QB.mp nd).1 (z▸hq);obtain⟨o,h1⟩:=hro.some q hq;rw[aA hqD,aA (Nv q hq),gr.s1 q o h1,h1]
   have app:∀{H0 H:Hp} {ps:List Addr} {rs:List (List Dm.Dat)} {p:Addr},aT H0 H ps rs->H p=some (.lst [])->aT H0 H (ps++[p]) (rs++[[]]):=by
    intro H0 H ps rs p h1 h2
    induction ps generalizing rs with
    |nil=>cases rs with
     |nil=>exact⟨⟨[],h2,.nil⟩,trivial⟩
     |cons _ _=>exact h1.elim
    |cons q ps ih=>cases rs with
     |nil=>exact h1.elim
     |cons r rs=>exact⟨h1.1,ih h1.2⟩
   have:=app base (p:=p) (by rw[aA hpD,au]);rw[List.replicate_succ'];exact this
  ·exact((sp.trans t2.stp fun a z=>.inl (ho a z)).aside ((sp.trans t2.stp fun a z=>.inl (ho a z)).gone hp)).aside hD
  ·exact fun j hj=>(k3 j fun z=>RS.mpr (hl j z) hj).trans (hσ j hj)
  ·exact fun a z=>ho a (o3 a z)
 ·have e':i=ds.length:=by lia
  subst e';rw[SE]at ec;cases ec;refine .inl ⟨js _ (Pz _),k H0c H' ps ?_ sp ?_ hDl n0 nd hps hro⟩
  all_goals
   have ur:σ.length<=ρ2.length:=by rw[<- sc.len];refine RS.mp fun z=>?_;have q:=hσ σ'.length z;rw[Q6 (Pz _),Qz z]at q;cases q
   have tk:∀{j:Nat} {c:Dm.Cell},(ρ2.take ρ1.length)[j]?=some c->j<σ.length/\ρ2[j]?=some c:=fun {j c} h=>by
    have hj:j<ρ1.length:=by
     have:=(Qx.mp h).1;rw[Rl]at this
     lia
    rw[RQ hj]at h;exact⟨by rw[st1.len];exact hj,h⟩
  ·refine⟨sc.same,?_,fun j d h=>?_,fun j d h=>?_,fun j j' d d' a h1 h2 h3 h4=>?_⟩
   ·rw[Rl,<- st1.len];lia
   ·obtain⟨hj,h⟩:=tk h;obtain⟨v,q,r⟩:=sc.sh j d h;exact⟨v,(hσ j hj).symm.trans q,r⟩
   ·obtain⟨hj,h⟩:=tk h;obtain⟨v,q,r⟩:=sc.ow j d h;exact⟨v,(hσ j hj).symm.trans q,r⟩
   ·obtain⟨hj,h1⟩:=tk h1;obtain⟨hj',h2⟩:=tk h2;exact sc.dis j j' d d' a h1 h2 ((hσ j hj).trans h3) ((hσ j' hj').trans h4)
  ·intro a ⟨j,d,h1,h2⟩;obtain⟨hj,h1⟩:=tk h1;exact ho a ⟨j,d,h1,(hσ j hj).trans h2⟩
theorem qc{z:Dm.Out}(q:Dm.mX j fi own bd NU ρ=some z):∃ds ρ1 ρ2 ρ3 r3,j≠0/\fi ρ=some (ds,ρ1)/\ds.length<=Dm.SZ/\Dm.nMk bd ds (ρ1++Ds own .un)=some ρ2 /\
  NU ((ρ2.take ρ1.length).set j .un) (Ds ds.length [])=some (ρ3,r3)/\z=.nx (ρ3.set j (.ow (.lst (r3.map .lst)))):=by
 unfold Dm.mX at q;split at q
 ·cases q
 rename_i hj0;split at q
 ·cases q
 rename_i ds ρ1 e1;split at q
 case isFalse=>cases q
 rename_i hsz;split at q
 ·cases q
 rename_i ρ2 e2;split at q
 ·cases q
 rename_i ρ3 r3 e3;cases q;exact⟨ds,ρ1,ρ2,ρ3,r3,hj0,e1,hsz,e2,e3,rfl⟩
theorem Ge{s u:Dm.FS}{o:Dm.Out}(hs:∀z,s ρ=some z->∃ρ',z=.nx ρ')(e:Dm.aq s u ρ=some o):∃ρ1,s ρ=some (.nx ρ1)/\u ρ1=some o:=by
 cases q:s ρ with
 |none=>unfold Dm.aq at e;rw[q]at e;cases e
 |some z=>obtain⟨ρ1,rfl⟩:=hs z q;unfold Dm.aq at e;rw[q]at e;exact⟨ρ1,rfl,e⟩
theorem Kp{H:Hp}{D:Ends}{gs:Dm.FS}(hb:BD is g bd)(hl:∀i∈is,σ.length<=i)(hj:j<σ.length)(h:tDS (Dm.aq (Dm.mX j fi own bd NU) gs) D σ H) :
  o9 (l_ (tLC (tDI fi) own g wg (Fi qL)) (fS j)) (o9 (tDN j NU) (tDS gs)) D σ H:=by
 obtain⟨H0,ρ,o,st,e,k⟩:=h;obtain⟨ρ9,e9,e⟩:=Ge (fun z q=>by obtain⟨_,_,_,_,_,_,_,_,_,_,z⟩:=qc q;exact⟨_,z⟩) e;obtain⟨ds,ρ1,ρ2,ρ3,r3,hj0,e1,hsz,e2,e3,z9⟩:=qc e9;cases z9;refine⟨H0,ρ,ds,ρ1,st,e1,fun J H00 Hb t1 jw L hL=>B8 (Q:=fun x H1=>fS j x σ H1 (o9 (tDN j NU) (tDS gs) D)) hb hl t1.st jw hsz e2 L hL fun H0' H' ps st' sp' ho' hDl n0 nd hps hro=>?_⟩;have nL:¬aj σ ρ1 L:=t1.st.bH hL;have om:∀a,aj (σ.set j (some (.ref L))) ((ρ2.take ρ1.length).set j .un) a->aj σ (ρ2.take ρ1.length) a:=fun a ⟨i,d,h1,h2⟩=>by
  rcases aD h1 with⟨_,z⟩ | ⟨hij,h1⟩
  ·cases z
  ·rw[eg (Ne.symm hij)]at h2;exact⟨i,d,h1,h2⟩
 have st2:ay H0' H' (σ.set j (some (.ref L))) ((ρ2.take ρ1.length).set j .un):={
  same:=st'.same
  len:=by rw[QU,QU];exact st'.len
  sh:=fun i d h=>by
   rcases aD h with⟨_,z⟩ | ⟨hij,h⟩
   ·cases z
   ·obtain⟨v,q,r⟩:=st'.sh i d h;exact⟨v,by rw[eg (Ne.symm hij)];exact q,r⟩
  ow:=fun i d h=>by
   rcases aD h with⟨_,z⟩ | ⟨hij,h⟩
   ·cases z
   ·obtain⟨v,q,r⟩:=st'.ow i d h;exact⟨v,by rw[eg (Ne.symm hij)];exact q,r⟩
  dis:=fun i i' d d' a h1 h2 h3 h4=>by
   rcases aD h1 with⟨_,z⟩ | ⟨q1,h1⟩
   ·cases z
   rcases aD h2 with⟨_,z⟩ | ⟨q2,h2⟩
   ·cases z
   rw[eg (Ne.symm q1)]at h3;rw[eg (Ne.symm q2)]at h4;exact st'.dis i i' d d' a h1 h2 h3 h4 }
 have sp:Stp (aj σ ρ) H0 H H0' H':=t1.stp.trans sp' fun a z=>.inl (t1.own a z);have n:NS j σ ρ H0 H (σ.set j (some (.ref L))) ((ρ2.take ρ1.length).set j .un) H0' H' (Ds ds.length []):=
  ⟨st2,sp,fun a z=>.inl (t1.own a (ho' a (om a z))),eg hj0,L,ps,QZ hj,t1.stp.gone hL,n0,fun z=>nL (ho' L (om L z)),hDl,nd,fun p hp=>⟨t1.stp.gone (hps p hp).1,(hps p hp).2,fun z=>t1.st.bH (hps p hp).1 (ho' p (om p z))⟩,hro⟩
 refine⟨σ,ρ,H0,H,H0',_,_,ρ3,r3,n,e3,fun σ4 H4 Hd n4 _=>?_⟩;obtain⟨H5,t5⟩:=n4.done;exact⟨H5,_,o,t5.st,e,k.pre t5⟩
noncomputable abbrev DN(X:Cx)(j:Nat)(st:Stmt)(f:Dm.FN):Prop:=PS X st (tDN j f)
noncomputable abbrev DNs(X:Cx)(j:Nat)(st:List Stmt)(f:Dm.FN):Prop:=PSs X st (tDN j f)
end
section
variable{X:Cx}{st:Stmt}{CJ:List Stmt}{fs gs:Dm.FN}{e c:Expr}{f:Dm.FE}{pos:Pos}{j:Nat}
section
variable{is:List Nat}{bd:Dm.FB}{fi:Dm.FI}
theorem Nx:DNs X j [] Dm.nNx:=PSs.weak qJ fun _ _ _=>Nr
theorem Kq(h1:DN X j st fs)(h2:DNs X j CJ gs):DNs X j (st::CJ) (Dm.Ab fs gs):=PSs.weak (cO h1 h2) fun _ _ _=>Km
theorem HZ(h1:DN X j st fs):DNs X j [st] fs:=xX h1
theorem Px{t:Dm.FT}{x y:List Stmt}(ht:DT X c t)(ha:DNs X j x fs)(hb:DNs X j y gs):DN X j (.If c x y pos) (Dm.nIf t fs gs):=PS.weak (xY ht ha hb) fun _ _ _=>Nt
theorem Ny{tg it:Expr}{body:List Stmt}(hp:PassesOwn (model X.prog X.w) X.A X.env X.xe)(hc:X.calm=true)(hi:DI X tg it fi)(hg:TG' X tg is bd)(hb:DNs X j body fs)(hj:decide (j∈is)=false:=by rfl)
  (hs:∀x,foldedSetIterable it X.env x=pure x:=by intro _;rfl):DN X j (.For tg it body [] pos) (Dm.wC fi bd fs):=by
 obtain⟨g,h1,h2⟩:=hg.ex;exact PS.weak (AY hp hc hi h1 hb hs) fun _ _ _=>Kn h2 (of_decide_eq_false hj)
theorem H_{x:Str}{i:Expr}{fi:Dm.FE}{px sp ap cp:Pos}(hi':DE X i fi)(he:DE X e f)(hi:X.N[j]?=some x:=by rfl)(hv:Vis X.env.scope x:=by trivial)(hd:(x == ("__debug__" : Str))=false:=by decide)
  (Ij:(x == ("__classdict__" : Str))=false:=by decide) (CI:jt i:=by intro _ _;rfl) (Gz:attributeBase (.Subscript (.Name x px) i sp) "append" X.env (eval (.Subscript (.Name x px) i sp) X.env)=eval (.Subscript (.Name x px) i sp) X.env:=by rfl)
  (hfew:((backTo cp (starEach [e] X.env)).all (fun x=>!x.1)&&(backToKw cp (keywordEach [] X.env)).all (fun x=>x.1.isSome)
   && decide ([e].length+([]:List Keyword).length+(if ([]:List Keyword).isEmpty then 0 else 1)<30))=true:=by rfl)
  (Fd:(ap.endLine == cp.line)=true:=by rfl) (hs:starEach [e] X.env=(false,eval e X.env)::starEach [] X.env:=by rfl) (CW:(backTo cp (starEach [] X.env)).any (·.1)=false:=by rfl)
  (hsw:swapsWith (.Call (.Attribute (.Subscript (.Name x px) i sp) "append" ap) [e] [] cp) none pos.line X.env=pure false:=by rfl) :
  DN X j (.Expr (.Call (.Attribute (.Subscript (.Name x px) i sp) "append" ap) [e] [] cp) pos) (Dm.wB fi f):=
 PS.weak (jl (sS RX SR SS gH (yd lQ (eK hi hv hd Ij) hi' CI) (aa he af hs) Gz hfew Fd hs CW) hsw) fun _ _ _=>Ko
theorem Kr(j:Nat)(nm own:List Str){y:Str}{py GQ Ks:Pos}{tg iter:Expr}{scope:Scope}{NU:Dm.FN}{gs:Dm.FS}{lst:Stmt}(hN:X.N.Nodup)(hg:TGc X nm scope own tg is bd)(hi:DI X tg iter fi)(hlp:DN X j lst NU)(hre:DSs X CJ gs)
  (hc:X.calm=true:=by rfl) (hk:scope.kind=.function:=by rfl) (hS:k8 X.env.scope X.N nm scope=true:=by rfl) (hl:(is.all fun i=>decide (X.N.length<=i))=true:=by rfl) (hj:X.N[j]?=some y:=by rfl) (hy:Loc X.env.scope y:=by trivial)
  (hsw:swapsWith (.ListComp (.List [] Ks) [⟨tg,iter,[],0⟩] scope pos) (some (.Name y py)) GQ.line X.env=pure true:=by rfl) (hs:∀y,foldedSetIterable iter X.env y=pure y:=by intro _;rfl)
  (hf:X.fn y=true\/X.env.scope.names.lookup y=some .local:=by trivial) :
  DSs X (.Assign [.Name y py] (.ListComp (.List [] Ks) [⟨tg,iter,[],0⟩] scope pos) GQ::lst::CJ) (Dm.aq (Dm.mX j fi own.length bd NU) gs):=by
 obtain⟨g,h1,h2⟩:=hg.ex;have h:=cO (dZ hN hj hy hc (cF.of hS hk) hi h1 (fun cl C s H fp=>qZ) (fun cl C s H fp=>A6 (pos:=Ks) g_) hsw hs hf) (cO hlp hre);intro kC s σ H D I q;exact h kC s σ H D I (Kp h2 (fun i hi=>by rw[I.len];exact p9 hl i hi) (by rw[I.len];exact(Qx.mp hj).1) q)
end
end
theorem yw{H0:Hp}(i:Int):∀{kvs:List (Key×V)} {ks:List Int} {ds:List Dm.Dat},kvs.map (·.1)=ks.map QW->av H0 (kvs.map (·.2)) ds ->
  (kX kvs (QW i)).map (·.1)=(Dm.fJ ks ds i).map QW/\av H0 ((kX kvs (QW i)).map (·.2)) (Dm.fK ks ds i)
 |[],[],ds,_,r=>by cases r;exact⟨rfl,.nil⟩
 |[],_::_,_,e,_=>by cases e
 |_::_,[],_,e,_=>by cases e
 |(k,v)::kvs,k'::ks,ds,e,r=>by
  rw[gp,gp]at e;injection e with e1 e2
  cases r with
  |cons h t=>
   obtain⟨i1,i2⟩:=yw i e2 t;unfold kX at i1 i2 ⊢;dsimp only at e1;subst e1;by_cases q:k'=i
   ·subst q;rw[RG (by simp),Dm.fJ,if_pos rfl,Dm.fK,if_pos rfl];exact⟨i1,i2⟩
   ·have q':¬(QW k':Key)=QW i:=rz q;rw[RH (by simpa using q'),Dm.fJ,if_neg q,Dm.fK,if_neg q];exact⟨by rw[gp,gp,i1],by rw[gp];exact .cons h i2⟩
section
variable{σ:L2.St}{H:Hp}{Q:VK}
theorem Ku{i:Nat}{f:Dm.FE}(h:tD (Dm.mY i f) σ H Q):Bk (l8 i) (tD f) σ H Q:=by
 obtain⟨H0,ρ,x,ρ',st,e,k⟩:=h;unfold Dm.mY at e;split at e
 case h_2=>cases e
 rename_i ks0 vs0 h0;split at e
 case h_2=>cases e
 rename_i m ρ1 e1;split at e
 case h_2=>cases e
 rename_i ks vs h1;split at e
 case h_2=>cases e
 rename_i d hl;cases e;obtain⟨a0,q0,n0,Kf,y0,_⟩:=st.ow i _ h0;refine⟨_,q0,a0,rfl,.inl ⟨Kf,.inl y0⟩,H0,ρ,_,ρ1,st,e1,fun u H1 Hb t1 r1=>?_⟩;have hu:=Rep.isInt r1;subst hu;obtain⟨a,q,n,w⟩:=t1.st.ow i _ h1;rw[q0]at q;cases q;obtain⟨kvs,y,ek,rs⟩:=w;rcases gI m ek rs with⟨d',v,l1,l2,r⟩ | ⟨l1,_⟩
 ·rw[hl]at l1;cases l1;obtain⟨p1,p2⟩:=yw m ek rs;have ow:aj σ ρ1 a0:=⟨i,_,h1,q0⟩
  have hil:i<ρ1.length:=(Qx.mp h1).1;refine⟨kvs,QW m,v,y,rfl,l2,k v H1 _ ⟨t1.st.write h1 q0 ⟨_,au,p1,p2⟩,t1.stp.trans (Stp.write ow) fun b z=>.inl (t1.own b z),fun b z=>t1.own b (b9 h1 z),fun j z=>trivial⟩ r⟩
 ·rw[hl]at l1;cases l1
end
section
variable{vs:List Dm.Dat}{ρ ρ':Dm.Env}{ks:List Int}{d:Dm.Dat}{x:Dm.Val}{H H':Hp}{i:Nat}{X:Cx}
theorem wF:bW X (.type "dict") (fun xs H Q=>∃a kvs,xs=[.ref a]/\H a=some (.dK kvs)/\∀p,H p=none->Q (.ref p) (upd H p (.dK kvs))):=by intro kC s σ H xs us Q I r h;obtain⟨a,kvs,rfl,ha,k⟩:=h;obtain⟨u,rfl,rx⟩:=vals1 r;cases rx;exact Bo I (.inl ha) fun p s' hp I'=>⟨.ref p,_,I',rfl,k p hp⟩
theorem Gf:CallD (fun xs H Q=>∃a kvs,xs=[.ref a]/\H a=some (.dK kvs)/\∀p,H p=none->Q (.ref p) (upd H p (.dK kvs))) Dm.tP:=by
 intro H0 H vs ds z Q s rs e k;unfold Dm.tP at e;split at e
 ·cases e;cases rs with
  |cons r rr=>cases rr;obtain⟨a,kvs,rfl,ha,ek,rs⟩:=dQ s r;refine⟨a,kvs,rfl,ha,fun p hp=>k _ _ _ (aI.j8 s hp) ⟨p,rfl,hp,s.free hp,kvs,au,ek,rs⟩⟩
 ·cases e
theorem mZ:∀(its:List Value) (ns:List Int),its.length=ns.length->(∀(i:Nat) (v:Value),its[i]?=some v->∃n,ns[i]?=some n/\∃t,v=Value.int n t)->IntsAre its ns
 |[],[],_,_=>.nil
 |[],_::_,h,_=>by cases h
 |_::_,[],h,_=>by cases h
 |v::its,n::ns,h,k=>by
  obtain⟨m,h1,t,h2⟩:=k 0 v rfl;simp at h1;subst h1;subst h2;exact .cons n t (mZ its ns (by simpa using h) fun i v e=>by obtain⟨m,q1,q2⟩:=k (i+1) v (by simpa using e);exact⟨m,by simpa using q1,q2⟩)
theorem yx:∀{kvs:List (Key×V)} {vs:List (Key×Value)},KV kvs vs->vs.map (·.1)=kvs.map (·.1)
 |_,_,.nil=>rfl
 |_,_,.cons h t=>by rw[gp,gp,yx t,h.1]
theorem cD:∀{its:List Value} {ns:List Int},IntsAre its ns->Vals (ns.map V.int) its
 |_,_,.nil=>.nil
 |_,_,.cons n t h=>.cons ⟨t,rfl⟩ (cD h)
def B9:List V->Hp->VK->Prop:=fun xs H Q=>∃(p:Addr) (kvs:List (Key×V)) (ns:List Int),xs=[.ref p]/\H p=some (.dK kvs)/\kvs.map (·.1)=ns.map QW/\ns.length<=63 /\
 ∀(ms:List Int) (l:Addr),ms.Perm ns->ms.Pairwise (·<=·)->H l=none->Q (.ref l) (upd H l (.lst (ms.map V.int)))
theorem wG(hc:X.calm=true):bW X (.builtin "sorted") B9:=by
 intro kC s σ H xs us Q I r h;obtain⟨p,kvs,ns,rfl,hq,ek,hl,k⟩:=h;obtain⟨u,rfl,rx⟩:=vals1 r;cases rx;obtain⟨z,hd,vs,rel,dd⟩:=yf I.hok hq;obtain⟨ep,hat⟩:=dd.dictAt;have ur:vs.length=ns.length:=by
  rw[<- rel.length];have:=congrArg List.length ek
  simpa using this
 have hns:vs.length<=sizeLine:=by rw[<- rel.length];exact z
 refine SJ kind_sorted plain_sorted entry_sorted (args_sorted1 _) ?_;unfold Builtin.«sorted»;refine wpAny_bind (m:=checkCount "sorted" 1 1 _) (wpAny_pure ?_);refine wpAny_bind (PySem.W.kdu_collect (A:=X.A.in1) (PySem.W.kdl_dict (knd:=aO X.prog X.w) (kvs:=vs) (ep:=ep) hd) (I.ok.hd hc) hat hns fun h' tk pI hk hacc=>?_);have hsz:pI.toList.length=ns.length:=by rw[QH,hacc.1,ur]
 have hI:IntsAre pI.toList ns:=mZ _ _ hsz fun i v e=>by
  obtain⟨ky,x,h1,h2⟩:=hacc.2 i v (by rw[<- RA];exact e);have hk1:(vs.map (·.1))[i]?=some ky:=by rw[QL,h1];rfl
  rw[yx rel,ek,QL]at hk1;cases q:ns[i]? with
  |none=>rw[q]at hk1;cases hk1
  |some n=>rw[q]at hk1;cases hk1;exact⟨n,rfl,(Value.isInt_shape (k:=n) (v:=v) h2)⟩
 have hn:pI.toList.length<=63:=by rw[hsz];exact hl
 refine wpAny_bind (wpAny_newList ?_ (QT hn (by decide)));have hL0:(h'.push (seqObj "list" pI.toList.toArray 0)).get? h'.objs.size=some (seqObj "list" pI.toList.toArray 0):=QS _ rfl;have I1:=I.kept (t':=tk) hk;refine wpAny_bind (wpAny_holding (wpAny_call_entry (s:={ s with heap:=h'.push (seqObj "list" pI.toList.toArray 0),toks:=tk }) slot_list_sort ⟨_,hL0,rfl⟩ entry_list_sort (list_sort_tree hL0 hI (by lia) fun out ms a1 a2 a3=>⟨_,rfl,?_⟩) (args_list_sort _)));obtain⟨c,hc'⟩:=sortedHeap_at (out:=out) hL0;have hz2:(ms.map V.int).length<=sizeLine:=by rw[gc,a2.length_eq];exact QT hl (by decide)
 refine wpAny_pure ⟨_,rfl,.ref h'.objs.size,_,I1.laid (t':=tk) (fun b o e=>?_) (Pz _) (show aQ X.prog X.w _ _ _ (.lst (ms.map V.int)) from ⟨hz2,out.toList,c,cD a1,by simpa using hc'⟩),rfl,k ms _ a2 a3 (I1.hok.fresh (Pz _))⟩;have lt:=QA e;rw[sortedHeap_old (QX lt) (by rw[size_push'];exact RU lt)];exact PU _ e
theorem B_:CallD B9 Dm.kg:=by
 intro H0 H vs ds z Q s rs e k;unfold Dm.kg at e;split at e
 ·rename_i ks vs';split at e
  case isFalse=>cases e
  rename_i hl;cases e;cases rs with
  |cons r rr=>
   cases rr;obtain⟨a,kvs,rfl,ha,ek,rs⟩:=dQ s r;refine⟨a,kvs,ks,rfl,ha,ek,hl,fun ms l pm so hp=>?_⟩;have em:ms=Dm.bK (fun a b=>decide (a<b)) ks:=Dm.cT (lt:=fun a b=>decide (a<b)) (fun a b h1 h2=>by simp at h1 h2;lia) (pm.trans (Dm.bF _ ks).symm) (so.imp fun {a b} h=>by simp;lia)
    (Dm.bV (fun a b c h1 h2=>by simp at *;lia) (fun a b h=>by simp at *;lia) ks)
   exact k _ _ _ (aI.j8 s hp) ⟨l,rfl,hp,s.free hp,_,au,by rw[<- em];exact gJ ms⟩
 ·cases e
theorem Kv(e:Dm.tkd ρ x=some (d,ρ')):Dm.tk ρ x=some (d,ρ')\/∃i ks vs,x=.slot i/\ρ[i]?=some (.ow (.dct ks vs))/\d=.dct ks vs/\ρ'=ρ:=by
 cases x with
 |val d'=>exact .inl e
 |new d'=>exact .inl e
 |slot i=>
  unfold Dm.tkd at e;dsimp only at e;split at e
  ·rename_i ks vs h;cases e;exact .inr ⟨i,ks,vs,rfl,h,rfl,rfl⟩
  ·rename_i d' _ h;left;unfold Dm.tk;dsimp only;rw[h];exact e
  ·rename_i d' h;left;unfold Dm.tk;dsimp only;rw[h];exact e
  ·cases e
theorem Ca(e:Dm.tkd ρ x=some (d,ρ'))(h:ρ[i]?=some (.ow (.dct ks vs))):ρ'[i]?=some (.ow (.dct ks vs)):=by
 cases x with
 |val d'=>cases e;exact h
 |new d'=>cases e;exact h
 |slot j=>
  unfold Dm.tkd at e;dsimp only at e;split at e
  ·cases e;exact h
  ·rename_i d' hn hj;cases e;by_cases q:j=i
   ·subst q;rw[h]at hj;cases hj;exact absurd rfl (hn ks vs)
   ·rw[eg q];exact h
  ·cases e;exact h
  ·cases e
theorem qd:∀{xs:List Dm.Val} {ρ ρ':Dm.Env} {ds:List Dm.Dat},Dm.wD ρ xs=some (ds,ρ')->ρ[i]?=some (.ow (.dct ks vs))->ρ'[i]?=some (.ow (.dct ks vs))
 |[],_,_,_,e,h=>by cases e;exact h
 |x::xs,ρ,ρ',ds,e,h=>by
  unfold Dm.wD at e;split at e
  ·cases e
  rename_i d ρ1 e1;split at e
  ·cases e
  rename_i ds' ρ2 e2;cases e;exact qd e2 (Ca e1 h)
def Py(H0:Hp)(σ:L2.St)(ρ:Dm.Env)(v:V)(d:Dm.Dat):Prop:=Rep H0 v d\/∃(i:Nat) (b:Addr) (ks:List Int) (vs:List Dm.Dat),d=.dct ks vs/\v=.ref b/\ρ[i]?=some (.ow (.dct ks vs))/\σ[i]?=some (some (.ref b))
inductive tR(H0:Hp)(σ:L2.St)(ρ:Dm.Env):List V->List Dm.Dat->Prop
 |nil:tR H0 σ ρ [] []
 |cons {v:V} {d:Dm.Dat} {vs:List V} {ds:List Dm.Dat}:Py H0 σ ρ v d->tR H0 σ ρ vs ds->tR H0 σ ρ (v::vs) (d::ds)
theorem wH{Hs H0s H0 H:Hp}{σ:L2.St}{ρs:Dm.Env}:∀{xs:List Dm.Val} {vs:List V} {ρ ρ':Dm.Env} {ds:List Dm.Dat} {H0c:Hp},ESt σ ρs H0s Hs ρ H0c H->ak H0 H0c->cQ Hs H0 H σ ρ vs xs->Dm.wD ρ xs=some (ds,ρ') ->
  ∃ig,ESt σ ρs H0s Hs ρ' ig H/\ak H0c ig/\tR ig σ ρ' vs ds
 |[],_,ρ,ρ',ds,H0c,t,b,r,e=>by cases r;cases e;exact⟨H0c,t,ak.refl _,.nil⟩
 |x::xs,_,ρ,ρ',ds,H0c,t,b,r,e=>by
  cases r with
  |cons h r=>
   unfold Dm.wD at e;split at e
   ·cases e
   ·rename_i d ρ1 e1;split at e
    ·cases e
    ·rename_i ds' ρ2 e2;cases e;rcases Kv e1 with e1' | ⟨i,ks,vs,rfl,hi,rfl,rfl⟩
     ·obtain⟨H1,t1,b1,r1,o1,d1⟩:=take1 t b h e1';obtain⟨H2,t2,b2,r2⟩:=wH t1 (b.trans b1) (r.rho o1 d1) e2;exact⟨H2,t2,b1.trans b2,.cons (.inl (r1.mono b2)) r2⟩
     ·obtain⟨H2,t2,b2,r2⟩:=wH t b r e2;obtain⟨q,_⟩:=h;obtain⟨a,z,_⟩:=t.st.ow i _ hi;rw[q]at z;cases z;exact⟨H2,t2,b2,.cons (.inr ⟨i,a,ks,vs,rfl,rfl,qd e2 hi,q⟩) r2⟩
mutual
theorem Rep.noD(hk:∀a o,H a=some o->H' a=some o\/∃kvs,o=.dK kvs):∀{v:V} {d:Dm.Dat},Rep H v d->Dm.bD d=true->Rep H' v d
 |_,_,.non,_=>.non
 |_,_,.bl b,_=>.bl b
 |_,_,.int i,_=>.int i
 |_,_,.str x,_=>.str x
 | _,_,.tup h r,n=>.tup (by
   rcases hk _ _ h with z | ⟨_,z⟩
   ·exact z
   ·cases z) (av.noD hk r (by unfold Dm.bD at n;exact n))
 | _,_,.lst h r,n=>.lst (by
   rcases h with h | ⟨o,h⟩
   ·rcases hk _ _ h with z | ⟨_,z⟩
    ·exact .inl z
    ·cases z
   ·rcases hk _ _ h with z | ⟨_,z⟩
    ·exact .inr ⟨o,z⟩
    ·cases z) (av.noD hk r (by unfold Dm.bD at n;exact n))
 |_,_,.dct _ _ _,n=>by unfold Dm.bD at n;cases n
 |_,_,.dcp _ _ _,n=>by unfold Dm.bD at n;cases n
 |_,_,.exc _,n=>by unfold Dm.bD at n;cases n
 |_,_,.bU _ _,n=>by unfold Dm.bD at n;cases n
 |_,_,.fn a,_=>.fn a
theorem av.noD(hk:∀a o,H a=some o->H' a=some o\/∃kvs,o=.dK kvs):∀{vs:List V} {ds:List Dm.Dat},av H vs ds->Dm.gm ds=true->av H' vs ds
 |_,_,.nil,_=>.nil
 |_,_,.cons h r,n=>by unfold Dm.gm at n;rw[QD]at n;exact .cons (Rep.noD hk h n.1) (av.noD hk r n.2)
end
end
open Classical in
theorem Cb{σ:L2.St}{H:Hp}{Q:VK}{f:List Dm.Dat->Option Dm.RV}{fs:List Dm.FE}{E:XK}(h:tD (Dm.eFd f fs) σ H Q):pR (spD f) [] E (tDA fs) σ H Q:=by
 obtain⟨H0,ρ,x,ρ',st,e,k⟩:=h;unfold Dm.eFd at e;split at e
 ·cases e
 rename_i xs ρ1 e1;split at e
 ·cases e
 rename_i ds ρ2 e2;split at e
 ·cases e
 rename_i z fz;split at e
 case isFalse=>cases e
 rename_i hno;injection e with e
 injection e with ea eb
 subst ea;subst eb;refine⟨H0,ρ,xs,ρ1,st,e1,fun vs H1 Hb t1 r1=>?_⟩;dsimp only;rw[Rr];obtain⟨H2,t2,b2,r2⟩:=wH t1 (ak.refl _) r1 e2
 let B:Addr->Prop:=fun b=>∃(i:Nat) (ks:List Int) (vs:List Dm.Dat),ρ2[i]?=some (.ow (.dct ks vs))/\σ[i]?=some (some (.ref b))
 have hB:∀b,B b->H2 b=none/\∃kvs,Hb b=some (.dK kvs):=fun b ⟨i,ks,vs,h1,h2⟩=>by obtain⟨a,q,n,kvs,w,_⟩:=t2.st.ow i _ h1;rw[h2]at q;cases q;exact⟨n,kvs,w⟩
 let H2':Hp:=fun b=>if B b then Hb b else H2 b
 have in':∀b,B b->H2' b=Hb b:=fun b h=>if_pos h;have out':∀b,¬B b->H2' b=H2 b:=fun b h=>if_neg h;have s2:ak H2 H2':=fun b o e=>by
  by_cases q:B b
  ·rw[(hB b q).1]at e;cases e
  ·rw[out' b q];exact e
 have s2b:ak H2' Hb:=fun b o e=>by
  by_cases q:B b
  ·rw[in' b q]at e;exact e
  ·rw[out' b q]at e;exact t2.st.same _ _ e
 have rr:∀{vs:List V} {ds:List Dm.Dat},tR H2 σ ρ2 vs ds->av H2' vs ds:=fun {vs ds} r=>by
  induction r with
  |nil=>exact .nil
  |cons h _ ih=>
   refine .cons ?_ ih;rcases h with h | ⟨i,b,ks,vs',rfl,rfl,h1,h2⟩
   ·exact h.mono s2
   ·obtain⟨a,q,n,kvs,w,ek,rs⟩:=t2.st.ow i _ h1;rw[h2]at q;cases q;exact .dct (by rw[in' _ ⟨i,ks,vs',h1,h2⟩];exact w) ek (rs.mono s2)
 refine⟨H2',ds,z,s2b,rr r2,fz,fun w H3 Hd g3 r3=>?_⟩
 let H3':Hp:=fun b=>if B b then none else H3 b
 have in3:∀b,B b->H3' b=none:=fun b h=>if_pos h;have m5:∀b,¬B b->H3' b=H3 b:=fun b h=>if_neg h;have gr:aI H2 Hb H3' Hd:=⟨fun b o e=>by
   by_cases q:B b
   ·rw[(hB b q).1]at e;cases e
   ·rw[m5 b q];exact g3.s0 _ _ (s2 _ _ e),g3.s1,fun b o e=>by
   by_cases q:B b
   ·rw[in3 b q]at e;cases e
   ·rw[m5 b q]at e;rcases g3.s2 b o e with y | y
    ·exact .inl y
    ·rw[out' b q]at y;exact .inr y,fun b o e=>by
   by_cases q:B b
   ·rw[in3 b q]at e;cases e
   ·rw[m5 b q]at e;exact g3.s3 _ _ e⟩
 have hk:∀a o,H3 a=some o->H3' a=some o\/∃kvs,o=.dK kvs:=fun a o e=>by
  by_cases q:B a
  ·obtain⟨_,kvs,y⟩:=hB a q;have:=g3.s0 a _ ((in' a q).trans y);rw[e]at this;exact .inr ⟨kvs,Option.some.inj this⟩
  ·exact .inl (by rw[m5 a q];exact e)
 have r3':qS Hb H3' Hd w z:=by
  cases z with
  |val d=>exact Rep.noD hk r3 hno
  |new d=>
   obtain⟨a,ea,n,n0,w'⟩:=r3;refine⟨a,ea,n,?_,?_⟩
   ·by_cases q:B a
    ·exact in3 a q
    ·rw[m5 a q];exact n0
   ·cases d with
    |lst ds'=>obtain⟨ys,y1,y2⟩:=w';exact⟨ys,y1,av.noD hk y2 (by have:Dm.bD (.lst ds')=true:=hno;unfold Dm.bD at this;exact this)⟩
    |dct ks ds'=>have:Dm.bD (.dct ks ds')=true:=hno;unfold Dm.bD at this;cases this
    |dcp ks ds'=>have:Dm.bD (.dcp ks ds')=true:=hno;unfold Dm.bD at this;cases this
    |_=>exact w'.elim
 exact k w H3' Hd (t2.trans (.grow t2.st gr)) ((r3'.toV t2.st).early fun a n=>t2.stp.gone n)
section
variable{X:Cx}{e b:Expr}{es:List Expr}{fs:List Dm.FE}{fb:Dm.FE}{p pos:Pos}
theorem m6{k:Nat}{F:Addr}{fd:FuncData}{ps:List Str}{g:List Dm.Dat->Option Dm.RV}{x:Str}(G:aW X.prog X.w X.K X.mg X.base CX0 k F fd ps (spD g))(hr:bg k X.A)(hg:Gl X x)(hm:X.mg x=some (.ref F))(hk:Rw X.K (.ref F)=true)(hb:Binds X.K fd ps [])
  (ha:DA X (e::es) fs) (NV:(x == ("__debug__" : Str))=false:=by decide) (he:starEach (e::es) X.env=(false,eval e X.env)::starEach es X.env:=by rfl) (CI:(backTo pos (starEach es X.env)).any (·.1)=false:=by rfl) :
  DE X (.Call (.Name x p) (e::es) [] pos) (Dm.eFd g fs):=PE.weak (jo G hr hg hm hk hb .nil (sX (X:=X)) ha NV he CI) fun _ _ _=>Cb
theorem Kw(hg:Gl X "dict")(hm:X.mg "dict" = none)(ha:DA X [e] fs)(he:starEach [e] X.env=[(false,eval e X.env)]:=by rfl)(CI:(backTo pos (starEach [] X.env)).any (·.1)=false:=by rfl):DE X (.Call (.Name "dict" p) [e] [] pos) (Dm.eB Dm.tP fs):=BN wF Gf (by rfl) hg hm ha (he:=he) (CI:=CI)
theorem Gg(hc:X.calm=true)(hg:Gl X "sorted")(hm:X.mg "sorted" = none)(ha:DA X [e] fs)(he:starEach [e] X.env=[(false,eval e X.env)]:=by rfl)(CI:(backTo pos (starEach [] X.env)).any (·.1)=false:=by rfl):DE X (.Call (.Name "sorted" p) [e] [] pos) (Dm.eB Dm.kg fs):=tL (wG hc) B_ (by rfl) hg hm ha (he:=he) (CI:=CI)
theorem Cc(i:Nat){x:Str}{px K8 cpos:Pos}(hb:DE X b fb)(hi:X.N[i]?=some x:=by rfl)(hv:Vis X.env.scope x:=by trivial)(hd:(x == ("__debug__" : Str))=false:=by decide)
  (Ij:(x == ("__classdict__" : Str))=false:=by decide) (m:M1 X (.Name x px) "pop" K8 b cpos:=by exact⟨rfl,rfl,rfl,rfl⟩):DE X (.Call (.Attribute (.Name x px) "pop" K8) [b] [] cpos) (Dm.mY i fb):=PE.weak (Bm (eK hi hv hd Ij) hb m) fun _ _ _=>Ku
end
section
variable{X:Cx}{a b c e:Expr}{fa fb fc:Dm.FE}{p pos:Pos}
theorem bits_le{i:Int}(h:i.natAbs.log2<1000000):Tg i<=2 ^ 20:=by
 have:Tg i<=i.natAbs.log2+1:=by
  unfold Tg
  first | lia | (split<;>lia) | simp
 lia
def Ia(i j:Int):Prop:=i.natAbs.log2<1000000/\j.natAbs.log2<1000000
theorem Gh:OpR X (binaryOp .Mult) (rI Ia fun i j=>.int (i*j)):=opI fun _ _ _ _ _ _ _ hc q=>mul_int q (.of_bits (bits_le hc.1) (bits_le hc.2))
theorem Gi:OpD (rI Ia fun i j=>.int (i*j)) Dm.jM:=by
 intro H0 H x y dx dy z Q s rx ry e k;unfold Dm.jM at e;split at e
 ·split at e
  case isFalse=>cases e
  rename_i hb;cases e;cases aC rx;cases aC ry;exact⟨_,_,rfl,rfl,hb,k _ H0 H (aI.refl s) (.int _)⟩
 ·cases e
theorem rD(ha:DE X a fa)(hb:DE X b fb):DE X (.BinOp a .Mult b pos) (Dm.e2 Dm.jM fa fb):=tH Gh Gi ha hb
end
noncomputable def Its(lo k:Int)(n:Nat):It:=⟨fun i _=>i<n,fun i H x H'=>H'=H/\x=.int (lo+(i:Nat)*k),fun i _=>n<=i⟩
theorem wI{P:Program}{w:World}{K:Dk}{tg:Expr}(it:Addr)(lo k:Int)(n:Nat):Turn P w K tg (Its lo k n) [it] it (fun i h=>IsRangeIter h it (lo+(i:Nat)*k) ((n:Int)-(i:Nat)) k) where
 mem:=by simp
 obj:=fun i h st b hb=>by
  have e:b=it:=by simpa using hb
  subst e;exact ⟨_,st,fun v z=>by have z':Data.fields _=Data.cell v:=z;cases z'⟩
 keep:=fun i h h' st k=>k it (by simp) _ st
 item:=by intro X hP hw hK hc i kC s σ H E I hf st hg;subst hP hw hK;obtain⟨f0,f1,f2,f3,f4,f5⟩:=hf it (by simp);have W:=Walks.range (prog:=X.prog) (w:=X.w) (I.ok.hd hc) it lo k n;refine W.item i s _ _ hg st fun v h' tk hv st' kk=>?_;obtain⟨t,rfl⟩:=hv;have I1:Inv X kC σ H { s with heap:=h',toks:=tk }:=I.turned (fun b o hb e=>kk b o (by simpa using hb) e) f0 f1 f3 f4 f5;exact⟨_,rfl,xZ (s:={ s with heap:=h',toks:=tk }) (n := "range_iterator") st' rfl rfl (by decide) ⟨.int (lo+(i:Nat)*k),H,I1,⟨t,rfl⟩,⟨rfl,rfl⟩,st',fun b hb=>(hf b hb).1⟩⟩
 done:=by intro X hP hw hK hc i kC s σ H E I hf st hg;subst hP hw hK;obtain⟨f0,f1,f2,f3,f4,f5⟩:=hf it (by simp);exact wpAny_pyNext_range_end (I.ok.hd hc) st (by have:n<=i:=hg;lia) fun h' eb=>⟨rfl,I.turned (t':=s.toks) (fun b o hb e=>eb b o hb e) f0 f1 f3 f4 f5⟩
 self:=fun _ _ _ _ _ st h=>wpAny_pyIter_rangeiter st h
theorem yz{a k:Int}(hk:0<k)(h:0<=a):0<=a / k/\a / k<=a:=⟨Int.ediv_nonneg h (by lia),by
 have:=Int.ediv_mul_le a (b:=k) (by lia);have h2:0<=a / k:=Int.ediv_nonneg h (by lia);have:(a / k)*1<=(a / k)*k:=Int.mul_le_mul_of_nonneg_left (by lia) h2
 lia⟩
theorem jN(a b k:Int)(hk:0<k):Sj a b k=(Dm.cH a b k:Nat):=by
 unfold Sj Dm.cH;simp only[hk,show (k>0)=True from eq_true hk,if_true];by_cases h:a<b
 ·have:=yz hk (show 0<=b-a-1 by lia);simp only[h,show (a<b)=True from eq_true h,if_true]
  first | lia | (split<;>lia)
 ·simp only[show (a<b)=False from eq_false h,if_false]
  first | lia | (split<;>lia) | simp
theorem Cd{a b k:Int}(hk:0<k)(hk':k<=1000)(ha:-(2 ^ 60)<=a)(ha':a<2 ^ 60)(hb:-(2 ^ 60)<=b)(hb':b<2 ^ 60):Builtin.Range.small a b k=true:=by
 unfold Builtin.Range.small;rw[jN a b k hk];have hs:(Dm.cH a b k:Int)<=2 ^ 61:=by
  unfold Dm.cH;split
  ·have:=yz hk (show 0<=b-a-1 by lia)
   lia
  ·lia
 simp only[Builtin.Range.rangeFitsLong,QD,T6,decide_eq_true_eq,beq_iff_eq,show (k>0)=True from eq_true hk,if_true]
 first | lia | (refine⟨?_,?_⟩<;>lia) | (split<;>lia)
section
variable{X:Cx}{tg:Expr}
def Ib(ta:TA):TI:=fun σ H R=>ta σ H fun vs H1=>∃i j k:Int,vs=[.int i,.int j,.int k]/\(0<k/\k<=1000)/\(-(2 ^ 60)<=i/\i<2 ^ 60/\-(2 ^ 60)<=j/\j<2 ^ 60)/\R (Its i k (Dm.cH i j k)) H1
theorem Ad{a b c:Expr}{ta:TA}{p pos:Pos}(hg:Gl X "range")(hm:X.mg "range" = none)(ha:PA X [a,b,c] ta)(hs:starEach [a,b,c] X.env=(false,eval a X.env)::starEach [b,c] X.env:=by rfl)(hs2:(backTo pos (starEach [b,c] X.env)).any (·.1)=false:=by rfl) :
  PI X tg (.Call (.Name "range" p) [a,b,c] [] pos) (Ib ta):=by
 intro kC s σ H R I h;refine Call_ (jW I hg hm boot_range (R4 (thn (ha pos kC s σ H _ I h) fun us s1 ⟨vs,H1,I1,r1,q1⟩=>?_) hs hs2));obtain⟨i,j,k,e,⟨hk,hk'⟩,⟨q1,q2,q3,q4⟩,q⟩:=q1;subst e;cases r1 with
 |cons r rr=>
  cases rr with
  |cons r' rr=>
   cases rr with
   |cons r'' rr=>
   cases rr;obtain⟨t,rfl⟩:=r;obtain⟨t',rfl⟩:=r';obtain⟨t'',rfl⟩:=r'';refine call_range_3 (by simp;lia) ?_ (Or.inl (PyProof.noPylong_small (by lia)));refine wpAny_pyIter_range (IsRange.new ..) (Cd hk hk' q1 q2 q3 q4) ?_;have I2:Inv X kC σ H1 { s1 with heap:=s1.heap.push { cls:=.type "range",data:=.fields #[.int i t,.int j t',.int k t''] },toks:=s1.toks }:=I1.kept fun b o e=>PU _ e;refine ⟨(s1.heap.push { cls:=.type "range",data:=.fields #[.int i t,.int j t',.int k t''] }).objs.size,[(s1.heap.push { cls:=.type "range",data:=.fields #[.int i t,.int j t',.int k t''] }).objs.size],_,_,H1,rfl,
    I2.kept (t':=s1.toks) fun b o e=>PU _ e,wI _ i k (Dm.cH i j k),?_,fun b hb=>?_,q⟩
   ·have e1:i+((0:Nat):Int)*k=i:=by simp
    have e2:((Dm.cH i j k:Nat):Int)-((0:Nat):Int)=Sj i j k:=by rw[jN i j k hk];lia
    show IsRangeIter _ _ (i+((0:Nat):Int)*k) (((Dm.cH i j k:Nat):Int)-((0:Nat):Int)) k;rw[e1,e2];exact QS _ rfl
   ·have e:b=(s1.heap.push { cls:=.type "range",data:=.fields #[.int i t,.int j t',.int k t''] }).objs.size:=by simpa using hb
    subst e;exact I2.Fb (Pz _) (I2.hok.fresh (Pz _))
theorem Ce{H0:Hp}{lo k:Int}{n:Nat}:JW (Its lo k n) H0 (Dm.ir lo k n):=by
 intro H0' H s0 s1;have el:(Dm.ir lo k n).length=n:=by simp[Dm.ir]
 refine⟨fun i hi=>by rw[el]at hi;exact hi,fun i d e=>?_⟩;have CK:i<n:=by have:=(Qx.mp e).1;rw[el]at this;exact this
 have hd:d=.int (lo+(i:Nat)*k):=by unfold Dm.ir at e;rw[QL,Sh CK]at e;exact(Option.some.inj e).symm
 refine⟨CK,fun x H' y=>?_⟩;obtain⟨rfl,rfl⟩:=y;subst hd;exact⟨H0',aI.refl s1,.int _⟩
theorem Nz{σ:L2.St}{H:Hp}{R:It->Hp->Prop}{f g c:Dm.FE}(h:tDI (Dm.iRs f g c) σ H R):Ib (tDA [f,g,c]) σ H R:=by
 obtain⟨H0,ρ,ys,ρ',st,e,k⟩:=h;unfold Dm.iRs at e;split at e
 ·rename_i i ρ1 e1;split at e
  ·rename_i j ρ2 e2;split at e
   ·rename_i l ρ3 e3;split at e
    ·rename_i hb;cases e;refine⟨H0,ρ,[.val (.int i),.val (.int j),.val (.int l)],_,st,by simp only[Dm.eAs,e1,e2,e3];rfl,fun vs H0' H' t r=>?_⟩;cases r with
     |cons r rr=>
      cases rr with
      |cons r' rr=>
       cases rr with
       |cons r'' rr=>cases rr;cases Rep.isInt r;cases Rep.isInt r';cases Rep.isInt r'';obtain⟨h0,h1,h2,h3,h4⟩:=hb;unfold Dm.BIG at h1 h2 h3 h4;exact⟨i,j,l,rfl,h0,⟨by lia,by lia,by lia,by lia⟩,k _ H0' H' t Ce⟩
    ·cases e
   ·cases e
  ·cases e
 ·cases e
theorem PB{a b c:Expr}{fa fb fc:Dm.FE}{p pos:Pos}(hg:Gl X "range")(hm:X.mg "range" = none)(ha:DA X [a,b,c] [fa,fb,fc])(hs:starEach [a,b,c] X.env=(false,eval a X.env)::starEach [b,c] X.env:=by rfl)(hs2:(backTo pos (starEach [b,c] X.env)).any (·.1)=false:=by rfl) :
  DI X tg (.Call (.Name "range" p) [a,b,c] [] pos) (Dm.iRs fa fb fc):=PI.weak (Ad hg hm ha hs hs2) fun _ _ _=>Nz
end
theorem qe{Hs H0 H:Hp}{σ:L2.St}{ρ:Dm.Env}:∀{xs:List Dm.Val} {vs:List V} {ds:List Dm.Dat},cQ Hs H0 H σ ρ vs xs->Dm.kh xs=some ds->av H0 vs ds
 |[],_,_,.nil,e=>by cases e;exact .nil
 |.val d::xs,_,ds,.cons h r,e=>by
  unfold Dm.kh at e;cases q:Dm.kh xs with
  |none=>rw[q]at e;cases e
  |some es=>rw[q]at e;cases e;exact .cons h (qe r q)
 |.new _::_,_,_,_,e=>by cases e
 |.slot _::_,_,_,_,e=>by cases e
theorem Gj{σ:L2.St}{H:Hp}{Q:VK}{f:List Dm.Dat->Option (Dm.RV×Dm.Dat)}{f0:Dm.FE}{fs:List Dm.FE}{E:XK}(h:tD (Dm.eFn f f0 fs) σ H Q):pR (spM f) [] E (tDA (f0::fs)) σ H Q:=by
 obtain⟨H0,ρ,x,ρ',st,e,k⟩:=h;unfold Dm.eFn at e;split at e
 case h_2=>cases e
 rename_i d xs ρ1 e1;split at e
 ·cases e
 rename_i ds e2;split at e
 ·cases e
 rename_i z d' fz;cases e;refine⟨H0,ρ,_,_,st,e1,fun vs H1 Hb t1 r1=>?_⟩;dsimp only;rw[Rr];cases r1 with
 |cons r0 rr=>
  obtain⟨a,rfl,n,no,n0,w⟩:=r0;obtain⟨oa,ha⟩:=w.some;refine⟨H1,a,_,d,ds,z,d',rfl,t1.st.same,n0,w,qe rr e2,fz,fun v H3 Hd s3 ss n3 w3 r3=>?_⟩;have st3:ay H3 Hd σ ρ':=t1.st.off s3.s0 ss no (fun b o y nb=>s3.s1 b o y nb) fun i d4 b y1 y2=>by
   obtain⟨b',q',nb',w'⟩:=t1.st.ow i d4 y1;rw[y2]at q';cases q';cases y:H3 b with
   |none=>rfl
   |some o=>
    obtain⟨o',z'⟩:=w'.some;rcases s3.s2 b o y with y3 | y3 | y3
    ·rw[y3]at z';cases z'
    ·rw[nb']at y3;cases y3
    ·exact absurd ⟨i,d4,y1,y3▸y2⟩ no
  exact k v H3 Hd ⟨st3,t1.stp.trans s3 fun b y=>.inr (by rw[y];exact n),t1.own,t1.dfn⟩ ((r3.toV t1.st).early fun b y=>t1.stp.gone y)
theorem Gk{X:Cx}{e0:Expr}{es:List Expr}{p pos:Pos}{k:Nat}{F:Addr}{fd:FuncData}{ps:List Str}{g:List Dm.Dat->Option (Dm.RV×Dm.Dat)}{x:Str}{f0:Dm.FE}{fs:List Dm.FE}(G:aW X.prog X.w X.K X.mg X.base CX0 k F fd ps (spM g))(hr:bg k X.A)(hg:Gl X x)(hm:X.mg x=some (.ref F))(hk:Rw X.K (.ref F)=true)(hb:Binds X.K fd ps [])
  (ha:DA X (e0::es) (f0::fs)) (NV:(x == ("__debug__" : Str))=false:=by decide) (he:starEach (e0::es) X.env=(false,eval e0 X.env)::starEach es X.env:=by rfl) (CI:(backTo pos (starEach es X.env)).any (·.1)=false:=by rfl) :
  DE X (.Call (.Name x p) (e0::es) [] pos) (Dm.eFn g f0 fs):=PE.weak (jo G hr hg hm hk hb .nil (sX (X:=X)) ha NV he CI) fun _ _ _=>Gj
open PySem
variable{C:List Value->Prop}{us:List Value}
theorem len0(h:us.length=0)(c:C []):C us:=by rw[List.eq_nil_of_length_eq_zero h];exact c
theorem wJ{n:Nat}{C:List Value->Prop}{us:List Value}(h:us.length=n+1)(c:∀a us,us.length=n->C (a::us)):C us:=by
 cases us with
 |nil=>cases h
 |cons a us=>exact c a us (by simpa using h)
theorem NB(h:us.length=1)(c:∀a,C [a]):C us:=wJ h fun a _ h=>len0 h (C:=fun us=>C (a::us)) (c a)
theorem BU(h:us.length=2)(c:∀a b,C [a,b]):C us:=wJ h fun a _ h=>NB h (C:=fun us=>C (a::us)) (c a)
theorem NC(h:us.length=3)(c:∀a b d,C [a,b,d]):C us:=wJ h fun a _ h=>BU h (C:=fun us=>C (a::us)) (c a)
theorem ND(h:us.length=4)(c:∀a b d e,C [a,b,d,e]):C us:=wJ h fun a _ h=>NC h (C:=fun us=>C (a::us)) (c a)
theorem NF(h:us.length=5)(c:∀a b d e f,C [a,b,d,e,f]):C us:=wJ h fun a _ h=>ND h (C:=fun us=>C (a::us)) (c a)
theorem NG(h:us.length=6)(c:∀a b d e f g,C [a,b,d,e,f,g]):C us:=wJ h fun a _ h=>NF h (C:=fun us=>C (a::us)) (c a)
theorem PD(h:us.length=7)(c:∀a b d e f g i,C [a,b,d,e,f,g,i]):C us:=wJ h fun a _ h=>NG h (C:=fun us=>C (a::us)) (c a)
end Br
namespace L2
open PySem
variable{K:Dk}{x qual:Str}{st:Stmt}{f:Addr}{fd:FuncData}{ps:List Str}
theorem Fun.m7(F:Fun K x qual st f fd)(hp:ps.length=1)(h:∀(kV doc pm:Value) (an:Option Addr) (cdv ct:Value) (a:Value),bindArgs (QY x qual (aN st) (aK st) (ai st) .none kV doc pm an cdv ct) ⟨[a],[]⟩=pure (ps.zip [a])):Binds K fd ps []:=
 F.binds fun kV doc pm an cdv ct us hl=>Br.NB (C:=fun us=>bindArgs (QY x qual (aN st) (aK st) (ai st) .none kV doc pm an cdv ct) ⟨us,[]⟩=pure (ps.zip us)) (hl.trans hp) (h kV doc pm an cdv ct)
theorem Fun.cu(F:Fun K x qual st f fd)(hp:ps.length=2)(h:∀(kV doc pm:Value) (an:Option Addr) (cdv ct:Value) (a b:Value),bindArgs (QY x qual (aN st) (aK st) (ai st) .none kV doc pm an cdv ct) ⟨[a,b],[]⟩=pure (ps.zip [a,b])):Binds K fd ps []:=
 F.binds fun kV doc pm an cdv ct us hl=>Br.BU (C:=fun us=>bindArgs (QY x qual (aN st) (aK st) (ai st) .none kV doc pm an cdv ct) ⟨us,[]⟩=pure (ps.zip us)) (hl.trans hp) (h kV doc pm an cdv ct)
theorem Fun.m8(F:Fun K x qual st f fd)(hp:ps.length=3)(h:∀(kV doc pm:Value) (an:Option Addr) (cdv ct:Value) (a b d:Value),bindArgs (QY x qual (aN st) (aK st) (ai st) .none kV doc pm an cdv ct) ⟨[a,b,d],[]⟩=pure (ps.zip [a,b,d])):Binds K fd ps []:=
 F.binds fun kV doc pm an cdv ct us hl=>Br.NC (C:=fun us=>bindArgs (QY x qual (aN st) (aK st) (ai st) .none kV doc pm an cdv ct) ⟨us,[]⟩=pure (ps.zip us)) (hl.trans hp) (h kV doc pm an cdv ct)
theorem Fun.iu(F:Fun K x qual st f fd)(hp:ps.length=4)(h:∀(kV doc pm:Value) (an:Option Addr) (cdv ct:Value) (a b d e:Value),bindArgs (QY x qual (aN st) (aK st) (ai st) .none kV doc pm an cdv ct) ⟨[a,b,d,e],[]⟩=pure (ps.zip [a,b,d,e])):Binds K fd ps []:=
 F.binds fun kV doc pm an cdv ct us hl=>Br.ND (C:=fun us=>bindArgs (QY x qual (aN st) (aK st) (ai st) .none kV doc pm an cdv ct) ⟨us,[]⟩=pure (ps.zip us)) (hl.trans hp) (h kV doc pm an cdv ct)
theorem Fun.wK(F:Fun K x qual st f fd)(hp:ps.length=5)(h:∀(kV doc pm:Value) (an:Option Addr) (cdv ct:Value) (a b d e g:Value),bindArgs (QY x qual (aN st) (aK st) (ai st) .none kV doc pm an cdv ct) ⟨[a,b,d,e,g],[]⟩=pure (ps.zip [a,b,d,e,g])):Binds K fd ps []:=
 F.binds fun kV doc pm an cdv ct us hl=>Br.NF (C:=fun us=>bindArgs (QY x qual (aN st) (aK st) (ai st) .none kV doc pm an cdv ct) ⟨us,[]⟩=pure (ps.zip us)) (hl.trans hp) (h kV doc pm an cdv ct)
theorem Fun.Cf(F:Fun K x qual st f fd)(hp:ps.length=6)(h:∀(kV doc pm:Value) (an:Option Addr) (cdv ct:Value) (a b d e g i:Value),bindArgs (QY x qual (aN st) (aK st) (ai st) .none kV doc pm an cdv ct) ⟨[a,b,d,e,g,i],[]⟩=pure (ps.zip [a,b,d,e,g,i])):Binds K fd ps []:=
 F.binds fun kV doc pm an cdv ct us hl=>Br.NG (C:=fun us=>bindArgs (QY x qual (aN st) (aK st) (ai st) .none kV doc pm an cdv ct) ⟨us,[]⟩=pure (ps.zip us)) (hl.trans hp) (h kV doc pm an cdv ct)
theorem Fun.Ky(F:Fun K x qual st f fd)(hp:ps.length=7)(h:∀(kV doc pm:Value) (an:Option Addr) (cdv ct:Value) (a b d e g i j:Value),bindArgs (QY x qual (aN st) (aK st) (ai st) .none kV doc pm an cdv ct) ⟨[a,b,d,e,g,i,j],[]⟩=pure (ps.zip [a,b,d,e,g,i,j])):Binds K fd ps []:=
 F.binds fun kV doc pm an cdv ct us hl=>Br.PD (C:=fun us=>bindArgs (QY x qual (aN st) (aK st) (ai st) .none kV doc pm an cdv ct) ⟨us,[]⟩=pure (ps.zip us)) (hl.trans hp) (h kV doc pm an cdv ct)
end L2
namespace Dm
noncomputable def dc:Dat->Option Nat
 |.lst []=>some 0
 |.lst (.int _::_)=>some 1
 |.lst (.tup xs::_)=>some (2+xs.length)
 |.lst (.lst _::_)=>some 1000000
 |_=>none
mutual
noncomputable def jO(k:Nat):Dat->Bool
 |.tup xs=>m9 k xs
 | .lst xs=>(match dc (.lst xs) with
  |some j=>decide (j≠k)
  |none=>false)&&m9 k xs
 |.dct _ vs=>m9 k vs
 |.dcp _ vs=>m9 k vs
 |_=>true
noncomputable def m9(k:Nat):List Dat->Bool
 |[]=>true
 |x::r=>jO k x&&m9 k r
end
noncomputable def tkk(k:Nat)(ρ:Env):Val->Option (Dat×Env)
 |.val d=>some (d,ρ)
 |.new d=>some (d,ρ)
 |.slot i=>match ρ[i]? with
  |some (.ow d)=>if dc d=some k then some (d,ρ) else some (d,ρ.set i (.sh d))
  |some (.sh d)=>some (d,ρ)
  |_=>none
noncomputable def tS(k:Nat)(ρ:Env):List Val->Option (List Dat×Env)
 |[]=>some ([],ρ)
 |x::r=>match tkk k ρ x with
  |none=>none
  |some (d,ρ1)=>match tS k ρ1 r with
   |none=>none
   |some (ds,ρ2)=>some (d::ds,ρ2)
noncomputable def eFk(k:Nat)(f:List Dat->Option RV)(as:List FE):FE:=fun ρ=>match eAs as ρ with
 |none=>none
 |some (xs,ρ1)=>match tS k ρ1 xs with
  |none=>none
  |some (ds,ρ2)=>match f ds with
   |none=>none
   |some v=>if jO k v.dat then some (v.a_,ρ2) else none
end Dm
namespace Br
open PySem PySem.Spec PyProof.Rows L2
section
variable{k:Nat}{ρ ρ':Dm.Env}{d:Dm.Dat}{x:Dm.Val}{H H':Hp}
theorem Ae(h:Dm.dc d=some k):∃ds,d=.lst ds:=by
 unfold Dm.dc at h;split at h
 ·exact⟨_,rfl⟩
 ·exact⟨_,rfl⟩
 ·exact⟨_,rfl⟩
 ·exact⟨_,rfl⟩
 ·cases h
theorem yC{H:Hp}{a:Addr}{xs ys:List V}(h:H a=some (.tup xs))(q:Rd H a (.lst ys)):False:=by
 rcases q with q | ⟨o,q⟩
 ·rw[h]at q;cases q
 ·rw[h]at q;cases q
theorem Cg{H:Hp}{xs:List V}{ds es:List Dm.Dat}{j k:Nat}(r:av H xs ds)(q:av H xs es)(h1:Dm.dc (.lst ds)=some j)(h2:Dm.dc (.lst es)=some k):j=k:=by
 cases r with
 |nil=>cases q;cases h1;cases h2;rfl
 |cons r _=>
  cases q with
  |cons q _=>
   unfold Dm.dc at h1 h2;split at h1
   ·rename_i z;cases z
   ·rename_i z;cases z;cases r;cases q;cases h1;cases h2;rfl
   ·rename_i z;cases z;cases h1;split at h2
    ·rename_i z;cases z
    ·rename_i z;cases z;cases q;cases r
    ·rename_i z;cases z;cases h2;cases r with
     |tup a ra=>
      cases q with
      |tup b rb=>rw[a]at b;cases b;rw[<- ra.length,<- rb.length]
    ·rename_i z;cases z;cases r with
     |tup a ra=>
      cases q with
      |lst b rb=>exact(yC a b).elim
    ·cases h2
   ·rename_i z;cases z;cases h1;split at h2
    ·rename_i z;cases z
    ·rename_i z;cases z;cases q;cases r
    ·rename_i z;cases z;cases q with
     |tup a ra=>
      cases r with
      |lst b rb=>exact(yC a b).elim
    ·cases h2;rfl
    ·cases h2
   ·cases h1
theorem Kz(e:Dm.tkk k ρ x=some (d,ρ')):Dm.tk ρ x=some (d,ρ')\/∃i ds,x=.slot i/\ρ[i]?=some (.ow (.lst ds))/\Dm.dc (.lst ds)=some k/\d=.lst ds/\ρ'=ρ:=by
 cases x with
 |val d'=>exact .inl e
 |new d'=>exact .inl e
 |slot i=>
  unfold Dm.tkk at e;dsimp only at e;split at e
  ·rename_i d' h;split at e
   ·rename_i hk;cases e;obtain⟨ds,rfl⟩:=Ae hk;exact .inr ⟨i,ds,rfl,h,hk,rfl,rfl⟩
   ·left;unfold Dm.tk;dsimp only;rw[h];exact e
  ·rename_i d' h;left;unfold Dm.tk;dsimp only;rw[h];exact e
  ·cases e
theorem Ci{d c:Dm.Dat}{i:Nat}(e:Dm.tkk k ρ x=some (d,ρ'))(h:ρ[i]?=some (.ow c))(hc:Dm.dc c=some k):ρ'[i]?=some (.ow c):=by
 cases x with
 |val d'=>cases e;exact h
 |new d'=>cases e;exact h
 |slot j=>
  unfold Dm.tkk at e;dsimp only at e;split at e
  ·rename_i d' hj;split at e
   ·cases e;exact h
   ·rename_i hn;cases e;by_cases q:j=i
    ·subst q;rw[h]at hj;cases hj;exact absurd hc hn
    ·rw[eg q];exact h
  ·cases e;exact h
  ·cases e
theorem qf{k i:Nat}{c:Dm.Dat}(hc:Dm.dc c=some k):∀{xs:List Dm.Val} {ρ ρ':Dm.Env} {ds:List Dm.Dat},Dm.tS k ρ xs=some (ds,ρ')->ρ[i]?=some (.ow c)->ρ'[i]?=some (.ow c)
 |[],_,_,_,e,h=>by cases e;exact h
 |x::xs,ρ,ρ',ds,e,h=>by
  unfold Dm.tS at e;split at e
  ·cases e
  rename_i d ρ1 e1;split at e
  ·cases e
  rename_i ds' ρ2 e2;cases e;exact qf hc e2 (Ci e1 h hc)
def PF(k:Nat)(H0:Hp)(σ:L2.St)(ρ:Dm.Env)(v:V)(d:Dm.Dat):Prop:=Rep H0 v d\/∃(i:Nat) (b:Addr) (ds:List Dm.Dat),d=.lst ds/\v=.ref b/\ρ[i]?=some (.ow (.lst ds))/\Dm.dc (.lst ds)=some k/\σ[i]?=some (some (.ref b))
inductive tT(k:Nat)(H0:Hp)(σ:L2.St)(ρ:Dm.Env):List V->List Dm.Dat->Prop
 |nil:tT k H0 σ ρ [] []
 |cons {v:V} {d:Dm.Dat} {vs:List V} {ds:List Dm.Dat}:PF k H0 σ ρ v d->tT k H0 σ ρ vs ds->tT k H0 σ ρ (v::vs) (d::ds)
theorem wL{Hs H0s H0 H:Hp}{σ:L2.St}{ρs:Dm.Env}:∀{xs:List Dm.Val} {vs:List V} {ρ ρ':Dm.Env} {ds:List Dm.Dat} {H0c:Hp},ESt σ ρs H0s Hs ρ H0c H->ak H0 H0c->cQ Hs H0 H σ ρ vs xs->Dm.tS k ρ xs=some (ds,ρ') ->
  ∃ig,ESt σ ρs H0s Hs ρ' ig H/\ak H0c ig/\tT k ig σ ρ' vs ds
 |[],_,ρ,ρ',ds,H0c,t,b,r,e=>by cases r;cases e;exact⟨H0c,t,ak.refl _,.nil⟩
 |x::xs,_,ρ,ρ',ds,H0c,t,b,r,e=>by
  cases r with
  |cons h r=>
   unfold Dm.tS at e;split at e
   ·cases e
   ·rename_i d ρ1 e1;split at e
    ·cases e
    ·rename_i ds' ρ2 e2;cases e;rcases Kz e1 with e1' | ⟨i,es,rfl,hi,hk,rfl,rfl⟩
     ·obtain⟨H1,t1,b1,r1,o1,d1⟩:=take1 t b h e1';obtain⟨H2,t2,b2,r2⟩:=wL t1 (b.trans b1) (r.rho o1 d1) e2;exact⟨H2,t2,b1.trans b2,.cons (.inl (r1.mono b2)) r2⟩
     ·obtain⟨H2,t2,b2,r2⟩:=wL t b r e2;obtain⟨q,_⟩:=h;obtain⟨a,z,_⟩:=t.st.ow i _ hi;rw[q]at z;cases z;exact⟨H2,t2,b2,.cons (.inr ⟨i,a,es,rfl,rfl,qf hk e2 hi,hk,q⟩) r2⟩
mutual
theorem Rep.noL(hk:∀a o,H a=some o->H' a=some o\/∃xs,o=.lst xs/\∀ds j,av H xs ds->Dm.dc (.lst ds)=some j->j=k):∀{v:V} {d:Dm.Dat},Rep H v d->Dm.jO k d=true->Rep H' v d
 |_,_,.non,_=>.non
 |_,_,.bl b,_=>.bl b
 |_,_,.int i,_=>.int i
 |_,_,.str x,_=>.str x
 | _,_,.tup h r,n=>.tup (by
   rcases hk _ _ h with z | ⟨_,z,_⟩
   ·exact z
   ·cases z) (av.noL hk r (by unfold Dm.jO at n;exact n))
 |_,_,.lst (ds:=ds) h r,n=>by
   unfold Dm.jO at n;rw[QD]at n;refine .lst ?_ (av.noL hk r n.2);rcases h with h | ⟨o,h⟩
   ·rcases hk _ _ h with z | ⟨_,z,kf⟩
    ·exact .inl z
    ·cases z;obtain⟨n1,_⟩:=n;split at n1
     ·rename_i j e;exact absurd (kf ds j r e) (of_decide_eq_true n1)
     ·cases n1
   ·rcases hk _ _ h with z | ⟨_,z,_⟩
    ·exact .inr ⟨o,z⟩
    ·cases z
 | _,_,.dct h e r,n=>.dct (by
   rcases hk _ _ h with z | ⟨_,z,_⟩
   ·exact z
   ·cases z) e (av.noL hk r (by unfold Dm.jO at n;exact n))
 | _,_,.dcp h e r,n=>.dcp (by
   rcases hk _ _ h with z | ⟨_,z,_⟩
   ·exact z
   ·cases z) ⟨e.1,e.2.via fun t vs h=>by
       rcases hk _ _ h with z | ⟨_,z,_⟩
       ·exact z
       ·cases z⟩ (av.noL hk r (by unfold Dm.jO at n;exact n))
 | _,_,.exc h,n=>.exc (by
   rcases hk _ _ h with z | ⟨_,z,_⟩
   ·exact z
   ·cases z)
 | _,_,.bU h k,n=>.bU (by
   rcases hk _ _ h with z | ⟨_,z,_⟩
   ·exact z
   ·cases z) (by
   rcases hk _ _ k with z | ⟨_,z,_⟩
   ·exact z
   ·cases z)
 |_,_,.fn a,_=>.fn a
theorem av.noL(hk:∀a o,H a=some o->H' a=some o\/∃xs,o=.lst xs/\∀ds j,av H xs ds->Dm.dc (.lst ds)=some j->j=k):∀{vs:List V} {ds:List Dm.Dat},av H vs ds->Dm.m9 k ds=true->av H' vs ds
 |_,_,.nil,_=>.nil
 |_,_,.cons h r,n=>by unfold Dm.m9 at n;rw[QD]at n;exact .cons (Rep.noL hk h n.1) (av.noL hk r n.2)
end
end
open Classical in
theorem Cj{k:Nat}{σ:L2.St}{H:Hp}{Q:VK}{f:List Dm.Dat->Option Dm.RV}{fs:List Dm.FE}{E:XK}(h:tD (Dm.eFk k f fs) σ H Q):pR (spD f) [] E (tDA fs) σ H Q:=by
 obtain⟨H0,ρ,x,ρ',st,e,kk⟩:=h;unfold Dm.eFk at e;split at e
 ·cases e
 rename_i xs ρ1 e1;split at e
 ·cases e
 rename_i ds ρ2 e2;split at e
 ·cases e
 rename_i z fz;split at e
 case isFalse=>cases e
 rename_i hno;injection e with e
 injection e with ea eb
 subst ea;subst eb;refine⟨H0,ρ,xs,ρ1,st,e1,fun vs H1 Hb t1 r1=>?_⟩;dsimp only;rw[Rr];obtain⟨H2,t2,b2,r2⟩:=wL t1 (ak.refl _) r1 e2
 let B:Addr->Prop:=fun b=>∃(i:Nat) (es:List Dm.Dat),ρ2[i]?=some (.ow (.lst es))/\Dm.dc (.lst es)=some k/\σ[i]?=some (some (.ref b))
 have hB:∀b,B b->H2 b=none/\∃ys es,Hb b=some (.lst ys)/\av H2 ys es/\Dm.dc (.lst es)=some k:=fun b ⟨i,es,h1,h2,h3⟩=>by obtain⟨a,q,n,ys,w,rs⟩:=t2.st.ow i _ h1;rw[h3]at q;cases q;exact⟨n,ys,es,w,rs,h2⟩
 let H2':Hp:=fun b=>if B b then Hb b else H2 b
 have in':∀b,B b->H2' b=Hb b:=fun b h=>if_pos h;have out':∀b,¬B b->H2' b=H2 b:=fun b h=>if_neg h;have s2:ak H2 H2':=fun b o e=>by
  by_cases q:B b
  ·rw[(hB b q).1]at e;cases e
  ·rw[out' b q];exact e
 have s2b:ak H2' Hb:=fun b o e=>by
  by_cases q:B b
  ·rw[in' b q]at e;exact e
  ·rw[out' b q]at e;exact t2.st.same _ _ e
 have rr:∀{vs:List V} {ds:List Dm.Dat},tT k H2 σ ρ2 vs ds->av H2' vs ds:=fun {vs ds} r=>by
  induction r with
  |nil=>exact .nil
  |cons h _ ih=>
   refine .cons ?_ ih;rcases h with h | ⟨i,b,es,rfl,rfl,h1,h2,h3⟩
   ·exact h.mono s2
   ·obtain⟨a,q,n,ys,w,rs⟩:=t2.st.ow i _ h1;rw[h3]at q;cases q;exact .lst (.inl (by rw[in' _ ⟨i,es,h1,h2,h3⟩];exact w)) (rs.mono s2)
 refine⟨H2',ds,z,s2b,rr r2,fz,fun w H3 Hd g3 r3=>?_⟩
 let H3':Hp:=fun b=>if B b then none else H3 b
 have in3:∀b,B b->H3' b=none:=fun b h=>if_pos h;have m5:∀b,¬B b->H3' b=H3 b:=fun b h=>if_neg h;have gr:aI H2 Hb H3' Hd:=⟨fun b o e=>by
   by_cases q:B b
   ·rw[(hB b q).1]at e;cases e
   ·rw[m5 b q];exact g3.s0 _ _ (s2 _ _ e),g3.s1,fun b o e=>by
   by_cases q:B b
   ·rw[in3 b q]at e;cases e
   ·rw[m5 b q]at e;rcases g3.s2 b o e with y | y
    ·exact .inl y
    ·rw[out' b q]at y;exact .inr y,fun b o e=>by
   by_cases q:B b
   ·rw[in3 b q]at e;cases e
   ·rw[m5 b q]at e;exact g3.s3 _ _ e⟩
 have hk:∀a o,H3 a=some o->H3' a=some o\/∃xs,o=.lst xs/\∀ds j,av H3 xs ds->Dm.dc (.lst ds)=some j->j=k:=fun a o e=>by
  by_cases q:B a
  ·obtain⟨_,ys,es,y,rs,he⟩:=hB a q;have:=g3.s0 a _ ((in' a q).trans y);rw[e]at this;refine .inr ⟨ys,Option.some.inj this,fun ds j r hj=>Cg r ((rs.mono s2).mono g3.s0) hj he⟩
  ·exact .inl (by rw[m5 a q];exact e)
 have r3':qS Hb H3' Hd w z:=by
  cases z with
  |val d=>exact Rep.noL hk r3 hno
  |new d=>
   obtain⟨a,ea,n,n0,w'⟩:=r3;refine⟨a,ea,n,?_,?_⟩
   ·by_cases q:B a
    ·exact in3 a q
    ·rw[m5 a q];exact n0
   ·cases d with
    |lst ds'=>obtain⟨ys,y1,y2⟩:=w';have hn:Dm.jO k (.lst ds')=true:=hno;unfold Dm.jO at hn;rw[QD]at hn;exact⟨ys,y1,av.noL hk y2 hn.2⟩
    |dct ks ds'=>obtain⟨ys,y1,y2,y3⟩:=w';have hn:Dm.jO k (.dct ks ds')=true:=hno;unfold Dm.jO at hn;exact⟨ys,y1,y2,av.noL hk y3 hn⟩
    |dcp ks ds'=>
     obtain⟨ys,y1,y2,y3⟩:=w';have hn:Dm.jO k (.dcp ks ds')=true:=hno;unfold Dm.jO at hn;exact ⟨ys,y1,⟨y2.1,y2.2.via fun t vs h=>by
       rcases hk _ _ h with z | ⟨_,z,_⟩
       ·exact z
       ·cases z⟩,av.noL hk y3 hn⟩
    |_=>exact w'.elim
 exact kk w H3' Hd (t2.trans (.grow t2.st gr)) ((r3'.toV t2.st).early fun a n=>t2.stp.gone n)
section
variable{X:Cx}{e:Expr}{es:List Expr}{fs:List Dm.FE}{p pos:Pos}
theorem nc{k:Nat}(kd:Nat){F:Addr}{fd:FuncData}{ps:List Str}{g:List Dm.Dat->Option Dm.RV}{x:Str}(G:aW X.prog X.w X.K X.mg X.base CX0 k F fd ps (spD g))(hr:bg k X.A)(hg:Gl X x)(hm:X.mg x=some (.ref F))(hk:Rw X.K (.ref F)=true)(hb:Binds X.K fd ps [])
  (ha:DA X (e::es) fs) (NV:(x == ("__debug__" : Str))=false:=by decide) (he:starEach (e::es) X.env=(false,eval e X.env)::starEach es X.env:=by rfl) (CI:(backTo pos (starEach es X.env)).any (·.1)=false:=by rfl) :
  DE X (.Call (.Name x p) (e::es) [] pos) (Dm.eFk kd g fs):=PE.weak (jo G hr hg hm hk hb .nil (sX (X:=X)) ha NV he CI) fun _ _ _=>Cj
end
end Br
namespace Dm
inductive Dp where
 |s (d:Dat)
 |l (xs:List Dp)
 |t (xs:List Dp)
mutual
noncomputable def Dp.dat:Dp->Dat
 |.s d=>d
 |.l xs=>.lst (Dp.iw xs)
 |.t xs=>.tup (Dp.iw xs)
noncomputable def Dp.iw:List Dp->List Dat
 |[]=>[]
 |x::r=>x.dat::Dp.iw r
end
theorem Dp.tU:∀xs:List Dp,Dp.iw xs=xs.map Dp.dat
 |[]=>rfl
 |x::r=>by rw[Dp.iw,Dp.tU r];rfl
theorem Dp.Ck(ds:List Dat):Dp.iw (ds.map Dp.s)=ds:=by rw[Dp.tU,Rk];exact(Tf fun d _=>rfl).trans (R3 ds)
noncomputable abbrev FP:=Env->Option (Dp×Env)
noncomputable def pO(f:FE):FP:=fun ρ=>match f ρ with
 |some (.val d,ρ1)=>some (.s d,ρ1)
 |some (.new (.lst ds),ρ1)=>some (.l (ds.map .s),ρ1)
 | some (.slot i,ρ1)=>(match ρ1[i]? with
  |some (.ow (.lst ds))=>some (.l (ds.map .s),ρ1.set i .un)
  |some (.sh d)=>some (.s d,ρ1)
  |_=>none)
 |_=>none
noncomputable def shC:Cell->Cell
 |.ow d=>.sh d
 |c=>c
noncomputable def yD(ρ:Env):Env:=ρ.map shC
noncomputable abbrev FM:=Env->Dp->Option Out
noncomputable def see(j:Nat)(ρ:Env)(p:Dp):Env:=yD (ρ.set j (.sh p.dat))
end Dm
namespace Br
open PySem PySem.Spec PyProof.Rows L2
mutual
inductive b5(N:Addr->Prop)(H0 H:Hp):V->Dm.Dp->List Addr->Prop
 |s {v:V} {d:Dm.Dat}:Rep H0 v d->b5 N H0 H v (.s d) []
 |l {a:Addr} {vs:List V} {ps:List Dm.Dp} {fp:List Addr}:N a->H a=some (.lst vs)->aH N H0 H vs ps fp->b5 N H0 H (.ref a) (.l ps) (a::fp)
 |t {a:Addr} {vs:List V} {ps:List Dm.Dp} {fp:List Addr}:N a->H a=some (.tup vs)->aH N H0 H vs ps fp->b5 N H0 H (.ref a) (.t ps) fp
inductive aH(N:Addr->Prop)(H0 H:Hp):List V->List Dm.Dp->List Addr->Prop
 |nil:aH N H0 H [] [] []
 |cons {v:V} {p:Dm.Dp} {f:List Addr} {vs:List V} {ps:List Dm.Dp} {fp:List Addr}:b5 N H0 H v p f->aH N H0 H vs ps fp->aH N H0 H (v::vs) (p::ps) (f++fp)
end
section
variable{N N':Addr->Prop}{H0 H H0' H':Hp}
mutual
theorem b5.mono(s:ak H0 H0')(kn:∀a,N a->N' a)(kt:∀a vs,N a->H a=some (.tup vs)->H' a=some (.tup vs)):∀{v:V} {p:Dm.Dp} {fp:List Addr},b5 N H0 H v p fp->(∀a∈fp,H' a=H a)->b5 N' H0' H' v p fp
 |_,_,_,.s r,_=>.s (r.mono s)
 |_,_,_,.l n h r,k=>.l (kn _ n) ((k _ gV).trans h) (aH.mono s kn kt r fun b hb=>k b (Pa _ hb))
 |_,_,_,.t n h r,k=>.t (kn _ n) (kt _ _ n h) (aH.mono s kn kt r k)
theorem aH.mono(s:ak H0 H0')(kn:∀a,N a->N' a)(kt:∀a vs,N a->H a=some (.tup vs)->H' a=some (.tup vs)):∀{vs:List V} {ps:List Dm.Dp} {fp:List Addr},aH N H0 H vs ps fp->(∀a∈fp,H' a=H a)->aH N' H0' H' vs ps fp
 |_,_,_,.nil,_=>.nil
 |_,_,_,.cons h r,k=>.cons (b5.mono s kn kt h fun a ha=>k a (Q2 _ ha)) (aH.mono s kn kt r fun a ha=>k a (QV _ ha))
end
mutual
theorem b5.fpN:∀{v:V} {p:Dm.Dp} {fp:List Addr},b5 N H0 H v p fp->∀a∈fp,N a/\∃xs,H a=some (.lst xs)
 |_,_,_,.s _,_,h=>by cases h
 |_,_,_,.l n h r,a,ha=>by
  rcases Qw.mp ha with rfl | ha
  ·exact⟨n,_,h⟩
  ·exact aH.fpN r a ha
 |_,_,_,.t n h r,a,ha=>aH.fpN r a ha
theorem aH.fpN:∀{vs:List V} {ps:List Dm.Dp} {fp:List Addr},aH N H0 H vs ps fp->∀a∈fp,N a/\∃xs,H a=some (.lst xs)
 |_,_,_,.nil,_,h=>by cases h
 |_,_,_,.cons h r,a,ha=>(QE.mp ha).elim (b5.fpN h a) (aH.fpN r a)
end
mutual
theorem b5.rep(s:ak H0 H0')(k:∀a o,N a->H a=some o->H0' a=some o):∀{v:V} {p:Dm.Dp} {fp:List Addr},b5 N H0 H v p fp->Rep H0' v p.dat
 |_,_,_,.s r=>r.mono s
 |_,_,_,.l n h r=>.lst (.inl (k _ _ n h)) (aH.rep s k r)
 |_,_,_,.t n h r=>.tup (k _ _ n h) (aH.rep s k r)
theorem aH.rep(s:ak H0 H0')(k:∀a o,N a->H a=some o->H0' a=some o):∀{vs:List V} {ps:List Dm.Dp} {fp:List Addr},aH N H0 H vs ps fp->av H0' vs (Dm.Dp.iw ps)
 |_,_,_,.nil=>.nil
 |_,_,_,.cons h r=>.cons (b5.rep s k h) (aH.rep s k r)
end
theorem aH.rE:∀{vs:List V} {ds:List Dm.Dat},av H0 vs ds->aH N H0 H vs (ds.map .s) []
 |_,_,.nil=>.nil
 |_,_,.cons h r=>.cons (.s h) (aH.rE r)
theorem aH.length:∀{vs:List V} {ps:List Dm.Dp} {fp:List Addr},aH N H0 H vs ps fp->vs.length=ps.length
 |_,_,_,.nil=>rfl
 |_,_,_,.cons _ r=>by rw[QO,QO,aH.length r]
end
theorem ay.iy{H0 H:Hp}{σ:L2.St}{ρ:Dm.Env}{a:Addr}{vs:List V}(st:ay H0 H σ ρ)(h:H a=some (.tup vs)):¬aj σ ρ a:=fun⟨i,d,h1,h2⟩=>by
 obtain⟨b,q,n,w⟩:=st.ow i d h1;rw[h2]at q;cases q;cases d with
 |lst ds=>obtain⟨xs,y,_⟩:=w;rw[h]at y;cases y
 |dct ks ds=>obtain⟨xs,y,_⟩:=w;rw[h]at y;cases y
 |dcp ks ds=>obtain⟨xs,y,_⟩:=w;rw[h]at y;cases y
 |_=>exact w
theorem b5.est{N:Addr->Prop}{σ:L2.St}{ρ ρ':Dm.Env}{H0 H H0' H':Hp}{v:V}{p:Dm.Dp}{fp:List Addr}(st:ay H0 H σ ρ)(t:ESt σ ρ H0 H ρ' H0' H')(r:b5 N H0 H v p fp)(k:∀a∈fp,H0 a=none/\¬aj σ ρ a) :
  b5 N H0' H' v p fp/\∀a∈fp,H0' a=none/\¬aj σ ρ' a:=by
 refine⟨r.mono t.stp.s0 (fun _ n=>n) (fun a vs _ h=>t.stp.s1 a _ h (st.iy h)) fun a ha=>?_,fun a ha=>?_⟩
 ·obtain⟨_,xs,h⟩:=r.fpN a ha;rw[(t.cR h (k a ha).1 (k a ha).2).1,h]
 ·obtain⟨_,xs,h⟩:=r.fpN a ha;exact(t.cR h (k a ha).1 (k a ha).2).2
def lK(σ:L2.St)(ρ:Dm.Env)(H:Hp)(a:Addr):Prop:=H a=none\/aj σ ρ a
def eW(σ:L2.St)(ρ:Dm.Env)(H0:Hp)(fp:List Addr):Prop:=fp.Nodup/\∀a∈fp,H0 a=none/\¬aj σ ρ a
def tDp(f:Dm.FP):TE:=fun σ H Q=>∃H0 ρ p ρ',ay H0 H σ ρ/\f ρ=some (p,ρ')/\∀v H0' H' fp,ESt σ ρ H0 H ρ' H0' H'->b5 (lK σ ρ H) H0' H' v p fp->eW σ ρ' H0' fp->Q v H'
noncomputable abbrev DP(X:Cx)(e:Expr)(f:Dm.FP):Prop:=PE X e (tDp f)
section
variable{σ:L2.St}{H:Hp}{Q:VK}
theorem PJ{f:Dm.FE}(h:tDp (Dm.pO f) σ H Q):tD f σ H Q:=by
 obtain⟨H0,ρ,p,ρ',st,e,k⟩:=h;unfold Dm.pO at e;split at e
 ·rename_i d ρ1 e1;cases e;exact⟨H0,ρ,_,_,st,e1,fun v H0' H' t r=>k v H0' H' [] t (.s r) ⟨List.nodup_nil,fun a h=>by cases h⟩⟩
 ·rename_i ds ρ1 e1;cases e;refine⟨H0,ρ,_,_,st,e1,fun v H0' H' t r=>?_⟩;obtain⟨a,rfl,n,no,n0,xs,y,rs⟩:=r;refine k _ H0' H' [a] t (.l (.inl n) y (.rE rs)) ⟨by simp,fun b hb=>?_⟩;rw[QN.mp hb];exact⟨n0,no⟩
 ·rename_i i ρ1 e1;split at e
  ·rename_i ds h1;cases e;refine⟨H0,ρ,_,_,st,e1,fun v H0' H' t r=>?_⟩;obtain⟨q,_⟩:=r;obtain⟨a,q',n0,xs,y,rs⟩:=t.st.ow i _ h1;rw[q]at q';cases q';have ow:aj σ ρ1 a:=⟨i,_,h1,q⟩
   refine k _ H0' H' [a] ⟨t.st.mask i,t.stp,fun b z=>?_,fun j z=>trivial⟩ (.l (.inr (t.own a ow)) y (.rE rs)) ⟨by simp,fun b hb=>?_⟩
   ·obtain⟨j,d2,_,z1,z2⟩:=bM z;exact t.own b ⟨j,d2,z1,z2⟩
   ·rw[QN.mp hb];refine⟨n0,fun z=>?_⟩;obtain⟨j,d2,hj,z1,z2⟩:=bM z;exact hj (t.st.dis j i d2 _ a z1 h1 z2 q)
  ·rename_i d h1;cases e;refine⟨H0,ρ,_,_,st,e1,fun v H0' H' t r=>?_⟩;obtain⟨q,_⟩:=r;obtain⟨u,q',w⟩:=t.st.sh i d h1;rw[q]at q';cases q';exact k _ H0' H' [] t (.s w) ⟨List.nodup_nil,fun a h=>by cases h⟩
  ·cases e
 ·cases e
theorem lK.back{σ:L2.St}{ρ ρ1:Dm.Env}{H0 H H1 Hb:Hp}(t:ESt σ ρ H0 H ρ1 H1 Hb){a:Addr}(n:lK σ ρ1 Hb a):lK σ ρ H a:=n.elim (fun z=>.inl (t.stp.gone z)) fun z=>.inr (t.own a z)
theorem eW.app{σ:L2.St}{ρ1 ρ2:Dm.Env}{H1 Hb H2 Hc:Hp}{f fp:List Addr}(hf:f.Nodup)(h1:∀a∈f,(∃o,Hb a=some o)/\¬aj σ ρ1 a)(h2:∀a∈f,H2 a=none/\¬aj σ ρ2 a)(g:eW σ ρ2 H2 fp)(gn:∀a∈fp,lK σ ρ1 Hb a):eW σ ρ2 H2 (f++fp):=by
 refine⟨Rj.mpr ⟨hf,g.1,fun a ha b hb z=>?_⟩,fun a ha=>(QE.mp ha).elim (h2 a) (g.2 a)⟩;subst z;obtain⟨⟨o,q1⟩,q2⟩:=h1 a ha;rcases gn a hb with z | z
 ·rw[q1]at z;cases z
 ·exact q2 z
end
section
variable{X:Cx}{e:Expr}{es:List Expr}{f:Dm.FE}{fp:Dm.FP}{fps:List Dm.FP}{pos:Pos}
theorem p_o(h:DE X e f):DP X e (Dm.pO f):=PE.weak h fun _ _ _=>PJ
end
theorem ay.KA{H0 H:Hp}{σ:L2.St}{ρ:Dm.Env}(st:ay H0 H σ ρ)(j:Nat)(v:Option V):ay H0 H (σ.set j v) (ρ.set j .un)/\∀a,aj (σ.set j v) (ρ.set j .un) a->aj σ ρ a:=by
 refine⟨⟨st.same,by rw[QU,QU];exact st.len,fun i d h=>?_,fun i d h=>?_,fun i i' d d' a h1 h2 h3 h4=>?_⟩,fun a ⟨i,d,h1,h2⟩=>?_⟩
 ·rcases aD h with⟨_,z⟩ | ⟨hij,h⟩
  ·cases z
  ·obtain⟨v,q,r⟩:=st.sh i d h;exact⟨v,by rw[eg (Ne.symm hij)];exact q,r⟩
 ·rcases aD h with⟨_,z⟩ | ⟨hij,h⟩
  ·cases z
  ·obtain⟨v,q,r⟩:=st.ow i d h;exact⟨v,by rw[eg (Ne.symm hij)];exact q,r⟩
 ·rcases aD h1 with⟨_,z⟩ | ⟨q1,h1⟩
  ·cases z
  rcases aD h2 with⟨_,z⟩ | ⟨q2,h2⟩
  ·cases z
  rw[eg (Ne.symm q1)]at h3;rw[eg (Ne.symm q2)]at h4;exact st.dis i i' d d' a h1 h2 h3 h4
 ·rcases aD h1 with⟨_,z⟩ | ⟨hij,h1⟩
  ·cases z
  ·rw[eg (Ne.symm hij)]at h2;exact⟨i,d,h1,h2⟩
structure MS(j:Nat)(σs:L2.St)(ρs:Dm.Env)(H0s Hs:Hp)(σ:L2.St)(ρ:Dm.Env)(H0 H:Hp)(p:Dm.Dp):Prop where
 st:ay H0 H σ ρ
 stp:Stp (aj σs ρs) H0s Hs H0 H
 own:∀a,aj σ ρ a->aj σs ρs a\/Hs a=none
 fx:σ[0]?=σs[0]?
 ex:∃v fp,σ[j]?=some (some v)/\b5 (fun a=>Hs a=none) H0 H v p fp/\eW σ ρ H0 fp
section
variable{j:Nat}{σs:L2.St}{ρs:Dm.Env}{H0s Hs:Hp}{σ:L2.St}{ρ ρ':Dm.Env}{H0 H H0' H':Hp}{p:Dm.Dp}
theorem MS.sst(n:MS j σs ρs H0s Hs σ ρ H0 H p):SSt σs ρs H0s Hs σ ρ H0 H:=⟨n.st,n.stp,n.own,n.fx⟩
theorem MS.est(n:MS j σs ρs H0s Hs σ ρ H0 H p)(t:ESt σ ρ H0 H ρ' H0' H'):MS j σs ρs H0s Hs σ ρ' H0' H' p:=by obtain⟨v,fp,h1,h2,h3⟩:=n.ex;obtain⟨m1,m2⟩:=h2.est n.st t h3.2;exact⟨t.st,n.stp.trans t.stp n.own,fun a z=>n.own a (t.own a z),n.fx,v,fp,h1,m1,h3.1,m2⟩
theorem MS.grow(n:MS j σs ρs H0s Hs σ ρ H0 H p)(g:aI H0 H H0' H'):MS j σs ρs H0s Hs σ ρ H0' H' p:=n.est (.grow n.st g)
open Classical in
noncomputable def bor(H0 H:Hp)(N:Addr->Prop):Hp:=fun a=>match H0 a with
 |some o=>some o
 |none=>if N a then H a else none
theorem cI{N:Addr->Prop}:ak H0 (bor H0 H N):=fun a o e=>by unfold bor;rw[e]
theorem lX{N:Addr->Prop}(s:ak H0 H):ak (bor H0 H N) H:=fun a o e=>by
 unfold bor at e;split at e
 ·rename_i q;cases e;exact s _ _ q
 ·split at e
  ·exact e
  ·cases e
theorem ki{N:Addr->Prop}(s:ak H0 H){a:Addr}{o:HO}(n:N a)(h:H a=some o):bor H0 H N a=some o:=by
 unfold bor;split
 ·rename_i o' q;rw[<- h];exact(s _ _ q).symm
 ·rw[if_pos n];exact h
def Look(Hs:Hp)(σ:L2.St)(ρ:Dm.Env)(a:Addr):Prop:=Hs a=none\/aj σ ρ a
theorem iz{j:Nat}{σ:L2.St}{ρ:Dm.Env}{p:Dm.Dp}{a:Addr}:¬aj σ (Dm.see j ρ p) a:=fun⟨i,d,h1,_⟩=>by
 unfold Dm.see Dm.yD at h1;rw[QL]at h1;cases q:(ρ.set j (.sh p.dat))[i]? with
 |none=>rw[q]at h1;cases h1
 |some c=>rw[q]at h1;cases c<;>cases h1
theorem MS.see(n:MS j σs ρs H0s Hs σ ρ H0 H p):ay (bor H0 H (Look Hs σ ρ)) H σ (Dm.see j ρ p):=by
 obtain⟨v,fp,h1,h2,h3⟩:=n.ex;refine⟨lX n.st.same,by unfold Dm.see Dm.yD;rw[gc,QU];exact n.st.len,fun i d h=>?_,fun i d h=>?_,fun i i' d d' a z1 z2 z3 z4=>?_⟩
 ·unfold Dm.see Dm.yD at h;rw[QL]at h;cases q:(ρ.set j (.sh p.dat))[i]? with
  |none=>rw[q]at h;cases h
  |some c=>
   rw[q]at h;rcases aD q with⟨rfl,rfl⟩ | ⟨_,q⟩
   ·cases h;exact⟨v,h1,h2.rep cI fun a o z w=>ki n.st.same (.inl z) w⟩
   ·cases c with
    |un=>cases h
    |sh d'=>cases h;obtain⟨u,w1,w2⟩:=n.st.sh i d q;exact⟨u,w1,w2.mono cI⟩
    |ow d'=>
     cases h;obtain⟨a,w1,w2,w3⟩:=n.st.ow i d q;have lk:Look Hs σ ρ a:=.inr ⟨i,d,q,w1⟩;refine⟨_,w1,?_⟩;cases d with
     |lst ds=>obtain⟨xs,y,rs⟩:=w3;exact .lst (.inl (ki n.st.same lk y)) (rs.mono cI)
     |dct ks ds=>obtain⟨xs,y,k,rs⟩:=w3;exact .dct (ki n.st.same lk y) k (rs.mono cI)
     |dcp ks ds=>obtain⟨xs,y,k,rs⟩:=w3;exact .dcp (ki n.st.same lk y) (k.mono cI) (rs.mono cI)
     |_=>exact w3.elim
 ·exact(iz (σ:=Ds (i+1) (some (V.ref 0))) (a:=0) ⟨i,d,h,by rw[Rp,if_pos (Sg i)]⟩).elim
 ·exact(iz ⟨i,d,z1,z3⟩).elim
theorem MS.seen(n:MS j σs ρs H0s Hs σ ρ H0 H p){Hb:Hp}(t:ESt σ (Dm.see j ρ p) Hb H ρ' H0' H'):aI H0 H H0 H':=
 ⟨ak.refl _,fun a o e=>t.stp.s1 a o e iz,fun a o e=>.inr e,n.st.same.trans fun a o e=>t.stp.s1 a o e iz⟩
end
def tDM(j:Nat)(g:Dm.FM):TS:=fun D σ H=>∃σs ρs H0s Hs H0 ρ p o,MS j σs ρs H0s Hs σ ρ H0 H p/\g ρ p=some o/\mG D σs ρs H0s Hs o
noncomputable abbrev DMs(X:Cx)(j:Nat)(st:List Stmt)(g:Dm.FM):Prop:=PSs X st (tDM j g)
section
variable{D:Ends}{σ:L2.St}{H:Hp}{j:Nat}
theorem MS.wr{σs:L2.St}{ρs:Dm.Env}{H0s Hs:Hp}{ρ:Dm.Env}{H0:Hp}{p:Dm.Dp}(n:MS j σs ρs H0s Hs σ ρ H0 H p){a:Addr}(h1:Hs a=none)(h2:H0 a=none)(h3:¬aj σ ρ a)(o:HO):SSt σs ρs H0s Hs σ ρ H0 (upd H a o):=
 ⟨n.st.aside h2 h3,n.stp.aside h1,n.own,n.fx⟩
end
end Br
namespace Dm
mutual
noncomputable def ng:Dat->Bool
 |.tup xs=>yE xs
 |.lst _=>false
 |.dct _ _=>false
 |.dcp _ _=>false
 |.exc _=>false
 |.bU _ _=>false
 |_=>true
noncomputable def yE:List Dat->Bool
 |[]=>true
 |x::r=>ng x&&yE r
end
mutual
noncomputable def eX:Dp->Bool
 |.s d=>ng d
 |.l xs=>d9 xs
 |.t xs=>d9 xs
noncomputable def d9:List Dp->Bool
 |[]=>true
 |x::r=>eX x&&d9 r
end
noncomputable def gu(bd:FB)(el:FP):List Dat->Env->List Dp->Option (List Dp×Env)
 |[],ρ,pI=>some (pI,ρ)
 |d::r,ρ,pI=>match bd d ρ with
  |none=>none
  |some ρ1=>match el ρ1 with
   |none=>none
   |some (p,ρ2)=>gu bd el r ρ2 (pI++[p])
noncomputable def qg(it:FI)(own:Nat)(bd:FB)(el:FP):FP:=fun ρ=>match it ρ with
 |none=>none
 | some (ds,ρ1)=>if ds.length≤SZ then (match gu bd el ds (ρ1++Ds own .un) [] with
  |none=>none
  |some (ps,ρ2)=>some (.l ps,ρ2.take ρ1.length)) else none
noncomputable def yF:List Dat->Bool
 |[]=>true
 |d::r=>!cj d&&yF r
inductive OM where
 |nx (ρ:Env) (p:Dp)
 |rt (d:Dat) (ρ:Env)
noncomputable abbrev FC:=Env->Dp->Option OM
noncomputable def Qn(s u:FC):FC:=fun ρ p=>match s ρ p with
 |some (.nx ρ1 p1)=>u ρ1 p1
 |o=>o
noncomputable def qh(j i:Nat)(f:FP):FC:=fun ρ p=>if i=0\/i=j then none else match f (see j ρ p) with
 |none=>none
 |some (q,_)=>if eX q then some (.nx (ρ.set i (.sh q.dat)) p) else none
noncomputable def rF(rows:List Dp)(k:Int)(d:Dat):Option (List Dp):=match ixN rows.length k with
 |none=>none
 |some m=>match rows[m]? with
  |some (.l items)=>if items.length<SZ then some (rows.set m (.l (items++[.s d]))) else none
  |_=>none
noncomputable def Af(j:Nat)(i e:FE):FC:=fun ρ p=>match p with
 | .l rows=>(match i (see j ρ p) with
  | some (.val (.int k),_)=>(match e (see j ρ p) with
   | some (.val d,_)=>if cj d then none else (match rF rows k d with
    |some rows'=>some (.nx ρ (.l rows'))
    |none=>none)
   |_=>none)
  |_=>none)
 |_=>none
noncomputable def lN(s:FC)(g:FM):FM:=fun ρ p=>match s ρ p with
 |some (.nx ρ1 p1)=>g ρ1 p1
 |some (.rt d ρ1)=>some (.ret (.val d) ρ1)
 |none=>none
end Dm
namespace Br
open PySem PySem.Spec PyProof.Rows L2
section
variable{is:List Nat}{bd:Dm.FB}{H0 H1:Hp}{σ:L2.St}{g:TG}
theorem aH.snoc{N:Addr->Prop}{H0 H:Hp}{w:V}{q:Dm.Dp}{f:List Addr}(r:b5 N H0 H w q f):∀{vs:List V} {ps:List Dm.Dp} {fp:List Addr},aH N H0 H vs ps fp->aH N H0 H (vs++[w]) (ps++[q]) (fp++f)
 |_,_,_,.nil=>by have:=aH.cons r (aH.nil (N:=N) (H0:=H0) (H:=H));rw[Rr]at this;exact this
 |_,_,_,.cons h t=>by have:=aH.cons h (aH.snoc r t);rw[<- Sv]at this;exact this
theorem Cm{own:Nat}{el:Dm.FP}{Q:VK}{H00 Hb:Hp}{ρ1 ρ2:Dm.Env}{ds:List Dm.Dat}{ps:List Dm.Dp}{J:It}(hb:BD is g bd)(hl:∀i∈is,σ.length<=i)
  (st1:ay H00 Hb σ ρ1) (jw:JW J H00 ds) (hsz:ds.length<=Dm.SZ) (e2:Dm.gu bd el ds (ρ1++Ds own .un) []=some (ps,ρ2)) (D:Addr) (hD:Hb D=none)
  (k:∀H0' H' fp,ESt σ ρ1 H00 Hb (ρ2.take ρ1.length) H0' H'->b5 (lK σ ρ1 Hb) H0' H' (.ref D) (.l ps) fp->eW σ (ρ2.take ρ1.length) H0' fp->Q (.ref D) H') :
  ∃W:Nat->Nat->L2.St->Hp->Prop,(∃m,W 0 m (σ++Ds own none) (upd Hb D (.lst [])))/\∀i m σ' H',W i m σ' H' ->
  (J.stop i H'∧Q (.ref D) H')∨(J.go i H'∧∀ x H2,J.yld i H' x H2→g x σ' H2 fun σ2 H3=>wg σ2 H3 fun b H4=>if b=true
   then tDp el σ2 H4 fun y H5=>∃pI,H5 D=some (.lst pI)/\pI.length<sizeLine/\∃m',m'<m/\W (i+1) m' σ2 (upd H5 D (.lst (pI++[y])))
   else ∃m',m'<m/\W (i+1) m' σ2 H4):=by
 have noD:¬aj σ ρ1 D:=st1.bH hD;refine ⟨fun i m σ' H'=>∃ (H0c:Hp) (ρc:Dm.Env) (pa:List Dm.Dp) (fp:List Addr),ay H0c H' σ' ρc∧ak H00 H0c∧m=ds.length-i∧i≤ds.length∧Dm.gu bd el (ds.drop i) ρc pa=some (ps,ρ2) ∧
  b5 (lK σ ρ1 Hb) H0c H' (.ref D) (.l pa) fp/\pa.length=i/\eW σ' ρc H0c fp/\Stp (aj σ ρ1) H00 Hb H0c H'/\(∀j,j<σ.length->σ'[j]?=σ[j]?)/\(∀a,aj σ' ρc a->aj σ ρ1 a),
  ⟨ds.length,H00,ρ1++Ds own .un,[],[D],(st1.aside (st1.same.free hD) noD).ext own,ak.refl _,by simp,Q4 _,by simpa using e2,.l (.inl hD) au .nil,rfl,⟨by simp,fun a ha=>?_⟩,(Stp.refl _ _ _).aside hD,
   fun j hj=>QI hj,fun a z=>fm st1 z⟩,?_⟩
 ·rw[QN.mp ha];exact⟨st1.same.free hD,fun z=>noD (fm st1 z)⟩
 rintro i m σ' H' ⟨H0c,ρc,pa,fp,sc,s00,rfl,hi,ec,ra,CI,fr,sp,hσ,ho⟩;obtain⟨js,jg⟩:=jw H0c H' s00 sc.same;by_cases CK:i<ds.length
 ·have hd:ds[i]?=some ds[i]:=by simp[CK]
  obtain⟨g1,g2⟩:=jg i ds[i] hd;rw[RO CK]at ec;unfold Dm.gu at ec;refine .inr ⟨g1,fun y H2 yy=>?_⟩;obtain⟨H0',gr,rx⟩:=g2 y H2 yy;split at ec
  ·cases ec
  rename_i ρ3 e3;split at ec
  ·cases ec
  rename_i p5 ρ5 e5;have t2:=ESt.grow sc gr;obtain⟨ra2,fr2⟩:=ra.est sc t2 fr.2;refine hb H0' H2 σ' ρc ρ3 y ds[i] _ t2.st rx e3 fun σ3 st3 o3 k3 d3 _=>?_;unfold wg;dsimp only;rw[if_pos rfl];refine⟨H0',ρ3,p5,ρ5,st3,e5,fun v H5 Hc f5 t5 r5 g5=>?_⟩;have fr3:∀a∈fp,H0' a=none/\¬aj σ3 ρ3 a:=fun a ha=>⟨(fr2 a ha).1,fun z=>(fr2 a ha).2 (o3 a z)⟩;obtain⟨ra5,fr5⟩:=ra2.est st3 t5 fr3;have sp3:Stp (aj σ ρ1) H00 Hb H0' H2:=sp.trans t2.stp fun a z=>.inl (ho a z);have sp5:Stp (aj σ ρ1) H00 Hb H5 Hc:=sp3.trans t5.stp fun a z=>.inl (ho a (o3 a z));have nw:∀a,lK σ3 ρ3 H2 a->lK σ ρ1 Hb a:=fun a z=>z.elim (fun z=>.inl (sp3.gone z)) fun z=>.inr (ho a (o3 a z));have frA:eW σ3 ρ5 H5 (fp++f5):=eW.app (H1:=H0') (Hb:=H2) (Hc:=Hc) fr.1 (fun a ha=>⟨by obtain⟨_,xs,h⟩:=ra2.fpN a ha;exact⟨_,h⟩,(fr3 a ha).2⟩) fr5 g5 fun a ha=>(r5.fpN a ha).1;cases ra5 with
  |l nD hDc rs=>
   rename_i vs fq;obtain⟨z1,z2⟩:=fr5 D gV;have ndA:=frA.1;rw[RZ]at ndA;obtain⟨nd1,nd2⟩:=QB.mp ndA;refine⟨vs,hDc,?_,ds.length-(i+1),by lia,H5,ρ5,pa++[p5],D::(fq++f5),t5.st.aside z1 z2,(s00.trans gr.s0).trans t5.stp.s0,rfl,CK,ec,?_,by simp[CI],frA,sp5.aside hD,fun j hj=>(k3 j fun z=>RS.mpr (hl j z) hj).trans (hσ j hj),fun a z=>ho a (o3 a (t5.own a z))⟩
   ·rw[rs.length,CI];unfold Dm.SZ at hsz;exact QM (QM CK hsz) (by decide)
   ·refine .l nD au ?_;have r5':b5 (lK σ ρ1 Hb) H5 Hc v p5 f5:=r5.mono (ak.refl _) nw (fun _ _ _ h=>h) fun _ _=>rfl;refine(rs.snoc r5').mono (ak.refl _) (fun _ n=>n) (fun a us _ h=>?_) fun a ha=>?_
    ·rw[aA fun z=>?_]
     ·exact h
     ·rw[z,hDc]at h;cases h
    ·exact aA fun z=>nd1 (z▸ha)
 ·have e':i=ds.length:=by lia
  subst e';rw[SE]at ec;cases ec;have ur:σ.length<=ρ2.length:=by rw[<- sc.len];refine RS.mp fun z=>?_;have q:=hσ σ'.length z;rw[Q6 (Pz _),Qz z]at q;cases q
  have tk:∀{j:Nat} {c:Dm.Cell},(ρ2.take ρ1.length)[j]?=some c->j<σ.length/\ρ2[j]?=some c:=fun {j c} h=>by
   have hj:j<ρ1.length:=by
    have:=(Qx.mp h).1;rw[Rl]at this
    lia
   rw[RQ hj]at h;exact⟨by rw[st1.len];exact hj,h⟩
  have own':∀a,aj σ (ρ2.take ρ1.length) a->aj σ' ρ2 a:=fun a ⟨j,d,h1,h2⟩=>by obtain⟨hj,h1⟩:=tk h1;exact⟨j,d,h1,(hσ j hj).trans h2⟩
  refine .inl ⟨js _ (Pz _),k H0c H' fp ⟨⟨sc.same,?_,fun j d h=>?_,fun j d h=>?_,fun j j' d d' a h1 h2 h3 h4=>?_⟩,sp,fun a z=>ho a (own' a z),fun j z=>trivial⟩ ra ⟨fr.1,fun a ha=>⟨(fr.2 a ha).1,fun z=>(fr.2 a ha).2 (own' a z)⟩⟩⟩
  ·rw[Rl,<- st1.len];lia
  ·obtain⟨hj,h⟩:=tk h;obtain⟨v,q,r⟩:=sc.sh j d h;exact⟨v,(hσ j hj).symm.trans q,r⟩
  ·obtain⟨hj,h⟩:=tk h;obtain⟨v,q,r⟩:=sc.ow j d h;exact⟨v,(hσ j hj).symm.trans q,r⟩
  ·obtain⟨hj,h1⟩:=tk h1;obtain⟨hj',h2⟩:=tk h2;exact sc.dis j j' d d' a h1 h2 ((hσ j hj).trans h3) ((hσ j' hj').trans h4)
theorem Gm{H:Hp}{Q:VK}{fi:Dm.FI}{own:Nat}{el:Dm.FP}(hb:BD is g bd)(hl:∀i∈is,σ.length<=i)(h:tDp (Dm.qg fi own bd el) σ H Q):tLC (tDI fi) own g wg (tDp el) σ H Q:=by
 obtain⟨H0,ρ,x,ρ',st,e,k⟩:=h;unfold Dm.qg at e;split at e
 ·cases e
 rename_i ds ρ1 e1;split at e
 case isFalse=>cases e
 rename_i hsz;split at e
 ·cases e
 rename_i ps ρ2 e2;cases e;refine⟨H0,ρ,ds,ρ1,st,e1,fun J H00 Hb t1 jw D hD=>Cm hb hl t1.st jw hsz e2 D hD fun H0' H' fp t2 r2 f2=>k _ H0' H' fp (t1.trans t2) (r2.mono (ak.refl _) (fun a n=>lK.back t1 n) (fun _ _ _ h=>h) fun _ _=>rfl) f2⟩
mutual
theorem Rep.Cn(k:∀a vs,H0 a=some (.tup vs)->H1 a=some (.tup vs)):∀{v:V} {d:Dm.Dat},Rep H0 v d->Dm.ng d=true->Rep H1 v d
 |_,_,.non,_=>.non
 |_,_,.bl b,_=>.bl b
 |_,_,.int i,_=>.int i
 |_,_,.str x,_=>.str x
 |_,_,.tup h r,e=>.tup (k _ _ h) (av.Cn k r (by unfold Dm.ng at e;exact e))
 |_,_,.lst _ _,e=>by unfold Dm.ng at e;cases e
 |_,_,.dct _ _ _,e=>by unfold Dm.ng at e;cases e
 |_,_,.dcp _ _ _,e=>by unfold Dm.ng at e;cases e
 |_,_,.exc _,e=>by unfold Dm.ng at e;cases e
 |_,_,.bU _ _,e=>by unfold Dm.ng at e;cases e
 |_,_,.fn a,_=>.fn a
theorem av.Cn(k:∀a vs,H0 a=some (.tup vs)->H1 a=some (.tup vs)):∀{vs:List V} {ds:List Dm.Dat},av H0 vs ds->Dm.yE ds=true->av H1 vs ds
 |_,_,.nil,_=>.nil
 |_,_,.cons h r,e=>by unfold Dm.yE at e;rw[QD]at e;exact .cons (Rep.Cn k h e.1) (av.Cn k r e.2)
end
end
def PK(D:Ends)(j:Nat)(σs:L2.St)(ρs:Dm.Env)(H0s Hs H0:Hp):Dm.OM->Prop
 |.nx ρ' p'=>∀σ' H0' H',MS j σs ρs H0s Hs σ' ρ' H0' H' p'->ak H0 H0'->D.nx σ' H'
 |.rt d ρ'=>∀σ' v H0' H' p',MS j σs ρs H0s Hs σ' ρ' H0' H' p'->Rep H0' v d->D.rt v H'
def tDC(j:Nat)(g:Dm.FC):TS:=fun D σ H=>∃σs ρs H0s Hs H0 ρ p o,MS j σs ρs H0s Hs σ ρ H0 H p/\g ρ p=some o/\PK D j σs ρs H0s Hs H0 o
noncomputable abbrev DC(X:Cx)(j:Nat)(st:Stmt)(g:Dm.FC):Prop:=PS X st (tDC j g)
section
variable{j:Nat}{σs:L2.St}{ρs:Dm.Env}{H0s Hs:Hp}{σ:L2.St}{ρ ρ':Dm.Env}{H0 H H0' H':Hp}{p q:Dm.Dp}
theorem MS.bind(n:MS j σs ρs H0s Hs σ ρ H0 H p){σ':L2.St}{ρ':Dm.Env}(st:ay H0 H σ' ρ')(o:∀a,aj σ' ρ' a->aj σ ρ a)(hj:σ'[j]?=σ[j]?)(h0:σ'[0]?=σ[0]?):MS j σs ρs H0s Hs σ' ρ' H0 H p:=by obtain⟨v,fp,h1,h2,h3⟩:=n.ex;exact⟨st,n.stp,fun a z=>n.own a (o a z),h0.trans n.fx,v,fp,hj.trans h1,h2,h3.1,fun a ha=>⟨(h3.2 a ha).1,fun z=>(h3.2 a ha).2 (o a z)⟩⟩
theorem MS.set(n:MS j σs ρs H0s Hs σ ρ H0 H p){i:Nat}{v:V}{d:Dm.Dat}(hi:i≠0)(hj:i≠j)(r:Rep H0 v d):MS j σs ρs H0s Hs (σ.set i (some v)) (ρ.set i (.sh d)) H0 H p:=
 n.bind (n.st.qW r) (fun _ z=>dg z) (eg hj) (eg hi)
open Classical in
noncomputable def cpy(Hs H0 H H0' H':Hp):Hp:=fun a=>match H0 a with
 |some o=>some o
 |none=>if H a=none then H' a else match H0' a with
  |some (.tup vs)=>if Hs a=none then some (.tup vs) else none
  |_=>none
theorem kj:ak H0 (cpy Hs H0 H H0' H'):=fun a o e=>by unfold cpy;rw[e]
theorem yG(s:ak H0 H){a:Addr}(h:H a=none):cpy Hs H0 H H0' H' a=H' a:=by unfold cpy;rw[s.free h];dsimp only;rw[if_pos h]
theorem ko{a:Addr}{o:HO}(e:cpy Hs H0 H H0' H' a=some o):H0 a=some o\/(H a=none/\H' a=some o)\/(Hs a=none/\H0' a=some o/\∃vs,o=.tup vs):=by
 unfold cpy at e;split at e
 ·rename_i q;cases e;exact .inl q
 ·split at e
  ·rename_i h;exact .inr (.inl ⟨h,e⟩)
  ·split at e
   ·rename_i vs q;split at e
    ·rename_i h;cases e;exact .inr (.inr ⟨h,q,vs,rfl⟩)
    ·cases e
   ·cases e
mutual
theorem b5.copy{N:Addr->Prop}(kn:∀a o,N a->H' a=some o->cpy Hs H0 H H0' H' a=some o)(kt:∀a vs,H0' a=some (.tup vs)->cpy Hs H0 H H0' H' a=some (.tup vs)):∀{v:V} {p:Dm.Dp} {fp:List Addr},b5 N H0' H' v p fp->Dm.eX p=true->Rep (cpy Hs H0 H H0' H') v p.dat
 |_,_,_,.s r,e=>by unfold Dm.eX at e;exact Rep.Cn kt r e
 |_,_,_,.l n h r,e=>.lst (.inl (kn _ _ n h)) (aH.copy kn kt r (by unfold Dm.eX at e;exact e))
 |_,_,_,.t n h r,e=>.tup (kn _ _ n h) (aH.copy kn kt r (by unfold Dm.eX at e;exact e))
theorem aH.copy{N:Addr->Prop}(kn:∀a o,N a->H' a=some o->cpy Hs H0 H H0' H' a=some o)(kt:∀a vs,H0' a=some (.tup vs)->cpy Hs H0 H H0' H' a=some (.tup vs)):∀{vs:List V} {ps:List Dm.Dp} {fp:List Addr},aH N H0' H' vs ps fp->Dm.d9 ps=true->av (cpy Hs H0 H H0' H') vs (Dm.Dp.iw ps)
 |_,_,_,.nil,_=>.nil
 |_,_,_,.cons h r,e=>by unfold Dm.d9 at e;rw[QD]at e;exact .cons (b5.copy kn kt h e.1) (aH.copy kn kt r e.2)
end
theorem MS.keep(n:MS j σs ρs H0s Hs σ ρ H0 H p)(t:ESt σ (Dm.see j ρ p) (bor H0 H (Look Hs σ ρ)) H ρ' H0' H'){v:V}{fq:List Addr}(r:b5 (lK σ (Dm.see j ρ p) H) H0' H' v q fq)(e:Dm.eX q=true) :
  MS j σs ρs H0s Hs σ ρ (cpy Hs H0 H H0' H') H' p/\Rep (cpy Hs H0 H H0' H') v q.dat:=by
 have up:ak H H':=fun a o e=>t.stp.s1 a o e iz;have lst:∀{a:Addr} {o:HO},H0 a=none->H a=some o->(∀vs,o≠.tup vs)->cpy Hs H0 H H0' H' a=none:=fun {a o} h0 h nt=>by
  cases z:cpy Hs H0 H H0' H' a with
  |none=>rfl
  |some u=>
   rcases ko z with y | ⟨y,_⟩ | ⟨_,y,vs,rfl⟩
   ·rw[h0]at y;cases y
   ·rw[h]at y;cases y
   ·have:=t.st.same _ _ y;rw[up _ _ h]at this;cases this;exact absurd rfl (nt vs)
 obtain⟨w,fp,h1,h2,h3⟩:=n.ex;have stp:Stp (aj σs ρs) H0s Hs (cpy Hs H0 H H0' H') H':=by
  refine⟨n.stp.s0.trans kj,fun a o e' no=>up _ _ (n.stp.s1 a o e' no),fun a o e'=>?_,fun a o e'=>?_⟩
  ·rcases ko e' with y | ⟨y,_⟩ | ⟨y,_⟩
   ·exact n.stp.s2 a o y
   ·exact .inl (n.stp.gone y)
   ·exact .inl y
  ·obtain⟨o',q⟩:=n.stp.s3 a o e';exact⟨o',up _ _ q⟩
 refine⟨⟨⟨fun a o e'=>?_,n.st.len,fun i d h=>?_,fun i d h=>?_,n.st.dis⟩,stp,n.own,n.fx,w,fp,h1,h2.mono kj (fun _ z=>z) (fun a vs _ h=>up _ _ h) fun a ha=>?_,h3.1,fun a ha=>⟨?_,(h3.2 a ha).2⟩⟩,?_⟩
 ·rcases ko e' with y | ⟨_,y⟩ | ⟨_,y,_⟩
  ·exact up _ _ (n.st.same _ _ y)
  ·exact y
  ·exact t.st.same _ _ y
 ·obtain⟨u,z,y⟩:=n.st.sh i d h;exact⟨u,z,y.mono kj⟩
 ·obtain⟨a,z,n0,y⟩:=n.st.ow i d h;obtain⟨o,ho⟩:=y.some;refine⟨a,z,lst n0 ho fun vs e'=>?_,y.mono kj ((up _ _ ho).trans ho.symm)⟩;subst e';exact n.st.iy ho ⟨i,d,h,z⟩
 ·obtain⟨_,xs,h⟩:=h2.fpN a ha;rw[up _ _ h,h]
 ·obtain⟨_,xs,h⟩:=h2.fpN a ha;exact lst (h3.2 a ha).1 h fun vs z=>by cases z
 ·refine r.copy (fun a o z h=>?_) (fun a vs h=>?_) e
  ·rcases z with z | z
   ·rw[yG n.st.same z];exact h
   ·exact(iz z).elim
  ·rcases t.stp.s2 a _ h with z | z | z
   ·rw[yG n.st.same z];exact t.st.same _ _ h
   ·have hH:=lX n.st.same _ _ z;unfold bor at z;split at z
    ·rename_i o q;cases z;exact kj _ _ q
    ·rename_i q;split at z
     ·rename_i lk;rcases lk with lk | lk
      ·unfold cpy;rw[q];dsimp only;rw[if_neg (by rw[hH];simp),h];dsimp only;rw[if_pos lk]
      ·exact(n.st.iy hH lk).elim
     ·cases z
   ·exact(iz z).elim
end
section
variable{D:Ends}{σ:L2.St}{H:Hp}{j:Nat}
theorem Gn{i:Nat}{f:Dm.FP}(h:tDC j (Dm.qh j i f) D σ H):l_ (tDp f) (fS i) D σ H:=by
 obtain⟨σs,ρs,H0s,Hs,H0,ρ,p,o,n,e,k⟩:=h;unfold Dm.qh at e;split at e
 ·cases e
 rename_i hij;split at e
 ·cases e
 rename_i q ρ1 e1;split at e
 case isFalse=>cases e
 rename_i lk;cases e;refine⟨_,_,_,ρ1,n.see,e1,fun v H1 Hb fq t1 r1 g1=>?_⟩;obtain⟨n1,r⟩:=n.keep t1 r1 lk;exact k _ _ Hb (n1.set (fun z=>hij (.inl z)) (fun z=>hij (.inr z)) r) kj
theorem aH.put{N:Addr->Prop}{H0 H:Hp}{items:List Dm.Dp}:∀{vs:List V} {ps:List Dm.Dp} {fp:List Addr} {m:Nat},aH N H0 H vs ps fp->fp.Nodup->ps[m]?=some (.l items) ->
  ∃q xs,vs[m]?=some (.ref q)/\q∈fp/\H q=some (.lst xs)/\xs.length=items.length/\∀w d,Rep H0 w d->aH N H0 (upd H q (.lst (xs++[w]))) vs (ps.set m (.l (items++[.s d]))) fp
 |_,_,_,_,.nil,_,e=>by simp at e
 |_,_,_,0,.cons h r,nd,e=>by
  simp at e;subst e;cases h with
  |l n hq rs=>
   rename_i q xs f;obtain⟨nd1,nd2,nd3⟩:=Rj.mp nd;refine⟨q,xs,rfl,Q2 _ gV,hq,rs.length,fun w d rw=>?_⟩;have ne:∀(a:Addr),a≠q->upd H q (.lst (xs++[w])) a=H a:=fun a z=>aA z;refine .cons (.l n au ?_) (r.mono (ak.refl _) (fun _ z=>z) (fun a us _ z=>?_) fun a ha=>ne a fun z=>nd3 q gV a ha z.symm)
   ·have t:=rs.snoc (b5.s (N:=N) (H:=H) rw);rw[Rr]at t;refine t.mono (ak.refl _) (fun _ z=>z) (fun a us _ z=>?_) fun a ha=>ne a fun z=>(QB.mp nd1).1 (z▸ha);rw[ne a fun y=>by rw[y,hq]at z;cases z];exact z
   ·rw[ne a fun y=>by rw[y,hq]at z;cases z];exact z
 |_,_,_,m+1,.cons h r,nd,e=>by obtain⟨nd1,nd2,nd3⟩:=Rj.mp nd;obtain⟨q,xs,h1,h2,h3,h4,h5⟩:=aH.put (m:=m) r nd2 (by simpa using e);refine⟨q,xs,by simpa using h1,QV _ h2,h3,h4,fun w d rw=>?_⟩;refine .cons (h.mono (ak.refl _) (fun _ z=>z) (fun a us _ z=>?_) fun a ha=>aA fun z=>nd3 a ha q h2 z) (h5 w d rw);rw[aA fun y=>by rw[y,h3]at z;cases z];exact z
theorem KC{K:Dk}{fi f:Dm.FE}(h:tDC j (Dm.Af j fi f) D σ H):pQ (tBM K "list" lR (tOp (A9 K) (l8 j) (tD fi)) (tDA [f])) D σ H:=by
 obtain⟨σs,ρs,H0s,Hs,H0,ρ,p,o,n,e,k⟩:=h;unfold Dm.Af at e;split at e
 case h_2=>cases e
 rename_i rows;split at e
 case h_2=>cases e
 rename_i z ρ1 e1;split at e
 case h_2=>cases e
 rename_i d ρ2 e2;split at e
 ·cases e
 rename_i nb;split at e
 case h_2=>cases e
 rename_i rows' er;cases e;unfold Dm.rF at er;split at er
 ·cases er
 rename_i m em;split at er
 case h_2=>cases er
 rename_i items hi;split at er
 case isFalse=>cases er
 rename_i hz;cases er;obtain⟨v0,fp0,h1,_,_⟩:=n.ex;refine⟨_,h1,_,_,_,ρ1,n.see,e1,fun y H1 Hb t1 r1=>?_⟩;have n1:=n.grow (n.seen t1);obtain⟨v,fp,q1,q2,q3⟩:=n1.ex;rw[h1]at q1;cases q1;cases q2 with
 |l nL hL rs=>
  rename_i L vs _ fp';obtain⟨q,xs,w1,w2,w3,w4,w5⟩:=rs.put (QB.mp q3.1).2 hi;refine⟨L,vs,z,.ref q,rfl,Rep.isInt r1,.inl (.inl hL),?_,.inl ⟨rfl,xs,.inl (.inl w3)⟩,?_⟩
  ·show (L2.ixN vs.length z).bind (fun j=>vs[j]?)=_;rw[rs.length,<- v9,em];exact w1
  refine⟨_,_,[.val d],ρ2,n1.see,by unfold Dm.eAs;rw[e2];rfl,fun us H2 Hc t2 r2=>?_⟩;cases r2 with
  |cons r rr=>
   cases rr;rename_i wv;have n2:=n1.grow (n1.seen t2);have rp:Rep H0 wv d:=Rep.plain r (by simpa using nb);obtain⟨v',fp2,k1,k2,k3⟩:=n2.ex;rw[h1]at k1;cases k1;cases k2 with
   |l nL2 hL2 rs2=>
    rename_i vs2 KD;have g:=n1.seen t2;have ev:vs2=vs:=by have:=g.s1 _ _ hL;rw[hL2]at this;cases this;rfl
    subst ev;obtain⟨q',xs',u1,u2,u3,u4,u5⟩:=rs2.put (QB.mp k3.1).2 hi;rw[w1]at u1;cases u1;have ex:xs'=xs:=by have:=g.s1 _ _ w3;rw[u3]at this;cases this;rfl
    subst ex;refine⟨q,xs',_,rfl,rfl,u3,by rw[u4];exact QM hz (by decide),?_⟩;obtain⟨z1,z2⟩:=k3.2 q (Pa _ u2);have nq:=(rs2.fpN q u2).1;have t:=n2.wr nq z1 z2 (.lst (xs'++[wv]));have neL:L≠q:=fun z=>(QB.mp k3.1).1 (z▸u2);exact k σ H0 _ ⟨t.st,t.stp,t.own,t.fx,_,L::KD,h1,.l nL2 (by rw[aA neL];exact hL2) (u5 _ d rp),k3⟩ (ak.refl _)
theorem KG{s:Dm.FC}{g:Dm.FM}(h:tDM j (Dm.lN s g) D σ H):o9 (tDC j s) (tDM j g) D σ H:=by
 obtain⟨σs,ρs,H0s,Hs,H0,ρ,p,o,n,e,k⟩:=h;unfold Dm.lN at e;split at e
 ·rename_i ρ1 p1 e1;exact⟨σs,ρs,H0s,Hs,H0,ρ,p,_,n,e1,fun σ' H0' H' n' _=>⟨σs,ρs,H0s,Hs,H0',ρ1,p1,o,n',e,k⟩⟩
 ·rename_i d ρ1 e1;cases e;exact⟨σs,ρs,H0s,Hs,H0,ρ,p,_,n,e1,fun σ' v H0' H' p' n' r=>k σ' v H0' H' n'.sst r fun d' a z=>by cases z⟩
 ·cases e
end
section
variable{X:Cx}{st:Stmt}{CJ:List Stmt}{fs gs:Dm.FC}{g:Dm.FM}{e c:Expr}{f:Dm.FE}{pos:Pos}{j:Nat}
theorem m_c(h:DC X j st fs)(hr:DMs X j CJ g):DMs X j (st::CJ) (Dm.lN fs g):=PSs.weak (cO h hr) fun _ _ _=>KG
theorem NH{x:Str}{i:Expr}{fi:Dm.FE}{px sp ap cp:Pos}(hi':DE X i fi)(he:DE X e f)(hi:X.N[j]?=some x:=by rfl)(hv:Vis X.env.scope x:=by trivial)(hd:(x == ("__debug__" : Str))=false:=by decide)
  (Ij:(x == ("__classdict__" : Str))=false:=by decide) (CI:jt i:=by intro _ _;rfl) (Gz:attributeBase (.Subscript (.Name x px) i sp) "append" X.env (eval (.Subscript (.Name x px) i sp) X.env)=eval (.Subscript (.Name x px) i sp) X.env:=by rfl)
  (hfew:((backTo cp (starEach [e] X.env)).all (fun x=>!x.1)&&(backToKw cp (keywordEach [] X.env)).all (fun x=>x.1.isSome)
   && decide ([e].length+([]:List Keyword).length+(if ([]:List Keyword).isEmpty then 0 else 1)<30))=true:=by rfl)
  (Fd:(ap.endLine == cp.line)=true:=by rfl) (hs:starEach [e] X.env=(false,eval e X.env)::starEach [] X.env:=by rfl) (CW:(backTo cp (starEach [] X.env)).any (·.1)=false:=by rfl)
  (hsw:swapsWith (.Call (.Attribute (.Subscript (.Name x px) i sp) "append" ap) [e] [] cp) none pos.line X.env=pure false:=by rfl) :
  DC X j (.Expr (.Call (.Attribute (.Subscript (.Name x px) i sp) "append" ap) [e] [] cp) pos) (Dm.Af j fi f):=
 PS.weak (jl (sS RX SR SS gH (yd lQ (eK hi hv hd Ij) hi' CI) (aa he af hs) Gz hfew Fd hs CW) hsw) fun _ _ _=>KC
theorem KH(i:Nat){x:Str}{pos':Pos}{fp:Dm.FP}(hN:X.N.Nodup)(he:DP X e fp)(hi:X.N[i]?=some x:=by rfl)(hx:Loc X.env.scope x:=by trivial)(hs:swapsWith e (some (.Name x pos')) pos.line X.env=pure false:=by rfl)
  (hf:X.fn x=true\/X.env.scope.names.lookup x=some .local:=by trivial):DC X j (.Assign [.Name x pos'] e pos) (Dm.qh j i fp):=PS.weak (vQ hN hi hx he hs hf) fun _ _ _=>Gn
end
end Br
namespace Dm
noncomputable def pD(j:Nat)(t:FT)(ga g:FM):FM:=fun ρ p=>match t (see j ρ p) with
 |none=>none
 | some (true,_)=>(match ga ρ p with
  |some (.nx _)=>none
  |o=>o)
 |some (false,_)=>g ρ p
end Dm
namespace Br
open PySem PySem.Spec PyProof.Rows L2
section
variable{D:Ends}{σ:L2.St}{H:Hp}{j:Nat}
theorem KI{t:Dm.FT}{ga g:Dm.FM}(h:tDM j (Dm.pD j t ga g) D σ H):o9 (AO (tDT t) (tDM j ga) xW) (tDM j g) D σ H:=by
 obtain⟨σs,ρs,H0s,Hs,H0,ρ,p,o,n,e,k⟩:=h;unfold Dm.pD at e;split at e
 ·cases e
 ·rename_i ρ1 e1;refine⟨_,_,true,ρ1,n.see,e1,fun H1 Hb t1=>?_⟩;dsimp only;rw[if_pos rfl];have n1:=n.grow (n.seen t1);split at e
  ·cases e
  ·rename_i hn;refine⟨σs,ρs,H0s,Hs,H0,ρ,p,o,n1,e,?_⟩;cases o with
   |nx ρ'=>exact(hn ρ' e).elim
   |bk ρ'=>exact k
   |ct ρ'=>exact k
   |ret z ρ'=>exact k
 ·rename_i ρ1 e1;refine⟨_,_,false,ρ1,n.see,e1,fun H1 Hb t1=>?_⟩;dsimp only;rw[if_neg Q0];exact⟨σs,ρs,H0s,Hs,H0,ρ,p,o,n.grow (n.seen t1),e,k⟩
end
section
variable{X:Cx}{e c:Expr}{es:List Expr}{CJ:List Stmt}{fs:List Dm.FE}{f:Dm.FE}{fp:Dm.FP}{g ga:Dm.FM}{pos p:Pos}{j:Nat}
theorem NI{t:Dm.FT}{x:List Stmt}(ht:DT X c t)(ha:DMs X j x ga)(hr:DMs X j CJ g):DMs X j (.If c x [] pos::CJ) (Dm.pD j t ga g):=PSs.weak (cO (xY ht ha qJ) hr) fun _ _ _=>KI
end
end Br
namespace Sx
open PySem PySem.SetTable
theorem rG(xs:Array Nat)(j:Nat)(hs:xs.toList.Pairwise (· < ·)):∀(f lo hi:Nat),hi<=xs.size->hi-lo<=f->lo<=hi->(∀i,i<lo->∀v,xs[i]?=some v->v<j)->(∀i,hi<=i->∀v,xs[i]?=some v->j<=v) ->
  (∀i,i<below.go xs j f lo hi->∀v,xs[i]?=some v->v<j)/\(∀i,below.go xs j f lo hi<=i->∀v,xs[i]?=some v->j<=v)/\below.go xs j f lo hi<=xs.size
 |0,lo,hi,h1,h2,h3,a,b=>by
  unfold below.go;have:lo=hi:=by lia
  subst this;exact⟨a,b,h1⟩
 |f+1,lo,hi,h1,h2,h3,a,b=>by
  unfold below.go;have mono:∀i k v w,i<=k->xs[i]?=some v->xs[k]?=some w->v<=w:=fun i k v w hik e1 e2=>by
   rcases Tu hik with z | z
   ·subst z;rw[e1]at e2;cases e2;exact Pz _
   ·obtain⟨q1,q2⟩:=RL.mp e1;obtain⟨q3,q4⟩:=RL.mp e2;have:=SK.mp hs i k (by simpa using q1) (by simpa using q3) z;simp only[Td]at this
    lia
  split
  ·rename_i CK;have hm:(lo+hi) / 2<xs.size:=by lia
   dsimp only;rw[Q5,QJ hm,S4];split
   ·rename_i hv;refine rG xs j hs f _ hi h1 (by lia) (by lia) (fun i hi' v e=>?_) b;have:=mono i ((lo+hi) / 2) v _ (by lia) e (QJ hm)
    lia
   ·rename_i hv;refine rG xs j hs f lo _ (by lia) (by lia) (by lia) a fun i hi' v e=>?_;have:=mono ((lo+hi) / 2) i _ v hi' (QJ hm) e
    lia
  ·have:lo=hi:=by lia
   subst this;exact⟨a,b,h1⟩
theorem cJ{xs:Array Nat}(j:Nat)(hs:xs.toList.Pairwise (· < ·)):(∀i,i<below xs j->∀v,xs[i]?=some v->v<j)/\(∀i,below xs j<=i->∀v,xs[i]?=some v->j<=v)/\below xs j<=xs.size:=
 rG xs j hs xs.size 0 xs.size (Pz _) (by lia) (Q4 _) (fun i h=>by lia) fun i h v e=>by rw[S2 h]at e;cases e
theorem qi{xs:Array Nat}{j:Nat}(hs:xs.toList.Pairwise (· < ·)):xs[below xs j]?=some j↔j∈xs.toList:=by
 obtain⟨a,b,c⟩:=cJ j hs;constructor
 ·intro h;obtain⟨q1,q2⟩:=RL.mp h;rw[<- q2];exact Array.getElem_mem_toList q1
 ·intro h;obtain⟨i,hi,e⟩:=SG h;have hi':i<xs.size:=by simpa using hi
  have e':xs[i]?=some j:=by rw[QJ hi'];simpa using e
  have h1:below xs j<=i:=RS.mp fun z=>by have:=a i z j e';lia
  have hb:below xs j<xs.size:=by lia
  have h2:=b (below xs j) (Pz _) _ (QJ hb);rcases Tu h1 with z | z
  ·rw[z];exact e'
  ·have:=SK.mp hs (below xs j) i (by simpa using hb) hi z;simp only[Td]at this;have e2:xs[i]=j:=by simpa using e
   lia
theorem gv{α:Type}(xs:Array α)(p:Nat)(x:α):(insertAt xs p x).toList=xs.toList.take p++x::xs.toList.drop p:=by unfold insertAt;simp[Array.toList_append,Array.toList_push,Array.toList_extract,List.take_of_length_le]
theorem pF{xs:Array Nat}{j:Nat}(hs:xs.toList.Pairwise (· < ·))(hj:j∉xs.toList):(insertAt xs (below xs j) j).toList.Pairwise (· < ·):=by
 obtain⟨a,b,c⟩:=cJ j hs;rw[gv];have l1:∀v∈xs.toList.take (below xs j),v<j:=fun v hv=>by
  obtain⟨i,hi,e⟩:=SG hv;rw[Rl]at hi;rw[List.getElem_take]at e;refine a i (by lia) v ?_;rw[QJ (by rw[QH]at hi;lia)]
  simpa using e
 have l2:∀v∈xs.toList.drop (below xs j),j<v:=fun v hv=>by
  have hm:=Te hv;obtain⟨i,hi,e⟩:=SG hv;rw[Se,QH]at hi;rw[List.getElem_drop]at e;have:=b (below xs j+i) (by lia) v (by rw[QJ (by lia)];simpa using e);rcases Tu this with z | z
  ·exact absurd (z▸hm) hj
  ·exact z
 rw[List.pairwise_append];refine⟨hs.sublist (List.take_sublist _ _),?_,fun u hu v hv=>?_⟩
 ·rw[RD];exact⟨l2,hs.sublist (List.drop_sublist _ _)⟩
 ·rcases Qw.mp hv with rfl | hv
  ·exact l1 u hu
  ·exact TV (l1 u hu) (l2 v hv)
noncomputable def lp(mask:Nat):Nat->Nat×Nat->Nat×Nat
 |0,q=>q
 |m+1,q=>lp mask m (leap mask q.1 q.2)
noncomputable def lc(mask:Nat):Nat->Nat->Nat
 |0,i=>i
 |m+1,i=>lc mask m ((i*5+1) % (mask+1))
theorem yH(mask:Nat):∀m i,lp mask m (i,0)=(lc mask m i,0)
 |0,_=>rfl
 |m+1,i=>by unfold lp lc leap;simp only[Nat.zero_div,Nat.add_zero];exact yH mask m _
theorem Co(mask:Nat):∀a b q,lp mask (a+b) q=lp mask b (lp mask a q)
 |0,b,q=>by rw[Ul];rfl
 |a+1,b,q=>by rw[Nat.add_right_comm];show lp mask (a+b) (leap mask q.1 q.2)=lp mask b (lp mask a (leap mask q.1 q.2));exact Co mask a b _
theorem Cp(mask:Nat):∀m q,(lp mask m q).2=q.2 / 32 ^ m
 |0,q=>by simp[lp]
 |m+1,q=>by show (lp mask m (leap mask q.1 q.2)).2=_;rw[Cp mask m];unfold leap;dsimp only;rw[Nat.div_div_eq_div_mul,Nat.pow_succ,Nat.mul_comm]
theorem yI(mask:Nat):∀m q,q.1<=mask->(lp mask m q).1<=mask
 |0,_,h=>h
 |m+1,q,h=>yI mask m _ (by unfold leap;exact TM (Uc _ (Um mask)))
def Cov(mask:Nat):Prop:=∀i,i<=mask->∀j,j<=mask->∃m,m<=mask/\lc mask m i=j
noncomputable def NJ(mask:Nat):Bool:=(QG (mask+1)).all fun i=>(QG (mask+1)).all fun j=>(QG (mask+1)).any fun m=>lc mask m i == j
theorem Cq{mask:Nat}(h:NJ mask=true):Cov mask:=fun i hi j hj=>by unfold NJ at h;have h1:=Ra.mp h i (Q3.mpr (by lia));have h2:=Ra.mp h1 j (Q3.mpr (by lia));obtain⟨m,hm,e⟩:=S5.mp h2;have:=Q3.mp hm;exact⟨m,by lia,by simpa using e⟩
theorem PL:Cov 7:=Cq (by decide +kernel)
theorem NK:Cov 31:=Cq (by decide +kernel)
noncomputable def orb(mask:Nat):Nat->Nat->List Nat
 |0,_=>[]
 |m+1,i=>i::orb mask m ((i*5+1) % (mask+1))
theorem Cr(mask:Nat):∀(n i m:Nat),m<n->(orb mask n i)[m]?=some (lc mask m i)
 |0,i,m,h=>by lia
 |n+1,i,0,h=>rfl
 |n+1,i,m+1,h=>by show (orb mask n ((i*5+1) % (mask+1)))[m]?=_;rw[Cr mask n _ m (by lia)];rfl
theorem rH(mask:Nat):∀(n i:Nat),(orb mask n i).length=n
 |0,_=>rfl
 |n+1,i=>by show (orb mask n _).length+1=_;rw[rH mask n]
theorem rJ(mask:Nat):∀a b i,lc mask (a+b) i=lc mask b (lc mask a i)
 |0,b,i=>by rw[Ul];rfl
 |a+1,b,i=>by rw[Nat.add_right_comm];show lc mask (a+b) _=lc mask b (lc mask a _);exact rJ mask a b _
theorem tW{mask:Nat}(h1:((QG (mask+1)).all fun j=>(orb mask (mask+1) 0).elem j)=true)(h2:lc mask (mask+1) 0=0):Cov mask:=fun i hi j hj=>by
 have look:∀x,x<=mask->∃m,m<=mask/\lc mask m 0=x:=fun x hx=>by have:=Ra.mp h1 x (Q3.mpr (by lia));have:=List.elem_iff.mp this;obtain⟨m,hm,e⟩:=SG this;rw[rH]at hm;have e2:=Cr mask (mask+1) 0 m hm;rw[Qz (by rw[rH];exact hm),e]at e2;cases e2;exact⟨m,by lia,rfl⟩
 obtain⟨a,ha,ea⟩:=look i hi;obtain⟨b,hb,eb⟩:=look j hj;by_cases h:a<=b
 ·exact⟨b-a,by lia,by rw[<- ea,<- rJ,show a+(b-a)=b by lia];exact eb⟩
 ·exact⟨mask+1+b-a,by lia,by rw[<- ea,<- rJ,show a+(mask+1+b-a)=mask+1+b by lia,rJ,h2];exact eb⟩
theorem KJ:Cov 127:=tW (by decide +kernel) (by decide +kernel)
theorem KN:Cov 511:=tW (by decide +kernel) (by decide +kernel)
theorem yJ(h:Int):bits h<2 ^ 64:=by
 unfold bits;have h1:(0:Int)<=h % 2 ^ 64:=Int.emod_nonneg _ (by decide);have h2:h % 2 ^ 64<2 ^ 64:=Int.emod_lt_of_pos _ (by decide)
 lia
theorem K9{mask:Nat}(c:Cov mask){i p:Nat}(hi:i<=mask)(hp:p<2 ^ 64){j:Nat}(hj:j<=mask):∃m,m<mask+14/\(lp mask m (i,p)).1=j:=by
 have z:(lp mask 13 (i,p)).2=0:=by rw[Cp];exact Nat.div_eq_of_lt (QM hp (by decide))
 have hl:=yI mask 13 (i,p) hi;obtain⟨m,hm,e⟩:=c _ hl j hj;refine⟨13+m,by lia,?_⟩;rw[Co,show lp mask 13 (i,p)=((lp mask 13 (i,p)).1,0) from Prod.ext rfl z,yH];exact e
theorem sub_len{l m:List Nat}(hl:l.Nodup)(h:∀x∈l,x∈m):l.length<=m.length:=by
 induction l generalizing m with
 |nil=>exact Q4 _
 |cons x l ih=>
  obtain⟨n1,n2⟩:=QB.mp hl;have hx:x∈m:=h x gV;have:=ih (m:=m.erase x) n2 fun y hy=>by rw[List.mem_erase_of_ne (fun z:y=x=>n1 (z▸hy))];exact h y (Pa _ hy)
  rw[List.length_erase_of_mem hx]at this;have:=S3 hx;simp only[QO]
  lia
theorem room{mask:Nat}{l:List Nat}(h:l.length<=mask):∃j,j<=mask/\j∉l:=by
 refine SM fun z=>?_;have:=sub_len (l:=QG (mask+1)) (m:=l) List.nodup_range fun x hx=>SM fun q=>z ⟨x,by have:=Q3.mp hx;lia,q⟩;rw[Rg]at this
 lia
theorem yK(j:Nat):has #[] j=false:=by unfold has;simp
structure Good(t:SetTable)(n:Nat):Prop where
 dm:t.dummies=#[]
 pl:t.plain=true
 cv:Cov t.mask
 ris:t.place.toList.Pairwise (· < ·)
 le:∀j∈t.place.toList,j<=t.mask
 sz:t.place.size=n
theorem Good.slot{t:SetTable}{n:Nat}(g:Good t n)(j:Nat):(j∉t.place.toList/\t.slot j=.empty)\/(j∈t.place.toList/\∃i,t.slot j=.live i):=by
 unfold SetTable.slot;by_cases h:j∈t.place.toList
 ·right;refine⟨h,below t.place j,?_⟩;dsimp only;rw[if_pos (by rw[(qi g.ris).mpr h];exact beq_self_eq_true _)]
 ·left;refine⟨h,?_⟩;dsimp only;rw [if_neg (by
   intro z;exact h ((qi g.ris).mp (by simpa using z))),if_neg (by
   rw[g.dm,yK];exact Q0)]
noncomputable def Ic(mask i p:Nat):Probe:={ j:=i,more:=runEnd mask i-i,i:=i,perturb:=p,dummy:=none }
theorem Gp{t:SetTable}{h:Int}{f k:Nat}{p:Probe}(q:t.slot p.j=.live k):probe.go t (fun _=>h+1) h (f+1) p=probe.go t (fun _=>h+1) h f (t.advance p):=by
 have nh:(h+1 == h)=false:=by
  rw[beq_eq_false_iff_ne]
  lia
 conv=>lhs;unfold probe.go
 rw[q];dsimp only;rw[nh];rfl
theorem Cs{t:SetTable}{h:Int}{f:Nat}{p:Probe}(q:t.slot p.j=.empty):probe.go t (fun _=>h+1) h (f+1) p=some (.empty p.j p.dummy):=by
 conv=>lhs;unfold probe.go
 rw[q]
theorem Ct{t:SetTable}{n:Nat}(g:Good t n){h:Int}{i p:Nat}:∀(d f j:Nat),j+d<=t.mask->d<f -> 
  (∃j',probe.go t (fun _=>h+1) h f { j:=j,more:=d,i:=i,perturb:=p,dummy:=none }=some (.empty j' none)/\j'<=t.mask/\j'∉t.place.toList) \/
  (probe.go t (fun _=>h+1) h f { j:=j,more:=d,i:=i,perturb:=p,dummy:=none }=probe.go t (fun _=>h+1) h (f-(d+1)) (Ic t.mask (leap t.mask i p).1 (leap t.mask i p).2)/\j∈t.place.toList)
 |d,0,j,h1,h2=>by lia
 |d,f+1,j,h1,h2=>by
  rcases g.slot j with⟨q1,q2⟩ | ⟨q1,k,q2⟩
  ·exact .inl ⟨j,Cs (p:={ j:=j,more:=d,i:=i,perturb:=p,dummy:=none }) q2,by lia,q1⟩
  ·rw[Gp (p:={ j:=j,more:=d,i:=i,perturb:=p,dummy:=none }) q2];cases d with
   |zero=>exact .inr ⟨rfl,q1⟩
   |succ d=>
    have ea:t.advance { j:=j,more:=d+1,i:=i,perturb:=p,dummy:=none }={ j:=j+1,more:=d,i:=i,perturb:=p,dummy:=none }:=rfl;rw[ea];rcases Ct g (h:=h) (i:=i) (p:=p) d f (j+1) (by lia) (by lia) with z | ⟨z,_⟩
    ·exact .inl z
    ·refine .inr ⟨?_,q1⟩;rw[z,show f-(d+1)=f+1-(d+1+1) by lia]
theorem tX{t:SetTable}{n:Nat}(g:Good t n){h:Int}:∀(k f i p:Nat),i<=t.mask->10*k<=f->(∃m,m<k/\(lp t.mask m (i,p)).1∉t.place.toList) -> 
  ∃j',probe.go t (fun _=>h+1) h f (Ic t.mask i p)=some (.empty j' none)/\j'<=t.mask/\j'∉t.place.toList
 |0,f,i,p,_,_,⟨m,hm,_⟩=>by lia
 |k+1,f,i,p,hi,hf,⟨m,hm,e⟩=>by
  have hr:runEnd t.mask i-i<=9/\i+(runEnd t.mask i-i)<=t.mask:=by unfold runEnd;split<;>lia
  rcases Ct g (h:=h) (i:=i) (p:=p) (runEnd t.mask i-i) f i hr.2 (by lia) with z | ⟨z,q⟩
  ·exact z
  ·have hm0:m≠0:=fun y=>by subst y;exact e q
   obtain⟨m',rfl⟩:∃m',m=m'+1:=⟨m-1,by lia⟩
   obtain⟨j',a,b,c⟩:=tX g (h:=h) k (f-(runEnd t.mask i-i+1)) (leap t.mask i p).1 (leap t.mask i p).2 (yI t.mask 1 (i,p) hi) (by lia) ⟨m',by lia,e⟩;exact⟨j',z.trans a,b,c⟩
theorem tY{t:SetTable}{n:Nat}(g:Good t n)(hn:n<=t.mask)(h:Int):∃j,t.freeSlot h=some (j,false)/\j<=t.mask/\j∉t.place.toList:=by obtain⟨j0,h0,n0⟩:=room (mask:=t.mask) (l:=t.place.toList) (by rw[QH,g.sz];exact hn);have hi:bits h % (t.mask+1)<=t.mask:=TM (Uc _ (Um _));obtain⟨m,hm,e⟩:=K9 g.cv hi (yJ h) h0;obtain⟨j,a,b,c⟩:=tX g (h:=h) (t.mask+14) (10*turns t.mask) (bits h % (t.mask+1)) (bits h) hi (by unfold turns;lia) ⟨m,hm,by rw[e];exact n0⟩;refine⟨j,?_,b,c⟩;unfold SetTable.freeSlot SetTable.probe;have a':probe.go t (fun _=>h+1) h (10*turns t.mask) (t.probeStart h)=some (.empty j none):=a;rw[a'];rfl
theorem wo{t:SetTable}{n:Nat}(g:Good t n){j:Nat}(h1:j<=t.mask)(h2:j∉t.place.toList):Good (t.put j).1 (n+1)/\(t.put j).1.mask=t.mask/\(t.put j).1.led=t.led:=by
 have hl:(insertAt t.place (below t.place j) j).toList=_:=gv _ _ _;refine⟨⟨?_,g.pl,g.cv,pF g.ris h2,fun i hi=>?_,?_⟩,rfl,rfl⟩
 ·unfold SetTable.put;dsimp only;rw[g.dm];rw[yK];rfl
 ·have hi:i∈(insertAt t.place (below t.place j) j).toList:=hi;rw[hl]at hi;rcases QE.mp hi with hi | hi
  ·exact g.le i (List.mem_of_mem_take hi)
  ·rcases Qw.mp hi with rfl | hi
   ·exact h1
   ·exact g.le i (Te hi)
 ·show (insertAt t.place (below t.place j) j).size=n+1;rw[<- QH,hl,Qv,QO,Rl,Se];have:=(cJ j g.ris).2.2;have:=g.sz;rw[QH]
  lia
theorem Good.fits{t:SetTable}{n:Nat}(g:Good t n)(hn:n<=t.mask):t.fits n=true:=by unfold SetTable.fits SetTable.fill;rw[g.dm,g.sz];simp;exact hn
theorem Ag{t:SetTable}{es:Array (Int×Value)}(g:Good t es.size)(hn:es.size+1<=t.mask)(h:Int)(x:Value) :
  ∃es' t',layNew t es h x=(es',t',false,false)/\Good t' es'.size/\t'.mask=t.mask/\t'.led=t.led/\es'.toList.Perm (es.toList++[(h,x)]):=by
 obtain⟨j,a,b,c⟩:=tY g (by lia) h;obtain⟨g1,g2,g3⟩:=wo g b c;have hl:(insertAt es (t.put j).2 (h,x)).toList=_:=gv _ _ _;have hz:(insertAt es (t.put j).2 (h,x)).size=es.size+1:=by
  rw[<- QH,hl,Qv,QO,Rl,Se];have:=(cJ j g.ris).2.2;rw[g.sz]at this;have:(t.put j).2<=es.size:=this;rw[QH]
  lia
 refine⟨insertAt es (t.put j).2 (h,x),(t.put j).1,?_,by rw[hz];exact g1,g2,g3,?_⟩
 ·unfold layNew;rw[a];dsimp only;unfold SetTable.orStandIn;rw[hz,g1.fits (by rw[g2];exact hn)];rfl
 ·rw[hl];refine T7.trans List.perm_middle ?_;rw[List.take_append_drop];exact(List.perm_append_singleton _ _).symm
theorem gw{α β:Type}{f g:α->Option β}:∀{l:List α},(∀x∈l,f x=g x)->l.filterMap f=l.filterMap g
 |[],_=>rfl
 |x::l,h=>by rw[Rh,Rh,h x gV,gw fun y hy=>h y (Pa _ hy)]
theorem Cu(f:Nat->Option Nat)(j0 k:Nat):∀(l:List Nat),l.Nodup->j0∈l->f j0=none->(l.filterMap (fun j=>if j=j0 then some k else f j)).Perm (k::l.filterMap f)
 |[],_,h,_=>by cases h
 |x::r,nd,h,h0=>by
  obtain⟨n1,n2⟩:=QB.mp nd;by_cases e:x=j0
  ·subst e;have er:r.filterMap (fun j=>if j=x then some k else f j)=r.filterMap f:=gw fun y hy=>by rw[if_neg fun z:y=x=>n1 (z▸hy)]
   rw[Rh,if_pos rfl,Rh,h0,er]
  ·have hr:j0∈r:=(Qw.mp h).resolve_left fun z=>e z.symm;have ih:=Cu f j0 k r n2 hr h0;rw[Rh,if_neg e,Rh];cases f x with
   |none=>exact ih
   |some v=>exact(ih.cons v).trans (.swap _ _ _)
noncomputable def ow(owner:Array (Option Nat))(j:Nat):Option Nat:=owner.getD j none
noncomputable def lay(mask:Nat)(owner:Array (Option Nat)):List Nat:=(QG (mask+1)).filterMap (ow owner)
theorem yL{mask:Nat}{owner:Array (Option Nat)}(hs:owner.size=mask+1):∀(fuel i p:Nat),i<=mask->(∃m,m<fuel/\owner[(lp mask m (i,p)).1]?=some none)->∃j,layClean.free mask owner fuel i p=some j/\j<=mask/\owner[j]?=some none
 |0,i,p,_,⟨m,hm,_⟩=>by lia
 |fuel+1,i,p,hi,⟨m,hm,e⟩=>by
  have hr:i<=runEnd mask i/\runEnd mask i<=mask:=by unfold runEnd;split<;>lia
  unfold layClean.free;cases hf:(QG (runEnd mask i+1-i)).find? fun k=>(owner.getD (i+k) (some 0)).isNone with
  |some k=>
   dsimp only;have h1:=T8 hf;have h2:=Q3.mp (SN hf);refine⟨i+k,rfl,by lia,?_⟩;have CK:i+k<owner.size:=by lia
   rw[Q5,QJ CK,S4]at h1;rw[QJ CK];exact congrArg some (Option.isNone_iff_eq_none.mp h1)
  |none=>
   dsimp only;have h1:=Ss.mp hf 0 (Q3.mpr (by lia));have hm0:m≠0:=fun y=>by subst y;have e:owner[i]?=some none:=e;rw[Nat.add_zero,Q5,e]at h1;exact h1 rfl
   obtain⟨m',rfl⟩:∃m',m=m'+1:=⟨m-1,by lia⟩
   exact yL hs fuel (leap mask i p).1 (leap mask i p).2 (yI mask 1 (i,p) hi) ⟨m',by lia,e⟩
theorem Cv{mask:Nat}{owner:Array (Option Nat)}(hs:owner.size=mask+1)(hk:(lay mask owner).length<=mask):∃j,j<=mask/\owner[j]?=some none:=by
 obtain ⟨j,h1,h2⟩:=room (mask:=mask) (l:=(QG (mask+1)).filter fun j=>(ow owner j).isSome) (by
  have:∀l:List Nat,(l.filter fun j=>(ow owner j).isSome).length=(l.filterMap (ow owner)).length:=fun l=>by
   induction l with
   |nil=>rfl
   |cons x l ih=>
    rw[TU,Rh];cases ow owner x with
    |none=>simpa using ih
    |some v=>simpa using ih
  rw[this];exact hk)
 refine⟨j,h1,?_⟩;have CK:j<owner.size:=by lia
 rw[QJ CK];cases q:owner[j] with
 |none=>rfl
 |some v=>refine absurd (Q8.mpr ⟨Q3.mpr (by lia),?_⟩) h2;unfold ow;rw[Q5,QJ CK,q];rfl
theorem Gq{mask:Nat}{owner:Array (Option Nat)}(hs:owner.size=mask+1){j k:Nat}(hj:j<=mask)(h0:owner[j]?=some none):(lay mask (owner.setIfInBounds j (some k))).Perm (k::lay mask owner):=by
 have:lay mask (owner.setIfInBounds j (some k))=(QG (mask+1)).filterMap (fun i=>if i=j then some k else ow owner i):=gw fun i hi=>by
  unfold ow;rw[Q5,Q5,Array.getElem?_setIfInBounds];by_cases e:i=j
  ·subst e;rw[if_pos rfl,if_pos rfl,if_pos (by lia)];rfl
  ·rw[if_neg fun z=>e z.symm,if_neg e]
 rw[this];exact Cu _ _ _ _ List.nodup_range (Q3.mpr (by lia)) (by unfold ow;rw[Q5,h0];rfl)
theorem tZ{mask:Nat}(c:Cov mask):∀(hs:List Int) (owner:Array (Option Nat)) (k:Nat),owner.size=mask+1->(lay mask owner).Perm (QG k)->k+hs.length<=mask ->
  ∃ owner',hs.foldl (fun pI h=>do
   let (owner,k) <- pI
   let j <- layClean.free mask owner (turns mask) (bits h % (mask+1)) (bits h)
   pure (owner.setIfInBounds j (some k),k+1)) (some (owner,k))=some (owner',k+hs.length)/\(lay mask owner').Perm (QG (k+hs.length))/\owner'.size=mask+1
 |[],owner,k,h1,h2,_=>⟨owner,rfl,h2,h1⟩
 |h::hs,owner,k,h1,h2,h3=>by
  rw[QO]at h3;obtain⟨j0,a,b⟩:=Cv h1 (by rw[h2.length_eq,Rg];lia);have hi:bits h % (mask+1)<=mask:=TM (Uc _ (Um _));obtain⟨m,hm,e⟩:=K9 c hi (yJ h) a;obtain⟨j,f1,f2,f3⟩:=yL h1 (turns mask) (bits h % (mask+1)) (bits h) hi ⟨m,by unfold turns;lia,by rw[e];exact b⟩;obtain⟨owner',q1,q2,q3⟩:=tZ c hs (owner.setIfInBounds j (some k)) (k+1) (by rw[Array.size_setIfInBounds];exact h1)
   ((Gq h1 f2 f3).trans (by rw[List.range_succ];exact(h2.cons k).trans (List.perm_append_singleton _ _).symm)) (by lia)
  refine⟨owner',?_,?_,q3⟩
  ·rw[Tc,QO,show k+(hs.length+1)=k+1+hs.length by lia,<- q1]
   congr 1
   show (layClean.free mask owner (turns mask) (bits h % (mask+1)) (bits h)).bind _=_;rw[f1];rfl
  ·rw[QO,show k+(hs.length+1)=k+1+hs.length by lia];exact q2
theorem Gr{mask finger moves:Nat}{led plain:Bool}{hashes:Array Int}(c:Cov mask)(hn:hashes.size<=mask):∃t order,laid mask finger moves led plain hashes=some (t,order)/\t.mask=mask/\t.led=led/\t.plain=plain/\t.dummies=#[] /\
  t.place.toList.Pairwise (· < ·)/\(∀j∈t.place.toList,j<=mask)/\t.place.size=hashes.size/\order.toList.Perm (QG hashes.size):=by
 obtain ⟨owner,q1,q2,q3⟩:=tZ c hashes.toList (Array.replicate (mask+1) none) 0 (by simp) (by
  have:lay mask (Array.replicate (mask+1) none)=[]:=by unfold lay;rw[List.filterMap_eq_nil_iff];intro j hj;unfold ow;rw[Q5,Array.getElem?_replicate];split<;>rfl
  rw[this];exact .refl _) (by rw[QH];lia)
 rw[Ul,QH]at q1 q2;have lc:layClean mask hashes=some owner:=by unfold layClean;rw[<- Array.foldl_toList,q1];rfl
 have e2:((QG (mask+1)).filterMap fun j=>(owner.getD j none).map (j,·)).map (·.2)=lay mask owner:=by unfold lay;rw[List.map_filterMap];refine gw fun j _=>?_;unfold ow;cases owner.getD j none<;>rfl
 have e1:((QG (mask+1)).filterMap fun j=>(owner.getD j none).map (j,·)).map (·.1)=(QG (mask+1)).filter fun j=>(owner.getD j none).isSome:=by rw[List.map_filterMap,<- List.filterMap_eq_filter];refine gw fun j _=>?_;unfold Option.guard;cases q:owner.getD j none<;>simp[q]
 unfold laid;rw[lc];refine⟨_,_,rfl,rfl,rfl,rfl,rfl,?_,fun j hj=>?_,?_,?_⟩
 ·show ((((QG (mask+1)).filterMap fun j=>(owner.getD j none).map (j,·)).map (·.1)).toArray).toList.Pairwise _;rw[e1];exact(List.pairwise_lt_range).sublist List.filter_sublist
 ·have hj:j∈((((QG (mask+1)).filterMap fun j=>(owner.getD j none).map (j,·)).map (·.1)).toArray).toList:=hj;rw[e1]at hj;have:=Q3.mp (Q8.mp hj).1
  lia
 ·show ((((QG (mask+1)).filterMap fun j=>(owner.getD j none).map (j,·)).map (·.1)).toArray).size=_;rw[Qy,gc,<- gc (f:=(·.2)),e2,q2.length_eq,Rg]
 ·show ((((QG (mask+1)).filterMap fun j=>(owner.getD j none).map (j,·)).map (·.2)).toArray).toList.Perm _;rw[e2];exact q2
theorem Cw{t:SetTable}{es:Array (Int×Value)}{wanted:Nat}(c:Cov (sizeAbove wanted-1))(hn:es.size<=sizeAbove wanted-1)(pl:t.plain=true) :
  ∃es' t',relayAll t es wanted=(es',t',false)/\Good t' es'.size/\t'.mask=sizeAbove wanted-1/\t'.led=t.led/\es'.toList.Perm es.toList:=by
 obtain⟨t',order,q1,q2,q3,q4,q5,q6,q7,q8,q9⟩:=Gr (finger:=t.finger) (moves:=t.movedTo (sizeAbove wanted-1)) (led:=t.led) (plain:=t.plain) (hashes:=es.map (·.1)) c (by rw[Array.size_map];exact hn);rw[Array.size_map]at q8 q9;have pe:(order.filterMap (es[·]?)).toList.Perm es.toList:=by
  rw[Array.toList_filterMap];refine(q9.filterMap _).trans (.of_eq ?_);have:∀l:List (Int×Value),(QG l.length).filterMap (fun i=>l[i]?)=l:=fun l=>by
   induction l with
   |nil=>rfl
   |cons x l ih=>
    rw[QO,List.range_succ_eq_map,Rh];show x::_=_;rw[Tq]
    congr 1
  have h2:=this es.toList
  simpa using h2
 have hz:(order.filterMap (es[·]?)).size=es.size:=by rw[<- QH,pe.length_eq,QH]
 have gd:Good t' es.size:=⟨q5,q4.trans pl,by rw[q2];exact c,q6,by rw[q2];exact q7,q8⟩
 refine⟨order.filterMap (es[·]?),t',?_,by rw[hz];exact gd,q2,q3,pe⟩;unfold relayAll SetTable.relaid;rw[q1];dsimp only;rw[hz,gd.fits (by rw[q2];exact hn)];have:coversAll order es.size=true:=by unfold coversAll;exact List.isPerm_iff.mpr q9
 rw[this];rfl
open PySem PySem.SetTable PySem.W
theorem bu:Slot "set_iterator" "__next__" "set_iterator.__next__":=
 .of (owner := "set_iterator") (n := "__next__") (by rw[typeLookup_type,builtinLookup_eq_fast];kernel_rfl) (by decide +kernel) (by decide +kernel) (by decide +kernel)
  (by first | exact .inl (by decide +kernel) | exact .inr (by decide +kernel)) (by rw[isSubtype_type];kernel_rfl)
theorem fu:entryFor table "set_iterator.__next__" = some Builtin.«set_iterator.__next__»:=entryFor_of_tree (by kernel_rfl)
theorem lu:Manifest.owners.lookup (String.ofList ['r','o','t','a','r','e','t','i','_','t','e','s'].reverse)=some Manifest.sig_set_iterator:=by kernel_rfl
theorem fU(a:Value):argsOk "set_iterator.__next__" ⟨[a],[]⟩:=by unfold argsOk;rw[signature?_of (id := "set_iterator.__next__") (n:=['_','_','t','x','e','n','_','_']) (o:=['r','o','t','a','r','e','t','i','_','t','e','s']) (by kernel_rfl) lu];kernel_rfl
theorem fV:Slot "set_iterator" "__iter__" "set_iterator.__iter__":=
 .of (owner := "set_iterator") (n := "__iter__") (by rw[typeLookup_type,builtinLookup_eq_fast];kernel_rfl) (by decide +kernel) (by decide +kernel) (by decide +kernel)
  (by first | exact .inl (by decide +kernel) | exact .inr (by decide +kernel)) (by rw[isSubtype_type];kernel_rfl)
theorem kq:entryFor table "set_iterator.__iter__" = some Builtin.«dict_keyiterator.__iter__»:=
 entryFor_alias (id' := "dict_keyiterator.__iter__") (by kernel_rfl) rfl (by decide +kernel) (by kernel_rfl)
theorem lO(a:Value):argsOk "set_iterator.__iter__" ⟨[a],[]⟩:=by unfold argsOk;rw[signature?_of (id := "set_iterator.__iter__") (n:=['_','_','r','e','t','i','_','_']) (o:=['r','o','t','a','r','e','t','i','_','t','e','s']) (by kernel_rfl) lu];kernel_rfl
theorem ni:entryFor table "set.__iter__" = some Builtin.«frozenset.__iter__»:=
 entryFor_alias (id' := "frozenset.__iter__") (by kernel_rfl) rfl (by decide +kernel) (by kernel_rfl)
theorem nj{α:Type}:∀(l:List α) (i:Nat) (h:i<l.length),(l[i]::l.eraseIdx i).Perm l
 |x::l,0,_=>.refl _
 |x::l,i+1,h=>by have ih:=nj l i (by simpa using h);exact(T7.swap _ _ _).trans (ih.cons x)
theorem yM(f:Nat->Nat){α:Type}:∀(n k:Nat) (left:List α) (out:Array α),left.length=n->(pickOrder.go f n k left out).toList.Perm (out.toList++left)
 |0,k,left,out,h=>by have:left=[]:=Sn.mp h;subst this;unfold pickOrder.go;rw[Rr]
 |n+1,k,left,out,h=>by have CK:f k % left.length<left.length:=Uc _ (by lia);unfold pickOrder.go;rw[Qz CK];dsimp only;refine(yM f n (k+1) _ _ (by rw[List.length_eraseIdx_of_lt CK];lia)).trans ?_;rw[Array.toList_push,Sv];refine T7.append_left _ ?_;exact nj left _ CK
theorem Ah(f:Nat->Nat){α:Type}(xs:Array α):(pickOrder f xs).toList.Perm xs.toList:=by
 unfold pickOrder;have:=yM f xs.size 0 xs.toList #[] (by rw[QH])
 simpa using this
def cU(h:Heap)(a:Addr)(es:Array (Int×Value))(ep:Nat)(t:SetTable):Prop:=∃o,h.get? a=some o/\o.ExactSet/\o.data=.set es ep t
theorem cU.typeIs{s:Shared}{a:Addr}{es ep t}(x:cU s.heap a es ep t):s.TypeIs (.ref a) "set" := let ⟨o,ho,he,_⟩:=x;⟨o,ho,he.1⟩
theorem cU.at{h h':Heap}{a:Addr}{es ep t}(x:cU h a es ep t)(e:∀o,h.get? a=some o->h'.get? a=some o):cU h' a es ep t:=let ⟨o,ho,r⟩:=x;⟨o,e _ ho,r⟩
noncomputable def slotAt(bt:Bool)(t:SetTable)(i:Nat):Nat:=if bt||i == 0 then 0 else t.place.getD (i-1) 0+1
def pG(h:Heap)(it a:Addr)(bt:Bool)(t:SetTable)(i n ep:Nat):Prop:=∃o,h.get? it=some o/\o.cls=.type "set_iterator" /\ o.data=.fields #[.int (slotAt bt t i:Nat) 0,.int i 0,.ref a,.int n 0,.int ep 0]
theorem pG.typeIs{s:Shared}{it a:Addr}{bt t i n ep}(x:pG s.heap it a bt t i n ep):s.TypeIs (.ref it) "set_iterator" := let ⟨o,ho,he,_⟩:=x;⟨o,ho,he⟩
theorem pG.at{h h':Heap}{it a:Addr}{bt t i n ep}(x:pG h it a bt t i n ep)(e:∀o,h.get? it=some o->h'.get? it=some o):pG h' it a bt t i n ep:=let ⟨o,ho,r⟩:=x;⟨o,e _ ho,r⟩
noncomputable def cX(w:World)(a:Addr)(es:Array (Int×Value))(ep:Nat):List Value:=
 ((if w.params.followText "set-order" then pickOrder (w.params.setOrder a ep) es else es).toList).map (·.2)
theorem qj(w:World)(a:Addr)(es:Array (Int×Value))(ep:Nat):(cX w a es ep).Perm (es.toList.map (·.2)):=by
 unfold cX;split
 ·exact(Ah _ es).map _
 ·exact .refl _
theorem gx(w:World)(a:Addr)(es:Array (Int×Value))(ep:Nat):(cX w a es ep).length=es.size:=by rw[(qj w a es ep).length_eq,gc,QH]
theorem wM{t:SetTable}{n i:Nat}(g:Good t n)(hi:i<n):below t.place (slotAt false t i)=i:=by
 obtain⟨a,b,c⟩:=cJ (slotAt false t i) g.ris;have mono:∀i k,i<k->∀v w,t.place[i]?=some v->t.place[k]?=some w->v<w:=fun i k hik v w e1 e2=>by obtain⟨q1,q2⟩:=RL.mp e1;obtain⟨q3,q4⟩:=RL.mp e2;have:=SK.mp g.ris i k (by simpa using q1) (by simpa using q3) hik;simp only[Td]at this;omega
 have hz:=g.sz;cases i with
 |zero=>refine SM fun z=>?_;have h0:t.place[0]?=some t.place[0]:=QJ (by omega);have:=a 0 (by omega) _ h0;have e:slotAt false t 0=0:=rfl;rw[e]at this;omega
 |succ i=>
  have hp:t.place[i]?=some t.place[i]:=QJ (by omega);have e:slotAt false t (i+1)=t.place[i]+1:=by show t.place.getD (i+1-1) 0+1=_;rw[SV,Q5,hp];rfl
  rw[e]at a b ⊢;have h1:i<below t.place (t.place[i]+1):=Nat.not_le.mp fun z=>by have:=b i z _ hp;omega
  have h2:below t.place (t.place[i]+1)<=i+1:=RS.mp fun z=>by have hq:t.place[i+1]?=some t.place[i+1]:=QJ (by omega);have:=a (i+1) z _ hq;have:=mono i (i+1) (Sg _) _ _ hp hq;omega
  omega
theorem Ai{t:SetTable}{n:Nat}(g:Good t n):n<=below t.place (slotAt false t n):=by
 obtain⟨a,b,c⟩:=cJ (slotAt false t n) g.ris;have hz:=g.sz;cases n with
 |zero=>omega
 |succ i=>
  have hp:t.place[i]?=some t.place[i]:=QJ (by lia);have e:slotAt false t (i+1)=t.place[i]+1:=by show t.place.getD (i+1-1) 0+1=_;rw[SV,Q5,hp];rfl
  rw[e]at a b ⊢;exact Nat.not_le.mp fun z=>by
   have:=b i z _ hp
   lia
section
variable{prog:Program}{w:World}{A:Around}{E:Value->Shared->Prop}{s:Shared}{a it:Addr}{es:Array (Int×Value)}{ep i:Nat}{t:SetTable}
section
variable{Q:Bool->Shared->Prop}
theorem gy(x:cU s.heap a es ep t)(g:Good t es.size)(hm:es.size<=t.mask){Q:(Array (Int×Value)×Nat×SetTable)->Shared->Prop}(h:Q (es,ep,t) s):wpAny (model prog w) A (setState a) Q E s:=by obtain⟨o,ho,_,hd⟩:=x;exact wpAny_setState_of ho hd (g.fits hm) h
theorem kr(h:Q (w.params.followText "set-order") s):wpAny (model prog w) A setsByText Q E s:=by unfold setsByText;exact wpAny_bind (wpAny_askSetting (wpAny_pure h))
theorem t7(x:cU s.heap a es ep t)(g:Good t es.size)(hm:es.size<=t.mask)(h:Q false s):wpAny (model prog w) A (setDrawn a) Q E s:=by
 unfold setDrawn;refine wpAny_bind (gy x g hm ?_);refine wpAny_bind (kr (wpAny_pure ?_));have e:(!(w.params.followText "set-order")&&(!t.plain&&decide (es.size>1)))=false:=by rw[g.pl];simp
 have e':Q (!(w.params.followText "set-order")&&(!t.plain&&decide (es.size>1))) s:=by rw[e];exact h
 exact e'
theorem nk(x:cU s.heap a es ep t)(g:Good t es.size)(hm:es.size<=t.mask)(hl:t.led=!w.params.followText "set-order"){Q:Option (Value×Nat)->Shared->Prop}
  (h:Q ((cX w a es ep)[i]?.map fun v=>(v,slotAt (w.params.followText "set-order") t (i+1))) s) (hi:i<=es.size):wpAny (model prog w) A (setNext a (slotAt (w.params.followText "set-order") t i) i ep) Q E s:=by
 unfold setNext;refine wpAny_bind (gy x g hm ?_);dsimp only;refine wpAny_bind (kr ?_);cases bt:w.params.followText "set-order" with
 |true=>
  rw[bt]at h;rw[if_pos rfl];simp only[bne_self_eq_false,Rm,if_false];refine wpAny_bind (m:=setWalk a) ?_;unfold setWalk;refine wpAny_bind (gy x g hm ?_);dsimp only;refine wpAny_bind (kr ?_);rw[bt,if_pos rfl];refine wpAny_bind (wpAny_askSetting (wpAny_pure (wpAny_pure ?_)));unfold cX at h;rw[bt,if_pos rfl,QL,Option.map_map]at h;have e:slotAt true t i=0/\slotAt true t (i+1)=0:=⟨rfl,rfl⟩
  rw[e.1];rw[e.2]at h;rw[RA]at h;exact h
 |false=>
  rw[bt]at h hl;rw[if_neg Q0];have dr:(!t.plain&&decide (es.size>1))=false:=by rw[g.pl];rfl
  show wpAny _ _ (if (!t.plain&&decide (es.size>1))=true then _ else _) _ _ _;rw[if_neg (by rw[dr];exact Q0)];show wpAny _ _ ((if (!t.led&&!es.isEmpty)=true then _ else pure ()) >>= _) _ _ _;rw[hl];simp only[Bool.not_false,TF,Tj,Rm,if_false];refine wpAny_bind (wpAny_pure (wpAny_pure ?_));unfold cX at h;rw[bt]at h;simp only[Rm,if_false]at h;rw[QL]at h;rcases Nat.lt_or_ge i es.size with CK | hge
  ·rw[wM g CK,QJ CK,QJ (by rw[g.sz];exact CK)];rw[RA,QJ CK]at h;have e:slotAt false t (i+1)=t.place[i]'(by rw[g.sz];exact CK)+1:=by
    show t.place.getD (i+1-1) 0+1=_;rw[SV,Q5,QJ (by rw[g.sz];exact CK)];rfl
   rw[e]at h;exact h
  ·have:i=es.size:=by lia
   subst this;rw[S2 (Ai g)];rw[RA,S2 (Pz _)]at h;exact h
end
end
section
variable{prog:Program}{w:World}{A:Around}{E:Value->Shared->Prop}{s:Shared}{a it:Addr}{es:Array (Int×Value)}{ep i:Nat}{t:SetTable}
theorem wN(x:cU s.heap a es ep t)(g:Good t es.size)(hm:es.size<=t.mask){Q:Value->Shared->Prop}
  (hQ:Q (.ref s.heap.objs.size) { s with heap:=s.heap.push { cls:=.type "set_iterator",data:=.fields #[.int 0 0,.int 0 0,.ref a,.int es.size 0,.int ep 0] } }):wpAny (model prog w) A (pyIter (.ref a)) Q E s:=by
 obtain⟨o,ho,hex,hd⟩:=id x;refine wpAny_pyIter_slot x.typeIs F.slot_set_iter (wpAny_call_entry F.slot_set_iter x.typeIs ni ?_ (F.args_set_iter_1 _));unfold Builtin.«frozenset.__iter__» Builtin.Frozenset.slot0 slotArgs;simp only[TX,TF,Rm,↓reduceIte,bind_assoc,SI,bne_self_eq_false];unfold Builtin.Frozenset.addrOf Builtin.Frozenset.sizeOf;refine wpAny_bind (wpAny_pure ?_)
 try dsimp only
 refine wpAny_bind (wpAny_pure ?_);refine wpAny_bind (wpAny_bind (wpAny_setEntries_of ho hd (g.fits hm) (wpAny_pure ?_)));refine wpAny_bind (t7 x g hm ?_);simp only[Rm,if_false];refine wpAny_bind (wpAny_pure ?_);refine wpAny_bind (wpAny_setEpoch_of ho hd (g.fits hm) ?_);refine wpAny_bind (m:=newFields _ _) ?_;unfold newFields;refine wpAny_newObj_type (wpAny_pure ⟨_,rfl,"set_iterator",_,⟨_,QS _ rfl,rfl⟩,bu.lookup,?_⟩)
 simpa [rawInt] using hQ
theorem next_item(K9:pG s.heap it a (w.params.followText "set-order") t i es.size ep)(x:cU s.heap a es ep t)(g:Good t es.size)(hm:es.size<=t.mask)(hl:t.led=!w.params.followText "set-order"){v:Value}(hv:(cX w a es ep)[i]?=some v){Q:Option Value->Shared->Prop}
  (hQ:∀h',pG h' it a (w.params.followText "set-order") t (i+1) es.size ep->Sy it s.heap h'->Q (some v) { s with heap:=h' }):wpAny (model prog w) A (pyNext (.ref it)) Q E s:=by
 obtain⟨o,ho,hc,hd⟩:=id K9;obtain⟨oa,hoa,PM,hda⟩:=id x;have hi:i<es.size:=by rw[<- gx w a es ep];exact(Qx.mp hv).1
 unfold pyNext;refine wpAny_bind (wpAny_attempt (wpAny_callSpecial?_slot (name:=S8 "__next__") K9.typeIs bu
  (wpAny_call_entry bu K9.typeIs fu ?_ (fU _))))
 unfold Builtin.«set_iterator.__next__» slotArgs;simp only[TX,TF,Rm,↓reduceIte,bind_assoc,SI,bne_self_eq_false];refine wpAny_bind (wpAny_pure ?_)
 try dsimp only
 refine wpAny_bind (wpAny_fieldsOf ho hd ?_)
 try dsimp only
 refine wpAny_bind (wpAny_setEntries_of hoa hda (g.fits hm) ?_);simp only[bne_self_eq_false,Rm,if_false];simp only[TN];refine wpAny_bind (nk x g hm hl ?_ (S7 hi));rw[hv];dsimp only[Option.map_some];refine wpAny_bind (wpAny_setField ho hd (by simp) ?_);have h1:=SA (Obj.mapFields (·.setIfInBounds 0 (rawInt (slotAt (w.params.followText "set-order") t (i+1):Nat)))) ho (Obj.isFreed_of_fields (SW hd _));have d1:=SW hd (·.setIfInBounds 0 (rawInt (slotAt (w.params.followText "set-order") t (i+1):Nat)));refine wpAny_bind (wpAny_setField h1 d1 (by simp) ?_);refine wpAny_pure ⟨_,rfl,wpAny_pure (hQ _ ⟨_,SA _ h1 (Obj.isFreed_of_fields (SW d1 _)),?_,?_⟩ ((Si ..).trans (Si ..)))⟩
 ·exact(Obj.cls_mapFields ..).trans ((Obj.cls_mapFields ..).trans hc)
 ·rw[SW d1];simp[rawInt]
theorem next_end(hh:A.handled=none)(K9:pG s.heap it a (w.params.followText "set-order") t es.size es.size ep)(x:cU s.heap a es ep t)(g:Good t es.size)(hm:es.size<=t.mask)(hl:t.led=!w.params.followText "set-order"){Q:Option Value->Shared->Prop}
  (hQ:∀h',Heap.ExtBut it s.heap h'->Q none { s with heap:=h' }):wpAny (model prog w) A (pyNext (.ref it)) Q E s:=by
 obtain⟨o,ho,hc,hd⟩:=id K9;obtain⟨oa,hoa,PM,hda⟩:=id x;unfold pyNext;refine wpAny_bind (wpAny_attempt (wpAny_callSpecial?_slot (name:=S8 "__next__") K9.typeIs bu
  (wpAny_call_entry bu K9.typeIs fu ?_ (fU _))))
 unfold Builtin.«set_iterator.__next__» slotArgs;simp only[TX,TF,Rm,↓reduceIte,bind_assoc,SI,bne_self_eq_false];refine wpAny_bind (wpAny_pure ?_)
 try dsimp only
 refine wpAny_bind (wpAny_fieldsOf ho hd ?_)
 try dsimp only
 refine wpAny_bind (wpAny_setEntries_of hoa hda (g.fits hm) ?_);simp only[bne_self_eq_false,Rm,if_false];simp only[TN];refine wpAny_bind (nk x g hm hl ?_ (Pz _));rw[Q6 (by rw[gx];exact Pz _)];dsimp only[Option.map_none];refine wpAny_bind (wpAny_setField ho hd (by simp) (wpAny_bind ?_));unfold newExc newTuple;refine wpAny_bind (wpAny_newObj_type (wpAny_bind (m:=firstArgMember _ _) (wpAny_of_eq (a:=.none) rfl (wpAny_newObj_type ?_ (by size_fits)))) (by size_fits));unfold raiseNew;refine wpAny_bind (wpAny_handled ?_);have hx:A.in1.handled=none:=hh;rw[hx];refine wpAny_bind (wpAny_pure (wpAny_throw (wpAny_bind ?_)));refine wpAny_isInstance (b:=true) (T := "StopIteration") ⟨_,QS _ rfl,rfl⟩ isSubtype_stop (wpAny_pure ?_);exact hQ _ (((Si ..).extBut.push _).push _)
theorem rK{bt:Bool}{n:Nat}(K9:pG s.heap it a bt t i n ep){Q:Value->Shared->Prop}(h:Q (.ref it) s):wpAny (model prog w) A (pyIter (.ref it)) Q E s:=by refine wpAny_pyIter_slot K9.typeIs fV (wpAny_call_entry fV K9.typeIs kq ?_ (lO _));show wpAny _ _ (ret (.ref it)) _ _ s;exact wpAny_pure ⟨_,rfl,"set_iterator",_,K9.typeIs,bu.lookup,h⟩
theorem Aj(hh:A.handled=none)(I a:Addr)(NW:a≠I)(g:Good t es.size)(hm:es.size<=t.mask)(hl:t.led=!w.params.followText "set-order") :
  Walks prog w A I [I,a] [I] es.size (fun i v=>(cX w a es ep)[i]?=some v) (fun i h=>pG h I a (w.params.followText "set-order") t i es.size ep/\cU h a es ep t) where
 sub:=fun b hb=>by simp at hb;simp[hb]
 frame:=fun _ _ _ st hk=>⟨st.1.at fun o e=>hk I (by simp) o e,st.2.at fun o e=>hk a (by simp) o e⟩
 item:=fun i s Q E hi st hQ=>by
  obtain⟨v,hv⟩:∃v,(cX w a es ep)[i]?=some v:=⟨(cX w a es ep)[i]'(by rw[gx];exact hi),by simp[gx,hi]⟩
  refine next_item st.1 st.2 g hm hl hv fun h' PN hs'=>?_;exact hQ v h' s.toks hv ⟨PN,st.2.at fun o e=>hs'.extBut a o NW e⟩ fun b o hb e=>hs'.extBut b o (fun h=>hb (by simp[h])) e
 done:=fun s Q E st hQ=>next_end hh st.1 st.2 g hm hl fun h' he'=>hQ h' s.toks fun b o hb e=>he' b o (fun h=>hb (by simp[h])) e
 self:=fun _ _ _ _ st hQ=>rK st.1 hQ
theorem Cy{r:Addr}{Q:Bool->Shared->Prop}(hT:s.TypeIs (.ref r) "set")(h:Q false s):wpAny (model prog w) A (Builtin.List.listLengthHint (.ref r)) Q E s:=by
 unfold Builtin.List.listLengthHint;refine wpAny_bind (wpAny_specialOf hT PySem.F.slot_set_len.lookup ?_)
 generalize hid:("set.__len__" : String)=id0
 wp_delta
 rw[show splitId id0=some ("set","__len__") from by subst hid;decide +kernel];subst hid;refine wpAny_bind (wpAny_isInstance (T := "set") (b:=true) hT (by rw[isSubtype_type];kernel_rfl) ?_);refine wpAny_ite_split (fun NX=>absurd NX (by decide)) (fun _=>?_);refine wpAny_ite_split (fun _=>?_) (fun NX=>absurd (by decide +kernel) NX);refine wpAny_bind (wpAny_typeOf hT ?_);exact wpAny_pure h
theorem Gs(g:Good t es.size)(hm:es.size<=t.mask)(hl:t.led=!w.params.followText "set-order"):KdlSrc prog w "set" a a es.size (fun i v=>(cX w a es ep)[i]?=some v) (fun h=>cU h a es ep t) where
 type:=fun _ x=>x.typeIs
 there:=fun _ x=>let ⟨_,ho,_⟩:=x;⟨QA ho,QA ho⟩
 keep:=fun _ _ x hk=>x.at fun o e=>hk a (.inl rfl) o e
 notList:=by decide
 notTuple:=by decide
 hint:=fun _ _ _ _ x hq=>Cy x.typeIs hq
 iter:=fun _ s hh x=>⟨_,_,(fun _ _ hq=>wN x g hm hq),Aj hh _ a (let ⟨_,ho,_⟩:=x;QX (QA ho)) g hm hl,
  ⟨⟨_,QS _ rfl,rfl,by simp[slotAt]⟩,x.at fun o e=>PU _ e⟩⟩
end
open PySem PySem.SetTable PySem.W PyProof.Rows
noncomputable def ky:Value->Int
 |.int k _=>k
 |_=>0
def Small(t:SetTable)(n:Nat):Prop:=(t.mask=7/\n<=4)\/(t.mask=31/\n<=18)\/(t.mask=127/\n<=76)\/(t.mask=511/\n<=300)
theorem Small.le{t:SetTable}{n:Nat}(h:Small t n):n<=t.mask:=by rcases h with⟨a,b⟩ | ⟨a,b⟩ | ⟨a,b⟩ | ⟨a,b⟩<;>lia
def IsE(e:Int×Value):Prop:=e.1=hashInt (ky e.2)/\∃tk,e.2=.int (ky e.2) tk
def nu(w:World)(h:Heap)(a:Addr)(ns:List Int):Prop:=∃es ep t,cU h a es ep t/\Good t es.size/\Small t es.size/\t.led=!w.params.followText "set-order" /\ (∀e∈es.toList,IsE e)/\(es.toList.map fun e=>ky e.2).Perm ns
theorem nu.at{w:World}{h h':Heap}{a:Addr}{ns:List Int}(x:nu w h a ns)(e:∀o,h.get? a=some o->h'.get? a=some o):nu w h' a ns:=
 let ⟨es,ep,t,x1,r⟩:=x
 ⟨es,ep,t,x1.at e,r⟩
theorem t8{h:Heap}{a:Addr}{es es':Array (Int×Value)}{ep:Nat}{t t':SetTable}(x:cU h a es ep t):cU (h.update a (Ud es' t')) a es' (ep+1) t':=by obtain⟨o,ho,hex,hd⟩:=x;have:=SA (Ud es' t') ho (by rw[putSet_of es' t' hd];rfl);rw[putSet_of es' t' hd]at this;exact⟨_,this,hex,rfl⟩
section
variable{prog:Program}{w:World}{A:Around}{E:Value->Shared->Prop}{s:Shared}{a:Addr}{ns:List Int}{k:Int}{tk:Tok}
theorem Cz{es:Array (Int×Value)}(h:∀e∈es.toList,IsE e):ElemsOf (intKind prog w) es.toList:=fun e he=>by
 obtain⟨h1,t,h2⟩:=h e he;refine⟨⟨ky e.2,?_,h1⟩,?_⟩
 ·rw[h2];exact intKind_is prog w _ _
 ·rw[h2];rfl
theorem rL{Q:Bool->Shared->Prop}(x:nu w s.heap a ns)(hn:ns.length+1<=300)(h:∀b h',Sy a s.heap h'->nu w h' a (step_dedup ns k)->Q b { s with heap:=h' }) :
  wpAny (model prog w) A (setAddHashed a (.int k tk) (hashInt k)) Q E s:=by
 obtain⟨es,ep,t,x1,g,sm,hl,he,hp⟩:=x;obtain⟨o,ho,hex,hd⟩:=id x1;have hf:=g.fits sm.le;have hel:=Cz (prog:=prog) (w:=w) he;have ur:es.size=ns.length:=by rw[<- hp.length_eq,gc,QH]
 have hb:es.size<scanBound:=by unfold scanBound;lia
 have hkey:(intKind prog w).is k (.int k tk)=true:=intKind_is prog w k tk;have hsc:(Value.int k tk).scannable=true:=rfl;unfold setAddHashed setAddHashedIn;refine wpAny_holding (wpAny_bind (wpAny_setState_of ho hd hf ?_));dsimp only;rw[byScan_of hsc hb hel];simp only[↓reduceIte];unfold setAddByScan;refine wpAny_bind ?_;refine wpAny_bind (wpAny_rule ?_);refine wpAny_bind (wpAny_setScan_of (knd:=intKind prog w) hkey ho hd hf hel ?_);have mem:∀e∈es.toList,(intKind prog w).is k e.2=true↔ky e.2=k:=fun e hm=>by
  obtain⟨_,t',h2⟩:=he e hm;constructor
  ·intro q;have q2:(intKind prog w).is (ky e.2) e.2=true:=by rw[h2];exact intKind_is prog w _ _
   exact((intKind prog w).inj e.2 _ _ q2 q)
  ·intro q;rw[h2,q];exact intKind_is prog w _ _
 cases hr:List.findIdx? (fun e=>(intKind prog w).is k e.2) es.toList with
 |some j=>
  dsimp only;obtain⟨hj,hpj,_⟩:=List.findIdx?_eq_some_iff_getElem.mp hr;have hin:k∈ns:=hp.mem_iff.mp (QF.mpr ⟨_,RC hj,(mem _ (RC hj)).mp hpj⟩);refine wpAny_pure (wpAny_pure ?_);have e:s={ s with heap:=s.heap }:=by cases s;rfl
  have hd2:step_dedup ns k=ns:=by unfold step_dedup;rw[if_pos (S5.mpr ⟨k,hin,by simp⟩)]
  have:=h false s.heap (Sy.refl a s.heap) (by rw[hd2];exact⟨es,ep,t,x1,g,sm,hl,he,hp⟩);rw[e];exact this
 |none=>
  dsimp only;have hout:k∉ns:=fun z=>by obtain⟨e,hm,q⟩:=QF.mp (hp.mem_iff.mpr z);have:=List.findIdx?_eq_none_iff.mp hr e hm;rw[(mem e hm).mpr q]at this;cases this
  have hd2:step_dedup ns k=ns++[k]:=by
   unfold step_dedup;rw [if_neg fun z=>by
    obtain⟨y,hy,q⟩:=S5.mp z;have:y=k:=by simpa using q
    exact hout (this▸hy)]
  rw[hd2]at h;obtain⟨es1,t1,eL,g1,m1,l1,p1⟩:=Ag g (by rcases sm with⟨q1,q2⟩ | ⟨q1,q2⟩ | ⟨q1,q2⟩ | ⟨q1,q2⟩<;>lia) (hashInt k) (Value.int k tk);rw[eL];dsimp only;have hz1:es1.size=es.size+1:=by rw[<- QH,p1.length_eq,Qv,QH];rfl
  have he1:∀e∈es1.toList,IsE e:=fun e hm=>by
   rcases QE.mp (p1.mem_iff.mp hm) with q | q
   ·exact he e q
   ·rw[QN.mp q];exact⟨rfl,tk,rfl⟩
  have hp1:(es1.toList.map fun e=>ky e.2).Perm (ns++[k]):=by refine(p1.map _).trans ?_;rw[QK];exact hp.append (.refl _)
  refine wpAny_bind (wpAny_pure (a:=()) ?_);rw[if_pos g1.pl];refine wpAny_bind ?_;rw[hashByValue_scannable 8 hsc];refine wpAny_pure ?_;have pk:plainKind (Value.int k tk)=true:=rfl;simp only[pk,↓reduceIte,Bool.not_false,Q7];refine wpAny_bind (wpAny_storeSet_of ho hd ?_ (fits_of_scanBound (by unfold scanBound;lia)));have x2:cU (s.heap.update a (Ud es1 t1)) a es1 (ep+1) t1:=t8 x1;have sb:=Si s.heap a (Ud es1 t1);have tf:t1.tooFull=decide ((es.size+1)*5≥t.mask*3):=by unfold SetTable.tooFull SetTable.fill;rw[g1.dm,g1.sz,hz1,m1];rfl
  by_cases Ie:(es.size+1)*5≥t.mask*3
  ·rw[tf,decide_eq_true Ie];obtain⟨M,sa,cv,lM,sm2⟩:∃M,SetTable.sizeAbove (SetTable.grown es1.size)-1=M/\Cov M/\es1.size<=M/\((M=31/\es1.size<=18)\/(M=127/\es1.size<=76)\/(M=511/\es1.size<=300)):=by
    rcases sm with⟨q1,q2⟩ | ⟨q1,q2⟩ | ⟨q1,q2⟩ | ⟨q1,q2⟩
    ·have:es1.size=5:=by lia
     exact⟨31,by rw[this];decide +kernel,NK,by lia,.inl ⟨rfl,by lia⟩⟩
    ·have:es1.size=19:=by lia
     exact⟨127,by rw[this];decide +kernel,KJ,by lia,.inr (.inl ⟨rfl,by lia⟩)⟩
    ·have:es1.size=77:=by lia
     exact⟨511,by rw[this];decide +kernel,KN,by lia,.inr (.inr ⟨rfl,by lia⟩)⟩
    ·lia
   obtain⟨es2,t2,eR,g2,m2,l2,p2⟩:=Cw (t:=t1) (es:=es1) (wanted:=SetTable.grown es1.size) (by rw[sa];exact cv) (by rw[sa];lia) g1.pl;rw[eR];have hz2:es2.size=es1.size:=by rw[<- QH,p2.length_eq,QH]
   show wpAny _ _ (_ >>= _) _ _ _;refine wpAny_bind (wpAny_pure (a:=()) ?_);obtain⟨o2,ho2,hex2,PR⟩:=id x2;refine wpAny_bind (wpAny_storeSet_of ho2 PR ?_ (fits_of_scanBound (by show es2.size<4096;lia)));refine wpAny_pure (wpAny_pure (h true _ (sb.trans (Si _ a _)) ⟨es2,_,t2,t8 x2,g2,.inr (by rw[m2,sa,hz2];exact sm2),by rw[l2,l1,hl],fun e hm=>he1 e (p2.mem_iff.mp hm),(p2.map _).trans hp1⟩))
  ·rw[tf,decide_eq_false Ie];refine wpAny_pure (wpAny_pure (h true _ sb ⟨es1,_,t1,x2,g1,?_,by rw[l1,hl],he1,hp1⟩));unfold Small;rw[m1];rcases sm with⟨q1,q2⟩ | ⟨q1,q2⟩ | ⟨q1,q2⟩ | ⟨q1,q2⟩
   ·exact .inl ⟨q1,by lia⟩
   ·exact .inr (.inl ⟨q1,by lia⟩)
   ·exact .inr (.inr (.inl ⟨q1,by lia⟩))
   ·exact .inr (.inr (.inr ⟨q1,by lia⟩))
end
noncomputable abbrev nv(led:Bool):Obj:={ cls:=.type "set",dict:=none,data:=.set #[] 0 (.fresh 0 0 led) }
noncomputable def bt(w:World):Bool:=w.params.followText "set-order"
theorem yN(u:String)(hu:u = "set" \/ u = "frozenset"):isSubtype (.type "tuple") (.type u)=pure false:=by rcases hu with h | h<;>(subst h;rw[isSubtype_type];kernel_rfl)
theorem wO(led:Bool):Good (.fresh 0 0 led) 0:=⟨rfl,rfl,PL,.nil,fun j h=>(by cases h),rfl⟩
theorem CA{prog:Program}{w:World}{A:Around}{R:Result->Shared->Prop}{I S:Addr}{fp wr:List Addr}{G:Array GenState->Array GenState->Prop}{n:Nat}{P:Nat->Value->Prop}{St:Nat->Shared->Prop}{J:Nat->Heap->Prop}(W:WalksS prog w A.in1 I fp wr G n P St)(off:S∉fp)
  (jk:∀i h h',J i h->(∀b o,b∉wr->h.get? b=some o->h'.get? b=some o)->J i h')
  (ja:∀i v (u:Shared) (E:Value->Shared->Prop) (K:Bool->Shared->Prop),i<n->P i v->J i u.heap->(∀c h' tk,u.toks<=tk->Sy S u.heap h'->J (i+1) h'->K c { u with heap:=h',toks:=tk })->wpAny (model prog w) A.in1 (setAdd S v) K E u)
  (i:Nat) (s:Shared) (hi:i<=n) (st:St i s) (hJ:J i s.heap) (CY:∀s',Moved (S::wr) G s s'->J n s'.heap->R (.ok (.ret .none)) s'):codeAny (model prog w) A (.builtin "set.update.loop" ⟨[.ref S,.ref I],[]⟩) R s:=by
 have nw:S∉wr:=fun z=>off (W.sub _ z);have up:∀{x y:Shared},Moved wr G x y->Moved (S::wr) G x y:=fun m=>m.mono fun _=>Pa _
 generalize hd:n-i=d
 induction d generalizing i s with
 |zero=>cases (show i=n by lia);refine codeAny_builtin F.entry_set_update_loop (Around.under_plainId SX _▸?_);exact wpAny_bind (W.done s _ _ st fun s' m=>wpAny_pure (CY s' (up m) (jk _ _ _ hJ fun b o hb e=>m.heap b o hb e)))
 |succ d ih=>
  have lt:i<n:=by lia
  refine codeAny_builtin F.entry_set_update_loop (Around.under_plainId SX _▸?_);refine wpAny_bind (W.item i s _ _ lt st fun v u hv st1 m=>?_);refine wpAny_bind (wpAny_holding (ja i v u _ _ lt hv (jk _ _ _ hJ fun b o hb e=>m.heap b o hb e) fun c h' tk ht sb hJ'=>wpAny_pure ⟨plainId_quiet SX _,?_⟩));refine ih (i+1) _ lt (W.frame _ u _ _ st1 ht fun b hb o e=>(sb.2 b fun z=>off (z▸hb)).trans e) hJ' (fun s' m'=>CY s' (Moved.trans W.gtrans ((up m).then_heap ht fun b o hb e=>?_) m')) (by lia);exact(sb.2 b fun z=>hb (z▸gV)).trans e
section
variable{prog:Program}{w:World}{A:Around}{E:Value->Shared->Prop}{s:Shared}
theorem CB(x:Value){K:Value->Shared->Prop}(h:K (.ref s.heap.objs.size) { s with heap:=s.heap.push (nv (!bt w)) }):codeAny (model prog w) A (.call (.builtin "set.__new__") ⟨[.type "set",x],[]⟩) (wants K E) s:=by
 refine codeAny_call_builtin PySem.F.plain_set_new PySem.F.entry_set_new (wpAny_of_eq (PySem.F.newCall_set_1 x) ?_);have sub:=sub_set_self;cases s;unfold Builtin.«set.__new__» Builtin.Frozenset.newClass
 wp_walk
 exact wpAny_askSetting (wpAny_pure (wpAny_bind (wpAny_alloc (wpAny_pure (wpAny_pure h)))))
set_option maxHeartbeats 3200000 in
theorem Ak{x:Value}{K:Value->Shared->Prop} (body:∀led,led=(!bt w)->wpAny (model prog w) A.in1.in1 (Builtin.«set.__init__» ⟨[.ref s.heap.objs.size,x],[]⟩)
   (fun f u=>∃h' tk,f=.done (.ret .none)/\u={ s with heap:=h',toks:=tk }/\K (.ref s.heap.objs.size) { s with heap:=h',toks:=tk }) E { s with heap:=s.heap.push (nv led) }):wpAny (model prog w) A (call (.type "set") [x]) K E s:=by
 have ft:=PySem.F.called_set;obtain⟨c,tl,e1⟩:=ft.mro;have e2:=ft.made;have e3:=ft.sub;have e4:=ft.notType;have e5:=ft.canCreate;have e6:=PySem.F.typeCall_set_1 x;refine wpAny_call (codeAny_of_tree (wpAny_pure ⟨Code.quiet_builtin _ (by decide +kernel),codeAny_builtin PySem.F.entry_type_call (Around.under_plain (weight_type_call_type "set" [x] []) rfl▸?_)⟩))
 repeat (any_goals (first | assumption | wp_step))
 generalize KP:(!bt w)=led at body
 refine codeAny_mono (CB x (E:=E) (K:=fun y u=>y=.ref s.heap.objs.size/\u={ s with heap:=s.heap.push (nv led) }) ⟨rfl,by rw[KP]⟩) fun q u hq=>?_
 match q,hq with
 |.error _,hq=>exact hq
 |.ok (.ret y),⟨h1,h2⟩=>
  subst h1 h2;have ty:Shared.TypeIs { s with heap:=s.heap.push (nv led) } (.ref s.heap.objs.size) "set" := ⟨_,QS _ rfl,rfl⟩
  have e7:=ft.init.lookup;have e8:=ft.init.bind (.ref s.heap.objs.size)
  repeat (any_goals (first | assumption | wp_step))
  refine codeAny_mono (codeAny_call_builtin (R:=wants (fun z u=>z=.none/\∃h' tk,u={ s with heap:=h',toks:=tk }/\K (.ref s.heap.objs.size) { s with heap:=h',toks:=tk }) E) ft.init.plain PySem.F.entry_set_init (check_set_init_1 ty ?_)) fun q' u' hq'=>?_
  ·refine wpAny_mono (body led rfl) (fun f u hf=>?_) fun _ _ z=>z;obtain⟨h',tk,rfl,rfl,hk⟩:=hf;exact⟨rfl,h',tk,rfl,hk⟩
  ·match q',hq' with
   |.error _,hq'=>exact hq'
   |.ok (.ret z),⟨h1,h',tk,h2,hk⟩=>
    subst h1 h2
    repeat (any_goals (first | assumption | wp_step))
theorem ny{l:Addr}{items:Array Value}{ns:List Int}{K:Value->Shared->Prop}(hh:A.handled=none)(hl:s.heap.IsTuple l items)(hi:IntsAre items.toList ns)(hb:∀i,i<items.size->(firstMet (fun i=>ns.getD i 0) i).length+1<=18)
  (h:∀(h':Heap) (tk:Nat),nu w h' s.heap.objs.size (firstMet (fun i=>ns.getD i 0) items.size)->(∀b o,b<s.heap.objs.size->s.heap.get? b=some o->h'.get? b=some o)->K (.ref s.heap.objs.size) { s with heap:=h',toks:=tk }):wpAny (model prog w) A (call (.type "set") [.ref l]) K E s:=by
 refine Ak fun led KP=>?_;obtain⟨o,ho,hc,k,hd⟩:=id hl;have ls:l<s.heap.objs.size:=QA ho;have t1:(s.heap.push (nv led)).IsTuple l items:=⟨o,PU _ ho,hc,k,hd⟩
 have g0:(s.heap.push (nv led)).get? s.heap.objs.size=some (nv led):=QS _ rfl;have ty:Shared.TypeIs { s with heap:=s.heap.push (nv led) } (.ref l) "tuple" := ⟨_,PU _ ho,hc⟩
 have n1:=yN "set" (.inl rfl);have n2:=yN "frozenset" (.inr rfl);have n3:(Ur "tuple" == Ur "dict")=false:=by decide
 obtain⟨oc,od,odt,os⟩:=o;simp only at hc hd;subst hc hd;have ho1:(s.heap.push (nv led)).get? l=some { cls:=.type "tuple",dict:=od,data:=.seq items k,slots:=os }:=PU _ ho;unfold Builtin.«set.__init__» noKeywords Builtin.Frozenset.updateFrom
 generalize hP:pyIter=PI
 wp_walk
 subst hP;refine wpAny_pyIter_tuple t1 (wpAny_bind (wpAny_runValue ?_));have ne:l≠(s.heap.push (nv led)).objs.size:=by rw[Sb];exact QX (RU ls)
 have off:s.heap.objs.size∉[(s.heap.push (nv led)).objs.size,l]:=fun z=>by rw[Sb]at z;simp only[Qw,RY,or_false]at z;exact z.elim (QX (Sg _)) (Ui ls)
 refine CA (J:=fun i h=>nu w h s.heap.objs.size (firstMet (fun i=>ns.getD i 0) i)) ((Walks.tuple (A:=A.in1.in1.in1) (by simp[hh]) _ l ne items).toS) off (fun i a b x e=>x.at fun o h=>e _ o (fun z=>off (Qw.mpr (.inl (QN.mp z)))) h) (fun i v u E' K' hi' hv hJ hK=>?_) 0 _ (Q4 _)
  ⟨⟨_,QS _ rfl,rfl,rfl⟩,⟨_,PU _ ho1,rfl,k,rfl⟩⟩ ⟨#[],0,.fresh 0 0 led,⟨_,PU _ g0,⟨rfl,rfl,rfl⟩,rfl⟩,wO led,.inl ⟨rfl,Q4 _⟩,KP,fun e he=>(by cases he),.refl _⟩ fun s' m hJ=>?_
 ·obtain⟨t,rfl⟩:=IntsAre.int_at hi i v (by rw[RA];exact hv);unfold setAdd;exact wpAny_holding (wpAny_bind ((intKind prog w).pyHash (intKind_is _ _ _ _) (rL (s:={ u with toks:=u.toks+1 }) hJ (QT (hb i hi') (by decide)) fun c h' sb hJ'=>hK c h' _ (Nat.le_succ _) sb (by rw[firstMet_succ];exact hJ'))))
 ·obtain⟨h',g',d',tk',os'⟩:=s';obtain rfl:g'=s.gens:=m.gens;obtain rfl:d'=s.drawn:=m.drawn;obtain rfl:os'=s.os:=m.os;refine wpAny_pure (wpAny_pure ⟨h',tk',rfl,rfl,h h' tk' hJ fun b o lt e=>m.heap b o (fun z=>?_) (PU _ (PU _ e))⟩);rw[Sb]at z;simp only[Qw,RY,or_false]at z;exact z.elim (QX lt) (QX (RU lt))
end
end Sx
namespace Dm
noncomputable def fy:Dat->Option RV
 | .tup ds=>(match dR ds with
  |some ns=>if (dedup ns).length<=17 then some (.new (.lst ((bK (fun a b=>decide (a<b)) (dedup ns)).map .int))) else none
  |none=>none)
 |_=>none
end Dm
namespace Br
open PySem PySem.Spec PyProof.Rows L2
def Ig(w:World):List V->Hp->VK->Prop:=fun xs H Q=>∃(q:Addr) (ns:List Int),xs=[.ref q]/\H q=some (.tup (ns.map V.int))/\(Dm.dedup ns).length<=17 /\
 ∀l,H l=none->Q (.ref l) (upd H l (.ext fun h=>Sx.nu w h l (Dm.dedup ns)))
def CD(w:World):List V->Hp->VK->Prop:=fun xs H Q=>∃(q:Addr) (ns:List Int),xs=[.ref q]/\H q=some (.ext fun h=>Sx.nu w h q ns)/\ns.length<=63 /\
 ∀(ms:List Int) (l:Addr),ms.Perm ns->ms.Pairwise (·<=·)->H l=none->Q (.ref l) (upd H l (.lst (ms.map V.int)))
theorem g7(val:Nat->Int):∀(k i:Nat),(firstMet val i).length<=(firstMet val (i+k)).length
 |0,i=>Pz _
 |k+1,i=>by refine QT (g7 val k i) ?_;rw[<- Nat.add_assoc,firstMet_succ,step_length];split<;>lia
theorem Al{X:Cx}(hc:X.calm=true):bW X (.type "set") (Ig X.w):=by
 intro kC s σ H xs us Q I r h;obtain⟨q,ns,rfl,hq,hb,k⟩:=h;obtain⟨u,rfl,rx⟩:=vals1 r;cases rx;obtain⟨z,its,rv,pt⟩:=(show aQ X.prog X.w H s.heap q (.tup (ns.map V.int)) from I.hok q _ hq)
 have hl:=rv.length;rw[gc]at hl;have hz:its.toArray.size=ns.length:=by rw[Qy,<- hl]
 refine Sx.ny (ns:=ns) (I.ok.hd hc) pt (by simpa using intsAre_of rv) (fun i hi=>?_) fun h' tk hS hk=>?_
 ·have:=g7 (fun i=>ns.getD i 0) (ns.length-i) i;rw[show i+(ns.length-i)=ns.length by lia,dS]at this
  lia
 ·rw[hz,dS]at hS;exact ⟨.ref s.heap.objs.size,_,I.laid (a:=s.heap.objs.size) (o:=.ext fun h=>Sx.nu X.w h s.heap.objs.size (Dm.dedup ns)) (t':=tk) (fun b u e=>hk b u (QA e) e) (Pz _)
   (show aQ X.prog X.w _ _ _ (.ext _) from ⟨hS,(let ⟨_,_,_,⟨o,ho,_⟩,_⟩:=hS;⟨o,ho⟩),fun h1 h2 x e=>x.at e⟩),rfl,k _ (I.hok.fresh (Pz _))⟩
theorem wQ{X:Cx}(hc:X.calm=true):bW X (.builtin "sorted") (CD X.w):=by
 intro kC s σ H xs us Q I r h;obtain⟨p,ns,rfl,hq,hl,k⟩:=h;obtain⟨u,rfl,rx⟩:=vals1 r;cases rx;obtain⟨⟨es,ep,t,x1,g,sm,led,he,pm⟩,_⟩:=(show aQ X.prog X.w H s.heap p (.ext _) from I.hok p _ hq)
 have ur:es.size=ns.length:=by rw[<- pm.length_eq,gc,QH]
 refine SJ kind_sorted plain_sorted entry_sorted (args_sorted1 _) ?_;unfold Builtin.«sorted»;refine wpAny_bind (m:=checkCount "sorted" 1 1 _) (wpAny_pure ?_);refine wpAny_bind (PySem.W.kdu_collect (A:=X.A.in1) (Sx.Gs (prog:=X.prog) (w:=X.w) (a:=p) (ep:=ep) g sm.le led) (I.ok.hd hc) x1 (by rw[ur];exact QT hl (by decide)) fun h' tk pI hk hacc=>?_);have ew:pI.toList=Sx.cX X.w p es ep:=by
  apply R8;intro i;by_cases hi:i<pI.toList.length
  ·rw[Qz hi];exact(hacc.2 i _ (by rw[<- RA,Qz hi])).symm
  ·rw[Q6 (by lia),Q6 (by rw[Sx.gx,<- hacc.1,<- QH];lia)]
 have wp:=Sx.qj X.w p es ep;rw[<- ew]at wp;have hI:∃ms:List Int,IntsAre pI.toList ms/\ms.Perm ns:=by
  have all:∀v∈pI.toList,∃tk,v=.int (Sx.ky v) tk:=fun v hv=>by obtain⟨e,he',rfl⟩:=QF.mp (wp.mem_iff.mp hv);exact(he e he').2
  refine⟨pI.toList.map Sx.ky,?_,?_⟩
  ·have:∀l:List Value,(∀v∈l,∃tk,v=.int (Sx.ky v) tk)->IntsAre l (l.map Sx.ky):=fun l=>by
    induction l with
    |nil=>intro _;exact .nil
    |cons v l ih=>
     intro hv;obtain⟨tk,e⟩:=hv v gV;have e2:v::l=.int (Sx.ky v) tk::l:=by rw[<- e]
     rw[gp,e2];exact .cons _ _ (ih fun y hy=>hv y (Pa _ hy))
   exact this _ all
  ·refine(wp.map Sx.ky).trans ?_;rw[Rk];exact pm
 obtain⟨nz,hI,pz⟩:=hI;have hn:pI.toList.length<=63:=by rw[QH,hacc.1,ur];exact hl
 refine wpAny_bind (wpAny_newList ?_ (QT hn (by decide)));have hL0:(h'.push (seqObj "list" pI.toList.toArray 0)).get? h'.objs.size=some (seqObj "list" pI.toList.toArray 0):=QS _ rfl;have I1:=I.kept (t':=tk) hk;refine wpAny_bind (wpAny_holding (wpAny_call_entry (s:={ s with heap:=h'.push (seqObj "list" pI.toList.toArray 0),toks:=tk }) slot_list_sort ⟨_,hL0,rfl⟩ entry_list_sort (list_sort_tree hL0 hI (by lia) fun out ms a1 a2 a3=>⟨_,rfl,?_⟩) (args_list_sort _)));obtain⟨c,hc'⟩:=sortedHeap_at (out:=out) hL0;have hz2:(ms.map V.int).length<=sizeLine:=by rw[gc,a2.length_eq,pz.length_eq];exact QT hl (by decide)
 refine wpAny_pure ⟨_,rfl,.ref h'.objs.size,_,I1.laid (t':=tk) (fun b o e=>?_) (Pz _) (show aQ X.prog X.w _ _ _ (.lst (ms.map V.int)) from ⟨hz2,out.toList,c,cD a1,by simpa using hc'⟩),rfl,k ms _ (a2.trans pz) a3 (I1.hok.fresh (Pz _))⟩;have lt:=QA e;rw[sortedHeap_old (QX lt) (by rw[size_push'];exact RU lt)];exact PU _ e
section
variable{X:Cx}{e:Expr}{f:Dm.FE}{p p0 pos lJ:Pos}
theorem Am{w:World}{σ:L2.St}{H:Hp}{Q:VK}(h:tD (Dm.e1 Dm.fy f) σ H Q):tCB (CD w) (kU (tCB (Ig w) (kU (tD f) qL)) qL) σ H Q:=by
 obtain⟨H0,ρ,x,ρ',st,e,k⟩:=h;unfold Dm.e1 at e;split at e
 ·cases e
 rename_i x1 ρ1 e1;split at e
 ·cases e
 rename_i dx p1;split at e
 ·cases e
 rename_i z gz;cases e;unfold Dm.fy at gz;split at gz
 ·rename_i ds;split at gz
  ·rename_i ns en;split at gz
   ·rename_i hb;cases gz;refine⟨H0,ρ,x1,_,st,e1,fun v H1 Hb t1 r1=>?_⟩;obtain⟨a,xs,rfl,qa,ra⟩:=bO t1.st.same (r1.look t1.st p1);have ex:=jK ra en;subst ex;refine⟨a,ns,rfl,qa,hb,fun l hl=>⟨l,Dm.dedup ns,rfl,au,by lia,fun ms p pm so hp=>?_⟩⟩;have em:ms=Dm.bK (fun a b=>decide (a<b)) (Dm.dedup ns):=Dm.cT (lt:=fun a b=>decide (a<b)) (fun a b h1 h2=>by simp at h1 h2;lia) (pm.trans (Dm.bF _ _).symm) (so.imp fun {a b} h=>by simp;lia)
     (Dm.bV (fun a b c h1 h2=>by simp at *;lia) (fun a b h=>by simp at *;lia) _)
    subst em;have g1:=aI.j8 (o:=.ext fun h=>Sx.nu w h l (Dm.dedup ns)) t1.st.same hl;have t2:=t1.trans (.grow t1.st g1);have g2:=aI.j8 (o:=.lst ((Dm.bK (fun a b=>decide (a<b)) (Dm.dedup ns)).map V.int)) t2.st.same hp;have t3:=t2.trans (.grow t2.st g2);refine k _ _ _ t3 ⟨p,rfl,t2.stp.gone hp,t2.st.bH hp,t2.st.same.free hp,_,au,?_⟩;exact gJ _
   ·cases gz
  ·cases gz
 ·cases gz
theorem An(hc:X.calm=true)(hgl:Gl X "sorted")(hml:X.mg "sorted" = none)(hg:Gl X "set")(hm:X.mg "set" = none)(h:DE X e f)(hs:starEach [e] X.env=[(false,eval e X.env)]:=by rfl)
  (hs0:starEach [.Call (.Name "set" p) [e] [] pos] X.env=[(false,eval (.Call (.Name "set" p) [e] [] pos) X.env)]:=by rfl) (CI:(backTo pos (starEach [] X.env)).any (·.1)=false:=by rfl) (Kh:(backTo lJ (starEach [] X.env)).any (·.1)=false:=by rfl) :
  DE X (.Call (.Name "sorted" p0) [.Call (.Name "set" p) [e] [] pos] [] lJ) (Dm.e1 Dm.fy f):=
 PE.weak (jq (wQ hc) hgl hml boot_sorted (fE (jX (Al hc) hg hm (by rfl) (fE h g_ hs) (he:=hs) (CI:=CI)) g_ hs0) (he:=hs0) (CI:=Kh)) fun _ _ _=>Am
end
end Br
namespace Dm
noncomputable def qk:Dat->Dat->Option RV
 |.tup xs,.tup (y::ys)=>if xs.length+(y::ys).length<=SZ then some (.val (.tup (xs++(y::ys)))) else none
 |_,_=>none
end Dm
namespace Br
open PySem PySem.Spec PyProof.Rows L2
def Ih:R2:=fun x y H Q=>∃l b xs zs,x=.ref l/\y=.ref b/\H l=some (.tup xs)/\H b=some (.tup zs)/\zs≠[]/\xs.length+zs.length<=sizeLine/\(xs=[]->Q (.ref b) H)/\(xs≠[]->∀p,H p=none->Q (.ref p) (upd H p (.tup (xs++zs))))
theorem Gu{X:Cx}:OpR X (binaryOp .Add) Ih:=by
 intro kC s σ H x y v u Q I rx ry h;obtain⟨l,b,xs,zs,rfl,rfl,hH,hB,n2,hz,q0,q⟩:=h;cases rx;cases ry;obtain⟨z1,its,r1,⟨⟨cls,dd,data,sl⟩,ho,hc,n,hd⟩⟩:=(show aQ X.prog X.w H s.heap l (.tup xs) from I.hok l _ hH)
 obtain⟨z2,its2,r2,⟨⟨Qo,dd2,data2,sl2⟩,ho2,hc2,n',hd2⟩⟩:=(show aQ X.prog X.w H s.heap b (.tup zs) from I.hok b _ hB)
 simp only at hc hd hc2 hd2;subst hc hd hc2 hd2;have e:its.toArray++its2.toArray=(its++its2).toArray:=by simp
 have hl:=r1.length;have hl2:=r2.length;have m2:its2≠[]:=fun y=>n2 (Sn.mp (by rw[hl2,y];rfl));by_cases n1:xs=[]
 ·have m1:its=[]:=Sn.mp (by rw[<- hl,n1];rfl);exact concat_meets ⟨_,ho,rfl⟩ ⟨_,ho2,rfl⟩ noFill_tuple_add seq_tuple_add PySem.F.slot_tuple_add PySem.F.entry_tuple_add (PySem.F.args_tuple_add_2 _ _)
   (tuple_addW0 l b its.toArray its2.toArray n n' dd dd2 sl sl2 (by simp[m1])) ⟨ho,ho2,.ref b,H,I,rfl,q0 n1⟩
 ·have m1:its≠[]:=fun y=>n1 (Sn.mp (by rw[hl,y];rfl));refine concat_meets ⟨_,ho,rfl⟩ ⟨_,ho2,rfl⟩ noFill_tuple_add seq_tuple_add PySem.F.slot_tuple_add PySem.F.entry_tuple_add (PySem.F.args_tuple_add_2 _ _)
   (tuple_addW2 l b its.toArray its2.toArray n n' dd dd2 sl sl2 (by simpa using m1) (by simpa using m2) (by rw[Qy,Qy];lia)) ⟨ho,ho2,?_⟩
  rw[e];refine⟨.ref _,_,I.laid (t':=s.toks) (fun _ _ q=>PU _ q) (Pz _) (show aQ X.prog X.w _ _ _ (.tup (xs++zs)) from ⟨by rw[Qv];exact hz,its++its2,r1.append r2,⟨_,QS _ rfl,rfl,0,rfl⟩⟩),rfl,q n1 _ I.fresh⟩
theorem Gv:OpD Ih Dm.qk:=by
 intro H0 H x y dx dy z Q s rx ry e k;unfold Dm.qk at e;split at e
 ·rename_i xs y1 ys;split at e
  case isFalse=>cases e
  rename_i hz;cases e;have r0:Rep H0 y (.tup (y1::ys)):=by
   rcases ry with r | ⟨a,_,w⟩
   ·exact r
   ·exact Rc w
  obtain⟨a,us,rfl,qa,ra⟩:=bO s rx;obtain⟨b,ws,rfl,qb,rb⟩:=bO s ry;have la:=ra.length;have lb:=rb.length;refine⟨a,b,us,ws,rfl,rfl,qa,qb,fun q=>(by rw[q]at lb;cases lb),by rw[la,lb];exact jz hz,fun q=>?_,fun _ p hp=>?_⟩
  ·subst q;cases ra;exact k _ _ _ (aI.refl s) r0
  ·have g:=aI.Bs (o:=.tup (us++ws)) s hp;exact k _ _ _ g (.tup au ((ra.append rb).mono g.s0))
 ·cases e
section
variable{X:Cx}{pos:Pos}
theorem KQ{a b:Expr}{fa fb:Dm.FE}(ha:DE X a fa)(hb:DE X b fb):DE X (.BinOp a .Add b pos) (Dm.e2 Dm.qk fa fb):=tH Gu Gv ha hb
end
open PySem L2
structure bB(K:Dk)(x:Str)(st:Stmt)(a:Addr)(fd:FuncData):Prop where
 e:Ri K mainGlobals x=some (some (.ref a))
 F:Fun K x x st a fd
variable{K:Dk}{x:Str}{st:Stmt}{a:Addr}{fd:FuncData}{hp:Heap}{mg:Str->Option Value}
theorem aJ{oc:Value}{od an:Option Addr}{osl:Array (Option Value)}{kV doc pm cdv ct:Value}(e:Ri K mainGlobals x=some (some (.ref a)))
  (l:K.lookup a=some ⟨oc,od,.func (QY x x (aN st) (aK st) (ai st) .none kV doc pm an cdv ct),osl⟩) (c:Sa K cdv x=true) (k:Rw K (.ref a)=true) :
  bB K x st a (QY x x (aN st) (aK st) (ai st) .none kV doc pm an cdv ct):=⟨e,JK l c k⟩
theorem mgo{v:Value}(X:K.In hp)(G:hp.Ns mainGlobals mg)(e:Ri K mainGlobals x=some (some v)):mg x=some v:=PySem.W.mg_of X G e
theorem mno(X:K.In hp)(G:hp.Ns mainGlobals mg)(e:Ri K mainGlobals x=some none):mg x=none:=PySem.W.mg_none_of X G e
theorem bB.m(h:bB K x st a fd)(X:K.In hp)(G:hp.Ns mainGlobals mg):mg x=some (.ref a):=PySem.W.mg_of X G h.e
theorem bB.PV{y:Str}(h:bB K x st a fd)(hb:∀(kV doc pm:Value) (an:Option Addr) (cdv ct v:Value),bindArgs (QY x x (aN st) (aK st) (ai st) .none kV doc pm an cdv ct) ⟨[v],[]⟩=pure [(y,v)])(s:Shared)(v:Value):BindsTo s fd ⟨[v],[]⟩ [(y,v)]:=by obtain⟨oc,od,kV,doc,pm,an,cdv,ct,osl,rfl,lk,Ij⟩:=h.F.ex;exact .of_eq (hb kV doc pm an cdv ct v)
theorem hm{j k:Nat}{A:Around}(r:bg k A)(h:j<=k:=by decide):bg j A:=r.mono h
theorem fsc{N P:List Str}{sc:Scope}(h1:sc.kind=.function)(h2:sc.isCoroutine=false)(h3:sc.isGenerator=false)(h4:N.take P.length=P)(h:N.Nodup/\(∀x∈P,sc.names.lookup x=some .local\/sc.names.lookup x=some .cell)/\∀y∈sc.names,y.2≠.free):aB N P sc:=⟨h1,h2,h3,h.1,h4,h.2.1,h.2.2⟩
end Br
namespace Dm
noncomputable def codes(s:String):List Nat:=s.toList.map Char.toNat
noncomputable def shJ:List (List Nat)->List Nat
 |[]=>[]
 |[x]=>x
 |x::y::r=>x++44::32::shJ (y::r)
mutual
noncomputable def shw:Dat->List Nat
 |.non=>codes "None"
 |.bl b=>codes (if b then "True" else "False")
 |.int i=>codes (toString i)
 |.str s=>39::(s++[39])
 |.tup xs=>40::(shJ (fY xs)++(if xs.length == 1 then [44,41] else [41]))
 |.lst xs=>91::(shJ (fY xs)++[93])
 |_=>[]
noncomputable def fY:List Dat->List (List Nat)
 |[]=>[]
 |x::r=>shw x::fY r
end
mutual
noncomputable def dY:Nat->Dat->Bool
 |_,.non=>true
 |_,.bl _=>true
 |_,.int i=>decide (i.natAbs<10 ^ 100)
 |_,.str s=>decide (s=[115,105,110,99,101]\/s=[110,101,118,101,114]\/s=[53]\/s=[48]\/s=[53,58,48,45,48]\/s=[])
 |n+1,.tup xs=>bR n xs
 |n+1,.lst xs=>bR n xs
 |_,_=>false
noncomputable def bR:Nat->List Dat->Bool
 |_,[]=>true
 |n,x::r=>dY n x&&bR n r
end
mutual
noncomputable def fZ:Dat->Nat
 |.tup xs=>1+dU xs
 |.lst xs=>1+dU xs
 |_=>1
noncomputable def dU:List Dat->Nat
 |[]=>0
 |x::r=>fZ x+dU r
end
noncomputable def lP:List Dat->Option RV
 |[.tup xs]=>if dY 8 (.tup xs)=true/\fZ (.tup xs)<=900 then some (.val (.str (shw (.tup xs)))) else none
 |[.lst xs]=>if dY 8 (.lst xs)=true/\fZ (.lst xs)<=900 then some (.val (.str (shw (.lst xs)))) else none
 |_=>none
theorem repr_len{n:Nat}(h:n<10 ^ 100):n.repr.toList.length<=100:=by rw[Nat.toList_repr];exact(Nat.length_toDigits_le_iff (by decide) (by decide)).mpr h
theorem t9{i:Int}(h:i.natAbs<10 ^ 100):(shw (.int i)).length<=101:=by
 unfold shw codes;rw[gc,Int.toString_eq_repr];unfold Int.repr;cases i with
 |ofNat m=>exact Nat.le_succ_of_le (repr_len h)
 |negSucc m=>
  dsimp only;rw[String.toList_append,Qv];have:=repr_len (n:=m.succ) h;show 1+_<=101
  lia
theorem rM:∀l:List (List Nat),(shJ l).length<=(l.map fun x=>x.length+2).sum
 |[]=>Q4 _
 |[x]=>by simp[shJ]
 |x::y::r=>by
  have:=rM (y::r);unfold shJ;simp only[Qv,QO,gp,List.sum_cons]at this ⊢
  lia
mutual
theorem rN:∀(n:Nat) (d:Dat),dY n d=true->(shw d).length+2<=110*fZ d
 |_,.non,_=>by decide
 |_,.bl b,_=>by cases b<;>decide
 |n,.int i,h=>by
  have:=t9 (i:=i) (by cases n<;>exact of_decide_eq_true h);unfold fZ
  lia
 |n+1,.tup xs,h=>by have:=nA n xs h;have j:=rM (fY xs);unfold shw fZ;simp only[QO,Qv];split<;>simp<;>lia
 |n+1,.lst xs,h=>by
  have:=nA n xs h;have j:=rM (fY xs);unfold shw fZ;simp only[QO,Qv];simp
  lia
 |0,.tup xs,h=>by cases h
 |0,.lst xs,h=>by cases h
 |n,.str s,h=>by
  have h:s=[115,105,110,99,101]\/s=[110,101,118,101,114]\/s=[53]\/s=[48]\/s=[53,58,48,45,48]\/s=[]:=by cases n<;>exact of_decide_eq_true h
  rcases h with rfl | rfl | rfl | rfl | rfl | rfl<;>decide
 |0,.dct _ _,h=>by cases h
 |0,.dcp _ _,h=>by cases h
 |_+1,.dct _ _,h=>by cases h
 |_+1,.dcp _ _,h=>by cases h
 |0,.exc _,h=>by cases h
 |0,.bU _ _,h=>by cases h
 |_+1,.exc _,h=>by cases h
 |_+1,.bU _ _,h=>by cases h
 |0,.fn _,h=>by cases h
 |_+1,.fn _,h=>by cases h
theorem nA:∀(n:Nat) (xs:List Dat),bR n xs=true->((fY xs).map fun x=>x.length+2).sum<=110*dU xs
 |_,[],_=>by simp[fY]
 |n,x::r,h=>by
  unfold bR at h;rw[QD]at h;have a:=rN n x h.1;have b:=nA n r h.2;unfold fY dU;simp only[gp,List.sum_cons]
  lia
end
end Dm
namespace Br
open PySem PySem.Spec PyProof.Rows L2
mutual
noncomputable def pyD:Dm.Dat->PyData
 |.bl b=>.bool b
 |.int i=>.int i
 |.str s=>.str ⟨s.toArray⟩
 |.tup xs=>.tuple (gU xs)
 |.lst xs=>.list (gU xs)
 |_=>.none
noncomputable def gU:List Dm.Dat->List PyData
 |[]=>[]
 |x::r=>pyD x::gU r
end
theorem t_:∀xs:List Dm.Dat,(gU xs).length=xs.length
 |[]=>rfl
 |x::r=>by simp[gU,t_ r]
theorem eY(s:String):S8 s=⟨(Dm.codes s).toArray⟩:=Str.ofString_eq_toList s
theorem fL(a b:List Nat):((⟨a.toArray⟩:Str)++(⟨b.toArray⟩:Str))=⟨(a++b).toArray⟩:=by show Str.append _ _=_;unfold Str.append;simp
theorem nB:∀l:List (List Nat),Str.join ", " (l.map fun x=>(⟨x.toArray⟩:Str))=⟨(Dm.shJ l).toArray⟩
 |[]=>rfl
 |[x]=>rfl
 |x::y::r=>by have:=nB (y::r);show (⟨x.toArray⟩:Str)++(", " : Str)++Str.join ", " ((y::r).map fun x=>(⟨x.toArray⟩:Str))=_;rw[this];have e:((", " : String):Str)=⟨[44,32].toArray⟩:=eY ", ";rw[e,fL x [44,32],fL (x++[44,32]) (Dm.shJ (y::r))];simp[Dm.shJ]
mutual
theorem ua:∀(n:Nat) (d:Dm.Dat),Dm.dY n d=true->(pyD d).shown=⟨(Dm.shw d).toArray⟩
 |_,.non,_=>by unfold pyD;rw[PyData.shown_none];exact eY "None"
 |_,.bl b,_=>by
  unfold pyD;rw[PyData.shown_bool];cases b
  ·exact eY "False"
  ·exact eY "True"
 |_,.int i,_=>by unfold pyD;rw[PyData.shown_int];exact eY (toString i)
 |n+1,.tup xs,h=>by
  unfold pyD;rw[PyData.shown_tuple,ku n xs h,nB,t_];have e1:(("(" : String):Str)=⟨[40].toArray⟩:=eY "(";rw[e1,fL [40] (Dm.shJ (Dm.fY xs))];unfold Dm.shw;by_cases q:(xs.length == 1)=true
  ·rw[if_pos q,if_pos q];have e2:((",)" : String):Str)=⟨[44,41].toArray⟩:=eY ",)";rw[e2,fL ([40]++Dm.shJ (Dm.fY xs)) [44,41]];simp
  ·rw[if_neg q,if_neg q];have e2:((")" : String):Str)=⟨[41].toArray⟩:=eY ")";rw[e2,fL ([40]++Dm.shJ (Dm.fY xs)) [41]];simp
 |n+1,.lst xs,h=>by unfold pyD;rw[PyData.shown_list,ku n xs h,nB];have e1:(("[" : String):Str)=⟨[91].toArray⟩:=eY "[";have e2:(("]" : String):Str)=⟨[93].toArray⟩:=eY "]";rw[e1,e2,fL [91] (Dm.shJ (Dm.fY xs)),fL ([91]++Dm.shJ (Dm.fY xs)) [93]];unfold Dm.shw;simp
 |0,.tup xs,h=>by cases h
 |0,.lst xs,h=>by cases h
 |n,.str s,h=>by
  have h:s=[115,105,110,99,101]\/s=[110,101,118,101,114]\/s=[53]\/s=[48]\/s=[53,58,48,45,48]\/s=[]:=by cases n<;>exact of_decide_eq_true h
  unfold pyD;rw[PyData.shown_str];rcases h with rfl | rfl | rfl | rfl | rfl | rfl<;>decide +kernel
 |0,.dct _ _,h=>by cases h
 |0,.dcp _ _,h=>by cases h
 |_+1,.dct _ _,h=>by cases h
 |_+1,.dcp _ _,h=>by cases h
 |0,.exc _,h=>by cases h
 |0,.bU _ _,h=>by cases h
 |_+1,.exc _,h=>by cases h
 |_+1,.bU _ _,h=>by cases h
 |0,.fn _,h=>by cases h
 |_+1,.fn _,h=>by cases h
theorem ku:∀(n:Nat) (xs:List Dm.Dat),Dm.bR n xs=true->PyData.shownAll (gU xs)=(Dm.fY xs).map fun x=>(⟨x.toArray⟩:Str)
 |_,[],_=>by unfold gU Dm.fY;rw[PyData.shownAll_nil];rfl
 |n,x::r,h=>by unfold Dm.bR at h;rw[QD]at h;unfold gU Dm.fY;rw[PyData.shownAll_cons,ua n x h.1,ku n r h.2];rfl
end
mutual
theorem CF:∀(n:Nat) (d:Dm.Dat),Dm.dY n d=true->(pyD d).showable=true/\(pyD d).hasDict=false/\(pyD d).depth<=n
 |_,.non,_=>by unfold pyD Su SD PyData.depth;exact⟨rfl,rfl,Q4 _⟩
 |_,.bl b,_=>by unfold pyD Su SD PyData.depth;exact⟨rfl,rfl,Q4 _⟩
 |n,.int i,h=>by
  unfold pyD Su SD PyData.depth;refine⟨decide_eq_true ?_,rfl,Q4 _⟩;have hi:i.natAbs<10 ^ 100:=by cases n<;>exact of_decide_eq_true h
  by_cases z:i.natAbs=0
  ·rw[z];decide
  ·exact(Nat.log2_lt z).mpr (TV hi (by decide))
 |n+1,.tup xs,h=>by obtain⟨h1,h2,h3⟩:=fits_of n xs h;unfold pyD Su SD PyData.depth;exact⟨h1,h2,by lia⟩
 |n+1,.lst xs,h=>by obtain⟨h1,h2,h3⟩:=fits_of n xs h;unfold pyD Su SD PyData.depth;exact⟨h1,h2,by lia⟩
 |0,.tup xs,h=>by cases h
 |0,.lst xs,h=>by cases h
 |n,.str s,h=>by unfold pyD Su SD PyData.depth;exact⟨rfl,rfl,Q4 _⟩
 |0,.dct _ _,h=>by cases h
 |0,.dcp _ _,h=>by cases h
 |_+1,.dct _ _,h=>by cases h
 |_+1,.dcp _ _,h=>by cases h
 |0,.exc _,h=>by cases h
 |0,.bU _ _,h=>by cases h
 |_+1,.exc _,h=>by cases h
 |_+1,.bU _ _,h=>by cases h
 |0,.fn _,h=>by cases h
 |_+1,.fn _,h=>by cases h
theorem fits_of:∀(n:Nat) (xs:List Dm.Dat),Dm.bR n xs=true->Tv (gU xs)=true/\TQ (gU xs)=false/\Rz (gU xs)<=n
 |_,[],_=>by unfold gU Tv TQ Rz;exact⟨rfl,rfl,Q4 _⟩
 |n,x::r,h=>by unfold Dm.bR at h;rw[QD]at h;obtain⟨a1,a2,a3⟩:=CF n x h.1;obtain⟨b1,b2,b3⟩:=fits_of n r h.2;unfold gU Tv TQ Rz;exact⟨by rw[a1,b1];rfl,by rw[a2,b2];rfl,Nat.max_le.mpr ⟨a3,b3⟩⟩
end
section
variable{kC:List (Addr×Obj)}{s:Shared}{σ:L2.St}{X:Cx}{H:Hp}
mutual
theorem uc(I:Inv X kC σ H s):∀(n:Nat) (d:Dm.Dat) (v:V) (u:Value),Dm.dY n d=true->Rep H v d->RelV v u->∃as,Reads s.heap u (pyD d) as/\∀b∈as,H b≠none
 |_,.non,v,u,_,r,q=>by cases r;cases q;unfold pyD;exact⟨_,.none,fun _ h=>by cases h⟩
 |_,.bl b,v,u,_,r,q=>by cases r;cases q;unfold pyD;exact⟨_,.bool b,fun _ h=>by cases h⟩
 |_,.int i,v,u,_,r,q=>by cases r;obtain⟨t,rfl⟩:=q;unfold pyD;exact⟨_,.int i t,fun _ h=>by cases h⟩
 |n+1,.tup ds,v,u,h,r,q=>by
  cases r with
  |@tup a xs _ hq rs=>cases q;obtain⟨its,rv,⟨o,ho,hc,m,hd⟩,hz⟩:=I.tuple (SqT.of (K:=X.K) hq);obtain⟨as,ha,hb⟩:=kB I n ds xs its h rs rv;unfold pyD;exact⟨as,.tuple ho hc hd (by simpa using ha),hb⟩
 |n+1,.lst ds,v,u,h,r,q=>by
  cases r with
  |@lst a xs _ hq rs=>
   cases q;obtain⟨its,rv,⟨o,m,ho,hc,_,hd⟩,hz⟩:=I.list (.inl hq);obtain⟨as,ha,hb⟩:=kB I n ds xs its h rs rv;unfold pyD;refine⟨_,.list ho hc hd (by simpa using ha),fun b hm=>?_⟩;rcases Qw.mp hm with rfl | hm
   ·rcases hq with q | ⟨_,q⟩<;>rw[q]<;>exact fun z=>nomatch z
   ·exact hb b hm
 |0,.tup xs,_,_,h,_,_=>by cases h
 |0,.lst xs,_,_,h,_,_=>by cases h
 |n,.str s,v,u,_,r,q=>by cases r;obtain⟨t,rfl⟩:=q;unfold pyD;exact⟨_,.str _ t,fun _ h=>by cases h⟩
 |0,.dct _ _,_,_,h,_,_=>by cases h
 |0,.dcp _ _,_,_,h,_,_=>by cases h
 |_+1,.dct _ _,_,_,h,_,_=>by cases h
 |_+1,.dcp _ _,_,_,h,_,_=>by cases h
 |0,.exc _,_,_,h,_,_=>by cases h
 |0,.bU _ _,_,_,h,_,_=>by cases h
 |_+1,.exc _,_,_,h,_,_=>by cases h
 |_+1,.bU _ _,_,_,h,_,_=>by cases h
 |0,.fn _,_,_,h,_,_=>by cases h
 |_+1,.fn _,_,_,h,_,_=>by cases h
theorem kB(I:Inv X kC σ H s):∀(n:Nat) (ds:List Dm.Dat) (vs:List V) (us:List Value),Dm.bR n ds=true->av H vs ds->Vals vs us->∃as,ReadsAll s.heap us (gU ds) as/\∀b∈as,H b≠none
 |_,[],vs,us,_,r,q=>by cases r;cases q;unfold gU;exact⟨_,.nil,fun _ h=>by cases h⟩
 |n,d::ds,vs,us,h,r,q=>by
  cases r with
  |cons r rs=>
   cases q with
   |cons q qs=>unfold Dm.bR at h;rw[QD]at h;obtain⟨as,ha,ka⟩:=uc I n d _ _ h.1 r q;obtain⟨bs,hb,kb⟩:=kB I n ds _ _ h.2 rs qs;unfold gU;exact⟨_,.cons ha hb,fun b hm=>(QE.mp hm).elim (ka b) (kb b)⟩
end
end
def NL:List V->Hp->VK->Prop:=fun xs H Q=>∃(a:Addr) (d:Dm.Dat),xs=[.ref a]/\Dm.dY 8 d=true/\(Dm.shw d).length<=sizeLine/\Rep H (.ref a) d/\Q (.str ⟨(Dm.shw d).toArray⟩) H
theorem ud{X:Cx}{k:Nat}(hr:bg k X.A):bW X (.type "str") NL:=by intro kC s σ H xs us Q I r h;obtain⟨a,d,rfl,hd,hz,rd,q⟩:=h;obtain⟨u,rfl,rx⟩:=vals1 r;cases rx;obtain⟨as,ha,_⟩:=uc I 8 d _ _ hd rd rfl;obtain⟨f1,f2,f3⟩:=CF 8 d hd;have sh:=ua 8 d hd;have un:=hr.un;refine str_of_reads ha f1 (fun z=>by rw[f2]at z;cases z) hr.gd (by lia) (fun _ _ e=>e) (fun h' u tk kp=>?_) (by rw[sh];exact QT (by show (Dm.shw d).toArray.size<=_;simp) hz);rw[sh];exact⟨.str ⟨(Dm.shw d).toArray⟩,H,I.kept (t':=tk) kp,⟨u,rfl⟩,q⟩
theorem KR:CallD NL Dm.lP:=by
 intro H0 H vs ds z Q s rs e k;have sz:110*900<=sizeLine:=by decide
 unfold Dm.lP at e;split at e
 ·split at e
  ·rename_i hk;cases e;cases rs with
   |cons r rr=>
    cases rr;rcases r with r | ⟨a,_,w⟩
    ·cases r with
     |tup q rs=>have rp:Rep H (.ref _) (.tup _):=.tup (s _ _ q) (rs.mono s);have:=Dm.rN 8 _ hk.1;have h2:=hk.2;exact⟨_,_,rfl,hk.1,by lia,rp,k _ H0 H (aI.refl s) (.str _)⟩
    ·exact Rc w
  ·cases e
 ·split at e
  ·rename_i hk;cases e;cases rs with
   |cons r rr=>cases rr;obtain⟨a,us,rfl,qa,ra⟩:=bx s r;have rp:Rep H (.ref a) (.lst _):=.lst qa (ra.mono s);have:=Dm.rN 8 _ hk.1;have h2:=hk.2;exact⟨_,_,rfl,hk.1,by lia,rp,k _ H0 H (aI.refl s) (.str _)⟩
  ·cases e
 ·cases e
section
variable{X:Cx}{e:Expr}{fs:List Dm.FE}{p pos:Pos}{k:Nat}
theorem ue(hr:bg k X.A)(hg:Gl X "str")(hm:X.mg "str" = none)(ha:DA X [e] fs)(he:starEach [e] X.env=[(false,eval e X.env)]:=by rfl)(CI:(backTo pos (starEach [] X.env)).any (·.1)=false:=by rfl):DE X (.Call (.Name "str" p) [e] [] pos) (Dm.eB Dm.lP fs):=BN (ud hr) KR (by rfl) hg hm ha (he:=he) (CI:=CI)
end
end Br
set_option maxHeartbeats 4000000
namespace Ts
open PySem PyProof.Rows
variable{A:Around}{E:Value->Shared->Prop}{s:Shared}{prog:Program}{w:World}
end Ts
namespace Br
open PySem PySem.Spec PyProof.Rows L2
theorem okQ{P:Program}{w:World}{K:Dk}{mg:Str->Option Value}{base:Heap}{x qual:Str}{st:Stmt}{f:Addr}{fd:FuncData}{N ps:List Str}{k n m:Nat}{body:Dm.FS}(F:Fun K x qual st f fd)(S:aB N ps (ai st))
  (hb:∀(cdv:Value) (A:Around) (outer:List Env) (s:Shared) (H:Hp) (E:XK),bg k (A.deeper (envOfC qual (ai st) s.heap.objs.size f cdv))->DSs (sO CX0 P w K mg base N qual (ai st) f cdv A outer s H E).nox (aK st) body)
  (hn:ps.length=n:=by rfl) (hm:N.length=n+m:=by rfl):aW P w K mg base CX0 (k+1) f fd ps (spD (Dm.fn n m body)):=
 F.ok S (fun vs H Q E h=>(we h).trans hn.symm) fun cdv A outer s H vs Q E hr h=>⟨_,hb cdv A outer s H E hr,M0 hm h⟩
end Br
namespace Dm
noncomputable def yO:Dat->Option RV
 |.tup xs=>some (.val (.tup xs.reverse))
 |_=>none
end Dm
namespace HT
open PySem PySem.Spec PyProof.Rows
section
open PySem.SeqAt
open PySem.AutoSeq1 (wpAny_loadPart')
open PySem.MeetsSeq PySem.MeetsSeq2 PySem.MeetsSeq3
variable{prog:Program}{w:World}{A:Around}{E:Value->Shared->Prop}{s:Shared}
theorem uf{sl:Addr}{vs:Value}{n:Nat}{Q:Int×Int×Nat->Shared->Prop}(hs:s.heap.IsSliceOf sl .none .none vs)(ps:IsPart vs (some (-1)))(h:Q ((n:Int)-1,-1,n) s) :
  wpAny (model prog w) A (R5 (.ref sl) (pure (n:Int))) Q E s:=by
 obtain⟨os,hos,_,hds⟩:=id hs;unfold R5 Builtin.Slice.sliceFields;refine wpAny_bind (wpAny_bind (wpAny_field hos hds (x:=.none) rfl (wpAny_bind (wpAny_field hos hds (x:=.none) rfl (wpAny_bind (wpAny_field hos hds (x:=vs) rfl (wpAny_pure ?_)))))));refine wpAny_bind (h_ ps ?_);show wpAny _ _ (if ((-1:Int) == 0)=true then _ else _) _ _ s;rw[if_neg (by decide)];refine wpAny_bind (slicePart_none (wpAny_bind (slicePart_none (wpAny_bind (wpAny_pure ?_)))));show wpAny _ _ (pure ((n:Int)-1,(-1:Int),Rv ((n:Int)-1) (-1) (-1))) _ _ s;have e:Rv ((n:Int)-1) (-1) (-1)=n:=by
  unfold Rv;rw[if_neg (by decide)];by_cases h:(n:Int)-1 > -1
  ·rw[if_pos h,show (- -1:Int)=1 by decide,Int.ediv_one]
   lia
  ·rw[if_neg h]
   lia
 rw[e];exact wpAny_pure h
theorem CG(xs:Array Value):((QG xs.size).filterMap fun(k:Nat)=>xs[((xs.size:Int)-1+(k:Int)*-1).toNat]?).toArray=xs.toList.reverse.toArray:=by
 congr 1
 have e:(QG xs.size).filterMap (fun(k:Nat)=>xs[((xs.size:Int)-1+(k:Int)*-1).toNat]?)=((QG xs.size).map fun k=>xs.size-1-k).filterMap (xs[·]?):=by
  rw[Tq];have g:∀l:List Nat,(∀k∈l,k<xs.size)->l.filterMap (fun(k:Nat)=>xs[((xs.size:Int)-1+(k:Int)*-1).toNat]?)=l.filterMap ((fun i=>xs[i]?)∘fun k=>xs.size-1-k):=fun l=>by
   induction l with
   |nil=>exact fun _=>rfl
   |cons k l ih=>
    intro hk;have:=hk k gV;rw[Rh,Rh,ih fun x hx=>hk x (Pa _ hx)];have e:((xs.size:Int)-1+(k:Int)*-1).toNat=xs.size-1-k:=by lia
    rw[e];rfl
  exact g _ fun k hk=>Q3.mp hk
 rw[e,PySem.W.krv_range,List.filterMap_reverse,PySem.W.krv_all]
theorem jP{t sl:Addr}{items:Array Value}{vs:Value}{Q:Value->Shared->Prop}(ht:IsTup s.heap t items)(hs:s.heap.IsSliceOf sl .none .none vs)(ps:IsPart vs (some (-1)))
  (h:Q (.ref s.heap.objs.size) { s with heap:=s.heap.push { cls:=.type "tuple",data:=.seq items.toList.reverse.toArray } }) (hsz:items.size<=sizeLine):wpAny (model prog w) A (getItem (.ref t) (.ref sl)) Q E s:=by
 have hz:sizeOk (.seq items.toList.reverse.toArray):=by
  show items.toList.reverse.toArray.size<=sizeLine
  simpa using hsz
 obtain⟨os,hos,hcs,_⟩:=id hs;have hTs:s.TypeIs (.ref sl) "slice" := ⟨os,hos,hcs⟩
 unfold getItem
 try with_reducible refine wpAny_holding ?_
 first | refine wpAny_bind (wpAny_pure ?_) | skip
 refine wpAny_bind (wpAny_sequenceKey ht.typeIs (by decide) ?_);refine wpAny_bind (wpAny_callSpecial?_slot (name:=S8 "__getitem__") ht.typeIs Ru (wpAny_call_entry Ru ht.typeIs entry_tuple_getitem ?_ (args_tuple_getitem _ _)));show wpAny _ _ (Builtin.Tuple.tupleItemsOf (.ref t) >>= _) _ _ s;refine wpAny_bind (tupleItemsOf_ ht (wpAny_bind (wpAny_typeOf hTs ?_)));rw[if_pos (by decide)];refine wpAny_bind (uf hs ps ?_);show wpAny _ _ (if ((((items.size:Int)-1) == 0&&(-1:Int) == 1&&items.size == items.size)=true) then _ else _) _ _ s;rw[if_neg (by simp),CG]
 first
  |exact wpAny_bind (m:=Rt _) (wpAny_newObj_type (wpAny_pure ⟨_,rfl,wpAny_pure h⟩) hz)
  |exact wpAny_bind (m:=Rt _) (wpAny_newObj_type (wpAny_bind (wpAny_pure (wpAny_pure ⟨_,rfl,wpAny_pure h⟩))) hz)
  |exact wpAny_bind (wpAny_bind (m:=Rt _) (wpAny_newObj_type (wpAny_pure (wpAny_pure ⟨_,rfl,wpAny_pure h⟩)) hz))
  |exact wpAny_bind (wpAny_bind (m:=Rt _) (wpAny_newObj_type (wpAny_pure ⟨_,rfl,wpAny_pure h⟩) hz))
end
end HT
namespace Br
open PySem PySem.Spec PyProof.Rows L2
section
variable{X:Cx}{pos p2:Pos}{e:Expr}{f:Dm.FE}
def Ii(K:Dk)(te:TE):TE:=fun σ H Q=>te σ H fun x H1=>∃a xs,x=.ref a/\SqT K H1 a xs/\∀p,H1 p=none->Q (.ref p) (upd H1 p (.tup xs.reverse))
theorem Gw{te:TE}{k p3 p4}(he:PE X e te):PE X (.Subscript e (.Slice none none (some (.UnaryOp .USub (.Constant (.int 1) k p3) p4)) p2) pos) (Ii X.K te):=by
 intro kC s σ H Q I h;refine Subscript_ (thn (he kC s σ H _ I h) fun v s1 h1=>?_);obtain⟨x,H1,I1,r1,a,xs,rfl,hx,q⟩:=h1;cases r1;refine wpAny_Slice ?_;rw[evalPart_none];refine wpAny_pure (wpAny_pure ?_);have hstep:=ya (X:=X) (HF (pos:=p4) A0 (AK (i:=1) (j:=k) (pos:=p3) (X:=X)));refine thn (hstep kC s1 σ H1 (fun o H'=>o=some (-1)/\H'=H1) I1 ⟨_,rfl,_,rfl,rfl,rfl⟩) fun vs s2 h2=>?_;obtain⟨o,H2,I2,ps,rfl,rfl⟩:=h2;have I3:Inv X kC σ H2 { s2 with heap:=s2.heap.push { cls:=.type "slice",data:=.fields #[.none,.none,vs] } }:=I2.kept (t':=s2.toks) fun b ob q=>PU _ q;obtain⟨its,r,ht,hz⟩:=I3.tuple hx;have ur:=r.length;have hg:wpAny (model X.prog X.w) X.A (getItem (.ref a) (.ref s2.heap.objs.size)) (EP X kC σ Q) X.xe { s2 with heap:=s2.heap.push { cls:=.type "slice",data:=.fields #[.none,.none,vs] } }:=by refine HT.jP ht (Heap.IsSliceOf.new ..) ps ?_ (by rw[Qy]<;>lia);rw[show its.toArray.toList.reverse.toArray=its.reverse.toArray by simp];refine⟨.ref _,_,I3.laid (t':=s2.toks) (o:=.tup xs.reverse) (fun b ob q=>PU _ q) (Pz _) ?_,rfl,q _ (I3.hok.fresh (Pz _))⟩;exact⟨by rw[List.length_reverse];exact hz,_,r.reverse,IsTup.new _ _⟩
 show wpAny (model X.prog X.w) X.A (subscriptTail e (.Slice none none (some (.UnaryOp .USub (.Constant (.int 1) k p3) p4)) p2) (.ref a) (.ref s2.heap.objs.size)) (EP X kC σ Q) X.xe _;exact tail_any (ops:=[.ref a,.ref s2.heap.objs.size]) ht.typeIs Ru.lookup hg (by with_unfolding_all rfl)
theorem KS{K:Dk}{σ:L2.St}{H:Hp}{Q:VK}(h:tD (Dm.e1 Dm.yO f) σ H Q):Ii K (tD f) σ H Q:=by
 obtain⟨H0,ρ,x,ρ',st,e,k⟩:=h;unfold Dm.e1 at e;split at e
 ·cases e
 rename_i x1 ρ1 e1;split at e
 ·cases e
 rename_i dx p1;split at e
 ·cases e
 rename_i z gz;unfold Dm.yO at gz;split at gz
 ·cases gz;cases e;refine⟨H0,ρ,x1,_,st,e1,fun v H1 Hb t1 r1=>?_⟩;obtain⟨a,xs,rfl,qa,ra⟩:=bO t1.st.same (r1.look t1.st p1);refine⟨a,xs,rfl,SqT.of qa,fun q hq=>?_⟩;have g:=aI.Bs (o:=HO.tup xs.reverse) t1.st.same hq;exact k _ _ _ (t1.trans (.grow t1.st g)) (.tup au (ra.reverse.mono g.s0))
 ·cases gz
theorem KU{k p3 p4}(h:DE X e f):DE X (.Subscript e (.Slice none none (some (.UnaryOp .USub (.Constant (.int 1) k p3) p4)) p2) pos) (Dm.e1 Dm.yO f):=PE.weak (Gw h) fun _ _ _=>KS
end
end Br
namespace L2
open PySem PySem.Spec PyProof.Rows
section
variable{P:Program}{w:World}{K:Dk}{mg:Str->Option Value}{base:Heap}{N:List Str}{qual:Str}{scope:Scope}{f:Addr}{cd:Value}{A:Around}{outer:List Env}{s₀:Shared}{H₀:Hp}{E:XK}{C:Addr}
 {kC:List (Addr×Obj)} {σ:St} {H:Hp} {s:Shared}
end
end L2
namespace Dm
noncomputable def fB:List Dat->Option RV
 | [.tup xs]=>(match dR xs with
  |some ns=>if ns.length<=63 then some (.new (.lst ((bK (fun a b=>decide (a<b)) ns).map .int))) else none
  |none=>none)
 |_=>none
end Dm
namespace Br
open PySem PySem.Spec PyProof.Rows L2
def ug:List V->Hp->VK->Prop:=fun xs H Q=>∃(p:Addr) (ns:List Int),xs=[.ref p]/\H p=some (.tup (ns.map V.int))/\ns.length<=63 /\
 ∀(ms:List Int) (l:Addr),ms.Perm ns->ms.Pairwise (·<=·)->H l=none->Q (.ref l) (upd H l (.lst (ms.map V.int)))
theorem jQ:∀{ns:List Int} {its:List Value},Vals (ns.map V.int) its->IntsAre its ns
 |[],_,r=>by rw[SQ]at r;cases r;exact .nil
 |n::ns,_,r=>by
  rw[gp]at r;cases r with
  |cons h t=>obtain⟨k,rfl⟩:=h;exact .cons n k (jQ t)
theorem rO{X:Cx}:bW X (.builtin "sorted") ug:=by
 intro kC s σ H xs us Q I r h;obtain⟨p,ns,rfl,hq,hl,k⟩:=h;obtain⟨u,rfl,rx⟩:=vals1 r;cases rx;obtain⟨z,its,rv,o,h1,h2,n,h3⟩:=(show aQ X.prog X.w H s.heap p (.tup (ns.map V.int)) from I.hok p _ hq)
 have hI:=jQ rv;have ur:its.length=ns.length:=by have:=rv.length;rw[gc]at this;exact this.symm
 refine SJ kind_sorted plain_sorted entry_sorted (args_sorted1 _) ?_;unfold Builtin.«sorted»;refine wpAny_bind (m:=checkCount "sorted" 1 1 _) (wpAny_pure ?_);refine wpAny_bind (wpAny_collect_seq (hsz:=by rw[Qy,ur];exact QT hl (by decide)) p (.inr rfl) h1 h2 h3 fun h' hk=>?_);have hn:its.toArray.toList.length<=63:=by rw[List.toList_toArray,ur];exact hl
 refine wpAny_bind (wpAny_newList ?_ (QT hn (by decide)));have hL0:(h'.push (seqObj "list" its.toArray 0)).get? h'.objs.size=some (seqObj "list" its.toArray 0):=QS _ rfl;have I1:=I.kept (t':=s.toks) hk;refine wpAny_bind (wpAny_holding (wpAny_call_entry (s:={ s with heap:=h'.push (seqObj "list" its.toArray 0) }) slot_list_sort ⟨_,hL0,rfl⟩ entry_list_sort (list_sort_tree hL0 hI (by rw[ur];lia) fun out ms a1 a2 a3=>⟨_,rfl,?_⟩) (args_list_sort _)));obtain⟨c,hc'⟩:=sortedHeap_at (out:=out) hL0;have hz2:(ms.map V.int).length<=sizeLine:=by rw[gc,a2.length_eq];exact QT hl (by decide)
 refine wpAny_pure ⟨_,rfl,.ref h'.objs.size,_,I1.laid (t':=s.toks) (fun b o e=>?_) (Pz _) (show aQ X.prog X.w _ _ _ (.lst (ms.map V.int)) from ⟨hz2,out.toList,c,cD a1,by simpa using hc'⟩),rfl,k ms _ a2 a3 (I1.hok.fresh (Pz _))⟩;have lt:=QA e;rw[sortedHeap_old (QX lt) (by rw[size_push'];exact RU lt)];exact PU _ e
theorem wR:CallD ug Dm.fB:=by
 intro H0 H vs ds z Q s rs e k;unfold Dm.fB at e;split at e
 ·rename_i xs;split at e
  ·rename_i ns en;split at e
   case isFalse=>cases e
   rename_i hl;cases e;cases rs with
   |cons r rr=>
    cases rr;obtain⟨a,us,rfl,ha,ra⟩:=bO s r;have eu:=jK ra en;subst eu;refine⟨a,ns,rfl,ha,hl,fun ms l pm so hp=>?_⟩;have em:ms=Dm.bK (fun a b=>decide (a<b)) ns:=Dm.cT (lt:=fun a b=>decide (a<b)) (fun a b h1 h2=>by simp at h1 h2;lia) (pm.trans (Dm.bF _ ns).symm) (so.imp fun {a b} h=>by simp;lia)
     (Dm.bV (fun a b c h1 h2=>by simp at *;lia) (fun a b h=>by simp at *;lia) ns)
    exact k _ _ _ (aI.j8 s hp) ⟨l,rfl,hp,s.free hp,_,au,by rw[<- em];exact gJ ms⟩
  ·cases e
 ·cases e
theorem Ao{X:Cx}{e:Expr}{fs:List Dm.FE}{p pos:Pos}(hg:Gl X "sorted")(hm:X.mg "sorted" = none)(ha:DA X [e] fs)(he:starEach [e] X.env=[(false,eval e X.env)]:=by rfl)(CI:(backTo pos (starEach [] X.env)).any (·.1)=false:=by rfl):DE X (.Call (.Name "sorted" p) [e] [] pos) (Dm.eB Dm.fB fs):=tL rO wR (by rfl) hg hm ha (he:=he) (CI:=CI)
end Br
namespace Ts
open PySem PyProof.Rows
variable{A:Around}{E:Value->Shared->Prop}{s:Shared}{prog:Program}{w:World}
end Ts
namespace Dm
noncomputable def CH:Dat->Bool
 |.lst ds=>yF ds
 |_=>false
noncomputable def lkE:Env->Env->Option Env
 |[],[]=>some []
 | .ow _::r,.ow d::r1=>if CH d then (match lkE r r1 with
  |some q=>some (.ow d::q)
  |none=>none) else none
 |.ow _::_,_::_=>none
 | c::r,_::r1=>(match lkE r r1 with
  |some q=>some (c::q)
  |none=>none)
 |_,_=>none
noncomputable def cLk(j i:Nat)(e:FE):FC:=fun ρ p=>if i=0\/i=j then none else match e (ρ.set j (.sh p.dat)) with
 | some (.val d,ρ1)=>if cj d then none else (match lkE (ρ.set j .un) ρ1 with
  |some ρ2=>some (.nx (ρ2.set i (.sh d)) p)
  |none=>none)
 |_=>none
noncomputable def owS:Env->Env->Bool
 |.ow _::r,.ow _::r1=>owS r r1
 |.ow _::_,_=>false
 |_::r,_::r1=>owS r r1
 |_,_=>true
noncomputable def ql(j:Nat)(f:FP)(g:FM):FS:=fun ρ=>if j=0 then none else match f ρ with
 |none=>none
 |some (p,ρ1)=>if owS ρ ρ1 then g (ρ1.set j .un) p else none
noncomputable def pH(j:Nat)(gs:FS):FM:=fun ρ p=>match p with
 |.l ps=>gs (ρ.set j (.ow (.lst (Dp.iw ps))))
 |_=>none
noncomputable def rP(j:Nat)(t:FT)(ga gb:FM)(gs:FS):FM:=fun ρ p=>match t (see j ρ p) with
 |none=>none
 | some (true,_)=>(match ga ρ p with
  |some (.nx ρ1)=>gs ρ1
  |o=>o)
 | some (false,_)=>(match gb ρ p with
  |some (.nx ρ1)=>gs ρ1
  |o=>o)
noncomputable def rQ(rows:List Dp)(z y:Int)(d:Dat):Option (List Dp):=match ixN rows.length z with
 |none=>none
 |some m=>match rows[m]? with
  | some (.l items)=>(match ixN items.length y with
   |none=>none
   |some q=>match items[q]? with
    |some (.s _)=>some (rows.set m (.l (items.set q (.s d))))
    |_=>none)
  |_=>none
noncomputable def qo(j:Nat)(i k e:FE):FC:=fun ρ p=>match p with
 | .l rows=>(match e (see j ρ p) with
  | some (.val d,_)=>if cj d then none else (match i (see j ρ p) with
   | some (.val (.int z),_)=>(match k (ρ.set j (.sh p.dat)) with
    | some (.val (.int y),ρ1)=>(match lkE (ρ.set j .un) ρ1 with
     | some ρ2=>(match rQ rows z y d with
      |some rows'=>some (.nx ρ2 (.l rows'))
      |none=>none)
     |none=>none)
    |_=>none)
   |_=>none)
  |_=>none)
 |_=>none
end Dm
namespace Br
open PySem PySem.Spec PyProof.Rows L2
section
variable{N P:Addr->Prop}{H0 H:Hp}
mutual
theorem b5.uh(ht:∀a vs,H a=some (.tup vs)->P a):∀{v:V} {p:Dm.Dp} {fp:List Addr},b5 N H0 H v p fp->(∀a∈fp,P a)->b5 (fun a=>N a/\P a) H0 H v p fp
 |_,_,_,.s r,_=>.s r
 |_,_,_,.l n h r,k=>.l ⟨n,k _ gV⟩ h (aH.uh ht r fun b hb=>k b (Pa _ hb))
 |_,_,_,.t n h r,k=>.t ⟨n,ht _ _ h⟩ h (aH.uh ht r k)
theorem aH.uh(ht:∀a vs,H a=some (.tup vs)->P a):∀{vs:List V} {ps:List Dm.Dp} {fp:List Addr},aH N H0 H vs ps fp->(∀a∈fp,P a)->aH (fun a=>N a/\P a) H0 H vs ps fp
 |_,_,_,.nil,_=>.nil
 |_,_,_,.cons h r,k=>.cons (b5.uh ht h fun a ha=>k a (Q2 _ ha)) (aH.uh ht r fun a ha=>k a (QV _ ha))
end
end
theorem av.flat{H1 H2:Hp}:∀{ds:List Dm.Dat} {vs:List V},av H1 vs ds->Dm.yF ds=true->av H2 vs ds
 |[],_,r,_=>by cases r;exact .nil
 |d::ds,_,r,h=>by
  unfold Dm.yF at h;rw[QD]at h;cases r with
  |cons r rs=>exact .cons (Rep.plain r (by simpa using h.1)) (av.flat rs h.2)
theorem Own.flat{H1 H2 H:Hp}{a:Addr}{d:Dm.Dat}(w:Own H1 H a d)(h:Dm.CH d=true):Own H2 H a d:=by
 cases d with
 |lst ds=>obtain⟨xs,q,r⟩:=w;exact⟨xs,q,r.flat h⟩
 |_=>cases h
theorem rR:∀{ρ ρ1 ρ2:Dm.Env},Dm.lkE ρ ρ1=some ρ2->ρ2.length=ρ.length/\∀(i:Nat) (c:Dm.Cell),ρ2[i]?=some c->(∃d d0,c=Dm.Cell.ow d/\ρ[i]?=some (Dm.Cell.ow d0)/\ρ1[i]?=some (Dm.Cell.ow d)/\Dm.CH d=true)\/((∀d,c≠Dm.Cell.ow d)/\ρ[i]?=some c)
 |[],[],_,e=>by cases e;exact⟨rfl,fun i c h=>by simp at h⟩
 |.ow d0::r,.ow d::r1,_,e=>by
  unfold Dm.lkE at e;split at e
  case isFalse=>cases e
  rename_i hf;split at e
  case h_2=>cases e
  rename_i q hq;cases e;obtain⟨l,k⟩:=rR hq;refine⟨by simp[l],fun i c h=>?_⟩;cases i with
  |zero=>simp at h;subst h;exact .inl ⟨d,d0,rfl,rfl,rfl,hf⟩
  |succ i=>simpa using k i c (by simpa using h)
 |.ow _::_,.un::_,_,e=>by cases e
 |.ow _::_,.sh _::_,_,e=>by cases e
 |.un::r,c1::r1,_,e=>by
  unfold Dm.lkE at e;split at e
  case h_2=>cases e
  rename_i q hq;cases e;obtain⟨l,k⟩:=rR hq;refine⟨by simp[l],fun i c h=>?_⟩;cases i with
  |zero=>simp at h;subst h;exact .inr ⟨fun d z=>(by cases z),rfl⟩
  |succ i=>simpa using k i c (by simpa using h)
 |.sh d0::r,c1::r1,_,e=>by
  unfold Dm.lkE at e;split at e
  case h_2=>cases e
  rename_i q hq;cases e;obtain⟨l,k⟩:=rR hq;refine⟨by simp[l],fun i c h=>?_⟩;cases i with
  |zero=>simp at h;subst h;exact .inr ⟨fun d z=>(by cases z),rfl⟩
  |succ i=>simpa using k i c (by simpa using h)
 |[],_::_,_,e=>by cases e
 |.un::_,[],_,e=>by cases e
 |.sh _::_,[],_,e=>by cases e
 |.ow _::_,[],_,e=>by cases e
section
variable{j:Nat}{σs:L2.St}{ρs:Dm.Env}{H0s Hs:Hp}{σ:L2.St}{ρ ρ1 ρ2:Dm.Env}{H0 H H0' H':Hp}{p:Dm.Dp}
noncomputable abbrev Lk(Hs:Hp)(σ:L2.St)(ρ:Dm.Env)(a:Addr):Prop:=Hs a=none/\¬aj σ ρ a
theorem um{d:Dm.Dat}{a:Addr}(z:aj σ (ρ.set j (.sh d)) a):aj σ ρ a:=by
 obtain⟨i,d',h1,h2⟩:=z;rcases aD h1 with⟨_,q⟩ | ⟨_,h1⟩
 ·cases q
 ·exact⟨i,d',h1,h2⟩
theorem MS.lk(n:MS j σs ρs H0s Hs σ ρ H0 H p):ay (bor H0 H (Lk Hs σ ρ)) H σ (ρ.set j (.sh p.dat)):=by
 obtain⟨v,fp,h1,h2,h3⟩:=n.ex;have h2':=h2.uh (P:=fun a=>¬aj σ ρ a) (fun a vs h=>n.st.iy h) fun a ha=>(h3.2 a ha).2;refine⟨lX n.st.same,by rw[QU];exact n.st.len,fun i d h=>?_,fun i d h=>?_,fun i i' d d' a z1 z2 z3 z4=>?_⟩
 ·rcases aD h with⟨rfl,q⟩ | ⟨_,h⟩
  ·cases q;exact⟨v,h1,h2'.rep cI fun a o z w=>ki n.st.same z w⟩
  ·obtain⟨u,w1,w2⟩:=n.st.sh i d h;exact⟨u,w1,w2.mono cI⟩
 ·rcases aD h with⟨rfl,q⟩ | ⟨_,h⟩
  ·cases q
  ·obtain⟨a,w1,w2,w3⟩:=n.st.ow i d h;refine⟨a,w1,?_,w3.mono cI rfl⟩;unfold bor;rw[w2];dsimp only;rw[if_neg fun z=>z.2 ⟨i,d,h,w1⟩]
 ·rcases aD z1 with⟨_,q⟩ | ⟨_,z1⟩
  ·cases q
  rcases aD z2 with⟨_,q⟩ | ⟨_,z2⟩
  ·cases q
  exact n.st.dis i i' d d' a z1 z2 z3 z4
theorem MS.lkd(n:MS j σs ρs H0s Hs σ ρ H0 H p)(t:ESt σ (ρ.set j (.sh p.dat)) (bor H0 H (Lk Hs σ ρ)) H ρ1 H0' H')(e:Dm.lkE (ρ.set j .un) ρ1=some ρ2):MS j σs ρs H0s Hs σ ρ2 H0 H' p:=by
 obtain⟨ll,at2⟩:=rR e;obtain⟨v,fp,h1,h2,h3⟩:=n.ex;have keep:∀a o,H a=some o->¬aj σ ρ a->H' a=some o:=fun a o h no=>t.stp.s1 a o h fun z=>no (um z);have NO:∀a o,H0 a=some o->¬aj σ ρ a:=fun a o h ⟨i,d,q1,q2⟩=>by obtain⟨b,w1,w2,_⟩:=n.st.ow i d q1;rw[q2]at w1;cases w1;rw[h]at w2;cases w2
 have NP:∀a,aj σ ρ2 a->aj σ ρ a:=fun a ⟨i,d,q1,q2⟩=>by
  rcases at2 i _ q1 with⟨d1,d0,_,k1,_⟩ | ⟨k1,_⟩
  ·rcases aD k1 with⟨_,z⟩ | ⟨_,k1⟩
   ·cases z
   ·exact⟨i,d0,k1,q2⟩
  ·exact(k1 d rfl).elim
 refine⟨⟨fun a o h=>keep a o (n.st.same a o h) (NO a o h),by rw[ll,QU];exact n.st.len,fun i d h=>?_,fun i d h=>?_,fun i i' d d' a z1 z2 z3 z4=>?_⟩,?_,fun a z=>n.own a (NP a z),n.fx,v,fp,h1,?_,h3.1,fun a ha=>⟨(h3.2 a ha).1,fun z=>(h3.2 a ha).2 (NP a z)⟩⟩
 ·rcases at2 i _ h with⟨d1,d0,k0,_⟩ | ⟨_,k1⟩
  ·cases k0
  ·rcases aD k1 with⟨_,z⟩ | ⟨_,k1⟩
   ·cases z
   ·exact n.st.sh i d k1
 ·rcases at2 i _ h with⟨d1,d0,k0,k1,k2,k3⟩ | ⟨k1,_⟩
  ·cases k0;rcases aD k1 with⟨_,z⟩ | ⟨_,k1⟩
   ·cases z
   obtain⟨a,w1,_,w3⟩:=t.st.ow i d k2;obtain⟨a',y1,y2,_⟩:=n.st.ow i d0 k1;rw[w1]at y1;cases y1;exact⟨a,w1,y2,w3.flat k3⟩
  ·exact(k1 d rfl).elim
 ·have lift:∀(i:Nat) d,ρ2[i]?=some (Dm.Cell.ow d)->∃d0,ρ[i]?=some (Dm.Cell.ow d0):=fun i d h=>by
   rcases at2 i _ h with⟨d1,d0,_,k1,_⟩ | ⟨k1,_⟩
   ·rcases aD k1 with⟨_,z⟩ | ⟨_,k1⟩
    ·cases z
    ·exact⟨d0,k1⟩
   ·exact(k1 d rfl).elim
  obtain⟨y1,g1⟩:=lift i d z1;obtain⟨y2,g2⟩:=lift i' d' z2;exact n.st.dis i i' y1 y2 a g1 g2 z3 z4
 ·refine n.stp.trans (O2:=aj σ ρ) ⟨ak.refl _,keep,fun a o h=>.inr (.inl h),t.stp.s3⟩ n.own
 ·refine h2.mono (ak.refl _) (fun _ z=>z) (fun a vs _ h=>keep a _ h (n.st.iy h)) fun a ha=>?_;obtain⟨_,xs,h⟩:=h2.fpN a ha;rw[keep a _ h (h3.2 a ha).2,h]
end
section
variable{D:Ends}{σ:L2.St}{H:Hp}{j:Nat}
theorem NQ{i:Nat}{f:Dm.FE}(h:tDC j (Dm.cLk j i f) D σ H):l_ (tD f) (fS i) D σ H:=by
 obtain⟨σs,ρs,H0s,Hs,H0,ρ,p,o,n,e,k⟩:=h;unfold Dm.cLk at e;split at e
 ·cases e
 rename_i hij;split at e
 case h_2=>cases e
 rename_i d ρ1 e1;split at e
 ·cases e
 rename_i nb;split at e
 case h_2=>cases e
 rename_i ρ2 e2;cases e;refine⟨_,_,_,ρ1,n.lk,e1,fun v H1 Hb t1 r1=>?_⟩;exact k _ H0 Hb ((n.lkd t1 e2).set (fun z=>hij (.inl z)) (fun z=>hij (.inr z)) (Rep.plain r1 (by simpa using nb))) (ak.refl _)
end
section
variable{X:Cx}{e:Expr}{f:Dm.FE}{pos:Pos}{j:Nat}
theorem KW(i:Nat){x:Str}{pos':Pos}(hN:X.N.Nodup)(he:DE X e f)(hi:X.N[i]?=some x:=by rfl)(hx:Loc X.env.scope x:=by trivial)(hs:swapsWith e (some (.Name x pos')) pos.line X.env=pure false:=by rfl)
  (hf:X.fn x=true\/X.env.scope.names.lookup x=some .local:=by trivial):DC X j (.Assign [.Name x pos'] e pos) (Dm.cLk j i f):=PS.weak (vQ hN hi hx he hs hf) fun _ _ _=>NQ
end
theorem rS:∀{ρ ρ1:Dm.Env},Dm.owS ρ ρ1=true->ρ.length=ρ1.length->∀(i:Nat) (d:Dm.Dat),ρ[i]?=some (Dm.Cell.ow d)->∃d',ρ1[i]?=some (Dm.Cell.ow d')
 |[],_,_,_,i,d,h=>by simp at h
 |.ow d0::r,.ow d1::r1,e,l,i,d,h=>by
  cases i with
  |zero=>exact⟨d1,rfl⟩
  |succ i=>simpa using rS (ρ:=r) (ρ1:=r1) (by simpa [Dm.owS] using e) (by simpa using l) i d (by simpa using h)
 |.ow _::r,.un::r1,e,l,i,d,h=>by simp[Dm.owS]at e
 |.ow _::r,.sh _::r1,e,l,i,d,h=>by simp[Dm.owS]at e
 |.un::r,c::r1,e,l,i,d,h=>by
  cases i with
  |zero=>simp at h
  |succ i=>simpa using rS (ρ:=r) (ρ1:=r1) (by simpa [Dm.owS] using e) (by simpa using l) i d (by simpa using h)
 |.sh _::r,c::r1,e,l,i,d,h=>by
  cases i with
  |zero=>simp at h
  |succ i=>simpa using rS (ρ:=r) (ρ1:=r1) (by simpa [Dm.owS] using e) (by simpa using l) i d (by simpa using h)
 |_::_,[],e,l,i,d,h=>by simp at l
section
variable{N:Addr->Prop}{H0 H:Hp}
theorem aH.NR:∀{vs:List V} {ps:List Dm.Dp} {fp:List Addr} {k:Nat} {d0 d:Dm.Dat} {w:V},aH N H0 H vs ps fp->ps[k]?=some (.s d0)->Rep H0 w d->aH N H0 H (vs.set k w) (ps.set k (.s d)) fp
 |_,_,_,_,_,_,_,.nil,e,_=>by simp at e
 |_,_,_,0,_,_,_,.cons h r,e,rw=>by simp at e;subst e;cases h;exact .cons (.s rw) r
 |_,_,_,k+1,_,_,_,.cons h r,e,rw=>.cons h (aH.NR (k:=k) r (by simpa using e) rw)
theorem aH.KY{items:List Dm.Dp}{kk:Nat}{d0:Dm.Dat}(hk:items[kk]?=some (.s d0)):∀{vs:List V} {ps:List Dm.Dp} {fp:List Addr} {m:Nat},aH N H0 H vs ps fp->fp.Nodup->ps[m]?=some (.l items) ->
  ∃q xs,vs[m]?=some (.ref q)/\q∈fp/\H q=some (.lst xs)/\xs.length=items.length/\∀w d,Rep H0 w d->aH N H0 (upd H q (.lst (xs.set kk w))) vs (ps.set m (.l (items.set kk (.s d)))) fp
 |_,_,_,_,.nil,_,e=>by simp at e
 |_,_,_,0,.cons h r,nd,e=>by
  simp at e;subst e;cases h with
  |l n hq rs=>
   rename_i q xs f;obtain⟨nd1,nd2,nd3⟩:=Rj.mp nd;refine⟨q,xs,rfl,Q2 _ gV,hq,rs.length,fun w d rw=>?_⟩;have ne:∀(a:Addr),a≠q->upd H q (.lst (xs.set kk w)) a=H a:=fun a z=>aA z;refine .cons (.l n au ?_) (r.mono (ak.refl _) (fun _ z=>z) (fun a us _ z=>?_) fun a ha=>ne a fun z=>nd3 q gV a ha z.symm)
   ·refine(rs.NR hk rw).mono (ak.refl _) (fun _ z=>z) (fun a us _ z=>?_) fun a ha=>ne a fun z=>(QB.mp nd1).1 (z▸ha);rw[ne a fun y=>by rw[y,hq]at z;cases z];exact z
   ·rw[ne a fun y=>by rw[y,hq]at z;cases z];exact z
 |_,_,_,m+1,.cons h r,nd,e=>by obtain⟨nd1,nd2,nd3⟩:=Rj.mp nd;obtain⟨q,xs,h1,h2,h3,h4,h5⟩:=aH.KY hk (m:=m) r nd2 (by simpa using e);refine⟨q,xs,by simpa using h1,QV _ h2,h3,h4,fun w d rw=>?_⟩;refine .cons (h.mono (ak.refl _) (fun _ z=>z) (fun a us _ z=>?_) fun a ha=>aA fun z=>nd3 a ha q h2 z) (h5 w d rw);rw[aA fun y=>by rw[y,h3]at z;cases z];exact z
end
section
variable{D:Ends}{σ:L2.St}{H:Hp}{j:Nat}
theorem KZ{f:Dm.FP}{g:Dm.FM}(hj:j<σ.length)(h:tDS (Dm.ql j f g) D σ H):o9 (l_ (tDp f) (fS j)) (tDM j g) D σ H:=by
 obtain⟨H0,ρ,o,st,e,k⟩:=h;unfold Dm.ql at e;split at e
 ·cases e
 rename_i hj0;split at e
 ·cases e
 rename_i p ρ1 e1;split at e
 case isFalse=>cases e
 rename_i hw;refine⟨H0,ρ,p,ρ1,st,e1,fun v H1 Hb fp t1 r1 g1=>?_⟩;have up:∀a,aj σ ρ a->aj σ ρ1 a:=fun a ⟨i,d,q1,q2⟩=>by obtain⟨d',q⟩:=rS hw (st.len.symm.trans t1.st.len) i d q1;exact⟨i,d',q,q2⟩
 have r2:=r1.uh (P:=fun a=>¬aj σ ρ1 a) (fun a vs h=>t1.st.iy h) fun a ha=>(g1.2 a ha).2;obtain⟨s1,s2⟩:=t1.st.KA j (some v);exact⟨σ,ρ,H0,H,H1,_,p,o,⟨s1,t1.stp,fun a z=>.inl (t1.own a (s2 a z)),eg hj0,v,fp,QZ hj,r2.mono (ak.refl _) (fun a n=>n.1.elim id fun z=>(n.2 (up a z)).elim) (fun _ _ _ h=>h) fun _ _=>rfl,g1.1,fun a ha=>⟨(g1.2 a ha).1,fun z=>(g1.2 a ha).2 (s2 a z)⟩⟩,e,k⟩
theorem K5{gs:Dm.FS}(h:tDM j (Dm.pH j gs) D σ H):tDS gs D σ H:=by
 obtain⟨σs,ρs,H0s,Hs,H0,ρ,p,o,n,e,k⟩:=h;unfold Dm.pH at e;split at e
 case h_2=>cases e
 rename_i ps;obtain⟨v,fp,h1,h2,h3⟩:=n.ex;cases h2 with
 |l nL hL rs=>
  rename_i L vs fq;obtain⟨nd1,nd2⟩:=QB.mp h3.1;obtain⟨z1,z2⟩:=h3.2 L gV
  let NN:Addr->Prop:=fun a=>Hs a=none/\¬aj σ ρ a/\a≠L
  have r2:=rs.uh (P:=fun a=>¬aj σ ρ a/\a≠L) (fun a us h=>⟨n.st.iy h,fun z=>by rw[z,hL]at h;cases h⟩) fun a ha=>⟨(h3.2 a (Pa _ ha)).2,fun z=>nd1 (z▸ha)⟩;have off:∀a,H0 a=none->¬NN a->bor H0 H NN a=none:=fun a q w=>by unfold bor;rw[q];dsimp only;rw[if_neg w]
  have ow:∀i d,(ρ.set j (.ow (.lst (Dm.Dp.iw ps))))[i]?=some (Dm.Cell.ow d)->(i=j/\d=.lst (Dm.Dp.iw ps))\/(i≠j/\ρ[i]?=some (Dm.Cell.ow d)):=fun i d h=>by
   rcases aD h with⟨q,z⟩ | ⟨q,z⟩
   ·cases z;exact .inl ⟨q,rfl⟩
   ·exact .inr ⟨q,z⟩
  have t:SSt σs ρs H0s Hs σ (ρ.set j (.ow (.lst (Dm.Dp.iw ps)))) (bor H0 H NN) H:=by
   refine⟨⟨lX n.st.same,by rw[QU];exact n.st.len,fun i d h=>?_,fun i d h=>?_,fun i i' d d' a w1 w2 w3 w4=>?_⟩,⟨n.stp.s0.trans cI,n.stp.s1,fun a u q=>?_,n.stp.s3⟩,fun a ⟨i,d,w1,w2⟩=>?_,n.fx⟩
   ·rcases aD h with⟨_,z⟩ | ⟨_,h⟩
    ·cases z
    obtain⟨u,w1,w2⟩:=n.st.sh i d h;exact⟨u,w1,w2.mono cI⟩
   ·rcases ow i d h with⟨rfl,rfl⟩ | ⟨_,h⟩
    ·exact⟨L,h1,off L z1 fun z=>z.2.2 rfl,vs,hL,r2.rep cI fun a u z w=>ki n.st.same (N:=NN) z w⟩
    ·obtain⟨a,w1,w2,w3⟩:=n.st.ow i d h;exact⟨a,w1,off a w2 fun z=>z.2.1 ⟨i,d,h,w1⟩,w3.mono cI rfl⟩
   ·rcases ow i d w1 with⟨rfl,_⟩ | ⟨q,w1'⟩
    ·rcases ow i' d' w2 with⟨rfl,_⟩ | ⟨q',w2⟩
     ·rfl
     ·rw[h1]at w3;cases w3;exact(z2 ⟨i',d',w2,w4⟩).elim
    ·rcases ow i' d' w2 with⟨rfl,_⟩ | ⟨q',w2⟩
     ·rw[h1]at w4;cases w4;exact(z2 ⟨i,d,w1',w3⟩).elim
     ·exact n.st.dis i i' d d' a w1' w2 w3 w4
   ·unfold bor at q;split at q
    ·rename_i y;cases q;exact n.stp.s2 a u y
    ·split at q
     ·rename_i y;exact .inl y.1
     ·cases q
   ·rcases ow i d w1 with⟨rfl,_⟩ | ⟨_,w1⟩
    ·rw[h1]at w2;cases w2;exact .inr nL
    ·exact n.own a ⟨i,d,w1,w2⟩
  exact⟨_,_,o,t.st,e,k.pre t⟩
theorem K6{t:Dm.FT}{ga gb:Dm.FM}{gs:Dm.FS}(h:tDM j (Dm.rP j t ga gb gs) D σ H):o9 (AO (tDT t) (tDM j ga) (tDM j gb)) (tDS gs) D σ H:=by
 obtain⟨σs,ρs,H0s,Hs,H0,ρ,p,o,n,e,k⟩:=h;have go:∀{g:Dm.FM} {H:Hp},MS j σs ρs H0s Hs σ ρ H0 H p->(match g ρ p with | some (.nx ρ1)=>gs ρ1 | o=>o)=some o->tDM j g { D with nx:=tDS gs D } σ H:=fun {g H} n e=>by
  split at e
  ·rename_i ρ1 e1;exact⟨σs,ρs,H0s,Hs,H0,ρ,p,_,n,e1,fun σ' H0' H' t=>⟨H0',ρ1,o,t.st,e,k.pre t⟩⟩
  ·rename_i hn;refine⟨σs,ρs,H0s,Hs,H0,ρ,p,o,n,e,?_⟩;cases o with
   |nx ρ'=>exact(hn ρ' e).elim
   |bk ρ'=>exact k
   |ct ρ'=>exact k
   |ret z ρ'=>exact k
 unfold Dm.rP at e;split at e
 ·cases e
 ·rename_i ρ1 e1;refine⟨_,_,true,ρ1,n.see,e1,fun H1 Hb t1=>?_⟩;dsimp only;rw[if_pos rfl];exact go (n.grow (n.seen t1)) e
 ·rename_i ρ1 e1;refine⟨_,_,false,ρ1,n.see,e1,fun H1 Hb t1=>?_⟩;dsimp only;rw[if_neg Q0];exact go (n.grow (n.seen t1)) e
theorem Gx{K:Dk}{fi fk f:Dm.FE}(h:tDC j (Dm.qo j fi fk f) D σ H):l_ (tD f) (f7 (tOp (A9 K) (l8 j) (tD fi)) (tD fk) L2.pW) D σ H:=by
 obtain⟨σs,ρs,H0s,Hs,H0,ρ,p,o,n,e,k⟩:=h;unfold Dm.qo at e;split at e
 case h_2=>cases e
 rename_i rows;split at e
 case h_2=>cases e
 rename_i d ρa ea;split at e
 ·cases e
 rename_i nb;split at e
 case h_2=>cases e
 rename_i z ρb eb;split at e
 case h_2=>cases e
 rename_i y ρ1 ek;split at e
 case h_2=>cases e
 rename_i ρ2 e2;split at e
 case h_2=>cases e
 rename_i rows' er;cases e;unfold Dm.rQ at er;split at er
 ·cases er
 rename_i m em;split at er
 case h_2=>cases er
 rename_i items hi;split at er
 ·cases er
 rename_i kk ekk;split at er
 case h_2=>cases er
 rename_i d0 hd0;cases er;refine⟨_,_,_,ρa,n.see,ea,fun wv H1 Hb t1 r1=>?_⟩;have n1:=n.grow (n.seen t1);have rp:Rep H0 wv d:=Rep.plain r1 (by simpa using nb);obtain⟨v0,fp0,h1,_,_⟩:=n1.ex;refine⟨_,h1,_,_,_,ρb,n1.see,eb,fun yv H2 Hc t2 r2=>?_⟩;have n2:=n1.grow (n1.seen t2);obtain⟨v,fp,q1,q2,q3⟩:=n2.ex;rw[h1]at q1;cases q1;cases q2 with
 |l nL hL rs=>
  rename_i L vs _ fp';obtain⟨q,xs,w1,w2,w3,w4,w5⟩:=rs.KY hd0 (QB.mp q3.1).2 hi;refine⟨L,vs,z,.ref q,rfl,Rep.isInt r2,.inl (.inl hL),?_,_,_,_,ρ1,n2.lk,ek,fun kv H3 Hd t3 r3=>?_⟩
  ·show (L2.ixN vs.length z).bind (fun j=>vs[j]?)=_;rw[rs.length,<- v9,em];exact w1
  have n3:=n2.lkd t3 e2;have keep:∀a o,Hc a=some o->¬aj σ ρ a->Hd a=some o:=fun a o h no=>t3.stp.s1 a o h fun z=>no (um z);obtain⟨v',fp2,k1,k2,k3⟩:=n3.ex;rw[h1]at k1;cases k1;cases k2 with
  |l nL2 hL2 rs2=>
   rename_i vs2 KD;have ev:vs2=vs:=by have:=keep _ _ hL (q3.2 L gV).2;rw[hL2]at this;cases this;rfl
   subst ev;obtain⟨q',xs',u1,u2,u3,u4,u5⟩:=rs2.KY hd0 (QB.mp k3.1).2 hi;rw[w1]at u1;cases u1;refine⟨q,xs',y,kk,rfl,Rep.isInt r3,u3,by rw[u4];exact ekk,?_⟩;obtain⟨z1,z2⟩:=k3.2 q (Pa _ u2);have nq:=(rs2.fpN q u2).1;have t:=n3.wr nq z1 z2 (.lst (xs'.set kk wv));have neL:L≠q:=fun z=>(QB.mp k3.1).1 (z▸u2);exact k σ H0 _ ⟨t.st,t.stp,t.own,t.fx,_,L::KD,h1,.l nL2 (by rw[aA neL];exact hL2) (u5 _ d rp),k3⟩ (ak.refl _)
end
section
variable{X:Cx}{e c:Expr}{f:Dm.FE}{fp:Dm.FP}{g ga gb:Dm.FM}{gs:Dm.FS}{CJ:List Stmt}{pos:Pos}{j:Nat}
theorem qp(h:DSs X CJ gs):DMs X j CJ (Dm.pH j gs):=PSs.weak h fun _ _ _=>K5
theorem yP{t:Dm.FT}{x y:List Stmt}(ht:DT X c t)(ha:DMs X j x ga)(hb:DMs X j y gb)(hr:DSs X CJ gs):DMs X j (.If c x y pos::CJ) (Dm.rP j t ga gb gs):=PSs.weak (cO (xY ht ha hb) hr) fun _ _ _=>K6
theorem K7{x:Str}{i b:Expr}{fi fb:Dm.FE}{px sp sp2:Pos}(hi':DE X i fi)(hb:DE X b fb)(he:DE X e f)(hi:X.N[j]?=some x:=by rfl)(hv:Vis X.env.scope x:=by trivial)(hd:(x == ("__debug__" : Str))=false:=by decide)
  (Ij:(x == ("__classdict__" : Str))=false:=by decide) (CI:jt i:=by intro _ _;rfl) (ha:∀ v,assign (.Subscript (.Subscript (.Name x px) i sp2) b sp) X.env v=(do
   let ov <- holding [v] (eval (.Subscript (.Name x px) i sp2) X.env)
   let iv <- holding [v,ov] (eval b X.env)
   standAt sp
   holding [v,ov,iv] (setItem ov iv v)
   release [v,ov,iv] []):=by intro _;rfl)
  (hs:swapsWithSole [.Subscript (.Subscript (.Name x px) i sp2) b sp] e pos.line X.env=pure false:=by rfl) (hw:swappedStores [.Subscript (.Subscript (.Name x px) i sp2) b sp] e X.env=pure none:=by rfl) (h1:(assignEach [.Subscript (.Subscript (.Name x px) i sp2) b sp] X.env).map (·.2)=[assign (.Subscript (.Subscript (.Name x px) i sp2) b sp) X.env]:=by rfl) :
  DC X j (.Assign [.Subscript (.Subscript (.Name x px) i sp2) b sp] e pos) (Dm.qo j fi fb f):=PS.weak (vP he (AS (yd lQ (eK hi hv hd Ij) hi' CI) hb set_list ha) hs hw h1) fun _ _ _=>Gx
theorem Gy(j:Nat)(nm own:List Str){y:Str}{py GQ:Pos}{tg iter GC:Expr}{scope:Scope}{is:List Nat}{bd:Dm.FB}{fi:Dm.FI}(hN:X.N.Nodup)(hg:TGc X nm scope own tg is bd)(hi:DI X tg iter fi)(he:∀cl C s H fp',DP (aV X nm scope own cl C s H fp') GC fp)(hr:DMs X j CJ g)
  (hc:X.calm=true:=by rfl) (hk:scope.kind=.function:=by rfl) (hS:k8 X.env.scope X.N nm scope=true:=by rfl) (hl:(is.all fun i=>decide (X.N.length<=i))=true:=by rfl) (hj:X.N[j]?=some y:=by rfl) (hy:Loc X.env.scope y:=by trivial)
  (hsw:swapsWith (.ListComp GC [⟨tg,iter,[],0⟩] scope pos) (some (.Name y py)) GQ.line X.env=pure true:=by rfl) (hs:∀x,foldedSetIterable iter X.env x=pure x:=by intro _;rfl)
  (hf:X.fn y=true\/X.env.scope.names.lookup y=some .local:=by trivial):DSs X (.Assign [.Name y py] (.ListComp GC [⟨tg,iter,[],0⟩] scope pos) GQ::CJ) (Dm.ql j (Dm.qg fi own.length bd fp) g):=by
 obtain⟨g,h1,h2⟩:=hg.ex;have h:=cO (dZ hN hj hy hc (cF.of hS hk) hi h1 (fun cl C s H fp=>qZ) he hsw hs hf) hr;intro kC s σ H D I q;exact h kC s σ H D I (Gm h2 (fun i hi=>by rw[I.len];exact p9 hl i hi) (KZ (by rw[I.len];exact(Qx.mp hj).1) q))
end
end Br
namespace Dm
section
variable{K:RV->Prop}{Q:Val->Env->Prop}{o p:Option Dat}{ρ:Env}{R:RV->Env->Prop}{N:Env->Prop}{B C:Env->Prop}{d:Dat}{α:Type}{f:List Dat->Option (RV×Dat)}{i j:Int}{as:List FE}{ds:List Dat}{ks:List Int}{vs:List Dat}{xs:List Val}{a:FE}{X Y:Prop}{e:FE}{g:Dat->Option RV}{lo hi:Option FE}{c:Bool}{v:RV}{ds0:List Dat}{body:FS}{ρ2 ρ3:Env}{t:FT}{n m:Nat}{s u:FS}{k:Int}{bd:FB}{it:FI}
def We(e:FE)(ρ:Env)(Q:Val->Env->Prop):Prop:=∃v ρ',e ρ=some (v,ρ')/\Q v ρ'
def Wt(t:FT)(ρ:Env)(Q:Bool->Env->Prop):Prop:=∃v ρ',t ρ=some (v,ρ')/\Q v ρ'
def Was(as:List FE)(ρ:Env)(Q:List Val->Env->Prop):Prop:=∃v ρ',eAs as ρ=some (v,ρ')/\Q v ρ'
def Wi(it:FI)(ρ:Env)(Q:List Dat->Env->Prop):Prop:=∃v ρ',it ρ=some (v,ρ')/\Q v ρ'
def KO(N:Env->Prop)(R:RV->Env->Prop)(B C:Env->Prop):Out->Prop
 |.nx ρ=>N ρ
 |.ret r ρ=>R r ρ
 |.bk ρ=>B ρ
 |.ct ρ=>C ρ
def Ws(s:FS)(ρ:Env)(N:Env->Prop)(R:RV->Env->Prop)(B C:Env->Prop):Prop:=∃o,s ρ=some o/\KO N R B C o
def Wr(o:Option RV)(P:RV->Prop):Prop:=∃r,o=some r/\P r
def Wif(c:Bool)(X Y:Prop):Prop:=(c=true->X)/\(c=false->Y)
def Wg1(g:Dat->Option RV)(o:Option Dat)(K:RV->Prop):Prop:=∃d v,o=some d/\g d=some v/\K v
def Wg2(g:Dat->Dat->Option RV)(o p:Option Dat)(K:RV->Prop):Prop:=∃d e v,o=some d/\p=some e/\g d e=some v/\K v
def WB(g:List Dat->Option RV)(o:Option (List Dat))(K:RV->Prop):Prop:=∃ds v,o=some ds/\g ds=some v/\K v
def WT(o:Option (List Dat×Env))(K:List Dat->Env->Prop):Prop:=∃ds ρ,o=some (ds,ρ)/\ds.length<=SZ/\K ds ρ
def WF(f:List Dat->Option RV)(ρ:Env)(xs:List Val)(Q:Val->Env->Prop):Prop:=∃ds v,pks ρ xs=some ds/\f ds=some v/\(if cj v.dat then ∃ds' ρ2,tks ρ xs=some (ds',ρ2)/\Q v.a_ ρ2 else Q v.a_ ρ)
def Wk(ρ:Env)(x:Val)(K:Dat->Env->Prop):Prop:=∃d ρ',tk ρ x=some (d,ρ')/\K d ρ'
def Wp(o:Option FE)(ρ:Env)(K:Option Int->Env->Prop):Prop:=∃i ρ',part o ρ=some (i,ρ')/\K i ρ'
theorem UH(x:X):Wif true X Y:=⟨fun _=>x,fun h=>by cases h⟩
theorem UA(y:Y):Wif false X Y:=⟨fun h=>(by cases h),fun _=>y⟩
theorem Vp(h:c=true)(x:X):Wif c X Y:=⟨fun _=>x,fun h'=>by rw[h]at h';cases h'⟩
theorem Vl(h:c=false)(y:Y):Wif c X Y:=⟨fun h'=>(by rw[h]at h';cases h'),fun _=>y⟩
theorem UQ{p:Prop}[Decidable p](x:p->X)(y:¬p->Y):Wif (decide p) X Y:=⟨fun h=>x (of_decide_eq_true h),fun h=>y (of_decide_eq_false h)⟩
theorem Q_{i:Nat}(h:ρ[i]?=some (.sh d))(q:Q (.val d) ρ):We (eV i) ρ Q:=⟨_,_,by unfold eV;rw[h],q⟩
theorem UD{i:Nat}(h:ρ[i]?=some (.ow d))(q:Q (.slot i) ρ):We (eV i) ρ Q:=⟨_,_,by unfold eV;rw[h],q⟩
theorem T_(q:Q (.val d) ρ):We (eC d) ρ Q:=⟨_,_,rfl,q⟩
theorem U6(h:We a ρ fun x ρ1=>Wg1 g (pk ρ1 x) fun v=>Q v.a_ ρ1):We (e1 g a) ρ Q:=by obtain⟨x,ρ1,h1,d,v,h2,h3,q⟩:=h;exact⟨_,_,by unfold Dm.e1;rw[h1];dsimp only;rw[h2];dsimp only;rw[h3],q⟩
theorem S_{g:Dat->Dat->Option RV}{a b:FE}(h:We a ρ fun x ρ1=>We b ρ1 fun y ρ2=>Wg2 g (pk ρ2 x) (pk ρ2 y) fun v=>Q v.a_ ρ2):We (e2 g a b) ρ Q:=by obtain⟨x,ρ1,h1,y,ρ2,h2,d,e,v,h3,h4,h5,q⟩:=h;exact⟨_,_,by unfold Dm.e2;rw[h1];dsimp only;rw[h2];dsimp only;rw[h3];dsimp only;rw[h4];dsimp only;rw[h5],q⟩
theorem R_{Q:List Val->Env->Prop}(q:Q [] ρ):Was [] ρ Q:=⟨_,_,rfl,q⟩
theorem m_{r:List FE}{Q:List Val->Env->Prop}(h:We a ρ fun x ρ1=>Was r ρ1 fun xs ρ2=>Q (x::xs) ρ2):Was (a::r) ρ Q:=by obtain⟨x,ρ1,h1,xs,ρ2,h2,q⟩:=h;exact⟨_,_,by unfold eAs;rw[h1];dsimp only;rw[h2],q⟩
theorem UC{g:List Dat->Option RV}(h:Was as ρ fun xs ρ1=>WB g (pks ρ1 xs) fun v=>Q v.a_ ρ1):We (eB g as) ρ Q:=by obtain⟨x,ρ1,h1,d,v,h2,h3,q⟩:=h;exact⟨_,_,by unfold eB;rw[h1];dsimp only;rw[h2];dsimp only;rw[h3],q⟩
theorem Va(h:Was as ρ fun xs ρ1=>WT (tks ρ1 xs) fun ds ρ2=>Q (.val (.tup ds)) ρ2):We (e_ as) ρ Q:=by obtain⟨x,ρ1,h1,ds,ρ2,h2,h3,q⟩:=h;exact⟨_,_,by unfold e_;rw[h1];dsimp only;rw[h2];dsimp only;rw[if_pos h3],q⟩
theorem U0(h:Was as ρ fun xs ρ1=>WT (tks ρ1 xs) fun ds ρ2=>Q (.new (.lst ds)) ρ2):We (cB as) ρ Q:=by obtain⟨x,ρ1,h1,ds,ρ2,h2,h3,q⟩:=h;exact⟨_,_,by unfold cB;rw[h1];dsimp only;rw[h2];dsimp only;rw[if_pos h3],q⟩
theorem UI{K:List Dat->Env->Prop}(k:K ds ρ3)(h:tks ρ xs=some (ds,ρ2))(hn:ρ2=ρ3)(hl:ds.length<=SZ):WT (tks ρ xs) K:=⟨_,_,hn▸h,hl,k⟩
theorem UK{f:List Dat->Option RV}(h:Was as ρ fun xs ρ1=>WF f ρ1 xs Q):We (eF f as) ρ Q:=by
 obtain⟨x,ρ1,h1,ds,v,h2,h3,h4⟩:=h;by_cases hb:cj v.dat=true
 ·rw[if_pos hb]at h4;obtain⟨ds',ρ2,h5,q⟩:=h4;exact⟨_,_,by unfold eF;rw[h1];dsimp only;rw[h2];dsimp only;rw[h3];dsimp only;rw[if_pos hb,h5],q⟩
 ·rw[if_neg hb]at h4;exact⟨_,_,by unfold eF;rw[h1];dsimp only;rw[h2];dsimp only;rw[h3];dsimp only;rw[if_neg hb],h4⟩
theorem US{f:List Dat->Option RV}{ρ ρ2 ρ3:Env}{ds ds':List Dat}(h2:f ds=some v)(q:Q v.a_ ρ3)(h1:pks ρ xs=some ds)(h3:cj v.dat=true)(h4:tks ρ xs=some (ds',ρ2))(hn:ρ2=ρ3):WF f ρ xs Q:=
 ⟨_,_,h1,h2,by rw[if_pos h3];exact⟨_,_,h4,hn▸q⟩⟩
theorem UM{f:List Dat->Option RV}(h2:f ds=some v)(q:Q v.a_ ρ)(h1:pks ρ xs=some ds)(h3:cj v.dat=false):WF f ρ xs Q:=
 ⟨_,_,h1,h2,by rw[if_neg (by rw[h3];decide)];exact q⟩
def Wb(v:Val)(K:Bool->Prop):Prop:=∃c,v=.val (.bl c)/\K c
theorem Uu{K:Bool->Prop}(k:K c):Wb (.val (.bl c)) K:=⟨c,rfl,k⟩
theorem UW{a b:FE}(h:We a ρ fun v ρ1=>Wb v fun c=>Wif c (We b ρ1 Q) (Q (.val (.bl false)) ρ1)):We (dX a b) ρ Q:=by
 obtain⟨v,ρ1,h1,c,rfl,h2,h3⟩:=h;cases c with
 |true=>obtain⟨v,ρ2,h4,q⟩:=h2 rfl;exact⟨_,_,by unfold dX;rw[h1];exact h4,q⟩
 |false=>exact⟨_,_,by unfold dX;rw[h1],h3 rfl⟩
theorem Wh(h:We a ρ fun v ρ1=>Wb v fun c=>Q (.val (.bl (!c))) ρ1):We (vZ a) ρ Q:=by obtain⟨v,ρ1,h1,c,rfl,h2⟩:=h;exact⟨_,_,by unfold vZ;rw[h1],h2⟩
theorem Ux{Q:Bool->Env->Prop}(h:We a ρ fun v ρ1=>Wb v fun c=>Q c ρ1):Wt (tV a) ρ Q:=by obtain⟨v,ρ1,h1,c,rfl,h2⟩:=h;exact⟨_,_,by unfold tV;rw[h1],h2⟩
theorem U4{Q:Bool->Env->Prop}(h:Wt t ρ fun c ρ1=>Q (!c) ρ1):Wt (eZ t) ρ Q:=by obtain⟨v,ρ1,h1,h2⟩:=h;exact⟨_,_,by unfold eZ;rw[h1],h2⟩
theorem VW{t u:FT}{Q:Bool->Env->Prop}(h:Wt t ρ fun c ρ1=>Wif c (Wt u ρ1 Q) (Q false ρ1)):Wt (l9 t u) ρ Q:=by
 obtain⟨c,ρ1,h1,h2,h3⟩:=h;cases c with
 |true=>obtain⟨v,ρ2,h4,q⟩:=h2 rfl;exact⟨_,_,by unfold l9;rw[h1];exact h4,q⟩
 |false=>exact⟨_,_,by unfold l9;rw[h1],h3 rfl⟩
theorem UT{t u:FT}{Q:Bool->Env->Prop}(h:Wt t ρ fun c ρ1=>Wif c (Q true ρ1) (Wt u ρ1 Q)):Wt (tOr t u) ρ Q:=by
 obtain⟨c,ρ1,h1,h2,h3⟩:=h;cases c with
 |false=>obtain⟨v,ρ2,h4,q⟩:=h3 rfl;exact⟨_,_,by unfold tOr;rw[h1];exact h4,q⟩
 |true=>exact⟨_,_,by unfold tOr;rw[h1],h2 rfl⟩
theorem WJ{Q:Bool->Env->Prop}(h:We a ρ fun x ρ1=>∃d c,pk ρ1 x=some d/\truth d=some c/\Q c ρ1):Wt (tTr a) ρ Q:=by obtain⟨x,ρ1,h1,d,c,h2,h3,q⟩:=h;exact⟨_,_,by unfold tTr;rw[h1];dsimp only;rw[h2];dsimp only;rw[h3],q⟩
theorem V5{Q:Bool->Env->Prop}(q:Q true ρ):Wt dF ρ Q:=⟨_,_,rfl,q⟩
theorem UE{K:Dat->Env->Prop}(k:K d ρ):Wk ρ (.val d) K:=⟨_,_,rfl,k⟩
theorem Ve{K:Dat->Env->Prop}(k:K d ρ):Wk ρ (.new d) K:=⟨_,_,rfl,k⟩
theorem V0{ρ ρ':Env}{i:Nat}{K:Dat->Env->Prop}(k:K d ρ')(h:ρ[i]?=some (.ow d))(hs:ρ.set i (.sh d)=ρ'):Wk ρ (.slot i) K:=⟨_,_,by unfold tk;dsimp only;rw[h];dsimp only;rw[hs],k⟩
noncomputable def Aq:Dat->Option (List Dat)
 |.lst ds=>some ds
 |.tup ds=>some ds
 |_=>none
theorem Vr{Q:List Dat->Env->Prop}(h:We a ρ fun x ρ1=>Wk ρ1 x fun d ρ2=>∃ds,Aq d=some ds/\Q ds ρ2):Wi (iS a) ρ Q:=by
 obtain⟨x,ρ1,h1,d,ρ2,h2,ds,hd,q⟩:=h;cases d with
 |lst xs=>cases hd;exact⟨_,_,by unfold iS;rw[h1];dsimp only;rw[h2],q⟩
 |tup xs=>cases hd;exact⟨_,_,by unfold iS;rw[h1];dsimp only;rw[h2],q⟩
 |_=>cases hd
def cC(v:Val)(K:Int->Prop):Prop:=∃i,v=.val (.int i)/\K i
theorem cC.mk{i:Int}{K:Int->Prop}(k:K i):cC (.val (.int i)) K:=⟨i,rfl,k⟩
theorem Vw{Q:List Dat->Env->Prop}(h:We a ρ fun v ρ1=>cC v fun j=>Q (ups 0 j.toNat) ρ1/\j<=BIG/\-BIG<=j):Wi (iR1 a) ρ Q:=by obtain⟨v,ρ1,h1,j,rfl,q,h2⟩:=h;exact⟨_,_,by unfold iR1;rw[h1];dsimp only;rw[if_pos h2],q⟩
theorem Wu{a b:FE}{Q:List Dat->Env->Prop}(h:We a ρ fun v ρ1=>cC v fun i=>We b ρ1 fun w ρ2=>cC w fun j=>Q (ups i (j-i).toNat) ρ2/\j<=BIG/\-BIG<=j/\i<=BIG/\-BIG<=i):Wi (iR2 a b) ρ Q:=by obtain⟨v,ρ1,h1,i,rfl,w,ρ2,h2,j,rfl,q,h3⟩:=h;exact⟨_,_,by unfold iR2;rw[h1];dsimp only;rw[h2];dsimp only;rw[if_pos h3],q⟩
theorem Wp.none{K:Option Int->Env->Prop}(k:K none ρ):Wp none ρ K:=⟨_,_,rfl,k⟩
theorem Wp.some{f:FE}{K:Option Int->Env->Prop}(h:We f ρ fun v ρ1=>cC v fun i=>K (some i) ρ1):Wp (some f) ρ K:=by obtain⟨v,ρ1,h1,i,rfl,k⟩:=h;exact⟨_,_,by unfold part;dsimp only;rw[h1],k⟩
def Wsl(o:Option Dat)(l h:Option Int)(K:Dat->Prop):Prop:=∃xs,o=some (.lst xs)/\K (.lst (cut xs l h))
noncomputable def nC{α:Type}(xs:List α)(lo hi:Option Int):List α:=(xs.drop (sIx xs.length 0 lo)).take (sIx xs.length xs.length hi-sIx xs.length 0 lo)
theorem NT(kM:α->Dat)(xs:List α)(lo hi:Option Int):cut (xs.map kM) lo hi=(nC xs lo hi).map kM:=by unfold cut nC;rw[gc,<- List.map_drop,<- List.map_take]
theorem uo(xs:List α)(lo hi:Option Int):(nC xs lo hi).length<=xs.length:=by unfold nC;rw[Rl,Se];lia
theorem uq{xs:List α}{lo hi:Option Int}{x:α}(h:x∈nC xs lo hi):x∈xs:=Te (List.mem_of_mem_take h)
theorem Wsl.A{kM:α->Dat}{xs:List α}{o:Option Dat}{l h:Option Int}{K:Dat->Prop}(k:K (.lst ((nC xs l h).map kM)))(ho:o=some (.lst (xs.map kM))):Wsl o l h K:=⟨_,ho,by rw[NT];exact k⟩
theorem Ww(h:We a ρ fun x ρ1=>Wp lo ρ1 fun l ρ2=>Wp hi ρ2 fun h ρ3=>Wsl (pk ρ3 x) l h fun d=>Q (.new d) ρ3):We (eSl a lo hi) ρ Q:=by obtain⟨x,ρ1,h1,l,ρ2,h2,hh,ρ3,h3,xs,h4,q⟩:=h;exact⟨_,_,by unfold eSl;rw[h1];dsimp only;rw[h2];dsimp only;rw[h3];dsimp only;rw[h4],q⟩
theorem VF(h:We a ρ fun x ρ1=>Wp lo ρ1 fun l ρ2=>Wp hi ρ2 fun h ρ3=>∃xs,pk ρ3 x=some (.tup xs)/\¬(sIx xs.length 0 l=0/\sIx xs.length xs.length h=xs.length)/\Q (.val (.tup (cut xs l h))) ρ3):We (tO a lo hi) ρ Q:=by obtain⟨x,ρ1,h1,l,ρ2,h2,hh,ρ3,h3,xs,h4,h5,q⟩:=h;exact⟨_,_,by unfold tO;rw[h1];dsimp only;rw[h2];dsimp only;rw[h3];dsimp only;rw[h4];dsimp only;rw[if_neg h5],q⟩
theorem UB(n:N ρ):Ws sNx ρ N R B C:=⟨_,rfl,n⟩
theorem Ut(h:Ws s ρ (fun ρ1=>Ws u ρ1 N R B C) R B C):Ws (aq s u) ρ N R B C:=by
 obtain⟨o,h1,h2⟩:=h;cases o with
 |nx ρ1=>obtain⟨o,h3,h4⟩:=h2;exact⟨o,by unfold aq;rw[h1];exact h3,h4⟩
 |ret r ρ1=>exact⟨.ret r ρ1,by unfold aq;rw[h1],h2⟩
 |bk ρ1=>exact⟨.bk ρ1,by unfold aq;rw[h1],h2⟩
 |ct ρ1=>exact⟨.ct ρ1,by unfold aq;rw[h1],h2⟩
def WA(i:Nat)(v:Val)(ρ:Env)(N:Env->Prop):Prop:=match v with
 |.new d=>N (ρ.set i (.ow d))
 |x=>Wk ρ x fun d ρ2=>N (ρ2.set i (.sh d))
theorem Uy{i:Nat}(h:We e ρ fun v ρ1=>WA i v ρ1 N)(hi:i≠0):Ws (sA i e) ρ N R B C:=by
 obtain⟨v,ρ1,h1,h2⟩:=h;cases v with
 |new d=>exact⟨.nx _,by unfold sA;rw[if_neg hi,h1],h2⟩
 |val d=>obtain⟨d',ρ2,h3,h4⟩:=h2;exact⟨.nx _,by unfold sA;rw[if_neg hi,h1];dsimp only;rw[h3],h4⟩
 |slot j=>obtain⟨d',ρ2,h3,h4⟩:=h2;exact⟨.nx _,by unfold sA;rw[if_neg hi,h1];dsimp only;rw[h3],h4⟩
theorem UO{i:Nat}{ρ ρ2:Env}(n:N ρ2)(hs:ρ.set i (.ow d)=ρ2):WA i (.new d) ρ N:=by unfold WA;dsimp only;rw[hs];exact n
theorem Uw{i:Nat}{ρ ρ2:Env}(n:N ρ2)(hs:ρ.set i (.sh d)=ρ2):WA i (.val d) ρ N:=⟨_,_,rfl,by show N _;rw[hs];exact n⟩
theorem Wq{is:List Nat}(h:We e ρ fun x ρ1=>Wk ρ1 x fun d ρ2=>∃ds ρ3,d=.tup ds/\sets is ds ρ2=some ρ3/\N ρ3):Ws (sU is e) ρ N R B C:=by obtain⟨x,ρ1,h1,d,ρ2,h2,ds,ρ3,rfl,h3,n⟩:=h;exact⟨.nx _,by unfold sU;rw[h1];dsimp only;rw[h2];dsimp only;rw[h3],n⟩
theorem VL(h:We e ρ fun _ ρ1=>N ρ1):Ws (sE e) ρ N R B C:=by obtain⟨x,ρ1,h1,n⟩:=h;exact⟨.nx _,by unfold sE;rw[h1],n⟩
def WR(v:Val)(ρ:Env)(R:RV->Env->Prop):Prop:=match v with
 |.new d=>R (.new d) ρ
 |.val d=>R (.val d) ρ
 |.slot i=>(∃d,ρ[i]?=some (.ow d)/\R (.new d) (ρ.set i .un))
theorem Uz(h:We e ρ fun v ρ1=>WR v ρ1 R):Ws (sR e) ρ N R B C:=by
 obtain⟨v,ρ1,h1,h2⟩:=h;cases v with
 |new d=>exact⟨.ret _ _,by unfold sR;rw[h1],h2⟩
 |val d=>exact⟨.ret _ _,by unfold sR;rw[h1],h2⟩
 |slot i=>obtain⟨d,h3,h4⟩:=h2;exact⟨.ret _ _,by unfold sR;rw[h1];dsimp only;rw[h3],h4⟩
theorem Vs(r:R (.new d) ρ):WR (.new d) ρ R:=r
theorem UY(r:R (.val d) ρ):WR (.val d) ρ R:=r
theorem Vh{i:Nat}(r:R (.new d) (ρ.set i .un))(h:ρ[i]?=some (.ow d)):WR (.slot i) ρ R:=⟨d,h,r⟩
theorem UG{a b:FS}(h:Wt t ρ fun c ρ1=>Wif c (Ws a ρ1 N R B C) (Ws b ρ1 N R B C)):Ws (sIf t a b) ρ N R B C:=by
 obtain⟨c,ρ1,h1,h2,h3⟩:=h;cases c with
 |true=>obtain⟨o,h4,q⟩:=h2 rfl;exact⟨_,by unfold sIf;rw[h1];exact h4,q⟩
 |false=>obtain⟨o,h4,q⟩:=h3 rfl;exact⟨_,by unfold sIf;rw[h1];exact h4,q⟩
theorem Vt{i:Nat}(h:We e ρ fun x ρ1=>Wk ρ1 x fun d ρ2=>∃ds ρ3,ρ2[i]?=some (.ow (.lst ds))/\ρ2.set i (.ow (.lst (ds++[d])))=ρ3/\N ρ3/\ds.length<SZ)(h0:ρ[i]?=some (.ow (.lst ds0))):Ws (qR i e) ρ N R B C:=by obtain⟨x,ρ1,h1,d,ρ2,h2,ds,ρ3,h3,h5,n,h4⟩:=h;exact⟨.nx _,by unfold qR;rw[h0];dsimp only;rw[h1];dsimp only;rw[h2];dsimp only;rw[h3];dsimp only;rw[if_pos h4,h5],n⟩
theorem rT{i:Nat}(n:N ρ3)(h:ρ2[i]?=some (.ow (.lst ds)))(hs:ρ2.set i (.ow (.lst (ds++[d])))=ρ3)(hl:ds.length<SZ):∃ds ρ3,ρ2[i]?=some (.ow (.lst ds))/\ρ2.set i (.ow (.lst (ds++[d])))=ρ3/\N ρ3/\ds.length<SZ:=⟨_,_,h,hs,n,hl⟩
theorem Wf{i:Nat}{j e:FE}(h:We e ρ fun x ρ1=>Wk ρ1 x fun d ρ2=>(∃d0,ρ2[i]?=some (.ow d0))/\We j ρ2 fun y ρ3=>cC y fun k=>∃ds m ρ4,ρ3[i]?=some (.ow (.lst ds))/\ixN ds.length k=some m/\ρ3.set i (.ow (.lst (ds.set m d)))=ρ4/\N ρ4):Ws (v5 i j e) ρ N R B C:=by obtain⟨x,ρ1,h1,d,ρ2,h2,⟨d0,h0⟩,y,ρ3,h3,k,rfl,ds,m,ρ4,h4,h5,h6,n⟩:=h;exact⟨.nx _,by unfold v5;rw[h1];dsimp only;rw[h2];dsimp only;rw[h0];dsimp only;rw[h3];dsimp only;rw[h4];dsimp only;rw[h5];dsimp only;rw[h6],n⟩
theorem VN{i:Nat}{j e:FE}(h:We e ρ fun x ρ1=>Wk ρ1 x fun d ρ2=>(∃d0,ρ2[i]?=some (.ow d0))/\We j ρ2 fun y ρ3=>cC y fun k=>∃ks vs ρ4,ρ3[i]?=some (.ow (.dct ks vs))/\ρ3.set i (.ow (.dct (jI ks k) (jJ ks vs k d)))=ρ4/\N ρ4/\ks.length<SZ):Ws (gZ i j e) ρ N R B C:=by obtain⟨x,ρ1,h1,d,ρ2,h2,⟨d0,h0⟩,y,ρ3,h3,k,rfl,ks,vs,ρ4,h4,h5,n,h6⟩:=h;exact⟨.nx _,by unfold gZ;rw[h1];dsimp only;rw[h2];dsimp only;rw[h0];dsimp only;rw[h3];dsimp only;rw[h4];dsimp only;rw[if_pos h6,h5],n⟩
theorem lY{i:Nat}{ρ3 ρ4:Env}(n:N ρ4)(h:ρ3[i]?=some (.ow (.dct ks vs)))(hs:ρ3.set i (.ow (.dct (jI ks k) (jJ ks vs k d)))=ρ4)(hl:ks.length<SZ):∃ks vs ρ4,ρ3[i]?=some (.ow (.dct ks vs))/\ρ3.set i (.ow (.dct (jI ks k) (jJ ks vs k d)))=ρ4/\N ρ4/\ks.length<SZ:=⟨_,_,_,h,hs,n,hl⟩
theorem U3(h:Wi it ρ fun ds ρ1=>Ws (j4 bd body ds) ρ1 N R B C):Ws (ff it bd body) ρ N R B C:=by obtain⟨ds,ρ1,h1,o,h2,h3⟩:=h;exact⟨o,by unfold ff;rw[h1];exact h2,h3⟩
theorem UU(kM:α->Dat)(bd:FB)(body:FS)(xs:List α)(ρ:Env)(N:Env->Prop)(R:RV->Env->Prop)(B C:Env->Prop)(I:List α->List α->Env->Prop)
  (h0:I [] xs ρ) (hs:∀p x q ρ,xs=p++x::q->I p (x::q) ρ->∃ρ1,bd (kM x) ρ=some ρ1/\Ws body ρ1 (fun ρ2=>I (p++[x]) q ρ2) R N (fun ρ2=>I (p++[x]) q ρ2)) (he:∀ρ,I xs [] ρ->N ρ):Ws (j4 bd body (xs.map kM)) ρ N R B C:=by
 have go:∀(q p:List α) (ρ:Env),xs=p++q->I p q ρ->Ws (j4 bd body (q.map kM)) ρ N R B C:=fun q=>by
  induction q with
  |nil=>intro p ρ e i;rw[Rr]at e;exact⟨.nx _,rfl,he ρ (e▸i)⟩
  |cons x q ih=>
   intro p ρ e i;obtain⟨ρ1,h1,o,h2,h3⟩:=hs p x q ρ e i;have e':xs=(p++[x])++q:=by rw[Sv];exact e
   cases o with
   |nx ρ2=>obtain⟨o,h4,h5⟩:=ih _ _ e' h3;exact⟨o,by rw[gp,j4,h1];dsimp only;rw[h2];exact h4,h5⟩
   |ct ρ2=>obtain⟨o,h4,h5⟩:=ih _ _ e' h3;exact⟨o,by rw[gp,j4,h1];dsimp only;rw[h2];exact h4,h5⟩
   |bk ρ2=>exact⟨.nx _,by rw[gp,j4,h1];dsimp only;rw[h2],h3⟩
   |ret r ρ2=>exact⟨.ret _ _,by rw[gp,j4,h1];dsimp only;rw[h2],h3⟩
 exact go xs [] ρ rfl h0
theorem UN{P:RV->Prop}(b:Ws body ρ (fun _=>P (.val .non)) (fun r _=>P r) (fun _=>False) (fun _=>False))(hρ:ds.map Cell.sh++Ds m .un=ρ)(h:ds.length=n):Wr (fn n m body ds) P:=by
 obtain⟨o,h1,h2⟩:=b;cases o with
 |nx ρ1=>exact⟨_,by unfold Dm.fn;rw[if_pos h,hρ,h1],h2⟩
 |ret r ρ1=>exact⟨_,by unfold Dm.fn;rw[if_pos h,hρ,h1],h2⟩
 |bk ρ1=>exact h2.elim
 |ct ρ1=>exact h2.elim
theorem UP{o:Option RV}{r:RV}(h:Wr o fun x=>x=r):o=some r:=by obtain⟨x,h1,rfl⟩:=h;exact h1
theorem yQ(kM:α->Dat)(p:α->Bool)(v:α->Dat)(bd:FB)(t:FT)(el:FE)(mk:Cell->Env)(hb:∀d c,bd d (mk c)=some (mk (.sh d))):∀(xs:List α) (c:Cell) (pI:List Dat),
  (∀x∈xs,t (mk (.sh (kM x)))=some (p x,mk (.sh (kM x))))->(∀x∈xs,p x=true->We el (mk (.sh (kM x))) fun w ρ'=>Wk ρ' w fun d ρ''=>d=v x/\ρ''=mk (.sh (kM x))) ->
  ∃c',dG bd t el (xs.map kM) (mk c) pI=some (pI++(xs.filter p).map v,mk c')
 |[],c,pI,_,_=>⟨c,by simp[dG]⟩
 |x::xs,c,pI,ht,he=>by
  rw[gp,dG,hb];dsimp only;rw[ht x gV];have ht':=fun y hy=>ht y (Pa _ hy);have he':=fun y hy=>he y (Pa _ hy);by_cases h:p x=true
  ·obtain⟨w,ρ',h1,d,ρ'',h2,rfl,rfl⟩:=he x gV h;rw[h];dsimp only;rw[h1];dsimp only;rw[h2];obtain⟨c',e⟩:=yQ kM p v bd t el mk hb xs (.sh (kM x)) (pI++[v x]) ht' he';exact⟨c',by dsimp only;rw[e,RH h];simp⟩
  ·rw[Bool.not_eq_true]at h;rw[h];obtain⟨c',e⟩:=yQ kM p v bd t el mk hb xs (.sh (kM x)) pI ht' he';exact⟨c',by dsimp only;rw[e,RG (by rw[h];decide)]⟩
theorem VP(h:Wt t ρ fun c' ρ'=>c'=c/\ρ'=ρ):t ρ=some (c,ρ):=by obtain⟨_,_,h1,rfl,rfl⟩:=h;exact h1
theorem VA(kM:α->Dat)(xs:List α)(p:α->Bool)(v:α->Dat){it:FI}{k:Nat}{t:FT}{el:FE}{ρ ρ1:Env}{Q:Val->Env->Prop}
  (q:Q (.new (.lst ((xs.filter p).map v))) ρ1) (K9:it ρ=some (xs.map kM,ρ1)) (hk:ρ1.length=k) (hk0:k≠0) (hl:xs.length<=SZ)
  (ht:∀x∈xs,Wt t (ρ1++[.sh (kM x)]) fun c ρ'=>c=p x/\ρ'=ρ1++[.sh (kM x)])
  (he:∀x∈xs,p x=true->We el (ρ1++[.sh (kM x)]) fun w ρ'=>Wk ρ' w fun d ρ''=>d=v x/\ρ''=ρ1++[.sh (kM x)]):We (dH it 1 (bN k) t el) ρ Q:=by
 have bd:∀(d:Dat) (c:Cell),bN k d (ρ1++[c])=some (ρ1++[.sh d]):=fun d c=>by unfold bN;rw[if_neg hk0,RN _ _ (by lia)];simp[hk]
 obtain⟨c',e⟩:=yQ kM p v (bN k) t el (fun c=>ρ1++[c]) bd xs .un [] (fun x hx=>VP (ht x hx)) he;refine⟨_,_,?_,q⟩;unfold dH;rw[K9];dsimp only;rw[if_pos (by rw[gc];exact hl)];show (match dG _ _ _ _ (ρ1++[.un]) [] with | none=>none | some (ys,ρ2)=>some (Val.new (.lst ys),ρ2.take ρ1.length))=_;rw[e];dsimp only;rw[Sq,Tn]
theorem V7(kM:α->Dat)(xs:List α)(p:α->Bool)(v:α->Dat){i:Nat}{k:Nat}{t:FT}{el:FE}{ρ:Env}{Q:Val->Env->Prop}{d:Dat}
  (q:Q (.new (.lst ((xs.filter p).map v))) ρ) (hi:ρ[i]?=some (.sh d)) (hd:Aq d=some (xs.map kM)) (hk:ρ.length=k) (hk0:k≠0) (hl:xs.length<=SZ)
  (ht:∀x∈xs,Wt t (ρ++[.sh (kM x)]) fun c ρ'=>c=p x/\ρ'=ρ++[.sh (kM x)])
  (he:∀x∈xs,p x=true->We el (ρ++[.sh (kM x)]) fun w ρ'=>Wk ρ' w fun d ρ''=>d=v x/\ρ''=ρ++[.sh (kM x)]):We (aM i 1 (bN k) t el) ρ Q:=by
 have K9:iS (eV i) ρ=some (xs.map kM,ρ):=by
  unfold iS eV;rw[hi];cases d with
  |lst ys=>cases hd;rfl
  |tup ys=>cases hd;rfl
  |_=>cases hd
 obtain⟨a,ρ',h1,h2⟩:=VA kM xs p v (Q:=Q) q K9 hk hk0 hl ht he;refine⟨a,ρ',?_,h2⟩;unfold aM;rw[hi];exact h1
theorem WS(kM:α->Dat)(xs:List α)(p:α->Bool)(v:α->Dat){i:Nat}{k:Nat}{t:FT}{el:FE}{ρ ρ1:Env}{Q:Val->Env->Prop}
  (q:Q (.new (.lst ((xs.filter p).map v))) ρ) (hi:ρ[i]?=some (.ow (.lst (xs.map kM)))) (h1:ρ.set i .un=ρ1) (hk:ρ.length=k) (hk0:k≠0) (hl:xs.length<=SZ)
  (ht:∀x∈xs,Wt t (ρ1++[.sh (kM x)]) fun c ρ'=>c=p x/\ρ'=ρ1++[.sh (kM x)])
  (he:∀x∈xs,p x=true->We el (ρ1++[.sh (kM x)]) fun w ρ'=>Wk ρ' w fun d ρ''=>d=v x/\ρ''=ρ1++[.sh (kM x)]):We (aM i 1 (bN k) t el) ρ Q:=by
 have ur:ρ1.length=ρ.length:=by rw[<- h1,QU]
 have hil:i<ρ.length:=(Qx.mp hi).1;have bd:∀(d:Dat) (c:Cell),bN k d (ρ1++[c])=some (ρ1++[.sh d]):=fun d c=>by unfold bN;rw[if_neg hk0,RN _ _ (by lia)];simp[hk,ur]
 obtain⟨c',e⟩:=yQ kM p v (bN k) t el (fun c=>ρ1++[c]) bd xs .un [] (fun x hx=>VP (ht x hx)) he;refine⟨_,_,?_,q⟩;unfold aM;rw[hi];dsimp only;rw[if_pos (by rw[gc];exact hl),h1];show (match dG _ _ _ _ (ρ1++[.un]) [] with | none=>none | some (ys,ρ2)=>some (Val.new (.lst ys),(ρ2.take ρ.length).set i (.ow (.lst (xs.map kM)))))=_;rw[e];dsimp only;rw[Sq,<- ur,Tn,<- h1,Uk]
 congr 2
 apply R8;intro j;by_cases h:i=j
 ·subst h;rw[QZ hil,hi]
 ·rw[eg h]
theorem WD{α β:Type}(kM:α->Dat)(xs:List α)(f:α->β)(dW:β->Dat){it:FI}{k:Nat}{el:FE}{ρ ρ1:Env}{Q:Val->Env->Prop}
  (q:Q (.new (.lst ((xs.map f).map dW))) ρ1) (K9:it ρ=some (xs.map kM,ρ1)) (hk:ρ1.length=k) (hk0:k≠0) (hl:xs.length<=SZ)
  (he:∀x∈xs,We el (ρ1++[.sh (kM x)]) fun w ρ'=>Wk ρ' w fun d ρ''=>d=dW (f x)/\ρ''=ρ1++[.sh (kM x)]):We (dH it 1 (bN k) dF el) ρ Q:=
 VA kM xs (fun _=>true) (fun x=>dW (f x)) (by rw[Th.mpr (fun _ _=>rfl)];rw[Rk]at q;exact q) K9 hk hk0 hl (fun _ _=>V5 ⟨rfl,rfl⟩) fun x hx _=>he x hx
theorem Vd{α β:Type}(kM:α->Dat)(xs:List α)(f:α->β)(dW:β->Dat){i:Nat}{k:Nat}{el:FE}{ρ:Env}{Q:Val->Env->Prop}{d:Dat}
  (q:Q (.new (.lst ((xs.map f).map dW))) ρ) (hi:ρ[i]?=some (.sh d)) (hd:Aq d=some (xs.map kM)) (hk:ρ.length=k) (hk0:k≠0) (hl:xs.length<=SZ)
  (he:∀x∈xs,We el (ρ++[.sh (kM x)]) fun w ρ'=>Wk ρ' w fun d ρ''=>d=dW (f x)/\ρ''=ρ++[.sh (kM x)]):We (aM i 1 (bN k) dF el) ρ Q:=
 V7 kM xs (fun _=>true) (fun x=>dW (f x)) (by rw[Th.mpr (fun _ _=>rfl)];rw[Rk]at q;exact q) hi hd hk hk0 hl (fun _ _=>V5 ⟨rfl,rfl⟩) fun x hx _=>he x hx
theorem VH{α β:Type}(kM:α->Dat)(xs:List α)(p:α->Bool)(f:α->β)(dW:β->Dat){i:Nat}{k:Nat}{t:FT}{el:FE}{ρ:Env}{Q:Val->Env->Prop}{d:Dat}
  (q:Q (.new (.lst (((xs.filter p).map f).map dW))) ρ) (hi:ρ[i]?=some (.sh d)) (hd:Aq d=some (xs.map kM)) (hk:ρ.length=k) (hk0:k≠0) (hl:xs.length<=SZ)
  (ht:∀x∈xs,Wt t (ρ++[.sh (kM x)]) fun c ρ'=>c=p x/\ρ'=ρ++[.sh (kM x)])
  (he:∀x∈xs,p x=true->We el (ρ++[.sh (kM x)]) fun w ρ'=>Wk ρ' w fun d ρ''=>d=dW (f x)/\ρ''=ρ++[.sh (kM x)]):We (aM i 1 (bN k) t el) ρ Q:=
 V7 kM xs p (fun x=>dW (f x)) (by rw[Rk]at q;exact q) hi hd hk hk0 hl ht he
theorem WV{α β:Type}(kM:α->Dat)(xs:List α)(p:α->Bool)(f:α->β)(dW:β->Dat){i:Nat}{k:Nat}{t:FT}{el:FE}{ρ ρ1:Env}{Q:Val->Env->Prop}
  (q:Q (.new (.lst (((xs.filter p).map f).map dW))) ρ) (hi:ρ[i]?=some (.ow (.lst (xs.map kM)))) (h1:ρ.set i .un=ρ1) (hk:ρ.length=k) (hk0:k≠0) (hl:xs.length<=SZ)
  (ht:∀x∈xs,Wt t (ρ1++[.sh (kM x)]) fun c ρ'=>c=p x/\ρ'=ρ1++[.sh (kM x)])
  (he:∀x∈xs,p x=true->We el (ρ1++[.sh (kM x)]) fun w ρ'=>Wk ρ' w fun d ρ''=>d=dW (f x)/\ρ''=ρ1++[.sh (kM x)]):We (aM i 1 (bN k) t el) ρ Q:=
 WS kM xs p (fun x=>dW (f x)) (by rw[Rk]at q;exact q) hi h1 hk hk0 hl ht he
theorem yR(i j:Int):gEq (.int i) (.int j)=vB (decide (i=j)):=by
 have:(i == j)=decide (i=j):=by by_cases h:i=j<;>simp[h]
 show vB (i == j)=_;rw[this]
theorem rV(i j:Int):gNe (.int i) (.int j)=vB (!decide (i=j)):=by
 have:(i == j)=decide (i=j):=by by_cases h:i=j<;>simp[h]
 show vB (!(i == j))=_;rw[this]
theorem UL(k:K (.val (.bl (decide (i=j)))))(ho:o=some (.int i))(hp:p=some (.int j)):Wg2 gEq o p K:=⟨_,_,_,ho,hp,yR i j,k⟩
theorem Vi(k:K (.val (.bl (!decide (i=j)))))(ho:o=some (.int i))(hp:p=some (.int j)):Wg2 gNe o p K:=⟨_,_,_,ho,hp,rV i j,k⟩
theorem Vq{i j:Bool}(k:K (.val (.bl (!(i == j)))))(ho:o=some (.bl i))(hp:p=some (.bl j)):Wg2 gNe o p K:=⟨_,_,_,ho,hp,rfl,k⟩
theorem V_{i j:Bool}(k:K (.val (.bl (i != j))))(ho:o=some (.bl i))(hp:p=some (.bl j)):Wg2 jy o p K:=⟨_,_,_,ho,hp,rfl,k⟩
theorem VI(k:K (.val (.bl (decide (i<j)))))(ho:o=some (.int i))(hp:p=some (.int j)):Wg2 gLt o p K:=⟨_,_,_,ho,hp,rfl,k⟩
theorem VT(k:K (.val (.bl (decide (j<i)))))(ho:o=some (.int i))(hp:p=some (.int j)):Wg2 gGt o p K:=⟨_,_,_,ho,hp,rfl,k⟩
theorem VX(k:K (.val (.bl (decide (j<=i)))))(ho:o=some (.int i))(hp:p=some (.int j)):Wg2 gGe o p K:=⟨_,_,_,ho,hp,rfl,k⟩
theorem UR(k:K (.val (.int (i+j))))(ho:o=some (.int i))(hp:p=some (.int j)):Wg2 bE o p K:=⟨_,_,_,ho,hp,rfl,k⟩
theorem VU{xs ys:List Dat}(k:K (.new (.lst (xs++ys))))(ho:o=some (.lst xs))(hp:p=some (.lst ys))(h:xs.length+ys.length<=SZ):Wg2 bE o p K:=⟨_,_,_,ho,hp,by unfold bE;dsimp only;rw[if_pos h],k⟩
theorem U5(k:K (.val (.int (i-j))))(ho:o=some (.int i))(hp:p=some (.int j)):Wg2 f7 o p K:=⟨_,_,_,ho,hp,rfl,k⟩
theorem Vy(k:K (.val (.int (i*j))))(ho:o=some (.int i))(hp:p=some (.int j))(h:(-B64<i/\i<B64)\/(-B64<j/\j<B64)):Wg2 ic o p K:=⟨_,_,_,ho,hp,by unfold ic;dsimp only;rw[if_pos h],k⟩
theorem VZ(k:K (.val (.int (i / j))))(ho:o=some (.int i))(hp:p=some (.int j))(h:0<j/\j<dI):Wg2 zU o p K:=⟨_,_,_,ho,hp,by unfold zU;dsimp only;rw[if_pos h],k⟩
theorem U8(k:K (.val (.int (i % j))))(ho:o=some (.int i))(hp:p=some (.int j))(h:0<j):Wg2 gT o p K:=⟨_,_,_,ho,hp,by unfold gT;dsimp only;rw[if_pos h],k⟩
theorem Vx{i j z:Int}(k:K (.val (.int z)))(ho:o=some (.int i))(hp:p=some (.int j))(h:0<=j/\j<=1000000/\i.natAbs<1000000)(hz:i ^ j.toNat=z):Wg2 jx o p K:=⟨_,_,_,ho,hp,by unfold jx;dsimp only;rw[if_pos h,hz],k⟩
theorem Uv{d e:Dat}{v:Dat}(k:K (.val v))(ho:o=some d)(hp:p=some e)(h:gIx d e=some (.val v)):Wg2 gIx o p K:=⟨_,_,_,ho,hp,h,k⟩
theorem gK(kM:α->Dat)(xs:List α)(i:Int)(h0:0<=i)(h1:i<xs.length):atI (xs.map kM) i=some (kM (xs[i.toNat]'(by omega))):=by unfold atI ixN;rw[gc,if_pos h0,if_pos h1];show (xs.map kM)[i.toNat]?=_;rw[QL,Qz (by lia)];rfl
theorem Vv{kM:α->Dat}{xs:List α}{i:Int}(h0:0<=i)(h1:i<xs.length)(k:K (.val (kM (xs[i.toNat]'(by omega)))))(ho:o=some (.lst (xs.map kM)))(hp:p=some (.int i)):Wg2 gIx o p K:=
 ⟨_,_,_,ho,hp,by unfold gIx;dsimp only;rw[gK kM xs i h0 h1];rfl,k⟩
theorem yS(i:Int)(xs:List Int):inD (.int i) (xs.map Dat.int)=decide (i∈xs):=by
 induction xs with
 |nil=>rfl
 |cons x xs ih=>
  have ih':(xs.map Dat.int).any (fun y=>eqD y (.int i))=decide (i∈xs):=ih;unfold inD;rw[gp,R6,ih'];show ((x == i)||_)=_;by_cases h:x=i
  ·simp[h]
  ·have h':¬i=x:=fun z=>h z.symm;simp[h,h']
theorem CL(xs:List Int):(xs.map Dat.int).all (okD 7)=true:=by rw[Ra];intro d hd;obtain⟨x,_,rfl⟩:=QF.mp hd;rfl
theorem Vb{i:Int}{xs:List Int}(k:K (.val (.bl (decide (i∈xs)))))(ho:o=some (.int i))(hp:p=some (.tup (xs.map Dat.int))):Wg2 gIn o p K:=
 ⟨_,_,_,ho,hp,by unfold gIn;dsimp only;rw[show okD 8 (.int i)=true from rfl,CL,yS];rfl,k⟩
theorem VG{i:Int}{xs:List Int}(k:K (.val (.bl (!decide (i∈xs)))))(ho:o=some (.int i))(hp:p=some (.tup (xs.map Dat.int))):Wg2 cW o p K:=
 ⟨_,_,_,ho,hp,by unfold cW;dsimp only;rw[show okD 8 (.int i)=true from rfl,CL,yS];rfl,k⟩
theorem VY{i a b:Int}(k:K (.val (.bl (decide (i=a\/i=b)))))(ho:o=some (.int i))(hp:p=some (.tup [.int a,.int b])):Wg2 gIn o p K:=
 Vb (xs:=[a,b]) (by have:(i∈[a,b])=(i=a\/i=b):=(by simp);simp only[this];exact k) ho hp
theorem Wa{i a b:Int}(k:K (.val (.bl (!decide (i=a\/i=b)))))(ho:o=some (.int i))(hp:p=some (.tup [.int a,.int b])):Wg2 cW o p K:=
 VG (xs:=[a,b]) (by have:(i∈[a,b])=(i=a\/i=b):=(by simp);simp only[this];exact k) ho hp
theorem VJ{i:Int}(k:K (.val (.bl (bh ks vs i).isSome)))(ho:o=some (.int i))(hp:p=some (.dct ks vs)):Wg2 wk o p K:=⟨_,_,_,ho,hp,rfl,k⟩
theorem VS{i:Int}(k:K (.val (.bl (!(bh ks vs i).isSome))))(ho:o=some (.int i))(hp:p=some (.dct ks vs)):Wg2 mP o p K:=⟨_,_,_,ho,hp,rfl,k⟩
theorem U9{i:Int}(h:bh ks vs i=some d)(k:K (.val d))(ho:o=some (.dct ks vs))(hp:p=some (.int i)):Wg2 gDx o p K:=⟨_,_,_,ho,hp,by unfold gDx;dsimp only;rw[h];rfl,k⟩
theorem Vz{o:Option (List Dat)}(k:K (.val (.int (if j<i then j else i))))(ho:o=some [.int i,.int j]):WB mE o K:=⟨_,_,ho,rfl,k⟩
theorem Vo{o:Option (List Dat)}(k:K (.val (.int (if j>i then j else i))))(ho:o=some [.int i,.int j]):WB k6 o K:=⟨_,_,ho,rfl,k⟩
theorem U1{xs:List Dat}{o:Option (List Dat)}(k:K (.new (.lst xs)))(ho:o=some [.lst xs]):WB c_ o K:=⟨_,_,ho,rfl,k⟩
theorem Wd{b:Bool}{o:Option (List Dat)}(k:K (.val (.int (b2i b))))(ho:o=some [.bl b]):WB Bp o K:=⟨_,_,ho,rfl,k⟩
theorem V2{a b:Int}{o:Option (List Dat)}(k:K (.val (.int (a+b))))(ho:o=some [.tup [.int a,.int b]])(h:-1000000<=a/\a<=1000000/\-1000000<=b/\b<=1000000):WB mR o K:=⟨_,_,ho,by unfold mR;dsimp only;rw[if_pos h],k⟩
theorem UX{o:Option Dat}(k:K v)(ho:o=some d)(h:g d=some v):Wg1 g o K:=⟨_,_,ho,h,k⟩
theorem d_{xs:List Dat}{Q:List Dat->Prop}(q:Q xs):∃ds,Aq (.lst xs)=some ds/\Q ds:=⟨_,rfl,q⟩
theorem ndT{p:Prop}[Decidable p](h:(!decide p)=true):¬p:=by intro z;rw[decide_eq_true z]at h;cases h
theorem ndF{p:Prop}[Decidable p](h:(!decide p)=false):p:=SO fun z=>by rw[decide_eq_false z]at h;cases h
theorem GB(xs:List Dat)(h:okD 8 (.lst xs)=true):gEq (.lst xs) (.lst [])=vB xs.isEmpty:=by unfold gEq;rw[h];cases xs<;>rfl
theorem CM(kM:α->Dat)(xs:List α)(h:∀x,okD 7 (kM x)=true):okD 8 (.lst (xs.map kM))=true:=by unfold okD;rw[Ra];intro d hd;obtain⟨x,_,rfl⟩:=QF.mp hd;exact h x
theorem Vu{xs:List Dat}(k:K (.val (.bl xs.isEmpty)))(ho:o=some (.lst xs))(hp:p=some (.lst []))(h:okD 8 (.lst xs)=true):Wg2 gEq o p K:=⟨_,_,_,ho,hp,GB xs h,k⟩
theorem VE{xs ys:List Int}(k:K (.new (.lst ((xs++ys).map Dat.int))))(ho:o=some (.lst (xs.map Dat.int)))(hp:p=some (.lst (ys.map Dat.int)))(h:xs.length+ys.length<=SZ):Wg2 bE o p K:=⟨_,_,_,ho,hp,by unfold bE;dsimp only;rw[gc,gc,if_pos h,QK],k⟩
theorem Wg{xs:List Int}{y:Int}(k:K (.new (.lst ((xs++[y]).map Dat.int))))(ho:o=some (.lst (xs.map Dat.int)))(hp:p=some (.lst [.int y]))(h:xs.length+1<=SZ):Wg2 bE o p K:=VE (ys:=[y]) k ho hp h
theorem U7{kM:α->Dat}{xs:List α}{o:Option (List Dat)}(k:K (.val (.int xs.length)))(ho:o=some [.lst (xs.map kM)]):WB cE o K:=⟨_,_,ho,by unfold cE;dsimp only;rw[gc],k⟩
theorem Wz{s:FS}{N N':Env->Prop}(h:Ws s ρ N' R B C)(k:∀ρ',N' ρ'->N ρ'):Ws s ρ N R B C:=by
 obtain⟨o,h1,h2⟩:=h;cases o with
 |nx ρ1=>exact⟨.nx ρ1,h1,k _ h2⟩
 |ret r ρ1=>exact⟨.ret r ρ1,h1,h2⟩
 |bk ρ1=>exact⟨.bk ρ1,h1,h2⟩
 |ct ρ1=>exact⟨.ct ρ1,h1,h2⟩
theorem wU{i:Nat}{W:Prop}(h:ρ[i]?=some (.ow d))(w:W):(∃d0,ρ[i]?=some (.ow d0))/\W:=⟨⟨d,h⟩,w⟩
theorem V9(q:Q (.new (.dct [] [])) ρ):We eDn ρ Q:=⟨_,_,rfl,q⟩
theorem WO{a b:FE}(h:We a ρ fun v ρ1=>cC v fun i=>We b ρ1 fun x ρ2=>Wk ρ2 x fun d ρ3=>Q (.new (.dct [i] [d])) ρ3):We (eD1 a b) ρ Q:=by obtain⟨v,ρ1,h1,i,rfl,x,ρ2,h2,d,ρ3,h3,q⟩:=h;exact⟨_,_,by unfold eD1;rw[h1];dsimp only;rw[h2];dsimp only;rw[h3],q⟩
theorem bG{ρ ρ1 ρ2:Env}{W:Env->Prop}(h:bd d ρ=some ρ1)(hn:ρ1=ρ2)(w:W ρ2):∃ρ1,bd d ρ=some ρ1/\W ρ1:=⟨ρ1,h,hn▸w⟩
theorem CN(kM:α->Dat)(p:α->Bool)(v:α->Dat)(bd:FB)(t:FT)(el:FE)(e0:Env)(env:α->Env)(h0:∀x,bd (kM x) e0=some (env x))(h1:∀x y,bd (kM x) (env y)=some (env x)):∀(xs:List α) (pI:List Dat) (e:Env),(e=e0\/∃y,e=env y) ->
  (∀x∈xs,t (env x)=some (p x,env x))->(∀x∈xs,p x=true->We el (env x) fun w ρ'=>Wk ρ' w fun d ρ''=>d=v x/\ρ''=env x) ->
  ∃e',(e'=e0\/∃y,e'=env y)/\dG bd t el (xs.map kM) e pI=some (pI++(xs.filter p).map v,e')
 |[],pI,e,he,_,_=>⟨e,he,by simp[dG]⟩
 |x::xs,pI,e,he,ht,hel=>by
  have hb:bd (kM x) e=some (env x):=by
   rcases he with rfl | ⟨y,rfl⟩
   ·exact h0 x
   ·exact h1 x y
  rw[gp,dG,hb];dsimp only;rw[ht x gV];have ht':=fun y hy=>ht y (Pa _ hy);have he':=fun y hy=>hel y (Pa _ hy);by_cases h:p x=true
  ·obtain⟨w,ρ',g1,d,ρ'',g2,rfl,rfl⟩:=hel x gV h;rw[h];dsimp only;rw[g1];dsimp only;rw[g2];obtain⟨e',q,z⟩:=CN kM p v bd t el e0 env h0 h1 xs (pI++[v x]) _ (.inr ⟨x,rfl⟩) ht' he';exact⟨e',q,by dsimp only;rw[z,RH h];simp⟩
  ·rw[Bool.not_eq_true]at h;rw[h];obtain⟨e',q,z⟩:=CN kM p v bd t el e0 env h0 h1 xs pI _ (.inr ⟨x,rfl⟩) ht' he';exact⟨e',q,by dsimp only;rw[z,RG (by rw[h];decide)]⟩
theorem WN{α β:Type}(kM:α->Dat)(xs:List α)(p:α->Bool)(f:α->β)(dW:β->Dat)(env:α->Env){it:FI}{own:Nat}{bd:FB}{t:FT}{el:FE}{ρ ρ1:Env}{Q:Val->Env->Prop}
  (q:Q (.new (.lst (((xs.filter p).map f).map dW))) ρ1) (K9:it ρ=some (xs.map kM,ρ1)) (h0:∀x,bd (kM x) (ρ1++Ds own .un)=some (env x)) (h1:∀x y,bd (kM x) (env y)=some (env x)) (h2:∀x,(env x).take ρ1.length=ρ1) (hl:xs.length<=SZ)
  (ht:∀x∈xs,Wt t (env x) fun c ρ'=>c=p x/\ρ'=env x)
  (he:∀x∈xs,p x=true->We el (env x) fun w ρ'=>Wk ρ' w fun d ρ''=>d=dW (f x)/\ρ''=env x):We (dH it own bd t el) ρ Q:=by
 obtain⟨e',q',e⟩:=CN kM p (fun x=>dW (f x)) bd t el _ env h0 h1 xs [] _ (.inl rfl) (fun x hx=>VP (ht x hx)) he;refine⟨_,_,?_,q⟩;unfold dH;rw[K9];dsimp only;rw[if_pos (by rw[gc];exact hl),e];dsimp only;rw[Sq,Rk];have:e'.take ρ1.length=ρ1:=by
  rcases q' with rfl | ⟨y,rfl⟩
  ·exact Tn
  ·exact h2 y
 rw[this];rfl
theorem WK{α β:Type}(kM:α->Dat)(xs:List α)(p:α->Bool)(f:α->β)(dW:β->Dat)(d1 d2 d3:α->Dat)(henc:∀x,kM x=.tup [d1 x,d2 x,d3 x]){i k:Nat}{t:FT}{el:FE}{ρ:Env}{Q:Val->Env->Prop}{d:Dat}
  (q:Q (.new (.lst (((xs.filter p).map f).map dW))) ρ) (hi:ρ[i]?=some (.sh d)) (hd:Aq d=some (xs.map kM)) (hk:ρ.length=k) (hk0:k≠0) (hl:xs.length<=SZ)
  (ht:∀x∈xs,Wt t (ρ++[.sh (d1 x),.sh (d2 x),.sh (d3 x)]) fun c ρ'=>c=p x/\ρ'=ρ++[.sh (d1 x),.sh (d2 x),.sh (d3 x)])
  (he:∀x∈xs,p x=true->We el (ρ++[.sh (d1 x),.sh (d2 x),.sh (d3 x)]) fun w ρ'=>Wk ρ' w fun d ρ''=>d=dW (f x)/\ρ''=ρ++[.sh (d1 x),.sh (d2 x),.sh (d3 x)]):We (aM i 3 (bT [k,k+1,k+2]) t el) ρ Q:=by
 have K9:iS (eV i) ρ=some (xs.map kM,ρ):=by
  unfold iS eV;rw[hi];cases d with
  |lst ys=>cases hd;rfl
  |tup ys=>cases hd;rfl
  |_=>cases hd
 have b:∀(x:α) (c1 c2 c3:Cell),bT [k,k+1,k+2] (kM x) (ρ++[c1,c2,c3])=some (ρ++[.sh (d1 x),.sh (d2 x),.sh (d3 x)]):=fun x c1 c2 c3=>by rw[henc];show sets [k,k+1,k+2] [d1 x,d2 x,d3 x] _=_;rw[sets,if_neg hk0,sets,if_neg (by lia),sets,if_neg (by lia),sets];rw[RN _ _ (by lia),RN _ _ (by lia),RN _ _ (by lia)];subst hk;rw[Nat.sub_self,show ρ.length+1-ρ.length=1 by lia,show ρ.length+2-ρ.length=2 by lia];rfl
 obtain⟨a,ρ',g1,g2⟩:=WN kM xs p f dW (fun x=>(ρ++[Cell.sh (d1 x),Cell.sh (d2 x),Cell.sh (d3 x)]:Env)) (own:=3) (bd:=bT [k,k+1,k+2]) (Q:=Q) q K9 (fun x=>b x .un .un .un) (fun x y=>b x (.sh (d1 y)) (.sh (d2 y)) (.sh (d3 y))) (fun x=>Tn) hl ht he;refine⟨a,ρ',?_,g2⟩;unfold aM;rw[hi];exact g1
theorem Wo{xs:List Dat}{o:Option (List Dat)}(k:K (.val (.tup xs)))(ho:o=some [.lst xs]):WB f_ o K:=⟨_,_,ho,rfl,k⟩
noncomputable def ltI(a b:Int):Bool:=decide (a<b)
theorem wV(ns:List Int):dR (ns.map Dat.int)=some ns:=by
 induction ns with
 |nil=>rfl
 |cons m ms ih=>rw[gp,dR,ih];rfl
theorem g8(ns:List Int):(bK ltI ns).Pairwise (fun a b=>ltI b a=false):=bV (fun a b c h1 h2=>by simp[ltI]at *;lia) (fun a b h=>by simp[ltI]at *;lia) ns
theorem uu{l m:List Int}(h:l.Perm m)(hs:l.Pairwise (·<=·)):bK ltI m=l:=
 cT (lt:=ltI) (fun a b h1 h2=>by simp[ltI]at *;lia) ((bF _ m).trans h.symm) (g8 m) (hs.imp fun h=>by simp[ltI];lia)
theorem CO(N M:List Int):gNe (.lst (N.map Dat.int)) (.lst (M.map Dat.int))=vB (!decide (N=M)):=by
 have ok:∀ns:List Int,okD 8 (.lst (ns.map Dat.int))=true:=fun ns=>CM Dat.int ns fun _=>rfl;have eq:∀N M:List Int,j5 (N.map Dat.int) (M.map Dat.int)=decide (N=M):=fun N=>by
  induction N with
  |nil=>intro M;cases M<;>rfl
  |cons n N ih=>
   intro M;cases M with
   |nil=>rfl
   |cons m M=>rw[gp,gp,j5,ih M];show ((n == m)&&_)=_;rw[So];simp
 unfold gNe;rw[ok,ok];show vB (!j5 _ _)=_;rw[eq]
theorem Wx{N M:List Int}(k:K (.val (.bl (!decide (N=M)))))(ho:o=some (.lst (N.map Dat.int)))(hp:p=some (.lst (M.map Dat.int))):Wg2 gNe o p K:=⟨_,_,_,ho,hp,CO N M,k⟩
theorem Wj{i:Nat}(h:We e ρ fun x ρ1=>∃es ds ρ3,pk ρ1 x=some (.lst es)/\ρ1[i]?=some (.ow (.lst ds))/\ρ1.set i (.ow (.lst (ds++es)))=ρ3/\N ρ3/\ds.length+es.length<=SZ)(h0:ρ[i]?=some (.ow (.lst ds0))):Ws (wz i e) ρ N R B C:=by obtain⟨x,ρ1,h1,es,ds,ρ3,h2,h3,h5,n,h4⟩:=h;exact⟨.nx _,by unfold wz;rw[h0];dsimp only;rw[h1];dsimp only;rw[h2];dsimp only;rw[h3];dsimp only;rw[if_pos h4,h5],n⟩
theorem VO{t:FT}{body:FS}{N:Env->Prop}{R:RV->Env->Prop}{B C:Env->Prop}(I:Nat->Env->Prop)
  (hs:∀k ρ,I k ρ->Wt t ρ fun c ρ1=>Wif c (Ws body ρ1 (fun ρ2=>∃k',k'<k/\I k' ρ2) R N (fun ρ2=>∃k',k'<k/\I k' ρ2)) (N ρ1)):∀(n k:Nat) (ρ:Env),k<n->I k ρ->Ws (whD t body n) ρ N R B C
 |0,k,_,h,_=>absurd h (Nat.not_lt_zero k)
 |n+1,k,ρ,h,i=>by
  obtain⟨c,ρ1,h1,h2,h3⟩:=hs k ρ i;cases c with
  |false=>exact⟨.nx _,by rw[whD,h1],h3 rfl⟩
  |true=>
   obtain⟨o,h4,h5⟩:=h2 rfl;cases o with
   |nx ρ2=>obtain⟨k',hk,i'⟩:=h5;obtain⟨o,h6,h7⟩:=VO (N:=N) (R:=R) (B:=B) (C:=C) I hs n k' ρ2 (by lia) i';exact⟨o,by rw[whD,h1];dsimp only;rw[h4];exact h6,h7⟩
   |ct ρ2=>obtain⟨k',hk,i'⟩:=h5;obtain⟨o,h6,h7⟩:=VO (N:=N) (R:=R) (B:=B) (C:=C) I hs n k' ρ2 (by lia) i';exact⟨o,by rw[whD,h1];dsimp only;rw[h4];exact h6,h7⟩
   |bk ρ2=>exact⟨.nx _,by rw[whD,h1];dsimp only;rw[h4],h5⟩
   |ret r ρ2=>exact⟨.ret _ _,by rw[whD,h1];dsimp only;rw[h4],h5⟩
theorem Ar(p:α->Bool)(xs:List α):bools (xs.map fun x=>Dat.bl (p x))=some (xs.map p):=by
 induction xs with
 |nil=>rfl
 |cons x xs ih=>rw[gp,bools,ih];rfl
theorem Vj(p:α->Bool){xs:List α}{o:Option (List Dat)}(k:K (.val (.bl (xs.all p))))(ho:o=some [.lst (xs.map fun x=>Dat.bl (p x))]):WB pC o K:=⟨_,_,ho,by
 unfold pC;dsimp only;rw[Ar];have:(xs.map p).all id=xs.all p:=by rw[List.all_map];rfl
 dsimp only;rw[this],k⟩
theorem WL{a b:FE}(h:We a ρ fun x ρ1=>(∃ks vs,pk ρ1 x=some (.dct ks vs))/\We b ρ1 fun y ρ2=>∃ks vs i,pk ρ2 x=some (.dct ks vs)/\pk ρ2 y=some (.int i)/\Q (.val ((bh ks vs i).getD .non)) ρ2):We (k9 a b) ρ Q:=by obtain⟨x,ρ1,h1,⟨ks,vs,h2⟩,y,ρ2,h3,ks',vs',i,h4,h5,q⟩:=h;exact⟨_,_,by unfold k9;rw[h1];dsimp only;rw[h2];dsimp only;rw[h3];dsimp only;rw[h4];dsimp only;rw[h5],q⟩
theorem Vg(k:K (.val (.bl (Dm.isN d))))(ho:o=some d)(hp:p=some .non):Wg2 rB o p K:=⟨_,_,_,ho,hp,by cases d<;>rfl,k⟩
theorem WZ{ns:List Int}{o:Option (List Dat)}(k:K (.val (.int (jL ns))))(ho:o=some [.lst (ns.map Dat.int)]):WB p_ o K:=⟨_,_,ho,by unfold p_;dsimp only;rw[wV],k⟩
theorem UZ(J:Env->Prop)(h1:Ws s ρ J R B C)(h2:∀ρ',J ρ'->Ws u ρ' N R B C):Ws (aq s u) ρ N R B C:=Ut (Wz h1 h2)
def WrM(o:Option (RV×Dat))(P:RV->Dat->Prop):Prop:=∃z d,o=some (z,d)/\P z d
theorem U_{r:List Dat}{P:RV->Dat->Prop}(b:Ws body ρ (fun ρ'=>∃d',ρ'[0]?=some (.ow d')/\P (.val .non) d') (fun z ρ'=>∃d',ρ'[0]?=some (.ow d')/\P z d') (fun _=>False) (fun _=>False))(hρ:Cell.ow d::(r.map Cell.sh++Ds m .un)=ρ)(h:(d::r).length=n):WrM (fnM n m body (d::r)) P:=by
 obtain⟨o,h1,h2⟩:=b;cases o with
 |nx ρ1=>obtain⟨d',h3,h4⟩:=h2;exact⟨_,_,by unfold fnM;rw[if_pos h];dsimp only;rw[hρ,h1];dsimp only;rw[h3],h4⟩
 |ret z ρ1=>obtain⟨d',h3,h4⟩:=h2;exact⟨_,_,by unfold fnM;rw[if_pos h];dsimp only;rw[hρ,h1];dsimp only;rw[h3],h4⟩
 |bk ρ1=>exact h2.elim
 |ct ρ1=>exact h2.elim
def WFm(f:List Dat->Option (RV×Dat))(j:Nat)(ρ1:Env)(xs:List Val)(Q:Val->Env->Prop):Prop:=
 ∃d1 ds ρ2 d v d',ρ1[j]?=some (.ow d1)/\tks ρ1 xs=some (ds,ρ2)/\ρ2[j]?=some (.ow d)/\f (d::ds)=some (v,d')/\(if (flat v.dat&&rq d')=true then Q v.a_ (ρ1.set j (.ow d')) else Q v.a_ (ρ2.set j (.ow d')))
theorem Vf{j:Nat}{d0:Dat}(h:Was as ρ fun xs ρ1=>WFm f j ρ1 xs Q)(h0:ρ[j]?=some (.ow d0)):We (eFm f j as) ρ Q:=by
 obtain⟨xs,ρ1,h1,d1,ds,ρ2,d,v,d',h2,h3,h4,h5,q⟩:=h;by_cases c:(flat v.dat&&rq d')=true
 ·rw[if_pos c]at q;exact⟨_,_,by unfold eFm;rw[h0];dsimp only;rw[h1];dsimp only;rw[h2];dsimp only;rw[h3];dsimp only;rw[h4];dsimp only;rw[h5];dsimp only;rw[if_pos c],q⟩
 ·rw[if_neg c]at q;exact⟨_,_,by unfold eFm;rw[h0];dsimp only;rw[h1];dsimp only;rw[h2];dsimp only;rw[h3];dsimp only;rw[h4];dsimp only;rw[h5];dsimp only;rw[if_neg c],q⟩
theorem Wn{j:Nat}{ρ1 ρ2 ρ3:Env}{d1 d d':Dat}(h5:f (d::ds)=some (v,d'))(q:Q v.a_ ρ3)(h2:ρ1[j]?=some (.ow d1))(h3:tks ρ1 xs=some (ds,ρ2))(h4:ρ2[j]?=some (.ow d))(hf:(Dm.flat v.dat&&rq d')=true)(hn:ρ1.set j (.ow d')=ρ3):WFm f j ρ1 xs Q:=
 ⟨_,_,_,_,_,_,h2,h3,h4,h5,by rw[if_pos hf,hn];exact q⟩
theorem Vc{j:Nat}{ρ1 ρ3:Env}{d d':Dat}(h5:f (d::ds)=some (v,d'))(q:Q v.a_ ρ3)(h2:ρ1[j]?=some (.ow d))(h3:tks ρ1 xs=some (ds,ρ1))(hn:ρ1.set j (.ow d')=ρ3):WFm f j ρ1 xs Q:=
 ⟨_,_,_,_,_,_,h2,h3,h2,h5,by rw[hn];split<;>exact q⟩
theorem V8{f:List Dat->Option RV}(h:Was as ρ fun xs ρ1=>∃ds ρ2 v,wD ρ1 xs=some (ds,ρ2)/\f ds=some v/\bD v.dat=true/\Q v.a_ ρ2):We (eFd f as) ρ Q:=by obtain⟨xs,ρ1,h1,ds,ρ2,v,h2,h3,h4,q⟩:=h;exact⟨_,_,by unfold eFd;rw[h1];dsimp only;rw[h2];dsimp only;rw[h3];dsimp only;rw[if_pos h4],q⟩
theorem kD:∀(xs:List Dat),(∀x∈xs,bD x=true)->gm xs=true
 |[],_=>by unfold gm;rfl
 |x::xs,h=>by unfold gm;rw[h x gV,kD xs fun y hy=>h y (Pa _ hy)];rfl
theorem gM(kM:α->Dat)(xs:List α)(h:∀x,bD (kM x)=true):bD (.lst (xs.map kM))=true:=by unfold bD;exact kD _ fun d hd=>by obtain⟨x,_,rfl⟩:=QF.mp hd;exact h x
theorem qq(i:Int):bD (.int i)=true:=by unfold bD;rfl
theorem wW(xs:List Int):bD (.lst (xs.map Dat.int))=true:=gM _ _ qq
theorem Wy{o:Option (List Dat)}(k:K (.new (.dct ks vs)))(ho:o=some [.dct ks vs]):WB tP o K:=⟨_,_,ho,rfl,k⟩
theorem WH{o:Option (List Dat)}(k:K (.new (.lst ((bK ltI ks).map Dat.int))))(ho:o=some [.dct ks vs])(h:ks.length<=63):WB kg o K:=⟨_,_,ho,by unfold kg;dsimp only;rw[if_pos h];rfl,k⟩
theorem Wv{i:Nat}{ρ ρ2:Env}(hl:bh ks vs k=some d)(q:Q (.val d) ρ2)(h:ρ[i]?=some (.ow (.dct ks vs)))(he:e ρ=some (.val (.int k),ρ))(hs:ρ.set i (.ow (.dct (fJ ks vs k) (fK ks vs k)))=ρ2):We (mY i e) ρ Q:=⟨_,_,by unfold mY;rw[h];dsimp only;rw[he];dsimp only;rw[h];dsimp only;rw[hl];dsimp only;rw[hs],q⟩
theorem VQ{ρ ρ1:Env}(h:Wi it ρ fun x y=>x=ds/\y=ρ1):it ρ=some (ds,ρ1):=by obtain⟨_,_,h1,rfl,rfl⟩:=h;exact h1
theorem WX{a b c:FE}{i j k:Int}{Q:List Dat->Env->Prop}(ha:a ρ=some (.val (.int i),ρ))(hb:b ρ=some (.val (.int j),ρ))(hc:c ρ=some (.val (.int k),ρ))(hk:(0<k/\k<=1000)/\j<=BIG/\-BIG<=j/\i<=BIG/\-BIG<=i)(q:Q (ir i k (cH i j k)) ρ):Wi (iRs a b c) ρ Q:=⟨_,_,by unfold iRs;rw[ha];dsimp only;rw[hb];dsimp only;rw[hc];dsimp only;rw[if_pos hk],q⟩
theorem WG{ρ ρ':Env}{v:Val}(h:We e ρ fun x y=>x=v/\y=ρ'):e ρ=some (v,ρ'):=by obtain⟨_,_,h1,rfl,rfl⟩:=h;exact h1
theorem WI{e0:FE}(h:Was (e0::as) ρ fun xs ρ1=>∃d ys ds v d',xs=.new d::ys/\kh ys=some ds/\f (d::ds)=some (v,d')/\Q v.a_ ρ1):We (eFn f e0 as) ρ Q:=by obtain⟨xs,ρ1,h1,d,ys,ds,v,d',rfl,h2,h3,q⟩:=h;refine⟨_,_,?_,q⟩;unfold eFn;rw[h1];dsimp only;rw[h2];dsimp only;rw[h3]
theorem V6{k:Nat}{f:List Dat->Option RV}(h:Was as ρ fun xs ρ1=>∃ds ρ2 v,tS k ρ1 xs=some (ds,ρ2)/\f ds=some v/\jO k v.dat=true/\Q v.a_ ρ2):We (eFk k f as) ρ Q:=by obtain⟨xs,ρ1,e1,ds,ρ2,v,e2,e3,e4,q⟩:=h;exact⟨_,_,by unfold eFk;rw[e1];dsimp only;rw[e2];dsimp only;rw[e3];dsimp only;rw[if_pos e4],q⟩
def Wm(g:FM)(ρ:Env)(p:Dp)(N:Env->Prop)(R:RV->Env->Prop)(B C:Env->Prop):Prop:=∃o,g ρ p=some o/\KO N R B C o
def Wp'(f:FP)(ρ:Env)(Q:Dp->Env->Prop):Prop:=∃p ρ',f ρ=some (p,ρ')/\Q p ρ'
end
section
variable{ρ:Env}{P:Dp->Prop}
theorem V1{f:FE}{ds:List Dat}{Q:Dp->Env->Prop}(h:We f ρ fun v ρ1=>v=.new (.lst ds)/\Q (.l (ds.map .s)) ρ1):Wp' (pO f) ρ Q:=by obtain⟨v,ρ1,h1,rfl,h2⟩:=h;exact⟨_,_,by unfold pO;rw[h1],h2⟩
end
def KM(N:Env->Dp->Prop)(R:Dat->Env->Prop):OM->Prop
 |.nx ρ p=>N ρ p
 |.rt d ρ=>R d ρ
def Wc(g:FC)(ρ:Env)(p:Dp)(N:Env->Dp->Prop)(R:Dat->Env->Prop):Prop:=∃o,g ρ p=some o/\KM N R o
section
variable{N:Env->Dp->Prop}{R:Dat->Env->Prop}{ρ ρ':Env}{p:Dp}
theorem Vm{s:FC}{g:FM}{N:Env->Prop}{R:RV->Env->Prop}{B C:Env->Prop}(h:Wc s ρ p (fun ρ1 p1=>Wm g ρ1 p1 N R B C) (fun d ρ1=>R (.val d) ρ1)):Wm (lN s g) ρ p N R B C:=by
 obtain⟨o,h1,h2⟩:=h;cases o with
 |nx ρ1 p1=>obtain⟨o,h3,h4⟩:=h2;exact⟨o,by unfold lN;rw[h1];exact h3,h4⟩
 |rt d ρ1=>exact⟨.ret (.val d) ρ1,by unfold lN;rw[h1],h2⟩
theorem WQ{j i:Nat}{f:FP}{q:Dp}{D:Dat}{ρ2:Env}(h:Wp' f ρ' fun q' _=>q'=q)(k:N ρ2 p)(e:see j ρ p=ρ')(hb:eX q=true)(hd:q.dat=D)(hn:ρ.set i (.sh D)=ρ2)(hi:¬(i=0\/i=j)):Wc (qh j i f) ρ p N R:=by obtain⟨v,ρ1,h1,rfl⟩:=h;exact⟨.nx ρ2 p,by unfold qh;rw[if_neg hi,e,h1];dsimp only;rw[if_pos hb,hd,hn],k⟩
theorem WE{j:Nat}{i f:FE}{rows rows':List Dp}{k:Int}{d:Dat}(h1:We i ρ' fun v _=>v=.val (.int k))(h2:We f ρ' fun v _=>v=.val d)(q:N ρ (.l rows'))(e:see j ρ (.l rows)=ρ')(hb:cj d=false)(hr:rF rows k d=some rows'):Wc (Af j i f) ρ (.l rows) N R:=by obtain⟨v,ρ1,h1,rfl⟩:=h1;obtain⟨w,ρ2,h2,rfl⟩:=h2;exact⟨.nx ρ (.l rows'),by unfold Af;dsimp only;rw[e,h1];dsimp only;rw[h2];dsimp only;rw[hb,hr];rfl,q⟩
theorem CP{α:Type}(kM:α->Dat)(v:α->Dp)(bd:FB)(el:FP)(I:Env->Prop):∀(xs:List α) (pI:List Dp) (ρ:Env),I ρ ->
  (∀x∈xs,∀ρ,I ρ->∃ρ1,bd (kM x) ρ=some ρ1/\Wp' el ρ1 fun q ρ2=>q=v x/\I ρ2)->∃ρ',gu bd el (xs.map kM) ρ pI=some (pI++xs.map v,ρ')/\I ρ'
 |[],pI,ρ,i,_=>⟨ρ,by simp[gu],i⟩
 |x::xs,pI,ρ,i,h=>by obtain⟨ρ1,h1,q,ρ2,h2,rfl,i2⟩:=h x gV ρ i;obtain⟨ρ3,h3,i3⟩:=CP kM v bd el I xs (pI++[v x]) ρ2 i2 fun y hy=>h y (Pa _ hy);exact⟨ρ3,by rw[gp,gu,h1];dsimp only;rw[h2];dsimp only;rw[h3];simp,i3⟩
theorem Wl{α:Type}(kM:α->Dat)(xs:List α)(v:α->Dp)(I:Env->Prop){it:FI}{own:Nat}{bd:FB}{el:FP}{ρ ρ1:Env}{Q:Dp->Env->Prop}(K9:it ρ=some (xs.map kM,ρ1))(hl:xs.length<=SZ)(h0:I (ρ1++Ds own .un))
  (hs:∀x∈xs,∀ρ,I ρ->∃ρ1,bd (kM x) ρ=some ρ1/\Wp' el ρ1 fun q ρ2=>q=v x/\I ρ2) (q:∀ρ2,I ρ2->Q (.l (xs.map v)) (ρ2.take ρ1.length)):Wp' (qg it own bd el) ρ Q:=by
 obtain⟨ρ2,h1,i⟩:=CP kM v bd el I xs [] _ h0 hs;exact⟨_,_,by unfold qg;rw[K9];dsimp only;rw[if_pos (by simpa using hl),h1];rfl,q ρ2 i⟩
end
theorem CQ(i:Int):ng (.int i)=true:=by unfold ng;rfl
section
variable{N:Env->Prop}{R:RV->Env->Prop}{B C:Env->Prop}{ρ:Env}{p:Dp}
section
variable{ga g:FM}{ρ':Env}{j:Nat}{t:FT}
theorem WC(h:Wt t ρ' fun c _=>c=false)(k:Wm g ρ p N R B C)(e:see j ρ p=ρ'):Wm (pD j t ga g) ρ p N R B C:=by obtain⟨c,ρ1,h1,rfl⟩:=h;obtain⟨o,h3,h4⟩:=k;exact⟨o,by unfold pD;rw[e,h1];exact h3,h4⟩
theorem WW(h:Wt t ρ' fun c _=>c=true)(k:Wm ga ρ p (fun _=>False) R B C)(e:see j ρ p=ρ'):Wm (pD j t ga g) ρ p N R B C:=by
 obtain⟨c,ρ1,h1,rfl⟩:=h;obtain⟨o,h3,h4⟩:=k;cases o with
 |nx ρ2=>exact h4.elim
 |ret z ρ2=>exact⟨.ret z ρ2,by unfold pD;rw[e,h1];dsimp only;rw[h3],h4⟩
 |bk ρ2=>exact⟨.bk ρ2,by unfold pD;rw[e,h1];dsimp only;rw[h3],h4⟩
 |ct ρ2=>exact⟨.ct ρ2,by unfold pD;rw[e,h1];dsimp only;rw[h3],h4⟩
end
end
end Dm
namespace Fl
section
variable{r:List Tie}{S:Int->Bool}{R:Int->Step->Prop}{w:List Step}{p q:Int}{a b:Int}{t:Tie}{k:Nat}
structure Tie where
 m:Int
 a:Int
 b:Int
deriving Inhabited
noncomputable def one(b:Bool):Int:=if b then 1 else 0
def Ends(t:Tie)(p q:Int):Prop:=t.a≠t.b/\((t.a=p/\t.b=q)\/(t.b=p/\t.a=q))
theorem Ends.symm(h:Ends t p q):Ends t q p:=⟨h.1,h.2.symm.imp (fun x=>⟨x.2,x.1⟩) (fun x=>⟨x.2,x.1⟩)⟩
noncomputable abbrev Hd:=Int->Option Int
noncomputable def val(o:Option Int)(t:Tie)(S:Int->Bool):Int:=
 if t.a=t.b then 0 else if o=some t.b then one (S t.a)-one (S t.b) else if o=some t.a then one (S t.b)-one (S t.a) else 0
noncomputable def cV(r:List Tie)(H:Hd)(S:Int->Bool):Int:=match r with
 |[]=>0
 |t::r=>val (H t.m) t S+cV r H S
noncomputable def put(H:Hd)(m:Int)(o:Option Int):Hd:=fun x=>if x=m then o else H x
theorem As{H H':Hd}(h:∀t∈r,H t.m=H' t.m):cV r H S=cV r H' S:=by
 induction r with
 |nil=>rfl
 |cons t r ih=>rw[cV,cV,h t gV,ih fun u hu=>h u (Pa _ hu)]
theorem uv(nd:(r.map (·.m)).Nodup)(ht:t∈r)(H:Hd)(o:Option Int)(S:Int->Bool):cV r (put H t.m o) S=cV r H S-val (H t.m) t S+val o t S:=by
 induction r with
 |nil=>cases ht
 |cons u r ih=>
  rw[gp,QB]at nd;rcases Qw.mp ht with rfl | ht'
  ·rw[cV,cV];have e1:put H t.m o t.m=o:=by unfold put;rw[if_pos rfl]
   rw[e1,As (H:=put H t.m o) (H':=H) fun v hv=>?_]
   ·lia
   ·unfold put;rw[if_neg fun e=>?_];exact nd.1 (QF.mpr ⟨v,hv,e⟩)
  ·have NW:u.m≠t.m:=fun e=>nd.1 (QF.mpr ⟨t,ht',e.symm⟩);rw[cV,cV,ih nd.2 ht'];have e1:put H t.m o u.m=H u.m:=by unfold put;rw[if_neg NW]
   rw[e1]
   lia
theorem gO(h:Ends t p q)(S:Int->Bool):val (some q) t S=one (S p)-one (S q):=by
 obtain⟨h1,h2⟩:=h;unfold val;rw[if_neg h1];rcases h2 with⟨rfl,rfl⟩ | ⟨rfl,rfl⟩
 ·rw[if_pos rfl]
 ·rw[if_neg (by intro e;injection e with e;exact h1 e),if_pos rfl]
theorem gA(t:Tie)(S:Int->Bool):val none t S=0:=by
 unfold val;split
 ·rfl
 ·simp
def Ok(r:List Tie)(H:Hd):Prop:=∀t∈r,∀x,H t.m=some x->x=t.a\/x=t.b
noncomputable def gB(H:Hd)(m q:Int):Hd:=put H m (if (H m).isSome then none else some q)
theorem wX(nd:(r.map (·.m)).Nodup){H:Hd}(ok:Ok r H)(ht:t∈r)(he:Ends t p q)(hf:H t.m≠some q)(S:Int->Bool) :
  cV r (gB H t.m q) S=cV r H S+one (S p)-one (S q):=by
 unfold gB;rw[uv nd ht];cases e:H t.m with
 |none=>
  simp only[Option.isSome_none,Rm,if_false];rw[gA,gO he]
  lia
 |some x=>
  have hx:=ok t ht x e;have:x=p:=by
   rw[e]at hf;have hxq:x≠q:=fun z=>hf (by rw[z]);obtain⟨_,h2⟩:=he
   lia
  subst this;simp only[Option.isSome_some,if_true];rw[gA,gO he.symm]
  lia
theorem uniq(nd:(r.map (·.m)).Nodup){u t:Tie}(hu:u∈r)(ht:t∈r)(e:u.m=t.m):u=t:=by
 induction r with
 |nil=>cases hu
 |cons v r ih=>
  rw[gp,QB]at nd;rcases Qw.mp hu with rfl | h1
  ·rcases Qw.mp ht with rfl | h2
   ·rfl
   ·exact absurd (QF.mpr ⟨t,h2,e.symm⟩) nd.1
  ·rcases Qw.mp ht with rfl | h2
   ·exact absurd (QF.mpr ⟨u,h1,e⟩) nd.1
   ·exact ih nd.2 h1 h2
theorem CS(nd:(r.map (·.m)).Nodup){H:Hd}(ok:Ok r H)(ht:t∈r)(he:Ends t p q):Ok r (gB H t.m q):=by
 intro u hu x hx;unfold gB put at hx;by_cases e:u.m=t.m
 ·rw[if_pos e]at hx;have:u=t:=uniq nd hu ht e;subst this;split at hx
  ·cases hx
  ·injection hx with hx
   obtain⟨_,h2⟩:=he
   lia
 ·rw[if_neg e]at hx;exact ok u hu x hx
noncomputable abbrev Step:=Int×Int
def Way(R:Int->Step->Prop):Int->List Step->Int->Prop
 |x,[],y=>x=y
 |x,s::w,y=>R x s/\Way R s.2 w y
theorem Way.snoc:∀{w:List Step} {x y:Int} {s:Step},Way R x w y->R y s->Way R x (w++[s]) s.2
 |[],_,_,_,h,k=>by cases h;exact⟨k,rfl⟩
 |_::_,_,_,_,h,k=>⟨h.1,Way.snoc h.2 k⟩
theorem Way.mono{R R':Int->Step->Prop}(h:∀p s,R p s->R' p s):∀{w:List Step} {x y:Int},Way R x w y->Way R' x w y
 |[],_,_,k=>k
 |_::_,_,_,k=>⟨h _ _ k.1,Way.mono h k.2⟩
def gC(r:List Tie)(p:Int)(s:Step):Prop:=∃t∈r,t.m=s.1/\Ends t p s.2
def eW(r:List Tie)(H:Hd)(p:Int)(s:Step):Prop:=gC r p s/\H s.1≠some s.2
def Led(r:List Tie)(H:Hd)(p:Int)(s:Step):Prop:=gC r p s/\H s.1=some s.2
theorem kE(nd:(r.map (·.m)).Nodup)(hR:∀p s,R p s->gC r p s){x y:Int}{s:Step}(h:Way R x (s::w) y)(hn:(x::(s::w).map (·.2)).Nodup):∀u∈w,u.1≠s.1:=by
 obtain⟨h1,h2⟩:=h;obtain⟨t,ht,hm,he⟩:=hR _ _ h1;have main:∀(w:List Step) (z:Int),Way R z w y->(∀u∈w,u.2≠x/\u.2≠s.2)->∀u∈w,u.1≠s.1:=fun w=>by
  induction w with
  |nil=>intro z _ _ u hu;cases hu
  |cons v w ih=>
   intro z hw hd u hu;rcases Qw.mp hu with rfl | hu
   ·intro e;obtain⟨t',ht',hm',he'⟩:=hR _ _ hw.1;have:=uniq nd ht' ht (by rw[hm',e,hm]);subst this;obtain⟨d1,d2⟩:=hd u gV;obtain⟨_,he⟩:=he;obtain⟨_,he'⟩:=he'
    lia
   ·exact ih v.2 hw.2 (fun u hu=>hd u (Pa _ hu)) u hu
 rw[gp,QB,QB]at hn;refine main w s.2 h2 fun u hu=>⟨fun e=>hn.1 ?_,fun e=>hn.2.1 ?_⟩
 ·exact Pa _ (QF.mpr ⟨u,hu,e⟩)
 ·exact QF.mpr ⟨u,hu,e⟩
theorem ly(nd:(r.map (·.m)).Nodup)(hR:∀p s,R p s->gC r p s){y:Int}:∀{w:List Step} {x:Int},Way R x w y->(x::w.map (·.2)).Nodup->(w.map (·.1)).Nodup
 |[],_,_,_=>by simp
 |s::w,x,h,hn=>by rw[gp,QB];refine⟨fun e=>?_,ly nd hR h.2 (by rw[gp,QB]at hn;exact hn.2)⟩;obtain⟨u,hu,e⟩:=QF.mp e;exact kE nd hR h hn u hu e
noncomputable def lz(H:Hd):List Step->Hd
 |[]=>H
 |s::w=>lz (gB H s.1 s.2) w
theorem uw{H:Hd}{m q x:Int}(h:x≠m):gB H m q x=H x:=by unfold gB put;rw[if_neg h]
theorem iA(nd:(r.map (·.m)).Nodup)(S:Int->Bool):∀{w:List Step} {x y:Int} {H:Hd},Ok r H->Way (eW r H) x w y->(x::w.map (·.2)).Nodup ->
  Ok r (lz H w)/\cV r (lz H w) S=cV r H S+one (S x)-one (S y)
 |[],x,y,H,ok,h,_=>by cases h;exact⟨ok,by rw[lz];lia⟩
 |s::w,x,y,H,ok,h,hn=>by
  have hfr:=kE nd (fun p s h=>h.1) h hn;obtain⟨⟨⟨t,ht,hm,he⟩,hf⟩,h2⟩:=h;have ok1:=CS nd ok ht he;have f1:=wX nd ok ht he (by rw[hm];exact hf) S;rw[hm]at ok1 f1;have h3:Way (eW r (gB H s.1 s.2)) s.2 w y:=by
   have main:∀(w:List Step) (z:Int),(∀u∈w,u.1≠s.1)->Way (eW r H) z w y->Way (eW r (gB H s.1 s.2)) z w y:=fun w=>by
    induction w with
    |nil=>intro _ _ h;exact h
    |cons u w ih=>intro z hu hw;exact⟨⟨hw.1.1,by rw[uw (hu u gV)];exact hw.1.2⟩,ih u.2 (fun v hv=>hu v (Pa _ hv)) hw.2⟩
   exact main w s.2 hfr h2
  obtain⟨k1,k2⟩:=iA nd S ok1 h3 (by rw[gp,QB]at hn;exact hn.2);rw[lz];exact⟨k1,by rw[k2,f1];lia⟩
noncomputable def fW(H:Hd):List Step->Hd
 |[]=>H
 |s::w=>fW (put H s.1 none) w
theorem gD:∀{w:List Step} {H:Hd} {x:Int},(∀u∈w,u.1≠x)->fW H w x=H x
 |[],_,_,_=>rfl
 |s::w,H,x,h=>by rw[fW,gD fun u hu=>h u (Pa _ hu)];unfold put;rw[if_neg fun e=>h s gV e.symm]
theorem iB:∀{w:List Step} {H:Hd} {x:Int},x∈w.map (·.1)->fW H w x=none
 |[],_,_,h=>by cases h
 |s::w,H,x,h=>by
  rw[fW];by_cases e:x∈w.map (·.1)
  ·exact iB e
  ·rw[gD fun u hu z=>e (QF.mpr ⟨u,hu,z⟩)];rw[gp]at h;rcases Qw.mp h with rfl | h
   ·unfold put;rw[if_pos rfl]
   ·exact absurd h e
theorem iC(nd:(r.map (·.m)).Nodup)(S:Int->Bool):∀{w:List Step} {x y:Int} {H:Hd},Ok r H->Way (Led r H) x w y->(x::w.map (·.2)).Nodup ->
  Ok r (fW H w)/\cV r (fW H w) S=cV r H S-one (S x)+one (S y)
 |[],x,y,H,ok,h,_=>by cases h;exact⟨ok,by rw[fW];lia⟩
 |s::w,x,y,H,ok,h,hn=>by
  have hfr:=kE nd (fun p s h=>h.1) h hn;obtain⟨⟨⟨t,ht,hm,he⟩,hf⟩,h2⟩:=h;have ok1:Ok r (put H s.1 none):=fun u hu z hz=>by
   unfold put at hz;split at hz
   ·cases hz
   ·exact ok u hu z hz
  have f1:=uv nd ht H none S;rw[gA,hm,hf,gO he]at f1;have h3:Way (Led r (put H s.1 none)) s.2 w y:=by
   have main:∀(w:List Step) (z:Int),(∀u∈w,u.1≠s.1)->Way (Led r H) z w y->Way (Led r (put H s.1 none)) z w y:=fun w=>by
    induction w with
    |nil=>intro _ _ h;exact h
    |cons u w ih=>intro z hu hw;exact⟨⟨hw.1.1,by unfold put;rw[if_neg (hu u gV)];exact hw.1.2⟩,ih u.2 (fun v hv=>hu v (Pa _ hv)) hw.2⟩
   exact main w s.2 hfr h2
  obtain⟨k1,k2⟩:=iC nd S ok1 h3 (by rw[gp,QB]at hn;exact hn.2);rw[fW];exact⟨k1,by rw[k2,f1];lia⟩
noncomputable def over(S:Int->Bool)(t:Tie):Bool:=S t.a != S t.b
theorem CT{H:Hd}(hc:∀p s,S p=true->eW r H p s->S s.2=true):cV r H S=((r.filter (over S)).length:Nat):=by
 have main:∀(q:List Tie),(∀t∈q,t∈r)->cV q H S=((q.filter (over S)).length:Nat):=fun q=>by
  induction q with
  |nil=>intro _;rfl
  |cons t q ih=>
   intro hq;rw[cV,ih fun u hu=>hq u (Pa _ hu)];by_cases ho:over S t=true
   ·rw[RH ho];have NW:t.a≠t.b:=fun e=>by unfold over at ho;rw[e]at ho;simp at ho
    have hv:val (H t.m) t S=1:=by
     unfold over at ho;cases ha:S t.a with
     |true=>
      have hb:S t.b=false:=by rw[ha]at ho;simpa using ho
      have he:Ends t t.a t.b:=⟨NW,.inl ⟨rfl,rfl⟩⟩
      have:H t.m=some t.b:=SO fun e=>by have:=hc t.a (t.m,t.b) ha ⟨⟨t,hq t gV,rfl,he⟩,e⟩;rw[hb]at this;cases this
      rw[this,gO he,ha,hb];rfl
     |false=>
      have hb:S t.b=true:=by rw[ha]at ho;simpa using ho
      have he:Ends t t.b t.a:=⟨NW,.inr ⟨rfl,rfl⟩⟩
      have:H t.m=some t.a:=SO fun e=>by have:=hc t.b (t.m,t.a) hb ⟨⟨t,hq t gV,rfl,he⟩,e⟩;rw[ha]at this;cases this
      rw[this,gO he,ha,hb];rfl
    rw[hv,QO]
    lia
   ·rw[RG ho];have hv:val (H t.m) t S=0:=by
     unfold over at ho;have:S t.a=S t.b:=by simpa using ho
     unfold val;rw[this];split
     ·rfl
     ·split
      ·lia
      ·split<;>lia
    rw[hv]
    lia
 exact main r fun _ h=>h
theorem CU{H:Hd}(ok:Ok r H)(hc:∀p s,S p=true->Led r H p s->S s.2=true):cV r H S<=0:=by
 have main:∀(q:List Tie),(∀t∈q,t∈r)->cV q H S<=0:=fun q=>by
  induction q with
  |nil=>intro _;exact Uo _
  |cons t q ih=>
   intro hq;rw[cV];have h1:=ih fun u hu=>hq u (Pa _ hu);have hv:val (H t.m) t S<=0:=by
    by_cases NW:t.a=t.b
    ·unfold val;rw[if_pos NW];exact Uo _
    cases e:H t.m with
    |none=>rw[gA];exact Uo _
    |some x=>
     have key:∀p,Ends t p x->val (some x) t S<=0:=fun p he=>by
      rw[gO he];cases hp:S p with
      |false=>cases S x<;>decide
      |true=>have:=hc p (t.m,x) hp ⟨⟨t,hq t gV,rfl,he⟩,e⟩;rw[this];decide
     rcases ok t (hq t gV) x e with rfl | rfl
     ·exact key t.b ⟨NW,.inr ⟨rfl,rfl⟩⟩
     ·exact key t.a ⟨NW,.inl ⟨rfl,rfl⟩⟩
   lia
 exact main r fun _ h=>h
structure Flow(r:List Tie)(H:Hd)(a b:Int)(k:Nat):Prop where
 ok:Ok r H
 eq:∀S,cV r H S=(k:Int)*(one (S a)-one (S b))
theorem Flow.zero(r:List Tie)(a b:Int):Flow r (fun _=>none) a b 0:=⟨fun _ _ _ h=>(by cases h),fun S=>by
 induction r with
 |nil=>simp[cV]
 |cons t r ih=>rw[cV,gA,ih];simp⟩
theorem Flow.more(nd:(r.map (·.m)).Nodup){H:Hd}(f:Flow r H a b k)(h:Way (eW r H) a w b)(hn:(a::w.map (·.2)).Nodup):Flow r (lz H w) a b (k+1):=
 ⟨(iA nd (fun _=>true) f.ok h hn).1,fun S=>by
  rw[(iA nd S f.ok h hn).2,f.eq S];have:((k+1:Nat):Int)=(k:Int)+1:=by lia
  rw[this,Up]
  lia⟩
theorem Flow.less(nd:(r.map (·.m)).Nodup){H:Hd}(f:Flow r H a b (k+1))(h:Way (Led r H) a w b)(hn:(a::w.map (·.2)).Nodup):Flow r (fW H w) a b k:=
 ⟨(iC nd (fun _=>true) f.ok h hn).1,fun S=>by
  rw[(iC nd S f.ok h hn).2,f.eq S];have:((k+1:Nat):Int)=(k:Int)+1:=by lia
  rw[this,Up]
  lia⟩
theorem Flow.cut{H:Hd}(f:Flow r H a b k)(ha:S a=true)(hb:S b=false)(hc:∀p s,S p=true->eW r H p s->S s.2=true):(r.filter (over S)).length=k:=by
 have h1:=CT hc;rw[f.eq S,ha,hb]at h1;simp[one]at h1
 lia
theorem Flow.reach{H:Hd}(f:Flow r H a b (k+1))(ha:S a=true)(hc:∀p s,S p=true->Led r H p s->S s.2=true):S b=true:=by
 cases hb:S b with
 |true=>rfl
 |false=>
  have h1:=CU f.ok hc;rw[f.eq S,ha,hb]at h1;simp[one]at h1
  lia
end
end Fl
namespace Dm
theorem CV{c:Char}(h:c.isDigit=true):c.toNat<128:=by
 unfold Char.isDigit at h;simp only[QD,decide_eq_true_eq]at h;have h2:=h.2;have:c.val.toNat<=57:=by exact_mod_cast (UInt32.le_iff_toNat_le.mp h2)
 show c.val.toNat<128
 lia
theorem nat_ascii(n:Nat):∀c∈codes n.repr,c<128:=fun c hc=>by unfold codes at hc;rw[Nat.toList_repr]at hc;obtain⟨d,hd,rfl⟩:=QF.mp hc;exact CV (Nat.isDigit_of_mem_toDigits (by decide) (by decide) hd)
theorem int_ascii(i:Int):∀c∈codes (toString i),c<128:=fun c hc=>by
 rw[Int.toString_eq_repr]at hc;unfold Int.repr at hc;cases i with
 |ofNat m=>exact nat_ascii m c hc
 |negSucc m=>
  dsimp only at hc;unfold codes at hc;rw[String.toList_append,QK,QE]at hc;rcases hc with hc | hc
  ·have:c∈[45]:=hc;rw[QN]at this
   lia
  ·exact nat_ascii m.succ c hc
theorem kF:∀l:List (List Nat),(∀x∈l,∀c∈x,c<128)->∀c∈shJ l,c<128
 |[],_,c,h=>by cases h
 |[x],k,c,h=>k x gV c h
 |x::y::r,k,c,h=>by
  unfold shJ at h;rcases QE.mp h with h | h
  ·exact k x gV c h
  ·rcases Qw.mp h with rfl | h
   ·decide
   ·rcases Qw.mp h with rfl | h
    ·decide
    ·exact kF (y::r) (fun z hz=>k z (Pa _ hz)) c h
mutual
theorem qt:∀(n:Nat) (d:Dat),dY n d=true->∀c∈shw d,c<128
 |_,.non,_=>by decide
 |_,.bl b,_=>by cases b<;>decide
 |n,.int i,h=>by unfold shw;exact int_ascii i
 |n+1,.tup xs,h=>fun c hc=>by
  unfold shw at hc;rcases Qw.mp hc with rfl | hc
  ·decide
  ·rcases QE.mp hc with hc | hc
   ·exact kF _ (iD n xs h) c hc
   ·split at hc
    ·simp only[Qw,RY,or_false]at hc
     lia
    ·simp only[Qw,RY,or_false]at hc
     lia
 |n+1,.lst xs,h=>fun c hc=>by
  unfold shw at hc;rcases Qw.mp hc with rfl | hc
  ·decide
  ·rcases QE.mp hc with hc | hc
   ·exact kF _ (iD n xs h) c hc
   ·simp only[Qw,RY,or_false]at hc
    lia
 |0,.tup xs,h=>by cases h
 |0,.lst xs,h=>by cases h
 |n,.str s,h=>by
  have h:s=[115,105,110,99,101]\/s=[110,101,118,101,114]\/s=[53]\/s=[48]\/s=[53,58,48,45,48]\/s=[]:=by cases n<;>exact of_decide_eq_true h
  rcases h with rfl | rfl | rfl | rfl | rfl | rfl<;>decide
 |0,.dct _ _,h=>by cases h
 |0,.dcp _ _,h=>by cases h
 |_+1,.dct _ _,h=>by cases h
 |_+1,.dcp _ _,h=>by cases h
 |0,.exc _,h=>by cases h
 |0,.bU _ _,h=>by cases h
 |_+1,.exc _,h=>by cases h
 |_+1,.bU _ _,h=>by cases h
 |0,.fn _,h=>by cases h
 |_+1,.fn _,h=>by cases h
theorem iD:∀(n:Nat) (xs:List Dat),bR n xs=true->∀x∈fY xs,∀c∈x,c<128
 |_,[],_=>by intro x hx;cases hx
 |n,y::r,h=>by
  unfold bR at h;rw[QD]at h;intro x hx;unfold fY at hx;rcases Qw.mp hx with rfl | hx
  ·exact qt n y h.1
  ·exact iD n r h.2 x hx
end
theorem VD{xs:List Dat}{o:Option (List Dat)}{K:RV->Prop}(h1:dY 8 (.tup xs)=true)(h2:fZ (.tup xs)<=900)(k:K (.val (.str (shw (.tup xs)))))(ho:o=some [.tup xs]):WB lP o K:=⟨_,_,ho,by unfold lP;dsimp only;rw[if_pos ⟨h1,h2⟩],k⟩
theorem GD{d:Dat}(h:dY 8 d=true):gNe (.str (shw d)) (.str (shw d))=some (.val (.bl false)):=by
 have a:okD 8 (.str (shw d))=true:=by unfold okD;rw[Ra];exact fun c hc=>decide_eq_true (qt 8 d h c hc)
 unfold gNe;rw[a];simp[eqD]
theorem VR{d:Dat}{o p:Option Dat}{K:RV->Prop}(h:dY 8 d=true)(k:K (.val (.bl false)))(ho:o=some (.str (shw d)))(hp:p=some (.str (shw d))):Wg2 gNe o p K:=⟨_,_,_,ho,hp,GD h,k⟩
end Dm
namespace P
open Dm
noncomputable def jR:FN:=
  (nIf (tV (e2 gNe (eV 4) (eV 5))) (Ab (wB (eV 4) (e_ [(eV 3),(eV 5)]))
  (wB (eV 5) (e_ [(eV 3),(eV 4)]))) nNx)
noncomputable def GF:List Dat->Option RV:=fn 2 4
  (aq (mX 2 (iR1 (eV 0)) 1 (bN 6) (wC (iS (eV 1)) (bT [3,4,5])
  jR))
  (sR (eV 2)))
noncomputable def CZ:List Dat->Option RV:=fn 2 0
  (sR (aM 0 1 (bN 2) dF (aM 2 1 (bN 3) (tV (e2 gNe (k9 (eV 1) (e2 gIx (eV 3) (eC (.int 0)))) (e2 gIx (eV 3) (eC (.int 1))))) (eV 3))))
noncomputable def C0:List Dat->Option RV:=fn 2 0
  (sR (aM 0 1 (bN 2) dF (aM 2 1 (bN 3) (tV (e2 gEq (k9 (eV 1) (e2 gIx (eV 3) (eC (.int 0)))) (e2 gIx (eV 3) (eC (.int 1))))) (eV 3))))
noncomputable def Ik:FS:=
  (sIf (tV (e2 mP (e2 gIx (eV 5) (eC (.int 1))) (eV 2))) (aq (gZ 2 (e2 gIx (eV 5) (eC (.int 1))) (e2 bE (e2 gDx (eV 2) (eV 4)) (cB [(eV 5)])))
  (qR 3 (e2 gIx (eV 5) (eC (.int 1))))) sNx)
noncomputable def Il:FS:=
  (aq (sA 4 (fH 3 (eC (.int 0))))
  (ff (iS (e2 gIx (eV 0) (eV 4))) (bN 5)
  Ik))
noncomputable def ux:List Dat->Option RV:=fn 2 4
  (aq (sA 2 (eD1 (eV 1) (cB [])))
  (aq (sA 3 (cB [(eV 1)]))
  (aq (whD (tTr (eV 3))
  Il 100)
  (sR (eV 2)))))
noncomputable def Im:FS:=
  (sIf (tV (e2 wk (eV 2) (eV 0))) (sE (mY 0 (eV 2))) (gZ 0 (eV 2) (eV 3)))
noncomputable def C1:List Dat->Option (RV×Dat):=fnM 2 2
  (ff (iS (eV 1)) (bT [2,3])
  Im)
noncomputable def Io:FS:=
  (sE (mY 5 (eV 9)))
noncomputable def Ip:FS:=
  (aq (sA 8 (dH (iS (e2 gDx (eF ux [(eFd C0 [(eV 0),(eV 5)]),(eV 2)]) (eV 3))) 1 (bN 10) dF (e2 gIx (eV 10) (eC (.int 0)))))
  (aq (ff (iS (eV 8)) (bN 9)
  Io)
  (qR 6 (eV 8))))
noncomputable def Au:List Dat->Option RV:=fn 5 5
  (aq (sA 5 (eB tP [(eV 1)]))
  (aq (sA 6 (cB []))
  (aq (ff (iR1 (eV 4)) (bN 7)
  Ip)
  (sR (eV 6)))))
noncomputable def Iq:FS:=
  (aq (sA 9 (eF ux [(eFd CZ [(eV 5),(eV 6)]),(eV 2)]))
  (sIf (tV (e2 wk (eV 3) (eV 9))) (aq (sE (eFm C1 6 [(e2 gDx (eV 9) (eV 3))]))
  (sA 8 (e2 bE (eV 8) (eC (.int 1))))) (sA 7 (eB f_ [(eB kg [(eV 9)])]))))
noncomputable def C2:List Dat->Option RV:=fn 5 5
  (aq (sA 5 (eF GF [(eV 0),(eV 1)]))
  (aq (sA 6 eDn)
  (aq (sA 7 (eC .non))
  (aq (sA 8 (eC (.int 0)))
  (aq (whD (l9 (tV (e2 gLt (eV 8) (eV 4))) (tV (e2 rB (eV 7) (eC .non))))
  Iq 100)
  (sR (e_ [(eFd Au [(eV 5),(eV 6),(eV 2),(eV 3),(eV 8)]),(eV 7)])))))))
noncomputable def GG:List Dat->Option RV:=fn 1 0
  (sR (dX (e1 (j6 isI) (eV 0)) (vZ (e1 (j6 isB) (eV 0)))))
noncomputable def Av:List Dat->Option RV:=fn 3 0
  (sR (dX (eF GG [(eV 0)]) (eN gLe gLe (eV 1) (eV 0) (eV 2))))
noncomputable def uy:List Dat->Option RV:=fn 2 0
  (sR (eF Av [(eV 1),(eC (.int 0)),(e2 f7 (eV 0) (eC (.int 1)))]))
noncomputable def yT:List Dat->Option RV:=fn 1 0
  (sR (eB pC [(dH (iR2 (eC (.int 1)) (eB cE [(eV 0)])) 1 (bN 1) dF (e2 gLt (e2 gIx (eV 0) (e2 f7 (eV 1) (eC (.int 1)))) (e2 gIx (eV 0) (eV 1))))]))
noncomputable def uz:List Dat->Option RV:=fn 3 0
  (sR (dX (eF uy [(eV 0),(eV 1)]) (dX (eF uy [(eV 0),(eV 2)]) (e2 gNe (eV 1) (eV 2)))))
noncomputable def uA:List Dat->Option RV:=fn 2 0
  (sR (dX (e1 (j6 isT) (eV 1)) (dX (eB pC [(aM 1 1 (bN 2) dF (eF uy [(eV 0),(eV 2)]))]) (eF yT [(eV 1)]))))
noncomputable def yU:List Dat->Option RV:=fn 3 0
  (sIf (eZ (tV (eF uz [(eV 0),(eV 1),(eV 2)]))) (fun _=>none) sNx)
noncomputable def yV:List Dat->Option RV:=fn 2 0
  (sR (aM 0 3 (bT [2,3,4]) (tV (e2 gNe (e2 gIn (eV 3) (eV 1)) (e2 gIn (eV 4) (eV 1)))) (eV 2)))
noncomputable def C3:FS:=
  (sIf (tV (e2 gNe (eV 6) (eV 7))) (gZ 4 (eV 5) (e_ [(eV 6),(eV 7)])) sNx)
noncomputable def C4:FS:=
  (aq (sIf (tOr (tV (e2 wk (eV 5) (eV 9))) (tOr (tV (e2 mP (eV 5) (eV 4))) (tV (e2 cW (eV 8) (e2 gDx (eV 4) (eV 5)))))) (sR (eC (.bl false))) sNx)
  (aq (gZ 9 (eV 5) (eC (.bl true)))
  (sA 8 (e2 f7 (eB mR [(e2 gDx (eV 4) (eV 5))]) (eV 8)))))
noncomputable def yW:List Dat->Option RV:=fn 4 6
  (aq (sA 4 eDn)
  (aq (ff (iS (eV 0)) (bT [5,6,7])
  C3)
  (aq (sA 8 (eV 1))
  (aq (sA 9 eDn)
  (aq (ff (iS (eV 3)) (bN 5)
  C4)
  (sR (e2 gEq (eV 8) (eV 2))))))))
noncomputable def C6:FS:=
  (wz 4 (eV 5))
noncomputable def yX:List Dat->Option RV:=fn 4 2
  (aq (sA 4 (cB []))
  (aq (ff (iS (eV 3)) (bN 5)
  C6)
  (sR (dX (e2 gEq (e1 d8 (eV 4)) (eB cE [(eV 4)])) (eB pC [(aM 3 1 (bN 6) dF (eF yW [(eV 0),(eV 1),(eV 2),(eV 6)]))])))))
noncomputable def uB:List Dat->Option RV:=fn 2 0
  (sR (aM 0 1 (bN 2) (tV (e2 gGe (e2 gIx (eV 2) (eC (.int 0))) (eV 1))) (eV 2)))
noncomputable def uC:List Dat->Option RV:=fn 6 1
  (aq (sE (eF yU [(eV 0),(eV 2),(eV 3)]))
  (aq (sA 6 (eF C2 [(eV 0),(eF uB [(eV 1),(eV 5)]),(eV 2),(eV 3),(eV 4)]))
  (sR (e_ [(eB cE [(e2 gIx (eV 6) (eC (.int 0)))]),(e2 gIx (eV 6) (eC (.int 0))),(e2 gIx (eV 6) (eC (.int 1)))]))))
noncomputable def yY:List Dat->Option RV:=fn 6 0
  (sR (dX (eF uA [(eV 0),(eV 5)]) (dX (e2 gIn (eV 2) (eV 5)) (dX (e2 cW (eV 3) (eV 5)) (e2 gEq (eB cE [(eF yV [(eV 1),(eV 5)])]) (eV 4))))))
noncomputable def nE:List Dat->Option RV:=fn 7 2
  (aq (sA 7 (eF uB [(eV 1),(eV 5)]))
  (aq (sA 8 (e2 gIx (eV 6) (eC (.int 0))))
  (aq (sIf (tOr (eZ (tV (eF uz [(eV 0),(eV 2),(eV 3)]))) (tV (e2 gGt (eV 8) (eV 4)))) (sR (eC (.bl false))) sNx)
  (aq (sIf (tOr (tV (e2 gNe (eB cE [(e2 gIx (eV 6) (eC (.int 1)))]) (eV 8))) (eZ (tV (eF yX [(eV 7),(eV 2),(eV 3),(e2 gIx (eV 6) (eC (.int 1)))])))) (sR (eC (.bl false))) sNx)
  (aq (sIf (tV (e2 gEq (eV 8) (eV 4))) (sR (e2 rB (e2 gIx (eV 6) (eC (.int 2))) (eC .non))) sNx)
  (sR (eF yY [(eV 0),(eV 7),(eV 2),(eV 3),(eV 8),(e2 gIx (eV 6) (eC (.int 2)))])))))))
noncomputable def C7:FS:=
  (aq (sA 3 (e2 gT (e2 bE (e2 bE (e2 ic (eV 3) (eC (.int 48271))) (e2 ic (eC (.int 7919)) (eV 5))) (eC (.int 3))) (eC (.int 2147483629))))
  (aq (sA 3 (e2 gT (e2 ic (eV 3) (eV 3)) (eC (.int 2147483587))))
  (sA 4 (e2 bE (e2 ic (eV 4) (eC (.int 2147483587))) (e2 gT (e2 bE (e2 ic (eV 3) (eC (.int 69621))) (eV 1)) (eC (.int 2147483587)))))))
noncomputable def lA:List Dat->Option RV:=fn 2 4
  (aq (sA 2 (eC (.int 0)))
  (aq (sIf (tV (e2 gLt (eV 1) (eB cE [(eV 0)]))) (sA 2 (e2 gIx (eV 0) (eV 1))) sNx)
  (aq (sIf (tV (e2 gGe (eV 2) (e2 jx (eC (.int 10)) (eC (.int 18))))) (sR (cB [(e2 gT (eV 2) (e2 jM (e2 jM (e2 jM (e2 jM (e2 jx (eC (.int 10)) (eC (.int 60))) (e2 jx (eC (.int 10)) (eC (.int 60)))) (e2 jx (eC (.int 10)) (eC (.int 60)))) (e2 jx (eC (.int 10)) (eC (.int 60)))) (e2 jx (eC (.int 10)) (eC (.int 60)))))])) sNx)
  (aq (sA 3 (e2 gT (e2 bE (e2 bE (e2 bE (eV 2) (e2 ic (e2 ic (eC (.int 104729)) (eV 1)) (eV 1))) (e2 ic (eC (.int 7)) (eV 1))) (eC (.int 11))) (eC (.int 2147483647))))
  (aq (sA 4 (eC (.int 0)))
  (aq (ff (iR1 (eC (.int 40))) (bN 5)
  C7)
  (sR (cB [(eV 4)]))))))))
noncomputable def aX:List Dat->Option (RV×Dat):=fnM 2 1
  (aq (sA 2 (e2 gT (e2 gIx (eV 0) (eC (.int 0))) (eV 1)))
  (aq (v5 0 (eC (.int 0)) (e2 zU (e2 gIx (eV 0) (eC (.int 0))) (eV 1)))
  (sR (eV 2))))
noncomputable def uD:List Dat->Option (RV×Dat):=fnM 1 0
  (sR (e2 gIx (cB [(eC (.int 1)),(eC (.int 2)),(eC (.int 3)),(eC (.int 4)),(eC (.int 5)),(eC (.int 6)),(eC (.int 4)),(eC (.int 10))]) (eFm aX 0 [(eC (.int 8))])))
noncomputable def C8:FS:=
  (aq (sA 11 (eFm aX 0 [(eV 1)]))
  (aq (sA 12 (eFm aX 0 [(eV 1)]))
  (aq (sIf (tV (e2 gEq (eV 7) (eC (.int 1)))) (sA 12 (e2 gT (e2 bE (eV 11) (eC (.int 1))) (eV 1))) sNx)
  (aq (sIf (tV (e2 gEq (eV 7) (eC (.int 2)))) (sA 12 (e2 gT (e2 gT (e2 bE (e2 bE (eV 11) (e2 gT (eV 12) (eC (.int 2)))) (eC (.int 1))) (eB mE [(eV 1),(eC (.int 3))])) (eV 1))) sNx)
  (aq (qR 9 (e_ [(eV 8),(eB mE [(eV 11),(eV 12)]),(eB k6 [(eV 11),(eV 12)])]))
  (sA 8 (e2 bE (e2 bE (eV 8) (eC (.int 1))) (e2 ic (eFm aX 0 [(eV 5)]) (eV 6)))))))))
noncomputable def qu:List Dat->Option (RV×Dat):=fnM 3 10
  (aq (sA 3 (eFm aX 0 [(e2 bE (eV 2) (eC (.int 1)))]))
  (aq (sA 4 (eFm aX 0 [(eC (.int 4))]))
  (aq (sA 5 (e2 gIx (cB [(eC (.int 1)),(eC (.int 3)),(e2 jx (eC (.int 10)) (eC (.int 6))),(eC (.int 1000))]) (eV 4)))
  (aq (sA 6 (e2 gIx (cB [(eC (.int 1)),(e2 jx (eC (.int 10)) (eC (.int 25)))]) (eB Bp [(e2 gEq (eV 4) (eC (.int 3)))])))
  (aq (sA 7 (eFm aX 0 [(eC (.int 4))]))
  (aq (sA 8 (e2 ic (eFm aX 0 [(eV 5)]) (eV 6)))
  (aq (sA 9 (cB []))
  (aq (ff (iR1 (eV 3)) (bN 10)
  C8)
  (sR (eV 9))))))))))
noncomputable def uE:List Dat->Option (RV×Dat):=fnM 2 1
  (aq (sIf (tV (e2 gEq (eV 1) (cB []))) (sR (eFm aX 0 [(eC (.int 3))])) sNx)
  (aq (sA 2 (e2 gIx (e2 gIx (eV 1) (eFm aX 0 [(eB cE [(eV 1)])])) (eC (.int 0))))
  (sR (e2 gIx (cB [(eC (.int 0)),(eV 2),(e2 bE (eV 2) (eC (.int 1))),(eB k6 [(eC (.int 0)),(e2 f7 (eV 2) (eC (.int 1)))]),(e2 bE (e2 gIx (e2 gIx (eV 1) (e1 FD (eC (.int 1)))) (eC (.int 0))) (eC (.int 1))),(eV 2)]) (eFm aX 0 [(eC (.int 6))])))))
noncomputable def uF:List Dat->Option RV:=fn 2 0
  (sR (aM 0 1 (bN 2) (tV (e2 gGe (e2 gIx (eV 2) (eC (.int 0))) (eV 1))) (eV 2)))
noncomputable def C9:List Dat->Option RV:=fn 1 0
  (sR (dX (e1 (j6 isI) (eV 0)) (vZ (e1 (j6 isB) (eV 0)))))
noncomputable def nF:List Dat->Option RV:=fn 1 0
  (sR (eB pC [(aM 0 1 (bN 1) dF (eF C9 [(eV 1)]))]))
noncomputable def yZ:List Dat->Option RV:=fn 2 0
  (sR (aM 0 1 (bN 2) (tV (e2 gNe (e2 gIn (e2 gIx (eV 2) (eC (.int 1))) (eV 1)) (e2 gIn (e2 gIx (eV 2) (eC (.int 2))) (eV 1)))) (e2 gIx (eV 2) (eC (.int 0)))))
noncomputable def C_:FS:=
  (gZ 4 (e2 gIx (eV 5) (eC (.int 0))) (e_ [(e2 gIx (eV 5) (eC (.int 1))),(e2 gIx (eV 5) (eC (.int 2)))]))
noncomputable def Dc:FS:=
  (aq (sIf (tOr (tV (e2 mP (eV 7) (eV 4))) (tOr (tV (e2 cW (eV 6) (e2 gDx (eV 4) (eV 7)))) (tV (e2 gEq (e2 gIx (e2 gDx (eV 4) (eV 7)) (eC (.int 0))) (e2 gIx (e2 gDx (eV 4) (eV 7)) (eC (.int 1))))))) (sR (eC (.bl false))) sNx)
  (sA 6 (e2 f7 (eB mR [(e2 gDx (eV 4) (eV 7))]) (eV 6))))
noncomputable def y9:List Dat->Option RV:=fn 4 4
  (aq (sIf (tOr (eZ (tV (e1 (j6 isL) (eV 3)))) (tOr (eZ (tV (eF nF [(eV 3)]))) (tV (e2 gNe (e1 d8 (eV 3)) (eB cE [(eV 3)]))))) (sR (eC (.bl false))) sNx)
  (aq (sA 4 eDn)
  (aq (ff (iS (eV 0)) (bN 5)
  C_)
  (aq (sA 6 (eV 1))
  (aq (ff (iS (eV 3)) (bN 7)
  Dc)
  (sR (e2 gEq (eV 6) (eV 2))))))))
noncomputable def Dd:FS:=
  (aq (sIf (eZ (tV (eF y9 [(eV 0),(eV 1),(eV 2),(eV 5)]))) (sR (eC (.bl false))) sNx)
  (wz 4 (eV 5)))
noncomputable def y_:List Dat->Option RV:=fn 4 2
  (aq (sIf (eZ (tV (e1 (j6 isL) (eV 3)))) (sR (eC (.bl false))) sNx)
  (aq (sA 4 (cB []))
  (aq (ff (iS (eV 3)) (bN 5)
  Dd)
  (sR (e2 gEq (e1 d8 (eV 4)) (eB cE [(eV 4)]))))))
noncomputable def za:List Dat->Option RV:=fn 4 0
  (aq (sIf (tOr (eZ (tV (e1 (j6 isT) (eV 1)))) (tOr (eZ (tV (eF nF [(eV 1)]))) (tV (e2 gNe (eB c_ [(eV 1)]) (e1 fy (eV 1)))))) (sR (eC (.bl false))) sNx)
  (sR (dX (eB pC [(aM 1 1 (bN 4) dF (eN gLe gLt (eC (.int 0)) (eV 4) (eV 0)))]) (dX (e2 gIn (eV 2) (eV 1)) (e2 cW (eV 3) (eV 1))))))
noncomputable def qv:List Dat->Option RV:=fn 6 3
  (aq (sU [6,7,8] (eV 5))
  (aq (sIf (tOr (tV (e2 gNe (eV 6) (eB cE [(eV 7)]))) (tOr (tV (e2 gGt (eV 6) (eV 4))) (eZ (tV (eF y_ [(eV 1),(eV 2),(eV 3),(eV 7)]))))) (sR (eC (.bl false))) sNx)
  (aq (sIf (tV (e2 rB (eV 8) (eC .non))) (sR (e2 gEq (eV 6) (eV 4))) sNx)
  (sR (dX (e2 gLt (eV 6) (eV 4)) (dX (eF za [(eV 0),(eV 8),(eV 2),(eV 3)]) (e2 gEq (eB cE [(eF yZ [(eV 1),(eV 8)])]) (eV 6))))))))
noncomputable def De:FS:=
  (sA 5 (e2 f7 (eB p_ [(aM 1 1 (bN 10) (tV (e2 gEq (e2 gIx (eV 10) (eC (.int 0))) (eV 6))) (e2 bE (e2 gIx (eV 10) (eC (.int 1))) (e2 gIx (eV 10) (eC (.int 2)))))]) (eV 5)))
noncomputable def uG:List Dat->Option (RV×Dat):=fnM 4 6
  (aq (sA 4 (eFm aX 0 [(e2 bE (eB cE [(eV 2)]) (eC (.int 1)))]))
  (aq (sA 5 (eV 3))
  (aq (ff (iS (eSl (eV 2) none (some (eV 4)))) (bN 6)
  De)
  (aq (sA 7 (aM 1 1 (bN 10) (l9 (tV (e2 gIn (eV 5) (tO (eV 10) (some (eC (.int 1))) none))) (tV (e2 gNe (e2 gIx (eV 10) (eC (.int 1))) (e2 gIx (eV 10) (eC (.int 2)))))) (eV 10)))
  (aq (sIf (tV (e2 gEq (eV 7) (cB []))) (sR (eB c_ [(eV 2)])) sNx)
  (aq (sA 8 (e2 gIx (eV 7) (eFm aX 0 [(eB cE [(eV 7)])])))
  (aq (sA 9 (aM 7 1 (bN 10) (tV (e2 gEq (tO (eV 10) (some (eC (.int 1))) none) (tO (eV 8) (some (eC (.int 1))) none))) (eV 10)))
  (sR (e2 bE (e2 bE (eSl (eV 2) none (some (eV 4))) (cB [(e2 gIx (eV 8) (eC (.int 0))),(e2 gIx (e2 gIx (eV 9) (eFm aX 0 [(eB cE [(eV 9)])])) (eC (.int 0)))])) (eSl (eV 2) (some (eV 4)) none))))))))))
noncomputable def uH:List Dat->Option (RV×Dat):=fnM 4 5
  (ql 4 (qg (iS (eV 2)) 1 (bN 9) (pO (eB c_ [(eV 9)])))
  (lN (cLk 4 5 (eFm aX 0 [(eC (.int 7))]))
  (lN (qh 4 6 (pO (e2 bE (aM 1 1 (bN 9) dF (e2 gIx (eV 9) (eC (.int 0)))) (cB [(eC (.int 5))]))))
  (lN (cLk 4 7 (e2 gIx (eV 6) (eFm aX 0 [(eB cE [(eV 6)])])))
  (pD 4 (tOr (tV (e2 gEq (eV 5) (eC (.int 0)))) (tV (e2 gEq (eV 4) (cB [])))) (pH 4 (sR (e2 bE (eV 4) (cB [(cB [(eV 7)])]))))
  (lN (cLk 4 8 (eFm aX 0 [(eB cE [(eV 4)])]))
  (rP 4 (tV (e2 gEq (eV 5) (eC (.int 1)))) (pH 4 (sE (fH 4 (eV 8))))
  (rP 4 (tV (e2 gEq (eV 5) (eC (.int 2)))) (pH 4 (qR 4 (eB c_ [(e2 gIx (eV 4) (eV 8))])))
  (rP 4 (tV (e2 gEq (eV 5) (eC (.int 3)))) (lN (Af 4 (eV 8) (eV 7))
  (pH 4 sNx))
  (rP 4 (tV (e2 gEq (eV 5) (eC (.int 4)))) (lN (qo 4 (eV 8) (eFm aX 0 [(eB cE [(e2 gIx (eV 4) (eV 8))])]) (eV 7))
  (pH 4 sNx))
  (pH 4 (v5 4 (eV 8) (eFm uG 0 [(eV 1),(e2 gIx (eV 4) (eV 8)),(eV 3)])))
  sNx)
  sNx)
  sNx)
  (sR (eV 4)))))))))
noncomputable def uI:List Dat->Option (RV×Dat):=fnM 3 2
  (aq (sA 3 (e2 f7 (eFm aX 0 [(e2 bE (eV 1) (eC (.int 2)))]) (eC (.int 1))))
  (aq (sIf (tV (e2 rB (eV 2) (eC .non))) (sR (e2 gIx (cB [(e_ [(eV 3)]),(e_ [])]) (eFm aX 0 [(eC (.int 2))]))) sNx)
  (aq (sA 4 (eFm aX 0 [(eC (.int 5))]))
  (aq (sIf (tV (e2 gEq (eV 4) (eC (.int 0)))) (sR (eC .non)) sNx)
  (aq (sIf (tV (e2 gEq (eV 4) (eC (.int 1)))) (sR (eB f_ [(dH (iR1 (eV 1)) 1 (bN 5) (tV (e2 cW (eV 5) (eV 2))) (eV 5))])) sNx)
  (aq (sIf (tV (e2 gEq (eV 4) (eC (.int 2)))) (sR (eB f_ [(eB fB [(e2 qk (eV 2) (e_ [(eV 3)]))])])) sNx)
  (aq (sIf (tV (e2 gEq (eV 4) (eC (.int 3)))) (sR (eB f_ [(aM 2 1 (bN 5) (tV (e2 gNe (eV 5) (eV 3))) (eV 5))])) sNx)
  (sR (e1 yO (eV 2))))))))))
noncomputable def uJ:List Dat->Option (RV×Dat):=fnM 5 5
  (aq (sU [5,6,7] (eV 3))
  (aq (sA 8 (eFm aX 0 [(eC (.int 4))]))
  (aq (sIf (tV (e2 gEq (eV 8) (eC (.int 0)))) (sR (e_ [(e2 bE (eV 5) (e2 gIx (cB [(eC (.int 1)),(e2 f7 (eC (.int 0)) (eC (.int 1)))]) (eFm aX 0 [(eC (.int 2))]))),(aM 6 1 (bN 10) dF (eB c_ [(eV 10)])),(eV 7)])) sNx)
  (aq (sIf (tV (e2 gEq (eV 8) (eC (.int 1)))) (sR (e_ [(eV 5),(aM 6 1 (bN 10) dF (eB c_ [(eV 10)])),(eFm uI 0 [(eV 1),(eV 7)])])) sNx)
  (aq (sA 9 (eFm uH 0 [(eV 2),(eV 6),(eV 4)]))
  (aq (sIf (tV (e2 gEq (eV 8) (eC (.int 2)))) (sR (e_ [(eB cE [(eV 9)]),(eV 9),(eV 7)])) sNx)
  (sR (e_ [(eV 5),(eV 9),(eV 7)]))))))))
noncomputable def wY:FS:=
  (aq (sA 14 (eFm uJ 2 [(eV 3),(eV 5),(eV 10),(eV 6)]))
  (aq (sA 15 (eB lP [(eV 14)]))
  (aq (sA 12 (eB c_ [(eV 5)]))
  (aq (sA 16 (eFk 5 nE [(eV 3),(eV 12),(eV 6),(eV 7),(eV 8),(eV 9),(eV 14)]))
  (aq (sA 17 (eF qv [(eV 3),(eF uF [(eV 5),(eV 9)]),(eV 6),(eV 7),(eV 8),(eV 14)]))
  (aq (sIf (tOr (eZ (tV (e1 (j6 isB) (eV 16)))) (tV (e2 gNe (eV 16) (eV 17)))) (sR (eC (.bl false))) sNx)
  (sIf (tOr (tV (e2 gNe (eB lP [(eV 14)]) (eV 15))) (tV (e2 gNe (eV 12) (eV 5)))) (sR (eC (.bl false))) sNx)))))))
noncomputable def wZ:FS:=
  (aq (sA 2 (eF lA [(eV 0),(eV 1)]))
  (aq (sA 3 (eB k6 [(eC (.int 2)),(eFm uD 2 [])]))
  (aq (sA 4 (eC (.int 12)))
  (aq (sIf (tV (e2 gEq (eFm aX 2 [(eC (.int 3))]) (eC (.int 0)))) (aq (sA 3 (e2 bE (eC (.int 2)) (eFm aX 2 [(eC (.int 2))])))
  (sA 4 (eC (.int 30)))) sNx)
  (aq (sA 5 (eFn qu (eF lA [(eV 0),(e2 bE (eV 1) (eC (.int 1)))]) [(eV 3),(eV 4)]))
  (aq (sA 2 (eF lA [(eV 0),(e2 bE (eV 1) (eC (.int 2)))]))
  (aq (sA 6 (eFm aX 2 [(eV 3)]))
  (aq (sA 7 (e2 gT (e2 bE (e2 bE (eV 6) (eC (.int 1))) (eFm aX 2 [(e2 f7 (eV 3) (eC (.int 1)))])) (eV 3)))
  (aq (sA 8 (e2 gIx (cB [(eC (.int 1)),(eC (.int 2)),(eC (.int 3)),(eC (.int 4)),(eC (.int 7)),(eC (.int 60))]) (eFm aX 2 [(eC (.int 6))])))
  (aq (sA 9 (eFm uE 2 [(eV 5)]))
  (aq (sA 10 (eF uC [(eV 3),(eB c_ [(eV 5)]),(eV 6),(eV 7),(eV 8),(eV 9)]))
  (aq (sA 11 (eB lP [(eV 10)]))
  (aq (sA 12 (eB c_ [(eV 5)]))
  (aq (sIf (tOr (tV (e2 jy (eFk 5 nE [(eV 3),(eV 12),(eV 6),(eV 7),(eV 8),(eV 9),(eV 10)]) (eC (.bl true)))) (tOr (tV (e2 gNe (eB lP [(eV 10)]) (eV 11))) (tV (e2 gNe (eV 12) (eV 5))))) (sR (eC (.bl false))) sNx)
  (aq (sA 2 (eF lA [(eV 0),(e2 bE (eV 1) (eC (.int 3)))]))
  (aq (ff (iR1 (eC (.int 6))) (bN 13)
  wY)
  (aq (sA 18 (eF qv [(eV 3),(eF uF [(eV 5),(eV 9)]),(eV 7),(eV 6),(eV 8),(eV 10)]))
  (aq (sA 12 (eB c_ [(eV 5)]))
  (sIf (tOr (tV (e2 gNe (eFk 5 nE [(eV 3),(eV 12),(eV 7),(eV 6),(eV 8),(eV 9),(eV 10)]) (eV 18))) (tOr (tV (e2 gNe (eB lP [(eV 10)]) (eV 11))) (tV (e2 gNe (eV 12) (eV 5))))) (sR (eC (.bl false))) sNx)))))))))))))))))))
noncomputable def nG:List Dat->Option RV:=fn 1 18
  (aq (ff (iRs (eC (.int 0)) (eB k6 [(eC (.int 1)),(eB mE [(eB cE [(eV 0)]),(eC (.int 12))])]) (eC (.int 4))) (bN 1)
  wZ)
  (sR (eC (.bl true))))
end P
local macro_rules|`(tactic|trivial)=>`(tactic|first | (dsimp only[List.set];first | done | rfl) | rfl)
local macro_rules | `(tactic| array_get_dec)=>`(tactic| first | with_reducible refine Dm.Ut ?_ | with_reducible refine Dm.S_ ?_ | ((with_reducible apply Dm.Q_);(focus rfl)) | ((with_reducible apply Dm.UD);(focus rfl)) | with_reducible refine Dm.T_ ?_ | (refine Dm.Uw ?_ (by trivial)) | (refine Dm.UO ?_ (by trivial)) | (refine Dm.WA.slot ?_ rfl (by trivial)) | with_reducible refine Dm.Uy ?_ (by decide) | with_reducible refine Dm.UG ?_ | with_reducible refine Dm.Ux ?_ | with_reducible refine Dm.U4 ?_ | with_reducible refine Dm.VW ?_ | with_reducible refine Dm.UT ?_ | with_reducible refine Dm.V5 ?_ | (refine Dm.Uu ?_) | (refine Dm.cC.mk ?_) | with_reducible refine Dm.UH ?_ | with_reducible refine Dm.UA ?_ | with_reducible refine Dm.R_ ?_ | with_reducible refine Dm.m_ ?_ | with_reducible refine Dm.UC ?_ | with_reducible refine Dm.UK ?_ | with_reducible refine Dm.Va ?_ | with_reducible refine Dm.U0 ?_ | with_reducible refine Dm.U6 ?_ | with_reducible refine Dm.We.If ?_ | with_reducible refine Dm.UW ?_ | with_reducible refine Dm.We.Or ?_ | with_reducible refine Dm.Wh ?_ | with_reducible refine Dm.Ww ?_ | with_reducible refine Dm.VF ?_ | with_reducible refine Dm.Wp.none ?_ | with_reducible refine Dm.Wp.some ?_ | (refine Dm.Wsl.A (kM:=Dm.Dat.int) ?_ rfl) | (refine Dm.Wsl.mk ?_ rfl) | (refine Dm.UI ?_ rfl (by trivial) (by exact Nat.le_of_ble_eq_true rfl)) | (refine Dm.UE ?_) | (refine Dm.Ve ?_) | (refine Dm.V0 ?_ rfl (by trivial)) | with_reducible refine Dm.V9 ?_ | with_reducible refine Dm.WO ?_ | with_reducible refine Dm.VN ?_ | (refine Dm.Qp ?_ rfl) | (refine Dm.wU rfl ?_) | (refine Dm.lY ?_ rfl (by trivial) ?_) | (refine Dm.Vt ?_ rfl) | (refine Dm.rT ?_ rfl (by trivial) ?_) | with_reducible refine Dm.Wq ?_ | (refine Dm.P4 ?_ rfl (by trivial)) | with_reducible refine Dm.Uz ?_ | (refine Dm.Vs ?_) | (refine Dm.UY ?_) | (refine Dm.Vh ?_ rfl) | with_reducible refine Dm.UB ?_ | with_reducible refine Dm.Ws.bk ?_ | with_reducible refine Dm.Ws.ct ?_ | with_reducible refine Dm.VL ?_ | with_reducible refine Dm.U3 ?_ | with_reducible refine Dm.Vr ?_ | with_reducible refine Dm.Wi.L ?_ | with_reducible refine Dm.Vw ?_ | with_reducible refine Dm.Wu ?_ | (refine Dm.d_ ?_) | (refine Dm.OU ?_) | (refine Dm.UL ?_ rfl rfl) | (refine Dm.Vi ?_ rfl rfl) | (refine Dm.Vu ?_ rfl rfl ?_) | (refine Dm.Wg2.Qj ?_ rfl rfl ?_) | (refine Dm.Wg2.eqb ?_ rfl rfl) | (refine Dm.Vq ?_ rfl rfl) | (refine Dm.V_ ?_ rfl rfl) | (refine Dm.Wg2.isb ?_ rfl rfl) | (refine Dm.VI ?_ rfl rfl) | (refine Dm.Wg2.le ?_ rfl rfl) | (refine Dm.VT ?_ rfl rfl) | (refine Dm.VX ?_ rfl rfl) | (refine Dm.UR ?_ rfl rfl) | (refine Dm.VE ?_ rfl rfl ?_) | (refine Dm.Wg ?_ rfl rfl ?_) | (refine Dm.VU ?_ rfl rfl ?_) | (refine Dm.U5 ?_ rfl rfl) | (refine Dm.Vy ?_ rfl rfl (by first | exact Or.inl (by decide) | exact Or.inr (by decide))) | (refine Dm.Vy ?_ rfl rfl ?_) | (refine Dm.VZ ?_ rfl rfl (by decide)) | (refine Dm.VZ ?_ rfl rfl ?_) | (refine Dm.U8 ?_ rfl rfl (by decide)) | (refine Dm.U8 ?_ rfl rfl ?_) | (refine Dm.VJ ?_ rfl rfl) | (refine Dm.VS ?_ rfl rfl) | (refine Dm.VY ?_ rfl rfl) | (refine Dm.Wa ?_ rfl rfl) | (refine Dm.Uv ?_ rfl rfl rfl) | (refine Dm.U7 (kM:=Dm.Dat.int) ?_ rfl) | (refine Dm.WB.len ?_ rfl) | (refine Dm.WB.Qq ?_ rfl) | (refine Dm.Vz ?_ rfl) | (refine Dm.Vo ?_ rfl) | (refine Dm.U1 ?_ rfl) | (refine Dm.Wd ?_ rfl) | (refine Dm.V2 ?_ rfl ?_) | (refine Dm.Wg1.Qs (kM:=Dm.Dat.int) ?_ rfl) | (refine Dm.UX ?_ rfl rfl))
namespace P
open Dm Fl
section
variable{r:List Tie}{ws:List (List Int)}{n:Int}{h:List (Int×Int)}{Q:Val->Env->Prop}{R:RV->Env->Prop}{o:Option (List Int)}{B C:Env->Prop}{a b:Int}{N:Env->Prop}{P:Int->Prop}{s:Step}{j:Nat}{ρ:Env}{α:Type}{K:RV->Prop}{d:Dat}{w:List Step}{ns:List Int}{S:List Int}{i:Int}{p:Int}{x:Int}{gs:FS}{e:FE}{k:Int}{m:Int}{y:Int}
noncomputable def bI(t:Tie):Dat:=.tup [.int t.m,.int t.a,.int t.b]
noncomputable def aE(r:List Tie):Dat:=.lst (r.map bI)
noncomputable def bX(s:Step):Dat:=.tup [.int s.1,.int s.2]
noncomputable def cK(w:List Step):Dat:=.lst (w.map bX)
def Pl(n:Nat)(r:List Tie):Prop:=∀t∈r,0<=t.a/\t.a<n/\0<=t.b/\t.b<n
noncomputable def cL(x:Int)(t:Tie):Option Step:=if t.a=t.b then none else if t.a=x then some (t.m,t.b) else if t.b=x then some (t.m,t.a) else none
noncomputable def aG(r:List Tie)(x:Int):List Step:=r.filterMap (cL x)
noncomputable def b_(n:Nat)(r:List Tie):List (List Dat):=(QG n).map fun i:Nat=>(aG r i).map bX
theorem zb{i e:FE}{ρ ρ1 ρ2 ρ3:Env}{rows:List (List Dat)}{m:Nat}{row:List Dat}{x:Val}(h1:i ρ=some (.val (.int k),ρ1))(h2:ixN rows.length k=some m)(h3:rows[m]?=some row)(h4:e ρ1=some (x,ρ2))(h5:tk ρ2 x=some (d,ρ3))(h6:row.length<SZ) :
  wB i e ρ rows=some (ρ3,rows.set m (row++[d])):=by
 unfold wB;rw[h1];dsimp only;rw[h2];dsimp only;rw[h3];dsimp only;rw[h4];dsimp only;rw[h5];dsimp only;rw[if_pos h6]
theorem jS(r:List Tie)(t:Tie)(x:Int):aG (r++[t]) x=aG r x++(cL x t).toList:=by
 unfold aG;rw[List.filterMap_append];cases h:cL x t with
 |none=>simp[h]
 |some s=>simp[h]
theorem Df{n:Nat}(h0:0<=k)(h1:k<n):ixN n k=some k.toNat:=by unfold ixN;rw[if_pos h0,if_pos h1]
theorem gP(n:Nat)(r:List Tie)(i:Nat)(h:i<n):(b_ n r)[i]?=some ((aG r i).map bX):=by unfold b_;rw[QL,Sh h];rfl
theorem dB(n:Nat)(r:List Tie):(b_ n r).length=n:=by simp[b_]
theorem ee(r:List Tie)(x:Int):(aG r x).length<=r.length:=List.length_filterMap_le _ _
theorem w_(n:Nat)(r:List Tie)(t:Tie)(h:t.a≠t.b)(a0:0<=t.a)(a1:t.a<n)(b0:0<=t.b)(b1:t.b<n) :
  ((b_ n r).set t.a.toNat ((aG r t.a).map bX++[bX (t.m,t.b)])).set t.b.toNat ((aG r t.b).map bX++[bX (t.m,t.a)])=b_ n (r++[t]):=by
 apply R8;intro i;by_cases hi:i<n
 ·rw[gP _ _ _ hi,jS,QK];by_cases eb:t.b.toNat=i
  ·have e:(i:Int)=t.b:=by lia
   rw[<- eb,QZ (by rw[QU,dB];lia),eb,e];have:cL t.b t=some (t.m,t.a):=by unfold cL;rw[if_neg h,if_neg (fun z=>h z),if_pos rfl]
   rw[this];rfl
  ·rw[eg eb];by_cases ea:t.a.toNat=i
   ·have e:(i:Int)=t.a:=by lia
    rw[<- ea,QZ (by rw[dB];lia),ea,e];have:cL t.a t=some (t.m,t.b):=by unfold cL;rw[if_neg h,if_pos rfl]
    rw[this];rfl
   ·rw[eg ea,gP _ _ _ hi];have:cL i t=none:=by unfold cL;rw[if_neg h,if_neg (by lia),if_neg (by lia)]
    rw[this];simp
 ·rw[Q6 (by rw[QU,QU,dB];lia),Q6 (by rw[dB];lia)]
theorem xg(n:Nat)(r:List Tie)(t:Tie)(h:t.a=t.b):b_ n (r++[t])=b_ n r:=by
 unfold b_;apply Tf;intro i _;rw[jS];have:cL i t=none:=by unfold cL;rw[if_pos h]
 rw[this];simp
theorem Aw(n:Nat)(r:List Tie)(t:Tie)(hl:r.length<1000)(a0:0<=t.a)(a1:t.a<n)(b0:0<=t.b)(b1:t.b<n)(c0 c1 c2:Cell) :
  jR [c0,c1,c2,.sh (.int t.m),.sh (.int t.a),.sh (.int t.b)] (b_ n r)=some ([c0,c1,c2,.sh (.int t.m),.sh (.int t.a),.sh (.int t.b)],b_ n (r++[t])):=by
 have ht:tV (e2 gNe (eV 4) (eV 5)) [c0,c1,c2,.sh (.int t.m),.sh (.int t.a),.sh (.int t.b)]=some (!decide (t.a=t.b),[c0,c1,c2,.sh (.int t.m),.sh (.int t.a),.sh (.int t.b)]):=by unfold tV e2 eV;simp[pk,rV,RV.a_]
 unfold jR nIf;rw[ht];by_cases h:t.a=t.b
 ·rw[decide_eq_true h];rw[xg n r t h];rfl
 ·rw[decide_eq_false h];show Ab _ _ _ _=_;unfold Ab;have k1:=(ee r t.a)
  have k2:=(ee r t.b)
  have hz:SZ=100000:=rfl;have ea:((t.a.toNat:Nat):Int)=t.a:=by lia
  have eb:((t.b.toNat:Nat):Int)=t.b:=by lia
  rw[zb (k:=t.a) (m:=t.a.toNat) (row:=(aG r t.a).map bX) (d:=bX (t.m,t.b)) (ρ3:=[c0,c1,c2,.sh (.int t.m),.sh (.int t.a),.sh (.int t.b)]) rfl (by rw[dB];exact Df a0 a1) (by rw[gP _ _ _ (by lia),ea]) rfl rfl (by rw[gc];lia)];dsimp only;rw [zb (k:=t.b) (m:=t.b.toNat) (row:=(aG r t.b).map bX) (d:=bX (t.m,t.a)) (ρ3:=[c0,c1,c2,.sh (.int t.m),.sh (.int t.a),.sh (.int t.b)]) rfl (by rw [QU,dB];exact Df b0 b1)
   (by rw[eg (by lia),gP _ _ _ (by lia),eb]) rfl rfl (by rw[gc];lia)]
  rw[w_ n r t h a0 a1 b0 b1]
theorem nH(n:Nat)(c0 c1 c2:Cell):∀(q p:List Tie) (c3 c4 c5:Cell),Pl n q->p.length+q.length<=1000 ->
  ∃c3' c4' c5',lg (bT [3,4,5]) jR (q.map bI) [c0,c1,c2,c3,c4,c5] (b_ n p)=some ([c0,c1,c2,c3',c4',c5'],b_ n (p++q))
 |[],p,c3,c4,c5,_,_=>⟨c3,c4,c5,by rw[Rr];rfl⟩
 |t::q,p,c3,c4,c5,hp,hl=>by obtain⟨a0,a1,b0,b1⟩:=hp t gV;rw[QO]at hl;obtain⟨c3',c4',c5',e⟩:=nH n c0 c1 c2 q (p++[t]) (.sh (.int t.m)) (.sh (.int t.a)) (.sh (.int t.b)) (fun u hu=>hp u (Pa _ hu)) (by rw[Qv,RM];lia);refine⟨c3',c4',c5',?_⟩;rw[gp,lg];show (match jR [c0,c1,c2,.sh (.int t.m),.sh (.int t.a),.sh (.int t.b)] (b_ n p) with | none=>none | some (ρ2,r2)=>lg (bT [3,4,5]) jR (q.map bI) ρ2 r2)=_;rw[Aw n p t (by lia) a0 a1 b0 b1];dsimp only;rw[e,Sv];rfl
theorem Dg(pre:Env)(k:Nat)(hk:pre.length=k)(h0:k≠0):∀(ds:List Dat) (c:Cell),∃c',nMk (bN k) ds (pre++[c])=some (pre++[c'])
 |[],c=>⟨c,rfl⟩
 |d::ds,c=>by
  obtain⟨c',e⟩:=Dg pre k hk h0 ds (.sh d);refine⟨c',?_⟩;rw[nMk];have:bN k d (pre++[c])=some (pre++[.sh d]):=by unfold bN;rw[if_neg h0,RN _ _ (by lia)];simp[hk]
  rw[this];exact e
noncomputable def bL(n:Nat)(R:Int->List Step):Dat:=.lst ((QG n).map fun i:Nat=>cK (R i))
theorem uK(n:Nat)(hn:n<=1000)(r:List Tie)(hr:Pl n r)(hl:r.length<=1000):GF [.int n,aE r]=some (.new (bL n (aG r))):=by
 obtain⟨c3,c4,c5,e⟩:=nH n (.sh (.int n)) (.sh (aE r)) .un r [] .un .un .un hr (by simpa using hl);obtain⟨c',e2⟩:=Dg [.sh (.int n),.sh (aE r),.un,.un,.un,.un] 6 rfl (by decide) (ups 0 n) .un;have h0:b_ n []=Ds n []:=by
  unfold b_ aG;apply R8;intro i;by_cases hi:i<n
  ·rw[QL,Sh hi,Rp,if_pos hi];rfl
  ·rw[Q6 (by simp;lia),Q6 (by simp;lia)]
 have hu:(ups 0 n).length=n:=by simp[ups]
 have e1:iR1 (eV 0) [.sh (.int n),.sh (aE r),.un,.un,.un,.un]=some (ups 0 n,[.sh (.int n),.sh (aE r),.un,.un,.un,.un]):=by show (if (n:Int)<=BIG/\-BIG<=(n:Int) then some (ups 0 (n:Int).toNat,_) else none)=_;rw[if_pos (by unfold BIG;lia)];rfl
 rw[h0,Sq]at e;have en:mX 2 (iR1 (eV 0)) 1 (bN 6) (wC (iS (eV 1)) (bT [3,4,5]) jR) [.sh (.int n),.sh (aE r),.un,.un,.un,.un]=some (.nx [.sh (.int n),.sh (aE r),.ow (bL n (aG r)),c3,c4,c5]):=by
  unfold mX;rw[if_neg (by decide),e1];dsimp only;rw[if_pos (by rw[hu];unfold SZ;lia)];show (match nMk (bN 6) (ups 0 n) ([.sh (.int n),.sh (aE r),.un,.un,.un,.un]++[.un]) with | none=>none | some ρ2=>_)=_;rw[e2];dsimp only;rw[hu];show (match wC (iS (eV 1)) (bT [3,4,5]) jR [.sh (.int n),.sh (aE r),.un,.un,.un,.un] (Ds n []) with | none=>none | some (ρ3,r3)=>_)=_;have:wC (iS (eV 1)) (bT [3,4,5]) jR [.sh (.int n),.sh (aE r),.un,.un,.un,.un] (Ds n [])=some ([.sh (.int n),.sh (aE r),.un,c3,c4,c5],b_ n r):=e;rw[this];have e3:(b_ n r).map Dat.lst=(QG n).map fun i:Nat=>cK (aG r i):=by unfold b_;rw[Rk];rfl
  show some (Out.nx [.sh (.int n),.sh (aE r),.ow (.lst ((b_ n r).map Dat.lst)),c3,c4,c5])=_;rw[e3];rfl
 apply UP;unfold GF
 (refine Dm.UN ?_ rfl rfl;and_intros)
 refine Ut ⟨_,en,?_⟩;refine Uz (UD rfl (Vh ?_ rfl));rfl
noncomputable def hdF(h:List (Int×Int)):Hd:=fun m=>(h.find? fun e=>decide (e.1=m)).map (·.2)
noncomputable def hk(h:List (Int×Int)):List Int:=h.map (·.1)
noncomputable def hv(h:List (Int×Int)):List Dat:=h.map fun e=>Dat.int e.2
noncomputable def br(h:List (Int×Int)):Dat:=.dct (hk h) (hv h)
theorem lZ(h:List (Int×Int))(m:Int):bh (hk h) (hv h) m=(hdF h m).map Dat.int:=by
 unfold hk hv hdF
 induction h with
 |nil=>rfl
 |cons e h ih=>
  rw[gp,gp,bh,RI];by_cases q:e.1=m
  ·rw[if_pos q,decide_eq_true q];rfl
  ·rw[if_neg q,decide_eq_false q];exact ih
theorem rW:(hdF h m).isSome=decide (m∈hk h):=by
 unfold hdF hk
 induction h with
 |nil=>rfl
 |cons e h ih=>
  rw[RI];by_cases q:e.1=m
  ·rw[decide_eq_true q];simp[q]
  ·rw[decide_eq_false q];have q':¬m=e.1:=fun z=>q z.symm;simp only[gp,Qw,q',false_or];exact ih
theorem K_(o:Option Int)(y:Int):gNe ((o.map Dat.int).getD .non) (.int y)=vB (!decide (o=some y)):=by
 cases o with
 |none=>rfl
 |some z=>
  show gNe (.int z) (.int y)=_;rw[rV];have:(z=y)=(some z=some y):=by simp
  simp only[this]
theorem La(o:Option Int)(y:Int):gEq ((o.map Dat.int).getD .non) (.int y)=vB (decide (o=some y)):=by
 cases o with
 |none=>rfl
 |some z=>
  show gEq (.int z) (.int y)=_;rw[yR];have:(z=y)=(some z=some y):=by simp
  simp only[this]
noncomputable def uL(h:List (Int×Int))(R:Int->List Step):Int->List Step:=fun x=>(R x).filter fun s=>!decide (hdF h s.1=some s.2)
noncomputable def uM(h:List (Int×Int))(R:Int->List Step):Int->List Step:=fun x=>(R x).filter fun s=>decide (hdF h s.1=some s.2)
theorem zc(g:Dat->Dat->Option RV)(p:Option Int->Int->Bool)(hg:∀o y,g ((o.map Dat.int).getD .non) (.int y)=vB (p o y))(h:List (Int×Int))(A:Cell)(w:List Step)(hl:w.length<=1000) :
  We (aM 2 1 (bN 3) (tV (e2 g (k9 (eV 1) (e2 gIx (eV 3) (eC (.int 0)))) (e2 gIx (eV 3) (eC (.int 1))))) (eV 3)) [A,.sh (br h),.sh (cK w)] fun v ρ'=>Wk ρ' v fun d ρ''=>d=cK (w.filter fun s=>p (hdF h s.1) s.2)/\ρ''=[A,.sh (br h),.sh (cK w)]:=by
 refine VH bX w (fun s=>p (hdF h s.1) s.2) id bX (d:=cK w) ?_ rfl rfl rfl (by decide) (by unfold SZ;lia) (fun s _=>?_) fun s _ _=>?_
 ·rw[R3];exact Ve ⟨rfl,rfl⟩
 ·refine Ux (S_ (WL (Q_ rfl ⟨⟨_,_,rfl⟩,S_ (Q_ rfl (T_ (Uv ?_ rfl rfl rfl)))⟩)));refine⟨hk h,hv h,s.1,rfl,rfl,S_ (Q_ rfl (T_ (Uv ?_ rfl rfl rfl)))⟩;refine⟨_,_,_,rfl,rfl,(by rw[lZ];exact hg _ _),?_⟩;exact Uu ⟨rfl,rfl⟩
 ·exact Q_ rfl (UE ⟨rfl,rfl⟩)
theorem g9(n:Nat)(hn:n<=1000)(R:Int->List Step)(hR:∀i:Nat,i<n->(R i).length<=1000)(h:List (Int×Int)):CZ [bL n R,br h]=some (.new (bL n (uL h R))):=by
 apply UP;unfold CZ
 (refine Dm.UN ?_ rfl rfl;and_intros)
 refine Uz ?_;refine Vd (fun i:Nat=>cK (R i)) (QG n) id (fun i:Nat=>cK (uL h R i)) (d:=bL n R) ?_ rfl rfl rfl (by decide) (by rw[Rg];unfold SZ;lia) fun i hi=>?_
 ·rw[R3];rfl
 ·exact zc gNe (fun o y=>!decide (o=some y)) K_ h _ (R i) (hR i (Q3.mp hi))
theorem rX(n:Nat)(hn:n<=1000)(R:Int->List Step)(hR:∀i:Nat,i<n->(R i).length<=1000)(h:List (Int×Int)):C0 [bL n R,br h]=some (.new (bL n (uM h R))):=by
 apply UP;unfold C0
 (refine Dm.UN ?_ rfl rfl;and_intros)
 refine Uz ?_;refine Vd (fun i:Nat=>cK (R i)) (QG n) id (fun i:Nat=>cK (uM h R i)) (d:=bL n R) ?_ rfl rfl rfl (by decide) (by rw[Rg];unfold SZ;lia) fun i hi=>?_
 ·rw[R3];rfl
 ·exact zc gEq (fun o y=>decide (o=some y)) La h _ (R i) (hR i (Q3.mp hi))
theorem GH(ks:List Int)(i:Int):(ks.any fun k=>decide (k=i))=decide (i∈ks):=by
 induction ks with
 |nil=>rfl
 |cons k ks ih=>
  rw[R6,ih];by_cases h:k=i
  ·simp[h]
  ·have h':¬i=k:=fun z=>h z.symm;simp[h,h']
theorem jT{ks:List Int}{vs:List Dat}(h:i∉ks):jI ks i=ks++[i]/\jJ ks vs i d=vs++[d]:=by unfold jI jJ;rw[GH,decide_eq_false h];exact⟨rfl,rfl⟩
theorem gQ(key:α->Int)(val:α->Dat)(xs:List α)(i:Int):bh (xs.map key) (xs.map val) i=(xs.find? fun x=>decide (key x=i)).map val:=by
 induction xs with
 |nil=>rfl
 |cons x xs ih=>
  rw[gp,gp,bh,RI];by_cases h:key x=i
  ·simp[h]
  ·simp[h,ih]
theorem gR[DecidableEq α]:∀(l m:List α),l.Nodup->(∀x∈l,x∈m)->l.length<=m.length
 |[],_,_,_=>Q4 _
 |x::l,m,h,k=>by
  obtain⟨h1,h2⟩:=QB.mp h;have hx:x∈m:=k x gV;have:=gR l (m.erase x) h2 fun y hy=>(List.mem_erase_of_ne (fun e:y=x=>h1 (by rw[<- e];exact hy))).mpr (k y (Pa _ hy));rw[List.length_erase_of_mem hx]at this;have:=S3 hx;simp
  lia
noncomputable def places(n:Nat):List Int:=(QG n).map fun i:Nat=>(i:Int)
theorem places_len(n:Nat):(places n).length=n:=by simp[places]
theorem xh(n:Nat)(x:Int):x∈places n↔0<=x/\x<n:=by
 unfold places;rw[QF];constructor
 ·rintro⟨i,hi,rfl⟩;have:=Q3.mp hi
  lia
 ·rintro⟨h0,h1⟩;exact⟨x.toNat,Q3.mpr (by lia),by lia⟩
noncomputable abbrev Sr:=List (Int×List Step)
noncomputable def sk(s:Sr):List Int:=s.map (·.1)
noncomputable def sv(s:Sr):List Dat:=s.map fun e=>cK e.2
def InR(R:Int->List Step)(p:Int)(s:Step):Prop:=s∈R p
structure Dh(R:Int->Step->Prop)(a:Int)(w:List Step)(p:Int):Prop where
 way:Way R a w p
 nd:(a::w.map (·.2)).Nodup
structure Fnd(n:Nat)(R:Int->List Step)(a:Int)(s:Sr):Prop where
 nd:(sk s).Nodup
 pl:∀x∈sk s,0<=x/\x<n
 st:a∈sk s
 way:∀e∈s,Dh (InR R) a e.2 e.1/\∀x∈a::e.2.map (·.2),x∈sk s
theorem Fnd.len{n:Nat}{R:Int->List Step}{a:Int}{s:Sr}(h:Fnd n R a s):s.length<=n:=by
 have:=gR (sk s) (places n) h.nd fun x hx=>(xh n x).mpr (h.pl x hx);rw[places_len]at this
 simpa [sk] using this
theorem Fnd.GI{n:Nat}{R:Int->List Step}{a:Int}{s:Sr}(h:Fnd n R a s){e:Int×List Step}(he:e∈s):e.2.length<s.length:=by
 obtain⟨h1,h2⟩:=h.way e he;have:=gR (a::e.2.map (·.2)) (sk s) h1.nd h2;simp[sk]at this
 lia
theorem dh(s:Sr)(x:Int)(w:List Step):sk (s++[(x,w)])=sk s++[x]:=by simp[sk]
theorem GJ(s:Sr)(x:Int)(w:List Step):sv (s++[(x,w)])=sv s++[cK w]:=by simp[sv]
theorem rY(s:Sr)(x:Int):(∃w,(x,w)∈s/\bh (sk s) (sv s) x=some (cK w))\/(x∉sk s/\bh (sk s) (sv s) x=none):=by
 unfold sk sv;rw[gQ (fun e:Int×List Step=>e.1) (fun e=>cK e.2) s x];cases hf:s.find? fun e=>decide (e.1=x) with
 |none=>refine Or.inr ⟨fun h=>?_,rfl⟩;obtain⟨e,he,hx⟩:=QF.mp h;have:=Ss.mp hf e he;simp[hx]at this
 |some e=>
  have h1:=SN hf;have h2:=T8 hf;have h2:e.1=x:=by simpa using h2
  exact Or.inl ⟨e.2,by rw[<- h2];exact h1,rfl⟩
theorem lB(s:Sr)(x:Int):(bh (sk s) (sv s) x).isSome=decide (x∈sk s):=by
 rcases rY s x with⟨ts,h1,h2⟩ | ⟨h1,h2⟩
 ·have:x∈sk s:=QF.mpr ⟨_,h1,rfl⟩;rw[h2,decide_eq_true this];rfl
 ·rw[h2,decide_eq_false h1];rfl
theorem Fnd.start{n:Nat}{R:Int->List Step}{a:Int}(a0:0<=a)(a1:a<n):Fnd n R a [(a,[])] where
 nd:=by simp[sk]
 pl:=by intro x hx;simp[sk]at hx;subst hx;exact⟨a0,a1⟩
 st:=by simp[sk]
 way:=by intro e he;simp at he;subst he;exact⟨⟨rfl,by simp⟩,by simp[sk]⟩
theorem Fnd.step{n:Nat}{R:Int->List Step}{a:Int}{s:Sr}(h:Fnd n R a s)(hp:(p,w)∈s){u:Step}(hu:u∈R p)(hn:u.2∉sk s)(u0:0<=u.2)(u1:u.2<n):Fnd n R a (s++[(u.2,w++[u])]) where
 nd:=by rw[dh];exact Rj.mpr ⟨h.nd,by simp,fun x hx y hy=>by rw[QN.mp hy];exact fun e=>hn (e▸hx)⟩
 pl:=by
  intro x hx;rw[dh]at hx;rcases QE.mp hx with hx | hx
  ·exact h.pl x hx
  ·rw[QN.mp hx];exact⟨u0,u1⟩
 st:=by rw[dh];exact Q2 _ h.st
 way:=by
  intro e he;rw[dh];rcases QE.mp he with he | he
  ·obtain⟨k1,k2⟩:=h.way e he;exact⟨k1,fun x hx=>Q2 _ (k2 x hx)⟩
  ·rw[QN.mp he];obtain⟨k1,k2⟩:=h.way _ hp;refine⟨⟨k1.way.snoc hu,?_⟩,fun x hx=>?_⟩
   ·dsimp only at k1 k2 ⊢;rw[QK,<- RZ];exact Rj.mpr ⟨k1.nd,by simp,fun x hx y hy=>by rw[QN.mp hy];exact fun e:x=u.2=>hn (by rw[<- e];exact k2 x hx)⟩
   ·dsimp only at k1 k2 hx ⊢;rw[QK,<- RZ]at hx;rcases QE.mp hx with hx | hx
    ·exact Q2 _ (k2 x hx)
    ·exact QV _ (by simpa using hx)
def Done(R:Int->List Step)(K:List Int)(x:Int):Prop:=∀u∈R x,u.2∈K
noncomputable def GK(n:Nat)(R:Int->List Step)(a:Int)(s:Sr)(ps:List Int)(c4 c5:Cell):Env:=[.sh (bL n R),.sh (.int a),.ow (.dct (sk s) (sv s)),.ow (.lst (ps.map Dat.int)),c4,c5]
theorem Lb{ps:List Int}{p0:Int}{i:Nat}{ρ ρ2:Env}(q:Q (.val (.int p0)) ρ2)(h:ρ[i]?=some (.ow (.lst ((p0::ps).map Dat.int))))(he:e ρ=some (.val (.int 0),ρ))(hs:ρ.set i (.ow (.lst (ps.map Dat.int)))=ρ2):We (fH i e) ρ Q:=
 ⟨_,_,by unfold fH;rw[h];dsimp only;rw[he];dsimp only;rw[h];dsimp only;rw[if_pos (by unfold BIG;lia)];show some (Val.val (.int p0),ρ.set i (.ow (.lst (ps.map Dat.int))))=_;rw[hs],q⟩
theorem GL(n:Nat)(R:Int->List Step)(x:Int)(h0:0<=x)(h1:x<n):gIx (bL n R) (.int x)=some (.val (cK (R x))):=by
 unfold bL gIx;dsimp only;rw[gK (fun i:Nat=>cK (R i)) (QG n) x h0 (by rw[Rg];exact h1)];have e:(((QG n)[x.toNat]'(by rw[Rg];lia):Nat):Int)=x:=by rw[List.getElem_range];lia
 rw[e];rfl
theorem lC(n:Nat)(hn:n<=40)(R:Int->List Step)(hR:∀i:Int,0<=i->i<n->∀u∈R i,0<=u.2/\u.2<n)(a:Int)(a0:0<=a)(a1:a<n) :
  ∃s:Sr,ux [bL n R,.int a]=some (.new (.dct (sk s) (sv s)))/\Fnd n R a s/\∀x∈sk s,Done R (sk s) x:=by
 suffices h:Wr (ux [bL n R,.int a]) fun v=>∃s:Sr,v=.new (.dct (sk s) (sv s))/\Fnd n R a s/\∀x∈sk s,Done R (sk s) x by obtain⟨v,h1,s,rfl,h2⟩:=h;exact⟨s,h1,h2⟩
 unfold ux
 (refine Dm.UN ?_ rfl rfl;and_intros)
 repeat array_get_dec
 refine VO (fun k ρ=>∃(s:Sr) (ps:List Int) (c4 c5:Cell),ρ=GK n R a s ps c4 c5/\Fnd n R a s/\(∀x∈ps,x∈sk s)/\(∀x∈sk s,x∈ps\/Done R (sk s) x)/\k=ps.length+(n-s.length)/\k<=40) ?_ 100 n _ (by lia) ⟨[(a,[])],[a],_,_,rfl,Fnd.start a0 a1,by simp[sk],by simp[sk],by simp;lia,hn⟩;rintro k ρ ⟨s,ps,c4,c5,rfl,F,hps,hd,hk,Qu⟩;unfold GK;refine WJ ?_;refine UD rfl ?_;refine⟨_,!(ps.map Dat.int).isEmpty,rfl,rfl,?_⟩;have len:=F.len;cases ps with
 |nil=>refine Vl rfl ?_;refine Uz (UD rfl (Vh ?_ rfl));exact⟨s,rfl,F,fun x hx=>(hd x hx).resolve_left (by simp)⟩
 |cons p0 ps0=>
  refine Vp rfl ?_;unfold Il;refine Ut (Uy ?_ (by decide));refine Lb (ps:=ps0) (p0:=p0) ?_ rfl rfl rfl;refine Uw ?_ (by trivial);have hp0:p0∈sk s:=hps p0 (by simp);obtain⟨q0,q1⟩:=F.pl p0 hp0;refine U3 (Vr (S_ (Q_ rfl (Q_ rfl (Uv ?_ rfl rfl (GL n R p0 q0 q1))))));refine UE (d_ ?_);refine UU bX _ _ (R p0) _ _ _ _ _ (fun p q ρ=>∃(s:Sr) (ps:List Int) (c5:Cell),ρ=GK n R a s ps (.sh (.int p0)) c5/\Fnd n R a s/\(∀x∈ps,x∈sk s)/\p0∈sk s/\(∀x∈sk s,x∈ps\/x=p0\/Done R (sk s) x)/\(∀u∈p,u.2∈sk s)/\k=ps.length+1+(n-s.length)) ⟨s,ps0,_,rfl,F,fun x hx=>hps x (by simp[hx]),hp0,?_,by simp,by rw[hk];simp⟩ ?_ ?_
  ·intro x hx;rcases hd x hx with h | h
   ·rcases Qw.mp h with h | h
    ·exact .inr (.inl h)
    ·exact .inl h
   ·exact .inr (.inr h)
  ·rintro p u q ρ e' ⟨s,ps,c5,rfl,F,hps,hp0,hd,hp,hk⟩;have len:=F.len;have hu:u∈R p0:=by rw[e'];simp
   obtain⟨u0,u1⟩:=hR p0 q0 q1 u hu;unfold GK;refine Dm.bG rfl (by trivial) ?_;unfold Ik;refine UG (Ux (S_ (S_ (Q_ rfl (T_ (Uv ?_ rfl rfl rfl))))));refine UD rfl (VS ?_ rfl rfl);refine Uu ?_;rw[lB];refine⟨fun h=>?_,fun h=>?_⟩
   ·have hnew:=ndT h;obtain⟨w,t1,t2⟩:∃w,(p0,w)∈s/\bh (sk s) (sv s) p0=some (cK w):=by
     rcases rY s p0 with h | h
     ·exact h
     ·exact absurd hp0 h.1
    have wl:=F.GI t1;refine Ut (VN (S_ (S_ (UD rfl (Q_ rfl (U9 t2 ?_ rfl rfl))))));refine U0 (m_ (Q_ rfl (R_ (UI ?_ rfl rfl (by exact QC rfl)))));refine VU ?_ rfl rfl (by rw[gc];dsimp only at wl;simp;unfold SZ;lia);refine Ve (wU rfl (S_ (Q_ rfl (T_ (Uv ?_ rfl rfl rfl)))));refine cC.mk (lY ?_ rfl (by trivial) (by simp only[sk,gc];unfold SZ;lia));refine Vt (S_ (Q_ rfl (T_ (Uv ?_ rfl rfl rfl)))) rfl;refine UE (rT ?_ rfl (by trivial) (by rw[gc];unfold SZ;lia));have F':=F.step t1 hu hnew u0 u1;have len':=F'.len;have em:Dat.lst (w.map bX++[bX u])=cK (w++[u]):=by simp[cK]
    obtain⟨p1,p2⟩:=jT (ks:=sk s) (vs:=sv s) (i:=u.2) (d:=cK (w++[u])) hnew;refine⟨s++[(u.2,w++[u])],ps++[u.2],.sh (bX u),?_,F',?_,?_,?_,?_,?_⟩
    ·rw[em,p1,p2,dh,GJ,QK];rfl
    ·intro x hx;rw[dh];rcases QE.mp hx with hx | hx
     ·exact Q2 _ (hps x hx)
     ·exact QV _ hx
    ·rw[dh];exact Q2 _ hp0
    ·intro x hx;rw[dh]at hx ⊢;rcases QE.mp hx with hx | hx
     ·rcases hd x hx with h | h | h
      ·exact .inl (Q2 _ h)
      ·exact .inr (.inl h)
      ·exact .inr (.inr fun y hy=>Q2 _ (h y hy))
     ·exact .inl (QV _ hx)
    ·intro v hv;rw[dh];rcases QE.mp hv with hv | hv
     ·exact Q2 _ (hp v hv)
     ·rw[QN.mp hv];simp
    ·rw[hk];simp at len' ⊢;lia
   ·have hold:=ndF h;refine UB ?_;refine⟨s,ps,.sh (bX u),rfl,F,hps,hp0,hd,fun v hv=>?_,hk⟩;rcases QE.mp hv with hv | hv
    ·exact hp v hv
    ·rw[QN.mp hv];exact hold
  ·rintro ρ ⟨s,ps,c5,rfl,F,hps,hp0,hd,hp,hk⟩;refine⟨ps.length+(n-s.length),by lia,s,ps,_,_,rfl,F,hps,fun x hx=>?_,rfl,by lia⟩;rcases hd x hx with h | rfl | h
   ·exact .inl h
   ·exact .inr hp
   ·exact .inr h
noncomputable def lD(h:List (Int×Int))(s:Step):List (Int×Int):=if s.1∈hk h then h.filter fun e=>decide (e.1≠s.1) else h++[s]
theorem nI(h:List (Int×Int))(m:Int):hdF (h.filter fun e=>decide (e.1≠m))=put (hdF h) m none:=by
 funext x
 unfold put hdF;rw[List.find?_filter];by_cases e:x=m
 ·subst e;rw[if_pos rfl,Ss.mpr fun y _=>by simp];rfl
 ·rw[if_neg e]
  congr 1
  congr 1
  funext y
  by_cases q:y.1=x
  ·have:y.1≠m:=fun z=>e (q.symm.trans z);simp[q,e]
  ·simp[q]
theorem GN(h:List (Int×Int))(s:Step)(hn:s.1∉hk h):hdF (h++[s])=put (hdF h) s.1 (some s.2):=by
 funext x
 unfold put hdF;rw[List.find?_append];by_cases e:x=s.1
 ·subst e;rw[if_pos rfl];have:(h.find? fun e=>decide (e.1=s.1))=none:=Ss.mpr fun y hy=>by
   intro z;exact hn (QF.mpr ⟨y,hy,of_decide_eq_true z⟩)
  rw[this];simp
 ·rw[if_neg e];have e':¬s.1=x:=fun z=>e z.symm;cases hf:(h.find? fun e=>decide (e.1=x)) with
  |none=>simp[e']
  |some y=>rfl
theorem Di(h:List (Int×Int))(s:Step):hdF (lD h s)=gB (hdF h) s.1 s.2:=by
 unfold lD gB;rw[rW];by_cases q:s.1∈hk h
 ·rw[if_pos q,if_pos (decide_eq_true q),nI]
 ·rw[if_neg q,if_neg (by simpa using q),GN h s q]
noncomputable def bS(h:List (Int×Int)):List Step->List (Int×Int)
 |[]=>h
 |s::w=>bS (lD h s) w
theorem qw:∀(w:List Step) (h:List (Int×Int)),hdF (bS h w)=lz (hdF h) w
 |[],_=>rfl
 |s::w,h=>by rw[bS,lz,qw w,Di]
theorem gE:∀(w:List Step) (h:List (Int×Int)) (s:Step),bS h (w++[s])=lD (bS h w) s
 |[],_,_=>rfl
 |_::w,h,s=>by rw[RZ,bS,bS,gE w]
theorem l0(h:List (Int×Int))(m:Int):fJ (hk h) (hv h) m=hk (h.filter fun e=>decide (e.1≠m))/\fK (hk h) (hv h) m=hv (h.filter fun e=>decide (e.1≠m)):=by
 unfold hk hv
 induction h with
 |nil=>exact⟨rfl,rfl⟩
 |cons e h ih=>
  rw[gp,gp,fJ,fK];by_cases q:e.1=m
  ·rw[if_pos q,if_pos q,RG (by simpa using q)];exact ih
  ·rw[if_neg q,if_neg q,RH (by simpa using q),gp,gp,ih.1,ih.2];exact⟨rfl,rfl⟩
structure Hok(r:List Tie)(h:List (Int×Int)):Prop where
 nd:(hk h).Nodup
 sub:∀m∈hk h,m∈r.map (·.m)
theorem Hok.len(k:Hok r h):h.length<=r.length:=by
 have:=gR (hk h) (r.map (·.m)) k.nd k.sub
 simpa [hk] using this
theorem Hok.nil(r:List Tie):Hok r []:=⟨by simp[hk],by simp[hk]⟩
theorem Hok.drop(k:Hok r h)(m:Int):Hok r (h.filter fun e=>decide (e.1≠m)):=by refine⟨(k.nd.sublist (List.Sublist.map _ (List.filter_sublist))),fun x hx=>k.sub x ?_⟩;obtain⟨e,he,rfl⟩:=QF.mp hx;exact QF.mpr ⟨e,(Q8.mp he).1,rfl⟩
theorem Hok.lead(k:Hok r h)(hs:s.1∈r.map (·.m)):Hok r (lD h s):=by
 unfold lD;split
 ·exact k.drop _
 ·rename_i q;refine⟨?_,fun x hx=>?_⟩
  ·unfold hk;rw[QK];exact Rj.mpr ⟨k.nd,by simp,fun x hx y hy=>by
    have:y=s.1:=by simpa using hy
    rw[this];exact fun e=>q (e▸hx)⟩
  ·unfold hk at hx;rw[QK]at hx;rcases QE.mp hx with hx | hx
   ·exact k.sub x hx
   ·have:x=s.1:=by simpa using hx
    rw[this];exact hs
theorem Hok.Dj:∀{w:List Step} {h:List (Int×Int)},Hok r h->(∀s∈w,s.1∈r.map (·.m))->Hok r (bS h w)
 |[],_,k,_=>k
 |s::w,h,k,hs=>by rw[bS];exact Hok.Dj (w:=w) (k.lead (hs s gV)) fun u hu=>hs u (Pa _ hu)
theorem pJ(r:List Tie)(hl:r.length<=1000)(h:List (Int×Int))(k:Hok r h)(w:List Step)(hw:∀s∈w,s.1∈r.map (·.m)):C1 [br h,cK w]=some (.val .non,br (bS h w)):=by
 suffices q:WrM (C1 [br h,cK w]) fun z d=>z=.val .non/\d=br (bS h w) by obtain⟨z,d,h1,rfl,rfl⟩:=q;exact h1
 unfold C1;refine U_ ?_ rfl rfl;refine U3 (Vr (Q_ rfl (UE (d_ ?_))));refine UU bX _ _ w _ _ _ _ _ (fun p q ρ=>∃c2 c3,ρ=[.ow (br (bS h p)),.sh (cK w),c2,c3]) ⟨_,_,rfl⟩ ?_ ?_
 ·rintro p s q ρ e ⟨c2,c3,rfl⟩;refine Dm.bG rfl (by trivial) ?_;have kp:Hok r (bS h p):=k.Dj fun u hu=>hw u (by rw[e];exact Q2 _ hu);have len:=kp.len;unfold Im;refine UG (Ux (S_ (Q_ rfl (UD rfl (VJ ?_ rfl rfl)))));refine Uu ?_;rw[lZ,R7,rW];refine UQ (fun hm=>?_) fun hm=>?_
  ·obtain⟨x,hx⟩:∃x,hdF (bS h p) s.1=some x:=Option.isSome_iff_exists.mp (by rw[rW];exact decide_eq_true hm);refine VL (Wv (k:=s.1) (d:=.int x) (by rw[lZ,hx];rfl) ?_ rfl rfl rfl);refine⟨.sh (.int s.1),.sh (.int s.2),?_⟩;rw[gE,lD,if_pos hm,(l0 _ _).1,(l0 _ _).2];rfl
  ·refine VN (Q_ rfl (UE (wU rfl (Q_ rfl (cC.mk (lY ?_ rfl (by trivial) ?_))))))
   ·refine⟨.sh (.int s.1),.sh (.int s.2),?_⟩;rw[gE,lD,if_neg hm];obtain⟨p1,p2⟩:=jT (ks:=hk (bS h p)) (vs:=hv (bS h p)) (i:=s.1) (d:=.int s.2) hm;rw[p1,p2];unfold br hk hv;rw[QK,QK];rfl
   ·unfold hk;rw[gc];unfold SZ;lia
 ·rintro ρ ⟨c2,c3,rfl⟩;exact⟨_,rfl,rfl,rfl⟩
theorem lE:s∈aG r x↔gC r x s:=by
 unfold aG;rw[To];constructor
 ·rintro⟨t,ht,e⟩;unfold cL at e;split at e
  ·cases e
  rename_i NW;split at e
  ·rename_i ha;cases e;exact⟨t,ht,rfl,NW,.inl ⟨ha,rfl⟩⟩
  ·split at e
   ·rename_i hb;cases e;exact⟨t,ht,rfl,NW,.inr ⟨hb,rfl⟩⟩
   ·cases e
 ·rintro⟨t,ht,hm,NW,he⟩;refine⟨t,ht,?_⟩;unfold cL;rw[if_neg NW];rcases he with⟨h1,h2⟩ | ⟨h1,h2⟩
  ·rw[if_pos h1,hm,h2]
  ·rw[if_neg (fun z=>NW (z.trans h1.symm)),if_pos h1,hm,h2]
theorem uN{n:Nat}(hp:Pl n r)(h:gC r x s):(0<=x/\x<n)/\0<=s.2/\s.2<n:=by
 obtain⟨t,ht,_,_,he⟩:=h;have:=hp t ht
 lia
theorem GO(h:gC r x s):s.1∈r.map (·.m):=by obtain⟨t,ht,hm,_⟩:=h;exact QF.mpr ⟨t,ht,hm⟩
theorem rZ{R:Int->Step->Prop}(hR:∀p s,R p s->gC r p s):∀{w:List Step} {x:Int},Way R x w y->∀s∈w,s.1∈r.map (·.m)
 |[],_,_,s,hs=>by cases hs
 |u::w,x,h,s,hs=>by
  rcases Qw.mp hs with rfl | hs
  ·exact GO (hR _ _ h.1)
  ·exact rZ hR h.2 s hs
theorem nJ:InR (uL h (aG r)) p s↔eW r (hdF h) p s:=by unfold InR uL eW;rw[Q8,lE];simp
theorem r8:InR (uM h (aG r)) p s↔Led r (hdF h) p s:=by unfold InR uM Led;rw[Q8,lE];simp
theorem Ax(w:List Step):bD (cK w)=true:=gM _ _ fun s=>by unfold bX bD;exact kD _ (by intro x hx;simp at hx;rcases hx with rfl | rfl<;>exact qq _)
theorem iE(n:Nat)(R:Int->List Step):bD (bL n R)=true:=gM (fun i:Nat=>cK (R i)) _ fun i=>Ax _
noncomputable def mso(w:List Step):List Int:=w.map (·.1)
noncomputable def msD(w:List Step):Dat:=.lst ((mso w).map Dat.int)
noncomputable def cy(h:List (Int×Int)):List Int->List (Int×Int)
 |[]=>h
 |m::ms=>cy (h.filter fun e=>decide (e.1≠m)) ms
theorem lF:∀(ms:List Int) (h:List (Int×Int)) (m:Int),cy h (ms++[m])=(cy h ms).filter fun e=>decide (e.1≠m)
 |[],_,_=>rfl
 |_::ms,h,m=>by rw[RZ,cy,cy,lF ms]
theorem kG:∀(w:List Step) (h:List (Int×Int)),hdF (cy h (mso w))=fW (hdF h) w
 |[],_=>rfl
 |s::w,h=>by show hdF (cy _ (mso w))=fW _ w;rw[kG w,nI]
theorem lG:∀(ms:List Int) (h:List (Int×Int)) (x:Int),x∉ms->hdF (cy h ms) x=hdF h x
 |[],_,_,_=>rfl
 |m::ms,h,x,hx=>by rw[cy,lG ms _ x fun z=>hx (Pa _ z),nI];unfold put;rw[if_neg fun z=>hx (by rw[z];exact gV)]
theorem Hok.drops:∀{ms:List Int} {h:List (Int×Int)},Hok r h->Hok r (cy h ms)
 |[],_,k=>k
 |m::ms,h,k=>by rw[cy];exact Hok.drops (ms:=ms) (k.drop m)
theorem xj{H:Hd}:∀{w:List Step} {x:Int},Way (Led r H) x w y->∀s∈w,H s.1=some s.2
 |[],_,_,s,hs=>by cases hs
 |u::w,x,h,s,hs=>by
  rcases Qw.mp hs with rfl | hs
  ·exact h.1.2
  ·exact xj h.2 s hs
structure uO(r:List Tie)(a b:Int)(ws:List (List Step)):Prop where
 way:∀w∈ws,Dh (gC r) a w b
 nd:(ws.map mso).flatten.Nodup
noncomputable def Ay(n:Nat)(r:List Tie)(h0 h:List (Int×Int))(a b:Int)(c:Nat)(ws:List (List Step))(c7 c8 c9:Cell):Env:=
 [.sh (bL n (aG r)),.sh (br h0),.sh (.int a),.sh (.int b),.sh (.int c),.ow (br h),.ow (.lst (ws.map msD)),c7,c8,c9]
theorem Az(n:Nat)(hn:n<=40)(r:List Tie)(hp:Pl n r)(nd:(r.map (·.m)).Nodup)(hl:r.length<=1000)(h:List (Int×Int))(k:Hok r h)(a b:Int)(a0:0<=a)(a1:a<n)(c:Nat)(hc:c<=1000)(fl:Flow r (hdF h) a b c) :
  ∃ws:List (List Step),Au [bL n (aG r),br h,.int a,.int b,.int c]=some (.new (.lst (ws.map msD)))/\ws.length=c/\uO r a b ws:=by
 suffices q:Wr (Au [bL n (aG r),br h,.int a,.int b,.int c]) fun v=>∃ws:List (List Step),v=.new (.lst (ws.map msD))/\ws.length=c/\uO r a b ws by obtain⟨v,h1,ws,rfl,h2⟩:=q;exact⟨ws,h1,h2⟩
 unfold Au
 (refine Dm.UN ?_ rfl rfl;and_intros)
 refine Ut (Uy (UC (m_ (Q_ rfl (R_ (Wy (ks:=hk h) (vs:=hv h) ?_ rfl))))) (by decide));refine UO ?_ (by trivial);refine Ut (Uy (U0 (R_ (UI ?_ rfl rfl (by decide)))) (by decide));refine UO ?_ (by trivial);refine Ut (U3 (Vw (Q_ rfl (cC.mk ⟨?_,by unfold BIG;lia,by unfold BIG;lia⟩))));refine UU (fun i:Nat=>Dat.int (0+(i:Nat))) _ _ (QG c) _ _ _ _ _ (fun p q ρ=>∃(h':List (Int×Int)) (ws:List (List Step)) (c7 c8 c9:Cell),ρ=Ay n r h h' a b c ws c7 c8 c9/\Hok r h'/\ws.length=p.length/\Flow r (hdF h') a b q.length/\uO r a b ws/\∀m∈(ws.map mso).flatten,hdF h' m=none)
  ⟨h,[],_,_,_,rfl,k,rfl,by rw[Rg];exact fl,⟨by simp,by simp⟩,by simp⟩ ?_ ?_
 ·rintro p x q ρ e ⟨h',ws,c7,c8,c9,rfl,k',wl,fl',W,hno⟩;rw[QO]at fl';unfold Ay;refine Dm.bG rfl (by trivial) ?_;unfold Ip;have hR:∀i:Nat,i<n->(aG r i).length<=1000:=fun i _=>QT (ee r i) hl;obtain⟨s,es,F,hd⟩:=lC n hn (uM h' (aG r)) (fun i _ _ u hu=>(uN hp ((r8 (h:=h')).mp hu).1).2) a a0 a1;have hb:b∈sk s:=by
   have:=fl'.reach (S:=fun y=>decide (y∈sk s)) (decide_eq_true F.st) fun y u hy hu=>decide_eq_true (hd y (of_decide_eq_true hy) u (r8.mpr hu));exact of_decide_eq_true this
  obtain⟨w,t1,t2⟩:∃w,(b,w)∈s/\bh (sk s) (sv s) b=some (cK w):=by
   rcases rY s b with h | h
   ·exact h
   ·exact absurd hb h.1
  obtain⟨⟨w1,w2⟩,_⟩:=F.way _ t1;have GI:=F.GI t1;have P5:=F.len;dsimp only at w1 w2 GI;have w1':Way (Led r (hdF h')) a w b:=w1.mono fun _ _ z=>r8.mp z;have wm:=ly nd (fun p s h=>h.1) w1' w2;have K9:iS (e2 gDx (eF ux [(eFd C0 [(eV 0),(eV 5)]),(eV 2)]) (eV 3)) [.sh (bL n (aG r)),.sh (br h),.sh (.int a),.sh (.int b),.sh (.int c),.ow (br h'),.ow (.lst (ws.map msD)),.sh (.int (0+(x:Nat))),c8,c9]
    = some (w.map bX,[.sh (bL n (aG r)),.sh (br h),.sh (.int a),.sh (.int b),.sh (.int c),.ow (br h'),.ow (.lst (ws.map msD)),.sh (.int (0+(x:Nat))),c8,c9]):=by
   apply VQ;refine Vr (S_ (UK (m_ (V8 (m_ (Q_ rfl (m_ (UD rfl (R_ ?_)))))))));refine⟨_,_,_,rfl,rX n (by lia) (aG r) hR h',iE _ _,?_⟩;refine m_ (Q_ rfl (R_ (US es ?_ rfl rfl rfl rfl)));refine Q_ rfl (U9 t2 ?_ rfl rfl);exact UE (d_ ⟨rfl,rfl⟩)
  refine Ut (Uy (WD bX w (fun s=>s.1) Dat.int ?_ K9 rfl (by decide) (by unfold SZ;lia) fun s _=>S_ (Q_ rfl (T_ (Uv (UE ⟨rfl,rfl⟩) rfl rfl rfl)))) (by decide));refine UO ?_ (by trivial);refine Ut (U3 (Vr (UD rfl (V0 (d_ ?_) rfl (by trivial)))));refine UU Dat.int _ _ (mso w) _ _ _ _ _ (fun pm qm ρ=>∃c9,ρ=Ay n r h (cy h' pm) a b c ws (.sh (.int (0+(x:Nat)))) (.sh (msD w)) c9) ⟨_,rfl⟩ ?_ ?_
  ·rintro pm m qm ρ em ⟨c9,rfl⟩;unfold Ay;refine Dm.bG rfl (by trivial) ?_;unfold Io;have hm:m∉pm:=by
    have:(mso w).Nodup:=wm;rw[em]at this;exact fun z=>(Rj.mp this).2.2 m z m gV rfl
   have hmw:m∈mso w:=by rw[em];simp
   obtain⟨st,hst,rfl⟩:=QF.mp hmw;have hx:hdF (cy h' pm) st.1=some st.2:=by rw[lG pm h' st.1 hm];exact xj w1' st hst
   refine VL (Wv (k:=st.1) (d:=.int st.2) (by rw[lZ,hx];rfl) ?_ rfl rfl rfl);refine⟨.sh (.int st.1),?_⟩;rw[lF,(l0 _ _).1,(l0 _ _).2];rfl
  ·rintro ρ ⟨c9,rfl⟩;unfold Ay;refine Vt (Q_ rfl (UE (rT ?_ rfl (by trivial) ?_))) rfl
   ·have fl2:=fl'.less nd w1' w2;rw[<- kG]at fl2;refine⟨cy h' (mso w),ws++[w],.sh (.int (0+(x:Nat))),.sh (msD w),c9,?_,k'.drops,by simp[wl],fl2,⟨fun v hv=>?_,?_⟩,fun m hm=>?_⟩
    ·rw[QK];rfl
    ·rcases QE.mp hv with hv | hv
     ·exact W.way v hv
     ·rw[QN.mp hv];exact⟨w1'.mono fun _ _ z=>z.1,w2⟩
    ·rw[QK,RK];refine Rj.mpr ⟨W.nd,by rw[gp,SQ,Q9,List.flatten_nil,Rr];exact wm,fun m hm z hz=>?_⟩;intro e;subst e;have:m∈mso w:=by simpa using hz
     obtain⟨st,hst,rfl⟩:=QF.mp this;have h1:=xj w1' st hst;rw[hno _ hm]at h1;cases h1
    ·rw[QK,RK]at hm;rw[kG];rcases QE.mp hm with hm | hm
     ·by_cases z:m∈mso w
      ·exact iB z
      ·rw[gD fun u hu e=>z (QF.mpr ⟨u,hu,e⟩)];exact hno m hm
     ·rw[gp,SQ,Q9,List.flatten_nil,Rr]at hm;exact iB hm
   ·rw[gc,wl];have:=congrArg List.length e;rw[Rg,Qv]at this;unfold SZ;lia
 ·rintro ρ ⟨h',ws,c7,c8,c9,rfl,k',wl,fl',W,hno⟩;unfold Ay;refine Uz (UD rfl (Vh ?_ rfl));exact⟨ws,rfl,by rw[wl,Rg],W⟩
noncomputable def tupI(S:List Int):Dat:=.tup (S.map Dat.int)
noncomputable def ovr(S:List Int)(t:Tie):Bool:=decide (t.a∈S) != decide (t.b∈S)
noncomputable def pK(r:List Tie)(S:List Int):List Int:=(r.filter (ovr S)).map (·.m)
def GP(n:Nat)(a b:Int)(S:List Int):Prop:=S.Pairwise (· < ·)/\(∀x∈S,0<=x/\x<n)/\a∈S/\b∉S
noncomputable def bJ:Option (List Int)->Dat
 |none=>.non
 |some S=>tupI S
theorem Dl{l:List Int}(h:l.Nodup):(bK ltI l).Pairwise (· < ·):=by
 have h1:=g8 l;have h2:(bK ltI l).Nodup:=(bF ltI l).nodup_iff.mpr h;refine(Ue.and h1 h2).imp fun {x y} q=>?_;obtain⟨q1,q2⟩:=q;simp[ltI]at q1
 lia
structure Apart(n:Nat)(r:List Tie)(a b:Int)(most:Int)(ws:List (List Step))(o:Option (List Int)):Prop where
 ways:uO r a b ws
 le:(ws.length:Int)<=most
 all:o=none->(ws.length:Int)=most
 side:∀S,o=some S->GP n a b S/\(pK r S).length=ws.length/\(ws.length:Int)<most
noncomputable def N1(n:Nat)(r:List Tie)(a b most:Int)(c5:Cell)(h:List (Int×Int))(o:Option (List Int))(k:Nat)(c9:Cell):Env:=
 [.sh (.int n),.sh (aE r),.sh (.int a),.sh (.int b),.sh (.int most),c5,.ow (br h),.sh (bJ o),.sh (.int k),c9]
def Dq(n:Nat)(r:List Tie)(c:Cell):Prop:=c=.ow (bL n (aG r))\/c=.sh (bL n (aG r))
theorem zd(ws:List (List Step)):bD (.lst (ws.map msD))=true:=gM _ _ fun w=>wW _
theorem Ir{n:Nat}{c5:Cell}(h5:Dq n r c5)(A B C D E G H I J:Cell){Q:Val->Env->Prop}(CJ:List FE){Q':List Val->Env->Prop}
  (k:∀x,(x=.slot 5/\c5=.ow (bL n (aG r)))\/(x=.val (bL n (aG r))/\c5=.sh (bL n (aG r)))->Was CJ [A,B,C,D,E,c5,G,H,I,J] fun xs ρ2=>Q' (x::xs) ρ2):Was (eV 5::CJ) [A,B,C,D,E,c5,G,H,I,J] Q':=by
 rcases h5 with rfl | rfl
 ·exact m_ (UD rfl (k _ (.inl ⟨rfl,rfl⟩)))
 ·exact m_ (Q_ rfl (k _ (.inr ⟨rfl,rfl⟩)))
theorem pL(n:Nat)(hn:n<=40)(r:List Tie)(hp:Pl n r)(nd:(r.map (·.m)).Nodup)(hl:r.length<=1000)(a b:Int)(a0:0<=a)(a1:a<n)(b0:0<=b)(b1:b<n)(most:Int)(m0:0<=most)(m1:most<=90) :
  ∃ws o,C2 [.int n,aE r,.int a,.int b,.int most]=some (.val (.tup [.lst (ws.map msD),bJ o]))/\Apart n r a b most ws o:=by
 suffices q:Wr (C2 [.int n,aE r,.int a,.int b,.int most]) fun v=>∃ws o,v=.val (.tup [.lst (ws.map msD),bJ o])/\Apart n r a b most ws o by obtain⟨v,h1,ws,o,rfl,h2⟩:=q;exact⟨ws,o,h1,h2⟩
 unfold C2
 (refine Dm.UN ?_ rfl rfl;and_intros)
 refine Ut (Uy (UK (m_ (Q_ rfl (m_ (Q_ rfl (R_ (US (uK n (by lia) r hp hl) ?_ rfl rfl rfl rfl))))))) (by decide));refine UO ?_ (by trivial);refine Ut (Uy (V9 (UO ?_ (by trivial))) (by decide));refine Ut (Uy (T_ (Uw ?_ (by trivial))) (by decide));refine Ut (Uy (T_ (Uw ?_ (by trivial))) (by decide));have hR:∀i:Nat,i<n->(aG r i).length<=1000:=fun i _=>QT (ee r i) hl;refine Ut ?_;refine VO (fun k ρ=>∃ (c5:Cell) (h:List (Int×Int)) (o:Option (List Int)) (NY:Nat) (c9:Cell),ρ=N1 n r a b most c5 h o NY c9∧Dq n r c5∧Hok r h∧Flow r (hdF h) a b NY∧(NY:Int)≤most∧(∀ S,o=some S→GP n a b S∧(pK r S).length=NY∧(NY:Int)<most) ∧
   k=(most-NY).toNat+(if o=none then 1 else 0)) ?_ 100 (most.toNat+1) _ (by lia) ⟨_,[],none,0,_,rfl,.inl rfl,Hok.nil r,Flow.zero r a b,m0,by simp,by simp⟩
 rintro k ρ ⟨c5,h,o,NY,c9,rfl,h5,hok,fl,hle,hs,hk⟩;unfold N1;have CY:o≠none\/¬(NY:Int)<most->Ws (sR (e_ [(eFd Au [(eV 5),(eV 6),(eV 2),(eV 3),(eV 8)]),(eV 7)])) [.sh (.int n),.sh (aE r),.sh (.int a),.sh (.int b),.sh (.int most),c5,.ow (br h),.sh (bJ o),.sh (.int NY),c9]
   (fun _=>∃ws o,RV.val .non=.val (.tup [.lst (ws.map msD),bJ o])/\Apart n r a b most ws o) (fun v _=>∃ws o,v=.val (.tup [.lst (ws.map msD),bJ o])/\Apart n r a b most ws o) (fun _=>False) (fun _=>False):=fun hend=>by
  obtain⟨ws,ep,wl,W⟩:=Az n hn r hp nd hl h hok a b a0 a1 NY (by lia) fl;refine Uz (Va (m_ (V8 (Ir (Q:=fun _ _=>True) h5 _ _ _ _ _ _ _ _ _ _ fun x hx=>?_))));refine m_ (UD rfl (m_ (Q_ rfl (m_ (Q_ rfl (m_ (Q_ rfl (R_ ?_))))))));have fin2:Apart n r a b most ws o:=⟨W,by rw[wl];exact hle,fun z=>by rw[wl];have:=hend.resolve_left (fun y=>y z);lia,fun S z=>by rw[wl];exact hs S z⟩
  rcases hx with⟨rfl,rfl⟩ | ⟨rfl,rfl⟩
  ·refine⟨_,_,_,rfl,ep,zd ws,?_⟩;refine m_ (Q_ rfl (R_ (UI ?_ rfl rfl (by exact QC rfl))));exact⟨ws,o,rfl,fin2⟩
  ·refine⟨_,_,_,rfl,ep,zd ws,?_⟩;refine m_ (Q_ rfl (R_ (UI ?_ rfl rfl (by exact QC rfl))));exact⟨ws,o,rfl,fin2⟩
 refine VW (Ux (S_ (Q_ rfl (Q_ rfl (VI (Uu ?_) rfl rfl)))));refine UQ (fun CK=>?_) fun hge=>?_
 ·refine Ux (S_ (Q_ rfl (T_ (Vg (Uu ?_) rfl rfl))));cases o with
  |some S=>refine Vl rfl ?_;exact CY (.inl (by simp))
  |none=>
   refine Vp rfl ?_;unfold Iq;obtain⟨s,es,F,hd⟩:=lC n hn (uL h (aG r)) (fun i _ _ u hu=>(uN hp ((nJ (h:=h)).mp hu).1).2) a a0 a1;have P5:=F.len;have search:∀{N:Env->Prop} {R:RV->Env->Prop} {B C:Env->Prop},(∀c5',Dq n r c5'->N [.sh (.int n),.sh (aE r),.sh (.int a),.sh (.int b),.sh (.int most),c5',.ow (br h),.sh (bJ none),.sh (.int NY),.ow (.dct (sk s) (sv s))]) ->
     Ws (sA 9 (eF ux [(eFd CZ [(eV 5),(eV 6)]),(eV 2)])) [.sh (.int n),.sh (aE r),.sh (.int a),.sh (.int b),.sh (.int most),c5,.ow (br h),.sh (bJ none),.sh (.int NY),c9] N R B C:=fun {N R B C} kN=>by
    refine Uy (UK (m_ (V8 (Ir (Q:=fun _ _=>True) h5 _ _ _ _ _ _ _ _ _ _ fun x hx=>?_)))) (by decide);refine m_ (UD rfl (R_ ?_));rcases hx with⟨rfl,rfl⟩ | ⟨rfl,rfl⟩
    ·refine⟨_,_,_,rfl,g9 n (by lia) (aG r) hR h,iE _ _,?_⟩;refine m_ (Q_ rfl (R_ (US es ?_ rfl rfl rfl rfl)));exact UO (kN _ (.inr rfl)) (by trivial)
    ·refine⟨_,_,_,rfl,g9 n (by lia) (aG r) hR h,iE _ _,?_⟩;refine m_ (Q_ rfl (R_ (US es ?_ rfl rfl rfl rfl)));exact UO (kN _ (.inr rfl)) (by trivial)
   refine Ut (search fun c5' h5'=>?_);refine UG (Ux (S_ (Q_ rfl (UD rfl (VJ (Uu ?_) rfl rfl)))));rw[lB];refine UQ (fun hb=>?_) fun hb=>?_
   ·obtain⟨w,t1,t2⟩:∃w,(b,w)∈s/\bh (sk s) (sv s) b=some (cK w):=by
     rcases rY s b with h | h
     ·exact h
     ·exact absurd hb h.1
    obtain⟨⟨w1,w2⟩,_⟩:=F.way _ t1;dsimp only at w1 w2;have w1':Way (eW r (hdF h)) a w b:=w1.mono fun _ _ z=>nJ.mp z;have wms:=rZ (fun p s (z:eW r (hdF h) p s)=>z.1) w1';have el:=pJ r hl h hok w wms;refine Ut (VL (Vf (m_ (S_ (UD rfl (Q_ rfl (U9 t2 (R_ (Vc el ?_ rfl rfl rfl)) rfl rfl))))) rfl));refine Uy (S_ (Q_ rfl (T_ (UR (Uw ?_ (by trivial)) rfl rfl)))) (by decide);have fl2:=fl.more nd w1' w2;rw[<- qw]at fl2;refine⟨(most-(NY+1:Nat)).toNat+1,by rw[hk];simp;lia,c5',bS h w,none,NY+1,.ow (.dct (sk s) (sv s)),?_,h5',hok.Dj wms,fl2,by lia,by simp,by simp⟩;have:((NY:Int)+1)=((NY+1:Nat):Int):=by lia
    rw[this]
   ·refine Uy (UC (m_ (UC (m_ (UD rfl (R_ (WH (ks:=sk s) (vs:=sv s) ?_ rfl (by simp only[sk,gc];lia)))))))) (by decide);refine R_ (Wo ?_ rfl);refine Uw ?_ (by trivial);have pm:=bF ltI (sk s);have hS:∀x,x∈bK ltI (sk s)↔x∈sk s:=fun x=>pm.mem_iff;refine⟨(most-NY).toNat,by rw[hk];simp,c5',h,some (bK ltI (sk s)),NY,.ow (.dct (sk s) (sv s)),rfl,h5',hok,fl,hle,fun S z=>?_,by simp⟩;cases z;refine⟨⟨Dl F.nd,fun x hx=>F.pl x ((hS x).mp hx),(hS a).mpr F.st,fun z=>hb ((hS b).mp z)⟩,?_,CK⟩;have:=fl.cut (S:=fun y=>decide (y∈bK ltI (sk s))) (decide_eq_true ((hS a).mpr F.st)) (decide_eq_false fun z=>hb ((hS b).mp z)) fun y u hy hu=>decide_eq_true ((hS _).mpr (hd y ((hS y).mp (of_decide_eq_true hy)) u (nJ.mpr hu)));unfold pK;rw[gc];exact this
 ·refine Vl rfl ?_;exact CY (.inr hge)
theorem di(x n:Int)(h:1<=n):0<=x % n/\x % n<n:=⟨Int.emod_nonneg x (by lia),Int.emod_lt_of_pos x (by lia)⟩
noncomputable def at'(ns:List Int)(i:Int):Int:=ns.getD i.toNat 0
theorem Lc(ns:List Int)(i:Int)(h0:0<=i)(h1:i<ns.length):gIx (.lst (ns.map Dat.int)) (.int i)=some (.val (.int (at' ns i))):=by show (atI (ns.map Dat.int) i).map RV.val=_;rw[Dm.gK Dat.int ns i h0 h1];unfold at';rw[Rf,Qz (by lia)];rfl
theorem Dr{o p:Option Dat}(h0:0<=i)(h1:i<ns.length)(k:K (.val (.int (at' ns i))))(ho:o=some (.lst (ns.map Dat.int)))(hp:p=some (.int i)):Wg2 gIx o p K:=⟨_,_,_,ho,hp,Lc ns i h0 h1,k⟩
theorem VC{i j:Int}{o p:Option Dat}(k:K (.val (.int (i*j))))(ho:o=some (.int i))(hp:p=some (.int j))(h:i.natAbs.log2<1000000/\j.natAbs.log2<1000000):Wg2 jM o p K:=⟨_,_,_,ho,hp,by unfold jM;dsimp only;rw[if_pos h],k⟩
noncomputable def az(x:Int):Dat:=.lst [.int x]
noncomputable abbrev Z60:Int:=1000000000000000000000000000000000000000000000000000000000000
theorem l5(ns:List Int)(k:Int)(h0:0<=k)(h1:k<1000):∃x,lA [.lst (ns.map Dat.int),.int k]=some (.new (az x)):=by
 suffices h:Wr (lA [.lst (ns.map Dat.int),.int k]) fun v=>∃x,v=.new (az x) by obtain⟨v,h1,c,rfl⟩:=h;exact⟨c,h1⟩
 unfold lA
 (refine Dm.UN ?_ rfl rfl;and_intros)
 refine Ut (Uy (T_ (Uw ?_ (by trivial))) (by decide));refine UZ (fun ρ=>∃c:Int,ρ=[.sh (.lst (ns.map Dat.int)),.sh (.int k),.sh (.int c),.un,.un,.un]) ?_ ?_
 ·repeat array_get_dec
  refine⟨fun h=>?_,fun h=>?_⟩
  ·have h:=of_decide_eq_true h
   repeat array_get_dec
   refine Dr h0 (by simpa using h) ?_ rfl rfl
   repeat array_get_dec
   exact⟨_,rfl⟩
  ·repeat array_get_dec
   exact⟨_,rfl⟩
 rintro ρ ⟨c,rfl⟩;refine Ut (UG (Ux (S_ (Q_ rfl (S_ (T_ (T_ (Vx (z:=1000000000000000000) ?_ rfl rfl (by decide) (by decide)))))))));refine VX (Uu ?_) rfl rfl;have p60:∀{K:RV->Prop} {o p:Option Dat},K (.val (.int Z60))->o=some (.int 10)->p=some (.int 60)->Wg2 jx o p K:=fun k ho hp=>Vx (z:=Z60) k ho hp (by decide) (by decide +kernel);refine⟨fun h=>?_,fun h=>?_⟩
 ·refine Uz (U0 (m_ (S_ (Q_ rfl ?_))));refine S_ (S_ (S_ (S_ (S_ (T_ (T_ (p60 ?_ rfl rfl)))))));refine S_ (T_ (T_ (p60 ?_ rfl rfl)));refine VC ?_ rfl rfl (by decide +kernel);refine S_ (T_ (T_ (p60 ?_ rfl rfl)));refine VC ?_ rfl rfl (by decide +kernel);refine S_ (T_ (T_ (p60 ?_ rfl rfl)));refine VC ?_ rfl rfl (by decide +kernel);refine S_ (T_ (T_ (p60 ?_ rfl rfl)));refine VC ?_ rfl rfl (by decide +kernel);refine U8 ?_ rfl rfl (by decide +kernel);refine R_ (UI ?_ rfl rfl (by exact QC rfl));exact⟨_,rfl⟩
 ·refine UB ?_;refine UZ (fun ρ=>∃x:Int,(0<=x/\x<2147483647)/\ρ=[.sh (.lst (ns.map Dat.int)),.sh (.int k),.sh (.int c),.sh (.int x),.un,.un]) ?_ ?_
  ·repeat array_get_dec
   ·exact⟨_,di _ _ (by decide),rfl⟩
   ·exact .inr (by unfold B64;lia)
  rintro ρ ⟨x,hx,rfl⟩;refine Ut (Uy (T_ (Uw ?_ (by trivial))) (by decide));refine Ut (U3 (Vw (T_ (cC.mk ⟨?_,by decide,by decide⟩))));refine UU (fun i:Nat=>Dat.int (0+(i:Nat))) _ _ (QG 40) _ _ _ _ _ (fun p q ρ=>∃(x f:Int) (c5:Cell),(0<=x/\x<2147483647)/\ρ=[.sh (.lst (ns.map Dat.int)),.sh (.int k),.sh (.int c),.sh (.int x),.sh (.int f),c5]) ⟨_,_,_,hx,rfl⟩ ?_ ?_
  ·rintro p i q ρ e ⟨x,f,c5,hx,rfl⟩;refine Dm.bG rfl (by trivial) ?_;unfold C7;refine UZ (fun ρ=>∃y:Int,(0<=y/\y<2147483647)/\ρ=[.sh (.lst (ns.map Dat.int)),.sh (.int k),.sh (.int c),.sh (.int y),.sh (.int f),.sh (.int (0+(i:Nat)))]) ?_ ?_
   ·repeat array_get_dec
    exact⟨_,by have:=di (x*48271+7919*(0+((i:Nat):Int))+3) 2147483629 (by decide);lia,rfl⟩
   rintro ρ ⟨y,hy,rfl⟩;refine UZ (fun ρ=>∃y:Int,(0<=y/\y<2147483647)/\ρ=[.sh (.lst (ns.map Dat.int)),.sh (.int k),.sh (.int c),.sh (.int y),.sh (.int f),.sh (.int (0+(i:Nat)))]) ?_ ?_
   ·repeat array_get_dec
    ·exact⟨_,by have:=di (y*y) 2147483587 (by decide);lia,rfl⟩
    ·exact .inl (by unfold B64;lia)
   rintro ρ ⟨z,hz,rfl⟩
   repeat array_get_dec
   exact⟨_,_,_,hz,rfl⟩
  ·rintro ρ ⟨x,f,c5,hx,rfl⟩
   repeat array_get_dec
   exact⟨_,rfl⟩
theorem GR(x m:Int)(h0:0<m)(h1:m<dI):aX [az x,.int m]=some (.val (.int (x % m)),az (x / m)):=by
 suffices h:WrM (aX [az x,.int m]) fun v d=>v=.val (.int (x % m))/\d=az (x / m) by obtain⟨v,d,h1,rfl,rfl⟩:=h;exact h1
 unfold aX;refine U_ ?_ rfl rfl;and_intros;unfold az
 repeat array_get_dec
 ·refine Wf ?_
  repeat array_get_dec
  ·refine⟨_,0,_,rfl,rfl,rfl,?_⟩
   repeat array_get_dec
   exact⟨_,rfl,rfl,rfl⟩
  ·exact⟨h0,h1⟩
 ·exact h0
def Wtk(j:Nat)(m:Int)(ρ1:Env)(Q:Val->Env->Prop):Prop:=∃x ρ3,Q (.val (.int (x % m))) ρ3/\ρ1[j]?=some (.ow (az x))/\ρ1.set j (.ow (az (x / m)))=ρ3/\0<m/\m<dI
theorem ze{x m:Int}{ρ1 ρ3:Env}(q:Q (.val (.int (x % m))) ρ3)(h2:ρ1[j]?=some (.ow (az x)))(hn:ρ1.set j (.ow (az (x / m)))=ρ3)(h0:0<m)(h1:m<dI):Wtk j m ρ1 Q:=⟨_,_,q,h2,hn,h0,h1⟩
theorem V3{a:FE}{d0:Dat}(h:We a ρ fun v ρ1=>cC v fun m=>Wtk j m ρ1 Q)(h0:ρ[j]?=some (.ow d0)):We (eFm aX j [a]) ρ Q:=by refine Vf (m_ ?_) h0;obtain⟨v,ρ1,e1,m,rfl,x,ρ3,q,e2,e3,m0,m1⟩:=h;exact⟨_,_,e1,R_ (Vc (GR x m m0 m1) q e2 rfl e3)⟩
theorem UJ{a:FE}{x m:Int}(ha:a ρ=some (.val (.int m),ρ))(h0:0<m)(h1:m<dI)(hj:ρ[j]?=some (.ow (az x)))(k:∀t x':Int,0<=t->t<m->∀ρ3,ρ.set j (.ow (az x'))=ρ3->Q (.val (.int t)) ρ3):We (eFm aX j [a]) ρ Q:=
 V3 ⟨_,_,ha,m,rfl,ze (k _ _ (di x m (by lia)).1 (di x m (by lia)).2 _ rfl) hj rfl h0 h1⟩ hj
def Good(n:Int):Int->List Tie->Prop
 |_,[]=>True
 |lo,t::r=>lo<=t.m/\0<=t.a/\t.a<=t.b/\t.b<n/\Good n (t.m+1) r
theorem Good.pl{n:Nat}:∀{r:List Tie} {lo:Int},Good n lo r->Pl n r
 |[],_,_,t,ht=>by cases ht
 |u::r,lo,h,t,ht=>by
  obtain⟨h1,h2,h3,h4,h5⟩:=h;rcases Qw.mp ht with rfl | ht
  ·lia
  ·exact Good.pl h5 t ht
theorem Good.lo:∀{r:List Tie} {lo:Int},Good n lo r->∀t∈r,lo<=t.m
 |[],_,_,t,ht=>by cases ht
 |u::r,lo,h,t,ht=>by
  obtain⟨h1,h2,h3,h4,h5⟩:=h;rcases Qw.mp ht with rfl | ht
  ·exact h1
  ·have:=Good.lo h5 t ht;lia
theorem Good.nd:∀{r:List Tie} {lo:Int},Good n lo r->(r.map (·.m)).Nodup
 |[],_,_=>by simp
 |u::r,lo,h=>by
  obtain⟨h1,h2,h3,h4,h5⟩:=h;rw[gp,QB];refine⟨fun z=>?_,Good.nd h5⟩;obtain⟨t,ht,e⟩:=QF.mp z;have:=Good.lo h5 t ht
  lia
theorem Good.weak:∀{r:List Tie} {lo lo':Int},lo'<=lo->Good n lo r->Good n lo' r
 |[],_,_,_,_=>trivial
 |_::_,_,_,h,k=>⟨by have:=k.1;lia,k.2⟩
theorem Good.filter(p:Tie->Bool):∀{r:List Tie} {lo:Int},Good n lo r->Good n lo (r.filter p)
 |[],_,_=>trivial
 |u::r,lo,h=>by
  obtain⟨h1,h2,h3,h4,h5⟩:=h;by_cases q:p u=true
  ·rw[RH q];exact⟨h1,h2,h3,h4,Good.filter p h5⟩
  ·rw[RG q];exact Good.weak (by lia) (Good.filter p h5)
theorem VM{s:FS}{Q B C:Env->Prop}(h:∀K:Env->Prop,(∀ρ,Q ρ->K ρ)->Ws s ρ K R B C):Ws s ρ Q R B C:=h Q fun _ h=>h
theorem Good.snoc:∀{r:List Tie} {lo hi:Int} {t:Tie},Good n lo r->(∀u∈r,u.m<hi)->lo<=hi->hi=t.m->0<=t.a->t.a<=t.b->t.b<n->Good n lo (r++[t])
 |[],_,_,_,_,_,h,e,h1,h2,h3=>⟨by lia,h1,h2,h3,trivial⟩
 |u::r,lo,hi,t,h,hu,hl,e,h1,h2,h3=>by obtain⟨k1,k2,k3,k4,k5⟩:=h;exact⟨k1,k2,k3,k4,Good.snoc k5 (fun v hv=>hu v (Pa _ hv)) (by have:=hu u gV;lia) e h1 h2 h3⟩
theorem GS(x:Int):∃(n x':Int),uD [az x]=some (.val (.int n),az x')/\1<=n/\n<=10:=by
 suffices h:WrM (uD [az x]) fun v d=>∃n x':Int,v=.val (.int n)/\d=az x'/\1<=n/\n<=10 by obtain⟨v,d,h1,n,x',rfl,rfl,h2⟩:=h;exact⟨n,x',h1,h2⟩
 unfold uD;refine U_ ?_ rfl rfl;and_intros;refine Uz (S_ ?_)
 ((with_reducible refine Dm.U0 ?_);(with_reducible refine Dm.m_ ?_);(with_reducible refine Dm.T_ ?_);(with_reducible refine Dm.m_ ?_);(with_reducible refine Dm.T_ ?_);(with_reducible refine Dm.m_ ?_);(with_reducible refine Dm.T_ ?_);(with_reducible refine Dm.m_ ?_);(with_reducible refine Dm.T_ ?_);(with_reducible refine Dm.m_ ?_);(with_reducible refine Dm.T_ ?_);(with_reducible refine Dm.m_ ?_);(with_reducible refine Dm.T_ ?_);(with_reducible refine Dm.m_ ?_);(with_reducible refine Dm.T_ ?_);(with_reducible refine Dm.m_ ?_);(with_reducible refine Dm.T_ ?_);(with_reducible refine Dm.R_ ?_);(refine Dm.UI ?_ rfl (by trivial) (by exact QC rfl)))
 refine UJ (m:=8) rfl (by decide) (by decide) rfl fun t x' h0 h1 ρ3 e=>?_;subst e;have:t=0\/t=1\/t=2\/t=3\/t=4\/t=5\/t=6\/t=7:=by lia
 rcases this with rfl | rfl | rfl | rfl | rfl | rfl | rfl | rfl <;>
 ·refine Uv ?_ rfl rfl rfl;exact⟨_,rfl,_,x',rfl,rfl,by decide,by decide⟩
theorem ix4(a b c d:Int)(x:Int)(h0:0<=x)(h:x<4):gIx (.lst [.int a,.int b,.int c,.int d]) (.int x)=some (.val (.int (if x=0 then a else if x=1 then b else if x=2 then c else d))):=by
 have:x=0\/x=1\/x=2\/x=3:=by lia
 rcases this with rfl | rfl | rfl | rfl<;>rfl
noncomputable abbrev Z28:Int:=10000000000000000000000000000
noncomputable abbrev Z30:Int:=1000000000000000000000000000000
noncomputable def RE(pool:Int)(n most many kind step times way Ld:Int)(r:List Tie)(c10 c11 c12:Cell):Env:=
 [.ow (az pool),.sh (.int n),.sh (.int most),.sh (.int many),.sh (.int kind),.sh (.int step),.sh (.int times),.sh (.int way),.sh (.int Ld),.ow (aE r),c10,c11,c12]
theorem GU(a b:Int):(if b<a then b else a)<=(if b>a then b else a):=by split<;>split<;>lia
theorem AA(x n most:Int)(n1:1<=n)(n10:n<=10)(m0:0<=most)(m60:most<=60) :
  ∃(r:List Tie) (x':Int),qu [az x,.int n,.int most]=some (.new (aE r),az x')/\Good n 0 r/\(r.length:Int)<=most/\∀t∈r,t.m<=Z30:=by
 suffices hh:WrM (qu [az x,.int n,.int most]) fun v d=>∃(r:List Tie) (x':Int),v=.new (aE r)/\d=az x'/\Good n 0 r/\(r.length:Int)<=most/\∀t∈r,t.m<=Z30 by obtain⟨v,d,h1,h,x',rfl,rfl,h2⟩:=hh;exact⟨h,x',h1,h2⟩
 suffices hK:∀K:RV->Dat->Prop,(∀v d,(∃(r:List Tie) (x':Int),v=.new (aE r)/\d=az x'/\Good n 0 r/\(r.length:Int)<=most/\∀t∈r,t.m<=Z30)->K v d)->WrM (qu [az x,.int n,.int most]) K from hK _ fun _ _ h=>h
 intro K hK;unfold qu;refine U_ ?_ rfl rfl;and_intros;refine Ut (Uy ?_ (by decide));refine UJ (m:=most+1) rfl (by lia) (by unfold dI;lia) rfl fun many x1 h1 h2 ρ3 e=>?_;subst e;refine Uw ?_ (by trivial);refine Ut (Uy ?_ (by decide));refine UJ (m:=4) rfl (by decide) (by decide) rfl fun kind x2 k1 k2 ρ3 e=>?_;subst e;refine Uw ?_ (by trivial);refine UZ (fun ρ=>∃step:Int,(1<=step/\step<=1000000/\(kind=3->step<=1000))/\ρ=[.ow (az x2),.sh (.int n),.sh (.int most),.sh (.int many),.sh (.int kind),.sh (.int step),.un,.un,.un,.un,.un,.un,.un]) ?_ ?_
 ·refine VM fun K0 hK0=>?_;refine Uy (S_ (U0 (m_ (T_ (m_ (T_ (m_ (S_ (T_ (T_ (Vx (z:=1000000) ?_ rfl rfl (by decide) (by decide)))))))))))) (by decide);refine m_ (T_ (R_ (UI ?_ rfl rfl (by exact QC rfl))));refine Q_ rfl (Uv ?_ rfl rfl (ix4 1 3 1000000 1000 kind k1 k2));refine Uw ?_ (by trivial);refine hK0 _ ⟨_,?_,rfl⟩;have:kind=0\/kind=1\/kind=2\/kind=3:=by lia
  rcases this with q | q | q | q<;>rw[q]<;>decide
 rintro ρ ⟨step,hs,rfl⟩;refine UZ (fun ρ=>∃times:Int,(0<=times/\step*times<=Z28)/\ρ=[.ow (az x2),.sh (.int n),.sh (.int most),.sh (.int many),.sh (.int kind),.sh (.int step),.sh (.int times),.un,.un,.un,.un,.un,.un]) ?_ ?_
 ·refine VM fun K1 hK1=>?_;refine Uy (S_ (U0 (m_ (T_ (m_ (S_ (T_ (T_ (Vx (z:=10000000000000000000000000) ?_ rfl rfl (by decide) (by decide)))))))))) (by decide);refine R_ (UI ?_ rfl rfl (by exact QC rfl));refine UC (m_ (S_ (Q_ rfl (T_ (UL ?_ rfl rfl)))));refine R_ (Wd ?_ rfl);by_cases q:kind=3
  ·rw[decide_eq_true q];refine Uv (v:=.int 10000000000000000000000000) ?_ rfl rfl rfl;exact Uw (hK1 _ ⟨10000000000000000000000000,⟨by decide,by have:=hs.2.2 q;unfold Z28;lia⟩,rfl⟩) (by trivial)
  ·rw[decide_eq_false q];refine Uv (v:=.int 1) ?_ rfl rfl rfl;exact Uw (hK1 _ ⟨1,⟨by decide,by unfold Z28;lia⟩,rfl⟩) (by trivial)
 rintro ρ ⟨times,⟨ht,hst⟩,rfl⟩;have tb:∀t:Int,0<=t->t<step->t*times<=Z28:=fun t _ t2=>Int.le_trans (Int.mul_le_mul_of_nonneg_right (Uj t2) ht) hst;refine Ut (Uy ?_ (by decide));refine UJ (m:=4) rfl (by decide) (by decide) rfl fun way x3 w1 w2 ρ3 e=>?_;subst e;refine Uw ?_ (by trivial);refine UZ (fun ρ=>∃x4 mo:Int,(0<=mo/\mo<=Z28)/\ρ=[.ow (az x4),.sh (.int n),.sh (.int most),.sh (.int many),.sh (.int kind),.sh (.int step),.sh (.int times),.sh (.int way),.sh (.int mo),.un,.un,.un,.un]) ?_ ?_
 ·refine VM fun K2 hK2=>?_;refine Uy (S_ ?_) (by decide);refine UJ (m:=step) rfl (by lia) (by unfold dI;lia) rfl fun t x4 t1 t2 ρ3 e=>?_;subst e;refine Q_ rfl (Vy ?_ rfl rfl (.inl (by unfold B64;lia)));exact Uw (hK2 _ ⟨_,_,⟨Int.mul_nonneg t1 ht,tb t t1 t2⟩,rfl⟩) (by trivial)
 rintro ρ ⟨x4,mo,hmo,rfl⟩;refine Ut (Uy (U0 (R_ (UI ?_ rfl rfl (by decide)))) (by decide));refine UO ?_ (by trivial);refine Ut (U3 (Vw (Q_ rfl (cC.mk ⟨?_,by unfold BIG;lia⟩))));refine UU (fun i:Nat=>Dat.int (0+(i:Nat))) _ _ (QG many.toNat) _ _ _ _ _ (fun p q ρ=>∃(x mo:Int) (r:List Tie) (c10 c11 c12:Cell),ρ=RE x n most many kind step times way mo r c10 c11 c12/\Good n 0 r/\r.length=p.length/\(∀u∈r,u.m<mo)/\0<=mo/\mo<=((p.length:Int)+1)*(Z28+1))
  ⟨_,_,[],_,_,_,rfl,trivial,rfl,(fun u hu=>by cases hu),hmo.1,by have:=hmo.2;simp;lia⟩ ?_ ?_
 ·rintro p i q ρ e ⟨x,mo,r,c10,c11,c12,rfl,hg,hl,hu,hm,hM⟩;have lp:p.length<100:=by
   have:(QG many.toNat).length=p.length+(q.length+1):=by rw[e];simp
   rw[Rg]at this;lia
  unfold RE;refine Dm.bG rfl (by trivial) ?_;unfold C8;refine VM fun KL hKL=>?_;refine Ut (Uy ?_ (by decide));refine UJ (m:=n) rfl (by lia) (by unfold dI;lia) rfl fun one y1 o1 o2 ρ3 e=>?_;subst e;refine Uw ?_ (by trivial);refine Ut (Uy ?_ (by decide));refine UJ (m:=n) rfl (by lia) (by unfold dI;lia) rfl fun oth y2 u1 u2 ρ3 e=>?_;subst e;refine Uw ?_ (by trivial);refine UZ (fun ρ=>∃o:Int,(0<=o/\o<n)/\ρ=RE y2 n most many kind step times way mo r (.sh (.int (0+(i:Nat)))) (.sh (.int one)) (.sh (.int o))) ?_ ?_
  ·refine VM fun K3 hK3=>?_;refine UG (Ux (S_ (Q_ rfl (T_ (UL (Uu ?_) rfl rfl)))));refine UQ (fun _=>?_) fun _=>?_
   ·refine Uy (S_ (S_ (Q_ rfl (T_ (UR (Q_ rfl (U8 ?_ rfl rfl (by lia))) rfl rfl))))) (by decide);exact Uw (hK3 _ ⟨_,di _ n n1,rfl⟩) (by trivial)
   ·exact UB (hK3 _ ⟨oth,⟨u1,u2⟩,rfl⟩)
  rintro ρ ⟨o,⟨q1,q2⟩,rfl⟩;refine UZ (fun ρ=>∃o:Int,(0<=o/\o<n)/\ρ=RE y2 n most many kind step times way mo r (.sh (.int (0+(i:Nat)))) (.sh (.int one)) (.sh (.int o))) ?_ ?_
  ·refine VM fun K4 hK4=>?_;unfold RE;refine UG (Ux (S_ (Q_ rfl (T_ (UL (Uu ?_) rfl rfl)))));refine UQ (fun _=>?_) fun _=>?_
   ·refine Uy (S_ (S_ (S_ (S_ (Q_ rfl (S_ (Q_ rfl (T_ (U8 ?_ rfl rfl (by decide)))))))))) (by decide);refine UR ?_ rfl rfl;refine T_ (UR ?_ rfl rfl);refine UC (m_ (Q_ rfl (m_ (T_ (R_ (Vz ?_ rfl))))));refine U8 ?_ rfl rfl (by split<;>lia);refine Q_ rfl (U8 ?_ rfl rfl (by lia));exact Uw (hK4 _ ⟨_,di _ n n1,rfl⟩) (by trivial)
   ·exact UB (hK4 _ ⟨o,⟨q1,q2⟩,rfl⟩)
  rintro ρ ⟨o,⟨q1,q2⟩,rfl⟩;unfold RE;refine Ut (Vt (Va (m_ (Q_ rfl (m_ (UC (m_ (Q_ rfl (m_ (Q_ rfl (R_ (Vz ?_ rfl))))))))))) rfl);refine m_ (UC (m_ (Q_ rfl (m_ (Q_ rfl (R_ (Vo ?_ rfl)))))));refine R_ (UI ?_ rfl rfl (by exact QC rfl));refine UE (rT ?_ rfl (by trivial) (by rw[gc];unfold SZ;lia));refine Uy (S_ (S_ (Q_ rfl (T_ (UR ?_ rfl rfl))))) (by decide);refine S_ ?_;refine UJ (m:=step) rfl (by lia) (by unfold dI;lia) rfl fun t x4 t1 t2 ρ3 e=>?_;subst e;refine Q_ rfl (Vy ?_ rfl rfl (.inl (by unfold B64;lia)));refine UR ?_ rfl rfl;refine Uw ?_ (by trivial);have tn:=Int.mul_nonneg t1 ht;refine hKL _ ⟨x4,mo+1+t*times,r++[⟨mo,(if o<one then o else one),(if o>one then o else one)⟩],.sh (.int (0+(i:Nat))),.sh (.int one),.sh (.int o),?_,?_,by simp[hl],?_,by lia,?_⟩
  ·unfold aE;rw[QK];rfl
  ·refine Good.snoc (hi:=mo) hg hu hm rfl ?_ (GU one o) ?_
   ·show 0<=(if o<one then o else one);split<;>lia
   ·show (if o>one then o else one)<n;split<;>lia
  ·intro u hu';rcases QE.mp hu' with h | h
   ·have:=hu u h;lia
   ·rw[QN.mp h];show mo<_;lia
  ·have:=tb t t1 t2;rw[Qv,RM];have e:(((p.length+1:Nat):Int)+1)*(Z28+1)=((p.length:Int)+1)*(Z28+1)+(Z28+1):=by
    rw[Int.natCast_add,Up (((p.length:Int))+((1:Nat):Int)) 1,Int.one_mul];rfl
   rw[e]
   lia
 ·rintro ρ ⟨x,mo,r,c10,c11,c12,rfl,hg,hl,hu,hm,hM⟩;unfold RE;refine Uz (UD rfl (Vh ?_ rfl));rw[Rg]at hM hl;refine⟨_,rfl,hK _ _ ⟨r,x,rfl,rfl,hg,?_,fun t ht=>?_⟩⟩
  ·rw[hl]
   lia
  ·have h1:=hu t ht;have h2:((many.toNat:Int)+1)*(Z28+1)<=61*(Z28+1):=Int.mul_le_mul_of_nonneg_right (by lia) (by decide);have h3:(61:Int)*(Z28+1)<=Z30:=by decide
   lia
theorem iF(r:List Tie):okD 8 (aE r)=true:=CM bI r fun t=>rfl
theorem Le(r:List Tie)(i:Int)(h0:0<=i)(h1:i<r.length):gIx (aE r) (.int i)=some (.val (bI (r[i.toNat]'(by omega)))):=by unfold aE gIx;dsimp only;rw[gK bI r i h0 h1];rfl
theorem Dt(r:List Tie)(t:Tie):gIx (aE (r++[t])) (.int (-1))=some (.val (bI t)):=by
 unfold aE gIx atI ixN;dsimp only;rw[gc,Qv,RM,if_neg (by decide),if_pos (by lia)];have:(-1+((r.length+1:Nat):Int)).toNat=r.length:=by lia
 rw[this];simp
theorem AB(x:Int)(r:List Tie)(hr:∀t∈r,0<=t.m)(hl:r.length<=1000):∃(t x':Int),uE [az x,aE r]=some (.val (.int t),az x')/\0<=t:=by
 suffices h:WrM (uE [az x,aE r]) fun v d=>∃t x':Int,v=.val (.int t)/\d=az x'/\0<=t by obtain⟨v,d,h1,n,x',rfl,rfl,h2⟩:=h;exact⟨n,x',h1,h2⟩
 unfold uE;refine U_ ?_ rfl rfl;and_intros;refine Ut (UG (Ux (S_ (Q_ rfl (U0 (R_ (UI ?_ rfl rfl (by decide))))))));refine Vu (xs:=r.map bI) (Uu ?_) rfl rfl (iF r);rcases List.eq_nil_or_concat r with e | ⟨r0,tl,e⟩
 ·subst e;refine Vp rfl ?_;refine Uz ?_;refine UJ (m:=3) rfl (by decide) (by decide) rfl fun t x' h0 h1 ρ3 e=>?_;subst e;exact⟨_,rfl,t,x',rfl,rfl,h0⟩
 ·rw[List.concat_eq_append]at e;have NW:(r.map bI).isEmpty=false:=by rw[e];simp
  rw[NW];refine Vl rfl (UB ?_);have ur:r.length=r0.length+1:=by rw[e];simp
  refine UZ (fun ρ=>∃(at_ x1:Int),0<=at_/\ρ=[.ow (az x1),.sh (aE r),.sh (.int at_)]) ?_ ?_
  ·refine Uy (S_ (S_ (Q_ rfl ?_))) (by decide);refine V3 (UC (m_ (Q_ rfl (R_ (U7 (kM:=bI) (xs:=r) (cC.mk ?_) rfl))))) rfl;refine ze ?_ rfl rfl (by lia) (by unfold dI;lia);have hi:=di x r.length (by lia);refine Uv ?_ rfl rfl (Le r _ hi.1 hi.2);refine T_ (Uv ?_ rfl rfl rfl);exact Uw ⟨_,_,hr _ (RC _),rfl⟩ (by trivial)
  rintro ρ ⟨at_,x1,ha,rfl⟩;refine Uz (S_ ?_);refine U0 (m_ (T_ (m_ (Q_ rfl (m_ (S_ (Q_ rfl (T_ (UR ?_ rfl rfl)))))))));refine m_ (UC (m_ (T_ (m_ (S_ (Q_ rfl (T_ (U5 ?_ rfl rfl))))))));refine R_ (Vo ?_ rfl);refine m_ (S_ (S_ (S_ (Q_ rfl (U6 (T_ (UX ?_ rfl rfl)))))));refine Uv ?_ rfl rfl (by rw[e];exact Dt r0 tl);refine T_ (Uv ?_ rfl rfl rfl);refine T_ (UR ?_ rfl rfl);refine m_ (Q_ rfl (R_ (UI ?_ rfl rfl (by exact QC rfl))));refine UJ (m:=6) rfl (by decide) (by decide) rfl fun t x' h0 h1 ρ3 e'=>?_;subst e';have htl:0<=tl.m:=hr tl (by rw[e];simp);have:t=0\/t=1\/t=2\/t=3\/t=4\/t=5:=by lia
  rcases this with rfl | rfl | rfl | rfl | rfl | rfl
  ·exact Uv (⟨_,rfl,_,x',rfl,rfl,by decide⟩) rfl rfl rfl
  ·exact Uv (⟨_,rfl,_,x',rfl,rfl,ha⟩) rfl rfl rfl
  ·exact Uv (⟨_,rfl,_,x',rfl,rfl,by lia⟩) rfl rfl rfl
  ·exact Uv (⟨_,rfl,_,x',rfl,rfl,by split<;>lia⟩) rfl rfl rfl
  ·exact Uv (⟨_,rfl,_,x',rfl,rfl,by lia⟩) rfl rfl rfl
  ·exact Uv (⟨_,rfl,_,x',rfl,rfl,ha⟩) rfl rfl rfl
noncomputable def gF(r:List Tie)(t:Int):List Tie:=r.filter fun x=>decide (t<=x.m)
theorem nK(r:List Tie)(hl:r.length<=1000)(t:Int):uB [aE r,.int t]=some (.new (aE (gF r t))):=by
 apply UP;unfold uB
 (refine Dm.UN ?_ rfl rfl;and_intros)
 refine Uz ?_;refine VH bI r (fun x=>decide (t<=x.m)) id bI (d:=aE r) ?_ rfl rfl rfl (by decide) (by unfold SZ;lia) (fun u _=>?_) fun u _ _=>?_
 ·rw[R3];rfl
 ·exact Ux (S_ (S_ (Q_ rfl (T_ (Uv (Q_ rfl (VX (Uu ⟨rfl,rfl⟩) rfl rfl)) rfl rfl rfl)))))
 ·exact Q_ rfl (UE ⟨rfl,rfl⟩)
theorem nM(i:Int):GG [.int i]=some (.val (.bl true)):=by
 apply UP;unfold GG
 (refine Dm.UN ?_ rfl rfl;and_intros)
 refine Uz (UW (U6 (Q_ rfl (UX ?_ rfl rfl))));refine Uu (UH (Wh (U6 (Q_ rfl (UX ?_ rfl rfl)))));exact Uu rfl
theorem AD(i lo hi:Int)(h0:lo<=i)(h1:i<=hi):Av [.int i,.int lo,.int hi]=some (.val (.bl true)):=by unfold Av;simp[fn,sR,dX,eF,eAs,eV,pks,pk,nM,RV.a_,RV.dat,cj,eN,gLe,h0,h1]
theorem uP(n i:Int)(h0:0<=i)(h1:i<n):uy [.int n,.int i]=some (.val (.bl true)):=by
 apply UP;unfold uy
 (refine Dm.UN ?_ rfl rfl;and_intros)
 refine Uz (UK (m_ (Q_ rfl (m_ (T_ (m_ (S_ (Q_ rfl (T_ (U5 ?_ rfl rfl))))))))));refine R_ (UM (AD i 0 (n-1) h0 (by lia)) ?_ rfl rfl);rfl
theorem zf(n a b:Int)(a0:0<=a)(a1:a<n)(b0:0<=b)(b1:b<n)(h:a≠b):uz [.int n,.int a,.int b]=some (.val (.bl true)):=by
 apply UP;unfold uz
 (refine Dm.UN ?_ rfl rfl;and_intros)
 refine Uz (UW (UK (m_ (Q_ rfl (m_ (Q_ rfl (R_ (UM (uP n a a0 a1) ?_ rfl rfl))))))));refine Uu (UH (UW (UK (m_ (Q_ rfl (m_ (Q_ rfl (R_ (UM (uP n b b0 b1) ?_ rfl rfl)))))))));refine Uu (UH (S_ (Q_ rfl (Q_ rfl (Vi ?_ rfl rfl)))));rw[decide_eq_false h];rfl
theorem r9(n a b:Int)(a0:0<=a)(a1:a<n)(b0:0<=b)(b1:b<n)(h:a≠b):yU [.int n,.int a,.int b]=some (.val .non):=by
 apply UP;unfold yU
 (refine Dm.UN ?_ rfl rfl;and_intros)
 refine UG (U4 (Ux (UK (m_ (Q_ rfl (m_ (Q_ rfl (m_ (Q_ rfl (R_ (UM (zf n a b a0 a1 b0 b1 h) ?_ rfl rfl)))))))))));exact Uu (UA (UB rfl))
theorem Good.since{lo t:Int}(h:Good n lo r):Good n lo (gF r t):=h.filter _
theorem l6(r:List Tie)(t:Int):(gF r t).length<=r.length:=RB _ _
theorem xm(n:Nat)(hn:n<=40)(r:List Tie)(hg:Good n 0 r)(hl:r.length<=1000)(a b:Int)(a0:0<=a)(a1:a<n)(b0:0<=b)(b1:b<n)(h:a≠b)(most:Int)(m0:0<=most)(m1:most<=90)(t:Int) :
  ∃ws o,uC [.int n,aE r,.int a,.int b,.int most,.int t]=some (.val (.tup [.int (ws.length:Nat),.lst (ws.map msD),bJ o]))/\Apart n (gF r t) a b most ws o:=by
 obtain⟨ws,o,e,A⟩:=pL n hn (gF r t) hg.since.pl hg.since.nd (QT (l6 r t) hl) a b a0 a1 b0 b1 most m0 m1;refine⟨ws,o,?_,A⟩;apply UP;unfold uC
 (refine Dm.UN ?_ rfl rfl;and_intros)
 refine Ut (VL (UK (m_ (Q_ rfl (m_ (Q_ rfl (m_ (Q_ rfl (R_ (UM (r9 n a b a0 a1 b0 b1 h) ?_ rfl rfl))))))))));refine Ut (Uy (UK (m_ (Q_ rfl (m_ (UK (m_ (Q_ rfl (m_ (Q_ rfl (R_ (US (nK r hl t) ?_ rfl rfl rfl rfl))))))))))) (by decide));refine m_ (Q_ rfl (m_ (Q_ rfl (m_ (Q_ rfl (R_ (US e ?_ rfl rfl rfl rfl)))))));refine Uw ?_ (by trivial);refine Uz (Va (m_ (UC (m_ (S_ (Q_ rfl (T_ (Uv ?_ rfl rfl rfl))))))));refine R_ (U7 (kM:=msD) (xs:=ws) ?_ rfl);refine m_ (S_ (Q_ rfl (T_ (Uv ?_ rfl rfl rfl))));refine m_ (S_ (Q_ rfl (T_ (Uv ?_ rfl rfl rfl))));refine R_ (UI ?_ rfl rfl (by exact QC rfl));rfl
noncomputable def b7(t:Tie):Bool:=!decide (t.a=t.b)
noncomputable def pairD(t:Tie):Dat:=.tup [.int t.a,.int t.b]
noncomputable def Ek(p:List Tie):List Int:=(p.filter b7).map (·.m)
noncomputable def Ev(p:List Tie):List Dat:=(p.filter b7).map pairD
noncomputable def look(r:List Tie)(m:Int):Option Tie:=r.find? fun t=>decide (t.m=m)&&b7 t
noncomputable def walk(r:List Tie):List Int->Int->List Int->Option Int
 |_,x,[]=>some x
 |used,x,m::w=>if m∈used then none else match look r m with
  |none=>none
  |some t=>if x=t.a\/x=t.b then walk r (used++[m]) (t.a+t.b-x) w else none
theorem Lf(r:List Tie)(m:Int):bh (Ek r) (Ev r) m=(look r m).map pairD:=by
 unfold Ek Ev look;rw[gQ,List.find?_filter]
 congr 2
 funext t
 by_cases h1:b7 t=true<;>by_cases h2:t.m=m<;>simp[h1,h2]
theorem xo(p:List Int)(f:Int->Dat)(m:Int):(bh p (p.map f) m).isSome=decide (m∈p):=by have:=gQ (fun x:Int=>x) f p m;rw[List.map_id']at this;rw[this,R7];rw[So,List.find?_isSome];simp
theorem Good.fresh:∀{p:List Tie} {x:Tie} {q:List Tie} {lo:Int},Good n lo (p++x::q)->∀t∈p,t.m<x.m
 |[],_,_,_,_,t,h=>by cases h
 |y::p,x,q,lo,g,t,h=>by
  rcases Qw.mp h with rfl | h
  ·have:=Good.lo g.2.2.2.2 x (by simp);lia
  ·exact Good.fresh g.2.2.2.2 t h
theorem Good.mem:∀{r:List Tie} {lo:Int},Good n lo r->∀t∈r,0<=t.a/\t.a<=t.b/\t.b<n
 |[],_,_,t,h=>by cases h
 |x::r,lo,g,t,h=>by
  rcases Qw.mp h with rfl | h
  ·exact⟨g.2.1,g.2.2.1,g.2.2.2.1⟩
  ·exact Good.mem g.2.2.2.2 t h
theorem GV(p:List Tie)(x:Tie):Ek (p++[x])=Ek p++(if b7 x then [x.m] else [])/\Ev (p++[x])=Ev p++(if b7 x then [pairD x] else []):=by
 unfold Ek Ev;by_cases h:b7 x=true
 ·simp[h,List.filter_append]
 ·simp[h,List.filter_append]
theorem nN{t:Tie}(h:look r m=some t):t∈r/\t.m=m/\t.a≠t.b:=by have h1:=SN h;have h2:=T8 h;simp[b7]at h2;exact⟨h1,h2.1,h2.2⟩
theorem r_(n:Int)(hn:n<=10)(r:List Tie)(hr:Good n 0 r)(hl:r.length<=60)(a b:Int)(ms:List Int)(hm:ms.length<=1000) :
  yW [aE r,.int a,.int b,.lst (ms.map Dat.int)]=some (.val (.bl (decide (walk r [] a ms=some b)))):=by
 apply UP;unfold yW
 (refine Dm.UN ?_ rfl rfl;and_intros)
 repeat array_get_dec
 refine UU bI _ _ r _ _ _ _ _ (fun p _ ρ=>∃c5 c6 c7,ρ=[.sh (aE r),.sh (.int a),.sh (.int b),.sh (.lst (ms.map Dat.int)),.ow (.dct (Ek p) (Ev p)),c5,c6,c7,.un,.un]) ⟨_,_,_,rfl⟩ ?_ ?_
 ·rintro p x q ρ e ⟨c5,c6,c7,rfl⟩;refine Dm.bG rfl (by trivial) ?_;unfold C3
  repeat array_get_dec
  have hx:=GV p x;have fr:=Good.fresh (e▸hr);have hnew:x.m∉Ek p:=fun h=>by
   obtain⟨t,ht,e'⟩:=QF.mp h;have:=fr t (Q8.mp ht).1
   lia
  refine⟨fun h=>?_,fun h=>?_⟩
  ·repeat array_get_dec
   ·have h':b7 x=true:=h;rw[h']at hx;obtain⟨p1,p2⟩:=jT (ks:=Ek p) (vs:=Ev p) (i:=x.m) (d:=pairD x) hnew;have q1:=p1.trans hx.1.symm;have q2:=p2.trans hx.2.symm;exact⟨_,_,_,by rw[<- q1,<- q2];rfl⟩
   ·have:(Ek p).length<=r.length:=by
     rw[e];unfold Ek;rw[gc];have:=RB b7 p;simp;lia
    simp[SZ];lia
  ·repeat array_get_dec
   have h':b7 x=false:=h;rw[h']at hx;simp at hx;exact⟨_,_,_,by rw[hx.1,hx.2]⟩
 ·rintro ρ ⟨c5,c6,c7,rfl⟩
  repeat array_get_dec
  refine UU Dat.int _ _ ms _ _ _ _ _ (fun p q ρ=>∃c5 c6 c7 x,ρ=[.sh (aE r),.sh (.int a),.sh (.int b),.sh (.lst (ms.map Dat.int)),.ow (.dct (Ek r) (Ev r)),c5,c6,c7,.sh (.int x),.ow (.dct p (p.map fun _=>.bl true))]/\walk r [] a ms=walk r p x q) ⟨_,_,_,_,rfl,rfl⟩ ?_ ?_
  ·rintro p m q ρ e ⟨c5,c6,c7,x,rfl,hw⟩;refine Dm.bG rfl (by trivial) ?_;unfold C4
   repeat array_get_dec
   have hu:(bh p (p.map fun _=>Dat.bl true) m).isSome=decide (m∈p):=xo p _ m;rw[walk]at hw;refine⟨fun h=>?_,fun h=>?_⟩
   ·rw[hu]at h;rw[if_pos (of_decide_eq_true h)]at hw
    repeat array_get_dec
    rw[hw];rfl
   ·rw[hu]at h;have hnp:=of_decide_eq_false h;rw[if_neg hnp]at hw
    repeat array_get_dec
    have hE:=Lf r m;cases hk:look r m with
    |none=>
     rw[hk]at hE hw;refine Vp (by rw[hE];rfl) ?_
     repeat array_get_dec
     rw[hw];rfl
    |some t=>
     rw[hk]at hE hw;have hE':bh (Ek r) (Ev r) m=some (.tup [.int t.a,.int t.b]):=hE;refine Vl (by rw[hE'];rfl) ?_
     repeat array_get_dec
     refine U9 hE' ?_ rfl rfl
     repeat array_get_dec
     obtain⟨tm,_,_⟩:=nN hk;obtain⟨t0,t1,t2⟩:=Good.mem hr t tm;dsimp only at hw;refine⟨fun h=>?_,fun h=>?_⟩
     ·have h':=ndT h;rw[if_neg h']at hw
      repeat array_get_dec
      rw[hw];rfl
     ·have h':=ndF h;rw[if_pos h']at hw
      repeat array_get_dec
      ·refine U9 hE' ?_ rfl rfl
       repeat array_get_dec
       ·obtain⟨p1,p2⟩:=jT (ks:=p) (vs:=p.map fun _=>.bl true) (i:=m) (d:=.bl true) hnp;exact⟨_,_,_,_,by rw[p1,p2,QK];rfl,hw⟩
       ·lia
      ·have:p.length<=ms.length:=by rw[e];simp
       simp[SZ];lia
  ·rintro ρ ⟨c5,c6,c7,x,rfl,hw⟩
   repeat array_get_dec
   rw[hw,walk];simp
noncomputable def dd(pI:List Int)(x:Int):List Int:=if pI.any (· == x) then pI else pI++[x]
theorem GW(pI:List Int)(x:Int):pI.any (· == x)=decide (x∈pI):=by rw[So];simp
theorem fC:∀(ns pI:List Int),(ns.foldl dd pI).length<=pI.length+ns.length/\((ns.foldl dd pI).length=pI.length+ns.length↔(ns.Nodup/\∀x∈ns,x∉pI))
 |[],pI=>by simp
 |x::ns,pI=>by
  rw[Tc];unfold dd;rw[GW];by_cases h:x∈pI
  ·rw[decide_eq_true h,if_pos rfl];obtain⟨h1,h2⟩:=fC ns pI;unfold dd at h1 h2;rw[QO];refine⟨by lia,⟨fun e=>by lia,fun⟨_,e⟩=>absurd h (e x gV)⟩⟩
  ·rw[decide_eq_false h,if_neg (by decide)];obtain⟨h1,h2⟩:=fC ns (pI++[x]);unfold dd at h1 h2;rw[Qv,RM]at h1 h2;rw[QO];refine⟨by lia,?_⟩;rw[show pI.length+(ns.length+1)=pI.length+1+ns.length by lia,h2,QB];constructor
   ·rintro⟨h3,h4⟩;refine⟨⟨fun hx=>h4 x hx (by simp),h3⟩,fun y hy=>?_⟩;rcases Qw.mp hy with rfl | hy
    ·exact h
    ·exact fun z=>h4 y hy (by simp[z])
   ·rintro⟨⟨h3,h4⟩,h5⟩;refine⟨h4,fun y hy z=>?_⟩;rcases QE.mp z with z | z
    ·exact h5 y (Pa _ hy) z
    ·rw[QN]at z;subst z;exact h3 hy
theorem kH(ms:List Int):dR (ms.map Dat.int)=some ms:=by
 induction ms with
 |nil=>rfl
 |cons m ms ih=>rw[gp,dR,ih];rfl
theorem kI(ms:List Int)(h:ms.length<=4000):∃k:Nat,d8 (.lst (ms.map Dat.int))=some (.val (.int (k:Nat)))/\(k=ms.length↔ms.Nodup):=by
 refine⟨(dedup ms).length,?_,?_⟩
 ·unfold d8;dsimp only;rw[kH];dsimp only;rw[if_pos h]
 ·have:=(fC ms []).2;simp at this;exact this
theorem Good.uniq:∀{r:List Tie} {lo:Int},Good n lo r->∀t∈r,∀u∈r,t.m=u.m->t=u
 |[],_,_,t,h,_,_,_=>by cases h
 |x::r,lo,g,t,ht,u,hu,e=>by
  rcases Qw.mp ht with rfl | _
  ·rcases Qw.mp hu with rfl | hu
   ·rfl
   ·have:=Good.lo g.2.2.2.2 u hu;lia
  ·rename_i ht';rcases Qw.mp hu with rfl | hu
   ·have:=Good.lo g.2.2.2.2 t ht';lia
   ·exact Good.uniq g.2.2.2.2 t ht' u hu e
theorem Du(hr:Good n 0 r)(m:Int)(t:Tie):look r m=some t↔t∈r/\t.m=m/\t.a≠t.b:=by
 constructor
 ·exact nN
 ·rintro⟨h1,h2,h3⟩;cases hk:look r m with
  |none=>have:=Ss.mp hk t h1;simp[b7,h2,h3]at this
  |some u=>obtain⟨u1,u2,u3⟩:=nN hk;rw[Good.uniq hr u u1 t h1 (by lia)]
theorem Dv(i lo hi:Int):Av [.int i,.int lo,.int hi]=some (.val (.bl (decide (lo<=i/\i<=hi)))):=by
 apply UP;unfold Av
 (refine Dm.UN ?_ rfl rfl;and_intros)
 refine Uz (UW (UK (m_ (Q_ rfl (R_ (UM (nM i) (Uu (UH ?_)) rfl rfl))))));have e1:gLe (.int lo) (.int i)=some (.val (.bl (decide (lo<=i)))):=rfl;have e2:gLe (.int i) (.int hi)=some (.val (.bl (decide (i<=hi)))):=rfl;have e:eN gLe gLe (eV 1) (eV 0) (eV 2) [.sh (.int i),.sh (.int lo),.sh (.int hi)]=some (.val (.bl (decide (lo<=i/\i<=hi))),[.sh (.int i),.sh (.int lo),.sh (.int hi)]):=by
  unfold eN;simp only[eV,List.getElem?_cons_zero,Sk,pk,e1,e2,RV.a_];by_cases q:lo<=i
  ·rw[decide_eq_true q];have:decide (lo<=i/\i<=hi)=decide (i<=hi):=by simp[q]
   rw[this]
  ·rw[decide_eq_false q,decide_eq_false (p:=lo<=i/\i<=hi) fun z=>q z.1]
 exact⟨_,_,e,rfl⟩
theorem GX(n i:Int):uy [.int n,.int i]=some (.val (.bl (decide (0<=i/\i<n)))):=by
 apply UP;unfold uy
 (refine Dm.UN ?_ rfl rfl;and_intros)
 refine Uz (UK (m_ (Q_ rfl (m_ (T_ (m_ (S_ (Q_ rfl (T_ (U5 ?_ rfl rfl))))))))));refine R_ (UM (Dv i 0 (n-1)) ?_ rfl rfl);have:decide (0<=i/\i<=n-1)=decide (0<=i/\i<n):=decide_eq_decide.mpr (by lia);rw[this];rfl
noncomputable def cz(ws:List (List Int)):Dat:=.lst (ws.map fun w=>.lst (w.map Dat.int))
theorem qx(p:List (List Int))(x:List Int):(p++[x]).flatten=p.flatten++x:=by simp
noncomputable def fM(r:List Tie)(a b:Int)(ws:List (List Int)):Bool:=decide ws.flatten.Nodup&&ws.all fun w=>decide (walk r [] a w=some b)
def Few(ws:List (List Int)):Prop:=ws.length<=1000/\(∀w∈ws,w.length<=1000)/\ws.flatten.length<=4000
theorem sd(n:Int)(hn:n<=10)(r:List Tie)(hr:Good n 0 r)(hl:r.length<=60)(a b:Int)(ws:List (List Int))(hw:Few ws) :
  yX [aE r,.int a,.int b,cz ws]=some (.val (.bl (fM r a b ws))):=by
 obtain⟨h1,h2,hf⟩:=hw;apply UP;unfold yX cz
 (refine Dm.UN ?_ rfl rfl;and_intros)
 repeat array_get_dec
 refine UU (fun w:List Int=>Dat.lst (w.map Dat.int)) _ _ ws _ _ _ _ _ (fun p q ρ=>∃c5,ρ=[.sh (aE r),.sh (.int a),.sh (.int b),.sh (cz ws),.ow (.lst (p.flatten.map Dat.int)),c5]) ⟨_,rfl⟩ ?_ ?_
 ·rintro p x q ρ e ⟨c5,rfl⟩;refine Dm.bG rfl (by trivial) ?_;unfold C6;refine Wj ?_ rfl
  repeat array_get_dec
  refine⟨_,_,_,rfl,rfl,rfl,⟨.sh (.lst (x.map Dat.int)),?_⟩,?_⟩
  ·rw[qx,QK];rfl
  ·have:ws.flatten.length=p.flatten.length+x.length+q.flatten.length:=by rw[e];simp;lia
   rw[gc,gc];unfold SZ;lia
 ·rintro ρ ⟨c5,rfl⟩;obtain⟨k,hk,hk2⟩:=kI ws.flatten hf;unfold fM
  repeat array_get_dec
  refine UX ?_ rfl hk
  repeat array_get_dec
  by_cases hnd:ws.flatten.Nodup
  ·have hk3:=hk2.mpr hnd;refine Vp (by rw[hk3];simp) ?_;rw[decide_eq_true hnd,Q7]
   repeat array_get_dec
   refine Vd (fun w:List Int=>Dat.lst (w.map Dat.int)) ws (fun w=>decide (walk r [] a w=some b)) Dat.bl ?_ rfl rfl rfl (by decide) (by simp[SZ];lia) (fun x hx=>?_)
   ·repeat array_get_dec
    refine Vj (fun w=>decide (walk r [] a w=some b)) ?_ (by rw[Rk];rfl)
    repeat array_get_dec
    rfl
   ·repeat array_get_dec
    refine UM (r_ n hn r hr hl a b x (h2 x hx)) ?_ rfl rfl
    repeat array_get_dec
    exact⟨rfl,rfl⟩
  ·have hk3:¬k=ws.flatten.length:=fun z=>hnd (hk2.mp z);refine Vl (by rw[decide_eq_false];lia) ?_;rw[decide_eq_false hnd]
   repeat array_get_dec
   rfl
noncomputable def steps(S:List Int):Bool:=(QG (S.length-1)).all fun i=>decide (S.getD i 0<S.getD (i+1) 0)
theorem kJ:∀S:List Int,steps S=true↔S.Pairwise (· < ·)
 |[]=>by simp[steps]
 |[x]=>by simp[steps]
 |x::y::S=>by
  have ih:=kJ (y::S);have e:steps (x::y::S)=(decide (x<y)&&steps (y::S)):=by unfold steps;simp only[QO,SV];rw[List.range_succ_eq_map,Tz,List.all_map];rfl
  rw[e,QD,ih,RD (a:=x)];constructor
  ·rintro⟨h1,h2⟩;have h1:=of_decide_eq_true h1;refine⟨fun z hz=>?_,h2⟩;rcases Qw.mp hz with rfl | hz
   ·exact h1
   ·exact Int.lt_trans h1 ((RD.mp h2).1 z hz)
  ·rintro⟨h1,h2⟩;exact⟨decide_eq_true (h1 y gV),h2⟩
noncomputable def qy(n:Int)(S:List Int):Bool:=(S.all fun x=>decide (0<=x/\x<n))&&steps S
theorem zg(a b:Nat):decide ((a:Int)=(b:Int))=decide (a=b):=by
 by_cases h:a=b
 ·rw[decide_eq_true h,decide_eq_true (by rw[h])]
 ·rw[decide_eq_false h,decide_eq_false (by lia)]
theorem Lg{kM:α->Dat}{xs:List α}{o p:Option Dat}(h0:0<=i)(h1:i<xs.length)(k:K (.val (kM (xs[i.toNat]'(by omega)))))(ho:o=some (.tup (xs.map kM)))(hp:p=some (.int i)):Wg2 gIx o p K:=
 ⟨_,_,_,ho,hp,by unfold gIx;dsimp only;rw[gK kM xs i h0 h1];rfl,k⟩
theorem Dw(d:Dat)(S:List Int)(hl:S.length<=1000)(hd:d=.tup (S.map Dat.int)\/d=.lst (S.map Dat.int)):yT [d]=some (.val (.bl (steps S))):=by
 have len:cE [d]=some (.val (.int (S.length:Nat))):=by
  rcases hd with rfl | rfl
  ·show some (RV.val (.int ((S.map Dat.int).length:Nat)))=_;rw[gc]
  ·show some (RV.val (.int ((S.map Dat.int).length:Nat)))=_;rw[gc]
 have ix:∀(i:Int) (h0:0<=i) (h1:i<S.length) {o p:Option Dat} {K:RV->Prop},K (.val (.int (S[i.toNat]'(by lia))))->o=some d->p=some (.int i)->Wg2 gIx o p K:=fun i h0 h1 {o p K} k ho hp=>by
  rcases hd with rfl | rfl
  ·exact Lg (xs:=S) (kM:=Dat.int) h0 h1 k ho hp
  ·exact Vv (xs:=S) (kM:=Dat.int) h0 h1 k ho hp
 apply UP;unfold yT
 (refine Dm.UN ?_ rfl rfl;and_intros)
 refine Uz (UC (m_ ?_));refine VA (fun i:Nat=>Dat.int (1+(i:Nat))) (QG (S.length-1)) (fun _=>true) (fun i=>Dat.bl (decide (S.getD i 0<S.getD (i+1) 0))) ?_ (ρ1:=[.sh d]) ?_ rfl (by decide) (by simp[SZ];lia) (fun i _=>?_) (fun i hi _=>?_)
 ·refine R_ (Vj (fun i=>decide (S.getD i 0<S.getD (i+1) 0)) ?_ (by rw[Th.mpr (fun _ _=>rfl)];rfl));rfl
 ·apply VQ;refine Wu (T_ (cC.mk (UC (m_ (Q_ rfl (R_ ⟨_,_,rfl,len,?_⟩))))));refine cC.mk ⟨⟨?_,rfl⟩,by unfold BIG;lia,by unfold BIG;lia,by unfold BIG;lia,by unfold BIG;lia⟩;have e2:(((S.length:Nat):Int)-1).toNat=S.length-1:=by lia
  rw[e2];rfl
 ·exact V5 ⟨rfl,rfl⟩
 ·have hi':i<S.length-1:=Q3.mp hi;refine S_ (S_ (Q_ rfl (S_ (Q_ rfl (T_ (U5 (ix _ (by lia) (by lia) ?_ rfl rfl) rfl rfl))))));refine S_ (Q_ rfl (Q_ rfl (ix _ (by lia) (by lia) ?_ rfl rfl)));refine VI (UE ⟨?_,rfl⟩) rfl rfl;have e1:S.getD i 0=S[(1+(i:Int)-1).toNat]'(by omega):=by
   rw[Rf,Qz (by lia)];simp only[S4]
   congr 1;lia
  have e2:S.getD (i+1) 0=S[(1+(i:Int)).toNat]'(by lia):=by
   rw[Rf,Qz (by lia)];simp only[S4]
   congr 1;lia
  rw[e1,e2]
theorem AE(n:Int)(S:List Int)(hl:S.length<=1000):uA [.int n,tupI S]=some (.val (.bl (qy n S))):=by
 apply UP;unfold uA tupI qy
 (refine Dm.UN ?_ rfl rfl;and_intros)
 refine Uz (UW (U6 (Q_ rfl (UX (v:=.val (.bl true)) (Uu (UH ?_)) rfl rfl))));refine UW (UC (m_ (Vd Dat.int S (fun x=>decide (0<=x/\x<n)) Dat.bl ?_ rfl rfl rfl (by decide) (by simp[SZ];lia) (fun x hx=>?_))))
 ·refine R_ (Vj (fun x=>decide (0<=x/\x<n)) (Uu ⟨fun h=>?_,fun h=>?_⟩) (by rw[Rk];rfl))
  ·refine UK (m_ (Q_ rfl (R_ (UM (Dw _ S hl (.inl rfl)) ?_ rfl rfl))));rw[h];rfl
  ·rw[h];rfl
 ·exact UK (m_ (Q_ rfl (m_ (Q_ rfl (R_ (UM (GX n x) (UE ⟨rfl,rfl⟩) rfl rfl))))))
theorem GY(r:List Tie)(hl:r.length<=1000)(S:List Int):yV [aE r,tupI S]=some (.new (.lst ((pK r S).map Dat.int))):=by
 apply UP;unfold yV tupI
 (refine Dm.UN ?_ rfl rfl;and_intros)
 refine Uz ?_;refine WK bI r (ovr S) (·.m) Dat.int (fun t=>.int t.m) (fun t=>.int t.a) (fun t=>.int t.b) (fun _=>rfl) ?_ rfl rfl rfl (by decide) (by simp[SZ];lia) (fun t _=>?_) (fun t _ _=>?_)
 ·exact Vs rfl
 ·refine Ux (S_ (S_ (Q_ rfl (Q_ rfl (Vb (xs:=S) ?_ rfl rfl)))));refine S_ (Q_ rfl (Q_ rfl (Vb (xs:=S) ?_ rfl rfl)));exact Vq (Uu ⟨rfl,rfl⟩) rfl rfl
 ·exact Q_ rfl (UE ⟨rfl,rfl⟩)
theorem GZ(k:Nat)(w:List Int):okD (k+1) (.lst (w.map Dat.int))=true:=by unfold okD;rw[Ra];intro d hd;obtain⟨x,_,rfl⟩:=QF.mp hd;unfold okD;rfl
theorem G0(k:Nat)(ws:List (List Int)):okD (k+2) (cz ws)=true:=by unfold cz okD;rw[Ra];intro d hd;obtain⟨x,_,rfl⟩:=QF.mp hd;exact GZ k x
noncomputable def eE(r:List Tie):Int->List Int->Option Int
 |x,[]=>some x
 |x,m::w=>match r.filter (fun t=>decide (t.m=m)) with
  |[]=>none
  |t::_=>if t.a=t.b\/¬(x=t.a\/x=t.b) then none else eE r (t.a+t.b-x) w
theorem fN(hr:Good n 0 r)(b:Int):∀(w used:List Int) (x:Int),walk r used x w=some b↔((w.Nodup/\∀m∈w,m∉used)/\eE r x w=some b)
 |[],used,x=>by simp[walk,eE]
 |m::w,used,x=>by
  unfold walk eE;have key:(∀t,look r m=some t↔t∈r/\t.m=m/\t.a≠t.b):=fun t=>Du hr m t;by_cases hu:m∈used
  ·rw[if_pos hu];constructor
   ·intro h;cases h
   ·rintro⟨⟨_,h⟩,_⟩;exact absurd hu (h m gV)
  rw[if_neg hu];cases hf:r.filter (fun t=>decide (t.m=m)) with
  |nil=>
   have:look r m=none:=by
    cases hl:look r m with
    |none=>rfl
    |some t=>obtain⟨h1,h2,_⟩:=(key t).mp hl;have:t∈r.filter (fun t=>decide (t.m=m)):=Q8.mpr ⟨h1,decide_eq_true h2⟩;rw[hf]at this;cases this
   rw[this];simp
  |cons t l=>
   have ht:t∈r.filter (fun t=>decide (t.m=m)):=by rw[hf];exact gV
   obtain⟨t1,t2⟩:=Q8.mp ht;have t2:t.m=m:=of_decide_eq_true t2;by_cases NX:t.a=t.b
   ·have:look r m=none:=by
     cases hl:look r m with
     |none=>rfl
     |some u=>obtain⟨h1,h2,h3⟩:=(key u).mp hl;have:=Good.uniq hr t t1 u h1 (by rw[t2,h2]);subst this;exact absurd NX h3
    rw[this];dsimp only;rw[if_pos (.inl NX)];simp
   ·rw[(key t).mpr ⟨t1,t2,NX⟩];dsimp only;by_cases hx:x=t.a\/x=t.b
    ·rw[if_pos hx,if_neg (by rintro(z | z);exact NX z;exact z hx),fN hr b w (used++[m]) (t.a+t.b-x)];constructor
     ·rintro⟨⟨h1,h2⟩,h3⟩;refine⟨⟨QB.mpr ⟨fun z=>h2 m z (by simp),h1⟩,fun y hy=>?_⟩,h3⟩;rcases Qw.mp hy with rfl | hy
      ·exact hu
      ·exact fun z=>h2 y hy (by simp[z])
     ·rintro⟨⟨h1,h2⟩,h3⟩;obtain⟨n1,n2⟩:=QB.mp h1;refine⟨⟨n2,fun y hy z=>?_⟩,h3⟩;rcases QE.mp z with z | z
      ·exact h2 y (Pa _ hy) z
      ·rw[QN]at z;exact n1 (z▸hy)
    ·rw[if_neg hx,if_pos (.inr hx)];simp
theorem G1(i:Nat)(ρ:Env)(a n:Int)(h0:ρ[0]?=some (.sh (.int n)))(hi:ρ[i]?=some (.sh (.int a))):eN gLe gLt (eC (.int 0)) (eV i) (eV 0) ρ=some (.val (.bl (decide (0<=a/\a<n))),ρ):=by
 have e1:gLe (.int 0) (.int a)=some (.val (.bl (decide (0<=a)))):=rfl;have e2:gLt (.int a) (.int n)=some (.val (.bl (decide (a<n)))):=rfl;unfold eN;simp only[eC,eV,h0,hi,pk,e1,e2,RV.a_];by_cases q:0<=a
 ·rw[decide_eq_true q];have:decide (0<=a/\a<n)=decide (a<n):=by simp[q]
  rw[this]
 ·rw[decide_eq_false q,decide_eq_false (p:=0<=a/\a<n) fun z=>q z.1]
theorem uQ:∀(ns pI:List Int),ns.Nodup->(∀x∈ns,x∉pI)->ns.foldl (fun pI x=>if pI.any (· == x) then pI else pI++[x]) pI=pI++ns
 |[],pI,_,_=>by simp
 |x::ns,pI,h,k=>by
  rw [Tc,if_neg fun z=>by
   obtain⟨y,hy,e⟩:=S5.mp z;have:y=x:=by simpa using e
   exact k x gV (this▸hy)]
  rw[uQ ns (pI++[x]) (QB.mp h).2 fun y hy z=>?_]
  ·simp
  ·rcases QE.mp z with z | z
   ·exact k y (Pa _ hy) z
   ·rw[QN]at z;exact(QB.mp h).1 (z▸hy)
theorem xq(h:ns.Nodup):dedup ns=ns:=by unfold dedup;rw[uQ ns [] h (by simp)];rfl
theorem Iu(h:S.Pairwise (· < ·)):S.Nodup:=h.imp fun h=>Int.ne_of_lt h
theorem dj(r:List Tie)(hl:r.length<=1000)(t:Int):uF [aE r,.int t]=some (.new (aE (gF r t))):=nK r hl t
theorem jU(i:Int):C9 [.int i]=some (.val (.bl true)):=nM i
theorem zh(xs:List α):xs.all (fun _=>true)=true:=by induction xs<;>simp
theorem Dy(ms:List Int)(h:ms.length<=1000):nF [.lst (ms.map Dat.int)]=some (.val (.bl true)):=by
 apply UP;unfold nF
 (refine Dm.UN ?_ rfl rfl;and_intros)
 refine Uz (UC (m_ (Vd Dat.int ms (fun _=>true) Dat.bl (d:=.lst (ms.map Dat.int)) ?_ rfl rfl rfl (by decide) (by unfold SZ;lia) fun x hx=>?_)))
 ·refine R_ (Vj (fun _=>true) ?_ (by rw[Rk];rfl));rw[zh];rfl
 ·exact UK (m_ (Q_ rfl (R_ (UM (jU x) (UE ⟨rfl,rfl⟩) rfl rfl))))
theorem Dz(ms:List Int)(h:ms.length<=1000):nF [tupI ms]=some (.val (.bl true)):=by
 apply UP;unfold nF
 (refine Dm.UN ?_ rfl rfl;and_intros)
 refine Uz (UC (m_ (Vd Dat.int ms (fun _=>true) Dat.bl (d:=tupI ms) ?_ rfl rfl rfl (by decide) (by unfold SZ;lia) fun x hx=>?_)))
 ·refine R_ (Vj (fun _=>true) ?_ (by rw[Rk];rfl));rw[zh];rfl
 ·exact UK (m_ (Q_ rfl (R_ (UM (jU x) (UE ⟨rfl,rfl⟩) rfl rfl))))
theorem Lh(r:List Tie)(hl:r.length<=1000)(S:List Int):yZ [aE r,tupI S]=some (.new (.lst ((pK r S).map Dat.int))):=by
 apply UP;unfold yZ
 (refine Dm.UN ?_ rfl rfl;and_intros)
 refine Uz ?_;refine V7 bI r (ovr S) (fun t=>.int t.m) ?_ rfl rfl rfl (by decide) (by unfold SZ;lia) (fun u _=>?_) fun u _ _=>?_
 ·show _=_;unfold pK;rw[Rk];rfl
 ·refine Ux (S_ (S_ (S_ (Q_ rfl (T_ (Uv (v:=.int u.a) ?_ rfl rfl rfl))))));refine Q_ rfl (Vb (xs:=S) ?_ rfl rfl);refine S_ (S_ (Q_ rfl (T_ (Uv (v:=.int u.b) ?_ rfl rfl rfl))));refine Q_ rfl (Vb (xs:=S) ?_ rfl rfl);exact Vq (Uu ⟨rfl,rfl⟩) rfl rfl
 ·exact S_ (Q_ rfl (T_ (Uv (v:=.int u.m) (UE ⟨rfl,rfl⟩) rfl rfl rfl)))
noncomputable def prD(t:Tie):Dat:=.tup [.int t.a,.int t.b]
noncomputable def enK(r:List Tie):List Int:=r.map (·.m)
noncomputable def enV(r:List Tie):List Dat:=r.map prD
theorem uR(n10:n<=10)(hr:Good n 0 r)(hl:r.length<=60)(a b:Int)(w:List Int)(hw:w.length<=1000) :
  y9 [aE r,.int a,.int b,.lst (w.map Dat.int)]=some (.val (.bl (decide (walk r [] a w=some b)))):=by
 have e0:decide (walk r [] a w=some b)=(decide w.Nodup&&decide (eE r a w=some b)):=by
  by_cases h:walk r [] a w=some b
  ·obtain⟨⟨h1,_⟩,h2⟩:=(fN hr b w [] a).mp h;rw[decide_eq_true h,decide_eq_true h1,decide_eq_true h2];rfl
  ·rw[decide_eq_false h];by_cases h1:w.Nodup
   ·rw[decide_eq_true h1,decide_eq_false fun h2=>h ((fN hr b w [] a).mpr ⟨⟨h1,by simp⟩,h2⟩)];rfl
   ·rw[decide_eq_false h1];rfl
 rw[e0];have nd:(r.map (·.m)).Nodup:=hr.nd;apply UP;unfold y9
 (refine Dm.UN ?_ rfl rfl;and_intros)
 obtain⟨c,hc,hc2⟩:=kI w (by lia);refine Ut (UG (UT (U4 (Ux (U6 (Q_ rfl (UX (v:=.val (.bl true)) (Uu (UA ?_)) rfl rfl)))))));refine UT (U4 (Ux (UK (m_ (Q_ rfl (R_ (UM (Dy w hw) (Uu (UA ?_)) rfl rfl)))))));refine Ux (S_ (U6 (Q_ rfl (UX (v:=.val (.int (c:Nat))) ?_ rfl hc))));refine UC (m_ (Q_ rfl (R_ (U7 (kM:=Dat.int) (xs:=w) ?_ rfl))));refine Vi (Uu ?_) rfl rfl;rw[zg];by_cases hnd:w.Nodup
 ·rw[decide_eq_true (hc2.mpr hnd),decide_eq_true hnd,Q7];refine UA (UB ?_);refine Ut (Uy (V9 (UO ?_ (by trivial))) (by decide));refine Ut (U3 (Vr (Q_ rfl (UE (d_ ?_)))));refine UU bI _ _ r _ _ _ _ _ (fun p q ρ=>∃c5,ρ=[.sh (aE r),.sh (.int a),.sh (.int b),.sh (.lst (w.map Dat.int)),.ow (.dct (enK p) (enV p)),c5,.un,.un]) ⟨_,rfl⟩ ?_ ?_
  ·rintro p t q ρ e ⟨c5,rfl⟩;refine Dm.bG rfl (by trivial) ?_;unfold C_;refine VN (Va (m_ (S_ (Q_ rfl (T_ (Uv (v:=.int t.a) ?_ rfl rfl rfl))))));refine m_ (S_ (Q_ rfl (T_ (Uv (v:=.int t.b) ?_ rfl rfl rfl))));refine R_ (UI ?_ rfl rfl (by exact QC rfl));refine UE ⟨⟨_,rfl⟩,S_ (Q_ rfl (T_ (Uv (v:=.int t.m) (cC.mk (lY ?_ rfl rfl ?_)) rfl rfl rfl)))⟩
   ·have hm:t.m∉enK p:=by
     rw[e,QK,gp]at nd;exact fun z=>(Rj.mp nd).2.2 t.m z t.m gV rfl
    obtain⟨k1,k2⟩:=jT (vs:=enV p) (d:=prD t) hm;refine⟨.sh (bI t),?_⟩;show [_,_,_,_,Cell.ow (.dct (jI (enK p) t.m) (jJ (enK p) (enV p) t.m (prD t))),_,_,_]=_;rw[k1,k2];unfold enK enV;rw[QK,QK];rfl
   ·have:=congrArg List.length e;rw[Qv]at this;unfold enK SZ;rw[gc]
    lia
  ·rintro ρ ⟨c5,rfl⟩;refine Ut (Uy (Q_ rfl (Uw ?_ (by trivial))) (by decide));refine Ut (U3 (Vr (Q_ rfl (UE (d_ ?_)))));refine UU Dat.int _ _ w _ _ _ _ _ (fun pm qm ρ=>∃(x:Int) (c7:Cell),ρ=[.sh (aE r),.sh (.int a),.sh (.int b),.sh (.lst (w.map Dat.int)),.ow (.dct (enK r) (enV r)),c5,.sh (.int x),c7]/\eE r a w=eE r x qm) ⟨a,_,rfl,rfl⟩ ?_ ?_
   ·rintro pm m qm ρ em ⟨x,c7,rfl,hx⟩;refine Dm.bG rfl (by trivial) ?_;unfold Dc;have lk:bh (enK r) (enV r) m=((r.filter (fun t=>decide (t.m=m))).head?).map prD:=by
     rw[List.head?_filter];exact gQ _ _ r m
    have hq:eE r x (m::qm)=(match r.filter (fun t=>decide (t.m=m)) with
      |[]=>none
      |t::_=>if t.a=t.b\/¬(x=t.a\/x=t.b) then none else eE r (t.a+t.b-x) qm):=by rw[eE]<;>rfl
    rw[hq]at hx;refine Ut (UG (UT (Ux (S_ (Q_ rfl (UD rfl (VS ?_ rfl rfl)))))));cases hf:r.filter (fun t=>decide (t.m=m)) with
    |nil=>rw[hf]at hx lk;rw[lk];refine Uu (UH (UH (Uz (T_ ?_))));dsimp only at hx;rw[hx];rfl
    |cons t l=>
     rw[hf]at hx lk;dsimp only at hx;have lk:bh (enK r) (enV r) m=some (prD t):=lk;have tm:t∈r:=(Q8.mp (by rw[hf];exact gV)).1;obtain⟨p1,p2,p3⟩:=Good.mem hr t tm;rw[lk];refine Uu (UA ?_);refine UT (Ux (S_ (Q_ rfl (S_ (UD rfl (Q_ rfl (U9 lk ?_ rfl rfl)))))));refine Wa (a:=t.a) (b:=t.b) (Uu ?_) rfl rfl;by_cases hm:x=t.a\/x=t.b
     ·rw[decide_eq_true hm];refine UA ?_;refine Ux (S_ (S_ (S_ (UD rfl (Q_ rfl (U9 lk ?_ rfl rfl))))));refine T_ (Uv (v:=.int t.a) ?_ rfl rfl rfl);refine S_ (S_ (UD rfl (Q_ rfl (U9 lk ?_ rfl rfl))));refine T_ (Uv (v:=.int t.b) ?_ rfl rfl rfl);refine UL (Uu ?_) rfl rfl;by_cases NX:t.a=t.b
      ·rw[if_pos (.inl NX)]at hx;rw[decide_eq_true NX];refine UH (Uz (T_ ?_));rw[hx];rfl
      rw[if_neg (by rintro(z | z);exact NX z;exact z hm)]at hx;rw[decide_eq_false NX];refine UA (UB ?_);refine Uy (S_ (UC (m_ (S_ (UD rfl (Q_ rfl (U9 lk ?_ rfl rfl))))))) (by decide);refine R_ (V2 (a:=t.a) (b:=t.b) ?_ rfl (by lia));refine Q_ rfl (U5 ?_ rfl rfl);exact Uw ⟨_,.sh (.int m),rfl,hx⟩ (by trivial)
     ·rw[decide_eq_false hm];rw[if_pos (.inr hm)]at hx;refine UH (UH (Uz (T_ ?_)));rw[hx];rfl
   ·rintro ρ ⟨x,c7,rfl,hx⟩;refine Uz (S_ (Q_ rfl (Q_ rfl (UL ?_ rfl rfl))));rw[hx];unfold eE;have:decide (some x=some b)=decide (x=b):=by by_cases h:x=b<;>simp[h]
    rw[this];rfl
 ·rw[decide_eq_false fun z=>hnd (hc2.mp z),decide_eq_false hnd];exact UH (Uz (T_ rfl))
theorem xr(n10:n<=10)(hr:Good n 0 r)(hl:r.length<=60)(a b:Int)(ws:List (List Int))(hw:Few ws) :
  y_ [aE r,.int a,.int b,cz ws]=some (.val (.bl (fM r a b ws))):=by
 obtain⟨h1,h2,hf⟩:=hw;apply UP;unfold y_ fM
 (refine Dm.UN ?_ rfl rfl;and_intros)
 refine Ut (UG (U4 (Ux (U6 (Q_ rfl (UX (v:=.val (.bl true)) (Uu (UA (UB ?_))) rfl rfl))))));refine Ut (Uy (U0 (R_ (UI ?_ rfl rfl (by decide)))) (by decide));refine UO ?_ (by trivial);refine Ut (U3 (Vr (Q_ rfl (UE (d_ ?_)))));refine UU (fun w:List Int=>Dat.lst (w.map Dat.int)) _ _ ws _ _ _ _ _ (fun p q ρ=>∃c5,ρ=[.sh (aE r),.sh (.int a),.sh (.int b),.sh (cz ws),.ow (.lst (p.flatten.map Dat.int)),c5]/\∀w∈p,walk r [] a w=some b) ⟨_,rfl,by simp⟩ ?_ ?_
 ·rintro p x q ρ e ⟨c5,rfl,hp⟩;refine Dm.bG rfl (by trivial) ?_;unfold Dd;have hx:x∈ws:=by rw[e];simp
  refine Ut (UG (U4 (Ux (UK ?_))));refine m_ (Q_ rfl (m_ (Q_ rfl (m_ (Q_ rfl (m_ (Q_ rfl (R_ (UM (uR n10 hr hl a b x (h2 x hx)) (Uu ?_) rfl rfl)))))))));by_cases hd:walk r [] a x=some b
  ·rw[decide_eq_true hd];refine UA (UB ?_);have fl:ws.flatten.length=p.flatten.length+x.length+q.flatten.length:=by rw[e];simp;lia
   refine Wj (Q_ rfl ⟨x.map Dat.int,p.flatten.map Dat.int,_,rfl,rfl,rfl,⟨.sh (.lst (x.map Dat.int)),?_,fun w hw=>?_⟩,?_⟩) rfl
   ·rw[qx,QK];rfl
   ·rcases QE.mp hw with hw | hw
    ·exact hp w hw
    ·rw[QN.mp hw];exact hd
   ·rw[gc,gc];unfold SZ;lia
  ·rw[decide_eq_false hd];refine UH (Uz (T_ ?_));have:(ws.all fun w=>decide (walk r [] a w=some b))=false:=by
    rw[List.all_eq_false];exact⟨x,hx,by simp[hd]⟩
   rw[this,Ub];rfl
 ·rintro ρ ⟨c5,rfl,hp⟩;have:(ws.all fun w=>decide (walk r [] a w=some b))=true:=by
   rw[Ra];exact fun w hw=>decide_eq_true (hp w hw)
  rw[this,Uh];obtain⟨c,hc,hc2⟩:=kI ws.flatten hf;refine Uz (S_ (U6 (UD rfl (UX (v:=.val (.int (c:Nat))) ?_ rfl hc))));refine UC (m_ (UD rfl (R_ (U7 (kM:=Dat.int) (xs:=ws.flatten) ?_ rfl))));refine UL ?_ rfl rfl;rw[zg];have:decide (c=ws.flatten.length)=decide ws.flatten.Nodup:=by
   by_cases h:ws.flatten.Nodup
   ·rw[decide_eq_true h,decide_eq_true (hc2.mpr h)]
   ·rw[decide_eq_false h,decide_eq_false fun z=>h (hc2.mp z)]
  rw[this];rfl
theorem DB(S:List Int):decide (S=bK (fun a b=>decide (a<b)) (dedup S))=steps S:=by
 rw[So,kJ,decide_eq_true_eq];constructor
 ·intro h;have l:(dedup S).length=S.length:=by
   have:=congrArg List.length h;rw[(bF _ (dedup S)).length_eq]at this;exact this.symm
  have nd:S.Nodup:=by have:=(fC S []).2;simp at this;exact this.mp l
  have so:S.Pairwise fun a b=>decide (b<a)=false:=by rw[h];exact bV (fun a b c h1 h2=>by simp at *;lia) (fun a b h=>by simp at *;lia) _
  exact(so.and nd).imp fun {a b} h=>by have:=h.1;simp at this;have:=h.2;lia
 ·intro h;rw[xq (Iu h)];exact(uu (List.Perm.refl _) (h.imp fun h=>Uj h)).symm
noncomputable def sdB(n:Int)(S:List Int)(a b:Int):Bool:=qy n S&&(decide (a∈S)&&!decide (b∈S))
theorem DF(S:List Int):(dedup S).length<=S.length:=by have:=(fC S []).1;simp at this;exact this
theorem pM(n:Int)(S:List Int)(a b:Int)(hl:S.length<=17):za [.int n,tupI S,.int a,.int b]=some (.val (.bl (sdB n S a b))):=by
 have e0:fy (tupI S)=some (.new (.lst ((bK (fun a b=>decide (a<b)) (dedup S)).map .int))):=by unfold fy tupI;dsimp only;rw[kH];dsimp only;rw[if_pos (QT (DF S) hl)]
 apply UP;unfold za sdB qy
 (refine Dm.UN ?_ rfl rfl;and_intros)
 refine Ut (UG (UT (U4 (Ux (U6 (Q_ rfl (UX (v:=.val (.bl true)) (Uu (UA ?_)) rfl rfl)))))));refine UT (U4 (Ux (UK (m_ (Q_ rfl (R_ (UM (Dz S (by lia)) (Uu (UA ?_)) rfl rfl)))))));refine Ux (S_ (UC (m_ (Q_ rfl (R_ ⟨_,_,rfl,rfl,?_⟩)))));refine U6 (Q_ rfl (UX (v:=.new (.lst ((bK (fun a b=>decide (a<b)) (dedup S)).map Dat.int))) ?_ rfl e0));refine Wx (N:=S) (M:=bK (fun a b=>decide (a<b)) (dedup S)) ?_ rfl rfl;rw[DB];cases hs:steps S with
 |false=>refine Uu (UH (Uz (T_ ?_)));rw[Ub,Tj];rfl
 |true=>
  rw[Uh];refine Uu (UA (UB ?_));refine Uz (UW (UC (m_ (Vd Dat.int S (fun x=>decide (0<=x/\x<n)) Dat.bl (d:=tupI S) ?_ rfl rfl rfl (by decide) (by unfold SZ;lia) fun x hx=>?_))))
  ·refine R_ (Vj (fun x=>decide (0<=x/\x<n)) (Uu ?_) (by rw[Rk];rfl));cases ha:S.all fun x=>decide (0<=x/\x<n) with
   |false=>exact UA rfl
   |true=>
    rw[Q7];refine UH (UW (S_ (Q_ rfl (Q_ rfl (Vb (xs:=S) (Uu ?_) rfl rfl)))));by_cases h:a∈S
    ·rw[decide_eq_true h,Q7];exact UH (S_ (Q_ rfl (Q_ rfl (VG (xs:=S) rfl rfl rfl))))
    ·rw[decide_eq_false h];exact UA rfl
  ·exact⟨_,_,G1 4 _ x n rfl rfl,UE ⟨rfl,rfl⟩⟩
noncomputable def uS(n:Int)(r:List Tie)(a b most c:Int)(ws:List (List Int))(o:Option (List Int)):Bool:=
 decide (c=(ws.length:Nat))&&(decide (c≤most)&&(fM r a b ws&&match o with
  |none=>decide (c=most)
  |some S=>decide (c<most)&&(sdB n S a b&&decide (((pK r S).length:Int)=c))))
noncomputable def cY(c:Int)(ws:List (List Int))(o:Option (List Int)):Dat:=.tup [.int c,cz ws,bJ o]
theorem qz(n10:n<=10)(hr:Good n 0 r)(hl:r.length<=60)(a b most c:Int)(ws:List (List Int))(hw:Few ws)(o:Option (List Int))(ho:∀S,o=some S->S.length<=17) :
  qv [.int n,aE r,.int a,.int b,.int most,cY c ws o]=some (.val (.bl (uS n r a b most c ws o))):=by
 apply UP;unfold qv uS cY
 (refine Dm.UN ?_ rfl rfl;and_intros)
 refine Ut (Wq (Q_ rfl (UE ⟨_,_,rfl,rfl,?_⟩)));refine Ut (UG (UT (Ux (S_ (Q_ rfl (UC (m_ (Q_ rfl (R_ (U7 (kM:=fun w:List Int=>Dat.lst (w.map Dat.int)) (xs:=ws) (Vi (Uu ?_) rfl rfl) rfl))))))))));by_cases h1:c=(ws.length:Nat)
 case neg=>rw[decide_eq_false h1];exact UH (UH (Uz (T_ rfl)))
 rw[decide_eq_true h1,Q7];refine UA (UT (Ux (S_ (Q_ rfl (Q_ rfl (VT (Uu ?_) rfl rfl))))));by_cases h2:c<=most
 case neg=>rw[decide_eq_false h2,decide_eq_true (by lia)];exact UH (UH (Uz (T_ rfl)))
 rw[decide_eq_true h2,decide_eq_false (by lia),Q7];refine UA (U4 (Ux (UK (m_ (Q_ rfl (m_ (Q_ rfl (m_ (Q_ rfl (m_ (Q_ rfl (R_ (UM (xr n10 hr hl a b ws hw) (Uu ?_) rfl rfl)))))))))))));cases h3:fM r a b ws with
 |false=>exact UH (Uz (T_ rfl))
 |true=>
  rw[Q7];refine UA (UB ?_);cases o with
  |none=>refine Ut (UG (Ux (S_ (Q_ rfl (T_ (Vg (d:=.non) (Uu (UH ?_)) rfl rfl))))));exact Uz (S_ (Q_ rfl (Q_ rfl (UL rfl rfl rfl))))
  |some S=>
   refine Ut (UG (Ux (S_ (Q_ rfl (T_ (Vg (d:=tupI S) (Uu (UA (UB ?_))) rfl rfl))))));refine Uz (UW (S_ (Q_ rfl (Q_ rfl (VI (Uu ?_) rfl rfl)))));dsimp only;by_cases h4:c<most
   case neg=>rw[decide_eq_false h4];exact UA rfl
   rw[decide_eq_true h4,Q7];refine UH (UW (UK (m_ (Q_ rfl (m_ (Q_ rfl (m_ (Q_ rfl (m_ (Q_ rfl (R_ (UM (pM n S a b (ho S rfl)) (Uu ?_) rfl rfl))))))))))));cases h5:sdB n S a b with
   |false=>exact UA rfl
   |true=>rw[Q7];refine UH (S_ (UC (m_ (UK (m_ (Q_ rfl (m_ (Q_ rfl (R_ (US (Lh r (by lia) S) ?_ rfl rfl rfl rfl))))))))));refine R_ (U7 (kM:=Dat.int) (xs:=pK r S) ?_ rfl);exact Q_ rfl (UL rfl rfl rfl)
theorem se{n:Int}(hl:r.length<=60)(a b c:Int)(o:Option (List Int))(ho:∀S,o=some S->S.length<=17) :
  yY [.int n,aE r,.int a,.int b,.int c,bJ o]=some (.val (.bl (match o with
   |none=>false
   |some S=>sdB n S a b&&decide (((pK r S).length:Int)=c)))):=by
 apply UP;unfold yY
 (refine Dm.UN ?_ rfl rfl;and_intros)
 cases o with
 |none=>have e:uA [.int n,.non]=some (.val (.bl false)):=rfl;exact Uz (UW (UK (m_ (Q_ rfl (m_ (Q_ rfl (R_ (UM e (Uu (UA rfl)) rfl rfl))))))))
 |some S=>
  refine Uz (UW (UK (m_ (Q_ rfl (m_ (Q_ rfl (R_ (UM (AE n S (by have:=ho S rfl;lia)) (Uu ?_) rfl rfl))))))));unfold sdB;dsimp only;cases h1:qy n S with
  |false=>exact UA rfl
  |true=>
   rw[Q7];refine UH (UW (S_ (Q_ rfl (Q_ rfl (Vb (xs:=S) (Uu ?_) rfl rfl)))));by_cases h2:a∈S
   case neg=>rw[decide_eq_false h2];exact UA rfl
   rw[decide_eq_true h2,Q7];refine UH (UW (S_ (Q_ rfl (Q_ rfl (VG (xs:=S) (Uu ?_) rfl rfl)))));cases h3:!decide (b∈S) with
   |false=>exact UA rfl
   |true=>rw[Q7];refine UH (S_ (UC (m_ (UK (m_ (Q_ rfl (m_ (Q_ rfl (R_ (US (GY r (by lia) S) ?_ rfl rfl rfl rfl))))))))));refine R_ (U7 (kM:=Dat.int) (xs:=pK r S) ?_ rfl);exact Q_ rfl (UL rfl rfl rfl)
theorem fO(n10:n<=10)(hr:Good n 0 r)(hl:r.length<=60)(a0:0<=a)(a1:a<n)(b0:0<=b)(b1:b<n)(ab:a≠b)(most t c:Int)(ws:List (List Int))(hw:Few ws)(o:Option (List Int))(ho:∀S,o=some S->S.length<=17) :
  nE [.int n,aE r,.int a,.int b,.int most,.int t,cY c ws o]=some (.val (.bl (uS n (gF r t) a b most c ws o))):=by
 have hs:Good n 0 (gF r t):=hr.since;have ls:(gF r t).length<=60:=QT (l6 r t) hl;apply UP;unfold nE uS cY
 (refine Dm.UN ?_ rfl rfl;and_intros)
 refine Ut (Uy (UK (m_ (Q_ rfl (m_ (Q_ rfl (R_ (US (nK r (by lia) t) ?_ rfl rfl rfl rfl))))))) (by decide));refine UO ?_ (by trivial);refine Ut (Uy (S_ (Q_ rfl (T_ (Uv (v:=.int c) (Uw ?_ (by trivial)) rfl rfl rfl)))) (by decide));refine Ut (UG (UT (U4 (Ux (UK (m_ (Q_ rfl (m_ (Q_ rfl (m_ (Q_ rfl (R_ (UM (zf n a b a0 a1 b0 b1 ab) (Uu (UA ?_)) rfl rfl)))))))))))));refine Ux (S_ (Q_ rfl (Q_ rfl (VT (Uu ?_) rfl rfl))));by_cases h2:c<=most
 case neg=>rw[decide_eq_false h2,decide_eq_true (by lia)];refine UH (Uz (T_ ?_));simp;rfl
 rw[decide_eq_true h2,decide_eq_false (by lia),Q7];refine UA (UB ?_);refine Ut (UG (UT (Ux (S_ (UC (m_ (S_ (Q_ rfl (T_ (Uv (v:=cz ws) ?_ rfl rfl rfl))))))))));refine R_ (U7 (kM:=fun w:List Int=>Dat.lst (w.map Dat.int)) (xs:=ws) ?_ rfl);refine Q_ rfl (Vi (Uu ?_) rfl rfl);by_cases h1:c=(ws.length:Nat)
 case neg=>rw[decide_eq_false h1,decide_eq_false fun z=>h1 z.symm];exact UH (UH (Uz (T_ rfl)))
 rw[decide_eq_true h1,decide_eq_true h1.symm,Q7];refine UA (U4 (Ux (UK (m_ (UD rfl (m_ (Q_ rfl (m_ (Q_ rfl (m_ (S_ (Q_ rfl (T_ (Uv (v:=cz ws) ?_ rfl rfl rfl))))))))))))));refine R_ (UM (sd n n10 (gF r t) hs ls a b ws hw) (Uu ?_) rfl rfl);cases h3:fM (gF r t) a b ws with
 |false=>exact UH (Uz (T_ rfl))
 |true=>
  rw[Q7];refine UA (UB ?_);refine Ut (UG (Ux (S_ (Q_ rfl (Q_ rfl (UL (Uu ?_) rfl rfl))))));by_cases h4:c=most
  ·rw[decide_eq_true h4];refine UH (Uz (S_ (S_ (Q_ rfl (T_ (Uv (v:=bJ o) ?_ rfl rfl rfl))))));refine T_ (Vg (d:=bJ o) ?_ rfl rfl);cases o with
   |none=>rfl
   |some S=>dsimp only;rw[decide_eq_false (by lia),Tj];rfl
  ·rw[decide_eq_false h4];refine UA (UB ?_);refine Uz (UK (m_ (Q_ rfl (m_ (UD rfl (m_ (Q_ rfl (m_ (Q_ rfl (m_ (Q_ rfl ?_)))))))))));refine m_ (S_ (Q_ rfl (T_ (Uv (v:=bJ o) ?_ rfl rfl rfl))));refine R_ (UM (se (n:=n) ls a b c o ho) ?_ rfl rfl);cases o with
   |none=>rfl
   |some S=>dsimp only;rw[decide_eq_true (show c<most by lia),Q7];rfl
theorem RV.two{v:RV}(h:v.dat=d):v=.val d\/v=.new d:=by
 cases v with
 |val x=>left;exact congrArg RV.val h
 |new x=>right;exact congrArg RV.new h
theorem DG{kM:α->Dat}{xs:List α}{a:FE}{lo hi:Option FE}{l h:Option Int}(ha:We a ρ fun x ρ1=>ρ1=ρ/\pk ρ x=some (.lst (xs.map kM)))(hl:part lo ρ=some (l,ρ))(hh:part hi ρ=some (h,ρ))(q:Q (.new (.lst ((nC xs l h).map kM))) ρ):We (eSl a lo hi) ρ Q:=by obtain⟨x,ρ1,e,rfl,hx⟩:=ha;exact Ww ⟨x,_,e,l,_,hl,h,_,hh,Wsl.A (kM:=kM) (xs:=xs) q hx⟩
theorem sj(t:Tie):cut [.int t.m,.int t.a,.int t.b] (some 1) none=[.int t.a,.int t.b]:=rfl
theorem WU{i:Nat}{ds0:List Dat}(h:We e ρ fun v ρ1=>cC v fun j=>∃ds d ρ2,ρ1[i]?=some (.ow (.lst ds))/\(0<=j/\j<=BIG)/\ds[j.toNat]?=some d/\ρ1.set i (.ow (.lst (ds.eraseIdx j.toNat)))=ρ2/\Q (.val d) ρ2)(h0:ρ[i]?=some (.ow (.lst ds0))):We (fH i e) ρ Q:=by obtain⟨v,ρ1,h1,j,rfl,ds,d,ρ2,h2,h3,h4,h5,q⟩:=h;refine⟨_,_,?_,q⟩;unfold fH;rw[h0];dsimp only;rw[h1];dsimp only;rw[h2];dsimp only;rw[if_pos h3,h4];dsimp only;rw[h5]
theorem iG(m:Nat):∀l:List Int,(∀i∈l,i.natAbs<10 ^ 100)->bR m (l.map Dat.int)=true
 |[],_=>by unfold bR;rfl
 |i::l,h=>by
  rw[gp];unfold bR;rw[iG m l fun x hx=>h x (Pa _ hx)];have:dY m (.int i)=true:=by have:=h i gV;cases m<;>exact decide_eq_true this
  rw[this];rfl
theorem iH:∀l:List Int,dU (l.map Dat.int)=l.length
 |[]=>by unfold dU;rfl
 |i::l=>by
  rw[gp];unfold dU fZ;rw[iH l,QO]
  lia
theorem WY{f:FP}{g:FM}(h:Wp' f ρ fun p ρ1=>owS ρ ρ1=true/\Wm g (ρ1.set j .un) p N R B C)(hj:j≠0):Ws (ql j f g) ρ N R B C:=by obtain⟨p,ρ1,h1,h2,o,h3,h4⟩:=h;exact⟨o,by unfold ql;rw[if_neg hj,h1];dsimp only;rw[if_pos h2];exact h3,h4⟩
theorem V4{j i:Nat}{ρ ρ':Env}{p:Dp}{N:Env->Dp->Prop}{R:Dat->Env->Prop}(h:We e ρ' fun v ρ1=>∃d ρ2,v=.val d/\cj d=false/\lkE (ρ.set j .un) ρ1=some ρ2/\N (ρ2.set i (.sh d)) p)(he:ρ.set j (.sh p.dat)=ρ')(hi:¬(i=0\/i=j)):Wc (cLk j i e) ρ p N R:=by obtain⟨v,ρ1,h1,d,ρ2,rfl,h2,h3,h4⟩:=h;exact⟨.nx _ _,by unfold cLk;rw[if_neg hi,he,h1];dsimp only;rw[if_neg (by rw[h2];decide),h3],h4⟩
theorem Vk{ρ ρ1:Env}{ps:List Dp}(k:Ws gs ρ1 N R B C)(e:ρ.set j (.ow (.lst (Dp.iw ps)))=ρ1):Wm (pH j gs) ρ (.l ps) N R B C:=by subst e;exact k
theorem KO.seq{x:Option Out}(h:∃o,x=some o/\KO (fun ρ1=>Ws gs ρ1 N R B C) R B C o):∃o,(match x with
  |some (.nx ρ1)=>gs ρ1
  |o=>o)=some o/\KO N R B C o:=by
 obtain⟨o,rfl,h⟩:=h;cases o with
 |nx ρ1=>exact h
 |bk ρ1=>exact⟨_,rfl,h⟩
 |ct ρ1=>exact⟨_,rfl,h⟩
 |ret z ρ1=>exact⟨_,rfl,h⟩
theorem VB{t:FT}{ga gb:FM}{ρ ρ':Env}{p:Dp}(h:Wt t ρ' fun c _=>Wif c (Wm ga ρ p (fun ρ1=>Ws gs ρ1 N R B C) R B C) (Wm gb ρ p (fun ρ1=>Ws gs ρ1 N R B C) R B C))(e:see j ρ p=ρ'):Wm (rP j t ga gb gs) ρ p N R B C:=by
 obtain⟨c,ρ1,h1,h2⟩:=h;unfold Wm rP;rw[e,h1];cases c with
 |true=>exact KO.seq (h2.1 rfl)
 |false=>exact KO.seq (h2.2 rfl)
theorem WM{j:Nat}{i k e:FE}{ρ ρ' ρ'':Env}{rows:List Dp}{z:Int}{N:Env->Dp->Prop}{R:Dat->Env->Prop}(hv:We e ρ' fun v _=>v=.val d)(hi:We i ρ' fun v _=>v=.val (.int z))
  (hk:We k ρ'' fun v ρ1=>∃y rows' ρ2,v=.val (.int y)/\rQ rows z y d=some rows'/\lkE (ρ.set j .un) ρ1=some ρ2/\N ρ2 (.l rows')) (he:see j ρ (.l rows)=ρ') (he2:ρ.set j (.sh (Dp.dat (.l rows)))=ρ'') (hb:cj d=false):Wc (qo j i k e) ρ (.l rows) N R:=by
 obtain⟨v,ρa,h1,rfl⟩:=hv;obtain⟨v,ρb,h2,rfl⟩:=hi;obtain⟨v,ρc,h3,y,rows',ρ2,rfl,h4,h5,h6⟩:=hk;exact⟨.nx _ _,by unfold qo;dsimp only;rw[he,h1];dsimp only;rw[if_neg (by rw[hb];decide),h2];dsimp only;rw[he2,h3];dsimp only;rw[h5];dsimp only;rw[h4],h6⟩
noncomputable def DH(h:Int)(t:Tie):Bool:=decide (h=t.a\/h=t.b)&&!decide (t.a=t.b)
noncomputable def qA(t u:Tie):Bool:=eqD (.tup [.int u.a,.int u.b]) (.tup [.int t.a,.int t.b])
theorem AF(hl:r.length<=60)(w:List Int)(hw:w.length<=100)(x a:Int) :
  ∃x':Int,∃w':List Int,uG [az x,aE r,.lst (w.map Dat.int),.int a]=some (.new (.lst (w'.map Dat.int)),az x')/\w'.length<=2*w.length+2/\∀m∈w',m∈w\/m∈r.map (·.m):=by
 suffices hh:WrM (uG [az x,aE r,.lst (w.map Dat.int),.int a]) fun v d=>∃x':Int,∃w':List Int,v=.new (.lst (w'.map Dat.int))/\d=az x'/\w'.length<=2*w.length+2/\∀m∈w',m∈w\/m∈r.map (·.m) by obtain⟨v,d,h1,x',w',rfl,rfl,h2⟩:=hh;exact⟨x',w',h1,h2⟩
 unfold uG;refine U_ ?_ rfl rfl;and_intros;have lm:(w.map Dat.int).length=w.length:=gc ..;refine Ut (Uy ?_ (by decide));refine UJ (m:=((w.map Dat.int).length:Nat)+1) rfl (by lia) (by unfold dI;lia) rfl fun at_ x1 a0 a1 ρ3 e=>?_;subst e;refine Uw ?_ (by trivial);refine Ut (Uy (Q_ rfl (Uw ?_ (by trivial))) (by decide));refine Ut (U3 (Vr (DG (kM:=Dat.int) (xs:=w) (l:=none) (h:=some at_) (Q_ rfl ⟨rfl,rfl⟩) rfl rfl (Ve ⟨_,rfl,?_⟩))));refine UU Dat.int _ _ (nC w none (some at_)) _ _ _ _ _ (fun p q ρ=>∃(h:Int) (c6:Cell),ρ=[.ow (az x1),.sh (aE r),.sh (.lst (w.map Dat.int)),.sh (.int a),.sh (.int at_),.sh (.int h),c6,.un,.un,.un]) ⟨a,_,rfl⟩ ?_ ?_
 ·rintro p m q ρ e ⟨h,c6,rfl⟩;refine Dm.bG rfl (by trivial) ?_;unfold De;refine Uy (S_ (UC (m_ (VH bI r (fun t=>decide (t.m=m)) (fun t=>t.a+t.b) Dat.int (d:=aE r) ?_ rfl rfl rfl (by decide) (by unfold SZ;lia) (fun u _=>?_) fun u _ _=>?_)))) (by decide)
  ·refine R_ (WZ (ns:=(r.filter fun t=>decide (t.m=m)).map fun t=>t.a+t.b) ?_ rfl);exact Q_ rfl (U5 (Uw ⟨_,_,rfl⟩ (by trivial)) rfl rfl)
  ·refine Ux (S_ (S_ (Q_ rfl (T_ (Uv (v:=.int u.m) ?_ rfl rfl rfl)))));exact Q_ rfl (UL (Uu ⟨rfl,rfl⟩) rfl rfl)
  ·refine S_ (S_ (Q_ rfl (T_ (Uv (v:=.int u.a) ?_ rfl rfl rfl))));refine S_ (Q_ rfl (T_ (Uv (v:=.int u.b) ?_ rfl rfl rfl)));exact UR (UE ⟨rfl,rfl⟩) rfl rfl
 ·rintro ρ ⟨h,c6,rfl⟩;refine Ut (Uy (VH bI r (DH h) id bI (d:=aE r) ?_ rfl rfl rfl (by decide) (by unfold SZ;lia) (fun u _=>?_) fun u _ _=>Q_ rfl (UE ⟨rfl,rfl⟩)) (by decide))
  rotate_left
  ·refine VW (Ux (S_ (Q_ rfl (VF (Q_ rfl (Wp.some (T_ (cC.mk (Wp.none ⟨_,rfl,(by show ¬(sIx 3 0 (some 1)=0/\sIx 3 3 none=3);decide),?_⟩)))))))));rw[sj];refine VY (a:=u.a) (b:=u.b) (Uu ?_) rfl rfl;unfold DH;cases decide (h=u.a\/h=u.b) with
   |false=>exact UA ⟨rfl,rfl⟩
   |true=>rw[Q7];refine UH (Ux (S_ (S_ (Q_ rfl (T_ (Uv (v:=.int u.a) ?_ rfl rfl rfl))))));refine S_ (Q_ rfl (T_ (Uv (v:=.int u.b) ?_ rfl rfl rfl)));exact Vi (Uu ⟨rfl,rfl⟩) rfl rfl
  refine UO ?_ (by trivial);rw[R3]
  generalize hq:r.filter (DH h)=q
  have lq:q.length<=r.length:=by rw[<- hq];exact RB _ _
  have sub:∀t∈q,t∈r:=fun t ht=>by rw[<- hq]at ht;exact(Q8.mp ht).1
  refine Ut (UG (Ux (S_ (UD rfl (U0 (R_ (UI (Vu (xs:=q.map bI) (Uu ?_) rfl rfl (CM bI _ fun t=>rfl)) rfl rfl (by decide))))))));by_cases hq0:q=[]
  ·subst hq0;refine UH (Uz (UC (m_ (Q_ rfl (R_ (U1 (xs:=w.map Dat.int) ?_ rfl))))));exact Vs ⟨_,rfl,x1,w,rfl,rfl,by lia,fun m hm=>.inl hm⟩
  rw[show (q.map bI).isEmpty=false by cases q with | nil=>exact absurd rfl hq0 | cons a b=>rfl];refine UA (UB ?_);have pos:0<q.length:=List.length_pos_iff.mpr hq0;have lqm:(q.map bI).length=q.length:=gc ..;refine Ut (Uy (S_ (UD rfl ?_)) (by decide));refine UJ (m:=((q.map bI).length:Nat)) rfl (by lia) (by unfold dI;lia) rfl fun i x2 i0 i1 ρ3 e=>?_;subst e;refine Vv (xs:=q) (kM:=bI) i0 (by lia) ?_ rfl rfl;have mt:q[i.toNat]'(by lia)∈q:=RC _
  generalize (q[i.toNat]'(by lia))=t at mt
  refine Uw ?_ (by trivial);refine Ut (Uy (WV bI q (qA t) id bI ?_ rfl rfl rfl (by decide) (by unfold SZ;lia) (fun u _=>?_) fun u _ _=>Q_ rfl (UE ⟨rfl,rfl⟩)) (by decide))
  rotate_left
  ·refine Ux (S_ (VF (Q_ rfl (Wp.some (T_ (cC.mk (Wp.none ⟨_,rfl,(by show ¬(sIx 3 0 (some 1)=0/\sIx 3 3 none=3);decide),?_⟩)))))));rw[sj];refine VF (Q_ rfl (Wp.some (T_ (cC.mk (Wp.none ⟨_,rfl,(by show ¬(sIx 3 0 (some 1)=0/\sIx 3 3 none=3);decide),?_⟩)))));rw[sj];exact⟨_,_,_,rfl,rfl,rfl,Uu ⟨rfl,rfl⟩⟩
  refine UO ?_ (by trivial);rw[R3];have mb:t∈q.filter (qA t):=Q8.mpr ⟨mt,by unfold qA;simp[eqD,j5]⟩;have lb:(q.filter (qA t)).length<=q.length:=RB _ _;have sb:∀u∈q.filter (qA t),u∈r:=fun u hu=>sub u (Q8.mp hu).1
  generalize q.filter (qA t)=bk at mb lb sb
  have pb:0<bk.length:=S3 mb;have lbm:(bk.map bI).length=bk.length:=gc ..;refine Uz (S_ (S_ (DG (kM:=Dat.int) (xs:=w) (l:=none) (h:=some at_) (Q_ rfl ⟨rfl,rfl⟩) rfl rfl (U0 ?_))));refine m_ (S_ (Q_ rfl (T_ (Uv (v:=.int t.m) ?_ rfl rfl rfl))));refine m_ (S_ (S_ (UD rfl ?_)));refine UJ (m:=((bk.map bI).length:Nat)) rfl (by lia) (by unfold dI;lia) rfl fun j x3 j0 j1 ρ3 e=>?_;subst e;refine Vv (xs:=bk) (kM:=bI) j0 (by lia) ?_ rfl rfl;have mu:bk[j.toNat]'(by lia)∈bk:=RC _
  generalize (bk[j.toNat]'(by lia))=u at mu
  refine T_ (Uv (v:=.int u.m) ?_ rfl rfl rfl);refine R_ (UI ?_ rfl rfl (by exact QC rfl));have l1:=uo w none (some at_);have l2:=uo w (some at_) none;refine VE (xs:=nC w none (some at_)) (ys:=[t.m,u.m]) ?_ rfl rfl (by show _+2<=_;unfold SZ;lia);refine DG (kM:=Dat.int) (xs:=w) (l:=some at_) (h:=none) (Q_ rfl ⟨rfl,rfl⟩) rfl rfl ?_;refine VE (xs:=nC w none (some at_)++[t.m,u.m]) (ys:=nC w (some at_) none) ?_ rfl rfl (by rw[Qv];show _+2+_<=_;unfold SZ;lia);refine Vs ⟨_,rfl,x3,_,rfl,rfl,?_,fun m hm=>?_⟩
  ·rw[Qv,Qv];show _+2+_<=_
   lia
  ·rcases QE.mp hm with hm | hm
   ·rcases QE.mp hm with hm | hm
    ·exact .inl (uq hm)
    ·right;simp at hm;rcases hm with rfl | rfl
     ·exact QF.mpr ⟨t,sub t mt,rfl⟩
     ·exact QF.mpr ⟨u,sb u mu,rfl⟩
   ·exact .inl (uq hm)
noncomputable def rwD(w:List Int):Dat:=.lst (w.map Dat.int)
noncomputable def rwP(w:List Int):Dp:=.l ((w.map Dat.int).map .s)
theorem cg:∀ws:List (List Int),Dp.iw (ws.map rwP)=ws.map rwD
 |[]=>rfl
 |w::ws=>by rw[gp,gp,Dp.iw,cg ws];unfold rwP rwD;rw[Dp.dat,Dp.Ck]
theorem qB:∀ns:List Int,d9 ((ns.map Dat.int).map .s)=true
 |[]=>by unfold d9;rfl
 |n::ns=>by rw[gp,gp];unfold d9;rw[qB ns];unfold eX;rw[CQ];rfl
theorem uT(v:List Int):∀(ws:List (List Int)) (k:Nat),(ws.set k v).flatten.length<=ws.flatten.length+v.length
 |[],k=>by simp
 |w::ws,0=>by simp;lia
 |w::ws,k+1=>by
  have:=uT v ws k;simp only[List.set_cons_succ,Q9,Qv]at *
  lia
theorem mem_set{v:List Int}{k:Nat}(h1:∀m∈ws.flatten,P m)(h2:∀m∈v,P m):∀m∈(ws.set k v).flatten,P m:=fun m hm=>by
 obtain⟨w,hw,hm'⟩:=R0.mp hm;rcases List.mem_or_eq_of_mem_set hw with hw | rfl
 ·exact h1 m (R0.mpr ⟨w,hw,hm'⟩)
 ·exact h2 m hm'
theorem nP:∀(ws:List (List Int)) (k:Nat),(ws.eraseIdx k).flatten.length<=ws.flatten.length
 |[],k=>by simp
 |w::ws,0=>by simp
 |w::ws,k+1=>by
  have:=nP ws k;simp only[SY,Q9,Qv]at *
  lia
theorem sq{w:List Int}:∀{ws:List (List Int)},w∈ws->w.length<=ws.flatten.length
 |u::ws,h=>by
  rw[Q9,Qv];rcases Qw.mp h with rfl | h
  ·lia
  ·have:=sq h;lia
theorem qC{α β:Type}(f:α->β):∀(l:List α) (k:Nat),(l.map f).eraseIdx k=(l.eraseIdx k).map f
 |[],k=>rfl
 |_::_,0=>rfl
 |x::l,k+1=>by rw[gp,SY,SY,qC f l k,gp]
def Sp(P:Int->Prop)(ws:List (List Int)):Prop:=ws.length<=61/\ws.flatten.length<=200/\∀m∈ws.flatten,P m
theorem G3{w:List Int}{at_:Int}(h:gIx (.lst (ws.map rwD)) (.int at_)=some (.val (rwD w))){c0 c1 c2 c3 c5 c6 c7:Cell}:eB cE [(e2 gIx (eV 4) (eV 8))] [c0,c1,c2,c3,.sh (.lst (ws.map rwD)),c5,c6,c7,.sh (.int at_)]=some (.val (.int ((w.map Dat.int).length:Nat)),[c0,c1,c2,c3,.sh (.lst (ws.map rwD)),c5,c6,c7,.sh (.int at_)]):=by have:We (eB cE [(e2 gIx (eV 4) (eV 8))]) [c0,c1,c2,c3,.sh (.lst (ws.map rwD)),c5,c6,c7,.sh (.int at_)] fun v ρ=>v=.val (.int ((w.map Dat.int).length:Nat))/\ρ=[c0,c1,c2,c3,.sh (.lst (ws.map rwD)),c5,c6,c7,.sh (.int at_)]:=UC (m_ (S_ (Q_ rfl (Q_ rfl (Uv (v:=rwD w) (R_ (U7 (kM:=Dat.int) (xs:=w) ⟨by rw[gc];rfl,rfl⟩ rfl)) rfl rfl h)))));obtain⟨v,ρ,h1,rfl,rfl⟩:=this;exact h1
theorem nQ(hl:r.length<=60)(hr:∀t∈r,P t.m)(h5:P 5)(lw:ws.length<=60)(l1:∀w∈ws,1<=w.length)(hf:ws.flatten.length<=60)(hP:∀m∈ws.flatten,P m)(x a:Int) :
  ∃v x',∃ws':List (List Int),uH [az x,aE r,.lst (ws.map rwD),.int a]=some (v,az x')/\v.dat=.lst (ws'.map rwD)/\Sp P ws':=by
 suffices hh:WrM (uH [az x,aE r,.lst (ws.map rwD),.int a]) fun v d=>∃x',∃ws':List (List Int),d=az x'/\v.dat=.lst (ws'.map rwD)/\Sp P ws' by obtain⟨v,d,h1,x',ys,rfl,h2,h3⟩:=hh;exact⟨v,x',ys,h1,h2,h3⟩
 have pt:(Dp.l (ws.map rwP)).dat=.lst (ws.map rwD):=by rw[Dp.dat,cg]
 unfold uH;refine U_ ?_ rfl rfl;and_intros;refine WY (Wl rwD ws rwP (fun ρ=>∃c,ρ=[.ow (az x),.sh (aE r),.sh (.lst (ws.map rwD)),.sh (.int a),.un,.un,.un,.un,.un,c]) (ρ1:=[.ow (az x),.sh (aE r),.sh (.lst (ws.map rwD)),.sh (.int a),.un,.un,.un,.un,.un]) rfl (by unfold SZ;lia) ⟨_,rfl⟩ ?_ ?_) (by decide)
 ·rintro w hw ρ ⟨c,rfl⟩;refine⟨_,rfl,V1 (ds:=w.map Dat.int) (UC (m_ (Q_ rfl (R_ (U1 (xs:=w.map Dat.int) ⟨rfl,rfl,_,rfl⟩ rfl)))))⟩
 rintro ρ2 ⟨c,rfl⟩;refine⟨rfl,?_⟩;show Wm _ [.ow (az x),.sh (aE r),.sh (.lst (ws.map rwD)),.sh (.int a),.un,.un,.un,.un,.un] _ _ _ _ _;refine Vm (V4 (ρ':=[.ow (az x),.sh (aE r),.sh (.lst (ws.map rwD)),.sh (.int a),.sh (.lst (ws.map rwD)),.un,.un,.un,.un]) ?_ (by rw[pt];rfl) (by decide));refine UJ (m:=7) rfl (by decide) (by decide) rfl fun turn x1 t0 t1 ρ3 e=>?_;subst e;refine⟨.int turn,_,rfl,rfl,rfl,?_⟩;show Wm _ [.ow (az x1),.sh (aE r),.sh (.lst (ws.map rwD)),.sh (.int a),.un,.sh (.int turn),.un,.un,.un] _ _ _ _ _
 generalize hms:r.map (·.m)++[5]=ms
 have lms:ms.length=r.length+1:=by rw[<- hms,Qv,gc];rfl
 have pms:∀m∈ms,P m:=fun m hm=>by
  rw[<- hms]at hm;rcases QE.mp hm with hm | hm
  ·obtain⟨t,ht,rfl⟩:=QF.mp hm;exact hr t ht
  ·rw[QN.mp hm];exact h5
 refine Vm (WQ (q:=.l ((ms.map Dat.int).map .s)) (D:=.lst (ms.map Dat.int)) (ρ':=[.sh (az x1),.sh (aE r),.sh (.lst (ws.map rwD)),.sh (.int a),.sh (.lst (ws.map rwD)),.sh (.int turn),.un,.un,.un]) (ρ2:=[.ow (az x1),.sh (aE r),.sh (.lst (ws.map rwD)),.sh (.int a),.un,.sh (.int turn),.sh (.lst (ms.map Dat.int)),.un,.un]) ?_ ?_ (by unfold see;rw[pt];rfl) (by unfold eX;exact qB ms) (by rw[Dp.dat,Dp.Ck]) rfl (by decide))
 ·refine V1 (ds:=ms.map Dat.int) (S_ (Vd bI r (·.m) Dat.int (d:=aE r) ?_ rfl rfl rfl (by decide) (by unfold SZ;lia) fun t ht=>S_ (Q_ rfl (T_ (Uv (v:=.int t.m) (UE ⟨rfl,rfl⟩) rfl rfl rfl)))));refine U0 (m_ (T_ (R_ (UI ?_ rfl rfl (by decide)))));refine Wg (xs:=r.map (·.m)) (y:=5) ?_ rfl rfl (by rw[gc];unfold SZ;lia);rw[hms];exact⟨rfl,rfl⟩
 have lmm:(ms.map Dat.int).length=ms.length:=gc ..;refine Vm (V4 (ρ':=[.ow (az x1),.sh (aE r),.sh (.lst (ws.map rwD)),.sh (.int a),.sh (.lst (ws.map rwD)),.sh (.int turn),.sh (.lst (ms.map Dat.int)),.un,.un]) ?_ (by rw[pt];rfl) (by decide));refine S_ (Q_ rfl ?_);refine UJ (m:=((ms.map Dat.int).length:Nat)) rfl (by lia) (by unfold dI;lia) rfl fun i x2 i0 i1 ρ3 e=>?_;subst e;refine Vv (xs:=ms) (kM:=Dat.int) i0 (by lia) ?_ rfl rfl;have pm:P (ms[i.toNat]'(by lia)):=pms _ (RC _)
 generalize (ms[i.toNat]'(by lia))=mo at pm
 refine⟨.int mo,_,rfl,rfl,rfl,?_⟩;show Wm _ [.ow (az x2),.sh (aE r),.sh (.lst (ws.map rwD)),.sh (.int a),.un,.sh (.int turn),.sh (.lst (ms.map Dat.int)),.sh (.int mo),.un] _ _ _ _ _;have sw:see 4 [.ow (az x2),.sh (aE r),.sh (.lst (ws.map rwD)),.sh (.int a),.un,.sh (.int turn),.sh (.lst (ms.map Dat.int)),.sh (.int mo),.un] (.l (ws.map rwP))=[.sh (az x2),.sh (aE r),.sh (.lst (ws.map rwD)),.sh (.int a),.sh (.lst (ws.map rwD)),.sh (.int turn),.sh (.lst (ms.map Dat.int)),.sh (.int mo),.un]:=by unfold see;rw[pt];rfl
 have okw:okD 8 (.lst (ws.map rwD))=true:=G0 6 ws;by_cases hc:turn=0\/ws=[]
 ·refine WW ?_ ?_ sw
  ·refine UT (Ux (S_ (Q_ rfl (T_ (UL (Uu ?_) rfl rfl)))));by_cases ht:turn=0
   ·rw[decide_eq_true ht];exact UH rfl
   ·rw[decide_eq_false ht];have hw0:ws=[]:=hc.resolve_left ht;refine UA (Ux (S_ (Q_ rfl (U0 (R_ (UI (Vu (xs:=ws.map rwD) (Uu ?_) rfl rfl okw) rfl rfl (by decide)))))));subst hw0;rfl
  ·refine Vk (ρ1:=[.ow (az x2),.sh (aE r),.sh (.lst (ws.map rwD)),.sh (.int a),.ow (.lst (ws.map rwD)),.sh (.int turn),.sh (.lst (ms.map Dat.int)),.sh (.int mo),.un]) ?_ (by rw[cg];rfl);refine Uz (S_ (UD rfl (U0 (m_ (U0 (m_ (Q_ rfl (R_ (UI (R_ (UI ?_ rfl rfl (by exact QC rfl))) rfl rfl (by exact QC rfl))))))))));refine VU (xs:=ws.map rwD) (ys:=[rwD [mo]]) ?_ rfl rfl (by rw[gc];show _+1<=_;unfold SZ;lia);refine Vs ⟨_,rfl,x2,ws++[[mo]],rfl,by rw[QK];rfl,by rw[Qv];show _+1<=_;lia,by rw[RK,Qv];show _+1<=_;lia,fun m hm=>?_⟩;rw[RK]at hm;rcases QE.mp hm with hm | hm
   ·exact hP m hm
   ·simp at hm;rw[hm];exact pm
 have ht0:turn≠0:=fun z=>hc (.inl z);have hw0:ws≠[]:=fun z=>hc (.inr z);refine WC ?_ ?_ sw
 ·refine UT (Ux (S_ (Q_ rfl (T_ (UL (Uu ?_) rfl rfl)))));rw[decide_eq_false ht0];refine UA (Ux (S_ (Q_ rfl (U0 (R_ (UI (Vu (xs:=ws.map rwD) (Uu ?_) rfl rfl okw) rfl rfl (by decide)))))));cases ws with
  |nil=>exact absurd rfl hw0
  |cons a b=>rfl
 have pos:0<ws.length:=List.length_pos_iff.mpr hw0;have lwm:(ws.map rwD).length=ws.length:=gc ..;refine Vm (V4 (ρ':=[.ow (az x2),.sh (aE r),.sh (.lst (ws.map rwD)),.sh (.int a),.sh (.lst (ws.map rwD)),.sh (.int turn),.sh (.lst (ms.map Dat.int)),.sh (.int mo),.un]) ?_ (by rw[pt];rfl) (by decide));refine UJ (m:=((ws.map rwD).length:Nat)) rfl (by lia) (by unfold dI;lia) rfl fun at_ x3 a0 a1 ρ3 e=>?_;subst e;refine⟨.int at_,_,rfl,rfl,rfl,?_⟩;show Wm _ [.ow (az x3),.sh (aE r),.sh (.lst (ws.map rwD)),.sh (.int a),.un,.sh (.int turn),.sh (.lst (ms.map Dat.int)),.sh (.int mo),.sh (.int at_)] _ _ _ _ _;have sE:see 4 [.ow (az x3),.sh (aE r),.sh (.lst (ws.map rwD)),.sh (.int a),.un,.sh (.int turn),.sh (.lst (ms.map Dat.int)),.sh (.int mo),.sh (.int at_)] (.l (ws.map rwP))=[.sh (az x3),.sh (aE r),.sh (.lst (ws.map rwD)),.sh (.int a),.sh (.lst (ws.map rwD)),.sh (.int turn),.sh (.lst (ms.map Dat.int)),.sh (.int mo),.sh (.int at_)]:=by unfold see;rw[pt];rfl
 have hat:at_.toNat<ws.length:=by lia
 generalize hw:ws[at_.toNat]=w
 have mw:w∈ws:=by rw[<- hw];exact RC _
 have w1:=l1 w mw;have w2:=sq mw;have wP:∀m∈w,P m:=fun m hm=>hP m (R0.mpr ⟨w,mw,hm⟩);have ixw:gIx (.lst (ws.map rwD)) (.int at_)=some (.val (rwD w)):=by unfold gIx;dsimp only;rw[gK rwD ws at_ a0 (by lia),hw];rfl
 have Li:∀{α:Type} (l:List α),l.length=ws.length->ixN l.length at_=some at_.toNat:=fun l h=>by unfold ixN;rw[if_pos a0,if_pos (by lia)]
 have put:∀v:List Int,v.length<=130->(∀m∈v,P m)->Sp P (ws.set at_.toNat v):=fun v h1 h2=>⟨by rw[QU];lia,by have:=uT v ws at_.toNat;lia,mem_set hP h2⟩;have putD:∀v:List Int,(ws.map rwD).set at_.toNat (rwD v)=(ws.set at_.toNat v).map rwD:=fun v=>by rw[TY]
 have N3:∀v:List Int,(ws.map rwP).set at_.toNat (rwP v)=(ws.set at_.toNat v).map rwP:=fun v=>by rw[TY]
 have CY:∀(x4:Int) (ws':List (List Int)),Sp P ws'->Ws (sR (eV 4)) [.ow (az x4),.sh (aE r),.sh (.lst (ws.map rwD)),.sh (.int a),.ow (.lst (ws'.map rwD)),.sh (.int turn),.sh (.lst (ms.map Dat.int)),.sh (.int mo),.sh (.int at_)] (fun ρ'=>∃d',ρ'[0]?=some (.ow d')/\∃x',∃ws':List (List Int),d'=az x'/\(RV.val .non).dat=.lst (ws'.map rwD)/\Sp P ws') (fun z ρ'=>∃d',ρ'[0]?=some (.ow d')/\∃x',∃ws':List (List Int),d'=az x'/\z.dat=.lst (ws'.map rwD)/\Sp P ws') (fun _=>False) (fun _=>False):=fun x4 ws' h=>by refine Uz (UD rfl ?_);exact Vh ⟨_,rfl,x4,ws',rfl,rfl,h⟩ rfl
 have row:(ws.map rwP)[at_.toNat]?=some (rwP w):=by rw[QL,Qz hat,hw];rfl
 refine VB (Ux (S_ (Q_ rfl (T_ (UL (Uu (UQ (fun _=>?_) fun _=>?_)) rfl rfl))))) sE
 ·refine Vk (ρ1:=[.ow (az x3),.sh (aE r),.sh (.lst (ws.map rwD)),.sh (.int a),.ow (.lst (ws.map rwD)),.sh (.int turn),.sh (.lst (ms.map Dat.int)),.sh (.int mo),.sh (.int at_)]) ?_ (by rw[cg];rfl);refine VL (WU (Q_ rfl (cC.mk ⟨_,rwD w,_,rfl,⟨a0,by unfold BIG;lia⟩,?_,rfl,?_⟩)) rfl)
  ·rw[QL,Qz hat,hw];rfl
  ·rw[qC];refine CY x3 _ ⟨by have:=List.length_eraseIdx_le ws at_.toNat;lia,by have:=nP ws at_.toNat;lia,fun m hm=>?_⟩;obtain⟨u,hu,hm⟩:=R0.mp hm;exact hP m (R0.mpr ⟨u,List.mem_of_mem_eraseIdx hu,hm⟩)
 refine VB (Ux (S_ (Q_ rfl (T_ (UL (Uu (UQ (fun _=>?_) fun _=>?_)) rfl rfl))))) sE
 ·refine Vk (ρ1:=[.ow (az x3),.sh (aE r),.sh (.lst (ws.map rwD)),.sh (.int a),.ow (.lst (ws.map rwD)),.sh (.int turn),.sh (.lst (ms.map Dat.int)),.sh (.int mo),.sh (.int at_)]) ?_ (by rw[cg];rfl);refine Vt (UC (m_ (S_ (UD rfl (Q_ rfl (Uv (v:=rwD w) ?_ rfl rfl ixw)))))) rfl;refine R_ (U1 (xs:=w.map Dat.int) ?_ rfl);refine Ve ⟨_,_,rfl,rfl,UB ?_,?_⟩
  ·have e:ws.map rwD++[rwD w]=(ws++[w]).map rwD:=by rw[QK];rfl
   show Ws _ [.ow (az x3),.sh (aE r),.sh (.lst (ws.map rwD)),.sh (.int a),.ow (.lst (ws.map rwD++[rwD w])),.sh (.int turn),.sh (.lst (ms.map Dat.int)),.sh (.int mo),.sh (.int at_)] _ _ _ _;rw[e];refine CY x3 _ ⟨by rw[Qv];show _+1<=_;lia,by rw[RK,Qv,List.flatten_singleton];lia,fun m hm=>?_⟩;rw[RK,List.flatten_singleton]at hm;exact(QE.mp hm).elim (hP m) (wP m)
  ·rw[gc];unfold SZ;lia
 refine VB (Ux (S_ (Q_ rfl (T_ (UL (Uu (UQ (fun _=>?_) fun _=>?_)) rfl rfl))))) sE
 ·refine Vm (WE (k:=at_) (d:=.int mo) (rows':=(ws.set at_.toNat (w++[mo])).map rwP) (Q_ rfl rfl) (Q_ rfl rfl) ?_ sE rfl ?_)
  ·refine Vk (ρ1:=[.ow (az x3),.sh (aE r),.sh (.lst (ws.map rwD)),.sh (.int a),.ow (.lst ((ws.set at_.toNat (w++[mo])).map rwD)),.sh (.int turn),.sh (.lst (ms.map Dat.int)),.sh (.int mo),.sh (.int at_)]) (UB ?_) (by rw[cg];rfl);exact UB (UB (CY x3 _ (put _ (by rw[Qv];show _+1<=_;lia) fun m hm=>(QE.mp hm).elim (wP m) fun z=>(QN.mp z)▸pm)))
  ·unfold rF;rw[Li (ws.map rwP) (gc ..)];dsimp only;rw[row];rw[<- N3];show (if ((w.map Dat.int).map Dp.s).length<SZ then some ((ws.map rwP).set at_.toNat (.l ((w.map Dat.int).map Dp.s++[.s (.int mo)]))) else none)=_;rw[if_pos (by rw[gc,gc];unfold SZ;lia)];have:rwP (w++[mo])=.l ((w.map Dat.int).map Dp.s++[.s (.int mo)]):=by
    unfold rwP;rw[QK,QK];rfl
   rw[this]
 refine VB (Ux (S_ (Q_ rfl (T_ (UL (Uu (UQ (fun _=>?_) fun _=>?_)) rfl rfl))))) sE
 ·have lww:(w.map Dat.int).length=w.length:=gc ..;refine Vm (WM (z:=at_) (d:=.int mo) (ρ'':=[.ow (az x3),.sh (aE r),.sh (.lst (ws.map rwD)),.sh (.int a),.sh (.lst (ws.map rwD)),.sh (.int turn),.sh (.lst (ms.map Dat.int)),.sh (.int mo),.sh (.int at_)]) (Q_ rfl rfl) (Q_ rfl rfl) ?_ sE (by rw[pt];rfl) rfl);refine UJ (m:=((w.map Dat.int).length:Nat)) (G3 ixw) (by lia) (by unfold dI;lia) rfl fun k x4 k0 k1 ρ3 e=>?_;subst e;refine⟨k,(ws.set at_.toNat (w.set k.toNat mo)).map rwP,_,rfl,?_,rfl,?_⟩
  ·unfold rQ;rw[Li (ws.map rwP) (gc ..)];dsimp only;rw[row];have hk:k.toNat<w.length:=by lia
   show (match ixN ((w.map Dat.int).map Dp.s).length k with
    |none=>none
    |some q=>match ((w.map Dat.int).map Dp.s)[q]? with
     |some (.s _)=>some ((ws.map rwP).set at_.toNat (.l (((w.map Dat.int).map Dp.s).set q (.s (.int mo)))))
     |_=>none)=_
   have i1:ixN ((w.map Dat.int).map Dp.s).length k=some k.toNat:=by unfold ixN;rw[if_pos k0,if_pos (by rw[gc];lia)]
   have i2:((w.map Dat.int).map Dp.s)[k.toNat]?=some (.s (.int w[k.toNat])):=by rw[QL,QL,Qz hk];rfl
   rw[i1];dsimp only;rw[i2];dsimp only;rw[<- N3];unfold rwP;rw[TY,TY]
  ·refine Vk (ρ1:=[.ow (az x4),.sh (aE r),.sh (.lst (ws.map rwD)),.sh (.int a),.ow (.lst ((ws.set at_.toNat (w.set k.toNat mo)).map rwD)),.sh (.int turn),.sh (.lst (ms.map Dat.int)),.sh (.int mo),.sh (.int at_)]) (UB ?_) (by rw[cg];rfl);exact UB (UB (UB (CY x4 _ (put _ (by rw[QU];lia) fun m hm=>(List.mem_or_eq_of_mem_set hm).elim (wP m) fun z=>z▸pm))))
 ·refine Vk (ρ1:=[.ow (az x3),.sh (aE r),.sh (.lst (ws.map rwD)),.sh (.int a),.ow (.lst (ws.map rwD)),.sh (.int turn),.sh (.lst (ms.map Dat.int)),.sh (.int mo),.sh (.int at_)]) ?_ (by rw[cg];rfl);obtain⟨x4,w',ed,lw',pw'⟩:=AF hl w (by lia) x3 a;have pq:∀m∈w',P m:=fun m hm=>by
   rcases pw' m hm with z | z
   ·exact wP m z
   ·obtain⟨t,ht,rfl⟩:=QF.mp z;exact hr t ht
  refine Wf (Vf (m_ (Q_ rfl (m_ (S_ (UD rfl (Q_ rfl (Uv (v:=rwD w) ?_ rfl rfl ixw))))))) rfl);refine m_ (Q_ rfl (R_ (Vc ed ?_ rfl rfl rfl)));refine Ve ⟨⟨_,rfl⟩,Q_ rfl (cC.mk ⟨_,_,_,rfl,Li _ lwm,rfl,UB (UB (UB ?_))⟩)⟩;show Ws _ [.ow (az x4),.sh (aE r),.sh (.lst (ws.map rwD)),.sh (.int a),.ow (.lst ((ws.map rwD).set at_.toNat (rwD w'))),.sh (.int turn),.sh (.lst (ms.map Dat.int)),.sh (.int mo),.sh (.int at_)] _ _ _ _;rw[putD];exact CY x4 _ (put _ (by lia) pq)
def Sd(S:List Int):Prop:=S.length<=17/\∀i∈S,-1<=i/\i<=10
def SdO(o:Option (List Int)):Prop:=∀S,o=some S->Sd S
theorem nR{n:Nat}(n10:n<=10)(ho:∀S,o=some S->S.length<=10/\∀i∈S,0<=i/\i<n)(x:Int) :
  ∃v x',∃o':Option (List Int),uI [az x,.int n,bJ o]=some (v,az x')/\v=.val (bJ o')/\SdO o':=by
 suffices hh:WrM (uI [az x,.int n,bJ o]) fun v d=>∃x',∃o':Option (List Int),d=az x'/\v=.val (bJ o')/\SdO o' by obtain⟨v,d,h1,x',ys,rfl,h2,h3⟩:=hh;exact⟨v,x',ys,h1,h2,h3⟩
 have one:∀S,Sd S->SdO (some S):=fun S h S' e=>by cases e;exact h
 unfold uI;refine U_ ?_ rfl rfl;and_intros;refine Ut (Uy (S_ ?_) (by decide));refine UJ (m:=(n:Int)+2) rfl (by lia) (by unfold dI;lia) rfl fun p x1 p0 p1 ρ3 e=>?_;subst e;refine T_ (U5 (Uw ?_ (by trivial)) rfl rfl);have q0:-1<=p-1:=by lia
 have q1:p-1<=10:=by lia
 generalize p-1=q at q0 q1
 cases o with
 |none=>
  refine Ut (UG (Ux (S_ (Q_ rfl (T_ (Vg (d:=.non) (Uu (UH ?_)) rfl rfl))))));refine Uz (S_ (U0 (m_ (Va (m_ (Q_ rfl (R_ (UI ?_ rfl rfl (by exact QC rfl)))))))));refine m_ (Va (R_ (UI ?_ rfl rfl (by exact QC rfl))));refine R_ (UI ?_ rfl rfl (by exact QC rfl));refine UJ (m:=2) rfl (by decide) (by decide) rfl fun i x2 i0 i1 ρ3 e=>?_;subst e;have hi:i=0\/i=1:=by lia
  rcases hi with rfl | rfl
  ·refine Uv (v:=tupI [q]) (UY ⟨_,rfl,x2,some [q],rfl,rfl,one _ ⟨by simp,fun i hi=>?_⟩⟩) rfl rfl rfl;rw[QN.mp hi];lia
  ·exact Uv (v:=tupI []) (UY ⟨_,rfl,x2,some [],rfl,rfl,one _ ⟨by decide,fun i hi=>by cases hi⟩⟩) rfl rfl rfl
 |some S=>
  obtain⟨lS,hS⟩:=ho S rfl;have hS':∀i∈S,-1<=i/\i<=10:=fun i hi=>by have:=hS i hi;lia
  refine Ut (UG (Ux (S_ (Q_ rfl (T_ (Vg (d:=tupI S) (Uu (UA (UB ?_))) rfl rfl))))));refine Ut (Uy ?_ (by decide));refine UJ (m:=5) rfl (by decide) (by decide) rfl fun turn x2 t0 t1 ρ3 e=>?_;subst e;refine Uw ?_ (by trivial);refine Ut (UG (Ux (S_ (Q_ rfl (T_ (UL (Uu (UQ (fun _=>?_) fun _=>UB ?_)) rfl rfl))))))
  ·exact Uz (T_ (UY ⟨_,rfl,x2,none,rfl,rfl,fun S e=>by cases e⟩))
  refine Ut (UG (Ux (S_ (Q_ rfl (T_ (UL (Uu (UQ (fun _=>?_) fun _=>UB ?_)) rfl rfl))))))
  ·refine Uz (UC (m_ (VA (fun i:Nat=>Dat.int (0+(i:Nat))) (QG n) (fun i:Nat=>!decide ((0+(i:Nat):Int)∈S)) (fun i:Nat=>Dat.int (0+(i:Nat))) (ρ1:=[.ow (az x2),.sh (.int n),.sh (tupI S),.sh (.int q),.sh (.int turn)]) ?_ ?_ rfl (by decide) (by rw[Rg];unfold SZ;lia) (fun i _=>?_) fun i _ _=>Q_ rfl (UE ⟨rfl,rfl⟩))))
   ·refine R_ ⟨_,_,rfl,rfl,UY ⟨_,rfl,x2,some (((QG n).filter fun i:Nat=>!decide ((0+(i:Nat):Int)∈S)).map fun i:Nat=>(0+(i:Nat):Int)),rfl,?_,one _ ⟨?_,fun i hi=>?_⟩⟩⟩
    ·show RV.val (.tup _)=RV.val (.tup _);rw[Rk];rfl
    ·rw[gc];have:=RB (fun i:Nat=>!decide ((0+(i:Nat):Int)∈S)) (QG n);rw[Rg]at this
     lia
    ·obtain⟨k,hk,rfl⟩:=QF.mp hi;have:=Q3.mp (Q8.mp hk).1
     lia
   ·apply VQ;refine Vw (Q_ rfl (cC.mk ⟨⟨?_,rfl⟩,by unfold BIG;lia,by unfold BIG;lia⟩));rw[TN];rfl
   ·exact Ux (S_ (Q_ rfl (Q_ rfl (VG (xs:=S) (Uu ⟨rfl,rfl⟩) rfl rfl))))
  refine Ut (UG (Ux (S_ (Q_ rfl (T_ (UL (Uu (UQ (fun _=>?_) fun _=>UB ?_)) rfl rfl))))))
  ·have c1:qk (tupI S) (.tup [.int q])=some (.val (tupI (S++[q]))):=by
    unfold tupI qk;dsimp only;rw[if_pos (by rw[gc];show _+1<=_;unfold SZ;lia),QK];rfl
   have c2:fB [tupI (S++[q])]=some (.new (.lst ((bK (fun a b=>decide (a<b)) (S++[q])).map .int))):=by unfold tupI fB;dsimp only;rw[kH];dsimp only;rw[if_pos (by rw[Qv];show _+1<=_;lia)]
   refine Uz (UC (m_ (UC (m_ (S_ (Q_ rfl (Va (m_ (Q_ rfl (R_ (UI ?_ rfl rfl (by exact QC rfl))))))))))));refine⟨_,_,_,rfl,rfl,c1,?_⟩;refine R_ ⟨_,_,rfl,c2,?_⟩;have pm:=bF (fun a b:Int=>decide (a<b)) (S++[q]);refine R_ ⟨_,_,rfl,rfl,UY ⟨_,rfl,x2,some (bK (fun a b=>decide (a<b)) (S++[q])),rfl,rfl,one _ ⟨?_,fun i hi=>?_⟩⟩⟩
   ·rw[pm.length_eq,Qv];show _+1<=_;lia
   ·rcases QE.mp (pm.subset hi) with hi | hi
    ·exact hS' i hi
    ·rw[QN.mp hi];lia
  refine Ut (UG (Ux (S_ (Q_ rfl (T_ (UL (Uu (UQ (fun _=>?_) fun _=>UB ?_)) rfl rfl))))))
  ·refine Uz (UC (m_ (VH Dat.int S (fun i=>!decide (i=q)) id Dat.int (d:=tupI S) ?_ rfl rfl rfl (by decide) (by unfold SZ;lia) (fun i _=>?_) fun i _ _=>Q_ rfl (UE ⟨rfl,rfl⟩))))
   ·refine R_ ⟨_,_,rfl,rfl,UY ⟨_,rfl,x2,some (S.filter fun i=>!decide (i=q)),rfl,?_,one _ ⟨?_,fun i hi=>hS' i (Q8.mp hi).1⟩⟩⟩
    ·show RV.val (.tup _)=RV.val (.tup _);rw[R3]
    ·have:=RB (fun i=>!decide (i=q)) S
     lia
   ·exact Ux (S_ (Q_ rfl (Q_ rfl (Vi (Uu ⟨rfl,rfl⟩) rfl rfl))))
  ·refine Uz (U6 (Q_ rfl (UX (v:=.val (.tup (S.map Dat.int).reverse)) ?_ rfl rfl)));refine UY ⟨_,rfl,x2,some S.reverse,rfl,?_,one _ ⟨?_,fun i hi=>hS' i (List.mem_reverse.mp hi)⟩⟩
   ·rw[<- List.map_reverse];rfl
   ·rw[List.length_reverse];lia
theorem zj(ws:List (List Int)):cz ws=.lst (ws.map rwD):=rfl
theorem AG{n:Nat}(n10:n<=10)(hl:r.length<=60)(hr:∀t∈r,P t.m)(h5:P 5)(lw:ws.length<=60)(l1:∀w∈ws,1<=w.length)(hf:ws.flatten.length<=60)(hP:∀m∈ws.flatten,P m)
  {o:Option (List Int)} (ho:∀S,o=some S->S.length<=10/\∀i∈S,0<=i/\i<n) (c:Int) (c0:0<=c) (c1:c<=60) (x a:Int) :
  ∃x' c',∃ws':List (List Int),∃o':Option (List Int),uJ [az x,.int n,aE r,cY c ws o,.int a]=some (.val (cY c' ws' o'),az x')/\Sp P ws'/\SdO o'/\-1<=c'/\c'<=61:=by
 suffices hh:WrM (uJ [az x,.int n,aE r,cY c ws o,.int a]) fun v d=>∃x' c',∃ws':List (List Int),∃o':Option (List Int),d=az x'/\v=.val (cY c' ws' o')/\Sp P ws'/\SdO o'/\-1<=c'/\c'<=61 by obtain⟨v,d,h1,x',c',ws',o',rfl,rfl,h2⟩:=hh;exact⟨x',c',ws',o',h1,h2⟩
 have s0:Sp P ws:=⟨by lia,by lia,hP⟩
 have so:SdO o:=fun S e=>⟨by have:=(ho S e).1;lia,fun i hi=>by have:=(ho S e).2 i hi;lia⟩;unfold uJ cY;refine U_ ?_ rfl rfl;and_intros;refine Ut (Wq (Q_ rfl (UE ⟨_,_,rfl,rfl,?_⟩)));refine Ut (Uy ?_ (by decide));refine UJ (m:=4) rfl (by decide) (by decide) rfl fun turn x1 t0 t1 ρ3 e=>?_;subst e;refine Uw ?_ (by trivial);refine Ut (UG (Ux (S_ (Q_ rfl (T_ (UL (Uu (UQ (fun _=>?_) fun _=>UB ?_)) rfl rfl))))))
 ·refine Uz (Va (m_ (S_ (Q_ rfl (S_ (U0 (m_ (T_ (m_ (S_ (T_ (T_ (U5 (R_ (UI ?_ rfl rfl (by exact QC rfl))) rfl rfl)))))))))))));refine UJ (m:=2) rfl (by decide) (by decide) rfl fun i x2 i0 i1 ρ3 e=>?_;subst e;refine Dr (ns:=[1,0-1]) i0 i1 ?_ rfl rfl;have hm:at' [1,0-1] i=1\/at' [1,0-1] i=-1:=by
   have hi:i=0\/i=1:=by lia
   rcases hi with rfl | rfl
   ·left;rfl
   ·right;rfl
  generalize at' [1,0-1] i=dl at hm
  refine UR ?_ rfl rfl;refine m_ (Vd rwD ws id rwD (d:=.lst (ws.map rwD)) ?_ rfl rfl rfl (by decide) (by unfold SZ;lia) fun w hw=>UC (m_ (Q_ rfl (R_ (U1 (xs:=w.map Dat.int) (Ve ⟨rfl,rfl⟩) rfl)))));refine m_ (Q_ rfl (R_ (UI ?_ rfl rfl (by exact QC rfl))));rw[R3];exact UY ⟨_,rfl,x2,c+dl,ws,o,rfl,rfl,s0,so,by lia,by lia⟩
 refine Ut (UG (Ux (S_ (Q_ rfl (T_ (UL (Uu (UQ (fun _=>?_) fun _=>UB ?_)) rfl rfl))))))
 ·refine Uz (Va (m_ (Q_ rfl ?_)));refine m_ (Vd rwD ws id rwD (d:=.lst (ws.map rwD)) ?_ rfl rfl rfl (by decide) (by unfold SZ;lia) fun w hw=>UC (m_ (Q_ rfl (R_ (U1 (xs:=w.map Dat.int) (Ve ⟨rfl,rfl⟩) rfl)))));obtain⟨v,x2,o',es,rfl,ho'⟩:=nR n10 ho x1;refine m_ (Vf (m_ (Q_ rfl (m_ (Q_ rfl (R_ (Vc es ?_ rfl rfl rfl)))))) rfl);refine R_ (UI ?_ rfl rfl (by exact QC rfl));rw[R3];exact UY ⟨_,rfl,x2,c,ws,o',rfl,rfl,s0,ho',by lia,by lia⟩
 obtain⟨v,x2,ws',es,hv,hs⟩:=nQ hl hr h5 lw l1 hf hP x1 a;refine Ut (Uy (Vf (m_ (Q_ rfl (m_ (Q_ rfl (m_ (Q_ rfl (R_ (Vc es ?_ rfl rfl rfl)))))))) rfl) (by decide));have ls:(ws'.map rwD).length=ws'.length:=gc ..;have ll:=hs.1;rcases RV.two hv with rfl | rfl
 ·refine Uw ?_ (by trivial);refine Ut (UG (Ux (S_ (Q_ rfl (T_ (UL (Uu (UQ (fun _=>?_) fun _=>UB ?_)) rfl rfl))))))
  ·refine Uz (Va (m_ (UC (m_ (Q_ rfl (R_ (U7 (kM:=rwD) (xs:=ws') ?_ rfl)))))));refine m_ (Q_ rfl (m_ (Q_ rfl (R_ (UI ?_ rfl rfl (by exact QC rfl))))));exact UY ⟨_,rfl,x2,_,ws',o,rfl,rfl,hs,so,by lia,by lia⟩
  ·refine Uz (Va (m_ (Q_ rfl (m_ (Q_ rfl (m_ (Q_ rfl (R_ (UI ?_ rfl rfl (by exact QC rfl))))))))));exact UY ⟨_,rfl,x2,c,ws',o,rfl,rfl,hs,so,by lia,by lia⟩
 ·refine UO ?_ (by trivial);refine Ut (UG (Ux (S_ (Q_ rfl (T_ (UL (Uu (UQ (fun _=>?_) fun _=>UB ?_)) rfl rfl))))))
  ·refine Uz (Va (m_ (UC (m_ (UD rfl (R_ (U7 (kM:=rwD) (xs:=ws') ?_ rfl)))))));refine m_ (UD rfl (m_ (Q_ rfl (R_ (UI ?_ rfl rfl (by exact QC rfl))))));exact UY ⟨_,rfl,x2,_,ws',o,rfl,rfl,hs,so,by lia,by lia⟩
  ·refine Uz (Va (m_ (Q_ rfl (m_ (UD rfl (m_ (Q_ rfl (R_ (UI ?_ rfl rfl (by exact QC rfl))))))))));exact UY ⟨_,rfl,x2,c,ws',o,rfl,rfl,hs,so,by lia,by lia⟩
theorem kK(hr:Good n 0 r):∀{w:List Step} {x y:Int},Way (gC r) x w y->eE r x (mso w)=some y
 |[],x,y,h=>by cases h;rfl
 |s::w,x,y,h=>by
  obtain⟨⟨t,ht,tm,te⟩,hw⟩:=h;show eE r x (s.1::mso w)=some y;unfold eE;have hm:t∈r.filter (fun t=>decide (t.m=s.1)):=Q8.mpr ⟨ht,decide_eq_true tm⟩;cases hf:r.filter (fun t=>decide (t.m=s.1)) with
  |nil=>rw[hf]at hm;cases hm
  |cons u l=>
   have hu:u∈r.filter (fun t=>decide (t.m=s.1)):=by rw[hf];exact gV
   obtain⟨u1,u2⟩:=Q8.mp hu;have:u=t:=Good.uniq hr u u1 t ht (by rw[of_decide_eq_true u2,tm]);subst this;dsimp only;obtain⟨ne,e | e⟩:=te
   ·rw[if_neg (by rintro(z | z);exact ne z;exact z (.inl e.1.symm)),show u.a+u.b-x=s.2 by lia];exact kK hr hw
   ·rw[if_neg (by rintro(z | z);exact ne z;exact z (.inr e.1.symm)),show u.a+u.b-x=s.2 by lia];exact kK hr hw
theorem uO.right(hr:Good n 0 r){ws:List (List Step)}(W:uO r a b ws):fM r a b (ws.map mso)=true:=by unfold fM;rw[QD];refine⟨decide_eq_true W.nd,?_⟩;rw[Ra];intro m hm;obtain⟨w,hw,rfl⟩:=QF.mp hm;refine decide_eq_true ((fN hr b (mso w) [] a).mpr ⟨⟨?_,by simp⟩,kK hr (W.way w hw).way⟩);obtain⟨p,q,e⟩:=List.append_of_mem hm;have:=W.nd;rw[e,RK,Q9]at this;exact(Rj.mp (Rj.mp this).2.1).1
theorem DJ(ws:List (List Step)):Dat.lst (ws.map msD)=cz (ws.map mso):=by unfold cz;rw[Rk];rfl
theorem uO.P8{ws:List (List Step)}(W:uO r a b ws):(ws.map mso).flatten.length<=r.length:=by
 have sub:∀m∈(ws.map mso).flatten,m∈r.map (·.m):=fun m hm=>by obtain⟨l,hl,hm⟩:=R0.mp hm;obtain⟨w,hw,rfl⟩:=QF.mp hl;obtain⟨s,hs,rfl⟩:=QF.mp hm;exact rZ (fun p s z=>z) (W.way w hw).way s hs
 have:=W.nd.length_le_of_subset (fun m hm=>sub m hm);rw[gc]at this;exact this
theorem GP.few{n:Nat}(n10:n<=10)(q1:GP n a b S):S.length<=10:=by
 have h1:S.length<=((QG n).map fun i:Nat=>(i:Int)).length:=(Iu q1.1).length_le_of_subset fun x hx=>by obtain⟨z1,z2⟩:=q1.2.1 x hx;exact QF.mpr ⟨x.toNat,Q3.mpr (by lia),by lia⟩
 rw[gc,Rg]at h1
 lia
theorem DK{n:Nat}(hr:Good n 0 r){a b most:Int}{ws:List (List Step)}(A:Apart n r a b most ws o):uS n r a b most (ws.length:Nat) (ws.map mso) o=true:=by
 unfold uS;rw[decide_eq_true (by rw[gc]),decide_eq_true A.le,A.ways.right hr,Q7,Q7,Q7];cases o with
 |none=>exact decide_eq_true (A.all rfl)
 |some S=>obtain⟨q1,q2,q3⟩:=A.side S rfl;dsimp only;rw[decide_eq_true q3,decide_eq_true (by lia),Q7,Uh];unfold sdB qy;rw[decide_eq_true q1.2.2.1,decide_eq_false q1.2.2.2,(kJ S).mpr q1.1];rw[show (S.all fun x=>decide (0<=x/\x<(n:Int)))=true from Ra.mpr fun x hx=>decide_eq_true (q1.2.1 x hx)];rfl
theorem zk:∀ws:List (List Int),(∀m∈ws.flatten,m.natAbs<10 ^ 100)->bR 6 (ws.map rwD)=true
 |[],_=>by unfold bR;rfl
 |w::ws,h=>by
  rw[gp];unfold bR;rw[zk ws fun m hm=>h m (by rw[Q9];exact QV _ hm)];have:dY 6 (rwD w)=true:=by unfold rwD dY;exact iG 5 w fun m hm=>h m (by rw[Q9];exact Q2 _ hm)
  rw[this];rfl
theorem zl:∀ws:List (List Int),dU (ws.map rwD)=ws.length+ws.flatten.length
 |[]=>by unfold dU;rfl
 |w::ws=>by
  rw[gp];unfold dU;rw[zl ws];unfold rwD fZ;rw[iH,Q9,Qv,QO]
  lia
def Sm(m:Int):Prop:=m.natAbs<10 ^ 100
theorem zm{c:Int}(h1:Sp Sm ws)(h2:SdO o)(c0:-1<=c)(c1:c<=61):dY 8 (cY c ws o)=true/\fZ (cY c ws o)<=900:=by
 obtain⟨l1,l2,l3⟩:=h1;have lt:∀i:Int,-1<=i->i<=61->i.natAbs<10 ^ 100:=fun i z1 z2=>QM (show i.natAbs<100 by lia) (by decide);have a1:dY 7 (.int c)=true:=decide_eq_true (lt c c0 c1);have a2:dY 7 (cz ws)=true:=by rw[zj];unfold dY;exact zk ws l3
 have w2:fZ (cz ws)<=300:=by
  rw[zj];unfold fZ;rw[zl]
  lia
 have a3:dY 7 (bJ o)=true/\fZ (bJ o)<=20:=by
  cases o with
  |none=>exact⟨rfl,by decide⟩
  |some S=>
   obtain⟨s1,s2⟩:=h2 S rfl;unfold bJ tupI;constructor
   ·unfold dY;exact iG 6 S fun i hi=>by have:=s2 i hi;exact lt i (by lia) (by lia)
   ·unfold fZ;rw[iH]
    lia
 unfold cY;constructor
 ·unfold dY bR;rw[a1];unfold bR;rw[a2];unfold bR;rw[a3.1];unfold bR;rfl
 ·unfold fZ dU;unfold dU;unfold dU;unfold dU;have:fZ (.int c)=1:=by unfold fZ;rfl
  have:=a3.2
  lia
theorem kL(r:List Tie):eqD (aE r) (aE r)=true:=by
 unfold aE;rw[eqD]
 induction r with
 |nil=>rfl
 |cons b bs ih=>rw[gp,j5,ih];simp[bI,eqD,j5]
theorem Vn{o p:Option Dat}{Q:RV->Prop}(hk:okD 8 d=true)(he:eqD d d=true)(k:Q (.val (.bl false)))(ho:o=some d)(hp:p=some d):Wg2 gNe o p Q:=
 ⟨_,_,_,ho,hp,by unfold gNe;rw[hk,he];rfl,k⟩
theorem AH(n a t:Int)(hn:2<=n)(a0:0<=a)(a1:a<n)(t0:0<=t)(t1:t<n-1):0<=(a+1+t) % n/\(a+1+t) % n<n/\(a+1+t) % n≠a:=by
 have h:=di (a+1+t) n (by lia);refine⟨h.1,h.2,?_⟩;by_cases q:a+1+t<n
 ·rw[Int.emod_eq_of_lt (by lia) q];lia
 ·have e:(a+1+t) % n=(a+1+t-n) % n:=by rw[Int.sub_emod_right]
  rw[e,Int.emod_eq_of_lt (by lia) (by lia)];lia
theorem Lj:∀(ns:List Int) (i:Int),0<=i->i<ns.length->at' ns i∈ns:=fun ns i h0 h1=>by unfold at';rw[Rf,Qz (show i.toNat<ns.length by lia)];exact RC _
theorem nS(h:Sp P ws):Few ws:=⟨by have:=h.1;lia,fun w hw=>by have:=sq hw;have:=h.2.1;lia,by have:=h.2.1;lia⟩
theorem DL(h:SdO o):∀S,o=some S->S.length<=17:=fun S e=>(h S e).1
def C5(r:List Tie)(c:Cell):Prop:=c=.ow (aE r)\/c=.sh (aE r)
theorem Ll(r:List Tie)(n a b most t T:Dat){c0 c1 c2 c3 c4 c5 c6 c7 c8 c9 c10 c11 c13 c14 c15 c16 c17 c18:Cell}:∃c12,C5 r c12/\tS 5 [c0,c1,c2,c3,c4,c5,c6,c7,c8,c9,c10,c11,.ow (aE r),c13,c14,c15,c16,c17,c18] [.val n,.slot 12,.val a,.val b,.val most,.val t,.val T]=some ([n,aE r,a,b,most,t,T],[c0,c1,c2,c3,c4,c5,c6,c7,c8,c9,c10,c11,c12,c13,c14,c15,c16,c17,c18]):=by
 cases r with
 |nil=>exact⟨_,.inr rfl,rfl⟩
 |cons t r=>exact⟨_,.inl rfl,rfl⟩
theorem N4{ns:List Int}{at_:Int}{n:Nat}(n10:n<=10){many:Int}(hr:Good n 0 r)(hl:r.length<=60)(hm:∀t∈r,Sm t.m)(a0:0<=a)(a1:a<n)(b0:0<=b)(b1:b<n)(ab:a≠b){most t:Int}(lw:ws.length<=60)(l1:∀w∈ws,1<=w.length)(hf:ws.flatten.length<=60)(hP:∀m∈ws.flatten,Sm m)
  {o:Option (List Int)} (ho:∀S,o=some S->S.length<=10/\∀i∈S,0<=i/\i<n) (x:Int) (c5:Cell) (h5:C5 r c5) (c11 c12 c13 c14 c15 c16 c17 c18:Cell)
  {N:Env->Prop} {R:RV->Env->Prop} {B C:Env->Prop} (nx:∀x c5 c12 c14 c15 c16 c17,C5 r c5->N [.sh (.lst (ns.map Dat.int)),.sh (.int at_),.ow (az x),.sh (.int n),.sh (.int many),c5,.sh (.int a),.sh (.int b),.sh (.int most),.sh (.int t),.sh (cY (ws.length:Nat) ws o),c11,c12,c13,c14,c15,c16,c17,c18]) :
  Ws wY [.sh (.lst (ns.map Dat.int)),.sh (.int at_),.ow (az x),.sh (.int n),.sh (.int many),c5,.sh (.int a),.sh (.int b),.sh (.int most),.sh (.int t),.sh (cY (ws.length:Nat) ws o),c11,c12,c13,c14,c15,c16,c17,c18] N R B C:=by
 obtain⟨x1,c',ws',o',es,hs,so,d0,d1⟩:=AG n10 hl hm (show Sm 5 by unfold Sm;decide) lw l1 hf hP ho (ws.length:Nat) (by lia) (by lia) x a;have sh:=zm hs so d0 d1;have hd:Good n 0 (gF r t):=hr.since;have ld:(gF r t).length<=60:=QT (l6 r t) hl;have ej:=fO (by lia:(n:Int)<=10) hr hl a0 a1 b0 b1 ab most t c' ws' (nS hs) o' (DL so);have ed:=qz (by lia:(n:Int)<=10) hd ld a b most c' ws' (nS hs) o' (DL so)
 generalize uS n (gF r t) a b most c' ws' o'=vb at ej ed
 unfold wY
 suffices hh:∀ c5,C5 r c5→Ws (aq (sA 15 (eB lP [(eV 14)]))
  (aq (sA 12 (eB c_ [(eV 5)]))
  (aq (sA 16 (eFk 5 nE [(eV 3),(eV 12),(eV 6),(eV 7),(eV 8),(eV 9),(eV 14)]))
  (aq (sA 17 (eF qv [(eV 3),(eF uF [(eV 5),(eV 9)]),(eV 6),(eV 7),(eV 8),(eV 14)]))
  (aq (sIf (tOr (eZ (tV (e1 (j6 isB) (eV 16)))) (tV (e2 gNe (eV 16) (eV 17)))) (sR (eC (.bl false))) sNx)
  (sIf (tOr (tV (e2 gNe (eB lP [(eV 14)]) (eV 15))) (tV (e2 gNe (eV 12) (eV 5)))) (sR (eC (.bl false))) sNx)))))) [.sh (.lst (ns.map Dat.int)),.sh (.int at_),.ow (az x1),.sh (.int n),.sh (.int many),c5,.sh (.int a),.sh (.int b),.sh (.int most),.sh (.int t),.sh (cY (ws.length:Nat) ws o),c11,c12,c13,.sh (cY c' ws' o'),c15,c16,c17,c18] N R B C by
  rcases h5 with rfl | rfl
  ·refine Ut (Uy (Vf ?_ rfl) (by decide));refine m_ (Q_ rfl (m_ (UD rfl (m_ (Q_ rfl (m_ (Q_ rfl (R_ ?_))))))));refine⟨_,_,_,_,_,_,rfl,rfl,rfl,es,?_⟩;split
   ·exact Uw (hh _ (.inl rfl)) (by trivial)
   ·exact Uw (hh _ (.inr rfl)) (by trivial)
  ·refine Ut (Uy (Vf ?_ rfl) (by decide));refine m_ (Q_ rfl (m_ (Q_ rfl (m_ (Q_ rfl (m_ (Q_ rfl (R_ ?_))))))));refine Vc es ?_ rfl rfl rfl;exact Uw (hh _ (.inr rfl)) (by trivial)
 intro c5 h5;refine Ut (Uy ?_ (by decide));refine UC (m_ (Q_ rfl (R_ (VD sh.1 sh.2 (Uw ?_ (by trivial)) rfl))));have P9:∀{ρ:Env} {Q:Val->Env->Prop},ρ[5]?=some c5->Q (.new (aE r)) ρ->We (eB c_ [(eV 5)]) ρ Q:=fun {ρ Q} h q=>by
  rcases h5 with rfl | rfl
  ·exact UC (m_ (UD h (R_ (U1 (xs:=r.map bI) q (by simp[pks,pk,h];rfl)))))
  ·exact UC (m_ (Q_ h (R_ (U1 (xs:=r.map bI) q rfl))))
 refine Ut (Uy (P9 rfl (UO ?_ (by trivial))) (by decide));refine Ut (Uy (V6 ?_) (by decide));refine m_ (Q_ rfl (m_ (UD rfl (m_ (Q_ rfl (m_ (Q_ rfl (m_ (Q_ rfl (m_ (Q_ rfl (m_ (Q_ rfl (R_ ?_))))))))))))));obtain⟨c12,h12,etk⟩:=Ll r (.int n) (.int a) (.int b) (.int most) (.int t) (cY c' ws' o');refine⟨_,_,_,etk,ej,rfl,Uw ?_ (by trivial)⟩;refine UZ (fun ρ=>ρ=[.sh (.lst (ns.map Dat.int)),.sh (.int at_),.ow (az x1),.sh (.int n),.sh (.int many),.sh (aE r),.sh (.int a),.sh (.int b),.sh (.int most),.sh (.int t),.sh (cY (ws.length:Nat) ws o),c11,c12,c13,.sh (cY c' ws' o'),.sh (.str (shw (.tup [.int c',cz ws',bJ o']))),.sh (.bl vb),.sh (.bl vb),c18]) ?_ ?_
 ·refine Uy (UK (m_ (Q_ rfl ?_))) (by decide);rcases h5 with rfl | rfl
  ·refine m_ (UK (m_ (UD rfl (m_ (Q_ rfl (R_ (US (dj r (by lia) t) ?_ rfl rfl rfl rfl)))))));refine m_ (Q_ rfl (m_ (Q_ rfl (m_ (Q_ rfl (m_ (Q_ rfl (R_ (UM ed (Uw rfl (by trivial)) rfl rfl)))))))))
  ·refine m_ (UK (m_ (Q_ rfl (m_ (Q_ rfl (R_ (US (dj r (by lia) t) ?_ rfl rfl rfl rfl)))))));refine m_ (Q_ rfl (m_ (Q_ rfl (m_ (Q_ rfl (m_ (Q_ rfl (R_ (UM ed (Uw rfl (by trivial)) rfl rfl)))))))))
 ·rintro ρ rfl;refine Ut (UG (UT (U4 (Ux (U6 (Q_ rfl (UX (v:=.val (.bl true)) (Uu (UA ?_)) rfl rfl)))))));refine Ux (S_ (Q_ rfl (Q_ rfl (Vq (Uu ?_) rfl rfl))));rw[show (!vb == vb)=false by cases vb<;>rfl];refine UA (UB ?_);refine UG (UT (Ux (S_ (UC (m_ (Q_ rfl (R_ (VD sh.1 sh.2 ?_ rfl))))))));refine Q_ rfl (VR sh.1 (Uu (UA ?_)) rfl rfl);rcases h12 with rfl | rfl
  ·exact Ux (S_ (UD rfl (Q_ rfl (Vn (iF r) (kL r) (Uu (UA (UB (nx _ _ _ _ _ _ _ (.inr rfl))))) rfl rfl))))
  ·exact Ux (S_ (Q_ rfl (Q_ rfl (Vn (iF r) (kL r) (Uu (UA (UB (nx _ _ _ _ _ _ _ (.inr rfl))))) rfl rfl))))
theorem G4(ab:a≠b)(h:Way (gC r) a w b):1<=(mso w).length:=by
 cases w with
 |nil=>exact absurd h ab
 |cons s w=>show 1<=(mso w).length+1;lia
theorem qD:∀{ws:List (List Int)},(∀w∈ws,1<=w.length)->ws.length<=ws.flatten.length
 |[],_=>by simp
 |w::ws,h=>by
  have h1:=h w gV;have h2:=qD fun u hu=>h u (Pa _ hu);rw[Q9,Qv,QO]
  lia
theorem G5(ns:List Int)(at_:Int)(h0:0<=at_)(h1:at_<100)(c2 c3 c4 c5 c6 c7 c8 c9 c10 c11 c12 c13 c14 c15 c16 c17 c18:Cell){N:Env->Prop}{R:RV->Env->Prop}{B C:Env->Prop}
  (nx:∀c2 c3 c4 c5 c6 c7 c8 c9 c10 c11 c12 c13 c14 c15 c16 c17 c18,N [.sh (.lst (ns.map Dat.int)),.sh (.int at_),c2,c3,c4,c5,c6,c7,c8,c9,c10,c11,c12,c13,c14,c15,c16,c17,c18]) :
  Ws wZ [.sh (.lst (ns.map Dat.int)),.sh (.int at_),c2,c3,c4,c5,c6,c7,c8,c9,c10,c11,c12,c13,c14,c15,c16,c17,c18] N R B C:=by
 obtain⟨x,ex⟩:=l5 ns at_ h0 (by lia);obtain⟨n0,x1,en,n1,n10⟩:=GS x;obtain⟨n,hn⟩:∃n:Nat,(if n0>2 then n0 else 2)=(n:Int):=⟨(if n0>2 then n0 else 2).toNat,by split<;>lia⟩
 have hn2:2<=n/\n<=10:=by split at hn<;>lia
 unfold wZ;refine Ut (Uy (UK (m_ (Q_ rfl (m_ (Q_ rfl (R_ (US ex ?_ rfl rfl rfl rfl))))))) (by decide));refine UO ?_ (by trivial);refine Ut (Uy (UC (m_ (T_ (m_ (Vf (R_ (Vc en ?_ rfl rfl rfl)) rfl))))) (by decide));refine R_ (Vo ?_ rfl);rw[hn];refine Uw ?_ (by trivial);refine Ut (Uy (T_ (Uw ?_ (by trivial))) (by decide));refine UZ (fun ρ=>∃(x:Int) (n:Nat) (many:Int),2<=n/\n<=10/\0<=many/\many<=30/\ρ=[.sh (.lst (ns.map Dat.int)),.sh (.int at_),.ow (az x),.sh (.int n),.sh (.int many),c5,c6,c7,c8,c9,c10,c11,c12,c13,c14,c15,c16,c17,c18]) ?_ ?_
 ·refine UG (Ux (S_ ?_));refine UJ (m:=3) rfl (by decide) (by decide) rfl fun u x2 u0 u1 ρ3 e=>?_;subst e;refine T_ (UL (Uu ?_) rfl rfl);refine UQ (fun hu=>?_) fun hu=>?_
  ·refine Ut (Uy (S_ (T_ ?_)) (by decide));refine UJ (m:=2) rfl (by decide) (by decide) rfl fun v x3 v0 v1 ρ3 e=>?_;subst e;refine UR ?_ rfl rfl;obtain⟨m,hm⟩:∃m:Nat,2+v=(m:Int):=⟨(2+v).toNat,by lia⟩
   rw[hm];refine Uw ?_ (by trivial);exact Uy (T_ (Uw ⟨x3,m,30,by lia,by lia,by lia,by lia,rfl⟩ (by trivial))) (by decide)
  ·exact UB ⟨x2,n,12,hn2.1,hn2.2,by lia,by lia,rfl⟩
 clear hn hn2 en n1 n10 ex;rintro ρ ⟨x,n,many,n2,n10,k0,k1,rfl⟩;obtain⟨y,ey⟩:=l5 ns (at_+1) (by lia) (by lia);obtain⟨z,ez⟩:=l5 ns (at_+2) (by lia) (by lia);obtain⟨z3,ez3⟩:=l5 ns (at_+3) (by lia) (by lia);obtain⟨r,y',er,hg,hl,hz⟩:=AA y n many (by lia) (by lia) k0 (by lia);refine Ut (Uy (WI (m_ (UK (m_ (Q_ rfl (m_ (S_ (Q_ rfl (T_ (UR ?_ rfl rfl)))))))))) (by decide));refine R_ (US ey ?_ rfl rfl rfl rfl);refine m_ (Q_ rfl (m_ (Q_ rfl (R_ ⟨_,_,_,_,_,rfl,rfl,er,?_⟩))));refine UO ?_ (by trivial);refine Ut (Uy (UK (m_ (Q_ rfl (m_ (S_ (Q_ rfl (T_ (UR ?_ rfl rfl)))))))) (by decide));refine R_ (US ez ?_ rfl rfl rfl rfl);refine UO ?_ (by trivial);refine Ut (Uy ?_ (by decide));refine UJ (m:=n) rfl (by lia) (by unfold dI;lia) rfl fun a x3 a0 a1 ρ3 e=>?_;subst e;refine Uw ?_ (by trivial);refine Ut (Uy (S_ (S_ (S_ (Q_ rfl (T_ (UR ?_ rfl rfl)))))) (by decide));refine UJ (m:=(n:Int)-1) rfl (by lia) (by unfold dI;lia) rfl fun t x4 t0 t1 ρ3 e=>?_;subst e;refine UR ?_ rfl rfl;refine Q_ rfl (U8 ?_ rfl rfl (by lia));obtain⟨b0,b1,NX⟩:=AH n a t (by lia) a0 a1 t0 t1
 generalize (a+1+t) % (n:Int)=b at b0 b1 NX
 refine Uw ?_ (by trivial);refine Ut (Uy (S_ (U0 ?_)) (by decide));refine m_ (T_ (m_ (T_ (m_ (T_ (m_ (T_ (m_ (T_ (m_ (T_ (R_ (UI ?_ rfl rfl (by exact QC rfl))))))))))))));refine UJ (m:=6) rfl (by decide) (by decide) rfl fun v x6 v0 v1 ρ3 e=>?_;subst e;refine Dr (ns:=[1,2,3,4,7,60]) v0 v1 ?_ rfl rfl;have hm:=Lj [1,2,3,4,7,60] v v0 v1;have hm2:1<=at' [1,2,3,4,7,60] v/\at' [1,2,3,4,7,60] v<=60:=by
  generalize at' [1,2,3,4,7,60] v=q at hm
  simp at hm
  lia
 generalize at' [1,2,3,4,7,60] v=most at hm2
 refine Uw ?_ (by trivial);obtain⟨mo,x7,emo,mo0⟩:=AB x6 r (fun t ht=>hg.lo t ht) (by lia);refine Ut (Uy (Vf (m_ (UD rfl (R_ (Wn emo ?_ rfl rfl rfl rfl rfl)))) rfl) (by decide));refine Uw ?_ (by trivial);have lr:r.length<=60:=by lia
 have hsm:∀t∈r,Sm t.m:=fun t ht=>by have z1:=hz t ht;have z2:=hg.lo t ht;exact Tt (show t.m.natAbs<=1000000000000000000000000000000 by unfold Z30 at z1;lia) (by decide)
 obtain⟨wS,o,eh,A⟩:=xm n (by lia) r hg (by lia) a b a0 a1 b0 b1 (Ne.symm NX) most (by lia) (by lia) mo;have hgs:Good n 0 (gF r mo):=hg.since;have ls:(gF r mo).length<=60:=QT (l6 r mo) lr;have hd:=DK hgs A;rw[DJ]at eh;have fl:=A.ways.P8;have l1:∀w∈wS.map mso,1<=w.length:=fun w hw=>by obtain⟨u,hu,rfl⟩:=QF.mp hw;exact G4 (Ne.symm NX) (A.ways.way u hu).way
 have lw:(wS.map mso).length<=(wS.map mso).flatten.length:=qD l1;have hP:∀m∈(wS.map mso).flatten,Sm m:=fun m hm=>by obtain⟨l,hl',hm⟩:=R0.mp hm;obtain⟨w,hw,rfl⟩:=QF.mp hl';obtain⟨s,hs,rfl⟩:=QF.mp hm;have:=rZ (fun p s z=>z) (A.ways.way w hw).way s hs;obtain⟨t,ht,e⟩:=QF.mp this;rw[<- e];exact hsm t (Q8.mp ht).1
 have ho:∀S,o=some S->S.length<=10/\∀i∈S,0<=i/\i<n:=fun S e=>⟨(A.side S e).1.few n10,(A.side S e).1.2.1⟩;have lS:(wS.map mso).length=wS.length:=gc ..;rw[<- lS]at eh hd
 generalize wS.map mso=ws at eh hd fl l1 lw hP lS
 have eh:uC [.int n,aE r,.int a,.int b,.int most,.int mo]=some (.val (cY (ws.length:Nat) ws o)):=eh;have sp:Sp Sm ws:=⟨by lia,by lia,hP⟩
 have so:SdO o:=fun S e=>⟨by have:=(ho S e).1;lia,fun i hi=>by have:=(ho S e).2 i hi;lia⟩;have sh:=zm (c:=(ws.length:Nat)) sp so (by lia) (by lia);have ej:=fO (by lia:(n:Int)<=10) hg lr a0 a1 b0 b1 (Ne.symm NX) most mo (ws.length:Nat) ws (nS sp) o (DL so);rw[hd]at ej;have ej2:=fO (by lia:(n:Int)<=10) hg lr b0 b1 a0 a1 NX most mo (ws.length:Nat) ws (nS sp) o (DL so);have ed2:=qz (by lia:(n:Int)<=10) hgs ls b a most (ws.length:Nat) ws (nS sp) o (DL so)
 generalize uS n (gF r mo) b a most (ws.length:Nat) ws o=vb at ej2 ed2
 refine Ut (Uy (UK ?_) (by decide));refine m_ (Q_ rfl (m_ (UC (m_ (UD rfl (R_ (U1 (xs:=r.map bI) ?_ rfl)))))));refine m_ (Q_ rfl (m_ (Q_ rfl (m_ (Q_ rfl (m_ (Q_ rfl (R_ (US eh (Uw ?_ (by trivial)) rfl rfl rfl rfl)))))))));refine Ut (Uy ?_ (by decide));refine UC (m_ (Q_ rfl (R_ (VD sh.1 sh.2 (Uw ?_ (by trivial)) rfl))));refine Ut (Uy ?_ (by decide));refine UC (m_ (UD rfl (R_ (U1 (xs:=r.map bI) (UO ?_ (by trivial)) rfl))));obtain⟨P_,h12,etk⟩:=Ll r (.int n) (.int a) (.int b) (.int most) (.int mo) (cY (ws.length:Nat) ws o);refine UZ (fun ρ=>∃c12,ρ=[.sh (.lst (ns.map Dat.int)),.sh (.int at_),.ow (az x7),.sh (.int n),.sh (.int many),.ow (aE r),.sh (.int a),.sh (.int b),.sh (.int most),.sh (.int mo),.sh (cY (ws.length:Nat) ws o),.sh (.str (shw (.tup [.int (ws.length:Nat),cz ws,bJ o]))),c12,c13,c14,c15,c16,c17,c18]) ?_ ?_
 ·refine UG (UT (Ux (S_ (V6 ?_))));refine m_ (Q_ rfl (m_ (UD rfl (m_ (Q_ rfl (m_ (Q_ rfl (m_ (Q_ rfl (m_ (Q_ rfl (m_ (Q_ rfl (R_ ?_))))))))))))));refine⟨_,_,_,etk,ej,rfl,T_ (V_ (i:=true) (j:=true) (Uu (UA ?_)) rfl rfl)⟩;refine UT (Ux (S_ (UC (m_ (Q_ rfl (R_ (VD sh.1 sh.2 ?_ rfl)))))));refine Q_ rfl (VR sh.1 (Uu (UA ?_)) rfl rfl);rcases h12 with rfl | rfl
  ·refine Ux (S_ (UD rfl (UD rfl (Vn (iF r) (kL r) ?_ rfl rfl))));exact Uu (UA (UB ⟨_,rfl⟩))
  ·refine Ux (S_ (Q_ rfl (UD rfl (Vn (iF r) (kL r) ?_ rfl rfl))));exact Uu (UA (UB ⟨_,rfl⟩))
 rintro ρ ⟨c12,rfl⟩;refine Ut (Uy (UK (m_ (Q_ rfl (m_ (S_ (Q_ rfl (T_ (UR ?_ rfl rfl)))))))) (by decide));refine R_ (US ez3 ?_ rfl rfl rfl rfl);refine UO ?_ (by trivial);refine Ut (U3 (Vw (T_ (cC.mk ⟨?_,by decide,by decide⟩))));refine UU (fun i:Nat=>Dat.int (0+(i:Nat))) _ _ (QG 6) _ _ _ _ _ (fun p q ρ=>∃(x:Int) (c5 c12 c13 c14 c15 c16 c17:Cell),C5 r c5/\ρ=[.sh (.lst (ns.map Dat.int)),.sh (.int at_),.ow (az x),.sh (.int n),.sh (.int many),c5,.sh (.int a),.sh (.int b),.sh (.int most),.sh (.int mo),.sh (cY (ws.length:Nat) ws o),.sh (.str (shw (.tup [.int (ws.length:Nat),cz ws,bJ o]))),c12,c13,c14,c15,c16,c17,c18]) ⟨_,_,_,_,_,_,_,_,.inl rfl,rfl⟩ ?_ ?_
 ·rintro p i q ρ e ⟨x,c5,c12,c13,c14,c15,c16,c17,h5,rfl⟩;refine Dm.bG rfl (by trivial) ?_;exact N4 n10 hg lr hsm a0 a1 b0 b1 (Ne.symm NX) (by lia) l1 (by lia) hP ho x c5 h5 _ _ _ _ _ _ _ _ fun x c5 c12 c14 c15 c16 c17 h5=>⟨x,c5,c12,_,c14,c15,c16,c17,h5,rfl⟩
 ·rintro ρ ⟨x,c5,c12,c13,c14,c15,c16,c17,h5,rfl⟩;refine UZ (fun ρ=>ρ=[.sh (.lst (ns.map Dat.int)),.sh (.int at_),.ow (az x),.sh (.int n),.sh (.int many),.sh (aE r),.sh (.int a),.sh (.int b),.sh (.int most),.sh (.int mo),.sh (cY (ws.length:Nat) ws o),.sh (.str (shw (.tup [.int (ws.length:Nat),cz ws,bJ o]))),c12,c13,c14,c15,c16,c17,.sh (.bl vb)]) ?_ ?_
  ·refine Uy (UK (m_ (Q_ rfl ?_))) (by decide);rcases h5 with rfl | rfl
   ·refine m_ (UK (m_ (UD rfl (m_ (Q_ rfl (R_ (US (dj r (by lia) mo) ?_ rfl rfl rfl rfl)))))));refine m_ (Q_ rfl (m_ (Q_ rfl (m_ (Q_ rfl (m_ (Q_ rfl (R_ (UM ed2 (Uw rfl (by trivial)) rfl rfl)))))))))
   ·refine m_ (UK (m_ (Q_ rfl (m_ (Q_ rfl (R_ (US (dj r (by lia) mo) ?_ rfl rfl rfl rfl)))))));refine m_ (Q_ rfl (m_ (Q_ rfl (m_ (Q_ rfl (m_ (Q_ rfl (R_ (UM ed2 (Uw rfl (by trivial)) rfl rfl)))))))))
  ·rintro ρ rfl;refine Ut (Uy ?_ (by decide));refine UC (m_ (Q_ rfl (R_ (U1 (xs:=r.map bI) (UO ?_ (by trivial)) rfl))));obtain⟨P_,h12,etk⟩:=Ll r (.int n) (.int b) (.int a) (.int most) (.int mo) (cY (ws.length:Nat) ws o);refine UG (UT (Ux (S_ (V6 ?_))));refine m_ (Q_ rfl (m_ (UD rfl (m_ (Q_ rfl (m_ (Q_ rfl (m_ (Q_ rfl (m_ (Q_ rfl (m_ (Q_ rfl (R_ ?_))))))))))))));refine⟨_,_,_,etk,ej2,rfl,Q_ rfl (Vq (Uu ?_) rfl rfl)⟩;rw[show (!vb == vb)=false by cases vb<;>rfl];refine UA (UT (Ux (S_ (UC (m_ (Q_ rfl (R_ (VD sh.1 sh.2 ?_ rfl))))))));refine Q_ rfl (VR sh.1 (Uu (UA ?_)) rfl rfl);rcases h12 with rfl | rfl
   ·refine Ux (S_ (UD rfl (Q_ rfl (Vn (iF r) (kL r) ?_ rfl rfl))));exact Uu (UA (UB (nx ..)))
   ·refine Ux (S_ (Q_ rfl (Q_ rfl (Vn (iF r) (kL r) ?_ rfl rfl))));exact Uu (UA (UB (nx ..)))
theorem math(ns:List Int)(h:ns.length<=63):nG [.lst (ns.map Dat.int)]=some (.val (.bl true)):=by
 apply UP;unfold nG
 (refine Dm.UN ?_ rfl rfl;and_intros)
 obtain⟨top,et,t0,t1⟩:∃top:Int,top=(if (if (12:Int)<((ns.length:Nat):Int) then 12 else ((ns.length:Nat):Int))>1 then (if (12:Int)<((ns.length:Nat):Int) then 12 else ((ns.length:Nat):Int)) else 1)/\1<=top/\top<=12:=⟨_,rfl,by split<;>lia,by split<;>split<;>lia⟩
 refine Ut (U3 (WX (i:=0) (j:=top) (k:=4) rfl ?_ rfl ⟨by decide,by unfold BIG;lia,by unfold BIG;lia,by decide,by decide⟩ ?_))
 ·rw[et];exact WG (UC (m_ (T_ (m_ (UC (m_ (UC (m_ (Q_ rfl (R_ (U7 (kM:=Dat.int) (xs:=ns) (m_ (T_ (R_ (Vz (R_ (Vo ⟨rfl,rfl⟩ rfl)) rfl)))) rfl)))))))))))
 unfold ir;refine UU (fun i:Nat=>Dat.int (0+(i:Nat)*4)) _ _ (QG (cH 0 top 4)) _ _ _ _ _ (fun p q ρ=>∃c1 c2 c3 c4 c5 c6 c7 c8 c9 c10 c11 c12 c13 c14 c15 c16 c17 c18:Cell,ρ=[.sh (.lst (ns.map Dat.int)),c1,c2,c3,c4,c5,c6,c7,c8,c9,c10,c11,c12,c13,c14,c15,c16,c17,c18]) ⟨_,_,_,_,_,_,_,_,_,_,_,_,_,_,_,_,_,_,rfl⟩ ?_ ?_
 ·rintro p i q ρ e ⟨c1,c2,c3,c4,c5,c6,c7,c8,c9,c10,c11,c12,c13,c14,c15,c16,c17,c18,rfl⟩;have hi:i<cH 0 top 4:=Q3.mp (by rw[e];simp);unfold cH at hi;rw[if_pos (by lia)]at hi;refine Dm.bG rfl (by trivial) ?_;exact G5 ns _ (by lia) (by lia) _ _ _ _ _ _ _ _ _ _ _ _ _ _ _ _ _ fun c2 c3 c4 c5 c6 c7 c8 c9 c10 c11 c12 c13 c14 c15 c16 c17 c18=>⟨_,_,_,_,_,_,_,_,_,_,_,_,_,_,_,_,_,_,rfl⟩
 ·rintro ρ ⟨c1,c2,c3,c4,c5,c6,c7,c8,c9,c10,c11,c12,c13,c14,c15,c16,c17,c18,rfl⟩;exact Uz (T_ rfl)
end
end P
namespace Q
open PySem L2 Br Dm P
noncomputable def top(i:Nat):Stmt:=PySem.Challenge.pw_sinceply_k26_hangs_judged.main.body.getD i (.Pass ⟨0,0,0,0⟩)
structure Txt(mg:Str->Option Value)(K:Dk)(base:Heap)(xu xw xx xy xA xB xC xD xE xF nT nU nV nW nX nY nZ n5 jV n6 n8 n9 n_ oh oi oj ou oz oA oB oE oF oG oH oJ oK oM oN oO:Addr)(oQ oR oS oU oV oW oX oY oZ o4 iI iJ iK iM iN iO iP iQ o5 iR iU iV iW iX iY iZ i6 i7 i8 i9 i_ jb jc jd je jf jh ji kO:FuncData):Prop where
 uU:mg "all" = none
 xG:mg "bool" = none
 Lm:mg "dict" = none
 DM:mg "int" = none
 aZ:mg "isinstance" = none
 bY:mg "len" = none
 cZ:mg "list" = none
 zo:mg "max" = none
 DO:mg "min" = none
 eG:mg "range" = none
 zp:mg "set" = none
 o6:mg "sorted" = none
 uV:mg "str" = none
 DQ:mg "sum" = none
 gS:mg "tuple" = none
 Qa:mg "steps_of" = some (.ref xu)
 Qc:mg "free_steps" = some (.ref xw)
 Qd:mg "led_steps" = some (.ref xx)
 N5:mg "shortest_ways" = some (.ref xy)
 Qe:mg "lead_along" = some (.ref xA)
 Qf:mg "parted" = some (.ref xB)
 Qg:mg "ways_apart" = some (.ref xC)
 Qh:mg "is_whole" = some (.ref xD)
 Qi:mg "is_within" = some (.ref xE)
 Ln:mg "is_place" = some (.ref xF)
 N6:mg "is_rising" = some (.ref nT)
 Iv:mg "is_pair" = some (.ref nU)
 N7:mg "is_side" = some (.ref nV)
 N8:mg "look_at_pair" = some (.ref nW)
 N9:mg "rim" = some (.ref nX)
 N_:mg "way_right" = some (.ref nY)
 Oa:mg "ways_right" = some (.ref nZ)
 Iw:mg "since" = some (.ref n5)
 Ob:mg "hang_of" = some (.ref jV)
 Oc:mg "side_right" = some (.ref n6)
 DR:mg "hang_right" = some (.ref n8)
 zq:mg "_law_pool" = some (.ref n9)
 bC:mg "_law_take" = some (.ref n_)
 Od:mg "_law_many" = some (.ref oh)
 Oe:mg "_law_record" = some (.ref oi)
 Of:mg "_law_moment" = some (.ref oj)
 Iz:mg "_law_since" = some (.ref ou)
 Og:mg "_law_whole" = some (.ref oz)
 IA:mg "_law_wholes" = some (.ref oA)
 Oh:mg "_law_rim" = some (.ref oB)
 Oi:mg "_law_leads" = some (.ref oE)
 Oj:mg "_law_lead_all" = some (.ref oF)
 Ol:mg "_law_is_side" = some (.ref oG)
 IB:mg "_law_due" = some (.ref oH)
 Om:mg "_law_detour" = some (.ref oJ)
 Oo:mg "_law_ways_spoilt" = some (.ref oK)
 Oq:mg "_law_side_spoilt" = some (.ref oM)
 Ot:mg "_law_spoilt" = some (.ref oN)
 Qk:mg "law" = some (.ref oO)
 Ou:Fun K "steps_of" "steps_of" (top 2) xu oQ
 Ov:Fun K "free_steps" "free_steps" (top 3) xw oR
 Ow:Fun K "led_steps" "led_steps" (top 4) xx oS
 Lo:Fun K "shortest_ways" "shortest_ways" (top 5) xy oU
 Ox:Fun K "lead_along" "lead_along" (top 6) xA oV
 Lp:Binds K oS ["steps","heads"] []
 G6:Binds K oU ["steps","a"] []
 Oz:Fun K "parted" "parted" (top 7) xB oW
 Lq:Binds K oQ ["n","ties"] []
 Lr:Binds K oR ["steps","heads"] []
 Ls:Binds K oV ["heads","way"] []
 Lu:Binds K oW ["steps","heads","a","b","count"] []
 OA:Fun K "ways_apart" "ways_apart" (top 1) xC oX
 OB:Fun K "is_whole" "is_whole" (top 12) xD oY
 Lv:Binds K oY ["thing"] []
 OC:Fun K "is_within" "is_within" (top 13) xE oZ
 Lw:Binds K oZ ["thing","low","high"] []
 G7:Fun K "is_place" "is_place" (top 14) xF o4
 IC:Fun K "is_rising" "is_rising" (top 15) nT iI
 DU:Binds K o4 ["n","thing"] []
 DV:Fun K "is_pair" "is_pair" (top 16) nU iJ
 DX:Binds K iI ["things"] []
 ID:Fun K "is_side" "is_side" (top 17) nV iK
 zu:Binds K iJ ["n","a","b"] []
 IE:Fun K "look_at_pair" "look_at_pair" (top 18) nW iM
 IF:Fun K "rim" "rim" (top 20) nX iN
 IG:Fun K "way_right" "way_right" (top 21) nY iO
 DY:Binds K iO ["record","a","b","way"] []
 II:Fun K "ways_right" "ways_right" (top 22) nZ iP
 DZ:Fun K "since" "since" (top 24) n5 iQ
 Lx:Binds K oX ["n","ties","a","b","most"] []
 D0:Binds K iM ["n","a","b"] []
 zv:Binds K iQ ["record","t"] []
 zw:Gb K "hang_of" "hang_of" (top 26) jV o5
 D3:Binds K iK ["n","thing"] []
 D4:Binds K iN ["record","side"] []
 IJ:Fun K "side_right" "side_right" (top 28) n6 iR
 D5:Binds K iP ["record","a","b","ways"] []
 D6:Binds K iR ["n","ties","a","b","count","side"] []
 zx:Fun K "hang_right" "hang_right" (top 27) n8 iU
 uW:Fun K "_law_pool" "_law_pool" (top 30) n9 iV
 bA:Fun K "_law_take" "_law_take" (top 31) n_ iW
 bq:Binds K iW ["pool","many"] []
 IK:Fun K "_law_many" "_law_many" (top 32) oh iX
 IL:Fun K "_law_record" "_law_record" (top 33) oi iY
 IM:Fun K "_law_moment" "_law_moment" (top 34) oj iZ
 D7:Fun K "_law_since" "_law_since" (top 35) ou i6
 IP:Fun K "_law_whole" "_law_whole" (top 36) oz i7
 D8:Binds K i7 ["thing"] []
 D9:Fun K "_law_wholes" "_law_wholes" (top 37) oA i8
 IQ:Fun K "_law_rim" "_law_rim" (top 38) oB i9
 zy:Binds K i8 ["thing"] []
 IS:Fun K "_law_leads" "_law_leads" (top 39) oE i_
 D_:Binds K i_ ["ties","a","b","way"] []
 IT:Fun K "_law_lead_all" "_law_lead_all" (top 40) oF jb
 IU:Fun K "_law_is_side" "_law_is_side" (top 41) oG jc
 Ea:Binds K i9 ["ties","side"] []
 Eb:Binds K jb ["ties","a","b","ways"] []
 Ec:Binds K jc ["n","side","a","b"] []
 Ed:Fun K "_law_due" "_law_due" (top 42) oH jd
 IV:Fun K "_law_detour" "_law_detour" (top 43) oJ je
 Ef:Binds K je ["pool","record","way","a"] []
 IW:Fun K "_law_ways_spoilt" "_law_ways_spoilt" (top 44) oK jf
 IX:Fun K "_law_side_spoilt" "_law_side_spoilt" (top 45) oM jh
 Eg:Binds K jf ["pool","record","ways","a"] []
 Eh:Binds K jh ["pool","n","side"] []
 IY:Fun K "_law_spoilt" "_law_spoilt" (top 46) oN ji
 Ei:Binds K o5 ["n","record","a","b","most","t"] []
 uX:Binds K iU ["n","record","a","b","most","t","told"] []
 qE:Binds K iV ["script","k"] []
 Ej:Binds K iX ["pool"] []
 El:Binds K iY ["pool","n","most"] []
 Em:Binds K iZ ["pool","record"] []
 zz:Binds K i6 ["record","t"] []
 zA:Binds K jd ["n","ties","a","b","most","told"] []
 En:Binds K ji ["pool","n","record","told","a"] []
 OD:Fun K "law" "law" (top 47) oO kO
section
variable{P':Program}{w:World}{K:Dk}{mg:Str->Option Value}{base:Heap}{xu xw xx xy xA xB xC xD xE xF nT nU nV nW nX nY nZ n5 jV n6 n8 n9 n_ oh oi oj ou oz oA oB oE oF oG oH oJ oK oM oN oO:Addr}
variable{oQ oR oS oU oV oW oX oY oZ o4 iI iJ iK iM iN iO iP iQ o5 iR iU iV iW iX iY iZ i6 i7 i8 i9 i_ jb jc jd je jf jh ji kO:FuncData}
theorem uY:aB ["n","ties","steps","moment","a","b"] ["n","ties"] (ai (top 2)):=fsc rfl rfl rfl rfl (by decide +kernel)
theorem Ly:(["n","ties","steps","moment","a","b","place"]:List Str).Nodup:=by decide +kernel
theorem OE:aB ["steps","heads"] ["steps","heads"] (ai (top 3)):=fsc rfl rfl rfl rfl (by decide +kernel)
theorem Lz:(["steps","heads","row"]:List Str).Nodup:=by decide +kernel
theorem LA:(["steps","heads","row","step"]:List Str).Nodup:=by decide +kernel
theorem OG:aB ["steps","heads"] ["steps","heads"] (ai (top 4)):=fsc rfl rfl rfl rfl (by decide +kernel)
theorem LB:(["steps","heads","row"]:List Str).Nodup:=by decide +kernel
theorem LC:(["steps","heads","row","step"]:List Str).Nodup:=by decide +kernel
theorem uZ:aB ["steps","a","ways","pending","place","step"] ["steps","a"] (ai (top 5)):=fsc rfl rfl rfl rfl (by decide +kernel)
theorem Eo:aB ["heads","way","moment","place"] ["heads","way"] (ai (top 6)):=fsc rfl rfl rfl rfl (by decide +kernel)
theorem qF:aB ["steps","heads","a","b","count","left","ways","time","way","moment"] ["steps","heads","a","b","count"] (ai (top 7)):=fsc rfl rfl rfl rfl (by decide +kernel)
theorem LD:(["steps","heads","a","b","count","left","ways","time","way","moment","step"]:List Str).Nodup:=by decide +kernel
theorem lH:aB ["n","ties","a","b","most","steps","heads","side","count","found"] ["n","ties","a","b","most"] (ai (top 1)):=fsc rfl rfl rfl rfl (by decide +kernel)
theorem OH:aB ["thing"] ["thing"] (ai (top 12)):=fsc rfl rfl rfl rfl (by decide +kernel)
theorem OI:aB ["thing","low","high"] ["thing","low","high"] (ai (top 13)):=fsc rfl rfl rfl rfl (by decide +kernel)
theorem OJ:aB ["n","thing"] ["n","thing"] (ai (top 14)):=fsc rfl rfl rfl rfl (by decide +kernel)
theorem LF:aB ["things"] ["things"] (ai (top 15)):=fsc rfl rfl rfl rfl (by decide +kernel)
theorem G8:(["things","at"]:List Str).Nodup:=by decide +kernel
theorem LG:aB ["n","a","b"] ["n","a","b"] (ai (top 16)):=fsc rfl rfl rfl rfl (by decide +kernel)
theorem LH:aB ["n","thing"] ["n","thing"] (ai (top 17)):=fsc rfl rfl rfl rfl (by decide +kernel)
theorem G9:(["n","thing","place"]:List Str).Nodup:=by decide +kernel
theorem LI:aB ["n","a","b"] ["n","a","b"] (ai (top 18)):=fsc rfl rfl rfl rfl (by decide +kernel)
theorem LJ:aB ["record","side"] ["record","side"] (ai (top 20)):=fsc rfl rfl rfl rfl (by decide +kernel)
theorem sr:(["record","side","moment","a","b"]:List Str).Nodup:=by decide +kernel
theorem fP:aB ["record","a","b","way","ends","moment","first","second","place","used"] ["record","a","b","way"] (ai (top 21)):=fsc rfl rfl rfl rfl (by decide +kernel)
theorem xH:aB ["record","a","b","ways","used","way"] ["record","a","b","ways"] (ai (top 22)):=fsc rfl rfl rfl rfl (by decide +kernel)
theorem G_:(["record","a","b","ways","used","%5","way"]:List Str).Nodup:=by decide +kernel
theorem LK:aB ["record","t"] ["record","t"] (ai (top 24)):=fsc rfl rfl rfl rfl (by decide +kernel)
theorem Hg:(["record","t","tie"]:List Str).Nodup:=by decide +kernel
theorem Ep:aB ["n","record","a","b","most","t","found"] ["n","record","a","b","most","t"] (ai (top 26)):=fsc rfl rfl rfl rfl (by decide +kernel)
theorem LL:aB ["n","ties","a","b","count","side"] ["n","ties","a","b","count","side"] (ai (top 28)):=fsc rfl rfl rfl rfl (by decide +kernel)
theorem xJ:aB ["n","record","a","b","most","t","told","ties","count"] ["n","record","a","b","most","t","told"] (ai (top 27)):=fsc rfl rfl rfl rfl (by decide +kernel)
theorem fQ:aB ["script","k","cell","number","found","turn"] ["script","k"] (ai (top 30)):=fsc rfl rfl rfl rfl (by decide +kernel)
theorem Er:aB ["pool","many","digit"] ["pool","many"] (ai (top 31)):=fsc rfl rfl rfl rfl (by decide +kernel)
theorem LM:aB ["pool"] ["pool"] (ai (top 32)):=fsc rfl rfl rfl rfl (by decide +kernel)
theorem cA:aB ["pool","n","most","many","kind","step","times","way","moment","found","k","one","other"] ["pool","n","most"] (ai (top 33)):=fsc rfl rfl rfl rfl (by decide +kernel)
theorem Es:aB ["pool","record","at"] ["pool","record"] (ai (top 34)):=fsc rfl rfl rfl rfl (by decide +kernel)
theorem LN:aB ["record","t"] ["record","t"] (ai (top 35)):=fsc rfl rfl rfl rfl (by decide +kernel)
theorem Hh:(["record","t","tie"]:List Str).Nodup:=by decide +kernel
theorem LO:aB ["thing"] ["thing"] (ai (top 36)):=fsc rfl rfl rfl rfl (by decide +kernel)
theorem LP:aB ["thing"] ["thing"] (ai (top 37)):=fsc rfl rfl rfl rfl (by decide +kernel)
theorem Hi:(["thing","part"]:List Str).Nodup:=by decide +kernel
theorem LQ:aB ["ties","side"] ["ties","side"] (ai (top 38)):=fsc rfl rfl rfl rfl (by decide +kernel)
theorem Hj:(["ties","side","tie"]:List Str).Nodup:=by decide +kernel
theorem kQ:aB ["ties","a","b","way","ends","tie","here","moment"] ["ties","a","b","way"] (ai (top 39)):=fsc rfl rfl rfl rfl (by decide +kernel)
theorem xK:aB ["ties","a","b","ways","met","way"] ["ties","a","b","ways"] (ai (top 40)):=fsc rfl rfl rfl rfl (by decide +kernel)
theorem LR:aB ["n","side","a","b"] ["n","side","a","b"] (ai (top 41)):=fsc rfl rfl rfl rfl (by decide +kernel)
theorem Hl:(["n","side","a","b","place"]:List Str).Nodup:=by decide +kernel
theorem su:aB ["n","ties","a","b","most","told","count","ways","side"] ["n","ties","a","b","most","told"] (ai (top 42)):=fsc rfl rfl rfl rfl (by decide +kernel)
theorem gG:aB ["pool","record","way","a","at","here","moment","near","tie","back"] ["pool","record","way","a"] (ai (top 43)):=fsc rfl rfl rfl rfl (by decide +kernel)
theorem Ho:(["pool","record","way","a","at","here","moment","near","%8","back","tie"]:List Str).Nodup:=by decide +kernel
theorem Hq:(["pool","record","way","a","at","here","moment","near","%8","back","tie"]:List Str).Nodup:=by decide +kernel
theorem Hr:(["pool","record","way","a","at","here","moment","near","tie","back","one"]:List Str).Nodup:=by decide +kernel
theorem kR:aB ["pool","record","ways","a","made","turn","some","moment","at"] ["pool","record","ways","a"] (ai (top 44)):=fsc rfl rfl rfl rfl (by decide +kernel)
theorem Ht:(["pool","record","ways","a","made","turn","some","moment","at","way"]:List Str).Nodup:=by decide +kernel
theorem Hu:(["pool","record","ways","a","made","turn","some","moment","at","tie"]:List Str).Nodup:=by decide +kernel
theorem xM:aB ["pool","n","side","place","turn"] ["pool","n","side"] (ai (top 45)):=fsc rfl rfl rfl rfl (by decide +kernel)
theorem Hv:(["pool","n","side","place","turn","one"]:List Str).Nodup:=by decide +kernel
theorem Hw:(["pool","n","side","place","turn","one"]:List Str).Nodup:=by decide +kernel
theorem kT:aB ["pool","n","record","told","a","count","ways","side","turn","made"] ["pool","n","record","told","a"] (ai (top 46)):=fsc rfl rfl rfl rfl (by decide +kernel)
theorem Hx:(["pool","n","record","told","a","count","ways","side","turn","made","way"]:List Str).Nodup:=by decide +kernel
theorem Hy:(["pool","n","record","told","a","count","ways","side","turn","made","way"]:List Str).Nodup:=by decide +kernel
theorem aY:aB ["script","at","pool","n","many","record","a","b","most","t","told","first","handed","turn","made","kept","found","due","turned"] ["script"] (ai (top 47)):=fsc rfl rfl rfl rfl (by decide +kernel)
variable(T:Txt mg K base xu xw xx xy xA xB xC xD xE xF nT nU nV nW nX nY nZ n5 jV n6 n8 n9 n_ oh oi oj ou oz oA oB oE oF oG oH oJ oK oM oN oO oQ oR oS oU oV oW oX oY oZ o4 iI iJ iK iM iN iO iP iQ o5 iR iU iV iW iX iY iZ i6 i7 i8 i9 i_ jb jc jd je jf jh ji kO)
include T
theorem OL :
  aW P' w K mg base CX0 1 xu oQ ["n","ties"] (spD GF):=
 okQ T.Ou uY fun _ _ _ _ _ _ hr=>(Kr 2 ["n","ties","steps","moment","a","b"] ["place"] uY.nd (c_n 6 Ly rfl rfl) (zY rfl T.eG (aa (d_v 0) af)) (Ny Rb rfl (i_S (d_v 1)) (g_t rfl (bz 3 uY.nd (bz 4 uY.nd (bz 5 uY.nd j_))))
  (HZ (Px (fF hr (d_v 4) (d_v 5)) (Kq (H_ (d_v 4) (d7 (aa (d_v 3) (aa (d_v 5) af))))
  (HZ (H_ (d_v 5) (d7 (aa (d_v 3) (aa (d_v 4) af)))))) Nx)))
  (ao (s_r (d_v 2))))
theorem ON :
  aW P' w K mg base CX0 1 xw oR ["steps","heads"] (spD CZ):=
 okQ T.Ov OE fun _ _ _ _ _ _ hr=>(ao (s_r (cS 0 ["steps","heads"] ["row"] (c_n 2 Lz rfl rfl) (d_v 0) (fun _ _ _ _ _=>dO) (fun _ _ _ _ _=>(cS 2 ["steps","heads","row"] ["step"] (c_n 3 LA rfl rfl) (d_v 2) (fun _ _ _ _ _=>dP (fF hr (BX hr (d_v 1) (aS (d_v 3) d_i)) (aS (d_v 3) d_i))) (fun _ _ _ _ _=>(d_v 3)))))))
theorem OO :
  aW P' w K mg base CX0 1 xx oS ["steps","heads"] (spD C0):=
 okQ T.Ow OG fun _ _ _ _ _ _ hr=>(ao (s_r (cS 0 ["steps","heads"] ["row"] (c_n 2 LB rfl rfl) (d_v 0) (fun _ _ _ _ _=>dO) (fun _ _ _ _ _=>(cS 2 ["steps","heads","row"] ["step"] (c_n 3 LC rfl rfl) (d_v 2) (fun _ _ _ _ _=>dP (dJ hr (BX hr (d_v 1) (aS (d_v 3) d_i)) (aS (d_v 3) d_i))) (fun _ _ _ _ _=>(d_v 3)))))))
theorem IZ :
  aW P' w K mg base CX0 1 xy oU ["steps","a"] (spD ux):=
 okQ T.Lo uZ fun _ _ _ _ _ _ hr=>(ah (s_a 2 uZ.nd (Pr (d_v 1) (bP af)))
  (ah (s_a 3 uZ.nd (bP (aa (d_v 1) af)))
  (ah (Nc 100 Rb (Pw (d_v 3))
  (ah (s_a 4 uZ.nd (yu 3 d_i))
  (ao (dN Rb rfl (i_S (aS (d_v 0) (d_v 4))) (g_n 5 uZ.nd)
  (ao (bQ (wu hr (aS (d_v 5) d_i) (d_v 2)) (ah (mQ 2 hr (aS (d_v 5) d_i) (bf (rA hr (d_v 2) (d_v 4)) (bP (aa (d_v 5) af))))
  (ao (yl 3 (aS (d_v 5) d_i)))) aR))))))
  (ao (s_r (d_v 2))))))
theorem OP :
  aW P' w K mg base CX0 1 xA oV ["heads","way"] (spM C1):=by
 refine T.Ox.ok Eo (fun vs H Q E h=>cN h) (fun cdv A outer s H vs Q E hr h=>?_);exact ⟨_,(ao (dN Rb rfl (i_S (d_v 1)) (g_t rfl (bz 2 Eo.nd (bz 3 Eo.nd j_)))
  (ao (bQ (BW hr (d_v 2) (d_v 0)) (ao (s_e (Cc 0 (d_v 2)))) (ao (mQ 0 hr (d_v 2) (d_v 3))))))),jH (n:=2) (m:=2) rfl h⟩
theorem OQ :
  aW P' w K mg base CX0 2 xB oW ["steps","heads","a","b","count"] (spD Au):=
 okQ T.Oz qF fun _ _ _ _ _ _ hr=>(ah (s_a 5 qF.nd (Kw rfl T.Lm (aa (d_v 1) af)))
  (ah (s_a 6 qF.nd (bP af))
  (ah (dN Rb rfl (zY rfl T.eG (aa (d_v 4) af)) (g_n 7 qF.nd)
  (ah (Po 8 ["steps","heads","a","b","count","left","ways","time","way","moment"] ["step"] qF.nd (c_n 10 LD rfl rfl) (i_S (rA hr (aL (IZ T) (Br.hm hr) rfl T.N5 T.Lo.kp T.G6 (aa (m6 (OO T) (Br.hm hr) rfl T.Qd T.Ow.kp T.Lp (aa (d_v 0) (aa (d_v 5) af))) (aa (d_v 2) af))) (d_v 3))) (fun _ _ _ _ _=>dO) (fun _ _ _ _ _=>(aS (d_v 10) d_i)))
  (ah (dN Rb rfl (i_S (d_v 8)) (g_n 9 qF.nd)
  (ao (s_e (Cc 5 (d_v 9)))))
  (ao (yl 6 (d_v 8))))))
  (ao (s_r (d_v 6))))))
theorem OR :
  aW P' w K mg base CX0 3 xC oX ["n","ties","a","b","most"] (spD C2):=
 okQ T.OA lH fun _ _ _ _ _ _ hr=>(ah (s_a 5 lH.nd (aL (OL T) (Br.hm hr) rfl T.Qa T.Ou.kp T.Lq (aa (d_v 0) (aa (d_v 1) af))))
  (ah (s_a 6 lH.nd F5)
  (ah (s_a 7 lH.nd d_n)
  (ah (s_a 8 lH.nd d_i)
  (ah (Nc 100 Rb (t_w (w_and (Na (d_v 8) (d_v 4)) (BO (B5 (d_v 7) d_n))))
  (ah (s_a 9 lH.nd (aL (IZ T) (Br.hm hr) rfl T.N5 T.Lo.kp T.G6 (aa (m6 (ON T) (Br.hm hr) rfl T.Qc T.Ov.kp T.Lr (aa (d_v 5) (aa (d_v 6) af))) (aa (d_v 2) af))))
  (ao (bQ (BW hr (d_v 3) (d_v 9)) (ah (s_e (aF (OP T) (Br.hm hr) rfl T.Qe T.Ox.kp T.Ls (aa (d_v 6) (aa (rA hr (d_v 9) (d_v 3)) af))))
  (ao (s_a 8 lH.nd (bf (d_v 8) d_i)))) (ao (s_a 7 lH.nd (lV rfl T.gS (aa (Gg rfl rfl T.o6 (aa (d_v 9) af)) af))))))))
  (ao (s_r (d7 (aa (m6 (OQ T) (Br.hm hr) rfl T.Qf T.Oz.kp T.Lu (@aa _ _ _ _ _ (d_v 5) (@aa _ _ _ _ _ (d_v 6) (@aa _ _ _ _ _ (d_v 2) (@aa _ _ _ _ _ (d_v 3) (@aa _ _ _ _ _ (d_v 8) af rfl) rfl) rfl) rfl) rfl)) (aa (d_v 7) af))))))))))
theorem OS :
  aW P' w K mg base CX0 1 xD oY ["thing"] (spD GG):=
 okQ T.OB OH fun _ _ _ _ _ _ hr=>(ao (s_r (dM (jG ym (by rfl) rfl T.DM rfl T.aZ (d_v 0)) (jF (HS (jG mL (by rfl) rfl T.xG rfl T.aZ (d_v 0)))))))
theorem OT :
  aW P' w K mg base CX0 2 xE oZ ["thing","low","high"] (spD Av):=
 okQ T.OC OI fun _ _ _ _ _ _ hr=>(ao (s_r (dM (aL (OS T) (Br.hm hr) rfl T.Qh T.OB.kp T.Lv (aa (d_v 0) af)) (jF (yo A2 BG A2 BG (d_v 1) (d_v 0) (d_v 2))))))
theorem Et :
  aW P' w K mg base CX0 3 xF o4 ["n","thing"] (spD uy):=
 okQ T.G7 OJ fun _ _ _ _ _ _ hr=>(ao (s_r (aL (OT T) (Br.hm hr) rfl T.Qi T.OC.kp T.Lw (aa (d_v 1) (aa d_i (aa (jD (d_v 0) d_i) af))))))
theorem LS :
  aW P' w K mg base CX0 1 nT iI ["things"] (spD yT):=
 okQ T.IC LF fun _ _ _ _ _ _ hr=>(ao (s_r (tN rfl rfl T.uU (aa (Nj ["things"] ["at"] (c_n 1 G8 rfl rfl) (Pk rfl T.eG (aa d_i (aa (ck rfl T.bY (aa (d_v 0) af)) af))) (fun _ _ _ _ _=>dO) (fun _ _ _ _ _=>(M_ (aS (d_v 0) (jD (d_v 1) d_i)) (aS (d_v 0) (d_v 1))))) af))))
theorem Eu :
  aW P' w K mg base CX0 4 nU iJ ["n","a","b"] (spD uz):=
 okQ T.DV LG fun _ _ _ _ _ _ hr=>(ao (s_r (dM (aL (Et T) (Br.hm hr) rfl T.Ln T.G7.kp T.DU (aa (d_v 0) (aa (d_v 1) af))) (dM (aL (Et T) (Br.hm hr) rfl T.Ln T.G7.kp T.DU (aa (d_v 0) (aa (d_v 2) af))) (jF (Ph hr (d_v 1) (d_v 2)))))))
theorem LU :
  aW P' w K mg base CX0 4 nV iK ["n","thing"] (spD uA):=
 okQ T.ID LH fun _ _ _ _ _ _ hr=>(ao (s_r (dM (jG kit_tuple (by rfl) rfl T.gS rfl T.aZ (d_v 1)) (dM (tN rfl rfl T.uU (aa (cS 1 ["n","thing"] ["place"] (c_n 2 G9 rfl rfl) (d_v 1) (fun _ _ _ _ _=>dO) (fun _ _ _ _ _=>(aL (Et T) (Br.hm hr) rfl T.Ln T.G7.kp T.DU (aa (d_v 0) (aa (d_v 2) af))))) af)) (jF (aL (LS T) (Br.hm hr) rfl T.N6 T.IC.kp T.DX (aa (d_v 1) af)))))))
theorem LV :
  aW P' w K mg base CX0 5 nW iM ["n","a","b"] (spD yU):=
 okQ T.IE LI fun _ _ _ _ _ _ hr=>(ao (bQ (gj (gk (aL (Eu T) (Br.hm hr) rfl T.Iv T.DV.kp T.zu (aa (d_v 0) (aa (d_v 1) (aa (d_v 2) af)))))) (ao F1) aR))
theorem LW :
  aW P' w K mg base CX0 1 nX iN ["record","side"] (spD yV):=
 okQ T.IF LJ fun _ _ _ _ _ _ hr=>(ao (s_r (cS 0 ["record","side"] ["moment","a","b"] (c_t rfl (fun _ _ _ _ _=>(bz 2 sr (bz 3 sr (bz 4 sr j_))))) (d_v 0) (fun _ _ _ _ _=>dP (fF hr (sZ hr (d_v 3) (d_v 1)) (sZ hr (d_v 4) (d_v 1)))) (fun _ _ _ _ _=>(d_v 2)))))
theorem LX :
  aW P' w K mg base CX0 1 nY iO ["record","a","b","way"] (spD yW):=
 okQ T.IG fP fun _ _ _ _ _ _ hr=>(ah (s_a 4 fP.nd F5)
  (ah (dN Rb rfl (i_S (d_v 0)) (g_t rfl (bz 5 fP.nd (bz 6 fP.nd (bz 7 fP.nd j_))))
  (ao (bQ (fF hr (d_v 6) (d_v 7)) (ao (mQ 4 hr (d_v 5) (d7 (aa (d_v 6) (aa (d_v 7) af))))) aR)))
  (ah (s_a 8 fP.nd (d_v 1))
  (ah (s_a 9 fP.nd F5)
  (ah (dN Rb rfl (i_S (d_v 3)) (g_n 5 fP.nd)
  (ah (bQ (t_w (w_or (BW hr (d_v 5) (d_v 9)) (w_or (wu hr (d_v 5) (d_v 4)) (fT (BL hr (d_v 8) (rA hr (d_v 4) (d_v 5))))))) (ao (s_r d_b)) aR)
  (ah (mQ 9 hr (d_v 5) d_b)
  (ao (s_a 8 fP.nd (jD (BZ rfl rfl T.DQ (aa (rA hr (d_v 4) (d_v 5)) af)) (d_v 8)))))))
  (ao (s_r (tK hr (d_v 8) (d_v 2)))))))))
theorem LY :
  aW P' w K mg base CX0 2 nZ iP ["record","a","b","ways"] (spD yX):=
 okQ T.II xH fun _ _ _ _ _ _ hr=>(ah (s_a 4 xH.nd (bP af))
  (ah (dN Rb rfl (i_S (d_v 3)) (g_n 5 xH.nd)
  (ao (HY 4 (d_v 5))))
  (ao (s_r (dM (tK hr (mS rfl rfl T.bY rfl T.zp (d_v 4)) (ck rfl T.bY (aa (d_v 4) af))) (jF (tN rfl rfl T.uU (aa (cS 3 ["record","a","b","ways","used","%5"] ["way"] (c_n 6 G_ rfl rfl) (d_v 3) (fun _ _ _ _ _=>dO) (fun _ _ _ _ _=>(aL (LX T) (Br.hm hr) rfl T.N_ T.IG.kp T.DY (aa (d_v 0) (aa (d_v 1) (aa (d_v 2) (aa (d_v 6) af))))))) af))))))))
theorem Ew :
  aW P' w K mg base CX0 1 n5 iQ ["record","t"] (spD uB):=
 okQ T.DZ LK fun _ _ _ _ _ _ hr=>(ao (s_r (cS 0 ["record","t"] ["tie"] (c_n 2 Hg rfl rfl) (d_v 0) (fun _ _ _ _ _=>dP (J6 (aS (d_v 2) d_i) (d_v 1))) (fun _ _ _ _ _=>(d_v 2)))))
theorem LZ :
  aW P' w K mg base CX0 6 jV o5 ["n","record","a","b","most","t"] (spD uC):=by
 refine T.zw.ok Ep (fun vs H Q E h=>we h) (fun cdv A outer s H vs Q E hr h=>?_);exact ⟨_,(ah (s_e (aL (LV T) (Br.hm hr) rfl T.N8 T.IE.kp T.D0 (aa (d_v 0) (aa (d_v 2) (aa (d_v 3) af)))))
  (ah (s_a 6 Ep.nd (aL (OR T) (Br.hm hr) rfl T.Qg T.OA.kp T.Lx (@aa _ _ _ _ _ (d_v 0) (@aa _ _ _ _ _ (aL (Ew T) (Br.hm hr) rfl T.Iw T.DZ.kp T.zv (aa (d_v 1) (aa (d_v 5) af))) (@aa _ _ _ _ _ (d_v 2) (@aa _ _ _ _ _ (d_v 3) (@aa _ _ _ _ _ (d_v 4) af rfl) rfl) rfl) rfl) rfl)))
  (ao (s_r (d7 (aa (ck rfl T.bY (aa (aS (d_v 6) d_i) af)) (aa (aS (d_v 6) d_i) (aa (aS (d_v 6) d_i) af)))))))),M0 (n:=6) (m:=1) rfl h⟩
theorem L0 :
  aW P' w K mg base CX0 5 n6 iR ["n","ties","a","b","count","side"] (spD yY):=
 okQ T.IJ LL fun _ _ _ _ _ _ hr=>(ao (s_r (dM (aL (LU T) (Br.hm hr) rfl T.N7 T.ID.kp T.D3 (aa (d_v 0) (aa (d_v 5) af))) (dM (sZ hr (d_v 2) (d_v 5)) (dM (HR hr (d_v 3) (d_v 5)) (jF (tK hr (ck rfl T.bY (aa (aL (LW T) (Br.hm hr) rfl T.N9 T.IF.kp T.D4 (aa (d_v 1) (aa (d_v 5) af))) af)) (d_v 4))))))))
theorem xN :
  aW P' w K mg base CX0 6 n8 iU ["n","record","a","b","most","t","told"] (spD nE):=
 okQ T.zx xJ fun _ _ _ _ _ _ hr=>(ah (s_a 7 xJ.nd (aL (Ew T) (Br.hm hr) rfl T.Iw T.DZ.kp T.zv (aa (d_v 1) (aa (d_v 5) af))))
  (ah (s_a 8 xJ.nd (aS (d_v 6) d_i))
  (ah (bQ (t_w (w_or (gj (gk (aL (Eu T) (Br.hm hr) rfl T.Iv T.DV.kp T.zu (aa (d_v 0) (aa (d_v 2) (aa (d_v 3) af)))))) (fT (Nb (d_v 8) (d_v 4))))) (ao (s_r d_b)) aR)
  (ah (bQ (t_w (w_or (fF hr (ck rfl T.bY (aa (aS (d_v 6) d_i) af)) (d_v 8)) (fT (gj (gk (aL (LY T) (Br.hm hr) rfl T.Oa T.II.kp T.D5 (aa (d_v 7) (aa (d_v 2) (aa (d_v 3) (aa (aS (d_v 6) d_i) af)))))))))) (ao (s_r d_b)) aR)
  (ah (bQ (dJ hr (d_v 8) (d_v 4)) (ao (s_r (Np (aS (d_v 6) d_i) d_n))) aR)
  (ao (s_r (aL (L0 T) (Br.hm hr) rfl T.Oc T.IJ.kp T.D6 (@aa _ _ _ _ _ (d_v 0) (@aa _ _ _ _ _ (d_v 7) (@aa _ _ _ _ _ (d_v 2) (@aa _ _ _ _ _ (d_v 3) (@aa _ _ _ _ _ (d_v 8) (@aa _ _ _ _ _ (aS (d_v 6) d_i) af rfl) rfl) rfl) rfl) rfl) rfl)))))))))
theorem sy :
  aW P' w K mg base CX0 1 n9 iV ["script","k"] (spD lA):=
 okQ T.uW fQ fun _ _ _ _ _ _ hr=>(ah (s_a 2 fQ.nd d_i)
  (ah (bQ (Na (d_v 1) (ck rfl T.bY (aa (d_v 0) af))) (ao (s_a 2 fQ.nd (aS (d_v 0) (d_v 1)))) aR)
  (ah (bQ (J6 (d_v 2) (k7 d_i d_i)) (ao (s_r (bP (aa (gi (d_v 2) (rD (rD (rD (rD (k7 d_i d_i) (k7 d_i d_i)) (k7 d_i d_i)) (k7 d_i d_i)) (k7 d_i d_i))) af)))) aR)
  (ah (s_a 3 fQ.nd (gi (bf (bf (bf (d_v 2) (gY (gY d_i (d_v 1)) (d_v 1))) (gY d_i (d_v 1))) d_i) d_i))
  (ah (s_a 4 fQ.nd d_i)
  (ah (dN Rb rfl (zY rfl T.eG (aa d_i af)) (g_n 5 fQ.nd)
  (ah (s_a 3 fQ.nd (gi (bf (bf (gY (d_v 3) d_i) (gY d_i (d_v 5))) d_i) d_i))
  (ah (s_a 3 fQ.nd (gi (gY (d_v 3) (d_v 3)) d_i))
  (ao (s_a 4 fQ.nd (bf (gY (d_v 4) d_i) (gi (bf (gY (d_v 3) d_i) (d_v 1)) d_i)))))))
  (ao (s_r (bP (aa (d_v 4) af))))))))))
theorem aU :
  aW P' w K mg base CX0 1 n_ iW ["pool","many"] (spM aX):=by
 refine T.bA.ok Er (fun vs H Q E h=>cN h) (fun cdv A outer s H vs Q E hr h=>?_);exact ⟨_,(ah (s_a 2 Er.nd (gi (aS (d_v 0) d_i) (d_v 1)))
  (ah (HU 0 d_i (M8 (aS (d_v 0) d_i) (d_v 1)))
  (ao (s_r (d_v 2))))),jH (n:=2) (m:=1) rfl h⟩
theorem L1 :
  aW P' w K mg base CX0 2 oh iX ["pool"] (spM uD):=by
 refine T.IK.ok LM (fun vs H Q E h=>cN h) (fun cdv A outer s H vs Q E hr h=>?_);exact⟨_,(ao (s_r (aS (bP (@aa _ _ _ _ _ d_i (@aa _ _ _ _ _ d_i (@aa _ _ _ _ _ d_i (@aa _ _ _ _ _ d_i (@aa _ _ _ _ _ d_i (@aa _ _ _ _ _ d_i (@aa _ _ _ _ _ d_i (@aa _ _ _ _ _ d_i af rfl) rfl) rfl) rfl) rfl) rfl) rfl) rfl)) (aF (aU T) (Br.hm hr) rfl T.bC T.bA.kp T.bq (aa (d_v 0) (aa d_i af)))))),jH (n:=1) (m:=0) rfl h⟩
theorem L3 :
  aW P' w K mg base CX0 2 oi iY ["pool","n","most"] (spM qu):=by
 refine T.IL.ok cA (fun vs H Q E h=>cN h) (fun cdv A outer s H vs Q E hr h=>?_);exact ⟨_,(ah (s_a 3 cA.nd (aF (aU T) (Br.hm hr) rfl T.bC T.bA.kp T.bq (aa (d_v 0) (aa (bf (d_v 2) d_i) af))))
  (ah (s_a 4 cA.nd (aF (aU T) (Br.hm hr) rfl T.bC T.bA.kp T.bq (aa (d_v 0) (aa d_i af))))
  (ah (s_a 5 cA.nd (aS (bP (aa d_i (aa d_i (aa (k7 d_i d_i) (aa d_i af))))) (d_v 4)))
  (ah (s_a 6 cA.nd (aS (bP (aa d_i (aa (k7 d_i d_i) af))) (Ni rfl T.DM (aa (tK hr (d_v 4) d_i) af))))
  (ah (s_a 7 cA.nd (aF (aU T) (Br.hm hr) rfl T.bC T.bA.kp T.bq (aa (d_v 0) (aa d_i af))))
  (ah (s_a 8 cA.nd (gY (aF (aU T) (Br.hm hr) rfl T.bC T.bA.kp T.bq (aa (d_v 0) (aa (d_v 5) af))) (d_v 6)))
  (ah (s_a 9 cA.nd (bP af))
  (ah (dN Rb rfl (zY rfl T.eG (aa (d_v 3) af)) (g_n 10 cA.nd)
  (ah (s_a 11 cA.nd (aF (aU T) (Br.hm hr) rfl T.bC T.bA.kp T.bq (aa (d_v 0) (aa (d_v 1) af))))
  (ah (s_a 12 cA.nd (aF (aU T) (Br.hm hr) rfl T.bC T.bA.kp T.bq (aa (d_v 0) (aa (d_v 1) af))))
  (ah (bQ (dJ hr (d_v 7) d_i) (ao (s_a 12 cA.nd (gi (bf (d_v 11) d_i) (d_v 1)))) aR)
  (ah (bQ (dJ hr (d_v 7) d_i) (ao (s_a 12 cA.nd (gi (gi (bf (bf (d_v 11) (gi (d_v 12) d_i)) d_i) (wj rfl rfl T.DO (aa (d_v 1) (aa d_i af)))) (d_v 1)))) aR)
  (ah (yl 9 (d7 (aa (d_v 8) (aa (wj rfl rfl T.DO (aa (d_v 11) (aa (d_v 12) af))) (aa (rj rfl rfl T.zo (aa (d_v 11) (aa (d_v 12) af))) af)))))
  (ao (s_a 8 cA.nd (bf (bf (d_v 8) d_i) (gY (aF (aU T) (Br.hm hr) rfl T.bC T.bA.kp T.bq (aa (d_v 0) (aa (d_v 5) af))) (d_v 6)))))))))))
  (ao (s_r (d_v 9))))))))))),jH (n:=3) (m:=10) rfl h⟩
theorem L4 :
  aW P' w K mg base CX0 2 oj iZ ["pool","record"] (spM uE):=by
 refine T.IM.ok Es (fun vs H Q E h=>cN h) (fun cdv A outer s H vs Q E hr h=>?_);exact ⟨_,(ah (bQ (dJ hr (d_v 1) (bP af)) (ao (s_r (aF (aU T) (Br.hm hr) rfl T.bC T.bA.kp T.bq (aa (d_v 0) (aa d_i af))))) aR)
  (ah (s_a 2 Es.nd (aS (aS (d_v 1) (aF (aU T) (Br.hm hr) rfl T.bC T.bA.kp T.bq (aa (d_v 0) (aa (ck rfl T.bY (aa (d_v 1) af)) af)))) d_i))
  (ao (s_r (aS (bP (@aa _ _ _ _ _ d_i (@aa _ _ _ _ _ (d_v 2) (@aa _ _ _ _ _ (bf (d_v 2) d_i) (@aa _ _ _ _ _ (rj rfl rfl T.zo (aa d_i (aa (jD (d_v 2) d_i) af))) (@aa _ _ _ _ _ (bf (aS (aS (d_v 1) (M9 d_i)) d_i) d_i) (@aa _ _ _ _ _ (d_v 2) af rfl) rfl) rfl) rfl) rfl) rfl)) (aF (aU T) (Br.hm hr) rfl T.bC T.bA.kp T.bq (aa (d_v 0) (aa d_i af)))))))),jH (n:=2) (m:=1) rfl h⟩
theorem Ex :
  aW P' w K mg base CX0 1 ou i6 ["record","t"] (spD uF):=
 okQ T.D7 LN fun _ _ _ _ _ _ hr=>(ao (s_r (cS 0 ["record","t"] ["tie"] (c_n 2 Hh rfl rfl) (d_v 0) (fun _ _ _ _ _=>dP (J6 (aS (d_v 2) d_i) (d_v 1))) (fun _ _ _ _ _=>(d_v 2)))))
theorem L5 :
  aW P' w K mg base CX0 1 oz i7 ["thing"] (spD C9):=
 okQ T.IP LO fun _ _ _ _ _ _ hr=>(ao (s_r (dM (jG ym (by rfl) rfl T.DM rfl T.aZ (d_v 0)) (jF (HS (jG mL (by rfl) rfl T.xG rfl T.aZ (d_v 0)))))))
theorem Ey :
  aW P' w K mg base CX0 2 oA i8 ["thing"] (spD nF):=
 okQ T.D9 LP fun _ _ _ _ _ _ hr=>(ao (s_r (tN rfl rfl T.uU (aa (cS 0 ["thing"] ["part"] (c_n 1 Hi rfl rfl) (d_v 0) (fun _ _ _ _ _=>dO) (fun _ _ _ _ _=>(aL (L5 T) (Br.hm hr) rfl T.Og T.IP.kp T.D8 (aa (d_v 1) af)))) af))))
theorem L6 :
  aW P' w K mg base CX0 1 oB i9 ["ties","side"] (spD yZ):=
 okQ T.IQ LQ fun _ _ _ _ _ _ hr=>(ao (s_r (cS 0 ["ties","side"] ["tie"] (c_n 2 Hj rfl rfl) (d_v 0) (fun _ _ _ _ _=>dP (fF hr (sZ hr (aS (d_v 2) d_i) (d_v 1)) (sZ hr (aS (d_v 2) d_i) (d_v 1)))) (fun _ _ _ _ _=>(aS (d_v 2) d_i)))))
theorem L7 :
  aW P' w K mg base CX0 3 oE i_ ["ties","a","b","way"] (spD y9):=
 okQ T.IS kQ fun _ _ _ _ _ _ hr=>(ah (bQ (t_w (w_or (gj (gk (jG tM (by rfl) rfl T.cZ rfl T.aZ (d_v 3)))) (w_or (gj (gk (aL (Ey T) (Br.hm hr) rfl T.IA T.D9.kp T.zy (aa (d_v 3) af)))) (fT (fF hr (mS rfl rfl T.bY rfl T.zp (d_v 3)) (ck rfl T.bY (aa (d_v 3) af))))))) (ao (s_r d_b)) aR)
  (ah (s_a 4 kQ.nd F5)
  (ah (dN Rb rfl (i_S (d_v 0)) (g_n 5 kQ.nd)
  (ao (mQ 4 hr (aS (d_v 5) d_i) (d7 (aa (aS (d_v 5) d_i) (aa (aS (d_v 5) d_i) af))))))
  (ah (s_a 6 kQ.nd (d_v 1))
  (ah (dN Rb rfl (i_S (d_v 3)) (g_n 7 kQ.nd)
  (ah (bQ (t_w (w_or (wu hr (d_v 7) (d_v 4)) (w_or (BL hr (d_v 6) (rA hr (d_v 4) (d_v 7))) (fT (dJ hr (aS (rA hr (d_v 4) (d_v 7)) d_i) (aS (rA hr (d_v 4) (d_v 7)) d_i)))))) (ao (s_r d_b)) aR)
  (ao (s_a 6 kQ.nd (jD (BZ rfl rfl T.DQ (aa (rA hr (d_v 4) (d_v 7)) af)) (d_v 6))))))
  (ao (s_r (tK hr (d_v 6) (d_v 2)))))))))
theorem L8 :
  aW P' w K mg base CX0 4 oF jb ["ties","a","b","ways"] (spD y_):=
 okQ T.IT xK fun _ _ _ _ _ _ hr=>(ah (bQ (gj (gk (jG tM (by rfl) rfl T.cZ rfl T.aZ (d_v 3)))) (ao (s_r d_b)) aR)
  (ah (s_a 4 xK.nd (bP af))
  (ah (dN Rb rfl (i_S (d_v 3)) (g_n 5 xK.nd)
  (ah (bQ (gj (gk (aL (L7 T) (Br.hm hr) rfl T.Oi T.IS.kp T.D_ (aa (d_v 0) (aa (d_v 1) (aa (d_v 2) (aa (d_v 5) af))))))) (ao (s_r d_b)) aR)
  (ao (HY 4 (d_v 5)))))
  (ao (s_r (tK hr (mS rfl rfl T.bY rfl T.zp (d_v 4)) (ck rfl T.bY (aa (d_v 4) af))))))))
theorem L_ :
  aW P' w K mg base CX0 3 oG jc ["n","side","a","b"] (spD za):=
 okQ T.IU LR fun _ _ _ _ _ _ hr=>(ah (bQ (t_w (w_or (gj (gk (jG kit_tuple (by rfl) rfl T.gS rfl T.aZ (d_v 1)))) (w_or (gj (gk (aL (Ey T) (Br.hm hr) rfl T.IA T.D9.kp T.zy (aa (d_v 1) af)))) (fT (fF hr (eU rfl T.cZ (aa (d_v 1) af)) (An rfl rfl T.o6 rfl T.zp (d_v 1))))))) (ao (s_r d_b)) aR)
  (ao (s_r (dM (tN rfl rfl T.uU (aa (cS 1 ["n","side","a","b"] ["place"] (c_n 4 Hl rfl rfl) (d_v 1) (fun _ _ _ _ _=>dO) (fun _ _ _ _ _=>(yo A2 BG A1 BF d_i (d_v 4) (d_v 0)))) af)) (dM (sZ hr (d_v 2) (d_v 1)) (jF (HR hr (d_v 3) (d_v 1))))))))
theorem Ez :
  aW P' w K mg base CX0 5 oH jd ["n","ties","a","b","most","told"] (spD qv):=
 okQ T.Ed su fun _ _ _ _ _ _ hr=>(ah (s_u rfl (bz 6 su.nd (bz 7 su.nd (bz 8 su.nd j_))) (d_v 5))
  (ah (bQ (t_w (w_or (fF hr (d_v 6) (ck rfl T.bY (aa (d_v 7) af))) (w_or (Nb (d_v 6) (d_v 4)) (fT (gj (gk (aL (L8 T) (Br.hm hr) rfl T.Oj T.IT.kp T.Eb (aa (d_v 1) (aa (d_v 2) (aa (d_v 3) (aa (d_v 7) af))))))))))) (ao (s_r d_b)) aR)
  (ah (bQ (B5 (d_v 8) d_n) (ao (s_r (tK hr (d_v 6) (d_v 4)))) aR)
  (ao (s_r (dM (M_ (d_v 6) (d_v 4)) (dM (aL (L_ T) (Br.hm hr) rfl T.Ol T.IU.kp T.Ec (aa (d_v 0) (aa (d_v 8) (aa (d_v 2) (aa (d_v 3) af))))) (jF (tK hr (ck rfl T.bY (aa (aL (L6 T) (Br.hm hr) rfl T.Oh T.IQ.kp T.Ea (aa (d_v 1) (aa (d_v 8) af))) af)) (d_v 6))))))))))
theorem Ma :
  aW P' w K mg base CX0 2 oJ je ["pool","record","way","a"] (spM uG):=by
 refine T.IV.ok gG (fun vs H Q E h=>cN h) (fun cdv A outer s H vs Q E hr h=>?_);exact ⟨_,(ah (s_a 4 gG.nd (aF (aU T) (Br.hm hr) rfl T.bC T.bA.kp T.bq (aa (d_v 0) (aa (bf (ck rfl T.bY (aa (d_v 2) af)) d_i) af))))
  (ah (s_a 5 gG.nd (d_v 3))
  (ah (dN Rb rfl (i_S (J7 (d_v 2) o_n (o_s (d_v 4)))) (g_n 6 gG.nd)
  (ao (s_a 5 gG.nd (jD (Kl rfl rfl T.DQ (aa (cS 1 ["pool","record","way","a","at","here","moment","near","%8","back"] ["tie"] (c_n 10 Ho rfl rfl) (d_v 1) (fun _ _ _ _ _=>dP (dJ hr (aS (d_v 10) d_i) (d_v 6))) (fun _ _ _ _ _=>(bf (aS (d_v 10) d_i) (aS (d_v 10) d_i)))) af)) (d_v 5)))))
  (ah (HV 7 1 ["pool","record","way","a","at","here","moment","near","%8","back"] ["tie"] gG.nd (c_n 10 Hq rfl rfl) (d_v 1) (fun _ _ _ _ _=>dP (t_w (w_and (Pj hr (d_v 5) (BY (d_v 10) (o_s d_i) o_n)) (BO (fF hr (aS (d_v 10) d_i) (aS (d_v 10) d_i)))))) (fun _ _ _ _ _=>(d_v 10)))
  (ah (bQ (dJ hr (d_v 7) (bP af)) (ao (s_r (eU rfl T.cZ (aa (d_v 2) af)))) aR)
  (ah (s_a 8 gG.nd (aS (d_v 7) (aF (aU T) (Br.hm hr) rfl T.bC T.bA.kp T.bq (aa (d_v 0) (aa (ck rfl T.bY (aa (d_v 7) af)) af)))))
  (ah (HV 9 7 ["pool","record","way","a","at","here","moment","near","tie","back"] ["one"] gG.nd (c_n 10 Hr rfl rfl) (d_v 7) (fun _ _ _ _ _=>dP (dJ hr (BY (d_v 10) (o_s d_i) o_n) (BY (d_v 8) (o_s d_i) o_n))) (fun _ _ _ _ _=>(d_v 10)))
  (ao (s_r (bf (bf (J7 (d_v 2) o_n (o_s (d_v 4))) (bP (aa (aS (d_v 8) d_i) (aa (aS (aS (d_v 9) (aF (aU T) (Br.hm hr) rfl T.bC T.bA.kp T.bq (aa (d_v 0) (aa (ck rfl T.bY (aa (d_v 9) af)) af)))) d_i) af)))) (J7 (d_v 2) (o_s (d_v 4)) o_n))))))))))),jH (n:=4) (m:=6) rfl h⟩
theorem Mb :
  aW P' w K mg base CX0 3 oK jf ["pool","record","ways","a"] (spM uH):=by
 refine T.IW.ok kR (fun vs H Q E h=>cN h) (fun cdv A outer s H vs Q E hr h=>?_);exact ⟨_,(Gy 4 ["pool","record","ways","a","made","turn","some","moment","at"] ["way"] kR.nd (c_n 9 Ht rfl rfl) (i_S (d_v 2)) (fun _ _ _ _ _=>(p_o (eU rfl T.cZ (aa (d_v 9) af))))
  (m_c (KW 5 kR.nd (aF (aU T) (Br.hm hr) rfl T.bC T.bA.kp T.bq (aa (d_v 0) (aa d_i af))))
  (m_c (KH 6 kR.nd (p_o (bf (cS 1 ["pool","record","ways","a","made","turn","some","moment","at"] ["tie"] (c_n 9 Hu rfl rfl) (d_v 1) (fun _ _ _ _ _=>dO) (fun _ _ _ _ _=>(aS (d_v 9) d_i))) (bP (aa d_i af)))))
  (m_c (KW 7 kR.nd (aS (d_v 6) (aF (aU T) (Br.hm hr) rfl T.bC T.bA.kp T.bq (aa (d_v 0) (aa (ck rfl T.bY (aa (d_v 6) af)) af)))))
  (NI (t_w (w_or (dJ hr (d_v 5) d_i) (fT (dJ hr (d_v 4) (bP af))))) (qp (ao (s_r (bf (d_v 4) (bP (aa (bP (aa (d_v 7) af)) af))))))
  (m_c (KW 8 kR.nd (aF (aU T) (Br.hm hr) rfl T.bC T.bA.kp T.bq (aa (d_v 0) (aa (ck rfl T.bY (aa (d_v 4) af)) af))))
  (yP (dJ hr (d_v 5) d_i) (qp (ao (s_e (yu 4 (d_v 8)))))
  (yP (dJ hr (d_v 5) d_i) (qp (ao (yl 4 (eU rfl T.cZ (aa (aS (d_v 4) (d_v 8)) af)))))
  (yP (dJ hr (d_v 5) d_i) (m_c (NH (d_v 8) (d_v 7))
  (qp aR))
  (yP (dJ hr (d_v 5) d_i) (m_c (K7 (d_v 8) (aF (aU T) (Br.hm hr) rfl T.bC T.bA.kp T.bq (aa (d_v 0) (aa (ck rfl T.bY (aa (aS (d_v 4) (d_v 8)) af)) af))) (d_v 7))
  (qp aR))
  (qp (ao (HU 4 (d_v 8) (aF (Ma T) (Br.hm hr) rfl T.Om T.IV.kp T.Ef (aa (d_v 0) (aa (d_v 1) (aa (aS (d_v 4) (d_v 8)) (aa (d_v 3) af))))))))
  aR)
  aR)
  aR)
  (ao (s_r (d_v 4)))))))))),jH (n:=4) (m:=5) rfl h⟩
theorem Mc :
  aW P' w K mg base CX0 2 oM jh ["pool","n","side"] (spM uI):=by
 refine T.IX.ok xM (fun vs H Q E h=>cN h) (fun cdv A outer s H vs Q E hr h=>?_);exact ⟨_,(ah (s_a 3 xM.nd (jD (aF (aU T) (Br.hm hr) rfl T.bC T.bA.kp T.bq (aa (d_v 0) (aa (bf (d_v 1) d_i) af))) d_i))
  (ah (bQ (B5 (d_v 2) d_n) (ao (s_r (aS (bP (aa (d7 (aa (d_v 3) af)) (aa (d7 af) af))) (aF (aU T) (Br.hm hr) rfl T.bC T.bA.kp T.bq (aa (d_v 0) (aa d_i af)))))) aR)
  (ah (s_a 4 xM.nd (aF (aU T) (Br.hm hr) rfl T.bC T.bA.kp T.bq (aa (d_v 0) (aa d_i af))))
  (ah (bQ (dJ hr (d_v 4) d_i) (ao (s_r d_n)) aR)
  (ah (bQ (dJ hr (d_v 4) d_i) (ao (s_r (lV rfl T.gS (aa (Nj ["pool","n","side","place","turn"] ["one"] (c_n 5 Hv rfl rfl) (zY rfl T.eG (aa (d_v 1) af)) (fun _ _ _ _ _=>dP (BL hr (d_v 5) (d_v 2))) (fun _ _ _ _ _=>(d_v 5))) af)))) aR)
  (ah (bQ (dJ hr (d_v 4) d_i) (ao (s_r (lV rfl T.gS (aa (Ao rfl T.o6 (aa (KQ (d_v 2) (d7 (aa (d_v 3) af))) af)) af)))) aR)
  (ah (bQ (dJ hr (d_v 4) d_i) (ao (s_r (lV rfl T.gS (aa (cS 2 ["pool","n","side","place","turn"] ["one"] (c_n 5 Hw rfl rfl) (d_v 2) (fun _ _ _ _ _=>dP (fF hr (d_v 5) (d_v 3))) (fun _ _ _ _ _=>(d_v 5))) af)))) aR)
  (ao (s_r (KU (d_v 2))))))))))),jH (n:=3) (m:=2) rfl h⟩
theorem Me :
  aW P' w K mg base CX0 4 oN ji ["pool","n","record","told","a"] (spM uJ):=by
 refine T.IY.ok kT (fun vs H Q E h=>cN h) (fun cdv A outer s H vs Q E hr h=>?_);exact ⟨_,(ah (s_u rfl (bz 5 kT.nd (bz 6 kT.nd (bz 7 kT.nd j_))) (d_v 3))
  (ah (s_a 8 kT.nd (aF (aU T) (Br.hm hr) rfl T.bC T.bA.kp T.bq (aa (d_v 0) (aa d_i af))))
  (ah (bQ (dJ hr (d_v 8) d_i) (ao (s_r (d7 (aa (bf (d_v 5) (aS (bP (aa d_i (aa (jD d_i d_i) af))) (aF (aU T) (Br.hm hr) rfl T.bC T.bA.kp T.bq (aa (d_v 0) (aa d_i af))))) (aa (cS 6 ["pool","n","record","told","a","count","ways","side","turn","made"] ["way"] (c_n 10 Hx rfl rfl) (d_v 6) (fun _ _ _ _ _=>dO) (fun _ _ _ _ _=>(eU rfl T.cZ (aa (d_v 10) af)))) (aa (d_v 7) af)))))) aR)
  (ah (bQ (dJ hr (d_v 8) d_i) (ao (s_r (d7 (aa (d_v 5) (aa (cS 6 ["pool","n","record","told","a","count","ways","side","turn","made"] ["way"] (c_n 10 Hy rfl rfl) (d_v 6) (fun _ _ _ _ _=>dO) (fun _ _ _ _ _=>(eU rfl T.cZ (aa (d_v 10) af)))) (aa (aF (Mc T) (Br.hm hr) rfl T.Oq T.IX.kp T.Eh (aa (d_v 0) (aa (d_v 1) (aa (d_v 7) af)))) af)))))) aR)
  (ah (s_a 9 kT.nd (aF (Mb T) (Br.hm hr) rfl T.Oo T.IW.kp T.Eg (aa (d_v 0) (aa (d_v 2) (aa (d_v 6) (aa (d_v 4) af))))))
  (ah (bQ (dJ hr (d_v 8) d_i) (ao (s_r (d7 (aa (ck rfl T.bY (aa (d_v 9) af)) (aa (d_v 9) (aa (d_v 7) af)))))) aR)
  (ao (s_r (d7 (aa (d_v 5) (aa (d_v 9) (aa (d_v 7) af)))))))))))),jH (n:=5) (m:=5) rfl h⟩
theorem Mf :
  aW P' w K mg base CX0 7 oO kO ["script"] (spD nG):=
 okQ T.OD aY fun _ _ _ _ _ _ hr=>(ah (dN Rb rfl (PB rfl T.eG (aa d_i (aa (rj rfl rfl T.zo (aa d_i (aa (wj rfl rfl T.DO (aa (ck rfl T.bY (aa (d_v 0) af)) (aa d_i af))) af))) (aa d_i af)))) (g_n 1 aY.nd)
  (ah (s_a 2 aY.nd (aL (sy T) (Br.hm hr) rfl T.zq T.uW.kp T.qE (aa (d_v 0) (aa (d_v 1) af))))
  (ah (s_a 3 aY.nd (rj rfl rfl T.zo (aa d_i (aa (aF (L1 T) (Br.hm hr) rfl T.Od T.IK.kp T.Ej (aa (d_v 2) af)) af))))
  (ah (s_a 4 aY.nd d_i)
  (ah (bQ (dJ hr (aF (aU T) (Br.hm hr) rfl T.bC T.bA.kp T.bq (aa (d_v 2) (aa d_i af))) d_i) (ah (s_a 3 aY.nd (bf d_i (aF (aU T) (Br.hm hr) rfl T.bC T.bA.kp T.bq (aa (d_v 2) (aa d_i af)))))
  (ao (s_a 4 aY.nd d_i))) aR)
  (ah (s_a 5 aY.nd (Gk (L3 T) (Br.hm hr) rfl T.Oe T.IL.kp T.El (aa (aL (sy T) (Br.hm hr) rfl T.zq T.uW.kp T.qE (aa (d_v 0) (aa (bf (d_v 1) d_i) af))) (aa (d_v 3) (aa (d_v 4) af)))))
  (ah (s_a 2 aY.nd (aL (sy T) (Br.hm hr) rfl T.zq T.uW.kp T.qE (aa (d_v 0) (aa (bf (d_v 1) d_i) af))))
  (ah (s_a 6 aY.nd (aF (aU T) (Br.hm hr) rfl T.bC T.bA.kp T.bq (aa (d_v 2) (aa (d_v 3) af))))
  (ah (s_a 7 aY.nd (gi (bf (bf (d_v 6) d_i) (aF (aU T) (Br.hm hr) rfl T.bC T.bA.kp T.bq (aa (d_v 2) (aa (jD (d_v 3) d_i) af)))) (d_v 3)))
  (ah (s_a 8 aY.nd (aS (bP (@aa _ _ _ _ _ d_i (@aa _ _ _ _ _ d_i (@aa _ _ _ _ _ d_i (@aa _ _ _ _ _ d_i (@aa _ _ _ _ _ d_i (@aa _ _ _ _ _ d_i af rfl) rfl) rfl) rfl) rfl) rfl)) (aF (aU T) (Br.hm hr) rfl T.bC T.bA.kp T.bq (aa (d_v 2) (aa d_i af)))))
  (ah (s_a 9 aY.nd (aF (L4 T) (Br.hm hr) rfl T.Of T.IM.kp T.Em (aa (d_v 2) (aa (d_v 5) af))))
  (ah (s_a 10 aY.nd (aL (LZ T) (Br.hm hr) rfl T.Ob T.zw.kp T.Ei (@aa _ _ _ _ _ (d_v 3) (@aa _ _ _ _ _ (eU rfl T.cZ (aa (d_v 5) af)) (@aa _ _ _ _ _ (d_v 6) (@aa _ _ _ _ _ (d_v 7) (@aa _ _ _ _ _ (d_v 8) (@aa _ _ _ _ _ (d_v 9) af rfl) rfl) rfl) rfl) rfl) rfl)))
  (ah (s_a 11 aY.nd (ue hr rfl T.uV (aa (d_v 10) af)))
  (ah (s_a 12 aY.nd (eU rfl T.cZ (aa (d_v 5) af)))
  (ah (bQ (t_w (w_or (Nh (nc 5 (xN T) (Br.hm hr) rfl T.DR T.zx.kp T.uX (@aa _ _ _ _ _ (d_v 3) (@aa _ _ _ _ _ (d_v 12) (@aa _ _ _ _ _ (d_v 6) (@aa _ _ _ _ _ (d_v 7) (@aa _ _ _ _ _ (d_v 8) (@aa _ _ _ _ _ (d_v 9) (@aa _ _ _ _ _ (d_v 10) af rfl) rfl) rfl) rfl) rfl) rfl) rfl)) d_b) (w_or (fF hr (ue hr rfl T.uV (aa (d_v 10) af)) (d_v 11)) (fT (fF hr (d_v 12) (d_v 5)))))) (ao (s_r d_b)) aR)
  (ah (s_a 2 aY.nd (aL (sy T) (Br.hm hr) rfl T.zq T.uW.kp T.qE (aa (d_v 0) (aa (bf (d_v 1) d_i) af))))
  (ah (dN Rb rfl (zY rfl T.eG (aa d_i af)) (g_n 13 aY.nd)
  (ah (s_a 14 aY.nd (aF (Me T) (Br.hm hr) rfl T.Ot T.IY.kp T.En (@aa _ _ _ _ _ (d_v 2) (@aa _ _ _ _ _ (d_v 3) (@aa _ _ _ _ _ (d_v 5) (@aa _ _ _ _ _ (d_v 10) (@aa _ _ _ _ _ (d_v 6) af rfl) rfl) rfl) rfl) rfl)))
  (ah (s_a 15 aY.nd (ue hr rfl T.uV (aa (d_v 14) af)))
  (ah (s_a 12 aY.nd (eU rfl T.cZ (aa (d_v 5) af)))
  (ah (s_a 16 aY.nd (nc 5 (xN T) (Br.hm hr) rfl T.DR T.zx.kp T.uX (@aa _ _ _ _ _ (d_v 3) (@aa _ _ _ _ _ (d_v 12) (@aa _ _ _ _ _ (d_v 6) (@aa _ _ _ _ _ (d_v 7) (@aa _ _ _ _ _ (d_v 8) (@aa _ _ _ _ _ (d_v 9) (@aa _ _ _ _ _ (d_v 14) af rfl) rfl) rfl) rfl) rfl) rfl) rfl)))
  (ah (s_a 17 aY.nd (aL (Ez T) (Br.hm hr) rfl T.IB T.Ed.kp T.zA (@aa _ _ _ _ _ (d_v 3) (@aa _ _ _ _ _ (aL (Ex T) (Br.hm hr) rfl T.Iz T.D7.kp T.zz (aa (d_v 5) (aa (d_v 9) af))) (@aa _ _ _ _ _ (d_v 6) (@aa _ _ _ _ _ (d_v 7) (@aa _ _ _ _ _ (d_v 8) (@aa _ _ _ _ _ (d_v 14) af rfl) rfl) rfl) rfl) rfl) rfl)))
  (ah (bQ (t_w (w_or (gj (gk (jG mL (by rfl) rfl T.xG rfl T.aZ (d_v 16)))) (fT (fF hr (d_v 16) (d_v 17))))) (ao (s_r d_b)) aR)
  (ao (bQ (t_w (w_or (fF hr (ue hr rfl T.uV (aa (d_v 14) af)) (d_v 15)) (fT (fF hr (d_v 12) (d_v 5))))) (ao (s_r d_b)) aR)))))))))
  (ah (s_a 18 aY.nd (aL (Ez T) (Br.hm hr) rfl T.IB T.Ed.kp T.zA (@aa _ _ _ _ _ (d_v 3) (@aa _ _ _ _ _ (aL (Ex T) (Br.hm hr) rfl T.Iz T.D7.kp T.zz (aa (d_v 5) (aa (d_v 9) af))) (@aa _ _ _ _ _ (d_v 7) (@aa _ _ _ _ _ (d_v 6) (@aa _ _ _ _ _ (d_v 8) (@aa _ _ _ _ _ (d_v 10) af rfl) rfl) rfl) rfl) rfl) rfl)))
  (ah (s_a 12 aY.nd (eU rfl T.cZ (aa (d_v 5) af)))
  (ao (bQ (t_w (w_or (fF hr (nc 5 (xN T) (Br.hm hr) rfl T.DR T.zx.kp T.uX (@aa _ _ _ _ _ (d_v 3) (@aa _ _ _ _ _ (d_v 12) (@aa _ _ _ _ _ (d_v 7) (@aa _ _ _ _ _ (d_v 6) (@aa _ _ _ _ _ (d_v 8) (@aa _ _ _ _ _ (d_v 9) (@aa _ _ _ _ _ (d_v 10) af rfl) rfl) rfl) rfl) rfl) rfl) rfl)) (d_v 18)) (w_or (fF hr (ue hr rfl T.uV (aa (d_v 10) af)) (d_v 11)) (fT (fF hr (d_v 12) (d_v 5)))))) (ao (s_r d_b)) aR)))))))))))))))))))))
  (ao (s_r d_b)))
end
theorem all_mk{l:T5}{w:World}{K:Dk}{h:Heap}{mg:Str->Option Value}{fa xu xw xx xy xA xB xC xD xE xF nT nU nV nW nX nY nZ n5 jV n6 n8 n9 n_ oh oi oj ou oz oA oB oE oF oG oH oJ oK oM oN oO:Addr}{oQ oR oS oU oV oW oX oY oZ o4 iI iJ iK iM iN iO iP iQ iR iU iV iW iX iY iZ i6 i7 i8 i9 i_ jb jc jd je jf jh ji kO:FuncData}(X:K.In h)(G:h.Ns mainGlobals mg)(hfa:mg "law" = some (.ref fa))
  {Mg EA:Option Addr} {Mh:Array (Option Value)} {Mi EB EC ED xO EE:Value} {xP:Addr} {Mj:Tok} {xQ:Nat} {u6:Value} {u7:Option Addr} {u9:Array (Option Value)}
  (EF:bB K "steps_of" (top 2) xu oQ)
  (EG:bB K "free_steps" (top 3) xw oR)
  (EH:bB K "led_steps" (top 4) xx oS)
  (EI:bB K "shortest_ways" (top 5) xy oU)
  (EJ:bB K "lead_along" (top 6) xA oV)
  (EK:bB K "parted" (top 7) xB oW)
  (EL:bB K "ways_apart" (top 1) xC oX)
  (EM:bB K "is_whole" (top 12) xD oY)
  (EN:bB K "is_within" (top 13) xE oZ)
  (EO:bB K "is_place" (top 14) xF o4)
  (u_:bB K "is_rising" (top 15) nT iI)
  (vc:bB K "is_pair" (top 16) nU iJ)
  (vd:bB K "is_side" (top 17) nV iK)
  (ve:bB K "look_at_pair" (top 18) nW iM)
  (vf:bB K "rim" (top 20) nX iN)
  (vg:bB K "way_right" (top 21) nY iO)
  (vh:bB K "ways_right" (top 22) nZ iP)
  (vj:bB K "since" (top 24) n5 iQ)
  (ER:Ri K mainGlobals "hang_of" = some (some (.ref jV))) (ES:K.lookup jV=some ⟨Mi,Mg,.func (QY "hang_of" "hang_of" (aN (top 26)) (aK (top 26)) (ai (top 26)) (.ref xP) EB EC ED EA xO EE),Mh⟩) (ET:Sa K xO "hang_of" = true) (EU:Rw K (.ref jV)=true)
  (EV:K.lookup xP=some ⟨u6,u7,.seq #[.int 0 Mj] xQ,u9⟩)
  (vm:bB K "side_right" (top 28) n6 iR)
  (vn:bB K "hang_right" (top 27) n8 iU)
  (vo:bB K "_law_pool" (top 30) n9 iV)
  (vp:bB K "_law_take" (top 31) n_ iW)
  (vq:bB K "_law_many" (top 32) oh iX)
  (vt:bB K "_law_record" (top 33) oi iY)
  (vv:bB K "_law_moment" (top 34) oj iZ)
  (vz:bB K "_law_since" (top 35) ou i6)
  (vA:bB K "_law_whole" (top 36) oz i7)
  (vC:bB K "_law_wholes" (top 37) oA i8)
  (vD:bB K "_law_rim" (top 38) oB i9)
  (vE:bB K "_law_leads" (top 39) oE i_)
  (vF:bB K "_law_lead_all" (top 40) oF jb)
  (vG:bB K "_law_is_side" (top 41) oG jc)
  (vH:bB K "_law_due" (top 42) oH jd)
  (vJ:bB K "_law_detour" (top 43) oJ je)
  (vK:bB K "_law_ways_spoilt" (top 44) oK jf)
  (vL:bB K "_law_side_spoilt" (top 45) oM jh)
  (vM:bB K "_law_spoilt" (top 46) oN ji)
  (qG:bB K "law" (top 47) oO kO)
  (EW:Ri K mainGlobals "all" = some none)
  (xR:Ri K mainGlobals "bool" = some none)
  (xS:Ri K mainGlobals "dict" = some none)
  (EX:Ri K mainGlobals "int" = some none)
  (fR:Ri K mainGlobals "isinstance" = some none)
  (EY:Ri K mainGlobals "len" = some none)
  (xT:Ri K mainGlobals "list" = some none)
  (EZ:Ri K mainGlobals "max" = some none)
  (E1:Ri K mainGlobals "min" = some none)
  (sC:Ri K mainGlobals "range" = some none)
  (E2:Ri K mainGlobals "set" = some none)
  (o7:Ri K mainGlobals "sorted" = some none)
  (E3:Ri K mainGlobals "str" = some none)
  (E4:Ri K mainGlobals "sum" = some none)
  (sD:Ri K mainGlobals "tuple" = some none) :
  ∃fd:FuncData,(∀(s:Shared) (v:Value),BindsTo s fd ⟨[v],[]⟩ [("script",v)])/\∀base:Heap,K.In base->base.Ns mainGlobals mg->aW l.prog w K mg base CX0 7 fa fd ["script"] (spD nG):=by
 have e:=hfa.symm.trans (qG.m X G);cases e;have Lq:=EF.F.cu (ps:=["n","ties"]) rfl fun _ _ _ _ _ _ _ _=>rfl;have Lr:=EG.F.cu (ps:=["steps","heads"]) rfl fun _ _ _ _ _ _ _ _=>rfl;have Lp:=EH.F.cu (ps:=["steps","heads"]) rfl fun _ _ _ _ _ _ _ _=>rfl;have G6:=EI.F.cu (ps:=["steps","a"]) rfl fun _ _ _ _ _ _ _ _=>rfl;have Ls:=EJ.F.cu (ps:=["heads","way"]) rfl fun _ _ _ _ _ _ _ _=>rfl;have Lu:=EK.F.wK (ps:=["steps","heads","a","b","count"]) rfl fun _ _ _ _ _ _ _ _ _ _ _=>rfl;have Lx:=EL.F.wK (ps:=["n","ties","a","b","most"]) rfl fun _ _ _ _ _ _ _ _ _ _ _=>rfl;have Lv:=EM.F.m7 (ps:=["thing"]) rfl fun _ _ _ _ _ _ _=>rfl;have Lw:=EN.F.m8 (ps:=["thing","low","high"]) rfl fun _ _ _ _ _ _ _ _ _=>rfl;have DU:=EO.F.cu (ps:=["n","thing"]) rfl fun _ _ _ _ _ _ _ _=>rfl;have DX:=u_.F.m7 (ps:=["things"]) rfl fun _ _ _ _ _ _ _=>rfl;have zu:=vc.F.m8 (ps:=["n","a","b"]) rfl fun _ _ _ _ _ _ _ _ _=>rfl;have D3:=vd.F.cu (ps:=["n","thing"]) rfl fun _ _ _ _ _ _ _ _=>rfl;have D0:=ve.F.m8 (ps:=["n","a","b"]) rfl fun _ _ _ _ _ _ _ _ _=>rfl;have D4:=vf.F.cu (ps:=["record","side"]) rfl fun _ _ _ _ _ _ _ _=>rfl;have DY:=vg.F.iu (ps:=["record","a","b","way"]) rfl fun _ _ _ _ _ _ _ _ _ _=>rfl;have D5:=vh.F.iu (ps:=["record","a","b","ways"]) rfl fun _ _ _ _ _ _ _ _ _ _=>rfl;have zv:=vj.F.cu (ps:=["record","t"]) rfl fun _ _ _ _ _ _ _ _=>rfl;have zw:=Gd (st:=top 26) ES ET EU;have Ei:Binds K (QY "hang_of" "hang_of" (aN (top 26)) (aK (top 26)) (ai (top 26)) (.ref xP) EB EC ED EA xO EE) ["n","record","a","b","most","t"] []:=fun s us hIn hl=>match us,hl with | [_,_,_,_,_,_],_=>PySem.W.binds_K hIn rfl EV rfl rfl rfl
 have D6:=vm.F.Cf (ps:=["n","ties","a","b","count","side"]) rfl fun _ _ _ _ _ _ _ _ _ _ _ _=>rfl;have uX:=vn.F.Ky (ps:=["n","record","a","b","most","t","told"]) rfl fun _ _ _ _ _ _ _ _ _ _ _ _ _=>rfl;have qE:=vo.F.cu (ps:=["script","k"]) rfl fun _ _ _ _ _ _ _ _=>rfl;have bq:=vp.F.cu (ps:=["pool","many"]) rfl fun _ _ _ _ _ _ _ _=>rfl;have Ej:=vq.F.m7 (ps:=["pool"]) rfl fun _ _ _ _ _ _ _=>rfl;have El:=vt.F.m8 (ps:=["pool","n","most"]) rfl fun _ _ _ _ _ _ _ _ _=>rfl;have Em:=vv.F.cu (ps:=["pool","record"]) rfl fun _ _ _ _ _ _ _ _=>rfl;have zz:=vz.F.cu (ps:=["record","t"]) rfl fun _ _ _ _ _ _ _ _=>rfl;have D8:=vA.F.m7 (ps:=["thing"]) rfl fun _ _ _ _ _ _ _=>rfl;have zy:=vC.F.m7 (ps:=["thing"]) rfl fun _ _ _ _ _ _ _=>rfl;have Ea:=vD.F.cu (ps:=["ties","side"]) rfl fun _ _ _ _ _ _ _ _=>rfl;have D_:=vE.F.iu (ps:=["ties","a","b","way"]) rfl fun _ _ _ _ _ _ _ _ _ _=>rfl;have Eb:=vF.F.iu (ps:=["ties","a","b","ways"]) rfl fun _ _ _ _ _ _ _ _ _ _=>rfl;have Ec:=vG.F.iu (ps:=["n","side","a","b"]) rfl fun _ _ _ _ _ _ _ _ _ _=>rfl;have zA:=vH.F.Cf (ps:=["n","ties","a","b","most","told"]) rfl fun _ _ _ _ _ _ _ _ _ _ _ _=>rfl;have Ef:=vJ.F.iu (ps:=["pool","record","way","a"]) rfl fun _ _ _ _ _ _ _ _ _ _=>rfl;have Eg:=vK.F.iu (ps:=["pool","record","ways","a"]) rfl fun _ _ _ _ _ _ _ _ _ _=>rfl;have Eh:=vL.F.m8 (ps:=["pool","n","side"]) rfl fun _ _ _ _ _ _ _ _ _=>rfl;have En:=vM.F.wK (ps:=["pool","n","record","told","a"]) rfl fun _ _ _ _ _ _ _ _ _ _ _=>rfl;refine⟨_,fun s v=>qG.PV (fun _ _ _ _ _ _ _=>rfl) s v,fun base Xb _=>?_⟩;have T:Txt mg K base ..:=⟨mno X G EW,mno X G xR,mno X G xS,mno X G EX,mno X G fR,mno X G EY,mno X G xT,mno X G EZ,mno X G E1,mno X G sC,mno X G E2,mno X G o7,mno X G E3,mno X G E4,mno X G sD,EF.m X G,EG.m X G,EH.m X G,EI.m X G,EJ.m X G,EK.m X G,EL.m X G,EM.m X G,EN.m X G,EO.m X G,u_.m X G,vc.m X G,vd.m X G,ve.m X G,vf.m X G,vg.m X G,vh.m X G,vj.m X G,mgo X G ER,vm.m X G,vn.m X G,vo.m X G,vp.m X G,vq.m X G,vt.m X G,vv.m X G,vz.m X G,vA.m X G,vC.m X G,vD.m X G,vE.m X G,vF.m X G,vG.m X G,vH.m X G,vJ.m X G,vK.m X G,vL.m X G,vM.m X G,qG.m X G,EF.F,EG.F,EH.F,EI.F,EJ.F,Lp,G6,EK.F,Lq,Lr,Ls,Lu,EL.F,EM.F,Lv,EN.F,Lw,EO.F,u_.F,DU,vc.F,DX,vd.F,zu,ve.F,vf.F,vg.F,DY,vh.F,vj.F,Lx,D0,zv,zw,D3,D4,vm.F,D5,D6,vn.F,vo.F,vp.F,bq,vq.F,vt.F,vv.F,vz.F,vA.F,D8,vC.F,vD.F,zy,vE.F,D_,vF.F,vG.F,Ea,Eb,Ec,vH.F,vJ.F,Ef,vK.F,vL.F,Eg,Eh,vM.F,Ei,uX,qE,Ej,El,Em,zz,zA,En,qG.F⟩
 exact Mf T
theorem walk{l:T5}{q:Program}{loose:List Str}{XP:(Str->Option Value)->Heap->Prop}{YP:World->Heap->Prop}{d:DefRec}{K:Params->Dk}(hn:l.most=some 63)(hdf:d.params.defaults=[])
  (hY:∀(w:World) (h:Heap),YP w h->(K w.params).In h) (M:∀ns:List Int,ns.length<=63->nG [.lst (ns.map Dat.int)]=some (.val (.bl true))) (hK:∀w:World,BR (K w.params)=true)
  (F:∀ (w:World) (mg:Str→Option Value) (fa:Addr) (h:Heap),(K w.params).In h→h.Ns mainGlobals mg→mg d.name=some (.ref fa) →
   ∃fd:FuncData,(∀(s:Shared) (u:Value),BindsTo s fd ⟨[u],[]⟩ [("script",u)])/\∀base:Heap,(K w.params).In base->base.Ns mainGlobals mg->aW l.prog w (K w.params) mg base CX0 7 fa fd ["script"] (spD nG)) :
  PySem.W.WalkO q loose XP YP l.row.toRowW d [] (fun f vs=>PySem.call f vs):=
 L2.Fq (n:=63) (k:=7) (x := "script") (CX:=fun _=>CX0) (sp:=fun _=>spD nG) hn (by decide) hdf ⟨rfl,by decide,by decide,rfl⟩ hY F
  (fun w H a ns hl hO hS=>Kc (M ns hl) (hK w) hS) fun _ _ _ _ _ z=>z
open PySem PySem.W PySem.W.X
theorem E5{q:Program}{loose:List Str}{XP:(Str->Option Value)->Heap->Prop}{r:RowW}{d:DefRec}{kwd:List (Str×Expr)}{run:Value->List Value->Sem Value}{K:Params->Frag}{as:List Addr}{n t:Nat}(e:∀P,as=(K P).map (·.1))
  (W:WalkO q loose XP (fun w h=>(K w.params).In h) r d kwd run):WalkX q loose XP (obsZ as) (valZ K n t) r d kwd run:=
 fun w s₀ s₁ mg mb G y a o pm cd doc dV kV ho hd Ij hD hmg hg args vals as' L=>W w s₀ s₁ mg mb G (InK.keeps w _ _ (z_facts e y).2.1 L.keeps) a o pm cd doc dV kV ho hd Ij hD hmg hg args vals as'
end Q
noncomputable def PySem.W.Fast.tw7323477895531025763:PySem.Program:=PySem.Challenge.pw_sinceply_k26_hangs_judged
theorem PySem.W.Fast.te7323477895531025763:PySem.Challenge.pw_sinceply_k26_hangs_judged=PySem.W.Fast.tw7323477895531025763:=rfl
namespace PySem.W.Fast
def tw5726452211054290318:=0
def tw16788171144404188722:=0
def tw14951654842751679066:=0
def tw10586026323530812121:=0
def tw6694023109214000935:=0
def tw7200477950676422810:=0
def tw4292841999547545731:=0
def tw7087203252917797673:=0
def tw16547499154227061918:=0
def tw4196407315272624907:=0
def tw14795130376842648141:=0
def tw7500887829209042669:=0
def tw1043629359573137564:=0
def tw856844550159434383:=0
def tw18043099659491599919:=0
def tw3257871541442249680:=0
def tw12123740317530841623:=0
def tw8168923983323289382:=0
def tw8402348603761565558:=0
def tw12477000387652488864:=0
def tw15788568065291176378:=0
def tw11281358475216522601:=0
def tw11601550063933330903:=0
def tw7097334355644326648:=0
def tw13898512336257843581:=0
def tw12667304920201656873:=0
def tw5674875372414896151:=0
def tw8428171653941992678:=0
def tw14191877886046385444:=0
def tw4116505989001562191:=0
def tw9645912862761260244:=0
def tw7878998836045283509:=0
def tw2262106907001025593:=0
def tw11115058917325758702:=0
def tw5093685731991139078:=0
def tw6250671479839232043:=0
def tw8813634052300664261:=0
def tw292361274467216857:=0
def tw694126840402956632:=0
def tw16850210652225162860:=0
def tw4140731586668059000:=0
def tw18103144942582798827:=0
def tw7285623444296016483:=0
def tw18377092563569150425:=0
def tw578243358645363524:=0
def tw4770583747256326298:=0
def tw12762327355462645711:=0
def tw10961235893787279755:=0
def tw3554784628709249894:=0
def tw5067136725660676645:=0
def tw117647280374051966:=0
def tw14606433525153550334:=0
def tw7894967186788252503:=0
def tw2058751249993339204:=0
def tw2154221670726534237:=0
def tw11284646073025758149:=0
def tw17634648171359815021:=0
def tw18052957309384222826:=0
def tw14748994409590612275:=0
def tw12694167400249500575:=0
def tw17998632994296241398:=0
def tw11213967783853022090:=0
def tw11206404626873212659:=0
def tw10383308769758592871:=0
def tw965500184044737715:=0
def tw3693557052763196469:=0
def tw7869656772905522368:=0
def tw15876971507222077736:=0
def tw2641971833659817297:=0
def tw6100164060688361368:=0
def tw4085179262910404568:=0
def tw13480129203765866440:=0
def tw4607971345232659757:=0
def tw11511988461989648371:=0
def tw12463059346470748690:=0
def tw12071955832666889879:=0
def tw17060321915355367431:=0
def tw14990003425882163551:=0
def tw8246341006916159366:=0
def tw1150693709918137500:=0
def tw8869102774245407532:=0
def tw2149424645804064255:=0
def tw12848132124829609009:=0
def tw11857085117825957769:=0
def tw6022375163854301143:=0
def tw2939720202757172338:=0
def tw10434654780672767476:=0
def tw16362145530444630641:=0
def tw17989506912149955647:=0
def tw12946006118375518666:=0
def tw10404880711408220146:=0
def tw7055832048696758008:=0
def tw1907697630095770248:=0
def tw9259659796266043052:=0
def tw14186927528637916290:=0
def tw12721473007590058812:=0
def tw16841436199148279197:=0
def tw3952541431723980412:=0
def tw5314110200905778923:=0
def tw1630148608556190553:=0
def tw9085689424728655514:=0
def tw8924777003030287827:=0
def tw10639189880643386900:=0
def tw17439592503340649450:=0
def tw7967666021893787870:=0
def tw8490109486783134002:=0
def tw12218013847985393201:=0
def tw13507077123852552722:=0
def tw7198813931428593591:=0
def tw4113162402493739070:=0
def tw7668200071220984645:=0
def tw18275008713229166334:=0
def tw15176029913761546189:=0
def tw6797463934180518461:=0
def tw2122808712768081539:=0
def tw2606780965248950176:=0
def tw2062697820429127366:=0
def tw10190500919620034889:=0
def tw13529827957561726088:=0
def tw9259755583192070436:=0
def tw14392057603720689569:=0
def tw14857513679440106408:=0
def tw9662086748287995407:=0
def tw615939824568551855:=0
def tw835984788464046489:=0
def tw3585628414008705995:=0
def tw11627542503496393667:=0
def tw101331722549553051:=0
def tw11821839551671248413:=0
def tw3132320183538393806:=0
def tw13904141739801522856:=0
def tw1502664663209045342:=0
def tw2880134351393005923:=0
def tw10134102988522371464:=0
def tw9412620599459679474:=0
def tw9226293184840847695:=0
def tw18119738391333685119:=0
def tw1457835059763760534:=0
def tw333111788046207681:=0
def tw7087194524875179980:=0
def tw10654053995145146797:=0
def tw14977762187858068907:=0
def tw684852214066690151:=0
def tw14515304393997724958:=0
def tw8560482271069196546:=0
def tw13183126703754304405:=0
def tw5196516095725129951:=0
def tw8261854274696940892:=0
def tw12045606905932862950:=0
def tw10301308645492972645:=0
def tw12913191447512541432:=0
def tw14645766607310266378:=0
def tw6361179176997388731:=0
def tw3546395794976071341:=0
def tw14632644952747266920:=0
def tw14972487015455046586:=0
def tw9844670291685944644:=0
def tw8571904980045876149:=0
def tw5930332673791974665:=0
def tw7726748034615237130:=0
def tw13097949751062532065:=0
def tw17746491983342424320:=0
def tw5524711797798184552:=0
def tw7203800586640916379:=0
def tw4144288359347779187:=0
def tw3140494778320786116:=0
def tw18244709972818489960:=0
def tw9733530310174119339:=0
def tw16903884498138492988:=0
def tw460382102453412791:=0
def tw15901928090827608999:=0
def tw15476525602124331148:=0
def tw16482163364720500761:=0
def tw2457007102712847500:=0
def tw6351604384987415219:=0
def tw12839127788461486304:=0
def tw11789693270228049953:=0
def tw7743885946195949804:=0
def tw13639770466223629937:=0
def tw13177986156267882997:=0
def tw12094028419302053943:=0
def tw2106325966113073546:=0
def tw1989795927511015772:=0
def tw2305733871939911209:=0
def tw18229282511953354706:=0
def tw3129026583766556908:=0
def tw13053684794618702316:=0
def tw14370593472046474954:=0
def tw3087252930007168920:=0
def tw4513292137867626174:=0
def tw3482283315174097576:=0
def tw3389325136998101206:=0
def tw15368795788613530655:=0
def tw9788234494104537241:=0
def tw6505503921019703724:=0
def tw2029955562925685433:=0
def tw16127421555992508031:=0
def tw13322945784147590704:=0
def tw8768620788914360564:=0
def tw18210186787475293432:=0
def tw18315575245667816925:=0
def tw17285111779871968722:=0
def tw15630062934648862765:=0
def tw7499023395903501555:=0
def tw8108902817685313242:=0
def tw7758674921398646942:=0
def tw17036346064459611812:=0
def tw131761835440621931:=0
def tw3879714028147417242:=0
def tw9800637261983249436:=0
def tw1014647835715388983:=0
def tw7752095928485321030:=0
def tw6833024240898766196:=0
def tw11699972919993979733:=0
def tw9528970174775562683:=0
def tw17286886904600761065:=0
def tw12813090984082237166:=0
def tw5632624558759596019:=0
def tw16762922455138468599:=0
def tw7595561824973400399:=0
def tw17490828404189236797:=0
def tw9807563475350735927:=0
def tw11394393720596610227:=0
def tw13167841442179850317:=0
def tw2200203048105933222:=0
def tw1465881599421907971:=0
def tw3243559493834900008:=0
def tw11378197547084070617:=0
def tw17668254151828390210:=0
def tw12717646195660244105:=0
def tw4263670396480372279:=0
def tw4099276846682279051:=0
def tw4036058998003916390:=0
def tw11645314373169139523:=0
def tw12609457183188905387:=0
def tw16953079478416622583:=0
def tw448358392916973535:=0
def tw6722601628531436666:=0
def tw2718145332262857026:=0
def tw2274510093835220613:=0
def tw4961366461616521335:=0
def tw15618202042436542595:=0
def tw13873003470096704742:=0
def tw15509343664561957171:=0
def tw17555451701661207465:=0
def tw4173262781407665325:=0
def tw4647901244273602279:=0
def tw12203343822751214812:=0
end PySem.W.Fast
open PySem PySem.W PyProof.Rows
set_option maxRecDepth 100000 in
set_option maxHeartbeats 0 in
theorem PySem.Challenge.cw_sinceply_k26_hangs_judged_holds : PySem.Challenge.rw_sinceply_k26_hangs_judged.Holds := by
 w_on;o_law;z_head;(case hw=>w_witness2)
 k_fill
 refine' Q.E5 (fun _=>rfl) (Q.walk (l:=PySem.Challenge.rw_sinceply_k26_hangs_judged) rfl rfl (fun w h Y=>Y) P.math ?noL ?fnS)
 case noL=>intro w;rfl
 case fnS=>
  intro w mg fa h KX G hmg
  refine' Q.all_mk KX G hmg ?EF ?EG ?EH ?EI ?EJ ?EK ?EL ?EM ?EN ?EO ?u_ ?vc ?vd ?ve ?vf ?vg ?vh ?vj ?ER ?ES ?ET ?EU ?EV ?vm ?vn ?vo ?vp ?vq ?vt ?vv ?vz ?vA ?vC ?vD ?vE ?vF ?vG ?vH ?vJ ?vK ?vL ?vM ?qG ?EW ?xR ?xS ?EX ?fR ?EY ?xT ?EZ ?E1 ?sC ?E2 ?o7 ?E3 ?E4 ?sD
  case EF|EG|EH|EI|EJ|EK|EL|EM|EN|EO|u_|vc|vd|ve|vf|vg|vh|vj=>refine' Br.aJ ?e ?l ?c ?k;(case e=>k_is);(case l=>k_is);(case c=>k_is);(case k=>k_is)
  case ER|ES|ET|EU|EV=>k_is
  case vm|vn|vo|vp|vq|vt|vv|vz|vA|vC|vD|vE|vF|vG|vH|vJ|vK|vL|vM|qG=>refine' Br.aJ ?e ?l ?c ?k;(case e=>k_is);(case l=>k_is);(case c=>k_is);(case k=>k_is)
  case EW|xR|xS|EX|fR|EY|xT|EZ|E1|sC|E2|o7|E3|E4|sD=>k_is
end
