import PyProof.Rows.All
import Wide.All
import OpenK.AllK
import Wide.FinOn
import Lean
import PyProof.EqAt
import PyProof.EqKinds
import PyProof.TupleCall
import KE.KRevIter
import PyProof.EnumMake
import PyProof.EnumFor
import PyProof.ListRange
import PyProof.Rows.Range3
import PyProof.ZipIter
import PyProof.SumWalk
import PyProof.WalksMore
import PyProof.Rows.SetFrom
import PyProof.SetRoads
import PyProof.Rows.SortRunsK
import PyProof.Rows.SortWalk
import KE.KSortTup
import PyProof.Rows.Own
import PyProof.StationsW
import OpenK.KRaise
import KE.KIsAll
import PyProof.ExcArgsOwn
import PyProof.RulesAs
import PyProof.Ns1
import PyProof.Rows.Catch
import OpenK.KOwn
import PyProof.ExcBaseAll.ValueError
import KE.KDictSum
import PyProof.AttrMiss
import PyProof.IsiH_list
import KE.KDictOf
import PyProof.DictList
import KE.KDictList
import PyProof.FactsAll.set
import PyProof.Rows.TupAdd
import KE.KDictMeth
import PyProof.DictWalks
import PyProof.TupleKey
import PyProof.DictStraight
import PyProof.IsRules
import KE.KRevSl
import PyProof.Rows.CallKwBuiltin
import PyProof.Rows.SortShell
import KE.KSortKey
import KE.KLam
import KE.KNestM
import PyProof.CallStr
import OpenK.KMake
import PyProof.ExcClass2
import PyProof.InstStoreFacts
import OpenK.KCls
import PyProof.DictRoadsH
import PyProof.DictUpdate
import PyProof.DictCopy
import PyProof.MeetsDictList
import PyProof.FactsAll.tuple_1
import PyProof.TupleOfSeq
import KE.KSortAsk
import PySem.Challenge.RW_sinceply_k46_whole_few_places_gone
open Array renaming length_toList→NJ,getElem?_eq_getElem→Og,getElem?_toList→Ou,forIn_toList→OQ,toList_map→OZ
open Bool renaming and_eq_true→MD,false_ne_true→MG,false_eq_true→M4,eq_iff_iff→OD
open Classical renaming byContradiction→Nq,epsilon_spec→N5,epsilon→Oj
open False renaming elim→MZ
open ForInStep renaming yield→ND
open Int renaming toNat_natCast→M7,le_refl→OM,zero_add→Pn
open List renaming map_cons→gc,getElem?_set_ne→gV,mem_cons_of_mem→Dk,mem_cons_self→Ds,length_map→Mj,replicate→Mk,size_toArray→Ml,getElem?_eq_getElem→Mp,getElem?_eq_some_iff→Mq,mem_singleton→Mr,mem_cons→Ms,mem_map→Mt,range→Mv,mem_append→Mw,mem_filter→Mx,map_append→My,getElem?_append_left→Mz,length_append→MA,nodup_cons→MB,getD_eq_getElem?_getD→ME,map_map→MI,mem_append_left→MJ,mem_append_right→MK,getElem?_set_self→MN,filter_cons_of_neg→MQ,mem_range→MR,getElem?_map→MS,length_range→MT,getElem?_append_right→MU,filter_cons_of_pos→MV,length_set→MX,pairwise_map→MY,length_cons→M0,all_eq_true→M3,getElem?_eq_none→M8,lookup_cons→M9,getElem?_replicate→Nb,append_nil→Nc,length_take→Nf,map_congr_left→Ng,nodup_append→Nh,find?_cons→Nj,map_id→Nm,filter_sublist→Nn,any_cons→Nt,flatten_cons→Nx,replicate_succ→Ny,length_filter_le→Nz,mem_of_getElem?→NC,append_assoc→NF,getElem?_cons_succ→NI,getElem?_range→NK,pairwise_cons→NO,length_singleton→NP,pairwise_flatten→NR,drop_eq_getElem_cons→NV,getElem?_take_of_lt→NY,cons_append→N2,getElem?_set→N6,ext_getElem?→N7,length_replicate→N8,map_nil→Ob,filter_eq_self→Od,nil_append→Of,drop_length→Oo,getElem_mem→Ot,set_append_right→Ox,dropLast_sublist→Oz,filterMap_cons→OG,toList_toArray→OH,mem_filterMap→ON,map_inj_right→OP,find?_eq_none→OR,Sublist→O0,nodup_range→O3,of_mem_zip→O5,length_nil→O7,range'→O8,Pairwise→Pd,all_cons→Pf,set_set→Pj,toArray→Pk,map→Po,foldl→Pq
open List.Pairwise renaming imp_of_mem→Nr
open Nat renaming le_refl→Mn,le_of_ble_eq_true→MC,lt_of_lt_of_le→MF,le_trans→MH,ne_of_lt→ML,zero_le→M5,lt_irrefl→NH,lt_succ_of_lt→NT,not_lt→Oc,ne_of_gt→OB,pow_le_pow_right→OE,le_of_lt→OV,le_of_eq→OW,lt_succ_self→OX,zero_add→Ph
open Option renaming isSome_map→NG,isSome_iff_exists→NX,map_eq_some_iff→Om
open PyProof.Rows renaming callWith_type1→NN,slot_tuple_getitem→N3
open PyProof.Rows.SortSt renaming mk'→Pc
open PySem.Builtin renaming bitAnd→OJ
open PySem.Builtin.Dict renaming showsAll→Ow
open PySem.Builtin.List renaming listTooLong→N1
open PySem.Builtin.Slice renaming slicePlaces→NU,sliceAdjust→Oe
open PySem.Builtin.Tuple renaming tupleExact→NZ,tupleHashOf→Oh
open PySem.Calls renaming spliced_nil→Oi,callWith_builtin→Ol,evalArgs_plain→OC,spliced_cons→OO
open PySem.F renaming slot_dict_keyiterator_next→Nv,plainAttrs_list→N4,slot_dict_get→Ov,slot_dict_iter→OY
open PySem.Heap renaming get?_push_of_some→Mm,lt_size→Mu,get?_push_size→MM,get?_update_ne→Np,SameBut→NW,get?_update_self→Oa,size_update→Oq,get?_none_of_le→OA,size_push→Pb
open PySem.Heap.SameBut renaming update→NL
open PySem.NameKind renaming cell→Pe
open PySem.Obj renaming mapSeq→Na
open PySem.PassesOwn renaming never→MP
open PySem.PyData renaming eqv→Nk,depthAll→NQ,eqvAll→OS,canLayAll0→OU
open PySem.Str renaming ofString→N9
open PySem.Value renaming ref→MO,str→Pg,bool→Pp
open PySem.W renaming Frag→Dp,fnOf→M6,nsIn→Nd,kia_one→Ni,kas_item→Nl,keepIn→Nu,codeIn→OL,methodObj→OT,instObj→O4,OpenLaw→O6,lookIn→O9,kitOne→Pa
open Sum renaming inl→MW,inr→OI
open True renaming intro→NB
noncomputable section
set_option Elab.async false
set_option linter.all false

set_option maxRecDepth 100000
local macro_rules|`(tactic|trivial)=>`(tactic|first|exact Or.inl rfl|exact Or.inr rfl|exact Or.inr (Or.inl rfl)|exact Or.inr (Or.inr rfl)|assumption)
local macro_rules|`(tactic|and_intros)=>`(tactic|dsimp only[List.map,List.replicate,List.cons_append,List.nil_append])
namespace L2
open PySem PySem.Spec PyProof.Rows
section
variable{a b:Addr}{H:Hp}{o:HO}
noncomputable abbrev Key:=Sum Int Str
noncomputable def m7:Key->Value->Bool
 |.inl k,v=>Value.isInt k v
 |.inr x,v=>Value.isStrOf x v
noncomputable def K9(w:World):Key->Int
 |.inl k=>hashInt k
 |.inr x=>hashStr w x
theorem bg:∀{k:Key} {v:Value},m7 k v=true->(∃i t,k=MW i/\v=Value.int i t)\/(∃x t,k=OI x/\v=Pg x t)
 |.inl i,v,h=>by obtain⟨t,e⟩:=Value.isInt_shape (k:=i) (v:=v) h;exact .inl ⟨i,t,rfl,e⟩
 |.inr x,v,h=>by obtain⟨t,e⟩:=Value.isStrOf_shape (x:=x) (v:=v) h;exact .inr ⟨x,t,rfl,e⟩
theorem wJ(i:Int)(t:Tok):m7 (.inl i) (.int i t)=true:=by simp[m7,Value.isInt]
theorem wK(x:Str)(t:Tok):m7 (.inr x) (.str x t)=true:=by simp[m7,Value.isStrOf]
theorem Fi(a b:Int):decide ((MW a:Key)=MW b)=(a == b):=by
 by_cases e:a=b
 ·subst e;simp
 ·have h:¬(MW a:Key)=MW b:=fun q=>e (Sum.inl.inj q);rw[decide_eq_false h];exact(beq_eq_false_iff_ne.mpr e).symm
theorem Fj(a b:Str):decide ((OI a:Key)=OI b)=decide (a=b):=by
 by_cases e:a=b
 ·subst e;simp
 ·have h:¬(OI a:Key)=OI b:=fun q=>e (OI.inj q);rw[decide_eq_false h,decide_eq_false e]
theorem Fo(a:Int)(b:Str):decide ((MW a:Key)=OI b)=false:=decide_eq_false (fun q=>nomatch q)
theorem Fq(a:Str)(b:Int):decide ((OI a:Key)=MW b)=false:=decide_eq_false (fun q=>nomatch q)
noncomputable def aF(prog:Program)(w:World):PySem.KeyKind prog w Key where
 is:=m7
 hash:=K9 w
 inj:=fun v a b ha hb=>by
  rcases bg ha with⟨i,t,rfl,rfl⟩ | ⟨x,t,rfl,rfl⟩
  ·rcases bg hb with⟨j,u,rfl,e⟩ | ⟨y,u,rfl,e⟩
   ·injection e with e1 _;rw[e1]
   ·exact nomatch e
  ·rcases bg hb with⟨j,u,rfl,e⟩ | ⟨y,u,rfl,e⟩
   ·exact nomatch e
   ·injection e with e1 _;rw[e1]
 byValue:=fun k v h=>by rcases bg h with⟨i,t,rfl,rfl⟩ | ⟨x,t,rfl,rfl⟩<;>rfl
 pyHash:=fun hv h=>by
  rcases bg hv with⟨i,t,rfl,rfl⟩ | ⟨x,t,rfl,rfl⟩
  ·exact wpAny_pyHash_int h
  ·exact wpAny_pyHash_str h
 eqBool:=fun hu hv h=>by
  rcases bg hu with⟨i,t,rfl,rfl⟩ | ⟨x,t,rfl,rfl⟩
  ·rcases bg hv with⟨j,u,rfl,rfl⟩ | ⟨y,u,rfl,rfl⟩
   ·rw[Fi]at h;exact wpAny_eqBool_int h
   ·rw[Fo]at h;exact SeqAt.EqAt.int_str i t y u _ _ _ _ h
  ·rcases bg hv with⟨j,u,rfl,rfl⟩ | ⟨y,u,rfl,rfl⟩
   ·rw[Fq]at h;exact SeqAt.EqAt.str_int x t j u _ _ _ _ h
   ·rw[Fj]at h;exact wpAny_eqBool_str h
 «strs»:=fun k x t v h=>by
  rcases bg h with⟨i,u,rfl,e⟩ | ⟨y,u,rfl,e⟩
  ·exact nomatch e
  ·injection e with e1 _
   subst e1;cases v<;>rfl
theorem p7(prog:Program)(w:World)(i:Int)(t:Tok):(aF prog w).is (.inl i) (.int i t)=true:=wJ i t
theorem p8(prog:Program)(w:World)(x:Str)(t:Tok):(aF prog w).is (.inr x) (.str x t)=true:=wK x t
inductive V where
 |non | bl (b:Bool) | int (i:Int) | str (x:Str) | byt (b:Array UInt8) | flt (b:UInt64) | ref (a:Addr) | ty (n:String)
 deriving DecidableEq
def RelV:V->Value->Prop
 |.non,u=>u=Value.none
 |.bl b,u=>u=Pp b
 |.int i,u=>∃t,u=Value.int i t
 |.str x,u=>∃t,u=Pg x t
 |.byt b,u=>∃t,u=Value.bytes b t
 |.flt b,u=>∃t,u=Value.float b t
 |.ref a,u=>u=MO a
 |.ty n,u=>u=Value.type n
noncomputable abbrev Vals:List V->List Value->Prop:=Paired RelV
theorem Vals.length{xs:List V}{us:List Value}(r:Vals xs us):xs.length=us.length:=Paired.length r
theorem Vals.get:∀{xs:List V} {us:List Value} {i:Nat} {x:V},Vals xs us->xs[i]?=some x->∃u,us[i]?=some u/\RelV x u
 |_,_,_,_,.nil,e=>by simp at e
 |_,_,0,_,.cons r _,e=>by simp at e;subst e;exact⟨_,rfl,r⟩
 |_,_,i+1,x,.cons _ t,e=>by obtain⟨u,h1,h2⟩:=Vals.get (i:=i) (x:=x) t (by simpa using e);exact⟨u,by simpa using h1,h2⟩
theorem Vals.set{x:V}{u:Value}(r:RelV x u):∀{xs:List V} {us:List Value} (i:Nat),Vals xs us->Vals (xs.set i x) (us.set i u)
 |_,_,_,.nil=>.nil
 |_,_,0,.cons _ t=>.cons r t
 |_,_,i+1,.cons q t=>.cons q (Vals.set r i t)
theorem Vals.append:∀{xs ys:List V} {us ws:List Value},Vals xs us->Vals ys ws->Vals (xs++ys) (us++ws)
 |_,_,_,_,.nil,s=>s
 |_,_,_,_,.cons r t,s=>.cons r (Vals.append t s)
theorem Vals.take:∀{xs:List V} {us:List Value} (n:Nat),Vals xs us->Vals (xs.take n) (us.take n)
 |_,_,0,_=>.nil
 |_,_,_+1,.nil=>.nil
 |_,_,n+1,.cons r t=>.cons r (Vals.take n t)
theorem Vals.drop:∀{xs:List V} {us:List Value} (n:Nat),Vals xs us->Vals (xs.drop n) (us.drop n)
 |_,_,0,r=>r
 |_,_,_+1,.nil=>.nil
 |_,_,n+1,.cons _ t=>Vals.drop n t
def iB:Option V->Option Value->Prop
 |some v,some u=>RelV v u
 |none,none=>True
 |_,_=>False
def KV{κ:Type}:List (κ×V)->List (κ×Value)->Prop:=Paired fun(p:κ×V) (q:κ×Value)=>p.1=q.1/\RelV p.2 q.2
noncomputable def kV:Key->V
 |.inl i=>.int i
 |.inr x=>.str x
inductive HO where
 |lst (xs:List V)
 |tup (xs:List V)
 |dK (kvs:List (Key×V)) | dT (kvs:List (List Key×V)) (ts:List Addr)
 |set (S:Int->Bool) (n:Nat)
 |ins (C dx:Addr) (fs:List (Str×V))
 |own (x:Addr)
 |xd (fs:List (Str×V))
 |met (f x:Addr)
 |rng (lo hi:Int)
 |frz (o:Obj) (u:HO)
 |tbl (ln cl:Value) (q:Str)
 |ext (φ:Heap->Prop)
noncomputable abbrev Hp:=Addr->Option HO
noncomputable def upd(H:Hp)(a:Addr)(o:HO):Hp:=fun b=>if b=a then some o else H b
theorem au{a:Addr}:upd H a o a=some o:=by unfold upd;rw[if_pos rfl]
theorem ak(h:b≠a):upd H a o b=H b:=by unfold upd;rw[if_neg h]
theorem D5{o u:HO}(h:H a=some o)(h':H b=some u)(d:o≠u):a≠b:=by intro e;subst e;rw[h]at h';exact d (Option.some.inj h')
theorem aE(h:H a=some o)(h':H b=none):a≠b:=by intro e;subst e;rw[h]at h';cases h'
end
section
variable(P:Program)(w:World)
def aO(H:Hp)(h:Heap)(a:Addr):HO->Prop
 |.lst xs=>xs.length<=sizeLine/\∃(its:List Value) (n:Nat),Vals xs its/\h.get? a=some { cls:=.type "list",data:=.seq its.toArray n }
 |.tup xs=>xs.length<=sizeLine/\∃its:List Value,Vals xs its/\IsTup h a its.toArray
 |.dK kvs=>kvs.length<=sizeLine/\(a == sysModules)=false/\∃vs,KV kvs vs/\h.DictOf (aF P w) a vs
 |.dT kvs ts=>kvs.length<=sizeLine/\(a == sysModules)=false/\∃xs:List (List Key×Addr×Value),
   Paired (fun(p:List Key×V) (q:List Key×Addr×Value)=>p.1=q.1/\H q.2.1=some (.tup (p.1.map kV))/\RelV p.2 q.2.2) kvs xs /\
   ∃o es ep,h.get? a=some o/\o.ExactDict/\o.data=.dict es ep/\es.toList=xs.map (entryOfKey (tupleKind (aF P w)))/\(xs.map (·.1)).Nodup/\xs.map (·.2.1)=ts
 |.set S n=>h.SetOf (intKind P w) a S n
 |.ins C dx fs=>H dx=some (.own a)/\fs.length<=1000/\dx≠a/\h.get? a=some (O4 C dx) /\
   ∃mA,h.Ns1 dx mA/\(∀f,iB (fs.lookup f) (mA f))/\PySem.Within mA (fs.map (·.1))
 |.own _=>∃o,h.get? a=some o
 |.xd fs=>∃mA,h.Ns1 a mA/\∀f,iB (fs.lookup f) (mA f)
 |.rng lo hi=>∃t u v,h.get? a=some { cls:=.type "range",data:=.fields #[.int lo t,.int hi u,.int 1 v] }
 |.frz o u=>h.get? a=some o/\aO H h a u
 |.tbl ln cl q=>∃ps:Array Value,h.get? a=some { cls:=.none,data:=.fields ps }/\(ps=#[]\/∃(c:Addr) (oc:Obj) (vs:Array Value) (t:Tok),ps=#[ln,cl,.ref c]/\H c=some (.frz oc (.own a))/\oc.data=.fields vs/\vs[1]?=some (.str q t))
 |.met f x=>h.get? a=some (OT (.ref f) (.ref x))
 |.ext φ=>φ h/\(∃o,h.get? a=some o)/\∀h1 h2:Heap,φ h1->(∀o,h1.get? a=some o->h2.get? a=some o)->φ h2
def HOk(H:Hp)(h:Heap):Prop:=∀a o,H a=some o->aO P w H h a o
end
section
variable{P:Program}{w:World}{H H':Hp}{h h':Heap}{a:Addr}{o:HO}
theorem aO.lt(x:aO P w H h a o):a<h.objs.size:=by
 cases o with
 |lst xs=>obtain⟨_,_,_,_,e⟩:=x;exact Mu e
 |tup xs=>obtain⟨_,_,_,p⟩:=x;exact p.lt
 |dK kvs=>obtain⟨_,_,_,_,o,_,_,e,_⟩:=x;exact Mu e
 |dT kvs ts=>obtain⟨_,_,_,_,o,_,_,e,_⟩:=x;exact Mu e
 |set S n=>obtain⟨o,_,_,_,e,_⟩:=x;exact Mu e
 |ins C dx fs=>obtain⟨_,_,_,e,_⟩:=x;exact Mu e
 |own y=>obtain⟨_,e⟩:=x;exact Mu e
 |xd fs=>obtain⟨_,⟨_,_,_,e,_⟩,_⟩:=x;exact Mu e
 |rng lo hi=>obtain⟨_,_,_,e⟩:=x;exact Mu e
 |frz ob u=>obtain⟨e,_⟩:=x;exact Mu e
 |tbl ln cl q=>obtain⟨_,e,_⟩:=x;exact Mu e
 |met f y=>exact Mu (show h.get? a=some _ from x)
 |ext φ=>obtain⟨_,⟨_,e⟩,_⟩:=x;exact Mu e
theorem Paired.Ft{α β:Type}{F G:α->β->Prop}:∀{l₁:List α} {l₂:List β},Paired F l₁ l₂->(∀a b,F a b->G a b)->Paired G l₁ l₂
 |_,_,.nil,_=>.nil
 |_,_,.cons r t,f=>.cons (f _ _ r) (Paired.Ft t f)
theorem aO.stay(x:aO P w H h a o)(k:∀b u,(b=a\/H b=some (.own a))->h.get? b=some u->h'.get? b=some u)
  (ho:∀b,H b=some (.own a)->H' b=some (.own a)) (hf:∀b o c,H b=some (.frz o (.own c))->H' b=some (.frz o (.own c))) (ht:∀b xs,H b=some (.tup xs)->H' b=some (.tup xs)):aO P w H' h' a o:=by
 induction o with
 |lst xs=>obtain⟨z,its,n,r,e⟩:=x;exact⟨z,its,n,r,k _ _ (.inl rfl) e⟩
 |tup xs=>obtain⟨z,its,r,ob,e,c⟩:=x;exact⟨z,its,r,ob,k _ _ (.inl rfl) e,c⟩
 |dK kvs=>obtain⟨z,y,vs,r,ob,es,ep,e,c⟩:=x;exact⟨z,y,vs,r,ob,es,ep,k _ _ (.inl rfl) e,c⟩
 |dT kvs ts=>obtain⟨z,y,xs,r,ob,es,ep,e,c⟩:=x;exact⟨z,y,xs,Paired.Ft r fun p q z=>⟨z.1,ht _ _ z.2.1,z.2.2⟩,ob,es,ep,k _ _ (.inl rfl) e,c⟩
 |set S n=>obtain⟨ob,es,ep,t,e,c⟩:=x;exact⟨ob,es,ep,t,k _ _ (.inl rfl) e,c⟩
 |ins C dx fs=>obtain⟨d,z,ne,e,mA,⟨od,es,ep,e2,c⟩,r⟩:=x;exact⟨ho _ d,z,ne,k _ _ (.inl rfl) e,mA,⟨od,es,ep,k _ _ (.inr d) e2,c⟩,r⟩
 |own y=>obtain⟨ob,e⟩:=x;exact⟨ob,k _ _ (.inl rfl) e⟩
 |xd fs=>obtain⟨mA,⟨od,es,ep,e,c⟩,r⟩:=x;exact⟨mA,⟨od,es,ep,k _ _ (.inl rfl) e,c⟩,r⟩
 |rng lo hi=>obtain⟨t,u,v,e⟩:=x;exact⟨t,u,v,k _ _ (.inl rfl) e⟩
 |frz ob u ih=>obtain⟨e,q⟩:=x;exact⟨k _ _ (.inl rfl) e,ih q⟩
 |tbl ln cl q=>
  obtain⟨ps,e,d⟩:=x;refine⟨ps,k _ _ (.inl rfl) e,?_⟩;rcases d with d | ⟨c,oc,vs,t,d,d2,d3⟩
  ·exact .inl d
  ·exact .inr ⟨c,oc,vs,t,d,hf _ _ _ d2,d3⟩
 |met f y=>have e:h.get? a=some (OT (.ref f) (.ref y)):=x;show h'.get? a=some (OT (.ref f) (.ref y));exact k a _ (.inl rfl) e
 |ext φ=>obtain⟨p,⟨o,e⟩,st⟩:=x;exact⟨st _ _ p fun o q=>k _ _ (.inl rfl) q,⟨o,k _ _ (.inl rfl) e⟩,st⟩
theorem HOk.lt(x:HOk P w H h)(e:H a=some o):a<h.objs.size:=(x a o e).lt
theorem HOk.fresh(x:HOk P w H h)(e:h.objs.size<=a):H a=none:=by
 cases q:H a with
 |none=>rfl
 |some u=>exact absurd (MF (x.lt q) e) (NH _)
theorem HOk.kept(x:HOk P w H h)(k:∀b u,h.get? b=some u->h'.get? b=some u):HOk P w H h':=fun a o e=>(x a o e).stay (fun b u _ q=>k b u q) (fun _ q=>q) (fun _ _ _ q=>q) fun _ _ q=>q
theorem HOk.laid(x:HOk P w H h)(k:∀b u,h.get? b=some u->h'.get? b=some u)(hp:h.objs.size<=a)(new:aO P w (upd H a o) h' a o):HOk P w (upd H a o) h':=fun b u e=>by
 have hn:=x.fresh hp;by_cases hb:b=a
 ·subst hb;rw[au]at e;cases e;exact new
 ·rw[ak hb]at e;exact(x b u e).stay (fun c v _ q=>k c v q) (fun c q=>by rw[ak (aE q hn)];exact q) (fun c _ _ q=>by rw[ak (aE q hn)];exact q) fun c xs q=>by rw[ak (aE q hn)];exact q
end
def Rd(H:Hp)(a:Addr)(u:HO):Prop:=H a=some u\/∃o,H a=some (.frz o u)
theorem Rd.ok{P:Program}{w:World}{H:Hp}{h:Heap}{a:Addr}{u:HO}(r:Rd H a u)(x:HOk P w H h):aO P w H h a u:=by
 rcases r with r | ⟨o,r⟩
 ·exact x a u r
 ·obtain⟨_,q⟩:=x a _ r;exact q
def Mut:Option HO->Prop
 |some (.lst _)=>True
 |some (.dK _)=>True
 |some (.dT _ _)=>True
 |some (.set _ _)=>True
 |some (.ins _ _ _)=>True
 |some (.ext _)=>True
 |_=>False
section
variable{P:Program}{w:World}{H:Hp}{h h':Heap}{x e:Addr}{o':HO}
theorem HOk.write(ok:HOk P w H h)(mu:Mut (H x))(he:e=x\/H e=some (.own x))(k:∀b u,b≠e->h.get? b=some u->h'.get? b=some u)(heo:∃u,h'.get? e=some u)
  (new:aO P w (upd H x o') h' x o'):HOk P w (upd H x o') h':=fun b u q=>by
 have IF:∀c y,H c=some (.own y)->c≠x:=fun c y r z=>by subst z;rw[r]at mu;exact mu
 have K_:∀c xs,H c=some (.tup xs)->c≠x:=fun c xs r z=>by subst z;rw[r]at mu;exact mu
 have La:∀c o y,H c=some (.frz o y)->c≠x:=fun c o y r z=>by subst z;rw[r]at mu;exact mu
 by_cases hb:b=x
 ·subst hb;rw[au]at q;cases q;exact new
 ·rw[ak hb]at q;by_cases hbe:b=e
  ·have q':H b=some (.own x):=by
    rcases he with z | z
    ·exact absurd (hbe.trans z) hb
    ·rw[hbe];exact z
   rw[q]at q';cases q';obtain⟨v,hv⟩:=heo;exact⟨v,by rw[hbe];exact hv⟩
  ·refine(ok b u q).stay (fun c v hc r=>k c v ?_ r) (fun c r=>by rw[ak (IF c b r)];exact r) (fun c _ _ r=>by rw[ak (La c _ _ r)];exact r) fun c xs r=>by rw[ak (K_ c xs r)];exact r
   rcases hc with rfl | hc
   ·exact hbe
   ·rintro rfl;rcases he with z | z
    ·exact IF c b hc z
    ·rw[hc]at z;cases z;exact hb rfl
end
structure Un(fs ex:List Addr)(H H':Hp)(h h':Heap):Prop where
 keep:∀b o,h.get? b=some o->H b=none->b∉fs->b∉ex->h'.get? b=some o
 slot:∀b o,h.get? b=some o->H b=none->b∈fs->b∉ex->∃sl,h'.get? b=some { o with slots:=sl }
 free:∀b o,h.get? b=some o->H b=none->b∉ex->H' b=none
 there:∀b o,h.get? b=some o->b∉ex->∃o',h'.get? b=some o'
 tups:∀b xs,H b=some (.tup xs)->H' b=some (.tup xs)
 mK:∀b o u,H b=some (.frz o u)->H' b=some (.frz o u)
 oF:∀b x y z,H b=some (.tbl x y z)->H' b=some (.tbl x y z)
section
variable{fs fs' ex ex':List Addr}{H H1 H2:Hp}{h h1 h2 h':Heap}{a x e:Addr}{o:HO}
theorem Un.any(u:Un fs ex H H1 h h1){b:Addr}{ob:Obj}(q:h.get? b=some ob)(n:H b=none)(hx:b∉ex):∃sl,h1.get? b=some { ob with slots:=sl }:=by
 by_cases hb:b∈fs
 ·exact u.slot b ob q n hb hx
 ·exact⟨ob.slots,u.keep b ob q n hb hx⟩
theorem Un.kept(k:∀b u,h.get? b=some u->h'.get? b=some u):Un fs ex H H h h':=
 ⟨fun b ob q _ _ _=>k b ob q,fun b ob q _ _ _=>⟨ob.slots,k b ob q⟩,fun _ _ _ n _=>n,fun b ob q _=>⟨ob,k b ob q⟩,fun _ _ q=>q,fun _ _ _ q=>q,fun _ _ _ _ q=>q⟩
theorem Un.refl:Un fs ex H H h h:=Un.kept fun _ _ q=>q
theorem Un.laid(k:∀b u,h.get? b=some u->h'.get? b=some u)(hp:h.objs.size<=a)(hn:H a=none):Un fs ex H (upd H a o) h h' where
 keep:=fun b u q _ _ _=>k b u q
 slot:=fun b u q _ _ _=>⟨u.slots,k b u q⟩
 free:=fun b u q n _=>by rw[ak (ML (MF (Mu q) hp))];exact n
 there:=fun b u q _=>⟨u,k b u q⟩
 tups:=fun b xs q=>by rw[ak (aE q hn)];exact q
 mK:=fun b u xs q=>by rw[ak (aE q hn)];exact q
 oF:=fun b _ _ _ q=>by rw[ak (aE q hn)];exact q
theorem Un.write(mu:Mut (H x))(he:e=x\/H e=some (.own x))(k:∀b u,b≠e->h.get? b=some u->h'.get? b=some u)(heo:∃u,h'.get? e=some u):Un fs ex H (upd H x o) h h':=by
 have hx:∀b,H b=none->b≠x:=fun b n z=>by subst z;rw[n]at mu;exact mu
 have hb:∀b,H b=none->b≠e:=fun b n z=>by
  subst z;rcases he with r | r
  ·exact hx b n r
  ·rw[n]at r;cases r
 have hm:∀b u,H b=some u->¬Mut (some u)->b≠x:=fun b u q nm z=>by subst z;rw[q]at mu;exact nm mu
 refine ⟨fun b u q n _ _=>k b u (hb b n) q,fun b u q n _ _=>⟨u.slots,k b u (hb b n) q⟩,fun b u q n _=>by rw [ak (hx b n)];exact n,fun b u q _=>?_,
  fun b xs q=>by rw[ak (hm b _ q fun z=>z)];exact q,fun b u xs q=>by rw[ak (hm b _ q fun z=>z)];exact q,fun b _ _ _ q=>by rw[ak (hm b _ q fun z=>z)];exact q⟩
 by_cases hbe:b=e
 ·subst hbe;exact heo
 ·exact⟨u,k b u hbe q⟩
end
section
variable{b:Addr}{h:Heap}{o:Obj}{H:Hp}
noncomputable def trk(h:Heap)(H:Hp):List Addr:=(Mv h.objs.size).filter fun a=>(H a).isSome
noncomputable def oG(h:Heap)(H:Hp):Heap:=PySem.W.hideAll h (trk h H)
theorem wL(h:Heap)(H:Hp):(oG h H).objs.size=h.objs.size:=PySem.W.hideAll_size _ _
theorem x9(e:h.get? b=some o)(n:H b=none):(oG h H).get? b=some o:=
 PySem.W.hideAll_get _ e fun hm=>by have q:(H b).isSome=true:=(Mx.mp hm).2;rw[n]at q;simp at q
theorem BC(e:(oG h H).get? b=some o):h.get? b=some o/\H b=none:=by
 have e':h.get? b=some o:=PySem.W.of_hideAll (trk h H) e;refine⟨e',?_⟩;cases q:H b with
 |none=>rfl
 |some x=>have hm:b∈trk h H:=Mx.mpr ⟨MR.mpr (Mu e'),by simp[q]⟩;have z:(oG h H).get? b=none:=PySem.W.hideAll_none (trk h H) hm;rw[z]at e;cases e
structure Mod(K:Dp)(mg:Str->Option Value)(base:Heap):Prop where
 kin:K.In base
 glob:base.Ns mainGlobals mg
 blt:∃mb,base.Ns builtinsNs mb/\∀x:Str,x ≠ "__name__" -> mb x=bootBuiltins x
 nolimit:base.NoLimit
structure Cx where
 prog:Program
 w:World
 K:Dp
 mg:Str->Option Value
 base:Heap
 A:Around
 N:List Str
 s₀:Shared
 H₀:Hp
 env:Env
 outer:List Env
 stack:List Env
 ex:List Addr
 fn:Str->Bool
 calm:Bool
 pn:List (Addr×Obj)
 xe:Value->Shared->Prop
noncomputable def frs(l:List Env):List Addr:=l.filterMap (·.frame)
noncomputable abbrev Cx.fs(X:Cx):List Addr:=frs X.outer
def Vis(sc:Scope)(x:Str):Prop:=sc.names.lookup x=some .local\/sc.names.lookup x=some .cell\/sc.names.lookup x=some .free
def Loc(sc:Scope)(x:Str):Prop:=sc.names.lookup x=some .local\/sc.names.lookup x=some .cell
def Look(env:Env)(h:Heap)(m:Str->Option Value)(x:Str)(u:Value):Prop:=
 (env.kindOf x=some .local/\m x=some u)\/((env.kindOf x=some .cell\/env.kindOf x=some .free)/\∃c,env.cells.lookup x=some c/\h.IsCell c (some u))
structure Cx.Ok(X:Cx):Prop where
 mod:Mod X.K X.mg X.base
 kind:X.env.scope.kind=.function
 glob:X.env.globals=mainGlobals
 blt:X.env.builtins=builtinsNs
 above:X.s₀.heap.objs.size<=X.env.locals
 inj:∀x y c,X.env.cells.lookup x=some c->X.env.cells.lookup y=some c->x=y
 has:∀x,(X.env.kindOf x=some .cell\/X.env.kindOf x=some .free)->∃c,X.env.cells.lookup x=some c
 cab:∀x c,X.fn x=true->X.env.cells.lookup x=some c->X.s₀.heap.objs.size<=c
 hd:X.calm=true->X.A.handled=none
 frames:X.A.frames=some X.stack
 stk:X.stack=X.outer\/(X.stack=X.env::X.outer/\X.env.frame=some X.env.locals)
 exf:∀b∈X.ex,b≠X.env.locals/\∀x c,X.env.cells.lookup x=some c->c≠b
 bs:∀b o,X.base.get? b=some o->X.s₀.heap.get? b=some o/\X.H₀ b=none
 bsz:X.base.objs.size<=X.s₀.heap.objs.size
 x_:∀b o,X.base.get? b=some o->b∉X.ex
 BE:∀b∈X.ex,b∉X.fs
 jY:X.s₀.heap.FunFrames X.base X.outer
 frf:∀b∈X.fs,X.H₀ b=none
structure Inv(X:Cx)(mW:List (Addr×Obj))(σ:List (Option V))(H:Hp)(s:Shared):Prop where
 ok:X.Ok
 os:s.os=X.s₀.os
 bare:AllBare s.gens
 base:Un X.fs X.ex X.H₀ H X.s₀.heap s.heap
 loc:∃m,s.heap.Ns X.env.locals m/\∀(i:Nat) (x:Str) (v:V),X.N[i]?=some x->σ[i]?=some (some v)->Vis X.env.scope x->∃u,RelV v u/\Look X.env s.heap m x u
 cell:∀x c,X.env.cells.lookup x=some c->∃v,s.heap.IsCell c v
 free:H X.env.locals=none
 fm:∀x c,X.env.cells.lookup x=some c->H c=none
 pin:∀p∈X.pn++mW,s.heap.get? p.1=some p.2/\H p.1=none/\p.1≠X.env.locals/\p.1∉X.fs/\∀v,p.2.data≠.cell v
 hok:HOk X.prog X.w H s.heap
 len:σ.length=X.N.length
end
section
variable{X:Cx}{mW:List (Addr×Obj)}{σ:List (Option V)}{H H':Hp}{s:Shared}{h':Heap}
section
variable{ch:List Addr}{x:Str}{u:Value}{a:Addr}{t':Nat}{i:Nat}{v:V}
theorem Cx.Ok.Lb(ok:X.Ok){b:Addr}{o:Obj}(e:X.base.get? b=some o):b∉X.fs:=fun hb=>by have:=(ok.jY.mem hb).1;rw[e]at this;cases this
theorem Inv.bs(I:Inv X mW σ H s):∀b o,X.base.get? b=some o->s.heap.get? b=some o/\H b=none:=fun b o e=>⟨I.base.keep b o (I.ok.bs b o e).1 (I.ok.bs b o e).2 (I.ok.Lb e) (I.ok.x_ b o e),I.base.free b o (I.ok.bs b o e).1 (I.ok.bs b o e).2 (I.ok.x_ b o e)⟩
theorem Inv.bk(I:Inv X mW σ H s):∀b o,X.base.get? b=some o->s.heap.get? b=some o:=fun b o e=>(I.bs b o e).1
theorem Inv.mod(I:Inv X mW σ H s):Mod X.K X.mg X.base:=I.ok.mod
theorem Inv.kIn(I:Inv X mW σ H s):X.K.In s.heap:=I.ok.mod.kin.keeps I.bk
theorem Inv.lt(I:Inv X mW σ H s):X.env.locals<s.heap.objs.size:=let ⟨_,hn,_⟩:=I.loc;hn.lt
theorem Inv.sz(I:Inv X mW σ H s):X.s₀.heap.objs.size<=s.heap.objs.size:=MH I.ok.above (OV I.lt)
theorem Inv.Lc(I:Inv X mW σ H s)(h:s.heap.objs.size<=a):a∉X.fs:=fun hb=>by obtain⟨_,o,ho,_⟩:=I.ok.jY.mem hb;exact absurd (MF (Mu ho) (MH I.sz h)) (NH _)
theorem Inv.cne(I:Inv X mW σ H s):∀x c,X.env.cells.lookup x=some c->c≠X.env.locals:=fun x c e z=>by obtain⟨v,o,ho,hd⟩:=I.cell x c e;obtain⟨m,⟨o',es,ep,ho',hd',_⟩,_⟩:=I.loc;rw[z,ho']at ho;cases ho;rw[hd']at hd;cases hd
theorem Inv.jY(I:Inv X mW σ H s):s.heap.FunFrames X.base X.outer:=by
 have all:∀(l:List Env),(∀b∈frs l,b∈X.fs)->X.s₀.heap.FunFrames X.base l->s.heap.FunFrames X.base l:=by
  intro l
  induction l with
  |nil=>intro _ _;trivial
  |cons env r ih=>intro hs hl;obtain⟨hk,⟨L,o,hf,hn,ho,hd⟩,hr⟩:=hl;have hL:L∈X.fs:=hs L (by unfold frs;rw[OG,hf];exact Ds);obtain⟨sl,e⟩:=I.base.slot L o ho (I.ok.frf L hL) hL fun z=>I.ok.BE L z hL;exact⟨hk,⟨L,_,hf,hn,e,hd⟩,ih (fun b hb=>hs b (by unfold frs;rw[OG,hf];exact Dk _ hb)) hr⟩
 exact all X.outer (fun _ hb=>hb) I.ok.jY
theorem Inv.stack(I:Inv X mW σ H s):s.heap.FunFrames X.base X.stack:=by
 rcases I.ok.stk with e | ⟨e,hf⟩
 ·rw[e];exact I.jY
 ·rw[e];obtain⟨m,hn,_⟩:=I.loc;refine .cons (by rw[I.ok.kind];decide) hf hn ?_ I.jY;exact OA (MH I.ok.bsz I.ok.above)
theorem Inv.tu(I:Inv X mW σ H s):∀b∈frs X.stack,b∈X.env.locals::X.fs:=fun b hb=>by
 rcases I.ok.stk with e | ⟨e,hf⟩
 ·rw[e]at hb;exact Dk _ hb
 ·rw[e]at hb;unfold frs at hb;rw[OG,hf]at hb;exact hb
theorem Inv.u6(I:Inv X mW σ H s):∀b∈frs X.stack,H b=none:=fun b hb=>by
 rcases Ms.mp (I.tu b hb) with e | hb
 ·rw[e];exact I.free
 ·obtain⟨_,o,ho,_⟩:=I.ok.jY.mem hb;exact I.base.free b o ho (I.ok.frf b hb) fun z=>I.ok.BE b z hb
theorem Inv.step{g':Array GenState}{t':Nat}{d':Drawn}{ch:List Addr}(I:Inv X mW σ H s)
  (hch:∀b∈ch,(b∈X.ex\/X.s₀.heap.objs.size<=b)/\b≠X.env.locals/\(∀x c,X.env.cells.lookup x=some c->c≠b)/\∀p∈X.pn++mW,p.1≠b)
  (keep:∀b o,b≠X.env.locals->b∉X.fs->b∉ch->s.heap.get? b=some o->H b=none->h'.get? b=some o)
  (slot:∀b o,b≠X.env.locals->b∈X.fs->b∉ch->s.heap.get? b=some o->H b=none->∃sl,h'.get? b=some { o with slots:=sl }) (free:∀b o,b∉ch->s.heap.get? b=some o->H b=none->H' b=none)
  (there:∀b o,b∉ch->s.heap.get? b=some o->∃o',h'.get? b=some o')
  (tups:∀b xs,H b=some (.tup xs)->H' b=some (.tup xs)) (mK:∀b o u,H b=some (.frz o u)->H' b=some (.frz o u)) (oF:∀b x y z,H b=some (.tbl x y z)->H' b=some (.tbl x y z))
  (ns:∀m,s.heap.Ns X.env.locals m->h'.Ns X.env.locals m) (hok:HOk X.prog X.w H' h') (hg:AllBare g') :
  Inv X mW σ H' { s with heap:=h',gens:=g',drawn:=d',toks:=t' }:=by
 have neL:∀b o,X.s₀.heap.get? b=some o->b≠X.env.locals:=fun b o e=>ML (MF (Mu e) I.ok.above);have neC:∀b o,X.s₀.heap.get? b=some o->b∉X.ex->b∉ch:=fun b o e hx hb=>by
  rcases (hch b hb).1 with z | z
  ·exact hx z
  ·exact absurd (MF (Mu e) z) (NH _)
 have cellK:∀x c,X.env.cells.lookup x=some c->∀v,s.heap.IsCell c v->h'.IsCell c v:=fun x c e v ⟨o,ho,hd⟩=>by
  have nch:c∉ch:=fun z=>(hch c z).2.2.1 x c e rfl;by_cases hc:c∈X.fs
  ·obtain⟨sl,q⟩:=slot c o (I.cne x c e) hc nch ho (I.fm x c e);exact⟨_,q,hd⟩
  ·exact⟨o,keep c o (I.cne x c e) hc nch ho (I.fm x c e),hd⟩
 refine⟨I.ok,I.os,hg,⟨fun b o e n hb hx=>?_,fun b o e n hb hx=>?_,fun b o e n hx=>?_,fun b o e hx=>?_,fun b xs e=>tups b xs (I.base.tups b xs e),fun b o xs e=>mK b o xs (I.base.mK b o xs e),fun b x y z e=>?_⟩,?_,fun x c e=>?_,?_,fun x c e=>?_,fun p hp=>?_,hok,I.len⟩
 ·exact keep b o (neL b o e) hb (neC b o e hx) (I.base.keep b o e n hb hx) (I.base.free b o e n hx)
 ·obtain⟨sl,e1⟩:=I.base.slot b o e n hb hx;obtain⟨sl',e2⟩:=slot b _ (neL b o e) hb (neC b o e hx) e1 (I.base.free b o e n hx);exact⟨sl',e2⟩
 ·obtain⟨o',e1⟩:=I.base.there b o e hx;exact free b o' (neC b o e hx) e1 (I.base.free b o e n hx)
 ·obtain⟨o',e1⟩:=I.base.there b o e hx;exact there b o' (neC b o e hx) e1
 ·exact oF _ _ _ _ (I.base.oF _ _ _ _ e)
 ·obtain⟨m,hn,hl⟩:=I.loc;refine⟨m,ns m hn,fun i x v e1 e2 e3=>?_⟩;obtain⟨u,r,l⟩:=hl i x v e1 e2 e3;refine⟨u,r,?_⟩;rcases l with l | ⟨k,c,e,z⟩
  ·exact .inl l
  ·exact .inr ⟨k,c,e,cellK x c e _ z⟩
 ·obtain⟨v,z⟩:=I.cell x c e;exact⟨v,cellK x c e v z⟩
 ·obtain⟨m,⟨o,_,_,ho,_⟩,_⟩:=I.loc;exact free _ o (fun z=>(hch _ z).2.1 rfl) ho I.free
 ·obtain⟨v,o,ho,hd⟩:=I.cell x c e;exact free c o (fun z=>(hch c z).2.2.1 x c e rfl) ho (I.fm x c e)
 ·obtain⟨e,n,ne,nf,d⟩:=I.pin p hp;have nch:p.1∉ch:=fun z=>(hch p.1 z).2.2.2 p hp rfl;exact⟨keep p.1 p.2 ne nf nch e n,free p.1 p.2 nch e n,ne,nf,d⟩
theorem Inv.un(I:Inv X mW σ H s)(u:Un X.fs [] H H' s.heap h')(hok:HOk X.prog X.w H' h'):Inv X mW σ H' { s with heap:=h',toks:=t' }:=by
 obtain⟨m,⟨o,es,ep,ho,r⟩,_⟩:=id I.loc;obtain⟨sl,hL⟩:=u.any ho I.free (by simp);exact I.step (g':=s.gens) (d':=s.drawn) (ch:=[]) (fun _ z=>nomatch z) (fun b o _ hb _ e n=>u.keep b o e n hb (by simp)) (fun b o _ hb _ e n=>u.slot b o e n hb (by simp)) (fun b o _ e n=>u.free b o e n (by simp)) (fun b o _ e=>u.there b o e (by simp)) u.tups u.mK u.oF (fun m' hm=>by obtain⟨o',es',ep',ho',r'⟩:=hm;rw[ho]at ho';cases ho';exact⟨_,es',ep',hL,r'⟩) hok I.bare
theorem Inv.call{g':Array GenState}{t':Nat}{d':Drawn}(I:Inv X mW σ H s)(u:Un (frs X.stack) ch H H' s.heap h')(hok:HOk X.prog X.w H' h')(hg:AllBare g')
  (hch:∀b∈ch,(b∈X.ex\/X.s₀.heap.objs.size<=b)/\b≠X.env.locals/\(∀x c,X.env.cells.lookup x=some c->c≠b)/\∀p∈X.pn++mW,p.1≠b) :
  Inv X mW σ H' { s with heap:=h',gens:=g',drawn:=d',toks:=t' }:=by
 obtain⟨m,⟨o,es,ep,ho,r⟩,_⟩:=id I.loc;obtain⟨sl,hL⟩:=u.any ho I.free fun z=>(hch _ z).2.1 rfl;exact I.step (ch:=ch) hch (fun b o hL hb hc e n=>u.keep b o e n (fun z=>(Ms.mp (I.tu b z)).elim hL hb) hc) (fun b o _ _ hc e n=>u.any e n hc) (fun b o hc e n=>u.free b o e n hc) (fun b o hc e=>u.there b o e hc) u.tups u.mK u.oF (fun m' hm=>by obtain⟨o',es',ep',ho',r'⟩:=hm;rw[ho]at ho';cases ho';exact⟨_,es',ep',hL,r'⟩) hok hg
theorem Inv.turned{t':Nat}{it:Addr}(I:Inv X mW σ H s)(k:∀b o,b≠it->s.heap.get? b=some o->h'.get? b=some o)(hn:H it=none)(hL:it≠X.env.locals)
  (h1:it∈X.ex\/X.s₀.heap.objs.size<=it) (h2:∀x c,X.env.cells.lookup x=some c->c≠it) (h3:∀p∈X.pn++mW,p.1≠it):Inv X mW σ H { s with heap:=h',toks:=t' }:=by
 have nit:∀b u,H b=some u->b≠it:=fun b u e z=>by rw[z,hn]at e;cases e
 refine I.step (g':=s.gens) (d':=s.drawn) (ch:=[it]) (fun b hb=>?_) (fun b o _ _ hc e _=>k b o (fun z=>hc (by simp[z])) e) (fun b o _ _ hc e _=>⟨o.slots,k b o (fun z=>hc (by simp[z])) e⟩) (fun _ _ _ _ n=>n)
  (fun b o hc e=>⟨o,k b o (fun z=>hc (by simp[z])) e⟩) (fun _ _ e=>e) (fun _ _ _ e=>e) (fun _ _ _ _ e=>e) (fun m hm=>?_) (fun b u e=>?_) I.bare
 ·have e:b=it:=by simpa using hb
  subst e;exact⟨h1,hL,h2,h3⟩
 ·obtain⟨o,es,ep,ho,r⟩:=hm;exact⟨o,es,ep,k _ o (Ne.symm hL) ho,r⟩
 ·refine(I.hok b u e).stay (fun c v hc q=>k c v ?_ q) (fun _ q=>q) (fun _ _ _ q=>q) fun _ _ q=>q;rcases hc with z | z
  ·rw[z];exact nit b u e
  ·exact nit c _ z
theorem Inv.tok(I:Inv X mW σ H s)(t:Nat):Inv X mW σ H { s with toks:=t }:=I.un (h':=s.heap) (t':=t) Un.refl I.hok
theorem Inv.kept(I:Inv X mW σ H s)(k:∀b u,s.heap.get? b=some u->h'.get? b=some u):Inv X mW σ H { s with heap:=h',toks:=t' }:=I.un (Un.kept k) (I.hok.kept k)
theorem Inv.laid{o:HO}{t':Nat}(I:Inv X mW σ H s)(k:∀b u,s.heap.get? b=some u->h'.get? b=some u)(hp:s.heap.objs.size<=a)(new:aO X.prog X.w (upd H a o) h' a o) :
  Inv X mW σ (upd H a o) { s with heap:=h',toks:=t' }:=I.un (Un.laid k hp (I.hok.fresh hp)) (I.hok.laid k hp new)
theorem Inv.write{x e:Addr}{o:HO}{t':Nat}(I:Inv X mW σ H s)(mu:Mut (H x))(he:e=x\/H e=some (.own x))(k:∀b u,b≠e->s.heap.get? b=some u->h'.get? b=some u)(heo:∃u,h'.get? e=some u)
  (new:aO X.prog X.w (upd H x o) h' x o):Inv X mW σ (upd H x o) { s with heap:=h',toks:=t' }:=I.un (Un.write mu he k heo) (I.hok.write mu he k heo new)
theorem Inv.u7{D6:List (Addr×Obj)}(I:Inv X mW σ H s)(h:∀p∈D6,s.heap.get? p.1=some p.2/\H p.1=none/\p.1≠X.env.locals/\p.1∉X.fs/\∀v,p.2.data≠.cell v):Inv X D6 σ H s:=
 ⟨I.ok,I.os,I.bare,I.base,I.loc,I.cell,I.free,I.fm,fun p hp=>(Mw.mp hp).elim (fun z=>I.pin p (MJ _ z)) (h p),I.hok,I.len⟩
theorem p9{N:List Str}(hN:N.Nodup){i j:Nat}(a:N[i]?=some x)(b:N[j]?=some x):i=j:=by obtain⟨h1,e1⟩:=Mq.mp a;obtain⟨h2,e2⟩:=Mq.mp b;exact(List.getElem_inj hN).mp (e1.trans e2.symm)
theorem m8{M:Model}{A:Around}{E:Value->Shared->Prop}{Q:Unit->Shared->Prop}(I:Inv X mW σ H s)(hN:X.N.Nodup)(hi:X.N[i]?=some x)(hx:Loc X.env.scope x)(r:RelV v u)
  (h:∀s',Inv X mW (σ.set i (some v)) H s'->(∃a,NW a s.heap s'.heap/\(a=X.env.locals\/X.env.cells.lookup x=some a))->Q () s') (hf:X.fn x=true\/X.env.scope.names.lookup x=some .local:=by trivial):wpAny M A (storeName X.env x u) Q E s:=by
 obtain⟨m,hn,hl⟩:=id I.loc;have hcls:(X.env.scope.kind == .class||(X.env.scope.kind == .module&&X.env.locals != X.env.globals))=false:=by rw[I.ok.kind];rfl
 have hiσ:i<σ.length:=by rw[I.len];exact(Mq.mp hi).1
 have cne:=I.cne;have tracked:∀{a:Addr} {h':Heap},(∃o,s.heap.get? a=some o/\H a=none)->NW a s.heap h'->HOk X.prog X.w H h':=fun {a h'} ha hs b ob e=>by
  obtain⟨_,_,hfree⟩:=ha;refine(I.hok b ob e).stay (fun c w' hc q=>(hs.2 c ?_).trans q) (fun _ q=>q) (fun _ _ _ q=>q) fun _ _ q=>q;rintro rfl;rcases hc with rfl | hc
  ·rw[hfree]at e;cases e
  ·rw[hfree]at hc;cases hc
 rcases hx with hk | hk
 ·refine wpAny_storeName_local hk hn (fun h' hn' hs=>?_) hcls;obtain⟨oL,_,_,hoL,_⟩:=id hn;refine h _ ⟨I.ok,I.os,I.bare,⟨fun b o e n hb hx=>?_,fun b o e n hb hx=>?_,I.base.free,fun b o e hx=>?_,I.base.tups,I.base.mK,I.base.oF⟩,⟨_,hn',fun j y v' e1 e2 e3=>?_⟩,fun y c e=>?_,I.free,I.fm,fun p hp=>?_,tracked ⟨oL,hoL,I.free⟩ hs,by simpa using I.len⟩ ⟨_,hs,.inl rfl⟩
  ·exact(hs.2 b (ML (MF (Mu e) I.ok.above))).trans (I.base.keep b o e n hb hx)
  ·obtain⟨sl,e1⟩:=I.base.slot b o e n hb hx;exact⟨sl,(hs.2 b (ML (MF (Mu e) I.ok.above))).trans e1⟩
  ·obtain⟨o',e1⟩:=I.base.there b o e hx;exact⟨o',(hs.2 b (ML (MF (Mu e) I.ok.above))).trans e1⟩
  ·by_cases hj:j=i
   ·subst hj;rw[hi]at e1;cases e1;rw[MN hiσ]at e2;cases e2;exact⟨u,r,.inl ⟨hk,by simp⟩⟩
   ·rw[gV (Ne.symm hj)]at e2;obtain⟨u',r',q⟩:=hl j y v' e1 e2 e3;refine⟨u',r',?_⟩;rcases q with⟨k,e⟩ | ⟨k,c,e,z⟩
    ·refine .inl ⟨k,?_⟩;have:y≠x:=fun e=>hj (p9 hN e1 (e▸hi));simp[this,e]
    ·exact .inr ⟨k,c,e,z.sameBut hs (cne y c e)⟩
  ·obtain⟨w',z⟩:=I.cell y c e;exact⟨w',z.sameBut hs (cne y c e)⟩
  ·obtain⟨e,n,ne,nf,d⟩:=I.pin p hp;exact⟨(hs.2 p.1 ne).trans e,n,ne,nf,d⟩
 ·have hfn:X.fn x=true:=by
   rcases hf with z | z
   ·exact z
   ·rw[z]at hk;cases hk
  obtain⟨c,hc⟩:=I.ok.has x (.inl hk);obtain⟨w',z⟩:=I.cell x c hc;refine wpAny_storeName_cell I.ok.kind hk hc z (fun h' hc' hs=>?_);obtain⟨oc,hoc,Ld⟩:=id z;refine h { s with heap:=h' } ⟨I.ok,I.os,I.bare,⟨fun b o e n hb hx=>?_,fun b o e n hb hx=>?_,I.base.free,fun b o e hx=>?_,I.base.tups,I.base.mK,I.base.oF⟩,⟨m,hn.sameBut hs (Ne.symm (cne x c hc)),fun j y v' e1 e2 e3=>?_⟩,fun y c' e=>?_,I.free,I.fm,fun p hp=>?_,tracked ⟨oc,hoc,I.fm x c hc⟩ hs,by simpa using I.len⟩ ⟨c,hs,.inr hc⟩
  ·exact(hs.2 b (ML (MF (Mu e) (I.ok.cab x c hfn hc)))).trans (I.base.keep b o e n hb hx)
  ·obtain⟨sl,e1⟩:=I.base.slot b o e n hb hx;exact⟨sl,(hs.2 b (ML (MF (Mu e) (I.ok.cab x c hfn hc)))).trans e1⟩
  ·obtain⟨o',e1⟩:=I.base.there b o e hx;exact⟨o',(hs.2 b (ML (MF (Mu e) (I.ok.cab x c hfn hc)))).trans e1⟩
  ·by_cases hj:j=i
   ·subst hj;rw[hi]at e1;cases e1;rw[MN hiσ]at e2;cases e2;exact⟨u,r,.inr ⟨.inl hk,c,hc,hc'⟩⟩
   ·rw[gV (Ne.symm hj)]at e2;obtain⟨u',r',q⟩:=hl j y v' e1 e2 e3;refine⟨u',r',?_⟩;rcases q with q | ⟨k,c',e,z'⟩
    ·exact .inl q
    ·refine .inr ⟨k,c',e,z'.sameBut hs ?_⟩;rintro rfl;exact hj (p9 hN e1 (I.ok.inj _ _ _ e hc▸hi))
  ·by_cases hcc:c'=c
   ·subst hcc;exact⟨_,hc'⟩
   ·obtain⟨w2,z2⟩:=I.cell y c' e;exact⟨w2,z2.sameBut hs hcc⟩
  ·obtain⟨e,n,ne,nf,d⟩:=I.pin p hp;refine⟨(hs.2 p.1 ?_).trans e,n,ne,nf,d⟩;intro q;rw[q,hoc]at e;have q':oc=p.2:=Option.some.inj e;exact d w' (by rw[<- q'];exact Ld)
theorem p_{M:Model}{A:Around}{E:Value->Shared->Prop}{Q:Unit->Shared->Prop}(I:Inv X mW σ H s)(hN:X.N.Nodup)(hi:X.N[i]?=some x)(hx:Loc X.env.scope x)(r:RelV v u)
  (h:∀s',Inv X mW (σ.set i (some v)) H s'->Q () s') (hf:X.fn x=true\/X.env.scope.names.lookup x=some .local:=by trivial):wpAny M A (storeName X.env x u) Q E s:=
 m8 I hN hi hx r (fun s' I' _=>h s' I') hf
theorem Inv.IG{s':Shared}(I:Inv X mW σ H s)(ho:s'.os=s.os)(u:Un (frs X.stack) ch H H' s.heap s'.heap)(hok:HOk X.prog X.w H' s'.heap)(hg:AllBare s'.gens)
  (hch:∀b∈ch,(b∈X.ex\/X.s₀.heap.objs.size<=b)/\b≠X.env.locals/\(∀x c,X.env.cells.lookup x=some c->c≠b)/\∀p∈X.pn++mW,p.1≠b):Inv X mW σ H' s':=by
 obtain⟨h',g',d',t',o'⟩:=s';have e:o'=s.os:=ho;subst e;exact I.call (g':=g') (t':=t') (d':=d') u hok hg hch
end
end
noncomputable abbrev XK:=Value->Option Addr->Hp->Prop
noncomputable abbrev St:=List (Option V)
noncomputable abbrev VK:=V->Hp->Prop
noncomputable abbrev TE:=St->Hp->VK->Prop
noncomputable abbrev TT:=St->Hp->(Bool->Hp->Prop)->Prop
noncomputable abbrev TA:=St->Hp->(List V->Hp->Prop)->Prop
structure Ends where
 nx:St->Hp->Prop
 rt:VK
 bk:St->Hp->Prop:=fun _ _=>False
 ct:St->Hp->Prop:=fun _ _=>False
noncomputable abbrev TS:=Ends->St->Hp->Prop
def EP(X:Cx)(mW:List (Addr×Obj))(σ:St)(Q:VK)(u:Value)(s':Shared):Prop:=∃v H',Inv X mW σ H' s'/\RelV v u/\Q v H'
def TP(X:Cx)(mW:List (Addr×Obj))(σ:St)(Q:Bool->Hp->Prop)(b:Bool)(s':Shared):Prop:=∃H',Inv X mW σ H' s'/\Q b H'
def AP(X:Cx)(mW:List (Addr×Obj))(σ:St)(Q:List V->Hp->Prop)(us:List Value)(s':Shared):Prop:=∃vs H',Inv X mW σ H' s'/\Vals vs us/\Q vs H'
def SP(X:Cx)(mW:List (Addr×Obj))(D:Ends)(f:Flow)(s':Shared):Prop:=
 match f with
 |.next=>∃σ' H',Inv X mW σ' H' s'/\D.nx σ' H'
 |.brk=>∃σ' H',Inv X mW σ' H' s'/\D.bk σ' H'
 |.cont=>∃σ' H',Inv X mW σ' H' s'/\D.ct σ' H'
 |.ret u=>∃v σ' H',Inv X mW σ' H' s'/\RelV v u/\D.rt v H'
def PE(X:Cx)(e:Expr)(t:TE):Prop:=
 ∀(mW:List (Addr×Obj)) (s:Shared) (σ:St) (H:Hp) (Q:VK),Inv X mW σ H s->t σ H Q->wpAny (model X.prog X.w) X.A (eval e X.env) (EP X mW σ Q) X.xe s
def PT(X:Cx)(e:Expr)(t:TT):Prop:=
 ∀(mW:List (Addr×Obj)) (s:Shared) (σ:St) (H:Hp) (Q:Bool->Hp->Prop),Inv X mW σ H s->t σ H Q->wpAny (model X.prog X.w) X.A (isTrue e X.env (eval e X.env)) (TP X mW σ Q) X.xe s
def PW(X:Cx)(e:Expr)(t:TT):Prop:=
 ∀(whole:Sem Value) (mW:List (Addr×Obj)) (s:Shared) (σ:St) (H:Hp) (Q:Bool->Hp->Prop),Inv X mW σ H s->t σ H Q->wpAny (model X.prog X.w) X.A (isTrue e X.env whole) (TP X mW σ Q) X.xe s
theorem PW.pt{X:Cx}{e:Expr}{t:TT}(h:PW X e t):PT X e t:=h _
def PA(X:Cx)(es:List Expr)(t:TA):Prop:=
 ∀(pos:Pos) (mW:List (Addr×Obj)) (s:Shared) (σ:St) (H:Hp) (Q:List V->Hp->Prop),Inv X mW σ H s->t σ H Q->wpAny (model X.prog X.w) X.A (spliced (backTo pos (starEach es X.env))) (AP X mW σ Q) X.xe s
def PS(X:Cx)(st:Stmt)(t:TS):Prop:=
 ∀(mW:List (Addr×Obj)) (s:Shared) (σ:St) (H:Hp) (D:Ends),Inv X mW σ H s->t D σ H->wpAny (model X.prog X.w) X.A (exec st X.env) (SP X mW D) X.xe s
def PSs(X:Cx)(st:List Stmt)(t:TS):Prop:=
 ∀(mW:List (Addr×Obj)) (s:Shared) (σ:St) (H:Hp) (D:Ends),Inv X mW σ H s->t D σ H->wpAny (model X.prog X.w) X.A (execs st X.env) (SP X mW D) X.xe s
theorem thn{α:Type}{t:Sem α}{Q Q':α->Shared->Prop}{M:Model}{A:Around}{E:Value->Shared->Prop}{s:Shared}(h:wpAny M A t Q E s)(hQ:∀a s,Q a s->Q' a s):wpAny M A t Q' E s:=wpAny_mono h hQ fun _ _ x=>x
section
variable{X:Cx}
section
variable{Q:Value->Shared->Prop}{mW:List (Addr×Obj)}{u:Value}{x:Str}{s:Shared}{t:TE}{H:Hp}{σ:St}{v:V}
def jE(i:Nat):TE:=fun σ H Q=>∃v,σ[i]?=some (some v)/\Q v H
def tC(v:V):TE:=fun _ H Q=>Q v H
theorem c_{i:Nat}{pos:Pos}(hN:X.N[i]?=some x)(hv:Vis X.env.scope x)(hd:(x == ("__debug__" : Str))=false:=by decide)(Fp:(x == ("__classdict__" : Str))=false:=by decide):PE X (.Name x pos) (jE i):=by
 intro mW s σ H Q I h;obtain⟨v,e,h⟩:=h;obtain⟨m,hn,hl⟩:=I.loc;obtain⟨u,r,l⟩:=hl i x v hN e hv;have EC:EP X mW σ Q u s:=⟨v,H,I,r,h⟩
 rcases l with⟨hk,hm⟩ | ⟨hk,c,hc,hcell⟩
 ·exact wpAny_Name (wpAny_loadName_local I.ok.kind hk hn hm EC) hd
 ·rcases hk with hk | hk
  ·exact wpAny_Name (wpAny_loadName_cell I.ok.kind hk hc hcell EC) hd
  ·exact wpAny_Name (wpAny_loadName_free I.ok.kind hk hc hcell EC Fp) hd
theorem Fv{i j pos}:PE X (.Constant (.int i) j pos) (tC (.int i)):=fun _ _ _ H _ I h=>wpAny_Constant_int ⟨.int i,H,I.tok _,⟨_,rfl⟩,h⟩
theorem II{b j pos}:PE X (.Constant (.bool b) j pos) (tC (.bl b)):=fun _ _ _ H _ I h=>Constant_bool ⟨.bl b,H,I,rfl,h⟩
theorem Fw{j pos}:PE X (.Constant .none j pos) (tC .non):=fun _ _ _ H _ I h=>Constant_none ⟨.non,H,I,rfl,h⟩
def Gl(X:Cx)(x:Str):Prop:=X.env.kindOf x=some .globalImplicit
theorem u9{E:Value->Shared->Prop}{pos:Pos}(I:Inv X mW σ H s)(hg:Gl X x)(hm:X.mg x=some u)(h:Q u s)
  (hd:(x == ("__debug__" : Str))=false:=by decide):wpAny (model X.prog X.w) X.A (eval (.Name x pos) X.env) Q E s:=
 Calls.Name_function_global I.ok.kind hg (Calls.loadGlobal_global (by rw[I.ok.glob];exact I.mod.glob.keeps I.bk) hm h) hd
theorem fq{E:Value->Shared->Prop}{pos:Pos}(I:Inv X mW σ H s)(hg:Gl X x)(hm:X.mg x=none)(hv:bootBuiltins x=some u)(h:Q u s)
  (hn:x ≠ "__name__" := by decide) (hd:(x == ("__debug__" : Str))=false:=by decide):wpAny (model X.prog X.w) X.A (eval (.Name x pos) X.env) Q E s:=by
 obtain⟨mb,h1,h2⟩:=I.mod.blt;exact Calls.Name_function_global I.ok.kind hg (Calls.loadGlobal_builtin (by rw[I.ok.glob];exact I.mod.glob.keeps I.bk) hm (by rw[I.ok.blt];exact h1.keeps I.bk) ((h2 x hn).trans hv) h) hd
theorem BF{pos:Pos}(hg:Gl X x)(hm:X.mg x=some u)(r:RelV v u)(hd:(x == ("__debug__" : Str))=false:=by decide):PE X (.Name x pos) (tC v):=
 fun _ _ _ H _ I h=>u9 I hg hm ⟨v,H,I,r,h⟩ hd
theorem BG{pos:Pos}(hg:Gl X x)(hm:X.mg x=none)(hv:bootBuiltins x=some u)(r:RelV v u)(hn:x ≠ "__name__" := by decide)(hd:(x == ("__debug__" : Str))=false:=by decide):PE X (.Name x pos) (tC v):=
 fun _ _ _ H _ I h=>fq I hg hm hv ⟨v,H,I,r,h⟩ hn hd
variable{a b:Expr}{ta tb:TE}{pos:Pos}
def PC(X:Cx)(op:CmpOp)(a b:Expr)(t:TE):Prop:=
 ∀(mW:List (Addr×Obj)) (s:Shared) (σ:St) (H:Hp) (Q:VK),Inv X mW σ H s->t σ H Q ->
  wpAny (model X.prog X.w) X.A (eval a X.env) (fun v s₁=>wpAny (model X.prog X.w) X.A (eval b X.env) (fun u s₂=>wpAny (model X.prog X.w) X.A (compareOp op v u) (EP X mW σ Q) X.xe s₂) X.xe s₁) X.xe s
def tB(t:TE):TT:=fun σ H Q=>t σ H fun x H1=>∃c,x=.bl c/\Q c H1
theorem tw{op:CmpOp}(h:PC X op a b t)(h1:behindInMarks op b=false:=by first | exact IJ _ (by decide) (by decide) | rfl):PT X (.Compare a [op] [b] pos) (tB t):=by intro mW s σ H Q I hw;refine wpAny_isTrue_Compare1 (thn (h mW s σ H _ I hw) fun v s1 h1=>thn h1 fun u s2 h2=>thn h2 fun c s3 ⟨x,H1,I1,r1,q1⟩=>?_) h1;obtain⟨d,rfl,q⟩:=q1;cases r1;exact wpAny_truthy_bool ⟨H1,I1,q⟩
theorem Fx{e:Expr}(h:PE X e t)(he:∀whole,isTrue e X.env whole=(do let v <- whole;standAt e.pos;holding [v] (truthy v)):=by intro _;rfl):PT X e (tB t):=by intro mW s σ H Q I hw;refine isTrue_plain (thn (h mW s σ H _ I hw) fun v s1 ⟨x,H1,I1,r1,q1⟩=>?_) (he _);obtain⟨d,rfl,q⟩:=q1;cases r1;exact wpAny_truthy_bool ⟨H1,I1,q⟩
variable{tA tB':TT}{mX:List Expr}
def ff(t u:TT):TT:=fun σ H Q=>t σ H fun c H1=>if c=true then u σ H1 Q else Q false H1
def tOr(t u:TT):TT:=fun σ H Q=>t σ H fun c H1=>if c=true then Q true H1 else u σ H1 Q
def jZ(t:TT):TT:=fun σ H Q=>t σ H fun c H1=>Q (!c) H1
theorem pw_and1(ha:PT X a tA):PW X (.BoolOp .And [a] pos) tA:=by
 intro wh mW s σ H Q I h;refine isTrue_and (thn (ha mW s σ H Q I h) fun c s1 e=>?_);cases c with
 |true=>exact isTrue_and_nil e
 |false=>exact e
theorem pw_or1(ha:PT X a tA):PW X (.BoolOp .Or [a] pos) tA:=by
 intro wh mW s σ H Q I h;refine isTrue_or (thn (ha mW s σ H Q I h) fun c s1 e=>?_);cases c with
 |false=>exact isTrue_or_nil e
 |true=>exact e
theorem pw_and(ha:PT X a tA)(hb:PW X (.BoolOp .And (b::mX) pos) tB'):PW X (.BoolOp .And (a::b::mX) pos) (ff tA tB'):=by
 intro wh mW s σ H Q I h;refine isTrue_and (thn (ha mW s σ H _ I h) fun c s1 ⟨H1,I1,q1⟩=>?_);cases c with
 |true=>exact hb wh mW s1 σ H1 Q I1 q1
 |false=>exact⟨H1,I1,q1⟩
theorem pw_or(ha:PT X a tA)(hb:PW X (.BoolOp .Or (b::mX) pos) tB'):PW X (.BoolOp .Or (a::b::mX) pos) (tOr tA tB'):=by
 intro wh mW s σ H Q I h;refine isTrue_or (thn (ha mW s σ H _ I h) fun c s1 ⟨H1,I1,q1⟩=>?_);cases c with
 |true=>exact⟨H1,I1,q1⟩
 |false=>exact hb wh mW s1 σ H1 Q I1 q1
theorem Fy(ha:PT X a tA):PT X (.UnaryOp .Not a pos) (jZ tA):=by intro mW s σ H Q I h;exact isTrue_not (ha mW s σ H (fun c H1=>Q (!c) H1) I h)
def D7(ta tb:TE):TE:=fun σ H Q=>ta σ H fun x H1=>∃c,x=.bl c/\if c=true then tb σ H1 Q else Q (.bl false) H1
def IK(ta tb:TE):TE:=fun σ H Q=>ta σ H fun x H1=>∃c,x=.bl c/\if c=true then Q (.bl true) H1 else tb σ H1 Q
def D8(ta:TE):TE:=fun σ H Q=>ta σ H fun x H1=>∃c,x=.bl c/\Q (.bl (!c)) H1
theorem Fz{op}(h:PE X a t):PE X (.BoolOp op [a] pos) t:=fun mW s σ H Q I hw=>BoolOp_one (h mW s σ H Q I hw)
theorem FA(ha:PE X a ta)(hb:PE X (.BoolOp .And (b::mX) pos) tb):PE X (.BoolOp .And (a::b::mX) pos) (D7 ta tb):=by
 intro mW s σ H Q I h;refine BoolOp_and (thn (ha mW s σ H _ I h) fun v s1 ⟨x,H1,I1,r1,q1⟩=>?_);obtain⟨c,rfl,q1⟩:=q1;cases r1;refine wpAny_truthy_bool ?_;cases c with
 |true=>exact hb mW s1 σ H1 Q I1 q1
 |false=>exact⟨.bl false,H1,I1,rfl,q1⟩
theorem IL(ha:PE X a ta)(hb:PE X (.BoolOp .Or (b::mX) pos) tb):PE X (.BoolOp .Or (a::b::mX) pos) (IK ta tb):=by
 intro mW s σ H Q I h;refine BoolOp_or (thn (ha mW s σ H _ I h) fun v s1 ⟨x,H1,I1,r1,q1⟩=>?_);obtain⟨c,rfl,q1⟩:=q1;cases r1;refine wpAny_truthy_bool ?_;cases c with
 |false=>exact hb mW s1 σ H1 Q I1 q1
 |true=>exact⟨.bl true,H1,I1,rfl,q1⟩
theorem FD(ha:PE X a ta):PE X (.UnaryOp .Not a pos) (D8 ta):=by intro mW s σ H Q I h;refine UnaryOp_ (thn (ha mW s σ H _ I h) fun v s1 ⟨x,H1,I1,r1,q1⟩=>?_);obtain⟨c,rfl,q1⟩:=q1;cases r1;exact not_of (wpAny_truthy_bool ⟨.bl (!c),H1,I1,rfl,q1⟩)
def tIf(t:TT)(ta tb:TE):TE:=fun σ H Q=>t σ H fun c H1=>if c=true then ta σ H1 Q else tb σ H1 Q
theorem ya{c:Expr}(hc:PT X c tA)(ha:PE X a ta)(hb:PE X b tb):PE X (.IfExp c a b pos) (tIf tA ta tb):=by
 intro mW s σ H Q I h;refine wpAny_IfExp (thn (hc mW s σ H _ I h) fun d s1 ⟨H1,I1,q1⟩=>?_);cases d with
 |true=>exact ha mW s1 σ H1 Q I1 q1
 |false=>exact hb mW s1 σ H1 Q I1 q1
end
end
def SqL(K:Dp)(H:Hp)(a:Addr)(xs:List V):Prop:=
 Rd H a (.lst xs) \/
  ∃(o:Obj) (its:Array Value) (n:Nat),K.lookup a=some o/\o.cls=.type "list" /\ o.dict=none/\o.data=.seq its n/\its.size<=sizeLine/\Vals xs its.toList
def SqT(K:Dp)(H:Hp)(a:Addr)(xs:List V):Prop:=
 Rd H a (.tup xs) \/
  ∃(o:Obj) (its:Array Value) (n:Nat),K.lookup a=some o/\o.cls=.type "tuple" /\ o.data=.seq its n/\its.size<=sizeLine/\Vals xs its.toList
noncomputable def Le:Value->Option V
 |.none=>some .non
 |.bool b=>some (.bl b)
 |.int i _=>some (.int i)
 |.str x _=>some (.str x)
 |.bytes b _=>some (.byt b)
 |.float b _=>some (.flt b)
 |.ref a=>some (.ref a)
 |.type n=>some (.ty n)
 |_=>none
theorem RelV.abs{x:V}{u:Value}(r:RelV x u):Le u=some x:=by
 cases x with
 |non=>cases r;rfl
 |bl _=>cases r;rfl
 |int _=>obtain⟨t,rfl⟩:=r;rfl
 |str _=>obtain⟨t,rfl⟩:=r;rfl
 |byt _=>obtain⟨t,rfl⟩:=r;rfl
 |flt _=>obtain⟨t,rfl⟩:=r;rfl
 |ref _=>cases r;rfl
 |ty _=>cases r;rfl
theorem RelV.inj{x y:V}{u:Value}(r:RelV x u)(q:RelV y u):x=y:=Option.some.inj (r.abs.symm.trans q.abs)
theorem Vals.inj:∀{xs ys:List V} {us:List Value},Vals xs us->Vals ys us->xs=ys
 |_,_,_,.nil,.nil=>rfl
 |_,_,_,.cons r t,.cons r' t'=>by rw[r.inj r',Vals.inj t t']
section
variable{X:Cx}{mW:List (Addr×Obj)}{σ:St}{H:Hp}{s:Shared}{a:Addr}{xs ys:List V}
theorem SqT.of{K:Dp}(h:H a=some (.tup xs)):SqT K H a xs:=.inl (.inl h)
theorem Inv.list(I:Inv X mW σ H s)(h:SqL X.K H a xs):∃its:List Value,Vals xs its/\PlainL s.heap a its.toArray/\xs.length<=sizeLine:=by
 rcases h with h | ⟨o,its,n,hk,hc,hd,hs,hz,r⟩
 ·obtain⟨z,its,n,r,e⟩:=h.ok I.hok;exact⟨its,r,⟨_,n,e,rfl,rfl,rfl⟩,z⟩
 ·refine⟨its.toList,r,⟨o,n,I.kIn a o hk,hc,hd,by simpa using hs⟩,?_⟩;have e:=r.length;simp only[NJ]at e
  lia
theorem Inv.tuple(I:Inv X mW σ H s)(h:SqT X.K H a xs):∃its:List Value,Vals xs its/\IsTup s.heap a its.toArray/\xs.length<=sizeLine:=by
 rcases h with h | ⟨o,its,n,hk,hc,hs,hz,r⟩
 ·obtain⟨z,its,r,p⟩:=h.ok I.hok;exact⟨its,r,p,z⟩
 ·refine⟨its.toList,r,⟨o,I.kIn a o hk,hc,n,by simpa using hs⟩,?_⟩;have e:=r.length;simp only[NJ]at e
  lia
theorem Inv.qc(I:Inv X mW σ H s)(h:SqL X.K H a xs)(h':SqL X.K H a ys):xs=ys:=by
 obtain⟨its,r,⟨o,n,e,_,_,d⟩,_⟩:=I.list h;obtain⟨its',r',⟨o',n',e',_,_,d'⟩,_⟩:=I.list h';rw[e]at e';cases e';rw[d]at d';injection d' with d1 _
 have:its=its':=by simpa using congrArg Array.toList d1
 subst this;exact r.inj r'
theorem Inv.wM(I:Inv X mW σ H s)(h:SqT X.K H a xs)(h':SqT X.K H a ys):xs=ys:=by
 obtain⟨its,r,⟨o,e,_,n,d⟩,_⟩:=I.tuple h;obtain⟨its',r',⟨o',e',_,n',d'⟩,_⟩:=I.tuple h';rw[e]at e';cases e';rw[d]at d';injection d' with d1 _
 have:its=its':=by simpa using congrArg Array.toList d1
 subst this;exact r.inj r'
end
noncomputable abbrev Cx.mL(X:Cx)(E:Value->Shared->Prop):Cx:={ X with xe:=E }
noncomputable abbrev Cx.nox(X:Cx):Cx:=X.mL fun _ _=>False
theorem Cx.Ok.mL{X:Cx}(ok:X.Ok)(E:Value->Shared->Prop):(X.mL E).Ok:=
 ⟨ok.mod,ok.kind,ok.glob,ok.blt,ok.above,ok.inj,ok.has,ok.cab,ok.hd,ok.frames,ok.stk,ok.exf,ok.bs,ok.bsz,ok.x_,ok.BE,ok.jY,ok.frf⟩
theorem Cx.Ok.fu{X:Cx}{E:Value->Shared->Prop}(ok:(X.mL E).Ok):X.Ok:=
 ⟨ok.mod,ok.kind,ok.glob,ok.blt,ok.above,ok.inj,ok.has,ok.cab,ok.hd,ok.frames,ok.stk,ok.exf,ok.bs,ok.bsz,ok.x_,ok.BE,ok.jY,ok.frf⟩
section
variable{X:Cx}{mW:List (Addr×Obj)}{σ:St}{H:Hp}{s:Shared}{E:Value->Shared->Prop}
theorem Inv.mL(I:Inv X mW σ H s)(E:Value->Shared->Prop):Inv (X.mL E) mW σ H s:=⟨I.ok.mL E,I.os,I.bare,I.base,I.loc,I.cell,I.free,I.fm,I.pin,I.hok,I.len⟩
theorem Inv.fu(I:Inv (X.mL E) mW σ H s):Inv X mW σ H s:=⟨I.ok.fu,I.os,I.bare,I.base,I.loc,I.cell,I.free,I.fm,I.pin,I.hok,I.len⟩
theorem SP.fu{D:Ends}{f:Flow}{s':Shared}(h:SP (X.mL E) mW D f s'):SP X mW D f s':=by
 cases f with
 |next=>obtain⟨σ',H',I,q⟩:=h;exact⟨σ',H',I.fu,q⟩
 |brk=>obtain⟨σ',H',I,q⟩:=h;exact⟨σ',H',I.fu,q⟩
 |cont=>obtain⟨σ',H',I,q⟩:=h;exact⟨σ',H',I.fu,q⟩
 |ret u=>obtain⟨v,σ',H',I,r,q⟩:=h;exact⟨v,σ',H',I.fu,r,q⟩
theorem PSs.nox{st:List Stmt}{t:TS}(h:PSs X.nox st t):PSs X st t:=fun mW s σ H D I hw=>wpAny_mono (h mW s σ H D (I.mL _) hw) (fun _ _ q=>q.fu) fun _ _ z=>MZ z
end
section
variable{X:Cx}{st:Stmt}{mX:List Stmt}{t u:TS}{e:Expr}{te:TE}{pos:Pos}
def D9:TS:=fun D σ H=>D.nx σ H
def tE(t u:TS):TS:=fun D σ H=>t { D with nx:=u D } σ H
theorem BH:PSs X [] D9:=fun _ _ σ H _ I h=>wpAny_execs_nil ⟨σ,H,I,h⟩
theorem dD(h1:PS X st t)(h2:PSs X mX u):PSs X (st::mX) (tE t u):=by
 intro mW s σ H D I h;refine wpAny_execs_cons (thn (h1 mW s σ H { D with nx:=u D } I h) fun f s1 q=>?_);cases f with
 |next=>obtain⟨σ',H',I',q⟩:=q;exact h2 mW s1 σ' H' D I' q
 |ret v=>exact q
 |brk=>exact q
 |cont=>exact q
theorem u_(h1:PS X st t):PSs X [st] t:=by
 intro mW s σ H D I h;refine wpAny_execs_cons (thn (h1 mW s σ H D I h) fun f s1 q=>?_);cases f with
 |next=>exact wpAny_execs_nil q
 |ret v=>exact q
 |brk=>exact q
 |cont=>exact q
theorem Inv.quiet{mW:List (Addr×Obj)}{σ:St}{H:Hp}{s:Shared}(I:Inv X mW σ H s):interactive X.env=false:=by simp[interactive,I.ok.kind]
def qd(te:TE):TS:=fun D σ H=>te σ H fun _ H1=>D.nx σ H1
theorem jM(he:PE X e te)(hs:swapsWith e none pos.line X.env=pure false:=by rfl):PS X (.Expr e pos) (qd te):=by intro mW s σ H D I h;exact wpAny_Expr_any (thn (he mW s σ H _ I h) fun v s1 ⟨x,H1,I1,r1,q1⟩=>⟨σ,H1,I1,q1⟩) I.quiet hs
def IM(te:TE):TS:=fun D σ H=>te σ H D.rt
theorem FF(he:PE X e te):PS X (.Return (some e) pos) (IM te):=by intro mW s σ H D I h;exact wpAny_Return_some (thn (he mW s σ H _ I h) fun v s1 ⟨x,H1,I1,r1,q1⟩=>⟨x,σ,H1,I1,r1,q1⟩)
def FG(c:TT)(t u:TS):TS:=fun D σ H=>c σ H fun b H1=>if b=true then t D σ H1 else u D σ H1
theorem D_{c:Expr}{a b:List Stmt}{tc:TT}(hc:PT X c tc)(ha:PSs X a t)(hb:PSs X b u):PS X (.If c a b pos) (FG tc t u):=by
 intro mW s σ H D I h;refine wpAny_If (thn (hc mW s σ H _ I h) fun d s1 ⟨H1,I1,q1⟩=>?_);cases d with
 |true=>exact ha mW s1 σ H1 D I1 q1
 |false=>exact hb mW s1 σ H1 D I1 q1
def FH:TS:=fun _ _ _=>False
theorem yc:PS X st FH:=fun _ _ _ _ _ _ h=>h.elim
end
noncomputable abbrev TG:=V->St->Hp->(St->Hp->Prop)->Prop
noncomputable abbrev TGs:=List V->St->Hp->(St->Hp->Prop)->Prop
def PG(X:Cx)(target:Expr)(t:TG):Prop:=
 ∀(mW:List (Addr×Obj)) (s:Shared) (σ:St) (H:Hp) (v:V) (u:Value) (Q:St->Hp->Prop),Inv X mW σ H s->RelV v u->t v σ H Q ->
  wpAny (model X.prog X.w) X.A (assign target X.env u) (fun _ s'=>∃σ' H',Inv X mW σ' H' s'/\Q σ' H') X.xe s
def PGs(X:Cx)(ts:List Expr)(t:TGs):Prop:=
 ∀(mW:List (Addr×Obj)) (s:Shared) (σ:St) (H:Hp) (vs:List V) (us:List Value) (Q:St->Hp->Prop),Inv X mW σ H s->Vals vs us->t vs σ H Q ->
  wpAny (model X.prog X.w) X.A (assignInOrder ((assignEach ts X.env).map (·.2)) us) (fun _ s'=>∃σ' H',Inv X mW σ' H' s'/\Q σ' H') X.xe s
noncomputable abbrev FJ:=V->V->V->Hp->(Hp->Prop)->Prop
def IP(X:Cx)(t:FJ):Prop:=
 ∀(mW:List (Addr×Obj)) (s:Shared) (σ:St) (H:Hp) (o i v:V) (ov iv u:Value) (Q:Hp->Prop),Inv X mW σ H s->RelV o ov->RelV i iv->RelV v u->t o i v H Q ->
  wpAny (model X.prog X.w) X.A (setItem ov iv u) (fun _ s'=>∃H',Inv X mW σ H' s'/\Q H') X.xe s
section
variable{X:Cx}{pos:Pos}
section
variable{es:List Expr}{e:Expr}{x:Str}{i:Nat}{te:TE}
def eX(i:Nat):TG:=fun v σ H Q=>Q (σ.set i (some v)) H
theorem oH(hN:X.N.Nodup)(hi:X.N[i]?=some x)(hx:Loc X.env.scope x)(hf:X.fn x=true\/X.env.scope.names.lookup x=some .local:=by trivial):PG X (.Name x pos) (eX i):=by intro mW s σ H v u Q I r h;exact wpAny_assign_Name (p_ I hN hi hx r (fun s' I'=>⟨_,H,I',h⟩) hf)
def IQ:TGs:=fun vs σ H Q=>vs=[]/\Q σ H
def Ea(t:TG)(u:TGs):TGs:=fun vs σ H Q=>∃v r,vs=v::r/\t v σ H fun σ' H'=>u r σ' H' Q
theorem BI:PGs X [] IQ:=by intro mW s σ H vs us Q I r h;obtain⟨e,h⟩:=h;subst e;cases r;exact assignInOrder_nil ⟨σ,H,I,h⟩
theorem yd{t:TG}{u:TGs}(h1:PG X e t)(h2:PGs X es u)
  (hs:(assignEach (e::es) X.env).map (·.2)=assign e X.env::(assignEach es X.env).map (·.2):=by rfl):PGs X (e::es) (Ea t u):=by
 intro mW s σ H vs us Q I r h;obtain⟨v,vr,e1,h⟩:=h;subst e1;cases r with
 |cons r rr=>rw[hs];refine assignInOrder_cons (thn (h1 mW s σ H _ _ _ I r h) fun _ s1 ⟨σ1,H1,I1,q1⟩=>?_);exact h2 mW s1 σ1 H1 _ _ Q I1 rr q1
def IS(K:Dp)(n:Nat)(t:TGs):TG:=fun v σ H Q=>∃a xs,v=.ref a/\SqT K H a xs/\xs.length=n/\t xs σ H Q
theorem FL{k:Nat}{t:TGs}{n:Nat}(hc:X.calm=true)(h:PGs X es t)
  (hn:(assignEach es X.env).length=n:=by rfl) (hst:(assignEach es X.env).findIdx? (·.1)=none:=by rfl):PG X (.Tuple es k pos) (IS X.K n t):=by
 intro mW s σ H v u Q I r hw;obtain⟨a,xs,e1,hq,hl,hw⟩:=hw;subst e1;cases r;obtain⟨its,rv,ht,hz⟩:=I.tuple hq;refine assign_Tuple_tuple (I.ok.hd hc) ht (by simp[hn,<- hl,rv.length]) hst fun h' hx=>?_;have I1:Inv X mW σ H { s with heap:=h' }:=I.kept (t':=s.toks) fun b o e=>hx b o (ML (Mu e)) e;exact h mW _ σ H xs _ Q I1 (by simpa using rv) hw
def jF(to ti:TE)(t:FJ):TG:=fun v σ H Q=>to σ H fun o H1=>ti σ H1 fun i H2=>t o i v H2 fun H3=>Q σ H3
theorem FO{o i:Expr}{to ti:TE}{t:FJ}(ho:PE X o to)(hi:PE X i ti)(hs:IP X t)
  (ha:∀ v,assign (.Subscript o i pos) X.env v=(do
   let ov <- holding [v] (eval o X.env)
   let iv <- holding [v,ov] (eval i X.env)
   standAt pos
   holding [v,ov,iv] (setItem ov iv v)
   release [v,ov,iv] []):=by intro _;rfl):PG X (.Subscript o i pos) (jF to ti t):=by
 intro mW s σ H v u Q I r h;rw[ha];refine wpAny_bind (wpAny_holding (thn (ho mW s σ H _ I h) fun ov s1 ⟨x,H1,I1,r1,q1⟩=>?_));refine wpAny_bind (wpAny_holding (thn (hi mW s1 σ H1 _ I1 q1) fun iv s2 ⟨y,H2,I2,r2,q2⟩=>?_));refine wpAny_bind (wpAny_standAt (wpAny_bind (wpAny_holding (thn (hs mW s2 σ H2 x y v ov iv u _ I2 r1 r2 r q2) fun _ s3 ⟨H3,I3,q3⟩=>?_))));exact wpAny_release ⟨σ,H3,I3,q3⟩
def qe(te:TE)(g:TG):TS:=fun D σ H=>te σ H fun x H1=>g x σ H1 D.nx
theorem FP{tg e:Expr}{g:TG}(he:PE X e te)(hg:PG X tg g)(hs:swapsWithSole [tg] e pos.line X.env=pure false:=by rfl)(hw:swappedStores [tg] e X.env=pure none:=by rfl)
  (h1:(assignEach [tg] X.env).map (·.2)=[assign tg X.env]:=by rfl):PS X (.Assign [tg] e pos) (qe te g):=by
 intro mW s σ H D I h;refine wpAny_Assign_stores (thn (he mW s σ H _ I h) fun v s1 ⟨x,H1,I1,r1,q1⟩=>?_) hs hw;rw[h1];exact thn (hg mW s1 σ H1 x v _ I1 r1 q1) fun _ s2 q=>q
theorem FQ{pos':Pos}(hN:X.N.Nodup)(hi:X.N[i]?=some x)(hx:Loc X.env.scope x)(he:PE X e te)(hs:swapsWith e (some (.Name x pos')) pos.line X.env=pure false:=by rfl)(hf:X.fn x=true\/X.env.scope.names.lookup x=some .local:=by trivial) :
  PS X (.Assign [.Name x pos'] e pos) (qe te (eX i)):=by
 intro mW s σ H D I h;refine wpAny_Assign_Name (thn (he mW s σ H _ I h) fun v s1 ⟨y,H1,I1,r1,q1⟩=>?_) hs;exact p_ I1 hN hi hx r1 (fun s2 I2=>⟨_,H1,I2,q1⟩) hf
end
end
section
variable{X:Cx}{pos:Pos}
def ye(c:TT)(tb:TS):TS:=fun D σ H=>∃W:Nat->St->Hp->Prop,(∃m,W m σ H)/\∀m σ H,W m σ H ->
 c σ H fun b H1=>if b=true then ∃N:St->Hp->Prop,(∀σ' H',N σ' H'->∃m',m'<m/\W m' σ' H')/\tb { D with nx:=N,ct:=N,bk:=D.nx } σ H1 else D.nx σ H1
theorem yf{c:Expr}{body:List Stmt}{tc:TT}{tb:TS}(hp:PassesOwn (model X.prog X.w) X.A X.env X.xe)(hc:PT X c tc)(hb:PSs X body tb):PS X (.While c body [] pos) (ye tc tb):=by
 intro mW s σ H D I h;obtain⟨W,⟨m0,w0⟩,turn⟩:=h;refine wpAny_While (codeAny_whileLoop (fun n s'=>∃σ' H',Inv X mW σ' H' s'/\W n σ' H') ?_ m0 ⟨σ,H,I,w0⟩);rintro n s1 ⟨σ1,H1,I1,w1⟩;refine wpAny_passesOwn hp (thn (hc mW s1 σ1 H1 _ I1 (turn n σ1 H1 w1)) fun b s2 ⟨H2,I2,q2⟩=>?_);cases b with
 |true=>
  obtain⟨N,hN,q2⟩:=q2;rw[if_pos rfl];refine wpAny_passesOwn hp (thn (hb mW s2 σ1 H2 _ I2 q2) fun f s3 q3=>?_);cases f with
  |next=>obtain⟨σ3,H3,I3,n3⟩:=q3;obtain⟨m',hm,w3⟩:=hN σ3 H3 n3;exact⟨m',hm,σ3,H3,I3,w3⟩
  |cont=>obtain⟨σ3,H3,I3,n3⟩:=q3;obtain⟨m',hm,w3⟩:=hN σ3 H3 n3;exact⟨m',hm,σ3,H3,I3,w3⟩
  |brk=>exact q3
  |ret v=>exact q3
 |false=>rw[if_neg MG];exact wpAny_execs_nil ⟨σ1,H2,I2,q2⟩
end
section
variable{P:Program}{w:World}{tg:Expr}{s:Shared}{K:Dp}
structure It where
 go:Nat->Hp->Prop
 yld:Nat->Hp->V->Hp->Prop
 stop:Nat->Hp->Prop
def j0(X:Cx)(mW:List (Addr×Obj))(H:Hp)(b:Addr):Prop:=
 H b=none/\b≠X.env.locals/\b∉X.fs/\(b∈X.ex\/X.s₀.heap.objs.size<=b)/\(∀x c,X.env.cells.lookup x=some c->c≠b)/\∀p∈X.pn++mW,p.1≠b
theorem Inv.yg{X:Cx}{mW:List (Addr×Obj)}{σ:St}{H H':Hp}{b:Addr}(I:Inv X mW σ H s)(hb:s.heap.objs.size<=b)(hn:H' b=none):j0 X mW H' b:=by
 refine⟨hn,OB (MF I.lt hb),I.Lc hb,.inr (MH I.sz hb),fun x c e z=>?_,fun p hp z=>?_⟩
 ·obtain⟨v,q⟩:=I.cell x c e;exact absurd (MF q.lt (by rw[z];exact hb)) (NH _)
 ·exact absurd (MF (Mu (I.pin p hp).1) (by rw[z];exact hb)) (NH _)
structure Turn(P:Program)(w:World)(K:Dp)(tg:Expr)(J:It)(fp:List Addr)(it:Addr)(tn:Nat->Heap->Prop):Prop where
 mem:it∈fp
 obj:∀i h,tn i h->∀b∈fp,∃o,h.get? b=some o/\∀v,o.data≠.cell v
 keep:∀i h h',tn i h->(∀b∈fp,∀o,h.get? b=some o->h'.get? b=some o)->tn i h'
 item:∀(X:Cx),X.prog=P->X.w=w->X.K=K->X.calm=true->∀(i:Nat) (mW:List (Addr×Obj)) (s:Shared) (σ:St) (H:Hp) (E:Value->Shared->Prop),Inv X mW σ H s->(∀b∈fp,j0 X mW H b)->tn i s.heap->J.go i H ->
  wpAny (model P w) X.A (pyNext (.ref it)) (fun r s1=>∃ u,r=some u ∧
   wpAny (model P w) X.A (letOwnedTupleGo tg (.ref it) u) (fun _ s2=>∃x H',Inv X mW σ H' s2/\RelV x u/\J.yld i H x H'/\tn (i+1) s2.heap/\∀b∈fp,H' b=none) E s1) E s
 done:∀(X:Cx),X.prog=P->X.w=w->X.K=K->X.calm=true->∀(i:Nat) (mW:List (Addr×Obj)) (s:Shared) (σ:St) (H:Hp) (E:Value->Shared->Prop),Inv X mW σ H s->(∀b∈fp,j0 X mW H b)->tn i s.heap->J.stop i H ->
  wpAny (model P w) X.A (pyNext (.ref it)) (fun r s1=>r=none/\Inv X mW σ H s1) E s
 self:∀(A:Around) (i:Nat) (s:Shared) (Q:Value->Shared->Prop) (E:Value->Shared->Prop),tn i s.heap->Q (.ref it) s->wpAny (model P w) A (pyIter (.ref it)) Q E s
noncomputable abbrev TI:=St->Hp->(It->Hp->Prop)->Prop
def PIE(X:Cx)(mW:List (Addr×Obj))(σ:St)(tg:Expr)(R:It->Hp->Prop)(itv:Value)(s2:Shared):Prop:=
 ∃(it:Addr) (fp:List Addr) (tn:Nat->Heap->Prop) (J:It) (H':Hp),itv=.ref it/\Inv X mW σ H' s2/\Turn X.prog X.w X.K tg J fp it tn/\tn 0 s2.heap/\(∀b∈fp,j0 X mW H' b)/\R J H'
def PI(X:Cx)(tg iter:Expr)(wi:TI):Prop:=
 ∀(mW:List (Addr×Obj)) (s:Shared) (σ:St) (H:Hp) (R:It->Hp->Prop),Inv X mW σ H s->wi σ H R ->
  wpAny (model X.prog X.w) X.A (eval iter X.env) (fun v s1=>wpAny (model X.prog X.w) X.A (pyIter v) (PIE X mW σ tg R) X.xe s1) X.xe s
theorem yh{M:Model}{A:Around}{E:Value->Shared->Prop}{tg:Expr}{it:Addr}{u:Value}{o:Obj}{n:String}{vs:Array Value}{Q:Unit->Shared->Prop}(ho:s.heap.get? it=some o)(hc:o.cls=.type n)(hd:o.data=.fields vs)
  (hn:["enumerate","zip","dict_itemiterator","dict_reverseitemiterator","odict_iterator","itertools.zip_longest","itertools.pairwise"].contains n=false) (hQ:Q () s):wpAny M A (letOwnedTupleGo tg (.ref it) u) Q E s:=by
 unfold letOwnedTupleGo;cases tg<;>first
  |exact wpAny_pure hQ
  | (cases u<;>first
    |exact wpAny_pure hQ
    | (refine wpAny_bind (wpAny_load ho ?_)
       rw[hc,hd];show wpAny M A (if (["enumerate","zip","dict_itemiterator","dict_reverseitemiterator","odict_iterator","itertools.zip_longest","itertools.pairwise"].contains n&&vs[0]? == some (rawInt _))=true then _ else _) Q E s;rw[if_neg (by intro h;rw[hn,Bool.false_and]at h;cases h)];exact wpAny_pure hQ))
noncomputable def Itl(K:Dp)(a:Addr):It:=
 ⟨fun i H=>∃xs x,SqL K H a xs/\xs[i]?=some x,fun i H x H'=>H'=H/\∀xs,SqL K H a xs->xs[i]?=some x,fun i H=>∃xs,SqL K H a xs/\xs.length<=i⟩
noncomputable def Itt(K:Dp)(a:Addr):It:=
 ⟨fun i H=>∃xs x,SqT K H a xs/\xs[i]?=some x,fun i H x H'=>H'=H/\∀xs,SqT K H a xs->xs[i]?=some x,fun i H=>∃xs,SqT K H a xs/\xs.length<=i⟩
noncomputable def Itr(lo:Int)(n:Nat):It:=⟨fun i _=>i<n,fun i H x H'=>H'=H/\x=.int (lo+i),fun i _=>n<=i⟩
theorem wN(a it:Addr):Turn P w K tg (Itl K a) [it] it (fun i h=>h.IsListIter it a i) where
 mem:=by simp
 obj:=fun i h st b hb=>by
  have e:b=it:=by simpa using hb
  subst e;obtain⟨o,e,c,d⟩:=st;exact⟨o,e,fun v z=>by rw[d]at z;cases z⟩
 keep:=fun i h h' st k=>st.at fun o e=>k it (by simp) o e
 item:=by intro X hP hw hK hc i mW s σ H E I hf st hg;subst hP hw hK;obtain⟨xs,x,hq,hx⟩:=hg;obtain⟨its,rv,p,hz⟩:=I.list hq;obtain⟨u,hu,ru⟩:=rv.get hx;obtain⟨f0,f1,f2,f3,f4,f5⟩:=hf it (by simp);refine wpAny_pyNext_list_item st p.isList (x:=u) (by simpa using hu) fun h' st' sb=>?_;have I1:Inv X mW σ H { s with heap:=h' }:=I.turned (t':=s.toks) (fun b o hb e=>(sb.2 b hb).trans e) f0 f1 f3 f4 f5;obtain⟨o,e,c,d⟩:=id st';exact⟨u,rfl,yh (s:={ s with heap:=h' }) e c d (by decide) ⟨x,H,I1,ru,⟨rfl,fun ys hy=>by rw[I.qc hy hq];exact hx⟩,st',fun b hb=>(hf b hb).1⟩⟩
 done:=by intro X hP hw hK hc i mW s σ H E I hf st hg;subst hP hw hK;obtain⟨xs,hq,hx⟩:=hg;obtain⟨its,rv,p,hz⟩:=I.list hq;obtain⟨f0,f1,f2,f3,f4,f5⟩:=hf it (by simp);have hl:=rv.length;exact wpAny_pyNext_list_end (I.ok.hd hc) st p.isList (by simp;lia) fun h' eb=>⟨rfl,I.turned (t':=s.toks) (fun b o hb e=>eb b o hb e) f0 f1 f3 f4 f5⟩
 self:=fun _ _ _ _ _ st h=>wpAny_pyIter_listiter st h
theorem tF(a it:Addr):Turn P w K tg (Itt K a) [it] it (fun i h=>h.IsTupleIter it a i) where
 mem:=by simp
 obj:=fun i h st b hb=>by
  have e:b=it:=by simpa using hb
  subst e;obtain⟨o,e,c,d⟩:=st;exact⟨o,e,fun v z=>by rw[d]at z;cases z⟩
 keep:=fun i h h' st k=>st.at fun o e=>k it (by simp) o e
 item:=by intro X hP hw hK hc i mW s σ H E I hf st hg;subst hP hw hK;obtain⟨xs,x,hq,hx⟩:=hg;obtain⟨its,rv,p,hz⟩:=I.tuple hq;obtain⟨u,hu,ru⟩:=rv.get hx;obtain⟨f0,f1,f2,f3,f4,f5⟩:=hf it (by simp);refine wpAny_pyNext_tuple_item st (show s.heap.IsTuple a its.toArray from p) (x:=u) (by simpa using hu) fun h' st' sb=>?_;have I1:Inv X mW σ H { s with heap:=h' }:=I.turned (t':=s.toks) (fun b o hb e=>(sb.2 b hb).trans e) f0 f1 f3 f4 f5;obtain⟨o,e,c,d⟩:=id st';exact⟨u,rfl,yh (s:={ s with heap:=h' }) e c d (by decide) ⟨x,H,I1,ru,⟨rfl,fun ys hy=>by rw[I.wM hy hq];exact hx⟩,st',fun b hb=>(hf b hb).1⟩⟩
 done:=by intro X hP hw hK hc i mW s σ H E I hf st hg;subst hP hw hK;obtain⟨xs,hq,hx⟩:=hg;obtain⟨its,rv,p,hz⟩:=I.tuple hq;obtain⟨f0,f1,f2,f3,f4,f5⟩:=hf it (by simp);have hl:=rv.length;exact wpAny_pyNext_tuple_end (I.ok.hd hc) st (show s.heap.IsTuple a its.toArray from p) (by simp;lia) fun h' eb=>⟨rfl,I.turned (t':=s.toks) (fun b o hb e=>eb b o hb e) f0 f1 f3 f4 f5⟩
 self:=fun _ _ _ _ _ st h=>wpAny_pyIter_tupleiter st h
theorem tG(it:Addr)(lo:Int)(n:Nat):Turn P w K tg (Itr lo n) [it] it (fun i h=>IsRangeIter h it (lo+(i:Nat)*1) ((n:Int)-(i:Nat)) 1) where
 mem:=by simp
 obj:=fun i h st b hb=>by
  have e:b=it:=by simpa using hb
  subst e;exact ⟨_,st,fun v z=>by have z':Data.fields _=Data.cell v:=z;cases z'⟩
 keep:=fun i h h' st k=>k it (by simp) _ st
 item:=by intro X hP hw hK hc i mW s σ H E I hf st hg;subst hP hw hK;obtain⟨f0,f1,f2,f3,f4,f5⟩:=hf it (by simp);have W:=Walks.range (prog:=X.prog) (w:=X.w) (I.ok.hd hc) it lo 1 n;refine W.item i s _ _ hg st fun v h' tk hv st' kk=>?_;obtain⟨t,rfl⟩:=hv;have I1:Inv X mW σ H { s with heap:=h',toks:=tk }:=I.turned (fun b o hb e=>kk b o (by simpa using hb) e) f0 f1 f3 f4 f5;refine⟨_,rfl,yh (s:={ s with heap:=h',toks:=tk }) (n := "range_iterator") st' rfl rfl (by decide) ⟨.int (lo+i),H,I1,⟨t,?_⟩,⟨rfl,rfl⟩,st',fun b hb=>(hf b hb).1⟩⟩;rw[Int.mul_one]
 done:=by intro X hP hw hK hc i mW s σ H E I hf st hg;subst hP hw hK;obtain⟨f0,f1,f2,f3,f4,f5⟩:=hf it (by simp);exact wpAny_pyNext_range_end (I.ok.hd hc) st (by have:n<=i:=hg;lia) fun h' eb=>⟨rfl,I.turned (t':=s.toks) (fun b o hb e=>eb b o hb e) f0 f1 f3 f4 f5⟩
 self:=fun _ _ _ _ _ st h=>wpAny_pyIter_rangeiter st h
end
section
variable{X:Cx}{tg:Expr}
section
variable{mW:List (Addr×Obj)}{fp:List Addr}{s:Shared}{H:Hp}{σ:St}{l:Expr}{h:Heap}{tl:TE}{ta:TA}
def qf(K:Dp)(tl:TE):TI:=fun σ H R=>tl σ H fun x H1=>∃a,x=.ref a/\(∃xs,SqL K H1 a xs)/\R (Itl K a) H1
def yi(K:Dp)(tl:TE):TI:=fun σ H R=>tl σ H fun x H1=>∃a,x=.ref a/\(∃xs,SqT K H1 a xs)/\R (Itt K a) H1
theorem vc(hl:PE X l tl):PI X tg l (qf X.K tl):=by
 intro mW s σ H R I h;refine thn (hl mW s σ H _ I h) fun v s1 ⟨x,H1,I1,r1,q1⟩=>?_;obtain⟨a,e,⟨xs,hq⟩,q⟩:=q1;subst e;cases r1;obtain⟨its,rv,p,hz⟩:=I1.list hq;refine wpAny_pyIter_list p.isList ?_;refine⟨s1.heap.objs.size,[s1.heap.objs.size],_,_,H1,rfl,I1.kept (t':=s1.toks) fun b o e=>Mm _ e,wN a _,⟨_,MM _ rfl,rfl,rfl⟩,fun b hb=>?_,q⟩;have e:b=s1.heap.objs.size:=by simpa using hb
 subst e;exact I1.yg (Mn _) (I1.hok.fresh (Mn _))
theorem yj(hl:PE X l tl):PI X tg l (yi X.K tl):=by
 intro mW s σ H R I h;refine thn (hl mW s σ H _ I h) fun v s1 ⟨x,H1,I1,r1,q1⟩=>?_;obtain⟨a,e,⟨xs,hq⟩,q⟩:=q1;subst e;cases r1;obtain⟨its,rv,p,hz⟩:=I1.tuple hq;refine wpAny_pyIter_tuple (show s1.heap.IsTuple a its.toArray from p) ?_;refine⟨s1.heap.objs.size,[s1.heap.objs.size],_,_,H1,rfl,I1.kept (t':=s1.toks) fun b o e=>Mm _ e,tF a _,⟨_,MM _ rfl,rfl,rfl⟩,fun b hb=>?_,q⟩;have e:b=s1.heap.objs.size:=by simpa using hb
 subst e;exact I1.yg (Mn _) (I1.hok.fresh (Mn _))
theorem qg{R:It->Hp->Prop}{E:Value->Shared->Prop}{lo hi:Int}{t u v:Tok}{tk:Nat}(I:Inv X mW σ H s)(h1:-(2 ^ 62)<=lo)(h2:lo<2 ^ 62)(h3:-(2 ^ 62)<=hi)(h4:hi<2 ^ 62)
  (q:R (Itr lo (hi-lo).toNat) H):wpAny (model X.prog X.w) X.A (pyIter (.ref s.heap.objs.size)) (PIE X mW σ tg R) E { s with heap:=s.heap.push { cls:=.type "range",data:=.fields #[.int lo t,.int hi u,.int 1 v] },toks:=tk }:=by
 refine wpAny_pyIter_range (IsRange.new ..) (small_one h1 h2 h3 h4) ?_;have I1:Inv X mW σ H { s with heap:=s.heap.push { cls:=.type "range",data:=.fields #[.int lo t,.int hi u,.int 1 v] },toks:=tk }:=I.kept fun b o e=>Mm _ e;refine ⟨(s.heap.push { cls:=.type "range",data:=.fields #[.int lo t,.int hi u,.int 1 v] }).objs.size,[(s.heap.push { cls:=.type "range",data:=.fields #[.int lo t,.int hi u,.int 1 v] }).objs.size],_,_,H,rfl,
  I1.kept (t':=tk) fun b o e=>Mm _ e,tG _ lo (hi-lo).toNat,?_,fun b hb=>?_,q⟩
 ·have e1:lo+((0:Nat):Int)*1=lo:=by simp
  have e2:(((hi-lo).toNat:Nat):Int)-((0:Nat):Int)=Builtin.Range.rangeSize lo hi 1:=by rw[rangeSize_one];split<;>lia
  show IsRangeIter _ _ (lo+((0:Nat):Int)*1) ((((hi-lo).toNat:Nat):Int)-((0:Nat):Int)) 1;rw[e1,e2];exact MM _ rfl
 ·have e:b=(s.heap.push { cls:=.type "range",data:=.fields #[.int lo t,.int hi u,.int 1 v] }).objs.size:=by simpa using hb
  subst e;exact I1.yg (Mn _) (I1.hok.fresh (Mn _))
def Eb(ta:TA):TI:=fun σ H R=>ta σ H fun vs H1=>∃j:Int,vs=[.int j]/\-(2 ^ 62)<=j/\j<2 ^ 62/\R (Itr 0 j.toNat) H1
def Ec(ta:TA):TI:=fun σ H R=>ta σ H fun vs H1=>∃i j:Int,vs=[.int i,.int j]/\(-(2 ^ 62)<=i/\i<2 ^ 62/\-(2 ^ 62)<=j/\j<2 ^ 62)/\R (Itr i (j-i).toNat) H1
theorem wO{a:Expr}{p pos:Pos}(hg:Gl X "range")(hm:X.mg "range" = none)(ha:PA X [a] ta)(hs:starEach [a] X.env=[(false,eval a X.env)]:=by rfl):PI X tg (.Call (.Name "range" p) [a] [] pos) (Eb ta):=by
 intro mW s σ H R I h;refine Call_ (fq I hg hm boot_range (NN (thn (ha pos mW s σ H _ I h) fun us s1 ⟨vs,H1,I1,r1,q1⟩=>?_) hs rfl));obtain⟨j,e,q1,q2,q⟩:=q1;subst e;cases r1 with
 |cons r rr=>cases rr;obtain⟨t,rfl⟩:=r;exact call_range_1 (qg I1 (by lia) (by lia) q1 q2 (by simpa using q))
theorem wQ{a b:Expr}{p pos:Pos}(hg:Gl X "range")(hm:X.mg "range" = none)(ha:PA X [a,b] ta)(hs:starEach [a,b] X.env=[(false,eval a X.env),(false,eval b X.env)]:=by rfl)(hs2:starEach [b] X.env=[(false,eval b X.env)]:=by rfl) :
  PI X tg (.Call (.Name "range" p) [a,b] [] pos) (Ec ta):=by
 intro mW s σ H R I h;refine Call_ (fq I hg hm boot_range (NN (thn (ha pos mW s σ H _ I h) fun us s1 ⟨vs,H1,I1,r1,q1⟩=>?_) (by rw[hs,hs2]) (by rw[hs2];rfl)));obtain⟨i,j,e,⟨q1,q2,q3,q4⟩,q⟩:=q1;subst e;cases r1 with
 |cons r rr=>
  cases rr with
  |cons r' rr=>cases rr;obtain⟨t,rfl⟩:=r;obtain⟨t',rfl⟩:=r';exact call_range_2 (qg I1 q1 q2 q3 q4 q)
def FU(wi:TI)(g:TG)(tb:TS):TS:=fun D σ H=>wi σ H fun J H1=>∃W:Nat->Nat->St->Hp->Prop,(∃m,W 0 m σ H1)/\∀i m σ H,W i m σ H ->
 (J.stop i H/\D.nx σ H)\/(J.go i H/\∃N:St->Hp->Prop,(∀σ' H',N σ' H'->∃m',m'<m/\W (i+1) m' σ' H')/\∀x H',J.yld i H x H'->g x σ H' fun σ2 H2=>tb { D with nx:=N,ct:=N,bk:=D.nx } σ2 H2)
noncomputable def j3(fp:List Addr)(h:Heap):List (Addr×Obj):=fp.filterMap fun b=>(h.get? b).map fun o=>(b,o)
theorem dX{b:Addr}{o:Obj}(hb:b∈fp)(e:h.get? b=some o):(b,o)∈j3 fp h:=ON.mpr ⟨b,hb,by rw[e];rfl⟩
theorem wR{p:Addr×Obj}(hp:p∈j3 fp h):p.1∈fp/\h.get? p.1=some p.2:=by
 obtain⟨b,hb,e⟩:=ON.mp hp;cases q:h.get? b with
 |none=>rw[q]at e;cases e
 |some o=>rw[q]at e;have e':(b,o)=p:=Option.some.inj e;subst e';exact⟨hb,q⟩
theorem Inv.pinned(I:Inv X mW σ H s)(hf:∀b∈fp,j0 X mW H b)(ho:∀b∈fp,∃o,s.heap.get? b=some o/\∀v,o.data≠.cell v):Inv X (mW++j3 fp s.heap) σ H s:=
 I.u7 fun p hp=>(Mw.mp hp).elim (fun z=>I.pin p (MK _ z)) fun z=>by obtain⟨hb,e⟩:=wR z;obtain⟨f0,f1,f2,_⟩:=hf p.1 hb;obtain⟨o,e',d⟩:=ho p.1 hb;rw[e]at e';cases e';exact⟨e,f0,f1,f2,d⟩
theorem Inv.iC{mW pl:List (Addr×Obj)}(I:Inv X (mW++pl) σ H s):Inv X mW σ H s:=I.u7 fun p hp=>I.pin p (MK _ (MJ _ hp))
theorem yk{iter:Expr}{body:List Stmt}{wi:TI}{g:TG}{tb:TS}{pos:Pos}(hp:PassesOwn (model X.prog X.w) X.A X.env X.xe)(hc:X.calm=true)(hi:PI X tg iter wi)(hg:PG X tg g)(hb:PSs X body tb)
  (hs:∀x,foldedSetIterable iter X.env x=pure x:=by intro _;rfl):PS X (.For tg iter body [] pos) (FU wi g tb):=by
 intro mW s σ H D I h;refine wpAny_For (thn (hi mW s σ H _ I h) fun v s1 h1=>thn h1 fun itv s2 h2=>?_) hs;obtain⟨it,fp,tn,J,H2,e,I2,T,st2,f2,W,⟨m0,w0⟩,turn⟩:=h2;subst e;have stat:∀{H':Hp},(∀b∈fp,H' b=none)->∀b∈fp,j0 X mW H' b:=fun hn b hb=>⟨hn b hb,(f2 b hb).2⟩;refine codeAny_forLoop_any (fun n s'=>∃i σ' H',Inv X mW σ' H' s'/\tn i s'.heap/\(∀b∈fp,H' b=none)/\W i n σ' H') ?_ m0 ⟨0,σ,H2,I2,st2,fun b hb=>(f2 b hb).1,w0⟩;rintro n s3 ⟨i,σ3,H3,I3,st3,fr3,w3⟩;rcases turn i n σ3 H3 w3 with⟨stop,qn⟩ | ⟨go,N,hN,step⟩
 ·refine wpAny_passesOwn hp (thn (T.done X rfl rfl rfl hc i mW s3 σ3 H3 X.xe I3 (stat fr3) st3 stop) fun r s4 ⟨hr,I4⟩=>?_);subst hr;exact wpAny_execs_nil ⟨σ3,H3,I4,qn⟩
 ·refine wpAny_passesOwn hp (thn (T.item X rfl rfl rfl hc i mW s3 σ3 H3 X.xe I3 (stat fr3) st3 go) fun r s4 ⟨u,hr,h4⟩=>?_);subst hr;refine wpAny_passesOwn hp (thn h4 fun _ s5 ⟨x,H5,I5,r5,y5,st5,fr5⟩=>?_);have I5':=I5.pinned (stat fr5) (T.obj _ _ st5);refine wpAny_passesOwn hp (thn (hg _ s5 σ3 H5 x u _ I5' r5 (step x H5 y5)) fun _ s6 ⟨σ6,H6,I6,q6⟩=>?_);refine wpAny_passesOwn hp (thn (hb _ s6 σ6 H6 _ I6 q6) fun f s7 q7=>?_);have again:∀{σ7:St} {H7:Hp},Inv X (mW++j3 fp s5.heap) σ7 H7 s7->N σ7 H7->∃m,m<n/\∃i σ' H',Inv X mW σ' H' s7/\tn i s7.heap/\(∀b∈fp,H' b=none)/\W i m σ' H':=fun {σ7 H7} I7 n7=>by
   obtain⟨m',hm,w7⟩:=hN σ7 H7 n7;refine⟨m',hm,i+1,σ7,H7,I7.iC,T.keep _ _ _ st5 fun b hb o e=>(I7.pin (b,o) (MK _ (MK _ (dX hb e)))).1,fun b hb=>?_,w7⟩;obtain⟨o,e,d⟩:=T.obj _ _ st5 b hb;exact(I7.pin (b,o) (MK _ (MK _ (dX hb e)))).2.1
  cases f with
  |next=>obtain⟨σ7,H7,I7,n7⟩:=q7;exact again I7 n7
  |cont=>obtain⟨σ7,H7,I7,n7⟩:=q7;exact again I7 n7
  |brk=>obtain⟨σ7,H7,I7,q7⟩:=q7;exact⟨σ7,H7,I7.iC,q7⟩
  |ret v=>obtain⟨x7,σ7,H7,I7,r7,q7⟩:=q7;exact⟨x7,σ7,H7,I7.iC,r7,q7⟩
end
end
noncomputable abbrev R2:=V->V->Hp->VK->Prop
def OpR(X:Cx)(f:Value->Value->Sem Value)(r:R2):Prop:=
 ∀(mW:List (Addr×Obj)) (s:Shared) (σ:St) (H:Hp) (x y:V) (v u:Value) (Q:VK),Inv X mW σ H s->RelV x v->RelV y u->r x y H Q ->
  wpAny (model X.prog X.w) X.A (f v u) (EP X mW σ Q) X.xe s
def cz(X:Cx)(f:Value)(r:List V->Hp->VK->Prop):Prop:=
 ∀(mW:List (Addr×Obj)) (s:Shared) (σ:St) (H:Hp) (xs:List V) (us:List Value) (Q:VK),Inv X mW σ H s->Vals xs us->r xs H Q ->
  wpAny (model X.prog X.w) X.A (call f us) (EP X mW σ Q) X.xe s
def Lf(X:Cx)(r:V->Hp->(Bool->Hp->Prop)->Prop):Prop:=
 ∀(mW:List (Addr×Obj)) (s:Shared) (σ:St) (H:Hp) (x:V) (v:Value) (Q:Bool->Hp->Prop),Inv X mW σ H s->RelV x v->r x H Q ->
  wpAny (model X.prog X.w) X.A (truthy v) (TP X mW σ Q) X.xe s
def tOp(r:R2)(ta tb:TE):TE:=fun σ H Q=>ta σ H fun x H1=>tb σ H1 fun y H2=>r x y H2 Q
def rI(C:Int->Int->Prop)(g:Int->Int->V):R2:=fun x y H Q=>∃i j,x=.int i/\y=.int j/\C i j/\Q (g i j) H
def rI0(g:Int->Int->V):R2:=fun x y H Q=>∃i j,x=.int i/\y=.int j/\Q (g i j) H
section
variable{X:Cx}{a b c:Expr}{ta tb tc:TE}{pos:Pos}
theorem FW(ha:PE X a ta)(hb:PE X b tb){mW:List (Addr×Obj)}{s:Shared}{σ:St}{H:Hp}{R:V->V->Hp->Prop}(I:Inv X mW σ H s)
  (h:ta σ H fun x H1=>tb σ H1 fun y H2=>R x y H2) {Q:Value->Shared->Prop} {f:Value->Value->Sem Value}
  (hf:∀v u s2 x y H2,Inv X mW σ H2 s2->RelV x v->RelV y u->R x y H2->wpAny (model X.prog X.w) X.A (f v u) Q X.xe s2) :
  wpAny (model X.prog X.w) X.A (eval a X.env) (fun v s₁=>wpAny (model X.prog X.w) X.A (eval b X.env) (fun u s₂=>wpAny (model X.prog X.w) X.A (f v u) Q X.xe s₂) X.xe s₁) X.xe s:=by
 refine thn (ha mW s σ H _ I h) fun v s1 ⟨x,H1,I1,r1,q1⟩=>?_;refine thn (hb mW s1 σ H1 _ I1 q1) fun u s2 ⟨y,H2,I2,r2,q2⟩=>?_;exact hf v u s2 x y H2 I2 r1 r2 q2
theorem IT{op:Operator}{r:R2}(ho:OpR X (binaryOp op) r)(ha:PE X a ta)(hb:PE X b tb):PE X (.BinOp a op b pos) (tOp r ta tb):=by intro mW s σ H Q I h;exact wpAny_BinOp (FW ha hb I h fun v u s2 x y H2 I2 rx ry q=>ho mW s2 σ H2 x y v u Q I2 rx ry q)
theorem opI{f:Value->Value->Sem Value}{C:Int->Int->Prop}{g:Int->Int->Int}
  (rule:∀(i j:Int) (t u:Tok) (s:Shared) (Q:Value->Shared->Prop) (E:Value->Shared->Prop),C i j->Q (.int (g i j) s.toks) { s with toks:=s.toks+1 }->wpAny (model X.prog X.w) X.A (f (.int i t) (.int j u)) Q E s) :
  OpR X f (rI C fun i j=>.int (g i j)):=by
 intro mW s σ H x y v u Q I rx ry h;obtain⟨i,j,rfl,rfl,hc,q⟩:=h;obtain⟨t,rfl⟩:=rx;obtain⟨t',rfl⟩:=ry;exact rule i j t t' s _ _ hc ⟨.int (g i j),H,I.tok _,⟨_,rfl⟩,q⟩
theorem FY{f:Value->Value->Sem Value}{g:Int->Int->Int}
  (rule:∀(i j:Int) (t u:Tok) (s:Shared) (Q:Value->Shared->Prop) (E:Value->Shared->Prop),Q (.int (g i j) s.toks) { s with toks:=s.toks+1 }->wpAny (model X.prog X.w) X.A (f (.int i t) (.int j u)) Q E s) :
  OpR X f (rI0 fun i j=>.int (g i j)):=by
 intro mW s σ H x y v u Q I rx ry h;obtain⟨i,j,rfl,rfl,q⟩:=h;obtain⟨t,rfl⟩:=rx;obtain⟨t',rfl⟩:=ry;exact rule i j t t' s _ _ ⟨.int (g i j),H,I.tok _,⟨_,rfl⟩,q⟩
theorem BJ{f:Value->Value->Sem Value}{g:Int->Int->Bool}
  (rule:∀(i j:Int) (t u:Tok) (s:Shared) (Q:Value->Shared->Prop) (E:Value->Shared->Prop),Q (.bool (g i j)) s->wpAny (model X.prog X.w) X.A (f (.int i t) (.int j u)) Q E s) :
  OpR X f (rI0 fun i j=>.bl (g i j)):=by
 intro mW s σ H x y v u Q I rx ry h;obtain⟨i,j,rfl,rfl,q⟩:=h;obtain⟨t,rfl⟩:=rx;obtain⟨t',rfl⟩:=ry;exact rule i j t t' s _ _ ⟨.bl (g i j),H,I,rfl,q⟩
def BK(i j:Int):Prop:=0<=j/\j<=1000000/\i.natAbs<2 ^ 64
def yl(i j:Int):Prop:=(-(2 ^ 64)<i/\i<2 ^ 64)\/(-(2 ^ 64)<j/\j<2 ^ 64)
theorem yl.ok{i j:Int}(h:yl i j):IntMulOk i j:=by
 rcases h with⟨h1,h2⟩ | ⟨h1,h2⟩
 ·exact .of_left (intBits_le_64 h1 h2)
 ·exact .of_right (intBits_le_64 h1 h2)
theorem two_pow_nn(k:Nat):(0:Int)<=2 ^ k:=by rw[two_pow_cast];exact Int.natCast_nonneg _
theorem FZ:OpR X (binaryOp .Add) (rI0 fun i j=>.int (i+j)):=FY fun _ _ _ _ _ _ _ q=>add_int q
theorem F2:OpR X (binaryOp .Sub) (rI0 fun i j=>.int (i-j)):=FY fun _ _ _ _ _ _ _ q=>sub_int q
theorem F3:OpR X (binaryOp .Mult) (rI yl fun i j=>.int (i*j)):=opI fun _ _ _ _ _ _ _ hc q=>mul_int q hc.ok
theorem F4:OpR X (binaryOp .Mod) (rI (fun _ j=>0<j) fun i j=>.int (i % j)):=opI fun i j _ _ _ _ _ hc q=>by have h1:(0:Int)<j:=hc;exact mod_int' (by lia) (by rw[Int.fmod_eq_emod_of_nonneg i (by lia)];exact q)
theorem F5:OpR X (binaryOp .Pow) (rI BK fun i j=>.int (i ^ j.toNat)):=opI fun _ _ _ _ _ _ _ hc q=>pow_int_small hc.1 hc.2.1 hc.2.2 q
theorem F6:OpR X (binaryOp .LShift) (rI BK fun i j=>.int (i*2 ^ j.toNat)):=opI fun _ _ _ _ _ _ _ hc q=>lshift_int_small hc.1 hc.2.1 hc.2.2 q
theorem F7:OpR X (binaryOp .RShift) (rI (fun _ j=>0<=j) fun i j=>.int (i / 2 ^ j.toNat)):=opI fun i j _ _ _ _ _ hc q=>rshift_int hc (by rw[Int.fdiv_eq_ediv_of_nonneg i (two_pow_nn _)];exact q)
theorem F8:OpR X (binaryOp .BitAnd) (rI0 fun i j=>.int (OJ i j)):=FY fun _ _ _ _ _ _ _ q=>and_int q
end
section
variable{X:Cx}{a b c:Expr}{ta tb tc:TE}{pos:Pos}
theorem Ed:OpR X (compareOp .Lt) (rI0 fun i j=>.bl (decide (i<j))):=BJ fun _ _ _ _ _ _ _ q=>lt_int q
theorem Ef:OpR X (compareOp .LtE) (rI0 fun i j=>.bl (decide (i<=j))):=BJ fun _ _ _ _ _ _ _ q=>le_int q
theorem IU:OpR X (compareOp .Gt) (rI0 fun i j=>.bl (decide (j<i))):=BJ fun _ _ _ _ _ _ _ q=>gt_int q
theorem IV:OpR X (compareOp .GtE) (rI0 fun i j=>.bl (decide (j<=i))):=BJ fun _ _ _ _ _ _ _ q=>ge_int q
theorem OpR.or{f:Value->Value->Sem Value}{r r':R2}(h:OpR X f r)(h':OpR X f r'):OpR X f (fun x y H Q=>r x y H Q\/r' x y H Q):=by
 intro mW s σ H x y v u Q I rx ry q;rcases q with q | q
 ·exact h mW s σ H x y v u Q I rx ry q
 ·exact h' mW s σ H x y v u Q I rx ry q
theorem dY(b:Expr){op:CmpOp}(h:op≠.In:=by decide)(h2:op≠.NotIn:=by decide):behindInMarks op b=false:=by
 have e1:(op == CmpOp.In)=false:=by cases op<;>first | rfl | exact absurd rfl h
 have e2:(op == CmpOp.NotIn)=false:=by cases op<;>first | rfl | exact absurd rfl h2
 cases b<;>simp[behindInMarks,e1,e2]
theorem BL{op:CmpOp}{r:R2}(ho:OpR X (compareOp op) r)(ha:PE X a ta)(hb:PE X b tb)(hm:behindInMarks op b=false):PE X (.Compare a [op] [b] pos) (tOp r ta tb):=by intro mW s σ H Q I h;exact wpAny_Compare1 (FW ha hb I h fun v u s2 x y H2 I2 rx ry q=>ho mW s2 σ H2 x y v u Q I2 rx ry q) hm
def Eg(t:TE):TT:=fun σ H Q=>t σ H fun x H'=>∃k,x=.bl k/\Q k H'
theorem BN{op:CmpOp}{r:R2}(ho:OpR X (compareOp op) r)(ha:PE X a ta)(hb:PE X b tb)(hm:behindInMarks op b=false):PT X (.Compare a [op] [b] pos) (Eg (tOp r ta tb)):=by
 intro mW s σ H Q I h;refine wpAny_isTrue_Compare1 (thn (ha mW s σ H _ I h) fun v s1 ⟨x,H1,I1,r1,q1⟩=>thn (hb mW s1 σ H1 _ I1 q1) fun u s2 ⟨y,H2,I2,r2,q2⟩=>thn (ho mW s2 σ H2 x y v u _ I2 r1 r2 q2) fun c s3 ⟨z,H3,I3,r3,k,e,q3⟩=>?_) hm
 subst e;cases r3;exact wpAny_truthy_bool ⟨H3,I3,q3⟩
def ym(r r':R2)(ta tb tc:TE):TE:=fun σ H Q=>ta σ H fun x H1=>tb σ H1 fun y H2=>r x y H2 fun z H3=>∃k,z=.bl k /\
 (if k=true then tc σ H3 fun w' H4=>r' y w' H4 Q else Q (.bl false) H3)
theorem yo{op op':CmpOp}{r r':R2}(ho:OpR X (compareOp op) r)(ho':OpR X (compareOp op') r')(ha:PE X a ta)(hb:PE X b tb)(hc:PE X c tc)
  (hm:lastMarks [op,op'] [b,c]=false:=by with_unfolding_all rfl):PE X (.Compare a [op,op'] [b,c] pos) (ym r r' ta tb tc):=by
 intro mW s σ H Q I h;refine Compare_chain (thn (ha mW s σ H _ I h) fun v s1 ⟨x,H1,I1,r1,q1⟩=>chain_link (thn (hb mW s1 σ H1 _ I1 q1) fun u s2 ⟨y,H2,I2,r2,q2⟩=>thn (ho mW s2 σ H2 x y v u _ I2 r1 r2 q2) fun d s3 ⟨z,H3,I3,r3,k,e,q3⟩=>?_)) hm
 subst e;cases r3;refine wpAny_truthy_bool ?_;cases k with
 |false=>exact ite_ff ⟨.bl false,H3,I3,rfl,q3⟩
 |true=>exact ite_tt (chain_last (thn (hc mW s3 σ H3 _ I3 q3) fun w' s4 ⟨z',H4,I4,r4,q4⟩=>ho' mW s4 σ H4 y z' u w' Q I4 r2 r4 q4))
def F9(K:Dp)(x:V)(H:Hp)(k:Bool):Prop:=
 match x with
 |.non=>k=false
 |.bl b=>k=b
 |.int i=>k=(i != 0)
 |.str y=>y.length<=sizeLine/\k=((y.length:Int) != 0)
 |.byt y=>y.size<=sizeLine/\k=((y.size:Int) != 0)
 |.ref p=>(∃xs,SqL K H p xs/\k=!xs.isEmpty)\/(∃xs,SqT K H p xs/\k=!xs.isEmpty)\/∃kvs,H p=some (.dK kvs)/\k=!kvs.isEmpty
 |_=>False
theorem tH{κ:Type}{kvs:List (κ×V)}{vs:List (κ×Value)}(r:KV kvs vs):(!vs.isEmpty)=!kvs.isEmpty:=by cases r<;>rfl
theorem j4{xs:List V}{its:List Value}(r:Vals xs its):(!its.toArray.isEmpty)=!xs.isEmpty:=by cases r<;>simp
theorem j5:(sizeLine:Nat)<2 ^ 63:=by rw[sizeLine_eq];decide
theorem F_:Lf X (fun x H Q=>∃k,F9 X.K x H k/\Q k H):=by
 intro mW s σ H x v Q I rx h;obtain⟨k,e,q⟩:=h;have hl:=j5;have hs:sizeLine=16777216:=sizeLine_eq;cases x with
 |non=>cases rx;have e':k=false:=e;subst e';exact truthy_none ⟨H,I,q⟩
 |bl b=>cases rx;have e':k=b:=e;subst e';exact wpAny_truthy_bool ⟨H,I,q⟩
 |int i=>obtain⟨t,rfl⟩:=rx;have e':k=(i != 0):=e;subst e';exact PySem.P.truthy_int ⟨H,I,q⟩
 |str y=>obtain⟨t,rfl⟩:=rx;obtain⟨hy,e'⟩:y.length<=sizeLine/\k=((y.length:Int) != 0):=e;subst e';exact PySem.P.truthy_str (by lia) ⟨H,I.tok _,q⟩
 |byt y=>obtain⟨t,rfl⟩:=rx;obtain⟨hy,e'⟩:y.size<=sizeLine/\k=((y.size:Int) != 0):=e;subst e';exact PySem.W.truthy_bytes (by lia) ⟨H,I.tok _,q⟩
 |ref p=>
  cases rx;have e':(∃xs,SqL X.K H p xs/\k=!xs.isEmpty)\/(∃xs,SqT X.K H p xs/\k=!xs.isEmpty)\/∃kvs,H p=some (.dK kvs)/\k=!kvs.isEmpty:=e;rcases e' with⟨xs,hx,e'⟩ | ⟨xs,hx,e'⟩ | ⟨kvs,hx,e'⟩
  ·subst e';obtain⟨its,r,pl,hz⟩:=I.list hx;have uH:=r.length;exact wpAny_truthy_list pl.isList (by simp only[Ml];lia) ⟨H,I.tok _,by rw[j4 r];exact q⟩
  ·subst e';obtain⟨its,r,pl,hz⟩:=I.tuple hx;have uH:=r.length;exact truthy_tuple pl (by simp only[Ml];lia) ⟨H,I.tok _,by rw[j4 r];exact q⟩
  ·subst e';obtain⟨hz,hS,vs,r,m⟩:kvs.length<=sizeLine/\(p == sysModules)=false/\∃vs,KV kvs vs/\s.heap.DictOf (aF X.prog X.w) p vs:=I.hok p _ hx;have uH:kvs.length=vs.length:=Paired.length r;exact wpAny_truthy_dict hS m (by lia) ⟨H,I.tok _,by rw[tH r];exact q⟩
 |_=>exact(show False from e).elim
theorem yp(ha:PE X a ta)(he:∀whole,isTrue a X.env whole=(do let v <- whole;standAt a.pos;holding [v] (truthy v))) :
  PT X a (fun σ H Q=>ta σ H fun x H'=>∃k,F9 X.K x H' k/\Q k H'):=by
 intro mW s σ H Q I h;exact isTrue_plain (thn (ha mW s σ H _ I h) fun v s1 ⟨x,H1,I1,r1,q1⟩=>F_ mW s1 σ H1 x v Q I1 r1 q1) (he _)
theorem vals1{x:V}{us:List Value}(r:Vals [x] us):∃u,us=[u]/\RelV x u:=by
 cases r with
 |cons r1 r2=>cases r2;exact⟨_,rfl,r1⟩
theorem vals2{x y:V}{us:List Value}(r:Vals [x,y] us):∃u w',us=[u,w']/\RelV x u/\RelV y w':=by
 cases r with
 |cons r1 r2=>
  cases r2 with
  |cons r3 r4=>cases r4;exact⟨_,_,rfl,r1,r3⟩
theorem wU(hc:X.calm=true):cz X (.builtin "max") (fun xs H Q=>∃i j,xs=[.int i,.int j]/\Q (.int (if j>i then j else i)) H):=by
 intro mW s σ H xs us Q I r h;obtain⟨i,j,rfl,q⟩:=h;obtain⟨u,w',rfl,⟨t,rfl⟩,⟨t',rfl⟩⟩:=vals2 r;refine max_two_ints (I.ok.hd hc) fun h' tk k=>⟨_,H,I.kept k,?_,q⟩;by_cases hj:j>i
 ·rw[if_pos hj,if_pos hj];exact⟨_,rfl⟩
 ·rw[if_neg hj,if_neg hj];exact⟨_,rfl⟩
theorem wV(hc:X.calm=true):cz X (.builtin "min") (fun xs H Q=>∃i j,xs=[.int i,.int j]/\Q (.int (if j<i then j else i)) H):=by
 intro mW s σ H xs us Q I r h;obtain⟨i,j,rfl,q⟩:=h;obtain⟨u,w',rfl,⟨t,rfl⟩,⟨t',rfl⟩⟩:=vals2 r;refine min_two_ints (I.ok.hd hc) fun h' tk k=>⟨_,H,I.kept k,?_,q⟩;by_cases hj:j<i
 ·rw[if_pos hj,if_pos hj];exact⟨_,rfl⟩
 ·rw[if_neg hj,if_neg hj];exact⟨_,rfl⟩
theorem wW:cz X (.type "int") (fun xs H Q=>(∃i,xs=[.int i]/\Q (.int i) H)\/∃k,xs=[.bl k]/\Q (.int (if k then 1 else 0)) H):=by
 intro mW s σ H xs us Q I r h;rcases h with⟨i,rfl,q⟩ | ⟨k,rfl,q⟩
 ·obtain⟨u,rfl,t,rfl⟩:=vals1 r;exact call_int_int ⟨.int i,H,I,⟨_,rfl⟩,q⟩
 ·obtain⟨u,rfl,r1⟩:=vals1 r;cases r1;exact call_int_bool ⟨.int (if k then 1 else 0),H,I.tok _,⟨_,rfl⟩,q⟩
end
section
variable{mA:Str->Option Value}{h:Heap}
structure Ga(h:Heap)(x dx C:Addr)(mA:Str->Option Value):Prop where
 obj:h.get? x=some (O4 C dx)
 ns:h.Ns1 dx mA
 ne:dx≠x
theorem wX{dx:Addr}(n:h.Ns1 dx mA):∃od,h.get? dx=some od/\∀name,O9 name od=some (mA name):=by
 obtain⟨o,es,ep,ho,hd,hk,_,hm⟩:=n;refine⟨o,ho,fun name=>?_⟩;have e:=hm name;unfold nsFind findBy at e;rw[<- Array.find?_toList]at e;unfold O9;rw[hd];dsimp only;split
 ·rename_i y q;rw[q]at e;exact congrArg some e
 ·rename_i q;rw[q]at e;have a:es.toList.any (·.refKey)=false:=by
   rw[List.any_eq_false];intro y hy;obtain⟨z,t,hkey⟩:=hk y (Array.mem_toList_iff.mp hy);simp[DictEntry.refKey,hkey]
  have a':¬es.toList.any (·.refKey)=true:=by rw[a];exact MG
  rw[if_neg a'];exact congrArg some e
theorem Ga.look{x dx C:Addr}(I:Ga h x dx C mA):∃od,PySem.W.InstAt h x (O4 C dx) C (some od)/\∀name,O9 name od=some (mA name):=
 let ⟨od,ho,hl⟩:=wX I.ns
 ⟨od,⟨I.obj,rfl,rfl,ho⟩,hl⟩
theorem iB.some_of{v:V}{o:Option Value}(r:iB (some v) o):∃u,o=some u/\RelV v u:=by
 cases o with
 |none=>exact(show False from r).elim
 |some u=>exact⟨u,rfl,r⟩
end
section
variable{P:Program}{w:World}{H H':Hp}{h h':Heap}{a C dx:Addr}{fs fs':List (Str×V)}
theorem BO(hok:HOk P w H h)(e:H a=some (.ins C dx fs)):∃mA,Ga h a dx C mA/\(∀f,iB (fs.lookup f) (mA f))/\PySem.Within mA (fs.map (·.1))/\fs.length<=1000/\H dx=some (.own a):=by
 obtain⟨d,z,ne,ob,mA,n,r,q⟩:=(show aO P w H h a (.ins C dx fs) from hok a _ e)
 exact⟨mA,⟨ob,n,ne⟩,r,q,z,d⟩
end
structure Cls(K:Dp)(C:Addr):Prop where
 pg:PySem.W.plainGet K C Str.empty=true
 hd:PySem.W.hasDictIn K C=true
 po:PySem.W.plainOver K C=true
 sa:PySem.W.findIn K (.ref C) "__setattr__" = some (some (.builtin "object.__setattr__"))
theorem Cls.get{K:Dp}{C:Addr}(c:Cls K C)(f:Str):PySem.W.plainGet K C f=true:=c.pg
section
variable{X:Cx}{mW:List (Addr×Obj)}{σ:St}{H:Hp}{s:Shared}{A:Around}{E:Value->Shared->Prop}{Q:Value->Shared->Prop}{c:Value}{b:Bool}
inductive iD(K:Dp)(H:Hp):V->Value->Prop where
 |non:iD K H .non (.type "NoneType")
 |bl (x:Bool):iD K H (.bl x) (.type "bool")
 |int (i:Int):iD K H (.int i) (.type "int")
 |str (x:Str):iD K H (.str x) (.type "str")
 |flt (x:UInt64):iD K H (.flt x) (.type "float")
 |lst {a:Addr} {xs:List V} (e:H a=some (.lst xs)):iD K H (.ref a) (.type "list")
 |frz {a:Addr} {o:Obj} {xs:List V} (e:H a=some (.frz o (.lst xs))):iD K H (.ref a) (.type "list")
 |tup {a:Addr} {xs:List V} (e:H a=some (.tup xs)):iD K H (.ref a) (.type "tuple")
 |dK {a:Addr} {kvs:List (Key×V)} (e:H a=some (.dK kvs)):iD K H (.ref a) (.type "dict")
 |dT {a:Addr} {kvs:List (List Key×V)} {ts:List Addr} (e:H a=some (.dT kvs ts)):iD K H (.ref a) (.type "dict")
 |ins {a C dx:Addr} {fs:List (Str×V)} (e:H a=some (.ins C dx fs)) (cl:Cls K C) (ha:PySem.W.findIn K (.ref C) "__class__" = some (some (.builtin "object.__class__")))
   (hn:PySem.W.specialIn K (.builtin "object.__class__") "__get__" = some (some (.builtin "getset_descriptor.__get__"))) (htk:PySem.W.takesIn K (.builtin "object.__class__")=some true)
   (hm:PySem.W.mroIn K C (.type "object")=some true):iD K H (.ref a) (.ref C)
theorem wY{x:V}{u t:Value}(I:Inv X mW σ H s)(rx:RelV x u)(ty:iD X.K H x t)(e:Pa X.K t c=some b)(h:∀tk,Q (.bool b) { s with toks:=tk }) :
  wpAny (model X.prog X.w) A (call (.builtin "isinstance") [u,c]) Q E s:=by
 cases ty with
 |non=>cases (show u=Value.none from rx);exact Ni PySem.W.kitx_none I.kIn NB e (fun z=>nomatch z) h
 |bl y=>cases (show u=Pp y from rx);exact Ni PySem.W.kitx_bool I.kIn NB e (fun z=>nomatch z) h
 |int i=>obtain⟨t,q⟩:=(show ∃t,u=Value.int i t from rx);cases q;exact Ni PySem.W.kitx_int I.kIn NB e (fun z=>nomatch z) h
 |str y=>obtain⟨t,q⟩:=(show ∃t,u=Pg y t from rx);cases q;exact Ni PySem.W.kitx_str I.kIn NB e (fun z=>nomatch z) h
 |flt y=>obtain⟨t,q⟩:=(show ∃t,u=Value.float y t from rx);cases q;exact Ni PySem.W.kitx_float I.kIn NB e (fun z=>nomatch z) h
 |@lst a xs ea=>
  cases (show u=MO a from rx);obtain⟨_,_,n,_,h1⟩:=(show aO X.prog X.w H s.heap a (.lst xs) from I.hok a _ ea)
  exact Ni PySem.W.kitx_list I.kIn ⟨_,h1,rfl⟩ e (fun z=>nomatch z) h
 |@frz a ob xs ea=>
  cases (show u=MO a from rx);obtain⟨_,_,_,n,_,h1⟩:=(show aO X.prog X.w H s.heap a (.frz ob (.lst xs)) from I.hok a _ ea)
  exact Ni PySem.W.kitx_list I.kIn ⟨_,h1,rfl⟩ e (fun z=>nomatch z) h
 |@tup a xs ea=>
  cases (show u=MO a from rx);obtain⟨_,_,_,p⟩:=(show aO X.prog X.w H s.heap a (.tup xs) from I.hok a _ ea)
  obtain⟨o,h1,h2,_⟩:=p;exact Ni PySem.W.kitx_tuple I.kIn ⟨o,h1,h2⟩ e (fun z=>nomatch z) h
 |@dK a kvs ea=>
  cases (show u=MO a from rx);obtain⟨_,_,vs,_,p⟩:=(show aO X.prog X.w H s.heap a (.dK kvs) from I.hok a _ ea)
  obtain⟨o,es,ep,h1,h2,_⟩:=p;exact Ni PySem.W.kitx_dict I.kIn ⟨o,h1,h2.1⟩ e (fun z=>nomatch z) h
 |@dT a kvs ts ea=>
  cases (show u=MO a from rx);obtain⟨_,_,xs,_,o,es,ep,h1,h2,_⟩:=(show aO X.prog X.w H s.heap a (.dT kvs ts) from I.hok a _ ea)
  exact Ni PySem.W.kitx_dict I.kIn ⟨o,h1,h2.1⟩ e (fun z=>nomatch z) h
 |@ins a C dx fs ea cl ha hn htk hm=>cases (show u=MO a from rx);obtain⟨mA,O,_⟩:=BO I.hok ea;obtain⟨od,J,_⟩:=O.look;exact Ni (PySem.W.kitx_own (cl.get _) cl.hd ha hn htk hm) I.kIn J e (fun z=>nomatch z) h
end
section
variable{A:Around}{k:Nat}
structure aZ(k:Nat)(A:Around):Prop where
 hd:A.handled=none
 dp:A.depth+3*k+5<recursionLimit
 un:A.units+16*k+200<cLine
 gd:A.guards=some []
theorem aZ.mono{j k:Nat}(r:aZ k A)(h:j<=k):aZ j A:=⟨r.hd,by have:=r.dp;lia,by have:=r.un;lia,r.gd⟩
theorem aZ.deeper(r:aZ (k+1) A)(env:Env):aZ k (A.deeper env):=
 ⟨r.hd,by have:=r.dp;show A.depth+1+3*k+5<_;lia,by have:=r.un;show A.units+3+16*k+200<_;lia,r.gd⟩
theorem aZ.depth(r:aZ k A):A.depth<recursionLimit:=by have:=r.dp;lia
theorem aZ.units(r:aZ k A):A.units+64<cLine:=by have:=r.un;lia
def wZ:TA:=fun _ H Q=>Q [] H
def ve(ta:TE)(tr:TA):TA:=fun σ H Q=>ta σ H fun x H1=>tr σ H1 fun xs H2=>Q (x::xs) H2
end
section
variable{X:Cx}{e:Expr}{es:List Expr}{te:TE}{t:TA}{pos:Pos}
theorem oJ:PA X [] wZ:=fun _ _ _ _ H Q I h=>Oi ⟨[],H,I,.nil,h⟩
theorem oK(ha:PE X e te)(hr:PA X es t)(hs:starEach (e::es) X.env=(false,eval e X.env)::starEach es X.env:=by rfl):PA X (e::es) (ve te t):=by intro pos mW s σ H Q I h;rw[hs];show wpAny _ _ (spliced ((false,eval e X.env)::backTo pos (starEach es X.env))) _ _ s;refine OO (thn (ha mW s σ H _ I h) fun u s1 ⟨x,H1,I1,r1,q1⟩=>?_);exact thn (hr pos mW s1 σ H1 _ I1 q1) fun us s2 ⟨xs,H2,I2,r2,q2⟩=>⟨x::xs,H2,I2,.cons r1 r2,q2⟩
def IW(t:TA):TE:=fun σ H Q=>t σ H fun xs H1=>xs.length<=sizeLine/\∀p,H1 p=none->Q (.ref p) (upd H1 p (.tup xs))
def yq(t:TA):TE:=fun σ H Q=>t σ H fun xs H1=>xs.length<=sizeLine/\∀p,H1 p=none->Q (.ref p) (upd H1 p (.lst xs))
theorem Gb{x1}(h:PA X es t):PE X (.Tuple es x1 pos) (IW t):=by intro mW s σ H Q I hq;refine wpAny_Tuple_spliced (thn (h pos mW s σ H _ I hq) fun us s1 ⟨xs,H1,I1,r,z,q⟩=>⟨by rw[<- r.length];exact z,?_⟩);have hf:H1 s1.heap.objs.size=none:=I1.hok.fresh (Mn _);refine⟨.ref s1.heap.objs.size,upd H1 s1.heap.objs.size (.tup xs),I1.laid (t':=s1.toks) (fun b u e=>Mm _ e) (Mn _) ?_,rfl,q _ hf⟩;exact⟨z,us,r,⟨_,MM _ rfl,rfl,_,rfl⟩⟩
theorem tK(h:PA X es t):PE X (.List es pos) (yq t):=by intro mW s σ H Q I hq;refine wpAny_List_spliced (thn (h pos mW s σ H _ I hq) fun us s1 ⟨xs,H1,I1,r,z,q⟩=>⟨by rw[<- r.length];exact z,?_⟩);have hf:H1 s1.heap.objs.size=none:=I1.hok.fresh (Mn _);refine⟨.ref s1.heap.objs.size,upd H1 s1.heap.objs.size (.lst xs),I1.laid (t':=s1.toks) (fun b u e=>Mm _ e) (Mn _) ?_,rfl,q _ hf⟩;exact⟨z,us,0,r,MM _ rfl⟩
end
noncomputable abbrev Sp:=List V->Hp->VK->XK->Prop
noncomputable abbrev CXT:=List Env->Hp->Shared->XK->Value->Shared->Prop
structure BP(P:Program)(w:World)(K:Dp)(mg:Str->Option Value)(base:Heap)(A:Around)(outer:List Env)(s:Shared)(H:Hp):Prop where
 frames:A.frames=some outer
 mod:Mod K mg base
 bs:∀b o,base.get? b=some o->s.heap.get? b=some o/\H b=none
 bsz:base.objs.size<=s.heap.objs.size
 jY:s.heap.FunFrames base outer
 frf:∀b∈frs outer,H b=none
 hok:HOk P w H s.heap
 bare:AllBare s.gens
def CE(outer:List Env)(P:Program)(w:World)(H:Hp)(s:Shared)(Q:VK)(u:Value)(s':Shared):Prop:=
 ∃v H',s'.os=s.os/\AllBare s'.gens/\Un (frs outer) [] H H' s.heap s'.heap/\HOk P w H' s'.heap/\RelV v u/\Q v H'
def CR(CX:CXT)(outer:List Env)(P:Program)(w:World)(H:Hp)(s:Shared)(Q:VK)(E:XK)(r:Result)(s':Shared):Prop:=
 match r with
 |.ok (.ret u)=>CE outer P w H s Q u s'
 |.ok _=>False
 |.error e=>CX outer H s E e s'
structure aV(P:Program)(w:World)(K:Dp)(mg:Str->Option Value)(base:Heap)(CX:CXT)(k:Nat)(f:Addr)(fd:FuncData)(ps:List Str)(sp:Sp):Prop where
 len:∀vs H Q E,sp vs H Q E->vs.length=ps.length
 run:∀(A:Around) (outer:List Env) (s:Shared) (H:Hp) (args:Args) (us:List Value) (vs:List V) (Q:VK) (E:XK),aZ k A->BP P w K mg base A outer s H->BindsTo s fd args (ps.zip us)->Vals vs us->sp vs H Q E ->
  codeAny (model P w) A (.call (.ref f) args) (CR CX outer P w H s Q E) s
section
variable{X:Cx}{mW:List (Addr×Obj)}{σ:St}{H:Hp}{s s':Shared}
theorem Inv.Lg(I:Inv X mW σ H s):BP X.prog X.w X.K X.mg X.base X.A X.stack s H:=
 ⟨I.ok.frames,I.ok.mod,I.bs,MH I.ok.bsz I.sz,I.stack,I.u6,I.hok,I.bare⟩
theorem Inv.after{Q:VK}{u:Value}(I:Inv X mW σ H s)(h:CE X.stack X.prog X.w H s Q u s'):EP X mW σ Q u s':=by obtain⟨v,H',os,bare,un,hok,r,q⟩:=h;obtain⟨hh,g,d,t,os'⟩:=s';obtain rfl:os'=s.os:=os;exact⟨v,H',I.call (h':=hh) (g':=g) (d':=d) (t':=t) (ch:=[]) un hok bare (fun b z=>absurd z (by simp)),r,q⟩
end
def j6(sp:Sp)(dvs:List V)(E:XK)(t:TA):TE:=fun σ H Q=>t σ H fun vs H1=>sp (vs++dvs) H1 Q E
def Binds(K:Dp)(fd:FuncData)(ps:List Str)(ds:List Value):Prop:=
 ∀(s:Shared) (us:List Value),K.In s.heap->(us++ds).length=ps.length->BindsTo s fd ⟨us,[]⟩ (ps.zip (us++ds))
theorem Binds.all{K:Dp}{fd:FuncData}{ps:List Str}(h:∀us:List Value,us.length=ps.length->bindArgs fd ⟨us,[]⟩=pure (ps.zip us)):Binds K fd ps []:=fun s us _ hl=>by rw[Nc]at hl ⊢;exact .of_eq (h us hl)
def Passes(CX:CXT)(X:Cx)(E:XK):Prop:=∀(mW:List (Addr×Obj)) (σ:St) (H:Hp) (s:Shared) (e:Value) (s':Shared),Inv X mW σ H s->CX X.stack H s E e s'->X.xe e s'
section
variable{X:Cx}{CX:CXT}{k:Nat}{f C:Addr}{fd:FuncData}{ps:List Str}{sp:Sp}{dvs:List V}{ds:List Value}{E:XK}{x m:Str}{p pos Hu:Pos}{e o:Expr}{es:List Expr}{ta:TE}{t:TA}
theorem yr{mW:List (Addr×Obj)}{σ:St}{H:Hp}{s:Shared}{Q:VK}{us:List Value}{vs:List V}(F:aV X.prog X.w X.K X.mg X.base CX k f fd ps sp)(hr:aZ k X.A)(hb:Binds X.K fd ps ds)(hd:Vals dvs ds)(hx:Passes CX X E)
  (I:Inv X mW σ H s) (r:Vals vs us) (h:sp (vs++dvs) H Q E):wpAny (model X.prog X.w) X.A (call (.ref f) us) (EP X mW σ Q) X.xe s:=by
 have r2:Vals (vs++dvs) (us++ds):=r.append hd;have hl:(us++ds).length=ps.length:=by rw[<- r2.length];exact F.len _ _ _ _ h
 refine wpAny_call (codeAny_mono (F.run X.A X.stack s H ⟨us,[]⟩ (us++ds) (vs++dvs) Q E hr I.Lg (hb s us I.kIn hl) r2 h) fun r s' hq=>?_);cases r with
 |error e=>exact hx mW σ H s e s' I hq
 |ok fl=>
  cases fl with
  |ret u=>exact I.after hq
  |next=>exact MZ hq
  |brk=>exact MZ hq
  |cont=>exact MZ hq
theorem jN(F:aV X.prog X.w X.K X.mg X.base CX k f fd ps sp)(hr:aZ k X.A)(hg:Gl X x)(hm:X.mg x=some (.ref f))(hk:Nu X.K (.ref f)=true)(hb:Binds X.K fd ps ds)(hd:Vals dvs ds)(hx:Passes CX X E)
  (ha:PA X (e::es) t) (J8:(x == ("__debug__" : Str))=false:=by decide) (he:starEach (e::es) X.env=(false,eval e X.env)::starEach es X.env:=by rfl) (CP:(backTo pos (starEach es X.env)).any (·.1)=false:=by rfl) :
  PE X (.Call (.Name x p) (e::es) [] pos) (j6 sp dvs E t):=by
 intro mW s σ H Q I h;refine wpAny_Call_Name_kw (u9 I hg hm ?_ J8);refine PySem.W.callWith_K (h₀:=X.base) I.ok.mod.kin hk (thn (ha pos mW s σ H _ I h) fun us s1 ⟨vs,H1,I1,r,q⟩=>⟨I1.kIn,?_⟩) he CP;exact yr F hr hb hd hx I1 r q
end
section
variable{x:Str}{v:Value}
structure aC(N P:List Str)(sc:Scope):Prop where
 kind:sc.kind=.function
 co:sc.isCoroutine=false
 gen:sc.isGenerator=false
 nd:N.Nodup
 pre:N.take P.length=P
 par:∀x∈P,sc.names.lookup x=some .local\/sc.names.lookup x=some .cell
 Gd:∀y∈sc.names,y.2≠.free
theorem m9{kindOf:Str->Option NameKind}:∀{binds:List (Str×Value)} {m:Str->Option Value},(∀v,(x,v)∉binds)->bindL kindOf binds m x=m x
 |[],_,_=>rfl
 |(n,v)::r,m,h=>by
  unfold bindL;rw[m9 fun w hw=>h w (Dk _ hw)];split
  ·have:x≠n:=by rintro rfl;exact h v Ds
   simp[this]
  ·rfl
theorem ng{kindOf:Str->Option NameKind}:∀{binds:List (Str×Value)} {m:Str->Option Value},(∀v,(x,v)∉binds)->bindC kindOf binds m x=m x
 |[],_,_=>rfl
 |(n,v)::r,m,h=>by
  unfold bindC;rw[ng fun w hw=>h w (Dk _ hw)];split
  ·rfl
  ·have:x≠n:=by rintro rfl;exact h v Ds
   simp[this]
theorem nh{kindOf:Str->Option NameKind}:∀{P:List Str} {vs:List Value} {i:Nat} {m:Str->Option Value},P.Nodup->P[i]?=some x->vs[i]?=some v->kindOf x=some .local ->
  bindL kindOf (P.zip vs) m x=some v
 |[],_,_,_,_,h,_,_=>by simp at h
 |_::_,[],_,_,_,_,h,_=>by simp at h
 |p::P,w::vs,0,m,nd,h1,h2,hk=>by simp at h1 h2;subst h1;subst h2;show bindL kindOf ((p,w)::P.zip vs) m p=_;unfold bindL;rw[m9 fun v hv=>(MB.mp nd).1 (O5 hv).1,if_pos hk];simp
 |p::P,w::vs,i+1,m,nd,h1,h2,hk=>by show bindL kindOf ((p,w)::P.zip vs) m x=_;unfold bindL;exact nh (i:=i) (MB.mp nd).2 (by simpa using h1) (by simpa using h2) hk
theorem ni{kindOf:Str->Option NameKind}:∀{P:List Str} {vs:List Value} {i:Nat} {m:Str->Option Value},P.Nodup->P[i]?=some x->vs[i]?=some v->kindOf x≠some .local ->
  bindC kindOf (P.zip vs) m x=some v
 |[],_,_,_,_,h,_,_=>by simp at h
 |_::_,[],_,_,_,_,h,_=>by simp at h
 |p::P,w::vs,0,m,nd,h1,h2,hk=>by simp at h1 h2;subst h1;subst h2;show bindC kindOf ((p,w)::P.zip vs) m p=_;unfold bindC;rw[ng fun v hv=>(MB.mp nd).1 (O5 hv).1,if_neg hk];simp
 |p::P,w::vs,i+1,m,nd,h1,h2,hk=>by show bindC kindOf ((p,w)::P.zip vs) m x=_;unfold bindC;exact ni (i:=i) (MB.mp nd).2 (by simpa using h1) (by simpa using h2) hk
noncomputable def start(N:List Str)(vs:List V):St:=vs.map some++Mk (N.length-vs.length) none
noncomputable def tL(CX:CXT)(P:Program)(w:World)(K:Dp)(mg:Str->Option Value)(base:Heap)(N:List Str)(qual:Str)(scope:Scope)(f:Addr)(cd:Value)(A:Around)(outer:List Env)(s:Shared)(H:Hp)(E:XK):Cx where
 prog:=P
 w:=w
 K:=K
 mg:=mg
 base:=base
 A:=A.deeper (envOfC qual scope s.heap.objs.size f cd)
 N:=N
 s₀:=s
 H₀:=H
 env:=envOfC qual scope s.heap.objs.size f cd
 outer:=outer
 stack:=envOfC qual scope s.heap.objs.size f cd::outer
 ex:=[]
 calm:=true
 fn:=fun _=>true
 pn:=[]
 xe:=fun e s'=>wpAny (model P w) (A.deeper (envOfC qual scope s.heap.objs.size f cd)) (leaving (envOfC qual scope s.heap.objs.size f cd) e) (fun _ s''=>CX outer H s E e s'') (fun e' s''=>CX outer H s E e' s'') s'
theorem qh{sc:Scope}{n:Nat}(h:sc.names.lookup x=some .cell):∃c,(cellsFrom n sc.names []).lookup x=some c:=by have q:=PySem.W.cellsFrom_some sc.names n [] (.inl h);exact NX.mp q
theorem w_{CX:CXT}{P:Program}{w:World}{K:Dp}{mg:Str->Option Value}{base:Heap}{N ps:List Str}{qual:Str}{scope:Scope}{f:Addr}{cd:Value}{A:Around}{outer:List Env}{s s1:Shared}{H:Hp}{E:XK}{us:List Value}{vs:List V}
  (S:aC N ps scope) (hd:A.handled=none) (e0:BP P w K mg base A outer s H) (hl:vs.length=ps.length) (r:Vals vs us)
  (x:InCallC s s.heap.objs.size (bindL (envOfC qual scope s.heap.objs.size f cd).kindOf (ps.zip us) fun _=>none) (cellsFrom (s.heap.objs.size+1) scope.names []) (bindC (envOfC qual scope s.heap.objs.size f cd).kindOf (ps.zip us) fun _=>none) s1) :
  Inv (tL CX P w K mg base N qual scope f cd A outer s H E) [] (start N vs) H s1:=by
 have CP:ps.length<=N.length:=by have:=congrArg List.length S.pre;rw[Nf]at this;lia
 obtain⟨h1,tk,rfl,hk⟩:=x.done;have noA:∀b:Addr,b∉(tL CX P w K mg base N qual scope f cd A outer s H E).ex:=fun b z=>absurd (show b∈([]:List Addr) from z) (by simp);refine ⟨⟨e0.mod,S.kind,rfl,rfl,Mn _,fun y z c h1 h2=>?_,fun y hy=>?_,fun y c _ h=>?_,fun _=>hd,Around.frames_deeper e0.frames,.inr ⟨rfl,rfl⟩,fun b z=>absurd z (noA b),e0.bs,e0.bsz,fun b _ _=>noA b,fun b z=>absurd z (noA b),e0.jY,e0.frf⟩,
  rfl,e0.bare,Un.kept hk,⟨_,x.toInCall.ns,fun i y v h1 h2 h3=>?_⟩,fun y c h=>⟨_,x.cell y c h⟩,e0.hok.fresh (Mn _),fun y c h=>?_,fun p hp=>absurd (show p∈([]:List (Addr×Obj)) from hp) (by simp),e0.hok.kept hk,?_⟩
 ·exact name_of_addr x.apart (PySem.mem_of_lookup h1) (PySem.mem_of_lookup h2)
 ·have hy:scope.names.lookup y=some .cell\/scope.names.lookup y=some .free:=hy;rcases hy with hy | hy
  ·exact qh hy
  ·exact absurd rfl (S.Gd _ (PySem.mem_of_lookup hy))
 ·exact OV (x.above y c (PySem.mem_of_lookup h))
 ·have hi:i<vs.length:=by
   unfold start at h2;by_cases hi:i<vs.length
   ·exact hi
   ·rw[MU (by simpa using hi)]at h2;rw[Nb]at h2;split at h2<;>cases h2
  have ha:vs[i]?=some v:=by
   unfold start at h2;rw[Mz (by simpa using hi),MS]at h2;cases e:vs[i]? with
   |none=>rw[e]at h2;cases h2
   |some a=>rw[e]at h2;cases h2;rfl
  obtain⟨u,hu,rv⟩:=r.get ha;have hp:ps[i]?=some y:=by rw[<- S.pre,NY (by lia)];exact h1
  have ndP:ps.Nodup:=by rw[<- S.pre];exact S.nd.sublist (List.take_sublist _ _)
  refine⟨u,rv,?_⟩;rcases S.par y (NC hp) with k | k
  ·exact .inl ⟨k,nh ndP hp hu k⟩
  ·obtain⟨c,e⟩:=qh (n:=s.heap.objs.size+1) k;refine .inr ⟨.inl k,c,e,?_⟩;have q:=x.cell y c e;rw[ni ndP hp hu (by show scope.names.lookup y≠_;rw[k];decide)]at q;exact q
 ·exact e0.hok.fresh (OV (x.above y c (PySem.mem_of_lookup h)))
 ·unfold start;show _=N.length;rw[MA,Mj,N8]
  lia
theorem IX{CX:CXT}{P:Program}{w:World}{K:Dp}{mg:Str->Option Value}{base:Heap}{k:Nat}{f:Addr}{name qual:Str}{params:Arguments}{body:List Stmt}{scope:Scope}{dV kV doc pm cdv ct oc:Value}{an od:Option Addr}
  {osl:Array (Option Value)} {N ps:List Str} {sp:Sp} (lk:K.lookup f=some ⟨oc,od,.func (M6 name qual params body scope dV kV doc pm an cdv ct),osl⟩) (Fp:OL K cdv qual=true) (S:aC N ps scope)
  (len:∀vs H Q E,sp vs H Q E->vs.length=ps.length)
  (hbody:∀ (A:Around) (outer:List Env) (s:Shared) (H:Hp) (vs:List V) (Q:VK) (E:XK),aZ k (A.deeper (envOfC qual scope s.heap.objs.size f cdv))→sp vs H Q E →
   ∃t,PSs (tL CX P w K mg base N qual scope f cdv A outer s H E) body t/\t { nx:=fun _ H'=>Q .non H',rt:=Q } (start N vs) H) :
  aV P w K mg base CX (k+1) f (M6 name qual params body scope dV kV doc pm an cdv ct) ps sp:=by
 refine⟨len,fun A outer s H args us vs Q E hr e0 hb r hsp=>?_⟩;have hl:=len _ _ _ _ hsp;have KX:K.In s.heap:=e0.mod.kin.keeps fun b o e=>(e0.bs b o e).1;have lim:s.heap.NoLimit:=e0.mod.nolimit.keeps fun b o e=>(e0.bs b o e).1;have hkind:∀y∈ps.zip us,scope.names.lookup y.1=some .local\/(scope.names.lookup y.1=some .cell/\((cellsFrom (s.heap.objs.size+1) scope.names []).lookup y.1).isSome=true):=fun⟨n,v⟩ hy=>by
  rcases S.par n (O5 hy).1 with q | q
  ·exact .inl q
  ·exact .inr ⟨q,PySem.W.cellsFrom_some _ _ _ (.inl q)⟩
 refine codeAny_call_function hr.depth (KX _ _ lk) rfl S.co S.gen rfl (PySem.W.codeRec_of KX Fp) (hb _ _ _ _ ?_);refine wpAny_newFunctionEnv_cells S.kind hkind fun env he s1 x=>?_;subst he;refine⟨lim.keeps x.toInCall.keep,codeAny_func ?_⟩;obtain⟨t,ht,hq⟩:=hbody A outer s H vs Q E (hr.deeper _) hsp;have I:Inv (tL CX P w K mg base N qual scope f cdv A outer s H E) [] (start N vs) H s1:=w_ S hr.hd e0 hl r x;refine wpAny_mono (ht [] s1 (start N vs) H _ I hq) (fun fl s' hs=>?_) fun e s' hs=>hs;have EC:∀{σ':St} {H':Hp} {v:V} {u:Value},Inv (tL CX P w K mg base N qual scope f cdv A outer s H E) [] σ' H' s'->RelV v u->Q v H'->CE outer P w H s Q u s':=
  fun {σ' H' v u} J rv q=>⟨v,H',J.os,J.bare,J.base,J.hok,rv,q⟩
 cases fl with
 |ret u=>obtain⟨v,σ',H',J,rv,q⟩:=hs;exact EC J rv q
 |next=>obtain⟨σ',H',J,q⟩:=hs;exact EC (v:=V.non) (u:=Value.none) J rfl q
 |brk=>obtain⟨_,_,_,q⟩:=hs;exact MZ q
 |cont=>obtain⟨_,_,_,q⟩:=hs;exact MZ q
end
section
variable{X:Cx}{x:Str}{p pos:Pos}{e:Expr}{es:List Expr}{t:TA}{id T:String}{r:List V->Hp->VK->Prop}
def tCB(r:List V->Hp->VK->Prop)(t:TA):TE:=fun σ H Q=>t σ H fun vs H1=>r vs H1 Q
theorem qi(hc:cz X (.builtin id) r)(hg:Gl X x)(hm:X.mg x=none)(hv:bootBuiltins x=some (.builtin id))(ha:PA X (e::es) t)(hn:x ≠ "__name__" := by decide)(J8:(x == ("__debug__" : Str))=false:=by decide)
  (he:starEach (e::es) X.env=(false,eval e X.env)::starEach es X.env:=by rfl) (CP:(backTo pos (starEach es X.env)).any (·.1)=false:=by rfl):PE X (.Call (.Name x p) (e::es) [] pos) (tCB r t):=by
 intro mW s σ H Q I h;refine wpAny_Call_Name_kw (fq I hg hm hv ?_ hn J8);exact PyProof.Rows.callWith_builtin1 (thn (ha pos mW s σ H _ I h) fun us s1 ⟨vs,H1,I1,r1,q1⟩=>hc mW s1 σ H1 vs us Q I1 r1 q1) he CP
theorem xg(hc:cz X (.type T) r)(hg:Gl X x)(hm:X.mg x=none)(hv:bootBuiltins x=some (.type T))(ha:PA X (e::es) t)(hn:x ≠ "__name__" := by decide)(J8:(x == ("__debug__" : Str))=false:=by decide)
  (he:starEach (e::es) X.env=(false,eval e X.env)::starEach es X.env:=by rfl) (CP:(backTo pos (starEach es X.env)).any (·.1)=false:=by rfl):PE X (.Call (.Name x p) (e::es) [] pos) (tCB r t):=by
 intro mW s σ H Q I h;refine wpAny_Call_Name_kw (fq I hg hm hv ?_ hn J8);exact NN (thn (ha pos mW s σ H _ I h) fun us s1 ⟨vs,H1,I1,r1,q1⟩=>hc mW s1 σ H1 vs us Q I1 r1 q1) he CP
end
end L2
namespace HT
open PySem PyProof.Rows
section
variable{prog:Program}{w:World}{A:Around}{E:Value->Shared->Prop}{s:Shared}
section
variable{lo hi:Option Int}{vl vu:Value}
noncomputable def sIx(n d:Nat):Option Int->Nat
 |none=>d
 |some v=>if v<0 then (v+(n:Int)).toNat else min v.toNat n
theorem Ge(n d:Nat)(hd:d<=n)(o:Option Int):sIx n d o<=n:=by
 cases o with
 |none=>exact hd
 |some v=>
  show (if v<0 then (v+(n:Int)).toNat else min v.toNat n)<=n;by_cases hv:v<0
  ·rw[if_pos hv];lia
  ·rw[if_neg hv];exact Nat.min_le_right _ _
theorem vf(v:Int)(n d:Nat):(if v<0 then max (v+(n:Int)) 0 else min v (n:Int))=((sIx n d (some v):Nat):Int):=by
 show (if v<0 then max (v+(n:Int)) 0 else min v (n:Int))=(((if v<0 then (v+(n:Int)).toNat else min v.toNat n):Nat):Int)
 by_cases hv:v<0
 ·simp only[if_pos hv];lia
 ·simp only[if_neg hv];lia
theorem tM(lo hi:Option Int)(n:Nat):Oe lo hi 1 (n:Int)=(((sIx n 0 lo:Nat):Int),((sIx n n hi:Nat):Int)):=by
 have h1:¬((1:Int)<0):=by lia
 unfold Oe;simp only[h1,if_false];refine Prod.ext ?_ ?_
 ·cases lo with
  |none=>rfl
  |some v=>exact vf v n 0
 ·cases hi with
  |none=>rfl
  |some v=>exact vf v n n
theorem tN(i j:Nat):NU (i:Int) (j:Int) 1=j-i:=by
 unfold NU;have h1:(1:Int)>0:=by lia
 simp only[h1,if_true,Int.ediv_one];split<;>lia
theorem j7{v:Value}{o:Option Int}{Q:Option Int->Shared->Prop}(p:IsPart v o)(h:Q o s):wpAny (model prog w) A (Builtin.Slice.slicePartIndex v) Q E s:=by
 cases p with
 |none=>exact slicePart_none h
 |int i t=>exact slicePart_int h
theorem iY{sl:Addr}{n:Nat}{Q:Int×Int×Nat->Shared->Prop}(hs:s.heap.IsSliceOf sl vl vu .none)(pl:IsPart vl lo)(pu:IsPart vu hi)
  (h:Q (((sIx n 0 lo:Nat):Int),1,sIx n n hi-sIx n 0 lo) s):wpAny (model prog w) A (Builtin.Slice.sliceApplied (.ref sl) (pure (n:Int))) Q E s:=by
 obtain⟨os,hos,hcs,hds⟩:=id hs;unfold Builtin.Slice.sliceApplied Builtin.Slice.sliceFields;refine wpAny_bind (wpAny_bind (wpAny_field hos hds (x:=vl) rfl (wpAny_bind (wpAny_field hos hds (x:=vu) rfl (wpAny_bind (wpAny_field hos hds (x:=.none) rfl (wpAny_pure ?_)))))));refine wpAny_bind (slicePart_none ?_);show wpAny _ _ (if ((1:Int) == 0)=true then _ else _) _ _ s;rw[if_neg (by decide)];refine wpAny_bind (j7 pl (wpAny_bind (j7 pu (wpAny_bind (wpAny_pure ?_)))));show wpAny _ _ (match Oe lo hi 1 (n:Int) with | (lo,hi)=>pure (lo,(1:Int),NU lo hi 1)) _ _ s;rw[tM lo hi n];show wpAny _ _ (pure (((sIx n 0 lo:Nat):Int),(1:Int),NU ((sIx n 0 lo:Nat):Int) ((sIx n n hi:Nat):Int) 1)) _ _ s;rw[tN];exact wpAny_pure h
theorem yt(xs:Array Value)(i k:Nat):((Mv k).filterMap fun(m:Nat)=>xs[((i:Int)+(m:Int)*1).toNat]?).toArray=((xs.toList.drop i).take k).toArray:=by
 have e:(fun(m:Nat)=>xs[((i:Int)+(m:Int)*1).toNat]?)=fun m=>xs[i+m]?:=by
  funext m
  have:((i:Int)+(m:Int)*1).toNat=i+m:=by lia
  rw[this]
 rw[e];have:=pick_run xs i k;rw[List.filterMap_map]at this;have e2:((fun x=>xs[x]?)∘fun x=>i+x)=fun m=>xs[i+m]?:=rfl;rw[e2]at this;rw[this]
theorem iE{t sl:Addr}{items:Array Value}{Q:Value->Shared->Prop}(ht:IsTup s.heap t items)(hs:s.heap.IsSliceOf sl vl vu .none)(pl:IsPart vl lo)(pu:IsPart vu hi)
  (hw:¬(sIx items.size 0 lo=0/\sIx items.size items.size hi=items.size))
  (h:Q (.ref s.heap.objs.size) { s with heap:=s.heap.push { cls:=.type "tuple",data:=.seq ((items.toList.drop (sIx items.size 0 lo)).take (sIx items.size items.size hi-sIx items.size 0 lo)).toArray } })
  (hsz:items.size<=sizeLine):wpAny (model prog w) A (getItem (.ref t) (.ref sl)) Q E s:=by
 have vg:sizeOk (.seq ((items.toList.drop (sIx items.size 0 lo)).take (sIx items.size items.size hi-sIx items.size 0 lo)).toArray):=by show ((items.toList.drop (sIx items.size 0 lo)).take (sIx items.size items.size hi-sIx items.size 0 lo)).toArray.size<=sizeLine;rw[Ml,Nf,List.length_drop,NJ];omega
 have hj:sIx items.size items.size hi<=items.size:=Ge _ _ (Mn _) hi;obtain⟨os,hos,hcs,hds⟩:=id hs;have hTs:s.TypeIs (.ref sl) "slice" := ⟨os,hos,hcs⟩
 unfold getItem
 try with_reducible refine wpAny_holding ?_
 first | refine wpAny_bind (wpAny_pure ?_) | skip
 refine wpAny_bind (wpAny_sequenceKey ht.typeIs (by decide) ?_);refine wpAny_bind (wpAny_callSpecial?_slot (name:=N9 "__getitem__") ht.typeIs N3
  (wpAny_call_entry N3 ht.typeIs entry_tuple_getitem ?_ (args_tuple_getitem _ _)))
 show wpAny _ _ (Builtin.Tuple.tupleItemsOf (.ref t) >>= _) _ _ s;refine wpAny_bind (tupleItemsOf_ ht ?_);refine wpAny_bind (wpAny_typeOf hTs ?_);rw[if_pos (by decide)];refine wpAny_bind (iY hs pl pu ?_);have hno:¬((((sIx items.size 0 lo:Nat):Int) == 0&&(1:Int) == 1&&(sIx items.size items.size hi-sIx items.size 0 lo) == items.size)=true):=by intro q;rw[MD,MD]at q;have q1:((sIx items.size 0 lo:Nat):Int)=0:=eq_of_beq q.1.1;have q2:sIx items.size items.size hi-sIx items.size 0 lo=items.size:=eq_of_beq q.2;exact hw ⟨by omega,by omega⟩
 show wpAny _ _ (if (((sIx items.size 0 lo:Nat):Int) == 0&&(1:Int) == 1&&(sIx items.size items.size hi-sIx items.size 0 lo) == items.size)=true then _ else _) _ _ s;rw[if_neg hno,yt]
 first
  |exact wpAny_bind (m:=NZ _) (wpAny_newObj_type (wpAny_pure ⟨_,rfl,wpAny_pure h⟩) vg)
  |exact wpAny_bind (m:=NZ _) (wpAny_newObj_type (wpAny_bind (wpAny_pure (wpAny_pure ⟨_,rfl,wpAny_pure h⟩))) vg)
  |exact wpAny_bind (wpAny_bind (m:=NZ _) (wpAny_newObj_type (wpAny_pure (wpAny_pure ⟨_,rfl,wpAny_pure h⟩)) vg))
  |exact wpAny_bind (wpAny_bind (m:=NZ _) (wpAny_newObj_type (wpAny_pure ⟨_,rfl,wpAny_pure h⟩) vg))
end
end
end HT
namespace L2
open PySem PySem.Spec PyProof.Rows
noncomputable abbrev TO:=St->Hp->(Option Int->Hp->Prop)->Prop
def PO(X:Cx)(e:Option Expr)(t:TO):Prop:=
 ∀(mW:List (Addr×Obj)) (s:Shared) (σ:St) (H:Hp) (Q:Option Int->Hp->Prop),Inv X mW σ H s->t σ H Q ->
  wpAny (model X.prog X.w) X.A (evalPart e X.env) (fun u s'=>∃o H',Inv X mW σ H' s'/\IsPart u o/\Q o H') X.xe s
def oM:TO:=fun _ H Q=>Q none H
def yu(t:TE):TO:=fun σ H Q=>t σ H fun x H1=>∃i,x=.int i/\Q (some i) H1
section
variable{X:Cx}{e:Expr}{te:TE}{lo hi:Option Expr}{tl th:TO}{pos p2:Pos}
theorem BQ:PO X none oM:=by intro mW s σ H Q I h;rw[evalPart_none];exact wpAny_pure ⟨none,H,I,.none,h⟩
theorem BR(h:PE X e te):PO X (some e) (yu te):=by intro mW s σ H Q I hw;rw[evalPart_some];refine thn (h mW s σ H _ I hw) fun u s1 ⟨x,H1,I1,r1,q1⟩=>?_;obtain⟨i,rfl,q⟩:=q1;obtain⟨t,rfl⟩:=r1;exact⟨some i,H1,I1,.int i t,q⟩
def SlR(X:Cx)(r:V->Option Int->Option Int->Hp->VK->Prop):Prop:=
 ∀(mW:List (Addr×Obj)) (s:Shared) (σ:St) (H:Hp) (x:V) (v vl vu:Value) (lo hi:Option Int) (sl:Addr) (Q:VK),Inv X mW σ H s->RelV x v->s.heap.IsSliceOf sl vl vu .none->IsPart vl lo->IsPart vu hi->r x lo hi H Q ->
  ∃T id,typeLookup (.type T) "__getitem__" = pure (some (.builtin id))/\s.TypeIs v T/\wpAny (model X.prog X.w) X.A (getItem v (.ref sl)) (EP X mW σ Q) X.xe s
def tSl(r:V->Option Int->Option Int->Hp->VK->Prop)(te:TE)(tl th:TO):TE:=fun σ H Q=>te σ H fun x H1=>tl σ H1 fun l H2=>th σ H2 fun u H3=>r x l u H3 Q
theorem qj{r:V->Option Int->Option Int->Hp->VK->Prop}(hr:SlR X r)(he:PE X e te)(hl:PO X lo tl)(hu:PO X hi th):PE X (.Subscript e (.Slice lo hi none p2) pos) (tSl r te tl th):=by intro mW s σ H Q I h;refine Subscript_ (thn (he mW s σ H _ I h) fun v s1 ⟨x,H1,I1,r1,q1⟩=>?_);refine wpAny_Slice (thn (hl mW s1 σ H1 _ I1 q1) fun vl s2 ⟨l,H2,I2,pl,q2⟩=>thn (hu mW s2 σ H2 _ I2 q2) fun vu s3 ⟨u,H3,I3,pu,q3⟩=>?_);rw[evalPart_none];refine wpAny_pure ?_;have I4:Inv X mW σ H3 { s3 with heap:=s3.heap.push { cls:=.type "slice",data:=.fields #[vl,vu,.none] } }:=I3.kept (t':=s3.toks) fun b ob q=>Mm _ q;obtain⟨T,id,hT,ht,hg⟩:=hr mW { s3 with heap:=s3.heap.push { cls:=.type "slice",data:=.fields #[vl,vu,.none] } } σ H3 x v vl vu l u s3.heap.objs.size Q I4 r1 (Heap.IsSliceOf.new ..) pl pu q3;show wpAny (model X.prog X.w) X.A (subscriptTail e (.Slice lo hi none p2) v (.ref s3.heap.objs.size)) (EP X mW σ Q) X.xe { s3 with heap:=s3.heap.push { cls:=.type "slice",data:=.fields #[vl,vu,.none] } };exact tail_any (ops:=[.ref s3.heap.objs.size,v]) ht hT hg (by with_unfolding_all rfl)
noncomputable def mO(xs:List V)(lo hi:Option Int):List V:=(xs.drop (HT.sIx xs.length 0 lo)).take (HT.sIx xs.length xs.length hi-HT.sIx xs.length 0 lo)
theorem jt(xs:List V)(lo hi:Option Int):(mO xs lo hi).length<=xs.length:=by
 unfold mO;rw[Nf,List.length_drop]
 lia
def IY(K:Dp):V->Option Int->Option Int->Hp->VK->Prop:=fun x lo hi H Q=>∃a xs,x=.ref a/\SqT K H a xs /\
 ¬(HT.sIx xs.length 0 lo=0/\HT.sIx xs.length xs.length hi=xs.length)/\∀p,H p=none->Q (.ref p) (upd H p (.tup (mO xs lo hi)))
theorem Gf:SlR X (IY X.K):=by
 intro mW s σ H x v vl vu lo hi sl Q I rx hs pl pu h;obtain⟨a,xs,rfl,hx,hw,q⟩:=h;cases rx;obtain⟨its,r,ht,hz⟩:=I.tuple hx;have uH:its.toArray.size=xs.length:=by rw[Ml];exact r.length.symm
 refine⟨"tuple",_,N3.lookup,ht.typeIs,?_⟩;refine HT.iE ht hs pl pu (by rw[uH];exact hw) ?_ (by rw[uH];exact hz);rw[uH];refine⟨.ref s.heap.objs.size,_,I.laid (t':=s.toks) (o:=.tup (mO xs lo hi)) (fun b ob q=>Mm _ q) (Mn _) ?_,rfl,q _ (I.hok.fresh (Mn _))⟩;exact⟨MH (jt xs lo hi) hz,_,(r.drop (HT.sIx xs.length 0 lo)).take (HT.sIx xs.length xs.length hi-HT.sIx xs.length 0 lo),IsTup.new _ _⟩
end
noncomputable def ixN(n:Nat)(i:Int):Option Nat:=if 0<=i then (if i<n then some i.toNat else none) else if -(n:Int)<=i then some (i+n).toNat else none
noncomputable def atI{α:Type}(xs:List α)(i:Int):Option α:=(ixN xs.length i).bind fun j=>xs[j]?
theorem vh{n:Nat}{i:Int}{j:Nat}(h:ixN n i=some j):seqIndex? i n=some j/\j<n/\-(n:Int)<=i/\i<n:=by
 unfold ixN at h;by_cases h0:0<=i
 ·rw[if_pos h0]at h;by_cases h1:i<n
  ·rw[if_pos h1]at h;have e:i.toNat=j:=Option.some.inj h;exact⟨by rw[seqIndex_of h0 h1,e],by lia,by lia,h1⟩
  ·rw[if_neg h1]at h;cases h
 ·rw[if_neg h0]at h;by_cases h1:-(n:Int)<=i
  ·rw[if_pos h1]at h;have e:(i+n).toNat=j:=Option.some.inj h;exact⟨by rw[seqIndex_neg (by lia) h1,e],by lia,h1,by lia⟩
  ·rw[if_neg h1]at h;cases h
theorem vj{α:Type}{xs:List α}{i:Int}{v:α}(h:atI xs i=some v):∃j,seqIndex? i xs.length=some j/\xs[j]?=some v/\j<xs.length/\-(xs.length:Int)<=i/\i<xs.length:=by
 unfold atI at h;cases e:ixN xs.length i with
 |none=>rw[e]at h;cases h
 |some j=>rw[e]at h;obtain⟨h1,h2,h3,h4⟩:=vh e;exact⟨j,h1,h,h2,h3,h4⟩
def oN(b:Expr):Prop:=∀o i,subscripted b false o i=operate [o,i] (getItem o i)
def IxR(X:Cx)(r:R2):Prop:=
 ∀(value slice:Expr) (mW:List (Addr×Obj)) (s:Shared) (σ:St) (H:Hp) (x y:V) (v u:Value) (Q:VK),Inv X mW σ H s->RelV x v->RelV y u->r x y H Q ->
  subscripted slice false v u=operate [v,u] (getItem v u)->wpAny (model X.prog X.w) X.A (subscriptTail value slice v u) (EP X mW σ Q) X.xe s
def MtR(X:Cx)(id:String)(r:V->List V->Hp->VK->Prop):Prop:=
 ∀(mW:List (Addr×Obj)) (s:Shared) (σ:St) (H:Hp) (x:V) (xs:List V) (v:Value) (us:List Value) (Q:VK),Inv X mW σ H s->RelV x v->Vals xs us->r x xs H Q ->
  wpAny (model X.prog X.w) X.A (call (.builtin id) (v::us)) (EP X mW σ Q) X.xe s
section
variable{X:Cx}{a b:Expr}{ta tb:TE}{pos:Pos}
section
variable{mW:List (Addr×Obj)}{s:Shared}{H:Hp}{σ:St}
theorem IxR.or{r r':R2}(h:IxR X r)(h':IxR X r'):IxR X (fun x y H Q=>r x y H Q\/r' x y H Q):=by
 intro value slice mW s σ H x y v u Q I rx ry q hs;rcases q with q | q
 ·exact h value slice mW s σ H x y v u Q I rx ry q hs
 ·exact h' value slice mW s σ H x y v u Q I rx ry q hs
theorem Eh{r:R2}(hr:IxR X r)(ha:PE X a ta)(hb:PE X b tb)(hs:oN b):PE X (.Subscript a b pos) (tOp r ta tb):=by intro mW s σ H Q I h;exact Subscript_ (FW ha hb I h fun v u s2 x y H2 I2 rx ry q=>hr a b mW s2 σ H2 x y v u Q I2 rx ry q (hs _ _))
def Gg(K:Dp):R2:=fun x y H Q=>∃p xs i v,x=.ref p/\y=.int i/\SqL K H p xs/\atI xs i=some v/\Q v H
def IZ(K:Dp):R2:=fun x y H Q=>∃p xs i v,x=.ref p/\y=.int i/\SqT K H p xs/\atI xs i=some v/\Q v H
theorem vm:IxR X (Gg X.K):=by
 intro value slice mW s σ H x y v u Q I rx ry h hs;obtain⟨p,xs,i,z,rfl,rfl,hq,he,q⟩:=h;cases rx;obtain⟨t,rfl⟩:=ry;obtain⟨its,r,pl,hz⟩:=I.list hq;obtain⟨j,h1,h2,h3,h4,h5⟩:=vj he;obtain⟨w,ew,rw'⟩:=r.get h2;have hl:=r.length;have hn:=j5;have EC:EP X mW σ Q w s:=⟨z,H,I,rw',q⟩
 by_cases h0:0<=i
 ·have hj:i.toNat=j:=by
   rw[seqIndex_of h0 h5]at h1;exact Option.some.inj h1
  exact item_listR pl.isList h0 (by lia) (by rw[hj];simpa using ew) EC hs
 ·have hj:(i+(its.toArray.size:Int)).toNat=j:=by
   rw[seqIndex_neg (by lia) h4]at h1;rw[Ml,<- hl];exact Option.some.inj h1
  exact subscriptTail_builtinR (x:=w) pl.isList.typeIs slot_list_getitem.lookup
   (wpAny_getItem_list_neg (Q:=fun r s'=>r=w/\EP X mW σ Q r s') pl.isList (by lia) (by rw[Ml]<;>lia) (by lia) (by rw[hj];simpa using ew) ⟨rfl,EC⟩) hs
theorem Gh:IxR X (IZ X.K):=by
 intro value slice mW s σ H x y v u Q I rx ry h hs;obtain⟨p,xs,i,z,rfl,rfl,hq,he,q⟩:=h;cases rx;obtain⟨t,rfl⟩:=ry;obtain⟨its,r,pl,hz⟩:=I.tuple hq;obtain⟨j,h1,h2,h3,h4,h5⟩:=vj he;obtain⟨w,ew,rw'⟩:=r.get h2;have hl:=r.length;have hn:=j5;have EC:EP X mW σ Q w s:=⟨z,H,I,rw',q⟩
 exact subscriptTail_builtinR (x:=w) pl.typeIs slot_tuple_getitem.lookup
  (getItem_tuple (j:=j) (Q:=fun r s'=>r=w/\EP X mW σ Q r s') pl (by lia) (by lia) (by rw[Ml,<- hl];exact h1) (by simpa using ew) ⟨rfl,EC⟩) hs
theorem tO(its:List Value)(n j:Nat)(u:Value):Na (·.setIfInBounds j u) { cls:=.type "list",data:=.seq its.toArray n }={ cls:=.type "list",data:=.seq (its.set j u).toArray n }:=by simp[Na]
theorem Inv.lst{mW:List (Addr×Obj)}{σ:St}{H:Hp}{s:Shared}{p:Addr}{xs:List V}(I:Inv X mW σ H s)(h:H p=some (.lst xs)) :
  ∃(its:List Value) (n:Nat),Vals xs its/\s.heap.get? p=some { cls:=.type "list",data:=.seq its.toArray n }/\xs.length<=sizeLine:=by
 obtain⟨z,its,n,r,e⟩:=I.hok p _ h;exact⟨its,n,r,e,z⟩
theorem Inv.Gi{p:Addr}{xs ys:List V}{its its':List Value}{n n':Nat}{f:Obj->Obj}(I:Inv X mW σ H s)(h:H p=some (.lst xs))
  (ho:s.heap.get? p=some { cls:=.type "list",data:=.seq its.toArray n }) (hf:f { cls:=.type "list",data:=.seq its.toArray n }={ cls:=.type "list",data:=.seq its'.toArray n' }) (r:Vals ys its') (hz:ys.length<=sizeLine) (t:Nat) :
  Inv X mW σ (upd H p (.lst ys)) { s with heap:=s.heap.update p f,toks:=t }:=by
 have e:(s.heap.update p f).get? p=some { cls:=.type "list",data:=.seq its'.toArray n' }:=by rw[Oa f ho (by rw[hf]<;>rfl),hf]
 refine I.write (x:=p) (e:=p) (by rw[h];trivial) (.inl rfl) (fun b u hb q=>(Heap.get?_update_other _ _ (Ne.symm hb)).trans q) ⟨_,e⟩ ?_;exact⟨hz,its',n',r,e⟩
def Ei:V->V->V->Hp->(Hp->Prop)->Prop:=fun o i v H Q=>∃p xs k j,o=.ref p/\i=.int k/\H p=some (.lst xs)/\ixN xs.length k=some j/\Q (upd H p (.lst (xs.set j v)))
theorem set_list:IP X Ei:=by
 intro mW s σ H o i v ov iv u Q I ro ri rv h;obtain⟨p,xs,k,j,rfl,rfl,hp,hj,q⟩:=h;cases ro;obtain⟨t,rfl⟩:=ri;obtain⟨its,n,r,ho,hz⟩:=I.lst hp;obtain⟨h1,h2,h3,h4⟩:=vh hj;have hl:=r.length;have hn:=j5;have I':Inv X mW σ (upd H p (.lst (xs.set j v))) { s with heap:=s.heap.update p (Na (·.setIfInBounds j u)) }:=
  I.Gi hp ho (tO its n j u) (r.set rv j) (by rw[MX];exact hz) s.toks
 by_cases h0:0<=k
 ·have hk:k.toNat=j:=by
   rw[seqIndex_of h0 h4]at h1;exact Option.some.inj h1
  exact PySem.W.ki_setAt ho h0 (by lia) (by rw[Ml,<- hl];exact h4) (by rw[hk];exact⟨_,I',q⟩)
 ·have hk:(k+(its.toArray.size:Int)).toNat=j:=by
   rw[seqIndex_neg (by lia) h3]at h1;rw[Ml,<- hl];exact Option.some.inj h1
  exact PySem.W.ki_setBack ho (by lia) (by rw[Ml,<- hl];exact h3) (by lia) (by rw[hk];exact⟨_,I',q⟩)
theorem oO(lo hi:Option Int)(n:Nat):(sliceBounds lo hi none n).1=((HT.sIx n 0 lo:Nat):Int)/\(sliceBounds lo hi none n).2.1=((HT.sIx n n hi:Nat):Int)/\(sliceBounds lo hi none n).2.2=1:=by
 refine⟨?_,?_,rfl⟩
 ·cases lo with
  |none=>simp[sliceBounds,HT.sIx]
  |some i=>
   simp only[sliceBounds,HT.sIx,Option.getD_none,show (1:Int)>0 by decide,if_true];by_cases h:i<0
   ·simp only[h,if_true]<;>lia
   ·simp only[h,if_false]<;>lia
 ·cases hi with
  |none=>simp[sliceBounds,HT.sIx]
  |some i=>
   simp only[sliceBounds,HT.sIx,Option.getD_none,show (1:Int)>0 by decide,if_true];by_cases h:i<0
   ·simp only[h,if_true]<;>lia
   ·simp only[h,if_false]<;>lia
theorem mP(its:List Value)(lo hi:Option Int):slicePick its.toArray lo hi none=((its.drop (HT.sIx its.length 0 lo)).take (HT.sIx its.length its.length hi-HT.sIx its.length 0 lo)).toArray:=by obtain⟨h1,h2,h3⟩:=oO lo hi its.toArray.size;unfold slicePick;rw[h1,h2,h3];simp only[sliceRange_one,pick_run,Ml]<;>rfl
def I0(K:Dp):V->Option Int->Option Int->Hp->VK->Prop:=fun x lo hi H Q=>∃a xs,x=.ref a/\SqL K H a xs/\∀p,H p=none->Q (.ref p) (upd H p (.lst (mO xs lo hi)))
theorem BS:SlR X (I0 X.K):=by intro mW s σ H x v vl vu lo hi sl Q I rx hs pl pu h;obtain⟨a,xs,rfl,hx,q⟩:=h;cases rx;obtain⟨its,r,ht,hz⟩:=I.list hx;have uH:=r.length;refine⟨"list",_,slot_list_getitem.lookup,ht.isList.typeIs,?_⟩;refine wpAny_getItem_list_slice ht.isList hs pl pu .none (by simp) ?_ (by rw[Ml]<;>lia);rw[mP,<- uH];refine⟨.ref s.heap.objs.size,_,I.laid (t':=s.toks) (o:=.lst (mO xs lo hi)) (fun b ob q=>Mm _ q) (Mn _) ?_,rfl,q _ (I.hok.fresh (Mn _))⟩;exact⟨MH (jt xs lo hi) hz,_,0,(r.drop (HT.sIx xs.length 0 lo)).take (HT.sIx xs.length xs.length hi-HT.sIx xs.length 0 lo),MM _ rfl⟩
theorem oQ:cz X (.builtin "len") (fun xs H Q=>∃p ys,xs=[.ref p]/\(SqL X.K H p ys\/SqT X.K H p ys)/\Q (.int ys.length) H):=by
 intro mW s σ H xs us Q I r h;obtain⟨p,ys,rfl,hq,q⟩:=h;obtain⟨u,rfl,rx⟩:=vals1 r;cases rx;have hn:=j5;rcases hq with hq | hq
 ·obtain⟨its,r',pl,hz⟩:=I.list hq;have uH:=r'.length;exact Calls.call_len_list pl.isList (by simp only[Ml]<;>lia) ⟨.int ys.length,H,I.tok _,⟨s.toks+1,by rw[Ml,uH]⟩,q⟩
 ·obtain⟨its,r',pl,hz⟩:=I.tuple hq;have uH:=r'.length;exact len_tuple pl (by simp only[Ml]<;>lia) ⟨.int ys.length,H,I.tok _,⟨s.toks+1,by rw[Ml,uH]⟩,q⟩
theorem oR:cz X (.type "list") (fun xs H Q=>∃p ys,xs=[.ref p]/\(SqL X.K H p ys\/SqT X.K H p ys)/\∀l,H l=none->Q (.ref l) (upd H l (.lst ys))):=by
 intro mW s σ H xs us Q I r h;obtain⟨p,ys,rfl,hq,q⟩:=h;obtain⟨u,rfl,rx⟩:=vals1 r;cases rx;have EC:∀(its:List Value),Vals ys its->ys.length<=sizeLine->∀(h':Heap) (c':Nat),(∀b o',s.heap.get? b=some o'->h'.get? b=some o') ->
   h'.get? s.heap.objs.size=some { cls:=.type "list",dict:=none,data:=.seq its.toArray c',slots:=#[] }->EP X mW σ Q (.ref s.heap.objs.size) { s with heap:=h' }:=fun its r' hz h' c' kp e=>
  ⟨.ref s.heap.objs.size,_,I.laid (t':=s.toks) kp (Mn _) (show aO X.prog X.w _ h' _ (.lst ys) from ⟨hz,its,c',r',e⟩),rfl,q _ (I.hok.fresh (Mn _))⟩
 rcases hq with hq | hq
 ·obtain⟨its,r',pl,hz⟩:=I.list hq;have uH:=r'.length;obtain⟨o,ho,hc,n,hd⟩:=pl.isList;exact call_list_seq p (.inl rfl) ho hc hd (fun h' c' kp e=>EC its r' hz h' c' kp e) (by simp only[Ml]<;>lia)
 ·obtain⟨its,r',pl,hz⟩:=I.tuple hq;have uH:=r'.length;obtain⟨o,ho,hc,n,hd⟩:=pl;exact call_list_seq p (.inr rfl) ho hc hd (fun h' c' kp e=>EC its r' hz h' c' kp e) (by simp only[Ml]<;>lia)
theorem mQ:cz X (.type "tuple") (fun xs H Q=>∃p ys,xs=[.ref p]/\((SqL X.K H p ys/\∀l,H l=none->Q (.ref l) (upd H l (.tup ys)))\/(SqT X.K H p ys/\Q (.ref p) H))):=by
 intro mW s σ H xs us Q I r h;obtain⟨p,ys,rfl,h⟩:=h;obtain⟨u,rfl,rx⟩:=vals1 r;cases rx;rcases h with⟨hq,q⟩ | ⟨hq,q⟩
 ·obtain⟨its,r',pl,hz⟩:=I.list hq;have uH:=r'.length;refine call_tuple_list pl.isList (fun h' kp=>?_) (by simp only[Ml]<;>lia);have I1:Inv X mW σ H { s with heap:=h' }:=I.kept (t':=s.toks) kp;have I2:Inv X mW σ (upd H h'.objs.size (.tup ys)) { s with heap:=h'.push { cls:=.type "tuple",data:=.seq its.toArray } }:=
   I1.laid (t':=s.toks) (fun b o e=>Mm _ e) (Mn _) (show aO X.prog X.w _ _ _ (.tup ys) from ⟨hz,its,r',IsTup.new _ _⟩)
  exact⟨.ref h'.objs.size,_,I2,rfl,q _ (I1.hok.fresh (Mn _))⟩
 ·obtain⟨its,r',pl,hz⟩:=I.tuple hq;exact call_tuple_same pl ⟨.ref p,H,I,rfl,q⟩
def tyV(K:Dp)(T:String)(x:V)(H:Hp):Prop:=match x with
 |.str _=>T = "str"
 |.int _=>T = "int"
 |.ref p=>(T = "list" /\ ∃xs,SqL K H p xs)\/(T = "tuple" /\ ∃o,K.lookup p=some o/\o.cls=.type "tuple" /\ o.dict=none) \/
   (T = "dict" /\ ((∃kvs,H p=some (.dK kvs))\/∃kvs ts,H p=some (.dT kvs ts)))\/(T = "set" /\ ∃S n,H p=some (.set S n))
 |_=>False
theorem Gj{T:String}{x:V}{v:Value}(I:Inv X mW σ H s)(r:RelV x v)(ty:tyV X.K T x H) :
  s.TypeIs v T/\∀a,v=.ref a->∃ob,s.heap.get? a=some ob/\ob.dict=none:=by
 cases x with
 |str z=>obtain⟨t,rfl⟩:=r;cases (show T = "str" from ty);exact⟨typeIs_str s z t,fun _ e=>nomatch e⟩
 |int i=>obtain⟨t,rfl⟩:=r;cases (show T = "int" from ty);exact⟨typeIs_int s i t,fun _ e=>nomatch e⟩
 |ref p=>
  cases r;rcases ty with⟨rfl,xs,hq⟩ | ⟨rfl,o,hk,hc,hd⟩ | ⟨rfl,hk⟩ | ⟨rfl,S,n,hk⟩
  ·obtain⟨its,_,pl,_⟩:=I.list hq;refine⟨pl.isList.typeIs,fun a e=>?_⟩;cases e;obtain⟨o,n,e,c,hd,_⟩:=pl;exact⟨o,e,hd⟩
  ·refine⟨⟨o,I.kIn p o hk,hc⟩,fun a e=>?_⟩;cases e;exact⟨o,I.kIn _ o hk,hd⟩
  ·have z:∃o,s.heap.get? p=some o/\o.ExactDict:=by
    rcases hk with⟨kvs,hk⟩ | ⟨kvs,ts,hk⟩
    ·obtain⟨_,_,_,_,o,_,_,e,ex,_⟩:=I.hok p _ hk;exact⟨o,e,ex⟩
    ·obtain⟨_,_,_,_,o,_,_,e,ex,_⟩:=I.hok p _ hk;exact⟨o,e,ex⟩
   obtain⟨o,e,ex⟩:=z;refine⟨⟨o,e,ex.1⟩,fun a e2=>?_⟩;cases e2;exact⟨o,e,ex.2.1⟩
  ·obtain⟨o,_,_,_,e,ex,_⟩:=I.hok p _ hk;refine⟨⟨o,e,ex.1⟩,fun a e2=>?_⟩;cases e2;exact⟨o,e,ex.2.1⟩
 |_=>exact MZ ty
def tBM(K:Dp)(T:String)(r:V->List V->Hp->VK->Prop)(to:TE)(t:TA):TE:=fun σ H Q=>to σ H fun x H1=>tyV K T x H1/\t σ H1 fun xs H2=>r x xs H2 Q
variable{o e:Expr}{es:List Expr}{to:TE}{t:TA}{name:Str}{Hu cpos:Pos}{T id:String}{r:V->List V->Hp->VK->Prop}
theorem vn(pa:PlainAttrs T)(slot:Slot T name id)(hty:typeOf (.builtin id)=pure (.type "method_descriptor"))(hm:MtR X id r)(ho:PE X o to)(ha:PA X (e::es) t)
  (J7:attributeBase o name X.env (eval o X.env)=eval o X.env:=by rfl)
  (hfew:((backTo cpos (starEach (e::es) X.env)).all (fun x=>!x.1)&&(backToKw cpos (keywordEach [] X.env)).all (fun x=>x.1.isSome)
   && decide ((e::es).length+([]:List Keyword).length+(if ([]:List Keyword).isEmpty then 0 else 1)<30))=true:=by rfl)
  (J6:(Hu.endLine == cpos.line)=true:=by rfl) (hs:starEach (e::es) X.env=(false,eval e X.env)::starEach es X.env:=by rfl) (EF:(backTo cpos (starEach es X.env)).any (·.1)=false:=by rfl) :
  PE X (.Call (.Attribute o name Hu) (e::es) [] cpos) (tBM X.K T r to t):=by
 intro mW s σ H Q I h;refine wpAny_Call_method_late J7 hfew J6 rfl (thn (ho mW s σ H _ I h) fun v s1 ⟨x,H1,I1,r1,ty,q1⟩=>?_);obtain⟨h1,h2⟩:=Gj I1 r1 ty;refine⟨T,id,pa,slot,hty,h1,h2,?_⟩;have hA:=ha cpos mW s1 σ H1 _ I1 q1;rw[hs]at hA ⊢;refine Ol (by show (false||(backTo cpos (starEach es X.env)).any (·.1))=false;rw[EF]<;>rfl) (OC ?_);exact thn hA fun us s2 ⟨vs,H2,I2,r2,q2⟩=>hm mW s2 σ H2 x vs v us Q I2 r1 r2 q2
end
end
def MtM(X:Cx)(id:String)(r:V->List V->Hp->VK->Prop):Prop:=
 ∀(mW:List (Addr×Obj)) (s:Shared) (σ:St) (H:Hp) (x:V) (xs:List V) (v:Value) (us:List Value) (Q:VK),Inv X mW σ H s->RelV x v->Vals xs us->r x xs H Q ->
  wpAny (model X.prog X.w) X.A (call (.builtin id) (v::us)) (EP X mW σ Q) X.xe s
theorem Vals.one:∀{x:V} {us:List Value},Vals [x] us->∃u,us=[u]/\RelV x u
 |_,_,.cons r .nil=>⟨_,rfl,r⟩
theorem Vals.eraseIdx:∀{xs:List V} {us:List Value} (i:Nat),Vals xs us->Vals (xs.eraseIdx i) (us.eraseIdx i)
 |_,_,_,.nil=>.nil
 |_,_,0,.cons _ t=>t
 |_,_,i+1,.cons r t=>.cons r (Vals.eraseIdx i t)
theorem Vals.rep{xs:List V}{us:List Value}(h:Vals xs us):∀k:Nat,Vals (Mk k xs).flatten (Mk k us).flatten
 |0=>.nil
 |k+1=>by rw[Ny,Ny,Nx,Nx];exact Vals.append h (Vals.rep h k)
theorem nj{α:Type}:∀(l:List α) (i:Nat),(l.eraseIdx i).length<=l.length
 |[],_=>Mn _
 |_::_,0=>Nat.le_succ _
 |_::r,i+1=>Nat.succ_le_succ (nj r i)
theorem foldl_rep(its:List Value):∀(k:Nat) (Di:List Value),
  Pq (fun x1 x2=>x1++x2) Di.toArray (Mk k its.toArray)=(Di++(Mk k its).flatten).toArray
 |0,Di=>by simp
 |k+1,Di=>by
  have e:Di.toArray++its.toArray=(Di++its).toArray:=by simp
  have e2:(Di++its)++(Mk k its).flatten=Di++(Mk (k+1) its).flatten:=by rw[Ny,Nx,NF]
  rw[<- e2,<- foldl_rep its k (Di++its),<- e,Ny,List.foldl_cons]
section
variable{X:Cx}{mW:List (Addr×Obj)}{σ:St}{H:Hp}{s:Shared}{l b:Addr}{xs ys zs:List V}
theorem Inv.Gk{its its':List Value}{n:Nat}{f:Array Value->Array Value}{t':Nat}(I:Inv X mW σ H s)(hH:H l=some (.lst xs))
  (e:s.heap.get? l=some { cls:=.type "list",data:=.seq its.toArray n }) (hf:f its.toArray=its'.toArray) (hv:Vals ys its') (hz:ys.length<=sizeLine) :
  Inv X mW σ (upd H l (.lst ys)) { s with heap:=s.heap.update l (Na f),toks:=t' }:=by
 have q:=PySem.IsL.update e f;rw[hf]at q;refine I.write (x:=l) (e:=l) (by rw[hH];exact trivial) (.inl rfl) (fun b' u hb hu=>(Heap.get?_update_other s.heap (Na f) (Ne.symm hb)).trans hu) ⟨_,q⟩ ?_;exact⟨hz,its',_,hv,q⟩
theorem Inv.Gm{its:List Value}{t':Nat}(I:Inv X mW σ H s)(hv:Vals ys its)(hz:ys.length<=sizeLine) :
  Inv X mW σ (upd H s.heap.objs.size (.lst ys)) { s with heap:=s.heap.push { cls:=.type "list",data:=.seq its.toArray },toks:=t' }:=
 I.laid (fun _ _ q=>Mm _ q) (Mn _) ⟨hz,its,0,hv,MM _ rfl⟩
theorem Inv.fresh(I:Inv X mW σ H s):H s.heap.objs.size=none:=I.hok.fresh (Mn _)
theorem Inv.Gn(I:Inv X mW σ H s)(hH:H l=some (.lst xs)):xs.length<=sizeLine/\∃(its:List Value) (n:Nat),Vals xs its/\xs.length=its.length/\s.heap.get? l=some { cls:=.type "list",data:=.seq its.toArray n }:=by obtain⟨z,its,n,r,e⟩:=I.hok l _ hH;exact⟨z,its,n,r,r.length,e⟩
theorem qk{n:Nat}(h:n<=sizeLine):N1 n=false:=by unfold N1;exact decide_eq_false (by lia)
end
section
variable{X:Cx}
def oS:V->List V->Hp->VK->Prop:=fun x vs H Q=>∃l xs y,x=.ref l/\vs=[y]/\H l=some (.lst xs)/\xs.length<sizeLine/\Q .non (upd H l (.lst (xs++[y])))
theorem iZ:MtM X "list.append" oS:=by
 intro mW s σ H x vs v us Q I rx rv h;obtain⟨l,xs,y,rfl,rfl,hH,hz,q⟩:=h;cases rx;obtain⟨u,rfl,ru⟩:=rv.one;obtain⟨z,its,n,r,hl,e⟩:=I.Gn hH;refine call_meets F.slot_list_append ⟨_,e,rfl⟩ F.entry_list_append (F.args_list_append_2 _ _) (PySem.list_append l its.toArray n u (by rw[Ml];lia)) ⟨e,?_⟩;refine⟨.non,_,I.Gk (its':=its++[u]) hH e (by simp) (r.append (.cons ru .nil)) ?_,rfl,q⟩;rw[MA,NP]
 lia
def yw:V->List V->Hp->VK->Prop:=fun x vs H Q=>∃l xs i k y,x=.ref l/\vs=[.int i]/\H l=some (.lst xs)/\-(2 ^ 63)<=i/\i<2 ^ 63/\seqIndex? i xs.length=some k/\xs[k]?=some y/\Q y (upd H l (.lst (xs.eraseIdx k)))
theorem yx:MtM X "list.pop" yw:=by
 intro mW s σ H x vs v us Q I rx rv h;obtain⟨l,xs,i,k,y,rfl,rfl,hH,h1,h2,hk,hy,q⟩:=h;cases rx;obtain⟨u,rfl,ru⟩:=rv.one;obtain⟨t,rfl⟩:=ru;obtain⟨z,its,n,r,hl,e⟩:=I.Gn hH;obtain⟨w,hw,rw'⟩:=r.get hy;refine call_meets F.slot_list_pop ⟨_,e,rfl⟩ F.entry_list_pop (F.args_list_pop_2 _ _)
  (MeetsSeq.list_pop_at l its.toArray n i t k w (fitsIndex_both h1 h2) (by rw[Ml,<- hl];exact hk) (by rw[<- Ou];exact hw) (by rw[Ml];lia)) ⟨e,?_⟩
 refine⟨y,_,I.Gk (its':=its.eraseIdx k) hH e ?_ (r.eraseIdx k) ?_,rw',q⟩
 ·show its.toArray.eraseIdxIfInBounds k=(its.eraseIdx k).toArray;rw[List.eraseIdxIfInBounds_toArray]
 ·have:=nj xs k
  lia
theorem len_rep{α:Type}(xs:List α)(k:Nat):(Mk k xs).flatten.length=k*xs.length:=by
 induction k with
 |zero=>simp
 |succ k ih=>rw[Ny,Nx,MA,ih,Nat.succ_mul,Nat.add_comm]
end
end L2
namespace Att
open PySem PySem.W PySem.Calls PyProof.Rows
theorem jG{P:Params}{h:Heap}:∀(ns:List Int) (vs:List Value),WellAll P h vs (ns.map WData.int)->IntsAre vs ns:=by
 intro ns
 induction ns with
 |nil=>intro vs w;rw[Ob]at w;cases w;exact .nil
 |cons n ns ih=>
  intro vs w;rw[gc]at w;cases w with
  |cons a b=>cases a;exact .cons _ _ (ih _ b)
theorem xh{l:OpenLaw}{n:Nat}(hn:l.most=some n){P:Params}{h:Heap}{args:List WData}{vals:List Value}
  (hpre:l.row.toRowW.claim.pre args=true) (hwl:WellAll P h vals args) :
  ∃a vs ns,vals=[MO a]/\args=[WData.list (ns.map WData.int)]/\h.get? a=some { cls:=.type "list",data:=.seq vs.toArray }/\IntsAre vs ns/\ns.length<=n:=by
 have hsh:WShape.hasAll [] args [.list .int]=true:=(pre_splitW hpre).1;have hc:l.pre.holds [] { args:=args }=true:=(pre_splitW hpre).2;obtain⟨d,r,rfl,h1,h2⟩:=hasAllW_cons hsh;obtain rfl:=hasAllW_nil h2;obtain⟨xs,rfl,h3⟩:=hasW_list h1;obtain⟨ns,rfl⟩:=items_int h3;have uH:ns.length<=n:=by
  unfold OpenLaw.pre at hc;have h4:(WTm.not (.lt (.lit (.int (n:Int))) (.len (.arg 0)))).holds [] { args:=[.list (ns.map .int)] }=true:=by have h4:=(holds_andW hc).1;rw[hn]at h4;exact h4
  have h5:=condW_of h4 (w_not (w_lt w_lit (w_len_list (w_arg rfl))));rw[Mj]at h5;refine Nat.le_of_not_lt fun q=>?_;have q':(n:Int)<((ns.length:Nat):Int):=by omega
  first
   |(rw[decide_eq_true q']at h5;exact absurd h5 (by decide))
   |(simp at h5;omega)
 cases hwl with
 |cons w1 w2=>
  cases w2;cases w1 with
  |list ho hall=>exact⟨_,_,ns,rfl,rfl,ho,jG ns _ hall,uH⟩
theorem xj(l:OpenLaw)(args:List WData):l.row.toRowW.claim.post args (.bool true) args=true:=
 postW_of (r:=l.row.toRowW) (X:=(true == true))
  (show WShape.has [] (.bool true) .bool=true by first | rfl | decide | simp[WShape.has,WShape.arms,WShape.armsAll])
  (show (WTm.eq .res (.lit (.bool true))).value [] { args:=args,res:=some (.bool true),after:=args }=some (.bool (true == true)) from w_eq_bool (w_res rfl) w_lit) rfl
theorem ql{l:OpenLaw}{n:Nat}{q:Program}{loose:List Str}{XP:(Str->Option Value)->Heap->Prop}{YP:World->Heap->Prop}{d:DefRec}
  (hn:l.most=some n) (hdf:d.params.defaults=[])
  (call:∀ (w:World) (s₀ s₁:Shared) (mg mb:Str→Option Value) (fa:Addr) (o:Obj) (pm cd doc:Value) (a:Addr) (vs:List Value) (ns:List Int),
   Ground q loose [] XP w s₀ mg mb s₁.heap->YP w s₁.heap ->
   s₁.heap.get? fa=some o->o.data=.func (docDef d.name d.params d.body d.scope pm cd doc)->s₁.heap.CodeRec cd d.name->mg d.name=some (.ref fa) ->
   s₁.heap.get? a=some { cls:=.type "list",data:=.seq vs.toArray }->IntsAre vs ns->ns.length<=n->s₁.gens=#[] ->
   codeAny (model l.prog w) callerA (.call (.ref fa) ⟨[.ref a],[]⟩) (fun r s'=>r=.ok (.ret (.bool true))/\OldK s₁.heap s'.heap/\s'.os=s₁.os/\AllBare s'.gens) s₁) :
  WalkO q loose XP YP l.row.toRowW d [] (fun f vs=>PySem.call f vs):=by
 intro w s₀ s₁ mg mb G Y fa o pm cd doc dV kV ho hd Fp hD hmg hg args vals as hpre hlay hrd hwl hlo;obtain rfl:dV=.none:=Dflts.none hD hdf;obtain rfl:kV=.none:=Dflts.noKw hD;obtain⟨a,vs,ns,rfl,rfl,hobj,hints,uH⟩:=xh hn hpre hwl;refine enter_call (codeAny_mono (call w s₀ s₁ mg mb fa o pm cd doc a vs ns G Y ho (fd_plain hd) Fp hmg hobj hints uH hg) fun r s' hq=>?_);obtain⟨rfl,h2,h3,h4⟩:=hq;exact⟨.inl ⟨.bool true,.bool true,[],rfl,fun _=>rfl,.bool true,xj l _,fun _=>⟨Pd.nil,fun _ hm=>(nomatch hm)⟩⟩,h2,h3,h4⟩
end Att
namespace L2
open PySem PySem.Spec PyProof.Rows
theorem cL:∀{vs:List Value} {ns:List Int},IntsAre vs ns->Vals (ns.map V.int) vs
 |_,_,.nil=>.nil
 |_,_,.cons n t h=>.cons ⟨t,rfl⟩ (cL h)
def Gp(H:Hp):Prop:=∀b,H b=none\/∃o xs,H b=some (.frz o (.lst xs))
theorem yz{P:Program}{w:World}{K:Dp}{mg mb:Str->Option Value}{CX:CXT}{k:Nat}{fa a:Addr}{fd:FuncData}{x:Str}{sp:Sp}{s₁:Shared}{vs:List Value}{ns:List Int}
  (KX:K.In s₁.heap) (hns:s₁.heap.Ns mainGlobals mg) (hb:s₁.heap.Ns builtinsNs mb) (hbb:∀x:Str,x ≠ "__name__" -> mb x=bootBuiltins x) (hlim:s₁.heap.NoLimit) (hg:s₁.gens=#[])
  (ha:s₁.heap.get? a=some { cls:=.type "list",data:=.seq vs.toArray }) (hi:IntsAre vs ns) (hl:ns.length<=sizeLine) (hr:aZ k callerA)
  (F:∀base:Heap,K.In base->base.Ns mainGlobals mg->aV P w K mg base CX k fa fd [x] sp) (hbind:∀(s:Shared) (u:Value),BindsTo s fd ⟨[u],[]⟩ [(x,u)])
  (hsp:∀H:Hp,Gp H->SqL K H a (ns.map V.int)->sp [.ref a] H (fun v _=>v=.bl true) fun _ _ _=>False)
  (hCX:∀H e s',CX [] H s₁ (fun _ _ _=>False) e s'->False) :
  codeAny (model P w) callerA (.call (.ref fa) ⟨[.ref a],[]⟩) (fun r s'=>r=.ok (.ret (.bool true))/\OldK s₁.heap s'.heap/\s'.os=s₁.os/\AllBare s'.gens) s₁:=by
 have rv:=cL hi;have Lh:=hi.length;have core:∀H:Hp,Gp H->SqL K H a (ns.map V.int)->HOk P w H s₁.heap->(∀b,H b≠none->b=a)->(H a≠none->K.lookup a=none) ->
   codeAny (model P w) callerA (.call (.ref fa) ⟨[.ref a],[]⟩) (fun r s'=>r=.ok (.ret (.bool true))/\OldK s₁.heap s'.heap/\s'.os=s₁.os/\AllBare s'.gens) s₁:=by
  intro H hO hS hok hA hK;have vp:∀{b:Addr} {o:Obj},s₁.heap.get? b=some o->H b=none->(oG s₁.heap H).get? b=some o:=fun e n=>x9 e n;have noA:∀{b:Addr} {o:Obj} {es:Array DictEntry} {ep:Nat},s₁.heap.get? b=some o->o.data=.dict es ep->H b=none:=fun {b o es ep} e d=>by
   cases q:H b with
   |none=>rfl
   |some u=>have e':b=a:=hA b (by rw[q];simp);subst e';rw[ha]at e;cases e;have d':Data.seq vs.toArray _=Data.dict es ep:=d;cases d'
  have nsK:∀{b:Addr} {m:Str->Option Value},s₁.heap.Ns b m->(oG s₁.heap H).Ns b m:=fun {b m} ⟨o,es,ep,e,d,r⟩=>⟨o,es,ep,vp e (noA e d),d,r⟩;have hKb:K.In (oG s₁.heap H):=fun b o e=>vp (KX b o e) (by
   cases q:H b with
   |none=>rfl
   |some u=>have e':b=a:=hA b (by rw[q];simp);subst e';rw[hK (by rw[q];simp)]at e;cases e)
  have hM:Mod K mg (oG s₁.heap H):=⟨hKb,nsK hns,⟨mb,nsK hb,hbb⟩,let ⟨mc,h1,h2⟩:=hlim;⟨mc,nsK h1,h2⟩⟩
  have e0:BP P w K mg (oG s₁.heap H) callerA [] s₁ H:=⟨rfl,hM,fun b o e=>BC e,OW (wL _ _),trivial,fun b hb=>absurd (show b∈([]:List Addr) from hb) (by simp),hok,.of_eq hg⟩
  refine codeAny_mono ((F _ hKb (nsK hns)).run callerA [] s₁ H ⟨[.ref a],[]⟩ [.ref a] [.ref a] _ _ hr e0 (hbind s₁ (.ref a)) (.cons rfl .nil) (hsp H hO hS)) fun r s' h=>?_;cases r with
  |error e=>exact(hCX H e s' h).elim
  |ok fl=>
   cases fl with
   |next=>exact MZ h
   |brk=>exact MZ h
   |cont=>exact MZ h
   |ret u=>
    obtain⟨v,H',os,bare,un,Li,r',q⟩:=h;have q':v=.bl true:=q;subst q';obtain rfl:u=Pp true:=r';refine⟨rfl,OldK.of_keep fun b o e=>?_,os,bare⟩;cases q:H b with
    |none=>exact un.keep b o e q (by intro z;exact absurd (show b∈([]:List Addr) from z) (by simp)) (by simp)
    |some u=>
     rcases hO b with z | ⟨ob,xs,z⟩
     ·rw[q]at z;cases z
     ·have z2:=un.mK b ob _ z;obtain⟨e1,_⟩:=hok b _ z;obtain⟨e2,_⟩:=Li b _ z2;rw[e]at e1;cases e1;exact e2
 cases hk:K.lookup a with
 |some o=>have e:=KX a o hk;rw[ha]at e;cases e;refine core (fun _=>none) (fun _=>.inl rfl) (.inr ⟨_,vs.toArray,_,hk,rfl,rfl,rfl,by rw[Ml,Lh];exact hl,by simpa using rv⟩) (fun b u z=>by have z':(none:Option HO)=some u:=z;cases z') (fun b z=>absurd rfl z) fun z=>absurd rfl z
 |none=>
  refine core (fun b=>if b=a then some (.frz { cls:=.type "list",data:=.seq vs.toArray } (.lst (ns.map V.int))) else none) (fun b=>?_) (.inl (.inr ⟨{ cls:=.type "list",data:=.seq vs.toArray },if_pos rfl⟩)) (fun b u z=>?_) (fun b z=>?_) fun _=>hk
  ·by_cases hb:b=a
   ·exact .inr ⟨_,_,if_pos hb⟩
   ·exact .inl (if_neg hb)
  ·by_cases hb:b=a
   ·have z':=(if_pos hb).symm.trans z;cases z';subst hb;exact⟨ha,by rw[Mj];exact hl,vs,_,rv,ha⟩
   ·have z':=(if_neg hb).symm.trans z;cases z'
  ·by_cases hb:b=a
   ·exact hb
   ·exact absurd (if_neg hb) z
theorem BU{l:O6}{n k:Nat}{q:Program}{loose:List Str}{XP:(Str->Option Value)->Heap->Prop}{YP:World->Heap->Prop}{d:DefRec}{K:Params->Dp}{CX:World->CXT}{sp:World->Sp}{x:Str}
  (hn:l.most=some n) (hn2:n<=sizeLine) (hdf:d.params.defaults=[]) (hr:aZ k callerA)
  (hY:∀(w:World) (h:Heap),YP w h->(K w.params).In h)
  (F:∀ (w:World) (mg:Str→Option Value) (fa:Addr) (h:Heap),(K w.params).In h→h.Ns mainGlobals mg→mg d.name=some (.ref fa) →
   ∃fd:FuncData,(∀(s:Shared) (u:Value),BindsTo s fd ⟨[u],[]⟩ [(x,u)]) /\
    ∀base:Heap,(K w.params).In base->base.Ns mainGlobals mg->aV l.prog w (K w.params) mg base (CX w) k fa fd [x] (sp w))
  (hsp:∀(w:World) (H:Hp) (a:Addr) (ns:List Int),ns.length<=n->Gp H->SqL (K w.params) H a (ns.map V.int)->sp w [.ref a] H (fun v _=>v=.bl true) fun _ _ _=>False)
  (hCX:∀(w:World) (H:Hp) (s:Shared) (e:Value) (s':Shared),CX w [] H s (fun _ _ _=>False) e s'->False) :
  PySem.W.WalkO q loose XP YP l.row.toRowW d [] (fun f vs=>PySem.call f vs):=by
 refine Att.ql hn hdf fun w s₀ s₁ mg mb fa o pm cd doc a vs ns G Y ho hd Fp hmg hobj hints uH hg=>?_;have KX:=hY w _ Y;obtain⟨fd,hb,hF⟩:=F w mg fa _ KX G.T.g hmg;exact yz KX G.T.g G.T.b G.T.builtins G.T.nolimit hg hobj hints (MH uH hn2) hr hF hb (fun H hO hS=>hsp w H a ns uH hO hS) fun H e s'=>hCX w H s₁ e s'
noncomputable def bh(s:Stmt):Arguments:=match s with
 |.FunctionDef _ a _ _ _ _ _ _ _ _=>a
 |_=>{ posonlyargs:=[],args:=[],vararg:=none,kwonlyargs:=[],kw_defaults:=[],kwarg:=none,defaults:=[] }
noncomputable def aX(s:Stmt):List Stmt:=match s with
 |.FunctionDef _ _ b _ _ _ _ _ _ _=>b
 |_=>[]
noncomputable def ah(s:Stmt):Scope:=match s with
 |.FunctionDef _ _ _ _ _ _ sc _ _ _=>sc
 |_=>{ kind:=.function,names:=[],isGenerator:=false,isCoroutine:=false }
noncomputable abbrev CX0:CXT:=fun _ _ _ _ _ _=>False
noncomputable abbrev E0:XK:=fun _ _ _=>False
theorem qo{X:Cx}:Passes CX0 X E0:=fun _ _ _ _ _ _ _ h=>h.elim
structure Fun(K:Dp)(x qual:Str)(st:Stmt)(f:Addr)(fd:FuncData):Prop where
 ex:∃(oc:Value) (od:Option Addr) (kV doc pm:Value) (an:Option Addr) (cdv ct:Value) (osl:Array (Option Value)),
  fd=M6 x qual (bh st) (aX st) (ah st) .none kV doc pm an cdv ct/\K.lookup f=some ⟨oc,od,.func fd,osl⟩/\OL K cdv qual=true
 kp:Nu K (.ref f)=true
section
variable{P:Program}{w:World}{K:Dp}{mg:Str->Option Value}{base:Heap}
section
variable{x qual:Str}{st:Stmt}{fd:FuncData}{f:Addr}
theorem Fun.ok{N ps:List Str}{k:Nat}{sp:Sp}(F:Fun K x qual st f fd)(S:aC N ps (ah st))(len:∀vs H Q E,sp vs H Q E->vs.length=ps.length)
  (hbody:∀ (cdv:Value) (A:Around) (outer:List Env) (s:Shared) (H:Hp) (vs:List V) (Q:VK) (E:XK),aZ k (A.deeper (envOfC qual (ah st) s.heap.objs.size f cdv))→sp vs H Q E →
   ∃t,PSs (tL CX0 P w K mg base N qual (ah st) f cdv A outer s H E).nox (aX st) t/\t { nx:=fun _ H'=>Q .non H',rt:=Q } (start N vs) H):aV P w K mg base CX0 (k+1) f fd ps sp:=by
 obtain⟨oc,od,kV,doc,pm,an,cdv,ct,osl,rfl,lk,Fp⟩:=F.ex;refine IX lk Fp S len fun A outer s H vs Q E hr hsp=>?_;obtain⟨t,h,q⟩:=hbody cdv A outer s H vs Q E hr hsp;exact⟨t,h.nox,q⟩
theorem Fun.binds{ps:List Str}(F:Fun K x qual st f fd)
  (h:∀(kV doc pm:Value) (an:Option Addr) (cdv ct:Value) (us:List Value),us.length=ps.length->bindArgs (M6 x qual (bh st) (aX st) (ah st) .none kV doc pm an cdv ct) ⟨us,[]⟩=pure (ps.zip us)):Binds K fd ps []:=by
 obtain⟨oc,od,kV,doc,pm,an,cdv,ct,osl,rfl,lk,Fp⟩:=F.ex;exact .all (h kV doc pm an cdv ct)
theorem Gq{oc:Value}{od an:Option Addr}{osl:Array (Option Value)}{kV doc pm cdv ct:Value}(l:K.lookup f=some ⟨oc,od,.func (M6 x qual (bh st) (aX st) (ah st) .none kV doc pm an cdv ct),osl⟩)
  (c:OL K cdv qual=true) (k:Nu K (.ref f)=true):Fun K x qual st f (M6 x qual (bh st) (aX st) (ah st) .none kV doc pm an cdv ct):=⟨⟨oc,od,kV,doc,pm,an,cdv,ct,osl,rfl,l,c⟩,k⟩
end
end
def ao(H H':Hp):Prop:=∀b o,H b=some o->H' b=some o
theorem ao.refl(H:Hp):ao H H:=fun _ _ h=>h
theorem ao.trans{H H1 H2:Hp}(a:ao H H1)(b:ao H1 H2):ao H H2:=fun c o h=>b c o (a c o h)
theorem ao.free{H H':Hp}(e:ao H H'){l:Addr}(h:H' l=Option.none):H l=Option.none:=by
 cases q:H l with
 |none=>rfl
 |some o=>rw[e l o q]at h;cases h
section
variable{κ:Type}[DecidableEq κ]
section
variable{u:Option Value}{o:Option V}{y:V}
noncomputable def fh(kvs:List (κ×V))(k:κ):Option V:=(kvs.find? fun kv=>decide (kv.1=k)).map (·.2)
noncomputable def putK(kvs:List (κ×V))(k:κ)(v:V):List (κ×V):=
 if (kvs.any fun kv=>decide (kv.1=k))=true then kvs.map (fun kv=>if kv.1=k then (kv.1,v) else kv) else kvs++[(k,v)]
noncomputable def iF(kvs:List (κ×V))(k:κ):List (κ×V):=kvs.filter fun kv=>decide (kv.1≠k)
theorem fy{p:κ×V}{r:List (κ×V)}{k:κ}(e:p.1=k):fh (p::r) k=some p.2:=by simp[fh,Nj,e]
theorem fB{p:κ×V}{r:List (κ×V)}{k:κ}(e:¬p.1=k):fh (p::r) k=fh r k:=by simp[fh,Nj,e]
theorem j8(k:κ):∀kvs:List (κ×V),(kvs.any fun kv=>decide (kv.1=k))=(fh kvs k).isSome
 |[]=>rfl
 |p::r=>by
  rw[Nt];by_cases e:p.1=k
  ·simp only[fy e,decide_eq_true e,Bool.true_or,Option.isSome_some]
  ·rw[fB e,decide_eq_false e,Bool.false_or];exact j8 k r
theorem fC(kvs:List (κ×V))(k:κ)(v:V):(putK kvs k v).length<=kvs.length+1:=by
 unfold putK;split
 ·rw[Mj];lia
 ·rw[MA,M0,O7];lia
theorem iB.cM(r:iB o u):o.isSome=u.isSome:=by
 cases o with
 |none=>cases u with
  |none=>rfl
  |some _=>exact(show False from r).elim
 |some _=>cases u with
  |none=>exact(show False from r).elim
  |some _=>rfl
theorem iB.getD{d:V}{d':Value}(r:iB o u)(rd:RelV d d'):RelV (o.getD d) (u.getD d'):=by
 cases o with
 |none=>cases u with
  |none=>exact rd
  |some _=>exact(show False from r).elim
 |some _=>cases u with
  |none=>exact(show False from r).elim
  |some _=>exact r
theorem KV.val{kvs:List (κ×V)}{vs:List (κ×Value)}(r:KV kvs vs)(k:κ):iB (fh kvs k) (valueAt vs k):=by
 unfold KV at r
 induction r with
 |nil=>exact NB
 |@cons p q ps qs h t ih=>
  obtain⟨h1,h2⟩:=h;by_cases e:p.1=k
  ·have e':q.1=k:=h1.symm.trans e;have b:valueAt (q::qs) k=some q.2:=by simp[valueAt,Nj,e']
   rw[fy e,b];exact h2
  ·have e':¬q.1=k:=fun z=>e (h1.trans z);have b:valueAt (q::qs) k=valueAt qs k:=by simp[valueAt,Nj,e']
   rw[fB e,b];exact ih
theorem KV.any{kvs:List (κ×V)}{vs:List (κ×Value)}(r:KV kvs vs)(k:κ):(kvs.any fun kv=>decide (kv.1=k))=vs.any fun kv=>decide (kv.1=k):=by
 unfold KV at r
 induction r with
 |nil=>rfl
 |cons h t ih=>rw[Nt,Nt,ih,h.1]
theorem KV.repl{kvs:List (κ×V)}{vs:List (κ×Value)}(r:KV kvs vs)(k:κ){u:Value}(ry:RelV y u) :
  KV (kvs.map fun kv=>if kv.1=k then (kv.1,y) else kv) (vs.map fun kv=>if kv.1=k then (kv.1,u) else kv):=by
 unfold KV at r ⊢
 induction r with
 |nil=>exact .nil
 |@cons p q ps qs h t ih=>
  rw[gc,gc];refine .cons ?_ ih;obtain⟨h1,h2⟩:=h;by_cases e:p.1=k
  ·rw[if_pos e,if_pos (h1.symm.trans e)];exact⟨h1,ry⟩
  ·rw[if_neg e,if_neg (fun z=>e (h1.trans z))];exact⟨h1,h2⟩
theorem KV.put{kvs:List (κ×V)}{vs:List (κ×Value)}(r:KV kvs vs)(k:κ){u:Value}(ry:RelV y u):KV (putK kvs k y) (stored vs k u):=by
 unfold putK stored;rw[r.any k];by_cases e:(vs.any fun kv=>decide (kv.1=k))=true
 ·rw[if_pos e,if_pos e];exact r.repl k ry
 ·rw[if_neg e,if_neg e];exact Paired.snoc r ⟨rfl,ry⟩
theorem KV.length{kvs:List (κ×V)}{vs:List (κ×Value)}(r:KV kvs vs):kvs.length=vs.length:=Paired.length r
theorem yC(kvs:List (κ×V))(k:κ):(iF kvs k).length<=kvs.length:=Nz _ _
end
end
section
variable{xs:List (List Key×Addr×Value)}{kvs:List (List Key×V)}{u:Value}{P:Program}{w:World}{H:Hp}{y:V}
theorem j9{k:Key}(r:RelV (kV k) u):(aF P w).is k u=true:=by
 cases k with
 |inl i=>obtain⟨t,e⟩:=(show ∃t,u=Value.int i t from r);subst e;exact p7 P w i t
 |inr x=>obtain⟨t,e⟩:=(show ∃t,u=Pg x t from r);subst e;exact p8 P w x t
theorem nk:∀{ks:List Key} {us:List Value},Vals (ks.map kV) us->ItemsAre (aF P w) ks us
 |[],_,r=>by rw[Ob]at r;cases r;exact .nil
 |k::ks,_,r=>by
  rw[gc]at r;cases r with
  |cons h t=>exact .cons (j9 h) (nk t)
noncomputable abbrev KT(H:Hp):List (List Key×V)->List (List Key×Addr×Value)->Prop:=Paired fun p q=>p.1=q.1/\H q.2.1=some (.tup (p.1.map kV))/\RelV p.2 q.2.2
theorem KT.val(r:KT H kvs xs)(k:List Key):iB (fh kvs k) ((atKey xs k).map (·.2)):=by
 induction r with
 |nil=>exact NB
 |@cons p q ps qs h t ih=>
  obtain⟨h1,_,h2⟩:=h;by_cases e:p.1=k
  ·have e':q.1=k:=h1.symm.trans e;have b:atKey (q::qs) k=some q.2:=by simp[atKey,Nj,e']
   rw[fy e,b];exact h2
  ·have e':¬q.1=k:=fun z=>e (h1.trans z);have b:atKey (q::qs) k=atKey qs k:=by simp[atKey,Nj,e']
   rw[fB e,b];exact ih
theorem KT.repl(r:KT H kvs xs)(k:List Key)(ry:RelV y u) :
  KT H (kvs.map fun kv=>if kv.1=k then (kv.1,y) else kv) (xs.map (putAt k u)):=by
 induction r with
 |nil=>exact .nil
 |@cons p q ps qs h t ih=>
  rw[gc,gc];refine .cons ?_ ih;obtain⟨h1,h2,h3⟩:=h;unfold putAt;by_cases e:p.1=k
  ·rw[if_pos e,if_pos (h1.symm.trans e)];exact⟨h1,h2,ry⟩
  ·rw[if_neg e,if_neg (fun z=>e (h1.trans z))];exact⟨h1,h2,h3⟩
theorem KT.put(r:KT H kvs xs)(k:List Key){b:Addr}(hb:H b=some (.tup (k.map kV)))(ry:RelV y u) :
  KT H (putK kvs k y) (storedH xs k b u):=by
 have e:(kvs.any fun kv=>decide (kv.1=k))=(atKey xs k).isSome:=by rw[j8,(r.val k).cM,NG]
 unfold putK storedH;rw[e];by_cases q:(atKey xs k).isSome=true
 ·rw[if_pos q,if_pos q];exact r.repl k ry
 ·rw[if_neg q,if_neg q];exact Paired.snoc r ⟨rfl,hb,ry⟩
theorem KT.keeps{H H':Hp}(r:KT H kvs xs)(ht:∀b ys,H b=some (.tup ys)->H' b=some (.tup ys)):KT H' kvs xs:=
 Paired.Ft r fun _ _ z=>⟨z.1,ht _ _ z.2.1,z.2.2⟩
end
section
variable{P:Program}{w:World}{H:Hp}{h:Heap}{a:Addr}
section
variable{kvs:List (List Key×V)}{ts:List Addr}
theorem Ej{u:HO}(ok:HOk P w H h)(e:Rd H a u):aO P w H h a u:=e.ok ok
theorem j_{kvs:List (Key×V)}(ok:HOk P w H h)(e:Rd H a (.dK kvs)):kvs.length<=sizeLine/\(a == sysModules)=false/\∃vs,KV kvs vs/\h.DictOf (aF P w) a vs:=
 show aO P w H h a (.dK kvs) from Ej ok e
theorem Ek{kvs:List (Key×V)}(ok:HOk P w H h)(e:H a=some (.dK kvs)):kvs.length<=sizeLine/\(a == sysModules)=false/\∃vs,KV kvs vs/\h.DictOf (aF P w) a vs:=j_ ok (.inl e)
theorem gw{ks:List Key}(ok:HOk P w H h)(e:H a=some (.tup (ks.map kV))):(tupleKind (aF P w)).is h ks a:=by
 obtain⟨_,its,r,o,h1,h2,n,h3⟩:=(show aO P w H h a (.tup (ks.map kV)) from ok a _ e)
 exact⟨o,its.toArray,n,h1,h2,h3,by simpa using nk r⟩
theorem kc(ok:HOk P w H h)(e:Rd H a (.dT kvs ts)):kvs.length<=sizeLine/\(a == sysModules)=false /\
  ∃xs,KT H kvs xs/\h.DictOfH (tupleKind (aF P w)) a xs:=by
 obtain⟨z,y,xs,r,o,es,ep,h1,h2,h3,h4,h5,_⟩:=(show aO P w H h a (.dT kvs ts) from Ej ok e)
 refine⟨z,y,xs,r,o,es,ep,h1,h2,h3,h4,fun x hx=>?_,h5⟩;have all:∀{l:List (List Key×V)} {m:List (List Key×Addr×Value)},KT H l m->∀x∈m,(tupleKind (aF P w)).is h x.1 x.2.1:=by
  intro l m q
  induction q with
  |nil=>intro x hx;exact nomatch hx
  |@cons p q ps qs hq t ih=>
   intro x hx;rcases Ms.mp hx with e | hx
   ·subst e;exact gw ok (by rw[<- hq.1];exact hq.2.1)
   ·exact ih x hx
 exact all r x hx
theorem yD(ok:HOk P w H h)(e:H a=some (.dT kvs ts)):kvs.length<=sizeLine/\(a == sysModules)=false /\
  ∃xs,KT H kvs xs/\h.DictOfH (tupleKind (aF P w)) a xs:=kc ok (.inl e)
end
end
section
variable{kvs:List (List Key×V)}{H:Hp}{ts:List Addr}{a:Addr}
noncomputable def tP(kvs:List (List Key×V))(ts:List Addr)(k:List Key)(b:Addr):List Addr:=if (kvs.any fun kv=>decide (kv.1=k))=true then ts else ts++[b]
theorem qp{xs:List (List Key×Addr×Value)}(r:KT H kvs xs)(k:List Key)(b:Addr)(u:Value):(storedH xs k b u).map (·.2.1)=tP kvs (xs.map (·.2.1)) k b:=by
 have e:(kvs.any fun kv=>decide (kv.1=k))=(atKey xs k).isSome:=by rw[j8,(r.val k).cM,NG]
 unfold storedH tP;rw[e];by_cases q:(atKey xs k).isSome=true
 ·rw[if_pos q,if_pos q,MI];refine Ng fun x _=>?_;show (putAt k u x).2.1=x.2.1;unfold putAt;split<;>rfl
 ·rw[if_neg q,if_neg q,My];rfl
theorem tQ{P:Program}{w:World}{h:Heap}{xs xs2:List (List Key×Addr×Value)}{ts:List Addr}{o:Obj}{es:Array DictEntry}{ep:Nat}(d:h.DictOfH (tupleKind (aF P w)) a xs)(g1:h.get? a=some o)(g3:o.data=.dict es ep)
  (g4:es.toList=xs2.map (entryOfKey (tupleKind (aF P w)))) (g6:xs2.map (·.2.1)=ts):xs.map (·.2.1)=ts:=by
 obtain⟨o1,es1,ep1,h1,h2,h3,h4,_⟩:=d;rw[g1]at h1;cases h1;rw[g3]at h3;cases h3;rw[g4]at h4;have key:∀l:List (List Key×Addr×Value),(l.map (entryOfKey (tupleKind (aF P w)))).map (·.key)=(l.map (·.2.1)).map MO:=fun l=>by rw[MI,MI];rfl
 have:=congrArg (Po (·.key)) h4;rw[key,key,g6]at this;exact(OP (fun a b e=>MO.inj e)).mp this.symm
def cG(H:Hp)(a:Addr)(y:V)(r:Option V):Prop:=
 (∃kvs k,Rd H a (.dK kvs)/\y=kV k/\r=fh kvs k)\/∃kvs k b ts,Rd H a (.dT kvs ts)/\y=.ref b/\H b=some (.tup (k.map kV))/\r=fh kvs k
def qq(H:Hp)(a:Addr)(y v:V)(H':Hp):Prop:=
 (∃kvs k,H a=some (.dK kvs)/\y=kV k/\kvs.length<sizeLine/\H'=upd H a (.dK (putK kvs k v))) \/
 ∃kvs k b ts,H a=some (.dT kvs ts)/\y=.ref b/\H b=some (.tup (k.map kV))/\kvs.length<sizeLine/\H'=upd H a (.dT (putK kvs k v) (tP kvs ts k b))
theorem cG.k{kvs:List (Key×V)}{k:Key}(e:H a=some (.dK kvs)):cG H a (kV k) (fh kvs k):=.inl ⟨kvs,k,.inl e,rfl,rfl⟩
theorem cG.t{a b:Addr}{k:List Key}(e:H a=some (.dT kvs ts))(eb:H b=some (.tup (k.map kV))):cG H a (.ref b) (fh kvs k):=.inr ⟨kvs,k,b,ts,.inl e,rfl,eb,rfl⟩
theorem qq.k{kvs:List (Key×V)}{k:Key}{v:V}(e:H a=some (.dK kvs))(hl:kvs.length<sizeLine):qq H a (kV k) v (upd H a (.dK (putK kvs k v))):=.inl ⟨kvs,k,e,rfl,hl,rfl⟩
theorem qq.t{a b:Addr}{k:List Key}{v:V}(e:H a=some (.dT kvs ts))(eb:H b=some (.tup (k.map kV)))(hl:kvs.length<sizeLine) :
  qq H a (.ref b) v (upd H a (.dT (putK kvs k v) (tP kvs ts k b))):=.inr ⟨kvs,k,b,ts,e,rfl,eb,hl,rfl⟩
end
section
variable{X:Cx}{mW:List (Addr×Obj)}{σ:St}{H:Hp}{s:Shared}{a:Addr}{y v:V}{u r:Value}{o:Option V}{A:Around}{E:Value->Shared->Prop}
section
variable{Q:Value->Shared->Prop}{h':Heap}
theorem Inv.big(I:Inv X mW σ H s):sysModules<s.heap.objs.size:=by have h:mainGlobals<s.heap.objs.size:=(I.mod.glob.keeps I.bk).lt;exact Nat.lt_trans (by decide) h
theorem xm(hu:A.units+1<cLine)(I:Inv X mW σ H s)(g:cG H a y (some v))(ry:RelV y u)(h:∀w' s',Inv X mW σ H s'->RelV v w'->Q w' s') :
  wpAny (model X.prog X.w) A (getItem (.ref a) u) Q E s:=by
 rcases g with⟨kvs,k,e,ey,l⟩ | ⟨kvs,k,b,ts,e,ey,eb,l⟩
 ·subst ey;obtain⟨z,hd,vs,rel,dd⟩:=j_ I.hok e;obtain⟨w',hw,rw'⟩:=iB.some_of (v:=v) (o:=valueAt vs k) (by rw[l];exact rel.val k);exact wpAny_getItem_of (j9 ry) dd.mapOf hw (h w' _ (I.tok _) rw')
 ·subst ey;cases (show u=MO b from ry);obtain⟨z,hd,xs,rel,dd⟩:=kc I.hok e;obtain⟨w',hw,rw'⟩:=iB.some_of (v:=v) (o:=(atKey xs k).map (·.2)) (by rw[l];exact rel.val k);obtain⟨p,hp,hp2⟩:=Om.mp hw;refine wpAny_getItem_heap (tupleKind_room_in1 hu) (gw I.hok eb) dd hp ?_;rw[hp2];exact h w' _ (I.tok _) rw'
theorem Gr(hu:A.units+1<cLine)(I:Inv X mW σ H s)(g:cG H a y o)(ry:RelV y u)(h:∀s',Inv X mW σ H s'->Q (.bool o.isSome) s') :
  wpAny (model X.prog X.w) A (compareOp .In u (.ref a)) Q E s:=by
 rcases g with⟨kvs,k,e,ey,l⟩ | ⟨kvs,k,b,ts,e,ey,eb,l⟩
 ·subst ey;obtain⟨z,hd,vs,rel,dd⟩:=j_ I.hok e;refine wpAny_in_of (j9 ry) hd dd.mapOf ?_;rw[<- (rel.val k).cM,<- l];exact h _ (I.tok _)
 ·subst ey;cases (show u=MO b from ry);obtain⟨z,hd,xs,rel,dd⟩:=kc I.hok e;refine wpAny_in_heap (tupleKind_room_in1 hu) (gw I.hok eb) hd dd ?_;have q:=(rel.val k).cM;rw[NG]at q;rw[<- q,<- l];exact h _ (I.tok _)
theorem BV(hu:A.units+1<cLine)(I:Inv X mW σ H s)(g:cG H a y o)(ry:RelV y u)(h:∀s',Inv X mW σ H s'->Q (.bool (!o.isSome)) s') :
  wpAny (model X.prog X.w) A (compareOp .NotIn u (.ref a)) Q E s:=by
 rcases g with⟨kvs,k,e,ey,l⟩ | ⟨kvs,k,b,ts,e,ey,eb,l⟩
 ·subst ey;obtain⟨z,hd,vs,rel,dd⟩:=j_ I.hok e;refine wpAny_notIn_of (j9 ry) hd dd.mapOf ?_;rw[<- (rel.val k).cM,<- l];exact h _ (I.tok _)
 ·subst ey;cases (show u=MO b from ry);obtain⟨z,hd,xs,rel,dd⟩:=kc I.hok e;refine wpAny_notIn_heap (tupleKind_room_in1 hu) (gw I.hok eb) hd dd ?_;have q:=(rel.val k).cM;rw[NG]at q;rw[<- q,<- l];exact h _ (I.tok _)
theorem jO{t':Nat}{ob:HO}(I:Inv X mW σ H s)(mu:Mut (H a))(hs:NW a s.heap h')(he:∃q,h'.get? a=some q)(new:aO X.prog X.w (upd H a ob) h' a ob) :
  Inv X mW σ (upd H a ob) { s with heap:=h',toks:=t' }:=
 I.write (x:=a) (e:=a) mu (.inl rfl) (fun b q hb z=>(hs.2 b hb).trans z) he new
theorem yE{P:Program}{w:World}{H':Hp}{kvs:List (Key×V)}{vs:List (Key×Value)}(z:kvs.length<=sizeLine)(hd:(a == sysModules)=false)(rel:KV kvs vs)(dd:h'.DictOf (aF P w) a vs) :
  aO P w H' h' a (.dK kvs):=⟨z,hd,vs,rel,dd⟩
theorem xo{H':Hp}{Q:Unit->Shared->Prop}(hu:A.units+1<cLine)(I:Inv X mW σ H s)(g:qq H a y v H')(ry:RelV y u)(rv:RelV v r)(h:∀s',Inv X mW σ H' s'->Q () s') :
  wpAny (model X.prog X.w) A (setItem (.ref a) u r) Q E s:=by
 rcases g with⟨kvs,k,e,ey,l,eH⟩ | ⟨kvs,k,b,ts,e,ey,eb,l,eH⟩
 ·subst ey eH;obtain⟨z,hd,vs,rel,dd⟩:=Ek I.hok e;have hz:vs.length<=sizeLine:=by rw[<- rel.length];exact z
  have hl:(putK kvs k v).length<=sizeLine:=by have:=fC kvs k v;lia
  refine wpAny_setItem_pairs (hsz:=hz) (j9 ry) dd fun h' dd' hs=>h _ ?_;have he:∃q,h'.get? a=some q:=let ⟨q,_,_,hq,_⟩:=dd';⟨q,hq⟩
  exact jO I (by rw[e];exact NB) hs he (yE hl hd (rel.put k rv) dd')
 ·subst ey eH;cases (show u=MO b from ry);obtain⟨z,hd,xs,rel,dd⟩:=yD I.hok e;have hz:xs.length<=sizeLine:=by rw[<- Paired.length rel];exact z
  have hl:(putK kvs k v).length<=sizeLine:=by have:=fC kvs k v;lia
  refine wpAny_setItem_heap (hsz:=hz) (tupleKind_room_in1 hu) (gw I.hok eb) dd fun h' dd' hs=>h _ ?_;obtain⟨q,es,ep,hq,h2,h3,h4,_,h5⟩:=dd';refine jO I (by rw[e];exact NB) hs ⟨q,hq⟩ ⟨hl,hd,_,(rel.put k eb rv).keeps fun c ys ec=>?_,q,es,ep,hq,h2,h3,h4,h5,?_⟩
  ·rw[ak (D5 ec e (fun z=>nomatch z))];exact ec
  ·have hts:xs.map (·.2.1)=ts:=by
    obtain⟨_,_,xs2,_,o2,es2,ep2,g1,g2,g3,g4,g5,g6⟩:=(show aO X.prog X.w H s.heap a (.dT kvs ts) from I.hok a _ e)
    exact tQ dd g1 g3 g4 g6
   rw[<- hts];exact qp rel k b r
end
end
def BW(i:Expr):Prop:=∀ov iv,subscripted i false ov iv=operate [ov,iv] (getItem ov iv)
theorem BX{prog:Program}{w:World}{A:Around}{E:Value->Shared->Prop}{s:Shared}{env:Env}{value slice:Expr}{pos:Pos}{T id:String}{Q:Value->Shared->Prop}
  (hl:typeLookup (.type T) "__getitem__" = pure (some (.builtin id))) (hs:BW slice)
  (h:wpAny (model prog w) A (eval value env) (fun o s₁=>wpAny (model prog w) A (eval slice env) (fun i s₂=>s₂.TypeIs o T/\wpAny (model prog w) A (getItem o i) Q E s₂) E s₁) E s) :
  wpAny (model prog w) A (eval (.Subscript value slice pos) env) Q E s:=by
 refine Subscript_ (wpAny_mono h (fun o s₁ h₁=>wpAny_mono h₁ (fun i s₂ h₂=>?_) fun _ _ x=>x) fun _ _ x=>x);obtain⟨hT,h₂⟩:=h₂;unfold subscriptTail;refine wpAny_bind ?_;rw[getitemInPython_of_ne hT.not_modules];refine wpAny_bind (wpAny_specialOf hT hl ?_);have EC:wpAny (model prog w) A (subscripted slice false o i) (fun r s₃=>wpAny (model prog w) A (letTemporaryGo value o r >>= fun _=>pure r) Q E s₃) E s₂:=by rw[hs o i];exact wpAny_operating (wpAny_mono h₂ (fun r s₃ h₃=>wpAny_bind (wpAny_letTemporaryGo (wpAny_pure h₃))) fun _ _ x=>x)
 first
  |exact wpAny_pure (wpAny_bind EC)
  |exact wpAny_bind (wpAny_pure (wpAny_bind EC))
  |exact wpAny_bind EC
theorem qt{X:Cx}{mW:List (Addr×Obj)}{σ:St}{H:Hp}{s:Shared}{a:Addr}{y:V}{o:Option V}(I:Inv X mW σ H s)(g:cG H a y o):s.TypeIs (.ref a) "dict" := by
 rcases g with⟨kvs,k,e,_,_⟩ | ⟨kvs,k,b,ts,e,_,_,_⟩
 ·obtain⟨_,_,vs,_,dd⟩:=j_ I.hok e;exact dd.typeIs
 ·obtain⟨_,_,xs,_,dd⟩:=kc I.hok e;exact dd.typeIs
def I_(td ty:TE):TE:=fun σ H Q=>td σ H fun x H1=>ty σ H1 fun y H2=>∃a v,x=.ref a/\cG H2 a y (some v)/\Q v H2
def Lj(ty td:TE):TE:=fun σ H Q=>ty σ H fun y H1=>td σ H1 fun x H2=>∃a o,x=.ref a/\cG H2 a y o/\Q (.bl o.isSome) H2
def BY(ty td:TE):TE:=fun σ H Q=>ty σ H fun y H1=>td σ H1 fun x H2=>∃a o,x=.ref a/\cG H2 a y o/\Q (.bl (!o.isSome)) H2
def yF(td ty tv:TE):TS:=fun D σ H=>tv σ H fun v H1=>td σ H1 fun x H2=>ty σ H2 fun y H3=>∃a H4,x=.ref a/\qq H3 a y v H4/\D.nx σ H4
section
variable{X:Cx}{o i e value:Expr}{pos pos' tpos:Pos}{td ty tv:TE}
theorem vq(hu:X.A.units+1<cLine)(ho:PE X o td)(hi:PE X i ty)(hs:BW i):PE X (.Subscript o i pos) (I_ td ty):=by intro mW s σ H Q I h;refine BX PySem.F.slot_dict_getitem.lookup hs (thn (ho mW s σ H _ I h) fun u s1 ⟨x,H1,I1,rx,q1⟩=>thn (hi mW s1 σ H1 _ I1 q1) fun iv s2 ⟨y,H2,I2,ry,a,v,ex,g,q2⟩=>?_);subst ex;obtain rfl:u=MO a:=rx;exact⟨qt I2 g,xm hu I2 g ry fun w' s3 I3 rw'=>⟨v,H2,I3,rw',q2⟩⟩
theorem yG(hu:X.A.units+1<cLine)(hi:PE X i ty)(ho:PE X o td):PC X .In i o (Lj ty td):=by intro mW s σ H Q I h;refine thn (hi mW s σ H _ I h) fun iv s1 ⟨y,H1,I1,ry,q1⟩=>thn (ho mW s1 σ H1 _ I1 q1) fun u s2 ⟨x,H2,I2,rx,a,ov,ex,g,q2⟩=>?_;subst ex;obtain rfl:u=MO a:=rx;exact Gr hu I2 g ry fun s3 I3=>⟨.bl ov.isSome,H2,I3,rfl,q2⟩
theorem xq(hu:X.A.units+1<cLine)(hi:PE X i ty)(ho:PE X o td):PC X .NotIn i o (BY ty td):=by intro mW s σ H Q I h;refine thn (hi mW s σ H _ I h) fun iv s1 ⟨y,H1,I1,ry,q1⟩=>thn (ho mW s1 σ H1 _ I1 q1) fun u s2 ⟨x,H2,I2,rx,a,ov,ex,g,q2⟩=>?_;subst ex;obtain rfl:u=MO a:=rx;exact BV hu I2 g ry fun s3 I3=>⟨.bl (!ov.isSome),H2,I3,rfl,q2⟩
theorem vt(hu:X.A.units+1<cLine)(ho:PE X o td)(hi:PE X i ty)(hv:PE X value tv)(hs:swapsWith value (some (.Subscript o i pos')) pos.line X.env=pure false) :
  PS X (.Assign [.Subscript o i pos'] value pos) (yF td ty tv):=by
 intro mW s σ H D I h;refine wpAny_Assign_Subscript (thn (hv mW s σ H _ I h) fun r s1 ⟨v,H1,I1,rv,q1⟩=>thn (ho mW s1 σ H1 _ I1 q1) fun u s2 ⟨x,H2,I2,rx,q2⟩=>thn (hi mW s2 σ H2 _ I2 q2) fun iv s3 ⟨y,H3,I3,ry,a,H4,ex,g,q3⟩=>?_) hs;subst ex;obtain rfl:u=MO a:=rx;exact xo hu I3 g ry rv fun s4 I4=>⟨σ,H4,I4,q3⟩
end
section
variable{P:Program}{w:World}{H:Hp}
theorem yH(h:Heap)(hb:sysModules<h.objs.size):aO P w H (h.push { cls:=.type "dict",data:=.dict #[] }) h.objs.size (.dK []):=
 ⟨M5 _,beq_eq_false_iff_ne.mpr (Ne.symm (ML hb)),[],.nil,Heap.DictOf.new h⟩
theorem yI(h:Heap)(hb:sysModules<h.objs.size):aO P w H (h.push { cls:=.type "dict",data:=.dict #[] }) h.objs.size (.dT [] []):=
 ⟨M5 _,beq_eq_false_iff_ne.mpr (Ne.symm (ML hb)),[],.nil,_,#[],0,MM _ rfl,⟨rfl,rfl,rfl⟩,rfl,rfl,List.nodup_nil,rfl⟩
def yJ:TE:=fun _ H Q=>∀p,H p=none->Q (.ref p) (upd H p (.dT [] []))
end
section
variable{X:Cx}{pos:Pos}
theorem yL:PE X (.Dict [] [] pos) yJ:=fun mW s σ H Q I h=>wpAny_Dict_empty ⟨.ref s.heap.objs.size,_,I.laid (a:=s.heap.objs.size) (o:=.dT [] []) (t':=s.toks) (fun _ _ q=>Mm _ q) (Mn _) (yI s.heap I.big),rfl,h _ (I.hok.fresh (Mn _))⟩
end
section
variable{trs:List (TE×TE)}{pos:Pos}{X:Cx}
def tR:List (TE×TE)->St->Hp->(List (V×V)->Hp->Prop)->Prop
 |[],_,H,Q=>Q [] H
 |(tk,tv)::r,σ,H,Q=>tk σ H fun x H1=>tv σ H1 fun y H2=>tR r σ H2 fun ps H3=>Q ((x,y)::ps) H3
noncomputable abbrev VV:List (V×V)->List (Value×Value)->Prop:=Paired fun p q=>RelV p.1 q.1/\RelV p.2 q.2
def PPs(X:Cx)(pos:Pos)(keys:List (Option Expr))(values:List Expr)(trs:List (TE×TE)):Prop:=
 ∀(mW:List (Addr×Obj)) (s:Shared) (σ:St) (H:Hp) (Q:List (V×V)->Hp->Prop),Inv X mW σ H s->tR trs σ H Q ->
  wpAny (model X.prog X.w) X.A (evalPairs (pairTrees keys values X.env pos)) (fun vs s'=>∃ps H',Inv X mW σ H' s'/\VV ps vs/\Q ps H') X.xe s
theorem BZ:PPs X pos [] [] []:=fun mW s σ H Q I h=>pairTrees_nil_walk ⟨[],H,I,.nil,h⟩
theorem yM{k v:Expr}{ks:List (Option Expr)}{vs:List Expr}{tk tv:TE}(hk:PE X k tk)(hv:PE X v tv)(hr:PPs X pos ks vs trs) :
  PPs X pos (some k::ks) (v::vs) ((tk,tv)::trs):=fun mW s σ H Q I h=>
 pairTrees_cons_walk (thn (hk mW s σ H _ I h) fun u s1 ⟨x,H1,I1,rx,q1⟩=>thn (hv mW s1 σ H1 _ I1 q1) fun w2 s2 ⟨y,H2,I2,ry,q2⟩=>thn (hr mW s2 σ H2 _ I2 q2) fun ws s3 ⟨ps,H3,I3,rel,q3⟩=>⟨(x,y)::ps,H3,I3,.cons ⟨rx,ry⟩ rel,q3⟩)
noncomputable def i0(kvs more:List (Key×V)):List (Key×V):=more.foldl (fun Di kv=>putK Di kv.1 kv.2) kvs
theorem KV.merge:∀{more:List (Key×V)} {rs:List (Key×Value)} {kvs:List (Key×V)} {vs:List (Key×Value)},KV more rs->KV kvs vs->KV (i0 kvs more) (merged vs rs):=by
 intro more rs kvs vs r;unfold KV at r
 induction r generalizing kvs vs with
 |nil=>intro q;exact q
 |@cons p q ps qs h t ih=>
  intro r0;have e:KV (putK kvs p.1 p.2) (stored vs q.1 q.2):=by have:=r0.put p.1 h.2;rw[<- h.1];exact this
  exact ih e
theorem gj:∀(more kvs:List (Key×V)),(i0 kvs more).length<=kvs.length+more.length
 |[],kvs=>by show kvs.length<=kvs.length+0;lia
 |p::r,kvs=>by have h1:=gj r (putK kvs p.1 p.2);have h2:=fC kvs p.1 p.2;show (i0 (putK kvs p.1 p.2) r).length<=_;rw[M0];lia
theorem kg{P:Program}{w:World}:∀{kvs:List (Key×V)} {ws:List (Value×Value)},VV (kvs.map fun kv=>(kV kv.1,kv.2)) ws->∃rs,Carries (aF P w) ws rs/\KV kvs rs
 |[],_,r=>by rw[Ob]at r;cases r;exact⟨[],NB,.nil⟩
 |p::kvs,_,r=>by
  rw[gc]at r;cases r with
  |@cons a b as bs h t=>obtain⟨rs,c,q⟩:=kg (P:=P) (w:=w) t;obtain⟨b1,b2⟩:=b;exact⟨(p.1,b2)::rs,⟨j9 h.1,rfl,c⟩,.cons ⟨rfl,h.2⟩ q⟩
def El(trs:List (TE×TE)):TE:=fun σ H Q=>∀p,H p=none->tR trs σ (upd H p (.dK [])) fun ps H2=>H2 p=some (.dK [])/\∃kvs:List (Key×V),ps=kvs.map (fun kv=>(kV kv.1,kv.2))/\kvs.length<=15/\Q (.ref p) (upd H2 p (.dK (i0 [] kvs)))
theorem B0{keys:List (Option Expr)}{values:List Expr}(h:PPs X pos keys values trs)(hall:keys.all (·.isSome)=true)(hl:keys.length=values.length)(h0:keys≠[])
  (h15:keys.length<=15):PE X (.Dict keys values pos) (El trs):=by
 intro mW s σ H Q I q;have hn:=I.hok.fresh (Mn s.heap.objs.size);have I1:=I.laid (a:=s.heap.objs.size) (o:=.dK []) (h':=s.heap.push { cls:=.type "dict",data:=.dict #[] }) (t':=s.toks) (fun _ _ q=>Mm _ q) (Mn _) (yH s.heap I.big);refine wpAny_Dict_walk (knd:=aF X.prog X.w) hall hl h0 h15 (thn (h mW _ σ _ _ I1 (q _ hn)) fun ws s2 ⟨ps,H2,I2,rel,e,kvs,ep,lk,q2⟩=>?_);subst ep;obtain⟨rs,c,rk⟩:=kg (P:=X.prog) (w:=X.w) rel;obtain⟨z,hd,vs0,r0,dd⟩:=Ek I2.hok e;cases r0;refine⟨rs,c,dd,fun h' dd' hs=>⟨.ref s.heap.objs.size,_,?_,rfl,q2⟩⟩;have hz:(i0 [] kvs).length<=sizeLine:=by have h1:=gj kvs [];rw[O7]at h1;rw[sizeLine_eq];lia
 have he:∃q,h'.get? s.heap.objs.size=some q:=let ⟨q,_,_,hq,_⟩:=dd';⟨q,hq⟩
 exact jO I2 (by rw[e];exact NB) hs he (yE hz hd (rk.merge .nil) dd')
structure M1(X:Cx)(o:Expr)(m:Str)(Hu:Pos)(e:Expr)(cpos:Pos):Prop where
 base:attributeBase o m X.env (eval o X.env)=eval o X.env
 few:((backTo cpos (starEach [e] X.env)).all (fun x=>!x.1)&&(backToKw cpos (keywordEach [] X.env)).all (fun x=>x.1.isSome)
  && decide (([e]:List Expr).length+([]:List Keyword).length+(if ([]:List Keyword).isEmpty then 0 else 1)<30))=true
 line:(Hu.endLine == cpos.line)=true
 trees:backTo cpos (starEach [e] X.env)=[(false,eval e X.env)]
def IsD(H:Hp)(a:Addr):Prop:=(∃kvs,Rd H a (.dK kvs))\/∃kvs ts,Rd H a (.dT kvs ts)
theorem yN{mW:List (Addr×Obj)}{σ:St}{H:Hp}{s:Shared}{a:Addr}(I:Inv X mW σ H s)(d:IsD H a) :
  s.TypeIs (.ref a) "dict" /\ (∀b,MO a=.ref b->∃ob,s.heap.get? b=some ob/\ob.dict=none)/\(a == sysModules)=false:=by
 rcases d with⟨kvs,e⟩ | ⟨kvs,ts,e⟩
 ·obtain⟨_,hd,vs,_,dd⟩:=j_ I.hok e;refine⟨dd.typeIs,fun b q=>?_,hd⟩;cases q;obtain⟨ob,_,_,h1,h2,_⟩:=dd;exact⟨ob,h1,h2.2.1⟩
 ·obtain⟨_,hd,xs,_,dd⟩:=kc I.hok e;refine⟨dd.typeIs,fun b q=>?_,hd⟩;cases q;obtain⟨ob,_,_,h1,h2,_⟩:=dd;exact⟨ob,h1,h2.2.1⟩
end
section
variable{X:Cx}{mW:List (Addr×Obj)}{σ:St}{H:Hp}{s:Shared}{a:Addr}{y d:V}{u r:Value}{o:Option V}{A:Around}{E:Value->Shared->Prop}
theorem Gs{Q:Value->Shared->Prop}(hu:A.units+1<cLine)(I:Inv X mW σ H s)(g:cG H a y o)(ry:RelV y u)(h:∀w' s',Inv X mW σ H s'->RelV (o.getD .non) w'->Q w' s') :
  wpAny (model X.prog X.w) A (call (.builtin "dict.get") [.ref a,u]) Q E s:=by
 rcases g with⟨kvs,k,e,ey,l⟩ | ⟨kvs,k,b,ts,e,ey,eb,l⟩
 ·subst ey;obtain⟨z,hd,vs,rel,dd⟩:=j_ I.hok e;refine call_meetsIn Ov dd.typeIs PySem.F.entry_dict_get (PySem.F.args_dict_get_2 _ _) (meets_dict_get (aF X.prog X.w) a (j9 ry) hd) ⟨_,dd.mapOf,h _ _ (I.tok _) ?_⟩;rw[l];exact(rel.val k).getD rfl
 ·subst ey;cases (show u=MO b from ry);obtain⟨z,hd,xs,rel,dd⟩:=kc I.hok e;refine call_meetsIn Ov dd.typeIs PySem.F.entry_dict_get (PySem.F.args_dict_get_2 _ _) (meetsH_dict_get (tupleKind (aF X.prog X.w)) a b hd) ⟨tupleKind_room_in1 hu,k,xs,gw I.hok eb,dd,h _ _ (I.tok _) ?_⟩;rw[l];exact(rel.val k).getD rfl
end
def yO(td ty:TE):TE:=fun σ H Q=>td σ H fun x H1=>∃a,x=.ref a/\IsD H1 a/\ty σ H1 fun y H2=>∃o,cG H2 a y o/\Q (o.getD .non) H2
section
variable{X:Cx}{o e f:Expr}{Hu cpos:Pos}{td ty tx:TE}
theorem yP(hu:X.A.units+1<cLine)(ho:PE X o td)(he:PE X e ty)(m:M1 X o "get" Hu e cpos):PE X (.Call (.Attribute o "get" Hu) [e] [] cpos) (yO td ty):=by intro mW s σ H Q I h;refine wpAny_Call_method m.base m.few m.line PySem.F.plainAttrs_dict Ov PySem.F.type_dict_get (thn (ho mW s σ H _ I h) fun u s1 ⟨x,H1,I1,rx,a,ex,d,q1⟩=>?_);subst ex;obtain rfl:u=MO a:=rx;obtain⟨t1,t2,_⟩:=yN I1 d;refine⟨t1,t2,?_⟩;rw[m.trees];refine Ol rfl (OC (OO (thn (he mW s1 σ H1 _ I1 q1) fun iv s2 ⟨y,H2,I2,ry,ov,g,q2⟩=>Oi ?_)));exact Gs hu I2 g ry fun w' s3 I3 rw'=>⟨_,H2,I3,rw',q2⟩
end
end L2
namespace Dm
inductive Dat where
 |non
 |bl (b:Bool)
 |int (i:Int)
 |str (s:List Nat)
 |tup (xs:List Dat)
 |lst (xs:List Dat)
 |dct (ks:List Int) (vs:List Dat)
 |dcp (ks:List (Int×Int)) (vs:List Dat)
 |exc (C:Nat)
 |dc (C:Nat) (v:Int)
 |fn (a:Nat)
deriving Inhabited
inductive Cell where
 |un
 |sh (d:Dat)
 |ow (d:Dat)
deriving Inhabited
noncomputable abbrev Env:=List Cell
inductive Val where
 |val (d:Dat)
 |slot (i:Nat)
 |new (d:Dat)
inductive RV where
 |val (d:Dat)
 |new (d:Dat)
noncomputable def RV.dat:RV->Dat
 |.val d=>d
 |.new d=>d
noncomputable def RV.bA:RV->Val
 |.val d=>.val d
 |.new d=>.new d
noncomputable def SZ:Nat:=100000
noncomputable def dF:Dat->Bool
 |.tup _=>true
 |.lst _=>true
 |.dct _ _=>true
 |.dcp _ _=>true
 |.exc _=>true
 |.dc _ _=>true
 |_=>false
noncomputable def pk(ρ:Env):Val->Option Dat
 |.val d=>some d
 |.new d=>some d
 |.slot i=>match ρ[i]? with
  |some (.ow d)=>some d
  |some (.sh d)=>some d
  |_=>none
noncomputable def tk(ρ:Env):Val->Option (Dat×Env)
 |.val d=>some (d,ρ)
 |.new d=>some (d,ρ)
 |.slot i=>match ρ[i]? with
  |some (.ow d)=>some (d,ρ.set i (.sh d))
  |some (.sh d)=>some (d,ρ)
  |_=>none
noncomputable def pks(ρ:Env):List Val->Option (List Dat)
 |[]=>some []
 |x::r=>match pk ρ x with
  |none=>none
  |some d=>match pks ρ r with
   |none=>none
   |some ds=>some (d::ds)
noncomputable def tks(ρ:Env):List Val->Option (List Dat×Env)
 |[]=>some ([],ρ)
 |x::r=>match tk ρ x with
  |none=>none
  |some (d,ρ1)=>match tks ρ1 r with
   |none=>none
   |some (ds,ρ2)=>some (d::ds,ρ2)
noncomputable abbrev FE:=Env->Option (Val×Env)
noncomputable abbrev FT:=Env->Option (Bool×Env)
noncomputable def eC(d:Dat):FE:=fun ρ=>some (.val d,ρ)
noncomputable def eV(i:Nat):FE:=fun ρ=>match ρ[i]? with
 |some (.sh d)=>some (.val d,ρ)
 |some (.ow _)=>some (.slot i,ρ)
 |_=>none
noncomputable def e1(g:Dat->Option RV)(a:FE):FE:=fun ρ=>match a ρ with
 |none=>none
 |some (x,ρ1)=>match pk ρ1 x with
  |none=>none
  |some d=>match g d with
   |none=>none
   |some v=>some (v.bA,ρ1)
noncomputable def e2(g:Dat->Dat->Option RV)(a b:FE):FE:=fun ρ=>match a ρ with
 |none=>none
 |some (x,ρ1)=>match b ρ1 with
  |none=>none
  |some (y,ρ2)=>match pk ρ2 x with
   |none=>none
   |some d=>match pk ρ2 y with
    |none=>none
    |some e=>match g d e with
     |none=>none
     |some v=>some (v.bA,ρ2)
noncomputable def eAs:List FE->Env->Option (List Val×Env)
 |[],ρ=>some ([],ρ)
 |a::r,ρ=>match a ρ with
  |none=>none
  |some (x,ρ1)=>match eAs r ρ1 with
   |none=>none
   |some (xs,ρ2)=>some (x::xs,ρ2)
noncomputable def eB(g:List Dat->Option RV)(as:List FE):FE:=fun ρ=>match eAs as ρ with
 |none=>none
 |some (xs,ρ1)=>match pks ρ1 xs with
  |none=>none
  |some ds=>match g ds with
   |none=>none
   |some v=>some (v.bA,ρ1)
noncomputable def cN(as:List FE):FE:=fun ρ=>match eAs as ρ with
 |none=>none
 |some (xs,ρ1)=>match tks ρ1 xs with
  |none=>none
  |some (ds,ρ2)=>if ds.length<=SZ then some (.val (.tup ds),ρ2) else none
noncomputable def dg(as:List FE):FE:=fun ρ=>match eAs as ρ with
 |none=>none
 |some (xs,ρ1)=>match tks ρ1 xs with
  |none=>none
  |some (ds,ρ2)=>if ds.length<=SZ then some (.new (.lst ds),ρ2) else none
noncomputable def eF(f:List Dat->Option RV)(as:List FE):FE:=fun ρ=>match eAs as ρ with
 |none=>none
 |some (xs,ρ1)=>match pks ρ1 xs with
  |none=>none
  |some ds=>match f ds with
   |none=>none
   | some v=>if dF v.dat then (match tks ρ1 xs with
     |none=>none
     |some (_,ρ2)=>some (v.bA,ρ2)) else some (v.bA,ρ1)
noncomputable def eIf(t:FT)(a b:FE):FE:=fun ρ=>match t ρ with
 |none=>none
 |some (true,ρ1)=>a ρ1
 |some (false,ρ1)=>b ρ1
noncomputable def jH(a b:FE):FE:=fun ρ=>match a ρ with
 |some (.val (.bl true),ρ1)=>b ρ1
 |some (.val (.bl false),ρ1)=>some (.val (.bl false),ρ1)
 |_=>none
noncomputable def eOr(a b:FE):FE:=fun ρ=>match a ρ with
 |some (.val (.bl true),ρ1)=>some (.val (.bl true),ρ1)
 |some (.val (.bl false),ρ1)=>b ρ1
 |_=>none
noncomputable def xr(a:FE):FE:=fun ρ=>match a ρ with
 |some (.val (.bl c),ρ1)=>some (.val (.bl (!c)),ρ1)
 |_=>none
noncomputable def tV(a:FE):FT:=fun ρ=>match a ρ with
 |some (.val (.bl c),ρ1)=>some (c,ρ1)
 |_=>none
noncomputable def jZ(t:FT):FT:=fun ρ=>match t ρ with
 |some (c,ρ1)=>some (!c,ρ1)
 |none=>none
noncomputable def ff(t u:FT):FT:=fun ρ=>match t ρ with
 |some (true,ρ1)=>u ρ1
 |some (false,ρ1)=>some (false,ρ1)
 |none=>none
noncomputable def tOr(t u:FT):FT:=fun ρ=>match t ρ with
 |some (true,ρ1)=>some (true,ρ1)
 |some (false,ρ1)=>u ρ1
 |none=>none
noncomputable def truth:Dat->Option Bool
 |.non=>some false
 |.bl b=>some b
 |.int i=>some (i != 0)
 |.tup xs=>some (!xs.isEmpty)
 |.lst xs=>some (!xs.isEmpty)
 |_=>none
noncomputable def tTr(a:FE):FT:=fun ρ=>match a ρ with
 |none=>none
 |some (x,ρ1)=>match pk ρ1 x with
  |none=>none
  |some d=>match truth d with
   |none=>none
   |some c=>some (c,ρ1)
noncomputable def bS:FT:=fun ρ=>some (true,ρ)
noncomputable abbrev FI:=Env->Option (List Dat×Env)
noncomputable def iL(a:FE):FI:=fun ρ=>match a ρ with
 |none=>none
 |some (x,ρ1)=>match tk ρ1 x with
  |some (.lst ds,ρ2)=>some (ds,ρ2)
  |_=>none
noncomputable def iT(a:FE):FI:=fun ρ=>match a ρ with
 |none=>none
 |some (x,ρ1)=>match tk ρ1 x with
  |some (.tup ds,ρ2)=>some (ds,ρ2)
  |_=>none
noncomputable def iS(a:FE):FI:=fun ρ=>match a ρ with
 |none=>none
 |some (x,ρ1)=>match tk ρ1 x with
  |some (.lst ds,ρ2)=>some (ds,ρ2)
  |some (.tup ds,ρ2)=>some (ds,ρ2)
  |_=>none
noncomputable def ups(lo:Int)(n:Nat):List Dat:=(Mv n).map fun i=>Dat.int (lo+(i:Nat))
noncomputable def downs(hi:Int)(n:Nat):List Dat:=(Mv n).map fun i=>Dat.int (hi-(i:Nat))
noncomputable def BIG:Int:=1000000000
noncomputable def iR1(a:FE):FI:=fun ρ=>match a ρ with
 |some (.val (.int j),ρ1)=>if j<=BIG/\-BIG<=j then some (ups 0 j.toNat,ρ1) else none
 |_=>none
noncomputable def iR2(a b:FE):FI:=fun ρ=>match a ρ with
 | some (.val (.int i),ρ1)=>(match b ρ1 with
  |some (.val (.int j),ρ2)=>if j<=BIG/\-BIG<=j/\i<=BIG/\-BIG<=i then some (ups i (j-i).toNat,ρ2) else none
  |_=>none)
 |_=>none
noncomputable abbrev FB:=Dat->Env->Option Env
noncomputable def bN(i:Nat):FB:=fun d ρ=>if i=0 then none else some (ρ.set i (.sh d))
noncomputable def sets:List Nat->List Dat->Env->Option Env
 |[],[],ρ=>some ρ
 |i::is,d::ds,ρ=>if i=0 then none else sets is ds (ρ.set i (.sh d))
 |_,_,_=>none
noncomputable def bT(is:List Nat):FB:=fun d ρ=>match d with
 |.tup ds=>sets is ds ρ
 |_=>none
noncomputable def eY(bd:FB)(t:FT)(el:FE):List Dat->Env->List Dat->Option (List Dat×Env)
 |[],ρ,Di=>some (Di,ρ)
 |d::r,ρ,Di=>match bd d ρ with
  |none=>none
  |some ρ1=>match t ρ1 with
   |none=>none
   |some (false,ρ2)=>eY bd t el r ρ2 Di
   |some (true,ρ2)=>match el ρ2 with
    |none=>none
    |some (x,ρ3)=>match tk ρ3 x with
     |none=>none
     |some (y,ρ4)=>eY bd t el r ρ4 (Di++[y])
noncomputable def bD(it:FI)(own:Nat)(bd:FB)(t:FT)(el:FE):FE:=fun ρ=>match it ρ with
 |none=>none
 | some (ds,ρ1)=>if ds.length≤SZ then (match eY bd t el ds (ρ1++Mk own .un) [] with
  |none=>none
  |some (ys,ρ2)=>some (.new (.lst ys),ρ2.take ρ1.length)) else none
inductive Out where
 |nx (ρ:Env)
 |ret (r:RV) (ρ:Env)
 |bk (ρ:Env)
 |ct (ρ:Env)
noncomputable abbrev FS:=Env->Option Out
noncomputable def sNx:FS:=fun ρ=>some (.nx ρ)
noncomputable def aA(s u:FS):FS:=fun ρ=>match s ρ with
 |some (.nx ρ1)=>u ρ1
 |o=>o
noncomputable def sA(i:Nat)(e:FE):FS:=fun ρ=>if i=0 then none else match e ρ with
 |none=>none
 |some (.new d,ρ1)=>some (.nx (ρ1.set i (.ow d)))
 |some (x,ρ1)=>match tk ρ1 x with
  |none=>none
  |some (d,ρ2)=>some (.nx (ρ2.set i (.sh d)))
noncomputable def sE(e:FE):FS:=fun ρ=>match e ρ with
 |none=>none
 |some (_,ρ1)=>some (.nx ρ1)
noncomputable def sR(e:FE):FS:=fun ρ=>match e ρ with
 |none=>none
 |some (.new d,ρ1)=>some (.ret (.new d) ρ1)
 |some (.val d,ρ1)=>some (.ret (.val d) ρ1)
 |some (.slot i,ρ1)=>match ρ1[i]? with
  |some (.ow d)=>some (.ret (.new d) (ρ1.set i .un))
  |some (.sh d)=>some (.ret (.val d) ρ1)
  |_=>none
noncomputable def sIf(t:FT)(a b:FS):FS:=fun ρ=>match t ρ with
 |none=>none
 |some (true,ρ1)=>a ρ1
 |some (false,ρ1)=>b ρ1
noncomputable def mR(i:Nat)(e:FE):FS:=fun ρ=>match ρ[i]? with
 | some (.ow (.lst _))=>(match e ρ with
  |none=>none
  |some (x,ρ1)=>match tk ρ1 x with
   |none=>none
   |some (d,ρ2)=>match ρ2[i]? with
    |some (.ow (.lst ds))=>if ds.length<SZ then some (.nx (ρ2.set i (.ow (.lst (ds++[d]))))) else none
    |_=>none)
 |_=>none
noncomputable def ixN(n:Nat)(i:Int):Option Nat:=
 if 0<=i then (if i<n then some i.toNat else none) else if -(n:Int)<=i then some (i+n).toNat else none
noncomputable def xu(i:Nat)(j e:FE):FS:=fun ρ=>match e ρ with
 |none=>none
 |some (x,ρ1)=>match tk ρ1 x with
  |none=>none
  |some (d,ρ2)=>match ρ2[i]? with
   | some (.ow _)=>(match j ρ2 with
    | some (.val (.int k),ρ3)=>(match ρ3[i]? with
     | some (.ow (.lst ds))=>(match ixN ds.length k with
      |none=>none
      |some m=>some (.nx (ρ3.set i (.ow (.lst (ds.set m d))))))
     |_=>none)
    |_=>none)
   |_=>none
noncomputable def i6(bd:FB)(body:FS):List Dat->FS
 |[],ρ=>some (.nx ρ)
 |d::r,ρ=>match bd d ρ with
  |none=>none
  |some ρ1=>match body ρ1 with
   |some (.nx ρ2)=>i6 bd body r ρ2
   |some (.ct ρ2)=>i6 bd body r ρ2
   |some (.bk ρ2)=>some (.nx ρ2)
   |some (.ret v ρ2)=>some (.ret v ρ2)
   |none=>none
noncomputable def cU(it:FI)(bd:FB)(body:FS):FS:=fun ρ=>match it ρ with
 |none=>none
 |some (ds,ρ1)=>i6 bd body ds ρ1
noncomputable def whD(t:FT)(body:FS):Nat->FS
 |0,_=>none
 |n+1,ρ=>match t ρ with
  |none=>none
  |some (false,ρ1)=>some (.nx ρ1)
  |some (true,ρ1)=>match body ρ1 with
   |some (.nx ρ2)=>whD t body n ρ2
   |some (.ct ρ2)=>whD t body n ρ2
   |some (.bk ρ2)=>some (.nx ρ2)
   |some (.ret v ρ2)=>some (.ret v ρ2)
   |none=>none
noncomputable def fn(n m:Nat)(body:FS)(ds:List Dat):Option RV:=if ds.length=n then (match body (ds.map Cell.sh++Mk m .un) with
 |some (.ret r _)=>some r
 |some (.nx _)=>some (.val .non)
 |_=>none) else none
noncomputable def b2i(b:Bool):Int:=if b then 1 else 0
mutual
noncomputable def eqD:Dat->Dat->Bool
 |.non,.non=>true
 |.bl a,.bl b=>a == b
 |.bl a,.int j=>b2i a == j
 |.int i,.bl b=>i == b2i b
 |.int i,.int j=>i == j
 |.str a,.str b=>a == b
 |.tup xs,.tup ys=>kh xs ys
 |.lst xs,.lst ys=>kh xs ys
 |_,_=>false
noncomputable def kh:List Dat->List Dat->Bool
 |[],[]=>true
 |x::xs,y::ys=>eqD x y&&kh xs ys
 |_,_=>false
end
noncomputable def okD:Nat->Dat->Bool
 |_,.dct _ _=>false
 |_,.dcp _ _=>false
 |_,.exc _=>false
 |_,.dc _ _=>false
 |_,.fn _=>false
 |_,.str s=>s.all fun c=>decide (c<128)
 |0,.tup _=>false
 |0,.lst _=>false
 |n+1,.tup xs=>xs.all (okD n)
 |n+1,.lst xs=>xs.all (okD n)
 |_,_=>true
noncomputable abbrev vB(b:Bool):Option RV:=some (.val (.bl b))
noncomputable def yQ(p:Dat->Bool):Dat->Option RV
 |.exc _=>none
 |.dc _ _=>none
 |.fn _=>none
 |d=>vB (p d)
noncomputable abbrev vI(i:Int):Option RV:=some (.val (.int i))
noncomputable def gEq(x y:Dat):Option RV:=if okD 8 x&&okD 8 y then vB (eqD x y) else none
noncomputable def gNe(x y:Dat):Option RV:=if okD 8 x&&okD 8 y then vB (!eqD x y) else none
noncomputable def gLt:Dat->Dat->Option RV
 |.int i,.int j=>vB (decide (i<j))
 |_,_=>none
noncomputable def gLe:Dat->Dat->Option RV
 |.int i,.int j=>vB (decide (i<=j))
 |_,_=>none
noncomputable def gGt:Dat->Dat->Option RV
 |.int i,.int j=>vB (decide (j<i))
 |_,_=>none
noncomputable def gGe:Dat->Dat->Option RV
 |.int i,.int j=>vB (decide (j<=i))
 |_,_=>none
noncomputable def B64:Int:=18446744073709551616
noncomputable def bu:Dat->Dat->Option RV
 |.int i,.int j=>vI (i+j)
 |.lst xs,.lst ys=>if xs.length+ys.length<=SZ then some (.new (.lst (xs++ys))) else none
 |_,_=>none
noncomputable def jF:Dat->Dat->Option RV
 |.int i,.int j=>vI (i-j)
 |_,_=>none
noncomputable def fD:Dat->Dat->Option RV
 |.int i,.int j=>if (-B64<i/\i<B64)\/(-B64<j/\j<B64) then vI (i*j) else none
 |.lst xs,.int k=>if k<=BIG/\-BIG<=k/\xs.length*k.toNat<=SZ then some (.new (.lst (Mk k.toNat xs).flatten)) else none
 |_,_=>none
noncomputable def i7:Int:=1606938044258990275541962092341162602522202993782792835301376
noncomputable def tS:Dat->Dat->Option RV
 |.int i,.int j=>if 0<j/\j<i7 then vI (i / j) else none
 |_,_=>none
noncomputable def jI:Dat->Dat->Option RV
 |.int i,.int j=>if 0<j then vI (i % j) else none
 |_,_=>none
noncomputable def tT:Dat->Dat->Option RV
 |.int i,.int j=>if 0<=j/\j<=1000000/\i.natAbs<1000000 then vI (i ^ j.toNat) else none
 |_,_=>none
noncomputable def tU:Dat->Dat->Option RV
 |.int i,.int j=>if 0<=j then vI (i / 2 ^ j.toNat) else none
 |_,_=>none
noncomputable def xw:Dat->Dat->Option RV
 |.int i,.int j=>if j=1 then vI (i % 2) else none
 |_,_=>none
noncomputable def atI(xs:List Dat)(i:Int):Option Dat:=(ixN xs.length i).bind fun j=>xs[j]?
noncomputable def gIx:Dat->Dat->Option RV
 |.lst xs,.int i=>(atI xs i).map .val
 |.tup xs,.int i=>(atI xs i).map .val
 |_,_=>none
noncomputable def inD(x:Dat)(xs:List Dat):Bool:=xs.any fun y=>eqD y x
noncomputable def gIn:Dat->Dat->Option RV
 |x,.lst xs=>if okD 8 x&&xs.all (okD 7) then vB (inD x xs) else none
 |x,.tup xs=>if okD 8 x&&xs.all (okD 7) then vB (inD x xs) else none
 |_,_=>none
noncomputable def b4:Dat->Dat->Option RV
 |x,.lst xs=>if okD 8 x&&xs.all (okD 7) then vB (!inD x xs) else none
 |x,.tup xs=>if okD 8 x&&xs.all (okD 7) then vB (!inD x xs) else none
 |_,_=>none
noncomputable def sIx(n d:Nat):Option Int->Nat
 |none=>d
 |some v=>(if v<0 then max (v+n) 0 else min v n).toNat
noncomputable def cut(xs:List Dat)(lo hi:Option Int):List Dat:=(xs.drop (sIx xs.length 0 lo)).take (sIx xs.length xs.length hi-sIx xs.length 0 lo)
noncomputable def dG:List Dat->Option RV
 |[.lst xs]=>vI xs.length
 |[.tup xs]=>vI xs.length
 |_=>none
noncomputable def nq:List Dat->Option RV
 |[.int i,.int j]=>vI (if j<i then j else i)
 |_=>none
noncomputable def nt:List Dat->Option RV
 |[.int i,.int j]=>vI (if j>i then j else i)
 |_=>none
noncomputable def ki:List Dat->Option RV
 |[.lst xs]=>some (.new (.lst xs))
 |[.tup xs]=>some (.new (.lst xs))
 |_=>none
noncomputable def i8:List Dat->Option RV
 |[.lst xs]=>some (.val (.tup xs))
 |[.tup xs]=>some (.val (.tup xs))
 |_=>none
noncomputable def isI:Dat->Bool
 |.int _=>true
 |.bl _=>true
 |_=>false
noncomputable def isB:Dat->Bool
 |.bl _=>true
 |_=>false
noncomputable def kj(g h:Dat->Dat->Option RV)(a b c:FE):FE:=fun ρ=>match a ρ with
 |none=>none
 |some (x,ρ1)=>match b ρ1 with
  |none=>none
  |some (y,ρ2)=>match pk ρ2 x with
   |none=>none
   |some d=>match pk ρ2 y with
    |none=>none
    |some e=>match g d e with
     | some (.val (.bl true))=>(match c ρ2 with
      |none=>none
      |some (z,ρ3)=>match pk ρ3 y with
       |none=>none
       |some e'=>match pk ρ3 z with
        |none=>none
        |some f=>match h e' f with
         |none=>none
         |some v=>some (v.bA,ρ3))
     |some (.val (.bl false))=>some (.val (.bl false),ρ2)
     |_=>none
noncomputable def part:Option FE->Env->Option (Option Int×Env)
 |none,ρ=>some (none,ρ)
 |some f,ρ=>match f ρ with
  |some (.val (.int i),ρ1)=>some (some i,ρ1)
  |_=>none
noncomputable def eSl(a:FE)(lo hi:Option FE):FE:=fun ρ=>match a ρ with
 |none=>none
 |some (x,ρ1)=>match part lo ρ1 with
  |none=>none
  |some (l,ρ2)=>match part hi ρ2 with
   |none=>none
   |some (h,ρ3)=>match pk ρ3 x with
    |some (.lst xs)=>some (.new (.lst (cut xs l h)),ρ3)
    |_=>none
noncomputable def yR:List Dat->Option RV
 |[.int i]=>vI i
 |[.bl b]=>vI (b2i b)
 |_=>none
end Dm
open Dm(Dat FE RV FT FS)
namespace Br
open PySem L2
noncomputable def kP(p:Int×Int):List Key:=[MW p.1,MW p.2]
def bK(H:Hp):List Addr->List (Int×Int)->Prop
 |[],[]=>True
 |t::ts,p::ks=>H t=some (.tup [V.int p.1,V.int p.2])/\bK H ts ks
 |_,_=>False
theorem bK.mono{H H':Hp}(s:ao H H'):∀{ts:List Addr} {ks:List (Int×Int)},bK H ts ks->bK H' ts ks
 |[],[],_=>trivial
 |_::_,_::_,h=>⟨s _ _ h.1,bK.mono s h.2⟩
 |[],_::_,h=>h
 |_::_,[],h=>h
def xx(H:Hp)(x:List (List Key×V)×List Addr)(ks:List (Int×Int)):Prop:=x.1.map (·.1)=ks.map kP/\bK H x.2 ks
theorem xx.mono{H H':Hp}(s:ao H H'){x:List (List Key×V)×List Addr}{ks:List (Int×Int)}(h:xx H x ks):xx H' x ks:=⟨h.1,h.2.mono s⟩
mutual
inductive Rep(H:Hp):V->Dat->Prop
 |non:Rep H V.non Dat.non
 |bl (b:Bool):Rep H (V.bl b) (Dat.bl b)
 |int (i:Int):Rep H (V.int i) (Dat.int i)
 |str (s:List Nat):Rep H (V.str ⟨s.toArray⟩) (Dat.str s)
 |tup {a:Addr} {xs:List V} {ds:List Dat}:H a=some (.tup xs)->av H xs ds->Rep H (V.ref a) (Dat.tup ds)
 |lst {a:Addr} {xs:List V} {ds:List Dat}:Rd H a (.lst xs)->av H xs ds->Rep H (V.ref a) (Dat.lst ds)
 |dct {a:Addr} {kvs:List (Key×V)} {ks:List Int} {ds:List Dat}:H a=some (.dK kvs)->kvs.map (·.1)=ks.map MW->av H (kvs.map (·.2)) ds->Rep H (V.ref a) (Dat.dct ks ds)
 |dcp {a:Addr} {x:List (List Key×V)×List Addr} {ks:List (Int×Int)} {ds:List Dat}:H a=some (.dT x.1 x.2)->xx H x ks->av H (x.1.map (·.2)) ds->Rep H (V.ref a) (Dat.dcp ks ds)
 |exc {a:Addr} {C:Nat}:H a=some (.ext fun h=>∃o,h.get? a=some o/\o.cls=.ref C)->Rep H (V.ref a) (Dat.exc C)
 |dc {a d:Addr} {C:Nat} {v:Int}:H a=some (.ext fun h=>∃o,h.get? a=some o/\o.cls=.ref C/\o.dict=some d/\∀c,o.data≠.cls c)->H d=some (.xd [("moment",.int v)])->Rep H (V.ref a) (Dat.dc C v)
 |fn (a:Addr):Rep H (V.ref a) (Dat.fn a)
inductive av(H:Hp):List V->List Dat->Prop
 |nil:av H [] []
 |cons {v:V} {d:Dat} {vs:List V} {ds:List Dat}:Rep H v d->av H vs ds->av H (v::vs) (d::ds)
end
theorem ao.rd{H H':Hp}(s:ao H H'){a:Addr}{u:HO}(h:Rd H a u):Rd H' a u:=by
 rcases h with h | ⟨o,h⟩
 ·exact .inl (s _ _ h)
 ·exact .inr ⟨o,s _ _ h⟩
mutual
theorem Rep.mono{H H':Hp}(s:ao H H'):∀{v:V} {d:Dat},Rep H v d->Rep H' v d
 |_,_,.non=>.non
 |_,_,.bl b=>.bl b
 |_,_,.int i=>.int i
 |_,_,.str x=>.str x
 |_,_,.tup h r=>.tup (s _ _ h) (av.mono s r)
 |_,_,.lst h r=>.lst (ao.rd s h) (av.mono s r)
 |_,_,.dct h e r=>.dct (s _ _ h) e (av.mono s r)
 |_,_,.dcp h e r=>.dcp (s _ _ h) (e.mono s) (av.mono s r)
 |_,_,.exc h=>.exc (s _ _ h)
 |_,_,.dc h k=>.dc (s _ _ h) (s _ _ k)
 |_,_,.fn a=>.fn a
theorem av.mono{H H':Hp}(s:ao H H'):∀{vs:List V} {ds:List Dat},av H vs ds->av H' vs ds
 |_,_,.nil=>.nil
 |_,_,.cons h r=>.cons (Rep.mono s h) (av.mono s r)
end
section
variable{ρ:Dm.Env}{H0 H:Hp}{d:Dat}{σ:St}{a:Addr}{x:Dm.Val}{v:V}{X:Cx}{t t':TS}{p:Addr}{e:Expr}{o:HO}
theorem av.length{H:Hp}:∀{vs:List V} {ds:List Dat},av H vs ds->vs.length=ds.length
 |_,_,.nil=>rfl
 |_,_,.cons _ r=>by simp[av.length r]
theorem av.get{H:Hp}:∀{vs:List V} {ds:List Dat} {i:Nat} {d:Dat},av H vs ds->ds[i]?=some d->∃v,vs[i]?=some v/\Rep H v d
 |_,_,_,_,.nil,e=>by simp at e
 |_,_,0,_,.cons h _,e=>by simp at e;subst e;exact⟨_,rfl,h⟩
 |_,_,i+1,_,.cons _ r,e=>by obtain⟨v,h1,h2⟩:=av.get (i:=i) r (by simpa using e);exact⟨v,by simpa using h1,h2⟩
theorem av.Gu{H:Hp}:∀{vs:List V} {ds:List Dat} {i:Nat} {v:V},av H vs ds->vs[i]?=some v->∃d,ds[i]?=some d/\Rep H v d
 |_,_,_,_,.nil,e=>by simp at e
 |_,_,0,_,.cons h _,e=>by simp at e;subst e;exact⟨_,rfl,h⟩
 |_,_,i+1,_,.cons _ r,e=>by obtain⟨v,h1,h2⟩:=av.Gu (i:=i) r (by simpa using e);exact⟨v,by simpa using h1,h2⟩
theorem av.append{H:Hp}:∀{vs ws:List V} {ds es:List Dat},av H vs ds->av H ws es->av H (vs++ws) (ds++es)
 |_,_,_,_,.nil,s=>s
 |_,_,_,_,.cons h r,s=>.cons h (av.append r s)
theorem av.take{H:Hp}:∀{vs:List V} {ds:List Dat} (n:Nat),av H vs ds->av H (vs.take n) (ds.take n)
 |_,_,0,_=>by simpa using av.nil
 |_,_,_+1,.nil=>by simpa using av.nil
 |_,_,n+1,.cons h r=>by simpa using av.cons h (av.take n r)
theorem av.drop{H:Hp}:∀{vs:List V} {ds:List Dat} (n:Nat),av H vs ds->av H (vs.drop n) (ds.drop n)
 |_,_,0,r=>by simpa using r
 |_,_,_+1,.nil=>by simpa using av.nil
 |_,_,n+1,.cons _ r=>by simpa using av.drop n r
theorem av.set{H:Hp}(h:Rep H v d):∀{vs:List V} {ds:List Dat} (i:Nat),av H vs ds->av H (vs.set i v) (ds.set i d)
 |_,_,_,.nil=>.nil
 |_,_,0,.cons _ r=>.cons h r
 |_,_,i+1,.cons q r=>.cons q (av.set h i r)
theorem av.rep{H:Hp}{vs:List V}{ds:List Dat}(r:av H vs ds):∀k:Nat,av H (Mk k vs).flatten (Mk k ds).flatten
 |0=>by simpa using av.nil
 |k+1=>by rw[Ny,Ny,Nx,Nx];exact av.append r (av.rep r k)
def Own(H0 H:Hp)(a:Addr):Dat->Prop
 |.lst ds=>∃xs,H a=some (.lst xs)/\av H0 xs ds
 |.dct ks ds=>∃kvs:List (Key×V),H a=some (.dK kvs)/\kvs.map (·.1)=ks.map MW/\av H0 (kvs.map (·.2)) ds
 |.dcp ks ds=>∃x:List (List Key×V)×List Addr,H a=some (.dT x.1 x.2)/\xx H0 x ks/\av H0 (x.1.map (·.2)) ds
 |_=>False
theorem Own.some(h:Own H0 H a d):∃o,H a=some o:=by
 cases d with
 |lst ds=>obtain⟨xs,e,_⟩:=h;exact⟨_,e⟩
 |dct ks ds=>obtain⟨xs,e,_⟩:=h;exact⟨_,e⟩
 |dcp ks ds=>obtain⟨xs,e,_⟩:=h;exact⟨_,e⟩
 |_=>exact MZ h
theorem Own.mono{H0 H H0' H':Hp}(h:Own H0 H a d)(s:ao H0 H0')(e:H' a=H a):Own H0' H' a d:=by
 cases d with
 |lst ds=>obtain⟨xs,q,r⟩:=h;exact⟨xs,by rw[e];exact q,r.mono s⟩
 |dct ks ds=>obtain⟨xs,q,k,r⟩:=h;exact⟨xs,by rw[e];exact q,k,r.mono s⟩
 |dcp ks ds=>obtain⟨xs,q,k,r⟩:=h;exact⟨xs,by rw[e];exact q,k.mono s,r.mono s⟩
 |_=>exact MZ h
def iG(H0 H:Hp)(v:V)(d:Dat):Prop:=Rep H0 v d\/∃a,v=V.ref a/\Own H0 H a d
inductive nu(H0 H:Hp):List V->List Dat->Prop
 |nil:nu H0 H [] []
 |cons {v:V} {d:Dat} {vs:List V} {ds:List Dat}:iG H0 H v d->nu H0 H vs ds->nu H0 H (v::vs) (d::ds)
noncomputable def shr(H0 H:Hp)(a:Addr):Hp:=fun b=>if b=a then H a else H0 b
theorem b_:shr H0 H a a=H a:=by unfold shr;rw[if_pos rfl]
theorem gx{a b:Addr}(h:b≠a):shr H0 H a b=H0 b:=by unfold shr;rw[if_neg h]
theorem dH(h:H0 a=none):ao H0 (shr H0 H a):=fun b o e=>by
 by_cases q:b=a
 ·subst q;rw[h]at e;cases e
 ·rw[gx q];exact e
theorem vv(s:ao H0 H):ao (shr H0 H a) H:=fun b o e=>by
 by_cases q:b=a
 ·subst q;rw[b_]at e;exact e
 ·rw[gx q]at e;exact s _ _ e
theorem Own.rep(h:Own H0 H a d)(n:H0 a=none):Rep (shr H0 H a) (V.ref a) d:=by
 cases d with
 |lst ds=>obtain⟨xs,q,r⟩:=h;exact .lst (.inl (by rw[b_];exact q)) (r.mono (dH n))
 |dct ks ds=>obtain⟨xs,q,k,r⟩:=h;exact .dct (by rw[b_];exact q) k (r.mono (dH n))
 |dcp ks ds=>obtain⟨xs,q,k,r⟩:=h;exact .dcp (by rw[b_];exact q) (k.mono (dH n)) (r.mono (dH n))
 |_=>exact MZ h
def aj(σ:St)(ρ:Dm.Env)(a:Addr):Prop:=∃(i:Nat) (d:Dat),ρ[i]?=some (Dm.Cell.ow d)/\σ[i]?=some (some (V.ref a))
noncomputable abbrev Def(_:Dm.Env)(_:Nat):Prop:=True
structure az(H0 H:Hp)(σ:St)(ρ:Dm.Env):Prop where
 same:ao H0 H
 len:σ.length=ρ.length
 sh:∀(i:Nat) (d:Dat),ρ[i]?=some (Dm.Cell.sh d)->∃v,σ[i]?=some (some v)/\Rep H0 v d
 ow:∀(i:Nat) (d:Dat),ρ[i]?=some (Dm.Cell.ow d)->∃a,σ[i]?=some (some (V.ref a))/\H0 a=none/\Own H0 H a d
 dis:∀(i j:Nat) (d e:Dat) (a:Addr),ρ[i]?=some (Dm.Cell.ow d)->ρ[j]?=some (Dm.Cell.ow e)->σ[i]?=some (some (V.ref a))->σ[j]?=some (some (V.ref a))->i=j
structure Stp(O:Addr->Prop)(H0 H H0' H':Hp):Prop where
 s0:ao H0 H0'
 s1:∀a o,H a=some o->¬O a->H' a=some o
 s2:∀a o,H0' a=some o->H a=none\/H0 a=some o\/O a
 s3:∀a o,H a=some o->∃o',H' a=some o'
theorem Stp.refl(O:Addr->Prop)(H0 H:Hp):Stp O H0 H H0 H:=⟨ao.refl _,fun _ _ e _=>e,fun _ _ e=>.inr (.inl e),fun _ o e=>⟨o,e⟩⟩
theorem Stp.gone{O:Addr->Prop}{H0 H H0' H':Hp}(t:Stp O H0 H H0' H')(h:H' a=none):H a=none:=by
 cases q:H a with
 |none=>rfl
 |some o=>obtain⟨o',e⟩:=t.s3 a o q;rw[h]at e;cases e
theorem Stp.trans{O1 O2:Addr->Prop}{H0 H H1 H' H2 H'':Hp}(t:Stp O1 H0 H H1 H')(u:Stp O2 H1 H' H2 H'')(k:∀a,O2 a->O1 a\/H a=none):Stp O1 H0 H H2 H'' where
 s0:=t.s0.trans u.s0
 s1:=fun a o e n=>u.s1 a o (t.s1 a o e n) fun z=>(k a z).elim n fun q=>by rw[q]at e;cases e
 s2:=fun a o e=>by
  rcases u.s2 a o e with q | q | q
  ·exact .inl (t.gone q)
  ·exact t.s2 a o q
  ·rcases k a q with z | z
   ·exact .inr (.inr z)
   ·exact .inl z
 s3:=fun a o e=>by obtain⟨o',e'⟩:=t.s3 a o e;exact u.s3 a o' e'
theorem Stp.wide{O O':Addr->Prop}{H0 H H0' H':Hp}(t:Stp O H0 H H0' H')(k:∀a,O a->O' a):Stp O' H0 H H0' H':=
 ⟨t.s0,fun a o e n=>t.s1 a o e fun z=>n (k a z),fun a o e=>(t.s2 a o e).imp id (Or.imp id (k a)),t.s3⟩
structure aI(H0 H H0' H':Hp):Prop where
 s0:ao H0 H0'
 s1:ao H H'
 s2:∀a o,H0' a=some o->H a=none\/H0 a=some o
 s3:ao H0' H'
theorem aI.refl(s:ao H0 H):aI H0 H H0 H:=⟨ao.refl _,ao.refl _,fun _ _ e=>.inr e,s⟩
theorem aI.stp{H0 H H0' H':Hp}(g:aI H0 H H0' H')(O:Addr->Prop):Stp O H0 H H0' H':=
 ⟨g.s0,fun a o e _=>g.s1 a o e,fun a o e=>(g.s2 a o e).imp id .inl,fun a o e=>⟨o,g.s1 a o e⟩⟩
theorem aI.B3(s:ao H0 H)(n:H p=none):aI H0 H (upd H0 p o) (upd H p o) where
 s0:=fun b u e=>by rw[ak (aE e (s.free n))];exact e
 s1:=fun b u e=>by rw[ak (aE e n)];exact e
 s2:=fun b u e=>by
  by_cases q:b=p
  ·subst q;exact .inl n
  ·rw[ak q]at e;exact .inr e
 s3:=fun b u e=>by
  by_cases q:b=p
  ·subst q;rw[au]at e ⊢;exact e
  ·rw[ak q]at e ⊢;exact s _ _ e
theorem aI.jJ(s:ao H0 H)(n:H p=none):aI H0 H H0 (upd H p o) where
 s0:=ao.refl _
 s1:=fun b u e=>by rw[ak (aE e n)];exact e
 s2:=fun b u e=>.inr e
 s3:=fun b u e=>by rw[ak (aE (s _ _ e) n)];exact s _ _ e
def fE(Hs H0 H:Hp)(σ:St)(ρ:Dm.Env)(v:V):Dm.Val->Prop
 |.val d=>Rep H0 v d
 |.slot i=>σ[i]?=some (some v)/\Def ρ i
 |.new d=>∃a,v=V.ref a/\Hs a=none/\¬aj σ ρ a/\H0 a=none/\Own H0 H a d
structure ESt(σ:St)(ρ:Dm.Env)(H0 H:Hp)(ρ':Dm.Env)(H0' H':Hp):Prop where
 st:az H0' H' σ ρ'
 stp:Stp (aj σ ρ) H0 H H0' H'
 own:∀a,aj σ ρ' a->aj σ ρ a
 dfn:∀i,Def ρ i->Def ρ' i
theorem ESt.refl(st:az H0 H σ ρ):ESt σ ρ H0 H ρ H0 H:=⟨st,Stp.refl _ _ _,fun _ z=>z,fun _ z=>z⟩
theorem ESt.trans{ρ ρ1 ρ2:Dm.Env}{H0 H H1 H' H2 H'':Hp}(t:ESt σ ρ H0 H ρ1 H1 H')(u:ESt σ ρ1 H1 H' ρ2 H2 H''):ESt σ ρ H0 H ρ2 H2 H'':=
 ⟨u.st,t.stp.trans u.stp fun a z=>.inl (t.own a z),fun a z=>t.own a (u.own a z),fun i z=>u.dfn i (t.dfn i z)⟩
theorem az.grow{H0 H H0' H':Hp}(st:az H0 H σ ρ)(g:aI H0 H H0' H'):az H0' H' σ ρ where
 same:=g.s3
 len:=st.len
 sh:=fun i d e=>by obtain⟨v,q,r⟩:=st.sh i d e;exact⟨v,q,r.mono g.s0⟩
 ow:=fun i d e=>by
  obtain⟨a,q,n,w⟩:=st.ow i d e;obtain⟨o,z⟩:=w.some;refine⟨a,q,?_,w.mono g.s0 ((g.s1 a o z).trans z.symm)⟩;cases y:H0' a with
  |none=>rfl
  |some u=>
   rcases g.s2 a u y with k | k
   ·rw[z]at k;cases k
   ·rw[n]at k;cases k
 dis:=st.dis
theorem ESt.grow{H0 H H0' H':Hp}(st:az H0 H σ ρ)(g:aI H0 H H0' H'):ESt σ ρ H0 H ρ H0' H':=
 ⟨st.grow g,g.stp _,fun _ z=>z,fun _ z=>z⟩
theorem fE.mono{Hs H0 H H0' H':Hp}{ρ ρ':Dm.Env}(r:fE Hs H0 H σ ρ v x)(t:ESt σ ρ H0 H ρ' H0' H'):fE Hs H0' H' σ ρ' v x:=by
 cases x with
 |val d=>exact Rep.mono t.stp.s0 r
 |slot i=>exact⟨r.1,t.dfn i r.2⟩
 |new d=>
  obtain⟨a,e,n,no,n0,w⟩:=r;obtain⟨o,z⟩:=w.some;refine⟨a,e,n,fun y=>no (t.own a y),?_,w.mono t.stp.s0 ((t.stp.s1 a o z no).trans z.symm)⟩;cases y:H0' a with
  |none=>rfl
  |some u=>
   rcases t.stp.s2 a u y with k | k | k
   ·rw[z]at k;cases k
   ·rw[n0]at k;cases k
   ·exact absurd k no
theorem fE.early{Hs Hs' H0 H:Hp}(r:fE Hs H0 H σ ρ v x)(k:∀a,Hs a=none->Hs' a=none):fE Hs' H0 H σ ρ v x:=by
 cases x with
 |val d=>exact r
 |slot i=>exact r
 |new d=>obtain⟨a,e,n,z⟩:=r;exact⟨a,e,k a n,z⟩
theorem fE.look{Hs H0 H:Hp}(r:fE Hs H0 H σ ρ v x)(st:az H0 H σ ρ)(e:Dm.pk ρ x=some d):iG H0 H v d:=by
 cases x with
 |val d'=>cases e;exact .inl r
 |new d'=>cases e;obtain⟨a,e,_,_,_,w⟩:=r;exact .inr ⟨a,e,w⟩
 |slot i=>
  obtain⟨q,_⟩:=r;unfold Dm.pk at e;dsimp only at e;split at e
  ·rename_i d' h;cases e;obtain⟨a,z,_,w⟩:=st.ow i d h;rw[q]at z;cases z;exact .inr ⟨a,rfl,w⟩
  ·rename_i d' h;cases e;obtain⟨u,z,w⟩:=st.sh i d h;rw[q]at z;cases z;exact .inl w
  ·cases e
def oU(Hs H0 H:Hp)(v:V):RV->Prop
 |.val d=>Rep H0 v d
 |.new d=>∃a,v=V.ref a/\Hs a=none/\H0 a=none/\Own H0 H a d
theorem oU.toV{H H0' H' H0:Hp}{z:RV}(r:oU H H0' H' v z)(st:az H0 H σ ρ):fE H H0' H' σ ρ v z.bA:=by
 cases z with
 |val d=>exact r
 |new d=>obtain⟨a,e,n,n0,w⟩:=r;refine⟨a,e,n,fun⟨i,d',h1,h2⟩=>?_,n0,w⟩;obtain⟨a',q,_,w'⟩:=st.ow i d' h1;rw[h2]at q;cases q;obtain⟨o,z⟩:=w'.some;rw[n]at z;cases z
def tD(f:FE):TE:=fun σ H Q=>∃H0 ρ x ρ',az H0 H σ ρ/\f ρ=some (x,ρ')/\∀v H0' H',ESt σ ρ H0 H ρ' H0' H'->fE H H0' H' σ ρ' v x->Q v H'
def tDT(f:FT):TT:=fun σ H Q=>∃H0 ρ b ρ',az H0 H σ ρ/\f ρ=some (b,ρ')/\∀H0' H',ESt σ ρ H0 H ρ' H0' H'->Q b H'
inductive cA(Hs H0 H:Hp)(σ:St)(ρ:Dm.Env):List V->List Dm.Val->Prop
 |nil:cA Hs H0 H σ ρ [] []
 |cons {v:V} {x:Dm.Val} {vs:List V} {xs:List Dm.Val}:fE Hs H0 H σ ρ v x->cA Hs H0 H σ ρ vs xs->cA Hs H0 H σ ρ (v::vs) (x::xs)
def tDA(fs:List FE):TA:=fun σ H Q=>∃H0 ρ xs ρ',az H0 H σ ρ/\Dm.eAs fs ρ=some (xs,ρ')/\∀vs H0' H',ESt σ ρ H0 H ρ' H0' H'->cA H H0' H' σ ρ' vs xs->Q vs H'
noncomputable abbrev DE(X:Cx)(e:Expr)(f:FE):Prop:=PE X e (tD f)
noncomputable abbrev DT(X:Cx)(e:Expr)(f:FT):Prop:=PT X e (tDT f)
noncomputable abbrev DA(X:Cx)(es:List Expr)(fs:List FE):Prop:=PA X es (tDA fs)
theorem PE.weak{t t':TE}(h:PE X e t)(k:∀σ H Q,t' σ H Q->t σ H Q):PE X e t':=fun mW s σ H Q I q=>h mW s σ H Q I (k σ H Q q)
theorem PT.weak{t t':TT}(h:PT X e t)(k:∀σ H Q,t' σ H Q->t σ H Q):PT X e t':=fun mW s σ H Q I q=>h mW s σ H Q I (k σ H Q q)
theorem PA.weak{es:List Expr}{t t':TA}(h:PA X es t)(k:∀σ H Q,t' σ H Q->t σ H Q):PA X es t':=fun pos mW s σ H Q I q=>h pos mW s σ H Q I (k σ H Q q)
theorem PS.weak{st:Stmt}(h:PS X st t)(k:∀D σ H,t' D σ H->t D σ H):PS X st t':=fun mW s σ H D I q=>h mW s σ H D I (k D σ H q)
theorem PSs.weak{st:List Stmt}(h:PSs X st t)(k:∀D σ H,t' D σ H->t D σ H):PSs X st t':=fun mW s σ H D I q=>h mW s σ H D I (k D σ H q)
theorem bU(s:ao H0 H):ao H0 (shr H0 H a):=fun b o e=>by
 by_cases q:b=a
 ·subst q;rw[b_];exact s _ _ e
 ·rw[gx q];exact e
theorem Own.Ja{H0 H0c H:Hp}(h:Own H0 H a d)(b:ao H0 H0c)(s:ao H0c H):Rep (shr H0c H a) (V.ref a) d:=by
 cases d with
 |lst ds=>obtain⟨xs,q,r⟩:=h;exact .lst (.inl (by rw[b_];exact q)) (r.mono (b.trans (bU s)))
 |dct ks ds=>obtain⟨xs,q,k,r⟩:=h;exact .dct (by rw[b_];exact q) k (r.mono (b.trans (bU s)))
 |dcp ks ds=>obtain⟨xs,q,k,r⟩:=h;exact .dcp (by rw[b_];exact q) (k.mono (b.trans (bU s))) (r.mono (b.trans (bU s)))
 |_=>exact MZ h
theorem fE.rho{Hs H0 H:Hp}{ρ ρ':Dm.Env}(r:fE Hs H0 H σ ρ v x)(o:∀a,aj σ ρ' a->aj σ ρ a)(d:∀i,Def ρ i->Def ρ' i):fE Hs H0 H σ ρ' v x:=by
 cases x with
 |val d=>exact r
 |slot i=>exact⟨r.1,d i r.2⟩
 |new d=>obtain⟨a,e,n,no,z⟩:=r;exact⟨a,e,n,fun y=>no (o a y),z⟩
theorem cA.rho{Hs H0 H:Hp}{ρ ρ':Dm.Env}(o:∀a,aj σ ρ' a->aj σ ρ a)(d:∀i,Def ρ i->Def ρ' i):∀{vs:List V} {xs:List Dm.Val},cA Hs H0 H σ ρ vs xs->cA Hs H0 H σ ρ' vs xs
 |_,_,.nil=>.nil
 |_,_,.cons h r=>.cons (h.rho o d) (cA.rho o d r)
theorem cA.early{Hs Hs' H0 H:Hp}(k:∀a,Hs a=none->Hs' a=none):∀{vs:List V} {xs:List Dm.Val},cA Hs H0 H σ ρ vs xs->cA Hs' H0 H σ ρ vs xs
 |_,_,.nil=>.nil
 |_,_,.cons h r=>.cons (h.early k) (cA.early k r)
theorem aG{i j:Nat}{c d:Dm.Cell}(h:(ρ.set i c)[j]?=some d):(j=i/\d=c)\/(j≠i/\ρ[j]?=some d):=by
 by_cases e:j=i
 ·subst e;by_cases l:j<ρ.length
  ·rw[MN l]at h;exact .inl ⟨rfl,(Option.some.inj h).symm⟩
  ·rw[M8 (by simpa using Oc.mp l)]at h;cases h
 ·rw[gV (Ne.symm e)]at h;exact .inr ⟨e,h⟩
theorem tW{i:Nat}(st:az H0 H σ ρ)(e:ρ[i]?=some (.ow d))(q:σ[i]?=some (some (V.ref a))) :
  az (shr H0 H a) H σ (ρ.set i (.sh d))/\(∀b,aj σ (ρ.set i (.sh d)) b->aj σ ρ b)/\∀j,Def ρ j->Def (ρ.set i (.sh d)) j:=by
 obtain⟨a',q',n,w⟩:=st.ow i d e;rw[q]at q';cases q';have hil:i<ρ.length:=(Mq.mp e).1;refine⟨⟨vv st.same,by rw[MX];exact st.len,fun j d' h=>?_,fun j d' h=>?_,fun j k d1 d2 b h1 h2 h3 h4=>?_⟩,fun b ⟨j,d',h1,h2⟩=>?_,fun j h=>?_⟩
 ·rcases aG h with⟨rfl,z⟩ | ⟨_,h⟩
  ·cases z;exact⟨_,q,w.rep n⟩
  ·obtain⟨v,z,r⟩:=st.sh j d' h;exact⟨v,z,r.mono (dH n)⟩
 ·rcases aG h with⟨_,z⟩ | ⟨hj,h⟩
  ·cases z
  ·obtain⟨b,z,n',w'⟩:=st.ow j d' h;have nb:b≠a:=fun y=>hj (st.dis j i d' d a h e (y▸z) q);exact⟨b,z,by rw[gx nb];exact n',w'.mono (dH n) rfl⟩
 ·rcases aG h1 with⟨_,z⟩ | ⟨_,h1⟩
  ·cases z
  ·rcases aG h2 with⟨_,z⟩ | ⟨_,h2⟩
   ·cases z
   ·exact st.dis j k d1 d2 b h1 h2 h3 h4
 ·rcases aG h1 with⟨_,z⟩ | ⟨_,h1⟩
  ·cases z
  ·exact⟨j,d',h1,h2⟩
 ·trivial
theorem xy(st:az H0 H σ ρ)(no:¬aj σ ρ a):az (shr H0 H a) H σ ρ where
 same:=vv st.same
 len:=st.len
 sh:=fun j d h=>by obtain⟨v,z,r⟩:=st.sh j d h;exact⟨v,z,r.mono (bU st.same)⟩
 ow:=fun j d h=>by obtain⟨b,z,n',w'⟩:=st.ow j d h;have nb:b≠a:=fun y=>no ⟨j,d,h,y▸z⟩;exact⟨b,z,by rw[gx nb];exact n',w'.mono (bU st.same) rfl⟩
 dis:=st.dis
theorem take1{Hs H0s H0 H0c H:Hp}{ρs ρ ρ':Dm.Env}(t:ESt σ ρs H0s Hs ρ H0c H)(b:ao H0 H0c)(r:fE Hs H0 H σ ρ v x)(e:Dm.tk ρ x=some (d,ρ')) :
  ∃gA,ESt σ ρs H0s Hs ρ' gA H/\ao H0c gA/\Rep gA v d/\(∀a,aj σ ρ' a->aj σ ρ a)/\∀i,Def ρ i->Def ρ' i:=by
 cases x with
 |val d'=>cases e;exact⟨H0c,t,ao.refl _,Rep.mono b r,fun _ z=>z,fun _ z=>z⟩
 |new d'=>
  cases e;obtain⟨a,e,n,no,n0,w⟩:=r;subst e;have ss:=bU (a:=a) t.st.same;refine⟨shr H0c H a,⟨xy t.st no,⟨t.stp.s0.trans ss,t.stp.s1,fun c o q=>?_,t.stp.s3⟩,t.own,t.dfn⟩,ss,w.Ja b t.st.same,fun _ z=>z,fun _ z=>z⟩;by_cases y:c=a
  ·subst y;exact .inl n
  ·rw[gx y]at q;exact t.stp.s2 c o q
 |slot i=>
  obtain⟨q,_⟩:=r;unfold Dm.tk at e;dsimp only at e;split at e
  ·rename_i d' h;cases e;obtain⟨a,z,n,w⟩:=t.st.ow i _ h;rw[q]at z;cases z;obtain⟨s1,s2,s3⟩:=tW t.st h q;have ss:=bU (a:=a) t.st.same;refine⟨shr H0c H a,⟨s1,⟨t.stp.s0.trans ss,t.stp.s1,fun c o q'=>?_,t.stp.s3⟩,fun b z=>t.own b (s2 b z),fun j z=>s3 j (t.dfn j z)⟩,ss,w.Ja (ao.refl _) t.st.same,s2,s3⟩;by_cases y:c=a
   ·subst y;exact .inr (.inr (t.own c ⟨i,_,h,q⟩))
   ·rw[gx y]at q';exact t.stp.s2 c o q'
  ·rename_i d' h;cases e;obtain⟨u,z,w⟩:=t.st.sh i _ h;rw[q]at z;cases z;exact⟨H0c,t,ao.refl _,w,fun _ z=>z,fun _ z=>z⟩
  ·cases e
theorem takes{Hs H0s H0 H:Hp}{ρs:Dm.Env}:∀{xs:List Dm.Val} {vs:List V} {ρ ρ':Dm.Env} {ds:List Dat} {H0c:Hp},ESt σ ρs H0s Hs ρ H0c H->ao H0 H0c->cA Hs H0 H σ ρ vs xs->Dm.tks ρ xs=some (ds,ρ') ->
  ∃gA,ESt σ ρs H0s Hs ρ' gA H/\ao H0c gA/\av gA vs ds
 |[],_,ρ,ρ',ds,H0c,t,b,r,e=>by cases r;cases e;exact⟨H0c,t,ao.refl _,.nil⟩
 |x::xs,_,ρ,ρ',ds,H0c,t,b,r,e=>by
  cases r with
  |cons h r=>
   unfold Dm.tks at e;split at e
   ·cases e
   ·rename_i d ρ1 e1;split at e
    ·cases e
    ·rename_i ds' ρ2 e2;cases e;obtain⟨H1,t1,b1,r1,o1,d1⟩:=take1 t b h e1;obtain⟨H2,t2,b2,r2⟩:=takes t1 (b.trans b1) (r.rho o1 d1) e2;exact⟨H2,t2,b1.trans b2,.cons (r1.mono b2) r2⟩
theorem Jb{ρ ρ':Dm.Env}(e:Dm.tk ρ x=some (d,ρ'))(y:Dm.Val):Dm.pk ρ' y=Dm.pk ρ y:=by
 cases x with
 |val d'=>cases e;rfl
 |new d'=>cases e;rfl
 |slot i=>
  unfold Dm.tk at e;dsimp only at e;split at e
  ·rename_i d' h;cases e;cases y with
   |val _=>rfl
   |new _=>rfl
   |slot j=>
    unfold Dm.pk;dsimp only;by_cases z:j=i
    ·subst z;rw[MN (Mq.mp h).1,h]
    ·rw[gV (Ne.symm z)]
  ·cases e;rfl
  ·cases e
theorem yS(e:Dm.pk ρ x=some d):∃ρ',Dm.tk ρ x=some (d,ρ'):=by
 cases x with
 |val d'=>cases e;exact⟨ρ,rfl⟩
 |new d'=>cases e;exact⟨ρ,rfl⟩
 |slot i=>
  unfold Dm.pk at e;dsimp only at e;unfold Dm.tk;dsimp only;split at e
  ·rename_i d' h;cases e;exact⟨_,rfl⟩
  ·rename_i d' h;cases e;exact⟨_,rfl⟩
  ·cases e
theorem ko:∀{xs:List Dm.Val} {ρ:Dm.Env} {ds:List Dat},Dm.pks ρ xs=some ds->∃ρ',Dm.tks ρ xs=some (ds,ρ')
 |[],ρ,ds,e=>by cases e;exact⟨ρ,rfl⟩
 |x::xs,ρ,ds,e=>by
  unfold Dm.pks at e;split at e
  ·cases e
  ·rename_i d e1;split at e
   ·cases e
   ·rename_i ds' e2;cases e;obtain⟨ρ1,h1⟩:=yS e1;have key:∀ys:List Dm.Val,Dm.pks ρ1 ys=Dm.pks ρ ys:=fun ys=>by
     induction ys with
     |nil=>rfl
     |cons y ys ih=>unfold Dm.pks;rw[Jb h1 y,ih]
    obtain⟨ρ2,h2⟩:=ko (xs:=xs) (ρ:=ρ1) (ds:=ds') (by rw[key];exact e2);exact⟨ρ2,by unfold Dm.tks;rw[h1];dsimp only;rw[h2]⟩
theorem looks{Hs H0 H:Hp}(st:az H0 H σ ρ):∀{xs:List Dm.Val} {vs:List V} {ds:List Dat},cA Hs H0 H σ ρ vs xs->Dm.pks ρ xs=some ds->nu H0 H vs ds
 |[],_,ds,r,e=>by cases r;cases e;exact .nil
 |x::xs,_,ds,r,e=>by
  cases r with
  |cons h r=>
   unfold Dm.pks at e;split at e
   ·cases e
   ·rename_i d e1;split at e
    ·cases e
    ·rename_i ds' e2;cases e;exact .cons (h.look st e1) (looks st r e2)
def OpD(r:R2)(g:Dat->Dat->Option RV):Prop:=∀(H0 H:Hp) (x y:V) (dx dy:Dat) (z:RV) (Q:VK),ao H0 H->iG H0 H x dx->iG H0 H y dy->g dx dy=some z ->
 (∀v H0' H',aI H0 H H0' H'->oU H H0' H' v z->Q v H')->r x y H Q
def CallD(r:List V->Hp->VK->Prop)(g:List Dat->Option RV):Prop:=∀(H0 H:Hp) (vs:List V) (ds:List Dat) (z:RV) (Q:VK),ao H0 H->nu H0 H vs ds->g ds=some z ->
 (∀v H0' H',aI H0 H H0' H'->oU H H0' H' v z->Q v H')->r vs H Q
def spD(f:List Dat->Option RV):Sp:=fun vs H Q _=>∃H0 ds z,ao H0 H/\av H0 vs ds/\f ds=some z/\∀v H0' H',aI H0 H H0' H'->oU H H0' H' v z->Q v H'
end
section
variable{σ:St}{H:Hp}{Q:VK}
section
variable{fs:List FE}{a b:FE}{d:Dat}{t u:FT}{v:V}{H0:Hp}
theorem Jc{i:Nat}(h:tD (Dm.eV i) σ H Q):jE i σ H Q:=by
 obtain⟨H0,ρ,x,ρ',st,e,k⟩:=h;unfold Dm.eV at e;split at e
 ·rename_i d h1;cases e;obtain⟨v,q,r⟩:=st.sh i d h1;exact⟨v,q,k v H0 H (.refl st) r⟩
 ·rename_i d h1;cases e;obtain⟨a,q,_⟩:=st.ow i d h1;exact⟨_,q,k _ H0 H (.refl st) ⟨q,trivial⟩⟩
 ·cases e
theorem jP(c:∀H0:Hp,Rep H0 v d)(h:tD (Dm.eC d) σ H Q):tC v σ H Q:=by obtain⟨H0,ρ,x,ρ',st,e,k⟩:=h;cases e;exact k v H0 H (.refl st) (c H0)
theorem oV{r:R2}{g:Dat->Dat->Option RV}{fa fb:FE}(o:OpD r g)(h:tD (Dm.e2 g fa fb) σ H Q):tOp r (tD fa) (tD fb) σ H Q:=by
 obtain⟨H0,ρ,x,ρ',st,e,k⟩:=h;unfold Dm.e2 at e;split at e
 ·cases e
 rename_i x1 ρ1 e1;split at e
 ·cases e
 rename_i y1 ρ2 e2;split at e
 ·cases e
 rename_i dx p1;split at e
 ·cases e
 rename_i dy p2;split at e
 ·cases e
 rename_i z gz;cases e;refine⟨H0,ρ,x1,ρ1,st,e1,fun v H1 Hb t1 r1=>⟨H1,ρ1,y1,_,t1.st,e2,fun u H2 Hc t2 r2=>?_⟩⟩;refine o H2 Hc v u dx dy z Q t2.st.same ((r1.mono t2).look t2.st p1) (r2.look t2.st p2) gz fun w H3 Hd g3 r3=>?_;exact k w H3 Hd (t1.trans (t2.trans (.grow t2.st g3))) ((r3.toV t2.st).early fun a n=>(t1.trans t2).stp.gone n)
theorem Jd{Q:List V->Hp->Prop}(h:tDA [] σ H Q):wZ σ H Q:=by obtain⟨H0,ρ,xs,ρ',st,e,k⟩:=h;cases e;exact k [] H0 H (.refl st) .nil
theorem Gv{f:FE}{Q:List V->Hp->Prop}(h:tDA (f::fs) σ H Q):ve (tD f) (tDA fs) σ H Q:=by
 obtain⟨H0,ρ,xs,ρ',st,e,k⟩:=h;unfold Dm.eAs at e;split at e
 ·cases e
 rename_i x1 ρ1 e1;split at e
 ·cases e
 rename_i xs1 ρ2 e2;cases e;refine⟨H0,ρ,x1,ρ1,st,e1,fun v H1 Hb t1 r1=>⟨H1,ρ1,xs1,_,t1.st,e2,fun vs H2 Hc t2 r2=>?_⟩⟩;exact k (v::vs) H2 Hc (t1.trans t2) (.cons (r1.mono t2) (r2.early fun a n=>t1.stp.gone n))
theorem Gw{r:List V->Hp->VK->Prop}{g:List Dat->Option RV}(o:CallD r g)(h:tD (Dm.eB g fs) σ H Q):tCB r (tDA fs) σ H Q:=by
 obtain⟨H0,ρ,x,ρ',st,e,k⟩:=h;unfold Dm.eB at e;split at e
 ·cases e
 rename_i xs ρ1 e1;split at e
 ·cases e
 rename_i ds p1;split at e
 ·cases e
 rename_i z gz;cases e;refine⟨H0,ρ,xs,_,st,e1,fun vs H1 Hb t1 r1=>?_⟩;refine o H1 Hb vs ds z Q t1.st.same (looks t1.st r1 p1) gz fun w H3 Hd g3 r3=>?_;exact k w H3 Hd (t1.trans (.grow t1.st g3)) ((r3.toV t1.st).early fun a n=>t1.stp.gone n)
theorem jQ{n:Nat}(h:n<=Dm.SZ):n<=sizeLine:=MH h (by decide)
theorem Je(h:tD (Dm.cN fs) σ H Q):IW (tDA fs) σ H Q:=by
 obtain⟨H0,ρ,x,ρ',st,e,k⟩:=h;unfold Dm.cN at e;split at e
 ·cases e
 rename_i xs ρ1 e1;split at e
 ·cases e
 rename_i ds ρ2 e2;split at e
 ·rename_i hz;cases e;refine⟨H0,ρ,xs,ρ1,st,e1,fun vs H1 Hb t1 r1=>?_⟩;obtain⟨H2,t2,b2,r2⟩:=takes t1 (ao.refl _) r1 e2;refine⟨by rw[r2.length];exact jQ hz,fun p hp=>?_⟩;have g:=aI.B3 (o:=HO.tup vs) t2.st.same hp;exact k _ _ _ (t2.trans (.grow t2.st g)) (.tup au (r2.mono g.s0))
 ·cases e
theorem Jf(h:tD (Dm.dg fs) σ H Q):yq (tDA fs) σ H Q:=by
 obtain⟨H0,ρ,x,ρ',st,e,k⟩:=h;unfold Dm.dg at e;split at e
 ·cases e
 rename_i xs ρ1 e1;split at e
 ·cases e
 rename_i ds ρ2 e2;split at e
 ·rename_i hz;cases e;refine⟨H0,ρ,xs,ρ1,st,e1,fun vs H1 Hb t1 r1=>?_⟩;obtain⟨H2,t2,b2,r2⟩:=takes t1 (ao.refl _) r1 e2;refine⟨by rw[r2.length];exact jQ hz,fun p hp=>?_⟩;have g:=aI.jJ (o:=HO.lst vs) t2.st.same hp;refine k _ _ _ (t2.trans (.grow t2.st g)) ⟨p,rfl,t2.stp.gone hp,fun⟨i,d,h1,h2⟩=>?_,t2.st.same.free hp,vs,au,r2⟩;obtain⟨a,q,_,w⟩:=t2.st.ow i d h1;rw[h2]at q;cases q;obtain⟨o,z⟩:=w.some;rw[hp]at z;cases z
 ·cases e
theorem Rep.plain{H0 H1:Hp}(r:Rep H0 v d)(n:Dm.dF d=false):Rep H1 v d:=by
 cases r with
 |non=>exact .non
 |bl b=>exact .bl b
 |int i=>exact .int i
 |str s=>exact .str s
 |tup _ _=>cases n
 |lst _ _=>cases n
 |dct _ _ _=>cases n
 |dcp _ _ _=>cases n
 |exc _=>cases n
 |dc _ _=>cases n
 |fn a=>exact .fn a
theorem Own.box{H0 H:Hp}{a:Addr}(w:Own H0 H a d):Dm.dF d=true:=by
 cases d with
 |lst ds=>rfl
 |dct ks ds=>rfl
 |dcp ks ds=>rfl
 |_=>exact MZ w
theorem yT{f:List Dat->Option RV}{E:XK}(h:tD (Dm.eF f fs) σ H Q):j6 (spD f) [] E (tDA fs) σ H Q:=by
 obtain⟨H0,ρ,x,ρ',st,e,k⟩:=h;unfold Dm.eF at e;split at e
 ·cases e
 rename_i xs ρ1 e1;split at e
 ·cases e
 rename_i ds p1;split at e
 ·cases e
 rename_i z fz;refine⟨H0,ρ,xs,ρ1,st,e1,fun vs H1 Hb t1 r1=>?_⟩;dsimp only;rw[Nc];obtain⟨ρ2,e2⟩:=ko p1;obtain⟨H2,t2,b2,r2⟩:=takes t1 (ao.refl _) r1 e2;split at e
 ·rw[e2]at e;cases e;exact⟨H2,ds,z,t2.st.same,r2,fz,fun w H3 Hd g3 r3=>k w H3 Hd (t2.trans (.grow t2.st g3)) ((r3.toV t2.st).early fun a n=>t2.stp.gone n)⟩
 ·rename_i nb;cases e;refine⟨H2,ds,z,t2.st.same,r2,fz,fun w H3 Hd g3 r3=>?_⟩;have g:aI H1 Hb H1 Hd:=⟨ao.refl _,g3.s1,fun a o q=>.inr q,t1.st.same.trans g3.s1⟩
  refine k w H1 Hd (t1.trans (.grow t1.st g)) ?_;cases z with
  |val d=>exact Rep.plain r3 (by simpa [RV.dat] using nb)
  |new d=>obtain⟨a,_,_,_,w⟩:=r3;exact absurd w.box (by simpa [RV.dat] using nb)
theorem Lk{t:FT}(h:tD (Dm.eIf t a b) σ H Q):tIf (tDT t) (tD a) (tD b) σ H Q:=by
 obtain⟨H0,ρ,x,ρ',st,e,k⟩:=h;unfold Dm.eIf at e;split at e
 ·cases e
 ·rename_i ρ1 e1;refine⟨H0,ρ,true,ρ1,st,e1,fun H1 Hb t1=>?_⟩;dsimp only;rw[if_pos rfl];exact⟨H1,ρ1,x,ρ',t1.st,e,fun v H2 Hc t2 r2=>k v H2 Hc (t1.trans t2) (r2.early fun a n=>t1.stp.gone n)⟩
 ·rename_i ρ1 e1;refine⟨H0,ρ,false,ρ1,st,e1,fun H1 Hb t1=>?_⟩;dsimp only;rw[if_neg MG];exact⟨H1,ρ1,x,ρ',t1.st,e,fun v H2 Hc t2 r2=>k v H2 Hc (t1.trans t2) (r2.early fun a n=>t1.stp.gone n)⟩
theorem Rep.mS{c:Bool}(r:Rep H0 v (.bl c)):v=.bl c:=by cases r;rfl
theorem Rep.isInt{c:Int}(r:Rep H0 v (.int c)):v=.int c:=by cases r;rfl
theorem Jg(h:tD (Dm.jH a b) σ H Q):D7 (tD a) (tD b) σ H Q:=by
 obtain⟨H0,ρ,x,ρ',st,e,k⟩:=h;unfold Dm.jH at e;split at e
 ·rename_i ρ1 e1;refine⟨H0,ρ,_,_,st,e1,fun v H1 Hb t1 r1=>⟨true,Rep.mS r1,?_⟩⟩
  try dsimp only
  rw[if_pos rfl];exact⟨H1,ρ1,x,ρ',t1.st,e,fun v H2 Hc t2 r2=>k v H2 Hc (t1.trans t2) (r2.early fun a n=>t1.stp.gone n)⟩
 ·rename_i ρ1 e1;cases e;refine⟨H0,ρ,_,_,st,e1,fun v H1 Hb t1 r1=>⟨false,Rep.mS r1,?_⟩⟩
  try dsimp only
  rw[if_neg MG];exact k _ H1 Hb t1 (Rep.bl false)
 ·cases e
theorem Ll(h:tD (Dm.eOr a b) σ H Q):IK (tD a) (tD b) σ H Q:=by
 obtain⟨H0,ρ,x,ρ',st,e,k⟩:=h;unfold Dm.eOr at e;split at e
 ·rename_i ρ1 e1;cases e;refine⟨H0,ρ,_,_,st,e1,fun v H1 Hb t1 r1=>⟨true,Rep.mS r1,?_⟩⟩
  try dsimp only
  rw[if_pos rfl];exact k _ H1 Hb t1 (Rep.bl true)
 ·rename_i ρ1 e1;refine⟨H0,ρ,_,_,st,e1,fun v H1 Hb t1 r1=>⟨false,Rep.mS r1,?_⟩⟩
  try dsimp only
  rw[if_neg MG];exact⟨H1,ρ1,x,ρ',t1.st,e,fun v H2 Hc t2 r2=>k v H2 Hc (t1.trans t2) (r2.early fun a n=>t1.stp.gone n)⟩
 ·cases e
theorem Jh{a:FE}(h:tD (Dm.xr a) σ H Q):D8 (tD a) σ H Q:=by
 obtain⟨H0,ρ,x,ρ',st,e,k⟩:=h;unfold Dm.xr at e;split at e
 ·rename_i c ρ1 e1;cases e;exact⟨H0,ρ,_,_,st,e1,fun v H1 Hb t1 r1=>⟨c,Rep.mS r1,k _ H1 Hb t1 (Rep.bl (!c))⟩⟩
 ·cases e
variable{Qt:Bool->Hp->Prop}
theorem kq{a:FE}(h:tDT (Dm.tV a) σ H Qt):Eg (tD a) σ H Qt:=by
 obtain⟨H0,ρ,x,ρ',st,e,k⟩:=h;unfold Dm.tV at e;split at e
 ·rename_i c ρ1 e1;cases e;exact⟨H0,ρ,_,_,st,e1,fun v H1 Hb t1 r1=>⟨_,Rep.mS r1,k H1 Hb t1⟩⟩
 ·cases e
theorem Gx{t:FT}(h:tDT (Dm.jZ t) σ H Qt):jZ (tDT t) σ H Qt:=by
 obtain⟨H0,ρ,x,ρ',st,e,k⟩:=h;unfold Dm.jZ at e;split at e
 ·rename_i c ρ1 e1;cases e;exact⟨H0,ρ,_,_,st,e1,fun H1 Hb t1=>k H1 Hb t1⟩
 ·cases e
theorem Gy(h:tDT (Dm.ff t u) σ H Qt):ff (tDT t) (tDT u) σ H Qt:=by
 obtain⟨H0,ρ,x,ρ',st,e,k⟩:=h;unfold Dm.ff at e;split at e
 ·rename_i ρ1 e1;refine⟨H0,ρ,_,ρ1,st,e1,fun H1 Hb t1=>?_⟩;dsimp only;rw[if_pos rfl];exact⟨H1,ρ1,x,ρ',t1.st,e,fun H2 Hc t2=>k H2 Hc (t1.trans t2)⟩
 ·rename_i ρ1 e1;cases e;refine⟨H0,ρ,_,_,st,e1,fun H1 Hb t1=>?_⟩;dsimp only;rw[if_neg MG];exact k H1 Hb t1
 ·cases e
theorem Ji(h:tDT (Dm.tOr t u) σ H Qt):tOr (tDT t) (tDT u) σ H Qt:=by
 obtain⟨H0,ρ,x,ρ',st,e,k⟩:=h;unfold Dm.tOr at e;split at e
 ·rename_i ρ1 e1;cases e;refine⟨H0,ρ,_,_,st,e1,fun H1 Hb t1=>?_⟩;dsimp only;rw[if_pos rfl];exact k H1 Hb t1
 ·rename_i ρ1 e1;refine⟨H0,ρ,_,ρ1,st,e1,fun H1 Hb t1=>?_⟩;dsimp only;rw[if_neg MG];exact⟨H1,ρ1,x,ρ',t1.st,e,fun H2 Hc t2=>k H2 Hc (t1.trans t2)⟩
 ·cases e
end
end
section
variable{ρ:Dm.Env}{H0 H:Hp}{σ:L2.St}
structure SSt(σ:St)(ρ:Dm.Env)(H0 H:Hp)(σ':St)(ρ':Dm.Env)(H0' H':Hp):Prop where
 st:az H0' H' σ' ρ'
 stp:Stp (aj σ ρ) H0 H H0' H'
 own:∀a,aj σ' ρ' a->aj σ ρ a\/H a=none
 fx:σ'[0]?=σ[0]?
theorem ESt.sst{σ:St}{ρ ρ':Dm.Env}{H0 H H0' H':Hp}(t:ESt σ ρ H0 H ρ' H0' H'):SSt σ ρ H0 H σ ρ' H0' H':=⟨t.st,t.stp,fun a z=>.inl (t.own a z),rfl⟩
theorem SSt.refl{σ:St}(st:az H0 H σ ρ):SSt σ ρ H0 H σ ρ H0 H:=(ESt.refl st).sst
theorem SSt.trans{σ σ1 σ2:St}{ρ ρ1 ρ2:Dm.Env}{H0 H H1 H' H2 H'':Hp}(t:SSt σ ρ H0 H σ1 ρ1 H1 H')(u:SSt σ1 ρ1 H1 H' σ2 ρ2 H2 H''):SSt σ ρ H0 H σ2 ρ2 H2 H'':=
 ⟨u.st,t.stp.trans u.stp t.own,fun a z=>(u.own a z).elim (t.own a) fun n=>.inr (t.stp.gone n),u.fx.trans t.fx⟩
def Jj(σ:St)(ρ:Dm.Env)(H H0' H':Hp)(v:V):RV->Prop
 |.val d=>Rep H0' v d
 |.new d=>∃a,v=V.ref a/\(H a=none\/aj σ ρ a)/\H0' a=none/\Own H0' H' a d
def nv(D:Ends)(σ:St)(ρ:Dm.Env)(H0 H:Hp):Dm.Out->Prop
 |.nx ρ'=>∀σ' H0' H',SSt σ ρ H0 H σ' ρ' H0' H'->D.nx σ' H'
 |.bk ρ'=>∀σ' H0' H',SSt σ ρ H0 H σ' ρ' H0' H'->D.bk σ' H'
 |.ct ρ'=>∀σ' H0' H',SSt σ ρ H0 H σ' ρ' H0' H'->D.ct σ' H'
 |.ret z ρ'=>∀σ' v H0' H',SSt σ ρ H0 H σ' ρ' H0' H'->Jj σ ρ H H0' H' v z->(∀d a,z=.new d->v=.ref a->¬aj σ' ρ' a)->D.rt v H'
def tDS(g:FS):TS:=fun D σ H=>∃H0 ρ o,az H0 H σ ρ/\g ρ=some o/\nv D σ ρ H0 H o
theorem nv.pre{D:Ends}{σ σ1:St}{ρ ρ1:Dm.Env}{H0 H H1 H':Hp}{o:Dm.Out}(t:SSt σ ρ H0 H σ1 ρ1 H1 H')(k:nv D σ ρ H0 H o):nv D σ1 ρ1 H1 H' o:=by
 cases o with
 |nx ρ'=>exact fun σ' H0' H' u=>k σ' H0' H' (t.trans u)
 |bk ρ'=>exact fun σ' H0' H' u=>k σ' H0' H' (t.trans u)
 |ct ρ'=>exact fun σ' H0' H' u=>k σ' H0' H' (t.trans u)
 |ret z ρ'=>
  refine fun σ' v H0' H'' u r no=>k σ' v H0' H'' (t.trans u) ?_ no;cases z with
  |val d=>exact r
  |new d=>
   obtain⟨a,e,n,n0,w⟩:=r;refine⟨a,e,?_,n0,w⟩;rcases n with n | n
   ·exact .inl (t.stp.gone n)
   ·exact(t.own a n).symm
theorem az.mask(st:az H0 H σ ρ)(i:Nat):az H0 H σ (ρ.set i .un) where
 same:=st.same
 len:=by rw[MX];exact st.len
 sh:=fun j d h=>by
  by_cases q:i=j
  ·subst q;rw[N6]at h;simp only[if_true]at h;split at h<;>cases h
  ·rw[gV q]at h;exact st.sh j d h
 ow:=fun j d h=>by
  by_cases q:i=j
  ·subst q;rw[N6]at h;simp only[if_true]at h;split at h<;>cases h
  ·rw[gV q]at h;exact st.ow j d h
 dis:=fun j j' d d' a h1 h2 h3 h4=>by
  by_cases q:i=j
  ·subst q;rw[N6]at h1;simp only[if_true]at h1;split at h1<;>cases h1
  ·by_cases q':i=j'
   ·subst q';rw[N6]at h2;simp only[if_true]at h2;split at h2<;>cases h2
   ·rw[gV q]at h1;rw[gV q']at h2;exact st.dis j j' d d' a h1 h2 h3 h4
theorem b5{i:Nat}{a:Addr}(h:aj σ (ρ.set i .un) a):∃(j:Nat) (d:Dat),j≠i/\ρ[j]?=some (Dm.Cell.ow d)/\σ[j]?=some (some (V.ref a)):=by
 obtain⟨j,d,h1,h2⟩:=h;by_cases q:i=j
 ·subst q;rw[N6]at h1;simp only[if_true]at h1;split at h1<;>cases h1
 ·rw[gV q]at h1;exact⟨j,d,fun z=>q z.symm,h1,h2⟩
end
section
variable{D:Ends}{σ:St}{H:Hp}
theorem Lm(h:tDS Dm.sNx D σ H):D9 D σ H:=by obtain⟨H0,ρ,o,st,e,k⟩:=h;cases e;exact k σ H0 H (.refl st)
theorem Jk{s u:FS}(h:tDS (Dm.aA s u) D σ H):tE (tDS s) (tDS u) D σ H:=by
 obtain⟨H0,ρ,o,st,e,k⟩:=h;unfold Dm.aA at e;split at e
 ·rename_i ρ1 e1;exact⟨H0,ρ,.nx ρ1,st,e1,fun σ' H0' H' t=>⟨H0',ρ1,o,t.st,e,k.pre t⟩⟩
 ·rename_i h1;cases o with
  |nx ρ1=>exact absurd e (h1 ρ1)
  |bk ρ1=>exact⟨H0,ρ,_,st,e,k⟩
  |ct ρ1=>exact⟨H0,ρ,_,st,e,k⟩
  |ret z ρ1=>exact⟨H0,ρ,_,st,e,k⟩
theorem Gz{f:FE}(h:tDS (Dm.sE f) D σ H):qd (tD f) D σ H:=by
 obtain⟨H0,ρ,o,st,e,k⟩:=h;unfold Dm.sE at e;split at e
 ·cases e
 ·rename_i x ρ1 e1;cases e;exact⟨H0,ρ,x,ρ1,st,e1,fun v H0' H' t r=>k σ H0' H' t.sst⟩
theorem Jl{f:FE}(h:tDS (Dm.sR f) D σ H):IM (tD f) D σ H:=by
 obtain⟨H0,ρ,o,st,e,k⟩:=h;unfold Dm.sR at e;split at e
 ·cases e
 ·rename_i d ρ1 e1;cases e;refine⟨H0,ρ,_,ρ1,st,e1,fun v H0' H' t r=>?_⟩;obtain⟨a,e,n,no,n0,w⟩:=r;exact k σ v H0' H' t.sst ⟨a,e,.inl n,n0,w⟩ fun d' a' _ e' z=>by rw[e]at e';cases e';exact no z
 ·rename_i d ρ1 e1;cases e;exact⟨H0,ρ,_,ρ1,st,e1,fun v H0' H' t r=>k σ v H0' H' t.sst r fun d' a' z=>by cases z⟩
 ·rename_i i ρ1 e1;split at e
  ·rename_i d h1;cases e;refine⟨H0,ρ,_,ρ1,st,e1,fun v H0' H' t r=>?_⟩;obtain⟨q,_⟩:=r;obtain⟨a,q',n0,w⟩:=t.st.ow i d h1;rw[q]at q';cases q';refine k σ _ H0' H' ⟨t.st.mask i,t.stp,fun b z=>?_,rfl⟩ ⟨a,rfl,.inr (t.own a ⟨i,d,h1,q⟩),n0,w⟩ fun d' a' _ e' z=>?_
   ·obtain⟨j,d2,_,z1,z2⟩:=b5 z;exact .inl (t.own b ⟨j,d2,z1,z2⟩)
   ·cases e';obtain⟨j,d2,hj,z1,z2⟩:=b5 z;exact hj (t.st.dis j i d2 d a z1 h1 z2 q)
  ·rename_i d h1;cases e;refine⟨H0,ρ,_,ρ1,st,e1,fun v H0' H' t r=>?_⟩;obtain⟨q,_⟩:=r;obtain⟨u,q',w⟩:=t.st.sh i d h1;rw[q]at q';cases q';exact k σ _ H0' H' t.sst w fun d' a' z=>by cases z
  ·cases e
theorem Jm{t:FT}{a b:FS}(h:tDS (Dm.sIf t a b) D σ H):FG (tDT t) (tDS a) (tDS b) D σ H:=by
 obtain⟨H0,ρ,o,st,e,k⟩:=h;unfold Dm.sIf at e;split at e
 ·cases e
 ·rename_i ρ1 e1;refine⟨H0,ρ,true,ρ1,st,e1,fun H1 Hb t1=>?_⟩;dsimp only;rw[if_pos rfl];exact⟨H1,ρ1,o,t1.st,e,k.pre t1.sst⟩
 ·rename_i ρ1 e1;refine⟨H0,ρ,false,ρ1,st,e1,fun H1 Hb t1=>?_⟩;dsimp only;rw[if_neg MG];exact⟨H1,ρ1,o,t1.st,e,k.pre t1.sst⟩
end
section
variable{ρ:Dm.Env}{σ:St}{i:Nat}{H0 H:Hp}{d:Dat}{a:Addr}{b:Addr}{o:HO}{v:V}
theorem fF{i j:Nat}{c d:Option V}(h:(σ.set i c)[j]?=some d):(j=i/\d=c)\/(j≠i/\σ[j]?=some d):=by
 by_cases e:j=i
 ·subst e;by_cases l:j<σ.length
  ·rw[MN l]at h;exact .inl ⟨rfl,(Option.some.inj h).symm⟩
  ·rw[M8 (by simpa using Oc.mp l)]at h;cases h
 ·rw[gV (Ne.symm e)]at h;exact .inr ⟨e,h⟩
theorem az.inσ{c d:Dm.Cell}(st:az H0 H σ ρ)(h:(ρ.set i c)[i]?=some d):i<σ.length:=by have:=(Mq.mp h).1;rw[MX]at this;rw[st.len];exact this
theorem cH(h:aj (σ.set i (some v)) (ρ.set i (.sh d)) b):aj σ ρ b:=by
 obtain⟨j,d',h1,h2⟩:=h;rcases aG h1 with⟨_,z⟩ | ⟨hj,h1⟩
 ·cases z
 ·rcases fF h2 with⟨z,_⟩ | ⟨_,h2⟩
  ·exact absurd z hj
  ·exact⟨j,d',h1,h2⟩
theorem az.oW(st:az H0 H σ ρ)(r:Rep H0 v d):az H0 H (σ.set i (some v)) (ρ.set i (.sh d)) where
 same:=st.same
 len:=by rw[MX,MX];exact st.len
 sh:=fun j d' h=>by
  rcases aG h with⟨rfl,z⟩ | ⟨hj,h'⟩
  ·cases z;exact⟨v,MN (st.inσ h),r⟩
  ·obtain⟨u,q,w⟩:=st.sh j d' h';exact⟨u,by rw[gV (Ne.symm hj)];exact q,w⟩
 ow:=fun j d' h=>by
  rcases aG h with⟨_,z⟩ | ⟨hj,h'⟩
  ·cases z
  ·obtain⟨u,q,w⟩:=st.ow j d' h';exact⟨u,by rw[gV (Ne.symm hj)];exact q,w⟩
 dis:=fun j k d1 d2 b h1 h2 h3 h4=>by
  rcases aG h1 with⟨_,z⟩ | ⟨hj,h1⟩
  ·cases z
  rcases aG h2 with⟨_,z⟩ | ⟨hk,h2⟩
  ·cases z
  rw[gV (Ne.symm hj)]at h3;rw[gV (Ne.symm hk)]at h4;exact st.dis j k d1 d2 b h1 h2 h3 h4
theorem az.tX(st:az H0 H σ ρ)(no:¬aj σ ρ a)(n0:H0 a=none)(w:Own H0 H a d):az H0 H (σ.set i (some (.ref a))) (ρ.set i (.ow d)) where
 same:=st.same
 len:=by rw[MX,MX];exact st.len
 sh:=fun j d' h=>by
  rcases aG h with⟨_,z⟩ | ⟨hj,h'⟩
  ·cases z
  ·obtain⟨u,q,w⟩:=st.sh j d' h';exact⟨u,by rw[gV (Ne.symm hj)];exact q,w⟩
 ow:=fun j d' h=>by
  rcases aG h with⟨rfl,z⟩ | ⟨hj,h'⟩
  ·cases z;exact⟨a,MN (st.inσ h),n0,w⟩
  ·obtain⟨u,q,w⟩:=st.ow j d' h';exact⟨u,by rw[gV (Ne.symm hj)];exact q,w⟩
 dis:=fun j k d1 d2 b h1 h2 h3 h4=>by
  rcases aG h1 with⟨e1,z1⟩ | ⟨hj,h1'⟩
  ·rcases aG h2 with⟨e2,z2⟩ | ⟨hk,h2'⟩
   ·rw[e1,e2]
   ·rcases fF h3 with⟨_,z⟩ | ⟨z,_⟩
    ·cases z;rw[gV (Ne.symm hk)]at h4;exact absurd ⟨k,d2,h2',h4⟩ no
    ·exact absurd e1 z
  ·rcases aG h2 with⟨e2,z2⟩ | ⟨hk,h2'⟩
   ·rcases fF h4 with⟨_,z⟩ | ⟨z,_⟩
    ·cases z;rw[gV (Ne.symm hj)]at h3;exact absurd ⟨j,d1,h1',h3⟩ no
    ·exact absurd e2 z
   ·rw[gV (Ne.symm hj)]at h3;rw[gV (Ne.symm hk)]at h4;exact st.dis j k d1 d2 b h1' h2' h3 h4
theorem cI{a b:Addr}(h:aj (σ.set i (some (.ref a))) (ρ.set i (.ow d)) b):b=a\/aj σ ρ b:=by
 obtain⟨j,d',h1,h2⟩:=h;rcases aG h1 with⟨e,_⟩ | ⟨hj,h1⟩
 ·rcases fF h2 with⟨_,z⟩ | ⟨z,_⟩
  ·cases z;exact .inl rfl
  ·exact absurd e z
 ·rcases fF h2 with⟨z,_⟩ | ⟨_,h2⟩
  ·exact absurd z hj
  ·exact .inr ⟨j,d',h1,h2⟩
theorem az.write{d d':Dat}(st:az H0 H σ ρ)(e:ρ[i]?=some (.ow d))(q:σ[i]?=some (some (V.ref a)))(w':Own H0 (upd H a o) a d') :
  az H0 (upd H a o) σ (ρ.set i (.ow d')):=by
 obtain⟨a',q',n,w⟩:=st.ow i d e;rw[q]at q';cases q';refine⟨fun b u z=>?_,by rw[MX];exact st.len,fun j d1 h=>?_,fun j d1 h=>?_,fun j k d1 d2 b h1 h2 h3 h4=>?_⟩
 ·rw[ak (aE z n)];exact st.same _ _ z
 ·rcases aG h with⟨_,z⟩ | ⟨hj,h'⟩
  ·cases z
  ·exact st.sh j d1 h'
 ·rcases aG h with⟨rfl,z⟩ | ⟨hj,h'⟩
  ·cases z;exact⟨a,q,n,w'⟩
  ·obtain⟨b,q1,n1,w1⟩:=st.ow j d1 h';have nb:b≠a:=fun y=>hj (st.dis j i d1 d a h' e (y▸q1) q);exact⟨b,q1,n1,w1.mono (ao.refl _) (ak nb)⟩
 ·have f:∀{j:Nat} {d1:Dat},(ρ.set i (.ow d'))[j]?=some (.ow d1)->∃d2,ρ[j]?=some (.ow d2):=fun {j d1} h=>by
   rcases aG h with⟨rfl,_⟩ | ⟨_,h'⟩
   ·exact⟨d,e⟩
   ·exact⟨d1,h'⟩
  obtain⟨x1,y1⟩:=f h1;obtain⟨x2,y2⟩:=f h2;exact st.dis j k x1 x2 b y1 y2 h3 h4
theorem bE{d d':Dat}(e:ρ[i]?=some (.ow d))(h:aj σ (ρ.set i (.ow d')) b):aj σ ρ b:=by
 obtain⟨j,d1,h1,h2⟩:=h;rcases aG h1 with⟨rfl,_⟩ | ⟨_,h'⟩
 ·exact⟨j,d,e,h2⟩
 ·exact⟨j,d1,h',h2⟩
theorem Stp.write(w:aj σ ρ a):Stp (aj σ ρ) H0 H H0 (upd H a o):=
 ⟨ao.refl _,fun b u e n=>by rw [ak (show b≠a from fun z=>n (by rw [z];exact w))];exact e,fun b u e=>.inr (.inl e),fun b u e=>by
  by_cases z:b=a
  ·subst z;exact⟨o,au⟩
  ·exact⟨u,by rw[ak z];exact e⟩⟩
end
section
variable{D:Ends}{σ:St}{H:Hp}
section
variable{ρ:Dm.Env}{body:FS}{f:FE}{a:Addr}{is:List Nat}{K:Dp}{i:Nat}{ds:List Dat}{d:Dat}{bd:Dm.FB}{xs:List V}{vs:List V}{n:Nat}{H0:Hp}{k:Nat}{fi:Dm.FI}{t:FT}{g:TG}{o:HO}{Q:VK}{E:XK}
theorem yU(h:tDS (Dm.sA i f) D σ H):qe (tD f) (eX i) D σ H:=by
 obtain⟨H0,ρ,o,st,e,k⟩:=h;unfold Dm.sA at e;split at e
 ·cases e
 rename_i hi0;split at e
 ·cases e
 ·rename_i d ρ1 e1;cases e;refine⟨H0,ρ,_,ρ1,st,e1,fun v H0' H' t r=>?_⟩;obtain⟨a,e,n,no,n0,w⟩:=r;subst e;refine k _ H0' H' ⟨t.st.tX no n0 w,t.stp,fun b z=>?_,gV hi0⟩;rcases cI z with rfl | z
  ·exact .inr n
  ·exact .inl (t.own b z)
 ·rename_i x ρ1 _ e1;split at e
  ·cases e
  ·rename_i d ρ2 e2;cases e;refine⟨H0,ρ,_,ρ1,st,e1,fun v H0' H' t r=>?_⟩;obtain⟨H1,t1,b1,r1,_,_⟩:=take1 t (ao.refl _) r e2;exact k _ H1 H' ⟨t1.st.oW r1,t1.stp,fun b z=>.inl (t1.own b (cH z)),gV hi0⟩
theorem vz{j:Nat}(h:Def ρ j):Def (ρ.set i (.sh d)) j:=trivial
noncomputable def gB:List Nat->TGs
 |[]=>IQ
 |i::is=>Ea (eX i) (gB is)
theorem jR{H0 H:Hp}{Q:St->Hp->Prop}:∀{is:List Nat} {xs:List V} {ds:List Dat} {σ:St} {ρ ρ':Dm.Env},az H0 H σ ρ->av H0 xs ds->Dm.sets is ds ρ=some ρ' ->
  (∀σ',az H0 H σ' ρ'->(∀a,aj σ' ρ' a->aj σ ρ a)->(∀j,j∉is->σ'[j]?=σ[j]?)->(∀j,Def ρ j->Def ρ' j)->σ'[0]?=σ[0]?->Q σ' H)->gB is xs σ H Q
 |[],_,[],σ,ρ,ρ',st,r,e,k=>by cases r;cases e;exact⟨rfl,k σ st (fun _ z=>z) (fun _ _=>rfl) (fun _ z=>z) rfl⟩
 |i::is,_,d::ds,σ,ρ,ρ',st,r,e,k=>by
  cases r with
  |cons h r=>
   unfold Dm.sets at e;split at e
   ·cases e
   rename_i hi0;refine⟨_,_,rfl,?_⟩;refine jR (st.oW h) r e fun σ' st' o' n' d' f'=>k σ' st' (fun a z=>cH (o' a z)) (fun j hj=>?_) (fun j z=>d' j (vz z)) (f'.trans (gV hi0));rw[n' j fun z=>hj (Dk _ z)];exact gV fun z=>hj (by rw[z];exact Ds)
 |[],_,_::_,_,_,_,_,_,e,_=>by cases e
 |_::_,_,[],_,_,_,_,_,e,_=>by cases e
theorem qu:∀{is:List Nat} {ds:List Dat} {ρ ρ':Dm.Env},Dm.sets is ds ρ=some ρ'->ds.length=is.length
 |[],[],_,_,_=>rfl
 |i::is,_::ds,_,_,e=>by
  unfold Dm.sets at e;split at e
  ·cases e
  ·simp[qu (is:=is) (ds:=ds) e]
 |[],_::_,_,_,e=>by cases e
 |_::_,[],_,_,e=>by cases e
def BD(is:List Nat)(g:TG)(bd:Dm.FB):Prop:=∀(H0 H:Hp) (σ:St) (ρ ρ':Dm.Env) (x:V) (d:Dat) (Q:St->Hp->Prop),az H0 H σ ρ->Rep H0 x d->bd d ρ=some ρ' ->
 (∀σ',az H0 H σ' ρ'->(∀a,aj σ' ρ' a->aj σ ρ a)->(∀j,j∉is->σ'[j]?=σ[j]?)->(∀j,Def ρ j->Def ρ' j)->σ'[0]?=σ[0]?->Q σ' H)->g x σ H Q
theorem vA(i:Nat):BD [i] (eX i) (Dm.bN i):=by
 intro H0 H σ ρ ρ' x d Q st r e k;unfold Dm.bN at e;split at e
 ·cases e
 rename_i hi0;cases e;refine k _ (st.oW r) (fun a z=>cH z) (fun j hj=>?_) (fun j h=>vz h) (gV hi0);exact gV (fun z=>hj (by rw[z];exact Mr.mpr rfl))
theorem GA(is:List Nat)(hn:is.length=n):BD is (IS K n (gB is)) (Dm.bT is):=by
 intro H0 H σ ρ ρ' x d Q st r e k;unfold Dm.bT at e;split at e
 ·cases r with
  |tup q rs=>exact⟨_,_,rfl,SqT.of (st.same _ _ q),by rw[rs.length,qu e,hn],jR st rs e k⟩
 ·cases e
theorem Jo(h:tDS (Dm.mR i f) D σ H):qd (tBM K "list" oS (jE i) (tDA [f])) D σ H:=by
 obtain⟨H0,ρ,o,st,e,k⟩:=h;unfold Dm.mR at e;split at e
 ·rename_i ds0 h0;obtain⟨a0,q0,n0,w0⟩:=st.ow i _ h0;refine⟨_,q0,?_⟩;split at e
  ·cases e
  rename_i x ρ1 e1;split at e
  ·cases e
  rename_i d ρ2 e2;split at e
  ·rename_i ds h2;split at e
   ·rename_i hz;cases e;obtain⟨xs0,y0,_⟩:=w0;refine⟨.inl ⟨rfl,xs0,.inl (.inl y0)⟩,?_⟩;refine⟨H0,ρ,[x],ρ1,st,by unfold Dm.eAs;rw[e1];rfl,fun vs H0' H' t r=>?_⟩;cases r with
    |cons r rr=>
     cases rr;obtain⟨H1,t1,b1,r1,_,_⟩:=take1 t (ao.refl _) r e2;obtain⟨a,q,n,w⟩:=t1.st.ow i _ h2;rw[q0]at q;cases q;obtain⟨xs,y,rs⟩:=w;refine⟨a0,xs,_,rfl,rfl,y,by rw[rs.length];exact MF hz (by decide),?_⟩;have ow:aj σ ρ2 a0:=⟨i,_,h2,q0⟩
     refine k σ H1 _ ⟨t1.st.write h2 q0 ⟨_,au,rs.append (.cons r1 .nil)⟩,t1.stp.trans (Stp.write ow) fun b z=>.inl (t1.own b z),fun b z=>.inl (t1.own b (bE h2 z)),rfl⟩
   ·cases e
  ·cases e
 ·cases e
theorem GB(n:Nat)(i:Int):Dm.ixN n i=L2.ixN n i:=rfl
theorem Jp{j f:FE}(h:tDS (Dm.xu i j f) D σ H):qe (tD f) (jF (jE i) (tD j) Ei) D σ H:=by
 obtain⟨H0,ρ,o,st,e,k⟩:=h;unfold Dm.xu at e;split at e
 ·cases e
 rename_i x ρ1 e1;split at e
 ·cases e
 rename_i d ρ2 e2;split at e
 case h_2=>cases e
 rename_i d0 h2;split at e
 ·rename_i m ρ3 e3;split at e
  ·rename_i ds h3;split at e
   ·cases e
   ·rename_i p e4;cases e;refine⟨H0,ρ,_,ρ1,st,e1,fun v H0' H' t r=>?_⟩;obtain⟨H1,t1,b1,r1,_,_⟩:=take1 t (ao.refl _) r e2;obtain⟨a0,q0,_,_⟩:=t1.st.ow i _ h2;refine⟨_,q0,H1,ρ2,_,ρ3,t1.st,e3,fun u H2 Hc t2 r2=>?_⟩;obtain⟨a,q,n,w⟩:=t2.st.ow i _ h3;rw[q0]at q;cases q;obtain⟨xs,y,rs⟩:=w;refine⟨a0,xs,m,p,rfl,Rep.isInt r2,y,by rw[rs.length];exact e4,?_⟩;have ow:aj σ ρ3 a0:=⟨i,_,h3,q0⟩
    have tt:=t1.trans t2;refine k σ H2 _ ⟨t2.st.write h3 q0 ⟨_,au,rs.set (r1.mono t2.stp.s0) p⟩,tt.stp.trans (Stp.write ow) fun b z=>.inl (tt.own b z),fun b z=>.inl (tt.own b (bE h3 z)),rfl⟩
  ·cases e
 ·cases e
theorem B4(h:tDS (Dm.whD t body n) D σ H):ye (tDT t) (tDS body) D σ H:=by
 refine⟨fun m σ H=>tDS (Dm.whD t body m) D σ H,⟨n,h⟩,?_⟩;rintro m σ H ⟨H0,ρ,o,st,e,k⟩;cases m with
 |zero=>unfold Dm.whD at e;cases e
 |succ m=>
  unfold Dm.whD at e;split at e
  ·cases e
  ·rename_i ρ1 e1;cases e;refine⟨H0,ρ,false,ρ1,st,e1,fun H1 Hb t1=>?_⟩;dsimp only;rw[if_neg MG];exact k σ H1 Hb t1.sst
  ·rename_i ρ1 e1;refine⟨H0,ρ,true,ρ1,st,e1,fun H1 Hb t1=>?_⟩;dsimp only;rw[if_pos rfl];refine⟨fun σ' H'=>tDS (Dm.whD t body m) D σ' H',fun σ' H' q=>⟨m,OX m,q⟩,?_⟩;have k1:=k.pre t1.sst;split at e
   ·rename_i ρ2 e2;exact⟨H1,ρ1,_,t1.st,e2,fun σ' H0' H' t2=>⟨H0',ρ2,o,t2.st,e,k1.pre t2⟩⟩
   ·rename_i ρ2 e2;exact⟨H1,ρ1,_,t1.st,e2,fun σ' H0' H' t2=>⟨H0',ρ2,o,t2.st,e,k1.pre t2⟩⟩
   ·rename_i ρ2 e2;cases e;exact⟨H1,ρ1,_,t1.st,e2,k1⟩
   ·rename_i v ρ2 e2;cases e;exact⟨H1,ρ1,_,t1.st,e2,k1⟩
   ·cases e
def JW(J:It)(H00:Hp)(ys:List Dat):Prop:=∀H0 H,ao H00 H0->ao H0 H->(∀i,ys.length<=i->J.stop i H) /\
 ∀(i:Nat) (d:Dat),ys[i]?=some d->J.go i H/\∀x H',J.yld i H x H'->∃H0',aI H0 H H0' H'/\Rep H0' x d
def tDI(fi:Dm.FI):TI:=fun σ H R=>∃H0 ρ ys ρ',az H0 H σ ρ/\fi ρ=some (ys,ρ')/\∀J H0' H',ESt σ ρ H0 H ρ' H0' H'->JW J H0' ys->R J H'
theorem Jq(hb:BD is g bd)(h:tDS (Dm.cU fi bd body) D σ H):FU (tDI fi) g (tDS body) D σ H:=by
 obtain⟨H0,ρ,o,st,e,k⟩:=h;unfold Dm.cU at e;split at e
 ·cases e
 rename_i ys ρ1 e1;refine⟨H0,ρ,ys,ρ1,st,e1,fun J H00 Hb t1 jw=>?_⟩;refine ⟨fun i m σ H=>∃ H0 ρ o,az H0 H σ ρ∧ao H00 H0∧m=ys.length-i∧i≤ys.length∧Dm.i6 bd body (ys.drop i) ρ=some o∧nv D σ ρ H0 H o,
  ⟨ys.length,H00,ρ1,o,t1.st,ao.refl _,by simp,M5 _,by simpa using e,k.pre t1.sst⟩,?_⟩
 rintro i m σ H ⟨H0,ρ,o,st,s00,rfl,hi,e,k⟩;obtain⟨js,jg⟩:=jw H0 H s00 st.same;by_cases EM:i<ys.length
 ·have hd:ys[i]?=some ys[i]:=by simp[EM]
  obtain⟨g1,g2⟩:=jg i ys[i] hd;rw[NV EM]at e;unfold Dm.i6 at e;refine .inr ⟨g1,fun σ' H'=>∃H0 ρ o,az H0 H' σ' ρ/\ao H00 H0/\Dm.i6 bd body (ys.drop (i+1)) ρ=some o/\nv D σ' ρ H0 H' o,?_,fun x H' y=>?_⟩
  ·rintro σ' H' ⟨H0',ρ',o',h1,h2,h3,h4⟩;exact⟨ys.length-(i+1),by lia,H0',ρ',o',h1,h2,rfl,EM,h3,h4⟩
  ·obtain⟨H0',gr,rx⟩:=g2 x H' y;split at e
   ·cases e
   ·rename_i ρ2 e2;have t2:=ESt.grow st gr;refine hb H0' H' σ ρ ρ2 x ys[i] _ t2.st rx e2 fun σ2 st2 o2 _ _ f2=>?_;have t3:SSt σ ρ H0 H σ2 ρ2 H0' H':=⟨st2,t2.stp,fun a z=>.inl (o2 a z),f2⟩
    have k3:=k.pre t3;have s3:ao H00 H0':=s00.trans gr.s0;split at e
    ·rename_i ρ3 e3;exact⟨H0',ρ2,_,st2,e3,fun σ4 H4 Hd t4=>⟨H4,ρ3,o,t4.st,s3.trans t4.stp.s0,e,k3.pre t4⟩⟩
    ·rename_i ρ3 e3;exact⟨H0',ρ2,_,st2,e3,fun σ4 H4 Hd t4=>⟨H4,ρ3,o,t4.st,s3.trans t4.stp.s0,e,k3.pre t4⟩⟩
    ·rename_i ρ3 e3;cases e;exact⟨H0',ρ2,_,st2,e3,k3⟩
    ·rename_i v ρ3 e3;cases e;exact⟨H0',ρ2,_,st2,e3,k3⟩
    ·cases e
 ·have e':i=ys.length:=by lia
  subst e';rw[Oo]at e;cases e;exact .inl ⟨js _ (Mn _),k σ H0 H (.refl st)⟩
theorem B5(hq:Rd H0 a (.lst xs))(rs:av H0 xs ds):JW (Itl K a) H0 ds:=by intro H0' H s0 s1;have q:SqL K H a xs:=.inl (ao.rd s1 (ao.rd s0 hq));refine⟨fun i hi=>⟨xs,q,by rw[rs.length];exact hi⟩,fun i d e=>?_⟩;obtain⟨v,hv,rv⟩:=rs.get e;refine⟨⟨xs,v,q,hv⟩,fun x H' y=>?_⟩;obtain⟨e1,y⟩:=y;subst e1;have z:=y xs q;rw[hv]at z;cases z;exact⟨H0',aI.refl s1,rv.mono s0⟩
theorem GC(hq:H0 a=some (.tup xs))(rs:av H0 xs ds):JW (Itt K a) H0 ds:=by intro H0' H s0 s1;have q:SqT K H a xs:=.inl (.inl (s1 _ _ (s0 _ _ hq)));refine⟨fun i hi=>⟨xs,q,by rw[rs.length];exact hi⟩,fun i d e=>?_⟩;obtain⟨v,hv,rv⟩:=rs.get e;refine⟨⟨xs,v,q,hv⟩,fun x H' y=>?_⟩;obtain⟨e1,y⟩:=y;subst e1;have z:=y xs q;rw[hv]at z;cases z;exact⟨H0',aI.refl s1,rv.mono s0⟩
theorem qv{lo:Int}:JW (Itr lo n) H0 (Dm.ups lo n):=by
 intro H0' H s0 s1;have el:(Dm.ups lo n).length=n:=by simp[Dm.ups]
 refine⟨fun i hi=>by rw[el]at hi;exact hi,fun i d e=>?_⟩;have hi:i<n:=by have:=(Mq.mp e).1;rw[el]at this;exact this
 have hd:d=.int (lo+i):=by unfold Dm.ups at e;rw[MS,NK hi]at e;exact(Option.some.inj e).symm
 refine⟨hi,fun x H' y=>?_⟩;obtain⟨rfl,rfl⟩:=y;subst hd;exact⟨H0',aI.refl s1,.int _⟩
variable{R:It->Hp->Prop}
theorem Ln(h:tDI (Dm.iL f) σ H R):qf K (tD f) σ H R:=by
 obtain⟨H0,ρ,ys,ρ',st,e,k⟩:=h;unfold Dm.iL at e;split at e
 ·cases e
 rename_i x ρ1 e1;split at e
 ·rename_i ds ρ2 e2;cases e;refine⟨H0,ρ,_,ρ1,st,e1,fun v H0' H' t r=>?_⟩;obtain⟨H1,t1,b1,r1,_,_⟩:=take1 t (ao.refl _) r e2;cases r1 with
  |lst q rs=>exact⟨_,rfl,⟨_,.inl (ao.rd t1.st.same q)⟩,k _ H1 H' t1 (B5 q rs)⟩
 ·cases e
theorem Lo(h:tDI (Dm.iT f) σ H R):yi K (tD f) σ H R:=by
 obtain⟨H0,ρ,ys,ρ',st,e,k⟩:=h;unfold Dm.iT at e;split at e
 ·cases e
 rename_i x ρ1 e1;split at e
 ·rename_i ds ρ2 e2;cases e;refine⟨H0,ρ,_,ρ1,st,e1,fun v H0' H' t r=>?_⟩;obtain⟨H1,t1,b1,r1,_,_⟩:=take1 t (ao.refl _) r e2;cases r1 with
  |tup q rs=>exact⟨_,rfl,⟨_,.inl (.inl (t1.st.same _ _ q))⟩,k _ H1 H' t1 (GC q rs)⟩
 ·cases e
theorem Jr(h:tDI (Dm.iR1 f) σ H R):Eb (tDA [f]) σ H R:=by
 obtain⟨H0,ρ,ys,ρ',st,e,k⟩:=h;unfold Dm.iR1 at e;split at e
 ·rename_i j ρ1 e1;split at e
  ·rename_i hb;cases e;refine⟨H0,ρ,[.val (.int j)],_,st,by unfold Dm.eAs;rw[e1];rfl,fun vs H0' H' t r=>?_⟩;cases r with
   |cons r rr=>cases rr;cases Rep.isInt r;have h1:=hb.1;have h2:=hb.2;unfold Dm.BIG at h1 h2;exact⟨j,rfl,by lia,by lia,k _ H0' H' t qv⟩
  ·cases e
 ·cases e
theorem Js{f g:FE}(h:tDI (Dm.iR2 f g) σ H R):Ec (tDA [f,g]) σ H R:=by
 obtain⟨H0,ρ,ys,ρ',st,e,k⟩:=h;unfold Dm.iR2 at e;split at e
 ·rename_i i ρ1 e1;split at e
  ·rename_i j ρ2 e2;split at e
   ·rename_i hb;cases e;refine⟨H0,ρ,[.val (.int i),.val (.int j)],_,st,by unfold Dm.eAs;rw[e1];dsimp only;unfold Dm.eAs;rw[e2];rfl,fun vs H0' H' t r=>?_⟩;cases r with
    |cons r rr=>
     cases rr with
     |cons r' rr=>cases rr;cases Rep.isInt r;cases Rep.isInt r';obtain⟨h1,h2,h3,h4⟩:=hb;unfold Dm.BIG at h1 h2 h3 h4;exact⟨i,j,rfl,⟨by lia,by lia,by lia,by lia⟩,k _ H0' H' t qv⟩
   ·cases e
  ·cases e
 ·cases e
def tLC(wi:TI)(own:Nat)(g:TG)(tt:TT)(te:TE):TE:=fun σ H Q=>wi σ H fun J H1=>∀D,H1 D=none->∃W:Nat->Nat->St->Hp->Prop,
 (∃m,W 0 m (σ++Mk own none) (upd H1 D (.lst [])))/\∀i m σ' H',W i m σ' H' ->
  (J.stop i H'∧Q (.ref D) H')∨(J.go i H'∧∀ x H2,J.yld i H' x H2→g x σ' H2 fun σ2 H3=>tt σ2 H3 fun b H4=>if b=true
   then te σ2 H4 fun y H5=>∃Di,H5 D=some (.lst Di)/\Di.length<sizeLine/\∃m',m'<m/\W (i+1) m' σ2 (upd H5 D (.lst (Di++[y])))
   else ∃m',m'<m/\W (i+1) m' σ2 H4)
theorem az.aside{H0 H:Hp}{σ:St}(st:az H0 H σ ρ)(n0:H0 a=none)(no:¬aj σ ρ a):az H0 (upd H a o) σ ρ where
 same:=fun b u z=>by rw[ak (aE z n0)];exact st.same _ _ z
 len:=st.len
 sh:=st.sh
 ow:=fun j d h=>by obtain⟨b,q,n,w⟩:=st.ow j d h;have nb:b≠a:=fun y=>no ⟨j,d,h,y▸q⟩;exact⟨b,q,n,w.mono (ao.refl _) (ak nb)⟩
 dis:=st.dis
theorem az.bB{H0 H:Hp}{σ:St}(st:az H0 H σ ρ)(h:H a=none):¬aj σ ρ a:=fun⟨i,d,h1,h2⟩=>by obtain⟨b,q,n,w⟩:=st.ow i d h1;rw[h2]at q;cases q;obtain⟨o,z⟩:=w.some;rw[h]at z;cases z
theorem iH{α:Type}{l:List α}{r:List α}{x:α}(h:(l++r)[i]?=some x)(n:x∉r):i<l.length/\l[i]?=some x:=by
 by_cases hi:i<l.length
 ·rw[Mz hi]at h;exact⟨hi,h⟩
 ·rw[MU (Oc.mp hi)]at h;exact absurd (NC h) n
theorem yV:Dm.Cell.sh d∉Mk k Dm.Cell.un:=fun h=>by have:=List.eq_of_mem_replicate h;cases this
theorem iI:Dm.Cell.ow d∉Mk k Dm.Cell.un:=fun h=>by have:=List.eq_of_mem_replicate h;cases this
theorem az.ext{H0 H:Hp}{σ:St}(st:az H0 H σ ρ)(k:Nat):az H0 H (σ++Mk k none) (ρ++Mk k .un) where
 same:=st.same
 len:=by simp[st.len]
 sh:=fun i d h=>by obtain⟨hi,h⟩:=iH h yV;obtain⟨v,q,r⟩:=st.sh i d h;exact⟨v,by rw[Mz (by rw[st.len];exact hi)];exact q,r⟩
 ow:=fun i d h=>by obtain⟨hi,h⟩:=iH h iI;obtain⟨v,q,r⟩:=st.ow i d h;exact⟨v,by rw[Mz (by rw[st.len];exact hi)];exact q,r⟩
 dis:=fun i j d e a h1 h2 h3 h4=>by obtain⟨hi,h1⟩:=iH h1 iI;obtain⟨hj,h2⟩:=iH h2 iI;rw[Mz (by rw[st.len];exact hi)]at h3;rw[Mz (by rw[st.len];exact hj)]at h4;exact st.dis i j d e a h1 h2 h3 h4
theorem i9{H0 H:Hp}{σ:St}(st:az H0 H σ ρ)(h:aj (σ++Mk k none) (ρ++Mk k .un) a):aj σ ρ a:=by obtain⟨i,d,h1,h2⟩:=h;obtain⟨hi,h1⟩:=iH h1 iI;rw[Mz (by rw[st.len];exact hi)]at h2;exact⟨i,d,h1,h2⟩
theorem Stp.aside{O:Addr->Prop}{H0 H H0' H':Hp}{D:Addr}(t:Stp O H0 H H0' H')(hD:H D=none):Stp O H0 H H0' (upd H' D o):=
 ⟨t.s0,fun a u e n=>by rw[ak (aE e hD)];exact t.s1 a u e n,t.s2,fun a u e=>by rw[ak (aE e hD)];exact t.s3 a u e⟩
theorem ESt.cB{σ:St}{ρ ρ':Dm.Env}{H0 H H0' H':Hp}(t:ESt σ ρ H0 H ρ' H0' H'){D:Addr}(h:H D=some o)(n0:H0 D=none)(no:¬aj σ ρ D):H' D=some o/\H0' D=none/\¬aj σ ρ' D:=by
 refine⟨t.stp.s1 D o h no,?_,fun z=>no (t.own D z)⟩;cases q:H0' D with
 |none=>rfl
 |some u=>
  rcases t.stp.s2 D u q with z | z | z
  ·rw[h]at z;cases z
  ·rw[n0]at z;cases z
  ·exact absurd z no
def JWa(J:It)(H00:Hp)(pa:Option (Addr×HO))(ys:List Dat):Prop:=∀H0 H,ao H00 H0->ao H0 H->(∀q,pa=some q->H q.1=some q.2)->(∀i,ys.length<=i->J.stop i H) /\
 ∀(i:Nat) (d:Dat),ys[i]?=some d->J.go i H/\∀x H',J.yld i H x H'->∃H0',aI H0 H H0' H'/\Rep H0' x d
theorem qw{σ:St}{own:Nat}{t:FT}{el:FE}{Q:VK}{H00 Hb:Hp}{ρ1 ρ2:Dm.Env}{ds ys:List Dat}{J:It}{pa:Option (Addr×HO)}(hb:BD is g bd)(hl:∀i∈is,σ.length<=i)
  (st1:az H00 Hb σ ρ1) (hp:∀q,pa=some q->Hb q.1=some q.2/\H00 q.1=none/\¬aj σ ρ1 q.1) (jw:JWa J H00 pa ds) (hsz:ds.length<=Dm.SZ) (e2:Dm.eY bd t el ds (ρ1++Mk own .un) []=some (ys,ρ2))
  (k:∀v H0' H',ESt σ ρ1 H00 Hb (ρ2.take ρ1.length) H0' H'->fE Hb H0' H' σ (ρ2.take ρ1.length) v (.new (.lst ys))->(∀q,pa=some q->H' q.1=some q.2/\H0' q.1=none)->Q v H') (D:Addr) (hD:Hb D=none) :
  ∃W:Nat->Nat->St->Hp->Prop,(∃m,W 0 m (σ++Mk own none) (upd Hb D (.lst [])))/\∀i m σ' H',W i m σ' H' ->
  (J.stop i H'∧Q (.ref D) H')∨(J.go i H'∧∀ x H2,J.yld i H' x H2→g x σ' H2 fun σ2 H3=>tDT t σ2 H3 fun b H4=>if b=true
   then tD el σ2 H4 fun y H5=>∃Di,H5 D=some (.lst Di)/\Di.length<sizeLine/\∃m',m'<m/\W (i+1) m' σ2 (upd H5 D (.lst (Di++[y])))
   else ∃m',m'<m/\W (i+1) m' σ2 H4):=by
 have hpD:∀q,pa=some q->q.1≠D:=fun q e z=>by have:=(hp q e).1;rw[z,hD]at this;cases this
 have noD:¬aj σ ρ1 D:=st1.bB hD;refine ⟨fun i m σ' H'=>∃ (H0c:Hp) (ρc:Dm.Env) (xA:List Dat) (tY:List V),az H0c H' σ' ρc∧ao H00 H0c∧m=ds.length-i∧i≤ds.length∧Dm.eY bd t el (ds.drop i) ρc xA=some (ys,ρ2) ∧
  H' D=some (.lst tY)/\av H0c tY xA/\H0c D=none/\xA.length<=i/\Stp (aj σ ρ1) H00 Hb H0c H'/\(∀j,j<σ.length->σ'[j]?=σ[j]?)/\(∀a,aj σ' ρc a->aj σ ρ1 a)/\(∀j,Def ρ1 j->Def ρc j)/\(∀q,pa=some q->H' q.1=some q.2/\H0c q.1=none/\¬aj σ' ρc q.1),
  ⟨ds.length,H00,ρ1++Mk own .un,[],[],(st1.aside (st1.same.free hD) noD).ext own,ao.refl _,by simp,M5 _,by simpa using e2,au,.nil,st1.same.free hD,M5 _,(Stp.refl _ _ _).aside hD,
   fun j hj=>Mz hj,fun a z=>i9 st1 z,fun j z=>trivial,fun q e=>⟨by rw[ak (hpD q e)];exact(hp q e).1,(hp q e).2.1,fun z=>(hp q e).2.2 (i9 st1 z)⟩⟩,?_⟩
 rintro i m σ' H' ⟨H0c,ρc,xA,tY,sc,s00,rfl,hi,ec,hDl,ra,n0,hal,sp,hσ,ho,hdf,hpc⟩;have nOc:¬aj σ' ρc D:=fun z=>noD (ho D z);obtain⟨js,jg⟩:=jw H0c H' s00 sc.same fun q e=>(hpc q e).1;by_cases EM:i<ds.length
 ·have hd:ds[i]?=some ds[i]:=by simp[EM]
  obtain⟨g1,g2⟩:=jg i ds[i] hd;rw[NV EM]at ec;unfold Dm.eY at ec;refine .inr ⟨g1,fun y H2 yy=>?_⟩;obtain⟨H0',gr,rx⟩:=g2 y H2 yy;split at ec
  ·cases ec
  rename_i ρ3 e3;have t2:=ESt.grow sc gr;obtain⟨hD2,n02,no2⟩:=t2.cB hDl n0 nOc;have hp2:=fun q e=>t2.cB (hpc q e).1 (hpc q e).2.1 (hpc q e).2.2;refine hb H0' H2 σ' ρc ρ3 y ds[i] _ t2.st rx e3 fun σ3 st3 o3 k3 d3 _=>?_;have no3:¬aj σ3 ρ3 D:=fun z=>no2 (o3 D z);have po3:∀q,pa=some q->¬aj σ3 ρ3 q.1:=fun q e z=>(hp2 q e).2.2 (o3 q.1 z);have hσ3:∀j,j<σ.length->σ3[j]?=σ[j]?:=fun j hj=>(k3 j fun z=>Oc.mpr (hl j z) hj).trans (hσ j hj);have ho3:∀a,aj σ3 ρ3 a->aj σ ρ1 a:=fun a z=>ho a (o3 a z);have Jt:∀j,Def ρ1 j->Def ρ3 j:=fun j z=>d3 j (hdf j z);have sp3:Stp (aj σ ρ1) H00 Hb H0' H2:=sp.trans t2.stp fun a z=>.inl (ho a z);have ra3:=ra.mono gr.s0;have s3:ao H00 H0':=s00.trans gr.s0;split at ec
  ·cases ec
  ·rename_i ρ4 e4;refine⟨H0',ρ3,false,ρ4,st3,e4,fun GD H'' t4=>?_⟩;dsimp only;rw[if_neg MG];obtain⟨hD4,n04,no4⟩:=t4.cB hD2 n02 no3;have hp4:=fun q e=>t4.cB (hp2 q e).1 (hp2 q e).2.1 (po3 q e);exact⟨ds.length-(i+1),by lia,GD,ρ4,xA,tY,t4.st,s3.trans t4.stp.s0,rfl,EM,ec,hD4,ra3.mono t4.stp.s0,n04,Nat.le_succ_of_le hal,sp3.trans t4.stp fun a z=>.inl (ho3 a z),hσ3,fun a z=>ho3 a (t4.own a z),fun j z=>t4.dfn j (Jt j z),hp4⟩
  ·rename_i ρ4 e4;refine⟨H0',ρ3,true,ρ4,st3,e4,fun GD H'' t4=>?_⟩;dsimp only;rw[if_pos rfl];obtain⟨hD4,n04,no4⟩:=t4.cB hD2 n02 no3;have hp4:=fun q e=>t4.cB (hp2 q e).1 (hp2 q e).2.1 (po3 q e);split at ec
   ·cases ec
   rename_i x5 ρ5 e5;split at ec
   ·cases ec
   rename_i y6 ρ6 e6;refine⟨GD,ρ4,x5,ρ5,t4.st,e5,fun v H5 Hc t5 r5=>?_⟩;obtain⟨H6,t6,b6,r6,_,_⟩:=take1 t5 (ao.refl _) r5 e6;obtain⟨hD6,n06,no6⟩:=t6.cB hD4 n04 no4;have hp6:=fun q e=>t6.cB (hp4 q e).1 (hp4 q e).2.1 (hp4 q e).2.2;refine⟨tY,hD6,?_,ds.length-(i+1),by lia,H6,ρ6,xA++[y6],tY++[v],t6.st.aside n06 no6,(s3.trans t4.stp.s0).trans t6.stp.s0,rfl,EM,ec,au,?_,n06,?_,?_,hσ3,fun a z=>ho3 a (t4.own a (t6.own a z)),fun j z=>t6.dfn j (t4.dfn j (Jt j z)),fun q e=>⟨by rw[ak (hpD q e)];exact(hp6 q e).1,(hp6 q e).2.1,(hp6 q e).2.2⟩⟩
   ·rw[ra.length];unfold Dm.SZ at hsz;exact Nat.lt_of_le_of_lt (MH hal (MH (OV EM) hsz)) (by decide)
   ·exact((ra3.mono t4.stp.s0).mono t6.stp.s0).append (.cons r6 .nil)
   ·rw[MA,NP];lia
   ·exact((sp3.trans t4.stp fun a z=>.inl (ho3 a z)).trans t6.stp fun a z=>.inl (ho3 a (t4.own a z))).aside hD
 ·have e':i=ds.length:=by lia
  subst e';rw[Oo]at ec;cases ec;refine .inl ⟨js _ (Mn _),k _ H0c H' ?_ ?_ fun q e=>⟨(hpc q e).1,(hpc q e).2.1⟩⟩
  ·have uH:σ.length<=ρ2.length:=by
    rw[<- sc.len];refine Oc.mp fun z=>?_;have q:=hσ σ'.length z;rw[M8 (Mn _),Mp z]at q;cases q
   have tk:∀{j:Nat} {c:Dm.Cell},(ρ2.take ρ1.length)[j]?=some c->j<σ.length/\ρ2[j]?=some c:=fun {j c} h=>by
    have hj:j<ρ1.length:=by
     have:=(Mq.mp h).1;rw[Nf]at this
     lia
    rw[NY hj]at h;exact⟨by rw[st1.len];exact hj,h⟩
   have own':∀a,aj σ (ρ2.take ρ1.length) a->aj σ' ρ2 a:=fun a ⟨j,d,h1,h2⟩=>by obtain⟨hj,h1⟩:=tk h1;exact⟨j,d,h1,(hσ j hj).trans h2⟩
   refine⟨⟨sc.same,?_,fun j d h=>?_,fun j d h=>?_,fun j j' d d' a h1 h2 h3 h4=>?_⟩,sp,fun a z=>ho a (own' a z),fun j z=>?_⟩
   ·rw[Nf,<- st1.len];lia
   ·obtain⟨hj,h⟩:=tk h;obtain⟨v,q,r⟩:=sc.sh j d h;exact⟨v,(hσ j hj).symm.trans q,r⟩
   ·obtain⟨hj,h⟩:=tk h;obtain⟨v,q,r⟩:=sc.ow j d h;exact⟨v,(hσ j hj).symm.trans q,r⟩
   ·obtain⟨hj,h1⟩:=tk h1;obtain⟨hj',h2⟩:=tk h2;exact sc.dis j j' d d' a h1 h2 ((hσ j hj).trans h3) ((hσ j' hj').trans h4)
   ·trivial
  ·refine⟨D,rfl,hD,fun⟨j,d,h1,h2⟩=>?_,n0,tY,hDl,ra⟩;have hj:j<ρ1.length:=by
    have:=(Mq.mp h1).1;rw[Nf]at this
    lia
   rw[NY hj]at h1;exact nOc ⟨j,d,h1,(hσ j (by rw[st1.len];exact hj)).trans h2⟩
theorem oX{own:Nat}{el:FE}(hb:BD is g bd)(hl:∀i∈is,σ.length<=i)(h:tD (Dm.bD fi own bd t el) σ H Q) :
  tLC (tDI fi) own g (tDT t) (tD el) σ H Q:=by
 obtain⟨H0,ρ,x,ρ',st,e,k⟩:=h;unfold Dm.bD at e;split at e
 ·cases e
 rename_i ds ρ1 e1;split at e
 case isFalse=>cases e
 rename_i hsz;split at e
 ·cases e
 rename_i ys ρ2 e2;cases e;refine⟨H0,ρ,ds,ρ1,st,e1,fun J H00 Hb t1 jw D hD=>qw (pa:=none) hb hl t1.st (fun q e=>by cases e) (fun H0 H s0 s1 _=>jw H0 H s0 s1) hsz e2 (fun v H0' H' t2 r2 _=>k v H0' H' (t1.trans t2) (r2.early fun a n=>t1.stp.gone n)) D hD⟩
theorem yW{n m:Nat}{H:Hp}(h:spD (Dm.fn n m body) vs H Q E):vs.length=n:=by
 obtain⟨H0,ds,z,s,rs,e,k⟩:=h;unfold Dm.fn at e;split at e
 ·rename_i hl;rw[rs.length];exact hl
 ·cases e
theorem Lp{N:List Str}{n m:Nat}(hm:N.length=n+m)(h:spD (Dm.fn n m body) vs H Q E) :
  tDS body { nx:=fun _ H'=>Q .non H',rt:=Q } (start N vs) H:=by
 have hvn:=yW h;obtain⟨H0,ds,z,s,rs,e,k⟩:=h;have hl:=rs.length;have no:∀a,¬aj (start N vs) (ds.map Dm.Cell.sh++Mk m .un) a:=fun a ⟨i,d,h1,_⟩=>by
  by_cases hi:i<ds.length
  ·rw[Mz (by simpa using hi),MS]at h1;cases q:ds[i]? with
   |none=>rw[q]at h1;cases h1
   |some y=>rw[q]at h1;cases h1
  ·rw[MU (by simpa using hi),Nb]at h1;split at h1<;>cases h1
 have st:az H0 H (start N vs) (ds.map Dm.Cell.sh++Mk m .un):=by
  refine⟨s,?_,fun i d h=>?_,fun i d h=>?_,fun i j d e a h1 h2 _ _=>?_⟩
  ·unfold L2.start;simp only[MA,Mj,N8]
   lia
  ·have hi:i<ds.length:=by
    by_cases hi:i<ds.length
    ·exact hi
    ·rw[MU (by simpa using hi),Nb]at h;split at h<;>cases h
   rw[Mz (by simpa using hi),MS]at h;cases q:ds[i]? with
   |none=>rw[q]at h;cases h
   |some y=>rw[q]at h;cases h;obtain⟨v,hv,r⟩:=rs.get q;refine⟨v,?_,r⟩;unfold L2.start;rw[Mz (by simpa [hl] using hi),MS,hv];rfl
  ·by_cases hi:i<ds.length
   ·rw[Mz (by simpa using hi),MS]at h;cases q:ds[i]? with
    |none=>rw[q]at h;cases h
    |some y=>rw[q]at h;cases h
   ·rw[MU (by simpa using hi),Nb]at h;split at h<;>cases h
  ·by_cases hi:i<ds.length
   ·rw[Mz (by simpa using hi),MS]at h1;cases q:ds[i]? with
    |none=>rw[q]at h1;cases h1
    |some y=>rw[q]at h1;cases h1
   ·rw[MU (by simpa using hi),Nb]at h1;split at h1<;>cases h1
 have gr:∀{H0' H'},Stp (aj (start N vs) (ds.map Dm.Cell.sh++Mk m .un)) H0 H H0' H'->ao H0' H'->aI H0 H H0' H':=fun {H0' H'} t ss=>⟨t.s0,fun a o e=>t.s1 a o e (no a),fun a o e=>(t.s2 a o e).imp id fun q=>q.elim id fun z=>absurd z (no a),ss⟩
 unfold Dm.fn at e;rw[if_pos (by rw[<- hl];exact hvn)]at e;split at e
 ·rename_i r ρ' e1;cases e;refine⟨H0,_,_,st,e1,fun σ' v H0' H' t r _=>k v H0' H' (gr t.stp t.st.same) ?_⟩;cases z with
  |val d=>exact r
  |new d=>obtain⟨a,e,n,n0,w⟩:=r;exact⟨a,e,n.elim id fun z=>absurd z (no a),n0,w⟩
 ·rename_i ρ' e1;cases e;exact⟨H0,_,_,st,e1,fun σ' H0' H' t=>k _ H0' H' (gr t.stp t.st.same) .non⟩
 ·cases e
end
end
open PySem PySem.Spec PyProof.Rows L2
noncomputable def aS(X:Cx)(nm:List Str)(scope:Scope)(own:List Str)(cl:List (Str×Addr))(C:Addr)(s:Shared)(H:Hp)(fp:List Addr):Cx where
 prog:=X.prog
 w:=X.w
 K:=X.K
 mg:=X.mg
 base:=X.base
 A:=X.A
 N:=nm++own
 s₀:=s
 H₀:=H
 env:=compEnvC scope cl C X.env
 outer:=X.stack
 stack:=X.stack
 ex:=fp
 fn:=fun _=>false
 calm:=X.calm
 pn:=[]
 xe:=fun _ _=>False
def PTs(X:Cx)(EG:List Expr)(t:TT):Prop:=
 ∀(mW:List (Addr×Obj)) (s:Shared) (σ:L2.St) (H:Hp) (Q:Bool->Hp->Prop),Inv X mW σ H s->t σ H Q ->
  wpAny (model X.prog X.w) X.A (forIn EG true fun c r=>if r=true then do let ok <- isTrue c X.env (eval c X.env);pure (ND ok) else pure (ND r)) (TP X mW σ Q) X.xe s
def yX:TT:=fun _ H Q=>Q true H
theorem oY{X:Cx}:PTs X [] yX:=fun mW s σ H Q I h=>wpAny_tests_nil ⟨H,I,h⟩
theorem B6{X:Cx}{c:Expr}{t:TT}(h:PT X c t):PTs X [c] t:=fun mW s σ H Q I hq=>wpAny_tests_one (h mW s σ H Q I hq)
theorem dh(env:Env):∀(names:List (Str×NameKind)) (cs:List (Str×Addr)),(∀y∈names,y.2=.free->∃c,env.cells.lookup y.1=some c) ->
  ∃cl,(forIn names cs fun(x:Str×NameKind) (r:List (Str×Addr))=>(if (x.2 == NameKind.free)=true then do let c <- cellOf env x.1;pure (ND ((x.1,c)::r)) else pure (ND r):Sem (ForInStep (List (Str×Addr)))))=pure cl /\
   (∀x c,cl.lookup x=some c->env.cells.lookup x=some c\/cs.lookup x=some c)/\(∀y∈names,y.2=.free->∃c,cl.lookup y.1=some c)/\(∀x c,cs.lookup x=some c->∃c',cl.lookup x=some c')
 |[],cs,_=>⟨cs,rfl,fun _ _ h=>.inr h,fun _ h=>(nomatch h),fun _ c h=>⟨c,h⟩⟩
 |(n,k)::r,cs,h=>by
  have hr:∀y∈r,y.2=.free->∃c,env.cells.lookup y.1=some c:=fun y hy=>h y (Dk _ hy);by_cases hk:k=.free
  ·subst hk;obtain⟨c,hc⟩:=h (n,.free) Ds rfl;obtain⟨cl,e,h1,h2,h3⟩:=dh env r ((n,c)::cs) hr;refine⟨cl,?_,fun x c' q=>?_,fun y hy hf=>?_,fun x c' q=>?_⟩
   ·rw[List.forIn_cons];have e1:cellOf env n=pure c:=by unfold cellOf;rw[hc]
    simp only[beq_self_eq_true,if_true,e1,pure_bind];exact e
   ·rcases h1 x c' q with z | z
    ·exact .inl z
    ·rw[M9]at z;cases hx:x == n with
     |true=>
      rw[hx]at z;have:x=n:=by simpa using hx
      subst this;injection z with z
      subst z;exact .inl hc
     |false=>rw[hx]at z;exact .inr z
   ·rcases Ms.mp hy with rfl | hy
    ·exact h3 n c (by rw[M9,beq_self_eq_true])
    ·exact h2 y hy hf
   ·by_cases hx:x=n
    ·subst hx;exact h3 x c (by rw[M9,beq_self_eq_true])
    ·have hx':(x == n)=false:=by simpa using hx
     exact h3 x c' (by rw[M9,hx'];exact q)
  ·have hb:(k == NameKind.free)=false:=by simpa using hk
   obtain⟨cl,e,h1,h2,h3⟩:=dh env r cs hr;refine⟨cl,?_,h1,fun y hy hf=>?_,h3⟩
   ·rw[List.forIn_cons];simp only[hb,M4,if_false,pure_bind];exact e
   ·rcases Ms.mp hy with rfl | hy
    ·exact absurd hf hk
    ·exact h2 y hy hf
theorem kr{env:Env}{scope:Scope}(h:∀y∈scope.names,y.2=.free->∃c,env.cells.lookup y.1=some c) :
  ∃cl,closureFor scope env=pure cl/\(∀x c,cl.lookup x=some c->env.cells.lookup x=some c)/\∀y∈scope.names,y.2=.free->∃c,cl.lookup y.1=some c:=by
 obtain⟨cl,e,h1,h2,_⟩:=dh env scope.names [] h;refine⟨cl,?_,fun x c q=>(h1 x c q).elim id fun z=>by simp at z,h2⟩;unfold closureFor;have e':(forIn scope.names ([]:List (Str×Addr)) fun(x:Str×NameKind) (r:List (Str×Addr))=>(if (x.2 == NameKind.free)=true then do let c <- cellOf env x.1;pure (ND ((x.1,c)::r)) else pure (ND r):Sem (ForInStep (List (Str×Addr)))))=pure cl:=e
 first
  |(rw[show (forIn scope.names ([]:List (Str×Addr)) _:Sem (List (Str×Addr)))=pure cl from e'];rfl)
  |(simp only[e'];rfl)
theorem oZ{prog:Program}{w:World}{A:Around}{R:Result->Shared->Prop}{s:Shared}{Hv target iter:Expr}{EG:List Expr}{scope:Scope}{pos:Pos}{it Di:Value}{env:Env}(I:Nat->Shared->Prop)
  (turn:∀ n s,I n s→wpAny (model prog w) A (pyNext it) (fun r s₁=>match r with
   |none=>R (.ok .next) s₁
   | some v=>wpAny (model prog w) A (letOwnedTupleGo target it v) (fun _ s₁'=>wpAny (model prog w) A (assign target env v) (fun _ s₂=>
     wpAny (model prog w) A (forIn EG true fun c r=>if r=true then do let ok ← isTrue c env (eval c env);pure (ND ok) else pure (ND r)) (fun ok s₃=>
      if ok=true then wpAny (model prog w) A (eval Hv env) (fun x s₄=>wpAny (model prog w) A (call (.builtin "list.append") [Di,x]) (fun _ s₅=>∃m,m<n/\I m s₅) (fun _ _=>False) s₄) (fun _ _=>False) s₃
      else ∃m,m<n/\I m s₃) (fun _ _=>False) s₂) (fun _ _=>False) s₁') (fun _ _=>False) s₁) (fun _ _=>False) s)
  (n:Nat) (h:I n s) :
  codeAny (model prog w) A (.compLoop (.ListComp Hv [⟨target,iter,EG,0⟩] scope pos) 0 it Di env) R s:=by
 have no:∀{P:Value->Shared->Prop} (x:Value) (s':Shared),False->P x s':=fun _ _ f=>f.elim;refine codeAny_loop rfl I (fun n s hI=>?_) n h;show wpAny _ A ((compTurn (.ListComp Hv [⟨target,iter,EG,0⟩] scope pos) 0 it Di env).onRaise (fun x=>do noteFrame x env;theTreesLotGoes x)) _ _ s;refine wpAny_noted ?_;rw[compTurn_list];refine wpAny_bind (wpAny_standAt (wpAny_bind (wpAny_mono (turn n s hI) (fun r s₁ h₁=>?_) no)));cases r with
 |none=>exact wpAny_pure h₁
 |some v=>
  refine wpAny_bind (wpAny_mono h₁ (fun _ s₁' h₁'=>?_) no);refine wpAny_bind (wpAny_mono h₁' (fun _ s₂ h₂=>wpAny_bind (wpAny_mono h₂ (fun ok s₃ h₃=>?_) no)) no);cases ok with
  |false=>exact wpAny_pure ⟨rfl,h₃⟩
  |true=>exact wpAny_bind (wpAny_bind (wpAny_mono h₃ (fun x s₄ h₄=>wpAny_bind (wpAny_mono h₄ (fun _ s₅ h₅=>wpAny_pure (wpAny_pure ⟨rfl,h₅⟩)) no)) no))
theorem b9(env:Env):∀(names:List (Str×NameKind)) (x:Str) (k:NameKind),
  (names.map fun(n,k)=>if (k == NameKind.free&&env.scope.kind == .function&&env.kindOf n == some .cell) then (n,Pe) else (n,k)).lookup x=some k ->
  ∃k0,names.lookup x=some k0/\(k=k0\/(k0=.free/\k=.cell))
 |[],x,k,h=>by simp at h
 |(n,k1)::r,x,k,h=>by
  have h:List.lookup x ((if (k1 == NameKind.free&&env.scope.kind == .function&&env.kindOf n == some .cell)=true then (n,Pe) else (n,k1))::r.map fun(n,k)=>if (k == NameKind.free&&env.scope.kind == .function&&env.kindOf n == some .cell) then (n,Pe) else (n,k))=some k:=h;cases hx:x == n with
  |true=>
   by_cases hc:(k1 == NameKind.free&&env.scope.kind == .function&&env.kindOf n == some .cell)=true
   ·rw[if_pos hc,M9,hx]at h;injection h with h
    have hk:k1=.free:=by simp only[MD,beq_iff_eq]at hc;exact hc.1.1
    exact⟨k1,by rw[M9,hx],.inr ⟨hk,h.symm⟩⟩
   ·rw[if_neg hc,M9,hx]at h;injection h with h
    exact⟨k1,by rw[M9,hx],.inl h.symm⟩
  |false=>
   by_cases hc:(k1 == NameKind.free&&env.scope.kind == .function&&env.kindOf n == some .cell)=true
   ·rw[if_pos hc,M9,hx]at h;obtain⟨k0,e,z⟩:=b9 env r x k h;exact⟨k0,by rw[M9,hx];exact e,z⟩
   ·rw[if_neg hc,M9,hx]at h;obtain⟨k0,e,z⟩:=b9 env r x k h;exact⟨k0,by rw[M9,hx];exact e,z⟩
structure bW(X:Cx)(nm:List Str)(scope:Scope):Prop where
 kind:scope.kind=.function
 cell:∀y∈scope.names,y.2≠.cell
 names:∀y∈scope.names,y.2=.local->scope.names.lookup y.1=some .local
 free:∀y∈scope.names,y.2=.free->X.env.kindOf y.1=some .cell\/X.env.kindOf y.1=some .free
 apart:∀x∈nm,scope.names.lookup x≠some .local
 len:nm.length=X.N.length
 mask:∀(i:Nat) (x:Str),nm[i]?=some x->X.N[i]?=some x\/scope.names.lookup x=none
section
variable{X:Cx}{nm:List Str}{Hv tg iter:Expr}{EG:List Expr}{scope:Scope}{pos:Pos}{own:List Str}{wi:TI}{g:TG}{tt:TT}{te:TE}
theorem ny{mW:List (Addr×Obj)}{s2:Shared}{σ:L2.St}{H2:Hp}{cl:List (Str×Addr)}{it:Addr}{fp:List Addr}{tn:Nat->Heap->Prop}{J:It}{Q:VK}{E:Value->Shared->Prop}{RR:Value->Addr->Result->Shared->Prop}
  (hc:X.calm=true) (S:bW X nm scope) (ku:∀x c,cl.lookup x=some c->X.env.cells.lookup x=some c) (xB:∀y∈scope.names,y.2=.free->∃c,cl.lookup y.1=some c)
  (hg:∀cl C s H fp,PG (aS X nm scope own cl C s H fp) tg g) (ht:∀cl C s H fp,PTs (aS X nm scope own cl C s H fp) EG tt) (he:∀cl C s H fp,PE (aS X nm scope own cl C s H fp) Hv te)
  (I2:Inv X mW σ H2 s2) (T:Turn X.prog X.w X.K tg J fp it tn) (st2:tn 0 s2.heap) (f2:∀b∈fp,j0 X mW H2 b)
  (hR:∀ D,H2 D=none→∃ W:Nat→Nat→L2.St→Hp→Prop,
   (∃m,W 0 m (σ++Mk own.length none) (upd H2 D (.lst [])))/\∀i m σ' H',W i m σ' H' ->
    (J.stop i H'∧Q (.ref D) H')∨(J.go i H'∧∀ x H2,J.yld i H' x H2→g x σ' H2 fun σ2 H3=>tt σ2 H3 fun b H4=>if b=true
     then te σ2 H4 fun y H5=>∃Di,H5 D=some (.lst Di)/\Di.length<sizeLine/\∃m',m'<m/\W (i+1) m' σ2 (upd H5 D (.lst (Di++[y])))
     else ∃m',m'<m/\W (i+1) m' σ2 H4))
  (Lq:∀D C H6 s6,Inv X mW σ H6 s6->H6 C=none->C≠X.env.locals->X.s₀.heap.objs.size<=C->(∀x c,X.env.cells.lookup x=some c->c≠C)->(∀p∈X.pn++mW,p.1≠C)->(∃m,s6.heap.Ns C m)->Q (.ref D) H6->RR (.ref D) C (.ok .next) s6) :
  wpAny (model X.prog X.w) X.A (newList []) (fun Di s₃=>wpAny (model X.prog X.w) X.A (newFunctionEnv scope X.env.globals cl [] X.env.qual none .none (some X.env)) (fun cenv s₄=>codeAny (model X.prog X.w) X.A (.compStart (.ListComp Hv [⟨tg,iter,EG,0⟩] scope pos) 0 (.ref it) Di { cenv with scope:=relabel scope X.env }) (RR Di cenv.locals) s₄) E s₃) E s2:=by
 have no:∀{P:Value->Shared->Prop} (x:Value) (s':Shared),False->P x s':=fun _ _ f=>f.elim;refine wpAny_newObj_type (wpAny_newFunctionEnv S.cell (by intro y hy;simp at hy) (fun h₁ hns₁ hsb₁=>?_) S.kind);dsimp only at hns₁ hsb₁ ⊢;have I3:Inv X mW σ (upd H2 s2.heap.objs.size (.lst [])) { s2 with heap:=s2.heap.push { cls:=.type "list",dict:=none,data:=.seq ([]:List Value).toArray } }:=I2.Gm (t':=s2.toks) (ys:=[]) (its:=[]) .nil (M5 _)
 generalize hG2:s2.heap.push { cls:=.type "list",dict:=none,data:=.seq ([]:List Value).toArray }=G2 at hns₁ hsb₁ I3 ⊢
 have hC:G2.objs.size=s2.heap.objs.size+1:=by rw[<- hG2,Pb]
 have up2:∀b o,s2.heap.get? b=some o->G2.get? b=some o:=fun b o e=>hG2▸Mm _ e;have up3:∀b o,G2.get? b=some o->h₁.get? b=some o:=fun b o e=>hsb₁.extBut b o (ML (Mu e)) (Mm _ e);have Lr:G2.get? G2.objs.size=none:=OA (Mn _);have fpo:∀b∈fp,∃o,s2.heap.get? b=some o:=fun b hb=>by obtain⟨o,e,_⟩:=T.obj 0 _ st2 b hb;exact⟨o,e⟩
 have fpC:∀b∈fp,b≠G2.objs.size:=fun b hb=>by obtain⟨o,e⟩:=fpo b hb;exact ML (Mu (up2 b o e))
 have H3C:(upd H2 s2.heap.objs.size (.lst [])) G2.objs.size=none:=I3.hok.fresh (Mn _);have fpD:∀b∈fp,b≠s2.heap.objs.size:=fun b hb=>by obtain⟨o,e⟩:=fpo b hb;exact ML (Mu e)
 have Ju:∀b∈fp,b∉frs X.stack:=fun b hb z=>by
  rcases Ms.mp (I3.tu b z) with y | y
  ·exact(f2 b hb).2.1 y
  ·exact(f2 b hb).2.2.1 y
 have ok':(aS X nm scope own cl G2.objs.size { s2 with heap:=G2 } (upd H2 s2.heap.objs.size (.lst [])) fp).Ok:=by
  refine ⟨I3.ok.mod,S.kind,I3.ok.glob,I3.ok.blt,Mn _,fun x y c e1 e2=>I3.ok.inj x y c (ku x c e1) (ku y c e2),fun x hx=>?_,fun x c z=>(nomatch z),I3.ok.hd,I3.ok.frames,.inl rfl,
   fun b hb=>⟨fpC b hb,fun x c e=>(f2 b hb).2.2.2.2.1 x c (ku x c e)⟩,fun b o e=>I3.bs b o e,MH I3.ok.bsz I3.sz,fun b o e hb=>?_,fun b hb=>Ju b hb,I3.stack,I3.u6⟩
  ·have hx:(relabel scope X.env).names.lookup x=some .cell\/(relabel scope X.env).names.lookup x=some .free:=hx;have key:∀k,(relabel scope X.env).names.lookup x=some k->k≠.local->k=.cell\/k=.free->∃c,cl.lookup x=some c:=fun k hk _ hkk=>by
    obtain⟨k0,e0,z⟩:=b9 X.env scope.names x k hk;have m0:=PySem.mem_of_lookup e0;have f0:k0=.free:=by
     rcases z with z | z
     ·subst z;rcases hkk with q | q
      ·exact absurd q (S.cell _ m0)
      ·exact q
     ·exact z.1
    exact xB (x,k0) m0 f0
   rcases hx with hx | hx
   ·exact key _ hx (by decide) (.inl rfl)
   ·exact key _ hx (by decide) (.inr rfl)
  ·rcases (f2 b hb).2.2.2.1 with z | z
   ·exact I3.ok.x_ b o e z
   ·exact absurd (MF (Mu e) (MH I3.ok.bsz z)) (NH _)
 have stat:∀{H':Hp},(∀b∈fp,H' b=none)->∀b∈fp,j0 (aS X nm scope own cl G2.objs.size { s2 with heap:=G2 } (upd H2 s2.heap.objs.size (.lst [])) fp) [] H' b:=fun hn b hb=>⟨hn b hb,fpC b hb,Ju b hb,.inl hb,fun x c e=>(f2 b hb).2.2.2.2.1 x c (ku x c e),fun p hp=>(nomatch (show p∈([]:List (Addr×Obj)) from hp))⟩
 have I4:Inv (aS X nm scope own cl G2.objs.size { s2 with heap:=G2 } (upd H2 s2.heap.objs.size (.lst [])) fp) [] (σ++Mk own.length none) (upd H2 s2.heap.objs.size (.lst [])) { s2 with heap:=h₁,toks:=s2.toks+([]:List (Str×Value)).length }:=by
  refine⟨ok',rfl,I3.bare,Un.kept up3,⟨_,hns₁,fun i x v e1 e2 e3=>?_⟩,fun x c e=>?_,H3C,fun x c e=>I3.fm x c (ku x c e),fun p hp=>(nomatch (show p∈([]:List (Addr×Obj)) from hp)),I3.hok.kept up3,?_⟩
  ·have e1:(nm++own)[i]?=some x:=e1;have hi:i<σ.length:=by
    by_cases hi:i<σ.length
    ·exact hi
    ·rw[MU (Oc.mp hi),Nb]at e2;split at e2<;>cases e2
   rw[Mz hi]at e2;rw[Mz (by rw[S.len,<- I3.len];exact hi)]at e1;have key:∀k,(relabel scope X.env).names.lookup x=some k->k=.local\/k=.cell\/k=.free->scope.names.lookup x=some .free/\(k=.cell\/k=.free):=fun k hk hkk=>by
    obtain⟨k0,e0,z⟩:=b9 X.env scope.names x k hk;have m0:=PySem.mem_of_lookup e0;have n1:k0≠.local:=fun y=>S.apart x (NC e1) (y▸e0);have n2:k0≠.cell:=S.cell _ m0;rcases z with z | z
    ·subst z;rcases hkk with q | q | q
     ·exact absurd q n1
     ·exact absurd q n2
     ·subst q;exact⟨e0,.inr rfl⟩
    ·obtain⟨z1,z2⟩:=z;subst z1;subst z2;exact⟨e0,.inl rfl⟩
   have hk:∃k,(relabel scope X.env).names.lookup x=some k/\(k=.cell\/k=.free)/\scope.names.lookup x=some .free:=by
    rcases (show (relabel scope X.env).names.lookup x=some .local\/(relabel scope X.env).names.lookup x=some .cell\/(relabel scope X.env).names.lookup x=some .free from e3) with q | q | q
    ·obtain⟨a,b⟩:=key _ q (.inl rfl);exact⟨_,q,b,a⟩
    ·obtain⟨a,b⟩:=key _ q (.inr (.inl rfl));exact⟨_,q,b,a⟩
    ·obtain⟨a,b⟩:=key _ q (.inr (.inr rfl));exact⟨_,q,b,a⟩
   obtain⟨k,hk1,hk2,hk3⟩:=hk;have m0:=PySem.mem_of_lookup hk3;obtain⟨c,hcc⟩:=xB (x,.free) m0 rfl;obtain⟨m,hn,hl⟩:=I3.loc;have hout:=S.free (x,.free) m0 rfl;have Ls:Vis X.env.scope x:=by
    rcases hout with q | q
    ·exact .inr (.inl q)
    ·exact .inr (.inr q)
   have e1':X.N[i]?=some x:=by
    rcases S.mask i x e1 with z | z
    ·exact z
    ·rw[z]at hk3;cases hk3
   obtain⟨u,ru,lk⟩:=hl i x v e1' e2 Ls;refine⟨u,ru,.inr ⟨?_,c,hcc,?_⟩⟩
   ·rcases hk2 with q | q
    ·subst q;exact .inl hk1
    ·subst q;exact .inr hk1
   ·rcases lk with⟨q,_⟩ | ⟨_,c',e',z⟩
    ·rcases hout with y | y
     ·rw[q]at y;cases y
     ·rw[q]at y;cases y
    ·rw[ku x c hcc]at e';cases e';obtain⟨o,ho,hd⟩:=z;exact⟨o,up3 c o ho,hd⟩
  ·obtain⟨v,o,ho,hd⟩:=I3.cell x c (ku x c e);exact⟨v,o,up3 c o ho,hd⟩
  ·show (σ++Mk own.length none).length=(nm++own).length;rw[MA,MA,N8,I3.len,S.len]
 obtain⟨W,⟨m0,w0⟩,turn⟩:=hR s2.heap.objs.size I2.fresh;have st4:tn 0 h₁:=T.keep 0 _ _ st2 fun b hb o e=>up3 b o (up2 b o e);have Lu:∀b∈fp,(upd H2 s2.heap.objs.size (.lst [])) b=none:=fun b hb=>by rw[ak (fpD b hb)];exact(f2 b hb).1
 have J5:∀s₃:Shared,s₃={ s2 with heap:=h₁,toks:=s2.toks+([]:List (Str×Value)).length } ->
   codeAny (model X.prog X.w) X.A (.compLoop (.ListComp Hv [⟨tg,iter,EG,0⟩] scope pos) 0 (.ref it) (.ref s2.heap.objs.size) (compEnvC scope cl G2.objs.size X.env))
    (RR (.ref s2.heap.objs.size) G2.objs.size) s₃:=by
  rintro s₃ rfl;refine oZ (fun n s'=>∃i σ' H',Inv (aS X nm scope own cl G2.objs.size { s2 with heap:=G2 } (upd H2 s2.heap.objs.size (.lst [])) fp) [] σ' H' s'/\tn i s'.heap/\(∀b∈fp,H' b=none)/\W i n σ' H') ?_ m0
   ⟨0,_,_,I4,st4,Lu,w0⟩
  rintro n s5 ⟨i,σ5,H5,I5,st5,fr5,w5⟩;rcases turn i n σ5 H5 w5 with⟨stop,q⟩ | ⟨go,step⟩
  ·refine wpAny_mono (T.done (aS X nm scope own cl G2.objs.size { s2 with heap:=G2 } (upd H2 s2.heap.objs.size (.lst [])) fp) rfl rfl rfl hc i [] s5 σ5 H5 (fun _ _=>False) I5 (stat fr5) st5 stop) (fun r s6 hr6=>?_) no;obtain⟨hr,I6⟩:=hr6;subst hr;have I7:Inv X mW σ H5 s6:=I3.IG (ch:=fp) I6.os I6.base I6.hok I6.bare fun b hb=>⟨(f2 b hb).2.2.2.1,(f2 b hb).2.1,(f2 b hb).2.2.2.2.1,(f2 b hb).2.2.2.2.2⟩;refine Lq _ _ H5 s6 I7 I6.free (OB (show X.env.locals<G2.objs.size from I3.lt)) I3.sz (fun x c e=>?_) (fun p hp=>?_) (let ⟨m,hn,_⟩:=I6.loc;⟨m,hn⟩) q
   ·obtain⟨v,z⟩:=I3.cell x c e;exact ML z.lt
   ·exact ML (Mu (I3.pin p hp).1)
  ·refine wpAny_mono (T.item (aS X nm scope own cl G2.objs.size { s2 with heap:=G2 } (upd H2 s2.heap.objs.size (.lst [])) fp) rfl rfl rfl hc i [] s5 σ5 H5 (fun _ _=>False) I5 (stat fr5) st5 go) (fun r s6 hr6=>?_) no;obtain⟨u,hr,h6⟩:=hr6;subst hr;refine wpAny_mono h6 (fun _ s7 h7=>?_) no;obtain⟨x,H7,I7,r7,y7,st7,fr7⟩:=h7;have I7':=I7.pinned (stat fr7) (T.obj _ _ st7);have again:∀{s9:Shared} {σ9:L2.St} {H9:Hp} {m':Nat},m'<n->Inv (aS X nm scope own cl G2.objs.size { s2 with heap:=G2 } (upd H2 s2.heap.objs.size (.lst [])) fp) ([]++j3 fp s7.heap) σ9 H9 s9->W (i+1) m' σ9 H9 ->
     ∃m,m<n/\∃i σ' H',Inv (aS X nm scope own cl G2.objs.size { s2 with heap:=G2 } (upd H2 s2.heap.objs.size (.lst [])) fp) [] σ' H' s9/\tn i s9.heap/\(∀b∈fp,H' b=none)/\W i m σ' H':=fun {s9 σ9 H9 m'} hm I9 w9=>by
    refine⟨m',hm,i+1,σ9,H9,I9.iC,T.keep _ _ _ st7 fun b hb o e=>(I9.pin (b,o) (MK _ (MK _ (dX hb e)))).1,fun b hb=>?_,w9⟩;obtain⟨o,e,d⟩:=T.obj _ _ st7 b hb;exact(I9.pin (b,o) (MK _ (MK _ (dX hb e)))).2.1
   refine wpAny_mono (hg cl G2.objs.size _ _ fp _ s7 σ5 H7 x u _ I7' r7 (step x H7 y7)) (fun _ s8 h8=>?_) no;obtain⟨σ8,H8,I8,q8⟩:=h8;refine wpAny_mono (ht cl G2.objs.size _ _ fp _ s8 σ8 H8 _ I8 q8) (fun b s9 h9=>?_) no;obtain⟨H9,I9,q9⟩:=h9;cases b with
   |false=>rw[if_neg MG]at q9 ⊢;obtain⟨m',hm,w9⟩:=q9;exact again hm I9 w9
   |true=>rw[if_pos rfl]at q9 ⊢;refine wpAny_mono (he cl G2.objs.size _ _ fp _ s9 σ8 H9 _ I9 q9) (fun y s10 h10=>?_) no;obtain⟨yv,H10,I10,r10,Di,hacc,uH,m',hm,w10⟩:=h10;refine wpAny_mono (iZ (X:=aS X nm scope own cl G2.objs.size { s2 with heap:=G2 } (upd H2 s2.heap.objs.size (.lst [])) fp) _ s10 σ8 H10 (.ref s2.heap.objs.size) [yv] (.ref s2.heap.objs.size) [y] (fun _ H'=>H'=upd H10 s2.heap.objs.size (.lst (Di++[yv]))) I10 rfl (.cons r10 .nil) ⟨_,Di,yv,rfl,rfl,hacc,uH,rfl⟩) (fun _ s11 h11=>?_) no;obtain⟨_,H11,I11,_,e11⟩:=h11;subst e11;exact again hm I11 w10
 exact codeAny_compStart_list (J5 _ rfl) (T.self _ 0 _ _ _ st4 (J5 _ rfl))
theorem vC(hc:X.calm=true)(S:bW X nm scope)(hi:PI X tg iter wi)
  (hg:∀cl C s H fp,PG (aS X nm scope own cl C s H fp) tg g) (ht:∀cl C s H fp,PTs (aS X nm scope own cl C s H fp) EG tt) (he:∀cl C s H fp,PE (aS X nm scope own cl C s H fp) Hv te)
  (hs:∀x,foldedSetIterable iter X.env x=pure x:=by intro _;rfl):PE X (.ListComp Hv [⟨tg,iter,EG,0⟩] scope pos) (tLC wi own.length g tt te):=by
 intro mW s σ H Q I h;obtain⟨cl,hclos,ku,xB⟩:=kr (env:=X.env) (scope:=scope) fun y hy hf=>I.ok.has y.1 (S.free y hy hf);rw[eval_ListComp];refine wpAny_comprehension_free (use:=none) rfl hs hclos S.kind S.names (thn (hi mW s σ H _ I h) fun v s1 h1=>thn h1 fun itv s2 h2=>?_);obtain⟨it,fp,tn,J,H2,e,I2,T,st2,f2,hR⟩:=h2;subst e;refine ny (Q:=Q) (RR:=fun Di C=>compPost (model X.prog X.w) X.A X.xe none (EP X mW σ Q) Di C) hc S ku xB hg ht he I2 T st2 f2 hR ?_;intro D C H6 s6 I6 hCn hCL hCs hCc hCp hns q;obtain⟨m,hn⟩:=hns;refine⟨m,hn,fun h' hs'=>⟨.ref D,H6,I6.turned (t':=s6.toks) (fun b o hb e=>(hs'.2 b hb).trans e) hCn hCL (.inr hCs) hCc hCp,rfl,q⟩⟩
theorem cg{i:Nat}{y:Str}{py ED:Pos}(hN:X.N.Nodup)(hi':X.N[i]?=some y)(hy:Loc X.env.scope y)(hc:X.calm=true)(S:bW X nm scope)(hi:PI X tg iter wi)
  (hg:∀cl C s H fp,PG (aS X nm scope own cl C s H fp) tg g) (ht:∀cl C s H fp,PTs (aS X nm scope own cl C s H fp) EG tt) (he:∀cl C s H fp,PE (aS X nm scope own cl C s H fp) Hv te)
  (hsw:swapsWith (.ListComp Hv [⟨tg,iter,EG,0⟩] scope pos) (some (.Name y py)) ED.line X.env=pure true:=by rfl)
  (hs:∀x,foldedSetIterable iter X.env x=pure x:=by intro _;rfl) (hf:X.fn y=true\/X.env.scope.names.lookup y=some .local:=by trivial) :
  PS X (.Assign [.Name y py] (.ListComp Hv [⟨tg,iter,EG,0⟩] scope pos) ED) (qe (tLC wi own.length g tt te) (eX i)):=by
 intro mW s σ H Dn I h;obtain⟨cl,hclos,ku,xB⟩:=kr (env:=X.env) (scope:=scope) fun y hy hf=>I.ok.has y.1 (S.free y hy hf);rw[exec_Assign_Name_used _ _ _ _ hsw];refine wpAny_bind (wpAny_standAt (wpAny_bind ?_));show wpAny _ X.A (do let _ <- comprehension (.ListComp Hv [⟨tg,iter,EG,0⟩] scope pos) scope X.env _ (newList []) false (eval iter X.env) (some (assign (.Name y py) X.env))) _ _ s;refine wpAny_bind (wpAny_mono (wpAny_comprehension_free (use:=some (assign (.Name y py) X.env)) (Q:=fun _ s'=>SP X mW Dn .next s') rfl hs hclos S.kind S.names
  (thn (hi mW s σ H _ I h) fun v s1 h1=>thn h1 fun itv s2 h2=>?_)) (fun _ s' hq=>wpAny_pure (wpAny_pure hq)) fun _ _ e=>e)
 obtain⟨it,fp,tn,J,H2,e,I2,T,st2,f2,hR⟩:=h2;subst e;refine ny (Q:=fun x H1=>eX i x σ H1 Dn.nx) (RR:=fun Di C=>compPost (model X.prog X.w) X.A X.xe (some (assign (.Name y py) X.env)) (fun _ s'=>SP X mW Dn .next s') Di C) hc S ku xB hg ht he I2 T st2 f2 hR ?_;intro D C H6 s6 I6 hCn hCL hCs hCc hCp hns q;obtain⟨m,hn⟩:=hns;show wpAny _ X.A (assign (.Name y py) X.env (.ref D)) _ _ _;refine wpAny_assign_Name (m8 I6 hN hi' hy (v:=.ref D) rfl (fun s7 I7 h7=>?_) hf);obtain⟨a,sb,ha⟩:=h7;have hCa:C≠a:=by
  rcases ha with ha | ha
  ·rw[ha];exact hCL
  ·exact Ne.symm (hCc y a ha)
 refine⟨m,hn.sameBut sb hCa,fun h' hs'=>⟨_,H6,I7.turned (t':=s7.toks) (fun b o hb e=>(hs'.2 b hb).trans e) hCn hCL (.inr hCs) hCc hCp,q⟩⟩
end
mutual
noncomputable def toPy:Dat->PyData
 |.non=>.none
 |.bl b=>.bool b
 |.int i=>.int i
 |.str s=>.str ⟨s.toArray⟩
 |.tup xs=>.tuple (bM xs)
 |.lst xs=>.list (bM xs)
 |.dct _ _=>.dict []
 |.dcp _ _=>.dict []
 |.exc _=>.dict []
 |.dc _ _=>.dict []
 |.fn _=>.dict []
noncomputable def bM:List Dat->List PyData
 |[]=>[]
 |x::xs=>toPy x::bM xs
end
mutual
theorem iJ:∀a b:Dat,Nk (toPy a) (toPy b)=Dm.eqD a b
 |.non,b=>by cases b<;>simp[toPy,Nk,Dm.eqD]
 |.bl x,b=>by cases b<;>simp[toPy,Nk,Dm.eqD,Dm.b2i]
 |.int x,b=>by cases b<;>simp[toPy,Nk,Dm.eqD,Dm.b2i]
 |.str x,b=>by
  cases b with
  |str y=>
   simp only[toPy,Nk,Dm.eqD];rw[OD];simp only[beq_iff_eq];constructor
   ·intro h;have h:=congrArg (fun s:Str=>s.cps.toList) h
    simpa using h
   ·rintro rfl;rfl
  |_=>simp[toPy,Nk,Dm.eqD]
 |.tup xs,b=>by
  cases b with
  |tup ys=>simp only[toPy,Nk,Dm.eqD];exact i_ xs ys
  |_=>simp[toPy,Nk,Dm.eqD]
 |.lst xs,b=>by
  cases b with
  |lst ys=>simp only[toPy,Nk,Dm.eqD];exact i_ xs ys
  |_=>simp[toPy,Nk,Dm.eqD]
 |.dct ks vs,b=>by cases b<;>simp[toPy,Nk,Dm.eqD]
 |.dcp ks vs,b=>by cases b<;>simp[toPy,Nk,Dm.eqD]
 |.exc C,b=>by cases b<;>simp[toPy,Nk,Dm.eqD]
 |.dc C v,b=>by cases b<;>simp[toPy,Nk,Dm.eqD]
 |.fn C,b=>by cases b<;>simp[toPy,Nk,Dm.eqD]
theorem i_:∀a b:List Dat,OS (bM a) (bM b)=Dm.kh a b
 |[],b=>by cases b<;>simp[bM,OS,Dm.kh]
 |x::xs,b=>by
  cases b with
  |nil=>simp[bM,OS,Dm.kh]
  |cons y ys=>simp only[bM,OS,Dm.kh];rw[iJ x y,i_ xs ys]
end
theorem yY{s:List Nat}(h:(s.all fun c=>decide (c<128))=true):PyData.strOk ⟨s.toArray⟩=true:=by unfold PyData.strOk;rw[Array.all_eq_true'];intro c hc;have h1:=M3.mp h c (by simpa using hc);have h2:c<128:=of_decide_eq_true h1;exact decide_eq_true (by lia)
theorem bO{P:Program}{w:World}{H:Hp}{h:Heap}(ok:HOk P w H h):∀(n:Nat),
  (∀(v:V) (d:Dat) (u:Value),Rep H v d->RelV v u->Dm.okD n d=true->∃as,Reads h u (toPy d) as/\(toPy d).canLay0=true/\(toPy d).depth<=n) /\
  (∀(vs:List V) (ds:List Dat) (us:List Value),av H vs ds->Vals vs us->ds.all (Dm.okD n)=true->∃as,ReadsAll h us (bM ds) as/\OU (bM ds)=true/\NQ (bM ds)<=n):=by
 intro n
 induction n with
 |zero=>
  have one:∀(v:V) (d:Dat) (u:Value),Rep H v d->RelV v u->Dm.okD 0 d=true->∃as,Reads h u (toPy d) as/\(toPy d).canLay0=true/\(toPy d).depth<=0:=by
   intro v d u r rv k;cases r with
   |non=>cases rv;exact⟨_,.none,rfl,Mn _⟩
   |bl b=>cases rv;exact⟨_,.bool b,rfl,Mn _⟩
   |int i=>obtain⟨t,rfl⟩:=rv;exact⟨_,.int i t,rfl,Mn _⟩
   |str s=>obtain⟨t,rfl⟩:=rv;exact⟨_,.str _ t,yY k,Mn _⟩
   |tup _ _=>cases k
   |lst _ _=>cases k
   |dct _ _ _=>cases k
   |dcp _ _ _=>cases k
   |exc _=>cases k
   |dc _ _=>cases k
   |fn _=>cases k
  refine⟨one,fun vs ds=>?_⟩
  induction ds generalizing vs with
  |nil=>intro us r rv _;cases r;cases rv;exact⟨_,.nil,rfl,Mn _⟩
  |cons d ds ih=>
   intro us r rv k;cases r with
   |cons r rs=>
    cases rv with
    |cons q qs=>rw[Pf,MD]at k;obtain⟨a1,h1,h2,h3⟩:=one _ _ _ r q k.1;obtain⟨a2,h4,h5,h6⟩:=ih _ _ rs qs k.2;exact⟨_,.cons h1 h4,by simp[bM,OU,h2,h5],by simp only[bM,NQ];lia⟩
 |succ n ih=>
  have one:∀(v:V) (d:Dat) (u:Value),Rep H v d->RelV v u->Dm.okD (n+1) d=true->∃as,Reads h u (toPy d) as/\(toPy d).canLay0=true/\(toPy d).depth<=n+1:=by
   intro v d u r rv k;cases r with
   |non=>cases rv;exact⟨_,.none,rfl,M5 _⟩
   |bl b=>cases rv;exact⟨_,.bool b,rfl,M5 _⟩
   |int i=>obtain⟨t,rfl⟩:=rv;exact⟨_,.int i t,rfl,M5 _⟩
   |str s=>obtain⟨t,rfl⟩:=rv;exact⟨_,.str _ t,yY k,M5 _⟩
   |tup q rs=>cases rv;obtain⟨z,its,vr,ob,e,hc,m,hd⟩:=ok _ _ q;obtain⟨as,h1,h2,h3⟩:=ih.2 _ _ _ rs vr k;exact⟨_,.tuple e hc hd h1,h2,by simp only[toPy,PyData.depth];lia⟩
   |lst q rs=>cases rv;obtain⟨z,its,m,vr,e⟩:=q.ok ok;obtain⟨as,h1,h2,h3⟩:=ih.2 _ _ _ rs vr k;exact⟨_,.list e rfl rfl h1,h2,by simp only[toPy,PyData.depth];lia⟩
   |dct _ _ _=>cases k
   |dcp _ _ _=>cases k
   |exc _=>cases k
   |dc _ _=>cases k
   |fn _=>cases k
  refine⟨one,fun vs ds=>?_⟩
  induction ds generalizing vs with
  |nil=>intro us r rv _;cases r;cases rv;exact⟨_,.nil,rfl,M5 _⟩
  |cons d ds ih=>
   intro us r rv k;cases r with
   |cons r rs=>
    cases rv with
    |cons q qs=>rw[Pf,MD]at k;obtain⟨a1,h1,h2,h3⟩:=one _ _ _ r q k.1;obtain⟨a2,h4,h5,h6⟩:=ih _ _ rs qs k.2;exact⟨_,.cons h1 h4,by simp[bM,OU,h2,h5],by simp only[bM,NQ];lia⟩
theorem iG.full{H0 H:Hp}(s:ao H0 H){v:V}{d:Dat}(r:iG H0 H v d):Rep H v d:=by
 rcases r with r | ⟨a,rfl,w⟩
 ·exact r.mono s
 ·cases d with
  |lst ds=>obtain⟨xs,q,rs⟩:=w;exact .lst (.inl q) (rs.mono s)
  |dct ks ds=>obtain⟨kvs,q,e,rs⟩:=w;exact .dct q e (rs.mono s)
  |dcp ks ds=>obtain⟨kvs,q,e,rs⟩:=w;exact .dcp q (e.mono s) (rs.mono s)
  |_=>exact MZ w
def B7(neg:Bool):R2:=fun x y H Q=>∃dx dy,Rep H x dx/\Rep H y dy/\Dm.okD 8 dx=true/\Dm.okD 8 dy=true/\Q (.bl (if neg then !Dm.eqD dx dy else Dm.eqD dx dy)) H
section
variable{X:Cx}
section
variable{k:Nat}
theorem yZ(hr:aZ k X.A):OpR X (compareOp .Eq) (B7 false):=by intro mW s σ H x y v u Q I rx ry h;obtain⟨dx,dy,r1,r2,k1,k2,q⟩:=h;obtain⟨as,h1,h2,h3⟩:=(bO I.hok 8).1 x dx v r1 rx k1;obtain⟨bs,h4,h5,h6⟩:=(bO I.hok 8).1 y dy u r2 ry k2;have hu:=hr.units;refine PySem.SeqAt.compareEq_reads h1 h4 h2 h5 (by lia) ?_;rw[iJ];exact⟨.bl (Dm.eqD dx dy),H,I,rfl,q⟩
theorem y9(hr:aZ k X.A):OpR X (compareOp .NotEq) (B7 true):=by intro mW s σ H x y v u Q I rx ry h;obtain⟨dx,dy,r1,r2,k1,k2,q⟩:=h;obtain⟨as,h1,h2,h3⟩:=(bO I.hok 8).1 x dx v r1 rx k1;obtain⟨bs,h4,h5,h6⟩:=(bO I.hok 8).1 y dy u r2 ry k2;have hu:=hr.units;refine PySem.SeqAt.compareNe_reads h1 h4 h2 h5 (by lia) ?_;rw[iJ];exact⟨.bl (!Dm.eqD dx dy),H,I,rfl,q⟩
def B8(neg:Bool):R2:=fun x y H Q=>∃dx ds,Rep H x dx/\(Rep H y (.lst ds)\/Rep H y (.tup ds))/\Dm.okD 8 dx=true/\ds.all (Dm.okD 7)=true/\Q (.bl (if neg then !Dm.inD dx ds else Dm.inD dx ds)) H
theorem fG(x:Dat):∀ds:List Dat,((bM ds).any fun y=>Nk y (toPy x))=Dm.inD x ds
 |[]=>rfl
 |d::ds=>by have:=fG x ds;unfold Dm.inD at this ⊢;simp only[bM,Nt,iJ];rw[this]
theorem y_(hr:aZ k X.A):OpR X (compareOp .In) (B8 false):=by
 intro mW s σ H x y v u Q I rx ry h;obtain⟨dx,ds,r1,r2,k1,k2,q⟩:=h;obtain⟨as,h1,h2,h3⟩:=(bO I.hok 8).1 x dx v r1 rx k1;have hu:=hr.units;rcases r2 with r2 | r2
 ·obtain⟨bs,h4,h5,h6⟩:=(bO I.hok 8).1 y (.lst ds) u r2 ry k2;have h6:NQ (bM ds)+1<=8:=h6;refine PySem.SeqAt.in_list_reads h4 h1 h5 h2 (by lia) ?_;rw[fG];exact⟨.bl (Dm.inD dx ds),H,I,rfl,q⟩
 ·obtain⟨bs,h4,h5,h6⟩:=(bO I.hok 8).1 y (.tup ds) u r2 ry k2;have h6:NQ (bM ds)+1<=8:=h6;refine PySem.SeqAt.in_tuple_reads h4 h1 h5 h2 (by lia) ?_;rw[fG];exact⟨.bl (Dm.inD dx ds),H,I,rfl,q⟩
theorem xC(hr:aZ k X.A):OpR X (compareOp .NotIn) (B8 true):=by
 intro mW s σ H x y v u Q I rx ry h;obtain⟨dx,ds,r1,r2,k1,k2,q⟩:=h;obtain⟨as,h1,h2,h3⟩:=(bO I.hok 8).1 x dx v r1 rx k1;have hu:=hr.units;rcases r2 with r2 | r2
 ·obtain⟨bs,h4,h5,h6⟩:=(bO I.hok 8).1 y (.lst ds) u r2 ry k2;have h6:NQ (bM ds)+1<=8:=h6;refine PySem.SeqAt.notIn_list_reads h4 h1 h5 h2 (by lia) ?_;rw[fG];exact⟨.bl (!Dm.inD dx ds),H,I,rfl,q⟩
 ·obtain⟨bs,h4,h5,h6⟩:=(bO I.hok 8).1 y (.tup ds) u r2 ry k2;have h6:NQ (bM ds)+1<=8:=h6;refine PySem.SeqAt.notIn_tuple_reads h4 h1 h5 h2 (by lia) ?_;rw[fG];exact⟨.bl (!Dm.inD dx ds),H,I,rfl,q⟩
end
end
section
variable{H0 H:Hp}{ds:List Dat}{v:V}
theorem ay{i:Int}(r:iG H0 H v (.int i)):v=.int i:=by
 rcases r with r | ⟨a,_,w⟩
 ·exact Rep.isInt r
 ·exact MZ w
theorem vD{b:Bool}(r:iG H0 H v (.bl b)):v=.bl b:=by
 rcases r with r | ⟨a,_,w⟩
 ·exact Rep.mS r
 ·exact MZ w
theorem br(s:ao H0 H)(r:iG H0 H v (.lst ds)):∃a xs,v=.ref a/\Rd H a (.lst xs)/\av H0 xs ds:=by
 rcases r with r | ⟨a,e,xs,q,rs⟩
 ·cases r with
  |lst q rs=>exact⟨_,_,rfl,ao.rd s q,rs⟩
 ·exact⟨a,xs,e,.inl q,rs⟩
theorem dI(s:ao H0 H)(r:iG H0 H v (.tup ds)):∃a xs,v=.ref a/\H a=some (.tup xs)/\av H0 xs ds:=by
 rcases r with r | ⟨a,_,w⟩
 ·cases r with
  |tup q rs=>exact⟨_,_,rfl,s _ _ q,rs⟩
 ·exact MZ w
theorem GF:OpD (rI0 fun i j=>.int (i-j)) Dm.jF:=by
 intro H0 H x y dx dy z Q s rx ry e k;unfold Dm.jF at e;split at e
 ·cases e;cases ay rx;cases ay ry;exact⟨_,_,rfl,rfl,k _ H0 H (aI.refl s) (.int _)⟩
 ·cases e
theorem Em:OpD (rI0 fun i j=>.bl (decide (i<j))) Dm.gLt:=by
 intro H0 H x y dx dy z Q s rx ry e k;unfold Dm.gLt at e;split at e
 ·cases e;cases ay rx;cases ay ry;exact⟨_,_,rfl,rfl,k _ H0 H (aI.refl s) (.bl _)⟩
 ·cases e
theorem En:OpD (rI0 fun i j=>.bl (decide (i<=j))) Dm.gLe:=by
 intro H0 H x y dx dy z Q s rx ry e k;unfold Dm.gLe at e;split at e
 ·cases e;cases ay rx;cases ay ry;exact⟨_,_,rfl,rfl,k _ H0 H (aI.refl s) (.bl _)⟩
 ·cases e
theorem Jv:OpD (rI0 fun i j=>.bl (decide (j<i))) Dm.gGt:=by
 intro H0 H x y dx dy z Q s rx ry e k;unfold Dm.gGt at e;split at e
 ·cases e;cases ay rx;cases ay ry;exact⟨_,_,rfl,rfl,k _ H0 H (aI.refl s) (.bl _)⟩
 ·cases e
theorem Jw:OpD (rI0 fun i j=>.bl (decide (j<=i))) Dm.gGe:=by
 intro H0 H x y dx dy z Q s rx ry e k;unfold Dm.gGe at e;split at e
 ·cases e;cases ay rx;cases ay ry;exact⟨_,_,rfl,rfl,k _ H0 H (aI.refl s) (.bl _)⟩
 ·cases e
theorem GG:OpD (rI (fun _ j=>0<j) fun i j=>.int (i % j)) Dm.jI:=by
 intro H0 H x y dx dy z Q s rx ry e k;unfold Dm.jI at e;split at e
 ·split at e
  ·rename_i hj;cases e;cases ay rx;cases ay ry;exact⟨_,_,rfl,rfl,hj,k _ H0 H (aI.refl s) (.int _)⟩
  ·cases e
 ·cases e
theorem GH:OpD (rI BK fun i j=>.int (i ^ j.toNat)) Dm.tT:=by
 intro H0 H x y dx dy z Q s rx ry e k;unfold Dm.tT at e;split at e
 ·split at e
  ·rename_i hj;cases e;cases ay rx;cases ay ry;exact⟨_,_,rfl,rfl,⟨hj.1,hj.2.1,Nat.lt_trans hj.2.2 (by decide)⟩,k _ H0 H (aI.refl s) (.int _)⟩
  ·cases e
 ·cases e
theorem GI:OpD (rI (fun _ j=>0<=j) fun i j=>.int (i / 2 ^ j.toNat)) Dm.tU:=by
 intro H0 H x y dx dy z Q s rx ry e k;unfold Dm.tU at e;split at e
 ·split at e
  ·rename_i hj;cases e;cases ay rx;cases ay ry;exact⟨_,_,rfl,rfl,hj,k _ H0 H (aI.refl s) (.int _)⟩
  ·cases e
 ·cases e
end
section
variable{X:Cx}
def Eo(i j:Int):Prop:=0<j/\j<Dm.i7
theorem za:OpR X (binaryOp .FloorDiv) (rI Eo fun i j=>.int (i / j)):=opI fun i j _ _ _ _ _ hc q=>by
 have h:j.natAbs.log2<9000:=by
  have h1:j.natAbs<2 ^ 200:=by
   have:=hc.2;unfold Dm.i7 at this;have h2:=hc.1;have e:(2:Nat) ^ 200=1606938044258990275541962092341162602522202993782792835301376:=by decide +kernel
   omega
  have h3:j.natAbs≠0:=by have:=hc.1;omega
  have:=(Nat.log2_lt h3).mpr h1;omega
 have e:i.fdiv j=i / j:=Int.fdiv_eq_ediv_of_nonneg i (Int.le_of_lt hc.1);rw[<- e]at q;exact floordiv_int (Int.ne_of_gt hc.1) q (.inl (PyProof.noPylong_of_log2 h))
end
theorem GJ:OpD (rI Eo fun i j=>.int (i / j)) Dm.tS:=by
 intro H0 H x y dx dy z Q s rx ry e k;unfold Dm.tS at e;split at e
 ·split at e
  ·rename_i hj;cases e;cases ay rx;cases ay ry;exact⟨_,_,rfl,rfl,hj,k _ H0 H (aI.refl s) (.int _)⟩
  ·cases e
 ·cases e
theorem Lv(i:Int):OJ i 1=i % 2:=PyProof.Rows.bitAnd_m1 i
theorem GK:OpD (rI0 fun i j=>.int (OJ i j)) Dm.xw:=by
 intro H0 H x y dx dy z Q s rx ry e k;unfold Dm.xw at e;split at e
 ·split at e
  ·rename_i hj;subst hj;cases e;cases ay rx;cases ay ry;exact⟨_,_,rfl,rfl,k _ H0 H (aI.refl s) (by show Rep _ (V.int (OJ _ 1)) _;rw[Lv];exact .int _)⟩
  ·cases e
 ·cases e
def zb:R2:=fun x y H Q=>∃l b xs zs,x=.ref l/\y=.ref b/\Rd H l (.lst xs)/\Rd H b (.lst zs)/\xs.length+zs.length<=sizeLine/\∀p,H p=none->Q (.ref p) (upd H p (.lst (xs++zs)))
def zc:R2:=fun x y H Q=>∃l k xs,x=.ref l/\y=.int k/\Rd H l (.lst xs)/\-(2 ^ 63)<=k/\k<2 ^ 63/\xs.length*k.toNat<=sizeLine /\
 ∀p,H p=none->Q (.ref p) (upd H p (.lst (Mk k.toNat xs).flatten))
section
variable{X:Cx}
theorem B9:OpR X (binaryOp .Add) zb:=by
 intro mW s σ H x y v u Q I rx ry h;obtain⟨l,b,xs,zs,rfl,rfl,hH,hB,hz,q⟩:=h;cases rx;cases ry;obtain⟨z,its,n,r,e⟩:=hH.ok I.hok;obtain⟨z2,its2,n2,r2,e2⟩:=hB.ok I.hok;have hl:=r.length;have hl2:=r2.length;refine PySem.P.add_list e e2 ?_ (by rw[Ml,Ml];lia);have ea:its.toArray++its2.toArray=(its++its2).toArray:=by simp
 rw[ea];exact⟨.ref _,_,I.Gm (t':=s.toks) (r.append r2) (by rw[MA];lia),rfl,q _ I.fresh⟩
theorem B_:OpR X (binaryOp .Mult) zc:=by
 intro mW s σ H x y v u Q I rx ry h;obtain⟨l,k,xs,rfl,rfl,hH,h1,h2,hz,q⟩:=h;cases rx;obtain⟨t,rfl⟩:=ry;obtain⟨z,its,n,r,e⟩:=hH.ok I.hok;have hl:=r.length;have uH:its.toArray.size*k.toNat<=sizeLine:=by rw[Ml,<- hl];exact hz
 have hcap:¬its.toArray.size*k.toNat>(2 ^ 63-1) / 8:=by
  have:(sizeLine:Nat)<=(2 ^ 63-1) / 8:=by decide
  lia
 have hfit:¬(!Builtin.List.listFitsIndex k)=true:=by rw[fitsIndex_both h1 h2];exact MG
 have Jx:¬N1 (its.toArray.size*k.toNat)=true:=by rw[qk uH];exact MG
 have hnew:Pq (fun x1 x2=>x1++x2) #[] (Mk (if its.toArray.isEmpty=true then 0 else k.toNat) its.toArray)=(Mk k.toNat its).flatten.toArray:=by
  have f0:∀m:Nat,Pq (fun x1 x2=>x1++x2) #[] (Mk m its.toArray)=(Mk m its).flatten.toArray:=fun m=>by have:=foldl_rep its m [];rw[Of]at this;exact this
  rw[f0];cases its with
  |nil=>simp
  |cons a r'=>rw[if_neg (by simp)]
 refine wpAny_binaryOp_repeat_ref (T := "list") (U := "int") (by decide) ⟨_,e,rfl⟩ (fun s'=>typeIs_int s' k t) noFill_list_mul F.fills_int_mul F.slot_int_rmul repeat_list F.slot_int_index.lookup
  (call_meets F.slot_int_rmul (typeIs_int s k t) F.entry_int_rmul (F.args_int_rmul_2 _ _) (int___rmul___int_list k t l its.toArray n)
   ⟨e,rfl,⟨_,e,rfl⟩,call_meets F.slot_list_mul ⟨_,e,rfl⟩ F.entry_list_mul (F.args_list_mul_2 _ _) (AutoListH.list___mul___list_int_3 l its.toArray n k t hfit hcap Jx) ⟨e,?_⟩⟩)
 rw[hnew];exact⟨.ref _,_,I.Gm (t':=s.toks) (r.rep k.toNat) (by rw[len_rep,Nat.mul_comm];exact hz),rfl,q _ I.fresh⟩
theorem Ca:OpR X (binaryOp .Add) (fun x y H Q=>rI0 (fun i j=>.int (i+j)) x y H Q\/zb x y H Q):=FZ.or B9
theorem Cb:OpR X (binaryOp .Mult) (fun x y H Q=>rI yl (fun i j=>.int (i*j)) x y H Q\/zc x y H Q):=F3.or B_
end
theorem GL:OpD (fun x y H Q=>rI0 (fun i j=>.int (i+j)) x y H Q\/zb x y H Q) Dm.bu:=by
 intro H0 H x y dx dy z Q s rx ry e k;unfold Dm.bu at e;split at e
 ·cases e;cases ay rx;cases ay ry;exact .inl ⟨_,_,rfl,rfl,k _ H0 H (aI.refl s) (.int _)⟩
 ·split at e
  ·rename_i hz;cases e;obtain⟨a,us,rfl,qa,ra⟩:=br s rx;obtain⟨b,ws,rfl,qb,rb⟩:=br s ry;refine .inr ⟨a,b,us,ws,rfl,rfl,qa,qb,by rw[ra.length,rb.length];exact jQ hz,fun p hp=>?_⟩;exact k _ _ _ (aI.jJ s hp) ⟨p,rfl,hp,s.free hp,_,au,ra.append rb⟩
  ·cases e
 ·cases e
theorem GN:OpD (fun x y H Q=>rI yl (fun i j=>.int (i*j)) x y H Q\/zc x y H Q) Dm.fD:=by
 intro H0 H x y dx dy z Q s rx ry e k;unfold Dm.fD at e;split at e
 ·split at e
  ·rename_i hj;cases e;cases ay rx;cases ay ry;exact .inl ⟨_,_,rfl,rfl,hj,k _ H0 H (aI.refl s) (.int _)⟩
  ·cases e
 ·split at e
  ·rename_i hz;cases e;cases ay ry;obtain⟨a,us,rfl,qa,ra⟩:=br s rx;obtain⟨h1,h2,h3⟩:=hz;unfold Dm.BIG at h1 h2;refine .inr ⟨a,_,us,rfl,rfl,qa,by lia,by lia,by rw[ra.length];exact jQ h3,fun p hp=>?_⟩;exact k _ _ _ (aI.jJ s hp) ⟨p,rfl,hp,s.free hp,_,au,ra.rep _⟩
  ·cases e
 ·cases e
theorem Ep:OpD (B7 false) Dm.gEq:=by
 intro H0 H x y dx dy z Q s rx ry e k;unfold Dm.gEq at e;split at e
 ·rename_i hk;rw[MD]at hk;cases e;exact⟨dx,dy,rx.full s,ry.full s,hk.1,hk.2,k _ H0 H (aI.refl s) (.bl _)⟩
 ·cases e
theorem Er:OpD (B7 true) Dm.gNe:=by
 intro H0 H x y dx dy z Q s rx ry e k;unfold Dm.gNe at e;split at e
 ·rename_i hk;rw[MD]at hk;cases e;exact⟨dx,dy,rx.full s,ry.full s,hk.1,hk.2,k _ H0 H (aI.refl s) (.bl _)⟩
 ·cases e
theorem Es:OpD (B8 false) Dm.gIn:=by
 intro H0 H x y dx dy z Q s rx ry e k;unfold Dm.gIn at e;split at e
 ·split at e
  ·rename_i hk;rw[MD]at hk;cases e;exact⟨dx,_,rx.full s,.inl (ry.full s),hk.1,hk.2,k _ H0 H (aI.refl s) (.bl _)⟩
  ·cases e
 ·split at e
  ·rename_i hk;rw[MD]at hk;cases e;exact⟨dx,_,rx.full s,.inr (ry.full s),hk.1,hk.2,k _ H0 H (aI.refl s) (.bl _)⟩
  ·cases e
 ·cases e
theorem zd:OpD (B8 true) Dm.b4:=by
 intro H0 H x y dx dy z Q s rx ry e k;unfold Dm.b4 at e;split at e
 ·split at e
  ·rename_i hk;rw[MD]at hk;cases e;exact⟨dx,_,rx.full s,.inl (ry.full s),hk.1,hk.2,k _ H0 H (aI.refl s) (.bl _)⟩
  ·cases e
 ·split at e
  ·rename_i hk;rw[MD]at hk;cases e;exact⟨dx,_,rx.full s,.inr (ry.full s),hk.1,hk.2,k _ H0 H (aI.refl s) (.bl _)⟩
  ·cases e
 ·cases e
theorem vE{H0:Hp}{xs:List V}{ds:List Dat}{i:Int}{d:Dat}(rs:av H0 xs ds)(e:Dm.atI ds i=some d):∃v,L2.atI xs i=some v/\Rep H0 v d:=by
 unfold Dm.atI at e;cases q:Dm.ixN ds.length i with
 |none=>rw[q]at e;cases e
 |some j=>rw[q]at e;obtain⟨v,hv,r⟩:=rs.get (i:=j) e;refine⟨v,?_,r⟩;unfold L2.atI;rw[rs.length];have q':L2.ixN ds.length i=some j:=q;rw[q'];exact hv
theorem Jy{K:Dp}:OpD (fun x y H Q=>Gg K x y H Q\/IZ K x y H Q) Dm.gIx:=by
 intro H0 H x y dx dy z Q s rx ry e k;unfold Dm.gIx at e;split at e
 ·rename_i ds i;cases q:Dm.atI ds i with
  |none=>rw[q]at e;cases e
  |some d=>rw[q]at e;cases e;cases ay ry;obtain⟨a,us,rfl,qa,ra⟩:=br s rx;obtain⟨v,hv,rv⟩:=vE ra q;exact .inl ⟨a,us,i,v,rfl,rfl,.inl qa,hv,k _ H0 H (aI.refl s) rv⟩
 ·rename_i ds i;cases q:Dm.atI ds i with
  |none=>rw[q]at e;cases e
  |some d=>rw[q]at e;cases e;cases ay ry;obtain⟨a,us,rfl,qa,ra⟩:=dI s rx;obtain⟨v,hv,rv⟩:=vE ra q;exact .inr ⟨a,us,i,v,rfl,rfl,.inl (.inl qa),hv,k _ H0 H (aI.refl s) rv⟩
 ·cases e
theorem GO{K:Dp}:CallD (fun xs H Q=>∃p ys,xs=[.ref p]/\(SqL K H p ys\/SqT K H p ys)/\Q (.int ys.length) H) Dm.dG:=by
 intro H0 H vs ds z Q s rs e k;unfold Dm.dG at e;split at e
 ·cases e;cases rs with
  |cons r rr=>cases rr;obtain⟨a,us,rfl,qa,ra⟩:=br s r;exact⟨a,us,rfl,.inl (.inl qa),k _ H0 H (aI.refl s) (by rw[ra.length];exact .int _)⟩
 ·cases e;cases rs with
  |cons r rr=>cases rr;obtain⟨a,us,rfl,qa,ra⟩:=dI s r;exact⟨a,us,rfl,.inr (.inl (.inl qa)),k _ H0 H (aI.refl s) (by rw[ra.length];exact .int _)⟩
 ·cases e
theorem Cc:CallD (fun xs H Q=>∃i j,xs=[.int i,.int j]/\Q (.int (if j<i then j else i)) H) Dm.nq:=by
 intro H0 H vs ds z Q s rs e k;unfold Dm.nq at e;split at e
 ·cases e;cases rs with
  |cons r rr=>
   cases rr with
   |cons r' rr=>cases rr;cases ay r;cases ay r';exact⟨_,_,rfl,k _ H0 H (aI.refl s) (.int _)⟩
 ·cases e
theorem Cd:CallD (fun xs H Q=>∃i j,xs=[.int i,.int j]/\Q (.int (if j>i then j else i)) H) Dm.nt:=by
 intro H0 H vs ds z Q s rs e k;unfold Dm.nt at e;split at e
 ·cases e;cases rs with
  |cons r rr=>
   cases rr with
   |cons r' rr=>cases rr;cases ay r;cases ay r';exact⟨_,_,rfl,k _ H0 H (aI.refl s) (.int _)⟩
 ·cases e
theorem Ce{K:Dp}:CallD (fun xs H Q=>∃p ys,xs=[.ref p]/\(SqL K H p ys\/SqT K H p ys)/\∀l,H l=none->Q (.ref l) (upd H l (.lst ys))) Dm.ki:=by
 intro H0 H vs ds z Q s rs e k;unfold Dm.ki at e;split at e
 ·cases e;cases rs with
  |cons r rr=>cases rr;obtain⟨a,us,rfl,qa,ra⟩:=br s r;exact⟨a,us,rfl,.inl (.inl qa),fun p hp=>k _ _ _ (aI.jJ s hp) ⟨p,rfl,hp,s.free hp,_,au,ra⟩⟩
 ·cases e;cases rs with
  |cons r rr=>cases rr;obtain⟨a,us,rfl,qa,ra⟩:=dI s r;exact⟨a,us,rfl,.inr (.inl (.inl qa)),fun p hp=>k _ _ _ (aI.jJ s hp) ⟨p,rfl,hp,s.free hp,_,au,ra⟩⟩
 ·cases e
theorem ze{K:Dp}:CallD (fun xs H Q=>∃p ys,xs=[.ref p]/\((SqL K H p ys/\∀l,H l=none->Q (.ref l) (upd H l (.tup ys)))\/(SqT K H p ys/\Q (.ref p) H))) Dm.i8:=by
 intro H0 H vs ds z Q s rs e k;unfold Dm.i8 at e;split at e
 ·cases e;cases rs with
  |cons r rr=>cases rr;obtain⟨a,us,rfl,qa,ra⟩:=br s r;refine⟨a,us,rfl,.inl ⟨.inl qa,fun p hp=>?_⟩⟩;have g:=aI.B3 (o:=HO.tup us) s hp;exact k _ _ _ g (.tup au (ra.mono g.s0))
 ·cases e;cases rs with
  |cons r rr=>
   cases rr;rcases r with r | ⟨a,_,w⟩
   ·cases r with
    |tup q rs=>exact⟨_,_,rfl,.inr ⟨.inl (.inl (s _ _ q)),k _ H0 H (aI.refl s) (.tup q rs)⟩⟩
   ·exact MZ w
 ·cases e
noncomputable abbrev DS(X:Cx)(st:Stmt)(f:FS):Prop:=PS X st (tDS f)
noncomputable abbrev DSs(X:Cx)(st:List Stmt)(f:FS):Prop:=PSs X st (tDS f)
noncomputable abbrev DI(X:Cx)(tg it:Expr)(f:Dm.FI):Prop:=PI X tg it (tDI f)
theorem PI.weak{X:Cx}{tg it:Expr}{t t':TI}(h:PI X tg it t)(k:∀σ H R,t' σ H R->t σ H R):PI X tg it t':=fun mW s σ H R I q=>h mW s σ H R I (k σ H R q)
section
variable{X:Cx}{a b c e:Expr}{fa fb fc f:FE}{pos:Pos}
section
variable{g:Dat->Dat->Option RV}{mX:List Expr}{k:Nat}{r:List V->Hp->VK->Prop}{x:Str}
theorem d_v(i:Nat)(hN:X.N[i]?=some x:=by rfl)(hv:Vis X.env.scope x:=by trivial)(hd:(x == ("__debug__" : Str))=false:=by decide)
  (Fp:(x == ("__classdict__" : Str))=false:=by decide):DE X (.Name x pos) (Dm.eV i):=PE.weak (c_ hN hv hd Fp) fun _ _ _=>Jc
theorem d_i{i:Int}{j}:DE X (.Constant (.int i) j pos) (Dm.eC (.int i)):=PE.weak Fv fun _ _ _=>jP fun _=>.int i
theorem d_b{v:Bool}{j}:DE X (.Constant (.bool v) j pos) (Dm.eC (.bl v)):=PE.weak II fun _ _ _=>jP fun _=>.bl v
theorem d_n{j}:DE X (.Constant .none j pos) (Dm.eC .non):=PE.weak Fw fun _ _ _=>jP fun _=>.non
theorem o4{op:Operator}{r:R2}(o:OpR X (binaryOp op) r)(od:OpD r g)(ha:DE X a fa)(hb:DE X b fb):DE X (.BinOp a op b pos) (Dm.e2 g fa fb):=
 PE.weak (IT o ha hb) fun _ _ _=>oV od
theorem bF(ha:DE X a fa)(hb:DE X b fb):DE X (.BinOp a .Add b pos) (Dm.e2 Dm.bu fa fb):=o4 Ca GL ha hb
theorem qx(ha:DE X a fa)(hb:DE X b fb):DE X (.BinOp a .Sub b pos) (Dm.e2 Dm.jF fa fb):=o4 F2 GF ha hb
theorem gk(ha:DE X a fa)(hb:DE X b fb):DE X (.BinOp a .Mult b pos) (Dm.e2 Dm.fD fa fb):=o4 Cb GN ha hb
theorem Et(ha:DE X a fa)(hb:DE X b fb):DE X (.BinOp a .FloorDiv b pos) (Dm.e2 Dm.tS fa fb):=o4 za GJ ha hb
theorem kB(ha:DE X a fa)(hb:DE X b fb):DE X (.BinOp a .Mod b pos) (Dm.e2 Dm.jI fa fb):=o4 F4 GG ha hb
theorem Eu(ha:DE X a fa)(hb:DE X b fb):DE X (.BinOp a .Pow b pos) (Dm.e2 Dm.tT fa fb):=o4 F5 GH ha hb
theorem Ew(ha:DE X a fa)(hb:DE X b fb):DE X (.BinOp a .RShift b pos) (Dm.e2 Dm.tU fa fb):=o4 F7 GI ha hb
theorem zf(ha:DE X a fa)(hb:DE X b fb):DE X (.BinOp a .BitAnd b pos) (Dm.e2 Dm.xw fa fb):=o4 F8 GK ha hb
theorem qy{op:CmpOp}{r:R2}(o:OpR X (compareOp op) r)(od:OpD r g)(ha:DE X a fa)(hb:DE X b fb)(hm:behindInMarks op b=false):DE X (.Compare a [op] [b] pos) (Dm.e2 g fa fb):=
 PE.weak (BL o ha hb hm) fun _ _ _=>oV od
theorem kC{op:CmpOp}{r:R2}(o:OpR X (compareOp op) r)(od:OpD r g)(ha:DE X a fa)(hb:DE X b fb)(hm:behindInMarks op b=false):DT X (.Compare a [op] [b] pos) (Dm.tV (Dm.e2 g fa fb)):=
 PT.weak (BN o ha hb hm) fun σ H Q h=>oV od (kq h)
theorem Jz(hr:aZ k X.A)(ha:DE X a fa)(hb:DE X b fb):DE X (.Compare a [.Eq] [b] pos) (Dm.e2 Dm.gEq fa fb):=qy (yZ hr) Ep ha hb (dY _)
theorem Lw(hr:aZ k X.A)(ha:DE X a fa)(hb:DE X b fb):DE X (.Compare a [.NotEq] [b] pos) (Dm.e2 Dm.gNe fa fb):=qy (y9 hr) Er ha hb (dY _)
theorem Lx(ha:DE X a fa)(hb:DE X b fb):DE X (.Compare a [.Lt] [b] pos) (Dm.e2 Dm.gLt fa fb):=qy Ed Em ha hb (dY _)
theorem Gr(hr:aZ k X.A)(ha:DE X a fa)(hb:DE X b fb)(hm:behindInMarks .In b=false:=by rfl):DE X (.Compare a [.In] [b] pos) (Dm.e2 Dm.gIn fa fb):=qy (y_ hr) Es ha hb hm
theorem mT(hr:aZ k X.A)(ha:DE X a fa)(hb:DE X b fb):DT X (.Compare a [.Eq] [b] pos) (Dm.tV (Dm.e2 Dm.gEq fa fb)):=kC (yZ hr) Ep ha hb (dY _)
theorem qz(hr:aZ k X.A)(ha:DE X a fa)(hb:DE X b fb):DT X (.Compare a [.NotEq] [b] pos) (Dm.tV (Dm.e2 Dm.gNe fa fb)):=kC (y9 hr) Er ha hb (dY _)
theorem zg(ha:DE X a fa)(hb:DE X b fb):DT X (.Compare a [.Lt] [b] pos) (Dm.tV (Dm.e2 Dm.gLt fa fb)):=kC Ed Em ha hb (dY _)
theorem JA(ha:DE X a fa)(hb:DE X b fb):DT X (.Compare a [.Gt] [b] pos) (Dm.tV (Dm.e2 Dm.gGt fa fb)):=kC IU Jv ha hb (dY _)
theorem JB(ha:DE X a fa)(hb:DE X b fb):DT X (.Compare a [.GtE] [b] pos) (Dm.tV (Dm.e2 Dm.gGe fa fb)):=kC IV Jw ha hb (dY _)
theorem Cf(hr:aZ k X.A)(ha:DE X a fa)(hb:DE X b fb)(hm:behindInMarks .In b=false:=by rfl):DT X (.Compare a [.In] [b] pos) (Dm.tV (Dm.e2 Dm.gIn fa fb)):=kC (y_ hr) Es ha hb hm
theorem nB(hr:aZ k X.A)(ha:DE X a fa)(hb:DE X b fb)(hm:behindInMarks .NotIn b=false:=by rfl):DT X (.Compare a [.NotIn] [b] pos) (Dm.tV (Dm.e2 Dm.b4 fa fb)):=kC (xC hr) zd ha hb hm
theorem aY(ha:DE X a fa)(hb:DE X b fb)(hs:oN b:=by intro _ _;rfl):DE X (.Subscript a b pos) (Dm.e2 Dm.gIx fa fb):=PE.weak (Eh (vm.or Gh) ha hb hs) fun _ _ _=>oV Jy
theorem af:DA X [] []:=PA.weak oJ fun _ _ _=>Jd
theorem aa{es:List Expr}{fs:List FE}(h:DE X e f)(r:DA X es fs)(hs:starEach (e::es) X.env=(false,eval e X.env)::starEach es X.env:=by rfl):DA X (e::es) (f::fs):=PA.weak (oK h r hs) fun _ _ _=>Gv
theorem eZ{es:List Expr}{fs:List FE}{x1}(h:DA X es fs):DE X (.Tuple es x1 pos) (Dm.cN fs):=PE.weak (Gb h) fun _ _ _=>Je
theorem cC{es:List Expr}{fs:List FE}(h:DA X es fs):DE X (.List es pos) (Dm.dg fs):=PE.weak (tK h) fun _ _ _=>Jf
theorem xD{es:List Expr}{fs:List FE}{g:List Dat->Option RV}{id:String}{p:Pos}(hc:cz X (.builtin id) r)(cd:CallD r g)(hv:bootBuiltins x=some (.builtin id))(hg:Gl X x)(hm:X.mg x=none)(ha:DA X (e::es) fs)
  (hn:x ≠ "__name__" := by decide) (J8:(x == ("__debug__" : Str))=false:=by decide) (he:starEach (e::es) X.env=(false,eval e X.env)::starEach es X.env:=by rfl) (CP:(backTo pos (starEach es X.env)).any (·.1)=false:=by rfl) :
  DE X (.Call (.Name x p) (e::es) [] pos) (Dm.eB g fs):=PE.weak (qi hc hg hm hv ha hn J8 he CP) fun _ _ _=>Gw cd
theorem zh{es:List Expr}{fs:List FE}{g:List Dat->Option RV}{T:String}{p:Pos}(hc:cz X (.type T) r)(cd:CallD r g)(hv:bootBuiltins x=some (.type T))(hg:Gl X x)(hm:X.mg x=none)(ha:DA X (e::es) fs)
  (hn:x ≠ "__name__" := by decide) (J8:(x == ("__debug__" : Str))=false:=by decide) (he:starEach (e::es) X.env=(false,eval e X.env)::starEach es X.env:=by rfl) (CP:(backTo pos (starEach es X.env)).any (·.1)=false:=by rfl) :
  DE X (.Call (.Name x p) (e::es) [] pos) (Dm.eB g fs):=PE.weak (xg hc hg hm hv ha hn J8 he CP) fun _ _ _=>Gw cd
variable{es:List Expr}{fs:List FE}{p:Pos}
theorem dJ(hg:Gl X "len")(hm:X.mg "len" = none)(ha:DA X [e] fs)(he:starEach [e] X.env=[(false,eval e X.env)]:=by rfl)(CP:(backTo pos (starEach [] X.env)).any (·.1)=false:=by rfl):DE X (.Call (.Name "len" p) [e] [] pos) (Dm.eB Dm.dG fs):=xD oQ GO PySem.boot_len hg hm ha (he:=he) (CP:=CP)
theorem zj(hc:X.calm=true)(hg:Gl X "min")(hm:X.mg "min" = none)(ha:DA X [a,b] fs)(he:starEach [a,b] X.env=(false,eval a X.env)::starEach [b] X.env:=by rfl)(CP:(backTo pos (starEach [b] X.env)).any (·.1)=false:=by rfl):DE X (.Call (.Name "min" p) [a,b] [] pos) (Dm.eB Dm.nq fs):=xD (wV hc) Cc (by rfl) hg hm ha (he:=he) (CP:=CP)
theorem zk(hc:X.calm=true)(hg:Gl X "max")(hm:X.mg "max" = none)(ha:DA X [a,b] fs)(he:starEach [a,b] X.env=(false,eval a X.env)::starEach [b] X.env:=by rfl)(CP:(backTo pos (starEach [b] X.env)).any (·.1)=false:=by rfl):DE X (.Call (.Name "max" p) [a,b] [] pos) (Dm.eB Dm.nt fs):=xD (wU hc) Cd (by rfl) hg hm ha (he:=he) (CP:=CP)
theorem zl(hg:Gl X "list")(hm:X.mg "list" = none)(ha:DA X [e] fs)(he:starEach [e] X.env=[(false,eval e X.env)]:=by rfl)(CP:(backTo pos (starEach [] X.env)).any (·.1)=false:=by rfl):DE X (.Call (.Name "list" p) [e] [] pos) (Dm.eB Dm.ki fs):=zh oR Ce (by rfl) hg hm ha (he:=he) (CP:=CP)
theorem Cg(hg:Gl X "tuple")(hm:X.mg "tuple" = none)(ha:DA X [e] fs)(he:starEach [e] X.env=[(false,eval e X.env)]:=by rfl)(CP:(backTo pos (starEach [] X.env)).any (·.1)=false:=by rfl):DE X (.Call (.Name "tuple" p) [e] [] pos) (Dm.eB Dm.i8 fs):=zh mQ ze (by rfl) hg hm ha (he:=he) (CP:=CP)
theorem aM{F:Addr}{fd:FuncData}{ps:List Str}{g:List Dat->Option RV}(G:aV X.prog X.w X.K X.mg X.base CX0 k F fd ps (spD g))(hr:aZ k X.A)(hg:Gl X x)(hm:X.mg x=some (.ref F))(hk:Nu X.K (.ref F)=true)(hb:Binds X.K fd ps [])
  (ha:DA X (e::es) fs) (J8:(x == ("__debug__" : Str))=false:=by decide) (he:starEach (e::es) X.env=(false,eval e X.env)::starEach es X.env:=by rfl) (CP:(backTo pos (starEach es X.env)).any (·.1)=false:=by rfl) :
  DE X (.Call (.Name x p) (e::es) [] pos) (Dm.eF g fs):=PE.weak (jN G hr hg hm hk hb .nil (qo (X:=X)) ha J8 he CP) fun _ _ _=>yT
theorem Ly{t:FT}{q:Expr}(hq:DT X q t)(ha:DE X a fa)(hb:DE X b fb):DE X (.IfExp q a b pos) (Dm.eIf t fa fb):=PE.weak (ya hq ha hb) fun _ _ _=>Lk
theorem qA{op}(h:DE X a fa):DE X (.BoolOp op [a] pos) fa:=Fz h
theorem qB(ha:DE X a fa)(hb:DE X (.BoolOp .And (b::mX) pos) fb):DE X (.BoolOp .And (a::b::mX) pos) (Dm.jH fa fb):=PE.weak (FA ha hb) fun _ _ _=>Jg
theorem Lz(ha:DE X a fa)(hb:DE X (.BoolOp .Or (b::mX) pos) fb):DE X (.BoolOp .Or (a::b::mX) pos) (Dm.eOr fa fb):=PE.weak (IL ha hb) fun _ _ _=>Ll
theorem JC(ha:DE X a fa):DE X (.UnaryOp .Not a pos) (Dm.xr fa):=PE.weak (FD ha) fun _ _ _=>Jh
noncomputable abbrev DW(X:Cx)(e:Expr)(f:FT):Prop:=PW X e (tDT f)
theorem PW.weak{t t':TT}(h:PW X e t)(k:∀σ H Q,t' σ H Q->t σ H Q):PW X e t':=fun whole mW s σ H Q I q=>h whole mW s σ H Q I (k σ H Q q)
variable{ta tb:FT}
theorem fH(h:DT X a ta):DW X (.BoolOp .And [a] pos) ta:=pw_and1 h
theorem Ex(h:DT X a ta):DW X (.BoolOp .Or [a] pos) ta:=pw_or1 h
theorem w_and(ha:DT X a ta)(hb:DW X (.BoolOp .And (b::mX) pos) tb):DW X (.BoolOp .And (a::b::mX) pos) (Dm.ff ta tb):=PW.weak (pw_and ha hb) fun _ _ _=>Gy
theorem w_or(ha:DT X a ta)(hb:DW X (.BoolOp .Or (b::mX) pos) tb):DW X (.BoolOp .Or (a::b::mX) pos) (Dm.tOr ta tb):=PW.weak (pw_or ha hb) fun _ _ _=>Ji
theorem t_w(h:DW X a ta):DT X a ta:=h.pt
theorem zm(h:DT X a ta):DT X (.UnaryOp .Not a pos) (Dm.jZ ta):=PT.weak (Fy h) fun _ _ _=>Gx
theorem vF(h:DE X e f)(he:∀whole,isTrue e X.env whole=(do let v <- whole;standAt e.pos;holding [v] (truthy v)):=by intro _;rfl):DT X e (Dm.tV f):=PT.weak (Fx h he) fun _ _ _=>kq
variable{tg:Expr}
theorem jK(hg:Gl X "range")(hm:X.mg "range" = none)(ha:DA X [a] [fa])(hs:starEach [a] X.env=[(false,eval a X.env)]:=by rfl):DI X tg (.Call (.Name "range" p) [a] [] pos) (Dm.iR1 fa):=
 PI.weak (wO hg hm ha hs) fun _ _ _=>Jr
theorem LA(hg:Gl X "range")(hm:X.mg "range" = none)(ha:DA X [a,b] [fa,fb])(hs:starEach [a,b] X.env=[(false,eval a X.env),(false,eval b X.env)]:=by rfl)(hs2:starEach [b] X.env=[(false,eval b X.env)]:=by rfl):DI X tg (.Call (.Name "range" p) [a,b] [] pos) (Dm.iR2 fa fb):=
 PI.weak (wQ hg hm ha hs hs2) fun _ _ _=>Js
end
end
section
variable{X:Cx}{st:Stmt}{mX:List Stmt}{fs gs:FS}{e a b c:Expr}{f fa fb:FE}{pos:Pos}
section
variable{is:List Nat}{x:Str}{body:List Stmt}{es:List Expr}{t:FT}
theorem cD:DSs X [] Dm.sNx:=PSs.weak BH fun _ _ _=>Lm
theorem ai(h1:DS X st fs)(h2:DSs X mX gs):DSs X (st::mX) (Dm.aA fs gs):=PSs.weak (dD h1 h2) fun _ _ _=>Jk
theorem aB(h1:DS X st fs):DSs X [st] fs:=u_ h1
theorem s_a(i:Nat){pos':Pos}(hN:X.N.Nodup)(he:DE X e f)(hi:X.N[i]?=some x:=by rfl)(hx:Loc X.env.scope x:=by trivial)(hs:swapsWith e (some (.Name x pos')) pos.line X.env=pure false:=by rfl)
  (hf:X.fn x=true\/X.env.scope.names.lookup x=some .local:=by trivial):DS X (.Assign [.Name x pos'] e pos) (Dm.sA i f):=PS.weak (FQ hN hi hx he hs hf) fun _ _ _=>yU
theorem kD:PGs X [] (gB []):=BI
theorem bP(i:Nat){px:Pos}(hN:X.N.Nodup)(h2:PGs X es (gB is))(hi:X.N[i]?=some x:=by rfl)(hx:Loc X.env.scope x:=by trivial)
  (hf:X.fn x=true\/X.env.scope.names.lookup x=some .local:=by trivial) (hs:(assignEach (.Name x px::es) X.env).map (·.2)=assign (.Name x px) X.env::(assignEach es X.env).map (·.2):=by rfl):PGs X (.Name x px::es) (gB (i::is)):=yd (oH hN hi hx hf) h2 hs
theorem s_e(he:DE X e f)(hs:swapsWith e none pos.line X.env=pure false:=by rfl):DS X (.Expr e pos) (Dm.sE f):=PS.weak (jM he hs) fun _ _ _=>Gz
theorem s_r(he:DE X e f):DS X (.Return (some e) pos) (Dm.sR f):=PS.weak (FF he) fun _ _ _=>Jl
theorem fJ{x y:List Stmt}(ht:DT X c t)(ha:DSs X x fs)(hb:DSs X y gs):DS X (.If c x y pos) (Dm.sIf t fs gs):=PS.weak (D_ ht ha hb) fun _ _ _=>Jm
theorem vG:DS X st (fun _=>none):=PS.weak yc fun _ _ _ ⟨_,_,_,_,z,_⟩=>by cases z
theorem qC(i:Nat){px ap cp:Pos}(he:DE X e f)(hi:X.N[i]?=some x:=by rfl)(hv:Vis X.env.scope x:=by trivial)(hd:(x == ("__debug__" : Str))=false:=by decide)
  (Fp:(x == ("__classdict__" : Str))=false:=by decide) (J7:attributeBase (.Name x px) "append" X.env (eval (.Name x px) X.env)=eval (.Name x px) X.env:=by rfl)
  (hfew:((backTo cp (starEach [e] X.env)).all (fun x=>!x.1)&&(backToKw cp (keywordEach [] X.env)).all (fun x=>x.1.isSome)
   && decide ([e].length+([]:List Keyword).length+(if ([]:List Keyword).isEmpty then 0 else 1)<30))=true:=by rfl)
  (J6:(ap.endLine == cp.line)=true:=by rfl) (hs:starEach [e] X.env=(false,eval e X.env)::starEach [] X.env:=by rfl) (EF:(backTo cp (starEach [] X.env)).any (·.1)=false:=by rfl)
  (hsw:swapsWith (.Call (.Attribute (.Name x px) "append" ap) [e] [] cp) none pos.line X.env=pure false:=by rfl) :
  DS X (.Expr (.Call (.Attribute (.Name x px) "append" ap) [e] [] cp) pos) (Dm.mR i f):=
 PS.weak (jM (vn N4 PySem.F.slot_list_append PySem.F.type_list_append iZ (c_ hi hv hd Fp) (aa he af hs) J7 hfew J6 hs EF) hsw) fun _ _ _=>Jo
theorem JD(i:Nat){j:Expr}{fj:FE}{px sp:Pos}(hj:DE X j fj)(he:DE X e f)(hi:X.N[i]?=some x:=by rfl)(hv:Vis X.env.scope x:=by trivial)(hd:(x == ("__debug__" : Str))=false:=by decide)
  (Fp:(x == ("__classdict__" : Str))=false:=by decide) (ha:∀ v,assign (.Subscript (.Name x px) j sp) X.env v=(do
   let ov <- holding [v] (eval (.Name x px) X.env)
   let iv <- holding [v,ov] (eval j X.env)
   standAt sp
   holding [v,ov,iv] (setItem ov iv v)
   release [v,ov,iv] []):=by intro _;rfl)
  (hs:swapsWithSole [.Subscript (.Name x px) j sp] e pos.line X.env=pure false:=by rfl) (hw:swappedStores [.Subscript (.Name x px) j sp] e X.env=pure none:=by rfl) (h1:(assignEach [.Subscript (.Name x px) j sp] X.env).map (·.2)=[assign (.Subscript (.Name x px) j sp) X.env]:=by rfl) :
  DS X (.Assign [.Subscript (.Name x px) j sp] e pos) (Dm.xu i fj f):=PS.weak (FP he (FO (c_ hi hv hd Fp) hj set_list ha) hs hw h1) fun _ _ _=>Jp
theorem GP(n:Nat)(hp:PassesOwn (model X.prog X.w) X.A X.env X.xe)(ht:DT X c t)(hb:DSs X body fs):DS X (.While c body [] pos) (Dm.whD t fs n):=PS.weak (yf hp ht hb) fun _ _ _=>B4
structure TG'(X:Cx)(tg:Expr)(is:List Nat)(bd:Dm.FB):Prop where
 ex:∃g,PG X tg g/\BD is g bd
theorem g_n(i:Nat){px:Pos}(hN:X.N.Nodup)(hi:X.N[i]?=some x:=by rfl)(hx:Loc X.env.scope x:=by trivial)(hf:X.fn x=true\/X.env.scope.names.lookup x=some .local:=by trivial) :
  TG' X (.Name x px) [i] (Dm.bN i):=⟨⟨_,oH hN hi hx hf,vA i⟩⟩
theorem g_t{k:Nat}{tpos:Pos}(hc:X.calm=true)(hg:PGs X es (gB is))(hn:(assignEach es X.env).length=is.length:=by rfl)(hst:(assignEach es X.env).findIdx? (·.1)=none:=by rfl):TG' X (.Tuple es k tpos) is (Dm.bT is):=
 ⟨⟨_,FL hc hg hn hst,GA is rfl⟩⟩
theorem cV{tg it:Expr}{fi:Dm.FI}{bd:Dm.FB}(hp:PassesOwn (model X.prog X.w) X.A X.env X.xe)(hc:X.calm=true)(hi:DI X tg it fi)(hg:TG' X tg is bd)(hb:DSs X body fs)
  (hs:∀x,foldedSetIterable it X.env x=pure x:=by intro _;rfl):DS X (.For tg it body [] pos) (Dm.cU fi bd fs):=by
 obtain⟨g,h1,h2⟩:=hg.ex;exact PS.weak (yk hp hc hi h1 hb hs) fun _ _ _=>Jq h2
end
end
noncomputable def tyName:Dat->String
 |.non => "NoneType"
 |.bl _ => "bool"
 |.int _ => "int"
 |.str _ => "str"
 |.tup _ => "tuple"
 |.lst _ => "list"
 |.dct _ _ => "dict"
 |.dcp _ _ => "dict"
 |.exc _ => "dict"
 |.dc _ _ => "dict"
 |.fn _ => "dict"
def Ci(T:String)(p:Dat->Bool):Prop:=∀(K:Dp) (d:Dat),Pa K (.type (tyName d)) (.type T)=some (p d)
theorem Cj:Ci "int" Dm.isI:=fun K d=>by cases d<;>rfl
theorem zo:Ci "bool" Dm.isB:=fun K d=>by cases d<;>rfl
theorem zp{K:Dp}{H:Hp}{v:V}{d:Dat}(r:Rep H v d)(nx:∀C,d≠.exc C/\d≠.fn C/\∀v,d≠.dc C v):iD K H v (.type (tyName d)):=by
 cases r with
 |non=>exact .non
 |bl b=>exact .bl b
 |int i=>exact .int i
 |str s=>exact .str _
 |tup q _=>exact .tup q
 |lst q _=>
  rcases q with q | ⟨o,q⟩
  ·exact .lst q
  ·exact .frz q
 |dct q _ _=>exact .dK q
 |dcp q _ _=>exact .dT q
 |exc _=>exact absurd rfl (nx _).1
 |dc _ _=>exact absurd rfl ((nx _).2.2 _)
 |fn _=>exact absurd rfl (nx _).2.1
def JE(K:Dp)(T:String):List V->Hp->VK->Prop:=fun xs H Q=>∃x t b,xs=[x,.ty T]/\iD K H x t/\Pa K t (.type T)=some b/\Q (.bl b) H
section
variable{X:Cx}{e:Expr}{f:FE}{p p2 pos:Pos}
theorem zq{T:String}:cz X (.builtin "isinstance") (JE X.K T):=by intro mW s σ H xs us Q I r h;obtain⟨x,t,b,rfl,ty,e,q⟩:=h;obtain⟨u,u2,rfl,rx,ry⟩:=vals2 r;cases ry;exact wY I rx ty e fun tk=>⟨.bl b,H,I.tok tk,rfl,q⟩
theorem JF{K:Dp}{T:String}{p:Dat->Bool}(kp:Ci T p){σ:L2.St}{H:Hp}{Q:VK}(h:tD (Dm.e1 (Dm.yQ p) f) σ H Q):tCB (JE K T) (ve (tD f) (ve (tC (.ty T)) wZ)) σ H Q:=by
 obtain⟨H0,ρ,x,ρ',st,e,k⟩:=h;unfold Dm.e1 at e;split at e
 ·cases e
 rename_i x1 ρ1 e1;split at e
 ·cases e
 rename_i dx p1;have nx:∀C,dx≠.exc C/\dx≠.fn C/\∀v,dx≠.dc C v:=fun C=>⟨fun z=>(by subst z;cases e),fun z=>(by subst z;cases e),fun v z=>(by subst z;cases e)⟩;have ev:Dm.yQ p dx=Dm.vB (p dx):=by cases dx<;>first | rfl | exact absurd rfl (nx _).1 | exact absurd rfl (nx _).2.1 | exact absurd rfl ((nx _).2.2 _)
 rw[ev]at e;dsimp only at e;cases e;refine⟨H0,ρ,x1,_,st,e1,fun v H1 Hb t1 r1=>?_⟩;exact⟨v,_,_,rfl,zp ((r1.look t1.st p1).full t1.st.same) nx,kp K dx,k _ H1 Hb t1 (Rep.bl _)⟩
theorem Ey{T:String}{tn:Str}{p':Dat->Bool}(kp:Ci T p')(hvT:bootBuiltins tn=some (.type T))(hgT:Gl X tn)(hmT:X.mg tn=none)(hg:Gl X "isinstance")(hm:X.mg "isinstance" = none)(h:DE X e f)
  (hn:tn ≠ "__name__" := by decide) (J8:(tn == ("__debug__" : Str))=false:=by decide)
  (he:starEach [e,.Name tn p2] X.env=(false,eval e X.env)::starEach [.Name tn p2] X.env:=by rfl) (CP:(backTo pos (starEach [.Name tn p2] X.env)).any (·.1)=false:=by rfl) (he2:starEach [.Name tn p2] X.env=(false,eval (.Name tn p2) X.env)::starEach [] X.env:=by rfl) :
  DE X (.Call (.Name "isinstance" p) [e,.Name tn p2] [] pos) (Dm.e1 (Dm.yQ p') f):=
 PE.weak (qi zq hg hm PyProof.Rows.boot_isinstance (oK h (oK (BG (v:=.ty T) hgT hmT hvT rfl hn J8) oJ he2) he) (he:=he) (CP:=CP)) fun _ _ _=>JF kp
end
section
variable{X:Cx}{a b c e:Expr}{f fa fb fc:FE}{p p2 pos:Pos}
section
variable{g h:Dat->Dat->Option RV}{σ:L2.St}{Q:VK}{H:Hp}
theorem Ck{r r':R2}(o1:OpD r g)(o2:OpD r' h)(hh:tD (Dm.kj g h fa fb fc) σ H Q):ym r r' (tD fa) (tD fb) (tD fc) σ H Q:=by
 obtain⟨H0,ρ,x,ρ',st,e,k⟩:=hh;unfold Dm.kj at e;split at e
 ·cases e
 rename_i x1 ρ1 e1;split at e
 ·cases e
 rename_i y1 ρ2 e2;split at e
 ·cases e
 rename_i dx p1;split at e
 ·cases e
 rename_i dy p2;refine⟨H0,ρ,x1,ρ1,st,e1,fun v H1 Hb t1 r1=>⟨H1,ρ1,y1,ρ2,t1.st,e2,fun u H2 Hc t2 r2=>?_⟩⟩;split at e
 ·rename_i gz;refine o1 H2 Hc v u dx dy _ _ t2.st.same ((r1.mono t2).look t2.st p1) (r2.look t2.st p2) gz fun w H3 Hd g3 r3=>?_;refine⟨true,Rep.mS r3,?_⟩;rw[if_pos rfl];have t3:=t2.trans (.grow t2.st g3);have r2':=r2.mono (.grow t2.st g3);split at e
  ·cases e
  rename_i z ρ3 e3;split at e
  ·cases e
  rename_i dy' p3;split at e
  ·cases e
  rename_i dz p4;split at e
  ·cases e
  rename_i w2 hz;cases e;refine⟨H3,ρ2,z,_,t3.st,e3,fun w' H4 He t4 r4=>?_⟩;refine o2 H4 He u w' dy' dz w2 Q t4.st.same ((r2'.mono t4).look t4.st p3) (r4.look t4.st p4) hz fun w5 H5 Hf g5 r5=>?_;exact k w5 H5 Hf (t1.trans (t3.trans (t4.trans (.grow t4.st g5)))) ((r5.toV t4.st).early fun a n=>(t1.trans (t3.trans t4)).stp.gone n)
 ·rename_i gz;cases e;refine o1 H2 Hc v u dx dy _ _ t2.st.same ((r1.mono t2).look t2.st p1) (r2.look t2.st p2) gz fun w H3 Hd g3 r3=>?_;refine⟨false,Rep.mS r3,?_⟩;rw[if_neg MG];exact k _ H3 Hd (t1.trans (t2.trans (.grow t2.st g3))) (Rep.bl false)
 ·cases e
theorem Cm{op op':CmpOp}{r r':R2}(o1:OpR X (compareOp op) r)(q1:OpD r g)(o2:OpR X (compareOp op') r')(q2:OpD r' h)(ha:DE X a fa)(hb:DE X b fb)(hc:DE X c fc)
  (hm:lastMarks [op,op'] [b,c]=false:=by with_unfolding_all rfl):DE X (.Compare a [op,op'] [b,c] pos) (Dm.kj g h fa fb fc):=PE.weak (yo o1 o2 ha hb hc hm) fun _ _ _=>Ck q1 q2
theorem o5(n d:Nat)(o:Option Int)(hd:d<=n):HT.sIx n d o=Dm.sIx n d o:=by
 cases o with
 |none=>rfl
 |some v=>
  unfold HT.sIx Dm.sIx
  first
   |rfl
   |(dsimp only;split<;>lia)
theorem nC{H0:Hp}{xs:List V}{ds:List Dat}(rs:av H0 xs ds)(lo hi:Option Int):av H0 (mO xs lo hi) (Dm.cut ds lo hi):=by unfold mO Dm.cut;rw[rs.length,o5 _ _ _ (M5 _),o5 _ _ _ (Mn _)];exact(rs.drop _).take _
theorem jS{fo:Option FE}{H0 H:Hp}{ρ ρ':Dm.Env}{o:Option Int}{Q:Option Int->Hp->Prop}(st:az H0 H σ ρ)(e:Dm.part fo ρ=some (o,ρ'))(k:∀H0' H',ESt σ ρ H0 H ρ' H0' H'->Q o H') :
  (match fo with | none=>oM | some f=>yu (tD f)) σ H Q:=by
 cases fo with
 |none=>cases e;exact k H0 H (.refl st)
 |some f=>
  unfold Dm.part at e;dsimp only at e;split at e
  ·rename_i i ρ1 e1;cases e;exact⟨H0,ρ,_,_,st,e1,fun v H1 Hb t1 r1=>⟨i,Rep.isInt r1,k H1 Hb t1⟩⟩
  ·cases e
noncomputable abbrev tOf(fo:Option FE):TO:=match fo with | none=>oM | some f=>yu (tD f)
theorem LB{K:Dp}{lo hi:Option FE}(h:tD (Dm.eSl f lo hi) σ H Q):tSl (I0 K) (tD f) (tOf lo) (tOf hi) σ H Q:=by
 obtain⟨H0,ρ,x,ρ',st,e,k⟩:=h;unfold Dm.eSl at e;split at e
 ·cases e
 rename_i x1 ρ1 e1;split at e
 ·cases e
 rename_i l ρ2 e2;split at e
 ·cases e
 rename_i hh ρ3 e3;split at e
 ·rename_i ds p1;cases e;refine⟨H0,ρ,x1,ρ1,st,e1,fun v H1 Hb t1 r1=>?_⟩;refine jS t1.st e2 fun H2 Hc t2=>?_;refine jS t2.st e3 fun H3 Hd t3=>?_;have tt:=t1.trans (t2.trans t3);obtain⟨a,xs,rfl,qa,ra⟩:=br t3.st.same ((r1.mono (t2.trans t3)).look t3.st p1);refine⟨a,xs,rfl,.inl qa,fun q hq=>?_⟩;have g:=aI.jJ (o:=HO.lst (mO xs l hh)) t3.st.same hq;refine k _ _ _ (tt.trans (.grow t3.st g)) ⟨q,rfl,tt.stp.gone hq,t3.st.bB hq,t3.st.same.free hq,_,au,nC ra l hh⟩
 ·cases e
theorem LC{lo hi:Option Expr}{flo fhi:Option FE}(h:DE X e f)(hl:PO X lo (tOf flo))(hh:PO X hi (tOf fhi)):DE X (.Subscript e (.Slice lo hi none p2) pos) (Dm.eSl f flo fhi):=PE.weak (qj BS h hl hh) fun _ _ _=>LB
theorem o_n:PO X none (tOf none):=BQ
theorem o_s(h:DE X e f):PO X (some e) (tOf (some f)):=BR h
end
end
section
variable{X:Cx}{nm:List Str}{Hv tg iter:Expr}{EG:List Expr}{scope:Scope}{pos:Pos}{own:List Str}{fi:Dm.FI}{bd:Dm.FB}{is:List Nat}{t:FT}{f:FE}
noncomputable abbrev DTs(X:Cx)(EG:List Expr)(t:FT):Prop:=PTs X EG (tDT t)
theorem dZ:DTs X [] Dm.bS:=fun mW s σ H Q I h=>by obtain⟨H0,ρ,b,ρ',st,e,k⟩:=h;cases e;exact oY mW s σ H Q I (k H0 H (.refl st))
theorem bR{c:Expr}(h:DT X c t):DTs X [c] t:=B6 h
structure TGc(X:Cx)(nm:List Str)(scope:Scope)(own:List Str)(tg:Expr)(is:List Nat)(bd:Dm.FB):Prop where
 ex:∃g,(∀cl C s H fp,PG (aS X nm scope own cl C s H fp) tg g)/\BD is g bd
theorem c_n(i:Nat){x:Str}{px:Pos}(hN:(nm++own).Nodup)(hi:(nm++own)[i]?=some x)(hx:(relabel scope X.env).names.lookup x=some .local):TGc X nm scope own (.Name x px) [i] (Dm.bN i):=
 ⟨⟨_,fun cl C s H fp=>oH (X:=aS X nm scope own cl C s H fp) hN hi (.inl hx) (.inr hx),vA i⟩⟩
theorem GQ(hc:X.calm=true)(S:bW X nm scope)(hi:DI X tg iter fi)(hg:TGc X nm scope own tg is bd)(ht:∀cl C s H fp,DTs (aS X nm scope own cl C s H fp) EG t)(he:∀cl C s H fp,DE (aS X nm scope own cl C s H fp) Hv f)
  (hl:∀i∈is,X.N.length<=i) (hs:∀x,foldedSetIterable iter X.env x=pure x:=by intro _;rfl):DE X (.ListComp Hv [⟨tg,iter,EG,0⟩] scope pos) (Dm.bD fi own.length bd t f):=by
 obtain⟨g,h1,h2⟩:=hg.ex;intro mW s σ H Q I h;exact vC hc S hi h1 ht he hs mW s σ H Q I (oX h2 (fun i hi=>by rw[I.len];exact hl i hi) h)
theorem GR(j:Nat){y:Str}{py ED:Pos}(hN:X.N.Nodup)(hc:X.calm=true)(S:bW X nm scope)(hi:DI X tg iter fi)(hg:TGc X nm scope own tg is bd)(ht:∀cl C s H fp,DTs (aS X nm scope own cl C s H fp) EG t)(he:∀cl C s H fp,DE (aS X nm scope own cl C s H fp) Hv f)
  (hl:∀i∈is,X.N.length<=i) (hj:X.N[j]?=some y:=by rfl) (hy:Loc X.env.scope y:=by trivial)
  (hsw:swapsWith (.ListComp Hv [⟨tg,iter,EG,0⟩] scope pos) (some (.Name y py)) ED.line X.env=pure true:=by rfl) (hs:∀x,foldedSetIterable iter X.env x=pure x:=by intro _;rfl)
  (hf:X.fn y=true\/X.env.scope.names.lookup y=some .local:=by trivial):DS X (.Assign [.Name y py] (.ListComp Hv [⟨tg,iter,EG,0⟩] scope pos) ED) (Dm.sA j (Dm.bD fi own.length bd t f)):=by
 obtain⟨g,h1,h2⟩:=hg.ex;intro mW s σ H D I h;exact cg hN hj hy hc S hi h1 ht he hsw hs hf mW s σ H D I (oX h2 (fun i hi=>by rw[I.len];exact hl i hi) (yU h))
end
theorem GS:CallD (fun xs H Q=>(∃i,xs=[.int i]/\Q (.int i) H)\/∃k,xs=[.bl k]/\Q (.int (if k then 1 else 0)) H) Dm.yR:=by
 intro H0 H vs ds z Q s rs e k;unfold Dm.yR at e;split at e
 ·cases e;cases rs with
  |cons r rr=>cases rr;cases ay r;exact .inl ⟨_,rfl,k _ H0 H (aI.refl s) (.int _)⟩
 ·cases e;cases rs with
  |cons r rr=>cases rr;cases vD r;exact .inr ⟨_,rfl,k _ H0 H (aI.refl s) (.int _)⟩
 ·cases e
section
variable{X:Cx}{a b c e:Expr}{f:FE}{fs:List FE}{p p2 pos:Pos}
theorem JG(hg:Gl X "int")(hm:X.mg "int" = none)(ha:DA X [e] fs)(he:starEach [e] X.env=[(false,eval e X.env)]:=by rfl)(CP:(backTo pos (starEach [] X.env)).any (·.1)=false:=by rfl) :
  DE X (.Call (.Name "int" p) [e] [] pos) (Dm.eB Dm.yR fs):=zh wW GS (by rfl) hg hm ha (he:=he) (CP:=CP)
end
noncomputable def b7(sc:Scope):List Str->List Str->Bool
 |[],[]=>true
 |x::N,y::nm=>(x == y||(sc.names.lookup y).isNone)&&b7 sc N nm
 |_,_=>false
theorem b7.len{sc:Scope}:∀{N nm:List Str},b7 sc N nm=true->nm.length=N.length
 |[],[],_=>rfl
 |[],_::_,h=>by cases h
 |_::_,[],h=>by cases h
 |x::N,y::nm,h=>by rw[b7,MD]at h;rw[M0,M0,b7.len h.2]
theorem b7.at{sc:Scope}:∀{N nm:List Str},b7 sc N nm=true->∀(i:Nat) (x:Str),nm[i]?=some x->N[i]?=some x\/sc.names.lookup x=none
 |[],[],_,i,x,e=>by simp at e
 |[],_::_,h,_,_,_=>by cases h
 |_::_,[],h,_,_,_=>by cases h
 |x::N,y::nm,h,0,z,e=>by
  rw[b7,MD,Bool.or_eq_true]at h;simp at e;subst e;rcases h.1 with q | q
  ·have:x=y:=by simpa using q
   subst this;exact .inl rfl
  ·exact .inr (by simpa using q)
 |x::N,y::nm,h,i+1,z,e=>by rw[b7,MD]at h;rw[NI]at e ⊢;exact b7.at h.2 i z e
noncomputable def iK(osc:Scope)(N nm:List Str)(sc:Scope):Bool:=
 sc.names.all (fun y=>y.2 != .cell)&&sc.names.all (fun y=>y.2 != .local||sc.names.lookup y.1 == some .local) &&
 sc.names.all (fun y=>y.2 != .free||(osc.names.lookup y.1 == some .cell||osc.names.lookup y.1 == some .free))&&nm.all (fun x=>sc.names.lookup x != some .local)&&b7 sc N nm
theorem bW.of{X:Cx}{nm:List Str}{scope:Scope}(h:iK X.env.scope X.N nm scope=true)(hk:scope.kind=.function):bW X nm scope:=by
 unfold iK at h;simp only[MD,M3]at h;obtain⟨⟨⟨⟨h1,h2⟩,h3⟩,h4⟩,h5⟩:=h;refine⟨hk,fun y hy=>?_,fun y hy hl=>?_,fun y hy hf=>?_,fun x hx=>?_,b7.len h5,b7.at h5⟩
 ·have:=h1 y hy;simpa using this
 ·have:=h2 y hy;rw[hl]at this
  simpa using this
 ·have:=h3 y hy;rw[hf]at this;have:(X.env.scope.names.lookup y.1 == some .cell||X.env.scope.names.lookup y.1 == some .free)=true:=by simpa using this
  rw[Bool.or_eq_true,beq_iff_eq,beq_iff_eq]at this;exact this
 ·have:=h4 x hx;simpa using this
section
variable{X:Cx}{Hv tg iter:Expr}{EG:List Expr}{scope:Scope}{pos:Pos}{fi:Dm.FI}{bd:Dm.FB}{is:List Nat}{t:FT}{f:FE}
theorem kE{l:List Nat}{n:Nat}(h:(l.all fun i=>decide (n<=i))=true):∀i∈l,n<=i:=fun i hi=>of_decide_eq_true (M3.mp h i hi)
theorem Cn(nm own:List Str)(hg:TGc X nm scope own tg is bd)(hi:DI X tg iter fi)(ht:∀cl C s H fp,DTs (aS X nm scope own cl C s H fp) EG t)(he:∀cl C s H fp,DE (aS X nm scope own cl C s H fp) Hv f)
  (hc:X.calm=true:=by rfl) (hk:scope.kind=.function:=by rfl) (hS:iK X.env.scope X.N nm scope=true:=by rfl) (hl:(is.all fun i=>decide (X.N.length<=i))=true:=by rfl) (hs:∀x,foldedSetIterable iter X.env x=pure x:=by intro _;rfl) :
  DE X (.ListComp Hv [⟨tg,iter,EG,0⟩] scope pos) (Dm.bD fi own.length bd t f):=GQ hc (bW.of hS hk) hi hg ht he (kE hl) hs
theorem GU(j:Nat)(nm own:List Str){y:Str}{py ED:Pos}(hN:X.N.Nodup)(hg:TGc X nm scope own tg is bd)(hi:DI X tg iter fi)(ht:∀cl C s H fp,DTs (aS X nm scope own cl C s H fp) EG t)(he:∀cl C s H fp,DE (aS X nm scope own cl C s H fp) Hv f)
  (hc:X.calm=true:=by rfl) (hk:scope.kind=.function:=by rfl) (hS:iK X.env.scope X.N nm scope=true:=by rfl) (hl:(is.all fun i=>decide (X.N.length<=i))=true:=by rfl) (hj:X.N[j]?=some y:=by rfl) (hy:Loc X.env.scope y:=by trivial)
  (hsw:swapsWith (.ListComp Hv [⟨tg,iter,EG,0⟩] scope pos) (some (.Name y py)) ED.line X.env=pure true:=by rfl) (hs:∀x,foldedSetIterable iter X.env x=pure x:=by intro _;rfl)
  (hf:X.fn y=true\/X.env.scope.names.lookup y=some .local:=by trivial):DS X (.Assign [.Name y py] (.ListComp Hv [⟨tg,iter,EG,0⟩] scope pos) ED) (Dm.sA j (Dm.bD fi own.length bd t f)):=
 GR j hN hc (bW.of hS hk) hi hg ht he (kE hl) hj hy hsw hs hf
end
section
variable{f:FE}{a:Addr}{X:Cx}{K:Dp}{H:Hp}
theorem PI.or{tg it:Expr}{t t':TI}(h:PI X tg it t)(h':PI X tg it t'):PI X tg it (fun σ H R=>t σ H R\/t' σ H R):=fun mW s σ H R I q=>q.elim (h mW s σ H R I) (h' mW s σ H R I)
theorem JH{σ:L2.St}{R:It->Hp->Prop}(h:tDI (Dm.iS f) σ H R):qf K (tD f) σ H R\/yi K (tD f) σ H R:=by
 obtain⟨H0,ρ,ys,ρ',st,e,k⟩:=h;unfold Dm.iS at e;split at e
 ·cases e
 rename_i x ρ1 e1;split at e
 ·rename_i ds ρ2 e2;cases e;exact .inl (Ln ⟨H0,ρ,_,_,st,by unfold Dm.iL;rw[e1];dsimp only;rw[e2],k⟩)
 ·rename_i ds ρ2 e2;cases e;exact .inr (Lo ⟨H0,ρ,_,_,st,by unfold Dm.iT;rw[e1];dsimp only;rw[e2],k⟩)
 ·cases e
theorem i_S{tg e:Expr}(h:DE X e f):DI X tg e (Dm.iS f):=PI.weak (PI.or (vc h) (yj h)) fun _ _ _=>JH
noncomputable def zu(K:Dp):Bool:=K.all fun p=>match p.2.cls with | .type n=>n != "list" | _=>true
theorem lookup_mem{o:Obj}:∀{K:List (Addr×Obj)},K.lookup a=some o->(a,o)∈K
 |[],h=>by cases h
 |(b,x)::r,h=>by
  rw[M9]at h;cases q:a == b with
  |true=>
   rw[q]at h;cases h;have:a=b:=by simpa using q
   rw[this];exact Ds
  |false=>rw[q]at h;exact Dk _ (lookup_mem h)
theorem GV{f:List Dat->Option RV}{ns:List Int}{E:XK}(hf:f [.lst (ns.map Dat.int)]=some (.val (.bl true)))(hK:zu K=true)(hS:SqL K H a (ns.map V.int)) :
  spD f [.ref a] H (fun v _=>v=.bl true) E:=by
 have hq:Rd H a (.lst (ns.map V.int)):=by
  rcases hS with h | ⟨o,its,n,hk,hc,_⟩
  ·exact h
  ·have:=M3.mp hK _ (lookup_mem hk);dsimp only at this;rw[hc]at this;exact absurd this (by decide)
 have hr:∀ns:List Int,av H (ns.map V.int) (ns.map Dat.int):=fun ns=>by
  induction ns with
  |nil=>exact .nil
  |cons n ns ih=>exact .cons (.int n) ih
 exact⟨H,_,_,ao.refl _,.cons (.lst hq (hr ns)) .nil,hf,fun v H0' H' _ r=>Rep.mS r⟩
end
end Br
namespace Dm
noncomputable def iRd(a b c:FE):FI:=fun ρ=>match a ρ with
 | some (.val (.int i),ρ1)=>(match b ρ1 with
  | some (.val (.int j),ρ2)=>(match c ρ2 with
   |some (.val (.int k),ρ3)=>if k=-1/\j<=BIG/\-BIG<=j/\i<=BIG/\-BIG<=i then some (downs i (i-j).toNat,ρ3) else none
   |_=>none)
  |_=>none)
 |_=>none
noncomputable def iM:Nat->List Dat->List Dat
 |_,[]=>[]
 |i,d::ds=>.tup [.int (i:Nat),d]::iM (i+1) ds
noncomputable def iEn(a:FE):FI:=fun ρ=>match a ρ with
 |none=>none
 |some (x,ρ1)=>match tk ρ1 x with
  |some (.lst ds,ρ2)=>some (iM 0 ds,ρ2)
  |_=>none
end Dm
namespace Br
open PySem PySem.Spec PyProof.Rows L2
theorem xE{X:Cx}{mW:List (Addr×Obj)}{σ:L2.St}{H:Hp}{s:Shared}{h':Heap}{t':Nat}{fp:List Addr}{p:Addr}{o:HO}(I:Inv X mW σ H s)(hf:∀b∈fp,j0 X mW H b)
  (k:∀b u,b∉fp->s.heap.get? b=some u->h'.get? b=some u) (hp:s.heap.objs.size<=p) (new:aO X.prog X.w (upd H p o) h' p o):Inv X mW σ (upd H p o) { s with heap:=h',toks:=t' }:=by
 have hn:H p=none:=I.hok.fresh hp;have nf:∀b u,H b=some u->b∉fp:=fun b u e z=>by rw[(hf b z).1]at e;cases e
 have nL:X.env.locals∉fp:=fun z=>(hf _ z).2.1 rfl;refine I.step (g':=s.gens) (d':=s.drawn) (ch:=fp) (fun b hb=>?_) (fun b u _ _ hc e _=>k b u hc e) (fun b u _ _ hc e _=>⟨u.slots,k b u hc e⟩)
  (fun b u _ e n=>by rw[ak (ML (MF (Mu e) hp))];exact n) (fun b u hc e=>⟨u,k b u hc e⟩)
  (fun b xs q=>by rw[ak (aE q hn)];exact q) (fun b u xs q=>by rw[ak (aE q hn)];exact q) (fun b _ _ _ q=>by rw[ak (aE q hn)];exact q) (fun m hm=>?_) (fun b u e=>?_) I.bare
 ·obtain⟨f0,f1,f2,f3,f4,f5⟩:=hf b hb;exact⟨f3,f1,f4,f5⟩
 ·obtain⟨o,es,ep,ho,r⟩:=hm;exact⟨o,es,ep,k _ o nL ho,r⟩
 ·by_cases hb:b=p
  ·subst hb;rw[au]at e;cases e;exact new
  ·rw[ak hb]at e;refine(I.hok b u e).stay (fun c v hc q=>k c v ?_ q) (fun c q=>by rw[ak (aE q hn)];exact q) (fun c _ _ q=>by rw[ak (aE q hn)];exact q) fun c xs q=>by rw[ak (aE q hn)];exact q
   rcases hc with z | z
   ·rw[z];exact nf b u e
   ·exact nf c _ z
noncomputable def Ite(K:Dp)(a:Addr):It:=
 ⟨fun i H=>∃xs x,SqL K H a xs/\xs[i]?=some x,fun i H x H'=>∃p v,H p=none/\x=.ref p/\H'=upd H p (.tup [.int i,v])/\∀xs,SqL K H a xs->xs[i]?=some v,fun i H=>∃xs,SqL K H a xs/\xs.length<=i⟩
theorem xF{P:Program}{w:World}{K:Dp}{elts:List Expr}{x1}{tp:Pos}(a e it:Addr)(J9:e≠it):Turn P w K (.Tuple elts x1 tp) (Ite K a) [e,it] e (fun i h=>(∃old,IsEnum h e it (i:Nat) old)/\h.IsListIter it a i) where
 mem:=by simp
 obj:=fun i h st b hb=>by
  obtain⟨⟨old,he⟩,o,e1,c,d⟩:=st;rcases Ms.mp hb with rfl | hb
  ·exact ⟨_,he,fun v z=>by have z':Data.fields _=Data.cell v:=z;cases z'⟩
  ·have e2:b=it:=by simpa using hb
   subst e2;exact⟨o,e1,fun v z=>by rw[d]at z;cases z⟩
 keep:=fun i h h' st k=>⟨let ⟨old,he⟩:=st.1;⟨old,k e (by simp) _ he⟩,st.2.at fun o z=>k it (by simp) o z⟩
 item:=by
  intro X hP hw hK hc i mW s σ H E I hf st hg;subst hP hw hK;obtain⟨xs,x,hq,hx⟩:=hg;obtain⟨its,rv,p,hz⟩:=I.list hq;obtain⟨u,hu,ru⟩:=rv.get hx;obtain⟨⟨old,he⟩,Hw⟩:=st;refine wpAny_pyNext_enum_item he Hw p.isList (x:=u) (by simpa using hu) J9 fun h1 heo LD ht1 hz1 hk1=>?_;refine⟨_,rfl,wpAny_letOwnedTupleGo_enum heo fun h2 he2 hs2=>?_⟩;have EM:e<s.heap.objs.size:=Mu he;have ht2:h2.get? s.heap.objs.size=some { cls:=.type "tuple",data:=.seq #[.int i s.toks,u] }:=(hs2.2 _ (OB EM)).trans ht1;have k2:∀b o,b∉[e,it]->s.heap.get? b=some o->h2.get? b=some o:=fun b o hb z=>by have n1:b≠e:=fun y=>hb (by simp[y]);have n2:b≠it:=fun y=>hb (by simp[y]);exact(hs2.2 b n1).trans (hk1 b o n1 n2 z)
  have hn:H s.heap.objs.size=none:=I.hok.fresh (Mn _);have I2:Inv X mW σ (upd H s.heap.objs.size (.tup [.int i,x])) { s with heap:=h2,toks:=s.toks+1 }:=
   xE I hf k2 (Mn _) ⟨by simp[sizeLine],[.int i s.toks,u],.cons ⟨s.toks,rfl⟩ (.cons ru .nil),_,ht2,rfl,_,rfl⟩
  refine⟨.ref s.heap.objs.size,_,I2,rfl,⟨_,x,hn,rfl,rfl,fun ys hy=>by rw[I.qc hy hq];exact hx⟩,⟨⟨u,?_⟩,?_⟩,fun b hb=>?_⟩
  ·have:(((i+1:Nat):Int))=(i:Int)+1:=by lia
   rw[this];exact he2
  ·exact LD.at fun o z=>(hs2.2 it (Ne.symm J9)).trans z
  ·have hb1:b≠s.heap.objs.size:=fun y=>by
    rcases Ms.mp hb with z | z
    ·rw[y]at z;exact absurd z (OB EM)
    ·have z':b=it:=by simpa using z
     obtain⟨o,ho,_⟩:=Hw;have:=Mu ho;rw[<- z',y]at this;exact NH _ this
   rw[ak hb1];exact(hf b hb).1
 done:=by intro X hP hw hK hc i mW s σ H E I hf st hg;subst hP hw hK;obtain⟨xs,hq,hx⟩:=hg;obtain⟨its,rv,p,hz⟩:=I.list hq;obtain⟨f0,f1,f2,f3,f4,f5⟩:=hf it (by simp);obtain⟨⟨old,he⟩,Hw⟩:=st;have hl:=rv.length;exact wpAny_pyNext_enum_end (I.ok.hd hc) he Hw p.isList (by simp;lia) fun h' eb=>⟨rfl,I.turned (t':=s.toks) (fun b o hb e=>eb b o hb e) f0 f1 f3 f4 f5⟩
 self:=fun A i s Q E st h=>by
  obtain⟨⟨old,he⟩,Hw⟩:=st;have hT:s.TypeIs (.ref e) "enumerate" := ⟨_,he,rfl⟩
  refine wpAny_pyIter_slot hT F.slot_enumerate_iter (wpAny_call_entry F.slot_enumerate_iter hT F.entry_enumerate_iter ?_ (F.args_enumerate_iter_1 _));show wpAny _ _ (ret (.ref e)) _ _ s;exact wpAny_pure ⟨_,rfl,"enumerate",_,hT,F.slot_enumerate_next.lookup,h⟩
def JI(K:Dp)(tl:TE):TI:=fun σ H R=>tl σ H fun x H1=>∃a,x=.ref a/\(∃xs,SqL K H1 a xs)/\R (Ite K a) H1
section
variable{X:Cx}{l:Expr}{tl:TE}{p pos:Pos}{elts:List Expr}{x1:Nat}{tp:Pos}
theorem Co(hg:Gl X "enumerate")(hm:X.mg "enumerate" = none)(hl:PE X l tl)(hs:starEach [l] X.env=[(false,eval l X.env)]:=by rfl):PI X (.Tuple elts x1 tp) (.Call (.Name "enumerate" p) [l] [] pos) (JI X.K tl):=by
 intro mW s σ H R I h;refine Call_ (fq I hg hm boot_enumerate (NN (spliced_more ?_ (by rw[hs];rfl)) (by rw[hs];rfl) rfl));refine thn (hl mW s σ H _ I h) fun v s1 ⟨x,H1,I1,r1,q1⟩=>?_;obtain⟨a,e,⟨xs,hq⟩,q⟩:=q1;subst e;cases r1;obtain⟨its,rv,pl,hz⟩:=I1.list hq;refine Oi (call_enumerate_list pl.isList fun h' he Hw hsz k=>?_);have I2:Inv X mW σ H1 { s1 with heap:=h' }:=I1.kept (t':=s1.toks) k;have T:=xF (P:=X.prog) (w:=X.w) (K:=X.K) (elts:=elts) (x1:=x1) (tp:=tp) a (s1.heap.objs.size+1) s1.heap.objs.size (Nat.succ_ne_self _);refine T.self X.A 0 { s1 with heap:=h' } _ X.xe ⟨⟨_,he⟩,Hw⟩ ?_;refine⟨s1.heap.objs.size+1,[s1.heap.objs.size+1,s1.heap.objs.size],_,_,H1,rfl,I2,T,⟨⟨_,he⟩,Hw⟩,fun b hb=>?_,q⟩;have:s1.heap.objs.size<=b:=by
  rcases Ms.mp hb with rfl | hb
  ·exact Nat.le_succ _
  ·have:b=s1.heap.objs.size:=by simpa using hb
   exact OW this.symm
 exact I1.yg this (I1.hok.fresh this)
end
theorem qE:∀(ds:List Dat) (i:Nat),(Dm.iM i ds).length=ds.length
 |[],_=>rfl
 |_::ds,i=>by simp[Dm.iM,qE ds]
theorem qF:∀(ds:List Dat) (i j:Nat) (d:Dat),(Dm.iM i ds)[j]?=some d->∃x,ds[j]?=some x/\d=.tup [.int ((i+j:Nat):Int),x]
 |[],_,_,_,h=>by cases h
 |x::ds,i,0,d,h=>by cases h;exact⟨x,rfl,rfl⟩
 |x::ds,i,j+1,d,h=>by
  obtain⟨y,h1,h2⟩:=qF ds (i+1) j d h;refine⟨y,h1,?_⟩;rw[h2];have:i+1+j=i+(j+1):=by lia
  rw[this]
theorem Cp{K:Dp}{H0:Hp}{a:Addr}{xs:List V}{ds:List Dat}(hq:Rd H0 a (.lst xs))(rs:av H0 xs ds):JW (Ite K a) H0 (Dm.iM 0 ds):=by intro H0' H s0 s1;have q:SqL K H a xs:=.inl (ao.rd s1 (ao.rd s0 hq));refine⟨fun i hi=>⟨xs,q,by rw[rs.length,<- qE ds 0];exact hi⟩,fun i d e=>?_⟩;obtain⟨d',hd,rfl⟩:=qF ds 0 i d e;obtain⟨v,hv,rv⟩:=rs.get hd;refine⟨⟨xs,v,q,hv⟩,fun x H' y=>?_⟩;obtain⟨p,v',hn,rfl,rfl,y⟩:=y;have z:=y xs q;rw[hv]at z;cases z;have g:=aI.B3 (o:=HO.tup [.int i,v]) s1 hn;refine⟨_,g,.tup au (.cons ?_ (.cons ((rv.mono s0).mono g.s0) .nil))⟩;rw[Ph];exact .int _
section
variable{σ:L2.St}{H:Hp}{R:It->Hp->Prop}
theorem JJ{K:Dp}{f:FE}(h:tDI (Dm.iEn f) σ H R):JI K (tD f) σ H R:=by
 obtain⟨H0,ρ,ys,ρ',st,e,k⟩:=h;unfold Dm.iEn at e;split at e
 ·cases e
 rename_i x ρ1 e1;split at e
 ·rename_i ds ρ2 e2;cases e;refine⟨H0,ρ,_,ρ1,st,e1,fun v H0' H' t r=>?_⟩;obtain⟨H1,t1,b1,r1,_,_⟩:=take1 t (ao.refl _) r e2;cases r1 with
  |lst q rs=>exact⟨_,rfl,⟨_,.inl (ao.rd t1.st.same q)⟩,k _ H1 H' t1 (Cp q rs)⟩
 ·cases e
end
section
variable{X:Cx}{tg e a b c:Expr}{f fa fb fc:FE}{p pos p0 qD:Pos}{elts:List Expr}{x1:Nat}{tp:Pos}
theorem LF(hg:Gl X "enumerate")(hm:X.mg "enumerate" = none)(h:DE X e f)(hs:starEach [e] X.env=[(false,eval e X.env)]:=by rfl):DI X (.Tuple elts x1 tp) (.Call (.Name "enumerate" p) [e] [] pos) (Dm.iEn f):=PI.weak (Co hg hm h hs) fun _ _ _=>JJ
end
end Br
namespace Dm
noncomputable def aL(i:Nat)(own:Nat)(bd:FB)(t:FT)(el:FE):FE:=fun ρ=>match ρ[i]? with
 | some (.ow (.lst ds))=>if ds.length≤SZ then (match eY bd t el ds (ρ.set i .un++Mk own .un) [] with
  |none=>none
  |some (ys,ρ2)=>some (.new (.lst ys),(ρ2.take ρ.length).set i (.ow (.lst ds)))) else none
 |_=>bD (iS (eV i)) own bd t el ρ
end Dm
namespace Br
open PySem PySem.Spec PyProof.Rows L2
theorem zv{K:Dp}{H0:Hp}{a:Addr}{xs:List V}{ds:List Dat}(rs:av H0 xs ds):JWa (Itl K a) H0 (some (a,.lst xs)) ds:=by intro H0' H s0 s1 hq;have hq:=hq _ rfl;have q:SqL K H a xs:=.inl (.inl hq);refine⟨fun i hi=>⟨xs,q,by rw[rs.length];exact hi⟩,fun i d e=>?_⟩;obtain⟨v,hv,rv⟩:=rs.get e;refine⟨⟨xs,v,q,hv⟩,fun x H' y=>?_⟩;obtain⟨e1,y⟩:=y;subst e1;have z:=y xs q;rw[hv]at z;cases z;exact⟨H0',aI.refl s1,rv.mono s0⟩
theorem vH{K:Dp}{σ:L2.St}{H:Hp}{i own:Nat}{bd:Dm.FB}{g:TG}{t:FT}{el:FE}{is:List Nat}{Q:VK}(hb:BD is g bd)(hl:∀i∈is,σ.length<=i)(h:tD (Dm.aL i own bd t el) σ H Q) :
  tLC (fun σ H R=>qf K (tD (Dm.eV i)) σ H R\/yi K (tD (Dm.eV i)) σ H R) own g (tDT t) (tD el) σ H Q:=by
 obtain⟨H0,ρ,x,ρ',st,e,k⟩:=h;unfold Dm.aL at e;split at e
 ·rename_i ds eo;split at e
  case isFalse=>cases e
  rename_i hsz;split at e
  ·cases e
  rename_i ys ρ2 e2;cases e;refine .inl ⟨H0,ρ,.slot i,ρ,st,by unfold Dm.eV;rw[eo],fun v H0' H' t1 r=>?_⟩;obtain⟨a,qa,na,xs,ha,rs⟩:=t1.st.ow i _ eo;obtain⟨r1,_⟩:=r;rw[qa]at r1;cases r1;have nO:¬aj σ (ρ.set i .un) a:=fun z=>by obtain⟨j,d,hj,h1,h2⟩:=b5 z;exact hj (t1.st.dis j i d _ a h1 eo h2 qa)
  have EM:i<ρ.length:=(Mq.mp eo).1;refine⟨a,rfl,⟨xs,.inl (.inl ha)⟩,fun D hD=>qw hb hl (t1.st.mask i) (fun q e=>by cases e;exact⟨ha,na,nO⟩) (zv rs) hsz e2 (fun v H1 Hc t2 r2 hpa=>?_) D hD⟩;obtain⟨ha2,na2⟩:=hpa _ rfl;rw[MX]at t2 r2;have oo:∀b,aj σ ((ρ2.take ρ.length).set i (.ow (.lst ds))) b->b=a\/aj σ (ρ2.take ρ.length) b:=fun b ⟨j,d,h1,h2⟩=>by
   by_cases q:i=j
   ·subst q;rw[qa]at h2;cases h2;exact .inl rfl
   ·rw[gV q]at h1;exact .inr ⟨j,d,h1,h2⟩
  have om:∀b,aj σ (ρ.set i .un) b->aj σ ρ b:=fun b z=>by obtain⟨j,d,hj,h1,h2⟩:=b5 z;exact⟨j,d,h1,h2⟩
  have oa:aj σ ρ a:=⟨i,_,eo,qa⟩
  have nO2:¬aj σ (ρ2.take ρ.length) a:=fun z=>nO (t2.own a z);have zw:(ρ2.take ρ.length).length=ρ.length:=by rw[<- t2.st.len,st.len]
  refine k v H1 Hc (t1.trans ⟨⟨t2.st.same,by rw[MX];exact t2.st.len,fun j d h=>?_,fun j d h=>?_,fun j j' d d' b h1 h2 h3 h4=>?_⟩,t2.stp.wide om,fun b z=>?_,fun j z=>?_⟩) ?_
  ·by_cases q:i=j
   ·subst q;rw[MN (by rw[zw];exact EM)]at h;cases h
   ·rw[gV q]at h;exact t2.st.sh j d h
  ·by_cases q:i=j
   ·subst q;rw[MN (by rw[zw];exact EM)]at h;cases h;exact⟨a,qa,na2,xs,ha2,rs.mono t2.stp.s0⟩
   ·rw[gV q]at h;exact t2.st.ow j d h
  ·by_cases q:i=j
   ·subst q;by_cases q':i=j'
    ·exact q'
    ·rw[gV q']at h2;rw[qa]at h3;cases h3;exact absurd ⟨j',d',h2,h4⟩ nO2
   ·rw[gV q]at h1;by_cases q':i=j'
    ·subst q';rw[qa]at h4;cases h4;exact absurd ⟨j,d,h1,h3⟩ nO2
    ·rw[gV q']at h2;exact t2.st.dis j j' d d' b h1 h2 h3 h4
  ·rcases oo b z with rfl | z
   ·exact oa
   ·exact om b (t2.own b z)
  ·trivial
  ·obtain⟨D',e',n',no',n0',w'⟩:=r2;refine⟨D',e',t1.stp.gone n',fun z=>?_,n0',w'⟩;rcases oo D' z with rfl | z
   ·rw[n']at ha;cases ha
   ·exact no' z
 ·have h2:=oX (fi:=Dm.iS (Dm.eV i)) hb hl ⟨H0,ρ,x,ρ',st,e,k⟩;exact JH h2
section
variable{X:Cx}{Hv tg:Expr}{EG:List Expr}{scope:Scope}{pos px:Pos}{bd:Dm.FB}{is:List Nat}{t:FT}{f:FE}{x:Str}
theorem i_M(i:Nat)(h:DE X (.Name x px) (Dm.eV i)):PI X tg (.Name x px) (fun σ H R=>qf X.K (tD (Dm.eV i)) σ H R\/yi X.K (tD (Dm.eV i)) σ H R):=PI.or (vc h) (yj h)
theorem gm(i:Nat)(nm own:List Str)(hg:TGc X nm scope own tg is bd)(hi:DE X (.Name x px) (Dm.eV i))(ht:∀cl C s H fp,DTs (aS X nm scope own cl C s H fp) EG t)(he:∀cl C s H fp,DE (aS X nm scope own cl C s H fp) Hv f)
  (hc:X.calm=true:=by rfl) (hk:scope.kind=.function:=by rfl) (hS:iK X.env.scope X.N nm scope=true:=by rfl) (hl:(is.all fun i=>decide (X.N.length<=i))=true:=by rfl) (hs:∀y,foldedSetIterable (.Name x px) X.env y=pure y:=by intro _;rfl) :
  DE X (.ListComp Hv [⟨tg,.Name x px,EG,0⟩] scope pos) (Dm.aL i own.length bd t f):=by
 obtain⟨g,h1,h2⟩:=hg.ex;intro mW s σ H Q I h;exact vC hc (bW.of hS hk) (i_M i hi) h1 ht he hs mW s σ H Q I (vH h2 (fun i hi=>by rw[I.len];exact kE hl i hi) h)
theorem nD(j i:Nat)(nm own:List Str){y:Str}{py ED:Pos}(hN:X.N.Nodup)(hg:TGc X nm scope own tg is bd)(hi:DE X (.Name x px) (Dm.eV i))(ht:∀cl C s H fp,DTs (aS X nm scope own cl C s H fp) EG t)(he:∀cl C s H fp,DE (aS X nm scope own cl C s H fp) Hv f)
  (hc:X.calm=true:=by rfl) (hk:scope.kind=.function:=by rfl) (hS:iK X.env.scope X.N nm scope=true:=by rfl) (hl:(is.all fun i=>decide (X.N.length<=i))=true:=by rfl) (hj:X.N[j]?=some y:=by rfl) (hy:Loc X.env.scope y:=by trivial)
  (hsw:swapsWith (.ListComp Hv [⟨tg,.Name x px,EG,0⟩] scope pos) (some (.Name y py)) ED.line X.env=pure true:=by rfl) (hs:∀y,foldedSetIterable (.Name x px) X.env y=pure y:=by intro _;rfl)
  (hf:X.fn y=true\/X.env.scope.names.lookup y=some .local:=by trivial):DS X (.Assign [.Name y py] (.ListComp Hv [⟨tg,.Name x px,EG,0⟩] scope pos) ED) (Dm.sA j (Dm.aL i own.length bd t f)):=by
 obtain⟨g,h1,h2⟩:=hg.ex;intro mW s σ H D I h;exact cg hN hj hy hc (bW.of hS hk) (i_M i hi) h1 ht he hsw hs hf mW s σ H D I (vH h2 (fun i hi=>by rw[I.len];exact kE hl i hi) (yU h))
end
end Br
namespace Dm
noncomputable def mU:Dat->Dat->Option RV
 |.int i,.int j=>if 0<=j/\j<=100/\0<=i/\i<=1000000 then vI (i*2 ^ j.toNat) else none
 |_,_=>none
end Dm
namespace Br
open PySem PySem.Spec PyProof.Rows L2
theorem kF{X:Cx}{mW:List (Addr×Obj)}{σ:L2.St}{H:Hp}{s:Shared}{h':Heap}{t':Nat}{fp:List Addr}(I:Inv X mW σ H s)(hf:∀b∈fp,j0 X mW H b)
  (k:∀b u,b∉fp->s.heap.get? b=some u->h'.get? b=some u):Inv X mW σ H { s with heap:=h',toks:=t' }:=by
 have nf:∀b u,H b=some u->b∉fp:=fun b u e z=>by rw[(hf b z).1]at e;cases e
 have nL:X.env.locals∉fp:=fun z=>(hf _ z).2.1 rfl;refine I.step (g':=s.gens) (d':=s.drawn) (ch:=fp) (fun b hb=>?_) (fun b u _ _ hc e _=>k b u hc e) (fun b u _ _ hc e _=>⟨u.slots,k b u hc e⟩)
  (fun b u _ e n=>n) (fun b u hc e=>⟨u,k b u hc e⟩)
  (fun b xs q=>q) (fun b u xs q=>q) (fun _ _ _ _ q=>q) (fun m hm=>?_) (fun b u e=>?_) I.bare
 ·obtain⟨f0,f1,f2,f3,f4,f5⟩:=hf b hb;exact⟨f3,f1,f4,f5⟩
 ·obtain⟨o,es,ep,ho,r⟩:=hm;exact⟨o,es,ep,k _ o nL ho,r⟩
 ·refine(I.hok b u e).stay (fun c v hc q=>k c v ?_ q) (fun c q=>q) (fun _ _ _ q=>q) fun c xs q=>q;rcases hc with z | z
  ·rw[z];exact nf b u e
  ·exact nf c _ z
theorem GW:OpD (rI BK fun i j=>.int (i*2 ^ j.toNat)) Dm.mU:=by
 intro H0 H x y dx dy z Q s rx ry e k;unfold Dm.mU at e;split at e
 ·split at e
  ·rename_i hb;cases e;cases ay rx;cases ay ry;exact⟨_,_,rfl,rfl,⟨by lia,by lia,by lia⟩,k _ H0 H (aI.refl s) (.int _)⟩
  ·cases e
 ·cases e
section
variable{X:Cx}{a b:Expr}{fa fb:FE}{p pos:Pos}{elts:List Expr}{x1:Nat}{tp:Pos}
theorem Ez(ha:DE X a fa)(hb:DE X b fb):DE X (.BinOp a .LShift b pos) (Dm.e2 Dm.mU fa fb):=o4 F6 GW ha hb
end
end Br
namespace Dm
noncomputable def fnM(n m:Nat)(body:FS)(ds:List Dat):Option (RV×Dat):=if ds.length=n then (match ds with
 | d::r=>(match body (Cell.ow d::(r.map Cell.sh++Mk m .un)) with
  | some (.ret z ρ')=>(match ρ'[0]? with
   |some (Cell.ow d')=>some (z,d')
   |_=>none)
  | some (.nx ρ')=>(match ρ'[0]? with
   |some (Cell.ow d')=>some (.val .non,d')
   |_=>none)
  |_=>none)
 |[]=>none) else none
noncomputable def flat:Dat->Bool
 |.tup xs=>xs.all fun x=>!dF x
 |d=>!dF d
noncomputable def tZ:Dat->Bool
 |.lst xs=>xs.all fun x=>!dF x
 |_=>false
noncomputable def eFm(f:List Dat->Option (RV×Dat))(j:Nat)(as:List FE):FE:=fun ρ=>match ρ[j]? with
 | some (.ow _)=>(match eAs as ρ with
  |none=>none
  | some (xs,ρ1)=>(match ρ1[j]? with
   | some (.ow d1)=>(match tks ρ1 xs with
    |none=>none
    | some (ds,ρ2)=>(match ρ2[j]? with
     | some (.ow d)=>(match f (d::ds) with
      |none=>none
      |some (v,d')=>if flat v.dat&&tZ d' then some (v.bA,ρ1.set j (.ow d')) else some (v.bA,ρ2.set j (.ow d')))
     |_=>none))
   |_=>none))
 |_=>none
end Dm
namespace Br
open PySem PySem.Spec PyProof.Rows L2
section
variable{ρ:Dm.Env}{σ:L2.St}{a:Addr}
def spM(f:List Dat->Option (RV×Dat)):Sp:=fun vs H Q _=>∃H0 a us d ds z d',vs=V.ref a::us/\ao H0 H/\H0 a=none/\Own H0 H a d/\av H0 us ds/\f (d::ds)=some (z,d') /\
 ∀v H0' H',Stp (fun b=>b=a) H0 H H0' H'->ao H0' H'->H0' a=none->Own H0' H' a d'->oU H H0' H' v z->Q v H'
theorem jT{n m:Nat}{body:FS}{vs:List V}{H:Hp}{Q:VK}{E:XK}(h:spM (Dm.fnM n m body) vs H Q E):vs.length=n:=by
 obtain⟨H0,a,us,d,ds,z,d',e,_,_,_,rs,ef,_⟩:=h;unfold Dm.fnM at ef;split at ef
 ·rename_i hl;rw[e,M0,rs.length]
  simpa using hl
 ·cases ef
theorem az.ja{H0 H:Hp}{j:Nat}{d:Dat}(st:az H0 H σ ρ)(q:σ[j]?=some (some (V.ref a)))(no:¬aj σ ρ a)(n0:H0 a=none)(w:Own H0 H a d):az H0 H σ (ρ.set j (.ow d)):=by
 have:=st.tX (i:=j) no n0 w;have e:σ.set j (some (V.ref a))=σ:=by
  apply N7;intro i;by_cases h:j=i
  ·subst h;have hl:j<σ.length:=(Mq.mp q).1;rw[MN hl,q]
  ·rw[gV h]
 rw[e]at this;exact this
theorem az.off{H0 H H0' H':Hp}(st:az H0 H σ ρ)(s0:ao H0 H0')(ss:ao H0' H')(no:¬aj σ ρ a)(s1:∀b o,H b=some o->b≠a->H' b=some o)(s2:∀(i:Nat) (d:Dat) (b:Addr),ρ[i]?=some (Dm.Cell.ow d)->σ[i]?=some (some (V.ref b))->H0' b=none):az H0' H' σ ρ where
 same:=ss
 len:=st.len
 sh:=fun i d e=>by obtain⟨v,q,r⟩:=st.sh i d e;exact⟨v,q,r.mono s0⟩
 ow:=fun i d e=>by obtain⟨b,q,n,w⟩:=st.ow i d e;obtain⟨o,z⟩:=w.some;have nb:b≠a:=fun y=>no ⟨i,d,e,y▸q⟩;exact⟨b,q,s2 i d b e q,w.mono s0 ((s1 b o z nb).trans z.symm)⟩
 dis:=st.dis
theorem d7{H0 H1:Hp}:∀{xs:List V} {ds:List Dat},av H0 xs ds->(ds.all fun x=>!Dm.dF x)=true->av H1 xs ds
 |_,_,.nil,_=>.nil
 |_,_,.cons r rs,h=>by rw[Pf,MD]at h;exact .cons (Rep.plain r (by simpa using h.1)) (d7 rs h.2)
end
section
variable{σ:L2.St}{H:Hp}{Q:VK}
theorem Cq{f:List Dat->Option (RV×Dat)}{j:Nat}{fs:List FE}{E:XK}(h:tD (Dm.eFm f j fs) σ H Q):j6 (spM f) [] E (tDA (Dm.eV j::fs)) σ H Q:=by
 obtain⟨H0,ρ,x,ρ',st,e,k⟩:=h;unfold Dm.eFm at e;split at e
 case h_2=>cases e
 rename_i d0 h0;split at e
 ·cases e
 rename_i xs ρ1 e1;split at e
 case h_2=>cases e
 rename_i d1 h1;split at e
 ·cases e
 rename_i ds ρ2 e2;split at e
 case h_2=>cases e
 rename_i d h2;split at e
 ·cases e
 rename_i z d' fz;have ea:Dm.eAs (Dm.eV j::fs) ρ=some (.slot j::xs,ρ1):=by unfold Dm.eAs;rw[show Dm.eV j ρ=some (.slot j,ρ) from by unfold Dm.eV;rw[h0]];dsimp only;rw[e1]
 refine⟨H0,ρ,.slot j::xs,ρ1,st,ea,fun vs H1 Hb t1 r1=>?_⟩;dsimp only;rw[Nc];cases r1 with
 |cons r0 rr=>
  obtain⟨H2,t2,b2,r2⟩:=takes t1 (ao.refl _) rr e2;obtain⟨a,qa,na,wa⟩:=t2.st.ow j d h2;obtain⟨q0,_⟩:=r0;rw[qa]at q0;cases q0;obtain⟨a1,qa1,na1,wa1⟩:=t1.st.ow j d1 h1;rw[qa]at qa1;cases qa1;obtain⟨oa,ha⟩:=wa.some;have hl2:j<ρ2.length:=(Mq.mp h2).1;have hl1:j<ρ1.length:=(Mq.mp h1).1;have oa0:aj σ ρ a:=t1.own a ⟨j,d1,h1,qa⟩;refine⟨H2,a,_,d,ds,z,d',rfl,t2.st.same,na,wa,r2,fz,fun v H3 Hd s3 ss n3 w3 r3=>?_⟩;have no2:¬aj σ (ρ2.set j .un) a:=fun y=>by obtain⟨i,d4,hi,y1,y2⟩:=b5 y;exact hi (t2.st.dis i j d4 d a y1 h2 y2 qa)
  have no1:¬aj σ (ρ1.set j .un) a:=fun y=>by obtain⟨i,d4,hi,y1,y2⟩:=b5 y;exact hi (t1.st.dis i j d4 d1 a y1 h1 y2 qa)
  split at e
  ·rename_i fl;cases e;rw[MD]at fl;obtain⟨f1,f2⟩:=fl;have wp:∀H',Own H' Hd a d':=fun H'=>by
    cases d' with
    |lst ys=>obtain⟨us,y1,y2⟩:=w3;exact⟨us,y1,d7 y2 f2⟩
    |_=>cases f2
   have EC:∀H1':Hp,ao H1 H1'->ao H1' Hd->(∀b o,H1' b=some o->H1 b=some o\/((∃us,o=.tup us)/\H3 b=some o))->fE H H1' Hd σ (ρ1.set j (.ow d')) v z.bA->Q v Hd:=fun H1' m1 m2 m3 rv=>by
    have hd3:∀b,H1' b≠none->b≠a:=fun b hb y=>by
     subst y;cases y2:H1' b with
     |none=>exact hb y2
     |some o=>
      rcases m3 b o y2 with y3 | ⟨_,y3⟩
      ·rw[na1]at y3;cases y3
      ·rw[n3]at y3;cases y3
    have n1':H1' a=none:=by
     cases y:H1' a with
     |none=>rfl
     |some o=>exact absurd rfl (hd3 a (by rw[y];exact fun q=>nomatch q))
    have sm:az H1' Hd σ (ρ1.set j .un):=by
     refine(t1.st.mask j).off m1 m2 no1 (fun b o y nb=>s3.s1 b o y nb) fun i d4 b y1 y2=>?_;obtain⟨b',q',nb',w'⟩:=(t1.st.mask j).ow i d4 y1;rw[y2]at q';cases q';cases y:H1' b with
     |none=>rfl
     |some o=>
      rcases m3 b o y with y3 | ⟨⟨us,y4⟩,y3⟩
      ·rw[nb']at y3;cases y3
      ·subst y4;have nb:b≠a:=hd3 b (by rw[y];exact fun q=>nomatch q);cases d4 with
       |lst _=>obtain⟨ws,z1,_⟩:=w';have z2:=s3.s1 b _ z1 nb;rw[ss _ _ y3]at z2;cases z2
       |dct _ _=>obtain⟨ws,z1,_⟩:=w';have z2:=s3.s1 b _ z1 nb;rw[ss _ _ y3]at z2;cases z2
       |dcp _ _=>obtain⟨ws,z1,_⟩:=w';have z2:=s3.s1 b _ z1 nb;rw[ss _ _ y3]at z2;cases z2
       |_=>exact MZ w'
    have sf:az H1' Hd σ (ρ1.set j (.ow d')):=by have:=sm.ja qa no1 n1' (wp H1');rw[Pj]at this;exact this
    refine k v H1' Hd ⟨sf,⟨t1.stp.s0.trans m1,fun b o y nb=>?_,fun b o y=>?_,fun b o y=>?_⟩,fun b y=>?_,fun i y=>?_⟩ rv
    ·have y1:=t1.stp.s1 b o y nb;exact s3.s1 b o y1 fun q=>nb (by rw[q];exact oa0)
    ·rcases m3 b o y with y3 | ⟨_,y3⟩
     ·exact t1.stp.s2 b o y3
     ·rcases s3.s2 b o y3 with y4 | y4 | y4
      ·exact .inl (t1.stp.gone y4)
      ·exact t2.stp.s2 b o y4
      ·subst y4;rw[n3]at y3;cases y3
    ·obtain⟨o',y1⟩:=t1.stp.s3 b o y;exact s3.s3 b o' y1
    ·obtain⟨i,d4,y1,y2⟩:=y;by_cases hi:j=i
     ·subst hi;rw[qa]at y2;cases y2;exact oa0
     ·rw[gV hi]at y1;exact t1.own b ⟨i,d4,y1,y2⟩
    ·trivial
   have m0:ao H1 Hd:=fun b o y=>s3.s1 b o (t1.st.same _ _ y) fun q=>by rw[q,na1]at y;cases y
   cases z with
   |new d4=>
    obtain⟨_,_,_,_,w⟩:=r3;cases d4 with
    |lst _=>cases f1
    |dct _ _=>cases f1
    |dcp _ _=>cases f1
    |_=>exact MZ w
   |val d4=>
    have r3':Rep H3 v d4:=r3;cases d4 with
    |tup es=>
     cases r3' with
     |tup q rs=>
      rename_i a2 us;have rp:av H1 us es:=d7 rs f1;refine EC (upd H1 a2 (.tup us)) (fun b o y=>?_) (fun b o y=>?_) (fun b o y=>?_) (.tup au (d7 rs f1))
      ·by_cases hb:b=a2
       ·subst hb;have:=s3.s0 _ _ (b2 _ _ y);rw[q]at this;rw[au,this]
       ·rw[ak hb];exact y
      ·by_cases hb:b=a2
       ·subst hb;rw[au]at y;cases y;exact ss _ _ q
       ·rw[ak hb]at y;exact m0 _ _ y
      ·by_cases hb:b=a2
       ·subst hb;rw[au]at y;cases y;exact .inr ⟨⟨us,rfl⟩,q⟩
       ·rw[ak hb]at y;exact .inl y
    |lst _=>cases f1
    |dct _ _=>cases f1
    |dcp _ _=>cases f1
    |exc _=>cases f1
    |dc _ _=>cases f1
    |fn _=>exact EC H1 (ao.refl _) m0 (fun b o y=>.inl y) (Rep.plain r3' rfl)
    |non=>exact EC H1 (ao.refl _) m0 (fun b o y=>.inl y) (Rep.plain r3' rfl)
    |bl _=>exact EC H1 (ao.refl _) m0 (fun b o y=>.inl y) (Rep.plain r3' rfl)
    |int _=>exact EC H1 (ao.refl _) m0 (fun b o y=>.inl y) (Rep.plain r3' rfl)
    |str _=>exact EC H1 (ao.refl _) m0 (fun b o y=>.inl y) (Rep.plain r3' rfl)
  ·cases e;have sm:az H3 Hd σ (ρ2.set j .un):=by
    refine(t2.st.mask j).off s3.s0 ss no2 (fun b o y nb=>s3.s1 b o y nb) fun i d4 b y1 y2=>?_;obtain⟨b',q',nb',w'⟩:=(t2.st.mask j).ow i d4 y1;rw[y2]at q';cases q';obtain⟨ob,hob⟩:=w'.some;cases y:H3 b with
    |none=>rfl
    |some o=>
     rcases s3.s2 b o y with y3 | y3 | y3
     ·rw[hob]at y3;cases y3
     ·rw[nb']at y3;cases y3
     ·exact absurd ⟨i,d4,y1,y3▸y2⟩ no2
   have sf:az H3 Hd σ (ρ2.set j (.ow d')):=by have:=sm.ja qa no2 n3 w3;rw[Pj]at this;exact this
   have of:∀b,aj σ (ρ2.set j (.ow d')) b->b=a\/aj σ ρ2 b:=fun b ⟨i,d4,y1,y2⟩=>by
    by_cases hi:j=i
    ·subst hi;rw[qa]at y2;cases y2;exact .inl rfl
    ·rw[gV hi]at y1;exact .inr ⟨i,d4,y1,y2⟩
   refine k v H3 Hd ⟨sf,t2.stp.trans s3 (fun b y=>.inl (y▸oa0)),fun b y=>?_,fun i y=>?_⟩ ?_
   ·rcases of b y with y | y
    ·exact y▸oa0
    ·exact t2.own b y
   ·trivial
   ·cases z with
    |val d4=>exact r3
    |new d4=>
     obtain⟨b,y0,y1,y2,y3⟩:=r3;refine⟨b,y0,t2.stp.gone y1,fun y=>?_,y2,y3⟩;rcases of b y with y | y
     ·subst y;rw[ha]at y1;cases y1
     ·exact t2.st.bB y1 y
end
theorem bG{X:Cx}{es:List Expr}{p pos px:Pos}{k:Nat}{F:Addr}{fd:FuncData}{ps:List Str}{g:List Dat->Option (RV×Dat)}{x y:Str}{j:Nat}{fs:List FE}(G:aV X.prog X.w X.K X.mg X.base CX0 k F fd ps (spM g))(hr:aZ k X.A)(hg:Gl X x)(hm:X.mg x=some (.ref F))(hk:Nu X.K (.ref F)=true)(hb:Binds X.K fd ps [])
  (ha:DA X (.Name y px::es) (Dm.eV j::fs)) (J8:(x == ("__debug__" : Str))=false:=by decide) (he:starEach (.Name y px::es) X.env=(false,eval (.Name y px) X.env)::starEach es X.env:=by rfl) (CP:(backTo pos (starEach es X.env)).any (·.1)=false:=by rfl) :
  DE X (.Call (.Name x p) (.Name y px::es) [] pos) (Dm.eFm g j fs):=PE.weak (jN G hr hg hm hk hb .nil (qo (X:=X)) ha J8 he CP) fun _ _ _=>Cq
theorem zx{N:List Str}{n m:Nat}{body:FS}{vs:List V}{H:Hp}{Q:VK}{E:XK}(hm:N.length=n+m)(h:spM (Dm.fnM n m body) vs H Q E) :
  tDS body { nx:=fun _ H'=>Q .non H',rt:=Q } (start N vs) H:=by
 have hvn:=jT h;obtain⟨H0,a,us,d,ds,z,d',e,s,na,wa,rs,ef,k⟩:=h;subst e;have hl:=rs.length;rw[M0]at hvn;have e0:(start N (V.ref a::us))[0]?=some (some (V.ref a)):=rfl;have get:∀{i:Nat} {c:Dm.Cell},(Dm.Cell.ow d::(ds.map Dm.Cell.sh++Mk m .un))[i]?=some c->(i=0/\c=.ow d)\/(∃i' d4,i=i'+1/\ds[i']?=some d4/\c=.sh d4)\/c=.un:=fun {i c} y=>by
  cases i with
  |zero=>cases y;exact .inl ⟨rfl,rfl⟩
  |succ i=>
   rw[NI]at y;by_cases hi:i<ds.length
   ·rw[Mz (by simpa using hi),MS,Mp hi]at y;cases y;exact .inr (.inl ⟨i,ds[i],rfl,Mp hi,rfl⟩)
   ·rw[MU (by simpa using hi),Nb]at y;split at y
    ·cases y;exact .inr (.inr rfl)
    ·cases y
 have ow0:∀{i:Nat} {d4:Dat},(Dm.Cell.ow d::(ds.map Dm.Cell.sh++Mk m .un))[i]?=some (.ow d4)->i=0/\d4=d:=fun {i d4} y=>by
  rcases get y with⟨y1,y2⟩ | ⟨_,_,_,_,y2⟩ | y2
  ·cases y2;exact⟨y1,rfl⟩
  ·cases y2
  ·cases y2
 have oa:∀b,aj (start N (V.ref a::us)) (Dm.Cell.ow d::(ds.map Dm.Cell.sh++Mk m .un)) b->b=a:=fun b ⟨i,d4,y1,y2⟩=>by obtain⟨y3,_⟩:=ow0 y1;subst y3;rw[e0]at y2;cases y2;rfl
 have st:az H0 H (start N (V.ref a::us)) (Dm.Cell.ow d::(ds.map Dm.Cell.sh++Mk m .un)):=by
  refine⟨s,?_,fun i d4 y=>?_,fun i d4 y=>?_,fun i i' d4 d5 b y1 y2 _ _=>(ow0 y1).1.trans (ow0 y2).1.symm⟩
  ·unfold L2.start;simp only[MA,Mj,N8,M0];omega
  ·rcases get y with⟨_,y2⟩ | ⟨i',d5,y1,y2,y3⟩ | y2
   ·cases y2
   ·cases y3;subst y1;obtain⟨v,hv,r⟩:=rs.get y2;refine⟨v,?_,r⟩;have hi:i'<us.length:=(Mq.mp hv).1;unfold L2.start;rw[Mz (by simp;omega),MS,NI,hv];rfl
   ·cases y2
  ·obtain⟨y1,y2⟩:=ow0 y;subst y1 y2;exact⟨a,e0,na,wa⟩
 have EC:∀{σ':L2.St} {ρ':Dm.Env} {H0' H':Hp},SSt (start N (V.ref a::us)) (Dm.Cell.ow d::(ds.map Dm.Cell.sh++Mk m .un)) H0 H σ' ρ' H0' H'->ρ'[0]?=some (.ow d')->Stp (fun b=>b=a) H0 H H0' H'/\H0' a=none/\Own H0' H' a d'/\aj σ' ρ' a:=fun {σ' ρ' H0' H'} t y=>by obtain⟨a',q',n',w'⟩:=t.st.ow 0 d' y;have fx:=t.fx;rw[e0,q']at fx;cases fx;exact⟨t.stp.wide fun b z=>oa b z,n',w',0,d',y,q'⟩
 unfold Dm.fnM at ef;split at ef
 case isFalse=>cases ef
 dsimp only at ef;split at ef
 ·rename_i z' ρ' e1;split at ef
  case h_2=>cases ef
  rename_i d4 y;cases ef;refine⟨H0,_,_,st,e1,fun σ' v H0' H' t r no=>?_⟩;obtain⟨f1,f2,f3,f4⟩:=EC t y;refine k v H0' H' f1 t.st.same f2 f3 ?_;cases z with
  |val d5=>exact r
  |new d5=>
   obtain⟨b,y0,y1,y2,y3⟩:=r;refine⟨b,y0,?_,y2,y3⟩;rcases y1 with y1 | y1
   ·exact y1
   ·exact absurd f4 (oa b y1▸no d5 b rfl y0)
 ·rename_i ρ' e1;split at ef
  case h_2=>cases ef
  rename_i d4 y;cases ef;refine⟨H0,_,_,st,e1,fun σ' H0' H' t=>?_⟩;obtain⟨f1,f2,f3,f4⟩:=EC t y;exact k _ H0' H' f1 t.st.same f2 f3 .non
 ·cases ef
end Br
namespace Dm
noncomputable def bZ:List Int->List Dat->Int->Option Dat
 |k::ks,v::vs,i=>if k=i then some v else bZ ks vs i
 |_,_,_=>none
noncomputable def vJ:List Int->List Dat->Int->Dat->List Dat
 |k::ks,v::vs,i,d=>(if k=i then d else v)::vJ ks vs i d
 |_,_,_,_=>[]
noncomputable def ju(ks:List Int)(i:Int):List Int:=if (ks.any fun k=>decide (k=i))=true then ks else ks++[i]
noncomputable def jv(ks:List Int)(vs:List Dat)(i:Int)(d:Dat):List Dat:=if (ks.any fun k=>decide (k=i))=true then vJ ks vs i d else vs++[d]
noncomputable def gDx:Dat->Dat->Option RV
 |.dct ks vs,.int i=>(bZ ks vs i).map .val
 |_,_=>none
noncomputable def zy:Dat->Dat->Option RV
 |.int i,.dct ks vs=>vB (bZ ks vs i).isSome
 |_,_=>none
noncomputable def nE:Dat->Dat->Option RV
 |.int i,.dct ks vs=>vB (!(bZ ks vs i).isSome)
 |_,_=>none
noncomputable def eD1(a b:FE):FE:=fun ρ=>match a ρ with
 | some (.val (.int i),ρ1)=>(match b ρ1 with
  |none=>none
  |some (x,ρ2)=>match tk ρ2 x with
   |none=>none
   |some (d,ρ3)=>some (.new (.dct [i] [d]),ρ3))
 |_=>none
noncomputable def nF(i:Nat)(j e:FE):FS:=fun ρ=>match e ρ with
 |none=>none
 |some (x,ρ1)=>match tk ρ1 x with
  |none=>none
  |some (d,ρ2)=>match ρ2[i]? with
   | some (.ow _)=>(match j ρ2 with
    | some (.val (.int k),ρ3)=>(match ρ3[i]? with
     |some (.ow (.dct ks vs))=>if ks.length<SZ then some (.nx (ρ3.set i (.ow (.dct (ju ks k) (jv ks vs k d))))) else none
     |_=>none)
    |_=>none)
   |_=>none
end Dm
namespace Br
open PySem PySem.Spec PyProof.Rows L2
section
variable{ds:List Dat}{ks:List Int}{H0:Hp}{d:Dat}{v:V}
theorem kG{H0 H:Hp}(s:ao H0 H)(r:iG H0 H v (.dct ks ds)):∃a kvs,v=.ref a/\H a=some (.dK kvs)/\kvs.map (·.1)=ks.map MW/\av H0 (kvs.map (·.2)) ds:=by
 rcases r with r | ⟨a,e,kvs,q,ek,rs⟩
 ·cases r with
  |dct q ek rs=>exact⟨_,_,rfl,s _ _ q,ek,rs⟩
 ·exact⟨a,kvs,e,q,ek,rs⟩
theorem t7{a b:Int}(h:¬a=b):¬(MW a:Key)=MW b:=fun q=>h (Sum.inl.inj q)
theorem jU(i:Int):∀{kvs:List (Key×V)} {ks:List Int} {ds:List Dat},kvs.map (·.1)=ks.map MW->av H0 (kvs.map (·.2)) ds ->
  (∃d v,Dm.bZ ks ds i=some d/\fh kvs (MW i)=some v/\Rep H0 v d)\/(Dm.bZ ks ds i=none/\fh kvs (MW i)=none)
 |[],[],_,_,r=>by cases r;exact .inr ⟨rfl,rfl⟩
 |[],_::_,_,e,_=>by cases e
 |_::_,[],_,e,_=>by cases e
 |(k0,v0)::kvs,k::ks,_,e,r=>by
  rw[gc]at r;cases r with
  |cons r0 rr=>
   rw[gc,gc]at e;injection e with e1 e2
   have e1:k0=MW k:=e1;subst e1;unfold Dm.bZ;by_cases h:k=i
   ·subst h;rw[if_pos rfl];exact .inl ⟨_,v0,rfl,fy rfl,r0⟩
   ·rw[if_neg h,fB (t7 h)];exact jU i e2 rr
theorem zz(i:Int):∀{kvs:List (Key×V)} {ks:List Int},kvs.map (·.1)=ks.map MW->(kvs.any fun kv=>decide (kv.1=MW i))=(ks.any fun k=>decide (k=i))
 |[],[],_=>rfl
 |[],_::_,e=>by cases e
 |_::_,[],e=>by cases e
 |(k0,v0)::kvs,k::ks,e=>by
  rw[gc,gc]at e;injection e with e1 e2
  have e1:k0=MW k:=e1;subst e1;rw[Nt,Nt,zz i e2]
  congr 1
  by_cases h:k=i
  ·subst h;simp
  ·have:=t7 h;simp[h,this]
theorem vK(i:Int)(rv:Rep H0 v d):∀{kvs:List (Key×V)} {ks:List Int} {ds:List Dat},kvs.map (·.1)=ks.map MW->av H0 (kvs.map (·.2)) ds ->
  ((kvs.map fun kv=>if kv.1=MW i then (kv.1,v) else kv).map (·.1)=ks.map MW)/\av H0 ((kvs.map fun kv=>if kv.1=MW i then (kv.1,v) else kv).map (·.2)) (Dm.vJ ks ds i d)
 |[],[],_,_,r=>by cases r;exact⟨rfl,.nil⟩
 |[],_::_,_,e,_=>by cases e
 |_::_,[],_,e,_=>by cases e
 |(k0,v0)::kvs,k::ks,_,e,r=>by
  rw[gc]at r;cases r with
  |cons r0 rr=>
   rw[gc,gc]at e;injection e with e1 e2
   have e1:k0=MW k:=e1;subst e1;obtain⟨i1,i2⟩:=vK i rv e2 rr;unfold Dm.vJ;by_cases h:k=i
   ·subst h;rw[if_pos rfl,gc,gc,gc,i1];simp only[if_true];exact⟨trivial,.cons rv i2⟩
   ·rw[if_neg h,gc,gc,gc,i1];have:=t7 h;simp only[this,if_false];exact⟨trivial,.cons r0 i2⟩
theorem GX(i:Int)(rv:Rep H0 v d){kvs:List (Key×V)}(e:kvs.map (·.1)=ks.map MW)(r:av H0 (kvs.map (·.2)) ds) :
  (putK kvs (MW i) v).map (·.1)=(Dm.ju ks i).map MW/\av H0 ((putK kvs (MW i) v).map (·.2)) (Dm.jv ks ds i d):=by
 have ha:=zz i e;unfold putK Dm.ju Dm.jv;rw[ha];cases hb:(ks.any fun k=>decide (k=i)) with
 |true=>simp only[if_true];exact vK i rv e r
 |false=>simp only[M4,if_false];rw[My,My,My,e];exact⟨rfl,r.append (.cons rv .nil)⟩
theorem JK:OpD (fun x y H Q=>∃a v,x=.ref a/\cG H a y (some v)/\Q v H) Dm.gDx:=by
 intro H0 H x y dx dy z Q s rx ry e k;unfold Dm.gDx at e;split at e
 ·rename_i ks vs i;cases ay ry;obtain⟨a,kvs,rfl,qa,ek,rs⟩:=kG s rx;rcases jU i ek rs with⟨d,v,l1,l2,r⟩ | ⟨l1,_⟩
  ·rw[l1]at e;cases e;refine⟨a,v,rfl,?_,k _ H0 H (aI.refl s) r⟩;have:=cG.k (k:=MW i) qa;rw[l2]at this;exact this
  ·rw[l1]at e;cases e
 ·cases e
theorem GY:OpD (fun y x H Q=>∃a o,x=.ref a/\cG H a y o/\Q (.bl o.isSome) H) Dm.zy:=by
 intro H0 H x y dx dy z Q s rx ry e k;unfold Dm.zy at e;split at e
 ·rename_i i ks vs;cases e;cases ay rx;obtain⟨a,kvs,rfl,qa,ek,rs⟩:=kG s ry;refine⟨a,_,rfl,cG.k (k:=MW i) qa,k _ H0 H (aI.refl s) ?_⟩;rcases jU i ek rs with⟨d,v,l1,l2,r⟩ | ⟨l1,l2⟩
  ·rw[l1,l2];exact .bl _
  ·rw[l1,l2];exact .bl _
 ·cases e
theorem Cr:OpD (fun y x H Q=>∃a o,x=.ref a/\cG H a y o/\Q (.bl (!o.isSome)) H) Dm.nE:=by
 intro H0 H x y dx dy z Q s rx ry e k;unfold Dm.nE at e;split at e
 ·rename_i i ks vs;cases e;cases ay rx;obtain⟨a,kvs,rfl,qa,ek,rs⟩:=kG s ry;refine⟨a,_,rfl,cG.k (k:=MW i) qa,k _ H0 H (aI.refl s) ?_⟩;rcases jU i ek rs with⟨d,v,l1,l2,r⟩ | ⟨l1,l2⟩
  ·rw[l1,l2];exact .bl _
  ·rw[l1,l2];exact .bl _
 ·cases e
end
section
variable{σ:L2.St}{H:Hp}{Q:VK}{D:Ends}
theorem GZ{i:Nat}{j f:FE}(h:tDS (Dm.nF i j f) D σ H):yF (jE i) (tD j) (tD f) D σ H:=by
 obtain⟨H0,ρ,o,st,e,k⟩:=h;unfold Dm.nF at e;split at e
 ·cases e
 rename_i x ρ1 e1;split at e
 ·cases e
 rename_i d ρ2 e2;split at e
 case h_2=>cases e
 rename_i d0 h2;split at e
 ·rename_i m ρ3 e3;split at e
  ·rename_i ks vs h3;split at e
   case isFalse=>cases e
   rename_i hz;cases e;refine⟨H0,ρ,_,ρ1,st,e1,fun v H0' H' t r=>?_⟩;obtain⟨H1,t1,b1,r1,_,_⟩:=take1 t (ao.refl _) r e2;obtain⟨a0,q0,_,_⟩:=t1.st.ow i _ h2;refine⟨_,q0,H1,ρ2,_,ρ3,t1.st,e3,fun u H2 Hc t2 r2=>?_⟩;obtain⟨a,q,n,w⟩:=t2.st.ow i _ h3;rw[q0]at q;cases q;obtain⟨kvs,y,ek,rs⟩:=w;have hu:=Rep.isInt r2;subst hu;obtain⟨p1,p2⟩:=GX m (r1.mono t2.stp.s0) ek rs;have uH:kvs.length=ks.length:=by
    have:=congrArg List.length ek
    simpa using this
   refine⟨a0,_,rfl,qq.k (k:=MW m) y (by rw[uH];exact MF hz (by decide)),?_⟩;have ow:aj σ ρ3 a0:=⟨i,_,h3,q0⟩
   have tt:=t1.trans t2;exact k σ H2 _ ⟨t2.st.write h3 q0 ⟨_,au,p1,p2⟩,tt.stp.trans (Stp.write ow) fun b z=>.inl (tt.own b z),fun b z=>.inl (tt.own b (bE h3 z)),rfl⟩
  ·cases e
 ·cases e
theorem LG{fa fb:FE}(h:tD (Dm.eD1 fa fb) σ H Q):El [(tD fa,tD fb)] σ H Q:=by
 obtain⟨H0,ρ,x,ρ',st,e,k⟩:=h;unfold Dm.eD1 at e;split at e
 ·rename_i i ρ1 e1;split at e
  ·cases e
  rename_i y ρ2 e2;split at e
  ·cases e
  rename_i d ρ3 e3;cases e;intro p hp;have n0:H0 p=none:=st.same.free hp;have no:¬aj σ ρ p:=st.bB hp;refine⟨H0,ρ,_,ρ1,st.aside n0 no,e1,fun u H1 Hb t1 r1=>⟨H1,ρ1,y,ρ2,t1.st,e2,fun v H2 Hc t2 r2=>?_⟩⟩;have tt:=t1.trans t2;obtain⟨H3,t3,b3,r3,_,_⟩:=take1 tt (ao.refl _) (r2.early fun a n=>t1.stp.gone n) e3;obtain⟨hp3,n3,no3⟩:=t3.cB (o:=HO.dK []) au n0 no;have hu:=Rep.isInt r1;subst hu;refine⟨hp3,[(MW i,v)],rfl,(by simp),?_⟩;have em:i0 [] [((MW i:Key),v)]=[(MW i,v)]:=rfl;rw[em];refine k _ H3 _ ⟨t3.st.aside n3 no3,⟨t3.stp.s0,fun a o y nb=>?_,fun a o y=>?_,fun a o y=>?_⟩,t3.own,t3.dfn⟩ ⟨p,rfl,hp,no3,n3,_,au,rfl,.cons r3 .nil⟩
  ·have ne:a≠p:=fun q=>by rw[q,hp]at y;cases y
   rw[ak ne];exact t3.stp.s1 a o (by rw[ak ne];exact y) nb
  ·rcases t3.stp.s2 a o y with y1 | y1 | y1
   ·by_cases ne:a=p
    ·subst ne;rw[n3]at y;cases y
    ·rw[ak ne]at y1;exact .inl y1
   ·exact .inr (.inl y1)
   ·exact .inr (.inr y1)
  ·have ne:a≠p:=fun q=>by rw[q,hp]at y;cases y
   rw[ak ne];exact t3.stp.s3 a o (by rw[ak ne];exact y)
 ·cases e
end
theorem u1{k:Nat}{A:Around}(hr:aZ k A):A.units+1<cLine:=Nat.lt_of_le_of_lt (Nat.add_le_add_left (by decide) _) hr.units
section
variable{X:Cx}{a b e:Expr}{fa fb f:FE}{pos:Pos}{k:Nat}
theorem LH(ha:DE X a fa)(hb:DE X b fb):DE X (.Dict [some a] [b] pos) (Dm.eD1 fa fb):=PE.weak (B0 (yM ha hb BZ) rfl rfl (by simp) (by simp)) fun _ _ _=>LG
theorem G0(hr:aZ k X.A)(ha:DE X a fa)(hb:DE X b fb)(hs:BW b:=by intro _ _;rfl):DE X (.Subscript a b pos) (Dm.e2 Dm.gDx fa fb):=PE.weak (vq (u1 hr) ha hb hs) fun _ _ _=>oV JK
theorem JL(hr:aZ k X.A)(ha:DE X a fa)(hb:DE X b fb)(hm:behindInMarks .In b=false:=by rfl):DT X (.Compare a [.In] [b] pos) (Dm.tV (Dm.e2 Dm.zy fa fb)):=PT.weak (tw (yG (u1 hr) ha hb) hm) fun σ H Q h=>oV GY (kq h)
theorem zA(hr:aZ k X.A)(ha:DE X a fa)(hb:DE X b fb)(hm:behindInMarks .NotIn b=false:=by rfl):DT X (.Compare a [.NotIn] [b] pos) (Dm.tV (Dm.e2 Dm.nE fa fb)):=PT.weak (tw (xq (u1 hr) ha hb) hm) fun σ H Q h=>oV Cr (kq h)
theorem G1(i:Nat){x:Str}{px sp:Pos}(hr:aZ k X.A)(hb:DE X b fb)(he:DE X e f)(hi:X.N[i]?=some x:=by rfl)(hv:Vis X.env.scope x:=by trivial)(hd:(x == ("__debug__" : Str))=false:=by decide)
  (Fp:(x == ("__classdict__" : Str))=false:=by decide) (hs:swapsWith e (some (.Subscript (.Name x px) b sp)) pos.line X.env=pure false:=by rfl):DS X (.Assign [.Subscript (.Name x px) b sp] e pos) (Dm.nF i fb f):=
 PS.weak (vt (u1 hr) (c_ hi hv hd Fp) hb he hs) fun _ _ _=>GZ
end
end Br
namespace Dm
noncomputable def qG(a:FE)(lo hi:Option FE):FE:=fun ρ=>match a ρ with
 |none=>none
 |some (x,ρ1)=>match part lo ρ1 with
  |none=>none
  |some (l,ρ2)=>match part hi ρ2 with
   |none=>none
   |some (h,ρ3)=>match pk ρ3 x with
    |some (.tup xs)=>if sIx xs.length 0 l=0/\sIx xs.length xs.length h=xs.length then none else some (.val (.tup (cut xs l h)),ρ3)
    |_=>none
end Dm
namespace Br
open PySem PySem.Spec PyProof.Rows L2
section
variable{σ:L2.St}{H:Hp}{Q:VK}
theorem LI{K:Dp}{f:FE}{Q:Bool->Hp->Prop}(h:tDT (Dm.tTr f) σ H Q):tD f σ H fun x H'=>∃k,F9 K x H' k/\Q k H':=by
 obtain⟨H0,ρ,b,ρ',st,e,k⟩:=h;unfold Dm.tTr at e;split at e
 ·cases e
 rename_i x ρ1 e1;split at e
 ·cases e
 rename_i d p1;split at e
 ·cases e
 rename_i c tc;cases e;refine⟨H0,ρ,x,_,st,e1,fun v H1 Hb t1 r1=>⟨b,?_,k H1 Hb t1⟩⟩;have rl:=r1.look t1.st p1;cases d with
 |non=>
  cases tc;rcases rl with r | ⟨a,_,w⟩
  ·cases r;rfl
  ·exact MZ w
 |bl c=>cases tc;cases vD rl;rfl
 |int i=>cases tc;cases ay rl;rfl
 |tup es=>cases tc;obtain⟨a,xs,rfl,qa,rs⟩:=dI t1.st.same rl;refine .inr (.inl ⟨xs,SqT.of qa,?_⟩);cases rs<;>rfl
 |lst es=>cases tc;obtain⟨a,xs,rfl,qa,rs⟩:=br t1.st.same rl;refine .inl ⟨xs,.inl qa,?_⟩;cases rs<;>rfl
 |str _=>cases tc
 |dct _ _=>cases tc
 |dcp _ _=>cases tc
 |exc _=>cases tc
 |dc _ _=>cases tc
 |fn _=>cases tc
end
section
variable{X:Cx}{a:Expr}{fa:FE}{p pos:Pos}
theorem LK(ha:DE X a fa)(he:∀whole,isTrue a X.env whole=(do let v <- whole;standAt a.pos;holding [v] (truthy v)):=by intro _;rfl):DT X a (Dm.tTr fa):=PT.weak (yp ha he) fun _ _ _=>LI
end
section
variable{X:Cx}{a b e:Expr}{fa fb f:FE}{fs:List FE}{p p2 pos:Pos}
theorem JM{K:Dp}{lo hi:Option FE}{σ:L2.St}{H:Hp}{Q:VK}(h:tD (Dm.qG f lo hi) σ H Q):tSl (IY K) (tD f) (tOf lo) (tOf hi) σ H Q:=by
 obtain⟨H0,ρ,x,ρ',st,e,k⟩:=h;unfold Dm.qG at e;split at e
 ·cases e
 rename_i x1 ρ1 e1;split at e
 ·cases e
 rename_i l ρ2 e2;split at e
 ·cases e
 rename_i hh ρ3 e3;split at e
 ·rename_i ds p1;split at e
  ·cases e
  rename_i J9;cases e;refine⟨H0,ρ,x1,ρ1,st,e1,fun v H1 Hb t1 r1=>?_⟩;refine jS t1.st e2 fun H2 Hc t2=>?_;refine jS t2.st e3 fun H3 Hd t3=>?_;have tt:=t1.trans (t2.trans t3);obtain⟨a,xs,rfl,qa,ra⟩:=dI t3.st.same ((r1.mono (t2.trans t3)).look t3.st p1);refine⟨a,xs,rfl,SqT.of qa,?_,fun q hq=>?_⟩
  ·rw[ra.length,o5 _ _ _ (M5 _),o5 _ _ _ (Mn _)];exact J9
  ·have g:=aI.B3 (o:=HO.tup (mO xs l hh)) t3.st.same hq;exact k _ _ _ (tt.trans (.grow t3.st g)) (.tup au ((nC ra l hh).mono g.s0))
 ·cases e
theorem zB{lo hi:Option Expr}{flo fhi:Option FE}(h:DE X e f)(hl:PO X lo (tOf flo))(hh:PO X hi (tOf fhi)):DE X (.Subscript e (.Slice lo hi none p2) pos) (Dm.qG f flo fhi):=PE.weak (qj Gf h hl hh) fun _ _ _=>JM
end
end Br
namespace Dm
noncomputable def e7:List Dat->Option (List Int)
 |[]=>some []
 |.int i::r=>(e7 r).map fun ns=>i::ns
 |_=>none
end Dm
namespace Br
open PySem PySem.Spec PyProof.Rows L2
theorem kH{H0:Hp}:∀{ds:List Dat} {xs:List V} {ns:List Int},av H0 xs ds->Dm.e7 ds=some ns->xs=ns.map V.int
 |[],_,ns,r,e=>by cases r;cases e;rfl
 |d::ds,_,ns,r,e=>by
  cases r with
  |cons h t=>
   cases d with
   |int i=>
    unfold Dm.e7 at e;cases q:Dm.e7 ds with
    |none=>rw[q]at e;cases e
    |some ms=>rw[q]at e;cases e;cases Rep.isInt h;rw[kH t q];rfl
   |_=>cases e
end Br
namespace Ts
open PySem PyProof.Rows
variable{M:Model}{A:Around}{E:Value->Shared->Prop}{s:Shared}{κ:KeyKind}{kd:SortKind}{a₀:Array Keyed}
end Ts
namespace Ts
open PySem PyProof.Rows
variable{M:Model}{A:Around}{E:Value->Shared->Prop}{s:Shared}{κ:KeyKind}{kd:SortKind}{a₀:Array Keyed}
end Ts
namespace Ts
open PySem PyProof.Rows
variable{M:Model}{A:Around}{E:Value->Shared->Prop}{s:Shared}{κ:KeyKind}{kd:SortKind}{a₀:Array Keyed}
end Ts
namespace Ts
open PySem PyProof.Rows
variable{M:Model}{A:Around}{E:Value->Shared->Prop}{s:Shared}{κ:KeyKind}{kd:SortKind}{a₀:Array Keyed}
end Ts
namespace Ts
open PySem PyProof.Rows
variable{A:Around}{E:Value->Shared->Prop}{s:Shared}{κ:KeyKind}{kd:SortKind}{a₀:Array Keyed}{prog:Program}{w:World}
end Ts
namespace Ts
open PySem PyProof.Rows
variable{A:Around}{E:Value->Shared->Prop}{s:Shared}{κ:KeyKind}{kd:SortKind}{a₀:Array Keyed}{prog:Program}{w:World}
end Ts
namespace Ts
open PySem PyProof.Rows
variable{A:Around}{E:Value->Shared->Prop}{s:Shared}{κ:KeyKind}{kd:SortKind}{a₀:Array Keyed}{prog:Program}{w:World}
end Ts
namespace Ts
open PySem PyProof.Rows
variable{A:Around}{E:Value->Shared->Prop}{s:Shared}{κ:KeyKind}{kd:SortKind}{a₀:Array Keyed}{prog:Program}{w:World}
end Ts
namespace Ts
open PySem PyProof.Rows
variable{A:Around}{E:Value->Shared->Prop}{s:Shared}{κ:KeyKind}{kd:SortKind}{prog:Program}{w:World}
end Ts
namespace Ts
open PySem PyProof.Rows
variable{A:Around}{E:Value->Shared->Prop}{s:Shared}{κ:KeyKind}{kd:SortKind}{a₀:Array Keyed}{prog:Program}{w:World}
end Ts
namespace Ts
open PySem PyProof.Rows
variable{A:Around}{E:Value->Shared->Prop}{s:Shared}{κ:KeyKind}{kd:SortKind}{prog:Program}{w:World}
end Ts
namespace Dm
section
variable{α:Type}
noncomputable def ins{α:Type}(lt:α->α->Bool)(x:α):List α->List α
 |[]=>[x]
 |y::l=>if lt y x then y::ins lt x l else x::y::l
noncomputable def dM{α:Type}(lt:α->α->Bool):List α->List α
 |[]=>[]
 |x::l=>ins lt x (dM lt l)
theorem kI(lt:α->α->Bool)(x:α):∀l,(ins lt x l).Perm (x::l)
 |[]=>List.Perm.refl _
 |y::l=>by
  rw[ins];split
  ·exact((kI lt x l).cons y).trans (List.Perm.swap x y l)
  ·exact List.Perm.refl _
theorem gC(lt:α->α->Bool):∀l,(dM lt l).Perm l
 |[]=>List.Perm.refl _
 |x::l=>(kI lt x _).trans ((gC lt l).cons x)
theorem kJ{lt:α->α->Bool}(tr:∀a b c,lt b a=false->lt c b=false->lt c a=false)(as:∀a b,lt a b=true->lt b a=false)(x:α):∀l:List α,l.Pairwise (fun a b=>lt b a=false)->(ins lt x l).Pairwise (fun a b=>lt b a=false)
 |[],_=>by simp[ins]
 |y::l,h=>by
  rw[ins];obtain⟨h1,h2⟩:=NO.mp h;split
  ·rename_i hl;refine NO.mpr ⟨fun z hz=>?_,kJ tr as x l h2⟩;rcases Ms.mp ((kI lt x l).mem_iff.mp hz) with rfl | hz
   ·exact as _ _ hl
   ·exact h1 z hz
  ·rename_i hl;have hl':lt y x=false:=by simpa using hl
   refine NO.mpr ⟨fun z hz=>?_,h⟩;rcases Ms.mp hz with rfl | hz
   ·exact hl'
   ·exact tr _ _ _ hl' (h1 z hz)
theorem d8{lt:α->α->Bool}(tr:∀a b c,lt b a=false->lt c b=false->lt c a=false)(as:∀a b,lt a b=true->lt b a=false):∀l:List α,(dM lt l).Pairwise (fun a b=>lt b a=false)
 |[]=>Pd.nil
 |x::l=>kJ tr as x _ (d8 tr as l)
theorem fL{lt:α->α->Bool}(tot:∀a b,lt a b=false->lt b a=false->a=b):∀{l m:List α},l.Perm m->l.Pairwise (fun a b=>lt b a=false)->m.Pairwise (fun a b=>lt b a=false)->l=m
 |[],m,p,_,_=>(List.nil_perm.mp p).symm
 |x::l,[],p,_,_=>by have:=p.length_eq;simp at this
 |x::l,y::m,p,h1,h2=>by
  obtain⟨a1,a2⟩:=NO.mp h1;obtain⟨b1,b2⟩:=NO.mp h2;have e:x=y:=by
   rcases Ms.mp (p.mem_iff.mp Ds) with hx | hx
   ·exact hx
   ·rcases Ms.mp (p.mem_iff.mpr (Ds (a:=y) (l:=m))) with hy | hy
    ·exact hy.symm
    ·exact tot x y (b1 x hx) (a1 y hy)
  subst e;rw[fL tot (List.Perm.cons_inv p) a2 b2]
noncomputable def xG(i:Nat)(e:FE):FS:=fun ρ=>match ρ[i]? with
 | some (.ow (.lst _))=>(match e ρ with
  |none=>none
  |some (x,ρ1)=>match pk ρ1 x with
   | some (.lst es)=>(match ρ1[i]? with
    |some (.ow (.lst ds))=>if ds.length+es.length<=SZ then some (.nx (ρ1.set i (.ow (.lst (ds++es))))) else none
    |_=>none)
   |_=>none)
 |_=>none
noncomputable def jb(i:Nat)(e:FE):FE:=fun ρ=>match ρ[i]? with
 | some (.ow (.lst _))=>(match e ρ with
  | some (.val (.int j),ρ1)=>(match ρ1[i]? with
   | some (.ow (.lst ds))=>if 0≤j∧j≤BIG then (match ds[j.toNat]? with
     |some d=>some (.val d,ρ1.set i (.ow (.lst (ds.eraseIdx j.toNat))))
     |none=>none) else none
   |_=>none)
  |_=>none)
 |_=>none
noncomputable def isN:Dat->Bool
 |.non=>true
 |_=>false
noncomputable def zC:Dat->Dat->Option RV
 |d,.non=>vB (isN d)
 |_,_=>none
end
end Dm
namespace Br
open PySem PySem.Spec PyProof.Rows L2
theorem jc{H0:Hp}:∀ns:List Int,av H0 (ns.map V.int) (ns.map Dat.int)
 |[]=>.nil
 |n::ns=>.cons (.int n) (jc ns)
section
variable{X:Cx}{a b c e:Expr}{f fa fb:FE}{fs:List FE}{p pos:Pos}
def JN(neg:Bool):R2:=fun x y H Q=>y=.non/\Q (.bl (if neg then !decide (x=V.non) else decide (x=V.non))) H
theorem Cs{x:V}{v:Value}(r:RelV x v):(v == Value.none)=decide (x=V.non):=by
 cases x with
 |non=>cases r;rfl
 |bl b=>cases r;rfl
 |int i=>obtain⟨t,rfl⟩:=r;rfl
 |str z=>obtain⟨t,rfl⟩:=r;rfl
 |byt z=>obtain⟨t,rfl⟩:=r;rfl
 |flt z=>obtain⟨t,rfl⟩:=r;rfl
 |ref z=>cases r;rfl
 |ty z=>cases r;rfl
theorem G3:OpR X (compareOp .Is) (JN false):=by intro mW s σ H x y v u Q I rx ry h;obtain⟨rfl,q⟩:=h;cases ry;refine is_none_gen ?_;rw[Cs rx];exact⟨.bl _,H,I,rfl,q⟩
theorem vL{H0 H:Hp}{x:V}{d:Dat}(r:iG H0 H x d):decide (x=V.non)=Dm.isN d:=by
 rcases r with r | ⟨a,rfl,w⟩
 ·cases r<;>rfl
 ·cases d with
  |non=>exact MZ w
  |_=>rfl
theorem G4:OpD (JN false) Dm.zC:=by
 intro H0 H x y dx dy z Q s rx ry e k;unfold Dm.zC at e;split at e
 ·cases e;have hy:=vL ry;have:y=V.non:=of_decide_eq_true (hy.trans rfl);refine⟨this,?_⟩;rw[if_neg (by decide),vL rx];exact k _ H0 H (aI.refl s) (.bl _)
 ·cases e
theorem JO(ha:DE X a fa)(hb:DE X b fb):DE X (.Compare a [.Is] [b] pos) (Dm.e2 Dm.zC fa fb):=qy G3 G4 ha hb (dY _)
end
section
variable{X:Cx}
def EA:V->List V->Hp->VK->Prop:=fun x vs H Q=>∃l b xs zs,x=.ref l/\vs=[.ref b]/\H l=some (.lst xs)/\Rd H b (.lst zs)/\xs.length+zs.length<=sizeLine/\Q .non (upd H l (.lst (xs++zs)))
theorem Ct:MtM X "list.extend" EA:=by
 intro mW s σ H x vs v us Q I rx rv h;obtain⟨l,b,xs,zs,rfl,rfl,hH,hB,hz,q⟩:=h;cases rx;obtain⟨u,rfl,ru⟩:=rv.one;cases ru;obtain⟨z,its,n,r,hl,e⟩:=I.Gn hH;obtain⟨z2,its2,n2,r2,e2⟩:=hB.ok I.hok;have hl2:=r2.length;have tot:its.toArray.size+its2.toArray.size<=sizeLine:=by simp only[Ml];lia
 have short:¬(!its.toArray.isEmpty&&N1 (its.toArray.size+its2.toArray.size))=true:=by rw[qk tot,Bool.and_false];decide
 refine call_meets F.slot_list_extend ⟨_,e,rfl⟩ F.entry_list_extend (F.args_list_extend_2 _ _) (AutoSeq1.list_extend_list_list_0 l its.toArray n b its2.toArray n2 short (by rw[Ml];lia) (by lia)) ⟨e,e2,?_⟩;exact⟨.non,_,I.Gk (its':=its++its2) hH e (by simp) (r.append r2) (by rw[MA];lia),rfl,q⟩
end
section
variable{σ:L2.St}{H:Hp}{Q:VK}{D:Ends}
section
variable{f:FE}{i:Nat}{K:Dp}
theorem JP(h:tDS (Dm.xG i f) D σ H):qd (tBM K "list" EA (jE i) (tDA [f])) D σ H:=by
 obtain⟨H0,ρ,o,st,e,k⟩:=h;unfold Dm.xG at e;split at e
 case h_2=>cases e
 rename_i ds0 h0;obtain⟨a0,q0,n0,w0⟩:=st.ow i _ h0;refine⟨_,q0,?_⟩;split at e
 ·cases e
 rename_i x ρ1 e1;split at e
 case h_2=>cases e
 rename_i es p1;split at e
 case h_2=>cases e
 rename_i ds h2;split at e
 case isFalse=>cases e
 rename_i hz;cases e;obtain⟨xs0,y0,_⟩:=w0;refine⟨.inl ⟨rfl,xs0,.inl (.inl y0)⟩,?_⟩;refine⟨H0,ρ,[x],ρ1,st,by unfold Dm.eAs;rw[e1];rfl,fun vs H0' H' t r=>?_⟩;cases r with
 |cons r rr=>
  cases rr;obtain⟨b,zs,rfl,qb,rb⟩:=br t.st.same (r.look t.st p1);obtain⟨a,q,n,w⟩:=t.st.ow i _ h2;rw[q0]at q;cases q;obtain⟨xs,y,rs⟩:=w;refine⟨a0,b,xs,zs,rfl,rfl,y,qb,by rw[rs.length,rb.length];exact MH hz (by decide),?_⟩;have ow:aj σ ρ1 a0:=⟨i,_,h2,q0⟩
  exact k σ H0' _ ⟨t.st.write h2 q0 ⟨_,au,rs.append rb⟩,t.stp.trans (Stp.write ow) fun b z=>.inl (t.own b z),fun b z=>.inl (t.own b (bE h2 z)),rfl⟩
theorem kK{α:Type}(l:List α)(i:Nat):l.eraseIdx i=l.take i++l.drop (i+1):=List.eraseIdx_eq_take_drop_succ l i
theorem t8{H0:Hp}{vs:List V}{ds:List Dat}(i:Nat)(r:av H0 vs ds):av H0 (vs.eraseIdx i) (ds.eraseIdx i):=by rw[kK,kK];exact(r.take i).append (r.drop (i+1))
theorem Cu(h:tD (Dm.jb i f) σ H Q):tBM K "list" yw (jE i) (tDA [f]) σ H Q:=by
 obtain⟨H0,ρ,x,ρ',st,e,k⟩:=h;unfold Dm.jb at e;split at e
 case h_2=>cases e
 rename_i ds0 h0;obtain⟨a0,q0,n0,w0⟩:=st.ow i _ h0;refine⟨_,q0,?_⟩;obtain⟨xs0,y0,_⟩:=w0;refine⟨.inl ⟨rfl,xs0,.inl (.inl y0)⟩,?_⟩;split at e
 case h_2=>cases e
 rename_i j ρ1 e1;split at e
 case h_2=>cases e
 rename_i ds h2;split at e
 case isFalse=>cases e
 rename_i hb;split at e
 case h_2=>cases e
 rename_i d hd;cases e;refine⟨H0,ρ,[.val (.int j)],ρ1,st,by unfold Dm.eAs;rw[e1];rfl,fun vs H0' H' t r=>?_⟩;cases r with
 |cons r rr=>
  cases rr;cases Rep.isInt r;obtain⟨a,q,n,w⟩:=t.st.ow i _ h2;rw[q0]at q;cases q;obtain⟨xs,y,rs⟩:=w;obtain⟨v,hv,rv⟩:=rs.get hd;have EM:j.toNat<xs.length:=(Mq.mp hv).1;have hB:Dm.BIG=1000000000:=rfl;refine⟨a0,xs,j,j.toNat,v,rfl,rfl,y,by lia,by lia,?_,hv,?_⟩
  ·unfold seqIndex?;simp only[show ¬j<0 by lia,if_false];rw[if_pos (by rw[decide_eq_true (show 0<=j by lia),decide_eq_true (show j<(xs.length:Int) by lia)];rfl)]
  have ow:aj σ ρ1 a0:=⟨i,_,h2,q0⟩
  have hi:i<ρ1.length:=(Mq.mp h2).1;refine k v H0' _ (t.trans ⟨t.st.write h2 q0 ⟨_,au,t8 _ rs⟩,Stp.write ow,fun b z=>bE h2 z,fun j' z=>trivial⟩) rv
end
end
section
variable{X:Cx}{e:Expr}{f:FE}{pos:Pos}
theorem JQ(i:Nat){x:Str}{px ap cp:Pos}(he:DE X e f)(hi:X.N[i]?=some x:=by rfl)(hv:Vis X.env.scope x:=by trivial)(hd:(x == ("__debug__" : Str))=false:=by decide)
  (Fp:(x == ("__classdict__" : Str))=false:=by decide) (J7:attributeBase (.Name x px) "extend" X.env (eval (.Name x px) X.env)=eval (.Name x px) X.env:=by rfl)
  (hfew:((backTo cp (starEach [e] X.env)).all (fun x=>!x.1)&&(backToKw cp (keywordEach [] X.env)).all (fun x=>x.1.isSome)
   && decide ([e].length+([]:List Keyword).length+(if ([]:List Keyword).isEmpty then 0 else 1)<30))=true:=by rfl)
  (J6:(ap.endLine == cp.line)=true:=by rfl) (hs:starEach [e] X.env=(false,eval e X.env)::starEach [] X.env:=by rfl) (EF:(backTo cp (starEach [] X.env)).any (·.1)=false:=by rfl)
  (hsw:swapsWith (.Call (.Attribute (.Name x px) "extend" ap) [e] [] cp) none pos.line X.env=pure false:=by rfl) :
  DS X (.Expr (.Call (.Attribute (.Name x px) "extend" ap) [e] [] cp) pos) (Dm.xG i f):=
 PS.weak (jM (vn N4 PySem.F.slot_list_extend PySem.F.type_list_extend Ct (c_ hi hv hd Fp) (aa he af hs) J7 hfew J6 hs EF) hsw) fun _ _ _=>JP
theorem Cv(i:Nat){x:Str}{px ap cp:Pos}(he:DE X e f)(hi:X.N[i]?=some x:=by rfl)(hv:Vis X.env.scope x:=by trivial)(hd:(x == ("__debug__" : Str))=false:=by decide)
  (Fp:(x == ("__classdict__" : Str))=false:=by decide) (J7:attributeBase (.Name x px) "pop" X.env (eval (.Name x px) X.env)=eval (.Name x px) X.env:=by rfl)
  (hfew:((backTo cp (starEach [e] X.env)).all (fun x=>!x.1)&&(backToKw cp (keywordEach [] X.env)).all (fun x=>x.1.isSome)
   && decide ([e].length+([]:List Keyword).length+(if ([]:List Keyword).isEmpty then 0 else 1)<30))=true:=by rfl)
  (J6:(ap.endLine == cp.line)=true:=by rfl) (hs:starEach [e] X.env=(false,eval e X.env)::starEach [] X.env:=by rfl) (EF:(backTo cp (starEach [] X.env)).any (·.1)=false:=by rfl) :
  DE X (.Call (.Attribute (.Name x px) "pop" ap) [e] [] cp) (Dm.jb i f):=
 PE.weak (vn N4 PySem.F.slot_list_pop PySem.F.type_list_pop yx (c_ hi hv hd Fp) (aa he af hs) J7 hfew J6 hs EF) fun _ _ _=>Cu
end
end Br
namespace L2
open PySem PySem.Spec PyProof.Rows
section
variable{P:Program}{w:World}{K:Dp}{mg:Str->Option Value}{base:Heap}{N:List Str}{qual:Str}{scope:Scope}{f:Addr}{cd:Value}{A:Around}{outer:List Env}{s₀:Shared}{H₀:Hp}{E:XK}{C:Addr}
 {mW:List (Addr×Obj)} {σ:St} {H:Hp} {s:Shared}
end
section
variable{X:Cx}{mW:List (Addr×Obj)}{σ:L2.St}{H:Hp}{s:Shared}
theorem Inv.JR(I:Inv X mW σ H s){ea:Addr}{o:HO}(n:H ea=none)(hok:aO X.prog X.w (upd H ea o) s.heap ea o)(n0:X.s₀.heap.get? ea=none)(nl:ea≠X.env.locals)(nc:∀x c,X.env.cells.lookup x=some c->c≠ea)
  (np:∀p∈X.pn++mW,p.1≠ea):Inv X mW σ (upd H ea o) s:=by
 have ne:∀b u,H b=some u->b≠ea:=fun b u e z=>by rw[z,n]at e;cases e
 have n1:∀b u,X.s₀.heap.get? b=some u->b≠ea:=fun b u e z=>by rw[z,n0]at e;cases e
 refine⟨I.ok,I.os,I.bare,⟨I.base.keep,I.base.slot,fun b u e q hx=>?_,I.base.there,fun b xs e=>?_,fun b u v e=>?_,fun b x1 x2 x3 e=>?_⟩,I.loc,I.cell,?_,fun x c e=>?_,fun p hp=>?_,fun b u e=>?_,I.len⟩
 ·rw[ak (n1 b u e)];exact I.base.free b u e q hx
 ·have:=I.base.tups b xs e;rw[ak (ne b _ this)];exact this
 ·have:=I.base.mK b u v e;rw[ak (ne b _ this)];exact this
 ·have:=I.base.oF b _ _ _ e;rw[ak (ne b _ this)];exact this
 ·rw[ak (Ne.symm nl)];exact I.free
 ·rw[ak (nc x c e)];exact I.fm x c e
 ·obtain⟨e,q,a,b,d⟩:=I.pin p hp;exact⟨e,by rw[ak (np p hp)];exact q,a,b,d⟩
 ·by_cases hb:b=ea
  ·subst hb;rw[au]at e;cases e;exact hok
  ·rw[ak hb]at e;exact(I.hok b u e).stay (fun c v _ q=>q) (fun c q=>by rw[ak (ne c _ q)];exact q) (fun c _ _ q=>by rw[ak (ne c _ q)];exact q) fun c xs q=>by rw[ak (ne c _ q)];exact q
end
end L2
namespace Br
open PySem PySem.Spec PyProof.Rows L2
section
variable{X:Cx}
theorem vM{ns:List Int}{its:List Value}(rv:Vals (ns.map V.int) its):∀(i:Nat) (v:Value),its.toArray[i]?=some v->∃t,v=.int (ns.getD i 0) t:=by
 intro i v hv;have hv':its[i]?=some v:=by simpa using hv
 have uH:=rv.length;rw[Mj]at uH;have hi:i<ns.length:=by rw[uH];exact(Mq.mp hv').1
 have hb:(ns.map V.int)[i]?=some (V.int ns[i]):=by rw[MS,Mp hi];rfl
 obtain⟨u,hu,ru⟩:=rv.get hb;rw[hv']at hu;cases hu;obtain⟨t,rfl⟩:=ru;exact⟨t,by rw[ME,Mp hi];rfl⟩
theorem kL:∀{H0:Hp} {us:List V} {ds:List Dat} {ns:List Int},av H0 us ds->Dm.e7 ds=some ns->us=ns.map V.int
 |_,_,_,_,.nil,h=>by cases h;rfl
 |_,_,_,_,.cons (ds:=ds) (d:=d) r rr,h=>by
  cases d with
  |int i=>
   rw[Dm.e7]at h;cases hn:Dm.e7 ds with
   |none=>rw[hn]at h;cases h
   |some ms=>rw[hn]at h;cases h;have:=Rep.isInt r;subst this;rw[kL rr hn];rfl
  |_=>cases h
end
end Br
namespace Dm
noncomputable abbrev FN:=Env->List (List Dat)->Option (Env×List (List Dat))
noncomputable def qH(s u:FN):FN:=fun ρ r=>match s ρ r with
 |none=>none
 |some (ρ1,r1)=>u ρ1 r1
noncomputable def nIf(t:FT)(a b:FN):FN:=fun ρ r=>match t ρ with
 |none=>none
 |some (true,ρ1)=>a ρ1 r
 |some (false,ρ1)=>b ρ1 r
noncomputable def o6(i e:FE):FN:=fun ρ r=>match i ρ with
 | some (.val (.int k),ρ1)=>(match ixN r.length k with
  |none=>none
  |some m=>match r[m]? with
   |none=>none
   |some row=>match e ρ1 with
    |none=>none
    |some (x,ρ2)=>match tk ρ2 x with
     |none=>none
     |some (d,ρ3)=>if row.length<SZ then some (ρ3,r.set m (row++[d])) else none)
 |_=>none
noncomputable def nA(j i:Nat)(e:FE):FN:=fun ρ r=>if i=j then none else match sA i e ρ with
 |some (.nx ρ1)=>some (ρ1,r)
 |_=>none
noncomputable def cE(bd:FB)(body:FN):List Dat->FN
 |[],ρ,r=>some (ρ,r)
 |d::q,ρ,r=>match bd d ρ with
  |none=>none
  |some ρ1=>match body ρ1 r with
   |none=>none
   |some (ρ2,r2)=>cE bd body q ρ2 r2
noncomputable def iN(it:FI)(bd:FB)(body:FN):FN:=fun ρ r=>match it ρ with
 |none=>none
 |some (ds,ρ1)=>cE bd body ds ρ1 r
noncomputable def nMk(bd:FB):List Dat->Env->Option Env
 |[],ρ=>some ρ
 |d::r,ρ=>match bd d ρ with
  |none=>none
  |some ρ1=>nMk bd r ρ1
noncomputable def e8(j:Nat)(it:FI)(own:Nat)(bd:FB)(J5:FN):FS:=fun ρ=>if j=0 then none else match it ρ with
 |none=>none
 | some (ds,ρ1)=>if ds.length≤SZ then (match nMk bd ds (ρ1++Mk own .un) with
  |none=>none
  |some ρ2=>match J5 ((ρ2.take ρ1.length).set j .un) (Mk ds.length []) with
   |none=>none
   |some (ρ3,r)=>some (.nx (ρ3.set j (.ow (.lst (r.map .lst)))))) else none
mutual
noncomputable def aN:Dat->Bool
 |.tup xs=>di xs
 |.lst xs=>di xs
 |.dct _ _=>false
 |.dcp _ _=>false
 |.exc _=>false
 |.dc _ _=>false
 |_=>true
noncomputable def di:List Dat->Bool
 |[]=>true
 |x::r=>aN x&&di r
end
noncomputable def tkd(ρ:Env):Val->Option (Dat×Env)
 |.val d=>some (d,ρ)
 |.new d=>some (d,ρ)
 |.slot i=>match ρ[i]? with
  |some (.ow (.dct ks vs))=>some (.dct ks vs,ρ)
  |some (.ow d)=>some (d,ρ.set i (.sh d))
  |some (.sh d)=>some (d,ρ)
  |_=>none
noncomputable def t9(ρ:Env):List Val->Option (List Dat×Env)
 |[]=>some ([],ρ)
 |x::r=>match tkd ρ x with
  |none=>none
  |some (d,ρ1)=>match t9 ρ1 r with
   |none=>none
   |some (ds,ρ2)=>some (d::ds,ρ2)
noncomputable def eFd(f:List Dat->Option RV)(as:List FE):FE:=fun ρ=>match eAs as ρ with
 |none=>none
 |some (xs,ρ1)=>match t9 ρ1 xs with
  |none=>none
  |some (ds,ρ2)=>match f ds with
   |none=>none
   |some v=>if aN v.dat then some (v.bA,ρ2) else none
end Dm
namespace Br
open PySem PySem.Spec PyProof.Rows L2
section
variable{H0 H:Hp}{rows:List (List Dat)}{ps:List Addr}{H0s Hs:Hp}{ρs:Dm.Env}{σs:L2.St}{ρ ρ':Dm.Env}{j:Nat}{σ:L2.St}{b:Addr}
def aP(H0 H:Hp):List Addr->List (List Dat)->Prop
 |[],[]=>True
 |p::ps,r::rs=>(∃xs,H p=some (.lst xs)/\av H0 xs r)/\aP H0 H ps rs
 |_,_=>False
theorem aP.len:∀{ps:List Addr} {rs:List (List Dat)},aP H0 H ps rs->ps.length=rs.length
 |[],[],_=>rfl
 |_::_,_::_,h=>by simp[aP.len h.2]
theorem aP.get:∀{ps:List Addr} {rs:List (List Dat)} {i:Nat} {r:List Dat},aP H0 H ps rs->rs[i]?=some r->∃p xs,ps[i]?=some p/\H p=some (.lst xs)/\av H0 xs r
 |[],[],_,_,_,e=>by simp at e
 |p::_,_::_,0,_,h,e=>by simp at e;subst e;obtain⟨xs,h1,h2⟩:=h.1;exact⟨p,xs,rfl,h1,h2⟩
 |_::_,_::_,i+1,_,h,e=>by obtain⟨p,xs,h1,h2⟩:=aP.get (i:=i) h.2 (by simpa using e);exact⟨p,xs,by simpa using h1,h2⟩
theorem aP.mono{H0 H H0' H':Hp}:∀{ps:List Addr} {rs:List (List Dat)},aP H0 H ps rs->ao H0 H0'->(∀p∈ps,H' p=H p)->aP H0' H' ps rs
 |[],[],_,_,_=>trivial
 |p::ps,r::rs,h,s,k=>by obtain⟨⟨xs,h1,h2⟩,h3⟩:=h;exact⟨⟨xs,by rw[k p Ds];exact h1,h2.mono s⟩,aP.mono h3 s fun q hq=>k q (Dk _ hq)⟩
theorem aP.set{p:Addr}{xs:List V}{r:List Dat}(w:av H0 xs r):∀{ps:List Addr} {rs:List (List Dat)} {i:Nat},aP H0 H ps rs->ps.Nodup->ps[i]?=some p->aP H0 (upd H p (.lst xs)) ps (rs.set i r)
 |[],[],_,_,_,e=>by simp at e
 |q::ps,_::rs,0,h,n,e=>by simp at e;subst e;refine⟨⟨xs,au,w⟩,h.2.mono (ao.refl _) fun y hy=>ak fun z=>?_⟩;subst z;exact(MB.mp n).1 hy
 |q::ps,_::rs,i+1,h,n,e=>by
  have e':ps[i]?=some p:=by simpa using e
  obtain⟨⟨ys,h1,h2⟩,h3⟩:=h;obtain⟨n1,n2⟩:=MB.mp n;refine⟨⟨ys,?_,h2⟩,aP.set w h3 n2 e'⟩;rw[ak fun z=>?_]
  ·exact h1
  ·subst z;exact n1 (NC e')
theorem aP.some:∀{ps:List Addr} {rs:List (List Dat)},aP H0 H ps rs->∀p∈ps,∃o,H p=some o
 |[],[],_,_,h=>by cases h
 |q::ps,_::rs,h,p,hp=>by
  rcases Ms.mp hp with rfl | hp
  ·obtain⟨xs,h1,_⟩:=h.1;exact⟨_,h1⟩
  ·exact aP.some h.2 p hp
structure NS(j:Nat)(σs:L2.St)(ρs:Dm.Env)(H0s Hs:Hp)(σ:L2.St)(ρ:Dm.Env)(H0 H:Hp)(rows:List (List Dat)):Prop where
 st:az H0 H σ ρ
 stp:Stp (aj σs ρs) H0s Hs H0 H
 own:∀a,aj σ ρ a->aj σs ρs a\/Hs a=none
 fx:σ[0]?=σs[0]?
 ex:∃(L:Addr) (ps:List Addr),σ[j]?=some (some (.ref L))/\Hs L=none/\H0 L=none/\¬aj σ ρ L/\H L=some (.lst (ps.map V.ref))/\(L::ps).Nodup/\(∀p∈ps,Hs p=none/\H0 p=none/\¬aj σ ρ p)/\aP H0 H ps rows
theorem NS.est{H0 H H0' H':Hp}(n:NS j σs ρs H0s Hs σ ρ H0 H rows)(t:ESt σ ρ H0 H ρ' H0' H'):NS j σs ρs H0s Hs σ ρ' H0' H' rows:=by
 obtain⟨L,ps,h1,h2,h3,h4,h5,h6,h7,h8⟩:=n.ex;obtain⟨k1,k2,k3⟩:=t.cB h5 h3 h4;refine⟨t.st,n.stp.trans t.stp n.own,fun a z=>n.own a (t.own a z),n.fx,L,ps,h1,h2,k2,k3,k1,h6,fun p hp=>?_,h8.mono t.stp.s0 fun p hp=>?_⟩
 ·obtain⟨q1,q2,q3⟩:=h7 p hp;obtain⟨o,q4⟩:=h8.some p hp;obtain⟨z1,z2,z3⟩:=t.cB q4 q2 q3;exact⟨q1,z2,z3⟩
 ·obtain⟨q1,q2,q3⟩:=h7 p hp;obtain⟨o,q4⟩:=h8.some p hp;obtain⟨z1,z2,z3⟩:=t.cB q4 q2 q3;rw[z1,q4]
theorem NS.bind{σ σ':L2.St}(n:NS j σs ρs H0s Hs σ ρ H0 H rows)(st:az H0 H σ' ρ')(o:∀a,aj σ' ρ' a->aj σ ρ a)(hj:σ'[j]?=σ[j]?)(h0:σ'[0]?=σ[0]?):NS j σs ρs H0s Hs σ' ρ' H0 H rows:=by obtain⟨L,ps,h1,h2,h3,h4,h5,h6,h7,h8⟩:=n.ex;exact⟨st,n.stp,fun a z=>n.own a (o a z),h0.trans n.fx,L,ps,hj.trans h1,h2,h3,fun z=>h4 (o L z),h5,h6,fun p hp=>⟨(h7 p hp).1,(h7 p hp).2.1,fun z=>(h7 p hp).2.2 (o p z)⟩,h8⟩
noncomputable def qI(H0 H:Hp)(ps:List Addr):Hp:=fun b=>if b∈ps then H b else H0 b
theorem o7(h:b∈ps):qI H0 H ps b=H b:=by unfold qI;rw[if_pos h]
theorem fM(h:b∉ps):qI H0 H ps b=H0 b:=by unfold qI;rw[if_neg h]
theorem xH(s:ao H0 H):ao H0 (qI H0 H ps):=fun b o e=>by
 by_cases q:b∈ps
 ·rw[o7 q];exact s _ _ e
 ·rw[fM q];exact e
theorem zD(s:ao H0 H):ao (qI H0 H ps) H:=fun b o e=>by
 by_cases q:b∈ps
 ·rw[o7 q]at e;exact e
 ·rw[fM q]at e;exact s _ _ e
theorem aP.reps{H0 H H1:Hp}:∀{ps:List Addr} {rs:List (List Dat)},aP H0 H ps rs->ao H0 H1->(∀p∈ps,H1 p=H p)->av H1 (ps.map V.ref) (rs.map Dat.lst)
 |[],[],_,_,_=>.nil
 |p::ps,r::rs,h,s,k=>by obtain⟨⟨xs,h1,h2⟩,h3⟩:=h;exact .cons (.lst (.inl ((k p Ds).trans h1)) (h2.mono s)) (aP.reps h3 s fun q hq=>k q (Dk _ hq))
theorem NS.done{ρ:Dm.Env}(n:NS j σs ρs H0s Hs σ ρ H0 H rows):∃H0',SSt σs ρs H0s Hs σ (ρ.set j (.ow (.lst (rows.map Dat.lst)))) H0' H:=by
 obtain⟨L,ps,h1,h2,h3,h4,h5,h6,h7,h8⟩:=n.ex;obtain⟨n1,n2⟩:=MB.mp h6;have ss:=xH (ps:=ps) n.st.same;have st:az (qI H0 H ps) H σ ρ:={
  same:=zD n.st.same
  len:=n.st.len
  sh:=fun i d h=>by obtain⟨v,z,r⟩:=n.st.sh i d h;exact⟨v,z,r.mono ss⟩
  ow:=fun i d h=>by obtain⟨b,z,q,w⟩:=n.st.ow i d h;have nb:b∉ps:=fun y=>(h7 b y).2.2 ⟨i,d,h,z⟩;exact⟨b,z,by rw[fM nb];exact q,w.mono ss rfl⟩
  dis:=n.st.dis }
 refine⟨qI H0 H ps,st.ja h1 h4 (by rw[fM n1];exact h3) ⟨_,h5,h8.reps ss fun p hp=>o7 hp⟩,⟨n.stp.s0.trans ss,n.stp.s1,fun a o e=>?_,n.stp.s3⟩,fun a z=>?_,n.fx⟩
 ·by_cases q:a∈ps
  ·exact .inl (h7 a q).1
  ·rw[fM q]at e;exact n.stp.s2 a o e
 ·obtain⟨i,d,z1,z2⟩:=z;by_cases q:j=i
  ·subst q;rw[h1]at z2;cases z2;exact .inr h2
  ·rw[gV q]at z1;exact n.own a ⟨i,d,z1,z2⟩
def tDN(j:Nat)(f:Dm.FN):TS:=fun D σ H=>∃σs ρs H0s Hs H0 ρ rows ρ' rows',NS j σs ρs H0s Hs σ ρ H0 H rows/\f ρ rows=some (ρ',rows')/\∀σ' H0' H',NS j σs ρs H0s Hs σ' ρ' H0' H' rows'->ao H0 H0'->D.nx σ' H'
end
section
variable{D:Ends}{σ:L2.St}{H:Hp}{j:Nat}
theorem G5{s u:Dm.FN}(h:tDN j (Dm.qH s u) D σ H):tE (tDN j s) (tDN j u) D σ H:=by
 obtain⟨σs,ρs,H0s,Hs,H0,ρ,rows,ρ',rows',n,e,k⟩:=h;unfold Dm.qH at e;split at e
 ·cases e
 rename_i ρ1 r1 e1;exact⟨σs,ρs,H0s,Hs,H0,ρ,rows,ρ1,r1,n,e1,fun σ' H0' H' n' s1=>⟨σs,ρs,H0s,Hs,H0',ρ1,r1,ρ',rows',n',e,fun σ2 H2 Hc n2 s2=>k σ2 H2 Hc n2 (s1.trans s2)⟩⟩
theorem JS{t:FT}{a b:Dm.FN}(h:tDN j (Dm.nIf t a b) D σ H):FG (tDT t) (tDN j a) (tDN j b) D σ H:=by
 obtain⟨σs,ρs,H0s,Hs,H0,ρ,rows,ρ',rows',n,e,k⟩:=h;unfold Dm.nIf at e;split at e
 ·cases e
 ·rename_i ρ1 e1;refine⟨H0,ρ,true,ρ1,n.st,e1,fun H1 Hb t1=>?_⟩;dsimp only;rw[if_pos rfl];exact⟨σs,ρs,H0s,Hs,H1,ρ1,rows,ρ',rows',n.est t1,e,fun σ2 H2 Hc n2 s2=>k σ2 H2 Hc n2 (t1.stp.s0.trans s2)⟩
 ·rename_i ρ1 e1;refine⟨H0,ρ,false,ρ1,n.st,e1,fun H1 Hb t1=>?_⟩;dsimp only;rw[if_neg MG];exact⟨σs,ρs,H0s,Hs,H1,ρ1,rows,ρ',rows',n.est t1,e,fun σ2 H2 Hc n2 s2=>k σ2 H2 Hc n2 (t1.stp.s0.trans s2)⟩
theorem G6{fi:Dm.FI}{bd:Dm.FB}{g:TG}{body:Dm.FN}{is:List Nat}(hb:BD is g bd)(hj:j∉is)(h:tDN j (Dm.iN fi bd body) D σ H):FU (tDI fi) g (tDN j body) D σ H:=by
 obtain⟨σs,ρs,H0s,Hs,H0,ρ,rows,ρ',rows',n,e,k⟩:=h;unfold Dm.iN at e;split at e
 ·cases e
 rename_i ys ρ1 e1;refine⟨H0,ρ,ys,ρ1,n.st,e1,fun J H00 Hb t1 jw=>?_⟩;refine ⟨fun i m σ H=>∃ H0 ρ rows,NS j σs ρs H0s Hs σ ρ H0 H rows∧ao H00 H0∧m=ys.length-i∧i≤ys.length∧Dm.cE bd body (ys.drop i) ρ rows=some (ρ',rows'),
  ⟨ys.length,H00,ρ1,rows,n.est t1,ao.refl _,by simp,M5 _,by simpa using e⟩,?_⟩
 rintro i m σ H ⟨H0,ρ,rows,n,s00,rfl,hi,e⟩;obtain⟨js,jg⟩:=jw H0 H s00 n.st.same;by_cases EM:i<ys.length
 ·have hd:ys[i]?=some ys[i]:=by simp[EM]
  obtain⟨g1,g2⟩:=jg i ys[i] hd;rw[NV EM]at e;unfold Dm.cE at e;refine .inr ⟨g1,fun σ' H'=>∃H0 ρ rows,NS j σs ρs H0s Hs σ' ρ H0 H' rows/\ao H00 H0/\Dm.cE bd body (ys.drop (i+1)) ρ rows=some (ρ',rows'),?_,fun x H' y=>?_⟩
  ·rintro σ' H' ⟨H0',ρ2,r2,h1,h2,h3⟩;exact⟨ys.length-(i+1),by lia,H0',ρ2,r2,h1,h2,rfl,EM,h3⟩
  ·obtain⟨H0',gr,rx⟩:=g2 x H' y;split at e
   ·cases e
   ·rename_i ρ2 e2;have t2:=ESt.grow n.st gr;have n2:=n.est t2;refine hb H0' H' σ ρ ρ2 x ys[i] _ t2.st rx e2 fun σ2 st2 o2 k2 _ f2=>?_;have n3:=n2.bind st2 o2 (k2 j hj) f2;have s3:ao H00 H0':=s00.trans gr.s0;split at e
    ·cases e
    ·rename_i ρ3 r3 e3;refine⟨σs,ρs,H0s,Hs,H0',ρ2,rows,ρ3,r3,n3,e3,fun σ4 H4 Hd n4 s4=>⟨H4,ρ3,r3,n4,s3.trans s4,e⟩⟩
 ·have e':i=ys.length:=by lia
  subst e';rw[Oo]at e;cases e;exact .inl ⟨js _ (Mn _),k σ H0 H n (t1.stp.s0.trans s00)⟩
theorem G7{K:Dp}{fi f:FE}(h:tDN j (Dm.o6 fi f) D σ H):qd (tBM K "list" oS (tOp (Gg K) (jE j) (tD fi)) (tDA [f])) D σ H:=by
 obtain⟨σs,ρs,H0s,Hs,H0,ρ,rows,ρ',rows',n,e,k⟩:=h;unfold Dm.o6 at e;split at e
 case h_2=>cases e
 rename_i z ρ1 e1;split at e
 ·cases e
 rename_i m em;split at e
 ·cases e
 rename_i row er;split at e
 ·cases e
 rename_i x ρ2 e2;split at e
 ·cases e
 rename_i d ρ3 e3;split at e
 case isFalse=>cases e
 rename_i hz;cases e;obtain⟨L,ps0,h1,_⟩:=n.ex;refine⟨_,h1,H0,ρ,_,ρ1,n.st,e1,fun y H1 Hb t1 r1=>?_⟩;have n1:=n.est t1;obtain⟨L',ps,q1,q2,q3,q4,q5,q6,q7,q8⟩:=n1.ex;rw[h1]at q1;cases q1;obtain⟨q,xs,hq,hqx,hqr⟩:=q8.get er;have hqm:q∈ps:=NC hq;refine⟨L,ps.map V.ref,z,V.ref q,rfl,Rep.isInt r1,.inl (.inl q5),?_,.inl ⟨rfl,xs,.inl (.inl hqx)⟩,?_⟩
 ·show (L2.ixN (ps.map V.ref).length z).bind (fun j=>(ps.map V.ref)[j]?)=_;rw[Mj,q8.len,<- GB,em];show (ps.map V.ref)[m]?=_;rw[MS,hq];rfl
 refine⟨H1,ρ1,[x],ρ2,n1.st,by unfold Dm.eAs;rw[e2];rfl,fun vs H2 Hc t2 r2=>?_⟩;cases r2 with
 |cons r rr=>
  cases rr;obtain⟨H3,t3,b3,r3,_,_⟩:=take1 t2 (ao.refl _) r e3;have n3:=n1.est t3;obtain⟨L',ps',w1,w2,w3,w4,w5,w6,w7,w8⟩:=n3.ex;rw[h1]at w1;cases w1;obtain⟨k1,_,_⟩:=t3.cB q5 q3 q4;rw[k1]at w5;have ep:ps'=ps:=by
   have:ps.map V.ref=ps'.map V.ref:=by injection w5 with z;injection z
   exact((OP fun a b h=>by injection h).mp this).symm
  subst ep;obtain⟨q',ys,hq',hqy,JT⟩:=w8.get er;rw[hq]at hq';cases hq';have nL:L≠q:=fun z=>(MB.mp w6).1 (z▸hqm);refine⟨q,ys,_,rfl,rfl,hqy,by rw[JT.length];exact MF hz (by decide),?_⟩;obtain⟨z1,z2,z3⟩:=w7 q hqm;refine k σ H3 _ ⟨n3.st.aside z2 z3,n3.stp.aside z1,n3.own,n3.fx,L,ps',h1,w2,w3,w4,by rw[ak nL];exact k1,w6,w7,aP.set (JT.append (.cons r3 .nil)) w8 (MB.mp w6).2 hq⟩ (t1.stp.s0.trans t3.stp.s0)
theorem LL{i:Nat}{f:FE}(h:tDN j (Dm.nA j i f) D σ H):qe (tD f) (eX i) D σ H:=by
 obtain⟨σs,ρs,H0s,Hs,H0,ρ,rows,ρ',rows',n,e,k⟩:=h;unfold Dm.nA at e;split at e
 ·cases e
 rename_i hij;split at e
 case h_2=>cases e
 rename_i ρ9 e9;cases e;unfold Dm.sA at e9;split at e9
 ·cases e9
 rename_i hi0;split at e9
 ·cases e9
 ·rename_i d ρ1 e1;cases e9;refine⟨H0,ρ,_,ρ1,n.st,e1,fun v H0' H' t r=>?_⟩;obtain⟨a,e,n1,no,n0,w⟩:=r;subst e;have m:=n.est t;obtain⟨L0,ps0,y1,_,_,_,y5,_,y7,y8⟩:=n.ex;obtain⟨L,ps,h1,h2,h3,h4,h5,h6,h7,h8⟩:=m.ex;rw[y1]at h1;cases h1;obtain⟨k1,_,_⟩:=t.cB y5 (by assumption) (by assumption);rw[k1]at h5;have ep:ps=ps0:=by
   have:ps0.map V.ref=ps.map V.ref:=by injection h5 with z;injection z
   exact((OP fun a b h=>by injection h).mp this).symm
  subst ep;have nL:L0≠a:=fun z=>by rw[z,n1]at y5;cases y5
  have nP:∀p∈ps,p≠a:=fun p hp z=>by obtain⟨o,q⟩:=y8.some p hp;rw[z,n1]at q;cases q
  refine k _ H0' H' ⟨m.st.tX no n0 w,m.stp,fun b z=>?_,(gV hi0).trans m.fx,L0,ps,(gV hij).trans y1,h2,h3,fun z=>?_,k1,h6,fun p hp=>⟨(h7 p hp).1,(h7 p hp).2.1,fun z=>?_⟩,h8⟩ t.stp.s0
  ·rcases cI z with rfl | z
   ·exact .inr (n.stp.gone n1)
   ·exact m.own b z
  ·rcases cI z with z | z
   ·exact nL z
   ·exact h4 z
  ·rcases cI z with z | z
   ·exact nP p hp z
   ·exact(h7 p hp).2.2 z
 ·rename_i x ρ1 _ e1;split at e9
  ·cases e9
  ·rename_i d ρ2 e2;cases e9;refine⟨H0,ρ,_,ρ1,n.st,e1,fun v H0' H' t r=>?_⟩;obtain⟨H1,t1,b1,r1,_,_⟩:=take1 t (ao.refl _) r e2;exact k _ H1 H' ((n.est t1).bind (t1.st.oW r1) (fun b z=>cH z) (gV hij) (gV hi0)) t1.stp.s0
end
section
variable{bd:Dm.FB}{is:List Nat}{J5:Dm.FN}{j own:Nat}{fi:Dm.FI}{ρ:Dm.Env}{σ:L2.St}{g:TG}
theorem qJ{own:Nat}{Q:VK}{H00 Hb:Hp}{ρ1 ρ2:Dm.Env}{ds:List Dat}{J:It}(hb:BD is g bd)(hl:∀i∈is,σ.length<=i)
  (st1:az H00 Hb σ ρ1) (jw:JW J H00 ds) (hsz:ds.length<=Dm.SZ) (e2:Dm.nMk bd ds (ρ1++Mk own .un)=some ρ2) (D:Addr) (hD:Hb D=none)
  (k:∀ H0' H' (ps:List Addr),az H0' H' σ (ρ2.take ρ1.length)→Stp (aj σ ρ1) H00 Hb H0' H'→(∀ a,aj σ (ρ2.take ρ1.length) a→aj σ ρ1 a)→H' D=some (.lst (ps.map V.ref))→H0' D=none→(D::ps).Nodup→(∀ p∈ps,Hb p=none∧H0' p=none) →
   aP H0' H' ps (Mk ds.length [])->Q (.ref D) H') :
  ∃W:Nat->Nat->L2.St->Hp->Prop,(∃m,W 0 m (σ++Mk own none) (upd Hb D (.lst [])))/\∀i m σ' H',W i m σ' H' ->
  (J.stop i H'∧Q (.ref D) H')∨(J.go i H'∧∀ x H2,J.yld i H' x H2→g x σ' H2 fun σ2 H3=>yX σ2 H3 fun b H4=>if b=true
   then yq wZ σ2 H4 fun y H5=>∃Di,H5 D=some (.lst Di)/\Di.length<sizeLine/\∃m',m'<m/\W (i+1) m' σ2 (upd H5 D (.lst (Di++[y])))
   else ∃m',m'<m/\W (i+1) m' σ2 H4):=by
 have noD:¬aj σ ρ1 D:=st1.bB hD;refine ⟨fun i m σ' H'=>∃ (H0c:Hp) (ρc:Dm.Env) (ps:List Addr),az H0c H' σ' ρc∧ao H00 H0c∧m=ds.length-i∧i≤ds.length∧Dm.nMk bd (ds.drop i) ρc=some ρ2 ∧
  H' D=some (.lst (ps.map V.ref))/\ps.length=i/\H0c D=none/\(D::ps).Nodup/\(∀p∈ps,Hb p=none/\H0c p=none)/\aP H0c H' ps (Mk i [])/\Stp (aj σ ρ1) H00 Hb H0c H'/\(∀j,j<σ.length->σ'[j]?=σ[j]?)/\(∀a,aj σ' ρc a->aj σ ρ1 a),
  ⟨ds.length,H00,ρ1++Mk own .un,[],(st1.aside (st1.same.free hD) noD).ext own,ao.refl _,by simp,M5 _,by simpa using e2,au,rfl,st1.same.free hD,by simp,by simp,trivial,(Stp.refl _ _ _).aside hD,
   fun j hj=>Mz hj,fun a z=>i9 st1 z⟩,?_⟩
 rintro i m σ' H' ⟨H0c,ρc,ps,sc,s00,rfl,hi,ec,hDl,CP,n0,nd,hps,hro,sp,hσ,ho⟩;have nOc:¬aj σ' ρc D:=fun z=>noD (ho D z);have nOp:∀p∈ps,¬aj σ' ρc p:=fun p hp z=>st1.bB (hps p hp).1 (ho p z);obtain⟨js,jg⟩:=jw H0c H' s00 sc.same;by_cases EM:i<ds.length
 ·have hd:ds[i]?=some ds[i]:=by simp[EM]
  obtain⟨g1,g2⟩:=jg i ds[i] hd;rw[NV EM]at ec;unfold Dm.nMk at ec;refine .inr ⟨g1,fun y H2 yy=>?_⟩;obtain⟨H0',gr,rx⟩:=g2 y H2 yy;split at ec
  ·cases ec
  rename_i ρ3 e3;have t2:=ESt.grow sc gr;obtain⟨hD2,n02,no2⟩:=t2.cB hDl n0 nOc;refine hb H0' H2 σ' ρc ρ3 y ds[i] _ t2.st rx e3 fun σ3 st3 o3 k3 d3 _=>?_;unfold yX;dsimp only;rw[if_pos rfl];refine⟨M5 _,fun p hp=>?_⟩;have hpD:p≠D:=fun z=>by rw[z,hD2]at hp;cases hp
  have noP:¬aj σ3 ρ3 p:=st3.bB hp;have JU:∀q∈ps,q≠p:=fun q hq z=>by obtain⟨o,h1⟩:=hro.some q hq;have:=gr.s1 q o h1;rw[z,hp]at this;cases this
  refine⟨ps.map V.ref,by rw[ak (Ne.symm hpD)];exact hD2,?_,ds.length-(i+1),by lia,H0',ρ3,ps++[p],?_,s00.trans gr.s0,rfl,EM,ec,?_,by simp[CP],n02,?_,?_,?_,?_,?_,?_⟩
  ·rw[Mj,CP];unfold Dm.SZ at hsz;exact MF (MF EM hsz) (by decide)
  ·have no3:¬aj σ3 ρ3 D:=fun z=>no2 (o3 D z);exact(st3.aside (st3.same.free hp) noP).aside n02 no3
  ·rw[au,My];rfl
  ·rw[<- N2];refine Nh.mpr ⟨nd,by simp,fun a ha b hb=>?_⟩;rw[Mr.mp hb];rcases Ms.mp ha with rfl | ha
   ·exact Ne.symm hpD
   ·exact JU a ha
  ·intro q hq;rcases Mw.mp hq with hq | hq
   ·refine⟨(hps q hq).1,?_⟩;obtain⟨o,h1⟩:=hro.some q hq;exact(t2.cB h1 (hps q hq).2 (nOp q hq)).2.1
   ·rw[Mr.mp hq];exact⟨(sp.trans t2.stp fun a z=>.inl (ho a z)).gone hp,st3.same.free hp⟩
  ·have base:aP H0' (upd (upd H2 p (.lst [])) D (.lst (ps.map V.ref++[V.ref p]))) ps (Mk i []):=hro.mono gr.s0 fun q hq=>by
    have hqD:q≠D:=fun z=>(MB.mp nd).1 (z▸hq);obtain⟨o,h1⟩:=hro.some q hq;rw[ak hqD,ak (JU q hq),gr.s1 q o h1,h1]
   have app:∀{H0 H:Hp} {ps:List Addr} {rs:List (List Dat)} {p:Addr},aP H0 H ps rs->H p=some (.lst [])->aP H0 H (ps++[p]) (rs++[[]]):=by
    intro H0 H ps rs p h1 h2
    induction ps generalizing rs with
    |nil=>cases rs with
     |nil=>exact⟨⟨[],h2,.nil⟩,trivial⟩
     |cons _ _=>exact h1.elim
    |cons q ps ih=>cases rs with
     |nil=>exact h1.elim
     |cons r rs=>exact⟨h1.1,ih h1.2⟩
   have:=app base (p:=p) (by rw[ak hpD,au]);rw[List.replicate_succ'];exact this
  ·exact((sp.trans t2.stp fun a z=>.inl (ho a z)).aside ((sp.trans t2.stp fun a z=>.inl (ho a z)).gone hp)).aside hD
  ·exact fun j hj=>(k3 j fun z=>Oc.mpr (hl j z) hj).trans (hσ j hj)
  ·exact fun a z=>ho a (o3 a z)
 ·have e':i=ds.length:=by lia
  subst e';rw[Oo]at ec;cases ec;refine .inl ⟨js _ (Mn _),k H0c H' ps ?_ sp ?_ hDl n0 nd hps hro⟩
  all_goals
   have uH:σ.length<=ρ2.length:=by rw[<- sc.len];refine Oc.mp fun z=>?_;have q:=hσ σ'.length z;rw[M8 (Mn _),Mp z]at q;cases q
   have tk:∀{j:Nat} {c:Dm.Cell},(ρ2.take ρ1.length)[j]?=some c->j<σ.length/\ρ2[j]?=some c:=fun {j c} h=>by
    have hj:j<ρ1.length:=by
     have:=(Mq.mp h).1;rw[Nf]at this
     lia
    rw[NY hj]at h;exact⟨by rw[st1.len];exact hj,h⟩
  ·refine⟨sc.same,?_,fun j d h=>?_,fun j d h=>?_,fun j j' d d' a h1 h2 h3 h4=>?_⟩
   ·rw[Nf,<- st1.len];lia
   ·obtain⟨hj,h⟩:=tk h;obtain⟨v,q,r⟩:=sc.sh j d h;exact⟨v,(hσ j hj).symm.trans q,r⟩
   ·obtain⟨hj,h⟩:=tk h;obtain⟨v,q,r⟩:=sc.ow j d h;exact⟨v,(hσ j hj).symm.trans q,r⟩
   ·obtain⟨hj,h1⟩:=tk h1;obtain⟨hj',h2⟩:=tk h2;exact sc.dis j j' d d' a h1 h2 ((hσ j hj).trans h3) ((hσ j' hj').trans h4)
  ·intro a ⟨j,d,h1,h2⟩;obtain⟨hj,h1⟩:=tk h1;exact ho a ⟨j,d,h1,(hσ j hj).trans h2⟩
theorem f_{z:Dm.Out}(q:Dm.e8 j fi own bd J5 ρ=some z):∃ds ρ1 ρ2 ρ3 r3,j≠0/\fi ρ=some (ds,ρ1)/\ds.length<=Dm.SZ/\Dm.nMk bd ds (ρ1++Mk own .un)=some ρ2 /\
  J5 ((ρ2.take ρ1.length).set j .un) (Mk ds.length [])=some (ρ3,r3)/\z=.nx (ρ3.set j (.ow (.lst (r3.map .lst)))):=by
 unfold Dm.e8 at q;split at q
 ·cases q
 rename_i hj0;split at q
 ·cases q
 rename_i ds ρ1 e1;split at q
 case isFalse=>cases q
 rename_i hsz;split at q
 ·cases q
 rename_i ρ2 e2;split at q
 ·cases q
 rename_i ρ3 r3 e3;cases q;exact⟨ds,ρ1,ρ2,ρ3,r3,hj0,e1,hsz,e2,e3,rfl⟩
theorem vN{s u:FS}{o:Dm.Out}(hs:∀z,s ρ=some z->∃ρ',z=.nx ρ')(e:Dm.aA s u ρ=some o):∃ρ1,s ρ=some (.nx ρ1)/\u ρ1=some o:=by
 cases q:s ρ with
 |none=>unfold Dm.aA at e;rw[q]at e;cases e
 |some z=>obtain⟨ρ1,rfl⟩:=hs z q;unfold Dm.aA at e;rw[q]at e;exact⟨ρ1,rfl,e⟩
theorem G8{H:Hp}{D:Ends}{gs:FS}(hb:BD is g bd)(hl:∀i∈is,σ.length<=i)(hj:j<σ.length)(h:tDS (Dm.aA (Dm.e8 j fi own bd J5) gs) D σ H) :
  tE (qe (tLC (tDI fi) own g yX (yq wZ)) (eX j)) (tE (tDN j J5) (tDS gs)) D σ H:=by
 obtain⟨H0,ρ,o,st,e,k⟩:=h;obtain⟨ρ9,e9,e⟩:=vN (fun z q=>by obtain⟨_,_,_,_,_,_,_,_,_,_,z⟩:=f_ q;exact⟨_,z⟩) e;obtain⟨ds,ρ1,ρ2,ρ3,r3,hj0,e1,hsz,e2,e3,z9⟩:=f_ e9;cases z9;refine⟨H0,ρ,ds,ρ1,st,e1,fun J H00 Hb t1 jw L hL=>qJ (Q:=fun x H1=>eX j x σ H1 (tE (tDN j J5) (tDS gs) D)) hb hl t1.st jw hsz e2 L hL fun H0' H' ps st' sp' ho' hDl n0 nd hps hro=>?_⟩;have nL:¬aj σ ρ1 L:=t1.st.bB hL;have om:∀a,aj (σ.set j (some (.ref L))) ((ρ2.take ρ1.length).set j .un) a->aj σ (ρ2.take ρ1.length) a:=fun a ⟨i,d,h1,h2⟩=>by
  rcases aG h1 with⟨_,z⟩ | ⟨hij,h1⟩
  ·cases z
  ·rw[gV (Ne.symm hij)]at h2;exact⟨i,d,h1,h2⟩
 have st2:az H0' H' (σ.set j (some (.ref L))) ((ρ2.take ρ1.length).set j .un):={
  same:=st'.same
  len:=by rw[MX,MX];exact st'.len
  sh:=fun i d h=>by
   rcases aG h with⟨_,z⟩ | ⟨hij,h⟩
   ·cases z
   ·obtain⟨v,q,r⟩:=st'.sh i d h;exact⟨v,by rw[gV (Ne.symm hij)];exact q,r⟩
  ow:=fun i d h=>by
   rcases aG h with⟨_,z⟩ | ⟨hij,h⟩
   ·cases z
   ·obtain⟨v,q,r⟩:=st'.ow i d h;exact⟨v,by rw[gV (Ne.symm hij)];exact q,r⟩
  dis:=fun i i' d d' a h1 h2 h3 h4=>by
   rcases aG h1 with⟨_,z⟩ | ⟨q1,h1⟩
   ·cases z
   rcases aG h2 with⟨_,z⟩ | ⟨q2,h2⟩
   ·cases z
   rw[gV (Ne.symm q1)]at h3;rw[gV (Ne.symm q2)]at h4;exact st'.dis i i' d d' a h1 h2 h3 h4 }
 have sp:Stp (aj σ ρ) H0 H H0' H':=t1.stp.trans sp' fun a z=>.inl (t1.own a z);have n:NS j σ ρ H0 H (σ.set j (some (.ref L))) ((ρ2.take ρ1.length).set j .un) H0' H' (Mk ds.length []):=
  ⟨st2,sp,fun a z=>.inl (t1.own a (ho' a (om a z))),gV hj0,L,ps,MN hj,t1.stp.gone hL,n0,fun z=>nL (ho' L (om L z)),hDl,nd,fun p hp=>⟨t1.stp.gone (hps p hp).1,(hps p hp).2,fun z=>t1.st.bB (hps p hp).1 (ho' p (om p z))⟩,hro⟩
 refine⟨σ,ρ,H0,H,H0',_,_,ρ3,r3,n,e3,fun σ4 H4 Hd n4 _=>?_⟩;obtain⟨H5,t5⟩:=n4.done;exact⟨H5,_,o,t5.st,e,k.pre t5⟩
noncomputable abbrev DN(X:Cx)(j:Nat)(st:Stmt)(f:Dm.FN):Prop:=PS X st (tDN j f)
noncomputable abbrev DNs(X:Cx)(j:Nat)(st:List Stmt)(f:Dm.FN):Prop:=PSs X st (tDN j f)
end
section
variable{X:Cx}{st:Stmt}{mX:List Stmt}{fs gs:Dm.FN}{e c:Expr}{f:FE}{pos:Pos}{j:Nat}
section
variable{is:List Nat}{fi:Dm.FI}{bd:Dm.FB}
theorem qK(h1:DN X j st fs):DNs X j [st] fs:=u_ h1
theorem LM{t:FT}{x y:List Stmt}(ht:DT X c t)(ha:DNs X j x fs)(hb:DNs X j y gs):DN X j (.If c x y pos) (Dm.nIf t fs gs):=PS.weak (D_ ht ha hb) fun _ _ _=>JS
theorem zE{tg it:Expr}{body:List Stmt}(hp:PassesOwn (model X.prog X.w) X.A X.env X.xe)(hc:X.calm=true)(hi:DI X tg it fi)(hg:TG' X tg is bd)(hb:DNs X j body fs)(hj:decide (j∈is)=false:=by rfl)
  (hs:∀x,foldedSetIterable it X.env x=pure x:=by intro _;rfl):DN X j (.For tg it body [] pos) (Dm.iN fi bd fs):=by
 obtain⟨g,h1,h2⟩:=hg.ex;exact PS.weak (yk hp hc hi h1 hb hs) fun _ _ _=>G6 h2 (of_decide_eq_false hj)
theorem zF{x:Str}{i:Expr}{fi:FE}{px sp ap cp:Pos}(hi':DE X i fi)(he:DE X e f)(hi:X.N[j]?=some x:=by rfl)(hv:Vis X.env.scope x:=by trivial)(hd:(x == ("__debug__" : Str))=false:=by decide)
  (Fp:(x == ("__classdict__" : Str))=false:=by decide) (CP:oN i:=by intro _ _;rfl) (J7:attributeBase (.Subscript (.Name x px) i sp) "append" X.env (eval (.Subscript (.Name x px) i sp) X.env)=eval (.Subscript (.Name x px) i sp) X.env:=by rfl)
  (hfew:((backTo cp (starEach [e] X.env)).all (fun x=>!x.1)&&(backToKw cp (keywordEach [] X.env)).all (fun x=>x.1.isSome)
   && decide ([e].length+([]:List Keyword).length+(if ([]:List Keyword).isEmpty then 0 else 1)<30))=true:=by rfl)
  (J6:(ap.endLine == cp.line)=true:=by rfl) (hs:starEach [e] X.env=(false,eval e X.env)::starEach [] X.env:=by rfl) (EF:(backTo cp (starEach [] X.env)).any (·.1)=false:=by rfl)
  (hsw:swapsWith (.Call (.Attribute (.Subscript (.Name x px) i sp) "append" ap) [e] [] cp) none pos.line X.env=pure false:=by rfl) :
  DN X j (.Expr (.Call (.Attribute (.Subscript (.Name x px) i sp) "append" ap) [e] [] cp) pos) (Dm.o6 fi f):=
 PS.weak (jM (vn N4 PySem.F.slot_list_append PySem.F.type_list_append iZ (Eh vm (c_ hi hv hd Fp) hi' CP) (aa he af hs) J7 hfew J6 hs EF) hsw) fun _ _ _=>G7
theorem G9(j:Nat)(nm own:List Str){y:Str}{py ED o8:Pos}{tg iter:Expr}{scope:Scope}{J5:Dm.FN}{gs:FS}{lst:Stmt}(hN:X.N.Nodup)(hg:TGc X nm scope own tg is bd)(hi:DI X tg iter fi)(hlp:DN X j lst J5)(hre:DSs X mX gs)
  (hc:X.calm=true:=by rfl) (hk:scope.kind=.function:=by rfl) (hS:iK X.env.scope X.N nm scope=true:=by rfl) (hl:(is.all fun i=>decide (X.N.length<=i))=true:=by rfl) (hj:X.N[j]?=some y:=by rfl) (hy:Loc X.env.scope y:=by trivial)
  (hsw:swapsWith (.ListComp (.List [] o8) [⟨tg,iter,[],0⟩] scope pos) (some (.Name y py)) ED.line X.env=pure true:=by rfl) (hs:∀y,foldedSetIterable iter X.env y=pure y:=by intro _;rfl)
  (hf:X.fn y=true\/X.env.scope.names.lookup y=some .local:=by trivial) :
  DSs X (.Assign [.Name y py] (.ListComp (.List [] o8) [⟨tg,iter,[],0⟩] scope pos) ED::lst::mX) (Dm.aA (Dm.e8 j fi own.length bd J5) gs):=by
 obtain⟨g,h1,h2⟩:=hg.ex;have h:=dD (cg hN hj hy hc (bW.of hS hk) hi h1 (fun cl C s H fp=>oY) (fun cl C s H fp=>tK (pos:=o8) oJ) hsw hs hf) (dD hlp hre);intro mW s σ H D I q;exact h mW s σ H D I (G8 h2 (fun i hi=>by rw[I.len];exact kE hl i hi) (by rw[I.len];exact(Mq.mp hj).1) q)
end
end
section
variable{vs:List Dat}{ρ ρ':Dm.Env}{ks:List Int}{d:Dat}{x:Dm.Val}{H H':Hp}{i:Nat}
theorem cL:∀{its:List Value} {ns:List Int},IntsAre its ns->Vals (ns.map V.int) its
 |_,_,.nil=>.nil
 |_,_,.cons n t h=>.cons ⟨t,rfl⟩ (cL h)
theorem G_(e:Dm.tkd ρ x=some (d,ρ')):Dm.tk ρ x=some (d,ρ')\/∃i ks vs,x=.slot i/\ρ[i]?=some (.ow (.dct ks vs))/\d=.dct ks vs/\ρ'=ρ:=by
 cases x with
 |val d'=>exact .inl e
 |new d'=>exact .inl e
 |slot i=>
  unfold Dm.tkd at e;dsimp only at e;split at e
  ·rename_i ks vs h;cases e;exact .inr ⟨i,ks,vs,rfl,h,rfl,rfl⟩
  ·rename_i d' _ h;left;unfold Dm.tk;dsimp only;rw[h];exact e
  ·rename_i d' h;left;unfold Dm.tk;dsimp only;rw[h];exact e
  ·cases e
theorem zG(e:Dm.tkd ρ x=some (d,ρ'))(h:ρ[i]?=some (.ow (.dct ks vs))):ρ'[i]?=some (.ow (.dct ks vs)):=by
 cases x with
 |val d'=>cases e;exact h
 |new d'=>cases e;exact h
 |slot j=>
  unfold Dm.tkd at e;dsimp only at e;split at e
  ·cases e;exact h
  ·rename_i d' hn hj;cases e;by_cases q:j=i
   ·subst q;rw[h]at hj;cases hj;exact absurd rfl (hn ks vs)
   ·rw[gV q];exact h
  ·cases e;exact h
  ·cases e
theorem nG:∀{xs:List Dm.Val} {ρ ρ':Dm.Env} {ds:List Dat},Dm.t9 ρ xs=some (ds,ρ')->ρ[i]?=some (.ow (.dct ks vs))->ρ'[i]?=some (.ow (.dct ks vs))
 |[],_,_,_,e,h=>by cases e;exact h
 |x::xs,ρ,ρ',ds,e,h=>by
  unfold Dm.t9 at e;split at e
  ·cases e
  rename_i d ρ1 e1;split at e
  ·cases e
  rename_i ds' ρ2 e2;cases e;exact nG e2 (zG e1 h)
def LN(H0:Hp)(σ:L2.St)(ρ:Dm.Env)(v:V)(d:Dat):Prop:=Rep H0 v d\/∃(i:Nat) (b:Addr) (ks:List Int) (vs:List Dat),d=.dct ks vs/\v=.ref b/\ρ[i]?=some (.ow (.dct ks vs))/\σ[i]?=some (some (.ref b))
inductive qL(H0:Hp)(σ:L2.St)(ρ:Dm.Env):List V->List Dat->Prop
 |nil:qL H0 σ ρ [] []
 |cons {v:V} {d:Dat} {vs:List V} {ds:List Dat}:LN H0 σ ρ v d->qL H0 σ ρ vs ds->qL H0 σ ρ (v::vs) (d::ds)
theorem t_{Hs H0s H0 H:Hp}{σ:L2.St}{ρs:Dm.Env}:∀{xs:List Dm.Val} {vs:List V} {ρ ρ':Dm.Env} {ds:List Dat} {H0c:Hp},ESt σ ρs H0s Hs ρ H0c H->ao H0 H0c->cA Hs H0 H σ ρ vs xs->Dm.t9 ρ xs=some (ds,ρ') ->
  ∃gA,ESt σ ρs H0s Hs ρ' gA H/\ao H0c gA/\qL gA σ ρ' vs ds
 |[],_,ρ,ρ',ds,H0c,t,b,r,e=>by cases r;cases e;exact⟨H0c,t,ao.refl _,.nil⟩
 |x::xs,_,ρ,ρ',ds,H0c,t,b,r,e=>by
  cases r with
  |cons h r=>
   unfold Dm.t9 at e;split at e
   ·cases e
   ·rename_i d ρ1 e1;split at e
    ·cases e
    ·rename_i ds' ρ2 e2;cases e;rcases G_ e1 with e1' | ⟨i,ks,vs,rfl,hi,rfl,rfl⟩
     ·obtain⟨H1,t1,b1,r1,o1,d1⟩:=take1 t b h e1';obtain⟨H2,t2,b2,r2⟩:=t_ t1 (b.trans b1) (r.rho o1 d1) e2;exact⟨H2,t2,b1.trans b2,.cons (.inl (r1.mono b2)) r2⟩
     ·obtain⟨H2,t2,b2,r2⟩:=t_ t b r e2;obtain⟨q,_⟩:=h;obtain⟨a,z,_⟩:=t.st.ow i _ hi;rw[q]at z;cases z;exact⟨H2,t2,b2,.cons (.inr ⟨i,a,ks,vs,rfl,rfl,nG e2 hi,q⟩) r2⟩
mutual
theorem Rep.noD(hk:∀a o,H a=some o->H' a=some o\/∃kvs,o=.dK kvs):∀{v:V} {d:Dat},Rep H v d->Dm.aN d=true->Rep H' v d
 |_,_,.non,_=>.non
 |_,_,.bl b,_=>.bl b
 |_,_,.int i,_=>.int i
 |_,_,.str x,_=>.str x
 | _,_,.tup h r,n=>.tup (by
   rcases hk _ _ h with z | ⟨_,z⟩
   ·exact z
   ·cases z) (av.noD hk r (by unfold Dm.aN at n;exact n))
 | _,_,.lst h r,n=>.lst (by
   rcases h with h | ⟨o,h⟩
   ·rcases hk _ _ h with z | ⟨_,z⟩
    ·exact .inl z
    ·cases z
   ·rcases hk _ _ h with z | ⟨_,z⟩
    ·exact .inr ⟨o,z⟩
    ·cases z) (av.noD hk r (by unfold Dm.aN at n;exact n))
 |_,_,.dct _ _ _,n=>by unfold Dm.aN at n;cases n
 |_,_,.dcp _ _ _,n=>by unfold Dm.aN at n;cases n
 |_,_,.exc _,n=>by unfold Dm.aN at n;cases n
 |_,_,.dc _ _,n=>by unfold Dm.aN at n;cases n
 |_,_,.fn a,_=>.fn a
theorem av.noD(hk:∀a o,H a=some o->H' a=some o\/∃kvs,o=.dK kvs):∀{vs:List V} {ds:List Dat},av H vs ds->Dm.di ds=true->av H' vs ds
 |_,_,.nil,_=>.nil
 |_,_,.cons h r,n=>by unfold Dm.di at n;rw[MD]at n;exact .cons (Rep.noD hk h n.1) (av.noD hk r n.2)
end
end
open Classical in
theorem zH{σ:L2.St}{H:Hp}{Q:VK}{f:List Dat->Option RV}{fs:List FE}{E:XK}(h:tD (Dm.eFd f fs) σ H Q):j6 (spD f) [] E (tDA fs) σ H Q:=by
 obtain⟨H0,ρ,x,ρ',st,e,k⟩:=h;unfold Dm.eFd at e;split at e
 ·cases e
 rename_i xs ρ1 e1;split at e
 ·cases e
 rename_i ds ρ2 e2;split at e
 ·cases e
 rename_i z fz;split at e
 case isFalse=>cases e
 rename_i hno;injection e with e
 injection e with ea eb
 subst ea;subst eb;refine⟨H0,ρ,xs,ρ1,st,e1,fun vs H1 Hb t1 r1=>?_⟩;dsimp only;rw[Nc];obtain⟨H2,t2,b2,r2⟩:=t_ t1 (ao.refl _) r1 e2
 let B:Addr->Prop:=fun b=>∃(i:Nat) (ks:List Int) (vs:List Dat),ρ2[i]?=some (.ow (.dct ks vs))/\σ[i]?=some (some (.ref b))
 have hB:∀b,B b->H2 b=none/\∃kvs,Hb b=some (.dK kvs):=fun b ⟨i,ks,vs,h1,h2⟩=>by obtain⟨a,q,n,kvs,w,_⟩:=t2.st.ow i _ h1;rw[h2]at q;cases q;exact⟨n,kvs,w⟩
 let H2':Hp:=fun b=>if B b then Hb b else H2 b
 have in':∀b,B b->H2' b=Hb b:=fun b h=>if_pos h;have out':∀b,¬B b->H2' b=H2 b:=fun b h=>if_neg h;have s2:ao H2 H2':=fun b o e=>by
  by_cases q:B b
  ·rw[(hB b q).1]at e;cases e
  ·rw[out' b q];exact e
 have s2b:ao H2' Hb:=fun b o e=>by
  by_cases q:B b
  ·rw[in' b q]at e;exact e
  ·rw[out' b q]at e;exact t2.st.same _ _ e
 have rr:∀{vs:List V} {ds:List Dat},qL H2 σ ρ2 vs ds->av H2' vs ds:=fun {vs ds} r=>by
  induction r with
  |nil=>exact .nil
  |cons h _ ih=>
   refine .cons ?_ ih;rcases h with h | ⟨i,b,ks,vs',rfl,rfl,h1,h2⟩
   ·exact h.mono s2
   ·obtain⟨a,q,n,kvs,w,ek,rs⟩:=t2.st.ow i _ h1;rw[h2]at q;cases q;exact .dct (by rw[in' _ ⟨i,ks,vs',h1,h2⟩];exact w) ek (rs.mono s2)
 refine⟨H2',ds,z,s2b,rr r2,fz,fun w H3 Hd g3 r3=>?_⟩
 let H3':Hp:=fun b=>if B b then none else H3 b
 have in3:∀b,B b->H3' b=none:=fun b h=>if_pos h;have kM:∀b,¬B b->H3' b=H3 b:=fun b h=>if_neg h;have gr:aI H2 Hb H3' Hd:=⟨fun b o e=>by
   by_cases q:B b
   ·rw[(hB b q).1]at e;cases e
   ·rw[kM b q];exact g3.s0 _ _ (s2 _ _ e),g3.s1,fun b o e=>by
   by_cases q:B b
   ·rw[in3 b q]at e;cases e
   ·rw[kM b q]at e;rcases g3.s2 b o e with y | y
    ·exact .inl y
    ·rw[out' b q]at y;exact .inr y,fun b o e=>by
   by_cases q:B b
   ·rw[in3 b q]at e;cases e
   ·rw[kM b q]at e;exact g3.s3 _ _ e⟩
 have hk:∀a o,H3 a=some o->H3' a=some o\/∃kvs,o=.dK kvs:=fun a o e=>by
  by_cases q:B a
  ·obtain⟨_,kvs,y⟩:=hB a q;have:=g3.s0 a _ ((in' a q).trans y);rw[e]at this;exact .inr ⟨kvs,Option.some.inj this⟩
  ·exact .inl (by rw[kM a q];exact e)
 have r3':oU Hb H3' Hd w z:=by
  cases z with
  |val d=>exact Rep.noD hk r3 hno
  |new d=>
   obtain⟨a,ea,n,n0,w'⟩:=r3;refine⟨a,ea,n,?_,?_⟩
   ·by_cases q:B a
    ·exact in3 a q
    ·rw[kM a q];exact n0
   ·cases d with
    |lst ds'=>obtain⟨ys,y1,y2⟩:=w';exact⟨ys,y1,av.noD hk y2 (by have:Dm.aN (.lst ds')=true:=hno;unfold Dm.aN at this;exact this)⟩
    |dct ks ds'=>have:Dm.aN (.dct ks ds')=true:=hno;unfold Dm.aN at this;cases this
    |dcp ks ds'=>have:Dm.aN (.dcp ks ds')=true:=hno;unfold Dm.aN at this;cases this
    |_=>exact w'.elim
 exact k w H3' Hd (t2.trans (.grow t2.st gr)) ((r3'.toV t2.st).early fun a n=>t2.stp.gone n)
section
variable{X:Cx}{e b:Expr}{es:List Expr}{fs:List FE}{fb:FE}{p pos:Pos}
theorem zI{k:Nat}{F:Addr}{fd:FuncData}{ps:List Str}{g:List Dat->Option RV}{x:Str}(G:aV X.prog X.w X.K X.mg X.base CX0 k F fd ps (spD g))(hr:aZ k X.A)(hg:Gl X x)(hm:X.mg x=some (.ref F))(hk:Nu X.K (.ref F)=true)(hb:Binds X.K fd ps [])
  (ha:DA X (e::es) fs) (J8:(x == ("__debug__" : Str))=false:=by decide) (he:starEach (e::es) X.env=(false,eval e X.env)::starEach es X.env:=by rfl) (CP:(backTo pos (starEach es X.env)).any (·.1)=false:=by rfl) :
  DE X (.Call (.Name x p) (e::es) [] pos) (Dm.eFd g fs):=PE.weak (jN G hr hg hm hk hb .nil (qo (X:=X)) ha J8 he CP) fun _ _ _=>zH
end
open PySem
variable{C:List Value->Prop}{us:List Value}
theorem len0(h:us.length=0)(c:C []):C us:=by rw[List.eq_nil_of_length_eq_zero h];exact c
theorem zJ{n:Nat}{C:List Value->Prop}{us:List Value}(h:us.length=n+1)(c:∀a us,us.length=n->C (a::us)):C us:=by
 cases us with
 |nil=>cases h
 |cons a us=>exact c a us (by simpa using h)
theorem JV(h:us.length=1)(c:∀a,C [a]):C us:=zJ h fun a _ h=>len0 h (C:=fun us=>C (a::us)) (c a)
theorem zw(h:us.length=2)(c:∀a b,C [a,b]):C us:=zJ h fun a _ h=>JV h (C:=fun us=>C (a::us)) (c a)
theorem JX(h:us.length=3)(c:∀a b d,C [a,b,d]):C us:=zJ h fun a _ h=>zw h (C:=fun us=>C (a::us)) (c a)
theorem JY(h:us.length=4)(c:∀a b d e,C [a,b,d,e]):C us:=zJ h fun a _ h=>JX h (C:=fun us=>C (a::us)) (c a)
theorem LO(h:us.length=5)(c:∀a b d e f,C [a,b,d,e,f]):C us:=zJ h fun a _ h=>JY h (C:=fun us=>C (a::us)) (c a)
end Br
namespace L2
open PySem
variable{K:Dp}{x qual:Str}{st:Stmt}{f:Addr}{fd:FuncData}{ps:List Str}
theorem Fun.o9(F:Fun K x qual st f fd)(hp:ps.length=1)(h:∀(kV doc pm:Value) (an:Option Addr) (cdv ct:Value) (a:Value),bindArgs (M6 x qual (bh st) (aX st) (ah st) .none kV doc pm an cdv ct) ⟨[a],[]⟩=pure (ps.zip [a])):Binds K fd ps []:=
 F.binds fun kV doc pm an cdv ct us hl=>Br.JV (C:=fun us=>bindArgs (M6 x qual (bh st) (aX st) (ah st) .none kV doc pm an cdv ct) ⟨us,[]⟩=pure (ps.zip us)) (hl.trans hp) (h kV doc pm an cdv ct)
theorem Fun.cO(F:Fun K x qual st f fd)(hp:ps.length=2)(h:∀(kV doc pm:Value) (an:Option Addr) (cdv ct:Value) (a b:Value),bindArgs (M6 x qual (bh st) (aX st) (ah st) .none kV doc pm an cdv ct) ⟨[a,b],[]⟩=pure (ps.zip [a,b])):Binds K fd ps []:=
 F.binds fun kV doc pm an cdv ct us hl=>Br.zw (C:=fun us=>bindArgs (M6 x qual (bh st) (aX st) (ah st) .none kV doc pm an cdv ct) ⟨us,[]⟩=pure (ps.zip us)) (hl.trans hp) (h kV doc pm an cdv ct)
theorem Fun.d9(F:Fun K x qual st f fd)(hp:ps.length=3)(h:∀(kV doc pm:Value) (an:Option Addr) (cdv ct:Value) (a b d:Value),bindArgs (M6 x qual (bh st) (aX st) (ah st) .none kV doc pm an cdv ct) ⟨[a,b,d],[]⟩=pure (ps.zip [a,b,d])):Binds K fd ps []:=
 F.binds fun kV doc pm an cdv ct us hl=>Br.JX (C:=fun us=>bindArgs (M6 x qual (bh st) (aX st) (ah st) .none kV doc pm an cdv ct) ⟨us,[]⟩=pure (ps.zip us)) (hl.trans hp) (h kV doc pm an cdv ct)
theorem Fun.ua(F:Fun K x qual st f fd)(hp:ps.length=4)(h:∀(kV doc pm:Value) (an:Option Addr) (cdv ct:Value) (a b d e:Value),bindArgs (M6 x qual (bh st) (aX st) (ah st) .none kV doc pm an cdv ct) ⟨[a,b,d,e],[]⟩=pure (ps.zip [a,b,d,e])):Binds K fd ps []:=
 F.binds fun kV doc pm an cdv ct us hl=>Br.JY (C:=fun us=>bindArgs (M6 x qual (bh st) (aX st) (ah st) .none kV doc pm an cdv ct) ⟨us,[]⟩=pure (ps.zip us)) (hl.trans hp) (h kV doc pm an cdv ct)
theorem Fun.jd(F:Fun K x qual st f fd)(hp:ps.length=5)(h:∀(kV doc pm:Value) (an:Option Addr) (cdv ct:Value) (a b d e g:Value),bindArgs (M6 x qual (bh st) (aX st) (ah st) .none kV doc pm an cdv ct) ⟨[a,b,d,e,g],[]⟩=pure (ps.zip [a,b,d,e,g])):Binds K fd ps []:=
 F.binds fun kV doc pm an cdv ct us hl=>Br.LO (C:=fun us=>bindArgs (M6 x qual (bh st) (aX st) (ah st) .none kV doc pm an cdv ct) ⟨us,[]⟩=pure (ps.zip us)) (hl.trans hp) (h kV doc pm an cdv ct)
end L2
namespace Dm
noncomputable def eFp(a i:Nat)(f:List Dat->Option RV)(as:List FE):FE:=fun ρ=>match ρ[i]? with
 |some (.sh (.fn b))=>if b=a then eF f as ρ else none
 |_=>none
end Dm
namespace Br
open PySem L2
section
variable{X:Cx}{e:Expr}{es:List Expr}{fs:List FE}{p pos:Pos}
section
variable{fd:FuncData}{ps:List Str}{F:Addr}{x:Str}{k:Nat}{E:XK}
theorem JZ(hg:Gl X x)(hm:X.mg x=some (.ref F))(hd:(x == ("__debug__" : Str))=false:=by decide):DE X (.Name x pos) (Dm.eC (.fn F)):=
 PE.weak (BF (v:=V.ref F) hg hm rfl hd) fun _ _ _=>jP fun _=>.fn F
theorem zK{sp:Sp}{t:TA}{CX}(i:Nat)(G:aV X.prog X.w X.K X.mg X.base CX k F fd ps sp)(hr:aZ k X.A)(hN:X.N[i]?=some x)(hv:Vis X.env.scope x)(hk:Nu X.K (.ref F)=true)(hb:Binds X.K fd ps [])(hx:Passes CX X E)
  (ha:PA X (e::es) t) (hd:(x == ("__debug__" : Str))=false) (Fp:(x == ("__classdict__" : Str))=false) (he:starEach (e::es) X.env=(false,eval e X.env)::starEach es X.env) (CP:(backTo pos (starEach es X.env)).any (·.1)=false) :
  PE X (.Call (.Name x p) (e::es) [] pos) (fun σ H Q=>jE i σ H fun v _=>v=V.ref F/\j6 sp [] E t σ H Q):=by
 intro mW s σ H Q I h;obtain⟨v,e1,rfl,h⟩:=h;refine wpAny_Call_Name_kw (thn (c_ hN hv hd Fp mW s σ H (fun v H1=>v=V.ref F/\H1=H) I ⟨_,e1,rfl,rfl⟩) fun u s1 ⟨v,H1,I1,r,q1,q2⟩=>?_);subst q1 q2;cases r;refine PySem.W.callWith_K (h₀:=X.base) I1.ok.mod.kin hk (thn (ha pos mW s1 σ H1 _ I1 h) fun us s2 ⟨vs,H2,I2,r,q⟩=>⟨I2.kIn,?_⟩) he CP;exact yr G hr hb .nil hx I2 r q
theorem Cw{F i:Nat}{f:List Dat->Option RV}{σ:L2.St}{H:Hp}{Q:VK}(h:tD (Dm.eFp F i f fs) σ H Q):jE i σ H fun v _=>v=V.ref F/\j6 (spD f) [] E (tDA fs) σ H Q:=by
 obtain⟨H0,ρ,x,ρ',st,e,k⟩:=h;unfold Dm.eFp at e;split at e
 ·rename_i b h1;split at e
  ·rename_i hb;subst hb;obtain⟨v,q,r⟩:=st.sh i _ h1;cases r;exact⟨_,q,rfl,yT ⟨H0,ρ,x,ρ',st,e,k⟩⟩
  ·cases e
 ·cases e
theorem vO{g:List Dat->Option RV}(i:Nat){x:Str}(G:aV X.prog X.w X.K X.mg X.base CX0 k F fd ps (spD g))(hr:aZ k X.A)(hk:Nu X.K (.ref F)=true)(hb:Binds X.K fd ps [])
  (ha:DA X (e::es) fs) (hN:X.N[i]?=some x:=by rfl) (hv:Vis X.env.scope x:=by trivial) (hd:(x == ("__debug__" : Str))=false:=by decide) (Fp:(x == ("__classdict__" : Str))=false:=by decide)
  (he:starEach (e::es) X.env=(false,eval e X.env)::starEach es X.env:=by rfl) (CP:(backTo pos (starEach es X.env)).any (·.1)=false:=by rfl) :
  DE X (.Call (.Name x p) (e::es) [] pos) (Dm.eFp F i g fs):=PE.weak (zK i G hr hN hv hk hb (qo (X:=X)) ha hd Fp he CP) fun _ _ _=>Cw
end
end
end Br
namespace Dm
noncomputable def fk(a:Int):List Int->Int
 |[]=>a
 |x::r=>fk (if x<a then x else a) r
noncomputable def nH:List Dat->Option RV
 | [.lst xs]=>(match e7 xs with
  |some (n::ns)=>vI (fk n ns)
  |_=>none)
 |_=>none
end Dm
namespace Br
open PySem PySem.Spec PyProof.Rows L2
theorem zL(a x:Int)(l:List Int):Dm.fk a (l++[x])=if x<Dm.fk a l then x else Dm.fk a l:=by
 induction l generalizing a with
 |nil=>rfl
 |cons y l ih=>rw[N2,Dm.fk,ih,Dm.fk]
theorem qM(n0:Int)(ns:List Int):∀k,k<=ns.length->(n0::ns).getD (argBest (fun i j=>decide ((n0::ns).getD i 0<(n0::ns).getD j 0)) k) 0=Dm.fk n0 (ns.take k)
 |0,_=>rfl
 |k+1,h=>by
  have ih:=qM n0 ns k (by lia);have e:argBest (fun i j=>decide ((n0::ns).getD i 0<(n0::ns).getD j 0)) (k+1)=if decide ((n0::ns).getD (k+1) 0<(n0::ns).getD (argBest (fun i j=>decide ((n0::ns).getD i 0<(n0::ns).getD j 0)) k) 0) then k+1 else argBest (fun i j=>decide ((n0::ns).getD i 0<(n0::ns).getD j 0)) k:=rfl
  have ek:(n0::ns).getD (k+1) 0=ns[k]'(by omega):=by rw[ME,NI,Mp (by lia)];rfl
  rw[e,ih,ek,List.take_succ_eq_append_getElem (by lia),zL];by_cases c:ns[k]'(by lia)<Dm.fk n0 (ns.take k)
  ·rw[decide_eq_true c,if_pos rfl,if_pos c,ek]
  ·rw[decide_eq_false c,if_neg (by decide),if_neg c,ih]
section
variable{X:Cx}
theorem xJ(hc:X.calm=true):cz X (.builtin "min") (fun xs H Q=>∃(a:Addr) (n:Int) (ns:List Int),xs=[.ref a]/\Rd H a (.lst ((n::ns).map V.int))/\Q (.int (Dm.fk n ns)) H):=by
 intro mW s σ H xs us Q I r h;obtain⟨a,n0,ns,rfl,hq,q⟩:=h;obtain⟨u,rfl,rx⟩:=vals1 r;cases rx;obtain⟨z,its,n,rv,e⟩:=hq.ok I.hok;have hl:s.heap.IsList a its.toArray:=⟨_,e,rfl,_,rfl⟩
 have uH:=rv.length;rw[Mj]at uH;have hax:a≠s.heap.objs.size:=ML (Mu e);have e1:its.toArray.size=ns.length+1:=by rw[Ml,<- uH];rfl
 refine PySem.call_min_walk (wpAny_pyIter_list hl ⟨s.heap.objs.size,_,_,_,_,_,_,rfl,Walks.list (A:=X.A.in1) (I.ok.hd hc) s.heap.objs.size a hax its.toArray,⟨⟨_,MM _ rfl,rfl,rfl⟩,hl.push _⟩,?_,by rw[e1];exact Nat.succ_pos _,CmpOf.ints_lt (fun i=>(n0::ns).getD i 0) (vM rv),fun v h' tk hp hk=>?_⟩)
 ·intro b hb;simp only[Ms,List.not_mem_nil,or_false]at hb;rcases hb with rfl | rfl
  ·show s.heap.objs.size<_;exact Pb ..▸OX _
  ·show b<_;exact Pb ..▸NT (Mu e)
 ·obtain⟨t',rfl⟩:=vM rv _ _ hp;refine⟨.int (Dm.fk n0 ns),H,I.kept (t':=tk) fun b o eb=>hk b o ?_ (Mm _ eb),⟨t',?_⟩,q⟩
  ·intro hm;have:b=s.heap.objs.size:=by simpa using hm
   exact absurd (Mu eb) (by rw[this];exact NH _)
  ·rw[e1,Nat.add_sub_cancel,qM n0 ns _ (Mn _),List.take_length]
theorem Cy:CallD (fun xs H Q=>∃(a:Addr) (n:Int) (ns:List Int),xs=[.ref a]/\Rd H a (.lst ((n::ns).map V.int))/\Q (.int (Dm.fk n ns)) H) Dm.nH:=by
 intro H0 H vs ds z Q s rs e k;unfold Dm.nH at e;split at e
 ·split at e
  ·rename_i n ns hb;cases e;cases rs with
   |cons r rr=>cases rr;obtain⟨a,us,rfl,qa,ra⟩:=br s r;have:=kL ra hb;subst this;exact⟨a,n,ns,rfl,qa,k _ H0 H (aI.refl s) (.int _)⟩
  ·cases e
 ·cases e
end
section
variable{X:Cx}{e:Expr}{fs:List FE}{p pos:Pos}
theorem Hg(hc:X.calm=true)(hg:Gl X "min")(hm:X.mg "min" = none)(ha:DA X [e] fs)(he:starEach [e] X.env=[(false,eval e X.env)]:=by rfl)(CP:(backTo pos (starEach [] X.env)).any (·.1)=false:=by rfl):DE X (.Call (.Name "min" p) [e] [] pos) (Dm.eB Dm.nH fs):=xD (xJ hc) Cy (by rfl) hg hm ha (he:=he) (CP:=CP)
end
open PySem L2
structure bw(K:Dp)(x:Str)(st:Stmt)(a:Addr)(fd:FuncData):Prop where
 e:Nd K mainGlobals x=some (some (.ref a))
 F:Fun K x x st a fd
variable{K:Dp}{x:Str}{st:Stmt}{a:Addr}{fd:FuncData}{hp:Heap}{mg:Str->Option Value}
theorem aK{oc:Value}{od an:Option Addr}{osl:Array (Option Value)}{kV doc pm cdv ct:Value}(e:Nd K mainGlobals x=some (some (.ref a)))
  (l:K.lookup a=some ⟨oc,od,.func (M6 x x (bh st) (aX st) (ah st) .none kV doc pm an cdv ct),osl⟩) (c:OL K cdv x=true) (k:Nu K (.ref a)=true) :
  bw K x st a (M6 x x (bh st) (aX st) (ah st) .none kV doc pm an cdv ct):=⟨e,Gq l c k⟩
theorem mno(X:K.In hp)(G:hp.Ns mainGlobals mg)(e:Nd K mainGlobals x=some none):mg x=none:=PySem.W.mg_none_of X G e
theorem bw.m(h:bw K x st a fd)(X:K.In hp)(G:hp.Ns mainGlobals mg):mg x=some (.ref a):=PySem.W.mg_of X G h.e
theorem bw.LP{y:Str}(h:bw K x st a fd)(hb:∀(kV doc pm:Value) (an:Option Addr) (cdv ct v:Value),bindArgs (M6 x x (bh st) (aX st) (ah st) .none kV doc pm an cdv ct) ⟨[v],[]⟩=pure [(y,v)])(s:Shared)(v:Value):BindsTo s fd ⟨[v],[]⟩ [(y,v)]:=by obtain⟨oc,od,kV,doc,pm,an,cdv,ct,osl,rfl,lk,Fp⟩:=h.F.ex;exact .of_eq (hb kV doc pm an cdv ct v)
theorem hm{j k:Nat}{A:Around}(r:aZ k A)(h:j<=k:=by decide):aZ j A:=r.mono h
theorem fsc{N P:List Str}{sc:Scope}(h1:sc.kind=.function:=by rfl)(h2:sc.isCoroutine=false:=by rfl)(h3:sc.isGenerator=false:=by rfl)(h4:N.take P.length=P:=by rfl)(h:N.Nodup/\(∀x∈P,sc.names.lookup x=some .local\/sc.names.lookup x=some .cell)/\∀y∈sc.names,y.2≠.free:=by decide +kernel):aC N P sc:=⟨h1,h2,h3,h.1,h4,h.2.1,h.2.2⟩
end Br
namespace Sx
open PySem PySem.SetTable PySem.W PyProof.Rows
open PySem PySem.W
def mV(h:Heap)(d:Addr)(es:Array DictEntry)(ep:Nat):Prop:=∃o,h.get? d=some o/\o.ExactDict/\o.data=.dict es ep
theorem mV.typeIs{s:Shared}{d:Addr}{es ep}(x:mV s.heap d es ep):s.TypeIs (.ref d) "dict" := let ⟨o,ho,he,_⟩:=x;⟨o,ho,he.1⟩
theorem mV.at{h h':Heap}{d:Addr}{es ep}(x:mV h d es ep)(e:∀o,h.get? d=some o->h'.get? d=some o):mV h' d es ep:=let ⟨o,ho,r⟩:=x;⟨o,e _ ho,r⟩
section
variable{prog:Program}{w:World}{A:Around}{E:Value->Shared->Prop}{s:Shared}{d it:Addr}{es:Array DictEntry}{ep i:Nat}
theorem xK(lo:(d == sysModules)=false)(x:mV s.heap d es ep){Q:Value->Shared->Prop}
  (hQ:Q (.ref s.heap.objs.size) { s with heap:=s.heap.push { cls:=.type "dict_keyiterator",data:=.fields #[.ref d,.int 0 0,.int es.size 0,.int ep 0] } }):wpAny (model prog w) A (pyIter (.ref d)) Q E s:=by
 obtain⟨o,ho,hex,hd⟩:=id x;have hT:=x.typeIs;refine wpAny_pyIter_slot hT OY (wpAny_call_entry OY hT F.entry_dict_iter ?_ (F.args_dict_iter_1 _));unfold Builtin.«dict.__iter__» Builtin.Dict.dictSlotNone;refine wpAny_bind (wpAny_bind (wpAny_notOrdered_dict hT ?_));show wpAny _ _ (pure (MO d)) _ _ s;refine wpAny_pure ?_;show wpAny _ _ (Ow d >>= _) _ _ s;unfold Ow;rw[lo,if_neg MG];refine wpAny_bind (wpAny_pure (wpAny_bind (wpAny_dictEntries ho hd (wpAny_bind (wpAny_dictEpoch ho hd ?_)))));refine wpAny_bind (wpAny_newObj_type (wpAny_pure ⟨_,rfl,"dict_keyiterator",_,⟨_,MM _ rfl,rfl⟩,Nv.lookup,?_⟩))
 simpa [rawInt] using hQ
theorem Cz(Hw:s.heap.IsKeyIter it d i es.size ep)(x:mV s.heap d es ep){v:Value}(hv:(es.map (·.key))[i]?=some v){Q:Option Value->Shared->Prop}
  (hQ:∀h',h'.IsKeyIter it d (i+1) es.size ep->NW it s.heap h'->Q (some v) { s with heap:=h' }):wpAny (model prog w) A (pyNext (.ref it)) Q E s:=by
 obtain⟨o,ho,hc,hd⟩:=id Hw;obtain⟨od,hod,Fp,hdd⟩:=id x;have EM:i<es.size:=by
  have:=(Array.getElem?_eq_some_iff.mp hv).1
  simpa using this
 have hkey:es[i].key=v:=by rw[Array.getElem?_map,Og EM]at hv;exact Option.some.inj hv
 unfold pyNext;refine wpAny_bind (wpAny_attempt (wpAny_callSpecial?_slot (name:=N9 "__next__") Hw.typeIs Nv (wpAny_call_entry Nv Hw.typeIs F.entry_dict_keyiterator_next ?_ (F.args_dict_keyiterator_next_1 _))));refine wpAny_bind (wpAny_pure (wpAny_bind (wpAny_bind ?_)))
 first | refine wpAny_bind (wpAny_typeNameOfWhole_keyiter Hw.typeIs (wpAny_pure ?_)) | refine wpAny_bind (wpAny_typeNameOf_keyiter Hw.typeIs (wpAny_pure ?_))
 refine wpAny_bind (wpAny_fieldsOf ho hd ?_);have hown:Builtin.Dict_items.ownsTuple "dict_keyiterator" = false:=rfl;rw[hown];simp only[M4,if_false];show wpAny _ _ (if (MO d == Value.none)=true then _ else _) _ _ s;rw[if_neg (show ¬((MO d == Value.none)=true) from MG)];refine wpAny_bind (wpAny_pure (wpAny_bind (wpAny_dictEntries hod hdd ?_)));rw[if_neg (by simp)];refine wpAny_bind (wpAny_pure (wpAny_bind (wpAny_dictEpoch hod hdd ?_)));rw[if_neg (by simp)];refine wpAny_pure ?_;have hneg:¬(i:Int)<0:=by lia
 simp only[hneg,if_false,M7,Og EM];refine wpAny_bind ?_
 first | refine wpAny_bind (wpAny_typeNameOfWhole_keyiter Hw.typeIs (wpAny_pure ?_)) | refine wpAny_bind (wpAny_typeNameOf_keyiter Hw.typeIs (wpAny_pure ?_))
 refine wpAny_bind (wpAny_isOneOf_keyiter Hw.typeIs ?_);show wpAny _ _ (setField (.ref it) 1 (rawInt ((i:Int)+1)) >>= _) _ _ s;refine wpAny_bind (wpAny_setField ho hd (by simp) ?_);have CA:(s.heap.update it (Obj.mapFields (·.setIfInBounds 1 (rawInt ((i:Int)+1))))).IsKeyIter it d (i+1) es.size ep:=
  ⟨_,Oa _ ho (Obj.isFreed_of_fields (Obj.data_mapFields hd _)),(Obj.cls_mapFields ..).trans hc,by rw[Obj.data_mapFields hd];simp[rawInt]⟩
 refine wpAny_bind (wpAny_holding (wpAny_bind (wpAny_isOneOf_keyiter (s:={ s with heap:=s.heap.update it (Obj.mapFields (·.setIfInBounds 1 (rawInt ((i:Int)+1)))) }) CA.typeIs ?_)));show wpAny _ _ (pure es[i].key) _ _ _;rw[hkey];exact wpAny_pure (wpAny_pure ⟨_,rfl,wpAny_pure (hQ _ CA (NL ..))⟩)
theorem Hh(hh:A.handled=none)(Hw:s.heap.IsKeyIter it d es.size es.size ep)(x:mV s.heap d es ep){Q:Option Value->Shared->Prop}
  (hQ:∀h',Heap.ExtBut it s.heap h'->Q none { s with heap:=h' }):wpAny (model prog w) A (pyNext (.ref it)) Q E s:=by
 obtain⟨o,ho,hc,hd⟩:=id Hw;obtain⟨od,hod,Fp,hdd⟩:=id x;unfold pyNext;refine wpAny_bind (wpAny_attempt (wpAny_callSpecial?_slot (name:=N9 "__next__") Hw.typeIs Nv (wpAny_call_entry Nv Hw.typeIs F.entry_dict_keyiterator_next ?_ (F.args_dict_keyiterator_next_1 _))));refine wpAny_bind (wpAny_pure (wpAny_bind (wpAny_bind ?_)))
 first | refine wpAny_bind (wpAny_typeNameOfWhole_keyiter Hw.typeIs (wpAny_pure ?_)) | refine wpAny_bind (wpAny_typeNameOf_keyiter Hw.typeIs (wpAny_pure ?_))
 refine wpAny_bind (wpAny_fieldsOf ho hd ?_);have hown:Builtin.Dict_items.ownsTuple "dict_keyiterator" = false:=rfl;rw[hown];simp only[M4,if_false];show wpAny _ _ (if (MO d == Value.none)=true then _ else _) _ _ s;rw[if_neg (show ¬((MO d == Value.none)=true) from MG)];refine wpAny_bind (wpAny_pure (wpAny_bind (wpAny_dictEntries hod hdd ?_)));rw[if_neg (by simp)];refine wpAny_bind (wpAny_pure (wpAny_bind (wpAny_dictEpoch hod hdd ?_)));rw[if_neg (by simp)];refine wpAny_pure ?_;have hneg:¬(es.size:Int)<0:=by lia
 simp only[hneg,if_false,M7,Array.getElem?_eq_none (Mn es.size)];refine wpAny_bind ?_
 first | refine wpAny_bind (wpAny_typeNameOfWhole_keyiter Hw.typeIs (wpAny_pure ?_)) | refine wpAny_bind (wpAny_typeNameOf_keyiter Hw.typeIs (wpAny_pure ?_))
 show wpAny _ _ (setField (.ref it) 0 .none >>= _) _ _ s;refine wpAny_bind (wpAny_setField ho hd (by simp) (wpAny_bind ?_));unfold newExc newTuple;refine wpAny_bind (wpAny_newObj_type (wpAny_bind (m:=firstArgMember _ _) (wpAny_of_eq (a:=.none) rfl (wpAny_newObj_type ?_ (by size_fits)))) (by size_fits));unfold raiseNew;refine wpAny_bind (wpAny_handled ?_);have hx:A.in1.handled=none:=hh;rw[hx];refine wpAny_bind (wpAny_pure (wpAny_throw (wpAny_bind ?_)));refine wpAny_isInstance (b:=true) (T := "StopIteration") ⟨_,MM _ rfl,rfl⟩ isSubtype_stop (wpAny_pure ?_);exact hQ _ (((NL ..).extBut.push _).push _)
theorem zM(hh:A.handled=none)(I d:Addr)(J9:d≠I) :
  Walks prog w A I [I,d] [I] es.size (fun i v=>(es.map (·.key))[i]?=some v) (fun i h=>h.IsKeyIter I d i es.size ep/\mV h d es ep) where
 sub:=fun b hb=>by simp at hb;simp[hb]
 frame:=fun _ _ _ st hk=>⟨let ⟨o,ho,r⟩:=st.1;⟨o,hk I (by simp) o ho,r⟩,st.2.at fun o e=>hk d (by simp) o e⟩
 item:=fun i s Q E hi st hQ=>by
  obtain⟨v,hv⟩:∃v,(es.map (·.key))[i]?=some v:=⟨_,Og (by simpa using hi)⟩
  refine Cz st.1 st.2 hv fun h' CA hs'=>?_;exact hQ v h' s.toks hv ⟨CA,st.2.at fun o e=>hs'.extBut d o J9 e⟩ fun b o hb e=>hs'.extBut b o (fun h=>hb (by simp[h])) e
 done:=fun s Q E st hQ=>Hh hh st.1 st.2 fun h' he'=>hQ h' s.toks fun b o hb e=>he' b o (fun h=>hb (by simp[h])) e
 self:=fun _ _ _ _ st hQ=>wpAny_pyIter_keyiter st.1 hQ
theorem Hi(lo:(d == sysModules)=false):KdlSrc prog w "dict" d d es.size (fun i v=>(es.map (·.key))[i]?=some v) (fun h=>mV h d es ep) where
 type:=fun _ x=>x.typeIs
 there:=fun _ x=>let ⟨_,ho,_⟩:=x;⟨Mu ho,Mu ho⟩
 keep:=fun _ _ x hk=>x.at fun o e=>hk d (.inl rfl) o e
 notList:=by decide
 notTuple:=by decide
 hint:=fun _ _ _ _ x hq=>kdl_hint_dict x.typeIs hq
 iter:=fun _ s hh x=>⟨_,_,(fun _ _ hq=>xK lo x hq),zM hh _ d (let ⟨_,ho,_⟩:=x;ML (Mu ho)),
  ⟨⟨_,MM _ rfl,rfl,by simp⟩,x.at fun o e=>Mm _ e⟩⟩
end
end Sx
set_option maxHeartbeats 4000000
namespace Ts
open PySem PyProof.Rows
variable{A:Around}{E:Value->Shared->Prop}{s:Shared}{prog:Program}{w:World}
end Ts
namespace Br
open PySem PySem.Spec PyProof.Rows L2
def rD(g:List Dat->Option RV):List V->Hp->VK->Prop:=fun vs H Q=>∃H0 ds z,ao H0 H/\nu H0 H vs ds/\g ds=some z/\∀v H0' H',aI H0 H H0' H'->oU H H0' H' v z->Q v H'
theorem J0(g:List Dat->Option RV):CallD (rD g) g:=fun H0 H vs ds z Q s rs e k=>⟨H0,ds,z,s,rs,e,k⟩
theorem okQ{P:Program}{w:World}{K:Dp}{mg:Str->Option Value}{base:Heap}{x qual:Str}{st:Stmt}{f:Addr}{fd:FuncData}{N ps:List Str}{k n m:Nat}{body:FS}(F:Fun K x qual st f fd)(S:aC N ps (ah st))
  (hb:∀(cdv:Value) (A:Around) (outer:List Env) (s:Shared) (H:Hp) (E:XK),aZ k (A.deeper (envOfC qual (ah st) s.heap.objs.size f cdv))->DSs (tL CX0 P w K mg base N qual (ah st) f cdv A outer s H E).nox (aX st) body)
  (hn:ps.length=n:=by rfl) (hm:N.length=n+m:=by rfl):aV P w K mg base CX0 (k+1) f fd ps (spD (Dm.fn n m body)):=
 F.ok S (fun vs H Q E h=>(yW h).trans hn.symm) fun cdv A outer s H vs Q E hr h=>⟨_,hb cdv A outer s H E hr,Lp hm h⟩
end Br
namespace Dm
noncomputable def cW:List (Int×Int)->List Dat->Int×Int->Option Dat
 |k::ks,v::vs,p=>if k=p then some v else cW ks vs p
 |_,_,_=>none
noncomputable def nI:List (Int×Int)->List Dat->Int×Int->Dat->List Dat
 |k::ks,v::vs,p,d=>(if k=p then d else v)::nI ks vs p d
 |_,_,_,_=>[]
noncomputable def kO(ks:List (Int×Int))(p:Int×Int):Bool:=ks.any fun k=>decide (k=p)
noncomputable def cu(ks:List (Int×Int))(p:Int×Int):List (Int×Int):=if kO ks p then ks else ks++[p]
noncomputable def dj(ks:List (Int×Int))(vs:List Dat)(p:Int×Int)(d:Dat):List Dat:=if kO ks p then nI ks vs p d else vs++[d]
noncomputable def pairD(p:Int×Int):Dat:=.tup [.int p.1,.int p.2]
noncomputable def zN:FE:=fun ρ=>some (.new (.dcp [] []),ρ)
noncomputable def qN:Dat->Dat->Option RV
 |.dcp ks vs,.tup [.int i,.int j]=>(cW ks vs (i,j)).map .val
 |_,_=>none
noncomputable def gp:Dat->Dat->Option RV
 |.tup [.int i,.int j],.dcp ks vs=>vB (cW ks vs (i,j)).isSome
 |_,_=>none
noncomputable def dm:List Dat->Option RV
 |[.dcp ks _]=>if ks.length<=SZ then some (.new (.lst (ks.map pairD))) else none
 |_=>none
noncomputable def fN(i:Nat)(j e:FE):FS:=fun ρ=>match e ρ with
 |none=>none
 |some (x,ρ1)=>match tk ρ1 x with
  |none=>none
  |some (d,ρ2)=>match ρ2[i]? with
   | some (.ow _)=>(match j ρ2 with
    | some (.val (.tup [.int p,.int q]),ρ3)=>(match ρ3[i]? with
     |some (.ow (.dcp ks vs))=>if ks.length<SZ then some (.nx (ρ3.set i (.ow (.dcp (cu ks (p,q)) (dj ks vs (p,q) d))))) else none
     |_=>none)
    |_=>none)
   |_=>none
end Dm
namespace Br
open PySem PySem.Spec PyProof.Rows L2
section
variable{ks:List (Int×Int)}{kvs:List (List Key×V)}{ds:List Dat}{p:Int×Int}{H0:Hp}{v:V}{d:Dat}{H:Hp}
theorem o_{p q:Int×Int}(h:kP p=kP q):p=q:=by
 unfold kP at h;injection h with h1 h2
 injection h2 with h2 _
 cases p;cases q;exact Prod.ext (Sum.inl.inj h1) (Sum.inl.inj h2)
theorem dN{H0 H:Hp}(s:ao H0 H)(r:iG H0 H v (.dcp ks ds)):∃a x,v=.ref a/\H a=some (.dT x.1 x.2)/\xx H0 x ks/\av H0 (x.1.map (·.2)) ds:=by
 rcases r with r | ⟨a,e,x,q,ek,rs⟩
 ·cases r with
  |dcp q ek rs=>exact⟨_,_,rfl,s _ _ q,ek,rs⟩
 ·exact⟨a,x,e,q,ek,rs⟩
theorem dO{H0 H:Hp}(s:ao H0 H){i j:Int}(r:iG H0 H v (.tup [.int i,.int j])):∃b,v=.ref b/\H0 b=some (.tup ((kP (i,j)).map kV)):=by
 rcases r with r | ⟨a,e,w⟩
 ·cases r with
  |tup q rs=>
   cases rs with
   |cons r1 rr=>
    cases rr with
    |cons r2 rr=>cases rr;cases r1;cases r2;exact⟨_,rfl,q⟩
 ·exact w.elim
theorem fO(p:Int×Int):∀{kvs:List (List Key×V)} {ks:List (Int×Int)} {ds:List Dat},kvs.map (·.1)=ks.map kP->av H0 (kvs.map (·.2)) ds ->
  (∃d v,Dm.cW ks ds p=some d/\fh kvs (kP p)=some v/\Rep H0 v d)\/(Dm.cW ks ds p=none/\fh kvs (kP p)=none)
 |[],[],_,_,r=>by cases r;exact .inr ⟨rfl,rfl⟩
 |[],_::_,_,e,_=>by cases e
 |_::_,[],_,e,_=>by cases e
 |(k0,v0)::kvs,k::ks,_,e,r=>by
  rw[gc]at r;cases r with
  |cons r0 rr=>
   rw[gc,gc]at e;injection e with e1 e2
   have e1:k0=kP k:=e1;subst e1;unfold Dm.cW;by_cases h:k=p
   ·subst h;rw[if_pos rfl];exact .inl ⟨_,v0,rfl,fy rfl,r0⟩
   ·rw[if_neg h,fB (fun q=>h (o_ q))];exact fO p e2 rr
theorem pe(p:Int×Int):∀{kvs:List (List Key×V)} {ks:List (Int×Int)},kvs.map (·.1)=ks.map kP->(kvs.any fun kv=>decide (kv.1=kP p))=Dm.kO ks p
 |[],[],_=>rfl
 |[],_::_,e=>by cases e
 |_::_,[],e=>by cases e
 |(k0,v0)::kvs,k::ks,e=>by
  rw[gc,gc]at e;injection e with e1 e2
  have e1:k0=kP k:=e1;subst e1;unfold Dm.kO;rw[Nt,Nt,pe p e2];unfold Dm.kO
  congr 1
  by_cases h:k=p
  ·subst h;simp
  ·have:¬kP k=kP p:=fun q=>h (o_ q);simp[h,this]
theorem qO(p:Int×Int)(rv:Rep H0 v d):∀{kvs:List (List Key×V)} {ks:List (Int×Int)} {ds:List Dat},kvs.map (·.1)=ks.map kP->av H0 (kvs.map (·.2)) ds ->
  ((kvs.map fun kv=>if kv.1=kP p then (kv.1,v) else kv).map (·.1)=ks.map kP)/\av H0 ((kvs.map fun kv=>if kv.1=kP p then (kv.1,v) else kv).map (·.2)) (Dm.nI ks ds p d)
 |[],[],_,_,r=>by cases r;exact⟨rfl,.nil⟩
 |[],_::_,_,e,_=>by cases e
 |_::_,[],_,e,_=>by cases e
 |(k0,v0)::kvs,k::ks,_,e,r=>by
  rw[gc]at r;cases r with
  |cons r0 rr=>
   rw[gc,gc]at e;injection e with e1 e2
   have e1:k0=kP k:=e1;subst e1;obtain⟨i1,i2⟩:=qO p rv e2 rr;unfold Dm.nI;by_cases h:k=p
   ·subst h;rw[if_pos rfl,gc,gc,gc,i1];simp only[if_true];exact⟨trivial,.cons rv i2⟩
   ·rw[if_neg h,gc,gc,gc,i1];have:¬kP k=kP p:=fun q=>h (o_ q);simp only[this,if_false];exact⟨trivial,.cons r0 i2⟩
theorem CB(p:Int×Int)(rv:Rep H0 v d)(e:kvs.map (·.1)=ks.map kP)(r:av H0 (kvs.map (·.2)) ds) :
  (putK kvs (kP p) v).map (·.1)=(Dm.cu ks p).map kP/\av H0 ((putK kvs (kP p) v).map (·.2)) (Dm.dj ks ds p d):=by
 have ha:=pe p e;unfold putK Dm.cu Dm.dj;rw[ha];cases hb:Dm.kO ks p with
 |true=>simp only[if_true];exact qO p rv e r
 |false=>simp only[M4,if_false];rw[My,My,My,e];exact⟨rfl,r.append (.cons rv .nil)⟩
theorem bK.snoc{t:Addr}(h:H t=some (.tup [V.int p.1,V.int p.2])):∀{ts:List Addr} {ks:List (Int×Int)},bK H ts ks->bK H (ts++[t]) (ks++[p])
 |[],[],_=>⟨h,trivial⟩
 |_::_,_::_,q=>⟨q.1,bK.snoc h q.2⟩
 |[],_::_,q=>q.elim
 |_::_,[],q=>q.elim
theorem zO{b:Addr}(hb:H b=some (.tup ((kP p).map kV))){ts:List Addr}(e:kvs.map (·.1)=ks.map kP)(k:bK H ts ks):bK H (tP kvs ts (kP p) b) (Dm.cu ks p):=by
 unfold tP Dm.cu;rw[pe p e];cases Dm.kO ks p with
 |true=>simpa using k
 |false=>simpa using bK.snoc hb k
theorem nJ:∀{ts:List Addr} {ks:List (Int×Int)},bK H ts ks->av H (ts.map V.ref) (ks.map Dm.pairD)
 |[],[],_=>.nil
 |_::_,_::_,q=>.cons (.tup q.1 (.cons (.int _) (.cons (.int _) .nil))) (nJ q.2)
 |[],_::_,q=>q.elim
 |_::_,[],q=>q.elim
theorem Hj:OpD (fun x y H Q=>∃a v,x=.ref a/\cG H a y (some v)/\Q v H) Dm.qN:=by
 intro H0 H x y dx dy z Q s rx ry e k;unfold Dm.qN at e;split at e
 ·rename_i ks vs i j;obtain⟨b,rfl,hb⟩:=dO s ry;obtain⟨a,x,rfl,qa,ek,rs⟩:=dN s rx;rcases fO (i,j) ek.1 rs with⟨d,v,l1,l2,r⟩ | ⟨l1,_⟩
  ·rw[l1]at e;cases e;refine⟨a,v,rfl,?_,k _ H0 H (aI.refl s) r⟩;have:=cG.t (k:=kP (i,j)) qa (s _ _ hb);rw[l2]at this;exact this
  ·rw[l1]at e;cases e
 ·cases e
theorem CC:OpD (fun y x H Q=>∃a o,x=.ref a/\cG H a y o/\Q (.bl o.isSome) H) Dm.gp:=by
 intro H0 H x y dx dy z Q s rx ry e k;unfold Dm.gp at e;split at e
 ·rename_i i j ks vs;cases e;obtain⟨b,rfl,hb⟩:=dO s rx;obtain⟨a,x,rfl,qa,ek,rs⟩:=dN s ry;refine⟨a,_,rfl,cG.t (k:=kP (i,j)) qa (s _ _ hb),k _ H0 H (aI.refl s) ?_⟩;rcases fO (i,j) ek.1 rs with⟨d,v,l1,l2,r⟩ | ⟨l1,l2⟩
  ·rw[l1,l2];exact .bl _
  ·rw[l1,l2];exact .bl _
 ·cases e
def zP:List V->Hp->VK->Prop:=fun xs H Q=>∃(a:Addr) (kvs:List (List Key×V)) (ts:List Addr),xs=[.ref a]/\H a=some (.dT kvs ts)/\∀l,H l=none->Q (.ref l) (upd H l (.lst (ts.map V.ref)))
theorem nM:∀ts:List Addr,Vals (ts.map V.ref) (ts.map MO)
 |[]=>.nil
 |_::ts=>.cons rfl (nM ts)
theorem uc{X:Cx}(hc:X.calm=true):cz X (.type "list") zP:=by
 intro mW s σ H xs us Q I r h;obtain⟨a,kvs,ts,rfl,hq,k⟩:=h;obtain⟨u,rfl,rx⟩:=vals1 r;cases rx;obtain⟨z,hd,ys,rel,o,es,ep,h1,h2,h3,h4,h5,h6⟩:=(show aO X.prog X.w H s.heap a (.dT kvs ts) from I.hok a _ hq)
 have hkeys:(es.map (·.key)).toList=ts.map MO:=by rw[OZ,h4,<- h6,MI,MI];rfl
 have hsz:es.size=ts.length:=by
  have:=congrArg List.length hkeys
  simpa using this
 have hyl:ys.length=ts.length:=by rw[<- h6,Mj]
 have hl:ts.length<=sizeLine:=by rw[<- hyl,<- Paired.length rel];exact z
 refine PySem.W.kdl_call (Sx.Hi (es:=es) (ep:=ep) hd) (I.ok.hd hc) ⟨o,h1,h2,h3⟩ (by rw[hsz];exact hl) fun h' tk Di c hk hL hacc=>?_;have hal:Di.toList=ts.map MO:=by
  apply N7;intro i;by_cases hi:i<es.size
  ·have e1:Di.toList[i]?=some (Di.toList[i]'(by rw[NJ,hacc.1];exact hi)):=Mp _;have:=hacc.2 i _ (by rw[<- Ou];exact e1);rw[<- hkeys,e1,<- this,Ou]
  ·rw[M8 (by rw[NJ,hacc.1];lia),M8 (by rw[Mj,<- hsz];lia)]
 have hobj:aO X.prog X.w (upd H s.heap.objs.size (.lst (ts.map V.ref))) h' s.heap.objs.size (.lst (ts.map V.ref)):=by refine⟨by rw[Mj];exact hl,ts.map MO,c,nM ts,?_⟩;rw[hL,<- hal]
 exact⟨.ref s.heap.objs.size,_,I.laid (t':=tk) hk (Mn _) hobj,rfl,k _ (I.hok.fresh (Mn _))⟩
theorem zQ:CallD zP Dm.dm:=by
 intro H0 H vs ds z Q s rs e k;unfold Dm.dm at e;split at e
 ·split at e
  case isFalse=>cases e
  cases e;cases rs with
  |cons r rr=>cases rr;obtain⟨a,x,rfl,qa,ek,ra⟩:=dN s r;exact⟨a,x.1,x.2,rfl,qa,fun p hp=>k _ _ _ (aI.jJ s hp) ⟨p,rfl,hp,s.free hp,_,au,nJ ek.2⟩⟩
 ·cases e
end
section
variable{σ:L2.St}{H:Hp}{Q:VK}{D:Ends}
theorem J1(h:tD Dm.zN σ H Q):yJ σ H Q:=by obtain⟨H0,ρ,x,ρ',st,e,k⟩:=h;cases e;intro p hp;have g:=aI.jJ (o:=HO.dT [] []) st.same hp;exact k _ _ _ (.grow st g) ⟨p,rfl,hp,st.bB hp,st.same.free hp,([],[]),au,⟨rfl,trivial⟩,.nil⟩
theorem CD{i:Nat}{j f:FE}(h:tDS (Dm.fN i j f) D σ H):yF (jE i) (tD j) (tD f) D σ H:=by
 obtain⟨H0,ρ,o,st,e,k⟩:=h;unfold Dm.fN at e;split at e
 ·cases e
 rename_i x ρ1 e1;split at e
 ·cases e
 rename_i d ρ2 e2;split at e
 case h_2=>cases e
 rename_i d0 h2;split at e
 ·rename_i m n ρ3 e3;split at e
  ·rename_i ks vs h3;split at e
   case isFalse=>cases e
   rename_i hz;cases e;refine⟨H0,ρ,_,ρ1,st,e1,fun v H0' H' t r=>?_⟩;obtain⟨H1,t1,b1,r1,_,_⟩:=take1 t (ao.refl _) r e2;obtain⟨a0,q0,_,_⟩:=t1.st.ow i _ h2;refine⟨_,q0,H1,ρ2,_,ρ3,t1.st,e3,fun u H2 Hc t2 r2=>?_⟩;obtain⟨a,q,n',w⟩:=t2.st.ow i _ h3;rw[q0]at q;cases q;obtain⟨y,yy,ek,rs⟩:=w;obtain⟨b,rfl,hb⟩:=dO t2.st.same (.inl r2);obtain⟨p1,p2⟩:=CB (m,n) (r1.mono t2.stp.s0) ek.1 rs;have uH:y.1.length=ks.length:=by
    have:=congrArg List.length ek.1
    simpa using this
   refine⟨a0,_,rfl,qq.t (k:=kP (m,n)) yy (t2.st.same _ _ hb) (by rw[uH];exact MF hz (by decide)),?_⟩;have ow:aj σ ρ3 a0:=⟨i,_,h3,q0⟩
   have tt:=t1.trans t2;exact k σ H2 _ ⟨t2.st.write h3 q0 ⟨(putK y.1 (kP (m,n)) v,tP y.1 y.2 (kP (m,n)) b),au,⟨p1,zO hb ek.1 ek.2⟩,p2⟩,tt.stp.trans (Stp.write ow) fun b z=>.inl (tt.own b z),fun b z=>.inl (tt.own b (bE h3 z)),rfl⟩
  ·cases e
 ·cases e
end
section
variable{X:Cx}{a b e:Expr}{fa fb f:FE}{pos:Pos}{k:Nat}
theorem EB:DE X (.Dict [] [] pos) Dm.zN:=PE.weak yL fun _ _ _=>J1
theorem J2(hr:aZ k X.A)(ha:DE X a fa)(hb:DE X b fb)(hs:BW b:=by intro _ _;rfl):DE X (.Subscript a b pos) (Dm.e2 Dm.qN fa fb):=PE.weak (vq (u1 hr) ha hb hs) fun _ _ _=>oV Hj
theorem pq(i:Nat){x:Str}{px sp:Pos}(hr:aZ k X.A)(hb:DE X b fb)(he:DE X e f)(hi:X.N[i]?=some x:=by rfl)(hv:Vis X.env.scope x:=by trivial)(hd:(x == ("__debug__" : Str))=false:=by decide)
  (Fp:(x == ("__classdict__" : Str))=false:=by decide) (hs:swapsWith e (some (.Subscript (.Name x px) b sp)) pos.line X.env=pure false:=by rfl):DS X (.Assign [.Subscript (.Name x px) b sp] e pos) (Dm.fN i fb f):=
 PS.weak (vt (u1 hr) (c_ hi hv hd Fp) hb he hs) fun _ _ _=>CD
theorem CF{fs:List FE}{p:Pos}(hc:X.calm=true)(hg:Gl X "list")(hm:X.mg "list" = none)(ha:DA X [e] fs)(he:starEach [e] X.env=[(false,eval e X.env)]:=by rfl)(CP:(backTo pos (starEach [] X.env)).any (·.1)=false:=by rfl):DE X (.Call (.Name "list" p) [e] [] pos) (Dm.eB Dm.dm fs):=zh (uc hc) zQ (by rfl) hg hm ha (he:=he) (CP:=CP)
end
end Br
namespace L2
open PySem PySem.Spec PyProof.Rows
section
variable{P:Program}{w:World}{K:Dp}{mg:Str->Option Value}{base:Heap}{N:List Str}{qual:Str}{scope:Scope}{f:Addr}{cd:Value}{A:Around}{outer:List Env}{s₀:Shared}{H₀:Hp}{E:XK}{C:Addr}
 {mW:List (Addr×Obj)} {σ:St} {H:Hp} {s:Shared}
end
end L2
namespace Pz
open PySem
section
variable{K:Type}[DecidableEq K]
noncomputable def iO(xs:List (K×Addr×Value))(k:K):List (K×Addr×Value):=xs.filter fun x=>decide (x.1≠k)
theorem jx{β:Type}(f:K×Addr×Value->β){k:K}:∀{xs:List (K×Addr×Value)} {j:Nat} {p:Addr×Value},(xs.map (·.1)).Nodup->xs[j]?=some (k,p)->(xs.map f).eraseIdx j=(iO xs k).map f
 |[],_,_,_,h=>by simp at h
 |x::r,j,p,hn,h=>by
  rw[gc,MB]at hn;cases j with
  |zero=>
   simp only[List.getElem?_cons_zero,Option.some.injEq]at h;subst h;unfold iO;rw[MQ (by simp),gc,List.eraseIdx_cons_zero]
   congr 1
   refine(Od.mpr fun y hy=>?_).symm;exact decide_eq_true fun e=>hn.1 (Mt.mpr ⟨y,hy,e⟩)
  |succ j=>simp only[NI]at h;have hm:k∈r.map (·.1):=Mt.mpr ⟨(k,p),NC h,rfl⟩;have J9:x.1≠k:=fun e=>hn.1 (e▸hm);unfold iO;rw[MV (by simpa using J9),gc,gc,List.eraseIdx_cons_succ,jx f hn.2 h];rfl
end
section
variable{prog:Program}{w:World}{K:Type}[DecidableEq K]{knd:HeapKind prog w K}{A:Around}{E:Value->Shared->Prop}{s:Shared}{d a:Addr}{k:K}{xs:List (K×Addr×Value)}
theorem pA{p:Addr×Value}{Q:Option DictEntry->Shared->Prop}(hu:knd.room A)(hkey:knd.is s.heap k a)(hm:s.heap.DictOfH knd d xs)(hp:atKey xs k=some p)(hsz:xs.length<=sizeLine)
  (h:∀h',h'.DictOfH knd d (iO xs k)->NW d s.heap h'->Q (some ⟨knd.hash k,.ref p.1,p.2⟩) { s with heap:=h',toks:=s.toks+knd.draws k }):wpAny (model prog w) A (Builtin.Dict.takeOut d (.ref a)) Q E s:=by
 obtain⟨o,es,ep,ho,hc,hd,he,his,hn⟩:=hm;unfold Builtin.Dict.takeOut
 try with_reducible refine wpAny_holding ?_
 refine wpAny_bind (knd.pyHash hu hkey (wpAny_bind (wpAny_dictFind_heap (s:={ s with toks:=s.toks+knd.draws k }) hu hkey ho hd he his hn ?_ ?_)))
 ·intro hno;rw[atKey_none_of_get hno]at hp;exact nomatch hp
 ·intro j q hj;have e:=atKey_of_get hn hj;rw[e]at hp;cases hp;refine wpAny_bind (wpAny_dictEntries (s:={ s with toks:=s.toks+knd.draws k }) ho hd ?_);rw[entry_at he j,hj];refine wpAny_bind (wpAny_updateDictKeys (hz:=by rw [size_of_entries he];exact hsz) (s:={ s with toks:=s.toks+knd.draws k }) ho hd (wpAny_pure (h _ ⟨_,_,ep+1,Oa _ ho (Obj.isFreed_of_dict (Obj.data_mapDictKeys hd _)),
   hc.mapDictKeys _,Obj.data_mapDictKeys hd _,?_,fun x hx=>knd.keeps (his x (Mx.mp hx).1) ho hd (NL ..),?_⟩ (NL ..))))
  ·have:=jx (entryOfKey knd) hn hj;rw[<- he]at this;rw[<- this];obtain⟨l⟩:=es;have hl:j<l.length:=by
    have:=size_of_entries he;have h2:=(Mq.mp hj).1;simp at this
    lia
   simp[Array.eraseIdxIfInBounds,hl]
  ·exact hn.sublist ((Nn (p:=fun x:K×Addr×Value=>decide (x.1≠k)) (l:=xs)).map _)
theorem ud(knd:HeapKind prog w K)(d a:Addr) :
  MeetsIn prog w (Builtin.«dict.pop» ⟨[.ref d,.ref a],[]⟩) (fun A R s=>knd.room A.in1∧∃ k xs p,knd.is s.heap k a∧s.heap.DictOfH knd d xs∧xs.length≤sizeLine∧atKey xs k=some p ∧
   ∀h',h'.DictOfH knd d (iO xs k)->NW d s.heap h'->R (.ok (.ret p.2)) { s with heap:=h',toks:=s.toks+knd.draws k }):=
 .of_wp fun A R s ⟨hu,k,xs,p,hkey,hm,hsz,hp,h⟩=>by
  obtain⟨o,es,ep,ho,hc,hd,he,his,hn⟩:=id hm;unfold Builtin.«dict.pop»;refine wpAny_bind ?_;unfold Builtin.Dict.keyAndDefault;refine wpAny_bind (wpAny_notOrdered_dict hm.typeIs ?_);show wpAny _ _ (pure (d,MO a,none)) _ _ s;refine wpAny_pure ?_;have J9:es.isEmpty=false:=by
   cases hx:xs with
   |nil=>rw[hx]at hp;exact nomatch hp
   |cons x r=>
    have:=size_of_entries he;rw[hx]at this;cases hq:es.isEmpty with
    |false=>rfl
    |true=>rw[Array.isEmpty_iff.mp hq]at this;exact nomatch this
  simp only[show (keyPart (.ref a)).isSome=false from rfl,M4,if_false];refine wpAny_bind (wpAny_dictEntries ho hd (wpAny_bind (wpAny_pure ?_)));simp only[J9,M4,if_false];refine wpAny_bind (pA hu hkey hm hp hsz fun h' hm' hs'=>?_);simp only[Option.isNone_some,M4,if_false];exact wpAny_bind (wpAny_letGo (wpAny_pure ⟨p.2,rfl,h h' hm' hs'⟩))
end
section
variable{prog:Program}{w:World}{K:Type}[DecidableEq K]{kd:KeyKind prog w K}{A:Around}{E:Value->Shared->Prop}{s:Shared}{d a:Addr}{k:K}{xs:List (List K×Addr×Value)}
theorem zR{es:List DictEntry}(hn:(es.map (·.hash)).Nodup){e:DictEntry}(he:e∈es):(es.filter (·.hash == e.hash)).length<=1:=by
 have h1:(es.filter (·.hash == e.hash)).length=((es.map (·.hash)).filter (· == e.hash)).length:=by rw[List.filter_map,Mj];rfl
 have h2:((es.map (·.hash)).filter (· == e.hash)).length=(es.map (·.hash)).count e.hash:=by rw[List.count_eq_length_filter]
 rw[h1,h2];exact List.nodup_iff_count.mp hn _
theorem pB{id:String}{o:Obj}{es ep}{Q:Array DictEntry->Shared->Prop}(ho:s.heap.get? d=some o)(hd:o.data=.dict es ep)(he:es.toList=xs.map (entryOfKey (tupleKind kd)))(his:∀x∈xs,(tupleKind kd).is s.heap x.1 x.2.1)(hh:(xs.map fun x=>(tupleKind kd).hash x.1).Nodup)(h:Q es s) :
  wpAny (model prog w) A (Builtin.Dict.entriesForEmpty id d) Q E s:=by
 unfold Builtin.Dict.entriesForEmpty;refine wpAny_bind (wpAny_dictEntries ho hd ?_);refine wpAny_bind ?_;rw[<- OQ];have hn:(es.toList.map (·.hash)).Nodup:=by rw[he,MI];exact hh
 refine wpAny_forIn_list _ (fun mX _ s'=>s'=s/\∀e∈mX,e∈es.toList) _ ?_ ?_ _ _ ⟨rfl,fun _ h=>h⟩
 ·rintro e mX b s' ⟨rfl,hall⟩;have hm:=hall e (Ds ..);have hm':=hm;rw[he]at hm';obtain⟨x,hx,rfl⟩:=Mt.mp hm';have hT:=(show IsTupleKey kd s'.heap x.1 x.2.1 from his x hx).typeIs;show wpAny _ _ (Builtin.Dict.quietEq (.ref x.2.1) >>= _) _ _ s';refine wpAny_bind ?_;unfold Builtin.Dict.quietEq;refine wpAny_bind (wpAny_specialOf hT F.slot_tuple_eq.lookup (wpAny_pure ?_));have hc:¬(es.filter (·.hash == (entryOfKey (tupleKind kd) x).hash)).size>1:=by
   have:=zR hn hm;rw[<- Array.toList_filter,NJ]at this
   lia
  split
  ·first | rw[if_neg hc] | skip
   exact wpAny_pure ⟨rfl,fun e he'=>hall e (Dk _ he')⟩
  ·exact wpAny_pure ⟨rfl,fun e he'=>hall e (Dk _ he')⟩
 ·rintro b s' ⟨rfl,_⟩;exact wpAny_pure h
theorem ue{o:Addr}{Q:Value->Shared->Prop}(hoS:(o == sysModules)=false)(ho:s.heap.DictOfH (tupleKind kd) o xs)(hsz:xs.length<=sizeLine)(hh:(xs.map fun x=>(tupleKind kd).hash x.1).Nodup)
  (h:∀h',h'.DictOfH (tupleKind kd) s.heap.objs.size xs->NW s.heap.objs.size (s.heap.push { cls:=.type "dict",data:=.dict #[] }) h'->Q (.ref s.heap.objs.size) { s with heap:=h' }) :
  wpAny (model prog w) A (call (.type "dict") [.ref o]) Q E s:=by
 refine callType_codes (Q₁:=fun obj s₁=>obj=.ref s.heap.objs.size/\s₁={ s with heap:=s.heap.push { cls:=.type "dict",data:=.dict #[] } }) F.kt_called_dict (F.kt_typeCall_dict_1 _) F.entry_dict_init (kt_code_dict_new _ ⟨rfl,rfl⟩) ?_;rintro obj s₁ ⟨rfl,rfl⟩;have hnew:(s.heap.push { cls:=.type "dict",data:=.dict #[] }).DictOfH (tupleKind kd) s.heap.objs.size []:=Heap.DictOfH.new s.heap;have hdo:s.heap.objs.size≠o:=by obtain⟨_,_,_,hg,_⟩:=ho;exact fun e=>absurd (Mu hg) (by rw[e];exact NH _)
 obtain⟨oo,es,ep,ho1,hc,hd,he,his,hn⟩:=id ho;have kp:∀{k:List K} {b:Addr},(tupleKind kd).is s.heap k b->(tupleKind kd).is (s.heap.push { cls:=.type "dict",data:=.dict #[] }) k b:=fun {k b} ⟨o,it,n,q1,q2⟩=>⟨o,it,n,Mm _ q1,q2⟩;have ho':(s.heap.push { cls:=.type "dict",data:=.dict #[] }).DictOfH (tupleKind kd) o xs:=⟨oo,es,ep,Mm _ ho1,hc,hd,he,fun x hx=>kp (his x hx),hn⟩
 have hg:(s.heap.push { cls:=.type "dict",data:=.dict #[] }).get? s.heap.objs.size=some { cls:=.type "dict",data:=.dict #[] }:=MM _ rfl;refine⟨hnew.typeIs,F.args_dict_init_2 _ _,?_⟩;unfold Builtin.«dict.__init__»;refine wpAny_bind ?_;unfold Builtin.Dict.selfAndRest;refine wpAny_bind (wpAny_notOrdered_dict hnew.typeIs ?_);show wpAny _ _ (pure (s.heap.objs.size,[MO o])) _ _ _;refine wpAny_pure ?_;show wpAny _ _ (Builtin.Dict.updateFrom "dict.__init__" s.heap.objs.size (.ref o) [] .none) _ _ _;unfold Builtin.Dict.updateFrom;refine wpAny_bind (wpAny_typeOf ho'.typeIs ?_);rw[if_neg (by decide)];refine wpAny_bind ?_;unfold Builtin.Dict.merge;refine wpAny_bind ?_;unfold Builtin.Dict.readDirectly;refine wpAny_bind (wpAny_isInstance ho'.typeIs isSubtype_dict_dict ?_);simp only[Bool.not_true,M4,if_false];refine wpAny_bind (wpAny_specialOf ho'.typeIs OY.lookup (wpAny_pure ?_));simp only[beq_self_eq_true,if_true];refine wpAny_bind (wpAny_pure ?_);unfold Builtin.Dict.mergeDict;rw[if_neg (by simpa using hdo)];unfold Ow;rw[if_neg (by rw[hoS];exact MG)];refine wpAny_bind (wpAny_pure ?_);refine wpAny_bind (wpAny_dictEntries (Mm _ ho1) hd ?_);dsimp only;cases hx:xs with
 |nil=>subst hx;have h0:es=#[]:=Array.toList_eq_nil_iff.mp he;subst h0;rw[if_neg (by simp)];refine wpAny_bind (wpAny_dictEpoch (Mm _ ho1) hd ?_);refine wpAny_bind (wpAny_dictEntries (Mm _ ho1) hd ?_);rw[Std.Legacy.Range.forIn_eq_forIn_range'];refine wpAny_bind (wpAny_pure (wpAny_pure ?_));show wpAny _ _ (Builtin.Dict.addKeywords s.heap.objs.size [] >>= _) _ _ _;exact wpAny_bind (wpAny_pure (wpAny_pure ⟨rfl,h _ hnew (NW.refl _ _)⟩))
 |cons x r=>
  have hf:¬(decide (es.size<=8)&&es.all fun e=>(keyPart e.key).isSome)=true:=fun z=>by have z2:=(Bool.and_eq_true_iff.mp z).2;rw[Array.all_eq_true_iff_forall_mem]at z2;have hm:entryOfKey (tupleKind kd) x∈es:=Array.mem_toList_iff.mp (by rw[he,hx];exact Ds ..);exact nomatch z2 _ hm
  rw[if_pos (by rw[Bool.not_eq_true'];exact Bool.eq_false_iff.mpr hf)];refine wpAny_bind (wpAny_dictEntries hg rfl ?_);rw[if_pos (by rfl)];refine wpAny_bind (pB (Mm _ ho1) hd he (fun x hx=>kp (his x hx)) hh ?_);have J9:(!es.isEmpty)=true:=by
   cases hq:es.isEmpty with
   |false=>rfl
   |true=>rw[Array.isEmpty_iff.mp hq,hx]at he;exact nomatch he
  rw[if_pos J9];refine wpAny_bind (wpAny_updateDictKeysTo hg rfl (wpAny_pure ?_) (by rw[size_of_entries he];exact Nat.le_succ_of_le hsz));show wpAny _ _ (Builtin.Dict.addKeywords s.heap.objs.size [] >>= _) _ _ _;refine wpAny_bind (wpAny_pure (wpAny_pure ⟨rfl,h _ ⟨_,_,1,Oa _ hg rfl,?_,rfl,he,fun y hy=>(tupleKind kd).keeps (kp (his y hy)) hg rfl (NL ..),hn⟩ (NL ..)⟩));exact⟨rfl,rfl,rfl⟩
end
end Pz
namespace Dm
noncomputable def je(a b:FE):FE:=fun ρ=>match a ρ with
 |none=>none
 |some (x,ρ1)=>match pk ρ1 x with
  | some (.dcp _ _)=>(match b ρ1 with
   |none=>none
   |some (y,ρ2)=>match pk ρ2 x with
    | some (.dcp ks vs)=>(match pk ρ2 y with
     |some (.tup [.int i,.int j])=>some (.val ((cW ks vs (i,j)).getD .non),ρ2)
     |_=>none)
    |_=>none)
  |_=>none
noncomputable def cJ:List (Int×Int)->List Dat->Int×Int->List (Int×Int)
 |k::ks,_::vs,p=>if k=p then cJ ks vs p else k::cJ ks vs p
 |_,_,_=>[]
noncomputable def cX:List (Int×Int)->List Dat->Int×Int->List Dat
 |k::ks,v::vs,p=>if k=p then cX ks vs p else v::cX ks vs p
 |_,_,_=>[]
noncomputable def gD(i:Nat)(e:FE):FE:=fun ρ=>match ρ[i]? with
 | some (.ow (.dcp _ _))=>(match e ρ with
  | some (.val (.tup [.int p,.int q]),ρ1)=>(match ρ1[i]? with
   | some (.ow (.dcp ks vs))=>(match cW ks vs (p,q) with
    |some d=>some (.val d,ρ1.set i (.ow (.dcp (cJ ks vs (p,q)) (cX ks vs (p,q)))))
    |none=>none)
   |_=>none)
  |_=>none)
 |_=>none
noncomputable def fP(ks:List (Int×Int)):Bool:=ks.all fun p=>decide (0<=p.1/\p.1<20/\0<=p.2/\p.2<20)
noncomputable def jf:List Dat->Option RV
 |[.dcp ks vs]=>if fP ks then some (.new (.dcp ks vs)) else none
 |_=>none
noncomputable def tkp(ρ:Env):Val->Option (Dat×Env)
 |.val d=>some (d,ρ)
 |.new d=>some (d,ρ)
 |.slot i=>match ρ[i]? with
  |some (.ow (.dcp ks vs))=>some (.dcp ks vs,ρ)
  |some (.ow d)=>some (d,ρ.set i (.sh d))
  |some (.sh d)=>some (d,ρ)
  |_=>none
noncomputable def uf(ρ:Env):List Val->Option (List Dat×Env)
 |[]=>some ([],ρ)
 |x::r=>match tkp ρ x with
  |none=>none
  |some (d,ρ1)=>match uf ρ1 r with
   |none=>none
   |some (ds,ρ2)=>some (d::ds,ρ2)
noncomputable def jh(f:List Dat->Option RV)(as:List FE):FE:=fun ρ=>match eAs as ρ with
 |none=>none
 |some (xs,ρ1)=>match uf ρ1 xs with
  |none=>none
  |some (ds,ρ2)=>match f ds with
   |none=>none
   |some v=>if aN v.dat then some (v.bA,ρ2) else none
end Dm
namespace Br
open PySem PySem.Spec PyProof.Rows L2
noncomputable def iP:List (List Key×V)->List Addr->List Key->List Addr
 |kv::kvs,t::ts,k=>if kv.1=k then iP kvs ts k else t::iP kvs ts k
 |_,_,_=>[]
theorem KT.drop{H:Hp}{kvs:List (List Key×V)}{xs:List (List Key×Addr×Value)}(r:KT H kvs xs)(k:List Key):KT H (iF kvs k) (Pz.iO xs k)/\(Pz.iO xs k).map (·.2.1)=iP kvs (xs.map (·.2.1)) k:=by
 induction r with
 |nil=>exact⟨.nil,rfl⟩
 |@cons p q ps qs h t ih=>
  obtain⟨i1,i2⟩:=ih;unfold iF Pz.iO at i1 ⊢;unfold Pz.iO at i2;rw[gc];unfold iP;by_cases e:p.1=k
  ·have e':q.1=k:=h.1.symm.trans e;rw[MQ (by simp[e]),MQ (by simp[e']),if_pos e];exact⟨i1,i2⟩
  ·have e':¬q.1=k:=fun z=>e (h.1.trans z);rw[MV (by simp[e]),MV (by simp[e']),if_neg e,gc,i2];exact⟨.cons h i1,rfl⟩
theorem qP{H0 H1:Hp}(p:Int×Int):∀{kvs:List (List Key×V)} {ts:List Addr} {ks:List (Int×Int)} {ds:List Dat},kvs.map (·.1)=ks.map kP->bK H1 ts ks->av H0 (kvs.map (·.2)) ds ->
  (iF kvs (kP p)).map (·.1)=(Dm.cJ ks ds p).map kP/\bK H1 (iP kvs ts (kP p)) (Dm.cJ ks ds p)/\av H0 ((iF kvs (kP p)).map (·.2)) (Dm.cX ks ds p)
 |[],[],[],ds,_,_,r=>by cases r;exact⟨rfl,trivial,.nil⟩
 |[],_::_,[],ds,_,h,r=>h.elim
 |[],_,_::_,_,e,_,_=>by cases e
 |_::_,_,[],_,e,_,_=>by cases e
 |_::_,[],_::_,_,_,h,_=>h.elim
 |(k,v)::kvs,t::ts,k'::ks,ds,e,h,r=>by
  rw[gc,gc]at e;injection e with e1 e2
  cases r with
  |cons h0 r=>
   obtain⟨i1,i2,i3⟩:=qP p e2 h.2 r;unfold iF at i1 i3 ⊢;dsimp only at e1;subst e1;unfold iP Dm.cJ Dm.cX;by_cases q:k'=p
   ·subst q;rw[MQ (by simp),if_pos rfl,if_pos rfl,if_pos rfl];exact⟨i1,i2,i3⟩
   ·have q':¬kP k'=kP p:=fun z=>q (o_ z);rw[MV (by simpa using q'),if_neg q,if_neg q,if_neg q'];exact⟨by rw[gc,gc,i1],⟨h.1,i2⟩,by rw[gc];exact .cons h0 i3⟩
section
variable{X:Cx}{mW:List (Addr×Obj)}{σ:L2.St}{H:Hp}{s:Shared}{a b:Addr}{kvs:List (List Key×V)}{ts:List Addr}{k:List Key}{A:Around}{E:Value->Shared->Prop}
theorem Hl{v:V}{Q:Value->Shared->Prop}(hu:A.units+1<cLine)(I:Inv X mW σ H s)(e:H a=some (.dT kvs ts))(eb:H b=some (.tup (k.map kV)))(l:fh kvs k=some v)
  (h:∀w' s',Inv X mW σ (upd H a (.dT (iF kvs k) (iP kvs ts k))) s'->RelV v w'->Q w' s'):wpAny (model X.prog X.w) A (call (.builtin "dict.pop") [.ref a,.ref b]) Q E s:=by
 obtain⟨z,hd,xs,rel,dd⟩:=yD I.hok e;obtain⟨w',hw,rw'⟩:=iB.some_of (v:=v) (o:=(atKey xs k).map (·.2)) (by rw[<- l];exact rel.val k);obtain⟨p,hp,rfl⟩:=Om.mp hw;have hz:xs.length<=sizeLine:=by rw[<- Paired.length rel];exact z
 have hts:xs.map (·.2.1)=ts:=by
  obtain⟨_,_,xs2,_,o2,es2,ep2,g1,g2,g3,g4,g5,g6⟩:=(show aO X.prog X.w H s.heap a (.dT kvs ts) from I.hok a _ e)
  exact tQ dd g1 g3 g4 g6
 refine call_meetsIn PySem.F.slot_dict_pop dd.typeIs PySem.F.entry_dict_pop (PySem.F.args_dict_pop_2 _ _) (Pz.ud (tupleKind (aF X.prog X.w)) a b)
  ⟨tupleKind_room_in1 hu,k,xs,p,gw I.hok eb,dd,hz,hp,fun h' dd' hs=>h _ _ ?_ rw'⟩
 obtain⟨q,es,ep,hq,h2,h3,h4,_,h5⟩:=dd';obtain⟨d1,d2⟩:=KT.drop rel k;refine jO I (by rw[e];exact NB) hs ⟨q,hq⟩ ⟨MH (yC kvs k) z,hd,_,d1.keeps fun c ys ec=>?_,q,es,ep,hq,h2,h3,h4,h5,?_⟩
 ·rw[ak (D5 ec e (fun z=>nomatch z))];exact ec
 ·rw[d2,hts]
theorem CG{Q:Value->Shared->Prop}(I:Inv X mW σ H s)(e:H a=some (.dT kvs ts))(hh:(kvs.map fun kv=>(tupleKind (aF X.prog X.w)).hash kv.1).Nodup)(h:∀p s',H p=none->Inv X mW σ (upd H p (.dT kvs ts)) s'->Q (.ref p) s'):wpAny (model X.prog X.w) A (call (.type "dict") [.ref a]) Q E s:=by
 obtain⟨z,hd,xs,rel,dd⟩:=yD I.hok e;have hts:xs.map (·.2.1)=ts:=by
  obtain⟨_,_,xs2,_,o2,es2,ep2,g1,g2,g3,g4,g5,g6⟩:=(show aO X.prog X.w H s.heap a (.dT kvs ts) from I.hok a _ e)
  exact tQ dd g1 g3 g4 g6
 have keys:∀{l:List (List Key×V)} {m:List (List Key×Addr×Value)},KT H l m->l.map (·.1)=m.map (·.1):=by
  intro l m q
  induction q with
  |nil=>rfl
  |cons hq _ ih=>rw[gc,gc,ih,hq.1]
 have hh':(xs.map fun x=>(tupleKind (aF X.prog X.w)).hash x.1).Nodup:=by
  have:(xs.map fun x=>(tupleKind (aF X.prog X.w)).hash x.1)=(xs.map (·.1)).map (tupleKind (aF X.prog X.w)).hash:=by rw[MI];rfl
  rw[this,<- keys rel,MI];exact hh
 refine Pz.ue hd dd (by rw[<- Paired.length rel];exact z) hh' fun h' dd' hs=>?_;obtain⟨q,es,ep,hq,h2,h3,h4,_,h5⟩:=dd';have hf:=I.hok.fresh (Mn s.heap.objs.size);refine h _ _ hf (I.laid (a:=s.heap.objs.size) (o:=.dT kvs ts) (t':=s.toks) (fun b q hq=>?_) (Mn _) ⟨z,beq_eq_false_iff_ne.mpr (Ne.symm (ML I.big)),xs,rel.keeps fun c ys ec=>?_,q,es,ep,hq,h2,h3,h4,h5,hts⟩)
 ·exact(hs.2 b (ML (Mu hq))).trans (Mm _ hq)
 ·rw[ak (fun z=>by rw[z,hf]at ec;cases ec)];exact ec
end
section
variable{P:Program}{kvs:List (List Key×V)}{w:World}{ks:List (Int×Int)}{X:Cx}
noncomputable def hp(i j:Nat):Int:=reduceHash (Oh [hashInt (i:Int),hashInt (j:Int)])
theorem Ho:((Mv 400).map fun n=>hp (n / 20) (n % 20)).Nodup:=by decide +kernel
theorem xM{i j i' j':Nat}(h1:i<20)(h2:j<20)(h3:i'<20)(h4:j'<20)(e:hp i j=hp i' j'):i=i'/\j=j':=by
 have a1:∀{i j:Nat},i<20->j<20->((Mv 400).map fun n=>hp (n / 20) (n % 20))[20*i+j]?=some (hp i j):=fun {i j} h1 h2=>by rw[MS,NK (by lia)];show some (hp ((20*i+j) / 20) ((20*i+j) % 20))=some _;rw[show (20*i+j) / 20=i by lia,show (20*i+j) % 20=j by lia]
 have:=(List.getElem?_inj (by rw[Mj,MT];lia) Ho).mp ((a1 h1 h2).trans ((congrArg some e).trans (a1 h3 h4).symm))
 lia
theorem zS{K:Type}[DecidableEq K](kd:KeyKind P w K)(ks:List K):(tupleKind kd).hash ks=reduceHash (Oh (ks.map kd.hash)):=rfl
theorem qQ(i:Int):(aF P w).hash (.inl i)=hashInt i:=rfl
theorem vP(p:Int×Int):(tupleKind (aF P w)).hash (kP p)=reduceHash (Oh [hashInt p.1,hashInt p.2]):=by rw[zS];unfold kP;rw[gc,gc,Ob,qQ,qQ]
theorem zT{f:List Key->Int}(hf:∀p q:Int×Int,(0<=p.1/\p.1<20/\0<=p.2/\p.2<20)->(0<=q.1/\q.1<20/\0<=q.2/\q.2<20)->f (kP p)=f (kP q)->p=q)(e:kvs.map (·.1)=ks.map kP)(hs:Dm.fP ks=true)(hn:(kvs.map (·.1)).Nodup):(kvs.map fun kv=>f kv.1).Nodup:=by
 have h1:(kvs.map fun kv=>f kv.1)=ks.map fun p=>f (kP p):=by have:=congrArg (Po f) e;rw[MI,MI]at this;exact this
 rw[h1];have hk:ks.Nodup:=by rw[e]at hn;exact(MY.mp hn).imp fun {a b} h q=>h (by rw[q])
 refine MY.mpr (Nr ?_ hk);intro a b ha hb ne q;exact ne (hf a b (of_decide_eq_true (M3.mp hs a ha)) (of_decide_eq_true (M3.mp hs b hb)) q)
theorem qR(p q:Int×Int)(h1:0<=p.1/\p.1<20/\0<=p.2/\p.2<20)(h2:0<=q.1/\q.1<20/\0<=q.2/\q.2<20)(e:(tupleKind (aF P w)).hash (kP p)=(tupleKind (aF P w)).hash (kP q)):p=q:=by
 rw[vP,vP]at e;obtain⟨p1,p2⟩:=p;obtain⟨q1,q2⟩:=q;obtain⟨i,rfl⟩:∃i:Nat,p1=(i:Int):=⟨p1.toNat,by lia⟩
 obtain⟨j,rfl⟩:∃i:Nat,p2=(i:Int):=⟨p2.toNat,by lia⟩
 obtain⟨i',rfl⟩:∃i:Nat,q1=(i:Int):=⟨q1.toNat,by lia⟩
 obtain⟨j',rfl⟩:∃i:Nat,q2=(i:Int):=⟨q2.toNat,by lia⟩
 dsimp only at h1 h2 e;have e2:hp i j=hp i' j':=by unfold hp;exact e
 obtain⟨rfl,rfl⟩:=xM (by lia) (by lia) (by lia) (by lia) e2;rfl
theorem qS(e:kvs.map (·.1)=ks.map kP)(hs:Dm.fP ks=true)(hn:(kvs.map (·.1)).Nodup):(kvs.map fun kv=>(tupleKind (aF P w)).hash kv.1).Nodup:=zT qR e hs hn
theorem ug:cz X (.type "dict") (fun xs H Q=>∃a kvs ts ks,xs=[.ref a]/\H a=some (.dT kvs ts)/\kvs.map (·.1)=ks.map kP/\Dm.fP ks=true/\∀p,H p=none->Q (.ref p) (upd H p (.dT kvs ts))):=by
 intro mW s σ H xs us Q I r h;obtain⟨a,kvs,ts,ks,rfl,ha,ek,hs,k⟩:=h;obtain⟨u,rfl,rx⟩:=vals1 r;cases rx;have hn:(kvs.map (·.1)).Nodup:=by
  obtain⟨_,_,xs2,rel,o2,es2,ep2,g1,g2,g3,g4,g5,g6⟩:=(show aO X.prog X.w H s.heap a (.dT kvs ts) from I.hok a _ ha)
  have keys:∀{l:List (List Key×V)} {m:List (List Key×Addr×Value)},KT H l m->l.map (·.1)=m.map (·.1):=by
   intro l m q
   induction q with
   |nil=>rfl
   |cons hq _ ih=>rw[gc,gc,ih,hq.1]
  rw[keys rel];exact g5
 exact CG I ha (qS ek hs hn) fun p s' hp I'=>⟨.ref p,_,I',rfl,k p hp⟩
theorem zU:CallD (fun xs H Q=>∃a kvs ts ks,xs=[.ref a]/\H a=some (.dT kvs ts)/\kvs.map (·.1)=ks.map kP/\Dm.fP ks=true/\∀p,H p=none->Q (.ref p) (upd H p (.dT kvs ts))) Dm.jf:=by
 intro H0 H vs ds z Q s rs e k;unfold Dm.jf at e;split at e
 ·rename_i ks vs';split at e
  case isFalse=>cases e
  rename_i hs;cases e;cases rs with
  |cons r rr=>cases rr;obtain⟨a,x,rfl,ha,ek,rs⟩:=dN s r;exact⟨a,x.1,x.2,ks,rfl,ha,ek.1,hs,fun p hp=>k _ _ _ (aI.jJ s hp) ⟨p,rfl,hp,s.free hp,x,au,ek,rs⟩⟩
 ·cases e
def zV(td ty:TE):TE:=fun σ H Q=>td σ H fun x H1=>∃a,x=.ref a/\IsD H1 a/\ty σ H1 fun y H2=>∃kvs ts k b v,H2 a=some (.dT kvs ts)/\y=.ref b/\H2 b=some (.tup (k.map kV))/\fh kvs k=some v/\Q v (upd H2 a (.dT (iF kvs k) (iP kvs ts k)))
theorem zW{o e:Expr}{Hu cpos:Pos}{td ty:TE}(hu:X.A.units+1<cLine)(ho:PE X o td)(he:PE X e ty)(m:M1 X o "pop" Hu e cpos):PE X (.Call (.Attribute o "pop" Hu) [e] [] cpos) (zV td ty):=by intro mW s σ H Q I h;refine wpAny_Call_method m.base m.few m.line PySem.F.plainAttrs_dict PySem.F.slot_dict_pop PySem.F.type_dict_pop (thn (ho mW s σ H _ I h) fun u s1 ⟨x,H1,I1,rx,a,ex,d,q1⟩=>?_);subst ex;obtain rfl:u=MO a:=rx;obtain⟨t1,t2,_⟩:=yN I1 d;refine⟨t1,t2,?_⟩;rw[m.trees];refine Ol rfl (OC (OO (thn (he mW s1 σ H1 _ I1 q1) fun iv s2 ⟨y,H2,I2,ry,kvs,ts,k,b,v,ea,ey,eb,l,q2⟩=>Oi ?_)));subst ey;cases (show iv=MO b from ry);exact Hl hu I2 ea eb l fun w' s3 I3 rw'=>⟨v,_,I3,rw',q2⟩
end
section
variable{σ:L2.St}{H:Hp}{Q:VK}
theorem CH{i:Nat}{f:FE}(h:tD (Dm.gD i f) σ H Q):zV (jE i) (tD f) σ H Q:=by
 obtain⟨H0,ρ,x,ρ',st,e,k⟩:=h;unfold Dm.gD at e;split at e
 case h_2=>cases e
 rename_i ks0 vs0 h0;split at e
 case h_2=>cases e
 rename_i m n ρ1 e1;split at e
 case h_2=>cases e
 rename_i ks vs h1;split at e
 case h_2=>cases e
 rename_i d hl;cases e;obtain⟨a0,q0,n0,y0,yy0,_⟩:=st.ow i _ h0;refine⟨_,q0,a0,rfl,.inr ⟨y0.1,y0.2,.inl yy0⟩,H0,ρ,_,ρ1,st,e1,fun u H1 Hb t1 r1=>?_⟩;obtain⟨b,rfl,hb⟩:=dO t1.st.same (.inl r1);obtain⟨a,q,n',w⟩:=t1.st.ow i _ h1;rw[q0]at q;cases q;obtain⟨y,yy,ek,rs⟩:=w;rcases fO (m,n) ek.1 rs with⟨d',v,l1,l2,r⟩ | ⟨l1,_⟩
 ·rw[hl]at l1;cases l1;obtain⟨p1,p2,p3⟩:=qP (m,n) ek.1 ek.2 rs;have ow:aj σ ρ1 a0:=⟨i,_,h1,q0⟩
  exact⟨y.1,y.2,kP (m,n),b,v,yy,rfl,t1.st.same _ _ hb,l2,k v H1 _ ⟨t1.st.write h1 q0 ⟨(iF y.1 (kP (m,n)),iP y.1 y.2 (kP (m,n))),au,⟨p1,p2⟩,p3⟩,t1.stp.trans (Stp.write ow) fun b z=>.inl (t1.own b z),fun b z=>t1.own b (bE h1 z),fun j z=>trivial⟩ r⟩
 ·rw[hl]at l1;cases l1
theorem CI{fo fi:FE}(h:tD (Dm.je fo fi) σ H Q):yO (tD fo) (tD fi) σ H Q:=by
 obtain⟨H0,ρ,x,ρ',st,e,k⟩:=h;unfold Dm.je at e;split at e
 ·cases e
 rename_i x1 ρ1 e1;split at e
 case h_2=>cases e
 rename_i ks0 vs0 p0;split at e
 ·cases e
 rename_i y1 ρ2 e2;split at e
 case h_2=>cases e
 rename_i ks vs p1;split at e
 case h_2=>cases e
 rename_i i j p2;cases e;refine⟨H0,ρ,x1,ρ1,st,e1,fun v H1 Hb t1 r1=>?_⟩;obtain⟨a,x0,rfl,qa0,_,_⟩:=dN t1.st.same (r1.look t1.st p0);refine⟨a,rfl,.inr ⟨x0.1,x0.2,.inl qa0⟩,H1,ρ1,y1,_,t1.st,e2,fun u H2 Hc t2 r2=>?_⟩;obtain⟨b,rfl,hb⟩:=dO t2.st.same (r2.look t2.st p2);obtain⟨a',x1,ea,qa,ek,rs⟩:=dN t2.st.same ((r1.mono t2).look t2.st p1);cases ea;refine⟨_,cG.t (k:=kP (i,j)) qa (t2.st.same _ _ hb),k _ H2 Hc (t1.trans t2) ?_⟩;rcases fO (i,j) ek.1 rs with⟨d,w,l1,l2,r⟩ | ⟨l1,l2⟩
 ·rw[l1,l2];exact r
 ·rw[l1,l2];exact Rep.non
end
section
variable{X:Cx}{a b e:Expr}{fs:List FE}{fa fb:FE}{p pos:Pos}{k:Nat}
theorem CJ(hg:Gl X "dict")(hm:X.mg "dict" = none)(ha:DA X [e] fs)(he:starEach [e] X.env=[(false,eval e X.env)]:=by rfl)(CP:(backTo pos (starEach [] X.env)).any (·.1)=false:=by rfl):DE X (.Call (.Name "dict" p) [e] [] pos) (Dm.eB Dm.jf fs):=zh ug zU (by rfl) hg hm ha (he:=he) (CP:=CP)
theorem vQ(i:Nat){x:Str}{px Hu cpos:Pos}(hr:aZ k X.A)(hb:DE X b fb)(hi:X.N[i]?=some x:=by rfl)(hv:Vis X.env.scope x:=by trivial)(hd:(x == ("__debug__" : Str))=false:=by decide)
  (Fp:(x == ("__classdict__" : Str))=false:=by decide) (m:M1 X (.Name x px) "pop" Hu b cpos:=by exact⟨rfl,rfl,rfl,rfl⟩):DE X (.Call (.Attribute (.Name x px) "pop" Hu) [b] [] cpos) (Dm.gD i fb):=PE.weak (zW (u1 hr) (c_ hi hv hd Fp) hb m) fun _ _ _=>CH
theorem CK{Hu cpos:Pos}(hr:aZ k X.A)(ha:DE X a fa)(hb:DE X b fb)(m:M1 X a "get" Hu b cpos:=by exact⟨rfl,rfl,rfl,rfl⟩):DE X (.Call (.Attribute a "get" Hu) [b] [] cpos) (Dm.je fa fb):=PE.weak (yP (u1 hr) ha hb m) fun _ _ _=>CI
end
section
variable{ks:List (Int×Int)}{vs:List Dat}{ρ ρ':Dm.Env}{d:Dat}{x:Dm.Val}{H H':Hp}{i:Nat}
theorem Hq(e:Dm.tkp ρ x=some (d,ρ')):Dm.tk ρ x=some (d,ρ')\/∃i ks vs,x=.slot i/\ρ[i]?=some (.ow (.dcp ks vs))/\d=.dcp ks vs/\ρ'=ρ:=by
 cases x with
 |val d'=>exact .inl e
 |new d'=>exact .inl e
 |slot i=>
  unfold Dm.tkp at e;dsimp only at e;split at e
  ·rename_i ks vs h;cases e;exact .inr ⟨i,ks,vs,rfl,h,rfl,rfl⟩
  ·rename_i d' _ h;left;unfold Dm.tk;dsimp only;rw[h];exact e
  ·rename_i d' h;left;unfold Dm.tk;dsimp only;rw[h];exact e
  ·cases e
theorem zX(e:Dm.tkp ρ x=some (d,ρ'))(h:ρ[i]?=some (.ow (.dcp ks vs))):ρ'[i]?=some (.ow (.dcp ks vs)):=by
 cases x with
 |val d'=>cases e;exact h
 |new d'=>cases e;exact h
 |slot j=>
  unfold Dm.tkp at e;dsimp only at e;split at e
  ·cases e;exact h
  ·rename_i d' hn hj;cases e;by_cases q:j=i
   ·subst q;rw[h]at hj;cases hj;exact absurd rfl (hn ks vs)
   ·rw[gV q];exact h
  ·cases e;exact h
  ·cases e
theorem nN:∀{xs:List Dm.Val} {ρ ρ':Dm.Env} {ds:List Dat},Dm.uf ρ xs=some (ds,ρ')->ρ[i]?=some (.ow (.dcp ks vs))->ρ'[i]?=some (.ow (.dcp ks vs))
 |[],_,_,_,e,h=>by cases e;exact h
 |x::xs,ρ,ρ',ds,e,h=>by
  unfold Dm.uf at e;split at e
  ·cases e
  rename_i d ρ1 e1;split at e
  ·cases e
  rename_i ds' ρ2 e2;cases e;exact nN e2 (zX e1 h)
def J3(H0:Hp)(σ:L2.St)(ρ:Dm.Env)(v:V)(d:Dat):Prop:=Rep H0 v d\/∃(i:Nat) (b:Addr) (ks:List (Int×Int)) (vs:List Dat),d=.dcp ks vs/\v=.ref b/\ρ[i]?=some (.ow (.dcp ks vs))/\σ[i]?=some (some (.ref b))
inductive kQ(H0:Hp)(σ:L2.St)(ρ:Dm.Env):List V->List Dat->Prop
 |nil:kQ H0 σ ρ [] []
 |cons {v:V} {d:Dat} {vs:List V} {ds:List Dat}:J3 H0 σ ρ v d->kQ H0 σ ρ vs ds->kQ H0 σ ρ (v::vs) (d::ds)
theorem uh{Hs H0s H0 H:Hp}{σ:L2.St}{ρs:Dm.Env}:∀{xs:List Dm.Val} {vs:List V} {ρ ρ':Dm.Env} {ds:List Dat} {H0c:Hp},ESt σ ρs H0s Hs ρ H0c H->ao H0 H0c->cA Hs H0 H σ ρ vs xs->Dm.uf ρ xs=some (ds,ρ') ->
  ∃gA,ESt σ ρs H0s Hs ρ' gA H/\ao H0c gA/\kQ gA σ ρ' vs ds
 |[],_,ρ,ρ',ds,H0c,t,b,r,e=>by cases r;cases e;exact⟨H0c,t,ao.refl _,.nil⟩
 |x::xs,_,ρ,ρ',ds,H0c,t,b,r,e=>by
  cases r with
  |cons h r=>
   unfold Dm.uf at e;split at e
   ·cases e
   ·rename_i d ρ1 e1;split at e
    ·cases e
    ·rename_i ds' ρ2 e2;cases e;rcases Hq e1 with e1' | ⟨i,ks,vs,rfl,hi,rfl,rfl⟩
     ·obtain⟨H1,t1,b1,r1,o1,d1⟩:=take1 t b h e1';obtain⟨H2,t2,b2,r2⟩:=uh t1 (b.trans b1) (r.rho o1 d1) e2;exact⟨H2,t2,b1.trans b2,.cons (.inl (r1.mono b2)) r2⟩
     ·obtain⟨H2,t2,b2,r2⟩:=uh t b r e2;obtain⟨q,_⟩:=h;obtain⟨a,z,_⟩:=t.st.ow i _ hi;rw[q]at z;cases z;exact⟨H2,t2,b2,.cons (.inr ⟨i,a,ks,vs,rfl,rfl,nN e2 hi,q⟩) r2⟩
mutual
theorem Rep.noP(hk:∀a o,H a=some o->H' a=some o\/∃kvs ts,o=.dT kvs ts):∀{v:V} {d:Dat},Rep H v d->Dm.aN d=true->Rep H' v d
 |_,_,.non,_=>.non
 |_,_,.bl b,_=>.bl b
 |_,_,.int i,_=>.int i
 |_,_,.str x,_=>.str x
 | _,_,.tup h r,n=>.tup (by
   rcases hk _ _ h with z | ⟨_,_,z⟩
   ·exact z
   ·cases z) (av.noP hk r (by unfold Dm.aN at n;exact n))
 | _,_,.lst h r,n=>.lst (by
   rcases h with h | ⟨o,h⟩
   ·rcases hk _ _ h with z | ⟨_,_,z⟩
    ·exact .inl z
    ·cases z
   ·rcases hk _ _ h with z | ⟨_,_,z⟩
    ·exact .inr ⟨o,z⟩
    ·cases z) (av.noP hk r (by unfold Dm.aN at n;exact n))
 |_,_,.dct _ _ _,n=>by unfold Dm.aN at n;cases n
 |_,_,.dcp _ _ _,n=>by unfold Dm.aN at n;cases n
 |_,_,.exc _,n=>by unfold Dm.aN at n;cases n
 |_,_,.dc _ _,n=>by unfold Dm.aN at n;cases n
 |_,_,.fn a,_=>.fn a
theorem av.noP(hk:∀a o,H a=some o->H' a=some o\/∃kvs ts,o=.dT kvs ts):∀{vs:List V} {ds:List Dat},av H vs ds->Dm.di ds=true->av H' vs ds
 |_,_,.nil,_=>.nil
 |_,_,.cons h r,n=>by unfold Dm.di at n;rw[MD]at n;exact .cons (Rep.noP hk h n.1) (av.noP hk r n.2)
end
end
open Classical in
theorem zY{σ:L2.St}{H:Hp}{Q:VK}{f:List Dat->Option RV}{fs:List FE}{E:XK}(h:tD (Dm.jh f fs) σ H Q):j6 (spD f) [] E (tDA fs) σ H Q:=by
 obtain⟨H0,ρ,x,ρ',st,e,k⟩:=h;unfold Dm.jh at e;split at e
 ·cases e
 rename_i xs ρ1 e1;split at e
 ·cases e
 rename_i ds ρ2 e2;split at e
 ·cases e
 rename_i z fz;split at e
 case isFalse=>cases e
 rename_i hno;injection e with e
 injection e with ea eb
 subst ea;subst eb;refine⟨H0,ρ,xs,ρ1,st,e1,fun vs H1 Hb t1 r1=>?_⟩;dsimp only;rw[Nc];obtain⟨H2,t2,b2,r2⟩:=uh t1 (ao.refl _) r1 e2
 let B:Addr->Prop:=fun b=>∃(i:Nat) (ks:List (Int×Int)) (vs:List Dat),ρ2[i]?=some (.ow (.dcp ks vs))/\σ[i]?=some (some (.ref b))
 have hB:∀b,B b->H2 b=none/\∃kvs ts,Hb b=some (.dT kvs ts):=fun b ⟨i,ks,vs,h1,h2⟩=>by obtain⟨a,q,n,kvs,w,_⟩:=t2.st.ow i _ h1;rw[h2]at q;cases q;exact⟨n,kvs.1,kvs.2,w⟩
 let H2':Hp:=fun b=>if B b then Hb b else H2 b
 have in':∀b,B b->H2' b=Hb b:=fun b h=>if_pos h;have out':∀b,¬B b->H2' b=H2 b:=fun b h=>if_neg h;have s2:ao H2 H2':=fun b o e=>by
  by_cases q:B b
  ·rw[(hB b q).1]at e;cases e
  ·rw[out' b q];exact e
 have s2b:ao H2' Hb:=fun b o e=>by
  by_cases q:B b
  ·rw[in' b q]at e;exact e
  ·rw[out' b q]at e;exact t2.st.same _ _ e
 have rr:∀{vs:List V} {ds:List Dat},kQ H2 σ ρ2 vs ds->av H2' vs ds:=fun {vs ds} r=>by
  induction r with
  |nil=>exact .nil
  |cons h _ ih=>
   refine .cons ?_ ih;rcases h with h | ⟨i,b,ks,vs',rfl,rfl,h1,h2⟩
   ·exact h.mono s2
   ·obtain⟨a,q,n,kvs,w,ek,rs⟩:=t2.st.ow i _ h1;rw[h2]at q;cases q;exact .dcp (by rw[in' _ ⟨i,ks,vs',h1,h2⟩];exact w) (ek.mono s2) (rs.mono s2)
 refine⟨H2',ds,z,s2b,rr r2,fz,fun w H3 Hd g3 r3=>?_⟩
 let H3':Hp:=fun b=>if B b then none else H3 b
 have in3:∀b,B b->H3' b=none:=fun b h=>if_pos h;have kM:∀b,¬B b->H3' b=H3 b:=fun b h=>if_neg h;have gr:aI H2 Hb H3' Hd:=⟨fun b o e=>by
   by_cases q:B b
   ·rw[(hB b q).1]at e;cases e
   ·rw[kM b q];exact g3.s0 _ _ (s2 _ _ e),g3.s1,fun b o e=>by
   by_cases q:B b
   ·rw[in3 b q]at e;cases e
   ·rw[kM b q]at e;rcases g3.s2 b o e with y | y
    ·exact .inl y
    ·rw[out' b q]at y;exact .inr y,fun b o e=>by
   by_cases q:B b
   ·rw[in3 b q]at e;cases e
   ·rw[kM b q]at e;exact g3.s3 _ _ e⟩
 have hk:∀a o,H3 a=some o->H3' a=some o\/∃kvs ts,o=.dT kvs ts:=fun a o e=>by
  by_cases q:B a
  ·obtain⟨_,kvs,ts,y⟩:=hB a q;have:=g3.s0 a _ ((in' a q).trans y);rw[e]at this;exact .inr ⟨kvs,ts,Option.some.inj this⟩
  ·exact .inl (by rw[kM a q];exact e)
 have r3':oU Hb H3' Hd w z:=by
  cases z with
  |val d=>exact Rep.noP hk r3 hno
  |new d=>
   obtain⟨a,ea,n,n0,w'⟩:=r3;refine⟨a,ea,n,?_,?_⟩
   ·by_cases q:B a
    ·exact in3 a q
    ·rw[kM a q];exact n0
   ·cases d with
    |lst ds'=>obtain⟨ys,y1,y2⟩:=w';exact⟨ys,y1,av.noP hk y2 (by have:Dm.aN (.lst ds')=true:=hno;unfold Dm.aN at this;exact this)⟩
    |dct ks ds'=>have:Dm.aN (.dct ks ds')=true:=hno;unfold Dm.aN at this;cases this
    |dcp ks ds'=>have:Dm.aN (.dcp ks ds')=true:=hno;unfold Dm.aN at this;cases this
    |_=>exact w'.elim
 exact k w H3' Hd (t2.trans (.grow t2.st gr)) ((r3'.toV t2.st).early fun a n=>t2.stp.gone n)
section
variable{X:Cx}{e b:Expr}{es:List Expr}{fs:List FE}{fb:FE}{p pos:Pos}
theorem fQ{k:Nat}{F:Addr}{fd:FuncData}{ps:List Str}{g:List Dat->Option RV}{x:Str}(G:aV X.prog X.w X.K X.mg X.base CX0 k F fd ps (spD g))(hr:aZ k X.A)(hg:Gl X x)(hm:X.mg x=some (.ref F))(hk:Nu X.K (.ref F)=true)(hb:Binds X.K fd ps [])
  (ha:DA X (e::es) fs) (J8:(x == ("__debug__" : Str))=false:=by decide) (he:starEach (e::es) X.env=(false,eval e X.env)::starEach es X.env:=by rfl) (CP:(backTo pos (starEach es X.env)).any (·.1)=false:=by rfl) :
  DE X (.Call (.Name x p) (e::es) [] pos) (Dm.jh g fs):=PE.weak (jN G hr hg hm hk hb .nil (qo (X:=X)) ha J8 he CP) fun _ _ _=>zY
end
theorem CL{σ:L2.St}{H:Hp}{D:Ends}{j own:Nat}{fi:Dm.FI}{bd:Dm.FB}{g:TG}{is:List Nat}{J5:Dm.FN}{gs:FS}{T:TS}(hT:∀D σ H,tDN j J5 { D with nx:=tDS gs D } σ H->T D σ H)(hb:BD is g bd)(hl:∀i∈is,σ.length<=i)(hj:j<σ.length)(h:tDS (Dm.aA (Dm.e8 j fi own bd J5) gs) D σ H) :
  tE (qe (tLC (tDI fi) own g yX (yq wZ)) (eX j)) T D σ H:=by
 obtain⟨H0,ρ,o,st,e,k⟩:=h;obtain⟨ρ9,e9,e⟩:=vN (fun z q=>by obtain⟨_,_,_,_,_,_,_,_,_,_,z⟩:=f_ q;exact⟨_,z⟩) e;obtain⟨ds,ρ1,ρ2,ρ3,r3,hj0,e1,hsz,e2,e3,z9⟩:=f_ e9;cases z9;refine⟨H0,ρ,ds,ρ1,st,e1,fun J H00 Hb t1 jw L hL=>qJ (Q:=fun x H1=>eX j x σ H1 (T D)) hb hl t1.st jw hsz e2 L hL fun H0' H' ps st' sp' ho' hDl n0 nd hps hro=>?_⟩;have nL:¬aj σ ρ1 L:=t1.st.bB hL;have om:∀a,aj (σ.set j (some (.ref L))) ((ρ2.take ρ1.length).set j .un) a->aj σ (ρ2.take ρ1.length) a:=fun a ⟨i,d,h1,h2⟩=>by
  rcases aG h1 with⟨_,z⟩ | ⟨hij,h1⟩
  ·cases z
  ·rw[gV (Ne.symm hij)]at h2;exact⟨i,d,h1,h2⟩
 have st2:az H0' H' (σ.set j (some (.ref L))) ((ρ2.take ρ1.length).set j .un):={
  same:=st'.same
  len:=by rw[MX,MX];exact st'.len
  sh:=fun i d h=>by
   rcases aG h with⟨_,z⟩ | ⟨hij,h⟩
   ·cases z
   ·obtain⟨v,q,r⟩:=st'.sh i d h;exact⟨v,by rw[gV (Ne.symm hij)];exact q,r⟩
  ow:=fun i d h=>by
   rcases aG h with⟨_,z⟩ | ⟨hij,h⟩
   ·cases z
   ·obtain⟨v,q,r⟩:=st'.ow i d h;exact⟨v,by rw[gV (Ne.symm hij)];exact q,r⟩
  dis:=fun i i' d d' a h1 h2 h3 h4=>by
   rcases aG h1 with⟨_,z⟩ | ⟨q1,h1⟩
   ·cases z
   rcases aG h2 with⟨_,z⟩ | ⟨q2,h2⟩
   ·cases z
   rw[gV (Ne.symm q1)]at h3;rw[gV (Ne.symm q2)]at h4;exact st'.dis i i' d d' a h1 h2 h3 h4 }
 have sp:Stp (aj σ ρ) H0 H H0' H':=t1.stp.trans sp' fun a z=>.inl (t1.own a z);have n:NS j σ ρ H0 H (σ.set j (some (.ref L))) ((ρ2.take ρ1.length).set j .un) H0' H' (Mk ds.length []):=
  ⟨st2,sp,fun a z=>.inl (t1.own a (ho' a (om a z))),gV hj0,L,ps,MN hj,t1.stp.gone hL,n0,fun z=>nL (ho' L (om L z)),hDl,nd,fun p hp=>⟨t1.stp.gone (hps p hp).1,(hps p hp).2,fun z=>t1.st.bB (hps p hp).1 (ho' p (om p z))⟩,hro⟩
 refine hT _ _ _ ⟨σ,ρ,H0,H,H0',_,_,ρ3,r3,n,e3,fun σ4 H4 Hd n4 _=>?_⟩;obtain⟨H5,t5⟩:=n4.done;exact⟨H5,_,o,t5.st,e,k.pre t5⟩
section
variable{X:Cx}{mX:List Stmt}{pos:Pos}
section
variable{is:List Nat}{scope:Scope}{fi:Dm.FI}{bd:Dm.FB}
theorem LQ{J:Nat}(j:Nat)(nm own:List Str){tg iter Hv:Expr}{EG:List Expr}{t:FT}{f:FE}{y:Str}{py ED:Pos}(hN:X.N.Nodup)(hg:TGc X nm scope own tg is bd)(hi:DI X tg iter fi)(ht:∀cl C s H fp,DTs (aS X nm scope own cl C s H fp) EG t)(he:∀cl C s H fp,DE (aS X nm scope own cl C s H fp) Hv f)
  (hc:X.calm=true:=by rfl) (hk:scope.kind=.function:=by rfl) (hS:iK X.env.scope X.N nm scope=true:=by rfl) (hl:(is.all fun i=>decide (X.N.length<=i))=true:=by rfl) (hj:X.N[j]?=some y:=by rfl) (hy:Loc X.env.scope y:=by trivial)
  (hsw:swapsWith (.ListComp Hv [⟨tg,iter,EG,0⟩] scope pos) (some (.Name y py)) ED.line X.env=pure true:=by rfl) (hs:∀x,foldedSetIterable iter X.env x=pure x:=by intro _;rfl)
  (hf:X.fn y=true\/X.env.scope.names.lookup y=some .local:=by trivial):DN X J (.Assign [.Name y py] (.ListComp Hv [⟨tg,iter,EG,0⟩] scope pos) ED) (Dm.nA J j (Dm.bD fi own.length bd t f)):=by
 obtain⟨g,h1,h2⟩:=hg.ex;intro mW s σ H D I h;exact cg hN hj hy hc (bW.of hS hk) hi h1 ht he hsw hs hf mW s σ H D I (oX h2 (fun i hi=>by rw[I.len];exact kE hl i hi) (LL h))
theorem CM(j:Nat)(nm own:List Str){y:Str}{py ED o8:Pos}{tg iter:Expr}{l1 l2:Dm.FN}{gs:FS}{st1 st2:Stmt}(hN:X.N.Nodup)(hg:TGc X nm scope own tg is bd)(hi:DI X tg iter fi)(hl1:DN X j st1 l1)(hl2:DN X j st2 l2)(hre:DSs X mX gs)
  (hc:X.calm=true:=by rfl) (hk:scope.kind=.function:=by rfl) (hS:iK X.env.scope X.N nm scope=true:=by rfl) (hl:(is.all fun i=>decide (X.N.length<=i))=true:=by rfl) (hj:X.N[j]?=some y:=by rfl) (hy:Loc X.env.scope y:=by trivial)
  (hsw:swapsWith (.ListComp (.List [] o8) [⟨tg,iter,[],0⟩] scope pos) (some (.Name y py)) ED.line X.env=pure true:=by rfl) (hs:∀y,foldedSetIterable iter X.env y=pure y:=by intro _;rfl)
  (hf:X.fn y=true\/X.env.scope.names.lookup y=some .local:=by trivial) :
  DSs X (.Assign [.Name y py] (.ListComp (.List [] o8) [⟨tg,iter,[],0⟩] scope pos) ED::st1::st2::mX) (Dm.aA (Dm.e8 j fi own.length bd (Dm.qH l1 l2)) gs):=by
 obtain⟨g,h1,h2⟩:=hg.ex;have h:=dD (cg hN hj hy hc (bW.of hS hk) hi h1 (fun cl C s H fp=>oY) (fun cl C s H fp=>tK (pos:=o8) oJ) hsw hs hf) (dD hl1 (dD hl2 hre));intro mW s σ H D I q;exact h mW s σ H D I (CL (fun D σ H z=>G5 z) h2 (fun i hi=>by rw[I.len];exact kE hl i hi) (by rw[I.len];exact(Mq.mp hj).1) q)
end
end
section
variable{X:Cx}{a b:Expr}{fa fb:FE}{pos:Pos}{k:Nat}
theorem uo(hr:aZ k X.A)(ha:DE X a fa)(hb:DE X b fb)(hm:behindInMarks .In b=false:=by rfl):DT X (.Compare a [.In] [b] pos) (Dm.tV (Dm.e2 Dm.gp fa fb)):=PT.weak (tw (yG (u1 hr) ha hb) hm) fun σ H Q h=>oV CC (kq h)
end
end Br
namespace Dm
noncomputable def dP:List Dat->Option RV
 | [.tup xs]=>(match e7 xs with
  |some ns=>if ns.length<=63 then some (.new (.lst ((dM (fun a b=>decide (a<b)) ns).map .int))) else none
  |none=>none)
 |_=>none
end Dm
namespace Br
open PySem PySem.Spec PyProof.Rows L2
def qT:List V->Hp->VK->Prop:=fun xs H Q=>∃(p:Addr) (ns:List Int),xs=[.ref p]/\H p=some (.tup (ns.map V.int))/\ns.length<=63 /\
 ∀(ms:List Int) (l:Addr),ms.Perm ns->ms.Pairwise (·<=·)->H l=none->Q (.ref l) (upd H l (.lst (ms.map V.int)))
theorem d_:∀{ns:List Int} {its:List Value},Vals (ns.map V.int) its->IntsAre its ns
 |[],_,r=>by rw[Ob]at r;cases r;exact .nil
 |n::ns,_,r=>by
  rw[gc]at r;cases r with
  |cons h t=>obtain⟨k,rfl⟩:=h;exact .cons n k (d_ t)
theorem pC{X:Cx}:cz X (.builtin "sorted") qT:=by
 intro mW s σ H xs us Q I r h;obtain⟨p,ns,rfl,hq,hl,k⟩:=h;obtain⟨u,rfl,rx⟩:=vals1 r;cases rx;obtain⟨z,its,rv,o,h1,h2,n,h3⟩:=(show aO X.prog X.w H s.heap p (.tup (ns.map V.int)) from I.hok p _ hq)
 have hI:=d_ rv;have uH:its.length=ns.length:=by have:=rv.length;rw[Mj]at this;exact this.symm
 refine Calls.call_function_entry kind_sorted plain_sorted entry_sorted (args_sorted1 _) ?_;unfold Builtin.«sorted»;refine wpAny_bind (m:=checkCount "sorted" 1 1 _) (wpAny_pure ?_);refine wpAny_bind (wpAny_collect_seq (hsz:=by rw[Ml,uH];exact MH hl (by decide)) p (.inr rfl) h1 h2 h3 fun h' hk=>?_);have hn:its.toArray.toList.length<=63:=by rw[OH,uH];exact hl
 refine wpAny_bind (wpAny_newList ?_ (MH hn (by decide)));have hL0:(h'.push (seqObj "list" its.toArray 0)).get? h'.objs.size=some (seqObj "list" its.toArray 0):=MM _ rfl;have I1:=I.kept (t':=s.toks) hk;refine wpAny_bind (wpAny_holding (wpAny_call_entry (s:={ s with heap:=h'.push (seqObj "list" its.toArray 0) }) slot_list_sort ⟨_,hL0,rfl⟩ entry_list_sort (list_sort_tree hL0 hI (by rw[uH];lia) fun out ms a1 a2 a3=>⟨_,rfl,?_⟩) (args_list_sort _)));obtain⟨c,hc'⟩:=sortedHeap_at (out:=out) hL0;have hz2:(ms.map V.int).length<=sizeLine:=by rw[Mj,a2.length_eq];exact MH hl (by decide)
 refine wpAny_pure ⟨_,rfl,.ref h'.objs.size,_,I1.laid (t':=s.toks) (fun b o e=>?_) (Mn _) (show aO X.prog X.w _ _ _ (.lst (ms.map V.int)) from ⟨hz2,out.toList,c,cL a1,by simpa using hc'⟩),rfl,k ms _ a2 a3 (I1.hok.fresh (Mn _))⟩;have lt:=Mu e;rw[sortedHeap_old (ML lt) (by rw[size_push'];exact NT lt)];exact Mm _ e
theorem uq:CallD qT Dm.dP:=by
 intro H0 H vs ds z Q s rs e k;unfold Dm.dP at e;split at e
 ·rename_i xs;split at e
  ·rename_i ns en;split at e
   case isFalse=>cases e
   rename_i hl;cases e;cases rs with
   |cons r rr=>
    cases rr;obtain⟨a,us,rfl,ha,ra⟩:=dI s r;have eu:=kH ra en;subst eu;refine⟨a,ns,rfl,ha,hl,fun ms l pm so hp=>?_⟩;have em:ms=Dm.dM (fun a b=>decide (a<b)) ns:=Dm.fL (lt:=fun a b=>decide (a<b)) (fun a b h1 h2=>by simp at h1 h2;lia) (pm.trans (Dm.gC _ ns).symm) (so.imp fun {a b} h=>by simp;lia)
     (Dm.d8 (fun a b c h1 h2=>by simp at *;lia) (fun a b h=>by simp at *;lia) ns)
    exact k _ _ _ (aI.jJ s hp) ⟨l,rfl,hp,s.free hp,_,au,by rw[<- em];exact jc ms⟩
  ·cases e
 ·cases e
theorem xN{X:Cx}{e:Expr}{fs:List FE}{p pos:Pos}(hg:Gl X "sorted")(hm:X.mg "sorted" = none)(ha:DA X [e] fs)(he:starEach [e] X.env=[(false,eval e X.env)]:=by rfl)(CP:(backTo pos (starEach [] X.env)).any (·.1)=false:=by rfl):DE X (.Call (.Name "sorted" p) [e] [] pos) (Dm.eB Dm.dP fs):=xD pC uq (by rfl) hg hm ha (he:=he) (CP:=CP)
end Br
namespace Dm
noncomputable def fR:List Dat->Option RV
 | [.lst xs]=>(match e7 xs with
  |some ns=>if ns.length<=63 then some (.new (.lst ((dM (fun a b=>decide (a<b)) ns).map .int))) else none
  |none=>none)
 |_=>none
end Dm
namespace Br
open PySem PySem.Spec PyProof.Rows L2
def zZ(K:Dp):List V->Hp->VK->Prop:=fun xs H Q=>∃(p:Addr) (ns:List Int),xs=[.ref p]/\SqL K H p (ns.map V.int)/\ns.length<=63 /\
 ∀(ms:List Int) (l:Addr),ms.Perm ns->ms.Pairwise (·<=·)->H l=none->Q (.ref l) (upd H l (.lst (ms.map V.int)))
theorem ur{X:Cx}:cz X (.builtin "sorted") (zZ X.K):=by
 intro mW s σ H xs us Q I r h;obtain⟨p,ns,rfl,hq,hl,k⟩:=h;obtain⟨u,rfl,rx⟩:=vals1 r;cases rx;obtain⟨its,rv,pl,hz⟩:=I.list hq;obtain⟨o,h1,h2,n,h3⟩:=pl.isList;have hI:=d_ rv;have uH:its.length=ns.length:=by have:=rv.length;rw[Mj]at this;exact this.symm
 refine Calls.call_function_entry kind_sorted plain_sorted entry_sorted (args_sorted1 _) ?_;unfold Builtin.«sorted»;refine wpAny_bind (m:=checkCount "sorted" 1 1 _) (wpAny_pure ?_);refine wpAny_bind (wpAny_collect_seq (hsz:=by rw[Ml,uH];exact MH hl (by decide)) p (.inl rfl) h1 h2 h3 fun h' hk=>?_);have hn:its.toArray.toList.length<=63:=by rw[OH,uH];exact hl
 refine wpAny_bind (wpAny_newList ?_ (MH hn (by decide)));have hL0:(h'.push (seqObj "list" its.toArray 0)).get? h'.objs.size=some (seqObj "list" its.toArray 0):=MM _ rfl;have I1:=I.kept (t':=s.toks) hk;refine wpAny_bind (wpAny_holding (wpAny_call_entry (s:={ s with heap:=h'.push (seqObj "list" its.toArray 0) }) slot_list_sort ⟨_,hL0,rfl⟩ entry_list_sort (list_sort_tree hL0 hI (by rw[uH];lia) fun out ms a1 a2 a3=>⟨_,rfl,?_⟩) (args_list_sort _)));obtain⟨c,hc'⟩:=sortedHeap_at (out:=out) hL0;have hz2:(ms.map V.int).length<=sizeLine:=by rw[Mj,a2.length_eq];exact MH hl (by decide)
 refine wpAny_pure ⟨_,rfl,.ref h'.objs.size,_,I1.laid (t':=s.toks) (fun b o e=>?_) (Mn _) (show aO X.prog X.w _ _ _ (.lst (ms.map V.int)) from ⟨hz2,out.toList,c,cL a1,by simpa using hc'⟩),rfl,k ms _ a2 a3 (I1.hok.fresh (Mn _))⟩;have lt:=Mu e;rw[sortedHeap_old (ML lt) (by rw[size_push'];exact NT lt)];exact Mm _ e
theorem z5{K:Dp}:CallD (zZ K) Dm.fR:=by
 intro H0 H vs ds z Q s rs e k;unfold Dm.fR at e;split at e
 ·rename_i xs;split at e
  ·rename_i ns en;split at e
   case isFalse=>cases e
   rename_i hl;cases e;cases rs with
   |cons r rr=>
    cases rr;obtain⟨a,us,rfl,ha,ra⟩:=br s r;have eu:=kH ra en;subst eu;refine⟨a,ns,rfl,.inl ha,hl,fun ms l pm so hp=>?_⟩;have em:ms=Dm.dM (fun a b=>decide (a<b)) ns:=Dm.fL (lt:=fun a b=>decide (a<b)) (fun a b h1 h2=>by simp at h1 h2;lia) (pm.trans (Dm.gC _ ns).symm) (so.imp fun {a b} h=>by simp;lia)
     (Dm.d8 (fun a b c h1 h2=>by simp at *;lia) (fun a b h=>by simp at *;lia) ns)
    exact k _ _ _ (aI.jJ s hp) ⟨l,rfl,hp,s.free hp,_,au,by rw[<- em];exact jc ms⟩
  ·cases e
 ·cases e
theorem vR{X:Cx}{e:Expr}{fs:List FE}{p pos:Pos}(hg:Gl X "sorted")(hm:X.mg "sorted" = none)(ha:DA X [e] fs)(he:starEach [e] X.env=[(false,eval e X.env)]:=by rfl)(CP:(backTo pos (starEach [] X.env)).any (·.1)=false:=by rfl):DE X (.Call (.Name "sorted" p) [e] [] pos) (Dm.eB Dm.fR fs):=xD ur z5 (by rfl) hg hm ha (he:=he) (CP:=CP)
end Br
namespace Dm
noncomputable def CN{α:Type}(n:Nat)(lt:Nat->Nat->Bool):PySem.W.KasT α->Option α
 |.ret a=>some a
 |.ask i j k=>if i<n/\j<n then CN n lt (k (lt i j)) else none
noncomputable def kR:List Dat->Option (List Nat)
 |[]=>some []
 | .lst xs::r=>(match kR r with
  |some ls=>some (xs.length::ls)
  |none=>none)
 |_=>none
noncomputable def nQ(ls:List Nat):Option (List Nat):=if ls.length<2 then some (Mv ls.length) else (CN ls.length (fun i j=>decide (ls.getD i 0<ls.getD j 0)) (PySem.W.kas_sort ls.length)).map (·.toList)
noncomputable def cP:List Dat->Option RV
 | [.lst xs]=>(match kR xs with
  | some ls=>if ls.length<64 then (match nQ ls with
   |some p=>if p.length=ls.length/\p.all (fun i=>decide (i<ls.length)) then some (.new (.lst (p.map fun i=>xs.getD i .non))) else none
   |none=>none) else none
  |none=>none)
 |_=>none
end Dm
namespace Ts
open PySem PyProof.Rows
variable{A:Around}{E:Value->Shared->Prop}{s:Shared}{prog:Program}{w:World}
theorem vS{α:Type}{n:Nat}{lt:Nat->Nat->Bool}{cmp:Nat->Nat->(Bool->Shared->Prop)->Shared->Prop}{Q:α->Shared->Prop}(hc:∀i j C,i<n->j<n->C (lt i j) s->cmp i j C s):∀{t:PySem.W.KasT α} {p:α},Dm.CN n lt t=some p->Q p s->t.kasWp cmp Q s
 |.ret a,p,h,q=>by cases h;exact q
 |.ask i j k,p,h,q=>by
  unfold Dm.CN at h;split at h
  ·rename_i hb;exact hc i j _ hb.1 hb.2 (vS hc h q)
  ·cases h
def KTr(prog:Program)(w:World)(A:Around)(E:Value->Shared->Prop)(a kS:Addr)(vs keys:List Value)(R:Heap->Prop)(s':Shared):Prop:=
 ∃(kd:SortKind) (p:Array Nat),p.size=vs.length/\(2<=vs.length->∀Q:SortKind->Shared->Prop,Q kd s'->wpAny (model prog w) A (keyKind' keys.toArray) Q E s') /\
  (2<=vs.length->∀G:Array Nat->Shared->Prop,G p s'->(PySem.W.kas_sort vs.length).kasWp (PySem.W.kas_cmp prog w A kd (keys.toArray.zip vs.toArray)) G s')/\(vs.length<2->p=Pk (Mv vs.length)) /\
  ∀h'':Heap,(∀b o,b≠a->b≠kS->s'.heap.get? b=some o->h''.get? b=some o)->s'.heap.objs.size<=h''.objs.size->(∃c,h''.get? a=some (seqObj "list" ((p.map (Nl (keys.toArray.zip vs.toArray))).map (·.2)) c))->R h''
theorem z6{a:Addr}{f:Value}{vs:List Value}{n:Nat}{R:PySem.Fin->Shared->Prop}(J:Addr->Shared->List Value->Prop)
  (ho:s.heap.get? a=some (seqObj "list" vs.toArray n)) (hn:vs.length<64)
  (start:∀h',(∀b o,b≠a->s.heap.get? b=some o->h'.get? b=some o)->(∃o,h'.get? a=some o)->(∃o,h'.get? (s.heap.objs.size+1)=some o)->J (s.heap.objs.size+1) { s with heap:=h' } [])
  (Hr:∀s' h'' keys,J (s.heap.objs.size+1) s' keys->(∀b o,b≠a->b≠s.heap.objs.size+1->s'.heap.get? b=some o->h''.get? b=some o)->(∃o,h''.get? a=some o)->(∃o,h''.get? (s.heap.objs.size+1)=some o)->J (s.heap.objs.size+1) { s' with heap:=h'' } keys)
  (turn:∀ i v keys s',vs[i]?=some v→keys.length=i→J (s.heap.objs.size+1) s' keys →
   wpAny (model prog w) A (call f [v]) (fun k s''=>J (s.heap.objs.size+1) s'' (keys++[k])/\∀b o,(b=a\/b=s.heap.objs.size+1)->s'.heap.get? b=some o->s''.heap.get? b=some o) (fun _ _=>False) s')
  (EC:∀s' keys,J (s.heap.objs.size+1) s' keys->keys.length=vs.length->KTr prog w A E a (s.heap.objs.size+1) vs keys (fun h''=>R (.done (.ret .none)) { s' with heap:=h'' }) s') :
  wpAny (model prog w) A (ksk_tree a f false) R E s:=by
 have ha:a<s.heap.objs.size:=Mu ho;obtain⟨e1,ho1⟩:∃e1,(s.heap.update a (Na fun _=>(#[]:Array Value))).get? a=some (seqObj "list" #[] e1):=⟨_,get?_update_seq ho fun _=>#[]⟩
 have hkS:((s.heap.update a (Na fun _=>(#[]:Array Value))).push (seqObj "tuple" vs.toArray 0)).objs.size=s.heap.objs.size+1:=by rw[size_push',Oq]
 unfold ksk_tree;refine wpAny_bind (listItems_at ho rfl ?_);refine wpAny_bind (listUpdate_at ho rfl ?_ (by rw[Ml,sizeLine_eq];lia) (M5 _));refine wpAny_bind (seqEpoch_at ho1 rfl ?_);refine wpAny_bind (wpAny_newTuple ?_ (by show vs.length<=_;rw[sizeLine_eq];lia));refine wpAny_bind (wpAny_newList ?_ (M5 _));refine wpAny_holding ?_;dsimp only;rw[hkS];have hka:s.heap.objs.size+1≠a:=OB (NT ha);have hA3:(((s.heap.update a (Na fun _=>(#[]:Array Value))).push (seqObj "tuple" vs.toArray 0)).push (seqObj "list" #[] 0)).get? a=some (seqObj "list" #[] e1):=Mm _ (Mm _ ho1);have hK3:(((s.heap.update a (Na fun _=>(#[]:Array Value))).push (seqObj "tuple" vs.toArray 0)).push (seqObj "list" #[] 0)).get? (s.heap.objs.size+1)=some (seqObj "list" #[] 0):=by rw[<- hkS];exact MM _ rfl
 have hz3:s.heap.objs.size+1<(((s.heap.update a (Na fun _=>(#[]:Array Value))).push (seqObj "tuple" vs.toArray 0)).push (seqObj "list" #[] 0)).objs.size:=by rw[size_push',hkS];exact OX _
 have hJ:=start _ (fun b o hb e=>Mm _ (Mm (h:=s.heap.update a (Na fun _=>(#[]:Array Value))) _ (by rw[Np _ _ _ _ hb];exact e))) ⟨_,hA3⟩ ⟨_,hK3⟩
 generalize (((s.heap.update a (Na fun _=>(#[]:Array Value))).push (seqObj "tuple" vs.toArray 0)).push (seqObj "list" #[] 0))=h3 at hA3 hK3 hJ
 generalize hkk:s.heap.objs.size+1=kS at *
 unfold ksk_rest;refine wpAny_bind (wpAny_rule ?_)
 first
  |rw[List.forIn_toArray]
  |(rw[<- OQ];simp only[OH])
  |rw[<- OQ]
 refine wpAny_bind (ksk_fold (fun i s'=>∃ keys e,J kS s' keys∧keys.length=i∧s'.heap.get? kS=some (seqObj "list" keys.toArray e)∧s'.heap.get? a=some (seqObj "list" #[] e1)) vs 0 _
  ⟨[],0,hJ,rfl,hK3,hA3⟩ ?step ?done)
 case step=>
  rintro j x s' hx ⟨keys,e,hj,hl,hk,hA⟩;simp only[Ph]at hl ⊢;have hjl:j<vs.length:=(Mq.mp hx).1;refine wpAny_bind (wpAny_attempt (wpAny_mono (turn j x keys s' hx hl hj) (fun v s'' he=>?_) fun _ _ hF=>hF.elim));obtain⟨hj',kp⟩:=he;have hk':=kp kS _ (.inr rfl) hk;have hA':=kp a _ (.inl rfl) hA
  try dsimp only
  obtain⟨c2,hc2⟩:∃c2,(s''.heap.update kS (Na (·.push v))).get? kS=some (seqObj "list" (keys.toArray.push v) c2):=⟨_,get?_update_seq hk' (·.push v)⟩
  refine wpAny_bind (listUpdate_at hk' rfl ?_ (by rw[Ml,sizeLine_eq];lia) (MH (OW (Array.size_push ..)) (by rw[Ml,sizeLine_eq];lia)));refine wpAny_pure ⟨rfl,keys++[v],c2,Hr _ _ _ hj' (fun b o _ hb e=>by rw[Np _ _ _ _ hb];exact e) ⟨_,(by rw[Np _ _ _ _ hka.symm];exact hA')⟩ ⟨_,hc2⟩,by rw[MA,hl];rfl,?_,?_⟩
  ·rw[hc2];simp
  ·show (s''.heap.update kS _).get? a=_;rw[Np _ _ _ _ hka.symm];exact hA'
 case done=>
  rintro s' ⟨keys,e,hj,hl,hk,hA⟩;rw[Ph]at hl
  try dsimp only
  refine wpAny_bind (listItems_at hk rfl ?_);obtain⟨kd,p,hp,hkd,hL,h2p,hR⟩:=EC s' keys hj hl;have hzs:(keys.toArray.zip vs.toArray).size=vs.length:=by rw[Array.size_zip,Ml,Ml,hl,Nat.min_self]
  have hout:∀xs:Array Keyed,xs=p.map (Nl (keys.toArray.zip vs.toArray))->(xs.map (·.2)).size=vs.length:=fun xs e=>by rw[e,Array.size_map,Array.size_map,hp]
  have tail:∀st':SortSt,failedOf st'=none->arrOf st'=p.map (Nl (keys.toArray.zip vs.toArray))->wpAny (model prog w) A (ksk_tail a false e1 (.ref kS) st') R E s':=fun st' hf ha'=>by
   unfold ksk_tail
   try dsimp only
   have hA1:(s'.heap.update kS (Na fun _=>(#[]:Array Value))).get? a=some (seqObj "list" #[] e1):=by rw[Np _ _ _ _ hka.symm];exact hA
   refine wpAny_bind (listUpdate_at hk rfl ?_ (by rw[Ml,sizeLine_eq];lia) (M5 _));refine wpAny_bind (wpAny_letGo ?_);refine wpAny_bind (seqEpoch_at hA1 rfl ?_);have hsz:((arrOf st').map (·.2)).size=vs.length:=hout _ ha';refine wpAny_bind (listUpdate_at hA1 rfl ?_ (M5 _) (MH (OW (by simp only[M4,if_false];exact hsz)) (by rw[sizeLine_eq];lia)));rw[hf];simp only[bne_self_eq_false,M4,if_false];refine wpAny_pure (hR _ (fun b o b1 b2 eb=>?_) ?_ ?_)
   ·rw[Np _ _ _ _ b1,Np _ _ _ _ b2];exact eb
   ·rw[Oq,Oq];exact Mn _
   ·rw[<- ha'];exact⟨_,get?_update_seq hA1 fun _=>(arrOf st').map (·.2)⟩
  unfold ksk_end
  try dsimp only
  simp only[M4,if_false];have rg:=PySem.W.kas_range (keys.toArray.zip vs.toArray);rw[hzs]at rg;by_cases h2:vs.toArray.size<2
  ·rw[if_pos h2,if_pos h2];refine wpAny_bind (wpAny_pure ?_);rw[StateT.run_pure];refine wpAny_bind (wpAny_pure ?_)
   try dsimp only
   refine tail (Pc general' (keys.toArray.zip vs.toArray) #[] 7 none) rfl ?_;rw[Ml]at h2;rw[h2p h2,rg]
  ·rw[if_neg h2,if_neg h2];rw[Ml]at h2;refine wpAny_bind (hkd (by lia) _ ?_);have est:Pc kd (keys.toArray.zip vs.toArray) #[] 7 none=PySem.W.kas_st kd (keys.toArray.zip vs.toArray) (Pk (Mv vs.length)):=by
    show Pc kd (keys.toArray.zip vs.toArray) #[] 7 none=Pc kd ((Pk (Mv vs.length)).map (Nl (keys.toArray.zip vs.toArray))) #[] 7 none;rw[rg]
   have run:=PySem.W.kas_runs (E:=E) (Q:=fun _ st' s''=>s''=s'/\failedOf st'=none/\arrOf st'=p.map (Nl (keys.toArray.zip vs.toArray))) (G:=fun p' s''=>p'=p/\s''=s') (by lia:2<=vs.length) hn (fun p' st' s'' a1 a2 a3 a4=>⟨a4.2,a3,by rw[a2,a4.1]⟩) (hL (by lia) _ ⟨rfl,rfl⟩);rw[<- est]at run;refine wpAny_bind (wpAny_mono run ?_ fun _ _ e=>e);rintro⟨⟨⟩,st'⟩ s'' ⟨rfl,hf,ha'⟩
   try dsimp only
   exact tail st' hf ha'
theorem uu{l:Addr}{q:Value}(hq:∀a,Builtin.«list.sort» ⟨[.ref a],[(N9 "key",q)]⟩=ksk_tree a q false){vs:List Value}{Q:Value->Shared->Prop}(J:Addr->Addr->Shared->List Value->Prop)(hl:s.heap.IsList l vs.toArray)(hn:vs.length<64)
  (start:∀h',(∀b o,s.heap.get? b=some o->h'.get? b=some o)->(∃o,h'.get? (s.heap.objs.size+1)=some o)->(∃o,h'.get? (s.heap.objs.size+3)=some o)->J (s.heap.objs.size+1) (s.heap.objs.size+3) { s with heap:=h' } [])
  (Hr:∀a kS s' h'' keys,a=s.heap.objs.size+1->kS=s.heap.objs.size+3->J a kS s' keys->(∀b o,b≠a->b≠kS->s'.heap.get? b=some o->h''.get? b=some o)->(∃o,h''.get? a=some o)->(∃o,h''.get? kS=some o)->J a kS { s' with heap:=h'' } keys)
  (turn:∀ a kS i v keys s',a=s.heap.objs.size+1→kS=s.heap.objs.size+3→vs[i]?=some v→keys.length=i→J a kS s' keys →
   wpAny (model prog w) A.in1.in1 (call (q) [v]) (fun k s''=>J a kS s'' (keys++[k])/\∀b o,(b=a\/b=kS)->s'.heap.get? b=some o->s''.heap.get? b=some o) (fun _ _=>False) s')
  (EC:∀a kS s' keys (E:Value->Shared->Prop),a=s.heap.objs.size+1->kS=s.heap.objs.size+3->J a kS s' keys->keys.length=vs.length->KTr prog w A.in1.in1 E a kS vs keys (fun h''=>Q (.ref a) { s' with heap:=h'' }) s') :
  wpAny (model prog w) A (call (.builtin "sorted") [.ref l] [(N9 "key",q)]) Q E s:=by
 refine call_function_entry_kw kind_sorted plain_sorted entry_sorted (ksk_s1 _ _) ?_;unfold Builtin.«sorted»;refine wpAny_bind (m:=checkCount "sorted" 1 1 _) (wpAny_pure ?_);refine wpAny_bind (collect_list hl ?_ (by rw[sizeLine_eq];lia));refine wpAny_bind (wpAny_newList ?_ (by rw[sizeLine_eq];lia));have hsz:((s.heap.push (seqObj "list" #[] 0)).update s.heap.objs.size (Na (·++vs.toArray))).objs.size=s.heap.objs.size+1:=by rw[Oq,size_push']
 have hoL:(((s.heap.push (seqObj "list" #[] 0)).update s.heap.objs.size (Na (·++vs.toArray))).push (seqObj "list" vs.toArray 0)).get? (s.heap.objs.size+1)=some (seqObj "list" vs.toArray 0):=by rw[<- hsz];exact MM _ rfl
 have hz2:(((s.heap.push (seqObj "list" #[] 0)).update s.heap.objs.size (Na (·++vs.toArray))).push (seqObj "list" vs.toArray 0)).objs.size=s.heap.objs.size+2:=by rw[size_push',hsz]
 have keep:∀b o,s.heap.get? b=some o->(((s.heap.push (seqObj "list" #[] 0)).update s.heap.objs.size (Na (·++vs.toArray))).push (seqObj "list" vs.toArray 0)).get? b=some o:=fun b o q=>by have EM:b<s.heap.objs.size:=Mu q;rw[Heap.get?_push_ne _ _ _ (by rw[hsz];exact ML (NT EM)),Np _ _ _ _ (ML EM),Heap.get?_push_ne _ _ _ (ML EM)];exact q
 show wpAny _ _ _ _ _ { s with heap:=((s.heap.push (seqObj "list" #[] 0)).update s.heap.objs.size (Na (·++vs.toArray))).push (seqObj "list" vs.toArray 0) };rw[hsz];refine wpAny_bind (wpAny_holding (wpAny_call_entry_kw slot_list_sort ⟨_,hoL,rfl⟩ entry_list_sort ?body (ksk_l1 _ _)))
 case body=>
  show wpAny (model prog w) A.in1.in1 (Builtin.«list.sort» ⟨[.ref (s.heap.objs.size+1)],[(N9 "key",q)]⟩) _ _ _;rw[hq];refine z6 (s:={ s with heap:=((s.heap.push (seqObj "list" #[] 0)).update s.heap.objs.size (Na (·++vs.toArray))).push (seqObj "list" vs.toArray 0) }) (J (s.heap.objs.size+1)) hoL hn
   (fun h' k g1 g2=>?_) (fun s' h'' keys hj k g1 g2=>?_) (fun i v keys s' hv hi hj=>?_) fun s' keys hj hk=>?_
  ·dsimp only at g2 ⊢;rw[hz2]at g2 ⊢;exact start h' (fun b o e=>k b o (ML (NT (Mu e))) (keep b o e)) g1 g2
  ·dsimp only at hj k g2 ⊢;rw[hz2]at hj k g2 ⊢;exact Hr _ _ s' h'' keys rfl rfl hj k g1 g2
  ·dsimp only at hj ⊢;rw[hz2]at hj ⊢;exact turn _ _ i v keys s' rfl rfl hv hi hj
  ·dsimp only at hj ⊢;rw[hz2]at hj ⊢;obtain⟨kd,p,z0,z1,z2,z3,z4⟩:=EC _ _ s' keys E rfl rfl hj hk;refine⟨kd,p,z0,z1,z2,z3,fun h'' y3 y4 y5=>⟨_,rfl,?_⟩⟩;exact wpAny_pure ⟨_,rfl,z4 h'' y3 y4 y5⟩
end Ts
namespace Br
open PySem PySem.Spec PyProof.Rows L2
theorem pD{ds:List Dat}{z:RV}(e:Dm.cP ds=some z):∃xs ls p,ds=[.lst xs]/\Dm.kR xs=some ls/\ls.length<64/\Dm.nQ ls=some p/\p.length=ls.length/\(∀i∈p,i<ls.length)/\z=.new (.lst (p.map fun i=>xs.getD i .non)):=by
 unfold Dm.cP at e;split at e
 ·split at e
  ·split at e
   ·split at e
    ·split at e
     ·rename_i h1 _ p h2 h3;cases e;exact⟨_,_,p,rfl,by assumption,h1,h2,h3.1,fun i hi=>of_decide_eq_true (M3.mp h3.2 i hi),rfl⟩
     ·cases e
    ·cases e
   ·cases e
  ·cases e
 ·cases e
theorem qU:∀{xs:List Dat} {ls:List Nat},Dm.kR xs=some ls->ls.length=xs.length/\∀(i:Nat) (d:Dat),xs[i]?=some d->∃ys:List Dat,d=Dat.lst ys/\ls[i]?=some ys.length
 |[],ls,h=>by cases h;exact⟨rfl,fun i d e=>by simp at e⟩
 |d::r,ls,h=>by
  unfold Dm.kR at h;split at h
  ·rename_i z;cases z
  ·rename_i ys _ he;cases he;split at h
   ·rename_i ls' h';cases h;obtain⟨k1,k2⟩:=qU h';refine⟨by simp[k1],fun i d e=>?_⟩;cases i with
    |zero=>cases e;exact⟨_,rfl,rfl⟩
    |succ i=>exact k2 i d e
   ·cases h
  ·cases h
theorem qV:∀{vs:List Value} {ns:List Int} {i:Nat} {n:Int},IntsAre vs ns->ns[i]?=some n->∃t,vs[i]?=some (.int n t)
 |_,_,_,_,.nil,h=>by simp at h
 |_,_,0,_,.cons n t _,h=>by cases h;exact⟨t,rfl⟩
 |_,_,i+1,_,.cons n t r,h=>by have q:=qV (i:=i) r h;exact q
theorem qW{α:Type}{f:α->V}{g:α->Value}:∀p:List α,(∀i∈p,RelV (f i) (g i))->Vals (p.map f) (p.map g)
 |[],_=>.nil
 |i::p,h=>.cons (h i Ds) (qW p fun j hj=>h j (Dk _ hj))
theorem qX{α:Type}{H:Hp}{f:α->V}{g:α->Dat}:∀p:List α,(∀i∈p,Rep H (f i) (g i))->av H (p.map f) (p.map g)
 |[],_=>.nil
 |i::p,h=>.cons (h i Ds) (qX p fun j hj=>h j (Dk _ hj))
section
variable{X:Cx}
def LJ(X:Cx)(mW:List (Addr×Obj))(σ:L2.St)(H:Hp)(ls:List Nat)(a kS:Addr)(s':Shared)(keys:List Value):Prop:=
 Inv X mW σ H s'/\(∀b,b=a\/b=kS->j0 X mW H b/\∃o,s'.heap.get? b=some o)/\∃done mX,ls=done++mX/\IntsAre keys (done.map fun n:Nat=>(n:Int))
theorem pF{mW:List (Addr×Obj)}{σ:L2.St}{H1:Hp}{s:Shared}{vs:List V}{us:List Value}{Q:VK}(I:Inv X mW σ H1 s)(rv0:Vals vs us)(q:rD Dm.cP vs H1 Q) :
  wpAny (model X.prog X.w) X.A (call (.builtin "sorted") us [(N9 "key",.builtin "len")]) (EP X mW σ Q) X.xe s:=by
 obtain⟨H0,ds,z,sm,rs,e,kk⟩:=q;obtain⟨xd,ls,p,rfl,hls,h64,hp,CP,hpb,rfl⟩:=pD e;cases rs with
 |cons r1 rr=>
 cases rr;obtain⟨l,ys,rfl,qa,ra⟩:=br sm r1;obtain⟨u,rfl,rx⟩:=vals1 rv0;cases rx;obtain⟨its,rv,pl,hzz⟩:=I.list (.inl qa);have uH:=rv.length;have hlen2:=ra.length;obtain⟨ll,lat⟩:=qU hls;have hil:its.length=ls.length:=by lia
 refine Ts.uu (q:=.builtin "len") (fun a=>ksk_t4 _ _) (LJ X mW σ H1 ls) pl.isList (by lia) (fun h' kp g1 g2=>?_) (fun a kS s' h'' keys ea ek hj kp g1 g2=>?_) (fun a kS i v keys s' ea ek hv hi hj=>?_) fun a kS s' keys E ea ek hj hkl=>?_
 ·refine⟨I.kept (t':=s.toks) kp,fun b hb=>?_,[],ls,rfl,.nil⟩;have hge:s.heap.objs.size<=b:=by rcases hb with rfl | rfl<;>lia
  refine⟨I.yg hge (I.hok.fresh hge),?_⟩;rcases hb with rfl | rfl
  ·exact g1
  ·exact g2
 ·obtain⟨I',fp,r⟩:=hj;exact⟨kF (fp:=[a,kS]) (t':=_) I' (fun b hb=>(fp b (by simpa using hb)).1) fun b u hb e=>kp b u (fun z=>hb (by simp[z])) (fun z=>hb (by simp[z])) e,fun b hb=>⟨(fp b hb).1,by rcases hb with rfl | rfl;exact g1;exact g2⟩,r⟩
 ·obtain⟨I',fp,done,mX,els,ik⟩:=hj;have hiv:i<its.length:=(Mq.mp hv).1;obtain⟨u,hu1,ru⟩:∃u,ys[i]?=some u/\RelV u v:=by
   have hi':i<ys.length:=by lia
   obtain⟨v',e1,e2⟩:=rv.get (Mp hi');rw[hv]at e1;cases e1;exact⟨_,Mp hi',e2⟩
  obtain⟨d,hd1,rd⟩:=av.Gu ra hu1;obtain⟨ws,rfl,hl1⟩:=lat i d hd1;cases rd with
  |lst hb rb=>
   rename_i b zs;cases ru;have hb1:Rd H1 b (.lst zs):=hb.elim (fun z=>.inl (sm _ _ z)) fun⟨o,z⟩=>.inr ⟨o,sm _ _ z⟩;obtain⟨jts,rj,plj,hzj⟩:=I'.list (.inl hb1);have hl2:=rj.length;have hl3:=rb.length;have hs:sizeLine=16777216:=sizeLine_eq;refine Calls.call_len_list plj.isList (by simp only[Ml];lia) ⟨⟨I'.tok _,fp,done++[ws.length],mX.tail,?_,?_⟩,fun b o _ e=>e⟩
   ·have hl:=ik.length;rw[Mj]at hl;rw[els,<- hi,hl,MU (Mn _),Nat.sub_self]at hl1;cases mX with
    |nil=>cases hl1
    |cons y mX=>cases hl1;rw[els,NF];rfl
   ·rw[My];have:((jts.toArray.size:Nat):Int)=(ws.length:Nat):=by simp only[Ml];lia
    rw[this];exact ksk_snoc ik
 ·obtain⟨I',fp,done,mX,els,ik⟩:=hj;have hl:=ik.length;rw[Mj]at hl;have er:mX=[]:=by
   have:=congrArg List.length els;rw[MA]at this;exact List.eq_nil_of_length_eq_zero (by lia)
  subst er;rw[Nc]at els;subst els;have item:∀i,i<its.length->∃n t,ls[i]?=some n/\(Nl (keys.toArray.zip its.toArray) i).1=.int (n:Nat) t/\(Nl (keys.toArray.zip its.toArray) i).2=its.getD i .none:=fun i hi=>by
   have hi2:i<ls.length:=by lia
   obtain⟨t,ht⟩:=qV (n:=((ls[i]:Nat):Int)) ik (by rw[MS,Mp hi2];rfl);have hz:(keys.zip its)[i]?=some (.int ((ls[i]:Nat):Int) t,its[i]):=List.getElem?_zip_eq_some.mpr ⟨ht,Mp hi⟩;have ez:keys.toArray.zip its.toArray=(keys.zip its).toArray:=by simp
   have ek:Nl (keys.toArray.zip its.toArray) i=(.int ((ls[i]:Nat):Int) t,its[i]):=by unfold Nl;rw[ez,Array.getD_eq_getD_getElem?,List.getElem?_toArray,hz];rfl
   exact⟨ls[i],t,Mp hi2,by rw[ek],by rw[ek,ME,Mp hi];rfl⟩
  refine⟨oneType',p.toArray,by rw[Ml];lia,fun h2 Q' hq'=>?_,fun h2 G hG=>?_,fun h2=>?_,fun h'' kp Ma hc=>?_⟩
  ·rw[ksk_kind (keys:=keys.toArray) (kz:=ls.map fun n:Nat=>(n:Int)) (by simpa using ik) (by rw[Ml];lia)];exact wpAny_pure hq'
  ·unfold Dm.nQ at hp;rw[if_neg (by lia),Om]at hp;obtain⟨pa,hp1,rfl⟩:=hp;rw[hil];refine Ts.vS (fun i j C hi hj hC=>?_) hp1 (by simpa using hG);obtain⟨n1,t1,a1,b1,_⟩:=item i (by lia);obtain⟨n2,t2,a2,b2,_⟩:=item j (by lia);unfold PySem.W.kas_cmp;rw[b1,b2,keyLt'_oneType];refine oneLt_int ?_;rw[ME,ME,a1,a2]at hC;have:decide ((n1:Int)<(n2:Int))=decide (n1<n2):=by simp
   rw[this];exact hC
  ·unfold Dm.nQ at hp;rw[if_pos (by lia)]at hp;cases hp;rw[hil]
  ·obtain⟨c',hc⟩:=hc;have eo:(p.toArray.map (Nl (keys.toArray.zip its.toArray))).map (·.2)=(p.map fun i=>its.getD i .none).toArray:=by
    apply Array.toList_inj.mp;rw[OZ,OZ,MI];refine Ng fun i hi=>?_;obtain⟨_,_,_,_,h⟩:=item i (by have:=hpb i hi;lia);exact h
   rw[eo]at hc;have vo:Vals (p.map fun i=>ys.getD i V.non) (p.map fun i=>its.getD i .none):=qW p fun i hi=>by
    have hi':i<ys.length:=by have:=hpb i hi;lia
    obtain⟨v',e1,e2⟩:=rv.get (Mp hi');rw[ME,ME,e1,Mp hi'];exact e2
   have rz:av H0 (p.map fun i=>ys.getD i V.non) (p.map fun i=>xd.getD i .non):=qX p fun i hi=>by
    have hi':i<ys.length:=by have:=hpb i hi;lia
    obtain⟨d,e1,e2⟩:=av.Gu ra (Mp hi');rw[ME,ME,e1,Mp hi'];exact e2
   have I3:=kF (fp:=[a,kS]) (t':=s'.toks) I' (fun b hb=>(fp b (by simpa using hb)).1) fun b u hb e=>kp b u (fun z=>hb (by simp[z])) (fun z=>hb (by simp[z])) e;obtain⟨f0,f1,f2,f3,f4,f5⟩:=(fp a (.inl rfl)).1;have hge:s.heap.objs.size<=a:=by lia
   have n0:X.s₀.heap.get? a=none:=OA (MH I.sz hge);have hs:sizeLine=16777216:=sizeLine_eq;have new:aO X.prog X.w (upd H1 a (.lst (p.map fun i=>ys.getD i V.non))) h'' a (.lst (p.map fun i=>ys.getD i V.non)):=⟨by rw[Mj];lia,_,c',vo,hc⟩
   have I4:=Inv.JR I3 (o:=.lst (p.map fun i=>ys.getD i V.non)) f0 new n0 f1 f4 f5;exact⟨.ref a,_,I4,rfl,kk _ H0 _ (aI.jJ sm f0) ⟨a,rfl,f0,sm.free f0,_,au,rz⟩⟩
theorem xO{e:Expr}{f:FE}{p pos kpos o8:Pos}(hg:Gl X "sorted")(hm:X.mg "sorted" = none)(hg2:Gl X "len")(hm2:X.mg "len" = none)(ha:DA X [e] [f])
  (he:backTo pos (starEach [e] X.env)=(false,eval e X.env)::backTo pos (starEach [] X.env):=by rfl) (CP:(backTo pos (starEach [e] X.env)).any (·.1)=false:=by rfl) :
  DE X (.Call (.Name "sorted" p) [e] [⟨some "key",.Name "len" o8,kpos⟩] pos) (Dm.eB Dm.cP [f]):=by
 intro mW s σ H Q I h;have h':=Gw (J0 _) h;refine wpAny_Call_Name_kw (fq I hg hm (by rfl) ?_ (by decide) (by decide));refine PyProof.Rows.callWith_kw (thn (ha pos mW s σ H _ I h') fun us s1 ⟨vs,H1,I1,r1,q1⟩=>?_) he CP rfl rfl;refine kws_cons (fq I1 hg2 hm2 (by rfl) ?_ (by decide) (by decide));exact kws_nil (pF I1 r1 q1)
end
end Br
namespace Dm
section
variable{o p:Option Dat}{Q:Val->Env->Prop}{ρ:Env}{K:RV->Prop}{R:RV->Env->Prop}{N:Env->Prop}{B C:Env->Prop}{d:Dat}{i j:Int}{f:List Dat->Option RV}{α:Type}{as:List FE}{ds:List Dat}{a:FE}{xs:List Val}{vs:List Dat}{ks:List Int}{X Y:Prop}{g:Dat->Option RV}{lo hi:Option FE}{c:Bool}{e:FE}{ds0:List Dat}{body:FS}{v:RV}{t:FT}{ρ2 ρ3:Env}{n m:Nat}{s u:FS}{it:FI}{bd:FB}
def We(e:FE)(ρ:Env)(Q:Val->Env->Prop):Prop:=∃v ρ',e ρ=some (v,ρ')/\Q v ρ'
def Wt(t:FT)(ρ:Env)(Q:Bool->Env->Prop):Prop:=∃v ρ',t ρ=some (v,ρ')/\Q v ρ'
def Was(as:List FE)(ρ:Env)(Q:List Val->Env->Prop):Prop:=∃v ρ',eAs as ρ=some (v,ρ')/\Q v ρ'
def Wi(it:FI)(ρ:Env)(Q:List Dat->Env->Prop):Prop:=∃v ρ',it ρ=some (v,ρ')/\Q v ρ'
def KO(N:Env->Prop)(R:RV->Env->Prop)(B C:Env->Prop):Out->Prop
 |.nx ρ=>N ρ
 |.ret r ρ=>R r ρ
 |.bk ρ=>B ρ
 |.ct ρ=>C ρ
def Ws(s:FS)(ρ:Env)(N:Env->Prop)(R:RV->Env->Prop)(B C:Env->Prop):Prop:=∃o,s ρ=some o/\KO N R B C o
def Wr(o:Option RV)(P:RV->Prop):Prop:=∃r,o=some r/\P r
def Wif(c:Bool)(X Y:Prop):Prop:=(c=true->X)/\(c=false->Y)
def Wg1(g:Dat->Option RV)(o:Option Dat)(K:RV->Prop):Prop:=∃d v,o=some d/\g d=some v/\K v
def Wg2(g:Dat->Dat->Option RV)(o p:Option Dat)(K:RV->Prop):Prop:=∃d e v,o=some d/\p=some e/\g d e=some v/\K v
def WB(g:List Dat->Option RV)(o:Option (List Dat))(K:RV->Prop):Prop:=∃ds v,o=some ds/\g ds=some v/\K v
def WT(o:Option (List Dat×Env))(K:List Dat->Env->Prop):Prop:=∃ds ρ,o=some (ds,ρ)/\ds.length<=SZ/\K ds ρ
def WF(f:List Dat->Option RV)(ρ:Env)(xs:List Val)(Q:Val->Env->Prop):Prop:=∃ds v,pks ρ xs=some ds/\f ds=some v/\(if dF v.dat then ∃ds' ρ2,tks ρ xs=some (ds',ρ2)/\Q v.bA ρ2 else Q v.bA ρ)
def Wk(ρ:Env)(x:Val)(K:Dat->Env->Prop):Prop:=∃d ρ',tk ρ x=some (d,ρ')/\K d ρ'
def Wp(o:Option FE)(ρ:Env)(K:Option Int->Env->Prop):Prop:=∃i ρ',part o ρ=some (i,ρ')/\K i ρ'
theorem Qk(x:X):Wif true X Y:=⟨fun _=>x,fun h=>by cases h⟩
theorem Qh(y:Y):Wif false X Y:=⟨fun h=>(by cases h),fun _=>y⟩
theorem Qq(h:c=true)(x:X):Wif c X Y:=⟨fun _=>x,fun h'=>by rw[h]at h';cases h'⟩
theorem P4(h:c=false)(y:Y):Wif c X Y:=⟨fun h'=>(by rw[h]at h';cases h'),fun _=>y⟩
theorem PZ{p:Prop}[Decidable p](x:p->X)(y:¬p->Y):Wif (decide p) X Y:=⟨fun h=>x (of_decide_eq_true h),fun h=>y (of_decide_eq_false h)⟩
theorem M_{i:Nat}(h:ρ[i]?=some (.sh d))(q:Q (.val d) ρ):We (eV i) ρ Q:=⟨_,_,by unfold eV;rw[h],q⟩
theorem Py{i:Nat}(h:ρ[i]?=some (.ow d))(q:Q (.slot i) ρ):We (eV i) ρ Q:=⟨_,_,by unfold eV;rw[h],q⟩
theorem Pu(q:Q (.val d) ρ):We (eC d) ρ Q:=⟨_,_,rfl,q⟩
theorem Rb(h:We a ρ fun x ρ1=>Wg1 g (pk ρ1 x) fun v=>Q v.bA ρ1):We (e1 g a) ρ Q:=by obtain⟨x,ρ1,h1,d,v,h2,h3,q⟩:=h;exact⟨_,_,by unfold Dm.e1;rw[h1];dsimp only;rw[h2];dsimp only;rw[h3],q⟩
theorem O_{g:Dat->Dat->Option RV}{a b:FE}(h:We a ρ fun x ρ1=>We b ρ1 fun y ρ2=>Wg2 g (pk ρ2 x) (pk ρ2 y) fun v=>Q v.bA ρ2):We (e2 g a b) ρ Q:=by obtain⟨x,ρ1,h1,y,ρ2,h2,d,e,v,h3,h4,h5,q⟩:=h;exact⟨_,_,by unfold Dm.e2;rw[h1];dsimp only;rw[h2];dsimp only;rw[h3];dsimp only;rw[h4];dsimp only;rw[h5],q⟩
theorem N_{Q:List Val->Env->Prop}(q:Q [] ρ):Was [] ρ Q:=⟨_,_,rfl,q⟩
theorem m_{r:List FE}{Q:List Val->Env->Prop}(h:We a ρ fun x ρ1=>Was r ρ1 fun xs ρ2=>Q (x::xs) ρ2):Was (a::r) ρ Q:=by obtain⟨x,ρ1,h1,xs,ρ2,h2,q⟩:=h;exact⟨_,_,by unfold eAs;rw[h1];dsimp only;rw[h2],q⟩
theorem PY{g:List Dat->Option RV}(h:Was as ρ fun xs ρ1=>WB g (pks ρ1 xs) fun v=>Q v.bA ρ1):We (eB g as) ρ Q:=by obtain⟨x,ρ1,h1,d,v,h2,h3,q⟩:=h;exact⟨_,_,by unfold eB;rw[h1];dsimp only;rw[h2];dsimp only;rw[h3],q⟩
theorem Qo(h:Was as ρ fun xs ρ1=>WT (tks ρ1 xs) fun ds ρ2=>Q (.val (.tup ds)) ρ2):We (cN as) ρ Q:=by obtain⟨x,ρ1,h1,ds,ρ2,h2,h3,q⟩:=h;exact⟨_,_,by unfold cN;rw[h1];dsimp only;rw[h2];dsimp only;rw[if_pos h3],q⟩
theorem Qe(h:Was as ρ fun xs ρ1=>WT (tks ρ1 xs) fun ds ρ2=>Q (.new (.lst ds)) ρ2):We (dg as) ρ Q:=by obtain⟨x,ρ1,h1,ds,ρ2,h2,h3,q⟩:=h;exact⟨_,_,by unfold dg;rw[h1];dsimp only;rw[h2];dsimp only;rw[if_pos h3],q⟩
theorem PU{K:List Dat->Env->Prop}(k:K ds ρ3)(h:tks ρ xs=some (ds,ρ2))(hn:ρ2=ρ3)(hl:ds.length<=SZ):WT (tks ρ xs) K:=⟨_,_,hn▸h,hl,k⟩
theorem PL(h:Was as ρ fun xs ρ1=>WF f ρ1 xs Q):We (eF f as) ρ Q:=by
 obtain⟨x,ρ1,h1,ds,v,h2,h3,h4⟩:=h;by_cases hb:dF v.dat=true
 ·rw[if_pos hb]at h4;obtain⟨ds',ρ2,h5,q⟩:=h4;exact⟨_,_,by unfold eF;rw[h1];dsimp only;rw[h2];dsimp only;rw[h3];dsimp only;rw[if_pos hb,h5],q⟩
 ·rw[if_neg hb]at h4;exact⟨_,_,by unfold eF;rw[h1];dsimp only;rw[h2];dsimp only;rw[h3];dsimp only;rw[if_neg hb],h4⟩
theorem PK{ρ ρ2 ρ3:Env}{ds ds':List Dat}(h2:f ds=some v)(q:Q v.bA ρ3)(h1:pks ρ xs=some ds)(h3:dF v.dat=true)(h4:tks ρ xs=some (ds',ρ2))(hn:ρ2=ρ3):WF f ρ xs Q:=
 ⟨_,_,h1,h2,by rw[if_pos h3];exact⟨_,_,h4,hn▸q⟩⟩
theorem P7(h2:f ds=some v)(q:Q v.bA ρ)(h1:pks ρ xs=some ds)(h3:dF v.dat=false):WF f ρ xs Q:=
 ⟨_,_,h1,h2,by rw[if_neg (by rw[h3];decide)];exact q⟩
theorem Rw{a b:FE}(h:Wt t ρ fun c ρ1=>Wif c (We a ρ1 Q) (We b ρ1 Q)):We (eIf t a b) ρ Q:=by
 obtain⟨c,ρ1,h1,h2,h3⟩:=h;cases c with
 |true=>obtain⟨v,ρ2,h4,q⟩:=h2 rfl;exact⟨_,_,by unfold eIf;rw[h1];exact h4,q⟩
 |false=>obtain⟨v,ρ2,h4,q⟩:=h3 rfl;exact⟨_,_,by unfold eIf;rw[h1];exact h4,q⟩
def Wb(v:Val)(K:Bool->Prop):Prop:=∃c,v=.val (.bl c)/\K c
theorem Px{K:Bool->Prop}(k:K c):Wb (.val (.bl c)) K:=⟨c,rfl,k⟩
theorem Qy{a b:FE}(h:We a ρ fun v ρ1=>Wb v fun c=>Wif c (We b ρ1 Q) (Q (.val (.bl false)) ρ1)):We (jH a b) ρ Q:=by
 obtain⟨v,ρ1,h1,c,rfl,h2,h3⟩:=h;cases c with
 |true=>obtain⟨v,ρ2,h4,q⟩:=h2 rfl;exact⟨_,_,by unfold jH;rw[h1];exact h4,q⟩
 |false=>exact⟨_,_,by unfold jH;rw[h1],h3 rfl⟩
theorem Ru{a b:FE}(h:We a ρ fun v ρ1=>Wb v fun c=>Wif c (Q (.val (.bl true)) ρ1) (We b ρ1 Q)):We (eOr a b) ρ Q:=by
 obtain⟨v,ρ1,h1,c,rfl,h2,h3⟩:=h;cases c with
 |false=>obtain⟨v,ρ2,h4,q⟩:=h3 rfl;exact⟨_,_,by unfold eOr;rw[h1];exact h4,q⟩
 |true=>exact⟨_,_,by unfold eOr;rw[h1],h2 rfl⟩
theorem Rj(h:We a ρ fun v ρ1=>Wb v fun c=>Q (.val (.bl (!c))) ρ1):We (xr a) ρ Q:=by obtain⟨v,ρ1,h1,c,rfl,h2⟩:=h;exact⟨_,_,by unfold xr;rw[h1],h2⟩
theorem PJ{Q:Bool->Env->Prop}(h:We a ρ fun v ρ1=>Wb v fun c=>Q c ρ1):Wt (tV a) ρ Q:=by obtain⟨v,ρ1,h1,c,rfl,h2⟩:=h;exact⟨_,_,by unfold tV;rw[h1],h2⟩
theorem QC{Q:Bool->Env->Prop}(h:Wt t ρ fun c ρ1=>Q (!c) ρ1):Wt (jZ t) ρ Q:=by obtain⟨v,ρ1,h1,h2⟩:=h;exact⟨_,_,by unfold jZ;rw[h1],h2⟩
theorem Qd{t u:FT}{Q:Bool->Env->Prop}(h:Wt t ρ fun c ρ1=>Wif c (Wt u ρ1 Q) (Q false ρ1)):Wt (ff t u) ρ Q:=by
 obtain⟨c,ρ1,h1,h2,h3⟩:=h;cases c with
 |true=>obtain⟨v,ρ2,h4,q⟩:=h2 rfl;exact⟨_,_,by unfold ff;rw[h1];exact h4,q⟩
 |false=>exact⟨_,_,by unfold ff;rw[h1],h3 rfl⟩
theorem QS{t u:FT}{Q:Bool->Env->Prop}(h:Wt t ρ fun c ρ1=>Wif c (Q true ρ1) (Wt u ρ1 Q)):Wt (tOr t u) ρ Q:=by
 obtain⟨c,ρ1,h1,h2,h3⟩:=h;cases c with
 |false=>obtain⟨v,ρ2,h4,q⟩:=h3 rfl;exact⟨_,_,by unfold tOr;rw[h1];exact h4,q⟩
 |true=>exact⟨_,_,by unfold tOr;rw[h1],h2 rfl⟩
theorem RM{Q:Bool->Env->Prop}(h:We a ρ fun x ρ1=>∃d c,pk ρ1 x=some d/\truth d=some c/\Q c ρ1):Wt (tTr a) ρ Q:=by obtain⟨x,ρ1,h1,d,c,h2,h3,q⟩:=h;exact⟨_,_,by unfold tTr;rw[h1];dsimp only;rw[h2];dsimp only;rw[h3],q⟩
theorem Rc{Q:Bool->Env->Prop}(q:Q true ρ):Wt bS ρ Q:=⟨_,_,rfl,q⟩
theorem PF{K:Dat->Env->Prop}(k:K d ρ):Wk ρ (.val d) K:=⟨_,_,rfl,k⟩
theorem P_{K:Dat->Env->Prop}(k:K d ρ):Wk ρ (.new d) K:=⟨_,_,rfl,k⟩
theorem QN{ρ ρ':Env}{i:Nat}{K:Dat->Env->Prop}(k:K d ρ')(h:ρ[i]?=some (.ow d))(hs:ρ.set i (.sh d)=ρ'):Wk ρ (.slot i) K:=⟨_,_,by unfold tk;dsimp only;rw[h];dsimp only;rw[hs],k⟩
noncomputable def z7:Dat->Option (List Dat)
 |.lst ds=>some ds
 |.tup ds=>some ds
 |_=>none
theorem Qg{Q:List Dat->Env->Prop}(h:We a ρ fun x ρ1=>Wk ρ1 x fun d ρ2=>∃ds,z7 d=some ds/\Q ds ρ2):Wi (iS a) ρ Q:=by
 obtain⟨x,ρ1,h1,d,ρ2,h2,ds,hd,q⟩:=h;cases d with
 |lst xs=>cases hd;exact⟨_,_,by unfold iS;rw[h1];dsimp only;rw[h2],q⟩
 |tup xs=>cases hd;exact⟨_,_,by unfold iS;rw[h1];dsimp only;rw[h2],q⟩
 |_=>cases hd
def bL(v:Val)(K:Int->Prop):Prop:=∃i,v=.val (.int i)/\K i
theorem bL.mk{i:Int}{K:Int->Prop}(k:K i):bL (.val (.int i)) K:=⟨i,rfl,k⟩
theorem Qa{Q:List Dat->Env->Prop}(h:We a ρ fun v ρ1=>bL v fun j=>Q (ups 0 j.toNat) ρ1/\j<=BIG/\-BIG<=j):Wi (iR1 a) ρ Q:=by obtain⟨v,ρ1,h1,j,rfl,q,h2⟩:=h;exact⟨_,_,by unfold iR1;rw[h1];dsimp only;rw[if_pos h2],q⟩
theorem Rn{a b:FE}{Q:List Dat->Env->Prop}(h:We a ρ fun v ρ1=>bL v fun i=>We b ρ1 fun w ρ2=>bL w fun j=>Q (ups i (j-i).toNat) ρ2/\j<=BIG/\-BIG<=j/\i<=BIG/\-BIG<=i):Wi (iR2 a b) ρ Q:=by obtain⟨v,ρ1,h1,i,rfl,w,ρ2,h2,j,rfl,q,h3⟩:=h;exact⟨_,_,by unfold iR2;rw[h1];dsimp only;rw[h2];dsimp only;rw[if_pos h3],q⟩
theorem Wp.none{K:Option Int->Env->Prop}(k:K none ρ):Wp none ρ K:=⟨_,_,rfl,k⟩
theorem Wp.some{f:FE}{K:Option Int->Env->Prop}(h:We f ρ fun v ρ1=>bL v fun i=>K (some i) ρ1):Wp (some f) ρ K:=by obtain⟨v,ρ1,h1,i,rfl,k⟩:=h;exact⟨_,_,by unfold part;dsimp only;rw[h1],k⟩
def Wsl(o:Option Dat)(l h:Option Int)(K:Dat->Prop):Prop:=∃xs,o=some (.lst xs)/\K (.lst (cut xs l h))
noncomputable def CO{α:Type}(xs:List α)(lo hi:Option Int):List α:=(xs.drop (sIx xs.length 0 lo)).take (sIx xs.length xs.length hi-sIx xs.length 0 lo)
theorem J4(Ab:α->Dat)(xs:List α)(lo hi:Option Int):cut (xs.map Ab) lo hi=(CO xs lo hi).map Ab:=by unfold cut CO;rw[Mj,<- List.map_drop,<- List.map_take]
theorem Ry(h:We a ρ fun x ρ1=>Wp lo ρ1 fun l ρ2=>Wp hi ρ2 fun h ρ3=>Wsl (pk ρ3 x) l h fun d=>Q (.new d) ρ3):We (eSl a lo hi) ρ Q:=by obtain⟨x,ρ1,h1,l,ρ2,h2,hh,ρ3,h3,xs,h4,q⟩:=h;exact⟨_,_,by unfold eSl;rw[h1];dsimp only;rw[h2];dsimp only;rw[h3];dsimp only;rw[h4],q⟩
theorem QE(h:We a ρ fun x ρ1=>Wp lo ρ1 fun l ρ2=>Wp hi ρ2 fun h ρ3=>∃xs,pk ρ3 x=some (.tup xs)/\¬(sIx xs.length 0 l=0/\sIx xs.length xs.length h=xs.length)/\Q (.val (.tup (cut xs l h))) ρ3):We (qG a lo hi) ρ Q:=by obtain⟨x,ρ1,h1,l,ρ2,h2,hh,ρ3,h3,xs,h4,h5,q⟩:=h;exact⟨_,_,by unfold qG;rw[h1];dsimp only;rw[h2];dsimp only;rw[h3];dsimp only;rw[h4];dsimp only;rw[if_neg h5],q⟩
theorem PV(n:N ρ):Ws sNx ρ N R B C:=⟨_,rfl,n⟩
theorem Pr(h:Ws s ρ (fun ρ1=>Ws u ρ1 N R B C) R B C):Ws (aA s u) ρ N R B C:=by
 obtain⟨o,h1,h2⟩:=h;cases o with
 |nx ρ1=>obtain⟨o,h3,h4⟩:=h2;exact⟨o,by unfold aA;rw[h1];exact h3,h4⟩
 |ret r ρ1=>exact⟨.ret r ρ1,by unfold aA;rw[h1],h2⟩
 |bk ρ1=>exact⟨.bk ρ1,by unfold aA;rw[h1],h2⟩
 |ct ρ1=>exact⟨.ct ρ1,by unfold aA;rw[h1],h2⟩
def WA(i:Nat)(v:Val)(ρ:Env)(N:Env->Prop):Prop:=match v with
 |.new d=>N (ρ.set i (.ow d))
 |x=>Wk ρ x fun d ρ2=>N (ρ2.set i (.sh d))
theorem PD{i:Nat}(h:We e ρ fun v ρ1=>WA i v ρ1 N)(hi:i≠0):Ws (sA i e) ρ N R B C:=by
 obtain⟨v,ρ1,h1,h2⟩:=h;cases v with
 |new d=>exact⟨.nx _,by unfold sA;rw[if_neg hi,h1],h2⟩
 |val d=>obtain⟨d',ρ2,h3,h4⟩:=h2;exact⟨.nx _,by unfold sA;rw[if_neg hi,h1];dsimp only;rw[h3],h4⟩
 |slot j=>obtain⟨d',ρ2,h3,h4⟩:=h2;exact⟨.nx _,by unfold sA;rw[if_neg hi,h1];dsimp only;rw[h3],h4⟩
theorem PB{i:Nat}{ρ ρ2:Env}(n:N ρ2)(hs:ρ.set i (.ow d)=ρ2):WA i (.new d) ρ N:=by unfold WA;dsimp only;rw[hs];exact n
theorem PN{i:Nat}{ρ ρ2:Env}(n:N ρ2)(hs:ρ.set i (.sh d)=ρ2):WA i (.val d) ρ N:=⟨_,_,rfl,by show N _;rw[hs];exact n⟩
theorem Q6{i j:Nat}{ρ ρ2:Env}(n:N ρ2)(h:ρ[j]?=some (.ow d))(hs:(ρ.set j (.sh d)).set i (.sh d)=ρ2):WA i (.slot j) ρ N:=⟨_,_,by unfold tk;dsimp only;rw[h],by show N _;rw[hs];exact n⟩
theorem QH(h:We e ρ fun _ ρ1=>N ρ1):Ws (sE e) ρ N R B C:=by obtain⟨x,ρ1,h1,n⟩:=h;exact⟨.nx _,by unfold sE;rw[h1],n⟩
def WR(v:Val)(ρ:Env)(R:RV->Env->Prop):Prop:=match v with
 |.new d=>R (.new d) ρ
 |.val d=>R (.val d) ρ
 |.slot i=>(∃d,ρ[i]?=some (.ow d)/\R (.new d) (ρ.set i .un))
theorem PR(h:We e ρ fun v ρ1=>WR v ρ1 R):Ws (sR e) ρ N R B C:=by
 obtain⟨v,ρ1,h1,h2⟩:=h;cases v with
 |new d=>exact⟨.ret _ _,by unfold sR;rw[h1],h2⟩
 |val d=>exact⟨.ret _ _,by unfold sR;rw[h1],h2⟩
 |slot i=>obtain⟨d,h3,h4⟩:=h2;exact⟨.ret _ _,by unfold sR;rw[h1];dsimp only;rw[h3],h4⟩
theorem RH(r:R (.new d) ρ):WR (.new d) ρ R:=r
theorem Q5(r:R (.val d) ρ):WR (.val d) ρ R:=r
theorem P9{i:Nat}(r:R (.new d) (ρ.set i .un))(h:ρ[i]?=some (.ow d)):WR (.slot i) ρ R:=⟨d,h,r⟩
theorem P6{a b:FS}(h:Wt t ρ fun c ρ1=>Wif c (Ws a ρ1 N R B C) (Ws b ρ1 N R B C)):Ws (sIf t a b) ρ N R B C:=by
 obtain⟨c,ρ1,h1,h2,h3⟩:=h;cases c with
 |true=>obtain⟨o,h4,q⟩:=h2 rfl;exact⟨_,by unfold sIf;rw[h1];exact h4,q⟩
 |false=>obtain⟨o,h4,q⟩:=h3 rfl;exact⟨_,by unfold sIf;rw[h1];exact h4,q⟩
theorem Qu{i:Nat}(h:We e ρ fun x ρ1=>Wk ρ1 x fun d ρ2=>∃ds ρ3,ρ2[i]?=some (.ow (.lst ds))/\ρ2.set i (.ow (.lst (ds++[d])))=ρ3/\N ρ3/\ds.length<SZ)(h0:ρ[i]?=some (.ow (.lst ds0))):Ws (mR i e) ρ N R B C:=by obtain⟨x,ρ1,h1,d,ρ2,h2,ds,ρ3,h3,h5,n,h4⟩:=h;exact⟨.nx _,by unfold mR;rw[h0];dsimp only;rw[h1];dsimp only;rw[h2];dsimp only;rw[h3];dsimp only;rw[if_pos h4,h5],n⟩
theorem ji{i:Nat}(n:N ρ3)(h:ρ2[i]?=some (.ow (.lst ds)))(hs:ρ2.set i (.ow (.lst (ds++[d])))=ρ3)(hl:ds.length<SZ):∃ds ρ3,ρ2[i]?=some (.ow (.lst ds))/\ρ2.set i (.ow (.lst (ds++[d])))=ρ3/\N ρ3/\ds.length<SZ:=⟨_,_,h,hs,n,hl⟩
theorem RG{i:Nat}{j e:FE}(h:We e ρ fun x ρ1=>Wk ρ1 x fun d ρ2=>(∃d0,ρ2[i]?=some (.ow d0))/\We j ρ2 fun y ρ3=>bL y fun k=>∃ds m ρ4,ρ3[i]?=some (.ow (.lst ds))/\ixN ds.length k=some m/\ρ3.set i (.ow (.lst (ds.set m d)))=ρ4/\N ρ4):Ws (xu i j e) ρ N R B C:=by obtain⟨x,ρ1,h1,d,ρ2,h2,⟨d0,h0⟩,y,ρ3,h3,k,rfl,ds,m,ρ4,h4,h5,h6,n⟩:=h;exact⟨.nx _,by unfold xu;rw[h1];dsimp only;rw[h2];dsimp only;rw[h0];dsimp only;rw[h3];dsimp only;rw[h4];dsimp only;rw[h5];dsimp only;rw[h6],n⟩
theorem Rx{i:Nat}{j e:FE}(h:We e ρ fun x ρ1=>Wk ρ1 x fun d ρ2=>(∃d0,ρ2[i]?=some (.ow d0))/\We j ρ2 fun y ρ3=>bL y fun k=>∃ks vs ρ4,ρ3[i]?=some (.ow (.dct ks vs))/\ρ3.set i (.ow (.dct (ju ks k) (jv ks vs k d)))=ρ4/\N ρ4/\ks.length<SZ):Ws (nF i j e) ρ N R B C:=by obtain⟨x,ρ1,h1,d,ρ2,h2,⟨d0,h0⟩,y,ρ3,h3,k,rfl,ks,vs,ρ4,h4,h5,n,h6⟩:=h;exact⟨.nx _,by unfold nF;rw[h1];dsimp only;rw[h2];dsimp only;rw[h0];dsimp only;rw[h3];dsimp only;rw[h4];dsimp only;rw[if_pos h6,h5],n⟩
theorem vU{i:Nat}{k:Int}{ρ3 ρ4:Env}(n:N ρ4)(h:ρ3[i]?=some (.ow (.dct ks vs)))(hs:ρ3.set i (.ow (.dct (ju ks k) (jv ks vs k d)))=ρ4)(hl:ks.length<SZ):∃ks vs ρ4,ρ3[i]?=some (.ow (.dct ks vs))/\ρ3.set i (.ow (.dct (ju ks k) (jv ks vs k d)))=ρ4/\N ρ4/\ks.length<SZ:=⟨_,_,_,h,hs,n,hl⟩
theorem P1(h:Wi it ρ fun ds ρ1=>Ws (i6 bd body ds) ρ1 N R B C):Ws (cU it bd body) ρ N R B C:=by obtain⟨ds,ρ1,h1,o,h2,h3⟩:=h;exact⟨o,by unfold cU;rw[h1];exact h2,h3⟩
theorem P5(Ab:α->Dat)(bd:FB)(body:FS)(xs:List α)(ρ:Env)(N:Env->Prop)(R:RV->Env->Prop)(B C:Env->Prop)(I:List α->List α->Env->Prop)
  (h0:I [] xs ρ) (hs:∀p x q ρ,xs=p++x::q->I p (x::q) ρ->∃ρ1,bd (Ab x) ρ=some ρ1/\Ws body ρ1 (fun ρ2=>I (p++[x]) q ρ2) R N (fun ρ2=>I (p++[x]) q ρ2)) (he:∀ρ,I xs [] ρ->N ρ):Ws (i6 bd body (xs.map Ab)) ρ N R B C:=by
 have go:∀(q p:List α) (ρ:Env),xs=p++q->I p q ρ->Ws (i6 bd body (q.map Ab)) ρ N R B C:=fun q=>by
  induction q with
  |nil=>intro p ρ e i;rw[Nc]at e;exact⟨.nx _,rfl,he ρ (e▸i)⟩
  |cons x q ih=>
   intro p ρ e i;obtain⟨ρ1,h1,o,h2,h3⟩:=hs p x q ρ e i;have e':xs=(p++[x])++q:=by rw[NF];exact e
   cases o with
   |nx ρ2=>obtain⟨o,h4,h5⟩:=ih _ _ e' h3;exact⟨o,by rw[gc,i6,h1];dsimp only;rw[h2];exact h4,h5⟩
   |ct ρ2=>obtain⟨o,h4,h5⟩:=ih _ _ e' h3;exact⟨o,by rw[gc,i6,h1];dsimp only;rw[h2];exact h4,h5⟩
   |bk ρ2=>exact⟨.nx _,by rw[gc,i6,h1];dsimp only;rw[h2],h3⟩
   |ret r ρ2=>exact⟨.ret _ _,by rw[gc,i6,h1];dsimp only;rw[h2],h3⟩
 exact go xs [] ρ rfl h0
theorem PM{P:RV->Prop}(b:Ws body ρ (fun _=>P (.val .non)) (fun r _=>P r) (fun _=>False) (fun _=>False))(hρ:ds.map Cell.sh++Mk m .un=ρ)(h:ds.length=n):Wr (fn n m body ds) P:=by
 obtain⟨o,h1,h2⟩:=b;cases o with
 |nx ρ1=>exact⟨_,by unfold Dm.fn;rw[if_pos h,hρ,h1],h2⟩
 |ret r ρ1=>exact⟨_,by unfold Dm.fn;rw[if_pos h,hρ,h1],h2⟩
 |bk ρ1=>exact h2.elim
 |ct ρ1=>exact h2.elim
theorem P0{o:Option RV}{r:RV}(h:Wr o fun x=>x=r):o=some r:=by obtain⟨x,h1,rfl⟩:=h;exact h1
theorem vV(Ab:α->Dat)(p:α->Bool)(v:α->Dat)(bd:FB)(t:FT)(el:FE)(mk:Cell->Env)(hb:∀d c,bd d (mk c)=some (mk (.sh d))):∀(xs:List α) (c:Cell) (Di:List Dat),
  (∀x∈xs,t (mk (.sh (Ab x)))=some (p x,mk (.sh (Ab x))))->(∀x∈xs,p x=true->We el (mk (.sh (Ab x))) fun w ρ'=>Wk ρ' w fun d ρ''=>d=v x/\ρ''=mk (.sh (Ab x))) ->
  ∃c',eY bd t el (xs.map Ab) (mk c) Di=some (Di++(xs.filter p).map v,mk c')
 |[],c,Di,_,_=>⟨c,by simp[eY]⟩
 |x::xs,c,Di,ht,he=>by
  rw[gc,eY,hb];dsimp only;rw[ht x Ds];have ht':=fun y hy=>ht y (Dk _ hy);have he':=fun y hy=>he y (Dk _ hy);by_cases h:p x=true
  ·obtain⟨w,ρ',h1,d,ρ'',h2,rfl,rfl⟩:=he x Ds h;rw[h];dsimp only;rw[h1];dsimp only;rw[h2];obtain⟨c',e⟩:=vV Ab p v bd t el mk hb xs (.sh (Ab x)) (Di++[v x]) ht' he';exact⟨c',by dsimp only;rw[e,MV h];simp⟩
  ·rw[Bool.not_eq_true]at h;rw[h];obtain⟨c',e⟩:=vV Ab p v bd t el mk hb xs (.sh (Ab x)) Di ht' he';exact⟨c',by dsimp only;rw[e,MQ (by rw[h];decide)]⟩
theorem Q3(h:Wt t ρ fun c' ρ'=>c'=c/\ρ'=ρ):t ρ=some (c,ρ):=by obtain⟨_,_,h1,rfl,rfl⟩:=h;exact h1
theorem Qm(Ab:α->Dat)(xs:List α)(p:α->Bool)(v:α->Dat){it:FI}{k:Nat}{t:FT}{el:FE}{ρ ρ1:Env}{Q:Val->Env->Prop}
  (q:Q (.new (.lst ((xs.filter p).map v))) ρ1) (Hw:it ρ=some (xs.map Ab,ρ1)) (hk:ρ1.length=k) (hk0:k≠0) (hl:xs.length<=SZ)
  (ht:∀x∈xs,Wt t (ρ1++[.sh (Ab x)]) fun c ρ'=>c=p x/\ρ'=ρ1++[.sh (Ab x)])
  (he:∀x∈xs,p x=true->We el (ρ1++[.sh (Ab x)]) fun w ρ'=>Wk ρ' w fun d ρ''=>d=v x/\ρ''=ρ1++[.sh (Ab x)]):We (bD it 1 (bN k) t el) ρ Q:=by
 have bd:∀(d:Dat) (c:Cell),bN k d (ρ1++[c])=some (ρ1++[.sh d]):=fun d c=>by unfold bN;rw[if_neg hk0,Ox _ _ (by lia)];simp[hk]
 obtain⟨c',e⟩:=vV Ab p v (bN k) t el (fun c=>ρ1++[c]) bd xs .un [] (fun x hx=>Q3 (ht x hx)) he;refine⟨_,_,?_,q⟩;unfold bD;rw[Hw];dsimp only;rw[if_pos (by rw[Mj];exact hl)];show (match eY _ _ _ _ (ρ1++[.un]) [] with | none=>none | some (ys,ρ2)=>some (Val.new (.lst ys),ρ2.take ρ1.length))=_;rw[e];dsimp only;rw[Of,List.take_left]
theorem Rq(Ab:α->Dat)(xs:List α)(p:α->Bool)(v:α->Dat){i:Nat}{k:Nat}{t:FT}{el:FE}{ρ:Env}{Q:Val->Env->Prop}{d:Dat}
  (q:Q (.new (.lst ((xs.filter p).map v))) ρ) (hi:ρ[i]?=some (.sh d)) (hd:z7 d=some (xs.map Ab)) (hk:ρ.length=k) (hk0:k≠0) (hl:xs.length<=SZ)
  (ht:∀x∈xs,Wt t (ρ++[.sh (Ab x)]) fun c ρ'=>c=p x/\ρ'=ρ++[.sh (Ab x)])
  (he:∀x∈xs,p x=true->We el (ρ++[.sh (Ab x)]) fun w ρ'=>Wk ρ' w fun d ρ''=>d=v x/\ρ''=ρ++[.sh (Ab x)]):We (aL i 1 (bN k) t el) ρ Q:=by
 have Hw:iS (eV i) ρ=some (xs.map Ab,ρ):=by
  unfold iS eV;rw[hi];cases d with
  |lst ys=>cases hd;rfl
  |tup ys=>cases hd;rfl
  |_=>cases hd
 obtain⟨a,ρ',h1,h2⟩:=Qm Ab xs p v (Q:=Q) q Hw hk hk0 hl ht he;refine⟨a,ρ',?_,h2⟩;unfold aL;rw[hi];exact h1
theorem Rv(Ab:α->Dat)(xs:List α)(p:α->Bool)(v:α->Dat){i:Nat}{k:Nat}{t:FT}{el:FE}{ρ ρ1:Env}{Q:Val->Env->Prop}
  (q:Q (.new (.lst ((xs.filter p).map v))) ρ) (hi:ρ[i]?=some (.ow (.lst (xs.map Ab)))) (h1:ρ.set i .un=ρ1) (hk:ρ.length=k) (hk0:k≠0) (hl:xs.length<=SZ)
  (ht:∀x∈xs,Wt t (ρ1++[.sh (Ab x)]) fun c ρ'=>c=p x/\ρ'=ρ1++[.sh (Ab x)])
  (he:∀x∈xs,p x=true->We el (ρ1++[.sh (Ab x)]) fun w ρ'=>Wk ρ' w fun d ρ''=>d=v x/\ρ''=ρ1++[.sh (Ab x)]):We (aL i 1 (bN k) t el) ρ Q:=by
 have uH:ρ1.length=ρ.length:=by rw[<- h1,MX]
 have hil:i<ρ.length:=(Mq.mp hi).1;have bd:∀(d:Dat) (c:Cell),bN k d (ρ1++[c])=some (ρ1++[.sh d]):=fun d c=>by unfold bN;rw[if_neg hk0,Ox _ _ (by lia)];simp[hk,uH]
 obtain⟨c',e⟩:=vV Ab p v (bN k) t el (fun c=>ρ1++[c]) bd xs .un [] (fun x hx=>Q3 (ht x hx)) he;refine⟨_,_,?_,q⟩;unfold aL;rw[hi];dsimp only;rw[if_pos (by rw[Mj];exact hl),h1];show (match eY _ _ _ _ (ρ1++[.un]) [] with | none=>none | some (ys,ρ2)=>some (Val.new (.lst ys),(ρ2.take ρ.length).set i (.ow (.lst (xs.map Ab)))))=_;rw[e];dsimp only;rw[Of,<- uH,List.take_left,<- h1,Pj]
 congr 2
 apply N7;intro j;by_cases h:i=j
 ·subst h;rw[MN hil,hi]
 ·rw[gV h]
theorem QD{α β:Type}(Ab:α->Dat)(xs:List α)(f:α->β)(ee:β->Dat){it:FI}{k:Nat}{el:FE}{ρ ρ1:Env}{Q:Val->Env->Prop}
  (q:Q (.new (.lst ((xs.map f).map ee))) ρ1) (Hw:it ρ=some (xs.map Ab,ρ1)) (hk:ρ1.length=k) (hk0:k≠0) (hl:xs.length<=SZ)
  (he:∀x∈xs,We el (ρ1++[.sh (Ab x)]) fun w ρ'=>Wk ρ' w fun d ρ''=>d=ee (f x)/\ρ''=ρ1++[.sh (Ab x)]):We (bD it 1 (bN k) bS el) ρ Q:=
 Qm Ab xs (fun _=>true) (fun x=>ee (f x)) (by rw[Od.mpr (fun _ _=>rfl)];rw[MI]at q;exact q) Hw hk hk0 hl (fun _ _=>Rc ⟨rfl,rfl⟩) fun x hx _=>he x hx
theorem Rt{α β:Type}(Ab:α->Dat)(xs:List α)(f:α->β)(ee:β->Dat){i:Nat}{k:Nat}{el:FE}{ρ:Env}{Q:Val->Env->Prop}{d:Dat}
  (q:Q (.new (.lst ((xs.map f).map ee))) ρ) (hi:ρ[i]?=some (.sh d)) (hd:z7 d=some (xs.map Ab)) (hk:ρ.length=k) (hk0:k≠0) (hl:xs.length<=SZ)
  (he:∀x∈xs,We el (ρ++[.sh (Ab x)]) fun w ρ'=>Wk ρ' w fun d ρ''=>d=ee (f x)/\ρ''=ρ++[.sh (Ab x)]):We (aL i 1 (bN k) bS el) ρ Q:=
 Rq Ab xs (fun _=>true) (fun x=>ee (f x)) (by rw[Od.mpr (fun _ _=>rfl)];rw[MI]at q;exact q) hi hd hk hk0 hl (fun _ _=>Rc ⟨rfl,rfl⟩) fun x hx _=>he x hx
theorem QO{α β:Type}(Ab:α->Dat)(xs:List α)(f:α->β)(ee:β->Dat){i:Nat}{k:Nat}{el:FE}{ρ ρ1:Env}{Q:Val->Env->Prop}
  (q:Q (.new (.lst ((xs.map f).map ee))) ρ) (hi:ρ[i]?=some (.ow (.lst (xs.map Ab)))) (h1:ρ.set i .un=ρ1) (hk:ρ.length=k) (hk0:k≠0) (hl:xs.length<=SZ)
  (he:∀x∈xs,We el (ρ1++[.sh (Ab x)]) fun w ρ'=>Wk ρ' w fun d ρ''=>d=ee (f x)/\ρ''=ρ1++[.sh (Ab x)]):We (aL i 1 (bN k) bS el) ρ Q:=
 Rv Ab xs (fun _=>true) (fun x=>ee (f x)) (by rw[Od.mpr (fun _ _=>rfl)];rw[MI]at q;exact q) hi h1 hk hk0 hl (fun _ _=>Rc ⟨rfl,rfl⟩) fun x hx _=>he x hx
theorem Qi{α β:Type}(Ab:α->Dat)(xs:List α)(p:α->Bool)(f:α->β)(ee:β->Dat){i:Nat}{k:Nat}{t:FT}{el:FE}{ρ:Env}{Q:Val->Env->Prop}{d:Dat}
  (q:Q (.new (.lst (((xs.filter p).map f).map ee))) ρ) (hi:ρ[i]?=some (.sh d)) (hd:z7 d=some (xs.map Ab)) (hk:ρ.length=k) (hk0:k≠0) (hl:xs.length<=SZ)
  (ht:∀x∈xs,Wt t (ρ++[.sh (Ab x)]) fun c ρ'=>c=p x/\ρ'=ρ++[.sh (Ab x)])
  (he:∀x∈xs,p x=true->We el (ρ++[.sh (Ab x)]) fun w ρ'=>Wk ρ' w fun d ρ''=>d=ee (f x)/\ρ''=ρ++[.sh (Ab x)]):We (aL i 1 (bN k) t el) ρ Q:=
 Rq Ab xs p (fun x=>ee (f x)) (by rw[MI]at q;exact q) hi hd hk hk0 hl ht he
theorem RL{α β:Type}(Ab:α->Dat)(xs:List α)(p:α->Bool)(f:α->β)(ee:β->Dat){i:Nat}{k:Nat}{t:FT}{el:FE}{ρ ρ1:Env}{Q:Val->Env->Prop}
  (q:Q (.new (.lst (((xs.filter p).map f).map ee))) ρ) (hi:ρ[i]?=some (.ow (.lst (xs.map Ab)))) (h1:ρ.set i .un=ρ1) (hk:ρ.length=k) (hk0:k≠0) (hl:xs.length<=SZ)
  (ht:∀x∈xs,Wt t (ρ1++[.sh (Ab x)]) fun c ρ'=>c=p x/\ρ'=ρ1++[.sh (Ab x)])
  (he:∀x∈xs,p x=true->We el (ρ1++[.sh (Ab x)]) fun w ρ'=>Wk ρ' w fun d ρ''=>d=ee (f x)/\ρ''=ρ1++[.sh (Ab x)]):We (aL i 1 (bN k) t el) ρ Q:=
 Rv Ab xs p (fun x=>ee (f x)) (by rw[MI]at q;exact q) hi h1 hk hk0 hl ht he
theorem vW(i j:Int):gEq (.int i) (.int j)=vB (decide (i=j)):=by
 have:(i == j)=decide (i=j):=by by_cases h:i=j<;>simp[h]
 show vB (i == j)=_;rw[this]
theorem CQ(i j:Int):gNe (.int i) (.int j)=vB (!decide (i=j)):=by
 have:(i == j)=decide (i=j):=by by_cases h:i=j<;>simp[h]
 show vB (!(i == j))=_;rw[this]
theorem P8(k:K (.val (.bl (decide (i=j)))))(ho:o=some (.int i))(hp:p=some (.int j)):Wg2 gEq o p K:=⟨_,_,_,ho,hp,vW i j,k⟩
theorem Qp(k:K (.val (.bl (!decide (i=j)))))(ho:o=some (.int i))(hp:p=some (.int j)):Wg2 gNe o p K:=⟨_,_,_,ho,hp,CQ i j,k⟩
theorem Qs(k:K (.val (.bl (decide (i<j)))))(ho:o=some (.int i))(hp:p=some (.int j)):Wg2 gLt o p K:=⟨_,_,_,ho,hp,rfl,k⟩
theorem Q4(k:K (.val (.bl (decide (j<i)))))(ho:o=some (.int i))(hp:p=some (.int j)):Wg2 gGt o p K:=⟨_,_,_,ho,hp,rfl,k⟩
theorem QW(k:K (.val (.bl (decide (j<=i)))))(ho:o=some (.int i))(hp:p=some (.int j)):Wg2 gGe o p K:=⟨_,_,_,ho,hp,rfl,k⟩
theorem PX(k:K (.val (.int (i+j))))(ho:o=some (.int i))(hp:p=some (.int j)):Wg2 bu o p K:=⟨_,_,_,ho,hp,rfl,k⟩
theorem Q0{xs ys:List Dat}(k:K (.new (.lst (xs++ys))))(ho:o=some (.lst xs))(hp:p=some (.lst ys))(h:xs.length+ys.length<=SZ):Wg2 bu o p K:=⟨_,_,_,ho,hp,by unfold bu;dsimp only;rw[if_pos h],k⟩
theorem Qn(k:K (.val (.int (i-j))))(ho:o=some (.int i))(hp:p=some (.int j)):Wg2 jF o p K:=⟨_,_,_,ho,hp,rfl,k⟩
theorem QB(k:K (.val (.int (i*j))))(ho:o=some (.int i))(hp:p=some (.int j))(h:(-B64<i/\i<B64)\/(-B64<j/\j<B64)):Wg2 fD o p K:=⟨_,_,_,ho,hp,by unfold fD;dsimp only;rw[if_pos h],k⟩
theorem Q7(k:K (.val (.int (i / j))))(ho:o=some (.int i))(hp:p=some (.int j))(h:0<j/\j<i7):Wg2 tS o p K:=⟨_,_,_,ho,hp,by unfold tS;dsimp only;rw[if_pos h],k⟩
theorem QM(k:K (.val (.int (i % j))))(ho:o=some (.int i))(hp:p=some (.int j))(h:0<j):Wg2 jI o p K:=⟨_,_,_,ho,hp,by unfold jI;dsimp only;rw[if_pos h],k⟩
theorem Ra{i j z:Int}(k:K (.val (.int z)))(ho:o=some (.int i))(hp:p=some (.int j))(h:0<=j/\j<=1000000/\i.natAbs<1000000)(hz:i ^ j.toNat=z):Wg2 tT o p K:=⟨_,_,_,ho,hp,by unfold tT;dsimp only;rw[if_pos h,hz],k⟩
theorem Pw{d e:Dat}{v:Dat}(k:K (.val v))(ho:o=some d)(hp:p=some e)(h:gIx d e=some (.val v)):Wg2 gIx o p K:=⟨_,_,_,ho,hp,h,k⟩
theorem iQ(Ab:α->Dat)(xs:List α)(i:Int)(h0:0<=i)(h1:i<xs.length):atI (xs.map Ab) i=some (Ab (xs[i.toNat]'(by omega))):=by unfold atI ixN;rw[Mj,if_pos h0,if_pos h1];show (xs.map Ab)[i.toNat]?=_;rw[MS,Mp (by lia)];rfl
theorem QG{Ab:α->Dat}{xs:List α}{i:Int}(h0:0<=i)(h1:i<xs.length)(k:K (.val (Ab (xs[i.toNat]'(by omega)))))(ho:o=some (.lst (xs.map Ab)))(hp:p=some (.int i)):Wg2 gIx o p K:=
 ⟨_,_,_,ho,hp,by unfold gIx;dsimp only;rw[iQ Ab xs i h0 h1];rfl,k⟩
theorem pG(i:Int)(xs:List Int):inD (.int i) (xs.map Dat.int)=decide (i∈xs):=by
 induction xs with
 |nil=>rfl
 |cons x xs ih=>
  have ih':(xs.map Dat.int).any (fun y=>eqD y (.int i))=decide (i∈xs):=ih;unfold inD;rw[gc,Nt,ih'];show ((x == i)||_)=_;by_cases h:x=i
  ·simp[h]
  ·have h':¬i=x:=fun z=>h z.symm;simp[h,h']
theorem uv(xs:List Int):(xs.map Dat.int).all (okD 7)=true:=by rw[M3];intro d hd;obtain⟨x,_,rfl⟩:=Mt.mp hd;rfl
theorem Q8{i:Int}{xs:List Int}(k:K (.val (.bl (decide (i∈xs)))))(ho:o=some (.int i))(hp:p=some (.lst (xs.map Dat.int))):Wg2 gIn o p K:=
 ⟨_,_,_,ho,hp,by unfold gIn;dsimp only;rw[show okD 8 (.int i)=true from rfl,uv,pG];rfl,k⟩
theorem QV{i:Int}{xs:List Int}(k:K (.val (.bl (!decide (i∈xs)))))(ho:o=some (.int i))(hp:p=some (.lst (xs.map Dat.int))):Wg2 b4 o p K:=
 ⟨_,_,_,ho,hp,by unfold b4;dsimp only;rw[show okD 8 (.int i)=true from rfl,uv,pG];rfl,k⟩
theorem Rz{i:Int}{xs:List Int}(k:K (.val (.bl (decide (i∈xs)))))(ho:o=some (.int i))(hp:p=some (.tup (xs.map Dat.int))):Wg2 gIn o p K:=
 ⟨_,_,_,ho,hp,by unfold gIn;dsimp only;rw[show okD 8 (.int i)=true from rfl,uv,pG];rfl,k⟩
theorem Qz{i a b:Int}(k:K (.val (.bl (decide (i=a\/i=b)))))(ho:o=some (.int i))(hp:p=some (.tup [.int a,.int b])):Wg2 gIn o p K:=
 Rz (xs:=[a,b]) (by have:(i∈[a,b])=(i=a\/i=b):=(by simp);simp only[this];exact k) ho hp
theorem Q9{i:Int}(k:K (.val (.bl (bZ ks vs i).isSome)))(ho:o=some (.int i))(hp:p=some (.dct ks vs)):Wg2 zy o p K:=⟨_,_,_,ho,hp,rfl,k⟩
theorem QY{i:Int}(k:K (.val (.bl (!(bZ ks vs i).isSome))))(ho:o=some (.int i))(hp:p=some (.dct ks vs)):Wg2 nE o p K:=⟨_,_,_,ho,hp,rfl,k⟩
theorem QT{i:Int}(h:bZ ks vs i=some d)(k:K (.val d))(ho:o=some (.dct ks vs))(hp:p=some (.int i)):Wg2 gDx o p K:=⟨_,_,_,ho,hp,by unfold gDx;dsimp only;rw[h];rfl,k⟩
theorem QK{o:Option (List Dat)}(k:K (.val (.int (if j<i then j else i))))(ho:o=some [.int i,.int j]):WB nq o K:=⟨_,_,ho,rfl,k⟩
theorem QI{o:Option (List Dat)}(k:K (.val (.int (if j>i then j else i))))(ho:o=some [.int i,.int j]):WB nt o K:=⟨_,_,ho,rfl,k⟩
theorem QA{xs:List Dat}{o:Option (List Dat)}(k:K (.new (.lst xs)))(ho:o=some [.lst xs]):WB ki o K:=⟨_,_,ho,rfl,k⟩
theorem Qv{b:Bool}{o:Option (List Dat)}(k:K (.val (.int (b2i b))))(ho:o=some [.bl b]):WB yR o K:=⟨_,_,ho,rfl,k⟩
theorem QU{o:Option Dat}(k:K v)(ho:o=some d)(h:g d=some v):Wg1 g o K:=⟨_,_,ho,h,k⟩
theorem bQ{xs:List Dat}{Q:List Dat->Prop}(q:Q xs):∃ds,z7 (.lst xs)=some ds/\Q ds:=⟨_,rfl,q⟩
theorem ndT{p:Prop}[Decidable p](h:(!decide p)=true):¬p:=by intro z;rw[decide_eq_true z]at h;cases h
theorem ndF{p:Prop}[Decidable p](h:(!decide p)=false):p:=Decidable.byContradiction fun z=>by rw[decide_eq_false z]at h;cases h
theorem EE(Ab:α->Dat)(xs:List α)(h:∀x,okD 7 (Ab x)=true):okD 8 (.lst (xs.map Ab))=true:=by unfold okD;rw[M3];intro d hd;obtain⟨x,_,rfl⟩:=Mt.mp hd;exact h x
theorem Qj{Ab:α->Dat}{xs:List α}{o:Option (List Dat)}(k:K (.val (.int xs.length)))(ho:o=some [.lst (xs.map Ab)]):WB dG o K:=⟨_,_,ho,by unfold dG;dsimp only;rw[Mj],k⟩
theorem RB{s:FS}{N N':Env->Prop}(h:Ws s ρ N' R B C)(k:∀ρ',N' ρ'->N ρ'):Ws s ρ N R B C:=by
 obtain⟨o,h1,h2⟩:=h;cases o with
 |nx ρ1=>exact⟨.nx ρ1,h1,k _ h2⟩
 |ret r ρ1=>exact⟨.ret r ρ1,h1,h2⟩
 |bk ρ1=>exact⟨.bk ρ1,h1,h2⟩
 |ct ρ1=>exact⟨.ct ρ1,h1,h2⟩
theorem kT{i:Nat}{W:Prop}(h:ρ[i]?=some (.ow d))(w:W):(∃d0,ρ[i]?=some (.ow d0))/\W:=⟨⟨d,h⟩,w⟩
theorem Rr{a b:FE}(h:We a ρ fun v ρ1=>bL v fun i=>We b ρ1 fun x ρ2=>Wk ρ2 x fun d ρ3=>Q (.new (.dct [i] [d])) ρ3):We (eD1 a b) ρ Q:=by obtain⟨v,ρ1,h1,i,rfl,x,ρ2,h2,d,ρ3,h3,q⟩:=h;exact⟨_,_,by unfold eD1;rw[h1];dsimp only;rw[h2];dsimp only;rw[h3],q⟩
theorem bx{ρ ρ1 ρ2:Env}{W:Env->Prop}(h:bd d ρ=some ρ1)(hn:ρ1=ρ2)(w:W ρ2):∃ρ1,bd d ρ=some ρ1/\W ρ1:=⟨ρ1,h,hn▸w⟩
theorem Rm{xs:List Dat}{o:Option (List Dat)}(k:K (.val (.tup xs)))(ho:o=some [.lst xs]):WB i8 o K:=⟨_,_,ho,rfl,k⟩
noncomputable def ltI(a b:Int):Bool:=decide (a<b)
theorem gE(ns:List Int):e7 (ns.map Dat.int)=some ns:=by
 induction ns with
 |nil=>rfl
 |cons m ms ih=>rw[gc,e7,ih];rfl
theorem Q_(k:K (.val (.int (i / 2 ^ j.toNat))))(ho:o=some (.int i))(hp:p=some (.int j))(h:0<=j):Wg2 tU o p K:=⟨_,_,_,ho,hp,by unfold tU;dsimp only;rw[if_pos h],k⟩
theorem Ri{i:Int}(k:K (.val (.int (i % 2))))(ho:o=some (.int i))(hp:p=some (.int 1)):Wg2 xw o p K:=⟨_,_,_,ho,hp,rfl,k⟩
theorem qY(N M:List Int):gNe (.lst (N.map Dat.int)) (.lst (M.map Dat.int))=vB (!decide (N=M)):=by
 have ok:∀ns:List Int,okD 8 (.lst (ns.map Dat.int))=true:=fun ns=>EE Dat.int ns fun _=>rfl;have eq:∀N M:List Int,kh (N.map Dat.int) (M.map Dat.int)=decide (N=M):=fun N=>by
  induction N with
  |nil=>intro M;cases M<;>rfl
  |cons n N ih=>
   intro M;cases M with
   |nil=>rfl
   |cons m M=>rw[gc,gc,kh,ih M];show ((n == m)&&_)=_;rw[OD];simp
 unfold gNe;rw[ok,ok];show vB (!kh _ _)=_;rw[eq]
theorem QL{N M:List Int}(k:K (.val (.bl (!decide (N=M)))))(ho:o=some (.lst (N.map Dat.int)))(hp:p=some (.lst (M.map Dat.int))):Wg2 gNe o p K:=⟨_,_,_,ho,hp,qY N M,k⟩
theorem RJ{i:Nat}(h:We e ρ fun x ρ1=>∃es ds ρ3,pk ρ1 x=some (.lst es)/\ρ1[i]?=some (.ow (.lst ds))/\ρ1.set i (.ow (.lst (ds++es)))=ρ3/\N ρ3/\ds.length+es.length<=SZ)(h0:ρ[i]?=some (.ow (.lst ds0))):Ws (xG i e) ρ N R B C:=by obtain⟨x,ρ1,h1,es,ds,ρ3,h2,h3,h5,n,h4⟩:=h;exact⟨.nx _,by unfold xG;rw[h0];dsimp only;rw[h1];dsimp only;rw[h2];dsimp only;rw[h3];dsimp only;rw[if_pos h4,h5],n⟩
theorem QF{t:FT}{body:FS}{N:Env->Prop}{R:RV->Env->Prop}{B C:Env->Prop}(I:Nat->Env->Prop)
  (hs:∀k ρ,I k ρ->Wt t ρ fun c ρ1=>Wif c (Ws body ρ1 (fun ρ2=>∃k',k'<k/\I k' ρ2) R N (fun ρ2=>∃k',k'<k/\I k' ρ2)) (N ρ1)):∀(n k:Nat) (ρ:Env),k<n->I k ρ->Ws (whD t body n) ρ N R B C
 |0,k,_,h,_=>absurd h (Nat.not_lt_zero k)
 |n+1,k,ρ,h,i=>by
  obtain⟨c,ρ1,h1,h2,h3⟩:=hs k ρ i;cases c with
  |false=>exact⟨.nx _,by rw[whD,h1],h3 rfl⟩
  |true=>
   obtain⟨o,h4,h5⟩:=h2 rfl;cases o with
   |nx ρ2=>obtain⟨k',hk,i'⟩:=h5;obtain⟨o,h6,h7⟩:=QF (N:=N) (R:=R) (B:=B) (C:=C) I hs n k' ρ2 (by lia) i';exact⟨o,by rw[whD,h1];dsimp only;rw[h4];exact h6,h7⟩
   |ct ρ2=>obtain⟨k',hk,i'⟩:=h5;obtain⟨o,h6,h7⟩:=QF (N:=N) (R:=R) (B:=B) (C:=C) I hs n k' ρ2 (by lia) i';exact⟨o,by rw[whD,h1];dsimp only;rw[h4];exact h6,h7⟩
   |bk ρ2=>exact⟨.nx _,by rw[whD,h1];dsimp only;rw[h4],h5⟩
   |ret r ρ2=>exact⟨.ret _ _,by rw[whD,h1];dsimp only;rw[h4],h5⟩
theorem RC(k:K (.val (.bl (Dm.isN d))))(ho:o=some d)(hp:p=some .non):Wg2 zC o p K:=⟨_,_,_,ho,hp,by cases d<;>rfl,k⟩
theorem Qx(J:Env->Prop)(h1:Ws s ρ J R B C)(h2:∀ρ',J ρ'->Ws u ρ' N R B C):Ws (aA s u) ρ N R B C:=Pr (RB h1 h2)
def WrM(o:Option (RV×Dat))(P:RV->Dat->Prop):Prop:=∃z d,o=some (z,d)/\P z d
theorem Q2{r:List Dat}{P:RV->Dat->Prop}(b:Ws body ρ (fun ρ'=>∃d',ρ'[0]?=some (.ow d')/\P (.val .non) d') (fun z ρ'=>∃d',ρ'[0]?=some (.ow d')/\P z d') (fun _=>False) (fun _=>False))(hρ:Cell.ow d::(r.map Cell.sh++Mk m .un)=ρ)(h:(d::r).length=n):WrM (fnM n m body (d::r)) P:=by
 obtain⟨o,h1,h2⟩:=b;cases o with
 |nx ρ1=>obtain⟨d',h3,h4⟩:=h2;exact⟨_,_,by unfold fnM;rw[if_pos h];dsimp only;rw[hρ,h1];dsimp only;rw[h3],h4⟩
 |ret z ρ1=>obtain⟨d',h3,h4⟩:=h2;exact⟨_,_,by unfold fnM;rw[if_pos h];dsimp only;rw[hρ,h1];dsimp only;rw[h3],h4⟩
 |bk ρ1=>exact h2.elim
 |ct ρ1=>exact h2.elim
def WFm(f:List Dat->Option (RV×Dat))(j:Nat)(ρ1:Env)(xs:List Val)(Q:Val->Env->Prop):Prop:=
 ∃d1 ds ρ2 d v d',ρ1[j]?=some (.ow d1)/\tks ρ1 xs=some (ds,ρ2)/\ρ2[j]?=some (.ow d)/\f (d::ds)=some (v,d')/\(if (flat v.dat&&tZ d')=true then Q v.bA (ρ1.set j (.ow d')) else Q v.bA (ρ2.set j (.ow d')))
theorem Rg{f:List Dat->Option (RV×Dat)}{j:Nat}{d0:Dat}(h:Was as ρ fun xs ρ1=>WFm f j ρ1 xs Q)(h0:ρ[j]?=some (.ow d0)):We (eFm f j as) ρ Q:=by
 obtain⟨xs,ρ1,h1,d1,ds,ρ2,d,v,d',h2,h3,h4,h5,q⟩:=h;by_cases c:(flat v.dat&&tZ d')=true
 ·rw[if_pos c]at q;exact⟨_,_,by unfold eFm;rw[h0];dsimp only;rw[h1];dsimp only;rw[h2];dsimp only;rw[h3];dsimp only;rw[h4];dsimp only;rw[h5];dsimp only;rw[if_pos c],q⟩
 ·rw[if_neg c]at q;exact⟨_,_,by unfold eFm;rw[h0];dsimp only;rw[h1];dsimp only;rw[h2];dsimp only;rw[h3];dsimp only;rw[h4];dsimp only;rw[h5];dsimp only;rw[if_neg c],q⟩
theorem Ql{f:List Dat->Option (RV×Dat)}{j:Nat}{ρ1 ρ3:Env}{d d':Dat}(h5:f (d::ds)=some (v,d'))(q:Q v.bA ρ3)(h2:ρ1[j]?=some (.ow d))(h3:tks ρ1 xs=some (ds,ρ1))(hn:ρ1.set j (.ow d')=ρ3):WFm f j ρ1 xs Q:=
 ⟨_,_,_,_,_,_,h2,h3,h2,h5,by rw[hn];split<;>exact q⟩
theorem RK(h:Was as ρ fun xs ρ1=>∃ds ρ2 v,t9 ρ1 xs=some (ds,ρ2)/\f ds=some v/\aN v.dat=true/\Q v.bA ρ2):We (eFd f as) ρ Q:=by obtain⟨xs,ρ1,h1,ds,ρ2,v,h2,h3,h4,q⟩:=h;exact⟨_,_,by unfold eFd;rw[h1];dsimp only;rw[h2];dsimp only;rw[h3];dsimp only;rw[if_pos h4],q⟩
theorem gf:∀(xs:List Dat),(∀x∈xs,aN x=true)->di xs=true
 |[],_=>by unfold di;rfl
 |x::xs,h=>by unfold di;rw[h x Ds,gf xs fun y hy=>h y (Dk _ hy)];rfl
theorem gg(Ab:α->Dat)(xs:List α)(h:∀x,aN (Ab x)=true):aN (.lst (xs.map Ab))=true:=by unfold aN;exact gf _ fun d hd=>by obtain⟨x,_,rfl⟩:=Mt.mp hd;exact h x
theorem jj(i:Int):aN (.int i)=true:=by unfold aN;rfl
theorem Qc{ρ ρ1:Env}(h:Wi it ρ fun x y=>x=ds/\y=ρ1):it ρ=some (ds,ρ1):=by obtain⟨_,_,h1,rfl,rfl⟩:=h;exact h1
theorem Rf{a i:Nat}(h:ρ[i]?=some (.sh (.fn a)))(k:We (eF f as) ρ Q):We (eFp a i f as) ρ Q:=by obtain⟨v,ρ',e,q⟩:=k;exact⟨v,ρ',by unfold eFp;rw[h];dsimp only;rw[if_pos rfl];exact e,q⟩
end
end Dm
namespace Fl
structure Tie where
 m:Int
 a:Int
 b:Int
deriving Inhabited
noncomputable def one(b:Bool):Int:=if b then 1 else 0
def Ends(t:Tie)(p q:Int):Prop:=t.a≠t.b/\((t.a=p/\t.b=q)\/(t.b=p/\t.a=q))
theorem Ends.ne{t:Tie}{p q:Int}(h:Ends t p q):p≠q:=by
 obtain⟨h1,h2⟩:=h
 lia
theorem Ends.symm{t:Tie}{p q:Int}(h:Ends t p q):Ends t q p:=⟨h.1,h.2.symm.imp (fun x=>⟨x.2,x.1⟩) (fun x=>⟨x.2,x.1⟩)⟩
noncomputable abbrev Hd:=Int->Option Int
noncomputable def put(H:Hd)(m:Int)(o:Option Int):Hd:=fun x=>if x=m then o else H x
noncomputable def fS(H:Hd)(m q:Int):Hd:=put H m (if (H m).isSome then none else some q)
noncomputable abbrev Step:=Int×Int
def Way(R:Int->Step->Prop):Int->List Step->Int->Prop
 |x,[],y=>x=y
 |x,s::w,y=>R x s/\Way R s.2 w y
theorem Way.snoc{R:Int->Step->Prop}:∀{w:List Step} {x y:Int} {s:Step},Way R x w y->R y s->Way R x (w++[s]) s.2
 |[],_,_,_,h,k=>by cases h;exact⟨k,rfl⟩
 |_::_,_,_,_,h,k=>⟨h.1,Way.snoc h.2 k⟩
theorem Way.mono{R R':Int->Step->Prop}(h:∀p s,R p s->R' p s):∀{w:List Step} {x y:Int},Way R x w y->Way R' x w y
 |[],_,_,k=>k
 |_::_,_,_,k=>⟨h _ _ k.1,Way.mono h k.2⟩
noncomputable def jy(H:Hd):List Step->Hd
 |[]=>H
 |s::w=>jy (fS H s.1 s.2) w
theorem qZ{H:Hd}{m q x:Int}(h:x≠m):fS H m q x=H x:=by unfold fS put;rw[if_neg h]
noncomputable def dQ(H:Hd):List Step->Hd
 |[]=>H
 |s::w=>dQ (put H s.1 none) w
theorem fT:∀{w:List Step} {H:Hd} {x:Int},(∀u∈w,u.1≠x)->dQ H w x=H x
 |[],_,_,_=>rfl
 |s::w,H,x,h=>by rw[dQ,fT fun u hu=>h u (Dk _ hu)];unfold put;rw[if_neg fun e=>h s Ds e.symm]
theorem gF:∀{w:List Step} {H:Hd} {x:Int},x∈w.map (·.1)->dQ H w x=none
 |[],_,_,h=>by cases h
 |s::w,H,x,h=>by
  rw[dQ];by_cases e:x∈w.map (·.1)
  ·exact gF e
  ·rw[fT fun u hu z=>e (Mt.mpr ⟨u,hu,z⟩)];rw[gc]at h;rcases Ms.mp h with rfl | h
   ·unfold put;rw[if_pos rfl]
   ·exact absurd h e
end Fl
namespace Fd
open Fl
section
variable{r:List Int}{S:Int->Bool}{s:Step}{w:List Step}{R:Int->Step->Prop}{a b:Int}{p:Int}{k:Nat}
noncomputable def src(c:Int):Int:=c / 20
noncomputable def dst(c:Int):Int:=c % 20
noncomputable def vd(o:Option Int)(c:Int)(S:Int->Bool):Int:=if o.isSome then one (S (src c))-one (S (dst c)) else 0
noncomputable def bH(r:List Int)(H:Hd)(S:Int->Bool):Int:=match r with
 |[]=>0
 |c::r=>vd (H c) c S+bH r H S
theorem xP{H H':Hd}(h:∀c∈r,H c=H' c):bH r H S=bH r H' S:=by
 induction r with
 |nil=>rfl
 |cons c r ih=>rw[bH,bH,h c Ds,ih fun u hu=>h u (Dk _ hu)]
theorem fU(nd:r.Nodup){c:Int}(hc:c∈r)(H:Hd)(o:Option Int)(S:Int->Bool):bH r (put H c o) S=bH r H S-vd (H c) c S+vd o c S:=by
 induction r with
 |nil=>cases hc
 |cons d r ih=>
  rw[MB]at nd;rcases Ms.mp hc with rfl | h
  ·rw[bH,bH,xP (H:=put H c o) (H':=H) fun u hu=>by unfold put;rw[if_neg (fun e:u=c=>nd.1 (e▸hu))]];have:put H c o c=o:=by unfold put;rw[if_pos rfl]
   rw[this]
   lia
  ·rw[bH,bH,ih nd.2 h];have:put H c o d=H d:=by unfold put;rw[if_neg (fun e:d=c=>nd.1 (e▸h))]
   rw[this]
   lia
def nR(r:List Int)(p:Int)(s:Step):Prop:=s.1∈r/\((src s.1=p/\dst s.1=s.2)\/(dst s.1=p/\src s.1=s.2))
def dR(r:List Int)(H:Hd)(p:Int)(s:Step):Prop:=s.1∈r/\((H s.1=none/\src s.1=p/\dst s.1=s.2)\/((H s.1).isSome=true/\dst s.1=p/\src s.1=s.2))
def Led(r:List Int)(H:Hd)(p:Int)(s:Step):Prop:=s.1∈r/\H s.1=some s.2/\src s.1=p/\dst s.1=s.2
def Ok(r:List Int)(H:Hd):Prop:=∀c∈r,∀x,H c=some x->x=dst c
theorem dR.along{H:Hd}(h:dR r H p s):nR r p s:=⟨h.1,h.2.imp (fun x=>x.2) fun x=>x.2⟩
theorem Led.along{H:Hd}(h:Led r H p s):nR r p s:=⟨h.1,.inl h.2.2⟩
theorem jk(hR:∀p s,R p s->nR r p s){x y:Int}(h:Way R x (s::w) y)(hn:(x::(s::w).map (·.2)).Nodup):∀u∈w,u.1≠s.1:=by
 obtain⟨h1,h2⟩:=h;obtain⟨_,he⟩:=hR _ _ h1;have main:∀(w:List Step) (z:Int),Way R z w y->(∀u∈w,u.2≠x/\u.2≠s.2)->∀u∈w,u.1≠s.1:=fun w=>by
  induction w with
  |nil=>intro z _ _ u hu;cases hu
  |cons v w ih=>
   intro z hw hd u hu;rcases Ms.mp hu with rfl | hu
   ·intro e;obtain⟨_,he'⟩:=hR _ _ hw.1;obtain⟨d1,d2⟩:=hd u Ds;rw[e]at he'
    lia
   ·exact ih v.2 hw.2 (fun u hu=>hd u (Dk _ hu)) u hu
 rw[gc,MB,MB]at hn;refine main w s.2 h2 fun u hu=>⟨fun e=>hn.1 ?_,fun e=>hn.2.1 ?_⟩
 ·exact Dk _ (Mt.mpr ⟨u,hu,e⟩)
 ·exact Mt.mpr ⟨u,hu,e⟩
theorem gG(hR:∀p s,R p s->nR r p s){y:Int}:∀{w:List Step} {x:Int},Way R x w y->(x::w.map (·.2)).Nodup->(w.map (·.1)).Nodup
 |[],_,_,_=>by simp
 |s::w,x,h,hn=>by rw[gc,MB];refine⟨fun e=>?_,gG hR h.2 (by rw[gc,MB]at hn;exact hn.2)⟩;obtain⟨u,hu,e⟩:=Mt.mp e;exact jk hR h hn u hu e
theorem uw(nd:r.Nodup){H:Hd}(h:dR r H p s)(S:Int->Bool):bH r (fS H s.1 s.2) S=bH r H S+one (S p)-one (S s.2):=by
 obtain⟨hm,h⟩:=h;unfold fS;rw[fU nd hm];rcases h with⟨e,rfl,e2⟩ | ⟨e,rfl,e2⟩
 ·rw[e,<- e2];simp[vd]
  lia
 ·rw[if_pos e,<- e2];simp[vd,e]
  lia
theorem z8{H:Hd}(ok:Ok r H)(h:dR r H p s):Ok r (fS H s.1 s.2):=fun c hc x hx=>by
 unfold fS put at hx;by_cases e:c=s.1
 ·rw[if_pos e]at hx;obtain⟨hm,h⟩:=h;rcases h with⟨e1,_,e2⟩ | ⟨e1,_,e2⟩
  ·rw[e1]at hx;simp at hx;rw[e,e2,hx]
  ·rw[if_pos e1]at hx;cases hx
 ·rw[if_neg e]at hx;exact ok c hc x hx
theorem gH(nd:r.Nodup)(S:Int->Bool):∀{w:List Step} {x y:Int} {H:Hd},Ok r H->Way (dR r H) x w y->(x::w.map (·.2)).Nodup ->
  Ok r (jy H w)/\bH r (jy H w) S=bH r H S+one (S x)-one (S y)
 |[],x,y,H,ok,h,_=>by cases h;exact⟨ok,by rw[jy];lia⟩
 |s::w,x,y,H,ok,h,hn=>by
  have hfr:=jk (fun p s h=>h.along) h hn;obtain⟨hf,h2⟩:=h;have ok1:=z8 ok hf;have f1:=uw nd hf S;have h3:Way (dR r (fS H s.1 s.2)) s.2 w y:=by
   have main:∀(w:List Step) (z:Int),(∀u∈w,u.1≠s.1)->Way (dR r H) z w y->Way (dR r (fS H s.1 s.2)) z w y:=fun w=>by
    induction w with
    |nil=>intro _ _ h;exact h
    |cons u w ih=>intro z hu hw;exact⟨⟨hw.1.1,by rw[qZ (hu u Ds)];exact hw.1.2⟩,ih u.2 (fun v hv=>hu v (Dk _ hv)) hw.2⟩
   exact main w s.2 hfr h2
  obtain⟨k1,k2⟩:=gH nd S ok1 h3 (by rw[gc,MB]at hn;exact hn.2);rw[jy];exact⟨k1,by rw[k2,f1];lia⟩
theorem gI(nd:r.Nodup)(S:Int->Bool):∀{w:List Step} {x y:Int} {H:Hd},Ok r H->Way (Led r H) x w y->(x::w.map (·.2)).Nodup ->
  Ok r (dQ H w)/\bH r (dQ H w) S=bH r H S-one (S x)+one (S y)
 |[],x,y,H,ok,h,_=>by cases h;exact⟨ok,by rw[dQ];lia⟩
 |s::w,x,y,H,ok,h,hn=>by
  have hfr:=jk (fun p s h=>h.along) h hn;obtain⟨⟨hm,hf,e1,e2⟩,h2⟩:=h;have ok1:Ok r (put H s.1 none):=fun u hu z hz=>by
   unfold put at hz;split at hz
   ·cases hz
   ·exact ok u hu z hz
  have f1:=fU nd hm H none S;rw[hf]at f1;simp only[vd,Option.isSome_none,Option.isSome_some,M4,if_false,if_true,e1,e2]at f1;have h3:Way (Led r (put H s.1 none)) s.2 w y:=by
   have main:∀(w:List Step) (z:Int),(∀u∈w,u.1≠s.1)->Way (Led r H) z w y->Way (Led r (put H s.1 none)) z w y:=fun w=>by
    induction w with
    |nil=>intro _ _ h;exact h
    |cons u w ih=>intro z hu hw;exact⟨⟨hw.1.1,by unfold put;rw[if_neg (hu u Ds)];exact hw.1.2⟩,ih u.2 (fun v hv=>hu v (Dk _ hv)) hw.2⟩
   exact main w s.2 hfr h2
  obtain⟨k1,k2⟩:=gI nd S ok1 h3 (by rw[gc,MB]at hn;exact hn.2);rw[dQ];exact⟨k1,by rw[k2,f1];lia⟩
theorem z_{H:Hd}(ok:Ok r H)(hc:∀p s,S p=true->Led r H p s->S s.2=true):bH r H S<=0:=by
 have main:∀(q:List Int),(∀t∈q,t∈r)->bH q H S<=0:=fun q=>by
  induction q with
  |nil=>intro _;exact OM _
  |cons c q ih=>
   intro hq;rw[bH];have h1:=ih fun u hu=>hq u (Dk _ hu);have hv:vd (H c) c S<=0:=by
    unfold vd;cases e:H c with
    |none=>exact OM _
    |some x=>
     have hx:=ok c (hq c Ds) x e;rw[if_pos (show (some x).isSome=true from rfl)];cases hp:S (src c) with
     |false=>cases S (dst c)<;>decide
     |true=>have:=hc (src c) (c,x) hp ⟨hq c Ds,e,rfl,hx.symm⟩;rw[hx]at this;rw[this];decide
   lia
 exact main r fun _ h=>h
noncomputable def out(S:Int->Bool)(c:Int):Bool:=S (src c)&&!S (dst c)
theorem Aa{H:Hd}(hc:∀p s,S p=true->dR r H p s->S s.2=true):bH r H S=((r.filter (out S)).length:Nat):=by
 have main:∀(q:List Int),(∀t∈q,t∈r)->bH q H S=((q.filter (out S)).length:Nat):=fun q=>by
  induction q with
  |nil=>intro _;rfl
  |cons c q ih=>
   intro hq;rw[bH,ih fun u hu=>hq u (Dk _ hu)];have hm:=hq c Ds;cases h1:S (src c) with
   |true=>
    cases h2:S (dst c) with
    |true=>
     rw[MQ (by simp[out,h1,h2])];have:vd (H c) c S=0:=by unfold vd;rw[h1,h2];split<;>lia
     lia
    |false=>
     rw[MV (by simp[out,h1,h2]),M0];have:(H c).isSome=true:=by
      cases e:H c with
      |some x=>rfl
      |none=>have:=hc (src c) (c,dst c) h1 ⟨hm,.inl ⟨e,rfl,rfl⟩⟩;rw[h2]at this;cases this
     have:vd (H c) c S=1:=by unfold vd;rw[if_pos this,h1,h2];rfl
     lia
   |false=>
    rw[MQ (by simp[out,h1])];cases h2:S (dst c) with
    |true=>
     have:H c=none:=by
      cases e:H c with
      |none=>rfl
      |some x=>have:=hc (dst c) (c,src c) h2 ⟨hm,.inr ⟨by rw[e];rfl,rfl,rfl⟩⟩;rw[h1]at this;cases this
     have:vd (H c) c S=0:=by unfold vd;rw[this];rfl
     lia
    |false=>
     have:vd (H c) c S=0:=by unfold vd;rw[h1,h2];split<;>lia
     lia
 exact main r fun _ h=>h
structure Flow(r:List Int)(H:Hd)(a b:Int)(k:Nat):Prop where
 ok:Ok r H
 eq:∀S,bH r H S=(k:Int)*(one (S a)-one (S b))
theorem Flow.zero(r:List Int)(a b:Int):Flow r (fun _=>none) a b 0:=⟨fun _ _ _ h=>(by cases h),fun S=>by
 induction r with
 |nil=>simp[bH]
 |cons t r ih=>rw[bH,ih];simp[vd]⟩
theorem Flow.more(nd:r.Nodup){H:Hd}(f:Flow r H a b k)(h:Way (dR r H) a w b)(hn:(a::w.map (·.2)).Nodup):Flow r (jy H w) a b (k+1):=
 ⟨(gH nd (fun _=>true) f.ok h hn).1,fun S=>by
  rw[(gH nd S f.ok h hn).2,f.eq S];have:((k+1:Nat):Int)=(k:Int)+1:=by lia
  rw[this,Int.add_mul]
  lia⟩
theorem Flow.less(nd:r.Nodup){H:Hd}(f:Flow r H a b (k+1))(h:Way (Led r H) a w b)(hn:(a::w.map (·.2)).Nodup):Flow r (dQ H w) a b k:=
 ⟨(gI nd (fun _=>true) f.ok h hn).1,fun S=>by
  rw[(gI nd S f.ok h hn).2,f.eq S];have:((k+1:Nat):Int)=(k:Int)+1:=by lia
  rw[this,Int.add_mul]
  lia⟩
theorem Flow.cut{H:Hd}(f:Flow r H a b k)(ha:S a=true)(hb:S b=false)(hc:∀p s,S p=true->dR r H p s->S s.2=true):(r.filter (out S)).length=k:=by
 have h1:=Aa hc;rw[f.eq S,ha,hb]at h1;simp[one]at h1
 lia
theorem Flow.reach{H:Hd}(f:Flow r H a b (k+1))(ha:S a=true)(hc:∀p s,S p=true->Led r H p s->S s.2=true):S b=true:=by
 cases hb:S b with
 |true=>rfl
 |false=>
  have h1:=z_ f.ok hc;rw[f.eq S,ha,hb]at h1;simp[one]at h1
  lia
end
end Fd
namespace Dm
section
variable{ks:List (Int×Int)}{vs:List Dat}{Q:Val->Env->Prop}{o:Option (List Dat)}{K:RV->Prop}{ρ:Env}{d:Dat}{N:Env->Prop}{p:Int×Int}{i:Nat}
theorem Rk(q:Q (.new (.dcp [] [])) ρ):We zN ρ Q:=⟨_,_,rfl,q⟩
theorem Rh{j e:FE}{R:RV->Env->Prop}{B C:Env->Prop}(h:We e ρ fun x ρ1=>Wk ρ1 x fun d ρ2=>(∃d0,ρ2[i]?=some (.ow d0))/\We j ρ2 fun y ρ3=>∃p q ks vs ρ4,y=.val (.tup [.int p,.int q])/\ρ3[i]?=some (.ow (.dcp ks vs))/\ρ3.set i (.ow (.dcp (cu ks (p,q)) (dj ks vs (p,q) d)))=ρ4/\N ρ4/\ks.length<SZ):Ws (fN i j e) ρ N R B C:=by obtain⟨x,ρ1,h1,d,ρ2,h2,⟨d0,h0⟩,y,ρ3,h3,p,q,ks,vs,ρ4,rfl,h4,h5,n,h6⟩:=h;exact⟨.nx _,by unfold fN;rw[h1];dsimp only;rw[h2];dsimp only;rw[h0];dsimp only;rw[h3];dsimp only;rw[h4];dsimp only;rw[if_pos h6,h5],n⟩
theorem kU{p q:Int}{ρ3 ρ4:Env}{y:Val}(n:N ρ4)(hy:y=.val (.tup [.int p,.int q]))(h:ρ3[i]?=some (.ow (.dcp ks vs)))(hs:ρ3.set i (.ow (.dcp (cu ks (p,q)) (dj ks vs (p,q) d)))=ρ4)(hl:ks.length<SZ) :
  ∃p q ks vs ρ4,y=.val (.tup [.int p,.int q])/\ρ3[i]?=some (.ow (.dcp ks vs))/\ρ3.set i (.ow (.dcp (cu ks (p,q)) (dj ks vs (p,q) d)))=ρ4/\N ρ4/\ks.length<SZ:=⟨_,_,_,_,_,hy,h,hs,n,hl⟩
theorem RD{i j:Int}{o p:Option Dat}(h:cW ks vs (i,j)=some d)(k:K (.val d))(ho:o=some (.dcp ks vs))(hp:p=some (.tup [.int i,.int j])):Wg2 qN o p K:=⟨_,_,_,ho,hp,by unfold qN;dsimp only;rw[h];rfl,k⟩
theorem RO(k:K (.new (.lst (ks.map pairD))))(ho:o=some [.dcp ks vs])(hl:ks.length<=SZ):WB dm o K:=⟨_,_,ho,by unfold dm;dsimp only;rw[if_pos hl],k⟩
theorem CS(h:p∉ks):kO ks p=false:=by unfold kO;rw[List.any_eq_false];intro k hk e;exact h ((of_decide_eq_true e)▸hk)
theorem q_(h:p∉ks):cu ks p=ks++[p]/\dj ks vs p d=vs++[d]:=by unfold cu dj;rw[CS h];exact⟨rfl,rfl⟩
theorem RP{a b:FE}(h:We a ρ fun x ρ1=>(∃ks vs,pk ρ1 x=some (.dcp ks vs))/\We b ρ1 fun y ρ2=>∃ks vs i j,pk ρ2 x=some (.dcp ks vs)/\pk ρ2 y=some (.tup [.int i,.int j])/\Q (.val ((cW ks vs (i,j)).getD .non)) ρ2):We (je a b) ρ Q:=by obtain⟨x,ρ1,h1,⟨ks,vs,h2⟩,y,ρ2,h3,ks',vs',i,j,h4,h5,q⟩:=h;exact⟨_,_,by unfold je;rw[h1];dsimp only;rw[h2];dsimp only;rw[h3];dsimp only;rw[h4];dsimp only;rw[h5],q⟩
theorem Ro{e:FE}{ρ ρ2:Env}{p q:Int}(hl:cW ks vs (p,q)=some d)(k:Q (.val d) ρ2)(h:ρ[i]?=some (.ow (.dcp ks vs)))(he:e ρ=some (.val (.tup [.int p,.int q]),ρ))(hs:ρ.set i (.ow (.dcp (cJ ks vs (p,q)) (cX ks vs (p,q))))=ρ2):We (gD i e) ρ Q:=⟨_,_,by unfold gD;rw[h];dsimp only;rw[he];dsimp only;rw[h];dsimp only;rw[hl];dsimp only;rw[hs],k⟩
theorem RQ(k:K (.new (.dcp ks vs)))(ho:o=some [.dcp ks vs])(h:fP ks=true):WB jf o K:=⟨_,_,ho,by unfold jf;dsimp only;rw[if_pos h],k⟩
theorem QZ{i j:Int}{o p:Option Dat}(k:K (.val (.bl (cW ks vs (i,j)).isSome)))(ho:o=some (.tup [.int i,.int j]))(hp:p=some (.dcp ks vs)):Wg2 gp o p K:=⟨_,_,_,ho,hp,rfl,k⟩
theorem Qw{f:List Dat->Option RV}{as:List FE}(h:Was as ρ fun xs ρ1=>∃ds ρ2 v,uf ρ1 xs=some (ds,ρ2)/\f ds=some v/\aN v.dat=true/\Q v.bA ρ2):We (jh f as) ρ Q:=by obtain⟨xs,ρ1,h1,ds,ρ2,v,h2,h3,h4,q⟩:=h;exact⟨_,_,by unfold jh;rw[h1];dsimp only;rw[h2];dsimp only;rw[h3];dsimp only;rw[if_pos h4],q⟩
theorem Rp{ns:List Int}(k:K (.new (.lst ((dM ltI ns).map Dat.int))))(ho:o=some [.lst (ns.map Dat.int)])(h:ns.length<=63):WB fR o K:=⟨_,_,ho,by unfold fR;dsimp only;rw[gE];dsimp only;rw[if_pos h];rfl,k⟩
end
end Dm
namespace P
open Dm
noncomputable def Ac:List Dat->Option RV:=fn 2 0
  (sR (aL 0 1 (bN 2) bS (aL 2 1 (bN 3) (tV (e2 gEq (je (eV 1) (e2 gIx (eV 3) (eC (.int 0)))) (e2 gIx (eV 3) (eC (.int 1))))) (eV 3))))
noncomputable def EH:FS:=
  (sIf (tV (e2 nE (e2 gIx (eV 5) (eC (.int 1))) (eV 2))) (aA (nF 2 (e2 gIx (eV 5) (eC (.int 1))) (e2 bu (e2 gDx (eV 2) (eV 4)) (dg [(eV 5)])))
  (mR 3 (e2 gIx (eV 5) (eC (.int 1))))) sNx)
noncomputable def EI:FS:=
  (aA (sA 4 (jb 3 (eC (.int 0))))
  (cU (iS (e2 gIx (eV 0) (eV 4))) (bN 5)
  EH))
noncomputable def kW:List Dat->Option RV:=fn 2 4
  (aA (sA 2 (eD1 (eV 1) (dg [])))
  (aA (sA 3 (dg [(eV 1)]))
  (aA (whD (tTr (eV 3))
  EI 100)
  (sR (eV 2)))))
noncomputable def EJ:FS:=
  (sIf (tV (e2 gp (eV 2) (eV 0))) (sE (gD 0 (eV 2))) (fN 0 (eV 2) (eV 3)))
noncomputable def Ad:List Dat->Option (RV×Dat):=fnM 2 2
  (cU (iS (eV 1)) (bT [2,3])
  EJ)
noncomputable def EK:FS:=
  (sE (gD 5 (eV 9)))
noncomputable def EL:FS:=
  (aA (sA 8 (bD (iS (e2 gDx (eF kW [(jh Ac [(eV 0),(eV 5)]),(eV 2)]) (eV 3))) 1 (bN 10) bS (e2 gIx (eV 10) (eC (.int 0)))))
  (aA (cU (iS (eV 8)) (bN 9)
  EK)
  (mR 6 (eV 8))))
noncomputable def xQ:List Dat->Option RV:=fn 5 5
  (aA (sA 5 (eB jf [(eV 1)]))
  (aA (sA 6 (dg []))
  (aA (cU (iR1 (eV 4)) (bN 7)
  EL)
  (sR (eV 6)))))
noncomputable def CT:List Dat->Option RV:=fn 1 0
  (sR (jH (e1 (yQ isI) (eV 0)) (xr (e1 (yQ isB) (eV 0)))))
noncomputable def Ae:List Dat->Option RV:=fn 3 0
  (sR (jH (eF CT [(eV 0)]) (kj gLe gLe (eV 1) (eV 0) (eV 2))))
noncomputable def Af:List Dat->Option RV:=fn 2 0
  (sR (eF Ae [(eV 1),(eC (.int 0)),(e2 jF (eV 0) (eC (.int 1)))]))
noncomputable def CU:List Dat->Option RV:=fn 1 0
  (sR (eF Ae [(eV 0),(eC (.int 1)),(eC (.int 6))]))
noncomputable def CV:List Dat->Option RV:=fn 3 0
  (sR (jH (eF Af [(eV 0),(eV 1)]) (jH (eF Af [(eV 0),(eV 2)]) (e2 gNe (eV 1) (eV 2)))))
noncomputable def CW:List Dat->Option RV:=fn 1 0
  (sIf (jZ (tV (eF CU [(eV 0)]))) (fun _=>none) sNx)
noncomputable def vX:List Dat->Option RV:=fn 3 0
  (sIf (jZ (tV (eF CV [(eV 0),(eV 1),(eV 2)]))) (fun _=>none) sNx)
noncomputable def Ag:FS:=
  (sIf (tV (e2 gNe (eV 4) (eV 5))) (aA (fN 2 (cN [(e2 bu (eV 0) (eV 4)),(eV 5)]) (eV 3))
  (fN 2 (cN [(e2 bu (eV 0) (eV 5)),(eV 4)]) (eV 3))) sNx)
noncomputable def vY:List Dat->Option RV:=fn 2 4
  (aA (sA 2 zN)
  (aA (cU (iS (eV 1)) (bT [3,4,5])
  Ag)
  (sR (eV 2))))
noncomputable def eE:FN:=
  (o6 (e2 gIx (eV 4) (eC (.int 0))) (cN [(eV 4),(e2 gIx (eV 4) (eC (.int 1)))]))
noncomputable def vZ:List Dat->Option RV:=fn 2 3
  (aA (e8 2 (iR1 (e2 fD (eC (.int 2)) (eV 0))) 1 (bN 5) (qH (nA 2 3 (bD (iR1 (eV 0)) 1 (bN 5) bS (cN [(eV 5),(e2 bu (eV 0) (eV 5))])))
  (iN (iS (e2 bu (eB dm [(eV 1)]) (eV 3))) (bN 4)
  eE)))
  (sR (eV 2)))
noncomputable def gJ:FN:=
  (nIf (tV (e2 gp (eV 5) (eV 1))) (o6 (eV 6) (cN [(eV 5),(eV 3)])) (o6 (eV 3) (cN [(eV 5),(eV 6)])))
noncomputable def dw:FN:=
  (iN (iS (eV 4)) (bT [5,6])
  gJ)
noncomputable def nS:List Dat->Option RV:=fn 2 5
  (aA (e8 2 (iS (eV 0)) 1 (bN 7) (iN (iEn (eV 0)) (bT [3,4])
  dw))
  (sR (eV 2)))
noncomputable def rm:List Dat->Option RV:=fn 3 0
  (sR (e2 gIx (aL 1 1 (bN 3) (ff (tV (e2 gLt (e2 gIx (eV 3) (eC (.int 0))) (eV 0))) (tV (e2 nE (e2 gIx (eV 3) (eC (.int 1))) (eV 2)))) (e2 gIx (eV 3) (eC (.int 0)))) (eC (.int 0))))
noncomputable def Ah:FS:=
  (aA (sE (eFm Ad 7 [(e2 gDx (eV 8) (eV 3))]))
  (aA (sA 9 (e2 bu (eV 9) (eC (.int 1))))
  (sA 8 (eF kW [(jh nS [(eV 6),(eV 7)]),(e2 bu (eV 0) (eV 2))]))))
noncomputable def rq:List Dat->Option RV:=fn 5 7
  (aA (sA 5 (eF vY [(eV 0),(eV 1)]))
  (aA (sA 6 (jh vZ [(eV 0),(eV 5)]))
  (aA (sA 7 zN)
  (aA (sA 8 (eF kW [(jh nS [(eV 6),(eV 7)]),(e2 bu (eV 0) (eV 2))]))
  (aA (sA 9 (eC (.int 0)))
  (aA (whD (ff (tV (e2 gLt (eV 9) (eV 4))) (tV (e2 zy (eV 3) (eV 8))))
  Ah 100)
  (aA (sA 10 (jh xQ [(eV 6),(eV 7),(e2 bu (eV 0) (eV 2)),(eV 3),(eV 9)]))
  (aA (sA 11 (aL 10 1 (bN 12) bS (aL 12 1 (bN 13) (tV (e2 gp (eV 13) (eV 5))) (e2 qN (eV 5) (eV 13)))))
  (aA (sIf (tV (e2 gEq (eV 9) (eV 4))) (sR (cN [(eV 11),(eC .non)])) sNx)
  (sR (cN [(eV 11),(eB i8 [(eB fR [(aL 10 1 (bN 12) bS (eFd rm [(eV 0),(eV 12),(eV 8)]))])])])))))))))))
noncomputable def rA:List Dat->Option RV:=fn 5 4
  (aA (sE (eF vX [(eV 0),(eV 2),(eV 3)]))
  (aA (sA 5 (aL 1 1 (bN 9) (ff (tV (e2 gIn (eV 2) (qG (eV 9) (some (eC (.int 1))) none))) (tV (e2 gIn (eV 3) (qG (eV 9) (some (eC (.int 1))) none)))) (eV 9)))
  (aA (sA 6 (aL 1 1 (bN 9) (tV (e2 b4 (eV 9) (eV 5))) (eV 9)))
  (aA (sA 7 (bD (iS (eSl (eV 5) none (some (eV 4)))) 1 (bN 9) bS (dg [(e2 gIx (eV 9) (eC (.int 0)))])))
  (aA (sA 8 (eF rq [(eV 0),(eV 6),(eV 2),(eV 3),(e2 jF (eV 4) (eB dG [(eV 7)]))]))
  (aA (xG 7 (e2 gIx (eV 8) (eC (.int 0))))
  (sR (cN [(eB dG [(eV 7)]),(eV 7),(e2 gIx (eV 8) (eC (.int 1)))]))))))))
noncomputable def v5:List Dat->Option RV:=fn 5 0
  (sR (e2 zC (e2 gIx (eF rA [(eV 0),(eV 1),(eV 2),(eV 3),(eV 4)]) (eC (.int 2))) (eC .non)))
noncomputable def nT:List Dat->Option RV:=fn 2 0
  (sR (aL 0 1 (bN 2) (tV (e2 gNe (eV 2) (eV 1))) (eV 2)))
noncomputable def ux(aT aU:Nat):FS:=
  (aA (sA 6 (eF nT [(eV 4),(eV 5)]))
  (sIf (tOr (tV (e2 gEq (e2 gIx (eV 5) (eC (.int 1))) (e2 gIx (eV 5) (eC (.int 2))))) (tV (eFp aT 3 v5 [(eV 0),(eV 6),(e2 gIx (eV 5) (eC (.int 1))),(e2 gIx (eV 5) (eC (.int 2))),(eV 2)]))) (sA 4 (eV 6)) sNx))
noncomputable def jz(aT aU:Nat):List Dat->Option RV:=fn 4 3
  (aA (sA 4 (eB ki [(eV 1)]))
  (aA (cU (iS (eV 1)) (bN 5)
  (ux aT aU))
  (sR (eV 4))))
noncomputable def nU:List Dat->Option RV:=fn 1 0
  (sR (bD (iR1 (eV 0)) 1 (bN 1) bS (dg [])))
noncomputable def rB:List Dat->Option RV:=fn 5 0
  (sR (e2 gIx (eF rA [(eV 0),(eV 1),(eV 2),(eV 3),(eV 4)]) (eC (.int 1))))
noncomputable def rC(aT aU:Nat):List Dat->Option RV:=fn 5 1
  (aA (sA 5 (aL 1 1 (bN 6) (tV (e2 b4 (eV 6) (eV 2))) (eV 6)))
  (sR (aL 5 1 (bN 6) bS (eIf (tV (e2 gEq (e2 gIx (eV 6) (eC (.int 1))) (e2 gIx (eV 6) (eC (.int 2))))) (eF nU [(eV 3)]) (eFp aU 4 rB [(eV 0),(eV 2),(e2 gIx (eV 6) (eC (.int 1))),(e2 gIx (eV 6) (eC (.int 2))),(eV 3)])))))
noncomputable def jA(aT aU:Nat):List Dat->Option RV:=fn 3 1
  (aA (sE (eF CW [(eV 2)]))
  (aA (sA 3 (eF (jz aT aU) [(eV 0),(eV 1),(eV 2),(eC (.fn aT))]))
  (sR (cN [(aL 3 1 (bN 4) bS (e2 gIx (eV 4) (eC (.int 0)))),(eF (rC aT aU) [(eV 0),(eV 1),(eV 3),(eV 2),(eC (.fn aU))])]))))
noncomputable def rE:List Dat->Option RV:=fn 2 0
  (aA (sIf (tV (e2 gLt (eV 1) (eB dG [(eV 0)]))) (sR (e2 gIx (eV 0) (eV 1))) sNx)
  (sR (eC (.int 0))))
noncomputable def Ai:FS:=
  (aA (sA 5 (e2 jI (e2 fD (e2 bu (e2 bu (e2 bu (e2 jI (eV 2) (eC (.int 998244353))) (e2 fD (e2 fD (eC (.int 89)) (eV 4)) (eV 4))) (e2 fD (eC (.int 7)) (eV 1))) (eC (.int 1))) (eC (.int 48271))) (eC (.int 2147483647))))
  (aA (sA 5 (e2 jI (e2 fD (eV 5) (eV 5)) (eC (.int 1000000007))))
  (aA (sA 5 (e2 jI (e2 fD (e2 bu (eV 5) (e2 fD (eC (.int 7919)) (eV 4))) (eC (.int 69621))) (eC (.int 2147483587))))
  (sA 3 (e2 bu (e2 fD (eV 3) (eC (.int 1000003))) (e2 jI (e2 tS (eV 5) (eC (.int 8))) (eC (.int 1000003))))))))
noncomputable def nV:List Dat->Option RV:=fn 2 4
  (aA (sA 2 (eF rE [(eV 0),(eV 1)]))
  (aA (sIf (tV (e2 gGe (eV 2) (e2 tT (eC (.int 10)) (eC (.int 18))))) (sR (dg [(eV 2)])) sNx)
  (aA (sA 3 (eC (.int 0)))
  (aA (cU (iR1 (eC (.int 48))) (bN 4)
  Ai)
  (sR (dg [(eV 3)]))))))
noncomputable def cj:List Dat->Option (RV×Dat):=fnM 2 1
  (aA (sA 2 (e2 jI (e2 gIx (eV 0) (eC (.int 0))) (eV 1)))
  (aA (xu 0 (eC (.int 0)) (e2 tS (e2 gIx (eV 0) (eC (.int 0))) (eV 1)))
  (sR (eV 2))))
noncomputable def Aj:FS:=
  (aA (sA 8 (eFm cj 0 [(eV 1)]))
  (aA (sA 9 (eFm cj 0 [(eV 1)]))
  (aA (sIf (ff (tV (e2 gGt (eV 4) (eC (.int 0)))) (tV (e2 gEq (eV 8) (eV 9)))) (sA 9 (e2 jI (e2 bu (eV 8) (eC (.int 1))) (eV 1))) sNx)
  (aA (sIf (ff (tV (e2 gGt (eV 7) (eC (.int 0)))) (tV (e2 gEq (eFm cj 0 [(eC (.int 4))]) (eC (.int 0))))) (aA (sA 8 (e2 gIx (e2 gIx (eV 6) (e2 jF (eV 7) (eC (.int 1)))) (eC (.int 1))))
  (sA 9 (e2 gIx (e2 gIx (eV 6) (e2 jF (eV 7) (eC (.int 1)))) (eC (.int 2))))) sNx)
  (aA (mR 6 (cN [(eV 5),(eB nq [(eV 8),(eV 9)]),(eB nt [(eV 8),(eV 9)])]))
  (sA 5 (e2 bu (e2 bu (eV 5) (eC (.int 1))) (e2 fD (eFm cj 0 [(e2 gIx (dg [(eC (.int 1)),(eC (.int 3)),(eC (.int 1000))]) (eV 4))]) (e2 gIx (dg [(eC (.int 1)),(eC (.int 1)),(e2 tT (eC (.int 10)) (eC (.int 25)))]) (eV 4))))))))))
noncomputable def nW:List Dat->Option (RV×Dat):=fnM 3 7
  (aA (sA 3 (eFm cj 0 [(e2 bu (eV 2) (eC (.int 1)))]))
  (aA (sA 4 (eFm cj 0 [(eC (.int 3))]))
  (aA (sA 5 (eFm cj 0 [(eC (.int 4))]))
  (aA (sA 6 (dg []))
  (aA (cU (iR1 (eV 3)) (bN 7)
  Aj)
  (sR (eV 6)))))))
noncomputable def Ak:FS:=
  (aA (sA 8 (e2 jF (e2 bu (eV 6) (eV 7)) (e2 gIx (eV 3) (eV 4))))
  (sIf (ff (tV (e2 gIn (e2 gIx (eV 3) (eV 4)) (cN [(eV 6),(eV 7)]))) (ff (tV (e2 b4 (eV 8) (eV 3))) (tV (e2 b4 (eV 8) (eV 2))))) (mR 3 (eV 8)) sNx))
noncomputable def Al:FS:=
  (aA (cU (iS (eV 0)) (bT [5,6,7])
  Ak)
  (sA 4 (e2 bu (eV 4) (eC (.int 1)))))
noncomputable def nX:List Dat->Option RV:=fn 3 6
  (aA (sA 3 (dg [(eV 1)]))
  (aA (sA 4 (eC (.int 0)))
  (aA (whD (tV (e2 gLt (eV 4) (eB dG [(eV 3)])))
  Al 100)
  (sR (eV 3)))))
noncomputable def v7:List Dat->Option RV:=fn 4 0
  (sR (e2 gIn (eV 2) (eF nX [(eV 0),(eV 1),(eV 3)])))
noncomputable def Am:FS:=
  (mR 4 (bD (iR1 (eB dG [(eV 3)])) 1 (bN 6) (tV (e2 gEq (e2 xw (e2 tU (eV 5) (eV 6)) (eC (.int 1))) (eC (.int 1)))) (e2 gIx (eV 3) (eV 6))))
noncomputable def v8:List Dat->Option RV:=fn 3 3
  (aA (sA 3 (bD (iR1 (eV 0)) 1 (bN 6) (ff (tV (e2 gNe (eV 6) (eV 1))) (tV (e2 gNe (eV 6) (eV 2)))) (eV 6)))
  (aA (sA 4 (dg []))
  (aA (cU (iR1 (e2 mU (eC (.int 1)) (eB dG [(eV 3)]))) (bN 5)
  Am)
  (sR (eB cP [(eV 4)])))))
noncomputable def An:FS:=
  (sIf (jZ (tV (eF v7 [(eV 5),(eV 2),(eV 3),(eV 6)]))) (sR (e2 bu (eB dG [(eV 4)]) (eB dG [(eV 6)]))) sNx)
noncomputable def rF:List Dat->Option RV:=fn 4 3
  (aA (sA 4 (aL 1 1 (bN 7) (tV (e2 gEq (eB dP [(qG (eV 7) (some (eC (.int 1))) none)]) (eB fR [(dg [(eV 2),(eV 3)])]))) (eV 7)))
  (aA (sA 5 (aL 1 1 (bN 7) (tV (e2 b4 (eV 7) (eV 4))) (eV 7)))
  (aA (cU (iS (eF v8 [(eV 0),(eV 2),(eV 3)])) (bN 6)
  An)
  (sR (eB dG [(eV 4)])))))
noncomputable def kX:List Dat->Option RV:=fn 3 0
  (sR (bD (iR1 (eV 0)) 1 (bN 3) (tV (e2 b4 (eV 3) (eV 2))) (eB nH [(eF nX [(eV 1),(eV 3),(eV 2)])])))
noncomputable def pH(aT aU:Nat):FS:=
  (aA (sA 9 (bD (iR1 (eV 2)) 1 (bN 12) (tV (e2 gEq (e2 xw (e2 tU (eV 8) (eV 12)) (eC (.int 1))) (eC (.int 1)))) (eV 12)))
  (sIf (ff (tV (e2 gLt (eB dG [(eV 9)]) (eV 4))) (tV (e2 gNe (eF kX [(eV 2),(eV 7),(eV 9)]) (eF kX [(eV 2),(eV 5),(eV 9)])))) (sR (eC (.bl false))) sNx))
noncomputable def kY(aT aU:Nat):FS:=
  (aA (sA 11 (aL 7 1 (bN 12) (tV (e2 gNe (eV 12) (eV 10))) (eV 12)))
  (sIf (tOr (tV (e2 gEq (e2 gIx (eV 10) (eC (.int 1))) (e2 gIx (eV 10) (eC (.int 2))))) (tV (e2 gGe (eF rF [(eV 2),(eV 11),(e2 gIx (eV 10) (eC (.int 1))),(e2 gIx (eV 10) (eC (.int 2)))]) (eV 4)))) (sR (eC (.bl false))) sNx))
noncomputable def uy(aT aU:Nat):FS:=
  (aA (sA 1 (eF nV [(eV 0),(eV 3)]))
  (aA (sA 4 (e2 bu (eC (.int 1)) (eFm cj 1 [(e2 gIx (dg [(eC (.int 3)),(eC (.int 6))]) (eFm cj 1 [(eC (.int 2))]))])))
  (aA (sA 5 (eFm nW 1 [(eV 2),(e2 gIx (dg [(eC (.int 14)),(eC (.int 60))]) (eB yR [(jH (e2 gEq (eFm cj 1 [(eC (.int 3))]) (eC (.int 0))) (eOr (e2 gLt (eV 2) (eC (.int 5))) (e2 gEq (eV 3) (eC (.int 1)))))]))]))
  (aA (sA 6 (e2 gIx (eF (jA aT aU) [(eV 2),(eB ki [(eV 5)]),(eV 4)]) (eC (.int 0))))
  (aA (sA 7 (aL 5 1 (bN 12) (tV (e2 gIn (e2 gIx (eV 12) (eC (.int 0))) (eV 6))) (eV 12)))
  (aA (sIf (tV (e2 gNe (eB dG [(eV 7)]) (eB dG [(eV 6)]))) (sR (eC (.bl false))) sNx)
  (aA (cU (iR1 (e2 mU (eC (.int 1)) (eV 2))) (bN 8)
  (pH aT aU))
  (aA (cU (iS (eV 7)) (bN 10)
  (kY aT aU))
  (sIf (tV (e2 gNe (e2 gIx (eF (jA aT aU) [(eV 2),(eV 7),(eV 4)]) (eC (.int 0))) (eV 6))) (sR (eC (.bl false))) sNx)))))))))
noncomputable def kZ(aT aU:Nat):List Dat->Option RV:=fn 1 11
  (aA (sA 1 (eF nV [(eV 0),(eC (.int 0))]))
  (aA (sA 2 (e2 bu (eC (.int 1)) (eFm cj 1 [(eC (.int 6))])))
  (aA (cU (iR2 (eC (.int 1)) (eB nt [(eC (.int 2)),(eB nq [(eC (.int 3)),(eB dG [(eV 0)])])])) (bN 3)
  (uy aT aU))
  (sR (eC (.bl true))))))
end P
local macro_rules|`(tactic|trivial)=>`(tactic|first | (dsimp only[List.set];first | done | rfl) | rfl)
local macro_rules | `(tactic| array_get_dec)=>`(tactic| first | with_reducible refine Dm.Pr ?_ | with_reducible refine Dm.O_ ?_ | ((with_reducible apply Dm.M_);(focus rfl)) | ((with_reducible apply Dm.Py);(focus rfl)) | with_reducible refine Dm.Pu ?_ | (refine Dm.PN ?_ (by trivial)) | (refine Dm.PB ?_ (by trivial)) | (refine Dm.Q6 ?_ rfl (by trivial)) | with_reducible refine Dm.PD ?_ (by decide) | with_reducible refine Dm.P6 ?_ | with_reducible refine Dm.PJ ?_ | with_reducible refine Dm.QC ?_ | with_reducible refine Dm.Qd ?_ | with_reducible refine Dm.QS ?_ | with_reducible refine Dm.Rc ?_ | (refine Dm.Px ?_) | (refine Dm.bL.mk ?_) | with_reducible refine Dm.Qk ?_ | with_reducible refine Dm.Qh ?_ | with_reducible refine Dm.N_ ?_ | with_reducible refine Dm.m_ ?_ | with_reducible refine Dm.PY ?_ | with_reducible refine Dm.PL ?_ | with_reducible refine Dm.Qo ?_ | with_reducible refine Dm.Qe ?_ | with_reducible refine Dm.Rb ?_ | with_reducible refine Dm.Rw ?_ | with_reducible refine Dm.Qy ?_ | with_reducible refine Dm.Ru ?_ | with_reducible refine Dm.Rj ?_ | with_reducible refine Dm.Ry ?_ | with_reducible refine Dm.QE ?_ | with_reducible refine Dm.Wp.none ?_ | with_reducible refine Dm.Wp.some ?_ | (refine Dm.Wsl.A (Ab:=Dat.int) ?_ rfl) | (refine Dm.Wsl.mk ?_ rfl) | (refine Dm.PU ?_ rfl (by trivial) (by exact Nat.le_of_ble_eq_true rfl)) | (refine Dm.PF ?_) | (refine Dm.P_ ?_) | (refine Dm.QN ?_ rfl (by trivial)) | with_reducible refine Dm.We.Dn ?_ | with_reducible refine Dm.Rr ?_ | with_reducible refine Dm.Rx ?_ | (refine Dm.Mb ?_ rfl) | (refine Dm.kT rfl ?_) | (refine Dm.vU ?_ rfl (by trivial) ?_) | (refine Dm.Qu ?_ rfl) | (refine Dm.ji ?_ rfl (by trivial) ?_) | with_reducible refine Dm.Ws.U ?_ | (refine Dm.LS ?_ rfl (by trivial)) | with_reducible refine Dm.PR ?_ | (refine Dm.RH ?_) | (refine Dm.Q5 ?_) | (refine Dm.P9 ?_ rfl) | with_reducible refine Dm.PV ?_ | with_reducible refine Dm.Ws.bk ?_ | with_reducible refine Dm.Ws.ct ?_ | with_reducible refine Dm.QH ?_ | with_reducible refine Dm.P1 ?_ | with_reducible refine Dm.Qg ?_ | with_reducible refine Dm.Wi.L ?_ | with_reducible refine Dm.Qa ?_ | with_reducible refine Dm.Rn ?_ | (refine Dm.bQ ?_) | (refine Dm.K8 ?_) | (refine Dm.P8 ?_ rfl rfl) | (refine Dm.Qp ?_ rfl rfl) | (refine Dm.Wg2.L6 ?_ rfl rfl ?_) | (refine Dm.Wg2.L7 ?_ rfl rfl ?_) | (refine Dm.Wg2.eqb ?_ rfl rfl) | (refine Dm.Wg2.neb ?_ rfl rfl) | (refine Dm.Wg2.LU ?_ rfl rfl) | (refine Dm.Wg2.isb ?_ rfl rfl) | (refine Dm.Qs ?_ rfl rfl) | (refine Dm.Wg2.le ?_ rfl rfl) | (refine Dm.Q4 ?_ rfl rfl) | (refine Dm.QW ?_ rfl rfl) | (refine Dm.PX ?_ rfl rfl) | (refine Dm.Wg2.Mc ?_ rfl rfl ?_) | (refine Dm.Wg2.L8 ?_ rfl rfl ?_) | (refine Dm.Q0 ?_ rfl rfl ?_) | (refine Dm.Qn ?_ rfl rfl) | (refine Dm.QB ?_ rfl rfl (by first | exact Or.inl (by decide) | exact Or.inr (by decide))) | (refine Dm.QB ?_ rfl rfl ?_) | (refine Dm.Q7 ?_ rfl rfl (by decide)) | (refine Dm.Q7 ?_ rfl rfl ?_) | (refine Dm.QM ?_ rfl rfl (by decide)) | (refine Dm.QM ?_ rfl rfl ?_) | (refine Dm.Q9 ?_ rfl rfl) | (refine Dm.QY ?_ rfl rfl) | (refine Dm.Qz ?_ rfl rfl) | (refine Dm.Wg2.Me ?_ rfl rfl) | (refine Dm.Pw ?_ rfl rfl rfl) | (refine Dm.Qj (Ab:=Dat.int) ?_ rfl) | (refine Dm.WB.len ?_ rfl) | (refine Dm.WB.Mf ?_ rfl) | (refine Dm.QK ?_ rfl) | (refine Dm.QI ?_ rfl) | (refine Dm.QA ?_ rfl) | (refine Dm.Qv ?_ rfl) | (refine Dm.WB.sum2 ?_ rfl ?_) | (refine Dm.Wg1.Mg (Ab:=Dat.int) ?_ rfl) | (refine Dm.QU ?_ rfl rfl))
namespace P
open Dm Fl
section
variable{r:List Int}{h:List (Int×Int)}{R:Int->Step->Prop}{n:Nat}{s:Step}{a:Int}{A:List Int}{p:Int}{α:Type}{i e:FE}{d:Dat}{c:Int}{x:Int}{y:Int}{k:Int}
theorem CY(ks:List Int)(i:Int):(ks.any fun k=>decide (k=i))=decide (i∈ks):=by
 induction ks with
 |nil=>rfl
 |cons k ks ih=>
  rw[Nt,ih];by_cases h:k=i
  ·simp[h]
  ·have h':¬i=k:=fun z=>h z.symm;simp[h,h']
theorem CZ{ks:List Int}{vs:List Dat}{i:Int}(h:i∉ks):ju ks i=ks++[i]/\jv ks vs i d=vs++[d]:=by unfold ju jv;rw[CY,decide_eq_false h];exact⟨rfl,rfl⟩
theorem xR(key:α->Int)(val:α->Dat)(xs:List α)(i:Int):bZ (xs.map key) (xs.map val) i=(xs.find? fun x=>decide (key x=i)).map val:=by
 induction xs with
 |nil=>rfl
 |cons x xs ih=>
  rw[gc,gc,bZ,Nj];by_cases h:key x=i
  ·simp[h]
  ·simp[h,ih]
theorem bC[DecidableEq α]:∀(l m:List α),l.Nodup->(∀x∈l,x∈m)->l.length<=m.length
 |[],_,_,_=>M5 _
 |x::l,m,h,k=>by
  obtain⟨h1,h2⟩:=MB.mp h;have hx:x∈m:=k x Ds;have:=bC l (m.erase x) h2 fun y hy=>(List.mem_erase_of_ne (fun e:y=x=>h1 (by rw[<- e];exact hy))).mpr (k y (Dk _ hy));rw[List.length_erase_of_mem hx]at this;have:=List.length_pos_of_mem hx;simp
  lia
noncomputable def places(n:Nat):List Int:=(Mv n).map fun i:Nat=>(i:Int)
theorem places_len(n:Nat):(places n).length=n:=by simp[places]
theorem gK(n:Nat)(x:Int):x∈places n↔0<=x/\x<n:=by
 unfold places;rw[Mt];constructor
 ·rintro⟨i,hi,rfl⟩;have:=MR.mp hi
  lia
 ·rintro⟨h0,h1⟩;exact⟨x.toNat,MR.mpr (by lia),by lia⟩
noncomputable def stG(lb:Int->Dat)(s:Step):Dat:=.tup [lb s.1,.int s.2]
noncomputable def rwG(lb:Int->Dat)(w:List Step):Dat:=.lst (w.map (stG lb))
noncomputable def rsG(lb:Int->Dat)(n:Nat)(R:Int->List Step):Dat:=.lst ((Mv n).map fun i:Nat=>rwG lb (R i))
noncomputable abbrev Sr:=List (Int×List Step)
noncomputable def sk(s:Sr):List Int:=s.map (·.1)
noncomputable def svG(lb:Int->Dat)(s:Sr):List Dat:=s.map fun e=>rwG lb e.2
def InR(R:Int->List Step)(p:Int)(s:Step):Prop:=s∈R p
structure uz(R:Int->Step->Prop)(a:Int)(w:List Step)(p:Int):Prop where
 way:Way R a w p
 nd:(a::w.map (·.2)).Nodup
structure Fnd(n:Nat)(R:Int->List Step)(a:Int)(s:Sr):Prop where
 nd:(sk s).Nodup
 pl:∀x∈sk s,0<=x/\x<n
 st:a∈sk s
 way:∀e∈s,uz (InR R) a e.2 e.1/\∀x∈a::e.2.map (·.2),x∈sk s
theorem Fnd.len{R:Int->List Step}{s:Sr}(h:Fnd n R a s):s.length<=n:=by
 have:=bC (sk s) (places n) h.nd fun x hx=>(gK n x).mpr (h.pl x hx);rw[places_len]at this
 simpa [sk] using this
theorem Fnd.uA{R:Int->List Step}{s:Sr}(h:Fnd n R a s){e:Int×List Step}(he:e∈s):e.2.length<s.length:=by
 obtain⟨h1,h2⟩:=h.way e he;have:=bC (a::e.2.map (·.2)) (sk s) h1.nd h2;simp[sk]at this
 lia
theorem cK(s:Sr)(x:Int)(w:List Step):sk (s++[(x,w)])=sk s++[x]:=by simp[sk]
theorem C0(lb:Int->Dat)(s:Sr)(x:Int)(w:List Step):svG lb (s++[(x,w)])=svG lb s++[rwG lb w]:=by simp[svG]
theorem pI(lb:Int->Dat)(s:Sr)(x:Int):(∃w,(x,w)∈s/\bZ (sk s) (svG lb s) x=some (rwG lb w))\/(x∉sk s/\bZ (sk s) (svG lb s) x=none):=by
 unfold sk svG;rw[xR (fun e:Int×List Step=>e.1) (fun e=>rwG lb e.2) s x];cases hf:s.find? fun e=>decide (e.1=x) with
 |none=>refine Or.inr ⟨fun h=>?_,rfl⟩;obtain⟨e,he,hx⟩:=Mt.mp h;have:=OR.mp hf e he;simp[hx]at this
 |some e=>
  have h1:=List.mem_of_find?_eq_some hf;have h2:=List.find?_some hf;have h2:e.1=x:=by simpa using h2
  exact Or.inl ⟨e.2,by rw[<- h2];exact h1,rfl⟩
theorem fV(lb:Int->Dat)(s:Sr)(x:Int):(bZ (sk s) (svG lb s) x).isSome=decide (x∈sk s):=by
 rcases pI lb s x with⟨ts,h1,h2⟩ | ⟨h1,h2⟩
 ·have:x∈sk s:=Mt.mpr ⟨_,h1,rfl⟩;rw[h2,decide_eq_true this];rfl
 ·rw[h2,decide_eq_false h1];rfl
theorem Fnd.start{R:Int->List Step}(a0:0<=a)(a1:a<n):Fnd n R a [(a,[])] where
 nd:=by simp[sk]
 pl:=by intro x hx;simp[sk]at hx;subst hx;exact⟨a0,a1⟩
 st:=by simp[sk]
 way:=by intro e he;simp at he;subst he;exact⟨⟨rfl,by simp⟩,by simp[sk]⟩
theorem Fnd.step{n:Nat}{R:Int->List Step}{a:Int}{s:Sr}(h:Fnd n R a s){p:Int}{w:List Step}(hp:(p,w)∈s){u:Step}(hu:u∈R p)(hn:u.2∉sk s)(u0:0<=u.2)(u1:u.2<n):Fnd n R a (s++[(u.2,w++[u])]) where
 nd:=by rw[cK];exact Nh.mpr ⟨h.nd,by simp,fun x hx y hy=>by rw[Mr.mp hy];exact fun e=>hn (e▸hx)⟩
 pl:=by
  intro x hx;rw[cK]at hx;rcases Mw.mp hx with hx | hx
  ·exact h.pl x hx
  ·rw[Mr.mp hx];exact⟨u0,u1⟩
 st:=by rw[cK];exact MJ _ h.st
 way:=by
  intro e he;rw[cK];rcases Mw.mp he with he | he
  ·obtain⟨k1,k2⟩:=h.way e he;exact⟨k1,fun x hx=>MJ _ (k2 x hx)⟩
  ·rw[Mr.mp he];obtain⟨k1,k2⟩:=h.way _ hp;refine⟨⟨k1.way.snoc hu,?_⟩,fun x hx=>?_⟩
   ·dsimp only at k1 k2 ⊢;rw[My,<- N2];exact Nh.mpr ⟨k1.nd,by simp,fun x hx y hy=>by rw[Mr.mp hy];exact fun e:x=u.2=>hn (by rw[<- e];exact k2 x hx)⟩
   ·dsimp only at k1 k2 hx ⊢;rw[My,<- N2]at hx;rcases Mw.mp hx with hx | hx
    ·exact MJ _ (k2 x hx)
    ·exact MK _ (by simpa using hx)
def Done(R:Int->List Step)(K:List Int)(x:Int):Prop:=∀u∈R x,u.2∈K
noncomputable def C1(lb:Int->Dat)(n:Nat)(R:Int->List Step)(a:Int)(s:Sr)(ps:List Int)(c4 c5:Cell):Env:=[.sh (rsG lb n R),.sh (.int a),.ow (.dct (sk s) (svG lb s)),.ow (.lst (ps.map Dat.int)),c4,c5]
theorem Hx{ps:List Int}{p0:Int}{i:Nat}{e:FE}{ρ ρ2:Env}{Q:Val->Env->Prop}(q:Q (.val (.int p0)) ρ2)(h:ρ[i]?=some (.ow (.lst ((p0::ps).map Dat.int))))(he:e ρ=some (.val (.int 0),ρ))(hs:ρ.set i (.ow (.lst (ps.map Dat.int)))=ρ2):We (jb i e) ρ Q:=
 ⟨_,_,by unfold jb;rw[h];dsimp only;rw[he];dsimp only;rw[h];dsimp only;rw[if_pos (by unfold BIG;lia)];show some (Val.val (.int p0),ρ.set i (.ow (.lst (ps.map Dat.int))))=_;rw[hs],q⟩
theorem C2(lb:Int->Dat)(n:Nat)(R:Int->List Step)(x:Int)(h0:0<=x)(h1:x<n):gIx (rsG lb n R) (.int x)=some (.val (rwG lb (R x))):=by
 unfold rsG gIx;dsimp only;rw[iQ (fun i:Nat=>rwG lb (R i)) (Mv n) x h0 (by rw[MT];exact h1)];have e:(((Mv n)[x.toNat]'(by rw[MT];lia):Nat):Int)=x:=by rw[List.getElem_range];lia
 rw[e];rfl
theorem k7(lb:Int->Dat)(n:Nat)(hn:n<=40)(R:Int->List Step)(hR:∀i:Int,0<=i->i<n->∀u∈R i,0<=u.2/\u.2<n)(a:Int)(a0:0<=a)(a1:a<n) :
  ∃s:Sr,kW [rsG lb n R,.int a]=some (.new (.dct (sk s) (svG lb s)))/\Fnd n R a s/\∀x∈sk s,Done R (sk s) x:=by
 suffices h:Wr (kW [rsG lb n R,.int a]) fun v=>∃s:Sr,v=.new (.dct (sk s) (svG lb s))/\Fnd n R a s/\∀x∈sk s,Done R (sk s) x by obtain⟨v,h1,s,rfl,h2⟩:=h;exact⟨s,h1,h2⟩
 unfold kW
 (refine Dm.PM ?_ rfl rfl;and_intros)
 refine Pr (PD ?_ (by decide));refine Rr (M_ rfl (bL.mk (Qe (N_ (PU ?_ rfl (by trivial) (by exact MC rfl))))));refine PF (PB ?_ (by trivial));refine Pr (PD ?_ (by decide));refine Qe (m_ (M_ rfl (N_ (PU ?_ rfl (by trivial) (by exact MC rfl)))));refine PB ?_ (by trivial);refine Pr ?_;refine QF (fun k ρ=>∃(s:Sr) (ps:List Int) (c4 c5:Cell),ρ=C1 lb n R a s ps c4 c5/\Fnd n R a s/\(∀x∈ps,x∈sk s)/\(∀x∈sk s,x∈ps\/Done R (sk s) x)/\k=ps.length+(n-s.length)/\k<=40) ?_ 100 n _ (by lia) ⟨[(a,[])],[a],_,_,rfl,Fnd.start a0 a1,by simp[sk],by simp[sk],by simp;lia,hn⟩;rintro k ρ ⟨s,ps,c4,c5,rfl,F,hps,hd,hk,Mh⟩;unfold C1;refine RM ?_;refine Py rfl ?_;refine⟨_,!(ps.map Dat.int).isEmpty,rfl,rfl,?_⟩;have len:=F.len;cases ps with
 |nil=>refine P4 rfl ?_;refine PR (Py rfl (P9 ?_ rfl));exact⟨s,rfl,F,fun x hx=>(hd x hx).resolve_left (by simp)⟩
 |cons p0 ps0=>
  refine Qq rfl ?_;unfold EI;refine Pr (PD ?_ (by decide));refine Hx (ps:=ps0) (p0:=p0) ?_ rfl rfl rfl;refine PN ?_ (by trivial);have hp0:p0∈sk s:=hps p0 (by simp);obtain⟨q0,q1⟩:=F.pl p0 hp0;refine P1 (Qg (O_ (M_ rfl (M_ rfl (Pw ?_ rfl rfl (C2 lb n R p0 q0 q1))))));refine PF (bQ ?_);refine P5 (stG lb) _ _ (R p0) _ _ _ _ _ (fun p q ρ=>∃(s:Sr) (ps:List Int) (c5:Cell),ρ=C1 lb n R a s ps (.sh (.int p0)) c5/\Fnd n R a s/\(∀x∈ps,x∈sk s)/\p0∈sk s/\(∀x∈sk s,x∈ps\/x=p0\/Done R (sk s) x)/\(∀u∈p,u.2∈sk s)/\k=ps.length+1+(n-s.length)) ⟨s,ps0,_,rfl,F,fun x hx=>hps x (by simp[hx]),hp0,?_,by simp,by rw[hk];simp⟩ ?_ ?_
  ·intro x hx;rcases hd x hx with h | h
   ·rcases Ms.mp h with h | h
    ·exact .inr (.inl h)
    ·exact .inl h
   ·exact .inr (.inr h)
  ·rintro p u q ρ e' ⟨s,ps,c5,rfl,F,hps,hp0,hd,hp,hk⟩;have len:=F.len;have hu:u∈R p0:=by rw[e'];simp
   obtain⟨u0,u1⟩:=hR p0 q0 q1 u hu;unfold C1;refine Dm.bx rfl (by trivial) ?_;unfold EH;refine P6 (PJ (O_ (O_ (M_ rfl (Pu (Pw ?_ rfl rfl rfl))))));refine Py rfl (QY ?_ rfl rfl);refine Px ?_;rw[fV];refine⟨fun h=>?_,fun h=>?_⟩
   ·have hnew:=ndT h;obtain⟨w,t1,t2⟩:∃w,(p0,w)∈s/\bZ (sk s) (svG lb s) p0=some (rwG lb w):=by
     rcases pI lb s p0 with h | h
     ·exact h
     ·exact absurd hp0 h.1
    have wl:=F.uA t1;refine Pr (Rx (O_ (O_ (Py rfl (M_ rfl (QT t2 ?_ rfl rfl))))));refine Qe (m_ (M_ rfl (N_ (PU ?_ rfl rfl (by exact MC rfl)))));refine Q0 ?_ rfl rfl (by rw[Mj];dsimp only at wl;simp;unfold SZ;lia);refine P_ (kT rfl (O_ (M_ rfl (Pu (Pw ?_ rfl rfl rfl)))));refine bL.mk (vU ?_ rfl (by trivial) (by simp only[sk,Mj];unfold SZ;lia));refine Qu (O_ (M_ rfl (Pu (Pw ?_ rfl rfl rfl)))) rfl;refine PF (ji ?_ rfl (by trivial) (by rw[Mj];unfold SZ;lia));have F':=F.step t1 hu hnew u0 u1;have len':=F'.len;have em:Dat.lst (w.map (stG lb)++[(stG lb) u])=rwG lb (w++[u]):=by simp[rwG]
    obtain⟨p1,p2⟩:=CZ (ks:=sk s) (vs:=svG lb s) (i:=u.2) (d:=rwG lb (w++[u])) hnew;refine⟨s++[(u.2,w++[u])],ps++[u.2],.sh ((stG lb) u),?_,F',?_,?_,?_,?_,?_⟩
    ·rw[em,p1,p2,cK,C0,My];rfl
    ·intro x hx;rw[cK];rcases Mw.mp hx with hx | hx
     ·exact MJ _ (hps x hx)
     ·exact MK _ hx
    ·rw[cK];exact MJ _ hp0
    ·intro x hx;rw[cK]at hx ⊢;rcases Mw.mp hx with hx | hx
     ·rcases hd x hx with h | h | h
      ·exact .inl (MJ _ h)
      ·exact .inr (.inl h)
      ·exact .inr (.inr fun y hy=>MJ _ (h y hy))
     ·exact .inl (MK _ hx)
    ·intro v hv;rw[cK];rcases Mw.mp hv with hv | hv
     ·exact MJ _ (hp v hv)
     ·rw[Mr.mp hv];simp
    ·rw[hk];simp at len' ⊢;lia
   ·have hold:=ndF h;refine PV ?_;refine⟨s,ps,.sh ((stG lb) u),rfl,F,hps,hp0,hd,fun v hv=>?_,hk⟩;rcases Mw.mp hv with hv | hv
    ·exact hp v hv
    ·rw[Mr.mp hv];exact hold
  ·rintro ρ ⟨s,ps,c5,rfl,F,hps,hp0,hd,hp,hk⟩;refine⟨ps.length+(n-s.length),by lia,s,ps,_,_,rfl,F,hps,fun x hx=>?_,rfl,by lia⟩;rcases hd x hx with h | rfl | h
   ·exact .inl h
   ·exact .inr hp
   ·exact .inr h
noncomputable def pr(c:Int):Int×Int:=(c / 20,c % 20)
noncomputable def lbP(c:Int):Dat:=.tup [.int (c / 20),.int (c % 20)]
theorem k8{c d:Int}(h:pr c=pr d):c=d:=by
 unfold pr at h;injection h with h1 h2
 lia
noncomputable def hdF(h:List (Int×Int)):Hd:=fun m=>(h.find? fun e=>decide (e.1=m)).map (·.2)
noncomputable def hk(h:List (Int×Int)):List Int:=h.map (·.1)
noncomputable def hkP(h:List (Int×Int)):List (Int×Int):=h.map fun e=>pr e.1
noncomputable def hv(h:List (Int×Int)):List Dat:=h.map fun e=>Dat.int e.2
noncomputable def aq(h:List (Int×Int)):Dat:=.dcp (hkP h) (hv h)
theorem eG(h:List (Int×Int))(c:Int):cW (hkP h) (hv h) (c / 20,c % 20)=(hdF h c).map Dat.int:=by
 unfold hkP hv hdF
 induction h with
 |nil=>rfl
 |cons e h ih=>
  rw[gc,gc,cW,Nj];by_cases q:e.1=c
  ·rw[if_pos (by rw[q];rfl),decide_eq_true q];rfl
  ·rw[if_neg (fun z:pr e.1=(c / 20,c % 20)=>q (k8 z)),decide_eq_false q];exact ih
theorem iR{m:Int}:(hdF h m).isSome=decide (m∈hk h):=by
 unfold hdF hk
 induction h with
 |nil=>rfl
 |cons e h ih=>
  rw[Nj];by_cases q:e.1=m
  ·rw[decide_eq_true q];simp[q]
  ·rw[decide_eq_false q];have q':¬m=e.1:=fun z=>q z.symm;simp only[gc,Ms,q',false_or];exact ih
theorem Hy(o:Option Int)(y:Int):gEq ((o.map Dat.int).getD .non) (.int y)=vB (decide (o=some y)):=by
 cases o with
 |none=>rfl
 |some z=>
  show gEq (.int z) (.int y)=_;rw[vW];have:(z=y)=(some z=some y):=by simp
  simp only[this]
noncomputable def rG(h:List (Int×Int))(R:Int->List Step):Int->List Step:=fun x=>(R x).filter fun s=>decide (hdF h s.1=some s.2)
theorem pJ(n:Nat)(hn:n<=1000)(R:Int->List Step)(hR:∀i:Nat,i<n->(R i).length<=1000)(h:List (Int×Int)):Ac [rsG lbP n R,aq h]=some (.new (rsG lbP n (rG h R))):=by
 apply P0;unfold Ac
 (refine Dm.PM ?_ rfl rfl;and_intros)
 refine PR ?_;refine Rt (fun i:Nat=>rwG lbP (R i)) (Mv n) id (fun i:Nat=>rwG lbP (rG h R i)) (d:=rsG lbP n R) ?_ rfl rfl rfl (by decide) (by rw[MT];unfold SZ;lia) fun i hi=>?_
 ·rw[Nm];rfl
 ·have hl:=hR i (MR.mp hi);refine Qi (stG lbP) (R i) (fun s=>decide (hdF h s.1=some s.2)) id (stG lbP) (d:=rwG lbP (R i)) ?_ rfl rfl rfl (by decide) (by unfold SZ;lia) (fun s _=>?_) fun s _ _=>?_
  ·rw[Nm];exact P_ ⟨rfl,rfl⟩
  ·refine PJ (O_ (RP (M_ rfl ⟨⟨_,_,rfl⟩,O_ (M_ rfl (Pu (Pw ?_ rfl rfl rfl)))⟩)));refine⟨hkP h,hv h,s.1 / 20,s.1 % 20,rfl,rfl,O_ (M_ rfl (Pu (Pw ?_ rfl rfl rfl)))⟩;refine⟨_,_,_,rfl,rfl,(by rw[eG];exact Hy _ _),?_⟩;exact Px ⟨rfl,rfl⟩
  ·exact M_ rfl (PF ⟨rfl,rfl⟩)
noncomputable def jB(h:List (Int×Int))(s:Step):List (Int×Int):=if s.1∈hk h then h.filter fun e=>decide (e.1≠s.1) else h++[s]
theorem k9(h:List (Int×Int))(m:Int):hdF (h.filter fun e=>decide (e.1≠m))=put (hdF h) m none:=by
 funext x
 unfold put hdF;rw[List.find?_filter];by_cases e:x=m
 ·subst e;rw[if_pos rfl,OR.mpr fun y _=>by simp];rfl
 ·rw[if_neg e]
  congr 1
  congr 1
  funext y
  by_cases q:y.1=x
  ·have:y.1≠m:=fun z=>e (q.symm.trans z);simp[q,e]
  ·simp[q]
theorem v9(h:List (Int×Int))(s:Step)(hn:s.1∉hk h):hdF (h++[s])=put (hdF h) s.1 (some s.2):=by
 funext x
 unfold put hdF;rw[List.find?_append];by_cases e:x=s.1
 ·subst e;rw[if_pos rfl];have:(h.find? fun e=>decide (e.1=s.1))=none:=OR.mpr fun y hy=>by
   intro z;exact hn (Mt.mpr ⟨y,hy,of_decide_eq_true z⟩)
  rw[this];simp
 ·rw[if_neg e];have e':¬s.1=x:=fun z=>e z.symm;cases hf:(h.find? fun e=>decide (e.1=x)) with
  |none=>simp[e']
  |some y=>rfl
theorem Ao(h:List (Int×Int))(s:Step):hdF (jB h s)=fS (hdF h) s.1 s.2:=by
 unfold jB fS;rw[iR];by_cases q:s.1∈hk h
 ·rw[if_pos q,if_pos (decide_eq_true q),k9]
 ·rw[if_neg q,if_neg (by simpa using q),v9 h s q]
noncomputable def bz(h:List (Int×Int)):List Step->List (Int×Int)
 |[]=>h
 |s::w=>bz (jB h s) w
theorem nY:∀(w:List Step) (h:List (Int×Int)),hdF (bz h w)=jy (hdF h) w
 |[],_=>rfl
 |s::w,h=>by rw[bz,jy,nY w,Ao]
theorem fW:∀(w:List Step) (h:List (Int×Int)) (s:Step),bz h (w++[s])=jB (bz h w) s
 |[],_,_=>rfl
 |_::w,h,s=>by rw[N2,bz,bz,fW w]
theorem jV(h:List (Int×Int))(c:Int):cJ (hkP h) (hv h) (c / 20,c % 20)=hkP (h.filter fun e=>decide (e.1≠c))/\cX (hkP h) (hv h) (c / 20,c % 20)=hv (h.filter fun e=>decide (e.1≠c)):=by
 unfold hkP hv
 induction h with
 |nil=>exact⟨rfl,rfl⟩
 |cons e h ih=>
  rw[gc,gc,cJ,cX];by_cases q:e.1=c
  ·rw[if_pos (by rw[q];rfl),if_pos (by rw[q];rfl),MQ (by simpa using q)];exact ih
  ·rw[if_neg (fun z:pr e.1=(c / 20,c % 20)=>q (k8 z)),if_neg (fun z:pr e.1=(c / 20,c % 20)=>q (k8 z)),MV (by simpa using q),gc,gc,ih.1,ih.2];exact⟨rfl,rfl⟩
structure Hok(r:List Int)(h:List (Int×Int)):Prop where
 nd:(hk h).Nodup
 sub:∀m∈hk h,m∈r
theorem Hok.len(k:Hok r h):h.length<=r.length:=by
 have:=bC (hk h) r k.nd k.sub
 simpa [hk] using this
theorem Hok.nil(r:List Int):Hok r []:=⟨by simp[hk],by simp[hk]⟩
theorem Hok.drop(k:Hok r h)(m:Int):Hok r (h.filter fun e=>decide (e.1≠m)):=by refine⟨(k.nd.sublist (O0.map _ (Nn))),fun x hx=>k.sub x ?_⟩;obtain⟨e,he,rfl⟩:=Mt.mp hx;exact Mt.mpr ⟨e,(Mx.mp he).1,rfl⟩
theorem Hok.lead(k:Hok r h)(hs:s.1∈r):Hok r (jB h s):=by
 unfold jB;split
 ·exact k.drop _
 ·rename_i q;refine⟨?_,fun x hx=>?_⟩
  ·unfold hk;rw[My];exact Nh.mpr ⟨k.nd,by simp,fun x hx y hy=>by
    have:y=s.1:=by simpa using hy
    rw[this];exact fun e=>q (e▸hx)⟩
  ·unfold hk at hx;rw[My]at hx;rcases Mw.mp hx with hx | hx
   ·exact k.sub x hx
   ·have:x=s.1:=by simpa using hx
    rw[this];exact hs
theorem Hok.Aq:∀{w:List Step} {h:List (Int×Int)},Hok r h->(∀s∈w,s.1∈r)->Hok r (bz h w)
 |[],_,k,_=>k
 |s::w,h,k,hs=>by rw[bz];exact Hok.Aq (w:=w) (k.lead (hs s Ds)) fun u hu=>hs u (Dk _ hu)
theorem pK:pr c∈hkP h↔c∈hk h:=by
 unfold hkP hk;rw[Mt,Mt];constructor
 ·rintro⟨e,he,q⟩;exact⟨e,he,k8 q⟩
 ·rintro⟨e,he,q⟩;exact⟨e,he,by rw[q]⟩
theorem mY(r:List Int)(hl:r.length<=1000)(h:List (Int×Int))(k:Hok r h)(w:List Step)(hw:∀s∈w,s.1∈r):Ad [aq h,rwG lbP w]=some (.val .non,aq (bz h w)):=by
 suffices q:WrM (Ad [aq h,rwG lbP w]) fun z d=>z=.val .non/\d=aq (bz h w) by obtain⟨z,d,h1,rfl,rfl⟩:=q;exact h1
 unfold Ad;refine Q2 ?_ rfl rfl;refine P1 (Qg (M_ rfl (PF (bQ ?_))));refine P5 (stG lbP) _ _ w _ _ _ _ _ (fun p q ρ=>∃c2 c3,ρ=[.ow (aq (bz h p)),.sh (rwG lbP w),c2,c3]) ⟨_,_,rfl⟩ ?_ ?_
 ·rintro p s q ρ e ⟨c2,c3,rfl⟩;refine Dm.bx rfl (by trivial) ?_;have kp:Hok r (bz h p):=k.Aq fun u hu=>hw u (by rw[e];exact MJ _ hu);have len:=kp.len;unfold EJ;refine P6 (PJ (O_ (M_ rfl (Py rfl (QZ (i:=s.1 / 20) (j:=s.1 % 20) ?_ rfl rfl)))));refine Px ?_;rw[eG,NG,iR];refine PZ (fun hm=>?_) fun hm=>?_
  ·obtain⟨x,hx⟩:∃x,hdF (bz h p) s.1=some x:=NX.mp (by rw[iR];exact decide_eq_true hm);refine QH (Ro (p:=s.1 / 20) (q:=s.1 % 20) (d:=.int x) (by rw[eG,hx];rfl) ?_ rfl rfl rfl);refine⟨.sh (lbP s.1),.sh (.int s.2),?_⟩;rw[fW,jB,if_pos hm,(jV _ _).1,(jV _ _).2];rfl
  ·refine Rh (M_ rfl (PF (kT rfl (M_ rfl (kU (p:=s.1 / 20) (q:=s.1 % 20) ?_ rfl rfl (by trivial) ?_)))))
   ·refine⟨.sh (lbP s.1),.sh (.int s.2),?_⟩;rw[fW,jB,if_neg hm];obtain⟨p1,p2⟩:=q_ (ks:=hkP (bz h p)) (vs:=hv (bz h p)) (p:=pr s.1) (d:=.int s.2) (fun z=>hm (pK.mp z));unfold pr at p1 p2;rw[p1,p2];unfold aq hkP hv;rw[My,My];rfl
   ·unfold hkP;rw[Mj];unfold SZ;lia
 ·rintro ρ ⟨c2,c3,rfl⟩;exact⟨_,rfl,rfl,rfl⟩
noncomputable def aJ(r:List Int)(p:Int):List Step:=(r.filter fun c=>decide (Fd.src c=p)).map fun c=>(c,Fd.dst c)
theorem eN:s∈aJ r p↔s.1∈r/\Fd.src s.1=p/\Fd.dst s.1=s.2:=by
 unfold aJ;rw[Mt];constructor
 ·rintro⟨c,hc,rfl⟩;obtain⟨h1,h2⟩:=Mx.mp hc;exact⟨h1,of_decide_eq_true h2,rfl⟩
 ·rintro⟨h1,h2,h3⟩;exact⟨s.1,Mx.mpr ⟨h1,decide_eq_true h2⟩,by rw[h3]⟩
theorem gM(r:List Int)(p:Int):(aJ r p).length<=r.length:=by unfold aJ;rw[Mj];exact Nz _ _
def Dr(n:Nat)(r:List Int):Prop:=∀c∈r,0<=Fd.src c/\Fd.src c<n/\0<=Fd.dst c/\Fd.dst c<n
theorem rH(hp:Dr n r)(h:Fd.nR r x s):(0<=x/\x<n)/\0<=s.2/\s.2<n:=by
 obtain⟨hs,he⟩:=h;have:=hp s.1 hs
 lia
theorem uB(hR:∀p s,R p s->Fd.nR r p s):∀{w:List Step} {x:Int},Way R x w y->∀s∈w,s.1∈r
 |[],_,_,s,hs=>by cases hs
 |u::w,x,h,s,hs=>by
  rcases Ms.mp hs with rfl | hs
  ·exact(hR _ _ h.1).1
  ·exact uB hR h.2 s hs
theorem pL:InR (rG h (aJ r)) p s↔Fd.Led r (hdF h) p s:=by
 unfold InR rG Fd.Led;rw[Mx,eN,decide_eq_true_iff];constructor
 ·rintro⟨⟨h1,h2,h3⟩,h4⟩;exact⟨h1,h4,h2,h3⟩
 ·rintro⟨h1,h4,h2,h3⟩;exact⟨⟨h1,h2,h3⟩,h4⟩
theorem rJ(c:Int):aN (lbP c)=true:=by unfold lbP aN;exact gf _ (by intro x hx;simp at hx;rcases hx with rfl | rfl<;>exact jj _)
theorem xS(w:List Step):aN (rwG lbP w)=true:=gg _ _ fun s=>by unfold stG aN;exact gf _ (by intro x hx;simp at hx;rcases hx with rfl | rfl;exact rJ _;exact jj _)
theorem eO(n:Nat)(R:Int->List Step):aN (rsG lbP n R)=true:=gg (fun i:Nat=>rwG lbP (R i)) _ fun i=>xS _
noncomputable def mso(w:List Step):List Int:=w.map (·.1)
noncomputable def msD(w:List Step):Dat:=.lst ((mso w).map lbP)
noncomputable def bX(h:List (Int×Int)):List Int->List (Int×Int)
 |[]=>h
 |m::ms=>bX (h.filter fun e=>decide (e.1≠m)) ms
theorem jC:∀(ms:List Int) (h:List (Int×Int)) (m:Int),bX h (ms++[m])=(bX h ms).filter fun e=>decide (e.1≠m)
 |[],_,_=>rfl
 |_::ms,h,m=>by rw[N2,bX,bX,jC ms]
theorem gh:∀(w:List Step) (h:List (Int×Int)),hdF (bX h (mso w))=dQ (hdF h) w
 |[],_=>rfl
 |s::w,h=>by show hdF (bX _ (mso w))=dQ _ w;rw[gh w,k9]
theorem jD:∀(ms:List Int) (h:List (Int×Int)) (x:Int),x∉ms->hdF (bX h ms) x=hdF h x
 |[],_,_,_=>rfl
 |m::ms,h,x,hx=>by rw[bX,jD ms _ x fun z=>hx (Dk _ z),k9];unfold put;rw[if_neg fun z=>hx (by rw[z];exact Ds)]
theorem Hok.drops:∀{ms:List Int} {h:List (Int×Int)},Hok r h->Hok r (bX h ms)
 |[],_,k=>k
 |m::ms,h,k=>by rw[bX];exact Hok.drops (ms:=ms) (k.drop m)
theorem uC{H:Hd}:∀{w:List Step} {x:Int},Way (Fd.Led r H) x w y->∀s∈w,H s.1=some s.2
 |[],_,_,s,hs=>by cases hs
 |u::w,x,h,s,hs=>by
  rcases Ms.mp hs with rfl | hs
  ·exact h.1.2.1
  ·exact uC h.2 s hs
structure xT(r:List Int)(H:Hd)(a b:Int)(ws:List (List Step)):Prop where
 way:∀w∈ws,uz (Fd.Led r H) a w b
 nd:(ws.map mso).flatten.Nodup
theorem rK:∀{w:List Step} {H:Hd} {c x:Int},dQ H w c=some x->H c=some x
 |[],_,_,_,h=>h
 |s::w,H,c,x,h=>by
  have:=rK (w:=w) h;unfold put at this;split at this
  ·cases this
  ·exact this
noncomputable def xU(n:Nat)(r:List Int)(h0 h:List (Int×Int))(a b:Int)(c:Nat)(ws:List (List Step))(c7 c8 c9:Cell):Env:=
 [.sh (rsG lbP n (aJ r)),.sh (aq h0),.sh (.int a),.sh (.int b),.sh (.int c),.ow (aq h),.ow (.lst (ws.map msD)),c7,c8,c9]
theorem xV(n:Nat)(hn:n<=20)(r:List Int)(hp:Dr n r)(nd:r.Nodup)(hl:r.length<=1000)(h:List (Int×Int))(k:Hok r h)(a b:Int)(a0:0<=a)(a1:a<n)(c:Nat)(hc:c<=1000)(fl:Fd.Flow r (hdF h) a b c) :
  ∃ws:List (List Step),xQ [rsG lbP n (aJ r),aq h,.int a,.int b,.int c]=some (.new (.lst (ws.map msD)))/\ws.length=c/\xT r (hdF h) a b ws:=by
 suffices q:Wr (xQ [rsG lbP n (aJ r),aq h,.int a,.int b,.int c]) fun v=>∃ws:List (List Step),v=.new (.lst (ws.map msD))/\ws.length=c/\xT r (hdF h) a b ws by obtain⟨v,h1,ws,rfl,h2⟩:=q;exact⟨ws,h1,h2⟩
 have hsm:fP (hkP h)=true:=by
  unfold fP hkP;rw[List.all_map];refine M3.mpr fun e he=>?_;have:=hp e.1 (k.sub e.1 (Mt.mpr ⟨e,he,rfl⟩));unfold Fd.src Fd.dst at this;show decide (0<=e.1 / 20/\e.1 / 20<20/\0<=e.1 % 20/\e.1 % 20<20)=true;rw[decide_eq_true_iff]
  lia
 unfold xQ
 (refine Dm.PM ?_ rfl rfl;and_intros)
 refine Pr (PD (PY (m_ (M_ rfl (N_ (RQ (ks:=hkP h) (vs:=hv h) ?_ rfl hsm))))) (by decide));refine PB ?_ (by trivial);refine Pr (PD (Qe (N_ (PU ?_ rfl rfl (by decide)))) (by decide));refine PB ?_ (by trivial);refine Pr (P1 (Qa (M_ rfl (bL.mk ⟨?_,by unfold BIG;lia,by unfold BIG;lia⟩))));refine P5 (fun i:Nat=>Dat.int (0+(i:Nat))) _ _ (Mv c) _ _ _ _ _ (fun p q ρ=>∃(h':List (Int×Int)) (ws:List (List Step)) (c7 c8 c9:Cell),ρ=xU n r h h' a b c ws c7 c8 c9/\Hok r h'/\ws.length=p.length/\Fd.Flow r (hdF h') a b q.length/\xT r (hdF h) a b ws/\(∀m∈(ws.map mso).flatten,hdF h' m=none)/\∀c x,hdF h' c=some x->hdF h c=some x)
  ⟨h,[],_,_,_,rfl,k,rfl,by rw[MT];exact fl,⟨by simp,by simp⟩,by simp,fun _ _ z=>z⟩ ?_ ?_
 ·rintro p x q ρ e ⟨h',ws,c7,c8,c9,rfl,k',wl,fl',W,hno,hle⟩;rw[M0]at fl';unfold xU;refine Dm.bx rfl (by trivial) ?_;unfold EL;have hR:∀i:Nat,i<n->(aJ r i).length<=1000:=fun i _=>MH (gM r i) hl;obtain⟨s,es,F,hd⟩:=k7 lbP n (by lia) (rG h' (aJ r)) (fun i _ _ u hu=>(rH hp ((pL (h:=h')).mp hu).along).2) a a0 a1;have hb:b∈sk s:=by
   have:=fl'.reach (S:=fun y=>decide (y∈sk s)) (decide_eq_true F.st) fun y u hy hu=>decide_eq_true (hd y (of_decide_eq_true hy) u (pL.mpr hu));exact of_decide_eq_true this
  obtain⟨w,t1,t2⟩:∃w,(b,w)∈s/\bZ (sk s) (svG lbP s) b=some (rwG lbP w):=by
   rcases pI lbP s b with h | h
   ·exact h
   ·exact absurd hb h.1
  obtain⟨⟨w1,w2⟩,_⟩:=F.way _ t1;have uA:=F.uA t1;have Mi:=F.len;dsimp only at w1 w2 uA;have w1':Way (Fd.Led r (hdF h')) a w b:=w1.mono fun _ _ z=>pL.mp z;have wm:=Fd.gG (fun p s h=>h.along) w1' w2;have Hw:iS (e2 gDx (eF kW [(jh Ac [(eV 0),(eV 5)]),(eV 2)]) (eV 3)) [.sh (rsG lbP n (aJ r)),.sh (aq h),.sh (.int a),.sh (.int b),.sh (.int c),.ow (aq h'),.ow (.lst (ws.map msD)),.sh (.int (0+(x:Nat))),c8,c9]
    = some (w.map (stG lbP),[.sh (rsG lbP n (aJ r)),.sh (aq h),.sh (.int a),.sh (.int b),.sh (.int c),.ow (aq h'),.ow (.lst (ws.map msD)),.sh (.int (0+(x:Nat))),c8,c9]):=by
   apply Qc;refine Qg (O_ (PL (m_ (Qw (m_ (M_ rfl (m_ (Py rfl (N_ ?_)))))))));refine⟨_,_,_,rfl,pJ n (by lia) (aJ r) hR h',eO _ _,?_⟩;refine m_ (M_ rfl (N_ (PK es ?_ rfl rfl rfl rfl)));refine M_ rfl (QT t2 ?_ rfl rfl);exact PF (bQ ⟨rfl,rfl⟩)
  refine Pr (PD (QD (stG lbP) w (fun s=>s.1) lbP ?_ Hw rfl (by decide) (by unfold SZ;lia) fun s _=>O_ (M_ rfl (Pu (Pw (PF ⟨rfl,rfl⟩) rfl rfl rfl)))) (by decide));refine PB ?_ (by trivial);refine Pr (P1 (Qg (Py rfl (QN (bQ ?_) rfl (by trivial)))));refine P5 lbP _ _ (mso w) _ _ _ _ _ (fun pm qm ρ=>∃c9,ρ=xU n r h (bX h' pm) a b c ws (.sh (.int (0+(x:Nat)))) (.sh (msD w)) c9) ⟨_,rfl⟩ ?_ ?_
  ·rintro pm m qm ρ em ⟨c9,rfl⟩;unfold xU;refine Dm.bx rfl (by trivial) ?_;unfold EK;have hm:m∉pm:=by
    have:(mso w).Nodup:=wm;rw[em]at this;exact fun z=>(Nh.mp this).2.2 m z m Ds rfl
   have hmw:m∈mso w:=by rw[em];simp
   obtain⟨st,hst,rfl⟩:=Mt.mp hmw;have hx:hdF (bX h' pm) st.1=some st.2:=by rw[jD pm h' st.1 hm];exact uC w1' st hst
   refine QH (Ro (p:=st.1 / 20) (q:=st.1 % 20) (d:=.int st.2) (by rw[eG,hx];rfl) ?_ rfl rfl rfl);refine⟨.sh (lbP st.1),?_⟩;rw[jC,(jV _ _).1,(jV _ _).2];rfl
  ·rintro ρ ⟨c9,rfl⟩;unfold xU;refine Qu (M_ rfl (PF (ji ?_ rfl (by trivial) ?_))) rfl
   ·have fl2:=fl'.less nd w1' w2;rw[<- gh]at fl2;refine⟨bX h' (mso w),ws++[w],.sh (.int (0+(x:Nat))),.sh (msD w),c9,?_,k'.drops,by simp[wl],fl2,⟨fun v hv=>?_,?_⟩,fun m hm=>?_,fun c x z=>hle c x (rK (by rw[<- gh];exact z))⟩
    ·rw[My];rfl
    ·rcases Mw.mp hv with hv | hv
     ·exact W.way v hv
     ·rw[Mr.mp hv];exact⟨w1'.mono fun _ _ z=>⟨z.1,hle _ _ z.2.1,z.2.2⟩,w2⟩
    ·rw[My,List.flatten_append];refine Nh.mpr ⟨W.nd,by rw[gc,Ob,Nx,List.flatten_nil,Nc];exact wm,fun m hm z hz=>?_⟩;intro e;subst e;have:m∈mso w:=by simpa using hz
     obtain⟨st,hst,rfl⟩:=Mt.mp this;have h1:=uC w1' st hst;rw[hno _ hm]at h1;cases h1
    ·rw[My,List.flatten_append]at hm;rw[gh];rcases Mw.mp hm with hm | hm
     ·by_cases z:m∈mso w
      ·exact gF z
      ·rw[fT fun u hu e=>z (Mt.mpr ⟨u,hu,e⟩)];exact hno m hm
     ·rw[gc,Ob,Nx,List.flatten_nil,Nc]at hm;exact gF hm
   ·rw[Mj,wl];have:=congrArg List.length e;rw[MT,MA]at this;unfold SZ;lia
 ·rintro ρ ⟨h',ws,c7,c8,c9,rfl,k',wl,fl',W,hno,hle⟩;unfold xU;refine PR (Py rfl (P9 ?_ rfl));exact⟨ws,rfl,by rw[wl,MT],W⟩
noncomputable def aQ(t:Tie):Dat:=.tup [.int t.m,.int t.a,.int t.b]
noncomputable def aD(r:List Tie):Dat:=.lst (r.map aQ)
def Pl(n:Nat)(r:List Tie):Prop:=∀t∈r,0<=t.a/\t.a<n/\0<=t.b/\t.b<n
theorem C3{ρ ρ1 ρ2 ρ3:Env}{rows:List (List Dat)}{m:Nat}{row:List Dat}{x:Val}(h1:i ρ=some (.val (.int k),ρ1))(h2:ixN rows.length k=some m)(h3:rows[m]?=some row)(h4:e ρ1=some (x,ρ2))(h5:tk ρ2 x=some (d,ρ3))(h6:row.length<SZ) :
  o6 i e ρ rows=some (ρ3,rows.set m (row++[d])):=by
 unfold o6;rw[h1];dsimp only;rw[h2];dsimp only;rw[h3];dsimp only;rw[h4];dsimp only;rw[h5];dsimp only;rw[if_pos h6]
theorem Hz(h0:0<=k)(h1:k<n):ixN n k=some k.toNat:=by unfold ixN;rw[if_pos h0,if_pos h1]
theorem uD(pre:Env)(k:Nat)(hk:pre.length=k)(h0:k≠0):∀(ds:List Dat) (c:Cell),∃c',nMk (bN k) ds (pre++[c])=some (pre++[c'])
 |[],c=>⟨c,rfl⟩
 |d::ds,c=>by
  obtain⟨c',e⟩:=uD pre k hk h0 ds (.sh d);refine⟨c',?_⟩;rw[nMk];have:bN k d (pre++[c])=some (pre++[.sh d]):=by unfold bN;rw[if_neg h0,Ox _ _ (by lia)];simp[hk]
  rw[this];exact e
noncomputable def a_(n:Nat)(R:Int->List Step):List (List Dat):=(Mv n).map fun i:Nat=>(R i).map (stG lbP)
noncomputable def pM(R:Int->List Step)(k:Int)(s:Step):Int->List Step:=fun x=>if x=k then R x++[s] else R x
theorem gi(n:Nat)(R:Int->List Step):(a_ n R).length=n:=by simp[a_]
theorem jl(n:Nat)(R:Int->List Step)(i:Nat)(h:i<n):(a_ n R)[i]?=some ((R i).map (stG lbP)):=by unfold a_;rw[MS,NK h];rfl
theorem xW(n:Nat)(R:Int->List Step)(k:Int)(s:Step)(h0:0<=k)(h1:k<n):(a_ n R).set k.toNat ((R k).map (stG lbP)++[stG lbP s])=a_ n (pM R k s):=by
 apply N7;intro i;by_cases hi:i<n
 ·rw[jl _ _ _ hi];unfold pM;by_cases e:k.toNat=i
  ·have e':(i:Int)=k:=by lia
   rw[<- e,MN (by rw[gi];lia),e,if_pos e',e',My];rfl
  ·rw[gV e,jl _ _ _ hi,if_neg (by lia)]
 ·rw[M8 (by rw[MX,gi];lia),M8 (by rw[gi];lia)]
theorem nZ(n:Nat):a_ n (fun _=>[])=Mk n []:=by
 unfold a_;apply N7;intro i;by_cases hi:i<n
 ·rw[MS,NK hi,Nb,if_pos hi];rfl
 ·rw[M8 (by simp;lia),M8 (by simp;lia)]
theorem rL(n:Nat)(R:Int->List Step):Dat.lst ((a_ n R).map Dat.lst)=rsG lbP n R:=by unfold a_ rsG;rw[MI];rfl
theorem pN(n:Nat)(R:Int->List Step)(k:Int)(s:Step)(h0:0<=k)(h1:k<n)(hl:(R k).length<10000){ρ:Env}(hi:i ρ=some (.val (.int k),ρ))(he:e ρ=some (.val (stG lbP s),ρ)):o6 i e ρ (a_ n R)=some (ρ,a_ n (pM R k s)):=by
 have hz:SZ=100000:=rfl;have ek:((k.toNat:Nat):Int)=k:=by lia
 rw[C3 (k:=k) (m:=k.toNat) (row:=(R k).map (stG lbP)) (d:=stG lbP s) (ρ3:=ρ) hi (by rw[gi];exact Hz h0 h1) (by rw[jl _ _ _ (by lia),ek]) he rfl (by rw[Mj];lia),xW n R k s h0 h1]
theorem rM(p:List Int)(c:Int):pM (aJ p) (Fd.src c) (c,Fd.dst c)=aJ (p++[c]):=by
 funext x
 unfold pM aJ;rw[List.filter_append,My];by_cases e:x=Fd.src c
 ·rw[if_pos e,MV (by simp[e])];rfl
 ·rw[if_neg e,MQ (by simp;exact fun z=>e z.symm)];simp
theorem rN(n:Nat)(c0 c1 c2 c3:Cell):∀(q p:List Int) (c4:Cell),Dr n q->p.length+q.length<=1000 ->
  ∃c4',cE (bN 4) eE (q.map lbP) [c0,c1,c2,c3,c4] (a_ n (aJ p))=some ([c0,c1,c2,c3,c4'],a_ n (aJ (p++q)))
 |[],p,c4,_,_=>⟨c4,by rw[Nc];rfl⟩
 |c::q,p,c4,hp,hl=>by
  obtain⟨a0,a1,_,_⟩:=hp c Ds;rw[M0]at hl;obtain⟨c4',e⟩:=rN n c0 c1 c2 c3 q (p++[c]) (.sh (lbP c)) (fun u hu=>hp u (Dk _ hu)) (by rw[MA,NP];lia);refine⟨c4',?_⟩;rw[gc,cE];have sl:=gM p (Fd.src c);have h1:eE [c0,c1,c2,c3,.sh (lbP c)] (a_ n (aJ p))=some ([c0,c1,c2,c3,.sh (lbP c)],a_ n (aJ (p++[c]))):=by unfold eE;rw[pN n (aJ p) (Fd.src c) (c,Fd.dst c) a0 a1 (by lia) rfl rfl,rM]
  show (match eE [c0,c1,c2,c3,.sh (lbP c)] (a_ n (aJ p)) with | none=>none | some (ρ2,r2)=>cE (bN 4) eE (q.map lbP) ρ2 r2)=_;rw[h1];dsimp only;rw[e,NF];rfl
noncomputable def thr(n:Nat):List Int:=(Mv n).map fun p:Nat=>20*(p:Int)+((n:Int)+p)
theorem C4(n:Nat)(hn:n<=10):(thr n).map lbP=(Mv n).map fun p:Nat=>Dat.tup [.int (p:Int),.int ((n:Int)+p)]:=by unfold thr;rw[MI];refine Ng fun p hp=>?_;have:=MR.mp hp;show lbP _=_;unfold lbP;rw[show (20*(p:Int)+((n:Int)+p)) / 20=(p:Int) by lia,show (20*(p:Int)+((n:Int)+p)) % 20=(n:Int)+p by lia]
theorem n5(K:List (Int×Int)):(hkP K).map pairD=(hk K).map lbP:=by unfold hkP hk;rw[MI,MI];rfl
theorem RI{s:FS}{ρ ρ':Env}(h:Ws s ρ (fun x=>x=ρ') (fun _ _=>False) (fun _=>False) (fun _=>False)):s ρ=some (.nx ρ'):=by
 obtain⟨o,e,h⟩:=h;cases o with
 |nx ρ1=>rw[e,show ρ1=ρ' from h]
 |_=>exact h.elim
theorem Ar(n:Nat):ups 0 n=(Mv n).map fun i:Nat=>Dat.int (i:Int):=by unfold ups;exact Ng fun i _=>by rw[Pn]
theorem As(n:Nat)(n10:n<=10)(K:List (Int×Int))(hK:Dr (2*n) (hk K))(hl:K.length<=900) :
  vZ [.int n,aq K]=some (.new (rsG lbP (2*n) (aJ (hk K++thr n)))):=by
 have hz:SZ=100000:=rfl;have tl:(thr n).length=n:=by simp[thr]
 have kl:(hk K).length=K.length:=by simp[hk]
 have hT:Dr (2*n) (thr n):=fun c hc=>by
  obtain⟨p,hp,rfl⟩:=Mt.mp hc;have:=MR.mp hp;unfold Fd.src Fd.dst
  lia
 obtain⟨c4,e⟩:=rN (2*n) (.sh (.int n)) (.sh (aq K)) .un (.ow (.lst ((thr n).map lbP))) (hk K++thr n) [] .un (fun c hc=>(Mw.mp hc).elim (hK c) (hT c)) (by rw[MA];simp;lia);obtain⟨c',eM⟩:=uD [.sh (.int n),.sh (aq K),.un,.un,.un] 5 rfl (by decide) (ups 0 (2*n)) .un;have hu:(ups 0 (2*n)).length=2*n:=by simp[ups]
 have e1:iR1 (e2 fD (eC (.int 2)) (eV 0)) [.sh (.int n),.sh (aq K),.un,.un,.un]=some (ups 0 (2*n),[.sh (.int n),.sh (aq K),.un,.un,.un]):=by apply Qc;refine Qa (O_ (Pu (M_ rfl (QB (bL.mk ⟨⟨?_,rfl⟩,by unfold BIG;lia⟩) rfl rfl (.inl (by unfold B64;lia))))));rw[show ((2:Int)*(n:Int)).toNat=2*n by lia]
 have eS:aJ []=fun _=>[]:=by funext x;rfl
 rw[eS,nZ,Of]at e;have eA:sA 3 (bD (iR1 (eV 0)) 1 (bN 5) bS (cN [(eV 5),(e2 bu (eV 0) (eV 5))])) [.sh (.int n),.sh (aq K),.un,.un,.un]=some (.nx [.sh (.int n),.sh (aq K),.un,.ow (.lst ((thr n).map lbP)),.un]):=by
  apply RI;refine PD (QD (fun i:Nat=>Dat.int (i:Int)) (Mv n) (fun p:Nat=>Dat.tup [.int (p:Int),.int ((n:Int)+p)]) id ?_ (Qc (Qa (M_ rfl (bL.mk ⟨⟨?_,rfl⟩,by unfold BIG;lia⟩)))) rfl (by decide) (by rw[MT];lia) fun p _=>?_) (by decide)
  ·rw[Nm,<- C4 n n10];exact PB rfl (by trivial)
  ·rw[M7,Ar]
  ·exact Qo (m_ (M_ rfl (m_ (O_ (M_ rfl (M_ rfl (PX (N_ (PU (PF ⟨rfl,rfl⟩) rfl rfl (by exact MC rfl))) rfl rfl)))))))
 have eL:iS (e2 bu (eB dm [(eV 1)]) (eV 3)) [.sh (.int n),.sh (aq K),.un,.ow (.lst ((thr n).map lbP)),.un]=some ((hk K++thr n).map lbP,[.sh (.int n),.sh (aq K),.un,.ow (.lst ((thr n).map lbP)),.un]):=by
  apply Qc;refine Qg (O_ (PY (m_ (M_ rfl (N_ (RO (ks:=hkP K) (vs:=hv K) (Py rfl (Q0 ?_ rfl rfl ?_)) rfl ?_))))))
  ·rw[n5,<- My];exact P_ (bQ ⟨rfl,rfl⟩)
  ·rw[n5,Mj,Mj];lia
  ·unfold hkP;rw[Mj];lia
 have en:e8 2 (iR1 (e2 fD (eC (.int 2)) (eV 0))) 1 (bN 5) (qH (nA 2 3 (bD (iR1 (eV 0)) 1 (bN 5) bS (cN [(eV 5),(e2 bu (eV 0) (eV 5))]))) (iN (iS (e2 bu (eB dm [(eV 1)]) (eV 3))) (bN 4) eE)) [.sh (.int n),.sh (aq K),.un,.un,.un]=some (.nx [.sh (.int n),.sh (aq K),.ow (rsG lbP (2*n) (aJ (hk K++thr n))),.ow (.lst ((thr n).map lbP)),c4]):=by
  unfold e8;rw[if_neg (by decide),e1];dsimp only;rw[if_pos (by rw[hu];lia)];show (match nMk (bN 5) (ups 0 (2*n)) ([.sh (.int n),.sh (aq K),.un,.un,.un]++[.un]) with | none=>none | some ρ2=>_)=_;rw[eM];dsimp only;rw[hu];have:qH (nA 2 3 (bD (iR1 (eV 0)) 1 (bN 5) bS (cN [(eV 5),(e2 bu (eV 0) (eV 5))]))) (iN (iS (e2 bu (eB dm [(eV 1)]) (eV 3))) (bN 4) eE) [.sh (.int n),.sh (aq K),.un,.un,.un] (Mk (2*n) [])=some ([.sh (.int n),.sh (aq K),.un,.ow (.lst ((thr n).map lbP)),c4],a_ (2*n) (aJ (hk K++thr n))):=by unfold qH nA;rw[if_neg (by decide),eA];dsimp only;unfold iN;rw[eL];exact e
  show (match qH (nA 2 3 (bD (iR1 (eV 0)) 1 (bN 5) bS (cN [(eV 5),(e2 bu (eV 0) (eV 5))]))) (iN (iS (e2 bu (eB dm [(eV 1)]) (eV 3))) (bN 4) eE) [.sh (.int n),.sh (aq K),.un,.un,.un] (Mk (2*n) []) with | none=>none | some (ρ3,r3)=>_)=_;rw[this];show some (Out.nx [.sh (.int n),.sh (aq K),.ow (.lst ((a_ (2*n) (aJ (hk K++thr n))).map Dat.lst)),.ow (.lst ((thr n).map lbP)),c4])=_;rw[rL]
 apply P0;unfold vZ
 (refine Dm.PM ?_ rfl rfl;and_intros)
 refine Pr ⟨_,en,?_⟩;refine PR (Py rfl (P9 ?_ rfl));rfl
noncomputable def putL(h:List (Int×Int))(c m:Int):List (Int×Int):=if c∈hk h then h.map fun e=>if e.1=c then (e.1,m) else e else h++[(c,m)]
theorem rO(h:List (Int×Int))(c m:Int):nI (hkP h) (hv h) (c / 20,c % 20) (.int m)=hv (h.map fun e=>if e.1=c then (e.1,m) else e)/\hkP (h.map fun e=>if e.1=c then (e.1,m) else e)=hkP h:=by
 unfold hkP hv
 induction h with
 |nil=>exact⟨rfl,rfl⟩
 |cons e h ih=>
  rw[gc,gc,gc,gc,gc,nI,ih.1,ih.2];by_cases q:e.1=c
  ·rw[if_pos (by rw[q];rfl),if_pos q];exact⟨rfl,rfl⟩
  ·rw[if_neg (fun z:pr e.1=(c / 20,c % 20)=>q (k8 z)),if_neg q];exact⟨rfl,rfl⟩
theorem Au(h:List (Int×Int))(c m:Int):Dat.dcp (cu (hkP h) (c / 20,c % 20)) (dj (hkP h) (hv h) (c / 20,c % 20) (.int m))=aq (putL h c m):=by
 by_cases q:c∈hk h
 ·have hp:kO (hkP h) (c / 20,c % 20)=true:=by
   unfold kO;rw[List.any_eq_true];exact⟨pr c,pK.mpr q,decide_eq_true rfl⟩
  unfold cu dj putL aq;rw[hp,if_pos rfl,if_pos rfl,if_pos q,(rO h c m).1,(rO h c m).2]
 ·obtain⟨p1,p2⟩:=q_ (ks:=hkP h) (vs:=hv h) (p:=pr c) (d:=.int m) (fun z=>q (pK.mp z));unfold pr at p1 p2;rw[p1,p2];unfold putL aq;rw[if_neg q];unfold hkP hv;rw[My,My];rfl
theorem rP{c m x:Int}:x∈hk (putL h c m)↔x∈hk h\/x=c:=by
 unfold putL;by_cases q:c∈hk h
 ·rw[if_pos q];have:hk (h.map fun e=>if e.1=c then (e.1,m) else e)=hk h:=by
   unfold hk;rw[MI];refine Ng fun e _=>?_;show (if e.1=c then (e.1,m) else e).1=e.1;split<;>rfl
  rw[this];exact⟨.inl,fun z=>z.elim id fun e=>e▸q⟩
 ·rw[if_neg q];unfold hk;rw[My,Mw];simp
theorem k_{c m:Int}(nd:(hk h).Nodup):(hk (putL h c m)).Nodup:=by
 unfold putL;by_cases q:c∈hk h
 ·rw[if_pos q];have:hk (h.map fun e=>if e.1=c then (e.1,m) else e)=hk h:=by
   unfold hk;rw[MI];refine Ng fun e _=>?_;show (if e.1=c then (e.1,m) else e).1=e.1;split<;>rfl
  rw[this];exact nd
 ·rw[if_neg q];unfold hk;rw[My];exact Nh.mpr ⟨nd,by simp,fun x hx y hy=>by
   have:y=c:=by simpa using hy
   rw[this];exact fun e=>q (e▸hx)⟩
theorem lg(h:List (Int×Int))(c m:Int):(putL h c m).length<=h.length+1:=by
 unfold putL;split
 ·rw[Mj];lia
 ·simp
noncomputable def cd(n:Nat)(u v:Int):Int:=20*((n:Int)+u)+v
noncomputable def Av(n:Nat)(h:List (Int×Int))(t:Tie):List (Int×Int):=if t.a=t.b then h else putL (putL h (cd n t.a t.b) t.m) (cd n t.b t.a) t.m
noncomputable def aR(n:Nat)(r:List Tie):List (Int×Int):=r.foldl (Av n) []
theorem jm(n:Nat)(r:List Tie)(t:Tie):aR n (r++[t])=Av n (aR n r) t:=by unfold aR;rw[List.foldl_append];rfl
structure Mom(n:Nat)(r:List Tie)(h:List (Int×Int)):Prop where
 nd:(hk h).Nodup
 mem:∀c,c∈hk h↔∃t∈r,t.a≠t.b/\(c=cd n t.a t.b\/c=cd n t.b t.a)
 len:h.length<=2*r.length
theorem lq(n:Nat)(r:List Tie):Mom n r (aR n r):=by
 suffices h:∀q p:List Tie,Mom n p (aR n p)->Mom n (p++q) (aR n (p++q)) from h r [] ⟨by simp[aR,hk],by simp[aR,hk],by simp[aR]⟩
 intro q
 induction q with
 |nil=>intro p h;rw[Nc];exact h
 |cons t q ih=>
  intro p h;rw[show p++t::q=(p++[t])++q by simp];refine ih _ ?_;rw[jm];unfold Av;by_cases e:t.a=t.b
  ·rw[if_pos e];refine⟨h.nd,fun c=>(h.mem c).trans ⟨fun⟨u,hu,k⟩=>⟨u,MJ _ hu,k⟩,?_⟩,by have:=h.len;rw[MA];simp;lia⟩;rintro⟨u,hu,k1,k2⟩;rcases Mw.mp hu with hu | hu
   ·exact⟨u,hu,k1,k2⟩
   ·rw[Mr.mp hu]at k1;exact(k1 e).elim
  ·rw[if_neg e];refine⟨k_ (k_ h.nd),fun c=>?_,?_⟩
   ·rw[rP,rP,h.mem c];constructor
    ·rintro((⟨u,hu,k⟩ | k) | k)
     ·exact⟨u,MJ _ hu,k⟩
     ·exact⟨t,MK _ (Mr.mpr rfl),e,.inl k⟩
     ·exact⟨t,MK _ (Mr.mpr rfl),e,.inr k⟩
    ·rintro⟨u,hu,k1,k2⟩;rcases Mw.mp hu with hu | hu
     ·exact .inl (.inl ⟨u,hu,k1,k2⟩)
     ·rw[Mr.mp hu]at k2;exact k2.elim (fun z=>.inl (.inr z)) .inr
   ·have l1:=lg (putL (aR n p) (cd n t.a t.b) t.m) (cd n t.b t.a) t.m;have l2:=lg (aR n p) (cd n t.a t.b) t.m;have:=h.len;rw[MA];simp
    lia
theorem cQ{u v:Int}(h0:0<=v)(h1:v<20):cd n u v / 20=(n:Int)+u/\cd n u v % 20=v:=by
 unfold cd
 lia
theorem uE(n:Nat)(n10:n<=10)(r:List Tie)(hp:Pl n r)(hl:r.length<=400):vY [.int n,aD r]=some (.new (aq (aR n r))):=by
 have hz:SZ=100000:=rfl;apply P0;unfold vY
 (refine Dm.PM ?_ rfl rfl;and_intros)
 refine Pr (PD (Rk (PB ?_ (by trivial))) (by decide));refine Pr (P1 (Qg (M_ rfl (PF (bQ ?_)))));refine P5 aQ _ _ r _ _ _ _ _ (fun p q ρ=>∃c3 c4 c5,ρ=[.sh (.int n),.sh (aD r),.ow (aq (aR n p)),c3,c4,c5]) ⟨_,_,_,rfl⟩ ?_ ?_
 ·rintro p t q ρ e ⟨c3,c4,c5,rfl⟩;have ht:t∈r:=by rw[e];simp
  obtain⟨a0,a1,b0,b1⟩:=hp t ht;have ml:=(lq n p).len;have pl:p.length<=r.length:=by rw[e];simp
  refine Dm.bx rfl (by trivial) ?_;unfold Ag;rw[jm];unfold Av;refine P6 (PJ (O_ (M_ rfl (M_ rfl (Qp (Px ?_) rfl rfl)))));by_cases h:t.a=t.b
  ·rw[decide_eq_true h,if_pos h];refine Qh (PV ?_);exact⟨_,_,_,rfl⟩
  ·rw[decide_eq_false h,if_neg h];refine Qk (Pr (Rh (M_ rfl (PF (kT rfl ?_)))));have e1:=cQ (n:=n) (u:=t.a) (v:=t.b) b0 (by lia);have e2':=cQ (n:=n) (u:=t.b) (v:=t.a) a0 (by lia);have l2:=lg (aR n p) (cd n t.a t.b) t.m;refine Qo (m_ (O_ (M_ rfl (M_ rfl (PX (m_ (M_ rfl (N_ (PU ?_ rfl rfl (by exact MC rfl))))) rfl rfl)))));refine kU (p:=(n:Int)+t.a) (q:=t.b) (ks:=hkP (aR n p)) (vs:=hv (aR n p)) ?_ rfl rfl rfl (by unfold hkP;rw[Mj];lia);have k1:=Au (aR n p) (cd n t.a t.b) t.m;rw[e1.1,e1.2]at k1;rw[k1];refine Rh (M_ rfl (PF (kT rfl ?_)));refine Qo (m_ (O_ (M_ rfl (M_ rfl (PX (m_ (M_ rfl (N_ (PU ?_ rfl rfl (by exact MC rfl))))) rfl rfl)))));refine kU (p:=(n:Int)+t.b) (q:=t.a) (ks:=hkP (putL (aR n p) (cd n t.a t.b) t.m)) (vs:=hv (putL (aR n p) (cd n t.a t.b) t.m)) ?_ rfl rfl rfl (by unfold hkP;rw[Mj];lia);have k2:=Au (putL (aR n p) (cd n t.a t.b) t.m) (cd n t.b t.a) t.m;rw[e2'.1,e2'.2]at k2;rw[k2];exact⟨_,_,_,rfl⟩
 ·rintro ρ ⟨c3,c4,c5,rfl⟩;exact PR (Py rfl (P9 rfl rfl))
noncomputable def freeOf(H:Hd)(q:List (Int×Step))(x:Int):List Step:=q.filterMap fun e=>if (H e.2.1).isSome=true then (if x=e.2.2 then some (e.2.1,e.1) else none) else if x=e.1 then some e.2 else none
theorem lu(H:Hd)(q:List (Int×Step))(x:Int):(freeOf H q x).length<=q.length:=List.length_filterMap_le _ _
theorem xX(H:Hd)(q:List (Int×Step))(d:Int)(u:Step)(h:(H u.1).isSome=true):pM (freeOf H q) u.2 (u.1,d)=freeOf H (q++[(d,u)]):=by
 funext x
 unfold pM freeOf;rw[List.filterMap_append];by_cases e:x=u.2
 ·rw[if_pos e];simp[h,e]
 ·rw[if_neg e];simp[h,e]
theorem uF(H:Hd)(q:List (Int×Step))(d:Int)(u:Step)(h:¬(H u.1).isSome=true):pM (freeOf H q) d u=freeOf H (q++[(d,u)]):=by
 funext x
 unfold pM freeOf;rw[List.filterMap_append];by_cases e:x=d
 ·rw[if_pos e];simp[h,e]
 ·rw[if_neg e];simp[h,e]
theorem rQ(n:Nat)(h:List (Int×Int))(c0 c2 c4:Cell)(d:Int)(d0:0<=d)(d1:d<n):∀(w:List Step) (Q:List (Int×Step)) (c5 c6:Cell),(∀u∈w,0<=u.2/\u.2<n)->Q.length+w.length<=9000 ->
  ∃c5' c6',cE (bT [5,6]) gJ (w.map (stG lbP)) [c0,.sh (aq h),c2,.sh (.int d),c4,c5,c6] (a_ n (freeOf (hdF h) Q))=some ([c0,.sh (aq h),c2,.sh (.int d),c4,c5',c6'],a_ n (freeOf (hdF h) (Q++w.map fun u=>(d,u))))
 |[],Q,c5,c6,_,_=>⟨c5,c6,by simp;rfl⟩
 |u::w,Q,c5,c6,hw,hl=>by
  rw[M0]at hl;obtain⟨u0,u1⟩:=hw u Ds;obtain⟨c5',c6',e⟩:=rQ n h c0 c2 c4 d d0 d1 w (Q++[(d,u)]) (.sh (lbP u.1)) (.sh (.int u.2)) (fun v hv=>hw v (Dk _ hv)) (by rw[MA,NP];lia);refine⟨c5',c6',?_⟩;rw[gc,cE];have fl1:=lu (hdF h) Q d;have fl2:=lu (hdF h) Q u.2;have ht:tV (e2 gp (eV 5) (eV 1)) [c0,.sh (aq h),c2,.sh (.int d),c4,.sh (lbP u.1),.sh (.int u.2)]=some ((hdF h u.1).isSome,[c0,.sh (aq h),c2,.sh (.int d),c4,.sh (lbP u.1),.sh (.int u.2)]):=by refine Q3 (PJ (O_ (M_ rfl (M_ rfl (QZ (i:=u.1 / 20) (j:=u.1 % 20) (Px ?_) rfl rfl)))));rw[eG,NG];exact⟨rfl,rfl⟩
  have h1:gJ [c0,.sh (aq h),c2,.sh (.int d),c4,.sh (lbP u.1),.sh (.int u.2)] (a_ n (freeOf (hdF h) Q))=some ([c0,.sh (aq h),c2,.sh (.int d),c4,.sh (lbP u.1),.sh (.int u.2)],a_ n (freeOf (hdF h) (Q++[(d,u)]))):=by
   unfold gJ nIf;rw[ht];by_cases q:(hdF h u.1).isSome=true
   ·rw[q];dsimp only;rw[pN n _ u.2 (u.1,d) u0 u1 (by lia) rfl rfl,xX _ _ _ _ q]
   ·rw[Bool.eq_false_iff.mpr q];dsimp only;rw[pN n _ d u d0 d1 (by lia) rfl rfl,uF _ _ _ _ q]
  show (match gJ [c0,.sh (aq h),c2,.sh (.int d),c4,.sh (lbP u.1),.sh (.int u.2)] (a_ n (freeOf (hdF h) Q)) with | none=>none | some (ρ2,r2)=>cE (bT [5,6]) gJ (w.map (stG lbP)) ρ2 r2)=_;rw[h1];dsimp only;rw[e,NF];rfl
noncomputable def prs(R:Int->List Step)(j k:Nat):List (Int×Step):=(O8 j k).flatMap fun i:Nat=>(R i).map fun u=>((i:Int),u)
theorem rR(n:Nat)(h:List (Int×Int))(R:Int->List Step)(hR:∀i:Nat,i<n->∀u∈R i,0<=u.2/\u.2<n)(hL:∀i:Nat,(R i).length<=400)(c0 c2:Cell):∀(k j:Nat) (Q:List (Int×Step)) (c3 c4 c5 c6:Cell),j+k<=n->Q.length+400*k<=9000 ->
  ∃c3' c4' c5' c6',cE (bT [3,4]) dw (iM j ((O8 j k).map fun i:Nat=>rwG lbP (R i))) [c0,.sh (aq h),c2,c3,c4,c5,c6] (a_ n (freeOf (hdF h) Q))=some ([c0,.sh (aq h),c2,c3',c4',c5',c6'],a_ n (freeOf (hdF h) (Q++prs R j k)))
 |0,j,Q,c3,c4,c5,c6,_,_=>⟨c3,c4,c5,c6,by simp[prs];rfl⟩
 |k+1,j,Q,c3,c4,c5,c6,hj,hq=>by
  have l1:=hL j;obtain⟨c5',c6',e1⟩:=rQ n h c0 c2 (.sh (rwG lbP (R j))) (j:Int) (by lia) (by lia) (R j) Q c5 c6 (hR j (by lia)) (by lia);obtain⟨c3',c4',d5,d6,e2⟩:=rR n h R hR hL c0 c2 k (j+1) (Q++(R j).map fun u=>((j:Int),u)) (.sh (.int (j:Int))) (.sh (rwG lbP (R j))) c5' c6' (by lia) (by rw[MA,Mj];lia);refine⟨c3',c4',d5,d6,?_⟩;rw[List.range'_succ,gc];show cE (bT [3,4]) dw (.tup [.int (j:Int),rwG lbP (R j)]::iM (j+1) ((O8 (j+1) k).map fun i:Nat=>rwG lbP (R i))) _ _=_;rw[cE];have h1:dw [c0,.sh (aq h),c2,.sh (.int (j:Int)),.sh (rwG lbP (R j)),c5,c6] (a_ n (freeOf (hdF h) Q))=some ([c0,.sh (aq h),c2,.sh (.int (j:Int)),.sh (rwG lbP (R j)),c5',c6'],a_ n (freeOf (hdF h) (Q++(R j).map fun u=>((j:Int),u)))):=by unfold dw iN;show (match some ((R j).map (stG lbP),_) with | none=>none | some (ds,ρ1)=>cE (bT [5,6]) gJ ds ρ1 _)=_;exact e1
  show (match dw [c0,.sh (aq h),c2,.sh (.int (j:Int)),.sh (rwG lbP (R j)),c5,c6] (a_ n (freeOf (hdF h) Q)) with | none=>none | some (ρ2,r2)=>cE (bT [3,4]) dw (iM (j+1) ((O8 (j+1) k).map fun i:Nat=>rwG lbP (R i))) ρ2 r2)=_;rw[h1];dsimp only;rw[e2,NF];unfold prs;rw[List.range'_succ,List.flatMap_cons]
theorem mZ(n:Nat)(hn:n<=20)(h:List (Int×Int))(R:Int->List Step)(hR:∀i:Nat,i<n->∀u∈R i,0<=u.2/\u.2<n)(hL:∀i:Nat,(R i).length<=400):nS [rsG lbP n R,aq h]=some (.new (rsG lbP n (freeOf (hdF h) (prs R 0 n)))):=by
 have hz:SZ=100000:=rfl;obtain⟨c3,c4,c5,c6,e⟩:=rR n h R hR hL (.sh (rsG lbP n R)) .un n 0 [] .un .un .un .un (by lia) (by simp;lia);obtain⟨c',eM⟩:=uD [.sh (rsG lbP n R),.sh (aq h),.un,.un,.un,.un,.un] 7 rfl (by decide) ((Mv n).map fun i:Nat=>rwG lbP (R i)) .un;have hu:((Mv n).map fun i:Nat=>rwG lbP (R i)).length=n:=by simp
 have e0:freeOf (hdF h) []=fun _=>[]:=by funext x;rfl
 rw[e0,nZ,Of,<- List.range_eq_range']at e;have en:e8 2 (iS (eV 0)) 1 (bN 7) (iN (iEn (eV 0)) (bT [3,4]) dw) [.sh (rsG lbP n R),.sh (aq h),.un,.un,.un,.un,.un]=some (.nx [.sh (rsG lbP n R),.sh (aq h),.ow (rsG lbP n (freeOf (hdF h) (prs R 0 n))),c3,c4,c5,c6]):=by unfold e8;rw[if_neg (by decide)];show (if ((Mv n).map fun i:Nat=>rwG lbP (R i)).length<=SZ then (match nMk (bN 7) ((Mv n).map fun i:Nat=>rwG lbP (R i)) ([.sh (rsG lbP n R),.sh (aq h),.un,.un,.un,.un,.un]++[.un]) with | none=>none | some ρ2=>_) else none)=_;rw[if_pos (by rw[hu];lia),eM];dsimp only;rw[hu];have:iN (iEn (eV 0)) (bT [3,4]) dw [.sh (rsG lbP n R),.sh (aq h),.un,.un,.un,.un,.un] (Mk n [])=some ([.sh (rsG lbP n R),.sh (aq h),.un,c3,c4,c5,c6],a_ n (freeOf (hdF h) (prs R 0 n))):=e;show (match iN (iEn (eV 0)) (bT [3,4]) dw [.sh (rsG lbP n R),.sh (aq h),.un,.un,.un,.un,.un] (Mk n []) with | none=>none | some (ρ3,r3)=>_)=_;rw[this];show some (Out.nx [.sh (rsG lbP n R),.sh (aq h),.ow (.lst ((a_ n (freeOf (hdF h) (prs R 0 n))).map Dat.lst)),c3,c4,c5,c6])=_;rw[rL]
 apply P0;unfold nS
 (refine Dm.PM ?_ rfl rfl;and_intros)
 refine Pr ⟨_,en,?_⟩;refine PR (Py rfl (P9 ?_ rfl));rfl
theorem fX(hp:Dr n r){H:Hd}:InR (freeOf H (prs (aJ r) 0 n)) p s↔Fd.dR r H p s:=by
 unfold InR freeOf Fd.dR;rw[ON];constructor
 ·rintro⟨⟨d,u⟩,hm,e⟩;unfold prs at hm;obtain⟨i,hi,hm⟩:=List.mem_flatMap.mp hm;obtain⟨v,hv,e1⟩:=Mt.mp hm;cases e1;obtain⟨h1,h2,h3⟩:=eN.mp hv;dsimp only at e;split at e
  ·rename_i q;split at e
   ·rename_i q2;cases e;exact⟨h1,.inr ⟨q,by rw[q2];exact h3,h2⟩⟩
   ·cases e
  ·rename_i q;split at e
   ·rename_i q2;cases e;exact⟨h1,.inl ⟨by simpa using q,by rw[q2];exact h2,h3⟩⟩
   ·cases e
 ·rintro⟨hm,h⟩;obtain⟨a0,a1,b0,b1⟩:=hp s.1 hm;refine⟨(Fd.src s.1,(s.1,Fd.dst s.1)),?_,?_⟩
  ·unfold prs;refine List.mem_flatMap.mpr ⟨(Fd.src s.1).toNat,List.mem_range'_1.mpr ⟨by lia,by lia⟩,Mt.mpr ⟨(s.1,Fd.dst s.1),eN.mpr ⟨hm,by show Fd.src s.1=_;lia,rfl⟩,?_⟩⟩;rw[show (((Fd.src s.1).toNat:Nat):Int)=Fd.src s.1 by lia]
  ·dsimp only;rcases h with⟨q,h1,h2⟩ | ⟨q,h1,h2⟩
   ·rw[if_neg (by rw[q];decide),if_pos h1.symm,h2]
   ·rw[if_pos q,if_pos h1.symm,h2]
theorem C5{H:Hd}{S:Int->Bool}(h:∀c∈r,(H c).isSome=true->S (Fd.dst c)=false):0<=Fd.bH r H S:=by
 induction r with
 |nil=>exact OM _
 |cons c r ih=>
  rw[Fd.bH];have:=ih fun d hd=>h d (Dk _ hd);have h2:0<=Fd.vd (H c) c S:=by
   unfold Fd.vd;split
   ·rename_i q;rw[h c Ds q];cases S (Fd.src c)<;>decide
   ·exact OM _
  lia
theorem v_(nd:r.Nodup){H:Hd}{x c d e:Int}(h0:Fd.bH r H (fun y=>decide (y=x))=0)(hc:c∈r)(lc:(H c).isSome=true)(sc:Fd.src c=x)(tc:Fd.dst c≠x)
  (hd:d∈r) (ld:(H d).isSome=true) (sd:Fd.src d=x) (td:Fd.dst d≠x) (only:∀z∈r,Fd.dst z=x->z=e) (he:e∈r) (le:(H e).isSome=true) (te:Fd.dst e=x) (se:Fd.src e≠x):c=d:=by
 refine Decidable.byContradiction fun ne=>?_;have ce:c≠e:=fun z=>tc (z▸te);have de:d≠e:=fun z=>td (z▸te);have v1:∀{z:Int},Fd.src z=x->Fd.dst z≠x->∀{o:Option Int},o.isSome=true->Fd.vd o z (fun y=>decide (y=x))=1:=fun {z} a b {o} k=>by unfold Fd.vd;rw[if_pos k];show one (decide (Fd.src z=x))-one (decide (Fd.dst z=x))=1;rw[decide_eq_true a,decide_eq_false b];rfl
 have v2:Fd.vd (H e) e (fun y=>decide (y=x))=-1:=by unfold Fd.vd;rw[if_pos le];show one (decide (Fd.src e=x))-one (decide (Fd.dst e=x))=-1;rw[decide_eq_false se,decide_eq_true te];rfl
 have v0:∀z,Fd.vd none z (fun y=>decide (y=x))=0:=fun z=>rfl;have f1:=Fd.fU nd hc H none (fun y=>decide (y=x));have f2:=Fd.fU nd hd (put H c none) none (fun y=>decide (y=x));have f3:=Fd.fU nd he (put (put H c none) d none) none (fun y=>decide (y=x));rw[v0,v1 sc tc lc]at f1;rw[v0,show put H c none d=H d by unfold put;rw[if_neg (fun z=>ne z.symm)],v1 sd td ld]at f2;rw[v0,show put (put H c none) d none e=H e by unfold put;rw[if_neg (fun z=>de z.symm),if_neg (fun z=>ce z.symm)],v2]at f3;have nn:0<=Fd.bH r (put (put (put H c none) d none) e none) (fun y=>decide (y=x)):=C5 fun z hz hs=>by refine decide_eq_false fun q=>?_;have:=only z hz q;subst this;unfold put at hs;rw[if_pos rfl]at hs;cases hs
 lia
theorem fY:∀{w:List Step} {x y:Int},Way R x w y->w≠[]->∃w' p c,w=w'++[(c,y)]/\Way R x w' p/\R p (c,y)
 |[],x,y,h,ne=>(ne rfl).elim
 |[s],x,y,h,_=>by obtain⟨h1,h2⟩:=h;have h2:s.2=y:=h2;subst h2;exact⟨[],x,s.1,rfl,rfl,h1⟩
 |s::u::w,x,y,h,ne=>by obtain⟨w',p,c,e1,e2,e3⟩:=fY h.2 (List.cons_ne_nil u w);exact⟨s::w',p,c,by rw[e1];rfl,⟨h.1,e2⟩,e3⟩
theorem pO{w:List Step}{x y:Int}(h:Way R x w y)(ne:x≠y):w≠[]:=fun e=>by subst e;exact ne h
structure rS(n:Nat)(r:List Tie)(A:List Int):Prop where
 nd:A.Nodup
 dr:Dr (2*n) A
 mem:∀c,c∈A↔(∃t∈r,t.a≠t.b/\(c=cd n t.a t.b\/c=cd n t.b t.a))\/∃p:Nat,p<n/\c=20*(p:Int)+((n:Int)+p)
theorem dS(n:Nat)(n10:n<=10)(r:List Tie)(hp:Pl n r):rS n r (hk (aR n r)++thr n):=by
 have m:=lq n r;have k1:∀c∈hk (aR n r),(n:Int)<=Fd.src c/\Fd.src c<2*n/\0<=Fd.dst c/\Fd.dst c<n:=fun c hc=>by
  obtain⟨t,ht,ne,h⟩:=(m.mem c).mp hc;obtain⟨p1,p2,p3,p4⟩:=hp t ht;unfold Fd.src Fd.dst;rcases h with rfl | rfl
  ·obtain⟨e1,e2⟩:=cQ (n:=n) (u:=t.a) (v:=t.b) p3 (by lia);rw[e1,e2];exact⟨by lia,by lia,p3,p4⟩
  ·obtain⟨e1,e2⟩:=cQ (n:=n) (u:=t.b) (v:=t.a) p1 (by lia);rw[e1,e2];exact⟨by lia,by lia,p1,p2⟩
 have k2:∀c,c∈thr n↔∃p:Nat,p<n/\c=20*(p:Int)+((n:Int)+p):=fun c=>by
  unfold thr;rw[Mt];constructor
  ·rintro⟨p,h1,rfl⟩;exact⟨p,MR.mp h1,rfl⟩
  ·rintro⟨p,h1,rfl⟩;exact⟨p,MR.mpr h1,rfl⟩
 refine⟨Nh.mpr ⟨m.nd,?_,fun x hx y hy=>?_⟩,fun c hc=>?_,fun c=>?_⟩
 ·unfold thr;exact MY.mpr (O3.imp fun {a b} h z=>h (by lia))
 ·rintro rfl;obtain⟨p,h1,rfl⟩:=(k2 _).mp hy;have:=(k1 _ hx).1;unfold Fd.src at this
  lia
 ·rcases Mw.mp hc with hc | hc
  ·have:=k1 c hc
   lia
  ·obtain⟨p,h1,rfl⟩:=(k2 c).mp hc;unfold Fd.src Fd.dst
   lia
 ·rw[Mw,m.mem c,k2 c]
theorem eT(n10:n<=10){r:List Tie}(D:rS n r A)(hp:Pl n r)(hc:c∈A)(h:(n:Int)<=Fd.dst c):Fd.src c=Fd.dst c-n/\Fd.src c<n:=by
 rcases (D.mem c).mp hc with⟨t,ht,ne,k⟩ | ⟨p,h1,rfl⟩
 ·have:=hp t ht;unfold Fd.dst at h;unfold cd at k
  lia
 ·unfold Fd.src Fd.dst
  lia
theorem wc(n10:n<=10){r:List Tie}(hp:Pl n r)(D:rS n r A){H:Hd}{a b:Int}{k:Nat}(a0:0<=a)(a1:a<n)(b0:0<=b)(b1:b<n)(Ht:∀t∈r,¬((t.a=a/\t.b=b)\/(t.a=b/\t.b=a)))(F:Fd.Flow A H ((n:Int)+a) b k)
  {S:Int->Prop} (hS:∀x,S x->x≠(n:Int)+a->∃p c,S p/\Fd.dR A H p (c,x)) (hb:¬S b) {w:List Step} (hw:uz (Fd.Led A H) ((n:Int)+a) w b):∃c∈mso w,Fd.src c<n/\¬S (Fd.dst c):=by
 obtain⟨w1,w2⟩:=hw;obtain⟨w',p,c,e1,e2,e3⟩:=fY w1 (pO w1 (by lia));obtain⟨hc,lc,sc,tc⟩:=e3;dsimp only at hc lc sc tc;have hu:(n:Int)<=p/\p≠(n:Int)+a:=by
  rcases (D.mem c).mp hc with⟨t,ht,ne,q⟩ | ⟨z,h1,rfl⟩
  ·have:=hp t ht;have h2:=Ht t ht;unfold Fd.src at sc;unfold Fd.dst at tc;unfold cd at q
   lia
  ·unfold Fd.dst at tc;have:(20*(z:Int)+((n:Int)+z)) % 20=(n:Int)+z:=by lia
   lia
 obtain⟨w'',p',d,f1,f2,f3⟩:=fY e2 (pO e2 (fun z=>hu.2 z.symm));obtain⟨hd,ld,sd,td⟩:=f3;dsimp only at hd ld sd td;obtain⟨g1,g2⟩:=eT n10 D hp hd (by rw[td];exact hu.1);refine⟨d,?_,g2,?_⟩
 ·rw[e1,f1];unfold mso;simp
 ·rw[td];intro hs;obtain⟨q,x,hq,hx,hf⟩:=hS p hs hu.2;have only:∀z∈A,Fd.dst z=p->z=d:=fun z hz hzp=>by
   obtain⟨k1,_⟩:=eT n10 D hp hz (by rw[hzp];exact hu.1);unfold Fd.src Fd.dst at *
   lia
  dsimp only at hx hf;rcases hf with⟨z1,z2,z3⟩ | ⟨z1,z2,z3⟩
  ·have:=only x hx z3;rw[this,ld]at z1;cases z1
  ·have h0:Fd.bH A H (fun y=>decide (y=p))=0:=by
    rw[F.eq];rw[decide_eq_false (fun z=>hu.2 z.symm),decide_eq_false (by lia)];simp
   have hx2:=(D.dr x hx)
   have e:=v_ D.nd h0 hc (by rw [lc];rfl) sc (by lia) hx z1 z3 (fun z=>by
    obtain⟨k1,_⟩:=eT n10 D hp hx (by rw[z];exact hu.1)
    lia) only hd (by rw[ld];rfl) td (by lia)
   apply hb;rw[<- tc,e,z2];exact hq
noncomputable def bY(n:Nat)(K:List Int)(c:Int):Bool:=decide (Fd.src c<n)&&!decide (Fd.dst c∈K)
noncomputable def n8(n:Nat)(K:List Int)(w:List Step):List Int:=((mso w).filter (bY n K)).map Fd.src
noncomputable def cR(n:Nat)(K:List Int)(w:List Step):Int:=(n8 n K w).headD 0
theorem m5(n:Nat)(w:List Step)(s:Sr)(hl:w.length<=1000)(hx:∃c∈mso w,Fd.src c<n/\Fd.dst c∉sk s):rm [.int n,msD w,.dct (sk s) (svG lbP s)]=some (.val (.int (cR n (sk s) w))):=by
 have hz:SZ=100000:=rfl;have ml:(mso w).length=w.length:=by simp[mso]
 apply P0;unfold rm
 (refine Dm.PM ?_ rfl rfl;and_intros)
 refine PR (O_ (Qi lbP (mso w) (bY n (sk s)) Fd.src Dat.int (d:=msD w) ?_ rfl rfl rfl (by decide) (by lia) (fun c _=>?_) fun c _ _=>?_))
 ·refine Pu ?_;obtain⟨c,hc,h1,h2⟩:=hx;have hm:c∈(mso w).filter (bY n (sk s)):=Mx.mpr ⟨hc,by unfold bY;rw[decide_eq_true h1,decide_eq_false h2];rfl⟩;have e:∃x r,n8 n (sk s) w=x::r:=by
   unfold n8;cases q:(mso w).filter (bY n (sk s)) with
   |nil=>rw[q]at hm;cases hm
   |cons x r=>exact⟨_,_,rfl⟩
  obtain⟨x,r,e⟩:=e;show Wg2 gIx (some (.lst ((n8 n (sk s) w).map Dat.int))) _ _;unfold cR;rw[e];refine QG (Ab:=Dat.int) (xs:=x::r) (i:=0) (by decide) (by rw[M0];lia) ?_ rfl rfl;exact Q5 rfl
 ·refine Qd (PJ (O_ (O_ (M_ rfl (Pu (Pw ?_ rfl rfl rfl))))));refine M_ rfl (Qs (Px ?_) rfl rfl);unfold bY;by_cases h:Fd.src c<n
  ·refine Qq (decide_eq_true h) (PJ (O_ (O_ (M_ rfl (Pu (Pw ?_ rfl rfl rfl))))));refine M_ rfl (QY (Px ?_) rfl rfl);rw[fV,decide_eq_true h];exact⟨rfl,rfl⟩
  ·refine P4 (decide_eq_false h) ?_;rw[decide_eq_false h];exact⟨rfl,rfl⟩
 ·exact O_ (M_ rfl (Pu (Pw (PF ⟨rfl,rfl⟩) rfl rfl rfl)))
noncomputable def bV(n:Nat)(r:List Tie):List Int:=hk (aR n r)++thr n
noncomputable def frR(n:Nat)(r:List Tie)(h:List (Int×Int)):Int->List Step:=freeOf (hdF h) (prs (aJ (bV n r)) 0 (2*n))
noncomputable def rT(n:Nat)(r:List Tie)(w:List Step):List Int:=((mso w).filter fun c=>(hdF (aR n r) c).isSome).map fun c=>(hdF (aR n r) c).getD 0
noncomputable def iU(n:Nat)(r:List Tie)(w:List Step):Dat:=.lst ((rT n r w).map Dat.int)
noncomputable def n9:Option (List Int)->Dat
 |none=>.non
 |some S=>.tup (S.map Dat.int)
structure LV(n:Nat)(r:List Tie)(a b:Int)(h:List (Int×Int))(ws:List (List Step))(s:Sr)(S:List Int):Prop where
 fnd:Fnd (2*n) (frR n r h) ((n:Int)+a) s
 cl:∀x∈sk s,Done (frR n r h) (sk s) x
 no:b∉sk s
 eq:S=dM ltI (ws.map (cR n (sk s)))
structure Around(n:Nat)(r:List Tie)(a b most:Int)(ws:List (List Step))(o:Option (List Int))(h:List (Int×Int)):Prop where
 hok:Hok (bV n r) h
 bH:Fd.Flow (bV n r) (hdF h) ((n:Int)+a) b ws.length
 ways:xT (bV n r) (hdF h) ((n:Int)+a) b ws
 le:(ws.length:Int)<=most
 all:o=none->(ws.length:Int)=most
 shut:∀S,o=some S->(ws.length:Int)<most/\∃s,LV n r a b h ws s S
theorem pP:∀{w:List Step} {x y:Int},Way R x w y->y∈x::w.map (·.2)
 |[],x,y,h=>by cases h;exact Ds ..
 |s::w,x,y,h=>Dk _ (pP h.2)
theorem Fnd.from{R:Int->List Step}{s:Sr}(h:Fnd n R a s)(hx:x∈sk s)(ne:x≠a):∃p c,p∈sk s/\InR R p (c,x):=by
 obtain⟨e,he,rfl⟩:=Mt.mp hx;obtain⟨⟨w1,w2⟩,w3⟩:=h.way e he;obtain⟨w',p,c,e1,e2,e3⟩:=fY w1 (pO w1 (fun z=>ne z.symm));refine⟨p,c,w3 p ?_,e3⟩;have:=pP e2;rw[e1,My];rcases Ms.mp this with z | z
 ·rw[z];exact Ds ..
 ·exact Dk _ (MJ _ z)
theorem rU(n:Nat)(r:List Tie)(n10:n<=10)(hl:r.length<=100):(bV n r).length<=400:=by
 have:=(lq n r).len;unfold bV;rw[MA];simp[hk,thr]
 lia
theorem C6(ws:List (List Step)):aN (.lst (ws.map msD))=true:=gg _ _ fun w=>gg _ _ rJ
end
section
variable(n:Nat)(n10:n<=10)(r:List Tie)(hp:Pl n r)(hl:r.length<=100)(a b:Int)(a0:0<=a)(a1:a<n)
include n10 hp hl a0 a1
theorem n_(h:List (Int×Int)):∃s:Sr,kW [rsG lbP (2*n) (frR n r h),.int ((n:Int)+a)]=some (.new (.dct (sk s) (svG lbP s)))/\Fnd (2*n) (frR n r h) ((n:Int)+a) s/\∀x∈sk s,Done (frR n r h) (sk s) x:=
 k7 lbP (2*n) (by lia) (frR n r h) (fun i _ _ u hu=>(rH (dS n n10 r hp).dr ((fX (dS n n10 r hp).dr).mp hu).along).2) _ (by lia) (by lia)
theorem oh(h:List (Int×Int)){s:Sr}(es:kW [rsG lbP (2*n) (frR n r h),.int ((n:Int)+a)]=some (.new (.dct (sk s) (svG lbP s))))(c1 c3 c4 c5 c6 c8 c9 c10 c11:Cell)(h6:c6=.ow (rsG lbP (2*n) (aJ (bV n r)))\/c6=.sh (rsG lbP (2*n) (aJ (bV n r)))){N:Env->Prop}{R:RV->Env->Prop}{B C:Env->Prop}
  (k:N [.sh (.int n),c1,.sh (.int a),c3,c4,c5,.sh (rsG lbP (2*n) (aJ (bV n r))),.ow (aq h),.ow (.dct (sk s) (svG lbP s)),c9,c10,c11]) :
  Ws (sA 8 (eF kW [(jh nS [(eV 6),(eV 7)]),(e2 bu (eV 0) (eV 2))])) [.sh (.int n),c1,.sh (.int a),c3,c4,c5,c6,.ow (aq h),c8,c9,c10,c11] N R B C:=by
 have ef:=mZ (2*n) (by lia) h (aJ (bV n r)) (fun i _ u hu=>by
  obtain⟨h1,h2,h3⟩:=eN.mp hu;have:=(dS n n10 r hp).dr u.1 h1
  lia) (fun i=>MH (gM _ _) (rU n r n10 hl))
 rcases h6 with rfl | rfl
 ·refine PD (PL (m_ (Qw (m_ (Py rfl (m_ (Py rfl (N_ ⟨_,_,_,rfl,ef,eO _ _,?_⟩)))))))) (by decide);refine m_ (O_ (M_ rfl (M_ rfl (PX (N_ (PK es (PB k rfl) rfl rfl rfl rfl)) rfl rfl))))
 ·refine PD (PL (m_ (Qw (m_ (M_ rfl (m_ (Py rfl (N_ ⟨_,_,_,rfl,ef,eO _ _,?_⟩)))))))) (by decide);refine m_ (O_ (M_ rfl (M_ rfl (PX (N_ (PK es (PB k rfl) rfl rfl rfl rfl)) rfl rfl))))
end
section
variable{n:Nat}{R:List Tie}{a b:Int}{S:List Int}{r:List Tie}{k:Nat}{o p:Option Dat}{K:List Int}{Q:Val->Env->Prop}{A:List Int}{ws:List (List Step)}{seen:List Int}{j:Nat}{c:Int}{ns:List Int}{us:List Int}{w:List Step}{t:Tie}{v:Int}{y:Int}{x m:Int}{s:Step}{ρ:Env}
theorem Aw(n:Nat)(r:List Tie)(w:List Step)(hl:w.length<=1000)(pre:Env)(hpre:pre.length=12)(h5:pre[5]?=some (.ow (aq (aR n r)))) 
  {Q:Val->Env->Prop} (q:Q (.new (iU n r w)) (pre++[.sh (msD w)])):We (aL 12 1 (bN 13) (tV (e2 gp (eV 13) (eV 5))) (e2 qN (eV 5) (eV 13))) (pre++[.sh (msD w)]) Q:=by
 have hz:SZ=100000:=rfl;have ml:(mso w).length=w.length:=by simp[mso]
 have g5:∀c:Cell,(pre++[.sh (msD w)]++[c])[5]?=some (.ow (aq (aR n r))):=fun c=>by rw[NF,Mz (by lia)];exact h5
 have g13:∀c:Int,(pre++[.sh (msD w)]++[.sh (lbP c)])[13]?=some (.sh (lbP c)):=fun c=>by rw[MU (by simp[hpre])];simp[hpre]
 refine Qi lbP (mso w) (fun c=>(hdF (aR n r) c).isSome) (fun c=>(hdF (aR n r) c).getD 0) Dat.int (d:=msD w) ?_ (by rw[MU (by lia)];simp[hpre]) rfl (by simp[hpre]) (by decide) (by lia) (fun c _=>?_) fun c _ hc=>?_
 ·exact q
 ·refine PJ (O_ (M_ (g13 c) (Py (g5 _) (QZ (i:=c / 20) (j:=c % 20) (ks:=hkP (aR n r)) (vs:=hv (aR n r)) (Px ?_) rfl (by show pk _ (.slot 5)=_;unfold pk;dsimp only;rw[g5];rfl)))));rw[eG,NG];exact⟨rfl,rfl⟩
 ·obtain⟨m,hm⟩:=NX.mp hc;refine O_ (Py (g5 _) (M_ (g13 c) (RD (i:=c / 20) (j:=c % 20) (ks:=hkP (aR n r)) (vs:=hv (aR n r)) (d:=.int m) (by rw[eG,hm];rfl) (PF ⟨?_,rfl⟩) (by show pk _ (.slot 5)=_;unfold pk;dsimp only;rw[g5];rfl) rfl)));rw[hm];rfl
theorem ly(n:Nat)(n10:n<=10)(r:List Tie)(hp:Pl n r)(hl:r.length<=100)(a b:Int)(a0:0<=a)(a1:a<n)(b0:0<=b)(b1:b<n)(Ht:∀t∈r,¬((t.a=a/\t.b=b)\/(t.a=b/\t.b=a)))(most:Int)(m0:0<=most)(m1:most<=60) :
  ∃ws o h,rq [.int n,aD r,.int a,.int b,.int most]=some (.val (.tup [.lst (ws.map (iU n r)),n9 o]))/\Around n r a b most ws o h:=by
 suffices q:Wr (rq [.int n,aD r,.int a,.int b,.int most]) fun v=>∃ws o h,v=.val (.tup [.lst (ws.map (iU n r)),n9 o])/\Around n r a b most ws o h by obtain⟨v,h1,ws,o,h,rfl,h2⟩:=q;exact⟨ws,o,h,h1,h2⟩
 have hz:SZ=100000:=rfl;have D:=dS n n10 r hp;have mk:=lq n r;have rl:=rU n r n10 hl;have em:=uE n n10 r hp (by lia);have ed:=As n n10 (aR n r) (fun c hc=>D.dr c (MJ _ hc)) (by have:=mk.len;lia);unfold rq
 (refine Dm.PM ?_ rfl rfl;and_intros)
 refine Pr (PD (PL (m_ (M_ rfl (m_ (M_ rfl (N_ (PK em (PB ?_ (by trivial)) rfl rfl rfl rfl))))))) (by decide));refine Pr (PD (Qw (m_ (M_ rfl (m_ (Py rfl (N_ ⟨_,_,_,rfl,ed,eO _ _,PB ?_ (by trivial)⟩)))))) (by decide));refine Pr (PD (Rk (PB ?_ (by trivial))) (by decide));obtain⟨s0,es0,F0,d0⟩:=n_ n n10 r hp hl a a0 a1 [];refine Pr (oh n n10 r hp hl a a0 a1 [] es0 _ _ _ _ _ _ _ _ _ (.inl rfl) ?_);refine Pr (PD (Pu (PN ?_ (by trivial))) (by decide));refine Pr ?_;refine QF (fun k ρ=>∃(h:List (Int×Int)) (s:Sr) (J_:Nat),ρ=[.sh (.int n),.sh (aD r),.sh (.int a),.sh (.int b),.sh (.int most),.ow (aq (aR n r)),.sh (rsG lbP (2*n) (aJ (bV n r))),.ow (aq h),.ow (.dct (sk s) (svG lbP s)),.sh (.int (J_:Nat)),.un,.un]/\Hok (bV n r) h/\Fd.Flow (bV n r) (hdF h) ((n:Int)+a) b J_/\(J_:Int)<=most/\Fnd (2*n) (frR n r h) ((n:Int)+a) s/\(∀x∈sk s,Done (frR n r h) (sk s) x)/\k=(most-J_).toNat) ?_ 100 most.toNat _ (by lia)
  ⟨[],s0,0,rfl,Hok.nil _,Fd.Flow.zero _ _ _,m0,F0,d0,by simp⟩
 rintro k ρ ⟨h,s,J_,rfl,hok,fl,hle,F,hd,hk⟩;have EC:(J_:Int)=most∨b∉sk s→Ws (aA (sA 10 (jh xQ [(eV 6),(eV 7),(e2 bu (eV 0) (eV 2)),(eV 3),(eV 9)]))
  (aA (sA 11 (aL 10 1 (bN 12) bS (aL 12 1 (bN 13) (tV (e2 gp (eV 13) (eV 5))) (e2 qN (eV 5) (eV 13)))))
  (aA (sIf (tV (e2 gEq (eV 9) (eV 4))) (sR (cN [(eV 11),(eC .non)])) sNx)
  (sR (cN [(eV 11),(eB i8 [(eB fR [(aL 10 1 (bN 12) bS (eFd rm [(eV 0),(eV 12),(eV 8)]))])])]))))) [.sh (.int n),.sh (aD r),.sh (.int a),.sh (.int b),.sh (.int most),.ow (aq (aR n r)),.sh (rsG lbP (2*n) (aJ (bV n r))),.ow (aq h),.ow (.dct (sk s) (svG lbP s)),.sh (.int (J_:Nat)),.un,.un]
   (fun _=>∃ws o h,RV.val .non=.val (.tup [.lst (ws.map (iU n r)),n9 o])/\Around n r a b most ws o h) (fun v _=>∃ws o h,v=.val (.tup [.lst (ws.map (iU n r)),n9 o])/\Around n r a b most ws o h) (fun _=>False) (fun _=>False):=fun hend=>by
  obtain⟨ws,ep,wl,W⟩:=xV (2*n) (by lia) (bV n r) D.dr D.nd (by lia) h hok ((n:Int)+a) b (by lia) (by lia) J_ (by lia) fl;have uA:∀w∈ws,w.length<=1000:=fun w hw=>by
   obtain⟨v1,v2⟩:=W.way w hw;have:=bC (w.map (·.1)) (bV n r) (Fd.gG (fun p s h=>h.along) v1 v2) fun c hc=>by obtain⟨u,hu,rfl⟩:=Mt.mp hc;exact uB (fun p s z=>z.along) v1 u hu
   rw[Mj]at this
   lia
  refine Pr (PD (Qw (m_ (M_ rfl (m_ (Py rfl (m_ (O_ (M_ rfl (M_ rfl (PX ?_ rfl rfl)))))))))) (by decide));refine m_ (M_ rfl (m_ (M_ rfl (N_ ⟨_,_,_,rfl,ep,C6 ws,PB ?_ (by trivial)⟩))));refine Pr (PD (QO msD ws id (iU n r) ?_ rfl rfl rfl (by decide) (by lia) fun w hw=>Aw n r w (uA w hw) _ rfl rfl (P_ ⟨rfl,rfl⟩)) (by decide));rw[Nm];refine PB ?_ (by trivial);refine Pr (P6 (PJ (O_ (M_ rfl (M_ rfl (P8 (Px ?_) rfl rfl))))));refine PZ (fun he=>?_) fun he=>PV ?_
  ·refine PR (Qo (m_ (Py rfl (m_ (Pu (N_ (PU ?_ rfl rfl (by exact MC rfl))))))));exact⟨ws,none,h,rfl,⟨hok,by rw[wl];exact fl,W,by rw[wl];exact hle,fun _=>by rw[wl];exact he,fun S z=>nomatch z⟩⟩
  ·have hb:=hend.resolve_left he;have EM:(J_:Int)<most:=by lia
   have hfs:∀w∈ws,∃c∈mso w,Fd.src c<n/\Fd.dst c∉sk s:=fun w hw=>
    wc n10 hp D a0 a1 b0 b1 Ht fl (S:=fun x=>x∈sk s) (fun x hx ne=>by
     obtain⟨p,c,k1,k2⟩:=Fnd.from F hx ne
     exact⟨p,c,k1,(fX D.dr).mp k2⟩) hb (W.way w hw)
   refine PR (Qo (m_ (Py rfl (m_ (PY (m_ (PY (m_ ?_))))))));refine QO msD ws (cR n (sk s)) Dat.int ?_ rfl rfl rfl (by decide) (by lia) fun w hw=>?_
   ·refine N_ (Rp ?_ rfl (by rw[Mj];lia));refine N_ (Rm (N_ (PU ?_ rfl rfl (by exact MC rfl))) rfl);exact ⟨ws,some _,h,rfl,⟨hok,by rw [wl];exact fl,W,by rw [wl];exact hle,fun z=>(nomatch z),fun S z=>by cases z;exact⟨by rw[wl];exact EM,s,F,hd,hb,rfl⟩⟩⟩
   ·refine RK (m_ (M_ rfl (m_ (M_ rfl (m_ (Py rfl (N_ ⟨_,_,_,rfl,m5 n w s (uA w hw) (hfs w hw),jj _,?_⟩)))))));exact PF ⟨rfl,rfl⟩
 refine Qd (PJ (O_ (M_ rfl (M_ rfl (Qs (Px ?_) rfl rfl)))));refine PZ (fun EM=>?_) fun hge=>?_
 ·refine PJ (O_ (M_ rfl (Py rfl (Q9 (Px ?_) rfl rfl))));rw[fV];refine PZ (fun hb=>?_) fun hb=>EC (.inr hb);unfold Ah;obtain⟨w,t1,t2⟩:∃w,(b,w)∈s/\bZ (sk s) (svG lbP s) b=some (rwG lbP w):=by
   rcases pI lbP s b with h | h
   ·exact h
   ·exact absurd hb h.1
  obtain⟨⟨w1,w2⟩,_⟩:=F.way _ t1;dsimp only at w1 w2;have w1':Way (Fd.dR (bV n r) (hdF h)) ((n:Int)+a) w b:=w1.mono fun _ _ z=>(fX D.dr).mp z;have wms:=uB (fun p s (z:Fd.dR (bV n r) (hdF h) p s)=>z.along) w1';have el:=mY (bV n r) (by lia) h hok w wms;refine Pr (QH (Rg (m_ (O_ (Py rfl (M_ rfl (QT t2 (N_ (Ql el ?_ rfl rfl rfl)) rfl rfl))))) rfl));refine Pr (PD (O_ (M_ rfl (Pu (PX (PN ?_ (by trivial)) rfl rfl)))) (by decide));have fl2:=fl.more D.nd w1' w2;rw[<- nY]at fl2;obtain⟨s1,es1,F1,d1⟩:=n_ n n10 r hp hl a a0 a1 (bz h w);refine oh n n10 r hp hl a a0 a1 (bz h w) es1 _ _ _ _ _ _ _ _ _ (.inr rfl) ?_;refine⟨(most-(J_+1:Nat)).toNat,by rw[hk];lia,bz h w,s1,J_+1,?_,hok.Aq wms,fl2,by lia,F1,d1,rfl⟩;rw[show ((J_:Int)+1)=((J_+1:Nat):Int) by lia]
 ·exact P4 rfl (EC (.inl (by lia)))
theorem Ax(i:Int):CT [.int i]=some (.val (.bl true)):=by
 apply P0;unfold CT
 (refine Dm.PM ?_ rfl rfl;and_intros)
 refine PR (Qy (Rb (M_ rfl (QU ?_ rfl rfl))));refine Px (Qk (Rj (Rb (M_ rfl (QU ?_ rfl rfl)))));exact Px rfl
theorem oi(i lo hi:Int)(h0:lo<=i)(h1:i<=hi):Ae [.int i,.int lo,.int hi]=some (.val (.bl true)):=by unfold Ae;simp[fn,sR,jH,eF,eAs,eV,pks,pk,Ax,RV.bA,RV.dat,dF,kj,gLe,h0,h1]
theorem rV(n i:Int)(h0:0<=i)(h1:i<n):Af [.int n,.int i]=some (.val (.bl true)):=by
 apply P0;unfold Af
 (refine Dm.PM ?_ rfl rfl;and_intros)
 refine PR (PL (m_ (M_ rfl (m_ (Pu (m_ (O_ (M_ rfl (Pu (Qn ?_ rfl rfl))))))))));exact N_ (P7 (oi i 0 (n-1) h0 (by lia)) rfl rfl rfl)
theorem C7(n a b:Int)(a0:0<=a)(a1:a<n)(b0:0<=b)(b1:b<n)(h:a≠b):CV [.int n,.int a,.int b]=some (.val (.bl true)):=by
 apply P0;unfold CV
 (refine Dm.PM ?_ rfl rfl;and_intros)
 refine PR (Qy (PL (m_ (M_ rfl (m_ (M_ rfl (N_ (P7 (rV n a a0 a1) ?_ rfl rfl))))))));refine Px (Qk (Qy (PL (m_ (M_ rfl (m_ (M_ rfl (N_ (P7 (rV n b b0 b1) ?_ rfl rfl)))))))));refine Px (Qk (O_ (M_ rfl (M_ rfl (Qp ?_ rfl rfl)))));rw[decide_eq_false h];rfl
theorem pQ(n a b:Int)(a0:0<=a)(a1:a<n)(b0:0<=b)(b1:b<n)(h:a≠b):vX [.int n,.int a,.int b]=some (.val .non):=by
 apply P0;unfold vX
 (refine Dm.PM ?_ rfl rfl;and_intros)
 refine P6 (QC (PJ (PL (m_ (M_ rfl (m_ (M_ rfl (m_ (M_ rfl (N_ (P7 (C7 n a b a0 a1 b0 b1 h) ?_ rfl rfl)))))))))));exact Px (Qh (PV rfl))
theorem we{x y:Tie}(h:x.m=y.m/\x.a=y.a/\x.b=y.b):x=y:=by cases x;cases y;obtain⟨h1,h2,h3⟩:=h;dsimp only at h1 h2 h3;rw[h1,h2,h3]
instance LW:DecidableEq Tie:=fun x y=>decidable_of_iff (x.m=y.m/\x.a=y.a/\x.b=y.b) ⟨we,fun h=>by rw[h];exact⟨rfl,rfl,rfl⟩⟩
theorem uG(u t:Tie):eqD (aQ u) (aQ t)=decide (u=t):=by rw[OD,decide_eq_true_iff];unfold aQ;simp[eqD,kh];exact⟨we,fun h=>by rw[h];exact⟨rfl,rfl,rfl⟩⟩
theorem HA(t:Tie)(K:List Tie):inD (aQ t) (K.map aQ)=decide (t∈K):=by
 induction K with
 |nil=>rfl
 |cons u K ih=>
  unfold inD at ih ⊢;rw[gc,Nt,ih];by_cases h:t=u
  ·subst h;simp[uG]
  ·have h':¬u=t:=fun z=>h z.symm;simp[uG,h,h']
theorem C8(K:List Tie):(K.map aQ).all (okD 7)=true:=by rw[List.all_map];exact M3.mpr fun t _=>rfl
theorem QX{K:List Tie}{Q:RV->Prop}(k:Q (.val (.bl (!decide (t∈K)))))(ho:o=some (aQ t))(hp:p=some (aD K)):Wg2 b4 o p Q:=
 ⟨_,_,_,ho,hp,by unfold aD b4;dsimp only;rw[C8,HA];rfl,k⟩
noncomputable def dU(a b:Int)(t:Tie):Bool:=decide (a=t.a\/a=t.b)&&decide (b=t.a\/b=t.b)
noncomputable def Ay(t:Tie):Dat:=.lst [.int t.m]
noncomputable def ck(r:List Tie)(a b:Int):List Tie:=r.filter (dU a b)
noncomputable def cS(r:List Tie)(a b:Int):List Tie:=r.filter fun t=>!dU a b t
theorem lz(r:List Tie)(a b:Int):(r.filter fun t=>!decide (t∈ck r a b))=cS r a b:=by
 refine List.filter_congr fun t ht=>?_;unfold ck;cases h:dU a b t with
 |true=>rw[decide_eq_true (Mx.mpr ⟨ht,h⟩)]
 |false=>rw[decide_eq_false fun z=>by rw[(Mx.mp z).2]at h;cases h]
theorem gq(n:Nat)(n10:n<=10)(r:List Tie)(hp:Pl n r)(hl:r.length<=100)(a b:Int)(a0:0<=a)(a1:a<n)(b0:0<=b)(b1:b<n)(Ht:a≠b)(most:Int)(m0:0<=most)(m1:most<=60) :
  ∃ws o h,rA [.int n,aD r,.int a,.int b,.int most]=some (.val (.tup [.int (((ck r a b).take most.toNat).length+ws.length:Nat),.lst (((ck r a b).take most.toNat).map Ay++ws.map (iU n (cS r a b))),n9 o]))/\Around n (cS r a b) a b (most-((ck r a b).take most.toNat).length) ws o h:=by
 have hz:SZ=100000:=rfl;have hpo:Pl n (cS r a b):=fun t ht=>hp t (Mx.mp ht).1;have hlo:(cS r a b).length<=r.length:=Nz _ _;have hls:(ck r a b).length<=r.length:=Nz _ _;have hno:∀t∈cS r a b,¬((t.a=a/\t.b=b)\/(t.a=b/\t.b=a)):=fun t ht k=>by
  have h2:dU a b t=false:=by simpa using(Mx.mp ht).2
  unfold dU at h2;rcases k with⟨rfl,rfl⟩ | ⟨rfl,rfl⟩
  ·rw[decide_eq_true (.inl rfl),decide_eq_true (.inr rfl)]at h2;cases h2
  ·rw[decide_eq_true (.inr rfl),decide_eq_true (.inl rfl)]at h2;cases h2
 have tl:((ck r a b).take most.toNat).length<=most.toNat:=by rw[Nf];lia
 have tl2:((ck r a b).take most.toNat).length<=(ck r a b).length:=by rw[Nf];lia
 have ct:CO (ck r a b) none (some most)=(ck r a b).take most.toNat:=by
  unfold CO sIx;simp
  lia
 generalize hst:(ck r a b).take most.toNat=st at tl tl2 ct
 obtain⟨ws,o,h,ew,A⟩:=ly n n10 (cS r a b) hpo (by lia) a b a0 a1 b0 b1 hno (most-st.length) (by lia) (by lia);have wl:=A.le;refine⟨ws,o,h,?_,A⟩;apply P0;unfold rA
 (refine Dm.PM ?_ rfl rfl;and_intros)
 refine Pr (QH (PL (m_ (M_ rfl (m_ (M_ rfl (m_ (M_ rfl (N_ (P7 (pQ n a b a0 a1 b0 b1 Ht) ?_ rfl rfl))))))))));refine Pr (PD (Qi aQ r (dU a b) id aQ (d:=aD r) ?_ rfl rfl rfl (by decide) (by lia) (fun t _=>?_) fun t _ _=>M_ rfl (PF ⟨rfl,rfl⟩)) (by decide))
 rotate_left
 ·refine Qd (PJ (O_ (M_ rfl (QE (M_ rfl (Wp.some (Pu (bL.mk (Wp.none ⟨[.int t.m,.int t.a,.int t.b],rfl,by show ¬(sIx 3 0 (some 1)=0/\sIx 3 3 none=3);decide,?_⟩)))))))));refine Qz (i:=a) (a:=t.a) (b:=t.b) (Px ?_) rfl rfl;unfold dU;by_cases h:a=t.a\/a=t.b
  ·refine Qq (decide_eq_true h) (PJ (O_ (M_ rfl (QE (M_ rfl (Wp.some (Pu (bL.mk (Wp.none ⟨[.int t.m,.int t.a,.int t.b],rfl,by show ¬(sIx 3 0 (some 1)=0/\sIx 3 3 none=3);decide,?_⟩)))))))));refine Qz (i:=b) (a:=t.a) (b:=t.b) (Px ?_) rfl rfl;rw[decide_eq_true h];exact⟨rfl,rfl⟩
  ·refine P4 (decide_eq_false h) ?_;rw[decide_eq_false h];exact⟨rfl,rfl⟩
 rw[Nm];refine PB ?_ (by trivial);refine Pr (PD (Qi aQ r (fun t=>!decide (t∈ck r a b)) id aQ (d:=aD r) ?_ rfl rfl rfl (by decide) (by lia) (fun t _=>?_) fun t _ _=>M_ rfl (PF ⟨rfl,rfl⟩)) (by decide))
 rotate_left
 ·exact PJ (O_ (M_ rfl (Py rfl (QX (t:=t) (K:=ck r a b) (Px ⟨rfl,rfl⟩) rfl rfl))))
 rw[Nm,lz];refine PB ?_ (by trivial);have hsl:iS (eSl (eV 5) none (some (eV 4))) [.sh (.int n),.sh (aD r),.sh (.int a),.sh (.int b),.sh (.int most),.ow (aD (ck r a b)),.ow (aD (cS r a b)),.un,.un]=some (st.map aQ,[.sh (.int n),.sh (aD r),.sh (.int a),.sh (.int b),.sh (.int most),.ow (aD (ck r a b)),.ow (aD (cS r a b)),.un,.un]):=by apply Qc;refine Qg (Ry (Py rfl (Wp.none (Wp.some (M_ rfl (bL.mk ⟨_,rfl,?_⟩))))));rw[J4,ct];exact P_ (bQ ⟨rfl,rfl⟩)
 refine Pr (PD (QD aQ st id Ay ?_ hsl rfl (by decide) (by lia) fun t _=>?_) (by decide))
 rotate_left
 ·exact Qe (m_ (O_ (M_ rfl (Pu (Pw (N_ (PU (P_ ⟨rfl,rfl⟩) rfl rfl (by exact MC rfl))) rfl rfl rfl)))))
 rw[Nm];refine PB ?_ (by trivial);refine Pr (PD (PL (m_ (M_ rfl (m_ (Py rfl (m_ (M_ rfl (m_ (M_ rfl (m_ (O_ (M_ rfl (PY (m_ (Py rfl (N_ ⟨_,_,rfl,rfl,Qn ?_ rfl rfl⟩)))))))))))))))) (by decide));rw[Mj];refine N_ (PK ew (PN ?_ (by trivial)) rfl rfl rfl rfl);refine Pr (RJ (ds0:=st.map Ay) (O_ (M_ rfl (Pu (Pw ?_ rfl rfl rfl)))) rfl);refine⟨ws.map (iU n (cS r a b)),st.map Ay,_,rfl,rfl,rfl,?_,by rw[Mj,Mj];lia⟩;refine PR (Qo (m_ (PY (m_ (Py rfl (N_ ⟨_,_,rfl,rfl,?_⟩))))));refine m_ (Py rfl (m_ (O_ (M_ rfl (Pu (Pw (N_ (PU ?_ rfl rfl (by exact MC rfl))) rfl rfl rfl))))));rw[MA,Mj,Mj];exact Q5 rfl
theorem cY(x n:Int)(h:1<=n):0<=x % n/\x % n<n:=⟨Int.emod_nonneg x (by lia),Int.emod_lt_of_pos x (by lia)⟩
noncomputable def at'(ns:List Int)(i:Int):Int:=ns.getD i.toNat 0
theorem HB(ns:List Int)(i:Int)(h0:0<=i)(h1:i<ns.length):gIx (.lst (ns.map Dat.int)) (.int i)=some (.val (.int (at' ns i))):=by show (atI (ns.map Dat.int) i).map RV.val=_;rw[Dm.iQ Dat.int ns i h0 h1];unfold at';rw[ME,Mp (by lia)];rfl
theorem Ka{i:Int}{K:RV->Prop}(h0:0<=i)(h1:i<ns.length)(k:K (.val (.int (at' ns i))))(ho:o=some (.lst (ns.map Dat.int)))(hp:p=some (.int i)):Wg2 gIx o p K:=⟨_,_,_,ho,hp,HB ns i h0 h1,k⟩
noncomputable def bJ(x:Int):Dat:=.lst [.int x]
theorem C9(ns:List Int)(k:Int)(h0:0<=k):∃x,rE [.lst (ns.map Dat.int),.int k]=some (.val (.int x)):=by
 suffices h:Wr (rE [.lst (ns.map Dat.int),.int k]) fun v=>∃x,v=.val (.int x) by obtain⟨v,h1,c,rfl⟩:=h;exact⟨c,h1⟩
 unfold rE
 (refine Dm.PM ?_ rfl rfl;and_intros)
 repeat array_get_dec
 refine⟨fun h=>?_,fun h=>?_⟩
 ·have h:=of_decide_eq_true h
  repeat array_get_dec
  refine Ka h0 (by simpa using h) ?_ rfl rfl;exact⟨_,rfl⟩
 ·repeat array_get_dec
  exact⟨_,rfl⟩
theorem wg(ns:List Int)(k:Int)(h0:0<=k)(h1:k<1000):∃x,nV [.lst (ns.map Dat.int),.int k]=some (.new (bJ x)):=by
 suffices h:Wr (nV [.lst (ns.map Dat.int),.int k]) fun v=>∃x,v=.new (bJ x) by obtain⟨v,h1,c,rfl⟩:=h;exact⟨c,h1⟩
 obtain⟨c,ec⟩:=C9 ns k h0;unfold nV
 (refine Dm.PM ?_ rfl rfl;and_intros)
 refine Pr (PD (PL (m_ (M_ rfl (m_ (M_ rfl (N_ (P7 ec ?_ rfl rfl))))))) (by decide));refine PN ?_ (by trivial);refine Pr (P6 (PJ (O_ (M_ rfl (O_ (Pu (Pu (Ra (z:=1000000000000000000) ?_ rfl rfl (by decide) (by decide)))))))));refine QW (Px ?_) rfl rfl;refine⟨fun h=>?_,fun h=>?_⟩
 ·repeat array_get_dec
  exact⟨_,rfl⟩
 ·refine PV ?_;refine Pr (PD (Pu (PN ?_ (by trivial))) (by decide));refine Pr (P1 (Qa (Pu (bL.mk ⟨?_,by decide,by decide⟩))));refine P5 (fun i:Nat=>Dat.int (0+(i:Nat))) _ _ (Mv 48) _ _ _ _ _ (fun p q ρ=>∃(x:Int) (c4 c5:Cell),ρ=[.sh (.lst (ns.map Dat.int)),.sh (.int k),.sh (.int c),.sh (.int x),c4,c5]) ⟨_,_,_,rfl⟩ ?_ ?_
  ·rintro p i q ρ e ⟨x,c4,c5,rfl⟩;have hi:i<48:=MR.mp (by rw[e];simp);refine Dm.bx rfl (by trivial) ?_;unfold Ai;refine Qx (fun ρ=>∃y:Int,(0<=y/\y<2147483647)/\ρ=[.sh (.lst (ns.map Dat.int)),.sh (.int k),.sh (.int c),.sh (.int x),.sh (.int (0+(i:Nat))),.sh (.int y)]) ?_ ?_
   ·repeat array_get_dec
    ·exact⟨_,cY _ _ (by decide),rfl⟩
    all_goals unfold B64
    all_goals lia
   rintro ρ ⟨y,hy,rfl⟩;refine Qx (fun ρ=>∃y:Int,(0<=y/\y<2147483647)/\ρ=[.sh (.lst (ns.map Dat.int)),.sh (.int k),.sh (.int c),.sh (.int x),.sh (.int (0+(i:Nat))),.sh (.int y)]) ?_ ?_
   ·repeat array_get_dec
    ·exact⟨_,by have:=cY (y*y) 1000000007 (by decide);lia,rfl⟩
    ·exact .inl (by unfold B64;lia)
   rintro ρ ⟨z,hz,rfl⟩;refine Qx (fun ρ=>∃y:Int,(0<=y/\y<2147483647)/\ρ=[.sh (.lst (ns.map Dat.int)),.sh (.int k),.sh (.int c),.sh (.int x),.sh (.int (0+(i:Nat))),.sh (.int y)]) ?_ ?_
   ·repeat array_get_dec
    ·exact⟨_,by have:=cY ((z+7919*(0+((i:Nat):Int)))*69621) 2147483587 (by decide);lia,rfl⟩
   rintro ρ ⟨u,hu,rfl⟩
   repeat array_get_dec
   exact⟨_,_,_,rfl⟩
  ·rintro ρ ⟨x,c4,c5,rfl⟩
   repeat array_get_dec
   exact⟨_,rfl⟩
theorem C_(x m:Int)(h0:0<m)(h1:m<i7):cj [bJ x,.int m]=some (.val (.int (x % m)),bJ (x / m)):=by
 suffices h:WrM (cj [bJ x,.int m]) fun v d=>v=.val (.int (x % m))/\d=bJ (x / m) by obtain⟨v,d,h1,rfl,rfl⟩:=h;exact h1
 unfold cj;refine Q2 ?_ rfl rfl;and_intros;unfold bJ
 repeat array_get_dec
 ·refine RG ?_
  repeat array_get_dec
  ·refine⟨_,0,_,rfl,rfl,rfl,?_⟩
   repeat array_get_dec
   exact⟨_,rfl,rfl,rfl⟩
  ·exact⟨h0,h1⟩
 ·exact h0
def Wtk(j:Nat)(m:Int)(ρ1:Env)(Q:Val->Env->Prop):Prop:=∃x ρ3,Q (.val (.int (x % m))) ρ3/\ρ1[j]?=some (.ow (bJ x))/\ρ1.set j (.ow (bJ (x / m)))=ρ3/\0<m/\m<i7
theorem pR{ρ1 ρ3:Env}(q:Q (.val (.int (x % m))) ρ3)(h2:ρ1[j]?=some (.ow (bJ x)))(hn:ρ1.set j (.ow (bJ (x / m)))=ρ3)(h0:0<m)(h1:m<i7):Wtk j m ρ1 Q:=⟨_,_,q,h2,hn,h0,h1⟩
theorem QJ{a:FE}{d0:Dat}(h:We a ρ fun v ρ1=>bL v fun m=>Wtk j m ρ1 Q)(h0:ρ[j]?=some (.ow d0)):We (eFm cj j [a]) ρ Q:=by refine Rg (m_ ?_) h0;obtain⟨v,ρ1,e1,m,rfl,x,ρ3,q,e2,e3,m0,m1⟩:=h;exact⟨_,_,e1,N_ (Ql (C_ x m m0 m1) q e2 rfl e3)⟩
theorem Qf{a:FE}(ha:a ρ=some (.val (.int m),ρ))(h0:0<m)(h1:m<i7)(hj:ρ[j]?=some (.ow (bJ x)))(k:∀t x':Int,0<=t->t<m->∀ρ3,ρ.set j (.ow (bJ x'))=ρ3->Q (.val (.int t)) ρ3):We (eFm cj j [a]) ρ Q:=
 QJ ⟨_,_,ha,m,rfl,pR (k _ _ (cY x m (by lia)).1 (cY x m (by lia)).2 _ rfl) hj rfl h0 h1⟩ hj
def Good(n:Int):Int->List Tie->Prop
 |_,[]=>True
 |lo,t::r=>lo<=t.m/\0<=t.a/\t.a<=t.b/\t.b<n/\Good n (t.m+1) r
theorem Good.pl:∀{r:List Tie} {lo:Int},Good n lo r->Pl n r
 |[],_,_,t,ht=>by cases ht
 |u::r,lo,h,t,ht=>by
  obtain⟨h1,h2,h3,h4,h5⟩:=h;rcases Ms.mp ht with rfl | ht
  ·lia
  ·exact Good.pl h5 t ht
theorem Good.lo{n:Int}:∀{r:List Tie} {lo:Int},Good n lo r->∀t∈r,lo<=t.m
 |[],_,_,t,ht=>by cases ht
 |u::r,lo,h,t,ht=>by
  obtain⟨h1,h2,h3,h4,h5⟩:=h;rcases Ms.mp ht with rfl | ht
  ·exact h1
  ·have:=Good.lo h5 t ht;lia
theorem Good.nd{n:Int}:∀{r:List Tie} {lo:Int},Good n lo r->(r.map (·.m)).Nodup
 |[],_,_=>by simp
 |u::r,lo,h=>by
  obtain⟨h1,h2,h3,h4,h5⟩:=h;rw[gc,MB];refine⟨fun z=>?_,Good.nd h5⟩;obtain⟨t,ht,e⟩:=Mt.mp z;have:=Good.lo h5 t ht
  lia
theorem Good.snoc{n:Int}:∀{r:List Tie} {lo hi:Int} {t:Tie},Good n lo r->(∀u∈r,u.m<hi)->lo<=hi->hi=t.m->0<=t.a->t.a<=t.b->t.b<n->Good n lo (r++[t])
 |[],_,_,_,_,_,h,e,h1,h2,h3=>⟨by lia,h1,h2,h3,trivial⟩
 |u::r,lo,hi,t,h,hu,hl,e,h1,h2,h3=>by obtain⟨k1,k2,k3,k4,k5⟩:=h;exact⟨k1,k2,k3,k4,Good.snoc k5 (fun v hv=>hu v (Dk _ hv)) (by have:=hu u Ds;lia) e h1 h2 h3⟩
theorem Good.pl'{n:Int}:∀{r:List Tie} {lo:Int},Good n lo r->∀t∈r,0<=t.a/\t.a<n/\0<=t.b/\t.b<n
 |[],_,_,t,ht=>by cases ht
 |u::r,lo,h,t,ht=>by
  obtain⟨h1,h2,h3,h4,h5⟩:=h;rcases Ms.mp ht with rfl | ht
  ·lia
  ·exact Good.pl' h5 t ht
theorem ix3(a b c:Int)(x:Int)(h0:0<=x)(h:x<3):gIx (.lst [.int a,.int b,.int c]) (.int x)=some (.val (.int (if x=0 then a else if x=1 then b else c))):=by
 have:x=0\/x=1\/x=2:=by lia
 rcases this with rfl | rfl | rfl<;>rfl
theorem Az(r:List Tie)(i:Int)(h0:0<=i)(h1:i<r.length):gIx (aD r) (.int i)=some (.val (aQ (r[i.toNat]'(by omega)))):=by unfold aD gIx;dsimp only;rw[iQ aQ r i h0 h1];rfl
noncomputable def RE(pool:Int)(n most many wide HC:Int)(r:List Tie)(c7 c8 c9:Cell):Env:=
 [.ow (bJ pool),.sh (.int n),.sh (.int most),.sh (.int many),.sh (.int wide),.sh (.int HC),.ow (aD r),c7,c8,c9]
theorem Dc(a b:Int):(if b<a then b else a)<=(if b>a then b else a):=by split<;>split<;>lia
theorem xY(x n most:Int)(n1:1<=n)(n10:n<=10)(m0:0<=most)(m60:most<=60) :
  ∃(r:List Tie) (x':Int),nW [bJ x,.int n,.int most]=some (.new (aD r),bJ x')/\Good n 0 r/\(r.length:Int)<=most:=by
 suffices hh:WrM (nW [bJ x,.int n,.int most]) fun v d=>∃(r:List Tie) (x':Int),v=.new (aD r)/\d=bJ x'/\Good n 0 r/\(r.length:Int)<=most by obtain⟨v,d,h1,h,x',rfl,rfl,h2⟩:=hh;exact⟨h,x',h1,h2⟩
 unfold nW;refine Q2 ?_ rfl rfl;and_intros;refine Pr (PD ?_ (by decide));refine Qf (m:=most+1) rfl (by lia) (by unfold i7;lia) rfl fun many x1 h1 h2 ρ3 e=>?_;subst e;refine PN ?_ (by trivial);refine Pr (PD ?_ (by decide));refine Qf (m:=3) rfl (by decide) (by decide) rfl fun wide x2 k1 k2 ρ3 e=>?_;subst e;refine PN ?_ (by trivial);refine Pr (PD ?_ (by decide));refine Qf (m:=4) rfl (by decide) (by decide) rfl fun mo x3 w1 w2 ρ3 e=>?_;subst e;refine PN ?_ (by trivial);refine Pr (PD (Qe (N_ (PU ?_ rfl rfl (by decide)))) (by decide));refine PB ?_ (by trivial);refine Pr (P1 (Qa (M_ rfl (bL.mk ⟨?_,by unfold BIG;lia⟩))));refine P5 (fun i:Nat=>Dat.int (0+(i:Nat))) _ _ (Mv many.toNat) _ _ _ _ _ (fun p q ρ=>∃(x mo:Int) (r:List Tie) (c7 c8 c9:Cell),ρ=RE x n most many wide mo r c7 c8 c9/\p=Mv p.length/\Good n 0 r/\r.length=p.length/\(∀u∈r,u.m<mo)/\0<=mo)
  ⟨_,_,[],_,_,_,rfl,rfl,trivial,rfl,(fun u hu=>by cases hu),w1⟩ ?_ ?_
 ·rintro p i q ρ e ⟨x,mo,r,c7,c8,c9,rfl,hpp,hg,hl,hu,hm⟩;have lp:(Mv many.toNat).length=p.length+(q.length+1):=by rw[e];simp
  rw[MT]at lp;have hi:i=p.length:=by
   have h1:(Mv many.toNat)[p.length]?=some i:=by rw[e];simp
   rw[NK (by lia)]at h1;exact(Option.some.inj h1).symm
  unfold RE;refine Dm.bx rfl (by trivial) ?_;unfold Aj;refine Pr (PD ?_ (by decide));refine Qf (m:=n) rfl (by lia) (by unfold i7;lia) rfl fun one y1 o1 o2 ρ3 e1=>?_;subst e1;refine PN ?_ (by trivial);refine Pr (PD ?_ (by decide));refine Qf (m:=n) rfl (by lia) (by unfold i7;lia) rfl fun oth y2 u1 u2 ρ3 e1=>?_;subst e1;refine PN ?_ (by trivial);refine Qx (fun ρ=>∃o:Int,(0<=o/\o<n)/\ρ=RE y2 n most many wide mo r (.sh (.int (0+(i:Nat)))) (.sh (.int one)) (.sh (.int o))) ?_ ?_
  ·refine P6 (Qd (PJ (O_ (M_ rfl (Pu (Q4 (Px ?_) rfl rfl))))));refine PZ (fun _=>?_) fun _=>?_
   ·refine PJ (O_ (M_ rfl (M_ rfl (P8 (Px ?_) rfl rfl))));refine PZ (fun _=>?_) fun _=>?_
    ·refine PD (O_ (O_ (M_ rfl (Pu (PX (M_ rfl (QM ?_ rfl rfl (by lia))) rfl rfl))))) (by decide);exact PN ⟨_,cY _ n n1,rfl⟩ (by trivial)
    ·exact PV ⟨oth,⟨u1,u2⟩,rfl⟩
   ·exact P4 rfl (PV ⟨oth,⟨u1,u2⟩,rfl⟩)
  rintro ρ ⟨o,⟨q1,q2⟩,rfl⟩;refine Qx (fun ρ=>∃y v o:Int,(0<=v/\v<n)/\(0<=o/\o<n)/\ρ=RE y n most many wide mo r (.sh (.int (0+(i:Nat)))) (.sh (.int v)) (.sh (.int o))) ?_ ?_
  ·unfold RE;refine P6 (Qd (PJ (O_ (M_ rfl (Pu (Q4 (Px ?_) rfl rfl))))));refine PZ (fun hk=>?_) fun _=>?_
   ·refine PJ (O_ ?_);refine Qf (m:=4) rfl (by decide) (by decide) rfl fun t y3 t1 t2 ρ3 e1=>?_;subst e1;refine Pu (P8 (Px ?_) rfl rfl);refine PZ (fun _=>?_) fun _=>?_
    ·have hj:(0:Int)<=0+((i:Nat):Int)-1:=by lia
     have hj2:0+((i:Nat):Int)-1<r.length:=by rw[hl];lia
     have pt:=hg.pl' (r[(0+((i:Nat):Int)-1).toNat]'(by lia)) (Ot _);refine Pr (PD (O_ (O_ (Py rfl (O_ (M_ rfl (Pu (Qn ?_ rfl rfl))))))) (by decide));refine Pw ?_ rfl rfl (Az r _ hj hj2);refine Pu (Pw ?_ rfl rfl rfl);refine PN ?_ (by trivial);refine PD (O_ (O_ (Py rfl (O_ (M_ rfl (Pu (Qn ?_ rfl rfl))))))) (by decide);refine Pw ?_ rfl rfl (Az r _ hj hj2);refine Pu (Pw ?_ rfl rfl rfl);exact PN ⟨_,_,_,⟨pt.1,pt.2.1⟩,⟨pt.2.2.1,pt.2.2.2⟩,rfl⟩ (by trivial)
    ·exact PV ⟨_,_,_,⟨o1,o2⟩,⟨q1,q2⟩,rfl⟩
   ·exact P4 rfl (PV ⟨_,_,_,⟨o1,o2⟩,⟨q1,q2⟩,rfl⟩)
  rintro ρ ⟨y4,v,o,⟨v1,v2⟩,⟨q1,q2⟩,rfl⟩;unfold RE;refine Pr (Qu (Qo (m_ (M_ rfl (m_ (PY (m_ (M_ rfl (m_ (M_ rfl (N_ (QK ?_ rfl))))))))))) rfl);refine m_ (PY (m_ (M_ rfl (m_ (M_ rfl (N_ (QI ?_ rfl)))))));refine N_ (PU ?_ rfl rfl (by exact MC rfl));refine PF (ji ?_ rfl (by trivial) (by rw[Mj];unfold SZ;lia));refine PD (O_ (O_ (M_ rfl (Pu (PX ?_ rfl rfl))))) (by decide);have w1':(0:Int)<(if wide=0 then 1 else if wide=1 then 3 else 1000)/\(if wide=0 then 1 else if wide=1 then 3 else 1000:Int)<2000:=by split;decide;split<;>decide
  refine O_ ?_;refine QJ (O_ (Qe (m_ (Pu (m_ (Pu (m_ (Pu (N_ (PU ?_ rfl rfl (by exact MC rfl))))))))))) rfl;refine M_ rfl (Pw ?_ rfl rfl (ix3 1 3 1000 wide k1 k2));refine bL.mk (pR ?_ rfl rfl w1'.1 (by unfold i7;lia));have hm0:=cY y4 (if wide=0 then 1 else if wide=1 then 3 else 1000) (by lia);refine O_ (Qe (m_ (Pu (m_ (Pu (m_ (O_ (Pu (Pu (Ra (z:=10000000000000000000000000) ?_ rfl rfl (by decide) (by decide)))))))))));refine N_ (PU ?_ rfl rfl (by exact MC rfl));refine M_ rfl (Pw ?_ rfl rfl (ix3 1 1 10000000000000000000000000 wide k1 k2));refine QB ?_ rfl rfl (.inl (by unfold B64;lia));refine PX ?_ rfl rfl;refine PN ?_ (by trivial)
  generalize hf:(if wide=0 then 1 else if wide=1 then 1 else 10000000000000000000000000:Int)=f
  have hf0:0<=f:=by rw[<- hf];split;decide;split<;>decide
  generalize (y4 % if wide=0 then 1 else if wide=1 then 3 else 1000:Int)=t at hm0 ⊢
  have tn:=Int.mul_nonneg hm0.1 hf0;refine⟨y4 / (if wide=0 then 1 else if wide=1 then 3 else 1000),mo+1+t*f,r++[⟨mo,(if o<v then o else v),(if o>v then o else v)⟩],.sh (.int (0+(i:Nat))),.sh (.int v),.sh (.int o),?_,?_,?_,by simp[hl],?_,by lia⟩
  ·unfold aD;rw[My];rfl
  ·rw[MA,NP,List.range_succ,<- hpp,hi]
  ·refine Good.snoc (hi:=mo) hg hu hm rfl ?_ (Dc v o) ?_
   ·show 0<=(if o<v then o else v);split<;>lia
   ·show (if o>v then o else v)<n;split<;>lia
  ·intro u hu';rcases Mw.mp hu' with h | h
   ·have:=hu u h;lia
   ·rw[Mr.mp h];show mo<_;lia
 ·rintro ρ ⟨x,mo,r,c7,c8,c9,rfl,hpp,hg,hl,hu,hm⟩;unfold RE;refine PR (Py rfl (P9 ?_ rfl));refine⟨_,rfl,r,x,rfl,rfl,hg,?_⟩;rw[hl,MT]
  lia
def lA(r:List Tie):Int->List Tie->List Int->Prop
 |_,[],[]=>True
 |u,t::ts,v::us=>t∈r/\Ends t u v/\lA r v ts us
 |_,[],_::_=>False
 |_,_::_,[]=>False
noncomputable def gu(u:Int)(us:List Int):Int:=(us.getLast?).getD u
theorem gO(u v:Int)(us:List Int):gu u (v::us)=gu v us:=by
 unfold gu;cases us with
 |nil=>rfl
 |cons w us=>rw[List.getLast?_cons_cons];cases h:(w::us).getLast? with
  |none=>simp at h
  |some x=>rfl
noncomputable def mss(ts:List Tie):List Int:=ts.map (·.m)
noncomputable abbrev Tr:=List Tie×List Int
theorem wj(h:List (Int×Int))(c m x:Int):hdF (putL h c m) x=if x=c then some m else hdF h x:=by
 unfold putL;by_cases q:c∈hk h
 ·rw[if_pos q];unfold hdF hk at *
  induction h with
  |nil=>cases q
  |cons e h ih=>
   rw[gc,Nj,Nj];by_cases e1:e.1=c
   ·rw[if_pos e1];by_cases e2:x=c
    ·rw[if_pos e2,decide_eq_true (show e.1=x by rw[e1,e2])];rfl
    ·rw[if_neg e2,decide_eq_false (show ¬e.1=x by rw[e1];exact fun z=>e2 z.symm)];dsimp only;by_cases q2:c∈h.map (·.1)
     ·rw[ih q2,if_neg e2]
     ·congr 1
      congr 1
      refine(Ng fun y hy=>?_).trans (Nm h);rw[if_neg fun z=>q2 (Mt.mpr ⟨y,hy,z⟩)];rfl
   ·rw[if_neg e1];have q2:c∈h.map (·.1):=by
     rw[gc]at q;exact(Ms.mp q).resolve_left fun z=>e1 z.symm
    by_cases e2:e.1=x
    ·rw[decide_eq_true e2,if_neg (fun z=>e1 (e2.trans z))]
    ·rw[decide_eq_false e2];exact ih q2
 ·rw[if_neg q,v9 h (c,m) q];rfl
theorem Dd(n:Nat)(r:List Tie){c m:Int}(h:hdF (aR n r) c=some m):∃t∈r,t.a≠t.b/\t.m=m/\(c=cd n t.a t.b\/c=cd n t.b t.a):=by
 suffices hh:∀q p:List Tie,(∀c m,hdF (aR n p) c=some m->∃t∈p,t.a≠t.b/\t.m=m/\(c=cd n t.a t.b\/c=cd n t.b t.a))->∀c m,hdF (aR n (p++q)) c=some m->∃t∈p++q,t.a≠t.b/\t.m=m/\(c=cd n t.a t.b\/c=cd n t.b t.a) from hh r [] (fun c m z=>by cases z) c m h
 intro q
 induction q with
 |nil=>intro p h;rw[Nc];exact h
 |cons t q ih=>
  intro p h;rw[show p++t::q=(p++[t])++q by simp];refine ih _ fun c m z=>?_;rw[jm]at z;unfold Av at z;have up:(∃t∈p,t.a≠t.b/\t.m=m/\(c=cd n t.a t.b\/c=cd n t.b t.a))->∃u∈p++[t],u.a≠u.b/\u.m=m/\(c=cd n u.a u.b\/c=cd n u.b u.a):=fun⟨u,hu,k⟩=>⟨u,MJ _ hu,k⟩;by_cases e:t.a=t.b
  ·rw[if_pos e]at z;exact up (h c m z)
  ·rw[if_neg e,wj,wj]at z;have ht:t∈p++[t]:=MK _ (Mr.mpr rfl);by_cases e1:c=cd n t.b t.a
   ·rw[if_pos e1]at z;cases z;exact⟨t,ht,e,rfl,.inr e1⟩
   ·rw[if_neg e1]at z;by_cases e2:c=cd n t.a t.b
    ·rw[if_pos e2]at z;cases z;exact⟨t,ht,e,rfl,.inl e2⟩
    ·rw[if_neg e2]at z;exact up (h c m z)
theorem HD(h:c∉hk (aR n r)):hdF (aR n r) c=none:=by
 have:=iR (h:=aR n r) (m:=c);rw[decide_eq_false h]at this;cases q:hdF (aR n r) c with
 |none=>rfl
 |some x=>rw[q]at this;cases this
structure Wtr(n:Nat)(R:List Tie)(w:List Step)(u b:Int)(ts:List Tie)(us:List Int):Prop where
 tr:lA R u ts us
 last:gu u us=b
 ne:us≠[]
 told:rT n R w=mss ts
 thr:(mso w).filter (fun c=>decide (Fd.src c<n))=us.dropLast.map fun v=>20*v+((n:Int)+v)
 ind:∀v∈us,v∈w.map (·.2)
 Kc:∀v∈us.dropLast,(n:Int)+v∈w.map (·.2)
 nd:us.Nodup
 st:u∉us
 len:ts.length=us.length
 rg:∀v∈us,0<=v/\v<n
 arc:∀t∈ts,∃x y,Ends t x y/\cd n x y∈mso w/\(x=u\/x∈us.dropLast)/\y∈us
theorem jn(n:Nat)(R:List Tie)(s:Step)(w:List Step):rT n R (s::w)=(if (hdF (aR n R) s.1).isSome=true then [(hdF (aR n R) s.1).getD 0] else [])++rT n R w:=by
 unfold rT;show ((s.1::mso w).filter _).map _=_;by_cases h:(hdF (aR n R) s.1).isSome=true
 ·rw[MV (p:=fun c=>(hdF (aR n R) c).isSome) h,if_pos h];rfl
 ·rw[MQ (p:=fun c=>(hdF (aR n R) c).isSome) h,if_neg h];rfl
theorem De(h:t.a≠t.b){c u v:Int}(hs:(n:Int)+u=Fd.src c)(hd:v=Fd.dst c)(p1:0<=t.a/\t.a<20/\0<=t.b/\t.b<20)(k:c=cd n t.a t.b\/c=cd n t.b t.a):Ends t u v/\c=cd n u v:=by
 unfold Fd.src at hs;unfold Fd.dst at hd;rcases k with rfl | rfl
 ·obtain⟨e1,e2⟩:=cQ (n:=n) (u:=t.a) (v:=t.b) p1.2.2.1 p1.2.2.2;rw[e1]at hs;rw[e2]at hd;have:u=t.a:=by lia
  subst this;subst hd;exact⟨⟨h,.inl ⟨rfl,rfl⟩⟩,rfl⟩
 ·obtain⟨e1,e2⟩:=cQ (n:=n) (u:=t.b) (v:=t.a) p1.1 p1.2.1;rw[e1]at hs;rw[e2]at hd;have:u=t.b:=by lia
  subst this;subst hd;exact⟨⟨h,.inr ⟨rfl,rfl⟩⟩,rfl⟩
theorem oj(n10:n<=10)(hp:Pl n R){H:Hd}{u:Int}(u0:0<=u)(h:Fd.Led (bV n R) H ((n:Int)+u) s):∃t∈R,Ends t u s.2/\s.1=cd n u s.2/\hdF (aR n R) s.1=some t.m/\0<=s.2/\s.2<n/\¬Fd.src s.1<n:=by
 obtain⟨h1,_,h3,h4⟩:=h;have hm:s.1∈hk (aR n R):=by
  rcases Mw.mp h1 with z | z
  ·exact z
  ·obtain⟨p,hp',e⟩:=Mt.mp z;have:=MR.mp hp';unfold Fd.src at h3
   lia
 obtain⟨m,em⟩:=NX.mp (show (hdF (aR n R) s.1).isSome=true by rw[iR];exact decide_eq_true hm);obtain⟨t,ht,ne,e1,e2⟩:=Dd n R em;have p:=hp t ht;obtain⟨en,ec⟩:=De ne (n:=n) h3.symm h4.symm (by lia) e2;refine⟨t,ht,en,ec,by rw[em,e1],?_⟩;obtain⟨_,en⟩:=en;rw[h3]
 lia
theorem rW(n10:n<=10)(hp:Pl n R){H:Hd}(v0:0<=v)(v1:v<n)(h:Fd.Led (bV n R) H v s):s.1=20*v+((n:Int)+v)/\s.2=(n:Int)+v/\hdF (aR n R) s.1=none/\Fd.src s.1<n:=by
 obtain⟨h1,_,h3,h4⟩:=h;have D:=dS n n10 R hp;rcases (D.mem s.1).mp h1 with⟨t,ht,ne,k⟩ | ⟨p,hpn,e⟩
 ·have p:=hp t ht;exfalso;unfold Fd.src at h3;rcases k with k | k
  ·rw[k,(cQ (n:=n) (u:=t.a) (v:=t.b) (by lia) (by lia)).1]at h3;lia
  ·rw[k,(cQ (n:=n) (u:=t.b) (v:=t.a) (by lia) (by lia)).1]at h3;lia
 ·have e1:Fd.src s.1=p:=by rw[e];unfold Fd.src;lia
  have e2:Fd.dst s.1=(n:Int)+p:=by rw[e];unfold Fd.dst;lia
  have:v=p:=by rw[<- h3,e1]
  subst this;refine⟨e,by rw[<- h4,e2],HD fun z=>?_,by rw[e1];lia⟩;obtain⟨t,ht,ne,k⟩:=((lq n R).mem s.1).mp z;have q:=hp t ht;unfold Fd.src at e1;rcases k with k | k
  ·rw[k,(cQ (n:=n) (u:=t.a) (v:=t.b) (by lia) (by lia)).1]at e1;lia
  ·rw[k,(cQ (n:=n) (u:=t.b) (v:=t.a) (by lia) (by lia)).1]at e1;lia
theorem oq(n10:n<=10)(hp:Pl n R){H:Hd}{b:Int}(b0:0<=b)(b1:b<n):∀{w:List Step} {u:Int},0<=u->u<n->u≠b->Way (Fd.Led (bV n R) H) ((n:Int)+u) w b->(((n:Int)+u)::w.map (·.2)).Nodup->∃ts us,Wtr n R w u b ts us
 |[],u,u0,u1,ub,h,nd=>by
  have h:(n:Int)+u=b:=h
  lia
 |[s],u,u0,u1,ub,h,nd=>by
  obtain⟨t,ht,en,ec,em,v0,v1,ns⟩:=oj n10 hp u0 h.1;have hb:s.2=b:=h.2;refine⟨[t],[s.2],⟨ht,en,trivial⟩,hb,by simp,?_,?_,by simp,by simp,by simp,?_,rfl,by simp;exact⟨v0,v1⟩,?_⟩
  ·rw[jn,em];rfl
  ·show ([s.1].filter _)=_;rw[MQ (by simpa using ns)];rfl
  ·simp;exact en.ne
  ·intro t' ht';rw[Mr.mp ht'];exact⟨u,s.2,en,by rw[<- ec];exact Ds,.inl rfl,by simp⟩
 |s::s2::w,u,u0,u1,ub,h,nd=>by
  obtain⟨h1,h2,h3⟩:=h;obtain⟨t,ht,en,ec,em,v0,v1,ns⟩:=oj n10 hp u0 h1;obtain⟨f1,f2,f3,f4⟩:=rW n10 hp v0 v1 h2;rw[f2]at h3;have nd':=nd;rw[gc,gc,MB,MB]at nd;obtain⟨nd1,nd2,nd3⟩:=nd;have vb:s.2≠b:=fun z=>by have:=pP h3;rw[<- f2]at this;exact nd2 (by rw[z];exact this)
  obtain⟨ts,us,W⟩:=oq n10 hp b0 b1 v0 v1 vb h3 (by rw[<- f2];exact nd3);have une:∃y ys,us=y::ys:=by
   cases q:us with
   |nil=>exact(W.ne q).elim
   |cons y ys=>exact⟨y,ys,rfl⟩
  have dl:(s.2::us).dropLast=s.2::us.dropLast:=by obtain⟨y,ys,rfl⟩:=une;rfl
  refine⟨t::ts,s.2::us,⟨ht,en,W.tr⟩,by rw[gO];exact W.last,by simp,?_,?_,?_,?_,MB.mpr ⟨W.st,W.nd⟩,?_,by simp[W.len],?_,?_⟩
  ·rw[jn,jn,em,f3,W.told];rfl
  ·show ((s.1::s2.1::mso w).filter _)=_;rw[MQ (by simpa using ns),MV (by simpa using f4),W.thr,dl,gc,f1]
  ·intro v hv;rcases Ms.mp hv with rfl | hv
   ·simp
   ·exact Dk _ (Dk _ (W.ind v hv))
  ·intro v hv;rw[dl]at hv;rcases Ms.mp hv with rfl | hv
   ·rw[gc,gc,f2];simp
   ·exact Dk _ (Dk _ (W.Kc v hv))
  ·intro hu;rcases Ms.mp hu with e | hu
   ·exact en.ne e
   ·by_cases q:u∈us.dropLast
    ·exact nd1 (Dk _ (Dk _ (W.Kc u q)))
    ·have:u=b:=by
      obtain⟨y,ys,e⟩:=une;have J9:us≠[]:=W.ne;have h5:us=us.dropLast++[us.getLast J9]:=(List.dropLast_concat_getLast J9).symm;have h6:us.getLast J9=b:=by have:=W.last;unfold gu at this;rw[List.getLast?_eq_some_getLast J9]at this;exact this
      rw[h5,h6]at hu;rcases Mw.mp hu with hu | hu
      ·exact(q hu).elim
      ·exact Mr.mp hu
     exact ub this
  ·intro v hv;rcases Ms.mp hv with rfl | hv
   ·exact⟨v0,v1⟩
   ·exact W.rg v hv
  ·intro t' ht';rcases Ms.mp ht' with rfl | ht'
   ·exact⟨u,s.2,en,by rw[<- ec];exact Ds,.inl rfl,Ds⟩
   ·obtain⟨x,y,k1,k2,k3,k4⟩:=W.arc t' ht';refine⟨x,y,k1,Dk _ (Dk _ k2),.inr ?_,Dk _ k4⟩;rw[dl];rcases k3 with rfl | k3
    ·exact Ds
    ·exact Dk _ k3
theorem lB{r R:List Tie}(h:∀t∈R,t∈r):∀{ts:List Tie} {us:List Int} {u:Int},lA R u ts us->lA r u ts us
 |[],[],_,_=>trivial
 |_::_,_::_,_,k=>⟨h _ k.1,k.2.1,lB h k.2.2⟩
 |[],_::_,_,k=>k.elim
 |_::_,[],_,k=>k.elim
theorem jo{u b:Int}(nd:us.Nodup)(h:gu u us=b)(ne:us≠[]):us=us.dropLast++[b]/\b∉us.dropLast:=by
 have h6:us.getLast ne=b:=by unfold gu at h;rw[List.getLast?_eq_some_getLast ne]at h;exact h
 have e:us=us.dropLast++[b]:=by rw[<- h6];exact(List.dropLast_concat_getLast ne).symm
 refine⟨e,fun z=>?_⟩;rw[e]at nd;exact(Nh.mp nd).2.2 b z b (Mr.mpr rfl) rfl
theorem jW{u b:Int}{ts:List Tie}(W:Wtr n R w u b ts us)(h:v∈us.dropLast):20*v+((n:Int)+v)∈mso w:=by have:20*v+((n:Int)+v)∈us.dropLast.map fun v=>20*v+((n:Int)+v):=Mt.mpr ⟨v,h,rfl⟩;rw[<- W.thr]at this;exact(Mx.mp this).1
theorem xZ(h:∀w∈ws,∃ts us,Wtr n R w a b ts us):∃f:List Step->Tr,∀w∈ws,Wtr n R w a b (f w).1 (f w).2:=by refine⟨fun w=>(Oj fun x:Tr=>Wtr n R w a b x.1 x.2),fun w hw=>?_⟩;obtain⟨ts,us,W⟩:=h w hw;exact N5 (p:=fun x:Tr=>Wtr n R w a b x.1 x.2) ⟨(ts,us),W⟩
theorem gP{H:Hd}(hK:∀c∈A,(H c).isSome=true->Fd.dst c∈K->Fd.src c∈K):∀{w1:List Step} {x:Int} {u:Step} {w2:List Step},Way (Fd.Led A H) x (w1++u::w2) y->Fd.src u.1∈K->x∈K/\∀v∈w1,Fd.dst v.1∈K
 |[],x,u,w2,h,k=>by have e:=h.1.2.2.1;exact⟨by rw[<- e];exact k,fun v hv=>by cases hv⟩
 |s::w1,x,u,w2,h,k=>by
  obtain⟨h1,h2⟩:=gP hK h.2 k;obtain⟨e1,e2,e3,e4⟩:=h.1;have hd:Fd.dst s.1∈K:=by rw[e4];exact h1
  refine⟨?_,fun v hv=>?_⟩
  ·rw[<- e3];exact hK s.1 e1 (by rw[e2];rfl) hd
  ·rcases Ms.mp hv with rfl | hv
   ·exact hd
   ·exact h2 v hv
theorem pS{R:Int->Step->Prop}:∀{w1:List Step} {x:Int} {u:Step} {w2:List Step},Way R x (w1++u::w2) y->∃p,Way R x w1 p/\R p u/\Way R u.2 w2 y
 |[],x,u,w2,h=>⟨x,rfl,h.1,h.2⟩
 |s::w1,x,u,w2,h=>by obtain⟨p,h1,h2,h3⟩:=pS h.2;exact⟨p,⟨h.1,h1⟩,h2,h3⟩
theorem ou(h:c∈mso w):∃w1 u w2,w=w1++u::w2/\u.1=c:=by obtain⟨u,hu,rfl⟩:=Mt.mp h;obtain⟨w1,w2,e⟩:=List.append_of_mem hu;exact⟨w1,u,w2,e,rfl⟩
theorem leaves{H:Hd}(hy:y∉K):∀{w:List Step} {x:Int},Way (Fd.Led A H) x w y->x∈K->∃c∈mso w,c∈A/\Fd.src c∈K/\Fd.dst c∉K
 |[],x,h,k=>by have h:x=y:=h;exact(hy (h▸k)).elim
 |s::w,x,h,k=>by
  obtain⟨e1,e2,e3,e4⟩:=h.1;by_cases q:s.2∈K
  ·obtain⟨c,h1,h2⟩:=leaves hy h.2 q;exact⟨c,Dk _ h1,h2⟩
  ·exact⟨s.1,Ds,e1,by rw[e3];exact k,by rw[e4];exact q⟩
theorem rX(nd:A.Nodup){H:Hd}(F:Fd.Flow A H a b ws.length)(W:xT A H a b ws)(ka:a∈K)(kb:b∉K)(hc:∀p u,p∈K->Fd.dR A H p u->u.2∈K)(hA:c∈A)(h1:Fd.src c∈K)(h2:Fd.dst c∉K):∃w∈ws,c∈mso w:=by
 have cut:=F.cut (S:=fun x=>decide (x∈K)) (decide_eq_true ka) (decide_eq_false kb) fun p u hp hf=>decide_eq_true (hc p u (of_decide_eq_true hp) hf);apply Nq;intro no;have ex:∀w∈ws,∃c,c∈mso w/\c∈A/\Fd.src c∈K/\Fd.dst c∉K:=fun w hw=>leaves kb (W.way w hw).way ka;obtain⟨l,hl⟩:∃l:List Step->Int,∀w∈ws,l w∈mso w/\l w∈A/\Fd.src (l w)∈K/\Fd.dst (l w)∉K:=
  ⟨fun w=>(Oj fun c=>c∈mso w/\c∈A/\Fd.src c∈K/\Fd.dst c∉K),fun w hw=>N5 (p:=fun c=>c∈mso w/\c∈A/\Fd.src c∈K/\Fd.dst c∉K) (ex w hw)⟩
 have dis:=(NR.mp W.nd).2;rw[MY]at dis;have n1:(ws.map l).Nodup:=MY.mpr (Nr (fun {w w'} hw hw' hd=>hd _ (hl w hw).1 _ (hl w' hw').1) dis);have n2:(c::ws.map l).Nodup:=MB.mpr ⟨fun z=>by obtain⟨w,hw,e⟩:=Mt.mp z;exact no ⟨w,hw,e▸(hl w hw).1⟩,n1⟩
 have out:∀ x,x∈A→Fd.src x∈K→Fd.dst x∉K→x∈A.filter (Fd.out fun x=>decide (x∈K)):=fun x k1 k2 k3=>Mx.mpr ⟨k1,by unfold Fd.out;dsimp only;rw[decide_eq_true k2,decide_eq_false k3];rfl⟩
 have:=bC _ (A.filter (Fd.out fun x=>decide (x∈K))) n2 fun x hx=>by
  rcases Ms.mp hx with rfl | hx
  ·exact out _ hA h1 h2
  ·obtain⟨w,hw,rfl⟩:=Mt.mp hx;exact out _ (hl w hw).2.1 (hl w hw).2.2.1 (hl w hw).2.2.2
 rw[cut,M0,Mj]at this
 lia
theorem lC{w1 w2:List Step}{v:Step}(h1:∀z∈w1,bY n K z.1=false)(h2:bY n K v.1=true):cR n K (w1++v::w2)=Fd.src v.1:=by
 unfold cR n8 mso;rw[My,List.filter_append,gc,MV h2];have:(w1.map (·.1)).filter (bY n K)=[]:=by refine List.filter_eq_nil_iff.mpr fun c hc=>?_;obtain⟨z,hz,rfl⟩:=Mt.mp hc;rw[h1 z hz];exact MG
 rw[this];rfl
theorem Kd(n10:n<=10)(hp:Pl n r)(D:rS n r A){H:Hd}(a0:0<=a)(a1:a<n)(b0:0<=b)(b1:b<n)(F:Fd.Flow A H ((n:Int)+a) b k)
  {K:List Int} (hS:∀x∈K,x≠(n:Int)+a->∃p c,p∈K/\Fd.dR A H p (c,x)) {w1 w2:List Step} {u:Step} (hw:Way (Fd.Led A H) ((n:Int)+a) (w1++u::w2) b) {x:Int} (x0:0<=x) (hx:Fd.src u.1=(n:Int)+x) (kx:(n:Int)+x∈K) (ky:Fd.dst u.1∉K):x=a:=by
 apply Nq;intro ne;obtain⟨p,e2,e3,_⟩:=pS hw;obtain⟨hc,lc,sc,tc⟩:=e3;rw[hx]at sc;subst sc;obtain⟨w'',p',d,f1,f2,f3⟩:=fY e2 (pO e2 (by lia));obtain⟨hd,ld,sd,td⟩:=f3;dsimp only at hd ld sd td;obtain⟨q,z,hq,hz,hf⟩:=hS _ kx (by lia);have only:∀z∈A,Fd.dst z=(n:Int)+x->z=d:=fun z hz hzp=>by
  obtain⟨k1,_⟩:=eT n10 D hp hz (by lia);obtain⟨k2,_⟩:=eT n10 D hp hd (by lia);unfold Fd.src Fd.dst at *
  lia
 dsimp only at hz hf;rcases hf with⟨z1,z2,z3⟩ | ⟨z1,z2,z3⟩
 ·have:=only z hz z3;rw[this,ld]at z1;cases z1
 ·have h0:Fd.bH A H (fun y=>decide (y=(n:Int)+x))=0:=by
   rw[F.eq];rw[decide_eq_false (by lia),decide_eq_false (by lia)];simp
  have lo:∀c∈A,Fd.src c=(n:Int)+x->Fd.dst c≠(n:Int)+x:=fun c hc hs z=>by
   obtain⟨k1,_⟩:=eT n10 D hp hc (by lia)
   lia
  have dl:=D.dr d hd;obtain⟨g1,g2⟩:=eT n10 D hp hd (by lia);have e:=v_ D.nd h0 hc (by rw[lc];rfl) hx (lo _ hc hx) hz z1 z3 (lo _ hz z3) only hd (by rw[ld];rfl) td (by lia);rw[e,z2]at ky;exact ky hq
noncomputable def thA(n:Nat)(v:Int):Int:=20*v+((n:Int)+v)
theorem wo(n10:n<=10)(h0:0<=v)(h1:v<n):Fd.src (thA n v)=v/\Fd.dst (thA n v)=(n:Int)+v:=by
 unfold Fd.src Fd.dst thA
 lia
theorem rY(h:Fd.dst c∈K):bY n K c=false:=by unfold bY;rw[decide_eq_true h];simp
structure HE(n:Nat)(R:List Tie)(a b:Int)(k:Nat)(S:List Int):Prop where
 len:S.length=k
 nd:S.Nodup
 rg:∀v∈S,0<=v/\v<n/\v≠a/\v≠b
 cl:∃G:Int->Prop,G a/\¬G b/\∀t∈R,∀x y,Ends t x y->G x->y∉S->G y
theorem Df(n10:n<=10)(hp:Pl n R)(a0:0<=a)(a1:a<n)(b0:0<=b)(b1:b<n)(nab:a≠b)(Ht:∀t∈R,¬((t.a=a/\t.b=b)\/(t.a=b/\t.b=a))){h:List (Int×Int)}{ws:List (List Step)}
  (fl:Fd.Flow (bV n R) (hdF h) ((n:Int)+a) b ws.length) (W:xT (bV n R) (hdF h) ((n:Int)+a) b ws) {s:Sr} (F:Fnd (2*n) (frR n R h) ((n:Int)+a) s) (cl:∀x∈sk s,Done (frR n R h) (sk s) x) (hb:b∉sk s)
  {f:List Step->Tr} (hf:∀w∈ws,Wtr n R w a b (f w).1 (f w).2):HE n R a b ws.length (ws.map (cR n (sk s))):=by
 have D:rS n R (bV n R):=dS n n10 R hp;have hS:∀x∈sk s,x≠(n:Int)+a->∃p c,p∈sk s/\Fd.dR (bV n R) (hdF h) p (c,x):=fun x hx ne=>by
  obtain⟨p,c,k1,k2⟩:=Fnd.from F hx ne
  exact⟨p,c,k1,(fX D.dr).mp k2⟩
 have hc:∀p u,p∈sk s->Fd.dR (bV n R) (hdF h) p u->u.2∈sk s:=fun p u hp' hf'=>cl p hp' u ((fX D.dr).mpr hf')
 generalize hK:sk s=K at *
 have ka:(n:Int)+a∈K:=by rw[<- hK];exact F.st
 have AA:∀c∈bV n R,(hdF h c).isSome=true->Fd.dst c∈K->Fd.src c∈K:=fun c k1 k2 k3=>hc _ (c,Fd.src c) k3 ⟨k1,.inr ⟨k2,rfl,rfl⟩⟩;have dis:=(NR.mp W.nd).2;rw[MY]at dis;have hv:∀w∈ws,cR n K w∈(f w).2.dropLast:=fun w hw=>by
  obtain⟨c,k1,k2,k3⟩:=wc n10 hp D a0 a1 b0 b1 Ht fl (S:=fun x=>x∈K) hS hb (W.way w hw);have hm:c∈(mso w).filter (bY n K):=Mx.mpr ⟨k1,by unfold bY;rw[decide_eq_true k2,decide_eq_false k3];rfl⟩;unfold cR n8;cases q:(mso w).filter (bY n K) with
  |nil=>rw[q]at hm;cases hm
  |cons d l=>
   have hd:d∈(mso w).filter (bY n K):=by rw[q];exact Ds
   obtain⟨j1,j2⟩:=Mx.mp hd;unfold bY at j2;rw[MD]at j2;have hd2:d∈(mso w).filter (fun c=>decide (Fd.src c<n)):=Mx.mpr ⟨j1,j2.1⟩;have V:=hf w hw;rw[V.thr]at hd2;obtain⟨v,v1,v2⟩:=Mt.mp hd2;have vr:=V.rg v ((Oz _).subset v1);show Fd.src d∈_;rw[<- v2];have e:=(wo n10 vr.1 vr.2).1;unfold thA at e;rw[e];exact v1
 have hin:∀y,(∃w∈ws,cR n K w=y)->y∈ws.map (cR n K):=fun y ⟨w,k1,k2⟩=>Mt.mpr ⟨w,k1,k2⟩;refine⟨by rw[Mj],MY.mpr (Nr ?_ dis),fun v hv'=>?_,⟨fun x=>(n:Int)+x∈K/\0<=x/\x<n/\x≠b,⟨ka,a0,a1,?_⟩,fun z=>z.2.2.2 rfl,?_⟩⟩
 ·intro w w' hw hw' hd e;exact hd _ (jW (hf w hw) (hv w hw)) _ (jW (hf w' hw') (e▸hv w' hw')) rfl
 ·obtain⟨w,hw,rfl⟩:=Mt.mp hv';have V:=hf w hw;have k1:=hv w hw;have k2:=(Oz _).subset k1;have k3:=V.rg _ k2;exact⟨k3.1,k3.2,fun z=>V.st (z▸k2),fun z=>(jo V.nd V.last V.ne).2 (z▸k1)⟩
 ·exact nab
 ·rintro t ht x y en ⟨kx,x0,x1,xb⟩ hy;have p:=hp t ht;obtain⟨ne,en⟩:=en;have y0:0<=y/\y<n:=by lia
  obtain⟨d1,d2⟩:=cQ (n:=n) (u:=x) (v:=y) y0.1 (by lia);have hA:cd n x y∈bV n R:=(D.mem _).mpr (.inl ⟨t,ht,ne,by
   rcases en with⟨e1,e2⟩ | ⟨e1,e2⟩
   ·rw[e1,e2];exact .inl rfl
   ·rw[e1,e2];exact .inr rfl⟩)
  have d1:Fd.src (cd n x y)=(n:Int)+x:=d1;have d2:Fd.dst (cd n x y)=y:=d2;obtain⟨q1,q2⟩:=wo n10 y0.1 y0.2;have hT:thA n y∈bV n R:=(D.mem _).mpr (.inr ⟨y.toNat,by lia,by unfold thA;lia⟩);have yK:y∈K:=by
   apply Nq;intro yK;obtain⟨w,hw,hcw⟩:=rX D.nd fl W ka hb hc hA (by rw[d1];exact kx) (by rw[d2];exact yK);obtain⟨w1,u,w2,e,eu⟩:=ou hcw;have way:=(W.way w hw).way;rw[e]at way;obtain⟨_,bf⟩:=gP AA way (by rw[eu,d1];exact kx);have xa:=Kd n10 hp D a0 a1 b0 b1 fl hS way x0 (by rw[eu,d1]) kx (by rw[eu,d2];exact yK);subst xa;have yb:y≠b:=fun z=>Ht t ht (by lia);obtain⟨_,_,m2,m3⟩:=pS way;have u2:u.2=y:=by rw[<- m2.2.2.2,eu,d2]
   rw[u2]at m3;cases w2 with
   |nil=>have m3:y=b:=m3;exact yb m3
   |cons s2 w2=>
    obtain⟨n1,n2,_,_⟩:=rW n10 hp y0.1 y0.2 m3.1;apply hy;apply hin;refine⟨w,hw,?_⟩;rw[e,show w1++u::s2::w2=(w1++[u])++s2::w2 by simp];have n1:s2.1=thA n y:=n1;rw[lC,n1,q1]
    ·intro z hz;rcases Mw.mp hz with hz | hz
     ·exact rY (bf z hz)
     ·rw[Mr.mp hz,eu];unfold bY;rw[d1,decide_eq_false (by lia)];rfl
    ·unfold bY;rw[n1,q1,q2,decide_eq_true y0.2,decide_eq_false fun z=>?_]
     ·rfl
     ·have:=AA (thA n y) hT (by rw[<- n1,m3.1.2.1];rfl) (by rw[q2];exact z);rw[q1]at this;exact yK this
  refine⟨?_,y0.1,y0.2,fun z=>hb (z▸yK)⟩;apply Nq;intro nK;obtain⟨w,hw,hcw⟩:=rX D.nd fl W ka hb hc hT (by rw[q1];exact yK) (by rw[q2];exact nK);obtain⟨w1,u,w2,e,eu⟩:=ou hcw;have way:=(W.way w hw).way;rw[e]at way;obtain⟨_,bf⟩:=gP AA way (by rw[eu,q1];exact yK);apply hy;apply hin;refine⟨w,hw,?_⟩;rw[e,lC (fun z hz=>rY (bf z hz)),eu,q1];unfold bY;rw[eu,q1,q2,decide_eq_true y0.2,decide_eq_false nK];rfl
theorem Dg:∀t∈cS r a b,¬((t.a=a/\t.b=b)\/(t.a=b/\t.b=a)):=fun t ht k=>by
 have h2:dU a b t=false:=by simpa using(Mx.mp ht).2
 unfold dU at h2;rcases k with⟨rfl,rfl⟩ | ⟨rfl,rfl⟩
 ·rw[decide_eq_true (.inl rfl),decide_eq_true (.inr rfl)]at h2;cases h2
 ·rw[decide_eq_true (.inr rfl),decide_eq_true (.inl rfl)]at h2;cases h2
def oz(R:List Tie)(a b:Int)(k:Nat):Prop:=∃(st:List Tie) (T:List Tr),st.length+T.length=k/\st.Sublist (ck R a b)/\(∀x∈T,lA (cS R a b) a x.1 x.2/\gu a x.2=b/\x.2≠[]/\x.2.Nodup)/\(T.map fun x=>x.2.dropLast).flatten.Nodup
def pT(n:Nat)(R:List Tie)(a b:Int)(k:Nat):Prop:=∃S j,HE n (cS R a b) a b j S/\(ck R a b).length+j<k
theorem rZ(n10:n<=10)(hp:Pl n R)(hl:R.length<=100)(a0:0<=a)(a1:a<n)(b0:0<=b)(b1:b<n)(Ht:a≠b)(k6:k<=60) :
  ∃c:Bool,v5 [.int n,aD R,.int a,.int b,.int k]=some (.val (.bl c))/\(c=true->oz R a b k)/\(c=false->pT n R a b k):=by
 obtain⟨ws,o,h,e,A⟩:=gq n n10 R hp hl a b a0 a1 b0 b1 Ht k (by lia) (by lia);have hpo:Pl n (cS R a b):=fun t ht=>hp t (Mx.mp ht).1;obtain⟨f,hf⟩:=xZ (n:=n) (R:=cS R a b) (a:=a) (b:=b) (ws:=ws) fun w hw=>oq n10 hpo b0 b1 a0 a1 Ht (A.ways.way w hw).way (A.ways.way w hw).nd;rw[M7]at e A;refine⟨isN (n9 o),?_,fun z=>?_,fun z=>?_⟩
 ·apply P0;unfold v5
  (refine Dm.PM ?_ rfl rfl;and_intros)
  refine PR (O_ (O_ (PL (m_ (M_ rfl (m_ (M_ rfl (m_ (M_ rfl (m_ (M_ rfl (m_ (M_ rfl (N_ (PK e ?_ rfl rfl rfl rfl)))))))))))))));refine Pu (Pw ?_ rfl rfl rfl);exact Pu (RC rfl rfl rfl)
 ·cases o with
  |some S=>cases z
  |none=>
   have:=A.all rfl;have dis:=(NR.mp A.ways.nd).2;rw[MY]at dis;refine⟨(ck R a b).take k,ws.map f,by rw[Mj];lia,List.take_sublist _ _,fun x hx=>?_,?_⟩
   ·obtain⟨w,hw,rfl⟩:=Mt.mp hx;exact⟨(hf w hw).tr,(hf w hw).last,(hf w hw).ne,(hf w hw).nd⟩
   ·rw[MI];refine NR.mpr ⟨fun l hl'=>?_,MY.mpr (Nr ?_ dis)⟩
    ·obtain⟨w,hw,rfl⟩:=Mt.mp hl';exact(hf w hw).nd.sublist (Oz _)
    ·intro w w' hw hw' hd x hx y hy e;subst e;exact hd _ (jW (hf w hw) hx) _ (jW (hf w' hw') hy) rfl
 ·cases o with
  |none=>cases z
  |some S=>obtain⟨lt,s,hs⟩:=A.shut S rfl;rw[Nf]at lt;exact⟨_,_,Df n10 hpo a0 a1 b0 b1 Ht Dg A.bH A.ways hs.fnd hs.cl hs.no hf,by lia⟩
inductive bq(R:List Tie)(S:List Int)(a:Int):Int->Prop
 |refl:bq R S a a
 |step {x y:Int} {t:Tie}:bq R S a x->t∈R->Ends t x y->y∉S->bq R S a y
theorem bq.mono{R R':List Tie}{a x:Int}(h:bq R S a x)(hs:∀t∈R,t∈R'):bq R' S a x:=by
 induction h with
 |refl=>exact .refl
 |step _ h1 h2 h3 ih=>exact .step ih (hs _ h1) h2 h3
theorem bq.trans{a b x:Int}(h:bq R S a b)(k:bq R S b x):bq R S a x:=by
 induction k with
 |refl=>exact h
 |step _ h1 h2 h3 ih=>exact .step ih h1 h2 h3
theorem bq.out{a x:Int}(h:bq R S a x)(ha:a∉S):x∉S:=by
 cases h with
 |refl=>exact ha
 |step _ _ _ h3=>exact h3
theorem bq.symm{a x:Int}(h:bq R S a x)(ha:a∉S):bq R S x a:=by
 induction h with
 |refl=>exact .refl
 |step h0 h1 h2 h3 ih=>exact(bq.step .refl h1 h2.symm (h0.out ha)).trans ih
theorem lD:∀{ts:List Tie} {us:List Int} {u:Int},lA R u ts us->(∀v∈us,v∉S)->bq R S u (gu u us)
 |[],[],u,_,_=>.refl
 |t::ts,v::us,u,h,hs=>by rw[gO];exact(bq.step .refl h.1 h.2.1 (hs v Ds)).trans (lD h.2.2 fun w hw=>hs w (Dk _ hw))
 |[],_::_,_,k,_=>k.elim
 |_::_,[],_,k,_=>k.elim
theorem miss{T:List Tr}(nd:(T.map fun x=>x.2.dropLast).flatten.Nodup)(h:S.length<T.length):∃x∈T,∀v∈x.2.dropLast,v∉S:=by
 apply Nq;intro no;have ex:∀x∈T,∃v,v∈x.2.dropLast/\v∈S:=fun x hx=>Nq fun z=>no ⟨x,hx,fun v hv hs=>z ⟨v,hv,hs⟩⟩;obtain⟨l,hl⟩:∃l:Tr->Int,∀x∈T,l x∈x.2.dropLast/\l x∈S:=⟨fun x=>(Oj fun v=>v∈x.2.dropLast/\v∈S),fun x hx=>N5 (p:=fun v=>v∈x.2.dropLast/\v∈S) (ex x hx)⟩
 have dis:=(NR.mp nd).2;rw[MY]at dis;have n1:(T.map l).Nodup:=MY.mpr (Nr (fun {x y} hx hy hd=>hd _ (hl x hx).1 _ (hl y hy).1) dis);have:=bC (T.map l) S n1 fun v hv=>by obtain⟨x,hx,rfl⟩:=Mt.mp hv;exact(hl x hx).2
 rw[Mj]at this
 lia
theorem lE(Ht:a≠b)(h:oz R a b k)(hs:S.length<k)(hb:b∉S):bq R S a b:=by
 obtain⟨st,T,h1,h2,h3,h4⟩:=h;cases st with
 |cons t st=>
  clear h3 h4 h1;obtain⟨k1,k2⟩:=Mx.mp (h2.subset Ds);unfold dU at k2;rw[MD,decide_eq_true_iff,decide_eq_true_iff]at k2;have ne:t.a≠t.b:=by lia
  exact .step .refl k1 ⟨ne,by lia⟩ hb
 |nil=>
  rw[O7]at h1;obtain⟨x,hx,hm⟩:=miss h4 (S:=S) (by lia);obtain⟨g1,g2,g3,g4⟩:=h3 x hx;have:=lD (lB (fun t ht=>(Mx.mp ht).1) g1) fun v hv=>by
   obtain⟨e,_⟩:=jo g4 g2 g3;rw[e]at hv;rcases Mw.mp hv with hv | hv
   ·exact hm v hv
   ·rw[Mr.mp hv];exact hb
  rw[g2]at this;exact this
theorem lF{G:Int->Prop}(cl:∀t∈R,∀x y,Ends t x y->G x->y∉S->G y):∀{ts:List Tie} {us:List Int} {u:Int},lA R u ts us->G u->¬G (gu u us)->∃v∈us,v∈S
 |[],[],u,_,g,n=>(n g).elim
 |t::ts,v::us,u,h,g,n=>by
  rw[gO]at n;by_cases q:v∈S
  ·exact⟨v,Ds,q⟩
  ·obtain⟨w,k1,k2⟩:=lF cl h.2.2 (cl t h.1 u v h.2.1 g q) n;exact⟨w,Dk _ k1,k2⟩
 |[],_::_,_,k,_,_=>k.elim
 |_::_,[],_,k,_,_=>k.elim
theorem AB(h:oz R a b k)(w:pT n R a b k):False:=by
 obtain⟨st,T,h1,h2,h3,h4⟩:=h;obtain⟨S,j,B,hj⟩:=w;obtain⟨G,ga,gb,cl⟩:=B.cl;have sl:=h2.length_le;have:=B.len;obtain⟨x,hx,hm⟩:=miss (S:=S) h4 (by lia);obtain⟨g1,g2,g3,g4⟩:=h3 x hx;obtain⟨v,k1,k2⟩:=lF cl g1 ga (by rw[g2];exact gb);obtain⟨e,_⟩:=jo g4 g2 g3;rw[e]at k1;rcases Mw.mp k1 with k1 | k1
 ·exact hm v k1 k2
 ·exact(B.rg v k2).2.2.2 (Mr.mp k1)
theorem pT.mono{R R':List Tie}(w:pT n R a b k)(s:R'.Sublist R):pT n R' a b k:=by obtain⟨S,j,B,hj⟩:=w;obtain⟨G,ga,gb,cl⟩:=B.cl;have s1:(cS R' a b).Sublist (cS R a b):=s.filter _;have s2:(ck R' a b).Sublist (ck R a b):=s.filter _;exact⟨S,j,⟨B.len,B.nd,B.rg,G,ga,gb,fun t ht=>cl t (s1.subset ht)⟩,by have:=s2.length_le;lia⟩
noncomputable def outF(r:List Tie)(t:Tie):List Tie:=r.filter fun u=>decide (u≠t)
theorem x6{K:List Tie}(h:t.a=t.b\/oz (outF K t) t.a t.b k)(hs:S.length<k){a y:Int}(ha:a∉S):bq K S a y↔bq (outF K t) S a y:=by
 refine⟨fun c=>?_,fun c=>c.mono fun u hu=>(Mx.mp hu).1⟩
 induction c with
 |refl=>exact .refl
 |@step x y u h0 h1 h2 h3 ih=>
  by_cases e:u=t
  ·subst e;obtain⟨ne,en⟩:=h2;have of:=h.resolve_left ne;rcases en with⟨rfl,rfl⟩ | ⟨rfl,rfl⟩
   ·exact ih.trans (lE ne of hs h3)
   ·exact ih.trans ((lE ne of hs (h0.out ha)).symm h3)
  ·exact .step ih (Mx.mpr ⟨h1,decide_eq_true e⟩) h2 h3
structure Kept(n:Nat)(r:List Tie)(k:Nat)(p K:List Tie):Prop where
 sub:K.Sublist r
 conn:∀S:List Int,S.length<k->∀a,a∉S->∀y,bq r S a y↔bq K S a y
 weak:∀t∈p,t∈K->t.a≠t.b/\pT n (outF K t) t.a t.b k
theorem Kept.start(n:Nat)(r:List Tie)(k:Nat):Kept n r k [] r:=⟨O0.refl _,fun _ _ _ _ _=>Iff.rfl,fun _ h=>(nomatch h)⟩
theorem Kept.drop{p K:List Tie}(h:Kept n r k p K)(t:Tie)(ht:t.a=t.b\/oz (outF K t) t.a t.b k):Kept n r k (p++[t]) (outF K t):=
 ⟨Nn.trans h.sub,fun S hs a ha y=>(h.conn S hs a ha y).trans (x6 ht hs ha),fun u hu hk=>by
  obtain⟨k1,k2⟩:=Mx.mp hk;have hu:u∈p:=by
   rcases Mw.mp hu with z | z
   ·exact z
   ·exact(of_decide_eq_true k2 (Mr.mp z)).elim
  obtain⟨g1,g2⟩:=h.weak u hu k1;exact⟨g1,g2.mono (Nn.filter _)⟩⟩
theorem Kept.keep{p K:List Tie}(h:Kept n r k p K)(t:Tie)(ne:t.a≠t.b)(ht:pT n (outF K t) t.a t.b k):Kept n r k (p++[t]) K:=
 ⟨h.sub,h.conn,fun u hu hk=>by
  rcases Mw.mp hu with z | z
  ·exact h.weak u z hk
  ·rw[Mr.mp z];exact⟨ne,ht⟩⟩
theorem Rl{u t:Tie}{Q:RV->Prop}(k:Q (.val (.bl (decide (u≠t)))))(ho:o=some (aQ u))(hp:p=some (aQ t)):Wg2 gNe o p Q:=
 ⟨_,_,_,ho,hp,rfl,by rw[uG,<- decide_not];exact k⟩
theorem lG(r:List Tie)(hl:r.length<=1000)(t:Tie):nT [aD r,aQ t]=some (.new (aD (outF r t))):=by
 apply P0;unfold nT
 (refine Dm.PM ?_ rfl rfl;and_intros)
 refine PR ?_;refine Qi aQ r (fun u=>decide (u≠t)) id aQ (d:=aD r) ?_ rfl rfl rfl (by decide) (by unfold SZ;lia) (fun u _=>?_) fun u _ _=>?_
 ·rw[Nm];rfl
 ·exact PJ (O_ (M_ rfl (M_ rfl (Rl (Px ⟨rfl,rfl⟩) rfl rfl))))
 ·exact M_ rfl (PF ⟨rfl,rfl⟩)
structure Fit(n:Nat)(r:List Tie):Prop where
 n10:n<=10
 pl:Pl n r
 nd:(r.map (·.m)).Nodup
 len:r.length<=100
theorem Fit.sub{r K:List Tie}(h:Fit n r)(s:K.Sublist r):Fit n K:=⟨h.n10,fun t ht=>h.pl t (s.subset ht),h.nd.sublist (s.map _),MH s.length_le h.len⟩
theorem Fit.out(h:Fit n r)(t:Tie):Fit n (outF r t):=h.sub Nn
noncomputable def gv(r K:List Tie):RV:=if r=[] then .new (aD K) else .val (aD K)
theorem pU(aH aW:Nat)(h:Fit n r)(k6:k<=6) :
  ∃K,jz aH aW [.int n,aD r,.int k,.fn aH]=some (gv r K)/\Kept n r k r K:=by
 suffices q:Wr (jz aH aW [.int n,aD r,.int k,.fn aH]) fun v=>∃K,v=gv r K/\Kept n r k r K by obtain⟨v,h1,K,rfl,h2⟩:=q;exact⟨K,h1,h2⟩
 unfold jz
 (refine Dm.PM ?_ rfl rfl;and_intros)
 refine Pr (PD (PY (m_ (M_ rfl (N_ (QA (xs:=r.map aQ) ?_ rfl))))) (by decide));refine PB ?_ (by trivial);refine Pr (P1 (Qg (M_ rfl (PF ⟨r.map aQ,rfl,?_⟩))));refine P5 aQ _ _ r _ _ _ _ _ (fun p q ρ=>∃(K:List Tie) (c4 c5 c6:Cell),ρ=[.sh (.int n),.sh (aD r),.sh (.int k),.sh (.fn aH),c4,c5,c6]/\Kept n r k p K/\((p=[]/\c4=.ow (aD K))\/(p≠[]/\c4=.sh (aD K))))
  ⟨r,_,_,_,rfl,Kept.start n r k,.inl ⟨rfl,rfl⟩⟩ ?_ ?_
 ·rintro p t q ρ e ⟨K,c4,c5,c6,rfl,hK,hc⟩;have ht:t∈r:=by rw[e];simp
  have hp:=h.pl t ht;have fK:=h.sub hK.sub;refine Dm.bx rfl (by trivial) ?_;unfold ux;have ew:=lG K (by have:=fK.len;lia) t;have first:∀{N:Env->Prop} {R:RV->Env->Prop} {B C:Env->Prop},N [.sh (.int n),.sh (aD r),.sh (.int k),.sh (.fn aH),.sh (aD K),.sh (aQ t),.ow (aD (outF K t))] ->
    Ws (sA 6 (eF nT [(eV 4),(eV 5)])) [.sh (.int n),.sh (aD r),.sh (.int k),.sh (.fn aH),c4,.sh (aQ t),c6] N R B C:=fun kN=>by
   rcases hc with⟨_,rfl⟩ | ⟨_,rfl⟩
   ·refine PD (PL (m_ (Py rfl (m_ (M_ rfl (N_ (PK ew ?_ rfl rfl rfl rfl))))))) (by decide);exact PB kN (by trivial)
   ·refine PD (PL (m_ (M_ rfl (m_ (M_ rfl (N_ (PK ew ?_ rfl rfl rfl rfl))))))) (by decide);exact PB kN (by trivial)
  refine Pr (first ?_);have gone:(t.a=t.b\/oz (outF K t) t.a t.b k)->∀{R:RV->Env->Prop} {B C:Env->Prop},
    Ws (sA 4 (eV 6)) [.sh (.int n),.sh (aD r),.sh (.int k),.sh (.fn aH),.sh (aD K),.sh (aQ t),.ow (aD (outF K t))]
     (fun ρ=>∃(K:List Tie) (c4 c5 c6:Cell),ρ=[.sh (.int n),.sh (aD r),.sh (.int k),.sh (.fn aH),c4,c5,c6]/\Kept n r k (p++[t]) K/\((p++[t]=[]/\c4=.ow (aD K))\/(p++[t]≠[]/\c4=.sh (aD K)))) R B C:=fun hh=>by
   refine PD (Py rfl (Q6 ?_ rfl (by trivial))) (by decide);exact⟨outF K t,_,_,_,rfl,hK.drop t hh,.inr ⟨by simp,rfl⟩⟩
  refine P6 (QS (PJ (O_ (O_ (M_ rfl (Pu (Pw ?_ rfl rfl rfl)))))));refine O_ (M_ rfl (Pu (Pw ?_ rfl rfl rfl)));refine P8 (Px ?_) rfl rfl;refine PZ (fun Ht=>?_) fun Ht=>?_
  ·refine Qq rfl ?_;exact gone (.inl Ht)
  ·have fo:=h.sub (O0.trans (Nn (p:=fun u=>decide (u≠t))) hK.sub);obtain⟨c,eh,h1,h2⟩:=rZ h.n10 fo.pl fo.len hp.1 hp.2.1 hp.2.2.1 hp.2.2.2 Ht (k:=k) (by lia);refine PJ (Rf rfl (PL (m_ (M_ rfl (m_ (Py rfl (m_ (O_ (M_ rfl (Pu (Pw ?_ rfl rfl rfl)))))))))));refine m_ (O_ (M_ rfl (Pu (Pw ?_ rfl rfl rfl))));refine m_ (M_ rfl (N_ (P7 eh ?_ rfl rfl)));refine Px ?_;cases c with
   |true=>exact Qq rfl (gone (.inr (h1 rfl)))
   |false=>exact P4 rfl (PV ⟨K,_,_,_,rfl,hK.keep t Ht (h2 rfl),.inr ⟨by simp,rfl⟩⟩)
 ·rintro ρ ⟨K,c4,c5,c6,rfl,hK,hc⟩;rcases hc with⟨z,rfl⟩ | ⟨z,rfl⟩
  ·refine PR (Py rfl (P9 ⟨K,?_,hK⟩ rfl));unfold gv;rw[if_pos z]
  ·refine PR (M_ rfl ⟨K,?_,hK⟩);unfold gv;rw[if_neg z]
theorem uI(k:Nat)(k6:k<=6):∃d,nU [.int k]=some (.new (.lst d)):=by
 suffices q:Wr (nU [.int k]) fun v=>∃d,v=.new (.lst d) by obtain⟨v,h1,d,rfl⟩:=q;exact⟨d,h1⟩
 unfold nU
 (refine Dm.PM ?_ rfl rfl;and_intros)
 refine PR ?_;refine QD (fun i:Nat=>Dat.int (0+(i:Nat))) (Mv k) (fun _=>Dat.lst []) id (ρ1:=[.sh (.int k)]) ?_ ?_ rfl (by decide) (by rw[MT];unfold SZ;lia) fun i _=>?_
 ·exact⟨_,rfl⟩
 ·apply Qc;refine Qa (M_ rfl (bL.mk ⟨⟨?_,rfl⟩,by unfold BIG;lia,by unfold BIG;lia⟩));rw[M7];rfl
 ·exact Qe (N_ (PU (P_ ⟨rfl,rfl⟩) rfl rfl (by decide)))
theorem m6(h:Fit n r)(a0:0<=a)(a1:a<n)(b0:0<=b)(b1:b<n)(Ht:a≠b)(k6:k<=6) :
  ∃d,rB [.int n,aD r,.int a,.int b,.int k]=some (.val d)/\dF d=true:=by
 obtain⟨ws,o,h',e,A⟩:=gq n h.n10 r h.pl h.len a b a0 a1 b0 b1 Ht k (by lia) (by lia);refine⟨.lst (((ck r a b).take (k:Int).toNat).map Ay++ws.map (iU n (cS r a b))),?_,rfl⟩;apply P0;unfold rB
 (refine Dm.PM ?_ rfl rfl;and_intros)
 refine PR (O_ (PL (m_ (M_ rfl (m_ (M_ rfl (m_ (M_ rfl (m_ (M_ rfl (m_ (M_ rfl (N_ (PK e ?_ rfl rfl rfl rfl))))))))))))) );exact Pu (Pw rfl rfl rfl rfl)
noncomputable def got(o:Option RV):Dat:=(o.map RV.dat).getD .non
theorem r8(aH aW:Nat){r K:List Tie}(h:Fit n r)(hK:Fit n K)(k6:k<=6) :
  ∃ds,rC aH aW [.int n,aD r,aD K,.int k,.fn aW]=some (.new (.lst ds)):=by
 suffices q:Wr (rC aH aW [.int n,aD r,aD K,.int k,.fn aW]) fun v=>∃d,v=.new (.lst d) by obtain⟨v,h1,d,rfl⟩:=q;exact⟨d,h1⟩
 unfold rC
 (refine Dm.PM ?_ rfl rfl;and_intros)
 refine Pr (PD (Qi aQ r (fun t=>!decide (t∈K)) id aQ (d:=aD r) ?_ rfl rfl rfl (by decide) (by have:=h.len;unfold SZ;lia) (fun u _=>?_) fun u _ _=>?_) (by decide))
 ·refine PB ?_ (by trivial);rw[Nm];refine PR ?_;have hl:(r.filter fun t=>!decide (t∈K)).length<=SZ:=MH (Nz _ _) (by have:=h.len;unfold SZ;lia);refine QO aQ (r.filter fun t=>!decide (t∈K)) (fun t=>if t.a=t.b then got (nU [.int k]) else got (rB [.int n,aD K,.int t.a,.int t.b,.int k])) id ?_ rfl (by trivial) rfl (by decide) hl fun t ht=>?_
  ·exact⟨_,rfl⟩
  ·have hp:=h.pl t (Mx.mp ht).1;refine Rw (PJ (O_ (O_ (M_ rfl (Pu (Pw ?_ rfl rfl rfl))))));refine O_ (M_ rfl (Pu (Pw ?_ rfl rfl rfl)));refine P8 (Px ?_) rfl rfl;refine PZ (fun Ht=>?_) fun Ht=>?_
   ·obtain⟨d,e⟩:=uI k k6;refine PL (m_ (M_ rfl (N_ (PK e ?_ rfl rfl rfl rfl))));refine P_ ⟨?_,rfl⟩;rw[if_pos Ht,e];rfl
   ·obtain⟨d,e',hb⟩:=m6 hK hp.1 hp.2.1 hp.2.2.1 hp.2.2.2 Ht k6;refine Rf rfl (PL (m_ (M_ rfl (m_ (M_ rfl (m_ (O_ (M_ rfl (Pu (Pw ?_ rfl rfl rfl))))))))));refine m_ (O_ (M_ rfl (Pu (Pw ?_ rfl rfl rfl))));refine m_ (M_ rfl (N_ (PK e' ?_ rfl hb rfl rfl)));refine PF ⟨?_,rfl⟩;rw[if_neg Ht,e'];rfl
 ·exact PJ (O_ (M_ rfl (M_ rfl (QX (Px ⟨rfl,rfl⟩) rfl rfl))))
 ·exact M_ rfl (PF ⟨rfl,rfl⟩)
theorem lH(k:Int)(h0:1<=k)(h1:k<=6):CW [.int k]=some (.val .non):=by
 have e:CU [.int k]=some (.val (.bl true)):=by
  apply P0;unfold CU
  (refine Dm.PM ?_ rfl rfl;and_intros)
  refine PR (PL (m_ (M_ rfl (m_ (Pu (m_ (Pu (N_ (P7 (oi k 1 6 h0 h1) ?_ rfl rfl)))))))));rfl
 apply P0;unfold CW
 (refine Dm.PM ?_ rfl rfl;and_intros)
 refine P6 (QC (PJ (PL (m_ (M_ rfl (N_ (P7 e ?_ rfl rfl)))))));exact Px (Qh (PV rfl))
noncomputable def msI(K:List Tie):Dat:=.lst ((mss K).map Dat.int)
theorem r9(aH aW:Nat)(h:Fit n r)(k1:1<=k)(k6:k<=6){K:List Tie}(eK:jz aH aW [.int n,aD r,.int k,.fn aH]=some (gv r K))(sub:K.Sublist r) :
  ∃d,jA aH aW [.int n,aD r,.int k]=some (.val (.tup [msI K,d])):=by
 have fK:=h.sub sub;obtain⟨ds,ew⟩:=r8 aH aW h fK k6;refine⟨.lst ds,?_⟩;have hl:K.length<=SZ:=by have:=fK.len;unfold SZ;lia
 apply P0;unfold jA
 (refine Dm.PM ?_ rfl rfl;and_intros)
 refine Pr (QH (PL (m_ (M_ rfl (N_ (P7 (lH k (by lia) (by lia)) ?_ rfl rfl))))));by_cases hr:r=[]
 ·unfold gv at eK;rw[if_pos hr]at eK;refine Pr (PD (PL (m_ (M_ rfl (m_ (M_ rfl (m_ (M_ rfl (m_ (Pu (N_ (PK eK ?_ rfl rfl rfl rfl))))))))))) (by decide));refine PB ?_ (by trivial);refine PR (Qo (m_ (QO aQ K (·.m) Dat.int ?_ rfl (by trivial) rfl (by decide) hl fun t ht=>?_)))
  ·refine m_ (PL (m_ (M_ rfl (m_ (M_ rfl (m_ (Py rfl (m_ (M_ rfl (m_ (Pu (N_ (PK ew ?_ rfl rfl rfl rfl)))))))))))));exact N_ (PU rfl rfl rfl (by exact MC rfl))
  ·exact O_ (M_ rfl (Pu (Pw (PF ⟨rfl,rfl⟩) rfl rfl rfl)))
 ·unfold gv at eK;rw[if_neg hr]at eK;refine Pr (PD (PL (m_ (M_ rfl (m_ (M_ rfl (m_ (M_ rfl (m_ (Pu (N_ (PK eK ?_ rfl rfl rfl rfl))))))))))) (by decide));refine PN ?_ (by trivial);refine PR (Qo (m_ (Rt aQ K (·.m) Dat.int (d:=aD K) ?_ rfl rfl rfl (by decide) hl fun t ht=>?_)))
  ·refine m_ (PL (m_ (M_ rfl (m_ (M_ rfl (m_ (M_ rfl (m_ (M_ rfl (m_ (Pu (N_ (PK ew ?_ rfl rfl rfl rfl)))))))))))));exact N_ (PU rfl rfl rfl (by exact MC rfl))
  ·exact O_ (M_ rfl (Pu (Pw (PF ⟨rfl,rfl⟩) rfl rfl rfl)))
theorem AD(aH aW:Nat){K:List Tie}(h:Fit n K)(k6:k<=6)(hw:∀t∈K,t.a≠t.b/\pT n (outF K t) t.a t.b k):jz aH aW [.int n,aD K,.int k,.fn aH]=some (gv K K):=by
 apply P0;unfold jz
 (refine Dm.PM ?_ rfl rfl;and_intros)
 refine Pr (PD (PY (m_ (M_ rfl (N_ (QA (xs:=K.map aQ) ?_ rfl))))) (by decide));refine PB ?_ (by trivial);refine Pr (P1 (Qg (M_ rfl (PF ⟨K.map aQ,rfl,?_⟩))));refine P5 aQ _ _ K _ _ _ _ _ (fun p q ρ=>∃(c4 c5 c6:Cell),ρ=[.sh (.int n),.sh (aD K),.sh (.int k),.sh (.fn aH),c4,c5,c6]/\((p=[]/\c4=.ow (aD K))\/(p≠[]/\c4=.sh (aD K))))
  ⟨_,_,_,rfl,.inl ⟨rfl,rfl⟩⟩ ?_ ?_
 ·rintro p t q ρ e ⟨c4,c5,c6,rfl,hc⟩;have ht:t∈K:=by rw[e];simp
  have hp:=h.pl t ht;obtain⟨Ht,wk⟩:=hw t ht;refine Dm.bx rfl (by trivial) ?_;unfold ux;have ew:=lG K (by have:=h.len;lia) t;have first:∀{N:Env->Prop} {R:RV->Env->Prop} {B C:Env->Prop},N [.sh (.int n),.sh (aD K),.sh (.int k),.sh (.fn aH),.sh (aD K),.sh (aQ t),.ow (aD (outF K t))] ->
    Ws (sA 6 (eF nT [(eV 4),(eV 5)])) [.sh (.int n),.sh (aD K),.sh (.int k),.sh (.fn aH),c4,.sh (aQ t),c6] N R B C:=fun kN=>by
   rcases hc with⟨_,rfl⟩ | ⟨_,rfl⟩
   ·refine PD (PL (m_ (Py rfl (m_ (M_ rfl (N_ (PK ew ?_ rfl rfl rfl rfl))))))) (by decide);exact PB kN (by trivial)
   ·refine PD (PL (m_ (M_ rfl (m_ (M_ rfl (N_ (PK ew ?_ rfl rfl rfl rfl))))))) (by decide);exact PB kN (by trivial)
  refine Pr (first ?_);refine P6 (QS (PJ (O_ (O_ (M_ rfl (Pu (Pw ?_ rfl rfl rfl)))))));refine O_ (M_ rfl (Pu (Pw ?_ rfl rfl rfl)));refine P8 (Px (P4 (decide_eq_false Ht) ?_)) rfl rfl;have fo:=h.out t;obtain⟨c,eh,h1,h2⟩:=rZ h.n10 fo.pl fo.len hp.1 hp.2.1 hp.2.2.1 hp.2.2.2 Ht (k:=k) (by lia);refine PJ (Rf rfl (PL (m_ (M_ rfl (m_ (Py rfl (m_ (O_ (M_ rfl (Pu (Pw ?_ rfl rfl rfl)))))))))));refine m_ (O_ (M_ rfl (Pu (Pw ?_ rfl rfl rfl))));refine m_ (M_ rfl (N_ (P7 eh ?_ rfl rfl)));refine Px ?_;cases c with
  |true=>exact(AB (h1 rfl) wk).elim
  |false=>exact P4 rfl (PV ⟨_,_,_,rfl,.inr ⟨by simp,rfl⟩⟩)
 ·rintro ρ ⟨c4,c5,c6,rfl,hc⟩;rcases hc with⟨z,rfl⟩ | ⟨z,rfl⟩
  ·refine PR (Py rfl (P9 ?_ rfl));unfold gv;rw[if_pos z]
  ·refine PR (M_ rfl ?_);unfold gv;rw[if_neg z];rfl
structure Seen(n:Nat)(R:List Tie)(S:List Int)(a:Int)(seen:List Int)(i:Nat):Prop where
 nd:seen.Nodup
 rg:∀x∈seen,0<=x/\x<n
 st:a∈seen
 cn:∀x∈seen,bq R S a x
 dn:∀x∈seen.take i,∀t∈R,∀y,Ends t x y->y∉S->y∈seen
 le:i<=seen.length
theorem Seen.len{a:Int}{i:Nat}(h:Seen n R S a seen i):seen.length<=n:=by have:=bC seen (places n) h.nd fun v hv=>(gK n v).mpr (h.rg v hv);rw[places_len]at this;exact this
theorem Seen.all{a:Int}(h:Seen n R S a seen seen.length)(y:Int):y∈seen↔bq R S a y:=by
 refine⟨h.cn y,fun c=>?_⟩
 induction c with
 |refl=>exact h.st
 |step _ h1 h2 h3 ih=>exact h.dn _ (by rw[List.take_length];exact ih) _ h1 _ h2 h3
theorem gQ(n10:n<=10)(hp:Pl n R)(hl:R.length<=1000){a:Int}(a0:0<=a)(a1:a<n)(S:List Int) :
  ∃seen:List Int,nX [aD R,.int a,.lst (S.map Dat.int)]=some (.new (.lst (seen.map Dat.int)))/\seen≠[]/\seen.length<=n/\∀y,y∈seen↔bq R S a y:=by
 have hz:SZ=100000:=rfl
 suffices q:Wr (nX [aD R,.int a,.lst (S.map Dat.int)]) fun v=>∃seen:List Int,v=.new (.lst (seen.map Dat.int))/\Seen n R S a seen seen.length by obtain⟨v,h1,seen,rfl,h⟩:=q;refine⟨seen,h1,fun e=>?_,h.len,h.all⟩;have:=h.st;rw[e]at this;cases this
 unfold nX
 (refine Dm.PM ?_ rfl rfl;and_intros)
 refine Pr (PD (Qe (m_ (M_ rfl (N_ (PU (PB ?_ (by trivial)) rfl rfl (by exact MC rfl)))))) (by decide));refine Pr (PD (Pu (PN ?_ (by trivial))) (by decide));refine Pr ?_;refine QF (fun k ρ=>∃(seen:List Int) (i:Nat) (c6 c7 c8 c9:Cell),ρ=[.sh (aD R),.sh (.int a),.sh (.lst (S.map Dat.int)),.ow (.lst (seen.map Dat.int)),.sh (.int (i:Nat)),c6,c7,c8,c9]/\Seen n R S a seen i/\k=n-i) ?_ 100 n _ (by lia)
  ⟨[a],0,_,_,_,_,rfl,⟨by simp,fun x hx=>by rw[Mr.mp hx];exact⟨a0,a1⟩,Mr.mpr rfl,fun x hx=>by rw[Mr.mp hx];exact .refl,fun x hx=>(nomatch hx),by simp⟩,by lia⟩
 rintro k ρ ⟨seen,i,c6,c7,c8,c9,rfl,hs,hk⟩;refine PJ (O_ (M_ rfl (PY (m_ (Py rfl (N_ (Qj (Ab:=Dat.int) (xs:=seen) ?_ rfl)))))));refine Qs (Px ?_) rfl rfl;refine PZ (fun h=>?_) fun h=>?_
 ·have hi:i<seen.length:=by lia
  unfold Al;refine Pr (P1 (Qg (M_ rfl (PF (bQ ?_)))));refine P5 aQ _ _ R _ _ _ _ _ (fun p q ρ=>∃(seen:List Int) (c6 c7 c8 c9:Cell),ρ=[.sh (aD R),.sh (.int a),.sh (.lst (S.map Dat.int)),.ow (.lst (seen.map Dat.int)),.sh (.int (i:Nat)),c6,c7,c8,c9]/\Seen n R S a seen i/\∃hi:i<seen.length,∀t∈p,∀y,Ends t seen[i] y->y∉S->y∈seen) ⟨seen,_,_,_,_,rfl,hs,hi,fun t ht=>(nomatch ht)⟩ ?_ ?_
  ·clear hs hi h hk;rintro p t q ρ e ⟨seen,c6,c7,c8,c9,rfl,hs,hi,hd⟩;have ht:t∈R:=by rw[e];simp
   have tp:=hp t ht;refine Dm.bx rfl (by trivial) ?_;unfold Ak;have ix:∀{o p:Option Dat} {K:RV->Prop},K (.val (.int (seen[i]'hi)))->o=some (.lst (seen.map Dat.int))->p=some (.int (i:Nat))->Wg2 gIx o p K:=fun {o p K} k ho hp=>QG (Ab:=Dat.int) (xs:=seen) (by lia) (by lia) (by simpa using k) ho hp;have hxm:seen[i]∈seen:=Ot hi;have hx:=hs.rg _ hxm;have hc:=hs.cn _ hxm;have sl:=hs.len;have grow:∀z:Int,(seen++[z])[i]'(by rw[MA];lia)=seen[i]:=fun z=>List.getElem_append_left hi
   generalize hxe:seen[i]=x at ix hx hc hxm hd grow
   refine Pr (PD (O_ (O_ (M_ rfl (M_ rfl (PX ?_ rfl rfl))))) (by decide));refine O_ (Py rfl (M_ rfl (ix (Qn (PN ?_ (by trivial)) rfl rfl) rfl rfl)));refine P6 (Qd (PJ (O_ (O_ (Py rfl (M_ rfl (ix ?_ rfl rfl)))))));refine Qo (m_ (M_ rfl (m_ (M_ rfl (N_ (PU ?_ rfl rfl (by exact MC rfl)))))));refine Qz (i:=x) (a:=t.a) (b:=t.b) (Px ?_) rfl rfl;have same:(∀ y,Ends t x y→y∉S→y∈seen)→∀ c9,∃ (seen':List Int) (c6' c7' c8' c9':Cell),[Cell.sh (aD R),.sh (.int a),.sh (.lst (S.map Dat.int)),.ow (.lst (seen.map Dat.int)),.sh (.int (i:Nat)),.sh (.int t.m),.sh (.int t.a),.sh (.int t.b),c9]=[.sh (aD R),.sh (.int a),.sh (.lst (S.map Dat.int)),.ow (.lst (seen'.map Dat.int)),.sh (.int (i:Nat)),c6',c7',c8',c9']∧Seen n R S a seen' i∧∃ hi:i<seen'.length,∀ u∈p++[t],∀ y,Ends u seen'[i] y→y∉S→y∈seen':=fun hh c9=>⟨seen,_,_,_,_,rfl,hs,hi,fun u hu y=>by
    rw[hxe];rcases Mw.mp hu with hu | hu
    ·exact hd u hu y
    ·rw[Mr.mp hu];exact hh y⟩
   have yy:∀y,Ends t x y->y=t.a+t.b-x:=fun y en=>by
    obtain⟨_,en⟩:=en
    lia
   refine PZ (fun hin=>?_) fun hin=>Qh (PV (same (fun y en=>(hin (by obtain⟨_,en⟩:=en;lia)).elim) _));refine Qd (PJ (O_ (M_ rfl (Py rfl (QV (i:=t.a+t.b-x) (xs:=seen) (Px ?_) rfl rfl)))));by_cases h1:t.a+t.b-x∈seen
   ·rw[decide_eq_true h1];exact Qh (Qh (PV (same (fun y en _=>by rw[yy y en];exact h1) _)))
   rw[decide_eq_false h1];refine Qk (PJ (O_ (M_ rfl (M_ rfl (QV (i:=t.a+t.b-x) (xs:=S) (Px ?_) rfl rfl)))));by_cases h2:t.a+t.b-x∈S
   ·rw[decide_eq_true h2];exact Qh (PV (same (fun y en hy=>(hy (by rw[yy y en];exact h2)).elim) _))
   rw[decide_eq_false h2];refine Qk (Qu (M_ rfl (PF (ji ?_ rfl (by trivial) ?_))) rfl)
   ·have ne:t.a≠t.b:=fun z=>h1 (by rw[show t.a+t.b-x=x by lia];exact hxm);have gy:bq R S a (t.a+t.b-x):=.step hc ht ⟨ne,by lia⟩ h2;have up:∀y∈seen,y∈seen++[t.a+t.b-x]:=fun y hy=>MJ _ hy;refine⟨seen++[t.a+t.b-x],_,_,_,_,by rw[My];rfl,⟨?_,?_,up _ hs.st,?_,?_,by rw[MA];lia⟩,by rw[MA];lia,?_⟩
    ·exact Nh.mpr ⟨hs.nd,by simp,fun y hy z hz e=>h1 (by rw[<- Mr.mp hz,<- e];exact hy)⟩
    ·intro y hy;rcases Mw.mp hy with hy | hy
     ·exact hs.rg y hy
     ·rw[Mr.mp hy]
      lia
    ·intro y hy;rcases Mw.mp hy with hy | hy
     ·exact hs.cn y hy
     ·rw[Mr.mp hy];exact gy
    ·intro y hy u hu z en hz';rw[List.take_append_of_le_length (by lia)]at hy;exact up _ (hs.dn y hy u hu z en hz')
    ·intro u hu y en hy;rw[grow]at en;rcases Mw.mp hu with hu | hu
     ·exact up _ (hd u hu y en hy)
     ·rw[Mr.mp hu]at en;rw[yy y en];simp
   ·rw[Mj];lia
  ·rintro ρ ⟨seen,c6,c7,c8,c9,rfl,hs,hi,hd⟩;have sl:=hs.len;refine PD (O_ (M_ rfl (Pu (PX (PN ?_ (by trivial)) rfl rfl)))) (by decide);refine⟨n-(i+1),by lia,seen,i+1,_,_,_,_,by rw[show ((i:Nat):Int)+1=((i+1:Nat):Int) by lia],⟨hs.nd,hs.rg,hs.st,hs.cn,fun x hx t ht y en hy=>?_,by lia⟩,rfl⟩;rw[List.take_add_one,Mp hi]at hx;rcases Mw.mp hx with hx | hx
   ·exact hs.dn x hx t ht y en hy
   ·have:x=seen[i]:=by simpa using hx
    rw[this]at en;exact hd t ht y en hy
 ·have e:i=seen.length:=by have:=hs.le;lia
  subst e;exact PR (Py rfl (P9 ⟨seen,rfl,hs⟩ rfl))
theorem x8(n10:n<=10)(hp:Pl n R)(hl:R.length<=1000){a:Int}(a0:0<=a)(a1:a<n)(b:Int)(S:List Int) :
  ∃c:Bool,v7 [aD R,.int a,.int b,.lst (S.map Dat.int)]=some (.val (.bl c))/\(c=true↔bq R S a b):=by
 obtain⟨seen,e,_,_,h⟩:=gQ n10 hp hl a0 a1 S;refine⟨decide (b∈seen),?_,by rw[decide_eq_true_iff];exact h b⟩;apply P0;unfold v7
 (refine Dm.PM ?_ rfl rfl;and_intros)
 refine PR (O_ (M_ rfl (PL (m_ (M_ rfl (m_ (M_ rfl (m_ (M_ rfl (N_ (PK e ?_ rfl rfl rfl rfl)))))))))));exact Q8 (i:=b) (xs:=seen) rfl rfl rfl
theorem wu:∀(ns:List Int) (a:Int),fk a ns∈a::ns/\∀x∈a::ns,fk a ns<=x
 |[],a=>⟨Ds ..,fun x h=>by rcases Ms.mp h with rfl | h;exact OM _;exact nomatch h⟩
 |y::r,a=>by
  obtain⟨h1,h2⟩:=wu r (if y<a then y else a);have h0:=h2 _ (Ds ..);show fk (if y<a then y else a) r∈_/\∀x∈_,fk (if y<a then y else a) r<=x
  generalize fk (if y<a then y else a) r=m at *
  refine⟨?_,fun x hx=>?_⟩
  ·rcases Ms.mp h1 with z | z
   ·rw[z];split
    ·exact Dk _ (Ds ..)
    ·exact Ds ..
   ·exact Dk _ (Dk _ z)
  ·rcases Ms.mp hx with rfl | hx
   ·split at h0<;>lia
   ·rcases Ms.mp hx with rfl | hx
    ·split at h0<;>lia
    ·exact h2 x (Dk _ hx)
theorem wz(ms:List Int)(h:ms≠[]):∃m0,nH [.lst (ms.map Dat.int)]=some (.val (.int m0))/\m0∈ms/\∀m∈ms,m0<=m:=by
 cases ms with
 |nil=>exact(h rfl).elim
 |cons a ns=>refine⟨fk a ns,?_,wu ns a⟩;unfold nH;dsimp only;rw[gE]
theorem r_(n10:n<=10)(hp:Pl n R)(hl:R.length<=1000)(S:List Int)(m:Nat->Int)(hm:∀i:Nat,i<n->0+(i:Int)∉S->bq R S (0+(i:Int)) (m i)/\∀y,bq R S (0+(i:Int)) y->m i<=y) :
  kX [.int n,aD R,.lst (S.map Dat.int)]=some (.new (.lst ((((Mv n).filter fun i:Nat=>!decide (0+(i:Int)∈S)).map m).map Dat.int))):=by
 have hz:SZ=100000:=rfl;apply P0;unfold kX
 (refine Dm.PM ?_ rfl rfl;and_intros)
 refine PR (Qm (fun i:Nat=>Dat.int (0+(i:Nat))) (Mv n) (fun i:Nat=>!decide (0+(i:Int)∈S)) (fun i=>Dat.int (m i)) ?_ (ρ1:=[.sh (.int n),.sh (aD R),.sh (.lst (S.map Dat.int))]) ?_ rfl (by decide) (by rw[MT];lia) (fun i _=>?_) fun i hi hs=>?_)
 ·rw[MI];rfl
 ·apply Qc;refine Qa (M_ rfl (bL.mk ⟨⟨?_,rfl⟩,by unfold BIG;lia,by unfold BIG;lia⟩));rw[M7];rfl
 ·exact PJ (O_ (M_ rfl (M_ rfl (QV (i:=0+(i:Int)) (xs:=S) (Px ⟨rfl,rfl⟩) rfl rfl))))
 ·have hi:=MR.mp hi;have hs:0+(i:Int)∉S:=by simpa using hs
  obtain⟨seen,e,ne,_,h⟩:=gQ n10 hp hl (a:=0+(i:Int)) (by lia) (by lia) S;obtain⟨m0,e0,h1,h2⟩:=wz seen ne;obtain⟨k1,k2⟩:=hm i hi hs;have em:m0=m i:=by
   have:=h2 (m i) ((h _).mpr k1);have:=k2 m0 ((h _).mp h1)
   lia
  refine PY (m_ (PL (m_ (M_ rfl (m_ (M_ rfl (m_ (M_ rfl (N_ (PK e ?_ rfl rfl rfl rfl))))))))));refine N_ ⟨_,_,rfl,e0,PF ⟨?_,rfl⟩⟩;rw[em]
theorem uJ(n10:n<=10){R R':List Tie}(hp:Pl n R)(hl:R.length<=1000)(hp':Pl n R')(hl':R'.length<=1000)(S:List Int)(h:∀a,a∉S->∀y,bq R S a y↔bq R' S a y) :
  ∃D:List Int,kX [.int n,aD R,.lst (S.map Dat.int)]=some (.new (.lst (D.map Dat.int)))/\kX [.int n,aD R',.lst (S.map Dat.int)]=some (.new (.lst (D.map Dat.int))):=by
 have ex:∀i:Nat,i<n->∃m:Int,bq R S (0+(i:Int)) m/\∀y,bq R S (0+(i:Int)) y->m<=y:=fun i hi=>by obtain⟨seen,e,ne,_,hh⟩:=gQ n10 hp hl (a:=0+(i:Int)) (by lia) (by lia) S;obtain⟨m0,e0,h1,h2⟩:=wz seen ne;exact⟨m0,(hh _).mp h1,fun y hy=>h2 y ((hh _).mpr hy)⟩
 obtain⟨m,hm⟩:∃m:Nat->Int,∀i:Nat,i<n->bq R S (0+(i:Int)) (m i)/\∀y,bq R S (0+(i:Int)) y->m i<=y:=
  ⟨fun i=>(Oj fun m=>bq R S (0+(i:Int)) m/\∀y,bq R S (0+(i:Int)) y->m<=y),fun i hi=>N5 (p:=fun m=>bq R S (0+(i:Int)) m/\∀y,bq R S (0+(i:Int)) y->m<=y) (ex i hi)⟩
 refine⟨_,r_ n10 hp hl S m fun i hi _=>hm i hi,r_ n10 hp' hl' S m fun i hi hs=>⟨(h _ hs _).mp (hm i hi).1,fun y hy=>(hm i hi).2 y ((h _ hs _).mpr hy)⟩⟩
noncomputable def pV(m b:Nat):Nat:=((Mv m).filter fun k=>decide (b / 2 ^ k % 2=1)).length
noncomputable def Ke(m:Nat):Bool:=match nQ ((Mv (2 ^ m)).map (pV m)) with
 |some p=>decide (p.length=2 ^ m)&&(decide ((p.map (pV m)).Pairwise (·<=·))&&((Mv (2 ^ m)).all (fun b=>decide (b∈p))&&p.all (fun i=>decide (i<2 ^ m))))
 |none=>false
theorem Dh:(Mv 5).all Ke=true:=by decide +kernel
theorem AE{m:Nat}(h:m<=4):∃p,nQ ((Mv (2 ^ m)).map (pV m))=some p/\p.length=2 ^ m/\p.Pairwise (fun x y=>pV m x<=pV m y)/\(∀b,b<2 ^ m->b∈p)/\∀i∈p,i<2 ^ m:=by
 have c:=M3.mp Dh m (MR.mpr (by lia));unfold Ke at c;split at c
 ·rename_i p hp;rw[MD,MD,MD,decide_eq_true_iff,decide_eq_true_iff]at c;obtain⟨c1,c2,c3,c4⟩:=c;exact⟨p,hp,c1,MY.mp c2,fun b hb=>of_decide_eq_true (M3.mp c3 b (MR.mpr hb)),fun i hi=>of_decide_eq_true (M3.mp c4 i hi)⟩
 ·cases c
noncomputable def eU(mX:List Int)(b:Nat):List Int:=((Mv mX.length).filter fun k=>decide (b / 2 ^ k % 2=1)).map fun k=>mX.getD k 0
noncomputable def cF(n:Nat)(a b:Int):List Int:=((Mv n).filter fun i:Nat=>!decide (0+(i:Int)=a)&&!decide (0+(i:Int)=b)).map fun i:Nat=>0+(i:Int)
theorem iV{a b x:Int}:x∈cF n a b↔(0<=x/\x<n)/\x≠a/\x≠b:=by
 unfold cF;rw[Mt];constructor
 ·rintro⟨i,hi,rfl⟩;obtain⟨h1,h2⟩:=Mx.mp hi;have:=MR.mp h1;rw[MD]at h2;exact⟨by lia,by simpa using h2.1,by simpa using h2.2⟩
 ·rintro⟨⟨h1,h2⟩,h3,h4⟩;refine⟨x.toNat,Mx.mpr ⟨MR.mpr (by lia),?_⟩,by lia⟩;have e:(0:Int)+(x.toNat:Nat)=x:=by lia
  rw[e,decide_eq_false h3,decide_eq_false h4];rfl
theorem wA:(cF n a b).Nodup:=by unfold cF;refine MY.mpr (Pd.imp (fun {x y} h e=>h (by lia)) (O3.sublist Nn))
theorem AF(n6:n<=6)(a0:0<=a)(a1:a<n)(b0:0<=b)(b1:b<n)(Ht:a≠b):(cF n a b).length<=4:=by
 have:=bC (a::b::cF n a b) (places n) (MB.mpr ⟨fun z=>?_,MB.mpr ⟨fun z=>(iV.mp z).2.2 rfl,wA⟩⟩) fun x hx=>?_
 ·rw[places_len,M0,M0]at this
  lia
 ·rcases Ms.mp z with z | z
  ·exact Ht z
  ·exact(iV.mp z).2.1 rfl
 ·rw[gK];rcases Ms.mp hx with rfl | hx
  ·exact⟨a0,a1⟩
  ·rcases Ms.mp hx with rfl | hx
   ·exact⟨b0,b1⟩
   ·exact(iV.mp hx).1
noncomputable def jL(g:List Int):Dat:=.lst (g.map Dat.int)
theorem oA:∀L:List (List Int),kR (L.map jL)=some (L.map List.length)
 |[]=>rfl
 |g::L=>by rw[gc];unfold jL kR;have:=oA L;unfold jL at this;rw[this];simp
theorem sub_len(mX:List Int)(b:Nat):(eU mX b).length=pV mX.length b:=by unfold eU pV;rw[Mj]
theorem uK(mX:List Int)(h:mX.length<=4):∃L:List (List Int),cP [.lst (((Mv (2 ^ mX.length)).map (eU mX)).map jL)]=some (.new (.lst (L.map jL)))/\L.Pairwise (fun x y=>x.length<=y.length)/\∀b,b<2 ^ mX.length->eU mX b∈L:=by
 obtain⟨p,h1,h2,h3,h4,h5⟩:=AE h;refine⟨p.map (eU mX),?_,MY.mpr (h3.imp fun {x y} h=>by rw[sub_len,sub_len];exact h),fun b hb=>Mt.mpr ⟨b,h4 b hb,rfl⟩⟩;have el:((Mv (2 ^ mX.length)).map (eU mX)).map List.length=(Mv (2 ^ mX.length)).map (pV mX.length):=by rw[MI];exact Ng fun b _=>sub_len mX b
 have ln:((Mv (2 ^ mX.length)).map (pV mX.length)).length=2 ^ mX.length:=by rw[Mj,MT]
 have p16:2 ^ mX.length<=16:=MH (OE (show 2>0 by decide) h) (by decide);unfold cP;dsimp only;rw[oA,el];dsimp only;rw[if_pos (by rw[ln];lia),h1];dsimp only;rw[if_pos ⟨by rw[ln];exact h2,M3.mpr fun i hi=>decide_eq_true (by rw[ln];exact h5 i hi)⟩,MI]
 congr 3
 refine(Ng (g:=jL∘eU mX) fun i hi=>?_).trans MI.symm;have hi:=h5 i hi;rw[ME,MS,NK hi];rfl
theorem jR(n6:n<=6)(a0:0<=a)(a1:a<n)(b0:0<=b)(b1:b<n)(Ht:a≠b) :
  ∃L:List (List Int),v8 [.int n,.int a,.int b]=some (.new (.lst (L.map jL)))/\L.Pairwise (fun x y=>x.length<=y.length)/\∀x,x<2 ^ (cF n a b).length->eU (cF n a b) x∈L:=by
 have hz:SZ=100000:=rfl;have hm:=AF n6 a0 a1 b0 b1 Ht;obtain⟨L,e,h1,h2⟩:=uK (cF n a b) hm;refine⟨L,?_,h1,h2⟩;apply P0;unfold v8
 (refine Dm.PM ?_ rfl rfl;and_intros)
 refine Pr (PD (Qm (fun i:Nat=>Dat.int (0+(i:Nat))) (Mv n) (fun i:Nat=>!decide (0+(i:Int)=a)&&!decide (0+(i:Int)=b)) (fun i=>Dat.int (0+(i:Nat))) ?_ (ρ1:=[.sh (.int n),.sh (.int a),.sh (.int b),.un,.un,.un]) ?_ rfl (by decide) (by rw[MT];lia) (fun i _=>?_) fun i hi hs=>?_) (by decide))
 rotate_left
 ·apply Qc;refine Qa (M_ rfl (bL.mk ⟨⟨?_,rfl⟩,by unfold BIG;lia,by unfold BIG;lia⟩));rw[M7];rfl
 ·refine Qd (PJ (O_ (M_ rfl (M_ rfl (Qp (Px ?_) rfl rfl)))));cases (!decide (0+(i:Int)=a)) with
  |false=>exact Qh ⟨rfl,rfl⟩
  |true=>exact Qk (PJ (O_ (M_ rfl (M_ rfl (Qp (Px ⟨rfl,rfl⟩) rfl rfl)))))
 ·exact M_ rfl (PF ⟨rfl,rfl⟩)
 have er:(Po (fun i:Nat=>Dat.int (0+(i:Nat))) ((Mv n).filter fun i:Nat=>!decide (0+(i:Int)=a)&&!decide (0+(i:Int)=b)))=(cF n a b).map Dat.int:=by unfold cF;rw[MI];rfl
 rw[er]
 generalize cF n a b=mX at *
 refine PB ?_ (by trivial);refine Pr (PD (Qe (N_ (PU (PB ?_ (by trivial)) rfl rfl (by decide)))) (by decide));have p16:2 ^ mX.length<=16:=MH (OE (show 2>0 by decide) hm) (by decide);have p1:(1:Int)*2 ^ ((mX.length:Nat):Int).toNat=((2 ^ mX.length:Nat):Int):=by rw[M7,Int.one_mul];norm_cast
 generalize 2 ^ mX.length=N at *
 refine Pr (P1 (Qa (O_ (Pu (PY (m_ (Py rfl (N_ (Qj (Ab:=Dat.int) (xs:=mX) ?_ rfl)))))))));refine⟨_,_,_,rfl,rfl,(show mU (.int 1) (.int (mX.length:Nat))=some (.val (.int ((N:Nat):Int))) by unfold mU;dsimp only;rw[if_pos (by lia),p1]),?_⟩;refine bL.mk ⟨?_,by unfold BIG;lia,by unfold BIG;lia⟩;rw[M7];refine P5 (fun i:Nat=>Dat.int (0+(i:Nat))) _ _ (Mv N) _ _ _ _ _ (fun p q ρ=>∃c5:Cell,ρ=[.sh (.int n),.sh (.int a),.sh (.int b),.ow (.lst (mX.map Dat.int)),.ow (.lst ((p.map (eU mX)).map jL)),c5]) ⟨_,rfl⟩ ?_ ?_
 ·rintro p i q ρ e ⟨c5,rfl⟩;have hlp:p.length<SZ:=by
   have:(Mv N).length=p.length+(q.length+1):=by rw[e];simp
   rw[MT]at this;lia
  refine Dm.bx rfl (by trivial) ?_;unfold Am;refine Qu (Qm (fun k:Nat=>Dat.int (0+(k:Nat))) (Mv mX.length) (fun k=>decide (i / 2 ^ k % 2=1)) (fun k=>Dat.int (mX.getD k 0)) ?_ (ρ1:=[.sh (.int n),.sh (.int a),.sh (.int b),.ow (.lst (mX.map Dat.int)),.ow (.lst ((p.map (eU mX)).map jL)),.sh (.int (0+(i:Nat)))]) ?_ rfl (by decide) (by rw[MT];lia) (fun k _=>?_) fun k hk _=>?_) rfl
  ·refine P_ (ji ?_ rfl (by trivial) (by simpa using hlp));refine⟨.sh (.int (0+(i:Nat))),?_⟩;have:Dat.lst (((Mv mX.length).filter fun k=>decide (i / 2 ^ k % 2=1)).map fun k=>Dat.int (mX.getD k 0))=jL (eU mX i):=by
    unfold jL eU;rw[MI];rfl
   rw[this,My,My];rfl
  ·apply Qc;refine Qa (PY (m_ (Py rfl (N_ (Qj (Ab:=Dat.int) (xs:=mX) (bL.mk ⟨⟨?_,rfl⟩,by unfold BIG;lia,by unfold BIG;lia⟩) rfl)))));rw[M7];rfl
  ·refine PJ (O_ (O_ (O_ (M_ rfl (M_ rfl (Q_ ?_ rfl rfl (by lia)))))));refine Pu (Ri ?_ rfl rfl);refine Pu (P8 (Px ⟨?_,rfl⟩) rfl rfl);have:((0:Int)+(k:Nat)).toNat=k:=by lia
   rw[this];apply decide_eq_decide.mpr;have:((0:Int)+((i:Nat):Int)) / 2 ^ k % 2=((i / 2 ^ k % 2:Nat):Int):=by
    rw[Pn]
    norm_cast
   rw[this]
   lia
  ·have hk:=MR.mp hk;refine O_ (Py rfl (M_ rfl (QG (Ab:=Dat.int) (xs:=mX) (by lia) (by lia) (PF ⟨?_,rfl⟩) rfl rfl)));have:((0:Int)+(k:Nat)).toNat=k:=by lia
   rw[ME,Mp hk];simp[this]
 ·rintro ρ ⟨c5,rfl⟩;refine PR (PY (m_ (Py rfl (N_ ⟨_,_,rfl,e,?_⟩))));rfl
theorem AG(N M:List Int):gEq (.lst (N.map Dat.int)) (.lst (M.map Dat.int))=vB (decide (N=M)):=by
 have ok:∀ns:List Int,okD 8 (.lst (ns.map Dat.int))=true:=fun ns=>EE Dat.int ns fun _=>rfl;have h:=qY N M;unfold gNe at h;unfold gEq;rw[ok,ok]at h ⊢;have h:(!eqD (.lst (N.map Dat.int)) (.lst (M.map Dat.int)))=!decide (N=M):=by injection h with h;injection h with h;injection h
 show vB _=_;rw[<- Bool.not_not (eqD _ _),h,Bool.not_not]
theorem RA{N M:List Int}{K:RV->Prop}(k:K (.val (.bl (decide (N=M)))))(ho:o=some (.lst (N.map Dat.int)))(hp:p=some (.lst (M.map Dat.int))):Wg2 gEq o p K:=⟨_,_,_,ho,hp,AG N M,k⟩
theorem RN{o:Option (List Dat)}{K:RV->Prop}(k:K (.new (.lst ((dM ltI ns).map Dat.int))))(ho:o=some [.tup (ns.map Dat.int)])(h:ns.length<=63):WB dP o K:=⟨_,_,ho,by unfold dP;dsimp only;rw[gE];dsimp only;rw[if_pos h];rfl,k⟩
theorem uL(Ht:a≠b)(t:Tie):decide (dM ltI [t.a,t.b]=dM ltI [a,b])=dU a b t:=by unfold dU;rw[OD,MD,decide_eq_true_iff,decide_eq_true_iff,decide_eq_true_iff];simp only[dM,ins,ltI];by_cases h1:t.b<t.a<;>by_cases h2:b<a<;>simp[h1,h2]<;>lia
theorem wB:∀(m:Nat) (P:Nat->Bool),∃b,b<2 ^ m/\∀k,k<m->decide (b / 2 ^ k % 2=1)=P k
 |0,_=>⟨0,by decide,fun k h=>absurd h (Nat.not_lt_zero k)⟩
 |m+1,P=>by
  obtain⟨b,h1,h2⟩:=wB m P;have tb:∀(x i:Nat),decide (x / 2 ^ i % 2=1)=x.testBit i:=fun x i=>Nat.testBit_eq_decide_div_mod_eq.symm;cases hP:P m with
  |false=>
   refine⟨b,by rw[Nat.pow_succ];lia,fun k hk=>?_⟩;by_cases q:k=m
   ·subst q;rw[tb,hP,Nat.testBit_lt_two_pow h1]
   ·exact h2 k (by lia)
  |true=>
   refine⟨2 ^ m+b,by rw[Nat.pow_succ];lia,fun k hk=>?_⟩;rw[tb];by_cases q:k=m
   ·subst q;rw[Nat.testBit_two_pow_add_eq,Nat.testBit_lt_two_pow h1,hP];rfl
   ·rw[Nat.testBit_two_pow_add_gt (by lia),<- tb];exact h2 k (by lia)
theorem Dj(mX S:List Int):∃x,x<2 ^ mX.length/\∀y,y∈eU mX x↔y∈mX/\y∈S:=by
 obtain⟨x,h1,h2⟩:=wB mX.length fun k=>decide (mX.getD k 0∈S);refine⟨x,h1,fun y=>?_⟩;unfold eU;rw[Mt];constructor
 ·rintro⟨k,hk,rfl⟩;obtain⟨k1,k2⟩:=Mx.mp hk;have k1:=MR.mp k1;rw[h2 k k1]at k2;refine⟨?_,of_decide_eq_true k2⟩;rw[ME,Mp k1];exact Ot k1
 ·rintro⟨hy,hs⟩;obtain⟨k,k1,rfl⟩:=List.getElem_of_mem hy;have e:mX.getD k 0=mX[k]:=by rw[ME,Mp k1];rfl
  exact⟨k,Mx.mpr ⟨MR.mpr k1,by rw[h2 k k1,e];exact decide_eq_true hs⟩,e⟩
theorem HF{mX:List Int}(nd:mX.Nodup)(x:Nat):(eU mX x).Nodup:=by
 unfold eU;refine MY.mpr (Nr (fun {i j} hi hj ne e=>ne ?_) (O3.sublist Nn));have hi:=MR.mp (Mx.mp hi).1;have hj:=MR.mp (Mx.mp hj).1;rw[ME,ME,Mp hi,Mp hj]at e;have e:mX[i]=mX[j]:=e;have pw:=List.pairwise_iff_getElem.mp nd;rcases Nat.lt_trichotomy i j with q | q | q
 ·exact(pw i j hi hj q e).elim
 ·exact q
 ·exact(pw j i hj hi q e.symm).elim
theorem Dl{S S':List Int}(B:HE n R a b j S)(h:∀y,y∈S->y∈S'):¬bq R S' a b:=fun c=>by
 obtain⟨G,ga,gb,cl⟩:=B.cl;have:∀y,bq R S' a y->G y:=fun y c=>by
  induction c with
  |refl=>exact ga
  |step _ h1 h2 h3 ih=>exact cl _ h1 _ _ h2 ih fun z=>h3 (h _ z)
 exact gb (this b c)
theorem pW(n6:n<=6)(h:Fit n R)(a0:0<=a)(a1:a<n)(b0:0<=b)(b1:b<n)(Ht:a≠b)(w:pT n R a b k) :
  ∃c:Int,rF [.int n,aD R,.int a,.int b]=some (.val (.int c))/\c<k:=by
 have hz:SZ=100000:=rfl
 suffices q:Wr (rF [.int n,aD R,.int a,.int b]) fun v=>∃c:Int,v=.val (.int c)/\c<k by obtain⟨v,h1,c,rfl,h2⟩:=q;exact⟨c,h1,h2⟩
 obtain⟨S,j,B,hj⟩:=w;have hl:=h.len;have hpo:Pl n (cS R a b):=fun t ht=>h.pl t (Mx.mp ht).1;have hlo:(cS R a b).length<=R.length:=Nz _ _;obtain⟨L,es,h1,h2⟩:=jR n6 a0 a1 b0 b1 Ht;obtain⟨x,x1,x2⟩:=Dj (cF n a b) S;have gL:=h2 x x1;have gn:¬bq (cS R a b) (eU (cF n a b) x) a b:=Dl B fun y hy=>(x2 y).mpr ⟨iV.mpr ⟨⟨(B.rg y hy).1,(B.rg y hy).2.1⟩,(B.rg y hy).2.2⟩,hy⟩;have gl:(eU (cF n a b) x).length<=j:=by rw[<- B.len];exact bC _ _ (HF wA x) fun y hy=>((x2 y).mp hy).2
 generalize eU (cF n a b) x=g0 at gL gn gl
 unfold rF
 (refine Dm.PM ?_ rfl rfl;and_intros)
 refine Pr (PD (Qi aQ R (dU a b) id aQ (d:=aD R) ?_ rfl rfl rfl (by decide) (by lia) (fun t _=>?_) fun t _ _=>M_ rfl (PF ⟨rfl,rfl⟩)) (by decide))
 rotate_left
 ·refine PJ (O_ (PY (m_ (QE (M_ rfl (Wp.some (Pu (bL.mk (Wp.none ⟨[.int t.m,.int t.a,.int t.b],rfl,by show ¬(sIx 3 0 (some 1)=0/\sIx 3 3 none=3);decide,?_⟩)))))))));refine N_ (RN (ns:=[t.a,t.b]) ?_ rfl (by exact MC rfl));refine PY (m_ (Qe (m_ (M_ rfl (m_ (M_ rfl (N_ (PU ?_ rfl rfl (by exact MC rfl)))))))));refine N_ (Rp (ns:=[a,b]) ?_ rfl (by exact MC rfl));refine RA (Px ?_) rfl rfl;rw[uL Ht];exact⟨rfl,rfl⟩
 rw[Nm];refine PB ?_ (by trivial);refine Pr (PD (Qi aQ R (fun t=>!decide (t∈ck R a b)) id aQ (d:=aD R) ?_ rfl rfl rfl (by decide) (by lia) (fun t _=>?_) fun t _ _=>M_ rfl (PF ⟨rfl,rfl⟩)) (by decide))
 rotate_left
 ·exact PJ (O_ (M_ rfl (Py rfl (QX (t:=t) (K:=ck R a b) (Px ⟨rfl,rfl⟩) rfl rfl))))
 rw[Nm,lz];refine PB ?_ (by trivial);refine Pr (P1 (Qg (PL (m_ (M_ rfl (m_ (M_ rfl (m_ (M_ rfl (N_ (PK es (P_ (bQ ?_)) rfl rfl rfl rfl)))))))))));refine P5 jL _ _ L _ _ _ _ _ (fun p q ρ=>(∃c6:Cell,ρ=[.sh (.int n),.sh (aD R),.sh (.int a),.sh (.int b),.ow (aD (ck R a b)),.ow (aD (cS R a b)),c6])/\∀g∈p,bq (cS R a b) g a b) ⟨⟨_,rfl⟩,fun g hg=>(nomatch hg)⟩ ?_ ?_
 ·rintro p g q ρ e ⟨⟨c6,rfl⟩,hp⟩;refine Dm.bx rfl (by trivial) ?_;unfold An;obtain⟨c,ec,hc⟩:=x8 h.n10 hpo (by lia) a0 a1 b g;refine P6 (QC (PJ (PL (m_ (Py rfl (m_ (M_ rfl (m_ (M_ rfl (m_ (M_ rfl (N_ (P7 ec (Px ?_) rfl rfl)))))))))))));cases c with
  |true=>
   refine Qh (PV ⟨⟨_,rfl⟩,fun g' hg=>?_⟩);rcases Mw.mp hg with hg | hg
   ·exact hp g' hg
   ·rw[Mr.mp hg];exact hc.mp rfl
  |false=>
   refine Qk (PR (O_ (PY (m_ (Py rfl (N_ (Qj (Ab:=aQ) (xs:=ck R a b) ?_ rfl)))))));refine PY (m_ (M_ rfl (N_ (Qj (Ab:=Dat.int) (xs:=g) (PX ?_ rfl rfl) rfl))));refine⟨_,rfl,?_⟩;have:g.length<=g0.length:=by
    rw[e]at gL h1;rcases Mw.mp gL with z | z
    ·exact(gn (hp g0 z)).elim
    ·rcases Ms.mp z with z | z
     ·rw[z];exact Mn _
     ·exact(NO.mp (List.pairwise_append.mp h1).2.1).1 g0 z
   lia
 ·rintro ρ ⟨⟨c6,rfl⟩,hp⟩;exact(gn (hp g0 gL)).elim
theorem Kf(xs:List Int)(i:Int)(h0:0<=i)(h1:i<xs.length):∃x∈xs,gIx (.lst (xs.map Dat.int)) (.int i)=some (.val (.int x)):=by refine⟨xs[i.toNat]'(by lia),Ot _,?_⟩;show (atI (xs.map Dat.int) i).map RV.val=_;rw[Dm.iQ Dat.int xs i h0 h1];rfl
theorem uM{K r:List Tie}(s:K.Sublist r)(nd:(r.map (·.m)).Nodup):(r.filter fun t=>decide (t.m∈mss K))=K:=by
 induction s with
 |slnil=>rfl
 |@cons l₁ l₂ t s ih=>
  obtain⟨n1,n2⟩:=MB.mp (show (t.m::l₂.map (·.m)).Nodup from nd);rw [MQ (by
   rw[decide_eq_false fun z=>?_]
   ·exact MG
   ·exact n1 ((s.map _).subset z))]
  exact ih n2
 |@cons_cons l₁ l₂ t s ih=>
  obtain⟨n1,n2⟩:=MB.mp (show (t.m::l₂.map (·.m)).Nodup from nd);rw[MV (by exact decide_eq_true (show t.m∈t.m::mss l₁ from Ds))]
  congr 1
  refine Eq.trans (List.filter_congr fun u hu=>?_) (ih n2);apply decide_eq_decide.mpr;show u.m∈t.m::mss l₁↔_;rw[Ms];exact⟨fun z=>z.resolve_left fun e=>n1 (by rw[<- e];exact Mt.mpr ⟨u,hu,rfl⟩),.inr⟩
noncomputable def LE(ns:List Int)(x:Int)(n:Nat)(at_:Int)(k:Nat)(c5:Cell)(K:List Tie)(c7 c8 c9 c10 c11:Cell):Env:=
 [.sh (.lst (ns.map Dat.int)),.ow (bJ x),.sh (.int n),.sh (.int at_),.sh (.int k),c5,.sh (msI K),c7,c8,c9,c10,c11]
noncomputable def sj(n i:Nat):List Int:=((Mv n).filter fun k=>decide (i / 2 ^ k % 2=1)).map fun k:Nat=>0+(k:Int)
def Two(r K:List Tie)(c5 c7:Cell):Prop:=(c5=.ow (aD r)/\c7=.ow (aD K))\/(c5=.sh (aD r)/\c7=.sh (aD K))
end
section
variable(aH aW:Nat)(ns:List Int){n:Nat}(n6:n<=6)(at_:Int){k:Nat}(k1:1<=k)(k6:k<=6){r K:List Tie}(hf:Fit n r)(hK:Kept n r k r K)
include n6 k1 k6 hf hK
theorem AH(x:Int)(i:Nat)(c5 c7 c9 c10 c11:Cell)(h2:Two r K c5 c7){N:Env->Prop}{R:RV->Env->Prop}{B C:Env->Prop}(nx:∀c5 c7 c8 c9,Two r K c5 c7->N (LE ns x n at_ k c5 K c7 c8 c9 c10 c11)) :
  Ws (pH aH aW) (LE ns x n at_ k c5 K c7 (.sh (.int (0+(i:Nat)))) c9 c10 c11) N R B C:=by
 have hz:SZ=100000:=rfl;have fK:=hf.sub hK.sub;unfold pH LE;refine Pr (PD (Qm (fun k:Nat=>Dat.int (0+(k:Nat))) (Mv n) (fun k=>decide (i / 2 ^ k % 2=1)) (fun k=>Dat.int (0+(k:Nat))) ?_ (ρ1:=LE ns x n at_ k c5 K c7 (.sh (.int (0+(i:Nat)))) c9 c10 c11) ?_ rfl (by decide) (by rw[MT];lia) (fun j _=>?_) fun j hj _=>?_) (by decide))
 rotate_left
 ·apply Qc;refine Qa (M_ rfl (bL.mk ⟨⟨?_,rfl⟩,by unfold BIG;lia,by unfold BIG;lia⟩));rw[M7];rfl
 ·refine PJ (O_ (O_ (O_ (M_ rfl (M_ rfl (Q_ ?_ rfl rfl (by lia)))))));refine Pu (Ri ?_ rfl rfl);refine Pu (P8 (Px ⟨?_,rfl⟩) rfl rfl);have:((0:Int)+(j:Nat)).toNat=j:=by lia
  rw[this];apply decide_eq_decide.mpr;have:((0:Int)+((i:Nat):Int)) / 2 ^ j % 2=((i / 2 ^ j % 2:Nat):Int):=by
   rw[Pn]
   norm_cast
  rw[this]
  lia
 ·exact M_ rfl (PF ⟨rfl,rfl⟩)
 have eg:(Po (fun k:Nat=>Dat.int (0+(k:Nat))) ((Mv n).filter fun k=>decide (i / 2 ^ k % 2=1)))=(sj n i).map Dat.int:=by unfold sj;rw[MI];rfl
 rw[eg];unfold LE;refine PB ?_ (by trivial);refine P6 (Qd (PJ (O_ (PY (m_ (Py rfl (N_ (Qj (Ab:=Dat.int) (xs:=sj n i) ?_ rfl))))))));refine M_ rfl (Qs (Px ?_) rfl rfl);refine PZ (fun EM=>?_) fun hge=>Qh (PV (nx _ _ _ _ h2));obtain⟨D,e1,e2⟩:=uJ hf.n10 (R:=K) (R':=r) fK.pl (by have:=fK.len;lia) hf.pl (by have:=hf.len;lia) (sj n i) fun a ha y=>(hK.conn (sj n i) (by lia) a ha y).symm;rcases h2 with⟨rfl,rfl⟩ | ⟨rfl,rfl⟩
 ·refine PJ (O_ (PL (m_ (M_ rfl (m_ (Py rfl (m_ (Py rfl (N_ (PK e1 ?_ rfl rfl rfl rfl))))))))));refine PL (m_ (M_ rfl (m_ (Py rfl (m_ (M_ rfl (N_ (PK e2 ?_ rfl rfl rfl rfl))))))));exact QL (N:=D) (M:=D) (Px (P4 (by rw[decide_eq_true rfl];rfl) (PV (nx _ _ _ _ (.inr ⟨rfl,rfl⟩))))) rfl rfl
 ·refine PJ (O_ (PL (m_ (M_ rfl (m_ (M_ rfl (m_ (Py rfl (N_ (PK e1 ?_ rfl rfl rfl rfl))))))))));refine PL (m_ (M_ rfl (m_ (M_ rfl (m_ (M_ rfl (N_ (PK e2 ?_ rfl rfl rfl rfl))))))));exact QL (N:=D) (M:=D) (Px (P4 (by rw[decide_eq_true rfl];rfl) (PV (nx _ _ _ _ (.inr ⟨rfl,rfl⟩))))) rfl rfl
theorem HG(x:Int)(t:Tie)(ht:t∈K)(c5 c8 c9 c11:Cell){N:Env->Prop}{R:RV->Env->Prop}{B C:Env->Prop}(nx:∀c11,N (LE ns x n at_ k c5 K (.sh (aD K)) c8 c9 (.sh (aQ t)) c11)) :
  Ws (kY aH aW) (LE ns x n at_ k c5 K (.sh (aD K)) c8 c9 (.sh (aQ t)) c11) N R B C:=by
 have hz:SZ=100000:=rfl;have fK:=hf.sub hK.sub;have kl:=fK.len;have hp:=fK.pl t ht;obtain⟨ne,wk⟩:=hK.weak t (hK.sub.subset ht) ht;obtain⟨c,ec,hc⟩:=pW n6 (fK.out t) hp.1 hp.2.1 hp.2.2.1 hp.2.2.2 ne wk;unfold kY LE;refine Pr (PD (Qi aQ K (fun u=>decide (u≠t)) id aQ (d:=aD K) ?_ rfl rfl rfl (by decide) (by lia) (fun u _=>?_) fun u _ _=>M_ rfl (PF ⟨rfl,rfl⟩)) (by decide))
 rotate_left
 ·exact PJ (O_ (M_ rfl (M_ rfl (Rl (u:=u) (t:=t) (Px ⟨rfl,rfl⟩) rfl rfl))))
 rw[Nm];refine PB ?_ (by trivial);refine P6 (QS (PJ (O_ (O_ (M_ rfl (Pu (Pw (v:=.int t.a) ?_ rfl rfl rfl)))))));refine O_ (M_ rfl (Pu (Pw (v:=.int t.b) ?_ rfl rfl rfl)));refine P8 (Px (P4 (decide_eq_false ne) ?_)) rfl rfl;refine PJ (O_ (PL (m_ (M_ rfl (m_ (Py rfl (m_ (O_ (M_ rfl (Pu (Pw (v:=.int t.a) ?_ rfl rfl rfl)))))))))));refine m_ (O_ (M_ rfl (Pu (Pw (v:=.int t.b) (N_ (P7 ec ?_ rfl rfl)) rfl rfl rfl))));exact M_ rfl (QW (Px (P4 (decide_eq_false (by lia)) (PV (nx _)))) rfl rfl)
end
section
variable(aH aW:Nat)(ns:List Int){n:Nat}(n1:1<=n)(n6:n<=6)(at_:Int)
include n1 n6
theorem jX{k:Nat}(k1:1<=k)(k6:k<=6){r:List Tie}(hf:Fit n r)(x:Int)(c6 c7 c8 c9 c10 c11:Cell){N:Env->Prop}{R:RV->Env->Prop}{B C:Env->Prop}(nx:∀c1 c4 c5 c6 c7 c8 c9 c10 c11,N [.sh (.lst (ns.map Dat.int)),c1,.sh (.int n),.sh (.int at_),c4,c5,c6,c7,c8,c9,c10,c11]) :
  Ws (aA (sA 6 (e2 gIx (eF (jA aH aW) [(eV 2),(eB ki [(eV 5)]),(eV 4)]) (eC (.int 0))))
  (aA (sA 7 (aL 5 1 (bN 12) (tV (e2 gIn (e2 gIx (eV 12) (eC (.int 0))) (eV 6))) (eV 12)))
  (aA (sIf (tV (e2 gNe (eB dG [(eV 7)]) (eB dG [(eV 6)]))) (sR (eC (.bl false))) sNx)
  (aA (cU (iR1 (e2 mU (eC (.int 1)) (eV 2))) (bN 8)
  (pH aH aW))
  (aA (cU (iS (eV 7)) (bN 10)
  (kY aH aW))
  (sIf (tV (e2 gNe (e2 gIx (eF (jA aH aW) [(eV 2),(eV 7),(eV 4)]) (eC (.int 0))) (eV 6))) (sR (eC (.bl false))) sNx)))))) [.sh (.lst (ns.map Dat.int)),.ow (bJ x),.sh (.int n),.sh (.int at_),.sh (.int k),.ow (aD r),c6,c7,c8,c9,c10,c11] N R B C:=by
 have hz:SZ=100000:=rfl;have rl:=hf.len;obtain⟨K,eK,hK⟩:=pU aH aW hf k6;obtain⟨d,ep⟩:=r9 aH aW hf k1 k6 eK hK.sub;have fK:=hf.sub hK.sub;have kl:=fK.len;have eA:=AD aH aW fK k6 fun t ht=>hK.weak t (hK.sub.subset ht) ht;obtain⟨d',ep'⟩:=r9 aH aW fK k1 k6 eA (O0.refl _);refine Pr (PD (O_ (PL (m_ (M_ rfl (m_ (PY (m_ (Py rfl (N_ (QA (xs:=r.map aQ) ?_ rfl)))))))))) (by decide));refine m_ (M_ rfl (N_ (PK ep ?_ rfl rfl rfl rfl)));refine Pu (Pw (v:=msI K) (PN ?_ (by trivial)) rfl rfl rfl);refine Pr (PD (RL aQ r (fun t=>decide (t.m∈mss K)) id aQ ?_ rfl rfl rfl (by decide) (by lia) (fun u _=>?_) fun u _ _=>M_ rfl (PF ⟨rfl,rfl⟩)) (by decide))
 rotate_left
 ·refine PJ (O_ (O_ (M_ rfl (Pu (Pw (v:=.int u.m) ?_ rfl rfl rfl)))));exact M_ rfl (Q8 (i:=u.m) (xs:=mss K) (Px ⟨rfl,rfl⟩) rfl rfl)
 rw[Nm,uM hK.sub hf.nd];refine PB ?_ (by trivial);refine Pr (P6 (PJ (O_ (PY (m_ (Py rfl (N_ (Qj (Ab:=aQ) (xs:=K) ?_ rfl))))))));refine PY (m_ (M_ rfl (N_ (Qj (Ab:=Dat.int) (xs:=mss K) ?_ rfl))));refine Qp (Px (P4 ?_ (PV ?_))) rfl rfl
 ·rw[show (mss K).length=K.length from Mj _,decide_eq_true rfl];rfl
 have p16:2 ^ n<=64:=MH (OE (show 2>0 by decide) n6) (by decide);have p1:(1:Int)*2 ^ ((n:Nat):Int).toNat=((2 ^ n:Nat):Int):=by rw[M7,Int.one_mul];norm_cast
 generalize 2 ^ n=M at *
 refine Pr (P1 (Qa (O_ (Pu (M_ rfl ⟨_,_,_,rfl,rfl,(show mU (.int 1) (.int (n:Nat))=some (.val (.int ((M:Nat):Int))) by unfold mU;dsimp only;rw[if_pos (by lia),p1]),?_⟩)))));refine bL.mk ⟨?_,by unfold BIG;lia,by unfold BIG;lia⟩;rw[M7];refine P5 (fun i:Nat=>Dat.int (0+(i:Nat))) _ _ (Mv M) _ _ _ _ _ (fun p q ρ=>∃c5 c7 c8 c9:Cell,ρ=LE ns x n at_ k c5 K c7 c8 c9 c10 c11/\Two r K c5 c7) ⟨_,_,_,_,rfl,.inl ⟨rfl,rfl⟩⟩ ?_ ?_
 ·rintro p i q ρ e ⟨c5,c7,c8,c9,rfl,h2⟩;unfold LE;refine Dm.bx rfl (by trivial) ?_;exact AH aH aW ns n6 at_ k1 k6 hf hK x i c5 c7 c9 c10 c11 h2 fun c5 c7 c8 c9 h=>⟨_,_,_,_,rfl,h⟩
 rintro ρ ⟨c5,c7,c8,c9,rfl,h2⟩;have EC:∀c5 c8 c9,Ws (cU (iS (eV 7)) (bN 10) (kY aH aW)) (LE ns x n at_ k c5 K (.sh (aD K)) c8 c9 c10 c11) (fun ρ=>Ws (sIf (tV (e2 gNe (e2 gIx (eF (jA aH aW) [(eV 2),(eV 7),(eV 4)]) (eC (.int 0))) (eV 6))) (sR (eC (.bl false))) sNx) ρ N R B C) R B C:=fun c5 c8 c9=>by
  unfold LE;refine P1 (Qg (M_ rfl (PF (bQ ?_))));refine P5 aQ _ _ K _ _ _ _ _ (fun p q ρ=>∃c10 c11:Cell,ρ=LE ns x n at_ k c5 K (.sh (aD K)) c8 c9 c10 c11) ⟨_,_,rfl⟩ ?_ ?_
  ·rintro p t q ρ e ⟨c10,c11,rfl⟩;unfold LE;refine Dm.bx rfl (by trivial) ?_;exact HG aH aW ns n6 at_ k1 k6 hf hK x t (by rw[e];simp) c5 c8 c9 c11 fun c11=>⟨_,_,rfl⟩
  ·rintro ρ ⟨c10,c11,rfl⟩;unfold LE;refine P6 (PJ (O_ (O_ (PL (m_ (M_ rfl (m_ (M_ rfl (m_ (M_ rfl (N_ (PK ep' ?_ rfl rfl rfl rfl))))))))))));refine Pu (Pw (v:=msI K) ?_ rfl rfl rfl);refine M_ rfl (QL (N:=mss K) (M:=mss K) (Px (P4 (by rw[decide_eq_true rfl];rfl) (PV (nx _ _ _ _ _ _ _ _ _)))) rfl rfl)
 rcases h2 with⟨rfl,rfl⟩ | ⟨rfl,rfl⟩
 ·refine Pr ?_;unfold LE;refine P1 (Qg (Py rfl (QN (bQ ?_) rfl (by trivial))));have:=EC (.ow (aD r)) c8 c9;unfold LE at this;obtain⟨o,q1,q2⟩:=this;exact⟨o,q1,q2⟩
 ·exact Pr (EC _ _ _)
end
section
variable(aH aW:Nat)
theorem Dq(ns:List Int){n:Nat}(n1:1<=n)(n6:n<=6)(at_:Int)(h0:0<=at_)(h1:at_<100)(c1 c4 c5 c6 c7 c8 c9 c10 c11:Cell){N:Env->Prop}{R:RV->Env->Prop}{B C:Env->Prop}(nx:∀c1 c4 c5 c6 c7 c8 c9 c10 c11,N [.sh (.lst (ns.map Dat.int)),c1,.sh (.int n),.sh (.int at_),c4,c5,c6,c7,c8,c9,c10,c11]) :
  Ws (uy aH aW) [.sh (.lst (ns.map Dat.int)),c1,.sh (.int n),.sh (.int at_),c4,c5,c6,c7,c8,c9,c10,c11] N R B C:=by
 have hz:SZ=100000:=rfl;obtain⟨x,ex⟩:=wg ns at_ h0 (by lia);unfold uy;refine Pr (PD (PL (m_ (M_ rfl (m_ (M_ rfl (N_ (PK ex (PB ?_ (by trivial)) rfl rfl rfl rfl))))))) (by decide));refine Pr (PD (O_ (Pu (QJ (O_ (Qe (m_ (Pu (m_ (Pu (N_ (PU ?_ rfl rfl (by decide))))))))) rfl))) (by decide));refine Qf (m:=2) rfl (by decide) (by decide) rfl fun t y1 t0 t1 ρ3 e=>?_;subst e;obtain⟨wd,hw,ew⟩:=Kf [3,6] t t0 t1;have w01:0<wd/\wd<=6:=by
  simp at hw
  lia
 refine Pw (v:=.int wd) (bL.mk (pR ?_ rfl rfl w01.1 (by unfold i7;lia))) rfl rfl ew;have um:=cY y1 wd (by lia);refine PX (PN ?_ (by trivial)) rfl rfl;obtain⟨k,hk⟩:∃k:Nat,(1:Int)+y1 % wd=(k:Nat):=⟨(1+y1 % wd).toNat,by lia⟩
 rw[hk];have EC:∀(top:Int),0<=top->top<=60->∀y:Int,∃(r:List Tie) (y':Int),nW [bJ y,.int n,.int top]=some (.new (aD r),bJ y')/\Fit n r:=fun top h0 h1 y=>by obtain⟨r,y',er,hg,hl⟩:=xY y n top (by lia) (by lia) h0 h1;exact⟨r,y',er,by lia,hg.pl,hg.nd,by lia⟩
 refine Pr (PD (Rg (m_ (M_ rfl (m_ (O_ (Qe (m_ (Pu (m_ (Pu (N_ (PU ?_ rfl rfl (by decide)))))))))))) rfl) (by decide));refine PY (m_ (Qy (O_ (Qf (m:=3) rfl (by decide) (by decide) rfl fun u y2 u0 u1 ρ3 e=>?_))));subst e;refine Pu (P8 (Px ?_) rfl rfl);obtain⟨r1,z1,e1,f1⟩:=EC 14 (by decide) (by decide) y2;obtain⟨r2,z2,e2,f2⟩:=EC 60 (by decide) (by decide) y2;refine PZ (fun h=>?_) fun h=>?_
 ·refine Ru (O_ (M_ rfl (Pu (Qs (Px ?_) rfl rfl))));refine PZ (fun h=>?_) fun h=>?_
  ·refine N_ (Qv (b:=true) ?_ rfl);refine Pw (v:=.int 60) (N_ (Ql e2 (PB ?_ (by trivial)) rfl rfl rfl)) rfl rfl rfl;exact jX aH aW ns n1 n6 at_ (by lia) (by lia) f2 z2 _ _ _ _ _ _ nx
  ·refine O_ (M_ rfl (Pu (P8 ?_ rfl rfl)));cases decide (at_=1) with
   |true=>refine N_ (Qv (b:=true) ?_ rfl);refine Pw (v:=.int 60) (N_ (Ql e2 (PB ?_ (by trivial)) rfl rfl rfl)) rfl rfl rfl;exact jX aH aW ns n1 n6 at_ (by lia) (by lia) f2 z2 _ _ _ _ _ _ nx
   |false=>refine N_ (Qv (b:=false) ?_ rfl);refine Pw (v:=.int 14) (N_ (Ql e1 (PB ?_ (by trivial)) rfl rfl rfl)) rfl rfl rfl;exact jX aH aW ns n1 n6 at_ (by lia) (by lia) f1 z1 _ _ _ _ _ _ nx
 ·refine N_ (Qv (b:=false) ?_ rfl);refine Pw (v:=.int 14) (N_ (Ql e1 (PB ?_ (by trivial)) rfl rfl rfl)) rfl rfl rfl;exact jX aH aW ns n1 n6 at_ (by lia) (by lia) f1 z1 _ _ _ _ _ _ nx
theorem math(ns:List Int)(h:ns.length<=63):kZ aH aW [.lst (ns.map Dat.int)]=some (.val (.bl true)):=by
 apply P0;unfold kZ
 (refine Dm.PM ?_ rfl rfl;and_intros)
 obtain⟨y0,ep⟩:=wg ns 0 (by decide) (by decide);refine Pr (PD (PL (m_ (M_ rfl (m_ (Pu (N_ (PK ep (PB ?_ (by trivial)) rfl rfl rfl rfl))))))) (by decide));refine Pr (PD (O_ (Pu (Qf (m:=6) rfl (by decide) (by decide) rfl fun t y1 t0 t1 ρ3 e=>?_))) (by decide));subst e;refine PX (PN ?_ (by trivial)) rfl rfl;obtain⟨n,hn1⟩:∃n:Nat,(1:Int)+t=(n:Nat):=⟨(1+t).toNat,by lia⟩
 rw[hn1];refine Pr (P1 (Rn (Pu (bL.mk (PY (m_ (Pu (m_ (PY (m_ (Pu (m_ (PY (m_ (M_ rfl (N_ (Qj (Ab:=Dat.int) (xs:=ns) ?_ rfl)))))))))))))))));refine N_ (QK ?_ rfl);refine N_ (QI ?_ rfl);have hb:∀z:Int,z=(if (ns.length:Int)<3 then (ns.length:Int) else 3)->(if z>2 then z else 2)<=9/\2<=(if z>2 then z else 2):=fun z hz=>by
  rw[hz];constructor
  ·split<;>split<;>lia
  ·split<;>lia
 have hb:=hb _ rfl
 generalize (if (if (ns.length:Int)<3 then (ns.length:Int) else 3)>2 then (if (ns.length:Int)<3 then (ns.length:Int) else 3) else 2)=top at hb ⊢
 refine bL.mk ⟨?_,by unfold BIG;lia⟩;refine P5 (fun i:Nat=>Dat.int (1+(i:Nat))) _ _ (Mv (top-1).toNat) _ _ _ _ _ (fun p q ρ=>∃c1 c3 c4 c5 c6 c7 c8 c9 c10 c11:Cell,ρ=[.sh (.lst (ns.map Dat.int)),c1,.sh (.int n),c3,c4,c5,c6,c7,c8,c9,c10,c11]) ⟨_,_,_,_,_,_,_,_,_,_,rfl⟩ ?_ ?_
 ·rintro p i q ρ e ⟨c1,c3,c4,c5,c6,c7,c8,c9,c10,c11,rfl⟩;have hi:i<(top-1).toNat:=MR.mp (by rw[e];simp);refine Dm.bx rfl (by trivial) ?_;exact Dq aH aW ns (by lia) (by lia) _ (by lia) (by lia) _ _ _ _ _ _ _ _ _ fun c1 c4 c5 c6 c7 c8 c9 c10 c11=>⟨_,_,_,_,_,_,_,_,_,_,rfl⟩
 ·rintro ρ ⟨c1,c3,c4,c5,c6,c7,c8,c9,c10,c11,rfl⟩;exact PR (Pu rfl)
end
end P
namespace Q
open PySem L2 Br Dm P
noncomputable def top(i:Nat):Stmt:=PySem.Challenge.pw_sinceply_k46_whole_few_places_gone.main.body.getD i (.Pass ⟨0,0,0,0⟩)
structure Txt(mg:Str->Option Value)(K:Dp)(base:Heap)(uN uO uP uQ uR uS uT uU uV uW lI lJ lK lM lN lO lP aT lQ lR lS aU lT lU lV lW lX lY lZ l0 l5 l6 l7 l8:Addr)(l9 l_ mh mj mq mw mz mC mD mE gR gS gT gU gW gX gY gZ g7 g8 g9 g_ h_ ia ic ie ig ir iu iw iy iz iA jq:FuncData):Prop where
 HH:mg "bool" = none
 HJ:mg "dict" = none
 sq:mg "enumerate" = none
 EN:mg "int" = none
 iW:mg "isinstance" = none
 cZ:mg "len" = none
 uX:mg "list" = none
 EO:mg "max" = none
 AI:mg "min" = none
 bI:mg "range" = none
 iX:mg "sorted" = none
 Dt:mg "tuple" = none
 LX:mg "led_steps" = some (.ref uN)
 HK:mg "shortest_ways" = some (.ref uO)
 LY:mg "lead_along" = some (.ref uP)
 LZ:mg "parted" = some (.ref uQ)
 L1:mg "is_whole" = some (.ref uR)
 Kg:mg "is_within" = some (.ref uS)
 Kh:mg "is_place" = some (.ref uT)
 L3:mg "is_layers" = some (.ref uU)
 L4:mg "is_pair" = some (.ref uV)
 L5:mg "look_at_layers" = some (.ref uW)
 Kl:mg "look_at_pair" = some (.ref lI)
 Km:mg "moments_of_steps" = some (.ref lJ)
 Kn:mg "steps_through_doors" = some (.ref lK)
 ER:mg "free_doors" = some (.ref lM)
 Ko:mg "first_shut" = some (.ref lN)
 Kp:mg "ways_around" = some (.ref lO)
 ES:mg "place_hang" = some (.ref lP)
 Kq:mg "hang_often_by_places" = some (.ref aT)
 Kr:mg "without" = some (.ref lQ)
 Ks:mg "kept_ties" = some (.ref lR)
 Ku:mg "no_ways" = some (.ref lS)
 Kv:mg "place_ways" = some (.ref aU)
 Kw:mg "ways_out" = some (.ref lT)
 ET:mg "place_pared" = some (.ref lU)
 Ky:mg "_law_cell_at" = some (.ref lV)
 EU:mg "_law_pool" = some (.ref lW)
 fZ:mg "_law_take" = some (.ref lX)
 Kz:mg "_law_record" = some (.ref lY)
 EV:mg "_law_reached" = some (.ref lZ)
 KA:mg "_law_joined_without" = some (.ref l0)
 KC:mg "_law_sets" = some (.ref l5)
 KD:mg "_law_by_places" = some (.ref l6)
 EW:mg "_law_parts" = some (.ref l7)
 L_:mg "law" = some (.ref l8)
 KG:Fun K "led_steps" "led_steps" (top 1) uN l9
 Du:Fun K "shortest_ways" "shortest_ways" (top 2) uO l_
 KH:Fun K "lead_along" "lead_along" (top 3) uP mh
 HL:Binds K l9 ["steps","heads"] []
 AJ:Binds K l_ ["steps","a"] []
 KI:Fun K "parted" "parted" (top 4) uQ mj
 KJ:Fun K "is_whole" "is_whole" (top 10) uR mq
 HM:Binds K mq ["thing"] []
 HN:Fun K "is_within" "is_within" (top 11) uS mw
 Dv:Binds K mw ["thing","low","high"] []
 HP:Fun K "is_place" "is_place" (top 12) uT mz
 KL:Fun K "is_layers" "is_layers" (top 13) uU mC
 Dw:Binds K mz ["n","thing"] []
 KN:Fun K "is_pair" "is_pair" (top 14) uV mD
 HQ:Binds K mC ["thing"] []
 KP:Fun K "look_at_layers" "look_at_layers" (top 15) uW mE
 HR:Binds K mD ["n","a","b"] []
 EX:Fun K "look_at_pair" "look_at_pair" (top 16) lI gR
 EY:Fun K "moments_of_steps" "moments_of_steps" (top 21) lJ gS
 EZ:Fun K "steps_through_doors" "steps_through_doors" (top 22) lK gT
 AK:Fun K "free_doors" "free_doors" (top 23) lM gU
 E1:Fun K "first_shut" "first_shut" (top 24) lN gW
 HS:Binds K mh ["heads","way"] []
 HU:Binds K mj ["steps","heads","a","b","count"] []
 AL:Binds K gS ["n","ties"] []
 AM:Binds K gT ["n","moments"] []
 wC:Binds K gU ["steps","heads"] []
 AO:Binds K gW ["n","way","reached"] []
 E2:Fun K "ways_around" "ways_around" (top 20) lO gX
 AQ:Binds K gR ["n","a","b"] []
 AR:Binds K gX ["n","ties","a","b","most"] []
 AS:Fun K "place_hang" "place_hang" (top 18) lP gY
 wD:Binds K gY ["n","record","a","b","most"] []
 E3:Fun K "hang_often_by_places" "hang_often_by_places" (top 19) aT gZ
 E4:Fun K "without" "without" (top 27) lQ g7
 AU:Binds K gZ ["n","ties","a","b","times"] []
 AV:Binds K g7 ["ties","tie"] []
 E5:Fun K "kept_ties" "kept_ties" (top 26) lR g8
 E6:Fun K "no_ways" "no_ways" (top 29) lS g9
 E7:Fun K "place_ways" "place_ways" (top 32) aU g_
 AW:Binds K g9 ["k"] []
 AX:Binds K g_ ["n","kept","a","b","k"] []
 E8:Fun K "ways_out" "ways_out" (top 28) lT h_
 HV:Binds K mE ["k"] []
 AY:Binds K g8 ["n","record","k","often"] []
 AZ:Binds K h_ ["n","record","kept","k","ways_of"] []
 A0:Fun K "place_pared" "place_pared" (top 31) lU ia
 E9:Fun K "_law_cell_at" "_law_cell_at" (top 34) lV ic
 A1:Binds K ic ["script","k"] []
 A2:Fun K "_law_pool" "_law_pool" (top 35) lW ie
 e_:Fun K "_law_take" "_law_take" (top 36) lX ig
 dW:Binds K ig ["pool","many"] []
 E_:Fun K "_law_record" "_law_record" (top 37) lY ir
 A3:Fun K "_law_reached" "_law_reached" (top 38) lZ iu
 wF:Binds K iu ["ties","a","gone"] []
 Fb:Fun K "_law_joined_without" "_law_joined_without" (top 39) l0 iw
 Fc:Fun K "_law_sets" "_law_sets" (top 40) l5 iy
 A4:Binds K iw ["ties","a","b","gone"] []
 A5:Binds K iy ["n","a","b"] []
 Fe:Fun K "_law_by_places" "_law_by_places" (top 41) l6 iz
 A6:Fun K "_law_parts" "_law_parts" (top 42) l7 iA
 wG:Binds K ia ["n","record","k"] []
 wH:Binds K ie ["script","at"] []
 A7:Binds K ir ["pool","n","most"] []
 A8:Binds K iz ["n","ties","a","b"] []
 wI:Binds K iA ["n","ties","gone"] []
 KQ:Fun K "law" "law" (top 43) l8 jq
section
variable{P':Program}{w:World}{K:Dp}{mg:Str->Option Value}{base:Heap}{uN uO uP uQ uR uS uT uU uV uW lI lJ lK lM lN lO lP aT lQ lR lS aU lT lU lV lW lX lY lZ l0 l5 l6 l7 l8:Addr}
variable{l9 l_ mh mj mq mw mz mC mD mE gR gS gT gU gW gX gY gZ g7 g8 g9 g_ h_ ia ic ie ig ir iu iw iy iz iA jq:FuncData}
theorem KR:aC ["steps","heads"] ["steps","heads"] (ah (top 1)):=fsc
theorem HW:(["steps","heads","row"]:List Str).Nodup:=by decide +kernel
theorem HX:(["steps","heads","row","step"]:List Str).Nodup:=by decide +kernel
theorem sr:aC ["steps","a","ways","pending","place","step"] ["steps","a"] (ah (top 2)):=fsc
theorem A9:aC ["heads","way","moment","place"] ["heads","way"] (ah (top 3)):=fsc
theorem oB:aC ["steps","heads","a","b","count","left","ways","time","way","moment"] ["steps","heads","a","b","count"] (ah (top 4)):=fsc
theorem HY:(["steps","heads","a","b","count","left","ways","time","way","moment","step"]:List Str).Nodup:=by decide +kernel
theorem KS:aC ["thing"] ["thing"] (ah (top 10)):=fsc
theorem KU:aC ["thing","low","high"] ["thing","low","high"] (ah (top 11)):=fsc
theorem KW:aC ["n","thing"] ["n","thing"] (ah (top 12)):=fsc
theorem KY:aC ["thing"] ["thing"] (ah (top 13)):=fsc
theorem KZ:aC ["n","a","b"] ["n","a","b"] (ah (top 14)):=fsc
theorem K0:aC ["k"] ["k"] (ah (top 15)):=fsc
theorem HZ:aC ["n","a","b"] ["n","a","b"] (ah (top 16)):=fsc
theorem mF:aC ["n","ties","moments","moment","a","b"] ["n","ties"] (ah (top 21)):=fsc
theorem pX:aC ["n","moments","steps","through","step"] ["n","moments"] (ah (top 22)):=fsc
theorem Dy:(["n","moments","steps","through","step","door"]:List Str).Nodup:=by decide +kernel
theorem Dz:(["n","moments","steps","through","step","place"]:List Str).Nodup:=by decide +kernel
theorem jr:aC ["steps","heads","free","door","row","step","onward"] ["steps","heads"] (ah (top 23)):=fsc
theorem DB:(["steps","heads","free","door","%4","step","onward","row"]:List Str).Nodup:=by decide +kernel
theorem H_:aC ["n","way","reached"] ["n","way","reached"] (ah (top 24)):=fsc
theorem DC:(["n","way","reached","step"]:List Str).Nodup:=by decide +kernel
theorem dB:aC ["n","ties","a","b","most","moments","steps","heads","reached","count","ways","told"] ["n","ties","a","b","most"] (ah (top 20)):=fsc
theorem DF:(["n","ties","a","b","most","moments","steps","heads","reached","count","ways","told","way"]:List Str).Nodup:=by decide +kernel
theorem DG:(["n","ties","a","b","most","moments","steps","heads","reached","count","ways","told","way","step"]:List Str).Nodup:=by decide +kernel
theorem DH:(["n","ties","a","b","most","moments","steps","heads","reached","count","ways","told","way"]:List Str).Nodup:=by decide +kernel
theorem mG:aC ["n","record","a","b","most","straight","others","ways","around"] ["n","record","a","b","most"] (ah (top 18)):=fsc
theorem DJ:(["n","record","a","b","most","straight","others","ways","around","tie"]:List Str).Nodup:=by decide +kernel
theorem DK:(["n","record","a","b","most","straight","others","ways","around","tie"]:List Str).Nodup:=by decide +kernel
theorem DL:(["n","record","a","b","most","straight","others","ways","around","tie"]:List Str).Nodup:=by decide +kernel
theorem Ia:aC ["n","ties","a","b","times"] ["n","ties","a","b","times"] (ah (top 19)):=fsc
theorem Ib:aC ["ties","tie"] ["ties","tie"] (ah (top 27)):=fsc
theorem DM:(["ties","tie","other"]:List Str).Nodup:=by decide +kernel
theorem mH:aC ["n","record","k","often","kept","tie","others"] ["n","record","k","often"] (ah (top 26)):=fsc
theorem Ic:aC ["k"] ["k"] (ah (top 29)):=fsc
theorem DO:(["k","time"]:List Str).Nodup:=by decide +kernel
theorem Ie:aC ["n","kept","a","b","k"] ["n","kept","a","b","k"] (ah (top 32)):=fsc
theorem A_:aC ["n","record","kept","k","ways_of","gone"] ["n","record","kept","k","ways_of"] (ah (top 28)):=fsc
theorem DP:(["n","record","kept","k","ways_of","gone","tie"]:List Str).Nodup:=by decide +kernel
theorem DQ:(["n","record","kept","k","ways_of","gone","tie"]:List Str).Nodup:=by decide +kernel
theorem Ba:aC ["n","record","k","kept"] ["n","record","k"] (ah (top 31)):=fsc
theorem DR:(["n","record","k","kept","tie"]:List Str).Nodup:=by decide +kernel
theorem Ig:aC ["script","k"] ["script","k"] (ah (top 34)):=fsc
theorem f6:aC ["script","at","cell","big","turn","one"] ["script","at"] (ah (top 35)):=fsc
theorem Bb:aC ["pool","many","number"] ["pool","many"] (ah (top 36)):=fsc
theorem cy:aC ["pool","n","most","many","wide","moment","record","k","a","b"] ["pool","n","most"] (ah (top 37)):=fsc
theorem f7:aC ["ties","a","gone","seen","at","moment","one","other","place"] ["ties","a","gone"] (ah (top 38)):=fsc
theorem Ih:aC ["ties","a","b","gone"] ["ties","a","b","gone"] (ah (top 39)):=fsc
theorem pY:aC ["n","a","b","rest","found","bits"] ["n","a","b"] (ah (top 40)):=fsc
theorem DU:(["n","a","b","rest","found","bits","place"]:List Str).Nodup:=by decide +kernel
theorem DV:(["n","a","b","rest","found","bits","k"]:List Str).Nodup:=by decide +kernel
theorem pZ:aC ["n","ties","a","b","direct","rest","gone"] ["n","ties","a","b"] (ah (top 41)):=fsc
theorem DX:(["n","ties","a","b","direct","rest","gone","tie"]:List Str).Nodup:=by decide +kernel
theorem DY:(["n","ties","a","b","direct","rest","gone","tie"]:List Str).Nodup:=by decide +kernel
theorem Ii:aC ["n","ties","gone"] ["n","ties","gone"] (ah (top 42)):=fsc
theorem DZ:(["n","ties","gone","place"]:List Str).Nodup:=by decide +kernel
theorem b8:aC ["script","pool","n","at","k","record","moments","kept","bits","gone","tie","others"] ["script"] (ah (top 43)):=fsc
theorem D0:(["script","pool","n","at","k","record","moments","kept","bits","gone","%10","others","tie"]:List Str).Nodup:=by decide +kernel
theorem D3:(["script","pool","n","at","k","record","moments","kept","bits","gone","tie","others","place"]:List Str).Nodup:=by decide +kernel
theorem D4:(["script","pool","n","at","k","record","moments","kept","bits","gone","tie","others","one"]:List Str).Nodup:=by decide +kernel
variable(T:Txt mg K base uN uO uP uQ uR uS uT uU uV uW lI lJ lK lM lN lO lP aT lQ lR lS aU lT lU lV lW lX lY lZ l0 l5 l6 l7 l8 l9 l_ mh mj mq mw mz mC mD mE gR gS gT gU gW gX gY gZ g7 g8 g9 g_ h_ ia ic ie ig ir iu iw iy iz iA jq)
include T
theorem K1 :
  aV P' w K mg base CX0 1 uN l9 ["steps","heads"] (spD Ac):=
 okQ T.KG KR fun _ _ _ _ _ _ hr=>(aB (s_r (gm 0 ["steps","heads"] ["row"] (c_n 2 HW rfl rfl) (d_v 0) (fun _ _ _ _ _=>dZ) (fun _ _ _ _ _=>(gm 2 ["steps","heads","row"] ["step"] (c_n 3 HX rfl rfl) (d_v 2) (fun _ _ _ _ _=>bR (mT hr (CK hr (d_v 1) (aY (d_v 3) d_i)) (aY (d_v 3) d_i))) (fun _ _ _ _ _=>(d_v 3)))))))
theorem Bc :
  aV P' w K mg base CX0 1 uO l_ ["steps","a"] (spD kW):=
 okQ T.Du sr fun _ _ _ _ _ _ hr=>(ai (s_a 2 sr.nd (LH (d_v 1) (cC af)))
  (ai (s_a 3 sr.nd (cC (aa (d_v 1) af)))
  (ai (GP 100 MP (LK (d_v 3))
  (ai (s_a 4 sr.nd (Cv 3 d_i))
  (aB (cV MP rfl (i_S (aY (d_v 0) (d_v 4))) (g_n 5 sr.nd)
  (aB (fJ (zA hr (aY (d_v 5) d_i) (d_v 2)) (ai (G1 2 hr (aY (d_v 5) d_i) (bF (G0 hr (d_v 2) (d_v 4)) (cC (aa (d_v 5) af))))
  (aB (qC 3 (aY (d_v 5) d_i)))) cD))))))
  (aB (s_r (d_v 2))))))
theorem K2 :
  aV P' w K mg base CX0 1 uP mh ["heads","way"] (spM Ad):=by
 refine T.KH.ok A9 (fun vs H Q E h=>jT h) (fun cdv A outer s H vs Q E hr h=>?_);exact ⟨_,(aB (cV MP rfl (i_S (d_v 1)) (g_t rfl (bP 2 A9.nd (bP 3 A9.nd kD)))
  (aB (fJ (uo hr (d_v 2) (d_v 0)) (aB (s_e (vQ 0 hr (d_v 2)))) (aB (pq 0 hr (d_v 2) (d_v 3))))))),zx (n:=2) (m:=2) rfl h⟩
theorem K3 :
  aV P' w K mg base CX0 2 uQ mj ["steps","heads","a","b","count"] (spD xQ):=
 okQ T.KI oB fun _ _ _ _ _ _ hr=>(ai (s_a 5 oB.nd (CJ rfl T.HJ (aa (d_v 1) af)))
  (ai (s_a 6 oB.nd (cC af))
  (ai (cV MP rfl (jK rfl T.bI (aa (d_v 4) af)) (g_n 7 oB.nd)
  (ai (GU 8 ["steps","heads","a","b","count","left","ways","time","way","moment"] ["step"] oB.nd (c_n 10 HY rfl rfl) (i_S (G0 hr (aM (Bc T) (Br.hm hr) rfl T.HK T.Du.kp T.AJ (aa (fQ (K1 T) (Br.hm hr) rfl T.LX T.KG.kp T.HL (aa (d_v 0) (aa (d_v 5) af))) (aa (d_v 2) af))) (d_v 3))) (fun _ _ _ _ _=>dZ) (fun _ _ _ _ _=>(aY (d_v 10) d_i)))
  (ai (cV MP rfl (i_S (d_v 8)) (g_n 9 oB.nd)
  (aB (s_e (vQ 5 hr (d_v 9)))))
  (aB (qC 6 (d_v 8))))))
  (aB (s_r (d_v 6))))))
theorem K4 :
  aV P' w K mg base CX0 1 uR mq ["thing"] (spD CT):=
 okQ T.KJ KS fun _ _ _ _ _ _ hr=>(aB (s_r (qB (Ey Cj (by rfl) rfl T.EN rfl T.iW (d_v 0)) (qA (JC (Ey zo (by rfl) rfl T.HH rfl T.iW (d_v 0)))))))
theorem Ff :
  aV P' w K mg base CX0 2 uS mw ["thing","low","high"] (spD Ae):=
 okQ T.HN KU fun _ _ _ _ _ _ hr=>(aB (s_r (qB (aM (K4 T) (Br.hm hr) rfl T.L1 T.KJ.kp T.HM (aa (d_v 0) af)) (qA (Cm Ef En Ef En (d_v 1) (d_v 0) (d_v 2))))))
theorem Fg :
  aV P' w K mg base CX0 3 uT mz ["n","thing"] (spD Af):=
 okQ T.HP KW fun _ _ _ _ _ _ hr=>(aB (s_r (aM (Ff T) (Br.hm hr) rfl T.Kg T.HN.kp T.Dv (aa (d_v 1) (aa d_i (aa (qx (d_v 0) d_i) af))))))
theorem K5 :
  aV P' w K mg base CX0 3 uU mC ["thing"] (spD CU):=
 okQ T.KL KY fun _ _ _ _ _ _ hr=>(aB (s_r (aM (Ff T) (Br.hm hr) rfl T.Kg T.HN.kp T.Dv (aa (d_v 0) (aa d_i (aa d_i af))))))
theorem K6 :
  aV P' w K mg base CX0 4 uV mD ["n","a","b"] (spD CV):=
 okQ T.KN KZ fun _ _ _ _ _ _ hr=>(aB (s_r (qB (aM (Fg T) (Br.hm hr) rfl T.Kh T.HP.kp T.Dw (aa (d_v 0) (aa (d_v 1) af))) (qB (aM (Fg T) (Br.hm hr) rfl T.Kh T.HP.kp T.Dw (aa (d_v 0) (aa (d_v 2) af))) (qA (Lw hr (d_v 1) (d_v 2)))))))
theorem K7 :
  aV P' w K mg base CX0 4 uW mE ["k"] (spD CW):=
 okQ T.KP K0 fun _ _ _ _ _ _ hr=>(aB (fJ (zm (vF (aM (K5 T) (Br.hm hr) rfl T.L3 T.KL.kp T.HQ (aa (d_v 0) af)))) (aB vG) cD))
theorem Ij :
  aV P' w K mg base CX0 5 lI gR ["n","a","b"] (spD vX):=
 okQ T.EX HZ fun _ _ _ _ _ _ hr=>(aB (fJ (zm (vF (aM (K6 T) (Br.hm hr) rfl T.L4 T.KN.kp T.HR (aa (d_v 0) (aa (d_v 1) (aa (d_v 2) af)))))) (aB vG) cD))
theorem Ik :
  aV P' w K mg base CX0 1 lJ gS ["n","ties"] (spD vY):=
 okQ T.EY mF fun _ _ _ _ _ _ hr=>(ai (s_a 2 mF.nd EB)
  (ai (cV MP rfl (i_S (d_v 1)) (g_t rfl (bP 3 mF.nd (bP 4 mF.nd (bP 5 mF.nd kD))))
  (aB (fJ (qz hr (d_v 4) (d_v 5)) (ai (pq 2 hr (eZ (aa (bF (d_v 0) (d_v 4)) (aa (d_v 5) af))) (d_v 3))
  (aB (pq 2 hr (eZ (aa (bF (d_v 0) (d_v 5)) (aa (d_v 4) af))) (d_v 3)))) cD)))
  (aB (s_r (d_v 2)))))
theorem Il :
  aV P' w K mg base CX0 1 lK gT ["n","moments"] (spD vZ):=
 okQ T.EZ pX fun _ _ _ _ _ _ hr=>(CM 2 ["n","moments","steps","through","step"] ["door"] pX.nd (c_n 5 Dy rfl rfl) (jK rfl T.bI (aa (gk d_i (d_v 0)) af)) (LQ 3 ["n","moments","steps","through","step"] ["place"] pX.nd (c_n 5 Dz rfl rfl) (jK rfl T.bI (aa (d_v 0) af)) (fun _ _ _ _ _=>dZ) (fun _ _ _ _ _=>(eZ (aa (d_v 5) (aa (bF (d_v 0) (d_v 5)) af))))) (zE MP rfl (i_S (bF (CF rfl rfl T.uX (aa (d_v 1) af)) (d_v 3))) (g_n 4 pX.nd)
  (qK (zF (aY (d_v 4) d_i) (eZ (aa (d_v 4) (aa (aY (d_v 4) d_i) af))))))
  (aB (s_r (d_v 2))))
theorem Bd :
  aV P' w K mg base CX0 1 lM gU ["steps","heads"] (spD nS):=
 okQ T.AK jr fun _ _ _ _ _ _ hr=>(G9 2 ["steps","heads","free","door","%4","step","onward"] ["row"] jr.nd (c_n 7 DB rfl rfl) (i_S (d_v 0)) (zE MP rfl (LF rfl T.sq (d_v 0)) (g_t rfl (bP 3 jr.nd (bP 4 jr.nd kD)))
  (qK (zE MP rfl (i_S (d_v 4)) (g_t rfl (bP 5 jr.nd (bP 6 jr.nd kD)))
  (qK (LM (uo hr (d_v 5) (d_v 1)) (qK (zF (d_v 6) (eZ (aa (d_v 5) (aa (d_v 3) af))))) (qK (zF (d_v 3) (eZ (aa (d_v 5) (aa (d_v 6) af))))))))))
  (aB (s_r (d_v 2))))
theorem Im :
  aV P' w K mg base CX0 1 lN gW ["n","way","reached"] (spD rm):=
 okQ T.E1 H_ fun _ _ _ _ _ _ hr=>(aB (s_r (aY (gm 1 ["n","way","reached"] ["step"] (c_n 3 DC rfl rfl) (d_v 1) (fun _ _ _ _ _=>bR (t_w (w_and (zg (aY (d_v 3) d_i) (d_v 0)) (fH (zA hr (aY (d_v 3) d_i) (d_v 2)))))) (fun _ _ _ _ _=>(aY (d_v 3) d_i))) d_i)))
theorem Io :
  aV P' w K mg base CX0 3 lO gX ["n","ties","a","b","most"] (spD rq):=
 okQ T.E2 dB fun _ _ _ _ _ _ hr=>(ai (s_a 5 dB.nd (aM (Ik T) (Br.hm hr) rfl T.Km T.EY.kp T.AL (aa (d_v 0) (aa (d_v 1) af))))
  (ai (s_a 6 dB.nd (fQ (Il T) (Br.hm hr) rfl T.Kn T.EZ.kp T.AM (aa (d_v 0) (aa (d_v 5) af))))
  (ai (s_a 7 dB.nd EB)
  (ai (s_a 8 dB.nd (aM (Bc T) (Br.hm hr) rfl T.HK T.Du.kp T.AJ (aa (fQ (Bd T) (Br.hm hr) rfl T.ER T.AK.kp T.wC (aa (d_v 6) (aa (d_v 7) af))) (aa (bF (d_v 0) (d_v 2)) af))))
  (ai (s_a 9 dB.nd d_i)
  (ai (GP 100 MP (t_w (w_and (zg (d_v 9) (d_v 4)) (fH (JL hr (d_v 3) (d_v 8)))))
  (ai (s_e (bG (K2 T) (Br.hm hr) rfl T.LY T.KH.kp T.HS (aa (d_v 7) (aa (G0 hr (d_v 8) (d_v 3)) af))))
  (ai (s_a 9 dB.nd (bF (d_v 9) d_i))
  (aB (s_a 8 dB.nd (aM (Bc T) (Br.hm hr) rfl T.HK T.Du.kp T.AJ (aa (fQ (Bd T) (Br.hm hr) rfl T.ER T.AK.kp T.wC (aa (d_v 6) (aa (d_v 7) af))) (aa (bF (d_v 0) (d_v 2)) af))))))))
  (ai (s_a 10 dB.nd (fQ (K3 T) (Br.hm hr) rfl T.LZ T.KI.kp T.HU (@aa _ _ _ _ _ (d_v 6) (@aa _ _ _ _ _ (d_v 7) (@aa _ _ _ _ _ (bF (d_v 0) (d_v 2)) (@aa _ _ _ _ _ (d_v 3) (@aa _ _ _ _ _ (d_v 9) af rfl) rfl) rfl) rfl) rfl)))
  (ai (nD 11 10 ["n","ties","a","b","most","moments","steps","heads","reached","count","ways","told"] ["way"] dB.nd (c_n 12 DF rfl rfl) (d_v 10) (fun _ _ _ _ _=>dZ) (fun _ _ _ _ _=>(gm 12 ["n","ties","a","b","most","moments","steps","heads","reached","count","ways","told","way"] ["step"] (c_n 13 DG rfl rfl) (d_v 12) (fun _ _ _ _ _=>bR (uo hr (d_v 13) (d_v 5))) (fun _ _ _ _ _=>(J2 hr (d_v 5) (d_v 13))))))
  (ai (fJ (mT hr (d_v 9) (d_v 4)) (aB (s_r (eZ (aa (d_v 11) (aa d_n af))))) cD)
  (aB (s_r (eZ (aa (d_v 11) (aa (Cg rfl T.Dt (aa (vR rfl T.iX (aa (gm 10 ["n","ties","a","b","most","moments","steps","heads","reached","count","ways","told"] ["way"] (c_n 12 DH rfl rfl) (d_v 10) (fun _ _ _ _ _=>dZ) (fun _ _ _ _ _=>(zI (Im T) (Br.hm hr) rfl T.Ko T.E1.kp T.AO (aa (d_v 0) (aa (d_v 12) (aa (d_v 8) af)))))) af)) af)) af))))))))))))))
theorem Be :
  aV P' w K mg base CX0 6 lP gY ["n","record","a","b","most"] (spD rA):=
 okQ T.AS mG fun _ _ _ _ _ _ hr=>(ai (s_e (aM (Ij T) (Br.hm hr) rfl T.Kl T.EX.kp T.AQ (aa (d_v 0) (aa (d_v 2) (aa (d_v 3) af)))))
  (ai (s_a 5 mG.nd (gm 1 ["n","record","a","b","most","straight","others","ways","around"] ["tie"] (c_n 9 DJ rfl rfl) (d_v 1) (fun _ _ _ _ _=>bR (t_w (w_and (Cf hr (d_v 2) (zB (d_v 9) (o_s d_i) o_n)) (fH (Cf hr (d_v 3) (zB (d_v 9) (o_s d_i) o_n)))))) (fun _ _ _ _ _=>(d_v 9))))
  (ai (nD 6 1 ["n","record","a","b","most","straight","others","ways","around"] ["tie"] mG.nd (c_n 9 DK rfl rfl) (d_v 1) (fun _ _ _ _ _=>bR (nB hr (d_v 9) (d_v 5))) (fun _ _ _ _ _=>(d_v 9)))
  (ai (GU 7 ["n","record","a","b","most","straight","others","ways","around"] ["tie"] mG.nd (c_n 9 DL rfl rfl) (i_S (LC (d_v 5) o_n (o_s (d_v 4)))) (fun _ _ _ _ _=>dZ) (fun _ _ _ _ _=>(cC (aa (aY (d_v 9) d_i) af))))
  (ai (s_a 8 mG.nd (aM (Io T) (Br.hm hr) rfl T.Kp T.E2.kp T.AR (@aa _ _ _ _ _ (d_v 0) (@aa _ _ _ _ _ (d_v 6) (@aa _ _ _ _ _ (d_v 2) (@aa _ _ _ _ _ (d_v 3) (@aa _ _ _ _ _ (qx (d_v 4) (dJ rfl T.cZ (aa (d_v 7) af))) af rfl) rfl) rfl) rfl) rfl)))
  (ai (JQ 7 (aY (d_v 8) d_i))
  (aB (s_r (eZ (aa (dJ rfl T.cZ (aa (d_v 7) af)) (aa (d_v 7) (aa (aY (d_v 8) d_i) af))))))))))))
theorem Ip :
  aV P' w K mg base CX0 7 aT gZ ["n","ties","a","b","times"] (spD v5):=
 okQ T.E3 Ia fun _ _ _ _ _ _ hr=>(aB (s_r (JO (aY (aM (Be T) (Br.hm hr) rfl T.ES T.AS.kp T.wD (@aa _ _ _ _ _ (d_v 0) (@aa _ _ _ _ _ (d_v 1) (@aa _ _ _ _ _ (d_v 2) (@aa _ _ _ _ _ (d_v 3) (@aa _ _ _ _ _ (d_v 4) af rfl) rfl) rfl) rfl) rfl)) d_i) d_n)))
theorem Iq :
  aV P' w K mg base CX0 1 lQ g7 ["ties","tie"] (spD nT):=
 okQ T.E4 Ib fun _ _ _ _ _ _ hr=>(aB (s_r (gm 0 ["ties","tie"] ["other"] (c_n 2 DM rfl rfl) (d_v 0) (fun _ _ _ _ _=>bR (qz hr (d_v 2) (d_v 1))) (fun _ _ _ _ _=>(d_v 2)))))
theorem Ir :
  aV P' w K mg base CX0 8 lR g8 ["n","record","k","often"] (spD (jz aT aU)):=
 okQ T.E5 mH fun _ _ _ _ _ _ hr=>(ai (s_a 4 mH.nd (zl rfl T.uX (aa (d_v 1) af)))
  (ai (cV MP rfl (i_S (d_v 1)) (g_n 5 mH.nd)
  (ai (s_a 6 mH.nd (aM (Iq T) (Br.hm hr) rfl T.Kr T.E4.kp T.AV (aa (d_v 4) (aa (d_v 5) af))))
  (aB (fJ (t_w (w_or (mT hr (aY (d_v 5) d_i) (aY (d_v 5) d_i)) (Ex (vF (vO 3 (Ip T) (Br.hm hr) T.E3.kp T.AU (@aa _ _ _ _ _ (d_v 0) (@aa _ _ _ _ _ (d_v 6) (@aa _ _ _ _ _ (aY (d_v 5) d_i) (@aa _ _ _ _ _ (aY (d_v 5) d_i) (@aa _ _ _ _ _ (d_v 2) af rfl) rfl) rfl) rfl) rfl)))))) (aB (s_a 4 mH.nd (d_v 6))) cD))))
  (aB (s_r (d_v 4)))))
theorem Iu :
  aV P' w K mg base CX0 1 lS g9 ["k"] (spD nU):=
 okQ T.E6 Ic fun _ _ _ _ _ _ hr=>(aB (s_r (Cn ["k"] ["time"] (c_n 1 DO rfl rfl) (jK rfl T.bI (aa (d_v 0) af)) (fun _ _ _ _ _=>dZ) (fun _ _ _ _ _=>(cC af)))))
theorem Iv :
  aV P' w K mg base CX0 7 aU g_ ["n","kept","a","b","k"] (spD rB):=
 okQ T.E7 Ie fun _ _ _ _ _ _ hr=>(aB (s_r (aY (aM (Be T) (Br.hm hr) rfl T.ES T.AS.kp T.wD (@aa _ _ _ _ _ (d_v 0) (@aa _ _ _ _ _ (d_v 1) (@aa _ _ _ _ _ (d_v 2) (@aa _ _ _ _ _ (d_v 3) (@aa _ _ _ _ _ (d_v 4) af rfl) rfl) rfl) rfl) rfl)) d_i)))
theorem Iw :
  aV P' w K mg base CX0 8 lT h_ ["n","record","kept","k","ways_of"] (spD (rC aT aU)):=
 okQ T.E8 A_ fun _ _ _ _ _ _ hr=>(ai (nD 5 1 ["n","record","kept","k","ways_of","gone"] ["tie"] A_.nd (c_n 6 DP rfl rfl) (d_v 1) (fun _ _ _ _ _=>bR (nB hr (d_v 6) (d_v 2))) (fun _ _ _ _ _=>(d_v 6)))
  (aB (s_r (gm 5 ["n","record","kept","k","ways_of","gone"] ["tie"] (c_n 6 DQ rfl rfl) (d_v 5) (fun _ _ _ _ _=>dZ) (fun _ _ _ _ _=>(Ly (mT hr (aY (d_v 6) d_i) (aY (d_v 6) d_i)) (aM (Iu T) (Br.hm hr) rfl T.Ku T.E6.kp T.AW (aa (d_v 3) af)) (vO 4 (Iv T) (Br.hm hr) T.E7.kp T.AX (@aa _ _ _ _ _ (d_v 0) (@aa _ _ _ _ _ (d_v 2) (@aa _ _ _ _ _ (aY (d_v 6) d_i) (@aa _ _ _ _ _ (aY (d_v 6) d_i) (@aa _ _ _ _ _ (d_v 3) af rfl) rfl) rfl) rfl) rfl))))))))
theorem Bf :
  aV P' w K mg base CX0 9 lU ia ["n","record","k"] (spD (jA aT aU)):=
 okQ T.A0 Ba fun _ _ _ _ _ _ hr=>(ai (s_e (aM (K7 T) (Br.hm hr) rfl T.L5 T.KP.kp T.HV (aa (d_v 2) af)))
  (ai (s_a 3 Ba.nd (aM (Ir T) (Br.hm hr) rfl T.Ks T.E5.kp T.AY (aa (d_v 0) (aa (d_v 1) (aa (d_v 2) (aa (JZ rfl T.Kq) af))))))
  (aB (s_r (eZ (aa (gm 3 ["n","record","k","kept"] ["tie"] (c_n 4 DR rfl rfl) (d_v 3) (fun _ _ _ _ _=>dZ) (fun _ _ _ _ _=>(aY (d_v 4) d_i))) (aa (aM (Iw T) (Br.hm hr) rfl T.Kw T.E8.kp T.AZ (@aa _ _ _ _ _ (d_v 0) (@aa _ _ _ _ _ (d_v 1) (@aa _ _ _ _ _ (d_v 3) (@aa _ _ _ _ _ (d_v 2) (@aa _ _ _ _ _ (JZ rfl T.Kv) af rfl) rfl) rfl) rfl) rfl)) af)))))))
theorem Iz :
  aV P' w K mg base CX0 1 lV ic ["script","k"] (spD rE):=
 okQ T.E9 Ig fun _ _ _ _ _ _ hr=>(ai (fJ (zg (d_v 1) (dJ rfl T.cZ (aa (d_v 0) af))) (aB (s_r (aY (d_v 0) (d_v 1)))) cD)
  (aB (s_r d_i)))
theorem Bg :
  aV P' w K mg base CX0 2 lW ie ["script","at"] (spD nV):=
 okQ T.A2 f6 fun _ _ _ _ _ _ hr=>(ai (s_a 2 f6.nd (aM (Iz T) (Br.hm hr) rfl T.Ky T.E9.kp T.A1 (aa (d_v 0) (aa (d_v 1) af))))
  (ai (fJ (JB (d_v 2) (Eu d_i d_i)) (aB (s_r (cC (aa (d_v 2) af)))) cD)
  (ai (s_a 3 f6.nd d_i)
  (ai (cV MP rfl (jK rfl T.bI (aa d_i af)) (g_n 4 f6.nd)
  (ai (s_a 5 f6.nd (kB (gk (bF (bF (bF (kB (d_v 2) d_i) (gk (gk d_i (d_v 4)) (d_v 4))) (gk d_i (d_v 1))) d_i) d_i) d_i))
  (ai (s_a 5 f6.nd (kB (gk (d_v 5) (d_v 5)) d_i))
  (ai (s_a 5 f6.nd (kB (gk (bF (d_v 5) (gk d_i (d_v 4))) d_i) d_i))
  (aB (s_a 3 f6.nd (bF (gk (d_v 3) d_i) (kB (Et (d_v 5) d_i) d_i))))))))
  (aB (s_r (cC (aa (d_v 3) af))))))))
theorem cT :
  aV P' w K mg base CX0 1 lX ig ["pool","many"] (spM cj):=by
 refine T.e_.ok Bb (fun vs H Q E h=>jT h) (fun cdv A outer s H vs Q E hr h=>?_);exact ⟨_,(ai (s_a 2 Bb.nd (kB (aY (d_v 0) d_i) (d_v 1)))
  (ai (JD 0 d_i (Et (aY (d_v 0) d_i) (d_v 1)))
  (aB (s_r (d_v 2))))),zx (n:=2) (m:=1) rfl h⟩
theorem IA :
  aV P' w K mg base CX0 2 lY ir ["pool","n","most"] (spM nW):=by
 refine T.E_.ok cy (fun vs H Q E h=>jT h) (fun cdv A outer s H vs Q E hr h=>?_);exact ⟨_,(ai (s_a 3 cy.nd (bG (cT T) (Br.hm hr) rfl T.fZ T.e_.kp T.dW (aa (d_v 0) (aa (bF (d_v 2) d_i) af))))
  (ai (s_a 4 cy.nd (bG (cT T) (Br.hm hr) rfl T.fZ T.e_.kp T.dW (aa (d_v 0) (aa d_i af))))
  (ai (s_a 5 cy.nd (bG (cT T) (Br.hm hr) rfl T.fZ T.e_.kp T.dW (aa (d_v 0) (aa d_i af))))
  (ai (s_a 6 cy.nd (cC af))
  (ai (cV MP rfl (jK rfl T.bI (aa (d_v 3) af)) (g_n 7 cy.nd)
  (ai (s_a 8 cy.nd (bG (cT T) (Br.hm hr) rfl T.fZ T.e_.kp T.dW (aa (d_v 0) (aa (d_v 1) af))))
  (ai (s_a 9 cy.nd (bG (cT T) (Br.hm hr) rfl T.fZ T.e_.kp T.dW (aa (d_v 0) (aa (d_v 1) af))))
  (ai (fJ (t_w (w_and (JA (d_v 4) d_i) (fH (mT hr (d_v 8) (d_v 9))))) (aB (s_a 9 cy.nd (kB (bF (d_v 8) d_i) (d_v 1)))) cD)
  (ai (fJ (t_w (w_and (JA (d_v 7) d_i) (fH (mT hr (bG (cT T) (Br.hm hr) rfl T.fZ T.e_.kp T.dW (aa (d_v 0) (aa d_i af))) d_i)))) (ai (s_a 8 cy.nd (aY (aY (d_v 6) (qx (d_v 7) d_i)) d_i))
  (aB (s_a 9 cy.nd (aY (aY (d_v 6) (qx (d_v 7) d_i)) d_i)))) cD)
  (ai (qC 6 (eZ (aa (d_v 5) (aa (zj rfl rfl T.AI (aa (d_v 8) (aa (d_v 9) af))) (aa (zk rfl rfl T.EO (aa (d_v 8) (aa (d_v 9) af))) af)))))
  (aB (s_a 5 cy.nd (bF (bF (d_v 5) d_i) (gk (bG (cT T) (Br.hm hr) rfl T.fZ T.e_.kp T.dW (aa (d_v 0) (aa (aY (cC (aa d_i (aa d_i (aa d_i af)))) (d_v 4)) af))) (aY (cC (aa d_i (aa d_i (aa (Eu d_i d_i) af)))) (d_v 4))))))))))))
  (aB (s_r (d_v 6)))))))),zx (n:=3) (m:=7) rfl h⟩
theorem Bh :
  aV P' w K mg base CX0 1 lZ iu ["ties","a","gone"] (spD nX):=
 okQ T.A3 f7 fun _ _ _ _ _ _ hr=>(ai (s_a 3 f7.nd (cC (aa (d_v 1) af)))
  (ai (s_a 4 f7.nd d_i)
  (ai (GP 100 MP (zg (d_v 4) (dJ rfl T.cZ (aa (d_v 3) af)))
  (ai (cV MP rfl (i_S (d_v 0)) (g_t rfl (bP 5 f7.nd (bP 6 f7.nd (bP 7 f7.nd kD))))
  (ai (s_a 8 f7.nd (qx (bF (d_v 6) (d_v 7)) (aY (d_v 3) (d_v 4))))
  (aB (fJ (t_w (w_and (Cf hr (aY (d_v 3) (d_v 4)) (eZ (aa (d_v 6) (aa (d_v 7) af)))) (w_and (nB hr (d_v 8) (d_v 3)) (fH (nB hr (d_v 8) (d_v 2)))))) (aB (qC 3 (d_v 8))) cD))))
  (aB (s_a 4 f7.nd (bF (d_v 4) d_i)))))
  (aB (s_r (d_v 3))))))
theorem IB :
  aV P' w K mg base CX0 2 l0 iw ["ties","a","b","gone"] (spD v7):=
 okQ T.Fb Ih fun _ _ _ _ _ _ hr=>(aB (s_r (Gr hr (d_v 2) (aM (Bh T) (Br.hm hr) rfl T.EV T.A3.kp T.wF (aa (d_v 0) (aa (d_v 1) (aa (d_v 3) af)))))))
theorem IC :
  aV P' w K mg base CX0 1 l5 iy ["n","a","b"] (spD v8):=
 okQ T.Fc pY fun _ _ _ _ _ _ hr=>(ai (s_a 3 pY.nd (Cn ["n","a","b","rest","found","bits"] ["place"] (c_n 6 DU rfl rfl) (jK rfl T.bI (aa (d_v 0) af)) (fun _ _ _ _ _=>bR (t_w (w_and (qz hr (d_v 6) (d_v 1)) (fH (qz hr (d_v 6) (d_v 2)))))) (fun _ _ _ _ _=>(d_v 6))))
  (ai (s_a 4 pY.nd (cC af))
  (ai (cV MP rfl (jK rfl T.bI (aa (Ez d_i (dJ rfl T.cZ (aa (d_v 3) af))) af)) (g_n 5 pY.nd)
  (aB (qC 4 (Cn ["n","a","b","rest","found","bits"] ["k"] (c_n 6 DV rfl rfl) (jK rfl T.bI (aa (dJ rfl T.cZ (aa (d_v 3) af)) af)) (fun _ _ _ _ _=>bR (mT hr (zf (Ew (d_v 5) (d_v 6)) d_i) d_i)) (fun _ _ _ _ _=>(aY (d_v 3) (d_v 6)))))))
  (aB (s_r (xO rfl T.iX rfl T.cZ (aa (d_v 4) af)))))))
theorem ID :
  aV P' w K mg base CX0 3 l6 iz ["n","ties","a","b"] (spD rF):=
 okQ T.Fe pZ fun _ _ _ _ _ _ hr=>(ai (s_a 4 pZ.nd (gm 1 ["n","ties","a","b","direct","rest","gone"] ["tie"] (c_n 7 DX rfl rfl) (d_v 1) (fun _ _ _ _ _=>bR (mT hr (xN rfl T.iX (aa (zB (d_v 7) (o_s d_i) o_n) af)) (vR rfl T.iX (aa (cC (aa (d_v 2) (aa (d_v 3) af))) af)))) (fun _ _ _ _ _=>(d_v 7))))
  (ai (nD 5 1 ["n","ties","a","b","direct","rest","gone"] ["tie"] pZ.nd (c_n 7 DY rfl rfl) (d_v 1) (fun _ _ _ _ _=>bR (nB hr (d_v 7) (d_v 4))) (fun _ _ _ _ _=>(d_v 7)))
  (ai (cV MP rfl (i_S (aM (IC T) (Br.hm hr) rfl T.KC T.Fc.kp T.A5 (aa (d_v 0) (aa (d_v 2) (aa (d_v 3) af))))) (g_n 6 pZ.nd)
  (aB (fJ (zm (vF (aM (IB T) (Br.hm hr) rfl T.KA T.Fb.kp T.A4 (aa (d_v 5) (aa (d_v 2) (aa (d_v 3) (aa (d_v 6) af))))))) (aB (s_r (bF (dJ rfl T.cZ (aa (d_v 4) af)) (dJ rfl T.cZ (aa (d_v 6) af))))) cD)))
  (aB (s_r (dJ rfl T.cZ (aa (d_v 4) af)))))))
theorem Bj :
  aV P' w K mg base CX0 2 l7 iA ["n","ties","gone"] (spD kX):=
 okQ T.A6 Ii fun _ _ _ _ _ _ hr=>(aB (s_r (Cn ["n","ties","gone"] ["place"] (c_n 3 DZ rfl rfl) (jK rfl T.bI (aa (d_v 0) af)) (fun _ _ _ _ _=>bR (nB hr (d_v 3) (d_v 2))) (fun _ _ _ _ _=>(Hg rfl rfl T.AI (aa (aM (Bh T) (Br.hm hr) rfl T.EV T.A3.kp T.wF (aa (d_v 1) (aa (d_v 3) (aa (d_v 2) af)))) af))))))
theorem IE :
  aV P' w K mg base CX0 10 l8 jq ["script"] (spD (kZ aT aU)):=
 okQ T.KQ b8 fun _ _ _ _ _ _ hr=>(ai (s_a 1 b8.nd (aM (Bg T) (Br.hm hr) rfl T.EU T.A2.kp T.wH (aa (d_v 0) (aa d_i af))))
  (ai (s_a 2 b8.nd (bF d_i (bG (cT T) (Br.hm hr) rfl T.fZ T.e_.kp T.dW (aa (d_v 1) (aa d_i af)))))
  (ai (cV MP rfl (LA rfl T.bI (aa d_i (aa (zk rfl rfl T.EO (aa d_i (aa (zj rfl rfl T.AI (aa d_i (aa (dJ rfl T.cZ (aa (d_v 0) af)) af))) af))) af))) (g_n 3 b8.nd)
  (ai (s_a 1 b8.nd (aM (Bg T) (Br.hm hr) rfl T.EU T.A2.kp T.wH (aa (d_v 0) (aa (d_v 3) af))))
  (ai (s_a 4 b8.nd (bF d_i (bG (cT T) (Br.hm hr) rfl T.fZ T.e_.kp T.dW (aa (d_v 1) (aa (aY (cC (aa d_i (aa d_i af))) (bG (cT T) (Br.hm hr) rfl T.fZ T.e_.kp T.dW (aa (d_v 1) (aa d_i af)))) af)))))
  (ai (s_a 5 b8.nd (bG (IA T) (Br.hm hr) rfl T.Kz T.E_.kp T.A7 (aa (d_v 1) (aa (d_v 2) (aa (aY (cC (aa d_i (aa d_i af))) (JG rfl T.EN (aa (qB (Jz hr (bG (cT T) (Br.hm hr) rfl T.fZ T.e_.kp T.dW (aa (d_v 1) (aa d_i af))) d_i) (qA (Lz (Lx (d_v 2) d_i) (qA (Jz hr (d_v 3) d_i))))) af))) af)))))
  (ai (s_a 6 b8.nd (aY (aM (Bf T) (Br.hm hr) rfl T.ET T.A0.kp T.wG (aa (d_v 2) (aa (zl rfl T.uX (aa (d_v 5) af)) (aa (d_v 4) af)))) d_i))
  (ai (nD 7 5 ["script","pool","n","at","k","record","moments","kept","bits","gone","%10","others"] ["tie"] b8.nd (c_n 12 D0 rfl rfl) (d_v 5) (fun _ _ _ _ _=>bR (Cf hr (aY (d_v 12) d_i) (d_v 6))) (fun _ _ _ _ _=>(d_v 12)))
  (ai (fJ (qz hr (dJ rfl T.cZ (aa (d_v 7) af)) (dJ rfl T.cZ (aa (d_v 6) af))) (aB (s_r d_b)) cD)
  (ai (cV MP rfl (jK rfl T.bI (aa (Ez d_i (d_v 2)) af)) (g_n 8 b8.nd)
  (ai (GU 9 ["script","pool","n","at","k","record","moments","kept","bits","gone","tie","others"] ["place"] b8.nd (c_n 12 D3 rfl rfl) (jK rfl T.bI (aa (d_v 2) af)) (fun _ _ _ _ _=>bR (mT hr (zf (Ew (d_v 8) (d_v 12)) d_i) d_i)) (fun _ _ _ _ _=>(d_v 12)))
  (aB (fJ (t_w (w_and (zg (dJ rfl T.cZ (aa (d_v 9) af)) (d_v 4)) (fH (qz hr (aM (Bj T) (Br.hm hr) rfl T.EW T.A6.kp T.wI (aa (d_v 2) (aa (d_v 7) (aa (d_v 9) af)))) (aM (Bj T) (Br.hm hr) rfl T.EW T.A6.kp T.wI (aa (d_v 2) (aa (d_v 5) (aa (d_v 9) af)))))))) (aB (s_r d_b)) cD))))
  (ai (cV MP rfl (i_S (d_v 7)) (g_n 10 b8.nd)
  (ai (nD 11 7 ["script","pool","n","at","k","record","moments","kept","bits","gone","tie","others"] ["one"] b8.nd (c_n 12 D4 rfl rfl) (d_v 7) (fun _ _ _ _ _=>bR (qz hr (d_v 12) (d_v 10))) (fun _ _ _ _ _=>(d_v 12)))
  (aB (fJ (t_w (w_or (mT hr (aY (d_v 10) d_i) (aY (d_v 10) d_i)) (Ex (JB (aM (ID T) (Br.hm hr) rfl T.KD T.Fe.kp T.A8 (aa (d_v 2) (aa (d_v 11) (aa (aY (d_v 10) d_i) (aa (aY (d_v 10) d_i) af))))) (d_v 4))))) (aB (s_r d_b)) cD))))
  (aB (fJ (qz hr (aY (aM (Bf T) (Br.hm hr) rfl T.ET T.A0.kp T.wG (aa (d_v 2) (aa (d_v 7) (aa (d_v 4) af)))) d_i) (d_v 6)) (aB (s_r d_b)) cD)))))))))))
  (aB (s_r d_b)))))
end
theorem all_mk{l:O6}{w:World}{K:Dp}{h:Heap}{mg:Str->Option Value}{fa uN uO uP uQ uR uS uT uU uV uW lI lJ lK lM lN lO lP aT lQ lR lS aU lT lU lV lW lX lY lZ l0 l5 l6 l7 l8:Addr}{l9 l_ mh mj mq mw mz mC mD mE gR gS gT gU gW gX gY gZ g7 g8 g9 g_ h_ ia ic ie ig ir iu iw iy iz iA jq:FuncData}(X:K.In h)(G:h.Ns mainGlobals mg)(hfa:mg "law" = some (.ref fa))
  (Bk:bw K "led_steps" (top 1) uN l9)
  (Bl:bw K "shortest_ways" (top 2) uO l_)
  (Bm:bw K "lead_along" (top 3) uP mh)
  (Bo:bw K "parted" (top 4) uQ mj)
  (Bp:bw K "is_whole" (top 10) uR mq)
  (Bq:bw K "is_within" (top 11) uS mw)
  (Bs:bw K "is_place" (top 12) uT mz)
  (Bt:bw K "is_layers" (top 13) uU mC)
  (Bu:bw K "is_pair" (top 14) uV mD)
  (Bv:bw K "look_at_layers" (top 15) uW mE)
  (su:bw K "look_at_pair" (top 16) lI gR)
  (sy:bw K "moments_of_steps" (top 21) lJ gS)
  (sC:bw K "steps_through_doors" (top 22) lK gT)
  (sD:bw K "free_doors" (top 23) lM gU)
  (sF:bw K "first_shut" (top 24) lN gW)
  (sG:bw K "ways_around" (top 20) lO gX)
  (sH:bw K "place_hang" (top 18) lP gY)
  (sI:bw K "hang_often_by_places" (top 19) aT gZ)
  (sJ:bw K "without" (top 27) lQ g7)
  (sL:bw K "kept_ties" (top 26) lR g8)
  (sM:bw K "no_ways" (top 29) lS g9)
  (sN:bw K "place_ways" (top 32) aU g_)
  (sO:bw K "ways_out" (top 28) lT h_)
  (sP:bw K "place_pared" (top 31) lU ia)
  (sQ:bw K "_law_cell_at" (top 34) lV ic)
  (sS:bw K "_law_pool" (top 35) lW ie)
  (sU:bw K "_law_take" (top 36) lX ig)
  (sV:bw K "_law_record" (top 37) lY ir)
  (sW:bw K "_law_reached" (top 38) lZ iu)
  (sX:bw K "_law_joined_without" (top 39) l0 iw)
  (sY:bw K "_law_sets" (top 40) l5 iy)
  (sZ:bw K "_law_by_places" (top 41) l6 iz)
  (s_:bw K "_law_parts" (top 42) l7 iA)
  (oE:bw K "law" (top 43) l8 jq)
  (uY:Nd K mainGlobals "bool" = some none)
  (uZ:Nd K mainGlobals "dict" = some none)
  (f9:Nd K mainGlobals "enumerate" = some none)
  (Bw:Nd K mainGlobals "int" = some none)
  (eW:Nd K mainGlobals "isinstance" = some none)
  (Bx:Nd K mainGlobals "len" = some none)
  (u5:Nd K mainGlobals "list" = some none)
  (By:Nd K mainGlobals "max" = some none)
  (BA:Nd K mainGlobals "min" = some none)
  (p5:Nd K mainGlobals "range" = some none)
  (mJ:Nd K mainGlobals "sorted" = some none)
  (p6:Nd K mainGlobals "tuple" = some none) :
  ∃fd:FuncData,(∀(s:Shared) (v:Value),BindsTo s fd ⟨[v],[]⟩ [("script",v)])/\∀base:Heap,K.In base->base.Ns mainGlobals mg->aV l.prog w K mg base CX0 10 fa fd ["script"] (spD (kZ aT aU)):=by
 have e:=hfa.symm.trans (oE.m X G);cases e;have HL:=Bk.F.cO (ps:=["steps","heads"]) rfl fun _ _ _ _ _ _ _ _=>rfl;have AJ:=Bl.F.cO (ps:=["steps","a"]) rfl fun _ _ _ _ _ _ _ _=>rfl;have HS:=Bm.F.cO (ps:=["heads","way"]) rfl fun _ _ _ _ _ _ _ _=>rfl;have HU:=Bo.F.jd (ps:=["steps","heads","a","b","count"]) rfl fun _ _ _ _ _ _ _ _ _ _ _=>rfl;have HM:=Bp.F.o9 (ps:=["thing"]) rfl fun _ _ _ _ _ _ _=>rfl;have Dv:=Bq.F.d9 (ps:=["thing","low","high"]) rfl fun _ _ _ _ _ _ _ _ _=>rfl;have Dw:=Bs.F.cO (ps:=["n","thing"]) rfl fun _ _ _ _ _ _ _ _=>rfl;have HQ:=Bt.F.o9 (ps:=["thing"]) rfl fun _ _ _ _ _ _ _=>rfl;have HR:=Bu.F.d9 (ps:=["n","a","b"]) rfl fun _ _ _ _ _ _ _ _ _=>rfl;have HV:=Bv.F.o9 (ps:=["k"]) rfl fun _ _ _ _ _ _ _=>rfl;have AQ:=su.F.d9 (ps:=["n","a","b"]) rfl fun _ _ _ _ _ _ _ _ _=>rfl;have AL:=sy.F.cO (ps:=["n","ties"]) rfl fun _ _ _ _ _ _ _ _=>rfl;have AM:=sC.F.cO (ps:=["n","moments"]) rfl fun _ _ _ _ _ _ _ _=>rfl;have wC:=sD.F.cO (ps:=["steps","heads"]) rfl fun _ _ _ _ _ _ _ _=>rfl;have AO:=sF.F.d9 (ps:=["n","way","reached"]) rfl fun _ _ _ _ _ _ _ _ _=>rfl;have AR:=sG.F.jd (ps:=["n","ties","a","b","most"]) rfl fun _ _ _ _ _ _ _ _ _ _ _=>rfl;have wD:=sH.F.jd (ps:=["n","record","a","b","most"]) rfl fun _ _ _ _ _ _ _ _ _ _ _=>rfl;have AU:=sI.F.jd (ps:=["n","ties","a","b","times"]) rfl fun _ _ _ _ _ _ _ _ _ _ _=>rfl;have AV:=sJ.F.cO (ps:=["ties","tie"]) rfl fun _ _ _ _ _ _ _ _=>rfl;have AY:=sL.F.ua (ps:=["n","record","k","often"]) rfl fun _ _ _ _ _ _ _ _ _ _=>rfl;have AW:=sM.F.o9 (ps:=["k"]) rfl fun _ _ _ _ _ _ _=>rfl;have AX:=sN.F.jd (ps:=["n","kept","a","b","k"]) rfl fun _ _ _ _ _ _ _ _ _ _ _=>rfl;have AZ:=sO.F.jd (ps:=["n","record","kept","k","ways_of"]) rfl fun _ _ _ _ _ _ _ _ _ _ _=>rfl;have wG:=sP.F.d9 (ps:=["n","record","k"]) rfl fun _ _ _ _ _ _ _ _ _=>rfl;have A1:=sQ.F.cO (ps:=["script","k"]) rfl fun _ _ _ _ _ _ _ _=>rfl;have wH:=sS.F.cO (ps:=["script","at"]) rfl fun _ _ _ _ _ _ _ _=>rfl;have dW:=sU.F.cO (ps:=["pool","many"]) rfl fun _ _ _ _ _ _ _ _=>rfl;have A7:=sV.F.d9 (ps:=["pool","n","most"]) rfl fun _ _ _ _ _ _ _ _ _=>rfl;have wF:=sW.F.d9 (ps:=["ties","a","gone"]) rfl fun _ _ _ _ _ _ _ _ _=>rfl;have A4:=sX.F.ua (ps:=["ties","a","b","gone"]) rfl fun _ _ _ _ _ _ _ _ _ _=>rfl;have A5:=sY.F.d9 (ps:=["n","a","b"]) rfl fun _ _ _ _ _ _ _ _ _=>rfl;have A8:=sZ.F.ua (ps:=["n","ties","a","b"]) rfl fun _ _ _ _ _ _ _ _ _ _=>rfl;have wI:=s_.F.d9 (ps:=["n","ties","gone"]) rfl fun _ _ _ _ _ _ _ _ _=>rfl;refine⟨_,fun s v=>oE.LP (fun _ _ _ _ _ _ _=>rfl) s v,fun base Xb _=>?_⟩;have T:Txt mg K base ..:=⟨mno X G uY,mno X G uZ,mno X G f9,mno X G Bw,mno X G eW,mno X G Bx,mno X G u5,mno X G By,mno X G BA,mno X G p5,mno X G mJ,mno X G p6,Bk.m X G,Bl.m X G,Bm.m X G,Bo.m X G,Bp.m X G,Bq.m X G,Bs.m X G,Bt.m X G,Bu.m X G,Bv.m X G,su.m X G,sy.m X G,sC.m X G,sD.m X G,sF.m X G,sG.m X G,sH.m X G,sI.m X G,sJ.m X G,sL.m X G,sM.m X G,sN.m X G,sO.m X G,sP.m X G,sQ.m X G,sS.m X G,sU.m X G,sV.m X G,sW.m X G,sX.m X G,sY.m X G,sZ.m X G,s_.m X G,oE.m X G,Bk.F,Bl.F,Bm.F,HL,AJ,Bo.F,Bp.F,HM,Bq.F,Dv,Bs.F,Bt.F,Dw,Bu.F,HQ,Bv.F,HR,su.F,sy.F,sC.F,sD.F,sF.F,HS,HU,AL,AM,wC,AO,sG.F,AQ,AR,sH.F,wD,sI.F,sJ.F,AU,AV,sL.F,sM.F,sN.F,AW,AX,sO.F,HV,AY,AZ,sP.F,sQ.F,A1,sS.F,sU.F,dW,sV.F,sW.F,wF,sX.F,sY.F,A4,A5,sZ.F,s_.F,wG,wH,A7,A8,wI,oE.F⟩
 exact IE T
theorem walk{aT aU:Nat}{l:O6}{q:Program}{loose:List Str}{XP:(Str->Option Value)->Heap->Prop}{YP:World->Heap->Prop}{d:DefRec}{K:Params->Dp}(hn:l.most=some 63)(hdf:d.params.defaults=[])
  (hY:∀(w:World) (h:Heap),YP w h->(K w.params).In h) (M:∀ns:List Int,ns.length<=63->kZ aT aU [.lst (ns.map Dat.int)]=some (.val (.bl true))) (hK:∀w:World,zu (K w.params)=true)
  (F:∀ (w:World) (mg:Str→Option Value) (fa:Addr) (h:Heap),(K w.params).In h→h.Ns mainGlobals mg→mg d.name=some (.ref fa) →
   ∃fd:FuncData,(∀(s:Shared) (u:Value),BindsTo s fd ⟨[u],[]⟩ [("script",u)])/\∀base:Heap,(K w.params).In base->base.Ns mainGlobals mg->aV l.prog w (K w.params) mg base CX0 10 fa fd ["script"] (spD (kZ aT aU))) :
  PySem.W.WalkO q loose XP YP l.row.toRowW d [] (fun f vs=>PySem.call f vs):=
 L2.BU (n:=63) (k:=10) (x := "script") (CX:=fun _=>CX0) (sp:=fun _=>spD (kZ aT aU)) hn (by decide) hdf ⟨rfl,by decide,by decide,rfl⟩ hY F
  (fun w H a ns hl hO hS=>GV (M ns hl) (hK w) hS) fun _ _ _ _ _ z=>z
open PySem PySem.W PySem.W.X
theorem BB{q:Program}{loose:List Str}{XP:(Str->Option Value)->Heap->Prop}{r:RowW}{d:DefRec}{kwd:List (Str×Expr)}{run:Value->List Value->Sem Value}{K:Params->Frag}{as:List Addr}{n t:Nat}(e:∀P,as=(K P).map (·.1))
  (W:WalkO q loose XP (fun w h=>(K w.params).In h) r d kwd run):WalkX q loose XP (obsZ as) (valZ K n t) r d kwd run:=
 fun w s₀ s₁ mg mb G y a o pm cd doc dV kV ho hd Fp hD hmg hg args vals as' L=>W w s₀ s₁ mg mb G (InK.keeps w _ _ (z_facts e y).2.1 L.keeps) a o pm cd doc dV kV ho hd Fp hD hmg hg args vals as'
end Q
noncomputable def PySem.W.Fast.tw7528657072804594107:PySem.Program:=PySem.Challenge.pw_sinceply_k46_whole_few_places_gone
theorem PySem.W.Fast.te7528657072804594107:PySem.Challenge.pw_sinceply_k46_whole_few_places_gone=PySem.W.Fast.tw7528657072804594107:=rfl
namespace PySem.W.Fast
def tw854257242854423776:=0
def tw610034293612443560:=0
def tw13394563751402114526:=0
def tw8622667664538429877:=0
def tw17286851485056258019:=0
def tw14780835540012924232:=0
def tw3722115404469122450:=0
def tw1938658103197739066:=0
def tw6408663933704141577:=0
def tw12538266491181790090:=0
def tw15655806830428142188:=0
def tw12513680939781316958:=0
def tw18339502227039373964:=0
def tw3465288506647146467:=0
def tw1274264575914127511:=0
def tw13094662845454958613:=0
def tw6757035957934480265:=0
def tw13398348027887574179:=0
def tw5766260878296619438:=0
def tw3878860671168604845:=0
def tw1337436358055882614:=0
def tw8392231413963836230:=0
def tw16347054842654777458:=0
def tw6939412248647981800:=0
def tw8934100055969727099:=0
def tw11498014488235808116:=0
def tw5359656259801807757:=0
def tw11196783081423787087:=0
def tw7992109072432827454:=0
def tw10061130700413077040:=0
def tw13492538015571999844:=0
def tw8396645447918840939:=0
def tw16872134981030415504:=0
def tw11655444725479745425:=0
def tw8388125709806366544:=0
def tw17289265401498535151:=0
def tw9764370794676924236:=0
def tw7311090924464153474:=0
def tw13926236302613052541:=0
def tw7614624801580295741:=0
def tw13750711867540889139:=0
def tw11292195587362823693:=0
def tw9011242672969951647:=0
def tw17729114820909885137:=0
def tw15239485987992594301:=0
def tw14208112574020779467:=0
def tw442260093385220499:=0
def tw3744179404602606577:=0
def tw12512915654517610026:=0
def tw5534576869185290754:=0
def tw12532843170162804209:=0
def tw15253927716335323928:=0
def tw15122801880351597379:=0
def tw1194983044259276500:=0
def tw7075785442196027565:=0
def tw5092100776218379625:=0
def tw4436339283784883148:=0
def tw6480699294308613496:=0
def tw15442887301683262993:=0
def tw15457900410096494716:=0
def tw8690546080480366029:=0
def tw16853109556719235064:=0
def tw1663155984994880033:=0
def tw16276578577090864200:=0
def tw12656588695933700145:=0
def tw17928520687035335713:=0
def tw18411479357016616005:=0
def tw18157345589563104944:=0
def tw10480077312254950938:=0
def tw1771464017797978571:=0
def tw11951160477538335131:=0
def tw1996509600122153775:=0
def tw9184198755723574985:=0
def tw12068605324077789200:=0
def tw8499656618920748906:=0
def tw13054327383974262738:=0
def tw422231721240984018:=0
def tw6405377569658060237:=0
def tw13245060778843895151:=0
def tw9227297190166354287:=0
def tw13246216502072183515:=0
def tw3992791146085019353:=0
def tw14513859010531554171:=0
def tw12745776552883686671:=0
def tw6678179160553750172:=0
def tw18145536097418506402:=0
def tw14051843247838946694:=0
def tw12743560737504840520:=0
def tw13469810228737460104:=0
def tw2660133397020862929:=0
def tw5434915933512240771:=0
def tw12921767214427304140:=0
def tw17118924151910316988:=0
def tw8394051028808013872:=0
def tw14416862091033289205:=0
def tw10140815794871405030:=0
def tw11927848967299034874:=0
def tw16833250117698824554:=0
def tw13365629402862074915:=0
def tw15359672172289621050:=0
def tw10305483661247658595:=0
def tw7671722660608335798:=0
def tw10570095156417565494:=0
def tw18149305619126774723:=0
def tw15457411045801841434:=0
def tw4013744886513906985:=0
def tw13437234052070378790:=0
def tw18003397453005222246:=0
def tw4508538596927617892:=0
def tw5419202916411176149:=0
def tw5118516175389974606:=0
def tw13093101521563903341:=0
def tw10146058508420370523:=0
def tw16063860609892419531:=0
def tw299429645080221447:=0
def tw460584026119505953:=0
def tw917295093381663401:=0
def tw3065648581869998359:=0
def tw10528026319154477744:=0
def tw3689045151715344159:=0
def tw14218075785299319948:=0
def tw6064123927375945101:=0
def tw2758666597158971204:=0
def tw17002095561223571892:=0
def tw7105726027022439283:=0
def tw5425009908379121084:=0
def tw13963415911454993749:=0
def tw8127628934245140846:=0
def tw3039694771582538239:=0
def tw12012996592312972581:=0
def tw77198972691939135:=0
def tw10543565102861902693:=0
def tw6346180854171621407:=0
def tw13859594174965930864:=0
def tw16750234538927589743:=0
def tw17892398572367468178:=0
def tw1721556674420610671:=0
def tw17339300510845796930:=0
def tw5297638408190959671:=0
def tw3467035481006469282:=0
def tw12571505600335694993:=0
def tw8867261415551405946:=0
def tw10592803376448764486:=0
def tw6310348546174148881:=0
def tw4958471455925601665:=0
def tw4861893862637894262:=0
def tw16044976653266155318:=0
def tw10582127695891776198:=0
def tw9127005926006060523:=0
def tw8092065001440344120:=0
def tw5965905735985930399:=0
def tw7151505166703382228:=0
def tw1247937034076755409:=0
def tw8197643129622594558:=0
def tw12498484658904431142:=0
def tw7361415455557680407:=0
def tw703672689468577674:=0
def tw14303249959012760868:=0
def tw5014644569144868421:=0
def tw5848764659810142129:=0
def tw18204040583746053570:=0
def tw11908641698964196177:=0
def tw6259326419123027177:=0
def tw1837053510594466161:=0
def tw4607020523006839847:=0
def tw6878609543001327185:=0
def tw13799025320243598559:=0
def tw3493338904867289215:=0
def tw13787102867511345226:=0
def tw5379466576450146079:=0
def tw3677551790101204232:=0
def tw373100667792102:=0
def tw16840554603866006320:=0
def tw15702772776171753565:=0
def tw14453456857442317885:=0
def tw5216940074352266420:=0
def tw13548667399862464984:=0
def tw12772199817397278037:=0
def tw13738995256166624882:=0
def tw8364796815676996069:=0
def tw876034460331172931:=0
def tw11235394253134656844:=0
def tw16662531557550431525:=0
def tw18393344306938241603:=0
def tw14284538657229022770:=0
def tw567788239157975978:=0
def tw7585543234837986075:=0
def tw10457332464281976073:=0
def tw2324602087374972165:=0
def tw8669865548118400656:=0
def tw7651962350577125357:=0
def tw1955778149388385709:=0
def tw476237695558982947:=0
def tw3770271393511150776:=0
def tw12083966958249328562:=0
def tw1839206571386909653:=0
def tw17933291199002200716:=0
def tw5242623369946913442:=0
def tw8252413097370639047:=0
def tw9920885080960995167:=0
def tw3249089540526057442:=0
def tw133120231266261053:=0
def tw5889592190413402824:=0
def tw1734993481263462672:=0
def tw18373851234808188211:=0
def tw12058854342032889368:=0
def tw1309084757810901225:=0
def tw2912425893773957983:=0
def tw2989009972654375420:=0
def tw14047307983200269659:=0
def tw9623988915953194582:=0
def tw12576633388217420534:=0
def tw7517419607830885216:=0
def tw5456791936853953324:=0
def tw8602063287969816905:=0
def tw4986489148473291293:=0
def tw381263676872050723:=0
def tw8075936830953229038:=0
def tw12321707781094793234:=0
def tw1474554854215162205:=0
def tw7580052276760065956:=0
def tw17602854238182677630:=0
def tw6258858802364089638:=0
def tw2473091998335495236:=0
def tw9013426585352582863:=0
def tw12021376238264931770:=0
def tw525015406583669692:=0
def tw9339767268549334532:=0
def tw15545048589338913603:=0
def tw15416967388314712807:=0
def tw8506014499805438000:=0
def tw17586144246588087123:=0
def tw12121293854178396998:=0
def tw2484328991654658605:=0
end PySem.W.Fast
open PySem PySem.W PyProof.Rows
set_option maxRecDepth 100000 in
set_option maxHeartbeats 0 in
theorem PySem.Challenge.cw_sinceply_k46_whole_few_places_gone_holds : PySem.Challenge.rw_sinceply_k46_whole_few_places_gone.Holds := by
 w_on;o_law;z_head;(case hw=>w_witness2)
 k_fill
 refine' Q.BB (fun _=>rfl) (Q.walk (l:=PySem.Challenge.rw_sinceply_k46_whole_few_places_gone) rfl rfl (fun w h Y=>Y) (P.math _ _) ?noL ?fnS)
 case noL=>intro w;rfl
 case fnS=>
  intro w mg fa h KX G hmg
  refine' Q.all_mk KX G hmg ?Bk ?Bl ?Bm ?Bo ?Bp ?Bq ?Bs ?Bt ?Bu ?Bv ?su ?sy ?sC ?sD ?sF ?sG ?sH ?sI ?sJ ?sL ?sM ?sN ?sO ?sP ?sQ ?sS ?sU ?sV ?sW ?sX ?sY ?sZ ?s_ ?oE ?uY ?uZ ?f9 ?Bw ?eW ?Bx ?u5 ?By ?BA ?p5 ?mJ ?p6
  case Bk|Bl|Bm|Bo|Bp|Bq|Bs|Bt|Bu|Bv|su|sy|sC|sD|sF|sG|sH|sI|sJ|sL|sM|sN|sO|sP|sQ|sS|sU|sV|sW|sX|sY|sZ|s_|oE=>refine' Br.aK ?e ?l ?c ?k;(case e=>k_is);(case l=>k_is);(case c=>k_is);(case k=>k_is)
  case uY|uZ|f9|Bw|eW|Bx|u5|By|BA|p5|mJ|p6=>k_is
end
