import PyProof.Rows.All
import Wide.All
import OpenK.AllK
import Wide.FinOn
import Lean
import PyProof.EqAt
import PyProof.EqKinds
import PyProof.TupleCall
import KE.KRevIter
import PyProof.EnumMake
import PyProof.EnumFor
import PyProof.ListRange
import PyProof.Rows.Range3
import PyProof.ZipIter
import PyProof.SumWalk
import PyProof.WalksMore
import PyProof.Rows.SetFrom
import PyProof.SetRoads
import PyProof.Rows.SortRunsK
import PyProof.Rows.SortWalk
import KE.KSortTup
import PyProof.Rows.Own
import PyProof.StationsW
import OpenK.KRaise
import KE.KIsAll
import PyProof.ExcArgsOwn
import PyProof.RulesAs
import PyProof.Ns1
import PyProof.Rows.Catch
import OpenK.KOwn
import PyProof.ExcBaseAll.ValueError
import KE.KDictSum
import PyProof.AttrMiss
import PyProof.IsiH_list
import KE.KDictOf
import PyProof.DictList
import KE.KDictList
import PyProof.FactsAll.set
import PyProof.Rows.TupAdd
import KE.KDictMeth
import PyProof.DictWalks
import PyProof.TupleKey
import PyProof.DictStraight
import PyProof.IsRules
import KE.KRevSl
import PyProof.Rows.CallKwBuiltin
import PyProof.Rows.SortShell
import KE.KSortKey
import KE.KLam
import KE.KNestM
import PySem.Challenge.RW_sinceply_k38_whole_times_of_the_record
open Array renaming length_toList→Nr,getElem?_toList→NB,getElem?_eq_getElem→NY
open Bool renaming false_ne_true→Mz,and_eq_true→ME,false_eq_true→Ni,eq_iff_iff→Oj,or_eq_true→OO
open Classical renaming byContradiction→N1
open Decidable renaming byContradiction→NZ
open False renaming elim→MN
open ForInStep renaming yield→Nl
open Int renaming toNat_natCast→M5,le_refl→Nj,natCast_nonneg→N4,ofNat_lt→Ol,le_of_lt→OX,le_trans→O0,add_mul→O4
open List renaming map_cons→eg,getElem?_set_ne→gV,replicate→Dk,length_map→Dp,getElem?_eq_some_iff→Me,mem_cons_self→Mg,mem_cons_of_mem→Mh,mem_cons→Mj,size_toArray→Mk,range→Mm,getElem?_append_left→Mn,getElem?_eq_getElem→Mp,length_append→Mr,map_append→Mt,mem_singleton→Mu,mem_append→Mv,length_range→Mw,mem_append_right→Mx,getElem?_set_self→My,getElem?_map→MA,mem_map→MD,mem_append_left→MF,nodup_cons→MG,getElem?_append_right→MJ,length_set→MK,filter_cons→MO,getElem?_eq_none→MS,lookup_cons→MT,length_cons→MU,getElem?_replicate→MV,flatten_cons→MW,pairwise_cons→MZ,filter_cons_of_neg→M0,filter_cons_of_pos→M3,map_map→M4,length_reverse→M6,mem_filter→M7,length_singleton→M9,append_nil→Nb,find?_cons→Nc,replicate_succ→Nd,getElem?_range→Nf,any_cons→Ng,getD_eq_getElem?_getD→Nh,reverse_cons→Nn,nodup_append→Np,filter_sublist→Nt,mem_range→Nu,length_take→Nx,all_eq_true→Ny,set_append_right→ND,mem_of_getElem?→NF,drop_eq_getElem_cons→NG,getElem?_take_of_lt→NI,filter_eq_self→NJ,getElem?_set→NL,ext_getElem?→NN,filter_congr→NO,length_replicate→NP,length_filter_le→NQ,drop_length→NT,not_mem_nil→NU,cons_append→NV,map_congr_left→NW,nil_append→NX,getElem?_cons_succ→N8,length_eq_zero_iff→N9,mem_reverse→Oc,getElem?_reverse→Of,of_mem_zip→Og,map_nil→Oi,filterMap_cons→Om,take_left→Ou,mem_filterMap→Ow,find?_eq_none→Oz,zip_cons_cons→OA,filter_filter→OB,append_assoc→OE,getElem_mem→OI,map_reverse→OJ,map_id→OR,all_cons→OW,set_set→OZ,filter→O5,foldl→O7
open Nat renaming le_refl→Ds,le_of_ble_eq_true→Ml,lt_of_lt_of_le→Mq,ne_of_lt→MC,le_trans→ML,zero_le→MR,lt_irrefl→MX,ne_of_gt→NH,not_lt→NR,le_of_lt→OH,le_succ→OQ,sub_self→O3
open Option renaming isSome_map→NK
open PyProof.Rows renaming callWith_type1→MM
open PySem.Builtin.Int renaming intBits→Oo
open PySem.Builtin.List renaming listExtendWith→Nz,listTooLong→N3
open PySem.Builtin.Range renaming rangeSize→Nq
open PySem.Calls renaming spliced_nil→Nm,callWith_builtin→Ob,evalArgs_plain→Oh,spliced_cons→Ox
open PySem.Data renaming cell→Ov,fields→OP
open PySem.F renaming slot_dict_keyiterator_next→Na,plainAttrs_list→N7,slot_dict_get→Oe
open PySem.Heap renaming get?_push_of_some→Mf,lt_size→Mi,get?_push_size→Ms,SameBut→N2,get?_update_other→Oa,get?_update_self→Od,size_push→OU
open PySem.NameKind renaming cell→OV
open PySem.Obj renaming mapSeq→N6
open PySem.PassesOwn renaming never→MH
open PySem.PyData renaming eqv→M8,depthAll→NC,eqvAll→OC,canLayAll0→OG
open PySem.Str renaming ofString→OY
open PySem.Value renaming ref→MI,type→N5,str→OL,bool→O6
open PySem.W renaming Frag→gc,nsIn→MP,fnOf→MQ,kia_one→MY,keepIn→Nv,codeIn→Ot,methodObj→OD,instObj→OM,OpenLaw→ON,lookIn→OS,kitOne→OT
open Sum renaming inl→MB,inr→Oq
open True renaming intro→Nk
noncomputable section
set_option Elab.async false
set_option linter.all false

set_option maxRecDepth 100000
local macro_rules|`(tactic|trivial)=>`(tactic|first|exact Or.inl rfl|exact Or.inr rfl|exact Or.inr (Or.inl rfl)|exact Or.inr (Or.inr rfl)|assumption)
local macro_rules|`(tactic|and_intros)=>`(tactic|dsimp only[List.map,List.replicate,List.cons_append,List.nil_append])
namespace L2
open PySem PySem.Spec PyProof.Rows
section
variable{a b:Addr}{H:Hp}{o:HO}
noncomputable abbrev Key:=Sum Int Str
noncomputable def l_:Key->Value->Bool
 |.inl k,v=>Value.isInt k v
 |.inr x,v=>Value.isStrOf x v
noncomputable def K5(w:World):Key->Int
 |.inl k=>hashInt k
 |.inr x=>hashStr w x
theorem aU:∀{k:Key} {v:Value},l_ k v=true->(∃i t,k=MB i/\v=Value.int i t)\/(∃x t,k=Oq x/\v=OL x t)
 |.inl i,v,h=>by obtain⟨t,e⟩:=Value.isInt_shape (k:=i) (v:=v) h;exact .inl ⟨i,t,rfl,e⟩
 |.inr x,v,h=>by obtain⟨t,e⟩:=Value.isStrOf_shape (x:=x) (v:=v) h;exact .inr ⟨x,t,rfl,e⟩
theorem vd(i:Int)(t:Tok):l_ (.inl i) (.int i t)=true:=by simp[l_,Value.isInt]
theorem ve(x:Str)(t:Tok):l_ (.inr x) (.str x t)=true:=by simp[l_,Value.isStrOf]
theorem Ey(a b:Int):decide ((MB a:Key)=MB b)=(a == b):=by
 by_cases e:a=b
 ·subst e;simp
 ·have h:¬(MB a:Key)=MB b:=fun q=>e (Sum.inl.inj q);rw[decide_eq_false h];exact(beq_eq_false_iff_ne.mpr e).symm
theorem Ez(a b:Str):decide ((Oq a:Key)=Oq b)=decide (a=b):=by
 by_cases e:a=b
 ·subst e;simp
 ·have h:¬(Oq a:Key)=Oq b:=fun q=>e (Oq.inj q);rw[decide_eq_false h,decide_eq_false e]
theorem EA(a:Int)(b:Str):decide ((MB a:Key)=Oq b)=false:=decide_eq_false (fun q=>nomatch q)
theorem EB(a:Str)(b:Int):decide ((Oq a:Key)=MB b)=false:=decide_eq_false (fun q=>nomatch q)
noncomputable def aK(prog:Program)(w:World):PySem.KeyKind prog w Key where
 is:=l_
 hash:=K5 w
 inj:=fun v a b ha hb=>by
  rcases aU ha with⟨i,t,rfl,rfl⟩ | ⟨x,t,rfl,rfl⟩
  ·rcases aU hb with⟨j,u,rfl,e⟩ | ⟨y,u,rfl,e⟩
   ·injection e with e1 _;rw[e1]
   ·exact nomatch e
  ·rcases aU hb with⟨j,u,rfl,e⟩ | ⟨y,u,rfl,e⟩
   ·exact nomatch e
   ·injection e with e1 _;rw[e1]
 byValue:=fun k v h=>by rcases aU h with⟨i,t,rfl,rfl⟩ | ⟨x,t,rfl,rfl⟩<;>rfl
 pyHash:=fun hv h=>by
  rcases aU hv with⟨i,t,rfl,rfl⟩ | ⟨x,t,rfl,rfl⟩
  ·exact wpAny_pyHash_int h
  ·exact wpAny_pyHash_str h
 eqBool:=fun hu hv h=>by
  rcases aU hu with⟨i,t,rfl,rfl⟩ | ⟨x,t,rfl,rfl⟩
  ·rcases aU hv with⟨j,u,rfl,rfl⟩ | ⟨y,u,rfl,rfl⟩
   ·rw[Ey]at h;exact wpAny_eqBool_int h
   ·rw[EA]at h;exact SeqAt.EqAt.int_str i t y u _ _ _ _ h
  ·rcases aU hv with⟨j,u,rfl,rfl⟩ | ⟨y,u,rfl,rfl⟩
   ·rw[EB]at h;exact SeqAt.EqAt.str_int x t j u _ _ _ _ h
   ·rw[Ez]at h;exact wpAny_eqBool_str h
 «strs»:=fun k x t v h=>by
  rcases aU h with⟨i,u,rfl,e⟩ | ⟨y,u,rfl,e⟩
  ·exact nomatch e
  ·injection e with e1 _
   subst e1;cases v<;>rfl
theorem oO(prog:Program)(w:World)(i:Int)(t:Tok):(aK prog w).is (.inl i) (.int i t)=true:=vd i t
theorem oQ(prog:Program)(w:World)(x:Str)(t:Tok):(aK prog w).is (.inr x) (.str x t)=true:=ve x t
inductive V where
 |non | bl (b:Bool) | int (i:Int) | str (x:Str) | byt (b:Array UInt8) | flt (b:UInt64) | ref (a:Addr) | ty (n:String)
 deriving DecidableEq
def RelV:V->Value->Prop
 |.non,u=>u=Value.none
 |.bl b,u=>u=O6 b
 |.int i,u=>∃t,u=Value.int i t
 |.str x,u=>∃t,u=OL x t
 |.byt b,u=>∃t,u=Value.bytes b t
 |.flt b,u=>∃t,u=Value.float b t
 |.ref a,u=>u=MI a
 |.ty n,u=>u=N5 n
noncomputable abbrev Vals:List V->List Value->Prop:=Paired RelV
theorem Vals.length{xs:List V}{us:List Value}(r:Vals xs us):xs.length=us.length:=Paired.length r
theorem Vals.get:∀{xs:List V} {us:List Value} {i:Nat} {x:V},Vals xs us->xs[i]?=some x->∃u,us[i]?=some u/\RelV x u
 |_,_,_,_,.nil,e=>by simp at e
 |_,_,0,_,.cons r _,e=>by simp at e;subst e;exact⟨_,rfl,r⟩
 |_,_,i+1,x,.cons _ t,e=>by obtain⟨u,h1,h2⟩:=Vals.get (i:=i) (x:=x) t (by simpa using e);exact⟨u,by simpa using h1,h2⟩
theorem Vals.set{x:V}{u:Value}(r:RelV x u):∀{xs:List V} {us:List Value} (i:Nat),Vals xs us->Vals (xs.set i x) (us.set i u)
 |_,_,_,.nil=>.nil
 |_,_,0,.cons _ t=>.cons r t
 |_,_,i+1,.cons q t=>.cons q (Vals.set r i t)
theorem Vals.append:∀{xs ys:List V} {us ws:List Value},Vals xs us->Vals ys ws->Vals (xs++ys) (us++ws)
 |_,_,_,_,.nil,s=>s
 |_,_,_,_,.cons r t,s=>.cons r (Vals.append t s)
theorem Vals.take:∀{xs:List V} {us:List Value} (n:Nat),Vals xs us->Vals (xs.take n) (us.take n)
 |_,_,0,_=>.nil
 |_,_,_+1,.nil=>.nil
 |_,_,n+1,.cons r t=>.cons r (Vals.take n t)
theorem Vals.drop:∀{xs:List V} {us:List Value} (n:Nat),Vals xs us->Vals (xs.drop n) (us.drop n)
 |_,_,0,r=>r
 |_,_,_+1,.nil=>.nil
 |_,_,n+1,.cons _ t=>Vals.drop n t
def gP:Option V->Option Value->Prop
 |some v,some u=>RelV v u
 |none,none=>True
 |_,_=>False
def KV{κ:Type}:List (κ×V)->List (κ×Value)->Prop:=Paired fun(p:κ×V) (q:κ×Value)=>p.1=q.1/\RelV p.2 q.2
noncomputable def kV:Key->V
 |.inl i=>.int i
 |.inr x=>.str x
inductive HO where
 |lst (xs:List V)
 |tup (xs:List V)
 |dK (kvs:List (Key×V)) | dT (kvs:List (List Key×V)) (ts:List Addr)
 |set (S:Int->Bool) (n:Nat)
 |ins (C dx:Addr) (fs:List (Str×V))
 |own (x:Addr)
 |xd (fs:List (Str×V))
 |met (f x:Addr)
 |rng (lo hi:Int)
 |frz (o:Obj) (u:HO)
 |tbl (ln cl:Value) (q:Str)
 |ext (φ:Heap->Prop)
noncomputable abbrev Hp:=Addr->Option HO
noncomputable def upd(H:Hp)(a:Addr)(o:HO):Hp:=fun b=>if b=a then some o else H b
theorem aq{a:Addr}:upd H a o a=some o:=by unfold upd;rw[if_pos rfl]
theorem au(h:b≠a):upd H a o b=H b:=by unfold upd;rw[if_neg h]
theorem HZ{o u:HO}(h:H a=some o)(h':H b=some u)(d:o≠u):a≠b:=by intro e;subst e;rw[h]at h';exact d (Option.some.inj h')
theorem aE(h:H a=some o)(h':H b=none):a≠b:=by intro e;subst e;rw[h]at h';cases h'
end
section
variable(P:Program)(w:World)
def aM(H:Hp)(h:Heap)(a:Addr):HO->Prop
 |.lst xs=>xs.length<=sizeLine/\∃(its:List Value) (n:Nat),Vals xs its/\h.get? a=some { cls:=.type "list",data:=.seq its.toArray n }
 |.tup xs=>xs.length<=sizeLine/\∃its:List Value,Vals xs its/\IsTup h a its.toArray
 |.dK kvs=>kvs.length<=sizeLine/\(a == sysModules)=false/\∃vs,KV kvs vs/\h.DictOf (aK P w) a vs
 |.dT kvs ts=>kvs.length<=sizeLine/\(a == sysModules)=false/\∃xs:List (List Key×Addr×Value),
   Paired (fun(p:List Key×V) (q:List Key×Addr×Value)=>p.1=q.1/\H q.2.1=some (.tup (p.1.map kV))/\RelV p.2 q.2.2) kvs xs /\
   ∃o es ep,h.get? a=some o/\o.ExactDict/\o.data=.dict es ep/\es.toList=xs.map (entryOfKey (tupleKind (aK P w)))/\(xs.map (·.1)).Nodup/\xs.map (·.2.1)=ts
 |.set S n=>h.SetOf (intKind P w) a S n
 |.ins C dx fs=>H dx=some (.own a)/\fs.length<=1000/\dx≠a/\h.get? a=some (OM C dx) /\
   ∃mA,h.Ns1 dx mA/\(∀f,gP (fs.lookup f) (mA f))/\PySem.Within mA (fs.map (·.1))
 |.own _=>∃o,h.get? a=some o
 |.xd fs=>∃mA,h.Ns1 a mA/\∀f,gP (fs.lookup f) (mA f)
 |.rng lo hi=>∃t u v,h.get? a=some { cls:=.type "range",data:=.fields #[.int lo t,.int hi u,.int 1 v] }
 |.frz o u=>h.get? a=some o/\aM H h a u
 |.tbl ln cl q=>∃ps:Array Value,h.get? a=some { cls:=.none,data:=.fields ps }/\(ps=#[]\/∃(c:Addr) (oc:Obj) (vs:Array Value) (t:Tok),ps=#[ln,cl,.ref c]/\H c=some (.frz oc (.own a))/\oc.data=.fields vs/\vs[1]?=some (.str q t))
 |.met f x=>h.get? a=some (OD (.ref f) (.ref x))
 |.ext φ=>φ h/\(∃o,h.get? a=some o)/\∀h1 h2:Heap,φ h1->(∀o,h1.get? a=some o->h2.get? a=some o)->φ h2
def HOk(H:Hp)(h:Heap):Prop:=∀a o,H a=some o->aM P w H h a o
end
section
variable{P:Program}{w:World}{H H':Hp}{h h':Heap}{a:Addr}{o:HO}
theorem aM.lt(x:aM P w H h a o):a<h.objs.size:=by
 cases o with
 |lst xs=>obtain⟨_,_,_,_,e⟩:=x;exact Mi e
 |tup xs=>obtain⟨_,_,_,p⟩:=x;exact p.lt
 |dK kvs=>obtain⟨_,_,_,_,o,_,_,e,_⟩:=x;exact Mi e
 |dT kvs ts=>obtain⟨_,_,_,_,o,_,_,e,_⟩:=x;exact Mi e
 |set S n=>obtain⟨o,_,_,_,e,_⟩:=x;exact Mi e
 |ins C dx fs=>obtain⟨_,_,_,e,_⟩:=x;exact Mi e
 |own y=>obtain⟨_,e⟩:=x;exact Mi e
 |xd fs=>obtain⟨_,⟨_,_,_,e,_⟩,_⟩:=x;exact Mi e
 |rng lo hi=>obtain⟨_,_,_,e⟩:=x;exact Mi e
 |frz ob u=>obtain⟨e,_⟩:=x;exact Mi e
 |tbl ln cl q=>obtain⟨_,e,_⟩:=x;exact Mi e
 |met f y=>exact Mi (show h.get? a=some _ from x)
 |ext φ=>obtain⟨_,⟨_,e⟩,_⟩:=x;exact Mi e
theorem Paired.EC{α β:Type}{F G:α->β->Prop}:∀{l₁:List α} {l₂:List β},Paired F l₁ l₂->(∀a b,F a b->G a b)->Paired G l₁ l₂
 |_,_,.nil,_=>.nil
 |_,_,.cons r t,f=>.cons (f _ _ r) (Paired.EC t f)
theorem aM.stay(x:aM P w H h a o)(k:∀b u,(b=a\/H b=some (.own a))->h.get? b=some u->h'.get? b=some u)
  (ho:∀b,H b=some (.own a)->H' b=some (.own a)) (hf:∀b o c,H b=some (.frz o (.own c))->H' b=some (.frz o (.own c))) (ht:∀b xs,H b=some (.tup xs)->H' b=some (.tup xs)):aM P w H' h' a o:=by
 induction o with
 |lst xs=>obtain⟨z,its,n,r,e⟩:=x;exact⟨z,its,n,r,k _ _ (.inl rfl) e⟩
 |tup xs=>obtain⟨z,its,r,ob,e,c⟩:=x;exact⟨z,its,r,ob,k _ _ (.inl rfl) e,c⟩
 |dK kvs=>obtain⟨z,y,vs,r,ob,es,ep,e,c⟩:=x;exact⟨z,y,vs,r,ob,es,ep,k _ _ (.inl rfl) e,c⟩
 |dT kvs ts=>obtain⟨z,y,xs,r,ob,es,ep,e,c⟩:=x;exact⟨z,y,xs,Paired.EC r fun p q z=>⟨z.1,ht _ _ z.2.1,z.2.2⟩,ob,es,ep,k _ _ (.inl rfl) e,c⟩
 |set S n=>obtain⟨ob,es,ep,t,e,c⟩:=x;exact⟨ob,es,ep,t,k _ _ (.inl rfl) e,c⟩
 |ins C dx fs=>obtain⟨d,z,ne,e,mA,⟨od,es,ep,e2,c⟩,r⟩:=x;exact⟨ho _ d,z,ne,k _ _ (.inl rfl) e,mA,⟨od,es,ep,k _ _ (.inr d) e2,c⟩,r⟩
 |own y=>obtain⟨ob,e⟩:=x;exact⟨ob,k _ _ (.inl rfl) e⟩
 |xd fs=>obtain⟨mA,⟨od,es,ep,e,c⟩,r⟩:=x;exact⟨mA,⟨od,es,ep,k _ _ (.inl rfl) e,c⟩,r⟩
 |rng lo hi=>obtain⟨t,u,v,e⟩:=x;exact⟨t,u,v,k _ _ (.inl rfl) e⟩
 |frz ob u ih=>obtain⟨e,q⟩:=x;exact⟨k _ _ (.inl rfl) e,ih q⟩
 |tbl ln cl q=>
  obtain⟨ps,e,d⟩:=x;refine⟨ps,k _ _ (.inl rfl) e,?_⟩;rcases d with d | ⟨c,oc,vs,t,d,d2,d3⟩
  ·exact .inl d
  ·exact .inr ⟨c,oc,vs,t,d,hf _ _ _ d2,d3⟩
 |met f y=>have e:h.get? a=some (OD (.ref f) (.ref y)):=x;show h'.get? a=some (OD (.ref f) (.ref y));exact k a _ (.inl rfl) e
 |ext φ=>obtain⟨p,⟨o,e⟩,st⟩:=x;exact⟨st _ _ p fun o q=>k _ _ (.inl rfl) q,⟨o,k _ _ (.inl rfl) e⟩,st⟩
theorem HOk.lt(x:HOk P w H h)(e:H a=some o):a<h.objs.size:=(x a o e).lt
theorem HOk.fresh(x:HOk P w H h)(e:h.objs.size<=a):H a=none:=by
 cases q:H a with
 |none=>rfl
 |some u=>exact absurd (Mq (x.lt q) e) (MX _)
theorem HOk.kept(x:HOk P w H h)(k:∀b u,h.get? b=some u->h'.get? b=some u):HOk P w H h':=fun a o e=>(x a o e).stay (fun b u _ q=>k b u q) (fun _ q=>q) (fun _ _ _ q=>q) fun _ _ q=>q
theorem HOk.laid(x:HOk P w H h)(k:∀b u,h.get? b=some u->h'.get? b=some u)(hp:h.objs.size<=a)(new:aM P w (upd H a o) h' a o):HOk P w (upd H a o) h':=fun b u e=>by
 have hn:=x.fresh hp;by_cases hb:b=a
 ·subst hb;rw[aq]at e;cases e;exact new
 ·rw[au hb]at e;exact(x b u e).stay (fun c v _ q=>k c v q) (fun c q=>by rw[au (aE q hn)];exact q) (fun c _ _ q=>by rw[au (aE q hn)];exact q) fun c xs q=>by rw[au (aE q hn)];exact q
end
def Rd(H:Hp)(a:Addr)(u:HO):Prop:=H a=some u\/∃o,H a=some (.frz o u)
theorem Rd.ok{P:Program}{w:World}{H:Hp}{h:Heap}{a:Addr}{u:HO}(r:Rd H a u)(x:HOk P w H h):aM P w H h a u:=by
 rcases r with r | ⟨o,r⟩
 ·exact x a u r
 ·obtain⟨_,q⟩:=x a _ r;exact q
def Mut:Option HO->Prop
 |some (.lst _)=>True
 |some (.dK _)=>True
 |some (.dT _ _)=>True
 |some (.set _ _)=>True
 |some (.ins _ _ _)=>True
 |some (.ext _)=>True
 |_=>False
section
variable{P:Program}{w:World}{H:Hp}{h h':Heap}{x e:Addr}{o':HO}
theorem HOk.write(ok:HOk P w H h)(mu:Mut (H x))(he:e=x\/H e=some (.own x))(k:∀b u,b≠e->h.get? b=some u->h'.get? b=some u)(heo:∃u,h'.get? e=some u)
  (new:aM P w (upd H x o') h' x o'):HOk P w (upd H x o') h':=fun b u q=>by
 have H_:∀c y,H c=some (.own y)->c≠x:=fun c y r z=>by subst z;rw[r]at mu;exact mu
 have K6:∀c xs,H c=some (.tup xs)->c≠x:=fun c xs r z=>by subst z;rw[r]at mu;exact mu
 have K7:∀c o y,H c=some (.frz o y)->c≠x:=fun c o y r z=>by subst z;rw[r]at mu;exact mu
 by_cases hb:b=x
 ·subst hb;rw[aq]at q;cases q;exact new
 ·rw[au hb]at q;by_cases hbe:b=e
  ·have q':H b=some (.own x):=by
    rcases he with z | z
    ·exact absurd (hbe.trans z) hb
    ·rw[hbe];exact z
   rw[q]at q';cases q';obtain⟨v,hv⟩:=heo;exact⟨v,by rw[hbe];exact hv⟩
  ·refine(ok b u q).stay (fun c v hc r=>k c v ?_ r) (fun c r=>by rw[au (H_ c b r)];exact r) (fun c _ _ r=>by rw[au (K7 c _ _ r)];exact r) fun c xs r=>by rw[au (K6 c xs r)];exact r
   rcases hc with rfl | hc
   ·exact hbe
   ·rintro rfl;rcases he with z | z
    ·exact H_ c b hc z
    ·rw[hc]at z;cases z;exact hb rfl
end
structure Un(fs ex:List Addr)(H H':Hp)(h h':Heap):Prop where
 keep:∀b o,h.get? b=some o->H b=none->b∉fs->b∉ex->h'.get? b=some o
 slot:∀b o,h.get? b=some o->H b=none->b∈fs->b∉ex->∃sl,h'.get? b=some { o with slots:=sl }
 free:∀b o,h.get? b=some o->H b=none->b∉ex->H' b=none
 there:∀b o,h.get? b=some o->b∉ex->∃o',h'.get? b=some o'
 tups:∀b xs,H b=some (.tup xs)->H' b=some (.tup xs)
 nt:∀b o u,H b=some (.frz o u)->H' b=some (.frz o u)
 oR:∀b x y z,H b=some (.tbl x y z)->H' b=some (.tbl x y z)
section
variable{fs fs' ex ex':List Addr}{H H1 H2:Hp}{h h1 h2 h':Heap}{a x e:Addr}{o:HO}
theorem Un.any(u:Un fs ex H H1 h h1){b:Addr}{ob:Obj}(q:h.get? b=some ob)(n:H b=none)(hx:b∉ex):∃sl,h1.get? b=some { ob with slots:=sl }:=by
 by_cases hb:b∈fs
 ·exact u.slot b ob q n hb hx
 ·exact⟨ob.slots,u.keep b ob q n hb hx⟩
theorem Un.kept(k:∀b u,h.get? b=some u->h'.get? b=some u):Un fs ex H H h h':=
 ⟨fun b ob q _ _ _=>k b ob q,fun b ob q _ _ _=>⟨ob.slots,k b ob q⟩,fun _ _ _ n _=>n,fun b ob q _=>⟨ob,k b ob q⟩,fun _ _ q=>q,fun _ _ _ q=>q,fun _ _ _ _ q=>q⟩
theorem Un.refl:Un fs ex H H h h:=Un.kept fun _ _ q=>q
theorem Un.laid(k:∀b u,h.get? b=some u->h'.get? b=some u)(hp:h.objs.size<=a)(hn:H a=none):Un fs ex H (upd H a o) h h' where
 keep:=fun b u q _ _ _=>k b u q
 slot:=fun b u q _ _ _=>⟨u.slots,k b u q⟩
 free:=fun b u q n _=>by rw[au (MC (Mq (Mi q) hp))];exact n
 there:=fun b u q _=>⟨u,k b u q⟩
 tups:=fun b xs q=>by rw[au (aE q hn)];exact q
 nt:=fun b u xs q=>by rw[au (aE q hn)];exact q
 oR:=fun b _ _ _ q=>by rw[au (aE q hn)];exact q
theorem Un.write(mu:Mut (H x))(he:e=x\/H e=some (.own x))(k:∀b u,b≠e->h.get? b=some u->h'.get? b=some u)(heo:∃u,h'.get? e=some u):Un fs ex H (upd H x o) h h':=by
 have hx:∀b,H b=none->b≠x:=fun b n z=>by subst z;rw[n]at mu;exact mu
 have hb:∀b,H b=none->b≠e:=fun b n z=>by
  subst z;rcases he with r | r
  ·exact hx b n r
  ·rw[n]at r;cases r
 have hm:∀b u,H b=some u->¬Mut (some u)->b≠x:=fun b u q nm z=>by subst z;rw[q]at mu;exact nm mu
 refine ⟨fun b u q n _ _=>k b u (hb b n) q,fun b u q n _ _=>⟨u.slots,k b u (hb b n) q⟩,fun b u q n _=>by rw [au (hx b n)];exact n,fun b u q _=>?_,
  fun b xs q=>by rw[au (hm b _ q fun z=>z)];exact q,fun b u xs q=>by rw[au (hm b _ q fun z=>z)];exact q,fun b _ _ _ q=>by rw[au (hm b _ q fun z=>z)];exact q⟩
 by_cases hbe:b=e
 ·subst hbe;exact heo
 ·exact⟨u,k b u hbe q⟩
end
section
variable{h:Heap}{b:Addr}{o:Obj}{H:Hp}
noncomputable def trk(h:Heap)(H:Hp):List Addr:=(Mm h.objs.size).filter fun a=>(H a).isSome
noncomputable def nu(h:Heap)(H:Hp):Heap:=PySem.W.hideAll h (trk h H)
theorem vf(h:Heap)(H:Hp):(nu h H).objs.size=h.objs.size:=PySem.W.hideAll_size _ _
theorem wQ(e:h.get? b=some o)(n:H b=none):(nu h H).get? b=some o:=
 PySem.W.hideAll_get _ e fun hm=>by have q:(H b).isSome=true:=(M7.mp hm).2;rw[n]at q;simp at q
theorem A7(e:(nu h H).get? b=some o):h.get? b=some o/\H b=none:=by
 have e':h.get? b=some o:=PySem.W.of_hideAll (trk h H) e;refine⟨e',?_⟩;cases q:H b with
 |none=>rfl
 |some x=>have hm:b∈trk h H:=M7.mpr ⟨Nu.mpr (Mi e'),by simp[q]⟩;have z:(nu h H).get? b=none:=PySem.W.hideAll_none (trk h H) hm;rw[z]at e;cases e
structure Mod(K:gc)(mg:Str->Option Value)(base:Heap):Prop where
 kin:K.In base
 glob:base.Ns mainGlobals mg
 blt:∃mb,base.Ns builtinsNs mb/\∀x:Str,x ≠ "__name__" -> mb x=bootBuiltins x
 nolimit:base.NoLimit
structure Cx where
 prog:Program
 w:World
 K:gc
 mg:Str->Option Value
 base:Heap
 A:Around
 N:List Str
 s₀:Shared
 H₀:Hp
 env:Env
 outer:List Env
 stack:List Env
 ex:List Addr
 fn:Str->Bool
 calm:Bool
 pn:List (Addr×Obj)
 xe:Value->Shared->Prop
noncomputable def frs(l:List Env):List Addr:=l.filterMap (·.frame)
noncomputable abbrev Cx.fs(X:Cx):List Addr:=frs X.outer
def Vis(sc:Scope)(x:Str):Prop:=sc.names.lookup x=some .local\/sc.names.lookup x=some .cell\/sc.names.lookup x=some .free
def Loc(sc:Scope)(x:Str):Prop:=sc.names.lookup x=some .local\/sc.names.lookup x=some .cell
def Look(env:Env)(h:Heap)(m:Str->Option Value)(x:Str)(u:Value):Prop:=
 (env.kindOf x=some .local/\m x=some u)\/((env.kindOf x=some .cell\/env.kindOf x=some .free)/\∃c,env.cells.lookup x=some c/\h.IsCell c (some u))
structure Cx.Ok(X:Cx):Prop where
 mod:Mod X.K X.mg X.base
 kind:X.env.scope.kind=.function
 glob:X.env.globals=mainGlobals
 blt:X.env.builtins=builtinsNs
 above:X.s₀.heap.objs.size<=X.env.locals
 inj:∀x y c,X.env.cells.lookup x=some c->X.env.cells.lookup y=some c->x=y
 has:∀x,(X.env.kindOf x=some .cell\/X.env.kindOf x=some .free)->∃c,X.env.cells.lookup x=some c
 cab:∀x c,X.fn x=true->X.env.cells.lookup x=some c->X.s₀.heap.objs.size<=c
 hd:X.calm=true->X.A.handled=none
 frames:X.A.frames=some X.stack
 stk:X.stack=X.outer\/(X.stack=X.env::X.outer/\X.env.frame=some X.env.locals)
 exf:∀b∈X.ex,b≠X.env.locals/\∀x c,X.env.cells.lookup x=some c->c≠b
 bs:∀b o,X.base.get? b=some o->X.s₀.heap.get? b=some o/\X.H₀ b=none
 bsz:X.base.objs.size<=X.s₀.heap.objs.size
 wR:∀b o,X.base.get? b=some o->b∉X.ex
 A8:∀b∈X.ex,b∉X.fs
 jC:X.s₀.heap.FunFrames X.base X.outer
 frf:∀b∈X.fs,X.H₀ b=none
structure Inv(X:Cx)(sy:List (Addr×Obj))(σ:List (Option V))(H:Hp)(s:Shared):Prop where
 ok:X.Ok
 os:s.os=X.s₀.os
 bare:AllBare s.gens
 base:Un X.fs X.ex X.H₀ H X.s₀.heap s.heap
 loc:∃m,s.heap.Ns X.env.locals m/\∀(i:Nat) (x:Str) (v:V),X.N[i]?=some x->σ[i]?=some (some v)->Vis X.env.scope x->∃u,RelV v u/\Look X.env s.heap m x u
 cell:∀x c,X.env.cells.lookup x=some c->∃v,s.heap.IsCell c v
 free:H X.env.locals=none
 fC:∀x c,X.env.cells.lookup x=some c->H c=none
 pin:∀p∈X.pn++sy,s.heap.get? p.1=some p.2/\H p.1=none/\p.1≠X.env.locals/\p.1∉X.fs/\∀v,p.2.data≠.cell v
 hok:HOk X.prog X.w H s.heap
 len:σ.length=X.N.length
end
section
variable{X:Cx}{sy:List (Addr×Obj)}{σ:List (Option V)}{H H':Hp}{s:Shared}{h':Heap}
section
variable{ch:List Addr}{x:Str}{u:Value}{a:Addr}{t':Nat}{i:Nat}{v:V}
theorem Cx.Ok.K8(ok:X.Ok){b:Addr}{o:Obj}(e:X.base.get? b=some o):b∉X.fs:=fun hb=>by have:=(ok.jC.mem hb).1;rw[e]at this;cases this
theorem Inv.bs(I:Inv X sy σ H s):∀b o,X.base.get? b=some o->s.heap.get? b=some o/\H b=none:=fun b o e=>⟨I.base.keep b o (I.ok.bs b o e).1 (I.ok.bs b o e).2 (I.ok.K8 e) (I.ok.wR b o e),I.base.free b o (I.ok.bs b o e).1 (I.ok.bs b o e).2 (I.ok.wR b o e)⟩
theorem Inv.bk(I:Inv X sy σ H s):∀b o,X.base.get? b=some o->s.heap.get? b=some o:=fun b o e=>(I.bs b o e).1
theorem Inv.mod(I:Inv X sy σ H s):Mod X.K X.mg X.base:=I.ok.mod
theorem Inv.kIn(I:Inv X sy σ H s):X.K.In s.heap:=I.ok.mod.kin.keeps I.bk
theorem Inv.lt(I:Inv X sy σ H s):X.env.locals<s.heap.objs.size:=let ⟨_,hn,_⟩:=I.loc;hn.lt
theorem Inv.sz(I:Inv X sy σ H s):X.s₀.heap.objs.size<=s.heap.objs.size:=ML I.ok.above (OH I.lt)
theorem Inv.K9(I:Inv X sy σ H s)(h:s.heap.objs.size<=a):a∉X.fs:=fun hb=>by obtain⟨_,o,ho,_⟩:=I.ok.jC.mem hb;exact absurd (Mq (Mi ho) (ML I.sz h)) (MX _)
theorem Inv.cne(I:Inv X sy σ H s):∀x c,X.env.cells.lookup x=some c->c≠X.env.locals:=fun x c e z=>by obtain⟨v,o,ho,hd⟩:=I.cell x c e;obtain⟨m,⟨o',es,ep,ho',hd',_⟩,_⟩:=I.loc;rw[z,ho']at ho;cases ho;rw[hd']at hd;cases hd
theorem Inv.jC(I:Inv X sy σ H s):s.heap.FunFrames X.base X.outer:=by
 have all:∀(l:List Env),(∀b∈frs l,b∈X.fs)->X.s₀.heap.FunFrames X.base l->s.heap.FunFrames X.base l:=by
  intro l
  induction l with
  |nil=>intro _ _;trivial
  |cons env r ih=>intro hs hl;obtain⟨hk,⟨L,o,hf,hn,ho,hd⟩,hr⟩:=hl;have hL:L∈X.fs:=hs L (by unfold frs;rw[Om,hf];exact Mg);obtain⟨sl,e⟩:=I.base.slot L o ho (I.ok.frf L hL) hL fun z=>I.ok.A8 L z hL;exact⟨hk,⟨L,_,hf,hn,e,hd⟩,ih (fun b hb=>hs b (by unfold frs;rw[Om,hf];exact Mh _ hb)) hr⟩
 exact all X.outer (fun _ hb=>hb) I.ok.jC
theorem Inv.stack(I:Inv X sy σ H s):s.heap.FunFrames X.base X.stack:=by
 rcases I.ok.stk with e | ⟨e,hf⟩
 ·rw[e];exact I.jC
 ·rw[e];obtain⟨m,hn,_⟩:=I.loc;refine .cons (by rw[I.ok.kind];decide) hf hn ?_ I.jC;exact Heap.get?_none_of_le (ML I.ok.bsz I.ok.above)
theorem Inv.rm(I:Inv X sy σ H s):∀b∈frs X.stack,b∈X.env.locals::X.fs:=fun b hb=>by
 rcases I.ok.stk with e | ⟨e,hf⟩
 ·rw[e]at hb;exact Mh _ hb
 ·rw[e]at hb;unfold frs at hb;rw[Om,hf]at hb;exact hb
theorem Inv.tF(I:Inv X sy σ H s):∀b∈frs X.stack,H b=none:=fun b hb=>by
 rcases Mj.mp (I.rm b hb) with e | hb
 ·rw[e];exact I.free
 ·obtain⟨_,o,ho,_⟩:=I.ok.jC.mem hb;exact I.base.free b o ho (I.ok.frf b hb) fun z=>I.ok.A8 b z hb
theorem Inv.step{g':Array GenState}{t':Nat}{d':Drawn}{ch:List Addr}(I:Inv X sy σ H s)
  (hch:∀b∈ch,(b∈X.ex\/X.s₀.heap.objs.size<=b)/\b≠X.env.locals/\(∀x c,X.env.cells.lookup x=some c->c≠b)/\∀p∈X.pn++sy,p.1≠b)
  (keep:∀b o,b≠X.env.locals->b∉X.fs->b∉ch->s.heap.get? b=some o->H b=none->h'.get? b=some o)
  (slot:∀b o,b≠X.env.locals->b∈X.fs->b∉ch->s.heap.get? b=some o->H b=none->∃sl,h'.get? b=some { o with slots:=sl }) (free:∀b o,b∉ch->s.heap.get? b=some o->H b=none->H' b=none)
  (there:∀b o,b∉ch->s.heap.get? b=some o->∃o',h'.get? b=some o')
  (tups:∀b xs,H b=some (.tup xs)->H' b=some (.tup xs)) (nt:∀b o u,H b=some (.frz o u)->H' b=some (.frz o u)) (oR:∀b x y z,H b=some (.tbl x y z)->H' b=some (.tbl x y z))
  (ns:∀m,s.heap.Ns X.env.locals m->h'.Ns X.env.locals m) (hok:HOk X.prog X.w H' h') (hg:AllBare g') :
  Inv X sy σ H' { s with heap:=h',gens:=g',drawn:=d',toks:=t' }:=by
 have neL:∀b o,X.s₀.heap.get? b=some o->b≠X.env.locals:=fun b o e=>MC (Mq (Mi e) I.ok.above);have neC:∀b o,X.s₀.heap.get? b=some o->b∉X.ex->b∉ch:=fun b o e hx hb=>by
  rcases (hch b hb).1 with z | z
  ·exact hx z
  ·exact absurd (Mq (Mi e) z) (MX _)
 have cellK:∀x c,X.env.cells.lookup x=some c->∀v,s.heap.IsCell c v->h'.IsCell c v:=fun x c e v ⟨o,ho,hd⟩=>by
  have nch:c∉ch:=fun z=>(hch c z).2.2.1 x c e rfl;by_cases hc:c∈X.fs
  ·obtain⟨sl,q⟩:=slot c o (I.cne x c e) hc nch ho (I.fC x c e);exact⟨_,q,hd⟩
  ·exact⟨o,keep c o (I.cne x c e) hc nch ho (I.fC x c e),hd⟩
 refine⟨I.ok,I.os,hg,⟨fun b o e n hb hx=>?_,fun b o e n hb hx=>?_,fun b o e n hx=>?_,fun b o e hx=>?_,fun b xs e=>tups b xs (I.base.tups b xs e),fun b o xs e=>nt b o xs (I.base.nt b o xs e),fun b x y z e=>?_⟩,?_,fun x c e=>?_,?_,fun x c e=>?_,fun p hp=>?_,hok,I.len⟩
 ·exact keep b o (neL b o e) hb (neC b o e hx) (I.base.keep b o e n hb hx) (I.base.free b o e n hx)
 ·obtain⟨sl,e1⟩:=I.base.slot b o e n hb hx;obtain⟨sl',e2⟩:=slot b _ (neL b o e) hb (neC b o e hx) e1 (I.base.free b o e n hx);exact⟨sl',e2⟩
 ·obtain⟨o',e1⟩:=I.base.there b o e hx;exact free b o' (neC b o e hx) e1 (I.base.free b o e n hx)
 ·obtain⟨o',e1⟩:=I.base.there b o e hx;exact there b o' (neC b o e hx) e1
 ·exact oR _ _ _ _ (I.base.oR _ _ _ _ e)
 ·obtain⟨m,hn,hl⟩:=I.loc;refine⟨m,ns m hn,fun i x v e1 e2 e3=>?_⟩;obtain⟨u,r,l⟩:=hl i x v e1 e2 e3;refine⟨u,r,?_⟩;rcases l with l | ⟨k,c,e,z⟩
  ·exact .inl l
  ·exact .inr ⟨k,c,e,cellK x c e _ z⟩
 ·obtain⟨v,z⟩:=I.cell x c e;exact⟨v,cellK x c e v z⟩
 ·obtain⟨m,⟨o,_,_,ho,_⟩,_⟩:=I.loc;exact free _ o (fun z=>(hch _ z).2.1 rfl) ho I.free
 ·obtain⟨v,o,ho,hd⟩:=I.cell x c e;exact free c o (fun z=>(hch c z).2.2.1 x c e rfl) ho (I.fC x c e)
 ·obtain⟨e,n,ne,nf,d⟩:=I.pin p hp;have nch:p.1∉ch:=fun z=>(hch p.1 z).2.2.2 p hp rfl;exact⟨keep p.1 p.2 ne nf nch e n,free p.1 p.2 nch e n,ne,nf,d⟩
theorem Inv.un(I:Inv X sy σ H s)(u:Un X.fs [] H H' s.heap h')(hok:HOk X.prog X.w H' h'):Inv X sy σ H' { s with heap:=h',toks:=t' }:=by
 obtain⟨m,⟨o,es,ep,ho,r⟩,_⟩:=id I.loc;obtain⟨sl,hL⟩:=u.any ho I.free (by simp);exact I.step (g':=s.gens) (d':=s.drawn) (ch:=[]) (fun _ z=>nomatch z) (fun b o _ hb _ e n=>u.keep b o e n hb (by simp)) (fun b o _ hb _ e n=>u.slot b o e n hb (by simp)) (fun b o _ e n=>u.free b o e n (by simp)) (fun b o _ e=>u.there b o e (by simp)) u.tups u.nt u.oR (fun m' hm=>by obtain⟨o',es',ep',ho',r'⟩:=hm;rw[ho]at ho';cases ho';exact⟨_,es',ep',hL,r'⟩) hok I.bare
theorem Inv.call{g':Array GenState}{t':Nat}{d':Drawn}(I:Inv X sy σ H s)(u:Un (frs X.stack) ch H H' s.heap h')(hok:HOk X.prog X.w H' h')(hg:AllBare g')
  (hch:∀b∈ch,(b∈X.ex\/X.s₀.heap.objs.size<=b)/\b≠X.env.locals/\(∀x c,X.env.cells.lookup x=some c->c≠b)/\∀p∈X.pn++sy,p.1≠b) :
  Inv X sy σ H' { s with heap:=h',gens:=g',drawn:=d',toks:=t' }:=by
 obtain⟨m,⟨o,es,ep,ho,r⟩,_⟩:=id I.loc;obtain⟨sl,hL⟩:=u.any ho I.free fun z=>(hch _ z).2.1 rfl;exact I.step (ch:=ch) hch (fun b o hL hb hc e n=>u.keep b o e n (fun z=>(Mj.mp (I.rm b z)).elim hL hb) hc) (fun b o _ _ hc e n=>u.any e n hc) (fun b o hc e n=>u.free b o e n hc) (fun b o hc e=>u.there b o e hc) u.tups u.nt u.oR (fun m' hm=>by obtain⟨o',es',ep',ho',r'⟩:=hm;rw[ho]at ho';cases ho';exact⟨_,es',ep',hL,r'⟩) hok hg
theorem Inv.turned{t':Nat}{it:Addr}(I:Inv X sy σ H s)(k:∀b o,b≠it->s.heap.get? b=some o->h'.get? b=some o)(hn:H it=none)(hL:it≠X.env.locals)
  (h1:it∈X.ex\/X.s₀.heap.objs.size<=it) (h2:∀x c,X.env.cells.lookup x=some c->c≠it) (h3:∀p∈X.pn++sy,p.1≠it):Inv X sy σ H { s with heap:=h',toks:=t' }:=by
 have nit:∀b u,H b=some u->b≠it:=fun b u e z=>by rw[z,hn]at e;cases e
 refine I.step (g':=s.gens) (d':=s.drawn) (ch:=[it]) (fun b hb=>?_) (fun b o _ _ hc e _=>k b o (fun z=>hc (by simp[z])) e) (fun b o _ _ hc e _=>⟨o.slots,k b o (fun z=>hc (by simp[z])) e⟩) (fun _ _ _ _ n=>n)
  (fun b o hc e=>⟨o,k b o (fun z=>hc (by simp[z])) e⟩) (fun _ _ e=>e) (fun _ _ _ e=>e) (fun _ _ _ _ e=>e) (fun m hm=>?_) (fun b u e=>?_) I.bare
 ·have e:b=it:=by simpa using hb
  subst e;exact⟨h1,hL,h2,h3⟩
 ·obtain⟨o,es,ep,ho,r⟩:=hm;exact⟨o,es,ep,k _ o (Ne.symm hL) ho,r⟩
 ·refine(I.hok b u e).stay (fun c v hc q=>k c v ?_ q) (fun _ q=>q) (fun _ _ _ q=>q) fun _ _ q=>q;rcases hc with z | z
  ·rw[z];exact nit b u e
  ·exact nit c _ z
theorem Inv.tok(I:Inv X sy σ H s)(t:Nat):Inv X sy σ H { s with toks:=t }:=I.un (h':=s.heap) (t':=t) Un.refl I.hok
theorem Inv.kept(I:Inv X sy σ H s)(k:∀b u,s.heap.get? b=some u->h'.get? b=some u):Inv X sy σ H { s with heap:=h',toks:=t' }:=I.un (Un.kept k) (I.hok.kept k)
theorem Inv.laid{o:HO}{t':Nat}(I:Inv X sy σ H s)(k:∀b u,s.heap.get? b=some u->h'.get? b=some u)(hp:s.heap.objs.size<=a)(new:aM X.prog X.w (upd H a o) h' a o) :
  Inv X sy σ (upd H a o) { s with heap:=h',toks:=t' }:=I.un (Un.laid k hp (I.hok.fresh hp)) (I.hok.laid k hp new)
theorem Inv.write{x e:Addr}{o:HO}{t':Nat}(I:Inv X sy σ H s)(mu:Mut (H x))(he:e=x\/H e=some (.own x))(k:∀b u,b≠e->s.heap.get? b=some u->h'.get? b=some u)(heo:∃u,h'.get? e=some u)
  (new:aM X.prog X.w (upd H x o) h' x o):Inv X sy σ (upd H x o) { s with heap:=h',toks:=t' }:=I.un (Un.write mu he k heo) (I.hok.write mu he k heo new)
theorem Inv.tG{C1:List (Addr×Obj)}(I:Inv X sy σ H s)(h:∀p∈C1,s.heap.get? p.1=some p.2/\H p.1=none/\p.1≠X.env.locals/\p.1∉X.fs/\∀v,p.2.data≠.cell v):Inv X C1 σ H s:=
 ⟨I.ok,I.os,I.bare,I.base,I.loc,I.cell,I.free,I.fC,fun p hp=>(Mv.mp hp).elim (fun z=>I.pin p (MF _ z)) (h p),I.hok,I.len⟩
theorem oS{N:List Str}(hN:N.Nodup){i j:Nat}(a:N[i]?=some x)(b:N[j]?=some x):i=j:=by obtain⟨h1,e1⟩:=Me.mp a;obtain⟨h2,e2⟩:=Me.mp b;exact(List.getElem_inj hN).mp (e1.trans e2.symm)
theorem mh{M:Model}{A:Around}{E:Value->Shared->Prop}{Q:Unit->Shared->Prop}(I:Inv X sy σ H s)(hN:X.N.Nodup)(hi:X.N[i]?=some x)(hx:Loc X.env.scope x)(r:RelV v u)
  (h:∀s',Inv X sy (σ.set i (some v)) H s'->(∃a,N2 a s.heap s'.heap/\(a=X.env.locals\/X.env.cells.lookup x=some a))->Q () s') (hf:X.fn x=true\/X.env.scope.names.lookup x=some .local:=by trivial):wpAny M A (storeName X.env x u) Q E s:=by
 obtain⟨m,hn,hl⟩:=id I.loc;have hcls:(X.env.scope.kind == .class||(X.env.scope.kind == .module&&X.env.locals != X.env.globals))=false:=by rw[I.ok.kind];rfl
 have hiσ:i<σ.length:=by rw[I.len];exact(Me.mp hi).1
 have cne:=I.cne;have tracked:∀{a:Addr} {h':Heap},(∃o,s.heap.get? a=some o/\H a=none)->N2 a s.heap h'->HOk X.prog X.w H h':=fun {a h'} ha hs b ob e=>by
  obtain⟨_,_,hfree⟩:=ha;refine(I.hok b ob e).stay (fun c w' hc q=>(hs.2 c ?_).trans q) (fun _ q=>q) (fun _ _ _ q=>q) fun _ _ q=>q;rintro rfl;rcases hc with rfl | hc
  ·rw[hfree]at e;cases e
  ·rw[hfree]at hc;cases hc
 rcases hx with hk | hk
 ·refine wpAny_storeName_local hk hn (fun h' hn' hs=>?_) hcls;obtain⟨oL,_,_,hoL,_⟩:=id hn;refine h _ ⟨I.ok,I.os,I.bare,⟨fun b o e n hb hx=>?_,fun b o e n hb hx=>?_,I.base.free,fun b o e hx=>?_,I.base.tups,I.base.nt,I.base.oR⟩,⟨_,hn',fun j y v' e1 e2 e3=>?_⟩,fun y c e=>?_,I.free,I.fC,fun p hp=>?_,tracked ⟨oL,hoL,I.free⟩ hs,by simpa using I.len⟩ ⟨_,hs,.inl rfl⟩
  ·exact(hs.2 b (MC (Mq (Mi e) I.ok.above))).trans (I.base.keep b o e n hb hx)
  ·obtain⟨sl,e1⟩:=I.base.slot b o e n hb hx;exact⟨sl,(hs.2 b (MC (Mq (Mi e) I.ok.above))).trans e1⟩
  ·obtain⟨o',e1⟩:=I.base.there b o e hx;exact⟨o',(hs.2 b (MC (Mq (Mi e) I.ok.above))).trans e1⟩
  ·by_cases hj:j=i
   ·subst hj;rw[hi]at e1;cases e1;rw[My hiσ]at e2;cases e2;exact⟨u,r,.inl ⟨hk,by simp⟩⟩
   ·rw[gV (Ne.symm hj)]at e2;obtain⟨u',r',q⟩:=hl j y v' e1 e2 e3;refine⟨u',r',?_⟩;rcases q with⟨k,e⟩ | ⟨k,c,e,z⟩
    ·refine .inl ⟨k,?_⟩;have:y≠x:=fun e=>hj (oS hN e1 (e▸hi));simp[this,e]
    ·exact .inr ⟨k,c,e,z.sameBut hs (cne y c e)⟩
  ·obtain⟨w',z⟩:=I.cell y c e;exact⟨w',z.sameBut hs (cne y c e)⟩
  ·obtain⟨e,n,ne,nf,d⟩:=I.pin p hp;exact⟨(hs.2 p.1 ne).trans e,n,ne,nf,d⟩
 ·have hfn:X.fn x=true:=by
   rcases hf with z | z
   ·exact z
   ·rw[z]at hk;cases hk
  obtain⟨c,hc⟩:=I.ok.has x (.inl hk);obtain⟨w',z⟩:=I.cell x c hc;refine wpAny_storeName_cell I.ok.kind hk hc z (fun h' hc' hs=>?_);obtain⟨oc,hoc,K_⟩:=id z;refine h { s with heap:=h' } ⟨I.ok,I.os,I.bare,⟨fun b o e n hb hx=>?_,fun b o e n hb hx=>?_,I.base.free,fun b o e hx=>?_,I.base.tups,I.base.nt,I.base.oR⟩,⟨m,hn.sameBut hs (Ne.symm (cne x c hc)),fun j y v' e1 e2 e3=>?_⟩,fun y c' e=>?_,I.free,I.fC,fun p hp=>?_,tracked ⟨oc,hoc,I.fC x c hc⟩ hs,by simpa using I.len⟩ ⟨c,hs,.inr hc⟩
  ·exact(hs.2 b (MC (Mq (Mi e) (I.ok.cab x c hfn hc)))).trans (I.base.keep b o e n hb hx)
  ·obtain⟨sl,e1⟩:=I.base.slot b o e n hb hx;exact⟨sl,(hs.2 b (MC (Mq (Mi e) (I.ok.cab x c hfn hc)))).trans e1⟩
  ·obtain⟨o',e1⟩:=I.base.there b o e hx;exact⟨o',(hs.2 b (MC (Mq (Mi e) (I.ok.cab x c hfn hc)))).trans e1⟩
  ·by_cases hj:j=i
   ·subst hj;rw[hi]at e1;cases e1;rw[My hiσ]at e2;cases e2;exact⟨u,r,.inr ⟨.inl hk,c,hc,hc'⟩⟩
   ·rw[gV (Ne.symm hj)]at e2;obtain⟨u',r',q⟩:=hl j y v' e1 e2 e3;refine⟨u',r',?_⟩;rcases q with q | ⟨k,c',e,z'⟩
    ·exact .inl q
    ·refine .inr ⟨k,c',e,z'.sameBut hs ?_⟩;rintro rfl;exact hj (oS hN e1 (I.ok.inj _ _ _ e hc▸hi))
  ·by_cases hcc:c'=c
   ·subst hcc;exact⟨_,hc'⟩
   ·obtain⟨w2,z2⟩:=I.cell y c' e;exact⟨w2,z2.sameBut hs hcc⟩
  ·obtain⟨e,n,ne,nf,d⟩:=I.pin p hp;refine⟨(hs.2 p.1 ?_).trans e,n,ne,nf,d⟩;intro q;rw[q,hoc]at e;have q':oc=p.2:=Option.some.inj e;exact d w' (by rw[<- q'];exact K_)
theorem oU{M:Model}{A:Around}{E:Value->Shared->Prop}{Q:Unit->Shared->Prop}(I:Inv X sy σ H s)(hN:X.N.Nodup)(hi:X.N[i]?=some x)(hx:Loc X.env.scope x)(r:RelV v u)
  (h:∀s',Inv X sy (σ.set i (some v)) H s'->Q () s') (hf:X.fn x=true\/X.env.scope.names.lookup x=some .local:=by trivial):wpAny M A (storeName X.env x u) Q E s:=
 mh I hN hi hx r (fun s' I' _=>h s' I') hf
theorem Inv.Ia{s':Shared}(I:Inv X sy σ H s)(ho:s'.os=s.os)(u:Un (frs X.stack) ch H H' s.heap s'.heap)(hok:HOk X.prog X.w H' s'.heap)(hg:AllBare s'.gens)
  (hch:∀b∈ch,(b∈X.ex\/X.s₀.heap.objs.size<=b)/\b≠X.env.locals/\(∀x c,X.env.cells.lookup x=some c->c≠b)/\∀p∈X.pn++sy,p.1≠b):Inv X sy σ H' s':=by
 obtain⟨h',g',d',t',o'⟩:=s';have e:o'=s.os:=ho;subst e;exact I.call (g':=g') (t':=t') (d':=d') u hok hg hch
end
end
noncomputable abbrev XK:=Value->Option Addr->Hp->Prop
noncomputable abbrev St:=List (Option V)
noncomputable abbrev VK:=V->Hp->Prop
noncomputable abbrev TE:=St->Hp->VK->Prop
noncomputable abbrev TT:=St->Hp->(Bool->Hp->Prop)->Prop
noncomputable abbrev TA:=St->Hp->(List V->Hp->Prop)->Prop
structure Ends where
 nx:St->Hp->Prop
 rt:VK
 bk:St->Hp->Prop:=fun _ _=>False
 ct:St->Hp->Prop:=fun _ _=>False
noncomputable abbrev TS:=Ends->St->Hp->Prop
def EP(X:Cx)(sy:List (Addr×Obj))(σ:St)(Q:VK)(u:Value)(s':Shared):Prop:=∃v H',Inv X sy σ H' s'/\RelV v u/\Q v H'
def TP(X:Cx)(sy:List (Addr×Obj))(σ:St)(Q:Bool->Hp->Prop)(b:Bool)(s':Shared):Prop:=∃H',Inv X sy σ H' s'/\Q b H'
def AP(X:Cx)(sy:List (Addr×Obj))(σ:St)(Q:List V->Hp->Prop)(us:List Value)(s':Shared):Prop:=∃vs H',Inv X sy σ H' s'/\Vals vs us/\Q vs H'
def SP(X:Cx)(sy:List (Addr×Obj))(D:Ends)(f:Flow)(s':Shared):Prop:=
 match f with
 |.next=>∃σ' H',Inv X sy σ' H' s'/\D.nx σ' H'
 |.brk=>∃σ' H',Inv X sy σ' H' s'/\D.bk σ' H'
 |.cont=>∃σ' H',Inv X sy σ' H' s'/\D.ct σ' H'
 |.ret u=>∃v σ' H',Inv X sy σ' H' s'/\RelV v u/\D.rt v H'
def PE(X:Cx)(e:Expr)(t:TE):Prop:=
 ∀(sy:List (Addr×Obj)) (s:Shared) (σ:St) (H:Hp) (Q:VK),Inv X sy σ H s->t σ H Q->wpAny (model X.prog X.w) X.A (eval e X.env) (EP X sy σ Q) X.xe s
def PT(X:Cx)(e:Expr)(t:TT):Prop:=
 ∀(sy:List (Addr×Obj)) (s:Shared) (σ:St) (H:Hp) (Q:Bool->Hp->Prop),Inv X sy σ H s->t σ H Q->wpAny (model X.prog X.w) X.A (isTrue e X.env (eval e X.env)) (TP X sy σ Q) X.xe s
def PW(X:Cx)(e:Expr)(t:TT):Prop:=
 ∀(whole:Sem Value) (sy:List (Addr×Obj)) (s:Shared) (σ:St) (H:Hp) (Q:Bool->Hp->Prop),Inv X sy σ H s->t σ H Q->wpAny (model X.prog X.w) X.A (isTrue e X.env whole) (TP X sy σ Q) X.xe s
theorem PW.pt{X:Cx}{e:Expr}{t:TT}(h:PW X e t):PT X e t:=h _
def PA(X:Cx)(es:List Expr)(t:TA):Prop:=
 ∀(pos:Pos) (sy:List (Addr×Obj)) (s:Shared) (σ:St) (H:Hp) (Q:List V->Hp->Prop),Inv X sy σ H s->t σ H Q->wpAny (model X.prog X.w) X.A (spliced (backTo pos (starEach es X.env))) (AP X sy σ Q) X.xe s
def PS(X:Cx)(st:Stmt)(t:TS):Prop:=
 ∀(sy:List (Addr×Obj)) (s:Shared) (σ:St) (H:Hp) (D:Ends),Inv X sy σ H s->t D σ H->wpAny (model X.prog X.w) X.A (exec st X.env) (SP X sy D) X.xe s
def PSs(X:Cx)(st:List Stmt)(t:TS):Prop:=
 ∀(sy:List (Addr×Obj)) (s:Shared) (σ:St) (H:Hp) (D:Ends),Inv X sy σ H s->t D σ H->wpAny (model X.prog X.w) X.A (execs st X.env) (SP X sy D) X.xe s
theorem thn{α:Type}{t:Sem α}{Q Q':α->Shared->Prop}{M:Model}{A:Around}{E:Value->Shared->Prop}{s:Shared}(h:wpAny M A t Q E s)(hQ:∀a s,Q a s->Q' a s):wpAny M A t Q' E s:=wpAny_mono h hQ fun _ _ x=>x
section
variable{X:Cx}
section
variable{Q:Value->Shared->Prop}{sy:List (Addr×Obj)}{u:Value}{x:Str}{s:Shared}{t:TE}{H:Hp}{σ:St}{v:V}
def nv(i:Nat):TE:=fun σ H Q=>∃v,σ[i]?=some (some v)/\Q v H
def tC(v:V):TE:=fun _ H Q=>Q v H
theorem dW{i:Nat}{pos:Pos}(hN:X.N[i]?=some x)(hv:Vis X.env.scope x)(hd:(x == ("__debug__" : Str))=false:=by decide)(JO:(x == ("__classdict__" : Str))=false:=by decide):PE X (.Name x pos) (nv i):=by
 intro sy s σ H Q I h;obtain⟨v,e,h⟩:=h;obtain⟨m,hn,hl⟩:=I.loc;obtain⟨u,r,l⟩:=hl i x v hN e hv;have JM:EP X sy σ Q u s:=⟨v,H,I,r,h⟩
 rcases l with⟨hk,hm⟩ | ⟨hk,c,hc,hcell⟩
 ·exact wpAny_Name (wpAny_loadName_local I.ok.kind hk hn hm JM) hd
 ·rcases hk with hk | hk
  ·exact wpAny_Name (wpAny_loadName_cell I.ok.kind hk hc hcell JM) hd
  ·exact wpAny_Name (wpAny_loadName_free I.ok.kind hk hc hcell JM JO) hd
theorem wU{i j pos}:PE X (.Constant (.int i) j pos) (tC (.int i)):=fun _ _ _ H _ I h=>wpAny_Constant_int ⟨.int i,H,I.tok _,⟨_,rfl⟩,h⟩
theorem Ib{b j pos}:PE X (.Constant (.bool b) j pos) (tC (.bl b)):=fun _ _ _ H _ I h=>Constant_bool ⟨.bl b,H,I,rfl,h⟩
theorem ED{j pos}:PE X (.Constant .none j pos) (tC .non):=fun _ _ _ H _ I h=>Constant_none ⟨.non,H,I,rfl,h⟩
theorem EE{x j pos}:PE X (.Constant (.str x) j pos) (tC (.str x)):=fun _ _ _ H _ I h=>Calls.Constant_str ⟨.str x,H,I.tok _,⟨_,rfl⟩,h⟩
def Gl(X:Cx)(x:Str):Prop:=X.env.kindOf x=some .globalImplicit
theorem tH{E:Value->Shared->Prop}{pos:Pos}(I:Inv X sy σ H s)(hg:Gl X x)(hm:X.mg x=some u)(h:Q u s)
  (hd:(x == ("__debug__" : Str))=false:=by decide):wpAny (model X.prog X.w) X.A (eval (.Name x pos) X.env) Q E s:=
 Calls.Name_function_global I.ok.kind hg (Calls.loadGlobal_global (by rw[I.ok.glob];exact I.mod.glob.keeps I.bk) hm h) hd
theorem cj{E:Value->Shared->Prop}{pos:Pos}(I:Inv X sy σ H s)(hg:Gl X x)(hm:X.mg x=none)(hv:bootBuiltins x=some u)(h:Q u s)
  (hn:x ≠ "__name__" := by decide) (hd:(x == ("__debug__" : Str))=false:=by decide):wpAny (model X.prog X.w) X.A (eval (.Name x pos) X.env) Q E s:=by
 obtain⟨mb,h1,h2⟩:=I.mod.blt;exact Calls.Name_function_global I.ok.kind hg (Calls.loadGlobal_builtin (by rw[I.ok.glob];exact I.mod.glob.keeps I.bk) hm (by rw[I.ok.blt];exact h1.keeps I.bk) ((h2 x hn).trans hv) h) hd
theorem A9{pos:Pos}(hg:Gl X x)(hm:X.mg x=some u)(r:RelV v u)(hd:(x == ("__debug__" : Str))=false:=by decide):PE X (.Name x pos) (tC v):=
 fun _ _ _ H _ I h=>tH I hg hm ⟨v,H,I,r,h⟩ hd
theorem A_{pos:Pos}(hg:Gl X x)(hm:X.mg x=none)(hv:bootBuiltins x=some u)(r:RelV v u)(hn:x ≠ "__name__" := by decide)(hd:(x == ("__debug__" : Str))=false:=by decide):PE X (.Name x pos) (tC v):=
 fun _ _ _ H _ I h=>cj I hg hm hv ⟨v,H,I,r,h⟩ hn hd
variable{a b:Expr}{ta tb:TE}{pos:Pos}
def PC(X:Cx)(op:CmpOp)(a b:Expr)(t:TE):Prop:=
 ∀(sy:List (Addr×Obj)) (s:Shared) (σ:St) (H:Hp) (Q:VK),Inv X sy σ H s->t σ H Q ->
  wpAny (model X.prog X.w) X.A (eval a X.env) (fun v s₁=>wpAny (model X.prog X.w) X.A (eval b X.env) (fun u s₂=>wpAny (model X.prog X.w) X.A (compareOp op v u) (EP X sy σ Q) X.xe s₂) X.xe s₁) X.xe s
def tB(t:TE):TT:=fun σ H Q=>t σ H fun x H1=>∃c,x=.bl c/\Q c H1
theorem wV{op:CmpOp}(h:PC X op a b t)(h1:behindInMarks op b=false:=by first | exact Ic _ (by decide) (by decide) | rfl):PT X (.Compare a [op] [b] pos) (tB t):=by intro sy s σ H Q I hw;refine wpAny_isTrue_Compare1 (thn (h sy s σ H _ I hw) fun v s1 h1=>thn h1 fun u s2 h2=>thn h2 fun c s3 ⟨x,H1,I1,r1,q1⟩=>?_) h1;obtain⟨d,rfl,q⟩:=q1;cases r1;exact wpAny_truthy_bool ⟨H1,I1,q⟩
theorem EF{e:Expr}(h:PE X e t)(he:∀whole,isTrue e X.env whole=(do let v <- whole;standAt e.pos;holding [v] (truthy v)):=by intro _;rfl):PT X e (tB t):=by intro sy s σ H Q I hw;refine isTrue_plain (thn (h sy s σ H _ I hw) fun v s1 ⟨x,H1,I1,r1,q1⟩=>?_) (he _);obtain⟨d,rfl,q⟩:=q1;cases r1;exact wpAny_truthy_bool ⟨H1,I1,q⟩
variable{tA tB':TT}{En:List Expr}
def jD(t u:TT):TT:=fun σ H Q=>t σ H fun c H1=>if c=true then u σ H1 Q else Q false H1
def tOr(t u:TT):TT:=fun σ H Q=>t σ H fun c H1=>if c=true then Q true H1 else u σ H1 Q
def cR(t:TT):TT:=fun σ H Q=>t σ H fun c H1=>Q (!c) H1
theorem pw_and1(ha:PT X a tA):PW X (.BoolOp .And [a] pos) tA:=by
 intro wh sy s σ H Q I h;refine isTrue_and (thn (ha sy s σ H Q I h) fun c s1 e=>?_);cases c with
 |true=>exact isTrue_and_nil e
 |false=>exact e
theorem pw_or1(ha:PT X a tA):PW X (.BoolOp .Or [a] pos) tA:=by
 intro wh sy s σ H Q I h;refine isTrue_or (thn (ha sy s σ H Q I h) fun c s1 e=>?_);cases c with
 |false=>exact isTrue_or_nil e
 |true=>exact e
theorem pw_and(ha:PT X a tA)(hb:PW X (.BoolOp .And (b::En) pos) tB'):PW X (.BoolOp .And (a::b::En) pos) (jD tA tB'):=by
 intro wh sy s σ H Q I h;refine isTrue_and (thn (ha sy s σ H _ I h) fun c s1 ⟨H1,I1,q1⟩=>?_);cases c with
 |true=>exact hb wh sy s1 σ H1 Q I1 q1
 |false=>exact⟨H1,I1,q1⟩
theorem pw_or(ha:PT X a tA)(hb:PW X (.BoolOp .Or (b::En) pos) tB'):PW X (.BoolOp .Or (a::b::En) pos) (tOr tA tB'):=by
 intro wh sy s σ H Q I h;refine isTrue_or (thn (ha sy s σ H _ I h) fun c s1 ⟨H1,I1,q1⟩=>?_);cases c with
 |true=>exact⟨H1,I1,q1⟩
 |false=>exact hb wh sy s1 σ H1 Q I1 q1
theorem EG(ha:PT X a tA):PT X (.UnaryOp .Not a pos) (cR tA):=by intro sy s σ H Q I h;exact isTrue_not (ha sy s σ H (fun c H1=>Q (!c) H1) I h)
def C2(ta tb:TE):TE:=fun σ H Q=>ta σ H fun x H1=>∃c,x=.bl c/\if c=true then tb σ H1 Q else Q (.bl false) H1
def C3(ta:TE):TE:=fun σ H Q=>ta σ H fun x H1=>∃c,x=.bl c/\Q (.bl (!c)) H1
theorem EH{op}(h:PE X a t):PE X (.BoolOp op [a] pos) t:=fun sy s σ H Q I hw=>BoolOp_one (h sy s σ H Q I hw)
theorem EI(ha:PE X a ta)(hb:PE X (.BoolOp .And (b::En) pos) tb):PE X (.BoolOp .And (a::b::En) pos) (C2 ta tb):=by
 intro sy s σ H Q I h;refine BoolOp_and (thn (ha sy s σ H _ I h) fun v s1 ⟨x,H1,I1,r1,q1⟩=>?_);obtain⟨c,rfl,q1⟩:=q1;cases r1;refine wpAny_truthy_bool ?_;cases c with
 |true=>exact hb sy s1 σ H1 Q I1 q1
 |false=>exact⟨.bl false,H1,I1,rfl,q1⟩
theorem EJ(ha:PE X a ta):PE X (.UnaryOp .Not a pos) (C3 ta):=by intro sy s σ H Q I h;refine UnaryOp_ (thn (ha sy s σ H _ I h) fun v s1 ⟨x,H1,I1,r1,q1⟩=>?_);obtain⟨c,rfl,q1⟩:=q1;cases r1;exact not_of (wpAny_truthy_bool ⟨.bl (!c),H1,I1,rfl,q1⟩)
def tIf(t:TT)(ta tb:TE):TE:=fun σ H Q=>t σ H fun c H1=>if c=true then ta σ H1 Q else tb σ H1 Q
theorem wW{c:Expr}(hc:PT X c tA)(ha:PE X a ta)(hb:PE X b tb):PE X (.IfExp c a b pos) (tIf tA ta tb):=by
 intro sy s σ H Q I h;refine wpAny_IfExp (thn (hc sy s σ H _ I h) fun d s1 ⟨H1,I1,q1⟩=>?_);cases d with
 |true=>exact ha sy s1 σ H1 Q I1 q1
 |false=>exact hb sy s1 σ H1 Q I1 q1
end
end
def SqL(K:gc)(H:Hp)(a:Addr)(xs:List V):Prop:=
 Rd H a (.lst xs) \/
  ∃(o:Obj) (its:Array Value) (n:Nat),K.lookup a=some o/\o.cls=.type "list" /\ o.dict=none/\o.data=.seq its n/\its.size<=sizeLine/\Vals xs its.toList
def SqT(K:gc)(H:Hp)(a:Addr)(xs:List V):Prop:=
 Rd H a (.tup xs) \/
  ∃(o:Obj) (its:Array Value) (n:Nat),K.lookup a=some o/\o.cls=.type "tuple" /\ o.data=.seq its n/\its.size<=sizeLine/\Vals xs its.toList
noncomputable def La:Value->Option V
 |.none=>some .non
 |.bool b=>some (.bl b)
 |.int i _=>some (.int i)
 |.str x _=>some (.str x)
 |.bytes b _=>some (.byt b)
 |.float b _=>some (.flt b)
 |.ref a=>some (.ref a)
 |.type n=>some (.ty n)
 |_=>none
theorem RelV.abs{x:V}{u:Value}(r:RelV x u):La u=some x:=by
 cases x with
 |non=>cases r;rfl
 |bl _=>cases r;rfl
 |int _=>obtain⟨t,rfl⟩:=r;rfl
 |str _=>obtain⟨t,rfl⟩:=r;rfl
 |byt _=>obtain⟨t,rfl⟩:=r;rfl
 |flt _=>obtain⟨t,rfl⟩:=r;rfl
 |ref _=>cases r;rfl
 |ty _=>cases r;rfl
theorem RelV.inj{x y:V}{u:Value}(r:RelV x u)(q:RelV y u):x=y:=Option.some.inj (r.abs.symm.trans q.abs)
theorem Vals.inj:∀{xs ys:List V} {us:List Value},Vals xs us->Vals ys us->xs=ys
 |_,_,_,.nil,.nil=>rfl
 |_,_,_,.cons r t,.cons r' t'=>by rw[r.inj r',Vals.inj t t']
section
variable{X:Cx}{sy:List (Addr×Obj)}{σ:St}{H:Hp}{s:Shared}{a:Addr}{xs ys:List V}
theorem SqT.of{K:gc}(h:H a=some (.tup xs)):SqT K H a xs:=.inl (.inl h)
theorem Inv.list(I:Inv X sy σ H s)(h:SqL X.K H a xs):∃its:List Value,Vals xs its/\PlainL s.heap a its.toArray/\xs.length<=sizeLine:=by
 rcases h with h | ⟨o,its,n,hk,hc,hd,hs,hz,r⟩
 ·obtain⟨z,its,n,r,e⟩:=h.ok I.hok;exact⟨its,r,⟨_,n,e,rfl,rfl,rfl⟩,z⟩
 ·refine⟨its.toList,r,⟨o,n,I.kIn a o hk,hc,hd,by simpa using hs⟩,?_⟩;have e:=r.length;simp only[Nr]at e
  lia
theorem Inv.tuple(I:Inv X sy σ H s)(h:SqT X.K H a xs):∃its:List Value,Vals xs its/\IsTup s.heap a its.toArray/\xs.length<=sizeLine:=by
 rcases h with h | ⟨o,its,n,hk,hc,hs,hz,r⟩
 ·obtain⟨z,its,r,p⟩:=h.ok I.hok;exact⟨its,r,p,z⟩
 ·refine⟨its.toList,r,⟨o,I.kIn a o hk,hc,n,by simpa using hs⟩,?_⟩;have e:=r.length;simp only[Nr]at e
  lia
theorem Inv.dX(I:Inv X sy σ H s)(h:SqL X.K H a xs)(h':SqL X.K H a ys):xs=ys:=by
 obtain⟨its,r,⟨o,n,e,_,_,d⟩,_⟩:=I.list h;obtain⟨its',r',⟨o',n',e',_,_,d'⟩,_⟩:=I.list h';rw[e]at e';cases e';rw[d]at d';injection d' with d1 _
 have:its=its':=by simpa using congrArg Array.toList d1
 subst this;exact r.inj r'
theorem Inv.vg(I:Inv X sy σ H s)(h:SqT X.K H a xs)(h':SqT X.K H a ys):xs=ys:=by
 obtain⟨its,r,⟨o,e,_,n,d⟩,_⟩:=I.tuple h;obtain⟨its',r',⟨o',e',_,n',d'⟩,_⟩:=I.tuple h';rw[e]at e';cases e';rw[d]at d';injection d' with d1 _
 have:its=its':=by simpa using congrArg Array.toList d1
 subst this;exact r.inj r'
end
noncomputable abbrev Cx.lV(X:Cx)(E:Value->Shared->Prop):Cx:={ X with xe:=E }
noncomputable abbrev Cx.nox(X:Cx):Cx:=X.lV fun _ _=>False
theorem Cx.Ok.lV{X:Cx}(ok:X.Ok)(E:Value->Shared->Prop):(X.lV E).Ok:=
 ⟨ok.mod,ok.kind,ok.glob,ok.blt,ok.above,ok.inj,ok.has,ok.cab,ok.hd,ok.frames,ok.stk,ok.exf,ok.bs,ok.bsz,ok.wR,ok.A8,ok.jC,ok.frf⟩
theorem Cx.Ok.dY{X:Cx}{E:Value->Shared->Prop}(ok:(X.lV E).Ok):X.Ok:=
 ⟨ok.mod,ok.kind,ok.glob,ok.blt,ok.above,ok.inj,ok.has,ok.cab,ok.hd,ok.frames,ok.stk,ok.exf,ok.bs,ok.bsz,ok.wR,ok.A8,ok.jC,ok.frf⟩
section
variable{X:Cx}{sy:List (Addr×Obj)}{σ:St}{H:Hp}{s:Shared}{E:Value->Shared->Prop}
theorem Inv.lV(I:Inv X sy σ H s)(E:Value->Shared->Prop):Inv (X.lV E) sy σ H s:=⟨I.ok.lV E,I.os,I.bare,I.base,I.loc,I.cell,I.free,I.fC,I.pin,I.hok,I.len⟩
theorem Inv.dY(I:Inv (X.lV E) sy σ H s):Inv X sy σ H s:=⟨I.ok.dY,I.os,I.bare,I.base,I.loc,I.cell,I.free,I.fC,I.pin,I.hok,I.len⟩
theorem SP.dY{D:Ends}{f:Flow}{s':Shared}(h:SP (X.lV E) sy D f s'):SP X sy D f s':=by
 cases f with
 |next=>obtain⟨σ',H',I,q⟩:=h;exact⟨σ',H',I.dY,q⟩
 |brk=>obtain⟨σ',H',I,q⟩:=h;exact⟨σ',H',I.dY,q⟩
 |cont=>obtain⟨σ',H',I,q⟩:=h;exact⟨σ',H',I.dY,q⟩
 |ret u=>obtain⟨v,σ',H',I,r,q⟩:=h;exact⟨v,σ',H',I.dY,r,q⟩
theorem PSs.nox{st:List Stmt}{t:TS}(h:PSs X.nox st t):PSs X st t:=fun sy s σ H D I hw=>wpAny_mono (h sy s σ H D (I.lV _) hw) (fun _ _ q=>q.dY) fun _ _ z=>MN z
end
section
variable{X:Cx}{st:Stmt}{En:List Stmt}{t u:TS}{e:Expr}{te:TE}{pos:Pos}
def wX:TS:=fun D σ H=>D.nx σ H
def vh(t u:TS):TS:=fun D σ H=>t { D with nx:=u D } σ H
theorem tK:PSs X [] wX:=fun _ _ σ H _ I h=>wpAny_execs_nil ⟨σ,H,I,h⟩
theorem gQ(h1:PS X st t)(h2:PSs X En u):PSs X (st::En) (vh t u):=by
 intro sy s σ H D I h;refine wpAny_execs_cons (thn (h1 sy s σ H { D with nx:=u D } I h) fun f s1 q=>?_);cases f with
 |next=>obtain⟨σ',H',I',q⟩:=q;exact h2 sy s1 σ' H' D I' q
 |ret v=>exact q
 |brk=>exact q
 |cont=>exact q
theorem tL(h1:PS X st t):PSs X [st] t:=by
 intro sy s σ H D I h;refine wpAny_execs_cons (thn (h1 sy s σ H D I h) fun f s1 q=>?_);cases f with
 |next=>exact wpAny_execs_nil q
 |ret v=>exact q
 |brk=>exact q
 |cont=>exact q
theorem Inv.quiet{sy:List (Addr×Obj)}{σ:St}{H:Hp}{s:Shared}(I:Inv X sy σ H s):interactive X.env=false:=by simp[interactive,I.ok.kind]
def tM(te:TE):TS:=fun D σ H=>te σ H fun _ H1=>D.nx σ H1
theorem ny(he:PE X e te)(hs:swapsWith e none pos.line X.env=pure false:=by rfl):PS X (.Expr e pos) (tM te):=by intro sy s σ H D I h;exact wpAny_Expr_any (thn (he sy s σ H _ I h) fun v s1 ⟨x,H1,I1,r1,q1⟩=>⟨σ,H1,I1,q1⟩) I.quiet hs
def Ie(te:TE):TS:=fun D σ H=>te σ H D.rt
theorem EK(he:PE X e te):PS X (.Return (some e) pos) (Ie te):=by intro sy s σ H D I h;exact wpAny_Return_some (thn (he sy s σ H _ I h) fun v s1 ⟨x,H1,I1,r1,q1⟩=>⟨x,σ,H1,I1,r1,q1⟩)
def EL(c:TT)(t u:TS):TS:=fun D σ H=>c σ H fun b H1=>if b=true then t D σ H1 else u D σ H1
theorem C4{c:Expr}{a b:List Stmt}{tc:TT}(hc:PT X c tc)(ha:PSs X a t)(hb:PSs X b u):PS X (.If c a b pos) (EL tc t u):=by
 intro sy s σ H D I h;refine wpAny_If (thn (hc sy s σ H _ I h) fun d s1 ⟨H1,I1,q1⟩=>?_);cases d with
 |true=>exact ha sy s1 σ H1 D I1 q1
 |false=>exact hb sy s1 σ H1 D I1 q1
def EM:TS:=fun _ _ _=>False
theorem wY:PS X st EM:=fun _ _ _ _ _ _ h=>h.elim
end
noncomputable abbrev TG:=V->St->Hp->(St->Hp->Prop)->Prop
noncomputable abbrev TGs:=List V->St->Hp->(St->Hp->Prop)->Prop
def PG(X:Cx)(target:Expr)(t:TG):Prop:=
 ∀(sy:List (Addr×Obj)) (s:Shared) (σ:St) (H:Hp) (v:V) (u:Value) (Q:St->Hp->Prop),Inv X sy σ H s->RelV v u->t v σ H Q ->
  wpAny (model X.prog X.w) X.A (assign target X.env u) (fun _ s'=>∃σ' H',Inv X sy σ' H' s'/\Q σ' H') X.xe s
def PGs(X:Cx)(ts:List Expr)(t:TGs):Prop:=
 ∀(sy:List (Addr×Obj)) (s:Shared) (σ:St) (H:Hp) (vs:List V) (us:List Value) (Q:St->Hp->Prop),Inv X sy σ H s->Vals vs us->t vs σ H Q ->
  wpAny (model X.prog X.w) X.A (assignInOrder ((assignEach ts X.env).map (·.2)) us) (fun _ s'=>∃σ' H',Inv X sy σ' H' s'/\Q σ' H') X.xe s
noncomputable abbrev EN:=V->V->V->Hp->(Hp->Prop)->Prop
def Ig(X:Cx)(t:EN):Prop:=
 ∀(sy:List (Addr×Obj)) (s:Shared) (σ:St) (H:Hp) (o i v:V) (ov iv u:Value) (Q:Hp->Prop),Inv X sy σ H s->RelV o ov->RelV i iv->RelV v u->t o i v H Q ->
  wpAny (model X.prog X.w) X.A (setItem ov iv u) (fun _ s'=>∃H',Inv X sy σ H' s'/\Q H') X.xe s
section
variable{X:Cx}{pos:Pos}
section
variable{es:List Expr}{e:Expr}{i:Nat}{x:Str}{te:TE}
def gR(i:Nat):TG:=fun v σ H Q=>Q (σ.set i (some v)) H
theorem nA(hN:X.N.Nodup)(hi:X.N[i]?=some x)(hx:Loc X.env.scope x)(hf:X.fn x=true\/X.env.scope.names.lookup x=some .local:=by trivial):PG X (.Name x pos) (gR i):=by intro sy s σ H v u Q I r h;exact wpAny_assign_Name (oU I hN hi hx r (fun s' I'=>⟨_,H,I',h⟩) hf)
def Ih:TGs:=fun vs σ H Q=>vs=[]/\Q σ H
def C5(t:TG)(u:TGs):TGs:=fun vs σ H Q=>∃v r,vs=v::r/\t v σ H fun σ' H'=>u r σ' H' Q
theorem Ba:PGs X [] Ih:=by intro sy s σ H vs us Q I r h;obtain⟨e,h⟩:=h;subst e;cases r;exact assignInOrder_nil ⟨σ,H,I,h⟩
theorem wZ{t:TG}{u:TGs}(h1:PG X e t)(h2:PGs X es u)
  (hs:(assignEach (e::es) X.env).map (·.2)=assign e X.env::(assignEach es X.env).map (·.2):=by rfl):PGs X (e::es) (C5 t u):=by
 intro sy s σ H vs us Q I r h;obtain⟨v,vr,e1,h⟩:=h;subst e1;cases r with
 |cons r rr=>rw[hs];refine assignInOrder_cons (thn (h1 sy s σ H _ _ _ I r h) fun _ s1 ⟨σ1,H1,I1,q1⟩=>?_);exact h2 sy s1 σ1 H1 _ _ Q I1 rr q1
def Ii(K:gc)(n:Nat)(t:TGs):TG:=fun v σ H Q=>∃a xs,v=.ref a/\SqT K H a xs/\xs.length=n/\t xs σ H Q
theorem w_{k:Nat}{t:TGs}{n:Nat}(hc:X.calm=true)(h:PGs X es t)
  (hn:(assignEach es X.env).length=n:=by rfl) (hst:(assignEach es X.env).findIdx? (·.1)=none:=by rfl):PG X (.Tuple es k pos) (Ii X.K n t):=by
 intro sy s σ H v u Q I r hw;obtain⟨a,xs,e1,hq,hl,hw⟩:=hw;subst e1;cases r;obtain⟨its,rv,ht,hz⟩:=I.tuple hq;refine assign_Tuple_tuple (I.ok.hd hc) ht (by simp[hn,<- hl,rv.length]) hst fun h' hx=>?_;have I1:Inv X sy σ H { s with heap:=h' }:=I.kept (t':=s.toks) fun b o e=>hx b o (MC (Mi e)) e;exact h sy _ σ H xs _ Q I1 (by simpa using rv) hw
def gS(to ti:TE)(t:EN):TG:=fun v σ H Q=>to σ H fun o H1=>ti σ H1 fun i H2=>t o i v H2 fun H3=>Q σ H3
theorem EO{o i:Expr}{to ti:TE}{t:EN}(ho:PE X o to)(hi:PE X i ti)(hs:Ig X t)
  (ha:∀ v,assign (.Subscript o i pos) X.env v=(do
   let ov <- holding [v] (eval o X.env)
   let iv <- holding [v,ov] (eval i X.env)
   standAt pos
   holding [v,ov,iv] (setItem ov iv v)
   release [v,ov,iv] []):=by intro _;rfl):PG X (.Subscript o i pos) (gS to ti t):=by
 intro sy s σ H v u Q I r h;rw[ha];refine wpAny_bind (wpAny_holding (thn (ho sy s σ H _ I h) fun ov s1 ⟨x,H1,I1,r1,q1⟩=>?_));refine wpAny_bind (wpAny_holding (thn (hi sy s1 σ H1 _ I1 q1) fun iv s2 ⟨y,H2,I2,r2,q2⟩=>?_));refine wpAny_bind (wpAny_standAt (wpAny_bind (wpAny_holding (thn (hs sy s2 σ H2 x y v ov iv u _ I2 r1 r2 r q2) fun _ s3 ⟨H3,I3,q3⟩=>?_))));exact wpAny_release ⟨σ,H3,I3,q3⟩
def vj(te:TE)(g:TG):TS:=fun D σ H=>te σ H fun x H1=>g x σ H1 D.nx
theorem ER{tg e:Expr}{g:TG}(he:PE X e te)(hg:PG X tg g)(hs:swapsWithSole [tg] e pos.line X.env=pure false:=by rfl)(hw:swappedStores [tg] e X.env=pure none:=by rfl)
  (h1:(assignEach [tg] X.env).map (·.2)=[assign tg X.env]:=by rfl):PS X (.Assign [tg] e pos) (vj te g):=by
 intro sy s σ H D I h;refine wpAny_Assign_stores (thn (he sy s σ H _ I h) fun v s1 ⟨x,H1,I1,r1,q1⟩=>?_) hs hw;rw[h1];exact thn (hg sy s1 σ H1 x v _ I1 r1 q1) fun _ s2 q=>q
theorem ES{pos':Pos}(hN:X.N.Nodup)(hi:X.N[i]?=some x)(hx:Loc X.env.scope x)(he:PE X e te)(hs:swapsWith e (some (.Name x pos')) pos.line X.env=pure false:=by rfl)(hf:X.fn x=true\/X.env.scope.names.lookup x=some .local:=by trivial) :
  PS X (.Assign [.Name x pos'] e pos) (vj te (gR i)):=by
 intro sy s σ H D I h;refine wpAny_Assign_Name (thn (he sy s σ H _ I h) fun v s1 ⟨y,H1,I1,r1,q1⟩=>?_) hs;exact oU I1 hN hi hx r1 (fun s2 I2=>⟨_,H1,I2,q1⟩) hf
end
end
section
variable{X:Cx}{pos:Pos}
def xg(c:TT)(tb:TS):TS:=fun D σ H=>∃W:Nat->St->Hp->Prop,(∃m,W m σ H)/\∀m σ H,W m σ H ->
 c σ H fun b H1=>if b=true then ∃N:St->Hp->Prop,(∀σ' H',N σ' H'->∃m',m'<m/\W m' σ' H')/\tb { D with nx:=N,ct:=N,bk:=D.nx } σ H1 else D.nx σ H1
theorem xh{c:Expr}{body:List Stmt}{tc:TT}{tb:TS}(hp:PassesOwn (model X.prog X.w) X.A X.env X.xe)(hc:PT X c tc)(hb:PSs X body tb):PS X (.While c body [] pos) (xg tc tb):=by
 intro sy s σ H D I h;obtain⟨W,⟨m0,w0⟩,turn⟩:=h;refine wpAny_While (codeAny_whileLoop (fun n s'=>∃σ' H',Inv X sy σ' H' s'/\W n σ' H') ?_ m0 ⟨σ,H,I,w0⟩);rintro n s1 ⟨σ1,H1,I1,w1⟩;refine wpAny_passesOwn hp (thn (hc sy s1 σ1 H1 _ I1 (turn n σ1 H1 w1)) fun b s2 ⟨H2,I2,q2⟩=>?_);cases b with
 |true=>
  obtain⟨N,hN,q2⟩:=q2;rw[if_pos rfl];refine wpAny_passesOwn hp (thn (hb sy s2 σ1 H2 _ I2 q2) fun f s3 q3=>?_);cases f with
  |next=>obtain⟨σ3,H3,I3,n3⟩:=q3;obtain⟨m',hm,w3⟩:=hN σ3 H3 n3;exact⟨m',hm,σ3,H3,I3,w3⟩
  |cont=>obtain⟨σ3,H3,I3,n3⟩:=q3;obtain⟨m',hm,w3⟩:=hN σ3 H3 n3;exact⟨m',hm,σ3,H3,I3,w3⟩
  |brk=>exact q3
  |ret v=>exact q3
 |false=>rw[if_neg Mz];exact wpAny_execs_nil ⟨σ1,H2,I2,q2⟩
end
section
variable{P:Program}{tg:Expr}{w:World}{s:Shared}{K:gc}
structure It where
 go:Nat->Hp->Prop
 yld:Nat->Hp->V->Hp->Prop
 stop:Nat->Hp->Prop
def lW(X:Cx)(sy:List (Addr×Obj))(H:Hp)(b:Addr):Prop:=
 H b=none/\b≠X.env.locals/\b∉X.fs/\(b∈X.ex\/X.s₀.heap.objs.size<=b)/\(∀x c,X.env.cells.lookup x=some c->c≠b)/\∀p∈X.pn++sy,p.1≠b
theorem Inv.rq{X:Cx}{sy:List (Addr×Obj)}{σ:St}{H H':Hp}{b:Addr}(I:Inv X sy σ H s)(hb:s.heap.objs.size<=b)(hn:H' b=none):lW X sy H' b:=by
 refine⟨hn,NH (Mq I.lt hb),I.K9 hb,.inr (ML I.sz hb),fun x c e z=>?_,fun p hp z=>?_⟩
 ·obtain⟨v,q⟩:=I.cell x c e;exact absurd (Mq q.lt (by rw[z];exact hb)) (MX _)
 ·exact absurd (Mq (Mi (I.pin p hp).1) (by rw[z];exact hb)) (MX _)
structure Turn(P:Program)(w:World)(K:gc)(tg:Expr)(J:It)(fp:List Addr)(it:Addr)(tn:Nat->Heap->Prop):Prop where
 mem:it∈fp
 obj:∀i h,tn i h->∀b∈fp,∃o,h.get? b=some o/\∀v,o.data≠.cell v
 keep:∀i h h',tn i h->(∀b∈fp,∀o,h.get? b=some o->h'.get? b=some o)->tn i h'
 item:∀(X:Cx),X.prog=P->X.w=w->X.K=K->X.calm=true->∀(i:Nat) (sy:List (Addr×Obj)) (s:Shared) (σ:St) (H:Hp) (E:Value->Shared->Prop),Inv X sy σ H s->(∀b∈fp,lW X sy H b)->tn i s.heap->J.go i H ->
  wpAny (model P w) X.A (pyNext (.ref it)) (fun r s1=>∃ u,r=some u ∧
   wpAny (model P w) X.A (letOwnedTupleGo tg (.ref it) u) (fun _ s2=>∃x H',Inv X sy σ H' s2/\RelV x u/\J.yld i H x H'/\tn (i+1) s2.heap/\∀b∈fp,H' b=none) E s1) E s
 done:∀(X:Cx),X.prog=P->X.w=w->X.K=K->X.calm=true->∀(i:Nat) (sy:List (Addr×Obj)) (s:Shared) (σ:St) (H:Hp) (E:Value->Shared->Prop),Inv X sy σ H s->(∀b∈fp,lW X sy H b)->tn i s.heap->J.stop i H ->
  wpAny (model P w) X.A (pyNext (.ref it)) (fun r s1=>r=none/\Inv X sy σ H s1) E s
 self:∀(A:Around) (i:Nat) (s:Shared) (Q:Value->Shared->Prop) (E:Value->Shared->Prop),tn i s.heap->Q (.ref it) s->wpAny (model P w) A (pyIter (.ref it)) Q E s
noncomputable abbrev TI:=St->Hp->(It->Hp->Prop)->Prop
def PIE(X:Cx)(sy:List (Addr×Obj))(σ:St)(tg:Expr)(R:It->Hp->Prop)(itv:Value)(s2:Shared):Prop:=
 ∃(it:Addr) (fp:List Addr) (tn:Nat->Heap->Prop) (J:It) (H':Hp),itv=.ref it/\Inv X sy σ H' s2/\Turn X.prog X.w X.K tg J fp it tn/\tn 0 s2.heap/\(∀b∈fp,lW X sy H' b)/\R J H'
def PI(X:Cx)(tg iter:Expr)(wi:TI):Prop:=
 ∀(sy:List (Addr×Obj)) (s:Shared) (σ:St) (H:Hp) (R:It->Hp->Prop),Inv X sy σ H s->wi σ H R ->
  wpAny (model X.prog X.w) X.A (eval iter X.env) (fun v s1=>wpAny (model X.prog X.w) X.A (pyIter v) (PIE X sy σ tg R) X.xe s1) X.xe s
theorem oV{M:Model}{A:Around}{E:Value->Shared->Prop}{tg:Expr}{it:Addr}{u:Value}{o:Obj}{n:String}{vs:Array Value}{Q:Unit->Shared->Prop}(ho:s.heap.get? it=some o)(hc:o.cls=.type n)(hd:o.data=.fields vs)
  (hn:["enumerate","zip","dict_itemiterator","dict_reverseitemiterator","odict_iterator","itertools.zip_longest","itertools.pairwise"].contains n=false) (hQ:Q () s):wpAny M A (letOwnedTupleGo tg (.ref it) u) Q E s:=by
 unfold letOwnedTupleGo;cases tg<;>first
  |exact wpAny_pure hQ
  | (cases u<;>first
    |exact wpAny_pure hQ
    | (refine wpAny_bind (wpAny_load ho ?_)
       rw[hc,hd];show wpAny M A (if (["enumerate","zip","dict_itemiterator","dict_reverseitemiterator","odict_iterator","itertools.zip_longest","itertools.pairwise"].contains n&&vs[0]? == some (rawInt _))=true then _ else _) Q E s;rw[if_neg (by intro h;rw[hn,Bool.false_and]at h;cases h)];exact wpAny_pure hQ))
noncomputable def Itl(K:gc)(a:Addr):It:=
 ⟨fun i H=>∃xs x,SqL K H a xs/\xs[i]?=some x,fun i H x H'=>H'=H/\∀xs,SqL K H a xs->xs[i]?=some x,fun i H=>∃xs,SqL K H a xs/\xs.length<=i⟩
noncomputable def Itt(K:gc)(a:Addr):It:=
 ⟨fun i H=>∃xs x,SqT K H a xs/\xs[i]?=some x,fun i H x H'=>H'=H/\∀xs,SqT K H a xs->xs[i]?=some x,fun i H=>∃xs,SqT K H a xs/\xs.length<=i⟩
noncomputable def Itr(lo:Int)(n:Nat):It:=⟨fun i _=>i<n,fun i H x H'=>H'=H/\x=.int (lo+i),fun i _=>n<=i⟩
theorem vm(a it:Addr):Turn P w K tg (Itl K a) [it] it (fun i h=>h.IsListIter it a i) where
 mem:=by simp
 obj:=fun i h st b hb=>by
  have e:b=it:=by simpa using hb
  subst e;obtain⟨o,e,c,d⟩:=st;exact⟨o,e,fun v z=>by rw[d]at z;cases z⟩
 keep:=fun i h h' st k=>st.at fun o e=>k it (by simp) o e
 item:=by intro X hP hw hK hc i sy s σ H E I hf st hg;subst hP hw hK;obtain⟨xs,x,hq,hx⟩:=hg;obtain⟨its,rv,p,hz⟩:=I.list hq;obtain⟨u,hu,ru⟩:=rv.get hx;obtain⟨f0,f1,f2,f3,f4,f5⟩:=hf it (by simp);refine wpAny_pyNext_list_item st p.isList (x:=u) (by simpa using hu) fun h' st' sb=>?_;have I1:Inv X sy σ H { s with heap:=h' }:=I.turned (t':=s.toks) (fun b o hb e=>(sb.2 b hb).trans e) f0 f1 f3 f4 f5;obtain⟨o,e,c,d⟩:=id st';exact⟨u,rfl,oV (s:={ s with heap:=h' }) e c d (by decide) ⟨x,H,I1,ru,⟨rfl,fun ys hy=>by rw[I.dX hy hq];exact hx⟩,st',fun b hb=>(hf b hb).1⟩⟩
 done:=by intro X hP hw hK hc i sy s σ H E I hf st hg;subst hP hw hK;obtain⟨xs,hq,hx⟩:=hg;obtain⟨its,rv,p,hz⟩:=I.list hq;obtain⟨f0,f1,f2,f3,f4,f5⟩:=hf it (by simp);have hl:=rv.length;exact wpAny_pyNext_list_end (I.ok.hd hc) st p.isList (by simp;lia) fun h' eb=>⟨rfl,I.turned (t':=s.toks) (fun b o hb e=>eb b o hb e) f0 f1 f3 f4 f5⟩
 self:=fun _ _ _ _ _ st h=>wpAny_pyIter_listiter st h
theorem rz(a it:Addr):Turn P w K tg (Itt K a) [it] it (fun i h=>h.IsTupleIter it a i) where
 mem:=by simp
 obj:=fun i h st b hb=>by
  have e:b=it:=by simpa using hb
  subst e;obtain⟨o,e,c,d⟩:=st;exact⟨o,e,fun v z=>by rw[d]at z;cases z⟩
 keep:=fun i h h' st k=>st.at fun o e=>k it (by simp) o e
 item:=by intro X hP hw hK hc i sy s σ H E I hf st hg;subst hP hw hK;obtain⟨xs,x,hq,hx⟩:=hg;obtain⟨its,rv,p,hz⟩:=I.tuple hq;obtain⟨u,hu,ru⟩:=rv.get hx;obtain⟨f0,f1,f2,f3,f4,f5⟩:=hf it (by simp);refine wpAny_pyNext_tuple_item st (show s.heap.IsTuple a its.toArray from p) (x:=u) (by simpa using hu) fun h' st' sb=>?_;have I1:Inv X sy σ H { s with heap:=h' }:=I.turned (t':=s.toks) (fun b o hb e=>(sb.2 b hb).trans e) f0 f1 f3 f4 f5;obtain⟨o,e,c,d⟩:=id st';exact⟨u,rfl,oV (s:={ s with heap:=h' }) e c d (by decide) ⟨x,H,I1,ru,⟨rfl,fun ys hy=>by rw[I.vg hy hq];exact hx⟩,st',fun b hb=>(hf b hb).1⟩⟩
 done:=by intro X hP hw hK hc i sy s σ H E I hf st hg;subst hP hw hK;obtain⟨xs,hq,hx⟩:=hg;obtain⟨its,rv,p,hz⟩:=I.tuple hq;obtain⟨f0,f1,f2,f3,f4,f5⟩:=hf it (by simp);have hl:=rv.length;exact wpAny_pyNext_tuple_end (I.ok.hd hc) st (show s.heap.IsTuple a its.toArray from p) (by simp;lia) fun h' eb=>⟨rfl,I.turned (t':=s.toks) (fun b o hb e=>eb b o hb e) f0 f1 f3 f4 f5⟩
 self:=fun _ _ _ _ _ st h=>wpAny_pyIter_tupleiter st h
theorem rA(it:Addr)(lo:Int)(n:Nat):Turn P w K tg (Itr lo n) [it] it (fun i h=>IsRangeIter h it (lo+(i:Nat)*1) ((n:Int)-(i:Nat)) 1) where
 mem:=by simp
 obj:=fun i h st b hb=>by
  have e:b=it:=by simpa using hb
  subst e;exact ⟨_,st,fun v z=>by have z':OP _=Ov v:=z;cases z'⟩
 keep:=fun i h h' st k=>k it (by simp) _ st
 item:=by intro X hP hw hK hc i sy s σ H E I hf st hg;subst hP hw hK;obtain⟨f0,f1,f2,f3,f4,f5⟩:=hf it (by simp);have W:=Walks.range (prog:=X.prog) (w:=X.w) (I.ok.hd hc) it lo 1 n;refine W.item i s _ _ hg st fun v h' tk hv st' kk=>?_;obtain⟨t,rfl⟩:=hv;have I1:Inv X sy σ H { s with heap:=h',toks:=tk }:=I.turned (fun b o hb e=>kk b o (by simpa using hb) e) f0 f1 f3 f4 f5;refine⟨_,rfl,oV (s:={ s with heap:=h',toks:=tk }) (n := "range_iterator") st' rfl rfl (by decide) ⟨.int (lo+i),H,I1,⟨t,?_⟩,⟨rfl,rfl⟩,st',fun b hb=>(hf b hb).1⟩⟩;rw[Int.mul_one]
 done:=by intro X hP hw hK hc i sy s σ H E I hf st hg;subst hP hw hK;obtain⟨f0,f1,f2,f3,f4,f5⟩:=hf it (by simp);exact wpAny_pyNext_range_end (I.ok.hd hc) st (by have:n<=i:=hg;lia) fun h' eb=>⟨rfl,I.turned (t':=s.toks) (fun b o hb e=>eb b o hb e) f0 f1 f3 f4 f5⟩
 self:=fun _ _ _ _ _ st h=>wpAny_pyIter_rangeiter st h
end
section
variable{X:Cx}{tg:Expr}
section
variable{sy:List (Addr×Obj)}{fp:List Addr}{s:Shared}{H:Hp}{σ:St}{l:Expr}{h:Heap}{tl:TE}{ta:TA}
def oW(K:gc)(tl:TE):TI:=fun σ H R=>tl σ H fun x H1=>∃a,x=.ref a/\(∃xs,SqL K H1 a xs)/\R (Itl K a) H1
def xj(K:gc)(tl:TE):TI:=fun σ H R=>tl σ H fun x H1=>∃a,x=.ref a/\(∃xs,SqT K H1 a xs)/\R (Itt K a) H1
theorem tN(hl:PE X l tl):PI X tg l (oW X.K tl):=by
 intro sy s σ H R I h;refine thn (hl sy s σ H _ I h) fun v s1 ⟨x,H1,I1,r1,q1⟩=>?_;obtain⟨a,e,⟨xs,hq⟩,q⟩:=q1;subst e;cases r1;obtain⟨its,rv,p,hz⟩:=I1.list hq;refine wpAny_pyIter_list p.isList ?_;refine⟨s1.heap.objs.size,[s1.heap.objs.size],_,_,H1,rfl,I1.kept (t':=s1.toks) fun b o e=>Mf _ e,vm a _,⟨_,Ms _ rfl,rfl,rfl⟩,fun b hb=>?_,q⟩;have e:b=s1.heap.objs.size:=by simpa using hb
 subst e;exact I1.rq (Ds _) (I1.hok.fresh (Ds _))
theorem xm(hl:PE X l tl):PI X tg l (xj X.K tl):=by
 intro sy s σ H R I h;refine thn (hl sy s σ H _ I h) fun v s1 ⟨x,H1,I1,r1,q1⟩=>?_;obtain⟨a,e,⟨xs,hq⟩,q⟩:=q1;subst e;cases r1;obtain⟨its,rv,p,hz⟩:=I1.tuple hq;refine wpAny_pyIter_tuple (show s1.heap.IsTuple a its.toArray from p) ?_;refine⟨s1.heap.objs.size,[s1.heap.objs.size],_,_,H1,rfl,I1.kept (t':=s1.toks) fun b o e=>Mf _ e,rz a _,⟨_,Ms _ rfl,rfl,rfl⟩,fun b hb=>?_,q⟩;have e:b=s1.heap.objs.size:=by simpa using hb
 subst e;exact I1.rq (Ds _) (I1.hok.fresh (Ds _))
theorem oX{R:It->Hp->Prop}{E:Value->Shared->Prop}{lo hi:Int}{t u v:Tok}{tk:Nat}(I:Inv X sy σ H s)(h1:-(2 ^ 62)<=lo)(h2:lo<2 ^ 62)(h3:-(2 ^ 62)<=hi)(h4:hi<2 ^ 62)
  (q:R (Itr lo (hi-lo).toNat) H):wpAny (model X.prog X.w) X.A (pyIter (.ref s.heap.objs.size)) (PIE X sy σ tg R) E { s with heap:=s.heap.push { cls:=.type "range",data:=.fields #[.int lo t,.int hi u,.int 1 v] },toks:=tk }:=by
 refine wpAny_pyIter_range (IsRange.new ..) (small_one h1 h2 h3 h4) ?_;have I1:Inv X sy σ H { s with heap:=s.heap.push { cls:=.type "range",data:=.fields #[.int lo t,.int hi u,.int 1 v] },toks:=tk }:=I.kept fun b o e=>Mf _ e;refine ⟨(s.heap.push { cls:=.type "range",data:=.fields #[.int lo t,.int hi u,.int 1 v] }).objs.size,[(s.heap.push { cls:=.type "range",data:=.fields #[.int lo t,.int hi u,.int 1 v] }).objs.size],_,_,H,rfl,
  I1.kept (t':=tk) fun b o e=>Mf _ e,rA _ lo (hi-lo).toNat,?_,fun b hb=>?_,q⟩
 ·have e1:lo+((0:Nat):Int)*1=lo:=by simp
  have e2:(((hi-lo).toNat:Nat):Int)-((0:Nat):Int)=Nq lo hi 1:=by rw[rangeSize_one];split<;>lia
  show IsRangeIter _ _ (lo+((0:Nat):Int)*1) ((((hi-lo).toNat:Nat):Int)-((0:Nat):Int)) 1;rw[e1,e2];exact Ms _ rfl
 ·have e:b=(s.heap.push { cls:=.type "range",data:=.fields #[.int lo t,.int hi u,.int 1 v] }).objs.size:=by simpa using hb
  subst e;exact I1.rq (Ds _) (I1.hok.fresh (Ds _))
def C6(ta:TA):TI:=fun σ H R=>ta σ H fun vs H1=>∃j:Int,vs=[.int j]/\-(2 ^ 62)<=j/\j<2 ^ 62/\R (Itr 0 j.toNat) H1
def C7(ta:TA):TI:=fun σ H R=>ta σ H fun vs H1=>∃i j:Int,vs=[.int i,.int j]/\(-(2 ^ 62)<=i/\i<2 ^ 62/\-(2 ^ 62)<=j/\j<2 ^ 62)/\R (Itr i (j-i).toNat) H1
theorem vn{a:Expr}{p pos:Pos}(hg:Gl X "range")(hm:X.mg "range" = none)(ha:PA X [a] ta)(hs:starEach [a] X.env=[(false,eval a X.env)]:=by rfl):PI X tg (.Call (.Name "range" p) [a] [] pos) (C6 ta):=by
 intro sy s σ H R I h;refine Call_ (cj I hg hm boot_range (MM (thn (ha pos sy s σ H _ I h) fun us s1 ⟨vs,H1,I1,r1,q1⟩=>?_) hs rfl));obtain⟨j,e,q1,q2,q⟩:=q1;subst e;cases r1 with
 |cons r rr=>cases rr;obtain⟨t,rfl⟩:=r;exact call_range_1 (oX I1 (by lia) (by lia) q1 q2 (by simpa using q))
theorem vo{a b:Expr}{p pos:Pos}(hg:Gl X "range")(hm:X.mg "range" = none)(ha:PA X [a,b] ta)(hs:starEach [a,b] X.env=[(false,eval a X.env),(false,eval b X.env)]:=by rfl)(hs2:starEach [b] X.env=[(false,eval b X.env)]:=by rfl) :
  PI X tg (.Call (.Name "range" p) [a,b] [] pos) (C7 ta):=by
 intro sy s σ H R I h;refine Call_ (cj I hg hm boot_range (MM (thn (ha pos sy s σ H _ I h) fun us s1 ⟨vs,H1,I1,r1,q1⟩=>?_) (by rw[hs,hs2]) (by rw[hs2];rfl)));obtain⟨i,j,e,⟨q1,q2,q3,q4⟩,q⟩:=q1;subst e;cases r1 with
 |cons r rr=>
  cases rr with
  |cons r' rr=>cases rr;obtain⟨t,rfl⟩:=r;obtain⟨t',rfl⟩:=r';exact call_range_2 (oX I1 q1 q2 q3 q4 q)
def ET(wi:TI)(g:TG)(tb:TS):TS:=fun D σ H=>wi σ H fun J H1=>∃W:Nat->Nat->St->Hp->Prop,(∃m,W 0 m σ H1)/\∀i m σ H,W i m σ H ->
 (J.stop i H/\D.nx σ H)\/(J.go i H/\∃N:St->Hp->Prop,(∀σ' H',N σ' H'->∃m',m'<m/\W (i+1) m' σ' H')/\∀x H',J.yld i H x H'->g x σ H' fun σ2 H2=>tb { D with nx:=N,ct:=N,bk:=D.nx } σ2 H2)
noncomputable def jE(fp:List Addr)(h:Heap):List (Addr×Obj):=fp.filterMap fun b=>(h.get? b).map fun o=>(b,o)
theorem dh{b:Addr}{o:Obj}(hb:b∈fp)(e:h.get? b=some o):(b,o)∈jE fp h:=Ow.mpr ⟨b,hb,by rw[e];rfl⟩
theorem vp{p:Addr×Obj}(hp:p∈jE fp h):p.1∈fp/\h.get? p.1=some p.2:=by
 obtain⟨b,hb,e⟩:=Ow.mp hp;cases q:h.get? b with
 |none=>rw[q]at e;cases e
 |some o=>rw[q]at e;have e':(b,o)=p:=Option.some.inj e;subst e';exact⟨hb,q⟩
theorem Inv.pinned(I:Inv X sy σ H s)(hf:∀b∈fp,lW X sy H b)(ho:∀b∈fp,∃o,s.heap.get? b=some o/\∀v,o.data≠.cell v):Inv X (sy++jE fp s.heap) σ H s:=
 I.tG fun p hp=>(Mv.mp hp).elim (fun z=>I.pin p (Mx _ z)) fun z=>by obtain⟨hb,e⟩:=vp z;obtain⟨f0,f1,f2,_⟩:=hf p.1 hb;obtain⟨o,e',d⟩:=ho p.1 hb;rw[e]at e';cases e';exact⟨e,f0,f1,f2,d⟩
theorem Inv.gT{sy pl:List (Addr×Obj)}(I:Inv X (sy++pl) σ H s):Inv X sy σ H s:=I.tG fun p hp=>I.pin p (Mx _ (MF _ hp))
theorem xo{iter:Expr}{body:List Stmt}{wi:TI}{g:TG}{tb:TS}{pos:Pos}(hp:PassesOwn (model X.prog X.w) X.A X.env X.xe)(hc:X.calm=true)(hi:PI X tg iter wi)(hg:PG X tg g)(hb:PSs X body tb)
  (hs:∀x,foldedSetIterable iter X.env x=pure x:=by intro _;rfl):PS X (.For tg iter body [] pos) (ET wi g tb):=by
 intro sy s σ H D I h;refine wpAny_For (thn (hi sy s σ H _ I h) fun v s1 h1=>thn h1 fun itv s2 h2=>?_) hs;obtain⟨it,fp,tn,J,H2,e,I2,T,st2,f2,W,⟨m0,w0⟩,turn⟩:=h2;subst e;have stat:∀{H':Hp},(∀b∈fp,H' b=none)->∀b∈fp,lW X sy H' b:=fun hn b hb=>⟨hn b hb,(f2 b hb).2⟩;refine codeAny_forLoop_any (fun n s'=>∃i σ' H',Inv X sy σ' H' s'/\tn i s'.heap/\(∀b∈fp,H' b=none)/\W i n σ' H') ?_ m0 ⟨0,σ,H2,I2,st2,fun b hb=>(f2 b hb).1,w0⟩;rintro n s3 ⟨i,σ3,H3,I3,st3,fr3,w3⟩;rcases turn i n σ3 H3 w3 with⟨stop,qn⟩ | ⟨go,N,hN,step⟩
 ·refine wpAny_passesOwn hp (thn (T.done X rfl rfl rfl hc i sy s3 σ3 H3 X.xe I3 (stat fr3) st3 stop) fun r s4 ⟨hr,I4⟩=>?_);subst hr;exact wpAny_execs_nil ⟨σ3,H3,I4,qn⟩
 ·refine wpAny_passesOwn hp (thn (T.item X rfl rfl rfl hc i sy s3 σ3 H3 X.xe I3 (stat fr3) st3 go) fun r s4 ⟨u,hr,h4⟩=>?_);subst hr;refine wpAny_passesOwn hp (thn h4 fun _ s5 ⟨x,H5,I5,r5,y5,st5,fr5⟩=>?_);have I5':=I5.pinned (stat fr5) (T.obj _ _ st5);refine wpAny_passesOwn hp (thn (hg _ s5 σ3 H5 x u _ I5' r5 (step x H5 y5)) fun _ s6 ⟨σ6,H6,I6,q6⟩=>?_);refine wpAny_passesOwn hp (thn (hb _ s6 σ6 H6 _ I6 q6) fun f s7 q7=>?_);have again:∀{σ7:St} {H7:Hp},Inv X (sy++jE fp s5.heap) σ7 H7 s7->N σ7 H7->∃m,m<n/\∃i σ' H',Inv X sy σ' H' s7/\tn i s7.heap/\(∀b∈fp,H' b=none)/\W i m σ' H':=fun {σ7 H7} I7 n7=>by
   obtain⟨m',hm,w7⟩:=hN σ7 H7 n7;refine⟨m',hm,i+1,σ7,H7,I7.gT,T.keep _ _ _ st5 fun b hb o e=>(I7.pin (b,o) (Mx _ (Mx _ (dh hb e)))).1,fun b hb=>?_,w7⟩;obtain⟨o,e,d⟩:=T.obj _ _ st5 b hb;exact(I7.pin (b,o) (Mx _ (Mx _ (dh hb e)))).2.1
  cases f with
  |next=>obtain⟨σ7,H7,I7,n7⟩:=q7;exact again I7 n7
  |cont=>obtain⟨σ7,H7,I7,n7⟩:=q7;exact again I7 n7
  |brk=>obtain⟨σ7,H7,I7,q7⟩:=q7;exact⟨σ7,H7,I7.gT,q7⟩
  |ret v=>obtain⟨x7,σ7,H7,I7,r7,q7⟩:=q7;exact⟨x7,σ7,H7,I7.gT,r7,q7⟩
end
end
noncomputable abbrev R2:=V->V->Hp->VK->Prop
def OpR(X:Cx)(f:Value->Value->Sem Value)(r:R2):Prop:=
 ∀(sy:List (Addr×Obj)) (s:Shared) (σ:St) (H:Hp) (x y:V) (v u:Value) (Q:VK),Inv X sy σ H s->RelV x v->RelV y u->r x y H Q ->
  wpAny (model X.prog X.w) X.A (f v u) (EP X sy σ Q) X.xe s
def UnR(X:Cx)(f:Value->Sem Value)(r:V->Hp->VK->Prop):Prop:=
 ∀(sy:List (Addr×Obj)) (s:Shared) (σ:St) (H:Hp) (x:V) (v:Value) (Q:VK),Inv X sy σ H s->RelV x v->r x H Q ->
  wpAny (model X.prog X.w) X.A (f v) (EP X sy σ Q) X.xe s
def cM(X:Cx)(f:Value)(r:List V->Hp->VK->Prop):Prop:=
 ∀(sy:List (Addr×Obj)) (s:Shared) (σ:St) (H:Hp) (xs:List V) (us:List Value) (Q:VK),Inv X sy σ H s->Vals xs us->r xs H Q ->
  wpAny (model X.prog X.w) X.A (call f us) (EP X sy σ Q) X.xe s
def Lb(X:Cx)(r:V->Hp->(Bool->Hp->Prop)->Prop):Prop:=
 ∀(sy:List (Addr×Obj)) (s:Shared) (σ:St) (H:Hp) (x:V) (v:Value) (Q:Bool->Hp->Prop),Inv X sy σ H s->RelV x v->r x H Q ->
  wpAny (model X.prog X.w) X.A (truthy v) (TP X sy σ Q) X.xe s
def tOp(r:R2)(ta tb:TE):TE:=fun σ H Q=>ta σ H fun x H1=>tb σ H1 fun y H2=>r x y H2 Q
def tUn(r:V->Hp->VK->Prop)(ta:TE):TE:=fun σ H Q=>ta σ H fun x H1=>r x H1 Q
def rI(C:Int->Int->Prop)(g:Int->Int->V):R2:=fun x y H Q=>∃i j,x=.int i/\y=.int j/\C i j/\Q (g i j) H
def rI0(g:Int->Int->V):R2:=fun x y H Q=>∃i j,x=.int i/\y=.int j/\Q (g i j) H
def rU(g:Int->V):V->Hp->VK->Prop:=fun x H Q=>∃i,x=.int i/\Q (g i) H
section
variable{X:Cx}{a b c:Expr}{ta tb tc:TE}{pos:Pos}
theorem EU(ha:PE X a ta)(hb:PE X b tb){sy:List (Addr×Obj)}{s:Shared}{σ:St}{H:Hp}{R:V->V->Hp->Prop}(I:Inv X sy σ H s)
  (h:ta σ H fun x H1=>tb σ H1 fun y H2=>R x y H2) {Q:Value->Shared->Prop} {f:Value->Value->Sem Value}
  (hf:∀v u s2 x y H2,Inv X sy σ H2 s2->RelV x v->RelV y u->R x y H2->wpAny (model X.prog X.w) X.A (f v u) Q X.xe s2) :
  wpAny (model X.prog X.w) X.A (eval a X.env) (fun v s₁=>wpAny (model X.prog X.w) X.A (eval b X.env) (fun u s₂=>wpAny (model X.prog X.w) X.A (f v u) Q X.xe s₂) X.xe s₁) X.xe s:=by
 refine thn (ha sy s σ H _ I h) fun v s1 ⟨x,H1,I1,r1,q1⟩=>?_;refine thn (hb sy s1 σ H1 _ I1 q1) fun u s2 ⟨y,H2,I2,r2,q2⟩=>?_;exact hf v u s2 x y H2 I2 r1 r2 q2
theorem Ij{op:Operator}{r:R2}(ho:OpR X (binaryOp op) r)(ha:PE X a ta)(hb:PE X b tb):PE X (.BinOp a op b pos) (tOp r ta tb):=by intro sy s σ H Q I h;exact wpAny_BinOp (EU ha hb I h fun v u s2 x y H2 I2 rx ry q=>ho sy s2 σ H2 x y v u Q I2 rx ry q)
theorem Ik{op:UnaryOp}{r:V->Hp->VK->Prop}(ho:UnR X (unaryOp op) r)(ha:PE X a ta):PE X (.UnaryOp op a pos) (tUn r ta):=by intro sy s σ H Q I h;exact UnaryOp_ (thn (ha sy s σ H _ I h) fun v s1 ⟨x,H1,I1,r1,q1⟩=>ho sy s1 σ H1 x v Q I1 r1 q1)
theorem opI{f:Value->Value->Sem Value}{C:Int->Int->Prop}{g:Int->Int->Int}
  (rule:∀(i j:Int) (t u:Tok) (s:Shared) (Q:Value->Shared->Prop) (E:Value->Shared->Prop),C i j->Q (.int (g i j) s.toks) { s with toks:=s.toks+1 }->wpAny (model X.prog X.w) X.A (f (.int i t) (.int j u)) Q E s) :
  OpR X f (rI C fun i j=>.int (g i j)):=by
 intro sy s σ H x y v u Q I rx ry h;obtain⟨i,j,rfl,rfl,hc,q⟩:=h;obtain⟨t,rfl⟩:=rx;obtain⟨t',rfl⟩:=ry;exact rule i j t t' s _ _ hc ⟨.int (g i j),H,I.tok _,⟨_,rfl⟩,q⟩
theorem Il{f:Value->Value->Sem Value}{g:Int->Int->Int}
  (rule:∀(i j:Int) (t u:Tok) (s:Shared) (Q:Value->Shared->Prop) (E:Value->Shared->Prop),Q (.int (g i j) s.toks) { s with toks:=s.toks+1 }->wpAny (model X.prog X.w) X.A (f (.int i t) (.int j u)) Q E s) :
  OpR X f (rI0 fun i j=>.int (g i j)):=by
 intro sy s σ H x y v u Q I rx ry h;obtain⟨i,j,rfl,rfl,q⟩:=h;obtain⟨t,rfl⟩:=rx;obtain⟨t',rfl⟩:=ry;exact rule i j t t' s _ _ ⟨.int (g i j),H,I.tok _,⟨_,rfl⟩,q⟩
theorem Bb{f:Value->Value->Sem Value}{g:Int->Int->Bool}
  (rule:∀(i j:Int) (t u:Tok) (s:Shared) (Q:Value->Shared->Prop) (E:Value->Shared->Prop),Q (.bool (g i j)) s->wpAny (model X.prog X.w) X.A (f (.int i t) (.int j u)) Q E s) :
  OpR X f (rI0 fun i j=>.bl (g i j)):=by
 intro sy s σ H x y v u Q I rx ry h;obtain⟨i,j,rfl,rfl,q⟩:=h;obtain⟨t,rfl⟩:=rx;obtain⟨t',rfl⟩:=ry;exact rule i j t t' s _ _ ⟨.bl (g i j),H,I,rfl,q⟩
def Im(i j:Int):Prop:=0<=j/\j<=1000000/\i.natAbs<2 ^ 64
def xq(i j:Int):Prop:=(-(2 ^ 64)<i/\i<2 ^ 64)\/(-(2 ^ 64)<j/\j<2 ^ 64)
theorem xq.ok{i j:Int}(h:xq i j):IntMulOk i j:=by
 rcases h with⟨h1,h2⟩ | ⟨h1,h2⟩
 ·exact .of_left (intBits_le_64 h1 h2)
 ·exact .of_right (intBits_le_64 h1 h2)
theorem EV:OpR X (binaryOp .Add) (rI0 fun i j=>.int (i+j)):=Il fun _ _ _ _ _ _ _ q=>add_int q
theorem EW:OpR X (binaryOp .Sub) (rI0 fun i j=>.int (i-j)):=Il fun _ _ _ _ _ _ _ q=>sub_int q
theorem EX:OpR X (binaryOp .Mult) (rI xq fun i j=>.int (i*j)):=opI fun _ _ _ _ _ _ _ hc q=>mul_int q hc.ok
theorem EY:OpR X (binaryOp .Mod) (rI (fun _ j=>0<j) fun i j=>.int (i % j)):=opI fun i j _ _ _ _ _ hc q=>by have h1:(0:Int)<j:=hc;exact mod_int' (by lia) (by rw[Int.fmod_eq_emod_of_nonneg i (by lia)];exact q)
theorem EZ:OpR X (binaryOp .Pow) (rI Im fun i j=>.int (i ^ j.toNat)):=opI fun _ _ _ _ _ _ _ hc q=>pow_int_small hc.1 hc.2.1 hc.2.2 q
theorem unI{f:Value->Sem Value}{g:Int->Int}
  (rule:∀(i:Int) (t:Tok) (s:Shared) (Q:Value->Shared->Prop) (E:Value->Shared->Prop),Q (.int (g i) s.toks) { s with toks:=s.toks+1 }->wpAny (model X.prog X.w) X.A (f (.int i t)) Q E s) :
  UnR X f (rU fun i=>.int (g i)):=by
 intro sy s σ H x v Q I rx h;obtain⟨i,rfl,q⟩:=h;obtain⟨t,rfl⟩:=rx;exact rule i t s _ _ ⟨.int (g i),H,I.tok _,⟨_,rfl⟩,q⟩
theorem E1:UnR X (unaryOp .USub) (rU fun i=>.int (-i)):=unI fun _ _ _ _ _ q=>neg_int q
end
section
variable{X:Cx}{a b c:Expr}{ta tb tc:TE}{pos:Pos}
theorem C8:OpR X (compareOp .Lt) (rI0 fun i j=>.bl (decide (i<j))):=Bb fun _ _ _ _ _ _ _ q=>lt_int q
theorem xr:OpR X (compareOp .LtE) (rI0 fun i j=>.bl (decide (i<=j))):=Bb fun _ _ _ _ _ _ _ q=>le_int q
theorem C9:OpR X (compareOp .Gt) (rI0 fun i j=>.bl (decide (j<i))):=Bb fun _ _ _ _ _ _ _ q=>gt_int q
theorem Io:OpR X (compareOp .GtE) (rI0 fun i j=>.bl (decide (j<=i))):=Bb fun _ _ _ _ _ _ _ q=>ge_int q
theorem OpR.or{f:Value->Value->Sem Value}{r r':R2}(h:OpR X f r)(h':OpR X f r'):OpR X f (fun x y H Q=>r x y H Q\/r' x y H Q):=by
 intro sy s σ H x y v u Q I rx ry q;rcases q with q | q
 ·exact h sy s σ H x y v u Q I rx ry q
 ·exact h' sy s σ H x y v u Q I rx ry q
theorem ck(b:Expr){op:CmpOp}(h:op≠.In:=by decide)(h2:op≠.NotIn:=by decide):behindInMarks op b=false:=by
 have e1:(op == CmpOp.In)=false:=by cases op<;>first | rfl | exact absurd rfl h
 have e2:(op == CmpOp.NotIn)=false:=by cases op<;>first | rfl | exact absurd rfl h2
 cases b<;>simp[behindInMarks,e1,e2]
theorem Bc{op:CmpOp}{r:R2}(ho:OpR X (compareOp op) r)(ha:PE X a ta)(hb:PE X b tb)(hm:behindInMarks op b=false):PE X (.Compare a [op] [b] pos) (tOp r ta tb):=by intro sy s σ H Q I h;exact wpAny_Compare1 (EU ha hb I h fun v u s2 x y H2 I2 rx ry q=>ho sy s2 σ H2 x y v u Q I2 rx ry q) hm
def C_(t:TE):TT:=fun σ H Q=>t σ H fun x H'=>∃k,x=.bl k/\Q k H'
theorem Bd{op:CmpOp}{r:R2}(ho:OpR X (compareOp op) r)(ha:PE X a ta)(hb:PE X b tb)(hm:behindInMarks op b=false):PT X (.Compare a [op] [b] pos) (C_ (tOp r ta tb)):=by
 intro sy s σ H Q I h;refine wpAny_isTrue_Compare1 (thn (ha sy s σ H _ I h) fun v s1 ⟨x,H1,I1,r1,q1⟩=>thn (hb sy s1 σ H1 _ I1 q1) fun u s2 ⟨y,H2,I2,r2,q2⟩=>thn (ho sy s2 σ H2 x y v u _ I2 r1 r2 q2) fun c s3 ⟨z,H3,I3,r3,k,e,q3⟩=>?_) hm
 subst e;cases r3;exact wpAny_truthy_bool ⟨H3,I3,q3⟩
def xu(r r':R2)(ta tb tc:TE):TE:=fun σ H Q=>ta σ H fun x H1=>tb σ H1 fun y H2=>r x y H2 fun z H3=>∃k,z=.bl k /\
 (if k=true then tc σ H3 fun w' H4=>r' y w' H4 Q else Q (.bl false) H3)
theorem xw{op op':CmpOp}{r r':R2}(ho:OpR X (compareOp op) r)(ho':OpR X (compareOp op') r')(ha:PE X a ta)(hb:PE X b tb)(hc:PE X c tc)
  (hm:lastMarks [op,op'] [b,c]=false:=by with_unfolding_all rfl):PE X (.Compare a [op,op'] [b,c] pos) (xu r r' ta tb tc):=by
 intro sy s σ H Q I h;refine Compare_chain (thn (ha sy s σ H _ I h) fun v s1 ⟨x,H1,I1,r1,q1⟩=>chain_link (thn (hb sy s1 σ H1 _ I1 q1) fun u s2 ⟨y,H2,I2,r2,q2⟩=>thn (ho sy s2 σ H2 x y v u _ I2 r1 r2 q2) fun d s3 ⟨z,H3,I3,r3,k,e,q3⟩=>?_)) hm
 subst e;cases r3;refine wpAny_truthy_bool ?_;cases k with
 |false=>exact ite_ff ⟨.bl false,H3,I3,rfl,q3⟩
 |true=>exact ite_tt (chain_last (thn (hc sy s3 σ H3 _ I3 q3) fun w' s4 ⟨z',H4,I4,r4,q4⟩=>ho' sy s4 σ H4 y z' u w' Q I4 r2 r4 q4))
def E2(K:gc)(x:V)(H:Hp)(k:Bool):Prop:=
 match x with
 |.non=>k=false
 |.bl b=>k=b
 |.int i=>k=(i != 0)
 |.str y=>y.length<=sizeLine/\k=((y.length:Int) != 0)
 |.byt y=>y.size<=sizeLine/\k=((y.size:Int) != 0)
 |.ref p=>(∃xs,SqL K H p xs/\k=!xs.isEmpty)\/(∃xs,SqT K H p xs/\k=!xs.isEmpty)\/∃kvs,H p=some (.dK kvs)/\k=!kvs.isEmpty
 |_=>False
theorem rB{κ:Type}{kvs:List (κ×V)}{vs:List (κ×Value)}(r:KV kvs vs):(!vs.isEmpty)=!kvs.isEmpty:=by cases r<;>rfl
theorem jF{xs:List V}{its:List Value}(r:Vals xs its):(!its.toArray.isEmpty)=!xs.isEmpty:=by cases r<;>simp
theorem jG:(sizeLine:Nat)<2 ^ 63:=by rw[sizeLine_eq];decide
theorem E3:Lb X (fun x H Q=>∃k,E2 X.K x H k/\Q k H):=by
 intro sy s σ H x v Q I rx h;obtain⟨k,e,q⟩:=h;have hl:=jG;have hs:sizeLine=16777216:=sizeLine_eq;cases x with
 |non=>cases rx;have e':k=false:=e;subst e';exact truthy_none ⟨H,I,q⟩
 |bl b=>cases rx;have e':k=b:=e;subst e';exact wpAny_truthy_bool ⟨H,I,q⟩
 |int i=>obtain⟨t,rfl⟩:=rx;have e':k=(i != 0):=e;subst e';exact PySem.P.truthy_int ⟨H,I,q⟩
 |str y=>obtain⟨t,rfl⟩:=rx;obtain⟨hy,e'⟩:y.length<=sizeLine/\k=((y.length:Int) != 0):=e;subst e';exact PySem.P.truthy_str (by lia) ⟨H,I.tok _,q⟩
 |byt y=>obtain⟨t,rfl⟩:=rx;obtain⟨hy,e'⟩:y.size<=sizeLine/\k=((y.size:Int) != 0):=e;subst e';exact PySem.W.truthy_bytes (by lia) ⟨H,I.tok _,q⟩
 |ref p=>
  cases rx;have e':(∃xs,SqL X.K H p xs/\k=!xs.isEmpty)\/(∃xs,SqT X.K H p xs/\k=!xs.isEmpty)\/∃kvs,H p=some (.dK kvs)/\k=!kvs.isEmpty:=e;rcases e' with⟨xs,hx,e'⟩ | ⟨xs,hx,e'⟩ | ⟨kvs,hx,e'⟩
  ·subst e';obtain⟨its,r,pl,hz⟩:=I.list hx;have Cv:=r.length;exact wpAny_truthy_list pl.isList (by simp only[Mk];lia) ⟨H,I.tok _,by rw[jF r];exact q⟩
  ·subst e';obtain⟨its,r,pl,hz⟩:=I.tuple hx;have Cv:=r.length;exact truthy_tuple pl (by simp only[Mk];lia) ⟨H,I.tok _,by rw[jF r];exact q⟩
  ·subst e';obtain⟨hz,hS,vs,r,m⟩:kvs.length<=sizeLine/\(p == sysModules)=false/\∃vs,KV kvs vs/\s.heap.DictOf (aK X.prog X.w) p vs:=I.hok p _ hx;have Cv:kvs.length=vs.length:=Paired.length r;exact wpAny_truthy_dict hS m (by lia) ⟨H,I.tok _,by rw[rB r];exact q⟩
 |_=>exact(show False from e).elim
theorem xx(ha:PE X a ta)(he:∀whole,isTrue a X.env whole=(do let v <- whole;standAt a.pos;holding [v] (truthy v))) :
  PT X a (fun σ H Q=>ta σ H fun x H'=>∃k,E2 X.K x H' k/\Q k H'):=by
 intro sy s σ H Q I h;exact isTrue_plain (thn (ha sy s σ H _ I h) fun v s1 ⟨x,H1,I1,r1,q1⟩=>E3 sy s1 σ H1 x v Q I1 r1 q1) (he _)
theorem vals1{x:V}{us:List Value}(r:Vals [x] us):∃u,us=[u]/\RelV x u:=by
 cases r with
 |cons r1 r2=>cases r2;exact⟨_,rfl,r1⟩
theorem vals2{x y:V}{us:List Value}(r:Vals [x,y] us):∃u w',us=[u,w']/\RelV x u/\RelV y w':=by
 cases r with
 |cons r1 r2=>
  cases r2 with
  |cons r3 r4=>cases r4;exact⟨_,_,rfl,r1,r3⟩
theorem vq(hc:X.calm=true):cM X (.builtin "max") (fun xs H Q=>∃i j,xs=[.int i,.int j]/\Q (.int (if j>i then j else i)) H):=by
 intro sy s σ H xs us Q I r h;obtain⟨i,j,rfl,q⟩:=h;obtain⟨u,w',rfl,⟨t,rfl⟩,⟨t',rfl⟩⟩:=vals2 r;refine max_two_ints (I.ok.hd hc) fun h' tk k=>⟨_,H,I.kept k,?_,q⟩;by_cases hj:j>i
 ·rw[if_pos hj,if_pos hj];exact⟨_,rfl⟩
 ·rw[if_neg hj,if_neg hj];exact⟨_,rfl⟩
theorem vt(hc:X.calm=true):cM X (.builtin "min") (fun xs H Q=>∃i j,xs=[.int i,.int j]/\Q (.int (if j<i then j else i)) H):=by
 intro sy s σ H xs us Q I r h;obtain⟨i,j,rfl,q⟩:=h;obtain⟨u,w',rfl,⟨t,rfl⟩,⟨t',rfl⟩⟩:=vals2 r;refine min_two_ints (I.ok.hd hc) fun h' tk k=>⟨_,H,I.kept k,?_,q⟩;by_cases hj:j<i
 ·rw[if_pos hj,if_pos hj];exact⟨_,rfl⟩
 ·rw[if_neg hj,if_neg hj];exact⟨_,rfl⟩
theorem vv:cM X (.type "int") (fun xs H Q=>(∃i,xs=[.int i]/\Q (.int i) H)\/∃k,xs=[.bl k]/\Q (.int (if k then 1 else 0)) H):=by
 intro sy s σ H xs us Q I r h;rcases h with⟨i,rfl,q⟩ | ⟨k,rfl,q⟩
 ·obtain⟨u,rfl,t,rfl⟩:=vals1 r;exact call_int_int ⟨.int i,H,I,⟨_,rfl⟩,q⟩
 ·obtain⟨u,rfl,r1⟩:=vals1 r;cases r1;exact call_int_bool ⟨.int (if k then 1 else 0),H,I.tok _,⟨_,rfl⟩,q⟩
end
section
variable{mA:Str->Option Value}{h:Heap}
structure E4(h:Heap)(x dx C:Addr)(mA:Str->Option Value):Prop where
 obj:h.get? x=some (OM C dx)
 ns:h.Ns1 dx mA
 ne:dx≠x
theorem vz{dx:Addr}(n:h.Ns1 dx mA):∃od,h.get? dx=some od/\∀name,OS name od=some (mA name):=by
 obtain⟨o,es,ep,ho,hd,hk,_,hm⟩:=n;refine⟨o,ho,fun name=>?_⟩;have e:=hm name;unfold nsFind findBy at e;rw[<- Array.find?_toList]at e;unfold OS;rw[hd];dsimp only;split
 ·rename_i y q;rw[q]at e;exact congrArg some e
 ·rename_i q;rw[q]at e;have a:es.toList.any (·.refKey)=false:=by
   rw[List.any_eq_false];intro y hy;obtain⟨z,t,hkey⟩:=hk y (Array.mem_toList_iff.mp hy);simp[DictEntry.refKey,hkey]
  have a':¬es.toList.any (·.refKey)=true:=by rw[a];exact Mz
  rw[if_neg a'];exact congrArg some e
theorem E4.look{x dx C:Addr}(I:E4 h x dx C mA):∃od,PySem.W.InstAt h x (OM C dx) C (some od)/\∀name,OS name od=some (mA name):=
 let ⟨od,ho,hl⟩:=vz I.ns
 ⟨od,⟨I.obj,rfl,rfl,ho⟩,hl⟩
theorem gP.some_of{v:V}{o:Option Value}(r:gP (some v) o):∃u,o=some u/\RelV v u:=by
 cases o with
 |none=>exact(show False from r).elim
 |some u=>exact⟨u,rfl,r⟩
end
section
variable{P:Program}{w:World}{H H':Hp}{h h':Heap}{a C dx:Addr}{fs fs':List (Str×V)}
theorem Be(hok:HOk P w H h)(e:H a=some (.ins C dx fs)):∃mA,E4 h a dx C mA/\(∀f,gP (fs.lookup f) (mA f))/\PySem.Within mA (fs.map (·.1))/\fs.length<=1000/\H dx=some (.own a):=by
 obtain⟨d,z,ne,ob,mA,n,r,q⟩:=(show aM P w H h a (.ins C dx fs) from hok a _ e)
 exact⟨mA,⟨ob,n,ne⟩,r,q,z,d⟩
end
structure Cls(K:gc)(C:Addr):Prop where
 pg:PySem.W.plainGet K C Str.empty=true
 hd:PySem.W.hasDictIn K C=true
 po:PySem.W.plainOver K C=true
 sa:PySem.W.findIn K (.ref C) "__setattr__" = some (some (.builtin "object.__setattr__"))
theorem Cls.get{K:gc}{C:Addr}(c:Cls K C)(f:Str):PySem.W.plainGet K C f=true:=c.pg
section
variable{X:Cx}{sy:List (Addr×Obj)}{σ:St}{H:Hp}{s:Shared}{A:Around}{E:Value->Shared->Prop}{Q:Value->Shared->Prop}{c:Value}{b:Bool}
inductive gU(K:gc)(H:Hp):V->Value->Prop where
 |non:gU K H .non (.type "NoneType")
 |bl (x:Bool):gU K H (.bl x) (.type "bool")
 |int (i:Int):gU K H (.int i) (.type "int")
 |str (x:Str):gU K H (.str x) (.type "str")
 |flt (x:UInt64):gU K H (.flt x) (.type "float")
 |lst {a:Addr} {xs:List V} (e:H a=some (.lst xs)):gU K H (.ref a) (.type "list")
 |frz {a:Addr} {o:Obj} {xs:List V} (e:H a=some (.frz o (.lst xs))):gU K H (.ref a) (.type "list")
 |tup {a:Addr} {xs:List V} (e:H a=some (.tup xs)):gU K H (.ref a) (.type "tuple")
 |dK {a:Addr} {kvs:List (Key×V)} (e:H a=some (.dK kvs)):gU K H (.ref a) (.type "dict")
 |dT {a:Addr} {kvs:List (List Key×V)} {ts:List Addr} (e:H a=some (.dT kvs ts)):gU K H (.ref a) (.type "dict")
 |ins {a C dx:Addr} {fs:List (Str×V)} (e:H a=some (.ins C dx fs)) (cl:Cls K C) (ha:PySem.W.findIn K (.ref C) "__class__" = some (some (.builtin "object.__class__")))
   (hn:PySem.W.specialIn K (.builtin "object.__class__") "__get__" = some (some (.builtin "getset_descriptor.__get__"))) (htk:PySem.W.takesIn K (.builtin "object.__class__")=some true)
   (hm:PySem.W.mroIn K C (.type "object")=some true):gU K H (.ref a) (.ref C)
theorem vA{x:V}{u t:Value}(I:Inv X sy σ H s)(rx:RelV x u)(ty:gU X.K H x t)(e:OT X.K t c=some b)(h:∀tk,Q (.bool b) { s with toks:=tk }) :
  wpAny (model X.prog X.w) A (call (.builtin "isinstance") [u,c]) Q E s:=by
 cases ty with
 |non=>cases (show u=Value.none from rx);exact MY PySem.W.kitx_none I.kIn Nk e (fun z=>nomatch z) h
 |bl y=>cases (show u=O6 y from rx);exact MY PySem.W.kitx_bool I.kIn Nk e (fun z=>nomatch z) h
 |int i=>obtain⟨t,q⟩:=(show ∃t,u=Value.int i t from rx);cases q;exact MY PySem.W.kitx_int I.kIn Nk e (fun z=>nomatch z) h
 |str y=>obtain⟨t,q⟩:=(show ∃t,u=OL y t from rx);cases q;exact MY PySem.W.kitx_str I.kIn Nk e (fun z=>nomatch z) h
 |flt y=>obtain⟨t,q⟩:=(show ∃t,u=Value.float y t from rx);cases q;exact MY PySem.W.kitx_float I.kIn Nk e (fun z=>nomatch z) h
 |@lst a xs ea=>
  cases (show u=MI a from rx);obtain⟨_,_,n,_,h1⟩:=(show aM X.prog X.w H s.heap a (.lst xs) from I.hok a _ ea)
  exact MY PySem.W.kitx_list I.kIn ⟨_,h1,rfl⟩ e (fun z=>nomatch z) h
 |@frz a ob xs ea=>
  cases (show u=MI a from rx);obtain⟨_,_,_,n,_,h1⟩:=(show aM X.prog X.w H s.heap a (.frz ob (.lst xs)) from I.hok a _ ea)
  exact MY PySem.W.kitx_list I.kIn ⟨_,h1,rfl⟩ e (fun z=>nomatch z) h
 |@tup a xs ea=>
  cases (show u=MI a from rx);obtain⟨_,_,_,p⟩:=(show aM X.prog X.w H s.heap a (.tup xs) from I.hok a _ ea)
  obtain⟨o,h1,h2,_⟩:=p;exact MY PySem.W.kitx_tuple I.kIn ⟨o,h1,h2⟩ e (fun z=>nomatch z) h
 |@dK a kvs ea=>
  cases (show u=MI a from rx);obtain⟨_,_,vs,_,p⟩:=(show aM X.prog X.w H s.heap a (.dK kvs) from I.hok a _ ea)
  obtain⟨o,es,ep,h1,h2,_⟩:=p;exact MY PySem.W.kitx_dict I.kIn ⟨o,h1,h2.1⟩ e (fun z=>nomatch z) h
 |@dT a kvs ts ea=>
  cases (show u=MI a from rx);obtain⟨_,_,xs,_,o,es,ep,h1,h2,_⟩:=(show aM X.prog X.w H s.heap a (.dT kvs ts) from I.hok a _ ea)
  exact MY PySem.W.kitx_dict I.kIn ⟨o,h1,h2.1⟩ e (fun z=>nomatch z) h
 |@ins a C dx fs ea cl ha hn htk hm=>cases (show u=MI a from rx);obtain⟨mA,O,_⟩:=Be I.hok ea;obtain⟨od,J,_⟩:=O.look;exact MY (PySem.W.kitx_own (cl.get _) cl.hd ha hn htk hm) I.kIn J e (fun z=>nomatch z) h
end
section
variable{A:Around}{k:Nat}
structure aW(k:Nat)(A:Around):Prop where
 hd:A.handled=none
 dp:A.depth+3*k+5<recursionLimit
 un:A.units+16*k+200<cLine
 gd:A.guards=some []
theorem aW.mono{j k:Nat}(r:aW k A)(h:j<=k):aW j A:=⟨r.hd,by have:=r.dp;lia,by have:=r.un;lia,r.gd⟩
theorem aW.deeper(r:aW (k+1) A)(env:Env):aW k (A.deeper env):=
 ⟨r.hd,by have:=r.dp;show A.depth+1+3*k+5<_;lia,by have:=r.un;show A.units+3+16*k+200<_;lia,r.gd⟩
theorem aW.depth(r:aW k A):A.depth<recursionLimit:=by have:=r.dp;lia
theorem aW.units(r:aW k A):A.units+64<cLine:=by have:=r.un;lia
def xy:TA:=fun _ H Q=>Q [] H
def tO(ta:TE)(tr:TA):TA:=fun σ H Q=>ta σ H fun x H1=>tr σ H1 fun xs H2=>Q (x::xs) H2
end
section
variable{X:Cx}{e:Expr}{es:List Expr}{te:TE}{t:TA}{pos:Pos}
theorem rC:PA X [] xy:=fun _ _ _ _ H Q I h=>Nm ⟨[],H,I,.nil,h⟩
theorem nB(ha:PE X e te)(hr:PA X es t)(hs:starEach (e::es) X.env=(false,eval e X.env)::starEach es X.env:=by rfl):PA X (e::es) (tO te t):=by intro pos sy s σ H Q I h;rw[hs];show wpAny _ _ (spliced ((false,eval e X.env)::backTo pos (starEach es X.env))) _ _ s;refine Ox (thn (ha sy s σ H _ I h) fun u s1 ⟨x,H1,I1,r1,q1⟩=>?_);exact thn (hr pos sy s1 σ H1 _ I1 q1) fun us s2 ⟨xs,H2,I2,r2,q2⟩=>⟨x::xs,H2,I2,.cons r1 r2,q2⟩
def Ip(t:TA):TE:=fun σ H Q=>t σ H fun xs H1=>xs.length<=sizeLine/\∀p,H1 p=none->Q (.ref p) (upd H1 p (.tup xs))
def Bf(t:TA):TE:=fun σ H Q=>t σ H fun xs H1=>xs.length<=sizeLine/\∀p,H1 p=none->Q (.ref p) (upd H1 p (.lst xs))
theorem E5{x1}(h:PA X es t):PE X (.Tuple es x1 pos) (Ip t):=by intro sy s σ H Q I hq;refine wpAny_Tuple_spliced (thn (h pos sy s σ H _ I hq) fun us s1 ⟨xs,H1,I1,r,z,q⟩=>⟨by rw[<- r.length];exact z,?_⟩);have hf:H1 s1.heap.objs.size=none:=I1.hok.fresh (Ds _);refine⟨.ref s1.heap.objs.size,upd H1 s1.heap.objs.size (.tup xs),I1.laid (t':=s1.toks) (fun b u e=>Mf _ e) (Ds _) ?_,rfl,q _ hf⟩;exact⟨z,us,r,⟨_,Ms _ rfl,rfl,_,rfl⟩⟩
theorem xA(h:PA X es t):PE X (.List es pos) (Bf t):=by intro sy s σ H Q I hq;refine wpAny_List_spliced (thn (h pos sy s σ H _ I hq) fun us s1 ⟨xs,H1,I1,r,z,q⟩=>⟨by rw[<- r.length];exact z,?_⟩);have hf:H1 s1.heap.objs.size=none:=I1.hok.fresh (Ds _);refine⟨.ref s1.heap.objs.size,upd H1 s1.heap.objs.size (.lst xs),I1.laid (t':=s1.toks) (fun b u e=>Mf _ e) (Ds _) ?_,rfl,q _ hf⟩;exact⟨z,us,0,r,Ms _ rfl⟩
end
noncomputable abbrev Sp:=List V->Hp->VK->XK->Prop
noncomputable abbrev CXT:=List Env->Hp->Shared->XK->Value->Shared->Prop
structure Bg(P:Program)(w:World)(K:gc)(mg:Str->Option Value)(base:Heap)(A:Around)(outer:List Env)(s:Shared)(H:Hp):Prop where
 frames:A.frames=some outer
 mod:Mod K mg base
 bs:∀b o,base.get? b=some o->s.heap.get? b=some o/\H b=none
 bsz:base.objs.size<=s.heap.objs.size
 jC:s.heap.FunFrames base outer
 frf:∀b∈frs outer,H b=none
 hok:HOk P w H s.heap
 bare:AllBare s.gens
def CE(outer:List Env)(P:Program)(w:World)(H:Hp)(s:Shared)(Q:VK)(u:Value)(s':Shared):Prop:=
 ∃v H',s'.os=s.os/\AllBare s'.gens/\Un (frs outer) [] H H' s.heap s'.heap/\HOk P w H' s'.heap/\RelV v u/\Q v H'
def CR(CX:CXT)(outer:List Env)(P:Program)(w:World)(H:Hp)(s:Shared)(Q:VK)(E:XK)(r:Result)(s':Shared):Prop:=
 match r with
 |.ok (.ret u)=>CE outer P w H s Q u s'
 |.ok _=>False
 |.error e=>CX outer H s E e s'
structure aN(P:Program)(w:World)(K:gc)(mg:Str->Option Value)(base:Heap)(CX:CXT)(k:Nat)(f:Addr)(fd:FuncData)(ps:List Str)(sp:Sp):Prop where
 len:∀vs H Q E,sp vs H Q E->vs.length=ps.length
 run:∀(A:Around) (outer:List Env) (s:Shared) (H:Hp) (args:Args) (us:List Value) (vs:List V) (Q:VK) (E:XK),aW k A->Bg P w K mg base A outer s H->BindsTo s fd args (ps.zip us)->Vals vs us->sp vs H Q E ->
  codeAny (model P w) A (.call (.ref f) args) (CR CX outer P w H s Q E) s
section
variable{X:Cx}{sy:List (Addr×Obj)}{σ:St}{H:Hp}{s s':Shared}
theorem Inv.Lc(I:Inv X sy σ H s):Bg X.prog X.w X.K X.mg X.base X.A X.stack s H:=
 ⟨I.ok.frames,I.ok.mod,I.bs,ML I.ok.bsz I.sz,I.stack,I.tF,I.hok,I.bare⟩
theorem Inv.after{Q:VK}{u:Value}(I:Inv X sy σ H s)(h:CE X.stack X.prog X.w H s Q u s'):EP X sy σ Q u s':=by obtain⟨v,H',os,bare,un,hok,r,q⟩:=h;obtain⟨hh,g,d,t,os'⟩:=s';obtain rfl:os'=s.os:=os;exact⟨v,H',I.call (h':=hh) (g':=g) (d':=d) (t':=t) (ch:=[]) un hok bare (fun b z=>absurd z (by simp)),r,q⟩
end
def oY(sp:Sp)(dvs:List V)(E:XK)(t:TA):TE:=fun σ H Q=>t σ H fun vs H1=>sp (vs++dvs) H1 Q E
def Binds(K:gc)(fd:FuncData)(ps:List Str)(ds:List Value):Prop:=
 ∀(s:Shared) (us:List Value),K.In s.heap->(us++ds).length=ps.length->BindsTo s fd ⟨us,[]⟩ (ps.zip (us++ds))
theorem Binds.all{K:gc}{fd:FuncData}{ps:List Str}(h:∀us:List Value,us.length=ps.length->bindArgs fd ⟨us,[]⟩=pure (ps.zip us)):Binds K fd ps []:=fun s us _ hl=>by rw[Nb]at hl ⊢;exact .of_eq (h us hl)
def Passes(CX:CXT)(X:Cx)(E:XK):Prop:=∀(sy:List (Addr×Obj)) (σ:St) (H:Hp) (s:Shared) (e:Value) (s':Shared),Inv X sy σ H s->CX X.stack H s E e s'->X.xe e s'
section
variable{X:Cx}{CX:CXT}{k:Nat}{f C:Addr}{fd:FuncData}{ps:List Str}{sp:Sp}{dvs:List V}{ds:List Value}{E:XK}{x m:Str}{p pos Gz:Pos}{e o:Expr}{es:List Expr}{ta:TE}{t:TA}
theorem E6{sy:List (Addr×Obj)}{σ:St}{H:Hp}{s:Shared}{Q:VK}{us:List Value}{vs:List V}(F:aN X.prog X.w X.K X.mg X.base CX k f fd ps sp)(hr:aW k X.A)(hb:Binds X.K fd ps ds)(hd:Vals dvs ds)(hx:Passes CX X E)
  (I:Inv X sy σ H s) (r:Vals vs us) (h:sp (vs++dvs) H Q E):wpAny (model X.prog X.w) X.A (call (.ref f) us) (EP X sy σ Q) X.xe s:=by
 have r2:Vals (vs++dvs) (us++ds):=r.append hd;have hl:(us++ds).length=ps.length:=by rw[<- r2.length];exact F.len _ _ _ _ h
 refine wpAny_call (codeAny_mono (F.run X.A X.stack s H ⟨us,[]⟩ (us++ds) (vs++dvs) Q E hr I.Lc (hb s us I.kIn hl) r2 h) fun r s' hq=>?_);cases r with
 |error e=>exact hx sy σ H s e s' I hq
 |ok fl=>
  cases fl with
  |ret u=>exact I.after hq
  |next=>exact MN hq
  |brk=>exact MN hq
  |cont=>exact MN hq
theorem jt(F:aN X.prog X.w X.K X.mg X.base CX k f fd ps sp)(hr:aW k X.A)(hg:Gl X x)(hm:X.mg x=some (.ref f))(hk:Nv X.K (.ref f)=true)(hb:Binds X.K fd ps ds)(hd:Vals dvs ds)(hx:Passes CX X E)
  (ha:PA X (e::es) t) (LM:(x == ("__debug__" : Str))=false:=by decide) (he:starEach (e::es) X.env=(false,eval e X.env)::starEach es X.env:=by rfl) (Gx:(backTo pos (starEach es X.env)).any (·.1)=false:=by rfl) :
  PE X (.Call (.Name x p) (e::es) [] pos) (oY sp dvs E t):=by
 intro sy s σ H Q I h;refine wpAny_Call_Name_kw (tH I hg hm ?_ LM);refine PySem.W.callWith_K (h₀:=X.base) I.ok.mod.kin hk (thn (ha pos sy s σ H _ I h) fun us s1 ⟨vs,H1,I1,r,q⟩=>⟨I1.kIn,?_⟩) he Gx;exact E6 F hr hb hd hx I1 r q
end
section
variable{x:Str}{v:Value}
structure av(N P:List Str)(sc:Scope):Prop where
 kind:sc.kind=.function
 co:sc.isCoroutine=false
 gen:sc.isGenerator=false
 nd:N.Nodup
 pre:N.take P.length=P
 par:∀x∈P,sc.names.lookup x=some .local\/sc.names.lookup x=some .cell
 E7:∀y∈sc.names,y.2≠.free
theorem mj{kindOf:Str->Option NameKind}:∀{binds:List (Str×Value)} {m:Str->Option Value},(∀v,(x,v)∉binds)->bindL kindOf binds m x=m x
 |[],_,_=>rfl
 |(n,v)::r,m,h=>by
  unfold bindL;rw[mj fun w hw=>h w (Mh _ hw)];split
  ·have:x≠n:=by rintro rfl;exact h v Mg
   simp[this]
  ·rfl
theorem mq{kindOf:Str->Option NameKind}:∀{binds:List (Str×Value)} {m:Str->Option Value},(∀v,(x,v)∉binds)->bindC kindOf binds m x=m x
 |[],_,_=>rfl
 |(n,v)::r,m,h=>by
  unfold bindC;rw[mq fun w hw=>h w (Mh _ hw)];split
  ·rfl
  ·have:x≠n:=by rintro rfl;exact h v Mg
   simp[this]
theorem mw{kindOf:Str->Option NameKind}:∀{P:List Str} {vs:List Value} {i:Nat} {m:Str->Option Value},P.Nodup->P[i]?=some x->vs[i]?=some v->kindOf x=some .local ->
  bindL kindOf (P.zip vs) m x=some v
 |[],_,_,_,_,h,_,_=>by simp at h
 |_::_,[],_,_,_,_,h,_=>by simp at h
 |p::P,w::vs,0,m,nd,h1,h2,hk=>by simp at h1 h2;subst h1;subst h2;show bindL kindOf ((p,w)::P.zip vs) m p=_;unfold bindL;rw[mj fun v hv=>(MG.mp nd).1 (Og hv).1,if_pos hk];simp
 |p::P,w::vs,i+1,m,nd,h1,h2,hk=>by show bindL kindOf ((p,w)::P.zip vs) m x=_;unfold bindL;exact mw (i:=i) (MG.mp nd).2 (by simpa using h1) (by simpa using h2) hk
theorem mz{kindOf:Str->Option NameKind}:∀{P:List Str} {vs:List Value} {i:Nat} {m:Str->Option Value},P.Nodup->P[i]?=some x->vs[i]?=some v->kindOf x≠some .local ->
  bindC kindOf (P.zip vs) m x=some v
 |[],_,_,_,_,h,_,_=>by simp at h
 |_::_,[],_,_,_,_,h,_=>by simp at h
 |p::P,w::vs,0,m,nd,h1,h2,hk=>by simp at h1 h2;subst h1;subst h2;show bindC kindOf ((p,w)::P.zip vs) m p=_;unfold bindC;rw[mq fun v hv=>(MG.mp nd).1 (Og hv).1,if_neg hk];simp
 |p::P,w::vs,i+1,m,nd,h1,h2,hk=>by show bindC kindOf ((p,w)::P.zip vs) m x=_;unfold bindC;exact mz (i:=i) (MG.mp nd).2 (by simpa using h1) (by simpa using h2) hk
noncomputable def start(N:List Str)(vs:List V):St:=vs.map some++Dk (N.length-vs.length) none
noncomputable def rD(CX:CXT)(P:Program)(w:World)(K:gc)(mg:Str->Option Value)(base:Heap)(N:List Str)(qual:Str)(scope:Scope)(f:Addr)(cd:Value)(A:Around)(outer:List Env)(s:Shared)(H:Hp)(E:XK):Cx where
 prog:=P
 w:=w
 K:=K
 mg:=mg
 base:=base
 A:=A.deeper (envOfC qual scope s.heap.objs.size f cd)
 N:=N
 s₀:=s
 H₀:=H
 env:=envOfC qual scope s.heap.objs.size f cd
 outer:=outer
 stack:=envOfC qual scope s.heap.objs.size f cd::outer
 ex:=[]
 calm:=true
 fn:=fun _=>true
 pn:=[]
 xe:=fun e s'=>wpAny (model P w) (A.deeper (envOfC qual scope s.heap.objs.size f cd)) (leaving (envOfC qual scope s.heap.objs.size f cd) e) (fun _ s''=>CX outer H s E e s'') (fun e' s''=>CX outer H s E e' s'') s'
theorem oZ{sc:Scope}{n:Nat}(h:sc.names.lookup x=some .cell):∃c,(cellsFrom n sc.names []).lookup x=some c:=by have q:=PySem.W.cellsFrom_some sc.names n [] (.inl h);exact Option.isSome_iff_exists.mp q
theorem vC{CX:CXT}{P:Program}{w:World}{K:gc}{mg:Str->Option Value}{base:Heap}{N ps:List Str}{qual:Str}{scope:Scope}{f:Addr}{cd:Value}{A:Around}{outer:List Env}{s s1:Shared}{H:Hp}{E:XK}{us:List Value}{vs:List V}
  (S:av N ps scope) (hd:A.handled=none) (e0:Bg P w K mg base A outer s H) (hl:vs.length=ps.length) (r:Vals vs us)
  (x:InCallC s s.heap.objs.size (bindL (envOfC qual scope s.heap.objs.size f cd).kindOf (ps.zip us) fun _=>none) (cellsFrom (s.heap.objs.size+1) scope.names []) (bindC (envOfC qual scope s.heap.objs.size f cd).kindOf (ps.zip us) fun _=>none) s1) :
  Inv (rD CX P w K mg base N qual scope f cd A outer s H E) [] (start N vs) H s1:=by
 have Gx:ps.length<=N.length:=by have:=congrArg List.length S.pre;rw[Nx]at this;lia
 obtain⟨h1,tk,rfl,hk⟩:=x.done;have noA:∀b:Addr,b∉(rD CX P w K mg base N qual scope f cd A outer s H E).ex:=fun b z=>absurd (show b∈([]:List Addr) from z) (by simp);refine ⟨⟨e0.mod,S.kind,rfl,rfl,Ds _,fun y z c h1 h2=>?_,fun y hy=>?_,fun y c _ h=>?_,fun _=>hd,Around.frames_deeper e0.frames,.inr ⟨rfl,rfl⟩,fun b z=>absurd z (noA b),e0.bs,e0.bsz,fun b _ _=>noA b,fun b z=>absurd z (noA b),e0.jC,e0.frf⟩,
  rfl,e0.bare,Un.kept hk,⟨_,x.toInCall.ns,fun i y v h1 h2 h3=>?_⟩,fun y c h=>⟨_,x.cell y c h⟩,e0.hok.fresh (Ds _),fun y c h=>?_,fun p hp=>absurd (show p∈([]:List (Addr×Obj)) from hp) (by simp),e0.hok.kept hk,?_⟩
 ·exact name_of_addr x.apart (PySem.mem_of_lookup h1) (PySem.mem_of_lookup h2)
 ·have hy:scope.names.lookup y=some .cell\/scope.names.lookup y=some .free:=hy;rcases hy with hy | hy
  ·exact oZ hy
  ·exact absurd rfl (S.E7 _ (PySem.mem_of_lookup hy))
 ·exact OH (x.above y c (PySem.mem_of_lookup h))
 ·have hi:i<vs.length:=by
   unfold start at h2;by_cases hi:i<vs.length
   ·exact hi
   ·rw[MJ (by simpa using hi)]at h2;rw[MV]at h2;split at h2<;>cases h2
  have ha:vs[i]?=some v:=by
   unfold start at h2;rw[Mn (by simpa using hi),MA]at h2;cases e:vs[i]? with
   |none=>rw[e]at h2;cases h2
   |some a=>rw[e]at h2;cases h2;rfl
  obtain⟨u,hu,rv⟩:=r.get ha;have hp:ps[i]?=some y:=by rw[<- S.pre,NI (by lia)];exact h1
  have ndP:ps.Nodup:=by rw[<- S.pre];exact S.nd.sublist (List.take_sublist _ _)
  refine⟨u,rv,?_⟩;rcases S.par y (NF hp) with k | k
  ·exact .inl ⟨k,mw ndP hp hu k⟩
  ·obtain⟨c,e⟩:=oZ (n:=s.heap.objs.size+1) k;refine .inr ⟨.inl k,c,e,?_⟩;have q:=x.cell y c e;rw[mz ndP hp hu (by show scope.names.lookup y≠_;rw[k];decide)]at q;exact q
 ·exact e0.hok.fresh (OH (x.above y c (PySem.mem_of_lookup h)))
 ·unfold start;show _=N.length;rw[Mr,Dp,NP]
  lia
theorem Iq{CX:CXT}{P:Program}{w:World}{K:gc}{mg:Str->Option Value}{base:Heap}{k:Nat}{f:Addr}{name qual:Str}{params:Arguments}{body:List Stmt}{scope:Scope}{dV kV doc pm cdv ct oc:Value}{an od:Option Addr}
  {osl:Array (Option Value)} {N ps:List Str} {sp:Sp} (lk:K.lookup f=some ⟨oc,od,.func (MQ name qual params body scope dV kV doc pm an cdv ct),osl⟩) (JO:Ot K cdv qual=true) (S:av N ps scope)
  (len:∀vs H Q E,sp vs H Q E->vs.length=ps.length)
  (hbody:∀ (A:Around) (outer:List Env) (s:Shared) (H:Hp) (vs:List V) (Q:VK) (E:XK),aW k (A.deeper (envOfC qual scope s.heap.objs.size f cdv))→sp vs H Q E →
   ∃t,PSs (rD CX P w K mg base N qual scope f cdv A outer s H E) body t/\t { nx:=fun _ H'=>Q .non H',rt:=Q } (start N vs) H) :
  aN P w K mg base CX (k+1) f (MQ name qual params body scope dV kV doc pm an cdv ct) ps sp:=by
 refine⟨len,fun A outer s H args us vs Q E hr e0 hb r hsp=>?_⟩;have hl:=len _ _ _ _ hsp;have KX:K.In s.heap:=e0.mod.kin.keeps fun b o e=>(e0.bs b o e).1;have lim:s.heap.NoLimit:=e0.mod.nolimit.keeps fun b o e=>(e0.bs b o e).1;have hkind:∀y∈ps.zip us,scope.names.lookup y.1=some .local\/(scope.names.lookup y.1=some .cell/\((cellsFrom (s.heap.objs.size+1) scope.names []).lookup y.1).isSome=true):=fun⟨n,v⟩ hy=>by
  rcases S.par n (Og hy).1 with q | q
  ·exact .inl q
  ·exact .inr ⟨q,PySem.W.cellsFrom_some _ _ _ (.inl q)⟩
 refine codeAny_call_function hr.depth (KX _ _ lk) rfl S.co S.gen rfl (PySem.W.codeRec_of KX JO) (hb _ _ _ _ ?_);refine wpAny_newFunctionEnv_cells S.kind hkind fun env he s1 x=>?_;subst he;refine⟨lim.keeps x.toInCall.keep,codeAny_func ?_⟩;obtain⟨t,ht,hq⟩:=hbody A outer s H vs Q E (hr.deeper _) hsp;have I:Inv (rD CX P w K mg base N qual scope f cdv A outer s H E) [] (start N vs) H s1:=vC S hr.hd e0 hl r x;refine wpAny_mono (ht [] s1 (start N vs) H _ I hq) (fun fl s' hs=>?_) fun e s' hs=>hs;have JM:∀{σ':St} {H':Hp} {v:V} {u:Value},Inv (rD CX P w K mg base N qual scope f cdv A outer s H E) [] σ' H' s'->RelV v u->Q v H'->CE outer P w H s Q u s':=
  fun {σ' H' v u} J rv q=>⟨v,H',J.os,J.bare,J.base,J.hok,rv,q⟩
 cases fl with
 |ret u=>obtain⟨v,σ',H',J,rv,q⟩:=hs;exact JM J rv q
 |next=>obtain⟨σ',H',J,q⟩:=hs;exact JM (v:=V.non) (u:=Value.none) J rfl q
 |brk=>obtain⟨_,_,_,q⟩:=hs;exact MN q
 |cont=>obtain⟨_,_,_,q⟩:=hs;exact MN q
end
section
variable{X:Cx}{x:Str}{p pos:Pos}{e:Expr}{es:List Expr}{t:TA}{id T:String}{r:List V->Hp->VK->Prop}
def tCB(r:List V->Hp->VK->Prop)(t:TA):TE:=fun σ H Q=>t σ H fun vs H1=>r vs H1 Q
theorem o6(hc:cM X (.builtin id) r)(hg:Gl X x)(hm:X.mg x=none)(hv:bootBuiltins x=some (.builtin id))(ha:PA X (e::es) t)(hn:x ≠ "__name__" := by decide)(LM:(x == ("__debug__" : Str))=false:=by decide)
  (he:starEach (e::es) X.env=(false,eval e X.env)::starEach es X.env:=by rfl) (Gx:(backTo pos (starEach es X.env)).any (·.1)=false:=by rfl):PE X (.Call (.Name x p) (e::es) [] pos) (tCB r t):=by
 intro sy s σ H Q I h;refine wpAny_Call_Name_kw (cj I hg hm hv ?_ hn LM);exact PyProof.Rows.callWith_builtin1 (thn (ha pos sy s σ H _ I h) fun us s1 ⟨vs,H1,I1,r1,q1⟩=>hc sy s1 σ H1 vs us Q I1 r1 q1) he Gx
theorem vD(hc:cM X (.type T) r)(hg:Gl X x)(hm:X.mg x=none)(hv:bootBuiltins x=some (.type T))(ha:PA X (e::es) t)(hn:x ≠ "__name__" := by decide)(LM:(x == ("__debug__" : Str))=false:=by decide)
  (he:starEach (e::es) X.env=(false,eval e X.env)::starEach es X.env:=by rfl) (Gx:(backTo pos (starEach es X.env)).any (·.1)=false:=by rfl):PE X (.Call (.Name x p) (e::es) [] pos) (tCB r t):=by
 intro sy s σ H Q I h;refine wpAny_Call_Name_kw (cj I hg hm hv ?_ hn LM);exact MM (thn (ha pos sy s σ H _ I h) fun us s1 ⟨vs,H1,I1,r1,q1⟩=>hc sy s1 σ H1 vs us Q I1 r1 q1) he Gx
end
end L2
namespace HT
open PySem PyProof.Rows
section
variable{prog:Program}{w:World}{A:Around}{E:Value->Shared->Prop}{s:Shared}
noncomputable def sIx(n d:Nat):Option Int->Nat
 |none=>d
 |some v=>if v<0 then (v+(n:Int)).toNat else min v.toNat n
end
end HT
namespace L2
open PySem PySem.Spec PyProof.Rows
noncomputable abbrev TO:=St->Hp->(Option Int->Hp->Prop)->Prop
def PO(X:Cx)(e:Option Expr)(t:TO):Prop:=
 ∀(sy:List (Addr×Obj)) (s:Shared) (σ:St) (H:Hp) (Q:Option Int->Hp->Prop),Inv X sy σ H s->t σ H Q ->
  wpAny (model X.prog X.w) X.A (evalPart e X.env) (fun u s'=>∃o H',Inv X sy σ H' s'/\IsPart u o/\Q o H') X.xe s
def nC:TO:=fun _ H Q=>Q none H
def xB(t:TE):TO:=fun σ H Q=>t σ H fun x H1=>∃i,x=.int i/\Q (some i) H1
section
variable{X:Cx}{e:Expr}{te:TE}{lo hi:Option Expr}{tl th:TO}{pos p2:Pos}
theorem Bh:PO X none nC:=by intro sy s σ H Q I h;rw[evalPart_none];exact wpAny_pure ⟨none,H,I,.none,h⟩
theorem tP(h:PE X e te):PO X (some e) (xB te):=by intro sy s σ H Q I hw;rw[evalPart_some];refine thn (h sy s σ H _ I hw) fun u s1 ⟨x,H1,I1,r1,q1⟩=>?_;obtain⟨i,rfl,q⟩:=q1;obtain⟨t,rfl⟩:=r1;exact⟨some i,H1,I1,.int i t,q⟩
def SlR(X:Cx)(r:V->Option Int->Option Int->Hp->VK->Prop):Prop:=
 ∀(sy:List (Addr×Obj)) (s:Shared) (σ:St) (H:Hp) (x:V) (v vl vu:Value) (lo hi:Option Int) (sl:Addr) (Q:VK),Inv X sy σ H s->RelV x v->s.heap.IsSliceOf sl vl vu .none->IsPart vl lo->IsPart vu hi->r x lo hi H Q ->
  ∃T id,typeLookup (.type T) "__getitem__" = pure (some (.builtin id))/\s.TypeIs v T/\wpAny (model X.prog X.w) X.A (getItem v (.ref sl)) (EP X sy σ Q) X.xe s
def tSl(r:V->Option Int->Option Int->Hp->VK->Prop)(te:TE)(tl th:TO):TE:=fun σ H Q=>te σ H fun x H1=>tl σ H1 fun l H2=>th σ H2 fun u H3=>r x l u H3 Q
theorem xC{r:V->Option Int->Option Int->Hp->VK->Prop}(hr:SlR X r)(he:PE X e te)(hl:PO X lo tl)(hu:PO X hi th):PE X (.Subscript e (.Slice lo hi none p2) pos) (tSl r te tl th):=by intro sy s σ H Q I h;refine Subscript_ (thn (he sy s σ H _ I h) fun v s1 ⟨x,H1,I1,r1,q1⟩=>?_);refine wpAny_Slice (thn (hl sy s1 σ H1 _ I1 q1) fun vl s2 ⟨l,H2,I2,pl,q2⟩=>thn (hu sy s2 σ H2 _ I2 q2) fun vu s3 ⟨u,H3,I3,pu,q3⟩=>?_);rw[evalPart_none];refine wpAny_pure ?_;have I4:Inv X sy σ H3 { s3 with heap:=s3.heap.push { cls:=.type "slice",data:=.fields #[vl,vu,.none] } }:=I3.kept (t':=s3.toks) fun b ob q=>Mf _ q;obtain⟨T,id,hT,ht,hg⟩:=hr sy { s3 with heap:=s3.heap.push { cls:=.type "slice",data:=.fields #[vl,vu,.none] } } σ H3 x v vl vu l u s3.heap.objs.size Q I4 r1 (Heap.IsSliceOf.new ..) pl pu q3;show wpAny (model X.prog X.w) X.A (subscriptTail e (.Slice lo hi none p2) v (.ref s3.heap.objs.size)) (EP X sy σ Q) X.xe { s3 with heap:=s3.heap.push { cls:=.type "slice",data:=.fields #[vl,vu,.none] } };exact tail_any (ops:=[.ref s3.heap.objs.size,v]) ht hT hg (by with_unfolding_all rfl)
noncomputable def rE(xs:List V)(lo hi:Option Int):List V:=(xs.drop (HT.sIx xs.length 0 lo)).take (HT.sIx xs.length xs.length hi-HT.sIx xs.length 0 lo)
theorem o7(xs:List V)(lo hi:Option Int):(rE xs lo hi).length<=xs.length:=by
 unfold rE;rw[Nx,List.length_drop]
 lia
end
noncomputable def ixN(n:Nat)(i:Int):Option Nat:=if 0<=i then (if i<n then some i.toNat else none) else if -(n:Int)<=i then some (i+n).toNat else none
noncomputable def atI{α:Type}(xs:List α)(i:Int):Option α:=(ixN xs.length i).bind fun j=>xs[j]?
theorem tQ{n:Nat}{i:Int}{j:Nat}(h:ixN n i=some j):seqIndex? i n=some j/\j<n/\-(n:Int)<=i/\i<n:=by
 unfold ixN at h;by_cases h0:0<=i
 ·rw[if_pos h0]at h;by_cases h1:i<n
  ·rw[if_pos h1]at h;have e:i.toNat=j:=Option.some.inj h;exact⟨by rw[seqIndex_of h0 h1,e],by lia,by lia,h1⟩
  ·rw[if_neg h1]at h;cases h
 ·rw[if_neg h0]at h;by_cases h1:-(n:Int)<=i
  ·rw[if_pos h1]at h;have e:(i+n).toNat=j:=Option.some.inj h;exact⟨by rw[seqIndex_neg (by lia) h1,e],by lia,h1,by lia⟩
  ·rw[if_neg h1]at h;cases h
theorem tR{α:Type}{xs:List α}{i:Int}{v:α}(h:atI xs i=some v):∃j,seqIndex? i xs.length=some j/\xs[j]?=some v/\j<xs.length/\-(xs.length:Int)<=i/\i<xs.length:=by
 unfold atI at h;cases e:ixN xs.length i with
 |none=>rw[e]at h;cases h
 |some j=>rw[e]at h;obtain⟨h1,h2,h3,h4⟩:=tQ e;exact⟨j,h1,h,h2,h3,h4⟩
def nD(b:Expr):Prop:=∀o i,subscripted b false o i=operate [o,i] (getItem o i)
def IxR(X:Cx)(r:R2):Prop:=
 ∀(value slice:Expr) (sy:List (Addr×Obj)) (s:Shared) (σ:St) (H:Hp) (x y:V) (v u:Value) (Q:VK),Inv X sy σ H s->RelV x v->RelV y u->r x y H Q ->
  subscripted slice false v u=operate [v,u] (getItem v u)->wpAny (model X.prog X.w) X.A (subscriptTail value slice v u) (EP X sy σ Q) X.xe s
def MtR(X:Cx)(id:String)(r:V->List V->Hp->VK->Prop):Prop:=
 ∀(sy:List (Addr×Obj)) (s:Shared) (σ:St) (H:Hp) (x:V) (xs:List V) (v:Value) (us:List Value) (Q:VK),Inv X sy σ H s->RelV x v->Vals xs us->r x xs H Q ->
  wpAny (model X.prog X.w) X.A (call (.builtin id) (v::us)) (EP X sy σ Q) X.xe s
section
variable{X:Cx}{a b:Expr}{ta tb:TE}{pos:Pos}
section
variable{sy:List (Addr×Obj)}{s:Shared}{H:Hp}{σ:St}
theorem IxR.or{r r':R2}(h:IxR X r)(h':IxR X r'):IxR X (fun x y H Q=>r x y H Q\/r' x y H Q):=by
 intro value slice sy s σ H x y v u Q I rx ry q hs;rcases q with q | q
 ·exact h value slice sy s σ H x y v u Q I rx ry q hs
 ·exact h' value slice sy s σ H x y v u Q I rx ry q hs
theorem Dc{r:R2}(hr:IxR X r)(ha:PE X a ta)(hb:PE X b tb)(hs:nD b):PE X (.Subscript a b pos) (tOp r ta tb):=by intro sy s σ H Q I h;exact Subscript_ (EU ha hb I h fun v u s2 x y H2 I2 rx ry q=>hr a b sy s2 σ H2 x y v u Q I2 rx ry q (hs _ _))
def E8(K:gc):R2:=fun x y H Q=>∃p xs i v,x=.ref p/\y=.int i/\SqL K H p xs/\atI xs i=some v/\Q v H
def Ir(K:gc):R2:=fun x y H Q=>∃p xs i v,x=.ref p/\y=.int i/\SqT K H p xs/\atI xs i=some v/\Q v H
theorem tS:IxR X (E8 X.K):=by
 intro value slice sy s σ H x y v u Q I rx ry h hs;obtain⟨p,xs,i,z,rfl,rfl,hq,he,q⟩:=h;cases rx;obtain⟨t,rfl⟩:=ry;obtain⟨its,r,pl,hz⟩:=I.list hq;obtain⟨j,h1,h2,h3,h4,h5⟩:=tR he;obtain⟨w,ew,rw'⟩:=r.get h2;have hl:=r.length;have hn:=jG;have JM:EP X sy σ Q w s:=⟨z,H,I,rw',q⟩
 by_cases h0:0<=i
 ·have hj:i.toNat=j:=by
   rw[seqIndex_of h0 h5]at h1;exact Option.some.inj h1
  exact item_listR pl.isList h0 (by lia) (by rw[hj];simpa using ew) JM hs
 ·have hj:(i+(its.toArray.size:Int)).toNat=j:=by
   rw[seqIndex_neg (by lia) h4]at h1;rw[Mk,<- hl];exact Option.some.inj h1
  exact subscriptTail_builtinR (x:=w) pl.isList.typeIs slot_list_getitem.lookup
   (wpAny_getItem_list_neg (Q:=fun r s'=>r=w/\EP X sy σ Q r s') pl.isList (by lia) (by rw[Mk]<;>lia) (by lia) (by rw[hj];simpa using ew) ⟨rfl,JM⟩) hs
theorem E9:IxR X (Ir X.K):=by
 intro value slice sy s σ H x y v u Q I rx ry h hs;obtain⟨p,xs,i,z,rfl,rfl,hq,he,q⟩:=h;cases rx;obtain⟨t,rfl⟩:=ry;obtain⟨its,r,pl,hz⟩:=I.tuple hq;obtain⟨j,h1,h2,h3,h4,h5⟩:=tR he;obtain⟨w,ew,rw'⟩:=r.get h2;have hl:=r.length;have hn:=jG;have JM:EP X sy σ Q w s:=⟨z,H,I,rw',q⟩
 exact subscriptTail_builtinR (x:=w) pl.typeIs slot_tuple_getitem.lookup
  (getItem_tuple (j:=j) (Q:=fun r s'=>r=w/\EP X sy σ Q r s') pl (by lia) (by lia) (by rw[Mk,<- hl];exact h1) (by simpa using ew) ⟨rfl,JM⟩) hs
theorem rF(its:List Value)(n j:Nat)(u:Value):N6 (·.setIfInBounds j u) { cls:=.type "list",data:=.seq its.toArray n }={ cls:=.type "list",data:=.seq (its.set j u).toArray n }:=by simp[N6]
theorem Inv.lst{sy:List (Addr×Obj)}{σ:St}{H:Hp}{s:Shared}{p:Addr}{xs:List V}(I:Inv X sy σ H s)(h:H p=some (.lst xs)) :
  ∃(its:List Value) (n:Nat),Vals xs its/\s.heap.get? p=some { cls:=.type "list",data:=.seq its.toArray n }/\xs.length<=sizeLine:=by
 obtain⟨z,its,n,r,e⟩:=I.hok p _ h;exact⟨its,n,r,e,z⟩
theorem Inv.E_{p:Addr}{xs ys:List V}{its its':List Value}{n n':Nat}{f:Obj->Obj}(I:Inv X sy σ H s)(h:H p=some (.lst xs))
  (ho:s.heap.get? p=some { cls:=.type "list",data:=.seq its.toArray n }) (hf:f { cls:=.type "list",data:=.seq its.toArray n }={ cls:=.type "list",data:=.seq its'.toArray n' }) (r:Vals ys its') (hz:ys.length<=sizeLine) (t:Nat) :
  Inv X sy σ (upd H p (.lst ys)) { s with heap:=s.heap.update p f,toks:=t }:=by
 have e:(s.heap.update p f).get? p=some { cls:=.type "list",data:=.seq its'.toArray n' }:=by rw[Od f ho (by rw[hf]<;>rfl),hf]
 refine I.write (x:=p) (e:=p) (by rw[h];trivial) (.inl rfl) (fun b u hb q=>(Oa _ _ (Ne.symm hb)).trans q) ⟨_,e⟩ ?_;exact⟨hz,its',n',r,e⟩
def Dd:V->V->V->Hp->(Hp->Prop)->Prop:=fun o i v H Q=>∃p xs k j,o=.ref p/\i=.int k/\H p=some (.lst xs)/\ixN xs.length k=some j/\Q (upd H p (.lst (xs.set j v)))
theorem set_list:Ig X Dd:=by
 intro sy s σ H o i v ov iv u Q I ro ri rv h;obtain⟨p,xs,k,j,rfl,rfl,hp,hj,q⟩:=h;cases ro;obtain⟨t,rfl⟩:=ri;obtain⟨its,n,r,ho,hz⟩:=I.lst hp;obtain⟨h1,h2,h3,h4⟩:=tQ hj;have hl:=r.length;have hn:=jG;have I':Inv X sy σ (upd H p (.lst (xs.set j v))) { s with heap:=s.heap.update p (N6 (·.setIfInBounds j u)) }:=
  I.E_ hp ho (rF its n j u) (r.set rv j) (by rw[MK];exact hz) s.toks
 by_cases h0:0<=k
 ·have hk:k.toNat=j:=by
   rw[seqIndex_of h0 h4]at h1;exact Option.some.inj h1
  exact PySem.W.ki_setAt ho h0 (by lia) (by rw[Mk,<- hl];exact h4) (by rw[hk];exact⟨_,I',q⟩)
 ·have hk:(k+(its.toArray.size:Int)).toNat=j:=by
   rw[seqIndex_neg (by lia) h3]at h1;rw[Mk,<- hl];exact Option.some.inj h1
  exact PySem.W.ki_setBack ho (by lia) (by rw[Mk,<- hl];exact h3) (by lia) (by rw[hk];exact⟨_,I',q⟩)
theorem nE(lo hi:Option Int)(n:Nat):(sliceBounds lo hi none n).1=((HT.sIx n 0 lo:Nat):Int)/\(sliceBounds lo hi none n).2.1=((HT.sIx n n hi:Nat):Int)/\(sliceBounds lo hi none n).2.2=1:=by
 refine⟨?_,?_,rfl⟩
 ·cases lo with
  |none=>simp[sliceBounds,HT.sIx]
  |some i=>
   simp only[sliceBounds,HT.sIx,Option.getD_none,show (1:Int)>0 by decide,if_true];by_cases h:i<0
   ·simp only[h,if_true]<;>lia
   ·simp only[h,if_false]<;>lia
 ·cases hi with
  |none=>simp[sliceBounds,HT.sIx]
  |some i=>
   simp only[sliceBounds,HT.sIx,Option.getD_none,show (1:Int)>0 by decide,if_true];by_cases h:i<0
   ·simp only[h,if_true]<;>lia
   ·simp only[h,if_false]<;>lia
theorem lX(its:List Value)(lo hi:Option Int):slicePick its.toArray lo hi none=((its.drop (HT.sIx its.length 0 lo)).take (HT.sIx its.length its.length hi-HT.sIx its.length 0 lo)).toArray:=by obtain⟨h1,h2,h3⟩:=nE lo hi its.toArray.size;unfold slicePick;rw[h1,h2,h3];simp only[sliceRange_one,pick_run,Mk]<;>rfl
def Iu(K:gc):V->Option Int->Option Int->Hp->VK->Prop:=fun x lo hi H Q=>∃a xs,x=.ref a/\SqL K H a xs/\∀p,H p=none->Q (.ref p) (upd H p (.lst (rE xs lo hi)))
theorem Bj:SlR X (Iu X.K):=by intro sy s σ H x v vl vu lo hi sl Q I rx hs pl pu h;obtain⟨a,xs,rfl,hx,q⟩:=h;cases rx;obtain⟨its,r,ht,hz⟩:=I.list hx;have Cv:=r.length;refine⟨"list",_,slot_list_getitem.lookup,ht.isList.typeIs,?_⟩;refine wpAny_getItem_list_slice ht.isList hs pl pu .none (by simp) ?_ (by rw[Mk]<;>lia);rw[lX,<- Cv];refine⟨.ref s.heap.objs.size,_,I.laid (t':=s.toks) (o:=.lst (rE xs lo hi)) (fun b ob q=>Mf _ q) (Ds _) ?_,rfl,q _ (I.hok.fresh (Ds _))⟩;exact⟨ML (o7 xs lo hi) hz,_,0,(r.drop (HT.sIx xs.length 0 lo)).take (HT.sIx xs.length xs.length hi-HT.sIx xs.length 0 lo),Ms _ rfl⟩
theorem nF:cM X (.builtin "len") (fun xs H Q=>∃p ys,xs=[.ref p]/\(SqL X.K H p ys\/SqT X.K H p ys)/\Q (.int ys.length) H):=by
 intro sy s σ H xs us Q I r h;obtain⟨p,ys,rfl,hq,q⟩:=h;obtain⟨u,rfl,rx⟩:=vals1 r;cases rx;have hn:=jG;rcases hq with hq | hq
 ·obtain⟨its,r',pl,hz⟩:=I.list hq;have Cv:=r'.length;exact Calls.call_len_list pl.isList (by simp only[Mk]<;>lia) ⟨.int ys.length,H,I.tok _,⟨s.toks+1,by rw[Mk,Cv]⟩,q⟩
 ·obtain⟨its,r',pl,hz⟩:=I.tuple hq;have Cv:=r'.length;exact len_tuple pl (by simp only[Mk]<;>lia) ⟨.int ys.length,H,I.tok _,⟨s.toks+1,by rw[Mk,Cv]⟩,q⟩
theorem lY:cM X (.type "tuple") (fun xs H Q=>∃p ys,xs=[.ref p]/\((SqL X.K H p ys/\∀l,H l=none->Q (.ref l) (upd H l (.tup ys)))\/(SqT X.K H p ys/\Q (.ref p) H))):=by
 intro sy s σ H xs us Q I r h;obtain⟨p,ys,rfl,h⟩:=h;obtain⟨u,rfl,rx⟩:=vals1 r;cases rx;rcases h with⟨hq,q⟩ | ⟨hq,q⟩
 ·obtain⟨its,r',pl,hz⟩:=I.list hq;have Cv:=r'.length;refine call_tuple_list pl.isList (fun h' kp=>?_) (by simp only[Mk]<;>lia);have I1:Inv X sy σ H { s with heap:=h' }:=I.kept (t':=s.toks) kp;have I2:Inv X sy σ (upd H h'.objs.size (.tup ys)) { s with heap:=h'.push { cls:=.type "tuple",data:=.seq its.toArray } }:=
   I1.laid (t':=s.toks) (fun b o e=>Mf _ e) (Ds _) (show aM X.prog X.w _ _ _ (.tup ys) from ⟨hz,its,r',IsTup.new _ _⟩)
  exact⟨.ref h'.objs.size,_,I2,rfl,q _ (I1.hok.fresh (Ds _))⟩
 ·obtain⟨its,r',pl,hz⟩:=I.tuple hq;exact call_tuple_same pl ⟨.ref p,H,I,rfl,q⟩
def tyV(K:gc)(T:String)(x:V)(H:Hp):Prop:=match x with
 |.str _=>T = "str"
 |.int _=>T = "int"
 |.ref p=>(T = "list" /\ ∃xs,SqL K H p xs)\/(T = "tuple" /\ ∃o,K.lookup p=some o/\o.cls=.type "tuple" /\ o.dict=none) \/
   (T = "dict" /\ ((∃kvs,H p=some (.dK kvs))\/∃kvs ts,H p=some (.dT kvs ts)))\/(T = "set" /\ ∃S n,H p=some (.set S n))
 |_=>False
theorem Fb{T:String}{x:V}{v:Value}(I:Inv X sy σ H s)(r:RelV x v)(ty:tyV X.K T x H) :
  s.TypeIs v T/\∀a,v=.ref a->∃ob,s.heap.get? a=some ob/\ob.dict=none:=by
 cases x with
 |str z=>obtain⟨t,rfl⟩:=r;cases (show T = "str" from ty);exact⟨typeIs_str s z t,fun _ e=>nomatch e⟩
 |int i=>obtain⟨t,rfl⟩:=r;cases (show T = "int" from ty);exact⟨typeIs_int s i t,fun _ e=>nomatch e⟩
 |ref p=>
  cases r;rcases ty with⟨rfl,xs,hq⟩ | ⟨rfl,o,hk,hc,hd⟩ | ⟨rfl,hk⟩ | ⟨rfl,S,n,hk⟩
  ·obtain⟨its,_,pl,_⟩:=I.list hq;refine⟨pl.isList.typeIs,fun a e=>?_⟩;cases e;obtain⟨o,n,e,c,hd,_⟩:=pl;exact⟨o,e,hd⟩
  ·refine⟨⟨o,I.kIn p o hk,hc⟩,fun a e=>?_⟩;cases e;exact⟨o,I.kIn _ o hk,hd⟩
  ·have z:∃o,s.heap.get? p=some o/\o.ExactDict:=by
    rcases hk with⟨kvs,hk⟩ | ⟨kvs,ts,hk⟩
    ·obtain⟨_,_,_,_,o,_,_,e,ex,_⟩:=I.hok p _ hk;exact⟨o,e,ex⟩
    ·obtain⟨_,_,_,_,o,_,_,e,ex,_⟩:=I.hok p _ hk;exact⟨o,e,ex⟩
   obtain⟨o,e,ex⟩:=z;refine⟨⟨o,e,ex.1⟩,fun a e2=>?_⟩;cases e2;exact⟨o,e,ex.2.1⟩
  ·obtain⟨o,_,_,_,e,ex,_⟩:=I.hok p _ hk;refine⟨⟨o,e,ex.1⟩,fun a e2=>?_⟩;cases e2;exact⟨o,e,ex.2.1⟩
 |_=>exact MN ty
def tBM(K:gc)(T:String)(r:V->List V->Hp->VK->Prop)(to:TE)(t:TA):TE:=fun σ H Q=>to σ H fun x H1=>tyV K T x H1/\t σ H1 fun xs H2=>r x xs H2 Q
variable{o e:Expr}{es:List Expr}{to:TE}{t:TA}{name:Str}{Gz cpos:Pos}{T id:String}{r:V->List V->Hp->VK->Prop}
theorem xD(pa:PlainAttrs T)(slot:Slot T name id)(hty:typeOf (.builtin id)=pure (.type "method_descriptor"))(hm:MtR X id r)(ho:PE X o to)(ha:PA X (e::es) t)
  (JT:attributeBase o name X.env (eval o X.env)=eval o X.env:=by rfl)
  (hfew:((backTo cpos (starEach (e::es) X.env)).all (fun x=>!x.1)&&(backToKw cpos (keywordEach [] X.env)).all (fun x=>x.1.isSome)
   && decide ((e::es).length+([]:List Keyword).length+(if ([]:List Keyword).isEmpty then 0 else 1)<30))=true:=by rfl)
  (JS:(Gz.endLine == cpos.line)=true:=by rfl) (hs:starEach (e::es) X.env=(false,eval e X.env)::starEach es X.env:=by rfl) (JN:(backTo cpos (starEach es X.env)).any (·.1)=false:=by rfl) :
  PE X (.Call (.Attribute o name Gz) (e::es) [] cpos) (tBM X.K T r to t):=by
 intro sy s σ H Q I h;refine wpAny_Call_method_late JT hfew JS rfl (thn (ho sy s σ H _ I h) fun v s1 ⟨x,H1,I1,r1,ty,q1⟩=>?_);obtain⟨h1,h2⟩:=Fb I1 r1 ty;refine⟨T,id,pa,slot,hty,h1,h2,?_⟩;have hA:=ha cpos sy s1 σ H1 _ I1 q1;rw[hs]at hA ⊢;refine Ob (by show (false||(backTo cpos (starEach es X.env)).any (·.1))=false;rw[JN]<;>rfl) (Oh ?_);exact thn hA fun us s2 ⟨vs,H2,I2,r2,q2⟩=>hm sy s2 σ H2 x vs v us Q I2 r1 r2 q2
end
end
section
variable{us:List Value}{xs:List V}
def MtM(X:Cx)(id:String)(r:V->List V->Hp->VK->Prop):Prop:=
 ∀(sy:List (Addr×Obj)) (s:Shared) (σ:St) (H:Hp) (x:V) (xs:List V) (v:Value) (us:List Value) (Q:VK),Inv X sy σ H s->RelV x v->Vals xs us->r x xs H Q ->
  wpAny (model X.prog X.w) X.A (call (.builtin id) (v::us)) (EP X sy σ Q) X.xe s
theorem Vals.one:∀{x:V} {us:List Value},Vals [x] us->∃u,us=[u]/\RelV x u
 |_,_,.cons r .nil=>⟨_,rfl,r⟩
theorem Vals.eraseIdx:∀{xs:List V} {us:List Value} (i:Nat),Vals xs us->Vals (xs.eraseIdx i) (us.eraseIdx i)
 |_,_,_,.nil=>.nil
 |_,_,0,.cons _ t=>t
 |_,_,i+1,.cons r t=>.cons r (Vals.eraseIdx i t)
theorem Vals.reverse(h:Vals xs us):Vals xs.reverse us.reverse:=by
 induction h with
 |nil=>exact .nil
 |cons r t ih=>rw[Nn,Nn];exact Vals.append ih (.cons r .nil)
theorem Vals.rep(h:Vals xs us):∀k:Nat,Vals (Dk k xs).flatten (Dk k us).flatten
 |0=>.nil
 |k+1=>by rw[Nd,Nd,MW,MW];exact Vals.append h (Vals.rep h k)
theorem mC{α:Type}:∀(l:List α) (i:Nat),(l.eraseIdx i).length<=l.length
 |[],_=>Ds _
 |_::_,0=>OQ _
 |_::r,i+1=>Nat.succ_le_succ (mC r i)
theorem foldl_rep(its:List Value):∀(k:Nat) (DK:List Value),
  O7 (fun x1 x2=>x1++x2) DK.toArray (Dk k its.toArray)=(DK++(Dk k its).flatten).toArray
 |0,DK=>by simp
 |k+1,DK=>by
  have e:DK.toArray++its.toArray=(DK++its).toArray:=by simp
  have e2:(DK++its)++(Dk k its).flatten=DK++(Dk (k+1) its).flatten:=by rw[Nd,MW,OE]
  rw[<- e2,<- foldl_rep its k (DK++its),<- e,Nd,List.foldl_cons]
end
section
variable{X:Cx}{sy:List (Addr×Obj)}{σ:St}{H:Hp}{s:Shared}{l b:Addr}{xs ys zs:List V}
theorem Inv.Iv{its its':List Value}{n:Nat}{f:Array Value->Array Value}{t':Nat}(I:Inv X sy σ H s)(hH:H l=some (.lst xs))
  (e:s.heap.get? l=some { cls:=.type "list",data:=.seq its.toArray n }) (hf:f its.toArray=its'.toArray) (hv:Vals ys its') (hz:ys.length<=sizeLine) :
  Inv X sy σ (upd H l (.lst ys)) { s with heap:=s.heap.update l (N6 f),toks:=t' }:=by
 have q:=PySem.IsL.update e f;rw[hf]at q;refine I.write (x:=l) (e:=l) (by rw[hH];exact trivial) (.inl rfl) (fun b' u hb hu=>(Oa s.heap (N6 f) (Ne.symm hb)).trans hu) ⟨_,q⟩ ?_;exact⟨hz,its',_,hv,q⟩
theorem Inv.Fc{its:List Value}{t':Nat}(I:Inv X sy σ H s)(hv:Vals ys its)(hz:ys.length<=sizeLine) :
  Inv X sy σ (upd H s.heap.objs.size (.lst ys)) { s with heap:=s.heap.push { cls:=.type "list",data:=.seq its.toArray },toks:=t' }:=
 I.laid (fun _ _ q=>Mf _ q) (Ds _) ⟨hz,its,0,hv,Ms _ rfl⟩
theorem Inv.fresh(I:Inv X sy σ H s):H s.heap.objs.size=none:=I.hok.fresh (Ds _)
theorem Inv.Iw(I:Inv X sy σ H s)(hH:H l=some (.lst xs)):xs.length<=sizeLine/\∃(its:List Value) (n:Nat),Vals xs its/\xs.length=its.length/\s.heap.get? l=some { cls:=.type "list",data:=.seq its.toArray n }:=by obtain⟨z,its,n,r,e⟩:=I.hok l _ hH;exact⟨z,its,n,r,r.length,e⟩
theorem xE{n:Nat}(h:n<=sizeLine):N3 n=false:=by unfold N3;exact decide_eq_false (by lia)
end
section
variable{X:Cx}
def nG:V->List V->Hp->VK->Prop:=fun x vs H Q=>∃l xs y,x=.ref l/\vs=[y]/\H l=some (.lst xs)/\xs.length<sizeLine/\Q .non (upd H l (.lst (xs++[y])))
theorem iC:MtM X "list.append" nG:=by
 intro sy s σ H x vs v us Q I rx rv h;obtain⟨l,xs,y,rfl,rfl,hH,hz,q⟩:=h;cases rx;obtain⟨u,rfl,ru⟩:=rv.one;obtain⟨z,its,n,r,hl,e⟩:=I.Iw hH;refine call_meets F.slot_list_append ⟨_,e,rfl⟩ F.entry_list_append (F.args_list_append_2 _ _) (PySem.list_append l its.toArray n u (by rw[Mk];lia)) ⟨e,?_⟩;refine⟨.non,_,I.Iv (its':=its++[u]) hH e (by simp) (r.append (.cons ru .nil)) ?_,rfl,q⟩;rw[Mr,M9]
 lia
def xF:V->List V->Hp->VK->Prop:=fun x vs H Q=>∃l xs i k y,x=.ref l/\vs=[.int i]/\H l=some (.lst xs)/\-(2 ^ 63)<=i/\i<2 ^ 63/\seqIndex? i xs.length=some k/\xs[k]?=some y/\Q y (upd H l (.lst (xs.eraseIdx k)))
theorem xG:MtM X "list.pop" xF:=by
 intro sy s σ H x vs v us Q I rx rv h;obtain⟨l,xs,i,k,y,rfl,rfl,hH,h1,h2,hk,hy,q⟩:=h;cases rx;obtain⟨u,rfl,ru⟩:=rv.one;obtain⟨t,rfl⟩:=ru;obtain⟨z,its,n,r,hl,e⟩:=I.Iw hH;obtain⟨w,hw,rw'⟩:=r.get hy;refine call_meets F.slot_list_pop ⟨_,e,rfl⟩ F.entry_list_pop (F.args_list_pop_2 _ _)
  (MeetsSeq.list_pop_at l its.toArray n i t k w (fitsIndex_both h1 h2) (by rw[Mk,<- hl];exact hk) (by rw[<- NB];exact hw) (by rw[Mk];lia)) ⟨e,?_⟩
 refine⟨y,_,I.Iv (its':=its.eraseIdx k) hH e ?_ (r.eraseIdx k) ?_,rw',q⟩
 ·show its.toArray.eraseIdxIfInBounds k=(its.eraseIdx k).toArray;rw[List.eraseIdxIfInBounds_toArray]
 ·have:=mC xs k
  lia
theorem len_rep{α:Type}(xs:List α)(k:Nat):(Dk k xs).flatten.length=k*xs.length:=by
 induction k with
 |zero=>simp
 |succ k ih=>rw[Nd,MW,Mr,ih,Nat.succ_mul,Nat.add_comm]
end
end L2
namespace Att
open PySem PySem.W PySem.Calls PyProof.Rows
theorem jq{P:Params}{h:Heap}:∀(ns:List Int) (vs:List Value),WellAll P h vs (ns.map WData.int)->IntsAre vs ns:=by
 intro ns
 induction ns with
 |nil=>intro vs w;rw[Oi]at w;cases w;exact .nil
 |cons n ns ih=>
  intro vs w;rw[eg]at w;cases w with
  |cons a b=>cases a;exact .cons _ _ (ih _ b)
theorem vE{l:OpenLaw}{n:Nat}(hn:l.most=some n){P:Params}{h:Heap}{args:List WData}{vals:List Value}
  (hpre:l.row.toRowW.claim.pre args=true) (hwl:WellAll P h vals args) :
  ∃a vs ns,vals=[MI a]/\args=[WData.list (ns.map WData.int)]/\h.get? a=some { cls:=.type "list",data:=.seq vs.toArray }/\IntsAre vs ns/\ns.length<=n:=by
 have hsh:WShape.hasAll [] args [.list .int]=true:=(pre_splitW hpre).1;have hc:l.pre.holds [] { args:=args }=true:=(pre_splitW hpre).2;obtain⟨d,r,rfl,h1,h2⟩:=hasAllW_cons hsh;obtain rfl:=hasAllW_nil h2;obtain⟨xs,rfl,h3⟩:=hasW_list h1;obtain⟨ns,rfl⟩:=items_int h3;have Cv:ns.length<=n:=by
  unfold OpenLaw.pre at hc;have h4:(WTm.not (.lt (.lit (.int (n:Int))) (.len (.arg 0)))).holds [] { args:=[.list (ns.map .int)] }=true:=by have h4:=(holds_andW hc).1;rw[hn]at h4;exact h4
  have h5:=condW_of h4 (w_not (w_lt w_lit (w_len_list (w_arg rfl))));rw[Dp]at h5;refine Nat.le_of_not_lt fun q=>?_;have q':(n:Int)<((ns.length:Nat):Int):=by omega
  first
   |(rw[decide_eq_true q']at h5;exact absurd h5 (by decide))
   |(simp at h5;omega)
 cases hwl with
 |cons w1 w2=>
  cases w2;cases w1 with
  |list ho hall=>exact⟨_,_,ns,rfl,rfl,ho,jq ns _ hall,Cv⟩
theorem vF(l:OpenLaw)(args:List WData):l.row.toRowW.claim.post args (.bool true) args=true:=
 postW_of (r:=l.row.toRowW) (X:=(true == true))
  (show WShape.has [] (.bool true) .bool=true by first | rfl | decide | simp[WShape.has,WShape.arms,WShape.armsAll])
  (show (WTm.eq .res (.lit (.bool true))).value [] { args:=args,res:=some (.bool true),after:=args }=some (.bool (true == true)) from w_eq_bool (w_res rfl) w_lit) rfl
theorem o8{l:OpenLaw}{n:Nat}{q:Program}{loose:List Str}{XP:(Str->Option Value)->Heap->Prop}{YP:World->Heap->Prop}{d:DefRec}
  (hn:l.most=some n) (hdf:d.params.defaults=[])
  (call:∀ (w:World) (s₀ s₁:Shared) (mg mb:Str→Option Value) (fa:Addr) (o:Obj) (pm cd doc:Value) (a:Addr) (vs:List Value) (ns:List Int),
   Ground q loose [] XP w s₀ mg mb s₁.heap->YP w s₁.heap ->
   s₁.heap.get? fa=some o->o.data=.func (docDef d.name d.params d.body d.scope pm cd doc)->s₁.heap.CodeRec cd d.name->mg d.name=some (.ref fa) ->
   s₁.heap.get? a=some { cls:=.type "list",data:=.seq vs.toArray }->IntsAre vs ns->ns.length<=n->s₁.gens=#[] ->
   codeAny (model l.prog w) callerA (.call (.ref fa) ⟨[.ref a],[]⟩) (fun r s'=>r=.ok (.ret (.bool true))/\OldK s₁.heap s'.heap/\s'.os=s₁.os/\AllBare s'.gens) s₁) :
  WalkO q loose XP YP l.row.toRowW d [] (fun f vs=>PySem.call f vs):=by
 intro w s₀ s₁ mg mb G Y fa o pm cd doc dV kV ho hd JO hD hmg hg args vals as hpre hlay hrd hwl hlo;obtain rfl:dV=.none:=Dflts.none hD hdf;obtain rfl:kV=.none:=Dflts.noKw hD;obtain⟨a,vs,ns,rfl,rfl,hobj,hints,Cv⟩:=vE hn hpre hwl;refine enter_call (codeAny_mono (call w s₀ s₁ mg mb fa o pm cd doc a vs ns G Y ho (fd_plain hd) JO hmg hobj hints Cv hg) fun r s' hq=>?_);obtain⟨rfl,h2,h3,h4⟩:=hq;exact⟨.inl ⟨.bool true,.bool true,[],rfl,fun _=>rfl,.bool true,vF l _,fun _=>⟨List.Pairwise.nil,fun _ hm=>(nomatch hm)⟩⟩,h2,h3,h4⟩
end Att
namespace L2
open PySem PySem.Spec PyProof.Rows
theorem cV:∀{vs:List Value} {ns:List Int},IntsAre vs ns->Vals (ns.map V.int) vs
 |_,_,.nil=>.nil
 |_,_,.cons n t h=>.cons ⟨t,rfl⟩ (cV h)
def Fe(H:Hp):Prop:=∀b,H b=none\/∃o xs,H b=some (.frz o (.lst xs))
theorem xH{P:Program}{w:World}{K:gc}{mg mb:Str->Option Value}{CX:CXT}{k:Nat}{fa a:Addr}{fd:FuncData}{x:Str}{sp:Sp}{s₁:Shared}{vs:List Value}{ns:List Int}
  (KX:K.In s₁.heap) (hns:s₁.heap.Ns mainGlobals mg) (hb:s₁.heap.Ns builtinsNs mb) (hbb:∀x:Str,x ≠ "__name__" -> mb x=bootBuiltins x) (hlim:s₁.heap.NoLimit) (hg:s₁.gens=#[])
  (ha:s₁.heap.get? a=some { cls:=.type "list",data:=.seq vs.toArray }) (hi:IntsAre vs ns) (hl:ns.length<=sizeLine) (hr:aW k callerA)
  (F:∀base:Heap,K.In base->base.Ns mainGlobals mg->aN P w K mg base CX k fa fd [x] sp) (hbind:∀(s:Shared) (u:Value),BindsTo s fd ⟨[u],[]⟩ [(x,u)])
  (hsp:∀H:Hp,Fe H->SqL K H a (ns.map V.int)->sp [.ref a] H (fun v _=>v=.bl true) fun _ _ _=>False)
  (hCX:∀H e s',CX [] H s₁ (fun _ _ _=>False) e s'->False) :
  codeAny (model P w) callerA (.call (.ref fa) ⟨[.ref a],[]⟩) (fun r s'=>r=.ok (.ret (.bool true))/\OldK s₁.heap s'.heap/\s'.os=s₁.os/\AllBare s'.gens) s₁:=by
 have rv:=cV hi;have Ld:=hi.length;have core:∀H:Hp,Fe H->SqL K H a (ns.map V.int)->HOk P w H s₁.heap->(∀b,H b≠none->b=a)->(H a≠none->K.lookup a=none) ->
   codeAny (model P w) callerA (.call (.ref fa) ⟨[.ref a],[]⟩) (fun r s'=>r=.ok (.ret (.bool true))/\OldK s₁.heap s'.heap/\s'.os=s₁.os/\AllBare s'.gens) s₁:=by
  intro H hO hS hok hA hK;have tT:∀{b:Addr} {o:Obj},s₁.heap.get? b=some o->H b=none->(nu s₁.heap H).get? b=some o:=fun e n=>wQ e n;have noA:∀{b:Addr} {o:Obj} {es:Array DictEntry} {ep:Nat},s₁.heap.get? b=some o->o.data=.dict es ep->H b=none:=fun {b o es ep} e d=>by
   cases q:H b with
   |none=>rfl
   |some u=>have e':b=a:=hA b (by rw[q];simp);subst e';rw[ha]at e;cases e;have d':Data.seq vs.toArray _=Data.dict es ep:=d;cases d'
  have nsK:∀{b:Addr} {m:Str->Option Value},s₁.heap.Ns b m->(nu s₁.heap H).Ns b m:=fun {b m} ⟨o,es,ep,e,d,r⟩=>⟨o,es,ep,tT e (noA e d),d,r⟩;have hKb:K.In (nu s₁.heap H):=fun b o e=>tT (KX b o e) (by
   cases q:H b with
   |none=>rfl
   |some u=>have e':b=a:=hA b (by rw[q];simp);subst e';rw[hK (by rw[q];simp)]at e;cases e)
  have hM:Mod K mg (nu s₁.heap H):=⟨hKb,nsK hns,⟨mb,nsK hb,hbb⟩,let ⟨mc,h1,h2⟩:=hlim;⟨mc,nsK h1,h2⟩⟩
  have e0:Bg P w K mg (nu s₁.heap H) callerA [] s₁ H:=⟨rfl,hM,fun b o e=>A7 e,Nat.le_of_eq (vf _ _),trivial,fun b hb=>absurd (show b∈([]:List Addr) from hb) (by simp),hok,.of_eq hg⟩
  refine codeAny_mono ((F _ hKb (nsK hns)).run callerA [] s₁ H ⟨[.ref a],[]⟩ [.ref a] [.ref a] _ _ hr e0 (hbind s₁ (.ref a)) (.cons rfl .nil) (hsp H hO hS)) fun r s' h=>?_;cases r with
  |error e=>exact(hCX H e s' h).elim
  |ok fl=>
   cases fl with
   |next=>exact MN h
   |brk=>exact MN h
   |cont=>exact MN h
   |ret u=>
    obtain⟨v,H',os,bare,un,Le,r',q⟩:=h;have q':v=.bl true:=q;subst q';obtain rfl:u=O6 true:=r';refine⟨rfl,OldK.of_keep fun b o e=>?_,os,bare⟩;cases q:H b with
    |none=>exact un.keep b o e q (by intro z;exact absurd (show b∈([]:List Addr) from z) (by simp)) (by simp)
    |some u=>
     rcases hO b with z | ⟨ob,xs,z⟩
     ·rw[q]at z;cases z
     ·have z2:=un.nt b ob _ z;obtain⟨e1,_⟩:=hok b _ z;obtain⟨e2,_⟩:=Le b _ z2;rw[e]at e1;cases e1;exact e2
 cases hk:K.lookup a with
 |some o=>have e:=KX a o hk;rw[ha]at e;cases e;refine core (fun _=>none) (fun _=>.inl rfl) (.inr ⟨_,vs.toArray,_,hk,rfl,rfl,rfl,by rw[Mk,Ld];exact hl,by simpa using rv⟩) (fun b u z=>by have z':(none:Option HO)=some u:=z;cases z') (fun b z=>absurd rfl z) fun z=>absurd rfl z
 |none=>
  refine core (fun b=>if b=a then some (.frz { cls:=.type "list",data:=.seq vs.toArray } (.lst (ns.map V.int))) else none) (fun b=>?_) (.inl (.inr ⟨{ cls:=.type "list",data:=.seq vs.toArray },if_pos rfl⟩)) (fun b u z=>?_) (fun b z=>?_) fun _=>hk
  ·by_cases hb:b=a
   ·exact .inr ⟨_,_,if_pos hb⟩
   ·exact .inl (if_neg hb)
  ·by_cases hb:b=a
   ·have z':=(if_pos hb).symm.trans z;cases z';subst hb;exact⟨ha,by rw[Dp];exact hl,vs,_,rv,ha⟩
   ·have z':=(if_neg hb).symm.trans z;cases z'
  ·by_cases hb:b=a
   ·exact hb
   ·exact absurd (if_neg hb) z
theorem Bk{l:ON}{n k:Nat}{q:Program}{loose:List Str}{XP:(Str->Option Value)->Heap->Prop}{YP:World->Heap->Prop}{d:DefRec}{K:Params->gc}{CX:World->CXT}{sp:World->Sp}{x:Str}
  (hn:l.most=some n) (hn2:n<=sizeLine) (hdf:d.params.defaults=[]) (hr:aW k callerA)
  (hY:∀(w:World) (h:Heap),YP w h->(K w.params).In h)
  (F:∀ (w:World) (mg:Str→Option Value) (fa:Addr) (h:Heap),(K w.params).In h→h.Ns mainGlobals mg→mg d.name=some (.ref fa) →
   ∃fd:FuncData,(∀(s:Shared) (u:Value),BindsTo s fd ⟨[u],[]⟩ [(x,u)]) /\
    ∀base:Heap,(K w.params).In base->base.Ns mainGlobals mg->aN l.prog w (K w.params) mg base (CX w) k fa fd [x] (sp w))
  (hsp:∀(w:World) (H:Hp) (a:Addr) (ns:List Int),ns.length<=n->Fe H->SqL (K w.params) H a (ns.map V.int)->sp w [.ref a] H (fun v _=>v=.bl true) fun _ _ _=>False)
  (hCX:∀(w:World) (H:Hp) (s:Shared) (e:Value) (s':Shared),CX w [] H s (fun _ _ _=>False) e s'->False) :
  PySem.W.WalkO q loose XP YP l.row.toRowW d [] (fun f vs=>PySem.call f vs):=by
 refine Att.o8 hn hdf fun w s₀ s₁ mg mb fa o pm cd doc a vs ns G Y ho hd JO hmg hobj hints Cv hg=>?_;have KX:=hY w _ Y;obtain⟨fd,hb,hF⟩:=F w mg fa _ KX G.T.g hmg;exact xH KX G.T.g G.T.b G.T.builtins G.T.nolimit hg hobj hints (ML Cv hn2) hr hF hb (fun H hO hS=>hsp w H a ns Cv hO hS) fun H e s'=>hCX w H s₁ e s'
noncomputable def aV(s:Stmt):Arguments:=match s with
 |.FunctionDef _ a _ _ _ _ _ _ _ _=>a
 |_=>{ posonlyargs:=[],args:=[],vararg:=none,kwonlyargs:=[],kw_defaults:=[],kwarg:=none,defaults:=[] }
noncomputable def aO(s:Stmt):List Stmt:=match s with
 |.FunctionDef _ _ b _ _ _ _ _ _ _=>b
 |_=>[]
noncomputable def ah(s:Stmt):Scope:=match s with
 |.FunctionDef _ _ _ _ _ _ sc _ _ _=>sc
 |_=>{ kind:=.function,names:=[],isGenerator:=false,isCoroutine:=false }
noncomputable abbrev CX0:CXT:=fun _ _ _ _ _ _=>False
noncomputable abbrev E0:XK:=fun _ _ _=>False
theorem tU{X:Cx}:Passes CX0 X E0:=fun _ _ _ _ _ _ _ h=>h.elim
structure Fun(K:gc)(x qual:Str)(st:Stmt)(f:Addr)(fd:FuncData):Prop where
 ex:∃(oc:Value) (od:Option Addr) (kV doc pm:Value) (an:Option Addr) (cdv ct:Value) (osl:Array (Option Value)),
  fd=MQ x qual (aV st) (aO st) (ah st) .none kV doc pm an cdv ct/\K.lookup f=some ⟨oc,od,.func fd,osl⟩/\Ot K cdv qual=true
 kp:Nv K (.ref f)=true
section
variable{P:Program}{w:World}{K:gc}{mg:Str->Option Value}{base:Heap}
section
variable{x qual:Str}{st:Stmt}{fd:FuncData}{f:Addr}
theorem Fun.ok{N ps:List Str}{k:Nat}{sp:Sp}(F:Fun K x qual st f fd)(S:av N ps (ah st))(len:∀vs H Q E,sp vs H Q E->vs.length=ps.length)
  (hbody:∀ (cdv:Value) (A:Around) (outer:List Env) (s:Shared) (H:Hp) (vs:List V) (Q:VK) (E:XK),aW k (A.deeper (envOfC qual (ah st) s.heap.objs.size f cdv))→sp vs H Q E →
   ∃t,PSs (rD CX0 P w K mg base N qual (ah st) f cdv A outer s H E).nox (aO st) t/\t { nx:=fun _ H'=>Q .non H',rt:=Q } (start N vs) H):aN P w K mg base CX0 (k+1) f fd ps sp:=by
 obtain⟨oc,od,kV,doc,pm,an,cdv,ct,osl,rfl,lk,JO⟩:=F.ex;refine Iq lk JO S len fun A outer s H vs Q E hr hsp=>?_;obtain⟨t,h,q⟩:=hbody cdv A outer s H vs Q E hr hsp;exact⟨t,h.nox,q⟩
theorem Fun.binds{ps:List Str}(F:Fun K x qual st f fd)
  (h:∀(kV doc pm:Value) (an:Option Addr) (cdv ct:Value) (us:List Value),us.length=ps.length->bindArgs (MQ x qual (aV st) (aO st) (ah st) .none kV doc pm an cdv ct) ⟨us,[]⟩=pure (ps.zip us)):Binds K fd ps []:=by
 obtain⟨oc,od,kV,doc,pm,an,cdv,ct,osl,rfl,lk,JO⟩:=F.ex;exact .all (h kV doc pm an cdv ct)
theorem Ff{oc:Value}{od an:Option Addr}{osl:Array (Option Value)}{kV doc pm cdv ct:Value}(l:K.lookup f=some ⟨oc,od,.func (MQ x qual (aV st) (aO st) (ah st) .none kV doc pm an cdv ct),osl⟩)
  (c:Ot K cdv qual=true) (k:Nv K (.ref f)=true):Fun K x qual st f (MQ x qual (aV st) (aO st) (ah st) .none kV doc pm an cdv ct):=⟨⟨oc,od,kV,doc,pm,an,cdv,ct,osl,rfl,l,c⟩,k⟩
end
end
def ao(H H':Hp):Prop:=∀b o,H b=some o->H' b=some o
theorem ao.refl(H:Hp):ao H H:=fun _ _ h=>h
theorem ao.trans{H H1 H2:Hp}(a:ao H H1)(b:ao H1 H2):ao H H2:=fun c o h=>b c o (a c o h)
theorem ao.free{H H':Hp}(e:ao H H'){l:Addr}(h:H' l=Option.none):H l=Option.none:=by
 cases q:H l with
 |none=>rfl
 |some o=>rw[e l o q]at h;cases h
section
variable{κ:Type}[DecidableEq κ]
section
variable{u:Option Value}{o:Option V}{y:V}
noncomputable def dS(kvs:List (κ×V))(k:κ):Option V:=(kvs.find? fun kv=>decide (kv.1=k)).map (·.2)
noncomputable def putK(kvs:List (κ×V))(k:κ)(v:V):List (κ×V):=
 if (kvs.any fun kv=>decide (kv.1=k))=true then kvs.map (fun kv=>if kv.1=k then (kv.1,v) else kv) else kvs++[(k,v)]
noncomputable def iZ(kvs:List (κ×V))(k:κ):List (κ×V):=kvs.filter fun kv=>decide (kv.1≠k)
theorem dZ{p:κ×V}{r:List (κ×V)}{k:κ}(e:p.1=k):dS (p::r) k=some p.2:=by simp[dS,Nc,e]
theorem d7{p:κ×V}{r:List (κ×V)}{k:κ}(e:¬p.1=k):dS (p::r) k=dS r k:=by simp[dS,Nc,e]
theorem jH(k:κ):∀kvs:List (κ×V),(kvs.any fun kv=>decide (kv.1=k))=(dS kvs k).isSome
 |[]=>rfl
 |p::r=>by
  rw[Ng];by_cases e:p.1=k
  ·simp only[dZ e,decide_eq_true e,Bool.true_or,Option.isSome_some]
  ·rw[d7 e,decide_eq_false e,Bool.false_or];exact jH k r
theorem d8(kvs:List (κ×V))(k:κ)(v:V):(putK kvs k v).length<=kvs.length+1:=by
 unfold putK;split
 ·rw[Dp];lia
 ·rw[Mr,MU,List.length_nil];lia
theorem gP.cC(r:gP o u):o.isSome=u.isSome:=by
 cases o with
 |none=>cases u with
  |none=>rfl
  |some _=>exact(show False from r).elim
 |some _=>cases u with
  |none=>exact(show False from r).elim
  |some _=>rfl
theorem gP.getD{d:V}{d':Value}(r:gP o u)(rd:RelV d d'):RelV (o.getD d) (u.getD d'):=by
 cases o with
 |none=>cases u with
  |none=>exact rd
  |some _=>exact(show False from r).elim
 |some _=>cases u with
  |none=>exact(show False from r).elim
  |some _=>exact r
theorem KV.val{kvs:List (κ×V)}{vs:List (κ×Value)}(r:KV kvs vs)(k:κ):gP (dS kvs k) (valueAt vs k):=by
 unfold KV at r
 induction r with
 |nil=>exact Nk
 |@cons p q ps qs h t ih=>
  obtain⟨h1,h2⟩:=h;by_cases e:p.1=k
  ·have e':q.1=k:=h1.symm.trans e;have b:valueAt (q::qs) k=some q.2:=by simp[valueAt,Nc,e']
   rw[dZ e,b];exact h2
  ·have e':¬q.1=k:=fun z=>e (h1.trans z);have b:valueAt (q::qs) k=valueAt qs k:=by simp[valueAt,Nc,e']
   rw[d7 e,b];exact ih
theorem KV.any{kvs:List (κ×V)}{vs:List (κ×Value)}(r:KV kvs vs)(k:κ):(kvs.any fun kv=>decide (kv.1=k))=vs.any fun kv=>decide (kv.1=k):=by
 unfold KV at r
 induction r with
 |nil=>rfl
 |cons h t ih=>rw[Ng,Ng,ih,h.1]
theorem KV.repl{kvs:List (κ×V)}{vs:List (κ×Value)}(r:KV kvs vs)(k:κ){u:Value}(ry:RelV y u) :
  KV (kvs.map fun kv=>if kv.1=k then (kv.1,y) else kv) (vs.map fun kv=>if kv.1=k then (kv.1,u) else kv):=by
 unfold KV at r ⊢
 induction r with
 |nil=>exact .nil
 |@cons p q ps qs h t ih=>
  rw[eg,eg];refine .cons ?_ ih;obtain⟨h1,h2⟩:=h;by_cases e:p.1=k
  ·rw[if_pos e,if_pos (h1.symm.trans e)];exact⟨h1,ry⟩
  ·rw[if_neg e,if_neg (fun z=>e (h1.trans z))];exact⟨h1,h2⟩
theorem KV.put{kvs:List (κ×V)}{vs:List (κ×Value)}(r:KV kvs vs)(k:κ){u:Value}(ry:RelV y u):KV (putK kvs k y) (stored vs k u):=by
 unfold putK stored;rw[r.any k];by_cases e:(vs.any fun kv=>decide (kv.1=k))=true
 ·rw[if_pos e,if_pos e];exact r.repl k ry
 ·rw[if_neg e,if_neg e];exact Paired.snoc r ⟨rfl,ry⟩
theorem KV.drop{kvs:List (κ×V)}{vs:List (κ×Value)}(r:KV kvs vs)(k:κ):KV (iZ kvs k) (without vs k):=by
 unfold KV at r ⊢;unfold iZ without
 induction r with
 |nil=>exact .nil
 |@cons p q ps qs h t ih=>
  obtain⟨h1,h2⟩:=h;rw[MO,MO];by_cases e:p.1=k
  ·have a:¬decide (p.1≠k)=true:=by simp[e]
   have b:¬decide (q.1≠k)=true:=by simp[h1.symm.trans e]
   rw[if_neg a,if_neg b];exact ih
  ·have e':¬q.1=k:=fun z=>e (h1.trans z);have a:decide (p.1≠k)=true:=by simp[e]
   have b:decide (q.1≠k)=true:=by simp[e']
   rw[if_pos a,if_pos b];exact .cons ⟨h1,h2⟩ ih
theorem KV.length{kvs:List (κ×V)}{vs:List (κ×Value)}(r:KV kvs vs):kvs.length=vs.length:=Paired.length r
theorem xJ(kvs:List (κ×V))(k:κ):(iZ kvs k).length<=kvs.length:=NQ _ _
end
end
section
variable{xs:List (List Key×Addr×Value)}{kvs:List (List Key×V)}{u:Value}{P:Program}{w:World}{H:Hp}{y:V}
theorem i0{k:Key}(r:RelV (kV k) u):(aK P w).is k u=true:=by
 cases k with
 |inl i=>obtain⟨t,e⟩:=(show ∃t,u=Value.int i t from r);subst e;exact oO P w i t
 |inr x=>obtain⟨t,e⟩:=(show ∃t,u=OL x t from r);subst e;exact oQ P w x t
theorem mD:∀{ks:List Key} {us:List Value},Vals (ks.map kV) us->ItemsAre (aK P w) ks us
 |[],_,r=>by rw[Oi]at r;cases r;exact .nil
 |k::ks,_,r=>by
  rw[eg]at r;cases r with
  |cons h t=>exact .cons (i0 h) (mD t)
noncomputable abbrev KT(H:Hp):List (List Key×V)->List (List Key×Addr×Value)->Prop:=Paired fun p q=>p.1=q.1/\H q.2.1=some (.tup (p.1.map kV))/\RelV p.2 q.2.2
theorem KT.val(r:KT H kvs xs)(k:List Key):gP (dS kvs k) ((atKey xs k).map (·.2)):=by
 induction r with
 |nil=>exact Nk
 |@cons p q ps qs h t ih=>
  obtain⟨h1,_,h2⟩:=h;by_cases e:p.1=k
  ·have e':q.1=k:=h1.symm.trans e;have b:atKey (q::qs) k=some q.2:=by simp[atKey,Nc,e']
   rw[dZ e,b];exact h2
  ·have e':¬q.1=k:=fun z=>e (h1.trans z);have b:atKey (q::qs) k=atKey qs k:=by simp[atKey,Nc,e']
   rw[d7 e,b];exact ih
theorem KT.repl(r:KT H kvs xs)(k:List Key)(ry:RelV y u) :
  KT H (kvs.map fun kv=>if kv.1=k then (kv.1,y) else kv) (xs.map (putAt k u)):=by
 induction r with
 |nil=>exact .nil
 |@cons p q ps qs h t ih=>
  rw[eg,eg];refine .cons ?_ ih;obtain⟨h1,h2,h3⟩:=h;unfold putAt;by_cases e:p.1=k
  ·rw[if_pos e,if_pos (h1.symm.trans e)];exact⟨h1,h2,ry⟩
  ·rw[if_neg e,if_neg (fun z=>e (h1.trans z))];exact⟨h1,h2,h3⟩
theorem KT.put(r:KT H kvs xs)(k:List Key){b:Addr}(hb:H b=some (.tup (k.map kV)))(ry:RelV y u) :
  KT H (putK kvs k y) (storedH xs k b u):=by
 have e:(kvs.any fun kv=>decide (kv.1=k))=(atKey xs k).isSome:=by rw[jH,(r.val k).cC,NK]
 unfold putK storedH;rw[e];by_cases q:(atKey xs k).isSome=true
 ·rw[if_pos q,if_pos q];exact r.repl k ry
 ·rw[if_neg q,if_neg q];exact Paired.snoc r ⟨rfl,hb,ry⟩
theorem KT.keeps{H H':Hp}(r:KT H kvs xs)(ht:∀b ys,H b=some (.tup ys)->H' b=some (.tup ys)):KT H' kvs xs:=
 Paired.EC r fun _ _ z=>⟨z.1,ht _ _ z.2.1,z.2.2⟩
end
section
variable{P:Program}{w:World}{H:Hp}{h:Heap}{a:Addr}
section
variable{kvs:List (List Key×V)}{ts:List Addr}
theorem De{u:HO}(ok:HOk P w H h)(e:Rd H a u):aM P w H h a u:=e.ok ok
theorem i6{kvs:List (Key×V)}(ok:HOk P w H h)(e:Rd H a (.dK kvs)):kvs.length<=sizeLine/\(a == sysModules)=false/\∃vs,KV kvs vs/\h.DictOf (aK P w) a vs:=
 show aM P w H h a (.dK kvs) from De ok e
theorem tW{kvs:List (Key×V)}(ok:HOk P w H h)(e:H a=some (.dK kvs)):kvs.length<=sizeLine/\(a == sysModules)=false/\∃vs,KV kvs vs/\h.DictOf (aK P w) a vs:=i6 ok (.inl e)
theorem iD{ks:List Key}(ok:HOk P w H h)(e:H a=some (.tup (ks.map kV))):(tupleKind (aK P w)).is h ks a:=by
 obtain⟨_,its,r,o,h1,h2,n,h3⟩:=(show aM P w H h a (.tup (ks.map kV)) from ok a _ e)
 exact⟨o,its.toArray,n,h1,h2,h3,by simpa using mD r⟩
theorem jI(ok:HOk P w H h)(e:Rd H a (.dT kvs ts)):kvs.length<=sizeLine/\(a == sysModules)=false /\
  ∃xs,KT H kvs xs/\h.DictOfH (tupleKind (aK P w)) a xs:=by
 obtain⟨z,y,xs,r,o,es,ep,h1,h2,h3,h4,h5,_⟩:=(show aM P w H h a (.dT kvs ts) from De ok e)
 refine⟨z,y,xs,r,o,es,ep,h1,h2,h3,h4,fun x hx=>?_,h5⟩;have all:∀{l:List (List Key×V)} {m:List (List Key×Addr×Value)},KT H l m->∀x∈m,(tupleKind (aK P w)).is h x.1 x.2.1:=by
  intro l m q
  induction q with
  |nil=>intro x hx;exact nomatch hx
  |@cons p q ps qs hq t ih=>
   intro x hx;rcases Mj.mp hx with e | hx
   ·subst e;exact iD ok (by rw[<- hq.1];exact hq.2.1)
   ·exact ih x hx
 exact all r x hx
theorem Iz(ok:HOk P w H h)(e:H a=some (.dT kvs ts)):kvs.length<=sizeLine/\(a == sysModules)=false /\
  ∃xs,KT H kvs xs/\h.DictOfH (tupleKind (aK P w)) a xs:=jI ok (.inl e)
end
end
section
variable{kvs:List (List Key×V)}{H:Hp}{ts:List Addr}{a:Addr}
noncomputable def rG(kvs:List (List Key×V))(ts:List Addr)(k:List Key)(b:Addr):List Addr:=if (kvs.any fun kv=>decide (kv.1=k))=true then ts else ts++[b]
theorem o9{xs:List (List Key×Addr×Value)}(r:KT H kvs xs)(k:List Key)(b:Addr)(u:Value):(storedH xs k b u).map (·.2.1)=rG kvs (xs.map (·.2.1)) k b:=by
 have e:(kvs.any fun kv=>decide (kv.1=k))=(atKey xs k).isSome:=by rw[jH,(r.val k).cC,NK]
 unfold storedH rG;rw[e];by_cases q:(atKey xs k).isSome=true
 ·rw[if_pos q,if_pos q,M4];refine NW fun x _=>?_;show (putAt k u x).2.1=x.2.1;unfold putAt;split<;>rfl
 ·rw[if_neg q,if_neg q,Mt];rfl
theorem Fg{P:Program}{w:World}{h:Heap}{xs xs2:List (List Key×Addr×Value)}{ts:List Addr}{o:Obj}{es:Array DictEntry}{ep:Nat}(d:h.DictOfH (tupleKind (aK P w)) a xs)(g1:h.get? a=some o)(g3:o.data=.dict es ep)
  (g4:es.toList=xs2.map (entryOfKey (tupleKind (aK P w)))) (g6:xs2.map (·.2.1)=ts):xs.map (·.2.1)=ts:=by
 obtain⟨o1,es1,ep1,h1,h2,h3,h4,_⟩:=d;rw[g1]at h1;cases h1;rw[g3]at h3;cases h3;rw[g4]at h4;have key:∀l:List (List Key×Addr×Value),(l.map (entryOfKey (tupleKind (aK P w)))).map (·.key)=(l.map (·.2.1)).map MI:=fun l=>by rw[M4,M4];rfl
 have:=congrArg (List.map (·.key)) h4;rw[key,key,g6]at this;exact(List.map_inj_right (fun a b e=>MI.inj e)).mp this.symm
def cL(H:Hp)(a:Addr)(y:V)(r:Option V):Prop:=
 (∃kvs k,Rd H a (.dK kvs)/\y=kV k/\r=dS kvs k)\/∃kvs k b ts,Rd H a (.dT kvs ts)/\y=.ref b/\H b=some (.tup (k.map kV))/\r=dS kvs k
def o_(H:Hp)(a:Addr)(y v:V)(H':Hp):Prop:=
 (∃kvs k,H a=some (.dK kvs)/\y=kV k/\kvs.length<sizeLine/\H'=upd H a (.dK (putK kvs k v))) \/
 ∃kvs k b ts,H a=some (.dT kvs ts)/\y=.ref b/\H b=some (.tup (k.map kV))/\kvs.length<sizeLine/\H'=upd H a (.dT (putK kvs k v) (rG kvs ts k b))
theorem cL.k{kvs:List (Key×V)}{k:Key}(e:H a=some (.dK kvs)):cL H a (kV k) (dS kvs k):=.inl ⟨kvs,k,.inl e,rfl,rfl⟩
theorem cL.t{a b:Addr}{k:List Key}(e:H a=some (.dT kvs ts))(eb:H b=some (.tup (k.map kV))):cL H a (.ref b) (dS kvs k):=.inr ⟨kvs,k,b,ts,.inl e,rfl,eb,rfl⟩
theorem o_.k{kvs:List (Key×V)}{k:Key}{v:V}(e:H a=some (.dK kvs))(hl:kvs.length<sizeLine):o_ H a (kV k) v (upd H a (.dK (putK kvs k v))):=.inl ⟨kvs,k,e,rfl,hl,rfl⟩
theorem o_.t{a b:Addr}{k:List Key}{v:V}(e:H a=some (.dT kvs ts))(eb:H b=some (.tup (k.map kV)))(hl:kvs.length<sizeLine) :
  o_ H a (.ref b) v (upd H a (.dT (putK kvs k v) (rG kvs ts k b))):=.inr ⟨kvs,k,b,ts,e,rfl,eb,hl,rfl⟩
end
section
variable{X:Cx}{sy:List (Addr×Obj)}{σ:St}{H:Hp}{s:Shared}{a:Addr}{y v:V}{u r:Value}{o:Option V}{A:Around}{E:Value->Shared->Prop}
section
variable{Q:Value->Shared->Prop}{h':Heap}
theorem Inv.big(I:Inv X sy σ H s):sysModules<s.heap.objs.size:=by have h:mainGlobals<s.heap.objs.size:=(I.mod.glob.keeps I.bk).lt;exact Nat.lt_trans (by decide) h
theorem vG(hu:A.units+1<cLine)(I:Inv X sy σ H s)(g:cL H a y (some v))(ry:RelV y u)(h:∀w' s',Inv X sy σ H s'->RelV v w'->Q w' s') :
  wpAny (model X.prog X.w) A (getItem (.ref a) u) Q E s:=by
 rcases g with⟨kvs,k,e,ey,l⟩ | ⟨kvs,k,b,ts,e,ey,eb,l⟩
 ·subst ey;obtain⟨z,hd,vs,rel,dd⟩:=i6 I.hok e;obtain⟨w',hw,rw'⟩:=gP.some_of (v:=v) (o:=valueAt vs k) (by rw[l];exact rel.val k);exact wpAny_getItem_of (i0 ry) dd.mapOf hw (h w' _ (I.tok _) rw')
 ·subst ey;cases (show u=MI b from ry);obtain⟨z,hd,xs,rel,dd⟩:=jI I.hok e;obtain⟨w',hw,rw'⟩:=gP.some_of (v:=v) (o:=(atKey xs k).map (·.2)) (by rw[l];exact rel.val k);obtain⟨p,hp,hp2⟩:=Option.map_eq_some_iff.mp hw;refine wpAny_getItem_heap (tupleKind_room_in1 hu) (iD I.hok eb) dd hp ?_;rw[hp2];exact h w' _ (I.tok _) rw'
theorem vH(hu:A.units+1<cLine)(I:Inv X sy σ H s)(g:cL H a y o)(ry:RelV y u)(h:∀s',Inv X sy σ H s'->Q (.bool o.isSome) s') :
  wpAny (model X.prog X.w) A (compareOp .In u (.ref a)) Q E s:=by
 rcases g with⟨kvs,k,e,ey,l⟩ | ⟨kvs,k,b,ts,e,ey,eb,l⟩
 ·subst ey;obtain⟨z,hd,vs,rel,dd⟩:=i6 I.hok e;refine wpAny_in_of (i0 ry) hd dd.mapOf ?_;rw[<- (rel.val k).cC,<- l];exact h _ (I.tok _)
 ·subst ey;cases (show u=MI b from ry);obtain⟨z,hd,xs,rel,dd⟩:=jI I.hok e;refine wpAny_in_heap (tupleKind_room_in1 hu) (iD I.hok eb) hd dd ?_;have q:=(rel.val k).cC;rw[NK]at q;rw[<- q,<- l];exact h _ (I.tok _)
theorem Bl(hu:A.units+1<cLine)(I:Inv X sy σ H s)(g:cL H a y o)(ry:RelV y u)(h:∀s',Inv X sy σ H s'->Q (.bool (!o.isSome)) s') :
  wpAny (model X.prog X.w) A (compareOp .NotIn u (.ref a)) Q E s:=by
 rcases g with⟨kvs,k,e,ey,l⟩ | ⟨kvs,k,b,ts,e,ey,eb,l⟩
 ·subst ey;obtain⟨z,hd,vs,rel,dd⟩:=i6 I.hok e;refine wpAny_notIn_of (i0 ry) hd dd.mapOf ?_;rw[<- (rel.val k).cC,<- l];exact h _ (I.tok _)
 ·subst ey;cases (show u=MI b from ry);obtain⟨z,hd,xs,rel,dd⟩:=jI I.hok e;refine wpAny_notIn_heap (tupleKind_room_in1 hu) (iD I.hok eb) hd dd ?_;have q:=(rel.val k).cC;rw[NK]at q;rw[<- q,<- l];exact h _ (I.tok _)
theorem ju{t':Nat}{ob:HO}(I:Inv X sy σ H s)(mu:Mut (H a))(hs:N2 a s.heap h')(he:∃q,h'.get? a=some q)(new:aM X.prog X.w (upd H a ob) h' a ob) :
  Inv X sy σ (upd H a ob) { s with heap:=h',toks:=t' }:=
 I.write (x:=a) (e:=a) mu (.inl rfl) (fun b q hb z=>(hs.2 b hb).trans z) he new
theorem nH{P:Program}{w:World}{H':Hp}{kvs:List (Key×V)}{vs:List (Key×Value)}(z:kvs.length<=sizeLine)(hd:(a == sysModules)=false)(rel:KV kvs vs)(dd:h'.DictOf (aK P w) a vs) :
  aM P w H' h' a (.dK kvs):=⟨z,hd,vs,rel,dd⟩
theorem vJ{H':Hp}{Q:Unit->Shared->Prop}(hu:A.units+1<cLine)(I:Inv X sy σ H s)(g:o_ H a y v H')(ry:RelV y u)(rv:RelV v r)(h:∀s',Inv X sy σ H' s'->Q () s') :
  wpAny (model X.prog X.w) A (setItem (.ref a) u r) Q E s:=by
 rcases g with⟨kvs,k,e,ey,l,eH⟩ | ⟨kvs,k,b,ts,e,ey,eb,l,eH⟩
 ·subst ey eH;obtain⟨z,hd,vs,rel,dd⟩:=tW I.hok e;have hz:vs.length<=sizeLine:=by rw[<- rel.length];exact z
  have hl:(putK kvs k v).length<=sizeLine:=by have:=d8 kvs k v;lia
  refine wpAny_setItem_pairs (hsz:=hz) (i0 ry) dd fun h' dd' hs=>h _ ?_;have he:∃q,h'.get? a=some q:=let ⟨q,_,_,hq,_⟩:=dd';⟨q,hq⟩
  exact ju I (by rw[e];exact Nk) hs he (nH hl hd (rel.put k rv) dd')
 ·subst ey eH;cases (show u=MI b from ry);obtain⟨z,hd,xs,rel,dd⟩:=Iz I.hok e;have hz:xs.length<=sizeLine:=by rw[<- Paired.length rel];exact z
  have hl:(putK kvs k v).length<=sizeLine:=by have:=d8 kvs k v;lia
  refine wpAny_setItem_heap (hsz:=hz) (tupleKind_room_in1 hu) (iD I.hok eb) dd fun h' dd' hs=>h _ ?_;obtain⟨q,es,ep,hq,h2,h3,h4,_,h5⟩:=dd';refine ju I (by rw[e];exact Nk) hs ⟨q,hq⟩ ⟨hl,hd,_,(rel.put k eb rv).keeps fun c ys ec=>?_,q,es,ep,hq,h2,h3,h4,h5,?_⟩
  ·rw[au (HZ ec e (fun z=>nomatch z))];exact ec
  ·have hts:xs.map (·.2.1)=ts:=by
    obtain⟨_,_,xs2,_,o2,es2,ep2,g1,g2,g3,g4,g5,g6⟩:=(show aM X.prog X.w H s.heap a (.dT kvs ts) from I.hok a _ e)
    exact Fg dd g1 g3 g4 g6
   rw[<- hts];exact o9 rel k b r
end
end
section
variable{X:Cx}{sy:List (Addr×Obj)}{σ:St}{H:Hp}{s:Shared}{a:Addr}{kvs:List (Key×V)}{k:Key}{u:Value}{A:Around}{E:Value->Shared->Prop}
theorem IA{v:V}{more:List Value}{Q:Value->Shared->Prop}(I:Inv X sy σ H s)(e:H a=some (.dK kvs))(ry:RelV (kV k) u)(l:dS kvs k=some v)(hm:more=[]\/∃x,more=[x])
  (h:∀w' s',Inv X sy σ (upd H a (.dK (iZ kvs k))) s'->RelV v w'->Q w' s'):wpAny (model X.prog X.w) A (call (.builtin "dict.pop") (.ref a::u::more)) Q E s:=by
 obtain⟨z,hd,vs,rel,dd⟩:=tW I.hok e;obtain⟨w',hw,rw'⟩:=gP.some_of (v:=v) (o:=valueAt vs k) (by rw[<- l];exact rel.val k);have hp:(keyPart u).isSome=true:=by
  cases k with
  |inl i=>obtain⟨t,q⟩:=(show ∃t,u=Value.int i t from ry);subst q;rfl
  |inr x=>obtain⟨t,q⟩:=(show ∃t,u=OL x t from ry);subst q;rfl
 have ha:argsOk "dict.pop" ⟨.ref a::u::more,[]⟩:=by
  rcases hm with q | ⟨x,q⟩
  ·subst q;exact PySem.F.args_dict_pop_2 _ _
  ·subst q;exact PySem.F.args_dict_pop_3 _ _ _
 refine call_meetsIn PySem.F.slot_dict_pop dd.typeIs PySem.F.entry_dict_pop ha (meets_dict_pop_there (aK X.prog X.w) a (i0 ry) more hm hp)
  ⟨vs,w',dd,by rw[<- rel.length];exact z,hw,fun h' dd' hs=>h w' _ ?_ rw'⟩
 have he:∃q,h'.get? a=some q:=let ⟨q,_,_,hq,_⟩:=dd';⟨q,hq⟩
 exact ju I (by rw[e];exact Nk) hs he (nH (ML (xJ kvs k) z) hd (rel.drop k) dd')
end
def Bm(i:Expr):Prop:=∀ov iv,subscripted i false ov iv=operate [ov,iv] (getItem ov iv)
theorem Bo{prog:Program}{w:World}{A:Around}{E:Value->Shared->Prop}{s:Shared}{env:Env}{value slice:Expr}{pos:Pos}{T id:String}{Q:Value->Shared->Prop}
  (hl:typeLookup (.type T) "__getitem__" = pure (some (.builtin id))) (hs:Bm slice)
  (h:wpAny (model prog w) A (eval value env) (fun o s₁=>wpAny (model prog w) A (eval slice env) (fun i s₂=>s₂.TypeIs o T/\wpAny (model prog w) A (getItem o i) Q E s₂) E s₁) E s) :
  wpAny (model prog w) A (eval (.Subscript value slice pos) env) Q E s:=by
 refine Subscript_ (wpAny_mono h (fun o s₁ h₁=>wpAny_mono h₁ (fun i s₂ h₂=>?_) fun _ _ x=>x) fun _ _ x=>x);obtain⟨hT,h₂⟩:=h₂;unfold subscriptTail;refine wpAny_bind ?_;rw[getitemInPython_of_ne hT.not_modules];refine wpAny_bind (wpAny_specialOf hT hl ?_);have JM:wpAny (model prog w) A (subscripted slice false o i) (fun r s₃=>wpAny (model prog w) A (letTemporaryGo value o r >>= fun _=>pure r) Q E s₃) E s₂:=by rw[hs o i];exact wpAny_operating (wpAny_mono h₂ (fun r s₃ h₃=>wpAny_bind (wpAny_letTemporaryGo (wpAny_pure h₃))) fun _ _ x=>x)
 first
  |exact wpAny_pure (wpAny_bind JM)
  |exact wpAny_bind (wpAny_pure (wpAny_bind JM))
  |exact wpAny_bind JM
theorem pe{X:Cx}{sy:List (Addr×Obj)}{σ:St}{H:Hp}{s:Shared}{a:Addr}{y:V}{o:Option V}(I:Inv X sy σ H s)(g:cL H a y o):s.TypeIs (.ref a) "dict" := by
 rcases g with⟨kvs,k,e,_,_⟩ | ⟨kvs,k,b,ts,e,_,_,_⟩
 ·obtain⟨_,_,vs,_,dd⟩:=i6 I.hok e;exact dd.typeIs
 ·obtain⟨_,_,xs,_,dd⟩:=jI I.hok e;exact dd.typeIs
def IB(td ty:TE):TE:=fun σ H Q=>td σ H fun x H1=>ty σ H1 fun y H2=>∃a v,x=.ref a/\cL H2 a y (some v)/\Q v H2
def Lf(ty td:TE):TE:=fun σ H Q=>ty σ H fun y H1=>td σ H1 fun x H2=>∃a o,x=.ref a/\cL H2 a y o/\Q (.bl o.isSome) H2
def Bp(ty td:TE):TE:=fun σ H Q=>ty σ H fun y H1=>td σ H1 fun x H2=>∃a o,x=.ref a/\cL H2 a y o/\Q (.bl (!o.isSome)) H2
def xK(td ty tv:TE):TS:=fun D σ H=>tv σ H fun v H1=>td σ H1 fun x H2=>ty σ H2 fun y H3=>∃a H4,x=.ref a/\o_ H3 a y v H4/\D.nx σ H4
section
variable{X:Cx}{o i e value:Expr}{pos pos' tpos:Pos}{td ty tv:TE}
theorem tX(hu:X.A.units+1<cLine)(ho:PE X o td)(hi:PE X i ty)(hs:Bm i):PE X (.Subscript o i pos) (IB td ty):=by intro sy s σ H Q I h;refine Bo PySem.F.slot_dict_getitem.lookup hs (thn (ho sy s σ H _ I h) fun u s1 ⟨x,H1,I1,rx,q1⟩=>thn (hi sy s1 σ H1 _ I1 q1) fun iv s2 ⟨y,H2,I2,ry,a,v,ex,g,q2⟩=>?_);subst ex;obtain rfl:u=MI a:=rx;exact⟨pe I2 g,vG hu I2 g ry fun w' s3 I3 rw'=>⟨v,H2,I3,rw',q2⟩⟩
theorem Fi(hu:X.A.units+1<cLine)(hi:PE X i ty)(ho:PE X o td):PC X .In i o (Lf ty td):=by intro sy s σ H Q I h;refine thn (hi sy s σ H _ I h) fun iv s1 ⟨y,H1,I1,ry,q1⟩=>thn (ho sy s1 σ H1 _ I1 q1) fun u s2 ⟨x,H2,I2,rx,a,ov,ex,g,q2⟩=>?_;subst ex;obtain rfl:u=MI a:=rx;exact vH hu I2 g ry fun s3 I3=>⟨.bl ov.isSome,H2,I3,rfl,q2⟩
theorem vK(hu:X.A.units+1<cLine)(hi:PE X i ty)(ho:PE X o td):PC X .NotIn i o (Bp ty td):=by intro sy s σ H Q I h;refine thn (hi sy s σ H _ I h) fun iv s1 ⟨y,H1,I1,ry,q1⟩=>thn (ho sy s1 σ H1 _ I1 q1) fun u s2 ⟨x,H2,I2,rx,a,ov,ex,g,q2⟩=>?_;subst ex;obtain rfl:u=MI a:=rx;exact Bl hu I2 g ry fun s3 I3=>⟨.bl (!ov.isSome),H2,I3,rfl,q2⟩
theorem tY(hu:X.A.units+1<cLine)(ho:PE X o td)(hi:PE X i ty)(hv:PE X value tv)(hs:swapsWith value (some (.Subscript o i pos')) pos.line X.env=pure false) :
  PS X (.Assign [.Subscript o i pos'] value pos) (xK td ty tv):=by
 intro sy s σ H D I h;refine wpAny_Assign_Subscript (thn (hv sy s σ H _ I h) fun r s1 ⟨v,H1,I1,rv,q1⟩=>thn (ho sy s1 σ H1 _ I1 q1) fun u s2 ⟨x,H2,I2,rx,q2⟩=>thn (hi sy s2 σ H2 _ I2 q2) fun iv s3 ⟨y,H3,I3,ry,a,H4,ex,g,q3⟩=>?_) hs;subst ex;obtain rfl:u=MI a:=rx;exact vJ hu I3 g ry rv fun s4 I4=>⟨σ,H4,I4,q3⟩
end
section
variable{P:Program}{w:World}{H:Hp}
theorem pq(h:Heap)(hb:sysModules<h.objs.size):aM P w H (h.push { cls:=.type "dict",data:=.dict #[] }) h.objs.size (.dK []):=
 ⟨MR _,beq_eq_false_iff_ne.mpr (Ne.symm (MC hb)),[],.nil,Heap.DictOf.new h⟩
theorem xM(h:Heap)(hb:sysModules<h.objs.size):aM P w H (h.push { cls:=.type "dict",data:=.dict #[] }) h.objs.size (.dT [] []):=
 ⟨MR _,beq_eq_false_iff_ne.mpr (Ne.symm (MC hb)),[],.nil,_,#[],0,Ms _ rfl,⟨rfl,rfl,rfl⟩,rfl,rfl,List.nodup_nil,rfl⟩
def xN:TE:=fun _ H Q=>∀p,H p=none->Q (.ref p) (upd H p (.dK []))
def xO:TE:=fun _ H Q=>∀p,H p=none->Q (.ref p) (upd H p (.dT [] []))
end
section
variable{X:Cx}{pos:Pos}
theorem xP:PE X (.Dict [] [] pos) xN:=fun sy s σ H Q I h=>wpAny_Dict_empty ⟨.ref s.heap.objs.size,_,I.laid (a:=s.heap.objs.size) (o:=.dK []) (t':=s.toks) (fun _ _ q=>Mf _ q) (Ds _) (pq s.heap I.big),rfl,h _ (I.hok.fresh (Ds _))⟩
theorem xQ:PE X (.Dict [] [] pos) xO:=fun sy s σ H Q I h=>wpAny_Dict_empty ⟨.ref s.heap.objs.size,_,I.laid (a:=s.heap.objs.size) (o:=.dT [] []) (t':=s.toks) (fun _ _ q=>Mf _ q) (Ds _) (xM s.heap I.big),rfl,h _ (I.hok.fresh (Ds _))⟩
end
section
variable{trs:List (TE×TE)}{pos:Pos}{X:Cx}
def rH:List (TE×TE)->St->Hp->(List (V×V)->Hp->Prop)->Prop
 |[],_,H,Q=>Q [] H
 |(tk,tv)::r,σ,H,Q=>tk σ H fun x H1=>tv σ H1 fun y H2=>rH r σ H2 fun ps H3=>Q ((x,y)::ps) H3
noncomputable abbrev VV:List (V×V)->List (Value×Value)->Prop:=Paired fun p q=>RelV p.1 q.1/\RelV p.2 q.2
def PPs(X:Cx)(pos:Pos)(keys:List (Option Expr))(values:List Expr)(trs:List (TE×TE)):Prop:=
 ∀(sy:List (Addr×Obj)) (s:Shared) (σ:St) (H:Hp) (Q:List (V×V)->Hp->Prop),Inv X sy σ H s->rH trs σ H Q ->
  wpAny (model X.prog X.w) X.A (evalPairs (pairTrees keys values X.env pos)) (fun vs s'=>∃ps H',Inv X sy σ H' s'/\VV ps vs/\Q ps H') X.xe s
theorem Bq:PPs X pos [] [] []:=fun sy s σ H Q I h=>pairTrees_nil_walk ⟨[],H,I,.nil,h⟩
theorem xR{k v:Expr}{ks:List (Option Expr)}{vs:List Expr}{tk tv:TE}(hk:PE X k tk)(hv:PE X v tv)(hr:PPs X pos ks vs trs) :
  PPs X pos (some k::ks) (v::vs) ((tk,tv)::trs):=fun sy s σ H Q I h=>
 pairTrees_cons_walk (thn (hk sy s σ H _ I h) fun u s1 ⟨x,H1,I1,rx,q1⟩=>thn (hv sy s1 σ H1 _ I1 q1) fun w2 s2 ⟨y,H2,I2,ry,q2⟩=>thn (hr sy s2 σ H2 _ I2 q2) fun ws s3 ⟨ps,H3,I3,rel,q3⟩=>⟨(x,y)::ps,H3,I3,.cons ⟨rx,ry⟩ rel,q3⟩)
noncomputable def iE(kvs more:List (Key×V)):List (Key×V):=more.foldl (fun DK kv=>putK DK kv.1 kv.2) kvs
theorem KV.merge:∀{more:List (Key×V)} {rs:List (Key×Value)} {kvs:List (Key×V)} {vs:List (Key×Value)},KV more rs->KV kvs vs->KV (iE kvs more) (merged vs rs):=by
 intro more rs kvs vs r;unfold KV at r
 induction r generalizing kvs vs with
 |nil=>intro q;exact q
 |@cons p q ps qs h t ih=>
  intro r0;have e:KV (putK kvs p.1 p.2) (stored vs q.1 q.2):=by have:=r0.put p.1 h.2;rw[<- h.1];exact this
  exact ih e
theorem fD:∀(more kvs:List (Key×V)),(iE kvs more).length<=kvs.length+more.length
 |[],kvs=>by show kvs.length<=kvs.length+0;lia
 |p::r,kvs=>by have h1:=fD r (putK kvs p.1 p.2);have h2:=d8 kvs p.1 p.2;show (iE (putK kvs p.1 p.2) r).length<=_;rw[MU];lia
theorem jJ{P:Program}{w:World}:∀{kvs:List (Key×V)} {ws:List (Value×Value)},VV (kvs.map fun kv=>(kV kv.1,kv.2)) ws->∃rs,Carries (aK P w) ws rs/\KV kvs rs
 |[],_,r=>by rw[Oi]at r;cases r;exact⟨[],Nk,.nil⟩
 |p::kvs,_,r=>by
  rw[eg]at r;cases r with
  |@cons a b as bs h t=>obtain⟨rs,c,q⟩:=jJ (P:=P) (w:=w) t;obtain⟨b1,b2⟩:=b;exact⟨(p.1,b2)::rs,⟨i0 h.1,rfl,c⟩,.cons ⟨rfl,h.2⟩ q⟩
def Df(trs:List (TE×TE)):TE:=fun σ H Q=>∀p,H p=none->rH trs σ (upd H p (.dK [])) fun ps H2=>H2 p=some (.dK [])/\∃kvs:List (Key×V),ps=kvs.map (fun kv=>(kV kv.1,kv.2))/\kvs.length<=15/\Q (.ref p) (upd H2 p (.dK (iE [] kvs)))
theorem Bs{keys:List (Option Expr)}{values:List Expr}(h:PPs X pos keys values trs)(hall:keys.all (·.isSome)=true)(hl:keys.length=values.length)(h0:keys≠[])
  (h15:keys.length<=15):PE X (.Dict keys values pos) (Df trs):=by
 intro sy s σ H Q I q;have hn:=I.hok.fresh (Ds s.heap.objs.size);have I1:=I.laid (a:=s.heap.objs.size) (o:=.dK []) (h':=s.heap.push { cls:=.type "dict",data:=.dict #[] }) (t':=s.toks) (fun _ _ q=>Mf _ q) (Ds _) (pq s.heap I.big);refine wpAny_Dict_walk (knd:=aK X.prog X.w) hall hl h0 h15 (thn (h sy _ σ _ _ I1 (q _ hn)) fun ws s2 ⟨ps,H2,I2,rel,e,kvs,ep,lk,q2⟩=>?_);subst ep;obtain⟨rs,c,rk⟩:=jJ (P:=X.prog) (w:=X.w) rel;obtain⟨z,hd,vs0,r0,dd⟩:=tW I2.hok e;cases r0;refine⟨rs,c,dd,fun h' dd' hs=>⟨.ref s.heap.objs.size,_,?_,rfl,q2⟩⟩;have hz:(iE [] kvs).length<=sizeLine:=by have h1:=fD kvs [];rw[List.length_nil]at h1;rw[sizeLine_eq];lia
 have he:∃q,h'.get? s.heap.objs.size=some q:=let ⟨q,_,_,hq,_⟩:=dd';⟨q,hq⟩
 exact ju I2 (by rw[e];exact Nk) hs he (nH hz hd (rk.merge .nil) dd')
structure M1(X:Cx)(o:Expr)(m:Str)(Gz:Pos)(e:Expr)(cpos:Pos):Prop where
 base:attributeBase o m X.env (eval o X.env)=eval o X.env
 few:((backTo cpos (starEach [e] X.env)).all (fun x=>!x.1)&&(backToKw cpos (keywordEach [] X.env)).all (fun x=>x.1.isSome)
  && decide (([e]:List Expr).length+([]:List Keyword).length+(if ([]:List Keyword).isEmpty then 0 else 1)<30))=true
 line:(Gz.endLine == cpos.line)=true
 trees:backTo cpos (starEach [e] X.env)=[(false,eval e X.env)]
def IsD(H:Hp)(a:Addr):Prop:=(∃kvs,Rd H a (.dK kvs))\/∃kvs ts,Rd H a (.dT kvs ts)
theorem xS{sy:List (Addr×Obj)}{σ:St}{H:Hp}{s:Shared}{a:Addr}(I:Inv X sy σ H s)(d:IsD H a) :
  s.TypeIs (.ref a) "dict" /\ (∀b,MI a=.ref b->∃ob,s.heap.get? b=some ob/\ob.dict=none)/\(a == sysModules)=false:=by
 rcases d with⟨kvs,e⟩ | ⟨kvs,ts,e⟩
 ·obtain⟨_,hd,vs,_,dd⟩:=i6 I.hok e;refine⟨dd.typeIs,fun b q=>?_,hd⟩;cases q;obtain⟨ob,_,_,h1,h2,_⟩:=dd;exact⟨ob,h1,h2.2.1⟩
 ·obtain⟨_,hd,xs,_,dd⟩:=jI I.hok e;refine⟨dd.typeIs,fun b q=>?_,hd⟩;cases q;obtain⟨ob,_,_,h1,h2,_⟩:=dd;exact⟨ob,h1,h2.2.1⟩
end
section
variable{X:Cx}{sy:List (Addr×Obj)}{σ:St}{H:Hp}{s:Shared}{a:Addr}{y d:V}{u r:Value}{o:Option V}{A:Around}{E:Value->Shared->Prop}
theorem Fj{Q:Value->Shared->Prop}(hu:A.units+1<cLine)(I:Inv X sy σ H s)(g:cL H a y o)(ry:RelV y u)(h:∀w' s',Inv X sy σ H s'->RelV (o.getD .non) w'->Q w' s') :
  wpAny (model X.prog X.w) A (call (.builtin "dict.get") [.ref a,u]) Q E s:=by
 rcases g with⟨kvs,k,e,ey,l⟩ | ⟨kvs,k,b,ts,e,ey,eb,l⟩
 ·subst ey;obtain⟨z,hd,vs,rel,dd⟩:=i6 I.hok e;refine call_meetsIn Oe dd.typeIs PySem.F.entry_dict_get (PySem.F.args_dict_get_2 _ _) (meets_dict_get (aK X.prog X.w) a (i0 ry) hd) ⟨_,dd.mapOf,h _ _ (I.tok _) ?_⟩;rw[l];exact(rel.val k).getD rfl
 ·subst ey;cases (show u=MI b from ry);obtain⟨z,hd,xs,rel,dd⟩:=jI I.hok e;refine call_meetsIn Oe dd.typeIs PySem.F.entry_dict_get (PySem.F.args_dict_get_2 _ _) (meetsH_dict_get (tupleKind (aK X.prog X.w)) a b hd) ⟨tupleKind_room_in1 hu,k,xs,iD I.hok eb,dd,h _ _ (I.tok _) ?_⟩;rw[l];exact(rel.val k).getD rfl
end
def xT(td ty:TE):TE:=fun σ H Q=>td σ H fun x H1=>∃a,x=.ref a/\IsD H1 a/\ty σ H1 fun y H2=>∃o,cL H2 a y o/\Q (o.getD .non) H2
def xU(td ty:TE):TE:=fun σ H Q=>td σ H fun x H1=>∃a,x=.ref a/\IsD H1 a/\ty σ H1 fun y H2=>∃kvs k v,H2 a=some (.dK kvs)/\y=kV k/\dS kvs k=some v/\Q v (upd H2 a (.dK (iZ kvs k)))
section
variable{X:Cx}{o e f:Expr}{Gz cpos:Pos}{td ty tx:TE}
theorem xV(hu:X.A.units+1<cLine)(ho:PE X o td)(he:PE X e ty)(m:M1 X o "get" Gz e cpos):PE X (.Call (.Attribute o "get" Gz) [e] [] cpos) (xT td ty):=by intro sy s σ H Q I h;refine wpAny_Call_method m.base m.few m.line PySem.F.plainAttrs_dict Oe PySem.F.type_dict_get (thn (ho sy s σ H _ I h) fun u s1 ⟨x,H1,I1,rx,a,ex,d,q1⟩=>?_);subst ex;obtain rfl:u=MI a:=rx;obtain⟨t1,t2,_⟩:=xS I1 d;refine⟨t1,t2,?_⟩;rw[m.trees];refine Ob rfl (Oh (Ox (thn (he sy s1 σ H1 _ I1 q1) fun iv s2 ⟨y,H2,I2,ry,ov,g,q2⟩=>Nm ?_)));exact Fj hu I2 g ry fun w' s3 I3 rw'=>⟨_,H2,I3,rw',q2⟩
theorem xW(ho:PE X o td)(he:PE X e ty)(m:M1 X o "pop" Gz e cpos):PE X (.Call (.Attribute o "pop" Gz) [e] [] cpos) (xU td ty):=by intro sy s σ H Q I h;refine wpAny_Call_method m.base m.few m.line PySem.F.plainAttrs_dict PySem.F.slot_dict_pop PySem.F.type_dict_pop (thn (ho sy s σ H _ I h) fun u s1 ⟨x,H1,I1,rx,a,ex,d,q1⟩=>?_);subst ex;obtain rfl:u=MI a:=rx;obtain⟨t1,t2,_⟩:=xS I1 d;refine⟨t1,t2,?_⟩;rw[m.trees];refine Ob rfl (Oh (Ox (thn (he sy s1 σ H1 _ I1 q1) fun iv s2 ⟨y,H2,I2,ry,kvs,k,v,ea,ey,l,q2⟩=>Nm ?_)));subst ey;exact IA I2 ea ry l (.inl rfl) fun w' s3 I3 rw'=>⟨v,_,I3,rw',q2⟩
end
section
variable{X:Cx}{sy:List (Addr×Obj)}{σ:St}{H:Hp}{s:Shared}{a:Addr}{kvs:List (Key×V)}{A:Around}{E:Value->Shared->Prop}
theorem xX{Q:Value->Shared->Prop}(I:Inv X sy σ H s)(e:Rd H a (.dK kvs))(h:∀p s',H p=none->Inv X sy σ (upd H p (.dK kvs)) s'->Q (.ref p) s'):wpAny (model X.prog X.w) A (call (.type "dict") [.ref a]) Q E s:=by obtain⟨z,hd,vs,rel,dd⟩:=i6 I.hok e;refine kt_call_dict hd dd (by rw[<- rel.length];exact z) fun h' dd' hs=>?_;refine h _ _ (I.hok.fresh (Ds _)) (I.laid (a:=s.heap.objs.size) (o:=.dK kvs) (t':=s.toks) (fun b q hq=>?_) (Ds _) (nH z (beq_eq_false_iff_ne.mpr (Ne.symm (MC I.big))) rel dd'));exact(hs.2 b (MC (Mi hq))).trans (Mf _ hq)
end
end L2
namespace Dm
inductive Dat where
 |non
 |bl (b:Bool)
 |int (i:Int)
 |str (s:List Nat)
 |tup (xs:List Dat)
 |lst (xs:List Dat)
 |dct (ks:List Int) (vs:List Dat)
 |dcp (ks:List (Int×Int)) (vs:List Dat)
 |exc (C:Nat)
 |fn (a:Nat)
deriving Inhabited
inductive Cell where
 |un
 |sh (d:Dat)
 |ow (d:Dat)
deriving Inhabited
noncomputable abbrev Env:=List Cell
inductive Val where
 |val (d:Dat)
 |slot (i:Nat)
 |new (d:Dat)
inductive RV where
 |val (d:Dat)
 |new (d:Dat)
noncomputable def RV.dat:RV->Dat
 |.val d=>d
 |.new d=>d
noncomputable def RV.aY:RV->Val
 |.val d=>.val d
 |.new d=>.new d
noncomputable def SZ:Nat:=100000
noncomputable def dO:Dat->Bool
 |.tup _=>true
 |.lst _=>true
 |.dct _ _=>true
 |.dcp _ _=>true
 |.exc _=>true
 |_=>false
noncomputable def pk(ρ:Env):Val->Option Dat
 |.val d=>some d
 |.new d=>some d
 |.slot i=>match ρ[i]? with
  |some (.ow d)=>some d
  |some (.sh d)=>some d
  |_=>none
noncomputable def tk(ρ:Env):Val->Option (Dat×Env)
 |.val d=>some (d,ρ)
 |.new d=>some (d,ρ)
 |.slot i=>match ρ[i]? with
  |some (.ow d)=>some (d,ρ.set i (.sh d))
  |some (.sh d)=>some (d,ρ)
  |_=>none
noncomputable def pks(ρ:Env):List Val->Option (List Dat)
 |[]=>some []
 |x::r=>match pk ρ x with
  |none=>none
  |some d=>match pks ρ r with
   |none=>none
   |some ds=>some (d::ds)
noncomputable def tks(ρ:Env):List Val->Option (List Dat×Env)
 |[]=>some ([],ρ)
 |x::r=>match tk ρ x with
  |none=>none
  |some (d,ρ1)=>match tks ρ1 r with
   |none=>none
   |some (ds,ρ2)=>some (d::ds,ρ2)
noncomputable abbrev FE:=Env->Option (Val×Env)
noncomputable abbrev FT:=Env->Option (Bool×Env)
noncomputable def eC(d:Dat):FE:=fun ρ=>some (.val d,ρ)
noncomputable def eV(i:Nat):FE:=fun ρ=>match ρ[i]? with
 |some (.sh d)=>some (.val d,ρ)
 |some (.ow _)=>some (.slot i,ρ)
 |_=>none
noncomputable def e1(g:Dat->Option RV)(a:FE):FE:=fun ρ=>match a ρ with
 |none=>none
 |some (x,ρ1)=>match pk ρ1 x with
  |none=>none
  |some d=>match g d with
   |none=>none
   |some v=>some (v.aY,ρ1)
noncomputable def e2(g:Dat->Dat->Option RV)(a b:FE):FE:=fun ρ=>match a ρ with
 |none=>none
 |some (x,ρ1)=>match b ρ1 with
  |none=>none
  |some (y,ρ2)=>match pk ρ2 x with
   |none=>none
   |some d=>match pk ρ2 y with
    |none=>none
    |some e=>match g d e with
     |none=>none
     |some v=>some (v.aY,ρ2)
noncomputable def eAs:List FE->Env->Option (List Val×Env)
 |[],ρ=>some ([],ρ)
 |a::r,ρ=>match a ρ with
  |none=>none
  |some (x,ρ1)=>match eAs r ρ1 with
   |none=>none
   |some (xs,ρ2)=>some (x::xs,ρ2)
noncomputable def eB(g:List Dat->Option RV)(as:List FE):FE:=fun ρ=>match eAs as ρ with
 |none=>none
 |some (xs,ρ1)=>match pks ρ1 xs with
  |none=>none
  |some ds=>match g ds with
   |none=>none
   |some v=>some (v.aY,ρ1)
noncomputable def cA(as:List FE):FE:=fun ρ=>match eAs as ρ with
 |none=>none
 |some (xs,ρ1)=>match tks ρ1 xs with
  |none=>none
  |some (ds,ρ2)=>if ds.length<=SZ then some (.val (.tup ds),ρ2) else none
noncomputable def dU(as:List FE):FE:=fun ρ=>match eAs as ρ with
 |none=>none
 |some (xs,ρ1)=>match tks ρ1 xs with
  |none=>none
  |some (ds,ρ2)=>if ds.length<=SZ then some (.new (.lst ds),ρ2) else none
noncomputable def eF(f:List Dat->Option RV)(as:List FE):FE:=fun ρ=>match eAs as ρ with
 |none=>none
 |some (xs,ρ1)=>match pks ρ1 xs with
  |none=>none
  |some ds=>match f ds with
   |none=>none
   | some v=>if dO v.dat then (match tks ρ1 xs with
     |none=>none
     |some (_,ρ2)=>some (v.aY,ρ2)) else some (v.aY,ρ1)
noncomputable def eIf(t:FT)(a b:FE):FE:=fun ρ=>match t ρ with
 |none=>none
 |some (true,ρ1)=>a ρ1
 |some (false,ρ1)=>b ρ1
noncomputable def gW(a b:FE):FE:=fun ρ=>match a ρ with
 |some (.val (.bl true),ρ1)=>b ρ1
 |some (.val (.bl false),ρ1)=>some (.val (.bl false),ρ1)
 |_=>none
noncomputable def vL(a:FE):FE:=fun ρ=>match a ρ with
 |some (.val (.bl c),ρ1)=>some (.val (.bl (!c)),ρ1)
 |_=>none
noncomputable def tV(a:FE):FT:=fun ρ=>match a ρ with
 |some (.val (.bl c),ρ1)=>some (c,ρ1)
 |_=>none
noncomputable def cR(t:FT):FT:=fun ρ=>match t ρ with
 |some (c,ρ1)=>some (!c,ρ1)
 |none=>none
noncomputable def jD(t u:FT):FT:=fun ρ=>match t ρ with
 |some (true,ρ1)=>u ρ1
 |some (false,ρ1)=>some (false,ρ1)
 |none=>none
noncomputable def tOr(t u:FT):FT:=fun ρ=>match t ρ with
 |some (true,ρ1)=>some (true,ρ1)
 |some (false,ρ1)=>u ρ1
 |none=>none
noncomputable def truth:Dat->Option Bool
 |.non=>some false
 |.bl b=>some b
 |.int i=>some (i != 0)
 |.tup xs=>some (!xs.isEmpty)
 |.lst xs=>some (!xs.isEmpty)
 |_=>none
noncomputable def tTr(a:FE):FT:=fun ρ=>match a ρ with
 |none=>none
 |some (x,ρ1)=>match pk ρ1 x with
  |none=>none
  |some d=>match truth d with
   |none=>none
   |some c=>some (c,ρ1)
noncomputable def cN:FT:=fun ρ=>some (true,ρ)
noncomputable abbrev FI:=Env->Option (List Dat×Env)
noncomputable def iL(a:FE):FI:=fun ρ=>match a ρ with
 |none=>none
 |some (x,ρ1)=>match tk ρ1 x with
  |some (.lst ds,ρ2)=>some (ds,ρ2)
  |_=>none
noncomputable def iT(a:FE):FI:=fun ρ=>match a ρ with
 |none=>none
 |some (x,ρ1)=>match tk ρ1 x with
  |some (.tup ds,ρ2)=>some (ds,ρ2)
  |_=>none
noncomputable def iS(a:FE):FI:=fun ρ=>match a ρ with
 |none=>none
 |some (x,ρ1)=>match tk ρ1 x with
  |some (.lst ds,ρ2)=>some (ds,ρ2)
  |some (.tup ds,ρ2)=>some (ds,ρ2)
  |_=>none
noncomputable def ups(lo:Int)(n:Nat):List Dat:=(Mm n).map fun i=>Dat.int (lo+(i:Nat))
noncomputable def downs(hi:Int)(n:Nat):List Dat:=(Mm n).map fun i=>Dat.int (hi-(i:Nat))
noncomputable def BIG:Int:=1000000000
noncomputable def iR1(a:FE):FI:=fun ρ=>match a ρ with
 |some (.val (.int j),ρ1)=>if j<=BIG/\-BIG<=j then some (ups 0 j.toNat,ρ1) else none
 |_=>none
noncomputable def iR2(a b:FE):FI:=fun ρ=>match a ρ with
 | some (.val (.int i),ρ1)=>(match b ρ1 with
  |some (.val (.int j),ρ2)=>if j<=BIG/\-BIG<=j/\i<=BIG/\-BIG<=i then some (ups i (j-i).toNat,ρ2) else none
  |_=>none)
 |_=>none
noncomputable abbrev FB:=Dat->Env->Option Env
noncomputable def bN(i:Nat):FB:=fun d ρ=>if i=0 then none else some (ρ.set i (.sh d))
noncomputable def sets:List Nat->List Dat->Env->Option Env
 |[],[],ρ=>some ρ
 |i::is,d::ds,ρ=>if i=0 then none else sets is ds (ρ.set i (.sh d))
 |_,_,_=>none
noncomputable def bT(is:List Nat):FB:=fun d ρ=>match d with
 |.tup ds=>sets is ds ρ
 |_=>none
noncomputable def cF(bd:FB)(t:FT)(el:FE):List Dat->Env->List Dat->Option (List Dat×Env)
 |[],ρ,DK=>some (DK,ρ)
 |d::r,ρ,DK=>match bd d ρ with
  |none=>none
  |some ρ1=>match t ρ1 with
   |none=>none
   |some (false,ρ2)=>cF bd t el r ρ2 DK
   |some (true,ρ2)=>match el ρ2 with
    |none=>none
    |some (x,ρ3)=>match tk ρ3 x with
     |none=>none
     |some (y,ρ4)=>cF bd t el r ρ4 (DK++[y])
noncomputable def bX(it:FI)(own:Nat)(bd:FB)(t:FT)(el:FE):FE:=fun ρ=>match it ρ with
 |none=>none
 | some (ds,ρ1)=>if ds.length≤SZ then (match cF bd t el ds (ρ1++Dk own .un) [] with
  |none=>none
  |some (ys,ρ2)=>some (.new (.lst ys),ρ2.take ρ1.length)) else none
inductive Out where
 |nx (ρ:Env)
 |ret (r:RV) (ρ:Env)
 |bk (ρ:Env)
 |ct (ρ:Env)
noncomputable abbrev FS:=Env->Option Out
noncomputable def sNx:FS:=fun ρ=>some (.nx ρ)
noncomputable def aC(s u:FS):FS:=fun ρ=>match s ρ with
 |some (.nx ρ1)=>u ρ1
 |o=>o
noncomputable def sA(i:Nat)(e:FE):FS:=fun ρ=>if i=0 then none else match e ρ with
 |none=>none
 |some (.new d,ρ1)=>some (.nx (ρ1.set i (.ow d)))
 |some (x,ρ1)=>match tk ρ1 x with
  |none=>none
  |some (d,ρ2)=>some (.nx (ρ2.set i (.sh d)))
noncomputable def sE(e:FE):FS:=fun ρ=>match e ρ with
 |none=>none
 |some (_,ρ1)=>some (.nx ρ1)
noncomputable def sR(e:FE):FS:=fun ρ=>match e ρ with
 |none=>none
 |some (.new d,ρ1)=>some (.ret (.new d) ρ1)
 |some (.val d,ρ1)=>some (.ret (.val d) ρ1)
 |some (.slot i,ρ1)=>match ρ1[i]? with
  |some (.ow d)=>some (.ret (.new d) (ρ1.set i .un))
  |some (.sh d)=>some (.ret (.val d) ρ1)
  |_=>none
noncomputable def sIf(t:FT)(a b:FS):FS:=fun ρ=>match t ρ with
 |none=>none
 |some (true,ρ1)=>a ρ1
 |some (false,ρ1)=>b ρ1
noncomputable def nI(i:Nat)(e:FE):FS:=fun ρ=>match ρ[i]? with
 | some (.ow (.lst _))=>(match e ρ with
  |none=>none
  |some (x,ρ1)=>match tk ρ1 x with
   |none=>none
   |some (d,ρ2)=>match ρ2[i]? with
    |some (.ow (.lst ds))=>if ds.length<SZ then some (.nx (ρ2.set i (.ow (.lst (ds++[d]))))) else none
    |_=>none)
 |_=>none
noncomputable def ixN(n:Nat)(i:Int):Option Nat:=
 if 0<=i then (if i<n then some i.toNat else none) else if -(n:Int)<=i then some (i+n).toNat else none
noncomputable def rJ(i:Nat)(j e:FE):FS:=fun ρ=>match e ρ with
 |none=>none
 |some (x,ρ1)=>match tk ρ1 x with
  |none=>none
  |some (d,ρ2)=>match ρ2[i]? with
   | some (.ow _)=>(match j ρ2 with
    | some (.val (.int k),ρ3)=>(match ρ3[i]? with
     | some (.ow (.lst ds))=>(match ixN ds.length k with
      |none=>none
      |some m=>some (.nx (ρ3.set i (.ow (.lst (ds.set m d))))))
     |_=>none)
    |_=>none)
   |_=>none
noncomputable def iF(bd:FB)(body:FS):List Dat->FS
 |[],ρ=>some (.nx ρ)
 |d::r,ρ=>match bd d ρ with
  |none=>none
  |some ρ1=>match body ρ1 with
   |some (.nx ρ2)=>iF bd body r ρ2
   |some (.ct ρ2)=>iF bd body r ρ2
   |some (.bk ρ2)=>some (.nx ρ2)
   |some (.ret v ρ2)=>some (.ret v ρ2)
   |none=>none
noncomputable def cS(it:FI)(bd:FB)(body:FS):FS:=fun ρ=>match it ρ with
 |none=>none
 |some (ds,ρ1)=>iF bd body ds ρ1
noncomputable def whD(t:FT)(body:FS):Nat->FS
 |0,_=>none
 |n+1,ρ=>match t ρ with
  |none=>none
  |some (false,ρ1)=>some (.nx ρ1)
  |some (true,ρ1)=>match body ρ1 with
   |some (.nx ρ2)=>whD t body n ρ2
   |some (.ct ρ2)=>whD t body n ρ2
   |some (.bk ρ2)=>some (.nx ρ2)
   |some (.ret v ρ2)=>some (.ret v ρ2)
   |none=>none
noncomputable def fn(n m:Nat)(body:FS)(ds:List Dat):Option RV:=if ds.length=n then (match body (ds.map Cell.sh++Dk m .un) with
 |some (.ret r _)=>some r
 |some (.nx _)=>some (.val .non)
 |_=>none) else none
noncomputable def b2i(b:Bool):Int:=if b then 1 else 0
mutual
noncomputable def eqD:Dat->Dat->Bool
 |.non,.non=>true
 |.bl a,.bl b=>a == b
 |.bl a,.int j=>b2i a == j
 |.int i,.bl b=>i == b2i b
 |.int i,.int j=>i == j
 |.str a,.str b=>a == b
 |.tup xs,.tup ys=>rK xs ys
 |.lst xs,.lst ys=>rK xs ys
 |_,_=>false
noncomputable def rK:List Dat->List Dat->Bool
 |[],[]=>true
 |x::xs,y::ys=>eqD x y&&rK xs ys
 |_,_=>false
end
noncomputable def okD:Nat->Dat->Bool
 |_,.dct _ _=>false
 |_,.dcp _ _=>false
 |_,.exc _=>false
 |_,.fn _=>false
 |_,.str s=>s.all fun c=>decide (c<128)
 |0,.tup _=>false
 |0,.lst _=>false
 |n+1,.tup xs=>xs.all (okD n)
 |n+1,.lst xs=>xs.all (okD n)
 |_,_=>true
noncomputable abbrev vB(b:Bool):Option RV:=some (.val (.bl b))
noncomputable def nJ(p:Dat->Bool):Dat->Option RV
 |.exc _=>none
 |.fn _=>none
 |d=>vB (p d)
noncomputable abbrev vI(i:Int):Option RV:=some (.val (.int i))
noncomputable def gEq(x y:Dat):Option RV:=if okD 8 x&&okD 8 y then vB (eqD x y) else none
noncomputable def gNe(x y:Dat):Option RV:=if okD 8 x&&okD 8 y then vB (!eqD x y) else none
noncomputable def gLt:Dat->Dat->Option RV
 |.int i,.int j=>vB (decide (i<j))
 |_,_=>none
noncomputable def gLe:Dat->Dat->Option RV
 |.int i,.int j=>vB (decide (i<=j))
 |_,_=>none
noncomputable def gGt:Dat->Dat->Option RV
 |.int i,.int j=>vB (decide (j<i))
 |_,_=>none
noncomputable def gGe:Dat->Dat->Option RV
 |.int i,.int j=>vB (decide (j<=i))
 |_,_=>none
noncomputable def B64:Int:=18446744073709551616
noncomputable def bO:Dat->Dat->Option RV
 |.int i,.int j=>vI (i+j)
 |.lst xs,.lst ys=>if xs.length+ys.length<=SZ then some (.new (.lst (xs++ys))) else none
 |_,_=>none
noncomputable def gS:Dat->Dat->Option RV
 |.int i,.int j=>vI (i-j)
 |_,_=>none
noncomputable def fL:Dat->Dat->Option RV
 |.int i,.int j=>if (-B64<i/\i<B64)\/(-B64<j/\j<B64) then vI (i*j) else none
 |.lst xs,.int k=>if k<=BIG/\-BIG<=k/\xs.length*k.toNat<=SZ then some (.new (.lst (Dk k.toNat xs).flatten)) else none
 |_,_=>none
noncomputable def gX:Int:=1606938044258990275541962092341162602522202993782792835301376
noncomputable def rL:Dat->Dat->Option RV
 |.int i,.int j=>if 0<j/\j<gX then vI (i / j) else none
 |_,_=>none
noncomputable def fM:Dat->Dat->Option RV
 |.int i,.int j=>if 0<j then vI (i % j) else none
 |_,_=>none
noncomputable def fN:Dat->Dat->Option RV
 |.int i,.int j=>if 0<=j/\j<=1000000/\i.natAbs<1000000 then vI (i ^ j.toNat) else none
 |_,_=>none
noncomputable def atI(xs:List Dat)(i:Int):Option Dat:=(ixN xs.length i).bind fun j=>xs[j]?
noncomputable def gIx:Dat->Dat->Option RV
 |.lst xs,.int i=>(atI xs i).map .val
 |.tup xs,.int i=>(atI xs i).map .val
 |_,_=>none
noncomputable def inD(x:Dat)(xs:List Dat):Bool:=xs.any fun y=>eqD y x
noncomputable def gIn:Dat->Dat->Option RV
 |x,.lst xs=>if okD 8 x&&xs.all (okD 7) then vB (inD x xs) else none
 |x,.tup xs=>if okD 8 x&&xs.all (okD 7) then vB (inD x xs) else none
 |_,_=>none
noncomputable def cG:Dat->Dat->Option RV
 |x,.lst xs=>if okD 8 x&&xs.all (okD 7) then vB (!inD x xs) else none
 |x,.tup xs=>if okD 8 x&&xs.all (okD 7) then vB (!inD x xs) else none
 |_,_=>none
noncomputable def sIx(n d:Nat):Option Int->Nat
 |none=>d
 |some v=>(if v<0 then max (v+n) 0 else min v n).toNat
noncomputable def cut(xs:List Dat)(lo hi:Option Int):List Dat:=(xs.drop (sIx xs.length 0 lo)).take (sIx xs.length xs.length hi-sIx xs.length 0 lo)
noncomputable def d9:List Dat->Option RV
 |[.lst xs]=>vI xs.length
 |[.tup xs]=>vI xs.length
 |_=>none
noncomputable def gY:List Dat->Option RV
 |[.int i,.int j]=>vI (if j<i then j else i)
 |_=>none
noncomputable def mE:List Dat->Option RV
 |[.int i,.int j]=>vI (if j>i then j else i)
 |_=>none
noncomputable def jK:List Dat->Option RV
 |[.lst xs]=>some (.val (.tup xs))
 |[.tup xs]=>some (.val (.tup xs))
 |_=>none
noncomputable def isI:Dat->Bool
 |.int _=>true
 |.bl _=>true
 |_=>false
noncomputable def isB:Dat->Bool
 |.bl _=>true
 |_=>false
noncomputable def isL:Dat->Bool
 |.lst _=>true
 |_=>false
noncomputable def isT:Dat->Bool
 |.tup _=>true
 |_=>false
noncomputable def bools:List Dat->Option (List Bool)
 |[]=>some []
 |.bl b::r=>(bools r).map fun bs=>b::bs
 |_=>none
noncomputable def rM:List Dat->Option RV
 | [.lst xs]=>(match bools xs with
  |some bs=>vB (bs.all id)
  |none=>none)
 |_=>none
noncomputable def jL(g h:Dat->Dat->Option RV)(a b c:FE):FE:=fun ρ=>match a ρ with
 |none=>none
 |some (x,ρ1)=>match b ρ1 with
  |none=>none
  |some (y,ρ2)=>match pk ρ2 x with
   |none=>none
   |some d=>match pk ρ2 y with
    |none=>none
    |some e=>match g d e with
     | some (.val (.bl true))=>(match c ρ2 with
      |none=>none
      |some (z,ρ3)=>match pk ρ3 y with
       |none=>none
       |some e'=>match pk ρ3 z with
        |none=>none
        |some f=>match h e' f with
         |none=>none
         |some v=>some (v.aY,ρ3))
     |some (.val (.bl false))=>some (.val (.bl false),ρ2)
     |_=>none
noncomputable def part:Option FE->Env->Option (Option Int×Env)
 |none,ρ=>some (none,ρ)
 |some f,ρ=>match f ρ with
  |some (.val (.int i),ρ1)=>some (some i,ρ1)
  |_=>none
noncomputable def eSl(a:FE)(lo hi:Option FE):FE:=fun ρ=>match a ρ with
 |none=>none
 |some (x,ρ1)=>match part lo ρ1 with
  |none=>none
  |some (l,ρ2)=>match part hi ρ2 with
   |none=>none
   |some (h,ρ3)=>match pk ρ3 x with
    |some (.lst xs)=>some (.new (.lst (cut xs l h)),ρ3)
    |_=>none
noncomputable def xY:Dat->Option RV
 |.lst xs=>some (.new (.lst xs.reverse))
 |_=>none
noncomputable def vM:List Dat->Option RV
 |[.int i]=>vI i
 |[.bl b]=>vI (b2i b)
 |_=>none
end Dm
open Dm(Dat FE RV FT FS)
namespace Br
open PySem L2
noncomputable def kP(p:Int×Int):List Key:=[MB p.1,MB p.2]
def bP(H:Hp):List Addr->List (Int×Int)->Prop
 |[],[]=>True
 |t::ts,p::ks=>H t=some (.tup [V.int p.1,V.int p.2])/\bP H ts ks
 |_,_=>False
theorem bP.mono{H H':Hp}(s:ao H H'):∀{ts:List Addr} {ks:List (Int×Int)},bP H ts ks->bP H' ts ks
 |[],[],_=>trivial
 |_::_,_::_,h=>⟨s _ _ h.1,bP.mono s h.2⟩
 |[],_::_,h=>h
 |_::_,[],h=>h
def vN(H:Hp)(x:List (List Key×V)×List Addr)(ks:List (Int×Int)):Prop:=x.1.map (·.1)=ks.map kP/\bP H x.2 ks
theorem vN.mono{H H':Hp}(s:ao H H'){x:List (List Key×V)×List Addr}{ks:List (Int×Int)}(h:vN H x ks):vN H' x ks:=⟨h.1,h.2.mono s⟩
mutual
inductive Rep(H:Hp):V->Dat->Prop
 |non:Rep H V.non Dat.non
 |bl (b:Bool):Rep H (V.bl b) (Dat.bl b)
 |int (i:Int):Rep H (V.int i) (Dat.int i)
 |str (s:List Nat):Rep H (V.str ⟨s.toArray⟩) (Dat.str s)
 |tup {a:Addr} {xs:List V} {ds:List Dat}:H a=some (.tup xs)->ay H xs ds->Rep H (V.ref a) (Dat.tup ds)
 |lst {a:Addr} {xs:List V} {ds:List Dat}:Rd H a (.lst xs)->ay H xs ds->Rep H (V.ref a) (Dat.lst ds)
 |dct {a:Addr} {kvs:List (Key×V)} {ks:List Int} {ds:List Dat}:H a=some (.dK kvs)->kvs.map (·.1)=ks.map MB->ay H (kvs.map (·.2)) ds->Rep H (V.ref a) (Dat.dct ks ds)
 |dcp {a:Addr} {x:List (List Key×V)×List Addr} {ks:List (Int×Int)} {ds:List Dat}:H a=some (.dT x.1 x.2)->vN H x ks->ay H (x.1.map (·.2)) ds->Rep H (V.ref a) (Dat.dcp ks ds)
 |exc {a:Addr} {C:Nat}:H a=some (.ext fun h=>∃o,h.get? a=some o/\o.cls=.ref C)->Rep H (V.ref a) (Dat.exc C)
 |fn (a:Addr):Rep H (V.ref a) (Dat.fn a)
inductive ay(H:Hp):List V->List Dat->Prop
 |nil:ay H [] []
 |cons {v:V} {d:Dat} {vs:List V} {ds:List Dat}:Rep H v d->ay H vs ds->ay H (v::vs) (d::ds)
end
theorem ao.rd{H H':Hp}(s:ao H H'){a:Addr}{u:HO}(h:Rd H a u):Rd H' a u:=by
 rcases h with h | ⟨o,h⟩
 ·exact .inl (s _ _ h)
 ·exact .inr ⟨o,s _ _ h⟩
mutual
theorem Rep.mono{H H':Hp}(s:ao H H'):∀{v:V} {d:Dat},Rep H v d->Rep H' v d
 |_,_,.non=>.non
 |_,_,.bl b=>.bl b
 |_,_,.int i=>.int i
 |_,_,.str x=>.str x
 |_,_,.tup h r=>.tup (s _ _ h) (ay.mono s r)
 |_,_,.lst h r=>.lst (ao.rd s h) (ay.mono s r)
 |_,_,.dct h e r=>.dct (s _ _ h) e (ay.mono s r)
 |_,_,.dcp h e r=>.dcp (s _ _ h) (e.mono s) (ay.mono s r)
 |_,_,.exc h=>.exc (s _ _ h)
 |_,_,.fn a=>.fn a
theorem ay.mono{H H':Hp}(s:ao H H'):∀{vs:List V} {ds:List Dat},ay H vs ds->ay H' vs ds
 |_,_,.nil=>.nil
 |_,_,.cons h r=>.cons (Rep.mono s h) (ay.mono s r)
end
section
variable{ρ:Dm.Env}{H0 H:Hp}{d:Dat}{σ:St}{a:Addr}{x:Dm.Val}{v:V}{X:Cx}{t t':TS}{p:Addr}{e:Expr}{o:HO}
theorem ay.length{H:Hp}:∀{vs:List V} {ds:List Dat},ay H vs ds->vs.length=ds.length
 |_,_,.nil=>rfl
 |_,_,.cons _ r=>by simp[ay.length r]
theorem ay.get{H:Hp}:∀{vs:List V} {ds:List Dat} {i:Nat} {d:Dat},ay H vs ds->ds[i]?=some d->∃v,vs[i]?=some v/\Rep H v d
 |_,_,_,_,.nil,e=>by simp at e
 |_,_,0,_,.cons h _,e=>by simp at e;subst e;exact⟨_,rfl,h⟩
 |_,_,i+1,_,.cons _ r,e=>by obtain⟨v,h1,h2⟩:=ay.get (i:=i) r (by simpa using e);exact⟨v,by simpa using h1,h2⟩
theorem ay.append{H:Hp}:∀{vs ws:List V} {ds es:List Dat},ay H vs ds->ay H ws es->ay H (vs++ws) (ds++es)
 |_,_,_,_,.nil,s=>s
 |_,_,_,_,.cons h r,s=>.cons h (ay.append r s)
theorem ay.take{H:Hp}:∀{vs:List V} {ds:List Dat} (n:Nat),ay H vs ds->ay H (vs.take n) (ds.take n)
 |_,_,0,_=>by simpa using ay.nil
 |_,_,_+1,.nil=>by simpa using ay.nil
 |_,_,n+1,.cons h r=>by simpa using ay.cons h (ay.take n r)
theorem ay.drop{H:Hp}:∀{vs:List V} {ds:List Dat} (n:Nat),ay H vs ds->ay H (vs.drop n) (ds.drop n)
 |_,_,0,r=>by simpa using r
 |_,_,_+1,.nil=>by simpa using ay.nil
 |_,_,n+1,.cons _ r=>by simpa using ay.drop n r
theorem ay.set{H:Hp}(h:Rep H v d):∀{vs:List V} {ds:List Dat} (i:Nat),ay H vs ds->ay H (vs.set i v) (ds.set i d)
 |_,_,_,.nil=>.nil
 |_,_,0,.cons _ r=>.cons h r
 |_,_,i+1,.cons q r=>.cons q (ay.set h i r)
theorem ay.reverse{H:Hp}:∀{vs:List V} {ds:List Dat},ay H vs ds->ay H vs.reverse ds.reverse
 |_,_,.nil=>.nil
 |_,_,.cons h r=>by rw[Nn,Nn];exact ay.append (ay.reverse r) (.cons h .nil)
theorem ay.rep{H:Hp}{vs:List V}{ds:List Dat}(r:ay H vs ds):∀k:Nat,ay H (Dk k vs).flatten (Dk k ds).flatten
 |0=>by simpa using ay.nil
 |k+1=>by rw[Nd,Nd,MW,MW];exact ay.append r (ay.rep r k)
def Own(H0 H:Hp)(a:Addr):Dat->Prop
 |.lst ds=>∃xs,H a=some (.lst xs)/\ay H0 xs ds
 |.dct ks ds=>∃kvs:List (Key×V),H a=some (.dK kvs)/\kvs.map (·.1)=ks.map MB/\ay H0 (kvs.map (·.2)) ds
 |.dcp ks ds=>∃x:List (List Key×V)×List Addr,H a=some (.dT x.1 x.2)/\vN H0 x ks/\ay H0 (x.1.map (·.2)) ds
 |_=>False
theorem Own.some(h:Own H0 H a d):∃o,H a=some o:=by
 cases d with
 |lst ds=>obtain⟨xs,e,_⟩:=h;exact⟨_,e⟩
 |dct ks ds=>obtain⟨xs,e,_⟩:=h;exact⟨_,e⟩
 |dcp ks ds=>obtain⟨xs,e,_⟩:=h;exact⟨_,e⟩
 |_=>exact MN h
theorem Own.mono{H0 H H0' H':Hp}(h:Own H0 H a d)(s:ao H0 H0')(e:H' a=H a):Own H0' H' a d:=by
 cases d with
 |lst ds=>obtain⟨xs,q,r⟩:=h;exact⟨xs,by rw[e];exact q,r.mono s⟩
 |dct ks ds=>obtain⟨xs,q,k,r⟩:=h;exact⟨xs,by rw[e];exact q,k,r.mono s⟩
 |dcp ks ds=>obtain⟨xs,q,k,r⟩:=h;exact⟨xs,by rw[e];exact q,k.mono s,r.mono s⟩
 |_=>exact MN h
def fO(H0 H:Hp)(v:V)(d:Dat):Prop:=Rep H0 v d\/∃a,v=V.ref a/\Own H0 H a d
inductive pA(H0 H:Hp):List V->List Dat->Prop
 |nil:pA H0 H [] []
 |cons {v:V} {d:Dat} {vs:List V} {ds:List Dat}:fO H0 H v d->pA H0 H vs ds->pA H0 H (v::vs) (d::ds)
noncomputable def shr(H0 H:Hp)(a:Addr):Hp:=fun b=>if b=a then H a else H0 b
theorem b9:shr H0 H a a=H a:=by unfold shr;rw[if_pos rfl]
theorem fP{a b:Addr}(h:b≠a):shr H0 H a b=H0 b:=by unfold shr;rw[if_neg h]
theorem cW(h:H0 a=none):ao H0 (shr H0 H a):=fun b o e=>by
 by_cases q:b=a
 ·subst q;rw[h]at e;cases e
 ·rw[fP q];exact e
theorem tZ(s:ao H0 H):ao (shr H0 H a) H:=fun b o e=>by
 by_cases q:b=a
 ·subst q;rw[b9]at e;exact e
 ·rw[fP q]at e;exact s _ _ e
theorem Own.rep(h:Own H0 H a d)(n:H0 a=none):Rep (shr H0 H a) (V.ref a) d:=by
 cases d with
 |lst ds=>obtain⟨xs,q,r⟩:=h;exact .lst (.inl (by rw[b9];exact q)) (r.mono (cW n))
 |dct ks ds=>obtain⟨xs,q,k,r⟩:=h;exact .dct (by rw[b9];exact q) k (r.mono (cW n))
 |dcp ks ds=>obtain⟨xs,q,k,r⟩:=h;exact .dcp (by rw[b9];exact q) (k.mono (cW n)) (r.mono (cW n))
 |_=>exact MN h
def aj(σ:St)(ρ:Dm.Env)(a:Addr):Prop:=∃(i:Nat) (d:Dat),ρ[i]?=some (Dm.Cell.ow d)/\σ[i]?=some (some (V.ref a))
noncomputable abbrev Def(_:Dm.Env)(_:Nat):Prop:=True
structure aA(H0 H:Hp)(σ:St)(ρ:Dm.Env):Prop where
 same:ao H0 H
 len:σ.length=ρ.length
 sh:∀(i:Nat) (d:Dat),ρ[i]?=some (Dm.Cell.sh d)->∃v,σ[i]?=some (some v)/\Rep H0 v d
 ow:∀(i:Nat) (d:Dat),ρ[i]?=some (Dm.Cell.ow d)->∃a,σ[i]?=some (some (V.ref a))/\H0 a=none/\Own H0 H a d
 dis:∀(i j:Nat) (d e:Dat) (a:Addr),ρ[i]?=some (Dm.Cell.ow d)->ρ[j]?=some (Dm.Cell.ow e)->σ[i]?=some (some (V.ref a))->σ[j]?=some (some (V.ref a))->i=j
structure Stp(O:Addr->Prop)(H0 H H0' H':Hp):Prop where
 s0:ao H0 H0'
 s1:∀a o,H a=some o->¬O a->H' a=some o
 s2:∀a o,H0' a=some o->H a=none\/H0 a=some o\/O a
 s3:∀a o,H a=some o->∃o',H' a=some o'
theorem Stp.refl(O:Addr->Prop)(H0 H:Hp):Stp O H0 H H0 H:=⟨ao.refl _,fun _ _ e _=>e,fun _ _ e=>.inr (.inl e),fun _ o e=>⟨o,e⟩⟩
theorem Stp.gone{O:Addr->Prop}{H0 H H0' H':Hp}(t:Stp O H0 H H0' H')(h:H' a=none):H a=none:=by
 cases q:H a with
 |none=>rfl
 |some o=>obtain⟨o',e⟩:=t.s3 a o q;rw[h]at e;cases e
theorem Stp.trans{O1 O2:Addr->Prop}{H0 H H1 H' H2 H'':Hp}(t:Stp O1 H0 H H1 H')(u:Stp O2 H1 H' H2 H'')(k:∀a,O2 a->O1 a\/H a=none):Stp O1 H0 H H2 H'' where
 s0:=t.s0.trans u.s0
 s1:=fun a o e n=>u.s1 a o (t.s1 a o e n) fun z=>(k a z).elim n fun q=>by rw[q]at e;cases e
 s2:=fun a o e=>by
  rcases u.s2 a o e with q | q | q
  ·exact .inl (t.gone q)
  ·exact t.s2 a o q
  ·rcases k a q with z | z
   ·exact .inr (.inr z)
   ·exact .inl z
 s3:=fun a o e=>by obtain⟨o',e'⟩:=t.s3 a o e;exact u.s3 a o' e'
theorem Stp.wide{O O':Addr->Prop}{H0 H H0' H':Hp}(t:Stp O H0 H H0' H')(k:∀a,O a->O' a):Stp O' H0 H H0' H':=
 ⟨t.s0,fun a o e n=>t.s1 a o e fun z=>n (k a z),fun a o e=>(t.s2 a o e).imp id (Or.imp id (k a)),t.s3⟩
structure aG(H0 H H0' H':Hp):Prop where
 s0:ao H0 H0'
 s1:ao H H'
 s2:∀a o,H0' a=some o->H a=none\/H0 a=some o
 s3:ao H0' H'
theorem aG.refl(s:ao H0 H):aG H0 H H0 H:=⟨ao.refl _,ao.refl _,fun _ _ e=>.inr e,s⟩
theorem aG.stp{H0 H H0' H':Hp}(g:aG H0 H H0' H')(O:Addr->Prop):Stp O H0 H H0' H':=
 ⟨g.s0,fun a o e _=>g.s1 a o e,fun a o e=>(g.s2 a o e).imp id .inl,fun a o e=>⟨o,g.s1 a o e⟩⟩
theorem aG.xZ(s:ao H0 H)(n:H p=none):aG H0 H (upd H0 p o) (upd H p o) where
 s0:=fun b u e=>by rw[au (aE e (s.free n))];exact e
 s1:=fun b u e=>by rw[au (aE e n)];exact e
 s2:=fun b u e=>by
  by_cases q:b=p
  ·subst q;exact .inl n
  ·rw[au q]at e;exact .inr e
 s3:=fun b u e=>by
  by_cases q:b=p
  ·subst q;rw[aq]at e ⊢;exact e
  ·rw[au q]at e ⊢;exact s _ _ e
theorem aG.jr(s:ao H0 H)(n:H p=none):aG H0 H H0 (upd H p o) where
 s0:=ao.refl _
 s1:=fun b u e=>by rw[au (aE e n)];exact e
 s2:=fun b u e=>.inr e
 s3:=fun b u e=>by rw[au (aE (s _ _ e) n)];exact s _ _ e
def d_(Hs H0 H:Hp)(σ:St)(ρ:Dm.Env)(v:V):Dm.Val->Prop
 |.val d=>Rep H0 v d
 |.slot i=>σ[i]?=some (some v)/\Def ρ i
 |.new d=>∃a,v=V.ref a/\Hs a=none/\¬aj σ ρ a/\H0 a=none/\Own H0 H a d
structure ESt(σ:St)(ρ:Dm.Env)(H0 H:Hp)(ρ':Dm.Env)(H0' H':Hp):Prop where
 st:aA H0' H' σ ρ'
 stp:Stp (aj σ ρ) H0 H H0' H'
 own:∀a,aj σ ρ' a->aj σ ρ a
 dfn:∀i,Def ρ i->Def ρ' i
theorem ESt.refl(st:aA H0 H σ ρ):ESt σ ρ H0 H ρ H0 H:=⟨st,Stp.refl _ _ _,fun _ z=>z,fun _ z=>z⟩
theorem ESt.trans{ρ ρ1 ρ2:Dm.Env}{H0 H H1 H' H2 H'':Hp}(t:ESt σ ρ H0 H ρ1 H1 H')(u:ESt σ ρ1 H1 H' ρ2 H2 H''):ESt σ ρ H0 H ρ2 H2 H'':=
 ⟨u.st,t.stp.trans u.stp fun a z=>.inl (t.own a z),fun a z=>t.own a (u.own a z),fun i z=>u.dfn i (t.dfn i z)⟩
theorem aA.grow{H0 H H0' H':Hp}(st:aA H0 H σ ρ)(g:aG H0 H H0' H'):aA H0' H' σ ρ where
 same:=g.s3
 len:=st.len
 sh:=fun i d e=>by obtain⟨v,q,r⟩:=st.sh i d e;exact⟨v,q,r.mono g.s0⟩
 ow:=fun i d e=>by
  obtain⟨a,q,n,w⟩:=st.ow i d e;obtain⟨o,z⟩:=w.some;refine⟨a,q,?_,w.mono g.s0 ((g.s1 a o z).trans z.symm)⟩;cases y:H0' a with
  |none=>rfl
  |some u=>
   rcases g.s2 a u y with k | k
   ·rw[z]at k;cases k
   ·rw[n]at k;cases k
 dis:=st.dis
theorem ESt.grow{H0 H H0' H':Hp}(st:aA H0 H σ ρ)(g:aG H0 H H0' H'):ESt σ ρ H0 H ρ H0' H':=
 ⟨st.grow g,g.stp _,fun _ z=>z,fun _ z=>z⟩
theorem d_.mono{Hs H0 H H0' H':Hp}{ρ ρ':Dm.Env}(r:d_ Hs H0 H σ ρ v x)(t:ESt σ ρ H0 H ρ' H0' H'):d_ Hs H0' H' σ ρ' v x:=by
 cases x with
 |val d=>exact Rep.mono t.stp.s0 r
 |slot i=>exact⟨r.1,t.dfn i r.2⟩
 |new d=>
  obtain⟨a,e,n,no,n0,w⟩:=r;obtain⟨o,z⟩:=w.some;refine⟨a,e,n,fun y=>no (t.own a y),?_,w.mono t.stp.s0 ((t.stp.s1 a o z no).trans z.symm)⟩;cases y:H0' a with
  |none=>rfl
  |some u=>
   rcases t.stp.s2 a u y with k | k | k
   ·rw[z]at k;cases k
   ·rw[n0]at k;cases k
   ·exact absurd k no
theorem d_.early{Hs Hs' H0 H:Hp}(r:d_ Hs H0 H σ ρ v x)(k:∀a,Hs a=none->Hs' a=none):d_ Hs' H0 H σ ρ v x:=by
 cases x with
 |val d=>exact r
 |slot i=>exact r
 |new d=>obtain⟨a,e,n,z⟩:=r;exact⟨a,e,k a n,z⟩
theorem d_.look{Hs H0 H:Hp}(r:d_ Hs H0 H σ ρ v x)(st:aA H0 H σ ρ)(e:Dm.pk ρ x=some d):fO H0 H v d:=by
 cases x with
 |val d'=>cases e;exact .inl r
 |new d'=>cases e;obtain⟨a,e,_,_,_,w⟩:=r;exact .inr ⟨a,e,w⟩
 |slot i=>
  obtain⟨q,_⟩:=r;unfold Dm.pk at e;dsimp only at e;split at e
  ·rename_i d' h;cases e;obtain⟨a,z,_,w⟩:=st.ow i d h;rw[q]at z;cases z;exact .inr ⟨a,rfl,w⟩
  ·rename_i d' h;cases e;obtain⟨u,z,w⟩:=st.sh i d h;rw[q]at z;cases z;exact .inl w
  ·cases e
def pB(Hs H0 H:Hp)(v:V):RV->Prop
 |.val d=>Rep H0 v d
 |.new d=>∃a,v=V.ref a/\Hs a=none/\H0 a=none/\Own H0 H a d
theorem pB.toV{H H0' H' H0:Hp}{z:RV}(r:pB H H0' H' v z)(st:aA H0 H σ ρ):d_ H H0' H' σ ρ v z.aY:=by
 cases z with
 |val d=>exact r
 |new d=>obtain⟨a,e,n,n0,w⟩:=r;refine⟨a,e,n,fun⟨i,d',h1,h2⟩=>?_,n0,w⟩;obtain⟨a',q,_,w'⟩:=st.ow i d' h1;rw[h2]at q;cases q;obtain⟨o,z⟩:=w'.some;rw[n]at z;cases z
def tD(f:FE):TE:=fun σ H Q=>∃H0 ρ x ρ',aA H0 H σ ρ/\f ρ=some (x,ρ')/\∀v H0' H',ESt σ ρ H0 H ρ' H0' H'->d_ H H0' H' σ ρ' v x->Q v H'
def tDT(f:FT):TT:=fun σ H Q=>∃H0 ρ b ρ',aA H0 H σ ρ/\f ρ=some (b,ρ')/\∀H0' H',ESt σ ρ H0 H ρ' H0' H'->Q b H'
inductive cu(Hs H0 H:Hp)(σ:St)(ρ:Dm.Env):List V->List Dm.Val->Prop
 |nil:cu Hs H0 H σ ρ [] []
 |cons {v:V} {x:Dm.Val} {vs:List V} {xs:List Dm.Val}:d_ Hs H0 H σ ρ v x->cu Hs H0 H σ ρ vs xs->cu Hs H0 H σ ρ (v::vs) (x::xs)
def tDA(fs:List FE):TA:=fun σ H Q=>∃H0 ρ xs ρ',aA H0 H σ ρ/\Dm.eAs fs ρ=some (xs,ρ')/\∀vs H0' H',ESt σ ρ H0 H ρ' H0' H'->cu H H0' H' σ ρ' vs xs->Q vs H'
noncomputable abbrev DE(X:Cx)(e:Expr)(f:FE):Prop:=PE X e (tD f)
noncomputable abbrev DT(X:Cx)(e:Expr)(f:FT):Prop:=PT X e (tDT f)
noncomputable abbrev DA(X:Cx)(es:List Expr)(fs:List FE):Prop:=PA X es (tDA fs)
theorem PE.weak{t t':TE}(h:PE X e t)(k:∀σ H Q,t' σ H Q->t σ H Q):PE X e t':=fun sy s σ H Q I q=>h sy s σ H Q I (k σ H Q q)
theorem PT.weak{t t':TT}(h:PT X e t)(k:∀σ H Q,t' σ H Q->t σ H Q):PT X e t':=fun sy s σ H Q I q=>h sy s σ H Q I (k σ H Q q)
theorem PA.weak{es:List Expr}{t t':TA}(h:PA X es t)(k:∀σ H Q,t' σ H Q->t σ H Q):PA X es t':=fun pos sy s σ H Q I q=>h pos sy s σ H Q I (k σ H Q q)
theorem PS.weak{st:Stmt}(h:PS X st t)(k:∀D σ H,t' D σ H->t D σ H):PS X st t':=fun sy s σ H D I q=>h sy s σ H D I (k D σ H q)
theorem PSs.weak{st:List Stmt}(h:PSs X st t)(k:∀D σ H,t' D σ H->t D σ H):PSs X st t':=fun sy s σ H D I q=>h sy s σ H D I (k D σ H q)
theorem bG(s:ao H0 H):ao H0 (shr H0 H a):=fun b o e=>by
 by_cases q:b=a
 ·subst q;rw[b9];exact s _ _ e
 ·rw[fP q];exact e
theorem Own.IC{H0 H0c H:Hp}(h:Own H0 H a d)(b:ao H0 H0c)(s:ao H0c H):Rep (shr H0c H a) (V.ref a) d:=by
 cases d with
 |lst ds=>obtain⟨xs,q,r⟩:=h;exact .lst (.inl (by rw[b9];exact q)) (r.mono (b.trans (bG s)))
 |dct ks ds=>obtain⟨xs,q,k,r⟩:=h;exact .dct (by rw[b9];exact q) k (r.mono (b.trans (bG s)))
 |dcp ks ds=>obtain⟨xs,q,k,r⟩:=h;exact .dcp (by rw[b9];exact q) (k.mono (b.trans (bG s))) (r.mono (b.trans (bG s)))
 |_=>exact MN h
theorem d_.rho{Hs H0 H:Hp}{ρ ρ':Dm.Env}(r:d_ Hs H0 H σ ρ v x)(o:∀a,aj σ ρ' a->aj σ ρ a)(d:∀i,Def ρ i->Def ρ' i):d_ Hs H0 H σ ρ' v x:=by
 cases x with
 |val d=>exact r
 |slot i=>exact⟨r.1,d i r.2⟩
 |new d=>obtain⟨a,e,n,no,z⟩:=r;exact⟨a,e,n,fun y=>no (o a y),z⟩
theorem cu.rho{Hs H0 H:Hp}{ρ ρ':Dm.Env}(o:∀a,aj σ ρ' a->aj σ ρ a)(d:∀i,Def ρ i->Def ρ' i):∀{vs:List V} {xs:List Dm.Val},cu Hs H0 H σ ρ vs xs->cu Hs H0 H σ ρ' vs xs
 |_,_,.nil=>.nil
 |_,_,.cons h r=>.cons (h.rho o d) (cu.rho o d r)
theorem cu.early{Hs Hs' H0 H:Hp}(k:∀a,Hs a=none->Hs' a=none):∀{vs:List V} {xs:List Dm.Val},cu Hs H0 H σ ρ vs xs->cu Hs' H0 H σ ρ vs xs
 |_,_,.nil=>.nil
 |_,_,.cons h r=>.cons (h.early k) (cu.early k r)
theorem aI{i j:Nat}{c d:Dm.Cell}(h:(ρ.set i c)[j]?=some d):(j=i/\d=c)\/(j≠i/\ρ[j]?=some d):=by
 by_cases e:j=i
 ·subst e;by_cases l:j<ρ.length
  ·rw[My l]at h;exact .inl ⟨rfl,(Option.some.inj h).symm⟩
  ·rw[MS (by simpa using NR.mp l)]at h;cases h
 ·rw[gV (Ne.symm e)]at h;exact .inr ⟨e,h⟩
theorem rN{i:Nat}(st:aA H0 H σ ρ)(e:ρ[i]?=some (.ow d))(q:σ[i]?=some (some (V.ref a))) :
  aA (shr H0 H a) H σ (ρ.set i (.sh d))/\(∀b,aj σ (ρ.set i (.sh d)) b->aj σ ρ b)/\∀j,Def ρ j->Def (ρ.set i (.sh d)) j:=by
 obtain⟨a',q',n,w⟩:=st.ow i d e;rw[q]at q';cases q';have hil:i<ρ.length:=(Me.mp e).1;refine⟨⟨tZ st.same,by rw[MK];exact st.len,fun j d' h=>?_,fun j d' h=>?_,fun j k d1 d2 b h1 h2 h3 h4=>?_⟩,fun b ⟨j,d',h1,h2⟩=>?_,fun j h=>?_⟩
 ·rcases aI h with⟨rfl,z⟩ | ⟨_,h⟩
  ·cases z;exact⟨_,q,w.rep n⟩
  ·obtain⟨v,z,r⟩:=st.sh j d' h;exact⟨v,z,r.mono (cW n)⟩
 ·rcases aI h with⟨_,z⟩ | ⟨hj,h⟩
  ·cases z
  ·obtain⟨b,z,n',w'⟩:=st.ow j d' h;have nb:b≠a:=fun y=>hj (st.dis j i d' d a h e (y▸z) q);exact⟨b,z,by rw[fP nb];exact n',w'.mono (cW n) rfl⟩
 ·rcases aI h1 with⟨_,z⟩ | ⟨_,h1⟩
  ·cases z
  ·rcases aI h2 with⟨_,z⟩ | ⟨_,h2⟩
   ·cases z
   ·exact st.dis j k d1 d2 b h1 h2 h3 h4
 ·rcases aI h1 with⟨_,z⟩ | ⟨_,h1⟩
  ·cases z
  ·exact⟨j,d',h1,h2⟩
 ·trivial
theorem vO(st:aA H0 H σ ρ)(no:¬aj σ ρ a):aA (shr H0 H a) H σ ρ where
 same:=tZ st.same
 len:=st.len
 sh:=fun j d h=>by obtain⟨v,z,r⟩:=st.sh j d h;exact⟨v,z,r.mono (bG st.same)⟩
 ow:=fun j d h=>by obtain⟨b,z,n',w'⟩:=st.ow j d h;have nb:b≠a:=fun y=>no ⟨j,d,h,y▸z⟩;exact⟨b,z,by rw[fP nb];exact n',w'.mono (bG st.same) rfl⟩
 dis:=st.dis
theorem take1{Hs H0s H0 H0c H:Hp}{ρs ρ ρ':Dm.Env}(t:ESt σ ρs H0s Hs ρ H0c H)(b:ao H0 H0c)(r:d_ Hs H0 H σ ρ v x)(e:Dm.tk ρ x=some (d,ρ')) :
  ∃jM,ESt σ ρs H0s Hs ρ' jM H/\ao H0c jM/\Rep jM v d/\(∀a,aj σ ρ' a->aj σ ρ a)/\∀i,Def ρ i->Def ρ' i:=by
 cases x with
 |val d'=>cases e;exact⟨H0c,t,ao.refl _,Rep.mono b r,fun _ z=>z,fun _ z=>z⟩
 |new d'=>
  cases e;obtain⟨a,e,n,no,n0,w⟩:=r;subst e;have ss:=bG (a:=a) t.st.same;refine⟨shr H0c H a,⟨vO t.st no,⟨t.stp.s0.trans ss,t.stp.s1,fun c o q=>?_,t.stp.s3⟩,t.own,t.dfn⟩,ss,w.IC b t.st.same,fun _ z=>z,fun _ z=>z⟩;by_cases y:c=a
  ·subst y;exact .inl n
  ·rw[fP y]at q;exact t.stp.s2 c o q
 |slot i=>
  obtain⟨q,_⟩:=r;unfold Dm.tk at e;dsimp only at e;split at e
  ·rename_i d' h;cases e;obtain⟨a,z,n,w⟩:=t.st.ow i _ h;rw[q]at z;cases z;obtain⟨s1,s2,s3⟩:=rN t.st h q;have ss:=bG (a:=a) t.st.same;refine⟨shr H0c H a,⟨s1,⟨t.stp.s0.trans ss,t.stp.s1,fun c o q'=>?_,t.stp.s3⟩,fun b z=>t.own b (s2 b z),fun j z=>s3 j (t.dfn j z)⟩,ss,w.IC (ao.refl _) t.st.same,s2,s3⟩;by_cases y:c=a
   ·subst y;exact .inr (.inr (t.own c ⟨i,_,h,q⟩))
   ·rw[fP y]at q';exact t.stp.s2 c o q'
  ·rename_i d' h;cases e;obtain⟨u,z,w⟩:=t.st.sh i _ h;rw[q]at z;cases z;exact⟨H0c,t,ao.refl _,w,fun _ z=>z,fun _ z=>z⟩
  ·cases e
theorem takes{Hs H0s H0 H:Hp}{ρs:Dm.Env}:∀{xs:List Dm.Val} {vs:List V} {ρ ρ':Dm.Env} {ds:List Dat} {H0c:Hp},ESt σ ρs H0s Hs ρ H0c H->ao H0 H0c->cu Hs H0 H σ ρ vs xs->Dm.tks ρ xs=some (ds,ρ') ->
  ∃jM,ESt σ ρs H0s Hs ρ' jM H/\ao H0c jM/\ay jM vs ds
 |[],_,ρ,ρ',ds,H0c,t,b,r,e=>by cases r;cases e;exact⟨H0c,t,ao.refl _,.nil⟩
 |x::xs,_,ρ,ρ',ds,H0c,t,b,r,e=>by
  cases r with
  |cons h r=>
   unfold Dm.tks at e;split at e
   ·cases e
   ·rename_i d ρ1 e1;split at e
    ·cases e
    ·rename_i ds' ρ2 e2;cases e;obtain⟨H1,t1,b1,r1,o1,d1⟩:=take1 t b h e1;obtain⟨H2,t2,b2,r2⟩:=takes t1 (b.trans b1) (r.rho o1 d1) e2;exact⟨H2,t2,b1.trans b2,.cons (r1.mono b2) r2⟩
theorem ID{ρ ρ':Dm.Env}(e:Dm.tk ρ x=some (d,ρ'))(y:Dm.Val):Dm.pk ρ' y=Dm.pk ρ y:=by
 cases x with
 |val d'=>cases e;rfl
 |new d'=>cases e;rfl
 |slot i=>
  unfold Dm.tk at e;dsimp only at e;split at e
  ·rename_i d' h;cases e;cases y with
   |val _=>rfl
   |new _=>rfl
   |slot j=>
    unfold Dm.pk;dsimp only;by_cases z:j=i
    ·subst z;rw[My (Me.mp h).1,h]
    ·rw[gV (Ne.symm z)]
  ·cases e;rfl
  ·cases e
theorem x6(e:Dm.pk ρ x=some d):∃ρ',Dm.tk ρ x=some (d,ρ'):=by
 cases x with
 |val d'=>cases e;exact⟨ρ,rfl⟩
 |new d'=>cases e;exact⟨ρ,rfl⟩
 |slot i=>
  unfold Dm.pk at e;dsimp only at e;unfold Dm.tk;dsimp only;split at e
  ·rename_i d' h;cases e;exact⟨_,rfl⟩
  ·rename_i d' h;cases e;exact⟨_,rfl⟩
  ·cases e
theorem jN:∀{xs:List Dm.Val} {ρ:Dm.Env} {ds:List Dat},Dm.pks ρ xs=some ds->∃ρ',Dm.tks ρ xs=some (ds,ρ')
 |[],ρ,ds,e=>by cases e;exact⟨ρ,rfl⟩
 |x::xs,ρ,ds,e=>by
  unfold Dm.pks at e;split at e
  ·cases e
  ·rename_i d e1;split at e
   ·cases e
   ·rename_i ds' e2;cases e;obtain⟨ρ1,h1⟩:=x6 e1;have key:∀ys:List Dm.Val,Dm.pks ρ1 ys=Dm.pks ρ ys:=fun ys=>by
     induction ys with
     |nil=>rfl
     |cons y ys ih=>unfold Dm.pks;rw[ID h1 y,ih]
    obtain⟨ρ2,h2⟩:=jN (xs:=xs) (ρ:=ρ1) (ds:=ds') (by rw[key];exact e2);exact⟨ρ2,by unfold Dm.tks;rw[h1];dsimp only;rw[h2]⟩
theorem looks{Hs H0 H:Hp}(st:aA H0 H σ ρ):∀{xs:List Dm.Val} {vs:List V} {ds:List Dat},cu Hs H0 H σ ρ vs xs->Dm.pks ρ xs=some ds->pA H0 H vs ds
 |[],_,ds,r,e=>by cases r;cases e;exact .nil
 |x::xs,_,ds,r,e=>by
  cases r with
  |cons h r=>
   unfold Dm.pks at e;split at e
   ·cases e
   ·rename_i d e1;split at e
    ·cases e
    ·rename_i ds' e2;cases e;exact .cons (h.look st e1) (looks st r e2)
def OpD(r:R2)(g:Dat->Dat->Option RV):Prop:=∀(H0 H:Hp) (x y:V) (dx dy:Dat) (z:RV) (Q:VK),ao H0 H->fO H0 H x dx->fO H0 H y dy->g dx dy=some z ->
 (∀v H0' H',aG H0 H H0' H'->pB H H0' H' v z->Q v H')->r x y H Q
def UnD(r:V->Hp->VK->Prop)(g:Dat->Option RV):Prop:=∀(H0 H:Hp) (x:V) (dx:Dat) (z:RV) (Q:VK),ao H0 H->fO H0 H x dx->g dx=some z ->
 (∀v H0' H',aG H0 H H0' H'->pB H H0' H' v z->Q v H')->r x H Q
def CallD(r:List V->Hp->VK->Prop)(g:List Dat->Option RV):Prop:=∀(H0 H:Hp) (vs:List V) (ds:List Dat) (z:RV) (Q:VK),ao H0 H->pA H0 H vs ds->g ds=some z ->
 (∀v H0' H',aG H0 H H0' H'->pB H H0' H' v z->Q v H')->r vs H Q
def spD(f:List Dat->Option RV):Sp:=fun vs H Q _=>∃H0 ds z,ao H0 H/\ay H0 vs ds/\f ds=some z/\∀v H0' H',aG H0 H H0' H'->pB H H0' H' v z->Q v H'
end
section
variable{σ:St}{H:Hp}{Q:VK}
section
variable{fs:List FE}{d:Dat}{a b:FE}{t u:FT}{v:V}{H0:Hp}
theorem IE{i:Nat}(h:tD (Dm.eV i) σ H Q):nv i σ H Q:=by
 obtain⟨H0,ρ,x,ρ',st,e,k⟩:=h;unfold Dm.eV at e;split at e
 ·rename_i d h1;cases e;obtain⟨v,q,r⟩:=st.sh i d h1;exact⟨v,q,k v H0 H (.refl st) r⟩
 ·rename_i d h1;cases e;obtain⟨a,q,_⟩:=st.ow i d h1;exact⟨_,q,k _ H0 H (.refl st) ⟨q,trivial⟩⟩
 ·cases e
theorem gZ(c:∀H0:Hp,Rep H0 v d)(h:tD (Dm.eC d) σ H Q):tC v σ H Q:=by obtain⟨H0,ρ,x,ρ',st,e,k⟩:=h;cases e;exact k v H0 H (.refl st) (c H0)
theorem pC{r:R2}{g:Dat->Dat->Option RV}{fa fb:FE}(o:OpD r g)(h:tD (Dm.e2 g fa fb) σ H Q):tOp r (tD fa) (tD fb) σ H Q:=by
 obtain⟨H0,ρ,x,ρ',st,e,k⟩:=h;unfold Dm.e2 at e;split at e
 ·cases e
 rename_i x1 ρ1 e1;split at e
 ·cases e
 rename_i y1 ρ2 e2;split at e
 ·cases e
 rename_i dx p1;split at e
 ·cases e
 rename_i dy p2;split at e
 ·cases e
 rename_i z gz;cases e;refine⟨H0,ρ,x1,ρ1,st,e1,fun v H1 Hb t1 r1=>⟨H1,ρ1,y1,_,t1.st,e2,fun u H2 Hc t2 r2=>?_⟩⟩;refine o H2 Hc v u dx dy z Q t2.st.same ((r1.mono t2).look t2.st p1) (r2.look t2.st p2) gz fun w H3 Hd g3 r3=>?_;exact k w H3 Hd (t1.trans (t2.trans (.grow t2.st g3))) ((r3.toV t2.st).early fun a n=>(t1.trans t2).stp.gone n)
theorem Lg{r:V->Hp->VK->Prop}{g:Dat->Option RV}{fa:FE}(o:UnD r g)(h:tD (Dm.e1 g fa) σ H Q):tUn r (tD fa) σ H Q:=by
 obtain⟨H0,ρ,x,ρ',st,e,k⟩:=h;unfold Dm.e1 at e;split at e
 ·cases e
 rename_i x1 ρ1 e1;split at e
 ·cases e
 rename_i dx p1;split at e
 ·cases e
 rename_i z gz;cases e;refine⟨H0,ρ,x1,_,st,e1,fun v H1 Hb t1 r1=>?_⟩;refine o H1 Hb v dx z Q t1.st.same (r1.look t1.st p1) gz fun w H3 Hd g3 r3=>?_;exact k w H3 Hd (t1.trans (.grow t1.st g3)) ((r3.toV t1.st).early fun a n=>t1.stp.gone n)
theorem IF{Q:List V->Hp->Prop}(h:tDA [] σ H Q):xy σ H Q:=by obtain⟨H0,ρ,xs,ρ',st,e,k⟩:=h;cases e;exact k [] H0 H (.refl st) .nil
theorem Fo{f:FE}{Q:List V->Hp->Prop}(h:tDA (f::fs) σ H Q):tO (tD f) (tDA fs) σ H Q:=by
 obtain⟨H0,ρ,xs,ρ',st,e,k⟩:=h;unfold Dm.eAs at e;split at e
 ·cases e
 rename_i x1 ρ1 e1;split at e
 ·cases e
 rename_i xs1 ρ2 e2;cases e;refine⟨H0,ρ,x1,ρ1,st,e1,fun v H1 Hb t1 r1=>⟨H1,ρ1,xs1,_,t1.st,e2,fun vs H2 Hc t2 r2=>?_⟩⟩;exact k (v::vs) H2 Hc (t1.trans t2) (.cons (r1.mono t2) (r2.early fun a n=>t1.stp.gone n))
theorem Fp{r:List V->Hp->VK->Prop}{g:List Dat->Option RV}(o:CallD r g)(h:tD (Dm.eB g fs) σ H Q):tCB r (tDA fs) σ H Q:=by
 obtain⟨H0,ρ,x,ρ',st,e,k⟩:=h;unfold Dm.eB at e;split at e
 ·cases e
 rename_i xs ρ1 e1;split at e
 ·cases e
 rename_i ds p1;split at e
 ·cases e
 rename_i z gz;cases e;refine⟨H0,ρ,xs,_,st,e1,fun vs H1 Hb t1 r1=>?_⟩;refine o H1 Hb vs ds z Q t1.st.same (looks t1.st r1 p1) gz fun w H3 Hd g3 r3=>?_;exact k w H3 Hd (t1.trans (.grow t1.st g3)) ((r3.toV t1.st).early fun a n=>t1.stp.gone n)
theorem g7{n:Nat}(h:n<=Dm.SZ):n<=sizeLine:=ML h (by decide)
theorem IG(h:tD (Dm.cA fs) σ H Q):Ip (tDA fs) σ H Q:=by
 obtain⟨H0,ρ,x,ρ',st,e,k⟩:=h;unfold Dm.cA at e;split at e
 ·cases e
 rename_i xs ρ1 e1;split at e
 ·cases e
 rename_i ds ρ2 e2;split at e
 ·rename_i hz;cases e;refine⟨H0,ρ,xs,ρ1,st,e1,fun vs H1 Hb t1 r1=>?_⟩;obtain⟨H2,t2,b2,r2⟩:=takes t1 (ao.refl _) r1 e2;refine⟨by rw[r2.length];exact g7 hz,fun p hp=>?_⟩;have g:=aG.xZ (o:=HO.tup vs) t2.st.same hp;exact k _ _ _ (t2.trans (.grow t2.st g)) (.tup aq (r2.mono g.s0))
 ·cases e
theorem II(h:tD (Dm.dU fs) σ H Q):Bf (tDA fs) σ H Q:=by
 obtain⟨H0,ρ,x,ρ',st,e,k⟩:=h;unfold Dm.dU at e;split at e
 ·cases e
 rename_i xs ρ1 e1;split at e
 ·cases e
 rename_i ds ρ2 e2;split at e
 ·rename_i hz;cases e;refine⟨H0,ρ,xs,ρ1,st,e1,fun vs H1 Hb t1 r1=>?_⟩;obtain⟨H2,t2,b2,r2⟩:=takes t1 (ao.refl _) r1 e2;refine⟨by rw[r2.length];exact g7 hz,fun p hp=>?_⟩;have g:=aG.jr (o:=HO.lst vs) t2.st.same hp;refine k _ _ _ (t2.trans (.grow t2.st g)) ⟨p,rfl,t2.stp.gone hp,fun⟨i,d,h1,h2⟩=>?_,t2.st.same.free hp,vs,aq,r2⟩;obtain⟨a,q,_,w⟩:=t2.st.ow i d h1;rw[h2]at q;cases q;obtain⟨o,z⟩:=w.some;rw[hp]at z;cases z
 ·cases e
theorem Rep.plain{H0 H1:Hp}(r:Rep H0 v d)(n:Dm.dO d=false):Rep H1 v d:=by
 cases r with
 |non=>exact .non
 |bl b=>exact .bl b
 |int i=>exact .int i
 |str s=>exact .str s
 |tup _ _=>cases n
 |lst _ _=>cases n
 |dct _ _ _=>cases n
 |dcp _ _ _=>cases n
 |exc _=>cases n
 |fn a=>exact .fn a
theorem Own.box{H0 H:Hp}{a:Addr}(w:Own H0 H a d):Dm.dO d=true:=by
 cases d with
 |lst ds=>rfl
 |dct ks ds=>rfl
 |dcp ks ds=>rfl
 |_=>exact MN w
theorem Fq{f:List Dat->Option RV}{E:XK}(h:tD (Dm.eF f fs) σ H Q):oY (spD f) [] E (tDA fs) σ H Q:=by
 obtain⟨H0,ρ,x,ρ',st,e,k⟩:=h;unfold Dm.eF at e;split at e
 ·cases e
 rename_i xs ρ1 e1;split at e
 ·cases e
 rename_i ds p1;split at e
 ·cases e
 rename_i z fz;refine⟨H0,ρ,xs,ρ1,st,e1,fun vs H1 Hb t1 r1=>?_⟩;dsimp only;rw[Nb];obtain⟨ρ2,e2⟩:=jN p1;obtain⟨H2,t2,b2,r2⟩:=takes t1 (ao.refl _) r1 e2;split at e
 ·rw[e2]at e;cases e;exact⟨H2,ds,z,t2.st.same,r2,fz,fun w H3 Hd g3 r3=>k w H3 Hd (t2.trans (.grow t2.st g3)) ((r3.toV t2.st).early fun a n=>t2.stp.gone n)⟩
 ·rename_i nb;cases e;refine⟨H2,ds,z,t2.st.same,r2,fz,fun w H3 Hd g3 r3=>?_⟩;have g:aG H1 Hb H1 Hd:=⟨ao.refl _,g3.s1,fun a o q=>.inr q,t1.st.same.trans g3.s1⟩
  refine k w H1 Hd (t1.trans (.grow t1.st g)) ?_;cases z with
  |val d=>exact Rep.plain r3 (by simpa [RV.dat] using nb)
  |new d=>obtain⟨a,_,_,_,w⟩:=r3;exact absurd w.box (by simpa [RV.dat] using nb)
theorem Lh{t:FT}(h:tD (Dm.eIf t a b) σ H Q):tIf (tDT t) (tD a) (tD b) σ H Q:=by
 obtain⟨H0,ρ,x,ρ',st,e,k⟩:=h;unfold Dm.eIf at e;split at e
 ·cases e
 ·rename_i ρ1 e1;refine⟨H0,ρ,true,ρ1,st,e1,fun H1 Hb t1=>?_⟩;dsimp only;rw[if_pos rfl];exact⟨H1,ρ1,x,ρ',t1.st,e,fun v H2 Hc t2 r2=>k v H2 Hc (t1.trans t2) (r2.early fun a n=>t1.stp.gone n)⟩
 ·rename_i ρ1 e1;refine⟨H0,ρ,false,ρ1,st,e1,fun H1 Hb t1=>?_⟩;dsimp only;rw[if_neg Mz];exact⟨H1,ρ1,x,ρ',t1.st,e,fun v H2 Hc t2 r2=>k v H2 Hc (t1.trans t2) (r2.early fun a n=>t1.stp.gone n)⟩
theorem Rep.nK{c:Bool}(r:Rep H0 v (.bl c)):v=.bl c:=by cases r;rfl
theorem Rep.isInt{c:Int}(r:Rep H0 v (.int c)):v=.int c:=by cases r;rfl
theorem IJ(h:tD (Dm.gW a b) σ H Q):C2 (tD a) (tD b) σ H Q:=by
 obtain⟨H0,ρ,x,ρ',st,e,k⟩:=h;unfold Dm.gW at e;split at e
 ·rename_i ρ1 e1;refine⟨H0,ρ,_,_,st,e1,fun v H1 Hb t1 r1=>⟨true,Rep.nK r1,?_⟩⟩
  try dsimp only
  rw[if_pos rfl];exact⟨H1,ρ1,x,ρ',t1.st,e,fun v H2 Hc t2 r2=>k v H2 Hc (t1.trans t2) (r2.early fun a n=>t1.stp.gone n)⟩
 ·rename_i ρ1 e1;cases e;refine⟨H0,ρ,_,_,st,e1,fun v H1 Hb t1 r1=>⟨false,Rep.nK r1,?_⟩⟩
  try dsimp only
  rw[if_neg Mz];exact k _ H1 Hb t1 (Rep.bl false)
 ·cases e
theorem IK{a:FE}(h:tD (Dm.vL a) σ H Q):C3 (tD a) σ H Q:=by
 obtain⟨H0,ρ,x,ρ',st,e,k⟩:=h;unfold Dm.vL at e;split at e
 ·rename_i c ρ1 e1;cases e;exact⟨H0,ρ,_,_,st,e1,fun v H1 Hb t1 r1=>⟨c,Rep.nK r1,k _ H1 Hb t1 (Rep.bl (!c))⟩⟩
 ·cases e
variable{Qt:Bool->Hp->Prop}
theorem nM{a:FE}(h:tDT (Dm.tV a) σ H Qt):C_ (tD a) σ H Qt:=by
 obtain⟨H0,ρ,x,ρ',st,e,k⟩:=h;unfold Dm.tV at e;split at e
 ·rename_i c ρ1 e1;cases e;exact⟨H0,ρ,_,_,st,e1,fun v H1 Hb t1 r1=>⟨_,Rep.nK r1,k H1 Hb t1⟩⟩
 ·cases e
theorem Ft{t:FT}(h:tDT (Dm.cR t) σ H Qt):cR (tDT t) σ H Qt:=by
 obtain⟨H0,ρ,x,ρ',st,e,k⟩:=h;unfold Dm.cR at e;split at e
 ·rename_i c ρ1 e1;cases e;exact⟨H0,ρ,_,_,st,e1,fun H1 Hb t1=>k H1 Hb t1⟩
 ·cases e
theorem Fv(h:tDT (Dm.jD t u) σ H Qt):jD (tDT t) (tDT u) σ H Qt:=by
 obtain⟨H0,ρ,x,ρ',st,e,k⟩:=h;unfold Dm.jD at e;split at e
 ·rename_i ρ1 e1;refine⟨H0,ρ,_,ρ1,st,e1,fun H1 Hb t1=>?_⟩;dsimp only;rw[if_pos rfl];exact⟨H1,ρ1,x,ρ',t1.st,e,fun H2 Hc t2=>k H2 Hc (t1.trans t2)⟩
 ·rename_i ρ1 e1;cases e;refine⟨H0,ρ,_,_,st,e1,fun H1 Hb t1=>?_⟩;dsimp only;rw[if_neg Mz];exact k H1 Hb t1
 ·cases e
theorem IL(h:tDT (Dm.tOr t u) σ H Qt):tOr (tDT t) (tDT u) σ H Qt:=by
 obtain⟨H0,ρ,x,ρ',st,e,k⟩:=h;unfold Dm.tOr at e;split at e
 ·rename_i ρ1 e1;cases e;refine⟨H0,ρ,_,_,st,e1,fun H1 Hb t1=>?_⟩;dsimp only;rw[if_pos rfl];exact k H1 Hb t1
 ·rename_i ρ1 e1;refine⟨H0,ρ,_,ρ1,st,e1,fun H1 Hb t1=>?_⟩;dsimp only;rw[if_neg Mz];exact⟨H1,ρ1,x,ρ',t1.st,e,fun H2 Hc t2=>k H2 Hc (t1.trans t2)⟩
 ·cases e
end
end
section
variable{ρ:Dm.Env}{H0 H:Hp}{σ:L2.St}
structure SSt(σ:St)(ρ:Dm.Env)(H0 H:Hp)(σ':St)(ρ':Dm.Env)(H0' H':Hp):Prop where
 st:aA H0' H' σ' ρ'
 stp:Stp (aj σ ρ) H0 H H0' H'
 own:∀a,aj σ' ρ' a->aj σ ρ a\/H a=none
 fx:σ'[0]?=σ[0]?
theorem ESt.sst{σ:St}{ρ ρ':Dm.Env}{H0 H H0' H':Hp}(t:ESt σ ρ H0 H ρ' H0' H'):SSt σ ρ H0 H σ ρ' H0' H':=⟨t.st,t.stp,fun a z=>.inl (t.own a z),rfl⟩
theorem SSt.refl{σ:St}(st:aA H0 H σ ρ):SSt σ ρ H0 H σ ρ H0 H:=(ESt.refl st).sst
theorem SSt.trans{σ σ1 σ2:St}{ρ ρ1 ρ2:Dm.Env}{H0 H H1 H' H2 H'':Hp}(t:SSt σ ρ H0 H σ1 ρ1 H1 H')(u:SSt σ1 ρ1 H1 H' σ2 ρ2 H2 H''):SSt σ ρ H0 H σ2 ρ2 H2 H'':=
 ⟨u.st,t.stp.trans u.stp t.own,fun a z=>(u.own a z).elim (t.own a) fun n=>.inr (t.stp.gone n),u.fx.trans t.fx⟩
def IM(σ:St)(ρ:Dm.Env)(H H0' H':Hp)(v:V):RV->Prop
 |.val d=>Rep H0' v d
 |.new d=>∃a,v=V.ref a/\(H a=none\/aj σ ρ a)/\H0' a=none/\Own H0' H' a d
def mF(D:Ends)(σ:St)(ρ:Dm.Env)(H0 H:Hp):Dm.Out->Prop
 |.nx ρ'=>∀σ' H0' H',SSt σ ρ H0 H σ' ρ' H0' H'->D.nx σ' H'
 |.bk ρ'=>∀σ' H0' H',SSt σ ρ H0 H σ' ρ' H0' H'->D.bk σ' H'
 |.ct ρ'=>∀σ' H0' H',SSt σ ρ H0 H σ' ρ' H0' H'->D.ct σ' H'
 |.ret z ρ'=>∀σ' v H0' H',SSt σ ρ H0 H σ' ρ' H0' H'->IM σ ρ H H0' H' v z->(∀d a,z=.new d->v=.ref a->¬aj σ' ρ' a)->D.rt v H'
def tDS(g:FS):TS:=fun D σ H=>∃H0 ρ o,aA H0 H σ ρ/\g ρ=some o/\mF D σ ρ H0 H o
theorem mF.pre{D:Ends}{σ σ1:St}{ρ ρ1:Dm.Env}{H0 H H1 H':Hp}{o:Dm.Out}(t:SSt σ ρ H0 H σ1 ρ1 H1 H')(k:mF D σ ρ H0 H o):mF D σ1 ρ1 H1 H' o:=by
 cases o with
 |nx ρ'=>exact fun σ' H0' H' u=>k σ' H0' H' (t.trans u)
 |bk ρ'=>exact fun σ' H0' H' u=>k σ' H0' H' (t.trans u)
 |ct ρ'=>exact fun σ' H0' H' u=>k σ' H0' H' (t.trans u)
 |ret z ρ'=>
  refine fun σ' v H0' H'' u r no=>k σ' v H0' H'' (t.trans u) ?_ no;cases z with
  |val d=>exact r
  |new d=>
   obtain⟨a,e,n,n0,w⟩:=r;refine⟨a,e,?_,n0,w⟩;rcases n with n | n
   ·exact .inl (t.stp.gone n)
   ·exact(t.own a n).symm
theorem aA.mask(st:aA H0 H σ ρ)(i:Nat):aA H0 H σ (ρ.set i .un) where
 same:=st.same
 len:=by rw[MK];exact st.len
 sh:=fun j d h=>by
  by_cases q:i=j
  ·subst q;rw[NL]at h;simp only[if_true]at h;split at h<;>cases h
  ·rw[gV q]at h;exact st.sh j d h
 ow:=fun j d h=>by
  by_cases q:i=j
  ·subst q;rw[NL]at h;simp only[if_true]at h;split at h<;>cases h
  ·rw[gV q]at h;exact st.ow j d h
 dis:=fun j j' d d' a h1 h2 h3 h4=>by
  by_cases q:i=j
  ·subst q;rw[NL]at h1;simp only[if_true]at h1;split at h1<;>cases h1
  ·by_cases q':i=j'
   ·subst q';rw[NL]at h2;simp only[if_true]at h2;split at h2<;>cases h2
   ·rw[gV q]at h1;rw[gV q']at h2;exact st.dis j j' d d' a h1 h2 h3 h4
theorem bY{i:Nat}{a:Addr}(h:aj σ (ρ.set i .un) a):∃(j:Nat) (d:Dat),j≠i/\ρ[j]?=some (Dm.Cell.ow d)/\σ[j]?=some (some (V.ref a)):=by
 obtain⟨j,d,h1,h2⟩:=h;by_cases q:i=j
 ·subst q;rw[NL]at h1;simp only[if_true]at h1;split at h1<;>cases h1
 ·rw[gV q]at h1;exact⟨j,d,fun z=>q z.symm,h1,h2⟩
end
section
variable{D:Ends}{σ:St}{H:Hp}
theorem Li(h:tDS Dm.sNx D σ H):wX D σ H:=by obtain⟨H0,ρ,o,st,e,k⟩:=h;cases e;exact k σ H0 H (.refl st)
theorem IP{s u:FS}(h:tDS (Dm.aC s u) D σ H):vh (tDS s) (tDS u) D σ H:=by
 obtain⟨H0,ρ,o,st,e,k⟩:=h;unfold Dm.aC at e;split at e
 ·rename_i ρ1 e1;exact⟨H0,ρ,.nx ρ1,st,e1,fun σ' H0' H' t=>⟨H0',ρ1,o,t.st,e,k.pre t⟩⟩
 ·rename_i h1;cases o with
  |nx ρ1=>exact absurd e (h1 ρ1)
  |bk ρ1=>exact⟨H0,ρ,_,st,e,k⟩
  |ct ρ1=>exact⟨H0,ρ,_,st,e,k⟩
  |ret z ρ1=>exact⟨H0,ρ,_,st,e,k⟩
theorem Fw{f:FE}(h:tDS (Dm.sE f) D σ H):tM (tD f) D σ H:=by
 obtain⟨H0,ρ,o,st,e,k⟩:=h;unfold Dm.sE at e;split at e
 ·cases e
 ·rename_i x ρ1 e1;cases e;exact⟨H0,ρ,x,ρ1,st,e1,fun v H0' H' t r=>k σ H0' H' t.sst⟩
theorem IQ{f:FE}(h:tDS (Dm.sR f) D σ H):Ie (tD f) D σ H:=by
 obtain⟨H0,ρ,o,st,e,k⟩:=h;unfold Dm.sR at e;split at e
 ·cases e
 ·rename_i d ρ1 e1;cases e;refine⟨H0,ρ,_,ρ1,st,e1,fun v H0' H' t r=>?_⟩;obtain⟨a,e,n,no,n0,w⟩:=r;exact k σ v H0' H' t.sst ⟨a,e,.inl n,n0,w⟩ fun d' a' _ e' z=>by rw[e]at e';cases e';exact no z
 ·rename_i d ρ1 e1;cases e;exact⟨H0,ρ,_,ρ1,st,e1,fun v H0' H' t r=>k σ v H0' H' t.sst r fun d' a' z=>by cases z⟩
 ·rename_i i ρ1 e1;split at e
  ·rename_i d h1;cases e;refine⟨H0,ρ,_,ρ1,st,e1,fun v H0' H' t r=>?_⟩;obtain⟨q,_⟩:=r;obtain⟨a,q',n0,w⟩:=t.st.ow i d h1;rw[q]at q';cases q';refine k σ _ H0' H' ⟨t.st.mask i,t.stp,fun b z=>?_,rfl⟩ ⟨a,rfl,.inr (t.own a ⟨i,d,h1,q⟩),n0,w⟩ fun d' a' _ e' z=>?_
   ·obtain⟨j,d2,_,z1,z2⟩:=bY z;exact .inl (t.own b ⟨j,d2,z1,z2⟩)
   ·cases e';obtain⟨j,d2,hj,z1,z2⟩:=bY z;exact hj (t.st.dis j i d2 d a z1 h1 z2 q)
  ·rename_i d h1;cases e;refine⟨H0,ρ,_,ρ1,st,e1,fun v H0' H' t r=>?_⟩;obtain⟨q,_⟩:=r;obtain⟨u,q',w⟩:=t.st.sh i d h1;rw[q]at q';cases q';exact k σ _ H0' H' t.sst w fun d' a' z=>by cases z
  ·cases e
theorem IS{t:FT}{a b:FS}(h:tDS (Dm.sIf t a b) D σ H):EL (tDT t) (tDS a) (tDS b) D σ H:=by
 obtain⟨H0,ρ,o,st,e,k⟩:=h;unfold Dm.sIf at e;split at e
 ·cases e
 ·rename_i ρ1 e1;refine⟨H0,ρ,true,ρ1,st,e1,fun H1 Hb t1=>?_⟩;dsimp only;rw[if_pos rfl];exact⟨H1,ρ1,o,t1.st,e,k.pre t1.sst⟩
 ·rename_i ρ1 e1;refine⟨H0,ρ,false,ρ1,st,e1,fun H1 Hb t1=>?_⟩;dsimp only;rw[if_neg Mz];exact⟨H1,ρ1,o,t1.st,e,k.pre t1.sst⟩
end
section
variable{ρ:Dm.Env}{σ:St}{i:Nat}{H0 H:Hp}{d:Dat}{a:Addr}{b:Addr}{o:HO}{v:V}
theorem ee{i j:Nat}{c d:Option V}(h:(σ.set i c)[j]?=some d):(j=i/\d=c)\/(j≠i/\σ[j]?=some d):=by
 by_cases e:j=i
 ·subst e;by_cases l:j<σ.length
  ·rw[My l]at h;exact .inl ⟨rfl,(Option.some.inj h).symm⟩
  ·rw[MS (by simpa using NR.mp l)]at h;cases h
 ·rw[gV (Ne.symm e)]at h;exact .inr ⟨e,h⟩
theorem aA.inσ{c d:Dm.Cell}(st:aA H0 H σ ρ)(h:(ρ.set i c)[i]?=some d):i<σ.length:=by have:=(Me.mp h).1;rw[MK]at this;rw[st.len];exact this
theorem di(h:aj (σ.set i (some v)) (ρ.set i (.sh d)) b):aj σ ρ b:=by
 obtain⟨j,d',h1,h2⟩:=h;rcases aI h1 with⟨_,z⟩ | ⟨hj,h1⟩
 ·cases z
 ·rcases ee h2 with⟨z,_⟩ | ⟨_,h2⟩
  ·exact absurd z hj
  ·exact⟨j,d',h1,h2⟩
theorem aA.rO(st:aA H0 H σ ρ)(r:Rep H0 v d):aA H0 H (σ.set i (some v)) (ρ.set i (.sh d)) where
 same:=st.same
 len:=by rw[MK,MK];exact st.len
 sh:=fun j d' h=>by
  rcases aI h with⟨rfl,z⟩ | ⟨hj,h'⟩
  ·cases z;exact⟨v,My (st.inσ h),r⟩
  ·obtain⟨u,q,w⟩:=st.sh j d' h';exact⟨u,by rw[gV (Ne.symm hj)];exact q,w⟩
 ow:=fun j d' h=>by
  rcases aI h with⟨_,z⟩ | ⟨hj,h'⟩
  ·cases z
  ·obtain⟨u,q,w⟩:=st.ow j d' h';exact⟨u,by rw[gV (Ne.symm hj)];exact q,w⟩
 dis:=fun j k d1 d2 b h1 h2 h3 h4=>by
  rcases aI h1 with⟨_,z⟩ | ⟨hj,h1⟩
  ·cases z
  rcases aI h2 with⟨_,z⟩ | ⟨hk,h2⟩
  ·cases z
  rw[gV (Ne.symm hj)]at h3;rw[gV (Ne.symm hk)]at h4;exact st.dis j k d1 d2 b h1 h2 h3 h4
theorem aA.x8(st:aA H0 H σ ρ)(no:¬aj σ ρ a)(n0:H0 a=none)(w:Own H0 H a d):aA H0 H (σ.set i (some (.ref a))) (ρ.set i (.ow d)) where
 same:=st.same
 len:=by rw[MK,MK];exact st.len
 sh:=fun j d' h=>by
  rcases aI h with⟨_,z⟩ | ⟨hj,h'⟩
  ·cases z
  ·obtain⟨u,q,w⟩:=st.sh j d' h';exact⟨u,by rw[gV (Ne.symm hj)];exact q,w⟩
 ow:=fun j d' h=>by
  rcases aI h with⟨rfl,z⟩ | ⟨hj,h'⟩
  ·cases z;exact⟨a,My (st.inσ h),n0,w⟩
  ·obtain⟨u,q,w⟩:=st.ow j d' h';exact⟨u,by rw[gV (Ne.symm hj)];exact q,w⟩
 dis:=fun j k d1 d2 b h1 h2 h3 h4=>by
  rcases aI h1 with⟨e1,z1⟩ | ⟨hj,h1'⟩
  ·rcases aI h2 with⟨e2,z2⟩ | ⟨hk,h2'⟩
   ·rw[e1,e2]
   ·rcases ee h3 with⟨_,z⟩ | ⟨z,_⟩
    ·cases z;rw[gV (Ne.symm hk)]at h4;exact absurd ⟨k,d2,h2',h4⟩ no
    ·exact absurd e1 z
  ·rcases aI h2 with⟨e2,z2⟩ | ⟨hk,h2'⟩
   ·rcases ee h4 with⟨_,z⟩ | ⟨z,_⟩
    ·cases z;rw[gV (Ne.symm hj)]at h3;exact absurd ⟨j,d1,h1',h3⟩ no
    ·exact absurd e2 z
   ·rw[gV (Ne.symm hj)]at h3;rw[gV (Ne.symm hk)]at h4;exact st.dis j k d1 d2 b h1' h2' h3 h4
theorem nN{a b:Addr}(h:aj (σ.set i (some (.ref a))) (ρ.set i (.ow d)) b):b=a\/aj σ ρ b:=by
 obtain⟨j,d',h1,h2⟩:=h;rcases aI h1 with⟨e,_⟩ | ⟨hj,h1⟩
 ·rcases ee h2 with⟨_,z⟩ | ⟨z,_⟩
  ·cases z;exact .inl rfl
  ·exact absurd e z
 ·rcases ee h2 with⟨z,_⟩ | ⟨_,h2⟩
  ·exact absurd z hj
  ·exact .inr ⟨j,d',h1,h2⟩
theorem aA.write{d d':Dat}(st:aA H0 H σ ρ)(e:ρ[i]?=some (.ow d))(q:σ[i]?=some (some (V.ref a)))(w':Own H0 (upd H a o) a d') :
  aA H0 (upd H a o) σ (ρ.set i (.ow d')):=by
 obtain⟨a',q',n,w⟩:=st.ow i d e;rw[q]at q';cases q';refine⟨fun b u z=>?_,by rw[MK];exact st.len,fun j d1 h=>?_,fun j d1 h=>?_,fun j k d1 d2 b h1 h2 h3 h4=>?_⟩
 ·rw[au (aE z n)];exact st.same _ _ z
 ·rcases aI h with⟨_,z⟩ | ⟨hj,h'⟩
  ·cases z
  ·exact st.sh j d1 h'
 ·rcases aI h with⟨rfl,z⟩ | ⟨hj,h'⟩
  ·cases z;exact⟨a,q,n,w'⟩
  ·obtain⟨b,q1,n1,w1⟩:=st.ow j d1 h';have nb:b≠a:=fun y=>hj (st.dis j i d1 d a h' e (y▸q1) q);exact⟨b,q1,n1,w1.mono (ao.refl _) (au nb)⟩
 ·have f:∀{j:Nat} {d1:Dat},(ρ.set i (.ow d'))[j]?=some (.ow d1)->∃d2,ρ[j]?=some (.ow d2):=fun {j d1} h=>by
   rcases aI h with⟨rfl,_⟩ | ⟨_,h'⟩
   ·exact⟨d,e⟩
   ·exact⟨d1,h'⟩
  obtain⟨x1,y1⟩:=f h1;obtain⟨x2,y2⟩:=f h2;exact st.dis j k x1 x2 b y1 y2 h3 h4
theorem bH{d d':Dat}(e:ρ[i]?=some (.ow d))(h:aj σ (ρ.set i (.ow d')) b):aj σ ρ b:=by
 obtain⟨j,d1,h1,h2⟩:=h;rcases aI h1 with⟨rfl,_⟩ | ⟨_,h'⟩
 ·exact⟨j,d,e,h2⟩
 ·exact⟨j,d1,h',h2⟩
theorem Stp.write(w:aj σ ρ a):Stp (aj σ ρ) H0 H H0 (upd H a o):=
 ⟨ao.refl _,fun b u e n=>by rw [au (show b≠a from fun z=>n (by rw [z];exact w))];exact e,fun b u e=>.inr (.inl e),fun b u e=>by
  by_cases z:b=a
  ·subst z;exact⟨o,aq⟩
  ·exact⟨u,by rw[au z];exact e⟩⟩
end
section
variable{D:Ends}{σ:St}{H:Hp}
section
variable{ρ:Dm.Env}{body:FS}{f:FE}{a:Addr}{is:List Nat}{K:gc}{i:Nat}{ds:List Dat}{d:Dat}{bd:Dm.FB}{xs:List V}{vs:List V}{n:Nat}{H0:Hp}{k:Nat}{fi:Dm.FI}{t:FT}{g:TG}{o:HO}{Q:VK}{E:XK}
theorem Dg(h:tDS (Dm.sA i f) D σ H):vj (tD f) (gR i) D σ H:=by
 obtain⟨H0,ρ,o,st,e,k⟩:=h;unfold Dm.sA at e;split at e
 ·cases e
 rename_i hi0;split at e
 ·cases e
 ·rename_i d ρ1 e1;cases e;refine⟨H0,ρ,_,ρ1,st,e1,fun v H0' H' t r=>?_⟩;obtain⟨a,e,n,no,n0,w⟩:=r;subst e;refine k _ H0' H' ⟨t.st.x8 no n0 w,t.stp,fun b z=>?_,gV hi0⟩;rcases nN z with rfl | z
  ·exact .inr n
  ·exact .inl (t.own b z)
 ·rename_i x ρ1 _ e1;split at e
  ·cases e
  ·rename_i d ρ2 e2;cases e;refine⟨H0,ρ,_,ρ1,st,e1,fun v H0' H' t r=>?_⟩;obtain⟨H1,t1,b1,r1,_,_⟩:=take1 t (ao.refl _) r e2;exact k _ H1 H' ⟨t1.st.rO r1,t1.stp,fun b z=>.inl (t1.own b (di z)),gV hi0⟩
theorem t7{j:Nat}(h:Def ρ j):Def (ρ.set i (.sh d)) j:=trivial
noncomputable def ez:List Nat->TGs
 |[]=>Ih
 |i::is=>C5 (gR i) (ez is)
theorem t8{H0 H:Hp}{Q:St->Hp->Prop}:∀{is:List Nat} {xs:List V} {ds:List Dat} {σ:St} {ρ ρ':Dm.Env},aA H0 H σ ρ->ay H0 xs ds->Dm.sets is ds ρ=some ρ' ->
  (∀σ',aA H0 H σ' ρ'->(∀a,aj σ' ρ' a->aj σ ρ a)->(∀j,j∉is->σ'[j]?=σ[j]?)->(∀j,Def ρ j->Def ρ' j)->σ'[0]?=σ[0]?->Q σ' H)->ez is xs σ H Q
 |[],_,[],σ,ρ,ρ',st,r,e,k=>by cases r;cases e;exact⟨rfl,k σ st (fun _ z=>z) (fun _ _=>rfl) (fun _ z=>z) rfl⟩
 |i::is,_,d::ds,σ,ρ,ρ',st,r,e,k=>by
  cases r with
  |cons h r=>
   unfold Dm.sets at e;split at e
   ·cases e
   rename_i hi0;refine⟨_,_,rfl,?_⟩;refine t8 (st.rO h) r e fun σ' st' o' n' d' f'=>k σ' st' (fun a z=>di (o' a z)) (fun j hj=>?_) (fun j z=>d' j (t7 z)) (f'.trans (gV hi0));rw[n' j fun z=>hj (Mh _ z)];exact gV fun z=>hj (by rw[z];exact Mg)
 |[],_,_::_,_,_,_,_,_,e,_=>by cases e
 |_::_,_,[],_,_,_,_,_,e,_=>by cases e
theorem pD:∀{is:List Nat} {ds:List Dat} {ρ ρ':Dm.Env},Dm.sets is ds ρ=some ρ'->ds.length=is.length
 |[],[],_,_,_=>rfl
 |i::is,_::ds,_,_,e=>by
  unfold Dm.sets at e;split at e
  ·cases e
  ·simp[pD (is:=is) (ds:=ds) e]
 |[],_::_,_,_,e=>by cases e
 |_::_,[],_,_,e=>by cases e
def BD(is:List Nat)(g:TG)(bd:Dm.FB):Prop:=∀(H0 H:Hp) (σ:St) (ρ ρ':Dm.Env) (x:V) (d:Dat) (Q:St->Hp->Prop),aA H0 H σ ρ->Rep H0 x d->bd d ρ=some ρ' ->
 (∀σ',aA H0 H σ' ρ'->(∀a,aj σ' ρ' a->aj σ ρ a)->(∀j,j∉is->σ'[j]?=σ[j]?)->(∀j,Def ρ j->Def ρ' j)->σ'[0]?=σ[0]?->Q σ' H)->g x σ H Q
theorem t9(i:Nat):BD [i] (gR i) (Dm.bN i):=by
 intro H0 H σ ρ ρ' x d Q st r e k;unfold Dm.bN at e;split at e
 ·cases e
 rename_i hi0;cases e;refine k _ (st.rO r) (fun a z=>di z) (fun j hj=>?_) (fun j h=>t7 h) (gV hi0);exact gV (fun z=>hj (by rw[z];exact Mu.mpr rfl))
theorem x9(is:List Nat)(hn:is.length=n):BD is (Ii K n (ez is)) (Dm.bT is):=by
 intro H0 H σ ρ ρ' x d Q st r e k;unfold Dm.bT at e;split at e
 ·cases r with
  |tup q rs=>exact⟨_,_,rfl,SqT.of (st.same _ _ q),by rw[rs.length,pD e,hn],t8 st rs e k⟩
 ·cases e
theorem IT(h:tDS (Dm.nI i f) D σ H):tM (tBM K "list" nG (nv i) (tDA [f])) D σ H:=by
 obtain⟨H0,ρ,o,st,e,k⟩:=h;unfold Dm.nI at e;split at e
 ·rename_i ds0 h0;obtain⟨a0,q0,n0,w0⟩:=st.ow i _ h0;refine⟨_,q0,?_⟩;split at e
  ·cases e
  rename_i x ρ1 e1;split at e
  ·cases e
  rename_i d ρ2 e2;split at e
  ·rename_i ds h2;split at e
   ·rename_i hz;cases e;obtain⟨xs0,y0,_⟩:=w0;refine⟨.inl ⟨rfl,xs0,.inl (.inl y0)⟩,?_⟩;refine⟨H0,ρ,[x],ρ1,st,by unfold Dm.eAs;rw[e1];rfl,fun vs H0' H' t r=>?_⟩;cases r with
    |cons r rr=>
     cases rr;obtain⟨H1,t1,b1,r1,_,_⟩:=take1 t (ao.refl _) r e2;obtain⟨a,q,n,w⟩:=t1.st.ow i _ h2;rw[q0]at q;cases q;obtain⟨xs,y,rs⟩:=w;refine⟨a0,xs,_,rfl,rfl,y,by rw[rs.length];exact Mq hz (by decide),?_⟩;have ow:aj σ ρ2 a0:=⟨i,_,h2,q0⟩
     refine k σ H1 _ ⟨t1.st.write h2 q0 ⟨_,aq,rs.append (.cons r1 .nil)⟩,t1.stp.trans (Stp.write ow) fun b z=>.inl (t1.own b z),fun b z=>.inl (t1.own b (bH h2 z)),rfl⟩
   ·cases e
  ·cases e
 ·cases e
theorem Fx(n:Nat)(i:Int):Dm.ixN n i=L2.ixN n i:=rfl
theorem IU{j f:FE}(h:tDS (Dm.rJ i j f) D σ H):vj (tD f) (gS (nv i) (tD j) Dd) D σ H:=by
 obtain⟨H0,ρ,o,st,e,k⟩:=h;unfold Dm.rJ at e;split at e
 ·cases e
 rename_i x ρ1 e1;split at e
 ·cases e
 rename_i d ρ2 e2;split at e
 case h_2=>cases e
 rename_i d0 h2;split at e
 ·rename_i m ρ3 e3;split at e
  ·rename_i ds h3;split at e
   ·cases e
   ·rename_i p e4;cases e;refine⟨H0,ρ,_,ρ1,st,e1,fun v H0' H' t r=>?_⟩;obtain⟨H1,t1,b1,r1,_,_⟩:=take1 t (ao.refl _) r e2;obtain⟨a0,q0,_,_⟩:=t1.st.ow i _ h2;refine⟨_,q0,H1,ρ2,_,ρ3,t1.st,e3,fun u H2 Hc t2 r2=>?_⟩;obtain⟨a,q,n,w⟩:=t2.st.ow i _ h3;rw[q0]at q;cases q;obtain⟨xs,y,rs⟩:=w;refine⟨a0,xs,m,p,rfl,Rep.isInt r2,y,by rw[rs.length];exact e4,?_⟩;have ow:aj σ ρ3 a0:=⟨i,_,h3,q0⟩
    have tt:=t1.trans t2;refine k σ H2 _ ⟨t2.st.write h3 q0 ⟨_,aq,rs.set (r1.mono t2.stp.s0) p⟩,tt.stp.trans (Stp.write ow) fun b z=>.inl (tt.own b z),fun b z=>.inl (tt.own b (bH h3 z)),rfl⟩
  ·cases e
 ·cases e
theorem Bt(h:tDS (Dm.whD t body n) D σ H):xg (tDT t) (tDS body) D σ H:=by
 refine⟨fun m σ H=>tDS (Dm.whD t body m) D σ H,⟨n,h⟩,?_⟩;rintro m σ H ⟨H0,ρ,o,st,e,k⟩;cases m with
 |zero=>unfold Dm.whD at e;cases e
 |succ m=>
  unfold Dm.whD at e;split at e
  ·cases e
  ·rename_i ρ1 e1;cases e;refine⟨H0,ρ,false,ρ1,st,e1,fun H1 Hb t1=>?_⟩;dsimp only;rw[if_neg Mz];exact k σ H1 Hb t1.sst
  ·rename_i ρ1 e1;refine⟨H0,ρ,true,ρ1,st,e1,fun H1 Hb t1=>?_⟩;dsimp only;rw[if_pos rfl];refine⟨fun σ' H'=>tDS (Dm.whD t body m) D σ' H',fun σ' H' q=>⟨m,Nat.lt_succ_self m,q⟩,?_⟩;have k1:=k.pre t1.sst;split at e
   ·rename_i ρ2 e2;exact⟨H1,ρ1,_,t1.st,e2,fun σ' H0' H' t2=>⟨H0',ρ2,o,t2.st,e,k1.pre t2⟩⟩
   ·rename_i ρ2 e2;exact⟨H1,ρ1,_,t1.st,e2,fun σ' H0' H' t2=>⟨H0',ρ2,o,t2.st,e,k1.pre t2⟩⟩
   ·rename_i ρ2 e2;cases e;exact⟨H1,ρ1,_,t1.st,e2,k1⟩
   ·rename_i v ρ2 e2;cases e;exact⟨H1,ρ1,_,t1.st,e2,k1⟩
   ·cases e
def JW(J:It)(H00:Hp)(ys:List Dat):Prop:=∀H0 H,ao H00 H0->ao H0 H->(∀i,ys.length<=i->J.stop i H) /\
 ∀(i:Nat) (d:Dat),ys[i]?=some d->J.go i H/\∀x H',J.yld i H x H'->∃H0',aG H0 H H0' H'/\Rep H0' x d
def tDI(fi:Dm.FI):TI:=fun σ H R=>∃H0 ρ ys ρ',aA H0 H σ ρ/\fi ρ=some (ys,ρ')/\∀J H0' H',ESt σ ρ H0 H ρ' H0' H'->JW J H0' ys->R J H'
theorem IV(hb:BD is g bd)(h:tDS (Dm.cS fi bd body) D σ H):ET (tDI fi) g (tDS body) D σ H:=by
 obtain⟨H0,ρ,o,st,e,k⟩:=h;unfold Dm.cS at e;split at e
 ·cases e
 rename_i ys ρ1 e1;refine⟨H0,ρ,ys,ρ1,st,e1,fun J H00 Hb t1 jw=>?_⟩;refine ⟨fun i m σ H=>∃ H0 ρ o,aA H0 H σ ρ∧ao H00 H0∧m=ys.length-i∧i≤ys.length∧Dm.iF bd body (ys.drop i) ρ=some o∧mF D σ ρ H0 H o,
  ⟨ys.length,H00,ρ1,o,t1.st,ao.refl _,by simp,MR _,by simpa using e,k.pre t1.sst⟩,?_⟩
 rintro i m σ H ⟨H0,ρ,o,st,s00,rfl,hi,e,k⟩;obtain⟨js,jg⟩:=jw H0 H s00 st.same;by_cases Gy:i<ys.length
 ·have hd:ys[i]?=some ys[i]:=by simp[Gy]
  obtain⟨g1,g2⟩:=jg i ys[i] hd;rw[NG Gy]at e;unfold Dm.iF at e;refine .inr ⟨g1,fun σ' H'=>∃H0 ρ o,aA H0 H' σ' ρ/\ao H00 H0/\Dm.iF bd body (ys.drop (i+1)) ρ=some o/\mF D σ' ρ H0 H' o,?_,fun x H' y=>?_⟩
  ·rintro σ' H' ⟨H0',ρ',o',h1,h2,h3,h4⟩;exact⟨ys.length-(i+1),by lia,H0',ρ',o',h1,h2,rfl,Gy,h3,h4⟩
  ·obtain⟨H0',gr,rx⟩:=g2 x H' y;split at e
   ·cases e
   ·rename_i ρ2 e2;have t2:=ESt.grow st gr;refine hb H0' H' σ ρ ρ2 x ys[i] _ t2.st rx e2 fun σ2 st2 o2 _ _ f2=>?_;have t3:SSt σ ρ H0 H σ2 ρ2 H0' H':=⟨st2,t2.stp,fun a z=>.inl (o2 a z),f2⟩
    have k3:=k.pre t3;have s3:ao H00 H0':=s00.trans gr.s0;split at e
    ·rename_i ρ3 e3;exact⟨H0',ρ2,_,st2,e3,fun σ4 H4 Hd t4=>⟨H4,ρ3,o,t4.st,s3.trans t4.stp.s0,e,k3.pre t4⟩⟩
    ·rename_i ρ3 e3;exact⟨H0',ρ2,_,st2,e3,fun σ4 H4 Hd t4=>⟨H4,ρ3,o,t4.st,s3.trans t4.stp.s0,e,k3.pre t4⟩⟩
    ·rename_i ρ3 e3;cases e;exact⟨H0',ρ2,_,st2,e3,k3⟩
    ·rename_i v ρ3 e3;cases e;exact⟨H0',ρ2,_,st2,e3,k3⟩
    ·cases e
 ·have e':i=ys.length:=by lia
  subst e';rw[NT]at e;cases e;exact .inl ⟨js _ (Ds _),k σ H0 H (.refl st)⟩
theorem Bu(hq:Rd H0 a (.lst xs))(rs:ay H0 xs ds):JW (Itl K a) H0 ds:=by intro H0' H s0 s1;have q:SqL K H a xs:=.inl (ao.rd s1 (ao.rd s0 hq));refine⟨fun i hi=>⟨xs,q,by rw[rs.length];exact hi⟩,fun i d e=>?_⟩;obtain⟨v,hv,rv⟩:=rs.get e;refine⟨⟨xs,v,q,hv⟩,fun x H' y=>?_⟩;obtain⟨e1,y⟩:=y;subst e1;have z:=y xs q;rw[hv]at z;cases z;exact⟨H0',aG.refl s1,rv.mono s0⟩
theorem Fy(hq:H0 a=some (.tup xs))(rs:ay H0 xs ds):JW (Itt K a) H0 ds:=by intro H0' H s0 s1;have q:SqT K H a xs:=.inl (.inl (s1 _ _ (s0 _ _ hq)));refine⟨fun i hi=>⟨xs,q,by rw[rs.length];exact hi⟩,fun i d e=>?_⟩;obtain⟨v,hv,rv⟩:=rs.get e;refine⟨⟨xs,v,q,hv⟩,fun x H' y=>?_⟩;obtain⟨e1,y⟩:=y;subst e1;have z:=y xs q;rw[hv]at z;cases z;exact⟨H0',aG.refl s1,rv.mono s0⟩
theorem pF{lo:Int}:JW (Itr lo n) H0 (Dm.ups lo n):=by
 intro H0' H s0 s1;have el:(Dm.ups lo n).length=n:=by simp[Dm.ups]
 refine⟨fun i hi=>by rw[el]at hi;exact hi,fun i d e=>?_⟩;have hi:i<n:=by have:=(Me.mp e).1;rw[el]at this;exact this
 have hd:d=.int (lo+i):=by unfold Dm.ups at e;rw[MA,Nf hi]at e;exact(Option.some.inj e).symm
 refine⟨hi,fun x H' y=>?_⟩;obtain⟨rfl,rfl⟩:=y;subst hd;exact⟨H0',aG.refl s1,.int _⟩
variable{R:It->Hp->Prop}
theorem Lj(h:tDI (Dm.iL f) σ H R):oW K (tD f) σ H R:=by
 obtain⟨H0,ρ,ys,ρ',st,e,k⟩:=h;unfold Dm.iL at e;split at e
 ·cases e
 rename_i x ρ1 e1;split at e
 ·rename_i ds ρ2 e2;cases e;refine⟨H0,ρ,_,ρ1,st,e1,fun v H0' H' t r=>?_⟩;obtain⟨H1,t1,b1,r1,_,_⟩:=take1 t (ao.refl _) r e2;cases r1 with
  |lst q rs=>exact⟨_,rfl,⟨_,.inl (ao.rd t1.st.same q)⟩,k _ H1 H' t1 (Bu q rs)⟩
 ·cases e
theorem Lk(h:tDI (Dm.iT f) σ H R):xj K (tD f) σ H R:=by
 obtain⟨H0,ρ,ys,ρ',st,e,k⟩:=h;unfold Dm.iT at e;split at e
 ·cases e
 rename_i x ρ1 e1;split at e
 ·rename_i ds ρ2 e2;cases e;refine⟨H0,ρ,_,ρ1,st,e1,fun v H0' H' t r=>?_⟩;obtain⟨H1,t1,b1,r1,_,_⟩:=take1 t (ao.refl _) r e2;cases r1 with
  |tup q rs=>exact⟨_,rfl,⟨_,.inl (.inl (t1.st.same _ _ q))⟩,k _ H1 H' t1 (Fy q rs)⟩
 ·cases e
theorem IW(h:tDI (Dm.iR1 f) σ H R):C6 (tDA [f]) σ H R:=by
 obtain⟨H0,ρ,ys,ρ',st,e,k⟩:=h;unfold Dm.iR1 at e;split at e
 ·rename_i j ρ1 e1;split at e
  ·rename_i hb;cases e;refine⟨H0,ρ,[.val (.int j)],_,st,by unfold Dm.eAs;rw[e1];rfl,fun vs H0' H' t r=>?_⟩;cases r with
   |cons r rr=>cases rr;cases Rep.isInt r;have h1:=hb.1;have h2:=hb.2;unfold Dm.BIG at h1 h2;exact⟨j,rfl,by lia,by lia,k _ H0' H' t pF⟩
  ·cases e
 ·cases e
theorem IX{f g:FE}(h:tDI (Dm.iR2 f g) σ H R):C7 (tDA [f,g]) σ H R:=by
 obtain⟨H0,ρ,ys,ρ',st,e,k⟩:=h;unfold Dm.iR2 at e;split at e
 ·rename_i i ρ1 e1;split at e
  ·rename_i j ρ2 e2;split at e
   ·rename_i hb;cases e;refine⟨H0,ρ,[.val (.int i),.val (.int j)],_,st,by unfold Dm.eAs;rw[e1];dsimp only;unfold Dm.eAs;rw[e2];rfl,fun vs H0' H' t r=>?_⟩;cases r with
    |cons r rr=>
     cases rr with
     |cons r' rr=>cases rr;cases Rep.isInt r;cases Rep.isInt r';obtain⟨h1,h2,h3,h4⟩:=hb;unfold Dm.BIG at h1 h2 h3 h4;exact⟨i,j,rfl,⟨by lia,by lia,by lia,by lia⟩,k _ H0' H' t pF⟩
   ·cases e
  ·cases e
 ·cases e
def tLC(wi:TI)(own:Nat)(g:TG)(tt:TT)(te:TE):TE:=fun σ H Q=>wi σ H fun J H1=>∀D,H1 D=none->∃W:Nat->Nat->St->Hp->Prop,
 (∃m,W 0 m (σ++Dk own none) (upd H1 D (.lst [])))/\∀i m σ' H',W i m σ' H' ->
  (J.stop i H'∧Q (.ref D) H')∨(J.go i H'∧∀ x H2,J.yld i H' x H2→g x σ' H2 fun σ2 H3=>tt σ2 H3 fun b H4=>if b=true
   then te σ2 H4 fun y H5=>∃DK,H5 D=some (.lst DK)/\DK.length<sizeLine/\∃m',m'<m/\W (i+1) m' σ2 (upd H5 D (.lst (DK++[y])))
   else ∃m',m'<m/\W (i+1) m' σ2 H4)
theorem aA.aside{H0 H:Hp}{σ:St}(st:aA H0 H σ ρ)(n0:H0 a=none)(no:¬aj σ ρ a):aA H0 (upd H a o) σ ρ where
 same:=fun b u z=>by rw[au (aE z n0)];exact st.same _ _ z
 len:=st.len
 sh:=st.sh
 ow:=fun j d h=>by obtain⟨b,q,n,w⟩:=st.ow j d h;have nb:b≠a:=fun y=>no ⟨j,d,h,y▸q⟩;exact⟨b,q,n,w.mono (ao.refl _) (au nb)⟩
 dis:=st.dis
theorem aA.bf{H0 H:Hp}{σ:St}(st:aA H0 H σ ρ)(h:H a=none):¬aj σ ρ a:=fun⟨i,d,h1,h2⟩=>by obtain⟨b,q,n,w⟩:=st.ow i d h1;rw[h2]at q;cases q;obtain⟨o,z⟩:=w.some;rw[h]at z;cases z
theorem g8{α:Type}{l:List α}{r:List α}{x:α}(h:(l++r)[i]?=some x)(n:x∉r):i<l.length/\l[i]?=some x:=by
 by_cases hi:i<l.length
 ·rw[Mn hi]at h;exact⟨hi,h⟩
 ·rw[MJ (NR.mp hi)]at h;exact absurd (NF h) n
theorem x_:Dm.Cell.sh d∉Dk k Dm.Cell.un:=fun h=>by have:=List.eq_of_mem_replicate h;cases this
theorem g9:Dm.Cell.ow d∉Dk k Dm.Cell.un:=fun h=>by have:=List.eq_of_mem_replicate h;cases this
theorem aA.ext{H0 H:Hp}{σ:St}(st:aA H0 H σ ρ)(k:Nat):aA H0 H (σ++Dk k none) (ρ++Dk k .un) where
 same:=st.same
 len:=by simp[st.len]
 sh:=fun i d h=>by obtain⟨hi,h⟩:=g8 h x_;obtain⟨v,q,r⟩:=st.sh i d h;exact⟨v,by rw[Mn (by rw[st.len];exact hi)];exact q,r⟩
 ow:=fun i d h=>by obtain⟨hi,h⟩:=g8 h g9;obtain⟨v,q,r⟩:=st.ow i d h;exact⟨v,by rw[Mn (by rw[st.len];exact hi)];exact q,r⟩
 dis:=fun i j d e a h1 h2 h3 h4=>by obtain⟨hi,h1⟩:=g8 h1 g9;obtain⟨hj,h2⟩:=g8 h2 g9;rw[Mn (by rw[st.len];exact hi)]at h3;rw[Mn (by rw[st.len];exact hj)]at h4;exact st.dis i j d e a h1 h2 h3 h4
theorem iG{H0 H:Hp}{σ:St}(st:aA H0 H σ ρ)(h:aj (σ++Dk k none) (ρ++Dk k .un) a):aj σ ρ a:=by obtain⟨i,d,h1,h2⟩:=h;obtain⟨hi,h1⟩:=g8 h1 g9;rw[Mn (by rw[st.len];exact hi)]at h2;exact⟨i,d,h1,h2⟩
theorem Stp.aside{O:Addr->Prop}{H0 H H0' H':Hp}{D:Addr}(t:Stp O H0 H H0' H')(hD:H D=none):Stp O H0 H H0' (upd H' D o):=
 ⟨t.s0,fun a u e n=>by rw[au (aE e hD)];exact t.s1 a u e n,t.s2,fun a u e=>by rw[au (aE e hD)];exact t.s3 a u e⟩
theorem ESt.cH{σ:St}{ρ ρ':Dm.Env}{H0 H H0' H':Hp}(t:ESt σ ρ H0 H ρ' H0' H'){D:Addr}(h:H D=some o)(n0:H0 D=none)(no:¬aj σ ρ D):H' D=some o/\H0' D=none/\¬aj σ ρ' D:=by
 refine⟨t.stp.s1 D o h no,?_,fun z=>no (t.own D z)⟩;cases q:H0' D with
 |none=>rfl
 |some u=>
  rcases t.stp.s2 D u q with z | z | z
  ·rw[h]at z;cases z
  ·rw[n0]at z;cases z
  ·exact absurd z no
def JWa(J:It)(H00:Hp)(pa:Option (Addr×HO))(ys:List Dat):Prop:=∀H0 H,ao H00 H0->ao H0 H->(∀q,pa=some q->H q.1=some q.2)->(∀i,ys.length<=i->J.stop i H) /\
 ∀(i:Nat) (d:Dat),ys[i]?=some d->J.go i H/\∀x H',J.yld i H x H'->∃H0',aG H0 H H0' H'/\Rep H0' x d
theorem pG{σ:St}{own:Nat}{t:FT}{el:FE}{Q:VK}{H00 Hb:Hp}{ρ1 ρ2:Dm.Env}{ds ys:List Dat}{J:It}{pa:Option (Addr×HO)}(hb:BD is g bd)(hl:∀i∈is,σ.length<=i)
  (st1:aA H00 Hb σ ρ1) (hp:∀q,pa=some q->Hb q.1=some q.2/\H00 q.1=none/\¬aj σ ρ1 q.1) (jw:JWa J H00 pa ds) (hsz:ds.length<=Dm.SZ) (e2:Dm.cF bd t el ds (ρ1++Dk own .un) []=some (ys,ρ2))
  (k:∀v H0' H',ESt σ ρ1 H00 Hb (ρ2.take ρ1.length) H0' H'->d_ Hb H0' H' σ (ρ2.take ρ1.length) v (.new (.lst ys))->(∀q,pa=some q->H' q.1=some q.2/\H0' q.1=none)->Q v H') (D:Addr) (hD:Hb D=none) :
  ∃W:Nat->Nat->St->Hp->Prop,(∃m,W 0 m (σ++Dk own none) (upd Hb D (.lst [])))/\∀i m σ' H',W i m σ' H' ->
  (J.stop i H'∧Q (.ref D) H')∨(J.go i H'∧∀ x H2,J.yld i H' x H2→g x σ' H2 fun σ2 H3=>tDT t σ2 H3 fun b H4=>if b=true
   then tD el σ2 H4 fun y H5=>∃DK,H5 D=some (.lst DK)/\DK.length<sizeLine/\∃m',m'<m/\W (i+1) m' σ2 (upd H5 D (.lst (DK++[y])))
   else ∃m',m'<m/\W (i+1) m' σ2 H4):=by
 have hpD:∀q,pa=some q->q.1≠D:=fun q e z=>by have:=(hp q e).1;rw[z,hD]at this;cases this
 have noD:¬aj σ ρ1 D:=st1.bf hD;refine ⟨fun i m σ' H'=>∃ (H0c:Hp) (ρc:Dm.Env) (vP:List Dat) (rP:List V),aA H0c H' σ' ρc∧ao H00 H0c∧m=ds.length-i∧i≤ds.length∧Dm.cF bd t el (ds.drop i) ρc vP=some (ys,ρ2) ∧
  H' D=some (.lst rP)/\ay H0c rP vP/\H0c D=none/\vP.length<=i/\Stp (aj σ ρ1) H00 Hb H0c H'/\(∀j,j<σ.length->σ'[j]?=σ[j]?)/\(∀a,aj σ' ρc a->aj σ ρ1 a)/\(∀j,Def ρ1 j->Def ρc j)/\(∀q,pa=some q->H' q.1=some q.2/\H0c q.1=none/\¬aj σ' ρc q.1),
  ⟨ds.length,H00,ρ1++Dk own .un,[],[],(st1.aside (st1.same.free hD) noD).ext own,ao.refl _,by simp,MR _,by simpa using e2,aq,.nil,st1.same.free hD,MR _,(Stp.refl _ _ _).aside hD,
   fun j hj=>Mn hj,fun a z=>iG st1 z,fun j z=>trivial,fun q e=>⟨by rw[au (hpD q e)];exact(hp q e).1,(hp q e).2.1,fun z=>(hp q e).2.2 (iG st1 z)⟩⟩,?_⟩
 rintro i m σ' H' ⟨H0c,ρc,vP,rP,sc,s00,rfl,hi,ec,hDl,ra,n0,hal,sp,hσ,ho,hdf,hpc⟩;have nOc:¬aj σ' ρc D:=fun z=>noD (ho D z);obtain⟨js,jg⟩:=jw H0c H' s00 sc.same fun q e=>(hpc q e).1;by_cases Gy:i<ds.length
 ·have hd:ds[i]?=some ds[i]:=by simp[Gy]
  obtain⟨g1,g2⟩:=jg i ds[i] hd;rw[NG Gy]at ec;unfold Dm.cF at ec;refine .inr ⟨g1,fun y H2 yy=>?_⟩;obtain⟨H0',gr,rx⟩:=g2 y H2 yy;split at ec
  ·cases ec
  rename_i ρ3 e3;have t2:=ESt.grow sc gr;obtain⟨hD2,n02,no2⟩:=t2.cH hDl n0 nOc;have hp2:=fun q e=>t2.cH (hpc q e).1 (hpc q e).2.1 (hpc q e).2.2;refine hb H0' H2 σ' ρc ρ3 y ds[i] _ t2.st rx e3 fun σ3 st3 o3 k3 d3 _=>?_;have no3:¬aj σ3 ρ3 D:=fun z=>no2 (o3 D z);have po3:∀q,pa=some q->¬aj σ3 ρ3 q.1:=fun q e z=>(hp2 q e).2.2 (o3 q.1 z);have hσ3:∀j,j<σ.length->σ3[j]?=σ[j]?:=fun j hj=>(k3 j fun z=>NR.mpr (hl j z) hj).trans (hσ j hj);have ho3:∀a,aj σ3 ρ3 a->aj σ ρ1 a:=fun a z=>ho a (o3 a z);have IY:∀j,Def ρ1 j->Def ρ3 j:=fun j z=>d3 j (hdf j z);have sp3:Stp (aj σ ρ1) H00 Hb H0' H2:=sp.trans t2.stp fun a z=>.inl (ho a z);have ra3:=ra.mono gr.s0;have s3:ao H00 H0':=s00.trans gr.s0;split at ec
  ·cases ec
  ·rename_i ρ4 e4;refine⟨H0',ρ3,false,ρ4,st3,e4,fun Fz H'' t4=>?_⟩;dsimp only;rw[if_neg Mz];obtain⟨hD4,n04,no4⟩:=t4.cH hD2 n02 no3;have hp4:=fun q e=>t4.cH (hp2 q e).1 (hp2 q e).2.1 (po3 q e);exact⟨ds.length-(i+1),by lia,Fz,ρ4,vP,rP,t4.st,s3.trans t4.stp.s0,rfl,Gy,ec,hD4,ra3.mono t4.stp.s0,n04,Nat.le_succ_of_le hal,sp3.trans t4.stp fun a z=>.inl (ho3 a z),hσ3,fun a z=>ho3 a (t4.own a z),fun j z=>t4.dfn j (IY j z),hp4⟩
  ·rename_i ρ4 e4;refine⟨H0',ρ3,true,ρ4,st3,e4,fun Fz H'' t4=>?_⟩;dsimp only;rw[if_pos rfl];obtain⟨hD4,n04,no4⟩:=t4.cH hD2 n02 no3;have hp4:=fun q e=>t4.cH (hp2 q e).1 (hp2 q e).2.1 (po3 q e);split at ec
   ·cases ec
   rename_i x5 ρ5 e5;split at ec
   ·cases ec
   rename_i y6 ρ6 e6;refine⟨Fz,ρ4,x5,ρ5,t4.st,e5,fun v H5 Hc t5 r5=>?_⟩;obtain⟨H6,t6,b6,r6,_,_⟩:=take1 t5 (ao.refl _) r5 e6;obtain⟨hD6,n06,no6⟩:=t6.cH hD4 n04 no4;have hp6:=fun q e=>t6.cH (hp4 q e).1 (hp4 q e).2.1 (hp4 q e).2.2;refine⟨rP,hD6,?_,ds.length-(i+1),by lia,H6,ρ6,vP++[y6],rP++[v],t6.st.aside n06 no6,(s3.trans t4.stp.s0).trans t6.stp.s0,rfl,Gy,ec,aq,?_,n06,?_,?_,hσ3,fun a z=>ho3 a (t4.own a (t6.own a z)),fun j z=>t6.dfn j (t4.dfn j (IY j z)),fun q e=>⟨by rw[au (hpD q e)];exact(hp6 q e).1,(hp6 q e).2.1,(hp6 q e).2.2⟩⟩
   ·rw[ra.length];unfold Dm.SZ at hsz;exact Nat.lt_of_le_of_lt (ML hal (ML (OH Gy) hsz)) (by decide)
   ·exact((ra3.mono t4.stp.s0).mono t6.stp.s0).append (.cons r6 .nil)
   ·rw[Mr,M9];lia
   ·exact((sp3.trans t4.stp fun a z=>.inl (ho3 a z)).trans t6.stp fun a z=>.inl (ho3 a (t4.own a z))).aside hD
 ·have e':i=ds.length:=by lia
  subst e';rw[NT]at ec;cases ec;refine .inl ⟨js _ (Ds _),k _ H0c H' ?_ ?_ fun q e=>⟨(hpc q e).1,(hpc q e).2.1⟩⟩
  ·have Cv:σ.length<=ρ2.length:=by
    rw[<- sc.len];refine NR.mp fun z=>?_;have q:=hσ σ'.length z;rw[MS (Ds _),Mp z]at q;cases q
   have tk:∀{j:Nat} {c:Dm.Cell},(ρ2.take ρ1.length)[j]?=some c->j<σ.length/\ρ2[j]?=some c:=fun {j c} h=>by
    have hj:j<ρ1.length:=by
     have:=(Me.mp h).1;rw[Nx]at this
     lia
    rw[NI hj]at h;exact⟨by rw[st1.len];exact hj,h⟩
   have own':∀a,aj σ (ρ2.take ρ1.length) a->aj σ' ρ2 a:=fun a ⟨j,d,h1,h2⟩=>by obtain⟨hj,h1⟩:=tk h1;exact⟨j,d,h1,(hσ j hj).trans h2⟩
   refine⟨⟨sc.same,?_,fun j d h=>?_,fun j d h=>?_,fun j j' d d' a h1 h2 h3 h4=>?_⟩,sp,fun a z=>ho a (own' a z),fun j z=>?_⟩
   ·rw[Nx,<- st1.len];lia
   ·obtain⟨hj,h⟩:=tk h;obtain⟨v,q,r⟩:=sc.sh j d h;exact⟨v,(hσ j hj).symm.trans q,r⟩
   ·obtain⟨hj,h⟩:=tk h;obtain⟨v,q,r⟩:=sc.ow j d h;exact⟨v,(hσ j hj).symm.trans q,r⟩
   ·obtain⟨hj,h1⟩:=tk h1;obtain⟨hj',h2⟩:=tk h2;exact sc.dis j j' d d' a h1 h2 ((hσ j hj).trans h3) ((hσ j' hj').trans h4)
   ·trivial
  ·refine⟨D,rfl,hD,fun⟨j,d,h1,h2⟩=>?_,n0,rP,hDl,ra⟩;have hj:j<ρ1.length:=by
    have:=(Me.mp h1).1;rw[Nx]at this
    lia
   rw[NI hj]at h1;exact nOc ⟨j,d,h1,(hσ j (by rw[st1.len];exact hj)).trans h2⟩
theorem rQ{own:Nat}{el:FE}(hb:BD is g bd)(hl:∀i∈is,σ.length<=i)(h:tD (Dm.bX fi own bd t el) σ H Q) :
  tLC (tDI fi) own g (tDT t) (tD el) σ H Q:=by
 obtain⟨H0,ρ,x,ρ',st,e,k⟩:=h;unfold Dm.bX at e;split at e
 ·cases e
 rename_i ds ρ1 e1;split at e
 case isFalse=>cases e
 rename_i hsz;split at e
 ·cases e
 rename_i ys ρ2 e2;cases e;refine⟨H0,ρ,ds,ρ1,st,e1,fun J H00 Hb t1 jw D hD=>pG (pa:=none) hb hl t1.st (fun q e=>by cases e) (fun H0 H s0 s1 _=>jw H0 H s0 s1) hsz e2 (fun v H0' H' t2 r2 _=>k v H0' H' (t1.trans t2) (r2.early fun a n=>t1.stp.gone n)) D hD⟩
theorem rR{n m:Nat}{H:Hp}(h:spD (Dm.fn n m body) vs H Q E):vs.length=n:=by
 obtain⟨H0,ds,z,s,rs,e,k⟩:=h;unfold Dm.fn at e;split at e
 ·rename_i hl;rw[rs.length];exact hl
 ·cases e
theorem IZ{N:List Str}{n m:Nat}(hm:N.length=n+m)(h:spD (Dm.fn n m body) vs H Q E) :
  tDS body { nx:=fun _ H'=>Q .non H',rt:=Q } (start N vs) H:=by
 have hvn:=rR h;obtain⟨H0,ds,z,s,rs,e,k⟩:=h;have hl:=rs.length;have no:∀a,¬aj (start N vs) (ds.map Dm.Cell.sh++Dk m .un) a:=fun a ⟨i,d,h1,_⟩=>by
  by_cases hi:i<ds.length
  ·rw[Mn (by simpa using hi),MA]at h1;cases q:ds[i]? with
   |none=>rw[q]at h1;cases h1
   |some y=>rw[q]at h1;cases h1
  ·rw[MJ (by simpa using hi),MV]at h1;split at h1<;>cases h1
 have st:aA H0 H (start N vs) (ds.map Dm.Cell.sh++Dk m .un):=by
  refine⟨s,?_,fun i d h=>?_,fun i d h=>?_,fun i j d e a h1 h2 _ _=>?_⟩
  ·unfold L2.start;simp only[Mr,Dp,NP]
   lia
  ·have hi:i<ds.length:=by
    by_cases hi:i<ds.length
    ·exact hi
    ·rw[MJ (by simpa using hi),MV]at h;split at h<;>cases h
   rw[Mn (by simpa using hi),MA]at h;cases q:ds[i]? with
   |none=>rw[q]at h;cases h
   |some y=>rw[q]at h;cases h;obtain⟨v,hv,r⟩:=rs.get q;refine⟨v,?_,r⟩;unfold L2.start;rw[Mn (by simpa [hl] using hi),MA,hv];rfl
  ·by_cases hi:i<ds.length
   ·rw[Mn (by simpa using hi),MA]at h;cases q:ds[i]? with
    |none=>rw[q]at h;cases h
    |some y=>rw[q]at h;cases h
   ·rw[MJ (by simpa using hi),MV]at h;split at h<;>cases h
  ·by_cases hi:i<ds.length
   ·rw[Mn (by simpa using hi),MA]at h1;cases q:ds[i]? with
    |none=>rw[q]at h1;cases h1
    |some y=>rw[q]at h1;cases h1
   ·rw[MJ (by simpa using hi),MV]at h1;split at h1<;>cases h1
 have gr:∀{H0' H'},Stp (aj (start N vs) (ds.map Dm.Cell.sh++Dk m .un)) H0 H H0' H'->ao H0' H'->aG H0 H H0' H':=fun {H0' H'} t ss=>⟨t.s0,fun a o e=>t.s1 a o e (no a),fun a o e=>(t.s2 a o e).imp id fun q=>q.elim id fun z=>absurd z (no a),ss⟩
 unfold Dm.fn at e;rw[if_pos (by rw[<- hl];exact hvn)]at e;split at e
 ·rename_i r ρ' e1;cases e;refine⟨H0,_,_,st,e1,fun σ' v H0' H' t r _=>k v H0' H' (gr t.stp t.st.same) ?_⟩;cases z with
  |val d=>exact r
  |new d=>obtain⟨a,e,n,n0,w⟩:=r;exact⟨a,e,n.elim id fun z=>absurd z (no a),n0,w⟩
 ·rename_i ρ' e1;cases e;exact⟨H0,_,_,st,e1,fun σ' H0' H' t=>k _ H0' H' (gr t.stp t.st.same) .non⟩
 ·cases e
end
end
open PySem PySem.Spec PyProof.Rows L2
noncomputable def aP(X:Cx)(nm:List Str)(scope:Scope)(own:List Str)(cl:List (Str×Addr))(C:Addr)(s:Shared)(H:Hp)(fp:List Addr):Cx where
 prog:=X.prog
 w:=X.w
 K:=X.K
 mg:=X.mg
 base:=X.base
 A:=X.A
 N:=nm++own
 s₀:=s
 H₀:=H
 env:=compEnvC scope cl C X.env
 outer:=X.stack
 stack:=X.stack
 ex:=fp
 fn:=fun _=>false
 calm:=X.calm
 pn:=[]
 xe:=fun _ _=>False
def PTs(X:Cx)(GA:List Expr)(t:TT):Prop:=
 ∀(sy:List (Addr×Obj)) (s:Shared) (σ:L2.St) (H:Hp) (Q:Bool->Hp->Prop),Inv X sy σ H s->t σ H Q ->
  wpAny (model X.prog X.w) X.A (forIn GA true fun c r=>if r=true then do let ok <- isTrue c X.env (eval c X.env);pure (Nl ok) else pure (Nl r)) (TP X sy σ Q) X.xe s
def Bv:TT:=fun _ H Q=>Q true H
theorem t_{X:Cx}:PTs X [] Bv:=fun sy s σ H Q I h=>wpAny_tests_nil ⟨H,I,h⟩
theorem Bw{X:Cx}{c:Expr}{t:TT}(h:PT X c t):PTs X [c] t:=fun sy s σ H Q I hq=>wpAny_tests_one (h sy s σ H Q I hq)
theorem cT(env:Env):∀(names:List (Str×NameKind)) (cs:List (Str×Addr)),(∀y∈names,y.2=.free->∃c,env.cells.lookup y.1=some c) ->
  ∃cl,(forIn names cs fun(x:Str×NameKind) (r:List (Str×Addr))=>(if (x.2 == NameKind.free)=true then do let c <- cellOf env x.1;pure (Nl ((x.1,c)::r)) else pure (Nl r):Sem (ForInStep (List (Str×Addr)))))=pure cl /\
   (∀x c,cl.lookup x=some c->env.cells.lookup x=some c\/cs.lookup x=some c)/\(∀y∈names,y.2=.free->∃c,cl.lookup y.1=some c)/\(∀x c,cs.lookup x=some c->∃c',cl.lookup x=some c')
 |[],cs,_=>⟨cs,rfl,fun _ _ h=>.inr h,fun _ h=>(nomatch h),fun _ c h=>⟨c,h⟩⟩
 |(n,k)::r,cs,h=>by
  have hr:∀y∈r,y.2=.free->∃c,env.cells.lookup y.1=some c:=fun y hy=>h y (Mh _ hy);by_cases hk:k=.free
  ·subst hk;obtain⟨c,hc⟩:=h (n,.free) Mg rfl;obtain⟨cl,e,h1,h2,h3⟩:=cT env r ((n,c)::cs) hr;refine⟨cl,?_,fun x c' q=>?_,fun y hy hf=>?_,fun x c' q=>?_⟩
   ·rw[List.forIn_cons];have e1:cellOf env n=pure c:=by unfold cellOf;rw[hc]
    simp only[beq_self_eq_true,if_true,e1,pure_bind];exact e
   ·rcases h1 x c' q with z | z
    ·exact .inl z
    ·rw[MT]at z;cases hx:x == n with
     |true=>
      rw[hx]at z;have:x=n:=by simpa using hx
      subst this;injection z with z
      subst z;exact .inl hc
     |false=>rw[hx]at z;exact .inr z
   ·rcases Mj.mp hy with rfl | hy
    ·exact h3 n c (by rw[MT,beq_self_eq_true])
    ·exact h2 y hy hf
   ·by_cases hx:x=n
    ·subst hx;exact h3 x c (by rw[MT,beq_self_eq_true])
    ·have hx':(x == n)=false:=by simpa using hx
     exact h3 x c' (by rw[MT,hx'];exact q)
  ·have hb:(k == NameKind.free)=false:=by simpa using hk
   obtain⟨cl,e,h1,h2,h3⟩:=cT env r cs hr;refine⟨cl,?_,h1,fun y hy hf=>?_,h3⟩
   ·rw[List.forIn_cons];simp only[hb,Ni,if_false,pure_bind];exact e
   ·rcases Mj.mp hy with rfl | hy
    ·exact absurd hf hk
    ·exact h2 y hy hf
theorem jO{env:Env}{scope:Scope}(h:∀y∈scope.names,y.2=.free->∃c,env.cells.lookup y.1=some c) :
  ∃cl,closureFor scope env=pure cl/\(∀x c,cl.lookup x=some c->env.cells.lookup x=some c)/\∀y∈scope.names,y.2=.free->∃c,cl.lookup y.1=some c:=by
 obtain⟨cl,e,h1,h2,_⟩:=cT env scope.names [] h;refine⟨cl,?_,fun x c q=>(h1 x c q).elim id fun z=>by simp at z,h2⟩;unfold closureFor;have e':(forIn scope.names ([]:List (Str×Addr)) fun(x:Str×NameKind) (r:List (Str×Addr))=>(if (x.2 == NameKind.free)=true then do let c <- cellOf env x.1;pure (Nl ((x.1,c)::r)) else pure (Nl r):Sem (ForInStep (List (Str×Addr)))))=pure cl:=e
 first
  |(rw[show (forIn scope.names ([]:List (Str×Addr)) _:Sem (List (Str×Addr)))=pure cl from e'];rfl)
  |(simp only[e'];rfl)
theorem nP{prog:Program}{w:World}{A:Around}{R:Result->Shared->Prop}{s:Shared}{JP target iter:Expr}{GA:List Expr}{scope:Scope}{pos:Pos}{it DK:Value}{env:Env}(I:Nat->Shared->Prop)
  (turn:∀ n s,I n s→wpAny (model prog w) A (pyNext it) (fun r s₁=>match r with
   |none=>R (.ok .next) s₁
   | some v=>wpAny (model prog w) A (letOwnedTupleGo target it v) (fun _ s₁'=>wpAny (model prog w) A (assign target env v) (fun _ s₂=>
     wpAny (model prog w) A (forIn GA true fun c r=>if r=true then do let ok ← isTrue c env (eval c env);pure (Nl ok) else pure (Nl r)) (fun ok s₃=>
      if ok=true then wpAny (model prog w) A (eval JP env) (fun x s₄=>wpAny (model prog w) A (call (.builtin "list.append") [DK,x]) (fun _ s₅=>∃m,m<n/\I m s₅) (fun _ _=>False) s₄) (fun _ _=>False) s₃
      else ∃m,m<n/\I m s₃) (fun _ _=>False) s₂) (fun _ _=>False) s₁') (fun _ _=>False) s₁) (fun _ _=>False) s)
  (n:Nat) (h:I n s) :
  codeAny (model prog w) A (.compLoop (.ListComp JP [⟨target,iter,GA,0⟩] scope pos) 0 it DK env) R s:=by
 have no:∀{P:Value->Shared->Prop} (x:Value) (s':Shared),False->P x s':=fun _ _ f=>f.elim;refine codeAny_loop rfl I (fun n s hI=>?_) n h;show wpAny _ A ((compTurn (.ListComp JP [⟨target,iter,GA,0⟩] scope pos) 0 it DK env).onRaise (fun x=>do noteFrame x env;theTreesLotGoes x)) _ _ s;refine wpAny_noted ?_;rw[compTurn_list];refine wpAny_bind (wpAny_standAt (wpAny_bind (wpAny_mono (turn n s hI) (fun r s₁ h₁=>?_) no)));cases r with
 |none=>exact wpAny_pure h₁
 |some v=>
  refine wpAny_bind (wpAny_mono h₁ (fun _ s₁' h₁'=>?_) no);refine wpAny_bind (wpAny_mono h₁' (fun _ s₂ h₂=>wpAny_bind (wpAny_mono h₂ (fun ok s₃ h₃=>?_) no)) no);cases ok with
  |false=>exact wpAny_pure ⟨rfl,h₃⟩
  |true=>exact wpAny_bind (wpAny_bind (wpAny_mono h₃ (fun x s₄ h₄=>wpAny_bind (wpAny_mono h₄ (fun _ s₅ h₅=>wpAny_pure (wpAny_pure ⟨rfl,h₅⟩)) no)) no))
theorem b8(env:Env):∀(names:List (Str×NameKind)) (x:Str) (k:NameKind),
  (names.map fun(n,k)=>if (k == NameKind.free&&env.scope.kind == .function&&env.kindOf n == some .cell) then (n,OV) else (n,k)).lookup x=some k ->
  ∃k0,names.lookup x=some k0/\(k=k0\/(k0=.free/\k=.cell))
 |[],x,k,h=>by simp at h
 |(n,k1)::r,x,k,h=>by
  have h:List.lookup x ((if (k1 == NameKind.free&&env.scope.kind == .function&&env.kindOf n == some .cell)=true then (n,OV) else (n,k1))::r.map fun(n,k)=>if (k == NameKind.free&&env.scope.kind == .function&&env.kindOf n == some .cell) then (n,OV) else (n,k))=some k:=h;cases hx:x == n with
  |true=>
   by_cases hc:(k1 == NameKind.free&&env.scope.kind == .function&&env.kindOf n == some .cell)=true
   ·rw[if_pos hc,MT,hx]at h;injection h with h
    have hk:k1=.free:=by simp only[ME,beq_iff_eq]at hc;exact hc.1.1
    exact⟨k1,by rw[MT,hx],.inr ⟨hk,h.symm⟩⟩
   ·rw[if_neg hc,MT,hx]at h;injection h with h
    exact⟨k1,by rw[MT,hx],.inl h.symm⟩
  |false=>
   by_cases hc:(k1 == NameKind.free&&env.scope.kind == .function&&env.kindOf n == some .cell)=true
   ·rw[if_pos hc,MT,hx]at h;obtain⟨k0,e,z⟩:=b8 env r x k h;exact⟨k0,by rw[MT,hx];exact e,z⟩
   ·rw[if_neg hc,MT,hx]at h;obtain⟨k0,e,z⟩:=b8 env r x k h;exact⟨k0,by rw[MT,hx];exact e,z⟩
structure cI(X:Cx)(nm:List Str)(scope:Scope):Prop where
 kind:scope.kind=.function
 cell:∀y∈scope.names,y.2≠.cell
 names:∀y∈scope.names,y.2=.local->scope.names.lookup y.1=some .local
 free:∀y∈scope.names,y.2=.free->X.env.kindOf y.1=some .cell\/X.env.kindOf y.1=some .free
 apart:∀x∈nm,scope.names.lookup x≠some .local
 len:nm.length=X.N.length
 mask:∀(i:Nat) (x:Str),nm[i]?=some x->X.N[i]?=some x\/scope.names.lookup x=none
section
variable{X:Cx}{nm:List Str}{JP tg iter:Expr}{GA:List Expr}{scope:Scope}{pos:Pos}{own:List Str}{wi:TI}{g:TG}{tt:TT}{te:TE}
theorem mG{sy:List (Addr×Obj)}{s2:Shared}{σ:L2.St}{H2:Hp}{cl:List (Str×Addr)}{it:Addr}{fp:List Addr}{tn:Nat->Heap->Prop}{J:It}{Q:VK}{E:Value->Shared->Prop}{RR:Value->Addr->Result->Shared->Prop}
  (hc:X.calm=true) (S:cI X nm scope) (jP:∀x c,cl.lookup x=some c->X.env.cells.lookup x=some c) (vQ:∀y∈scope.names,y.2=.free->∃c,cl.lookup y.1=some c)
  (hg:∀cl C s H fp,PG (aP X nm scope own cl C s H fp) tg g) (ht:∀cl C s H fp,PTs (aP X nm scope own cl C s H fp) GA tt) (he:∀cl C s H fp,PE (aP X nm scope own cl C s H fp) JP te)
  (I2:Inv X sy σ H2 s2) (T:Turn X.prog X.w X.K tg J fp it tn) (st2:tn 0 s2.heap) (f2:∀b∈fp,lW X sy H2 b)
  (hR:∀ D,H2 D=none→∃ W:Nat→Nat→L2.St→Hp→Prop,
   (∃m,W 0 m (σ++Dk own.length none) (upd H2 D (.lst [])))/\∀i m σ' H',W i m σ' H' ->
    (J.stop i H'∧Q (.ref D) H')∨(J.go i H'∧∀ x H2,J.yld i H' x H2→g x σ' H2 fun σ2 H3=>tt σ2 H3 fun b H4=>if b=true
     then te σ2 H4 fun y H5=>∃DK,H5 D=some (.lst DK)/\DK.length<sizeLine/\∃m',m'<m/\W (i+1) m' σ2 (upd H5 D (.lst (DK++[y])))
     else ∃m',m'<m/\W (i+1) m' σ2 H4))
  (Ll:∀D C H6 s6,Inv X sy σ H6 s6->H6 C=none->C≠X.env.locals->X.s₀.heap.objs.size<=C->(∀x c,X.env.cells.lookup x=some c->c≠C)->(∀p∈X.pn++sy,p.1≠C)->(∃m,s6.heap.Ns C m)->Q (.ref D) H6->RR (.ref D) C (.ok .next) s6) :
  wpAny (model X.prog X.w) X.A (newList []) (fun DK s₃=>wpAny (model X.prog X.w) X.A (newFunctionEnv scope X.env.globals cl [] X.env.qual none .none (some X.env)) (fun cenv s₄=>codeAny (model X.prog X.w) X.A (.compStart (.ListComp JP [⟨tg,iter,GA,0⟩] scope pos) 0 (.ref it) DK { cenv with scope:=relabel scope X.env }) (RR DK cenv.locals) s₄) E s₃) E s2:=by
 have no:∀{P:Value->Shared->Prop} (x:Value) (s':Shared),False->P x s':=fun _ _ f=>f.elim;refine wpAny_newObj_type (wpAny_newFunctionEnv S.cell (by intro y hy;simp at hy) (fun h₁ hns₁ hsb₁=>?_) S.kind);dsimp only at hns₁ hsb₁ ⊢;have I3:Inv X sy σ (upd H2 s2.heap.objs.size (.lst [])) { s2 with heap:=s2.heap.push { cls:=.type "list",dict:=none,data:=.seq ([]:List Value).toArray } }:=I2.Fc (t':=s2.toks) (ys:=[]) (its:=[]) .nil (MR _)
 generalize hG2:s2.heap.push { cls:=.type "list",dict:=none,data:=.seq ([]:List Value).toArray }=G2 at hns₁ hsb₁ I3 ⊢
 have hC:G2.objs.size=s2.heap.objs.size+1:=by rw[<- hG2,OU]
 have up2:∀b o,s2.heap.get? b=some o->G2.get? b=some o:=fun b o e=>hG2▸Mf _ e;have up3:∀b o,G2.get? b=some o->h₁.get? b=some o:=fun b o e=>hsb₁.extBut b o (MC (Mi e)) (Mf _ e);have Lm:G2.get? G2.objs.size=none:=Heap.get?_none_of_le (Ds _);have fpo:∀b∈fp,∃o,s2.heap.get? b=some o:=fun b hb=>by obtain⟨o,e,_⟩:=T.obj 0 _ st2 b hb;exact⟨o,e⟩
 have fpC:∀b∈fp,b≠G2.objs.size:=fun b hb=>by obtain⟨o,e⟩:=fpo b hb;exact MC (Mi (up2 b o e))
 have H3C:(upd H2 s2.heap.objs.size (.lst [])) G2.objs.size=none:=I3.hok.fresh (Ds _);have fpD:∀b∈fp,b≠s2.heap.objs.size:=fun b hb=>by obtain⟨o,e⟩:=fpo b hb;exact MC (Mi e)
 have I0:∀b∈fp,b∉frs X.stack:=fun b hb z=>by
  rcases Mj.mp (I3.rm b z) with y | y
  ·exact(f2 b hb).2.1 y
  ·exact(f2 b hb).2.2.1 y
 have ok':(aP X nm scope own cl G2.objs.size { s2 with heap:=G2 } (upd H2 s2.heap.objs.size (.lst [])) fp).Ok:=by
  refine ⟨I3.ok.mod,S.kind,I3.ok.glob,I3.ok.blt,Ds _,fun x y c e1 e2=>I3.ok.inj x y c (jP x c e1) (jP y c e2),fun x hx=>?_,fun x c z=>(nomatch z),I3.ok.hd,I3.ok.frames,.inl rfl,
   fun b hb=>⟨fpC b hb,fun x c e=>(f2 b hb).2.2.2.2.1 x c (jP x c e)⟩,fun b o e=>I3.bs b o e,ML I3.ok.bsz I3.sz,fun b o e hb=>?_,fun b hb=>I0 b hb,I3.stack,I3.tF⟩
  ·have hx:(relabel scope X.env).names.lookup x=some .cell\/(relabel scope X.env).names.lookup x=some .free:=hx;have key:∀k,(relabel scope X.env).names.lookup x=some k->k≠.local->k=.cell\/k=.free->∃c,cl.lookup x=some c:=fun k hk _ hkk=>by
    obtain⟨k0,e0,z⟩:=b8 X.env scope.names x k hk;have m0:=PySem.mem_of_lookup e0;have f0:k0=.free:=by
     rcases z with z | z
     ·subst z;rcases hkk with q | q
      ·exact absurd q (S.cell _ m0)
      ·exact q
     ·exact z.1
    exact vQ (x,k0) m0 f0
   rcases hx with hx | hx
   ·exact key _ hx (by decide) (.inl rfl)
   ·exact key _ hx (by decide) (.inr rfl)
  ·rcases (f2 b hb).2.2.2.1 with z | z
   ·exact I3.ok.wR b o e z
   ·exact absurd (Mq (Mi e) (ML I3.ok.bsz z)) (MX _)
 have stat:∀{H':Hp},(∀b∈fp,H' b=none)->∀b∈fp,lW (aP X nm scope own cl G2.objs.size { s2 with heap:=G2 } (upd H2 s2.heap.objs.size (.lst [])) fp) [] H' b:=fun hn b hb=>⟨hn b hb,fpC b hb,I0 b hb,.inl hb,fun x c e=>(f2 b hb).2.2.2.2.1 x c (jP x c e),fun p hp=>(nomatch (show p∈([]:List (Addr×Obj)) from hp))⟩
 have I4:Inv (aP X nm scope own cl G2.objs.size { s2 with heap:=G2 } (upd H2 s2.heap.objs.size (.lst [])) fp) [] (σ++Dk own.length none) (upd H2 s2.heap.objs.size (.lst [])) { s2 with heap:=h₁,toks:=s2.toks+([]:List (Str×Value)).length }:=by
  refine⟨ok',rfl,I3.bare,Un.kept up3,⟨_,hns₁,fun i x v e1 e2 e3=>?_⟩,fun x c e=>?_,H3C,fun x c e=>I3.fC x c (jP x c e),fun p hp=>(nomatch (show p∈([]:List (Addr×Obj)) from hp)),I3.hok.kept up3,?_⟩
  ·have e1:(nm++own)[i]?=some x:=e1;have hi:i<σ.length:=by
    by_cases hi:i<σ.length
    ·exact hi
    ·rw[MJ (NR.mp hi),MV]at e2;split at e2<;>cases e2
   rw[Mn hi]at e2;rw[Mn (by rw[S.len,<- I3.len];exact hi)]at e1;have key:∀k,(relabel scope X.env).names.lookup x=some k->k=.local\/k=.cell\/k=.free->scope.names.lookup x=some .free/\(k=.cell\/k=.free):=fun k hk hkk=>by
    obtain⟨k0,e0,z⟩:=b8 X.env scope.names x k hk;have m0:=PySem.mem_of_lookup e0;have n1:k0≠.local:=fun y=>S.apart x (NF e1) (y▸e0);have n2:k0≠.cell:=S.cell _ m0;rcases z with z | z
    ·subst z;rcases hkk with q | q | q
     ·exact absurd q n1
     ·exact absurd q n2
     ·subst q;exact⟨e0,.inr rfl⟩
    ·obtain⟨z1,z2⟩:=z;subst z1;subst z2;exact⟨e0,.inl rfl⟩
   have hk:∃k,(relabel scope X.env).names.lookup x=some k/\(k=.cell\/k=.free)/\scope.names.lookup x=some .free:=by
    rcases (show (relabel scope X.env).names.lookup x=some .local\/(relabel scope X.env).names.lookup x=some .cell\/(relabel scope X.env).names.lookup x=some .free from e3) with q | q | q
    ·obtain⟨a,b⟩:=key _ q (.inl rfl);exact⟨_,q,b,a⟩
    ·obtain⟨a,b⟩:=key _ q (.inr (.inl rfl));exact⟨_,q,b,a⟩
    ·obtain⟨a,b⟩:=key _ q (.inr (.inr rfl));exact⟨_,q,b,a⟩
   obtain⟨k,hk1,hk2,hk3⟩:=hk;have m0:=PySem.mem_of_lookup hk3;obtain⟨c,hcc⟩:=vQ (x,.free) m0 rfl;obtain⟨m,hn,hl⟩:=I3.loc;have hout:=S.free (x,.free) m0 rfl;have Ln:Vis X.env.scope x:=by
    rcases hout with q | q
    ·exact .inr (.inl q)
    ·exact .inr (.inr q)
   have e1':X.N[i]?=some x:=by
    rcases S.mask i x e1 with z | z
    ·exact z
    ·rw[z]at hk3;cases hk3
   obtain⟨u,ru,lk⟩:=hl i x v e1' e2 Ln;refine⟨u,ru,.inr ⟨?_,c,hcc,?_⟩⟩
   ·rcases hk2 with q | q
    ·subst q;exact .inl hk1
    ·subst q;exact .inr hk1
   ·rcases lk with⟨q,_⟩ | ⟨_,c',e',z⟩
    ·rcases hout with y | y
     ·rw[q]at y;cases y
     ·rw[q]at y;cases y
    ·rw[jP x c hcc]at e';cases e';obtain⟨o,ho,hd⟩:=z;exact⟨o,up3 c o ho,hd⟩
  ·obtain⟨v,o,ho,hd⟩:=I3.cell x c (jP x c e);exact⟨v,o,up3 c o ho,hd⟩
  ·show (σ++Dk own.length none).length=(nm++own).length;rw[Mr,Mr,NP,I3.len,S.len]
 obtain⟨W,⟨m0,w0⟩,turn⟩:=hR s2.heap.objs.size I2.fresh;have st4:tn 0 h₁:=T.keep 0 _ _ st2 fun b hb o e=>up3 b o (up2 b o e);have Lo:∀b∈fp,(upd H2 s2.heap.objs.size (.lst [])) b=none:=fun b hb=>by rw[au (fpD b hb)];exact(f2 b hb).1
 have JQ:∀s₃:Shared,s₃={ s2 with heap:=h₁,toks:=s2.toks+([]:List (Str×Value)).length } ->
   codeAny (model X.prog X.w) X.A (.compLoop (.ListComp JP [⟨tg,iter,GA,0⟩] scope pos) 0 (.ref it) (.ref s2.heap.objs.size) (compEnvC scope cl G2.objs.size X.env))
    (RR (.ref s2.heap.objs.size) G2.objs.size) s₃:=by
  rintro s₃ rfl;refine nP (fun n s'=>∃i σ' H',Inv (aP X nm scope own cl G2.objs.size { s2 with heap:=G2 } (upd H2 s2.heap.objs.size (.lst [])) fp) [] σ' H' s'/\tn i s'.heap/\(∀b∈fp,H' b=none)/\W i n σ' H') ?_ m0
   ⟨0,_,_,I4,st4,Lo,w0⟩
  rintro n s5 ⟨i,σ5,H5,I5,st5,fr5,w5⟩;rcases turn i n σ5 H5 w5 with⟨stop,q⟩ | ⟨go,step⟩
  ·refine wpAny_mono (T.done (aP X nm scope own cl G2.objs.size { s2 with heap:=G2 } (upd H2 s2.heap.objs.size (.lst [])) fp) rfl rfl rfl hc i [] s5 σ5 H5 (fun _ _=>False) I5 (stat fr5) st5 stop) (fun r s6 hr6=>?_) no;obtain⟨hr,I6⟩:=hr6;subst hr;have I7:Inv X sy σ H5 s6:=I3.Ia (ch:=fp) I6.os I6.base I6.hok I6.bare fun b hb=>⟨(f2 b hb).2.2.2.1,(f2 b hb).2.1,(f2 b hb).2.2.2.2.1,(f2 b hb).2.2.2.2.2⟩;refine Ll _ _ H5 s6 I7 I6.free (NH (show X.env.locals<G2.objs.size from I3.lt)) I3.sz (fun x c e=>?_) (fun p hp=>?_) (let ⟨m,hn,_⟩:=I6.loc;⟨m,hn⟩) q
   ·obtain⟨v,z⟩:=I3.cell x c e;exact MC z.lt
   ·exact MC (Mi (I3.pin p hp).1)
  ·refine wpAny_mono (T.item (aP X nm scope own cl G2.objs.size { s2 with heap:=G2 } (upd H2 s2.heap.objs.size (.lst [])) fp) rfl rfl rfl hc i [] s5 σ5 H5 (fun _ _=>False) I5 (stat fr5) st5 go) (fun r s6 hr6=>?_) no;obtain⟨u,hr,h6⟩:=hr6;subst hr;refine wpAny_mono h6 (fun _ s7 h7=>?_) no;obtain⟨x,H7,I7,r7,y7,st7,fr7⟩:=h7;have I7':=I7.pinned (stat fr7) (T.obj _ _ st7);have again:∀{s9:Shared} {σ9:L2.St} {H9:Hp} {m':Nat},m'<n->Inv (aP X nm scope own cl G2.objs.size { s2 with heap:=G2 } (upd H2 s2.heap.objs.size (.lst [])) fp) ([]++jE fp s7.heap) σ9 H9 s9->W (i+1) m' σ9 H9 ->
     ∃m,m<n/\∃i σ' H',Inv (aP X nm scope own cl G2.objs.size { s2 with heap:=G2 } (upd H2 s2.heap.objs.size (.lst [])) fp) [] σ' H' s9/\tn i s9.heap/\(∀b∈fp,H' b=none)/\W i m σ' H':=fun {s9 σ9 H9 m'} hm I9 w9=>by
    refine⟨m',hm,i+1,σ9,H9,I9.gT,T.keep _ _ _ st7 fun b hb o e=>(I9.pin (b,o) (Mx _ (Mx _ (dh hb e)))).1,fun b hb=>?_,w9⟩;obtain⟨o,e,d⟩:=T.obj _ _ st7 b hb;exact(I9.pin (b,o) (Mx _ (Mx _ (dh hb e)))).2.1
   refine wpAny_mono (hg cl G2.objs.size _ _ fp _ s7 σ5 H7 x u _ I7' r7 (step x H7 y7)) (fun _ s8 h8=>?_) no;obtain⟨σ8,H8,I8,q8⟩:=h8;refine wpAny_mono (ht cl G2.objs.size _ _ fp _ s8 σ8 H8 _ I8 q8) (fun b s9 h9=>?_) no;obtain⟨H9,I9,q9⟩:=h9;cases b with
   |false=>rw[if_neg Mz]at q9 ⊢;obtain⟨m',hm,w9⟩:=q9;exact again hm I9 w9
   |true=>rw[if_pos rfl]at q9 ⊢;refine wpAny_mono (he cl G2.objs.size _ _ fp _ s9 σ8 H9 _ I9 q9) (fun y s10 h10=>?_) no;obtain⟨yv,H10,I10,r10,DK,hacc,Cv,m',hm,w10⟩:=h10;refine wpAny_mono (iC (X:=aP X nm scope own cl G2.objs.size { s2 with heap:=G2 } (upd H2 s2.heap.objs.size (.lst [])) fp) _ s10 σ8 H10 (.ref s2.heap.objs.size) [yv] (.ref s2.heap.objs.size) [y] (fun _ H'=>H'=upd H10 s2.heap.objs.size (.lst (DK++[yv]))) I10 rfl (.cons r10 .nil) ⟨_,DK,yv,rfl,rfl,hacc,Cv,rfl⟩) (fun _ s11 h11=>?_) no;obtain⟨_,H11,I11,_,e11⟩:=h11;subst e11;exact again hm I11 w10
 exact codeAny_compStart_list (JQ _ rfl) (T.self _ 0 _ _ _ st4 (JQ _ rfl))
theorem ua(hc:X.calm=true)(S:cI X nm scope)(hi:PI X tg iter wi)
  (hg:∀cl C s H fp,PG (aP X nm scope own cl C s H fp) tg g) (ht:∀cl C s H fp,PTs (aP X nm scope own cl C s H fp) GA tt) (he:∀cl C s H fp,PE (aP X nm scope own cl C s H fp) JP te)
  (hs:∀x,foldedSetIterable iter X.env x=pure x:=by intro _;rfl):PE X (.ListComp JP [⟨tg,iter,GA,0⟩] scope pos) (tLC wi own.length g tt te):=by
 intro sy s σ H Q I h;obtain⟨cl,hclos,jP,vQ⟩:=jO (env:=X.env) (scope:=scope) fun y hy hf=>I.ok.has y.1 (S.free y hy hf);rw[eval_ListComp];refine wpAny_comprehension_free (use:=none) rfl hs hclos S.kind S.names (thn (hi sy s σ H _ I h) fun v s1 h1=>thn h1 fun itv s2 h2=>?_);obtain⟨it,fp,tn,J,H2,e,I2,T,st2,f2,hR⟩:=h2;subst e;refine mG (Q:=Q) (RR:=fun DK C=>compPost (model X.prog X.w) X.A X.xe none (EP X sy σ Q) DK C) hc S jP vQ hg ht he I2 T st2 f2 hR ?_;intro D C H6 s6 I6 hCn hCL hCs hCc hCp hns q;obtain⟨m,hn⟩:=hns;refine⟨m,hn,fun h' hs'=>⟨.ref D,H6,I6.turned (t':=s6.toks) (fun b o hb e=>(hs'.2 b hb).trans e) hCn hCL (.inr hCs) hCc hCp,rfl,q⟩⟩
theorem i7{i:Nat}{y:Str}{py JU:Pos}(hN:X.N.Nodup)(hi':X.N[i]?=some y)(hy:Loc X.env.scope y)(hc:X.calm=true)(S:cI X nm scope)(hi:PI X tg iter wi)
  (hg:∀cl C s H fp,PG (aP X nm scope own cl C s H fp) tg g) (ht:∀cl C s H fp,PTs (aP X nm scope own cl C s H fp) GA tt) (he:∀cl C s H fp,PE (aP X nm scope own cl C s H fp) JP te)
  (hsw:swapsWith (.ListComp JP [⟨tg,iter,GA,0⟩] scope pos) (some (.Name y py)) JU.line X.env=pure true:=by rfl)
  (hs:∀x,foldedSetIterable iter X.env x=pure x:=by intro _;rfl) (hf:X.fn y=true\/X.env.scope.names.lookup y=some .local:=by trivial) :
  PS X (.Assign [.Name y py] (.ListComp JP [⟨tg,iter,GA,0⟩] scope pos) JU) (vj (tLC wi own.length g tt te) (gR i)):=by
 intro sy s σ H Dn I h;obtain⟨cl,hclos,jP,vQ⟩:=jO (env:=X.env) (scope:=scope) fun y hy hf=>I.ok.has y.1 (S.free y hy hf);rw[exec_Assign_Name_used _ _ _ _ hsw];refine wpAny_bind (wpAny_standAt (wpAny_bind ?_));show wpAny _ X.A (do let _ <- comprehension (.ListComp JP [⟨tg,iter,GA,0⟩] scope pos) scope X.env _ (newList []) false (eval iter X.env) (some (assign (.Name y py) X.env))) _ _ s;refine wpAny_bind (wpAny_mono (wpAny_comprehension_free (use:=some (assign (.Name y py) X.env)) (Q:=fun _ s'=>SP X sy Dn .next s') rfl hs hclos S.kind S.names
  (thn (hi sy s σ H _ I h) fun v s1 h1=>thn h1 fun itv s2 h2=>?_)) (fun _ s' hq=>wpAny_pure (wpAny_pure hq)) fun _ _ e=>e)
 obtain⟨it,fp,tn,J,H2,e,I2,T,st2,f2,hR⟩:=h2;subst e;refine mG (Q:=fun x H1=>gR i x σ H1 Dn.nx) (RR:=fun DK C=>compPost (model X.prog X.w) X.A X.xe (some (assign (.Name y py) X.env)) (fun _ s'=>SP X sy Dn .next s') DK C) hc S jP vQ hg ht he I2 T st2 f2 hR ?_;intro D C H6 s6 I6 hCn hCL hCs hCc hCp hns q;obtain⟨m,hn⟩:=hns;show wpAny _ X.A (assign (.Name y py) X.env (.ref D)) _ _ _;refine wpAny_assign_Name (mh I6 hN hi' hy (v:=.ref D) rfl (fun s7 I7 h7=>?_) hf);obtain⟨a,sb,ha⟩:=h7;have hCa:C≠a:=by
  rcases ha with ha | ha
  ·rw[ha];exact hCL
  ·exact Ne.symm (hCc y a ha)
 refine⟨m,hn.sameBut sb hCa,fun h' hs'=>⟨_,H6,I7.turned (t':=s7.toks) (fun b o hb e=>(hs'.2 b hb).trans e) hCn hCL (.inr hCs) hCc hCp,q⟩⟩
end
mutual
noncomputable def toPy:Dat->PyData
 |.non=>.none
 |.bl b=>.bool b
 |.int i=>.int i
 |.str s=>.str ⟨s.toArray⟩
 |.tup xs=>.tuple (bC xs)
 |.lst xs=>.list (bC xs)
 |.dct _ _=>.dict []
 |.dcp _ _=>.dict []
 |.exc _=>.dict []
 |.fn _=>.dict []
noncomputable def bC:List Dat->List PyData
 |[]=>[]
 |x::xs=>toPy x::bC xs
end
mutual
theorem g_:∀a b:Dat,M8 (toPy a) (toPy b)=Dm.eqD a b
 |.non,b=>by cases b<;>simp[toPy,M8,Dm.eqD]
 |.bl x,b=>by cases b<;>simp[toPy,M8,Dm.eqD,Dm.b2i]
 |.int x,b=>by cases b<;>simp[toPy,M8,Dm.eqD,Dm.b2i]
 |.str x,b=>by
  cases b with
  |str y=>
   simp only[toPy,M8,Dm.eqD];rw[Oj];simp only[beq_iff_eq];constructor
   ·intro h;have h:=congrArg (fun s:Str=>s.cps.toList) h
    simpa using h
   ·rintro rfl;rfl
  |_=>simp[toPy,M8,Dm.eqD]
 |.tup xs,b=>by
  cases b with
  |tup ys=>simp only[toPy,M8,Dm.eqD];exact iH xs ys
  |_=>simp[toPy,M8,Dm.eqD]
 |.lst xs,b=>by
  cases b with
  |lst ys=>simp only[toPy,M8,Dm.eqD];exact iH xs ys
  |_=>simp[toPy,M8,Dm.eqD]
 |.dct ks vs,b=>by cases b<;>simp[toPy,M8,Dm.eqD]
 |.dcp ks vs,b=>by cases b<;>simp[toPy,M8,Dm.eqD]
 |.exc C,b=>by cases b<;>simp[toPy,M8,Dm.eqD]
 |.fn C,b=>by cases b<;>simp[toPy,M8,Dm.eqD]
theorem iH:∀a b:List Dat,OC (bC a) (bC b)=Dm.rK a b
 |[],b=>by cases b<;>simp[bC,OC,Dm.rK]
 |x::xs,b=>by
  cases b with
  |nil=>simp[bC,OC,Dm.rK]
  |cons y ys=>simp only[bC,OC,Dm.rK];rw[g_ x y,iH xs ys]
end
theorem ya{s:List Nat}(h:(s.all fun c=>decide (c<128))=true):PyData.strOk ⟨s.toArray⟩=true:=by unfold PyData.strOk;rw[Array.all_eq_true'];intro c hc;have h1:=Ny.mp h c (by simpa using hc);have h2:c<128:=of_decide_eq_true h1;exact decide_eq_true (by lia)
theorem bD{P:Program}{w:World}{H:Hp}{h:Heap}(ok:HOk P w H h):∀(n:Nat),
  (∀(v:V) (d:Dat) (u:Value),Rep H v d->RelV v u->Dm.okD n d=true->∃as,Reads h u (toPy d) as/\(toPy d).canLay0=true/\(toPy d).depth<=n) /\
  (∀(vs:List V) (ds:List Dat) (us:List Value),ay H vs ds->Vals vs us->ds.all (Dm.okD n)=true->∃as,ReadsAll h us (bC ds) as/\OG (bC ds)=true/\NC (bC ds)<=n):=by
 intro n
 induction n with
 |zero=>
  have one:∀(v:V) (d:Dat) (u:Value),Rep H v d->RelV v u->Dm.okD 0 d=true->∃as,Reads h u (toPy d) as/\(toPy d).canLay0=true/\(toPy d).depth<=0:=by
   intro v d u r rv k;cases r with
   |non=>cases rv;exact⟨_,.none,rfl,Ds _⟩
   |bl b=>cases rv;exact⟨_,.bool b,rfl,Ds _⟩
   |int i=>obtain⟨t,rfl⟩:=rv;exact⟨_,.int i t,rfl,Ds _⟩
   |str s=>obtain⟨t,rfl⟩:=rv;exact⟨_,.str _ t,ya k,Ds _⟩
   |tup _ _=>cases k
   |lst _ _=>cases k
   |dct _ _ _=>cases k
   |dcp _ _ _=>cases k
   |exc _=>cases k
   |fn _=>cases k
  refine⟨one,fun vs ds=>?_⟩
  induction ds generalizing vs with
  |nil=>intro us r rv _;cases r;cases rv;exact⟨_,.nil,rfl,Ds _⟩
  |cons d ds ih=>
   intro us r rv k;cases r with
   |cons r rs=>
    cases rv with
    |cons q qs=>rw[OW,ME]at k;obtain⟨a1,h1,h2,h3⟩:=one _ _ _ r q k.1;obtain⟨a2,h4,h5,h6⟩:=ih _ _ rs qs k.2;exact⟨_,.cons h1 h4,by simp[bC,OG,h2,h5],by simp only[bC,NC];lia⟩
 |succ n ih=>
  have one:∀(v:V) (d:Dat) (u:Value),Rep H v d->RelV v u->Dm.okD (n+1) d=true->∃as,Reads h u (toPy d) as/\(toPy d).canLay0=true/\(toPy d).depth<=n+1:=by
   intro v d u r rv k;cases r with
   |non=>cases rv;exact⟨_,.none,rfl,MR _⟩
   |bl b=>cases rv;exact⟨_,.bool b,rfl,MR _⟩
   |int i=>obtain⟨t,rfl⟩:=rv;exact⟨_,.int i t,rfl,MR _⟩
   |str s=>obtain⟨t,rfl⟩:=rv;exact⟨_,.str _ t,ya k,MR _⟩
   |tup q rs=>cases rv;obtain⟨z,its,vr,ob,e,hc,m,hd⟩:=ok _ _ q;obtain⟨as,h1,h2,h3⟩:=ih.2 _ _ _ rs vr k;exact⟨_,.tuple e hc hd h1,h2,by simp only[toPy,PyData.depth];lia⟩
   |lst q rs=>cases rv;obtain⟨z,its,m,vr,e⟩:=q.ok ok;obtain⟨as,h1,h2,h3⟩:=ih.2 _ _ _ rs vr k;exact⟨_,.list e rfl rfl h1,h2,by simp only[toPy,PyData.depth];lia⟩
   |dct _ _ _=>cases k
   |dcp _ _ _=>cases k
   |exc _=>cases k
   |fn _=>cases k
  refine⟨one,fun vs ds=>?_⟩
  induction ds generalizing vs with
  |nil=>intro us r rv _;cases r;cases rv;exact⟨_,.nil,rfl,MR _⟩
  |cons d ds ih=>
   intro us r rv k;cases r with
   |cons r rs=>
    cases rv with
    |cons q qs=>rw[OW,ME]at k;obtain⟨a1,h1,h2,h3⟩:=one _ _ _ r q k.1;obtain⟨a2,h4,h5,h6⟩:=ih _ _ rs qs k.2;exact⟨_,.cons h1 h4,by simp[bC,OG,h2,h5],by simp only[bC,NC];lia⟩
theorem fO.full{H0 H:Hp}(s:ao H0 H){v:V}{d:Dat}(r:fO H0 H v d):Rep H v d:=by
 rcases r with r | ⟨a,rfl,w⟩
 ·exact r.mono s
 ·cases d with
  |lst ds=>obtain⟨xs,q,rs⟩:=w;exact .lst (.inl q) (rs.mono s)
  |dct ks ds=>obtain⟨kvs,q,e,rs⟩:=w;exact .dct q e (rs.mono s)
  |dcp ks ds=>obtain⟨kvs,q,e,rs⟩:=w;exact .dcp q (e.mono s) (rs.mono s)
  |_=>exact MN w
def Bx(neg:Bool):R2:=fun x y H Q=>∃dx dy,Rep H x dx/\Rep H y dy/\Dm.okD 8 dx=true/\Dm.okD 8 dy=true/\Q (.bl (if neg then !Dm.eqD dx dy else Dm.eqD dx dy)) H
section
variable{X:Cx}
section
variable{k:Nat}
theorem yb(hr:aW k X.A):OpR X (compareOp .Eq) (Bx false):=by intro sy s σ H x y v u Q I rx ry h;obtain⟨dx,dy,r1,r2,k1,k2,q⟩:=h;obtain⟨as,h1,h2,h3⟩:=(bD I.hok 8).1 x dx v r1 rx k1;obtain⟨bs,h4,h5,h6⟩:=(bD I.hok 8).1 y dy u r2 ry k2;have hu:=hr.units;refine PySem.SeqAt.compareEq_reads h1 h4 h2 h5 (by lia) ?_;rw[g_];exact⟨.bl (Dm.eqD dx dy),H,I,rfl,q⟩
theorem yc(hr:aW k X.A):OpR X (compareOp .NotEq) (Bx true):=by intro sy s σ H x y v u Q I rx ry h;obtain⟨dx,dy,r1,r2,k1,k2,q⟩:=h;obtain⟨as,h1,h2,h3⟩:=(bD I.hok 8).1 x dx v r1 rx k1;obtain⟨bs,h4,h5,h6⟩:=(bD I.hok 8).1 y dy u r2 ry k2;have hu:=hr.units;refine PySem.SeqAt.compareNe_reads h1 h4 h2 h5 (by lia) ?_;rw[g_];exact⟨.bl (!Dm.eqD dx dy),H,I,rfl,q⟩
def By(neg:Bool):R2:=fun x y H Q=>∃dx ds,Rep H x dx/\(Rep H y (.lst ds)\/Rep H y (.tup ds))/\Dm.okD 8 dx=true/\ds.all (Dm.okD 7)=true/\Q (.bl (if neg then !Dm.inD dx ds else Dm.inD dx ds)) H
theorem eE(x:Dat):∀ds:List Dat,((bC ds).any fun y=>M8 y (toPy x))=Dm.inD x ds
 |[]=>rfl
 |d::ds=>by have:=eE x ds;unfold Dm.inD at this ⊢;simp only[bC,Ng,g_];rw[this]
theorem FA(hr:aW k X.A):OpR X (compareOp .In) (By false):=by
 intro sy s σ H x y v u Q I rx ry h;obtain⟨dx,ds,r1,r2,k1,k2,q⟩:=h;obtain⟨as,h1,h2,h3⟩:=(bD I.hok 8).1 x dx v r1 rx k1;have hu:=hr.units;rcases r2 with r2 | r2
 ·obtain⟨bs,h4,h5,h6⟩:=(bD I.hok 8).1 y (.lst ds) u r2 ry k2;have h6:NC (bC ds)+1<=8:=h6;refine PySem.SeqAt.in_list_reads h4 h1 h5 h2 (by lia) ?_;rw[eE];exact⟨.bl (Dm.inD dx ds),H,I,rfl,q⟩
 ·obtain⟨bs,h4,h5,h6⟩:=(bD I.hok 8).1 y (.tup ds) u r2 ry k2;have h6:NC (bC ds)+1<=8:=h6;refine PySem.SeqAt.in_tuple_reads h4 h1 h5 h2 (by lia) ?_;rw[eE];exact⟨.bl (Dm.inD dx ds),H,I,rfl,q⟩
theorem mH(hr:aW k X.A):OpR X (compareOp .NotIn) (By true):=by
 intro sy s σ H x y v u Q I rx ry h;obtain⟨dx,ds,r1,r2,k1,k2,q⟩:=h;obtain⟨as,h1,h2,h3⟩:=(bD I.hok 8).1 x dx v r1 rx k1;have hu:=hr.units;rcases r2 with r2 | r2
 ·obtain⟨bs,h4,h5,h6⟩:=(bD I.hok 8).1 y (.lst ds) u r2 ry k2;have h6:NC (bC ds)+1<=8:=h6;refine PySem.SeqAt.notIn_list_reads h4 h1 h5 h2 (by lia) ?_;rw[eE];exact⟨.bl (!Dm.inD dx ds),H,I,rfl,q⟩
 ·obtain⟨bs,h4,h5,h6⟩:=(bD I.hok 8).1 y (.tup ds) u r2 ry k2;have h6:NC (bC ds)+1<=8:=h6;refine PySem.SeqAt.notIn_tuple_reads h4 h1 h5 h2 (by lia) ?_;rw[eE];exact⟨.bl (!Dm.inD dx ds),H,I,rfl,q⟩
end
end
section
variable{H0 H:Hp}{ds:List Dat}{v:V}
theorem az{i:Int}(r:fO H0 H v (.int i)):v=.int i:=by
 rcases r with r | ⟨a,_,w⟩
 ·exact Rep.isInt r
 ·exact MN w
theorem uc{b:Bool}(r:fO H0 H v (.bl b)):v=.bl b:=by
 rcases r with r | ⟨a,_,w⟩
 ·exact Rep.nK r
 ·exact MN w
theorem bu(s:ao H0 H)(r:fO H0 H v (.lst ds)):∃a xs,v=.ref a/\Rd H a (.lst xs)/\ay H0 xs ds:=by
 rcases r with r | ⟨a,e,xs,q,rs⟩
 ·cases r with
  |lst q rs=>exact⟨_,_,rfl,ao.rd s q,rs⟩
 ·exact⟨a,xs,e,.inl q,rs⟩
theorem eG(s:ao H0 H)(r:fO H0 H v (.tup ds)):∃a xs,v=.ref a/\H a=some (.tup xs)/\ay H0 xs ds:=by
 rcases r with r | ⟨a,_,w⟩
 ·cases r with
  |tup q rs=>exact⟨_,_,rfl,s _ _ q,rs⟩
 ·exact MN w
theorem FD:OpD (rI0 fun i j=>.int (i-j)) Dm.gS:=by
 intro H0 H x y dx dy z Q s rx ry e k;unfold Dm.gS at e;split at e
 ·cases e;cases az rx;cases az ry;exact⟨_,_,rfl,rfl,k _ H0 H (aG.refl s) (.int _)⟩
 ·cases e
theorem Dh:OpD (rI0 fun i j=>.bl (decide (i<j))) Dm.gLt:=by
 intro H0 H x y dx dy z Q s rx ry e k;unfold Dm.gLt at e;split at e
 ·cases e;cases az rx;cases az ry;exact⟨_,_,rfl,rfl,k _ H0 H (aG.refl s) (.bl _)⟩
 ·cases e
theorem yd:OpD (rI0 fun i j=>.bl (decide (i<=j))) Dm.gLe:=by
 intro H0 H x y dx dy z Q s rx ry e k;unfold Dm.gLe at e;split at e
 ·cases e;cases az rx;cases az ry;exact⟨_,_,rfl,rfl,k _ H0 H (aG.refl s) (.bl _)⟩
 ·cases e
theorem Di:OpD (rI0 fun i j=>.bl (decide (j<i))) Dm.gGt:=by
 intro H0 H x y dx dy z Q s rx ry e k;unfold Dm.gGt at e;split at e
 ·cases e;cases az rx;cases az ry;exact⟨_,_,rfl,rfl,k _ H0 H (aG.refl s) (.bl _)⟩
 ·cases e
theorem I_:OpD (rI0 fun i j=>.bl (decide (j<=i))) Dm.gGe:=by
 intro H0 H x y dx dy z Q s rx ry e k;unfold Dm.gGe at e;split at e
 ·cases e;cases az rx;cases az ry;exact⟨_,_,rfl,rfl,k _ H0 H (aG.refl s) (.bl _)⟩
 ·cases e
theorem FF:OpD (rI (fun _ j=>0<j) fun i j=>.int (i % j)) Dm.fM:=by
 intro H0 H x y dx dy z Q s rx ry e k;unfold Dm.fM at e;split at e
 ·split at e
  ·rename_i hj;cases e;cases az rx;cases az ry;exact⟨_,_,rfl,rfl,hj,k _ H0 H (aG.refl s) (.int _)⟩
  ·cases e
 ·cases e
theorem FG:OpD (rI Im fun i j=>.int (i ^ j.toNat)) Dm.fN:=by
 intro H0 H x y dx dy z Q s rx ry e k;unfold Dm.fN at e;split at e
 ·split at e
  ·rename_i hj;cases e;cases az rx;cases az ry;exact⟨_,_,rfl,rfl,⟨hj.1,hj.2.1,Nat.lt_trans hj.2.2 (by decide)⟩,k _ H0 H (aG.refl s) (.int _)⟩
  ·cases e
 ·cases e
end
section
variable{X:Cx}
def Dj(i j:Int):Prop:=0<j/\j<Dm.gX
theorem ye:OpR X (binaryOp .FloorDiv) (rI Dj fun i j=>.int (i / j)):=opI fun i j _ _ _ _ _ hc q=>by
 have h:j.natAbs.log2<9000:=by
  have h1:j.natAbs<2 ^ 200:=by
   have:=hc.2;unfold Dm.gX at this;have h2:=hc.1;have e:(2:Nat) ^ 200=1606938044258990275541962092341162602522202993782792835301376:=by decide +kernel
   omega
  have h3:j.natAbs≠0:=by have:=hc.1;omega
  have:=(Nat.log2_lt h3).mpr h1;omega
 have e:i.fdiv j=i / j:=Int.fdiv_eq_ediv_of_nonneg i (OX hc.1);rw[<- e]at q;exact floordiv_int (Int.ne_of_gt hc.1) q (.inl (PyProof.noPylong_of_log2 h))
end
theorem FH:OpD (rI Dj fun i j=>.int (i / j)) Dm.rL:=by
 intro H0 H x y dx dy z Q s rx ry e k;unfold Dm.rL at e;split at e
 ·split at e
  ·rename_i hj;cases e;cases az rx;cases az ry;exact⟨_,_,rfl,rfl,hj,k _ H0 H (aG.refl s) (.int _)⟩
  ·cases e
 ·cases e
def yf:R2:=fun x y H Q=>∃l b xs zs,x=.ref l/\y=.ref b/\Rd H l (.lst xs)/\Rd H b (.lst zs)/\xs.length+zs.length<=sizeLine/\∀p,H p=none->Q (.ref p) (upd H p (.lst (xs++zs)))
def yg:R2:=fun x y H Q=>∃l k xs,x=.ref l/\y=.int k/\Rd H l (.lst xs)/\-(2 ^ 63)<=k/\k<2 ^ 63/\xs.length*k.toNat<=sizeLine /\
 ∀p,H p=none->Q (.ref p) (upd H p (.lst (Dk k.toNat xs).flatten))
section
variable{X:Cx}
theorem BA:OpR X (binaryOp .Add) yf:=by
 intro sy s σ H x y v u Q I rx ry h;obtain⟨l,b,xs,zs,rfl,rfl,hH,hB,hz,q⟩:=h;cases rx;cases ry;obtain⟨z,its,n,r,e⟩:=hH.ok I.hok;obtain⟨z2,its2,n2,r2,e2⟩:=hB.ok I.hok;have hl:=r.length;have hl2:=r2.length;refine PySem.P.add_list e e2 ?_ (by rw[Mk,Mk];lia);have ea:its.toArray++its2.toArray=(its++its2).toArray:=by simp
 rw[ea];exact⟨.ref _,_,I.Fc (t':=s.toks) (r.append r2) (by rw[Mr];lia),rfl,q _ I.fresh⟩
theorem BB:OpR X (binaryOp .Mult) yg:=by
 intro sy s σ H x y v u Q I rx ry h;obtain⟨l,k,xs,rfl,rfl,hH,h1,h2,hz,q⟩:=h;cases rx;obtain⟨t,rfl⟩:=ry;obtain⟨z,its,n,r,e⟩:=hH.ok I.hok;have hl:=r.length;have Cv:its.toArray.size*k.toNat<=sizeLine:=by rw[Mk,<- hl];exact hz
 have hcap:¬its.toArray.size*k.toNat>(2 ^ 63-1) / 8:=by
  have:(sizeLine:Nat)<=(2 ^ 63-1) / 8:=by decide
  lia
 have hfit:¬(!Builtin.List.listFitsIndex k)=true:=by rw[fitsIndex_both h1 h2];exact Mz
 have Ja:¬N3 (its.toArray.size*k.toNat)=true:=by rw[xE Cv];exact Mz
 have hnew:O7 (fun x1 x2=>x1++x2) #[] (Dk (if its.toArray.isEmpty=true then 0 else k.toNat) its.toArray)=(Dk k.toNat its).flatten.toArray:=by
  have f0:∀m:Nat,O7 (fun x1 x2=>x1++x2) #[] (Dk m its.toArray)=(Dk m its).flatten.toArray:=fun m=>by have:=foldl_rep its m [];rw[NX]at this;exact this
  rw[f0];cases its with
  |nil=>simp
  |cons a r'=>rw[if_neg (by simp)]
 refine wpAny_binaryOp_repeat_ref (T := "list") (U := "int") (by decide) ⟨_,e,rfl⟩ (fun s'=>typeIs_int s' k t) noFill_list_mul F.fills_int_mul F.slot_int_rmul repeat_list F.slot_int_index.lookup
  (call_meets F.slot_int_rmul (typeIs_int s k t) F.entry_int_rmul (F.args_int_rmul_2 _ _) (int___rmul___int_list k t l its.toArray n)
   ⟨e,rfl,⟨_,e,rfl⟩,call_meets F.slot_list_mul ⟨_,e,rfl⟩ F.entry_list_mul (F.args_list_mul_2 _ _) (AutoListH.list___mul___list_int_3 l its.toArray n k t hfit hcap Ja) ⟨e,?_⟩⟩)
 rw[hnew];exact⟨.ref _,_,I.Fc (t':=s.toks) (r.rep k.toNat) (by rw[len_rep,Nat.mul_comm];exact hz),rfl,q _ I.fresh⟩
theorem BC:OpR X (binaryOp .Add) (fun x y H Q=>rI0 (fun i j=>.int (i+j)) x y H Q\/yf x y H Q):=EV.or BA
theorem BE:OpR X (binaryOp .Mult) (fun x y H Q=>rI xq (fun i j=>.int (i*j)) x y H Q\/yg x y H Q):=EX.or BB
end
theorem FJ:OpD (fun x y H Q=>rI0 (fun i j=>.int (i+j)) x y H Q\/yf x y H Q) Dm.bO:=by
 intro H0 H x y dx dy z Q s rx ry e k;unfold Dm.bO at e;split at e
 ·cases e;cases az rx;cases az ry;exact .inl ⟨_,_,rfl,rfl,k _ H0 H (aG.refl s) (.int _)⟩
 ·split at e
  ·rename_i hz;cases e;obtain⟨a,us,rfl,qa,ra⟩:=bu s rx;obtain⟨b,ws,rfl,qb,rb⟩:=bu s ry;refine .inr ⟨a,b,us,ws,rfl,rfl,qa,qb,by rw[ra.length,rb.length];exact g7 hz,fun p hp=>?_⟩;exact k _ _ _ (aG.jr s hp) ⟨p,rfl,hp,s.free hp,_,aq,ra.append rb⟩
  ·cases e
 ·cases e
theorem FL:OpD (fun x y H Q=>rI xq (fun i j=>.int (i*j)) x y H Q\/yg x y H Q) Dm.fL:=by
 intro H0 H x y dx dy z Q s rx ry e k;unfold Dm.fL at e;split at e
 ·split at e
  ·rename_i hj;cases e;cases az rx;cases az ry;exact .inl ⟨_,_,rfl,rfl,hj,k _ H0 H (aG.refl s) (.int _)⟩
  ·cases e
 ·split at e
  ·rename_i hz;cases e;cases az ry;obtain⟨a,us,rfl,qa,ra⟩:=bu s rx;obtain⟨h1,h2,h3⟩:=hz;unfold Dm.BIG at h1 h2;refine .inr ⟨a,_,us,rfl,rfl,qa,by lia,by lia,by rw[ra.length];exact g7 h3,fun p hp=>?_⟩;exact k _ _ _ (aG.jr s hp) ⟨p,rfl,hp,s.free hp,_,aq,ra.rep _⟩
  ·cases e
 ·cases e
theorem Dl:OpD (Bx false) Dm.gEq:=by
 intro H0 H x y dx dy z Q s rx ry e k;unfold Dm.gEq at e;split at e
 ·rename_i hk;rw[ME]at hk;cases e;exact⟨dx,dy,rx.full s,ry.full s,hk.1,hk.2,k _ H0 H (aG.refl s) (.bl _)⟩
 ·cases e
theorem Dq:OpD (Bx true) Dm.gNe:=by
 intro H0 H x y dx dy z Q s rx ry e k;unfold Dm.gNe at e;split at e
 ·rename_i hk;rw[ME]at hk;cases e;exact⟨dx,dy,rx.full s,ry.full s,hk.1,hk.2,k _ H0 H (aG.refl s) (.bl _)⟩
 ·cases e
theorem Jb:OpD (By false) Dm.gIn:=by
 intro H0 H x y dx dy z Q s rx ry e k;unfold Dm.gIn at e;split at e
 ·split at e
  ·rename_i hk;rw[ME]at hk;cases e;exact⟨dx,_,rx.full s,.inl (ry.full s),hk.1,hk.2,k _ H0 H (aG.refl s) (.bl _)⟩
  ·cases e
 ·split at e
  ·rename_i hk;rw[ME]at hk;cases e;exact⟨dx,_,rx.full s,.inr (ry.full s),hk.1,hk.2,k _ H0 H (aG.refl s) (.bl _)⟩
  ·cases e
 ·cases e
theorem pH:OpD (By true) Dm.cG:=by
 intro H0 H x y dx dy z Q s rx ry e k;unfold Dm.cG at e;split at e
 ·split at e
  ·rename_i hk;rw[ME]at hk;cases e;exact⟨dx,_,rx.full s,.inl (ry.full s),hk.1,hk.2,k _ H0 H (aG.refl s) (.bl _)⟩
  ·cases e
 ·split at e
  ·rename_i hk;rw[ME]at hk;cases e;exact⟨dx,_,rx.full s,.inr (ry.full s),hk.1,hk.2,k _ H0 H (aG.refl s) (.bl _)⟩
  ·cases e
 ·cases e
theorem ud{H0:Hp}{xs:List V}{ds:List Dat}{i:Int}{d:Dat}(rs:ay H0 xs ds)(e:Dm.atI ds i=some d):∃v,L2.atI xs i=some v/\Rep H0 v d:=by
 unfold Dm.atI at e;cases q:Dm.ixN ds.length i with
 |none=>rw[q]at e;cases e
 |some j=>rw[q]at e;obtain⟨v,hv,r⟩:=rs.get (i:=j) e;refine⟨v,?_,r⟩;unfold L2.atI;rw[rs.length];have q':L2.ixN ds.length i=some j:=q;rw[q'];exact hv
theorem Jc{K:gc}:OpD (fun x y H Q=>E8 K x y H Q\/Ir K x y H Q) Dm.gIx:=by
 intro H0 H x y dx dy z Q s rx ry e k;unfold Dm.gIx at e;split at e
 ·rename_i ds i;cases q:Dm.atI ds i with
  |none=>rw[q]at e;cases e
  |some d=>rw[q]at e;cases e;cases az ry;obtain⟨a,us,rfl,qa,ra⟩:=bu s rx;obtain⟨v,hv,rv⟩:=ud ra q;exact .inl ⟨a,us,i,v,rfl,rfl,.inl qa,hv,k _ H0 H (aG.refl s) rv⟩
 ·rename_i ds i;cases q:Dm.atI ds i with
  |none=>rw[q]at e;cases e
  |some d=>rw[q]at e;cases e;cases az ry;obtain⟨a,us,rfl,qa,ra⟩:=eG s rx;obtain⟨v,hv,rv⟩:=ud ra q;exact .inr ⟨a,us,i,v,rfl,rfl,.inl (.inl qa),hv,k _ H0 H (aG.refl s) rv⟩
 ·cases e
theorem FO{K:gc}:CallD (fun xs H Q=>∃p ys,xs=[.ref p]/\(SqL K H p ys\/SqT K H p ys)/\Q (.int ys.length) H) Dm.d9:=by
 intro H0 H vs ds z Q s rs e k;unfold Dm.d9 at e;split at e
 ·cases e;cases rs with
  |cons r rr=>cases rr;obtain⟨a,us,rfl,qa,ra⟩:=bu s r;exact⟨a,us,rfl,.inl (.inl qa),k _ H0 H (aG.refl s) (by rw[ra.length];exact .int _)⟩
 ·cases e;cases rs with
  |cons r rr=>cases rr;obtain⟨a,us,rfl,qa,ra⟩:=eG s r;exact⟨a,us,rfl,.inr (.inl (.inl qa)),k _ H0 H (aG.refl s) (by rw[ra.length];exact .int _)⟩
 ·cases e
theorem BF:CallD (fun xs H Q=>∃i j,xs=[.int i,.int j]/\Q (.int (if j<i then j else i)) H) Dm.gY:=by
 intro H0 H vs ds z Q s rs e k;unfold Dm.gY at e;split at e
 ·cases e;cases rs with
  |cons r rr=>
   cases rr with
   |cons r' rr=>cases rr;cases az r;cases az r';exact⟨_,_,rfl,k _ H0 H (aG.refl s) (.int _)⟩
 ·cases e
theorem BG:CallD (fun xs H Q=>∃i j,xs=[.int i,.int j]/\Q (.int (if j>i then j else i)) H) Dm.mE:=by
 intro H0 H vs ds z Q s rs e k;unfold Dm.mE at e;split at e
 ·cases e;cases rs with
  |cons r rr=>
   cases rr with
   |cons r' rr=>cases rr;cases az r;cases az r';exact⟨_,_,rfl,k _ H0 H (aG.refl s) (.int _)⟩
 ·cases e
theorem yh{K:gc}:CallD (fun xs H Q=>∃p ys,xs=[.ref p]/\((SqL K H p ys/\∀l,H l=none->Q (.ref l) (upd H l (.tup ys)))\/(SqT K H p ys/\Q (.ref p) H))) Dm.jK:=by
 intro H0 H vs ds z Q s rs e k;unfold Dm.jK at e;split at e
 ·cases e;cases rs with
  |cons r rr=>cases rr;obtain⟨a,us,rfl,qa,ra⟩:=bu s r;refine⟨a,us,rfl,.inl ⟨.inl qa,fun p hp=>?_⟩⟩;have g:=aG.xZ (o:=HO.tup us) s hp;exact k _ _ _ g (.tup aq (ra.mono g.s0))
 ·cases e;cases rs with
  |cons r rr=>
   cases rr;rcases r with r | ⟨a,_,w⟩
   ·cases r with
    |tup q rs=>exact⟨_,_,rfl,.inr ⟨.inl (.inl (s _ _ q)),k _ H0 H (aG.refl s) (.tup q rs)⟩⟩
   ·exact MN w
 ·cases e
noncomputable abbrev DS(X:Cx)(st:Stmt)(f:FS):Prop:=PS X st (tDS f)
noncomputable abbrev DSs(X:Cx)(st:List Stmt)(f:FS):Prop:=PSs X st (tDS f)
noncomputable abbrev DI(X:Cx)(tg it:Expr)(f:Dm.FI):Prop:=PI X tg it (tDI f)
theorem PI.weak{X:Cx}{tg it:Expr}{t t':TI}(h:PI X tg it t)(k:∀σ H R,t' σ H R->t σ H R):PI X tg it t':=fun sy s σ H R I q=>h sy s σ H R I (k σ H R q)
section
variable{X:Cx}{a b c e:Expr}{fa fb fc f:FE}{pos:Pos}
section
variable{g:Dat->Dat->Option RV}{k:Nat}{r:List V->Hp->VK->Prop}{En:List Expr}{x:Str}{i:Int}
theorem d_v(i:Nat)(hN:X.N[i]?=some x:=by rfl)(hv:Vis X.env.scope x:=by trivial)(hd:(x == ("__debug__" : Str))=false:=by decide)
  (JO:(x == ("__classdict__" : Str))=false:=by decide):DE X (.Name x pos) (Dm.eV i):=PE.weak (dW hN hv hd JO) fun _ _ _=>IE
theorem d_i{j}:DE X (.Constant (.int i) j pos) (Dm.eC (.int i)):=PE.weak wU fun _ _ _=>gZ fun _=>.int i
theorem d_b{v:Bool}{j}:DE X (.Constant (.bool v) j pos) (Dm.eC (.bl v)):=PE.weak Ib fun _ _ _=>gZ fun _=>.bl v
theorem d_n{j}:DE X (.Constant .none j pos) (Dm.eC .non):=PE.weak ED fun _ _ _=>gZ fun _=>.non
theorem d_s{s:List Nat}{j}(hx:x=⟨s.toArray⟩:=by rfl):DE X (.Constant (.str x) j pos) (Dm.eC (.str s)):=by subst hx;exact PE.weak EE fun _ _ _=>gZ fun _=>.str s
theorem d_g{t:Tok}(hg:Gl X x)(hm:X.mg x=some (.int i t))(hd:(x == ("__debug__" : Str))=false:=by decide):DE X (.Name x pos) (Dm.eC (.int i)):=
 PE.weak (A9 (v:=.int i) hg hm ⟨t,rfl⟩ hd) fun _ _ _=>gZ fun _=>.int i
theorem pI{op:Operator}{r:R2}(o:OpR X (binaryOp op) r)(od:OpD r g)(ha:DE X a fa)(hb:DE X b fb):DE X (.BinOp a op b pos) (Dm.e2 g fa fb):=
 PE.weak (Ij o ha hb) fun _ _ _=>pC od
theorem bw(ha:DE X a fa)(hb:DE X b fb):DE X (.BinOp a .Add b pos) (Dm.e2 Dm.bO fa fb):=pI BC FJ ha hb
theorem jQ(ha:DE X a fa)(hb:DE X b fb):DE X (.BinOp a .Sub b pos) (Dm.e2 Dm.gS fa fb):=pI EW FD ha hb
theorem fE(ha:DE X a fa)(hb:DE X b fb):DE X (.BinOp a .Mult b pos) (Dm.e2 Dm.fL fa fb):=pI BE FL ha hb
theorem Dr(ha:DE X a fa)(hb:DE X b fb):DE X (.BinOp a .FloorDiv b pos) (Dm.e2 Dm.rL fa fb):=pI ye FH ha hb
theorem fF(ha:DE X a fa)(hb:DE X b fb):DE X (.BinOp a .Mod b pos) (Dm.e2 Dm.fM fa fb):=pI EY FF ha hb
theorem h_(ha:DE X a fa)(hb:DE X b fb):DE X (.BinOp a .Pow b pos) (Dm.e2 Dm.fN fa fb):=pI EZ FG ha hb
theorem i8{op:CmpOp}{r:R2}(o:OpR X (compareOp op) r)(od:OpD r g)(ha:DE X a fa)(hb:DE X b fb)(hm:behindInMarks op b=false):DE X (.Compare a [op] [b] pos) (Dm.e2 g fa fb):=
 PE.weak (Bc o ha hb hm) fun _ _ _=>pC od
theorem jR{op:CmpOp}{r:R2}(o:OpR X (compareOp op) r)(od:OpD r g)(ha:DE X a fa)(hb:DE X b fb)(hm:behindInMarks op b=false):DT X (.Compare a [op] [b] pos) (Dm.tV (Dm.e2 g fa fb)):=
 PT.weak (Bd o ha hb hm) fun σ H Q h=>pC od (nM h)
theorem Lp(hr:aW k X.A)(ha:DE X a fa)(hb:DE X b fb):DE X (.Compare a [.Eq] [b] pos) (Dm.e2 Dm.gEq fa fb):=i8 (yb hr) Dl ha hb (ck _)
theorem Lq(hr:aW k X.A)(ha:DE X a fa)(hb:DE X b fb):DE X (.Compare a [.NotEq] [b] pos) (Dm.e2 Dm.gNe fa fb):=i8 (yc hr) Dq ha hb (ck _)
theorem Lr(ha:DE X a fa)(hb:DE X b fb):DE X (.Compare a [.Lt] [b] pos) (Dm.e2 Dm.gLt fa fb):=i8 C8 Dh ha hb (ck _)
theorem Ls(ha:DE X a fa)(hb:DE X b fb):DE X (.Compare a [.LtE] [b] pos) (Dm.e2 Dm.gLe fa fb):=i8 xr yd ha hb (ck _)
theorem Lu(ha:DE X a fa)(hb:DE X b fb):DE X (.Compare a [.Gt] [b] pos) (Dm.e2 Dm.gGt fa fb):=i8 C9 Di ha hb (ck _)
theorem vH(hr:aW k X.A)(ha:DE X a fa)(hb:DE X b fb)(hm:behindInMarks .In b=false:=by rfl):DE X (.Compare a [.In] [b] pos) (Dm.e2 Dm.gIn fa fb):=i8 (FA hr) Jb ha hb hm
theorem Jd(hr:aW k X.A)(ha:DE X a fa)(hb:DE X b fb)(hm:behindInMarks .NotIn b=false:=by rfl):DE X (.Compare a [.NotIn] [b] pos) (Dm.e2 Dm.cG fa fb):=i8 (mH hr) pH ha hb hm
theorem yi(hr:aW k X.A)(ha:DE X a fa)(hb:DE X b fb):DT X (.Compare a [.Eq] [b] pos) (Dm.tV (Dm.e2 Dm.gEq fa fb)):=jR (yb hr) Dl ha hb (ck _)
theorem nQ(hr:aW k X.A)(ha:DE X a fa)(hb:DE X b fb):DT X (.Compare a [.NotEq] [b] pos) (Dm.tV (Dm.e2 Dm.gNe fa fb)):=jR (yc hr) Dq ha hb (ck _)
theorem BH(ha:DE X a fa)(hb:DE X b fb):DT X (.Compare a [.Lt] [b] pos) (Dm.tV (Dm.e2 Dm.gLt fa fb)):=jR C8 Dh ha hb (ck _)
theorem yj(ha:DE X a fa)(hb:DE X b fb):DT X (.Compare a [.Gt] [b] pos) (Dm.tV (Dm.e2 Dm.gGt fa fb)):=jR C9 Di ha hb (ck _)
theorem BI(ha:DE X a fa)(hb:DE X b fb):DT X (.Compare a [.GtE] [b] pos) (Dm.tV (Dm.e2 Dm.gGe fa fb)):=jR Io I_ ha hb (ck _)
theorem Je(hr:aW k X.A)(ha:DE X a fa)(hb:DE X b fb)(hm:behindInMarks .NotIn b=false:=by rfl):DT X (.Compare a [.NotIn] [b] pos) (Dm.tV (Dm.e2 Dm.cG fa fb)):=jR (mH hr) pH ha hb hm
theorem aJ(ha:DE X a fa)(hb:DE X b fb)(hs:nD b:=by intro _ _;rfl):DE X (.Subscript a b pos) (Dm.e2 Dm.gIx fa fb):=PE.weak (Dc (tS.or E9) ha hb hs) fun _ _ _=>pC Jc
theorem af:DA X [] []:=PA.weak rC fun _ _ _=>IF
theorem aa{es:List Expr}{fs:List FE}(h:DE X e f)(r:DA X es fs)(hs:starEach (e::es) X.env=(false,eval e X.env)::starEach es X.env:=by rfl):DA X (e::es) (f::fs):=PA.weak (nB h r hs) fun _ _ _=>Fo
theorem b_{es:List Expr}{fs:List FE}{x1}(h:DA X es fs):DE X (.Tuple es x1 pos) (Dm.cA fs):=PE.weak (E5 h) fun _ _ _=>IG
theorem cX{es:List Expr}{fs:List FE}(h:DA X es fs):DE X (.List es pos) (Dm.dU fs):=PE.weak (xA h) fun _ _ _=>II
theorem yk{es:List Expr}{fs:List FE}{g:List Dat->Option RV}{id:String}{p:Pos}(hc:cM X (.builtin id) r)(cd:CallD r g)(hv:bootBuiltins x=some (.builtin id))(hg:Gl X x)(hm:X.mg x=none)(ha:DA X (e::es) fs)
  (hn:x ≠ "__name__" := by decide) (LM:(x == ("__debug__" : Str))=false:=by decide) (he:starEach (e::es) X.env=(false,eval e X.env)::starEach es X.env:=by rfl) (Gx:(backTo pos (starEach es X.env)).any (·.1)=false:=by rfl) :
  DE X (.Call (.Name x p) (e::es) [] pos) (Dm.eB g fs):=PE.weak (o6 hc hg hm hv ha hn LM he Gx) fun _ _ _=>Fp cd
theorem BJ{es:List Expr}{fs:List FE}{g:List Dat->Option RV}{T:String}{p:Pos}(hc:cM X (.type T) r)(cd:CallD r g)(hv:bootBuiltins x=some (.type T))(hg:Gl X x)(hm:X.mg x=none)(ha:DA X (e::es) fs)
  (hn:x ≠ "__name__" := by decide) (LM:(x == ("__debug__" : Str))=false:=by decide) (he:starEach (e::es) X.env=(false,eval e X.env)::starEach es X.env:=by rfl) (Gx:(backTo pos (starEach es X.env)).any (·.1)=false:=by rfl) :
  DE X (.Call (.Name x p) (e::es) [] pos) (Dm.eB g fs):=PE.weak (vD hc hg hm hv ha hn LM he Gx) fun _ _ _=>Fp cd
variable{es:List Expr}{fs:List FE}{p:Pos}
theorem ia(hg:Gl X "len")(hm:X.mg "len" = none)(ha:DA X [e] fs)(he:starEach [e] X.env=[(false,eval e X.env)]:=by rfl)(Gx:(backTo pos (starEach [] X.env)).any (·.1)=false:=by rfl):DE X (.Call (.Name "len" p) [e] [] pos) (Dm.eB Dm.d9 fs):=yk nF FO PySem.boot_len hg hm ha (he:=he) (Gx:=Gx)
theorem jS(hc:X.calm=true)(hg:Gl X "min")(hm:X.mg "min" = none)(ha:DA X [a,b] fs)(he:starEach [a,b] X.env=(false,eval a X.env)::starEach [b] X.env:=by rfl)(Gx:(backTo pos (starEach [b] X.env)).any (·.1)=false:=by rfl):DE X (.Call (.Name "min" p) [a,b] [] pos) (Dm.eB Dm.gY fs):=yk (vt hc) BF (by rfl) hg hm ha (he:=he) (Gx:=Gx)
theorem yl(hc:X.calm=true)(hg:Gl X "max")(hm:X.mg "max" = none)(ha:DA X [a,b] fs)(he:starEach [a,b] X.env=(false,eval a X.env)::starEach [b] X.env:=by rfl)(Gx:(backTo pos (starEach [b] X.env)).any (·.1)=false:=by rfl):DE X (.Call (.Name "max" p) [a,b] [] pos) (Dm.eB Dm.mE fs):=yk (vq hc) BG (by rfl) hg hm ha (he:=he) (Gx:=Gx)
theorem BK(hg:Gl X "tuple")(hm:X.mg "tuple" = none)(ha:DA X [e] fs)(he:starEach [e] X.env=[(false,eval e X.env)]:=by rfl)(Gx:(backTo pos (starEach [] X.env)).any (·.1)=false:=by rfl):DE X (.Call (.Name "tuple" p) [e] [] pos) (Dm.eB Dm.jK fs):=BJ lY yh (by rfl) hg hm ha (he:=he) (Gx:=Gx)
theorem aB{F:Addr}{fd:FuncData}{ps:List Str}{g:List Dat->Option RV}(G:aN X.prog X.w X.K X.mg X.base CX0 k F fd ps (spD g))(hr:aW k X.A)(hg:Gl X x)(hm:X.mg x=some (.ref F))(hk:Nv X.K (.ref F)=true)(hb:Binds X.K fd ps [])
  (ha:DA X (e::es) fs) (LM:(x == ("__debug__" : Str))=false:=by decide) (he:starEach (e::es) X.env=(false,eval e X.env)::starEach es X.env:=by rfl) (Gx:(backTo pos (starEach es X.env)).any (·.1)=false:=by rfl) :
  DE X (.Call (.Name x p) (e::es) [] pos) (Dm.eF g fs):=PE.weak (jt G hr hg hm hk hb .nil (tU (X:=X)) ha LM he Gx) fun _ _ _=>Fq
theorem Lv{t:FT}{q:Expr}(hq:DT X q t)(ha:DE X a fa)(hb:DE X b fb):DE X (.IfExp q a b pos) (Dm.eIf t fa fb):=PE.weak (wW hq ha hb) fun _ _ _=>Lh
theorem pJ{op}(h:DE X a fa):DE X (.BoolOp op [a] pos) fa:=EH h
theorem jT(ha:DE X a fa)(hb:DE X (.BoolOp .And (b::En) pos) fb):DE X (.BoolOp .And (a::b::En) pos) (Dm.gW fa fb):=PE.weak (EI ha hb) fun _ _ _=>IJ
theorem Jf(ha:DE X a fa):DE X (.UnaryOp .Not a pos) (Dm.vL fa):=PE.weak (EJ ha) fun _ _ _=>IK
noncomputable abbrev DW(X:Cx)(e:Expr)(f:FT):Prop:=PW X e (tDT f)
theorem PW.weak{t t':TT}(h:PW X e t)(k:∀σ H Q,t' σ H Q->t σ H Q):PW X e t':=fun whole sy s σ H Q I q=>h whole sy s σ H Q I (k σ H Q q)
variable{ta tb:FT}
theorem ym(h:DT X a ta):DW X (.BoolOp .And [a] pos) ta:=pw_and1 h
theorem pK(h:DT X a ta):DW X (.BoolOp .Or [a] pos) ta:=pw_or1 h
theorem w_and(ha:DT X a ta)(hb:DW X (.BoolOp .And (b::En) pos) tb):DW X (.BoolOp .And (a::b::En) pos) (Dm.jD ta tb):=PW.weak (pw_and ha hb) fun _ _ _=>Fv
theorem w_or(ha:DT X a ta)(hb:DW X (.BoolOp .Or (b::En) pos) tb):DW X (.BoolOp .Or (a::b::En) pos) (Dm.tOr ta tb):=PW.weak (pw_or ha hb) fun _ _ _=>IL
theorem t_w(h:DW X a ta):DT X a ta:=h.pt
theorem cY(h:DT X a ta):DT X (.UnaryOp .Not a pos) (Dm.cR ta):=PT.weak (EG h) fun _ _ _=>Ft
theorem cO(h:DE X e f)(he:∀whole,isTrue e X.env whole=(do let v <- whole;standAt e.pos;holding [v] (truthy v)):=by intro _;rfl):DT X e (Dm.tV f):=PT.weak (EF h he) fun _ _ _=>nM
variable{tg:Expr}
theorem pL(hg:Gl X "range")(hm:X.mg "range" = none)(ha:DA X [a] [fa])(hs:starEach [a] X.env=[(false,eval a X.env)]:=by rfl):DI X tg (.Call (.Name "range" p) [a] [] pos) (Dm.iR1 fa):=
 PI.weak (vn hg hm ha hs) fun _ _ _=>IW
theorem Jg(hg:Gl X "range")(hm:X.mg "range" = none)(ha:DA X [a,b] [fa,fb])(hs:starEach [a,b] X.env=[(false,eval a X.env),(false,eval b X.env)]:=by rfl)(hs2:starEach [b] X.env=[(false,eval b X.env)]:=by rfl):DI X tg (.Call (.Name "range" p) [a,b] [] pos) (Dm.iR2 fa fb):=
 PI.weak (vo hg hm ha hs hs2) fun _ _ _=>IX
end
end
section
variable{X:Cx}{st:Stmt}{En:List Stmt}{fs gs:FS}{e a b c:Expr}{f fa fb:FE}{pos:Pos}
section
variable{is:List Nat}{x:Str}{body:List Stmt}{es:List Expr}{t:FT}
theorem aZ:DSs X [] Dm.sNx:=PSs.weak tK fun _ _ _=>Li
theorem ai(h1:DS X st fs)(h2:DSs X En gs):DSs X (st::En) (Dm.aC fs gs):=PSs.weak (gQ h1 h2) fun _ _ _=>IP
theorem ak(h1:DS X st fs):DSs X [st] fs:=tL h1
theorem s_a(i:Nat){pos':Pos}(hN:X.N.Nodup)(he:DE X e f)(hi:X.N[i]?=some x:=by rfl)(hx:Loc X.env.scope x:=by trivial)(hs:swapsWith e (some (.Name x pos')) pos.line X.env=pure false:=by rfl)
  (hf:X.fn x=true\/X.env.scope.names.lookup x=some .local:=by trivial):DS X (.Assign [.Name x pos'] e pos) (Dm.sA i f):=PS.weak (ES hN hi hx he hs hf) fun _ _ _=>Dg
theorem iI:PGs X [] (ez []):=Ba
theorem bh(i:Nat){px:Pos}(hN:X.N.Nodup)(h2:PGs X es (ez is))(hi:X.N[i]?=some x:=by rfl)(hx:Loc X.env.scope x:=by trivial)
  (hf:X.fn x=true\/X.env.scope.names.lookup x=some .local:=by trivial) (hs:(assignEach (.Name x px::es) X.env).map (·.2)=assign (.Name x px) X.env::(assignEach es X.env).map (·.2):=by rfl):PGs X (.Name x px::es) (ez (i::is)):=wZ (nA hN hi hx hf) h2 hs
theorem s_e(he:DE X e f)(hs:swapsWith e none pos.line X.env=pure false:=by rfl):DS X (.Expr e pos) (Dm.sE f):=PS.weak (ny he hs) fun _ _ _=>Fw
theorem s_r(he:DE X e f):DS X (.Return (some e) pos) (Dm.sR f):=PS.weak (EK he) fun _ _ _=>IQ
theorem bQ{x y:List Stmt}(ht:DT X c t)(ha:DSs X x fs)(hb:DSs X y gs):DS X (.If c x y pos) (Dm.sIf t fs gs):=PS.weak (C4 ht ha hb) fun _ _ _=>IS
theorem jv:DS X st (fun _=>none):=PS.weak wY fun _ _ _ ⟨_,_,_,_,z,_⟩=>by cases z
theorem ue(i:Nat){px ap cp:Pos}(he:DE X e f)(hi:X.N[i]?=some x:=by rfl)(hv:Vis X.env.scope x:=by trivial)(hd:(x == ("__debug__" : Str))=false:=by decide)
  (JO:(x == ("__classdict__" : Str))=false:=by decide) (JT:attributeBase (.Name x px) "append" X.env (eval (.Name x px) X.env)=eval (.Name x px) X.env:=by rfl)
  (hfew:((backTo cp (starEach [e] X.env)).all (fun x=>!x.1)&&(backToKw cp (keywordEach [] X.env)).all (fun x=>x.1.isSome)
   && decide ([e].length+([]:List Keyword).length+(if ([]:List Keyword).isEmpty then 0 else 1)<30))=true:=by rfl)
  (JS:(ap.endLine == cp.line)=true:=by rfl) (hs:starEach [e] X.env=(false,eval e X.env)::starEach [] X.env:=by rfl) (JN:(backTo cp (starEach [] X.env)).any (·.1)=false:=by rfl)
  (hsw:swapsWith (.Call (.Attribute (.Name x px) "append" ap) [e] [] cp) none pos.line X.env=pure false:=by rfl) :
  DS X (.Expr (.Call (.Attribute (.Name x px) "append" ap) [e] [] cp) pos) (Dm.nI i f):=
 PS.weak (ny (xD N7 PySem.F.slot_list_append PySem.F.type_list_append iC (dW hi hv hd JO) (aa he af hs) JT hfew JS hs JN) hsw) fun _ _ _=>IT
theorem Dt(i:Nat){j:Expr}{fj:FE}{px sp:Pos}(hj:DE X j fj)(he:DE X e f)(hi:X.N[i]?=some x:=by rfl)(hv:Vis X.env.scope x:=by trivial)(hd:(x == ("__debug__" : Str))=false:=by decide)
  (JO:(x == ("__classdict__" : Str))=false:=by decide) (ha:∀ v,assign (.Subscript (.Name x px) j sp) X.env v=(do
   let ov <- holding [v] (eval (.Name x px) X.env)
   let iv <- holding [v,ov] (eval j X.env)
   standAt sp
   holding [v,ov,iv] (setItem ov iv v)
   release [v,ov,iv] []):=by intro _;rfl)
  (hs:swapsWithSole [.Subscript (.Name x px) j sp] e pos.line X.env=pure false:=by rfl) (hw:swappedStores [.Subscript (.Name x px) j sp] e X.env=pure none:=by rfl) (h1:(assignEach [.Subscript (.Name x px) j sp] X.env).map (·.2)=[assign (.Subscript (.Name x px) j sp) X.env]:=by rfl) :
  DS X (.Assign [.Subscript (.Name x px) j sp] e pos) (Dm.rJ i fj f):=PS.weak (ER he (EO (dW hi hv hd JO) hj set_list ha) hs hw h1) fun _ _ _=>IU
theorem FP(n:Nat)(hp:PassesOwn (model X.prog X.w) X.A X.env X.xe)(ht:DT X c t)(hb:DSs X body fs):DS X (.While c body [] pos) (Dm.whD t fs n):=PS.weak (xh hp ht hb) fun _ _ _=>Bt
structure TG'(X:Cx)(tg:Expr)(is:List Nat)(bd:Dm.FB):Prop where
 ex:∃g,PG X tg g/\BD is g bd
theorem g_n(i:Nat){px:Pos}(hN:X.N.Nodup)(hi:X.N[i]?=some x:=by rfl)(hx:Loc X.env.scope x:=by trivial)(hf:X.fn x=true\/X.env.scope.names.lookup x=some .local:=by trivial) :
  TG' X (.Name x px) [i] (Dm.bN i):=⟨⟨_,nA hN hi hx hf,t9 i⟩⟩
theorem g_t{k:Nat}{tpos:Pos}(hc:X.calm=true)(hg:PGs X es (ez is))(hn:(assignEach es X.env).length=is.length:=by rfl)(hst:(assignEach es X.env).findIdx? (·.1)=none:=by rfl):TG' X (.Tuple es k tpos) is (Dm.bT is):=
 ⟨⟨_,w_ hc hg hn hst,x9 is rfl⟩⟩
theorem cy{tg it:Expr}{fi:Dm.FI}{bd:Dm.FB}(hp:PassesOwn (model X.prog X.w) X.A X.env X.xe)(hc:X.calm=true)(hi:DI X tg it fi)(hg:TG' X tg is bd)(hb:DSs X body fs)
  (hs:∀x,foldedSetIterable it X.env x=pure x:=by intro _;rfl):DS X (.For tg it body [] pos) (Dm.cS fi bd fs):=by
 obtain⟨g,h1,h2⟩:=hg.ex;exact PS.weak (xo hp hc hi h1 hb hs) fun _ _ _=>IV h2
end
end
noncomputable def tyName:Dat->String
 |.non => "NoneType"
 |.bl _ => "bool"
 |.int _ => "int"
 |.str _ => "str"
 |.tup _ => "tuple"
 |.lst _ => "list"
 |.dct _ _ => "dict"
 |.dcp _ _ => "dict"
 |.exc _ => "dict"
 |.fn _ => "dict"
def vR(T:String)(p:Dat->Bool):Prop:=∀(K:gc) (d:Dat),OT K (.type (tyName d)) (.type T)=some (p d)
theorem BL:vR "int" Dm.isI:=fun K d=>by cases d<;>rfl
theorem yo:vR "bool" Dm.isB:=fun K d=>by cases d<;>rfl
theorem yp:vR "list" Dm.isL:=fun K d=>by cases d<;>rfl
theorem kit_tuple:vR "tuple" Dm.isT:=fun K d=>by cases d<;>rfl
theorem yq{K:gc}{H:Hp}{v:V}{d:Dat}(r:Rep H v d)(nx:∀C,d≠.exc C/\d≠.fn C):gU K H v (.type (tyName d)):=by
 cases r with
 |non=>exact .non
 |bl b=>exact .bl b
 |int i=>exact .int i
 |str s=>exact .str _
 |tup q _=>exact .tup q
 |lst q _=>
  rcases q with q | ⟨o,q⟩
  ·exact .lst q
  ·exact .frz q
 |dct q _ _=>exact .dK q
 |dcp q _ _=>exact .dT q
 |exc _=>exact absurd rfl (nx _).1
 |fn _=>exact absurd rfl (nx _).2
def Jh(K:gc)(T:String):List V->Hp->VK->Prop:=fun xs H Q=>∃x t b,xs=[x,.ty T]/\gU K H x t/\OT K t (.type T)=some b/\Q (.bl b) H
section
variable{X:Cx}{e:Expr}{f:FE}{p p2 pos:Pos}
theorem yr{T:String}:cM X (.builtin "isinstance") (Jh X.K T):=by intro sy s σ H xs us Q I r h;obtain⟨x,t,b,rfl,ty,e,q⟩:=h;obtain⟨u,u2,rfl,rx,ry⟩:=vals2 r;cases ry;exact vA I rx ty e fun tk=>⟨.bl b,H,I.tok tk,rfl,q⟩
theorem Ji{K:gc}{T:String}{p:Dat->Bool}(kp:vR T p){σ:L2.St}{H:Hp}{Q:VK}(h:tD (Dm.e1 (Dm.nJ p) f) σ H Q):tCB (Jh K T) (tO (tD f) (tO (tC (.ty T)) xy)) σ H Q:=by
 obtain⟨H0,ρ,x,ρ',st,e,k⟩:=h;unfold Dm.e1 at e;split at e
 ·cases e
 rename_i x1 ρ1 e1;split at e
 ·cases e
 rename_i dx p1;have nx:∀C,dx≠.exc C/\dx≠.fn C:=fun C=>⟨fun z=>(by subst z;cases e),fun z=>(by subst z;cases e)⟩;have ev:Dm.nJ p dx=Dm.vB (p dx):=by cases dx<;>first | rfl | exact absurd rfl (nx _).1 | exact absurd rfl (nx _).2
 rw[ev]at e;dsimp only at e;cases e;refine⟨H0,ρ,x1,_,st,e1,fun v H1 Hb t1 r1=>?_⟩;exact⟨v,_,_,rfl,yq ((r1.look t1.st p1).full t1.st.same) nx,kp K dx,k _ H1 Hb t1 (Rep.bl _)⟩
theorem mJ{T:String}{tn:Str}{p':Dat->Bool}(kp:vR T p')(hvT:bootBuiltins tn=some (.type T))(hgT:Gl X tn)(hmT:X.mg tn=none)(hg:Gl X "isinstance")(hm:X.mg "isinstance" = none)(h:DE X e f)
  (hn:tn ≠ "__name__" := by decide) (LM:(tn == ("__debug__" : Str))=false:=by decide)
  (he:starEach [e,.Name tn p2] X.env=(false,eval e X.env)::starEach [.Name tn p2] X.env:=by rfl) (Gx:(backTo pos (starEach [.Name tn p2] X.env)).any (·.1)=false:=by rfl) (he2:starEach [.Name tn p2] X.env=(false,eval (.Name tn p2) X.env)::starEach [] X.env:=by rfl) :
  DE X (.Call (.Name "isinstance" p) [e,.Name tn p2] [] pos) (Dm.e1 (Dm.nJ p') f):=
 PE.weak (o6 yr hg hm PyProof.Rows.boot_isinstance (nB h (nB (A_ (v:=.ty T) hgT hmT hvT rfl hn LM) rC he2) he) (he:=he) (Gx:=Gx)) fun _ _ _=>Ji kp
theorem all_range(bs:List Bool):(Mm bs.length).all (fun i=>bs.getD i true)=bs.all id:=by
 rw[Oj,Ny,Ny];constructor
 ·intro h b hb;obtain⟨i,hi,rfl⟩:=List.mem_iff_getElem.mp hb;have:=h i (Nu.mpr hi);rw[Nh,Mp hi]at this;exact this
 ·intro h i hi;have hi:=Nu.mp hi;rw[Nh,Mp hi];exact h _ (OI hi)
theorem vS(hc:X.calm=true):cM X (.builtin "all") (fun xs H Q=>∃(a:Addr) (bs:List Bool),xs=[.ref a]/\Rd H a (.lst (bs.map V.bl))/\Q (.bl (bs.all id)) H):=by
 intro sy s σ H xs us Q I r h;obtain⟨a,bs,rfl,hq,q⟩:=h;obtain⟨u,rfl,rx⟩:=vals1 r;cases rx;obtain⟨z,its,n,rv,e⟩:=hq.ok I.hok;have hl:s.heap.IsList a its.toArray:=⟨_,e,rfl,_,rfl⟩
 have Cv:=rv.length;rw[Dp]at Cv;have hax:a≠s.heap.objs.size:=MC (Mi e);refine PySem.call_all_walk (wpAny_pyIter_list hl ⟨s.heap.objs.size,_,_,_,_,_,fun i=>bs.getD i true,rfl,Walks.list (A:=X.A.in1) (I.ok.hd hc) s.heap.objs.size a hax its.toArray,⟨⟨_,Ms _ rfl,rfl,rfl⟩,hl.push _⟩,?_,fun h' tk hk=>?_⟩)
 ·intro i v s' Q' E' hv hQ';have hv':its[i]?=some v:=by simpa using hv
  have hi:i<bs.length:=by rw[Cv];exact(Me.mp hv').1
  have hb:(bs.map V.bl)[i]?=some (V.bl bs[i]):=by rw[MA,Mp hi];rfl
  obtain⟨u,hu,ru⟩:=rv.get hb;rw[hv']at hu;cases hu;cases ru;refine wpAny_truthy_bool ?_;have e2:bs.getD i true=bs[i]:=by rw[Nh,Mp hi];rfl
  rw[<- e2];exact hQ'
 ·have e1:its.toArray.size=bs.length:=by rw[Mk,Cv]
  rw[e1,all_range];refine⟨.bl _,H,I.kept (t':=tk) fun b o eb=>hk b o ?_ (Mf _ eb),rfl,q⟩;intro hm;have:b=s.heap.objs.size:=by simpa using hm
  exact absurd (Mi eb) (by rw[this];exact MX _)
end
section
variable{X:Cx}{a b c e:Expr}{f fa fb fc:FE}{p p2 pos:Pos}
section
variable{g h:Dat->Dat->Option RV}{σ:L2.St}{Q:VK}{H:Hp}
theorem BN{r r':R2}(o1:OpD r g)(o2:OpD r' h)(hh:tD (Dm.jL g h fa fb fc) σ H Q):xu r r' (tD fa) (tD fb) (tD fc) σ H Q:=by
 obtain⟨H0,ρ,x,ρ',st,e,k⟩:=hh;unfold Dm.jL at e;split at e
 ·cases e
 rename_i x1 ρ1 e1;split at e
 ·cases e
 rename_i y1 ρ2 e2;split at e
 ·cases e
 rename_i dx p1;split at e
 ·cases e
 rename_i dy p2;refine⟨H0,ρ,x1,ρ1,st,e1,fun v H1 Hb t1 r1=>⟨H1,ρ1,y1,ρ2,t1.st,e2,fun u H2 Hc t2 r2=>?_⟩⟩;split at e
 ·rename_i gz;refine o1 H2 Hc v u dx dy _ _ t2.st.same ((r1.mono t2).look t2.st p1) (r2.look t2.st p2) gz fun w H3 Hd g3 r3=>?_;refine⟨true,Rep.nK r3,?_⟩;rw[if_pos rfl];have t3:=t2.trans (.grow t2.st g3);have r2':=r2.mono (.grow t2.st g3);split at e
  ·cases e
  rename_i z ρ3 e3;split at e
  ·cases e
  rename_i dy' p3;split at e
  ·cases e
  rename_i dz p4;split at e
  ·cases e
  rename_i w2 hz;cases e;refine⟨H3,ρ2,z,_,t3.st,e3,fun w' H4 He t4 r4=>?_⟩;refine o2 H4 He u w' dy' dz w2 Q t4.st.same ((r2'.mono t4).look t4.st p3) (r4.look t4.st p4) hz fun w5 H5 Hf g5 r5=>?_;exact k w5 H5 Hf (t1.trans (t3.trans (t4.trans (.grow t4.st g5)))) ((r5.toV t4.st).early fun a n=>(t1.trans (t3.trans t4)).stp.gone n)
 ·rename_i gz;cases e;refine o1 H2 Hc v u dx dy _ _ t2.st.same ((r1.mono t2).look t2.st p1) (r2.look t2.st p2) gz fun w H3 Hd g3 r3=>?_;refine⟨false,Rep.nK r3,?_⟩;rw[if_neg Mz];exact k _ H3 Hd (t1.trans (t2.trans (.grow t2.st g3))) (Rep.bl false)
 ·cases e
theorem BO{op op':CmpOp}{r r':R2}(o1:OpR X (compareOp op) r)(q1:OpD r g)(o2:OpR X (compareOp op') r')(q2:OpD r' h)(ha:DE X a fa)(hb:DE X b fb)(hc:DE X c fc)
  (hm:lastMarks [op,op'] [b,c]=false:=by with_unfolding_all rfl):DE X (.Compare a [op,op'] [b,c] pos) (Dm.jL g h fa fb fc):=PE.weak (xw o1 o2 ha hb hc hm) fun _ _ _=>BN q1 q2
theorem yt(n d:Nat)(o:Option Int)(hd:d<=n):HT.sIx n d o=Dm.sIx n d o:=by
 cases o with
 |none=>rfl
 |some v=>
  unfold HT.sIx Dm.sIx
  first
   |rfl
   |(dsimp only;split<;>lia)
theorem vU{H0:Hp}{xs:List V}{ds:List Dat}(rs:ay H0 xs ds)(lo hi:Option Int):ay H0 (rE xs lo hi) (Dm.cut ds lo hi):=by unfold rE Dm.cut;rw[rs.length,yt _ _ _ (MR _),yt _ _ _ (Ds _)];exact(rs.drop _).take _
theorem uf{fo:Option FE}{H0 H:Hp}{ρ ρ':Dm.Env}{o:Option Int}{Q:Option Int->Hp->Prop}(st:aA H0 H σ ρ)(e:Dm.part fo ρ=some (o,ρ'))(k:∀H0' H',ESt σ ρ H0 H ρ' H0' H'->Q o H') :
  (match fo with | none=>nC | some f=>xB (tD f)) σ H Q:=by
 cases fo with
 |none=>cases e;exact k H0 H (.refl st)
 |some f=>
  unfold Dm.part at e;dsimp only at e;split at e
  ·rename_i i ρ1 e1;cases e;exact⟨H0,ρ,_,_,st,e1,fun v H1 Hb t1 r1=>⟨i,Rep.isInt r1,k H1 Hb t1⟩⟩
  ·cases e
noncomputable abbrev tOf(fo:Option FE):TO:=match fo with | none=>nC | some f=>xB (tD f)
theorem Lw{K:gc}{lo hi:Option FE}(h:tD (Dm.eSl f lo hi) σ H Q):tSl (Iu K) (tD f) (tOf lo) (tOf hi) σ H Q:=by
 obtain⟨H0,ρ,x,ρ',st,e,k⟩:=h;unfold Dm.eSl at e;split at e
 ·cases e
 rename_i x1 ρ1 e1;split at e
 ·cases e
 rename_i l ρ2 e2;split at e
 ·cases e
 rename_i hh ρ3 e3;split at e
 ·rename_i ds p1;cases e;refine⟨H0,ρ,x1,ρ1,st,e1,fun v H1 Hb t1 r1=>?_⟩;refine uf t1.st e2 fun H2 Hc t2=>?_;refine uf t2.st e3 fun H3 Hd t3=>?_;have tt:=t1.trans (t2.trans t3);obtain⟨a,xs,rfl,qa,ra⟩:=bu t3.st.same ((r1.mono (t2.trans t3)).look t3.st p1);refine⟨a,xs,rfl,.inl qa,fun q hq=>?_⟩;have g:=aG.jr (o:=HO.lst (rE xs l hh)) t3.st.same hq;refine k _ _ _ (tt.trans (.grow t3.st g)) ⟨q,rfl,tt.stp.gone hq,t3.st.bf hq,t3.st.same.free hq,_,aq,vU ra l hh⟩
 ·cases e
theorem Jj{lo hi:Option Expr}{flo fhi:Option FE}(h:DE X e f)(hl:PO X lo (tOf flo))(hh:PO X hi (tOf fhi)):DE X (.Subscript e (.Slice lo hi none p2) pos) (Dm.eSl f flo fhi):=PE.weak (xC Bj h hl hh) fun _ _ _=>Lw
theorem o_n:PO X none (tOf none):=Bh
theorem o_s(h:DE X e f):PO X (some e) (tOf (some f)):=tP h
end
end
section
variable{X:Cx}{nm:List Str}{JP tg iter:Expr}{GA:List Expr}{scope:Scope}{pos:Pos}{own:List Str}{fi:Dm.FI}{bd:Dm.FB}{is:List Nat}{t:FT}{f:FE}
noncomputable abbrev DTs(X:Cx)(GA:List Expr)(t:FT):Prop:=PTs X GA (tDT t)
theorem dj:DTs X [] Dm.cN:=fun sy s σ H Q I h=>by obtain⟨H0,ρ,b,ρ',st,e,k⟩:=h;cases e;exact t_ sy s σ H Q I (k H0 H (.refl st))
theorem iJ{c:Expr}(h:DT X c t):DTs X [c] t:=Bw h
structure TGc(X:Cx)(nm:List Str)(scope:Scope)(own:List Str)(tg:Expr)(is:List Nat)(bd:Dm.FB):Prop where
 ex:∃g,(∀cl C s H fp,PG (aP X nm scope own cl C s H fp) tg g)/\BD is g bd
theorem c_n(i:Nat){x:Str}{px:Pos}(hN:(nm++own).Nodup)(hi:(nm++own)[i]?=some x)(hx:(relabel scope X.env).names.lookup x=some .local):TGc X nm scope own (.Name x px) [i] (Dm.bN i):=
 ⟨⟨_,fun cl C s H fp=>nA (X:=aP X nm scope own cl C s H fp) hN hi (.inl hx) (.inr hx),t9 i⟩⟩
theorem c_t{es:List Expr}{k:Nat}{tpos:Pos}(hc:X.calm=true)(hg:∀cl C s H fp,PGs (aP X nm scope own cl C s H fp) es (ez is))(hn:∀cl C,(assignEach es (compEnvC scope cl C X.env)).length=is.length:=by intro _ _;rfl)
  (hst:∀cl C,(assignEach es (compEnvC scope cl C X.env)).findIdx? (·.1)=none:=by intro _ _;rfl):TGc X nm scope own (.Tuple es k tpos) is (Dm.bT is):=
 ⟨⟨_,fun cl C s H fp=>w_ (X:=aP X nm scope own cl C s H fp) hc (hg cl C s H fp) (hn cl C) (hst cl C),x9 is rfl⟩⟩
theorem FQ(hc:X.calm=true)(S:cI X nm scope)(hi:DI X tg iter fi)(hg:TGc X nm scope own tg is bd)(ht:∀cl C s H fp,DTs (aP X nm scope own cl C s H fp) GA t)(he:∀cl C s H fp,DE (aP X nm scope own cl C s H fp) JP f)
  (hl:∀i∈is,X.N.length<=i) (hs:∀x,foldedSetIterable iter X.env x=pure x:=by intro _;rfl):DE X (.ListComp JP [⟨tg,iter,GA,0⟩] scope pos) (Dm.bX fi own.length bd t f):=by
 obtain⟨g,h1,h2⟩:=hg.ex;intro sy s σ H Q I h;exact ua hc S hi h1 ht he hs sy s σ H Q I (rQ h2 (fun i hi=>by rw[I.len];exact hl i hi) h)
theorem FU(j:Nat){y:Str}{py JU:Pos}(hN:X.N.Nodup)(hc:X.calm=true)(S:cI X nm scope)(hi:DI X tg iter fi)(hg:TGc X nm scope own tg is bd)(ht:∀cl C s H fp,DTs (aP X nm scope own cl C s H fp) GA t)(he:∀cl C s H fp,DE (aP X nm scope own cl C s H fp) JP f)
  (hl:∀i∈is,X.N.length<=i) (hj:X.N[j]?=some y:=by rfl) (hy:Loc X.env.scope y:=by trivial)
  (hsw:swapsWith (.ListComp JP [⟨tg,iter,GA,0⟩] scope pos) (some (.Name y py)) JU.line X.env=pure true:=by rfl) (hs:∀x,foldedSetIterable iter X.env x=pure x:=by intro _;rfl)
  (hf:X.fn y=true\/X.env.scope.names.lookup y=some .local:=by trivial):DS X (.Assign [.Name y py] (.ListComp JP [⟨tg,iter,GA,0⟩] scope pos) JU) (Dm.sA j (Dm.bX fi own.length bd t f)):=by
 obtain⟨g,h1,h2⟩:=hg.ex;intro sy s σ H D I h;exact i7 hN hj hy hc S hi h1 ht he hsw hs hf sy s σ H D I (rQ h2 (fun i hi=>by rw[I.len];exact hl i hi) (Dg h))
end
theorem jU{H0:Hp}:∀{ds:List Dat} {bs:List Bool} {vs:List V},ay H0 vs ds->Dm.bools ds=some bs->vs=bs.map V.bl
 |[],bs,vs,r,e=>by cases r;cases e;rfl
 |.bl b::ds,bs,vs,r,e=>by
  cases r with
  |cons r rs=>
   unfold Dm.bools at e;cases q:Dm.bools ds with
   |none=>rw[q]at e;cases e
   |some cs=>rw[q]at e;cases e;cases Rep.nK r;rw[jU rs q];rfl
 |.non::ds,bs,vs,r,e=>by cases e
 |.int _::ds,bs,vs,r,e=>by cases e
 |.str _::ds,bs,vs,r,e=>by cases e
 |.tup _::ds,bs,vs,r,e=>by cases e
 |.lst _::ds,bs,vs,r,e=>by cases e
 |.dct _ _::ds,bs,vs,r,e=>by cases e
 |.dcp _ _::ds,bs,vs,r,e=>by cases e
theorem FW:CallD (fun xs H Q=>∃(a:Addr) (bs:List Bool),xs=[.ref a]/\Rd H a (.lst (bs.map V.bl))/\Q (.bl (bs.all id)) H) Dm.rM:=by
 intro H0 H vs ds z Q s rs e k;unfold Dm.rM at e;split at e
 ·split at e
  ·rename_i bs hb;cases e;cases rs with
   |cons r rr=>cases rr;obtain⟨a,us,rfl,qa,ra⟩:=bu s r;have:=jU ra hb;subst this;exact⟨a,bs,rfl,qa,k _ H0 H (aG.refl s) (.bl _)⟩
  ·cases e
 ·cases e
theorem FY:CallD (fun xs H Q=>(∃i,xs=[.int i]/\Q (.int i) H)\/∃k,xs=[.bl k]/\Q (.int (if k then 1 else 0)) H) Dm.vM:=by
 intro H0 H vs ds z Q s rs e k;unfold Dm.vM at e;split at e
 ·cases e;cases rs with
  |cons r rr=>cases rr;cases az r;exact .inl ⟨_,rfl,k _ H0 H (aG.refl s) (.int _)⟩
 ·cases e;cases rs with
  |cons r rr=>cases rr;cases uc r;exact .inr ⟨_,rfl,k _ H0 H (aG.refl s) (.int _)⟩
 ·cases e
section
variable{X:Cx}{a b c e:Expr}{f:FE}{fs:List FE}{p p2 pos:Pos}
theorem Du(hc:X.calm=true)(hg:Gl X "all")(hm:X.mg "all" = none)(ha:DA X [e] fs)(he:starEach [e] X.env=[(false,eval e X.env)]:=by rfl)(Gx:(backTo pos (starEach [] X.env)).any (·.1)=false:=by rfl) :
  DE X (.Call (.Name "all" p) [e] [] pos) (Dm.eB Dm.rM fs):=yk (vS hc) FW (by rfl) hg hm ha (he:=he) (Gx:=Gx)
theorem Dv(hg:Gl X "int")(hm:X.mg "int" = none)(ha:DA X [e] fs)(he:starEach [e] X.env=[(false,eval e X.env)]:=by rfl)(Gx:(backTo pos (starEach [] X.env)).any (·.1)=false:=by rfl) :
  DE X (.Call (.Name "int" p) [e] [] pos) (Dm.eB Dm.vM fs):=BJ vv FY (by rfl) hg hm ha (he:=he) (Gx:=Gx)
def Jk(K:gc)(te:TE):TE:=fun σ H Q=>te σ H fun x H1=>∃a xs,x=.ref a/\SqL K H1 a xs/\∀p,H1 p=none->Q (.ref p) (upd H1 p (.lst xs.reverse))
theorem FZ{te:TE}{k p3 p4}(he:PE X e te):PE X (.Subscript e (.Slice none none (some (.UnaryOp .USub (.Constant (.int 1) k p3) p4)) p2) pos) (Jk X.K te):=by
 intro sy s σ H Q I h;refine Subscript_ (thn (he sy s σ H _ I h) fun v s1 h1=>?_);obtain⟨x,H1,I1,r1,a,xs,rfl,hx,q⟩:=h1;cases r1;refine wpAny_Slice ?_;rw[evalPart_none];refine wpAny_pure (wpAny_pure ?_);have hstep:=tP (X:=X) (Ik (pos:=p4) E1 (wU (i:=1) (j:=k) (pos:=p3) (X:=X)));refine thn (hstep sy s1 σ H1 (fun o H'=>o=some (-1)/\H'=H1) I1 ⟨_,rfl,_,rfl,rfl,rfl⟩) fun vs s2 h2=>?_;obtain⟨o,H2,I2,ps,rfl,rfl⟩:=h2;have I3:Inv X sy σ H2 { s2 with heap:=s2.heap.push { cls:=.type "slice",data:=.fields #[.none,.none,vs] } }:=I2.kept (t':=s2.toks) fun b ob q=>Mf _ q;obtain⟨its,r,ht,hz⟩:=I3.list hx;have Cv:=r.length;have hg:wpAny (model X.prog X.w) X.A (getItem (.ref a) (.ref s2.heap.objs.size)) (EP X sy σ Q) X.xe { s2 with heap:=s2.heap.push { cls:=.type "slice",data:=.fields #[.none,.none,vs] } }:=by refine wpAny_getItem_list_slice ht.isList (Heap.IsSliceOf.new ..) .none .none ps (by decide) ?_ (by rw[Mk]<;>lia);rw[PySem.W.krv_pick,show its.toArray.toList.reverse.toArray=its.reverse.toArray by simp];refine⟨.ref _,_,I3.laid (t':=s2.toks) (o:=.lst xs.reverse) (fun b ob q=>Mf _ q) (Ds _) ?_,rfl,q _ (I3.hok.fresh (Ds _))⟩;exact⟨by rw[M6];exact hz,_,0,r.reverse,Ms _ rfl⟩
 show wpAny (model X.prog X.w) X.A (subscriptTail e (.Slice none none (some (.UnaryOp .USub (.Constant (.int 1) k p3) p4)) p2) (.ref a) (.ref s2.heap.objs.size)) (EP X sy σ Q) X.xe _;exact tail_any (ops:=[.ref a,.ref s2.heap.objs.size]) ht.isList.typeIs slot_list_getitem.lookup hg (by with_unfolding_all rfl)
theorem Jl{K:gc}{σ:L2.St}{H:Hp}{Q:VK}(h:tD (Dm.e1 Dm.xY f) σ H Q):Jk K (tD f) σ H Q:=by
 obtain⟨H0,ρ,x,ρ',st,e,k⟩:=h;unfold Dm.e1 at e;split at e
 ·cases e
 rename_i x1 ρ1 e1;split at e
 ·cases e
 rename_i dx p1;split at e
 ·cases e
 rename_i z gz;unfold Dm.xY at gz;split at gz
 ·cases gz;cases e;refine⟨H0,ρ,x1,_,st,e1,fun v H1 Hb t1 r1=>?_⟩;obtain⟨a,xs,rfl,qa,ra⟩:=bu t1.st.same (r1.look t1.st p1);refine⟨a,xs,rfl,.inl qa,fun q hq=>?_⟩;have g:=aG.jr (o:=HO.lst xs.reverse) t1.st.same hq;exact k _ _ _ (t1.trans (.grow t1.st g)) ⟨q,rfl,t1.stp.gone hq,t1.st.bf hq,t1.st.same.free hq,_,aq,ra.reverse⟩
 ·cases gz
theorem Jm{k p3 p4}(h:DE X e f):DE X (.Subscript e (.Slice none none (some (.UnaryOp .USub (.Constant (.int 1) k p3) p4)) p2) pos) (Dm.e1 Dm.xY f):=PE.weak (FZ h) fun _ _ _=>Jl
end
noncomputable def bZ(sc:Scope):List Str->List Str->Bool
 |[],[]=>true
 |x::N,y::nm=>(x == y||(sc.names.lookup y).isNone)&&bZ sc N nm
 |_,_=>false
theorem bZ.len{sc:Scope}:∀{N nm:List Str},bZ sc N nm=true->nm.length=N.length
 |[],[],_=>rfl
 |[],_::_,h=>by cases h
 |_::_,[],h=>by cases h
 |x::N,y::nm,h=>by rw[bZ,ME]at h;rw[MU,MU,bZ.len h.2]
theorem bZ.at{sc:Scope}:∀{N nm:List Str},bZ sc N nm=true->∀(i:Nat) (x:Str),nm[i]?=some x->N[i]?=some x\/sc.names.lookup x=none
 |[],[],_,i,x,e=>by simp at e
 |[],_::_,h,_,_,_=>by cases h
 |_::_,[],h,_,_,_=>by cases h
 |x::N,y::nm,h,0,z,e=>by
  rw[bZ,ME,OO]at h;simp at e;subst e;rcases h.1 with q | q
  ·have:x=y:=by simpa using q
   subst this;exact .inl rfl
  ·exact .inr (by simpa using q)
 |x::N,y::nm,h,i+1,z,e=>by rw[bZ,ME]at h;rw[N8]at e ⊢;exact bZ.at h.2 i z e
noncomputable def mK(osc:Scope)(N nm:List Str)(sc:Scope):Bool:=
 sc.names.all (fun y=>y.2 != .cell)&&sc.names.all (fun y=>y.2 != .local||sc.names.lookup y.1 == some .local) &&
 sc.names.all (fun y=>y.2 != .free||(osc.names.lookup y.1 == some .cell||osc.names.lookup y.1 == some .free))&&nm.all (fun x=>sc.names.lookup x != some .local)&&bZ sc N nm
theorem cI.of{X:Cx}{nm:List Str}{scope:Scope}(h:mK X.env.scope X.N nm scope=true)(hk:scope.kind=.function):cI X nm scope:=by
 unfold mK at h;simp only[ME,Ny]at h;obtain⟨⟨⟨⟨h1,h2⟩,h3⟩,h4⟩,h5⟩:=h;refine⟨hk,fun y hy=>?_,fun y hy hl=>?_,fun y hy hf=>?_,fun x hx=>?_,bZ.len h5,bZ.at h5⟩
 ·have:=h1 y hy;simpa using this
 ·have:=h2 y hy;rw[hl]at this
  simpa using this
 ·have:=h3 y hy;rw[hf]at this;have:(X.env.scope.names.lookup y.1 == some .cell||X.env.scope.names.lookup y.1 == some .free)=true:=by simpa using this
  rw[OO,beq_iff_eq,beq_iff_eq]at this;exact this
 ·have:=h4 x hx;simpa using this
section
variable{X:Cx}{JP tg iter:Expr}{GA:List Expr}{scope:Scope}{pos:Pos}{fi:Dm.FI}{bd:Dm.FB}{is:List Nat}{t:FT}{f:FE}
theorem ug{l:List Nat}{n:Nat}(h:(l.all fun i=>decide (n<=i))=true):∀i∈l,n<=i:=fun i hi=>of_decide_eq_true (Ny.mp h i hi)
theorem Jo(nm own:List Str)(hg:TGc X nm scope own tg is bd)(hi:DI X tg iter fi)(ht:∀cl C s H fp,DTs (aP X nm scope own cl C s H fp) GA t)(he:∀cl C s H fp,DE (aP X nm scope own cl C s H fp) JP f)
  (hc:X.calm=true:=by rfl) (hk:scope.kind=.function:=by rfl) (hS:mK X.env.scope X.N nm scope=true:=by rfl) (hl:(is.all fun i=>decide (X.N.length<=i))=true:=by rfl) (hs:∀x,foldedSetIterable iter X.env x=pure x:=by intro _;rfl) :
  DE X (.ListComp JP [⟨tg,iter,GA,0⟩] scope pos) (Dm.bX fi own.length bd t f):=FQ hc (cI.of hS hk) hi hg ht he (ug hl) hs
theorem Jp(j:Nat)(nm own:List Str){y:Str}{py JU:Pos}(hN:X.N.Nodup)(hg:TGc X nm scope own tg is bd)(hi:DI X tg iter fi)(ht:∀cl C s H fp,DTs (aP X nm scope own cl C s H fp) GA t)(he:∀cl C s H fp,DE (aP X nm scope own cl C s H fp) JP f)
  (hc:X.calm=true:=by rfl) (hk:scope.kind=.function:=by rfl) (hS:mK X.env.scope X.N nm scope=true:=by rfl) (hl:(is.all fun i=>decide (X.N.length<=i))=true:=by rfl) (hj:X.N[j]?=some y:=by rfl) (hy:Loc X.env.scope y:=by trivial)
  (hsw:swapsWith (.ListComp JP [⟨tg,iter,GA,0⟩] scope pos) (some (.Name y py)) JU.line X.env=pure true:=by rfl) (hs:∀x,foldedSetIterable iter X.env x=pure x:=by intro _;rfl)
  (hf:X.fn y=true\/X.env.scope.names.lookup y=some .local:=by trivial):DS X (.Assign [.Name y py] (.ListComp JP [⟨tg,iter,GA,0⟩] scope pos) JU) (Dm.sA j (Dm.bX fi own.length bd t f)):=
 FU j hN hc (cI.of hS hk) hi hg ht he (ug hl) hj hy hsw hs hf
end
section
variable{f:FE}{a:Addr}{X:Cx}{H:Hp}{K:gc}
theorem PI.or{tg it:Expr}{t t':TI}(h:PI X tg it t)(h':PI X tg it t'):PI X tg it (fun σ H R=>t σ H R\/t' σ H R):=fun sy s σ H R I q=>q.elim (h sy s σ H R I) (h' sy s σ H R I)
theorem Jq{σ:L2.St}{R:It->Hp->Prop}(h:tDI (Dm.iS f) σ H R):oW K (tD f) σ H R\/xj K (tD f) σ H R:=by
 obtain⟨H0,ρ,ys,ρ',st,e,k⟩:=h;unfold Dm.iS at e;split at e
 ·cases e
 rename_i x ρ1 e1;split at e
 ·rename_i ds ρ2 e2;cases e;exact .inl (Lj ⟨H0,ρ,_,_,st,by unfold Dm.iL;rw[e1];dsimp only;rw[e2],k⟩)
 ·rename_i ds ρ2 e2;cases e;exact .inr (Lk ⟨H0,ρ,_,_,st,by unfold Dm.iT;rw[e1];dsimp only;rw[e2],k⟩)
 ·cases e
theorem i_S{tg e:Expr}(h:DE X e f):DI X tg e (Dm.iS f):=PI.weak (PI.or (tN h) (xm h)) fun _ _ _=>Jq
noncomputable def yu(K:gc):Bool:=K.all fun p=>match p.2.cls with | .type n=>n != "list" | _=>true
theorem lookup_mem{o:Obj}:∀{K:List (Addr×Obj)},K.lookup a=some o->(a,o)∈K
 |[],h=>by cases h
 |(b,x)::r,h=>by
  rw[MT]at h;cases q:a == b with
  |true=>
   rw[q]at h;cases h;have:a=b:=by simpa using q
   rw[this];exact Mg
  |false=>rw[q]at h;exact Mh _ (lookup_mem h)
theorem F0{f:List Dat->Option RV}{ns:List Int}{E:XK}(hf:f [.lst (ns.map Dat.int)]=some (.val (.bl true)))(hK:yu K=true)(hS:SqL K H a (ns.map V.int)) :
  spD f [.ref a] H (fun v _=>v=.bl true) E:=by
 have hq:Rd H a (.lst (ns.map V.int)):=by
  rcases hS with h | ⟨o,its,n,hk,hc,_⟩
  ·exact h
  ·have:=Ny.mp hK _ (lookup_mem hk);dsimp only at this;rw[hc]at this;exact absurd this (by decide)
 have hr:∀ns:List Int,ay H (ns.map V.int) (ns.map Dat.int):=fun ns=>by
  induction ns with
  |nil=>exact .nil
  |cons n ns ih=>exact .cons (.int n) ih
 exact⟨H,_,_,ao.refl _,.cons (.lst hq (hr ns)) .nil,hf,fun v H0' H' _ r=>Rep.nK r⟩
end
end Br
namespace Dm
noncomputable def iRd(a b c:FE):FI:=fun ρ=>match a ρ with
 | some (.val (.int i),ρ1)=>(match b ρ1 with
  | some (.val (.int j),ρ2)=>(match c ρ2 with
   |some (.val (.int k),ρ3)=>if k=-1/\j<=BIG/\-BIG<=j/\i<=BIG/\-BIG<=i then some (downs i (i-j).toNat,ρ3) else none
   |_=>none)
  |_=>none)
 |_=>none
noncomputable def vV(a:FE):FI:=fun ρ=>match a ρ with
 |none=>none
 |some (x,ρ1)=>match tk ρ1 x with
  |some (.lst ds,ρ2)=>some (ds.reverse,ρ2)
  |_=>none
noncomputable def ic:Nat->List Dat->List Dat
 |_,[]=>[]
 |i,d::ds=>.tup [.int (i:Nat),d]::ic (i+1) ds
noncomputable def iEn(a:FE):FI:=fun ρ=>match a ρ with
 |none=>none
 |some (x,ρ1)=>match tk ρ1 x with
  |some (.lst ds,ρ2)=>some (ic 0 ds,ρ2)
  |_=>none
noncomputable def jV(d:Dat):Option RV:=match d with
 |.lst ds=>some (.new (.lst ds.reverse))
 |_=>none
noncomputable def mL:List Dat->Option RV
 |[.int j]=>if j<=1000000/\-1000000<=j then some (.new (.lst (ups 0 j.toNat))) else none
 |_=>none
end Dm
namespace Br
open PySem PySem.Spec PyProof.Rows L2
theorem mO{X:Cx}{sy:List (Addr×Obj)}{σ:L2.St}{H:Hp}{s:Shared}{h':Heap}{t':Nat}{fp:List Addr}{p:Addr}{o:HO}(I:Inv X sy σ H s)(hf:∀b∈fp,lW X sy H b)
  (k:∀b u,b∉fp->s.heap.get? b=some u->h'.get? b=some u) (hp:s.heap.objs.size<=p) (new:aM X.prog X.w (upd H p o) h' p o):Inv X sy σ (upd H p o) { s with heap:=h',toks:=t' }:=by
 have hn:H p=none:=I.hok.fresh hp;have nf:∀b u,H b=some u->b∉fp:=fun b u e z=>by rw[(hf b z).1]at e;cases e
 have nL:X.env.locals∉fp:=fun z=>(hf _ z).2.1 rfl;refine I.step (g':=s.gens) (d':=s.drawn) (ch:=fp) (fun b hb=>?_) (fun b u _ _ hc e _=>k b u hc e) (fun b u _ _ hc e _=>⟨u.slots,k b u hc e⟩)
  (fun b u _ e n=>by rw[au (MC (Mq (Mi e) hp))];exact n) (fun b u hc e=>⟨u,k b u hc e⟩)
  (fun b xs q=>by rw[au (aE q hn)];exact q) (fun b u xs q=>by rw[au (aE q hn)];exact q) (fun b _ _ _ q=>by rw[au (aE q hn)];exact q) (fun m hm=>?_) (fun b u e=>?_) I.bare
 ·obtain⟨f0,f1,f2,f3,f4,f5⟩:=hf b hb;exact⟨f3,f1,f4,f5⟩
 ·obtain⟨o,es,ep,ho,r⟩:=hm;exact⟨o,es,ep,k _ o nL ho,r⟩
 ·by_cases hb:b=p
  ·subst hb;rw[aq]at e;cases e;exact new
  ·rw[au hb]at e;refine(I.hok b u e).stay (fun c v hc q=>k c v ?_ q) (fun c q=>by rw[au (aE q hn)];exact q) (fun c _ _ q=>by rw[au (aE q hn)];exact q) fun c xs q=>by rw[au (aE q hn)];exact q
   rcases hc with z | z
   ·rw[z];exact nf b u e
   ·exact nf c _ z
noncomputable def Itv(K:gc)(a:Addr)(n:Nat):It:=
 ⟨fun i H=>∃xs x,SqL K H a xs/\xs.length=n/\xs.reverse[i]?=some x,fun i H x H'=>H'=H/\∀xs,SqL K H a xs->xs.reverse[i]?=some x,fun i H=>n<=i⟩
theorem yw{P:Program}{w:World}{K:gc}{tg:Expr}(a it:Addr)(n:Nat):Turn P w K tg (Itv K a n) [it] it (fun i h=>i<=n/\h.IsRevIter it a ((n:Int)-1-(i:Nat))) where
 mem:=by simp
 obj:=fun i h st b hb=>by
  have e:b=it:=by simpa using hb
  subst e;obtain⟨_,o,e,c,d⟩:=st;exact⟨o,e,fun v z=>by rw[d]at z;cases z⟩
 keep:=fun i h h' st k=>⟨st.1,st.2.at fun o e=>k it (by simp) o e⟩
 item:=by
  intro X hP hw hK hc i sy s σ H E I hf st hg;subst hP hw hK;obtain⟨xs,x,hq,hl,hx⟩:=hg;obtain⟨its,rv,p,hz⟩:=I.list hq;have hi:i<n:=by have:=(Me.mp hx).1;rw[M6,hl]at this;exact this
  rw[Of (by lia),hl]at hx;obtain⟨u,hu,ru⟩:=rv.get hx;obtain⟨f0,f1,f2,f3,f4,f5⟩:=hf it (by simp);obtain⟨_,st⟩:=st;have ei:((n:Int)-1-(i:Nat))=((n-1-i:Nat):Int):=by lia
  rw[ei]at st;refine wpAny_pyNext_rev_item st p.isList (x:=u) (by simpa using hu) fun h' st' sb=>?_;have ej:((n-1-i:Nat):Int)-1=(n:Int)-1-((i+1:Nat):Int):=by lia
  rw[ej]at st';have I1:Inv X sy σ H { s with heap:=h' }:=I.turned (t':=s.toks) (fun b o hb e=>(sb.2 b hb).trans e) f0 f1 f3 f4 f5;obtain⟨o,e,c,d⟩:=id st';refine⟨u,rfl,oV (s:={ s with heap:=h' }) e c d (by decide) ⟨x,H,I1,ru,⟨rfl,fun ys hy=>?_⟩,⟨hi,st'⟩,fun b hb=>(hf b hb).1⟩⟩;rw[I.dX hy hq,Of (by lia),hl];exact hx
 done:=by
  intro X hP hw hK hc i sy s σ H E I hf st hg;subst hP hw hK;obtain⟨f0,f1,f2,f3,f4,f5⟩:=hf it (by simp);obtain⟨h1,st⟩:=st;have h2:n<=i:=hg;have ei:((n:Int)-1-(i:Nat))=-1:=by lia
  rw[ei]at st;exact wpAny_pyNext_rev_end (I.ok.hd hc) st fun h' eb=>⟨rfl,I.turned (t':=s.toks) (fun b o hb e=>eb b o hb e) f0 f1 f3 f4 f5⟩
 self:=fun _ _ _ _ _ st h=>wpAny_pyIter_revIter st.2 h
def Dw(K:gc)(tl:TE):TI:=fun σ H R=>tl σ H fun x H1=>∃a xs,x=.ref a/\SqL K H1 a xs/\R (Itv K a xs.length) H1
section
variable{X:Cx}{tg l:Expr}{tl:TE}{p pos:Pos}
theorem yx{Q:Value->Shared->Prop}{Qx:VK}{sy:List (Addr×Obj)}{s:Shared}{σ:L2.St}{H:Hp}(hg:Gl X "reversed")(hm:X.mg "reversed" = none)(hl:PE X l tl)(hs:starEach [l] X.env=[(false,eval l X.env)])(I:Inv X sy σ H s)(h:tl σ H Qx)
  (k:∀x H1 s1,Inv X sy σ H1 s1->Qx x H1->∃a xs,x=.ref a/\SqL X.K H1 a xs/\∀its:List Value,Vals xs its->PlainL s1.heap a its.toArray->xs.length<=sizeLine->Q (.ref s1.heap.objs.size) { s1 with heap:=s1.heap.push (revObj a ((its.toArray.size:Int)-1)) }) :
  wpAny (model X.prog X.w) X.A (eval (.Call (.Name "reversed" p) [l] [] pos) X.env) Q X.xe s:=by
 refine Call_ (cj I hg hm boot_reversed (MM (spliced_more ?_ (by rw[hs];rfl)) (by rw[hs];rfl) rfl));refine thn (hl sy s σ H _ I h) fun v s1 ⟨x,H1,I1,r1,q1⟩=>?_;obtain⟨a,xs,e,hq,q⟩:=k x H1 s1 I1 q1;subst e;cases r1;obtain⟨its,rv,pl,hz⟩:=I1.list hq;refine Nm (call_reversed_list pl.isList (q its rv pl hz))
theorem F1(hg:Gl X "reversed")(hm:X.mg "reversed" = none)(hl:PE X l tl)(hs:starEach [l] X.env=[(false,eval l X.env)]:=by rfl):PI X tg (.Call (.Name "reversed" p) [l] [] pos) (Dw X.K tl):=by
 intro sy s σ H R I h;refine yx hg hm hl hs I h fun x H1 s1 I1 q1=>?_;obtain⟨a,xs,e,hq,q⟩:=q1;refine⟨a,xs,e,hq,fun its rv pl hz=>?_⟩;have hn:(its.toArray.size:Int)=((xs.length:Nat):Int):=by rw[Mk,rv.length]
 have st:({ s1 with heap:=s1.heap.push (revObj a ((its.toArray.size:Int)-1)) }:Shared).heap.IsRevIter s1.heap.objs.size a (((xs.length:Nat):Int)-1-((0:Nat):Int)):=⟨_,Ms _ rfl,rfl,by rw[hn];simp[revObj]⟩
 refine wpAny_pyIter_revIter st ?_;refine⟨s1.heap.objs.size,[s1.heap.objs.size],_,_,H1,rfl,I1.kept (t':=s1.toks) fun b o e=>Mf _ e,yw a _ xs.length,⟨MR _,st⟩,fun b hb=>?_,q⟩;have e:b=s1.heap.objs.size:=by simpa using hb
 subst e;exact I1.rq (Ds _) (I1.hok.fresh (Ds _))
end
noncomputable def Ite(K:gc)(a:Addr):It:=
 ⟨fun i H=>∃xs x,SqL K H a xs/\xs[i]?=some x,fun i H x H'=>∃p v,H p=none/\x=.ref p/\H'=upd H p (.tup [.int i,v])/\∀xs,SqL K H a xs->xs[i]?=some v,fun i H=>∃xs,SqL K H a xs/\xs.length<=i⟩
theorem vW{P:Program}{w:World}{K:gc}{elts:List Expr}{x1}{tp:Pos}(a e it:Addr)(JR:e≠it):Turn P w K (.Tuple elts x1 tp) (Ite K a) [e,it] e (fun i h=>(∃old,IsEnum h e it (i:Nat) old)/\h.IsListIter it a i) where
 mem:=by simp
 obj:=fun i h st b hb=>by
  obtain⟨⟨old,he⟩,o,e1,c,d⟩:=st;rcases Mj.mp hb with rfl | hb
  ·exact ⟨_,he,fun v z=>by have z':OP _=Ov v:=z;cases z'⟩
  ·have e2:b=it:=by simpa using hb
   subst e2;exact⟨o,e1,fun v z=>by rw[d]at z;cases z⟩
 keep:=fun i h h' st k=>⟨let ⟨old,he⟩:=st.1;⟨old,k e (by simp) _ he⟩,st.2.at fun o z=>k it (by simp) o z⟩
 item:=by
  intro X hP hw hK hc i sy s σ H E I hf st hg;subst hP hw hK;obtain⟨xs,x,hq,hx⟩:=hg;obtain⟨its,rv,p,hz⟩:=I.list hq;obtain⟨u,hu,ru⟩:=rv.get hx;obtain⟨⟨old,he⟩,Fd⟩:=st;refine wpAny_pyNext_enum_item he Fd p.isList (x:=u) (by simpa using hu) JR fun h1 heo Lx ht1 hz1 hk1=>?_;refine⟨_,rfl,wpAny_letOwnedTupleGo_enum heo fun h2 he2 hs2=>?_⟩;have Gy:e<s.heap.objs.size:=Mi he;have ht2:h2.get? s.heap.objs.size=some { cls:=.type "tuple",data:=.seq #[.int i s.toks,u] }:=(hs2.2 _ (NH Gy)).trans ht1;have k2:∀b o,b∉[e,it]->s.heap.get? b=some o->h2.get? b=some o:=fun b o hb z=>by have n1:b≠e:=fun y=>hb (by simp[y]);have n2:b≠it:=fun y=>hb (by simp[y]);exact(hs2.2 b n1).trans (hk1 b o n1 n2 z)
  have hn:H s.heap.objs.size=none:=I.hok.fresh (Ds _);have I2:Inv X sy σ (upd H s.heap.objs.size (.tup [.int i,x])) { s with heap:=h2,toks:=s.toks+1 }:=
   mO I hf k2 (Ds _) ⟨by simp[sizeLine],[.int i s.toks,u],.cons ⟨s.toks,rfl⟩ (.cons ru .nil),_,ht2,rfl,_,rfl⟩
  refine⟨.ref s.heap.objs.size,_,I2,rfl,⟨_,x,hn,rfl,rfl,fun ys hy=>by rw[I.dX hy hq];exact hx⟩,⟨⟨u,?_⟩,?_⟩,fun b hb=>?_⟩
  ·have:(((i+1:Nat):Int))=(i:Int)+1:=by lia
   rw[this];exact he2
  ·exact Lx.at fun o z=>(hs2.2 it (Ne.symm JR)).trans z
  ·have hb1:b≠s.heap.objs.size:=fun y=>by
    rcases Mj.mp hb with z | z
    ·rw[y]at z;exact absurd z (NH Gy)
    ·have z':b=it:=by simpa using z
     obtain⟨o,ho,_⟩:=Fd;have:=Mi ho;rw[<- z',y]at this;exact MX _ this
   rw[au hb1];exact(hf b hb).1
 done:=by intro X hP hw hK hc i sy s σ H E I hf st hg;subst hP hw hK;obtain⟨xs,hq,hx⟩:=hg;obtain⟨its,rv,p,hz⟩:=I.list hq;obtain⟨f0,f1,f2,f3,f4,f5⟩:=hf it (by simp);obtain⟨⟨old,he⟩,Fd⟩:=st;have hl:=rv.length;exact wpAny_pyNext_enum_end (I.ok.hd hc) he Fd p.isList (by simp;lia) fun h' eb=>⟨rfl,I.turned (t':=s.toks) (fun b o hb e=>eb b o hb e) f0 f1 f3 f4 f5⟩
 self:=fun A i s Q E st h=>by
  obtain⟨⟨old,he⟩,Fd⟩:=st;have hT:s.TypeIs (.ref e) "enumerate" := ⟨_,he,rfl⟩
  refine wpAny_pyIter_slot hT F.slot_enumerate_iter (wpAny_call_entry F.slot_enumerate_iter hT F.entry_enumerate_iter ?_ (F.args_enumerate_iter_1 _));show wpAny _ _ (ret (.ref e)) _ _ s;exact wpAny_pure ⟨_,rfl,"enumerate",_,hT,F.slot_enumerate_next.lookup,h⟩
def Jr(K:gc)(tl:TE):TI:=fun σ H R=>tl σ H fun x H1=>∃a,x=.ref a/\(∃xs,SqL K H1 a xs)/\R (Ite K a) H1
section
variable{X:Cx}{l:Expr}{tl:TE}{p pos:Pos}{elts:List Expr}{x1:Nat}{tp:Pos}
theorem BP(hg:Gl X "enumerate")(hm:X.mg "enumerate" = none)(hl:PE X l tl)(hs:starEach [l] X.env=[(false,eval l X.env)]:=by rfl):PI X (.Tuple elts x1 tp) (.Call (.Name "enumerate" p) [l] [] pos) (Jr X.K tl):=by
 intro sy s σ H R I h;refine Call_ (cj I hg hm boot_enumerate (MM (spliced_more ?_ (by rw[hs];rfl)) (by rw[hs];rfl) rfl));refine thn (hl sy s σ H _ I h) fun v s1 ⟨x,H1,I1,r1,q1⟩=>?_;obtain⟨a,e,⟨xs,hq⟩,q⟩:=q1;subst e;cases r1;obtain⟨its,rv,pl,hz⟩:=I1.list hq;refine Nm (call_enumerate_list pl.isList fun h' he Fd hsz k=>?_);have I2:Inv X sy σ H1 { s1 with heap:=h' }:=I1.kept (t':=s1.toks) k;have T:=vW (P:=X.prog) (w:=X.w) (K:=X.K) (elts:=elts) (x1:=x1) (tp:=tp) a (s1.heap.objs.size+1) s1.heap.objs.size (Nat.succ_ne_self _);refine T.self X.A 0 { s1 with heap:=h' } _ X.xe ⟨⟨_,he⟩,Fd⟩ ?_;refine⟨s1.heap.objs.size+1,[s1.heap.objs.size+1,s1.heap.objs.size],_,_,H1,rfl,I2,T,⟨⟨_,he⟩,Fd⟩,fun b hb=>?_,q⟩;have:s1.heap.objs.size<=b:=by
  rcases Mj.mp hb with rfl | hb
  ·exact OQ _
  ·have:b=s1.heap.objs.size:=by simpa using hb
   exact Nat.le_of_eq this.symm
 exact I1.rq this (I1.hok.fresh this)
end
theorem rS:typeLookup (.type "list_reverseiterator") "__len__" = pure none:=by rw[typeLookup_type,builtinLookup_eq_fast];kernel_rfl
theorem yz:typeLookup (.type "list_reverseiterator") "__length_hint__" = pure (some (.builtin "list_reverseiterator.__length_hint__")):=by rw[typeLookup_type,builtinLookup_eq_fast];kernel_rfl
section
variable{prog:Program}{w:World}{A:Around}{E:Value->Shared->Prop}{s:Shared}
section
variable{I l:Addr}
theorem yC{i:Int}{Q:Bool->Shared->Prop}(Fd:s.heap.IsRevIter I l i)(h:Q false s):wpAny (model prog w) A (Builtin.List.listLengthHint (.ref I)) Q E s:=by
 unfold Builtin.List.listLengthHint;refine wpAny_bind (wpAny_specialOf Fd.typeIs rS ?_);show wpAny _ A (specialOf (MI I) (OY "__length_hint__") >>= _) _ _ _;refine wpAny_bind (wpAny_specialOf Fd.typeIs yz ?_)
 generalize hid:("list_reverseiterator.__length_hint__" : String)=id0
 wp_delta
 rw[show splitId id0=some ("list_reverseiterator","__length_hint__") from by subst hid;decide +kernel];subst hid;refine wpAny_bind (wpAny_isInstance (T := "list_reverseiterator") (b:=true) Fd.typeIs (by rw[isSubtype_type];kernel_rfl) ?_);refine wpAny_ite_split (fun LL=>absurd LL (by decide)) (fun _=>?_);refine wpAny_ite_split (fun _=>?_) (fun LL=>absurd (by decide +kernel) LL);refine wpAny_ite_split (fun LL=>absurd LL (by decide +kernel)) (fun _=>wpAny_pure h)
theorem rT{R:Result->Shared->Prop}{items:Array Value}(hh:A.handled=none)(Fd:s.heap.IsRevIter I l ((items.size:Int)-1))(hl:s.heap.IsList l items)(JR:l≠I)(Cv:items.size<=sizeLine)
  (S:Addr) (res:Value) (c₀:Nat) (hSI:S≠I) (hSl:S≠l) (hS:s.heap.get? S=some { cls:=.type "list",data:=.seq #[] c₀ })
  (hR:∀ h' tk acc' c',(∀ b o,b≠S→b≠I→s.heap.get? b=some o→h'.get? b=some o)→h'.get? S=some { cls:=.type "list",dict:=none,data:=.seq acc' c',slots:=#[] } →
   ItemsOf (fun i v=>items[items.size-1-i]?=some v) acc' items.size->R (.ok (.ret res)) { s with heap:=h',toks:=tk }) :
  wpAny (model prog w) A.in1 (Nz (.ref S) (.ref I) res)
   (fun JM s'=>match JM with | .done f=>R (.ok f) s' | .again c'=>c'.quiet=true/\codeAny (model prog w) A c' R s') (fun e s'=>R (.error e) s') s:=by
 have hSf:S∉[I,l]:=fun hm=>by
  rcases Mj.mp hm with z | z
  ·exact hSI z
  ·exact hSl (Mu.mp z)
 have W:=(Walks.listRev (prog:=prog) (w:=w) (A:=A.in1) hh I l JR items).toS;unfold Nz;refine wpAny_bind (wpAny_typeOf (T := "list_reverseiterator") Fd.typeIs ?_);have h1:Builtin.List.listSameRef (.ref S) (.ref I)=false:=by simp[Builtin.List.listSameRef,hSI]
 have h2:(N5 "list_reverseiterator" == N5 "list")=false:=by decide
 have h3:(N5 "list_reverseiterator" == N5 "tuple")=false:=by decide
 simp only[h1,h2,h3,Bool.or_false,Ni,if_false];refine wpAny_bind (wpAny_pyIter_revIter Fd ?_);refine wpAny_bind (wpAny_holding (yC Fd ?_));refine wpAny_ite_split (fun LL=>absurd LL (by decide +kernel)) (fun _=>wpAny_pure ⟨plainId_quiet F.plain_extend_loop _,?_⟩);have hst:(0<=items.size)/\s.heap.IsRevIter I l ((items.size:Int)-1-((0:Nat):Int))/\s.heap.IsList l items:=⟨MR _,by simpa using Fd,hl⟩
 refine codeAny_extend_loopS W Cv S hSf res items.size 0 _ #[] c₀ rfl (MR _) hst hS (ItemsOf.nil _) fun s' acc' c' hm hS' hacc=>?_;rw[Moved.eq_with hm];refine hR s'.heap s'.toks acc' c' (fun b o hb hb2 e=>hm.heap b o (fun hmem=>?_) e) hS' hacc;rcases Mj.mp hmem with e' | hmem
 ·exact hb e'
 ·exact hb2 (Mu.mp hmem)
theorem yD{R:Result->Shared->Prop}{items:Array Value}(hh:A.handled=none)(Fd:s.heap.IsRevIter I l ((items.size:Int)-1))(hl:s.heap.IsList l items)(JR:l≠I)(Cv:items.size<=sizeLine)
  (S:Addr) (hSI:S≠I) (hSl:S≠l) (hS:s.heap.get? S=some { cls:=.type "list",data:=.seq #[] })
  (hR:∀ h' tk acc' c',(∀ b o,b≠S→b≠I→s.heap.get? b=some o→h'.get? b=some o)→h'.get? S=some { cls:=.type "list",dict:=none,data:=.seq acc' c',slots:=#[] } →
   ItemsOf (fun i v=>items[items.size-1-i]?=some v) acc' items.size->R (.ok (.ret .none)) { s with heap:=h',toks:=tk }) :
  wpAny (model prog w) A.in1 (Builtin.«list.__init__» ⟨[.ref S,.ref I],[]⟩)
   (fun JM s'=>match JM with | .done f=>R (.ok f) s' | .again c'=>c'.quiet=true/\codeAny (model prog w) A c' R s') (fun e s'=>R (.error e) s') s:=by
 show wpAny _ A.in1 (do let old <- Builtin.List.listItems (.ref S);Builtin.List.listUpdate (.ref S) (fun _=>#[]);letGo old.toList.reverse;Nz (.ref S) (.ref I) .none) _ _ s;refine wpAny_bind ?_;unfold Builtin.List.listItems;refine wpAny_bind (wpAny_seqItems hS rfl (wpAny_pure ?_));show wpAny _ A.in1 (updateSeq S (fun _=>#[]) >>= fun _=>letGo (#[]:Array Value).toList.reverse >>= fun _=>Nz (.ref S) (.ref I) .none) _ _ s;refine wpAny_bind (wpAny_updateSeq hS rfl ?_);have hS₂:=Od (N6 (fun _=>(#[]:Array Value))) hS rfl;have oth:∀b o,b≠S->s.heap.get? b=some o->(s.heap.update S (N6 (fun _=>(#[]:Array Value)))).get? b=some o:=
  fun b o hb e=>(Oa _ _ (Ne.symm hb)).trans e
 refine wpAny_bind (wpAny_letGo ?_);refine rT hh (Fd.at fun o e=>oth I o (Ne.symm hSI) e) (hl.at fun o e=>oth l o (Ne.symm hSl) e) JR Cv S .none _ hSI hSl hS₂ fun h' tk acc' c' hk hS' hacc=>?_;exact hR h' tk acc' c' (fun b o hb hb2 e=>hk b o hb hb2 (oth b o hb e)) hS' hacc
theorem lZ{Q:Value->Shared->Prop}{items:Array Value}(hh:A.handled=none)(Fd:s.heap.IsRevIter I l ((items.size:Int)-1))(hl:s.heap.IsList l items)(JR:l≠I)(Cv:items.size<=sizeLine)
  (hQ:∀ h' tk acc' c',(∀ b o,b≠I→s.heap.get? b=some o→h'.get? b=some o)→h'.get? s.heap.objs.size=some { cls:=.type "list",dict:=none,data:=.seq acc' c',slots:=#[] } →
   ItemsOf (fun i v=>items[items.size-1-i]?=some v) acc' items.size->Q (.ref s.heap.objs.size) { s with heap:=h',toks:=tk }) :
  wpAny (model prog w) A (call (.type "list") [.ref I]) Q E s:=by
 refine callType_codes (Q₁:=fun obj s₁=>obj=.ref s.heap.objs.size/\s₁={ s with heap:=s.heap.push { cls:=.type "list",data:=.seq #[] } }) F.called_list (F.typeCall_list_1 _) F.entry_list_init
  (code_list_new _ ⟨rfl,rfl⟩) fun obj s₁ h₁=>?_
 obtain⟨rfl,rfl⟩:=h₁;have hS:(s.heap.push { cls:=.type "list",data:=.seq #[] }).get? s.heap.objs.size=some { cls:=.type "list",data:=.seq #[] }:=Ms _ rfl;obtain⟨oi,hoi,_⟩:=id Fd;obtain⟨ol,hol,_⟩:=id hl;refine⟨⟨_,hS,rfl⟩,F.args_list_init_2 _ _,yD (A:=A.in1) hh (Fd.at fun o e=>Mf _ e) (hl.at fun o e=>Mf _ e) JR Cv _ (NH (Mi hoi)) (NH (Mi hol)) hS fun h' tk acc' c' hk hS' hacc=>?_⟩;exact⟨rfl,hQ h' tk acc' c' (fun b o hb e=>hk b o (MC (Mi e)) hb (Mf _ e)) hS' hacc⟩
end
end
theorem jW{P:Nat->Value->Prop}{DK:Array Value}{ys:List V}(h:ItemsOf P DK ys.length)(k:∀i v,P i v->i<ys.length->∃y,ys[i]?=some y/\RelV y v):Vals ys DK.toList:=by
 have:∀(ys:List V) (us:List Value),ys.length=us.length->(∀(i:Nat) (u:Value),us[i]?=some u->∃y,ys[i]?=some y/\RelV y u)->Vals ys us:=by
  intro ys
  induction ys with
  |nil=>intro us e _;cases us with
   |nil=>exact .nil
   |cons _ _=>cases e
  |cons y ys ih=>intro us e f;cases us with
   |nil=>cases e
   |cons u us=>obtain⟨y',h1,h2⟩:=f 0 u rfl;cases h1;exact .cons h2 (ih us (by simpa using e) fun i u' hu=>by simpa using f (i+1) u' (by simpa using hu))
 refine this ys DK.toList (by have:=h.1;simp only[Nr];exact this.symm) fun i u hu=>?_;have hu':DK[i]?=some u:=by rw[<- NB];exact hu
 have hi:i<ys.length:=by rw[<- h.1];exact(Array.getElem?_eq_some_iff.mp hu').1
 exact k i u (h.2 i u hu') hi
def F2(K:gc)(tl:TE):TE:=fun σ H Q=>tl σ H fun x H1=>∃a xs,x=.ref a/\SqL K H1 a xs/\∀q,H1 q=none->Q (.ref q) (upd H1 q (.lst xs.reverse))
def Js(ta:TA):TE:=fun σ H Q=>ta σ H fun vs H1=>∃j:Int,vs=[.int j]/\-(2 ^ 62)<=j/\j<=1000000/\∀q,H1 q=none->Q (.ref q) (upd H1 q (.lst ((Mm j.toNat).map fun i=>V.int (i:Nat))))
section
variable{X:Cx}{l a:Expr}{tl:TE}{ta:TA}{p pos p0 jX:Pos}
theorem yE(hc:X.calm=true)(hgl:Gl X "list")(hml:X.mg "list" = none)(hg:Gl X "reversed")(hm:X.mg "reversed" = none)(hl:PE X l tl)(hs:starEach [l] X.env=[(false,eval l X.env)]:=by rfl)
  (hs0:starEach [.Call (.Name "reversed" p) [l] [] pos] X.env=[(false,eval (.Call (.Name "reversed" p) [l] [] pos) X.env)]:=by rfl) :
  PE X (.Call (.Name "list" p0) [.Call (.Name "reversed" p) [l] [] pos] [] jX) (F2 X.K tl):=by
 intro sy s σ H Q I h;refine wpAny_Call_Name_kw (cj I hgl hml boot_list (MM (spliced_more ?_ (by rw[hs0];rfl)) (by rw[hs0];rfl) rfl));refine yx hg hm hl hs I h fun x H1 s1 I1 q1=>?_;obtain⟨a,xs,e,hq,q⟩:=q1;refine⟨a,xs,e,hq,fun its rv pl hz=>Nm ?_⟩;have hal:a<s1.heap.objs.size:=by obtain⟨o,ho,_⟩:=pl.isList;exact Mi ho
 have hn:=rv.length;refine lZ (items:=its.toArray) (I.ok.hd hc) ⟨_,Ms _ rfl,rfl,rfl⟩ (pl.isList.at fun o e=>Mf _ e) (MC hal) (by rw[Mk,<- hn];exact hz) fun h' tk acc' c' hk hS' hacc=>?_;have hsz:({ s1 with heap:=s1.heap.push (revObj a ((its.toArray.size:Int)-1)) }:Shared).heap.objs.size=s1.heap.objs.size+1:=OU ..;have hp:s1.heap.objs.size<=({ s1 with heap:=s1.heap.push (revObj a ((its.toArray.size:Int)-1)) }:Shared).heap.objs.size:=by rw[hsz];exact OQ _
 have vl:Vals xs.reverse acc'.toList:=by
  refine jW (by rw[M6,hn,<- Mk];exact hacc) fun i v hv hi=>?_;rw[M6]at hi;rw[Mk]at hv;have hv':its[its.length-1-i]?=some v:=by simpa using hv
  rw[Of hi,hn];have Gy:=(Me.mp hv').1;have hx:xs[its.length-1-i]?=some (xs[its.length-1-i]'(by lia)):=Mp _;obtain⟨u,hu,ru⟩:=rv.get hx;rw[hv']at hu;cases hu;exact⟨_,hx,ru⟩
 have ok:aM X.prog X.w (upd H1 ({ s1 with heap:=s1.heap.push (revObj a ((its.toArray.size:Int)-1)) }:Shared).heap.objs.size (.lst xs.reverse)) h' ({ s1 with heap:=s1.heap.push (revObj a ((its.toArray.size:Int)-1)) }:Shared).heap.objs.size (.lst xs.reverse):=⟨by rw[M6];exact hz,acc'.toList,c',vl,by simpa using hS'⟩
 exact⟨.ref _,_,I1.laid (t':=tk) (fun b u e=>hk b u (MC (Mi e)) (Mf _ e)) hp ok,rfl,q _ (I1.hok.fresh hp)⟩
theorem BQ(hc:X.calm=true)(hgl:Gl X "list")(hml:X.mg "list" = none)(hg:Gl X "range")(hm:X.mg "range" = none)(ha:PA X [a] ta)(hs:starEach [a] X.env=[(false,eval a X.env)]:=by rfl)
  (hs0:starEach [.Call (.Name "range" p) [a] [] pos] X.env=[(false,eval (.Call (.Name "range" p) [a] [] pos) X.env)]:=by rfl) :
  PE X (.Call (.Name "list" p0) [.Call (.Name "range" p) [a] [] pos] [] jX) (Js ta):=by
 intro sy s σ H Q I h;refine wpAny_Call_Name_kw (cj I hgl hml boot_list (MM (spliced_more ?_ (by rw[hs0];rfl)) (by rw[hs0];rfl) rfl));refine Call_ (cj I hg hm boot_range (MM (thn (ha pos sy s σ H _ I h) fun us s1 ⟨vs,H1,I1,r1,q1⟩=>?_) hs rfl));obtain⟨j,e,q1,q2,q⟩:=q1;subst e;cases r1 with
 |cons r rr=>
  cases rr;obtain⟨t,rfl⟩:=r;refine call_range_1 (Nm ?_);have hn:Nq 0 j 1=(j.toNat:Nat):=by rw[rangeSize_one];split<;>lia
  refine call_list_range (n:=j.toNat) (I.ok.hd hc) (IsRange.new ..) (small_one (by lia) (by lia) q1 (by lia)) hn (by lia) fun h' tk acc' c' hk hS' hacc=>?_;have hsz:(s1.heap.push { cls:=.type "range",data:=.fields #[.int 0 s1.toks,.int j t,.int 1 (s1.toks+1)] }).objs.size=s1.heap.objs.size+1:=OU ..;have hp:s1.heap.objs.size<=(s1.heap.push { cls:=.type "range",data:=.fields #[.int 0 s1.toks,.int j t,.int 1 (s1.toks+1)] }).objs.size:=by rw[hsz];exact OQ _
  have vl:Vals ((Mm j.toNat).map fun i=>V.int (i:Nat)) acc'.toList:=by
   refine jW (by rw[Dp,Mw];exact hacc) fun i v hv hi=>?_;obtain⟨t,rfl⟩:=hv;rw[Dp,Mw]at hi;refine⟨.int (i:Nat),by rw[MA,Nf hi];rfl,t,?_⟩;have:(0:Int)+(i:Int)*1=i:=by lia
   rw[this]
  have ok:aM X.prog X.w (upd H1 (s1.heap.push { cls:=.type "range",data:=.fields #[.int 0 s1.toks,.int j t,.int 1 (s1.toks+1)] }).objs.size (.lst ((Mm j.toNat).map fun i=>V.int (i:Nat)))) h' (s1.heap.push { cls:=.type "range",data:=.fields #[.int 0 s1.toks,.int j t,.int 1 (s1.toks+1)] }).objs.size (.lst ((Mm j.toNat).map fun i=>V.int (i:Nat))):=
   ⟨by rw[Dp,Mw,sizeLine_eq];lia,acc'.toList,c',vl,by simpa using hS'⟩
  exact⟨.ref _,_,I1.laid (t':=tk) (fun b u e=>hk b u (Mf _ e)) hp ok,rfl,q _ (I1.hok.fresh hp)⟩
end
section
variable{ds:List Dat}{xs:List V}{a:Addr}{H0:Hp}{K:gc}
theorem ay.rev{H:Hp}(h:ay H xs ds):ay H xs.reverse ds.reverse:=by
 induction xs generalizing ds with
 |nil=>cases h;exact .nil
 |cons x xs ih=>
  cases h with
  |cons r rs=>rw[Nn,Nn];exact(ih rs).append (.cons r .nil)
theorem F3(hq:Rd H0 a (.lst xs))(rs:ay H0 xs ds):JW (Itv K a xs.length) H0 ds.reverse:=by intro H0' H s0 s1;have q:SqL K H a xs:=.inl (ao.rd s1 (ao.rd s0 hq));refine⟨fun i hi=>by rw[M6,<- rs.length]at hi;exact hi,fun i d e=>?_⟩;obtain⟨v,hv,rv⟩:=rs.rev.get e;refine⟨⟨xs,v,q,rfl,hv⟩,fun x H' y=>?_⟩;obtain⟨e1,y⟩:=y;subst e1;have z:=y xs q;rw[hv]at z;cases z;exact⟨H0',aG.refl s1,rv.mono s0⟩
theorem pM:∀(ds:List Dat) (i:Nat),(Dm.ic i ds).length=ds.length
 |[],_=>rfl
 |_::ds,i=>by simp[Dm.ic,pM ds]
theorem pN:∀(ds:List Dat) (i j:Nat) (d:Dat),(Dm.ic i ds)[j]?=some d->∃x,ds[j]?=some x/\d=.tup [.int ((i+j:Nat):Int),x]
 |[],_,_,_,h=>by cases h
 |x::ds,i,0,d,h=>by cases h;exact⟨x,rfl,rfl⟩
 |x::ds,i,j+1,d,h=>by
  obtain⟨y,h1,h2⟩:=pN ds (i+1) j d h;refine⟨y,h1,?_⟩;rw[h2];have:i+1+j=i+(j+1):=by lia
  rw[this]
theorem BR(hq:Rd H0 a (.lst xs))(rs:ay H0 xs ds):JW (Ite K a) H0 (Dm.ic 0 ds):=by intro H0' H s0 s1;have q:SqL K H a xs:=.inl (ao.rd s1 (ao.rd s0 hq));refine⟨fun i hi=>⟨xs,q,by rw[rs.length,<- pM ds 0];exact hi⟩,fun i d e=>?_⟩;obtain⟨d',hd,rfl⟩:=pN ds 0 i d e;obtain⟨v,hv,rv⟩:=rs.get hd;refine⟨⟨xs,v,q,hv⟩,fun x H' y=>?_⟩;obtain⟨p,v',hn,rfl,rfl,y⟩:=y;have z:=y xs q;rw[hv]at z;cases z;have g:=aG.xZ (o:=HO.tup [.int i,v]) s1 hn;refine⟨_,g,.tup aq (.cons ?_ (.cons ((rv.mono s0).mono g.s0) .nil))⟩;rw[Nat.zero_add];exact .int _
end
section
variable{σ:L2.St}{H:Hp}{R:It->Hp->Prop}
theorem F4{K:gc}{f:FE}(h:tDI (Dm.vV f) σ H R):Dw K (tD f) σ H R:=by
 obtain⟨H0,ρ,ys,ρ',st,e,k⟩:=h;unfold Dm.vV at e;split at e
 ·cases e
 rename_i x ρ1 e1;split at e
 ·rename_i ds ρ2 e2;cases e;refine⟨H0,ρ,_,ρ1,st,e1,fun v H0' H' t r=>?_⟩;obtain⟨H1,t1,b1,r1,_,_⟩:=take1 t (ao.refl _) r e2;cases r1 with
  |lst q rs=>exact⟨_,_,rfl,.inl (ao.rd t1.st.same q),k _ H1 H' t1 (F3 q rs)⟩
 ·cases e
theorem Jt{K:gc}{f:FE}(h:tDI (Dm.iEn f) σ H R):Jr K (tD f) σ H R:=by
 obtain⟨H0,ρ,ys,ρ',st,e,k⟩:=h;unfold Dm.iEn at e;split at e
 ·cases e
 rename_i x ρ1 e1;split at e
 ·rename_i ds ρ2 e2;cases e;refine⟨H0,ρ,_,ρ1,st,e1,fun v H0' H' t r=>?_⟩;obtain⟨H1,t1,b1,r1,_,_⟩:=take1 t (ao.refl _) r e2;cases r1 with
  |lst q rs=>exact⟨_,rfl,⟨_,.inl (ao.rd t1.st.same q)⟩,k _ H1 H' t1 (BR q rs)⟩
 ·cases e
end
theorem yF{K:gc}:UnD (fun x H Q=>∃a xs,x=.ref a/\SqL K H a xs/\∀q,H q=none->Q (.ref q) (upd H q (.lst xs.reverse))) Dm.jV:=by
 intro H0 H x dx z Q s rx e k;unfold Dm.jV at e;split at e
 ·cases e;obtain⟨a,us,rfl,qa,ra⟩:=bu s rx;exact⟨a,us,rfl,.inl qa,fun p hp=>k _ _ _ (aG.jr s hp) ⟨p,rfl,hp,s.free hp,_,aq,ra.rev⟩⟩
 ·cases e
theorem yG{H:Hp}:∀(n:Nat) ,ay H ((Mm n).map fun i=>V.int (i:Nat)) (Dm.ups 0 n):=by
 intro n;unfold Dm.ups;have:∀l:List Nat,ay H (l.map fun i=>V.int (i:Nat)) (l.map fun i=>Dat.int (0+(i:Nat))):=fun l=>by
  induction l with
  |nil=>exact .nil
  |cons x l ih=>rw[eg,eg,Int.zero_add];exact .cons (.int _) ih
 exact this _
theorem BS:CallD (fun xs H Q=>∃j:Int,xs=[.int j]/\-(2 ^ 62)<=j/\j<=1000000/\∀q,H q=none->Q (.ref q) (upd H q (.lst ((Mm j.toNat).map fun i=>V.int (i:Nat))))) Dm.mL:=by
 intro H0 H xs ds z Q s rx e k;unfold Dm.mL at e;split at e
 ·rename_i j;split at e
  ·rename_i hb;cases e;cases rx with
   |cons r rr=>cases rr;cases az r;exact⟨j,rfl,by lia,hb.1,fun p hp=>k _ _ _ (aG.jr s hp) ⟨p,rfl,hp,s.free hp,_,aq,yG _⟩⟩
  ·cases e
 ·cases e
section
variable{X:Cx}{tg e a b c:Expr}{f fa fb fc:FE}{p pos p0 jX:Pos}{elts:List Expr}{x1:Nat}{tp:Pos}
theorem Ju(hg:Gl X "reversed")(hm:X.mg "reversed" = none)(h:DE X e f)(hs:starEach [e] X.env=[(false,eval e X.env)]:=by rfl):DI X tg (.Call (.Name "reversed" p) [e] [] pos) (Dm.vV f):=PI.weak (F1 hg hm h hs) fun _ _ _=>F4
theorem Ly(hg:Gl X "enumerate")(hm:X.mg "enumerate" = none)(h:DE X e f)(hs:starEach [e] X.env=[(false,eval e X.env)]:=by rfl):DI X (.Tuple elts x1 tp) (.Call (.Name "enumerate" p) [e] [] pos) (Dm.iEn f):=PI.weak (BP hg hm h hs) fun _ _ _=>Jt
theorem BU(hc:X.calm=true)(hgl:Gl X "list")(hml:X.mg "list" = none)(hg:Gl X "reversed")(hm:X.mg "reversed" = none)(h:DE X e f)(hs:starEach [e] X.env=[(false,eval e X.env)]:=by rfl)
  (hs0:starEach [.Call (.Name "reversed" p) [e] [] pos] X.env=[(false,eval (.Call (.Name "reversed" p) [e] [] pos) X.env)]:=by rfl) :
  DE X (.Call (.Name "list" p0) [.Call (.Name "reversed" p) [e] [] pos] [] jX) (Dm.e1 Dm.jV f):=PE.weak (yE hc hgl hml hg hm h hs hs0) fun _ _ _=>Lg yF
theorem F5(hc:X.calm=true)(hgl:Gl X "list")(hml:X.mg "list" = none)(hg:Gl X "range")(hm:X.mg "range" = none)(h:DA X [a] [fa])(hs:starEach [a] X.env=[(false,eval a X.env)]:=by rfl)
  (hs0:starEach [.Call (.Name "range" p) [a] [] pos] X.env=[(false,eval (.Call (.Name "range" p) [a] [] pos) X.env)]:=by rfl) :
  DE X (.Call (.Name "list" p0) [.Call (.Name "range" p) [a] [] pos] [] jX) (Dm.eB Dm.mL [fa]):=PE.weak (BQ hc hgl hml hg hm h hs hs0) fun _ _ _=>Fp BS
end
end Br
namespace Dm
noncomputable def aS(i:Nat)(own:Nat)(bd:FB)(t:FT)(el:FE):FE:=fun ρ=>match ρ[i]? with
 | some (.ow (.lst ds))=>if ds.length≤SZ then (match cF bd t el ds (ρ.set i .un++Dk own .un) [] with
  |none=>none
  |some (ys,ρ2)=>some (.new (.lst ys),(ρ2.take ρ.length).set i (.ow (.lst ds)))) else none
 |_=>bX (iS (eV i)) own bd t el ρ
end Dm
namespace Br
open PySem PySem.Spec PyProof.Rows L2
theorem yH{K:gc}{H0:Hp}{a:Addr}{xs:List V}{ds:List Dat}(rs:ay H0 xs ds):JWa (Itl K a) H0 (some (a,.lst xs)) ds:=by intro H0' H s0 s1 hq;have hq:=hq _ rfl;have q:SqL K H a xs:=.inl (.inl hq);refine⟨fun i hi=>⟨xs,q,by rw[rs.length];exact hi⟩,fun i d e=>?_⟩;obtain⟨v,hv,rv⟩:=rs.get e;refine⟨⟨xs,v,q,hv⟩,fun x H' y=>?_⟩;obtain⟨e1,y⟩:=y;subst e1;have z:=y xs q;rw[hv]at z;cases z;exact⟨H0',aG.refl s1,rv.mono s0⟩
theorem BV{K:gc}{σ:L2.St}{H:Hp}{i own:Nat}{bd:Dm.FB}{g:TG}{t:FT}{el:FE}{is:List Nat}{Q:VK}(hb:BD is g bd)(hl:∀i∈is,σ.length<=i)(h:tD (Dm.aS i own bd t el) σ H Q) :
  tLC (fun σ H R=>oW K (tD (Dm.eV i)) σ H R\/xj K (tD (Dm.eV i)) σ H R) own g (tDT t) (tD el) σ H Q:=by
 obtain⟨H0,ρ,x,ρ',st,e,k⟩:=h;unfold Dm.aS at e;split at e
 ·rename_i ds eo;split at e
  case isFalse=>cases e
  rename_i hsz;split at e
  ·cases e
  rename_i ys ρ2 e2;cases e;refine .inl ⟨H0,ρ,.slot i,ρ,st,by unfold Dm.eV;rw[eo],fun v H0' H' t1 r=>?_⟩;obtain⟨a,qa,na,xs,ha,rs⟩:=t1.st.ow i _ eo;obtain⟨r1,_⟩:=r;rw[qa]at r1;cases r1;have nO:¬aj σ (ρ.set i .un) a:=fun z=>by obtain⟨j,d,hj,h1,h2⟩:=bY z;exact hj (t1.st.dis j i d _ a h1 eo h2 qa)
  have Gy:i<ρ.length:=(Me.mp eo).1;refine⟨a,rfl,⟨xs,.inl (.inl ha)⟩,fun D hD=>pG hb hl (t1.st.mask i) (fun q e=>by cases e;exact⟨ha,na,nO⟩) (yH rs) hsz e2 (fun v H1 Hc t2 r2 hpa=>?_) D hD⟩;obtain⟨ha2,na2⟩:=hpa _ rfl;rw[MK]at t2 r2;have oo:∀b,aj σ ((ρ2.take ρ.length).set i (.ow (.lst ds))) b->b=a\/aj σ (ρ2.take ρ.length) b:=fun b ⟨j,d,h1,h2⟩=>by
   by_cases q:i=j
   ·subst q;rw[qa]at h2;cases h2;exact .inl rfl
   ·rw[gV q]at h1;exact .inr ⟨j,d,h1,h2⟩
  have om:∀b,aj σ (ρ.set i .un) b->aj σ ρ b:=fun b z=>by obtain⟨j,d,hj,h1,h2⟩:=bY z;exact⟨j,d,h1,h2⟩
  have oa:aj σ ρ a:=⟨i,_,eo,qa⟩
  have nO2:¬aj σ (ρ2.take ρ.length) a:=fun z=>nO (t2.own a z);have yI:(ρ2.take ρ.length).length=ρ.length:=by rw[<- t2.st.len,st.len]
  refine k v H1 Hc (t1.trans ⟨⟨t2.st.same,by rw[MK];exact t2.st.len,fun j d h=>?_,fun j d h=>?_,fun j j' d d' b h1 h2 h3 h4=>?_⟩,t2.stp.wide om,fun b z=>?_,fun j z=>?_⟩) ?_
  ·by_cases q:i=j
   ·subst q;rw[My (by rw[yI];exact Gy)]at h;cases h
   ·rw[gV q]at h;exact t2.st.sh j d h
  ·by_cases q:i=j
   ·subst q;rw[My (by rw[yI];exact Gy)]at h;cases h;exact⟨a,qa,na2,xs,ha2,rs.mono t2.stp.s0⟩
   ·rw[gV q]at h;exact t2.st.ow j d h
  ·by_cases q:i=j
   ·subst q;by_cases q':i=j'
    ·exact q'
    ·rw[gV q']at h2;rw[qa]at h3;cases h3;exact absurd ⟨j',d',h2,h4⟩ nO2
   ·rw[gV q]at h1;by_cases q':i=j'
    ·subst q';rw[qa]at h4;cases h4;exact absurd ⟨j,d,h1,h3⟩ nO2
    ·rw[gV q']at h2;exact t2.st.dis j j' d d' b h1 h2 h3 h4
  ·rcases oo b z with rfl | z
   ·exact oa
   ·exact om b (t2.own b z)
  ·trivial
  ·obtain⟨D',e',n',no',n0',w'⟩:=r2;refine⟨D',e',t1.stp.gone n',fun z=>?_,n0',w'⟩;rcases oo D' z with rfl | z
   ·rw[n']at ha;cases ha
   ·exact no' z
 ·have h2:=rQ (fi:=Dm.iS (Dm.eV i)) hb hl ⟨H0,ρ,x,ρ',st,e,k⟩;exact Jq h2
section
variable{X:Cx}{JP tg:Expr}{GA:List Expr}{scope:Scope}{pos px:Pos}{bd:Dm.FB}{is:List Nat}{t:FT}{f:FE}{x:Str}
theorem i_M(i:Nat)(h:DE X (.Name x px) (Dm.eV i)):PI X tg (.Name x px) (fun σ H R=>oW X.K (tD (Dm.eV i)) σ H R\/xj X.K (tD (Dm.eV i)) σ H R):=PI.or (tN h) (xm h)
theorem eK(i:Nat)(nm own:List Str)(hg:TGc X nm scope own tg is bd)(hi:DE X (.Name x px) (Dm.eV i))(ht:∀cl C s H fp,DTs (aP X nm scope own cl C s H fp) GA t)(he:∀cl C s H fp,DE (aP X nm scope own cl C s H fp) JP f)
  (hc:X.calm=true:=by rfl) (hk:scope.kind=.function:=by rfl) (hS:mK X.env.scope X.N nm scope=true:=by rfl) (hl:(is.all fun i=>decide (X.N.length<=i))=true:=by rfl) (hs:∀y,foldedSetIterable (.Name x px) X.env y=pure y:=by intro _;rfl) :
  DE X (.ListComp JP [⟨tg,.Name x px,GA,0⟩] scope pos) (Dm.aS i own.length bd t f):=by
 obtain⟨g,h1,h2⟩:=hg.ex;intro sy s σ H Q I h;exact ua hc (cI.of hS hk) (i_M i hi) h1 ht he hs sy s σ H Q I (BV h2 (fun i hi=>by rw[I.len];exact ug hl i hi) h)
end
end Br
namespace Dm
noncomputable def fy:List Dat->List Dat->List Dat
 |x::xs,y::ys=>.tup [x,y]::fy xs ys
 |_,_=>[]
noncomputable def BW(a b:FE):FI:=fun ρ=>match eAs [a,b] ρ with
 | some (vs,ρ1)=>(match tks ρ1 vs with
  |some ([.lst xs,.lst ys],ρ2)=>some (fy xs ys,ρ2)
  |_=>none)
 |none=>none
end Dm
namespace Br
open PySem PySem.Spec PyProof.Rows L2
theorem rV{X:Cx}{sy:List (Addr×Obj)}{σ:L2.St}{H:Hp}{s:Shared}{h':Heap}{t':Nat}{fp:List Addr}(I:Inv X sy σ H s)(hf:∀b∈fp,lW X sy H b)
  (k:∀b u,b∉fp->s.heap.get? b=some u->h'.get? b=some u):Inv X sy σ H { s with heap:=h',toks:=t' }:=by
 have nf:∀b u,H b=some u->b∉fp:=fun b u e z=>by rw[(hf b z).1]at e;cases e
 have nL:X.env.locals∉fp:=fun z=>(hf _ z).2.1 rfl;refine I.step (g':=s.gens) (d':=s.drawn) (ch:=fp) (fun b hb=>?_) (fun b u _ _ hc e _=>k b u hc e) (fun b u _ _ hc e _=>⟨u.slots,k b u hc e⟩)
  (fun b u _ e n=>n) (fun b u hc e=>⟨u,k b u hc e⟩)
  (fun b xs q=>q) (fun b u xs q=>q) (fun _ _ _ _ q=>q) (fun m hm=>?_) (fun b u e=>?_) I.bare
 ·obtain⟨f0,f1,f2,f3,f4,f5⟩:=hf b hb;exact⟨f3,f1,f4,f5⟩
 ·obtain⟨o,es,ep,ho,r⟩:=hm;exact⟨o,es,ep,k _ o nL ho,r⟩
 ·refine(I.hok b u e).stay (fun c v hc q=>k c v ?_ q) (fun c q=>q) (fun _ _ _ q=>q) fun c xs q=>q;rcases hc with z | z
  ·rw[z];exact nf b u e
  ·exact nf c _ z
noncomputable def Itz(K:gc)(a b:Addr):It:=
 ⟨fun i H=>∃ xs ys x y,SqL K H a xs∧SqL K H b ys∧xs[i]?=some x∧ys[i]?=some y,
  fun i H r H'=>∃p x y,H p=none/\r=.ref p/\H'=upd H p (.tup [x,y])/\(∀xs,SqL K H a xs->xs[i]?=some x)/\∀ys,SqL K H b ys->ys[i]?=some y,
  fun i H=>∃xs ys,SqL K H a xs/\SqL K H b ys/\(xs.length<=i\/ys.length<=i)⟩
theorem eL{h:Heap}{a b:Addr}{o o':Obj}(ha:h.get? a=some o)(hb:h.get? b=some o')(n:o.cls≠o'.cls):a≠b:=fun z=>by subst z;rw[ha]at hb;cases hb;exact n rfl
structure nR(z TI TO i1 i2:Addr):Prop where
 TIz:TI≠z
 TOz:TO≠z
 i1z:i1≠z
 i2z:i2≠z
 TITO:TI≠TO
 TIi1:TI≠i1
 TIi2:TI≠i2
 TOi1:TO≠i1
 TOi2:TO≠i2
 i12:i1≠i2
def yJ(a b z TI TO i1 i2:Addr)(i:Nat)(h:Heap):Prop:=IsZip h z TI TO .none/\IsPair h TI (.ref i1) (.ref i2)/\(∃x y,IsPair h TO x y)/\h.IsListIter i1 a i/\h.IsListIter i2 b i
theorem pO{h:Heap}{a b z TI TO i1 i2:Addr}{i:Nat}{xs ys:Array Value}(F:nR z TI TO i1 i2)(st:yJ a b z TI TO i1 i2 i h)(ha:h.IsList a xs)(hb:h.IsList b ys):ZipApart z TI TO i1 i2 a b:=by
 obtain⟨s1,s2,⟨x,y,s3⟩,s4,s5⟩:=st;obtain⟨o4,e4,c4,_⟩:=s4;obtain⟨o5,e5,c5,_⟩:=s5;obtain⟨oa,ea,ca,_⟩:=ha;obtain⟨ob,eb,cb,_⟩:=hb;have d:∀{n m:String},n≠m->(N5 n)≠(N5 m):=fun q z=>q (by injection z);exact ⟨F.TIz,F.TOz,F.i1z,F.i2z,F.TITO,F.TIi1,F.TIi2,F.TOi1,F.TOi2,F.i12,
  eL ea s1 (by rw[ca];exact d (by decide)),eL ea s3 (by rw[ca];exact d (by decide)),eL ea e4 (by rw[ca,c4];exact d (by decide)),eL ea e5 (by rw[ca,c5];exact d (by decide)),
  eL eb s1 (by rw[cb];exact d (by decide)),eL eb s3 (by rw[cb];exact d (by decide)),eL eb e4 (by rw[cb,c4];exact d (by decide)),eL eb e5 (by rw[cb,c5];exact d (by decide))⟩
theorem yK{P:Program}{w:World}{K:gc}{elts:List Expr}{x1}{tp:Pos}(a b z TI TO i1 i2:Addr)(F:nR z TI TO i1 i2):Turn P w K (.Tuple elts x1 tp) (Itz K a b) [z,TI,TO,i1,i2] z (yJ a b z TI TO i1 i2) where
 mem:=by simp
 obj:=fun i h st c hc=>by
  obtain⟨s1,s2,⟨x,y,s3⟩,⟨o4,e4,c4,d4⟩,⟨o5,e5,c5,d5⟩⟩:=st;simp only[Mj,NU,or_false]at hc;rcases hc with rfl | rfl | rfl | rfl | rfl
  ·exact⟨_,s1,fun v q=>by have q':OP _=Ov v:=q;cases q'⟩
  ·exact⟨_,s2,fun v q=>by have q':Data.seq _ _=Ov v:=q;cases q'⟩
  ·exact⟨_,s3,fun v q=>by have q':Data.seq _ _=Ov v:=q;cases q'⟩
  ·exact⟨o4,e4,fun v q=>by rw[d4]at q;cases q⟩
  ·exact⟨o5,e5,fun v q=>by rw[d5]at q;cases q⟩
 keep:=fun i h h' st k=>by obtain⟨s1,s2,⟨x,y,s3⟩,s4,s5⟩:=st;exact⟨k z (by simp) _ s1,k TI (by simp) _ s2,⟨x,y,k TO (by simp) _ s3⟩,s4.at fun o q=>k i1 (by simp) o q,s5.at fun o q=>k i2 (by simp) o q⟩
 item:=by
  intro X hP hw hK hc i sy s σ H E I hf st hg;subst hP hw hK;obtain⟨xs,ys,x,y,hq,hq',hx,hy⟩:=hg;obtain⟨its,rv,p,hz⟩:=I.list hq;obtain⟨its',rv',p',hz'⟩:=I.list hq';obtain⟨u,hu,ru⟩:=rv.get hx;obtain⟨u',hu',ru'⟩:=rv'.get hy;have D:=pO F st p.isList p'.isList;obtain⟨s1,s2,⟨o1,o2,s3⟩,s4,s5⟩:=st;have lt:∀{c o},s.heap.get? c=some o->c<s.heap.objs.size:=fun q=>Mi q;have l1:=lt s1;have l2:=lt s2;have l3:=lt s3;have l4:i1<s.heap.objs.size:=by obtain⟨_,q,_⟩:=s4;exact lt q
  have l5:i2<s.heap.objs.size:=by obtain⟨_,q,_⟩:=s5;exact lt q
  refine wpAny_pyNext_zip_item D s1 s2 s3 s4 s5 p.isList p'.isList (x:=u) (y:=u') (by simpa using hu) (by simpa using hu') fun h1 a1 a2 a3 a4 a5 a6 hk=>?_;refine⟨_,rfl,wpAny_letOwnedTupleGo_zip a1 fun h2 z2 hs2=>?_⟩;have ht2:h2.get? s.heap.objs.size=some { cls:=.type "tuple",data:=.seq #[u,u'] }:=(hs2.2 _ (NH l1)).trans a5;have k2:∀c o,c∉[z,TI,TO,i1,i2]->s.heap.get? c=some o->h2.get? c=some o:=fun c o hc q=>by simp only[Mj,NU,or_false,not_or]at hc;exact(hs2.2 c hc.1).trans (hk c o hc.1 hc.2.2.1 hc.2.2.2.1 hc.2.2.2.2 q)
  have hn:H s.heap.objs.size=none:=I.hok.fresh (Ds _);have I2:Inv X sy σ (upd H s.heap.objs.size (.tup [x,y])) { s with heap:=h2,toks:=s.toks }:=
   mO I hf k2 (Ds _) ⟨by simp[sizeLine],[u,u'],.cons ru (.cons ru' .nil),_,ht2,rfl,_,rfl⟩
  refine⟨.ref s.heap.objs.size,_,I2,rfl,⟨_,x,y,hn,rfl,rfl,fun vs hv=>by rw[I.dX hv hq];exact hx,fun vs hv=>by rw[I.dX hv hq'];exact hy⟩,⟨z2,?_,⟨_,_,hs2.extBut _ _ D.TOz a2⟩,?_,?_⟩,fun c hc=>?_⟩
  ·exact hs2.extBut _ _ D.TIz (hk TI _ D.TIz D.TITO D.TIi1 D.TIi2 s2)
  ·exact a3.extBut hs2.extBut D.i1z
  ·exact a4.extBut hs2.extBut D.i2z
  ·have hc1:c≠s.heap.objs.size:=fun q=>by
    simp only[Mj,NU,or_false]at hc;rcases hc with r | r | r | r | r
    ·subst r;rw[q]at l1;exact MX _ l1
    ·subst r;rw[q]at l2;exact MX _ l2
    ·subst r;rw[q]at l3;exact MX _ l3
    ·subst r;rw[q]at l4;exact MX _ l4
    ·subst r;rw[q]at l5;exact MX _ l5
   rw[au hc1];exact(hf c hc).1
 done:=by
  intro X hP hw hK hc i sy s σ H E I hf st hg;subst hP hw hK;obtain⟨xs,ys,hq,hq',hx⟩:=hg;obtain⟨its,rv,p,hz⟩:=I.list hq;obtain⟨its',rv',p',hz'⟩:=I.list hq';have hl:=rv.length;have hl':=rv'.length;have D:=pO F st p.isList p'.isList;obtain⟨s1,s2,⟨o1,o2,s3⟩,s4,s5⟩:=st;refine wpAny_pyNext_zip_end (I.ok.hd hc) D s1 s2 s3 s4 s5 p.isList p'.isList ?_ fun h' hk=>⟨rfl,rV (t':=s.toks) I hf fun c o hc q=>?_⟩
  ·rcases hx with hx | hx
   ·exact .inl (by simp;lia)
   ·exact .inr (by simp;lia)
  ·simp only[Mj,NU,or_false,not_or]at hc;exact hk c o hc.1 hc.2.2.1 hc.2.2.2.1 hc.2.2.2.2 q
 self:=fun A i s Q E st h=>wpAny_pyIter_zip st.1 h
def Dy(K:gc)(ta:TA):TI:=fun σ H R=>ta σ H fun vs H1=>∃a b,vs=[.ref a,.ref b]/\(∃xs,SqL K H1 a xs)/\(∃ys,SqL K H1 b ys)/\R (Itz K a b) H1
section
variable{X:Cx}{l l':Expr}{ta:TA}{p pos:Pos}{elts:List Expr}{x1:Nat}{tp:Pos}
theorem F6(hg:Gl X "zip")(hm:X.mg "zip" = none)(ha:PA X [l,l'] ta)(hs:starEach [l,l'] X.env=(false,eval l X.env)::starEach [l'] X.env:=by rfl)(hs2:(backTo pos (starEach [l'] X.env)).any (·.1)=false:=by rfl) :
  PI X (.Tuple elts x1 tp) (.Call (.Name "zip" p) [l,l'] [] pos) (Dy X.K ta):=by
 intro sy s σ H R I h;refine Call_ (cj I hg hm boot_zip (MM (thn (ha pos sy s σ H _ I h) fun us s1 ⟨vs,H1,I1,r1,q1⟩=>?_) hs hs2));obtain⟨a,b,e,⟨xs,hq⟩,⟨ys,hq'⟩,q⟩:=q1;subst e;obtain⟨v1,v2,rfl,r,r'⟩:=vals2 r1;cases r;cases r';obtain⟨its,rv,pl,hz⟩:=I1.list hq;obtain⟨its',rv',pl',hz'⟩:=I1.list hq';refine call_zip_2 pl.isList pl'.isList fun h' e1 e2 e3 e4 e5 hsz k=>?_;have I2:Inv X sy σ H1 { s1 with heap:=h' }:=I1.kept (t':=s1.toks) k;have F:nR (s1.heap.objs.size+4) (s1.heap.objs.size+2) (s1.heap.objs.size+3) s1.heap.objs.size (s1.heap.objs.size+1):=by constructor<;>first | exact MC (by lia) | exact NH (by lia)
 have T:=yK (P:=X.prog) (w:=X.w) (K:=X.K) (elts:=elts) (x1:=x1) (tp:=tp) a b _ _ _ _ _ F;have st:yJ a b (s1.heap.objs.size+4) (s1.heap.objs.size+2) (s1.heap.objs.size+3) s1.heap.objs.size (s1.heap.objs.size+1) 0 h':=⟨e1,e2,⟨_,_,e3⟩,e4,e5⟩
 refine T.self X.A 0 { s1 with heap:=h' } _ X.xe st ?_;refine⟨s1.heap.objs.size+4,_,_,_,H1,rfl,I2,T,st,fun c hc=>?_,q⟩;have:s1.heap.objs.size<=c:=by simp only[Mj,NU,or_false]at hc;rcases hc with r | r | r | r | r<;>(rw[r];first | exact Nat.le_add_right _ _ | exact Ds _)
 exact I1.rq this (I1.hok.fresh this)
end
theorem uh:∀(xs ys:List Dat),(Dm.fy xs ys).length=min xs.length ys.length
 |[],_=>by simp[Dm.fy]
 |_::_,[]=>by simp[Dm.fy]
 |x::xs,y::ys=>by simp[Dm.fy,uh xs ys]
theorem zip_get:∀(xs ys:List Dat) (j:Nat) (d:Dat),(Dm.fy xs ys)[j]?=some d->∃x y,xs[j]?=some x/\ys[j]?=some y/\d=.tup [x,y]
 |[],_,_,_,h=>by simp[Dm.fy]at h
 |_::_,[],_,_,h=>by simp[Dm.fy]at h
 |x::xs,y::ys,0,d,h=>by cases h;exact⟨x,y,rfl,rfl,rfl⟩
 |x::xs,y::ys,j+1,d,h=>zip_get xs ys j d h
theorem F7{K:gc}{H0:Hp}{a b:Addr}{xs ys:List V}{ds es:List Dat}(hq:Rd H0 a (.lst xs))(rs:ay H0 xs ds)(hq':Rd H0 b (.lst ys))(rs':ay H0 ys es):JW (Itz K a b) H0 (Dm.fy ds es):=by
 intro H0' H s0 s1;have q:SqL K H a xs:=.inl (ao.rd s1 (ao.rd s0 hq));have q':SqL K H b ys:=.inl (ao.rd s1 (ao.rd s0 hq'));refine⟨fun i hi=>⟨xs,ys,q,q',?_⟩,fun i d e=>?_⟩
 ·rw[uh]at hi;have:=rs.length;have:=rs'.length
  lia
 obtain⟨x,y,hx,hy,rfl⟩:=zip_get ds es i d e;obtain⟨v,hv,rv⟩:=rs.get hx;obtain⟨v',hv',rv'⟩:=rs'.get hy;refine⟨⟨xs,ys,v,v',q,q',hv,hv'⟩,fun r H' z=>?_⟩;obtain⟨p,u,u',hn,rfl,rfl,z1,z2⟩:=z;have w1:=z1 xs q;have w2:=z2 ys q';rw[hv]at w1;rw[hv']at w2;cases w1;cases w2;have g:=aG.xZ (o:=HO.tup [v,v']) s1 hn;exact⟨_,g,.tup aq (.cons ((rv.mono s0).mono g.s0) (.cons ((rv'.mono s0).mono g.s0) .nil))⟩
section
variable{σ:L2.St}{H:Hp}{R:It->Hp->Prop}
theorem F8{K:gc}{f g:FE}(h:tDI (Dm.BW f g) σ H R):Dy K (tDA [f,g]) σ H R:=by
 obtain⟨H0,ρ,ys,ρ',st,e,k⟩:=h;unfold Dm.BW at e;split at e
 ·rename_i vs ρ1 e1;split at e
  ·rename_i xs zs ρ2 e2;cases e;refine⟨H0,ρ,vs,ρ1,st,e1,fun us H0' H' t r=>?_⟩;obtain⟨H1,t1,b1,r1⟩:=takes t (ao.refl _) r e2;cases r1 with
   |cons q1 rr=>
    cases rr with
    |cons q2 rr=>
     cases rr;cases q1 with
     |lst q rs=>
      cases q2 with
      |lst q' rs'=>exact⟨_,_,rfl,⟨_,.inl (ao.rd t1.st.same q)⟩,⟨_,.inl (ao.rd t1.st.same q')⟩,k _ H1 H' t1 (F7 q rs q' rs')⟩
  ·cases e
 ·cases e
end
section
variable{X:Cx}{a b:Expr}{fa fb:FE}{p pos:Pos}{elts:List Expr}{x1:Nat}{tp:Pos}
theorem Jv(hg:Gl X "zip")(hm:X.mg "zip" = none)(ha:DA X [a,b] [fa,fb])(hs:starEach [a,b] X.env=(false,eval a X.env)::starEach [b] X.env:=by rfl)(hs2:(backTo pos (starEach [b] X.env)).any (·.1)=false:=by rfl) :
  DI X (.Tuple elts x1 tp) (.Call (.Name "zip" p) [a,b] [] pos) (Dm.BW fa fb):=PI.weak (F6 hg hm ha hs hs2) fun _ _ _=>F8
end
end Br
namespace Dm
noncomputable def fnM(n m:Nat)(body:FS)(ds:List Dat):Option (RV×Dat):=if ds.length=n then (match ds with
 | d::r=>(match body (Cell.ow d::(r.map Cell.sh++Dk m .un)) with
  | some (.ret z ρ')=>(match ρ'[0]? with
   |some (Cell.ow d')=>some (z,d')
   |_=>none)
  | some (.nx ρ')=>(match ρ'[0]? with
   |some (Cell.ow d')=>some (.val .non,d')
   |_=>none)
  |_=>none)
 |[]=>none) else none
noncomputable def flat:Dat->Bool
 |.tup xs=>xs.all fun x=>!dO x
 |d=>!dO d
noncomputable def rW:Dat->Bool
 |.lst xs=>xs.all fun x=>!dO x
 |_=>false
noncomputable def eFm(f:List Dat->Option (RV×Dat))(j:Nat)(as:List FE):FE:=fun ρ=>match ρ[j]? with
 | some (.ow _)=>(match eAs as ρ with
  |none=>none
  | some (xs,ρ1)=>(match ρ1[j]? with
   | some (.ow d1)=>(match tks ρ1 xs with
    |none=>none
    | some (ds,ρ2)=>(match ρ2[j]? with
     | some (.ow d)=>(match f (d::ds) with
      |none=>none
      |some (v,d')=>if flat v.dat&&rW d' then some (v.aY,ρ1.set j (.ow d')) else some (v.aY,ρ2.set j (.ow d')))
     |_=>none))
   |_=>none))
 |_=>none
end Dm
namespace Br
open PySem PySem.Spec PyProof.Rows L2
section
variable{ρ:Dm.Env}{σ:L2.St}{a:Addr}
def spM(f:List Dat->Option (RV×Dat)):Sp:=fun vs H Q _=>∃H0 a us d ds z d',vs=V.ref a::us/\ao H0 H/\H0 a=none/\Own H0 H a d/\ay H0 us ds/\f (d::ds)=some (z,d') /\
 ∀v H0' H',Stp (fun b=>b=a) H0 H H0' H'->ao H0' H'->H0' a=none->Own H0' H' a d'->pB H H0' H' v z->Q v H'
theorem jx{n m:Nat}{body:FS}{vs:List V}{H:Hp}{Q:VK}{E:XK}(h:spM (Dm.fnM n m body) vs H Q E):vs.length=n:=by
 obtain⟨H0,a,us,d,ds,z,d',e,_,_,_,rs,ef,_⟩:=h;unfold Dm.fnM at ef;split at ef
 ·rename_i hl;rw[e,MU,rs.length]
  simpa using hl
 ·cases ef
theorem aA.iK{H0 H:Hp}{j:Nat}{d:Dat}(st:aA H0 H σ ρ)(q:σ[j]?=some (some (V.ref a)))(no:¬aj σ ρ a)(n0:H0 a=none)(w:Own H0 H a d):aA H0 H σ (ρ.set j (.ow d)):=by
 have:=st.x8 (i:=j) no n0 w;have e:σ.set j (some (V.ref a))=σ:=by
  apply NN;intro i;by_cases h:j=i
  ·subst h;have hl:j<σ.length:=(Me.mp q).1;rw[My hl,q]
  ·rw[gV h]
 rw[e]at this;exact this
theorem aA.off{H0 H H0' H':Hp}(st:aA H0 H σ ρ)(s0:ao H0 H0')(ss:ao H0' H')(no:¬aj σ ρ a)(s1:∀b o,H b=some o->b≠a->H' b=some o)(s2:∀(i:Nat) (d:Dat) (b:Addr),ρ[i]?=some (Dm.Cell.ow d)->σ[i]?=some (some (V.ref b))->H0' b=none):aA H0' H' σ ρ where
 same:=ss
 len:=st.len
 sh:=fun i d e=>by obtain⟨v,q,r⟩:=st.sh i d e;exact⟨v,q,r.mono s0⟩
 ow:=fun i d e=>by obtain⟨b,q,n,w⟩:=st.ow i d e;obtain⟨o,z⟩:=w.some;have nb:b≠a:=fun y=>no ⟨i,d,e,y▸q⟩;exact⟨b,q,s2 i d b e q,w.mono s0 ((s1 b o z nb).trans z.symm)⟩
 dis:=st.dis
theorem dm{H0 H1:Hp}:∀{xs:List V} {ds:List Dat},ay H0 xs ds->(ds.all fun x=>!Dm.dO x)=true->ay H1 xs ds
 |_,_,.nil,_=>.nil
 |_,_,.cons r rs,h=>by rw[OW,ME]at h;exact .cons (Rep.plain r (by simpa using h.1)) (dm rs h.2)
end
section
variable{σ:L2.St}{H:Hp}{Q:VK}
theorem BX{f:List Dat->Option (RV×Dat)}{j:Nat}{fs:List FE}{E:XK}(h:tD (Dm.eFm f j fs) σ H Q):oY (spM f) [] E (tDA (Dm.eV j::fs)) σ H Q:=by
 obtain⟨H0,ρ,x,ρ',st,e,k⟩:=h;unfold Dm.eFm at e;split at e
 case h_2=>cases e
 rename_i d0 h0;split at e
 ·cases e
 rename_i xs ρ1 e1;split at e
 case h_2=>cases e
 rename_i d1 h1;split at e
 ·cases e
 rename_i ds ρ2 e2;split at e
 case h_2=>cases e
 rename_i d h2;split at e
 ·cases e
 rename_i z d' fz;have ea:Dm.eAs (Dm.eV j::fs) ρ=some (.slot j::xs,ρ1):=by unfold Dm.eAs;rw[show Dm.eV j ρ=some (.slot j,ρ) from by unfold Dm.eV;rw[h0]];dsimp only;rw[e1]
 refine⟨H0,ρ,.slot j::xs,ρ1,st,ea,fun vs H1 Hb t1 r1=>?_⟩;dsimp only;rw[Nb];cases r1 with
 |cons r0 rr=>
  obtain⟨H2,t2,b2,r2⟩:=takes t1 (ao.refl _) rr e2;obtain⟨a,qa,na,wa⟩:=t2.st.ow j d h2;obtain⟨q0,_⟩:=r0;rw[qa]at q0;cases q0;obtain⟨a1,qa1,na1,wa1⟩:=t1.st.ow j d1 h1;rw[qa]at qa1;cases qa1;obtain⟨oa,ha⟩:=wa.some;have hl2:j<ρ2.length:=(Me.mp h2).1;have hl1:j<ρ1.length:=(Me.mp h1).1;have oa0:aj σ ρ a:=t1.own a ⟨j,d1,h1,qa⟩;refine⟨H2,a,_,d,ds,z,d',rfl,t2.st.same,na,wa,r2,fz,fun v H3 Hd s3 ss n3 w3 r3=>?_⟩;have no2:¬aj σ (ρ2.set j .un) a:=fun y=>by obtain⟨i,d4,hi,y1,y2⟩:=bY y;exact hi (t2.st.dis i j d4 d a y1 h2 y2 qa)
  have no1:¬aj σ (ρ1.set j .un) a:=fun y=>by obtain⟨i,d4,hi,y1,y2⟩:=bY y;exact hi (t1.st.dis i j d4 d1 a y1 h1 y2 qa)
  split at e
  ·rename_i fl;cases e;rw[ME]at fl;obtain⟨f1,f2⟩:=fl;have wp:∀H',Own H' Hd a d':=fun H'=>by
    cases d' with
    |lst ys=>obtain⟨us,y1,y2⟩:=w3;exact⟨us,y1,dm y2 f2⟩
    |_=>cases f2
   have JM:∀H1':Hp,ao H1 H1'->ao H1' Hd->(∀b o,H1' b=some o->H1 b=some o\/((∃us,o=.tup us)/\H3 b=some o))->d_ H H1' Hd σ (ρ1.set j (.ow d')) v z.aY->Q v Hd:=fun H1' m1 m2 m3 rv=>by
    have hd3:∀b,H1' b≠none->b≠a:=fun b hb y=>by
     subst y;cases y2:H1' b with
     |none=>exact hb y2
     |some o=>
      rcases m3 b o y2 with y3 | ⟨_,y3⟩
      ·rw[na1]at y3;cases y3
      ·rw[n3]at y3;cases y3
    have n1':H1' a=none:=by
     cases y:H1' a with
     |none=>rfl
     |some o=>exact absurd rfl (hd3 a (by rw[y];exact fun q=>nomatch q))
    have sm:aA H1' Hd σ (ρ1.set j .un):=by
     refine(t1.st.mask j).off m1 m2 no1 (fun b o y nb=>s3.s1 b o y nb) fun i d4 b y1 y2=>?_;obtain⟨b',q',nb',w'⟩:=(t1.st.mask j).ow i d4 y1;rw[y2]at q';cases q';cases y:H1' b with
     |none=>rfl
     |some o=>
      rcases m3 b o y with y3 | ⟨⟨us,y4⟩,y3⟩
      ·rw[nb']at y3;cases y3
      ·subst y4;have nb:b≠a:=hd3 b (by rw[y];exact fun q=>nomatch q);cases d4 with
       |lst _=>obtain⟨ws,z1,_⟩:=w';have z2:=s3.s1 b _ z1 nb;rw[ss _ _ y3]at z2;cases z2
       |dct _ _=>obtain⟨ws,z1,_⟩:=w';have z2:=s3.s1 b _ z1 nb;rw[ss _ _ y3]at z2;cases z2
       |dcp _ _=>obtain⟨ws,z1,_⟩:=w';have z2:=s3.s1 b _ z1 nb;rw[ss _ _ y3]at z2;cases z2
       |_=>exact MN w'
    have sf:aA H1' Hd σ (ρ1.set j (.ow d')):=by have:=sm.iK qa no1 n1' (wp H1');rw[OZ]at this;exact this
    refine k v H1' Hd ⟨sf,⟨t1.stp.s0.trans m1,fun b o y nb=>?_,fun b o y=>?_,fun b o y=>?_⟩,fun b y=>?_,fun i y=>?_⟩ rv
    ·have y1:=t1.stp.s1 b o y nb;exact s3.s1 b o y1 fun q=>nb (by rw[q];exact oa0)
    ·rcases m3 b o y with y3 | ⟨_,y3⟩
     ·exact t1.stp.s2 b o y3
     ·rcases s3.s2 b o y3 with y4 | y4 | y4
      ·exact .inl (t1.stp.gone y4)
      ·exact t2.stp.s2 b o y4
      ·subst y4;rw[n3]at y3;cases y3
    ·obtain⟨o',y1⟩:=t1.stp.s3 b o y;exact s3.s3 b o' y1
    ·obtain⟨i,d4,y1,y2⟩:=y;by_cases hi:j=i
     ·subst hi;rw[qa]at y2;cases y2;exact oa0
     ·rw[gV hi]at y1;exact t1.own b ⟨i,d4,y1,y2⟩
    ·trivial
   have m0:ao H1 Hd:=fun b o y=>s3.s1 b o (t1.st.same _ _ y) fun q=>by rw[q,na1]at y;cases y
   cases z with
   |new d4=>
    obtain⟨_,_,_,_,w⟩:=r3;cases d4 with
    |lst _=>cases f1
    |dct _ _=>cases f1
    |dcp _ _=>cases f1
    |_=>exact MN w
   |val d4=>
    have r3':Rep H3 v d4:=r3;cases d4 with
    |tup es=>
     cases r3' with
     |tup q rs=>
      rename_i a2 us;have rp:ay H1 us es:=dm rs f1;refine JM (upd H1 a2 (.tup us)) (fun b o y=>?_) (fun b o y=>?_) (fun b o y=>?_) (.tup aq (dm rs f1))
      ·by_cases hb:b=a2
       ·subst hb;have:=s3.s0 _ _ (b2 _ _ y);rw[q]at this;rw[aq,this]
       ·rw[au hb];exact y
      ·by_cases hb:b=a2
       ·subst hb;rw[aq]at y;cases y;exact ss _ _ q
       ·rw[au hb]at y;exact m0 _ _ y
      ·by_cases hb:b=a2
       ·subst hb;rw[aq]at y;cases y;exact .inr ⟨⟨us,rfl⟩,q⟩
       ·rw[au hb]at y;exact .inl y
    |lst _=>cases f1
    |dct _ _=>cases f1
    |dcp _ _=>cases f1
    |exc _=>cases f1
    |fn _=>exact JM H1 (ao.refl _) m0 (fun b o y=>.inl y) (Rep.plain r3' rfl)
    |non=>exact JM H1 (ao.refl _) m0 (fun b o y=>.inl y) (Rep.plain r3' rfl)
    |bl _=>exact JM H1 (ao.refl _) m0 (fun b o y=>.inl y) (Rep.plain r3' rfl)
    |int _=>exact JM H1 (ao.refl _) m0 (fun b o y=>.inl y) (Rep.plain r3' rfl)
    |str _=>exact JM H1 (ao.refl _) m0 (fun b o y=>.inl y) (Rep.plain r3' rfl)
  ·cases e;have sm:aA H3 Hd σ (ρ2.set j .un):=by
    refine(t2.st.mask j).off s3.s0 ss no2 (fun b o y nb=>s3.s1 b o y nb) fun i d4 b y1 y2=>?_;obtain⟨b',q',nb',w'⟩:=(t2.st.mask j).ow i d4 y1;rw[y2]at q';cases q';obtain⟨ob,hob⟩:=w'.some;cases y:H3 b with
    |none=>rfl
    |some o=>
     rcases s3.s2 b o y with y3 | y3 | y3
     ·rw[hob]at y3;cases y3
     ·rw[nb']at y3;cases y3
     ·exact absurd ⟨i,d4,y1,y3▸y2⟩ no2
   have sf:aA H3 Hd σ (ρ2.set j (.ow d')):=by have:=sm.iK qa no2 n3 w3;rw[OZ]at this;exact this
   have of:∀b,aj σ (ρ2.set j (.ow d')) b->b=a\/aj σ ρ2 b:=fun b ⟨i,d4,y1,y2⟩=>by
    by_cases hi:j=i
    ·subst hi;rw[qa]at y2;cases y2;exact .inl rfl
    ·rw[gV hi]at y1;exact .inr ⟨i,d4,y1,y2⟩
   refine k v H3 Hd ⟨sf,t2.stp.trans s3 (fun b y=>.inl (y▸oa0)),fun b y=>?_,fun i y=>?_⟩ ?_
   ·rcases of b y with y | y
    ·exact y▸oa0
    ·exact t2.own b y
   ·trivial
   ·cases z with
    |val d4=>exact r3
    |new d4=>
     obtain⟨b,y0,y1,y2,y3⟩:=r3;refine⟨b,y0,t2.stp.gone y1,fun y=>?_,y2,y3⟩;rcases of b y with y | y
     ·subst y;rw[ha]at y1;cases y1
     ·exact t2.st.bf y1 y
end
theorem bR{X:Cx}{es:List Expr}{p pos px:Pos}{k:Nat}{F:Addr}{fd:FuncData}{ps:List Str}{g:List Dat->Option (RV×Dat)}{x y:Str}{j:Nat}{fs:List FE}(G:aN X.prog X.w X.K X.mg X.base CX0 k F fd ps (spM g))(hr:aW k X.A)(hg:Gl X x)(hm:X.mg x=some (.ref F))(hk:Nv X.K (.ref F)=true)(hb:Binds X.K fd ps [])
  (ha:DA X (.Name y px::es) (Dm.eV j::fs)) (LM:(x == ("__debug__" : Str))=false:=by decide) (he:starEach (.Name y px::es) X.env=(false,eval (.Name y px) X.env)::starEach es X.env:=by rfl) (Gx:(backTo pos (starEach es X.env)).any (·.1)=false:=by rfl) :
  DE X (.Call (.Name x p) (.Name y px::es) [] pos) (Dm.eFm g j fs):=PE.weak (jt G hr hg hm hk hb .nil (tU (X:=X)) ha LM he Gx) fun _ _ _=>BX
theorem yL{N:List Str}{n m:Nat}{body:FS}{vs:List V}{H:Hp}{Q:VK}{E:XK}(hm:N.length=n+m)(h:spM (Dm.fnM n m body) vs H Q E) :
  tDS body { nx:=fun _ H'=>Q .non H',rt:=Q } (start N vs) H:=by
 have hvn:=jx h;obtain⟨H0,a,us,d,ds,z,d',e,s,na,wa,rs,ef,k⟩:=h;subst e;have hl:=rs.length;rw[MU]at hvn;have e0:(start N (V.ref a::us))[0]?=some (some (V.ref a)):=rfl;have get:∀{i:Nat} {c:Dm.Cell},(Dm.Cell.ow d::(ds.map Dm.Cell.sh++Dk m .un))[i]?=some c->(i=0/\c=.ow d)\/(∃i' d4,i=i'+1/\ds[i']?=some d4/\c=.sh d4)\/c=.un:=fun {i c} y=>by
  cases i with
  |zero=>cases y;exact .inl ⟨rfl,rfl⟩
  |succ i=>
   rw[N8]at y;by_cases hi:i<ds.length
   ·rw[Mn (by simpa using hi),MA,Mp hi]at y;cases y;exact .inr (.inl ⟨i,ds[i],rfl,Mp hi,rfl⟩)
   ·rw[MJ (by simpa using hi),MV]at y;split at y
    ·cases y;exact .inr (.inr rfl)
    ·cases y
 have ow0:∀{i:Nat} {d4:Dat},(Dm.Cell.ow d::(ds.map Dm.Cell.sh++Dk m .un))[i]?=some (.ow d4)->i=0/\d4=d:=fun {i d4} y=>by
  rcases get y with⟨y1,y2⟩ | ⟨_,_,_,_,y2⟩ | y2
  ·cases y2;exact⟨y1,rfl⟩
  ·cases y2
  ·cases y2
 have oa:∀b,aj (start N (V.ref a::us)) (Dm.Cell.ow d::(ds.map Dm.Cell.sh++Dk m .un)) b->b=a:=fun b ⟨i,d4,y1,y2⟩=>by obtain⟨y3,_⟩:=ow0 y1;subst y3;rw[e0]at y2;cases y2;rfl
 have st:aA H0 H (start N (V.ref a::us)) (Dm.Cell.ow d::(ds.map Dm.Cell.sh++Dk m .un)):=by
  refine⟨s,?_,fun i d4 y=>?_,fun i d4 y=>?_,fun i i' d4 d5 b y1 y2 _ _=>(ow0 y1).1.trans (ow0 y2).1.symm⟩
  ·unfold L2.start;simp only[Mr,Dp,NP,MU];omega
  ·rcases get y with⟨_,y2⟩ | ⟨i',d5,y1,y2,y3⟩ | y2
   ·cases y2
   ·cases y3;subst y1;obtain⟨v,hv,r⟩:=rs.get y2;refine⟨v,?_,r⟩;have hi:i'<us.length:=(Me.mp hv).1;unfold L2.start;rw[Mn (by simp;omega),MA,N8,hv];rfl
   ·cases y2
  ·obtain⟨y1,y2⟩:=ow0 y;subst y1 y2;exact⟨a,e0,na,wa⟩
 have JM:∀{σ':L2.St} {ρ':Dm.Env} {H0' H':Hp},SSt (start N (V.ref a::us)) (Dm.Cell.ow d::(ds.map Dm.Cell.sh++Dk m .un)) H0 H σ' ρ' H0' H'->ρ'[0]?=some (.ow d')->Stp (fun b=>b=a) H0 H H0' H'/\H0' a=none/\Own H0' H' a d'/\aj σ' ρ' a:=fun {σ' ρ' H0' H'} t y=>by obtain⟨a',q',n',w'⟩:=t.st.ow 0 d' y;have fx:=t.fx;rw[e0,q']at fx;cases fx;exact⟨t.stp.wide fun b z=>oa b z,n',w',0,d',y,q'⟩
 unfold Dm.fnM at ef;split at ef
 case isFalse=>cases ef
 dsimp only at ef;split at ef
 ·rename_i z' ρ' e1;split at ef
  case h_2=>cases ef
  rename_i d4 y;cases ef;refine⟨H0,_,_,st,e1,fun σ' v H0' H' t r no=>?_⟩;obtain⟨f1,f2,f3,f4⟩:=JM t y;refine k v H0' H' f1 t.st.same f2 f3 ?_;cases z with
  |val d5=>exact r
  |new d5=>
   obtain⟨b,y0,y1,y2,y3⟩:=r;refine⟨b,y0,?_,y2,y3⟩;rcases y1 with y1 | y1
   ·exact y1
   ·exact absurd f4 (oa b y1▸no d5 b rfl y0)
 ·rename_i ρ' e1;split at ef
  case h_2=>cases ef
  rename_i d4 y;cases ef;refine⟨H0,_,_,st,e1,fun σ' H0' H' t=>?_⟩;obtain⟨f1,f2,f3,f4⟩:=JM t y;exact k _ H0' H' f1 t.st.same f2 f3 .non
 ·cases ef
end Br
namespace Dm
noncomputable def bq:List Int->List Dat->Int->Option Dat
 |k::ks,v::vs,i=>if k=i then some v else bq ks vs i
 |_,_,_=>none
noncomputable def um:List Int->List Dat->Int->Dat->List Dat
 |k::ks,v::vs,i,d=>(if k=i then d else v)::um ks vs i d
 |_,_,_,_=>[]
noncomputable def i9(ks:List Int)(i:Int):List Int:=if (ks.any fun k=>decide (k=i))=true then ks else ks++[i]
noncomputable def i_(ks:List Int)(vs:List Dat)(i:Int)(d:Dat):List Dat:=if (ks.any fun k=>decide (k=i))=true then um ks vs i d else vs++[d]
noncomputable def eDn:FE:=fun ρ=>some (.new (.dct [] []),ρ)
noncomputable def gDx:Dat->Dat->Option RV
 |.dct ks vs,.int i=>(bq ks vs i).map .val
 |_,_=>none
noncomputable def vX:Dat->Dat->Option RV
 |.int i,.dct ks vs=>vB (bq ks vs i).isSome
 |_,_=>none
noncomputable def pP:Dat->Dat->Option RV
 |.int i,.dct ks vs=>vB (!(bq ks vs i).isSome)
 |_,_=>none
noncomputable def ja(a b:FE):FE:=fun ρ=>match a ρ with
 |none=>none
 |some (x,ρ1)=>match pk ρ1 x with
  | some (.dct _ _)=>(match b ρ1 with
   |none=>none
   |some (y,ρ2)=>match pk ρ2 x with
    | some (.dct ks vs)=>(match pk ρ2 y with
     |some (.int i)=>some (.val ((bq ks vs i).getD .non),ρ2)
     |_=>none)
    |_=>none)
  |_=>none
noncomputable def eD1(a b:FE):FE:=fun ρ=>match a ρ with
 | some (.val (.int i),ρ1)=>(match b ρ1 with
  |none=>none
  |some (x,ρ2)=>match tk ρ2 x with
   |none=>none
   |some (d,ρ3)=>some (.new (.dct [i] [d]),ρ3))
 |_=>none
noncomputable def jY(i:Nat)(j e:FE):FS:=fun ρ=>match e ρ with
 |none=>none
 |some (x,ρ1)=>match tk ρ1 x with
  |none=>none
  |some (d,ρ2)=>match ρ2[i]? with
   | some (.ow _)=>(match j ρ2 with
    | some (.val (.int k),ρ3)=>(match ρ3[i]? with
     |some (.ow (.dct ks vs))=>if ks.length<SZ then some (.nx (ρ3.set i (.ow (.dct (i9 ks k) (i_ ks vs k d))))) else none
     |_=>none)
    |_=>none)
   |_=>none
end Dm
namespace Br
open PySem PySem.Spec PyProof.Rows L2
section
variable{ds:List Dat}{ks:List Int}{H0:Hp}{d:Dat}{v:V}
theorem cJ{H0 H:Hp}(s:ao H0 H)(r:fO H0 H v (.dct ks ds)):∃a kvs,v=.ref a/\H a=some (.dK kvs)/\kvs.map (·.1)=ks.map MB/\ay H0 (kvs.map (·.2)) ds:=by
 rcases r with r | ⟨a,e,kvs,q,ek,rs⟩
 ·cases r with
  |dct q ek rs=>exact⟨_,_,rfl,s _ _ q,ek,rs⟩
 ·exact⟨a,kvs,e,q,ek,rs⟩
theorem nS{a b:Int}(h:¬a=b):¬(MB a:Key)=MB b:=fun q=>h (Sum.inl.inj q)
theorem fk(i:Int):∀{kvs:List (Key×V)} {ks:List Int} {ds:List Dat},kvs.map (·.1)=ks.map MB->ay H0 (kvs.map (·.2)) ds ->
  (∃d v,Dm.bq ks ds i=some d/\dS kvs (MB i)=some v/\Rep H0 v d)\/(Dm.bq ks ds i=none/\dS kvs (MB i)=none)
 |[],[],_,_,r=>by cases r;exact .inr ⟨rfl,rfl⟩
 |[],_::_,_,e,_=>by cases e
 |_::_,[],_,e,_=>by cases e
 |(k0,v0)::kvs,k::ks,_,e,r=>by
  rw[eg]at r;cases r with
  |cons r0 rr=>
   rw[eg,eg]at e;injection e with e1 e2
   have e1:k0=MB k:=e1;subst e1;unfold Dm.bq;by_cases h:k=i
   ·subst h;rw[if_pos rfl];exact .inl ⟨_,v0,rfl,dZ rfl,r0⟩
   ·rw[if_neg h,d7 (nS h)];exact fk i e2 rr
theorem yM(i:Int):∀{kvs:List (Key×V)} {ks:List Int},kvs.map (·.1)=ks.map MB->(kvs.any fun kv=>decide (kv.1=MB i))=(ks.any fun k=>decide (k=i))
 |[],[],_=>rfl
 |[],_::_,e=>by cases e
 |_::_,[],e=>by cases e
 |(k0,v0)::kvs,k::ks,e=>by
  rw[eg,eg]at e;injection e with e1 e2
  have e1:k0=MB k:=e1;subst e1;rw[Ng,Ng,yM i e2]
  congr 1
  by_cases h:k=i
  ·subst h;simp
  ·have:=nS h;simp[h,this]
theorem uo(i:Int)(rv:Rep H0 v d):∀{kvs:List (Key×V)} {ks:List Int} {ds:List Dat},kvs.map (·.1)=ks.map MB->ay H0 (kvs.map (·.2)) ds ->
  ((kvs.map fun kv=>if kv.1=MB i then (kv.1,v) else kv).map (·.1)=ks.map MB)/\ay H0 ((kvs.map fun kv=>if kv.1=MB i then (kv.1,v) else kv).map (·.2)) (Dm.um ks ds i d)
 |[],[],_,_,r=>by cases r;exact⟨rfl,.nil⟩
 |[],_::_,_,e,_=>by cases e
 |_::_,[],_,e,_=>by cases e
 |(k0,v0)::kvs,k::ks,_,e,r=>by
  rw[eg]at r;cases r with
  |cons r0 rr=>
   rw[eg,eg]at e;injection e with e1 e2
   have e1:k0=MB k:=e1;subst e1;obtain⟨i1,i2⟩:=uo i rv e2 rr;unfold Dm.um;by_cases h:k=i
   ·subst h;rw[if_pos rfl,eg,eg,eg,i1];simp only[if_true];exact⟨trivial,.cons rv i2⟩
   ·rw[if_neg h,eg,eg,eg,i1];have:=nS h;simp only[this,if_false];exact⟨trivial,.cons r0 i2⟩
theorem F9(i:Int)(rv:Rep H0 v d){kvs:List (Key×V)}(e:kvs.map (·.1)=ks.map MB)(r:ay H0 (kvs.map (·.2)) ds) :
  (putK kvs (MB i) v).map (·.1)=(Dm.i9 ks i).map MB/\ay H0 ((putK kvs (MB i) v).map (·.2)) (Dm.i_ ks ds i d):=by
 have ha:=yM i e;unfold putK Dm.i9 Dm.i_;rw[ha];cases hb:(ks.any fun k=>decide (k=i)) with
 |true=>simp only[if_true];exact uo i rv e r
 |false=>simp only[Ni,if_false];rw[Mt,Mt,Mt,e];exact⟨rfl,r.append (.cons rv .nil)⟩
theorem Jw:OpD (fun x y H Q=>∃a v,x=.ref a/\cL H a y (some v)/\Q v H) Dm.gDx:=by
 intro H0 H x y dx dy z Q s rx ry e k;unfold Dm.gDx at e;split at e
 ·rename_i ks vs i;cases az ry;obtain⟨a,kvs,rfl,qa,ek,rs⟩:=cJ s rx;rcases fk i ek rs with⟨d,v,l1,l2,r⟩ | ⟨l1,_⟩
  ·rw[l1]at e;cases e;refine⟨a,v,rfl,?_,k _ H0 H (aG.refl s) r⟩;have:=cL.k (k:=MB i) qa;rw[l2]at this;exact this
  ·rw[l1]at e;cases e
 ·cases e
theorem F_:OpD (fun y x H Q=>∃a o,x=.ref a/\cL H a y o/\Q (.bl o.isSome) H) Dm.vX:=by
 intro H0 H x y dx dy z Q s rx ry e k;unfold Dm.vX at e;split at e
 ·rename_i i ks vs;cases e;cases az rx;obtain⟨a,kvs,rfl,qa,ek,rs⟩:=cJ s ry;refine⟨a,_,rfl,cL.k (k:=MB i) qa,k _ H0 H (aG.refl s) ?_⟩;rcases fk i ek rs with⟨d,v,l1,l2,r⟩ | ⟨l1,l2⟩
  ·rw[l1,l2];exact .bl _
  ·rw[l1,l2];exact .bl _
 ·cases e
theorem BY:OpD (fun y x H Q=>∃a o,x=.ref a/\cL H a y o/\Q (.bl (!o.isSome)) H) Dm.pP:=by
 intro H0 H x y dx dy z Q s rx ry e k;unfold Dm.pP at e;split at e
 ·rename_i i ks vs;cases e;cases az rx;obtain⟨a,kvs,rfl,qa,ek,rs⟩:=cJ s ry;refine⟨a,_,rfl,cL.k (k:=MB i) qa,k _ H0 H (aG.refl s) ?_⟩;rcases fk i ek rs with⟨d,v,l1,l2,r⟩ | ⟨l1,l2⟩
  ·rw[l1,l2];exact .bl _
  ·rw[l1,l2];exact .bl _
 ·cases e
end
section
variable{σ:L2.St}{H:Hp}{Q:VK}{D:Ends}
theorem Lz(h:tD Dm.eDn σ H Q):xN σ H Q:=by obtain⟨H0,ρ,x,ρ',st,e,k⟩:=h;cases e;intro p hp;have g:=aG.jr (o:=HO.dK []) st.same hp;exact k _ _ _ (.grow st g) ⟨p,rfl,hp,st.bf hp,st.same.free hp,[],aq,rfl,.nil⟩
theorem Ga{fo fi:FE}(h:tD (Dm.ja fo fi) σ H Q):xT (tD fo) (tD fi) σ H Q:=by
 obtain⟨H0,ρ,x,ρ',st,e,k⟩:=h;unfold Dm.ja at e;split at e
 ·cases e
 rename_i x1 ρ1 e1;split at e
 case h_2=>cases e
 rename_i ks0 vs0 p0;split at e
 ·cases e
 rename_i y1 ρ2 e2;split at e
 case h_2=>cases e
 rename_i ks vs p1;split at e
 case h_2=>cases e
 rename_i i p2;cases e;refine⟨H0,ρ,x1,ρ1,st,e1,fun v H1 Hb t1 r1=>?_⟩;obtain⟨a,Gb,rfl,qa0,_,_⟩:=cJ t1.st.same (r1.look t1.st p0);refine⟨a,rfl,.inl ⟨Gb,.inl qa0⟩,H1,ρ1,y1,_,t1.st,e2,fun u H2 Hc t2 r2=>?_⟩;have hu:=az (r2.look t2.st p2);subst hu;obtain⟨a',kvs,ea,qa,ek,rs⟩:=cJ t2.st.same ((r1.mono t2).look t2.st p1);cases ea;refine⟨_,cL.k (k:=MB i) qa,k _ H2 Hc (t1.trans t2) ?_⟩;rcases fk i ek rs with⟨d,w,l1,l2,r⟩ | ⟨l1,l2⟩
 ·rw[l1,l2];exact r
 ·rw[l1,l2];exact Rep.non
theorem Gd{i:Nat}{j f:FE}(h:tDS (Dm.jY i j f) D σ H):xK (nv i) (tD j) (tD f) D σ H:=by
 obtain⟨H0,ρ,o,st,e,k⟩:=h;unfold Dm.jY at e;split at e
 ·cases e
 rename_i x ρ1 e1;split at e
 ·cases e
 rename_i d ρ2 e2;split at e
 case h_2=>cases e
 rename_i d0 h2;split at e
 ·rename_i m ρ3 e3;split at e
  ·rename_i ks vs h3;split at e
   case isFalse=>cases e
   rename_i hz;cases e;refine⟨H0,ρ,_,ρ1,st,e1,fun v H0' H' t r=>?_⟩;obtain⟨H1,t1,b1,r1,_,_⟩:=take1 t (ao.refl _) r e2;obtain⟨a0,q0,_,_⟩:=t1.st.ow i _ h2;refine⟨_,q0,H1,ρ2,_,ρ3,t1.st,e3,fun u H2 Hc t2 r2=>?_⟩;obtain⟨a,q,n,w⟩:=t2.st.ow i _ h3;rw[q0]at q;cases q;obtain⟨kvs,y,ek,rs⟩:=w;have hu:=Rep.isInt r2;subst hu;obtain⟨p1,p2⟩:=F9 m (r1.mono t2.stp.s0) ek rs;have Cv:kvs.length=ks.length:=by
    have:=congrArg List.length ek
    simpa using this
   refine⟨a0,_,rfl,o_.k (k:=MB m) y (by rw[Cv];exact Mq hz (by decide)),?_⟩;have ow:aj σ ρ3 a0:=⟨i,_,h3,q0⟩
   have tt:=t1.trans t2;exact k σ H2 _ ⟨t2.st.write h3 q0 ⟨_,aq,p1,p2⟩,tt.stp.trans (Stp.write ow) fun b z=>.inl (tt.own b z),fun b z=>.inl (tt.own b (bH h3 z)),rfl⟩
  ·cases e
 ·cases e
theorem LA{fa fb:FE}(h:tD (Dm.eD1 fa fb) σ H Q):Df [(tD fa,tD fb)] σ H Q:=by
 obtain⟨H0,ρ,x,ρ',st,e,k⟩:=h;unfold Dm.eD1 at e;split at e
 ·rename_i i ρ1 e1;split at e
  ·cases e
  rename_i y ρ2 e2;split at e
  ·cases e
  rename_i d ρ3 e3;cases e;intro p hp;have n0:H0 p=none:=st.same.free hp;have no:¬aj σ ρ p:=st.bf hp;refine⟨H0,ρ,_,ρ1,st.aside n0 no,e1,fun u H1 Hb t1 r1=>⟨H1,ρ1,y,ρ2,t1.st,e2,fun v H2 Hc t2 r2=>?_⟩⟩;have tt:=t1.trans t2;obtain⟨H3,t3,b3,r3,_,_⟩:=take1 tt (ao.refl _) (r2.early fun a n=>t1.stp.gone n) e3;obtain⟨hp3,n3,no3⟩:=t3.cH (o:=HO.dK []) aq n0 no;have hu:=Rep.isInt r1;subst hu;refine⟨hp3,[(MB i,v)],rfl,(by simp),?_⟩;have em:iE [] [((MB i:Key),v)]=[(MB i,v)]:=rfl;rw[em];refine k _ H3 _ ⟨t3.st.aside n3 no3,⟨t3.stp.s0,fun a o y nb=>?_,fun a o y=>?_,fun a o y=>?_⟩,t3.own,t3.dfn⟩ ⟨p,rfl,hp,no3,n3,_,aq,rfl,.cons r3 .nil⟩
  ·have ne:a≠p:=fun q=>by rw[q,hp]at y;cases y
   rw[au ne];exact t3.stp.s1 a o (by rw[au ne];exact y) nb
  ·rcases t3.stp.s2 a o y with y1 | y1 | y1
   ·by_cases ne:a=p
    ·subst ne;rw[n3]at y;cases y
    ·rw[au ne]at y1;exact .inl y1
   ·exact .inr (.inl y1)
   ·exact .inr (.inr y1)
  ·have ne:a≠p:=fun q=>by rw[q,hp]at y;cases y
   rw[au ne];exact t3.stp.s3 a o (by rw[au ne];exact y)
 ·cases e
end
theorem u1{k:Nat}{A:Around}(hr:aW k A):A.units+1<cLine:=Nat.lt_of_le_of_lt (Nat.add_le_add_left (by decide) _) hr.units
section
variable{X:Cx}{a b e:Expr}{fa fb f:FE}{pos:Pos}{k:Nat}
theorem LB:DE X (.Dict [] [] pos) Dm.eDn:=PE.weak xP fun _ _ _=>Lz
theorem LC(ha:DE X a fa)(hb:DE X b fb):DE X (.Dict [some a] [b] pos) (Dm.eD1 fa fb):=PE.weak (Bs (xR ha hb Bq) rfl rfl (by simp) (by simp)) fun _ _ _=>LA
theorem Ge(hr:aW k X.A)(ha:DE X a fa)(hb:DE X b fb)(hs:Bm b:=by intro _ _;rfl):DE X (.Subscript a b pos) (Dm.e2 Dm.gDx fa fb):=PE.weak (tX (u1 hr) ha hb hs) fun _ _ _=>pC Jw
theorem Dz(hr:aW k X.A)(ha:DE X a fa)(hb:DE X b fb)(hm:behindInMarks .In b=false:=by rfl):DT X (.Compare a [.In] [b] pos) (Dm.tV (Dm.e2 Dm.vX fa fb)):=PT.weak (wV (Fi (u1 hr) ha hb) hm) fun σ H Q h=>pC F_ (nM h)
theorem Gf(hr:aW k X.A)(ha:DE X a fa)(hb:DE X b fb)(hm:behindInMarks .NotIn b=false:=by rfl):DT X (.Compare a [.NotIn] [b] pos) (Dm.tV (Dm.e2 Dm.pP fa fb)):=PT.weak (wV (vK (u1 hr) ha hb) hm) fun σ H Q h=>pC BY (nM h)
theorem yN{Gz cpos:Pos}(hr:aW k X.A)(ha:DE X a fa)(hb:DE X b fb)(m:M1 X a "get" Gz b cpos:=by exact⟨rfl,rfl,rfl,rfl⟩):DE X (.Call (.Attribute a "get" Gz) [b] [] cpos) (Dm.ja fa fb):=PE.weak (xV (u1 hr) ha hb m) fun _ _ _=>Ga
theorem yO(i:Nat){x:Str}{px sp:Pos}(hr:aW k X.A)(hb:DE X b fb)(he:DE X e f)(hi:X.N[i]?=some x:=by rfl)(hv:Vis X.env.scope x:=by trivial)(hd:(x == ("__debug__" : Str))=false:=by decide)
  (JO:(x == ("__classdict__" : Str))=false:=by decide) (hs:swapsWith e (some (.Subscript (.Name x px) b sp)) pos.line X.env=pure false:=by rfl):DS X (.Assign [.Subscript (.Name x px) b sp] e pos) (Dm.jY i fb f):=
 PS.weak (tY (u1 hr) (dW hi hv hd JO) hb he hs) fun _ _ _=>Gd
end
section
variable{σ:L2.St}{H:Hp}{Q:VK}
theorem LD{K:gc}{f:FE}{Q:Bool->Hp->Prop}(h:tDT (Dm.tTr f) σ H Q):tD f σ H fun x H'=>∃k,E2 K x H' k/\Q k H':=by
 obtain⟨H0,ρ,b,ρ',st,e,k⟩:=h;unfold Dm.tTr at e;split at e
 ·cases e
 rename_i x ρ1 e1;split at e
 ·cases e
 rename_i d p1;split at e
 ·cases e
 rename_i c tc;cases e;refine⟨H0,ρ,x,_,st,e1,fun v H1 Hb t1 r1=>⟨b,?_,k H1 Hb t1⟩⟩;have rl:=r1.look t1.st p1;cases d with
 |non=>
  cases tc;rcases rl with r | ⟨a,_,w⟩
  ·cases r;rfl
  ·exact MN w
 |bl c=>cases tc;cases uc rl;rfl
 |int i=>cases tc;cases az rl;rfl
 |tup es=>cases tc;obtain⟨a,xs,rfl,qa,rs⟩:=eG t1.st.same rl;refine .inr (.inl ⟨xs,SqT.of qa,?_⟩);cases rs<;>rfl
 |lst es=>cases tc;obtain⟨a,xs,rfl,qa,rs⟩:=bu t1.st.same rl;refine .inl ⟨xs,.inl qa,?_⟩;cases rs<;>rfl
 |str _=>cases tc
 |dct _ _=>cases tc
 |dcp _ _=>cases tc
 |exc _=>cases tc
 |fn _=>cases tc
end
section
variable{X:Cx}{a:Expr}{fa:FE}{p pos:Pos}
theorem LF(ha:DE X a fa)(he:∀whole,isTrue a X.env whole=(do let v <- whole;standAt a.pos;holding [v] (truthy v)):=by intro _;rfl):DT X a (Dm.tTr fa):=PT.weak (xx ha he) fun _ _ _=>LD
end
end Br
namespace Ts
open PySem PyProof.Rows
variable{M:Model}{A:Around}{E:Value->Shared->Prop}{s:Shared}{κ:KeyKind}{kd:SortKind}{a₀:Array Keyed}
end Ts
namespace Ts
open PySem PyProof.Rows
variable{M:Model}{A:Around}{E:Value->Shared->Prop}{s:Shared}{κ:KeyKind}{kd:SortKind}{a₀:Array Keyed}
end Ts
namespace Ts
open PySem PyProof.Rows
variable{M:Model}{A:Around}{E:Value->Shared->Prop}{s:Shared}{κ:KeyKind}{kd:SortKind}{a₀:Array Keyed}
end Ts
namespace Ts
open PySem PyProof.Rows
variable{M:Model}{A:Around}{E:Value->Shared->Prop}{s:Shared}{κ:KeyKind}{kd:SortKind}{a₀:Array Keyed}
end Ts
namespace Ts
open PySem PyProof.Rows
variable{A:Around}{E:Value->Shared->Prop}{s:Shared}{κ:KeyKind}{kd:SortKind}{a₀:Array Keyed}{prog:Program}{w:World}
end Ts
namespace Ts
open PySem PyProof.Rows
variable{A:Around}{E:Value->Shared->Prop}{s:Shared}{κ:KeyKind}{kd:SortKind}{a₀:Array Keyed}{prog:Program}{w:World}
end Ts
namespace Ts
open PySem PyProof.Rows
variable{A:Around}{E:Value->Shared->Prop}{s:Shared}{κ:KeyKind}{kd:SortKind}{a₀:Array Keyed}{prog:Program}{w:World}
end Ts
namespace Ts
open PySem PyProof.Rows
variable{A:Around}{E:Value->Shared->Prop}{s:Shared}{κ:KeyKind}{kd:SortKind}{a₀:Array Keyed}{prog:Program}{w:World}
end Ts
namespace Ts
open PySem PyProof.Rows
variable{A:Around}{E:Value->Shared->Prop}{s:Shared}{κ:KeyKind}{kd:SortKind}{prog:Program}{w:World}
end Ts
namespace Ts
open PySem PyProof.Rows
variable{A:Around}{E:Value->Shared->Prop}{s:Shared}{κ:KeyKind}{kd:SortKind}{a₀:Array Keyed}{prog:Program}{w:World}
end Ts
namespace Ts
open PySem PyProof.Rows
variable{A:Around}{E:Value->Shared->Prop}{s:Shared}{κ:KeyKind}{kd:SortKind}{prog:Program}{w:World}
end Ts
namespace Dm
section
variable{α:Type}
noncomputable def ins{α:Type}(lt:α->α->Bool)(x:α):List α->List α
 |[]=>[x]
 |y::l=>if lt y x then y::ins lt x l else x::y::l
noncomputable def dP{α:Type}(lt:α->α->Bool):List α->List α
 |[]=>[]
 |x::l=>ins lt x (dP lt l)
theorem jZ(lt:α->α->Bool)(x:α):∀l,(ins lt x l).Perm (x::l)
 |[]=>List.Perm.refl _
 |y::l=>by
  rw[ins];split
  ·exact((jZ lt x l).cons y).trans (List.Perm.swap x y l)
  ·exact List.Perm.refl _
theorem dw(lt:α->α->Bool):∀l,(dP lt l).Perm l
 |[]=>List.Perm.refl _
 |x::l=>(jZ lt x _).trans ((dw lt l).cons x)
theorem j0{lt:α->α->Bool}(tr:∀a b c,lt b a=false->lt c b=false->lt c a=false)(as:∀a b,lt a b=true->lt b a=false)(x:α):∀l:List α,l.Pairwise (fun a b=>lt b a=false)->(ins lt x l).Pairwise (fun a b=>lt b a=false)
 |[],_=>by simp[ins]
 |y::l,h=>by
  rw[ins];obtain⟨h1,h2⟩:=MZ.mp h;split
  ·rename_i hl;refine MZ.mpr ⟨fun z hz=>?_,j0 tr as x l h2⟩;rcases Mj.mp ((jZ lt x l).mem_iff.mp hz) with rfl | hz
   ·exact as _ _ hl
   ·exact h1 z hz
  ·rename_i hl;have hl':lt y x=false:=by simpa using hl
   refine MZ.mpr ⟨fun z hz=>?_,h⟩;rcases Mj.mp hz with rfl | hz
   ·exact hl'
   ·exact tr _ _ _ hl' (h1 z hz)
theorem dB{lt:α->α->Bool}(tr:∀a b c,lt b a=false->lt c b=false->lt c a=false)(as:∀a b,lt a b=true->lt b a=false):∀l:List α,(dP lt l).Pairwise (fun a b=>lt b a=false)
 |[]=>List.Pairwise.nil
 |x::l=>j0 tr as x _ (dB tr as l)
theorem jb{lt:α->α->Bool}(tot:∀a b,lt a b=false->lt b a=false->a=b):∀{l m:List α},l.Perm m->l.Pairwise (fun a b=>lt b a=false)->m.Pairwise (fun a b=>lt b a=false)->l=m
 |[],m,p,_,_=>(List.nil_perm.mp p).symm
 |x::l,[],p,_,_=>by have:=p.length_eq;simp at this
 |x::l,y::m,p,h1,h2=>by
  obtain⟨a1,a2⟩:=MZ.mp h1;obtain⟨b1,b2⟩:=MZ.mp h2;have e:x=y:=by
   rcases Mj.mp (p.mem_iff.mp Mg) with hx | hx
   ·exact hx
   ·rcases Mj.mp (p.mem_iff.mpr (Mg (a:=y) (l:=m))) with hy | hy
    ·exact hy.symm
    ·exact tot x y (b1 x hx) (a1 y hy)
  subst e;rw[jb tot (List.Perm.cons_inv p) a2 b2]
noncomputable def iM(i:Nat)(e:FE):FE:=fun ρ=>match ρ[i]? with
 | some (.ow (.lst _))=>(match e ρ with
  | some (.val (.int j),ρ1)=>(match ρ1[i]? with
   | some (.ow (.lst ds))=>if 0≤j∧j≤BIG then (match ds[j.toNat]? with
     |some d=>some (.val d,ρ1.set i (.ow (.lst (ds.eraseIdx j.toNat))))
     |none=>none) else none
   |_=>none)
  |_=>none)
 |_=>none
noncomputable def isN:Dat->Bool
 |.non=>true
 |_=>false
noncomputable def pQ:Dat->Dat->Option RV
 |d,.non=>vB (isN d)
 |_,_=>none
end
end Dm
namespace Br
open PySem PySem.Spec PyProof.Rows L2
theorem mP{H0:Hp}:∀ns:List Int,ay H0 (ns.map V.int) (ns.map Dat.int)
 |[]=>.nil
 |n::ns=>.cons (.int n) (mP ns)
section
variable{X:Cx}{a b c e:Expr}{f fa fb:FE}{fs:List FE}{p pos:Pos}
def Jx(neg:Bool):R2:=fun x y H Q=>y=.non/\Q (.bl (if neg then !decide (x=V.non) else decide (x=V.non))) H
theorem BZ{x:V}{v:Value}(r:RelV x v):(v == Value.none)=decide (x=V.non):=by
 cases x with
 |non=>cases r;rfl
 |bl b=>cases r;rfl
 |int i=>obtain⟨t,rfl⟩:=r;rfl
 |str z=>obtain⟨t,rfl⟩:=r;rfl
 |byt z=>obtain⟨t,rfl⟩:=r;rfl
 |flt z=>obtain⟨t,rfl⟩:=r;rfl
 |ref z=>cases r;rfl
 |ty z=>cases r;rfl
theorem yP:OpR X (compareOp .Is) (Jx false):=by intro sy s σ H x y v u Q I rx ry h;obtain⟨rfl,q⟩:=h;cases ry;refine is_none_gen ?_;rw[BZ rx];exact⟨.bl _,H,I,rfl,q⟩
theorem uq{H0 H:Hp}{x:V}{d:Dat}(r:fO H0 H x d):decide (x=V.non)=Dm.isN d:=by
 rcases r with r | ⟨a,rfl,w⟩
 ·cases r<;>rfl
 ·cases d with
  |non=>exact MN w
  |_=>rfl
theorem yQ:OpD (Jx false) Dm.pQ:=by
 intro H0 H x y dx dy z Q s rx ry e k;unfold Dm.pQ at e;split at e
 ·cases e;have hy:=uq ry;have:y=V.non:=of_decide_eq_true (hy.trans rfl);refine⟨this,?_⟩;rw[if_neg (by decide),uq rx];exact k _ H0 H (aG.refl s) (.bl _)
 ·cases e
theorem Jy(ha:DE X a fa)(hb:DE X b fb):DE X (.Compare a [.Is] [b] pos) (Dm.e2 Dm.pQ fa fb):=i8 yP yQ ha hb (ck _)
theorem DB(ha:DE X a fa)(hb:DE X b fb):DT X (.Compare a [.Is] [b] pos) (Dm.tV (Dm.e2 Dm.pQ fa fb)):=jR yP yQ ha hb (ck _)
end
section
variable{σ:L2.St}{H:Hp}{Q:VK}{D:Ends}
theorem j3{α:Type}(l:List α)(i:Nat):l.eraseIdx i=l.take i++l.drop (i+1):=List.eraseIdx_eq_take_drop_succ l i
theorem rX{H0:Hp}{vs:List V}{ds:List Dat}(i:Nat)(r:ay H0 vs ds):ay H0 (vs.eraseIdx i) (ds.eraseIdx i):=by rw[j3,j3];exact(r.take i).append (r.drop (i+1))
theorem B0{K:gc}{i:Nat}{f:FE}(h:tD (Dm.iM i f) σ H Q):tBM K "list" xF (nv i) (tDA [f]) σ H Q:=by
 obtain⟨H0,ρ,x,ρ',st,e,k⟩:=h;unfold Dm.iM at e;split at e
 case h_2=>cases e
 rename_i ds0 h0;obtain⟨a0,q0,n0,w0⟩:=st.ow i _ h0;refine⟨_,q0,?_⟩;obtain⟨xs0,y0,_⟩:=w0;refine⟨.inl ⟨rfl,xs0,.inl (.inl y0)⟩,?_⟩;split at e
 case h_2=>cases e
 rename_i j ρ1 e1;split at e
 case h_2=>cases e
 rename_i ds h2;split at e
 case isFalse=>cases e
 rename_i hb;split at e
 case h_2=>cases e
 rename_i d hd;cases e;refine⟨H0,ρ,[.val (.int j)],ρ1,st,by unfold Dm.eAs;rw[e1];rfl,fun vs H0' H' t r=>?_⟩;cases r with
 |cons r rr=>
  cases rr;cases Rep.isInt r;obtain⟨a,q,n,w⟩:=t.st.ow i _ h2;rw[q0]at q;cases q;obtain⟨xs,y,rs⟩:=w;obtain⟨v,hv,rv⟩:=rs.get hd;have Gy:j.toNat<xs.length:=(Me.mp hv).1;have hB:Dm.BIG=1000000000:=rfl;refine⟨a0,xs,j,j.toNat,v,rfl,rfl,y,by lia,by lia,?_,hv,?_⟩
  ·unfold seqIndex?;simp only[show ¬j<0 by lia,if_false];rw[if_pos (by rw[decide_eq_true (show 0<=j by lia),decide_eq_true (show j<(xs.length:Int) by lia)];rfl)]
  have ow:aj σ ρ1 a0:=⟨i,_,h2,q0⟩
  have hi:i<ρ1.length:=(Me.mp h2).1;refine k v H0' _ (t.trans ⟨t.st.write h2 q0 ⟨_,aq,rX _ rs⟩,Stp.write ow,fun b z=>bH h2 z,fun j' z=>trivial⟩) rv
end
section
variable{X:Cx}{e:Expr}{f:FE}{pos:Pos}
theorem B3(i:Nat){x:Str}{px ap cp:Pos}(he:DE X e f)(hi:X.N[i]?=some x:=by rfl)(hv:Vis X.env.scope x:=by trivial)(hd:(x == ("__debug__" : Str))=false:=by decide)
  (JO:(x == ("__classdict__" : Str))=false:=by decide) (JT:attributeBase (.Name x px) "pop" X.env (eval (.Name x px) X.env)=eval (.Name x px) X.env:=by rfl)
  (hfew:((backTo cp (starEach [e] X.env)).all (fun x=>!x.1)&&(backToKw cp (keywordEach [] X.env)).all (fun x=>x.1.isSome)
   && decide ([e].length+([]:List Keyword).length+(if ([]:List Keyword).isEmpty then 0 else 1)<30))=true:=by rfl)
  (JS:(ap.endLine == cp.line)=true:=by rfl) (hs:starEach [e] X.env=(false,eval e X.env)::starEach [] X.env:=by rfl) (JN:(backTo cp (starEach [] X.env)).any (·.1)=false:=by rfl) :
  DE X (.Call (.Attribute (.Name x px) "pop" ap) [e] [] cp) (Dm.iM i f):=
 PE.weak (xD N7 PySem.F.slot_list_pop PySem.F.type_list_pop xG (dW hi hv hd JO) (aa he af hs) JT hfew JS hs JN) fun _ _ _=>B0
end
end Br
namespace L2
open PySem PySem.Spec PyProof.Rows
section
variable{P:Program}{w:World}{K:gc}{mg:Str->Option Value}{base:Heap}{N:List Str}{qual:Str}{scope:Scope}{f:Addr}{cd:Value}{A:Around}{outer:List Env}{s₀:Shared}{H₀:Hp}{E:XK}{C:Addr}
 {sy:List (Addr×Obj)} {σ:St} {H:Hp} {s:Shared}
end
end L2
namespace Dm
noncomputable abbrev FN:=Env->List (List Dat)->Option (Env×List (List Dat))
noncomputable def nNx:FN:=fun ρ r=>some (ρ,r)
noncomputable def vY(s u:FN):FN:=fun ρ r=>match s ρ r with
 |none=>none
 |some (ρ1,r1)=>u ρ1 r1
noncomputable def nIf(t:FT)(a b:FN):FN:=fun ρ r=>match t ρ with
 |none=>none
 |some (true,ρ1)=>a ρ1 r
 |some (false,ρ1)=>b ρ1 r
noncomputable def rY(i e:FE):FN:=fun ρ r=>match i ρ with
 | some (.val (.int k),ρ1)=>(match ixN r.length k with
  |none=>none
  |some m=>match r[m]? with
   |none=>none
   |some row=>match e ρ1 with
    |none=>none
    |some (x,ρ2)=>match tk ρ2 x with
     |none=>none
     |some (d,ρ3)=>if row.length<SZ then some (ρ3,r.set m (row++[d])) else none)
 |_=>none
noncomputable def jc(bd:FB)(body:FN):List Dat->FN
 |[],ρ,r=>some (ρ,r)
 |d::q,ρ,r=>match bd d ρ with
  |none=>none
  |some ρ1=>match body ρ1 r with
   |none=>none
   |some (ρ2,r2)=>jc bd body q ρ2 r2
noncomputable def rZ(it:FI)(bd:FB)(body:FN):FN:=fun ρ r=>match it ρ with
 |none=>none
 |some (ds,ρ1)=>jc bd body ds ρ1 r
noncomputable def nMk(bd:FB):List Dat->Env->Option Env
 |[],ρ=>some ρ
 |d::r,ρ=>match bd d ρ with
  |none=>none
  |some ρ1=>nMk bd r ρ1
noncomputable def j4(j:Nat)(it:FI)(own:Nat)(bd:FB)(JQ:FN):FS:=fun ρ=>if j=0 then none else match it ρ with
 |none=>none
 | some (ds,ρ1)=>if ds.length≤SZ then (match nMk bd ds (ρ1++Dk own .un) with
  |none=>none
  |some ρ2=>match JQ ((ρ2.take ρ1.length).set j .un) (Dk ds.length []) with
   |none=>none
   |some (ρ3,r)=>some (.nx (ρ3.set j (.ow (.lst (r.map .lst)))))) else none
noncomputable def iN:List Dat->Option RV
 |[.dct ks _]=>if ks.length<=63 then some (.new (.lst ((dP (fun a b=>decide (a<b)) ks).map .int))) else none
 |_=>none
noncomputable def pR:List Dat->Option RV
 |[.dct ks vs]=>some (.new (.dct ks vs))
 |_=>none
noncomputable def dD:List Int->List Dat->Int->List Int
 |k::ks,_::vs,i=>if k=i then dD ks vs i else k::dD ks vs i
 |_,_,_=>[]
noncomputable def dF:List Int->List Dat->Int->List Dat
 |k::ks,v::vs,i=>if k=i then dF ks vs i else v::dF ks vs i
 |_,_,_=>[]
noncomputable def j5(i:Nat)(e:FE):FE:=fun ρ=>match ρ[i]? with
 | some (.ow (.dct _ _))=>(match e ρ with
  | some (.val (.int k),ρ1)=>(match ρ1[i]? with
   | some (.ow (.dct ks vs))=>(match bq ks vs k with
    |some d=>some (.val d,ρ1.set i (.ow (.dct (dD ks vs k) (dF ks vs k))))
    |none=>none)
   |_=>none)
  |_=>none)
 |_=>none
mutual
noncomputable def a_:Dat->Bool
 |.tup xs=>eN xs
 |.lst xs=>eN xs
 |.dct _ _=>false
 |.dcp _ _=>false
 |.exc _=>false
 |_=>true
noncomputable def eN:List Dat->Bool
 |[]=>true
 |x::r=>a_ x&&eN r
end
noncomputable def tkd(ρ:Env):Val->Option (Dat×Env)
 |.val d=>some (d,ρ)
 |.new d=>some (d,ρ)
 |.slot i=>match ρ[i]? with
  |some (.ow (.dct ks vs))=>some (.dct ks vs,ρ)
  |some (.ow d)=>some (d,ρ.set i (.sh d))
  |some (.sh d)=>some (d,ρ)
  |_=>none
noncomputable def r8(ρ:Env):List Val->Option (List Dat×Env)
 |[]=>some ([],ρ)
 |x::r=>match tkd ρ x with
  |none=>none
  |some (d,ρ1)=>match r8 ρ1 r with
   |none=>none
   |some (ds,ρ2)=>some (d::ds,ρ2)
noncomputable def eFd(f:List Dat->Option RV)(as:List FE):FE:=fun ρ=>match eAs as ρ with
 |none=>none
 |some (xs,ρ1)=>match r8 ρ1 xs with
  |none=>none
  |some (ds,ρ2)=>match f ds with
   |none=>none
   |some v=>if a_ v.dat then some (v.aY,ρ2) else none
noncomputable def ie:Dat->Dat->Option RV
 |.int i,.int j=>if i.natAbs.log2<1000000/\j.natAbs.log2<1000000 then vI (i*j) else none
 |_,_=>none
noncomputable def fQ(lo k:Int)(n:Nat):List Dat:=(Mm n).map fun i=>Dat.int (lo+(i:Nat)*k)
noncomputable def b4(i j k:Int):Nat:=if i<j then ((j-i-1) / k+1).toNat else 0
noncomputable def iRs(a b c:FE):FI:=fun ρ=>match a ρ with
 | some (.val (.int i),ρ1)=>(match b ρ1 with
  | some (.val (.int j),ρ2)=>(match c ρ2 with
   |some (.val (.int k),ρ3)=>if (0<k/\k<=1000)/\j<=BIG/\-BIG<=j/\i<=BIG/\-BIG<=i then some (fQ i k (b4 i j k),ρ3) else none
   |_=>none)
  |_=>none)
 |_=>none
noncomputable def iO:List Val->Option (List Dat)
 |[]=>some []
 |.val d::r=>(iO r).map fun ds=>d::ds
 |_=>none
noncomputable def eFn(f:List Dat->Option (RV×Dat))(e0:FE)(as:List FE):FE:=fun ρ=>match eAs (e0::as) ρ with
 | some (.new d::xs,ρ1)=>(match iO xs with
  |none=>none
  |some ds=>match f (d::ds) with
   |none=>none
   |some (v,_)=>some (v.aY,ρ1))
 |_=>none
end Dm
namespace Br
open PySem PySem.Spec PyProof.Rows L2
section
variable{H0 H:Hp}{rows:List (List Dat)}{ps:List Addr}{H0s Hs:Hp}{ρs:Dm.Env}{σs:L2.St}{ρ ρ':Dm.Env}{j:Nat}{σ:L2.St}{b:Addr}
def aL(H0 H:Hp):List Addr->List (List Dat)->Prop
 |[],[]=>True
 |p::ps,r::rs=>(∃xs,H p=some (.lst xs)/\ay H0 xs r)/\aL H0 H ps rs
 |_,_=>False
theorem aL.len:∀{ps:List Addr} {rs:List (List Dat)},aL H0 H ps rs->ps.length=rs.length
 |[],[],_=>rfl
 |_::_,_::_,h=>by simp[aL.len h.2]
theorem aL.get:∀{ps:List Addr} {rs:List (List Dat)} {i:Nat} {r:List Dat},aL H0 H ps rs->rs[i]?=some r->∃p xs,ps[i]?=some p/\H p=some (.lst xs)/\ay H0 xs r
 |[],[],_,_,_,e=>by simp at e
 |p::_,_::_,0,_,h,e=>by simp at e;subst e;obtain⟨xs,h1,h2⟩:=h.1;exact⟨p,xs,rfl,h1,h2⟩
 |_::_,_::_,i+1,_,h,e=>by obtain⟨p,xs,h1,h2⟩:=aL.get (i:=i) h.2 (by simpa using e);exact⟨p,xs,by simpa using h1,h2⟩
theorem aL.mono{H0 H H0' H':Hp}:∀{ps:List Addr} {rs:List (List Dat)},aL H0 H ps rs->ao H0 H0'->(∀p∈ps,H' p=H p)->aL H0' H' ps rs
 |[],[],_,_,_=>trivial
 |p::ps,r::rs,h,s,k=>by obtain⟨⟨xs,h1,h2⟩,h3⟩:=h;exact⟨⟨xs,by rw[k p Mg];exact h1,h2.mono s⟩,aL.mono h3 s fun q hq=>k q (Mh _ hq)⟩
theorem aL.set{p:Addr}{xs:List V}{r:List Dat}(w:ay H0 xs r):∀{ps:List Addr} {rs:List (List Dat)} {i:Nat},aL H0 H ps rs->ps.Nodup->ps[i]?=some p->aL H0 (upd H p (.lst xs)) ps (rs.set i r)
 |[],[],_,_,_,e=>by simp at e
 |q::ps,_::rs,0,h,n,e=>by simp at e;subst e;refine⟨⟨xs,aq,w⟩,h.2.mono (ao.refl _) fun y hy=>au fun z=>?_⟩;subst z;exact(MG.mp n).1 hy
 |q::ps,_::rs,i+1,h,n,e=>by
  have e':ps[i]?=some p:=by simpa using e
  obtain⟨⟨ys,h1,h2⟩,h3⟩:=h;obtain⟨n1,n2⟩:=MG.mp n;refine⟨⟨ys,?_,h2⟩,aL.set w h3 n2 e'⟩;rw[au fun z=>?_]
  ·exact h1
  ·subst z;exact n1 (NF e')
theorem aL.some:∀{ps:List Addr} {rs:List (List Dat)},aL H0 H ps rs->∀p∈ps,∃o,H p=some o
 |[],[],_,_,h=>by cases h
 |q::ps,_::rs,h,p,hp=>by
  rcases Mj.mp hp with rfl | hp
  ·obtain⟨xs,h1,_⟩:=h.1;exact⟨_,h1⟩
  ·exact aL.some h.2 p hp
structure NS(j:Nat)(σs:L2.St)(ρs:Dm.Env)(H0s Hs:Hp)(σ:L2.St)(ρ:Dm.Env)(H0 H:Hp)(rows:List (List Dat)):Prop where
 st:aA H0 H σ ρ
 stp:Stp (aj σs ρs) H0s Hs H0 H
 own:∀a,aj σ ρ a->aj σs ρs a\/Hs a=none
 fx:σ[0]?=σs[0]?
 ex:∃(L:Addr) (ps:List Addr),σ[j]?=some (some (.ref L))/\Hs L=none/\H0 L=none/\¬aj σ ρ L/\H L=some (.lst (ps.map V.ref))/\(L::ps).Nodup/\(∀p∈ps,Hs p=none/\H0 p=none/\¬aj σ ρ p)/\aL H0 H ps rows
theorem NS.est{H0 H H0' H':Hp}(n:NS j σs ρs H0s Hs σ ρ H0 H rows)(t:ESt σ ρ H0 H ρ' H0' H'):NS j σs ρs H0s Hs σ ρ' H0' H' rows:=by
 obtain⟨L,ps,h1,h2,h3,h4,h5,h6,h7,h8⟩:=n.ex;obtain⟨k1,k2,k3⟩:=t.cH h5 h3 h4;refine⟨t.st,n.stp.trans t.stp n.own,fun a z=>n.own a (t.own a z),n.fx,L,ps,h1,h2,k2,k3,k1,h6,fun p hp=>?_,h8.mono t.stp.s0 fun p hp=>?_⟩
 ·obtain⟨q1,q2,q3⟩:=h7 p hp;obtain⟨o,q4⟩:=h8.some p hp;obtain⟨z1,z2,z3⟩:=t.cH q4 q2 q3;exact⟨q1,z2,z3⟩
 ·obtain⟨q1,q2,q3⟩:=h7 p hp;obtain⟨o,q4⟩:=h8.some p hp;obtain⟨z1,z2,z3⟩:=t.cH q4 q2 q3;rw[z1,q4]
theorem NS.bind{σ σ':L2.St}(n:NS j σs ρs H0s Hs σ ρ H0 H rows)(st:aA H0 H σ' ρ')(o:∀a,aj σ' ρ' a->aj σ ρ a)(hj:σ'[j]?=σ[j]?)(h0:σ'[0]?=σ[0]?):NS j σs ρs H0s Hs σ' ρ' H0 H rows:=by obtain⟨L,ps,h1,h2,h3,h4,h5,h6,h7,h8⟩:=n.ex;exact⟨st,n.stp,fun a z=>n.own a (o a z),h0.trans n.fx,L,ps,hj.trans h1,h2,h3,fun z=>h4 (o L z),h5,h6,fun p hp=>⟨(h7 p hp).1,(h7 p hp).2.1,fun z=>(h7 p hp).2.2 (o p z)⟩,h8⟩
noncomputable def pS(H0 H:Hp)(ps:List Addr):Hp:=fun b=>if b∈ps then H b else H0 b
theorem nT(h:b∈ps):pS H0 H ps b=H b:=by unfold pS;rw[if_pos h]
theorem eO(h:b∉ps):pS H0 H ps b=H0 b:=by unfold pS;rw[if_neg h]
theorem vZ(s:ao H0 H):ao H0 (pS H0 H ps):=fun b o e=>by
 by_cases q:b∈ps
 ·rw[nT q];exact s _ _ e
 ·rw[eO q];exact e
theorem yR(s:ao H0 H):ao (pS H0 H ps) H:=fun b o e=>by
 by_cases q:b∈ps
 ·rw[nT q]at e;exact e
 ·rw[eO q]at e;exact s _ _ e
theorem aL.reps{H0 H H1:Hp}:∀{ps:List Addr} {rs:List (List Dat)},aL H0 H ps rs->ao H0 H1->(∀p∈ps,H1 p=H p)->ay H1 (ps.map V.ref) (rs.map Dat.lst)
 |[],[],_,_,_=>.nil
 |p::ps,r::rs,h,s,k=>by obtain⟨⟨xs,h1,h2⟩,h3⟩:=h;exact .cons (.lst (.inl ((k p Mg).trans h1)) (h2.mono s)) (aL.reps h3 s fun q hq=>k q (Mh _ hq))
theorem NS.done{ρ:Dm.Env}(n:NS j σs ρs H0s Hs σ ρ H0 H rows):∃H0',SSt σs ρs H0s Hs σ (ρ.set j (.ow (.lst (rows.map Dat.lst)))) H0' H:=by
 obtain⟨L,ps,h1,h2,h3,h4,h5,h6,h7,h8⟩:=n.ex;obtain⟨n1,n2⟩:=MG.mp h6;have ss:=vZ (ps:=ps) n.st.same;have st:aA (pS H0 H ps) H σ ρ:={
  same:=yR n.st.same
  len:=n.st.len
  sh:=fun i d h=>by obtain⟨v,z,r⟩:=n.st.sh i d h;exact⟨v,z,r.mono ss⟩
  ow:=fun i d h=>by obtain⟨b,z,q,w⟩:=n.st.ow i d h;have nb:b∉ps:=fun y=>(h7 b y).2.2 ⟨i,d,h,z⟩;exact⟨b,z,by rw[eO nb];exact q,w.mono ss rfl⟩
  dis:=n.st.dis }
 refine⟨pS H0 H ps,st.iK h1 h4 (by rw[eO n1];exact h3) ⟨_,h5,h8.reps ss fun p hp=>nT hp⟩,⟨n.stp.s0.trans ss,n.stp.s1,fun a o e=>?_,n.stp.s3⟩,fun a z=>?_,n.fx⟩
 ·by_cases q:a∈ps
  ·exact .inl (h7 a q).1
  ·rw[eO q]at e;exact n.stp.s2 a o e
 ·obtain⟨i,d,z1,z2⟩:=z;by_cases q:j=i
  ·subst q;rw[h1]at z2;cases z2;exact .inr h2
  ·rw[gV q]at z1;exact n.own a ⟨i,d,z1,z2⟩
def tDN(j:Nat)(f:Dm.FN):TS:=fun D σ H=>∃σs ρs H0s Hs H0 ρ rows ρ' rows',NS j σs ρs H0s Hs σ ρ H0 H rows/\f ρ rows=some (ρ',rows')/\∀σ' H0' H',NS j σs ρs H0s Hs σ' ρ' H0' H' rows'->ao H0 H0'->D.nx σ' H'
end
section
variable{D:Ends}{σ:L2.St}{H:Hp}{j:Nat}
theorem Jz(h:tDN j Dm.nNx D σ H):wX D σ H:=by obtain⟨σs,ρs,H0s,Hs,H0,ρ,rows,ρ',rows',n,e,k⟩:=h;cases e;exact k σ H0 H n (ao.refl _)
theorem Gg{s u:Dm.FN}(h:tDN j (Dm.vY s u) D σ H):vh (tDN j s) (tDN j u) D σ H:=by
 obtain⟨σs,ρs,H0s,Hs,H0,ρ,rows,ρ',rows',n,e,k⟩:=h;unfold Dm.vY at e;split at e
 ·cases e
 rename_i ρ1 r1 e1;exact⟨σs,ρs,H0s,Hs,H0,ρ,rows,ρ1,r1,n,e1,fun σ' H0' H' n' s1=>⟨σs,ρs,H0s,Hs,H0',ρ1,r1,ρ',rows',n',e,fun σ2 H2 Hc n2 s2=>k σ2 H2 Hc n2 (s1.trans s2)⟩⟩
theorem JA{t:FT}{a b:Dm.FN}(h:tDN j (Dm.nIf t a b) D σ H):EL (tDT t) (tDN j a) (tDN j b) D σ H:=by
 obtain⟨σs,ρs,H0s,Hs,H0,ρ,rows,ρ',rows',n,e,k⟩:=h;unfold Dm.nIf at e;split at e
 ·cases e
 ·rename_i ρ1 e1;refine⟨H0,ρ,true,ρ1,n.st,e1,fun H1 Hb t1=>?_⟩;dsimp only;rw[if_pos rfl];exact⟨σs,ρs,H0s,Hs,H1,ρ1,rows,ρ',rows',n.est t1,e,fun σ2 H2 Hc n2 s2=>k σ2 H2 Hc n2 (t1.stp.s0.trans s2)⟩
 ·rename_i ρ1 e1;refine⟨H0,ρ,false,ρ1,n.st,e1,fun H1 Hb t1=>?_⟩;dsimp only;rw[if_neg Mz];exact⟨σs,ρs,H0s,Hs,H1,ρ1,rows,ρ',rows',n.est t1,e,fun σ2 H2 Hc n2 s2=>k σ2 H2 Hc n2 (t1.stp.s0.trans s2)⟩
theorem Gh{fi:Dm.FI}{bd:Dm.FB}{g:TG}{body:Dm.FN}{is:List Nat}(hb:BD is g bd)(hj:j∉is)(h:tDN j (Dm.rZ fi bd body) D σ H):ET (tDI fi) g (tDN j body) D σ H:=by
 obtain⟨σs,ρs,H0s,Hs,H0,ρ,rows,ρ',rows',n,e,k⟩:=h;unfold Dm.rZ at e;split at e
 ·cases e
 rename_i ys ρ1 e1;refine⟨H0,ρ,ys,ρ1,n.st,e1,fun J H00 Hb t1 jw=>?_⟩;refine ⟨fun i m σ H=>∃ H0 ρ rows,NS j σs ρs H0s Hs σ ρ H0 H rows∧ao H00 H0∧m=ys.length-i∧i≤ys.length∧Dm.jc bd body (ys.drop i) ρ rows=some (ρ',rows'),
  ⟨ys.length,H00,ρ1,rows,n.est t1,ao.refl _,by simp,MR _,by simpa using e⟩,?_⟩
 rintro i m σ H ⟨H0,ρ,rows,n,s00,rfl,hi,e⟩;obtain⟨js,jg⟩:=jw H0 H s00 n.st.same;by_cases Gy:i<ys.length
 ·have hd:ys[i]?=some ys[i]:=by simp[Gy]
  obtain⟨g1,g2⟩:=jg i ys[i] hd;rw[NG Gy]at e;unfold Dm.jc at e;refine .inr ⟨g1,fun σ' H'=>∃H0 ρ rows,NS j σs ρs H0s Hs σ' ρ H0 H' rows/\ao H00 H0/\Dm.jc bd body (ys.drop (i+1)) ρ rows=some (ρ',rows'),?_,fun x H' y=>?_⟩
  ·rintro σ' H' ⟨H0',ρ2,r2,h1,h2,h3⟩;exact⟨ys.length-(i+1),by lia,H0',ρ2,r2,h1,h2,rfl,Gy,h3⟩
  ·obtain⟨H0',gr,rx⟩:=g2 x H' y;split at e
   ·cases e
   ·rename_i ρ2 e2;have t2:=ESt.grow n.st gr;have n2:=n.est t2;refine hb H0' H' σ ρ ρ2 x ys[i] _ t2.st rx e2 fun σ2 st2 o2 k2 _ f2=>?_;have n3:=n2.bind st2 o2 (k2 j hj) f2;have s3:ao H00 H0':=s00.trans gr.s0;split at e
    ·cases e
    ·rename_i ρ3 r3 e3;refine⟨σs,ρs,H0s,Hs,H0',ρ2,rows,ρ3,r3,n3,e3,fun σ4 H4 Hd n4 s4=>⟨H4,ρ3,r3,n4,s3.trans s4,e⟩⟩
 ·have e':i=ys.length:=by lia
  subst e';rw[NT]at e;cases e;exact .inl ⟨js _ (Ds _),k σ H0 H n (t1.stp.s0.trans s00)⟩
theorem Gi{K:gc}{fi f:FE}(h:tDN j (Dm.rY fi f) D σ H):tM (tBM K "list" nG (tOp (E8 K) (nv j) (tD fi)) (tDA [f])) D σ H:=by
 obtain⟨σs,ρs,H0s,Hs,H0,ρ,rows,ρ',rows',n,e,k⟩:=h;unfold Dm.rY at e;split at e
 case h_2=>cases e
 rename_i z ρ1 e1;split at e
 ·cases e
 rename_i m em;split at e
 ·cases e
 rename_i row er;split at e
 ·cases e
 rename_i x ρ2 e2;split at e
 ·cases e
 rename_i d ρ3 e3;split at e
 case isFalse=>cases e
 rename_i hz;cases e;obtain⟨L,ps0,h1,_⟩:=n.ex;refine⟨_,h1,H0,ρ,_,ρ1,n.st,e1,fun y H1 Hb t1 r1=>?_⟩;have n1:=n.est t1;obtain⟨L',ps,q1,q2,q3,q4,q5,q6,q7,q8⟩:=n1.ex;rw[h1]at q1;cases q1;obtain⟨q,xs,hq,hqx,hqr⟩:=q8.get er;have hqm:q∈ps:=NF hq;refine⟨L,ps.map V.ref,z,V.ref q,rfl,Rep.isInt r1,.inl (.inl q5),?_,.inl ⟨rfl,xs,.inl (.inl hqx)⟩,?_⟩
 ·show (L2.ixN (ps.map V.ref).length z).bind (fun j=>(ps.map V.ref)[j]?)=_;rw[Dp,q8.len,<- Fx,em];show (ps.map V.ref)[m]?=_;rw[MA,hq];rfl
 refine⟨H1,ρ1,[x],ρ2,n1.st,by unfold Dm.eAs;rw[e2];rfl,fun vs H2 Hc t2 r2=>?_⟩;cases r2 with
 |cons r rr=>
  cases rr;obtain⟨H3,t3,b3,r3,_,_⟩:=take1 t2 (ao.refl _) r e3;have n3:=n1.est t3;obtain⟨L',ps',w1,w2,w3,w4,w5,w6,w7,w8⟩:=n3.ex;rw[h1]at w1;cases w1;obtain⟨k1,_,_⟩:=t3.cH q5 q3 q4;rw[k1]at w5;have ep:ps'=ps:=by
   have:ps.map V.ref=ps'.map V.ref:=by injection w5 with z;injection z
   exact((List.map_inj_right fun a b h=>by injection h).mp this).symm
  subst ep;obtain⟨q',ys,hq',hqy,JB⟩:=w8.get er;rw[hq]at hq';cases hq';have nL:L≠q:=fun z=>(MG.mp w6).1 (z▸hqm);refine⟨q,ys,_,rfl,rfl,hqy,by rw[JB.length];exact Mq hz (by decide),?_⟩;obtain⟨z1,z2,z3⟩:=w7 q hqm;refine k σ H3 _ ⟨n3.st.aside z2 z3,n3.stp.aside z1,n3.own,n3.fx,L,ps',h1,w2,w3,w4,by rw[au nL];exact k1,w6,w7,aL.set (JB.append (.cons r3 .nil)) w8 (MG.mp w6).2 hq⟩ (t1.stp.s0.trans t3.stp.s0)
end
section
variable{bd:Dm.FB}{is:List Nat}{JQ:Dm.FN}{j own:Nat}{fi:Dm.FI}{ρ:Dm.Env}{σ:L2.St}{g:TG}
theorem yS{own:Nat}{Q:VK}{H00 Hb:Hp}{ρ1 ρ2:Dm.Env}{ds:List Dat}{J:It}(hb:BD is g bd)(hl:∀i∈is,σ.length<=i)
  (st1:aA H00 Hb σ ρ1) (jw:JW J H00 ds) (hsz:ds.length<=Dm.SZ) (e2:Dm.nMk bd ds (ρ1++Dk own .un)=some ρ2) (D:Addr) (hD:Hb D=none)
  (k:∀ H0' H' (ps:List Addr),aA H0' H' σ (ρ2.take ρ1.length)→Stp (aj σ ρ1) H00 Hb H0' H'→(∀ a,aj σ (ρ2.take ρ1.length) a→aj σ ρ1 a)→H' D=some (.lst (ps.map V.ref))→H0' D=none→(D::ps).Nodup→(∀ p∈ps,Hb p=none∧H0' p=none) →
   aL H0' H' ps (Dk ds.length [])->Q (.ref D) H') :
  ∃W:Nat->Nat->L2.St->Hp->Prop,(∃m,W 0 m (σ++Dk own none) (upd Hb D (.lst [])))/\∀i m σ' H',W i m σ' H' ->
  (J.stop i H'∧Q (.ref D) H')∨(J.go i H'∧∀ x H2,J.yld i H' x H2→g x σ' H2 fun σ2 H3=>Bv σ2 H3 fun b H4=>if b=true
   then Bf xy σ2 H4 fun y H5=>∃DK,H5 D=some (.lst DK)/\DK.length<sizeLine/\∃m',m'<m/\W (i+1) m' σ2 (upd H5 D (.lst (DK++[y])))
   else ∃m',m'<m/\W (i+1) m' σ2 H4):=by
 have noD:¬aj σ ρ1 D:=st1.bf hD;refine ⟨fun i m σ' H'=>∃ (H0c:Hp) (ρc:Dm.Env) (ps:List Addr),aA H0c H' σ' ρc∧ao H00 H0c∧m=ds.length-i∧i≤ds.length∧Dm.nMk bd (ds.drop i) ρc=some ρ2 ∧
  H' D=some (.lst (ps.map V.ref))/\ps.length=i/\H0c D=none/\(D::ps).Nodup/\(∀p∈ps,Hb p=none/\H0c p=none)/\aL H0c H' ps (Dk i [])/\Stp (aj σ ρ1) H00 Hb H0c H'/\(∀j,j<σ.length->σ'[j]?=σ[j]?)/\(∀a,aj σ' ρc a->aj σ ρ1 a),
  ⟨ds.length,H00,ρ1++Dk own .un,[],(st1.aside (st1.same.free hD) noD).ext own,ao.refl _,by simp,MR _,by simpa using e2,aq,rfl,st1.same.free hD,by simp,by simp,trivial,(Stp.refl _ _ _).aside hD,
   fun j hj=>Mn hj,fun a z=>iG st1 z⟩,?_⟩
 rintro i m σ' H' ⟨H0c,ρc,ps,sc,s00,rfl,hi,ec,hDl,Gx,n0,nd,hps,hro,sp,hσ,ho⟩;have nOc:¬aj σ' ρc D:=fun z=>noD (ho D z);have nOp:∀p∈ps,¬aj σ' ρc p:=fun p hp z=>st1.bf (hps p hp).1 (ho p z);obtain⟨js,jg⟩:=jw H0c H' s00 sc.same;by_cases Gy:i<ds.length
 ·have hd:ds[i]?=some ds[i]:=by simp[Gy]
  obtain⟨g1,g2⟩:=jg i ds[i] hd;rw[NG Gy]at ec;unfold Dm.nMk at ec;refine .inr ⟨g1,fun y H2 yy=>?_⟩;obtain⟨H0',gr,rx⟩:=g2 y H2 yy;split at ec
  ·cases ec
  rename_i ρ3 e3;have t2:=ESt.grow sc gr;obtain⟨hD2,n02,no2⟩:=t2.cH hDl n0 nOc;refine hb H0' H2 σ' ρc ρ3 y ds[i] _ t2.st rx e3 fun σ3 st3 o3 k3 d3 _=>?_;unfold Bv;dsimp only;rw[if_pos rfl];refine⟨MR _,fun p hp=>?_⟩;have hpD:p≠D:=fun z=>by rw[z,hD2]at hp;cases hp
  have noP:¬aj σ3 ρ3 p:=st3.bf hp;have JC:∀q∈ps,q≠p:=fun q hq z=>by obtain⟨o,h1⟩:=hro.some q hq;have:=gr.s1 q o h1;rw[z,hp]at this;cases this
  refine⟨ps.map V.ref,by rw[au (Ne.symm hpD)];exact hD2,?_,ds.length-(i+1),by lia,H0',ρ3,ps++[p],?_,s00.trans gr.s0,rfl,Gy,ec,?_,by simp[Gx],n02,?_,?_,?_,?_,?_,?_⟩
  ·rw[Dp,Gx];unfold Dm.SZ at hsz;exact Mq (Mq Gy hsz) (by decide)
  ·have no3:¬aj σ3 ρ3 D:=fun z=>no2 (o3 D z);exact(st3.aside (st3.same.free hp) noP).aside n02 no3
  ·rw[aq,Mt];rfl
  ·rw[<- NV];refine Np.mpr ⟨nd,by simp,fun a ha b hb=>?_⟩;rw[Mu.mp hb];rcases Mj.mp ha with rfl | ha
   ·exact Ne.symm hpD
   ·exact JC a ha
  ·intro q hq;rcases Mv.mp hq with hq | hq
   ·refine⟨(hps q hq).1,?_⟩;obtain⟨o,h1⟩:=hro.some q hq;exact(t2.cH h1 (hps q hq).2 (nOp q hq)).2.1
   ·rw[Mu.mp hq];exact⟨(sp.trans t2.stp fun a z=>.inl (ho a z)).gone hp,st3.same.free hp⟩
  ·have base:aL H0' (upd (upd H2 p (.lst [])) D (.lst (ps.map V.ref++[V.ref p]))) ps (Dk i []):=hro.mono gr.s0 fun q hq=>by
    have hqD:q≠D:=fun z=>(MG.mp nd).1 (z▸hq);obtain⟨o,h1⟩:=hro.some q hq;rw[au hqD,au (JC q hq),gr.s1 q o h1,h1]
   have app:∀{H0 H:Hp} {ps:List Addr} {rs:List (List Dat)} {p:Addr},aL H0 H ps rs->H p=some (.lst [])->aL H0 H (ps++[p]) (rs++[[]]):=by
    intro H0 H ps rs p h1 h2
    induction ps generalizing rs with
    |nil=>cases rs with
     |nil=>exact⟨⟨[],h2,.nil⟩,trivial⟩
     |cons _ _=>exact h1.elim
    |cons q ps ih=>cases rs with
     |nil=>exact h1.elim
     |cons r rs=>exact⟨h1.1,ih h1.2⟩
   have:=app base (p:=p) (by rw[au hpD,aq]);rw[List.replicate_succ'];exact this
  ·exact((sp.trans t2.stp fun a z=>.inl (ho a z)).aside ((sp.trans t2.stp fun a z=>.inl (ho a z)).gone hp)).aside hD
  ·exact fun j hj=>(k3 j fun z=>NR.mpr (hl j z) hj).trans (hσ j hj)
  ·exact fun a z=>ho a (o3 a z)
 ·have e':i=ds.length:=by lia
  subst e';rw[NT]at ec;cases ec;refine .inl ⟨js _ (Ds _),k H0c H' ps ?_ sp ?_ hDl n0 nd hps hro⟩
  all_goals
   have Cv:σ.length<=ρ2.length:=by rw[<- sc.len];refine NR.mp fun z=>?_;have q:=hσ σ'.length z;rw[MS (Ds _),Mp z]at q;cases q
   have tk:∀{j:Nat} {c:Dm.Cell},(ρ2.take ρ1.length)[j]?=some c->j<σ.length/\ρ2[j]?=some c:=fun {j c} h=>by
    have hj:j<ρ1.length:=by
     have:=(Me.mp h).1;rw[Nx]at this
     lia
    rw[NI hj]at h;exact⟨by rw[st1.len];exact hj,h⟩
  ·refine⟨sc.same,?_,fun j d h=>?_,fun j d h=>?_,fun j j' d d' a h1 h2 h3 h4=>?_⟩
   ·rw[Nx,<- st1.len];lia
   ·obtain⟨hj,h⟩:=tk h;obtain⟨v,q,r⟩:=sc.sh j d h;exact⟨v,(hσ j hj).symm.trans q,r⟩
   ·obtain⟨hj,h⟩:=tk h;obtain⟨v,q,r⟩:=sc.ow j d h;exact⟨v,(hσ j hj).symm.trans q,r⟩
   ·obtain⟨hj,h1⟩:=tk h1;obtain⟨hj',h2⟩:=tk h2;exact sc.dis j j' d d' a h1 h2 ((hσ j hj).trans h3) ((hσ j' hj').trans h4)
  ·intro a ⟨j,d,h1,h2⟩;obtain⟨hj,h1⟩:=tk h1;exact ho a ⟨j,d,h1,(hσ j hj).trans h2⟩
theorem mQ{z:Dm.Out}(q:Dm.j4 j fi own bd JQ ρ=some z):∃ds ρ1 ρ2 ρ3 r3,j≠0/\fi ρ=some (ds,ρ1)/\ds.length<=Dm.SZ/\Dm.nMk bd ds (ρ1++Dk own .un)=some ρ2 /\
  JQ ((ρ2.take ρ1.length).set j .un) (Dk ds.length [])=some (ρ3,r3)/\z=.nx (ρ3.set j (.ow (.lst (r3.map .lst)))):=by
 unfold Dm.j4 at q;split at q
 ·cases q
 rename_i hj0;split at q
 ·cases q
 rename_i ds ρ1 e1;split at q
 case isFalse=>cases q
 rename_i hsz;split at q
 ·cases q
 rename_i ρ2 e2;split at q
 ·cases q
 rename_i ρ3 r3 e3;cases q;exact⟨ds,ρ1,ρ2,ρ3,r3,hj0,e1,hsz,e2,e3,rfl⟩
theorem B4{s u:FS}{o:Dm.Out}(hs:∀z,s ρ=some z->∃ρ',z=.nx ρ')(e:Dm.aC s u ρ=some o):∃ρ1,s ρ=some (.nx ρ1)/\u ρ1=some o:=by
 cases q:s ρ with
 |none=>unfold Dm.aC at e;rw[q]at e;cases e
 |some z=>obtain⟨ρ1,rfl⟩:=hs z q;unfold Dm.aC at e;rw[q]at e;exact⟨ρ1,rfl,e⟩
theorem Gj{H:Hp}{D:Ends}{gs:FS}(hb:BD is g bd)(hl:∀i∈is,σ.length<=i)(hj:j<σ.length)(h:tDS (Dm.aC (Dm.j4 j fi own bd JQ) gs) D σ H) :
  vh (vj (tLC (tDI fi) own g Bv (Bf xy)) (gR j)) (vh (tDN j JQ) (tDS gs)) D σ H:=by
 obtain⟨H0,ρ,o,st,e,k⟩:=h;obtain⟨ρ9,e9,e⟩:=B4 (fun z q=>by obtain⟨_,_,_,_,_,_,_,_,_,_,z⟩:=mQ q;exact⟨_,z⟩) e;obtain⟨ds,ρ1,ρ2,ρ3,r3,hj0,e1,hsz,e2,e3,z9⟩:=mQ e9;cases z9;refine⟨H0,ρ,ds,ρ1,st,e1,fun J H00 Hb t1 jw L hL=>yS (Q:=fun x H1=>gR j x σ H1 (vh (tDN j JQ) (tDS gs) D)) hb hl t1.st jw hsz e2 L hL fun H0' H' ps st' sp' ho' hDl n0 nd hps hro=>?_⟩;have nL:¬aj σ ρ1 L:=t1.st.bf hL;have om:∀a,aj (σ.set j (some (.ref L))) ((ρ2.take ρ1.length).set j .un) a->aj σ (ρ2.take ρ1.length) a:=fun a ⟨i,d,h1,h2⟩=>by
  rcases aI h1 with⟨_,z⟩ | ⟨hij,h1⟩
  ·cases z
  ·rw[gV (Ne.symm hij)]at h2;exact⟨i,d,h1,h2⟩
 have st2:aA H0' H' (σ.set j (some (.ref L))) ((ρ2.take ρ1.length).set j .un):={
  same:=st'.same
  len:=by rw[MK,MK];exact st'.len
  sh:=fun i d h=>by
   rcases aI h with⟨_,z⟩ | ⟨hij,h⟩
   ·cases z
   ·obtain⟨v,q,r⟩:=st'.sh i d h;exact⟨v,by rw[gV (Ne.symm hij)];exact q,r⟩
  ow:=fun i d h=>by
   rcases aI h with⟨_,z⟩ | ⟨hij,h⟩
   ·cases z
   ·obtain⟨v,q,r⟩:=st'.ow i d h;exact⟨v,by rw[gV (Ne.symm hij)];exact q,r⟩
  dis:=fun i i' d d' a h1 h2 h3 h4=>by
   rcases aI h1 with⟨_,z⟩ | ⟨q1,h1⟩
   ·cases z
   rcases aI h2 with⟨_,z⟩ | ⟨q2,h2⟩
   ·cases z
   rw[gV (Ne.symm q1)]at h3;rw[gV (Ne.symm q2)]at h4;exact st'.dis i i' d d' a h1 h2 h3 h4 }
 have sp:Stp (aj σ ρ) H0 H H0' H':=t1.stp.trans sp' fun a z=>.inl (t1.own a z);have n:NS j σ ρ H0 H (σ.set j (some (.ref L))) ((ρ2.take ρ1.length).set j .un) H0' H' (Dk ds.length []):=
  ⟨st2,sp,fun a z=>.inl (t1.own a (ho' a (om a z))),gV hj0,L,ps,My hj,t1.stp.gone hL,n0,fun z=>nL (ho' L (om L z)),hDl,nd,fun p hp=>⟨t1.stp.gone (hps p hp).1,(hps p hp).2,fun z=>t1.st.bf (hps p hp).1 (ho' p (om p z))⟩,hro⟩
 refine⟨σ,ρ,H0,H,H0',_,_,ρ3,r3,n,e3,fun σ4 H4 Hd n4 _=>?_⟩;obtain⟨H5,t5⟩:=n4.done;exact⟨H5,_,o,t5.st,e,k.pre t5⟩
noncomputable abbrev DN(X:Cx)(j:Nat)(st:Stmt)(f:Dm.FN):Prop:=PS X st (tDN j f)
noncomputable abbrev DNs(X:Cx)(j:Nat)(st:List Stmt)(f:Dm.FN):Prop:=PSs X st (tDN j f)
end
section
variable{X:Cx}{st:Stmt}{En:List Stmt}{fs gs:Dm.FN}{e c:Expr}{f:FE}{pos:Pos}{j:Nat}
section
variable{is:List Nat}{bd:Dm.FB}{fi:Dm.FI}
theorem JD:DNs X j [] Dm.nNx:=PSs.weak tK fun _ _ _=>Jz
theorem Gk(h1:DN X j st fs)(h2:DNs X j En gs):DNs X j (st::En) (Dm.vY fs gs):=PSs.weak (gQ h1 h2) fun _ _ _=>Gg
theorem DC(h1:DN X j st fs):DNs X j [st] fs:=tL h1
theorem LG{t:FT}{x y:List Stmt}(ht:DT X c t)(ha:DNs X j x fs)(hb:DNs X j y gs):DN X j (.If c x y pos) (Dm.nIf t fs gs):=PS.weak (C4 ht ha hb) fun _ _ _=>JA
theorem JE{tg it:Expr}{body:List Stmt}(hp:PassesOwn (model X.prog X.w) X.A X.env X.xe)(hc:X.calm=true)(hi:DI X tg it fi)(hg:TG' X tg is bd)(hb:DNs X j body fs)(hj:decide (j∈is)=false:=by rfl)
  (hs:∀x,foldedSetIterable it X.env x=pure x:=by intro _;rfl):DN X j (.For tg it body [] pos) (Dm.rZ fi bd fs):=by
 obtain⟨g,h1,h2⟩:=hg.ex;exact PS.weak (xo hp hc hi h1 hb hs) fun _ _ _=>Gh h2 (of_decide_eq_false hj)
theorem DF{x:Str}{i:Expr}{fi:FE}{px sp ap cp:Pos}(hi':DE X i fi)(he:DE X e f)(hi:X.N[j]?=some x:=by rfl)(hv:Vis X.env.scope x:=by trivial)(hd:(x == ("__debug__" : Str))=false:=by decide)
  (JO:(x == ("__classdict__" : Str))=false:=by decide) (Gx:nD i:=by intro _ _;rfl) (JT:attributeBase (.Subscript (.Name x px) i sp) "append" X.env (eval (.Subscript (.Name x px) i sp) X.env)=eval (.Subscript (.Name x px) i sp) X.env:=by rfl)
  (hfew:((backTo cp (starEach [e] X.env)).all (fun x=>!x.1)&&(backToKw cp (keywordEach [] X.env)).all (fun x=>x.1.isSome)
   && decide ([e].length+([]:List Keyword).length+(if ([]:List Keyword).isEmpty then 0 else 1)<30))=true:=by rfl)
  (JS:(ap.endLine == cp.line)=true:=by rfl) (hs:starEach [e] X.env=(false,eval e X.env)::starEach [] X.env:=by rfl) (JN:(backTo cp (starEach [] X.env)).any (·.1)=false:=by rfl)
  (hsw:swapsWith (.Call (.Attribute (.Subscript (.Name x px) i sp) "append" ap) [e] [] cp) none pos.line X.env=pure false:=by rfl) :
  DN X j (.Expr (.Call (.Attribute (.Subscript (.Name x px) i sp) "append" ap) [e] [] cp) pos) (Dm.rY fi f):=
 PS.weak (ny (xD N7 PySem.F.slot_list_append PySem.F.type_list_append iC (Dc tS (dW hi hv hd JO) hi' Gx) (aa he af hs) JT hfew JS hs JN) hsw) fun _ _ _=>Gi
theorem Gm(j:Nat)(nm own:List Str){y:Str}{py JU Gn:Pos}{tg iter:Expr}{scope:Scope}{JQ:Dm.FN}{gs:FS}{lst:Stmt}(hN:X.N.Nodup)(hg:TGc X nm scope own tg is bd)(hi:DI X tg iter fi)(hlp:DN X j lst JQ)(hre:DSs X En gs)
  (hc:X.calm=true:=by rfl) (hk:scope.kind=.function:=by rfl) (hS:mK X.env.scope X.N nm scope=true:=by rfl) (hl:(is.all fun i=>decide (X.N.length<=i))=true:=by rfl) (hj:X.N[j]?=some y:=by rfl) (hy:Loc X.env.scope y:=by trivial)
  (hsw:swapsWith (.ListComp (.List [] Gn) [⟨tg,iter,[],0⟩] scope pos) (some (.Name y py)) JU.line X.env=pure true:=by rfl) (hs:∀y,foldedSetIterable iter X.env y=pure y:=by intro _;rfl)
  (hf:X.fn y=true\/X.env.scope.names.lookup y=some .local:=by trivial) :
  DSs X (.Assign [.Name y py] (.ListComp (.List [] Gn) [⟨tg,iter,[],0⟩] scope pos) JU::lst::En) (Dm.aC (Dm.j4 j fi own.length bd JQ) gs):=by
 obtain⟨g,h1,h2⟩:=hg.ex;have h:=gQ (i7 hN hj hy hc (cI.of hS hk) hi h1 (fun cl C s H fp=>t_) (fun cl C s H fp=>xA (pos:=Gn) rC) hsw hs hf) (gQ hlp hre);intro sy s σ H D I q;exact h sy s σ H D I (Gj h2 (fun i hi=>by rw[I.len];exact ug hl i hi) (by rw[I.len];exact(Me.mp hj).1) q)
end
end
theorem ur{H0:Hp}(i:Int):∀{kvs:List (Key×V)} {ks:List Int} {ds:List Dat},kvs.map (·.1)=ks.map MB->ay H0 (kvs.map (·.2)) ds ->
  (iZ kvs (MB i)).map (·.1)=(Dm.dD ks ds i).map MB/\ay H0 ((iZ kvs (MB i)).map (·.2)) (Dm.dF ks ds i)
 |[],[],ds,_,r=>by cases r;exact⟨rfl,.nil⟩
 |[],_::_,_,e,_=>by cases e
 |_::_,[],_,e,_=>by cases e
 |(k,v)::kvs,k'::ks,ds,e,r=>by
  rw[eg,eg]at e;injection e with e1 e2
  cases r with
  |cons h t=>
   obtain⟨i1,i2⟩:=ur i e2 t;unfold iZ at i1 i2 ⊢;dsimp only at e1;subst e1;by_cases q:k'=i
   ·subst q;rw[M0 (by simp),Dm.dD,if_pos rfl,Dm.dF,if_pos rfl];exact⟨i1,i2⟩
   ·have q':¬(MB k':Key)=MB i:=nS q;rw[M3 (by simpa using q'),Dm.dD,if_neg q,Dm.dF,if_neg q];exact⟨by rw[eg,eg,i1],by rw[eg];exact .cons h i2⟩
section
variable{σ:L2.St}{H:Hp}{Q:VK}
theorem Gp{i:Nat}{f:FE}(h:tD (Dm.j5 i f) σ H Q):xU (nv i) (tD f) σ H Q:=by
 obtain⟨H0,ρ,x,ρ',st,e,k⟩:=h;unfold Dm.j5 at e;split at e
 case h_2=>cases e
 rename_i ks0 vs0 h0;split at e
 case h_2=>cases e
 rename_i m ρ1 e1;split at e
 case h_2=>cases e
 rename_i ks vs h1;split at e
 case h_2=>cases e
 rename_i d hl;cases e;obtain⟨a0,q0,n0,Gb,y0,_⟩:=st.ow i _ h0;refine⟨_,q0,a0,rfl,.inl ⟨Gb,.inl y0⟩,H0,ρ,_,ρ1,st,e1,fun u H1 Hb t1 r1=>?_⟩;have hu:=Rep.isInt r1;subst hu;obtain⟨a,q,n,w⟩:=t1.st.ow i _ h1;rw[q0]at q;cases q;obtain⟨kvs,y,ek,rs⟩:=w;rcases fk m ek rs with⟨d',v,l1,l2,r⟩ | ⟨l1,_⟩
 ·rw[hl]at l1;cases l1;obtain⟨p1,p2⟩:=ur m ek rs;have ow:aj σ ρ1 a0:=⟨i,_,h1,q0⟩
  have hil:i<ρ1.length:=(Me.mp h1).1;refine⟨kvs,MB m,v,y,rfl,l2,k v H1 _ ⟨t1.st.write h1 q0 ⟨_,aq,p1,p2⟩,t1.stp.trans (Stp.write ow) fun b z=>.inl (t1.own b z),fun b z=>t1.own b (bH h1 z),fun j z=>trivial⟩ r⟩
 ·rw[hl]at l1;cases l1
end
section
variable{vs:List Dat}{ρ ρ':Dm.Env}{ks:List Int}{x:Dm.Val}{d:Dat}{H H':Hp}{i:Nat}{X:Cx}
theorem r9:cM X (.type "dict") (fun xs H Q=>∃a kvs,xs=[.ref a]/\H a=some (.dK kvs)/\∀p,H p=none->Q (.ref p) (upd H p (.dK kvs))):=by intro sy s σ H xs us Q I r h;obtain⟨a,kvs,rfl,ha,k⟩:=h;obtain⟨u,rfl,rx⟩:=vals1 r;cases rx;exact xX I (.inl ha) fun p s' hp I'=>⟨.ref p,_,I',rfl,k p hp⟩
theorem B5:CallD (fun xs H Q=>∃a kvs,xs=[.ref a]/\H a=some (.dK kvs)/\∀p,H p=none->Q (.ref p) (upd H p (.dK kvs))) Dm.pR:=by
 intro H0 H vs ds z Q s rs e k;unfold Dm.pR at e;split at e
 ·cases e;cases rs with
  |cons r rr=>cases rr;obtain⟨a,kvs,rfl,ha,ek,rs⟩:=cJ s r;refine⟨a,kvs,rfl,ha,fun p hp=>k _ _ _ (aG.jr s hp) ⟨p,rfl,hp,s.free hp,kvs,aq,ek,rs⟩⟩
 ·cases e
theorem j7:∀(its:List Value) (ns:List Int),its.length=ns.length->(∀(i:Nat) (v:Value),its[i]?=some v->∃n,ns[i]?=some n/\∃t,v=Value.int n t)->IntsAre its ns
 |[],[],_,_=>.nil
 |[],_::_,h,_=>by cases h
 |_::_,[],h,_=>by cases h
 |v::its,n::ns,h,k=>by
  obtain⟨m,h1,t,h2⟩:=k 0 v rfl;simp at h1;subst h1;subst h2;exact .cons n t (j7 its ns (by simpa using h) fun i v e=>by obtain⟨m,q1,q2⟩:=k (i+1) v (by simpa using e);exact⟨m,by simpa using q1,q2⟩)
theorem uu:∀{kvs:List (Key×V)} {vs:List (Key×Value)},KV kvs vs->vs.map (·.1)=kvs.map (·.1)
 |_,_,.nil=>rfl
 |_,_,.cons h t=>by rw[eg,eg,uu t,h.1]
theorem cV:∀{its:List Value} {ns:List Int},IntsAre its ns->Vals (ns.map V.int) its
 |_,_,.nil=>.nil
 |_,_,.cons n t h=>.cons ⟨t,rfl⟩ (cV h)
def yT:List V->Hp->VK->Prop:=fun xs H Q=>∃(p:Addr) (kvs:List (Key×V)) (ns:List Int),xs=[.ref p]/\H p=some (.dK kvs)/\kvs.map (·.1)=ns.map MB/\ns.length<=63 /\
 ∀(ms:List Int) (l:Addr),ms.Perm ns->ms.Pairwise (·<=·)->H l=none->Q (.ref l) (upd H l (.lst (ms.map V.int)))
theorem r_(hc:X.calm=true):cM X (.builtin "sorted") yT:=by
 intro sy s σ H xs us Q I r h;obtain⟨p,kvs,ns,rfl,hq,ek,hl,k⟩:=h;obtain⟨u,rfl,rx⟩:=vals1 r;cases rx;obtain⟨z,hd,vs,rel,dd⟩:=tW I.hok hq;obtain⟨ep,hat⟩:=dd.dictAt;have Cv:vs.length=ns.length:=by
  rw[<- rel.length];have:=congrArg List.length ek
  simpa using this
 have hns:vs.length<=sizeLine:=by rw[<- rel.length];exact z
 refine Calls.call_function_entry kind_sorted plain_sorted entry_sorted (args_sorted1 _) ?_;unfold Builtin.«sorted»;refine wpAny_bind (m:=checkCount "sorted" 1 1 _) (wpAny_pure ?_);refine wpAny_bind (PySem.W.kdu_collect (A:=X.A.in1) (PySem.W.kdl_dict (knd:=aK X.prog X.w) (kvs:=vs) (ep:=ep) hd) (I.ok.hd hc) hat hns fun h' tk DK hk hacc=>?_);have hsz:DK.toList.length=ns.length:=by rw[Nr,hacc.1,Cv]
 have hI:IntsAre DK.toList ns:=j7 _ _ hsz fun i v e=>by
  obtain⟨ky,x,h1,h2⟩:=hacc.2 i v (by rw[<- NB];exact e);have hk1:(vs.map (·.1))[i]?=some ky:=by rw[MA,h1];rfl
  rw[uu rel,ek,MA]at hk1;cases q:ns[i]? with
  |none=>rw[q]at hk1;cases hk1
  |some n=>rw[q]at hk1;cases hk1;exact⟨n,rfl,(Value.isInt_shape (k:=n) (v:=v) h2)⟩
 have hn:DK.toList.length<=63:=by rw[hsz];exact hl
 refine wpAny_bind (wpAny_newList ?_ (ML hn (by decide)));have hL0:(h'.push (seqObj "list" DK.toList.toArray 0)).get? h'.objs.size=some (seqObj "list" DK.toList.toArray 0):=Ms _ rfl;have I1:=I.kept (t':=tk) hk;refine wpAny_bind (wpAny_holding (wpAny_call_entry (s:={ s with heap:=h'.push (seqObj "list" DK.toList.toArray 0),toks:=tk }) slot_list_sort ⟨_,hL0,rfl⟩ entry_list_sort (list_sort_tree hL0 hI (by lia) fun out ms a1 a2 a3=>⟨_,rfl,?_⟩) (args_list_sort _)));obtain⟨c,hc'⟩:=sortedHeap_at (out:=out) hL0;have hz2:(ms.map V.int).length<=sizeLine:=by rw[Dp,a2.length_eq];exact ML hl (by decide)
 refine wpAny_pure ⟨_,rfl,.ref h'.objs.size,_,I1.laid (t':=tk) (fun b o e=>?_) (Ds _) (show aM X.prog X.w _ _ _ (.lst (ms.map V.int)) from ⟨hz2,out.toList,c,cV a1,by simpa using hc'⟩),rfl,k ms _ a2 a3 (I1.hok.fresh (Ds _))⟩;have lt:=Mi e;rw[sortedHeap_old (MC lt) (by rw[size_push'];exact Nat.lt_succ_of_lt lt)];exact Mf _ e
theorem yU:CallD yT Dm.iN:=by
 intro H0 H vs ds z Q s rs e k;unfold Dm.iN at e;split at e
 ·rename_i ks vs';split at e
  case isFalse=>cases e
  rename_i hl;cases e;cases rs with
  |cons r rr=>
   cases rr;obtain⟨a,kvs,rfl,ha,ek,rs⟩:=cJ s r;refine⟨a,kvs,ks,rfl,ha,ek,hl,fun ms l pm so hp=>?_⟩;have em:ms=Dm.dP (fun a b=>decide (a<b)) ks:=Dm.jb (lt:=fun a b=>decide (a<b)) (fun a b h1 h2=>by simp at h1 h2;lia) (pm.trans (Dm.dw _ ks).symm) (so.imp fun {a b} h=>by simp;lia)
    (Dm.dB (fun a b c h1 h2=>by simp at *;lia) (fun a b h=>by simp at *;lia) ks)
   exact k _ _ _ (aG.jr s hp) ⟨l,rfl,hp,s.free hp,_,aq,by rw[<- em];exact mP ms⟩
 ·cases e
theorem Gq(e:Dm.tkd ρ x=some (d,ρ')):Dm.tk ρ x=some (d,ρ')\/∃i ks vs,x=.slot i/\ρ[i]?=some (.ow (.dct ks vs))/\d=.dct ks vs/\ρ'=ρ:=by
 cases x with
 |val d'=>exact .inl e
 |new d'=>exact .inl e
 |slot i=>
  unfold Dm.tkd at e;dsimp only at e;split at e
  ·rename_i ks vs h;cases e;exact .inr ⟨i,ks,vs,rfl,h,rfl,rfl⟩
  ·rename_i d' _ h;left;unfold Dm.tk;dsimp only;rw[h];exact e
  ·rename_i d' h;left;unfold Dm.tk;dsimp only;rw[h];exact e
  ·cases e
theorem yV(e:Dm.tkd ρ x=some (d,ρ'))(h:ρ[i]?=some (.ow (.dct ks vs))):ρ'[i]?=some (.ow (.dct ks vs)):=by
 cases x with
 |val d'=>cases e;exact h
 |new d'=>cases e;exact h
 |slot j=>
  unfold Dm.tkd at e;dsimp only at e;split at e
  ·cases e;exact h
  ·rename_i d' hn hj;cases e;by_cases q:j=i
   ·subst q;rw[h]at hj;cases hj;exact absurd rfl (hn ks vs)
   ·rw[gV q];exact h
  ·cases e;exact h
  ·cases e
theorem mR:∀{xs:List Dm.Val} {ρ ρ':Dm.Env} {ds:List Dat},Dm.r8 ρ xs=some (ds,ρ')->ρ[i]?=some (.ow (.dct ks vs))->ρ'[i]?=some (.ow (.dct ks vs))
 |[],_,_,_,e,h=>by cases e;exact h
 |x::xs,ρ,ρ',ds,e,h=>by
  unfold Dm.r8 at e;split at e
  ·cases e
  rename_i d ρ1 e1;split at e
  ·cases e
  rename_i ds' ρ2 e2;cases e;exact mR e2 (yV e1 h)
def LH(H0:Hp)(σ:L2.St)(ρ:Dm.Env)(v:V)(d:Dat):Prop:=Rep H0 v d\/∃(i:Nat) (b:Addr) (ks:List Int) (vs:List Dat),d=.dct ks vs/\v=.ref b/\ρ[i]?=some (.ow (.dct ks vs))/\σ[i]?=some (some (.ref b))
inductive pT(H0:Hp)(σ:L2.St)(ρ:Dm.Env):List V->List Dat->Prop
 |nil:pT H0 σ ρ [] []
 |cons {v:V} {d:Dat} {vs:List V} {ds:List Dat}:LH H0 σ ρ v d->pT H0 σ ρ vs ds->pT H0 σ ρ (v::vs) (d::ds)
theorem sd{Hs H0s H0 H:Hp}{σ:L2.St}{ρs:Dm.Env}:∀{xs:List Dm.Val} {vs:List V} {ρ ρ':Dm.Env} {ds:List Dat} {H0c:Hp},ESt σ ρs H0s Hs ρ H0c H->ao H0 H0c->cu Hs H0 H σ ρ vs xs->Dm.r8 ρ xs=some (ds,ρ') ->
  ∃jM,ESt σ ρs H0s Hs ρ' jM H/\ao H0c jM/\pT jM σ ρ' vs ds
 |[],_,ρ,ρ',ds,H0c,t,b,r,e=>by cases r;cases e;exact⟨H0c,t,ao.refl _,.nil⟩
 |x::xs,_,ρ,ρ',ds,H0c,t,b,r,e=>by
  cases r with
  |cons h r=>
   unfold Dm.r8 at e;split at e
   ·cases e
   ·rename_i d ρ1 e1;split at e
    ·cases e
    ·rename_i ds' ρ2 e2;cases e;rcases Gq e1 with e1' | ⟨i,ks,vs,rfl,hi,rfl,rfl⟩
     ·obtain⟨H1,t1,b1,r1,o1,d1⟩:=take1 t b h e1';obtain⟨H2,t2,b2,r2⟩:=sd t1 (b.trans b1) (r.rho o1 d1) e2;exact⟨H2,t2,b1.trans b2,.cons (.inl (r1.mono b2)) r2⟩
     ·obtain⟨H2,t2,b2,r2⟩:=sd t b r e2;obtain⟨q,_⟩:=h;obtain⟨a,z,_⟩:=t.st.ow i _ hi;rw[q]at z;cases z;exact⟨H2,t2,b2,.cons (.inr ⟨i,a,ks,vs,rfl,rfl,mR e2 hi,q⟩) r2⟩
mutual
theorem Rep.noD(hk:∀a o,H a=some o->H' a=some o\/∃kvs,o=.dK kvs):∀{v:V} {d:Dat},Rep H v d->Dm.a_ d=true->Rep H' v d
 |_,_,.non,_=>.non
 |_,_,.bl b,_=>.bl b
 |_,_,.int i,_=>.int i
 |_,_,.str x,_=>.str x
 | _,_,.tup h r,n=>.tup (by
   rcases hk _ _ h with z | ⟨_,z⟩
   ·exact z
   ·cases z) (ay.noD hk r (by unfold Dm.a_ at n;exact n))
 | _,_,.lst h r,n=>.lst (by
   rcases h with h | ⟨o,h⟩
   ·rcases hk _ _ h with z | ⟨_,z⟩
    ·exact .inl z
    ·cases z
   ·rcases hk _ _ h with z | ⟨_,z⟩
    ·exact .inr ⟨o,z⟩
    ·cases z) (ay.noD hk r (by unfold Dm.a_ at n;exact n))
 |_,_,.dct _ _ _,n=>by unfold Dm.a_ at n;cases n
 |_,_,.dcp _ _ _,n=>by unfold Dm.a_ at n;cases n
 |_,_,.exc _,n=>by unfold Dm.a_ at n;cases n
 |_,_,.fn a,_=>.fn a
theorem ay.noD(hk:∀a o,H a=some o->H' a=some o\/∃kvs,o=.dK kvs):∀{vs:List V} {ds:List Dat},ay H vs ds->Dm.eN ds=true->ay H' vs ds
 |_,_,.nil,_=>.nil
 |_,_,.cons h r,n=>by unfold Dm.eN at n;rw[ME]at n;exact .cons (Rep.noD hk h n.1) (ay.noD hk r n.2)
end
end
open Classical in
theorem yW{σ:L2.St}{H:Hp}{Q:VK}{f:List Dat->Option RV}{fs:List FE}{E:XK}(h:tD (Dm.eFd f fs) σ H Q):oY (spD f) [] E (tDA fs) σ H Q:=by
 obtain⟨H0,ρ,x,ρ',st,e,k⟩:=h;unfold Dm.eFd at e;split at e
 ·cases e
 rename_i xs ρ1 e1;split at e
 ·cases e
 rename_i ds ρ2 e2;split at e
 ·cases e
 rename_i z fz;split at e
 case isFalse=>cases e
 rename_i hno;injection e with e
 injection e with ea eb
 subst ea;subst eb;refine⟨H0,ρ,xs,ρ1,st,e1,fun vs H1 Hb t1 r1=>?_⟩;dsimp only;rw[Nb];obtain⟨H2,t2,b2,r2⟩:=sd t1 (ao.refl _) r1 e2
 let B:Addr->Prop:=fun b=>∃(i:Nat) (ks:List Int) (vs:List Dat),ρ2[i]?=some (.ow (.dct ks vs))/\σ[i]?=some (some (.ref b))
 have hB:∀b,B b->H2 b=none/\∃kvs,Hb b=some (.dK kvs):=fun b ⟨i,ks,vs,h1,h2⟩=>by obtain⟨a,q,n,kvs,w,_⟩:=t2.st.ow i _ h1;rw[h2]at q;cases q;exact⟨n,kvs,w⟩
 let H2':Hp:=fun b=>if B b then Hb b else H2 b
 have in':∀b,B b->H2' b=Hb b:=fun b h=>if_pos h;have out':∀b,¬B b->H2' b=H2 b:=fun b h=>if_neg h;have s2:ao H2 H2':=fun b o e=>by
  by_cases q:B b
  ·rw[(hB b q).1]at e;cases e
  ·rw[out' b q];exact e
 have s2b:ao H2' Hb:=fun b o e=>by
  by_cases q:B b
  ·rw[in' b q]at e;exact e
  ·rw[out' b q]at e;exact t2.st.same _ _ e
 have rr:∀{vs:List V} {ds:List Dat},pT H2 σ ρ2 vs ds->ay H2' vs ds:=fun {vs ds} r=>by
  induction r with
  |nil=>exact .nil
  |cons h _ ih=>
   refine .cons ?_ ih;rcases h with h | ⟨i,b,ks,vs',rfl,rfl,h1,h2⟩
   ·exact h.mono s2
   ·obtain⟨a,q,n,kvs,w,ek,rs⟩:=t2.st.ow i _ h1;rw[h2]at q;cases q;exact .dct (by rw[in' _ ⟨i,ks,vs',h1,h2⟩];exact w) ek (rs.mono s2)
 refine⟨H2',ds,z,s2b,rr r2,fz,fun w H3 Hd g3 r3=>?_⟩
 let H3':Hp:=fun b=>if B b then none else H3 b
 have in3:∀b,B b->H3' b=none:=fun b h=>if_pos h;have yX:∀b,¬B b->H3' b=H3 b:=fun b h=>if_neg h;have gr:aG H2 Hb H3' Hd:=⟨fun b o e=>by
   by_cases q:B b
   ·rw[(hB b q).1]at e;cases e
   ·rw[yX b q];exact g3.s0 _ _ (s2 _ _ e),g3.s1,fun b o e=>by
   by_cases q:B b
   ·rw[in3 b q]at e;cases e
   ·rw[yX b q]at e;rcases g3.s2 b o e with y | y
    ·exact .inl y
    ·rw[out' b q]at y;exact .inr y,fun b o e=>by
   by_cases q:B b
   ·rw[in3 b q]at e;cases e
   ·rw[yX b q]at e;exact g3.s3 _ _ e⟩
 have hk:∀a o,H3 a=some o->H3' a=some o\/∃kvs,o=.dK kvs:=fun a o e=>by
  by_cases q:B a
  ·obtain⟨_,kvs,y⟩:=hB a q;have:=g3.s0 a _ ((in' a q).trans y);rw[e]at this;exact .inr ⟨kvs,Option.some.inj this⟩
  ·exact .inl (by rw[yX a q];exact e)
 have r3':pB Hb H3' Hd w z:=by
  cases z with
  |val d=>exact Rep.noD hk r3 hno
  |new d=>
   obtain⟨a,ea,n,n0,w'⟩:=r3;refine⟨a,ea,n,?_,?_⟩
   ·by_cases q:B a
    ·exact in3 a q
    ·rw[yX a q];exact n0
   ·cases d with
    |lst ds'=>obtain⟨ys,y1,y2⟩:=w';exact⟨ys,y1,ay.noD hk y2 (by have:Dm.a_ (.lst ds')=true:=hno;unfold Dm.a_ at this;exact this)⟩
    |dct ks ds'=>have:Dm.a_ (.dct ks ds')=true:=hno;unfold Dm.a_ at this;cases this
    |dcp ks ds'=>have:Dm.a_ (.dcp ks ds')=true:=hno;unfold Dm.a_ at this;cases this
    |_=>exact w'.elim
 exact k w H3' Hd (t2.trans (.grow t2.st gr)) ((r3'.toV t2.st).early fun a n=>t2.stp.gone n)
section
variable{X:Cx}{e b:Expr}{es:List Expr}{fs:List FE}{fb:FE}{p pos:Pos}
theorem j8{k:Nat}{F:Addr}{fd:FuncData}{ps:List Str}{g:List Dat->Option RV}{x:Str}(G:aN X.prog X.w X.K X.mg X.base CX0 k F fd ps (spD g))(hr:aW k X.A)(hg:Gl X x)(hm:X.mg x=some (.ref F))(hk:Nv X.K (.ref F)=true)(hb:Binds X.K fd ps [])
  (ha:DA X (e::es) fs) (LM:(x == ("__debug__" : Str))=false:=by decide) (he:starEach (e::es) X.env=(false,eval e X.env)::starEach es X.env:=by rfl) (Gx:(backTo pos (starEach es X.env)).any (·.1)=false:=by rfl) :
  DE X (.Call (.Name x p) (e::es) [] pos) (Dm.eFd g fs):=PE.weak (jt G hr hg hm hk hb .nil (tU (X:=X)) ha LM he Gx) fun _ _ _=>yW
theorem Gr(hg:Gl X "dict")(hm:X.mg "dict" = none)(ha:DA X [e] fs)(he:starEach [e] X.env=[(false,eval e X.env)]:=by rfl)(Gx:(backTo pos (starEach [] X.env)).any (·.1)=false:=by rfl):DE X (.Call (.Name "dict" p) [e] [] pos) (Dm.eB Dm.pR fs):=BJ r9 B5 (by rfl) hg hm ha (he:=he) (Gx:=Gx)
theorem B6(hc:X.calm=true)(hg:Gl X "sorted")(hm:X.mg "sorted" = none)(ha:DA X [e] fs)(he:starEach [e] X.env=[(false,eval e X.env)]:=by rfl)(Gx:(backTo pos (starEach [] X.env)).any (·.1)=false:=by rfl):DE X (.Call (.Name "sorted" p) [e] [] pos) (Dm.eB Dm.iN fs):=yk (r_ hc) yU (by rfl) hg hm ha (he:=he) (Gx:=Gx)
theorem yY(i:Nat){x:Str}{px Gz cpos:Pos}(hb:DE X b fb)(hi:X.N[i]?=some x:=by rfl)(hv:Vis X.env.scope x:=by trivial)(hd:(x == ("__debug__" : Str))=false:=by decide)
  (JO:(x == ("__classdict__" : Str))=false:=by decide) (m:M1 X (.Name x px) "pop" Gz b cpos:=by exact⟨rfl,rfl,rfl,rfl⟩):DE X (.Call (.Attribute (.Name x px) "pop" Gz) [b] [] cpos) (Dm.j5 i fb):=PE.weak (xW (dW hi hv hd JO) hb m) fun _ _ _=>Gp
end
section
variable{X:Cx}{a b c e:Expr}{fa fb fc:FE}{p pos:Pos}
theorem bits_le{i:Int}(h:i.natAbs.log2<1000000):Oo i<=2 ^ 20:=by
 have:Oo i<=i.natAbs.log2+1:=by
  unfold Oo
  first | lia | (split<;>lia) | simp
 lia
def DG(i j:Int):Prop:=i.natAbs.log2<1000000/\j.natAbs.log2<1000000
theorem B7:OpR X (binaryOp .Mult) (rI DG fun i j=>.int (i*j)):=opI fun _ _ _ _ _ _ _ hc q=>mul_int q (.of_bits (bits_le hc.1) (bits_le hc.2))
theorem B8:OpD (rI DG fun i j=>.int (i*j)) Dm.ie:=by
 intro H0 H x y dx dy z Q s rx ry e k;unfold Dm.ie at e;split at e
 ·split at e
  case isFalse=>cases e
  rename_i hb;cases e;cases az rx;cases az ry;exact⟨_,_,rfl,rfl,hb,k _ H0 H (aG.refl s) (.int _)⟩
 ·cases e
theorem nU(ha:DE X a fa)(hb:DE X b fb):DE X (.BinOp a .Mult b pos) (Dm.e2 Dm.ie fa fb):=pI B7 B8 ha hb
end
noncomputable def Its(lo k:Int)(n:Nat):It:=⟨fun i _=>i<n,fun i H x H'=>H'=H/\x=.int (lo+(i:Nat)*k),fun i _=>n<=i⟩
theorem se{P:Program}{w:World}{K:gc}{tg:Expr}(it:Addr)(lo k:Int)(n:Nat):Turn P w K tg (Its lo k n) [it] it (fun i h=>IsRangeIter h it (lo+(i:Nat)*k) ((n:Int)-(i:Nat)) k) where
 mem:=by simp
 obj:=fun i h st b hb=>by
  have e:b=it:=by simpa using hb
  subst e;exact ⟨_,st,fun v z=>by have z':OP _=Ov v:=z;cases z'⟩
 keep:=fun i h h' st k=>k it (by simp) _ st
 item:=by intro X hP hw hK hc i sy s σ H E I hf st hg;subst hP hw hK;obtain⟨f0,f1,f2,f3,f4,f5⟩:=hf it (by simp);have W:=Walks.range (prog:=X.prog) (w:=X.w) (I.ok.hd hc) it lo k n;refine W.item i s _ _ hg st fun v h' tk hv st' kk=>?_;obtain⟨t,rfl⟩:=hv;have I1:Inv X sy σ H { s with heap:=h',toks:=tk }:=I.turned (fun b o hb e=>kk b o (by simpa using hb) e) f0 f1 f3 f4 f5;exact⟨_,rfl,oV (s:={ s with heap:=h',toks:=tk }) (n := "range_iterator") st' rfl rfl (by decide) ⟨.int (lo+(i:Nat)*k),H,I1,⟨t,rfl⟩,⟨rfl,rfl⟩,st',fun b hb=>(hf b hb).1⟩⟩
 done:=by intro X hP hw hK hc i sy s σ H E I hf st hg;subst hP hw hK;obtain⟨f0,f1,f2,f3,f4,f5⟩:=hf it (by simp);exact wpAny_pyNext_range_end (I.ok.hd hc) st (by have:n<=i:=hg;lia) fun h' eb=>⟨rfl,I.turned (t':=s.toks) (fun b o hb e=>eb b o hb e) f0 f1 f3 f4 f5⟩
 self:=fun _ _ _ _ _ st h=>wpAny_pyIter_rangeiter st h
theorem uv{a k:Int}(hk:0<k)(h:0<=a):0<=a / k/\a / k<=a:=⟨Int.ediv_nonneg h (by lia),by
 have:=Int.ediv_mul_le a (b:=k) (by lia);have h2:0<=a / k:=Int.ediv_nonneg h (by lia);have:(a / k)*1<=(a / k)*k:=Int.mul_le_mul_of_nonneg_left (by lia) h2
 lia⟩
theorem ig(a b k:Int)(hk:0<k):Nq a b k=(Dm.b4 a b k:Nat):=by
 unfold Nq Dm.b4;simp only[hk,show (k>0)=True from eq_true hk,if_true];by_cases h:a<b
 ·have:=uv hk (show 0<=b-a-1 by lia);simp only[h,show (a<b)=True from eq_true h,if_true]
  first | lia | (split<;>lia)
 ·simp only[show (a<b)=False from eq_false h,if_false]
  first | lia | (split<;>lia) | simp
theorem yZ{a b k:Int}(hk:0<k)(hk':k<=1000)(ha:-(2 ^ 60)<=a)(ha':a<2 ^ 60)(hb:-(2 ^ 60)<=b)(hb':b<2 ^ 60):Builtin.Range.small a b k=true:=by
 unfold Builtin.Range.small;rw[ig a b k hk];have hs:(Dm.b4 a b k:Int)<=2 ^ 61:=by
  unfold Dm.b4;split
  ·have:=uv hk (show 0<=b-a-1 by lia)
   lia
  ·lia
 simp only[Builtin.Range.rangeFitsLong,ME,OO,decide_eq_true_eq,beq_iff_eq,show (k>0)=True from eq_true hk,if_true]
 first | lia | (refine⟨?_,?_⟩<;>lia) | (split<;>lia)
section
variable{X:Cx}{tg:Expr}
def DH(ta:TA):TI:=fun σ H R=>ta σ H fun vs H1=>∃i j k:Int,vs=[.int i,.int j,.int k]/\(0<k/\k<=1000)/\(-(2 ^ 60)<=i/\i<2 ^ 60/\-(2 ^ 60)<=j/\j<2 ^ 60)/\R (Its i k (Dm.b4 i j k)) H1
theorem v5{a b c:Expr}{ta:TA}{p pos:Pos}(hg:Gl X "range")(hm:X.mg "range" = none)(ha:PA X [a,b,c] ta)(hs:starEach [a,b,c] X.env=(false,eval a X.env)::starEach [b,c] X.env:=by rfl)(hs2:(backTo pos (starEach [b,c] X.env)).any (·.1)=false:=by rfl) :
  PI X tg (.Call (.Name "range" p) [a,b,c] [] pos) (DH ta):=by
 intro sy s σ H R I h;refine Call_ (cj I hg hm boot_range (MM (thn (ha pos sy s σ H _ I h) fun us s1 ⟨vs,H1,I1,r1,q1⟩=>?_) hs hs2));obtain⟨i,j,k,e,⟨hk,hk'⟩,⟨q1,q2,q3,q4⟩,q⟩:=q1;subst e;cases r1 with
 |cons r rr=>
  cases rr with
  |cons r' rr=>
   cases rr with
   |cons r'' rr=>
   cases rr;obtain⟨t,rfl⟩:=r;obtain⟨t',rfl⟩:=r';obtain⟨t'',rfl⟩:=r'';refine call_range_3 (by simp;lia) ?_ (Or.inl (PyProof.noPylong_small (by lia)));refine wpAny_pyIter_range (IsRange.new ..) (yZ hk hk' q1 q2 q3 q4) ?_;have I2:Inv X sy σ H1 { s1 with heap:=s1.heap.push { cls:=.type "range",data:=.fields #[.int i t,.int j t',.int k t''] },toks:=s1.toks }:=I1.kept fun b o e=>Mf _ e;refine ⟨(s1.heap.push { cls:=.type "range",data:=.fields #[.int i t,.int j t',.int k t''] }).objs.size,[(s1.heap.push { cls:=.type "range",data:=.fields #[.int i t,.int j t',.int k t''] }).objs.size],_,_,H1,rfl,
    I2.kept (t':=s1.toks) fun b o e=>Mf _ e,se _ i k (Dm.b4 i j k),?_,fun b hb=>?_,q⟩
   ·have e1:i+((0:Nat):Int)*k=i:=by simp
    have e2:((Dm.b4 i j k:Nat):Int)-((0:Nat):Int)=Nq i j k:=by rw[ig i j k hk];lia
    show IsRangeIter _ _ (i+((0:Nat):Int)*k) (((Dm.b4 i j k:Nat):Int)-((0:Nat):Int)) k;rw[e1,e2];exact Ms _ rfl
   ·have e:b=(s1.heap.push { cls:=.type "range",data:=.fields #[.int i t,.int j t',.int k t''] }).objs.size:=by simpa using hb
    subst e;exact I2.rq (Ds _) (I2.hok.fresh (Ds _))
theorem y9{H0:Hp}{lo k:Int}{n:Nat}:JW (Its lo k n) H0 (Dm.fQ lo k n):=by
 intro H0' H s0 s1;have el:(Dm.fQ lo k n).length=n:=by simp[Dm.fQ]
 refine⟨fun i hi=>by rw[el]at hi;exact hi,fun i d e=>?_⟩;have Gy:i<n:=by have:=(Me.mp e).1;rw[el]at this;exact this
 have hd:d=.int (lo+(i:Nat)*k):=by unfold Dm.fQ at e;rw[MA,Nf Gy]at e;exact(Option.some.inj e).symm
 refine⟨Gy,fun x H' y=>?_⟩;obtain⟨rfl,rfl⟩:=y;subst hd;exact⟨H0',aG.refl s1,.int _⟩
theorem JF{σ:L2.St}{H:Hp}{R:It->Hp->Prop}{f g c:FE}(h:tDI (Dm.iRs f g c) σ H R):DH (tDA [f,g,c]) σ H R:=by
 obtain⟨H0,ρ,ys,ρ',st,e,k⟩:=h;unfold Dm.iRs at e;split at e
 ·rename_i i ρ1 e1;split at e
  ·rename_i j ρ2 e2;split at e
   ·rename_i l ρ3 e3;split at e
    ·rename_i hb;cases e;refine⟨H0,ρ,[.val (.int i),.val (.int j),.val (.int l)],_,st,by simp only[Dm.eAs,e1,e2,e3];rfl,fun vs H0' H' t r=>?_⟩;cases r with
     |cons r rr=>
      cases rr with
      |cons r' rr=>
       cases rr with
       |cons r'' rr=>cases rr;cases Rep.isInt r;cases Rep.isInt r';cases Rep.isInt r'';obtain⟨h0,h1,h2,h3,h4⟩:=hb;unfold Dm.BIG at h1 h2 h3 h4;exact⟨i,j,l,rfl,h0,⟨by lia,by lia,by lia,by lia⟩,k _ H0' H' t y9⟩
    ·cases e
   ·cases e
  ·cases e
 ·cases e
theorem LI{a b c:Expr}{fa fb fc:FE}{p pos:Pos}(hg:Gl X "range")(hm:X.mg "range" = none)(ha:DA X [a,b,c] [fa,fb,fc])(hs:starEach [a,b,c] X.env=(false,eval a X.env)::starEach [b,c] X.env:=by rfl)(hs2:(backTo pos (starEach [b,c] X.env)).any (·.1)=false:=by rfl) :
  DI X tg (.Call (.Name "range" p) [a,b,c] [] pos) (Dm.iRs fa fb fc):=PI.weak (v5 hg hm ha hs hs2) fun _ _ _=>JF
end
theorem mS{Hs H0 H:Hp}{σ:L2.St}{ρ:Dm.Env}:∀{xs:List Dm.Val} {vs:List V} {ds:List Dat},cu Hs H0 H σ ρ vs xs->Dm.iO xs=some ds->ay H0 vs ds
 |[],_,_,.nil,e=>by cases e;exact .nil
 |.val d::xs,_,ds,.cons h r,e=>by
  unfold Dm.iO at e;cases q:Dm.iO xs with
  |none=>rw[q]at e;cases e
  |some es=>rw[q]at e;cases e;exact .cons h (mS r q)
 |.new _::_,_,_,_,e=>by cases e
 |.slot _::_,_,_,_,e=>by cases e
theorem B9{σ:L2.St}{H:Hp}{Q:VK}{f:List Dat->Option (RV×Dat)}{f0:FE}{fs:List FE}{E:XK}(h:tD (Dm.eFn f f0 fs) σ H Q):oY (spM f) [] E (tDA (f0::fs)) σ H Q:=by
 obtain⟨H0,ρ,x,ρ',st,e,k⟩:=h;unfold Dm.eFn at e;split at e
 case h_2=>cases e
 rename_i d xs ρ1 e1;split at e
 ·cases e
 rename_i ds e2;split at e
 ·cases e
 rename_i z d' fz;cases e;refine⟨H0,ρ,_,_,st,e1,fun vs H1 Hb t1 r1=>?_⟩;dsimp only;rw[Nb];cases r1 with
 |cons r0 rr=>
  obtain⟨a,rfl,n,no,n0,w⟩:=r0;obtain⟨oa,ha⟩:=w.some;refine⟨H1,a,_,d,ds,z,d',rfl,t1.st.same,n0,w,mS rr e2,fz,fun v H3 Hd s3 ss n3 w3 r3=>?_⟩;have st3:aA H3 Hd σ ρ':=t1.st.off s3.s0 ss no (fun b o y nb=>s3.s1 b o y nb) fun i d4 b y1 y2=>by
   obtain⟨b',q',nb',w'⟩:=t1.st.ow i d4 y1;rw[y2]at q';cases q';cases y:H3 b with
   |none=>rfl
   |some o=>
    obtain⟨o',z'⟩:=w'.some;rcases s3.s2 b o y with y3 | y3 | y3
    ·rw[y3]at z';cases z'
    ·rw[nb']at y3;cases y3
    ·exact absurd ⟨i,d4,y1,y3▸y2⟩ no
  exact k v H3 Hd ⟨st3,t1.stp.trans s3 fun b y=>.inr (by rw[y];exact n),t1.own,t1.dfn⟩ ((r3.toV t1.st).early fun b y=>t1.stp.gone y)
theorem B_{X:Cx}{e0:Expr}{es:List Expr}{p pos:Pos}{k:Nat}{F:Addr}{fd:FuncData}{ps:List Str}{g:List Dat->Option (RV×Dat)}{x:Str}{f0:FE}{fs:List FE}(G:aN X.prog X.w X.K X.mg X.base CX0 k F fd ps (spM g))(hr:aW k X.A)(hg:Gl X x)(hm:X.mg x=some (.ref F))(hk:Nv X.K (.ref F)=true)(hb:Binds X.K fd ps [])
  (ha:DA X (e0::es) (f0::fs)) (LM:(x == ("__debug__" : Str))=false:=by decide) (he:starEach (e0::es) X.env=(false,eval e0 X.env)::starEach es X.env:=by rfl) (Gx:(backTo pos (starEach es X.env)).any (·.1)=false:=by rfl) :
  DE X (.Call (.Name x p) (e0::es) [] pos) (Dm.eFn g f0 fs):=PE.weak (jt G hr hg hm hk hb .nil (tU (X:=X)) ha LM he Gx) fun _ _ _=>B9
open PySem
variable{C:List Value->Prop}{us:List Value}
theorem len0(h:us.length=0)(c:C []):C us:=by rw[List.eq_nil_of_length_eq_zero h];exact c
theorem y_{n:Nat}{C:List Value->Prop}{us:List Value}(h:us.length=n+1)(c:∀a us,us.length=n->C (a::us)):C us:=by
 cases us with
 |nil=>cases h
 |cons a us=>exact c a us (by simpa using h)
theorem JG(h:us.length=1)(c:∀a,C [a]):C us:=y_ h fun a _ h=>len0 h (C:=fun us=>C (a::us)) (c a)
theorem yI(h:us.length=2)(c:∀a b,C [a,b]):C us:=y_ h fun a _ h=>JG h (C:=fun us=>C (a::us)) (c a)
theorem JH(h:us.length=3)(c:∀a b d,C [a,b,d]):C us:=y_ h fun a _ h=>yI h (C:=fun us=>C (a::us)) (c a)
theorem JI(h:us.length=4)(c:∀a b d e,C [a,b,d,e]):C us:=y_ h fun a _ h=>JH h (C:=fun us=>C (a::us)) (c a)
theorem LJ(h:us.length=5)(c:∀a b d e f,C [a,b,d,e,f]):C us:=y_ h fun a _ h=>JI h (C:=fun us=>C (a::us)) (c a)
end Br
namespace L2
open PySem
variable{K:gc}{x qual:Str}{st:Stmt}{f:Addr}{fd:FuncData}{ps:List Str}
theorem Fun.dG(F:Fun K x qual st f fd)(hp:ps.length=1)(h:∀(kV doc pm:Value) (an:Option Addr) (cdv ct:Value) (a:Value),bindArgs (MQ x qual (aV st) (aO st) (ah st) .none kV doc pm an cdv ct) ⟨[a],[]⟩=pure (ps.zip [a])):Binds K fd ps []:=
 F.binds fun kV doc pm an cdv ct us hl=>Br.JG (C:=fun us=>bindArgs (MQ x qual (aV st) (aO st) (ah st) .none kV doc pm an cdv ct) ⟨us,[]⟩=pure (ps.zip us)) (hl.trans hp) (h kV doc pm an cdv ct)
theorem Fun.bF(F:Fun K x qual st f fd)(hp:ps.length=2)(h:∀(kV doc pm:Value) (an:Option Addr) (cdv ct:Value) (a b:Value),bindArgs (MQ x qual (aV st) (aO st) (ah st) .none kV doc pm an cdv ct) ⟨[a,b],[]⟩=pure (ps.zip [a,b])):Binds K fd ps []:=
 F.binds fun kV doc pm an cdv ct us hl=>Br.yI (C:=fun us=>bindArgs (MQ x qual (aV st) (aO st) (ah st) .none kV doc pm an cdv ct) ⟨us,[]⟩=pure (ps.zip us)) (hl.trans hp) (h kV doc pm an cdv ct)
theorem Fun.eS(F:Fun K x qual st f fd)(hp:ps.length=3)(h:∀(kV doc pm:Value) (an:Option Addr) (cdv ct:Value) (a b d:Value),bindArgs (MQ x qual (aV st) (aO st) (ah st) .none kV doc pm an cdv ct) ⟨[a,b,d],[]⟩=pure (ps.zip [a,b,d])):Binds K fd ps []:=
 F.binds fun kV doc pm an cdv ct us hl=>Br.JH (C:=fun us=>bindArgs (MQ x qual (aV st) (aO st) (ah st) .none kV doc pm an cdv ct) ⟨us,[]⟩=pure (ps.zip us)) (hl.trans hp) (h kV doc pm an cdv ct)
theorem Fun.sj(F:Fun K x qual st f fd)(hp:ps.length=4)(h:∀(kV doc pm:Value) (an:Option Addr) (cdv ct:Value) (a b d e:Value),bindArgs (MQ x qual (aV st) (aO st) (ah st) .none kV doc pm an cdv ct) ⟨[a,b,d,e],[]⟩=pure (ps.zip [a,b,d,e])):Binds K fd ps []:=
 F.binds fun kV doc pm an cdv ct us hl=>Br.JI (C:=fun us=>bindArgs (MQ x qual (aV st) (aO st) (ah st) .none kV doc pm an cdv ct) ⟨us,[]⟩=pure (ps.zip us)) (hl.trans hp) (h kV doc pm an cdv ct)
theorem Fun.j9(F:Fun K x qual st f fd)(hp:ps.length=5)(h:∀(kV doc pm:Value) (an:Option Addr) (cdv ct:Value) (a b d e g:Value),bindArgs (MQ x qual (aV st) (aO st) (ah st) .none kV doc pm an cdv ct) ⟨[a,b,d,e,g],[]⟩=pure (ps.zip [a,b,d,e,g])):Binds K fd ps []:=
 F.binds fun kV doc pm an cdv ct us hl=>Br.LJ (C:=fun us=>bindArgs (MQ x qual (aV st) (aO st) (ah st) .none kV doc pm an cdv ct) ⟨us,[]⟩=pure (ps.zip us)) (hl.trans hp) (h kV doc pm an cdv ct)
end L2
namespace Dm
noncomputable def mT:Dat->Dat->Option RV
 |.tup xs,.tup (y::ys)=>if xs.length+(y::ys).length<=SZ then some (.val (.tup (xs++(y::ys)))) else none
 |_,_=>none
end Dm
namespace Br
open PySem PySem.Spec PyProof.Rows L2
def DJ:R2:=fun x y H Q=>∃l b xs zs,x=.ref l/\y=.ref b/\H l=some (.tup xs)/\H b=some (.tup zs)/\zs≠[]/\xs.length+zs.length<=sizeLine/\(xs=[]->Q (.ref b) H)/\(xs≠[]->∀p,H p=none->Q (.ref p) (upd H p (.tup (xs++zs))))
theorem Ca{X:Cx}:OpR X (binaryOp .Add) DJ:=by
 intro sy s σ H x y v u Q I rx ry h;obtain⟨l,b,xs,zs,rfl,rfl,hH,hB,n2,hz,q0,q⟩:=h;cases rx;cases ry;obtain⟨z1,its,r1,⟨⟨cls,dd,data,sl⟩,ho,hc,n,hd⟩⟩:=(show aM X.prog X.w H s.heap l (.tup xs) from I.hok l _ hH)
 obtain⟨z2,its2,r2,⟨⟨L_,dd2,data2,sl2⟩,ho2,hc2,n',hd2⟩⟩:=(show aM X.prog X.w H s.heap b (.tup zs) from I.hok b _ hB)
 simp only at hc hd hc2 hd2;subst hc hd hc2 hd2;have e:its.toArray++its2.toArray=(its++its2).toArray:=by simp
 have hl:=r1.length;have hl2:=r2.length;have m2:its2≠[]:=fun y=>n2 (N9.mp (by rw[hl2,y];rfl));by_cases n1:xs=[]
 ·have m1:its=[]:=N9.mp (by rw[<- hl,n1];rfl);exact concat_meets ⟨_,ho,rfl⟩ ⟨_,ho2,rfl⟩ noFill_tuple_add seq_tuple_add PySem.F.slot_tuple_add PySem.F.entry_tuple_add (PySem.F.args_tuple_add_2 _ _)
   (tuple_addW0 l b its.toArray its2.toArray n n' dd dd2 sl sl2 (by simp[m1])) ⟨ho,ho2,.ref b,H,I,rfl,q0 n1⟩
 ·have m1:its≠[]:=fun y=>n1 (N9.mp (by rw[hl,y];rfl));refine concat_meets ⟨_,ho,rfl⟩ ⟨_,ho2,rfl⟩ noFill_tuple_add seq_tuple_add PySem.F.slot_tuple_add PySem.F.entry_tuple_add (PySem.F.args_tuple_add_2 _ _)
   (tuple_addW2 l b its.toArray its2.toArray n n' dd dd2 sl sl2 (by simpa using m1) (by simpa using m2) (by rw[Mk,Mk];lia)) ⟨ho,ho2,?_⟩
  rw[e];refine⟨.ref _,_,I.laid (t':=s.toks) (fun _ _ q=>Mf _ q) (Ds _) (show aM X.prog X.w _ _ _ (.tup (xs++zs)) from ⟨by rw[Mr];exact hz,its++its2,r1.append r2,⟨_,Ms _ rfl,rfl,0,rfl⟩⟩),rfl,q n1 _ I.fresh⟩
theorem Cb:OpD DJ Dm.mT:=by
 intro H0 H x y dx dy z Q s rx ry e k;unfold Dm.mT at e;split at e
 ·rename_i xs y1 ys;split at e
  case isFalse=>cases e
  rename_i hz;cases e;have r0:Rep H0 y (.tup (y1::ys)):=by
   rcases ry with r | ⟨a,_,w⟩
   ·exact r
   ·exact MN w
  obtain⟨a,us,rfl,qa,ra⟩:=eG s rx;obtain⟨b,ws,rfl,qb,rb⟩:=eG s ry;have la:=ra.length;have lb:=rb.length;refine⟨a,b,us,ws,rfl,rfl,qa,qb,fun q=>(by rw[q]at lb;cases lb),by rw[la,lb];exact g7 hz,fun q=>?_,fun _ p hp=>?_⟩
  ·subst q;cases ra;exact k _ _ _ (aG.refl s) r0
  ·have g:=aG.xZ (o:=.tup (us++ws)) s hp;exact k _ _ _ g (.tup aq ((ra.append rb).mono g.s0))
 ·cases e
section
variable{X:Cx}{pos:Pos}
theorem Gs{a b:Expr}{fa fb:FE}(ha:DE X a fa)(hb:DE X b fb):DE X (.BinOp a .Add b pos) (Dm.e2 Dm.mT fa fb):=pI Ca Cb ha hb
end
open PySem L2
structure aR(K:gc)(x:Str)(st:Stmt)(a:Addr)(fd:FuncData):Prop where
 e:MP K mainGlobals x=some (some (.ref a))
 F:Fun K x x st a fd
variable{K:gc}{x:Str}{st:Stmt}{a:Addr}{fd:FuncData}{hp:Heap}{mg:Str->Option Value}
theorem aF{oc:Value}{od an:Option Addr}{osl:Array (Option Value)}{kV doc pm cdv ct:Value}(e:MP K mainGlobals x=some (some (.ref a)))
  (l:K.lookup a=some ⟨oc,od,.func (MQ x x (aV st) (aO st) (ah st) .none kV doc pm an cdv ct),osl⟩) (c:Ot K cdv x=true) (k:Nv K (.ref a)=true) :
  aR K x st a (MQ x x (aV st) (aO st) (ah st) .none kV doc pm an cdv ct):=⟨e,Ff l c k⟩
theorem mgo{v:Value}(X:K.In hp)(G:hp.Ns mainGlobals mg)(e:MP K mainGlobals x=some (some v)):mg x=some v:=PySem.W.mg_of X G e
theorem mno(X:K.In hp)(G:hp.Ns mainGlobals mg)(e:MP K mainGlobals x=some none):mg x=none:=PySem.W.mg_none_of X G e
theorem aR.m(h:aR K x st a fd)(X:K.In hp)(G:hp.Ns mainGlobals mg):mg x=some (.ref a):=PySem.W.mg_of X G h.e
theorem aR.LK{y:Str}(h:aR K x st a fd)(hb:∀(kV doc pm:Value) (an:Option Addr) (cdv ct v:Value),bindArgs (MQ x x (aV st) (aO st) (ah st) .none kV doc pm an cdv ct) ⟨[v],[]⟩=pure [(y,v)])(s:Shared)(v:Value):BindsTo s fd ⟨[v],[]⟩ [(y,v)]:=by obtain⟨oc,od,kV,doc,pm,an,cdv,ct,osl,rfl,lk,JO⟩:=h.F.ex;exact .of_eq (hb kV doc pm an cdv ct v)
theorem hm{j k:Nat}{A:Around}(r:aW k A)(h:j<=k:=by decide):aW j A:=r.mono h
theorem fsc{N P:List Str}{sc:Scope}(h1:sc.kind=.function:=by rfl)(h2:sc.isCoroutine=false:=by rfl)(h3:sc.isGenerator=false:=by rfl)(h4:N.take P.length=P:=by rfl)(h:N.Nodup/\(∀x∈P,sc.names.lookup x=some .local\/sc.names.lookup x=some .cell)/\∀y∈sc.names,y.2≠.free:=by decide +kernel):av N P sc:=⟨h1,h2,h3,h.1,h4,h.2.1,h.2.2⟩
end Br
namespace Sx
open PySem PySem.SetTable PySem.W PyProof.Rows
open PySem PySem.W
def l0(h:Heap)(d:Addr)(es:Array DictEntry)(ep:Nat):Prop:=∃o,h.get? d=some o/\o.ExactDict/\o.data=.dict es ep
theorem l0.typeIs{s:Shared}{d:Addr}{es ep}(x:l0 s.heap d es ep):s.TypeIs (.ref d) "dict" := let ⟨o,ho,he,_⟩:=x;⟨o,ho,he.1⟩
theorem l0.at{h h':Heap}{d:Addr}{es ep}(x:l0 h d es ep)(e:∀o,h.get? d=some o->h'.get? d=some o):l0 h' d es ep:=let ⟨o,ho,r⟩:=x;⟨o,e _ ho,r⟩
section
variable{prog:Program}{w:World}{A:Around}{E:Value->Shared->Prop}{s:Shared}{d it:Addr}{es:Array DictEntry}{ep i:Nat}
theorem v7(lo:(d == sysModules)=false)(x:l0 s.heap d es ep){Q:Value->Shared->Prop}
  (hQ:Q (.ref s.heap.objs.size) { s with heap:=s.heap.push { cls:=.type "dict_keyiterator",data:=.fields #[.ref d,.int 0 0,.int es.size 0,.int ep 0] } }):wpAny (model prog w) A (pyIter (.ref d)) Q E s:=by
 obtain⟨o,ho,hex,hd⟩:=id x;have hT:=x.typeIs;refine wpAny_pyIter_slot hT F.slot_dict_iter (wpAny_call_entry F.slot_dict_iter hT F.entry_dict_iter ?_ (F.args_dict_iter_1 _));unfold Builtin.«dict.__iter__» Builtin.Dict.dictSlotNone;refine wpAny_bind (wpAny_bind (wpAny_notOrdered_dict hT ?_));show wpAny _ _ (pure (MI d)) _ _ s;refine wpAny_pure ?_;show wpAny _ _ (Builtin.Dict.showsAll d >>= _) _ _ s;unfold Builtin.Dict.showsAll;rw[lo,if_neg Mz];refine wpAny_bind (wpAny_pure (wpAny_bind (wpAny_dictEntries ho hd (wpAny_bind (wpAny_dictEpoch ho hd ?_)))));refine wpAny_bind (wpAny_newObj_type (wpAny_pure ⟨_,rfl,"dict_keyiterator",_,⟨_,Ms _ rfl,rfl⟩,Na.lookup,?_⟩))
 simpa [rawInt] using hQ
theorem Cc(Fd:s.heap.IsKeyIter it d i es.size ep)(x:l0 s.heap d es ep){v:Value}(hv:(es.map (·.key))[i]?=some v){Q:Option Value->Shared->Prop}
  (hQ:∀h',h'.IsKeyIter it d (i+1) es.size ep->N2 it s.heap h'->Q (some v) { s with heap:=h' }):wpAny (model prog w) A (pyNext (.ref it)) Q E s:=by
 obtain⟨o,ho,hc,hd⟩:=id Fd;obtain⟨od,hod,JO,hdd⟩:=id x;have Gy:i<es.size:=by
  have:=(Array.getElem?_eq_some_iff.mp hv).1
  simpa using this
 have hkey:es[i].key=v:=by rw[Array.getElem?_map,NY Gy]at hv;exact Option.some.inj hv
 unfold pyNext;refine wpAny_bind (wpAny_attempt (wpAny_callSpecial?_slot (name:=OY "__next__") Fd.typeIs Na (wpAny_call_entry Na Fd.typeIs F.entry_dict_keyiterator_next ?_ (F.args_dict_keyiterator_next_1 _))));refine wpAny_bind (wpAny_pure (wpAny_bind (wpAny_bind ?_)))
 first | refine wpAny_bind (wpAny_typeNameOfWhole_keyiter Fd.typeIs (wpAny_pure ?_)) | refine wpAny_bind (wpAny_typeNameOf_keyiter Fd.typeIs (wpAny_pure ?_))
 refine wpAny_bind (wpAny_fieldsOf ho hd ?_);have hown:Builtin.Dict_items.ownsTuple "dict_keyiterator" = false:=rfl;rw[hown];simp only[Ni,if_false];show wpAny _ _ (if (MI d == Value.none)=true then _ else _) _ _ s;rw[if_neg (show ¬((MI d == Value.none)=true) from Mz)];refine wpAny_bind (wpAny_pure (wpAny_bind (wpAny_dictEntries hod hdd ?_)));rw[if_neg (by simp)];refine wpAny_bind (wpAny_pure (wpAny_bind (wpAny_dictEpoch hod hdd ?_)));rw[if_neg (by simp)];refine wpAny_pure ?_;have hneg:¬(i:Int)<0:=by lia
 simp only[hneg,if_false,M5,NY Gy];refine wpAny_bind ?_
 first | refine wpAny_bind (wpAny_typeNameOfWhole_keyiter Fd.typeIs (wpAny_pure ?_)) | refine wpAny_bind (wpAny_typeNameOf_keyiter Fd.typeIs (wpAny_pure ?_))
 refine wpAny_bind (wpAny_isOneOf_keyiter Fd.typeIs ?_);show wpAny _ _ (setField (.ref it) 1 (rawInt ((i:Int)+1)) >>= _) _ _ s;refine wpAny_bind (wpAny_setField ho hd (by simp) ?_);have Cd:(s.heap.update it (Obj.mapFields (·.setIfInBounds 1 (rawInt ((i:Int)+1))))).IsKeyIter it d (i+1) es.size ep:=
  ⟨_,Od _ ho (Obj.isFreed_of_fields (Obj.data_mapFields hd _)),(Obj.cls_mapFields ..).trans hc,by rw[Obj.data_mapFields hd];simp[rawInt]⟩
 refine wpAny_bind (wpAny_holding (wpAny_bind (wpAny_isOneOf_keyiter (s:={ s with heap:=s.heap.update it (Obj.mapFields (·.setIfInBounds 1 (rawInt ((i:Int)+1)))) }) Cd.typeIs ?_)));show wpAny _ _ (pure es[i].key) _ _ _;rw[hkey];exact wpAny_pure (wpAny_pure ⟨_,rfl,wpAny_pure (hQ _ Cd (N2.update ..))⟩)
theorem Gu(hh:A.handled=none)(Fd:s.heap.IsKeyIter it d es.size es.size ep)(x:l0 s.heap d es ep){Q:Option Value->Shared->Prop}
  (hQ:∀h',Heap.ExtBut it s.heap h'->Q none { s with heap:=h' }):wpAny (model prog w) A (pyNext (.ref it)) Q E s:=by
 obtain⟨o,ho,hc,hd⟩:=id Fd;obtain⟨od,hod,JO,hdd⟩:=id x;unfold pyNext;refine wpAny_bind (wpAny_attempt (wpAny_callSpecial?_slot (name:=OY "__next__") Fd.typeIs Na (wpAny_call_entry Na Fd.typeIs F.entry_dict_keyiterator_next ?_ (F.args_dict_keyiterator_next_1 _))));refine wpAny_bind (wpAny_pure (wpAny_bind (wpAny_bind ?_)))
 first | refine wpAny_bind (wpAny_typeNameOfWhole_keyiter Fd.typeIs (wpAny_pure ?_)) | refine wpAny_bind (wpAny_typeNameOf_keyiter Fd.typeIs (wpAny_pure ?_))
 refine wpAny_bind (wpAny_fieldsOf ho hd ?_);have hown:Builtin.Dict_items.ownsTuple "dict_keyiterator" = false:=rfl;rw[hown];simp only[Ni,if_false];show wpAny _ _ (if (MI d == Value.none)=true then _ else _) _ _ s;rw[if_neg (show ¬((MI d == Value.none)=true) from Mz)];refine wpAny_bind (wpAny_pure (wpAny_bind (wpAny_dictEntries hod hdd ?_)));rw[if_neg (by simp)];refine wpAny_bind (wpAny_pure (wpAny_bind (wpAny_dictEpoch hod hdd ?_)));rw[if_neg (by simp)];refine wpAny_pure ?_;have hneg:¬(es.size:Int)<0:=by lia
 simp only[hneg,if_false,M5,Array.getElem?_eq_none (Ds es.size)];refine wpAny_bind ?_
 first | refine wpAny_bind (wpAny_typeNameOfWhole_keyiter Fd.typeIs (wpAny_pure ?_)) | refine wpAny_bind (wpAny_typeNameOf_keyiter Fd.typeIs (wpAny_pure ?_))
 show wpAny _ _ (setField (.ref it) 0 .none >>= _) _ _ s;refine wpAny_bind (wpAny_setField ho hd (by simp) (wpAny_bind ?_));unfold newExc newTuple;refine wpAny_bind (wpAny_newObj_type (wpAny_bind (m:=firstArgMember _ _) (wpAny_of_eq (a:=.none) rfl (wpAny_newObj_type ?_ (by size_fits)))) (by size_fits));unfold raiseNew;refine wpAny_bind (wpAny_handled ?_);have hx:A.in1.handled=none:=hh;rw[hx];refine wpAny_bind (wpAny_pure (wpAny_throw (wpAny_bind ?_)));refine wpAny_isInstance (b:=true) (T := "StopIteration") ⟨_,Ms _ rfl,rfl⟩ isSubtype_stop (wpAny_pure ?_);exact hQ _ (((N2.update ..).extBut.push _).push _)
theorem za(hh:A.handled=none)(I d:Addr)(JR:d≠I) :
  Walks prog w A I [I,d] [I] es.size (fun i v=>(es.map (·.key))[i]?=some v) (fun i h=>h.IsKeyIter I d i es.size ep/\l0 h d es ep) where
 sub:=fun b hb=>by simp at hb;simp[hb]
 frame:=fun _ _ _ st hk=>⟨let ⟨o,ho,r⟩:=st.1;⟨o,hk I (by simp) o ho,r⟩,st.2.at fun o e=>hk d (by simp) o e⟩
 item:=fun i s Q E hi st hQ=>by
  obtain⟨v,hv⟩:∃v,(es.map (·.key))[i]?=some v:=⟨_,NY (by simpa using hi)⟩
  refine Cc st.1 st.2 hv fun h' Cd hs'=>?_;exact hQ v h' s.toks hv ⟨Cd,st.2.at fun o e=>hs'.extBut d o JR e⟩ fun b o hb e=>hs'.extBut b o (fun h=>hb (by simp[h])) e
 done:=fun s Q E st hQ=>Gu hh st.1 st.2 fun h' he'=>hQ h' s.toks fun b o hb e=>he' b o (fun h=>hb (by simp[h])) e
 self:=fun _ _ _ _ st hQ=>wpAny_pyIter_keyiter st.1 hQ
theorem Gv(lo:(d == sysModules)=false):KdlSrc prog w "dict" d d es.size (fun i v=>(es.map (·.key))[i]?=some v) (fun h=>l0 h d es ep) where
 type:=fun _ x=>x.typeIs
 there:=fun _ x=>let ⟨_,ho,_⟩:=x;⟨Mi ho,Mi ho⟩
 keep:=fun _ _ x hk=>x.at fun o e=>hk d (.inl rfl) o e
 notList:=by decide
 notTuple:=by decide
 hint:=fun _ _ _ _ x hq=>kdl_hint_dict x.typeIs hq
 iter:=fun _ s hh x=>⟨_,_,(fun _ _ hq=>v7 lo x hq),za hh _ d (let ⟨_,ho,_⟩:=x;MC (Mi ho)),
  ⟨⟨_,Ms _ rfl,rfl,by simp⟩,x.at fun o e=>Mf _ e⟩⟩
end
end Sx
set_option maxHeartbeats 4000000
namespace Ts
open PySem PyProof.Rows
variable{A:Around}{E:Value->Shared->Prop}{s:Shared}{prog:Program}{w:World}
end Ts
namespace Br
open PySem PySem.Spec PyProof.Rows L2
theorem okQ{P:Program}{w:World}{K:gc}{mg:Str->Option Value}{base:Heap}{x qual:Str}{st:Stmt}{f:Addr}{fd:FuncData}{N ps:List Str}{k n m:Nat}{body:FS}(F:Fun K x qual st f fd)(S:av N ps (ah st))
  (hb:∀(cdv:Value) (A:Around) (outer:List Env) (s:Shared) (H:Hp) (E:XK),aW k (A.deeper (envOfC qual (ah st) s.heap.objs.size f cdv))->DSs (rD CX0 P w K mg base N qual (ah st) f cdv A outer s H E).nox (aO st) body)
  (hn:ps.length=n:=by rfl) (hm:N.length=n+m:=by rfl):aN P w K mg base CX0 (k+1) f fd ps (spD (Dm.fn n m body)):=
 F.ok S (fun vs H Q E h=>(rR h).trans hn.symm) fun cdv A outer s H vs Q E hr h=>⟨_,hb cdv A outer s H E hr,IZ hm h⟩
end Br
namespace Dm
noncomputable def jd:List (Int×Int)->List Dat->Int×Int->Option Dat
 |k::ks,v::vs,p=>if k=p then some v else jd ks vs p
 |_,_,_=>none
noncomputable def uw:List (Int×Int)->List Dat->Int×Int->Dat->List Dat
 |k::ks,v::vs,p,d=>(if k=p then d else v)::uw ks vs p d
 |_,_,_,_=>[]
noncomputable def nV(ks:List (Int×Int))(p:Int×Int):Bool:=ks.any fun k=>decide (k=p)
noncomputable def cK(ks:List (Int×Int))(p:Int×Int):List (Int×Int):=if nV ks p then ks else ks++[p]
noncomputable def dH(ks:List (Int×Int))(vs:List Dat)(p:Int×Int)(d:Dat):List Dat:=if nV ks p then uw ks vs p d else vs++[d]
noncomputable def pairD(p:Int×Int):Dat:=.tup [.int p.1,.int p.2]
noncomputable def Ce:FE:=fun ρ=>some (.new (.dcp [] []),ρ)
noncomputable def j_:Dat->Dat->Option RV
 |.dcp ks vs,.tup [.int i,.int j]=>(jd ks vs (i,j)).map .val
 |_,_=>none
noncomputable def iP:List Dat->Option RV
 |[.dcp ks _]=>if ks.length<=SZ then some (.new (.lst (ks.map pairD))) else none
 |_=>none
noncomputable def iQ(i:Nat)(j e:FE):FS:=fun ρ=>match e ρ with
 |none=>none
 |some (x,ρ1)=>match tk ρ1 x with
  |none=>none
  |some (d,ρ2)=>match ρ2[i]? with
   | some (.ow _)=>(match j ρ2 with
    | some (.val (.tup [.int p,.int q]),ρ3)=>(match ρ3[i]? with
     |some (.ow (.dcp ks vs))=>if ks.length<SZ then some (.nx (ρ3.set i (.ow (.dcp (cK ks (p,q)) (dH ks vs (p,q) d))))) else none
     |_=>none)
    |_=>none)
   |_=>none
end Dm
namespace Br
open PySem PySem.Spec PyProof.Rows L2
section
variable{ks:List (Int×Int)}{kvs:List (List Key×V)}{ds:List Dat}{p:Int×Int}{H0:Hp}{v:V}{d:Dat}{H:Hp}
theorem sq{p q:Int×Int}(h:kP p=kP q):p=q:=by
 unfold kP at h;injection h with h1 h2
 injection h2 with h2 _
 cases p;cases q;exact Prod.ext (Sum.inl.inj h1) (Sum.inl.inj h2)
theorem pU{H0 H:Hp}(s:ao H0 H)(r:fO H0 H v (.dcp ks ds)):∃a x,v=.ref a/\H a=some (.dT x.1 x.2)/\vN H0 x ks/\ay H0 (x.1.map (·.2)) ds:=by
 rcases r with r | ⟨a,e,x,q,ek,rs⟩
 ·cases r with
  |dcp q ek rs=>exact⟨_,_,rfl,s _ _ q,ek,rs⟩
 ·exact⟨a,x,e,q,ek,rs⟩
theorem mU{H0 H:Hp}(s:ao H0 H){i j:Int}(r:fO H0 H v (.tup [.int i,.int j])):∃b,v=.ref b/\H0 b=some (.tup ((kP (i,j)).map kV)):=by
 rcases r with r | ⟨a,e,w⟩
 ·cases r with
  |tup q rs=>
   cases rs with
   |cons r1 rr=>
    cases rr with
    |cons r2 rr=>cases rr;cases r1;cases r2;exact⟨_,rfl,q⟩
 ·exact w.elim
theorem pV(p:Int×Int):∀{kvs:List (List Key×V)} {ks:List (Int×Int)} {ds:List Dat},kvs.map (·.1)=ks.map kP->ay H0 (kvs.map (·.2)) ds ->
  (∃d v,Dm.jd ks ds p=some d/\dS kvs (kP p)=some v/\Rep H0 v d)\/(Dm.jd ks ds p=none/\dS kvs (kP p)=none)
 |[],[],_,_,r=>by cases r;exact .inr ⟨rfl,rfl⟩
 |[],_::_,_,e,_=>by cases e
 |_::_,[],_,e,_=>by cases e
 |(k0,v0)::kvs,k::ks,_,e,r=>by
  rw[eg]at r;cases r with
  |cons r0 rr=>
   rw[eg,eg]at e;injection e with e1 e2
   have e1:k0=kP k:=e1;subst e1;unfold Dm.jd;by_cases h:k=p
   ·subst h;rw[if_pos rfl];exact .inl ⟨_,v0,rfl,dZ rfl,r0⟩
   ·rw[if_neg h,d7 (fun q=>h (sq q))];exact pV p e2 rr
theorem nW(p:Int×Int):∀{kvs:List (List Key×V)} {ks:List (Int×Int)},kvs.map (·.1)=ks.map kP->(kvs.any fun kv=>decide (kv.1=kP p))=Dm.nV ks p
 |[],[],_=>rfl
 |[],_::_,e=>by cases e
 |_::_,[],e=>by cases e
 |(k0,v0)::kvs,k::ks,e=>by
  rw[eg,eg]at e;injection e with e1 e2
  have e1:k0=kP k:=e1;subst e1;unfold Dm.nV;rw[Ng,Ng,nW p e2];unfold Dm.nV
  congr 1
  by_cases h:k=p
  ·subst h;simp
  ·have:¬kP k=kP p:=fun q=>h (sq q);simp[h,this]
theorem pW(p:Int×Int)(rv:Rep H0 v d):∀{kvs:List (List Key×V)} {ks:List (Int×Int)} {ds:List Dat},kvs.map (·.1)=ks.map kP->ay H0 (kvs.map (·.2)) ds ->
  ((kvs.map fun kv=>if kv.1=kP p then (kv.1,v) else kv).map (·.1)=ks.map kP)/\ay H0 ((kvs.map fun kv=>if kv.1=kP p then (kv.1,v) else kv).map (·.2)) (Dm.uw ks ds p d)
 |[],[],_,_,r=>by cases r;exact⟨rfl,.nil⟩
 |[],_::_,_,e,_=>by cases e
 |_::_,[],_,e,_=>by cases e
 |(k0,v0)::kvs,k::ks,_,e,r=>by
  rw[eg]at r;cases r with
  |cons r0 rr=>
   rw[eg,eg]at e;injection e with e1 e2
   have e1:k0=kP k:=e1;subst e1;obtain⟨i1,i2⟩:=pW p rv e2 rr;unfold Dm.uw;by_cases h:k=p
   ·subst h;rw[if_pos rfl,eg,eg,eg,i1];simp only[if_true];exact⟨trivial,.cons rv i2⟩
   ·rw[if_neg h,eg,eg,eg,i1];have:¬kP k=kP p:=fun q=>h (sq q);simp only[this,if_false];exact⟨trivial,.cons r0 i2⟩
theorem Cf(p:Int×Int)(rv:Rep H0 v d)(e:kvs.map (·.1)=ks.map kP)(r:ay H0 (kvs.map (·.2)) ds) :
  (putK kvs (kP p) v).map (·.1)=(Dm.cK ks p).map kP/\ay H0 ((putK kvs (kP p) v).map (·.2)) (Dm.dH ks ds p d):=by
 have ha:=nW p e;unfold putK Dm.cK Dm.dH;rw[ha];cases hb:Dm.nV ks p with
 |true=>simp only[if_true];exact pW p rv e r
 |false=>simp only[Ni,if_false];rw[Mt,Mt,Mt,e];exact⟨rfl,r.append (.cons rv .nil)⟩
theorem bP.snoc{t:Addr}(h:H t=some (.tup [V.int p.1,V.int p.2])):∀{ts:List Addr} {ks:List (Int×Int)},bP H ts ks->bP H (ts++[t]) (ks++[p])
 |[],[],_=>⟨h,trivial⟩
 |_::_,_::_,q=>⟨q.1,bP.snoc h q.2⟩
 |[],_::_,q=>q.elim
 |_::_,[],q=>q.elim
theorem zb{b:Addr}(hb:H b=some (.tup ((kP p).map kV))){ts:List Addr}(e:kvs.map (·.1)=ks.map kP)(k:bP H ts ks):bP H (rG kvs ts (kP p) b) (Dm.cK ks p):=by
 unfold rG Dm.cK;rw[nW p e];cases Dm.nV ks p with
 |true=>simpa using k
 |false=>simpa using bP.snoc hb k
theorem mV:∀{ts:List Addr} {ks:List (Int×Int)},bP H ts ks->ay H (ts.map V.ref) (ks.map Dm.pairD)
 |[],[],_=>.nil
 |_::_,_::_,q=>.cons (.tup q.1 (.cons (.int _) (.cons (.int _) .nil))) (mV q.2)
 |[],_::_,q=>q.elim
 |_::_,[],q=>q.elim
theorem Gw:OpD (fun x y H Q=>∃a v,x=.ref a/\cL H a y (some v)/\Q v H) Dm.j_:=by
 intro H0 H x y dx dy z Q s rx ry e k;unfold Dm.j_ at e;split at e
 ·rename_i ks vs i j;obtain⟨b,rfl,hb⟩:=mU s ry;obtain⟨a,x,rfl,qa,ek,rs⟩:=pU s rx;rcases pV (i,j) ek.1 rs with⟨d,v,l1,l2,r⟩ | ⟨l1,_⟩
  ·rw[l1]at e;cases e;refine⟨a,v,rfl,?_,k _ H0 H (aG.refl s) r⟩;have:=cL.t (k:=kP (i,j)) qa (s _ _ hb);rw[l2]at this;exact this
  ·rw[l1]at e;cases e
 ·cases e
def zc:List V->Hp->VK->Prop:=fun xs H Q=>∃(a:Addr) (kvs:List (List Key×V)) (ts:List Addr),xs=[.ref a]/\H a=some (.dT kvs ts)/\∀l,H l=none->Q (.ref l) (upd H l (.lst (ts.map V.ref)))
theorem mW:∀ts:List Addr,Vals (ts.map V.ref) (ts.map MI)
 |[]=>.nil
 |_::ts=>.cons rfl (mW ts)
theorem sr{X:Cx}(hc:X.calm=true):cM X (.type "list") zc:=by
 intro sy s σ H xs us Q I r h;obtain⟨a,kvs,ts,rfl,hq,k⟩:=h;obtain⟨u,rfl,rx⟩:=vals1 r;cases rx;obtain⟨z,hd,ys,rel,o,es,ep,h1,h2,h3,h4,h5,h6⟩:=(show aM X.prog X.w H s.heap a (.dT kvs ts) from I.hok a _ hq)
 have hkeys:(es.map (·.key)).toList=ts.map MI:=by rw[Array.toList_map,h4,<- h6,M4,M4];rfl
 have hsz:es.size=ts.length:=by
  have:=congrArg List.length hkeys
  simpa using this
 have hyl:ys.length=ts.length:=by rw[<- h6,Dp]
 have hl:ts.length<=sizeLine:=by rw[<- hyl,<- Paired.length rel];exact z
 refine PySem.W.kdl_call (Sx.Gv (es:=es) (ep:=ep) hd) (I.ok.hd hc) ⟨o,h1,h2,h3⟩ (by rw[hsz];exact hl) fun h' tk DK c hk hL hacc=>?_;have hal:DK.toList=ts.map MI:=by
  apply NN;intro i;by_cases hi:i<es.size
  ·have e1:DK.toList[i]?=some (DK.toList[i]'(by rw[Nr,hacc.1];exact hi)):=Mp _;have:=hacc.2 i _ (by rw[<- NB];exact e1);rw[<- hkeys,e1,<- this,NB]
  ·rw[MS (by rw[Nr,hacc.1];lia),MS (by rw[Dp,<- hsz];lia)]
 have hobj:aM X.prog X.w (upd H s.heap.objs.size (.lst (ts.map V.ref))) h' s.heap.objs.size (.lst (ts.map V.ref)):=by refine⟨by rw[Dp];exact hl,ts.map MI,c,mW ts,?_⟩;rw[hL,<- hal]
 exact⟨.ref s.heap.objs.size,_,I.laid (t':=tk) hk (Ds _) hobj,rfl,k _ (I.hok.fresh (Ds _))⟩
theorem zd:CallD zc Dm.iP:=by
 intro H0 H vs ds z Q s rs e k;unfold Dm.iP at e;split at e
 ·split at e
  case isFalse=>cases e
  cases e;cases rs with
  |cons r rr=>cases rr;obtain⟨a,x,rfl,qa,ek,ra⟩:=pU s r;exact⟨a,x.1,x.2,rfl,qa,fun p hp=>k _ _ _ (aG.jr s hp) ⟨p,rfl,hp,s.free hp,_,aq,mV ek.2⟩⟩
 ·cases e
end
section
variable{σ:L2.St}{H:Hp}{Q:VK}{D:Ends}
theorem JJ(h:tD Dm.Ce σ H Q):xO σ H Q:=by obtain⟨H0,ρ,x,ρ',st,e,k⟩:=h;cases e;intro p hp;have g:=aG.jr (o:=HO.dT [] []) st.same hp;exact k _ _ _ (.grow st g) ⟨p,rfl,hp,st.bf hp,st.same.free hp,([],[]),aq,⟨rfl,trivial⟩,.nil⟩
theorem Cg{i:Nat}{j f:FE}(h:tDS (Dm.iQ i j f) D σ H):xK (nv i) (tD j) (tD f) D σ H:=by
 obtain⟨H0,ρ,o,st,e,k⟩:=h;unfold Dm.iQ at e;split at e
 ·cases e
 rename_i x ρ1 e1;split at e
 ·cases e
 rename_i d ρ2 e2;split at e
 case h_2=>cases e
 rename_i d0 h2;split at e
 ·rename_i m n ρ3 e3;split at e
  ·rename_i ks vs h3;split at e
   case isFalse=>cases e
   rename_i hz;cases e;refine⟨H0,ρ,_,ρ1,st,e1,fun v H0' H' t r=>?_⟩;obtain⟨H1,t1,b1,r1,_,_⟩:=take1 t (ao.refl _) r e2;obtain⟨a0,q0,_,_⟩:=t1.st.ow i _ h2;refine⟨_,q0,H1,ρ2,_,ρ3,t1.st,e3,fun u H2 Hc t2 r2=>?_⟩;obtain⟨a,q,n',w⟩:=t2.st.ow i _ h3;rw[q0]at q;cases q;obtain⟨y,yy,ek,rs⟩:=w;obtain⟨b,rfl,hb⟩:=mU t2.st.same (.inl r2);obtain⟨p1,p2⟩:=Cf (m,n) (r1.mono t2.stp.s0) ek.1 rs;have Cv:y.1.length=ks.length:=by
    have:=congrArg List.length ek.1
    simpa using this
   refine⟨a0,_,rfl,o_.t (k:=kP (m,n)) yy (t2.st.same _ _ hb) (by rw[Cv];exact Mq hz (by decide)),?_⟩;have ow:aj σ ρ3 a0:=⟨i,_,h3,q0⟩
   have tt:=t1.trans t2;exact k σ H2 _ ⟨t2.st.write h3 q0 ⟨(putK y.1 (kP (m,n)) v,rG y.1 y.2 (kP (m,n)) b),aq,⟨p1,zb hb ek.1 ek.2⟩,p2⟩,tt.stp.trans (Stp.write ow) fun b z=>.inl (tt.own b z),fun b z=>.inl (tt.own b (bH h3 z)),rfl⟩
  ·cases e
 ·cases e
end
section
variable{X:Cx}{a b e:Expr}{fa fb f:FE}{pos:Pos}{k:Nat}
theorem JK:DE X (.Dict [] [] pos) Dm.Ce:=PE.weak xQ fun _ _ _=>JJ
theorem mX(hr:aW k X.A)(ha:DE X a fa)(hb:DE X b fb)(hs:Bm b:=by intro _ _;rfl):DE X (.Subscript a b pos) (Dm.e2 Dm.j_ fa fb):=PE.weak (tX (u1 hr) ha hb hs) fun _ _ _=>pC Gw
theorem Ci(i:Nat){x:Str}{px sp:Pos}(hr:aW k X.A)(hb:DE X b fb)(he:DE X e f)(hi:X.N[i]?=some x:=by rfl)(hv:Vis X.env.scope x:=by trivial)(hd:(x == ("__debug__" : Str))=false:=by decide)
  (JO:(x == ("__classdict__" : Str))=false:=by decide) (hs:swapsWith e (some (.Subscript (.Name x px) b sp)) pos.line X.env=pure false:=by rfl):DS X (.Assign [.Subscript (.Name x px) b sp] e pos) (Dm.iQ i fb f):=
 PS.weak (tY (u1 hr) (dW hi hv hd JO) hb he hs) fun _ _ _=>Cg
theorem Cj{fs:List FE}{p:Pos}(hc:X.calm=true)(hg:Gl X "list")(hm:X.mg "list" = none)(ha:DA X [e] fs)(he:starEach [e] X.env=[(false,eval e X.env)]:=by rfl)(Gx:(backTo pos (starEach [] X.env)).any (·.1)=false:=by rfl):DE X (.Call (.Name "list" p) [e] [] pos) (Dm.eB Dm.iP fs):=BJ (sr hc) zd (by rfl) hg hm ha (he:=he) (Gx:=Gx)
end
end Br
namespace Dm
section
variable{K:RV->Prop}{Q:Val->Env->Prop}{ρ:Env}{o p:Option Dat}{R:RV->Env->Prop}{N:Env->Prop}{B C:Env->Prop}{d:Dat}{α:Type}{i j:Int}{f:List Dat->Option RV}{ks:List Int}{vs:List Dat}{as:List FE}{ds:List Dat}{a:FE}{xs:List Val}{X Y:Prop}{g:Dat->Option RV}{e:FE}{c:Bool}{body:FS}{v:RV}{t:FT}{ρ2 ρ3:Env}{n m:Nat}{s u:FS}{k:Int}{bd:FB}{it:FI}
def We(e:FE)(ρ:Env)(Q:Val->Env->Prop):Prop:=∃v ρ',e ρ=some (v,ρ')/\Q v ρ'
def Wt(t:FT)(ρ:Env)(Q:Bool->Env->Prop):Prop:=∃v ρ',t ρ=some (v,ρ')/\Q v ρ'
def Was(as:List FE)(ρ:Env)(Q:List Val->Env->Prop):Prop:=∃v ρ',eAs as ρ=some (v,ρ')/\Q v ρ'
def Wi(it:FI)(ρ:Env)(Q:List Dat->Env->Prop):Prop:=∃v ρ',it ρ=some (v,ρ')/\Q v ρ'
def KO(N:Env->Prop)(R:RV->Env->Prop)(B C:Env->Prop):Out->Prop
 |.nx ρ=>N ρ
 |.ret r ρ=>R r ρ
 |.bk ρ=>B ρ
 |.ct ρ=>C ρ
def Ws(s:FS)(ρ:Env)(N:Env->Prop)(R:RV->Env->Prop)(B C:Env->Prop):Prop:=∃o,s ρ=some o/\KO N R B C o
def Wr(o:Option RV)(P:RV->Prop):Prop:=∃r,o=some r/\P r
def Wif(c:Bool)(X Y:Prop):Prop:=(c=true->X)/\(c=false->Y)
def Wg1(g:Dat->Option RV)(o:Option Dat)(K:RV->Prop):Prop:=∃d v,o=some d/\g d=some v/\K v
def Wg2(g:Dat->Dat->Option RV)(o p:Option Dat)(K:RV->Prop):Prop:=∃d e v,o=some d/\p=some e/\g d e=some v/\K v
def WB(g:List Dat->Option RV)(o:Option (List Dat))(K:RV->Prop):Prop:=∃ds v,o=some ds/\g ds=some v/\K v
def WT(o:Option (List Dat×Env))(K:List Dat->Env->Prop):Prop:=∃ds ρ,o=some (ds,ρ)/\ds.length<=SZ/\K ds ρ
def WF(f:List Dat->Option RV)(ρ:Env)(xs:List Val)(Q:Val->Env->Prop):Prop:=∃ds v,pks ρ xs=some ds/\f ds=some v/\(if dO v.dat then ∃ds' ρ2,tks ρ xs=some (ds',ρ2)/\Q v.aY ρ2 else Q v.aY ρ)
def Wk(ρ:Env)(x:Val)(K:Dat->Env->Prop):Prop:=∃d ρ',tk ρ x=some (d,ρ')/\K d ρ'
def Wp(o:Option FE)(ρ:Env)(K:Option Int->Env->Prop):Prop:=∃i ρ',part o ρ=some (i,ρ')/\K i ρ'
theorem PY(x:X):Wif true X Y:=⟨fun _=>x,fun h=>by cases h⟩
theorem PV(y:Y):Wif false X Y:=⟨fun h=>(by cases h),fun _=>y⟩
theorem Qm(h:c=true)(x:X):Wif c X Y:=⟨fun _=>x,fun h'=>by rw[h]at h';cases h'⟩
theorem PF(h:c=false)(y:Y):Wif c X Y:=⟨fun h'=>(by rw[h]at h';cases h'),fun _=>y⟩
theorem P5{p:Prop}[Decidable p](x:p->X)(y:¬p->Y):Wif (decide p) X Y:=⟨fun h=>x (of_decide_eq_true h),fun h=>y (of_decide_eq_false h)⟩
theorem M_{i:Nat}(h:ρ[i]?=some (.sh d))(q:Q (.val d) ρ):We (eV i) ρ Q:=⟨_,_,by unfold eV;rw[h],q⟩
theorem Pw{i:Nat}(h:ρ[i]?=some (.ow d))(q:Q (.slot i) ρ):We (eV i) ρ Q:=⟨_,_,by unfold eV;rw[h],q⟩
theorem O9(q:Q (.val d) ρ):We (eC d) ρ Q:=⟨_,_,rfl,q⟩
theorem P1(h:We a ρ fun x ρ1=>Wg1 g (pk ρ1 x) fun v=>Q v.aY ρ1):We (e1 g a) ρ Q:=by obtain⟨x,ρ1,h1,d,v,h2,h3,q⟩:=h;exact⟨_,_,by unfold Dm.e1;rw[h1];dsimp only;rw[h2];dsimp only;rw[h3],q⟩
theorem N_{g:Dat->Dat->Option RV}{a b:FE}(h:We a ρ fun x ρ1=>We b ρ1 fun y ρ2=>Wg2 g (pk ρ2 x) (pk ρ2 y) fun v=>Q v.aY ρ2):We (e2 g a b) ρ Q:=by obtain⟨x,ρ1,h1,y,ρ2,h2,d,e,v,h3,h4,h5,q⟩:=h;exact⟨_,_,by unfold Dm.e2;rw[h1];dsimp only;rw[h2];dsimp only;rw[h3];dsimp only;rw[h4];dsimp only;rw[h5],q⟩
theorem O8{Q:List Val->Env->Prop}(q:Q [] ρ):Was [] ρ Q:=⟨_,_,rfl,q⟩
theorem m_{r:List FE}{Q:List Val->Env->Prop}(h:We a ρ fun x ρ1=>Was r ρ1 fun xs ρ2=>Q (x::xs) ρ2):Was (a::r) ρ Q:=by obtain⟨x,ρ1,h1,xs,ρ2,h2,q⟩:=h;exact⟨_,_,by unfold eAs;rw[h1];dsimp only;rw[h2],q⟩
theorem PB{g:List Dat->Option RV}(h:Was as ρ fun xs ρ1=>WB g (pks ρ1 xs) fun v=>Q v.aY ρ1):We (eB g as) ρ Q:=by obtain⟨x,ρ1,h1,d,v,h2,h3,q⟩:=h;exact⟨_,_,by unfold eB;rw[h1];dsimp only;rw[h2];dsimp only;rw[h3],q⟩
theorem PR(h:Was as ρ fun xs ρ1=>WT (tks ρ1 xs) fun ds ρ2=>Q (.val (.tup ds)) ρ2):We (cA as) ρ Q:=by obtain⟨x,ρ1,h1,ds,ρ2,h2,h3,q⟩:=h;exact⟨_,_,by unfold cA;rw[h1];dsimp only;rw[h2];dsimp only;rw[if_pos h3],q⟩
theorem PZ(h:Was as ρ fun xs ρ1=>WT (tks ρ1 xs) fun ds ρ2=>Q (.new (.lst ds)) ρ2):We (dU as) ρ Q:=by obtain⟨x,ρ1,h1,ds,ρ2,h2,h3,q⟩:=h;exact⟨_,_,by unfold dU;rw[h1];dsimp only;rw[h2];dsimp only;rw[if_pos h3],q⟩
theorem Pn{K:List Dat->Env->Prop}(k:K ds ρ3)(h:tks ρ xs=some (ds,ρ2))(hn:ρ2=ρ3)(hl:ds.length<=SZ):WT (tks ρ xs) K:=⟨_,_,hn▸h,hl,k⟩
theorem Pe(h:Was as ρ fun xs ρ1=>WF f ρ1 xs Q):We (eF f as) ρ Q:=by
 obtain⟨x,ρ1,h1,ds,v,h2,h3,h4⟩:=h;by_cases hb:dO v.dat=true
 ·rw[if_pos hb]at h4;obtain⟨ds',ρ2,h5,q⟩:=h4;exact⟨_,_,by unfold eF;rw[h1];dsimp only;rw[h2];dsimp only;rw[h3];dsimp only;rw[if_pos hb,h5],q⟩
 ·rw[if_neg hb]at h4;exact⟨_,_,by unfold eF;rw[h1];dsimp only;rw[h2];dsimp only;rw[h3];dsimp only;rw[if_neg hb],h4⟩
theorem Px{ρ ρ2 ρ3:Env}{ds ds':List Dat}(h2:f ds=some v)(q:Q v.aY ρ3)(h1:pks ρ xs=some ds)(h3:dO v.dat=true)(h4:tks ρ xs=some (ds',ρ2))(hn:ρ2=ρ3):WF f ρ xs Q:=
 ⟨_,_,h1,h2,by rw[if_pos h3];exact⟨_,_,h4,hn▸q⟩⟩
theorem Pf(h2:f ds=some v)(q:Q v.aY ρ)(h1:pks ρ xs=some ds)(h3:dO v.dat=false):WF f ρ xs Q:=
 ⟨_,_,h1,h2,by rw[if_neg (by rw[h3];decide)];exact q⟩
theorem Q9{a b:FE}(h:Wt t ρ fun c ρ1=>Wif c (We a ρ1 Q) (We b ρ1 Q)):We (eIf t a b) ρ Q:=by
 obtain⟨c,ρ1,h1,h2,h3⟩:=h;cases c with
 |true=>obtain⟨v,ρ2,h4,q⟩:=h2 rfl;exact⟨_,_,by unfold eIf;rw[h1];exact h4,q⟩
 |false=>obtain⟨v,ρ2,h4,q⟩:=h3 rfl;exact⟨_,_,by unfold eIf;rw[h1];exact h4,q⟩
def Wb(v:Val)(K:Bool->Prop):Prop:=∃c,v=.val (.bl c)/\K c
theorem Pb{K:Bool->Prop}(k:K c):Wb (.val (.bl c)) K:=⟨c,rfl,k⟩
theorem P9{a b:FE}(h:We a ρ fun v ρ1=>Wb v fun c=>Wif c (We b ρ1 Q) (Q (.val (.bl false)) ρ1)):We (gW a b) ρ Q:=by
 obtain⟨v,ρ1,h1,c,rfl,h2,h3⟩:=h;cases c with
 |true=>obtain⟨v,ρ2,h4,q⟩:=h2 rfl;exact⟨_,_,by unfold gW;rw[h1];exact h4,q⟩
 |false=>exact⟨_,_,by unfold gW;rw[h1],h3 rfl⟩
theorem Q0(h:We a ρ fun v ρ1=>Wb v fun c=>Q (.val (.bl (!c))) ρ1):We (vL a) ρ Q:=by obtain⟨v,ρ1,h1,c,rfl,h2⟩:=h;exact⟨_,_,by unfold vL;rw[h1],h2⟩
theorem Pg{Q:Bool->Env->Prop}(h:We a ρ fun v ρ1=>Wb v fun c=>Q c ρ1):Wt (tV a) ρ Q:=by obtain⟨v,ρ1,h1,c,rfl,h2⟩:=h;exact⟨_,_,by unfold tV;rw[h1],h2⟩
theorem PK{Q:Bool->Env->Prop}(h:Wt t ρ fun c ρ1=>Q (!c) ρ1):Wt (cR t) ρ Q:=by obtain⟨v,ρ1,h1,h2⟩:=h;exact⟨_,_,by unfold cR;rw[h1],h2⟩
theorem QH{t u:FT}{Q:Bool->Env->Prop}(h:Wt t ρ fun c ρ1=>Wif c (Wt u ρ1 Q) (Q false ρ1)):Wt (jD t u) ρ Q:=by
 obtain⟨c,ρ1,h1,h2,h3⟩:=h;cases c with
 |true=>obtain⟨v,ρ2,h4,q⟩:=h2 rfl;exact⟨_,_,by unfold jD;rw[h1];exact h4,q⟩
 |false=>exact⟨_,_,by unfold jD;rw[h1],h3 rfl⟩
theorem Qd{t u:FT}{Q:Bool->Env->Prop}(h:Wt t ρ fun c ρ1=>Wif c (Q true ρ1) (Wt u ρ1 Q)):Wt (tOr t u) ρ Q:=by
 obtain⟨c,ρ1,h1,h2,h3⟩:=h;cases c with
 |false=>obtain⟨v,ρ2,h4,q⟩:=h3 rfl;exact⟨_,_,by unfold tOr;rw[h1];exact h4,q⟩
 |true=>exact⟨_,_,by unfold tOr;rw[h1],h2 rfl⟩
theorem Ry{Q:Bool->Env->Prop}(h:We a ρ fun x ρ1=>∃d c,pk ρ1 x=some d/\truth d=some c/\Q c ρ1):Wt (tTr a) ρ Q:=by obtain⟨x,ρ1,h1,d,c,h2,h3,q⟩:=h;exact⟨_,_,by unfold tTr;rw[h1];dsimp only;rw[h2];dsimp only;rw[h3],q⟩
theorem QO{Q:Bool->Env->Prop}(q:Q true ρ):Wt cN ρ Q:=⟨_,_,rfl,q⟩
theorem Po{K:Dat->Env->Prop}(k:K d ρ):Wk ρ (.val d) K:=⟨_,_,rfl,k⟩
theorem P4{K:Dat->Env->Prop}(k:K d ρ):Wk ρ (.new d) K:=⟨_,_,rfl,k⟩
theorem QL{ρ ρ':Env}{i:Nat}{K:Dat->Env->Prop}(k:K d ρ')(h:ρ[i]?=some (.ow d))(hs:ρ.set i (.sh d)=ρ'):Wk ρ (.slot i) K:=⟨_,_,by unfold tk;dsimp only;rw[h];dsimp only;rw[hs],k⟩
noncomputable def ze:Dat->Option (List Dat)
 |.lst ds=>some ds
 |.tup ds=>some ds
 |_=>none
theorem Qj{Q:List Dat->Env->Prop}(h:We a ρ fun x ρ1=>Wk ρ1 x fun d ρ2=>∃ds,ze d=some ds/\Q ds ρ2):Wi (iS a) ρ Q:=by
 obtain⟨x,ρ1,h1,d,ρ2,h2,ds,hd,q⟩:=h;cases d with
 |lst xs=>cases hd;exact⟨_,_,by unfold iS;rw[h1];dsimp only;rw[h2],q⟩
 |tup xs=>cases hd;exact⟨_,_,by unfold iS;rw[h1];dsimp only;rw[h2],q⟩
 |_=>cases hd
def bS(v:Val)(K:Int->Prop):Prop:=∃i,v=.val (.int i)/\K i
theorem bS.mk{i:Int}{K:Int->Prop}(k:K i):bS (.val (.int i)) K:=⟨i,rfl,k⟩
theorem Qc{Q:List Dat->Env->Prop}(h:We a ρ fun v ρ1=>bS v fun j=>Q (ups 0 j.toNat) ρ1/\j<=BIG/\-BIG<=j):Wi (iR1 a) ρ Q:=by obtain⟨v,ρ1,h1,j,rfl,q,h2⟩:=h;exact⟨_,_,by unfold iR1;rw[h1];dsimp only;rw[if_pos h2],q⟩
theorem QN{a b:FE}{Q:List Dat->Env->Prop}(h:We a ρ fun v ρ1=>bS v fun i=>We b ρ1 fun w ρ2=>bS w fun j=>Q (ups i (j-i).toNat) ρ2/\j<=BIG/\-BIG<=j/\i<=BIG/\-BIG<=i):Wi (iR2 a b) ρ Q:=by obtain⟨v,ρ1,h1,i,rfl,w,ρ2,h2,j,rfl,q,h3⟩:=h;exact⟨_,_,by unfold iR2;rw[h1];dsimp only;rw[h2];dsimp only;rw[if_pos h3],q⟩
theorem Rh{Q:List Dat->Env->Prop}(h:We a ρ fun x ρ1=>Wk ρ1 x fun d ρ2=>∃ds,d=.lst ds/\Q ds.reverse ρ2):Wi (vV a) ρ Q:=by obtain⟨x,ρ1,h1,d,ρ2,h2,ds,rfl,q⟩:=h;exact⟨_,_,by unfold vV;rw[h1];dsimp only;rw[h2],q⟩
theorem Rn{Q:List Dat->Env->Prop}(h:We a ρ fun x ρ1=>Wk ρ1 x fun d ρ2=>∃ds,d=.lst ds/\Q (ic 0 ds) ρ2):Wi (iEn a) ρ Q:=by obtain⟨x,ρ1,h1,d,ρ2,h2,ds,rfl,q⟩:=h;exact⟨_,_,by unfold iEn;rw[h1];dsimp only;rw[h2],q⟩
theorem Wp.none{K:Option Int->Env->Prop}(k:K none ρ):Wp none ρ K:=⟨_,_,rfl,k⟩
theorem Wp.some{f:FE}{K:Option Int->Env->Prop}(h:We f ρ fun v ρ1=>bS v fun i=>K (some i) ρ1):Wp (some f) ρ K:=by obtain⟨v,ρ1,h1,i,rfl,k⟩:=h;exact⟨_,_,by unfold part;dsimp only;rw[h1],k⟩
def Wsl(o:Option Dat)(l h:Option Int)(K:Dat->Prop):Prop:=∃xs,o=some (.lst xs)/\K (.lst (cut xs l h))
noncomputable def v8{α:Type}(xs:List α)(lo hi:Option Int):List α:=(xs.drop (sIx xs.length 0 lo)).take (sIx xs.length xs.length hi-sIx xs.length 0 lo)
theorem JL(zf:α->Dat)(xs:List α)(lo hi:Option Int):cut (xs.map zf) lo hi=(v8 xs lo hi).map zf:=by unfold cut v8;rw[Dp,<- List.map_drop,<- List.map_take]
theorem Wsl.A{zf:α->Dat}{xs:List α}{o:Option Dat}{l h:Option Int}{K:Dat->Prop}(k:K (.lst ((v8 xs l h).map zf)))(ho:o=some (.lst (xs.map zf))):Wsl o l h K:=⟨_,ho,by rw[JL];exact k⟩
theorem QV{lo hi:Option FE}(h:We a ρ fun x ρ1=>Wp lo ρ1 fun l ρ2=>Wp hi ρ2 fun h ρ3=>Wsl (pk ρ3 x) l h fun d=>Q (.new d) ρ3):We (eSl a lo hi) ρ Q:=by obtain⟨x,ρ1,h1,l,ρ2,h2,hh,ρ3,h3,xs,h4,q⟩:=h;exact⟨_,_,by unfold eSl;rw[h1];dsimp only;rw[h2];dsimp only;rw[h3];dsimp only;rw[h4],q⟩
theorem Pq(n:N ρ):Ws sNx ρ N R B C:=⟨_,rfl,n⟩
theorem O_(h:Ws s ρ (fun ρ1=>Ws u ρ1 N R B C) R B C):Ws (aC s u) ρ N R B C:=by
 obtain⟨o,h1,h2⟩:=h;cases o with
 |nx ρ1=>obtain⟨o,h3,h4⟩:=h2;exact⟨o,by unfold aC;rw[h1];exact h3,h4⟩
 |ret r ρ1=>exact⟨.ret r ρ1,by unfold aC;rw[h1],h2⟩
 |bk ρ1=>exact⟨.bk ρ1,by unfold aC;rw[h1],h2⟩
 |ct ρ1=>exact⟨.ct ρ1,by unfold aC;rw[h1],h2⟩
def WA(i:Nat)(v:Val)(ρ:Env)(N:Env->Prop):Prop:=match v with
 |.new d=>N (ρ.set i (.ow d))
 |x=>Wk ρ x fun d ρ2=>N (ρ2.set i (.sh d))
theorem Pd{i:Nat}(h:We e ρ fun v ρ1=>WA i v ρ1 N)(hi:i≠0):Ws (sA i e) ρ N R B C:=by
 obtain⟨v,ρ1,h1,h2⟩:=h;cases v with
 |new d=>exact⟨.nx _,by unfold sA;rw[if_neg hi,h1],h2⟩
 |val d=>obtain⟨d',ρ2,h3,h4⟩:=h2;exact⟨.nx _,by unfold sA;rw[if_neg hi,h1];dsimp only;rw[h3],h4⟩
 |slot j=>obtain⟨d',ρ2,h3,h4⟩:=h2;exact⟨.nx _,by unfold sA;rw[if_neg hi,h1];dsimp only;rw[h3],h4⟩
theorem Py{i:Nat}{ρ ρ2:Env}(n:N ρ2)(hs:ρ.set i (.ow d)=ρ2):WA i (.new d) ρ N:=by unfold WA;dsimp only;rw[hs];exact n
theorem Pc{i:Nat}{ρ ρ2:Env}(n:N ρ2)(hs:ρ.set i (.sh d)=ρ2):WA i (.val d) ρ N:=⟨_,_,rfl,by show N _;rw[hs];exact n⟩
theorem Qi(h:We e ρ fun _ ρ1=>N ρ1):Ws (sE e) ρ N R B C:=by obtain⟨x,ρ1,h1,n⟩:=h;exact⟨.nx _,by unfold sE;rw[h1],n⟩
def WR(v:Val)(ρ:Env)(R:RV->Env->Prop):Prop:=match v with
 |.new d=>R (.new d) ρ
 |.val d=>R (.val d) ρ
 |.slot i=>(∃d,ρ[i]?=some (.ow d)/\R (.new d) (ρ.set i .un))
theorem Pj(h:We e ρ fun v ρ1=>WR v ρ1 R):Ws (sR e) ρ N R B C:=by
 obtain⟨v,ρ1,h1,h2⟩:=h;cases v with
 |new d=>exact⟨.ret _ _,by unfold sR;rw[h1],h2⟩
 |val d=>exact⟨.ret _ _,by unfold sR;rw[h1],h2⟩
 |slot i=>obtain⟨d,h3,h4⟩:=h2;exact⟨.ret _ _,by unfold sR;rw[h1];dsimp only;rw[h3],h4⟩
theorem QE(r:R (.new d) ρ):WR (.new d) ρ R:=r
theorem PN(r:R (.val d) ρ):WR (.val d) ρ R:=r
theorem Qf{i:Nat}(r:R (.new d) (ρ.set i .un))(h:ρ[i]?=some (.ow d)):WR (.slot i) ρ R:=⟨d,h,r⟩
theorem Pk{a b:FS}(h:Wt t ρ fun c ρ1=>Wif c (Ws a ρ1 N R B C) (Ws b ρ1 N R B C)):Ws (sIf t a b) ρ N R B C:=by
 obtain⟨c,ρ1,h1,h2,h3⟩:=h;cases c with
 |true=>obtain⟨o,h4,q⟩:=h2 rfl;exact⟨_,by unfold sIf;rw[h1];exact h4,q⟩
 |false=>obtain⟨o,h4,q⟩:=h3 rfl;exact⟨_,by unfold sIf;rw[h1];exact h4,q⟩
theorem Qk{i:Nat}{ds0:List Dat}(h:We e ρ fun x ρ1=>Wk ρ1 x fun d ρ2=>∃ds ρ3,ρ2[i]?=some (.ow (.lst ds))/\ρ2.set i (.ow (.lst (ds++[d])))=ρ3/\N ρ3/\ds.length<SZ)(h0:ρ[i]?=some (.ow (.lst ds0))):Ws (nI i e) ρ N R B C:=by obtain⟨x,ρ1,h1,d,ρ2,h2,ds,ρ3,h3,h5,n,h4⟩:=h;exact⟨.nx _,by unfold nI;rw[h0];dsimp only;rw[h1];dsimp only;rw[h2];dsimp only;rw[h3];dsimp only;rw[if_pos h4,h5],n⟩
theorem kc{i:Nat}(n:N ρ3)(h:ρ2[i]?=some (.ow (.lst ds)))(hs:ρ2.set i (.ow (.lst (ds++[d])))=ρ3)(hl:ds.length<SZ):∃ds ρ3,ρ2[i]?=some (.ow (.lst ds))/\ρ2.set i (.ow (.lst (ds++[d])))=ρ3/\N ρ3/\ds.length<SZ:=⟨_,_,h,hs,n,hl⟩
theorem QY{i:Nat}{j e:FE}(h:We e ρ fun x ρ1=>Wk ρ1 x fun d ρ2=>(∃d0,ρ2[i]?=some (.ow d0))/\We j ρ2 fun y ρ3=>bS y fun k=>∃ds m ρ4,ρ3[i]?=some (.ow (.lst ds))/\ixN ds.length k=some m/\ρ3.set i (.ow (.lst (ds.set m d)))=ρ4/\N ρ4):Ws (rJ i j e) ρ N R B C:=by obtain⟨x,ρ1,h1,d,ρ2,h2,⟨d0,h0⟩,y,ρ3,h3,k,rfl,ds,m,ρ4,h4,h5,h6,n⟩:=h;exact⟨.nx _,by unfold rJ;rw[h1];dsimp only;rw[h2];dsimp only;rw[h0];dsimp only;rw[h3];dsimp only;rw[h4];dsimp only;rw[h5];dsimp only;rw[h6],n⟩
theorem QT{i:Nat}{j e:FE}(h:We e ρ fun x ρ1=>Wk ρ1 x fun d ρ2=>(∃d0,ρ2[i]?=some (.ow d0))/\We j ρ2 fun y ρ3=>bS y fun k=>∃ks vs ρ4,ρ3[i]?=some (.ow (.dct ks vs))/\ρ3.set i (.ow (.dct (i9 ks k) (i_ ks vs k d)))=ρ4/\N ρ4/\ks.length<SZ):Ws (jY i j e) ρ N R B C:=by obtain⟨x,ρ1,h1,d,ρ2,h2,⟨d0,h0⟩,y,ρ3,h3,k,rfl,ks,vs,ρ4,h4,h5,n,h6⟩:=h;exact⟨.nx _,by unfold jY;rw[h1];dsimp only;rw[h2];dsimp only;rw[h0];dsimp only;rw[h3];dsimp only;rw[h4];dsimp only;rw[if_pos h6,h5],n⟩
theorem nX{i:Nat}{ρ3 ρ4:Env}(n:N ρ4)(h:ρ3[i]?=some (.ow (.dct ks vs)))(hs:ρ3.set i (.ow (.dct (i9 ks k) (i_ ks vs k d)))=ρ4)(hl:ks.length<SZ):∃ks vs ρ4,ρ3[i]?=some (.ow (.dct ks vs))/\ρ3.set i (.ow (.dct (i9 ks k) (i_ ks vs k d)))=ρ4/\N ρ4/\ks.length<SZ:=⟨_,_,_,h,hs,n,hl⟩
theorem Pz(h:Wi it ρ fun ds ρ1=>Ws (iF bd body ds) ρ1 N R B C):Ws (cS it bd body) ρ N R B C:=by obtain⟨ds,ρ1,h1,o,h2,h3⟩:=h;exact⟨o,by unfold cS;rw[h1];exact h2,h3⟩
theorem PD(zf:α->Dat)(bd:FB)(body:FS)(xs:List α)(ρ:Env)(N:Env->Prop)(R:RV->Env->Prop)(B C:Env->Prop)(I:List α->List α->Env->Prop)
  (h0:I [] xs ρ) (hs:∀p x q ρ,xs=p++x::q->I p (x::q) ρ->∃ρ1,bd (zf x) ρ=some ρ1/\Ws body ρ1 (fun ρ2=>I (p++[x]) q ρ2) R N (fun ρ2=>I (p++[x]) q ρ2)) (he:∀ρ,I xs [] ρ->N ρ):Ws (iF bd body (xs.map zf)) ρ N R B C:=by
 have go:∀(q p:List α) (ρ:Env),xs=p++q->I p q ρ->Ws (iF bd body (q.map zf)) ρ N R B C:=fun q=>by
  induction q with
  |nil=>intro p ρ e i;rw[Nb]at e;exact⟨.nx _,rfl,he ρ (e▸i)⟩
  |cons x q ih=>
   intro p ρ e i;obtain⟨ρ1,h1,o,h2,h3⟩:=hs p x q ρ e i;have e':xs=(p++[x])++q:=by rw[OE];exact e
   cases o with
   |nx ρ2=>obtain⟨o,h4,h5⟩:=ih _ _ e' h3;exact⟨o,by rw[eg,iF,h1];dsimp only;rw[h2];exact h4,h5⟩
   |ct ρ2=>obtain⟨o,h4,h5⟩:=ih _ _ e' h3;exact⟨o,by rw[eg,iF,h1];dsimp only;rw[h2];exact h4,h5⟩
   |bk ρ2=>exact⟨.nx _,by rw[eg,iF,h1];dsimp only;rw[h2],h3⟩
   |ret r ρ2=>exact⟨.ret _ _,by rw[eg,iF,h1];dsimp only;rw[h2],h3⟩
 exact go xs [] ρ rfl h0
theorem Ph{P:RV->Prop}(b:Ws body ρ (fun _=>P (.val .non)) (fun r _=>P r) (fun _=>False) (fun _=>False))(hρ:ds.map Cell.sh++Dk m .un=ρ)(h:ds.length=n):Wr (fn n m body ds) P:=by
 obtain⟨o,h1,h2⟩:=b;cases o with
 |nx ρ1=>exact⟨_,by unfold Dm.fn;rw[if_pos h,hρ,h1],h2⟩
 |ret r ρ1=>exact⟨_,by unfold Dm.fn;rw[if_pos h,hρ,h1],h2⟩
 |bk ρ1=>exact h2.elim
 |ct ρ1=>exact h2.elim
theorem Pu{o:Option RV}{r:RV}(h:Wr o fun x=>x=r):o=some r:=by obtain⟨x,h1,rfl⟩:=h;exact h1
theorem ux(zf:α->Dat)(p:α->Bool)(v:α->Dat)(bd:FB)(t:FT)(el:FE)(mk:Cell->Env)(hb:∀d c,bd d (mk c)=some (mk (.sh d))):∀(xs:List α) (c:Cell) (DK:List Dat),
  (∀x∈xs,t (mk (.sh (zf x)))=some (p x,mk (.sh (zf x))))->(∀x∈xs,p x=true->We el (mk (.sh (zf x))) fun w ρ'=>Wk ρ' w fun d ρ''=>d=v x/\ρ''=mk (.sh (zf x))) ->
  ∃c',cF bd t el (xs.map zf) (mk c) DK=some (DK++(xs.filter p).map v,mk c')
 |[],c,DK,_,_=>⟨c,by simp[cF]⟩
 |x::xs,c,DK,ht,he=>by
  rw[eg,cF,hb];dsimp only;rw[ht x Mg];have ht':=fun y hy=>ht y (Mh _ hy);have he':=fun y hy=>he y (Mh _ hy);by_cases h:p x=true
  ·obtain⟨w,ρ',h1,d,ρ'',h2,rfl,rfl⟩:=he x Mg h;rw[h];dsimp only;rw[h1];dsimp only;rw[h2];obtain⟨c',e⟩:=ux zf p v bd t el mk hb xs (.sh (zf x)) (DK++[v x]) ht' he';exact⟨c',by dsimp only;rw[e,M3 h];simp⟩
  ·rw[Bool.not_eq_true]at h;rw[h];obtain⟨c',e⟩:=ux zf p v bd t el mk hb xs (.sh (zf x)) DK ht' he';exact⟨c',by dsimp only;rw[e,M0 (by rw[h];decide)]⟩
theorem QF(h:Wt t ρ fun c' ρ'=>c'=c/\ρ'=ρ):t ρ=some (c,ρ):=by obtain⟨_,_,h1,rfl,rfl⟩:=h;exact h1
theorem QK(zf:α->Dat)(xs:List α)(p:α->Bool)(v:α->Dat){it:FI}{k:Nat}{t:FT}{el:FE}{ρ ρ1:Env}{Q:Val->Env->Prop}
  (q:Q (.new (.lst ((xs.filter p).map v))) ρ1) (Fd:it ρ=some (xs.map zf,ρ1)) (hk:ρ1.length=k) (hk0:k≠0) (hl:xs.length<=SZ)
  (ht:∀x∈xs,Wt t (ρ1++[.sh (zf x)]) fun c ρ'=>c=p x/\ρ'=ρ1++[.sh (zf x)])
  (he:∀x∈xs,p x=true->We el (ρ1++[.sh (zf x)]) fun w ρ'=>Wk ρ' w fun d ρ''=>d=v x/\ρ''=ρ1++[.sh (zf x)]):We (bX it 1 (bN k) t el) ρ Q:=by
 have bd:∀(d:Dat) (c:Cell),bN k d (ρ1++[c])=some (ρ1++[.sh d]):=fun d c=>by unfold bN;rw[if_neg hk0,ND _ _ (by lia)];simp[hk]
 obtain⟨c',e⟩:=ux zf p v (bN k) t el (fun c=>ρ1++[c]) bd xs .un [] (fun x hx=>QF (ht x hx)) he;refine⟨_,_,?_,q⟩;unfold bX;rw[Fd];dsimp only;rw[if_pos (by rw[Dp];exact hl)];show (match cF _ _ _ _ (ρ1++[.un]) [] with | none=>none | some (ys,ρ2)=>some (Val.new (.lst ys),ρ2.take ρ1.length))=_;rw[e];dsimp only;rw[NX,Ou]
theorem Q_(zf:α->Dat)(xs:List α)(p:α->Bool)(v:α->Dat){i:Nat}{k:Nat}{t:FT}{el:FE}{ρ:Env}{Q:Val->Env->Prop}{d:Dat}
  (q:Q (.new (.lst ((xs.filter p).map v))) ρ) (hi:ρ[i]?=some (.sh d)) (hd:ze d=some (xs.map zf)) (hk:ρ.length=k) (hk0:k≠0) (hl:xs.length<=SZ)
  (ht:∀x∈xs,Wt t (ρ++[.sh (zf x)]) fun c ρ'=>c=p x/\ρ'=ρ++[.sh (zf x)])
  (he:∀x∈xs,p x=true->We el (ρ++[.sh (zf x)]) fun w ρ'=>Wk ρ' w fun d ρ''=>d=v x/\ρ''=ρ++[.sh (zf x)]):We (aS i 1 (bN k) t el) ρ Q:=by
 have Fd:iS (eV i) ρ=some (xs.map zf,ρ):=by
  unfold iS eV;rw[hi];cases d with
  |lst ys=>cases hd;rfl
  |tup ys=>cases hd;rfl
  |_=>cases hd
 obtain⟨a,ρ',h1,h2⟩:=QK zf xs p v (Q:=Q) q Fd hk hk0 hl ht he;refine⟨a,ρ',?_,h2⟩;unfold aS;rw[hi];exact h1
theorem Rv(zf:α->Dat)(xs:List α)(p:α->Bool)(v:α->Dat){i:Nat}{k:Nat}{t:FT}{el:FE}{ρ ρ1:Env}{Q:Val->Env->Prop}
  (q:Q (.new (.lst ((xs.filter p).map v))) ρ) (hi:ρ[i]?=some (.ow (.lst (xs.map zf)))) (h1:ρ.set i .un=ρ1) (hk:ρ.length=k) (hk0:k≠0) (hl:xs.length<=SZ)
  (ht:∀x∈xs,Wt t (ρ1++[.sh (zf x)]) fun c ρ'=>c=p x/\ρ'=ρ1++[.sh (zf x)])
  (he:∀x∈xs,p x=true->We el (ρ1++[.sh (zf x)]) fun w ρ'=>Wk ρ' w fun d ρ''=>d=v x/\ρ''=ρ1++[.sh (zf x)]):We (aS i 1 (bN k) t el) ρ Q:=by
 have Cv:ρ1.length=ρ.length:=by rw[<- h1,MK]
 have hil:i<ρ.length:=(Me.mp hi).1;have bd:∀(d:Dat) (c:Cell),bN k d (ρ1++[c])=some (ρ1++[.sh d]):=fun d c=>by unfold bN;rw[if_neg hk0,ND _ _ (by lia)];simp[hk,Cv]
 obtain⟨c',e⟩:=ux zf p v (bN k) t el (fun c=>ρ1++[c]) bd xs .un [] (fun x hx=>QF (ht x hx)) he;refine⟨_,_,?_,q⟩;unfold aS;rw[hi];dsimp only;rw[if_pos (by rw[Dp];exact hl),h1];show (match cF _ _ _ _ (ρ1++[.un]) [] with | none=>none | some (ys,ρ2)=>some (Val.new (.lst ys),(ρ2.take ρ.length).set i (.ow (.lst (xs.map zf)))))=_;rw[e];dsimp only;rw[NX,<- Cv,Ou,<- h1,OZ]
 congr 2
 apply NN;intro j;by_cases h:i=j
 ·subst h;rw[My hil,hi]
 ·rw[gV h]
theorem QJ{α β:Type}(zf:α->Dat)(xs:List α)(f:α->β)(dI:β->Dat){it:FI}{k:Nat}{el:FE}{ρ ρ1:Env}{Q:Val->Env->Prop}
  (q:Q (.new (.lst ((xs.map f).map dI))) ρ1) (Fd:it ρ=some (xs.map zf,ρ1)) (hk:ρ1.length=k) (hk0:k≠0) (hl:xs.length<=SZ)
  (he:∀x∈xs,We el (ρ1++[.sh (zf x)]) fun w ρ'=>Wk ρ' w fun d ρ''=>d=dI (f x)/\ρ''=ρ1++[.sh (zf x)]):We (bX it 1 (bN k) cN el) ρ Q:=
 QK zf xs (fun _=>true) (fun x=>dI (f x)) (by rw[NJ.mpr (fun _ _=>rfl)];rw[M4]at q;exact q) Fd hk hk0 hl (fun _ _=>QO ⟨rfl,rfl⟩) fun x hx _=>he x hx
theorem Qs{α β:Type}(zf:α->Dat)(xs:List α)(f:α->β)(dI:β->Dat){i:Nat}{k:Nat}{el:FE}{ρ:Env}{Q:Val->Env->Prop}{d:Dat}
  (q:Q (.new (.lst ((xs.map f).map dI))) ρ) (hi:ρ[i]?=some (.sh d)) (hd:ze d=some (xs.map zf)) (hk:ρ.length=k) (hk0:k≠0) (hl:xs.length<=SZ)
  (he:∀x∈xs,We el (ρ++[.sh (zf x)]) fun w ρ'=>Wk ρ' w fun d ρ''=>d=dI (f x)/\ρ''=ρ++[.sh (zf x)]):We (aS i 1 (bN k) cN el) ρ Q:=
 Q_ zf xs (fun _=>true) (fun x=>dI (f x)) (by rw[NJ.mpr (fun _ _=>rfl)];rw[M4]at q;exact q) hi hd hk hk0 hl (fun _ _=>QO ⟨rfl,rfl⟩) fun x hx _=>he x hx
theorem Rp{α β:Type}(zf:α->Dat)(xs:List α)(f:α->β)(dI:β->Dat){i:Nat}{k:Nat}{el:FE}{ρ ρ1:Env}{Q:Val->Env->Prop}
  (q:Q (.new (.lst ((xs.map f).map dI))) ρ) (hi:ρ[i]?=some (.ow (.lst (xs.map zf)))) (h1:ρ.set i .un=ρ1) (hk:ρ.length=k) (hk0:k≠0) (hl:xs.length<=SZ)
  (he:∀x∈xs,We el (ρ1++[.sh (zf x)]) fun w ρ'=>Wk ρ' w fun d ρ''=>d=dI (f x)/\ρ''=ρ1++[.sh (zf x)]):We (aS i 1 (bN k) cN el) ρ Q:=
 Rv zf xs (fun _=>true) (fun x=>dI (f x)) (by rw[NJ.mpr (fun _ _=>rfl)];rw[M4]at q;exact q) hi h1 hk hk0 hl (fun _ _=>QO ⟨rfl,rfl⟩) fun x hx _=>he x hx
theorem QW{α β:Type}(zf:α->Dat)(xs:List α)(p:α->Bool)(f:α->β)(dI:β->Dat){i:Nat}{k:Nat}{t:FT}{el:FE}{ρ:Env}{Q:Val->Env->Prop}{d:Dat}
  (q:Q (.new (.lst (((xs.filter p).map f).map dI))) ρ) (hi:ρ[i]?=some (.sh d)) (hd:ze d=some (xs.map zf)) (hk:ρ.length=k) (hk0:k≠0) (hl:xs.length<=SZ)
  (ht:∀x∈xs,Wt t (ρ++[.sh (zf x)]) fun c ρ'=>c=p x/\ρ'=ρ++[.sh (zf x)])
  (he:∀x∈xs,p x=true->We el (ρ++[.sh (zf x)]) fun w ρ'=>Wk ρ' w fun d ρ''=>d=dI (f x)/\ρ''=ρ++[.sh (zf x)]):We (aS i 1 (bN k) t el) ρ Q:=
 Q_ zf xs p (fun x=>dI (f x)) (by rw[M4]at q;exact q) hi hd hk hk0 hl ht he
theorem uy(i j:Int):gEq (.int i) (.int j)=vB (decide (i=j)):=by
 have:(i == j)=decide (i=j):=by by_cases h:i=j<;>simp[h]
 show vB (i == j)=_;rw[this]
theorem nY(i j:Int):gNe (.int i) (.int j)=vB (!decide (i=j)):=by
 have:(i == j)=decide (i=j):=by by_cases h:i=j<;>simp[h]
 show vB (!(i == j))=_;rw[this]
theorem Qh(k:K (.val (.bl (decide (i=j)))))(ho:o=some (.int i))(hp:p=some (.int j)):Wg2 gEq o p K:=⟨_,_,_,ho,hp,uy i j,k⟩
theorem P8(k:K (.val (.bl (!decide (i=j)))))(ho:o=some (.int i))(hp:p=some (.int j)):Wg2 gNe o p K:=⟨_,_,_,ho,hp,nY i j,k⟩
theorem Qu{i j:Bool}(k:K (.val (.bl (!(i == j)))))(ho:o=some (.bl i))(hp:p=some (.bl j)):Wg2 gNe o p K:=⟨_,_,_,ho,hp,rfl,k⟩
theorem P7(k:K (.val (.bl (decide (i<j)))))(ho:o=some (.int i))(hp:p=some (.int j)):Wg2 gLt o p K:=⟨_,_,_,ho,hp,rfl,k⟩
theorem Q2(k:K (.val (.bl (decide (i<=j)))))(ho:o=some (.int i))(hp:p=some (.int j)):Wg2 gLe o p K:=⟨_,_,_,ho,hp,rfl,k⟩
theorem P_(k:K (.val (.bl (decide (j<i)))))(ho:o=some (.int i))(hp:p=some (.int j)):Wg2 gGt o p K:=⟨_,_,_,ho,hp,rfl,k⟩
theorem Qp(k:K (.val (.bl (decide (j<=i)))))(ho:o=some (.int i))(hp:p=some (.int j)):Wg2 gGe o p K:=⟨_,_,_,ho,hp,rfl,k⟩
theorem Pp(k:K (.val (.int (i+j))))(ho:o=some (.int i))(hp:p=some (.int j)):Wg2 bO o p K:=⟨_,_,_,ho,hp,rfl,k⟩
theorem QC{xs ys:List Dat}(k:K (.new (.lst (xs++ys))))(ho:o=some (.lst xs))(hp:p=some (.lst ys))(h:xs.length+ys.length<=SZ):Wg2 bO o p K:=⟨_,_,_,ho,hp,by unfold bO;dsimp only;rw[if_pos h],k⟩
theorem PX(k:K (.val (.int (i-j))))(ho:o=some (.int i))(hp:p=some (.int j)):Wg2 gS o p K:=⟨_,_,_,ho,hp,rfl,k⟩
theorem PL(k:K (.val (.int (i*j))))(ho:o=some (.int i))(hp:p=some (.int j))(h:(-B64<i/\i<B64)\/(-B64<j/\j<B64)):Wg2 fL o p K:=⟨_,_,_,ho,hp,by unfold fL;dsimp only;rw[if_pos h],k⟩
theorem Qn(k:K (.val (.int (i / j))))(ho:o=some (.int i))(hp:p=some (.int j))(h:0<j/\j<gX):Wg2 rL o p K:=⟨_,_,_,ho,hp,by unfold rL;dsimp only;rw[if_pos h],k⟩
theorem PM(k:K (.val (.int (i % j))))(ho:o=some (.int i))(hp:p=some (.int j))(h:0<j):Wg2 fM o p K:=⟨_,_,_,ho,hp,by unfold fM;dsimp only;rw[if_pos h],k⟩
theorem Qe{i j z:Int}(k:K (.val (.int z)))(ho:o=some (.int i))(hp:p=some (.int j))(h:0<=j/\j<=1000000/\i.natAbs<1000000)(hz:i ^ j.toNat=z):Wg2 fN o p K:=⟨_,_,_,ho,hp,by unfold fN;dsimp only;rw[if_pos h,hz],k⟩
theorem Pa{d e:Dat}{v:Dat}(k:K (.val v))(ho:o=some d)(hp:p=some e)(h:gIx d e=some (.val v)):Wg2 gIx o p K:=⟨_,_,_,ho,hp,h,k⟩
theorem jy(zf:α->Dat)(xs:List α)(i:Int)(h0:0<=i)(h1:i<xs.length):atI (xs.map zf) i=some (zf (xs[i.toNat]'(by omega))):=by unfold atI ixN;rw[Dp,if_pos h0,if_pos h1];show (xs.map zf)[i.toNat]?=_;rw[MA,Mp (by lia)];rfl
theorem QA{zf:α->Dat}{xs:List α}{i:Int}(h0:0<=i)(h1:i<xs.length)(k:K (.val (zf (xs[i.toNat]'(by lia)))))(ho:o=some (.lst (xs.map zf)))(hp:p=some (.int i)):Wg2 gIx o p K:=
 ⟨_,_,_,ho,hp,by unfold gIx;dsimp only;rw[jy zf xs i h0 h1];rfl,k⟩
theorem nZ(i:Int)(xs:List Int):inD (.int i) (xs.map Dat.int)=decide (i∈xs):=by
 induction xs with
 |nil=>rfl
 |cons x xs ih=>
  have ih':(xs.map Dat.int).any (fun y=>eqD y (.int i))=decide (i∈xs):=ih;unfold inD;rw[eg,Ng,ih'];show ((x == i)||_)=_;by_cases h:x=i
  ·simp[h]
  ·have h':¬i=x:=fun z=>h z.symm;simp[h,h']
theorem su(xs:List Int):(xs.map Dat.int).all (okD 7)=true:=by rw[Ny];intro d hd;obtain⟨x,_,rfl⟩:=MD.mp hd;rfl
theorem Rj{i:Int}{xs:List Int}(k:K (.val (.bl (!decide (i∈xs)))))(ho:o=some (.int i))(hp:p=some (.lst (xs.map Dat.int))):Wg2 cG o p K:=
 ⟨_,_,_,ho,hp,by unfold cG;dsimp only;rw[show okD 8 (.int i)=true from rfl,su,nZ];rfl,k⟩
theorem Ql{i:Int}{xs:List Int}(k:K (.val (.bl (decide (i∈xs)))))(ho:o=some (.int i))(hp:p=some (.tup (xs.map Dat.int))):Wg2 gIn o p K:=
 ⟨_,_,_,ho,hp,by unfold gIn;dsimp only;rw[show okD 8 (.int i)=true from rfl,su,nZ];rfl,k⟩
theorem Rk{i:Int}{xs:List Int}(k:K (.val (.bl (!decide (i∈xs)))))(ho:o=some (.int i))(hp:p=some (.tup (xs.map Dat.int))):Wg2 cG o p K:=
 ⟨_,_,_,ho,hp,by unfold cG;dsimp only;rw[show okD 8 (.int i)=true from rfl,su,nZ];rfl,k⟩
theorem Q5{i a b:Int}(k:K (.val (.bl (!decide (i=a\/i=b)))))(ho:o=some (.int i))(hp:p=some (.tup [.int a,.int b])):Wg2 cG o p K:=
 Rk (xs:=[a,b]) (by have:(i∈[a,b])=(i=a\/i=b):=(by simp);simp only[this];exact k) ho hp
theorem Qz{i:Int}(k:K (.val (.bl (bq ks vs i).isSome)))(ho:o=some (.int i))(hp:p=some (.dct ks vs)):Wg2 vX o p K:=⟨_,_,_,ho,hp,rfl,k⟩
theorem Q3{i:Int}(k:K (.val (.bl (!(bq ks vs i).isSome))))(ho:o=some (.int i))(hp:p=some (.dct ks vs)):Wg2 pP o p K:=⟨_,_,_,ho,hp,rfl,k⟩
theorem QI{i:Int}(h:bq ks vs i=some d)(k:K (.val d))(ho:o=some (.dct ks vs))(hp:p=some (.int i)):Wg2 gDx o p K:=⟨_,_,_,ho,hp,by unfold gDx;dsimp only;rw[h];rfl,k⟩
theorem Q4{xs:List Dat}{o:Option (List Dat)}(k:K (.val (.int xs.length)))(ho:o=some [.lst xs]):WB d9 o K:=⟨_,_,ho,rfl,k⟩
theorem QS{xs:List Dat}{o:Option (List Dat)}(k:K (.val (.int xs.length)))(ho:o=some [.tup xs]):WB d9 o K:=⟨_,_,ho,rfl,k⟩
theorem P6{o:Option (List Dat)}(k:K (.val (.int (if j<i then j else i))))(ho:o=some [.int i,.int j]):WB gY o K:=⟨_,_,ho,rfl,k⟩
theorem Qy{o:Option (List Dat)}(k:K (.val (.int (if j>i then j else i))))(ho:o=some [.int i,.int j]):WB mE o K:=⟨_,_,ho,rfl,k⟩
theorem QG{b:Bool}{o:Option (List Dat)}(k:K (.val (.int (b2i b))))(ho:o=some [.bl b]):WB vM o K:=⟨_,_,ho,rfl,k⟩
theorem Qa{o:Option Dat}(k:K v)(ho:o=some d)(h:g d=some v):Wg1 g o K:=⟨_,_,ho,h,k⟩
theorem cP{xs:List Dat}{Q:List Dat->Prop}(q:Q xs):∃ds,ze (.lst xs)=some ds/\Q ds:=⟨_,rfl,q⟩
theorem ndT{p:Prop}[Decidable p](h:(!decide p)=true):¬p:=by intro z;rw[decide_eq_true z]at h;cases h
theorem ndF{p:Prop}[Decidable p](h:(!decide p)=false):p:=NZ fun z=>by rw[decide_eq_false z]at h;cases h
theorem Qg{zf:α->Dat}{xs:List α}{o:Option (List Dat)}(k:K (.val (.int xs.length)))(ho:o=some [.lst (xs.map zf)]):WB d9 o K:=⟨_,_,ho,by unfold d9;dsimp only;rw[Dp],k⟩
theorem QX{zf:α->Dat}{xs:List α}{o:Option Dat}(k:K (.new (.lst (xs.reverse.map zf))))(ho:o=some (.lst (xs.map zf))):Wg1 xY o K:=⟨_,_,ho,rfl,by show K (.new (.lst (xs.map zf).reverse));rw[<- OJ];exact k⟩
theorem Rg{s:FS}{N N':Env->Prop}(h:Ws s ρ N' R B C)(k:∀ρ',N' ρ'->N ρ'):Ws s ρ N R B C:=by
 obtain⟨o,h1,h2⟩:=h;cases o with
 |nx ρ1=>exact⟨.nx ρ1,h1,k _ h2⟩
 |ret r ρ1=>exact⟨.ret r ρ1,h1,h2⟩
 |bk ρ1=>exact⟨.bk ρ1,h1,h2⟩
 |ct ρ1=>exact⟨.ct ρ1,h1,h2⟩
theorem n5{i:Nat}{W:Prop}(h:ρ[i]?=some (.ow d))(w:W):(∃d0,ρ[i]?=some (.ow d0))/\W:=⟨⟨d,h⟩,w⟩
theorem Ra(q:Q (.new (.dct [] [])) ρ):We eDn ρ Q:=⟨_,_,rfl,q⟩
theorem Q8{a b:FE}(h:We a ρ fun v ρ1=>bS v fun i=>We b ρ1 fun x ρ2=>Wk ρ2 x fun d ρ3=>Q (.new (.dct [i] [d])) ρ3):We (eD1 a b) ρ Q:=by obtain⟨v,ρ1,h1,i,rfl,x,ρ2,h2,d,ρ3,h3,q⟩:=h;exact⟨_,_,by unfold eD1;rw[h1];dsimp only;rw[h2];dsimp only;rw[h3],q⟩
theorem aX{ρ ρ1 ρ2:Env}{W:Env->Prop}(h:bd d ρ=some ρ1)(hn:ρ1=ρ2)(w:W ρ2):∃ρ1,bd d ρ=some ρ1/\W ρ1:=⟨ρ1,h,hn▸w⟩
theorem zg(zf:α->Dat)(p:α->Bool)(v:α->Dat)(bd:FB)(t:FT)(el:FE)(e0:Env)(env:α->Env)(h0:∀x,bd (zf x) e0=some (env x))(h1:∀x y,bd (zf x) (env y)=some (env x)):∀(xs:List α) (DK:List Dat) (e:Env),(e=e0\/∃y,e=env y) ->
  (∀x∈xs,t (env x)=some (p x,env x))->(∀x∈xs,p x=true->We el (env x) fun w ρ'=>Wk ρ' w fun d ρ''=>d=v x/\ρ''=env x) ->
  ∃e',(e'=e0\/∃y,e'=env y)/\cF bd t el (xs.map zf) e DK=some (DK++(xs.filter p).map v,e')
 |[],DK,e,he,_,_=>⟨e,he,by simp[cF]⟩
 |x::xs,DK,e,he,ht,hel=>by
  have hb:bd (zf x) e=some (env x):=by
   rcases he with rfl | ⟨y,rfl⟩
   ·exact h0 x
   ·exact h1 x y
  rw[eg,cF,hb];dsimp only;rw[ht x Mg];have ht':=fun y hy=>ht y (Mh _ hy);have he':=fun y hy=>hel y (Mh _ hy);by_cases h:p x=true
  ·obtain⟨w,ρ',g1,d,ρ'',g2,rfl,rfl⟩:=hel x Mg h;rw[h];dsimp only;rw[g1];dsimp only;rw[g2];obtain⟨e',q,z⟩:=zg zf p v bd t el e0 env h0 h1 xs (DK++[v x]) _ (.inr ⟨x,rfl⟩) ht' he';exact⟨e',q,by dsimp only;rw[z,M3 h];simp⟩
  ·rw[Bool.not_eq_true]at h;rw[h];obtain⟨e',q,z⟩:=zg zf p v bd t el e0 env h0 h1 xs DK _ (.inr ⟨x,rfl⟩) ht' he';exact⟨e',q,by dsimp only;rw[z,M0 (by rw[h];decide)]⟩
theorem Rw{α β:Type}(zf:α->Dat)(xs:List α)(p:α->Bool)(f:α->β)(dI:β->Dat)(env:α->Env){it:FI}{own:Nat}{bd:FB}{t:FT}{el:FE}{ρ ρ1:Env}{Q:Val->Env->Prop}
  (q:Q (.new (.lst (((xs.filter p).map f).map dI))) ρ1) (Fd:it ρ=some (xs.map zf,ρ1)) (h0:∀x,bd (zf x) (ρ1++Dk own .un)=some (env x)) (h1:∀x y,bd (zf x) (env y)=some (env x)) (h2:∀x,(env x).take ρ1.length=ρ1) (hl:xs.length<=SZ)
  (ht:∀x∈xs,Wt t (env x) fun c ρ'=>c=p x/\ρ'=env x)
  (he:∀x∈xs,p x=true->We el (env x) fun w ρ'=>Wk ρ' w fun d ρ''=>d=dI (f x)/\ρ''=env x):We (bX it own bd t el) ρ Q:=by
 obtain⟨e',q',e⟩:=zg zf p (fun x=>dI (f x)) bd t el _ env h0 h1 xs [] _ (.inl rfl) (fun x hx=>QF (ht x hx)) he;refine⟨_,_,?_,q⟩;unfold bX;rw[Fd];dsimp only;rw[if_pos (by rw[Dp];exact hl),e];dsimp only;rw[NX,M4];have:e'.take ρ1.length=ρ1:=by
  rcases q' with rfl | ⟨y,rfl⟩
  ·exact Ou
  ·exact h2 y
 rw[this];rfl
theorem Q6{xs:List Dat}{o:Option (List Dat)}(k:K (.val (.tup xs)))(ho:o=some [.lst xs]):WB jK o K:=⟨_,_,ho,rfl,k⟩
noncomputable def ltI(a b:Int):Bool:=decide (a<b)
theorem l6(ns:List Int):(dP ltI ns).Pairwise (fun a b=>ltI b a=false):=dB (fun a b c h1 h2=>by simp[ltI]at *;lia) (fun a b h=>by simp[ltI]at *;lia) ns
theorem Qo{t:FT}{body:FS}{N:Env->Prop}{R:RV->Env->Prop}{B C:Env->Prop}(I:Nat->Env->Prop)
  (hs:∀k ρ,I k ρ->Wt t ρ fun c ρ1=>Wif c (Ws body ρ1 (fun ρ2=>∃k',k'<k/\I k' ρ2) R N (fun ρ2=>∃k',k'<k/\I k' ρ2)) (N ρ1)):∀(n k:Nat) (ρ:Env),k<n->I k ρ->Ws (whD t body n) ρ N R B C
 |0,k,_,h,_=>absurd h (Nat.not_lt_zero k)
 |n+1,k,ρ,h,i=>by
  obtain⟨c,ρ1,h1,h2,h3⟩:=hs k ρ i;cases c with
  |false=>exact⟨.nx _,by rw[whD,h1],h3 rfl⟩
  |true=>
   obtain⟨o,h4,h5⟩:=h2 rfl;cases o with
   |nx ρ2=>obtain⟨k',hk,i'⟩:=h5;obtain⟨o,h6,h7⟩:=Qo (N:=N) (R:=R) (B:=B) (C:=C) I hs n k' ρ2 (by lia) i';exact⟨o,by rw[whD,h1];dsimp only;rw[h4];exact h6,h7⟩
   |ct ρ2=>obtain⟨k',hk,i'⟩:=h5;obtain⟨o,h6,h7⟩:=Qo (N:=N) (R:=R) (B:=B) (C:=C) I hs n k' ρ2 (by lia) i';exact⟨o,by rw[whD,h1];dsimp only;rw[h4];exact h6,h7⟩
   |bk ρ2=>exact⟨.nx _,by rw[whD,h1];dsimp only;rw[h4],h5⟩
   |ret r ρ2=>exact⟨.ret _ _,by rw[whD,h1];dsimp only;rw[h4],h5⟩
theorem v9(p:α->Bool)(xs:List α):bools (xs.map fun x=>Dat.bl (p x))=some (xs.map p):=by
 induction xs with
 |nil=>rfl
 |cons x xs ih=>rw[eg,bools,ih];rfl
theorem QZ(p:α->Bool){xs:List α}{o:Option (List Dat)}(k:K (.val (.bl (xs.all p))))(ho:o=some [.lst (xs.map fun x=>Dat.bl (p x))]):WB rM o K:=⟨_,_,ho,by
 unfold rM;dsimp only;rw[v9];have:(xs.map p).all id=xs.all p:=by rw[List.all_map];rfl
 dsimp only;rw[this],k⟩
theorem Rz{a b:FE}(h:We a ρ fun x ρ1=>(∃ks vs,pk ρ1 x=some (.dct ks vs))/\We b ρ1 fun y ρ2=>∃ks vs i,pk ρ2 x=some (.dct ks vs)/\pk ρ2 y=some (.int i)/\Q (.val ((bq ks vs i).getD .non)) ρ2):We (ja a b) ρ Q:=by obtain⟨x,ρ1,h1,⟨ks,vs,h2⟩,y,ρ2,h3,ks',vs',i,h4,h5,q⟩:=h;exact⟨_,_,by unfold ja;rw[h1];dsimp only;rw[h2];dsimp only;rw[h3];dsimp only;rw[h4];dsimp only;rw[h5],q⟩
theorem Qw(k:K (.val (.bl (Dm.isN d))))(ho:o=some d)(hp:p=some .non):Wg2 pQ o p K:=⟨_,_,_,ho,hp,by cases d<;>rfl,k⟩
theorem Ro{j:Int}{o:Option (List Dat)}(k:K (.new (.lst (ups 0 j.toNat))))(ho:o=some [.int j])(h:j<=1000000/\-1000000<=j):WB mL o K:=⟨_,_,ho,by unfold mL;dsimp only;rw[if_pos h],k⟩
theorem PJ(J:Env->Prop)(h1:Ws s ρ J R B C)(h2:∀ρ',J ρ'->Ws u ρ' N R B C):Ws (aC s u) ρ N R B C:=O_ (Rg h1 h2)
def WrM(o:Option (RV×Dat))(P:RV->Dat->Prop):Prop:=∃z d,o=some (z,d)/\P z d
theorem QB{r:List Dat}{P:RV->Dat->Prop}(b:Ws body ρ (fun ρ'=>∃d',ρ'[0]?=some (.ow d')/\P (.val .non) d') (fun z ρ'=>∃d',ρ'[0]?=some (.ow d')/\P z d') (fun _=>False) (fun _=>False))(hρ:Cell.ow d::(r.map Cell.sh++Dk m .un)=ρ)(h:(d::r).length=n):WrM (fnM n m body (d::r)) P:=by
 obtain⟨o,h1,h2⟩:=b;cases o with
 |nx ρ1=>obtain⟨d',h3,h4⟩:=h2;exact⟨_,_,by unfold fnM;rw[if_pos h];dsimp only;rw[hρ,h1];dsimp only;rw[h3],h4⟩
 |ret z ρ1=>obtain⟨d',h3,h4⟩:=h2;exact⟨_,_,by unfold fnM;rw[if_pos h];dsimp only;rw[hρ,h1];dsimp only;rw[h3],h4⟩
 |bk ρ1=>exact h2.elim
 |ct ρ1=>exact h2.elim
def WFm(f:List Dat->Option (RV×Dat))(j:Nat)(ρ1:Env)(xs:List Val)(Q:Val->Env->Prop):Prop:=
 ∃d1 ds ρ2 d v d',ρ1[j]?=some (.ow d1)/\tks ρ1 xs=some (ds,ρ2)/\ρ2[j]?=some (.ow d)/\f (d::ds)=some (v,d')/\(if (flat v.dat&&rW d')=true then Q v.aY (ρ1.set j (.ow d')) else Q v.aY (ρ2.set j (.ow d')))
theorem Q7{f:List Dat->Option (RV×Dat)}{j:Nat}{d0:Dat}(h:Was as ρ fun xs ρ1=>WFm f j ρ1 xs Q)(h0:ρ[j]?=some (.ow d0)):We (eFm f j as) ρ Q:=by
 obtain⟨xs,ρ1,h1,d1,ds,ρ2,d,v,d',h2,h3,h4,h5,q⟩:=h;by_cases c:(flat v.dat&&rW d')=true
 ·rw[if_pos c]at q;exact⟨_,_,by unfold eFm;rw[h0];dsimp only;rw[h1];dsimp only;rw[h2];dsimp only;rw[h3];dsimp only;rw[h4];dsimp only;rw[h5];dsimp only;rw[if_pos c],q⟩
 ·rw[if_neg c]at q;exact⟨_,_,by unfold eFm;rw[h0];dsimp only;rw[h1];dsimp only;rw[h2];dsimp only;rw[h3];dsimp only;rw[h4];dsimp only;rw[h5];dsimp only;rw[if_neg c],q⟩
theorem QM{f:List Dat->Option (RV×Dat)}{j:Nat}{ρ1 ρ3:Env}{d d':Dat}(h5:f (d::ds)=some (v,d'))(q:Q v.aY ρ3)(h2:ρ1[j]?=some (.ow d))(h3:tks ρ1 xs=some (ds,ρ1))(hn:ρ1.set j (.ow d')=ρ3):WFm f j ρ1 xs Q:=
 ⟨_,_,_,_,_,_,h2,h3,h2,h5,by rw[hn];split<;>exact q⟩
theorem QU(h:Was as ρ fun xs ρ1=>∃ds ρ2 v,r8 ρ1 xs=some (ds,ρ2)/\f ds=some v/\a_ v.dat=true/\Q v.aY ρ2):We (eFd f as) ρ Q:=by obtain⟨xs,ρ1,h1,ds,ρ2,v,h2,h3,h4,q⟩:=h;exact⟨_,_,by unfold eFd;rw[h1];dsimp only;rw[h2];dsimp only;rw[h3];dsimp only;rw[if_pos h4],q⟩
theorem iR:∀(xs:List Dat),(∀x∈xs,a_ x=true)->eN xs=true
 |[],_=>by unfold eN;rfl
 |x::xs,h=>by unfold eN;rw[h x Mg,iR xs fun y hy=>h y (Mh _ hy)];rfl
theorem fm(zf:α->Dat)(xs:List α)(h:∀x,a_ (zf x)=true):a_ (.lst (xs.map zf))=true:=by unfold a_;exact iR _ fun d hd=>by obtain⟨x,_,rfl⟩:=MD.mp hd;exact h x
theorem mY(i:Int):a_ (.int i)=true:=by unfold a_;rfl
theorem sC(xs:List Int):a_ (.lst (xs.map Dat.int))=true:=fm _ _ mY
theorem Rf{o:Option (List Dat)}(k:K (.new (.dct ks vs)))(ho:o=some [.dct ks vs]):WB pR o K:=⟨_,_,ho,rfl,k⟩
theorem Rq{o:Option (List Dat)}(k:K (.new (.lst ((dP ltI ks).map Dat.int))))(ho:o=some [.dct ks vs])(h:ks.length<=63):WB iN o K:=⟨_,_,ho,by unfold iN;dsimp only;rw[if_pos h];rfl,k⟩
theorem Rb{i:Nat}{ρ ρ2:Env}(hl:bq ks vs k=some d)(q:Q (.val d) ρ2)(h:ρ[i]?=some (.ow (.dct ks vs)))(he:e ρ=some (.val (.int k),ρ))(hs:ρ.set i (.ow (.dct (dD ks vs k) (dF ks vs k)))=ρ2):We (j5 i e) ρ Q:=⟨_,_,by unfold j5;rw[h];dsimp only;rw[he];dsimp only;rw[h];dsimp only;rw[hl];dsimp only;rw[hs],q⟩
theorem QD{ρ ρ1:Env}(h:Wi it ρ fun x y=>x=ds/\y=ρ1):it ρ=some (ds,ρ1):=by obtain⟨_,_,h1,rfl,rfl⟩:=h;exact h1
theorem Rx{a b c:FE}{i j k:Int}{Q:List Dat->Env->Prop}(ha:a ρ=some (.val (.int i),ρ))(hb:b ρ=some (.val (.int j),ρ))(hc:c ρ=some (.val (.int k),ρ))(hk:(0<k/\k<=1000)/\j<=BIG/\-BIG<=j/\i<=BIG/\-BIG<=i)(q:Q (fQ i k (b4 i j k)) ρ):Wi (iRs a b c) ρ Q:=⟨_,_,by unfold iRs;rw[ha];dsimp only;rw[hb];dsimp only;rw[hc];dsimp only;rw[if_pos hk],q⟩
theorem Rl{ρ ρ':Env}{v:Val}(h:We e ρ fun x y=>x=v/\y=ρ'):e ρ=some (v,ρ'):=by obtain⟨_,_,h1,rfl,rfl⟩:=h;exact h1
theorem Ru{f:List Dat->Option (RV×Dat)}{e0:FE}(h:Was (e0::as) ρ fun xs ρ1=>∃d ys ds v d',xs=.new d::ys/\iO ys=some ds/\f (d::ds)=some (v,d')/\Q v.aY ρ1):We (eFn f e0 as) ρ Q:=by obtain⟨xs,ρ1,h1,d,ys,ds,v,d',rfl,h2,h3,q⟩:=h;refine⟨_,_,?_,q⟩;unfold eFn;rw[h1];dsimp only;rw[h2];dsimp only;rw[h3]
end
end Dm
namespace Fl
section
variable{r:List Tie}{S:Int->Bool}{R:Int->Step->Prop}{w:List Step}{p q:Int}{a b:Int}{t:Tie}{k:Nat}
structure Tie where
 m:Int
 a:Int
 b:Int
deriving Inhabited
noncomputable def one(b:Bool):Int:=if b then 1 else 0
def Ends(t:Tie)(p q:Int):Prop:=t.a≠t.b/\((t.a=p/\t.b=q)\/(t.b=p/\t.a=q))
theorem Ends.symm(h:Ends t p q):Ends t q p:=⟨h.1,h.2.symm.imp (fun x=>⟨x.2,x.1⟩) (fun x=>⟨x.2,x.1⟩)⟩
noncomputable abbrev Hd:=Int->Option Int
noncomputable def val(o:Option Int)(t:Tie)(S:Int->Bool):Int:=
 if t.a=t.b then 0 else if o=some t.b then one (S t.a)-one (S t.b) else if o=some t.a then one (S t.b)-one (S t.a) else 0
noncomputable def cg(r:List Tie)(H:Hd)(S:Int->Bool):Int:=match r with
 |[]=>0
 |t::r=>val (H t.m) t S+cg r H S
noncomputable def put(H:Hd)(m:Int)(o:Option Int):Hd:=fun x=>if x=m then o else H x
theorem v_{H H':Hd}(h:∀t∈r,H t.m=H' t.m):cg r H S=cg r H' S:=by
 induction r with
 |nil=>rfl
 |cons t r ih=>rw[cg,cg,h t Mg,ih fun u hu=>h u (Mh _ hu)]
theorem pX(nd:(r.map (·.m)).Nodup)(ht:t∈r)(H:Hd)(o:Option Int)(S:Int->Bool):cg r (put H t.m o) S=cg r H S-val (H t.m) t S+val o t S:=by
 induction r with
 |nil=>cases ht
 |cons u r ih=>
  rw[eg,MG]at nd;rcases Mj.mp ht with rfl | ht'
  ·rw[cg,cg];have e1:put H t.m o t.m=o:=by unfold put;rw[if_pos rfl]
   rw[e1,v_ (H:=put H t.m o) (H':=H) fun v hv=>?_]
   ·lia
   ·unfold put;rw[if_neg fun e=>?_];exact nd.1 (MD.mpr ⟨v,hv,e⟩)
  ·have JR:u.m≠t.m:=fun e=>nd.1 (MD.mpr ⟨t,ht',e.symm⟩);rw[cg,cg,ih nd.2 ht'];have e1:put H t.m o u.m=H u.m:=by unfold put;rw[if_neg JR]
   rw[e1]
   lia
theorem fq(h:Ends t p q)(S:Int->Bool):val (some q) t S=one (S p)-one (S q):=by
 obtain⟨h1,h2⟩:=h;unfold val;rw[if_neg h1];rcases h2 with⟨rfl,rfl⟩ | ⟨rfl,rfl⟩
 ·rw[if_pos rfl]
 ·rw[if_neg (by intro e;injection e with e;exact h1 e),if_pos rfl]
theorem eT(t:Tie)(S:Int->Bool):val none t S=0:=by
 unfold val;split
 ·rfl
 ·simp
def Ok(r:List Tie)(H:Hd):Prop:=∀t∈r,∀x,H t.m=some x->x=t.a\/x=t.b
noncomputable def eU(H:Hd)(m q:Int):Hd:=put H m (if (H m).isSome then none else some q)
theorem sD(nd:(r.map (·.m)).Nodup){H:Hd}(ok:Ok r H)(ht:t∈r)(he:Ends t p q)(hf:H t.m≠some q)(S:Int->Bool) :
  cg r (eU H t.m q) S=cg r H S+one (S p)-one (S q):=by
 unfold eU;rw[pX nd ht];cases e:H t.m with
 |none=>
  simp only[Option.isSome_none,Ni,if_false];rw[eT,fq he]
  lia
 |some x=>
  have hx:=ok t ht x e;have:x=p:=by
   rw[e]at hf;have hxq:x≠q:=fun z=>hf (by rw[z]);obtain⟨_,h2⟩:=he
   lia
  subst this;simp only[Option.isSome_some,if_true];rw[eT,fq he.symm]
  lia
theorem uniq(nd:(r.map (·.m)).Nodup){u t:Tie}(hu:u∈r)(ht:t∈r)(e:u.m=t.m):u=t:=by
 induction r with
 |nil=>cases hu
 |cons v r ih=>
  rw[eg,MG]at nd;rcases Mj.mp hu with rfl | h1
  ·rcases Mj.mp ht with rfl | h2
   ·rfl
   ·exact absurd (MD.mpr ⟨t,h2,e.symm⟩) nd.1
  ·rcases Mj.mp ht with rfl | h2
   ·exact absurd (MD.mpr ⟨u,h1,e⟩) nd.1
   ·exact ih nd.2 h1 h2
theorem zh(nd:(r.map (·.m)).Nodup){H:Hd}(ok:Ok r H)(ht:t∈r)(he:Ends t p q):Ok r (eU H t.m q):=by
 intro u hu x hx;unfold eU put at hx;by_cases e:u.m=t.m
 ·rw[if_pos e]at hx;have:u=t:=uniq nd hu ht e;subst this;split at hx
  ·cases hx
  ·injection hx with hx
   obtain⟨_,h2⟩:=he
   lia
 ·rw[if_neg e]at hx;exact ok u hu x hx
noncomputable abbrev Step:=Int×Int
def Way(R:Int->Step->Prop):Int->List Step->Int->Prop
 |x,[],y=>x=y
 |x,s::w,y=>R x s/\Way R s.2 w y
theorem Way.snoc:∀{w:List Step} {x y:Int} {s:Step},Way R x w y->R y s->Way R x (w++[s]) s.2
 |[],_,_,_,h,k=>by cases h;exact⟨k,rfl⟩
 |_::_,_,_,_,h,k=>⟨h.1,Way.snoc h.2 k⟩
theorem Way.mono{R R':Int->Step->Prop}(h:∀p s,R p s->R' p s):∀{w:List Step} {x y:Int},Way R x w y->Way R' x w y
 |[],_,_,k=>k
 |_::_,_,_,k=>⟨h _ _ k.1,Way.mono h k.2⟩
def eW(r:List Tie)(p:Int)(s:Step):Prop:=∃t∈r,t.m=s.1/\Ends t p s.2
def kg(r:List Tie)(H:Hd)(p:Int)(s:Step):Prop:=eW r p s/\H s.1≠some s.2
def Led(r:List Tie)(H:Hd)(p:Int)(s:Step):Prop:=eW r p s/\H s.1=some s.2
theorem iU(nd:(r.map (·.m)).Nodup)(hR:∀p s,R p s->eW r p s){x y:Int}{s:Step}(h:Way R x (s::w) y)(hn:(x::(s::w).map (·.2)).Nodup):∀u∈w,u.1≠s.1:=by
 obtain⟨h1,h2⟩:=h;obtain⟨t,ht,hm,he⟩:=hR _ _ h1;have main:∀(w:List Step) (z:Int),Way R z w y->(∀u∈w,u.2≠x/\u.2≠s.2)->∀u∈w,u.1≠s.1:=fun w=>by
  induction w with
  |nil=>intro z _ _ u hu;cases hu
  |cons v w ih=>
   intro z hw hd u hu;rcases Mj.mp hu with rfl | hu
   ·intro e;obtain⟨t',ht',hm',he'⟩:=hR _ _ hw.1;have:=uniq nd ht' ht (by rw[hm',e,hm]);subst this;obtain⟨d1,d2⟩:=hd u Mg;obtain⟨_,he⟩:=he;obtain⟨_,he'⟩:=he'
    lia
   ·exact ih v.2 hw.2 (fun u hu=>hd u (Mh _ hu)) u hu
 rw[eg,MG,MG]at hn;refine main w s.2 h2 fun u hu=>⟨fun e=>hn.1 ?_,fun e=>hn.2.1 ?_⟩
 ·exact Mh _ (MD.mpr ⟨u,hu,e⟩)
 ·exact MD.mpr ⟨u,hu,e⟩
theorem je(nd:(r.map (·.m)).Nodup)(hR:∀p s,R p s->eW r p s){y:Int}:∀{w:List Step} {x:Int},Way R x w y->(x::w.map (·.2)).Nodup->(w.map (·.1)).Nodup
 |[],_,_,_=>by simp
 |s::w,x,h,hn=>by rw[eg,MG];refine⟨fun e=>?_,je nd hR h.2 (by rw[eg,MG]at hn;exact hn.2)⟩;obtain⟨u,hu,e⟩:=MD.mp e;exact iU nd hR h hn u hu e
noncomputable def jf(H:Hd):List Step->Hd
 |[]=>H
 |s::w=>jf (eU H s.1 s.2) w
theorem pY{H:Hd}{m q x:Int}(h:x≠m):eU H m q x=H x:=by unfold eU put;rw[if_neg h]
theorem fR(nd:(r.map (·.m)).Nodup)(S:Int->Bool):∀{w:List Step} {x y:Int} {H:Hd},Ok r H->Way (kg r H) x w y->(x::w.map (·.2)).Nodup ->
  Ok r (jf H w)/\cg r (jf H w) S=cg r H S+one (S x)-one (S y)
 |[],x,y,H,ok,h,_=>by cases h;exact⟨ok,by rw[jf];lia⟩
 |s::w,x,y,H,ok,h,hn=>by
  have hfr:=iU nd (fun p s h=>h.1) h hn;obtain⟨⟨⟨t,ht,hm,he⟩,hf⟩,h2⟩:=h;have ok1:=zh nd ok ht he;have f1:=sD nd ok ht he (by rw[hm];exact hf) S;rw[hm]at ok1 f1;have h3:Way (kg r (eU H s.1 s.2)) s.2 w y:=by
   have main:∀(w:List Step) (z:Int),(∀u∈w,u.1≠s.1)->Way (kg r H) z w y->Way (kg r (eU H s.1 s.2)) z w y:=fun w=>by
    induction w with
    |nil=>intro _ _ h;exact h
    |cons u w ih=>intro z hu hw;exact⟨⟨hw.1.1,by rw[pY (hu u Mg)];exact hw.1.2⟩,ih u.2 (fun v hv=>hu v (Mh _ hv)) hw.2⟩
   exact main w s.2 hfr h2
  obtain⟨k1,k2⟩:=fR nd S ok1 h3 (by rw[eg,MG]at hn;exact hn.2);rw[jf];exact⟨k1,by rw[k2,f1];lia⟩
noncomputable def dQ(H:Hd):List Step->Hd
 |[]=>H
 |s::w=>dQ (put H s.1 none) w
theorem eX:∀{w:List Step} {H:Hd} {x:Int},(∀u∈w,u.1≠x)->dQ H w x=H x
 |[],_,_,_=>rfl
 |s::w,H,x,h=>by rw[dQ,eX fun u hu=>h u (Mh _ hu)];unfold put;rw[if_neg fun e=>h s Mg e.symm]
theorem fS:∀{w:List Step} {H:Hd} {x:Int},x∈w.map (·.1)->dQ H w x=none
 |[],_,_,h=>by cases h
 |s::w,H,x,h=>by
  rw[dQ];by_cases e:x∈w.map (·.1)
  ·exact fS e
  ·rw[eX fun u hu z=>e (MD.mpr ⟨u,hu,z⟩)];rw[eg]at h;rcases Mj.mp h with rfl | h
   ·unfold put;rw[if_pos rfl]
   ·exact absurd h e
theorem fT(nd:(r.map (·.m)).Nodup)(S:Int->Bool):∀{w:List Step} {x y:Int} {H:Hd},Ok r H->Way (Led r H) x w y->(x::w.map (·.2)).Nodup ->
  Ok r (dQ H w)/\cg r (dQ H w) S=cg r H S-one (S x)+one (S y)
 |[],x,y,H,ok,h,_=>by cases h;exact⟨ok,by rw[dQ];lia⟩
 |s::w,x,y,H,ok,h,hn=>by
  have hfr:=iU nd (fun p s h=>h.1) h hn;obtain⟨⟨⟨t,ht,hm,he⟩,hf⟩,h2⟩:=h;have ok1:Ok r (put H s.1 none):=fun u hu z hz=>by
   unfold put at hz;split at hz
   ·cases hz
   ·exact ok u hu z hz
  have f1:=pX nd ht H none S;rw[eT,hm,hf,fq he]at f1;have h3:Way (Led r (put H s.1 none)) s.2 w y:=by
   have main:∀(w:List Step) (z:Int),(∀u∈w,u.1≠s.1)->Way (Led r H) z w y->Way (Led r (put H s.1 none)) z w y:=fun w=>by
    induction w with
    |nil=>intro _ _ h;exact h
    |cons u w ih=>intro z hu hw;exact⟨⟨hw.1.1,by unfold put;rw[if_neg (hu u Mg)];exact hw.1.2⟩,ih u.2 (fun v hv=>hu v (Mh _ hv)) hw.2⟩
   exact main w s.2 hfr h2
  obtain⟨k1,k2⟩:=fT nd S ok1 h3 (by rw[eg,MG]at hn;exact hn.2);rw[dQ];exact⟨k1,by rw[k2,f1];lia⟩
noncomputable def over(S:Int->Bool)(t:Tie):Bool:=S t.a != S t.b
theorem zj{H:Hd}(hc:∀p s,S p=true->kg r H p s->S s.2=true):cg r H S=((r.filter (over S)).length:Nat):=by
 have main:∀(q:List Tie),(∀t∈q,t∈r)->cg q H S=((q.filter (over S)).length:Nat):=fun q=>by
  induction q with
  |nil=>intro _;rfl
  |cons t q ih=>
   intro hq;rw[cg,ih fun u hu=>hq u (Mh _ hu)];by_cases ho:over S t=true
   ·rw[M3 ho];have JR:t.a≠t.b:=fun e=>by unfold over at ho;rw[e]at ho;simp at ho
    have hv:val (H t.m) t S=1:=by
     unfold over at ho;cases ha:S t.a with
     |true=>
      have hb:S t.b=false:=by rw[ha]at ho;simpa using ho
      have he:Ends t t.a t.b:=⟨JR,.inl ⟨rfl,rfl⟩⟩
      have:H t.m=some t.b:=NZ fun e=>by have:=hc t.a (t.m,t.b) ha ⟨⟨t,hq t Mg,rfl,he⟩,e⟩;rw[hb]at this;cases this
      rw[this,fq he,ha,hb];rfl
     |false=>
      have hb:S t.b=true:=by rw[ha]at ho;simpa using ho
      have he:Ends t t.b t.a:=⟨JR,.inr ⟨rfl,rfl⟩⟩
      have:H t.m=some t.a:=NZ fun e=>by have:=hc t.b (t.m,t.a) hb ⟨⟨t,hq t Mg,rfl,he⟩,e⟩;rw[ha]at this;cases this
      rw[this,fq he,ha,hb];rfl
    rw[hv,MU]
    lia
   ·rw[M0 ho];have hv:val (H t.m) t S=0:=by
     unfold over at ho;have:S t.a=S t.b:=by simpa using ho
     unfold val;rw[this];split
     ·rfl
     ·split
      ·lia
      ·split<;>lia
    rw[hv]
    lia
 exact main r fun _ h=>h
theorem zk{H:Hd}(ok:Ok r H)(hc:∀p s,S p=true->Led r H p s->S s.2=true):cg r H S<=0:=by
 have main:∀(q:List Tie),(∀t∈q,t∈r)->cg q H S<=0:=fun q=>by
  induction q with
  |nil=>intro _;exact Nj _
  |cons t q ih=>
   intro hq;rw[cg];have h1:=ih fun u hu=>hq u (Mh _ hu);have hv:val (H t.m) t S<=0:=by
    by_cases JR:t.a=t.b
    ·unfold val;rw[if_pos JR];exact Nj _
    cases e:H t.m with
    |none=>rw[eT];exact Nj _
    |some x=>
     have key:∀p,Ends t p x->val (some x) t S<=0:=fun p he=>by
      rw[fq he];cases hp:S p with
      |false=>cases S x<;>decide
      |true=>have:=hc p (t.m,x) hp ⟨⟨t,hq t Mg,rfl,he⟩,e⟩;rw[this];decide
     rcases ok t (hq t Mg) x e with rfl | rfl
     ·exact key t.b ⟨JR,.inr ⟨rfl,rfl⟩⟩
     ·exact key t.a ⟨JR,.inl ⟨rfl,rfl⟩⟩
   lia
 exact main r fun _ h=>h
structure Flow(r:List Tie)(H:Hd)(a b:Int)(k:Nat):Prop where
 ok:Ok r H
 eq:∀S,cg r H S=(k:Int)*(one (S a)-one (S b))
theorem Flow.zero(r:List Tie)(a b:Int):Flow r (fun _=>none) a b 0:=⟨fun _ _ _ h=>(by cases h),fun S=>by
 induction r with
 |nil=>simp[cg]
 |cons t r ih=>rw[cg,eT,ih];simp⟩
theorem Flow.more(nd:(r.map (·.m)).Nodup){H:Hd}(f:Flow r H a b k)(h:Way (kg r H) a w b)(hn:(a::w.map (·.2)).Nodup):Flow r (jf H w) a b (k+1):=
 ⟨(fR nd (fun _=>true) f.ok h hn).1,fun S=>by
  rw[(fR nd S f.ok h hn).2,f.eq S];have:((k+1:Nat):Int)=(k:Int)+1:=by lia
  rw[this,O4]
  lia⟩
theorem Flow.less(nd:(r.map (·.m)).Nodup){H:Hd}(f:Flow r H a b (k+1))(h:Way (Led r H) a w b)(hn:(a::w.map (·.2)).Nodup):Flow r (dQ H w) a b k:=
 ⟨(fT nd (fun _=>true) f.ok h hn).1,fun S=>by
  rw[(fT nd S f.ok h hn).2,f.eq S];have:((k+1:Nat):Int)=(k:Int)+1:=by lia
  rw[this,O4]
  lia⟩
theorem Flow.cut{H:Hd}(f:Flow r H a b k)(ha:S a=true)(hb:S b=false)(hc:∀p s,S p=true->kg r H p s->S s.2=true):(r.filter (over S)).length=k:=by
 have h1:=zj hc;rw[f.eq S,ha,hb]at h1;simp[one]at h1
 lia
theorem Flow.reach{H:Hd}(f:Flow r H a b (k+1))(ha:S a=true)(hc:∀p s,S p=true->Led r H p s->S s.2=true):S b=true:=by
 cases hb:S b with
 |true=>rfl
 |false=>
  have h1:=zk f.ok hc;rw[f.eq S,ha,hb]at h1;simp[one]at h1
  lia
end
end Fl
namespace Dm
section
variable{ks:List (Int×Int)}{vs:List Dat}{p:Int×Int}{N:Env->Prop}{K:RV->Prop}{d:Dat}{ρ:Env}{i:Nat}
theorem Ri{Q:Val->Env->Prop}(q:Q (.new (.dcp [] [])) ρ):We Ce ρ Q:=⟨_,_,rfl,q⟩
theorem Rt{j e:FE}{R:RV->Env->Prop}{B C:Env->Prop}(h:We e ρ fun x ρ1=>Wk ρ1 x fun d ρ2=>(∃d0,ρ2[i]?=some (.ow d0))/\We j ρ2 fun y ρ3=>∃p q ks vs ρ4,y=.val (.tup [.int p,.int q])/\ρ3[i]?=some (.ow (.dcp ks vs))/\ρ3.set i (.ow (.dcp (cK ks (p,q)) (dH ks vs (p,q) d)))=ρ4/\N ρ4/\ks.length<SZ):Ws (iQ i j e) ρ N R B C:=by obtain⟨x,ρ1,h1,d,ρ2,h2,⟨d0,h0⟩,y,ρ3,h3,p,q,ks,vs,ρ4,rfl,h4,h5,n,h6⟩:=h;exact⟨.nx _,by unfold iQ;rw[h1];dsimp only;rw[h2];dsimp only;rw[h0];dsimp only;rw[h3];dsimp only;rw[h4];dsimp only;rw[if_pos h6,h5],n⟩
theorem zl{p q:Int}{ρ3 ρ4:Env}{y:Val}(n:N ρ4)(hy:y=.val (.tup [.int p,.int q]))(h:ρ3[i]?=some (.ow (.dcp ks vs)))(hs:ρ3.set i (.ow (.dcp (cK ks (p,q)) (dH ks vs (p,q) d)))=ρ4)(hl:ks.length<SZ) :
  ∃p q ks vs ρ4,y=.val (.tup [.int p,.int q])/\ρ3[i]?=some (.ow (.dcp ks vs))/\ρ3.set i (.ow (.dcp (cK ks (p,q)) (dH ks vs (p,q) d)))=ρ4/\N ρ4/\ks.length<SZ:=⟨_,_,_,_,_,hy,h,hs,n,hl⟩
theorem P0{i j:Int}{o p:Option Dat}(h:jd ks vs (i,j)=some d)(k:K (.val d))(ho:o=some (.dcp ks vs))(hp:p=some (.tup [.int i,.int j])):Wg2 j_ o p K:=⟨_,_,_,ho,hp,by unfold j_;dsimp only;rw[h];rfl,k⟩
theorem Rr{o:Option (List Dat)}(k:K (.new (.lst (ks.map pairD))))(ho:o=some [.dcp ks vs])(hl:ks.length<=SZ):WB iP o K:=⟨_,_,ho,by unfold iP;dsimp only;rw[if_pos hl],k⟩
theorem bI(g:Int×Int->Dat):∀{ks:List (Int×Int)},p∈ks->jd ks (ks.map g) p=some (g p)
 |k::ks,h=>by
  rw[eg,jd];by_cases e:k=p
  ·rw[if_pos e,e]
  ·rw[if_neg e];exact bI g ((Mj.mp h).resolve_left fun z=>e z.symm)
theorem Ck(h:p∉ks):nV ks p=false:=by unfold nV;rw[List.any_eq_false];intro k hk e;exact h ((of_decide_eq_true e)▸hk)
theorem pZ(h:p∉ks):cK ks p=ks++[p]/\dH ks vs p d=vs++[d]:=by unfold cK dH;rw[Ck h];exact⟨rfl,rfl⟩
end
end Dm
namespace P
open Dm
noncomputable def ir:FN:=
  (nIf (tV (e2 gNe (eV 4) (eV 5))) (vY (rY (eV 4) (cA [(eV 3),(eV 5)]))
  (rY (eV 5) (cA [(eV 3),(eV 4)]))) nNx)
noncomputable def Cm:List Dat->Option RV:=fn 2 4
  (aC (j4 2 (iR1 (eV 0)) 1 (bN 6) (rZ (iS (eV 1)) (bT [3,4,5])
  ir))
  (sR (eV 2)))
noncomputable def zm:List Dat->Option RV:=fn 2 0
  (sR (aS 0 1 (bN 2) cN (aS 2 1 (bN 3) (tV (e2 gNe (ja (eV 1) (e2 gIx (eV 3) (eC (.int 0)))) (e2 gIx (eV 3) (eC (.int 1))))) (eV 3))))
noncomputable def zo:List Dat->Option RV:=fn 2 0
  (sR (aS 0 1 (bN 2) cN (aS 2 1 (bN 3) (tV (e2 gEq (ja (eV 1) (e2 gIx (eV 3) (eC (.int 0)))) (e2 gIx (eV 3) (eC (.int 1))))) (eV 3))))
noncomputable def DL:FS:=
  (sIf (tV (e2 pP (e2 gIx (eV 5) (eC (.int 1))) (eV 2))) (aC (jY 2 (e2 gIx (eV 5) (eC (.int 1))) (e2 bO (e2 gDx (eV 2) (eV 4)) (dU [(eV 5)])))
  (nI 3 (e2 gIx (eV 5) (eC (.int 1))))) sNx)
noncomputable def DM:FS:=
  (aC (sA 4 (iM 3 (eC (.int 0))))
  (cS (iS (e2 gIx (eV 0) (eV 4))) (bN 5)
  DL))
noncomputable def p5:List Dat->Option RV:=fn 2 4
  (aC (sA 2 (eD1 (eV 1) (dU [])))
  (aC (sA 3 (dU [(eV 1)]))
  (aC (whD (tTr (eV 3))
  DM 100)
  (sR (eV 2)))))
noncomputable def DO:FS:=
  (sIf (tV (e2 vX (eV 2) (eV 0))) (sE (j5 0 (eV 2))) (jY 0 (eV 2) (eV 3)))
noncomputable def zp:List Dat->Option (RV×Dat):=fnM 2 2
  (cS (iS (eV 1)) (bT [2,3])
  DO)
noncomputable def DP:FS:=
  (sE (j5 5 (eV 9)))
noncomputable def DQ:FS:=
  (aC (sA 8 (bX (iS (e2 gDx (eF p5 [(eFd zo [(eV 0),(eV 5)]),(eV 2)]) (eV 3))) 1 (bN 10) cN (e2 gIx (eV 10) (eC (.int 0)))))
  (aC (cS (iS (eV 8)) (bN 9)
  DP)
  (nI 6 (eV 8))))
noncomputable def wc:List Dat->Option RV:=fn 5 5
  (aC (sA 5 (eB pR [(eV 1)]))
  (aC (sA 6 (dU []))
  (aC (cS (iR1 (eV 4)) (bN 7)
  DQ)
  (sR (eV 6)))))
noncomputable def DR:FS:=
  (aC (sA 9 (eF p5 [(eFd zm [(eV 5),(eV 6)]),(eV 2)]))
  (sIf (tV (e2 vX (eV 3) (eV 9))) (aC (sE (eFm zp 6 [(e2 gDx (eV 9) (eV 3))]))
  (sA 8 (e2 bO (eV 8) (eC (.int 1))))) (sA 7 (eB jK [(eB iN [(eV 9)])]))))
noncomputable def n6:List Dat->Option RV:=fn 5 5
  (aC (sA 5 (eF Cm [(eV 0),(eV 1)]))
  (aC (sA 6 eDn)
  (aC (sA 7 (eC .non))
  (aC (sA 8 (eC (.int 0)))
  (aC (whD (jD (tV (e2 gLt (eV 8) (eV 4))) (tV (e2 pQ (eV 7) (eC .non))))
  DR 100)
  (sR (cA [(eFd wc [(eV 5),(eV 6),(eV 2),(eV 3),(eV 8)]),(eV 7)])))))))
noncomputable def we:List Dat->Option RV:=fn 5 0
  (sR (e2 pQ (e2 gIx (eF n6 [(eV 0),(eV 1),(eV 2),(eV 3),(eV 4)]) (eC (.int 1))) (eC .non)))
noncomputable def Cn:List Dat->Option RV:=fn 1 0
  (sR (gW (e1 (nJ isI) (eV 0)) (vL (e1 (nJ isB) (eV 0)))))
noncomputable def p6:List Dat->Option RV:=fn 3 0
  (sR (gW (eF Cn [(eV 0)]) (jL gLe gLe (eV 1) (eV 0) (eV 2))))
noncomputable def uz:List Dat->Option RV:=fn 1 0
  (sR (eF p6 [(eV 0),(eC (.int 1)),(eC (.int 10))]))
noncomputable def kh:List Dat->Option RV:=fn 2 0
  (sR (eF p6 [(eV 1),(eC (.int 0)),(e2 gS (eV 0) (eC (.int 1)))]))
noncomputable def ki:List Dat->Option RV:=fn 1 0
  (sR (eF p6 [(eV 0),(eC (.int 1)),(eC (.int 6))]))
noncomputable def uA:List Dat->Option RV:=fn 1 0
  (sR (eF p6 [(eV 0),(eC (.int 0)),(e2 fN (eC (.int 10)) (eC (.int 30)))]))
noncomputable def uB:List Dat->Option RV:=fn 2 0
  (aC (sIf (tOr (cR (tV (e1 (nJ isT) (eV 1)))) (tV (e2 gNe (eB d9 [(eV 1)]) (eC (.int 3))))) (sR (eC (.bl false))) sNx)
  (sR (gW (eF uA [(e2 gIx (eV 1) (eC (.int 0)))]) (gW (eF kh [(eV 0),(e2 gIx (eV 1) (eC (.int 1)))]) (eF kh [(eV 0),(e2 gIx (eV 1) (eC (.int 2)))])))))
noncomputable def uC:List Dat->Option RV:=fn 2 0
  (sR (gW (eF uB [(eV 0),(eV 1)]) (e2 gLe (e2 gIx (eV 1) (eC (.int 1))) (e2 gIx (eV 1) (eC (.int 2))))))
noncomputable def uD:List Dat->Option RV:=fn 1 0
  (sR (eB rM [(bX (iR2 (eC (.int 1)) (eB d9 [(eV 0)])) 1 (bN 1) cN (e2 gLt (e2 gIx (eV 0) (e2 gS (eV 1) (eC (.int 1)))) (e2 gIx (eV 0) (eV 1))))]))
noncomputable def uE:List Dat->Option RV:=fn 3 0
  (sR (gW (eF kh [(eV 0),(eV 1)]) (gW (eF kh [(eV 0),(eV 2)]) (e2 gNe (eV 1) (eV 2)))))
noncomputable def uF:List Dat->Option RV:=fn 1 0
  (sIf (cR (tV (eF ki [(eV 0)]))) (fun _=>none) sNx)
noncomputable def uG:List Dat->Option RV:=fn 3 0
  (sIf (cR (tV (eF uE [(eV 0),(eV 1),(eV 2)]))) (fun _=>none) sNx)
noncomputable def uH:List Dat->Option RV:=fn 3 0
  (sR (aS 0 1 (bN 3) cN (eIf (tV (e2 gEq (eV 3) (e2 gIx (eV 0) (eV 2)))) (e2 gIx (eV 0) (eV 1)) (eV 3))))
noncomputable def zq:FS:=
  (sIf (tV (e2 gNe (e2 gIx (eV 4) (eV 1)) (e2 gIx (eV 4) (eV 2)))) (sR (e2 bO (eV 3) (eC (.int 1)))) sNx)
noncomputable def p7:List Dat->Option RV:=fn 3 2
  (aC (cS (iEn (eV 0)) (bT [3,4])
  zq)
  (sR (eC (.int 0))))
noncomputable def zu:FS:=
  (aC (sA 8 (eF p7 [(eV 3),(eV 6),(eV 7)]))
  (aC (sIf (tV (e2 gGt (eV 8) (eC (.int 0)))) (rJ 3 (e2 gS (eV 8) (eC (.int 1))) (eF uH [(e2 gIx (eV 3) (e2 gS (eV 8) (eC (.int 1)))),(eV 6),(eV 7)])) sNx)
  (nI 4 (eV 8))))
noncomputable def mZ:List Dat->Option RV:=fn 3 6
  (aC (sE (eF uF [(eV 2)]))
  (aC (sA 3 (bX (iR1 (eV 2)) 1 (bN 9) cN (eB mL [(eV 0)])))
  (aC (sA 4 (dU []))
  (aC (cS (vV (eV 1)) (bT [5,6,7])
  zu)
  (sR (e1 jV (eV 4)))))))
noncomputable def uI:List Dat->Option RV:=fn 2 0
  (aC (sIf (tOr (cR (tV (eF uz [(eV 0)]))) (tOr (cR (tV (e1 (nJ isL) (eV 1)))) (tV (e2 gGt (eB d9 [(eV 1)]) (eC (.int 60)))))) (sR (eC (.bl false))) sNx)
  (aC (sIf (cR (tV (eB rM [(aS 1 1 (bN 2) cN (eF uC [(eV 0),(eV 2)]))]))) (sR (eC (.bl false))) sNx)
  (sR (eF uD [(aS 1 1 (bN 2) cN (e2 gIx (eV 2) (eC (.int 0))))]))))
noncomputable def kj:List Dat->Option RV:=fn 2 0
  (sR (aS 0 1 (bN 2) (tV (e2 gGe (e2 gIx (eV 2) (eC (.int 0))) (eV 1))) (eV 2)))
noncomputable def uJ:List Dat->Option RV:=fn 1 0
  (aC (sIf (tOr (cR (tV (e1 (nJ isT) (eV 0)))) (tV (e2 gNe (eB d9 [(eV 0)]) (eC (.int 3))))) (sR (eC (.bl false))) sNx)
  (aC (sIf (tOr (cR (tV (eF ki [(e2 gIx (eV 0) (eC (.int 1)))]))) (cR (tV (eF uI [(e2 gIx (eV 0) (eC (.int 0))),(e2 gIx (eV 0) (eC (.int 2)))])))) (sR (eC (.bl false))) sNx)
  (sR (e2 cG (eC (.int 0)) (eF mZ [(e2 gIx (eV 0) (eC (.int 0))),(e2 gIx (eV 0) (eC (.int 2))),(e2 gIx (eV 0) (eC (.int 1)))])))))
noncomputable def uK:List Dat->Option RV:=fn 1 0
  (sIf (cR (tV (eF uJ [(eV 0)]))) (fun _=>none) sNx)
noncomputable def uL:List Dat->Option RV:=fn 2 0
  (aC (sE (eF uK [(eV 0)]))
  (sIf (cR (tV (eF p6 [(eV 1),(eC (.int 1)),(e2 gIx (eV 0) (eC (.int 1)))]))) (fun _=>none) sNx))
noncomputable def uM:List Dat->Option RV:=fn 3 1
  (aC (sA 3 (eF mZ [(eV 0),(eV 1),(eV 2)]))
  (sR (cA [(eV 0),(eV 2),(bX (BW (eV 1) (eV 3)) 2 (bT [4,5]) (tV (e2 gGt (eV 5) (eC (.int 0)))) (eV 4))])))
noncomputable def zv:FS:=
  (aC (sA 7 (e2 rL (e2 bO (eV 5) (eV 6)) (eC (.int 2))))
  (sIf (tV (eF we [(eV 0),(eSl (eV 1) (some (eV 7)) none),(eV 2),(eV 3),(eV 4)])) (sA 5 (eV 7)) (sA 6 (eV 7))))
noncomputable def m5:List Dat->Option RV:=fn 5 3
  (aC (sIf (cR (tV (eF we [(eV 0),(eV 1),(eV 2),(eV 3),(eV 4)]))) (sR (eC .non)) sNx)
  (aC (sA 5 (eC (.int 0)))
  (aC (sA 6 (eB d9 [(eV 1)]))
  (aC (whD (tV (e2 gGt (e2 gS (eV 6) (eV 5)) (eC (.int 1))))
  zv 100)
  (sR (e2 gIx (e2 gIx (eV 1) (eV 5)) (eC (.int 0))))))))
noncomputable def m6:List Dat->Option RV:=fn 4 3
  (aC (sE (eF uL [(eV 0),(eV 3)]))
  (aC (sE (eF uG [(e2 gIx (eV 0) (eC (.int 0))),(eV 1),(eV 2)]))
  (aC (sA 4 (eF m5 [(e2 gIx (eV 0) (eC (.int 0))),(e2 gIx (eV 0) (eC (.int 2))),(eV 1),(eV 2),(eV 3)]))
  (aC (sIf (tV (e2 pQ (eV 4) (eC .non))) (sR (cA [(eC (.str [110,101,118,101,114])),(e2 gIx (eF n6 [(e2 gIx (eV 0) (eC (.int 0))),(e2 gIx (eV 0) (eC (.int 2))),(eV 1),(eV 2),(eV 3)]) (eC (.int 1)))])) sNx)
  (aC (sA 5 (e2 gIx (eF n6 [(e2 gIx (eV 0) (eC (.int 0))),(eF kj [(e2 gIx (eV 0) (eC (.int 2))),(eV 4)]),(eV 1),(eV 2),(eV 3)]) (eC (.int 0))))
  (aC (sA 6 (e2 gIx (eF n6 [(e2 gIx (eV 0) (eC (.int 0))),(eF kj [(e2 gIx (eV 0) (eC (.int 2))),(e2 bO (eV 4) (eC (.int 1)))]),(eV 1),(eV 2),(eV 3)]) (eC (.int 1))))
  (sR (cA [(eC (.str [115,105,110,99,101])),(eV 4),(eV 5),(eV 6)]))))))))
noncomputable def zw:FS:=
  (aC (sA 3 (e2 fM (e2 bO (e2 bO (e2 fL (eV 3) (eC (.int 48271))) (e2 fL (eC (.int 7919)) (eV 5))) (eC (.int 3))) (eC (.int 2147483629))))
  (aC (sA 3 (e2 fM (e2 fL (eV 3) (eV 3)) (eC (.int 2147483587))))
  (sA 4 (e2 bO (e2 fL (eV 4) (eC (.int 2147483587))) (e2 fM (e2 bO (e2 fL (eV 3) (eC (.int 69621))) (eV 1)) (eC (.int 2147483587)))))))
noncomputable def m7:List Dat->Option RV:=fn 2 4
  (aC (sA 2 (eC (.int 0)))
  (aC (sIf (tV (e2 gLt (eV 1) (eB d9 [(eV 0)]))) (sA 2 (e2 gIx (eV 0) (eV 1))) sNx)
  (aC (sIf (tV (e2 gGe (eV 2) (e2 fN (eC (.int 10)) (eC (.int 18))))) (sR (dU [(e2 fM (eV 2) (e2 ie (e2 ie (e2 ie (e2 ie (e2 fN (eC (.int 10)) (eC (.int 60))) (e2 fN (eC (.int 10)) (eC (.int 60)))) (e2 fN (eC (.int 10)) (eC (.int 60)))) (e2 fN (eC (.int 10)) (eC (.int 60)))) (e2 fN (eC (.int 10)) (eC (.int 60)))))])) sNx)
  (aC (sA 3 (e2 fM (e2 bO (e2 bO (e2 bO (eV 2) (e2 fL (e2 fL (eC (.int 104729)) (eV 1)) (eV 1))) (e2 fL (eC (.int 7)) (eV 1))) (eC (.int 11))) (eC (.int 2147483647))))
  (aC (sA 4 (eC (.int 0)))
  (aC (cS (iR1 (eC (.int 40))) (bN 5)
  zw)
  (sR (dU [(eV 4)]))))))))
noncomputable def cz:List Dat->Option (RV×Dat):=fnM 2 1
  (aC (sA 2 (e2 fM (e2 gIx (eV 0) (eC (.int 0))) (eV 1)))
  (aC (rJ 0 (eC (.int 0)) (e2 rL (e2 gIx (eV 0) (eC (.int 0))) (eV 1)))
  (sR (eV 2))))
noncomputable def zx:FS:=
  (aC (sA 11 (eFm cz 0 [(eV 1)]))
  (aC (sA 12 (eFm cz 0 [(eV 1)]))
  (aC (sIf (tV (e2 gEq (eV 7) (eC (.int 1)))) (sA 12 (e2 fM (e2 bO (eV 11) (eC (.int 1))) (eV 1))) sNx)
  (aC (sIf (tV (e2 gEq (eV 7) (eC (.int 2)))) (sA 12 (e2 fM (e2 fM (e2 bO (e2 bO (eV 11) (e2 fM (eV 12) (eC (.int 2)))) (eC (.int 1))) (eB gY [(eV 1),(eC (.int 3))])) (eV 1))) sNx)
  (aC (nI 9 (cA [(eV 8),(eB gY [(eV 11),(eV 12)]),(eB mE [(eV 11),(eV 12)])]))
  (sA 8 (e2 bO (e2 bO (eV 8) (eC (.int 1))) (e2 fL (eFm cz 0 [(eV 5)]) (eV 6)))))))))
noncomputable def m8:List Dat->Option (RV×Dat):=fnM 3 10
  (aC (sA 3 (eFm cz 0 [(e2 bO (eV 2) (eC (.int 1)))]))
  (aC (sA 4 (eFm cz 0 [(eC (.int 4))]))
  (aC (sA 5 (e2 gIx (dU [(eC (.int 1)),(eC (.int 3)),(e2 fN (eC (.int 10)) (eC (.int 6))),(eC (.int 1000))]) (eV 4)))
  (aC (sA 6 (e2 gIx (dU [(eC (.int 1)),(e2 fN (eC (.int 10)) (eC (.int 25)))]) (eB vM [(e2 gEq (eV 4) (eC (.int 3)))])))
  (aC (sA 7 (eFm cz 0 [(eC (.int 4))]))
  (aC (sA 8 (e2 fL (eFm cz 0 [(eV 5)]) (eV 6)))
  (aC (sA 9 (dU []))
  (aC (cS (iR1 (eV 3)) (bN 10)
  zx)
  (sR (eV 9))))))))))
noncomputable def p8:List Dat->Option RV:=fn 2 0
  (sR (aS 0 1 (bN 2) (tV (e2 gGe (e2 gIx (eV 2) (eC (.int 0))) (eV 1))) (eV 2)))
noncomputable def uN:List Dat->Option RV:=fn 2 0
  (sR (aS 0 1 (bN 2) (tV (e2 gNe (e2 gIn (e2 gIx (eV 2) (eC (.int 1))) (eV 1)) (e2 gIn (e2 gIx (eV 2) (eC (.int 2))) (eV 1)))) (e2 gIx (eV 2) (eC (.int 0)))))
noncomputable def zy:FS:=
  (sA 1 (e2 bO (eV 1) (aS 1 1 (bN 3) cN (e2 mT (eV 3) (cA [(eV 2)])))))
noncomputable def uO:List Dat->Option RV:=fn 1 2
  (aC (sA 1 (dU [(cA [])]))
  (aC (cS (iR2 (eC (.int 1)) (eV 0)) (bN 2)
  zy)
  (sR (eSl (eV 1) (some (eC (.int 1))) none))))
noncomputable def zz:FS:=
  (sIf (tV (e2 gNe (e2 gIn (eV 2) (eV 5)) (e2 gIn (eV 3) (eV 5)))) (sA 4 (eB gY [(eV 4),(eB d9 [(eF uN [(eV 1),(eV 5)])])])) sNx)
noncomputable def p9:List Dat->Option RV:=fn 4 2
  (aC (sA 4 (eB d9 [(eV 1)]))
  (aC (cS (iS (eF uO [(eV 0)])) (bN 5)
  zz)
  (sR (eV 4))))
noncomputable def zA:FS:=
  (sIf (tV (e2 gGe (eF p9 [(eV 0),(eF p8 [(eV 1),(e2 gIx (eV 5) (eC (.int 0)))]),(eV 2),(eV 3)]) (eV 4))) (sR (e2 gIx (eV 5) (eC (.int 0)))) sNx)
noncomputable def uP:List Dat->Option RV:=fn 5 1
  (aC (cS (iS (e1 xY (eV 1))) (bN 5)
  zA)
  (sR (e2 gS (eC (.int 0)) (eC (.int 1)))))
noncomputable def m9:List Dat->Option RV:=fn 4 1
  (aC (sA 4 (eF m6 [(eV 0),(eV 1),(eV 2),(eV 3)]))
  (aC (sIf (tOr (cR (tV (e1 (nJ isT) (eV 4)))) (tV (e2 gEq (e2 gIx (eV 4) (eC (.int 0))) (eC (.str [110,101,118,101,114]))))) (sR (e2 gS (eC (.int 0)) (eC (.int 1)))) sNx)
  (sR (e2 gIx (eV 4) (eC (.int 1))))))
noncomputable def sF:FS:=
  (sIf (tV (e2 gNe (eV 9) (eV 10))) (aC (iQ 8 (cA [(eV 9),(eV 10)]) (eF m9 [(eV 7),(eV 9),(eV 10),(eV 5)]))
  (aC (sIf (tV (e2 gNe (e2 j_ (eV 8) (cA [(eV 9),(eV 10)])) (eF uP [(eV 3),(eV 6),(eV 9),(eV 10),(eV 5)]))) (sR (eC (.bl false))) sNx)
  (sIf (jD (tV (e2 gLt (eV 5) (eV 4))) (tV (e2 gGt (eF m9 [(eV 7),(eV 9),(eV 10),(e2 bO (eV 5) (eC (.int 1)))]) (e2 j_ (eV 8) (cA [(eV 9),(eV 10)]))))) (sR (eC (.bl false))) sNx))) sNx)
noncomputable def zB:FS:=
  (cS (iR1 (eV 3)) (bN 10)
  sF)
noncomputable def sG:FS:=
  (aC (sA 12 (e2 j_ (eV 8) (cA [(eV 9),(eV 10)])))
  (aC (sIf (tV (e2 cG (eV 11) (cA [(eV 9),(eV 10)]))) (sA 12 (eB gY [(e2 j_ (eV 8) (cA [(eV 9),(eV 11)])),(e2 j_ (eV 8) (cA [(eV 11),(eV 10)]))])) sNx)
  (sIf (tV (e2 gLt (e2 j_ (eV 8) (cA [(eV 9),(eV 10)])) (eV 12))) (sR (eC (.bl false))) sNx)))
noncomputable def zC:FS:=
  (cS (iR1 (eV 3)) (bN 11)
  sG)
noncomputable def sH:FS:=
  (aC (sA 2 (eF m7 [(eV 0),(eV 1)]))
  (aC (sA 3 (e2 gIx (dU [(eC (.int 2)),(eC (.int 2)),(eC (.int 3)),(eC (.int 4)),(eC (.int 5)),(eC (.int 6)),(eC (.int 4)),(eC (.int 3))]) (eFm cz 2 [(eC (.int 8))])))
  (aC (sA 4 (e2 bO (eC (.int 1)) (eFm cz 2 [(eC (.int 6))])))
  (aC (sA 5 (e2 bO (eC (.int 1)) (eFm cz 2 [(eV 4)])))
  (aC (sA 6 (eFn m8 (eF m7 [(eV 0),(e2 bO (eV 1) (eC (.int 1)))]) [(eV 3),(e2 gIx (dU [(eC (.int 14)),(eC (.int 9))]) (eB vM [(e2 gGt (eV 3) (eC (.int 4)))]))]))
  (aC (sA 7 (eF uM [(eV 3),(eV 6),(eV 4)]))
  (aC (sA 8 Ce)
  (aC (cS (iR1 (eV 3)) (bN 9)
  zB)
  (cS (iS (eB iP [(eV 8)])) (bT [9,10])
  zC)))))))))
noncomputable def ko:List Dat->Option RV:=fn 1 12
  (aC (cS (iRs (eC (.int 0)) (eB mE [(eC (.int 1)),(eB gY [(eB d9 [(eV 0)]),(eC (.int 6))])]) (eC (.int 3))) (bN 1)
  sH)
  (sR (eC (.bl true))))
end P
local macro_rules|`(tactic|trivial)=>`(tactic|first | (dsimp only[List.set];first | done | rfl) | rfl)
local macro_rules | `(tactic| array_get_dec)=>`(tactic| first | with_reducible refine Dm.O_ ?_ | with_reducible refine Dm.N_ ?_ | ((with_reducible apply Dm.M_);(focus rfl)) | ((with_reducible apply Dm.Pw);(focus rfl)) | with_reducible refine Dm.O9 ?_ | (refine Dm.Pc ?_ (by trivial)) | (refine Dm.Py ?_ (by trivial)) | (refine Dm.WA.slot ?_ rfl (by trivial)) | with_reducible refine Dm.Pd ?_ (by decide) | with_reducible refine Dm.Pk ?_ | with_reducible refine Dm.Pg ?_ | with_reducible refine Dm.PK ?_ | with_reducible refine Dm.QH ?_ | with_reducible refine Dm.Qd ?_ | with_reducible refine Dm.QO ?_ | (refine Dm.Pb ?_) | (refine Dm.bS.mk ?_) | with_reducible refine Dm.PY ?_ | with_reducible refine Dm.PV ?_ | with_reducible refine Dm.O8 ?_ | with_reducible refine Dm.m_ ?_ | with_reducible refine Dm.PB ?_ | with_reducible refine Dm.Pe ?_ | with_reducible refine Dm.PR ?_ | with_reducible refine Dm.PZ ?_ | with_reducible refine Dm.P1 ?_ | with_reducible refine Dm.Q9 ?_ | with_reducible refine Dm.P9 ?_ | with_reducible refine Dm.We.Or ?_ | with_reducible refine Dm.Q0 ?_ | with_reducible refine Dm.QV ?_ | with_reducible refine Dm.We.SlT ?_ | with_reducible refine Dm.Wp.none ?_ | with_reducible refine Dm.Wp.some ?_ | (refine Dm.Wsl.A (zf:=Dat.int) ?_ rfl) | (refine Dm.Wsl.mk ?_ rfl) | (refine Dm.Pn ?_ rfl (by trivial) (by exact Nat.le_of_ble_eq_true rfl)) | (refine Dm.Po ?_) | (refine Dm.P4 ?_) | (refine Dm.QL ?_ rfl (by trivial)) | with_reducible refine Dm.Ra ?_ | with_reducible refine Dm.Q8 ?_ | with_reducible refine Dm.QT ?_ | (refine Dm.Ma ?_ rfl) | (refine Dm.n5 rfl ?_) | (refine Dm.nX ?_ rfl (by trivial) ?_) | (refine Dm.Qk ?_ rfl) | (refine Dm.kc ?_ rfl (by trivial) ?_) | with_reducible refine Dm.Ws.U ?_ | (refine Dm.LQ ?_ rfl (by trivial)) | with_reducible refine Dm.Pj ?_ | (refine Dm.QE ?_) | (refine Dm.PN ?_) | (refine Dm.Qf ?_ rfl) | with_reducible refine Dm.Pq ?_ | with_reducible refine Dm.Ws.bk ?_ | with_reducible refine Dm.Ws.ct ?_ | with_reducible refine Dm.Qi ?_ | with_reducible refine Dm.Pz ?_ | with_reducible refine Dm.Qj ?_ | with_reducible refine Dm.Wi.L ?_ | with_reducible refine Dm.Qc ?_ | with_reducible refine Dm.QN ?_ | (refine Dm.cP ?_) | (refine Dm.KZ ?_) | (refine Dm.Qh ?_ rfl rfl) | (refine Dm.P8 ?_ rfl rfl) | (refine Dm.Wg2.L5 ?_ rfl rfl ?_) | (refine Dm.Wg2.L6 ?_ rfl rfl ?_) | (refine Dm.Wg2.eqb ?_ rfl rfl) | (refine Dm.Qu ?_ rfl rfl) | (refine Dm.Wg2.LR ?_ rfl rfl) | (refine Dm.Wg2.isb ?_ rfl rfl) | (refine Dm.P7 ?_ rfl rfl) | (refine Dm.Q2 ?_ rfl rfl) | (refine Dm.P_ ?_ rfl rfl) | (refine Dm.Qp ?_ rfl rfl) | (refine Dm.Pp ?_ rfl rfl) | (refine Dm.Wg2.Mb ?_ rfl rfl ?_) | (refine Dm.Wg2.L7 ?_ rfl rfl ?_) | (refine Dm.QC ?_ rfl rfl ?_) | (refine Dm.PX ?_ rfl rfl) | (refine Dm.PL ?_ rfl rfl (by first | exact Or.inl (by decide) | exact Or.inr (by decide))) | (refine Dm.PL ?_ rfl rfl ?_) | (refine Dm.Qn ?_ rfl rfl (by decide)) | (refine Dm.Qn ?_ rfl rfl ?_) | (refine Dm.PM ?_ rfl rfl (by decide)) | (refine Dm.PM ?_ rfl rfl ?_) | (refine Dm.Qz ?_ rfl rfl) | (refine Dm.Q3 ?_ rfl rfl) | (refine Dm.Wg2.inP ?_ rfl rfl) | (refine Dm.Q5 ?_ rfl rfl) | (refine Dm.Pa ?_ rfl rfl rfl) | (refine Dm.Qg (zf:=Dat.int) ?_ rfl) | (refine Dm.Q4 ?_ rfl) | (refine Dm.QS ?_ rfl) | (refine Dm.P6 ?_ rfl) | (refine Dm.Qy ?_ rfl) | (refine Dm.WB.list ?_ rfl) | (refine Dm.QG ?_ rfl) | (refine Dm.WB.sum2 ?_ rfl ?_) | (refine Dm.QX (zf:=Dat.int) ?_ rfl) | (refine Dm.Qa ?_ rfl rfl))
namespace P
open Dm Fl
noncomputable def bM(t:Tie):Dat:=.tup [.int t.m,.int t.a,.int t.b]
noncomputable def aH(r:List Tie):Dat:=.lst (r.map bM)
noncomputable def bA(s:Step):Dat:=.tup [.int s.1,.int s.2]
noncomputable def b5(w:List Step):Dat:=.lst (w.map bA)
def Pl(n:Nat)(r:List Tie):Prop:=∀t∈r,0<=t.a/\t.a<n/\0<=t.b/\t.b<n
noncomputable def b7(x:Int)(t:Tie):Option Step:=if t.a=t.b then none else if t.a=x then some (t.m,t.b) else if t.b=x then some (t.m,t.a) else none
noncomputable def aD(r:List Tie)(x:Int):List Step:=r.filterMap (b7 x)
noncomputable def bJ(n:Nat)(r:List Tie):List (List Dat):=(Mm n).map fun i:Nat=>(aD r i).map bA
theorem uQ{i e:FE}{ρ ρ1 ρ2 ρ3:Env}{rows:List (List Dat)}{k:Int}{m:Nat}{row:List Dat}{x:Val}{d:Dat}(h1:i ρ=some (.val (.int k),ρ1))(h2:ixN rows.length k=some m)(h3:rows[m]?=some row)(h4:e ρ1=some (x,ρ2))(h5:tk ρ2 x=some (d,ρ3))(h6:row.length<SZ) :
  rY i e ρ rows=some (ρ3,rows.set m (row++[d])):=by
 unfold rY;rw[h1];dsimp only;rw[h2];dsimp only;rw[h3];dsimp only;rw[h4];dsimp only;rw[h5];dsimp only;rw[if_pos h6]
theorem iu(r:List Tie)(t:Tie)(x:Int):aD (r++[t]) x=aD r x++(b7 x t).toList:=by
 unfold aD;rw[List.filterMap_append];cases h:b7 x t with
 |none=>simp[h]
 |some s=>simp[h]
theorem zD{n:Nat}{k:Int}(h0:0<=k)(h1:k<n):ixN n k=some k.toNat:=by unfold ixN;rw[if_pos h0,if_pos h1]
theorem fu(n:Nat)(r:List Tie)(i:Nat)(h:i<n):(bJ n r)[i]?=some ((aD r i).map bA):=by unfold bJ;rw[MA,Nf h];rfl
theorem cD(n:Nat)(r:List Tie):(bJ n r).length=n:=by simp[bJ]
theorem cQ(r:List Tie)(x:Int):(aD r x).length<=r.length:=List.length_filterMap_le _ _
theorem sI(n:Nat)(r:List Tie)(t:Tie)(h:t.a≠t.b)(a0:0<=t.a)(a1:t.a<n)(b0:0<=t.b)(b1:t.b<n) :
  ((bJ n r).set t.a.toNat ((aD r t.a).map bA++[bA (t.m,t.b)])).set t.b.toNat ((aD r t.b).map bA++[bA (t.m,t.a)])=bJ n (r++[t]):=by
 apply NN;intro i;by_cases hi:i<n
 ·rw[fu _ _ _ hi,iu,Mt];by_cases eb:t.b.toNat=i
  ·have e:(i:Int)=t.b:=by lia
   rw[<- eb,My (by rw[MK,cD];lia),eb,e];have:b7 t.b t=some (t.m,t.a):=by unfold b7;rw[if_neg h,if_neg (fun z=>h z),if_pos rfl]
   rw[this];rfl
  ·rw[gV eb];by_cases ea:t.a.toNat=i
   ·have e:(i:Int)=t.a:=by lia
    rw[<- ea,My (by rw[cD];lia),ea,e];have:b7 t.a t=some (t.m,t.b):=by unfold b7;rw[if_neg h,if_pos rfl]
    rw[this];rfl
   ·rw[gV ea,fu _ _ _ hi];have:b7 i t=none:=by unfold b7;rw[if_neg h,if_neg (by lia),if_neg (by lia)]
    rw[this];simp
 ·rw[MS (by rw[MK,MK,cD];lia),MS (by rw[cD];lia)]
theorem sJ(n:Nat)(r:List Tie)(t:Tie)(h:t.a=t.b):bJ n (r++[t])=bJ n r:=by
 unfold bJ;apply NW;intro i _;rw[iu];have:b7 i t=none:=by unfold b7;rw[if_pos h]
 rw[this];simp
theorem wg(n:Nat)(r:List Tie)(t:Tie)(hl:r.length<1000)(a0:0<=t.a)(a1:t.a<n)(b0:0<=t.b)(b1:t.b<n)(c0 c1 c2:Cell) :
  ir [c0,c1,c2,.sh (.int t.m),.sh (.int t.a),.sh (.int t.b)] (bJ n r)=some ([c0,c1,c2,.sh (.int t.m),.sh (.int t.a),.sh (.int t.b)],bJ n (r++[t])):=by
 have ht:tV (e2 gNe (eV 4) (eV 5)) [c0,c1,c2,.sh (.int t.m),.sh (.int t.a),.sh (.int t.b)]=some (!decide (t.a=t.b),[c0,c1,c2,.sh (.int t.m),.sh (.int t.a),.sh (.int t.b)]):=by unfold tV e2 eV;simp[pk,nY,RV.aY]
 unfold ir nIf;rw[ht];by_cases h:t.a=t.b
 ·rw[decide_eq_true h];rw[sJ n r t h];rfl
 ·rw[decide_eq_false h];show vY _ _ _ _=_;unfold vY;have k1:=(cQ r t.a)
  have k2:=(cQ r t.b)
  have hz:SZ=100000:=rfl;have ea:((t.a.toNat:Nat):Int)=t.a:=by lia
  have eb:((t.b.toNat:Nat):Int)=t.b:=by lia
  rw[uQ (k:=t.a) (m:=t.a.toNat) (row:=(aD r t.a).map bA) (d:=bA (t.m,t.b)) (ρ3:=[c0,c1,c2,.sh (.int t.m),.sh (.int t.a),.sh (.int t.b)]) rfl (by rw[cD];exact zD a0 a1) (by rw[fu _ _ _ (by lia),ea]) rfl rfl (by rw[Dp];lia)];dsimp only;rw [uQ (k:=t.b) (m:=t.b.toNat) (row:=(aD r t.b).map bA) (d:=bA (t.m,t.a)) (ρ3:=[c0,c1,c2,.sh (.int t.m),.sh (.int t.a),.sh (.int t.b)]) rfl (by rw [MK,cD];exact zD b0 b1)
   (by rw[gV (by lia),fu _ _ _ (by lia),eb]) rfl rfl (by rw[Dp];lia)]
  rw[sI n r t h a0 a1 b0 b1]
theorem kq(n:Nat)(c0 c1 c2:Cell):∀(q p:List Tie) (c3 c4 c5:Cell),Pl n q->p.length+q.length<=1000 ->
  ∃c3' c4' c5',jc (bT [3,4,5]) ir (q.map bM) [c0,c1,c2,c3,c4,c5] (bJ n p)=some ([c0,c1,c2,c3',c4',c5'],bJ n (p++q))
 |[],p,c3,c4,c5,_,_=>⟨c3,c4,c5,by rw[Nb];rfl⟩
 |t::q,p,c3,c4,c5,hp,hl=>by obtain⟨a0,a1,b0,b1⟩:=hp t Mg;rw[MU]at hl;obtain⟨c3',c4',c5',e⟩:=kq n c0 c1 c2 q (p++[t]) (.sh (.int t.m)) (.sh (.int t.a)) (.sh (.int t.b)) (fun u hu=>hp u (Mh _ hu)) (by rw[Mr,M9];lia);refine⟨c3',c4',c5',?_⟩;rw[eg,jc];show (match ir [c0,c1,c2,.sh (.int t.m),.sh (.int t.a),.sh (.int t.b)] (bJ n p) with | none=>none | some (ρ2,r2)=>jc (bT [3,4,5]) ir (q.map bM) ρ2 r2)=_;rw[wg n p t (by lia) a0 a1 b0 b1];dsimp only;rw[e,OE];rfl
theorem zF(pre:Env)(k:Nat)(hk:pre.length=k)(h0:k≠0):∀(ds:List Dat) (c:Cell),∃c',nMk (bN k) ds (pre++[c])=some (pre++[c'])
 |[],c=>⟨c,rfl⟩
 |d::ds,c=>by
  obtain⟨c',e⟩:=zF pre k hk h0 ds (.sh d);refine⟨c',?_⟩;rw[nMk];have:bN k d (pre++[c])=some (pre++[.sh d]):=by unfold bN;rw[if_neg h0,ND _ _ (by lia)];simp[hk]
  rw[this];exact e
noncomputable def br(n:Nat)(R:Int->List Step):Dat:=.lst ((Mm n).map fun i:Nat=>b5 (R i))
theorem p_(n:Nat)(hn:n<=1000)(r:List Tie)(hr:Pl n r)(hl:r.length<=1000):Cm [.int n,aH r]=some (.new (br n (aD r))):=by
 obtain⟨c3,c4,c5,e⟩:=kq n (.sh (.int n)) (.sh (aH r)) .un r [] .un .un .un hr (by simpa using hl);obtain⟨c',e2⟩:=zF [.sh (.int n),.sh (aH r),.un,.un,.un,.un] 6 rfl (by decide) (ups 0 n) .un;have h0:bJ n []=Dk n []:=by
  unfold bJ aD;apply NN;intro i;by_cases hi:i<n
  ·rw[MA,Nf hi,MV,if_pos hi];rfl
  ·rw[MS (by simp;lia),MS (by simp;lia)]
 have hu:(ups 0 n).length=n:=by simp[ups]
 have e1:iR1 (eV 0) [.sh (.int n),.sh (aH r),.un,.un,.un,.un]=some (ups 0 n,[.sh (.int n),.sh (aH r),.un,.un,.un,.un]):=by show (if (n:Int)<=BIG/\-BIG<=(n:Int) then some (ups 0 (n:Int).toNat,_) else none)=_;rw[if_pos (by unfold BIG;lia)];rfl
 rw[h0,NX]at e;have en:j4 2 (iR1 (eV 0)) 1 (bN 6) (rZ (iS (eV 1)) (bT [3,4,5]) ir) [.sh (.int n),.sh (aH r),.un,.un,.un,.un]=some (.nx [.sh (.int n),.sh (aH r),.ow (br n (aD r)),c3,c4,c5]):=by
  unfold j4;rw[if_neg (by decide),e1];dsimp only;rw[if_pos (by rw[hu];unfold SZ;lia)];show (match nMk (bN 6) (ups 0 n) ([.sh (.int n),.sh (aH r),.un,.un,.un,.un]++[.un]) with | none=>none | some ρ2=>_)=_;rw[e2];dsimp only;rw[hu];show (match rZ (iS (eV 1)) (bT [3,4,5]) ir [.sh (.int n),.sh (aH r),.un,.un,.un,.un] (Dk n []) with | none=>none | some (ρ3,r3)=>_)=_;have:rZ (iS (eV 1)) (bT [3,4,5]) ir [.sh (.int n),.sh (aH r),.un,.un,.un,.un] (Dk n [])=some ([.sh (.int n),.sh (aH r),.un,c3,c4,c5],bJ n r):=e;rw[this];have e3:(bJ n r).map Dat.lst=(Mm n).map fun i:Nat=>b5 (aD r i):=by unfold bJ;rw[M4];rfl
  show some (Out.nx [.sh (.int n),.sh (aH r),.ow (.lst ((bJ n r).map Dat.lst)),c3,c4,c5])=_;rw[e3];rfl
 apply Pu;unfold Cm
 (refine Dm.Ph ?_ rfl rfl;and_intros)
 refine O_ ⟨_,en,?_⟩;refine Pj (Pw rfl (Qf ?_ rfl));rfl
noncomputable def hdF(h:List (Int×Int)):Hd:=fun m=>(h.find? fun e=>decide (e.1=m)).map (·.2)
noncomputable def hk(h:List (Int×Int)):List Int:=h.map (·.1)
noncomputable def hv(h:List (Int×Int)):List Dat:=h.map fun e=>Dat.int e.2
noncomputable def aT(h:List (Int×Int)):Dat:=.dct (hk h) (hv h)
theorem jz(h:List (Int×Int))(m:Int):bq (hk h) (hv h) m=(hdF h m).map Dat.int:=by
 unfold hk hv hdF
 induction h with
 |nil=>rfl
 |cons e h ih=>
  rw[eg,eg,bq,Nc];by_cases q:e.1=m
  ·rw[if_pos q,decide_eq_true q];rfl
  ·rw[if_neg q,decide_eq_false q];exact ih
theorem n8{h:List (Int×Int)}{m:Int}:(hdF h m).isSome=decide (m∈hk h):=by
 unfold hdF hk
 induction h with
 |nil=>rfl
 |cons e h ih=>
  rw[Nc];by_cases q:e.1=m
  ·rw[decide_eq_true q];simp[q]
  ·rw[decide_eq_false q];have q':¬m=e.1:=fun z=>q z.symm;simp only[eg,Mj,q',false_or];exact ih
theorem GB(o:Option Int)(y:Int):gNe ((o.map Dat.int).getD .non) (.int y)=vB (!decide (o=some y)):=by
 cases o with
 |none=>rfl
 |some z=>
  show gNe (.int z) (.int y)=_;rw[nY];have:(z=y)=(some z=some y):=by simp
  simp only[this]
theorem GC(o:Option Int)(y:Int):gEq ((o.map Dat.int).getD .non) (.int y)=vB (decide (o=some y)):=by
 cases o with
 |none=>rfl
 |some z=>
  show gEq (.int z) (.int y)=_;rw[uy];have:(z=y)=(some z=some y):=by simp
  simp only[this]
noncomputable def qc(h:List (Int×Int))(R:Int->List Step):Int->List Step:=fun x=>(R x).filter fun s=>!decide (hdF h s.1=some s.2)
noncomputable def qd(h:List (Int×Int))(R:Int->List Step):Int->List Step:=fun x=>(R x).filter fun s=>decide (hdF h s.1=some s.2)
theorem uR(g:Dat->Dat->Option RV)(p:Option Int->Int->Bool)(hg:∀o y,g ((o.map Dat.int).getD .non) (.int y)=vB (p o y))(h:List (Int×Int))(A:Cell)(w:List Step)(hl:w.length<=1000) :
  We (aS 2 1 (bN 3) (tV (e2 g (ja (eV 1) (e2 gIx (eV 3) (eC (.int 0)))) (e2 gIx (eV 3) (eC (.int 1))))) (eV 3)) [A,.sh (aT h),.sh (b5 w)] fun v ρ'=>Wk ρ' v fun d ρ''=>d=b5 (w.filter fun s=>p (hdF h s.1) s.2)/\ρ''=[A,.sh (aT h),.sh (b5 w)]:=by
 refine QW bA w (fun s=>p (hdF h s.1) s.2) id bA (d:=b5 w) ?_ rfl rfl rfl (by decide) (by unfold SZ;lia) (fun s _=>?_) fun s _ _=>?_
 ·rw[OR];exact P4 ⟨rfl,rfl⟩
 ·refine Pg (N_ (Rz (M_ rfl ⟨⟨_,_,rfl⟩,N_ (M_ rfl (O9 (Pa ?_ rfl rfl rfl)))⟩)));refine⟨hk h,hv h,s.1,rfl,rfl,N_ (M_ rfl (O9 (Pa ?_ rfl rfl rfl)))⟩;refine⟨_,_,_,rfl,rfl,(by rw[jz];exact hg _ _),?_⟩;exact Pb ⟨rfl,rfl⟩
 ·exact M_ rfl (Po ⟨rfl,rfl⟩)
theorem fG(n:Nat)(hn:n<=1000)(R:Int->List Step)(hR:∀i:Nat,i<n->(R i).length<=1000)(h:List (Int×Int)):zm [br n R,aT h]=some (.new (br n (qc h R))):=by
 apply Pu;unfold zm
 (refine Dm.Ph ?_ rfl rfl;and_intros)
 refine Pj ?_;refine Qs (fun i:Nat=>b5 (R i)) (Mm n) id (fun i:Nat=>b5 (qc h R i)) (d:=br n R) ?_ rfl rfl rfl (by decide) (by rw[Mw];unfold SZ;lia) fun i hi=>?_
 ·rw[OR];rfl
 ·exact uR gNe (fun o y=>!decide (o=some y)) GB h _ (R i) (hR i (Nu.mp hi))
theorem n9(n:Nat)(hn:n<=1000)(R:Int->List Step)(hR:∀i:Nat,i<n->(R i).length<=1000)(h:List (Int×Int)):zo [br n R,aT h]=some (.new (br n (qd h R))):=by
 apply Pu;unfold zo
 (refine Dm.Ph ?_ rfl rfl;and_intros)
 refine Pj ?_;refine Qs (fun i:Nat=>b5 (R i)) (Mm n) id (fun i:Nat=>b5 (qd h R i)) (d:=br n R) ?_ rfl rfl rfl (by decide) (by rw[Mw];unfold SZ;lia) fun i hi=>?_
 ·rw[OR];rfl
 ·exact uR gEq (fun o y=>decide (o=some y)) GC h _ (R i) (hR i (Nu.mp hi))
theorem Co(ks:List Int)(i:Int):(ks.any fun k=>decide (k=i))=decide (i∈ks):=by
 induction ks with
 |nil=>rfl
 |cons k ks ih=>
  rw[Ng,ih];by_cases h:k=i
  ·simp[h]
  ·have h':¬i=k:=fun z=>h z.symm;simp[h,h']
theorem uS{ks:List Int}{vs:List Dat}{i:Int}{d:Dat}(h:i∉ks):i9 ks i=ks++[i]/\i_ ks vs i d=vs++[d]:=by unfold i9 i_;rw[Co,decide_eq_false h];exact⟨rfl,rfl⟩
theorem wj{α:Type}(key:α->Int)(val:α->Dat)(xs:List α)(i:Int):bq (xs.map key) (xs.map val) i=(xs.find? fun x=>decide (key x=i)).map val:=by
 induction xs with
 |nil=>rfl
 |cons x xs ih=>
  rw[eg,eg,bq,Nc];by_cases h:key x=i
  ·simp[h]
  ·simp[h,ih]
theorem cZ{α:Type}[DecidableEq α]:∀(l m:List α),l.Nodup->(∀x∈l,x∈m)->l.length<=m.length
 |[],_,_,_=>MR _
 |x::l,m,h,k=>by
  obtain⟨h1,h2⟩:=MG.mp h;have hx:x∈m:=k x Mg;have:=cZ l (m.erase x) h2 fun y hy=>(List.mem_erase_of_ne (fun e:y=x=>h1 (by rw[<- e];exact hy))).mpr (k y (Mh _ hy));rw[List.length_erase_of_mem hx]at this;have:=List.length_pos_of_mem hx;simp
  lia
noncomputable def places(n:Nat):List Int:=(Mm n).map fun i:Nat=>(i:Int)
theorem places_len(n:Nat):(places n).length=n:=by simp[places]
theorem sL(n:Nat)(x:Int):x∈places n↔0<=x/\x<n:=by
 unfold places;rw[MD];constructor
 ·rintro⟨i,hi,rfl⟩;have:=Nu.mp hi
  lia
 ·rintro⟨h0,h1⟩;exact⟨x.toNat,Nu.mpr (by lia),by lia⟩
noncomputable abbrev Sr:=List (Int×List Step)
noncomputable def sk(s:Sr):List Int:=s.map (·.1)
noncomputable def sv(s:Sr):List Dat:=s.map fun e=>b5 e.2
def InR(R:Int->List Step)(p:Int)(s:Step):Prop:=s∈R p
structure zG(R:Int->Step->Prop)(a:Int)(w:List Step)(p:Int):Prop where
 way:Way R a w p
 nd:(a::w.map (·.2)).Nodup
structure Fnd(n:Nat)(R:Int->List Step)(a:Int)(s:Sr):Prop where
 nd:(sk s).Nodup
 pl:∀x∈sk s,0<=x/\x<n
 st:a∈sk s
 way:∀e∈s,zG (InR R) a e.2 e.1/\∀x∈a::e.2.map (·.2),x∈sk s
theorem Fnd.len{n:Nat}{R:Int->List Step}{a:Int}{s:Sr}(h:Fnd n R a s):s.length<=n:=by
 have:=cZ (sk s) (places n) h.nd fun x hx=>(sL n x).mpr (h.pl x hx);rw[places_len]at this
 simpa [sk] using this
theorem Fnd.Cp{n:Nat}{R:Int->List Step}{a:Int}{s:Sr}(h:Fnd n R a s){e:Int×List Step}(he:e∈s):e.2.length<s.length:=by
 obtain⟨h1,h2⟩:=h.way e he;have:=cZ (a::e.2.map (·.2)) (sk s) h1.nd h2;simp[sk]at this
 lia
theorem cB(s:Sr)(x:Int)(w:List Step):sk (s++[(x,w)])=sk s++[x]:=by simp[sk]
theorem Cq(s:Sr)(x:Int)(w:List Step):sv (s++[(x,w)])=sv s++[b5 w]:=by simp[sv]
theorem n_(s:Sr)(x:Int):(∃w,(x,w)∈s/\bq (sk s) (sv s) x=some (b5 w))\/(x∉sk s/\bq (sk s) (sv s) x=none):=by
 unfold sk sv;rw[wj (fun e:Int×List Step=>e.1) (fun e=>b5 e.2) s x];cases hf:s.find? fun e=>decide (e.1=x) with
 |none=>refine Or.inr ⟨fun h=>?_,rfl⟩;obtain⟨e,he,hx⟩:=MD.mp h;have:=Oz.mp hf e he;simp[hx]at this
 |some e=>
  have h1:=List.mem_of_find?_eq_some hf;have h2:=List.find?_some hf;have h2:e.1=x:=by simpa using h2
  exact Or.inl ⟨e.2,by rw[<- h2];exact h1,rfl⟩
theorem jh(s:Sr)(x:Int):(bq (sk s) (sv s) x).isSome=decide (x∈sk s):=by
 rcases n_ s x with⟨ts,h1,h2⟩ | ⟨h1,h2⟩
 ·have:x∈sk s:=MD.mpr ⟨_,h1,rfl⟩;rw[h2,decide_eq_true this];rfl
 ·rw[h2,decide_eq_false h1];rfl
theorem Fnd.start{n:Nat}{R:Int->List Step}{a:Int}(a0:0<=a)(a1:a<n):Fnd n R a [(a,[])] where
 nd:=by simp[sk]
 pl:=by intro x hx;simp[sk]at hx;subst hx;exact⟨a0,a1⟩
 st:=by simp[sk]
 way:=by intro e he;simp at he;subst he;exact⟨⟨rfl,by simp⟩,by simp[sk]⟩
theorem Fnd.step{n:Nat}{R:Int->List Step}{a:Int}{s:Sr}(h:Fnd n R a s){p:Int}{w:List Step}(hp:(p,w)∈s){u:Step}(hu:u∈R p)(hn:u.2∉sk s)(u0:0<=u.2)(u1:u.2<n):Fnd n R a (s++[(u.2,w++[u])]) where
 nd:=by rw[cB];exact Np.mpr ⟨h.nd,by simp,fun x hx y hy=>by rw[Mu.mp hy];exact fun e=>hn (e▸hx)⟩
 pl:=by
  intro x hx;rw[cB]at hx;rcases Mv.mp hx with hx | hx
  ·exact h.pl x hx
  ·rw[Mu.mp hx];exact⟨u0,u1⟩
 st:=by rw[cB];exact MF _ h.st
 way:=by
  intro e he;rw[cB];rcases Mv.mp he with he | he
  ·obtain⟨k1,k2⟩:=h.way e he;exact⟨k1,fun x hx=>MF _ (k2 x hx)⟩
  ·rw[Mu.mp he];obtain⟨k1,k2⟩:=h.way _ hp;refine⟨⟨k1.way.snoc hu,?_⟩,fun x hx=>?_⟩
   ·dsimp only at k1 k2 ⊢;rw[Mt,<- NV];exact Np.mpr ⟨k1.nd,by simp,fun x hx y hy=>by rw[Mu.mp hy];exact fun e:x=u.2=>hn (by rw[<- e];exact k2 x hx)⟩
   ·dsimp only at k1 k2 hx ⊢;rw[Mt,<- NV]at hx;rcases Mv.mp hx with hx | hx
    ·exact MF _ (k2 x hx)
    ·exact Mx _ (by simpa using hx)
def Done(R:Int->List Step)(K:List Int)(x:Int):Prop:=∀u∈R x,u.2∈K
noncomputable def Cr(n:Nat)(R:Int->List Step)(a:Int)(s:Sr)(ps:List Int)(c4 c5:Cell):Env:=[.sh (br n R),.sh (.int a),.ow (.dct (sk s) (sv s)),.ow (.lst (ps.map Dat.int)),c4,c5]
theorem GD{ps:List Int}{p0:Int}{i:Nat}{e:FE}{ρ ρ2:Env}{Q:Val->Env->Prop}(q:Q (.val (.int p0)) ρ2)(h:ρ[i]?=some (.ow (.lst ((p0::ps).map Dat.int))))(he:e ρ=some (.val (.int 0),ρ))(hs:ρ.set i (.ow (.lst (ps.map Dat.int)))=ρ2):We (iM i e) ρ Q:=
 ⟨_,_,by unfold iM;rw[h];dsimp only;rw[he];dsimp only;rw[h];dsimp only;rw[if_pos (by unfold BIG;lia)];show some (Val.val (.int p0),ρ.set i (.ow (.lst (ps.map Dat.int))))=_;rw[hs],q⟩
theorem Cs(n:Nat)(R:Int->List Step)(x:Int)(h0:0<=x)(h1:x<n):gIx (br n R) (.int x)=some (.val (b5 (R x))):=by
 unfold br gIx;dsimp only;rw[jy (fun i:Nat=>b5 (R i)) (Mm n) x h0 (by rw[Mw];exact h1)];have e:(((Mm n)[x.toNat]'(by rw[Mw];lia):Nat):Int)=x:=by rw[List.getElem_range];lia
 rw[e];rfl
theorem ji(n:Nat)(hn:n<=40)(R:Int->List Step)(hR:∀i:Int,0<=i->i<n->∀u∈R i,0<=u.2/\u.2<n)(a:Int)(a0:0<=a)(a1:a<n) :
  ∃s:Sr,p5 [br n R,.int a]=some (.new (.dct (sk s) (sv s)))/\Fnd n R a s/\∀x∈sk s,Done R (sk s) x:=by
 suffices h:Wr (p5 [br n R,.int a]) fun v=>∃s:Sr,v=.new (.dct (sk s) (sv s))/\Fnd n R a s/\∀x∈sk s,Done R (sk s) x by obtain⟨v,h1,s,rfl,h2⟩:=h;exact⟨s,h1,h2⟩
 unfold p5
 (refine Dm.Ph ?_ rfl rfl;and_intros)
 refine O_ (Pd ?_ (by decide));refine Q8 (M_ rfl (bS.mk (PZ (O8 (Pn ?_ rfl (by trivial) (by exact Ml rfl))))));refine Po (Py ?_ (by trivial));refine O_ (Pd ?_ (by decide));refine PZ (m_ (M_ rfl (O8 (Pn ?_ rfl (by trivial) (by exact Ml rfl)))));refine Py ?_ (by trivial);refine O_ ?_;refine Qo (fun k ρ=>∃(s:Sr) (ps:List Int) (c4 c5:Cell),ρ=Cr n R a s ps c4 c5/\Fnd n R a s/\(∀x∈ps,x∈sk s)/\(∀x∈sk s,x∈ps\/Done R (sk s) x)/\k=ps.length+(n-s.length)/\k<=40) ?_ 100 n _ (by lia) ⟨[(a,[])],[a],_,_,rfl,Fnd.start a0 a1,by simp[sk],by simp[sk],by simp;lia,hn⟩;rintro k ρ ⟨s,ps,c4,c5,rfl,F,hps,hd,hk,Mc⟩;unfold Cr;refine Ry ?_;refine Pw rfl ?_;refine⟨_,!(ps.map Dat.int).isEmpty,rfl,rfl,?_⟩;have len:=F.len;cases ps with
 |nil=>refine PF rfl ?_;refine Pj (Pw rfl (Qf ?_ rfl));exact⟨s,rfl,F,fun x hx=>(hd x hx).resolve_left (by simp)⟩
 |cons p0 ps0=>
  refine Qm rfl ?_;unfold DM;refine O_ (Pd ?_ (by decide));refine GD (ps:=ps0) (p0:=p0) ?_ rfl rfl rfl;refine Pc ?_ (by trivial);have hp0:p0∈sk s:=hps p0 (by simp);obtain⟨q0,q1⟩:=F.pl p0 hp0;refine Pz (Qj (N_ (M_ rfl (M_ rfl (Pa ?_ rfl rfl (Cs n R p0 q0 q1))))));refine Po (cP ?_);refine PD bA _ _ (R p0) _ _ _ _ _ (fun p q ρ=>∃(s:Sr) (ps:List Int) (c5:Cell),ρ=Cr n R a s ps (.sh (.int p0)) c5/\Fnd n R a s/\(∀x∈ps,x∈sk s)/\p0∈sk s/\(∀x∈sk s,x∈ps\/x=p0\/Done R (sk s) x)/\(∀u∈p,u.2∈sk s)/\k=ps.length+1+(n-s.length)) ⟨s,ps0,_,rfl,F,fun x hx=>hps x (by simp[hx]),hp0,?_,by simp,by rw[hk];simp⟩ ?_ ?_
  ·intro x hx;rcases hd x hx with h | h
   ·rcases Mj.mp h with h | h
    ·exact .inr (.inl h)
    ·exact .inl h
   ·exact .inr (.inr h)
  ·rintro p u q ρ e' ⟨s,ps,c5,rfl,F,hps,hp0,hd,hp,hk⟩;have len:=F.len;have hu:u∈R p0:=by rw[e'];simp
   obtain⟨u0,u1⟩:=hR p0 q0 q1 u hu;unfold Cr;refine Dm.aX rfl (by trivial) ?_;unfold DL;refine Pk (Pg (N_ (N_ (M_ rfl (O9 (Pa ?_ rfl rfl rfl))))));refine Pw rfl (Q3 ?_ rfl rfl);refine Pb ?_;rw[jh];refine⟨fun h=>?_,fun h=>?_⟩
   ·have hnew:=ndT h;obtain⟨w,t1,t2⟩:∃w,(p0,w)∈s/\bq (sk s) (sv s) p0=some (b5 w):=by
     rcases n_ s p0 with h | h
     ·exact h
     ·exact absurd hp0 h.1
    have wl:=F.Cp t1;refine O_ (QT (N_ (N_ (Pw rfl (M_ rfl (QI t2 ?_ rfl rfl))))));refine PZ (m_ (M_ rfl (O8 (Pn ?_ rfl rfl (by exact Ml rfl)))));refine QC ?_ rfl rfl (by rw[Dp];dsimp only at wl;simp;unfold SZ;lia);refine P4 (n5 rfl (N_ (M_ rfl (O9 (Pa ?_ rfl rfl rfl)))));refine bS.mk (nX ?_ rfl (by trivial) (by simp only[sk,Dp];unfold SZ;lia));refine Qk (N_ (M_ rfl (O9 (Pa ?_ rfl rfl rfl)))) rfl;refine Po (kc ?_ rfl (by trivial) (by rw[Dp];unfold SZ;lia));have F':=F.step t1 hu hnew u0 u1;have len':=F'.len;have em:Dat.lst (w.map bA++[bA u])=b5 (w++[u]):=by simp[b5]
    obtain⟨p1,p2⟩:=uS (ks:=sk s) (vs:=sv s) (i:=u.2) (d:=b5 (w++[u])) hnew;refine⟨s++[(u.2,w++[u])],ps++[u.2],.sh (bA u),?_,F',?_,?_,?_,?_,?_⟩
    ·rw[em,p1,p2,cB,Cq,Mt];rfl
    ·intro x hx;rw[cB];rcases Mv.mp hx with hx | hx
     ·exact MF _ (hps x hx)
     ·exact Mx _ hx
    ·rw[cB];exact MF _ hp0
    ·intro x hx;rw[cB]at hx ⊢;rcases Mv.mp hx with hx | hx
     ·rcases hd x hx with h | h | h
      ·exact .inl (MF _ h)
      ·exact .inr (.inl h)
      ·exact .inr (.inr fun y hy=>MF _ (h y hy))
     ·exact .inl (Mx _ hx)
    ·intro v hv;rw[cB];rcases Mv.mp hv with hv | hv
     ·exact MF _ (hp v hv)
     ·rw[Mu.mp hv];simp
    ·rw[hk];simp at len' ⊢;lia
   ·have hold:=ndF h;refine Pq ?_;refine⟨s,ps,.sh (bA u),rfl,F,hps,hp0,hd,fun v hv=>?_,hk⟩;rcases Mv.mp hv with hv | hv
    ·exact hp v hv
    ·rw[Mu.mp hv];exact hold
  ·rintro ρ ⟨s,ps,c5,rfl,F,hps,hp0,hd,hp,hk⟩;refine⟨ps.length+(n-s.length),by lia,s,ps,_,_,rfl,F,hps,fun x hx=>?_,rfl,by lia⟩;rcases hd x hx with h | rfl | h
   ·exact .inl h
   ·exact .inr hp
   ·exact .inr h
noncomputable def jj(h:List (Int×Int))(s:Step):List (Int×Int):=if s.1∈hk h then h.filter fun e=>decide (e.1≠s.1) else h++[s]
theorem kr(h:List (Int×Int))(m:Int):hdF (h.filter fun e=>decide (e.1≠m))=put (hdF h) m none:=by
 funext x
 unfold put hdF;rw[List.find?_filter];by_cases e:x=m
 ·subst e;rw[if_pos rfl,Oz.mpr fun y _=>by simp];rfl
 ·rw[if_neg e]
  congr 1
  congr 1
  funext y
  by_cases q:y.1=x
  ·have:y.1≠m:=fun z=>e (q.symm.trans z);simp[q,e]
  ·simp[q]
theorem Ct(h:List (Int×Int))(s:Step)(hn:s.1∉hk h):hdF (h++[s])=put (hdF h) s.1 (some s.2):=by
 funext x
 unfold put hdF;rw[List.find?_append];by_cases e:x=s.1
 ·subst e;rw[if_pos rfl];have:(h.find? fun e=>decide (e.1=s.1))=none:=Oz.mpr fun y hy=>by
   intro z;exact hn (MD.mpr ⟨y,hy,of_decide_eq_true z⟩)
  rw[this];simp
 ·rw[if_neg e];have e':¬s.1=x:=fun z=>e z.symm;cases hf:(h.find? fun e=>decide (e.1=x)) with
  |none=>simp[e']
  |some y=>rfl
theorem zH(h:List (Int×Int))(s:Step):hdF (jj h s)=eU (hdF h) s.1 s.2:=by
 unfold jj eU;rw[n8];by_cases q:s.1∈hk h
 ·rw[if_pos q,if_pos (decide_eq_true q),kr]
 ·rw[if_neg q,if_neg (by simpa using q),Ct h s q]
noncomputable def bx(h:List (Int×Int)):List Step->List (Int×Int)
 |[]=>h
 |s::w=>bx (jj h s) w
theorem nc:∀(w:List Step) (h:List (Int×Int)),hdF (bx h w)=jf (hdF h) w
 |[],_=>rfl
 |s::w,h=>by rw[bx,jf,nc w,zH]
theorem eY:∀(w:List Step) (h:List (Int×Int)) (s:Step),bx h (w++[s])=jj (bx h w) s
 |[],_,_=>rfl
 |_::w,h,s=>by rw[NV,bx,bx,eY w]
theorem jA(h:List (Int×Int))(m:Int):dD (hk h) (hv h) m=hk (h.filter fun e=>decide (e.1≠m))/\dF (hk h) (hv h) m=hv (h.filter fun e=>decide (e.1≠m)):=by
 unfold hk hv
 induction h with
 |nil=>exact⟨rfl,rfl⟩
 |cons e h ih=>
  rw[eg,eg,dD,dF];by_cases q:e.1=m
  ·rw[if_pos q,if_pos q,M0 (by simpa using q)];exact ih
  ·rw[if_neg q,if_neg q,M3 (by simpa using q),eg,eg,ih.1,ih.2];exact⟨rfl,rfl⟩
structure Hok(r:List Tie)(h:List (Int×Int)):Prop where
 nd:(hk h).Nodup
 sub:∀m∈hk h,m∈r.map (·.m)
theorem Hok.len{r:List Tie}{h:List (Int×Int)}(k:Hok r h):h.length<=r.length:=by
 have:=cZ (hk h) (r.map (·.m)) k.nd k.sub
 simpa [hk] using this
theorem Hok.nil(r:List Tie):Hok r []:=⟨by simp[hk],by simp[hk]⟩
theorem Hok.drop{r:List Tie}{h:List (Int×Int)}(k:Hok r h)(m:Int):Hok r (h.filter fun e=>decide (e.1≠m)):=by refine⟨(k.nd.sublist (List.Sublist.map _ (Nt))),fun x hx=>k.sub x ?_⟩;obtain⟨e,he,rfl⟩:=MD.mp hx;exact MD.mpr ⟨e,(M7.mp he).1,rfl⟩
theorem Hok.lead{r:List Tie}{h:List (Int×Int)}(k:Hok r h){s:Step}(hs:s.1∈r.map (·.m)):Hok r (jj h s):=by
 unfold jj;split
 ·exact k.drop _
 ·rename_i q;refine⟨?_,fun x hx=>?_⟩
  ·unfold hk;rw[Mt];exact Np.mpr ⟨k.nd,by simp,fun x hx y hy=>by
    have:y=s.1:=by simpa using hy
    rw[this];exact fun e=>q (e▸hx)⟩
  ·unfold hk at hx;rw[Mt]at hx;rcases Mv.mp hx with hx | hx
   ·exact k.sub x hx
   ·have:x=s.1:=by simpa using hx
    rw[this];exact hs
theorem Hok.zI{r:List Tie}:∀{w:List Step} {h:List (Int×Int)},Hok r h->(∀s∈w,s.1∈r.map (·.m))->Hok r (bx h w)
 |[],_,k,_=>k
 |s::w,h,k,hs=>by rw[bx];exact Hok.zI (w:=w) (k.lead (hs s Mg)) fun u hu=>hs u (Mh _ hu)
theorem l7(r:List Tie)(hl:r.length<=1000)(h:List (Int×Int))(k:Hok r h)(w:List Step)(hw:∀s∈w,s.1∈r.map (·.m)):zp [aT h,b5 w]=some (.val .non,aT (bx h w)):=by
 suffices q:WrM (zp [aT h,b5 w]) fun z d=>z=.val .non/\d=aT (bx h w) by obtain⟨z,d,h1,rfl,rfl⟩:=q;exact h1
 unfold zp;refine QB ?_ rfl rfl;refine Pz (Qj (M_ rfl (Po (cP ?_))));refine PD bA _ _ w _ _ _ _ _ (fun p q ρ=>∃c2 c3,ρ=[.ow (aT (bx h p)),.sh (b5 w),c2,c3]) ⟨_,_,rfl⟩ ?_ ?_
 ·rintro p s q ρ e ⟨c2,c3,rfl⟩;refine Dm.aX rfl (by trivial) ?_;have kp:Hok r (bx h p):=k.zI fun u hu=>hw u (by rw[e];exact MF _ hu);have len:=kp.len;unfold DO;refine Pk (Pg (N_ (M_ rfl (Pw rfl (Qz ?_ rfl rfl)))));refine Pb ?_;rw[jz,NK,n8];refine P5 (fun hm=>?_) fun hm=>?_
  ·obtain⟨x,hx⟩:∃x,hdF (bx h p) s.1=some x:=Option.isSome_iff_exists.mp (by rw[n8];exact decide_eq_true hm);refine Qi (Rb (k:=s.1) (d:=.int x) (by rw[jz,hx];rfl) ?_ rfl rfl rfl);refine⟨.sh (.int s.1),.sh (.int s.2),?_⟩;rw[eY,jj,if_pos hm,(jA _ _).1,(jA _ _).2];rfl
  ·refine QT (M_ rfl (Po (n5 rfl (M_ rfl (bS.mk (nX ?_ rfl (by trivial) ?_))))))
   ·refine⟨.sh (.int s.1),.sh (.int s.2),?_⟩;rw[eY,jj,if_neg hm];obtain⟨p1,p2⟩:=uS (ks:=hk (bx h p)) (vs:=hv (bx h p)) (i:=s.1) (d:=.int s.2) hm;rw[p1,p2];unfold aT hk hv;rw[Mt,Mt];rfl
   ·unfold hk;rw[Dp];unfold SZ;lia
 ·rintro ρ ⟨c2,c3,rfl⟩;exact⟨_,rfl,rfl,rfl⟩
theorem jl{r:List Tie}{x:Int}{s:Step}:s∈aD r x↔eW r x s:=by
 unfold aD;rw[Ow];constructor
 ·rintro⟨t,ht,e⟩;unfold b7 at e;split at e
  ·cases e
  rename_i JR;split at e
  ·rename_i ha;cases e;exact⟨t,ht,rfl,JR,.inl ⟨ha,rfl⟩⟩
  ·split at e
   ·rename_i hb;cases e;exact⟨t,ht,rfl,JR,.inr ⟨hb,rfl⟩⟩
   ·cases e
 ·rintro⟨t,ht,hm,JR,he⟩;refine⟨t,ht,?_⟩;unfold b7;rw[if_neg JR];rcases he with⟨h1,h2⟩ | ⟨h1,h2⟩
  ·rw[if_pos h1,hm,h2]
  ·rw[if_neg (fun z=>JR (z.trans h1.symm)),if_pos h1,hm,h2]
theorem qe{n:Nat}{r:List Tie}(hp:Pl n r){x:Int}{s:Step}(h:eW r x s):(0<=x/\x<n)/\0<=s.2/\s.2<n:=by
 obtain⟨t,ht,_,_,he⟩:=h;have:=hp t ht
 lia
theorem Cu{r:List Tie}{x:Int}{s:Step}(h:eW r x s):s.1∈r.map (·.m):=by obtain⟨t,ht,hm,_⟩:=h;exact MD.mpr ⟨t,ht,hm⟩
theorem zJ{r:List Tie}{R:Int->Step->Prop}(hR:∀p s,R p s->eW r p s){y:Int}:∀{w:List Step} {x:Int},Way R x w y->∀s∈w,s.1∈r.map (·.m)
 |[],_,_,s,hs=>by cases hs
 |u::w,x,h,s,hs=>by
  rcases Mj.mp hs with rfl | hs
  ·exact Cu (hR _ _ h.1)
  ·exact zJ hR h.2 s hs
theorem ku{r:List Tie}{h:List (Int×Int)}{p:Int}{s:Step}:InR (qc h (aD r)) p s↔kg r (hdF h) p s:=by unfold InR qc kg;rw[M7,jl];simp
theorem oh{r:List Tie}{h:List (Int×Int)}{p:Int}{s:Step}:InR (qd h (aD r)) p s↔Led r (hdF h) p s:=by unfold InR qd Led;rw[M7,jl];simp
theorem wk(w:List Step):a_ (b5 w)=true:=fm _ _ fun s=>by unfold bA a_;exact iR _ (by intro x hx;simp at hx;rcases hx with rfl | rfl<;>exact mY _)
theorem fU(n:Nat)(R:Int->List Step):a_ (br n R)=true:=fm (fun i:Nat=>b5 (R i)) _ fun i=>wk _
noncomputable def mso(w:List Step):List Int:=w.map (·.1)
noncomputable def msD(w:List Step):Dat:=.lst ((mso w).map Dat.int)
noncomputable def bU(h:List (Int×Int)):List Int->List (Int×Int)
 |[]=>h
 |m::ms=>bU (h.filter fun e=>decide (e.1≠m)) ms
theorem jm:∀(ms:List Int) (h:List (Int×Int)) (m:Int),bU h (ms++[m])=(bU h ms).filter fun e=>decide (e.1≠m)
 |[],_,_=>rfl
 |_::ms,h,m=>by rw[NV,bU,bU,jm ms]
theorem iV:∀(w:List Step) (h:List (Int×Int)),hdF (bU h (mso w))=dQ (hdF h) w
 |[],_=>rfl
 |s::w,h=>by show hdF (bU _ (mso w))=dQ _ w;rw[iV w,kr]
theorem jn:∀(ms:List Int) (h:List (Int×Int)) (x:Int),x∉ms->hdF (bU h ms) x=hdF h x
 |[],_,_,_=>rfl
 |m::ms,h,x,hx=>by rw[bU,jn ms _ x fun z=>hx (Mh _ z),kr];unfold put;rw[if_neg fun z=>hx (by rw[z];exact Mg)]
theorem Hok.drops{r:List Tie}:∀{ms:List Int} {h:List (Int×Int)},Hok r h->Hok r (bU h ms)
 |[],_,k=>k
 |m::ms,h,k=>by rw[bU];exact Hok.drops (ms:=ms) (k.drop m)
theorem sM{r:List Tie}{H:Hd}{y:Int}:∀{w:List Step} {x:Int},Way (Led r H) x w y->∀s∈w,H s.1=some s.2
 |[],_,_,s,hs=>by cases hs
 |u::w,x,h,s,hs=>by
  rcases Mj.mp hs with rfl | hs
  ·exact h.1.2
  ·exact sM h.2 s hs
structure zK(r:List Tie)(a b:Int)(ws:List (List Step)):Prop where
 way:∀w∈ws,zG (eW r) a w b
 nd:(ws.map mso).flatten.Nodup
noncomputable def wo(n:Nat)(r:List Tie)(h0 h:List (Int×Int))(a b:Int)(c:Nat)(ws:List (List Step))(c7 c8 c9:Cell):Env:=
 [.sh (br n (aD r)),.sh (aT h0),.sh (.int a),.sh (.int b),.sh (.int c),.ow (aT h),.ow (.lst (ws.map msD)),c7,c8,c9]
theorem wu(n:Nat)(hn:n<=40)(r:List Tie)(hp:Pl n r)(nd:(r.map (·.m)).Nodup)(hl:r.length<=1000)(h:List (Int×Int))(k:Hok r h)(a b:Int)(a0:0<=a)(a1:a<n)(c:Nat)(hc:c<=1000)(fl:Flow r (hdF h) a b c) :
  ∃ws:List (List Step),wc [br n (aD r),aT h,.int a,.int b,.int c]=some (.new (.lst (ws.map msD)))/\ws.length=c/\zK r a b ws:=by
 suffices q:Wr (wc [br n (aD r),aT h,.int a,.int b,.int c]) fun v=>∃ws:List (List Step),v=.new (.lst (ws.map msD))/\ws.length=c/\zK r a b ws by obtain⟨v,h1,ws,rfl,h2⟩:=q;exact⟨ws,h1,h2⟩
 unfold wc
 (refine Dm.Ph ?_ rfl rfl;and_intros)
 refine O_ (Pd (PB (m_ (M_ rfl (O8 (Rf (ks:=hk h) (vs:=hv h) ?_ rfl))))) (by decide));refine Py ?_ (by trivial);refine O_ (Pd (PZ (O8 (Pn ?_ rfl rfl (by decide)))) (by decide));refine Py ?_ (by trivial);refine O_ (Pz (Qc (M_ rfl (bS.mk ⟨?_,by unfold BIG;lia,by unfold BIG;lia⟩))));refine PD (fun i:Nat=>Dat.int (0+(i:Nat))) _ _ (Mm c) _ _ _ _ _ (fun p q ρ=>∃(h':List (Int×Int)) (ws:List (List Step)) (c7 c8 c9:Cell),ρ=wo n r h h' a b c ws c7 c8 c9/\Hok r h'/\ws.length=p.length/\Flow r (hdF h') a b q.length/\zK r a b ws/\∀m∈(ws.map mso).flatten,hdF h' m=none)
  ⟨h,[],_,_,_,rfl,k,rfl,by rw[Mw];exact fl,⟨by simp,by simp⟩,by simp⟩ ?_ ?_
 ·rintro p x q ρ e ⟨h',ws,c7,c8,c9,rfl,k',wl,fl',W,hno⟩;rw[MU]at fl';unfold wo;refine Dm.aX rfl (by trivial) ?_;unfold DQ;have hR:∀i:Nat,i<n->(aD r i).length<=1000:=fun i _=>ML (cQ r i) hl;obtain⟨s,es,F,hd⟩:=ji n hn (qd h' (aD r)) (fun i _ _ u hu=>(qe hp ((oh (h:=h')).mp hu).1).2) a a0 a1;have hb:b∈sk s:=by
   have:=fl'.reach (S:=fun y=>decide (y∈sk s)) (decide_eq_true F.st) fun y u hy hu=>decide_eq_true (hd y (of_decide_eq_true hy) u (oh.mpr hu));exact of_decide_eq_true this
  obtain⟨w,t1,t2⟩:∃w,(b,w)∈s/\bq (sk s) (sv s) b=some (b5 w):=by
   rcases n_ s b with h | h
   ·exact h
   ·exact absurd hb h.1
  obtain⟨⟨w1,w2⟩,_⟩:=F.way _ t1;have Cp:=F.Cp t1;have LS:=F.len;dsimp only at w1 w2 Cp;have w1':Way (Led r (hdF h')) a w b:=w1.mono fun _ _ z=>oh.mp z;have wm:=je nd (fun p s h=>h.1) w1' w2;have Fd:iS (e2 gDx (eF p5 [(eFd zo [(eV 0),(eV 5)]),(eV 2)]) (eV 3)) [.sh (br n (aD r)),.sh (aT h),.sh (.int a),.sh (.int b),.sh (.int c),.ow (aT h'),.ow (.lst (ws.map msD)),.sh (.int (0+(x:Nat))),c8,c9]
    = some (w.map bA,[.sh (br n (aD r)),.sh (aT h),.sh (.int a),.sh (.int b),.sh (.int c),.ow (aT h'),.ow (.lst (ws.map msD)),.sh (.int (0+(x:Nat))),c8,c9]):=by
   apply QD;refine Qj (N_ (Pe (m_ (QU (m_ (M_ rfl (m_ (Pw rfl (O8 ?_)))))))));refine⟨_,_,_,rfl,n9 n (by lia) (aD r) hR h',fU _ _,?_⟩;refine m_ (M_ rfl (O8 (Px es ?_ rfl rfl rfl rfl)));refine M_ rfl (QI t2 ?_ rfl rfl);exact Po (cP ⟨rfl,rfl⟩)
  refine O_ (Pd (QJ bA w (fun s=>s.1) Dat.int ?_ Fd rfl (by decide) (by unfold SZ;lia) fun s _=>N_ (M_ rfl (O9 (Pa (Po ⟨rfl,rfl⟩) rfl rfl rfl)))) (by decide));refine Py ?_ (by trivial);refine O_ (Pz (Qj (Pw rfl (QL (cP ?_) rfl (by trivial)))));refine PD Dat.int _ _ (mso w) _ _ _ _ _ (fun pm qm ρ=>∃c9,ρ=wo n r h (bU h' pm) a b c ws (.sh (.int (0+(x:Nat)))) (.sh (msD w)) c9) ⟨_,rfl⟩ ?_ ?_
  ·rintro pm m qm ρ em ⟨c9,rfl⟩;unfold wo;refine Dm.aX rfl (by trivial) ?_;unfold DP;have hm:m∉pm:=by
    have:(mso w).Nodup:=wm;rw[em]at this;exact fun z=>(Np.mp this).2.2 m z m Mg rfl
   have hmw:m∈mso w:=by rw[em];simp
   obtain⟨st,hst,rfl⟩:=MD.mp hmw;have hx:hdF (bU h' pm) st.1=some st.2:=by rw[jn pm h' st.1 hm];exact sM w1' st hst
   refine Qi (Rb (k:=st.1) (d:=.int st.2) (by rw[jz,hx];rfl) ?_ rfl rfl rfl);refine⟨.sh (.int st.1),?_⟩;rw[jm,(jA _ _).1,(jA _ _).2];rfl
  ·rintro ρ ⟨c9,rfl⟩;unfold wo;refine Qk (M_ rfl (Po (kc ?_ rfl (by trivial) ?_))) rfl
   ·have fl2:=fl'.less nd w1' w2;rw[<- iV]at fl2;refine⟨bU h' (mso w),ws++[w],.sh (.int (0+(x:Nat))),.sh (msD w),c9,?_,k'.drops,by simp[wl],fl2,⟨fun v hv=>?_,?_⟩,fun m hm=>?_⟩
    ·rw[Mt];rfl
    ·rcases Mv.mp hv with hv | hv
     ·exact W.way v hv
     ·rw[Mu.mp hv];exact⟨w1'.mono fun _ _ z=>z.1,w2⟩
    ·rw[Mt,List.flatten_append];refine Np.mpr ⟨W.nd,by rw[eg,Oi,MW,List.flatten_nil,Nb];exact wm,fun m hm z hz=>?_⟩;intro e;subst e;have:m∈mso w:=by simpa using hz
     obtain⟨st,hst,rfl⟩:=MD.mp this;have h1:=sM w1' st hst;rw[hno _ hm]at h1;cases h1
    ·rw[Mt,List.flatten_append]at hm;rw[iV];rcases Mv.mp hm with hm | hm
     ·by_cases z:m∈mso w
      ·exact fS z
      ·rw[eX fun u hu e=>z (MD.mpr ⟨u,hu,e⟩)];exact hno m hm
     ·rw[eg,Oi,MW,List.flatten_nil,Nb]at hm;exact fS hm
   ·rw[Dp,wl];have:=congrArg List.length e;rw[Mw,Mr]at this;unfold SZ;lia
 ·rintro ρ ⟨h',ws,c7,c8,c9,rfl,k',wl,fl',W,hno⟩;unfold wo;refine Pj (Pw rfl (Qf ?_ rfl));exact⟨ws,rfl,by rw[wl,Mw],W⟩
noncomputable def tupI(S:List Int):Dat:=.tup (S.map Dat.int)
noncomputable def ovr(S:List Int)(t:Tie):Bool:=decide (t.a∈S) != decide (t.b∈S)
noncomputable def fB(r:List Tie)(S:List Int):List Int:=(r.filter (ovr S)).map (·.m)
def JV(n:Nat)(a b:Int)(S:List Int):Prop:=S.Pairwise (· < ·)/\(∀x∈S,0<=x/\x<n)/\a∈S/\b∉S
noncomputable def c_:Option (List Int)->Dat
 |none=>.non
 |some S=>tupI S
theorem zL{l:List Int}(h:l.Nodup):(dP ltI l).Pairwise (· < ·):=by
 have h1:=l6 l;have h2:(dP ltI l).Nodup:=(dw ltI l).nodup_iff.mpr h;refine(List.Pairwise.and h1 h2).imp fun {x y} q=>?_;obtain⟨q1,q2⟩:=q;simp[ltI]at q1
 lia
structure Apart(n:Nat)(r:List Tie)(a b:Int)(most:Int)(ws:List (List Step))(o:Option (List Int)):Prop where
 ways:zK r a b ws
 le:(ws.length:Int)<=most
 all:o=none->(ws.length:Int)=most
 side:∀S,o=some S->JV n a b S/\(fB r S).length=ws.length/\(ws.length:Int)<most
noncomputable def JX(n:Nat)(r:List Tie)(a b most:Int)(c5:Cell)(h:List (Int×Int))(o:Option (List Int))(k:Nat)(c9:Cell):Env:=
 [.sh (.int n),.sh (aH r),.sh (.int a),.sh (.int b),.sh (.int most),c5,.ow (aT h),.sh (c_ o),.sh (.int k),c9]
def zM(n:Nat)(r:List Tie)(c:Cell):Prop:=c=.ow (br n (aD r))\/c=.sh (br n (aD r))
theorem uT(ws:List (List Step)):a_ (.lst (ws.map msD))=true:=fm _ _ fun w=>sC _
theorem DU{n:Nat}{r:List Tie}{c5:Cell}(h5:zM n r c5)(A B C D E G H I J:Cell){Q:Val->Env->Prop}(En:List FE){Q':List Val->Env->Prop}
  (k:∀x,(x=.slot 5/\c5=.ow (br n (aD r)))\/(x=.val (br n (aD r))/\c5=.sh (br n (aD r)))->Was En [A,B,C,D,E,c5,G,H,I,J] fun xs ρ2=>Q' (x::xs) ρ2):Was (eV 5::En) [A,B,C,D,E,c5,G,H,I,J] Q':=by
 rcases h5 with rfl | rfl
 ·exact m_ (Pw rfl (k _ (.inl ⟨rfl,rfl⟩)))
 ·exact m_ (M_ rfl (k _ (.inr ⟨rfl,rfl⟩)))
theorem fH(n:Nat)(hn:n<=40)(r:List Tie)(hp:Pl n r)(nd:(r.map (·.m)).Nodup)(hl:r.length<=1000)(a b:Int)(a0:0<=a)(a1:a<n)(b0:0<=b)(b1:b<n)(most:Int)(m0:0<=most)(m1:most<=90) :
  ∃ws o,n6 [.int n,aH r,.int a,.int b,.int most]=some (.val (.tup [.lst (ws.map msD),c_ o]))/\Apart n r a b most ws o:=by
 suffices q:Wr (n6 [.int n,aH r,.int a,.int b,.int most]) fun v=>∃ws o,v=.val (.tup [.lst (ws.map msD),c_ o])/\Apart n r a b most ws o by obtain⟨v,h1,ws,o,rfl,h2⟩:=q;exact⟨ws,o,h1,h2⟩
 unfold n6
 (refine Dm.Ph ?_ rfl rfl;and_intros)
 refine O_ (Pd (Pe (m_ (M_ rfl (m_ (M_ rfl (O8 (Px (p_ n (by lia) r hp hl) ?_ rfl rfl rfl rfl))))))) (by decide));refine Py ?_ (by trivial);refine O_ (Pd (Ra (Py ?_ (by trivial))) (by decide));refine O_ (Pd (O9 (Pc ?_ (by trivial))) (by decide));refine O_ (Pd (O9 (Pc ?_ (by trivial))) (by decide));have hR:∀i:Nat,i<n->(aD r i).length<=1000:=fun i _=>ML (cQ r i) hl;refine O_ ?_;refine Qo (fun k ρ=>∃ (c5:Cell) (h:List (Int×Int)) (o:Option (List Int)) (LN:Nat) (c9:Cell),ρ=JX n r a b most c5 h o LN c9∧zM n r c5∧Hok r h∧Flow r (hdF h) a b LN∧(LN:Int)≤most∧(∀ S,o=some S→JV n a b S∧(fB r S).length=LN∧(LN:Int)<most) ∧
   k=(most-LN).toNat+(if o=none then 1 else 0)) ?_ 100 (most.toNat+1) _ (by lia) ⟨_,[],none,0,_,rfl,.inl rfl,Hok.nil r,Flow.zero r a b,m0,by simp,by simp⟩
 rintro k ρ ⟨c5,h,o,LN,c9,rfl,h5,hok,fl,hle,hs,hk⟩;unfold JX;have JM:o≠none\/¬(LN:Int)<most->Ws (sR (cA [(eFd wc [(eV 5),(eV 6),(eV 2),(eV 3),(eV 8)]),(eV 7)])) [.sh (.int n),.sh (aH r),.sh (.int a),.sh (.int b),.sh (.int most),c5,.ow (aT h),.sh (c_ o),.sh (.int LN),c9]
   (fun _=>∃ws o,RV.val .non=.val (.tup [.lst (ws.map msD),c_ o])/\Apart n r a b most ws o) (fun v _=>∃ws o,v=.val (.tup [.lst (ws.map msD),c_ o])/\Apart n r a b most ws o) (fun _=>False) (fun _=>False):=fun hend=>by
  obtain⟨ws,ep,wl,W⟩:=wu n hn r hp nd hl h hok a b a0 a1 LN (by lia) fl;refine Pj (PR (m_ (QU (DU (Q:=fun _ _=>True) h5 _ _ _ _ _ _ _ _ _ _ fun x hx=>?_))));refine m_ (Pw rfl (m_ (M_ rfl (m_ (M_ rfl (m_ (M_ rfl (O8 ?_))))))));have fin2:Apart n r a b most ws o:=⟨W,by rw[wl];exact hle,fun z=>by rw[wl];have:=hend.resolve_left (fun y=>y z);lia,fun S z=>by rw[wl];exact hs S z⟩
  rcases hx with⟨rfl,rfl⟩ | ⟨rfl,rfl⟩
  ·refine⟨_,_,_,rfl,ep,uT ws,?_⟩;refine m_ (M_ rfl (O8 (Pn ?_ rfl rfl (by exact Ml rfl))));exact⟨ws,o,rfl,fin2⟩
  ·refine⟨_,_,_,rfl,ep,uT ws,?_⟩;refine m_ (M_ rfl (O8 (Pn ?_ rfl rfl (by exact Ml rfl))));exact⟨ws,o,rfl,fin2⟩
 refine QH (Pg (N_ (M_ rfl (M_ rfl (P7 (Pb ?_) rfl rfl)))));refine P5 (fun Gy=>?_) fun hge=>?_
 ·refine Pg (N_ (M_ rfl (O9 (Qw (Pb ?_) rfl rfl))));cases o with
  |some S=>refine PF rfl ?_;exact JM (.inl (by simp))
  |none=>
   refine Qm rfl ?_;unfold DR;obtain⟨s,es,F,hd⟩:=ji n hn (qc h (aD r)) (fun i _ _ u hu=>(qe hp ((ku (h:=h)).mp hu).1).2) a a0 a1;have LS:=F.len;have search:∀{N:Env->Prop} {R:RV->Env->Prop} {B C:Env->Prop},(∀c5',zM n r c5'->N [.sh (.int n),.sh (aH r),.sh (.int a),.sh (.int b),.sh (.int most),c5',.ow (aT h),.sh (c_ none),.sh (.int LN),.ow (.dct (sk s) (sv s))]) ->
     Ws (sA 9 (eF p5 [(eFd zm [(eV 5),(eV 6)]),(eV 2)])) [.sh (.int n),.sh (aH r),.sh (.int a),.sh (.int b),.sh (.int most),c5,.ow (aT h),.sh (c_ none),.sh (.int LN),c9] N R B C:=fun {N R B C} kN=>by
    refine Pd (Pe (m_ (QU (DU (Q:=fun _ _=>True) h5 _ _ _ _ _ _ _ _ _ _ fun x hx=>?_)))) (by decide);refine m_ (Pw rfl (O8 ?_));rcases hx with⟨rfl,rfl⟩ | ⟨rfl,rfl⟩
    ·refine⟨_,_,_,rfl,fG n (by lia) (aD r) hR h,fU _ _,?_⟩;refine m_ (M_ rfl (O8 (Px es ?_ rfl rfl rfl rfl)));exact Py (kN _ (.inr rfl)) (by trivial)
    ·refine⟨_,_,_,rfl,fG n (by lia) (aD r) hR h,fU _ _,?_⟩;refine m_ (M_ rfl (O8 (Px es ?_ rfl rfl rfl rfl)));exact Py (kN _ (.inr rfl)) (by trivial)
   refine O_ (search fun c5' h5'=>?_);refine Pk (Pg (N_ (M_ rfl (Pw rfl (Qz (Pb ?_) rfl rfl)))));rw[jh];refine P5 (fun hb=>?_) fun hb=>?_
   ·obtain⟨w,t1,t2⟩:∃w,(b,w)∈s/\bq (sk s) (sv s) b=some (b5 w):=by
     rcases n_ s b with h | h
     ·exact h
     ·exact absurd hb h.1
    obtain⟨⟨w1,w2⟩,_⟩:=F.way _ t1;dsimp only at w1 w2;have w1':Way (kg r (hdF h)) a w b:=w1.mono fun _ _ z=>ku.mp z;have wms:=zJ (fun p s (z:kg r (hdF h) p s)=>z.1) w1';have el:=l7 r hl h hok w wms;refine O_ (Qi (Q7 (m_ (N_ (Pw rfl (M_ rfl (QI t2 (O8 (QM el ?_ rfl rfl rfl)) rfl rfl))))) rfl));refine Pd (N_ (M_ rfl (O9 (Pp (Pc ?_ (by trivial)) rfl rfl)))) (by decide);have fl2:=fl.more nd w1' w2;rw[<- nc]at fl2;refine⟨(most-(LN+1:Nat)).toNat+1,by rw[hk];simp;lia,c5',bx h w,none,LN+1,.ow (.dct (sk s) (sv s)),?_,h5',hok.zI wms,fl2,by lia,by simp,by simp⟩;have:((LN:Int)+1)=((LN+1:Nat):Int):=by lia
    rw[this]
   ·refine Pd (PB (m_ (PB (m_ (Pw rfl (O8 (Rq (ks:=sk s) (vs:=sv s) ?_ rfl (by simp only[sk,Dp];lia)))))))) (by decide);refine O8 (Q6 ?_ rfl);refine Pc ?_ (by trivial);have pm:=dw ltI (sk s);have hS:∀x,x∈dP ltI (sk s)↔x∈sk s:=fun x=>pm.mem_iff;refine⟨(most-LN).toNat,by rw[hk];simp,c5',h,some (dP ltI (sk s)),LN,.ow (.dct (sk s) (sv s)),rfl,h5',hok,fl,hle,fun S z=>?_,by simp⟩;cases z;refine⟨⟨zL F.nd,fun x hx=>F.pl x ((hS x).mp hx),(hS a).mpr F.st,fun z=>hb ((hS b).mp z)⟩,?_,Gy⟩;have:=fl.cut (S:=fun y=>decide (y∈dP ltI (sk s))) (decide_eq_true ((hS a).mpr F.st)) (decide_eq_false fun z=>hb ((hS b).mp z)) fun y u hy hu=>decide_eq_true ((hS _).mpr (hd y ((hS y).mp (of_decide_eq_true hy)) u (ku.mpr hu)));unfold fB;rw[Dp];exact this
 ·refine PF rfl ?_;exact JM (.inr hge)
theorem dJ(x n:Int)(h:1<=n):0<=x % n/\x % n<n:=⟨Int.emod_nonneg x (by lia),Int.emod_lt_of_pos x (by lia)⟩
noncomputable def at'(ns:List Int)(i:Int):Int:=ns.getD i.toNat 0
theorem GF(ns:List Int)(i:Int)(h0:0<=i)(h1:i<ns.length):gIx (.lst (ns.map Dat.int)) (.int i)=some (.val (.int (at' ns i))):=by show (atI (ns.map Dat.int) i).map RV.val=_;rw[Dm.jy Dat.int ns i h0 h1];unfold at';rw[Nh,Mp (by lia)];rfl
theorem JY{ns:List Int}{i:Int}{o p:Option Dat}{K:RV->Prop}(h0:0<=i)(h1:i<ns.length)(k:K (.val (.int (at' ns i))))(ho:o=some (.lst (ns.map Dat.int)))(hp:p=some (.int i)):Wg2 gIx o p K:=⟨_,_,_,ho,hp,GF ns i h0 h1,k⟩
theorem Qq{i j:Int}{o p:Option Dat}{K:RV->Prop}(k:K (.val (.int (i*j))))(ho:o=some (.int i))(hp:p=some (.int j))(h:i.natAbs.log2<1000000/\j.natAbs.log2<1000000):Wg2 ie o p K:=⟨_,_,_,ho,hp,by unfold ie;dsimp only;rw[if_pos h],k⟩
noncomputable def aQ(x:Int):Dat:=.lst [.int x]
noncomputable abbrev Z60:Int:=1000000000000000000000000000000000000000000000000000000000000
theorem uU(ns:List Int)(k:Int)(h0:0<=k)(h1:k<1000):∃x,m7 [.lst (ns.map Dat.int),.int k]=some (.new (aQ x)):=by
 suffices h:Wr (m7 [.lst (ns.map Dat.int),.int k]) fun v=>∃x,v=.new (aQ x) by obtain⟨v,h1,c,rfl⟩:=h;exact⟨c,h1⟩
 unfold m7
 (refine Dm.Ph ?_ rfl rfl;and_intros)
 refine O_ (Pd (O9 (Pc ?_ (by trivial))) (by decide));refine PJ (fun ρ=>∃c:Int,ρ=[.sh (.lst (ns.map Dat.int)),.sh (.int k),.sh (.int c),.un,.un,.un]) ?_ ?_
 ·refine Pk (Pg (N_ (M_ rfl (PB (m_ (M_ rfl (O8 (Qg (zf:=Dat.int) ?_ rfl))))))));refine P7 ?_ rfl rfl;refine Pb ?_;refine⟨fun h=>?_,fun h=>?_⟩
  ·have h:=of_decide_eq_true h;refine Pd ?_ (by decide);refine N_ (M_ rfl (M_ rfl ?_));refine JY h0 (by simpa using h) ?_ rfl rfl;refine Pc ?_ (by trivial);exact⟨_,rfl⟩
  ·refine Pq ?_;exact⟨_,rfl⟩
 rintro ρ ⟨c,rfl⟩;refine O_ (Pk (Pg (N_ (M_ rfl (N_ (O9 (O9 (Qe (z:=1000000000000000000) ?_ rfl rfl (by decide) (by decide)))))))));refine Qp (Pb ?_) rfl rfl;have p60:∀{K:RV->Prop} {o p:Option Dat},K (.val (.int Z60))->o=some (.int 10)->p=some (.int 60)->Wg2 fN o p K:=fun k ho hp=>Qe (z:=Z60) k ho hp (by decide) (by decide +kernel);refine⟨fun h=>?_,fun h=>?_⟩
 ·refine Pj (PZ (m_ (N_ (M_ rfl ?_))));refine N_ (N_ (N_ (N_ (N_ (O9 (O9 (p60 ?_ rfl rfl)))))));refine N_ (O9 (O9 (p60 ?_ rfl rfl)));refine Qq ?_ rfl rfl (by decide +kernel);refine N_ (O9 (O9 (p60 ?_ rfl rfl)));refine Qq ?_ rfl rfl (by decide +kernel);refine N_ (O9 (O9 (p60 ?_ rfl rfl)));refine Qq ?_ rfl rfl (by decide +kernel);refine N_ (O9 (O9 (p60 ?_ rfl rfl)));refine Qq ?_ rfl rfl (by decide +kernel);refine PM ?_ rfl rfl (by decide +kernel);refine O8 (Pn ?_ rfl rfl (by exact Ml rfl));exact⟨_,rfl⟩
 ·refine Pq ?_;refine PJ (fun ρ=>∃x:Int,(0<=x/\x<2147483647)/\ρ=[.sh (.lst (ns.map Dat.int)),.sh (.int k),.sh (.int c),.sh (.int x),.un,.un]) ?_ ?_
  ·refine Pd ?_ (by decide);refine N_ (N_ (N_ (N_ (M_ rfl (N_ (N_ (O9 (M_ rfl (PL ?_ rfl rfl (by first | exact Or.inl (by decide) | exact Or.inr (by decide)))))))))));refine M_ rfl (PL ?_ rfl rfl ?_);refine Pp ?_ rfl rfl;refine N_ (O9 (M_ rfl (PL ?_ rfl rfl (by first | exact Or.inl (by decide) | exact Or.inr (by decide)))));refine Pp ?_ rfl rfl;refine O9 (Pp ?_ rfl rfl);refine O9 (PM ?_ rfl rfl (by decide));refine Pc ?_ (by trivial)
   ·exact⟨_,dJ _ _ (by decide),rfl⟩
   ·exact .inr (by unfold B64;lia)
  rintro ρ ⟨x,hx,rfl⟩;refine O_ (Pd (O9 (Pc ?_ (by trivial))) (by decide));refine O_ (Pz (Qc (O9 (bS.mk ⟨?_,by decide,by decide⟩))));refine PD (fun i:Nat=>Dat.int (0+(i:Nat))) _ _ (Mm 40) _ _ _ _ _ (fun p q ρ=>∃(x f:Int) (c5:Cell),(0<=x/\x<2147483647)/\ρ=[.sh (.lst (ns.map Dat.int)),.sh (.int k),.sh (.int c),.sh (.int x),.sh (.int f),c5]) ⟨_,_,_,hx,rfl⟩ ?_ ?_
  ·rintro p i q ρ e ⟨x,f,c5,hx,rfl⟩;refine Dm.aX rfl (by trivial) ?_;unfold zw;refine PJ (fun ρ=>∃y:Int,(0<=y/\y<2147483647)/\ρ=[.sh (.lst (ns.map Dat.int)),.sh (.int k),.sh (.int c),.sh (.int y),.sh (.int f),.sh (.int (0+(i:Nat)))]) ?_ ?_
   ·refine Pd ?_ (by decide);refine N_ (N_ (N_ (N_ (M_ rfl (O9 (PL ?_ rfl rfl (by first | exact Or.inl (by decide) | exact Or.inr (by decide))))))));refine N_ (O9 (M_ rfl (PL ?_ rfl rfl (by first | exact Or.inl (by decide) | exact Or.inr (by decide)))));refine Pp ?_ rfl rfl;refine O9 (Pp ?_ rfl rfl);refine O9 (PM ?_ rfl rfl (by decide));refine Pc ?_ (by trivial);exact⟨_,by have:=dJ (x*48271+7919*(0+((i:Nat):Int))+3) 2147483629 (by decide);lia,rfl⟩
   rintro ρ ⟨y,hy,rfl⟩;refine PJ (fun ρ=>∃y:Int,(0<=y/\y<2147483647)/\ρ=[.sh (.lst (ns.map Dat.int)),.sh (.int k),.sh (.int c),.sh (.int y),.sh (.int f),.sh (.int (0+(i:Nat)))]) ?_ ?_
   ·refine Pd ?_ (by decide);refine N_ (N_ (M_ rfl (M_ rfl (PL ?_ rfl rfl ?_))));refine O9 (PM ?_ rfl rfl (by decide));refine Pc ?_ (by trivial)
    ·exact⟨_,by have:=dJ (y*y) 2147483587 (by decide);lia,rfl⟩
    ·exact .inl (by unfold B64;lia)
   rintro ρ ⟨z,hz,rfl⟩;refine Pd ?_ (by decide);refine N_ (N_ (M_ rfl (O9 (PL ?_ rfl rfl (by first | exact Or.inl (by decide) | exact Or.inr (by decide))))));refine N_ (N_ (N_ (M_ rfl (O9 (PL ?_ rfl rfl (by first | exact Or.inl (by decide) | exact Or.inr (by decide)))))));refine M_ rfl (Pp ?_ rfl rfl);refine O9 (PM ?_ rfl rfl (by decide));refine Pp ?_ rfl rfl;refine Pc ?_ (by trivial);exact⟨_,_,_,hz,rfl⟩
  ·rintro ρ ⟨x,f,c5,hx,rfl⟩;refine Pj (PZ (m_ (M_ rfl (O8 (Pn ?_ rfl (by trivial) (by exact Ml rfl))))));refine QE ?_;exact⟨_,rfl⟩
theorem Cw(x m:Int)(h0:0<m)(h1:m<gX):cz [aQ x,.int m]=some (.val (.int (x % m)),aQ (x / m)):=by
 suffices h:WrM (cz [aQ x,.int m]) fun v d=>v=.val (.int (x % m))/\d=aQ (x / m) by obtain⟨v,d,h1,rfl,rfl⟩:=h;exact h1
 unfold cz;refine QB ?_ rfl rfl;and_intros;unfold aQ;refine O_ (Pd ?_ (by decide));refine N_ (N_ (Pw rfl (O9 (Pa ?_ rfl rfl rfl))));refine M_ rfl (PM ?_ rfl rfl ?_);refine Pc ?_ (by trivial);refine O_ ?_
 ·refine QY ?_;refine N_ (N_ (Pw rfl (O9 (Pa ?_ rfl rfl rfl))));refine M_ rfl (Qn ?_ rfl rfl ?_);refine Po (n5 rfl (O9 (bS.mk ?_)))
  ·refine⟨_,0,_,rfl,rfl,rfl,?_⟩;refine Pj (M_ rfl (PN ?_));exact⟨_,rfl,rfl,rfl⟩
  ·exact⟨h0,h1⟩
 ·exact h0
def Wtk(j:Nat)(m:Int)(ρ1:Env)(Q:Val->Env->Prop):Prop:=∃x ρ3,Q (.val (.int (x % m))) ρ3/\ρ1[j]?=some (.ow (aQ x))/\ρ1.set j (.ow (aQ (x / m)))=ρ3/\0<m/\m<gX
theorem Cy{j:Nat}{x m:Int}{ρ1 ρ3:Env}{Q:Val->Env->Prop}(q:Q (.val (.int (x % m))) ρ3)(h2:ρ1[j]?=some (.ow (aQ x)))(hn:ρ1.set j (.ow (aQ (x / m)))=ρ3)(h0:0<m)(h1:m<gX):Wtk j m ρ1 Q:=⟨_,_,q,h2,hn,h0,h1⟩
theorem Rc{j:Nat}{a:FE}{ρ:Env}{d0:Dat}{Q:Val->Env->Prop}(h:We a ρ fun v ρ1=>bS v fun m=>Wtk j m ρ1 Q)(h0:ρ[j]?=some (.ow d0)):We (eFm cz j [a]) ρ Q:=by refine Q7 (m_ ?_) h0;obtain⟨v,ρ1,e1,m,rfl,x,ρ3,q,e2,e3,m0,m1⟩:=h;exact⟨_,_,e1,O8 (QM (Cw x m m0 m1) q e2 rfl e3)⟩
theorem PU{j:Nat}{a:FE}{ρ:Env}{x m:Int}{Q:Val->Env->Prop}(ha:a ρ=some (.val (.int m),ρ))(h0:0<m)(h1:m<gX)(hj:ρ[j]?=some (.ow (aQ x)))(k:∀t x':Int,0<=t->t<m->∀ρ3,ρ.set j (.ow (aQ x'))=ρ3->Q (.val (.int t)) ρ3):We (eFm cz j [a]) ρ Q:=
 Rc ⟨_,_,ha,m,rfl,Cy (k _ _ (dJ x m (by lia)).1 (dJ x m (by lia)).2 _ rfl) hj rfl h0 h1⟩ hj
def Good(n:Int):Int->List Tie->Prop
 |_,[]=>True
 |lo,t::r=>lo<=t.m/\0<=t.a/\t.a<=t.b/\t.b<n/\Good n (t.m+1) r
theorem Good.lo{n:Int}:∀{r:List Tie} {lo:Int},Good n lo r->∀t∈r,lo<=t.m
 |[],_,_,t,ht=>by cases ht
 |u::r,lo,h,t,ht=>by
  obtain⟨h1,h2,h3,h4,h5⟩:=h;rcases Mj.mp ht with rfl | ht
  ·exact h1
  ·have:=Good.lo h5 t ht;lia
theorem Qv{s:FS}{ρ:Env}{Q B C:Env->Prop}{R:RV->Env->Prop}(h:∀K:Env->Prop,(∀ρ,Q ρ->K ρ)->Ws s ρ K R B C):Ws s ρ Q R B C:=h Q fun _ h=>h
theorem Good.snoc{n:Int}:∀{r:List Tie} {lo hi:Int} {t:Tie},Good n lo r->(∀u∈r,u.m<hi)->lo<=hi->hi=t.m->0<=t.a->t.a<=t.b->t.b<n->Good n lo (r++[t])
 |[],_,_,_,_,_,h,e,h1,h2,h3=>⟨by lia,h1,h2,h3,trivial⟩
 |u::r,lo,hi,t,h,hu,hl,e,h1,h2,h3=>by obtain⟨k1,k2,k3,k4,k5⟩:=h;exact⟨k1,k2,k3,k4,Good.snoc k5 (fun v hv=>hu v (Mh _ hv)) (by have:=hu u Mg;lia) e h1 h2 h3⟩
theorem ix4(a b c d:Int)(x:Int)(h0:0<=x)(h:x<4):gIx (.lst [.int a,.int b,.int c,.int d]) (.int x)=some (.val (.int (if x=0 then a else if x=1 then b else if x=2 then c else d))):=by
 have:x=0\/x=1\/x=2\/x=3:=by lia
 rcases this with rfl | rfl | rfl | rfl<;>rfl
noncomputable abbrev Z28:Int:=10000000000000000000000000000
noncomputable abbrev Z30:Int:=1000000000000000000000000000000
noncomputable def RE(pool:Int)(n most many kind step times way GG:Int)(r:List Tie)(c10 c11 c12:Cell):Env:=
 [.ow (aQ pool),.sh (.int n),.sh (.int most),.sh (.int many),.sh (.int kind),.sh (.int step),.sh (.int times),.sh (.int way),.sh (.int GG),.ow (aH r),c10,c11,c12]
theorem Cz(a b:Int):(if b<a then b else a)<=(if b>a then b else a):=by split<;>split<;>lia
theorem wz(x n most:Int)(n1:1<=n)(n10:n<=10)(m0:0<=most)(m60:most<=60) :
  ∃(r:List Tie) (x':Int),m8 [aQ x,.int n,.int most]=some (.new (aH r),aQ x')/\Good n 0 r/\(r.length:Int)<=most/\∀t∈r,t.m<=Z30:=by
 suffices hh:WrM (m8 [aQ x,.int n,.int most]) fun v d=>∃(r:List Tie) (x':Int),v=.new (aH r)/\d=aQ x'/\Good n 0 r/\(r.length:Int)<=most/\∀t∈r,t.m<=Z30 by obtain⟨v,d,h1,h,x',rfl,rfl,h2⟩:=hh;exact⟨h,x',h1,h2⟩
 suffices hK:∀K:RV->Dat->Prop,(∀v d,(∃(r:List Tie) (x':Int),v=.new (aH r)/\d=aQ x'/\Good n 0 r/\(r.length:Int)<=most/\∀t∈r,t.m<=Z30)->K v d)->WrM (m8 [aQ x,.int n,.int most]) K from hK _ fun _ _ h=>h
 intro K hK;unfold m8;refine QB ?_ rfl rfl;and_intros;refine O_ (Pd ?_ (by decide));refine PU (m:=most+1) rfl (by lia) (by unfold gX;lia) rfl fun many x1 h1 h2 ρ3 e=>?_;subst e;refine Pc ?_ (by trivial);refine O_ (Pd ?_ (by decide));refine PU (m:=4) rfl (by decide) (by decide) rfl fun kind x2 k1 k2 ρ3 e=>?_;subst e;refine Pc ?_ (by trivial);refine PJ (fun ρ=>∃step:Int,(1<=step/\step<=1000000/\(kind=3->step<=1000))/\ρ=[.ow (aQ x2),.sh (.int n),.sh (.int most),.sh (.int many),.sh (.int kind),.sh (.int step),.un,.un,.un,.un,.un,.un,.un]) ?_ ?_
 ·refine Qv fun K0 hK0=>?_;refine Pd (N_ (PZ (m_ (O9 (m_ (O9 (m_ (N_ (O9 (O9 (Qe (z:=1000000) ?_ rfl rfl (by decide) (by decide)))))))))))) (by decide);refine m_ (O9 (O8 (Pn ?_ rfl rfl (by exact Ml rfl))));refine M_ rfl (Pa ?_ rfl rfl (ix4 1 3 1000000 1000 kind k1 k2));refine Pc ?_ (by trivial);refine hK0 _ ⟨_,?_,rfl⟩;have:kind=0\/kind=1\/kind=2\/kind=3:=by lia
  rcases this with q | q | q | q<;>rw[q]<;>decide
 rintro ρ ⟨step,hs,rfl⟩;refine PJ (fun ρ=>∃times:Int,(0<=times/\step*times<=Z28)/\ρ=[.ow (aQ x2),.sh (.int n),.sh (.int most),.sh (.int many),.sh (.int kind),.sh (.int step),.sh (.int times),.un,.un,.un,.un,.un,.un]) ?_ ?_
 ·refine Qv fun K1 hK1=>?_;refine Pd (N_ (PZ (m_ (O9 (m_ (N_ (O9 (O9 (Qe (z:=10000000000000000000000000) ?_ rfl rfl (by decide) (by decide)))))))))) (by decide);refine O8 (Pn ?_ rfl rfl (by exact Ml rfl));refine PB (m_ (N_ (M_ rfl (O9 (Qh ?_ rfl rfl)))));refine O8 (QG ?_ rfl);by_cases q:kind=3
  ·rw[decide_eq_true q];refine Pa (v:=.int 10000000000000000000000000) ?_ rfl rfl rfl;exact Pc (hK1 _ ⟨10000000000000000000000000,⟨by decide,by have:=hs.2.2 q;unfold Z28;lia⟩,rfl⟩) (by trivial)
  ·rw[decide_eq_false q];refine Pa (v:=.int 1) ?_ rfl rfl rfl;exact Pc (hK1 _ ⟨1,⟨by decide,by unfold Z28;lia⟩,rfl⟩) (by trivial)
 rintro ρ ⟨times,⟨ht,hst⟩,rfl⟩;have tb:∀t:Int,0<=t->t<step->t*times<=Z28:=fun t _ t2=>O0 (Int.mul_le_mul_of_nonneg_right (OX t2) ht) hst;refine O_ (Pd ?_ (by decide));refine PU (m:=4) rfl (by decide) (by decide) rfl fun way x3 w1 w2 ρ3 e=>?_;subst e;refine Pc ?_ (by trivial);refine PJ (fun ρ=>∃x4 mo:Int,(0<=mo/\mo<=Z28)/\ρ=[.ow (aQ x4),.sh (.int n),.sh (.int most),.sh (.int many),.sh (.int kind),.sh (.int step),.sh (.int times),.sh (.int way),.sh (.int mo),.un,.un,.un,.un]) ?_ ?_
 ·refine Qv fun K2 hK2=>?_;refine Pd (N_ ?_) (by decide);refine PU (m:=step) rfl (by lia) (by unfold gX;lia) rfl fun t x4 t1 t2 ρ3 e=>?_;subst e;refine M_ rfl (PL ?_ rfl rfl (.inl (by unfold B64;lia)));exact Pc (hK2 _ ⟨_,_,⟨Int.mul_nonneg t1 ht,tb t t1 t2⟩,rfl⟩) (by trivial)
 rintro ρ ⟨x4,mo,hmo,rfl⟩;refine O_ (Pd (PZ (O8 (Pn ?_ rfl rfl (by decide)))) (by decide));refine Py ?_ (by trivial);refine O_ (Pz (Qc (M_ rfl (bS.mk ⟨?_,by unfold BIG;lia⟩))));refine PD (fun i:Nat=>Dat.int (0+(i:Nat))) _ _ (Mm many.toNat) _ _ _ _ _ (fun p q ρ=>∃(x mo:Int) (r:List Tie) (c10 c11 c12:Cell),ρ=RE x n most many kind step times way mo r c10 c11 c12/\Good n 0 r/\r.length=p.length/\(∀u∈r,u.m<mo)/\0<=mo/\mo<=((p.length:Int)+1)*(Z28+1))
  ⟨_,_,[],_,_,_,rfl,trivial,rfl,(fun u hu=>by cases hu),hmo.1,by have:=hmo.2;simp;lia⟩ ?_ ?_
 ·rintro p i q ρ e ⟨x,mo,r,c10,c11,c12,rfl,hg,hl,hu,hm,hM⟩;have lp:p.length<100:=by
   have:(Mm many.toNat).length=p.length+(q.length+1):=by rw[e];simp
   rw[Mw]at this;lia
  unfold RE;refine Dm.aX rfl (by trivial) ?_;unfold zx;refine Qv fun KL hKL=>?_;refine O_ (Pd ?_ (by decide));refine PU (m:=n) rfl (by lia) (by unfold gX;lia) rfl fun one y1 o1 o2 ρ3 e=>?_;subst e;refine Pc ?_ (by trivial);refine O_ (Pd ?_ (by decide));refine PU (m:=n) rfl (by lia) (by unfold gX;lia) rfl fun oth y2 u1 u2 ρ3 e=>?_;subst e;refine Pc ?_ (by trivial);refine PJ (fun ρ=>∃o:Int,(0<=o/\o<n)/\ρ=RE y2 n most many kind step times way mo r (.sh (.int (0+(i:Nat)))) (.sh (.int one)) (.sh (.int o))) ?_ ?_
  ·refine Qv fun K3 hK3=>?_;refine Pk (Pg (N_ (M_ rfl (O9 (Qh (Pb ?_) rfl rfl)))));refine P5 (fun _=>?_) fun _=>?_
   ·refine Pd (N_ (N_ (M_ rfl (O9 (Pp (M_ rfl (PM ?_ rfl rfl (by lia))) rfl rfl))))) (by decide);exact Pc (hK3 _ ⟨_,dJ _ n n1,rfl⟩) (by trivial)
   ·exact Pq (hK3 _ ⟨oth,⟨u1,u2⟩,rfl⟩)
  rintro ρ ⟨o,⟨q1,q2⟩,rfl⟩;refine PJ (fun ρ=>∃o:Int,(0<=o/\o<n)/\ρ=RE y2 n most many kind step times way mo r (.sh (.int (0+(i:Nat)))) (.sh (.int one)) (.sh (.int o))) ?_ ?_
  ·refine Qv fun K4 hK4=>?_;unfold RE;refine Pk (Pg (N_ (M_ rfl (O9 (Qh (Pb ?_) rfl rfl)))));refine P5 (fun _=>?_) fun _=>?_
   ·refine Pd (N_ (N_ (N_ (N_ (M_ rfl (N_ (M_ rfl (O9 (PM ?_ rfl rfl (by decide)))))))))) (by decide);refine Pp ?_ rfl rfl;refine O9 (Pp ?_ rfl rfl);refine PB (m_ (M_ rfl (m_ (O9 (O8 (P6 ?_ rfl))))));refine PM ?_ rfl rfl (by split<;>lia);refine M_ rfl (PM ?_ rfl rfl (by lia));exact Pc (hK4 _ ⟨_,dJ _ n n1,rfl⟩) (by trivial)
   ·exact Pq (hK4 _ ⟨o,⟨q1,q2⟩,rfl⟩)
  rintro ρ ⟨o,⟨q1,q2⟩,rfl⟩;unfold RE;refine O_ (Qk (PR (m_ (M_ rfl (m_ (PB (m_ (M_ rfl (m_ (M_ rfl (O8 (P6 ?_ rfl))))))))))) rfl);refine m_ (PB (m_ (M_ rfl (m_ (M_ rfl (O8 (Qy ?_ rfl)))))));refine O8 (Pn ?_ rfl rfl (by exact Ml rfl));refine Po (kc ?_ rfl (by trivial) (by rw[Dp];unfold SZ;lia));refine Pd (N_ (N_ (M_ rfl (O9 (Pp ?_ rfl rfl))))) (by decide);refine N_ ?_;refine PU (m:=step) rfl (by lia) (by unfold gX;lia) rfl fun t x4 t1 t2 ρ3 e=>?_;subst e;refine M_ rfl (PL ?_ rfl rfl (.inl (by unfold B64;lia)));refine Pp ?_ rfl rfl;refine Pc ?_ (by trivial);have tn:=Int.mul_nonneg t1 ht;refine hKL _ ⟨x4,mo+1+t*times,r++[⟨mo,(if o<one then o else one),(if o>one then o else one)⟩],.sh (.int (0+(i:Nat))),.sh (.int one),.sh (.int o),?_,?_,by simp[hl],?_,by lia,?_⟩
  ·unfold aH;rw[Mt];rfl
  ·refine Good.snoc (hi:=mo) hg hu hm rfl ?_ (Cz one o) ?_
   ·show 0<=(if o<one then o else one);split<;>lia
   ·show (if o>one then o else one)<n;split<;>lia
  ·intro u hu';rcases Mv.mp hu' with h | h
   ·have:=hu u h;lia
   ·rw[Mu.mp h];show mo<_;lia
  ·have:=tb t t1 t2;rw[Mr,M9];have e:(((p.length+1:Nat):Int)+1)*(Z28+1)=((p.length:Int)+1)*(Z28+1)+(Z28+1):=by
    rw[Int.natCast_add,O4 (((p.length:Int))+((1:Nat):Int)) 1,Int.one_mul];rfl
   rw[e]
   lia
 ·rintro ρ ⟨x,mo,r,c10,c11,c12,rfl,hg,hl,hu,hm,hM⟩;unfold RE;refine Pj (Pw rfl (Qf ?_ rfl));rw[Mw]at hM hl;refine⟨_,rfl,hK _ _ ⟨r,x,rfl,rfl,hg,?_,fun t ht=>?_⟩⟩
  ·rw[hl]
   lia
  ·have h1:=hu t ht;have h2:((many.toNat:Int)+1)*(Z28+1)<=61*(Z28+1):=Int.mul_le_mul_of_nonneg_right (by lia) (by decide);have h3:(61:Int)*(Z28+1)<=Z30:=by decide
   lia
noncomputable def bK(r:List Tie)(S:Int->Bool):Nat:=(r.filter (over S)).length
theorem uV{r:List Tie}(S:Int->Bool):∀{w:List Step} {x y:Int},Way (eW r) x w y->S x=true->S y=false->∃s∈w,s.1∈(r.filter (over S)).map (·.m)
 |[],x,y,h,h1,h2=>by cases h;rw[h1]at h2;cases h2
 |s::w,x,y,h,h1,h2=>by
  cases hs:S s.2 with
  |true=>obtain⟨u,hu,k⟩:=uV S h.2 hs h2;exact⟨u,Mh _ hu,k⟩
  |false=>
   obtain⟨t,ht,hm,_,he⟩:=h.1;refine⟨s,Mg,MD.mpr ⟨t,M7.mpr ⟨ht,?_⟩,hm⟩⟩;unfold over;rcases he with⟨e1,e2⟩ | ⟨e1,e2⟩
   ·rw[e1,e2,h1,hs];rfl
   ·rw[e1,e2,h1,hs];rfl
theorem picks{r:List Tie}{a b:Int}(S:Int->Bool)(ha:S a=true)(hb:S b=false):∀(ws:List (List Step)),(∀w∈ws,Way (eW r) a w b)->(ws.map mso).flatten.Nodup ->
  ∃ps:List Int,ps.length=ws.length/\ps.Nodup/\∀m∈ps,m∈(ws.map mso).flatten/\m∈(r.filter (over S)).map (·.m)
 |[],_,_=>⟨[],rfl,by simp,by simp⟩
 |w::ws,h,nd=>by
  rw[eg,MW]at nd;obtain⟨n1,n2,n3⟩:=Np.mp nd;obtain⟨ps,p1,p2,p3⟩:=picks S ha hb ws (fun v hv=>h v (Mh _ hv)) n2;obtain⟨s,hs,k⟩:=uV S (h w Mg) ha hb;have hsm:s.1∈mso w:=MD.mpr ⟨s,hs,rfl⟩;refine⟨s.1::ps,by simp[p1],MG.mpr ⟨fun z=>n3 _ hsm _ (p3 _ z).1 rfl,p2⟩,fun m hm=>?_⟩;rw[eg,MW];rcases Mj.mp hm with rfl | hm
  ·exact⟨MF _ hsm,k⟩
  ·exact⟨Mx _ (p3 m hm).1,(p3 m hm).2⟩
theorem LU{r:List Tie}{a b:Int}{ws:List (List Step)}(W:zK r a b ws){S:Int->Bool}(ha:S a=true)(hb:S b=false):ws.length<=bK r S:=by
 obtain⟨ps,p1,p2,p3⟩:=picks S ha hb ws (fun w hw=>(W.way w hw).way) W.nd;have:=cZ ps _ p2 fun m hm=>(p3 m hm).2;rw[Dp]at this;unfold bK
 lia
theorem ng(r:List Tie)(S:Int->Bool):bK r (fun x=>!S x)=bK r S:=by
 unfold bK
 congr 1
 apply NO;intro t _;unfold over;dsimp only;cases S t.a<;>cases S t.b<;>rfl
structure Fit(n:Nat)(r:List Tie):Prop where
 n40:n<=40
 pl:Pl n r
 nd:(r.map (·.m)).Nodup
 len:r.length<=1000
theorem Fit.sub{n:Nat}{r K:List Tie}(h:Fit n r)(s:K.Sublist r):Fit n K:=⟨h.n40,fun t ht=>h.pl t (s.subset ht),h.nd.sublist (s.map _),ML s.length_le h.len⟩
theorem l8{n:Nat}{r:List Tie}(h:Fit n r){a b:Int}(a0:0<=a)(a1:a<n)(b0:0<=b)(b1:b<n){k:Nat}(k6:k<=6) :
  ∃c:Bool,we [.int n,aH r,.int a,.int b,.int k]=some (.val (.bl c))/\(c=true->∀S:Int->Bool,S a=true->S b=false->k<=bK r S)/\(c=false->∃S:Int->Bool,S a=true/\S b=false/\bK r S<k):=by
 obtain⟨ws,o,e,A⟩:=fH n h.n40 r h.pl h.nd h.len a b a0 a1 b0 b1 k (by lia) (by lia);refine⟨isN (c_ o),?_,fun z S s1 s2=>?_,fun z=>?_⟩
 ·apply Pu;unfold we
  (refine Dm.Ph ?_ rfl rfl;and_intros)
  refine Pj (N_ (N_ (Pe (m_ (M_ rfl (m_ (M_ rfl (m_ (M_ rfl (m_ (M_ rfl (m_ (M_ rfl (O8 (Px e ?_ rfl rfl rfl rfl)))))))))))))));refine O9 (Pa ?_ rfl rfl rfl);exact O9 (Qw rfl rfl rfl)
 ·cases o with
  |none=>
   have:=A.all rfl;have:=LU A.ways s1 s2
   lia
  |some S=>cases z
 ·cases o with
  |none=>cases z
  |some S=>
   obtain⟨⟨_,_,h1,h2⟩,h3,h4⟩:=A.side S rfl;refine⟨fun x=>decide (x∈S),decide_eq_true h1,decide_eq_false h2,?_⟩;have:bK r (fun x=>decide (x∈S))=(fB r S).length:=by unfold fB;rw[Dp];rfl
   lia
theorem zN(i:Int):Cn [.int i]=some (.val (.bl true)):=by
 apply Pu;unfold Cn
 (refine Dm.Ph ?_ rfl rfl;and_intros)
 refine Pj (P9 (P1 (M_ rfl (Qa ?_ rfl rfl))));refine Pb (PY (Q0 (P1 (M_ rfl (Qa ?_ rfl rfl)))));exact Pb rfl
theorem cE(i lo hi:Int)(h0:lo<=i)(h1:i<=hi):p6 [.int i,.int lo,.int hi]=some (.val (.bl true)):=by unfold p6;simp[fn,sR,gW,eF,eAs,eV,pks,pk,zN,RV.aY,RV.dat,dO,jL,gLe,h0,h1]
theorem kB(k:Int)(h0:1<=k)(h1:k<=6):uF [.int k]=some (.val .non):=by
 have e:ki [.int k]=some (.val (.bl true)):=by
  apply Pu;unfold ki
  (refine Dm.Ph ?_ rfl rfl;and_intros)
  refine Pj (Pe (m_ (M_ rfl (m_ (O9 (m_ (O9 (O8 (Pf (cE k 1 6 h0 h1) ?_ rfl rfl)))))))));rfl
 apply Pu;unfold uF
 (refine Dm.Ph ?_ rfl rfl;and_intros)
 refine Pk (PK (Pg (Pe (m_ (M_ rfl (O8 (Pf e ?_ rfl rfl)))))));exact Pb (PV (Pq rfl))
noncomputable def mgf(f:Int->Int)(a b:Int):Int->Int:=fun x=>if f x=f b then f a else f x
inductive Con(ts:List Tie):Int->Int->Prop
 |refl (x:Int):Con ts x x
 |tie (t:Tie):t∈ts->Con ts t.a t.b
 |symm {x y:Int}:Con ts x y->Con ts y x
 |trans {x y z:Int}:Con ts x y->Con ts y z->Con ts x z
theorem Con.mono{ts us:List Tie}(h:∀t∈ts,t∈us){x y:Int}(c:Con ts x y):Con us x y:=by
 induction c with
 |refl x=>exact .refl x
 |tie t m=>exact .tie t (h t m)
 |symm _ ih=>exact .symm ih
 |trans _ _ i1 i2=>exact .trans i1 i2
def Tells(f:Int->Int)(ts:List Tie):Prop:=∀x y,f x=f y↔Con ts x y
theorem Con.nil{x y:Int}(c:Con [] x y):x=y:=by
 induction c with
 |refl x=>rfl
 |tie t m=>cases m
 |symm _ ih=>exact ih.symm
 |trans _ _ i1 i2=>exact i1.trans i2
theorem tells_nil:Tells (fun x=>x) []:=fun x y=>⟨fun h=>by cases h;exact .refl _,fun c=>c.nil⟩
theorem tells_mgf{f:Int->Int}{ts:List Tie}(h:Tells f ts)(t:Tie)(a b:Int)(LL:(a=t.a/\b=t.b)\/(a=t.b/\b=t.a)):Tells (mgf f a b) (t::ts):=by
 have up:∀{x y},f x=f y->Con (t::ts) x y:=fun e=>Con.mono (fun u m=>Mh _ m) ((h _ _).mp e);have ab:Con (t::ts) a b:=by
  rcases LL with⟨rfl,rfl⟩ | ⟨rfl,rfl⟩
  ·exact .tie t Mg
  ·exact .symm (.tie t Mg)
 intro x y;unfold mgf;constructor
 ·intro e;by_cases hx:f x=f b
  ·rw[if_pos hx]at e;by_cases hy:f y=f b
   ·exact up (hx.trans hy.symm)
   ·rw[if_neg hy]at e;exact .trans (up hx) (.trans (.symm ab) (up e))
  ·rw[if_neg hx]at e;by_cases hy:f y=f b
   ·rw[if_pos hy]at e;exact .trans (up e) (.trans ab (.symm (up hy)))
   ·rw[if_neg hy]at e;exact up e
 ·intro c;have key:∀{x y:Int},Con (t::ts) x y->(if f x=f b then f a else f x)=(if f y=f b then f a else f y):=fun c=>by
   induction c with
   |refl x=>rfl
   |tie u m=>
    rcases Mj.mp m with rfl | m
    ·rcases LL with⟨rfl,rfl⟩ | ⟨rfl,rfl⟩
     ·rw[if_pos (rfl:f u.b=f u.b)];split
      ·rfl
      ·rfl
     ·rw[if_pos (rfl:f u.a=f u.a)];split
      ·rfl
      ·rfl
    ·have e:=(h u.a u.b).mpr (.tie u m);rw[e]
   |symm _ ih=>exact ih.symm
   |trans _ _ i1 i2=>exact i1.trans i2
  exact key c
noncomputable def lay(r:List Tie)(ms:List Int)(j:Int):List Tie:=((r.zip ms).filter fun p=>decide (p.2=j)).map (·.1)
theorem iw(t:Tie)(m:Int)(r:List Tie)(ms:List Int)(j:Int):lay (t::r) (m::ms) j=if m=j then t::lay r ms j else lay r ms j:=by unfold lay;rw[OA,MO];by_cases h:m=j<;>simp[h]
def qf(k:Int)(r:List Tie)(ms:List Int)(t:Tie)(m:Int):Prop:=
 (m=0/\∀j,1<=j->j<=k->Con (lay r ms j) t.a t.b)\/(1<=m/\m<=k/\¬Con (lay r ms m) t.a t.b/\∀j,1<=j->j<m->Con (lay r ms j) t.a t.b)
def bg(k:Int):List Tie->List Int->Prop
 |[],[]=>True
 |t::r,m::ms=>bg k r ms/\qf k r ms t m
 |_,_=>False
theorem qf.uniq{k:Int}{r:List Tie}{ms:List Int}{t:Tie}{m m':Int}(h:qf k r ms t m)(h':qf k r ms t m'):m=m':=by
 rcases h with⟨rfl,h⟩ | ⟨h1,h2,h3,h4⟩
 ·rcases h' with⟨rfl,_⟩ | ⟨g1,g2,g3,_⟩
  ·rfl
  ·exact absurd (h m' g1 g2) g3
 ·rcases h' with⟨rfl,h'⟩ | ⟨g1,g2,g3,g4⟩
  ·exact absurd (h' m h1 h2) h3
  ·rcases Int.lt_trichotomy m m' with q | q | q
   ·exact absurd (g4 m h1 q) h3
   ·exact q
   ·exact absurd (h4 m' g1 q) g3
theorem bg.len{k:Int}:∀{r:List Tie} {ms:List Int},bg k r ms->ms.length=r.length
 |[],[],_=>rfl
 |_::r,_::ms,h=>by simp[bg.len h.1]
 |[],_::_,h=>h.elim
 |_::_,[],h=>h.elim
theorem bg.uniq{k:Int}:∀{r:List Tie} {ms ms':List Int},bg k r ms->bg k r ms'->ms=ms'
 |[],[],[],_,_=>rfl
 |_::r,m::ms,m'::ms',h,h'=>by have e:=bg.uniq h.1 h'.1;subst e;rw[h.2.uniq h'.2]
 |[],_::_,_,h,_=>h.elim
 |[],[],_::_,_,h=>h.elim
 |_::_,[],_,h,_=>h.elim
 |_::_,_::_,[],_,h=>h.elim
noncomputable def lab(n:Nat)(f:Int->Int):Dat:=.lst ((Mm n).map fun(i:Nat)=>Dat.int (f i))
theorem oj(n:Nat)(f:Int->Int)(x:Int)(h0:0<=x)(h1:x<n):gIx (lab n f) (.int x)=some (.val (.int (f x))):=by
 unfold lab gIx atI ixN;have hx:x.toNat<n:=by lia
 have hc:((x.toNat:Nat):Int)=x:=by lia
 simp only[Dp,Mw,h0,h1,if_true];simp[Nf hx,hc]
theorem GH(n:Nat):Dat.lst (ups 0 n)=lab n fun x=>x:=by unfold ups lab;simp
theorem CA(n:Nat)(f:Int->Int):lab n f=.lst (((Mm n).map fun(i:Nat)=>f i).map Dat.int):=by unfold lab;rw[M4];rfl
theorem wA(n:Nat)(hn:n<=10)(f:Int->Int)(a b:Int)(a0:0<=a)(a1:a<n)(b0:0<=b)(b1:b<n):uH [lab n f,.int a,.int b]=some (.new (lab n (mgf f a b))):=by
 apply Pu;unfold uH
 (refine Dm.Ph ?_ rfl rfl;and_intros)
 refine Pj (Qs (fun i:Nat=>Dat.int (f i)) (Mm n) (fun i:Nat=>mgf f a b i) Dat.int (d:=lab n f) ?_ rfl rfl rfl (by decide) (by rw[Mw];unfold SZ;lia) fun i _=>?_)
 ·rw[<- CA];rfl
 ·refine Q9 (Pg (N_ (M_ rfl (N_ (M_ rfl (M_ rfl (Pa ?_ rfl rfl (oj n f b b0 b1))))))));refine Qh (Pb ⟨fun g=>?_,fun g=>?_⟩) rfl rfl
  ·refine N_ (M_ rfl (M_ rfl (Pa (Po ⟨?_,rfl⟩) rfl rfl (oj n f a a0 a1))));unfold mgf;rw[if_pos (of_decide_eq_true g)]
  ·refine M_ rfl (Po ⟨?_,rfl⟩);unfold mgf;rw[if_neg (of_decide_eq_false g)]
theorem qg{α:Type}(zf:α->Dat)(d:α):∀(k:Nat) (l:List α),ic k (l.map zf)=(Mm l.length).map fun i=>.tup [.int ((k+i:Nat):Int),zf (l.getD i d)]
 |k,[]=>rfl
 |k,x::l=>by
  rw[eg,ic,qg zf d (k+1) l,MU,List.range_succ_eq_map,eg,M4]
  congr 1
  apply NW;intro i _;show _=Dat.tup [.int ((k+(i+1):Nat):Int),zf ((x::l).getD (i+1) d)];rw[show k+1+i=k+(i+1) by lia];rfl
theorem dc{n k:Nat}{p q:List Nat}(e:Mm n=p++k::q):k=p.length/\k<n:=by
 have h1:(Mm n)[p.length]?=some k:=by rw[e,MJ (Ds _),O3];rfl
 have h2:p.length<n:=by
  have:(Mm n).length=p.length+(q.length+1):=by rw[e];simp
  rw[Mw]at this;lia
 rw[Nf h2]at h1;injection h1 with h1
 lia
def zO(gs:List (Int->Int))(a b:Int)(i:Nat)(num:Int):Prop:=
 (num=0/\∀(j:Nat) f,j<i->gs[j]?=some f->f a=f b)\/∃(j:Nat) (f:Int->Int),j<i/\gs[j]?=some f/\f a≠f b/\(∀(j':Nat) f',j'<j->gs[j']?=some f'->f' a=f' b)/\num=(j:Int)+1
theorem zP(n:Nat)(gs:List (Int->Int))(a b:Int)(a0:0<=a)(a1:a<n)(b0:0<=b)(b1:b<n):∃num:Int,p7 [.lst (gs.map (lab n)),.int a,.int b]=some (.val (.int num))/\zO gs a b gs.length num:=by
 suffices hh:Wr (p7 [.lst (gs.map (lab n)),.int a,.int b]) fun v=>∃num:Int,v=.val (.int num)/\zO gs a b gs.length num by obtain⟨v,h1,num,rfl,h2⟩:=hh;exact⟨num,h1,h2⟩
 unfold p7
 (refine Dm.Ph ?_ rfl rfl;and_intros)
 refine O_ (Pz (Rn (M_ rfl (Po ⟨_,rfl,?_⟩))));rw[qg (lab n) fun x=>x];refine PD (fun i:Nat=>Dat.tup [.int ((0+i:Nat):Int),lab n (gs.getD i fun x=>x)]) _ _ (Mm gs.length) _ _ _ _ _ (fun p q ρ=>∃c3 c4:Cell,ρ=[.sh (.lst (gs.map (lab n))),.sh (.int a),.sh (.int b),c3,c4]/\∀(j:Nat) f,j<p.length->gs[j]?=some f->f a=f b) ⟨_,_,rfl,fun j f hj=>by simp at hj⟩ ?_ ?_
 ·rintro p i q ρ e ⟨c3,c4,rfl,low⟩;obtain⟨ip,il⟩:=dc e;have hf:gs[i]?=some (gs.getD i fun x=>x):=by rw[Nh,Mp il];rfl
  generalize (gs.getD i fun x=>x)=f at hf
  refine Dm.aX rfl (by trivial) ?_;unfold zq;refine Pk (Pg (N_ (N_ (M_ rfl (M_ rfl (Pa ?_ rfl rfl (oj n f a a0 a1)))))));refine N_ (M_ rfl (M_ rfl (Pa ?_ rfl rfl (oj n f b b0 b1))));refine P8 (Pb ?_) rfl rfl;by_cases h:f a=f b
  ·refine PF (by simp[h]) (Pq ⟨_,_,rfl,fun j g hj hg=>?_⟩);rw[Mr,M9]at hj;by_cases q:j=i
   ·subst q;rw[hf]at hg;cases hg;exact h
   ·exact low j g (by lia) hg
  ·refine Qm (by simp[h]) (Pj (N_ (M_ rfl (O9 (Pp ?_ rfl rfl)))));exact⟨_,rfl,.inr ⟨i,f,il,hf,h,fun j g hj=>low j g (by lia),by lia⟩⟩
 ·rintro ρ ⟨c3,c4,rfl,low⟩;rw[Mw]at low;exact Pj (O9 ⟨0,rfl,.inl ⟨rfl,low⟩⟩)
def Ends(n:Int)(r:List Tie):Prop:=∀t∈r,0<=t.a/\t.a<n/\0<=t.b/\t.b<n
def CB(k:Nat)(gs:List (Int->Int))(r:List Tie)(ms:List Int):Prop:=gs.length=k/\∀(j:Nat) f,gs[j]?=some f->Tells f (lay r ms ((j:Int)+1))
theorem map_set(n:Nat)(gs:List (Int->Int))(i:Nat)(f:Int->Int):(gs.map (lab n)).set i (lab n f)=(gs.set i f).map (lab n):=by rw[List.map_set]
def zQ(o:Bool)(gs gs':List (Int->Int))(a b:Int)(i:Nat)(num:Int):Prop:=
 (num=0/\gs'=gs/\∀(j:Nat) f,j<i->gs[j]?=some f->f a=f b)\/∃(j:Nat) (f:Int->Int),j<i/\gs[j]?=some f/\f a≠f b/\(∀(j':Nat) f',j'<j->gs[j']?=some f'->f' a=f' b)/\num=(j:Int)+1/\gs'=gs.set j (mgf f (if o then a else b) (if o then b else a))
theorem zQ.num{k:Nat}{o:Bool}{gs gs':List (Int->Int)}{r:List Tie}{ms:List Int}(h:CB k gs r ms)(t:Tie){num:Int}(l:zQ o gs gs' t.a t.b k num):qf k r ms t num/\CB k gs' (t::r) (num::ms):=by
 obtain⟨hl,ht⟩:=h;rcases l with⟨rfl,rfl,h2⟩ | ⟨j,f,jk,h1,h3,h4,rfl,rfl⟩
 ·refine⟨.inl ⟨rfl,fun j j1 j2=>?_⟩,hl,fun i g hg=>?_⟩
  ·have hj:(j-1).toNat<gs'.length:=by lia
   have:=(ht (j-1).toNat _ (Mp hj) t.a t.b).mp (h2 _ _ (by lia) (Mp hj));rw[show (((j-1).toNat:Nat):Int)+1=j by lia]at this;exact this
  ·rw[iw,if_neg (by lia)];exact ht i g hg
 ·have hj:j<gs.length:=(Me.mp h1).1;refine⟨.inr ⟨by lia,by lia,fun c=>h3 ((ht j f h1 t.a t.b).mpr c),fun i i1 i2=>?_⟩,by rw[MK];exact hl,fun i g hg=>?_⟩
  ·have hi:(i-1).toNat<gs.length:=by lia
   have:=(ht (i-1).toNat _ (Mp hi) t.a t.b).mp (h4 (i-1).toNat _ (by lia) (Mp hi));rw[show (((i-1).toNat:Nat):Int)+1=i by lia]at this;exact this
  ·rw[iw];by_cases q:j=i
   ·subst q;rw[My hj]at hg;cases hg;rw[if_pos rfl];cases o
    ·exact tells_mgf (ht j f h1) t t.b t.a (.inr ⟨rfl,rfl⟩)
    ·exact tells_mgf (ht j f h1) t t.a t.b (.inl ⟨rfl,rfl⟩)
   ·rw[gV q]at hg;rw[if_neg (by lia)];exact ht i g hg
theorem JZ(n:Nat)(gs:List (Int->Int)){i:Nat}{f:Int->Int}(h:gs[i]?=some f):gIx (.lst (gs.map (lab n))) (.int (0+(i:Nat)))=some (.val (lab n f)):=by
 have hi:=(Me.mp h).1;rw[Int.zero_add];show (atI (gs.map (lab n)) i).map RV.val=_;rw[Dm.jy (lab n) gs (i:Nat) (by lia) (by lia)];have:gs[((i:Nat):Int).toNat]'(by lia)=f:=by
  have:=Me.mp h
  simpa using this.2
 rw[this];rfl
theorem LV(k:Nat):CB k ((Mm k).map fun _=>(fun x:Int=>x)) [] []:=⟨by simp,fun j f hf=>by
 rw[MA]at hf;cases h:(Mm k)[j]? with
 |none=>rw[h]at hf;cases hf
 |some x=>rw[h]at hf;cases hf;exact tells_nil⟩
theorem fV(n k:Nat)(hn:n<=10)(hk1:1<=k)(hk6:k<=6)(r:List Tie)(hr:Ends n r)(hl:r.length<=1000):∃ms:List Int,mZ [.int n,aH r,.int k]=some (.new (.lst (ms.map Dat.int)))/\bg k r ms:=by
 suffices hh:Wr (mZ [.int (n:Nat),aH r,.int (k:Nat)]) fun v=>∃ms:List Int,v=.new (.lst (ms.map Dat.int))/\bg k r ms by obtain⟨v,h1,ms,rfl,h2⟩:=hh;exact⟨ms,h1,h2⟩
 unfold mZ
 (refine Dm.Ph ?_ rfl rfl;and_intros)
 refine O_ (Qi (Pe (m_ (M_ rfl (O8 (Pf (kB k (by lia) (by lia)) ?_ rfl rfl))))));refine O_ (Pd (QJ (fun i:Nat=>Dat.int (0+(i:Nat))) (Mm k) (fun _=>(fun x:Int=>x)) (lab n) (ρ1:=[.sh (.int (n:Nat)),.sh (aH r),.sh (.int (k:Nat)),.un,.un,.un,.un,.un,.un]) ?_ ?_ rfl (by decide) (by rw[Mw];unfold SZ;lia) fun i _=>?_) (by decide))
 rotate_left
 ·apply QD;refine Qc (M_ rfl (bS.mk ⟨⟨?_,rfl⟩,by unfold BIG;lia,by unfold BIG;lia⟩));rw[M5];rfl
 ·refine PB (m_ (M_ rfl (O8 (Ro ?_ rfl (by lia)))));rw[M5,GH];exact P4 ⟨rfl,rfl⟩
 refine Py ?_ (by trivial);refine O_ (Pd (PZ (O8 (Pn ?_ rfl rfl (by decide)))) (by decide));refine Py ?_ (by trivial);refine O_ (Pz (Rh (M_ rfl (Po ⟨_,rfl,?_⟩))));rw[<- OJ];refine PD bM _ _ r.reverse _ _ _ _ _ (fun p q ρ=>∃(gs:List (Int->Int)) (ms:List Int) (c5 c6 c7 c8:Cell),ρ=[.sh (.int (n:Nat)),.sh (aH r),.sh (.int (k:Nat)),.ow (.lst (gs.map (lab n))),.ow (.lst (ms.reverse.map Dat.int)),c5,c6,c7,c8]/\CB k gs p.reverse ms/\bg k p.reverse ms) ⟨(Mm k).map fun _=>(fun x:Int=>x),[],.un,.un,.un,.un,rfl,LV k,trivial⟩ ?_ ?_
 ·rintro p t q ρ e ⟨gs,ms,c5,c6,c7,c8,rfl,I,A⟩;have ht:t∈r:=Oc.mp (by rw[e];simp);obtain⟨t0,t1,t2,t3⟩:=hr t ht;have lp:ms.length<=1000:=by
   have a:=A.len;have:r.reverse.length=p.length+(q.length+1):=by rw[e];simp
   rw[M6]at a this
   lia
  obtain⟨num,en,ln⟩:=zP n gs t.a t.b t0 t1 t2 t3;rw[I.1]at ln;refine Dm.aX rfl (by trivial) ?_;unfold zu;refine O_ (Pd (Pe (m_ (Pw rfl (m_ (M_ rfl (m_ (M_ rfl (O8 (Pf en (Pc ?_ (by trivial)) rfl rfl))))))))) (by decide));refine PJ (fun ρ=>∃gs',ρ=[.sh (.int (n:Nat)),.sh (aH r),.sh (.int (k:Nat)),.ow (.lst (gs'.map (lab n))),.ow (.lst (ms.reverse.map Dat.int)),.sh (.int t.m),.sh (.int t.a),.sh (.int t.b),.sh (.int num)]/\zQ true gs gs' t.a t.b k num) ?_ ?_
  ·refine Pk (Pg (N_ (M_ rfl (O9 (P_ (Pb ?_) rfl rfl)))));rcases ln with⟨rfl,low⟩ | ⟨j,f,jk,hf,ne,low,rfl⟩
   ·exact PF rfl (Pq ⟨gs,rfl,.inl ⟨rfl,rfl,low⟩⟩)
   ·have gi:gIx (.lst (gs.map (lab n))) (.int ((j:Int)+1-1))=some (.val (lab n f)):=by
     have:=JZ n gs hf;rw[show (j:Int)+1-1=0+(j:Nat) by lia];exact this
    refine Qm (decide_eq_true (by lia)) ?_;refine QY (Pe (m_ (N_ (Pw rfl (N_ (M_ rfl (O9 (PX (Pa ?_ rfl rfl gi) rfl rfl))))))));refine m_ (M_ rfl (m_ (M_ rfl (O8 (Px (wA n hn f t.a t.b t0 t1 t2 t3) ?_ rfl rfl rfl (by trivial))))));refine P4 ⟨⟨_,rfl⟩,N_ (M_ rfl (O9 (PX (bS.mk ⟨gs.map (lab n),j,_,rfl,?_,rfl,?_⟩) rfl rfl)))⟩
    ·have hj:j<gs.length:=(Me.mp hf).1;rw[Dp];unfold ixN;rw[if_pos (by lia),if_pos (by lia)]
     congr 1
     lia
    ·exact⟨gs.set j (mgf f t.a t.b),by rw[<- map_set];rfl,.inr ⟨j,f,jk,hf,ne,low,rfl,rfl⟩⟩
  ·rintro ρ ⟨gs',rfl,L⟩;obtain⟨h1,h2⟩:=L.num I t;refine Qk (M_ rfl (Po (kc ?_ rfl (by trivial) (by rw[Dp,M6];unfold SZ;lia)))) rfl;refine⟨gs',num::ms,.sh (.int t.m),.sh (.int t.a),.sh (.int t.b),.sh (.int num),by rw[Nn,Mt];rfl,?_⟩;rw[List.reverse_append];exact⟨h2,A,h1⟩
 ·rintro ρ ⟨gs,ms,c5,c6,c7,c8,rfl,I,A⟩;rw[List.reverse_reverse]at A;refine Pj (P1 (Pw rfl (Qa (v:=.new (.lst (ms.map Dat.int))) ?_ rfl ?_)))
  ·exact⟨ms,rfl,A⟩
  ·unfold jV;dsimp only;rw[<- OJ,List.reverse_reverse]
theorem Good.mem{n:Int}:∀{r:List Tie} {lo:Int},Good n lo r->∀t∈r,0<=t.a/\t.a<=t.b/\t.b<n
 |[],_,_,t,h=>by cases h
 |x::r,lo,g,t,h=>by
  rcases Mj.mp h with rfl | h
  ·exact⟨g.2.1,g.2.2.1,g.2.2.2.1⟩
  ·exact Good.mem g.2.2.2.2 t h
noncomputable def keep(r:List Tie)(ms:List Int):List Tie:=((r.zip ms).filter fun p=>decide (0<p.2)).map (·.1)
theorem dg(t:Tie)(m:Int)(r:List Tie)(ms:List Int):keep (t::r) (m::ms)=if 0<m then t::keep r ms else keep r ms:=by unfold keep;rw[OA,MO];by_cases h:0<m<;>simp[h]
noncomputable def zE(x:Tie×Int):Dat:=.tup [bM x.1,.int x.2]
theorem uW:∀(r:List Tie) (ms:List Int),fy (r.map bM) (ms.map Dat.int)=(r.zip ms).map zE
 |[],_=>by simp[fy]
 |_::_,[]=>by simp[fy]
 |t::r,m::ms=>by rw[eg,eg,fy,uW r ms,OA,eg];rfl
theorem Rm(r:List Tie)(ms:List Int)(p:Tie×Int->Bool){it:FI}{k:Nat}{t:FT}{ρ ρ1:Env}{Q:Val->Env->Prop}(q:Q (.new (aH (((r.zip ms).filter p).map (·.1)))) ρ1)(Fd:it ρ=some (fy (r.map bM) (ms.map Dat.int),ρ1))(hk:ρ1.length=k)(hk0:k≠0)(hl:r.length<=SZ)
  (ht:∀x:Tie×Int,Wt t (ρ1++[.sh (bM x.1),.sh (.int x.2)]) fun c ρ'=>c=p x/\ρ'=ρ1++[.sh (bM x.1),.sh (.int x.2)]):We (bX it 2 (bT [k,k+1]) t (eV k)) ρ Q:=by
 have b:∀(x:Tie×Int) (c1 c2:Cell),bT [k,k+1] (zE x) (ρ1++[c1,c2])=some (ρ1++[.sh (bM x.1),.sh (.int x.2)]):=fun x c1 c2=>by show sets [k,k+1] [bM x.1,.int x.2] _=_;rw[sets,if_neg hk0,sets,if_neg (by lia),sets];rw[ND _ _ (by lia),ND _ _ (by lia)];subst hk;rw[O3,show ρ1.length+1-ρ1.length=1 by lia];rfl
 refine Rw zE (r.zip ms) p (fun x=>x.1) bM (fun x=>(ρ1++[Cell.sh (bM x.1),Cell.sh (.int x.2)]:Env)) (own:=2) (bd:=bT [k,k+1]) (Q:=Q) q (by rw[Fd,uW]) (fun x=>b x .un .un) (fun x y=>b x (.sh (bM y.1)) (.sh (.int y.2))) (fun x=>Ou) (by rw[List.length_zip];lia) (fun x _=>ht x) (fun x _ _=>?_);refine M_ (d:=bM x.1) ?_ (Po ⟨rfl,rfl⟩);rw[MJ (by lia),hk,O3];rfl
noncomputable def eZ(n k:Nat)(r:List Tie):Dat:=.tup [.int (n:Nat),.int (k:Nat),aH r]
theorem wB{ρ ρ1:Env}{it:FI}{k:Nat}(r:List Tie)(ms:List Int){Q:Val->Env->Prop}(q:Q (.new (aH (keep r ms))) ρ1)(Fd:it ρ=some (fy (r.map bM) (ms.map Dat.int),ρ1))(hk:ρ1.length=k)(hk0:k≠0)(hl:r.length<=SZ):We (bX it 2 (bT [k,k+1]) (tV (e2 gGt (eV (k+1)) (eC (.int 0)))) (eV k)) ρ Q:=by refine Rm r ms (fun p=>decide (0<p.2)) q Fd hk hk0 hl fun x=>?_;refine Pg (N_ (M_ (d:=.int x.2) ?_ (O9 (P_ (Pb ⟨rfl,rfl⟩) rfl rfl))));rw[MJ (by lia),hk];simp
theorem GI(n k:Nat)(hn:n<=10)(hk1:1<=k)(hk6:k<=6)(r:List Tie)(ms:List Int)(hr:Ends n r)(hl:r.length<=1000)(ha:bg k r ms):uM [.int (n:Nat),aH r,.int (k:Nat)]=some (.val (eZ n k (keep r ms))):=by
 obtain⟨ms',el,al⟩:=fV n k hn hk1 hk6 r hr hl;rw[al.uniq ha]at el;apply Pu;unfold uM
 (refine Dm.Ph ?_ rfl rfl;and_intros)
 refine O_ (Pd (Pe (m_ (M_ rfl (m_ (M_ rfl (m_ (M_ rfl (O8 (Px el ?_ rfl rfl rfl rfl)))))))) ) (by decide));refine Py ?_ (by trivial);refine Pj (PR (m_ (M_ rfl (m_ (M_ rfl (m_ (wB (ρ1:=[.sh (.int (n:Nat)),.sh (aH r),.sh (.int (k:Nat)),.sh (.lst (ms.map Dat.int))]) r ms (k:=4) ?_ ?_ rfl (by decide) (ML hl (by decide)))))))))
 ·exact O8 (Pn rfl rfl rfl (Ml rfl))
 ·rfl
theorem CC{r:List Tie}{ms:List Int}{j:Int}{t:Tie}(h:t∈lay r ms j):(t,j)∈r.zip ms:=by unfold lay at h;obtain⟨q,hq,rfl⟩:=MD.mp h;obtain⟨h1,h2⟩:=M7.mp hq;have:q.2=j:=of_decide_eq_true h2;rw[<- this];exact h1
theorem qh:∀(r:List Tie) (ms:List Int) (j:Int),1<=j->lay (keep r ms) (ms.filter fun m=>decide (0<m)) j=lay r ms j\/r.length≠ms.length
 |[],[],_,_=>.inl rfl
 |[],_::_,_,_=>.inr (by simp)
 |_::_,[],_,_=>.inr (by simp)
 |t::r,m::ms,j,hj=>by
  rcases qh r ms j hj with ih | ih
  ·left;rw[dg,iw];by_cases h:0<m
   ·rw[if_pos h,M3 (by simpa using h),iw,ih]
   ·rw[if_neg h,M0 (by simpa using h),ih,if_neg (by lia)]
  ·right
   simpa using ih
theorem qi{k:Int}:∀{r:List Tie} {ms:List Int},bg k r ms->bg k (keep r ms) (ms.filter fun m=>decide (0<m))
 |[],[],_=>trivial
 |t::r,m::ms,h=>by
  have ih:=qi h.1;rw[dg];by_cases q:0<m
  ·rw[if_pos q,M3 (by simpa using q)];refine⟨ih,?_⟩;have e:∀j,1<=j->lay (keep r ms) (ms.filter fun m=>decide (0<m)) j=lay r ms j:=fun j hj=>by
    rcases qh r ms j hj with z | z
    ·exact z
    ·exact absurd h.1.len.symm z
   rcases h.2 with⟨h0,_⟩ | ⟨h1,h2,h3,h4⟩
   ·lia
   ·exact .inr ⟨h1,h2,by rw[e m h1];exact h3,fun j j1 j2=>by rw[e j j1];exact h4 j j1 j2⟩
  ·rw[if_neg q,M0 (by simpa using q)];exact ih
 |[],_::_,h=>h.elim
 |_::_,[],h=>h.elim
theorem iy:∀(r:List Tie) (ms:List Int),(keep r ms).Sublist r
 |[],ms=>by unfold keep;simp
 |_::_,[]=>by unfold keep;simp
 |t::r,m::ms=>by
  rw[dg];split
  ·exact(iy r ms).cons_cons t
  ·exact(iy r ms).cons t
theorem iz(n i:Int)(h0:0<=i)(h1:i<n):kh [.int n,.int i]=some (.val (.bl true)):=by
 apply Pu;unfold kh
 (refine Dm.Ph ?_ rfl rfl;and_intros)
 refine Pj (Pe (m_ (M_ rfl (m_ (O9 (m_ (N_ (M_ rfl (O9 (PX ?_ rfl rfl))))))))));exact O8 (Pf (cE i 0 (n-1) h0 (by lia)) rfl rfl rfl)
theorem wC(m:Int)(h0:0<=m)(h1:m<=Z30):uA [.int m]=some (.val (.bl true)):=by
 apply Pu;unfold uA
 (refine Dm.Ph ?_ rfl rfl;and_intros)
 refine Pj (Pe (m_ (M_ rfl (m_ (O9 (m_ (N_ (O9 (O9 (Qe (z:=Z30) ?_ rfl rfl (by decide) (by decide)))))))))));exact O8 (Pf (cE m 0 Z30 h0 h1) rfl rfl rfl)
theorem wD(n:Int)(t:Tie)(m0:0<=t.m)(m1:t.m<=Z30)(a0:0<=t.a)(a1:t.a<n)(b0:0<=t.b)(b1:t.b<n):uB [.int n,bM t]=some (.val (.bl true)):=by
 apply Pu;unfold uB bM
 (refine Dm.Ph ?_ rfl rfl;and_intros)
 refine O_ (Pk (Qd (PK (Pg (P1 (M_ rfl (Qa ?_ rfl rfl)))))));refine Pb ?_;refine PF rfl ?_;refine Pg (N_ (PB (m_ (M_ rfl (O8 (QS ?_ rfl))))));refine O9 (P8 ?_ rfl rfl);refine Pb ?_;refine PF rfl ?_;refine Pq (Pj (P9 (Pe (m_ (N_ (M_ rfl (O9 (Pa ?_ rfl rfl rfl))))))));refine O8 ?_;refine Pf (wC t.m m0 m1) ?_ rfl rfl;refine Pb (PY (P9 (Pe (m_ (M_ rfl (m_ (N_ (M_ rfl (O9 (Pa ?_ rfl rfl rfl))))))))));refine O8 ?_;refine Pf (iz n t.a a0 a1) ?_ rfl rfl;refine Pb (PY (Pe (m_ (M_ rfl (m_ (N_ (M_ rfl (O9 (Pa ?_ rfl rfl rfl)))))))));refine O8 ?_;refine Pf (iz n t.b b0 b1) ?_ rfl rfl;refine PN ?_;rfl
theorem wF(n:Int)(t:Tie)(m0:0<=t.m)(m1:t.m<=Z30)(a0:0<=t.a)(ab:t.a<=t.b)(b1:t.b<n):uC [.int n,bM t]=some (.val (.bl true)):=by
 apply Pu;unfold uC
 (refine Dm.Ph ?_ rfl rfl;and_intros)
 refine Pj (P9 (Pe (m_ (M_ rfl (m_ (M_ rfl (O8 ?_)))))));refine Pf (wD n t m0 m1 a0 (by lia) (by lia) b1) ?_ rfl rfl;refine Pb (PY (N_ (N_ (M_ rfl (O9 (Pa ?_ rfl rfl rfl))))));refine N_ (M_ rfl (O9 (Pa ?_ rfl rfl rfl)));refine Q2 ?_ rfl rfl;refine PN ?_;exact congrArg (fun b=>RV.val (Dat.bl b)) (decide_eq_true ab)
noncomputable abbrev CD(D:List Tie):Prop:=D.Pairwise fun t u=>t.m<u.m
theorem uX(n:Nat):ups 1 n=(Mm n).map fun i:Nat=>Dat.int (1+(i:Int)):=rfl
theorem oq(n:Int)(h1:1<=n)(h2:n<=10):uz [.int n]=some (.val (.bl true)):=by
 apply Pu;unfold uz
 (refine Dm.Ph ?_ rfl rfl;and_intros)
 refine Pj (Pe (m_ (M_ rfl (m_ (O9 (m_ (O9 (O8 ?_))))))));refine Pf (cE n 1 10 h1 h2) ?_ rfl rfl;refine PN ?_;rfl
theorem ou(n:Int)(h1:1<=n)(h2:n<=6):ki [.int n]=some (.val (.bl true)):=by
 apply Pu;unfold ki
 (refine Dm.Ph ?_ rfl rfl;and_intros)
 refine Pj (Pe (m_ (M_ rfl (m_ (O9 (m_ (O9 (O8 ?_))))))));refine Pf (cE n 1 6 h1 h2) ?_ rfl rfl;refine PN ?_;rfl
theorem wG(D:List Tie)(h:CD D)(hl:D.length<=75):uD [.lst ((D.map (·.m)).map Dat.int)]=some (.val (.bl true)):=by
 have sz:1000<=SZ:=by decide
 apply Pu;unfold uD
 (refine Dm.Ph ?_ rfl rfl;and_intros)
 refine Pj (PB (m_ ?_));have Fd:iR2 (eC (.int 1)) (eB d9 [eV 0]) [.sh (.lst ((D.map (·.m)).map Dat.int))]=some ((Mm ((D.length:Int)-1).toNat).map (fun i:Nat=>Dat.int (1+(i:Int))),[.sh (.lst ((D.map (·.m)).map Dat.int))]):=by
  refine QD ?_;refine QN (O9 (bS.mk (PB (m_ (M_ rfl (O8 (Qg (zf:=Dat.int) ?_ rfl)))))));refine bS.mk ?_;refine⟨⟨?_,rfl⟩,?_⟩
  ·rw[uX,Dp]
  ·rw[Dp];unfold BIG;lia
 refine QJ (fun i:Nat=>Dat.int (1+(i:Int))) (Mm ((D.length:Int)-1).toNat) (fun _=>true) Dat.bl ?_ Fd rfl (by decide) (by simp;lia) (fun i hi=>?_)
 ·refine O8 (QZ (fun b=>b) (xs:=(Mm ((D.length:Int)-1).toNat).map fun _=>true) ?_ rfl);exact PN (congrArg (fun b=>RV.val (Dat.bl b)) (by simp))
 ·have hi':=Nu.mp hi;refine N_ (N_ (M_ rfl (N_ (M_ rfl (O9 (PX ?_ rfl rfl))))));refine QA (zf:=Dat.int) (xs:=D.map (·.m)) (i:=1+(i:Int)-1) (by lia) (by rw[Dp];lia) ?_ rfl rfl;refine N_ (M_ rfl (M_ rfl ?_));refine QA (zf:=Dat.int) (xs:=D.map (·.m)) (i:=1+(i:Int)) (by lia) (by rw[Dp];lia) ?_ rfl rfl;refine P7 ?_ rfl rfl;refine Po ?_;have lt:=List.pairwise_iff_getElem.mp h (1+(i:Int)-1).toNat (1+(i:Int)).toNat (by lia) (by lia) (by lia);refine⟨congrArg Dat.bl (decide_eq_true ?_),rfl⟩;rw[List.getElem_map,List.getElem_map];exact lt
structure Rcd(n:Nat)(r:List Tie):Prop where
 ok:∀t∈r,0<=t.m/\t.m<=Z30/\0<=t.a/\t.a<=t.b/\t.b<n
 up:CD r
 len:r.length<=60
theorem Rcd.sub{n:Nat}{r q:List Tie}(h:Rcd n r)(s:q.Sublist r):Rcd n q:=⟨fun t ht=>h.ok t (s.subset ht),h.up.sublist s,ML s.length_le h.len⟩
theorem Rcd.ends{n:Nat}{r:List Tie}(h:Rcd n r):Ends n r:=fun t ht=>by obtain⟨h1,h2,h3,h4,h5⟩:=h.ok t ht;exact⟨h3,by lia,by lia,h5⟩
theorem oz(n:Nat)(n1:1<=n)(n10:n<=10)(r:List Tie)(h:Rcd n r):uI [.int (n:Nat),aH r]=some (.val (.bl true)):=by
 have sz:1000<=SZ:=by decide
 have hl:=h.len;apply Pu;unfold uI
 (refine Dm.Ph ?_ rfl rfl;and_intros)
 refine O_ (Pk (Qd (PK (Pg (Pe (m_ (M_ rfl (O8 ?_))))))));refine Pf (oq n (by lia) (by lia)) ?_ rfl rfl;refine Pb ?_;refine PF rfl ?_;refine Qd (PK (Pg (P1 (M_ rfl (Qa ?_ rfl rfl)))));refine Pb ?_;refine PF rfl ?_;refine Pg (N_ (PB (m_ (M_ rfl (O8 (Q4 ?_ rfl))))));refine O9 (P_ ?_ rfl rfl);refine Pb ?_;refine PF (decide_eq_false (by rw[Dp];lia)) ?_;refine Pq (O_ (Pk (PK (Pg (PB (m_ ?_))))));refine Qs bM r (fun _=>true) Dat.bl ?_ rfl rfl rfl (by decide) (by lia) (fun t ht=>?_)
 rotate_left
 ·obtain⟨h1,h2,h3,h4,h5⟩:=h.ok t ht;refine Pe (m_ (M_ rfl (m_ (M_ rfl (O8 ?_)))));refine Pf (wF n t h1 h2 h3 h4 h5) ?_ rfl rfl;refine Po ?_;exact⟨rfl,rfl⟩
 refine O8 ?_;refine QZ (fun b=>b) (xs:=r.map fun _=>true) ?_ rfl;refine Pb ?_;refine PF (by simp) ?_;refine Pq (Pj (Pe (m_ ?_)));refine Qs bM r (·.m) Dat.int ?_ rfl rfl rfl (by decide) (by lia) (fun t ht=>?_)
 rotate_left
 ·refine N_ (M_ rfl (O9 (Pa ?_ rfl rfl rfl)));refine Po ?_;exact⟨rfl,rfl⟩
 refine O8 ?_;refine Pf (wG r h.up (by lia)) ?_ rfl rfl;refine PN ?_;rfl
structure Net(n k:Nat)(N:List Tie):Prop where
 rc:Rcd n N
 num:∃ms,bg k N ms/\(0:Int)∉ms
theorem wH(n k:Nat)(n1:1<=n)(n10:n<=10)(k1:1<=k)(k6:k<=6)(N:List Tie)(h:Net n k N):uJ [eZ n k N]=some (.val (.bl true)):=by
 have hl:=h.rc.len;obtain⟨ms,el,al⟩:=fV n k n10 k1 k6 N h.rc.ends (by lia);obtain⟨ms',al',h0⟩:=h.num;rw[al'.uniq al]at h0;apply Pu;unfold uJ eZ
 (refine Dm.Ph ?_ rfl rfl;and_intros)
 refine O_ (Pk (Qd (PK (Pg (P1 (M_ rfl (Qa ?_ rfl rfl)))))));refine Pb ?_;refine PF rfl ?_;refine Pg (N_ (PB (m_ (M_ rfl (O8 (QS ?_ rfl))))));refine O9 (P8 ?_ rfl rfl);refine Pb ?_;refine PF rfl ?_;refine Pq (O_ (Pk (Qd (PK (Pg (Pe (m_ (N_ (M_ rfl (O9 (Pa ?_ rfl rfl rfl)))))))))));refine O8 ?_;refine Pf (ou k (by lia) (by lia)) ?_ rfl rfl;refine Pb ?_;refine PF rfl ?_;refine PK (Pg (Pe (m_ (N_ (M_ rfl (O9 (Pa ?_ rfl rfl rfl)))))));refine m_ (N_ (M_ rfl (O9 (Pa ?_ rfl rfl rfl))));refine O8 ?_;refine Pf (oz n n1 n10 N h.rc) ?_ rfl rfl;refine Pb ?_;refine PF rfl ?_;refine Pq (Pj (N_ (O9 (Pe (m_ (N_ (M_ rfl (O9 (Pa ?_ rfl rfl rfl)))))))));refine m_ (N_ (M_ rfl (O9 (Pa ?_ rfl rfl rfl))));refine m_ (N_ (M_ rfl (O9 (Pa ?_ rfl rfl rfl))));refine O8 ?_;refine Px el ?_ rfl rfl rfl (by trivial)
 skip
 refine Rj (xs:=ms) ?_ rfl rfl;refine PN ?_;exact congrArg (fun b=>RV.val (Dat.bl b)) (by simp[h0])
theorem Rcd.of{n:Nat}{r:List Tie}(g:Good n 0 r)(hl:r.length<=60)(hm:∀t∈r,t.m<=Z30):Rcd n r:=⟨fun t ht=>by
  obtain⟨q1,q2,q3⟩:=Good.mem g t ht;exact⟨Good.lo g t ht,hm t ht,q1,q2,q3⟩,by
  have up:∀(r:List Tie) (lo:Int),Good n lo r->CD r:=fun r=>by
   induction r with
   |nil=>intro _ _;exact List.Pairwise.nil
   |cons t r ih=>intro lo g;exact MZ.mpr ⟨fun u hu=>by have:=Good.lo g.2.2.2.2 u hu;lia,ih _ g.2.2.2.2⟩
  exact up r 0 g,hl⟩
noncomputable def bV(r:List Tie)(t:Int):List Tie:=r.filter fun x=>decide (t<=x.m)
theorem kC(r:List Tie)(hl:r.length<=1000)(t:Int):kj [aH r,.int t]=some (.new (aH (bV r t))):=by
 apply Pu;unfold kj
 (refine Dm.Ph ?_ rfl rfl;and_intros)
 refine Pj ?_;refine QW bM r (fun x=>decide (t<=x.m)) id bM (d:=aH r) ?_ rfl rfl rfl (by decide) (by unfold SZ;lia) (fun u _=>?_) fun u _ _=>?_
 ·rw[OR];rfl
 ·exact Pg (N_ (N_ (M_ rfl (O9 (Pa (M_ rfl (Qp (Pb ⟨rfl,rfl⟩) rfl rfl)) rfl rfl rfl)))))
 ·exact M_ rfl (Po ⟨rfl,rfl⟩)
theorem CF(n a b:Int)(a0:0<=a)(a1:a<n)(b0:0<=b)(b1:b<n)(h:a≠b):uE [.int n,.int a,.int b]=some (.val (.bl true)):=by
 apply Pu;unfold uE
 (refine Dm.Ph ?_ rfl rfl;and_intros)
 refine Pj (P9 (Pe (m_ (M_ rfl (m_ (M_ rfl (O8 (Pf (iz n a a0 a1) ?_ rfl rfl))))))));refine Pb (PY (P9 (Pe (m_ (M_ rfl (m_ (M_ rfl (O8 (Pf (iz n b b0 b1) ?_ rfl rfl)))))))));refine Pb (PY (N_ (M_ rfl (M_ rfl (P8 ?_ rfl rfl)))));rw[decide_eq_false h];rfl
theorem oA(n a b:Int)(a0:0<=a)(a1:a<n)(b0:0<=b)(b1:b<n)(h:a≠b):uG [.int n,.int a,.int b]=some (.val .non):=by
 apply Pu;unfold uG
 (refine Dm.Ph ?_ rfl rfl;and_intros)
 refine Pk (PK (Pg (Pe (m_ (M_ rfl (m_ (M_ rfl (m_ (M_ rfl (O8 (Pf (CF n a b a0 a1 b0 b1 h) ?_ rfl rfl)))))))))));exact Pb (PV (Pq rfl))
theorem CG(r:List Tie)(t:Int):(bV r t).length<=r.length:=NQ _ _
theorem qj(n k:Nat)(n1:1<=n)(n10:n<=10)(k1:1<=k)(k6:k<=6)(N:List Tie)(h:Net n k N):uK [eZ n k N]=some (.val .non):=by
 apply Pu;unfold uK
 (refine Dm.Ph ?_ rfl rfl;and_intros)
 exact Pk (PK (Pg (Pe (m_ (M_ rfl (O8 (Pf (wH n k n1 n10 k1 k6 N h) (Pb (PV (Pq rfl))) rfl rfl)))))))
def Hg(r:List Tie)(j:Nat)(a b:Int):Prop:=∀S:Int->Bool,S a≠S b->j<=bK r S
theorem Hg.trans{r:List Tie}{j:Nat}{a b c:Int}(h:Hg r j a b)(h':Hg r j b c):Hg r j a c:=fun S hs=>by
 by_cases q:S a=S b
 ·exact h' S (q▸hs)
 ·exact h S q
theorem zR{K r:List Tie}(h:K.Sublist r)(S:Int->Bool):bK K S<=bK r S:=(h.filter _).length_le
theorem Hg.up{K r:List Tie}{j:Nat}{a b:Int}(s:K.Sublist r)(h:Hg K j a b):Hg r j a b:=fun S hs=>ML (h S hs) (zR s S)
theorem Hg.less{r:List Tie}{i j:Nat}{a b:Int}(h:Hg r j a b)(e:i<=j):Hg r i a b:=fun S hs=>ML e (h S hs)
theorem DV{n:Nat}{r:List Tie}(h:Fit n r){a b:Int}(a0:0<=a)(a1:a<n)(b0:0<=b)(b1:b<n){k:Nat}(k6:k<=6) :
  ∃c:Bool,we [.int n,aH r,.int a,.int b,.int k]=some (.val (.bl c))/\(c=true->Hg r k a b)/\(c=false->¬Hg r k a b):=by
 obtain⟨c,e,h1,h2⟩:=l8 h a0 a1 b0 b1 k6;refine⟨c,e,fun q S hs=>?_,fun q hh=>?_⟩
 ·cases ha:S a
  ·cases hb:S b
   ·rw[ha,hb]at hs;exact absurd rfl hs
   ·have:=h1 q (fun x=>!S x) (by rw[ha];rfl) (by rw[hb];rfl);rw[ng]at this;exact this
  ·cases hb:S b
   ·exact h1 q S ha hb
   ·rw[ha,hb]at hs;exact absurd rfl hs
 ·obtain⟨S,s1,s2,s3⟩:=h2 q;have:=hh S (by rw[s1,s2];decide)
  lia
theorem zS{j:Nat}{a b:Int}(j1:1<=j)(LL:a≠b):¬Hg [] j a b:=fun h=>by
 have:=h (fun x=>decide (x=a)) (by simp[Ne.symm LL]);simp[bK]at this
 lia
theorem zT:∀{r:List Tie},CD r->∀(i:Nat) (h:i<r.length),bV r r[i].m=r.drop i/\bV r (r[i].m+1)=r.drop (i+1)
 |t::r,up,0,_=>by
  obtain⟨p1,p2⟩:=MZ.mp up;constructor
  ·refine NJ.mpr fun u hu=>decide_eq_true ?_;rcases Mj.mp hu with rfl | hu
   ·exact Nj _
   ·exact OX (p1 u hu)
  ·show O5 _ (t::r)=r;rw[MO,if_neg (by simp;lia)];exact NJ.mpr fun u hu=>decide_eq_true (by have:=p1 u hu;show t.m+1<=u.m;lia)
 |t::r,up,i+1,h=>by
  obtain⟨p1,p2⟩:=MZ.mp up;have hi:i<r.length:=by simpa using h
  obtain⟨e1,e2⟩:=zT p2 i hi;have lt:=p1 r[i] (OI hi);constructor
  ·show O5 _ (t::r)=r.drop i;rw[MO,if_neg (by simp;lia)];exact e1
  ·show O5 _ (t::r)=r.drop (i+1);rw[MO,if_neg (by simp;lia)];exact e2
def Lat(N:List Tie)(j:Nat)(a b:Int):Option Int->Prop
 |none=>¬Hg N j a b
 |some t=>Hg (bV N t) j a b/\¬Hg (bV N (t+1)) j a b
theorem qk(N:List Tie){t t':Int}(h:t<=t'):(bV N t').Sublist (bV N t):=by
 have:bV N t'=(bV N t).filter fun x=>decide (t'<=x.m):=by
  unfold bV;rw[OB];refine NO fun x _=>?_;by_cases q:t'<=x.m
  ·simp[q,show t<=x.m by lia]
  ·simp[q]
 rw[this];exact Nt
theorem Lat.iff{N:List Tie}{j:Nat}{a b:Int}{w:Option Int}(h:Lat N j a b w)(t:Int):Hg (bV N t) j a b↔∃v,w=some v/\t<=v:=by
 cases w with
 |none=>exact⟨fun q=>absurd (q.up Nt) h,fun⟨_,q,_⟩=>by cases q⟩
 |some v=>
  constructor
  ·intro q;refine⟨v,rfl,Int.not_lt.mp fun l=>h.2 (q.up (qk N (by lia)))⟩
  ·rintro⟨_,q,l⟩;cases q;exact h.1.up (qk N l)
noncomputable def GJ:Option Int->Dat
 |none=>.non
 |some t=>.int t
theorem zU(N:List Tie)(i:Int)(h0:0<=i)(h1:i<=N.length):v8 N (some i) none=N.drop i.toNat:=by
 unfold v8 sIx;dsimp only;rw[if_neg (by lia)];have:(min i ((N.length:Nat):Int)).toNat=i.toNat:=by lia
 rw[this];exact List.take_of_length_le (by rw[List.length_drop];exact Ds _)
theorem Rcd.fit{n:Nat}(n10:n<=10){N:List Tie}(h:Rcd n N):Fit n N:=⟨by lia,fun t ht=>by
 obtain⟨_,_,h3,h4,h5⟩:=h.ok t ht;exact⟨h3,by lia,by lia,h5⟩,by
 have:=h.up;unfold List.Nodup;rw[List.pairwise_map];exact this.imp fun q e=>by lia,by have:=h.len;lia⟩
theorem wI{n:Nat}(n10:n<=10){N:List Tie}(hN:Rcd n N){a b:Int}(a0:0<=a)(a1:a<n)(b0:0<=b)(b1:b<n)(LL:a≠b){j:Nat}(j1:1<=j)(j6:j<=6) :
  ∃w:Option Int,m5 [.int n,aH N,.int a,.int b,.int (j:Nat)]=some (.val (GJ w))/\Lat N j a b w/\∀t,w=some t->∃u∈N,u.m=t:=by
 have lN:=hN.len;have fit:=hN.fit n10
 suffices hh:Wr (m5 [.int n,aH N,.int a,.int b,.int (j:Nat)]) fun v=>∃w:Option Int,v=.val (GJ w)/\Lat N j a b w/\∀t,w=some t->∃u∈N,u.m=t by obtain⟨v,h1,w,rfl,h2⟩:=hh;exact⟨w,h1,h2⟩
 obtain⟨c,e,c1,c2⟩:=DV fit a0 a1 b0 b1 j6;unfold m5
 (refine Dm.Ph ?_ rfl rfl;and_intros)
 refine O_ (Pk (PK (Pg (Pe ?_))));refine m_ (M_ rfl (m_ (M_ rfl (m_ (M_ rfl (m_ (M_ rfl (m_ (M_ rfl (O8 (Pf e (Pb ?_) rfl rfl)))))))))));cases c with
 |false=>exact PY (Pj (O9 ⟨none,rfl,c2 rfl,fun t h=>by cases h⟩))
 |true=>
 refine PV (Pq ?_);have h0:=c1 rfl;have lp:0<N.length:=by
  cases N with
  |nil=>exact absurd h0 (zS j1 LL)
  |cons _ _=>exact Nat.succ_pos _
 refine O_ (Pd (O9 (Pc ?_ (by trivial))) (by decide));refine O_ (Pd (PB (m_ (M_ rfl (O8 (Qg (zf:=bM) (xs:=N) (Pc ?_ (by trivial)) rfl))))) (by decide));refine PJ (fun ρ=>∃(lo:Nat) (c7:Cell),lo<N.length/\Hg (N.drop lo) j a b/\¬Hg (N.drop (lo+1)) j a b/\ρ=[.sh (.int (n:Nat)),.sh (aH N),.sh (.int a),.sh (.int b),.sh (.int (j:Nat)),.sh (.int (lo:Nat)),.sh (.int ((lo+1:Nat):Int)),c7]) ?_ ?_
 ·refine Qo (fun k ρ=>∃(lo hi:Nat) (c7:Cell),k=hi-lo/\lo<hi/\hi<=N.length/\Hg (N.drop lo) j a b/\¬Hg (N.drop hi) j a b/\ρ=[.sh (.int (n:Nat)),.sh (aH N),.sh (.int a),.sh (.int b),.sh (.int (j:Nat)),.sh (.int (lo:Nat)),.sh (.int (hi:Nat)),c7]) ?_ 100 N.length _ (by lia) ⟨0,N.length,_,by lia,lp,Ds _,h0,by rw[NT];exact zS j1 LL,rfl⟩;rintro k ρ ⟨lo,hi,c7,rfl,l1,l2,g1,g2,rfl⟩;refine Pg (N_ (N_ (M_ rfl (M_ rfl (PX (O9 (P_ (Pb (P5 (fun q=>?_) fun q=>?_)) rfl rfl)) rfl rfl)))))
  ·unfold zv;refine O_ (Pd (N_ (N_ (M_ rfl (M_ rfl (Pp (O9 (Qn ?_ rfl rfl ⟨by decide,by decide⟩)) rfl rfl))))) (by decide));obtain⟨mi,em⟩:∃mi:Nat,((lo:Nat)+(hi:Nat):Int) / 2=(mi:Nat):=⟨(((lo:Nat)+(hi:Nat):Int) / 2).toNat,by lia⟩
   have m1:lo<mi:=by lia
   have m2:mi<hi:=by lia
   rw[em];refine Pc ?_ (by trivial);obtain⟨c,e,c1,c2⟩:=DV (fit.sub (List.drop_sublist mi N)) a0 a1 b0 b1 j6;refine Pk (Pg (Pe (m_ (M_ rfl (m_ (QV ?_))))));refine M_ rfl (Wp.some (M_ rfl (bS.mk (Wp.none (Wsl.A (zf:=bM) (xs:=N) ?_ rfl)))));rw[zU N mi (by lia) (by lia),M5];refine m_ (M_ rfl (m_ (M_ rfl (m_ (M_ rfl (O8 (Pf e (Pb ?_) rfl rfl)))))));cases c with
   |true=>exact PY (Pd (M_ rfl (Pc ⟨hi-mi,by lia,mi,hi,_,rfl,m2,l2,c1 rfl,g2,rfl⟩ (by trivial))) (by decide))
   |false=>exact PV (Pd (M_ rfl (Pc ⟨mi-lo,by lia,lo,mi,_,rfl,m1,by lia,g1,c2 rfl,rfl⟩ (by trivial))) (by decide))
  ·have:hi=lo+1:=by lia
   subst this;exact⟨lo,_,by lia,g1,g2,rfl⟩
 ·rintro ρ ⟨lo,c7,l1,g1,g2,rfl⟩;obtain⟨e1,e2⟩:=zT hN.up lo l1;refine Pj (N_ (N_ (M_ rfl (M_ rfl (QA (zf:=bM) (xs:=N) (by lia) (by lia) (O9 (Pa (v:=.int (N[lo]).m) ?_ rfl rfl ?_)) rfl rfl)))))
  ·exact⟨some N[lo].m,rfl,⟨by rw[e1];exact g1,by rw[e2];exact g2⟩,fun t h=>by cases h;exact⟨_,OI l1,rfl⟩⟩
  ·simp only[M5];rfl
theorem l9{n k j:Nat}(n1:1<=n)(n10:n<=10)(k1:1<=k)(k6:k<=6)(j1:1<=j)(jk:j<=k){N:List Tie}(h:Net n k N):uL [eZ n k N,.int (j:Nat)]=some (.val .non):=by
 apply Pu;unfold uL
 (refine Dm.Ph ?_ rfl rfl;and_intros)
 refine O_ (Qi (Pe (m_ (M_ rfl (O8 (Pf (qj n k n1 n10 k1 k6 N h) ?_ rfl rfl))))));refine Pk (PK (Pg (Pe (m_ (M_ rfl (m_ (O9 (m_ (N_ (M_ rfl (O9 (Pa (v:=.int (k:Nat)) ?_ rfl rfl rfl))))))))))));exact O8 (Pf (cE j 1 k (by lia) (by lia)) (Pb (PV (Pq rfl))) rfl rfl)
noncomputable def zV(d1 d2:Dat):Option Int->Dat
 |none=>.tup [.str [110,101,118,101,114],d2]
 |some t=>.tup [.str [115,105,110,99,101],.int t,d1,d2]
theorem CH{n k j:Nat}(n1:1<=n)(n10:n<=10)(k1:1<=k)(k6:k<=6)(j1:1<=j)(jk:j<=k){N:List Tie}(h:Net n k N){a b:Int}(a0:0<=a)(a1:a<n)(b0:0<=b)(b1:b<n)(LL:a≠b){w:Option Int}
  (ew:m5 [.int n,aH N,.int a,.int b,.int (j:Nat)]=some (.val (GJ w))):∃d1 d2,m6 [eZ n k N,.int a,.int b,.int (j:Nat)]=some (.val (zV d1 d2 w)):=by
 have hN:=h.rc;have lN:=hN.len;have fit:=hN.fit n10
 suffices hh:Wr (m6 [eZ n k N,.int a,.int b,.int (j:Nat)]) fun v=>∃d1 d2,v=.val (zV d1 d2 w) by obtain⟨v,h1,d1,d2,rfl⟩:=hh;exact⟨d1,d2,h1⟩
 have wa:∀K:List Tie,K.Sublist N->∃ws o,n6 [.int n,aH K,.int a,.int b,.int (j:Nat)]=some (.val (.tup [.lst (List.map msD ws),c_ o])):=fun K hK=>by have f:=fit.sub hK;obtain⟨ws,o,e,_⟩:=fH n f.n40 K f.pl f.nd f.len a b a0 a1 b0 b1 j (by lia) (by lia);exact⟨ws,o,e⟩
 unfold m6
 (refine Dm.Ph ?_ rfl rfl;and_intros)
 refine O_ (Qi (Pe (m_ (M_ rfl (m_ (M_ rfl (O8 (Pf (l9 n1 n10 k1 k6 j1 jk h) ?_ rfl rfl))))))));refine O_ (Qi (Pe (m_ (N_ (M_ rfl (O9 (Pa (v:=.int (n:Nat)) ?_ rfl rfl rfl)))))));refine m_ (M_ rfl (m_ (M_ rfl (O8 (Pf (oA n a b a0 a1 b0 b1 LL) ?_ rfl rfl)))));refine O_ (Pd (Pe (m_ (N_ (M_ rfl (O9 (Pa (v:=.int (n:Nat)) ?_ rfl rfl rfl)))))) (by decide));refine m_ (N_ (M_ rfl (O9 (Pa (v:=aH N) ?_ rfl rfl rfl))));refine m_ (M_ rfl (m_ (M_ rfl (m_ (M_ rfl (O8 (Pf ew ?_ rfl (by cases w<;>rfl))))))));refine Pc ?_ (by trivial);refine O_ (Pk (Pg (N_ (M_ rfl (O9 (Qw (Pb ?_) rfl rfl))))));cases w with
 |none=>refine PY ?_;obtain⟨ws,o,e⟩:=wa N (List.Sublist.refl N);refine Pj (PR (m_ (O9 (m_ (N_ (Pe (m_ (N_ (M_ rfl (O9 (Pa (v:=.int (n:Nat)) ?_ rfl rfl rfl)))))))))));refine m_ (N_ (M_ rfl (O9 (Pa (v:=aH N) ?_ rfl rfl rfl))));refine m_ (M_ rfl (m_ (M_ rfl (m_ (M_ rfl (O8 (Px e ?_ rfl rfl rfl rfl)))))));refine O9 (Pa (v:=c_ o) (O8 (Pn ?_ rfl rfl (Ml rfl))) rfl rfl rfl);exact⟨.non,c_ o,rfl⟩
 |some t=>refine PV (Pq ?_);obtain⟨ws,o,e⟩:=wa (bV N t) Nt;obtain⟨ws',o',e'⟩:=wa (bV N (t+1)) Nt;refine O_ (Pd (N_ (Pe (m_ (N_ (M_ rfl (O9 (Pa (v:=.int (n:Nat)) ?_ rfl rfl rfl))))))) (by decide));refine m_ (Pe (m_ (N_ (M_ rfl (O9 (Pa (v:=aH N) ?_ rfl rfl rfl))))));refine m_ (M_ rfl (O8 (Px (kC N (by lia) t) ?_ rfl rfl rfl rfl)));refine m_ (M_ rfl (m_ (M_ rfl (m_ (M_ rfl (O8 (Px e ?_ rfl rfl rfl rfl)))))));refine O9 (Pa (v:=.lst (List.map msD ws)) (Pc ?_ (by trivial)) rfl rfl rfl);refine O_ (Pd (N_ (Pe (m_ (N_ (M_ rfl (O9 (Pa (v:=.int (n:Nat)) ?_ rfl rfl rfl))))))) (by decide));refine m_ (Pe (m_ (N_ (M_ rfl (O9 (Pa (v:=aH N) ?_ rfl rfl rfl))))));refine m_ (N_ (M_ rfl (O9 (Pp (O8 (Px (kC N (by lia) (t+1)) ?_ rfl rfl rfl rfl)) rfl rfl))));refine m_ (M_ rfl (m_ (M_ rfl (m_ (M_ rfl (O8 (Px e' ?_ rfl rfl rfl rfl)))))));refine O9 (Pa (v:=c_ o') (Pc ?_ (by trivial)) rfl rfl rfl);refine Pj (PR (m_ (O9 (m_ (M_ rfl (m_ (M_ rfl (m_ (M_ rfl (O8 (Pn ?_ rfl rfl (Ml rfl))))))))))));exact⟨_,_,rfl⟩
theorem filter_lt{α:Type}(p q:α->Bool):∀(l:List α),(∀x∈l,q x=true->p x=true)->(∃x∈l,p x=true/\q x=false)->(l.filter q).length+1<=(l.filter p).length
 |[],_,⟨x,h,_⟩=>by cases h
 |y::l,h,⟨x,hx,hp,hq⟩=>by
  have le:∀l:List α,(∀x∈l,q x=true->p x=true)->(l.filter q).length<=(l.filter p).length:=by
   intro l
   induction l with
   |nil=>intro _;simp
   |cons z l ih=>
    intro hh;have i2:=ih fun u hu=>hh u (Mh _ hu);have hz:=hh z Mg;rw[MO,MO];cases hqz:q z with
    |false=>cases p z<;>simp<;>lia
    |true=>rw[hz hqz];simp;lia
  have tl:∀u∈l,q u=true->p u=true:=fun u hu=>h u (Mh _ hu);rw[MO,MO];rcases Mj.mp hx with rfl | hx
  ·rw[hp,hq];have:=le l tl;simp;lia
  ·have ih:=filter_lt p q l tl ⟨x,hx,hp,hq⟩;cases hqy:q y with
   |false=>cases p y<;>simp<;>lia
   |true=>rw[h y Mg hqy];simp;lia
theorem wJ{ts:List Tie}{a b:Int}(S:Int->Int)(c:Con ts a b)(h:S a≠S b):∃t∈ts,S t.a≠S t.b:=by
 apply N1;intro hc;have all:∀t∈ts,S t.a=S t.b:=fun t ht=>N1 fun z=>hc ⟨t,ht,z⟩;have key:∀{x y:Int},Con ts x y->S x=S y:=fun c=>by
  induction c with
  |refl x=>rfl
  |tie t m=>exact all t m
  |symm _ ih=>exact ih.symm
  |trans _ _ i1 i2=>exact i1.trans i2
 exact h (key c)
theorem ql:∀(k:Nat) (l:List (Tie×Int)),(∀j:Int,1<=j->j<=k->∃p∈l,p.2=j)->k<=l.length
 |0,l,_=>MR _
 |k+1,l,h=>by
  obtain⟨p,hp,ep⟩:=h ((k+1:Nat):Int) (by lia) (by lia);have ih:=ql k (l.filter fun p=>decide (p.2≠((k+1:Nat):Int))) fun j j1 j2=>by obtain⟨q,hq,eq⟩:=h j j1 (by lia);exact⟨q,M7.mpr ⟨hq,decide_eq_true (by lia)⟩,eq⟩
  have:=filter_lt (fun _=>true) (fun p:Tie×Int=>decide (p.2≠((k+1:Nat):Int))) l (fun _ _ _=>rfl) ⟨p,hp,rfl,by simp[ep]⟩;have:=NQ (fun _:Tie×Int=>true) l
  lia
noncomputable def fJ(S:Int->Int)(t:Int)(r:List Tie):List Tie:=r.filter fun x=>decide (t<=x.m)&&decide (S x.a≠S x.b)
theorem nh(k:Nat)(n:Int)(S:Int->Int)(t0:Int):∀(r:List Tie) (ms:List Int) (lo:Int),Good n lo r->bg k r ms->fJ S t0 (keep r ms)=fJ S t0 r\/k<=(fJ S t0 (keep r ms)).length
 |[],[],_,_,_=>.inl rfl
 |t::r,m::ms,lo,hg,ha=>by
  obtain⟨g1,g2,g3,g4,g5⟩:=hg;rcases nh k n S t0 r ms (t.m+1) g5 ha.1 with ih | ih
  ·rw[dg];by_cases h0:0<m
   ·rw[if_pos h0];left;unfold fJ at ih ⊢;rw[MO,MO,ih]
   ·rw[if_neg h0];by_cases hc:(decide (t0<=t.m)&&decide (S t.a≠S t.b))=true
    ·right;rw[ME,decide_eq_true_eq,decide_eq_true_eq]at hc;have hm:∀j:Int,1<=j->j<=k->Con (lay r ms j) t.a t.b:=by
      rcases ha.2 with⟨_,h⟩ | ⟨h1,_⟩
      ·exact h
      ·lia
     have e:fJ S t0 (keep r ms)=((r.zip ms).filter fun p=>decide (0<p.2)&&(decide (t0<=p.1.m)&&decide (S p.1.a≠S p.1.b))).map (·.1):=by
      unfold fJ keep;rw[List.filter_map,OB]
      congr 2
      funext p
      simp[Bool.and_comm]
     rw[e,Dp];refine ql k _ fun j j1 j2=>?_;obtain⟨u,hu,hs⟩:=wJ S (hm j j1 j2) hc.2;have hz:=CC hu;have hur:u∈r:=(Og hz).1;have:=Good.lo g5 u hur;refine⟨(u,j),M7.mpr ⟨hz,?_⟩,rfl⟩;simp only[ME,decide_eq_true_eq];exact⟨by lia,by lia,hs⟩
    ·left;have hf:(decide (t0<=t.m)&&decide (S t.a≠S t.b))=false:=by cases hq:(decide (t0<=t.m)&&decide (S t.a≠S t.b)) with | false=>rfl | true=>exact absurd hq hc
     unfold fJ at ih ⊢;rw[MO,hf,ih];simp
  ·right;rw[dg];by_cases h0:0<m
   ·rw[if_pos h0];unfold fJ at ih ⊢;rw[MO];split
    ·rw[MU];lia
    ·exact ih
   ·rw[if_neg h0];exact ih
 |[],_::_,_,_,h=>h.elim
 |_::_,[],_,_,h=>h.elim
theorem CI(r:List Tie)(hl:r.length<=1000)(S:List Int):uN [aH r,tupI S]=some (.new (.lst ((fB r S).map Dat.int))):=by
 apply Pu;unfold uN
 (refine Dm.Ph ?_ rfl rfl;and_intros)
 refine Pj ?_;refine QW bM r (ovr S) (·.m) Dat.int (d:=aH r) ?_ rfl rfl rfl (by decide) (by unfold SZ;lia) (fun u _=>?_) fun u _ _=>?_
 ·rfl
 ·refine Pg (N_ (N_ (N_ (M_ rfl (O9 (Pa (v:=.int u.a) ?_ rfl rfl rfl))))));refine M_ rfl (Ql (xs:=S) ?_ rfl rfl);refine N_ (N_ (M_ rfl (O9 (Pa (v:=.int u.b) ?_ rfl rfl rfl))));refine M_ rfl (Ql (xs:=S) ?_ rfl rfl);exact Qu (Pb ⟨rfl,rfl⟩) rfl rfl
 ·exact N_ (M_ rfl (O9 (Pa (v:=.int u.m) (Po ⟨rfl,rfl⟩) rfl rfl rfl)))
theorem wK(r:List Tie)(hl:r.length<=1000)(t:Int):p8 [aH r,.int t]=some (.new (aH (bV r t))):=by
 have:p8=kj:=by unfold p8 kj;rfl
 rw[this];exact kC r hl t
noncomputable def bL:Nat->List (List Int)
 |0=>[[]]
 |p+1=>bL p++(bL p).map fun S=>S++[((p+1:Nat):Int)]
theorem iW:∀p,(bL p).length=2 ^ p
 |0=>rfl
 |p+1=>by rw[bL,Mr,Dp,iW p,Nat.pow_succ];lia
theorem kD:∀(p:Nat) (S:List Int),S∈bL p->(∀x∈S,1<=x/\x<=p)/\S.length<=p
 |0,S,h=>by rw[bL]at h;have:=Mu.mp h;subst this;refine⟨fun x hx=>?_,Ds _⟩;cases hx
 |p+1,S,h=>by
  rw[bL]at h;rcases Mv.mp h with h | h
  ·obtain⟨a,b⟩:=kD p S h;exact⟨fun x hx=>⟨(a x hx).1,by have:=(a x hx).2;lia⟩,by lia⟩
  ·obtain⟨T,hT,rfl⟩:=MD.mp h;obtain⟨a,b⟩:=kD p T hT;refine⟨fun x hx=>?_,by rw[Mr];simp;lia⟩;rcases Mv.mp hx with hx | hx
   ·exact⟨(a x hx).1,by have:=(a x hx).2;lia⟩
   ·rw[Mu.mp hx];lia
theorem fW:∀p,∃r,bL p=[]::r/\∀S∈r,S≠[]
 |0=>⟨[],rfl,fun S h=>by cases h⟩
 |p+1=>by
  obtain⟨r,e,h⟩:=fW p;refine⟨r++(bL p).map fun S=>S++[((p+1:Nat):Int)],by rw[bL,e];rfl,fun S hS=>?_⟩;rcases Mv.mp hS with hS | hS
  ·exact h S hS
  ·obtain⟨T,_,rfl⟩:=MD.mp hS;simp
theorem J0{p:Nat}(h:p<=9):2 ^ p<=512:=Nat.pow_le_pow_right (by decide) h
theorem wL(S:List Int)(x:Int){ρ:Env}{a b:FE}{Q:Val->Env->Prop}(ha:a ρ=some (.val (tupI S),ρ))(hb:b ρ=some (.val (.int x),ρ))(hl:S.length<=20)(q:Q (.val (tupI (S++[x]))) ρ):We (e2 mT a (cA [b])) ρ Q:=by refine N_ ⟨_,_,ha,PR (m_ ⟨_,_,hb,O8 (Pn ?_ rfl rfl (by show 1<=SZ;unfold SZ;lia))⟩)⟩;refine⟨_,_,_,rfl,rfl,(show mT (tupI S) (.tup [.int x])=some (.val (tupI (S++[x]))) from ?_),q⟩;show (if (S.map Dat.int).length+1<=SZ then some (RV.val (.tup (S.map Dat.int++[.int x]))) else none)=_;rw[if_pos (by rw[Dp];unfold SZ;lia)];show _=some (RV.val (.tup ((S++[x]).map Dat.int)));rw[Mt];rfl
theorem wM(n:Nat)(n1:1<=n)(n10:n<=10):uO [.int (n:Nat)]=some (.new (.lst ((bL (n-1)).tail.map tupI))):=by
 apply Pu;unfold uO
 (refine Dm.Ph ?_ rfl rfl;and_intros)
 refine O_ (Pd (PZ (m_ (PR (O8 (Pn (O8 (Pn (Py ?_ (by trivial)) rfl rfl (by decide))) rfl rfl (by decide)))))) (by decide));refine O_ (Pz (QN (O9 (bS.mk (M_ rfl (bS.mk ⟨?_,by unfold BIG;lia⟩))))));rw[show ((n:Int)-1).toNat=n-1 by lia,uX];refine PD (fun i:Nat=>Dat.int (1+(i:Int))) _ _ (Mm (n-1)) _ _ _ _ _ (fun p q ρ=>∃c2:Cell,ρ=[.sh (.int (n:Nat)),.ow (.lst ((bL p.length).map tupI)),c2]) ⟨_,rfl⟩ ?_ ?_
 ·rintro p i q ρ e ⟨c2,rfl⟩;obtain⟨hi,hin⟩:=dc e;have hb:=J0 (p:=p.length) (by lia);refine Dm.aX rfl (by trivial) ?_;unfold zy;refine Pd (N_ (Pw rfl ?_)) (by decide);refine Rp tupI (bL p.length) (fun S=>S++[((p.length+1:Nat):Int)]) tupI ?_ rfl (by trivial) rfl (by decide) (by rw[iW];unfold SZ;lia) fun S hS=>?_
  ·refine QC (Py ⟨.sh (.int (1+(i:Int))),?_⟩ (by trivial)) rfl rfl (by rw[Dp,Dp,Dp,iW];unfold SZ;lia);rw[Mr,<- Mt];rfl
  ·refine wL S _ rfl rfl (by have:=(kD _ S hS).2;lia) (Po ⟨?_,rfl⟩);rw[hi,show (1+(p.length:Int))=((p.length+1:Nat):Int) by lia]
 ·rintro ρ ⟨c2,rfl⟩;rw[Mw];refine Pj (QV (Pw rfl (Wp.some (O9 (bS.mk (Wp.none (Wsl.A (zf:=tupI) (xs:=bL (n-1)) (QE ?_) rfl)))))));obtain⟨r,er,_⟩:=fW (n-1);rw[er];show _=_
  congr 2
  unfold v8;have e1:(min (1:Int) ((r.length:Int)+1)).toNat=1:=by lia
  simp[sIx,e1]
theorem Lat.uniq{N:List Tie}{j:Nat}{a b:Int}{w w':Option Int}(e:∀t:Int,(∃v,w=some v/\t<=v)↔∃v,w'=some v/\t<=v):w=w':=by
 cases w with
 |none=>
  cases w' with
  |none=>rfl
  |some v=>exact absurd ((e v).mpr ⟨v,rfl,Nj _⟩) (fun⟨_,h,_⟩=>by cases h)
 |some u=>obtain⟨v,hv,h1⟩:=(e u).mp ⟨u,rfl,Nj _⟩;subst hv;obtain⟨u',hu,h2⟩:=(e v).mpr ⟨v,rfl,Nj _⟩;cases hu;rw[Int.le_antisymm h1 h2]
noncomputable def fX:Option Int->Int
 |none=>-1
 |some t=>t
theorem GK{n:Int}{k j:Nat}(jk:j<=k){r:List Tie}{ms:List Int}(g:Good n 0 r)(al:bg k r ms)(a b t:Int):Hg (bV (keep r ms) t) j a b↔Hg (bV r t) j a b:=by
 refine⟨fun h=>h.up ((iy r ms).filter _),fun h S hs=>?_⟩;have key:=nh k n (fun x=>if S x then 1 else 0) t r ms 0 g al;have ec:∀q:List Tie,(fJ (fun x=>if S x=true then (1:Int) else 0) t q).length=bK (bV q t) S:=fun q=>by
  unfold fJ bK bV;rw[OB]
  congr 1
  refine NO fun x _=>?_;rw[Bool.and_comm]
  congr 1
  unfold over;rw[Oj,decide_eq_true_iff];by_cases h1:S x.a=true<;>by_cases h2:S x.b=true<;>simp[h1,h2]
 have h1:=h S hs;rcases key with e | e
 ·have:=congrArg List.length e;rw[ec,ec]at this
  lia
 ·rw[ec]at e
  lia
noncomputable def ofS(S:Int->Bool):Nat->List Int
 |0=>[]
 |p+1=>ofS S p++if S ((p+1:Nat):Int)=true then [((p+1:Nat):Int)] else []
theorem oB(S:Int->Bool):∀p,ofS S p∈bL p
 |0=>by simp[ofS,bL]
 |p+1=>by
  rw[ofS,bL];cases S ((p+1:Nat):Int) with
  |true=>exact Mx _ (MD.mpr ⟨_,oB S p,rfl⟩)
  |false=>exact MF _ (by simpa using oB S p)
theorem zW(S:Int->Bool)(x:Int):∀p:Nat,x∈ofS S p↔1<=x/\x<=p/\S x=true
 |0=>by simp[ofS];lia
 |p+1=>by
  rw[ofS,Mv,zW S x p];cases h:S ((p+1:Nat):Int) with
  |true=>
   rw[if_pos rfl,Mu];constructor
   ·rintro(⟨h1,h2,h3⟩ | rfl)
    ·exact⟨h1,by lia,h3⟩
    ·exact⟨by lia,Nj _,h⟩
   ·rintro⟨h1,h2,h3⟩;by_cases e:x=((p+1:Nat):Int)
    ·exact .inr e
    ·exact .inl ⟨h1,by lia,h3⟩
  |false=>
   rw[if_neg Mz];constructor
   ·rintro(⟨h1,h2,h3⟩ | h1)
    ·exact⟨h1,by lia,h3⟩
    ·cases h1
   ·rintro⟨h1,h2,h3⟩;refine .inl ⟨h1,?_,h3⟩;by_cases e:x=((p+1:Nat):Int)
    ·subst e;rw[h]at h3;cases h3
    ·lia
theorem ni(r:List Tie)(L:List Int):(fB r L).length=bK r fun q=>decide (q∈L):=by unfold fB bK;rw[Dp];rfl
theorem qo{r:List Tie}{S T:Int->Bool}(h:∀t∈r,S t.a=T t.a/\S t.b=T t.b):bK r S=bK r T:=by
 unfold bK
 congr 1
 refine NO fun t ht=>?_;unfold over;rw[(h t ht).1,(h t ht).2]
theorem zX{n:Nat}{r:List Tie}(hr:Ends n r){a b:Int}(a0:0<=a)(a1:a<n)(b0:0<=b)(b1:b<n)(LL:a≠b)(j:Nat) :
  (j<=r.length/\∀L∈(bL (n-1)).tail,decide (a∈L)≠decide (b∈L)->j<=(fB r L).length)↔Hg r j a b:=by
 obtain⟨q,eq,neq⟩:=fW (n-1);have side:∀S:Int->Bool,S 0=false->S a≠S b->∃L∈(bL (n-1)).tail,decide (a∈L)≠decide (b∈L)/\(fB r L).length=bK r S:=fun S s0 hs=>by
  have mem:∀x:Int,0<=x->x<n->decide (x∈ofS S (n-1))=S x:=fun x x0 x1=>by
   rw[Oj,decide_eq_true_iff,zW];constructor
   ·exact fun h=>h.2.2
   ·intro h;refine⟨?_,by lia,h⟩;by_cases e:x=0
    ·subst e;rw[s0]at h;cases h
    ·lia
  refine⟨ofS S (n-1),?_,?_,?_⟩
  ·have:=oB S (n-1);rw[eq]at this ⊢;rcases Mj.mp this with h | h
   ·exfalso;have ha:=mem a a0 a1;have hb:=mem b b0 b1;rw[h]at ha hb;simp at ha hb;rw[ha,hb]at hs;exact hs rfl
   ·exact h
  ·rw[mem a a0 a1,mem b b0 b1];exact hs
  ·rw[ni];exact qo fun t ht=>by obtain⟨h1,h2,h3,h4⟩:=hr t ht;exact⟨mem _ h1 h2,mem _ h3 h4⟩
 constructor
 ·rintro⟨_,h⟩ S hs;cases s0:S 0 with
  |false=>obtain⟨L,h1,h2,h3⟩:=side S s0 hs;rw[<- h3];exact h L h1 h2
  |true=>obtain⟨L,h1,h2,h3⟩:=side (fun x=>!S x) (by rw[s0];rfl) (fun e=>hs (by simpa using e));rw[<- ng r S,<- h3];exact h L h1 h2
 ·intro h;refine⟨?_,fun L _ hL=>?_⟩
  ·have:=h (fun x=>decide (x=a)) (by
    rw[decide_eq_true (rfl:a=a),decide_eq_false (fun e:b=a=>LL e.symm)];decide)
   exact ML this (NQ _ _)
  ·rw[ni];exact h _ hL
theorem CJ{n:Nat}(n1:1<=n)(n10:n<=10){r:List Tie}(hr:Ends n r)(hl:r.length<=60){a b:Int}(a0:0<=a)(a1:a<n)(b0:0<=b)(b1:b<n)(LL:a≠b) :
  ∃m:Nat,p9 [.int (n:Nat),aH r,.int a,.int b]=some (.val (.int (m:Nat)))/\∀j:Nat,j<=m↔Hg r j a b:=by
 suffices hh:Wr (p9 [.int (n:Nat),aH r,.int a,.int b]) fun v=>∃m:Nat,v=.val (.int (m:Nat))/\∀j:Nat,j<=m↔Hg r j a b by obtain⟨v,h1,m,rfl,h2⟩:=hh;exact⟨m,h1,h2⟩
 unfold p9
 (refine Dm.Ph ?_ rfl rfl;and_intros)
 refine O_ (Pd (PB (m_ (M_ rfl (O8 (Qg (zf:=bM) (xs:=r) (Pc ?_ (by trivial)) rfl))))) (by decide));refine O_ (Pz ?_);refine Qj (Pe (m_ (M_ rfl (O8 (Px (wM n n1 n10) (P4 (cP ?_)) rfl rfl rfl rfl)))));refine PD tupI _ _ (bL (n-1)).tail _ _ _ _ _ (fun p q ρ=>∃(m:Nat) (c5:Cell),ρ=[.sh (.int (n:Nat)),.sh (aH r),.sh (.int a),.sh (.int b),.sh (.int (m:Nat)),c5]/\∀j:Nat,j<=m↔(j<=r.length/\∀L∈p,decide (a∈L)≠decide (b∈L)->j<=(fB r L).length)) ⟨r.length,_,rfl,fun j=>by simp⟩ ?_ ?_
 ·rintro p L q ρ e ⟨m,c5,rfl,hm⟩;refine Dm.aX rfl (by trivial) ?_;unfold zz;refine Pk (Pg (N_ (N_ (M_ rfl (M_ rfl (Ql (xs:=L) ?_ rfl rfl))))));refine N_ (M_ rfl (M_ rfl (Ql (xs:=L) ?_ rfl rfl)));refine Qu (Pb ?_) rfl rfl;refine⟨fun c=>?_,fun c=>?_⟩
  ·have hs:decide (a∈L)≠decide (b∈L):=by simpa using c
   refine Pd ?_ (by decide);refine PB (m_ (M_ rfl (m_ (PB (m_ (Pe (m_ (M_ rfl (m_ (M_ rfl (O8 (Px (CI r (by lia) L) ?_ rfl rfl rfl rfl))))))))))));refine O8 (Qg (zf:=Dat.int) (xs:=fB r L) (O8 (P6 (Pc ?_ (by trivial)) rfl)) rfl);refine⟨min m (fB r L).length,.sh (tupI L),?_,fun j=>?_⟩
   ·have:(if ((fB r L).length:Int)<(m:Nat) then ((fB r L).length:Int) else (m:Nat))=((min m (fB r L).length:Nat):Int):=by split<;>lia
    rw[this]
   ·rw[Nat.le_min,hm j];constructor
    ·rintro⟨⟨h1,h2⟩,h3⟩;refine⟨h1,fun M hM hd=>?_⟩;rcases Mv.mp hM with z | z
     ·exact h2 M z hd
     ·rw[Mu.mp z];exact h3
    ·rintro⟨h1,h2⟩;exact⟨⟨h1,fun M hM hd=>h2 M (MF _ hM) hd⟩,h2 L (by simp) hs⟩
  ·have hs:decide (a∈L)=decide (b∈L):=by simpa using c
   refine Pq ⟨m,_,rfl,fun j=>?_⟩;rw[hm j];refine and_congr Iff.rfl ⟨fun h M hM hd=>?_,fun h M hM hd=>h M (MF _ hM) hd⟩;rcases Mv.mp hM with z | z
   ·exact h M z hd
   ·rw[Mu.mp z]at hd;exact absurd hs hd
 ·rintro ρ ⟨m,c5,rfl,hm⟩;refine Pj (M_ rfl (PN ⟨m,rfl,fun j=>?_⟩));rw[hm j];exact zX hr a0 a1 b0 b1 LL j
theorem GL{n:Nat}(n1:1<=n)(n10:n<=10){r:List Tie}(hr:Rcd n r){a b:Int}(a0:0<=a)(a1:a<n)(b0:0<=b)(b1:b<n)(LL:a≠b){j:Nat}{w:Option Int}(hw:∀t:Int,Hg (bV r t) j a b↔∃v,w=some v/\t<=v) :
  uP [.int (n:Nat),aH r,.int a,.int b,.int (j:Nat)]=some (.val (.int (fX w))):=by
 have lr:=hr.len;have there:∀v,w=some v->∃x∈r,x.m=v:=fun v e=>by
  have h1:=(hw v).mpr ⟨v,e,Nj _⟩;have h2:¬Hg (bV r (v+1)) j a b:=fun h=>by
   obtain⟨u,e',h'⟩:=(hw (v+1)).mp h;rw[e]at e';cases e'
   lia
  refine N1 fun z=>h2 ?_;have:bV r (v+1)=bV r v:=by unfold bV;refine NO fun x hx=>?_;have hx:x.m≠v:=fun e=>z ⟨x,hx,e⟩;exact decide_eq_decide.mpr (by lia)
  rw[this];exact h1
 have desc:r.reverse.Pairwise fun t u=>u.m<t.m:=List.pairwise_reverse.mpr hr.up;apply Pu;unfold uP
 (refine Dm.Ph ?_ rfl rfl;and_intros)
 refine O_ (Pz (Qj (P1 (M_ rfl (QX (zf:=bM) (xs:=r) ?_ rfl)))));refine P4 (cP ?_);refine PD bM _ _ r.reverse _ _ _ _ _ (fun p q ρ=>∃c5:Cell,ρ=[.sh (.int (n:Nat)),.sh (aH r),.sh (.int a),.sh (.int b),.sh (.int (j:Nat)),c5]/\∀u∈p,∀v,w=some v->¬u.m<=v) ⟨_,rfl,fun u hu=>by cases hu⟩ ?_ ?_
 ·rintro p u q ρ e ⟨c5,rfl,hp⟩;have hu:u∈r:=Oc.mp (by rw[e];simp);obtain⟨m,em,hm⟩:=CJ n1 n10 (r:=bV r u.m) (hr.sub Nt).ends (by have:=CG r u.m;lia) a0 a1 b0 b1 LL;refine Dm.aX rfl (by trivial) ?_;unfold zA;refine Pk (Pg (N_ (Pe (m_ (M_ rfl (m_ (Pe (m_ (M_ rfl (m_ (N_ (M_ rfl (O9 (Pa (v:=.int u.m) ?_ rfl rfl rfl))))))))))))));refine O8 (Px (wK r (by lia) u.m) ?_ rfl rfl rfl rfl);refine m_ (M_ rfl (m_ (M_ rfl (O8 (Pf em ?_ rfl rfl)))));refine M_ rfl (Qp (Pb ?_) rfl rfl);refine⟨fun c=>?_,fun c=>?_⟩
  ·have c:=of_decide_eq_true c;have hg:=(hm j).mp (by lia);obtain⟨v,e7,hv⟩:=(hw u.m).mp hg;obtain⟨x,hx,ex⟩:=there v e7;have:u.m=v:=by
    have hx':x∈r.reverse:=Oc.mpr hx;rw[e]at hx' desc;rcases Mv.mp hx' with z | z
    ·exact absurd (Int.le_of_eq ex) (hp x z v e7)
    ·rcases Mj.mp z with z | z
     ·rw[<- z];exact ex
     ·have:=(MZ.mp (List.pairwise_append.mp desc).2.1).1 x z
      lia
   refine Pj (N_ (M_ rfl (O9 (Pa (v:=.int u.m) ?_ rfl rfl rfl))));refine PN ?_;rw[e7,this];rfl
  ·have c:=of_decide_eq_false c;refine Pq ⟨_,rfl,fun x hx v e7=>?_⟩;rcases Mv.mp hx with z | z
   ·exact hp x z v e7
   ·rw[Mu.mp z];intro hle;have:=(hm j).mpr ((hw u.m).mpr ⟨v,e7,hle⟩)
    lia
 ·rintro ρ ⟨c5,rfl,hp⟩;refine Pj (N_ (O9 (O9 (PX (PN ?_) rfl rfl))));cases w with
  |none=>rfl
  |some v=>obtain⟨x,hx,ex⟩:=there v rfl;exact absurd (Int.le_of_eq ex) (hp x (Oc.mpr hx) v rfl)
theorem CK{n k j:Nat}{N:List Tie}{a b:Int}{w:Option Int}{d1 d2:Dat}(e:m6 [eZ n k N,.int a,.int b,.int (j:Nat)]=some (.val (zV d1 d2 w))):m9 [eZ n k N,.int a,.int b,.int (j:Nat)]=some (.val (.int (fX w))):=by
 apply Pu;unfold m9
 (refine Dm.Ph ?_ rfl rfl;and_intros)
 cases w with
 |none=>refine O_ (Pd (Pe (m_ (M_ rfl (m_ (M_ rfl (m_ (M_ rfl (m_ (M_ rfl (O8 (Px e (Pc ?_ (by trivial)) rfl rfl rfl rfl))))))))))) (by decide));refine O_ (Pk (Qd (PK (Pg (P1 (M_ rfl ⟨_,_,rfl,rfl,Pb (PV ?_)⟩))))));refine Pg (N_ (N_ (M_ rfl (O9 (Pa (v:=.str [110,101,118,101,114]) ?_ rfl rfl rfl)))));refine O9 ⟨_,_,_,rfl,rfl,rfl,Pb (PY ?_)⟩;exact Pj (N_ (O9 (O9 (PX (PN rfl) rfl rfl))))
 |some t=>refine O_ (Pd (Pe (m_ (M_ rfl (m_ (M_ rfl (m_ (M_ rfl (m_ (M_ rfl (O8 (Px e (Pc ?_ (by trivial)) rfl rfl rfl rfl))))))))))) (by decide));refine O_ (Pk (Qd (PK (Pg (P1 (M_ rfl ⟨_,_,rfl,rfl,Pb (PV ?_)⟩))))));refine Pg (N_ (N_ (M_ rfl (O9 (Pa (v:=.str [115,105,110,99,101]) ?_ rfl rfl rfl)))));refine O9 ⟨_,_,_,rfl,rfl,rfl,Pb (PV (Pq ?_))⟩;exact Pj (N_ (M_ rfl (O9 (Pa (v:=.int t) (PN rfl) rfl rfl rfl))))
open Classical in
noncomputable def Wo(N:List Tie)(j:Nat)(a b:Int):Option Int:=if h:∃w:Option Int,∀t:Int,Hg (bV N t) j a b↔∃v,w=some v/\t<=v then Classical.choose h else none
theorem J1{N:List Tie}{j:Nat}{a b:Int}{w:Option Int}(h:∀t:Int,Hg (bV N t) j a b↔∃v,w=some v/\t<=v):Wo N j a b=w:=by
 have e:∃w:Option Int,∀t:Int,Hg (bV N t) j a b↔∃v,w=some v/\t<=v:=⟨w,h⟩
 unfold Wo;rw[dif_pos e];exact Lat.uniq (N:=N) (j:=j) (a:=a) (b:=b) fun t=>(Classical.choose_spec e t).symm.trans (h t)
structure Sg(n k j:Nat)(N:List Tie):Prop where
 n1:1<=n
 n10:n<=10
 k1:1<=k
 k6:k<=6
 j1:1<=j
 jk:j<=k
 net:Net n k N
structure Pr(n:Nat)(p:Int×Int):Prop where
 a0:0<=p.1
 a1:p.1<n
 b0:0<=p.2
 b1:p.2<n
 ne:p.1≠p.2
theorem fY{n k j:Nat}{N:List Tie}(s:Sg n k j N){p:Int×Int}(h:Pr n p) :
  m9 [eZ n k N,.int p.1,.int p.2,.int (j:Nat)]=some (.val (.int (fX (Wo N j p.1 p.2))))/\(∀t:Int,Hg (bV N t) j p.1 p.2↔∃v,Wo N j p.1 p.2=some v/\t<=v)/\-1<=fX (Wo N j p.1 p.2):=by
 have k6:=s.k6;have jk:=s.jk;obtain⟨w,e,la,mem⟩:=wI s.n10 s.net.rc h.a0 h.a1 h.b0 h.b1 h.ne s.j1 (by lia);have hw:Wo N j p.1 p.2=w:=J1 fun t=>la.iff t;obtain⟨d1,d2,ew⟩:=CH s.n1 s.n10 s.k1 s.k6 s.j1 s.jk s.net h.a0 h.a1 h.b0 h.b1 h.ne e;rw[hw];refine⟨CK ew,fun t=>la.iff t,?_⟩;cases w with
 |none=>exact Nj _
 |some v=>
  obtain⟨u,hu,eu⟩:=mem v rfl;have:=(s.net.rc.ok u hu).1;show -1<=v
  lia
theorem CL{n k j:Nat}{N:List Tie}(s:Sg n k j N)(hj:j<k){p:Int×Int}(h:Pr n p):fX (Wo N (j+1) p.1 p.2)<=fX (Wo N j p.1 p.2):=by
 have s':Sg n k (j+1) N:=⟨s.n1,s.n10,s.k1,s.k6,by lia,hj,s.net⟩
 obtain⟨_,i1,l1⟩:=fY s h;obtain⟨_,i2,_⟩:=fY s' h;cases e2:Wo N (j+1) p.1 p.2 with
 |none=>exact l1
 |some v=>obtain⟨u,e1,hu⟩:=(i1 v).mp (((i2 v).mpr ⟨v,e2,Nj _⟩).less (by lia));rw[e1];exact hu
theorem zY{n k j:Nat}{N:List Tie}(s:Sg n k j N){a b c:Int}(h:Pr n (a,b))(h1:Pr n (a,c))(h2:Pr n (c,b)):min (fX (Wo N j a c)) (fX (Wo N j c b))<=fX (Wo N j a b):=by
 obtain⟨_,i,l⟩:=fY s h;obtain⟨_,i1,_⟩:=fY s h1;obtain⟨_,i2,_⟩:=fY s h2;dsimp only at i l i1 i2;cases e1:Wo N j a c with
 |none=>exact O0 (Int.min_le_left _ _) l
 |some u=>
  cases e2:Wo N j c b with
  |none=>exact O0 (Int.min_le_right _ _) l
  |some v=>have m1:min u v<=u:=Int.min_le_left _ _;have m2:min u v<=v:=Int.min_le_right _ _;obtain⟨x,ex,hx⟩:=(i (min u v)).mp (((i1 _).mpr ⟨u,e1,m1⟩).trans ((i2 _).mpr ⟨v,e2,m2⟩));rw[ex];exact hx
noncomputable def gD(N:List Tie)(j:Nat)(p:Int×Int):Dat:=.int (fX (Wo N j p.1 p.2))
structure Dn(n:Nat)(P:List (Int×Int))(x y:Nat):Prop where
 mem:∀p,p∈P↔Pr n p/\(p.1<x\/(p.1=x/\p.2<y))
 len:P.length<=10*x+y
theorem Dn.start(n:Nat):Dn n [] 0 0:=⟨fun p=>⟨fun h=>absurd h (by simp),fun h=>by have:=h.1.a0;have:=h.1.b0;lia⟩,Ds _⟩
theorem Dn.row{n:Nat}{P:List (Int×Int)}{x:Nat}(n10:n<=10)(h:Dn n P x n):Dn n P (x+1) 0:=⟨fun p=>(h.mem p).trans (and_congr_right fun q=>by have:=q.b1;have:=q.b0;lia),by have:=h.len;lia⟩
theorem Dn.skip{n:Nat}{P:List (Int×Int)}{x:Nat}(h:Dn n P x x):Dn n P x (x+1):=⟨fun p=>(h.mem p).trans (and_congr_right fun q=>by have:=q.ne;lia),by have:=h.len;lia⟩
theorem Dn.new{n:Nat}{P:List (Int×Int)}{x y:Nat}(h:Dn n P x y):(((x:Nat):Int),((y:Nat):Int))∉P:=fun z=>by
 have:=((h.mem _).mp z).2;dsimp only at this
 lia
theorem Dn.put{n:Nat}{P:List (Int×Int)}{x y:Nat}(h:Dn n P x y)(q:Pr n (((x:Nat):Int),((y:Nat):Int))):Dn n (P++[(((x:Nat):Int),((y:Nat):Int))]) x (y+1):=by
 refine⟨fun p=>?_,by rw[Mr];have:=h.len;simp;lia⟩;rw[Mv,h.mem p,Mu];constructor
 ·rintro(⟨h1,h2⟩ | rfl)
  ·exact⟨h1,by lia⟩
  ·exact⟨q,.inr ⟨rfl,by dsimp only;lia⟩⟩
 ·rintro⟨h1,h2⟩;by_cases e:p.1=x/\p.2=y
  ·exact .inr (Prod.ext e.1 e.2)
  ·exact .inl ⟨h1,by lia⟩
noncomputable def kE(K:List Tie)(j:Nat)(P:List (Int×Int)):Dat:=.dcp P (P.map (gD K j))
theorem zZ{n k j:Nat}{r:List Tie}{ms:List Int}(s:Sg n k j (keep r ms))(hr:Rcd n r)(g:Good n 0 r)(al:bg k r ms)(D:Dat)(c1 c2 c11 c12:Cell){P:List (Int×Int)}{x y:Nat}(hx:x<n)(hy:y<n)(hP:Dn n P x y){N:Env->Prop}{R:RV->Env->Prop}{B C:Env->Prop}
  (nx:∀P',Dn n P' x (y+1)->N [.sh D,c1,c2,.sh (.int (n:Nat)),.sh (.int (k:Nat)),.sh (.int (j:Nat)),.sh (aH r),.sh (eZ n k (keep r ms)),.ow (kE (keep r ms) j P'),.sh (.int (x:Nat)),.sh (.int (y:Nat)),c11,c12]) :
  Ws sF [.sh D,c1,c2,.sh (.int (n:Nat)),.sh (.int (k:Nat)),.sh (.int (j:Nat)),.sh (aH r),.sh (eZ n k (keep r ms)),.ow (kE (keep r ms) j P),.sh (.int (x:Nat)),.sh (.int (y:Nat)),c11,c12] N R B C:=by
 have n10:=s.n10;unfold sF;refine Pk (Pg (N_ (M_ rfl (M_ rfl (P8 (Pb ⟨fun hq=>?_,fun hq=>Pq (nx P ?_)⟩) rfl rfl)))))
 ·have hxy:=ndT hq;have pr:Pr n (((x:Nat):Int),((y:Nat):Int)):=⟨N4 x,Ol.mpr hx,N4 y,Ol.mpr hy,hxy⟩
  obtain⟨et,ei,el⟩:=fY s pr;have ed:=GL s.n1 s.n10 hr pr.a0 pr.a1 pr.b0 pr.b1 hxy (j:=j) (w:=Wo (keep r ms) j x y) fun t=>(GK s.jk g al _ _ t).symm.trans (ei t);have hp:=hP.put pr;have lp:=hP.len;have e8:Dat.dcp (cK P (((x:Nat):Int),((y:Nat):Int))) (dH P (P.map (gD (keep r ms) j)) (((x:Nat):Int),((y:Nat):Int)) (.int (fX (Wo (keep r ms) j x y))))=kE (keep r ms) j (P++[(((x:Nat):Int),((y:Nat):Int))]):=by rw[(pZ (vs:=[]) (d:=.non) hP.new).1,(pZ hP.new).2];unfold kE;rw[Mt];rfl
  have mp:(((x:Nat):Int),((y:Nat):Int))∈P++[(((x:Nat):Int),((y:Nat):Int))]:=by simp
  refine O_ (Rt (Pe (m_ (M_ rfl (m_ (M_ rfl (m_ (M_ rfl (m_ (M_ rfl (O8 (Pf et (Po ⟨⟨_,rfl⟩,?_⟩) rfl rfl))))))))))));refine PR (m_ (M_ rfl (m_ (M_ rfl (O8 (Pn ?_ rfl rfl (Ml rfl)))))));refine zl (ks:=P) (vs:=P.map (gD (keep r ms) j)) (d:=.int (fX (Wo (keep r ms) j x y))) (ρ4:=[.sh D,c1,c2,.sh (.int (n:Nat)),.sh (.int (k:Nat)),.sh (.int (j:Nat)),.sh (aH r),.sh (eZ n k (keep r ms)),.ow (kE (keep r ms) j (P++[(((x:Nat):Int),((y:Nat):Int))])),.sh (.int (x:Nat)),.sh (.int (y:Nat)),c11,c12]) ?_ rfl rfl (by rw[e8];rfl) (by unfold SZ;lia);refine O_ (Pk (Pg (N_ (N_ (Pw rfl (PR (m_ (M_ rfl (m_ (M_ rfl (O8 (Pn ?_ rfl rfl (Ml rfl)))))))))))));refine P0 (bI (gD (keep r ms) j) mp) ?_ rfl rfl;refine Pe (m_ (M_ rfl (m_ (M_ rfl (m_ (M_ rfl (m_ (M_ rfl (m_ (M_ rfl (O8 (Pf ed ?_ rfl rfl))))))))))));refine P8 (Pb ⟨fun c=>absurd rfl (ndT c),fun _=>Pq ?_⟩) rfl rfl;refine Pk (QH (Pg (N_ (M_ rfl (M_ rfl (P7 (Pb ⟨fun c=>?_,fun _=>PV (Pq (nx _ hp))⟩) rfl rfl))))));have hj:j<k:=Ol.mp (of_decide_eq_true c);have lm:=CL s hj pr;obtain⟨e2,_,_⟩:=fY (j:=j+1) ⟨s.n1,s.n10,s.k1,s.k6,by lia,hj,s.net⟩ pr;rw[show ((j+1:Nat):Int)=(j:Int)+1 by lia]at e2;refine Pg (N_ (Pe (m_ (M_ rfl (m_ (M_ rfl (m_ (M_ rfl (m_ (N_ (M_ rfl (O9 (Pp (O8 (Pf e2 ?_ rfl rfl)) rfl rfl)))))))))))));refine N_ (Pw rfl (PR (m_ (M_ rfl (m_ (M_ rfl (O8 (Pn ?_ rfl rfl (Ml rfl)))))))));refine P0 (bI (gD (keep r ms) j) mp) ?_ rfl rfl;refine P_ (Pb ⟨fun c=>?_,fun _=>Pq (nx _ hp)⟩) rfl rfl;have:=of_decide_eq_true c;exact absurd (Int.lt_of_lt_of_le this lm) (Int.lt_irrefl _)
 ·have:(x:Int)=y:=by simpa using hq
  have:x=y:=by lia
  subst this;exact hP.skip
theorem z0{n k j:Nat}{N:List Tie}(s:Sg n k j N)(D:Dat)(c1 c2 c6 c7 c12:Cell){P:List (Int×Int)}(hP:∀p,Pr n p->p∈P){a b:Int}(pr:Pr n (a,b)){x:Nat}(hx:x<n){M:Env->Prop}{R:RV->Env->Prop}{B C:Env->Prop}
  (nx:∀c12,M [.sh D,c1,c2,.sh (.int (n:Nat)),.sh (.int (k:Nat)),.sh (.int (j:Nat)),c6,c7,.ow (kE N j P),.sh (.int a),.sh (.int b),.sh (.int (x:Nat)),c12]) :
  Ws sG [.sh D,c1,c2,.sh (.int (n:Nat)),.sh (.int (k:Nat)),.sh (.int (j:Nat)),c6,c7,.ow (kE N j P),.sh (.int a),.sh (.int b),.sh (.int (x:Nat)),c12] M R B C:=by
 unfold sG;refine O_ (Pd (N_ (Pw rfl (PR (m_ (M_ rfl (m_ (M_ rfl (O8 (Pn ?_ rfl rfl (Ml rfl)))))))))) (by decide));refine P0 (bI (gD N j) (hP _ pr)) (Pc ?_ (by trivial)) rfl rfl;refine O_ (Pk (Pg (N_ (M_ rfl (PR (m_ (M_ rfl (m_ (M_ rfl (O8 (Pn ?_ rfl rfl (Ml rfl))))))))))));refine Q5 (Pb ⟨fun c=>?_,fun c=>Pq ?_⟩) rfl rfl
 ·have hc:¬((x:Int)=a\/(x:Int)=b):=by simpa using c
  have p1:Pr n (a,(x:Int)):=⟨pr.a0,pr.a1,N4 x,Ol.mpr hx,fun z=>hc (.inl z.symm)⟩
  have p2:Pr n ((x:Int),b):=⟨N4 x,Ol.mpr hx,pr.b0,pr.b1,fun z=>hc (.inr z)⟩
  have th:=zY s pr p1 p2;refine Pd (PB (m_ (N_ (Pw rfl (PR (m_ (M_ rfl (m_ (M_ rfl (O8 (Pn ?_ rfl rfl (Ml rfl)))))))))))) (by decide);refine P0 (bI (gD N j) (hP _ p1)) ?_ rfl rfl;refine m_ (N_ (Pw rfl (PR (m_ (M_ rfl (m_ (M_ rfl (O8 (Pn ?_ rfl rfl (Ml rfl))))))))));refine P0 (bI (gD N j) (hP _ p2)) ?_ rfl rfl;refine O8 (P6 (i:=fX (Wo N j a x)) (j:=fX (Wo N j x b)) (Pc ?_ (by trivial)) rfl);refine Pk (Pg (N_ (N_ (Pw rfl (PR (m_ (M_ rfl (m_ (M_ rfl (O8 (Pn ?_ rfl rfl (Ml rfl))))))))))));refine P0 (bI (gD N j) (hP _ pr)) ?_ rfl rfl;refine M_ rfl (P7 (Pb ⟨fun c=>?_,fun _=>Pq (nx _)⟩) rfl rfl);have:=of_decide_eq_true c;change fX (Wo N j a b)<_ at this;split at this<;>lia
 ·refine Pk (Pg (N_ (N_ (Pw rfl (PR (m_ (M_ rfl (m_ (M_ rfl (O8 (Pn ?_ rfl rfl (Ml rfl))))))))))));refine P0 (bI (gD N j) (hP _ pr)) ?_ rfl rfl;refine M_ rfl (P7 (Pb ⟨fun c=>?_,fun _=>Pq (nx _)⟩) rfl rfl);exact absurd (of_decide_eq_true c) (Int.lt_irrefl _)
theorem oE(n:Nat):ups 0 n=(Mm n).map fun i:Nat=>Dat.int ((i:Nat):Int):=by unfold ups;apply NW;intro i _;simp
theorem ix8(t:Int)(t0:0<=t)(t1:t<8):∃n:Nat,gIx (.lst [.int 2,.int 2,.int 3,.int 4,.int 5,.int 6,.int 4,.int 3]) (.int t)=some (.val (.int (n:Nat)))/\1<=n/\n<=10:=by
 have:t=0\/t=1\/t=2\/t=3\/t=4\/t=5\/t=6\/t=7:=by lia
 rcases this with rfl | rfl | rfl | rfl | rfl | rfl | rfl | rfl
 ·exact⟨2,rfl,by decide,by decide⟩
 ·exact⟨2,rfl,by decide,by decide⟩
 ·exact⟨3,rfl,by decide,by decide⟩
 ·exact⟨4,rfl,by decide,by decide⟩
 ·exact⟨5,rfl,by decide,by decide⟩
 ·exact⟨6,rfl,by decide,by decide⟩
 ·exact⟨4,rfl,by decide,by decide⟩
 ·exact⟨3,rfl,by decide,by decide⟩
theorem CM(S:List Int)(at_:Int)(h0:0<=at_)(h1:at_<900)(c2 c3 c4 c5 c6 c7 c8 c9 c10 c11 c12:Cell){N:Env->Prop}{R:RV->Env->Prop}{B C:Env->Prop}(nx:∀c1 c2 c3 c4 c5 c6 c7 c8 c9 c10 c11 c12,N [.sh (.lst (S.map Dat.int)),c1,c2,c3,c4,c5,c6,c7,c8,c9,c10,c11,c12]) :
  Ws sH [.sh (.lst (S.map Dat.int)),.sh (.int at_),c2,c3,c4,c5,c6,c7,c8,c9,c10,c11,c12] N R B C:=by
 obtain⟨x,ep⟩:=uU S at_ h0 (by lia);unfold sH;refine O_ (Pd (Pe ?_) (by decide));refine m_ (M_ rfl (m_ (M_ rfl (O8 (Px ep (Py ?_ (by trivial)) rfl rfl rfl (by trivial))))));refine PJ (fun ρ=>∃(n:Nat) (x:Int),(1<=n/\n<=10)/\ρ=[.sh (.lst (S.map Dat.int)),.sh (.int at_),.ow (aQ x),.sh (.int (n:Nat)),c4,c5,c6,c7,c8,c9,c10,c11,c12]) ?_ ?_
 ·refine Pd (N_ (PZ (m_ (O9 (m_ (O9 (m_ (O9 (m_ (O9 (m_ (O9 (m_ (O9 (m_ (O9 (m_ (O9 (O8 (Pn ?_ rfl rfl (by decide))))))))))))))))))))) (by decide);refine PU (m:=8) rfl (by decide) (by decide) rfl fun t x2 t0 t1 ρ3 e=>?_;subst e;obtain⟨n,en,n1,n10⟩:=ix8 t t0 t1;exact Pa (Pc ⟨n,x2,⟨n1,n10⟩,rfl⟩ (by trivial)) rfl rfl en
 rintro ρ ⟨n,x,⟨n1,n10⟩,rfl⟩;refine PJ (fun ρ=>∃(k:Nat) (x2:Int),(1<=k/\k<=6)/\ρ=[.sh (.lst (S.map Dat.int)),.sh (.int at_),.ow (aQ x2),.sh (.int (n:Nat)),.sh (.int (k:Nat)),c5,c6,c7,c8,c9,c10,c11,c12]) ?_ ?_
 ·refine Pd (N_ (O9 ?_)) (by decide);refine PU (m:=6) rfl (by decide) (by decide) rfl fun t x2 t0 t1 ρ3 e=>?_;subst e;refine Pp (Pc ⟨(1+t).toNat,x2,by lia,?_⟩ rfl) rfl rfl;rw[Int.toNat_of_nonneg (by lia)];rfl
 rintro ρ ⟨k,x2,⟨k1,k6⟩,rfl⟩;refine PJ (fun ρ=>∃(j:Nat) (x:Int),(1<=j/\j<=k)/\ρ=[.sh (.lst (S.map Dat.int)),.sh (.int at_),.ow (aQ x),.sh (.int (n:Nat)),.sh (.int (k:Nat)),.sh (.int (j:Nat)),c6,c7,c8,c9,c10,c11,c12]) ?_ ?_
 ·refine Pd (N_ (O9 ?_)) (by decide);refine PU (m:=(k:Nat)) rfl (by lia) (by unfold gX;lia) rfl fun t x2 t0 t1 ρ3 e=>?_;subst e;refine Pp (Pc ⟨(1+t).toNat,x2,by lia,?_⟩ rfl) rfl rfl;rw[Int.toNat_of_nonneg (by lia)];rfl
 rintro ρ ⟨j,x4,⟨j1,jk⟩,rfl⟩;obtain⟨y,ey⟩:=uU S (at_+1) (by lia) (by lia);refine PJ (fun ρ=>∃r:List Tie,Rcd n r/\Good n 0 r/\ρ=[.sh (.lst (S.map Dat.int)),.sh (.int at_),.ow (aQ x4),.sh (.int (n:Nat)),.sh (.int (k:Nat)),.sh (.int (j:Nat)),.ow (aH r),c7,c8,c9,c10,c11,c12]) ?_ ?_
 ·refine Pd (Ru (m_ (Pe ?_))) (by decide);refine m_ (M_ rfl (m_ (N_ (M_ rfl (O9 (Pp ?_ rfl rfl))))));refine O8 (Px ey ?_ rfl rfl rfl (by trivial));refine m_ (M_ rfl (m_ ?_));obtain⟨most,em,m0,m30⟩:∃most:Int,gIx (.lst [.int 14,.int 9]) (.int (b2i (decide (4<(n:Int)))))=some (.val (.int most))/\0<=most/\most<=60:=by
   by_cases q:4<(n:Int)
   ·rw[decide_eq_true q];exact⟨9,rfl,by decide,by decide⟩
   ·rw[decide_eq_false q];exact⟨14,rfl,by decide,by decide⟩
  obtain⟨r,y',er,gr,lr,mr⟩:=wz y n most (by lia) (by lia) m0 m30;refine N_ (PZ (m_ (O9 (m_ (O9 (O8 (Pn ?_ rfl rfl (Ml rfl))))))));refine PB (m_ (N_ (M_ rfl (O9 (P_ (O8 (QG ?_ rfl)) rfl rfl)))));refine Pa ?_ rfl rfl em;refine O8 ⟨_,_,_,_,_,rfl,rfl,er,?_⟩;exact Py ⟨r,Rcd.of gr (by lia) mr,gr,rfl⟩ (by trivial)
 rintro ρ ⟨r,hr,gr,rfl⟩;have lr:=hr.len;obtain⟨ms,_,al⟩:=fV n k n10 k1 k6 r hr.ends (by lia);have LX:=GI n k n10 k1 k6 r ms hr.ends (by lia) al;have net:Net n k (keep r ms):=⟨hr.sub (iy r ms),_,qi al,fun z=>by simpa using(M7.mp z).2⟩
 have s:Sg n k j (keep r ms):=⟨n1,n10,k1,k6,j1,jk,net⟩
 refine O_ (Pd (Pe ?_) (by decide));refine m_ (M_ rfl (m_ (Pw rfl (m_ (M_ rfl (O8 (Px LX (Pc ?_ (by trivial)) rfl rfl rfl (by trivial))))))));refine O_ (Pd (Ri (Py ?_ (by trivial))) (by decide));refine O_ (Pz (Qc (M_ rfl (bS.mk ⟨?_,by unfold BIG;lia,by unfold BIG;lia⟩))));rw[M5,oE];refine PD (fun i:Nat=>Dat.int ((i:Nat):Int)) _ _ (Mm n) _ _ _ _ _ (fun p q ρ=>∃(P:List (Int×Int)) (c9 c10:Cell),Dn n P p.length 0/\ρ=[.sh (.lst (S.map Dat.int)),.sh (.int at_),.ow (aQ x4),.sh (.int (n:Nat)),.sh (.int (k:Nat)),.sh (.int (j:Nat)),.sh (aH r),.sh (eZ n k (keep r ms)),.ow (kE (keep r ms) j P),c9,c10,c11,c12]) ⟨[],_,_,Dn.start n,rfl⟩ ?_ ?_
 ·rintro p i q ρ e ⟨P,c9,c10,hP,rfl⟩;obtain⟨hi,hin⟩:=dc e;refine Dm.aX rfl (by trivial) ?_;unfold zB;refine Pz (Qc (M_ rfl (bS.mk ⟨?_,by unfold BIG;lia,by unfold BIG;lia⟩)));rw[M5,oE];rw[<- hi]at hP;refine PD (fun i:Nat=>Dat.int ((i:Nat):Int)) _ _ (Mm n) _ _ _ _ _ (fun p q ρ=>∃(P:List (Int×Int)) (c10:Cell),Dn n P i p.length/\ρ=[.sh (.lst (S.map Dat.int)),.sh (.int at_),.ow (aQ x4),.sh (.int (n:Nat)),.sh (.int (k:Nat)),.sh (.int (j:Nat)),.sh (aH r),.sh (eZ n k (keep r ms)),.ow (kE (keep r ms) j P),.sh (.int (i:Nat)),c10,c11,c12]) ⟨P,_,hP,rfl⟩ ?_ ?_
  ·rintro p' l q' ρ e' ⟨P,c10,hP,rfl⟩;obtain⟨hl,hln⟩:=dc e';rw[<- hl]at hP;refine Dm.aX rfl (by trivial) ?_;refine zZ s hr gr al _ _ _ _ _ hin hln hP fun P' hP'=>⟨P',_,?_,rfl⟩;rw[Mr,M9,<- hl];exact hP'
  ·rintro ρ ⟨P,c10,hP,rfl⟩;rw[Mw]at hP;refine⟨P,_,_,?_,rfl⟩;rw[Mr,M9,<- hi];exact hP.row n10
 ·rintro ρ ⟨P,c9,c10,hP,rfl⟩;rw[Mw]at hP;have lP:=hP.len;have all:∀p,Pr n p->p∈P:=fun p h=>(hP.mem p).mpr ⟨h,.inl h.a1⟩;refine Pz (Qj (PB (m_ (Pw rfl (O8 (Rr (ks:=P) (vs:=P.map (gD (keep r ms) j)) (P4 (cP ?_)) rfl (by unfold SZ;lia)))))));refine PD pairD _ _ P _ _ _ _ _ (fun p q ρ=>∃(c9 c10 c11 c12:Cell),ρ=[.sh (.lst (S.map Dat.int)),.sh (.int at_),.ow (aQ x4),.sh (.int (n:Nat)),.sh (.int (k:Nat)),.sh (.int (j:Nat)),.sh (aH r),.sh (eZ n k (keep r ms)),.ow (kE (keep r ms) j P),c9,c10,c11,c12]) ⟨_,_,_,_,rfl⟩ ?_ ?_
  ·rintro p w q ρ e ⟨c9,c10,c11,c12,rfl⟩;have hw:Pr n w:=((hP.mem w).mp (e▸Mx _ Mg)).1;refine Dm.aX rfl (by trivial) ?_;unfold zC;refine Pz (Qc (M_ rfl (bS.mk ⟨?_,by unfold BIG;lia,by unfold BIG;lia⟩)));rw[M5,oE];refine PD (fun i:Nat=>Dat.int ((i:Nat):Int)) _ _ (Mm n) _ _ _ _ _ (fun p q ρ=>∃(c11 c12:Cell),ρ=[.sh (.lst (S.map Dat.int)),.sh (.int at_),.ow (aQ x4),.sh (.int (n:Nat)),.sh (.int (k:Nat)),.sh (.int (j:Nat)),.sh (aH r),.sh (eZ n k (keep r ms)),.ow (kE (keep r ms) j P),.sh (.int w.1),.sh (.int w.2),c11,c12]) ⟨_,_,rfl⟩ ?_ ?_
   ·rintro p' l q' ρ e' ⟨c11,c12,rfl⟩;obtain⟨hl,hln⟩:=dc e';refine Dm.aX rfl (by trivial) ?_;exact z0 s _ _ _ _ _ _ all hw hln fun c12=>⟨_,_,rfl⟩
   ·rintro ρ ⟨c11,c12,rfl⟩;exact⟨_,_,_,_,rfl⟩
  ·rintro ρ ⟨c9,c10,c11,c12,rfl⟩;exact nx _ _ _ _ _ _ _ _ _ _ _ _
theorem math(ns:List Int)(h:ns.length<=63):ko [.lst (ns.map Dat.int)]=some (.val (.bl true)):=by
 apply Pu;unfold ko
 (refine Dm.Ph ?_ rfl rfl;and_intros)
 obtain⟨top,et,t0,t1⟩:∃top:Int,top=(if (if (6:Int)<((ns.length:Nat):Int) then 6 else ((ns.length:Nat):Int))>1 then (if (6:Int)<((ns.length:Nat):Int) then 6 else ((ns.length:Nat):Int)) else 1)/\1<=top/\top<=12:=⟨_,rfl,by split<;>lia,by split<;>split<;>lia⟩
 refine O_ (Pz (Rx (i:=0) (j:=top) (k:=3) rfl ?_ rfl ⟨by decide,by unfold BIG;lia,by unfold BIG;lia,by decide,by decide⟩ ?_))
 ·rw[et];exact Rl (PB (m_ (O9 (m_ (PB (m_ (PB (m_ (M_ rfl (O8 (Qg (zf:=Dat.int) (xs:=ns) (m_ (O9 (O8 (P6 (O8 (Qy ⟨rfl,rfl⟩ rfl)) rfl)))) rfl)))))))))))
 unfold fQ;refine PD (fun i:Nat=>Dat.int (0+(i:Nat)*3)) _ _ (Mm (b4 0 top 3)) _ _ _ _ _ (fun p q ρ=>∃c1 c2 c3 c4 c5 c6 c7 c8 c9 c10 c11 c12:Cell,ρ=[.sh (.lst (ns.map Dat.int)),c1,c2,c3,c4,c5,c6,c7,c8,c9,c10,c11,c12]) ⟨_,_,_,_,_,_,_,_,_,_,_,_,rfl⟩ ?_ ?_
 ·rintro p i q ρ e ⟨c1,c2,c3,c4,c5,c6,c7,c8,c9,c10,c11,c12,rfl⟩;have hi:i<b4 0 top 3:=(dc e).2;unfold b4 at hi;rw[if_pos (by lia)]at hi;refine Dm.aX rfl (by trivial) ?_;exact CM ns _ (by lia) (by lia) _ _ _ _ _ _ _ _ _ _ _ fun c1 c2 c3 c4 c5 c6 c7 c8 c9 c10 c11 c12=>⟨_,_,_,_,_,_,_,_,_,_,_,_,rfl⟩
 ·rintro ρ ⟨c1,c2,c3,c4,c5,c6,c7,c8,c9,c10,c11,c12,rfl⟩;exact Pj (O9 rfl)
end P
namespace Q
open PySem L2 Br Dm P
noncomputable def top(i:Nat):Stmt:=PySem.Challenge.pw_sinceply_k38_whole_times_of_the_record.main.body.getD i (.Pass ⟨0,0,0,0⟩)
structure Txt(mg:Str->Option Value)(K:gc)(base:Heap)(sN sO sP sQ sS sU sV sW sX sY kF kG kH kI kJ kK kL kM kO kQ kR kT kU kW kX kY kZ k7 k8 k9 k_ lg lq lu ly lz lA lB lC lD lE:Addr)(lF lG lH lI lJ lK lM lO lQ lR fZ f6 f7 f9 f_ gb gf gg gh gj gk gm gn gp gq gu gv gw gx gy gA gB gC gE gF gG gH gI gJ gK iX:FuncData):Prop where
 DX:mg "all" = none
 GN:mg "bool" = none
 GO:mg "dict" = none
 qp:mg "enumerate" = none
 z4:mg "int" = none
 bz:mg "isinstance" = none
 iA:mg "len" = none
 oF:mg "list" = none
 DY:mg "max" = none
 qq:mg "min" = none
 bE:mg "range" = none
 lS:mg "reversed" = none
 z5:mg "sorted" = none
 jB:mg "tuple" = none
 J2:mg "zip" = none
 lT:∃t,mg "MOST_TIES" = some (.int 60 t)
 LY:mg "steps_of" = some (.ref sN)
 LZ:mg "free_steps" = some (.ref sO)
 L0:mg "led_steps" = some (.ref sP)
 J3:mg "shortest_ways" = some (.ref sQ)
 L1:mg "lead_along" = some (.ref sS)
 L3:mg "parted" = some (.ref sU)
 CN:mg "ways_apart" = some (.ref sV)
 J4:mg "hang_often" = some (.ref sW)
 L4:mg "is_whole" = some (.ref sX)
 z6:mg "is_within" = some (.ref sY)
 J5:mg "is_places" = some (.ref kF)
 uY:mg "is_place" = some (.ref kG)
 DZ:mg "is_layers" = some (.ref kH)
 J6:mg "is_moment" = some (.ref kI)
 J7:mg "is_tie_either_way" = some (.ref kJ)
 J8:mg "is_tie" = some (.ref kK)
 J9:mg "is_rising" = some (.ref kL)
 J_:mg "is_pair" = some (.ref kM)
 Ka:mg "look_at_layers" = some (.ref kO)
 Kc:mg "look_at_pair" = some (.ref kQ)
 Kd:mg "merged" = some (.ref kR)
 Ke:mg "least_layer" = some (.ref kT)
 D0:mg "layered" = some (.ref kU)
 Kf:mg "is_record" = some (.ref kW)
 D3:mg "since" = some (.ref kX)
 Kg:mg "is_net" = some (.ref kY)
 Kh:mg "look_at_net" = some (.ref kZ)
 Kl:mg "look_at_net_layers" = some (.ref k7)
 Km:mg "net_of" = some (.ref k8)
 Kn:mg "latest" = some (.ref k9)
 Ko:mg "when" = some (.ref k_)
 D4:mg "_law_pool" = some (.ref lg)
 fK:mg "_law_take" = some (.ref lq)
 Kp:mg "_law_record" = some (.ref lu)
 Kq:mg "_law_since" = some (.ref ly)
 Kr:mg "_law_rim" = some (.ref lz)
 Ks:mg "_law_sides" = some (.ref lA)
 Ku:mg "_law_hang" = some (.ref lB)
 Kv:mg "_law_due" = some (.ref lC)
 D5:mg "_law_told" = some (.ref lD)
 L8:mg "law" = some (.ref lE)
 Kw:Fun K "steps_of" "steps_of" (top 3) sN lF
 Ky:Fun K "free_steps" "free_steps" (top 4) sO lG
 Kz:Fun K "led_steps" "led_steps" (top 5) sP lH
 GP:Fun K "shortest_ways" "shortest_ways" (top 6) sQ lI
 KA:Fun K "lead_along" "lead_along" (top 7) sS lJ
 GQ:Binds K lH ["steps","heads"] []
 CO:Binds K lI ["steps","a"] []
 KC:Fun K "parted" "parted" (top 8) sU lK
 GR:Binds K lF ["n","ties"] []
 GS:Binds K lG ["steps","heads"] []
 GU:Binds K lJ ["heads","way"] []
 GV:Binds K lK ["steps","heads","a","b","count"] []
 z7:Fun K "ways_apart" "ways_apart" (top 1) sV lM
 wN:Binds K lM ["n","ties","a","b","most"] []
 GW:Fun K "hang_often" "hang_often" (top 2) sW lO
 KD:Fun K "is_whole" "is_whole" (top 15) sX lQ
 GX:Binds K lQ ["thing"] []
 wO:Fun K "is_within" "is_within" (top 16) sY lR
 sZ:Binds K lR ["thing","low","high"] []
 D6:Fun K "is_places" "is_places" (top 17) kF fZ
 qt:Fun K "is_place" "is_place" (top 18) kG f6
 z8:Fun K "is_layers" "is_layers" (top 19) kH f7
 D7:Fun K "is_moment" "is_moment" (top 20) kI f9
 nj:Binds K f6 ["n","thing"] []
 z_:Binds K f9 ["thing"] []
 D8:Fun K "is_tie_either_way" "is_tie_either_way" (top 21) kJ f_
 Aa:Binds K f_ ["n","thing"] []
 D9:Fun K "is_tie" "is_tie" (top 22) kK gb
 D_:Fun K "is_rising" "is_rising" (top 23) kL gf
 Ea:Fun K "is_pair" "is_pair" (top 24) kM gg
 uZ:Binds K f7 ["thing"] []
 Eb:Fun K "look_at_layers" "look_at_layers" (top 25) kO gh
 Ab:Binds K gg ["n","a","b"] []
 Ec:Fun K "look_at_pair" "look_at_pair" (top 26) kQ gj
 Ed:Fun K "merged" "merged" (top 28) kR gk
 Ef:Fun K "least_layer" "least_layer" (top 31) kT gm
 Ac:Binds K gh ["k"] []
 Ad:Binds K gk ["groups","a","b"] []
 Ae:Binds K gm ["layers","a","b"] []
 Af:Fun K "layered" "layered" (top 30) kU gn
 Ag:Binds K fZ ["thing"] []
 Ah:Binds K gb ["n","thing"] []
 Ai:Binds K gf ["things"] []
 Eg:Fun K "is_record" "is_record" (top 34) kW gp
 Aj:Fun K "since" "since" (top 35) kX gq
 u5:Binds K gn ["n","record","k"] []
 Ak:Binds K gp ["n","thing"] []
 Eh:Fun K "is_net" "is_net" (top 37) kY gu
 Al:Binds K gu ["thing"] []
 Ei:Fun K "look_at_net" "look_at_net" (top 38) kZ gv
 Am:Binds K gv ["thing"] []
 Ej:Fun K "look_at_net_layers" "look_at_net_layers" (top 39) k7 gw
 Ek:Fun K "net_of" "net_of" (top 40) k8 gx
 CP:Binds K lO ["n","ties","a","b","times"] []
 El:Fun K "latest" "latest" (top 43) k9 gy
 An:Binds K gj ["n","a","b"] []
 u6:Binds K gq ["record","t"] []
 Ao:Binds K gw ["net","j"] []
 Aq:Binds K gy ["n","ties","a","b","j"] []
 Em:Fun K "when" "when" (top 42) k_ gA
 Ar:Fun K "_law_pool" "_law_pool" (top 45) lg gB
 e_:Fun K "_law_take" "_law_take" (top 46) lq gC
 dR:Binds K gC ["pool","many"] []
 Eo:Fun K "_law_record" "_law_record" (top 48) lu gE
 Ep:Fun K "_law_since" "_law_since" (top 50) ly gF
 Er:Fun K "_law_rim" "_law_rim" (top 53) lz gG
 Es:Fun K "_law_sides" "_law_sides" (top 57) lA gH
 As:Binds K gG ["ties","side"] []
 Au:Binds K gH ["n"] []
 Et:Fun K "_law_hang" "_law_hang" (top 58) lB gI
 Av:Binds K gF ["record","t"] []
 Aw:Binds K gI ["n","ties","a","b"] []
 Eu:Fun K "_law_due" "_law_due" (top 59) lC gJ
 Ax:Binds K gA ["net","a","b","j"] []
 Ay:Fun K "_law_told" "_law_told" (top 60) lD gK
 Az:Binds K gx ["n","record","k"] []
 u7:Binds K gB ["script","k"] []
 AA:Binds K gE ["pool","n","most"] []
 AB:Binds K gJ ["n","record","a","b","j"] []
 u9:Binds K gK ["net","a","b","j"] []
 KG:Fun K "law" "law" (top 61) lE iX
section
variable{P':Program}{w:World}{K:gc}{mg:Str->Option Value}{base:Heap}{sN sO sP sQ sS sU sV sW sX sY kF kG kH kI kJ kK kL kM kO kQ kR kT kU kW kX kY kZ k7 k8 k9 k_ lg lq lu ly lz lA lB lC lD lE:Addr}
variable{lF lG lH lI lJ lK lM lO lQ lR fZ f6 f7 f9 f_ gb gf gg gh gj gk gm gn gp gq gu gv gw gx gy gA gB gC gE gF gG gH gI gJ gK iX:FuncData}
theorem qu:av ["n","ties","steps","moment","a","b"] ["n","ties"] (ah (top 3)):=fsc
theorem GY:(["n","ties","steps","moment","a","b","place"]:List Str).Nodup:=by decide +kernel
theorem KH:av ["steps","heads"] ["steps","heads"] (ah (top 4)):=fsc
theorem GZ:(["steps","heads","row"]:List Str).Nodup:=by decide +kernel
theorem G0:(["steps","heads","row","step"]:List Str).Nodup:=by decide +kernel
theorem KI:av ["steps","heads"] ["steps","heads"] (ah (top 5)):=fsc
theorem G1:(["steps","heads","row"]:List Str).Nodup:=by decide +kernel
theorem G3:(["steps","heads","row","step"]:List Str).Nodup:=by decide +kernel
theorem qv:av ["steps","a","ways","pending","place","step"] ["steps","a"] (ah (top 6)):=fsc
theorem AD:av ["heads","way","moment","place"] ["heads","way"] (ah (top 7)):=fsc
theorem nk:av ["steps","heads","a","b","count","left","ways","time","way","moment"] ["steps","heads","a","b","count"] (ah (top 8)):=fsc
theorem G4:(["steps","heads","a","b","count","left","ways","time","way","moment","step"]:List Str).Nodup:=by decide +kernel
theorem jo:av ["n","ties","a","b","most","steps","heads","side","count","found"] ["n","ties","a","b","most"] (ah (top 1)):=fsc
theorem KJ:av ["n","ties","a","b","times"] ["n","ties","a","b","times"] (ah (top 2)):=fsc
theorem KN:av ["thing"] ["thing"] (ah (top 15)):=fsc
theorem KP:av ["thing","low","high"] ["thing","low","high"] (ah (top 16)):=fsc
theorem G5:av ["thing"] ["thing"] (ah (top 17)):=fsc
theorem G6:av ["n","thing"] ["n","thing"] (ah (top 18)):=fsc
theorem G7:av ["thing"] ["thing"] (ah (top 19)):=fsc
theorem G8:av ["thing"] ["thing"] (ah (top 20)):=fsc
theorem G9:av ["n","thing"] ["n","thing"] (ah (top 21)):=fsc
theorem G_:av ["n","thing"] ["n","thing"] (ah (top 22)):=fsc
theorem Hh:av ["things"] ["things"] (ah (top 23)):=fsc
theorem CQ:(["things","at"]:List Str).Nodup:=by decide +kernel
theorem Hi:av ["n","a","b"] ["n","a","b"] (ah (top 24)):=fsc
theorem Hj:av ["k"] ["k"] (ah (top 25)):=fsc
theorem Hl:av ["n","a","b"] ["n","a","b"] (ah (top 26)):=fsc
theorem Ho:av ["groups","a","b"] ["groups","a","b"] (ah (top 28)):=fsc
theorem CS:(["groups","a","b","group"]:List Str).Nodup:=by decide +kernel
theorem s_:av ["layers","a","b","at","groups"] ["layers","a","b"] (ah (top 31)):=fsc
theorem gM:av ["n","record","k","layers","numbers","moment","a","b","number"] ["n","record","k"] (ah (top 30)):=fsc
theorem CT:(["n","record","k","layers","numbers","moment","a","b","number","layer"]:List Str).Nodup:=by decide +kernel
theorem Hq:av ["n","thing"] ["n","thing"] (ah (top 34)):=fsc
theorem CU:(["n","thing","tie"]:List Str).Nodup:=by decide +kernel
theorem CV:(["n","thing","tie"]:List Str).Nodup:=by decide +kernel
theorem Hr:av ["record","t"] ["record","t"] (ah (top 35)):=fsc
theorem CW:(["record","t","tie"]:List Str).Nodup:=by decide +kernel
theorem Ht:av ["thing"] ["thing"] (ah (top 37)):=fsc
theorem Hu:av ["thing"] ["thing"] (ah (top 38)):=fsc
theorem Hv:av ["net","j"] ["net","j"] (ah (top 39)):=fsc
theorem AE:av ["n","record","k","numbers"] ["n","record","k"] (ah (top 40)):=fsc
theorem u_:(["n","record","k","numbers","tie","number"]:List Str).Nodup:=by decide +kernel
theorem iY:av ["n","ties","a","b","j","low","high","middle"] ["n","ties","a","b","j"] (ah (top 43)):=fsc
theorem oG:av ["net","a","b","j","t","ways","side"] ["net","a","b","j"] (ah (top 42)):=fsc
theorem dM:av ["script","k","cell","number","found","turn"] ["script","k"] (ah (top 45)):=fsc
theorem AF:av ["pool","many","digit"] ["pool","many"] (ah (top 46)):=fsc
theorem bW:av ["pool","n","most","many","kind","step","times","way","moment","found","k","one","other"] ["pool","n","most"] (ah (top 48)):=fsc
theorem Hw:av ["record","t"] ["record","t"] (ah (top 50)):=fsc
theorem CY:(["record","t","tie"]:List Str).Nodup:=by decide +kernel
theorem Hx:av ["ties","side"] ["ties","side"] (ah (top 53)):=fsc
theorem CZ:(["ties","side","tie"]:List Str).Nodup:=by decide +kernel
theorem oH:av ["n","found","place"] ["n"] (ah (top 57)):=fsc
theorem C0:(["n","found","place","side"]:List Str).Nodup:=by decide +kernel
theorem oJ:av ["n","ties","a","b","found","side"] ["n","ties","a","b"] (ah (top 58)):=fsc
theorem AG:av ["n","record","a","b","j","tie"] ["n","record","a","b","j"] (ah (top 59)):=fsc
theorem AH:av ["net","a","b","j","found"] ["net","a","b","j"] (ah (top 60)):=fsc
theorem bB:av ["script","at","pool","n","k","j","record","net","told","a","b","c","least"] ["script"] (ah (top 61)):=fsc
variable(T:Txt mg K base sN sO sP sQ sS sU sV sW sX sY kF kG kH kI kJ kK kL kM kO kQ kR kT kU kW kX kY kZ k7 k8 k9 k_ lg lq lu ly lz lA lB lC lD lE lF lG lH lI lJ lK lM lO lQ lR fZ f6 f7 f9 f_ gb gf gg gh gj gk gm gn gp gq gu gv gw gx gy gA gB gC gE gF gG gH gI gJ gK iX)
include T
theorem KQ :
  aN P' w K mg base CX0 1 sN lF ["n","ties"] (spD Cm):=
 okQ T.Kw qu fun _ _ _ _ _ _ hr=>(Gm 2 ["n","ties","steps","moment","a","b"] ["place"] qu.nd (c_n 6 GY rfl rfl) (pL rfl T.bE (aa (d_v 0) af)) (JE MH rfl (i_S (d_v 1)) (g_t rfl (bh 3 qu.nd (bh 4 qu.nd (bh 5 qu.nd iI))))
  (DC (LG (nQ hr (d_v 4) (d_v 5)) (Gk (DF (d_v 4) (b_ (aa (d_v 3) (aa (d_v 5) af))))
  (DC (DF (d_v 5) (b_ (aa (d_v 3) (aa (d_v 4) af)))))) JD)))
  (ak (s_r (d_v 2))))
theorem KR :
  aN P' w K mg base CX0 1 sO lG ["steps","heads"] (spD zm):=
 okQ T.Ky KH fun _ _ _ _ _ _ hr=>(ak (s_r (eK 0 ["steps","heads"] ["row"] (c_n 2 GZ rfl rfl) (d_v 0) (fun _ _ _ _ _=>dj) (fun _ _ _ _ _=>(eK 2 ["steps","heads","row"] ["step"] (c_n 3 G0 rfl rfl) (d_v 2) (fun _ _ _ _ _=>iJ (nQ hr (yN hr (d_v 1) (aJ (d_v 3) d_i)) (aJ (d_v 3) d_i))) (fun _ _ _ _ _=>(d_v 3)))))))
theorem KS :
  aN P' w K mg base CX0 1 sP lH ["steps","heads"] (spD zo):=
 okQ T.Kz KI fun _ _ _ _ _ _ hr=>(ak (s_r (eK 0 ["steps","heads"] ["row"] (c_n 2 G1 rfl rfl) (d_v 0) (fun _ _ _ _ _=>dj) (fun _ _ _ _ _=>(eK 2 ["steps","heads","row"] ["step"] (c_n 3 G3 rfl rfl) (d_v 2) (fun _ _ _ _ _=>iJ (yi hr (yN hr (d_v 1) (aJ (d_v 3) d_i)) (aJ (d_v 3) d_i))) (fun _ _ _ _ _=>(d_v 3)))))))
theorem Ew :
  aN P' w K mg base CX0 1 sQ lI ["steps","a"] (spD p5):=
 okQ T.GP qv fun _ _ _ _ _ _ hr=>(ai (s_a 2 qv.nd (LC (d_v 1) (cX af)))
  (ai (s_a 3 qv.nd (cX (aa (d_v 1) af)))
  (ai (FP 100 MH (LF (d_v 3))
  (ai (s_a 4 qv.nd (B3 3 d_i))
  (ak (cy MH rfl (i_S (aJ (d_v 0) (d_v 4))) (g_n 5 qv.nd)
  (ak (bQ (Gf hr (aJ (d_v 5) d_i) (d_v 2)) (ai (yO 2 hr (aJ (d_v 5) d_i) (bw (Ge hr (d_v 2) (d_v 4)) (cX (aa (d_v 5) af))))
  (ak (ue 3 (aJ (d_v 5) d_i)))) aZ))))))
  (ak (s_r (d_v 2))))))
theorem KU :
  aN P' w K mg base CX0 1 sS lJ ["heads","way"] (spM zp):=by
 refine T.KA.ok AD (fun vs H Q E h=>jx h) (fun cdv A outer s H vs Q E hr h=>?_);exact ⟨_,(ak (cy MH rfl (i_S (d_v 1)) (g_t rfl (bh 2 AD.nd (bh 3 AD.nd iI)))
  (ak (bQ (Dz hr (d_v 2) (d_v 0)) (ak (s_e (yY 0 (d_v 2)))) (ak (yO 0 hr (d_v 2) (d_v 3))))))),yL (n:=2) (m:=2) rfl h⟩
theorem KW :
  aN P' w K mg base CX0 2 sU lK ["steps","heads","a","b","count"] (spD wc):=
 okQ T.KC nk fun _ _ _ _ _ _ hr=>(ai (s_a 5 nk.nd (Gr rfl T.GO (aa (d_v 1) af)))
  (ai (s_a 6 nk.nd (cX af))
  (ai (cy MH rfl (pL rfl T.bE (aa (d_v 4) af)) (g_n 7 nk.nd)
  (ai (Jp 8 ["steps","heads","a","b","count","left","ways","time","way","moment"] ["step"] nk.nd (c_n 10 G4 rfl rfl) (i_S (Ge hr (aB (Ew T) (Br.hm hr) rfl T.J3 T.GP.kp T.CO (aa (j8 (KS T) (Br.hm hr) rfl T.L0 T.Kz.kp T.GQ (aa (d_v 0) (aa (d_v 5) af))) (aa (d_v 2) af))) (d_v 3))) (fun _ _ _ _ _=>dj) (fun _ _ _ _ _=>(aJ (d_v 10) d_i)))
  (ai (cy MH rfl (i_S (d_v 8)) (g_n 9 nk.nd)
  (ak (s_e (yY 5 (d_v 9)))))
  (ak (ue 6 (d_v 8))))))
  (ak (s_r (d_v 6))))))
theorem vc :
  aN P' w K mg base CX0 3 sV lM ["n","ties","a","b","most"] (spD n6):=
 okQ T.z7 jo fun _ _ _ _ _ _ hr=>(ai (s_a 5 jo.nd (aB (KQ T) (Br.hm hr) rfl T.LY T.Kw.kp T.GR (aa (d_v 0) (aa (d_v 1) af))))
  (ai (s_a 6 jo.nd LB)
  (ai (s_a 7 jo.nd d_n)
  (ai (s_a 8 jo.nd d_i)
  (ai (FP 100 MH (t_w (w_and (BH (d_v 8) (d_v 4)) (ym (DB (d_v 7) d_n))))
  (ai (s_a 9 jo.nd (aB (Ew T) (Br.hm hr) rfl T.J3 T.GP.kp T.CO (aa (j8 (KR T) (Br.hm hr) rfl T.LZ T.Ky.kp T.GS (aa (d_v 5) (aa (d_v 6) af))) (aa (d_v 2) af))))
  (ak (bQ (Dz hr (d_v 3) (d_v 9)) (ai (s_e (bR (KU T) (Br.hm hr) rfl T.L1 T.KA.kp T.GU (aa (d_v 6) (aa (Ge hr (d_v 9) (d_v 3)) af))))
  (ak (s_a 8 jo.nd (bw (d_v 8) d_i)))) (ak (s_a 7 jo.nd (BK rfl T.jB (aa (B6 rfl rfl T.z5 (aa (d_v 9) af)) af))))))))
  (ak (s_r (b_ (aa (j8 (KW T) (Br.hm hr) rfl T.L3 T.KC.kp T.GV (@aa _ _ _ _ _ (d_v 5) (@aa _ _ _ _ _ (d_v 6) (@aa _ _ _ _ _ (d_v 2) (@aa _ _ _ _ _ (d_v 3) (@aa _ _ _ _ _ (d_v 8) af rfl) rfl) rfl) rfl) rfl)) (aa (d_v 7) af))))))))))
theorem Ex :
  aN P' w K mg base CX0 4 sW lO ["n","ties","a","b","times"] (spD we):=
 okQ T.GW KJ fun _ _ _ _ _ _ hr=>(ak (s_r (Jy (aJ (aB (vc T) (Br.hm hr) rfl T.CN T.z7.kp T.wN (@aa _ _ _ _ _ (d_v 0) (@aa _ _ _ _ _ (d_v 1) (@aa _ _ _ _ _ (d_v 2) (@aa _ _ _ _ _ (d_v 3) (@aa _ _ _ _ _ (d_v 4) af rfl) rfl) rfl) rfl) rfl)) d_i) d_n)))
theorem KY :
  aN P' w K mg base CX0 1 sX lQ ["thing"] (spD Cn):=
 okQ T.KD KN fun _ _ _ _ _ _ hr=>(ak (s_r (jT (mJ BL (by rfl) rfl T.z4 rfl T.bz (d_v 0)) (pJ (Jf (mJ yo (by rfl) rfl T.GN rfl T.bz (d_v 0)))))))
theorem qw :
  aN P' w K mg base CX0 2 sY lR ["thing","low","high"] (spD p6):=
 okQ T.wO KP fun _ _ _ _ _ _ hr=>(ak (s_r (jT (aB (KY T) (Br.hm hr) rfl T.L4 T.KD.kp T.GX (aa (d_v 0) af)) (pJ (BO xr yd xr yd (d_v 1) (d_v 0) (d_v 2))))))
theorem Hy :
  aN P' w K mg base CX0 3 kF fZ ["thing"] (spD uz):=
 okQ T.D6 G5 fun _ _ _ _ _ _ hr=>(ak (s_r (aB (qw T) (Br.hm hr) rfl T.z6 T.wO.kp T.sZ (aa (d_v 0) (aa d_i (aa d_i af))))))
theorem oK :
  aN P' w K mg base CX0 3 kG f6 ["n","thing"] (spD kh):=
 okQ T.qt G6 fun _ _ _ _ _ _ hr=>(ak (s_r (aB (qw T) (Br.hm hr) rfl T.z6 T.wO.kp T.sZ (aa (d_v 1) (aa d_i (aa (jQ (d_v 0) d_i) af))))))
theorem AI :
  aN P' w K mg base CX0 3 kH f7 ["thing"] (spD ki):=
 okQ T.z8 G7 fun _ _ _ _ _ _ hr=>(ak (s_r (aB (qw T) (Br.hm hr) rfl T.z6 T.wO.kp T.sZ (aa (d_v 0) (aa d_i (aa d_i af))))))
theorem Hz :
  aN P' w K mg base CX0 3 kI f9 ["thing"] (spD uA):=
 okQ T.D7 G8 fun _ _ _ _ _ _ hr=>(ak (s_r (aB (qw T) (Br.hm hr) rfl T.z6 T.wO.kp T.sZ (aa (d_v 0) (aa d_i (aa (h_ d_i d_i) af))))))
theorem HA :
  aN P' w K mg base CX0 4 kJ f_ ["n","thing"] (spD uB):=
 okQ T.D8 G9 fun _ _ _ _ _ _ hr=>(ai (bQ (t_w (w_or (cY (cO (mJ kit_tuple (by rfl) rfl T.jB rfl T.bz (d_v 1)))) (pK (nQ hr (ia rfl T.iA (aa (d_v 1) af)) d_i)))) (ak (s_r d_b)) aZ)
  (ak (s_r (jT (aB (Hz T) (Br.hm hr) rfl T.J6 T.D7.kp T.z_ (aa (aJ (d_v 1) d_i) af)) (jT (aB (oK T) (Br.hm hr) rfl T.uY T.qt.kp T.nj (aa (d_v 0) (aa (aJ (d_v 1) d_i) af))) (pJ (aB (oK T) (Br.hm hr) rfl T.uY T.qt.kp T.nj (aa (d_v 0) (aa (aJ (d_v 1) d_i) af)))))))))
theorem HB :
  aN P' w K mg base CX0 5 kK gb ["n","thing"] (spD uC):=
 okQ T.D9 G_ fun _ _ _ _ _ _ hr=>(ak (s_r (jT (aB (HA T) (Br.hm hr) rfl T.J7 T.D8.kp T.Aa (aa (d_v 0) (aa (d_v 1) af))) (pJ (Ls (aJ (d_v 1) d_i) (aJ (d_v 1) d_i))))))
theorem HC :
  aN P' w K mg base CX0 1 kL gf ["things"] (spD uD):=
 okQ T.D_ Hh fun _ _ _ _ _ _ hr=>(ak (s_r (Du rfl rfl T.DX (aa (Jo ["things"] ["at"] (c_n 1 CQ rfl rfl) (Jg rfl T.bE (aa d_i (aa (ia rfl T.iA (aa (d_v 0) af)) af))) (fun _ _ _ _ _=>dj) (fun _ _ _ _ _=>(Lr (aJ (d_v 0) (jQ (d_v 1) d_i)) (aJ (d_v 0) (d_v 1))))) af))))
theorem HD :
  aN P' w K mg base CX0 4 kM gg ["n","a","b"] (spD uE):=
 okQ T.Ea Hi fun _ _ _ _ _ _ hr=>(ak (s_r (jT (aB (oK T) (Br.hm hr) rfl T.uY T.qt.kp T.nj (aa (d_v 0) (aa (d_v 1) af))) (jT (aB (oK T) (Br.hm hr) rfl T.uY T.qt.kp T.nj (aa (d_v 0) (aa (d_v 2) af))) (pJ (Lq hr (d_v 1) (d_v 2)))))))
theorem HE :
  aN P' w K mg base CX0 4 kO gh ["k"] (spD uF):=
 okQ T.Eb Hj fun _ _ _ _ _ _ hr=>(ak (bQ (cY (cO (aB (AI T) (Br.hm hr) rfl T.DZ T.z8.kp T.uZ (aa (d_v 0) af)))) (ak jv) aZ))
theorem HF :
  aN P' w K mg base CX0 5 kQ gj ["n","a","b"] (spD uG):=
 okQ T.Ec Hl fun _ _ _ _ _ _ hr=>(ak (bQ (cY (cO (aB (HD T) (Br.hm hr) rfl T.J_ T.Ea.kp T.Ab (aa (d_v 0) (aa (d_v 1) (aa (d_v 2) af)))))) (ak jv) aZ))
theorem HG :
  aN P' w K mg base CX0 1 kR gk ["groups","a","b"] (spD uH):=
 okQ T.Ed Ho fun _ _ _ _ _ _ hr=>(ak (s_r (eK 0 ["groups","a","b"] ["group"] (c_n 3 CS rfl rfl) (d_v 0) (fun _ _ _ _ _=>dj) (fun _ _ _ _ _=>(Lv (yi hr (d_v 3) (aJ (d_v 0) (d_v 2))) (aJ (d_v 0) (d_v 1)) (d_v 3))))))
theorem HH :
  aN P' w K mg base CX0 1 kT gm ["layers","a","b"] (spD p7):=
 okQ T.Ef s_ fun _ _ _ _ _ _ hr=>(ai (cy MH rfl (Ly rfl T.qp (d_v 0)) (g_t rfl (bh 3 s_.nd (bh 4 s_.nd iI)))
  (ak (bQ (nQ hr (aJ (d_v 4) (d_v 1)) (aJ (d_v 4) (d_v 2))) (ak (s_r (bw (d_v 3) d_i))) aZ)))
  (ak (s_r d_i)))
theorem AJ :
  aN P' w K mg base CX0 5 kU gn ["n","record","k"] (spD mZ):=
 okQ T.Af gM fun _ _ _ _ _ _ hr=>(ai (s_e (aB (HE T) (Br.hm hr) rfl T.Ka T.Eb.kp T.Ac (aa (d_v 2) af)))
  (ai (Jp 3 ["n","record","k","layers","numbers","moment","a","b","number"] ["layer"] gM.nd (c_n 9 CT rfl rfl) (pL rfl T.bE (aa (d_v 2) af)) (fun _ _ _ _ _=>dj) (fun _ _ _ _ _=>(F5 rfl rfl T.oF rfl T.bE (aa (d_v 0) af))))
  (ai (s_a 4 gM.nd (cX af))
  (ai (cy MH rfl (Ju rfl T.lS (d_v 1)) (g_t rfl (bh 5 gM.nd (bh 6 gM.nd (bh 7 gM.nd iI))))
  (ai (s_a 8 gM.nd (aB (HH T) (Br.hm hr) rfl T.Ke T.Ef.kp T.Ae (aa (d_v 3) (aa (d_v 6) (aa (d_v 7) af)))))
  (ai (bQ (yj (d_v 8) d_i) (ak (Dt 3 (jQ (d_v 8) d_i) (aB (HG T) (Br.hm hr) rfl T.Kd T.Ed.kp T.Ad (aa (aJ (d_v 3) (jQ (d_v 8) d_i)) (aa (d_v 6) (aa (d_v 7) af)))))) aZ)
  (ak (ue 4 (d_v 8))))))
  (ak (s_r (BU rfl rfl T.oF rfl T.lS (d_v 4))))))))
theorem HJ :
  aN P' w K mg base CX0 6 kW gp ["n","thing"] (spD uI):=by
 refine T.Eg.ok Hq (fun vs H Q E h=>rR h) (fun cdv A outer s H vs Q E hr h=>?_);obtain⟨iB,qx⟩:=T.lT;exact ⟨_,(ai (bQ (t_w (w_or (cY (cO (aB (Hy T) (Br.hm hr) rfl T.J5 T.D6.kp T.Ag (aa (d_v 0) af)))) (w_or (cY (cO (mJ yp (by rfl) rfl T.oF rfl T.bz (d_v 1)))) (pK (yj (ia rfl T.iA (aa (d_v 1) af)) (d_g rfl qx)))))) (ak (s_r d_b)) aZ)
  (ai (bQ (cY (cO (Du rfl rfl T.DX (aa (eK 1 ["n","thing"] ["tie"] (c_n 2 CU rfl rfl) (d_v 1) (fun _ _ _ _ _=>dj) (fun _ _ _ _ _=>(aB (HB T) (Br.hm hr) rfl T.J8 T.D9.kp T.Ah (aa (d_v 0) (aa (d_v 2) af))))) af)))) (ak (s_r d_b)) aZ)
  (ak (s_r (aB (HC T) (Br.hm hr) rfl T.J9 T.D_.kp T.Ai (aa (eK 1 ["n","thing"] ["tie"] (c_n 2 CV rfl rfl) (d_v 1) (fun _ _ _ _ _=>dj) (fun _ _ _ _ _=>(aJ (d_v 2) d_i))) af)))))),IZ (n:=2) (m:=0) rfl h⟩
theorem AK :
  aN P' w K mg base CX0 1 kX gq ["record","t"] (spD kj):=
 okQ T.Aj Hr fun _ _ _ _ _ _ hr=>(ak (s_r (eK 0 ["record","t"] ["tie"] (c_n 2 CW rfl rfl) (d_v 0) (fun _ _ _ _ _=>iJ (BI (aJ (d_v 2) d_i) (d_v 1))) (fun _ _ _ _ _=>(d_v 2)))))
theorem HK :
  aN P' w K mg base CX0 7 kY gu ["thing"] (spD uJ):=
 okQ T.Eh Ht fun _ _ _ _ _ _ hr=>(ai (bQ (t_w (w_or (cY (cO (mJ kit_tuple (by rfl) rfl T.jB rfl T.bz (d_v 0)))) (pK (nQ hr (ia rfl T.iA (aa (d_v 0) af)) d_i)))) (ak (s_r d_b)) aZ)
  (ai (bQ (t_w (w_or (cY (cO (aB (AI T) (Br.hm hr) rfl T.DZ T.z8.kp T.uZ (aa (aJ (d_v 0) d_i) af)))) (pK (cY (cO (aB (HJ T) (Br.hm hr) rfl T.Kf T.Eg.kp T.Ak (aa (aJ (d_v 0) d_i) (aa (aJ (d_v 0) d_i) af)))))))) (ak (s_r d_b)) aZ)
  (ak (s_r (Jd hr d_i (aB (AJ T) (Br.hm hr) rfl T.D0 T.Af.kp T.u5 (aa (aJ (d_v 0) d_i) (aa (aJ (d_v 0) d_i) (aa (aJ (d_v 0) d_i) af)))))))))
theorem HL :
  aN P' w K mg base CX0 8 kZ gv ["thing"] (spD uK):=
 okQ T.Ei Hu fun _ _ _ _ _ _ hr=>(ak (bQ (cY (cO (aB (HK T) (Br.hm hr) rfl T.Kg T.Eh.kp T.Al (aa (d_v 0) af)))) (ak jv) aZ))
theorem HM :
  aN P' w K mg base CX0 9 k7 gw ["net","j"] (spD uL):=
 okQ T.Ej Hv fun _ _ _ _ _ _ hr=>(ai (s_e (aB (HL T) (Br.hm hr) rfl T.Kh T.Ei.kp T.Am (aa (d_v 0) af)))
  (ak (bQ (cY (cO (aB (qw T) (Br.hm hr) rfl T.z6 T.wO.kp T.sZ (aa (d_v 1) (aa d_i (aa (aJ (d_v 0) d_i) af)))))) (ak jv) aZ)))
theorem HN :
  aN P' w K mg base CX0 6 k8 gx ["n","record","k"] (spD uM):=
 okQ T.Ek AE fun _ _ _ _ _ _ hr=>(ai (s_a 3 AE.nd (aB (AJ T) (Br.hm hr) rfl T.D0 T.Af.kp T.u5 (aa (d_v 0) (aa (d_v 1) (aa (d_v 2) af)))))
  (ak (s_r (b_ (aa (d_v 0) (aa (d_v 2) (aa (Jo ["n","record","k","numbers"] ["tie","number"] (c_t rfl (fun _ _ _ _ _=>(bh 4 u_ (bh 5 u_ iI)))) (Jv rfl T.J2 (aa (d_v 1) (aa (d_v 3) af))) (fun _ _ _ _ _=>iJ (yj (d_v 5) d_i)) (fun _ _ _ _ _=>(d_v 4))) af)))))))
theorem HP :
  aN P' w K mg base CX0 5 k9 gy ["n","ties","a","b","j"] (spD m5):=
 okQ T.El iY fun _ _ _ _ _ _ hr=>(ai (bQ (cY (cO (aB (Ex T) (Br.hm hr) rfl T.J4 T.GW.kp T.CP (@aa _ _ _ _ _ (d_v 0) (@aa _ _ _ _ _ (d_v 1) (@aa _ _ _ _ _ (d_v 2) (@aa _ _ _ _ _ (d_v 3) (@aa _ _ _ _ _ (d_v 4) af rfl) rfl) rfl) rfl) rfl)))) (ak (s_r d_n)) aZ)
  (ai (s_a 5 iY.nd d_i)
  (ai (s_a 6 iY.nd (ia rfl T.iA (aa (d_v 1) af)))
  (ai (FP 100 MH (yj (jQ (d_v 6) (d_v 5)) d_i)
  (ai (s_a 7 iY.nd (Dr (bw (d_v 5) (d_v 6)) d_i))
  (ak (bQ (cO (aB (Ex T) (Br.hm hr) rfl T.J4 T.GW.kp T.CP (@aa _ _ _ _ _ (d_v 0) (@aa _ _ _ _ _ (Jj (d_v 1) (o_s (d_v 7)) o_n) (@aa _ _ _ _ _ (d_v 2) (@aa _ _ _ _ _ (d_v 3) (@aa _ _ _ _ _ (d_v 4) af rfl) rfl) rfl) rfl) rfl))) (ak (s_a 5 iY.nd (d_v 7))) (ak (s_a 6 iY.nd (d_v 7)))))))
  (ak (s_r (aJ (aJ (d_v 1) (d_v 5)) d_i)))))))
theorem HQ :
  aN P' w K mg base CX0 10 k_ gA ["net","a","b","j"] (spD m6):=
 okQ T.Em oG fun _ _ _ _ _ _ hr=>(ai (s_e (aB (HM T) (Br.hm hr) rfl T.Kl T.Ej.kp T.Ao (aa (d_v 0) (aa (d_v 3) af))))
  (ai (s_e (aB (HF T) (Br.hm hr) rfl T.Kc T.Ec.kp T.An (aa (aJ (d_v 0) d_i) (aa (d_v 1) (aa (d_v 2) af)))))
  (ai (s_a 4 oG.nd (aB (HP T) (Br.hm hr) rfl T.Kn T.El.kp T.Aq (@aa _ _ _ _ _ (aJ (d_v 0) d_i) (@aa _ _ _ _ _ (aJ (d_v 0) d_i) (@aa _ _ _ _ _ (d_v 1) (@aa _ _ _ _ _ (d_v 2) (@aa _ _ _ _ _ (d_v 3) af rfl) rfl) rfl) rfl) rfl)))
  (ai (bQ (DB (d_v 4) d_n) (ak (s_r (b_ (aa d_s (aa (aJ (aB (vc T) (Br.hm hr) rfl T.CN T.z7.kp T.wN (@aa _ _ _ _ _ (aJ (d_v 0) d_i) (@aa _ _ _ _ _ (aJ (d_v 0) d_i) (@aa _ _ _ _ _ (d_v 1) (@aa _ _ _ _ _ (d_v 2) (@aa _ _ _ _ _ (d_v 3) af rfl) rfl) rfl) rfl) rfl)) d_i) af))))) aZ)
  (ai (s_a 5 oG.nd (aJ (aB (vc T) (Br.hm hr) rfl T.CN T.z7.kp T.wN (@aa _ _ _ _ _ (aJ (d_v 0) d_i) (@aa _ _ _ _ _ (aB (AK T) (Br.hm hr) rfl T.D3 T.Aj.kp T.u6 (aa (aJ (d_v 0) d_i) (aa (d_v 4) af))) (@aa _ _ _ _ _ (d_v 1) (@aa _ _ _ _ _ (d_v 2) (@aa _ _ _ _ _ (d_v 3) af rfl) rfl) rfl) rfl) rfl)) d_i))
  (ai (s_a 6 oG.nd (aJ (aB (vc T) (Br.hm hr) rfl T.CN T.z7.kp T.wN (@aa _ _ _ _ _ (aJ (d_v 0) d_i) (@aa _ _ _ _ _ (aB (AK T) (Br.hm hr) rfl T.D3 T.Aj.kp T.u6 (aa (aJ (d_v 0) d_i) (aa (bw (d_v 4) d_i) af))) (@aa _ _ _ _ _ (d_v 1) (@aa _ _ _ _ _ (d_v 2) (@aa _ _ _ _ _ (d_v 3) af rfl) rfl) rfl) rfl) rfl)) d_i))
  (ak (s_r (b_ (aa d_s (aa (d_v 4) (aa (d_v 5) (aa (d_v 6) af)))))))))))))
theorem AL :
  aN P' w K mg base CX0 1 lg gB ["script","k"] (spD m7):=
 okQ T.Ar dM fun _ _ _ _ _ _ hr=>(ai (s_a 2 dM.nd d_i)
  (ai (bQ (BH (d_v 1) (ia rfl T.iA (aa (d_v 0) af))) (ak (s_a 2 dM.nd (aJ (d_v 0) (d_v 1)))) aZ)
  (ai (bQ (BI (d_v 2) (h_ d_i d_i)) (ak (s_r (cX (aa (fF (d_v 2) (nU (nU (nU (nU (h_ d_i d_i) (h_ d_i d_i)) (h_ d_i d_i)) (h_ d_i d_i)) (h_ d_i d_i))) af)))) aZ)
  (ai (s_a 3 dM.nd (fF (bw (bw (bw (d_v 2) (fE (fE d_i (d_v 1)) (d_v 1))) (fE d_i (d_v 1))) d_i) d_i))
  (ai (s_a 4 dM.nd d_i)
  (ai (cy MH rfl (pL rfl T.bE (aa d_i af)) (g_n 5 dM.nd)
  (ai (s_a 3 dM.nd (fF (bw (bw (fE (d_v 3) d_i) (fE d_i (d_v 5))) d_i) d_i))
  (ai (s_a 3 dM.nd (fF (fE (d_v 3) (d_v 3)) d_i))
  (ak (s_a 4 dM.nd (bw (fE (d_v 4) d_i) (fF (bw (fE (d_v 3) d_i) (d_v 1)) d_i)))))))
  (ak (s_r (cX (aa (d_v 4) af))))))))))
theorem cU :
  aN P' w K mg base CX0 1 lq gC ["pool","many"] (spM cz):=by
 refine T.e_.ok AF (fun vs H Q E h=>jx h) (fun cdv A outer s H vs Q E hr h=>?_);exact ⟨_,(ai (s_a 2 AF.nd (fF (aJ (d_v 0) d_i) (d_v 1)))
  (ai (Dt 0 d_i (Dr (aJ (d_v 0) d_i) (d_v 1)))
  (ak (s_r (d_v 2))))),yL (n:=2) (m:=1) rfl h⟩
theorem HR :
  aN P' w K mg base CX0 2 lu gE ["pool","n","most"] (spM m8):=by
 refine T.Eo.ok bW (fun vs H Q E h=>jx h) (fun cdv A outer s H vs Q E hr h=>?_);exact ⟨_,(ai (s_a 3 bW.nd (bR (cU T) (Br.hm hr) rfl T.fK T.e_.kp T.dR (aa (d_v 0) (aa (bw (d_v 2) d_i) af))))
  (ai (s_a 4 bW.nd (bR (cU T) (Br.hm hr) rfl T.fK T.e_.kp T.dR (aa (d_v 0) (aa d_i af))))
  (ai (s_a 5 bW.nd (aJ (cX (aa d_i (aa d_i (aa (h_ d_i d_i) (aa d_i af))))) (d_v 4)))
  (ai (s_a 6 bW.nd (aJ (cX (aa d_i (aa (h_ d_i d_i) af))) (Dv rfl T.z4 (aa (Lp hr (d_v 4) d_i) af))))
  (ai (s_a 7 bW.nd (bR (cU T) (Br.hm hr) rfl T.fK T.e_.kp T.dR (aa (d_v 0) (aa d_i af))))
  (ai (s_a 8 bW.nd (fE (bR (cU T) (Br.hm hr) rfl T.fK T.e_.kp T.dR (aa (d_v 0) (aa (d_v 5) af))) (d_v 6)))
  (ai (s_a 9 bW.nd (cX af))
  (ai (cy MH rfl (pL rfl T.bE (aa (d_v 3) af)) (g_n 10 bW.nd)
  (ai (s_a 11 bW.nd (bR (cU T) (Br.hm hr) rfl T.fK T.e_.kp T.dR (aa (d_v 0) (aa (d_v 1) af))))
  (ai (s_a 12 bW.nd (bR (cU T) (Br.hm hr) rfl T.fK T.e_.kp T.dR (aa (d_v 0) (aa (d_v 1) af))))
  (ai (bQ (yi hr (d_v 7) d_i) (ak (s_a 12 bW.nd (fF (bw (d_v 11) d_i) (d_v 1)))) aZ)
  (ai (bQ (yi hr (d_v 7) d_i) (ak (s_a 12 bW.nd (fF (fF (bw (bw (d_v 11) (fF (d_v 12) d_i)) d_i) (jS rfl rfl T.qq (aa (d_v 1) (aa d_i af)))) (d_v 1)))) aZ)
  (ai (ue 9 (b_ (aa (d_v 8) (aa (jS rfl rfl T.qq (aa (d_v 11) (aa (d_v 12) af))) (aa (yl rfl rfl T.DY (aa (d_v 11) (aa (d_v 12) af))) af)))))
  (ak (s_a 8 bW.nd (bw (bw (d_v 8) d_i) (fE (bR (cU T) (Br.hm hr) rfl T.fK T.e_.kp T.dR (aa (d_v 0) (aa (d_v 5) af))) (d_v 6)))))))))))
  (ak (s_r (d_v 9))))))))))),yL (n:=3) (m:=10) rfl h⟩
theorem HS :
  aN P' w K mg base CX0 1 ly gF ["record","t"] (spD p8):=
 okQ T.Ep Hw fun _ _ _ _ _ _ hr=>(ak (s_r (eK 0 ["record","t"] ["tie"] (c_n 2 CY rfl rfl) (d_v 0) (fun _ _ _ _ _=>iJ (BI (aJ (d_v 2) d_i) (d_v 1))) (fun _ _ _ _ _=>(d_v 2)))))
theorem HU :
  aN P' w K mg base CX0 1 lz gG ["ties","side"] (spD uN):=
 okQ T.Er Hx fun _ _ _ _ _ _ hr=>(ak (s_r (eK 0 ["ties","side"] ["tie"] (c_n 2 CZ rfl rfl) (d_v 0) (fun _ _ _ _ _=>iJ (nQ hr (vH hr (aJ (d_v 2) d_i) (d_v 1)) (vH hr (aJ (d_v 2) d_i) (d_v 1)))) (fun _ _ _ _ _=>(aJ (d_v 2) d_i)))))
theorem HV :
  aN P' w K mg base CX0 1 lA gH ["n"] (spD uO):=
 okQ T.Es oH fun _ _ _ _ _ _ hr=>(ai (s_a 1 oH.nd (cX (aa (b_ af) af)))
  (ai (cy MH rfl (Jg rfl T.bE (aa d_i (aa (d_v 0) af))) (g_n 2 oH.nd)
  (ak (s_a 1 oH.nd (bw (d_v 1) (eK 1 ["n","found","place"] ["side"] (c_n 3 C0 rfl rfl) (d_v 1) (fun _ _ _ _ _=>dj) (fun _ _ _ _ _=>(Gs (d_v 3) (b_ (aa (d_v 2) af)))))))))
  (ak (s_r (Jj (d_v 1) (o_s d_i) o_n)))))
theorem HW :
  aN P' w K mg base CX0 2 lB gI ["n","ties","a","b"] (spD p9):=
 okQ T.Et oJ fun _ _ _ _ _ _ hr=>(ai (s_a 4 oJ.nd (ia rfl T.iA (aa (d_v 1) af)))
  (ai (cy MH rfl (i_S (aB (HV T) (Br.hm hr) rfl T.Ks T.Es.kp T.Au (aa (d_v 0) af))) (g_n 5 oJ.nd)
  (ak (bQ (nQ hr (vH hr (d_v 2) (d_v 5)) (vH hr (d_v 3) (d_v 5))) (ak (s_a 4 oJ.nd (jS rfl rfl T.qq (aa (d_v 4) (aa (ia rfl T.iA (aa (aB (HU T) (Br.hm hr) rfl T.Kr T.Er.kp T.As (aa (d_v 1) (aa (d_v 5) af))) af)) af))))) aZ)))
  (ak (s_r (d_v 4)))))
theorem HX :
  aN P' w K mg base CX0 3 lC gJ ["n","record","a","b","j"] (spD uP):=
 okQ T.Eu AG fun _ _ _ _ _ _ hr=>(ai (cy MH rfl (i_S (Jm (d_v 1))) (g_n 5 AG.nd)
  (ak (bQ (BI (aB (HW T) (Br.hm hr) rfl T.Ku T.Et.kp T.Aw (aa (d_v 0) (aa (aB (HS T) (Br.hm hr) rfl T.Kq T.Ep.kp T.Av (aa (d_v 1) (aa (aJ (d_v 5) d_i) af))) (aa (d_v 2) (aa (d_v 3) af))))) (d_v 4)) (ak (s_r (aJ (d_v 5) d_i))) aZ)))
  (ak (s_r (jQ d_i d_i))))
theorem AM :
  aN P' w K mg base CX0 11 lD gK ["net","a","b","j"] (spD m9):=
 okQ T.Ay AH fun _ _ _ _ _ _ hr=>(ai (s_a 4 AH.nd (aB (HQ T) (Br.hm hr) rfl T.Ko T.Em.kp T.Ax (aa (d_v 0) (aa (d_v 1) (aa (d_v 2) (aa (d_v 3) af))))))
  (ai (bQ (t_w (w_or (cY (cO (mJ kit_tuple (by rfl) rfl T.jB rfl T.bz (d_v 4)))) (pK (yi hr (aJ (d_v 4) d_i) d_s)))) (ak (s_r (jQ d_i d_i))) aZ)
  (ak (s_r (aJ (d_v 4) d_i)))))
theorem HY :
  aN P' w K mg base CX0 12 lE iX ["script"] (spD ko):=
 okQ T.KG bB fun _ _ _ _ _ _ hr=>(ai (cy MH rfl (LI rfl T.bE (aa d_i (aa (yl rfl rfl T.DY (aa d_i (aa (jS rfl rfl T.qq (aa (ia rfl T.iA (aa (d_v 0) af)) (aa d_i af))) af))) (aa d_i af)))) (g_n 1 bB.nd)
  (ai (s_a 2 bB.nd (aB (AL T) (Br.hm hr) rfl T.D4 T.Ar.kp T.u7 (aa (d_v 0) (aa (d_v 1) af))))
  (ai (s_a 3 bB.nd (aJ (cX (@aa _ _ _ _ _ d_i (@aa _ _ _ _ _ d_i (@aa _ _ _ _ _ d_i (@aa _ _ _ _ _ d_i (@aa _ _ _ _ _ d_i (@aa _ _ _ _ _ d_i (@aa _ _ _ _ _ d_i (@aa _ _ _ _ _ d_i af rfl) rfl) rfl) rfl) rfl) rfl) rfl) rfl)) (bR (cU T) (Br.hm hr) rfl T.fK T.e_.kp T.dR (aa (d_v 2) (aa d_i af)))))
  (ai (s_a 4 bB.nd (bw d_i (bR (cU T) (Br.hm hr) rfl T.fK T.e_.kp T.dR (aa (d_v 2) (aa d_i af)))))
  (ai (s_a 5 bB.nd (bw d_i (bR (cU T) (Br.hm hr) rfl T.fK T.e_.kp T.dR (aa (d_v 2) (aa (d_v 4) af)))))
  (ai (s_a 6 bB.nd (B_ (HR T) (Br.hm hr) rfl T.Kp T.Eo.kp T.AA (aa (aB (AL T) (Br.hm hr) rfl T.D4 T.Ar.kp T.u7 (aa (d_v 0) (aa (bw (d_v 1) d_i) af))) (aa (d_v 3) (aa (aJ (cX (aa d_i (aa d_i af))) (Dv rfl T.z4 (aa (Lu (d_v 3) d_i) af))) af)))))
  (ai (s_a 7 bB.nd (aB (HN T) (Br.hm hr) rfl T.Km T.Ek.kp T.Az (aa (d_v 3) (aa (d_v 6) (aa (d_v 4) af)))))
  (ai (s_a 8 bB.nd JK)
  (ai (cy MH rfl (pL rfl T.bE (aa (d_v 3) af)) (g_n 9 bB.nd)
  (ak (cy MH rfl (pL rfl T.bE (aa (d_v 3) af)) (g_n 10 bB.nd)
  (ak (bQ (nQ hr (d_v 9) (d_v 10)) (ai (Ci 8 hr (b_ (aa (d_v 9) (aa (d_v 10) af))) (aB (AM T) (Br.hm hr) rfl T.D5 T.Ay.kp T.u9 (aa (d_v 7) (aa (d_v 9) (aa (d_v 10) (aa (d_v 5) af))))))
  (ai (bQ (nQ hr (mX hr (d_v 8) (b_ (aa (d_v 9) (aa (d_v 10) af)))) (aB (HX T) (Br.hm hr) rfl T.Kv T.Eu.kp T.AB (@aa _ _ _ _ _ (d_v 3) (@aa _ _ _ _ _ (d_v 6) (@aa _ _ _ _ _ (d_v 9) (@aa _ _ _ _ _ (d_v 10) (@aa _ _ _ _ _ (d_v 5) af rfl) rfl) rfl) rfl) rfl))) (ak (s_r d_b)) aZ)
  (ak (bQ (t_w (w_and (BH (d_v 5) (d_v 4)) (ym (yj (aB (AM T) (Br.hm hr) rfl T.D5 T.Ay.kp T.u9 (aa (d_v 7) (aa (d_v 9) (aa (d_v 10) (aa (bw (d_v 5) d_i) af))))) (mX hr (d_v 8) (b_ (aa (d_v 9) (aa (d_v 10) af)))))))) (ak (s_r d_b)) aZ)))) aZ)))))
  (ak (cy MH rfl (i_S (Cj rfl rfl T.oF (aa (d_v 8) af))) (g_t rfl (bh 9 bB.nd (bh 10 bB.nd iI)))
  (ak (cy MH rfl (pL rfl T.bE (aa (d_v 3) af)) (g_n 11 bB.nd)
  (ai (s_a 12 bB.nd (mX hr (d_v 8) (b_ (aa (d_v 9) (aa (d_v 10) af)))))
  (ai (bQ (Je hr (d_v 11) (b_ (aa (d_v 9) (aa (d_v 10) af)))) (ak (s_a 12 bB.nd (jS rfl rfl T.qq (aa (mX hr (d_v 8) (b_ (aa (d_v 9) (aa (d_v 11) af)))) (aa (mX hr (d_v 8) (b_ (aa (d_v 11) (aa (d_v 10) af)))) af))))) aZ)
  (ak (bQ (BH (mX hr (d_v 8) (b_ (aa (d_v 9) (aa (d_v 10) af)))) (d_v 12)) (ak (s_r d_b)) aZ)))))))))))))))))
  (ak (s_r d_b)))
end
theorem all_mk{l:ON}{w:World}{K:gc}{h:Heap}{mg:Str->Option Value}{fa sN sO sP sQ sS sU sV sW sX sY kF kG kH kI kJ kK kL kM kO kQ kR kT kU kW kX kY kZ k7 k8 k9 k_ lg lq lu ly lz lA lB lC lD lE:Addr}{lF lG lH lI lJ lK lM lO lQ lR fZ f6 f7 f9 f_ gb gf gg gh gj gk gm gn gp gq gu gv gw gx gy gA gB gC gE gF gG gH gI gJ gK iX:FuncData}(X:K.In h)(G:h.Ns mainGlobals mg)(hfa:mg "law" = some (.ref fa))
  {iB:Tok}
  (AO:aR K "steps_of" (top 3) sN lF)
  (AQ:aR K "free_steps" (top 4) sO lG)
  (AR:aR K "led_steps" (top 5) sP lH)
  (AS:aR K "shortest_ways" (top 6) sQ lI)
  (AU:aR K "lead_along" (top 7) sS lJ)
  (AV:aR K "parted" (top 8) sU lK)
  (AW:aR K "ways_apart" (top 1) sV lM)
  (AX:aR K "hang_often" (top 2) sW lO)
  (AY:aR K "is_whole" (top 15) sX lQ)
  (AZ:aR K "is_within" (top 16) sY lR)
  (qy:aR K "is_places" (top 17) kF fZ)
  (qz:aR K "is_place" (top 18) kG f6)
  (qA:aR K "is_layers" (top 19) kH f7)
  (qB:aR K "is_moment" (top 20) kI f9)
  (qC:aR K "is_tie_either_way" (top 21) kJ f_)
  (qD:aR K "is_tie" (top 22) kK gb)
  (qE:aR K "is_rising" (top 23) kL gf)
  (qF:aR K "is_pair" (top 24) kM gg)
  (qG:aR K "look_at_layers" (top 25) kO gh)
  (qH:aR K "look_at_pair" (top 26) kQ gj)
  (qI:aR K "merged" (top 28) kR gk)
  (qJ:aR K "least_layer" (top 31) kT gm)
  (qK:aR K "layered" (top 30) kU gn)
  (qL:aR K "is_record" (top 34) kW gp)
  (qM:aR K "since" (top 35) kX gq)
  (qN:aR K "is_net" (top 37) kY gu)
  (qO:aR K "look_at_net" (top 38) kZ gv)
  (qP:aR K "look_at_net_layers" (top 39) k7 gw)
  (qQ:aR K "net_of" (top 40) k8 gx)
  (qR:aR K "latest" (top 43) k9 gy)
  (qS:aR K "when" (top 42) k_ gA)
  (qT:aR K "_law_pool" (top 45) lg gB)
  (qU:aR K "_law_take" (top 46) lq gC)
  (qV:aR K "_law_record" (top 48) lu gE)
  (qW:aR K "_law_since" (top 50) ly gF)
  (qX:aR K "_law_rim" (top 53) lz gG)
  (qY:aR K "_law_sides" (top 57) lA gH)
  (qZ:aR K "_law_hang" (top 58) lB gI)
  (q_:aR K "_law_due" (top 59) lC gJ)
  (rj:aR K "_law_told" (top 60) lD gK)
  (nq:aR K "law" (top 61) lE iX)
  (A0:MP K mainGlobals "all" = some none)
  (tu:MP K mainGlobals "bool" = some none)
  (tw:MP K mainGlobals "dict" = some none)
  (ff:MP K mainGlobals "enumerate" = some none)
  (A1:MP K mainGlobals "int" = some none)
  (dN:MP K mainGlobals "isinstance" = some none)
  (A2:MP K mainGlobals "len" = some none)
  (tE:MP K mainGlobals "list" = some none)
  (A3:MP K mainGlobals "max" = some none)
  (A4:MP K mainGlobals "min" = some none)
  (oM:MP K mainGlobals "range" = some none)
  (gO:MP K mainGlobals "reversed" = some none)
  (lU:MP K mainGlobals "sorted" = some none)
  (oN:MP K mainGlobals "tuple" = some none)
  (A5:MP K mainGlobals "zip" = some none)
  (fh:MP K mainGlobals "MOST_TIES" = some (some (.int 60 iB))) :
  ∃fd:FuncData,(∀(s:Shared) (v:Value),BindsTo s fd ⟨[v],[]⟩ [("script",v)])/\∀base:Heap,K.In base->base.Ns mainGlobals mg->aN l.prog w K mg base CX0 12 fa fd ["script"] (spD ko):=by
 have e:=hfa.symm.trans (nq.m X G);cases e;have GR:=AO.F.bF (ps:=["n","ties"]) rfl fun _ _ _ _ _ _ _ _=>rfl;have GS:=AQ.F.bF (ps:=["steps","heads"]) rfl fun _ _ _ _ _ _ _ _=>rfl;have GQ:=AR.F.bF (ps:=["steps","heads"]) rfl fun _ _ _ _ _ _ _ _=>rfl;have CO:=AS.F.bF (ps:=["steps","a"]) rfl fun _ _ _ _ _ _ _ _=>rfl;have GU:=AU.F.bF (ps:=["heads","way"]) rfl fun _ _ _ _ _ _ _ _=>rfl;have GV:=AV.F.j9 (ps:=["steps","heads","a","b","count"]) rfl fun _ _ _ _ _ _ _ _ _ _ _=>rfl;have wN:=AW.F.j9 (ps:=["n","ties","a","b","most"]) rfl fun _ _ _ _ _ _ _ _ _ _ _=>rfl;have CP:=AX.F.j9 (ps:=["n","ties","a","b","times"]) rfl fun _ _ _ _ _ _ _ _ _ _ _=>rfl;have GX:=AY.F.dG (ps:=["thing"]) rfl fun _ _ _ _ _ _ _=>rfl;have sZ:=AZ.F.eS (ps:=["thing","low","high"]) rfl fun _ _ _ _ _ _ _ _ _=>rfl;have Ag:=qy.F.dG (ps:=["thing"]) rfl fun _ _ _ _ _ _ _=>rfl;have nj:=qz.F.bF (ps:=["n","thing"]) rfl fun _ _ _ _ _ _ _ _=>rfl;have uZ:=qA.F.dG (ps:=["thing"]) rfl fun _ _ _ _ _ _ _=>rfl;have z_:=qB.F.dG (ps:=["thing"]) rfl fun _ _ _ _ _ _ _=>rfl;have Aa:=qC.F.bF (ps:=["n","thing"]) rfl fun _ _ _ _ _ _ _ _=>rfl;have Ah:=qD.F.bF (ps:=["n","thing"]) rfl fun _ _ _ _ _ _ _ _=>rfl;have Ai:=qE.F.dG (ps:=["things"]) rfl fun _ _ _ _ _ _ _=>rfl;have Ab:=qF.F.eS (ps:=["n","a","b"]) rfl fun _ _ _ _ _ _ _ _ _=>rfl;have Ac:=qG.F.dG (ps:=["k"]) rfl fun _ _ _ _ _ _ _=>rfl;have An:=qH.F.eS (ps:=["n","a","b"]) rfl fun _ _ _ _ _ _ _ _ _=>rfl;have Ad:=qI.F.eS (ps:=["groups","a","b"]) rfl fun _ _ _ _ _ _ _ _ _=>rfl;have Ae:=qJ.F.eS (ps:=["layers","a","b"]) rfl fun _ _ _ _ _ _ _ _ _=>rfl;have u5:=qK.F.eS (ps:=["n","record","k"]) rfl fun _ _ _ _ _ _ _ _ _=>rfl;have Ak:=qL.F.bF (ps:=["n","thing"]) rfl fun _ _ _ _ _ _ _ _=>rfl;have u6:=qM.F.bF (ps:=["record","t"]) rfl fun _ _ _ _ _ _ _ _=>rfl;have Al:=qN.F.dG (ps:=["thing"]) rfl fun _ _ _ _ _ _ _=>rfl;have Am:=qO.F.dG (ps:=["thing"]) rfl fun _ _ _ _ _ _ _=>rfl;have Ao:=qP.F.bF (ps:=["net","j"]) rfl fun _ _ _ _ _ _ _ _=>rfl;have Az:=qQ.F.eS (ps:=["n","record","k"]) rfl fun _ _ _ _ _ _ _ _ _=>rfl;have Aq:=qR.F.j9 (ps:=["n","ties","a","b","j"]) rfl fun _ _ _ _ _ _ _ _ _ _ _=>rfl;have Ax:=qS.F.sj (ps:=["net","a","b","j"]) rfl fun _ _ _ _ _ _ _ _ _ _=>rfl;have u7:=qT.F.bF (ps:=["script","k"]) rfl fun _ _ _ _ _ _ _ _=>rfl;have dR:=qU.F.bF (ps:=["pool","many"]) rfl fun _ _ _ _ _ _ _ _=>rfl;have AA:=qV.F.eS (ps:=["pool","n","most"]) rfl fun _ _ _ _ _ _ _ _ _=>rfl;have Av:=qW.F.bF (ps:=["record","t"]) rfl fun _ _ _ _ _ _ _ _=>rfl;have As:=qX.F.bF (ps:=["ties","side"]) rfl fun _ _ _ _ _ _ _ _=>rfl;have Au:=qY.F.dG (ps:=["n"]) rfl fun _ _ _ _ _ _ _=>rfl;have Aw:=qZ.F.sj (ps:=["n","ties","a","b"]) rfl fun _ _ _ _ _ _ _ _ _ _=>rfl;have AB:=q_.F.j9 (ps:=["n","record","a","b","j"]) rfl fun _ _ _ _ _ _ _ _ _ _ _=>rfl;have u9:=rj.F.sj (ps:=["net","a","b","j"]) rfl fun _ _ _ _ _ _ _ _ _ _=>rfl;refine⟨_,fun s v=>nq.LK (fun _ _ _ _ _ _ _=>rfl) s v,fun base Xb _=>?_⟩;have T:Txt mg K base ..:=⟨mno X G A0,mno X G tu,mno X G tw,mno X G ff,mno X G A1,mno X G dN,mno X G A2,mno X G tE,mno X G A3,mno X G A4,mno X G oM,mno X G gO,mno X G lU,mno X G oN,mno X G A5,⟨_,mgo X G fh⟩,AO.m X G,AQ.m X G,AR.m X G,AS.m X G,AU.m X G,AV.m X G,AW.m X G,AX.m X G,AY.m X G,AZ.m X G,qy.m X G,qz.m X G,qA.m X G,qB.m X G,qC.m X G,qD.m X G,qE.m X G,qF.m X G,qG.m X G,qH.m X G,qI.m X G,qJ.m X G,qK.m X G,qL.m X G,qM.m X G,qN.m X G,qO.m X G,qP.m X G,qQ.m X G,qR.m X G,qS.m X G,qT.m X G,qU.m X G,qV.m X G,qW.m X G,qX.m X G,qY.m X G,qZ.m X G,q_.m X G,rj.m X G,nq.m X G,AO.F,AQ.F,AR.F,AS.F,AU.F,GQ,CO,AV.F,GR,GS,GU,GV,AW.F,wN,AX.F,AY.F,GX,AZ.F,sZ,qy.F,qz.F,qA.F,qB.F,nj,z_,qC.F,Aa,qD.F,qE.F,qF.F,uZ,qG.F,Ab,qH.F,qI.F,qJ.F,Ac,Ad,Ae,qK.F,Ag,Ah,Ai,qL.F,qM.F,u5,Ak,qN.F,Al,qO.F,Am,qP.F,qQ.F,CP,qR.F,An,u6,Ao,Aq,qS.F,qT.F,qU.F,dR,qV.F,qW.F,qX.F,qY.F,As,Au,qZ.F,Av,Aw,q_.F,Ax,rj.F,Az,u7,AA,AB,u9,nq.F⟩
 exact HY T
theorem walk{l:ON}{q:Program}{loose:List Str}{XP:(Str->Option Value)->Heap->Prop}{YP:World->Heap->Prop}{d:DefRec}{K:Params->gc}(hn:l.most=some 63)(hdf:d.params.defaults=[])
  (hY:∀(w:World) (h:Heap),YP w h->(K w.params).In h) (M:∀ns:List Int,ns.length<=63->ko [.lst (ns.map Dat.int)]=some (.val (.bl true))) (hK:∀w:World,yu (K w.params)=true)
  (F:∀ (w:World) (mg:Str→Option Value) (fa:Addr) (h:Heap),(K w.params).In h→h.Ns mainGlobals mg→mg d.name=some (.ref fa) →
   ∃fd:FuncData,(∀(s:Shared) (u:Value),BindsTo s fd ⟨[u],[]⟩ [("script",u)])/\∀base:Heap,(K w.params).In base->base.Ns mainGlobals mg->aN l.prog w (K w.params) mg base CX0 12 fa fd ["script"] (spD ko)) :
  PySem.W.WalkO q loose XP YP l.row.toRowW d [] (fun f vs=>PySem.call f vs):=
 L2.Bk (n:=63) (k:=12) (x := "script") (CX:=fun _=>CX0) (sp:=fun _=>spD ko) hn (by decide) hdf ⟨rfl,by decide,by decide,rfl⟩ hY F
  (fun w H a ns hl hO hS=>F0 (M ns hl) (hK w) hS) fun _ _ _ _ _ z=>z
open PySem PySem.W PySem.W.X
theorem A6{q:Program}{loose:List Str}{XP:(Str->Option Value)->Heap->Prop}{r:RowW}{d:DefRec}{kwd:List (Str×Expr)}{run:Value->List Value->Sem Value}{K:Params->Frag}{as:List Addr}{n t:Nat}(e:∀P,as=(K P).map (·.1))
  (W:WalkO q loose XP (fun w h=>(K w.params).In h) r d kwd run):WalkX q loose XP (obsZ as) (valZ K n t) r d kwd run:=
 fun w s₀ s₁ mg mb G y a o pm cd doc dV kV ho hd JO hD hmg hg args vals as' L=>W w s₀ s₁ mg mb G (InK.keeps w _ _ (z_facts e y).2.1 L.keeps) a o pm cd doc dV kV ho hd JO hD hmg hg args vals as'
end Q
noncomputable def PySem.W.Fast.tw9631881395905068978:PySem.Program:=PySem.Challenge.pw_sinceply_k38_whole_times_of_the_record
theorem PySem.W.Fast.te9631881395905068978:PySem.Challenge.pw_sinceply_k38_whole_times_of_the_record=PySem.W.Fast.tw9631881395905068978:=rfl
namespace PySem.W.Fast
def tw15398887735884329073:=0
def tw15525445438439202616:=0
def tw14652543046361018985:=0
def tw15466730189283278244:=0
def tw16069637731335223670:=0
def tw9988968754758487665:=0
def tw9641662908769120197:=0
def tw7000921762022667525:=0
def tw7595837857981773962:=0
def tw11575024533222515360:=0
def tw16551926532655660379:=0
def tw8037025522151561966:=0
def tw14208099590493431032:=0
def tw8953952547725661303:=0
def tw12433250840784842833:=0
def tw1648249007216516530:=0
def tw13504846711566472455:=0
def tw4513900109104294812:=0
def tw12964124149446259679:=0
def tw5407742526357333981:=0
def tw18284911842236530683:=0
def tw3440585991262397897:=0
def tw17580942966656252093:=0
def tw16285321204441243975:=0
def tw2502393119199245758:=0
def tw13453763032809721079:=0
def tw11073182095177178923:=0
def tw17863427275927085404:=0
def tw14201857764986860411:=0
def tw7727365428663732075:=0
def tw2091170419207656243:=0
def tw9200119430574742049:=0
def tw1423468989204920067:=0
def tw8592490266324754107:=0
def tw1340356687296466264:=0
def tw15043328543717905505:=0
def tw16946472035326522689:=0
def tw10336178176766464659:=0
def tw3826756202382506213:=0
def tw14025679840953985037:=0
def tw17163165458372198705:=0
def tw14471964397384792963:=0
def tw5909146538416857654:=0
def tw4316805476378039293:=0
def tw4488443718464751960:=0
def tw9656394058556393157:=0
def tw11461831126016267317:=0
def tw13474450923984144578:=0
def tw14369258780718034492:=0
def tw6079570520062629424:=0
def tw3295598085570944703:=0
def tw8812844769719631891:=0
def tw17888866737753842953:=0
def tw12049947297798549282:=0
def tw9534056395245600617:=0
def tw15386868974769874351:=0
def tw9375297869274356704:=0
def tw5661895690118667325:=0
def tw6140283682707497838:=0
def tw14033083164832309848:=0
def tw17240494095594953523:=0
def tw4535414795989311382:=0
def tw9744482208637462869:=0
def tw173665914665109179:=0
def tw16571842654445351111:=0
def tw12447045576454101160:=0
def tw16686491076710009021:=0
def tw13535507245618362143:=0
def tw11692105553299919202:=0
def tw17118674374573954460:=0
def tw10263724024946778267:=0
def tw2399794605722515393:=0
def tw9178645937792777050:=0
def tw15763404048296245486:=0
def tw16078722581535527741:=0
def tw4976545469774739076:=0
def tw7075114238154262559:=0
def tw2063832553439411159:=0
def tw12581222511409953247:=0
def tw11093432264677841691:=0
def tw8844690435539415647:=0
def tw2507744716567516402:=0
def tw12286130573449225232:=0
def tw12590582784554277432:=0
def tw16268430691299799534:=0
def tw8299918872453523522:=0
def tw14605621516640167815:=0
def tw10538026399961097849:=0
def tw2636151431552135539:=0
def tw18414834313127912777:=0
def tw2309549207581869639:=0
def tw11532407107385310566:=0
def tw2437540097665011451:=0
def tw790082325999427532:=0
def tw8208651674728569534:=0
def tw6259672758916907855:=0
def tw8303609404358620331:=0
def tw13469643861885435557:=0
def tw6117683543844964241:=0
def tw728749169775870334:=0
def tw6450876447436387849:=0
def tw18300549374444815774:=0
def tw3489131636993117024:=0
def tw9437717178090614710:=0
def tw18112738403217059583:=0
def tw8500208734034761595:=0
def tw17750607530716665143:=0
def tw11382834168224266439:=0
def tw1988467916690556349:=0
def tw8940904234009750803:=0
def tw10705901390585460271:=0
def tw10140466071241208354:=0
def tw2083620202954512286:=0
def tw12571559819132129603:=0
def tw15771611070901690541:=0
def tw10611629344121489676:=0
def tw17913264723852136390:=0
def tw14838772033886139531:=0
def tw11333263496221931578:=0
def tw8997532196072682402:=0
def tw9047876765540116952:=0
def tw17901533711596100498:=0
def tw4238066421491796980:=0
def tw15201933200600360481:=0
def tw5823839550804937288:=0
def tw10294406291728410510:=0
def tw14902167230431762569:=0
def tw17856573520554880252:=0
def tw14090742142100918060:=0
def tw13948409321522271203:=0
def tw6242673363018334895:=0
def tw17253441267182275992:=0
def tw3814307442699010719:=0
def tw9197379194631443572:=0
def tw3272877082944582629:=0
def tw17306123401491413454:=0
def tw4710677363782663607:=0
def tw5244372509586539729:=0
def tw9167635537090920788:=0
def tw43910541384775399:=0
def tw10268168080064702337:=0
def tw4333435642252964678:=0
def tw2748371058410475155:=0
def tw17082912243549866974:=0
def tw14549565644108914718:=0
def tw16766764079841095296:=0
def tw6699283206287131865:=0
def tw7402661740804727087:=0
def tw16544756584475695553:=0
def tw16099858989455400411:=0
def tw2563081380468699510:=0
def tw12189128777914529611:=0
def tw17300038319406357140:=0
def tw16629026520727384816:=0
def tw4927140597413178606:=0
def tw10620363747568552925:=0
def tw18115664043052163650:=0
def tw2693039967368794502:=0
def tw650428156729086002:=0
def tw7314870986043907622:=0
def tw8073077185271656931:=0
def tw15025400698049732103:=0
def tw2134005777797155738:=0
def tw11955456121467200723:=0
def tw4362797331298193874:=0
def tw5589126377797498755:=0
def tw16096924702548079324:=0
def tw11790568561040993534:=0
def tw17651954597713582519:=0
def tw1135158121537349764:=0
def tw4981061288137705025:=0
def tw15153269305419047580:=0
def tw4406550979978055825:=0
def tw14529185591148170797:=0
def tw14259740821550250310:=0
def tw9793666162541806513:=0
def tw5514580379864596872:=0
def tw16313913580640302366:=0
def tw2009852084621768303:=0
def tw9979930149655708298:=0
def tw8104019740671251516:=0
def tw3732091493135178120:=0
def tw16917486839740134345:=0
def tw14148522461854240736:=0
def tw14387750961248622929:=0
def tw2861238593222559918:=0
def tw13629122878335555709:=0
def tw7208786043708996758:=0
def tw8499962569307457473:=0
def tw4034056617048417544:=0
def tw11974625626079302565:=0
def tw11927253578010874041:=0
def tw2476117259324965321:=0
def tw5586094405142576968:=0
def tw5872924334843145523:=0
def tw6973261834808554427:=0
def tw5613130607064949125:=0
def tw8553643137059967260:=0
def tw6501472731841209836:=0
def tw3641549242806514363:=0
def tw16435385723792129901:=0
def tw16406640434533390404:=0
def tw11132027445285846446:=0
def tw13767695193247566946:=0
def tw18010183659307042243:=0
def tw3612651449387789762:=0
def tw12287729088221614546:=0
def tw12328417473062449252:=0
def tw15453794527228266939:=0
def tw16586457467105716538:=0
def tw7435701318399220870:=0
def tw7510441966872611367:=0
def tw688029627234069219:=0
def tw11795353068605675606:=0
def tw1312728176830539089:=0
def tw14604545366411505713:=0
def tw12518412978119197632:=0
def tw7533992980385419066:=0
def tw6922067969855263198:=0
def tw6089441820232949319:=0
def tw6526913368815902614:=0
def tw9337111792363261185:=0
def tw3018682527628388571:=0
def tw17890484793147246536:=0
def tw10383869506421973748:=0
def tw4347444100473253272:=0
def tw337854768490332718:=0
def tw10985054352104849862:=0
def tw15612872831217173185:=0
def tw16983918583814932707:=0
def tw10837648116240993041:=0
def tw15272671221963790065:=0
def tw11775994451053899118:=0
def tw7204493264146161655:=0
def tw13080507040628894083:=0
def tw3378975657251756797:=0
def tw10181013134882508197:=0
def tw4274517261902283318:=0
def tw10782566363378870486:=0
def tw3798942850052818549:=0
def tw387964874660748349:=0
def tw2020504653464769765:=0
def tw15555832613660046599:=0
def tw12834287660479271758:=0
def tw7462370069902654454:=0
def tw9024294982036267751:=0
def tw1259632992675865886:=0
def tw2598814804794403629:=0
def tw10542493834570623284:=0
def tw811128321739298169:=0
def tw17825573399196952949:=0
def tw16757047197029961740:=0
def tw10657409409688882556:=0
def tw3807866490066237750:=0
def tw7308593425271738081:=0
def tw6573333498024035825:=0
def tw10468373571616353061:=0
def tw14690417112927486942:=0
def tw9404573107815499511:=0
def tw6835878507719289562:=0
def tw3569186251136810393:=0
def tw10026811893529732827:=0
def tw3764353970062283472:=0
def tw9483193273342988426:=0
def tw18081595980732625487:=0
def tw3579384581686492529:=0
def tw12763861511872725366:=0
def tw17417672976187713104:=0
def tw14397769214075205011:=0
def tw5762465436086670690:=0
def tw12153357105869897578:=0
def tw5072218195896194526:=0
def tw12935045656117973040:=0
def tw8207167744279124943:=0
def tw3682644030451389156:=0
def tw648611311208603229:=0
def tw9120188330852311983:=0
def tw12511966322030515244:=0
def tw12456534132607921374:=0
def tw14441706001282153134:=0
def tw6446802752986230807:=0
def tw10864759939107242993:=0
def tw834540899486958834:=0
def tw15222089837434250823:=0
def tw13367946227423141237:=0
def tw17981875005368792270:=0
def tw133530269961840429:=0
def tw15838124296981610279:=0
def tw17547340168824599100:=0
def tw17985643003811715140:=0
def tw15136950326700922385:=0
def tw16239803220411514864:=0
def tw15274737039407800607:=0
def tw14415598365070895129:=0
def tw6302470363848293004:=0
def tw3825072441721668316:=0
def tw15989342225705663808:=0
def tw13715472376254144795:=0
def tw12945755460879509337:=0
def tw6958545909371180744:=0
def tw1886303985546599047:=0
def tw17449053753603979690:=0
def tw4703842268070884325:=0
def tw16983463270493833171:=0
def tw14706033802254278324:=0
def tw11887432180066820134:=0
def tw13856273441297319926:=0
def tw8944565476887791399:=0
def tw16287406851927051331:=0
def tw12023143375252544965:=0
def tw6256300229169756927:=0
def tw3718269503342273506:=0
def tw4224885626430849880:=0
def tw2824069571864708386:=0
def tw6888995629493682714:=0
def tw1994185155488257466:=0
def tw6267545199865061451:=0
def tw6495609848640240098:=0
def tw916695471066312400:=0
def tw11480868624501073441:=0
def tw6951179260770290575:=0
def tw10694829880599940115:=0
def tw3708774630927209471:=0
def tw13326984853848827866:=0
def tw498133005240140145:=0
def tw15464302977714799971:=0
def tw12032932578380971049:=0
def tw14501370263799923391:=0
def tw5804938836454482776:=0
def tw707967777474453985:=0
def tw568713786810810756:=0
def tw11278370571570549784:=0
def tw10592362601519242735:=0
def tw7065155406215375421:=0
def tw10683957105667905099:=0
end PySem.W.Fast
open PySem PySem.W PyProof.Rows
set_option maxRecDepth 100000 in
set_option maxHeartbeats 0 in
theorem PySem.Challenge.cw_sinceply_k38_whole_times_of_the_record_holds : PySem.Challenge.rw_sinceply_k38_whole_times_of_the_record.Holds := by
 w_on;o_law;z_head;(case hw=>w_witness2)
 k_fill
 refine' Q.A6 (fun _=>rfl) (Q.walk (l:=PySem.Challenge.rw_sinceply_k38_whole_times_of_the_record) rfl rfl (fun w h Y=>Y) P.math ?noL ?fnS)
 case noL=>intro w;rfl
 case fnS=>
  intro w mg fa h KX G hmg
  refine' Q.all_mk KX G hmg ?AO ?AQ ?AR ?AS ?AU ?AV ?AW ?AX ?AY ?AZ ?qy ?qz ?qA ?qB ?qC ?qD ?qE ?qF ?qG ?qH ?qI ?qJ ?qK ?qL ?qM ?qN ?qO ?qP ?qQ ?qR ?qS ?qT ?qU ?qV ?qW ?qX ?qY ?qZ ?q_ ?rj ?nq ?A0 ?tu ?tw ?ff ?A1 ?dN ?A2 ?tE ?A3 ?A4 ?oM ?gO ?lU ?oN ?A5 ?fh
  case AO|AQ|AR|AS|AU|AV|AW|AX|AY|AZ|qy|qz|qA|qB|qC|qD|qE|qF|qG|qH|qI|qJ|qK|qL|qM|qN|qO|qP|qQ|qR|qS|qT|qU|qV|qW|qX|qY|qZ|q_|rj|nq=>refine' Br.aF ?e ?l ?c ?k;(case e=>k_is);(case l=>k_is);(case c=>k_is);(case k=>k_is)
  case A0|tu|tw|ff|A1|dN|A2|tE|A3|A4|oM|gO|lU|oN|A5|fh=>k_is
end
