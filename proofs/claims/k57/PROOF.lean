import PyProof.Rows.All
import Wide.All
import OpenK.AllK
import Wide.FinOn
import Lean
import PyProof.EqAt
import PyProof.EqKinds
import PyProof.TupleCall
import KE.KRevIter
import PyProof.EnumMake
import PyProof.EnumFor
import PyProof.ListRange
import PyProof.Rows.Range3
import PyProof.ZipIter
import PyProof.SumWalk
import PyProof.WalksMore
import PyProof.Rows.SetFrom
import PyProof.SetRoads
import PyProof.Rows.SortRunsK
import PyProof.Rows.SortWalk
import KE.KSortTup
import PyProof.Rows.Own
import PyProof.StationsW
import OpenK.KRaise
import KE.KIsAll
import PyProof.ExcArgsOwn
import PyProof.RulesAs
import PyProof.Ns1
import PyProof.Rows.Catch
import OpenK.KOwn
import PyProof.ExcBaseAll.ValueError
import KE.KDictSum
import PyProof.AttrMiss
import PyProof.IsiH_list
import KE.KDictOf
import PyProof.DictList
import KE.KDictList
import PyProof.FactsAll.set
import PyProof.Rows.TupAdd
import KE.KDictMeth
import PyProof.DictWalks
import PyProof.TupleKey
import PyProof.DictStraight
import PyProof.IsRules
import KE.KRevSl
import PyProof.Rows.CallKwBuiltin
import PyProof.Rows.SortShell
import KE.KSortKey
import KE.KLam
import KE.KNestM
import PyProof.CallStr
import OpenK.KMake
import PyProof.ExcClass2
import PyProof.InstStoreFacts
import OpenK.KCls
import PyProof.DictRoadsH
import PyProof.DictUpdate
import PyProof.DictCopy
import PyProof.MeetsDictList
import PyProof.FactsAll.tuple_1
import PyProof.TupleOfSeq
import KE.KSortAsk
import PyProof.Rows.StrLawsPart
import PyProof.StrLawsChain
import PyProof.StrBlockL
import PyProof.SliceStr2
import PyProof.StrOps2
import PyProof.StrWalks
import PyProof.StrCalls2
import KE.KIntText
import KE.IntTextLaws
import PyProof.Rows.FStrParts
import PyProof.Rows.StrIntSpec
import PySem.Challenge.RW_sinceply_k57_nets_misread
open Array renaming length_toList→OP,find?_toList→OV
open Bool renaming not_false→MG,not_true→MH,and_eq_true→MY,false_ne_true→Nh,eq_iff_iff→Oh,false_eq_true→OX,eq_false_iff→Pe,or_eq_true→Pr
open Classical renaming choose_spec→OE
open False renaming elim→MX
open ForInStep renaming yield→NG
open Int renaming toNat_natCast→NF,toNat_of_nonneg→Of,le_trans→OO
open List renaming replicate→gc,length_cons→gV,getElem?_cons_succ→Dk,getElem?_cons_zero→Dp,length_nil→Mt,map_cons→Mu,nil_append→Mw,set_cons_zero→Mx,set_cons_succ→My,cons_append→Mz,length_append→MA,getElem?_nil→MB,getElem?_set_ne→MC,mem_cons_of_mem→MK,map_nil→ML,mem_cons_self→MM,set_nil→MN,length_map→MP,getElem?_eq_some_iff→MT,getElem?_append_left→MU,mem_cons→MV,size_toArray→MW,getElem?_map→M0,all_eq_true→M3,mem_singleton→M4,getElem?_append_right→M5,getElem?_eq_getElem→M7,getElem?_set_self→M8,mem_append→Nf,range→Ni,getElem?_replicate→Nj,append_nil→Nl,mem_append_right→Nm,lookup_cons→Nn,getD_eq_getElem?_getD→Np,length_set→Nr,map_map→Nv,replicate_succ→Nx,append_assoc→Ny,mem_map→NB,length_take→NJ,length_drop→NK,not_mem_nil→NL,getElem?_eq_none→NN,map_append→NO,flatten_cons→NP,getElem?_set→NW,mem_of_getElem?→NX,drop_eq_getElem_cons→NY,filterMap_cons→N1,length_reverse→N2,length_replicate→N7,set_append_right→Oa,getElem_mem→Ob,getElem?_range→Oc,map_congr_left→Oe,of_mem_zip→Og,isPrefixOf→Oi,mem_filterMap→Om,getElem?_take_of_lt→Oo,eq_of_mem_replicate→Ot,length_range→Ox,range_succ_eq_map→OA,length_singleton→OC,getElem?_reverse→OD,mem_filter→OG,mem_append_left→OH,nodup_cons→OJ,forIn_cons→OM,filter_eq_self→OQ,mem_range→OS,getElem?_drop→OZ,zip_cons_cons→O3,pairwise_cons→O4,all_cons→O6,sum_cons→Pa,reverse_cons→Pd,drop_length→Pj,map→Pk,foldl_cons→Pp,find?_cons→Pu,drop_drop→PC,take_left→PD,all_map→PK,foldl→PN
open Nat renaming reduceAdd→MI,zero_add→MJ,le_refl→MO,le_of_ble_eq_true→MQ,lt_of_lt_of_le→MZ,le_trans→M6,ne_of_lt→Nb,zero_le→Nc,lt_irrefl→Nz,ne_of_gt→NZ,le_of_lt→Ol,not_lt→OL,lt_of_le_of_lt→OW,log2_lt→Px,le_succ→Py,add_comm→PJ
open Ne renaming symm→Nt
open Option renaming map_some→ME,map_none→MF,isSome_iff_exists→Ng
open PyProof.Rows renaming callWith_type1→Na,boot_isinstance→NT
open PySem.Builtin.List renaming listExtendWith→NU,listTooLong→Oq
open PySem.Builtin.Range renaming rangeSize→NQ
open PySem.Builtin.Str renaming occurrences→NR
open PySem.Calls renaming spliced_nil→N4
open PySem.Data renaming cell→OU,fields→Pw
open PySem.F renaming slot_str_split→OB,args_str_split_2→O0,entry_str_split→Pg
open PySem.Heap renaming get?_push_of_some→MR,lt_size→MS,get?_push_size→M9,get?_update_self→N8,get?_update_other→Oz,SameBut→OI,size_push→PB
open PySem.NameKind renaming cell→PF
open PySem.NumText renaming digitsVal→Ow
open PySem.Obj renaming dropNameByArray→Od,mapSeq→Ov,dropName_eq→ON
open PySem.PassesOwn renaming never→NC
open PySem.PyData renaming eqv→ND,depthAll→NH,showable→N3,hasDict→N9,showableAll→OY,eqvAll→O5,canLayAll0→Pc,hasDictAll→Pf
open PySem.Value renaming ref→Nq,str→Oj,type→Ou,builtin→O7,isStr→PL,bool→PM,int→PR
open PySem.W renaming Frag→Mv,nsIn→M1,kitOne→Nd,fnOf→Nk,kia_one→Nu,kitAny→NI,findIn→NS,mroIn→NV,keepIn→N6,codeIn→OT,clsIn→O8,excIn→O9,methodObj→Pb,instObj→Pn,hideAll→Po,OpenLaw→Pq,lookIn→Pz
open Sum renaming inl→N5,inr→OR
open True renaming intro→Ph
noncomputable section
set_option Elab.async false
set_option linter.all false

set_option maxRecDepth 100000
local macro_rules|`(tactic|trivial)=>`(tactic|first|exact Or.inl rfl|exact Or.inr rfl|exact Or.inr (Or.inl rfl)|exact Or.inr (Or.inr rfl)|assumption)
local macro_rules|`(tactic|and_intros)=>`(tactic|dsimp only[List.map,List.replicate,List.cons_append,List.nil_append])
namespace L2
open PySem PySem.Spec PyProof.Rows
section
variable{a b:Addr}{o:HO}{H:Hp}
noncomputable abbrev Key:=Sum Int Str
noncomputable def D8:Key->Value->Bool
 |.inl k,v=>Value.isInt k v
 |.inr x,v=>Value.isStrOf x v
noncomputable def Lh(w:World):Key->Int
 |.inl k=>hashInt k
 |.inr x=>hashStr w x
theorem cD:∀{k:Key} {v:Value},D8 k v=true->(∃i t,k=N5 i/\v=PR i t)\/(∃x t,k=OR x/\v=Oj x t)
 |.inl i,v,h=>by obtain⟨t,e⟩:=Value.isInt_shape (k:=i) (v:=v) h;exact .inl ⟨i,t,rfl,e⟩
 |.inr x,v,h=>by obtain⟨t,e⟩:=Value.isStrOf_shape (x:=x) (v:=v) h;exact .inr ⟨x,t,rfl,e⟩
theorem E6(a b:Int):decide ((N5 a:Key)=N5 b)=(a == b):=by
 by_cases e:a=b
 ·subst e;simp
 ·have h:¬(N5 a:Key)=N5 b:=fun q=>e (N5.inj q);rw[decide_eq_false h];exact(beq_eq_false_iff_ne.mpr e).symm
theorem E7(a b:Str):decide ((OR a:Key)=OR b)=decide (a=b):=by
 by_cases e:a=b
 ·subst e;simp
 ·have h:¬(OR a:Key)=OR b:=fun q=>e (OR.inj q);rw[decide_eq_false h,decide_eq_false e]
theorem E8(a:Int)(b:Str):decide ((N5 a:Key)=OR b)=false:=decide_eq_false (fun q=>nomatch q)
theorem E9(a:Str)(b:Int):decide ((OR a:Key)=N5 b)=false:=decide_eq_false (fun q=>nomatch q)
noncomputable def lY(prog:Program)(w:World):PySem.KeyKind prog w Key where
 is:=D8
 hash:=Lh w
 inj:=fun v a b ha hb=>by
  rcases cD ha with⟨i,t,rfl,rfl⟩ | ⟨x,t,rfl,rfl⟩
  ·rcases cD hb with⟨j,u,rfl,e⟩ | ⟨y,u,rfl,e⟩
   ·injection e with e1 _;rw[e1]
   ·exact nomatch e
  ·rcases cD hb with⟨j,u,rfl,e⟩ | ⟨y,u,rfl,e⟩
   ·exact nomatch e
   ·injection e with e1 _;rw[e1]
 byValue:=fun k v h=>by rcases cD h with⟨i,t,rfl,rfl⟩ | ⟨x,t,rfl,rfl⟩<;>rfl
 pyHash:=fun hv h=>by
  rcases cD hv with⟨i,t,rfl,rfl⟩ | ⟨x,t,rfl,rfl⟩
  ·exact wpAny_pyHash_int h
  ·exact wpAny_pyHash_str h
 eqBool:=fun hu hv h=>by
  rcases cD hu with⟨i,t,rfl,rfl⟩ | ⟨x,t,rfl,rfl⟩
  ·rcases cD hv with⟨j,u,rfl,rfl⟩ | ⟨y,u,rfl,rfl⟩
   ·rw[E6]at h;exact wpAny_eqBool_int h
   ·rw[E8]at h;exact SeqAt.EqAt.int_str i t y u _ _ _ _ h
  ·rcases cD hv with⟨j,u,rfl,rfl⟩ | ⟨y,u,rfl,rfl⟩
   ·rw[E9]at h;exact SeqAt.EqAt.str_int x t j u _ _ _ _ h
   ·rw[E7]at h;exact wpAny_eqBool_str h
 «strs»:=fun k x t v h=>by
  rcases cD h with⟨i,u,rfl,e⟩ | ⟨y,u,rfl,e⟩
  ·exact nomatch e
  ·injection e with e1 _
   subst e1;cases v<;>rfl
inductive V where
 |non | bl (b:Bool) | int (i:Int) | str (x:Str) | byt (b:Array UInt8) | flt (b:UInt64) | ref (a:Addr) | ty (n:String)
 deriving DecidableEq
def RelV:V->Value->Prop
 |.non,u=>u=Value.none
 |.bl b,u=>u=PM b
 |.int i,u=>∃t,u=PR i t
 |.str x,u=>∃t,u=Oj x t
 |.byt b,u=>∃t,u=Value.bytes b t
 |.flt b,u=>∃t,u=Value.float b t
 |.ref a,u=>u=Nq a
 |.ty n,u=>u=Ou n
noncomputable abbrev Vals:List V->List Value->Prop:=Paired RelV
theorem Vals.length{xs:List V}{us:List Value}(r:Vals xs us):xs.length=us.length:=Paired.length r
theorem Vals.get:∀{xs:List V} {us:List Value} {i:Nat} {x:V},Vals xs us->xs[i]?=some x->∃u,us[i]?=some u/\RelV x u
 |_,_,_,_,.nil,e=>by simp at e
 |_,_,0,_,.cons r _,e=>by simp at e;subst e;exact⟨_,rfl,r⟩
 |_,_,i+1,x,.cons _ t,e=>by obtain⟨u,h1,h2⟩:=Vals.get (i:=i) (x:=x) t (by simpa using e);exact⟨u,by simpa using h1,h2⟩
theorem Vals.set{x:V}{u:Value}(r:RelV x u):∀{xs:List V} {us:List Value} (i:Nat),Vals xs us->Vals (xs.set i x) (us.set i u)
 |_,_,_,.nil=>.nil
 |_,_,0,.cons _ t=>.cons r t
 |_,_,i+1,.cons q t=>.cons q (Vals.set r i t)
theorem Vals.append:∀{xs ys:List V} {us ws:List Value},Vals xs us->Vals ys ws->Vals (xs++ys) (us++ws)
 |_,_,_,_,.nil,s=>s
 |_,_,_,_,.cons r t,s=>.cons r (Vals.append t s)
theorem Vals.take:∀{xs:List V} {us:List Value} (n:Nat),Vals xs us->Vals (xs.take n) (us.take n)
 |_,_,0,_=>.nil
 |_,_,_+1,.nil=>.nil
 |_,_,n+1,.cons r t=>.cons r (Vals.take n t)
theorem Vals.drop:∀{xs:List V} {us:List Value} (n:Nat),Vals xs us->Vals (xs.drop n) (us.drop n)
 |_,_,0,r=>r
 |_,_,_+1,.nil=>.nil
 |_,_,n+1,.cons _ t=>Vals.drop n t
def E_:Option V->Option Value->Prop
 |some v,some u=>RelV v u
 |none,none=>True
 |_,_=>False
def KV{κ:Type}:List (κ×V)->List (κ×Value)->Prop:=Paired fun(p:κ×V) (q:κ×Value)=>p.1=q.1/\RelV p.2 q.2
noncomputable def kV:Key->V
 |.inl i=>.int i
 |.inr x=>.str x
inductive HO where
 |lst (xs:List V)
 |tup (xs:List V)
 |dK (kvs:List (Key×V)) | dT (kvs:List (List Key×V)) (ts:List Addr)
 |set (S:Int->Bool) (n:Nat)
 |ins (C dx:Addr) (fs:List (Str×V))
 |own (x:Addr)
 |xd (fs:List (Str×V))
 |met (f x:Addr)
 |rng (lo hi:Int)
 |frz (o:Obj) (u:HO)
 |tbl (ln cl:Value) (q:Str)
 |ext (φ:Heap->Prop)
noncomputable abbrev Hp:=Addr->Option HO
noncomputable def upd(H:Hp)(a:Addr)(o:HO):Hp:=fun b=>if b=a then some o else H b
theorem aY{a:Addr}:upd H a o a=some o:=by unfold upd;rw[if_pos rfl]
theorem ay(h:b≠a):upd H a o b=H b:=by unfold upd;rw[if_neg h]
theorem aZ(h:H a=some o)(h':H b=none):a≠b:=by intro e;subst e;rw[h]at h';cases h'
end
section
variable(P:Program)(w:World)
def ck(H:Hp)(h:Heap)(a:Addr):HO->Prop
 |.lst xs=>xs.length<=sizeLine/\∃(its:List Value) (n:Nat),Vals xs its/\h.get? a=some { cls:=.type "list",data:=.seq its.toArray n }
 |.tup xs=>xs.length<=sizeLine/\∃its:List Value,Vals xs its/\IsTup h a its.toArray
 |.dK kvs=>kvs.length<=sizeLine/\(a == sysModules)=false/\∃vs,KV kvs vs/\h.DictOf (lY P w) a vs
 |.dT kvs ts=>kvs.length<=sizeLine/\(a == sysModules)=false/\∃xs:List (List Key×Addr×Value),
   Paired (fun(p:List Key×V) (q:List Key×Addr×Value)=>p.1=q.1/\H q.2.1=some (.tup (p.1.map kV))/\RelV p.2 q.2.2) kvs xs /\
   ∃o es ep,h.get? a=some o/\o.ExactDict/\o.data=.dict es ep/\es.toList=xs.map (entryOfKey (tupleKind (lY P w)))/\(xs.map (·.1)).Nodup/\xs.map (·.2.1)=ts
 |.set S n=>h.SetOf (intKind P w) a S n
 |.ins C dx fs=>H dx=some (.own a)/\fs.length<=1000/\dx≠a/\h.get? a=some (Pn C dx) /\
   ∃mA,h.Ns1 dx mA/\(∀f,E_ (fs.lookup f) (mA f))/\PySem.Within mA (fs.map (·.1))
 |.own _=>∃o,h.get? a=some o
 |.xd fs=>∃mA,h.Ns1 a mA/\∀f,E_ (fs.lookup f) (mA f)
 |.rng lo hi=>∃t u v,h.get? a=some { cls:=.type "range",data:=.fields #[.int lo t,.int hi u,.int 1 v] }
 |.frz o u=>h.get? a=some o/\ck H h a u
 |.tbl ln cl q=>∃ps:Array Value,h.get? a=some { cls:=.none,data:=.fields ps }/\(ps=#[]\/∃(c:Addr) (oc:Obj) (vs:Array Value) (t:Tok),ps=#[ln,cl,.ref c]/\H c=some (.frz oc (.own a))/\oc.data=.fields vs/\vs[1]?=some (.str q t))
 |.met f x=>h.get? a=some (Pb (.ref f) (.ref x))
 |.ext φ=>φ h/\(∃o,h.get? a=some o)/\∀h1 h2:Heap,φ h1->(∀o,h1.get? a=some o->h2.get? a=some o)->φ h2
def HOk(H:Hp)(h:Heap):Prop:=∀a o,H a=some o->ck P w H h a o
end
section
variable{P:Program}{w:World}{H H':Hp}{h h':Heap}{a:Addr}{o:HO}
theorem ck.lt(x:ck P w H h a o):a<h.objs.size:=by
 cases o with
 |lst xs=>obtain⟨_,_,_,_,e⟩:=x;exact MS e
 |tup xs=>obtain⟨_,_,_,p⟩:=x;exact p.lt
 |dK kvs=>obtain⟨_,_,_,_,o,_,_,e,_⟩:=x;exact MS e
 |dT kvs ts=>obtain⟨_,_,_,_,o,_,_,e,_⟩:=x;exact MS e
 |set S n=>obtain⟨o,_,_,_,e,_⟩:=x;exact MS e
 |ins C dx fs=>obtain⟨_,_,_,e,_⟩:=x;exact MS e
 |own y=>obtain⟨_,e⟩:=x;exact MS e
 |xd fs=>obtain⟨_,⟨_,_,_,e,_⟩,_⟩:=x;exact MS e
 |rng lo hi=>obtain⟨_,_,_,e⟩:=x;exact MS e
 |frz ob u=>obtain⟨e,_⟩:=x;exact MS e
 |tbl ln cl q=>obtain⟨_,e,_⟩:=x;exact MS e
 |met f y=>exact MS (show h.get? a=some _ from x)
 |ext φ=>obtain⟨_,⟨_,e⟩,_⟩:=x;exact MS e
theorem Paired.Ig{α β:Type}{F G:α->β->Prop}:∀{l₁:List α} {l₂:List β},Paired F l₁ l₂->(∀a b,F a b->G a b)->Paired G l₁ l₂
 |_,_,.nil,_=>.nil
 |_,_,.cons r t,f=>.cons (f _ _ r) (Paired.Ig t f)
theorem ck.stay(x:ck P w H h a o)(k:∀b u,(b=a\/H b=some (.own a))->h.get? b=some u->h'.get? b=some u)
  (ho:∀b,H b=some (.own a)->H' b=some (.own a)) (hf:∀b o c,H b=some (.frz o (.own c))->H' b=some (.frz o (.own c))) (ht:∀b xs,H b=some (.tup xs)->H' b=some (.tup xs)):ck P w H' h' a o:=by
 induction o with
 |lst xs=>obtain⟨z,its,n,r,e⟩:=x;exact⟨z,its,n,r,k _ _ (.inl rfl) e⟩
 |tup xs=>obtain⟨z,its,r,ob,e,c⟩:=x;exact⟨z,its,r,ob,k _ _ (.inl rfl) e,c⟩
 |dK kvs=>obtain⟨z,y,vs,r,ob,es,ep,e,c⟩:=x;exact⟨z,y,vs,r,ob,es,ep,k _ _ (.inl rfl) e,c⟩
 |dT kvs ts=>obtain⟨z,y,xs,r,ob,es,ep,e,c⟩:=x;exact⟨z,y,xs,Paired.Ig r fun p q z=>⟨z.1,ht _ _ z.2.1,z.2.2⟩,ob,es,ep,k _ _ (.inl rfl) e,c⟩
 |set S n=>obtain⟨ob,es,ep,t,e,c⟩:=x;exact⟨ob,es,ep,t,k _ _ (.inl rfl) e,c⟩
 |ins C dx fs=>obtain⟨d,z,ne,e,mA,⟨od,es,ep,e2,c⟩,r⟩:=x;exact⟨ho _ d,z,ne,k _ _ (.inl rfl) e,mA,⟨od,es,ep,k _ _ (.inr d) e2,c⟩,r⟩
 |own y=>obtain⟨ob,e⟩:=x;exact⟨ob,k _ _ (.inl rfl) e⟩
 |xd fs=>obtain⟨mA,⟨od,es,ep,e,c⟩,r⟩:=x;exact⟨mA,⟨od,es,ep,k _ _ (.inl rfl) e,c⟩,r⟩
 |rng lo hi=>obtain⟨t,u,v,e⟩:=x;exact⟨t,u,v,k _ _ (.inl rfl) e⟩
 |frz ob u ih=>obtain⟨e,q⟩:=x;exact⟨k _ _ (.inl rfl) e,ih q⟩
 |tbl ln cl q=>
  obtain⟨ps,e,d⟩:=x;refine⟨ps,k _ _ (.inl rfl) e,?_⟩;rcases d with d | ⟨c,oc,vs,t,d,d2,d3⟩
  ·exact .inl d
  ·exact .inr ⟨c,oc,vs,t,d,hf _ _ _ d2,d3⟩
 |met f y=>have e:h.get? a=some (Pb (.ref f) (.ref y)):=x;show h'.get? a=some (Pb (.ref f) (.ref y));exact k a _ (.inl rfl) e
 |ext φ=>obtain⟨p,⟨o,e⟩,st⟩:=x;exact⟨st _ _ p fun o q=>k _ _ (.inl rfl) q,⟨o,k _ _ (.inl rfl) e⟩,st⟩
theorem HOk.lt(x:HOk P w H h)(e:H a=some o):a<h.objs.size:=(x a o e).lt
theorem HOk.fresh(x:HOk P w H h)(e:h.objs.size<=a):H a=none:=by
 cases q:H a with
 |none=>rfl
 |some u=>exact absurd (MZ (x.lt q) e) (Nz _)
theorem HOk.kept(x:HOk P w H h)(k:∀b u,h.get? b=some u->h'.get? b=some u):HOk P w H h':=fun a o e=>(x a o e).stay (fun b u _ q=>k b u q) (fun _ q=>q) (fun _ _ _ q=>q) fun _ _ q=>q
theorem HOk.laid(x:HOk P w H h)(k:∀b u,h.get? b=some u->h'.get? b=some u)(hp:h.objs.size<=a)(new:ck P w (upd H a o) h' a o):HOk P w (upd H a o) h':=fun b u e=>by
 have hn:=x.fresh hp;by_cases hb:b=a
 ·subst hb;rw[aY]at e;cases e;exact new
 ·rw[ay hb]at e;exact(x b u e).stay (fun c v _ q=>k c v q) (fun c q=>by rw[ay (aZ q hn)];exact q) (fun c _ _ q=>by rw[ay (aZ q hn)];exact q) fun c xs q=>by rw[ay (aZ q hn)];exact q
end
def Rd(H:Hp)(a:Addr)(u:HO):Prop:=H a=some u\/∃o,H a=some (.frz o u)
theorem Rd.ok{P:Program}{w:World}{H:Hp}{h:Heap}{a:Addr}{u:HO}(r:Rd H a u)(x:HOk P w H h):ck P w H h a u:=by
 rcases r with r | ⟨o,r⟩
 ·exact x a u r
 ·obtain⟨_,q⟩:=x a _ r;exact q
def Mut:Option HO->Prop
 |some (.lst _)=>True
 |some (.dK _)=>True
 |some (.dT _ _)=>True
 |some (.set _ _)=>True
 |some (.ins _ _ _)=>True
 |some (.ext _)=>True
 |_=>False
section
variable{P:Program}{w:World}{H:Hp}{h h':Heap}{x e:Addr}{o':HO}
theorem HOk.write(ok:HOk P w H h)(mu:Mut (H x))(he:e=x\/H e=some (.own x))(k:∀b u,b≠e->h.get? b=some u->h'.get? b=some u)(heo:∃u,h'.get? e=some u)
  (new:ck P w (upd H x o') h' x o'):HOk P w (upd H x o') h':=fun b u q=>by
 have Ih:∀c y,H c=some (.own y)->c≠x:=fun c y r z=>by subst z;rw[r]at mu;exact mu
 have Li:∀c xs,H c=some (.tup xs)->c≠x:=fun c xs r z=>by subst z;rw[r]at mu;exact mu
 have Lj:∀c o y,H c=some (.frz o y)->c≠x:=fun c o y r z=>by subst z;rw[r]at mu;exact mu
 by_cases hb:b=x
 ·subst hb;rw[aY]at q;cases q;exact new
 ·rw[ay hb]at q;by_cases hbe:b=e
  ·have q':H b=some (.own x):=by
    rcases he with z | z
    ·exact absurd (hbe.trans z) hb
    ·rw[hbe];exact z
   rw[q]at q';cases q';obtain⟨v,hv⟩:=heo;exact⟨v,by rw[hbe];exact hv⟩
  ·refine(ok b u q).stay (fun c v hc r=>k c v ?_ r) (fun c r=>by rw[ay (Ih c b r)];exact r) (fun c _ _ r=>by rw[ay (Lj c _ _ r)];exact r) fun c xs r=>by rw[ay (Li c xs r)];exact r
   rcases hc with rfl | hc
   ·exact hbe
   ·rintro rfl;rcases he with z | z
    ·exact Ih c b hc z
    ·rw[hc]at z;cases z;exact hb rfl
end
structure Un(fs ex:List Addr)(H H':Hp)(h h':Heap):Prop where
 keep:∀b o,h.get? b=some o->H b=none->b∉fs->b∉ex->h'.get? b=some o
 slot:∀b o,h.get? b=some o->H b=none->b∈fs->b∉ex->∃sl,h'.get? b=some { o with slots:=sl }
 free:∀b o,h.get? b=some o->H b=none->b∉ex->H' b=none
 there:∀b o,h.get? b=some o->b∉ex->∃o',h'.get? b=some o'
 tups:∀b xs,H b=some (.tup xs)->H' b=some (.tup xs)
 lO:∀b o u,H b=some (.frz o u)->H' b=some (.frz o u)
 mz:∀b x y z,H b=some (.tbl x y z)->H' b=some (.tbl x y z)
section
variable{fs fs' ex ex':List Addr}{H H1 H2:Hp}{h h1 h2 h':Heap}{a x e:Addr}{o:HO}
theorem Un.any(u:Un fs ex H H1 h h1){b:Addr}{ob:Obj}(q:h.get? b=some ob)(n:H b=none)(hx:b∉ex):∃sl,h1.get? b=some { ob with slots:=sl }:=by
 by_cases hb:b∈fs
 ·exact u.slot b ob q n hb hx
 ·exact⟨ob.slots,u.keep b ob q n hb hx⟩
theorem Un.kept(k:∀b u,h.get? b=some u->h'.get? b=some u):Un fs ex H H h h':=
 ⟨fun b ob q _ _ _=>k b ob q,fun b ob q _ _ _=>⟨ob.slots,k b ob q⟩,fun _ _ _ n _=>n,fun b ob q _=>⟨ob,k b ob q⟩,fun _ _ q=>q,fun _ _ _ q=>q,fun _ _ _ _ q=>q⟩
theorem Un.refl:Un fs ex H H h h:=Un.kept fun _ _ q=>q
theorem Un.laid(k:∀b u,h.get? b=some u->h'.get? b=some u)(hp:h.objs.size<=a)(hn:H a=none):Un fs ex H (upd H a o) h h' where
 keep:=fun b u q _ _ _=>k b u q
 slot:=fun b u q _ _ _=>⟨u.slots,k b u q⟩
 free:=fun b u q n _=>by rw[ay (Nb (MZ (MS q) hp))];exact n
 there:=fun b u q _=>⟨u,k b u q⟩
 tups:=fun b xs q=>by rw[ay (aZ q hn)];exact q
 lO:=fun b u xs q=>by rw[ay (aZ q hn)];exact q
 mz:=fun b _ _ _ q=>by rw[ay (aZ q hn)];exact q
theorem Un.write(mu:Mut (H x))(he:e=x\/H e=some (.own x))(k:∀b u,b≠e->h.get? b=some u->h'.get? b=some u)(heo:∃u,h'.get? e=some u):Un fs ex H (upd H x o) h h':=by
 have hx:∀b,H b=none->b≠x:=fun b n z=>by subst z;rw[n]at mu;exact mu
 have hb:∀b,H b=none->b≠e:=fun b n z=>by
  subst z;rcases he with r | r
  ·exact hx b n r
  ·rw[n]at r;cases r
 have hm:∀b u,H b=some u->¬Mut (some u)->b≠x:=fun b u q nm z=>by subst z;rw[q]at mu;exact nm mu
 refine ⟨fun b u q n _ _=>k b u (hb b n) q,fun b u q n _ _=>⟨u.slots,k b u (hb b n) q⟩,fun b u q n _=>by rw [ay (hx b n)];exact n,fun b u q _=>?_,
  fun b xs q=>by rw[ay (hm b _ q fun z=>z)];exact q,fun b u xs q=>by rw[ay (hm b _ q fun z=>z)];exact q,fun b _ _ _ q=>by rw[ay (hm b _ q fun z=>z)];exact q⟩
 by_cases hbe:b=e
 ·subst hbe;exact heo
 ·exact⟨u,k b u hbe q⟩
end
section
variable{b:Addr}{h:Heap}{o:Obj}{H:Hp}
noncomputable def trk(h:Heap)(H:Hp):List Addr:=(Ni h.objs.size).filter fun a=>(H a).isSome
noncomputable def ql(h:Heap)(H:Hp):Heap:=Po h (trk h H)
theorem xw(h:Heap)(H:Hp):(ql h H).objs.size=h.objs.size:=PySem.W.hideAll_size _ _
theorem yN(e:h.get? b=some o)(n:H b=none):(ql h H).get? b=some o:=
 PySem.W.hideAll_get _ e fun hm=>by have q:(H b).isSome=true:=(OG.mp hm).2;rw[n]at q;simp at q
theorem B4(e:(ql h H).get? b=some o):h.get? b=some o/\H b=none:=by
 have e':h.get? b=some o:=PySem.W.of_hideAll (trk h H) e;refine⟨e',?_⟩;cases q:H b with
 |none=>rfl
 |some x=>have hm:b∈trk h H:=OG.mpr ⟨OS.mpr (MS e'),by simp[q]⟩;have z:(ql h H).get? b=none:=PySem.W.hideAll_none (trk h H) hm;rw[z]at e;cases e
structure Mod(K:Mv)(mg:Str->Option Value)(base:Heap):Prop where
 kin:K.In base
 glob:base.Ns mainGlobals mg
 blt:∃mb,base.Ns builtinsNs mb/\∀x:Str,x ≠ "__name__" -> mb x=bootBuiltins x
 nolimit:base.NoLimit
structure Cx where
 prog:Program
 w:World
 K:Mv
 mg:Str->Option Value
 base:Heap
 A:Around
 N:List Str
 s₀:Shared
 H₀:Hp
 env:Env
 outer:List Env
 stack:List Env
 ex:List Addr
 fn:Str->Bool
 calm:Bool
 pn:List (Addr×Obj)
 xe:Value->Shared->Prop
noncomputable def frs(l:List Env):List Addr:=l.filterMap (·.frame)
noncomputable abbrev Cx.fs(X:Cx):List Addr:=frs X.outer
def Vis(sc:Scope)(x:Str):Prop:=sc.names.lookup x=some .local\/sc.names.lookup x=some .cell\/sc.names.lookup x=some .free
def Loc(sc:Scope)(x:Str):Prop:=sc.names.lookup x=some .local\/sc.names.lookup x=some .cell
def Look(env:Env)(h:Heap)(m:Str->Option Value)(x:Str)(u:Value):Prop:=
 (env.kindOf x=some .local/\m x=some u)\/((env.kindOf x=some .cell\/env.kindOf x=some .free)/\∃c,env.cells.lookup x=some c/\h.IsCell c (some u))
structure Cx.Ok(X:Cx):Prop where
 mod:Mod X.K X.mg X.base
 kind:X.env.scope.kind=.function
 glob:X.env.globals=mainGlobals
 blt:X.env.builtins=builtinsNs
 above:X.s₀.heap.objs.size<=X.env.locals
 inj:∀x y c,X.env.cells.lookup x=some c->X.env.cells.lookup y=some c->x=y
 has:∀x,(X.env.kindOf x=some .cell\/X.env.kindOf x=some .free)->∃c,X.env.cells.lookup x=some c
 cab:∀x c,X.fn x=true->X.env.cells.lookup x=some c->X.s₀.heap.objs.size<=c
 hd:X.calm=true->X.A.handled=none
 frames:X.A.frames=some X.stack
 stk:X.stack=X.outer\/(X.stack=X.env::X.outer/\X.env.frame=some X.env.locals)
 exf:∀b∈X.ex,b≠X.env.locals/\∀x c,X.env.cells.lookup x=some c->c≠b
 bs:∀b o,X.base.get? b=some o->X.s₀.heap.get? b=some o/\X.H₀ b=none
 bsz:X.base.objs.size<=X.s₀.heap.objs.size
 yO:∀b o,X.base.get? b=some o->b∉X.ex
 B5:∀b∈X.ex,b∉X.fs
 lP:X.s₀.heap.FunFrames X.base X.outer
 frf:∀b∈X.fs,X.H₀ b=none
structure Inv(X:Cx)(eU:List (Addr×Obj))(σ:List (Option V))(H:Hp)(s:Shared):Prop where
 ok:X.Ok
 os:s.os=X.s₀.os
 bare:AllBare s.gens
 base:Un X.fs X.ex X.H₀ H X.s₀.heap s.heap
 loc:∃m,s.heap.Ns X.env.locals m/\∀(i:Nat) (x:Str) (v:V),X.N[i]?=some x->σ[i]?=some (some v)->Vis X.env.scope x->∃u,RelV v u/\Look X.env s.heap m x u
 cell:∀x c,X.env.cells.lookup x=some c->∃v,s.heap.IsCell c v
 free:H X.env.locals=none
 eO:∀x c,X.env.cells.lookup x=some c->H c=none
 pin:∀p∈X.pn++eU,s.heap.get? p.1=some p.2/\H p.1=none/\p.1≠X.env.locals/\p.1∉X.fs/\∀v,p.2.data≠.cell v
 hok:HOk X.prog X.w H s.heap
 len:σ.length=X.N.length
end
section
variable{X:Cx}{eU:List (Addr×Obj)}{σ:List (Option V)}{H H':Hp}{s:Shared}{h':Heap}
section
variable{ch:List Addr}{x:Str}{u:Value}{a:Addr}{t':Nat}{i:Nat}{v:V}
theorem Cx.Ok.Lk(ok:X.Ok){b:Addr}{o:Obj}(e:X.base.get? b=some o):b∉X.fs:=fun hb=>by have:=(ok.lP.mem hb).1;rw[e]at this;cases this
theorem Inv.bs(I:Inv X eU σ H s):∀b o,X.base.get? b=some o->s.heap.get? b=some o/\H b=none:=fun b o e=>⟨I.base.keep b o (I.ok.bs b o e).1 (I.ok.bs b o e).2 (I.ok.Lk e) (I.ok.yO b o e),I.base.free b o (I.ok.bs b o e).1 (I.ok.bs b o e).2 (I.ok.yO b o e)⟩
theorem Inv.bk(I:Inv X eU σ H s):∀b o,X.base.get? b=some o->s.heap.get? b=some o:=fun b o e=>(I.bs b o e).1
theorem Inv.mod(I:Inv X eU σ H s):Mod X.K X.mg X.base:=I.ok.mod
theorem Inv.kIn(I:Inv X eU σ H s):X.K.In s.heap:=I.ok.mod.kin.keeps I.bk
theorem Inv.lt(I:Inv X eU σ H s):X.env.locals<s.heap.objs.size:=let ⟨_,hn,_⟩:=I.loc;hn.lt
theorem Inv.sz(I:Inv X eU σ H s):X.s₀.heap.objs.size<=s.heap.objs.size:=M6 I.ok.above (Ol I.lt)
theorem Inv.Ll(I:Inv X eU σ H s)(h:s.heap.objs.size<=a):a∉X.fs:=fun hb=>by obtain⟨_,o,ho,_⟩:=I.ok.lP.mem hb;exact absurd (MZ (MS ho) (M6 I.sz h)) (Nz _)
theorem Inv.cne(I:Inv X eU σ H s):∀x c,X.env.cells.lookup x=some c->c≠X.env.locals:=fun x c e z=>by obtain⟨v,o,ho,hd⟩:=I.cell x c e;obtain⟨m,⟨o',es,ep,ho',hd',_⟩,_⟩:=I.loc;rw[z,ho']at ho;cases ho;rw[hd']at hd;cases hd
theorem Inv.lP(I:Inv X eU σ H s):s.heap.FunFrames X.base X.outer:=by
 have all:∀(l:List Env),(∀b∈frs l,b∈X.fs)->X.s₀.heap.FunFrames X.base l->s.heap.FunFrames X.base l:=by
  intro l
  induction l with
  |nil=>intro _ _;trivial
  |cons env r ih=>intro hs hl;obtain⟨hk,⟨L,o,hf,hn,ho,hd⟩,hr⟩:=hl;have hL:L∈X.fs:=hs L (by unfold frs;rw[N1,hf];exact MM);obtain⟨sl,e⟩:=I.base.slot L o ho (I.ok.frf L hL) hL fun z=>I.ok.B5 L z hL;exact⟨hk,⟨L,_,hf,hn,e,hd⟩,ih (fun b hb=>hs b (by unfold frs;rw[N1,hf];exact MK _ hb)) hr⟩
 exact all X.outer (fun _ hb=>hb) I.ok.lP
theorem Inv.stack(I:Inv X eU σ H s):s.heap.FunFrames X.base X.stack:=by
 rcases I.ok.stk with e | ⟨e,hf⟩
 ·rw[e];exact I.lP
 ·rw[e];obtain⟨m,hn,_⟩:=I.loc;refine .cons (by rw[I.ok.kind];decide) hf hn ?_ I.lP;exact Heap.get?_none_of_le (M6 I.ok.bsz I.ok.above)
theorem Inv.mC(I:Inv X eU σ H s):∀b∈frs X.stack,b∈X.env.locals::X.fs:=fun b hb=>by
 rcases I.ok.stk with e | ⟨e,hf⟩
 ·rw[e]at hb;exact MK _ hb
 ·rw[e]at hb;unfold frs at hb;rw[N1,hf]at hb;exact hb
theorem Inv.qm(I:Inv X eU σ H s):∀b∈frs X.stack,H b=none:=fun b hb=>by
 rcases MV.mp (I.mC b hb) with e | hb
 ·rw[e];exact I.free
 ·obtain⟨_,o,ho,_⟩:=I.ok.lP.mem hb;exact I.base.free b o ho (I.ok.frf b hb) fun z=>I.ok.B5 b z hb
theorem Inv.step{g':Array GenState}{t':Nat}{d':Drawn}{ch:List Addr}(I:Inv X eU σ H s)
  (hch:∀b∈ch,(b∈X.ex\/X.s₀.heap.objs.size<=b)/\b≠X.env.locals/\(∀x c,X.env.cells.lookup x=some c->c≠b)/\∀p∈X.pn++eU,p.1≠b)
  (keep:∀b o,b≠X.env.locals->b∉X.fs->b∉ch->s.heap.get? b=some o->H b=none->h'.get? b=some o)
  (slot:∀b o,b≠X.env.locals->b∈X.fs->b∉ch->s.heap.get? b=some o->H b=none->∃sl,h'.get? b=some { o with slots:=sl }) (free:∀b o,b∉ch->s.heap.get? b=some o->H b=none->H' b=none)
  (there:∀b o,b∉ch->s.heap.get? b=some o->∃o',h'.get? b=some o')
  (tups:∀b xs,H b=some (.tup xs)->H' b=some (.tup xs)) (lO:∀b o u,H b=some (.frz o u)->H' b=some (.frz o u)) (mz:∀b x y z,H b=some (.tbl x y z)->H' b=some (.tbl x y z))
  (ns:∀m,s.heap.Ns X.env.locals m->h'.Ns X.env.locals m) (hok:HOk X.prog X.w H' h') (hg:AllBare g') :
  Inv X eU σ H' { s with heap:=h',gens:=g',drawn:=d',toks:=t' }:=by
 have neL:∀b o,X.s₀.heap.get? b=some o->b≠X.env.locals:=fun b o e=>Nb (MZ (MS e) I.ok.above);have neC:∀b o,X.s₀.heap.get? b=some o->b∉X.ex->b∉ch:=fun b o e hx hb=>by
  rcases (hch b hb).1 with z | z
  ·exact hx z
  ·exact absurd (MZ (MS e) z) (Nz _)
 have cellK:∀x c,X.env.cells.lookup x=some c->∀v,s.heap.IsCell c v->h'.IsCell c v:=fun x c e v ⟨o,ho,hd⟩=>by
  have nch:c∉ch:=fun z=>(hch c z).2.2.1 x c e rfl;by_cases hc:c∈X.fs
  ·obtain⟨sl,q⟩:=slot c o (I.cne x c e) hc nch ho (I.eO x c e);exact⟨_,q,hd⟩
  ·exact⟨o,keep c o (I.cne x c e) hc nch ho (I.eO x c e),hd⟩
 refine⟨I.ok,I.os,hg,⟨fun b o e n hb hx=>?_,fun b o e n hb hx=>?_,fun b o e n hx=>?_,fun b o e hx=>?_,fun b xs e=>tups b xs (I.base.tups b xs e),fun b o xs e=>lO b o xs (I.base.lO b o xs e),fun b x y z e=>?_⟩,?_,fun x c e=>?_,?_,fun x c e=>?_,fun p hp=>?_,hok,I.len⟩
 ·exact keep b o (neL b o e) hb (neC b o e hx) (I.base.keep b o e n hb hx) (I.base.free b o e n hx)
 ·obtain⟨sl,e1⟩:=I.base.slot b o e n hb hx;obtain⟨sl',e2⟩:=slot b _ (neL b o e) hb (neC b o e hx) e1 (I.base.free b o e n hx);exact⟨sl',e2⟩
 ·obtain⟨o',e1⟩:=I.base.there b o e hx;exact free b o' (neC b o e hx) e1 (I.base.free b o e n hx)
 ·obtain⟨o',e1⟩:=I.base.there b o e hx;exact there b o' (neC b o e hx) e1
 ·exact mz _ _ _ _ (I.base.mz _ _ _ _ e)
 ·obtain⟨m,hn,hl⟩:=I.loc;refine⟨m,ns m hn,fun i x v e1 e2 e3=>?_⟩;obtain⟨u,r,l⟩:=hl i x v e1 e2 e3;refine⟨u,r,?_⟩;rcases l with l | ⟨k,c,e,z⟩
  ·exact .inl l
  ·exact .inr ⟨k,c,e,cellK x c e _ z⟩
 ·obtain⟨v,z⟩:=I.cell x c e;exact⟨v,cellK x c e v z⟩
 ·obtain⟨m,⟨o,_,_,ho,_⟩,_⟩:=I.loc;exact free _ o (fun z=>(hch _ z).2.1 rfl) ho I.free
 ·obtain⟨v,o,ho,hd⟩:=I.cell x c e;exact free c o (fun z=>(hch c z).2.2.1 x c e rfl) ho (I.eO x c e)
 ·obtain⟨e,n,ne,nf,d⟩:=I.pin p hp;have nch:p.1∉ch:=fun z=>(hch p.1 z).2.2.2 p hp rfl;exact⟨keep p.1 p.2 ne nf nch e n,free p.1 p.2 nch e n,ne,nf,d⟩
theorem Inv.un(I:Inv X eU σ H s)(u:Un X.fs [] H H' s.heap h')(hok:HOk X.prog X.w H' h'):Inv X eU σ H' { s with heap:=h',toks:=t' }:=by
 obtain⟨m,⟨o,es,ep,ho,r⟩,_⟩:=id I.loc;obtain⟨sl,hL⟩:=u.any ho I.free (by simp);exact I.step (g':=s.gens) (d':=s.drawn) (ch:=[]) (fun _ z=>nomatch z) (fun b o _ hb _ e n=>u.keep b o e n hb (by simp)) (fun b o _ hb _ e n=>u.slot b o e n hb (by simp)) (fun b o _ e n=>u.free b o e n (by simp)) (fun b o _ e=>u.there b o e (by simp)) u.tups u.lO u.mz (fun m' hm=>by obtain⟨o',es',ep',ho',r'⟩:=hm;rw[ho]at ho';cases ho';exact⟨_,es',ep',hL,r'⟩) hok I.bare
theorem Inv.call{g':Array GenState}{t':Nat}{d':Drawn}(I:Inv X eU σ H s)(u:Un (frs X.stack) ch H H' s.heap h')(hok:HOk X.prog X.w H' h')(hg:AllBare g')
  (hch:∀b∈ch,(b∈X.ex\/X.s₀.heap.objs.size<=b)/\b≠X.env.locals/\(∀x c,X.env.cells.lookup x=some c->c≠b)/\∀p∈X.pn++eU,p.1≠b) :
  Inv X eU σ H' { s with heap:=h',gens:=g',drawn:=d',toks:=t' }:=by
 obtain⟨m,⟨o,es,ep,ho,r⟩,_⟩:=id I.loc;obtain⟨sl,hL⟩:=u.any ho I.free fun z=>(hch _ z).2.1 rfl;exact I.step (ch:=ch) hch (fun b o hL hb hc e n=>u.keep b o e n (fun z=>(MV.mp (I.mC b z)).elim hL hb) hc) (fun b o _ _ hc e n=>u.any e n hc) (fun b o hc e n=>u.free b o e n hc) (fun b o hc e=>u.there b o e hc) u.tups u.lO u.mz (fun m' hm=>by obtain⟨o',es',ep',ho',r'⟩:=hm;rw[ho]at ho';cases ho';exact⟨_,es',ep',hL,r'⟩) hok hg
theorem Inv.turned{t':Nat}{it:Addr}(I:Inv X eU σ H s)(k:∀b o,b≠it->s.heap.get? b=some o->h'.get? b=some o)(hn:H it=none)(hL:it≠X.env.locals)
  (h1:it∈X.ex\/X.s₀.heap.objs.size<=it) (h2:∀x c,X.env.cells.lookup x=some c->c≠it) (h3:∀p∈X.pn++eU,p.1≠it):Inv X eU σ H { s with heap:=h',toks:=t' }:=by
 have nit:∀b u,H b=some u->b≠it:=fun b u e z=>by rw[z,hn]at e;cases e
 refine I.step (g':=s.gens) (d':=s.drawn) (ch:=[it]) (fun b hb=>?_) (fun b o _ _ hc e _=>k b o (fun z=>hc (by simp[z])) e) (fun b o _ _ hc e _=>⟨o.slots,k b o (fun z=>hc (by simp[z])) e⟩) (fun _ _ _ _ n=>n)
  (fun b o hc e=>⟨o,k b o (fun z=>hc (by simp[z])) e⟩) (fun _ _ e=>e) (fun _ _ _ e=>e) (fun _ _ _ _ e=>e) (fun m hm=>?_) (fun b u e=>?_) I.bare
 ·have e:b=it:=by simpa using hb
  subst e;exact⟨h1,hL,h2,h3⟩
 ·obtain⟨o,es,ep,ho,r⟩:=hm;exact⟨o,es,ep,k _ o (Nt hL) ho,r⟩
 ·refine(I.hok b u e).stay (fun c v hc q=>k c v ?_ q) (fun _ q=>q) (fun _ _ _ q=>q) fun _ _ q=>q;rcases hc with z | z
  ·rw[z];exact nit b u e
  ·exact nit c _ z
theorem Inv.tok(I:Inv X eU σ H s)(t:Nat):Inv X eU σ H { s with toks:=t }:=I.un (h':=s.heap) (t':=t) Un.refl I.hok
theorem Inv.kept(I:Inv X eU σ H s)(k:∀b u,s.heap.get? b=some u->h'.get? b=some u):Inv X eU σ H { s with heap:=h',toks:=t' }:=I.un (Un.kept k) (I.hok.kept k)
theorem Inv.laid{o:HO}{t':Nat}(I:Inv X eU σ H s)(k:∀b u,s.heap.get? b=some u->h'.get? b=some u)(hp:s.heap.objs.size<=a)(new:ck X.prog X.w (upd H a o) h' a o) :
  Inv X eU σ (upd H a o) { s with heap:=h',toks:=t' }:=I.un (Un.laid k hp (I.hok.fresh hp)) (I.hok.laid k hp new)
theorem Inv.write{x e:Addr}{o:HO}{t':Nat}(I:Inv X eU σ H s)(mu:Mut (H x))(he:e=x\/H e=some (.own x))(k:∀b u,b≠e->s.heap.get? b=some u->h'.get? b=some u)(heo:∃u,h'.get? e=some u)
  (new:ck X.prog X.w (upd H x o) h' x o):Inv X eU σ (upd H x o) { s with heap:=h',toks:=t' }:=I.un (Un.write mu he k heo) (I.hok.write mu he k heo new)
theorem Inv.vG{D9:List (Addr×Obj)}(I:Inv X eU σ H s)(h:∀p∈D9,s.heap.get? p.1=some p.2/\H p.1=none/\p.1≠X.env.locals/\p.1∉X.fs/\∀v,p.2.data≠.cell v):Inv X D9 σ H s:=
 ⟨I.ok,I.os,I.bare,I.base,I.loc,I.cell,I.free,I.eO,fun p hp=>(Nf.mp hp).elim (fun z=>I.pin p (OH _ z)) (h p),I.hok,I.len⟩
theorem mD{N:List Str}(hN:N.Nodup){i j:Nat}(a:N[i]?=some x)(b:N[j]?=some x):i=j:=by obtain⟨h1,e1⟩:=MT.mp a;obtain⟨h2,e2⟩:=MT.mp b;exact(List.getElem_inj hN).mp (e1.trans e2.symm)
theorem kB{M:Model}{A:Around}{E:Value->Shared->Prop}{Q:Unit->Shared->Prop}(I:Inv X eU σ H s)(hN:X.N.Nodup)(hi:X.N[i]?=some x)(hx:Loc X.env.scope x)(r:RelV v u)
  (h:∀s',Inv X eU (σ.set i (some v)) H s'->(∃a,OI a s.heap s'.heap/\(a=X.env.locals\/X.env.cells.lookup x=some a))->Q () s') (hf:X.fn x=true\/X.env.scope.names.lookup x=some .local:=by trivial):wpAny M A (storeName X.env x u) Q E s:=by
 obtain⟨m,hn,hl⟩:=id I.loc;have hcls:(X.env.scope.kind == .class||(X.env.scope.kind == .module&&X.env.locals != X.env.globals))=false:=by rw[I.ok.kind];rfl
 have hiσ:i<σ.length:=by rw[I.len];exact(MT.mp hi).1
 have cne:=I.cne;have tracked:∀{a:Addr} {h':Heap},(∃o,s.heap.get? a=some o/\H a=none)->OI a s.heap h'->HOk X.prog X.w H h':=fun {a h'} ha hs b ob e=>by
  obtain⟨_,_,hfree⟩:=ha;refine(I.hok b ob e).stay (fun c w' hc q=>(hs.2 c ?_).trans q) (fun _ q=>q) (fun _ _ _ q=>q) fun _ _ q=>q;rintro rfl;rcases hc with rfl | hc
  ·rw[hfree]at e;cases e
  ·rw[hfree]at hc;cases hc
 rcases hx with hk | hk
 ·refine wpAny_storeName_local hk hn (fun h' hn' hs=>?_) hcls;obtain⟨oL,_,_,hoL,_⟩:=id hn;refine h _ ⟨I.ok,I.os,I.bare,⟨fun b o e n hb hx=>?_,fun b o e n hb hx=>?_,I.base.free,fun b o e hx=>?_,I.base.tups,I.base.lO,I.base.mz⟩,⟨_,hn',fun j y v' e1 e2 e3=>?_⟩,fun y c e=>?_,I.free,I.eO,fun p hp=>?_,tracked ⟨oL,hoL,I.free⟩ hs,by simpa using I.len⟩ ⟨_,hs,.inl rfl⟩
  ·exact(hs.2 b (Nb (MZ (MS e) I.ok.above))).trans (I.base.keep b o e n hb hx)
  ·obtain⟨sl,e1⟩:=I.base.slot b o e n hb hx;exact⟨sl,(hs.2 b (Nb (MZ (MS e) I.ok.above))).trans e1⟩
  ·obtain⟨o',e1⟩:=I.base.there b o e hx;exact⟨o',(hs.2 b (Nb (MZ (MS e) I.ok.above))).trans e1⟩
  ·by_cases hj:j=i
   ·subst hj;rw[hi]at e1;cases e1;rw[M8 hiσ]at e2;cases e2;exact⟨u,r,.inl ⟨hk,by simp⟩⟩
   ·rw[MC (Nt hj)]at e2;obtain⟨u',r',q⟩:=hl j y v' e1 e2 e3;refine⟨u',r',?_⟩;rcases q with⟨k,e⟩ | ⟨k,c,e,z⟩
    ·refine .inl ⟨k,?_⟩;have:y≠x:=fun e=>hj (mD hN e1 (e▸hi));simp[this,e]
    ·exact .inr ⟨k,c,e,z.sameBut hs (cne y c e)⟩
  ·obtain⟨w',z⟩:=I.cell y c e;exact⟨w',z.sameBut hs (cne y c e)⟩
  ·obtain⟨e,n,ne,nf,d⟩:=I.pin p hp;exact⟨(hs.2 p.1 ne).trans e,n,ne,nf,d⟩
 ·have hfn:X.fn x=true:=by
   rcases hf with z | z
   ·exact z
   ·rw[z]at hk;cases hk
  obtain⟨c,hc⟩:=I.ok.has x (.inl hk);obtain⟨w',z⟩:=I.cell x c hc;refine wpAny_storeName_cell I.ok.kind hk hc z (fun h' hc' hs=>?_);obtain⟨oc,hoc,Lm⟩:=id z;refine h { s with heap:=h' } ⟨I.ok,I.os,I.bare,⟨fun b o e n hb hx=>?_,fun b o e n hb hx=>?_,I.base.free,fun b o e hx=>?_,I.base.tups,I.base.lO,I.base.mz⟩,⟨m,hn.sameBut hs (Nt (cne x c hc)),fun j y v' e1 e2 e3=>?_⟩,fun y c' e=>?_,I.free,I.eO,fun p hp=>?_,tracked ⟨oc,hoc,I.eO x c hc⟩ hs,by simpa using I.len⟩ ⟨c,hs,.inr hc⟩
  ·exact(hs.2 b (Nb (MZ (MS e) (I.ok.cab x c hfn hc)))).trans (I.base.keep b o e n hb hx)
  ·obtain⟨sl,e1⟩:=I.base.slot b o e n hb hx;exact⟨sl,(hs.2 b (Nb (MZ (MS e) (I.ok.cab x c hfn hc)))).trans e1⟩
  ·obtain⟨o',e1⟩:=I.base.there b o e hx;exact⟨o',(hs.2 b (Nb (MZ (MS e) (I.ok.cab x c hfn hc)))).trans e1⟩
  ·by_cases hj:j=i
   ·subst hj;rw[hi]at e1;cases e1;rw[M8 hiσ]at e2;cases e2;exact⟨u,r,.inr ⟨.inl hk,c,hc,hc'⟩⟩
   ·rw[MC (Nt hj)]at e2;obtain⟨u',r',q⟩:=hl j y v' e1 e2 e3;refine⟨u',r',?_⟩;rcases q with q | ⟨k,c',e,z'⟩
    ·exact .inl q
    ·refine .inr ⟨k,c',e,z'.sameBut hs ?_⟩;rintro rfl;exact hj (mD hN e1 (I.ok.inj _ _ _ e hc▸hi))
  ·by_cases hcc:c'=c
   ·subst hcc;exact⟨_,hc'⟩
   ·obtain⟨w2,z2⟩:=I.cell y c' e;exact⟨w2,z2.sameBut hs hcc⟩
  ·obtain⟨e,n,ne,nf,d⟩:=I.pin p hp;refine⟨(hs.2 p.1 ?_).trans e,n,ne,nf,d⟩;intro q;rw[q,hoc]at e;have q':oc=p.2:=Option.some.inj e;exact d w' (by rw[<- q'];exact Lm)
theorem rF{M:Model}{A:Around}{E:Value->Shared->Prop}{Q:Unit->Shared->Prop}(I:Inv X eU σ H s)(hN:X.N.Nodup)(hi:X.N[i]?=some x)(hx:Loc X.env.scope x)(r:RelV v u)
  (h:∀s',Inv X eU (σ.set i (some v)) H s'->Q () s') (hf:X.fn x=true\/X.env.scope.names.lookup x=some .local:=by trivial):wpAny M A (storeName X.env x u) Q E s:=
 kB I hN hi hx r (fun s' I' _=>h s' I') hf
theorem Inv.Ii{s':Shared}(I:Inv X eU σ H s)(ho:s'.os=s.os)(u:Un (frs X.stack) ch H H' s.heap s'.heap)(hok:HOk X.prog X.w H' s'.heap)(hg:AllBare s'.gens)
  (hch:∀b∈ch,(b∈X.ex\/X.s₀.heap.objs.size<=b)/\b≠X.env.locals/\(∀x c,X.env.cells.lookup x=some c->c≠b)/\∀p∈X.pn++eU,p.1≠b):Inv X eU σ H' s':=by
 obtain⟨h',g',d',t',o'⟩:=s';have e:o'=s.os:=ho;subst e;exact I.call (g':=g') (t':=t') (d':=d') u hok hg hch
end
end
noncomputable abbrev XK:=Value->Option Addr->Hp->Prop
noncomputable abbrev St:=List (Option V)
noncomputable abbrev VK:=V->Hp->Prop
noncomputable abbrev TE:=St->Hp->VK->Prop
noncomputable abbrev TT:=St->Hp->(Bool->Hp->Prop)->Prop
noncomputable abbrev TA:=St->Hp->(List V->Hp->Prop)->Prop
structure Ends where
 nx:St->Hp->Prop
 rt:VK
 bk:St->Hp->Prop:=fun _ _=>False
 ct:St->Hp->Prop:=fun _ _=>False
noncomputable abbrev TS:=Ends->St->Hp->Prop
def EP(X:Cx)(eU:List (Addr×Obj))(σ:St)(Q:VK)(u:Value)(s':Shared):Prop:=∃v H',Inv X eU σ H' s'/\RelV v u/\Q v H'
def TP(X:Cx)(eU:List (Addr×Obj))(σ:St)(Q:Bool->Hp->Prop)(b:Bool)(s':Shared):Prop:=∃H',Inv X eU σ H' s'/\Q b H'
def AP(X:Cx)(eU:List (Addr×Obj))(σ:St)(Q:List V->Hp->Prop)(us:List Value)(s':Shared):Prop:=∃vs H',Inv X eU σ H' s'/\Vals vs us/\Q vs H'
def SP(X:Cx)(eU:List (Addr×Obj))(D:Ends)(f:Flow)(s':Shared):Prop:=
 match f with
 |.next=>∃σ' H',Inv X eU σ' H' s'/\D.nx σ' H'
 |.brk=>∃σ' H',Inv X eU σ' H' s'/\D.bk σ' H'
 |.cont=>∃σ' H',Inv X eU σ' H' s'/\D.ct σ' H'
 |.ret u=>∃v σ' H',Inv X eU σ' H' s'/\RelV v u/\D.rt v H'
def PE(X:Cx)(e:Expr)(t:TE):Prop:=
 ∀(eU:List (Addr×Obj)) (s:Shared) (σ:St) (H:Hp) (Q:VK),Inv X eU σ H s->t σ H Q->wpAny (model X.prog X.w) X.A (eval e X.env) (EP X eU σ Q) X.xe s
def PT(X:Cx)(e:Expr)(t:TT):Prop:=
 ∀(eU:List (Addr×Obj)) (s:Shared) (σ:St) (H:Hp) (Q:Bool->Hp->Prop),Inv X eU σ H s->t σ H Q->wpAny (model X.prog X.w) X.A (isTrue e X.env (eval e X.env)) (TP X eU σ Q) X.xe s
def PW(X:Cx)(e:Expr)(t:TT):Prop:=
 ∀(whole:Sem Value) (eU:List (Addr×Obj)) (s:Shared) (σ:St) (H:Hp) (Q:Bool->Hp->Prop),Inv X eU σ H s->t σ H Q->wpAny (model X.prog X.w) X.A (isTrue e X.env whole) (TP X eU σ Q) X.xe s
theorem PW.pt{X:Cx}{e:Expr}{t:TT}(h:PW X e t):PT X e t:=h _
def PA(X:Cx)(es:List Expr)(t:TA):Prop:=
 ∀(pos:Pos) (eU:List (Addr×Obj)) (s:Shared) (σ:St) (H:Hp) (Q:List V->Hp->Prop),Inv X eU σ H s->t σ H Q->wpAny (model X.prog X.w) X.A (spliced (backTo pos (starEach es X.env))) (AP X eU σ Q) X.xe s
def PS(X:Cx)(st:Stmt)(t:TS):Prop:=
 ∀(eU:List (Addr×Obj)) (s:Shared) (σ:St) (H:Hp) (D:Ends),Inv X eU σ H s->t D σ H->wpAny (model X.prog X.w) X.A (exec st X.env) (SP X eU D) X.xe s
def PSs(X:Cx)(st:List Stmt)(t:TS):Prop:=
 ∀(eU:List (Addr×Obj)) (s:Shared) (σ:St) (H:Hp) (D:Ends),Inv X eU σ H s->t D σ H->wpAny (model X.prog X.w) X.A (execs st X.env) (SP X eU D) X.xe s
theorem thn{α:Type}{t:Sem α}{Q Q':α->Shared->Prop}{M:Model}{A:Around}{E:Value->Shared->Prop}{s:Shared}(h:wpAny M A t Q E s)(hQ:∀a s,Q a s->Q' a s):wpAny M A t Q' E s:=wpAny_mono h hQ fun _ _ x=>x
section
variable{X:Cx}
section
variable{Q:Value->Shared->Prop}{eU:List (Addr×Obj)}{u:Value}{x:Str}{s:Shared}{σ:St}{H:Hp}{t:TE}{v:V}
def B6(i:Nat):TE:=fun σ H Q=>∃v,σ[i]?=some (some v)/\Q v H
def tC(v:V):TE:=fun _ H Q=>Q v H
theorem uy{i:Nat}{pos:Pos}(hN:X.N[i]?=some x)(hv:Vis X.env.scope x)(hd:(x == ("__debug__" : Str))=false:=by decide)(Rv:(x == ("__classdict__" : Str))=false:=by decide):PE X (.Name x pos) (B6 i):=by
 intro eU s σ H Q I h;obtain⟨v,e,h⟩:=h;obtain⟨m,hn,hl⟩:=I.loc;obtain⟨u,r,l⟩:=hl i x v hN e hv;have Rt:EP X eU σ Q u s:=⟨v,H,I,r,h⟩
 rcases l with⟨hk,hm⟩ | ⟨hk,c,hc,hcell⟩
 ·exact wpAny_Name (wpAny_loadName_local I.ok.kind hk hn hm Rt) hd
 ·rcases hk with hk | hk
  ·exact wpAny_Name (wpAny_loadName_cell I.ok.kind hk hc hcell Rt) hd
  ·exact wpAny_Name (wpAny_loadName_free I.ok.kind hk hc hcell Rt Rv) hd
theorem Fb{i j pos}:PE X (.Constant (.int i) j pos) (tC (.int i)):=fun _ _ _ H _ I h=>wpAny_Constant_int ⟨.int i,H,I.tok _,⟨_,rfl⟩,h⟩
theorem Ij{b j pos}:PE X (.Constant (.bool b) j pos) (tC (.bl b)):=fun _ _ _ H _ I h=>Constant_bool ⟨.bl b,H,I,rfl,h⟩
theorem Fc{j pos}:PE X (.Constant .none j pos) (tC .non):=fun _ _ _ H _ I h=>Constant_none ⟨.non,H,I,rfl,h⟩
theorem Fd{x j pos}:PE X (.Constant (.str x) j pos) (tC (.str x)):=fun _ _ _ H _ I h=>Calls.Constant_str ⟨.str x,H,I.tok _,⟨_,rfl⟩,h⟩
def Gl(X:Cx)(x:Str):Prop:=X.env.kindOf x=some .globalImplicit
theorem jR{E:Value->Shared->Prop}{pos:Pos}(I:Inv X eU σ H s)(hg:Gl X x)(hm:X.mg x=some u)(h:Q u s)
  (hd:(x == ("__debug__" : Str))=false:=by decide):wpAny (model X.prog X.w) X.A (eval (.Name x pos) X.env) Q E s:=
 Calls.Name_function_global I.ok.kind hg (Calls.loadGlobal_global (by rw[I.ok.glob];exact I.mod.glob.keeps I.bk) hm h) hd
theorem eT{E:Value->Shared->Prop}{pos:Pos}(I:Inv X eU σ H s)(hg:Gl X x)(hm:X.mg x=none)(hv:bootBuiltins x=some u)(h:Q u s)
  (hn:x ≠ "__name__" := by decide) (hd:(x == ("__debug__" : Str))=false:=by decide):wpAny (model X.prog X.w) X.A (eval (.Name x pos) X.env) Q E s:=by
 obtain⟨mb,h1,h2⟩:=I.mod.blt;exact Calls.Name_function_global I.ok.kind hg (Calls.loadGlobal_builtin (by rw[I.ok.glob];exact I.mod.glob.keeps I.bk) hm (by rw[I.ok.blt];exact h1.keeps I.bk) ((h2 x hn).trans hv) h) hd
theorem lZ{pos:Pos}(hg:Gl X x)(hm:X.mg x=some u)(r:RelV v u)(hd:(x == ("__debug__" : Str))=false:=by decide):PE X (.Name x pos) (tC v):=
 fun _ _ _ H _ I h=>jR I hg hm ⟨v,H,I,r,h⟩ hd
theorem vH{pos:Pos}(hg:Gl X x)(hm:X.mg x=none)(hv:bootBuiltins x=some u)(r:RelV v u)(hn:x ≠ "__name__" := by decide)(hd:(x == ("__debug__" : Str))=false:=by decide):PE X (.Name x pos) (tC v):=
 fun _ _ _ H _ I h=>eT I hg hm hv ⟨v,H,I,r,h⟩ hn hd
variable{a b:Expr}{ta tb:TE}{pos:Pos}
def tB(t:TE):TT:=fun σ H Q=>t σ H fun x H1=>∃c,x=.bl c/\Q c H1
theorem Fe{e:Expr}(h:PE X e t)(he:∀whole,isTrue e X.env whole=(do let v <- whole;standAt e.pos;holding [v] (truthy v)):=by intro _;rfl):PT X e (tB t):=by intro eU s σ H Q I hw;refine isTrue_plain (thn (h eU s σ H _ I hw) fun v s1 ⟨x,H1,I1,r1,q1⟩=>?_) (he _);obtain⟨d,rfl,q⟩:=q1;cases r1;exact wpAny_truthy_bool ⟨H1,I1,q⟩
variable{tA tB':TT}{yi:List Expr}
def bI(t u:TT):TT:=fun σ H Q=>t σ H fun c H1=>if c=true then u σ H1 Q else Q false H1
def tOr(t u:TT):TT:=fun σ H Q=>t σ H fun c H1=>if c=true then Q true H1 else u σ H1 Q
def aV(t:TT):TT:=fun σ H Q=>t σ H fun c H1=>Q (!c) H1
theorem pw_and1(ha:PT X a tA):PW X (.BoolOp .And [a] pos) tA:=by
 intro wh eU s σ H Q I h;refine isTrue_and (thn (ha eU s σ H Q I h) fun c s1 e=>?_);cases c with
 |true=>exact isTrue_and_nil e
 |false=>exact e
theorem pw_or1(ha:PT X a tA):PW X (.BoolOp .Or [a] pos) tA:=by
 intro wh eU s σ H Q I h;refine isTrue_or (thn (ha eU s σ H Q I h) fun c s1 e=>?_);cases c with
 |false=>exact isTrue_or_nil e
 |true=>exact e
theorem pw_and(ha:PT X a tA)(hb:PW X (.BoolOp .And (b::yi) pos) tB'):PW X (.BoolOp .And (a::b::yi) pos) (bI tA tB'):=by
 intro wh eU s σ H Q I h;refine isTrue_and (thn (ha eU s σ H _ I h) fun c s1 ⟨H1,I1,q1⟩=>?_);cases c with
 |true=>exact hb wh eU s1 σ H1 Q I1 q1
 |false=>exact⟨H1,I1,q1⟩
theorem pw_or(ha:PT X a tA)(hb:PW X (.BoolOp .Or (b::yi) pos) tB'):PW X (.BoolOp .Or (a::b::yi) pos) (tOr tA tB'):=by
 intro wh eU s σ H Q I h;refine isTrue_or (thn (ha eU s σ H _ I h) fun c s1 ⟨H1,I1,q1⟩=>?_);cases c with
 |true=>exact⟨H1,I1,q1⟩
 |false=>exact hb wh eU s1 σ H1 Q I1 q1
theorem Ff(ha:PT X a tA):PT X (.UnaryOp .Not a pos) (aV tA):=by intro eU s σ H Q I h;exact isTrue_not (ha eU s σ H (fun c H1=>Q (!c) H1) I h)
def D_(ta tb:TE):TE:=fun σ H Q=>ta σ H fun x H1=>∃c,x=.bl c/\if c=true then tb σ H1 Q else Q (.bl false) H1
def Ea(ta:TE):TE:=fun σ H Q=>ta σ H fun x H1=>∃c,x=.bl c/\Q (.bl (!c)) H1
theorem Fg{op}(h:PE X a t):PE X (.BoolOp op [a] pos) t:=fun eU s σ H Q I hw=>BoolOp_one (h eU s σ H Q I hw)
theorem Fi(ha:PE X a ta)(hb:PE X (.BoolOp .And (b::yi) pos) tb):PE X (.BoolOp .And (a::b::yi) pos) (D_ ta tb):=by
 intro eU s σ H Q I h;refine BoolOp_and (thn (ha eU s σ H _ I h) fun v s1 ⟨x,H1,I1,r1,q1⟩=>?_);obtain⟨c,rfl,q1⟩:=q1;cases r1;refine wpAny_truthy_bool ?_;cases c with
 |true=>exact hb eU s1 σ H1 Q I1 q1
 |false=>exact⟨.bl false,H1,I1,rfl,q1⟩
theorem Fj(ha:PE X a ta):PE X (.UnaryOp .Not a pos) (Ea ta):=by intro eU s σ H Q I h;refine UnaryOp_ (thn (ha eU s σ H _ I h) fun v s1 ⟨x,H1,I1,r1,q1⟩=>?_);obtain⟨c,rfl,q1⟩:=q1;cases r1;exact not_of (wpAny_truthy_bool ⟨.bl (!c),H1,I1,rfl,q1⟩)
def tIf(t:TT)(ta tb:TE):TE:=fun σ H Q=>t σ H fun c H1=>if c=true then ta σ H1 Q else tb σ H1 Q
theorem yP{c:Expr}(hc:PT X c tA)(ha:PE X a ta)(hb:PE X b tb):PE X (.IfExp c a b pos) (tIf tA ta tb):=by
 intro eU s σ H Q I h;refine wpAny_IfExp (thn (hc eU s σ H _ I h) fun d s1 ⟨H1,I1,q1⟩=>?_);cases d with
 |true=>exact ha eU s1 σ H1 Q I1 q1
 |false=>exact hb eU s1 σ H1 Q I1 q1
end
end
def SqL(K:Mv)(H:Hp)(a:Addr)(xs:List V):Prop:=
 Rd H a (.lst xs) \/
  ∃(o:Obj) (its:Array Value) (n:Nat),K.lookup a=some o/\o.cls=.type "list" /\ o.dict=none/\o.data=.seq its n/\its.size<=sizeLine/\Vals xs its.toList
def SqT(K:Mv)(H:Hp)(a:Addr)(xs:List V):Prop:=
 Rd H a (.tup xs) \/
  ∃(o:Obj) (its:Array Value) (n:Nat),K.lookup a=some o/\o.cls=.type "tuple" /\ o.data=.seq its n/\its.size<=sizeLine/\Vals xs its.toList
noncomputable def Ln:Value->Option V
 |.none=>some .non
 |.bool b=>some (.bl b)
 |.int i _=>some (.int i)
 |.str x _=>some (.str x)
 |.bytes b _=>some (.byt b)
 |.float b _=>some (.flt b)
 |.ref a=>some (.ref a)
 |.type n=>some (.ty n)
 |_=>none
theorem RelV.abs{x:V}{u:Value}(r:RelV x u):Ln u=some x:=by
 cases x with
 |non=>cases r;rfl
 |bl _=>cases r;rfl
 |int _=>obtain⟨t,rfl⟩:=r;rfl
 |str _=>obtain⟨t,rfl⟩:=r;rfl
 |byt _=>obtain⟨t,rfl⟩:=r;rfl
 |flt _=>obtain⟨t,rfl⟩:=r;rfl
 |ref _=>cases r;rfl
 |ty _=>cases r;rfl
theorem RelV.inj{x y:V}{u:Value}(r:RelV x u)(q:RelV y u):x=y:=Option.some.inj (r.abs.symm.trans q.abs)
theorem Vals.inj:∀{xs ys:List V} {us:List Value},Vals xs us->Vals ys us->xs=ys
 |_,_,_,.nil,.nil=>rfl
 |_,_,_,.cons r t,.cons r' t'=>by rw[r.inj r',Vals.inj t t']
section
variable{X:Cx}{eU:List (Addr×Obj)}{σ:St}{H:Hp}{s:Shared}{a:Addr}{xs ys:List V}
theorem SqT.of{K:Mv}(h:H a=some (.tup xs)):SqT K H a xs:=.inl (.inl h)
theorem Inv.list(I:Inv X eU σ H s)(h:SqL X.K H a xs):∃its:List Value,Vals xs its/\PlainL s.heap a its.toArray/\xs.length<=sizeLine:=by
 rcases h with h | ⟨o,its,n,hk,hc,hd,hs,hz,r⟩
 ·obtain⟨z,its,n,r,e⟩:=h.ok I.hok;exact⟨its,r,⟨_,n,e,rfl,rfl,rfl⟩,z⟩
 ·refine⟨its.toList,r,⟨o,n,I.kIn a o hk,hc,hd,by simpa using hs⟩,?_⟩;have e:=r.length;simp only[OP]at e
  lia
theorem Inv.tuple(I:Inv X eU σ H s)(h:SqT X.K H a xs):∃its:List Value,Vals xs its/\IsTup s.heap a its.toArray/\xs.length<=sizeLine:=by
 rcases h with h | ⟨o,its,n,hk,hc,hs,hz,r⟩
 ·obtain⟨z,its,r,p⟩:=h.ok I.hok;exact⟨its,r,p,z⟩
 ·refine⟨its.toList,r,⟨o,I.kIn a o hk,hc,n,by simpa using hs⟩,?_⟩;have e:=r.length;simp only[OP]at e
  lia
theorem Inv.gD(I:Inv X eU σ H s)(h:SqL X.K H a xs)(h':SqL X.K H a ys):xs=ys:=by
 obtain⟨its,r,⟨o,n,e,_,_,d⟩,_⟩:=I.list h;obtain⟨its',r',⟨o',n',e',_,_,d'⟩,_⟩:=I.list h';rw[e]at e';cases e';rw[d]at d';injection d' with d1 _
 have:its=its':=by simpa using congrArg Array.toList d1
 subst this;exact r.inj r'
theorem Inv.xx(I:Inv X eU σ H s)(h:SqT X.K H a xs)(h':SqT X.K H a ys):xs=ys:=by
 obtain⟨its,r,⟨o,e,_,n,d⟩,_⟩:=I.tuple h;obtain⟨its',r',⟨o',e',_,n',d'⟩,_⟩:=I.tuple h';rw[e]at e';cases e';rw[d]at d';injection d' with d1 _
 have:its=its':=by simpa using congrArg Array.toList d1
 subst this;exact r.inj r'
end
noncomputable abbrev Cx.pA(X:Cx)(E:Value->Shared->Prop):Cx:={ X with xe:=E }
noncomputable abbrev Cx.nox(X:Cx):Cx:=X.pA fun _ _=>False
theorem Cx.Ok.pA{X:Cx}(ok:X.Ok)(E:Value->Shared->Prop):(X.pA E).Ok:=
 ⟨ok.mod,ok.kind,ok.glob,ok.blt,ok.above,ok.inj,ok.has,ok.cab,ok.hd,ok.frames,ok.stk,ok.exf,ok.bs,ok.bsz,ok.yO,ok.B5,ok.lP,ok.frf⟩
theorem Cx.Ok.gE{X:Cx}{E:Value->Shared->Prop}(ok:(X.pA E).Ok):X.Ok:=
 ⟨ok.mod,ok.kind,ok.glob,ok.blt,ok.above,ok.inj,ok.has,ok.cab,ok.hd,ok.frames,ok.stk,ok.exf,ok.bs,ok.bsz,ok.yO,ok.B5,ok.lP,ok.frf⟩
section
variable{X:Cx}{eU:List (Addr×Obj)}{σ:St}{H:Hp}{s:Shared}{E:Value->Shared->Prop}
theorem Inv.pA(I:Inv X eU σ H s)(E:Value->Shared->Prop):Inv (X.pA E) eU σ H s:=⟨I.ok.pA E,I.os,I.bare,I.base,I.loc,I.cell,I.free,I.eO,I.pin,I.hok,I.len⟩
theorem Inv.gE(I:Inv (X.pA E) eU σ H s):Inv X eU σ H s:=⟨I.ok.gE,I.os,I.bare,I.base,I.loc,I.cell,I.free,I.eO,I.pin,I.hok,I.len⟩
theorem SP.gE{D:Ends}{f:Flow}{s':Shared}(h:SP (X.pA E) eU D f s'):SP X eU D f s':=by
 cases f with
 |next=>obtain⟨σ',H',I,q⟩:=h;exact⟨σ',H',I.gE,q⟩
 |brk=>obtain⟨σ',H',I,q⟩:=h;exact⟨σ',H',I.gE,q⟩
 |cont=>obtain⟨σ',H',I,q⟩:=h;exact⟨σ',H',I.gE,q⟩
 |ret u=>obtain⟨v,σ',H',I,r,q⟩:=h;exact⟨v,σ',H',I.gE,r,q⟩
theorem PSs.nox{st:List Stmt}{t:TS}(h:PSs X.nox st t):PSs X st t:=fun eU s σ H D I hw=>wpAny_mono (h eU s σ H D (I.pA _) hw) (fun _ _ q=>q.gE) fun _ _ z=>MX z
end
section
variable{X:Cx}{st:Stmt}{yi:List Stmt}{t u:TS}{e:Expr}{te:TE}{pos:Pos}
def Eb:TS:=fun D σ H=>D.nx σ H
def Ik(t u:TS):TS:=fun D σ H=>t { D with nx:=u D } σ H
theorem B7:PSs X [] Eb:=fun _ _ σ H _ I h=>wpAny_execs_nil ⟨σ,H,I,h⟩
theorem rG(h1:PS X st t)(h2:PSs X yi u):PSs X (st::yi) (Ik t u):=by
 intro eU s σ H D I h;refine wpAny_execs_cons (thn (h1 eU s σ H { D with nx:=u D } I h) fun f s1 q=>?_);cases f with
 |next=>obtain⟨σ',H',I',q⟩:=q;exact h2 eU s1 σ' H' D I' q
 |ret v=>exact q
 |brk=>exact q
 |cont=>exact q
theorem B8(h1:PS X st t):PSs X [st] t:=by
 intro eU s σ H D I h;refine wpAny_execs_cons (thn (h1 eU s σ H D I h) fun f s1 q=>?_);cases f with
 |next=>exact wpAny_execs_nil q
 |ret v=>exact q
 |brk=>exact q
 |cont=>exact q
theorem Inv.quiet{eU:List (Addr×Obj)}{σ:St}{H:Hp}{s:Shared}(I:Inv X eU σ H s):interactive X.env=false:=by simp[interactive,I.ok.kind]
def yQ(te:TE):TS:=fun D σ H=>te σ H fun _ H1=>D.nx σ H1
theorem qo(he:PE X e te)(hs:swapsWith e none pos.line X.env=pure false:=by rfl):PS X (.Expr e pos) (yQ te):=by intro eU s σ H D I h;exact wpAny_Expr_any (thn (he eU s σ H _ I h) fun v s1 ⟨x,H1,I1,r1,q1⟩=>⟨σ,H1,I1,q1⟩) I.quiet hs
def Il(te:TE):TS:=fun D σ H=>te σ H D.rt
theorem Fl(he:PE X e te):PS X (.Return (some e) pos) (Il te):=by intro eU s σ H D I h;exact wpAny_Return_some (thn (he eU s σ H _ I h) fun v s1 ⟨x,H1,I1,r1,q1⟩=>⟨x,σ,H1,I1,r1,q1⟩)
def Im(c:TT)(t u:TS):TS:=fun D σ H=>c σ H fun b H1=>if b=true then t D σ H1 else u D σ H1
theorem Ec{c:Expr}{a b:List Stmt}{tc:TT}(hc:PT X c tc)(ha:PSs X a t)(hb:PSs X b u):PS X (.If c a b pos) (Im tc t u):=by
 intro eU s σ H D I h;refine wpAny_If (thn (hc eU s σ H _ I h) fun d s1 ⟨H1,I1,q1⟩=>?_);cases d with
 |true=>exact ha eU s1 σ H1 D I1 q1
 |false=>exact hb eU s1 σ H1 D I1 q1
def Fo:TS:=fun _ _ _=>False
theorem yR:PS X st Fo:=fun _ _ _ _ _ _ h=>h.elim
end
noncomputable abbrev TG:=V->St->Hp->(St->Hp->Prop)->Prop
noncomputable abbrev TGs:=List V->St->Hp->(St->Hp->Prop)->Prop
def PG(X:Cx)(target:Expr)(t:TG):Prop:=
 ∀(eU:List (Addr×Obj)) (s:Shared) (σ:St) (H:Hp) (v:V) (u:Value) (Q:St->Hp->Prop),Inv X eU σ H s->RelV v u->t v σ H Q ->
  wpAny (model X.prog X.w) X.A (assign target X.env u) (fun _ s'=>∃σ' H',Inv X eU σ' H' s'/\Q σ' H') X.xe s
def PGs(X:Cx)(ts:List Expr)(t:TGs):Prop:=
 ∀(eU:List (Addr×Obj)) (s:Shared) (σ:St) (H:Hp) (vs:List V) (us:List Value) (Q:St->Hp->Prop),Inv X eU σ H s->Vals vs us->t vs σ H Q ->
  wpAny (model X.prog X.w) X.A (assignInOrder ((assignEach ts X.env).map (·.2)) us) (fun _ s'=>∃σ' H',Inv X eU σ' H' s'/\Q σ' H') X.xe s
noncomputable abbrev Fp:=V->V->V->Hp->(Hp->Prop)->Prop
def Io(X:Cx)(t:Fp):Prop:=
 ∀(eU:List (Addr×Obj)) (s:Shared) (σ:St) (H:Hp) (o i v:V) (ov iv u:Value) (Q:Hp->Prop),Inv X eU σ H s->RelV o ov->RelV i iv->RelV v u->t o i v H Q ->
  wpAny (model X.prog X.w) X.A (setItem ov iv u) (fun _ s'=>∃H',Inv X eU σ H' s'/\Q H') X.xe s
section
variable{X:Cx}{pos:Pos}
section
variable{es:List Expr}{e:Expr}{i:Nat}{x:Str}{te:TE}
def mE(i:Nat):TG:=fun v σ H Q=>Q (σ.set i (some v)) H
theorem qp(hN:X.N.Nodup)(hi:X.N[i]?=some x)(hx:Loc X.env.scope x)(hf:X.fn x=true\/X.env.scope.names.lookup x=some .local:=by trivial):PG X (.Name x pos) (mE i):=by intro eU s σ H v u Q I r h;exact wpAny_assign_Name (rF I hN hi hx r (fun s' I'=>⟨_,H,I',h⟩) hf)
def Ip:TGs:=fun vs σ H Q=>vs=[]/\Q σ H
def Ed(t:TG)(u:TGs):TGs:=fun vs σ H Q=>∃v r,vs=v::r/\t v σ H fun σ' H'=>u r σ' H' Q
theorem B9:PGs X [] Ip:=by intro eU s σ H vs us Q I r h;obtain⟨e,h⟩:=h;subst e;cases r;exact assignInOrder_nil ⟨σ,H,I,h⟩
theorem yS{t:TG}{u:TGs}(h1:PG X e t)(h2:PGs X es u)
  (hs:(assignEach (e::es) X.env).map (·.2)=assign e X.env::(assignEach es X.env).map (·.2):=by rfl):PGs X (e::es) (Ed t u):=by
 intro eU s σ H vs us Q I r h;obtain⟨v,vr,e1,h⟩:=h;subst e1;cases r with
 |cons r rr=>rw[hs];refine assignInOrder_cons (thn (h1 eU s σ H _ _ _ I r h) fun _ s1 ⟨σ1,H1,I1,q1⟩=>?_);exact h2 eU s1 σ1 H1 _ _ Q I1 rr q1
def Fq(K:Mv)(n:Nat)(t:TGs):TG:=fun v σ H Q=>∃a xs,v=.ref a/\SqT K H a xs/\xs.length=n/\t xs σ H Q
theorem uz{k:Nat}{t:TGs}{n:Nat}(hc:X.calm=true)(h:PGs X es t)
  (hn:(assignEach es X.env).length=n:=by rfl) (hst:(assignEach es X.env).findIdx? (·.1)=none:=by rfl):PG X (.Tuple es k pos) (Fq X.K n t):=by
 intro eU s σ H v u Q I r hw;obtain⟨a,xs,e1,hq,hl,hw⟩:=hw;subst e1;cases r;obtain⟨its,rv,ht,hz⟩:=I.tuple hq;refine assign_Tuple_tuple (I.ok.hd hc) ht (by simp[hn,<- hl,rv.length]) hst fun h' hx=>?_;have I1:Inv X eU σ H { s with heap:=h' }:=I.kept (t':=s.toks) fun b o e=>hx b o (Nb (MS e)) e;exact h eU _ σ H xs _ Q I1 (by simpa using rv) hw
def bD(to ti:TE)(t:Fp):TG:=fun v σ H Q=>to σ H fun o H1=>ti σ H1 fun i H2=>t o i v H2 fun H3=>Q σ H3
theorem Ft{o i:Expr}{to ti:TE}{t:Fp}(ho:PE X o to)(hi:PE X i ti)(hs:Io X t)
  (ha:∀ v,assign (.Subscript o i pos) X.env v=(do
   let ov <- holding [v] (eval o X.env)
   let iv <- holding [v,ov] (eval i X.env)
   standAt pos
   holding [v,ov,iv] (setItem ov iv v)
   release [v,ov,iv] []):=by intro _;rfl):PG X (.Subscript o i pos) (bD to ti t):=by
 intro eU s σ H v u Q I r h;rw[ha];refine wpAny_bind (wpAny_holding (thn (ho eU s σ H _ I h) fun ov s1 ⟨x,H1,I1,r1,q1⟩=>?_));refine wpAny_bind (wpAny_holding (thn (hi eU s1 σ H1 _ I1 q1) fun iv s2 ⟨y,H2,I2,r2,q2⟩=>?_));refine wpAny_bind (wpAny_standAt (wpAny_bind (wpAny_holding (thn (hs eU s2 σ H2 x y v ov iv u _ I2 r1 r2 r q2) fun _ s3 ⟨H3,I3,q3⟩=>?_))));exact wpAny_release ⟨σ,H3,I3,q3⟩
def xy(te:TE)(g:TG):TS:=fun D σ H=>te σ H fun x H1=>g x σ H1 D.nx
theorem yT{tg e:Expr}{g:TG}(he:PE X e te)(hg:PG X tg g)(hs:swapsWithSole [tg] e pos.line X.env=pure false:=by rfl)(hw:swappedStores [tg] e X.env=pure none:=by rfl)
  (h1:(assignEach [tg] X.env).map (·.2)=[assign tg X.env]:=by rfl):PS X (.Assign [tg] e pos) (xy te g):=by
 intro eU s σ H D I h;refine wpAny_Assign_stores (thn (he eU s σ H _ I h) fun v s1 ⟨x,H1,I1,r1,q1⟩=>?_) hs hw;rw[h1];exact thn (hg eU s1 σ H1 x v _ I1 r1 q1) fun _ s2 q=>q
theorem yU{pos':Pos}(hN:X.N.Nodup)(hi:X.N[i]?=some x)(hx:Loc X.env.scope x)(he:PE X e te)(hs:swapsWith e (some (.Name x pos')) pos.line X.env=pure false:=by rfl)(hf:X.fn x=true\/X.env.scope.names.lookup x=some .local:=by trivial) :
  PS X (.Assign [.Name x pos'] e pos) (xy te (mE i)):=by
 intro eU s σ H D I h;refine wpAny_Assign_Name (thn (he eU s σ H _ I h) fun v s1 ⟨y,H1,I1,r1,q1⟩=>?_) hs;exact rF I1 hN hi hx r1 (fun s2 I2=>⟨_,H1,I2,q1⟩) hf
end
end
section
variable{X:Cx}{pos:Pos}
def yV(c:TT)(tb:TS):TS:=fun D σ H=>∃W:Nat->St->Hp->Prop,(∃m,W m σ H)/\∀m σ H,W m σ H ->
 c σ H fun b H1=>if b=true then ∃N:St->Hp->Prop,(∀σ' H',N σ' H'->∃m',m'<m/\W m' σ' H')/\tb { D with nx:=N,ct:=N,bk:=D.nx } σ H1 else D.nx σ H1
theorem yW{c:Expr}{body:List Stmt}{tc:TT}{tb:TS}(hp:PassesOwn (model X.prog X.w) X.A X.env X.xe)(hc:PT X c tc)(hb:PSs X body tb):PS X (.While c body [] pos) (yV tc tb):=by
 intro eU s σ H D I h;obtain⟨W,⟨m0,w0⟩,turn⟩:=h;refine wpAny_While (codeAny_whileLoop (fun n s'=>∃σ' H',Inv X eU σ' H' s'/\W n σ' H') ?_ m0 ⟨σ,H,I,w0⟩);rintro n s1 ⟨σ1,H1,I1,w1⟩;refine wpAny_passesOwn hp (thn (hc eU s1 σ1 H1 _ I1 (turn n σ1 H1 w1)) fun b s2 ⟨H2,I2,q2⟩=>?_);cases b with
 |true=>
  obtain⟨N,hN,q2⟩:=q2;rw[if_pos rfl];refine wpAny_passesOwn hp (thn (hb eU s2 σ1 H2 _ I2 q2) fun f s3 q3=>?_);cases f with
  |next=>obtain⟨σ3,H3,I3,n3⟩:=q3;obtain⟨m',hm,w3⟩:=hN σ3 H3 n3;exact⟨m',hm,σ3,H3,I3,w3⟩
  |cont=>obtain⟨σ3,H3,I3,n3⟩:=q3;obtain⟨m',hm,w3⟩:=hN σ3 H3 n3;exact⟨m',hm,σ3,H3,I3,w3⟩
  |brk=>exact q3
  |ret v=>exact q3
 |false=>rw[if_neg Nh];exact wpAny_execs_nil ⟨σ1,H2,I2,q2⟩
end
section
variable{P:Program}{w:World}{tg:Expr}{s:Shared}
structure It where
 go:Nat->Hp->Prop
 yld:Nat->Hp->V->Hp->Prop
 stop:Nat->Hp->Prop
def pB(X:Cx)(eU:List (Addr×Obj))(H:Hp)(b:Addr):Prop:=
 H b=none/\b≠X.env.locals/\b∉X.fs/\(b∈X.ex\/X.s₀.heap.objs.size<=b)/\(∀x c,X.env.cells.lookup x=some c->c≠b)/\∀p∈X.pn++eU,p.1≠b
theorem Inv.rH{X:Cx}{eU:List (Addr×Obj)}{σ:St}{H H':Hp}{b:Addr}(I:Inv X eU σ H s)(hb:s.heap.objs.size<=b)(hn:H' b=none):pB X eU H' b:=by
 refine⟨hn,NZ (MZ I.lt hb),I.Ll hb,.inr (M6 I.sz hb),fun x c e z=>?_,fun p hp z=>?_⟩
 ·obtain⟨v,q⟩:=I.cell x c e;exact absurd (MZ q.lt (by rw[z];exact hb)) (Nz _)
 ·exact absurd (MZ (MS (I.pin p hp).1) (by rw[z];exact hb)) (Nz _)
structure Turn(P:Program)(w:World)(K:Mv)(tg:Expr)(J:It)(fp:List Addr)(it:Addr)(tn:Nat->Heap->Prop):Prop where
 mem:it∈fp
 obj:∀i h,tn i h->∀b∈fp,∃o,h.get? b=some o/\∀v,o.data≠.cell v
 keep:∀i h h',tn i h->(∀b∈fp,∀o,h.get? b=some o->h'.get? b=some o)->tn i h'
 item:∀(X:Cx),X.prog=P->X.w=w->X.K=K->X.calm=true->∀(i:Nat) (eU:List (Addr×Obj)) (s:Shared) (σ:St) (H:Hp) (E:Value->Shared->Prop),Inv X eU σ H s->(∀b∈fp,pB X eU H b)->tn i s.heap->J.go i H ->
  wpAny (model P w) X.A (pyNext (.ref it)) (fun r s1=>∃ u,r=some u ∧
   wpAny (model P w) X.A (letOwnedTupleGo tg (.ref it) u) (fun _ s2=>∃x H',Inv X eU σ H' s2/\RelV x u/\J.yld i H x H'/\tn (i+1) s2.heap/\∀b∈fp,H' b=none) E s1) E s
 done:∀(X:Cx),X.prog=P->X.w=w->X.K=K->X.calm=true->∀(i:Nat) (eU:List (Addr×Obj)) (s:Shared) (σ:St) (H:Hp) (E:Value->Shared->Prop),Inv X eU σ H s->(∀b∈fp,pB X eU H b)->tn i s.heap->J.stop i H ->
  wpAny (model P w) X.A (pyNext (.ref it)) (fun r s1=>r=none/\Inv X eU σ H s1) E s
 self:∀(A:Around) (i:Nat) (s:Shared) (Q:Value->Shared->Prop) (E:Value->Shared->Prop),tn i s.heap->Q (.ref it) s->wpAny (model P w) A (pyIter (.ref it)) Q E s
noncomputable abbrev TI:=St->Hp->(It->Hp->Prop)->Prop
def PIE(X:Cx)(eU:List (Addr×Obj))(σ:St)(tg:Expr)(R:It->Hp->Prop)(itv:Value)(s2:Shared):Prop:=
 ∃(it:Addr) (fp:List Addr) (tn:Nat->Heap->Prop) (J:It) (H':Hp),itv=.ref it/\Inv X eU σ H' s2/\Turn X.prog X.w X.K tg J fp it tn/\tn 0 s2.heap/\(∀b∈fp,pB X eU H' b)/\R J H'
def PI(X:Cx)(tg iter:Expr)(wi:TI):Prop:=
 ∀(eU:List (Addr×Obj)) (s:Shared) (σ:St) (H:Hp) (R:It->Hp->Prop),Inv X eU σ H s->wi σ H R ->
  wpAny (model X.prog X.w) X.A (eval iter X.env) (fun v s1=>wpAny (model X.prog X.w) X.A (pyIter v) (PIE X eU σ tg R) X.xe s1) X.xe s
theorem pM{M:Model}{A:Around}{E:Value->Shared->Prop}{tg:Expr}{it:Addr}{u:Value}{o:Obj}{n:String}{vs:Array Value}{Q:Unit->Shared->Prop}(ho:s.heap.get? it=some o)(hc:o.cls=.type n)(hd:o.data=.fields vs)
  (hn:["enumerate","zip","dict_itemiterator","dict_reverseitemiterator","odict_iterator","itertools.zip_longest","itertools.pairwise"].contains n=false) (hQ:Q () s):wpAny M A (letOwnedTupleGo tg (.ref it) u) Q E s:=by
 unfold letOwnedTupleGo;cases tg<;>first
  |exact wpAny_pure hQ
  | (cases u<;>first
    |exact wpAny_pure hQ
    | (refine wpAny_bind (wpAny_load ho ?_)
       rw[hc,hd];show wpAny M A (if (["enumerate","zip","dict_itemiterator","dict_reverseitemiterator","odict_iterator","itertools.zip_longest","itertools.pairwise"].contains n&&vs[0]? == some (rawInt _))=true then _ else _) Q E s;rw[if_neg (by intro h;rw[hn,Bool.false_and]at h;cases h)];exact wpAny_pure hQ))
noncomputable def Itl(K:Mv)(a:Addr):It:=
 ⟨fun i H=>∃xs x,SqL K H a xs/\xs[i]?=some x,fun i H x H'=>H'=H/\∀xs,SqL K H a xs->xs[i]?=some x,fun i H=>∃xs,SqL K H a xs/\xs.length<=i⟩
noncomputable def Itt(K:Mv)(a:Addr):It:=
 ⟨fun i H=>∃xs x,SqT K H a xs/\xs[i]?=some x,fun i H x H'=>H'=H/\∀xs,SqT K H a xs->xs[i]?=some x,fun i H=>∃xs,SqT K H a xs/\xs.length<=i⟩
noncomputable def Itr(lo:Int)(n:Nat):It:=⟨fun i _=>i<n,fun i H x H'=>H'=H/\x=.int (lo+i),fun i _=>n<=i⟩
theorem xA{K:Mv}(a it:Addr):Turn P w K tg (Itl K a) [it] it (fun i h=>h.IsListIter it a i) where
 mem:=by simp
 obj:=fun i h st b hb=>by
  have e:b=it:=by simpa using hb
  subst e;obtain⟨o,e,c,d⟩:=st;exact⟨o,e,fun v z=>by rw[d]at z;cases z⟩
 keep:=fun i h h' st k=>st.at fun o e=>k it (by simp) o e
 item:=by intro X hP hw hK hc i eU s σ H E I hf st hg;subst hP hw hK;obtain⟨xs,x,hq,hx⟩:=hg;obtain⟨its,rv,p,hz⟩:=I.list hq;obtain⟨u,hu,ru⟩:=rv.get hx;obtain⟨f0,f1,f2,f3,f4,f5⟩:=hf it (by simp);refine wpAny_pyNext_list_item st p.isList (x:=u) (by simpa using hu) fun h' st' sb=>?_;have I1:Inv X eU σ H { s with heap:=h' }:=I.turned (t':=s.toks) (fun b o hb e=>(sb.2 b hb).trans e) f0 f1 f3 f4 f5;obtain⟨o,e,c,d⟩:=id st';exact⟨u,rfl,pM (s:={ s with heap:=h' }) e c d (by decide) ⟨x,H,I1,ru,⟨rfl,fun ys hy=>by rw[I.gD hy hq];exact hx⟩,st',fun b hb=>(hf b hb).1⟩⟩
 done:=by intro X hP hw hK hc i eU s σ H E I hf st hg;subst hP hw hK;obtain⟨xs,hq,hx⟩:=hg;obtain⟨its,rv,p,hz⟩:=I.list hq;obtain⟨f0,f1,f2,f3,f4,f5⟩:=hf it (by simp);have hl:=rv.length;exact wpAny_pyNext_list_end (I.ok.hd hc) st p.isList (by simp;lia) fun h' eb=>⟨rfl,I.turned (t':=s.toks) (fun b o hb e=>eb b o hb e) f0 f1 f3 f4 f5⟩
 self:=fun _ _ _ _ _ st h=>wpAny_pyIter_listiter st h
theorem uA{K:Mv}(a it:Addr):Turn P w K tg (Itt K a) [it] it (fun i h=>h.IsTupleIter it a i) where
 mem:=by simp
 obj:=fun i h st b hb=>by
  have e:b=it:=by simpa using hb
  subst e;obtain⟨o,e,c,d⟩:=st;exact⟨o,e,fun v z=>by rw[d]at z;cases z⟩
 keep:=fun i h h' st k=>st.at fun o e=>k it (by simp) o e
 item:=by intro X hP hw hK hc i eU s σ H E I hf st hg;subst hP hw hK;obtain⟨xs,x,hq,hx⟩:=hg;obtain⟨its,rv,p,hz⟩:=I.tuple hq;obtain⟨u,hu,ru⟩:=rv.get hx;obtain⟨f0,f1,f2,f3,f4,f5⟩:=hf it (by simp);refine wpAny_pyNext_tuple_item st (show s.heap.IsTuple a its.toArray from p) (x:=u) (by simpa using hu) fun h' st' sb=>?_;have I1:Inv X eU σ H { s with heap:=h' }:=I.turned (t':=s.toks) (fun b o hb e=>(sb.2 b hb).trans e) f0 f1 f3 f4 f5;obtain⟨o,e,c,d⟩:=id st';exact⟨u,rfl,pM (s:={ s with heap:=h' }) e c d (by decide) ⟨x,H,I1,ru,⟨rfl,fun ys hy=>by rw[I.xx hy hq];exact hx⟩,st',fun b hb=>(hf b hb).1⟩⟩
 done:=by intro X hP hw hK hc i eU s σ H E I hf st hg;subst hP hw hK;obtain⟨xs,hq,hx⟩:=hg;obtain⟨its,rv,p,hz⟩:=I.tuple hq;obtain⟨f0,f1,f2,f3,f4,f5⟩:=hf it (by simp);have hl:=rv.length;exact wpAny_pyNext_tuple_end (I.ok.hd hc) st (show s.heap.IsTuple a its.toArray from p) (by simp;lia) fun h' eb=>⟨rfl,I.turned (t':=s.toks) (fun b o hb e=>eb b o hb e) f0 f1 f3 f4 f5⟩
 self:=fun _ _ _ _ _ st h=>wpAny_pyIter_tupleiter st h
theorem uB{K:Mv}(it:Addr)(lo:Int)(n:Nat):Turn P w K tg (Itr lo n) [it] it (fun i h=>IsRangeIter h it (lo+(i:Nat)*1) ((n:Int)-(i:Nat)) 1) where
 mem:=by simp
 obj:=fun i h st b hb=>by
  have e:b=it:=by simpa using hb
  subst e;exact ⟨_,st,fun v z=>by have z':Pw _=OU v:=z;cases z'⟩
 keep:=fun i h h' st k=>k it (by simp) _ st
 item:=by intro X hP hw hK hc i eU s σ H E I hf st hg;subst hP hw hK;obtain⟨f0,f1,f2,f3,f4,f5⟩:=hf it (by simp);have W:=Walks.range (prog:=X.prog) (w:=X.w) (I.ok.hd hc) it lo 1 n;refine W.item i s _ _ hg st fun v h' tk hv st' kk=>?_;obtain⟨t,rfl⟩:=hv;have I1:Inv X eU σ H { s with heap:=h',toks:=tk }:=I.turned (fun b o hb e=>kk b o (by simpa using hb) e) f0 f1 f3 f4 f5;refine⟨_,rfl,pM (s:={ s with heap:=h',toks:=tk }) (n := "range_iterator") st' rfl rfl (by decide) ⟨.int (lo+i),H,I1,⟨t,?_⟩,⟨rfl,rfl⟩,st',fun b hb=>(hf b hb).1⟩⟩;rw[Int.mul_one]
 done:=by intro X hP hw hK hc i eU s σ H E I hf st hg;subst hP hw hK;obtain⟨f0,f1,f2,f3,f4,f5⟩:=hf it (by simp);exact wpAny_pyNext_range_end (I.ok.hd hc) st (by have:n<=i:=hg;lia) fun h' eb=>⟨rfl,I.turned (t':=s.toks) (fun b o hb e=>eb b o hb e) f0 f1 f3 f4 f5⟩
 self:=fun _ _ _ _ _ st h=>wpAny_pyIter_rangeiter st h
end
section
variable{X:Cx}{tg:Expr}
section
variable{eU:List (Addr×Obj)}{fp:List Addr}{s:Shared}{σ:St}{H:Hp}{l:Expr}{h:Heap}{tl:TE}{ta:TA}
def rJ(K:Mv)(tl:TE):TI:=fun σ H R=>tl σ H fun x H1=>∃a,x=.ref a/\(∃xs,SqL K H1 a xs)/\R (Itl K a) H1
def yX(K:Mv)(tl:TE):TI:=fun σ H R=>tl σ H fun x H1=>∃a,x=.ref a/\(∃xs,SqT K H1 a xs)/\R (Itt K a) H1
theorem vJ(hl:PE X l tl):PI X tg l (rJ X.K tl):=by
 intro eU s σ H R I h;refine thn (hl eU s σ H _ I h) fun v s1 ⟨x,H1,I1,r1,q1⟩=>?_;obtain⟨a,e,⟨xs,hq⟩,q⟩:=q1;subst e;cases r1;obtain⟨its,rv,p,hz⟩:=I1.list hq;refine wpAny_pyIter_list p.isList ?_;refine⟨s1.heap.objs.size,[s1.heap.objs.size],_,_,H1,rfl,I1.kept (t':=s1.toks) fun b o e=>MR _ e,xA a _,⟨_,M9 _ rfl,rfl,rfl⟩,fun b hb=>?_,q⟩;have e:b=s1.heap.objs.size:=by simpa using hb
 subst e;exact I1.rH (MO _) (I1.hok.fresh (MO _))
theorem yY(hl:PE X l tl):PI X tg l (yX X.K tl):=by
 intro eU s σ H R I h;refine thn (hl eU s σ H _ I h) fun v s1 ⟨x,H1,I1,r1,q1⟩=>?_;obtain⟨a,e,⟨xs,hq⟩,q⟩:=q1;subst e;cases r1;obtain⟨its,rv,p,hz⟩:=I1.tuple hq;refine wpAny_pyIter_tuple (show s1.heap.IsTuple a its.toArray from p) ?_;refine⟨s1.heap.objs.size,[s1.heap.objs.size],_,_,H1,rfl,I1.kept (t':=s1.toks) fun b o e=>MR _ e,uA a _,⟨_,M9 _ rfl,rfl,rfl⟩,fun b hb=>?_,q⟩;have e:b=s1.heap.objs.size:=by simpa using hb
 subst e;exact I1.rH (MO _) (I1.hok.fresh (MO _))
theorem rK{R:It->Hp->Prop}{E:Value->Shared->Prop}{lo hi:Int}{t u v:Tok}{tk:Nat}(I:Inv X eU σ H s)(h1:-(2 ^ 62)<=lo)(h2:lo<2 ^ 62)(h3:-(2 ^ 62)<=hi)(h4:hi<2 ^ 62)
  (q:R (Itr lo (hi-lo).toNat) H):wpAny (model X.prog X.w) X.A (pyIter (.ref s.heap.objs.size)) (PIE X eU σ tg R) E { s with heap:=s.heap.push { cls:=.type "range",data:=.fields #[.int lo t,.int hi u,.int 1 v] },toks:=tk }:=by
 refine wpAny_pyIter_range (IsRange.new ..) (small_one h1 h2 h3 h4) ?_;have I1:Inv X eU σ H { s with heap:=s.heap.push { cls:=.type "range",data:=.fields #[.int lo t,.int hi u,.int 1 v] },toks:=tk }:=I.kept fun b o e=>MR _ e;refine ⟨(s.heap.push { cls:=.type "range",data:=.fields #[.int lo t,.int hi u,.int 1 v] }).objs.size,[(s.heap.push { cls:=.type "range",data:=.fields #[.int lo t,.int hi u,.int 1 v] }).objs.size],_,_,H,rfl,
  I1.kept (t':=tk) fun b o e=>MR _ e,uB _ lo (hi-lo).toNat,?_,fun b hb=>?_,q⟩
 ·have e1:lo+((0:Nat):Int)*1=lo:=by simp
  have e2:(((hi-lo).toNat:Nat):Int)-((0:Nat):Int)=NQ lo hi 1:=by rw[rangeSize_one];split<;>lia
  show IsRangeIter _ _ (lo+((0:Nat):Int)*1) ((((hi-lo).toNat:Nat):Int)-((0:Nat):Int)) 1;rw[e1,e2];exact M9 _ rfl
 ·have e:b=(s.heap.push { cls:=.type "range",data:=.fields #[.int lo t,.int hi u,.int 1 v] }).objs.size:=by simpa using hb
  subst e;exact I1.rH (MO _) (I1.hok.fresh (MO _))
def Ef(ta:TA):TI:=fun σ H R=>ta σ H fun vs H1=>∃j:Int,vs=[.int j]/\-(2 ^ 62)<=j/\j<2 ^ 62/\R (Itr 0 j.toNat) H1
def Eg(ta:TA):TI:=fun σ H R=>ta σ H fun vs H1=>∃i j:Int,vs=[.int i,.int j]/\(-(2 ^ 62)<=i/\i<2 ^ 62/\-(2 ^ 62)<=j/\j<2 ^ 62)/\R (Itr i (j-i).toNat) H1
theorem xB{a:Expr}{p pos:Pos}(hg:Gl X "range")(hm:X.mg "range" = none)(ha:PA X [a] ta)(hs:starEach [a] X.env=[(false,eval a X.env)]:=by rfl):PI X tg (.Call (.Name "range" p) [a] [] pos) (Ef ta):=by
 intro eU s σ H R I h;refine Call_ (eT I hg hm boot_range (Na (thn (ha pos eU s σ H _ I h) fun us s1 ⟨vs,H1,I1,r1,q1⟩=>?_) hs rfl));obtain⟨j,e,q1,q2,q⟩:=q1;subst e;cases r1 with
 |cons r rr=>cases rr;obtain⟨t,rfl⟩:=r;exact call_range_1 (rK I1 (by lia) (by lia) q1 q2 (by simpa using q))
theorem xC{a b:Expr}{p pos:Pos}(hg:Gl X "range")(hm:X.mg "range" = none)(ha:PA X [a,b] ta)(hs:starEach [a,b] X.env=[(false,eval a X.env),(false,eval b X.env)]:=by rfl)(hs2:starEach [b] X.env=[(false,eval b X.env)]:=by rfl) :
  PI X tg (.Call (.Name "range" p) [a,b] [] pos) (Eg ta):=by
 intro eU s σ H R I h;refine Call_ (eT I hg hm boot_range (Na (thn (ha pos eU s σ H _ I h) fun us s1 ⟨vs,H1,I1,r1,q1⟩=>?_) (by rw[hs,hs2]) (by rw[hs2];rfl)));obtain⟨i,j,e,⟨q1,q2,q3,q4⟩,q⟩:=q1;subst e;cases r1 with
 |cons r rr=>
  cases rr with
  |cons r' rr=>cases rr;obtain⟨t,rfl⟩:=r;obtain⟨t',rfl⟩:=r';exact call_range_2 (rK I1 q1 q2 q3 q4 q)
def Iq(wi:TI)(g:TG)(tb:TS):TS:=fun D σ H=>wi σ H fun J H1=>∃W:Nat->Nat->St->Hp->Prop,(∃m,W 0 m σ H1)/\∀i m σ H,W i m σ H ->
 (J.stop i H/\D.nx σ H)\/(J.go i H/\∃N:St->Hp->Prop,(∀σ' H',N σ' H'->∃m',m'<m/\W (i+1) m' σ' H')/\∀x H',J.yld i H x H'->g x σ H' fun σ2 H2=>tb { D with nx:=N,ct:=N,bk:=D.nx } σ2 H2)
noncomputable def mF(fp:List Addr)(h:Heap):List (Addr×Obj):=fp.filterMap fun b=>(h.get? b).map fun o=>(b,o)
theorem f_{b:Addr}{o:Obj}(hb:b∈fp)(e:h.get? b=some o):(b,o)∈mF fp h:=Om.mpr ⟨b,hb,by rw[e];rfl⟩
theorem xD{p:Addr×Obj}(hp:p∈mF fp h):p.1∈fp/\h.get? p.1=some p.2:=by
 obtain⟨b,hb,e⟩:=Om.mp hp;cases q:h.get? b with
 |none=>rw[q]at e;cases e
 |some o=>rw[q]at e;have e':(b,o)=p:=Option.some.inj e;subst e';exact⟨hb,q⟩
theorem Inv.pinned(I:Inv X eU σ H s)(hf:∀b∈fp,pB X eU H b)(ho:∀b∈fp,∃o,s.heap.get? b=some o/\∀v,o.data≠.cell v):Inv X (eU++mF fp s.heap) σ H s:=
 I.vG fun p hp=>(Nf.mp hp).elim (fun z=>I.pin p (Nm _ z)) fun z=>by obtain⟨hb,e⟩:=xD z;obtain⟨f0,f1,f2,_⟩:=hf p.1 hb;obtain⟨o,e',d⟩:=ho p.1 hb;rw[e]at e';cases e';exact⟨e,f0,f1,f2,d⟩
theorem Inv.jS{eU pl:List (Addr×Obj)}(I:Inv X (eU++pl) σ H s):Inv X eU σ H s:=I.vG fun p hp=>I.pin p (Nm _ (OH _ hp))
theorem Fv{iter:Expr}{body:List Stmt}{wi:TI}{g:TG}{tb:TS}{pos:Pos}(hp:PassesOwn (model X.prog X.w) X.A X.env X.xe)(hc:X.calm=true)(hi:PI X tg iter wi)(hg:PG X tg g)(hb:PSs X body tb)
  (hs:∀x,foldedSetIterable iter X.env x=pure x:=by intro _;rfl):PS X (.For tg iter body [] pos) (Iq wi g tb):=by
 intro eU s σ H D I h;refine wpAny_For (thn (hi eU s σ H _ I h) fun v s1 h1=>thn h1 fun itv s2 h2=>?_) hs;obtain⟨it,fp,tn,J,H2,e,I2,T,st2,f2,W,⟨m0,w0⟩,turn⟩:=h2;subst e;have stat:∀{H':Hp},(∀b∈fp,H' b=none)->∀b∈fp,pB X eU H' b:=fun hn b hb=>⟨hn b hb,(f2 b hb).2⟩;refine codeAny_forLoop_any (fun n s'=>∃i σ' H',Inv X eU σ' H' s'/\tn i s'.heap/\(∀b∈fp,H' b=none)/\W i n σ' H') ?_ m0 ⟨0,σ,H2,I2,st2,fun b hb=>(f2 b hb).1,w0⟩;rintro n s3 ⟨i,σ3,H3,I3,st3,fr3,w3⟩;rcases turn i n σ3 H3 w3 with⟨stop,qn⟩ | ⟨go,N,hN,step⟩
 ·refine wpAny_passesOwn hp (thn (T.done X rfl rfl rfl hc i eU s3 σ3 H3 X.xe I3 (stat fr3) st3 stop) fun r s4 ⟨hr,I4⟩=>?_);subst hr;exact wpAny_execs_nil ⟨σ3,H3,I4,qn⟩
 ·refine wpAny_passesOwn hp (thn (T.item X rfl rfl rfl hc i eU s3 σ3 H3 X.xe I3 (stat fr3) st3 go) fun r s4 ⟨u,hr,h4⟩=>?_);subst hr;refine wpAny_passesOwn hp (thn h4 fun _ s5 ⟨x,H5,I5,r5,y5,st5,fr5⟩=>?_);have I5':=I5.pinned (stat fr5) (T.obj _ _ st5);refine wpAny_passesOwn hp (thn (hg _ s5 σ3 H5 x u _ I5' r5 (step x H5 y5)) fun _ s6 ⟨σ6,H6,I6,q6⟩=>?_);refine wpAny_passesOwn hp (thn (hb _ s6 σ6 H6 _ I6 q6) fun f s7 q7=>?_);have again:∀{σ7:St} {H7:Hp},Inv X (eU++mF fp s5.heap) σ7 H7 s7->N σ7 H7->∃m,m<n/\∃i σ' H',Inv X eU σ' H' s7/\tn i s7.heap/\(∀b∈fp,H' b=none)/\W i m σ' H':=fun {σ7 H7} I7 n7=>by
   obtain⟨m',hm,w7⟩:=hN σ7 H7 n7;refine⟨m',hm,i+1,σ7,H7,I7.jS,T.keep _ _ _ st5 fun b hb o e=>(I7.pin (b,o) (Nm _ (Nm _ (f_ hb e)))).1,fun b hb=>?_,w7⟩;obtain⟨o,e,d⟩:=T.obj _ _ st5 b hb;exact(I7.pin (b,o) (Nm _ (Nm _ (f_ hb e)))).2.1
  cases f with
  |next=>obtain⟨σ7,H7,I7,n7⟩:=q7;exact again I7 n7
  |cont=>obtain⟨σ7,H7,I7,n7⟩:=q7;exact again I7 n7
  |brk=>obtain⟨σ7,H7,I7,q7⟩:=q7;exact⟨σ7,H7,I7.jS,q7⟩
  |ret v=>obtain⟨x7,σ7,H7,I7,r7,q7⟩:=q7;exact⟨x7,σ7,H7,I7.jS,r7,q7⟩
end
end
noncomputable abbrev R2:=V->V->Hp->VK->Prop
def OpR(X:Cx)(f:Value->Value->Sem Value)(r:R2):Prop:=
 ∀(eU:List (Addr×Obj)) (s:Shared) (σ:St) (H:Hp) (x y:V) (v u:Value) (Q:VK),Inv X eU σ H s->RelV x v->RelV y u->r x y H Q ->
  wpAny (model X.prog X.w) X.A (f v u) (EP X eU σ Q) X.xe s
def UnR(X:Cx)(f:Value->Sem Value)(r:V->Hp->VK->Prop):Prop:=
 ∀(eU:List (Addr×Obj)) (s:Shared) (σ:St) (H:Hp) (x:V) (v:Value) (Q:VK),Inv X eU σ H s->RelV x v->r x H Q ->
  wpAny (model X.prog X.w) X.A (f v) (EP X eU σ Q) X.xe s
def dP(X:Cx)(f:Value)(r:List V->Hp->VK->Prop):Prop:=
 ∀(eU:List (Addr×Obj)) (s:Shared) (σ:St) (H:Hp) (xs:List V) (us:List Value) (Q:VK),Inv X eU σ H s->Vals xs us->r xs H Q ->
  wpAny (model X.prog X.w) X.A (call f us) (EP X eU σ Q) X.xe s
def tOp(r:R2)(ta tb:TE):TE:=fun σ H Q=>ta σ H fun x H1=>tb σ H1 fun y H2=>r x y H2 Q
def tUn(r:V->Hp->VK->Prop)(ta:TE):TE:=fun σ H Q=>ta σ H fun x H1=>r x H1 Q
def rI(C:Int->Int->Prop)(g:Int->Int->V):R2:=fun x y H Q=>∃i j,x=.int i/\y=.int j/\C i j/\Q (g i j) H
def rI0(g:Int->Int->V):R2:=fun x y H Q=>∃i j,x=.int i/\y=.int j/\Q (g i j) H
def rU(g:Int->V):V->Hp->VK->Prop:=fun x H Q=>∃i,x=.int i/\Q (g i) H
section
variable{X:Cx}{a b c:Expr}{ta tb tc:TE}{pos:Pos}
theorem Fw(ha:PE X a ta)(hb:PE X b tb){eU:List (Addr×Obj)}{s:Shared}{σ:St}{H:Hp}{R:V->V->Hp->Prop}(I:Inv X eU σ H s)
  (h:ta σ H fun x H1=>tb σ H1 fun y H2=>R x y H2) {Q:Value->Shared->Prop} {f:Value->Value->Sem Value}
  (hf:∀v u s2 x y H2,Inv X eU σ H2 s2->RelV x v->RelV y u->R x y H2->wpAny (model X.prog X.w) X.A (f v u) Q X.xe s2) :
  wpAny (model X.prog X.w) X.A (eval a X.env) (fun v s₁=>wpAny (model X.prog X.w) X.A (eval b X.env) (fun u s₂=>wpAny (model X.prog X.w) X.A (f v u) Q X.xe s₂) X.xe s₁) X.xe s:=by
 refine thn (ha eU s σ H _ I h) fun v s1 ⟨x,H1,I1,r1,q1⟩=>?_;refine thn (hb eU s1 σ H1 _ I1 q1) fun u s2 ⟨y,H2,I2,r2,q2⟩=>?_;exact hf v u s2 x y H2 I2 r1 r2 q2
theorem Ir{op:Operator}{r:R2}(ho:OpR X (binaryOp op) r)(ha:PE X a ta)(hb:PE X b tb):PE X (.BinOp a op b pos) (tOp r ta tb):=by intro eU s σ H Q I h;exact wpAny_BinOp (Fw ha hb I h fun v u s2 x y H2 I2 rx ry q=>ho eU s2 σ H2 x y v u Q I2 rx ry q)
theorem Iu{op:UnaryOp}{r:V->Hp->VK->Prop}(ho:UnR X (unaryOp op) r)(ha:PE X a ta):PE X (.UnaryOp op a pos) (tUn r ta):=by intro eU s σ H Q I h;exact UnaryOp_ (thn (ha eU s σ H _ I h) fun v s1 ⟨x,H1,I1,r1,q1⟩=>ho eU s1 σ H1 x v Q I1 r1 q1)
theorem opI{f:Value->Value->Sem Value}{C:Int->Int->Prop}{g:Int->Int->Int}
  (rule:∀(i j:Int) (t u:Tok) (s:Shared) (Q:Value->Shared->Prop) (E:Value->Shared->Prop),C i j->Q (.int (g i j) s.toks) { s with toks:=s.toks+1 }->wpAny (model X.prog X.w) X.A (f (.int i t) (.int j u)) Q E s) :
  OpR X f (rI C fun i j=>.int (g i j)):=by
 intro eU s σ H x y v u Q I rx ry h;obtain⟨i,j,rfl,rfl,hc,q⟩:=h;obtain⟨t,rfl⟩:=rx;obtain⟨t',rfl⟩:=ry;exact rule i j t t' s _ _ hc ⟨.int (g i j),H,I.tok _,⟨_,rfl⟩,q⟩
theorem Iv{f:Value->Value->Sem Value}{g:Int->Int->Int}
  (rule:∀(i j:Int) (t u:Tok) (s:Shared) (Q:Value->Shared->Prop) (E:Value->Shared->Prop),Q (.int (g i j) s.toks) { s with toks:=s.toks+1 }->wpAny (model X.prog X.w) X.A (f (.int i t) (.int j u)) Q E s) :
  OpR X f (rI0 fun i j=>.int (g i j)):=by
 intro eU s σ H x y v u Q I rx ry h;obtain⟨i,j,rfl,rfl,q⟩:=h;obtain⟨t,rfl⟩:=rx;obtain⟨t',rfl⟩:=ry;exact rule i j t t' s _ _ ⟨.int (g i j),H,I.tok _,⟨_,rfl⟩,q⟩
theorem B_{f:Value->Value->Sem Value}{g:Int->Int->Bool}
  (rule:∀(i j:Int) (t u:Tok) (s:Shared) (Q:Value->Shared->Prop) (E:Value->Shared->Prop),Q (.bool (g i j)) s->wpAny (model X.prog X.w) X.A (f (.int i t) (.int j u)) Q E s) :
  OpR X f (rI0 fun i j=>.bl (g i j)):=by
 intro eU s σ H x y v u Q I rx ry h;obtain⟨i,j,rfl,rfl,q⟩:=h;obtain⟨t,rfl⟩:=rx;obtain⟨t',rfl⟩:=ry;exact rule i j t t' s _ _ ⟨.bl (g i j),H,I,rfl,q⟩
def Iw(i j:Int):Prop:=0<=j/\j<=1000000/\i.natAbs<2 ^ 64
def yZ(i j:Int):Prop:=(-(2 ^ 64)<i/\i<2 ^ 64)\/(-(2 ^ 64)<j/\j<2 ^ 64)
theorem yZ.ok{i j:Int}(h:yZ i j):IntMulOk i j:=by
 rcases h with⟨h1,h2⟩ | ⟨h1,h2⟩
 ·exact .of_left (intBits_le_64 h1 h2)
 ·exact .of_right (intBits_le_64 h1 h2)
theorem Fx:OpR X (binaryOp .Add) (rI0 fun i j=>.int (i+j)):=Iv fun _ _ _ _ _ _ _ q=>add_int q
theorem Fy:OpR X (binaryOp .Sub) (rI0 fun i j=>.int (i-j)):=Iv fun _ _ _ _ _ _ _ q=>sub_int q
theorem Fz:OpR X (binaryOp .Mult) (rI yZ fun i j=>.int (i*j)):=opI fun _ _ _ _ _ _ _ hc q=>mul_int q hc.ok
theorem FA:OpR X (binaryOp .Mod) (rI (fun _ j=>0<j) fun i j=>.int (i % j)):=opI fun i j _ _ _ _ _ hc q=>by have h1:(0:Int)<j:=hc;exact mod_int' (by lia) (by rw[Int.fmod_eq_emod_of_nonneg i (by lia)];exact q)
theorem FD:OpR X (binaryOp .Pow) (rI Iw fun i j=>.int (i ^ j.toNat)):=opI fun _ _ _ _ _ _ _ hc q=>pow_int_small hc.1 hc.2.1 hc.2.2 q
theorem unI{f:Value->Sem Value}{g:Int->Int}
  (rule:∀(i:Int) (t:Tok) (s:Shared) (Q:Value->Shared->Prop) (E:Value->Shared->Prop),Q (.int (g i) s.toks) { s with toks:=s.toks+1 }->wpAny (model X.prog X.w) X.A (f (.int i t)) Q E s) :
  UnR X f (rU fun i=>.int (g i)):=by
 intro eU s σ H x v Q I rx h;obtain⟨i,rfl,q⟩:=h;obtain⟨t,rfl⟩:=rx;exact rule i t s _ _ ⟨.int (g i),H,I.tok _,⟨_,rfl⟩,q⟩
theorem FF:UnR X (unaryOp .USub) (rU fun i=>.int (-i)):=unI fun _ _ _ _ _ q=>neg_int q
end
section
variable{X:Cx}{a b c:Expr}{ta tb tc:TE}{pos:Pos}
theorem FG{eU:List (Addr×Obj)}{σ:St}{H:Hp}{s:Shared}{Q:VK}{k k':Bool}(I:Inv X eU σ H s)(q:Q (.bl k) H)(e:k=k'):EP X eU σ Q (.bool k') s:=by subst e;exact⟨.bl k,H,I,rfl,q⟩
theorem Eh:OpR X (compareOp .Lt) (rI0 fun i j=>.bl (decide (i<j))):=B_ fun _ _ _ _ _ _ _ q=>lt_int q
theorem jT:OpR X (compareOp .LtE) (rI0 fun i j=>.bl (decide (i<=j))):=B_ fun _ _ _ _ _ _ _ q=>le_int q
theorem Iz:OpR X (compareOp .Gt) (rI0 fun i j=>.bl (decide (j<i))):=B_ fun _ _ _ _ _ _ _ q=>gt_int q
theorem IA:OpR X (compareOp .GtE) (rI0 fun i j=>.bl (decide (j<=i))):=B_ fun _ _ _ _ _ _ _ q=>ge_int q
theorem xE:OpR X (compareOp .In) (fun x y H Q=>∃i j,x=.str i/\y=.str j/\Q (.bl (!(NR j i 0 j.length 1).isEmpty)) H):=by intro eU s σ H x y v u Q I rx ry h;obtain⟨i,j,rfl,rfl,q⟩:=h;obtain⟨t,rfl⟩:=rx;obtain⟨t',rfl⟩:=ry;exact in_str (FG I q rfl)
theorem OpR.or{f:Value->Value->Sem Value}{r r':R2}(h:OpR X f r)(h':OpR X f r'):OpR X f (fun x y H Q=>r x y H Q\/r' x y H Q):=by
 intro eU s σ H x y v u Q I rx ry q;rcases q with q | q
 ·exact h eU s σ H x y v u Q I rx ry q
 ·exact h' eU s σ H x y v u Q I rx ry q
theorem fL(b:Expr){op:CmpOp}(h:op≠.In:=by decide)(h2:op≠.NotIn:=by decide):behindInMarks op b=false:=by
 have e1:(op == CmpOp.In)=false:=by cases op<;>first | rfl | exact absurd rfl h
 have e2:(op == CmpOp.NotIn)=false:=by cases op<;>first | rfl | exact absurd rfl h2
 cases b<;>simp[behindInMarks,e1,e2]
theorem Ca{op:CmpOp}{r:R2}(ho:OpR X (compareOp op) r)(ha:PE X a ta)(hb:PE X b tb)(hm:behindInMarks op b=false):PE X (.Compare a [op] [b] pos) (tOp r ta tb):=by intro eU s σ H Q I h;exact wpAny_Compare1 (Fw ha hb I h fun v u s2 x y H2 I2 rx ry q=>ho eU s2 σ H2 x y v u Q I2 rx ry q) hm
def y9(t:TE):TT:=fun σ H Q=>t σ H fun x H'=>∃k,x=.bl k/\Q k H'
theorem Cb{op:CmpOp}{r:R2}(ho:OpR X (compareOp op) r)(ha:PE X a ta)(hb:PE X b tb)(hm:behindInMarks op b=false):PT X (.Compare a [op] [b] pos) (y9 (tOp r ta tb)):=by
 intro eU s σ H Q I h;refine wpAny_isTrue_Compare1 (thn (ha eU s σ H _ I h) fun v s1 ⟨x,H1,I1,r1,q1⟩=>thn (hb eU s1 σ H1 _ I1 q1) fun u s2 ⟨y,H2,I2,r2,q2⟩=>thn (ho eU s2 σ H2 x y v u _ I2 r1 r2 q2) fun c s3 ⟨z,H3,I3,r3,k,e,q3⟩=>?_) hm
 subst e;cases r3;exact wpAny_truthy_bool ⟨H3,I3,q3⟩
def uC(r r':R2)(ta tb tc:TE):TE:=fun σ H Q=>ta σ H fun x H1=>tb σ H1 fun y H2=>r x y H2 fun z H3=>∃k,z=.bl k /\
 (if k=true then tc σ H3 fun w' H4=>r' y w' H4 Q else Q (.bl false) H3)
theorem y_{op op':CmpOp}{r r':R2}(ho:OpR X (compareOp op) r)(ho':OpR X (compareOp op') r')(ha:PE X a ta)(hb:PE X b tb)(hc:PE X c tc)
  (hm:lastMarks [op,op'] [b,c]=false:=by with_unfolding_all rfl):PE X (.Compare a [op,op'] [b,c] pos) (uC r r' ta tb tc):=by
 intro eU s σ H Q I h;refine Compare_chain (thn (ha eU s σ H _ I h) fun v s1 ⟨x,H1,I1,r1,q1⟩=>chain_link (thn (hb eU s1 σ H1 _ I1 q1) fun u s2 ⟨y,H2,I2,r2,q2⟩=>thn (ho eU s2 σ H2 x y v u _ I2 r1 r2 q2) fun d s3 ⟨z,H3,I3,r3,k,e,q3⟩=>?_)) hm
 subst e;cases r3;refine wpAny_truthy_bool ?_;cases k with
 |false=>exact ite_ff ⟨.bl false,H3,I3,rfl,q3⟩
 |true=>exact ite_tt (chain_last (thn (hc eU s3 σ H3 _ I3 q3) fun w' s4 ⟨z',H4,I4,r4,q4⟩=>ho' eU s4 σ H4 y z' u w' Q I4 r2 r4 q4))
theorem zb{op op':CmpOp}{r r':R2}(ho:OpR X (compareOp op) r)(ho':OpR X (compareOp op') r')(ha:PE X a ta)(hb:PE X b tb)(hc:PE X c tc)
  (hm:lastMarks [op,op'] [b,c]=false:=by with_unfolding_all rfl):PT X (.Compare a [op,op'] [b,c] pos) (y9 (uC r r' ta tb tc)):=by
 intro eU s σ H Q I h;refine isTrue_chain (thn (ha eU s σ H _ I h) fun v s1 ⟨x,H1,I1,r1,q1⟩=>test_link (thn (hb eU s1 σ H1 _ I1 q1) fun u s2 ⟨y,H2,I2,r2,q2⟩=>thn (ho eU s2 σ H2 x y v u _ I2 r1 r2 q2) fun d s3 ⟨z,H3,I3,r3,k,e,q3⟩=>?_)) hm
 subst e;cases r3;refine wpAny_truthy_bool ?_;cases k with
 |false=>obtain⟨k',e',q'⟩:=q3;cases e';exact ite_ff ⟨H3,I3,q'⟩
 |true=>refine ite_tt (test_last (thn (hc eU s3 σ H3 _ I3 q3) fun w' s4 ⟨z',H4,I4,r4,q4⟩=>thn (ho' eU s4 σ H4 y z' u w' _ I4 r2 r4 q4) fun d' s5 ⟨z2,H5,I5,r5,k2,e2,q5⟩=>?_));subst e2;cases r5;exact wpAny_truthy_bool ⟨H5,I5,q5⟩
theorem kC:(sizeLine:Nat)<2 ^ 63:=by rw[sizeLine_eq];decide
theorem uD:OpR X (binaryOp .Add) (fun x y H Q=>∃i j,x=.str i/\y=.str j/\i.length+j.length<=sizeLine/\Q (.str (i++j)) H):=by intro eU s σ H x y v u Q I rx ry h;obtain⟨i,j,rfl,rfl,hz,q⟩:=h;obtain⟨t,rfl⟩:=rx;obtain⟨t',rfl⟩:=ry;exact add_str (fun t' tk=>⟨.str (i++j),H,I.tok _,⟨_,rfl⟩,q⟩) hz
theorem vals1{x:V}{us:List Value}(r:Vals [x] us):∃u,us=[u]/\RelV x u:=by
 cases r with
 |cons r1 r2=>cases r2;exact⟨_,rfl,r1⟩
theorem vals2{x y:V}{us:List Value}(r:Vals [x,y] us):∃u w',us=[u,w']/\RelV x u/\RelV y w':=by
 cases r with
 |cons r1 r2=>
  cases r2 with
  |cons r3 r4=>cases r4;exact⟨_,_,rfl,r1,r3⟩
theorem xF(hc:X.calm=true):dP X (.builtin "max") (fun xs H Q=>∃i j,xs=[.int i,.int j]/\Q (.int (if j>i then j else i)) H):=by
 intro eU s σ H xs us Q I r h;obtain⟨i,j,rfl,q⟩:=h;obtain⟨u,w',rfl,⟨t,rfl⟩,⟨t',rfl⟩⟩:=vals2 r;refine max_two_ints (I.ok.hd hc) fun h' tk k=>⟨_,H,I.kept k,?_,q⟩;by_cases hj:j>i
 ·rw[if_pos hj,if_pos hj];exact⟨_,rfl⟩
 ·rw[if_neg hj,if_neg hj];exact⟨_,rfl⟩
theorem xG(hc:X.calm=true):dP X (.builtin "min") (fun xs H Q=>∃i j,xs=[.int i,.int j]/\Q (.int (if j<i then j else i)) H):=by
 intro eU s σ H xs us Q I r h;obtain⟨i,j,rfl,q⟩:=h;obtain⟨u,w',rfl,⟨t,rfl⟩,⟨t',rfl⟩⟩:=vals2 r;refine min_two_ints (I.ok.hd hc) fun h' tk k=>⟨_,H,I.kept k,?_,q⟩;by_cases hj:j<i
 ·rw[if_pos hj,if_pos hj];exact⟨_,rfl⟩
 ·rw[if_neg hj,if_neg hj];exact⟨_,rfl⟩
theorem xH:dP X (.type "int") (fun xs H Q=>(∃i,xs=[.int i]/\Q (.int i) H)\/∃k,xs=[.bl k]/\Q (.int (if k then 1 else 0)) H):=by
 intro eU s σ H xs us Q I r h;rcases h with⟨i,rfl,q⟩ | ⟨k,rfl,q⟩
 ·obtain⟨u,rfl,t,rfl⟩:=vals1 r;exact call_int_int ⟨.int i,H,I,⟨_,rfl⟩,q⟩
 ·obtain⟨u,rfl,r1⟩:=vals1 r;cases r1;exact call_int_bool ⟨.int (if k then 1 else 0),H,I.tok _,⟨_,rfl⟩,q⟩
end
section
variable{mA:Str->Option Value}{h:Heap}
structure FH(h:Heap)(x dx C:Addr)(mA:Str->Option Value):Prop where
 obj:h.get? x=some (Pn C dx)
 ns:h.Ns1 dx mA
 ne:dx≠x
theorem xJ{dx:Addr}(n:h.Ns1 dx mA):∃od,h.get? dx=some od/\∀name,Pz name od=some (mA name):=by
 obtain⟨o,es,ep,ho,hd,hk,_,hm⟩:=n;refine⟨o,ho,fun name=>?_⟩;have e:=hm name;unfold nsFind findBy at e;rw[<- OV]at e;unfold Pz;rw[hd];dsimp only;split
 ·rename_i y q;rw[q]at e;exact congrArg some e
 ·rename_i q;rw[q]at e;have a:es.toList.any (·.refKey)=false:=by
   rw[List.any_eq_false];intro y hy;obtain⟨z,t,hkey⟩:=hk y (Array.mem_toList_iff.mp hy);simp[DictEntry.refKey,hkey]
  have a':¬es.toList.any (·.refKey)=true:=by rw[a];exact Nh
  rw[if_neg a'];exact congrArg some e
theorem FH.look{x dx C:Addr}(I:FH h x dx C mA):∃od,PySem.W.InstAt h x (Pn C dx) C (some od)/\∀name,Pz name od=some (mA name):=
 let ⟨od,ho,hl⟩:=xJ I.ns
 ⟨od,⟨I.obj,rfl,rfl,ho⟩,hl⟩
end
section
variable{P:Program}{w:World}{H H':Hp}{h h':Heap}{a C dx:Addr}{fs fs':List (Str×V)}
theorem Cc(hok:HOk P w H h)(e:H a=some (.ins C dx fs)):∃mA,FH h a dx C mA/\(∀f,E_ (fs.lookup f) (mA f))/\PySem.Within mA (fs.map (·.1))/\fs.length<=1000/\H dx=some (.own a):=by
 obtain⟨d,z,ne,ob,mA,n,r,q⟩:=(show ck P w H h a (.ins C dx fs) from hok a _ e)
 exact⟨mA,⟨ob,n,ne⟩,r,q,z,d⟩
end
structure Cls(K:Mv)(C:Addr):Prop where
 pg:PySem.W.plainGet K C Str.empty=true
 hd:PySem.W.hasDictIn K C=true
 po:PySem.W.plainOver K C=true
 sa:NS K (.ref C) "__setattr__" = some (some (.builtin "object.__setattr__"))
theorem Cls.get{K:Mv}{C:Addr}(c:Cls K C)(f:Str):PySem.W.plainGet K C f=true:=c.pg
section
variable{X:Cx}{eU:List (Addr×Obj)}{σ:St}{H:Hp}{s:Shared}{A:Around}{E:Value->Shared->Prop}{Q:Value->Shared->Prop}{c:Value}{b:Bool}
inductive jU(K:Mv)(H:Hp):V->Value->Prop where
 |non:jU K H .non (.type "NoneType")
 |bl (x:Bool):jU K H (.bl x) (.type "bool")
 |int (i:Int):jU K H (.int i) (.type "int")
 |str (x:Str):jU K H (.str x) (.type "str")
 |flt (x:UInt64):jU K H (.flt x) (.type "float")
 |lst {a:Addr} {xs:List V} (e:H a=some (.lst xs)):jU K H (.ref a) (.type "list")
 |frz {a:Addr} {o:Obj} {xs:List V} (e:H a=some (.frz o (.lst xs))):jU K H (.ref a) (.type "list")
 |tup {a:Addr} {xs:List V} (e:H a=some (.tup xs)):jU K H (.ref a) (.type "tuple")
 |dK {a:Addr} {kvs:List (Key×V)} (e:H a=some (.dK kvs)):jU K H (.ref a) (.type "dict")
 |dT {a:Addr} {kvs:List (List Key×V)} {ts:List Addr} (e:H a=some (.dT kvs ts)):jU K H (.ref a) (.type "dict")
 |ins {a C dx:Addr} {fs:List (Str×V)} (e:H a=some (.ins C dx fs)) (cl:Cls K C) (ha:NS K (.ref C) "__class__" = some (some (.builtin "object.__class__")))
   (hn:PySem.W.specialIn K (.builtin "object.__class__") "__get__" = some (some (.builtin "getset_descriptor.__get__"))) (htk:PySem.W.takesIn K (.builtin "object.__class__")=some true)
   (hm:NV K C (.type "object")=some true):jU K H (.ref a) (.ref C)
theorem xK{x:V}{u t:Value}(I:Inv X eU σ H s)(rx:RelV x u)(ty:jU X.K H x t)(e:Nd X.K t c=some b)(h:∀tk,Q (.bool b) { s with toks:=tk }) :
  wpAny (model X.prog X.w) A (call (.builtin "isinstance") [u,c]) Q E s:=by
 cases ty with
 |non=>cases (show u=Value.none from rx);exact Nu PySem.W.kitx_none I.kIn Ph e (fun z=>nomatch z) h
 |bl y=>cases (show u=PM y from rx);exact Nu PySem.W.kitx_bool I.kIn Ph e (fun z=>nomatch z) h
 |int i=>obtain⟨t,q⟩:=(show ∃t,u=PR i t from rx);cases q;exact Nu PySem.W.kitx_int I.kIn Ph e (fun z=>nomatch z) h
 |str y=>obtain⟨t,q⟩:=(show ∃t,u=Oj y t from rx);cases q;exact Nu PySem.W.kitx_str I.kIn Ph e (fun z=>nomatch z) h
 |flt y=>obtain⟨t,q⟩:=(show ∃t,u=Value.float y t from rx);cases q;exact Nu PySem.W.kitx_float I.kIn Ph e (fun z=>nomatch z) h
 |@lst a xs ea=>
  cases (show u=Nq a from rx);obtain⟨_,_,n,_,h1⟩:=(show ck X.prog X.w H s.heap a (.lst xs) from I.hok a _ ea)
  exact Nu PySem.W.kitx_list I.kIn ⟨_,h1,rfl⟩ e (fun z=>nomatch z) h
 |@frz a ob xs ea=>
  cases (show u=Nq a from rx);obtain⟨_,_,_,n,_,h1⟩:=(show ck X.prog X.w H s.heap a (.frz ob (.lst xs)) from I.hok a _ ea)
  exact Nu PySem.W.kitx_list I.kIn ⟨_,h1,rfl⟩ e (fun z=>nomatch z) h
 |@tup a xs ea=>
  cases (show u=Nq a from rx);obtain⟨_,_,_,p⟩:=(show ck X.prog X.w H s.heap a (.tup xs) from I.hok a _ ea)
  obtain⟨o,h1,h2,_⟩:=p;exact Nu PySem.W.kitx_tuple I.kIn ⟨o,h1,h2⟩ e (fun z=>nomatch z) h
 |@dK a kvs ea=>
  cases (show u=Nq a from rx);obtain⟨_,_,vs,_,p⟩:=(show ck X.prog X.w H s.heap a (.dK kvs) from I.hok a _ ea)
  obtain⟨o,es,ep,h1,h2,_⟩:=p;exact Nu PySem.W.kitx_dict I.kIn ⟨o,h1,h2.1⟩ e (fun z=>nomatch z) h
 |@dT a kvs ts ea=>
  cases (show u=Nq a from rx);obtain⟨_,_,xs,_,o,es,ep,h1,h2,_⟩:=(show ck X.prog X.w H s.heap a (.dT kvs ts) from I.hok a _ ea)
  exact Nu PySem.W.kitx_dict I.kIn ⟨o,h1,h2.1⟩ e (fun z=>nomatch z) h
 |@ins a C dx fs ea cl ha hn htk hm=>cases (show u=Nq a from rx);obtain⟨mA,O,_⟩:=Cc I.hok ea;obtain⟨od,J,_⟩:=O.look;exact Nu (PySem.W.kitx_own (cl.get _) cl.hd ha hn htk hm) I.kIn J e (fun z=>nomatch z) h
end
section
variable{A:Around}{k:Nat}
structure c_(k:Nat)(A:Around):Prop where
 hd:A.handled=none
 dp:A.depth+3*k+5<recursionLimit
 un:A.units+16*k+200<cLine
 gd:A.guards=some []
theorem c_.mono{j k:Nat}(r:c_ k A)(h:j<=k):c_ j A:=⟨r.hd,by have:=r.dp;lia,by have:=r.un;lia,r.gd⟩
theorem c_.deeper(r:c_ (k+1) A)(env:Env):c_ k (A.deeper env):=
 ⟨r.hd,by have:=r.dp;show A.depth+1+3*k+5<_;lia,by have:=r.un;show A.units+3+16*k+200<_;lia,r.gd⟩
theorem c_.depth(r:c_ k A):A.depth<recursionLimit:=by have:=r.dp;lia
theorem c_.units(r:c_ k A):A.units+64<cLine:=by have:=r.un;lia
def zc:TA:=fun _ H Q=>Q [] H
def k7(ta:TE)(tr:TA):TA:=fun σ H Q=>ta σ H fun x H1=>tr σ H1 fun xs H2=>Q (x::xs) H2
end
section
variable{X:Cx}{e:Expr}{es:List Expr}{te:TE}{t:TA}{pos:Pos}
theorem kD:PA X [] zc:=fun _ _ _ _ H Q I h=>N4 ⟨[],H,I,.nil,h⟩
theorem eG(ha:PE X e te)(hr:PA X es t)(hs:starEach (e::es) X.env=(false,eval e X.env)::starEach es X.env:=by rfl):PA X (e::es) (k7 te t):=by intro pos eU s σ H Q I h;rw[hs];show wpAny _ _ (spliced ((false,eval e X.env)::backTo pos (starEach es X.env))) _ _ s;refine Calls.spliced_cons (thn (ha eU s σ H _ I h) fun u s1 ⟨x,H1,I1,r1,q1⟩=>?_);exact thn (hr pos eU s1 σ H1 _ I1 q1) fun us s2 ⟨xs,H2,I2,r2,q2⟩=>⟨x::xs,H2,I2,.cons r1 r2,q2⟩
def FJ(t:TA):TE:=fun σ H Q=>t σ H fun xs H1=>xs.length<=sizeLine/\∀p,H1 p=none->Q (.ref p) (upd H1 p (.tup xs))
def IB(t:TA):TE:=fun σ H Q=>t σ H fun xs H1=>xs.length<=sizeLine/\∀p,H1 p=none->Q (.ref p) (upd H1 p (.lst xs))
theorem zd{x1}(h:PA X es t):PE X (.Tuple es x1 pos) (FJ t):=by intro eU s σ H Q I hq;refine wpAny_Tuple_spliced (thn (h pos eU s σ H _ I hq) fun us s1 ⟨xs,H1,I1,r,z,q⟩=>⟨by rw[<- r.length];exact z,?_⟩);have hf:H1 s1.heap.objs.size=none:=I1.hok.fresh (MO _);refine⟨.ref s1.heap.objs.size,upd H1 s1.heap.objs.size (.tup xs),I1.laid (t':=s1.toks) (fun b u e=>MR _ e) (MO _) ?_,rfl,q _ hf⟩;exact⟨z,us,r,⟨_,M9 _ rfl,rfl,_,rfl⟩⟩
theorem FL(h:PA X es t):PE X (.List es pos) (IB t):=by intro eU s σ H Q I hq;refine wpAny_List_spliced (thn (h pos eU s σ H _ I hq) fun us s1 ⟨xs,H1,I1,r,z,q⟩=>⟨by rw[<- r.length];exact z,?_⟩);have hf:H1 s1.heap.objs.size=none:=I1.hok.fresh (MO _);refine⟨.ref s1.heap.objs.size,upd H1 s1.heap.objs.size (.lst xs),I1.laid (t':=s1.toks) (fun b u e=>MR _ e) (MO _) ?_,rfl,q _ hf⟩;exact⟨z,us,0,r,M9 _ rfl⟩
end
noncomputable abbrev Sp:=List V->Hp->VK->XK->Prop
noncomputable abbrev CXT:=List Env->Hp->Shared->XK->Value->Shared->Prop
structure Cd(P:Program)(w:World)(K:Mv)(mg:Str->Option Value)(base:Heap)(A:Around)(outer:List Env)(s:Shared)(H:Hp):Prop where
 frames:A.frames=some outer
 mod:Mod K mg base
 bs:∀b o,base.get? b=some o->s.heap.get? b=some o/\H b=none
 bsz:base.objs.size<=s.heap.objs.size
 lP:s.heap.FunFrames base outer
 frf:∀b∈frs outer,H b=none
 hok:HOk P w H s.heap
 bare:AllBare s.gens
def CE(outer:List Env)(P:Program)(w:World)(H:Hp)(s:Shared)(Q:VK)(u:Value)(s':Shared):Prop:=
 ∃v H',s'.os=s.os/\AllBare s'.gens/\Un (frs outer) [] H H' s.heap s'.heap/\HOk P w H' s'.heap/\RelV v u/\Q v H'
def CR(CX:CXT)(outer:List Env)(P:Program)(w:World)(H:Hp)(s:Shared)(Q:VK)(E:XK)(r:Result)(s':Shared):Prop:=
 match r with
 |.ok (.ret u)=>CE outer P w H s Q u s'
 |.ok _=>False
 |.error e=>CX outer H s E e s'
structure bW(P:Program)(w:World)(K:Mv)(mg:Str->Option Value)(base:Heap)(CX:CXT)(k:Nat)(f:Addr)(fd:FuncData)(ps:List Str)(sp:Sp):Prop where
 len:∀vs H Q E,sp vs H Q E->vs.length=ps.length
 run:∀(A:Around) (outer:List Env) (s:Shared) (H:Hp) (args:Args) (us:List Value) (vs:List V) (Q:VK) (E:XK),c_ k A->Cd P w K mg base A outer s H->BindsTo s fd args (ps.zip us)->Vals vs us->sp vs H Q E ->
  codeAny (model P w) A (.call (.ref f) args) (CR CX outer P w H s Q E) s
section
variable{X:Cx}{eU:List (Addr×Obj)}{σ:St}{H:Hp}{s s':Shared}
theorem Inv.IC(I:Inv X eU σ H s):Cd X.prog X.w X.K X.mg X.base X.A X.stack s H:=
 ⟨I.ok.frames,I.ok.mod,I.bs,M6 I.ok.bsz I.sz,I.stack,I.qm,I.hok,I.bare⟩
theorem Inv.after{Q:VK}{u:Value}(I:Inv X eU σ H s)(h:CE X.stack X.prog X.w H s Q u s'):EP X eU σ Q u s':=by obtain⟨v,H',os,bare,un,hok,r,q⟩:=h;obtain⟨hh,g,d,t,os'⟩:=s';obtain rfl:os'=s.os:=os;exact⟨v,H',I.call (h':=hh) (g':=g) (d':=d) (t':=t) (ch:=[]) un hok bare (fun b z=>absurd z (by simp)),r,q⟩
end
def Ei(sp:Sp)(dvs:List V)(E:XK)(t:TA):TE:=fun σ H Q=>t σ H fun vs H1=>sp (vs++dvs) H1 Q E
def Binds(K:Mv)(fd:FuncData)(ps:List Str)(ds:List Value):Prop:=
 ∀(s:Shared) (us:List Value),K.In s.heap->(us++ds).length=ps.length->BindsTo s fd ⟨us,[]⟩ (ps.zip (us++ds))
theorem Binds.all{K:Mv}{fd:FuncData}{ps:List Str}(h:∀us:List Value,us.length=ps.length->bindArgs fd ⟨us,[]⟩=pure (ps.zip us)):Binds K fd ps []:=fun s us _ hl=>by rw[Nl]at hl ⊢;exact .of_eq (h us hl)
def Passes(CX:CXT)(X:Cx)(E:XK):Prop:=∀(eU:List (Addr×Obj)) (σ:St) (H:Hp) (s:Shared) (e:Value) (s':Shared),Inv X eU σ H s->CX X.stack H s E e s'->X.xe e s'
section
variable{X:Cx}{CX:CXT}{k:Nat}{f C:Addr}{fd:FuncData}{ps:List Str}{sp:Sp}{dvs:List V}{ds:List Value}{E:XK}{x m:Str}{p pos Rx:Pos}{e o:Expr}{es:List Expr}{ta:TE}{t:TA}
theorem FO{eU:List (Addr×Obj)}{σ:St}{H:Hp}{s:Shared}{Q:VK}{us:List Value}{vs:List V}(F:bW X.prog X.w X.K X.mg X.base CX k f fd ps sp)(hr:c_ k X.A)(hb:Binds X.K fd ps ds)(hd:Vals dvs ds)(hx:Passes CX X E)
  (I:Inv X eU σ H s) (r:Vals vs us) (h:sp (vs++dvs) H Q E):wpAny (model X.prog X.w) X.A (call (.ref f) us) (EP X eU σ Q) X.xe s:=by
 have r2:Vals (vs++dvs) (us++ds):=r.append hd;have hl:(us++ds).length=ps.length:=by rw[<- r2.length];exact F.len _ _ _ _ h
 refine wpAny_call (codeAny_mono (F.run X.A X.stack s H ⟨us,[]⟩ (us++ds) (vs++dvs) Q E hr I.IC (hb s us I.kIn hl) r2 h) fun r s' hq=>?_);cases r with
 |error e=>exact hx eU σ H s e s' I hq
 |ok fl=>
  cases fl with
  |ret u=>exact I.after hq
  |next=>exact MX hq
  |brk=>exact MX hq
  |cont=>exact MX hq
theorem Ce(F:bW X.prog X.w X.K X.mg X.base CX k f fd ps sp)(hr:c_ k X.A)(hg:Gl X x)(hm:X.mg x=some (.ref f))(hk:N6 X.K (.ref f)=true)(hb:Binds X.K fd ps ds)(hd:Vals dvs ds)(hx:Passes CX X E)
  (ha:PA X (e::es) t) (Rq:(x == ("__debug__" : Str))=false:=by decide) (he:starEach (e::es) X.env=(false,eval e X.env)::starEach es X.env:=by rfl) (ED:(backTo pos (starEach es X.env)).any (·.1)=false:=by rfl) :
  PE X (.Call (.Name x p) (e::es) [] pos) (Ei sp dvs E t):=by
 intro eU s σ H Q I h;refine wpAny_Call_Name_kw (jR I hg hm ?_ Rq);refine PySem.W.callWith_K (h₀:=X.base) I.ok.mod.kin hk (thn (ha pos eU s σ H _ I h) fun us s1 ⟨vs,H1,I1,r,q⟩=>⟨I1.kIn,?_⟩) he ED;exact FO F hr hb hd hx I1 r q
end
section
variable{x:Str}{v:Value}
structure aE(N P:List Str)(sc:Scope):Prop where
 kind:sc.kind=.function
 co:sc.isCoroutine=false
 gen:sc.isGenerator=false
 nd:N.Nodup
 pre:N.take P.length=P
 par:∀x∈P,sc.names.lookup x=some .local\/sc.names.lookup x=some .cell
 FP:∀y∈sc.names,y.2≠.free
theorem pN{kindOf:Str->Option NameKind}:∀{binds:List (Str×Value)} {m:Str->Option Value},(∀v,(x,v)∉binds)->bindL kindOf binds m x=m x
 |[],_,_=>rfl
 |(n,v)::r,m,h=>by
  unfold bindL;rw[pN fun w hw=>h w (MK _ hw)];split
  ·have:x≠n:=by rintro rfl;exact h v MM
   simp[this]
  ·rfl
theorem pO{kindOf:Str->Option NameKind}:∀{binds:List (Str×Value)} {m:Str->Option Value},(∀v,(x,v)∉binds)->bindC kindOf binds m x=m x
 |[],_,_=>rfl
 |(n,v)::r,m,h=>by
  unfold bindC;rw[pO fun w hw=>h w (MK _ hw)];split
  ·rfl
  ·have:x≠n:=by rintro rfl;exact h v MM
   simp[this]
theorem pP{kindOf:Str->Option NameKind}:∀{P:List Str} {vs:List Value} {i:Nat} {m:Str->Option Value},P.Nodup->P[i]?=some x->vs[i]?=some v->kindOf x=some .local ->
  bindL kindOf (P.zip vs) m x=some v
 |[],_,_,_,_,h,_,_=>by simp at h
 |_::_,[],_,_,_,_,h,_=>by simp at h
 |p::P,w::vs,0,m,nd,h1,h2,hk=>by simp at h1 h2;subst h1;subst h2;show bindL kindOf ((p,w)::P.zip vs) m p=_;unfold bindL;rw[pN fun v hv=>(OJ.mp nd).1 (Og hv).1,if_pos hk];simp
 |p::P,w::vs,i+1,m,nd,h1,h2,hk=>by show bindL kindOf ((p,w)::P.zip vs) m x=_;unfold bindL;exact pP (i:=i) (OJ.mp nd).2 (by simpa using h1) (by simpa using h2) hk
theorem pQ{kindOf:Str->Option NameKind}:∀{P:List Str} {vs:List Value} {i:Nat} {m:Str->Option Value},P.Nodup->P[i]?=some x->vs[i]?=some v->kindOf x≠some .local ->
  bindC kindOf (P.zip vs) m x=some v
 |[],_,_,_,_,h,_,_=>by simp at h
 |_::_,[],_,_,_,_,h,_=>by simp at h
 |p::P,w::vs,0,m,nd,h1,h2,hk=>by simp at h1 h2;subst h1;subst h2;show bindC kindOf ((p,w)::P.zip vs) m p=_;unfold bindC;rw[pO fun v hv=>(OJ.mp nd).1 (Og hv).1,if_neg hk];simp
 |p::P,w::vs,i+1,m,nd,h1,h2,hk=>by show bindC kindOf ((p,w)::P.zip vs) m x=_;unfold bindC;exact pQ (i:=i) (OJ.mp nd).2 (by simpa using h1) (by simpa using h2) hk
noncomputable def start(N:List Str)(vs:List V):St:=vs.map some++gc (N.length-vs.length) none
noncomputable def gB(CX:CXT)(P:Program)(w:World)(K:Mv)(mg:Str->Option Value)(base:Heap)(N:List Str)(qual:Str)(scope:Scope)(f:Addr)(cd:Value)(A:Around)(outer:List Env)(s:Shared)(H:Hp)(E:XK):Cx where
 prog:=P
 w:=w
 K:=K
 mg:=mg
 base:=base
 A:=A.deeper (envOfC qual scope s.heap.objs.size f cd)
 N:=N
 s₀:=s
 H₀:=H
 env:=envOfC qual scope s.heap.objs.size f cd
 outer:=outer
 stack:=envOfC qual scope s.heap.objs.size f cd::outer
 ex:=[]
 calm:=true
 fn:=fun _=>true
 pn:=[]
 xe:=fun e s'=>wpAny (model P w) (A.deeper (envOfC qual scope s.heap.objs.size f cd)) (leaving (envOfC qual scope s.heap.objs.size f cd) e) (fun _ s''=>CX outer H s E e s'') (fun e' s''=>CX outer H s E e' s'') s'
theorem rL{sc:Scope}{n:Nat}(h:sc.names.lookup x=some .cell):∃c,(cellsFrom n sc.names []).lookup x=some c:=by have q:=PySem.W.cellsFrom_some sc.names n [] (.inl h);exact Ng.mp q
theorem xM{CX:CXT}{P:Program}{w:World}{K:Mv}{mg:Str->Option Value}{base:Heap}{N ps:List Str}{qual:Str}{scope:Scope}{f:Addr}{cd:Value}{A:Around}{outer:List Env}{s s1:Shared}{H:Hp}{E:XK}{us:List Value}{vs:List V}
  (S:aE N ps scope) (hd:A.handled=none) (e0:Cd P w K mg base A outer s H) (hl:vs.length=ps.length) (r:Vals vs us)
  (x:InCallC s s.heap.objs.size (bindL (envOfC qual scope s.heap.objs.size f cd).kindOf (ps.zip us) fun _=>none) (cellsFrom (s.heap.objs.size+1) scope.names []) (bindC (envOfC qual scope s.heap.objs.size f cd).kindOf (ps.zip us) fun _=>none) s1) :
  Inv (gB CX P w K mg base N qual scope f cd A outer s H E) [] (start N vs) H s1:=by
 have ED:ps.length<=N.length:=by have:=congrArg List.length S.pre;rw[NJ]at this;lia
 obtain⟨h1,tk,rfl,hk⟩:=x.done;have noA:∀b:Addr,b∉(gB CX P w K mg base N qual scope f cd A outer s H E).ex:=fun b z=>absurd (show b∈([]:List Addr) from z) (by simp);refine ⟨⟨e0.mod,S.kind,rfl,rfl,MO _,fun y z c h1 h2=>?_,fun y hy=>?_,fun y c _ h=>?_,fun _=>hd,Around.frames_deeper e0.frames,.inr ⟨rfl,rfl⟩,fun b z=>absurd z (noA b),e0.bs,e0.bsz,fun b _ _=>noA b,fun b z=>absurd z (noA b),e0.lP,e0.frf⟩,
  rfl,e0.bare,Un.kept hk,⟨_,x.toInCall.ns,fun i y v h1 h2 h3=>?_⟩,fun y c h=>⟨_,x.cell y c h⟩,e0.hok.fresh (MO _),fun y c h=>?_,fun p hp=>absurd (show p∈([]:List (Addr×Obj)) from hp) (by simp),e0.hok.kept hk,?_⟩
 ·exact name_of_addr x.apart (PySem.mem_of_lookup h1) (PySem.mem_of_lookup h2)
 ·have hy:scope.names.lookup y=some .cell\/scope.names.lookup y=some .free:=hy;rcases hy with hy | hy
  ·exact rL hy
  ·exact absurd rfl (S.FP _ (PySem.mem_of_lookup hy))
 ·exact Ol (x.above y c (PySem.mem_of_lookup h))
 ·have hi:i<vs.length:=by
   unfold start at h2;by_cases hi:i<vs.length
   ·exact hi
   ·rw[M5 (by simpa using hi)]at h2;rw[Nj]at h2;split at h2<;>cases h2
  have ha:vs[i]?=some v:=by
   unfold start at h2;rw[MU (by simpa using hi),M0]at h2;cases e:vs[i]? with
   |none=>rw[e]at h2;cases h2
   |some a=>rw[e]at h2;cases h2;rfl
  obtain⟨u,hu,rv⟩:=r.get ha;have hp:ps[i]?=some y:=by rw[<- S.pre,Oo (by lia)];exact h1
  have ndP:ps.Nodup:=by rw[<- S.pre];exact S.nd.sublist (List.take_sublist _ _)
  refine⟨u,rv,?_⟩;rcases S.par y (NX hp) with k | k
  ·exact .inl ⟨k,pP ndP hp hu k⟩
  ·obtain⟨c,e⟩:=rL (n:=s.heap.objs.size+1) k;refine .inr ⟨.inl k,c,e,?_⟩;have q:=x.cell y c e;rw[pQ ndP hp hu (by show scope.names.lookup y≠_;rw[k];decide)]at q;exact q
 ·exact e0.hok.fresh (Ol (x.above y c (PySem.mem_of_lookup h)))
 ·unfold start;show _=N.length;rw[MA,MP,N7]
  lia
theorem Ej{CX:CXT}{P:Program}{w:World}{K:Mv}{mg:Str->Option Value}{base:Heap}{k:Nat}{f:Addr}{name qual:Str}{params:Arguments}{body:List Stmt}{scope:Scope}{dV kV doc pm cdv ct oc:Value}{an od:Option Addr}
  {osl:Array (Option Value)} {N ps:List Str} {sp:Sp} (lk:K.lookup f=some ⟨oc,od,.func (Nk name qual params body scope dV kV doc pm an cdv ct),osl⟩) (Rv:OT K cdv qual=true) (S:aE N ps scope)
  (len:∀vs H Q E,sp vs H Q E->vs.length=ps.length)
  (hbody:∀ (A:Around) (outer:List Env) (s:Shared) (H:Hp) (vs:List V) (Q:VK) (E:XK),c_ k (A.deeper (envOfC qual scope s.heap.objs.size f cdv))→sp vs H Q E →
   ∃t,PSs (gB CX P w K mg base N qual scope f cdv A outer s H E) body t/\t { nx:=fun _ H'=>Q .non H',rt:=Q } (start N vs) H) :
  bW P w K mg base CX (k+1) f (Nk name qual params body scope dV kV doc pm an cdv ct) ps sp:=by
 refine⟨len,fun A outer s H args us vs Q E hr e0 hb r hsp=>?_⟩;have hl:=len _ _ _ _ hsp;have KX:K.In s.heap:=e0.mod.kin.keeps fun b o e=>(e0.bs b o e).1;have lim:s.heap.NoLimit:=e0.mod.nolimit.keeps fun b o e=>(e0.bs b o e).1;have hkind:∀y∈ps.zip us,scope.names.lookup y.1=some .local\/(scope.names.lookup y.1=some .cell/\((cellsFrom (s.heap.objs.size+1) scope.names []).lookup y.1).isSome=true):=fun⟨n,v⟩ hy=>by
  rcases S.par n (Og hy).1 with q | q
  ·exact .inl q
  ·exact .inr ⟨q,PySem.W.cellsFrom_some _ _ _ (.inl q)⟩
 refine codeAny_call_function hr.depth (KX _ _ lk) rfl S.co S.gen rfl (PySem.W.codeRec_of KX Rv) (hb _ _ _ _ ?_);refine wpAny_newFunctionEnv_cells S.kind hkind fun env he s1 x=>?_;subst he;refine⟨lim.keeps x.toInCall.keep,codeAny_func ?_⟩;obtain⟨t,ht,hq⟩:=hbody A outer s H vs Q E (hr.deeper _) hsp;have I:Inv (gB CX P w K mg base N qual scope f cdv A outer s H E) [] (start N vs) H s1:=xM S hr.hd e0 hl r x;refine wpAny_mono (ht [] s1 (start N vs) H _ I hq) (fun fl s' hs=>?_) fun e s' hs=>hs;have Rt:∀{σ':St} {H':Hp} {v:V} {u:Value},Inv (gB CX P w K mg base N qual scope f cdv A outer s H E) [] σ' H' s'->RelV v u->Q v H'->CE outer P w H s Q u s':=
  fun {σ' H' v u} J rv q=>⟨v,H',J.os,J.bare,J.base,J.hok,rv,q⟩
 cases fl with
 |ret u=>obtain⟨v,σ',H',J,rv,q⟩:=hs;exact Rt J rv q
 |next=>obtain⟨σ',H',J,q⟩:=hs;exact Rt (v:=V.non) (u:=Value.none) J rfl q
 |brk=>obtain⟨_,_,_,q⟩:=hs;exact MX q
 |cont=>obtain⟨_,_,_,q⟩:=hs;exact MX q
end
section
variable{X:Cx}{x:Str}{p pos:Pos}{e:Expr}{es:List Expr}{t:TA}{id T:String}{r:List V->Hp->VK->Prop}
def tCB(r:List V->Hp->VK->Prop)(t:TA):TE:=fun σ H Q=>t σ H fun vs H1=>r vs H1 Q
theorem gF(hc:dP X (.builtin id) r)(hg:Gl X x)(hm:X.mg x=none)(hv:bootBuiltins x=some (.builtin id))(ha:PA X (e::es) t)(hn:x ≠ "__name__" := by decide)(Rq:(x == ("__debug__" : Str))=false:=by decide)
  (he:starEach (e::es) X.env=(false,eval e X.env)::starEach es X.env:=by rfl) (ED:(backTo pos (starEach es X.env)).any (·.1)=false:=by rfl):PE X (.Call (.Name x p) (e::es) [] pos) (tCB r t):=by
 intro eU s σ H Q I h;refine wpAny_Call_Name_kw (eT I hg hm hv ?_ hn Rq);exact PyProof.Rows.callWith_builtin1 (thn (ha pos eU s σ H _ I h) fun us s1 ⟨vs,H1,I1,r1,q1⟩=>hc eU s1 σ H1 vs us Q I1 r1 q1) he ED
theorem xN(hc:dP X (.type T) r)(hg:Gl X x)(hm:X.mg x=none)(hv:bootBuiltins x=some (.type T))(ha:PA X (e::es) t)(hn:x ≠ "__name__" := by decide)(Rq:(x == ("__debug__" : Str))=false:=by decide)
  (he:starEach (e::es) X.env=(false,eval e X.env)::starEach es X.env:=by rfl) (ED:(backTo pos (starEach es X.env)).any (·.1)=false:=by rfl):PE X (.Call (.Name x p) (e::es) [] pos) (tCB r t):=by
 intro eU s σ H Q I h;refine wpAny_Call_Name_kw (eT I hg hm hv ?_ hn Rq);exact Na (thn (ha pos eU s σ H _ I h) fun us s1 ⟨vs,H1,I1,r1,q1⟩=>hc eU s1 σ H1 vs us Q I1 r1 q1) he ED
end
end L2
namespace HT
open PySem PyProof.Rows
section
variable{prog:Program}{w:World}{A:Around}{E:Value->Shared->Prop}{s:Shared}
noncomputable def sIx(n d:Nat):Option Int->Nat
 |none=>d
 |some v=>if v<0 then (v+(n:Int)).toNat else min v.toNat n
end
end HT
namespace L2
open PySem PySem.Spec PyProof.Rows
noncomputable abbrev TO:=St->Hp->(Option Int->Hp->Prop)->Prop
def PO(X:Cx)(e:Option Expr)(t:TO):Prop:=
 ∀(eU:List (Addr×Obj)) (s:Shared) (σ:St) (H:Hp) (Q:Option Int->Hp->Prop),Inv X eU σ H s->t σ H Q ->
  wpAny (model X.prog X.w) X.A (evalPart e X.env) (fun u s'=>∃o H',Inv X eU σ H' s'/\IsPart u o/\Q o H') X.xe s
def qq:TO:=fun _ H Q=>Q none H
def ze(t:TE):TO:=fun σ H Q=>t σ H fun x H1=>∃i,x=.int i/\Q (some i) H1
section
variable{X:Cx}{e:Expr}{te:TE}{lo hi:Option Expr}{tl th:TO}{pos p2:Pos}
theorem Cf:PO X none qq:=by intro eU s σ H Q I h;rw[evalPart_none];exact wpAny_pure ⟨none,H,I,.none,h⟩
theorem Cg(h:PE X e te):PO X (some e) (ze te):=by intro eU s σ H Q I hw;rw[evalPart_some];refine thn (h eU s σ H _ I hw) fun u s1 ⟨x,H1,I1,r1,q1⟩=>?_;obtain⟨i,rfl,q⟩:=q1;obtain⟨t,rfl⟩:=r1;exact⟨some i,H1,I1,.int i t,q⟩
def SlR(X:Cx)(r:V->Option Int->Option Int->Hp->VK->Prop):Prop:=
 ∀(eU:List (Addr×Obj)) (s:Shared) (σ:St) (H:Hp) (x:V) (v vl vu:Value) (lo hi:Option Int) (sl:Addr) (Q:VK),Inv X eU σ H s->RelV x v->s.heap.IsSliceOf sl vl vu .none->IsPart vl lo->IsPart vu hi->r x lo hi H Q ->
  ∃T id,typeLookup (.type T) "__getitem__" = pure (some (.builtin id))/\s.TypeIs v T/\wpAny (model X.prog X.w) X.A (getItem v (.ref sl)) (EP X eU σ Q) X.xe s
def tSl(r:V->Option Int->Option Int->Hp->VK->Prop)(te:TE)(tl th:TO):TE:=fun σ H Q=>te σ H fun x H1=>tl σ H1 fun l H2=>th σ H2 fun u H3=>r x l u H3 Q
theorem zf{r:V->Option Int->Option Int->Hp->VK->Prop}(hr:SlR X r)(he:PE X e te)(hl:PO X lo tl)(hu:PO X hi th):PE X (.Subscript e (.Slice lo hi none p2) pos) (tSl r te tl th):=by intro eU s σ H Q I h;refine Subscript_ (thn (he eU s σ H _ I h) fun v s1 ⟨x,H1,I1,r1,q1⟩=>?_);refine wpAny_Slice (thn (hl eU s1 σ H1 _ I1 q1) fun vl s2 ⟨l,H2,I2,pl,q2⟩=>thn (hu eU s2 σ H2 _ I2 q2) fun vu s3 ⟨u,H3,I3,pu,q3⟩=>?_);rw[evalPart_none];refine wpAny_pure ?_;have I4:Inv X eU σ H3 { s3 with heap:=s3.heap.push { cls:=.type "slice",data:=.fields #[vl,vu,.none] } }:=I3.kept (t':=s3.toks) fun b ob q=>MR _ q;obtain⟨T,id,hT,ht,hg⟩:=hr eU { s3 with heap:=s3.heap.push { cls:=.type "slice",data:=.fields #[vl,vu,.none] } } σ H3 x v vl vu l u s3.heap.objs.size Q I4 r1 (Heap.IsSliceOf.new ..) pl pu q3;show wpAny (model X.prog X.w) X.A (subscriptTail e (.Slice lo hi none p2) v (.ref s3.heap.objs.size)) (EP X eU σ Q) X.xe { s3 with heap:=s3.heap.push { cls:=.type "slice",data:=.fields #[vl,vu,.none] } };exact tail_any (ops:=[.ref s3.heap.objs.size,v]) ht hT hg (by with_unfolding_all rfl)
noncomputable def uE(xs:List V)(lo hi:Option Int):List V:=(xs.drop (HT.sIx xs.length 0 lo)).take (HT.sIx xs.length xs.length hi-HT.sIx xs.length 0 lo)
theorem rM(xs:List V)(lo hi:Option Int):(uE xs lo hi).length<=xs.length:=by
 unfold uE;rw[NJ,NK]
 lia
end
noncomputable def ixN(n:Nat)(i:Int):Option Nat:=if 0<=i then (if i<n then some i.toNat else none) else if -(n:Int)<=i then some (i+n).toNat else none
noncomputable def atI{α:Type}(xs:List α)(i:Int):Option α:=(ixN xs.length i).bind fun j=>xs[j]?
theorem vK{n:Nat}{i:Int}{j:Nat}(h:ixN n i=some j):seqIndex? i n=some j/\j<n/\-(n:Int)<=i/\i<n:=by
 unfold ixN at h;by_cases h0:0<=i
 ·rw[if_pos h0]at h;by_cases h1:i<n
  ·rw[if_pos h1]at h;have e:i.toNat=j:=Option.some.inj h;exact⟨by rw[seqIndex_of h0 h1,e],by lia,by lia,h1⟩
  ·rw[if_neg h1]at h;cases h
 ·rw[if_neg h0]at h;by_cases h1:-(n:Int)<=i
  ·rw[if_pos h1]at h;have e:(i+n).toNat=j:=Option.some.inj h;exact⟨by rw[seqIndex_neg (by lia) h1,e],by lia,h1,by lia⟩
  ·rw[if_neg h1]at h;cases h
theorem qt{α:Type}{xs:List α}{i:Int}{v:α}(h:atI xs i=some v):∃j,seqIndex? i xs.length=some j/\xs[j]?=some v/\j<xs.length/\-(xs.length:Int)<=i/\i<xs.length:=by
 unfold atI at h;cases e:ixN xs.length i with
 |none=>rw[e]at h;cases h
 |some j=>rw[e]at h;obtain⟨h1,h2,h3,h4⟩:=vK e;exact⟨j,h1,h,h2,h3,h4⟩
def qu(b:Expr):Prop:=∀o i,subscripted b false o i=operate [o,i] (getItem o i)
def IxR(X:Cx)(r:R2):Prop:=
 ∀(value slice:Expr) (eU:List (Addr×Obj)) (s:Shared) (σ:St) (H:Hp) (x y:V) (v u:Value) (Q:VK),Inv X eU σ H s->RelV x v->RelV y u->r x y H Q ->
  subscripted slice false v u=operate [v,u] (getItem v u)->wpAny (model X.prog X.w) X.A (subscriptTail value slice v u) (EP X eU σ Q) X.xe s
def MtR(X:Cx)(id:String)(r:V->List V->Hp->VK->Prop):Prop:=
 ∀(eU:List (Addr×Obj)) (s:Shared) (σ:St) (H:Hp) (x:V) (xs:List V) (v:Value) (us:List Value) (Q:VK),Inv X eU σ H s->RelV x v->Vals xs us->r x xs H Q ->
  wpAny (model X.prog X.w) X.A (call (.builtin id) (v::us)) (EP X eU σ Q) X.xe s
section
variable{X:Cx}{a b:Expr}{ta tb:TE}{pos:Pos}
section
variable{eU:List (Addr×Obj)}{s:Shared}{σ:St}{H:Hp}
theorem IxR.or{r r':R2}(h:IxR X r)(h':IxR X r'):IxR X (fun x y H Q=>r x y H Q\/r' x y H Q):=by
 intro value slice eU s σ H x y v u Q I rx ry q hs;rcases q with q | q
 ·exact h value slice eU s σ H x y v u Q I rx ry q hs
 ·exact h' value slice eU s σ H x y v u Q I rx ry q hs
theorem Ek{r:R2}(hr:IxR X r)(ha:PE X a ta)(hb:PE X b tb)(hs:qu b):PE X (.Subscript a b pos) (tOp r ta tb):=by intro eU s σ H Q I h;exact Subscript_ (Fw ha hb I h fun v u s2 x y H2 I2 rx ry q=>hr a b eU s2 σ H2 x y v u Q I2 rx ry q (hs _ _))
def ID(K:Mv):R2:=fun x y H Q=>∃p xs i v,x=.ref p/\y=.int i/\SqL K H p xs/\atI xs i=some v/\Q v H
def IE(K:Mv):R2:=fun x y H Q=>∃p xs i v,x=.ref p/\y=.int i/\SqT K H p xs/\atI xs i=some v/\Q v H
def IF:R2:=fun x y H Q=>∃z i c,x=.str z/\y=.int i/\z.length<=sizeLine/\atI z.cps.toList i=some c/\Q (.str ⟨#[c]⟩) H
theorem Ci:IxR X (ID X.K):=by
 intro value slice eU s σ H x y v u Q I rx ry h hs;obtain⟨p,xs,i,z,rfl,rfl,hq,he,q⟩:=h;cases rx;obtain⟨t,rfl⟩:=ry;obtain⟨its,r,pl,hz⟩:=I.list hq;obtain⟨j,h1,h2,h3,h4,h5⟩:=qt he;obtain⟨w,ew,rw'⟩:=r.get h2;have hl:=r.length;have hn:=kC;have Rt:EP X eU σ Q w s:=⟨z,H,I,rw',q⟩
 by_cases h0:0<=i
 ·have hj:i.toNat=j:=by
   rw[seqIndex_of h0 h5]at h1;exact Option.some.inj h1
  exact item_listR pl.isList h0 (by lia) (by rw[hj];simpa using ew) Rt hs
 ·have hj:(i+(its.toArray.size:Int)).toNat=j:=by
   rw[seqIndex_neg (by lia) h4]at h1;rw[MW,<- hl];exact Option.some.inj h1
  exact subscriptTail_builtinR (x:=w) pl.isList.typeIs slot_list_getitem.lookup
   (wpAny_getItem_list_neg (Q:=fun r s'=>r=w/\EP X eU σ Q r s') pl.isList (by lia) (by rw[MW]<;>lia) (by lia) (by rw[hj];simpa using ew) ⟨rfl,Rt⟩) hs
theorem FQ:IxR X (IE X.K):=by
 intro value slice eU s σ H x y v u Q I rx ry h hs;obtain⟨p,xs,i,z,rfl,rfl,hq,he,q⟩:=h;cases rx;obtain⟨t,rfl⟩:=ry;obtain⟨its,r,pl,hz⟩:=I.tuple hq;obtain⟨j,h1,h2,h3,h4,h5⟩:=qt he;obtain⟨w,ew,rw'⟩:=r.get h2;have hl:=r.length;have hn:=kC;have Rt:EP X eU σ Q w s:=⟨z,H,I,rw',q⟩
 exact subscriptTail_builtinR (x:=w) pl.typeIs slot_tuple_getitem.lookup
  (getItem_tuple (j:=j) (Q:=fun r s'=>r=w/\EP X eU σ Q r s') pl (by lia) (by lia) (by rw[MW,<- hl];exact h1) (by simpa using ew) ⟨rfl,Rt⟩) hs
theorem FU:IxR X IF:=by
 intro value slice eU s σ H x y v u Q I rx ry h hs;obtain⟨z,i,c,rfl,rfl,hz,he,q⟩:=h;obtain⟨t,rfl⟩:=rx;obtain⟨t',rfl⟩:=ry;obtain⟨j,h1,h2,h3,h4,h5⟩:=qt he;have hl:z.cps.toList.length=z.length:=by simp[Str.length]
 rw[hl]at h1 h4 h5;have hn:=kC;exact tail_any (typeIs_str s z t) slot_str_getitem.lookup (getItem_str (c:=c) (by have e1:decide (i < -(2 ^ 63:Int))=false:=decide_eq_false (by lia);have e2:decide (i≥2 ^ 63)=false:=decide_eq_false (by lia);rw[e1,e2,Bool.or_false]) (by rw[h1];simpa using h2) ⟨.str ⟨#[c]⟩,H,I.tok _,⟨_,rfl⟩,q⟩) hs
theorem uF(its:List Value)(n j:Nat)(u:Value):Ov (·.setIfInBounds j u) { cls:=.type "list",data:=.seq its.toArray n }={ cls:=.type "list",data:=.seq (its.set j u).toArray n }:=by simp[Ov]
theorem Inv.lst{eU:List (Addr×Obj)}{σ:St}{H:Hp}{s:Shared}{p:Addr}{xs:List V}(I:Inv X eU σ H s)(h:H p=some (.lst xs)) :
  ∃(its:List Value) (n:Nat),Vals xs its/\s.heap.get? p=some { cls:=.type "list",data:=.seq its.toArray n }/\xs.length<=sizeLine:=by
 obtain⟨z,its,n,r,e⟩:=I.hok p _ h;exact⟨its,n,r,e,z⟩
theorem Inv.FW{p:Addr}{xs ys:List V}{its its':List Value}{n n':Nat}{f:Obj->Obj}(I:Inv X eU σ H s)(h:H p=some (.lst xs))
  (ho:s.heap.get? p=some { cls:=.type "list",data:=.seq its.toArray n }) (hf:f { cls:=.type "list",data:=.seq its.toArray n }={ cls:=.type "list",data:=.seq its'.toArray n' }) (r:Vals ys its') (hz:ys.length<=sizeLine) (t:Nat) :
  Inv X eU σ (upd H p (.lst ys)) { s with heap:=s.heap.update p f,toks:=t }:=by
 have e:(s.heap.update p f).get? p=some { cls:=.type "list",data:=.seq its'.toArray n' }:=by rw[N8 f ho (by rw[hf]<;>rfl),hf]
 refine I.write (x:=p) (e:=p) (by rw[h];trivial) (.inl rfl) (fun b u hb q=>(Oz _ _ (Nt hb)).trans q) ⟨_,e⟩ ?_;exact⟨hz,its',n',r,e⟩
def El:V->V->V->Hp->(Hp->Prop)->Prop:=fun o i v H Q=>∃p xs k j,o=.ref p/\i=.int k/\H p=some (.lst xs)/\ixN xs.length k=some j/\Q (upd H p (.lst (xs.set j v)))
theorem set_list:Io X El:=by
 intro eU s σ H o i v ov iv u Q I ro ri rv h;obtain⟨p,xs,k,j,rfl,rfl,hp,hj,q⟩:=h;cases ro;obtain⟨t,rfl⟩:=ri;obtain⟨its,n,r,ho,hz⟩:=I.lst hp;obtain⟨h1,h2,h3,h4⟩:=vK hj;have hl:=r.length;have hn:=kC;have I':Inv X eU σ (upd H p (.lst (xs.set j v))) { s with heap:=s.heap.update p (Ov (·.setIfInBounds j u)) }:=
  I.FW hp ho (uF its n j u) (r.set rv j) (by rw[Nr];exact hz) s.toks
 by_cases h0:0<=k
 ·have hk:k.toNat=j:=by
   rw[seqIndex_of h0 h4]at h1;exact Option.some.inj h1
  exact PySem.W.ki_setAt ho h0 (by lia) (by rw[MW,<- hl];exact h4) (by rw[hk];exact⟨_,I',q⟩)
 ·have hk:(k+(its.toArray.size:Int)).toNat=j:=by
   rw[seqIndex_neg (by lia) h3]at h1;rw[MW,<- hl];exact Option.some.inj h1
  exact PySem.W.ki_setBack ho (by lia) (by rw[MW,<- hl];exact h3) (by lia) (by rw[hk];exact⟨_,I',q⟩)
theorem qv(lo hi:Option Int)(n:Nat):(sliceBounds lo hi none n).1=((HT.sIx n 0 lo:Nat):Int)/\(sliceBounds lo hi none n).2.1=((HT.sIx n n hi:Nat):Int)/\(sliceBounds lo hi none n).2.2=1:=by
 refine⟨?_,?_,rfl⟩
 ·cases lo with
  |none=>simp[sliceBounds,HT.sIx]
  |some i=>
   simp only[sliceBounds,HT.sIx,Option.getD_none,show (1:Int)>0 by decide,if_true];by_cases h:i<0
   ·simp only[h,if_true]<;>lia
   ·simp only[h,if_false]<;>lia
 ·cases hi with
  |none=>simp[sliceBounds,HT.sIx]
  |some i=>
   simp only[sliceBounds,HT.sIx,Option.getD_none,show (1:Int)>0 by decide,if_true];by_cases h:i<0
   ·simp only[h,if_true]<;>lia
   ·simp only[h,if_false]<;>lia
theorem pC(its:List Value)(lo hi:Option Int):slicePick its.toArray lo hi none=((its.drop (HT.sIx its.length 0 lo)).take (HT.sIx its.length its.length hi-HT.sIx its.length 0 lo)).toArray:=by obtain⟨h1,h2,h3⟩:=qv lo hi its.toArray.size;unfold slicePick;rw[h1,h2,h3];simp only[sliceRange_one,pick_run,MW]<;>rfl
def IG(K:Mv):V->Option Int->Option Int->Hp->VK->Prop:=fun x lo hi H Q=>∃a xs,x=.ref a/\SqL K H a xs/\∀p,H p=none->Q (.ref p) (upd H p (.lst (uE xs lo hi)))
theorem Cj:SlR X (IG X.K):=by intro eU s σ H x v vl vu lo hi sl Q I rx hs pl pu h;obtain⟨a,xs,rfl,hx,q⟩:=h;cases rx;obtain⟨its,r,ht,hz⟩:=I.list hx;have Dh:=r.length;refine⟨"list",_,slot_list_getitem.lookup,ht.isList.typeIs,?_⟩;refine wpAny_getItem_list_slice ht.isList hs pl pu .none (by simp) ?_ (by rw[MW]<;>lia);rw[pC,<- Dh];refine⟨.ref s.heap.objs.size,_,I.laid (t':=s.toks) (o:=.lst (uE xs lo hi)) (fun b ob q=>MR _ q) (MO _) ?_,rfl,q _ (I.hok.fresh (MO _))⟩;exact⟨M6 (rM xs lo hi) hz,_,0,(r.drop (HT.sIx xs.length 0 lo)).take (HT.sIx xs.length xs.length hi-HT.sIx xs.length 0 lo),M9 _ rfl⟩
theorem qw:dP X (.builtin "len") (fun xs H Q=>∃p ys,xs=[.ref p]/\(SqL X.K H p ys\/SqT X.K H p ys)/\Q (.int ys.length) H):=by
 intro eU s σ H xs us Q I r h;obtain⟨p,ys,rfl,hq,q⟩:=h;obtain⟨u,rfl,rx⟩:=vals1 r;cases rx;have hn:=kC;rcases hq with hq | hq
 ·obtain⟨its,r',pl,hz⟩:=I.list hq;have Dh:=r'.length;exact Calls.call_len_list pl.isList (by simp only[MW]<;>lia) ⟨.int ys.length,H,I.tok _,⟨s.toks+1,by rw[MW,Dh]⟩,q⟩
 ·obtain⟨its,r',pl,hz⟩:=I.tuple hq;have Dh:=r'.length;exact len_tuple pl (by simp only[MW]<;>lia) ⟨.int ys.length,H,I.tok _,⟨s.toks+1,by rw[MW,Dh]⟩,q⟩
theorem qx:dP X (.builtin "len") (fun xs H Q=>∃z,xs=[.str z]/\z.length<=sizeLine/\Q (.int z.length) H):=by intro eU s σ H xs us Q I r h;obtain⟨z,rfl,hz,q⟩:=h;obtain⟨u,rfl,t,rfl⟩:=vals1 r;have hn:=kC;exact len_str (by lia) ⟨.int z.length,H,I.tok _,⟨_,rfl⟩,q⟩
theorem qy:dP X (.type "list") (fun xs H Q=>∃p ys,xs=[.ref p]/\(SqL X.K H p ys\/SqT X.K H p ys)/\∀l,H l=none->Q (.ref l) (upd H l (.lst ys))):=by
 intro eU s σ H xs us Q I r h;obtain⟨p,ys,rfl,hq,q⟩:=h;obtain⟨u,rfl,rx⟩:=vals1 r;cases rx;have Rt:∀(its:List Value),Vals ys its->ys.length<=sizeLine->∀(h':Heap) (c':Nat),(∀b o',s.heap.get? b=some o'->h'.get? b=some o') ->
   h'.get? s.heap.objs.size=some { cls:=.type "list",dict:=none,data:=.seq its.toArray c',slots:=#[] }->EP X eU σ Q (.ref s.heap.objs.size) { s with heap:=h' }:=fun its r' hz h' c' kp e=>
  ⟨.ref s.heap.objs.size,_,I.laid (t':=s.toks) kp (MO _) (show ck X.prog X.w _ h' _ (.lst ys) from ⟨hz,its,c',r',e⟩),rfl,q _ (I.hok.fresh (MO _))⟩
 rcases hq with hq | hq
 ·obtain⟨its,r',pl,hz⟩:=I.list hq;have Dh:=r'.length;obtain⟨o,ho,hc,n,hd⟩:=pl.isList;exact call_list_seq p (.inl rfl) ho hc hd (fun h' c' kp e=>Rt its r' hz h' c' kp e) (by simp only[MW]<;>lia)
 ·obtain⟨its,r',pl,hz⟩:=I.tuple hq;have Dh:=r'.length;obtain⟨o,ho,hc,n,hd⟩:=pl;exact call_list_seq p (.inr rfl) ho hc hd (fun h' c' kp e=>Rt its r' hz h' c' kp e) (by simp only[MW]<;>lia)
theorem pD:dP X (.type "tuple") (fun xs H Q=>∃p ys,xs=[.ref p]/\((SqL X.K H p ys/\∀l,H l=none->Q (.ref l) (upd H l (.tup ys)))\/(SqT X.K H p ys/\Q (.ref p) H))):=by
 intro eU s σ H xs us Q I r h;obtain⟨p,ys,rfl,h⟩:=h;obtain⟨u,rfl,rx⟩:=vals1 r;cases rx;rcases h with⟨hq,q⟩ | ⟨hq,q⟩
 ·obtain⟨its,r',pl,hz⟩:=I.list hq;have Dh:=r'.length;refine call_tuple_list pl.isList (fun h' kp=>?_) (by simp only[MW]<;>lia);have I1:Inv X eU σ H { s with heap:=h' }:=I.kept (t':=s.toks) kp;have I2:Inv X eU σ (upd H h'.objs.size (.tup ys)) { s with heap:=h'.push { cls:=.type "tuple",data:=.seq its.toArray } }:=
   I1.laid (t':=s.toks) (fun b o e=>MR _ e) (MO _) (show ck X.prog X.w _ _ _ (.tup ys) from ⟨hz,its,r',IsTup.new _ _⟩)
  exact⟨.ref h'.objs.size,_,I2,rfl,q _ (I1.hok.fresh (MO _))⟩
 ·obtain⟨its,r',pl,hz⟩:=I.tuple hq;exact call_tuple_same pl ⟨.ref p,H,I,rfl,q⟩
def tyV(K:Mv)(T:String)(x:V)(H:Hp):Prop:=match x with
 |.str _=>T = "str"
 |.int _=>T = "int"
 |.ref p=>(T = "list" /\ ∃xs,SqL K H p xs)\/(T = "tuple" /\ ∃o,K.lookup p=some o/\o.cls=.type "tuple" /\ o.dict=none) \/
   (T = "dict" /\ ((∃kvs,H p=some (.dK kvs))\/∃kvs ts,H p=some (.dT kvs ts)))\/(T = "set" /\ ∃S n,H p=some (.set S n))
 |_=>False
theorem zg{T:String}{x:V}{v:Value}(I:Inv X eU σ H s)(r:RelV x v)(ty:tyV X.K T x H) :
  s.TypeIs v T/\∀a,v=.ref a->∃ob,s.heap.get? a=some ob/\ob.dict=none:=by
 cases x with
 |str z=>obtain⟨t,rfl⟩:=r;cases (show T = "str" from ty);exact⟨typeIs_str s z t,fun _ e=>nomatch e⟩
 |int i=>obtain⟨t,rfl⟩:=r;cases (show T = "int" from ty);exact⟨typeIs_int s i t,fun _ e=>nomatch e⟩
 |ref p=>
  cases r;rcases ty with⟨rfl,xs,hq⟩ | ⟨rfl,o,hk,hc,hd⟩ | ⟨rfl,hk⟩ | ⟨rfl,S,n,hk⟩
  ·obtain⟨its,_,pl,_⟩:=I.list hq;refine⟨pl.isList.typeIs,fun a e=>?_⟩;cases e;obtain⟨o,n,e,c,hd,_⟩:=pl;exact⟨o,e,hd⟩
  ·refine⟨⟨o,I.kIn p o hk,hc⟩,fun a e=>?_⟩;cases e;exact⟨o,I.kIn _ o hk,hd⟩
  ·have z:∃o,s.heap.get? p=some o/\o.ExactDict:=by
    rcases hk with⟨kvs,hk⟩ | ⟨kvs,ts,hk⟩
    ·obtain⟨_,_,_,_,o,_,_,e,ex,_⟩:=I.hok p _ hk;exact⟨o,e,ex⟩
    ·obtain⟨_,_,_,_,o,_,_,e,ex,_⟩:=I.hok p _ hk;exact⟨o,e,ex⟩
   obtain⟨o,e,ex⟩:=z;refine⟨⟨o,e,ex.1⟩,fun a e2=>?_⟩;cases e2;exact⟨o,e,ex.2.1⟩
  ·obtain⟨o,_,_,_,e,ex,_⟩:=I.hok p _ hk;refine⟨⟨o,e,ex.1⟩,fun a e2=>?_⟩;cases e2;exact⟨o,e,ex.2.1⟩
 |_=>exact MX ty
def II(K:Mv)(T:String)(r:V->List V->Hp->VK->Prop)(to:TE):TE:=fun σ H Q=>to σ H fun x H1=>tyV K T x H1/\r x [] H1 Q
def tBM(K:Mv)(T:String)(r:V->List V->Hp->VK->Prop)(to:TE)(t:TA):TE:=fun σ H Q=>to σ H fun x H1=>tyV K T x H1/\t σ H1 fun xs H2=>r x xs H2 Q
variable{o e:Expr}{es:List Expr}{to:TE}{t:TA}{name:Str}{Rx cpos:Pos}{T id:String}{r:V->List V->Hp->VK->Prop}
theorem FY(pa:PlainAttrs T)(slot:Slot T name id)(hty:typeOf (.builtin id)=pure (.type "method_descriptor"))(hm:MtR X id r)(ho:PE X o to)
  (Ka:attributeBase o name X.env (eval o X.env)=eval o X.env:=by rfl) (G_:(Rx.endLine == cpos.line)=true:=by rfl):PE X (.Call (.Attribute o name Rx) [] [] cpos) (II X.K T r to):=by
 intro eU s σ H Q I h;refine wpAny_Call_method0_late Ka G_ (thn (ho eU s σ H _ I h) fun v s1 ⟨x,H1,I1,r1,ty,q1⟩=>?_);obtain⟨h1,h2⟩:=zg I1 r1 ty;exact⟨T,id,pa,slot,hty,h1,h2,Calls.callWith_builtin rfl (PySem.evalArgs_none (hm eU s1 σ H1 x [] v [] Q I1 r1 .nil q1))⟩
theorem Em(pa:PlainAttrs T)(slot:Slot T name id)(hty:typeOf (.builtin id)=pure (.type "method_descriptor"))(hm:MtR X id r)(ho:PE X o to)(ha:PA X (e::es) t)
  (Ka:attributeBase o name X.env (eval o X.env)=eval o X.env:=by rfl)
  (hfew:((backTo cpos (starEach (e::es) X.env)).all (fun x=>!x.1)&&(backToKw cpos (keywordEach [] X.env)).all (fun x=>x.1.isSome)
   && decide ((e::es).length+([]:List Keyword).length+(if ([]:List Keyword).isEmpty then 0 else 1)<30))=true:=by rfl)
  (G_:(Rx.endLine == cpos.line)=true:=by rfl) (hs:starEach (e::es) X.env=(false,eval e X.env)::starEach es X.env:=by rfl) (Kd:(backTo cpos (starEach es X.env)).any (·.1)=false:=by rfl) :
  PE X (.Call (.Attribute o name Rx) (e::es) [] cpos) (tBM X.K T r to t):=by
 intro eU s σ H Q I h;refine wpAny_Call_method_late Ka hfew G_ rfl (thn (ho eU s σ H _ I h) fun v s1 ⟨x,H1,I1,r1,ty,q1⟩=>?_);obtain⟨h1,h2⟩:=zg I1 r1 ty;refine⟨T,id,pa,slot,hty,h1,h2,?_⟩;have hA:=ha cpos eU s1 σ H1 _ I1 q1;rw[hs]at hA ⊢;refine Calls.callWith_builtin (by show (false||(backTo cpos (starEach es X.env)).any (·.1))=false;rw[Kd]<;>rfl) (Calls.evalArgs_plain ?_);exact thn hA fun us s2 ⟨vs,H2,I2,r2,q2⟩=>hm eU s2 σ H2 x vs v us Q I2 r1 r2 q2
end
end
def MtM(X:Cx)(id:String)(r:V->List V->Hp->VK->Prop):Prop:=
 ∀(eU:List (Addr×Obj)) (s:Shared) (σ:St) (H:Hp) (x:V) (xs:List V) (v:Value) (us:List Value) (Q:VK),Inv X eU σ H s->RelV x v->Vals xs us->r x xs H Q ->
  wpAny (model X.prog X.w) X.A (call (.builtin id) (v::us)) (EP X eU σ Q) X.xe s
theorem Vals.one:∀{x:V} {us:List Value},Vals [x] us->∃u,us=[u]/\RelV x u
 |_,_,.cons r .nil=>⟨_,rfl,r⟩
theorem Vals.rep{xs:List V}{us:List Value}(h:Vals xs us):∀k:Nat,Vals (gc k xs).flatten (gc k us).flatten
 |0=>.nil
 |k+1=>by rw[Nx,Nx,NP,NP];exact Vals.append h (Vals.rep h k)
theorem foldl_rep(its:List Value):∀(k:Nat) (qN:List Value),
  PN (fun x1 x2=>x1++x2) qN.toArray (gc k its.toArray)=(qN++(gc k its).flatten).toArray
 |0,qN=>by simp
 |k+1,qN=>by
  have e:qN.toArray++its.toArray=(qN++its).toArray:=by simp
  have e2:(qN++its)++(gc k its).flatten=qN++(gc (k+1) its).flatten:=by rw[Nx,NP,Ny]
  rw[<- e2,<- foldl_rep its k (qN++its),<- e,Nx,Pp]
section
variable{X:Cx}{eU:List (Addr×Obj)}{σ:St}{H:Hp}{s:Shared}{l b:Addr}{xs ys zs:List V}
theorem Inv.Lo{its its':List Value}{n:Nat}{f:Array Value->Array Value}{t':Nat}(I:Inv X eU σ H s)(hH:H l=some (.lst xs))
  (e:s.heap.get? l=some { cls:=.type "list",data:=.seq its.toArray n }) (hf:f its.toArray=its'.toArray) (hv:Vals ys its') (hz:ys.length<=sizeLine) :
  Inv X eU σ (upd H l (.lst ys)) { s with heap:=s.heap.update l (Ov f),toks:=t' }:=by
 have q:=PySem.IsL.update e f;rw[hf]at q;refine I.write (x:=l) (e:=l) (by rw[hH];exact trivial) (.inl rfl) (fun b' u hb hu=>(Oz s.heap (Ov f) (Nt hb)).trans hu) ⟨_,q⟩ ?_;exact⟨hz,its',_,hv,q⟩
theorem Inv.FZ{its:List Value}{t':Nat}(I:Inv X eU σ H s)(hv:Vals ys its)(hz:ys.length<=sizeLine) :
  Inv X eU σ (upd H s.heap.objs.size (.lst ys)) { s with heap:=s.heap.push { cls:=.type "list",data:=.seq its.toArray },toks:=t' }:=
 I.laid (fun _ _ q=>MR _ q) (MO _) ⟨hz,its,0,hv,M9 _ rfl⟩
theorem Inv.fresh(I:Inv X eU σ H s):H s.heap.objs.size=none:=I.hok.fresh (MO _)
theorem Inv.Lp(I:Inv X eU σ H s)(hH:H l=some (.lst xs)):xs.length<=sizeLine/\∃(its:List Value) (n:Nat),Vals xs its/\xs.length=its.length/\s.heap.get? l=some { cls:=.type "list",data:=.seq its.toArray n }:=by obtain⟨z,its,n,r,e⟩:=I.hok l _ hH;exact⟨z,its,n,r,r.length,e⟩
theorem zh{n:Nat}(h:n<=sizeLine):Oq n=false:=by unfold Oq;exact decide_eq_false (by lia)
end
section
variable{X:Cx}
def vL:V->List V->Hp->VK->Prop:=fun x vs H Q=>∃l xs y,x=.ref l/\vs=[y]/\H l=some (.lst xs)/\xs.length<sizeLine/\Q .non (upd H l (.lst (xs++[y])))
theorem pR:MtM X "list.append" vL:=by
 intro eU s σ H x vs v us Q I rx rv h;obtain⟨l,xs,y,rfl,rfl,hH,hz,q⟩:=h;cases rx;obtain⟨u,rfl,ru⟩:=rv.one;obtain⟨z,its,n,r,hl,e⟩:=I.Lp hH;refine call_meets F.slot_list_append ⟨_,e,rfl⟩ F.entry_list_append (F.args_list_append_2 _ _) (PySem.list_append l its.toArray n u (by rw[MW];lia)) ⟨e,?_⟩;refine⟨.non,_,I.Lo (its':=its++[u]) hH e (by simp) (r.append (.cons ru .nil)) ?_,rfl,q⟩;rw[MA,OC]
 lia
theorem len_rep{α:Type}(xs:List α)(k:Nat):(gc k xs).flatten.length=k*xs.length:=by
 induction k with
 |zero=>simp
 |succ k ih=>rw[Nx,NP,MA,ih,Nat.succ_mul,PJ]
end
end L2
namespace Att
open PySem PySem.W PySem.Calls PyProof.Rows
theorem lQ{P:Params}{h:Heap}:∀(ns:List Int) (vs:List Value),WellAll P h vs (ns.map WData.int)->IntsAre vs ns:=by
 intro ns
 induction ns with
 |nil=>intro vs w;rw[ML]at w;cases w;exact .nil
 |cons n ns ih=>
  intro vs w;rw[Mu]at w;cases w with
  |cons a b=>cases a;exact .cons _ _ (ih _ b)
theorem xO{l:OpenLaw}{n:Nat}(hn:l.most=some n){P:Params}{h:Heap}{args:List WData}{vals:List Value}
  (hpre:l.row.toRowW.claim.pre args=true) (hwl:WellAll P h vals args) :
  ∃a vs ns,vals=[Nq a]/\args=[WData.list (ns.map WData.int)]/\h.get? a=some { cls:=.type "list",data:=.seq vs.toArray }/\IntsAre vs ns/\ns.length<=n:=by
 have hsh:WShape.hasAll [] args [.list .int]=true:=(pre_splitW hpre).1;have hc:l.pre.holds [] { args:=args }=true:=(pre_splitW hpre).2;obtain⟨d,r,rfl,h1,h2⟩:=hasAllW_cons hsh;obtain rfl:=hasAllW_nil h2;obtain⟨xs,rfl,h3⟩:=hasW_list h1;obtain⟨ns,rfl⟩:=items_int h3;have Dh:ns.length<=n:=by
  unfold OpenLaw.pre at hc;have h4:(WTm.not (.lt (.lit (.int (n:Int))) (.len (.arg 0)))).holds [] { args:=[.list (ns.map .int)] }=true:=by have h4:=(holds_andW hc).1;rw[hn]at h4;exact h4
  have h5:=condW_of h4 (w_not (w_lt w_lit (w_len_list (w_arg rfl))));rw[MP]at h5;refine Nat.le_of_not_lt fun q=>?_;have q':(n:Int)<((ns.length:Nat):Int):=by omega
  first
   |(rw[decide_eq_true q']at h5;exact absurd h5 (by decide))
   |(simp at h5;omega)
 cases hwl with
 |cons w1 w2=>
  cases w2;cases w1 with
  |list ho hall=>exact⟨_,_,ns,rfl,rfl,ho,lQ ns _ hall,Dh⟩
theorem xP(l:OpenLaw)(args:List WData):l.row.toRowW.claim.post args (.bool true) args=true:=
 postW_of (r:=l.row.toRowW) (X:=(true == true))
  (show WShape.has [] (.bool true) .bool=true by first | rfl | decide | simp[WShape.has,WShape.arms,WShape.armsAll])
  (show (WTm.eq .res (.lit (.bool true))).value [] { args:=args,res:=some (.bool true),after:=args }=some (.bool (true == true)) from w_eq_bool (w_res rfl) w_lit) rfl
theorem rN{l:OpenLaw}{n:Nat}{q:Program}{loose:List Str}{XP:(Str->Option Value)->Heap->Prop}{YP:World->Heap->Prop}{d:DefRec}
  (hn:l.most=some n) (hdf:d.params.defaults=[])
  (call:∀ (w:World) (s₀ s₁:Shared) (mg mb:Str→Option Value) (fa:Addr) (o:Obj) (pm cd doc:Value) (a:Addr) (vs:List Value) (ns:List Int),
   Ground q loose [] XP w s₀ mg mb s₁.heap->YP w s₁.heap ->
   s₁.heap.get? fa=some o->o.data=.func (docDef d.name d.params d.body d.scope pm cd doc)->s₁.heap.CodeRec cd d.name->mg d.name=some (.ref fa) ->
   s₁.heap.get? a=some { cls:=.type "list",data:=.seq vs.toArray }->IntsAre vs ns->ns.length<=n->s₁.gens=#[] ->
   codeAny (model l.prog w) callerA (.call (.ref fa) ⟨[.ref a],[]⟩) (fun r s'=>r=.ok (.ret (.bool true))/\OldK s₁.heap s'.heap/\s'.os=s₁.os/\AllBare s'.gens) s₁) :
  WalkO q loose XP YP l.row.toRowW d [] (fun f vs=>PySem.call f vs):=by
 intro w s₀ s₁ mg mb G Y fa o pm cd doc dV kV ho hd Rv hD hmg hg args vals as hpre hlay hrd hwl hlo;obtain rfl:dV=.none:=Dflts.none hD hdf;obtain rfl:kV=.none:=Dflts.noKw hD;obtain⟨a,vs,ns,rfl,rfl,hobj,hints,Dh⟩:=xO hn hpre hwl;refine enter_call (codeAny_mono (call w s₀ s₁ mg mb fa o pm cd doc a vs ns G Y ho (fd_plain hd) Rv hmg hobj hints Dh hg) fun r s' hq=>?_);obtain⟨rfl,h2,h3,h4⟩:=hq;exact⟨.inl ⟨.bool true,.bool true,[],rfl,fun _=>rfl,.bool true,xP l _,fun _=>⟨List.Pairwise.nil,fun _ hm=>(nomatch hm)⟩⟩,h2,h3,h4⟩
end Att
namespace L2
open PySem PySem.Spec PyProof.Rows
theorem pS:∀{vs:List Value} {ns:List Int},IntsAre vs ns->Vals (ns.map V.int) vs
 |_,_,.nil=>.nil
 |_,_,.cons n t h=>.cons ⟨t,rfl⟩ (pS h)
def F0(H:Hp):Prop:=∀b,H b=none\/∃o xs,H b=some (.frz o (.lst xs))
theorem zj{P:Program}{w:World}{K:Mv}{mg mb:Str->Option Value}{CX:CXT}{k:Nat}{fa a:Addr}{fd:FuncData}{x:Str}{sp:Sp}{s₁:Shared}{vs:List Value}{ns:List Int}
  (KX:K.In s₁.heap) (hns:s₁.heap.Ns mainGlobals mg) (hb:s₁.heap.Ns builtinsNs mb) (hbb:∀x:Str,x ≠ "__name__" -> mb x=bootBuiltins x) (hlim:s₁.heap.NoLimit) (hg:s₁.gens=#[])
  (ha:s₁.heap.get? a=some { cls:=.type "list",data:=.seq vs.toArray }) (hi:IntsAre vs ns) (hl:ns.length<=sizeLine) (hr:c_ k callerA)
  (F:∀base:Heap,K.In base->base.Ns mainGlobals mg->bW P w K mg base CX k fa fd [x] sp) (hbind:∀(s:Shared) (u:Value),BindsTo s fd ⟨[u],[]⟩ [(x,u)])
  (hsp:∀H:Hp,F0 H->SqL K H a (ns.map V.int)->sp [.ref a] H (fun v _=>v=.bl true) fun _ _ _=>False)
  (hCX:∀H e s',CX [] H s₁ (fun _ _ _=>False) e s'->False) :
  codeAny (model P w) callerA (.call (.ref fa) ⟨[.ref a],[]⟩) (fun r s'=>r=.ok (.ret (.bool true))/\OldK s₁.heap s'.heap/\s'.os=s₁.os/\AllBare s'.gens) s₁:=by
 have rv:=pS hi;have Lq:=hi.length;have core:∀H:Hp,F0 H->SqL K H a (ns.map V.int)->HOk P w H s₁.heap->(∀b,H b≠none->b=a)->(H a≠none->K.lookup a=none) ->
   codeAny (model P w) callerA (.call (.ref fa) ⟨[.ref a],[]⟩) (fun r s'=>r=.ok (.ret (.bool true))/\OldK s₁.heap s'.heap/\s'.os=s₁.os/\AllBare s'.gens) s₁:=by
  intro H hO hS hok hA hK;have vM:∀{b:Addr} {o:Obj},s₁.heap.get? b=some o->H b=none->(ql s₁.heap H).get? b=some o:=fun e n=>yN e n;have noA:∀{b:Addr} {o:Obj} {es:Array DictEntry} {ep:Nat},s₁.heap.get? b=some o->o.data=.dict es ep->H b=none:=fun {b o es ep} e d=>by
   cases q:H b with
   |none=>rfl
   |some u=>have e':b=a:=hA b (by rw[q];simp);subst e';rw[ha]at e;cases e;have d':Data.seq vs.toArray _=Data.dict es ep:=d;cases d'
  have nsK:∀{b:Addr} {m:Str->Option Value},s₁.heap.Ns b m->(ql s₁.heap H).Ns b m:=fun {b m} ⟨o,es,ep,e,d,r⟩=>⟨o,es,ep,vM e (noA e d),d,r⟩;have hKb:K.In (ql s₁.heap H):=fun b o e=>vM (KX b o e) (by
   cases q:H b with
   |none=>rfl
   |some u=>have e':b=a:=hA b (by rw[q];simp);subst e';rw[hK (by rw[q];simp)]at e;cases e)
  have hM:Mod K mg (ql s₁.heap H):=⟨hKb,nsK hns,⟨mb,nsK hb,hbb⟩,let ⟨mc,h1,h2⟩:=hlim;⟨mc,nsK h1,h2⟩⟩
  have e0:Cd P w K mg (ql s₁.heap H) callerA [] s₁ H:=⟨rfl,hM,fun b o e=>B4 e,Nat.le_of_eq (xw _ _),trivial,fun b hb=>absurd (show b∈([]:List Addr) from hb) (by simp),hok,.of_eq hg⟩
  refine codeAny_mono ((F _ hKb (nsK hns)).run callerA [] s₁ H ⟨[.ref a],[]⟩ [.ref a] [.ref a] _ _ hr e0 (hbind s₁ (.ref a)) (.cons rfl .nil) (hsp H hO hS)) fun r s' h=>?_;cases r with
  |error e=>exact(hCX H e s' h).elim
  |ok fl=>
   cases fl with
   |next=>exact MX h
   |brk=>exact MX h
   |cont=>exact MX h
   |ret u=>
    obtain⟨v,H',os,bare,un,Lr,r',q⟩:=h;have q':v=.bl true:=q;subst q';obtain rfl:u=PM true:=r';refine⟨rfl,OldK.of_keep fun b o e=>?_,os,bare⟩;cases q:H b with
    |none=>exact un.keep b o e q (by intro z;exact absurd (show b∈([]:List Addr) from z) (by simp)) (by simp)
    |some u=>
     rcases hO b with z | ⟨ob,xs,z⟩
     ·rw[q]at z;cases z
     ·have z2:=un.lO b ob _ z;obtain⟨e1,_⟩:=hok b _ z;obtain⟨e2,_⟩:=Lr b _ z2;rw[e]at e1;cases e1;exact e2
 cases hk:K.lookup a with
 |some o=>have e:=KX a o hk;rw[ha]at e;cases e;refine core (fun _=>none) (fun _=>.inl rfl) (.inr ⟨_,vs.toArray,_,hk,rfl,rfl,rfl,by rw[MW,Lq];exact hl,by simpa using rv⟩) (fun b u z=>by have z':(none:Option HO)=some u:=z;cases z') (fun b z=>absurd rfl z) fun z=>absurd rfl z
 |none=>
  refine core (fun b=>if b=a then some (.frz { cls:=.type "list",data:=.seq vs.toArray } (.lst (ns.map V.int))) else none) (fun b=>?_) (.inl (.inr ⟨{ cls:=.type "list",data:=.seq vs.toArray },if_pos rfl⟩)) (fun b u z=>?_) (fun b z=>?_) fun _=>hk
  ·by_cases hb:b=a
   ·exact .inr ⟨_,_,if_pos hb⟩
   ·exact .inl (if_neg hb)
  ·by_cases hb:b=a
   ·have z':=(if_pos hb).symm.trans z;cases z';subst hb;exact⟨ha,by rw[MP];exact hl,vs,_,rv,ha⟩
   ·have z':=(if_neg hb).symm.trans z;cases z'
  ·by_cases hb:b=a
   ·exact hb
   ·exact absurd (if_neg hb) z
theorem Ck{l:Pq}{n k:Nat}{q:Program}{loose:List Str}{XP:(Str->Option Value)->Heap->Prop}{YP:World->Heap->Prop}{d:DefRec}{K:Params->Mv}{CX:World->CXT}{sp:World->Sp}{x:Str}
  (hn:l.most=some n) (hn2:n<=sizeLine) (hdf:d.params.defaults=[]) (hr:c_ k callerA)
  (hY:∀(w:World) (h:Heap),YP w h->(K w.params).In h)
  (F:∀ (w:World) (mg:Str→Option Value) (fa:Addr) (h:Heap),(K w.params).In h→h.Ns mainGlobals mg→mg d.name=some (.ref fa) →
   ∃fd:FuncData,(∀(s:Shared) (u:Value),BindsTo s fd ⟨[u],[]⟩ [(x,u)]) /\
    ∀base:Heap,(K w.params).In base->base.Ns mainGlobals mg->bW l.prog w (K w.params) mg base (CX w) k fa fd [x] (sp w))
  (hsp:∀(w:World) (H:Hp) (a:Addr) (ns:List Int),ns.length<=n->F0 H->SqL (K w.params) H a (ns.map V.int)->sp w [.ref a] H (fun v _=>v=.bl true) fun _ _ _=>False)
  (hCX:∀(w:World) (H:Hp) (s:Shared) (e:Value) (s':Shared),CX w [] H s (fun _ _ _=>False) e s'->False) :
  PySem.W.WalkO q loose XP YP l.row.toRowW d [] (fun f vs=>PySem.call f vs):=by
 refine Att.rN hn hdf fun w s₀ s₁ mg mb fa o pm cd doc a vs ns G Y ho hd Rv hmg hobj hints Dh hg=>?_;have KX:=hY w _ Y;obtain⟨fd,hb,hF⟩:=F w mg fa _ KX G.T.g hmg;exact zj KX G.T.g G.T.b G.T.builtins G.T.nolimit hg hobj hints (M6 Dh hn2) hr hF hb (fun H hO hS=>hsp w H a ns Dh hO hS) fun H e s'=>hCX w H s₁ e s'
noncomputable def cE(s:Stmt):Arguments:=match s with
 |.FunctionDef _ a _ _ _ _ _ _ _ _=>a
 |_=>{ posonlyargs:=[],args:=[],vararg:=none,kwonlyargs:=[],kw_defaults:=[],kwarg:=none,defaults:=[] }
noncomputable def bX(s:Stmt):List Stmt:=match s with
 |.FunctionDef _ _ b _ _ _ _ _ _ _=>b
 |_=>[]
noncomputable def ah(s:Stmt):Scope:=match s with
 |.FunctionDef _ _ _ _ _ _ sc _ _ _=>sc
 |_=>{ kind:=.function,names:=[],isGenerator:=false,isCoroutine:=false }
noncomputable abbrev CX0:CXT:=fun _ _ _ _ _ _=>False
noncomputable abbrev E0:XK:=fun _ _ _=>False
theorem IJ{X:Cx}:Passes CX0 X E0:=fun _ _ _ _ _ _ _ h=>h.elim
structure Fun(K:Mv)(x qual:Str)(st:Stmt)(f:Addr)(fd:FuncData):Prop where
 ex:∃(oc:Value) (od:Option Addr) (kV doc pm:Value) (an:Option Addr) (cdv ct:Value) (osl:Array (Option Value)),
  fd=Nk x qual (cE st) (bX st) (ah st) .none kV doc pm an cdv ct/\K.lookup f=some ⟨oc,od,.func fd,osl⟩/\OT K cdv qual=true
 kp:N6 K (.ref f)=true
section
variable{P:Program}{w:World}{K:Mv}{mg:Str->Option Value}{base:Heap}
section
variable{x qual:Str}{st:Stmt}{fd:FuncData}{f:Addr}
theorem Fun.ok{N ps:List Str}{k:Nat}{sp:Sp}(F:Fun K x qual st f fd)(S:aE N ps (ah st))(len:∀vs H Q E,sp vs H Q E->vs.length=ps.length)
  (hbody:∀ (cdv:Value) (A:Around) (outer:List Env) (s:Shared) (H:Hp) (vs:List V) (Q:VK) (E:XK),c_ k (A.deeper (envOfC qual (ah st) s.heap.objs.size f cdv))→sp vs H Q E →
   ∃t,PSs (gB CX0 P w K mg base N qual (ah st) f cdv A outer s H E).nox (bX st) t/\t { nx:=fun _ H'=>Q .non H',rt:=Q } (start N vs) H):bW P w K mg base CX0 (k+1) f fd ps sp:=by
 obtain⟨oc,od,kV,doc,pm,an,cdv,ct,osl,rfl,lk,Rv⟩:=F.ex;refine Ej lk Rv S len fun A outer s H vs Q E hr hsp=>?_;obtain⟨t,h,q⟩:=hbody cdv A outer s H vs Q E hr hsp;exact⟨t,h.nox,q⟩
theorem Fun.binds{ps:List Str}(F:Fun K x qual st f fd)
  (h:∀(kV doc pm:Value) (an:Option Addr) (cdv ct:Value) (us:List Value),us.length=ps.length->bindArgs (Nk x qual (cE st) (bX st) (ah st) .none kV doc pm an cdv ct) ⟨us,[]⟩=pure (ps.zip us)):Binds K fd ps []:=by
 obtain⟨oc,od,kV,doc,pm,an,cdv,ct,osl,rfl,lk,Rv⟩:=F.ex;exact .all (h kV doc pm an cdv ct)
theorem F1{oc:Value}{od an:Option Addr}{osl:Array (Option Value)}{kV doc pm cdv ct:Value}(l:K.lookup f=some ⟨oc,od,.func (Nk x qual (cE st) (bX st) (ah st) .none kV doc pm an cdv ct),osl⟩)
  (c:OT K cdv qual=true) (k:N6 K (.ref f)=true):Fun K x qual st f (Nk x qual (cE st) (bX st) (ah st) .none kV doc pm an cdv ct):=⟨⟨oc,od,kV,doc,pm,an,cdv,ct,osl,rfl,l,c⟩,k⟩
end
end
theorem pT{n:Nat}(h:n<=1000):n<sizeLine:=OW h (by decide)
def aF(H H':Hp):Prop:=∀b o,H b=some o->H' b=some o
theorem aF.refl(H:Hp):aF H H:=fun _ _ h=>h
theorem aF.trans{H H1 H2:Hp}(a:aF H H1)(b:aF H1 H2):aF H H2:=fun c o h=>b c o (a c o h)
theorem aF.free{H H':Hp}(e:aF H H'){l:Addr}(h:H' l=Option.none):H l=Option.none:=by
 cases q:H l with
 |none=>rfl
 |some o=>rw[e l o q]at h;cases h
section
variable{P:Program}{w:World}{H:Hp}{h:Heap}{a:Addr}
theorem IK{u:HO}(ok:HOk P w H h)(e:Rd H a u):ck P w H h a u:=e.ok ok
theorem IL{kvs:List (Key×V)}(ok:HOk P w H h)(e:Rd H a (.dK kvs)):kvs.length<=sizeLine/\(a == sysModules)=false/\∃vs,KV kvs vs/\h.DictOf (lY P w) a vs:=
 show ck P w H h a (.dK kvs) from IK ok e
theorem IM{kvs:List (Key×V)}(ok:HOk P w H h)(e:H a=some (.dK kvs)):kvs.length<=sizeLine/\(a == sysModules)=false/\∃vs,KV kvs vs/\h.DictOf (lY P w) a vs:=IL ok (.inl e)
end
end L2
namespace Dm
inductive Dat where
 |non
 |bl (b:Bool)
 |int (i:Int)
 |str (s:List Nat)
 |tup (xs:List Dat)
 |lst (xs:List Dat)
 |dct (ks:List Int) (vs:List Dat)
 |dcp (ks:List (Int×Int)) (vs:List Dat)
 |exc (C:Nat)
 |dj (C:Nat) (v:Int)
 |fn (a:Nat)
deriving Inhabited
inductive Cell where
 |un
 |sh (d:Dat)
 |ow (d:Dat)
deriving Inhabited
noncomputable abbrev Env:=List Cell
inductive Val where
 |val (d:Dat)
 |slot (i:Nat)
 |new (d:Dat)
inductive RV where
 |val (d:Dat)
 |new (d:Dat)
noncomputable def RV.dat:RV->Dat
 |.val d=>d
 |.new d=>d
noncomputable def RV.aB:RV->Val
 |.val d=>.val d
 |.new d=>.new d
noncomputable def SZ:Nat:=100000
noncomputable def aO:Dat->Bool
 |.tup _=>true
 |.lst _=>true
 |.dct _ _=>true
 |.dcp _ _=>true
 |.exc _=>true
 |.dj _ _=>true
 |_=>false
noncomputable def pk(ρ:Env):Val->Option Dat
 |.val d=>some d
 |.new d=>some d
 |.slot i=>match ρ[i]? with
  |some (.ow d)=>some d
  |some (.sh d)=>some d
  |_=>none
noncomputable def tk(ρ:Env):Val->Option (Dat×Env)
 |.val d=>some (d,ρ)
 |.new d=>some (d,ρ)
 |.slot i=>match ρ[i]? with
  |some (.ow d)=>some (d,ρ.set i (.sh d))
  |some (.sh d)=>some (d,ρ)
  |_=>none
noncomputable def pks(ρ:Env):List Val->Option (List Dat)
 |[]=>some []
 |x::r=>match pk ρ x with
  |none=>none
  |some d=>match pks ρ r with
   |none=>none
   |some ds=>some (d::ds)
noncomputable def tks(ρ:Env):List Val->Option (List Dat×Env)
 |[]=>some ([],ρ)
 |x::r=>match tk ρ x with
  |none=>none
  |some (d,ρ1)=>match tks ρ1 r with
   |none=>none
   |some (ds,ρ2)=>some (d::ds,ρ2)
noncomputable abbrev FE:=Env->Option (Val×Env)
noncomputable abbrev FT:=Env->Option (Bool×Env)
noncomputable def eC(d:Dat):FE:=fun ρ=>some (.val d,ρ)
noncomputable def eV(i:Nat):FE:=fun ρ=>match ρ[i]? with
 |some (.sh d)=>some (.val d,ρ)
 |some (.ow _)=>some (.slot i,ρ)
 |_=>none
noncomputable def e1(g:Dat->Option RV)(a:FE):FE:=fun ρ=>match a ρ with
 |none=>none
 |some (x,ρ1)=>match pk ρ1 x with
  |none=>none
  |some d=>match g d with
   |none=>none
   |some v=>some (v.aB,ρ1)
noncomputable def e2(g:Dat->Dat->Option RV)(a b:FE):FE:=fun ρ=>match a ρ with
 |none=>none
 |some (x,ρ1)=>match b ρ1 with
  |none=>none
  |some (y,ρ2)=>match pk ρ2 x with
   |none=>none
   |some d=>match pk ρ2 y with
    |none=>none
    |some e=>match g d e with
     |none=>none
     |some v=>some (v.aB,ρ2)
noncomputable def eAs:List FE->Env->Option (List Val×Env)
 |[],ρ=>some ([],ρ)
 |a::r,ρ=>match a ρ with
  |none=>none
  |some (x,ρ1)=>match eAs r ρ1 with
   |none=>none
   |some (xs,ρ2)=>some (x::xs,ρ2)
noncomputable def eB(g:List Dat->Option RV)(as:List FE):FE:=fun ρ=>match eAs as ρ with
 |none=>none
 |some (xs,ρ1)=>match pks ρ1 xs with
  |none=>none
  |some ds=>match g ds with
   |none=>none
   |some v=>some (v.aB,ρ1)
noncomputable def aT(as:List FE):FE:=fun ρ=>match eAs as ρ with
 |none=>none
 |some (xs,ρ1)=>match tks ρ1 xs with
  |none=>none
  |some (ds,ρ2)=>if ds.length<=SZ then some (.val (.tup ds),ρ2) else none
noncomputable def aU(as:List FE):FE:=fun ρ=>match eAs as ρ with
 |none=>none
 |some (xs,ρ1)=>match tks ρ1 xs with
  |none=>none
  |some (ds,ρ2)=>if ds.length<=SZ then some (.new (.lst ds),ρ2) else none
noncomputable def eF(f:List Dat->Option RV)(as:List FE):FE:=fun ρ=>match eAs as ρ with
 |none=>none
 |some (xs,ρ1)=>match pks ρ1 xs with
  |none=>none
  |some ds=>match f ds with
   |none=>none
   | some v=>if aO v.dat then (match tks ρ1 xs with
     |none=>none
     |some (_,ρ2)=>some (v.aB,ρ2)) else some (v.aB,ρ1)
noncomputable def eIf(t:FT)(a b:FE):FE:=fun ρ=>match t ρ with
 |none=>none
 |some (true,ρ1)=>a ρ1
 |some (false,ρ1)=>b ρ1
noncomputable def bE(a b:FE):FE:=fun ρ=>match a ρ with
 |some (.val (.bl true),ρ1)=>b ρ1
 |some (.val (.bl false),ρ1)=>some (.val (.bl false),ρ1)
 |_=>none
noncomputable def bO(a:FE):FE:=fun ρ=>match a ρ with
 |some (.val (.bl c),ρ1)=>some (.val (.bl (!c)),ρ1)
 |_=>none
noncomputable def tV(a:FE):FT:=fun ρ=>match a ρ with
 |some (.val (.bl c),ρ1)=>some (c,ρ1)
 |_=>none
noncomputable def aV(t:FT):FT:=fun ρ=>match t ρ with
 |some (c,ρ1)=>some (!c,ρ1)
 |none=>none
noncomputable def bI(t u:FT):FT:=fun ρ=>match t ρ with
 |some (true,ρ1)=>u ρ1
 |some (false,ρ1)=>some (false,ρ1)
 |none=>none
noncomputable def tOr(t u:FT):FT:=fun ρ=>match t ρ with
 |some (true,ρ1)=>some (true,ρ1)
 |some (false,ρ1)=>u ρ1
 |none=>none
noncomputable def aD:FT:=fun ρ=>some (true,ρ)
noncomputable abbrev FI:=Env->Option (List Dat×Env)
noncomputable def iL(a:FE):FI:=fun ρ=>match a ρ with
 |none=>none
 |some (x,ρ1)=>match tk ρ1 x with
  |some (.lst ds,ρ2)=>some (ds,ρ2)
  |_=>none
noncomputable def iT(a:FE):FI:=fun ρ=>match a ρ with
 |none=>none
 |some (x,ρ1)=>match tk ρ1 x with
  |some (.tup ds,ρ2)=>some (ds,ρ2)
  |_=>none
noncomputable def iS(a:FE):FI:=fun ρ=>match a ρ with
 |none=>none
 |some (x,ρ1)=>match tk ρ1 x with
  |some (.lst ds,ρ2)=>some (ds,ρ2)
  |some (.tup ds,ρ2)=>some (ds,ρ2)
  |_=>none
noncomputable def ups(lo:Int)(n:Nat):List Dat:=(Ni n).map fun i=>Dat.int (lo+(i:Nat))
noncomputable def downs(hi:Int)(n:Nat):List Dat:=(Ni n).map fun i=>Dat.int (hi-(i:Nat))
noncomputable def BIG:Int:=1000000000
noncomputable def iR1(a:FE):FI:=fun ρ=>match a ρ with
 |some (.val (.int j),ρ1)=>if j<=BIG/\-BIG<=j then some (ups 0 j.toNat,ρ1) else none
 |_=>none
noncomputable def iR2(a b:FE):FI:=fun ρ=>match a ρ with
 | some (.val (.int i),ρ1)=>(match b ρ1 with
  |some (.val (.int j),ρ2)=>if j<=BIG/\-BIG<=j/\i<=BIG/\-BIG<=i then some (ups i (j-i).toNat,ρ2) else none
  |_=>none)
 |_=>none
noncomputable abbrev FB:=Dat->Env->Option Env
noncomputable def bN(i:Nat):FB:=fun d ρ=>if i=0 then none else some (ρ.set i (.sh d))
noncomputable def sets:List Nat->List Dat->Env->Option Env
 |[],[],ρ=>some ρ
 |i::is,d::ds,ρ=>if i=0 then none else sets is ds (ρ.set i (.sh d))
 |_,_,_=>none
noncomputable def bT(is:List Nat):FB:=fun d ρ=>match d with
 |.tup ds=>sets is ds ρ
 |_=>none
noncomputable def cZ(bd:FB)(t:FT)(el:FE):List Dat->Env->List Dat->Option (List Dat×Env)
 |[],ρ,qN=>some (qN,ρ)
 |d::r,ρ,qN=>match bd d ρ with
  |none=>none
  |some ρ1=>match t ρ1 with
   |none=>none
   |some (false,ρ2)=>cZ bd t el r ρ2 qN
   |some (true,ρ2)=>match el ρ2 with
    |none=>none
    |some (x,ρ3)=>match tk ρ3 x with
     |none=>none
     |some (y,ρ4)=>cZ bd t el r ρ4 (qN++[y])
noncomputable def cP(it:FI)(own:Nat)(bd:FB)(t:FT)(el:FE):FE:=fun ρ=>match it ρ with
 |none=>none
 | some (ds,ρ1)=>if ds.length≤SZ then (match cZ bd t el ds (ρ1++gc own .un) [] with
  |none=>none
  |some (ys,ρ2)=>some (.new (.lst ys),ρ2.take ρ1.length)) else none
inductive Out where
 |nx (ρ:Env)
 |ret (r:RV) (ρ:Env)
 |bk (ρ:Env)
 |ct (ρ:Env)
noncomputable abbrev FS:=Env->Option Out
noncomputable def sNx:FS:=fun ρ=>some (.nx ρ)
noncomputable def aj(s u:FS):FS:=fun ρ=>match s ρ with
 |some (.nx ρ1)=>u ρ1
 |o=>o
noncomputable def sA(i:Nat)(e:FE):FS:=fun ρ=>if i=0 then none else match e ρ with
 |none=>none
 |some (.new d,ρ1)=>some (.nx (ρ1.set i (.ow d)))
 |some (x,ρ1)=>match tk ρ1 x with
  |none=>none
  |some (d,ρ2)=>some (.nx (ρ2.set i (.sh d)))
noncomputable def sU(is:List Nat)(e:FE):FS:=fun ρ=>match e ρ with
 |none=>none
 |some (x,ρ1)=>match tk ρ1 x with
  | some (.tup ds,ρ2)=>(match sets is ds ρ2 with
   |none=>none
   |some ρ3=>some (.nx ρ3))
  |_=>none
noncomputable def sE(e:FE):FS:=fun ρ=>match e ρ with
 |none=>none
 |some (_,ρ1)=>some (.nx ρ1)
noncomputable def sR(e:FE):FS:=fun ρ=>match e ρ with
 |none=>none
 |some (.new d,ρ1)=>some (.ret (.new d) ρ1)
 |some (.val d,ρ1)=>some (.ret (.val d) ρ1)
 |some (.slot i,ρ1)=>match ρ1[i]? with
  |some (.ow d)=>some (.ret (.new d) (ρ1.set i .un))
  |some (.sh d)=>some (.ret (.val d) ρ1)
  |_=>none
noncomputable def sIf(t:FT)(a b:FS):FS:=fun ρ=>match t ρ with
 |none=>none
 |some (true,ρ1)=>a ρ1
 |some (false,ρ1)=>b ρ1
noncomputable def bJ(i:Nat)(e:FE):FS:=fun ρ=>match ρ[i]? with
 | some (.ow (.lst _))=>(match e ρ with
  |none=>none
  |some (x,ρ1)=>match tk ρ1 x with
   |none=>none
   |some (d,ρ2)=>match ρ2[i]? with
    |some (.ow (.lst ds))=>if ds.length<SZ then some (.nx (ρ2.set i (.ow (.lst (ds++[d]))))) else none
    |_=>none)
 |_=>none
noncomputable def ixN(n:Nat)(i:Int):Option Nat:=
 if 0<=i then (if i<n then some i.toNat else none) else if -(n:Int)<=i then some (i+n).toNat else none
noncomputable def bP(i:Nat)(j e:FE):FS:=fun ρ=>match e ρ with
 |none=>none
 |some (x,ρ1)=>match tk ρ1 x with
  |none=>none
  |some (d,ρ2)=>match ρ2[i]? with
   | some (.ow _)=>(match j ρ2 with
    | some (.val (.int k),ρ3)=>(match ρ3[i]? with
     | some (.ow (.lst ds))=>(match ixN ds.length k with
      |none=>none
      |some m=>some (.nx (ρ3.set i (.ow (.lst (ds.set m d))))))
     |_=>none)
    |_=>none)
   |_=>none
noncomputable def dG(bd:FB)(body:FS):List Dat->FS
 |[],ρ=>some (.nx ρ)
 |d::r,ρ=>match bd d ρ with
  |none=>none
  |some ρ1=>match body ρ1 with
   |some (.nx ρ2)=>dG bd body r ρ2
   |some (.ct ρ2)=>dG bd body r ρ2
   |some (.bk ρ2)=>some (.nx ρ2)
   |some (.ret v ρ2)=>some (.ret v ρ2)
   |none=>none
noncomputable def bB(it:FI)(bd:FB)(body:FS):FS:=fun ρ=>match it ρ with
 |none=>none
 |some (ds,ρ1)=>dG bd body ds ρ1
noncomputable def whD(t:FT)(body:FS):Nat->FS
 |0,_=>none
 |n+1,ρ=>match t ρ with
  |none=>none
  |some (false,ρ1)=>some (.nx ρ1)
  |some (true,ρ1)=>match body ρ1 with
   |some (.nx ρ2)=>whD t body n ρ2
   |some (.ct ρ2)=>whD t body n ρ2
   |some (.bk ρ2)=>some (.nx ρ2)
   |some (.ret v ρ2)=>some (.ret v ρ2)
   |none=>none
noncomputable def fn(n m:Nat)(body:FS)(ds:List Dat):Option RV:=if ds.length=n then (match body (ds.map Cell.sh++gc m .un) with
 |some (.ret r _)=>some r
 |some (.nx _)=>some (.val .non)
 |_=>none) else none
noncomputable def b2i(b:Bool):Int:=if b then 1 else 0
mutual
noncomputable def eqD:Dat->Dat->Bool
 |.non,.non=>true
 |.bl a,.bl b=>a == b
 |.bl a,.int j=>b2i a == j
 |.int i,.bl b=>i == b2i b
 |.int i,.int j=>i == j
 |.str a,.str b=>a == b
 |.tup xs,.tup ys=>kE xs ys
 |.lst xs,.lst ys=>kE xs ys
 |_,_=>false
noncomputable def kE:List Dat->List Dat->Bool
 |[],[]=>true
 |x::xs,y::ys=>eqD x y&&kE xs ys
 |_,_=>false
end
noncomputable def okD:Nat->Dat->Bool
 |_,.dct _ _=>false
 |_,.dcp _ _=>false
 |_,.exc _=>false
 |_,.dj _ _=>false
 |_,.fn _=>false
 |_,.str s=>s.all fun c=>decide (c<128)
 |0,.tup _=>false
 |0,.lst _=>false
 |n+1,.tup xs=>xs.all (okD n)
 |n+1,.lst xs=>xs.all (okD n)
 |_,_=>true
noncomputable abbrev vB(b:Bool):Option RV:=some (.val (.bl b))
noncomputable def pF(p:Dat->Bool):Dat->Option RV
 |.exc _=>none
 |.dj _ _=>none
 |.fn _=>none
 |d=>vB (p d)
noncomputable abbrev vI(i:Int):Option RV:=some (.val (.int i))
noncomputable def gEq(x y:Dat):Option RV:=if okD 8 x&&okD 8 y then vB (eqD x y) else none
noncomputable def gNe(x y:Dat):Option RV:=if okD 8 x&&okD 8 y then vB (!eqD x y) else none
noncomputable def gLt:Dat->Dat->Option RV
 |.int i,.int j=>vB (decide (i<j))
 |_,_=>none
noncomputable def gLe:Dat->Dat->Option RV
 |.int i,.int j=>vB (decide (i<=j))
 |_,_=>none
noncomputable def gGt:Dat->Dat->Option RV
 |.int i,.int j=>vB (decide (j<i))
 |_,_=>none
noncomputable def gGe:Dat->Dat->Option RV
 |.int i,.int j=>vB (decide (j<=i))
 |_,_=>none
noncomputable def B64:Int:=18446744073709551616
noncomputable def aL:Dat->Dat->Option RV
 |.int i,.int j=>vI (i+j)
 |.lst xs,.lst ys=>if xs.length+ys.length<=SZ then some (.new (.lst (xs++ys))) else none
 |_,_=>none
noncomputable def bD:Dat->Dat->Option RV
 |.int i,.int j=>vI (i-j)
 |_,_=>none
noncomputable def br:Dat->Dat->Option RV
 |.int i,.int j=>if (-B64<i/\i<B64)\/(-B64<j/\j<B64) then vI (i*j) else none
 |.lst xs,.int k=>if k<=BIG/\-BIG<=k/\xs.length*k.toNat<=SZ then some (.new (.lst (gc k.toNat xs).flatten)) else none
 |_,_=>none
noncomputable def fM:Int:=1606938044258990275541962092341162602522202993782792835301376
noncomputable def bC:Dat->Dat->Option RV
 |.int i,.int j=>if 0<j/\j<fM then vI (i / j) else none
 |_,_=>none
noncomputable def aH:Dat->Dat->Option RV
 |.int i,.int j=>if 0<j then vI (i % j) else none
 |_,_=>none
noncomputable def bF:Dat->Dat->Option RV
 |.int i,.int j=>if 0<=j/\j<=1000000/\i.natAbs<1000000 then vI (i ^ j.toNat) else none
 |_,_=>none
noncomputable def bH:Dat->Option RV
 |.int i=>vI (-i)
 |_=>none
noncomputable def atI(xs:List Dat)(i:Int):Option Dat:=(ixN xs.length i).bind fun j=>xs[j]?
noncomputable def gIx:Dat->Dat->Option RV
 |.lst xs,.int i=>(atI xs i).map .val
 |.tup xs,.int i=>(atI xs i).map .val
 |_,_=>none
noncomputable def inD(x:Dat)(xs:List Dat):Bool:=xs.any fun y=>eqD y x
noncomputable def gIn:Dat->Dat->Option RV
 |x,.lst xs=>if okD 8 x&&xs.all (okD 7) then vB (inD x xs) else none
 |x,.tup xs=>if okD 8 x&&xs.all (okD 7) then vB (inD x xs) else none
 |_,_=>none
noncomputable def kF:Dat->Dat->Option RV
 |x,.lst xs=>if okD 8 x&&xs.all (okD 7) then vB (!inD x xs) else none
 |x,.tup xs=>if okD 8 x&&xs.all (okD 7) then vB (!inD x xs) else none
 |_,_=>none
noncomputable def sIx(n d:Nat):Option Int->Nat
 |none=>d
 |some v=>(if v<0 then max (v+n) 0 else min v n).toNat
noncomputable def cut(xs:List Dat)(lo hi:Option Int):List Dat:=(xs.drop (sIx xs.length 0 lo)).take (sIx xs.length xs.length hi-sIx xs.length 0 lo)
noncomputable def bq:List Dat->Option RV
 |[.lst xs]=>vI xs.length
 |[.tup xs]=>vI xs.length
 |_=>none
noncomputable def aX:List Dat->Option RV
 |[.int i,.int j]=>vI (if j<i then j else i)
 |_=>none
noncomputable def a_:List Dat->Option RV
 |[.int i,.int j]=>vI (if j>i then j else i)
 |_=>none
noncomputable def bw:List Dat->Option RV
 |[.lst xs]=>some (.new (.lst xs))
 |[.tup xs]=>some (.new (.lst xs))
 |_=>none
noncomputable def aI:List Dat->Option RV
 |[.lst xs]=>some (.val (.tup xs))
 |[.tup xs]=>some (.val (.tup xs))
 |_=>none
noncomputable def isI:Dat->Bool
 |.int _=>true
 |.bl _=>true
 |_=>false
noncomputable def isB:Dat->Bool
 |.bl _=>true
 |_=>false
noncomputable def isL:Dat->Bool
 |.lst _=>true
 |_=>false
noncomputable def isT:Dat->Bool
 |.tup _=>true
 |_=>false
noncomputable def bools:List Dat->Option (List Bool)
 |[]=>some []
 |.bl b::r=>(bools r).map fun bs=>b::bs
 |_=>none
noncomputable def rO:List Dat->Option RV
 | [.lst xs]=>(match bools xs with
  |some bs=>vB (bs.all id)
  |none=>none)
 |_=>none
noncomputable def ak(g h:Dat->Dat->Option RV)(a b c:FE):FE:=fun ρ=>match a ρ with
 |none=>none
 |some (x,ρ1)=>match b ρ1 with
  |none=>none
  |some (y,ρ2)=>match pk ρ2 x with
   |none=>none
   |some d=>match pk ρ2 y with
    |none=>none
    |some e=>match g d e with
     | some (.val (.bl true))=>(match c ρ2 with
      |none=>none
      |some (z,ρ3)=>match pk ρ3 y with
       |none=>none
       |some e'=>match pk ρ3 z with
        |none=>none
        |some f=>match h e' f with
         |none=>none
         |some v=>some (v.aB,ρ3))
     |some (.val (.bl false))=>some (.val (.bl false),ρ2)
     |_=>none
noncomputable def part:Option FE->Env->Option (Option Int×Env)
 |none,ρ=>some (none,ρ)
 |some f,ρ=>match f ρ with
  |some (.val (.int i),ρ1)=>some (some i,ρ1)
  |_=>none
noncomputable def eSl(a:FE)(lo hi:Option FE):FE:=fun ρ=>match a ρ with
 |none=>none
 |some (x,ρ1)=>match part lo ρ1 with
  |none=>none
  |some (l,ρ2)=>match part hi ρ2 with
   |none=>none
   |some (h,ρ3)=>match pk ρ3 x with
    |some (.lst xs)=>some (.new (.lst (cut xs l h)),ρ3)
    |_=>none
noncomputable def bf:List Dat->Option RV
 |[.int a,.int b,.int c]=>vI (if b<a then (if c<b then c else b) else (if c<a then c else a))
 |_=>none
noncomputable def bits(x:Int):Int:=if x=0 then 0 else ((x.natAbs.log2+1:Nat):Int)
noncomputable def aP:Dat->Option RV
 |.int i=>vI (bits i)
 |_=>none
noncomputable def bR:List Dat->Option RV
 |[.int i]=>vI i
 |[.bl b]=>vI (b2i b)
 |_=>none
end Dm
open Dm(Dat FE RV FT FS)
namespace Br
open PySem L2
noncomputable def kP(p:Int×Int):List Key:=[N5 p.1,N5 p.2]
def kG(H:Hp):List Addr->List (Int×Int)->Prop
 |[],[]=>True
 |t::ts,p::ks=>H t=some (.tup [V.int p.1,V.int p.2])/\kG H ts ks
 |_,_=>False
theorem kG.mono{H H':Hp}(s:aF H H'):∀{ts:List Addr} {ks:List (Int×Int)},kG H ts ks->kG H' ts ks
 |[],[],_=>trivial
 |_::_,_::_,h=>⟨s _ _ h.1,kG.mono s h.2⟩
 |[],_::_,h=>h
 |_::_,[],h=>h
def zk(H:Hp)(x:List (List Key×V)×List Addr)(ks:List (Int×Int)):Prop:=x.1.map (·.1)=ks.map kP/\kG H x.2 ks
theorem zk.mono{H H':Hp}(s:aF H H'){x:List (List Key×V)×List Addr}{ks:List (Int×Int)}(h:zk H x ks):zk H' x ks:=⟨h.1,h.2.mono s⟩
mutual
inductive Rep(H:Hp):V->Dat->Prop
 |non:Rep H V.non Dat.non
 |bl (b:Bool):Rep H (V.bl b) (Dat.bl b)
 |int (i:Int):Rep H (V.int i) (Dat.int i)
 |str (s:List Nat):Rep H (V.str ⟨s.toArray⟩) (Dat.str s)
 |tup {a:Addr} {xs:List V} {ds:List Dat}:H a=some (.tup xs)->bg H xs ds->Rep H (V.ref a) (Dat.tup ds)
 |lst {a:Addr} {xs:List V} {ds:List Dat}:Rd H a (.lst xs)->bg H xs ds->Rep H (V.ref a) (Dat.lst ds)
 |dct {a:Addr} {kvs:List (Key×V)} {ks:List Int} {ds:List Dat}:H a=some (.dK kvs)->kvs.map (·.1)=ks.map N5->bg H (kvs.map (·.2)) ds->Rep H (V.ref a) (Dat.dct ks ds)
 |dcp {a:Addr} {x:List (List Key×V)×List Addr} {ks:List (Int×Int)} {ds:List Dat}:H a=some (.dT x.1 x.2)->zk H x ks->bg H (x.1.map (·.2)) ds->Rep H (V.ref a) (Dat.dcp ks ds)
 |exc {a:Addr} {C:Nat}:H a=some (.ext fun h=>∃o,h.get? a=some o/\o.cls=.ref C)->Rep H (V.ref a) (Dat.exc C)
 |dj {a d:Addr} {C:Nat} {v:Int}:H a=some (.ext fun h=>∃o,h.get? a=some o/\o.cls=.ref C/\o.dict=some d/\∀c,o.data≠.cls c)->H d=some (.xd [("moment",.int v)])->Rep H (V.ref a) (Dat.dj C v)
 |fn (a:Addr):Rep H (V.ref a) (Dat.fn a)
inductive bg(H:Hp):List V->List Dat->Prop
 |nil:bg H [] []
 |cons {v:V} {d:Dat} {vs:List V} {ds:List Dat}:Rep H v d->bg H vs ds->bg H (v::vs) (d::ds)
end
theorem aF.rd{H H':Hp}(s:aF H H'){a:Addr}{u:HO}(h:Rd H a u):Rd H' a u:=by
 rcases h with h | ⟨o,h⟩
 ·exact .inl (s _ _ h)
 ·exact .inr ⟨o,s _ _ h⟩
mutual
theorem Rep.mono{H H':Hp}(s:aF H H'):∀{v:V} {d:Dat},Rep H v d->Rep H' v d
 |_,_,.non=>.non
 |_,_,.bl b=>.bl b
 |_,_,.int i=>.int i
 |_,_,.str x=>.str x
 |_,_,.tup h r=>.tup (s _ _ h) (bg.mono s r)
 |_,_,.lst h r=>.lst (aF.rd s h) (bg.mono s r)
 |_,_,.dct h e r=>.dct (s _ _ h) e (bg.mono s r)
 |_,_,.dcp h e r=>.dcp (s _ _ h) (e.mono s) (bg.mono s r)
 |_,_,.exc h=>.exc (s _ _ h)
 |_,_,.dj h k=>.dj (s _ _ h) (s _ _ k)
 |_,_,.fn a=>.fn a
theorem bg.mono{H H':Hp}(s:aF H H'):∀{vs:List V} {ds:List Dat},bg H vs ds->bg H' vs ds
 |_,_,.nil=>.nil
 |_,_,.cons h r=>.cons (Rep.mono s h) (bg.mono s r)
end
section
variable{ρ:Dm.Env}{H0 H:Hp}{d:Dat}{σ:St}{a:Addr}{x:Dm.Val}{v:V}{X:Cx}{t t':TS}{p:Addr}{e:Expr}{o:HO}
theorem bg.length{H:Hp}:∀{vs:List V} {ds:List Dat},bg H vs ds->vs.length=ds.length
 |_,_,.nil=>rfl
 |_,_,.cons _ r=>by simp[bg.length r]
theorem bg.get{H:Hp}:∀{vs:List V} {ds:List Dat} {i:Nat} {d:Dat},bg H vs ds->ds[i]?=some d->∃v,vs[i]?=some v/\Rep H v d
 |_,_,_,_,.nil,e=>by simp at e
 |_,_,0,_,.cons h _,e=>by simp at e;subst e;exact⟨_,rfl,h⟩
 |_,_,i+1,_,.cons _ r,e=>by obtain⟨v,h1,h2⟩:=bg.get (i:=i) r (by simpa using e);exact⟨v,by simpa using h1,h2⟩
theorem bg.append{H:Hp}:∀{vs ws:List V} {ds es:List Dat},bg H vs ds->bg H ws es->bg H (vs++ws) (ds++es)
 |_,_,_,_,.nil,s=>s
 |_,_,_,_,.cons h r,s=>.cons h (bg.append r s)
theorem bg.take{H:Hp}:∀{vs:List V} {ds:List Dat} (n:Nat),bg H vs ds->bg H (vs.take n) (ds.take n)
 |_,_,0,_=>by simpa using bg.nil
 |_,_,_+1,.nil=>by simpa using bg.nil
 |_,_,n+1,.cons h r=>by simpa using bg.cons h (bg.take n r)
theorem bg.drop{H:Hp}:∀{vs:List V} {ds:List Dat} (n:Nat),bg H vs ds->bg H (vs.drop n) (ds.drop n)
 |_,_,0,r=>by simpa using r
 |_,_,_+1,.nil=>by simpa using bg.nil
 |_,_,n+1,.cons _ r=>by simpa using bg.drop n r
theorem bg.set{H:Hp}(h:Rep H v d):∀{vs:List V} {ds:List Dat} (i:Nat),bg H vs ds->bg H (vs.set i v) (ds.set i d)
 |_,_,_,.nil=>.nil
 |_,_,0,.cons _ r=>.cons h r
 |_,_,i+1,.cons q r=>.cons q (bg.set h i r)
theorem bg.rep{H:Hp}{vs:List V}{ds:List Dat}(r:bg H vs ds):∀k:Nat,bg H (gc k vs).flatten (gc k ds).flatten
 |0=>by simpa using bg.nil
 |k+1=>by rw[Nx,Nx,NP,NP];exact bg.append r (bg.rep r k)
def Own(H0 H:Hp)(a:Addr):Dat->Prop
 |.lst ds=>∃xs,H a=some (.lst xs)/\bg H0 xs ds
 |.dct ks ds=>∃kvs:List (Key×V),H a=some (.dK kvs)/\kvs.map (·.1)=ks.map N5/\bg H0 (kvs.map (·.2)) ds
 |.dcp ks ds=>∃x:List (List Key×V)×List Addr,H a=some (.dT x.1 x.2)/\zk H0 x ks/\bg H0 (x.1.map (·.2)) ds
 |_=>False
theorem Own.some(h:Own H0 H a d):∃o,H a=some o:=by
 cases d with
 |lst ds=>obtain⟨xs,e,_⟩:=h;exact⟨_,e⟩
 |dct ks ds=>obtain⟨xs,e,_⟩:=h;exact⟨_,e⟩
 |dcp ks ds=>obtain⟨xs,e,_⟩:=h;exact⟨_,e⟩
 |_=>exact MX h
theorem Own.mono{H0 H H0' H':Hp}(h:Own H0 H a d)(s:aF H0 H0')(e:H' a=H a):Own H0' H' a d:=by
 cases d with
 |lst ds=>obtain⟨xs,q,r⟩:=h;exact⟨xs,by rw[e];exact q,r.mono s⟩
 |dct ks ds=>obtain⟨xs,q,k,r⟩:=h;exact⟨xs,by rw[e];exact q,k,r.mono s⟩
 |dcp ks ds=>obtain⟨xs,q,k,r⟩:=h;exact⟨xs,by rw[e];exact q,k.mono s,r.mono s⟩
 |_=>exact MX h
def jV(H0 H:Hp)(v:V)(d:Dat):Prop:=Rep H0 v d\/∃a,v=V.ref a/\Own H0 H a d
inductive rP(H0 H:Hp):List V->List Dat->Prop
 |nil:rP H0 H [] []
 |cons {v:V} {d:Dat} {vs:List V} {ds:List Dat}:jV H0 H v d->rP H0 H vs ds->rP H0 H (v::vs) (d::ds)
noncomputable def shr(H0 H:Hp)(a:Addr):Hp:=fun b=>if b=a then H a else H0 b
theorem eS:shr H0 H a a=H a:=by unfold shr;rw[if_pos rfl]
theorem iR{a b:Addr}(h:b≠a):shr H0 H a b=H0 b:=by unfold shr;rw[if_neg h]
theorem fT(h:H0 a=none):aF H0 (shr H0 H a):=fun b o e=>by
 by_cases q:b=a
 ·subst q;rw[h]at e;cases e
 ·rw[iR q];exact e
theorem vN(s:aF H0 H):aF (shr H0 H a) H:=fun b o e=>by
 by_cases q:b=a
 ·subst q;rw[eS]at e;exact e
 ·rw[iR q]at e;exact s _ _ e
theorem Own.rep(h:Own H0 H a d)(n:H0 a=none):Rep (shr H0 H a) (V.ref a) d:=by
 cases d with
 |lst ds=>obtain⟨xs,q,r⟩:=h;exact .lst (.inl (by rw[eS];exact q)) (r.mono (fT n))
 |dct ks ds=>obtain⟨xs,q,k,r⟩:=h;exact .dct (by rw[eS];exact q) k (r.mono (fT n))
 |dcp ks ds=>obtain⟨xs,q,k,r⟩:=h;exact .dcp (by rw[eS];exact q) (k.mono (fT n)) (r.mono (fT n))
 |_=>exact MX h
def aG(σ:St)(ρ:Dm.Env)(a:Addr):Prop:=∃(i:Nat) (d:Dat),ρ[i]?=some (Dm.Cell.ow d)/\σ[i]?=some (some (V.ref a))
noncomputable abbrev Def(_:Dm.Env)(_:Nat):Prop:=True
structure aJ(H0 H:Hp)(σ:St)(ρ:Dm.Env):Prop where
 same:aF H0 H
 len:σ.length=ρ.length
 sh:∀(i:Nat) (d:Dat),ρ[i]?=some (Dm.Cell.sh d)->∃v,σ[i]?=some (some v)/\Rep H0 v d
 ow:∀(i:Nat) (d:Dat),ρ[i]?=some (Dm.Cell.ow d)->∃a,σ[i]?=some (some (V.ref a))/\H0 a=none/\Own H0 H a d
 dis:∀(i j:Nat) (d e:Dat) (a:Addr),ρ[i]?=some (Dm.Cell.ow d)->ρ[j]?=some (Dm.Cell.ow e)->σ[i]?=some (some (V.ref a))->σ[j]?=some (some (V.ref a))->i=j
structure Stp(O:Addr->Prop)(H0 H H0' H':Hp):Prop where
 s0:aF H0 H0'
 s1:∀a o,H a=some o->¬O a->H' a=some o
 s2:∀a o,H0' a=some o->H a=none\/H0 a=some o\/O a
 s3:∀a o,H a=some o->∃o',H' a=some o'
theorem Stp.refl(O:Addr->Prop)(H0 H:Hp):Stp O H0 H H0 H:=⟨aF.refl _,fun _ _ e _=>e,fun _ _ e=>.inr (.inl e),fun _ o e=>⟨o,e⟩⟩
theorem Stp.gone{O:Addr->Prop}{H0 H H0' H':Hp}(t:Stp O H0 H H0' H')(h:H' a=none):H a=none:=by
 cases q:H a with
 |none=>rfl
 |some o=>obtain⟨o',e⟩:=t.s3 a o q;rw[h]at e;cases e
theorem Stp.trans{O1 O2:Addr->Prop}{H0 H H1 H' H2 H'':Hp}(t:Stp O1 H0 H H1 H')(u:Stp O2 H1 H' H2 H'')(k:∀a,O2 a->O1 a\/H a=none):Stp O1 H0 H H2 H'' where
 s0:=t.s0.trans u.s0
 s1:=fun a o e n=>u.s1 a o (t.s1 a o e n) fun z=>(k a z).elim n fun q=>by rw[q]at e;cases e
 s2:=fun a o e=>by
  rcases u.s2 a o e with q | q | q
  ·exact .inl (t.gone q)
  ·exact t.s2 a o q
  ·rcases k a q with z | z
   ·exact .inr (.inr z)
   ·exact .inl z
 s3:=fun a o e=>by obtain⟨o',e'⟩:=t.s3 a o e;exact u.s3 a o' e'
theorem Stp.wide{O O':Addr->Prop}{H0 H H0' H':Hp}(t:Stp O H0 H H0' H')(k:∀a,O a->O' a):Stp O' H0 H H0' H':=
 ⟨t.s0,fun a o e n=>t.s1 a o e fun z=>n (k a z),fun a o e=>(t.s2 a o e).imp id (Or.imp id (k a)),t.s3⟩
structure aQ(H0 H H0' H':Hp):Prop where
 s0:aF H0 H0'
 s1:aF H H'
 s2:∀a o,H0' a=some o->H a=none\/H0 a=some o
 s3:aF H0' H'
theorem aQ.refl(s:aF H0 H):aQ H0 H H0 H:=⟨aF.refl _,aF.refl _,fun _ _ e=>.inr e,s⟩
theorem aQ.stp{H0 H H0' H':Hp}(g:aQ H0 H H0' H')(O:Addr->Prop):Stp O H0 H H0' H':=
 ⟨g.s0,fun a o e _=>g.s1 a o e,fun a o e=>(g.s2 a o e).imp id .inl,fun a o e=>⟨o,g.s1 a o e⟩⟩
theorem aQ.xQ(s:aF H0 H)(n:H p=none):aQ H0 H (upd H0 p o) (upd H p o) where
 s0:=fun b u e=>by rw[ay (aZ e (s.free n))];exact e
 s1:=fun b u e=>by rw[ay (aZ e n)];exact e
 s2:=fun b u e=>by
  by_cases q:b=p
  ·subst q;exact .inl n
  ·rw[ay q]at e;exact .inr e
 s3:=fun b u e=>by
  by_cases q:b=p
  ·subst q;rw[aY]at e ⊢;exact e
  ·rw[ay q]at e ⊢;exact s _ _ e
theorem aQ.mG(s:aF H0 H)(n:H p=none):aQ H0 H H0 (upd H p o) where
 s0:=aF.refl _
 s1:=fun b u e=>by rw[ay (aZ e n)];exact e
 s2:=fun b u e=>.inr e
 s3:=fun b u e=>by rw[ay (aZ (s _ _ e) n)];exact s _ _ e
def iH(Hs H0 H:Hp)(σ:St)(ρ:Dm.Env)(v:V):Dm.Val->Prop
 |.val d=>Rep H0 v d
 |.slot i=>σ[i]?=some (some v)/\Def ρ i
 |.new d=>∃a,v=V.ref a/\Hs a=none/\¬aG σ ρ a/\H0 a=none/\Own H0 H a d
structure ESt(σ:St)(ρ:Dm.Env)(H0 H:Hp)(ρ':Dm.Env)(H0' H':Hp):Prop where
 st:aJ H0' H' σ ρ'
 stp:Stp (aG σ ρ) H0 H H0' H'
 own:∀a,aG σ ρ' a->aG σ ρ a
 dfn:∀i,Def ρ i->Def ρ' i
theorem ESt.refl(st:aJ H0 H σ ρ):ESt σ ρ H0 H ρ H0 H:=⟨st,Stp.refl _ _ _,fun _ z=>z,fun _ z=>z⟩
theorem ESt.trans{ρ ρ1 ρ2:Dm.Env}{H0 H H1 H' H2 H'':Hp}(t:ESt σ ρ H0 H ρ1 H1 H')(u:ESt σ ρ1 H1 H' ρ2 H2 H''):ESt σ ρ H0 H ρ2 H2 H'':=
 ⟨u.st,t.stp.trans u.stp fun a z=>.inl (t.own a z),fun a z=>t.own a (u.own a z),fun i z=>u.dfn i (t.dfn i z)⟩
theorem aJ.grow{H0 H H0' H':Hp}(st:aJ H0 H σ ρ)(g:aQ H0 H H0' H'):aJ H0' H' σ ρ where
 same:=g.s3
 len:=st.len
 sh:=fun i d e=>by obtain⟨v,q,r⟩:=st.sh i d e;exact⟨v,q,r.mono g.s0⟩
 ow:=fun i d e=>by
  obtain⟨a,q,n,w⟩:=st.ow i d e;obtain⟨o,z⟩:=w.some;refine⟨a,q,?_,w.mono g.s0 ((g.s1 a o z).trans z.symm)⟩;cases y:H0' a with
  |none=>rfl
  |some u=>
   rcases g.s2 a u y with k | k
   ·rw[z]at k;cases k
   ·rw[n]at k;cases k
 dis:=st.dis
theorem ESt.grow{H0 H H0' H':Hp}(st:aJ H0 H σ ρ)(g:aQ H0 H H0' H'):ESt σ ρ H0 H ρ H0' H':=
 ⟨st.grow g,g.stp _,fun _ z=>z,fun _ z=>z⟩
theorem iH.mono{Hs H0 H H0' H':Hp}{ρ ρ':Dm.Env}(r:iH Hs H0 H σ ρ v x)(t:ESt σ ρ H0 H ρ' H0' H'):iH Hs H0' H' σ ρ' v x:=by
 cases x with
 |val d=>exact Rep.mono t.stp.s0 r
 |slot i=>exact⟨r.1,t.dfn i r.2⟩
 |new d=>
  obtain⟨a,e,n,no,n0,w⟩:=r;obtain⟨o,z⟩:=w.some;refine⟨a,e,n,fun y=>no (t.own a y),?_,w.mono t.stp.s0 ((t.stp.s1 a o z no).trans z.symm)⟩;cases y:H0' a with
  |none=>rfl
  |some u=>
   rcases t.stp.s2 a u y with k | k | k
   ·rw[z]at k;cases k
   ·rw[n0]at k;cases k
   ·exact absurd k no
theorem iH.early{Hs Hs' H0 H:Hp}(r:iH Hs H0 H σ ρ v x)(k:∀a,Hs a=none->Hs' a=none):iH Hs' H0 H σ ρ v x:=by
 cases x with
 |val d=>exact r
 |slot i=>exact r
 |new d=>obtain⟨a,e,n,z⟩:=r;exact⟨a,e,k a n,z⟩
theorem iH.look{Hs H0 H:Hp}(r:iH Hs H0 H σ ρ v x)(st:aJ H0 H σ ρ)(e:Dm.pk ρ x=some d):jV H0 H v d:=by
 cases x with
 |val d'=>cases e;exact .inl r
 |new d'=>cases e;obtain⟨a,e,_,_,_,w⟩:=r;exact .inr ⟨a,e,w⟩
 |slot i=>
  obtain⟨q,_⟩:=r;unfold Dm.pk at e;dsimp only at e;split at e
  ·rename_i d' h;cases e;obtain⟨a,z,_,w⟩:=st.ow i d h;rw[q]at z;cases z;exact .inr ⟨a,rfl,w⟩
  ·rename_i d' h;cases e;obtain⟨u,z,w⟩:=st.sh i d h;rw[q]at z;cases z;exact .inl w
  ·cases e
def uG(Hs H0 H:Hp)(v:V):RV->Prop
 |.val d=>Rep H0 v d
 |.new d=>∃a,v=V.ref a/\Hs a=none/\H0 a=none/\Own H0 H a d
theorem uG.toV{H H0' H' H0:Hp}{z:RV}(r:uG H H0' H' v z)(st:aJ H0 H σ ρ):iH H H0' H' σ ρ v z.aB:=by
 cases z with
 |val d=>exact r
 |new d=>obtain⟨a,e,n,n0,w⟩:=r;refine⟨a,e,n,fun⟨i,d',h1,h2⟩=>?_,n0,w⟩;obtain⟨a',q,_,w'⟩:=st.ow i d' h1;rw[h2]at q;cases q;obtain⟨o,z⟩:=w'.some;rw[n]at z;cases z
def tD(f:FE):TE:=fun σ H Q=>∃H0 ρ x ρ',aJ H0 H σ ρ/\f ρ=some (x,ρ')/\∀v H0' H',ESt σ ρ H0 H ρ' H0' H'->iH H H0' H' σ ρ' v x->Q v H'
def tDT(f:FT):TT:=fun σ H Q=>∃H0 ρ b ρ',aJ H0 H σ ρ/\f ρ=some (b,ρ')/\∀H0' H',ESt σ ρ H0 H ρ' H0' H'->Q b H'
inductive fF(Hs H0 H:Hp)(σ:St)(ρ:Dm.Env):List V->List Dm.Val->Prop
 |nil:fF Hs H0 H σ ρ [] []
 |cons {v:V} {x:Dm.Val} {vs:List V} {xs:List Dm.Val}:iH Hs H0 H σ ρ v x->fF Hs H0 H σ ρ vs xs->fF Hs H0 H σ ρ (v::vs) (x::xs)
def tDA(fs:List FE):TA:=fun σ H Q=>∃H0 ρ xs ρ',aJ H0 H σ ρ/\Dm.eAs fs ρ=some (xs,ρ')/\∀vs H0' H',ESt σ ρ H0 H ρ' H0' H'->fF H H0' H' σ ρ' vs xs->Q vs H'
noncomputable abbrev DE(X:Cx)(e:Expr)(f:FE):Prop:=PE X e (tD f)
noncomputable abbrev DT(X:Cx)(e:Expr)(f:FT):Prop:=PT X e (tDT f)
noncomputable abbrev DA(X:Cx)(es:List Expr)(fs:List FE):Prop:=PA X es (tDA fs)
theorem PE.weak{t t':TE}(h:PE X e t)(k:∀σ H Q,t' σ H Q->t σ H Q):PE X e t':=fun eU s σ H Q I q=>h eU s σ H Q I (k σ H Q q)
theorem PT.weak{t t':TT}(h:PT X e t)(k:∀σ H Q,t' σ H Q->t σ H Q):PT X e t':=fun eU s σ H Q I q=>h eU s σ H Q I (k σ H Q q)
theorem PA.weak{es:List Expr}{t t':TA}(h:PA X es t)(k:∀σ H Q,t' σ H Q->t σ H Q):PA X es t':=fun pos eU s σ H Q I q=>h pos eU s σ H Q I (k σ H Q q)
theorem PS.weak{st:Stmt}(h:PS X st t)(k:∀D σ H,t' D σ H->t D σ H):PS X st t':=fun eU s σ H D I q=>h eU s σ H D I (k D σ H q)
theorem PSs.weak{st:List Stmt}(h:PSs X st t)(k:∀D σ H,t' D σ H->t D σ H):PSs X st t':=fun eU s σ H D I q=>h eU s σ H D I (k D σ H q)
theorem dM(s:aF H0 H):aF H0 (shr H0 H a):=fun b o e=>by
 by_cases q:b=a
 ·subst q;rw[eS];exact s _ _ e
 ·rw[iR q];exact e
theorem Own.IP{H0 H0c H:Hp}(h:Own H0 H a d)(b:aF H0 H0c)(s:aF H0c H):Rep (shr H0c H a) (V.ref a) d:=by
 cases d with
 |lst ds=>obtain⟨xs,q,r⟩:=h;exact .lst (.inl (by rw[eS];exact q)) (r.mono (b.trans (dM s)))
 |dct ks ds=>obtain⟨xs,q,k,r⟩:=h;exact .dct (by rw[eS];exact q) k (r.mono (b.trans (dM s)))
 |dcp ks ds=>obtain⟨xs,q,k,r⟩:=h;exact .dcp (by rw[eS];exact q) (k.mono (b.trans (dM s))) (r.mono (b.trans (dM s)))
 |_=>exact MX h
theorem iH.rho{Hs H0 H:Hp}{ρ ρ':Dm.Env}(r:iH Hs H0 H σ ρ v x)(o:∀a,aG σ ρ' a->aG σ ρ a)(d:∀i,Def ρ i->Def ρ' i):iH Hs H0 H σ ρ' v x:=by
 cases x with
 |val d=>exact r
 |slot i=>exact⟨r.1,d i r.2⟩
 |new d=>obtain⟨a,e,n,no,z⟩:=r;exact⟨a,e,n,fun y=>no (o a y),z⟩
theorem fF.rho{Hs H0 H:Hp}{ρ ρ':Dm.Env}(o:∀a,aG σ ρ' a->aG σ ρ a)(d:∀i,Def ρ i->Def ρ' i):∀{vs:List V} {xs:List Dm.Val},fF Hs H0 H σ ρ vs xs->fF Hs H0 H σ ρ' vs xs
 |_,_,.nil=>.nil
 |_,_,.cons h r=>.cons (h.rho o d) (fF.rho o d r)
theorem fF.early{Hs Hs' H0 H:Hp}(k:∀a,Hs a=none->Hs' a=none):∀{vs:List V} {xs:List Dm.Val},fF Hs H0 H σ ρ vs xs->fF Hs' H0 H σ ρ vs xs
 |_,_,.nil=>.nil
 |_,_,.cons h r=>.cons (h.early k) (fF.early k r)
theorem bY{i j:Nat}{c d:Dm.Cell}(h:(ρ.set i c)[j]?=some d):(j=i/\d=c)\/(j≠i/\ρ[j]?=some d):=by
 by_cases e:j=i
 ·subst e;by_cases l:j<ρ.length
  ·rw[M8 l]at h;exact .inl ⟨rfl,(Option.some.inj h).symm⟩
  ·rw[NN (by simpa using OL.mp l)]at h;cases h
 ·rw[MC (Nt e)]at h;exact .inr ⟨e,h⟩
theorem uH{i:Nat}(st:aJ H0 H σ ρ)(e:ρ[i]?=some (.ow d))(q:σ[i]?=some (some (V.ref a))) :
  aJ (shr H0 H a) H σ (ρ.set i (.sh d))/\(∀b,aG σ (ρ.set i (.sh d)) b->aG σ ρ b)/\∀j,Def ρ j->Def (ρ.set i (.sh d)) j:=by
 obtain⟨a',q',n,w⟩:=st.ow i d e;rw[q]at q';cases q';have hil:i<ρ.length:=(MT.mp e).1;refine⟨⟨vN st.same,by rw[Nr];exact st.len,fun j d' h=>?_,fun j d' h=>?_,fun j k d1 d2 b h1 h2 h3 h4=>?_⟩,fun b ⟨j,d',h1,h2⟩=>?_,fun j h=>?_⟩
 ·rcases bY h with⟨rfl,z⟩ | ⟨_,h⟩
  ·cases z;exact⟨_,q,w.rep n⟩
  ·obtain⟨v,z,r⟩:=st.sh j d' h;exact⟨v,z,r.mono (fT n)⟩
 ·rcases bY h with⟨_,z⟩ | ⟨hj,h⟩
  ·cases z
  ·obtain⟨b,z,n',w'⟩:=st.ow j d' h;have nb:b≠a:=fun y=>hj (st.dis j i d' d a h e (y▸z) q);exact⟨b,z,by rw[iR nb];exact n',w'.mono (fT n) rfl⟩
 ·rcases bY h1 with⟨_,z⟩ | ⟨_,h1⟩
  ·cases z
  ·rcases bY h2 with⟨_,z⟩ | ⟨_,h2⟩
   ·cases z
   ·exact st.dis j k d1 d2 b h1 h2 h3 h4
 ·rcases bY h1 with⟨_,z⟩ | ⟨_,h1⟩
  ·cases z
  ·exact⟨j,d',h1,h2⟩
 ·trivial
theorem xR(st:aJ H0 H σ ρ)(no:¬aG σ ρ a):aJ (shr H0 H a) H σ ρ where
 same:=vN st.same
 len:=st.len
 sh:=fun j d h=>by obtain⟨v,z,r⟩:=st.sh j d h;exact⟨v,z,r.mono (dM st.same)⟩
 ow:=fun j d h=>by obtain⟨b,z,n',w'⟩:=st.ow j d h;have nb:b≠a:=fun y=>no ⟨j,d,h,y▸z⟩;exact⟨b,z,by rw[iR nb];exact n',w'.mono (dM st.same) rfl⟩
 dis:=st.dis
theorem take1{Hs H0s H0 H0c H:Hp}{ρs ρ ρ':Dm.Env}(t:ESt σ ρs H0s Hs ρ H0c H)(b:aF H0 H0c)(r:iH Hs H0 H σ ρ v x)(e:Dm.tk ρ x=some (d,ρ')) :
  ∃uI,ESt σ ρs H0s Hs ρ' uI H/\aF H0c uI/\Rep uI v d/\(∀a,aG σ ρ' a->aG σ ρ a)/\∀i,Def ρ i->Def ρ' i:=by
 cases x with
 |val d'=>cases e;exact⟨H0c,t,aF.refl _,Rep.mono b r,fun _ z=>z,fun _ z=>z⟩
 |new d'=>
  cases e;obtain⟨a,e,n,no,n0,w⟩:=r;subst e;have ss:=dM (a:=a) t.st.same;refine⟨shr H0c H a,⟨xR t.st no,⟨t.stp.s0.trans ss,t.stp.s1,fun c o q=>?_,t.stp.s3⟩,t.own,t.dfn⟩,ss,w.IP b t.st.same,fun _ z=>z,fun _ z=>z⟩;by_cases y:c=a
  ·subst y;exact .inl n
  ·rw[iR y]at q;exact t.stp.s2 c o q
 |slot i=>
  obtain⟨q,_⟩:=r;unfold Dm.tk at e;dsimp only at e;split at e
  ·rename_i d' h;cases e;obtain⟨a,z,n,w⟩:=t.st.ow i _ h;rw[q]at z;cases z;obtain⟨s1,s2,s3⟩:=uH t.st h q;have ss:=dM (a:=a) t.st.same;refine⟨shr H0c H a,⟨s1,⟨t.stp.s0.trans ss,t.stp.s1,fun c o q'=>?_,t.stp.s3⟩,fun b z=>t.own b (s2 b z),fun j z=>s3 j (t.dfn j z)⟩,ss,w.IP (aF.refl _) t.st.same,s2,s3⟩;by_cases y:c=a
   ·subst y;exact .inr (.inr (t.own c ⟨i,_,h,q⟩))
   ·rw[iR y]at q';exact t.stp.s2 c o q'
  ·rename_i d' h;cases e;obtain⟨u,z,w⟩:=t.st.sh i _ h;rw[q]at z;cases z;exact⟨H0c,t,aF.refl _,w,fun _ z=>z,fun _ z=>z⟩
  ·cases e
theorem takes{Hs H0s H0 H:Hp}{ρs:Dm.Env}:∀{xs:List Dm.Val} {vs:List V} {ρ ρ':Dm.Env} {ds:List Dat} {H0c:Hp},ESt σ ρs H0s Hs ρ H0c H->aF H0 H0c->fF Hs H0 H σ ρ vs xs->Dm.tks ρ xs=some (ds,ρ') ->
  ∃uI,ESt σ ρs H0s Hs ρ' uI H/\aF H0c uI/\bg uI vs ds
 |[],_,ρ,ρ',ds,H0c,t,b,r,e=>by cases r;cases e;exact⟨H0c,t,aF.refl _,.nil⟩
 |x::xs,_,ρ,ρ',ds,H0c,t,b,r,e=>by
  cases r with
  |cons h r=>
   unfold Dm.tks at e;split at e
   ·cases e
   ·rename_i d ρ1 e1;split at e
    ·cases e
    ·rename_i ds' ρ2 e2;cases e;obtain⟨H1,t1,b1,r1,o1,d1⟩:=take1 t b h e1;obtain⟨H2,t2,b2,r2⟩:=takes t1 (b.trans b1) (r.rho o1 d1) e2;exact⟨H2,t2,b1.trans b2,.cons (r1.mono b2) r2⟩
theorem IQ{ρ ρ':Dm.Env}(e:Dm.tk ρ x=some (d,ρ'))(y:Dm.Val):Dm.pk ρ' y=Dm.pk ρ y:=by
 cases x with
 |val d'=>cases e;rfl
 |new d'=>cases e;rfl
 |slot i=>
  unfold Dm.tk at e;dsimp only at e;split at e
  ·rename_i d' h;cases e;cases y with
   |val _=>rfl
   |new _=>rfl
   |slot j=>
    unfold Dm.pk;dsimp only;by_cases z:j=i
    ·subst z;rw[M8 (MT.mp h).1,h]
    ·rw[MC (Nt z)]
  ·cases e;rfl
  ·cases e
theorem zl(e:Dm.pk ρ x=some d):∃ρ',Dm.tk ρ x=some (d,ρ'):=by
 cases x with
 |val d'=>cases e;exact⟨ρ,rfl⟩
 |new d'=>cases e;exact⟨ρ,rfl⟩
 |slot i=>
  unfold Dm.pk at e;dsimp only at e;unfold Dm.tk;dsimp only;split at e
  ·rename_i d' h;cases e;exact⟨_,rfl⟩
  ·rename_i d' h;cases e;exact⟨_,rfl⟩
  ·cases e
theorem iU:∀{xs:List Dm.Val} {ρ:Dm.Env} {ds:List Dat},Dm.pks ρ xs=some ds->∃ρ',Dm.tks ρ xs=some (ds,ρ')
 |[],ρ,ds,e=>by cases e;exact⟨ρ,rfl⟩
 |x::xs,ρ,ds,e=>by
  unfold Dm.pks at e;split at e
  ·cases e
  ·rename_i d e1;split at e
   ·cases e
   ·rename_i ds' e2;cases e;obtain⟨ρ1,h1⟩:=zl e1;have key:∀ys:List Dm.Val,Dm.pks ρ1 ys=Dm.pks ρ ys:=fun ys=>by
     induction ys with
     |nil=>rfl
     |cons y ys ih=>unfold Dm.pks;rw[IQ h1 y,ih]
    obtain⟨ρ2,h2⟩:=iU (xs:=xs) (ρ:=ρ1) (ds:=ds') (by rw[key];exact e2);exact⟨ρ2,by unfold Dm.tks;rw[h1];dsimp only;rw[h2]⟩
theorem looks{Hs H0 H:Hp}(st:aJ H0 H σ ρ):∀{xs:List Dm.Val} {vs:List V} {ds:List Dat},fF Hs H0 H σ ρ vs xs->Dm.pks ρ xs=some ds->rP H0 H vs ds
 |[],_,ds,r,e=>by cases r;cases e;exact .nil
 |x::xs,_,ds,r,e=>by
  cases r with
  |cons h r=>
   unfold Dm.pks at e;split at e
   ·cases e
   ·rename_i d e1;split at e
    ·cases e
    ·rename_i ds' e2;cases e;exact .cons (h.look st e1) (looks st r e2)
def OpD(r:R2)(g:Dat->Dat->Option RV):Prop:=∀(H0 H:Hp) (x y:V) (dx dy:Dat) (z:RV) (Q:VK),aF H0 H->jV H0 H x dx->jV H0 H y dy->g dx dy=some z ->
 (∀v H0' H',aQ H0 H H0' H'->uG H H0' H' v z->Q v H')->r x y H Q
def UnD(r:V->Hp->VK->Prop)(g:Dat->Option RV):Prop:=∀(H0 H:Hp) (x:V) (dx:Dat) (z:RV) (Q:VK),aF H0 H->jV H0 H x dx->g dx=some z ->
 (∀v H0' H',aQ H0 H H0' H'->uG H H0' H' v z->Q v H')->r x H Q
def CallD(r:List V->Hp->VK->Prop)(g:List Dat->Option RV):Prop:=∀(H0 H:Hp) (vs:List V) (ds:List Dat) (z:RV) (Q:VK),aF H0 H->rP H0 H vs ds->g ds=some z ->
 (∀v H0' H',aQ H0 H H0' H'->uG H H0' H' v z->Q v H')->r vs H Q
def spD(f:List Dat->Option RV):Sp:=fun vs H Q _=>∃H0 ds z,aF H0 H/\bg H0 vs ds/\f ds=some z/\∀v H0' H',aQ H0 H H0' H'->uG H H0' H' v z->Q v H'
end
section
variable{σ:St}{H:Hp}{Q:VK}
section
variable{fs:List FE}{d:Dat}{a b:FE}{t u:FT}{v:V}{H0:Hp}
theorem IS{i:Nat}(h:tD (Dm.eV i) σ H Q):B6 i σ H Q:=by
 obtain⟨H0,ρ,x,ρ',st,e,k⟩:=h;unfold Dm.eV at e;split at e
 ·rename_i d h1;cases e;obtain⟨v,q,r⟩:=st.sh i d h1;exact⟨v,q,k v H0 H (.refl st) r⟩
 ·rename_i d h1;cases e;obtain⟨a,q,_⟩:=st.ow i d h1;exact⟨_,q,k _ H0 H (.refl st) ⟨q,trivial⟩⟩
 ·cases e
theorem iw(c:∀H0:Hp,Rep H0 v d)(h:tD (Dm.eC d) σ H Q):tC v σ H Q:=by obtain⟨H0,ρ,x,ρ',st,e,k⟩:=h;cases e;exact k v H0 H (.refl st) (c H0)
theorem zm{r:R2}{g:Dat->Dat->Option RV}{fa fb:FE}(o:OpD r g)(h:tD (Dm.e2 g fa fb) σ H Q):tOp r (tD fa) (tD fb) σ H Q:=by
 obtain⟨H0,ρ,x,ρ',st,e,k⟩:=h;unfold Dm.e2 at e;split at e
 ·cases e
 rename_i x1 ρ1 e1;split at e
 ·cases e
 rename_i y1 ρ2 e2;split at e
 ·cases e
 rename_i dx p1;split at e
 ·cases e
 rename_i dy p2;split at e
 ·cases e
 rename_i z gz;cases e;refine⟨H0,ρ,x1,ρ1,st,e1,fun v H1 Hb t1 r1=>⟨H1,ρ1,y1,_,t1.st,e2,fun u H2 Hc t2 r2=>?_⟩⟩;refine o H2 Hc v u dx dy z Q t2.st.same ((r1.mono t2).look t2.st p1) (r2.look t2.st p2) gz fun w H3 Hd g3 r3=>?_;exact k w H3 Hd (t1.trans (t2.trans (.grow t2.st g3))) ((r3.toV t2.st).early fun a n=>(t1.trans t2).stp.gone n)
theorem F2{r:V->Hp->VK->Prop}{g:Dat->Option RV}{fa:FE}(o:UnD r g)(h:tD (Dm.e1 g fa) σ H Q):tUn r (tD fa) σ H Q:=by
 obtain⟨H0,ρ,x,ρ',st,e,k⟩:=h;unfold Dm.e1 at e;split at e
 ·cases e
 rename_i x1 ρ1 e1;split at e
 ·cases e
 rename_i dx p1;split at e
 ·cases e
 rename_i z gz;cases e;refine⟨H0,ρ,x1,_,st,e1,fun v H1 Hb t1 r1=>?_⟩;refine o H1 Hb v dx z Q t1.st.same (r1.look t1.st p1) gz fun w H3 Hd g3 r3=>?_;exact k w H3 Hd (t1.trans (.grow t1.st g3)) ((r3.toV t1.st).early fun a n=>t1.stp.gone n)
theorem IT{Q:List V->Hp->Prop}(h:tDA [] σ H Q):zc σ H Q:=by obtain⟨H0,ρ,xs,ρ',st,e,k⟩:=h;cases e;exact k [] H0 H (.refl st) .nil
theorem F3{f:FE}{Q:List V->Hp->Prop}(h:tDA (f::fs) σ H Q):k7 (tD f) (tDA fs) σ H Q:=by
 obtain⟨H0,ρ,xs,ρ',st,e,k⟩:=h;unfold Dm.eAs at e;split at e
 ·cases e
 rename_i x1 ρ1 e1;split at e
 ·cases e
 rename_i xs1 ρ2 e2;cases e;refine⟨H0,ρ,x1,ρ1,st,e1,fun v H1 Hb t1 r1=>⟨H1,ρ1,xs1,_,t1.st,e2,fun vs H2 Hc t2 r2=>?_⟩⟩;exact k (v::vs) H2 Hc (t1.trans t2) (.cons (r1.mono t2) (r2.early fun a n=>t1.stp.gone n))
theorem F4{r:List V->Hp->VK->Prop}{g:List Dat->Option RV}(o:CallD r g)(h:tD (Dm.eB g fs) σ H Q):tCB r (tDA fs) σ H Q:=by
 obtain⟨H0,ρ,x,ρ',st,e,k⟩:=h;unfold Dm.eB at e;split at e
 ·cases e
 rename_i xs ρ1 e1;split at e
 ·cases e
 rename_i ds p1;split at e
 ·cases e
 rename_i z gz;cases e;refine⟨H0,ρ,xs,_,st,e1,fun vs H1 Hb t1 r1=>?_⟩;refine o H1 Hb vs ds z Q t1.st.same (looks t1.st r1 p1) gz fun w H3 Hd g3 r3=>?_;exact k w H3 Hd (t1.trans (.grow t1.st g3)) ((r3.toV t1.st).early fun a n=>t1.stp.gone n)
theorem dQ{n:Nat}(h:n<=Dm.SZ):n<=sizeLine:=M6 h (by decide)
theorem IU(h:tD (Dm.aT fs) σ H Q):FJ (tDA fs) σ H Q:=by
 obtain⟨H0,ρ,x,ρ',st,e,k⟩:=h;unfold Dm.aT at e;split at e
 ·cases e
 rename_i xs ρ1 e1;split at e
 ·cases e
 rename_i ds ρ2 e2;split at e
 ·rename_i hz;cases e;refine⟨H0,ρ,xs,ρ1,st,e1,fun vs H1 Hb t1 r1=>?_⟩;obtain⟨H2,t2,b2,r2⟩:=takes t1 (aF.refl _) r1 e2;refine⟨by rw[r2.length];exact dQ hz,fun p hp=>?_⟩;have g:=aQ.xQ (o:=HO.tup vs) t2.st.same hp;exact k _ _ _ (t2.trans (.grow t2.st g)) (.tup aY (r2.mono g.s0))
 ·cases e
theorem IV(h:tD (Dm.aU fs) σ H Q):IB (tDA fs) σ H Q:=by
 obtain⟨H0,ρ,x,ρ',st,e,k⟩:=h;unfold Dm.aU at e;split at e
 ·cases e
 rename_i xs ρ1 e1;split at e
 ·cases e
 rename_i ds ρ2 e2;split at e
 ·rename_i hz;cases e;refine⟨H0,ρ,xs,ρ1,st,e1,fun vs H1 Hb t1 r1=>?_⟩;obtain⟨H2,t2,b2,r2⟩:=takes t1 (aF.refl _) r1 e2;refine⟨by rw[r2.length];exact dQ hz,fun p hp=>?_⟩;have g:=aQ.mG (o:=HO.lst vs) t2.st.same hp;refine k _ _ _ (t2.trans (.grow t2.st g)) ⟨p,rfl,t2.stp.gone hp,fun⟨i,d,h1,h2⟩=>?_,t2.st.same.free hp,vs,aY,r2⟩;obtain⟨a,q,_,w⟩:=t2.st.ow i d h1;rw[h2]at q;cases q;obtain⟨o,z⟩:=w.some;rw[hp]at z;cases z
 ·cases e
theorem Rep.plain{H0 H1:Hp}(r:Rep H0 v d)(n:Dm.aO d=false):Rep H1 v d:=by
 cases r with
 |non=>exact .non
 |bl b=>exact .bl b
 |int i=>exact .int i
 |str s=>exact .str s
 |tup _ _=>cases n
 |lst _ _=>cases n
 |dct _ _ _=>cases n
 |dcp _ _ _=>cases n
 |exc _=>cases n
 |dj _ _=>cases n
 |fn a=>exact .fn a
theorem Own.box{H0 H:Hp}{a:Addr}(w:Own H0 H a d):Dm.aO d=true:=by
 cases d with
 |lst ds=>rfl
 |dct ks ds=>rfl
 |dcp ks ds=>rfl
 |_=>exact MX w
theorem F5{f:List Dat->Option RV}{E:XK}(h:tD (Dm.eF f fs) σ H Q):Ei (spD f) [] E (tDA fs) σ H Q:=by
 obtain⟨H0,ρ,x,ρ',st,e,k⟩:=h;unfold Dm.eF at e;split at e
 ·cases e
 rename_i xs ρ1 e1;split at e
 ·cases e
 rename_i ds p1;split at e
 ·cases e
 rename_i z fz;refine⟨H0,ρ,xs,ρ1,st,e1,fun vs H1 Hb t1 r1=>?_⟩;dsimp only;rw[Nl];obtain⟨ρ2,e2⟩:=iU p1;obtain⟨H2,t2,b2,r2⟩:=takes t1 (aF.refl _) r1 e2;split at e
 ·rw[e2]at e;cases e;exact⟨H2,ds,z,t2.st.same,r2,fz,fun w H3 Hd g3 r3=>k w H3 Hd (t2.trans (.grow t2.st g3)) ((r3.toV t2.st).early fun a n=>t2.stp.gone n)⟩
 ·rename_i nb;cases e;refine⟨H2,ds,z,t2.st.same,r2,fz,fun w H3 Hd g3 r3=>?_⟩;have g:aQ H1 Hb H1 Hd:=⟨aF.refl _,g3.s1,fun a o q=>.inr q,t1.st.same.trans g3.s1⟩
  refine k w H1 Hd (t1.trans (.grow t1.st g)) ?_;cases z with
  |val d=>exact Rep.plain r3 (by simpa [RV.dat] using nb)
  |new d=>obtain⟨a,_,_,_,w⟩:=r3;exact absurd w.box (by simpa [RV.dat] using nb)
theorem Ls{t:FT}(h:tD (Dm.eIf t a b) σ H Q):tIf (tDT t) (tD a) (tD b) σ H Q:=by
 obtain⟨H0,ρ,x,ρ',st,e,k⟩:=h;unfold Dm.eIf at e;split at e
 ·cases e
 ·rename_i ρ1 e1;refine⟨H0,ρ,true,ρ1,st,e1,fun H1 Hb t1=>?_⟩;dsimp only;rw[if_pos rfl];exact⟨H1,ρ1,x,ρ',t1.st,e,fun v H2 Hc t2 r2=>k v H2 Hc (t1.trans t2) (r2.early fun a n=>t1.stp.gone n)⟩
 ·rename_i ρ1 e1;refine⟨H0,ρ,false,ρ1,st,e1,fun H1 Hb t1=>?_⟩;dsimp only;rw[if_neg Nh];exact⟨H1,ρ1,x,ρ',t1.st,e,fun v H2 Hc t2 r2=>k v H2 Hc (t1.trans t2) (r2.early fun a n=>t1.stp.gone n)⟩
theorem Rep.qz{c:Bool}(r:Rep H0 v (.bl c)):v=.bl c:=by cases r;rfl
theorem Rep.isInt{c:Int}(r:Rep H0 v (.int c)):v=.int c:=by cases r;rfl
theorem IW(h:tD (Dm.bE a b) σ H Q):D_ (tD a) (tD b) σ H Q:=by
 obtain⟨H0,ρ,x,ρ',st,e,k⟩:=h;unfold Dm.bE at e;split at e
 ·rename_i ρ1 e1;refine⟨H0,ρ,_,_,st,e1,fun v H1 Hb t1 r1=>⟨true,Rep.qz r1,?_⟩⟩
  try dsimp only
  rw[if_pos rfl];exact⟨H1,ρ1,x,ρ',t1.st,e,fun v H2 Hc t2 r2=>k v H2 Hc (t1.trans t2) (r2.early fun a n=>t1.stp.gone n)⟩
 ·rename_i ρ1 e1;cases e;refine⟨H0,ρ,_,_,st,e1,fun v H1 Hb t1 r1=>⟨false,Rep.qz r1,?_⟩⟩
  try dsimp only
  rw[if_neg Nh];exact k _ H1 Hb t1 (Rep.bl false)
 ·cases e
theorem IX{a:FE}(h:tD (Dm.bO a) σ H Q):Ea (tD a) σ H Q:=by
 obtain⟨H0,ρ,x,ρ',st,e,k⟩:=h;unfold Dm.bO at e;split at e
 ·rename_i c ρ1 e1;cases e;exact⟨H0,ρ,_,_,st,e1,fun v H1 Hb t1 r1=>⟨c,Rep.qz r1,k _ H1 Hb t1 (Rep.bl (!c))⟩⟩
 ·cases e
variable{Qt:Bool->Hp->Prop}
theorem uJ{a:FE}(h:tDT (Dm.tV a) σ H Qt):y9 (tD a) σ H Qt:=by
 obtain⟨H0,ρ,x,ρ',st,e,k⟩:=h;unfold Dm.tV at e;split at e
 ·rename_i c ρ1 e1;cases e;exact⟨H0,ρ,_,_,st,e1,fun v H1 Hb t1 r1=>⟨_,Rep.qz r1,k H1 Hb t1⟩⟩
 ·cases e
theorem F6{t:FT}(h:tDT (Dm.aV t) σ H Qt):aV (tDT t) σ H Qt:=by
 obtain⟨H0,ρ,x,ρ',st,e,k⟩:=h;unfold Dm.aV at e;split at e
 ·rename_i c ρ1 e1;cases e;exact⟨H0,ρ,_,_,st,e1,fun H1 Hb t1=>k H1 Hb t1⟩
 ·cases e
theorem F7(h:tDT (Dm.bI t u) σ H Qt):bI (tDT t) (tDT u) σ H Qt:=by
 obtain⟨H0,ρ,x,ρ',st,e,k⟩:=h;unfold Dm.bI at e;split at e
 ·rename_i ρ1 e1;refine⟨H0,ρ,_,ρ1,st,e1,fun H1 Hb t1=>?_⟩;dsimp only;rw[if_pos rfl];exact⟨H1,ρ1,x,ρ',t1.st,e,fun H2 Hc t2=>k H2 Hc (t1.trans t2)⟩
 ·rename_i ρ1 e1;cases e;refine⟨H0,ρ,_,_,st,e1,fun H1 Hb t1=>?_⟩;dsimp only;rw[if_neg Nh];exact k H1 Hb t1
 ·cases e
theorem IY(h:tDT (Dm.tOr t u) σ H Qt):tOr (tDT t) (tDT u) σ H Qt:=by
 obtain⟨H0,ρ,x,ρ',st,e,k⟩:=h;unfold Dm.tOr at e;split at e
 ·rename_i ρ1 e1;cases e;refine⟨H0,ρ,_,_,st,e1,fun H1 Hb t1=>?_⟩;dsimp only;rw[if_pos rfl];exact k H1 Hb t1
 ·rename_i ρ1 e1;refine⟨H0,ρ,_,ρ1,st,e1,fun H1 Hb t1=>?_⟩;dsimp only;rw[if_neg Nh];exact⟨H1,ρ1,x,ρ',t1.st,e,fun H2 Hc t2=>k H2 Hc (t1.trans t2)⟩
 ·cases e
end
end
section
variable{ρ:Dm.Env}{H0 H:Hp}{σ:L2.St}
structure SSt(σ:St)(ρ:Dm.Env)(H0 H:Hp)(σ':St)(ρ':Dm.Env)(H0' H':Hp):Prop where
 st:aJ H0' H' σ' ρ'
 stp:Stp (aG σ ρ) H0 H H0' H'
 own:∀a,aG σ' ρ' a->aG σ ρ a\/H a=none
 fx:σ'[0]?=σ[0]?
theorem ESt.sst{σ:St}{ρ ρ':Dm.Env}{H0 H H0' H':Hp}(t:ESt σ ρ H0 H ρ' H0' H'):SSt σ ρ H0 H σ ρ' H0' H':=⟨t.st,t.stp,fun a z=>.inl (t.own a z),rfl⟩
theorem SSt.refl{σ:St}(st:aJ H0 H σ ρ):SSt σ ρ H0 H σ ρ H0 H:=(ESt.refl st).sst
theorem SSt.trans{σ σ1 σ2:St}{ρ ρ1 ρ2:Dm.Env}{H0 H H1 H' H2 H'':Hp}(t:SSt σ ρ H0 H σ1 ρ1 H1 H')(u:SSt σ1 ρ1 H1 H' σ2 ρ2 H2 H''):SSt σ ρ H0 H σ2 ρ2 H2 H'':=
 ⟨u.st,t.stp.trans u.stp t.own,fun a z=>(u.own a z).elim (t.own a) fun n=>.inr (t.stp.gone n),u.fx.trans t.fx⟩
def zo(σ:St)(ρ:Dm.Env)(H H0' H':Hp)(v:V):RV->Prop
 |.val d=>Rep H0' v d
 |.new d=>∃a,v=V.ref a/\(H a=none\/aG σ ρ a)/\H0' a=none/\Own H0' H' a d
def mH(D:Ends)(σ:St)(ρ:Dm.Env)(H0 H:Hp):Dm.Out->Prop
 |.nx ρ'=>∀σ' H0' H',SSt σ ρ H0 H σ' ρ' H0' H'->D.nx σ' H'
 |.bk ρ'=>∀σ' H0' H',SSt σ ρ H0 H σ' ρ' H0' H'->D.bk σ' H'
 |.ct ρ'=>∀σ' H0' H',SSt σ ρ H0 H σ' ρ' H0' H'->D.ct σ' H'
 |.ret z ρ'=>∀σ' v H0' H',SSt σ ρ H0 H σ' ρ' H0' H'->zo σ ρ H H0' H' v z->(∀d a,z=.new d->v=.ref a->¬aG σ' ρ' a)->D.rt v H'
def tDS(g:FS):TS:=fun D σ H=>∃H0 ρ o,aJ H0 H σ ρ/\g ρ=some o/\mH D σ ρ H0 H o
theorem mH.pre{D:Ends}{σ σ1:St}{ρ ρ1:Dm.Env}{H0 H H1 H':Hp}{o:Dm.Out}(t:SSt σ ρ H0 H σ1 ρ1 H1 H')(k:mH D σ ρ H0 H o):mH D σ1 ρ1 H1 H' o:=by
 cases o with
 |nx ρ'=>exact fun σ' H0' H' u=>k σ' H0' H' (t.trans u)
 |bk ρ'=>exact fun σ' H0' H' u=>k σ' H0' H' (t.trans u)
 |ct ρ'=>exact fun σ' H0' H' u=>k σ' H0' H' (t.trans u)
 |ret z ρ'=>
  refine fun σ' v H0' H'' u r no=>k σ' v H0' H'' (t.trans u) ?_ no;cases z with
  |val d=>exact r
  |new d=>
   obtain⟨a,e,n,n0,w⟩:=r;refine⟨a,e,?_,n0,w⟩;rcases n with n | n
   ·exact .inl (t.stp.gone n)
   ·exact(t.own a n).symm
theorem aJ.mask(st:aJ H0 H σ ρ)(i:Nat):aJ H0 H σ (ρ.set i .un) where
 same:=st.same
 len:=by rw[Nr];exact st.len
 sh:=fun j d h=>by
  by_cases q:i=j
  ·subst q;rw[NW]at h;simp only[if_true]at h;split at h<;>cases h
  ·rw[MC q]at h;exact st.sh j d h
 ow:=fun j d h=>by
  by_cases q:i=j
  ·subst q;rw[NW]at h;simp only[if_true]at h;split at h<;>cases h
  ·rw[MC q]at h;exact st.ow j d h
 dis:=fun j j' d d' a h1 h2 h3 h4=>by
  by_cases q:i=j
  ·subst q;rw[NW]at h1;simp only[if_true]at h1;split at h1<;>cases h1
  ·by_cases q':i=j'
   ·subst q';rw[NW]at h2;simp only[if_true]at h2;split at h2<;>cases h2
   ·rw[MC q]at h1;rw[MC q']at h2;exact st.dis j j' d d' a h1 h2 h3 h4
theorem gb{i:Nat}{a:Addr}(h:aG σ (ρ.set i .un) a):∃(j:Nat) (d:Dat),j≠i/\ρ[j]?=some (Dm.Cell.ow d)/\σ[j]?=some (some (V.ref a)):=by
 obtain⟨j,d,h1,h2⟩:=h;by_cases q:i=j
 ·subst q;rw[NW]at h1;simp only[if_true]at h1;split at h1<;>cases h1
 ·rw[MC q]at h1;exact⟨j,d,fun z=>q z.symm,h1,h2⟩
end
section
variable{D:Ends}{σ:St}{H:Hp}
theorem Lu(h:tDS Dm.sNx D σ H):Eb D σ H:=by obtain⟨H0,ρ,o,st,e,k⟩:=h;cases e;exact k σ H0 H (.refl st)
theorem IZ{s u:FS}(h:tDS (Dm.aj s u) D σ H):Ik (tDS s) (tDS u) D σ H:=by
 obtain⟨H0,ρ,o,st,e,k⟩:=h;unfold Dm.aj at e;split at e
 ·rename_i ρ1 e1;exact⟨H0,ρ,.nx ρ1,st,e1,fun σ' H0' H' t=>⟨H0',ρ1,o,t.st,e,k.pre t⟩⟩
 ·rename_i h1;cases o with
  |nx ρ1=>exact absurd e (h1 ρ1)
  |bk ρ1=>exact⟨H0,ρ,_,st,e,k⟩
  |ct ρ1=>exact⟨H0,ρ,_,st,e,k⟩
  |ret z ρ1=>exact⟨H0,ρ,_,st,e,k⟩
theorem F8{f:FE}(h:tDS (Dm.sE f) D σ H):yQ (tD f) D σ H:=by
 obtain⟨H0,ρ,o,st,e,k⟩:=h;unfold Dm.sE at e;split at e
 ·cases e
 ·rename_i x ρ1 e1;cases e;exact⟨H0,ρ,x,ρ1,st,e1,fun v H0' H' t r=>k σ H0' H' t.sst⟩
theorem I0{f:FE}(h:tDS (Dm.sR f) D σ H):Il (tD f) D σ H:=by
 obtain⟨H0,ρ,o,st,e,k⟩:=h;unfold Dm.sR at e;split at e
 ·cases e
 ·rename_i d ρ1 e1;cases e;refine⟨H0,ρ,_,ρ1,st,e1,fun v H0' H' t r=>?_⟩;obtain⟨a,e,n,no,n0,w⟩:=r;exact k σ v H0' H' t.sst ⟨a,e,.inl n,n0,w⟩ fun d' a' _ e' z=>by rw[e]at e';cases e';exact no z
 ·rename_i d ρ1 e1;cases e;exact⟨H0,ρ,_,ρ1,st,e1,fun v H0' H' t r=>k σ v H0' H' t.sst r fun d' a' z=>by cases z⟩
 ·rename_i i ρ1 e1;split at e
  ·rename_i d h1;cases e;refine⟨H0,ρ,_,ρ1,st,e1,fun v H0' H' t r=>?_⟩;obtain⟨q,_⟩:=r;obtain⟨a,q',n0,w⟩:=t.st.ow i d h1;rw[q]at q';cases q';refine k σ _ H0' H' ⟨t.st.mask i,t.stp,fun b z=>?_,rfl⟩ ⟨a,rfl,.inr (t.own a ⟨i,d,h1,q⟩),n0,w⟩ fun d' a' _ e' z=>?_
   ·obtain⟨j,d2,_,z1,z2⟩:=gb z;exact .inl (t.own b ⟨j,d2,z1,z2⟩)
   ·cases e';obtain⟨j,d2,hj,z1,z2⟩:=gb z;exact hj (t.st.dis j i d2 d a z1 h1 z2 q)
  ·rename_i d h1;cases e;refine⟨H0,ρ,_,ρ1,st,e1,fun v H0' H' t r=>?_⟩;obtain⟨q,_⟩:=r;obtain⟨u,q',w⟩:=t.st.sh i d h1;rw[q]at q';cases q';exact k σ _ H0' H' t.sst w fun d' a' z=>by cases z
  ·cases e
theorem I_{t:FT}{a b:FS}(h:tDS (Dm.sIf t a b) D σ H):Im (tDT t) (tDS a) (tDS b) D σ H:=by
 obtain⟨H0,ρ,o,st,e,k⟩:=h;unfold Dm.sIf at e;split at e
 ·cases e
 ·rename_i ρ1 e1;refine⟨H0,ρ,true,ρ1,st,e1,fun H1 Hb t1=>?_⟩;dsimp only;rw[if_pos rfl];exact⟨H1,ρ1,o,t1.st,e,k.pre t1.sst⟩
 ·rename_i ρ1 e1;refine⟨H0,ρ,false,ρ1,st,e1,fun H1 Hb t1=>?_⟩;dsimp only;rw[if_neg Nh];exact⟨H1,ρ1,o,t1.st,e,k.pre t1.sst⟩
end
section
variable{ρ:Dm.Env}{σ:St}{i:Nat}{H0 H:Hp}{d:Dat}{a:Addr}{b:Addr}{o:HO}{v:V}
theorem gG{i j:Nat}{c d:Option V}(h:(σ.set i c)[j]?=some d):(j=i/\d=c)\/(j≠i/\σ[j]?=some d):=by
 by_cases e:j=i
 ·subst e;by_cases l:j<σ.length
  ·rw[M8 l]at h;exact .inl ⟨rfl,(Option.some.inj h).symm⟩
  ·rw[NN (by simpa using OL.mp l)]at h;cases h
 ·rw[MC (Nt e)]at h;exact .inr ⟨e,h⟩
theorem aJ.inσ{c d:Dm.Cell}(st:aJ H0 H σ ρ)(h:(ρ.set i c)[i]?=some d):i<σ.length:=by have:=(MT.mp h).1;rw[Nr]at this;rw[st.len];exact this
theorem e9(h:aG (σ.set i (some v)) (ρ.set i (.sh d)) b):aG σ ρ b:=by
 obtain⟨j,d',h1,h2⟩:=h;rcases bY h1 with⟨_,z⟩ | ⟨hj,h1⟩
 ·cases z
 ·rcases gG h2 with⟨z,_⟩ | ⟨_,h2⟩
  ·exact absurd z hj
  ·exact⟨j,d',h1,h2⟩
theorem aJ.qA(st:aJ H0 H σ ρ)(r:Rep H0 v d):aJ H0 H (σ.set i (some v)) (ρ.set i (.sh d)) where
 same:=st.same
 len:=by rw[Nr,Nr];exact st.len
 sh:=fun j d' h=>by
  rcases bY h with⟨rfl,z⟩ | ⟨hj,h'⟩
  ·cases z;exact⟨v,M8 (st.inσ h),r⟩
  ·obtain⟨u,q,w⟩:=st.sh j d' h';exact⟨u,by rw[MC (Nt hj)];exact q,w⟩
 ow:=fun j d' h=>by
  rcases bY h with⟨_,z⟩ | ⟨hj,h'⟩
  ·cases z
  ·obtain⟨u,q,w⟩:=st.ow j d' h';exact⟨u,by rw[MC (Nt hj)];exact q,w⟩
 dis:=fun j k d1 d2 b h1 h2 h3 h4=>by
  rcases bY h1 with⟨_,z⟩ | ⟨hj,h1⟩
  ·cases z
  rcases bY h2 with⟨_,z⟩ | ⟨hk,h2⟩
  ·cases z
  rw[MC (Nt hj)]at h3;rw[MC (Nt hk)]at h4;exact st.dis j k d1 d2 b h1 h2 h3 h4
theorem aJ.F9(st:aJ H0 H σ ρ)(no:¬aG σ ρ a)(n0:H0 a=none)(w:Own H0 H a d):aJ H0 H (σ.set i (some (.ref a))) (ρ.set i (.ow d)) where
 same:=st.same
 len:=by rw[Nr,Nr];exact st.len
 sh:=fun j d' h=>by
  rcases bY h with⟨_,z⟩ | ⟨hj,h'⟩
  ·cases z
  ·obtain⟨u,q,w⟩:=st.sh j d' h';exact⟨u,by rw[MC (Nt hj)];exact q,w⟩
 ow:=fun j d' h=>by
  rcases bY h with⟨rfl,z⟩ | ⟨hj,h'⟩
  ·cases z;exact⟨a,M8 (st.inσ h),n0,w⟩
  ·obtain⟨u,q,w⟩:=st.ow j d' h';exact⟨u,by rw[MC (Nt hj)];exact q,w⟩
 dis:=fun j k d1 d2 b h1 h2 h3 h4=>by
  rcases bY h1 with⟨e1,z1⟩ | ⟨hj,h1'⟩
  ·rcases bY h2 with⟨e2,z2⟩ | ⟨hk,h2'⟩
   ·rw[e1,e2]
   ·rcases gG h3 with⟨_,z⟩ | ⟨z,_⟩
    ·cases z;rw[MC (Nt hk)]at h4;exact absurd ⟨k,d2,h2',h4⟩ no
    ·exact absurd e1 z
  ·rcases bY h2 with⟨e2,z2⟩ | ⟨hk,h2'⟩
   ·rcases gG h4 with⟨_,z⟩ | ⟨z,_⟩
    ·cases z;rw[MC (Nt hj)]at h3;exact absurd ⟨j,d1,h1',h3⟩ no
    ·exact absurd e2 z
   ·rw[MC (Nt hj)]at h3;rw[MC (Nt hk)]at h4;exact st.dis j k d1 d2 b h1' h2' h3 h4
theorem qB{a b:Addr}(h:aG (σ.set i (some (.ref a))) (ρ.set i (.ow d)) b):b=a\/aG σ ρ b:=by
 obtain⟨j,d',h1,h2⟩:=h;rcases bY h1 with⟨e,_⟩ | ⟨hj,h1⟩
 ·rcases gG h2 with⟨_,z⟩ | ⟨z,_⟩
  ·cases z;exact .inl rfl
  ·exact absurd e z
 ·rcases gG h2 with⟨z,_⟩ | ⟨_,h2⟩
  ·exact absurd z hj
  ·exact .inr ⟨j,d',h1,h2⟩
theorem aJ.write{d d':Dat}(st:aJ H0 H σ ρ)(e:ρ[i]?=some (.ow d))(q:σ[i]?=some (some (V.ref a)))(w':Own H0 (upd H a o) a d') :
  aJ H0 (upd H a o) σ (ρ.set i (.ow d')):=by
 obtain⟨a',q',n,w⟩:=st.ow i d e;rw[q]at q';cases q';refine⟨fun b u z=>?_,by rw[Nr];exact st.len,fun j d1 h=>?_,fun j d1 h=>?_,fun j k d1 d2 b h1 h2 h3 h4=>?_⟩
 ·rw[ay (aZ z n)];exact st.same _ _ z
 ·rcases bY h with⟨_,z⟩ | ⟨hj,h'⟩
  ·cases z
  ·exact st.sh j d1 h'
 ·rcases bY h with⟨rfl,z⟩ | ⟨hj,h'⟩
  ·cases z;exact⟨a,q,n,w'⟩
  ·obtain⟨b,q1,n1,w1⟩:=st.ow j d1 h';have nb:b≠a:=fun y=>hj (st.dis j i d1 d a h' e (y▸q1) q);exact⟨b,q1,n1,w1.mono (aF.refl _) (ay nb)⟩
 ·have f:∀{j:Nat} {d1:Dat},(ρ.set i (.ow d'))[j]?=some (.ow d1)->∃d2,ρ[j]?=some (.ow d2):=fun {j d1} h=>by
   rcases bY h with⟨rfl,_⟩ | ⟨_,h'⟩
   ·exact⟨d,e⟩
   ·exact⟨d1,h'⟩
  obtain⟨x1,y1⟩:=f h1;obtain⟨x2,y2⟩:=f h2;exact st.dis j k x1 x2 b y1 y2 h3 h4
theorem k8{d d':Dat}(e:ρ[i]?=some (.ow d))(h:aG σ (ρ.set i (.ow d')) b):aG σ ρ b:=by
 obtain⟨j,d1,h1,h2⟩:=h;rcases bY h1 with⟨rfl,_⟩ | ⟨_,h'⟩
 ·exact⟨j,d,e,h2⟩
 ·exact⟨j,d1,h',h2⟩
theorem Stp.write(w:aG σ ρ a):Stp (aG σ ρ) H0 H H0 (upd H a o):=
 ⟨aF.refl _,fun b u e n=>by rw [ay (show b≠a from fun z=>n (by rw [z];exact w))];exact e,fun b u e=>.inr (.inl e),fun b u e=>by
  by_cases z:b=a
  ·subst z;exact⟨o,aY⟩
  ·exact⟨u,by rw[ay z];exact e⟩⟩
end
section
variable{D:Ends}{σ:St}{H:Hp}
section
variable{f:FE}{is:List Nat}{ρ:Dm.Env}{body:FS}{a:Addr}{i:Nat}{ds:List Dat}{d:Dat}{bd:Dm.FB}{n:Nat}{xs:List V}{vs:List V}{H0:Hp}{k:Nat}{fi:Dm.FI}{t:FT}{g:TG}{o:HO}{Q:VK}{E:XK}
theorem zp(h:tDS (Dm.sA i f) D σ H):xy (tD f) (mE i) D σ H:=by
 obtain⟨H0,ρ,o,st,e,k⟩:=h;unfold Dm.sA at e;split at e
 ·cases e
 rename_i hi0;split at e
 ·cases e
 ·rename_i d ρ1 e1;cases e;refine⟨H0,ρ,_,ρ1,st,e1,fun v H0' H' t r=>?_⟩;obtain⟨a,e,n,no,n0,w⟩:=r;subst e;refine k _ H0' H' ⟨t.st.F9 no n0 w,t.stp,fun b z=>?_,MC hi0⟩;rcases qB z with rfl | z
  ·exact .inr n
  ·exact .inl (t.own b z)
 ·rename_i x ρ1 _ e1;split at e
  ·cases e
  ·rename_i d ρ2 e2;cases e;refine⟨H0,ρ,_,ρ1,st,e1,fun v H0' H' t r=>?_⟩;obtain⟨H1,t1,b1,r1,_,_⟩:=take1 t (aF.refl _) r e2;exact k _ H1 H' ⟨t1.st.qA r1,t1.stp,fun b z=>.inl (t1.own b (e9 z)),MC hi0⟩
theorem vO{j:Nat}(h:Def ρ j):Def (ρ.set i (.sh d)) j:=trivial
noncomputable def fN:List Nat->TGs
 |[]=>Ip
 |i::is=>Ed (mE i) (fN is)
theorem qC{H0 H:Hp}{Q:St->Hp->Prop}:∀{is:List Nat} {xs:List V} {ds:List Dat} {σ:St} {ρ ρ':Dm.Env},aJ H0 H σ ρ->bg H0 xs ds->Dm.sets is ds ρ=some ρ' ->
  (∀σ',aJ H0 H σ' ρ'->(∀a,aG σ' ρ' a->aG σ ρ a)->(∀j,j∉is->σ'[j]?=σ[j]?)->(∀j,Def ρ j->Def ρ' j)->σ'[0]?=σ[0]?->Q σ' H)->fN is xs σ H Q
 |[],_,[],σ,ρ,ρ',st,r,e,k=>by cases r;cases e;exact⟨rfl,k σ st (fun _ z=>z) (fun _ _=>rfl) (fun _ z=>z) rfl⟩
 |i::is,_,d::ds,σ,ρ,ρ',st,r,e,k=>by
  cases r with
  |cons h r=>
   unfold Dm.sets at e;split at e
   ·cases e
   rename_i hi0;refine⟨_,_,rfl,?_⟩;refine qC (st.qA h) r e fun σ' st' o' n' d' f'=>k σ' st' (fun a z=>e9 (o' a z)) (fun j hj=>?_) (fun j z=>d' j (vO z)) (f'.trans (MC hi0));rw[n' j fun z=>hj (MK _ z)];exact MC fun z=>hj (by rw[z];exact MM)
 |[],_,_::_,_,_,_,_,_,e,_=>by cases e
 |_::_,_,[],_,_,_,_,_,e,_=>by cases e
theorem mJ:∀{is:List Nat} {ds:List Dat} {ρ ρ':Dm.Env},Dm.sets is ds ρ=some ρ'->ds.length=is.length
 |[],[],_,_,_=>rfl
 |i::is,_::ds,_,_,e=>by
  unfold Dm.sets at e;split at e
  ·cases e
  ·simp[mJ (is:=is) (ds:=ds) e]
 |[],_::_,_,_,e=>by cases e
 |_::_,[],_,_,e=>by cases e
def BD(is:List Nat)(g:TG)(bd:Dm.FB):Prop:=∀(H0 H:Hp) (σ:St) (ρ ρ':Dm.Env) (x:V) (d:Dat) (Q:St->Hp->Prop),aJ H0 H σ ρ->Rep H0 x d->bd d ρ=some ρ' ->
 (∀σ',aJ H0 H σ' ρ'->(∀a,aG σ' ρ' a->aG σ ρ a)->(∀j,j∉is->σ'[j]?=σ[j]?)->(∀j,Def ρ j->Def ρ' j)->σ'[0]?=σ[0]?->Q σ' H)->g x σ H Q
theorem vP(i:Nat):BD [i] (mE i) (Dm.bN i):=by
 intro H0 H σ ρ ρ' x d Q st r e k;unfold Dm.bN at e;split at e
 ·cases e
 rename_i hi0;cases e;refine k _ (st.qA r) (fun a z=>e9 z) (fun j hj=>?_) (fun j h=>vO h) (MC hi0);exact MC (fun z=>hj (by rw[z];exact M4.mpr rfl))
theorem zq{K:Mv}(hn:is.length=n)(h:tDS (Dm.sU is f) D σ H):xy (tD f) (Fq K n (fN is)) D σ H:=by
 obtain⟨H0,ρ,o,st,e,k⟩:=h;unfold Dm.sU at e;split at e
 ·cases e
 ·rename_i x ρ1 e1;split at e
  ·rename_i ds ρ2 e2;split at e
   ·cases e
   ·rename_i ρ3 e3;cases e;refine⟨H0,ρ,_,ρ1,st,e1,fun v H0' H' t r=>?_⟩;obtain⟨H1,t1,b1,r1,_,_⟩:=take1 t (aF.refl _) r e2;cases r1 with
    |tup q rs=>refine⟨_,_,rfl,SqT.of (t1.st.same _ _ q),by rw[rs.length,mJ e3,hn],?_⟩;exact qC t1.st rs e3 fun σ' st' o' _ _ f'=>k σ' H1 H' ⟨st',t1.stp,fun a z=>.inl (t1.own a (o' a z)),f'⟩
  ·cases e
theorem zu{K:Mv}(is:List Nat)(hn:is.length=n):BD is (Fq K n (fN is)) (Dm.bT is):=by
 intro H0 H σ ρ ρ' x d Q st r e k;unfold Dm.bT at e;split at e
 ·cases r with
  |tup q rs=>exact⟨_,_,rfl,SqT.of (st.same _ _ q),by rw[rs.length,mJ e,hn],qC st rs e k⟩
 ·cases e
theorem Ja{K:Mv}(h:tDS (Dm.bJ i f) D σ H):yQ (tBM K "list" vL (B6 i) (tDA [f])) D σ H:=by
 obtain⟨H0,ρ,o,st,e,k⟩:=h;unfold Dm.bJ at e;split at e
 ·rename_i ds0 h0;obtain⟨a0,q0,n0,w0⟩:=st.ow i _ h0;refine⟨_,q0,?_⟩;split at e
  ·cases e
  rename_i x ρ1 e1;split at e
  ·cases e
  rename_i d ρ2 e2;split at e
  ·rename_i ds h2;split at e
   ·rename_i hz;cases e;obtain⟨xs0,y0,_⟩:=w0;refine⟨.inl ⟨rfl,xs0,.inl (.inl y0)⟩,?_⟩;refine⟨H0,ρ,[x],ρ1,st,by unfold Dm.eAs;rw[e1];rfl,fun vs H0' H' t r=>?_⟩;cases r with
    |cons r rr=>
     cases rr;obtain⟨H1,t1,b1,r1,_,_⟩:=take1 t (aF.refl _) r e2;obtain⟨a,q,n,w⟩:=t1.st.ow i _ h2;rw[q0]at q;cases q;obtain⟨xs,y,rs⟩:=w;refine⟨a0,xs,_,rfl,rfl,y,by rw[rs.length];exact MZ hz (by decide),?_⟩;have ow:aG σ ρ2 a0:=⟨i,_,h2,q0⟩
     refine k σ H1 _ ⟨t1.st.write h2 q0 ⟨_,aY,rs.append (.cons r1 .nil)⟩,t1.stp.trans (Stp.write ow) fun b z=>.inl (t1.own b z),fun b z=>.inl (t1.own b (k8 h2 z)),rfl⟩
   ·cases e
  ·cases e
 ·cases e
theorem Jb{j f:FE}(h:tDS (Dm.bP i j f) D σ H):xy (tD f) (bD (B6 i) (tD j) El) D σ H:=by
 obtain⟨H0,ρ,o,st,e,k⟩:=h;unfold Dm.bP at e;split at e
 ·cases e
 rename_i x ρ1 e1;split at e
 ·cases e
 rename_i d ρ2 e2;split at e
 case h_2=>cases e
 rename_i d0 h2;split at e
 ·rename_i m ρ3 e3;split at e
  ·rename_i ds h3;split at e
   ·cases e
   ·rename_i p e4;cases e;refine⟨H0,ρ,_,ρ1,st,e1,fun v H0' H' t r=>?_⟩;obtain⟨H1,t1,b1,r1,_,_⟩:=take1 t (aF.refl _) r e2;obtain⟨a0,q0,_,_⟩:=t1.st.ow i _ h2;refine⟨_,q0,H1,ρ2,_,ρ3,t1.st,e3,fun u H2 Hc t2 r2=>?_⟩;obtain⟨a,q,n,w⟩:=t2.st.ow i _ h3;rw[q0]at q;cases q;obtain⟨xs,y,rs⟩:=w;refine⟨a0,xs,m,p,rfl,Rep.isInt r2,y,by rw[rs.length];exact e4,?_⟩;have ow:aG σ ρ3 a0:=⟨i,_,h3,q0⟩
    have tt:=t1.trans t2;refine k σ H2 _ ⟨t2.st.write h3 q0 ⟨_,aY,rs.set (r1.mono t2.stp.s0) p⟩,tt.stp.trans (Stp.write ow) fun b z=>.inl (tt.own b z),fun b z=>.inl (tt.own b (k8 h3 z)),rfl⟩
  ·cases e
 ·cases e
theorem Cm(h:tDS (Dm.whD t body n) D σ H):yV (tDT t) (tDS body) D σ H:=by
 refine⟨fun m σ H=>tDS (Dm.whD t body m) D σ H,⟨n,h⟩,?_⟩;rintro m σ H ⟨H0,ρ,o,st,e,k⟩;cases m with
 |zero=>unfold Dm.whD at e;cases e
 |succ m=>
  unfold Dm.whD at e;split at e
  ·cases e
  ·rename_i ρ1 e1;cases e;refine⟨H0,ρ,false,ρ1,st,e1,fun H1 Hb t1=>?_⟩;dsimp only;rw[if_neg Nh];exact k σ H1 Hb t1.sst
  ·rename_i ρ1 e1;refine⟨H0,ρ,true,ρ1,st,e1,fun H1 Hb t1=>?_⟩;dsimp only;rw[if_pos rfl];refine⟨fun σ' H'=>tDS (Dm.whD t body m) D σ' H',fun σ' H' q=>⟨m,Nat.lt_succ_self m,q⟩,?_⟩;have k1:=k.pre t1.sst;split at e
   ·rename_i ρ2 e2;exact⟨H1,ρ1,_,t1.st,e2,fun σ' H0' H' t2=>⟨H0',ρ2,o,t2.st,e,k1.pre t2⟩⟩
   ·rename_i ρ2 e2;exact⟨H1,ρ1,_,t1.st,e2,fun σ' H0' H' t2=>⟨H0',ρ2,o,t2.st,e,k1.pre t2⟩⟩
   ·rename_i ρ2 e2;cases e;exact⟨H1,ρ1,_,t1.st,e2,k1⟩
   ·rename_i v ρ2 e2;cases e;exact⟨H1,ρ1,_,t1.st,e2,k1⟩
   ·cases e
def JW(J:It)(H00:Hp)(ys:List Dat):Prop:=∀H0 H,aF H00 H0->aF H0 H->(∀i,ys.length<=i->J.stop i H) /\
 ∀(i:Nat) (d:Dat),ys[i]?=some d->J.go i H/\∀x H',J.yld i H x H'->∃H0',aQ H0 H H0' H'/\Rep H0' x d
def tDI(fi:Dm.FI):TI:=fun σ H R=>∃H0 ρ ys ρ',aJ H0 H σ ρ/\fi ρ=some (ys,ρ')/\∀J H0' H',ESt σ ρ H0 H ρ' H0' H'->JW J H0' ys->R J H'
theorem Jc(hb:BD is g bd)(h:tDS (Dm.bB fi bd body) D σ H):Iq (tDI fi) g (tDS body) D σ H:=by
 obtain⟨H0,ρ,o,st,e,k⟩:=h;unfold Dm.bB at e;split at e
 ·cases e
 rename_i ys ρ1 e1;refine⟨H0,ρ,ys,ρ1,st,e1,fun J H00 Hb t1 jw=>?_⟩;refine ⟨fun i m σ H=>∃ H0 ρ o,aJ H0 H σ ρ∧aF H00 H0∧m=ys.length-i∧i≤ys.length∧Dm.dG bd body (ys.drop i) ρ=some o∧mH D σ ρ H0 H o,
  ⟨ys.length,H00,ρ1,o,t1.st,aF.refl _,by simp,Nc _,by simpa using e,k.pre t1.sst⟩,?_⟩
 rintro i m σ H ⟨H0,ρ,o,st,s00,rfl,hi,e,k⟩;obtain⟨js,jg⟩:=jw H0 H s00 st.same;by_cases L8:i<ys.length
 ·have hd:ys[i]?=some ys[i]:=by simp[L8]
  obtain⟨g1,g2⟩:=jg i ys[i] hd;rw[NY L8]at e;unfold Dm.dG at e;refine .inr ⟨g1,fun σ' H'=>∃H0 ρ o,aJ H0 H' σ' ρ/\aF H00 H0/\Dm.dG bd body (ys.drop (i+1)) ρ=some o/\mH D σ' ρ H0 H' o,?_,fun x H' y=>?_⟩
  ·rintro σ' H' ⟨H0',ρ',o',h1,h2,h3,h4⟩;exact⟨ys.length-(i+1),by lia,H0',ρ',o',h1,h2,rfl,L8,h3,h4⟩
  ·obtain⟨H0',gr,rx⟩:=g2 x H' y;split at e
   ·cases e
   ·rename_i ρ2 e2;have t2:=ESt.grow st gr;refine hb H0' H' σ ρ ρ2 x ys[i] _ t2.st rx e2 fun σ2 st2 o2 _ _ f2=>?_;have t3:SSt σ ρ H0 H σ2 ρ2 H0' H':=⟨st2,t2.stp,fun a z=>.inl (o2 a z),f2⟩
    have k3:=k.pre t3;have s3:aF H00 H0':=s00.trans gr.s0;split at e
    ·rename_i ρ3 e3;exact⟨H0',ρ2,_,st2,e3,fun σ4 H4 Hd t4=>⟨H4,ρ3,o,t4.st,s3.trans t4.stp.s0,e,k3.pre t4⟩⟩
    ·rename_i ρ3 e3;exact⟨H0',ρ2,_,st2,e3,fun σ4 H4 Hd t4=>⟨H4,ρ3,o,t4.st,s3.trans t4.stp.s0,e,k3.pre t4⟩⟩
    ·rename_i ρ3 e3;cases e;exact⟨H0',ρ2,_,st2,e3,k3⟩
    ·rename_i v ρ3 e3;cases e;exact⟨H0',ρ2,_,st2,e3,k3⟩
    ·cases e
 ·have e':i=ys.length:=by lia
  subst e';rw[Pj]at e;cases e;exact .inl ⟨js _ (MO _),k σ H0 H (.refl st)⟩
theorem Cn{K:Mv}(hq:Rd H0 a (.lst xs))(rs:bg H0 xs ds):JW (Itl K a) H0 ds:=by intro H0' H s0 s1;have q:SqL K H a xs:=.inl (aF.rd s1 (aF.rd s0 hq));refine⟨fun i hi=>⟨xs,q,by rw[rs.length];exact hi⟩,fun i d e=>?_⟩;obtain⟨v,hv,rv⟩:=rs.get e;refine⟨⟨xs,v,q,hv⟩,fun x H' y=>?_⟩;obtain⟨e1,y⟩:=y;subst e1;have z:=y xs q;rw[hv]at z;cases z;exact⟨H0',aQ.refl s1,rv.mono s0⟩
theorem F_{K:Mv}(hq:H0 a=some (.tup xs))(rs:bg H0 xs ds):JW (Itt K a) H0 ds:=by intro H0' H s0 s1;have q:SqT K H a xs:=.inl (.inl (s1 _ _ (s0 _ _ hq)));refine⟨fun i hi=>⟨xs,q,by rw[rs.length];exact hi⟩,fun i d e=>?_⟩;obtain⟨v,hv,rv⟩:=rs.get e;refine⟨⟨xs,v,q,hv⟩,fun x H' y=>?_⟩;obtain⟨e1,y⟩:=y;subst e1;have z:=y xs q;rw[hv]at z;cases z;exact⟨H0',aQ.refl s1,rv.mono s0⟩
theorem rQ{lo:Int}:JW (Itr lo n) H0 (Dm.ups lo n):=by
 intro H0' H s0 s1;have el:(Dm.ups lo n).length=n:=by simp[Dm.ups]
 refine⟨fun i hi=>by rw[el]at hi;exact hi,fun i d e=>?_⟩;have hi:i<n:=by have:=(MT.mp e).1;rw[el]at this;exact this
 have hd:d=.int (lo+i):=by unfold Dm.ups at e;rw[M0,Oc hi]at e;exact(Option.some.inj e).symm
 refine⟨hi,fun x H' y=>?_⟩;obtain⟨rfl,rfl⟩:=y;subst hd;exact⟨H0',aQ.refl s1,.int _⟩
variable{R:It->Hp->Prop}
theorem Lv{K:Mv}(h:tDI (Dm.iL f) σ H R):rJ K (tD f) σ H R:=by
 obtain⟨H0,ρ,ys,ρ',st,e,k⟩:=h;unfold Dm.iL at e;split at e
 ·cases e
 rename_i x ρ1 e1;split at e
 ·rename_i ds ρ2 e2;cases e;refine⟨H0,ρ,_,ρ1,st,e1,fun v H0' H' t r=>?_⟩;obtain⟨H1,t1,b1,r1,_,_⟩:=take1 t (aF.refl _) r e2;cases r1 with
  |lst q rs=>exact⟨_,rfl,⟨_,.inl (aF.rd t1.st.same q)⟩,k _ H1 H' t1 (Cn q rs)⟩
 ·cases e
theorem Lw{K:Mv}(h:tDI (Dm.iT f) σ H R):yX K (tD f) σ H R:=by
 obtain⟨H0,ρ,ys,ρ',st,e,k⟩:=h;unfold Dm.iT at e;split at e
 ·cases e
 rename_i x ρ1 e1;split at e
 ·rename_i ds ρ2 e2;cases e;refine⟨H0,ρ,_,ρ1,st,e1,fun v H0' H' t r=>?_⟩;obtain⟨H1,t1,b1,r1,_,_⟩:=take1 t (aF.refl _) r e2;cases r1 with
  |tup q rs=>exact⟨_,rfl,⟨_,.inl (.inl (t1.st.same _ _ q))⟩,k _ H1 H' t1 (F_ q rs)⟩
 ·cases e
theorem Jd(h:tDI (Dm.iR1 f) σ H R):Ef (tDA [f]) σ H R:=by
 obtain⟨H0,ρ,ys,ρ',st,e,k⟩:=h;unfold Dm.iR1 at e;split at e
 ·rename_i j ρ1 e1;split at e
  ·rename_i hb;cases e;refine⟨H0,ρ,[.val (.int j)],_,st,by unfold Dm.eAs;rw[e1];rfl,fun vs H0' H' t r=>?_⟩;cases r with
   |cons r rr=>cases rr;cases Rep.isInt r;have h1:=hb.1;have h2:=hb.2;unfold Dm.BIG at h1 h2;exact⟨j,rfl,by lia,by lia,k _ H0' H' t rQ⟩
  ·cases e
 ·cases e
theorem Je{f g:FE}(h:tDI (Dm.iR2 f g) σ H R):Eg (tDA [f,g]) σ H R:=by
 obtain⟨H0,ρ,ys,ρ',st,e,k⟩:=h;unfold Dm.iR2 at e;split at e
 ·rename_i i ρ1 e1;split at e
  ·rename_i j ρ2 e2;split at e
   ·rename_i hb;cases e;refine⟨H0,ρ,[.val (.int i),.val (.int j)],_,st,by unfold Dm.eAs;rw[e1];dsimp only;unfold Dm.eAs;rw[e2];rfl,fun vs H0' H' t r=>?_⟩;cases r with
    |cons r rr=>
     cases rr with
     |cons r' rr=>cases rr;cases Rep.isInt r;cases Rep.isInt r';obtain⟨h1,h2,h3,h4⟩:=hb;unfold Dm.BIG at h1 h2 h3 h4;exact⟨i,j,rfl,⟨by lia,by lia,by lia,by lia⟩,k _ H0' H' t rQ⟩
   ·cases e
  ·cases e
 ·cases e
def tLC(wi:TI)(own:Nat)(g:TG)(tt:TT)(te:TE):TE:=fun σ H Q=>wi σ H fun J H1=>∀D,H1 D=none->∃W:Nat->Nat->St->Hp->Prop,
 (∃m,W 0 m (σ++gc own none) (upd H1 D (.lst [])))/\∀i m σ' H',W i m σ' H' ->
  (J.stop i H'∧Q (.ref D) H')∨(J.go i H'∧∀ x H2,J.yld i H' x H2→g x σ' H2 fun σ2 H3=>tt σ2 H3 fun b H4=>if b=true
   then te σ2 H4 fun y H5=>∃qN,H5 D=some (.lst qN)/\qN.length<sizeLine/\∃m',m'<m/\W (i+1) m' σ2 (upd H5 D (.lst (qN++[y])))
   else ∃m',m'<m/\W (i+1) m' σ2 H4)
theorem aJ.aside{H0 H:Hp}{σ:St}(st:aJ H0 H σ ρ)(n0:H0 a=none)(no:¬aG σ ρ a):aJ H0 (upd H a o) σ ρ where
 same:=fun b u z=>by rw[ay (aZ z n0)];exact st.same _ _ z
 len:=st.len
 sh:=st.sh
 ow:=fun j d h=>by obtain⟨b,q,n,w⟩:=st.ow j d h;have nb:b≠a:=fun y=>no ⟨j,d,h,y▸q⟩;exact⟨b,q,n,w.mono (aF.refl _) (ay nb)⟩
 dis:=st.dis
theorem aJ.rR{H0 H:Hp}{σ:St}(st:aJ H0 H σ ρ)(h:H a=none):¬aG σ ρ a:=fun⟨i,d,h1,h2⟩=>by obtain⟨b,q,n,w⟩:=st.ow i d h1;rw[h2]at q;cases q;obtain⟨o,z⟩:=w.some;rw[h]at z;cases z
theorem jW{α:Type}{l:List α}{r:List α}{x:α}(h:(l++r)[i]?=some x)(n:x∉r):i<l.length/\l[i]?=some x:=by
 by_cases hi:i<l.length
 ·rw[MU hi]at h;exact⟨hi,h⟩
 ·rw[M5 (OL.mp hi)]at h;exact absurd (NX h) n
theorem zv:Dm.Cell.sh d∉gc k Dm.Cell.un:=fun h=>by have:=Ot h;cases this
theorem jX:Dm.Cell.ow d∉gc k Dm.Cell.un:=fun h=>by have:=Ot h;cases this
theorem aJ.ext{H0 H:Hp}{σ:St}(st:aJ H0 H σ ρ)(k:Nat):aJ H0 H (σ++gc k none) (ρ++gc k .un) where
 same:=st.same
 len:=by simp[st.len]
 sh:=fun i d h=>by obtain⟨hi,h⟩:=jW h zv;obtain⟨v,q,r⟩:=st.sh i d h;exact⟨v,by rw[MU (by rw[st.len];exact hi)];exact q,r⟩
 ow:=fun i d h=>by obtain⟨hi,h⟩:=jW h jX;obtain⟨v,q,r⟩:=st.ow i d h;exact⟨v,by rw[MU (by rw[st.len];exact hi)];exact q,r⟩
 dis:=fun i j d e a h1 h2 h3 h4=>by obtain⟨hi,h1⟩:=jW h1 jX;obtain⟨hj,h2⟩:=jW h2 jX;rw[MU (by rw[st.len];exact hi)]at h3;rw[MU (by rw[st.len];exact hj)]at h4;exact st.dis i j d e a h1 h2 h3 h4
theorem pU{H0 H:Hp}{σ:St}(st:aJ H0 H σ ρ)(h:aG (σ++gc k none) (ρ++gc k .un) a):aG σ ρ a:=by obtain⟨i,d,h1,h2⟩:=h;obtain⟨hi,h1⟩:=jW h1 jX;rw[MU (by rw[st.len];exact hi)]at h2;exact⟨i,d,h1,h2⟩
theorem Stp.aside{O:Addr->Prop}{H0 H H0' H':Hp}{D:Addr}(t:Stp O H0 H H0' H')(hD:H D=none):Stp O H0 H H0' (upd H' D o):=
 ⟨t.s0,fun a u e n=>by rw[ay (aZ e hD)];exact t.s1 a u e n,t.s2,fun a u e=>by rw[ay (aZ e hD)];exact t.s3 a u e⟩
theorem ESt.k9{σ:St}{ρ ρ':Dm.Env}{H0 H H0' H':Hp}(t:ESt σ ρ H0 H ρ' H0' H'){D:Addr}(h:H D=some o)(n0:H0 D=none)(no:¬aG σ ρ D):H' D=some o/\H0' D=none/\¬aG σ ρ' D:=by
 refine⟨t.stp.s1 D o h no,?_,fun z=>no (t.own D z)⟩;cases q:H0' D with
 |none=>rfl
 |some u=>
  rcases t.stp.s2 D u q with z | z | z
  ·rw[h]at z;cases z
  ·rw[n0]at z;cases z
  ·exact absurd z no
def JWa(J:It)(H00:Hp)(pa:Option (Addr×HO))(ys:List Dat):Prop:=∀H0 H,aF H00 H0->aF H0 H->(∀q,pa=some q->H q.1=some q.2)->(∀i,ys.length<=i->J.stop i H) /\
 ∀(i:Nat) (d:Dat),ys[i]?=some d->J.go i H/\∀x H',J.yld i H x H'->∃H0',aQ H0 H H0' H'/\Rep H0' x d
theorem rS{σ:St}{own:Nat}{t:FT}{el:FE}{Q:VK}{H00 Hb:Hp}{ρ1 ρ2:Dm.Env}{ds ys:List Dat}{J:It}{pa:Option (Addr×HO)}(hb:BD is g bd)(hl:∀i∈is,σ.length<=i)
  (st1:aJ H00 Hb σ ρ1) (hp:∀q,pa=some q->Hb q.1=some q.2/\H00 q.1=none/\¬aG σ ρ1 q.1) (jw:JWa J H00 pa ds) (hsz:ds.length<=Dm.SZ) (e2:Dm.cZ bd t el ds (ρ1++gc own .un) []=some (ys,ρ2))
  (k:∀v H0' H',ESt σ ρ1 H00 Hb (ρ2.take ρ1.length) H0' H'->iH Hb H0' H' σ (ρ2.take ρ1.length) v (.new (.lst ys))->(∀q,pa=some q->H' q.1=some q.2/\H0' q.1=none)->Q v H') (D:Addr) (hD:Hb D=none) :
  ∃W:Nat->Nat->St->Hp->Prop,(∃m,W 0 m (σ++gc own none) (upd Hb D (.lst [])))/\∀i m σ' H',W i m σ' H' ->
  (J.stop i H'∧Q (.ref D) H')∨(J.go i H'∧∀ x H2,J.yld i H' x H2→g x σ' H2 fun σ2 H3=>tDT t σ2 H3 fun b H4=>if b=true
   then tD el σ2 H4 fun y H5=>∃qN,H5 D=some (.lst qN)/\qN.length<sizeLine/\∃m',m'<m/\W (i+1) m' σ2 (upd H5 D (.lst (qN++[y])))
   else ∃m',m'<m/\W (i+1) m' σ2 H4):=by
 have hpD:∀q,pa=some q->q.1≠D:=fun q e z=>by have:=(hp q e).1;rw[z,hD]at this;cases this
 have noD:¬aG σ ρ1 D:=st1.rR hD;refine ⟨fun i m σ' H'=>∃ (H0c:Hp) (ρc:Dm.Env) (xS:List Dat) (uK:List V),aJ H0c H' σ' ρc∧aF H00 H0c∧m=ds.length-i∧i≤ds.length∧Dm.cZ bd t el (ds.drop i) ρc xS=some (ys,ρ2) ∧
  H' D=some (.lst uK)/\bg H0c uK xS/\H0c D=none/\xS.length<=i/\Stp (aG σ ρ1) H00 Hb H0c H'/\(∀j,j<σ.length->σ'[j]?=σ[j]?)/\(∀a,aG σ' ρc a->aG σ ρ1 a)/\(∀j,Def ρ1 j->Def ρc j)/\(∀q,pa=some q->H' q.1=some q.2/\H0c q.1=none/\¬aG σ' ρc q.1),
  ⟨ds.length,H00,ρ1++gc own .un,[],[],(st1.aside (st1.same.free hD) noD).ext own,aF.refl _,by simp,Nc _,by simpa using e2,aY,.nil,st1.same.free hD,Nc _,(Stp.refl _ _ _).aside hD,
   fun j hj=>MU hj,fun a z=>pU st1 z,fun j z=>trivial,fun q e=>⟨by rw[ay (hpD q e)];exact(hp q e).1,(hp q e).2.1,fun z=>(hp q e).2.2 (pU st1 z)⟩⟩,?_⟩
 rintro i m σ' H' ⟨H0c,ρc,xS,uK,sc,s00,rfl,hi,ec,hDl,ra,n0,hal,sp,hσ,ho,hdf,hpc⟩;have nOc:¬aG σ' ρc D:=fun z=>noD (ho D z);obtain⟨js,jg⟩:=jw H0c H' s00 sc.same fun q e=>(hpc q e).1;by_cases L8:i<ds.length
 ·have hd:ds[i]?=some ds[i]:=by simp[L8]
  obtain⟨g1,g2⟩:=jg i ds[i] hd;rw[NY L8]at ec;unfold Dm.cZ at ec;refine .inr ⟨g1,fun y H2 yy=>?_⟩;obtain⟨H0',gr,rx⟩:=g2 y H2 yy;split at ec
  ·cases ec
  rename_i ρ3 e3;have t2:=ESt.grow sc gr;obtain⟨hD2,n02,no2⟩:=t2.k9 hDl n0 nOc;have hp2:=fun q e=>t2.k9 (hpc q e).1 (hpc q e).2.1 (hpc q e).2.2;refine hb H0' H2 σ' ρc ρ3 y ds[i] _ t2.st rx e3 fun σ3 st3 o3 k3 d3 _=>?_;have no3:¬aG σ3 ρ3 D:=fun z=>no2 (o3 D z);have po3:∀q,pa=some q->¬aG σ3 ρ3 q.1:=fun q e z=>(hp2 q e).2.2 (o3 q.1 z);have hσ3:∀j,j<σ.length->σ3[j]?=σ[j]?:=fun j hj=>(k3 j fun z=>OL.mpr (hl j z) hj).trans (hσ j hj);have ho3:∀a,aG σ3 ρ3 a->aG σ ρ1 a:=fun a z=>ho a (o3 a z);have Jf:∀j,Def ρ1 j->Def ρ3 j:=fun j z=>d3 j (hdf j z);have sp3:Stp (aG σ ρ1) H00 Hb H0' H2:=sp.trans t2.stp fun a z=>.inl (ho a z);have ra3:=ra.mono gr.s0;have s3:aF H00 H0':=s00.trans gr.s0;split at ec
  ·cases ec
  ·rename_i ρ4 e4;refine⟨H0',ρ3,false,ρ4,st3,e4,fun qD H'' t4=>?_⟩;dsimp only;rw[if_neg Nh];obtain⟨hD4,n04,no4⟩:=t4.k9 hD2 n02 no3;have hp4:=fun q e=>t4.k9 (hp2 q e).1 (hp2 q e).2.1 (po3 q e);exact⟨ds.length-(i+1),by lia,qD,ρ4,xS,uK,t4.st,s3.trans t4.stp.s0,rfl,L8,ec,hD4,ra3.mono t4.stp.s0,n04,Nat.le_succ_of_le hal,sp3.trans t4.stp fun a z=>.inl (ho3 a z),hσ3,fun a z=>ho3 a (t4.own a z),fun j z=>t4.dfn j (Jf j z),hp4⟩
  ·rename_i ρ4 e4;refine⟨H0',ρ3,true,ρ4,st3,e4,fun qD H'' t4=>?_⟩;dsimp only;rw[if_pos rfl];obtain⟨hD4,n04,no4⟩:=t4.k9 hD2 n02 no3;have hp4:=fun q e=>t4.k9 (hp2 q e).1 (hp2 q e).2.1 (po3 q e);split at ec
   ·cases ec
   rename_i x5 ρ5 e5;split at ec
   ·cases ec
   rename_i y6 ρ6 e6;refine⟨qD,ρ4,x5,ρ5,t4.st,e5,fun v H5 Hc t5 r5=>?_⟩;obtain⟨H6,t6,b6,r6,_,_⟩:=take1 t5 (aF.refl _) r5 e6;obtain⟨hD6,n06,no6⟩:=t6.k9 hD4 n04 no4;have hp6:=fun q e=>t6.k9 (hp4 q e).1 (hp4 q e).2.1 (hp4 q e).2.2;refine⟨uK,hD6,?_,ds.length-(i+1),by lia,H6,ρ6,xS++[y6],uK++[v],t6.st.aside n06 no6,(s3.trans t4.stp.s0).trans t6.stp.s0,rfl,L8,ec,aY,?_,n06,?_,?_,hσ3,fun a z=>ho3 a (t4.own a (t6.own a z)),fun j z=>t6.dfn j (t4.dfn j (Jf j z)),fun q e=>⟨by rw[ay (hpD q e)];exact(hp6 q e).1,(hp6 q e).2.1,(hp6 q e).2.2⟩⟩
   ·rw[ra.length];unfold Dm.SZ at hsz;exact OW (M6 hal (M6 (Ol L8) hsz)) (by decide)
   ·exact((ra3.mono t4.stp.s0).mono t6.stp.s0).append (.cons r6 .nil)
   ·rw[MA,OC];lia
   ·exact((sp3.trans t4.stp fun a z=>.inl (ho3 a z)).trans t6.stp fun a z=>.inl (ho3 a (t4.own a z))).aside hD
 ·have e':i=ds.length:=by lia
  subst e';rw[Pj]at ec;cases ec;refine .inl ⟨js _ (MO _),k _ H0c H' ?_ ?_ fun q e=>⟨(hpc q e).1,(hpc q e).2.1⟩⟩
  ·have Dh:σ.length<=ρ2.length:=by
    rw[<- sc.len];refine OL.mp fun z=>?_;have q:=hσ σ'.length z;rw[NN (MO _),M7 z]at q;cases q
   have tk:∀{j:Nat} {c:Dm.Cell},(ρ2.take ρ1.length)[j]?=some c->j<σ.length/\ρ2[j]?=some c:=fun {j c} h=>by
    have hj:j<ρ1.length:=by
     have:=(MT.mp h).1;rw[NJ]at this
     lia
    rw[Oo hj]at h;exact⟨by rw[st1.len];exact hj,h⟩
   have own':∀a,aG σ (ρ2.take ρ1.length) a->aG σ' ρ2 a:=fun a ⟨j,d,h1,h2⟩=>by obtain⟨hj,h1⟩:=tk h1;exact⟨j,d,h1,(hσ j hj).trans h2⟩
   refine⟨⟨sc.same,?_,fun j d h=>?_,fun j d h=>?_,fun j j' d d' a h1 h2 h3 h4=>?_⟩,sp,fun a z=>ho a (own' a z),fun j z=>?_⟩
   ·rw[NJ,<- st1.len];lia
   ·obtain⟨hj,h⟩:=tk h;obtain⟨v,q,r⟩:=sc.sh j d h;exact⟨v,(hσ j hj).symm.trans q,r⟩
   ·obtain⟨hj,h⟩:=tk h;obtain⟨v,q,r⟩:=sc.ow j d h;exact⟨v,(hσ j hj).symm.trans q,r⟩
   ·obtain⟨hj,h1⟩:=tk h1;obtain⟨hj',h2⟩:=tk h2;exact sc.dis j j' d d' a h1 h2 ((hσ j hj).trans h3) ((hσ j' hj').trans h4)
   ·trivial
  ·refine⟨D,rfl,hD,fun⟨j,d,h1,h2⟩=>?_,n0,uK,hDl,ra⟩;have hj:j<ρ1.length:=by
    have:=(MT.mp h1).1;rw[NJ]at this
    lia
   rw[Oo hj]at h1;exact nOc ⟨j,d,h1,(hσ j (by rw[st1.len];exact hj)).trans h2⟩
theorem uL{own:Nat}{el:FE}(hb:BD is g bd)(hl:∀i∈is,σ.length<=i)(h:tD (Dm.cP fi own bd t el) σ H Q) :
  tLC (tDI fi) own g (tDT t) (tD el) σ H Q:=by
 obtain⟨H0,ρ,x,ρ',st,e,k⟩:=h;unfold Dm.cP at e;split at e
 ·cases e
 rename_i ds ρ1 e1;split at e
 case isFalse=>cases e
 rename_i hsz;split at e
 ·cases e
 rename_i ys ρ2 e2;cases e;refine⟨H0,ρ,ds,ρ1,st,e1,fun J H00 Hb t1 jw D hD=>rS (pa:=none) hb hl t1.st (fun q e=>by cases e) (fun H0 H s0 s1 _=>jw H0 H s0 s1) hsz e2 (fun v H0' H' t2 r2 _=>k v H0' H' (t1.trans t2) (r2.early fun a n=>t1.stp.gone n)) D hD⟩
theorem kH{n m:Nat}{H:Hp}(h:spD (Dm.fn n m body) vs H Q E):vs.length=n:=by
 obtain⟨H0,ds,z,s,rs,e,k⟩:=h;unfold Dm.fn at e;split at e
 ·rename_i hl;rw[rs.length];exact hl
 ·cases e
theorem zw{N:List Str}{n m:Nat}(hm:N.length=n+m)(h:spD (Dm.fn n m body) vs H Q E) :
  tDS body { nx:=fun _ H'=>Q .non H',rt:=Q } (start N vs) H:=by
 have hvn:=kH h;obtain⟨H0,ds,z,s,rs,e,k⟩:=h;have hl:=rs.length;have no:∀a,¬aG (start N vs) (ds.map Dm.Cell.sh++gc m .un) a:=fun a ⟨i,d,h1,_⟩=>by
  by_cases hi:i<ds.length
  ·rw[MU (by simpa using hi),M0]at h1;cases q:ds[i]? with
   |none=>rw[q]at h1;cases h1
   |some y=>rw[q]at h1;cases h1
  ·rw[M5 (by simpa using hi),Nj]at h1;split at h1<;>cases h1
 have st:aJ H0 H (start N vs) (ds.map Dm.Cell.sh++gc m .un):=by
  refine⟨s,?_,fun i d h=>?_,fun i d h=>?_,fun i j d e a h1 h2 _ _=>?_⟩
  ·unfold L2.start;simp only[MA,MP,N7]
   lia
  ·have hi:i<ds.length:=by
    by_cases hi:i<ds.length
    ·exact hi
    ·rw[M5 (by simpa using hi),Nj]at h;split at h<;>cases h
   rw[MU (by simpa using hi),M0]at h;cases q:ds[i]? with
   |none=>rw[q]at h;cases h
   |some y=>rw[q]at h;cases h;obtain⟨v,hv,r⟩:=rs.get q;refine⟨v,?_,r⟩;unfold L2.start;rw[MU (by simpa [hl] using hi),M0,hv];rfl
  ·by_cases hi:i<ds.length
   ·rw[MU (by simpa using hi),M0]at h;cases q:ds[i]? with
    |none=>rw[q]at h;cases h
    |some y=>rw[q]at h;cases h
   ·rw[M5 (by simpa using hi),Nj]at h;split at h<;>cases h
  ·by_cases hi:i<ds.length
   ·rw[MU (by simpa using hi),M0]at h1;cases q:ds[i]? with
    |none=>rw[q]at h1;cases h1
    |some y=>rw[q]at h1;cases h1
   ·rw[M5 (by simpa using hi),Nj]at h1;split at h1<;>cases h1
 have gr:∀{H0' H'},Stp (aG (start N vs) (ds.map Dm.Cell.sh++gc m .un)) H0 H H0' H'->aF H0' H'->aQ H0 H H0' H':=fun {H0' H'} t ss=>⟨t.s0,fun a o e=>t.s1 a o e (no a),fun a o e=>(t.s2 a o e).imp id fun q=>q.elim id fun z=>absurd z (no a),ss⟩
 unfold Dm.fn at e;rw[if_pos (by rw[<- hl];exact hvn)]at e;split at e
 ·rename_i r ρ' e1;cases e;refine⟨H0,_,_,st,e1,fun σ' v H0' H' t r _=>k v H0' H' (gr t.stp t.st.same) ?_⟩;cases z with
  |val d=>exact r
  |new d=>obtain⟨a,e,n,n0,w⟩:=r;exact⟨a,e,n.elim id fun z=>absurd z (no a),n0,w⟩
 ·rename_i ρ' e1;cases e;exact⟨H0,_,_,st,e1,fun σ' H0' H' t=>k _ H0' H' (gr t.stp t.st.same) .non⟩
 ·cases e
end
end
open PySem PySem.Spec PyProof.Rows L2
noncomputable def bZ(X:Cx)(nm:List Str)(scope:Scope)(own:List Str)(cl:List (Str×Addr))(C:Addr)(s:Shared)(H:Hp)(fp:List Addr):Cx where
 prog:=X.prog
 w:=X.w
 K:=X.K
 mg:=X.mg
 base:=X.base
 A:=X.A
 N:=nm++own
 s₀:=s
 H₀:=H
 env:=compEnvC scope cl C X.env
 outer:=X.stack
 stack:=X.stack
 ex:=fp
 fn:=fun _=>false
 calm:=X.calm
 pn:=[]
 xe:=fun _ _=>False
def PTs(X:Cx)(LW:List Expr)(t:TT):Prop:=
 ∀(eU:List (Addr×Obj)) (s:Shared) (σ:L2.St) (H:Hp) (Q:Bool->Hp->Prop),Inv X eU σ H s->t σ H Q ->
  wpAny (model X.prog X.w) X.A (forIn LW true fun c r=>if r=true then do let ok <- isTrue c X.env (eval c X.env);pure (NG ok) else pure (NG r)) (TP X eU σ Q) X.xe s
def Lx:TT:=fun _ H Q=>Q true H
theorem Co{X:Cx}:PTs X [] Lx:=fun eU s σ H Q I h=>wpAny_tests_nil ⟨H,I,h⟩
theorem Cp{X:Cx}{c:Expr}{t:TT}(h:PT X c t):PTs X [c] t:=fun eU s σ H Q I hq=>wpAny_tests_one (h eU s σ H Q I hq)
theorem fO(env:Env):∀(names:List (Str×NameKind)) (cs:List (Str×Addr)),(∀y∈names,y.2=.free->∃c,env.cells.lookup y.1=some c) ->
  ∃cl,(forIn names cs fun(x:Str×NameKind) (r:List (Str×Addr))=>(if (x.2 == NameKind.free)=true then do let c <- cellOf env x.1;pure (NG ((x.1,c)::r)) else pure (NG r):Sem (ForInStep (List (Str×Addr)))))=pure cl /\
   (∀x c,cl.lookup x=some c->env.cells.lookup x=some c\/cs.lookup x=some c)/\(∀y∈names,y.2=.free->∃c,cl.lookup y.1=some c)/\(∀x c,cs.lookup x=some c->∃c',cl.lookup x=some c')
 |[],cs,_=>⟨cs,rfl,fun _ _ h=>.inr h,fun _ h=>(nomatch h),fun _ c h=>⟨c,h⟩⟩
 |(n,k)::r,cs,h=>by
  have hr:∀y∈r,y.2=.free->∃c,env.cells.lookup y.1=some c:=fun y hy=>h y (MK _ hy);by_cases hk:k=.free
  ·subst hk;obtain⟨c,hc⟩:=h (n,.free) MM rfl;obtain⟨cl,e,h1,h2,h3⟩:=fO env r ((n,c)::cs) hr;refine⟨cl,?_,fun x c' q=>?_,fun y hy hf=>?_,fun x c' q=>?_⟩
   ·rw[OM];have e1:cellOf env n=pure c:=by unfold cellOf;rw[hc]
    simp only[beq_self_eq_true,if_true,e1,pure_bind];exact e
   ·rcases h1 x c' q with z | z
    ·exact .inl z
    ·rw[Nn]at z;cases hx:x == n with
     |true=>
      rw[hx]at z;have:x=n:=by simpa using hx
      subst this;injection z with z
      subst z;exact .inl hc
     |false=>rw[hx]at z;exact .inr z
   ·rcases MV.mp hy with rfl | hy
    ·exact h3 n c (by rw[Nn,beq_self_eq_true])
    ·exact h2 y hy hf
   ·by_cases hx:x=n
    ·subst hx;exact h3 x c (by rw[Nn,beq_self_eq_true])
    ·have hx':(x == n)=false:=by simpa using hx
     exact h3 x c' (by rw[Nn,hx'];exact q)
  ·have hb:(k == NameKind.free)=false:=by simpa using hk
   obtain⟨cl,e,h1,h2,h3⟩:=fO env r cs hr;refine⟨cl,?_,h1,fun y hy hf=>?_,h3⟩
   ·rw[OM];simp only[hb,OX,if_false,pure_bind];exact e
   ·rcases MV.mp hy with rfl | hy
    ·exact absurd hf hk
    ·exact h2 y hy hf
theorem mK{env:Env}{scope:Scope}(h:∀y∈scope.names,y.2=.free->∃c,env.cells.lookup y.1=some c) :
  ∃cl,closureFor scope env=pure cl/\(∀x c,cl.lookup x=some c->env.cells.lookup x=some c)/\∀y∈scope.names,y.2=.free->∃c,cl.lookup y.1=some c:=by
 obtain⟨cl,e,h1,h2,_⟩:=fO env scope.names [] h;refine⟨cl,?_,fun x c q=>(h1 x c q).elim id fun z=>by simp at z,h2⟩;unfold closureFor;have e':(forIn scope.names ([]:List (Str×Addr)) fun(x:Str×NameKind) (r:List (Str×Addr))=>(if (x.2 == NameKind.free)=true then do let c <- cellOf env x.1;pure (NG ((x.1,c)::r)) else pure (NG r):Sem (ForInStep (List (Str×Addr)))))=pure cl:=e
 first
  |(rw[show (forIn scope.names ([]:List (Str×Addr)) _:Sem (List (Str×Addr)))=pure cl from e'];rfl)
  |(simp only[e'];rfl)
theorem qE{prog:Program}{w:World}{A:Around}{R:Result->Shared->Prop}{s:Shared}{LV target iter:Expr}{LW:List Expr}{scope:Scope}{pos:Pos}{it qN:Value}{env:Env}(I:Nat->Shared->Prop)
  (turn:∀ n s,I n s→wpAny (model prog w) A (pyNext it) (fun r s₁=>match r with
   |none=>R (.ok .next) s₁
   | some v=>wpAny (model prog w) A (letOwnedTupleGo target it v) (fun _ s₁'=>wpAny (model prog w) A (assign target env v) (fun _ s₂=>
     wpAny (model prog w) A (forIn LW true fun c r=>if r=true then do let ok ← isTrue c env (eval c env);pure (NG ok) else pure (NG r)) (fun ok s₃=>
      if ok=true then wpAny (model prog w) A (eval LV env) (fun x s₄=>wpAny (model prog w) A (call (.builtin "list.append") [qN,x]) (fun _ s₅=>∃m,m<n/\I m s₅) (fun _ _=>False) s₄) (fun _ _=>False) s₃
      else ∃m,m<n/\I m s₃) (fun _ _=>False) s₂) (fun _ _=>False) s₁') (fun _ _=>False) s₁) (fun _ _=>False) s)
  (n:Nat) (h:I n s) :
  codeAny (model prog w) A (.compLoop (.ListComp LV [⟨target,iter,LW,0⟩] scope pos) 0 it qN env) R s:=by
 have no:∀{P:Value->Shared->Prop} (x:Value) (s':Shared),False->P x s':=fun _ _ f=>f.elim;refine codeAny_loop rfl I (fun n s hI=>?_) n h;show wpAny _ A ((compTurn (.ListComp LV [⟨target,iter,LW,0⟩] scope pos) 0 it qN env).onRaise (fun x=>do noteFrame x env;theTreesLotGoes x)) _ _ s;refine wpAny_noted ?_;rw[compTurn_list];refine wpAny_bind (wpAny_standAt (wpAny_bind (wpAny_mono (turn n s hI) (fun r s₁ h₁=>?_) no)));cases r with
 |none=>exact wpAny_pure h₁
 |some v=>
  refine wpAny_bind (wpAny_mono h₁ (fun _ s₁' h₁'=>?_) no);refine wpAny_bind (wpAny_mono h₁' (fun _ s₂ h₂=>wpAny_bind (wpAny_mono h₂ (fun ok s₃ h₃=>?_) no)) no);cases ok with
  |false=>exact wpAny_pure ⟨rfl,h₃⟩
  |true=>exact wpAny_bind (wpAny_bind (wpAny_mono h₃ (fun x s₄ h₄=>wpAny_bind (wpAny_mono h₄ (fun _ s₅ h₅=>wpAny_pure (wpAny_pure ⟨rfl,h₅⟩)) no)) no))
theorem eH(env:Env):∀(names:List (Str×NameKind)) (x:Str) (k:NameKind),
  (names.map fun(n,k)=>if (k == NameKind.free&&env.scope.kind == .function&&env.kindOf n == some .cell) then (n,PF) else (n,k)).lookup x=some k ->
  ∃k0,names.lookup x=some k0/\(k=k0\/(k0=.free/\k=.cell))
 |[],x,k,h=>by simp at h
 |(n,k1)::r,x,k,h=>by
  have h:List.lookup x ((if (k1 == NameKind.free&&env.scope.kind == .function&&env.kindOf n == some .cell)=true then (n,PF) else (n,k1))::r.map fun(n,k)=>if (k == NameKind.free&&env.scope.kind == .function&&env.kindOf n == some .cell) then (n,PF) else (n,k))=some k:=h;cases hx:x == n with
  |true=>
   by_cases hc:(k1 == NameKind.free&&env.scope.kind == .function&&env.kindOf n == some .cell)=true
   ·rw[if_pos hc,Nn,hx]at h;injection h with h
    have hk:k1=.free:=by simp only[MY,beq_iff_eq]at hc;exact hc.1.1
    exact⟨k1,by rw[Nn,hx],.inr ⟨hk,h.symm⟩⟩
   ·rw[if_neg hc,Nn,hx]at h;injection h with h
    exact⟨k1,by rw[Nn,hx],.inl h.symm⟩
  |false=>
   by_cases hc:(k1 == NameKind.free&&env.scope.kind == .function&&env.kindOf n == some .cell)=true
   ·rw[if_pos hc,Nn,hx]at h;obtain⟨k0,e,z⟩:=eH env r x k h;exact⟨k0,by rw[Nn,hx];exact e,z⟩
   ·rw[if_neg hc,Nn,hx]at h;obtain⟨k0,e,z⟩:=eH env r x k h;exact⟨k0,by rw[Nn,hx];exact e,z⟩
structure fm(X:Cx)(nm:List Str)(scope:Scope):Prop where
 kind:scope.kind=.function
 cell:∀y∈scope.names,y.2≠.cell
 names:∀y∈scope.names,y.2=.local->scope.names.lookup y.1=some .local
 free:∀y∈scope.names,y.2=.free->X.env.kindOf y.1=some .cell\/X.env.kindOf y.1=some .free
 apart:∀x∈nm,scope.names.lookup x≠some .local
 len:nm.length=X.N.length
 mask:∀(i:Nat) (x:Str),nm[i]?=some x->X.N[i]?=some x\/scope.names.lookup x=none
section
variable{X:Cx}{nm:List Str}{LV tg iter:Expr}{LW:List Expr}{scope:Scope}{pos:Pos}{own:List Str}{wi:TI}{g:TG}{tt:TT}{te:TE}
theorem pV{eU:List (Addr×Obj)}{s2:Shared}{σ:L2.St}{H2:Hp}{cl:List (Str×Addr)}{it:Addr}{fp:List Addr}{tn:Nat->Heap->Prop}{J:It}{Q:VK}{E:Value->Shared->Prop}{RR:Value->Addr->Result->Shared->Prop}
  (hc:X.calm=true) (S:fm X nm scope) (mL:∀x c,cl.lookup x=some c->X.env.cells.lookup x=some c) (xT:∀y∈scope.names,y.2=.free->∃c,cl.lookup y.1=some c)
  (hg:∀cl C s H fp,PG (bZ X nm scope own cl C s H fp) tg g) (ht:∀cl C s H fp,PTs (bZ X nm scope own cl C s H fp) LW tt) (he:∀cl C s H fp,PE (bZ X nm scope own cl C s H fp) LV te)
  (I2:Inv X eU σ H2 s2) (T:Turn X.prog X.w X.K tg J fp it tn) (st2:tn 0 s2.heap) (f2:∀b∈fp,pB X eU H2 b)
  (hR:∀ D,H2 D=none→∃ W:Nat→Nat→L2.St→Hp→Prop,
   (∃m,W 0 m (σ++gc own.length none) (upd H2 D (.lst [])))/\∀i m σ' H',W i m σ' H' ->
    (J.stop i H'∧Q (.ref D) H')∨(J.go i H'∧∀ x H2,J.yld i H' x H2→g x σ' H2 fun σ2 H3=>tt σ2 H3 fun b H4=>if b=true
     then te σ2 H4 fun y H5=>∃qN,H5 D=some (.lst qN)/\qN.length<sizeLine/\∃m',m'<m/\W (i+1) m' σ2 (upd H5 D (.lst (qN++[y])))
     else ∃m',m'<m/\W (i+1) m' σ2 H4))
  (Ly:∀D C H6 s6,Inv X eU σ H6 s6->H6 C=none->C≠X.env.locals->X.s₀.heap.objs.size<=C->(∀x c,X.env.cells.lookup x=some c->c≠C)->(∀p∈X.pn++eU,p.1≠C)->(∃m,s6.heap.Ns C m)->Q (.ref D) H6->RR (.ref D) C (.ok .next) s6) :
  wpAny (model X.prog X.w) X.A (newList []) (fun qN s₃=>wpAny (model X.prog X.w) X.A (newFunctionEnv scope X.env.globals cl [] X.env.qual none .none (some X.env)) (fun cenv s₄=>codeAny (model X.prog X.w) X.A (.compStart (.ListComp LV [⟨tg,iter,LW,0⟩] scope pos) 0 (.ref it) qN { cenv with scope:=relabel scope X.env }) (RR qN cenv.locals) s₄) E s₃) E s2:=by
 have no:∀{P:Value->Shared->Prop} (x:Value) (s':Shared),False->P x s':=fun _ _ f=>f.elim;refine wpAny_newObj_type (wpAny_newFunctionEnv S.cell (by intro y hy;simp at hy) (fun h₁ hns₁ hsb₁=>?_) S.kind);dsimp only at hns₁ hsb₁ ⊢;have I3:Inv X eU σ (upd H2 s2.heap.objs.size (.lst [])) { s2 with heap:=s2.heap.push { cls:=.type "list",dict:=none,data:=.seq ([]:List Value).toArray } }:=I2.FZ (t':=s2.toks) (ys:=[]) (its:=[]) .nil (Nc _)
 generalize hG2:s2.heap.push { cls:=.type "list",dict:=none,data:=.seq ([]:List Value).toArray }=G2 at hns₁ hsb₁ I3 ⊢
 have hC:G2.objs.size=s2.heap.objs.size+1:=by rw[<- hG2,PB]
 have up2:∀b o,s2.heap.get? b=some o->G2.get? b=some o:=fun b o e=>hG2▸MR _ e;have up3:∀b o,G2.get? b=some o->h₁.get? b=some o:=fun b o e=>hsb₁.extBut b o (Nb (MS e)) (MR _ e);have Lz:G2.get? G2.objs.size=none:=Heap.get?_none_of_le (MO _);have fpo:∀b∈fp,∃o,s2.heap.get? b=some o:=fun b hb=>by obtain⟨o,e,_⟩:=T.obj 0 _ st2 b hb;exact⟨o,e⟩
 have fpC:∀b∈fp,b≠G2.objs.size:=fun b hb=>by obtain⟨o,e⟩:=fpo b hb;exact Nb (MS (up2 b o e))
 have H3C:(upd H2 s2.heap.objs.size (.lst [])) G2.objs.size=none:=I3.hok.fresh (MO _);have fpD:∀b∈fp,b≠s2.heap.objs.size:=fun b hb=>by obtain⟨o,e⟩:=fpo b hb;exact Nb (MS e)
 have Jg:∀b∈fp,b∉frs X.stack:=fun b hb z=>by
  rcases MV.mp (I3.mC b z) with y | y
  ·exact(f2 b hb).2.1 y
  ·exact(f2 b hb).2.2.1 y
 have ok':(bZ X nm scope own cl G2.objs.size { s2 with heap:=G2 } (upd H2 s2.heap.objs.size (.lst [])) fp).Ok:=by
  refine ⟨I3.ok.mod,S.kind,I3.ok.glob,I3.ok.blt,MO _,fun x y c e1 e2=>I3.ok.inj x y c (mL x c e1) (mL y c e2),fun x hx=>?_,fun x c z=>(nomatch z),I3.ok.hd,I3.ok.frames,.inl rfl,
   fun b hb=>⟨fpC b hb,fun x c e=>(f2 b hb).2.2.2.2.1 x c (mL x c e)⟩,fun b o e=>I3.bs b o e,M6 I3.ok.bsz I3.sz,fun b o e hb=>?_,fun b hb=>Jg b hb,I3.stack,I3.qm⟩
  ·have hx:(relabel scope X.env).names.lookup x=some .cell\/(relabel scope X.env).names.lookup x=some .free:=hx;have key:∀k,(relabel scope X.env).names.lookup x=some k->k≠.local->k=.cell\/k=.free->∃c,cl.lookup x=some c:=fun k hk _ hkk=>by
    obtain⟨k0,e0,z⟩:=eH X.env scope.names x k hk;have m0:=PySem.mem_of_lookup e0;have f0:k0=.free:=by
     rcases z with z | z
     ·subst z;rcases hkk with q | q
      ·exact absurd q (S.cell _ m0)
      ·exact q
     ·exact z.1
    exact xT (x,k0) m0 f0
   rcases hx with hx | hx
   ·exact key _ hx (by decide) (.inl rfl)
   ·exact key _ hx (by decide) (.inr rfl)
  ·rcases (f2 b hb).2.2.2.1 with z | z
   ·exact I3.ok.yO b o e z
   ·exact absurd (MZ (MS e) (M6 I3.ok.bsz z)) (Nz _)
 have stat:∀{H':Hp},(∀b∈fp,H' b=none)->∀b∈fp,pB (bZ X nm scope own cl G2.objs.size { s2 with heap:=G2 } (upd H2 s2.heap.objs.size (.lst [])) fp) [] H' b:=fun hn b hb=>⟨hn b hb,fpC b hb,Jg b hb,.inl hb,fun x c e=>(f2 b hb).2.2.2.2.1 x c (mL x c e),fun p hp=>(nomatch (show p∈([]:List (Addr×Obj)) from hp))⟩
 have I4:Inv (bZ X nm scope own cl G2.objs.size { s2 with heap:=G2 } (upd H2 s2.heap.objs.size (.lst [])) fp) [] (σ++gc own.length none) (upd H2 s2.heap.objs.size (.lst [])) { s2 with heap:=h₁,toks:=s2.toks+([]:List (Str×Value)).length }:=by
  refine⟨ok',rfl,I3.bare,Un.kept up3,⟨_,hns₁,fun i x v e1 e2 e3=>?_⟩,fun x c e=>?_,H3C,fun x c e=>I3.eO x c (mL x c e),fun p hp=>(nomatch (show p∈([]:List (Addr×Obj)) from hp)),I3.hok.kept up3,?_⟩
  ·have e1:(nm++own)[i]?=some x:=e1;have hi:i<σ.length:=by
    by_cases hi:i<σ.length
    ·exact hi
    ·rw[M5 (OL.mp hi),Nj]at e2;split at e2<;>cases e2
   rw[MU hi]at e2;rw[MU (by rw[S.len,<- I3.len];exact hi)]at e1;have key:∀k,(relabel scope X.env).names.lookup x=some k->k=.local\/k=.cell\/k=.free->scope.names.lookup x=some .free/\(k=.cell\/k=.free):=fun k hk hkk=>by
    obtain⟨k0,e0,z⟩:=eH X.env scope.names x k hk;have m0:=PySem.mem_of_lookup e0;have n1:k0≠.local:=fun y=>S.apart x (NX e1) (y▸e0);have n2:k0≠.cell:=S.cell _ m0;rcases z with z | z
    ·subst z;rcases hkk with q | q | q
     ·exact absurd q n1
     ·exact absurd q n2
     ·subst q;exact⟨e0,.inr rfl⟩
    ·obtain⟨z1,z2⟩:=z;subst z1;subst z2;exact⟨e0,.inl rfl⟩
   have hk:∃k,(relabel scope X.env).names.lookup x=some k/\(k=.cell\/k=.free)/\scope.names.lookup x=some .free:=by
    rcases (show (relabel scope X.env).names.lookup x=some .local\/(relabel scope X.env).names.lookup x=some .cell\/(relabel scope X.env).names.lookup x=some .free from e3) with q | q | q
    ·obtain⟨a,b⟩:=key _ q (.inl rfl);exact⟨_,q,b,a⟩
    ·obtain⟨a,b⟩:=key _ q (.inr (.inl rfl));exact⟨_,q,b,a⟩
    ·obtain⟨a,b⟩:=key _ q (.inr (.inr rfl));exact⟨_,q,b,a⟩
   obtain⟨k,hk1,hk2,hk3⟩:=hk;have m0:=PySem.mem_of_lookup hk3;obtain⟨c,hcc⟩:=xT (x,.free) m0 rfl;obtain⟨m,hn,hl⟩:=I3.loc;have hout:=S.free (x,.free) m0 rfl;have LA:Vis X.env.scope x:=by
    rcases hout with q | q
    ·exact .inr (.inl q)
    ·exact .inr (.inr q)
   have e1':X.N[i]?=some x:=by
    rcases S.mask i x e1 with z | z
    ·exact z
    ·rw[z]at hk3;cases hk3
   obtain⟨u,ru,lk⟩:=hl i x v e1' e2 LA;refine⟨u,ru,.inr ⟨?_,c,hcc,?_⟩⟩
   ·rcases hk2 with q | q
    ·subst q;exact .inl hk1
    ·subst q;exact .inr hk1
   ·rcases lk with⟨q,_⟩ | ⟨_,c',e',z⟩
    ·rcases hout with y | y
     ·rw[q]at y;cases y
     ·rw[q]at y;cases y
    ·rw[mL x c hcc]at e';cases e';obtain⟨o,ho,hd⟩:=z;exact⟨o,up3 c o ho,hd⟩
  ·obtain⟨v,o,ho,hd⟩:=I3.cell x c (mL x c e);exact⟨v,o,up3 c o ho,hd⟩
  ·show (σ++gc own.length none).length=(nm++own).length;rw[MA,MA,N7,I3.len,S.len]
 obtain⟨W,⟨m0,w0⟩,turn⟩:=hR s2.heap.objs.size I2.fresh;have st4:tn 0 h₁:=T.keep 0 _ _ st2 fun b hb o e=>up3 b o (up2 b o e);have LB:∀b∈fp,(upd H2 s2.heap.objs.size (.lst [])) b=none:=fun b hb=>by rw[ay (fpD b hb)];exact(f2 b hb).1
 have loop:∀s₃:Shared,s₃={ s2 with heap:=h₁,toks:=s2.toks+([]:List (Str×Value)).length } ->
   codeAny (model X.prog X.w) X.A (.compLoop (.ListComp LV [⟨tg,iter,LW,0⟩] scope pos) 0 (.ref it) (.ref s2.heap.objs.size) (compEnvC scope cl G2.objs.size X.env))
    (RR (.ref s2.heap.objs.size) G2.objs.size) s₃:=by
  rintro s₃ rfl;refine qE (fun n s'=>∃i σ' H',Inv (bZ X nm scope own cl G2.objs.size { s2 with heap:=G2 } (upd H2 s2.heap.objs.size (.lst [])) fp) [] σ' H' s'/\tn i s'.heap/\(∀b∈fp,H' b=none)/\W i n σ' H') ?_ m0
   ⟨0,_,_,I4,st4,LB,w0⟩
  rintro n s5 ⟨i,σ5,H5,I5,st5,fr5,w5⟩;rcases turn i n σ5 H5 w5 with⟨stop,q⟩ | ⟨go,step⟩
  ·refine wpAny_mono (T.done (bZ X nm scope own cl G2.objs.size { s2 with heap:=G2 } (upd H2 s2.heap.objs.size (.lst [])) fp) rfl rfl rfl hc i [] s5 σ5 H5 (fun _ _=>False) I5 (stat fr5) st5 stop) (fun r s6 hr6=>?_) no;obtain⟨hr,I6⟩:=hr6;subst hr;have I7:Inv X eU σ H5 s6:=I3.Ii (ch:=fp) I6.os I6.base I6.hok I6.bare fun b hb=>⟨(f2 b hb).2.2.2.1,(f2 b hb).2.1,(f2 b hb).2.2.2.2.1,(f2 b hb).2.2.2.2.2⟩;refine Ly _ _ H5 s6 I7 I6.free (NZ (show X.env.locals<G2.objs.size from I3.lt)) I3.sz (fun x c e=>?_) (fun p hp=>?_) (let ⟨m,hn,_⟩:=I6.loc;⟨m,hn⟩) q
   ·obtain⟨v,z⟩:=I3.cell x c e;exact Nb z.lt
   ·exact Nb (MS (I3.pin p hp).1)
  ·refine wpAny_mono (T.item (bZ X nm scope own cl G2.objs.size { s2 with heap:=G2 } (upd H2 s2.heap.objs.size (.lst [])) fp) rfl rfl rfl hc i [] s5 σ5 H5 (fun _ _=>False) I5 (stat fr5) st5 go) (fun r s6 hr6=>?_) no;obtain⟨u,hr,h6⟩:=hr6;subst hr;refine wpAny_mono h6 (fun _ s7 h7=>?_) no;obtain⟨x,H7,I7,r7,y7,st7,fr7⟩:=h7;have I7':=I7.pinned (stat fr7) (T.obj _ _ st7);have again:∀{s9:Shared} {σ9:L2.St} {H9:Hp} {m':Nat},m'<n->Inv (bZ X nm scope own cl G2.objs.size { s2 with heap:=G2 } (upd H2 s2.heap.objs.size (.lst [])) fp) ([]++mF fp s7.heap) σ9 H9 s9->W (i+1) m' σ9 H9 ->
     ∃m,m<n/\∃i σ' H',Inv (bZ X nm scope own cl G2.objs.size { s2 with heap:=G2 } (upd H2 s2.heap.objs.size (.lst [])) fp) [] σ' H' s9/\tn i s9.heap/\(∀b∈fp,H' b=none)/\W i m σ' H':=fun {s9 σ9 H9 m'} hm I9 w9=>by
    refine⟨m',hm,i+1,σ9,H9,I9.jS,T.keep _ _ _ st7 fun b hb o e=>(I9.pin (b,o) (Nm _ (Nm _ (f_ hb e)))).1,fun b hb=>?_,w9⟩;obtain⟨o,e,d⟩:=T.obj _ _ st7 b hb;exact(I9.pin (b,o) (Nm _ (Nm _ (f_ hb e)))).2.1
   refine wpAny_mono (hg cl G2.objs.size _ _ fp _ s7 σ5 H7 x u _ I7' r7 (step x H7 y7)) (fun _ s8 h8=>?_) no;obtain⟨σ8,H8,I8,q8⟩:=h8;refine wpAny_mono (ht cl G2.objs.size _ _ fp _ s8 σ8 H8 _ I8 q8) (fun b s9 h9=>?_) no;obtain⟨H9,I9,q9⟩:=h9;cases b with
   |false=>rw[if_neg Nh]at q9 ⊢;obtain⟨m',hm,w9⟩:=q9;exact again hm I9 w9
   |true=>rw[if_pos rfl]at q9 ⊢;refine wpAny_mono (he cl G2.objs.size _ _ fp _ s9 σ8 H9 _ I9 q9) (fun y s10 h10=>?_) no;obtain⟨yv,H10,I10,r10,qN,hacc,Dh,m',hm,w10⟩:=h10;refine wpAny_mono (pR (X:=bZ X nm scope own cl G2.objs.size { s2 with heap:=G2 } (upd H2 s2.heap.objs.size (.lst [])) fp) _ s10 σ8 H10 (.ref s2.heap.objs.size) [yv] (.ref s2.heap.objs.size) [y] (fun _ H'=>H'=upd H10 s2.heap.objs.size (.lst (qN++[yv]))) I10 rfl (.cons r10 .nil) ⟨_,qN,yv,rfl,rfl,hacc,Dh,rfl⟩) (fun _ s11 h11=>?_) no;obtain⟨_,H11,I11,_,e11⟩:=h11;subst e11;exact again hm I11 w10
 exact codeAny_compStart_list (loop _ rfl) (T.self _ 0 _ _ _ st4 (loop _ rfl))
theorem vQ(hc:X.calm=true)(S:fm X nm scope)(hi:PI X tg iter wi)
  (hg:∀cl C s H fp,PG (bZ X nm scope own cl C s H fp) tg g) (ht:∀cl C s H fp,PTs (bZ X nm scope own cl C s H fp) LW tt) (he:∀cl C s H fp,PE (bZ X nm scope own cl C s H fp) LV te)
  (hs:∀x,foldedSetIterable iter X.env x=pure x:=by intro _;rfl):PE X (.ListComp LV [⟨tg,iter,LW,0⟩] scope pos) (tLC wi own.length g tt te):=by
 intro eU s σ H Q I h;obtain⟨cl,hclos,mL,xT⟩:=mK (env:=X.env) (scope:=scope) fun y hy hf=>I.ok.has y.1 (S.free y hy hf);rw[eval_ListComp];refine wpAny_comprehension_free (use:=none) rfl hs hclos S.kind S.names (thn (hi eU s σ H _ I h) fun v s1 h1=>thn h1 fun itv s2 h2=>?_);obtain⟨it,fp,tn,J,H2,e,I2,T,st2,f2,hR⟩:=h2;subst e;refine pV (Q:=Q) (RR:=fun qN C=>compPost (model X.prog X.w) X.A X.xe none (EP X eU σ Q) qN C) hc S mL xT hg ht he I2 T st2 f2 hR ?_;intro D C H6 s6 I6 hCn hCL hCs hCc hCp hns q;obtain⟨m,hn⟩:=hns;refine⟨m,hn,fun h' hs'=>⟨.ref D,H6,I6.turned (t':=s6.toks) (fun b o hb e=>(hs'.2 b hb).trans e) hCn hCL (.inr hCs) hCc hCp,rfl,q⟩⟩
theorem k_{i:Nat}{y:Str}{py Ru:Pos}(hN:X.N.Nodup)(hi':X.N[i]?=some y)(hy:Loc X.env.scope y)(hc:X.calm=true)(S:fm X nm scope)(hi:PI X tg iter wi)
  (hg:∀cl C s H fp,PG (bZ X nm scope own cl C s H fp) tg g) (ht:∀cl C s H fp,PTs (bZ X nm scope own cl C s H fp) LW tt) (he:∀cl C s H fp,PE (bZ X nm scope own cl C s H fp) LV te)
  (hsw:swapsWith (.ListComp LV [⟨tg,iter,LW,0⟩] scope pos) (some (.Name y py)) Ru.line X.env=pure true:=by rfl)
  (hs:∀x,foldedSetIterable iter X.env x=pure x:=by intro _;rfl) (hf:X.fn y=true\/X.env.scope.names.lookup y=some .local:=by trivial) :
  PS X (.Assign [.Name y py] (.ListComp LV [⟨tg,iter,LW,0⟩] scope pos) Ru) (xy (tLC wi own.length g tt te) (mE i)):=by
 intro eU s σ H Dn I h;obtain⟨cl,hclos,mL,xT⟩:=mK (env:=X.env) (scope:=scope) fun y hy hf=>I.ok.has y.1 (S.free y hy hf);rw[exec_Assign_Name_used _ _ _ _ hsw];refine wpAny_bind (wpAny_standAt (wpAny_bind ?_));show wpAny _ X.A (do let _ <- comprehension (.ListComp LV [⟨tg,iter,LW,0⟩] scope pos) scope X.env _ (newList []) false (eval iter X.env) (some (assign (.Name y py) X.env))) _ _ s;refine wpAny_bind (wpAny_mono (wpAny_comprehension_free (use:=some (assign (.Name y py) X.env)) (Q:=fun _ s'=>SP X eU Dn .next s') rfl hs hclos S.kind S.names
  (thn (hi eU s σ H _ I h) fun v s1 h1=>thn h1 fun itv s2 h2=>?_)) (fun _ s' hq=>wpAny_pure (wpAny_pure hq)) fun _ _ e=>e)
 obtain⟨it,fp,tn,J,H2,e,I2,T,st2,f2,hR⟩:=h2;subst e;refine pV (Q:=fun x H1=>mE i x σ H1 Dn.nx) (RR:=fun qN C=>compPost (model X.prog X.w) X.A X.xe (some (assign (.Name y py) X.env)) (fun _ s'=>SP X eU Dn .next s') qN C) hc S mL xT hg ht he I2 T st2 f2 hR ?_;intro D C H6 s6 I6 hCn hCL hCs hCc hCp hns q;obtain⟨m,hn⟩:=hns;show wpAny _ X.A (assign (.Name y py) X.env (.ref D)) _ _ _;refine wpAny_assign_Name (kB I6 hN hi' hy (v:=.ref D) rfl (fun s7 I7 h7=>?_) hf);obtain⟨a,sb,ha⟩:=h7;have hCa:C≠a:=by
  rcases ha with ha | ha
  ·rw[ha];exact hCL
  ·exact Nt (hCc y a ha)
 refine⟨m,hn.sameBut sb hCa,fun h' hs'=>⟨_,H6,I7.turned (t':=s7.toks) (fun b o hb e=>(hs'.2 b hb).trans e) hCn hCL (.inr hCs) hCc hCp,q⟩⟩
end
mutual
noncomputable def toPy:Dat->PyData
 |.non=>.none
 |.bl b=>.bool b
 |.int i=>.int i
 |.str s=>.str ⟨s.toArray⟩
 |.tup xs=>.tuple (dB xs)
 |.lst xs=>.list (dB xs)
 |.dct _ _=>.dict []
 |.dcp _ _=>.dict []
 |.exc _=>.dict []
 |.dj _ _=>.dict []
 |.fn _=>.dict []
noncomputable def dB:List Dat->List PyData
 |[]=>[]
 |x::xs=>toPy x::dB xs
end
mutual
theorem jY:∀a b:Dat,ND (toPy a) (toPy b)=Dm.eqD a b
 |.non,b=>by cases b<;>simp[toPy,ND,Dm.eqD]
 |.bl x,b=>by cases b<;>simp[toPy,ND,Dm.eqD,Dm.b2i]
 |.int x,b=>by cases b<;>simp[toPy,ND,Dm.eqD,Dm.b2i]
 |.str x,b=>by
  cases b with
  |str y=>
   simp only[toPy,ND,Dm.eqD];rw[Oh];simp only[beq_iff_eq];constructor
   ·intro h;have h:=congrArg (fun s:Str=>s.cps.toList) h
    simpa using h
   ·rintro rfl;rfl
  |_=>simp[toPy,ND,Dm.eqD]
 |.tup xs,b=>by
  cases b with
  |tup ys=>simp only[toPy,ND,Dm.eqD];exact kI xs ys
  |_=>simp[toPy,ND,Dm.eqD]
 |.lst xs,b=>by
  cases b with
  |lst ys=>simp only[toPy,ND,Dm.eqD];exact kI xs ys
  |_=>simp[toPy,ND,Dm.eqD]
 |.dct ks vs,b=>by cases b<;>simp[toPy,ND,Dm.eqD]
 |.dcp ks vs,b=>by cases b<;>simp[toPy,ND,Dm.eqD]
 |.exc C,b=>by cases b<;>simp[toPy,ND,Dm.eqD]
 |.dj C v,b=>by cases b<;>simp[toPy,ND,Dm.eqD]
 |.fn C,b=>by cases b<;>simp[toPy,ND,Dm.eqD]
theorem kI:∀a b:List Dat,O5 (dB a) (dB b)=Dm.kE a b
 |[],b=>by cases b<;>simp[dB,O5,Dm.kE]
 |x::xs,b=>by
  cases b with
  |nil=>simp[dB,O5,Dm.kE]
  |cons y ys=>simp only[dB,O5,Dm.kE];rw[jY x y,kI xs ys]
end
theorem zx{s:List Nat}(h:(s.all fun c=>decide (c<128))=true):PyData.strOk ⟨s.toArray⟩=true:=by unfold PyData.strOk;rw[Array.all_eq_true'];intro c hc;have h1:=M3.mp h c (by simpa using hc);have h2:c<128:=of_decide_eq_true h1;exact decide_eq_true (by lia)
theorem dD{P:Program}{w:World}{H:Hp}{h:Heap}(ok:HOk P w H h):∀(n:Nat),
  (∀(v:V) (d:Dat) (u:Value),Rep H v d->RelV v u->Dm.okD n d=true->∃as,Reads h u (toPy d) as/\(toPy d).canLay0=true/\(toPy d).depth<=n) /\
  (∀(vs:List V) (ds:List Dat) (us:List Value),bg H vs ds->Vals vs us->ds.all (Dm.okD n)=true->∃as,ReadsAll h us (dB ds) as/\Pc (dB ds)=true/\NH (dB ds)<=n):=by
 intro n
 induction n with
 |zero=>
  have one:∀(v:V) (d:Dat) (u:Value),Rep H v d->RelV v u->Dm.okD 0 d=true->∃as,Reads h u (toPy d) as/\(toPy d).canLay0=true/\(toPy d).depth<=0:=by
   intro v d u r rv k;cases r with
   |non=>cases rv;exact⟨_,.none,rfl,MO _⟩
   |bl b=>cases rv;exact⟨_,.bool b,rfl,MO _⟩
   |int i=>obtain⟨t,rfl⟩:=rv;exact⟨_,.int i t,rfl,MO _⟩
   |str s=>obtain⟨t,rfl⟩:=rv;exact⟨_,.str _ t,zx k,MO _⟩
   |tup _ _=>cases k
   |lst _ _=>cases k
   |dct _ _ _=>cases k
   |dcp _ _ _=>cases k
   |exc _=>cases k
   |dj _ _=>cases k
   |fn _=>cases k
  refine⟨one,fun vs ds=>?_⟩
  induction ds generalizing vs with
  |nil=>intro us r rv _;cases r;cases rv;exact⟨_,.nil,rfl,MO _⟩
  |cons d ds ih=>
   intro us r rv k;cases r with
   |cons r rs=>
    cases rv with
    |cons q qs=>rw[O6,MY]at k;obtain⟨a1,h1,h2,h3⟩:=one _ _ _ r q k.1;obtain⟨a2,h4,h5,h6⟩:=ih _ _ rs qs k.2;exact⟨_,.cons h1 h4,by simp[dB,Pc,h2,h5],by simp only[dB,NH];lia⟩
 |succ n ih=>
  have one:∀(v:V) (d:Dat) (u:Value),Rep H v d->RelV v u->Dm.okD (n+1) d=true->∃as,Reads h u (toPy d) as/\(toPy d).canLay0=true/\(toPy d).depth<=n+1:=by
   intro v d u r rv k;cases r with
   |non=>cases rv;exact⟨_,.none,rfl,Nc _⟩
   |bl b=>cases rv;exact⟨_,.bool b,rfl,Nc _⟩
   |int i=>obtain⟨t,rfl⟩:=rv;exact⟨_,.int i t,rfl,Nc _⟩
   |str s=>obtain⟨t,rfl⟩:=rv;exact⟨_,.str _ t,zx k,Nc _⟩
   |tup q rs=>cases rv;obtain⟨z,its,vr,ob,e,hc,m,hd⟩:=ok _ _ q;obtain⟨as,h1,h2,h3⟩:=ih.2 _ _ _ rs vr k;exact⟨_,.tuple e hc hd h1,h2,by simp only[toPy,PyData.depth];lia⟩
   |lst q rs=>cases rv;obtain⟨z,its,m,vr,e⟩:=q.ok ok;obtain⟨as,h1,h2,h3⟩:=ih.2 _ _ _ rs vr k;exact⟨_,.list e rfl rfl h1,h2,by simp only[toPy,PyData.depth];lia⟩
   |dct _ _ _=>cases k
   |dcp _ _ _=>cases k
   |exc _=>cases k
   |dj _ _=>cases k
   |fn _=>cases k
  refine⟨one,fun vs ds=>?_⟩
  induction ds generalizing vs with
  |nil=>intro us r rv _;cases r;cases rv;exact⟨_,.nil,rfl,Nc _⟩
  |cons d ds ih=>
   intro us r rv k;cases r with
   |cons r rs=>
    cases rv with
    |cons q qs=>rw[O6,MY]at k;obtain⟨a1,h1,h2,h3⟩:=one _ _ _ r q k.1;obtain⟨a2,h4,h5,h6⟩:=ih _ _ rs qs k.2;exact⟨_,.cons h1 h4,by simp[dB,Pc,h2,h5],by simp only[dB,NH];lia⟩
theorem jV.full{H0 H:Hp}(s:aF H0 H){v:V}{d:Dat}(r:jV H0 H v d):Rep H v d:=by
 rcases r with r | ⟨a,rfl,w⟩
 ·exact r.mono s
 ·cases d with
  |lst ds=>obtain⟨xs,q,rs⟩:=w;exact .lst (.inl q) (rs.mono s)
  |dct ks ds=>obtain⟨kvs,q,e,rs⟩:=w;exact .dct q e (rs.mono s)
  |dcp ks ds=>obtain⟨kvs,q,e,rs⟩:=w;exact .dcp q (e.mono s) (rs.mono s)
  |_=>exact MX w
def Cq(neg:Bool):R2:=fun x y H Q=>∃dx dy,Rep H x dx/\Rep H y dy/\Dm.okD 8 dx=true/\Dm.okD 8 dy=true/\Q (.bl (if neg then !Dm.eqD dx dy else Dm.eqD dx dy)) H
section
variable{X:Cx}
section
variable{k:Nat}
theorem zy(hr:c_ k X.A):OpR X (compareOp .Eq) (Cq false):=by intro eU s σ H x y v u Q I rx ry h;obtain⟨dx,dy,r1,r2,k1,k2,q⟩:=h;obtain⟨as,h1,h2,h3⟩:=(dD I.hok 8).1 x dx v r1 rx k1;obtain⟨bs,h4,h5,h6⟩:=(dD I.hok 8).1 y dy u r2 ry k2;have hu:=hr.units;refine PySem.SeqAt.compareEq_reads h1 h4 h2 h5 (by lia) ?_;rw[jY];exact⟨.bl (Dm.eqD dx dy),H,I,rfl,q⟩
theorem Ga(hr:c_ k X.A):OpR X (compareOp .NotEq) (Cq true):=by intro eU s σ H x y v u Q I rx ry h;obtain⟨dx,dy,r1,r2,k1,k2,q⟩:=h;obtain⟨as,h1,h2,h3⟩:=(dD I.hok 8).1 x dx v r1 rx k1;obtain⟨bs,h4,h5,h6⟩:=(dD I.hok 8).1 y dy u r2 ry k2;have hu:=hr.units;refine PySem.SeqAt.compareNe_reads h1 h4 h2 h5 (by lia) ?_;rw[jY];exact⟨.bl (!Dm.eqD dx dy),H,I,rfl,q⟩
def Cr(neg:Bool):R2:=fun x y H Q=>∃dx ds,Rep H x dx/\(Rep H y (.lst ds)\/Rep H y (.tup ds))/\Dm.okD 8 dx=true/\ds.all (Dm.okD 7)=true/\Q (.bl (if neg then !Dm.inD dx ds else Dm.inD dx ds)) H
theorem gH(x:Dat):∀ds:List Dat,((dB ds).any fun y=>ND y (toPy x))=Dm.inD x ds
 |[]=>rfl
 |d::ds=>by have:=gH x ds;unfold Dm.inD at this ⊢;simp only[dB,List.any_cons,jY];rw[this]
theorem Gb(hr:c_ k X.A):OpR X (compareOp .In) (Cr false):=by
 intro eU s σ H x y v u Q I rx ry h;obtain⟨dx,ds,r1,r2,k1,k2,q⟩:=h;obtain⟨as,h1,h2,h3⟩:=(dD I.hok 8).1 x dx v r1 rx k1;have hu:=hr.units;rcases r2 with r2 | r2
 ·obtain⟨bs,h4,h5,h6⟩:=(dD I.hok 8).1 y (.lst ds) u r2 ry k2;have h6:NH (dB ds)+1<=8:=h6;refine PySem.SeqAt.in_list_reads h4 h1 h5 h2 (by lia) ?_;rw[gH];exact⟨.bl (Dm.inD dx ds),H,I,rfl,q⟩
 ·obtain⟨bs,h4,h5,h6⟩:=(dD I.hok 8).1 y (.tup ds) u r2 ry k2;have h6:NH (dB ds)+1<=8:=h6;refine PySem.SeqAt.in_tuple_reads h4 h1 h5 h2 (by lia) ?_;rw[gH];exact⟨.bl (Dm.inD dx ds),H,I,rfl,q⟩
theorem xU(hr:c_ k X.A):OpR X (compareOp .NotIn) (Cr true):=by
 intro eU s σ H x y v u Q I rx ry h;obtain⟨dx,ds,r1,r2,k1,k2,q⟩:=h;obtain⟨as,h1,h2,h3⟩:=(dD I.hok 8).1 x dx v r1 rx k1;have hu:=hr.units;rcases r2 with r2 | r2
 ·obtain⟨bs,h4,h5,h6⟩:=(dD I.hok 8).1 y (.lst ds) u r2 ry k2;have h6:NH (dB ds)+1<=8:=h6;refine PySem.SeqAt.notIn_list_reads h4 h1 h5 h2 (by lia) ?_;rw[gH];exact⟨.bl (!Dm.inD dx ds),H,I,rfl,q⟩
 ·obtain⟨bs,h4,h5,h6⟩:=(dD I.hok 8).1 y (.tup ds) u r2 ry k2;have h6:NH (dB ds)+1<=8:=h6;refine PySem.SeqAt.notIn_tuple_reads h4 h1 h5 h2 (by lia) ?_;rw[gH];exact⟨.bl (!Dm.inD dx ds),H,I,rfl,q⟩
end
end
section
variable{H0 H:Hp}{ds:List Dat}{v:V}
theorem aC{i:Int}(r:jV H0 H v (.int i)):v=.int i:=by
 rcases r with r | ⟨a,_,w⟩
 ·exact Rep.isInt r
 ·exact MX w
theorem Cs{b:Bool}(r:jV H0 H v (.bl b)):v=.bl b:=by
 rcases r with r | ⟨a,_,w⟩
 ·exact Rep.qz r
 ·exact MX w
theorem cR(s:aF H0 H)(r:jV H0 H v (.lst ds)):∃a xs,v=.ref a/\Rd H a (.lst xs)/\bg H0 xs ds:=by
 rcases r with r | ⟨a,e,xs,q,rs⟩
 ·cases r with
  |lst q rs=>exact⟨_,_,rfl,aF.rd s q,rs⟩
 ·exact⟨a,xs,e,.inl q,rs⟩
theorem mQ(s:aF H0 H)(r:jV H0 H v (.tup ds)):∃a xs,v=.ref a/\H a=some (.tup xs)/\bg H0 xs ds:=by
 rcases r with r | ⟨a,_,w⟩
 ·cases r with
  |tup q rs=>exact⟨_,_,rfl,s _ _ q,rs⟩
 ·exact MX w
theorem Gd:OpD (rI0 fun i j=>.int (i-j)) Dm.bD:=by
 intro H0 H x y dx dy z Q s rx ry e k;unfold Dm.bD at e;split at e
 ·cases e;cases aC rx;cases aC ry;exact⟨_,_,rfl,rfl,k _ H0 H (aQ.refl s) (.int _)⟩
 ·cases e
theorem En:OpD (rI0 fun i j=>.bl (decide (i<j))) Dm.gLt:=by
 intro H0 H x y dx dy z Q s rx ry e k;unfold Dm.gLt at e;split at e
 ·cases e;cases aC rx;cases aC ry;exact⟨_,_,rfl,rfl,k _ H0 H (aQ.refl s) (.bl _)⟩
 ·cases e
theorem jZ:OpD (rI0 fun i j=>.bl (decide (i<=j))) Dm.gLe:=by
 intro H0 H x y dx dy z Q s rx ry e k;unfold Dm.gLe at e;split at e
 ·cases e;cases aC rx;cases aC ry;exact⟨_,_,rfl,rfl,k _ H0 H (aQ.refl s) (.bl _)⟩
 ·cases e
theorem Jh:OpD (rI0 fun i j=>.bl (decide (j<i))) Dm.gGt:=by
 intro H0 H x y dx dy z Q s rx ry e k;unfold Dm.gGt at e;split at e
 ·cases e;cases aC rx;cases aC ry;exact⟨_,_,rfl,rfl,k _ H0 H (aQ.refl s) (.bl _)⟩
 ·cases e
theorem Ji:OpD (rI0 fun i j=>.bl (decide (j<=i))) Dm.gGe:=by
 intro H0 H x y dx dy z Q s rx ry e k;unfold Dm.gGe at e;split at e
 ·cases e;cases aC rx;cases aC ry;exact⟨_,_,rfl,rfl,k _ H0 H (aQ.refl s) (.bl _)⟩
 ·cases e
theorem Ge:OpD (rI (fun _ j=>0<j) fun i j=>.int (i % j)) Dm.aH:=by
 intro H0 H x y dx dy z Q s rx ry e k;unfold Dm.aH at e;split at e
 ·split at e
  ·rename_i hj;cases e;cases aC rx;cases aC ry;exact⟨_,_,rfl,rfl,hj,k _ H0 H (aQ.refl s) (.int _)⟩
  ·cases e
 ·cases e
theorem Gf:OpD (rI Iw fun i j=>.int (i ^ j.toNat)) Dm.bF:=by
 intro H0 H x y dx dy z Q s rx ry e k;unfold Dm.bF at e;split at e
 ·split at e
  ·rename_i hj;cases e;cases aC rx;cases aC ry;exact⟨_,_,rfl,rfl,⟨hj.1,hj.2.1,Nat.lt_trans hj.2.2 (by decide)⟩,k _ H0 H (aQ.refl s) (.int _)⟩
  ·cases e
 ·cases e
end
section
variable{X:Cx}
def Eo(i j:Int):Prop:=0<j/\j<Dm.fM
theorem zz:OpR X (binaryOp .FloorDiv) (rI Eo fun i j=>.int (i / j)):=opI fun i j _ _ _ _ _ hc q=>by
 have h:j.natAbs.log2<9000:=by
  have h1:j.natAbs<2 ^ 200:=by
   have:=hc.2;unfold Dm.fM at this;have h2:=hc.1;have e:(2:Nat) ^ 200=1606938044258990275541962092341162602522202993782792835301376:=by decide +kernel
   omega
  have h3:j.natAbs≠0:=by have:=hc.1;omega
  have:=(Px h3).mpr h1;omega
 have e:i.fdiv j=i / j:=Int.fdiv_eq_ediv_of_nonneg i (Int.le_of_lt hc.1);rw[<- e]at q;exact floordiv_int (Int.ne_of_gt hc.1) q (.inl (PyProof.noPylong_of_log2 h))
end
theorem Gg:OpD (rI Eo fun i j=>.int (i / j)) Dm.bC:=by
 intro H0 H x y dx dy z Q s rx ry e k;unfold Dm.bC at e;split at e
 ·split at e
  ·rename_i hj;cases e;cases aC rx;cases aC ry;exact⟨_,_,rfl,rfl,hj,k _ H0 H (aQ.refl s) (.int _)⟩
  ·cases e
 ·cases e
theorem Gh:UnD (rU fun i=>.int (-i)) Dm.bH:=by
 intro H0 H x dx z Q s rx e k;unfold Dm.bH at e;split at e
 ·cases e;cases aC rx;exact⟨_,rfl,k _ H0 H (aQ.refl s) (.int _)⟩
 ·cases e
def zA:R2:=fun x y H Q=>∃l b xs zs,x=.ref l/\y=.ref b/\Rd H l (.lst xs)/\Rd H b (.lst zs)/\xs.length+zs.length<=sizeLine/\∀p,H p=none->Q (.ref p) (upd H p (.lst (xs++zs)))
def zB:R2:=fun x y H Q=>∃l k xs,x=.ref l/\y=.int k/\Rd H l (.lst xs)/\-(2 ^ 63)<=k/\k<2 ^ 63/\xs.length*k.toNat<=sizeLine /\
 ∀p,H p=none->Q (.ref p) (upd H p (.lst (gc k.toNat xs).flatten))
section
variable{X:Cx}
theorem Ct:OpR X (binaryOp .Add) zA:=by
 intro eU s σ H x y v u Q I rx ry h;obtain⟨l,b,xs,zs,rfl,rfl,hH,hB,hz,q⟩:=h;cases rx;cases ry;obtain⟨z,its,n,r,e⟩:=hH.ok I.hok;obtain⟨z2,its2,n2,r2,e2⟩:=hB.ok I.hok;have hl:=r.length;have hl2:=r2.length;refine PySem.P.add_list e e2 ?_ (by rw[MW,MW];lia);have ea:its.toArray++its2.toArray=(its++its2).toArray:=by simp
 rw[ea];exact⟨.ref _,_,I.FZ (t':=s.toks) (r.append r2) (by rw[MA];lia),rfl,q _ I.fresh⟩
theorem Cu:OpR X (binaryOp .Mult) zB:=by
 intro eU s σ H x y v u Q I rx ry h;obtain⟨l,k,xs,rfl,rfl,hH,h1,h2,hz,q⟩:=h;cases rx;obtain⟨t,rfl⟩:=ry;obtain⟨z,its,n,r,e⟩:=hH.ok I.hok;have hl:=r.length;have Dh:its.toArray.size*k.toNat<=sizeLine:=by rw[MW,<- hl];exact hz
 have hcap:¬its.toArray.size*k.toNat>(2 ^ 63-1) / 8:=by
  have:(sizeLine:Nat)<=(2 ^ 63-1) / 8:=by decide
  lia
 have hfit:¬(!Builtin.List.listFitsIndex k)=true:=by rw[fitsIndex_both h1 h2];exact Nh
 have Jj:¬Oq (its.toArray.size*k.toNat)=true:=by rw[zh Dh];exact Nh
 have hnew:PN (fun x1 x2=>x1++x2) #[] (gc (if its.toArray.isEmpty=true then 0 else k.toNat) its.toArray)=(gc k.toNat its).flatten.toArray:=by
  have f0:∀m:Nat,PN (fun x1 x2=>x1++x2) #[] (gc m its.toArray)=(gc m its).flatten.toArray:=fun m=>by have:=foldl_rep its m [];rw[Mw]at this;exact this
  rw[f0];cases its with
  |nil=>simp
  |cons a r'=>rw[if_neg (by simp)]
 refine wpAny_binaryOp_repeat_ref (T := "list") (U := "int") (by decide) ⟨_,e,rfl⟩ (fun s'=>typeIs_int s' k t) noFill_list_mul F.fills_int_mul F.slot_int_rmul repeat_list F.slot_int_index.lookup
  (call_meets F.slot_int_rmul (typeIs_int s k t) F.entry_int_rmul (F.args_int_rmul_2 _ _) (int___rmul___int_list k t l its.toArray n)
   ⟨e,rfl,⟨_,e,rfl⟩,call_meets F.slot_list_mul ⟨_,e,rfl⟩ F.entry_list_mul (F.args_list_mul_2 _ _) (AutoListH.list___mul___list_int_3 l its.toArray n k t hfit hcap Jj) ⟨e,?_⟩⟩)
 rw[hnew];exact⟨.ref _,_,I.FZ (t':=s.toks) (r.rep k.toNat) (by rw[len_rep,Nat.mul_comm];exact hz),rfl,q _ I.fresh⟩
theorem Cv:OpR X (binaryOp .Add) (fun x y H Q=>rI0 (fun i j=>.int (i+j)) x y H Q\/zA x y H Q):=Fx.or Ct
theorem Cw:OpR X (binaryOp .Mult) (fun x y H Q=>rI yZ (fun i j=>.int (i*j)) x y H Q\/zB x y H Q):=Fz.or Cu
end
theorem Gi:OpD (fun x y H Q=>rI0 (fun i j=>.int (i+j)) x y H Q\/zA x y H Q) Dm.aL:=by
 intro H0 H x y dx dy z Q s rx ry e k;unfold Dm.aL at e;split at e
 ·cases e;cases aC rx;cases aC ry;exact .inl ⟨_,_,rfl,rfl,k _ H0 H (aQ.refl s) (.int _)⟩
 ·split at e
  ·rename_i hz;cases e;obtain⟨a,us,rfl,qa,ra⟩:=cR s rx;obtain⟨b,ws,rfl,qb,rb⟩:=cR s ry;refine .inr ⟨a,b,us,ws,rfl,rfl,qa,qb,by rw[ra.length,rb.length];exact dQ hz,fun p hp=>?_⟩;exact k _ _ _ (aQ.mG s hp) ⟨p,rfl,hp,s.free hp,_,aY,ra.append rb⟩
  ·cases e
 ·cases e
theorem Gj:OpD (fun x y H Q=>rI yZ (fun i j=>.int (i*j)) x y H Q\/zB x y H Q) Dm.br:=by
 intro H0 H x y dx dy z Q s rx ry e k;unfold Dm.br at e;split at e
 ·split at e
  ·rename_i hj;cases e;cases aC rx;cases aC ry;exact .inl ⟨_,_,rfl,rfl,hj,k _ H0 H (aQ.refl s) (.int _)⟩
  ·cases e
 ·split at e
  ·rename_i hz;cases e;cases aC ry;obtain⟨a,us,rfl,qa,ra⟩:=cR s rx;obtain⟨h1,h2,h3⟩:=hz;unfold Dm.BIG at h1 h2;refine .inr ⟨a,_,us,rfl,rfl,qa,by lia,by lia,by rw[ra.length];exact dQ h3,fun p hp=>?_⟩;exact k _ _ _ (aQ.mG s hp) ⟨p,rfl,hp,s.free hp,_,aY,ra.rep _⟩
  ·cases e
 ·cases e
theorem Ep:OpD (Cq false) Dm.gEq:=by
 intro H0 H x y dx dy z Q s rx ry e k;unfold Dm.gEq at e;split at e
 ·rename_i hk;rw[MY]at hk;cases e;exact⟨dx,dy,rx.full s,ry.full s,hk.1,hk.2,k _ H0 H (aQ.refl s) (.bl _)⟩
 ·cases e
theorem Jk:OpD (Cq true) Dm.gNe:=by
 intro H0 H x y dx dy z Q s rx ry e k;unfold Dm.gNe at e;split at e
 ·rename_i hk;rw[MY]at hk;cases e;exact⟨dx,dy,rx.full s,ry.full s,hk.1,hk.2,k _ H0 H (aQ.refl s) (.bl _)⟩
 ·cases e
theorem Jl:OpD (Cr false) Dm.gIn:=by
 intro H0 H x y dx dy z Q s rx ry e k;unfold Dm.gIn at e;split at e
 ·split at e
  ·rename_i hk;rw[MY]at hk;cases e;exact⟨dx,_,rx.full s,.inl (ry.full s),hk.1,hk.2,k _ H0 H (aQ.refl s) (.bl _)⟩
  ·cases e
 ·split at e
  ·rename_i hk;rw[MY]at hk;cases e;exact⟨dx,_,rx.full s,.inr (ry.full s),hk.1,hk.2,k _ H0 H (aQ.refl s) (.bl _)⟩
  ·cases e
 ·cases e
theorem zC:OpD (Cr true) Dm.kF:=by
 intro H0 H x y dx dy z Q s rx ry e k;unfold Dm.kF at e;split at e
 ·split at e
  ·rename_i hk;rw[MY]at hk;cases e;exact⟨dx,_,rx.full s,.inl (ry.full s),hk.1,hk.2,k _ H0 H (aQ.refl s) (.bl _)⟩
  ·cases e
 ·split at e
  ·rename_i hk;rw[MY]at hk;cases e;exact⟨dx,_,rx.full s,.inr (ry.full s),hk.1,hk.2,k _ H0 H (aQ.refl s) (.bl _)⟩
  ·cases e
 ·cases e
theorem vR{H0:Hp}{xs:List V}{ds:List Dat}{i:Int}{d:Dat}(rs:bg H0 xs ds)(e:Dm.atI ds i=some d):∃v,L2.atI xs i=some v/\Rep H0 v d:=by
 unfold Dm.atI at e;cases q:Dm.ixN ds.length i with
 |none=>rw[q]at e;cases e
 |some j=>rw[q]at e;obtain⟨v,hv,r⟩:=rs.get (i:=j) e;refine⟨v,?_,r⟩;unfold L2.atI;rw[rs.length];have q':L2.ixN ds.length i=some j:=q;rw[q'];exact hv
theorem Jm{K:Mv}:OpD (fun x y H Q=>ID K x y H Q\/IE K x y H Q) Dm.gIx:=by
 intro H0 H x y dx dy z Q s rx ry e k;unfold Dm.gIx at e;split at e
 ·rename_i ds i;cases q:Dm.atI ds i with
  |none=>rw[q]at e;cases e
  |some d=>rw[q]at e;cases e;cases aC ry;obtain⟨a,us,rfl,qa,ra⟩:=cR s rx;obtain⟨v,hv,rv⟩:=vR ra q;exact .inl ⟨a,us,i,v,rfl,rfl,.inl qa,hv,k _ H0 H (aQ.refl s) rv⟩
 ·rename_i ds i;cases q:Dm.atI ds i with
  |none=>rw[q]at e;cases e
  |some d=>rw[q]at e;cases e;cases aC ry;obtain⟨a,us,rfl,qa,ra⟩:=mQ s rx;obtain⟨v,hv,rv⟩:=vR ra q;exact .inr ⟨a,us,i,v,rfl,rfl,.inl (.inl qa),hv,k _ H0 H (aQ.refl s) rv⟩
 ·cases e
theorem Gk{K:Mv}:CallD (fun xs H Q=>∃p ys,xs=[.ref p]/\(SqL K H p ys\/SqT K H p ys)/\Q (.int ys.length) H) Dm.bq:=by
 intro H0 H vs ds z Q s rs e k;unfold Dm.bq at e;split at e
 ·cases e;cases rs with
  |cons r rr=>cases rr;obtain⟨a,us,rfl,qa,ra⟩:=cR s r;exact⟨a,us,rfl,.inl (.inl qa),k _ H0 H (aQ.refl s) (by rw[ra.length];exact .int _)⟩
 ·cases e;cases rs with
  |cons r rr=>cases rr;obtain⟨a,us,rfl,qa,ra⟩:=mQ s r;exact⟨a,us,rfl,.inr (.inl (.inl qa)),k _ H0 H (aQ.refl s) (by rw[ra.length];exact .int _)⟩
 ·cases e
theorem Cy:CallD (fun xs H Q=>∃i j,xs=[.int i,.int j]/\Q (.int (if j<i then j else i)) H) Dm.aX:=by
 intro H0 H vs ds z Q s rs e k;unfold Dm.aX at e;split at e
 ·cases e;cases rs with
  |cons r rr=>
   cases rr with
   |cons r' rr=>cases rr;cases aC r;cases aC r';exact⟨_,_,rfl,k _ H0 H (aQ.refl s) (.int _)⟩
 ·cases e
theorem Cz:CallD (fun xs H Q=>∃i j,xs=[.int i,.int j]/\Q (.int (if j>i then j else i)) H) Dm.a_:=by
 intro H0 H vs ds z Q s rs e k;unfold Dm.a_ at e;split at e
 ·cases e;cases rs with
  |cons r rr=>
   cases rr with
   |cons r' rr=>cases rr;cases aC r;cases aC r';exact⟨_,_,rfl,k _ H0 H (aQ.refl s) (.int _)⟩
 ·cases e
theorem CA{K:Mv}:CallD (fun xs H Q=>∃p ys,xs=[.ref p]/\(SqL K H p ys\/SqT K H p ys)/\∀l,H l=none->Q (.ref l) (upd H l (.lst ys))) Dm.bw:=by
 intro H0 H vs ds z Q s rs e k;unfold Dm.bw at e;split at e
 ·cases e;cases rs with
  |cons r rr=>cases rr;obtain⟨a,us,rfl,qa,ra⟩:=cR s r;exact⟨a,us,rfl,.inl (.inl qa),fun p hp=>k _ _ _ (aQ.mG s hp) ⟨p,rfl,hp,s.free hp,_,aY,ra⟩⟩
 ·cases e;cases rs with
  |cons r rr=>cases rr;obtain⟨a,us,rfl,qa,ra⟩:=mQ s r;exact⟨a,us,rfl,.inr (.inl (.inl qa)),fun p hp=>k _ _ _ (aQ.mG s hp) ⟨p,rfl,hp,s.free hp,_,aY,ra⟩⟩
 ·cases e
theorem zD{K:Mv}:CallD (fun xs H Q=>∃p ys,xs=[.ref p]/\((SqL K H p ys/\∀l,H l=none->Q (.ref l) (upd H l (.tup ys)))\/(SqT K H p ys/\Q (.ref p) H))) Dm.aI:=by
 intro H0 H vs ds z Q s rs e k;unfold Dm.aI at e;split at e
 ·cases e;cases rs with
  |cons r rr=>cases rr;obtain⟨a,us,rfl,qa,ra⟩:=cR s r;refine⟨a,us,rfl,.inl ⟨.inl qa,fun p hp=>?_⟩⟩;have g:=aQ.xQ (o:=HO.tup us) s hp;exact k _ _ _ g (.tup aY (ra.mono g.s0))
 ·cases e;cases rs with
  |cons r rr=>
   cases rr;rcases r with r | ⟨a,_,w⟩
   ·cases r with
    |tup q rs=>exact⟨_,_,rfl,.inr ⟨.inl (.inl (s _ _ q)),k _ H0 H (aQ.refl s) (.tup q rs)⟩⟩
   ·exact MX w
 ·cases e
noncomputable abbrev DS(X:Cx)(st:Stmt)(f:FS):Prop:=PS X st (tDS f)
noncomputable abbrev DSs(X:Cx)(st:List Stmt)(f:FS):Prop:=PSs X st (tDS f)
noncomputable abbrev DI(X:Cx)(tg it:Expr)(f:Dm.FI):Prop:=PI X tg it (tDI f)
theorem PI.weak{X:Cx}{tg it:Expr}{t t':TI}(h:PI X tg it t)(k:∀σ H R,t' σ H R->t σ H R):PI X tg it t':=fun eU s σ H R I q=>h eU s σ H R I (k σ H R q)
section
variable{X:Cx}{a b c e:Expr}{fa fb fc f:FE}{pos:Pos}
section
variable{g:Dat->Dat->Option RV}{r:List V->Hp->VK->Prop}{yi:List Expr}{x:Str}{k:Nat}{i:Int}
theorem d_v(i:Nat)(hN:X.N[i]?=some x:=by rfl)(hv:Vis X.env.scope x:=by trivial)(hd:(x == ("__debug__" : Str))=false:=by decide)
  (Rv:(x == ("__classdict__" : Str))=false:=by decide):DE X (.Name x pos) (Dm.eV i):=PE.weak (uy hN hv hd Rv) fun _ _ _=>IS
theorem d_i{j}:DE X (.Constant (.int i) j pos) (Dm.eC (.int i)):=PE.weak Fb fun _ _ _=>iw fun _=>.int i
theorem d_b{v:Bool}{j}:DE X (.Constant (.bool v) j pos) (Dm.eC (.bl v)):=PE.weak Ij fun _ _ _=>iw fun _=>.bl v
theorem d_n{j}:DE X (.Constant .none j pos) (Dm.eC .non):=PE.weak Fc fun _ _ _=>iw fun _=>.non
theorem d_s{s:List Nat}{j}(hx:x=⟨s.toArray⟩:=by rfl):DE X (.Constant (.str x) j pos) (Dm.eC (.str s)):=by subst hx;exact PE.weak Fd fun _ _ _=>iw fun _=>.str s
theorem d_g{t:Tok}(hg:Gl X x)(hm:X.mg x=some (.int i t))(hd:(x == ("__debug__" : Str))=false:=by decide):DE X (.Name x pos) (Dm.eC (.int i)):=
 PE.weak (lZ (v:=.int i) hg hm ⟨t,rfl⟩ hd) fun _ _ _=>iw fun _=>.int i
theorem uM{op:Operator}{r:R2}(o:OpR X (binaryOp op) r)(od:OpD r g)(ha:DE X a fa)(hb:DE X b fb):DE X (.BinOp a op b pos) (Dm.e2 g fa fb):=
 PE.weak (Ir o ha hb) fun _ _ _=>zm od
theorem cu(ha:DE X a fa)(hb:DE X b fb):DE X (.BinOp a .Add b pos) (Dm.e2 Dm.aL fa fb):=uM Cv Gi ha hb
theorem mR(ha:DE X a fa)(hb:DE X b fb):DE X (.BinOp a .Sub b pos) (Dm.e2 Dm.bD fa fb):=uM Fy Gd ha hb
theorem fU(ha:DE X a fa)(hb:DE X b fb):DE X (.BinOp a .Mult b pos) (Dm.e2 Dm.br fa fb):=uM Cw Gj ha hb
theorem iO(ha:DE X a fa)(hb:DE X b fb):DE X (.BinOp a .FloorDiv b pos) (Dm.e2 Dm.bC fa fb):=uM zz Gg ha hb
theorem b_(ha:DE X a fa)(hb:DE X b fb):DE X (.BinOp a .Mod b pos) (Dm.e2 Dm.aH fa fb):=uM FA Ge ha hb
theorem pW(ha:DE X a fa)(hb:DE X b fb):DE X (.BinOp a .Pow b pos) (Dm.e2 Dm.bF fa fb):=uM FD Gf ha hb
theorem zF(ha:DE X a fa):DE X (.UnaryOp .USub a pos) (Dm.e1 Dm.bH fa):=PE.weak (Iu FF ha) fun _ _ _=>F2 Gh
theorem rT{op:CmpOp}{r:R2}(o:OpR X (compareOp op) r)(od:OpD r g)(ha:DE X a fa)(hb:DE X b fb)(hm:behindInMarks op b=false):DE X (.Compare a [op] [b] pos) (Dm.e2 g fa fb):=
 PE.weak (Ca o ha hb hm) fun _ _ _=>zm od
theorem lg{op:CmpOp}{r:R2}(o:OpR X (compareOp op) r)(od:OpD r g)(ha:DE X a fa)(hb:DE X b fb)(hm:behindInMarks op b=false):DT X (.Compare a [op] [b] pos) (Dm.tV (Dm.e2 g fa fb)):=
 PT.weak (Cb o ha hb hm) fun σ H Q h=>zm od (uJ h)
theorem Jo(hr:c_ k X.A)(ha:DE X a fa)(hb:DE X b fb):DE X (.Compare a [.Eq] [b] pos) (Dm.e2 Dm.gEq fa fb):=rT (zy hr) Ep ha hb (fL _)
theorem LC(ha:DE X a fa)(hb:DE X b fb):DE X (.Compare a [.Lt] [b] pos) (Dm.e2 Dm.gLt fa fb):=rT Eh En ha hb (fL _)
theorem LD(ha:DE X a fa)(hb:DE X b fb):DE X (.Compare a [.LtE] [b] pos) (Dm.e2 Dm.gLe fa fb):=rT jT jZ ha hb (fL _)
theorem Jp(hr:c_ k X.A)(ha:DE X a fa)(hb:DE X b fb)(hm:behindInMarks .NotIn b=false:=by rfl):DE X (.Compare a [.NotIn] [b] pos) (Dm.e2 Dm.kF fa fb):=rT (xU hr) zC ha hb hm
theorem lS(hr:c_ k X.A)(ha:DE X a fa)(hb:DE X b fb):DT X (.Compare a [.Eq] [b] pos) (Dm.tV (Dm.e2 Dm.gEq fa fb)):=lg (zy hr) Ep ha hb (fL _)
theorem xV(hr:c_ k X.A)(ha:DE X a fa)(hb:DE X b fb):DT X (.Compare a [.NotEq] [b] pos) (Dm.tV (Dm.e2 Dm.gNe fa fb)):=lg (Ga hr) Jk ha hb (fL _)
theorem LF(ha:DE X a fa)(hb:DE X b fb):DT X (.Compare a [.Lt] [b] pos) (Dm.tV (Dm.e2 Dm.gLt fa fb)):=lg Eh En ha hb (fL _)
theorem zG(ha:DE X a fa)(hb:DE X b fb):DT X (.Compare a [.Gt] [b] pos) (Dm.tV (Dm.e2 Dm.gGt fa fb)):=lg Iz Jh ha hb (fL _)
theorem LG(ha:DE X a fa)(hb:DE X b fb):DT X (.Compare a [.GtE] [b] pos) (Dm.tV (Dm.e2 Dm.gGe fa fb)):=lg IA Ji ha hb (fL _)
theorem LH(hr:c_ k X.A)(ha:DE X a fa)(hb:DE X b fb)(hm:behindInMarks .In b=false:=by rfl):DT X (.Compare a [.In] [b] pos) (Dm.tV (Dm.e2 Dm.gIn fa fb)):=lg (Gb hr) Jl ha hb hm
theorem bx(ha:DE X a fa)(hb:DE X b fb)(hs:qu b:=by intro _ _;rfl):DE X (.Subscript a b pos) (Dm.e2 Dm.gIx fa fb):=PE.weak (Ek (Ci.or FQ) ha hb hs) fun _ _ _=>zm Jm
theorem af:DA X [] []:=PA.weak kD fun _ _ _=>IT
theorem aa{es:List Expr}{fs:List FE}(h:DE X e f)(r:DA X es fs)(hs:starEach (e::es) X.env=(false,eval e X.env)::starEach es X.env:=by rfl):DA X (e::es) (f::fs):=PA.weak (eG h r hs) fun _ _ _=>F3
theorem cC{es:List Expr}{fs:List FE}{x1}(h:DA X es fs):DE X (.Tuple es x1 pos) (Dm.aT fs):=PE.weak (zd h) fun _ _ _=>IU
theorem cS{es:List Expr}{fs:List FE}(h:DA X es fs):DE X (.List es pos) (Dm.aU fs):=PE.weak (FL h) fun _ _ _=>IV
theorem xW{es:List Expr}{fs:List FE}{g:List Dat->Option RV}{id:String}{p:Pos}(hc:dP X (.builtin id) r)(cd:CallD r g)(hv:bootBuiltins x=some (.builtin id))(hg:Gl X x)(hm:X.mg x=none)(ha:DA X (e::es) fs)
  (hn:x ≠ "__name__" := by decide) (Rq:(x == ("__debug__" : Str))=false:=by decide) (he:starEach (e::es) X.env=(false,eval e X.env)::starEach es X.env:=by rfl) (ED:(backTo pos (starEach es X.env)).any (·.1)=false:=by rfl) :
  DE X (.Call (.Name x p) (e::es) [] pos) (Dm.eB g fs):=PE.weak (gF hc hg hm hv ha hn Rq he ED) fun _ _ _=>F4 cd
theorem zH{es:List Expr}{fs:List FE}{g:List Dat->Option RV}{T:String}{p:Pos}(hc:dP X (.type T) r)(cd:CallD r g)(hv:bootBuiltins x=some (.type T))(hg:Gl X x)(hm:X.mg x=none)(ha:DA X (e::es) fs)
  (hn:x ≠ "__name__" := by decide) (Rq:(x == ("__debug__" : Str))=false:=by decide) (he:starEach (e::es) X.env=(false,eval e X.env)::starEach es X.env:=by rfl) (ED:(backTo pos (starEach es X.env)).any (·.1)=false:=by rfl) :
  DE X (.Call (.Name x p) (e::es) [] pos) (Dm.eB g fs):=PE.weak (xN hc hg hm hv ha hn Rq he ED) fun _ _ _=>F4 cd
variable{es:List Expr}{fs:List FE}{p:Pos}
theorem fV(hg:Gl X "len")(hm:X.mg "len" = none)(ha:DA X [e] fs)(he:starEach [e] X.env=[(false,eval e X.env)]:=by rfl)(ED:(backTo pos (starEach [] X.env)).any (·.1)=false:=by rfl):DE X (.Call (.Name "len" p) [e] [] pos) (Dm.eB Dm.bq fs):=xW qw Gk PySem.boot_len hg hm ha (he:=he) (ED:=ED)
theorem uN(hc:X.calm=true)(hg:Gl X "min")(hm:X.mg "min" = none)(ha:DA X [a,b] fs)(he:starEach [a,b] X.env=(false,eval a X.env)::starEach [b] X.env:=by rfl)(ED:(backTo pos (starEach [b] X.env)).any (·.1)=false:=by rfl):DE X (.Call (.Name "min" p) [a,b] [] pos) (Dm.eB Dm.aX fs):=xW (xG hc) Cy (by rfl) hg hm ha (he:=he) (ED:=ED)
theorem Gm(hc:X.calm=true)(hg:Gl X "max")(hm:X.mg "max" = none)(ha:DA X [a,b] fs)(he:starEach [a,b] X.env=(false,eval a X.env)::starEach [b] X.env:=by rfl)(ED:(backTo pos (starEach [b] X.env)).any (·.1)=false:=by rfl):DE X (.Call (.Name "max" p) [a,b] [] pos) (Dm.eB Dm.a_ fs):=xW (xF hc) Cz (by rfl) hg hm ha (he:=he) (ED:=ED)
theorem Gn(hg:Gl X "list")(hm:X.mg "list" = none)(ha:DA X [e] fs)(he:starEach [e] X.env=[(false,eval e X.env)]:=by rfl)(ED:(backTo pos (starEach [] X.env)).any (·.1)=false:=by rfl):DE X (.Call (.Name "list" p) [e] [] pos) (Dm.eB Dm.bw fs):=zH qy CA (by rfl) hg hm ha (he:=he) (ED:=ED)
theorem CB(hg:Gl X "tuple")(hm:X.mg "tuple" = none)(ha:DA X [e] fs)(he:starEach [e] X.env=[(false,eval e X.env)]:=by rfl)(ED:(backTo pos (starEach [] X.env)).any (·.1)=false:=by rfl):DE X (.Call (.Name "tuple" p) [e] [] pos) (Dm.eB Dm.aI fs):=zH pD zD (by rfl) hg hm ha (he:=he) (ED:=ED)
theorem az{F:Addr}{fd:FuncData}{ps:List Str}{g:List Dat->Option RV}(G:bW X.prog X.w X.K X.mg X.base CX0 k F fd ps (spD g))(hr:c_ k X.A)(hg:Gl X x)(hm:X.mg x=some (.ref F))(hk:N6 X.K (.ref F)=true)(hb:Binds X.K fd ps [])
  (ha:DA X (e::es) fs) (Rq:(x == ("__debug__" : Str))=false:=by decide) (he:starEach (e::es) X.env=(false,eval e X.env)::starEach es X.env:=by rfl) (ED:(backTo pos (starEach es X.env)).any (·.1)=false:=by rfl) :
  DE X (.Call (.Name x p) (e::es) [] pos) (Dm.eF g fs):=PE.weak (Ce G hr hg hm hk hb .nil (IJ (X:=X)) ha Rq he ED) fun _ _ _=>F5
theorem Jq{t:FT}{q:Expr}(hq:DT X q t)(ha:DE X a fa)(hb:DE X b fb):DE X (.IfExp q a b pos) (Dm.eIf t fa fb):=PE.weak (yP hq ha hb) fun _ _ _=>Ls
theorem vS{op}(h:DE X a fa):DE X (.BoolOp op [a] pos) fa:=Fg h
theorem rV(ha:DE X a fa)(hb:DE X (.BoolOp .And (b::yi) pos) fb):DE X (.BoolOp .And (a::b::yi) pos) (Dm.bE fa fb):=PE.weak (Fi ha hb) fun _ _ _=>IW
theorem Er(ha:DE X a fa):DE X (.UnaryOp .Not a pos) (Dm.bO fa):=PE.weak (Fj ha) fun _ _ _=>IX
noncomputable abbrev DW(X:Cx)(e:Expr)(f:FT):Prop:=PW X e (tDT f)
theorem PW.weak{t t':TT}(h:PW X e t)(k:∀σ H Q,t' σ H Q->t σ H Q):PW X e t':=fun whole eU s σ H Q I q=>h whole eU s σ H Q I (k σ H Q q)
variable{ta tb:FT}
theorem Gp(h:DT X a ta):DW X (.BoolOp .And [a] pos) ta:=pw_and1 h
theorem lu(h:DT X a ta):DW X (.BoolOp .Or [a] pos) ta:=pw_or1 h
theorem w_and(ha:DT X a ta)(hb:DW X (.BoolOp .And (b::yi) pos) tb):DW X (.BoolOp .And (a::b::yi) pos) (Dm.bI ta tb):=PW.weak (pw_and ha hb) fun _ _ _=>F7
theorem w_or(ha:DT X a ta)(hb:DW X (.BoolOp .Or (b::yi) pos) tb):DW X (.BoolOp .Or (a::b::yi) pos) (Dm.tOr ta tb):=PW.weak (pw_or ha hb) fun _ _ _=>IY
theorem t_w(h:DW X a ta):DT X a ta:=h.pt
theorem dF(h:DT X a ta):DT X (.UnaryOp .Not a pos) (Dm.aV ta):=PT.weak (Ff h) fun _ _ _=>F6
theorem dR(h:DE X e f)(he:∀whole,isTrue e X.env whole=(do let v <- whole;standAt e.pos;holding [v] (truthy v)):=by intro _;rfl):DT X e (Dm.tV f):=PT.weak (Fe h he) fun _ _ _=>uJ
variable{tg:Expr}
theorem Gq(hg:Gl X "range")(hm:X.mg "range" = none)(ha:DA X [a] [fa])(hs:starEach [a] X.env=[(false,eval a X.env)]:=by rfl):DI X tg (.Call (.Name "range" p) [a] [] pos) (Dm.iR1 fa):=
 PI.weak (xB hg hm ha hs) fun _ _ _=>Jd
theorem Jr(hg:Gl X "range")(hm:X.mg "range" = none)(ha:DA X [a,b] [fa,fb])(hs:starEach [a,b] X.env=[(false,eval a X.env),(false,eval b X.env)]:=by rfl)(hs2:starEach [b] X.env=[(false,eval b X.env)]:=by rfl):DI X tg (.Call (.Name "range" p) [a,b] [] pos) (Dm.iR2 fa fb):=
 PI.weak (xC hg hm ha hs hs2) fun _ _ _=>Je
end
end
section
variable{X:Cx}{st:Stmt}{yi:List Stmt}{fs gs:FS}{e a b c:Expr}{f fa fb:FE}{pos:Pos}
section
variable{is:List Nat}{es:List Expr}{body:List Stmt}{x:Str}{t:FT}
theorem cj:DSs X [] Dm.sNx:=PSs.weak B7 fun _ _ _=>Lu
theorem ai(h1:DS X st fs)(h2:DSs X yi gs):DSs X (st::yi) (Dm.aj fs gs):=PSs.weak (rG h1 h2) fun _ _ _=>IZ
theorem aq(h1:DS X st fs):DSs X [st] fs:=B8 h1
theorem s_a(i:Nat){x:Str}{pos':Pos}(hN:X.N.Nodup)(he:DE X e f)(hi:X.N[i]?=some x:=by rfl)(hx:Loc X.env.scope x:=by trivial)(hs:swapsWith e (some (.Name x pos')) pos.line X.env=pure false:=by rfl)
  (hf:X.fn x=true\/X.env.scope.names.lookup x=some .local:=by trivial):DS X (.Assign [.Name x pos'] e pos) (Dm.sA i f):=PS.weak (yU hN hi hx he hs hf) fun _ _ _=>zp
theorem gI:PGs X [] (fN []):=B9
theorem b5(i:Nat){px:Pos}(hN:X.N.Nodup)(h2:PGs X es (fN is))(hi:X.N[i]?=some x:=by rfl)(hx:Loc X.env.scope x:=by trivial)
  (hf:X.fn x=true\/X.env.scope.names.lookup x=some .local:=by trivial) (hs:(assignEach (.Name x px::es) X.env).map (·.2)=assign (.Name x px) X.env::(assignEach es X.env).map (·.2):=by rfl):PGs X (.Name x px::es) (fN (i::is)):=yS (qp hN hi hx hf) h2 hs
theorem s_u{k:Nat}{tpos:Pos}(hc:X.calm=true)(hg:PGs X es (fN is))(he:DE X e f)(hn:(assignEach es X.env).length=is.length:=by rfl)(hst:(assignEach es X.env).findIdx? (·.1)=none:=by rfl)
  (hs:swapsWithSole [.Tuple es k tpos] e pos.line X.env=pure false:=by rfl) (hw:swappedStores [.Tuple es k tpos] e X.env=pure none:=by rfl) (h1:(assignEach [.Tuple es k tpos] X.env).map (·.2)=[assign (.Tuple es k tpos) X.env]:=by rfl) :
  DS X (.Assign [.Tuple es k tpos] e pos) (Dm.sU is f):=PS.weak (yT he (uz hc hg hn hst) hs hw h1) fun _ _ _=>zq rfl
theorem s_e(he:DE X e f)(hs:swapsWith e none pos.line X.env=pure false:=by rfl):DS X (.Expr e pos) (Dm.sE f):=PS.weak (qo he hs) fun _ _ _=>F8
theorem s_r(he:DE X e f):DS X (.Return (some e) pos) (Dm.sR f):=PS.weak (Fl he) fun _ _ _=>I0
theorem dm{x y:List Stmt}(ht:DT X c t)(ha:DSs X x fs)(hb:DSs X y gs):DS X (.If c x y pos) (Dm.sIf t fs gs):=PS.weak (Ec ht ha hb) fun _ _ _=>I_
theorem qF:DS X st (fun _=>none):=PS.weak yR fun _ _ _ ⟨_,_,_,_,z,_⟩=>by cases z
theorem vU(i:Nat){px ap cp:Pos}(he:DE X e f)(hi:X.N[i]?=some x:=by rfl)(hv:Vis X.env.scope x:=by trivial)(hd:(x == ("__debug__" : Str))=false:=by decide)
  (Rv:(x == ("__classdict__" : Str))=false:=by decide) (Ka:attributeBase (.Name x px) "append" X.env (eval (.Name x px) X.env)=eval (.Name x px) X.env:=by rfl)
  (hfew:((backTo cp (starEach [e] X.env)).all (fun x=>!x.1)&&(backToKw cp (keywordEach [] X.env)).all (fun x=>x.1.isSome)
   && decide ([e].length+([]:List Keyword).length+(if ([]:List Keyword).isEmpty then 0 else 1)<30))=true:=by rfl)
  (G_:(ap.endLine == cp.line)=true:=by rfl) (hs:starEach [e] X.env=(false,eval e X.env)::starEach [] X.env:=by rfl) (Kd:(backTo cp (starEach [] X.env)).any (·.1)=false:=by rfl)
  (hsw:swapsWith (.Call (.Attribute (.Name x px) "append" ap) [e] [] cp) none pos.line X.env=pure false:=by rfl) :
  DS X (.Expr (.Call (.Attribute (.Name x px) "append" ap) [e] [] cp) pos) (Dm.bJ i f):=
 PS.weak (qo (Em PySem.F.plainAttrs_list PySem.F.slot_list_append PySem.F.type_list_append pR (uy hi hv hd Rv) (aa he af hs) Ka hfew G_ hs Kd) hsw) fun _ _ _=>Ja
theorem Es(i:Nat){j:Expr}{fj:FE}{px sp:Pos}(hj:DE X j fj)(he:DE X e f)(hi:X.N[i]?=some x:=by rfl)(hv:Vis X.env.scope x:=by trivial)(hd:(x == ("__debug__" : Str))=false:=by decide)
  (Rv:(x == ("__classdict__" : Str))=false:=by decide) (ha:∀ v,assign (.Subscript (.Name x px) j sp) X.env v=(do
   let ov <- holding [v] (eval (.Name x px) X.env)
   let iv <- holding [v,ov] (eval j X.env)
   standAt sp
   holding [v,ov,iv] (setItem ov iv v)
   release [v,ov,iv] []):=by intro _;rfl)
  (hs:swapsWithSole [.Subscript (.Name x px) j sp] e pos.line X.env=pure false:=by rfl) (hw:swappedStores [.Subscript (.Name x px) j sp] e X.env=pure none:=by rfl) (h1:(assignEach [.Subscript (.Name x px) j sp] X.env).map (·.2)=[assign (.Subscript (.Name x px) j sp) X.env]:=by rfl) :
  DS X (.Assign [.Subscript (.Name x px) j sp] e pos) (Dm.bP i fj f):=PS.weak (yT he (Ft (uy hi hv hd Rv) hj set_list ha) hs hw h1) fun _ _ _=>Jb
theorem LJ(n:Nat)(hp:PassesOwn (model X.prog X.w) X.A X.env X.xe)(ht:DT X c t)(hb:DSs X body fs):DS X (.While c body [] pos) (Dm.whD t fs n):=PS.weak (yW hp ht hb) fun _ _ _=>Cm
structure TG'(X:Cx)(tg:Expr)(is:List Nat)(bd:Dm.FB):Prop where
 ex:∃g,PG X tg g/\BD is g bd
theorem g_n(i:Nat){px:Pos}(hN:X.N.Nodup)(hi:X.N[i]?=some x:=by rfl)(hx:Loc X.env.scope x:=by trivial)(hf:X.fn x=true\/X.env.scope.names.lookup x=some .local:=by trivial) :
  TG' X (.Name x px) [i] (Dm.bN i):=⟨⟨_,qp hN hi hx hf,vP i⟩⟩
theorem g_t{k:Nat}{tpos:Pos}(hc:X.calm=true)(hg:PGs X es (fN is))(hn:(assignEach es X.env).length=is.length:=by rfl)(hst:(assignEach es X.env).findIdx? (·.1)=none:=by rfl):TG' X (.Tuple es k tpos) is (Dm.bT is):=
 ⟨⟨_,uz hc hg hn hst,zu is rfl⟩⟩
theorem iP{tg it:Expr}{fi:Dm.FI}{bd:Dm.FB}(hp:PassesOwn (model X.prog X.w) X.A X.env X.xe)(hc:X.calm=true)(hi:DI X tg it fi)(hg:TG' X tg is bd)(hb:DSs X body fs)
  (hs:∀x,foldedSetIterable it X.env x=pure x:=by intro _;rfl):DS X (.For tg it body [] pos) (Dm.bB fi bd fs):=by
 obtain⟨g,h1,h2⟩:=hg.ex;exact PS.weak (Fv hp hc hi h1 hb hs) fun _ _ _=>Jc h2
end
end
noncomputable def tyName:Dat->String
 |.non => "NoneType"
 |.bl _ => "bool"
 |.int _ => "int"
 |.str _ => "str"
 |.tup _ => "tuple"
 |.lst _ => "list"
 |.dct _ _ => "dict"
 |.dcp _ _ => "dict"
 |.exc _ => "dict"
 |.dj _ _ => "dict"
 |.fn _ => "dict"
def xX(T:String)(p:Dat->Bool):Prop:=∀(K:Mv) (d:Dat),Nd K (.type (tyName d)) (.type T)=some (p d)
theorem CC:xX "int" Dm.isI:=fun K d=>by cases d<;>rfl
theorem zI:xX "bool" Dm.isB:=fun K d=>by cases d<;>rfl
theorem zJ:xX "list" Dm.isL:=fun K d=>by cases d<;>rfl
theorem kit_tuple:xX "tuple" Dm.isT:=fun K d=>by cases d<;>rfl
theorem zK{K:Mv}{H:Hp}{v:V}{d:Dat}(r:Rep H v d)(nx:∀C,d≠.exc C/\d≠.fn C/\∀v,d≠.dj C v):jU K H v (.type (tyName d)):=by
 cases r with
 |non=>exact .non
 |bl b=>exact .bl b
 |int i=>exact .int i
 |str s=>exact .str _
 |tup q _=>exact .tup q
 |lst q _=>
  rcases q with q | ⟨o,q⟩
  ·exact .lst q
  ·exact .frz q
 |dct q _ _=>exact .dK q
 |dcp q _ _=>exact .dT q
 |exc _=>exact absurd rfl (nx _).1
 |dj _ _=>exact absurd rfl ((nx _).2.2 _)
 |fn _=>exact absurd rfl (nx _).2.1
def Js(K:Mv)(T:String):List V->Hp->VK->Prop:=fun xs H Q=>∃x t b,xs=[x,.ty T]/\jU K H x t/\Nd K t (.type T)=some b/\Q (.bl b) H
section
variable{X:Cx}{e:Expr}{f:FE}{p p2 pos:Pos}
theorem zL{T:String}:dP X (.builtin "isinstance") (Js X.K T):=by intro eU s σ H xs us Q I r h;obtain⟨x,t,b,rfl,ty,e,q⟩:=h;obtain⟨u,u2,rfl,rx,ry⟩:=vals2 r;cases ry;exact xK I rx ty e fun tk=>⟨.bl b,H,I.tok tk,rfl,q⟩
theorem Jt{K:Mv}{T:String}{p:Dat->Bool}(kp:xX T p){σ:L2.St}{H:Hp}{Q:VK}(h:tD (Dm.e1 (Dm.pF p) f) σ H Q):tCB (Js K T) (k7 (tD f) (k7 (tC (.ty T)) zc)) σ H Q:=by
 obtain⟨H0,ρ,x,ρ',st,e,k⟩:=h;unfold Dm.e1 at e;split at e
 ·cases e
 rename_i x1 ρ1 e1;split at e
 ·cases e
 rename_i dx p1;have nx:∀C,dx≠.exc C/\dx≠.fn C/\∀v,dx≠.dj C v:=fun C=>⟨fun z=>(by subst z;cases e),fun z=>(by subst z;cases e),fun v z=>(by subst z;cases e)⟩;have ev:Dm.pF p dx=Dm.vB (p dx):=by cases dx<;>first | rfl | exact absurd rfl (nx _).1 | exact absurd rfl (nx _).2.1 | exact absurd rfl ((nx _).2.2 _)
 rw[ev]at e;dsimp only at e;cases e;refine⟨H0,ρ,x1,_,st,e1,fun v H1 Hb t1 r1=>?_⟩;exact⟨v,_,_,rfl,zK ((r1.look t1.st p1).full t1.st.same) nx,kp K dx,k _ H1 Hb t1 (Rep.bl _)⟩
theorem rW{T:String}{tn:Str}{p':Dat->Bool}(kp:xX T p')(hvT:bootBuiltins tn=some (.type T))(hgT:Gl X tn)(hmT:X.mg tn=none)(hg:Gl X "isinstance")(hm:X.mg "isinstance" = none)(h:DE X e f)
  (hn:tn ≠ "__name__" := by decide) (Rq:(tn == ("__debug__" : Str))=false:=by decide)
  (he:starEach [e,.Name tn p2] X.env=(false,eval e X.env)::starEach [.Name tn p2] X.env:=by rfl) (ED:(backTo pos (starEach [.Name tn p2] X.env)).any (·.1)=false:=by rfl) (he2:starEach [.Name tn p2] X.env=(false,eval (.Name tn p2) X.env)::starEach [] X.env:=by rfl) :
  DE X (.Call (.Name "isinstance" p) [e,.Name tn p2] [] pos) (Dm.e1 (Dm.pF p') f):=
 PE.weak (gF zL hg hm NT (eG h (eG (vH (v:=.ty T) hgT hmT hvT rfl hn Rq) kD he2) he) (he:=he) (ED:=ED)) fun _ _ _=>Jt kp
theorem all_range(bs:List Bool):(Ni bs.length).all (fun i=>bs.getD i true)=bs.all id:=by
 rw[Oh,M3,M3];constructor
 ·intro h b hb;obtain⟨i,hi,rfl⟩:=List.mem_iff_getElem.mp hb;have:=h i (OS.mpr hi);rw[Np,M7 hi]at this;exact this
 ·intro h i hi;have hi:=OS.mp hi;rw[Np,M7 hi];exact h _ (Ob hi)
theorem xY(hc:X.calm=true):dP X (.builtin "all") (fun xs H Q=>∃(a:Addr) (bs:List Bool),xs=[.ref a]/\Rd H a (.lst (bs.map V.bl))/\Q (.bl (bs.all id)) H):=by
 intro eU s σ H xs us Q I r h;obtain⟨a,bs,rfl,hq,q⟩:=h;obtain⟨u,rfl,rx⟩:=vals1 r;cases rx;obtain⟨z,its,n,rv,e⟩:=hq.ok I.hok;have hl:s.heap.IsList a its.toArray:=⟨_,e,rfl,_,rfl⟩
 have Dh:=rv.length;rw[MP]at Dh;have hax:a≠s.heap.objs.size:=Nb (MS e);refine PySem.call_all_walk (wpAny_pyIter_list hl ⟨s.heap.objs.size,_,_,_,_,_,fun i=>bs.getD i true,rfl,Walks.list (A:=X.A.in1) (I.ok.hd hc) s.heap.objs.size a hax its.toArray,⟨⟨_,M9 _ rfl,rfl,rfl⟩,hl.push _⟩,?_,fun h' tk hk=>?_⟩)
 ·intro i v s' Q' E' hv hQ';have hv':its[i]?=some v:=by simpa using hv
  have hi:i<bs.length:=by rw[Dh];exact(MT.mp hv').1
  have hb:(bs.map V.bl)[i]?=some (V.bl bs[i]):=by rw[M0,M7 hi];rfl
  obtain⟨u,hu,ru⟩:=rv.get hb;rw[hv']at hu;cases hu;cases ru;refine wpAny_truthy_bool ?_;have e2:bs.getD i true=bs[i]:=by rw[Np,M7 hi];rfl
  rw[<- e2];exact hQ'
 ·have e1:its.toArray.size=bs.length:=by rw[MW,Dh]
  rw[e1,all_range];refine⟨.bl _,H,I.kept (t':=tk) fun b o eb=>hk b o ?_ (MR _ eb),rfl,q⟩;intro hm;have:b=s.heap.objs.size:=by simpa using hm
  exact absurd (MS eb) (by rw[this];exact Nz _)
end
section
variable{X:Cx}{a b c e:Expr}{f fa fb fc:FE}{p p2 pos:Pos}
section
variable{g h:Dat->Dat->Option RV}{σ:L2.St}{Q:VK}{H:Hp}
theorem vV{r r':R2}(o1:OpD r g)(o2:OpD r' h)(hh:tD (Dm.ak g h fa fb fc) σ H Q):uC r r' (tD fa) (tD fb) (tD fc) σ H Q:=by
 obtain⟨H0,ρ,x,ρ',st,e,k⟩:=hh;unfold Dm.ak at e;split at e
 ·cases e
 rename_i x1 ρ1 e1;split at e
 ·cases e
 rename_i y1 ρ2 e2;split at e
 ·cases e
 rename_i dx p1;split at e
 ·cases e
 rename_i dy p2;refine⟨H0,ρ,x1,ρ1,st,e1,fun v H1 Hb t1 r1=>⟨H1,ρ1,y1,ρ2,t1.st,e2,fun u H2 Hc t2 r2=>?_⟩⟩;split at e
 ·rename_i gz;refine o1 H2 Hc v u dx dy _ _ t2.st.same ((r1.mono t2).look t2.st p1) (r2.look t2.st p2) gz fun w H3 Hd g3 r3=>?_;refine⟨true,Rep.qz r3,?_⟩;rw[if_pos rfl];have t3:=t2.trans (.grow t2.st g3);have r2':=r2.mono (.grow t2.st g3);split at e
  ·cases e
  rename_i z ρ3 e3;split at e
  ·cases e
  rename_i dy' p3;split at e
  ·cases e
  rename_i dz p4;split at e
  ·cases e
  rename_i w2 hz;cases e;refine⟨H3,ρ2,z,_,t3.st,e3,fun w' H4 He t4 r4=>?_⟩;refine o2 H4 He u w' dy' dz w2 Q t4.st.same ((r2'.mono t4).look t4.st p3) (r4.look t4.st p4) hz fun w5 H5 Hf g5 r5=>?_;exact k w5 H5 Hf (t1.trans (t3.trans (t4.trans (.grow t4.st g5)))) ((r5.toV t4.st).early fun a n=>(t1.trans (t3.trans t4)).stp.gone n)
 ·rename_i gz;cases e;refine o1 H2 Hc v u dx dy _ _ t2.st.same ((r1.mono t2).look t2.st p1) (r2.look t2.st p2) gz fun w H3 Hd g3 r3=>?_;refine⟨false,Rep.qz r3,?_⟩;rw[if_neg Nh];exact k _ H3 Hd (t1.trans (t2.trans (.grow t2.st g3))) (Rep.bl false)
 ·cases e
theorem CD{op op':CmpOp}{r r':R2}(o1:OpR X (compareOp op) r)(q1:OpD r g)(o2:OpR X (compareOp op') r')(q2:OpD r' h)(ha:DE X a fa)(hb:DE X b fb)(hc:DE X c fc)
  (hm:lastMarks [op,op'] [b,c]=false:=by with_unfolding_all rfl):DE X (.Compare a [op,op'] [b,c] pos) (Dm.ak g h fa fb fc):=PE.weak (y_ o1 o2 ha hb hc hm) fun _ _ _=>vV q1 q2
theorem zM(n d:Nat)(o:Option Int)(hd:d<=n):HT.sIx n d o=Dm.sIx n d o:=by
 cases o with
 |none=>rfl
 |some v=>
  unfold HT.sIx Dm.sIx
  first
   |rfl
   |(dsimp only;split<;>lia)
theorem xZ{H0:Hp}{xs:List V}{ds:List Dat}(rs:bg H0 xs ds)(lo hi:Option Int):bg H0 (uE xs lo hi) (Dm.cut ds lo hi):=by unfold uE Dm.cut;rw[rs.length,zM _ _ _ (Nc _),zM _ _ _ (MO _)];exact(rs.drop _).take _
theorem vW{fo:Option FE}{H0 H:Hp}{ρ ρ':Dm.Env}{o:Option Int}{Q:Option Int->Hp->Prop}(st:aJ H0 H σ ρ)(e:Dm.part fo ρ=some (o,ρ'))(k:∀H0' H',ESt σ ρ H0 H ρ' H0' H'->Q o H') :
  (match fo with | none=>qq | some f=>ze (tD f)) σ H Q:=by
 cases fo with
 |none=>cases e;exact k H0 H (.refl st)
 |some f=>
  unfold Dm.part at e;dsimp only at e;split at e
  ·rename_i i ρ1 e1;cases e;exact⟨H0,ρ,_,_,st,e1,fun v H1 Hb t1 r1=>⟨i,Rep.isInt r1,k H1 Hb t1⟩⟩
  ·cases e
noncomputable abbrev tOf(fo:Option FE):TO:=match fo with | none=>qq | some f=>ze (tD f)
theorem LK{K:Mv}{lo hi:Option FE}(h:tD (Dm.eSl f lo hi) σ H Q):tSl (IG K) (tD f) (tOf lo) (tOf hi) σ H Q:=by
 obtain⟨H0,ρ,x,ρ',st,e,k⟩:=h;unfold Dm.eSl at e;split at e
 ·cases e
 rename_i x1 ρ1 e1;split at e
 ·cases e
 rename_i l ρ2 e2;split at e
 ·cases e
 rename_i hh ρ3 e3;split at e
 ·rename_i ds p1;cases e;refine⟨H0,ρ,x1,ρ1,st,e1,fun v H1 Hb t1 r1=>?_⟩;refine vW t1.st e2 fun H2 Hc t2=>?_;refine vW t2.st e3 fun H3 Hd t3=>?_;have tt:=t1.trans (t2.trans t3);obtain⟨a,xs,rfl,qa,ra⟩:=cR t3.st.same ((r1.mono (t2.trans t3)).look t3.st p1);refine⟨a,xs,rfl,.inl qa,fun q hq=>?_⟩;have g:=aQ.mG (o:=HO.lst (uE xs l hh)) t3.st.same hq;refine k _ _ _ (tt.trans (.grow t3.st g)) ⟨q,rfl,tt.stp.gone hq,t3.st.rR hq,t3.st.same.free hq,_,aY,xZ ra l hh⟩
 ·cases e
theorem Ju{lo hi:Option Expr}{flo fhi:Option FE}(h:DE X e f)(hl:PO X lo (tOf flo))(hh:PO X hi (tOf fhi)):DE X (.Subscript e (.Slice lo hi none p2) pos) (Dm.eSl f flo fhi):=PE.weak (zf Cj h hl hh) fun _ _ _=>LK
theorem o_n:PO X none (tOf none):=Cf
theorem o_s(h:DE X e f):PO X (some e) (tOf (some f)):=Cg h
end
end
section
variable{X:Cx}{nm:List Str}{LV tg iter:Expr}{LW:List Expr}{scope:Scope}{pos:Pos}{own:List Str}{fi:Dm.FI}{bd:Dm.FB}{is:List Nat}{t:FT}{f:FE}
noncomputable abbrev DTs(X:Cx)(LW:List Expr)(t:FT):Prop:=PTs X LW (tDT t)
theorem fP:DTs X [] Dm.aD:=fun eU s σ H Q I h=>by obtain⟨H0,ρ,b,ρ',st,e,k⟩:=h;cases e;exact Co eU s σ H Q I (k H0 H (.refl st))
theorem zN{c:Expr}(h:DT X c t):DTs X [c] t:=Cp h
structure TGc(X:Cx)(nm:List Str)(scope:Scope)(own:List Str)(tg:Expr)(is:List Nat)(bd:Dm.FB):Prop where
 ex:∃g,(∀cl C s H fp,PG (bZ X nm scope own cl C s H fp) tg g)/\BD is g bd
theorem c_n(i:Nat){x:Str}{px:Pos}(hN:(nm++own).Nodup)(hi:(nm++own)[i]?=some x)(hx:(relabel scope X.env).names.lookup x=some .local):TGc X nm scope own (.Name x px) [i] (Dm.bN i):=
 ⟨⟨_,fun cl C s H fp=>qp (X:=bZ X nm scope own cl C s H fp) hN hi (.inl hx) (.inr hx),vP i⟩⟩
theorem c_t{es:List Expr}{k:Nat}{tpos:Pos}(hc:X.calm=true)(hg:∀cl C s H fp,PGs (bZ X nm scope own cl C s H fp) es (fN is))(hn:∀cl C,(assignEach es (compEnvC scope cl C X.env)).length=is.length:=by intro _ _;rfl)
  (hst:∀cl C,(assignEach es (compEnvC scope cl C X.env)).findIdx? (·.1)=none:=by intro _ _;rfl):TGc X nm scope own (.Tuple es k tpos) is (Dm.bT is):=
 ⟨⟨_,fun cl C s H fp=>uz (X:=bZ X nm scope own cl C s H fp) hc (hg cl C s H fp) (hn cl C) (hst cl C),zu is rfl⟩⟩
theorem Gr(hc:X.calm=true)(S:fm X nm scope)(hi:DI X tg iter fi)(hg:TGc X nm scope own tg is bd)(ht:∀cl C s H fp,DTs (bZ X nm scope own cl C s H fp) LW t)(he:∀cl C s H fp,DE (bZ X nm scope own cl C s H fp) LV f)
  (hl:∀i∈is,X.N.length<=i) (hs:∀x,foldedSetIterable iter X.env x=pure x:=by intro _;rfl):DE X (.ListComp LV [⟨tg,iter,LW,0⟩] scope pos) (Dm.cP fi own.length bd t f):=by
 obtain⟨g,h1,h2⟩:=hg.ex;intro eU s σ H Q I h;exact vQ hc S hi h1 ht he hs eU s σ H Q I (uL h2 (fun i hi=>by rw[I.len];exact hl i hi) h)
theorem Gs(j:Nat){y:Str}{py Ru:Pos}(hN:X.N.Nodup)(hc:X.calm=true)(S:fm X nm scope)(hi:DI X tg iter fi)(hg:TGc X nm scope own tg is bd)(ht:∀cl C s H fp,DTs (bZ X nm scope own cl C s H fp) LW t)(he:∀cl C s H fp,DE (bZ X nm scope own cl C s H fp) LV f)
  (hl:∀i∈is,X.N.length<=i) (hj:X.N[j]?=some y:=by rfl) (hy:Loc X.env.scope y:=by trivial)
  (hsw:swapsWith (.ListComp LV [⟨tg,iter,LW,0⟩] scope pos) (some (.Name y py)) Ru.line X.env=pure true:=by rfl) (hs:∀x,foldedSetIterable iter X.env x=pure x:=by intro _;rfl)
  (hf:X.fn y=true\/X.env.scope.names.lookup y=some .local:=by trivial):DS X (.Assign [.Name y py] (.ListComp LV [⟨tg,iter,LW,0⟩] scope pos) Ru) (Dm.sA j (Dm.cP fi own.length bd t f)):=by
 obtain⟨g,h1,h2⟩:=hg.ex;intro eU s σ H D I h;exact k_ hN hj hy hc S hi h1 ht he hsw hs hf eU s σ H D I (uL h2 (fun i hi=>by rw[I.len];exact hl i hi) (zp h))
end
theorem mS{H0:Hp}:∀{ds:List Dat} {bs:List Bool} {vs:List V},bg H0 vs ds->Dm.bools ds=some bs->vs=bs.map V.bl
 |[],bs,vs,r,e=>by cases r;cases e;rfl
 |.bl b::ds,bs,vs,r,e=>by
  cases r with
  |cons r rs=>
   unfold Dm.bools at e;cases q:Dm.bools ds with
   |none=>rw[q]at e;cases e
   |some cs=>rw[q]at e;cases e;cases Rep.qz r;rw[mS rs q];rfl
 |.non::ds,bs,vs,r,e=>by cases e
 |.int _::ds,bs,vs,r,e=>by cases e
 |.str _::ds,bs,vs,r,e=>by cases e
 |.tup _::ds,bs,vs,r,e=>by cases e
 |.lst _::ds,bs,vs,r,e=>by cases e
 |.dct _ _::ds,bs,vs,r,e=>by cases e
 |.dcp _ _::ds,bs,vs,r,e=>by cases e
theorem Gu:CallD (fun xs H Q=>∃(a:Addr) (bs:List Bool),xs=[.ref a]/\Rd H a (.lst (bs.map V.bl))/\Q (.bl (bs.all id)) H) Dm.rO:=by
 intro H0 H vs ds z Q s rs e k;unfold Dm.rO at e;split at e
 ·split at e
  ·rename_i bs hb;cases e;cases rs with
   |cons r rr=>cases rr;obtain⟨a,us,rfl,qa,ra⟩:=cR s r;have:=mS ra hb;subst this;exact⟨a,bs,rfl,qa,k _ H0 H (aQ.refl s) (.bl _)⟩
  ·cases e
 ·cases e
theorem CF:CallD (fun xs H Q=>∃a b c:Int,xs=[.int a,.int b,.int c]/\Q (.int (if b<a then (if c<b then c else b) else (if c<a then c else a))) H) Dm.bf:=by
 intro H0 H vs ds z Q s rs e k;unfold Dm.bf at e;split at e
 ·cases e;cases rs with
  |cons r rr=>
   cases rr with
   |cons r' rr=>
    cases rr with
    |cons r'' rr=>cases rr;cases aC r;cases aC r';cases aC r'';exact⟨_,_,_,rfl,k _ H0 H (aQ.refl s) (.int _)⟩
 ·cases e
theorem Gv:CallD (fun xs H Q=>(∃i,xs=[.int i]/\Q (.int i) H)\/∃k,xs=[.bl k]/\Q (.int (if k then 1 else 0)) H) Dm.bR:=by
 intro H0 H vs ds z Q s rs e k;unfold Dm.bR at e;split at e
 ·cases e;cases rs with
  |cons r rr=>cases rr;cases aC r;exact .inl ⟨_,rfl,k _ H0 H (aQ.refl s) (.int _)⟩
 ·cases e;cases rs with
  |cons r rr=>cases rr;cases Cs r;exact .inr ⟨_,rfl,k _ H0 H (aQ.refl s) (.int _)⟩
 ·cases e
section
variable{X:Cx}{a b c e:Expr}{f:FE}{fs:List FE}{p p2 pos:Pos}
theorem vals3{x y z:V}{us:List Value}(r:Vals [x,y,z] us):∃u v w,us=[u,v,w]/\RelV x u/\RelV y v/\RelV z w:=by
 cases r with
 |cons r1 r=>
  cases r with
  |cons r2 r=>
   cases r with
   |cons r3 r=>cases r;exact⟨_,_,_,rfl,r1,r2,r3⟩
theorem x6(hc:X.calm=true):dP X (.builtin "min") (fun xs H Q=>∃a b c:Int,xs=[.int a,.int b,.int c]/\Q (.int (if b<a then (if c<b then c else b) else (if c<a then c else a))) H):=by
 intro eU s σ H xs us Q I r h;obtain⟨i,j,l,rfl,q⟩:=h;obtain⟨u,v,w',rfl,⟨t,rfl⟩,⟨t',rfl⟩,⟨t'',rfl⟩⟩:=vals3 r;refine PySem.min_three_ints (I.ok.hd hc) fun h' tk k=>⟨_,H,I.kept k,?_,q⟩;by_cases h1:j<i
 ·rw[if_pos h1,if_pos h1];by_cases h2:l<j
  ·rw[if_pos h2,if_pos h2];exact⟨_,rfl⟩
  ·rw[if_neg h2,if_neg h2];exact⟨_,rfl⟩
 ·rw[if_neg h1,if_neg h1];by_cases h2:l<i
  ·rw[if_pos h2,if_pos h2];exact⟨_,rfl⟩
  ·rw[if_neg h2,if_neg h2];exact⟨_,rfl⟩
theorem zO(hc:X.calm=true)(hg:Gl X "all")(hm:X.mg "all" = none)(ha:DA X [e] fs)(he:starEach [e] X.env=[(false,eval e X.env)]:=by rfl)(ED:(backTo pos (starEach [] X.env)).any (·.1)=false:=by rfl) :
  DE X (.Call (.Name "all" p) [e] [] pos) (Dm.eB Dm.rO fs):=xW (xY hc) Gu (by rfl) hg hm ha (he:=he) (ED:=ED)
theorem Gw(hc:X.calm=true)(hg:Gl X "min")(hm:X.mg "min" = none)(ha:DA X [a,b,c] fs)(he:starEach [a,b,c] X.env=(false,eval a X.env)::starEach [b,c] X.env:=by rfl)(ED:(backTo pos (starEach [b,c] X.env)).any (·.1)=false:=by rfl) :
  DE X (.Call (.Name "min" p) [a,b,c] [] pos) (Dm.eB Dm.bf fs):=xW (x6 hc) CF (by rfl) hg hm ha (he:=he) (ED:=ED)
theorem Jv(hg:Gl X "int")(hm:X.mg "int" = none)(ha:DA X [e] fs)(he:starEach [e] X.env=[(false,eval e X.env)]:=by rfl)(ED:(backTo pos (starEach [] X.env)).any (·.1)=false:=by rfl) :
  DE X (.Call (.Name "int" p) [e] [] pos) (Dm.eB Dm.bR fs):=zH xH Gv (by rfl) hg hm ha (he:=he) (ED:=ED)
def Et:V->List V->Hp->VK->Prop:=fun x vs H Q=>∃i:Int,x=.int i/\vs=[]/\Q (.int (Dm.bits i)) H
theorem CG:MtR X "int.bit_length" Et:=by
 intro eU s σ H x xs v us Q I rx rs h;obtain⟨i,rfl,rfl,q⟩:=h;cases rs;obtain⟨t,rfl⟩:=rx;refine PyProof.Rows.call_int_bit_length ?_;refine⟨.int (Dm.bits i),H,I.tok _,⟨s.toks,?_⟩,q⟩
 congr 1
 unfold Builtin.Int.intBits Dm.bits;by_cases h0:i=0
 ·subst h0;rfl
 ·have:(i == 0)=false:=by simpa using h0
  rw[if_neg h0,this];rfl
theorem Gx{K:Mv}{σ:L2.St}{H:Hp}{Q:VK}(h:tD (Dm.e1 Dm.aP f) σ H Q):II K "int" Et (tD f) σ H Q:=by
 obtain⟨H0,ρ,x,ρ',st,e,k⟩:=h;unfold Dm.e1 at e;split at e
 ·cases e
 rename_i x1 ρ1 e1;split at e
 ·cases e
 rename_i dx p1;split at e
 ·cases e
 rename_i z gz;unfold Dm.aP at gz;split at gz
 ·cases gz;cases e;refine⟨H0,ρ,x1,_,st,e1,fun v H1 Hb t1 r1=>?_⟩;cases aC (r1.look t1.st p1);exact⟨rfl,_,rfl,rfl,k _ H1 Hb t1 (Rep.int _)⟩
 ·cases gz
theorem Gy{ap cp:Pos}(h:DE X e f)(Ka:attributeBase e "bit_length" X.env (eval e X.env)=eval e X.env:=by rfl)(G_:(ap.endLine == cp.line)=true:=by rfl) :
  DE X (.Call (.Attribute e "bit_length" ap) [] [] cp) (Dm.e1 Dm.aP f):=
 PE.weak (FY PySem.F.plainAttrs_int PySem.F.slot_int_bit_length PySem.F.type_int_bit_length CG h Ka G_) fun _ _ _=>Gx
end
noncomputable def eu(sc:Scope):List Str->List Str->Bool
 |[],[]=>true
 |x::N,y::nm=>(x == y||(sc.names.lookup y).isNone)&&eu sc N nm
 |_,_=>false
theorem eu.len{sc:Scope}:∀{N nm:List Str},eu sc N nm=true->nm.length=N.length
 |[],[],_=>rfl
 |[],_::_,h=>by cases h
 |_::_,[],h=>by cases h
 |x::N,y::nm,h=>by rw[eu,MY]at h;rw[gV,gV,eu.len h.2]
theorem eu.at{sc:Scope}:∀{N nm:List Str},eu sc N nm=true->∀(i:Nat) (x:Str),nm[i]?=some x->N[i]?=some x\/sc.names.lookup x=none
 |[],[],_,i,x,e=>by simp at e
 |[],_::_,h,_,_,_=>by cases h
 |_::_,[],h,_,_,_=>by cases h
 |x::N,y::nm,h,0,z,e=>by
  rw[eu,MY,Pr]at h;simp at e;subst e;rcases h.1 with q | q
  ·have:x=y:=by simpa using q
   subst this;exact .inl rfl
  ·exact .inr (by simpa using q)
 |x::N,y::nm,h,i+1,z,e=>by rw[eu,MY]at h;rw[Dk]at e ⊢;exact eu.at h.2 i z e
noncomputable def pX(osc:Scope)(N nm:List Str)(sc:Scope):Bool:=
 sc.names.all (fun y=>y.2 != .cell)&&sc.names.all (fun y=>y.2 != .local||sc.names.lookup y.1 == some .local) &&
 sc.names.all (fun y=>y.2 != .free||(osc.names.lookup y.1 == some .cell||osc.names.lookup y.1 == some .free))&&nm.all (fun x=>sc.names.lookup x != some .local)&&eu sc N nm
theorem fm.of{X:Cx}{nm:List Str}{scope:Scope}(h:pX X.env.scope X.N nm scope=true)(hk:scope.kind=.function):fm X nm scope:=by
 unfold pX at h;simp only[MY,M3]at h;obtain⟨⟨⟨⟨h1,h2⟩,h3⟩,h4⟩,h5⟩:=h;refine⟨hk,fun y hy=>?_,fun y hy hl=>?_,fun y hy hf=>?_,fun x hx=>?_,eu.len h5,eu.at h5⟩
 ·have:=h1 y hy;simpa using this
 ·have:=h2 y hy;rw[hl]at this
  simpa using this
 ·have:=h3 y hy;rw[hf]at this;have:(X.env.scope.names.lookup y.1 == some .cell||X.env.scope.names.lookup y.1 == some .free)=true:=by simpa using this
  rw[Pr,beq_iff_eq,beq_iff_eq]at this;exact this
 ·have:=h4 x hx;simpa using this
section
variable{X:Cx}{LV tg iter:Expr}{LW:List Expr}{scope:Scope}{pos:Pos}{fi:Dm.FI}{bd:Dm.FB}{is:List Nat}{t:FT}{f:FE}
theorem vX{l:List Nat}{n:Nat}(h:(l.all fun i=>decide (n<=i))=true):∀i∈l,n<=i:=fun i hi=>of_decide_eq_true (M3.mp h i hi)
theorem Gz(nm own:List Str)(hg:TGc X nm scope own tg is bd)(hi:DI X tg iter fi)(ht:∀cl C s H fp,DTs (bZ X nm scope own cl C s H fp) LW t)(he:∀cl C s H fp,DE (bZ X nm scope own cl C s H fp) LV f)
  (hc:X.calm=true:=by rfl) (hk:scope.kind=.function:=by rfl) (hS:pX X.env.scope X.N nm scope=true:=by rfl) (hl:(is.all fun i=>decide (X.N.length<=i))=true:=by rfl) (hs:∀x,foldedSetIterable iter X.env x=pure x:=by intro _;rfl) :
  DE X (.ListComp LV [⟨tg,iter,LW,0⟩] scope pos) (Dm.cP fi own.length bd t f):=Gr hc (fm.of hS hk) hi hg ht he (vX hl) hs
theorem GA(j:Nat)(nm own:List Str){y:Str}{py Ru:Pos}(hN:X.N.Nodup)(hg:TGc X nm scope own tg is bd)(hi:DI X tg iter fi)(ht:∀cl C s H fp,DTs (bZ X nm scope own cl C s H fp) LW t)(he:∀cl C s H fp,DE (bZ X nm scope own cl C s H fp) LV f)
  (hc:X.calm=true:=by rfl) (hk:scope.kind=.function:=by rfl) (hS:pX X.env.scope X.N nm scope=true:=by rfl) (hl:(is.all fun i=>decide (X.N.length<=i))=true:=by rfl) (hj:X.N[j]?=some y:=by rfl) (hy:Loc X.env.scope y:=by trivial)
  (hsw:swapsWith (.ListComp LV [⟨tg,iter,LW,0⟩] scope pos) (some (.Name y py)) Ru.line X.env=pure true:=by rfl) (hs:∀x,foldedSetIterable iter X.env x=pure x:=by intro _;rfl)
  (hf:X.fn y=true\/X.env.scope.names.lookup y=some .local:=by trivial):DS X (.Assign [.Name y py] (.ListComp LV [⟨tg,iter,LW,0⟩] scope pos) Ru) (Dm.sA j (Dm.cP fi own.length bd t f)):=
 Gs j hN hc (fm.of hS hk) hi hg ht he (vX hl) hj hy hsw hs hf
end
section
variable{f:FE}{a:Addr}{X:Cx}{H:Hp}
theorem PI.or{tg it:Expr}{t t':TI}(h:PI X tg it t)(h':PI X tg it t'):PI X tg it (fun σ H R=>t σ H R\/t' σ H R):=fun eU s σ H R I q=>q.elim (h eU s σ H R I) (h' eU s σ H R I)
theorem Jw{K:Mv}{σ:L2.St}{R:It->Hp->Prop}(h:tDI (Dm.iS f) σ H R):rJ K (tD f) σ H R\/yX K (tD f) σ H R:=by
 obtain⟨H0,ρ,ys,ρ',st,e,k⟩:=h;unfold Dm.iS at e;split at e
 ·cases e
 rename_i x ρ1 e1;split at e
 ·rename_i ds ρ2 e2;cases e;exact .inl (Lv ⟨H0,ρ,_,_,st,by unfold Dm.iL;rw[e1];dsimp only;rw[e2],k⟩)
 ·rename_i ds ρ2 e2;cases e;exact .inr (Lw ⟨H0,ρ,_,_,st,by unfold Dm.iT;rw[e1];dsimp only;rw[e2],k⟩)
 ·cases e
theorem i_S{tg e:Expr}(h:DE X e f):DI X tg e (Dm.iS f):=PI.weak (PI.or (vJ h) (yY h)) fun _ _ _=>Jw
noncomputable def zP(K:Mv):Bool:=K.all fun p=>match p.2.cls with | .type n=>n != "list" | _=>true
theorem lookup_mem{o:Obj}:∀{K:List (Addr×Obj)},K.lookup a=some o->(a,o)∈K
 |[],h=>by cases h
 |(b,x)::r,h=>by
  rw[Nn]at h;cases q:a == b with
  |true=>
   rw[q]at h;cases h;have:a=b:=by simpa using q
   rw[this];exact MM
  |false=>rw[q]at h;exact MK _ (lookup_mem h)
theorem GB{f:List Dat->Option RV}{K:Mv}{ns:List Int}{E:XK}(hf:f [.lst (ns.map Dat.int)]=some (.val (.bl true)))(hK:zP K=true)(hS:SqL K H a (ns.map V.int)) :
  spD f [.ref a] H (fun v _=>v=.bl true) E:=by
 have hq:Rd H a (.lst (ns.map V.int)):=by
  rcases hS with h | ⟨o,its,n,hk,hc,_⟩
  ·exact h
  ·have:=M3.mp hK _ (lookup_mem hk);dsimp only at this;rw[hc]at this;exact absurd this (by decide)
 have hr:∀ns:List Int,bg H (ns.map V.int) (ns.map Dat.int):=fun ns=>by
  induction ns with
  |nil=>exact .nil
  |cons n ns ih=>exact .cons (.int n) ih
 exact⟨H,_,_,aF.refl _,.cons (.lst hq (hr ns)) .nil,hf,fun v H0' H' _ r=>Rep.qz r⟩
end
end Br
namespace Dm
noncomputable def iRd(a b c:FE):FI:=fun ρ=>match a ρ with
 | some (.val (.int i),ρ1)=>(match b ρ1 with
  | some (.val (.int j),ρ2)=>(match c ρ2 with
   |some (.val (.int k),ρ3)=>if k=-1/\j<=BIG/\-BIG<=j/\i<=BIG/\-BIG<=i then some (downs i (i-j).toNat,ρ3) else none
   |_=>none)
  |_=>none)
 |_=>none
noncomputable def x8(a:FE):FI:=fun ρ=>match a ρ with
 |none=>none
 |some (x,ρ1)=>match tk ρ1 x with
  |some (.lst ds,ρ2)=>some (ds.reverse,ρ2)
  |_=>none
noncomputable def j0:Nat->List Dat->List Dat
 |_,[]=>[]
 |i,d::ds=>.tup [.int (i:Nat),d]::j0 (i+1) ds
noncomputable def iEn(a:FE):FI:=fun ρ=>match a ρ with
 |none=>none
 |some (x,ρ1)=>match tk ρ1 x with
  |some (.lst ds,ρ2)=>some (j0 0 ds,ρ2)
  |_=>none
noncomputable def kJ(d:Dat):Option RV:=match d with
 |.lst ds=>some (.new (.lst ds.reverse))
 |_=>none
noncomputable def gw:List Dat->Option RV
 |[.int j]=>if j<=1000000/\-1000000<=j then some (.new (.lst (ups 0 j.toNat))) else none
 |_=>none
end Dm
namespace Br
open PySem PySem.Spec PyProof.Rows L2
theorem pY{X:Cx}{eU:List (Addr×Obj)}{σ:L2.St}{H:Hp}{s:Shared}{h':Heap}{t':Nat}{fp:List Addr}{p:Addr}{o:HO}(I:Inv X eU σ H s)(hf:∀b∈fp,pB X eU H b)
  (k:∀b u,b∉fp->s.heap.get? b=some u->h'.get? b=some u) (hp:s.heap.objs.size<=p) (new:ck X.prog X.w (upd H p o) h' p o):Inv X eU σ (upd H p o) { s with heap:=h',toks:=t' }:=by
 have hn:H p=none:=I.hok.fresh hp;have nf:∀b u,H b=some u->b∉fp:=fun b u e z=>by rw[(hf b z).1]at e;cases e
 have nL:X.env.locals∉fp:=fun z=>(hf _ z).2.1 rfl;refine I.step (g':=s.gens) (d':=s.drawn) (ch:=fp) (fun b hb=>?_) (fun b u _ _ hc e _=>k b u hc e) (fun b u _ _ hc e _=>⟨u.slots,k b u hc e⟩)
  (fun b u _ e n=>by rw[ay (Nb (MZ (MS e) hp))];exact n) (fun b u hc e=>⟨u,k b u hc e⟩)
  (fun b xs q=>by rw[ay (aZ q hn)];exact q) (fun b u xs q=>by rw[ay (aZ q hn)];exact q) (fun b _ _ _ q=>by rw[ay (aZ q hn)];exact q) (fun m hm=>?_) (fun b u e=>?_) I.bare
 ·obtain⟨f0,f1,f2,f3,f4,f5⟩:=hf b hb;exact⟨f3,f1,f4,f5⟩
 ·obtain⟨o,es,ep,ho,r⟩:=hm;exact⟨o,es,ep,k _ o nL ho,r⟩
 ·by_cases hb:b=p
  ·subst hb;rw[aY]at e;cases e;exact new
  ·rw[ay hb]at e;refine(I.hok b u e).stay (fun c v hc q=>k c v ?_ q) (fun c q=>by rw[ay (aZ q hn)];exact q) (fun c _ _ q=>by rw[ay (aZ q hn)];exact q) fun c xs q=>by rw[ay (aZ q hn)];exact q
   rcases hc with z | z
   ·rw[z];exact nf b u e
   ·exact nf c _ z
noncomputable def Itv(K:Mv)(a:Addr)(n:Nat):It:=
 ⟨fun i H=>∃xs x,SqL K H a xs/\xs.length=n/\xs.reverse[i]?=some x,fun i H x H'=>H'=H/\∀xs,SqL K H a xs->xs.reverse[i]?=some x,fun i H=>n<=i⟩
theorem zQ{P:Program}{w:World}{K:Mv}{tg:Expr}(a it:Addr)(n:Nat):Turn P w K tg (Itv K a n) [it] it (fun i h=>i<=n/\h.IsRevIter it a ((n:Int)-1-(i:Nat))) where
 mem:=by simp
 obj:=fun i h st b hb=>by
  have e:b=it:=by simpa using hb
  subst e;obtain⟨_,o,e,c,d⟩:=st;exact⟨o,e,fun v z=>by rw[d]at z;cases z⟩
 keep:=fun i h h' st k=>⟨st.1,st.2.at fun o e=>k it (by simp) o e⟩
 item:=by
  intro X hP hw hK hc i eU s σ H E I hf st hg;subst hP hw hK;obtain⟨xs,x,hq,hl,hx⟩:=hg;obtain⟨its,rv,p,hz⟩:=I.list hq;have hi:i<n:=by have:=(MT.mp hx).1;rw[N2,hl]at this;exact this
  rw[OD (by lia),hl]at hx;obtain⟨u,hu,ru⟩:=rv.get hx;obtain⟨f0,f1,f2,f3,f4,f5⟩:=hf it (by simp);obtain⟨_,st⟩:=st;have ei:((n:Int)-1-(i:Nat))=((n-1-i:Nat):Int):=by lia
  rw[ei]at st;refine wpAny_pyNext_rev_item st p.isList (x:=u) (by simpa using hu) fun h' st' sb=>?_;have ej:((n-1-i:Nat):Int)-1=(n:Int)-1-((i+1:Nat):Int):=by lia
  rw[ej]at st';have I1:Inv X eU σ H { s with heap:=h' }:=I.turned (t':=s.toks) (fun b o hb e=>(sb.2 b hb).trans e) f0 f1 f3 f4 f5;obtain⟨o,e,c,d⟩:=id st';refine⟨u,rfl,pM (s:={ s with heap:=h' }) e c d (by decide) ⟨x,H,I1,ru,⟨rfl,fun ys hy=>?_⟩,⟨hi,st'⟩,fun b hb=>(hf b hb).1⟩⟩;rw[I.gD hy hq,OD (by lia),hl];exact hx
 done:=by
  intro X hP hw hK hc i eU s σ H E I hf st hg;subst hP hw hK;obtain⟨f0,f1,f2,f3,f4,f5⟩:=hf it (by simp);obtain⟨h1,st⟩:=st;have h2:n<=i:=hg;have ei:((n:Int)-1-(i:Nat))=-1:=by lia
  rw[ei]at st;exact wpAny_pyNext_rev_end (I.ok.hd hc) st fun h' eb=>⟨rfl,I.turned (t':=s.toks) (fun b o hb e=>eb b o hb e) f0 f1 f3 f4 f5⟩
 self:=fun _ _ _ _ _ st h=>wpAny_pyIter_revIter st.2 h
def Eu(K:Mv)(tl:TE):TI:=fun σ H R=>tl σ H fun x H1=>∃a xs,x=.ref a/\SqL K H1 a xs/\R (Itv K a xs.length) H1
section
variable{X:Cx}{tg l:Expr}{tl:TE}{p pos:Pos}
theorem zR{Q:Value->Shared->Prop}{Qx:VK}{eU:List (Addr×Obj)}{s:Shared}{σ:L2.St}{H:Hp}(hg:Gl X "reversed")(hm:X.mg "reversed" = none)(hl:PE X l tl)(hs:starEach [l] X.env=[(false,eval l X.env)])(I:Inv X eU σ H s)(h:tl σ H Qx)
  (k:∀x H1 s1,Inv X eU σ H1 s1->Qx x H1->∃a xs,x=.ref a/\SqL X.K H1 a xs/\∀its:List Value,Vals xs its->PlainL s1.heap a its.toArray->xs.length<=sizeLine->Q (.ref s1.heap.objs.size) { s1 with heap:=s1.heap.push (revObj a ((its.toArray.size:Int)-1)) }) :
  wpAny (model X.prog X.w) X.A (eval (.Call (.Name "reversed" p) [l] [] pos) X.env) Q X.xe s:=by
 refine Call_ (eT I hg hm boot_reversed (Na (spliced_more ?_ (by rw[hs];rfl)) (by rw[hs];rfl) rfl));refine thn (hl eU s σ H _ I h) fun v s1 ⟨x,H1,I1,r1,q1⟩=>?_;obtain⟨a,xs,e,hq,q⟩:=k x H1 s1 I1 q1;subst e;cases r1;obtain⟨its,rv,pl,hz⟩:=I1.list hq;refine N4 (call_reversed_list pl.isList (q its rv pl hz))
theorem GC(hg:Gl X "reversed")(hm:X.mg "reversed" = none)(hl:PE X l tl)(hs:starEach [l] X.env=[(false,eval l X.env)]:=by rfl):PI X tg (.Call (.Name "reversed" p) [l] [] pos) (Eu X.K tl):=by
 intro eU s σ H R I h;refine zR hg hm hl hs I h fun x H1 s1 I1 q1=>?_;obtain⟨a,xs,e,hq,q⟩:=q1;refine⟨a,xs,e,hq,fun its rv pl hz=>?_⟩;have hn:(its.toArray.size:Int)=((xs.length:Nat):Int):=by rw[MW,rv.length]
 have st:({ s1 with heap:=s1.heap.push (revObj a ((its.toArray.size:Int)-1)) }:Shared).heap.IsRevIter s1.heap.objs.size a (((xs.length:Nat):Int)-1-((0:Nat):Int)):=⟨_,M9 _ rfl,rfl,by rw[hn];simp[revObj]⟩
 refine wpAny_pyIter_revIter st ?_;refine⟨s1.heap.objs.size,[s1.heap.objs.size],_,_,H1,rfl,I1.kept (t':=s1.toks) fun b o e=>MR _ e,zQ a _ xs.length,⟨Nc _,st⟩,fun b hb=>?_,q⟩;have e:b=s1.heap.objs.size:=by simpa using hb
 subst e;exact I1.rH (MO _) (I1.hok.fresh (MO _))
end
noncomputable def Itd(hi:Int)(n:Nat):It:=⟨fun i _=>i<n,fun i H x H'=>H'=H/\x=.int (hi-i),fun i _=>n<=i⟩
theorem x9{P:Program}{w:World}{K:Mv}{tg:Expr}(it:Addr)(lo:Int)(n:Nat):Turn P w K tg (Itd lo n) [it] it (fun i h=>IsRangeIter h it (lo+(i:Nat)*(-1)) ((n:Int)-(i:Nat)) (-1)) where
 mem:=by simp
 obj:=fun i h st b hb=>by
  have e:b=it:=by simpa using hb
  subst e;exact ⟨_,st,fun v z=>by have z':Pw _=OU v:=z;cases z'⟩
 keep:=fun i h h' st k=>k it (by simp) _ st
 item:=by
  intro X hP hw hK hc i eU s σ H E I hf st hg;subst hP hw hK;obtain⟨f0,f1,f2,f3,f4,f5⟩:=hf it (by simp);have W:=Walks.range (prog:=X.prog) (w:=X.w) (I.ok.hd hc) it lo (-1) n;refine W.item i s _ _ hg st fun v h' tk hv st' kk=>?_;obtain⟨t,rfl⟩:=hv;have I1:Inv X eU σ H { s with heap:=h',toks:=tk }:=I.turned (fun b o hb e=>kk b o (by simpa using hb) e) f0 f1 f3 f4 f5;refine⟨_,rfl,pM (s:={ s with heap:=h',toks:=tk }) (n := "range_iterator") st' rfl rfl (by decide) ⟨.int (lo-i),H,I1,⟨t,?_⟩,⟨rfl,rfl⟩,st',fun b hb=>(hf b hb).1⟩⟩;have:lo+(i:Int)*(-1)=lo-i:=by lia
  rw[this]
 done:=by intro X hP hw hK hc i eU s σ H E I hf st hg;subst hP hw hK;obtain⟨f0,f1,f2,f3,f4,f5⟩:=hf it (by simp);exact wpAny_pyNext_range_end (I.ok.hd hc) st (by have:n<=i:=hg;lia) fun h' eb=>⟨rfl,I.turned (t':=s.toks) (fun b o hb e=>eb b o hb e) f0 f1 f3 f4 f5⟩
 self:=fun _ _ _ _ _ st h=>wpAny_pyIter_rangeiter st h
theorem rangeSize_down(a b:Int):NQ a b (-1)=if b<a then a-b else 0:=by
 unfold NQ;simp only[show ¬((-1:Int)>0) by decide,if_false];have:(-(-1:Int))=1:=by decide
 rw[this];simp only[Int.ediv_one];split<;>lia
theorem small_down{a b:Int}(ha:-(2 ^ 61)<=a)(ha':a<2 ^ 61)(hb:-(2 ^ 61)<=b)(hb':b<2 ^ 61):Builtin.Range.small a b (-1)=true:=by unfold Builtin.Range.small;rw[rangeSize_down];simp only[Builtin.Range.rangeFitsLong,MY,Pr,decide_eq_true_eq,beq_iff_eq,show ¬((-1:Int)>0) by decide,if_false];split<;>lia
section
variable{X:Cx}{tg:Expr}
def Ew(ta:TA):TI:=fun σ H R=>ta σ H fun vs H1=>∃i j:Int,vs=[.int i,.int j,.int (-1)]/\(-(2 ^ 61)<=i/\i<2 ^ 61/\-(2 ^ 61)<=j/\j<2 ^ 61)/\R (Itd i (i-j).toNat) H1
theorem x_{a b c:Expr}{ta:TA}{p pos:Pos}(hg:Gl X "range")(hm:X.mg "range" = none)(ha:PA X [a,b,c] ta)(hs:starEach [a,b,c] X.env=(false,eval a X.env)::starEach [b,c] X.env:=by rfl)(hs2:(backTo pos (starEach [b,c] X.env)).any (·.1)=false:=by rfl) :
  PI X tg (.Call (.Name "range" p) [a,b,c] [] pos) (Ew ta):=by
 intro eU s σ H R I h;refine Call_ (eT I hg hm boot_range (Na (thn (ha pos eU s σ H _ I h) fun us s1 ⟨vs,H1,I1,r1,q1⟩=>?_) hs hs2));obtain⟨i,j,e,⟨q1,q2,q3,q4⟩,q⟩:=q1;subst e;cases r1 with
 |cons r rr=>
  cases rr with
  |cons r' rr=>
   cases rr with
   |cons r'' rr=>
   cases rr;obtain⟨t,rfl⟩:=r;obtain⟨t',rfl⟩:=r';obtain⟨t'',rfl⟩:=r'';refine call_range_3 (by decide) ?_ (Or.inl (PyProof.noPylong_small (by lia)));refine wpAny_pyIter_range (IsRange.new ..) (small_down q1 q2 q3 q4) ?_;have I2:Inv X eU σ H1 { s1 with heap:=s1.heap.push { cls:=.type "range",data:=.fields #[.int i t,.int j t',.int (-1) t''] },toks:=s1.toks }:=I1.kept fun b o e=>MR _ e;refine ⟨(s1.heap.push { cls:=.type "range",data:=.fields #[.int i t,.int j t',.int (-1) t''] }).objs.size,[(s1.heap.push { cls:=.type "range",data:=.fields #[.int i t,.int j t',.int (-1) t''] }).objs.size],_,_,H1,rfl,
    I2.kept (t':=s1.toks) fun b o e=>MR _ e,x9 _ i (i-j).toNat,?_,fun b hb=>?_,q⟩
   ·have e1:i+((0:Nat):Int)*(-1)=i:=by lia
    have e2:(((i-j).toNat:Nat):Int)-((0:Nat):Int)=NQ i j (-1):=by rw[rangeSize_down];split<;>lia
    show IsRangeIter _ _ (i+((0:Nat):Int)*(-1)) ((((i-j).toNat:Nat):Int)-((0:Nat):Int)) (-1);rw[e1,e2];exact M9 _ rfl
   ·have e:b=(s1.heap.push { cls:=.type "range",data:=.fields #[.int i t,.int j t',.int (-1) t''] }).objs.size:=by simpa using hb
    subst e;exact I2.rH (MO _) (I2.hok.fresh (MO _))
end
noncomputable def Ite(K:Mv)(a:Addr):It:=
 ⟨fun i H=>∃xs x,SqL K H a xs/\xs[i]?=some x,fun i H x H'=>∃p v,H p=none/\x=.ref p/\H'=upd H p (.tup [.int i,v])/\∀xs,SqL K H a xs->xs[i]?=some v,fun i H=>∃xs,SqL K H a xs/\xs.length<=i⟩
theorem ya{P:Program}{w:World}{K:Mv}{elts:List Expr}{x1}{tp:Pos}(a e it:Addr)(Rz:e≠it):Turn P w K (.Tuple elts x1 tp) (Ite K a) [e,it] e (fun i h=>(∃old,IsEnum h e it (i:Nat) old)/\h.IsListIter it a i) where
 mem:=by simp
 obj:=fun i h st b hb=>by
  obtain⟨⟨old,he⟩,o,e1,c,d⟩:=st;rcases MV.mp hb with rfl | hb
  ·exact ⟨_,he,fun v z=>by have z':Pw _=OU v:=z;cases z'⟩
  ·have e2:b=it:=by simpa using hb
   subst e2;exact⟨o,e1,fun v z=>by rw[d]at z;cases z⟩
 keep:=fun i h h' st k=>⟨let ⟨old,he⟩:=st.1;⟨old,k e (by simp) _ he⟩,st.2.at fun o z=>k it (by simp) o z⟩
 item:=by
  intro X hP hw hK hc i eU s σ H E I hf st hg;subst hP hw hK;obtain⟨xs,x,hq,hx⟩:=hg;obtain⟨its,rv,p,hz⟩:=I.list hq;obtain⟨u,hu,ru⟩:=rv.get hx;obtain⟨⟨old,he⟩,LX⟩:=st;refine wpAny_pyNext_enum_item he LX p.isList (x:=u) (by simpa using hu) Rz fun h1 heo LL ht1 hz1 hk1=>?_;refine⟨_,rfl,wpAny_letOwnedTupleGo_enum heo fun h2 he2 hs2=>?_⟩;have L8:e<s.heap.objs.size:=MS he;have ht2:h2.get? s.heap.objs.size=some { cls:=.type "tuple",data:=.seq #[.int i s.toks,u] }:=(hs2.2 _ (NZ L8)).trans ht1;have k2:∀b o,b∉[e,it]->s.heap.get? b=some o->h2.get? b=some o:=fun b o hb z=>by have n1:b≠e:=fun y=>hb (by simp[y]);have n2:b≠it:=fun y=>hb (by simp[y]);exact(hs2.2 b n1).trans (hk1 b o n1 n2 z)
  have hn:H s.heap.objs.size=none:=I.hok.fresh (MO _);have I2:Inv X eU σ (upd H s.heap.objs.size (.tup [.int i,x])) { s with heap:=h2,toks:=s.toks+1 }:=
   pY I hf k2 (MO _) ⟨by simp[sizeLine],[.int i s.toks,u],.cons ⟨s.toks,rfl⟩ (.cons ru .nil),_,ht2,rfl,_,rfl⟩
  refine⟨.ref s.heap.objs.size,_,I2,rfl,⟨_,x,hn,rfl,rfl,fun ys hy=>by rw[I.gD hy hq];exact hx⟩,⟨⟨u,?_⟩,?_⟩,fun b hb=>?_⟩
  ·have:(((i+1:Nat):Int))=(i:Int)+1:=by lia
   rw[this];exact he2
  ·exact LL.at fun o z=>(hs2.2 it (Nt Rz)).trans z
  ·have hb1:b≠s.heap.objs.size:=fun y=>by
    rcases MV.mp hb with z | z
    ·rw[y]at z;exact absurd z (NZ L8)
    ·have z':b=it:=by simpa using z
     obtain⟨o,ho,_⟩:=LX;have:=MS ho;rw[<- z',y]at this;exact Nz _ this
   rw[ay hb1];exact(hf b hb).1
 done:=by intro X hP hw hK hc i eU s σ H E I hf st hg;subst hP hw hK;obtain⟨xs,hq,hx⟩:=hg;obtain⟨its,rv,p,hz⟩:=I.list hq;obtain⟨f0,f1,f2,f3,f4,f5⟩:=hf it (by simp);obtain⟨⟨old,he⟩,LX⟩:=st;have hl:=rv.length;exact wpAny_pyNext_enum_end (I.ok.hd hc) he LX p.isList (by simp;lia) fun h' eb=>⟨rfl,I.turned (t':=s.toks) (fun b o hb e=>eb b o hb e) f0 f1 f3 f4 f5⟩
 self:=fun A i s Q E st h=>by
  obtain⟨⟨old,he⟩,LX⟩:=st;have hT:s.TypeIs (.ref e) "enumerate" := ⟨_,he,rfl⟩
  refine wpAny_pyIter_slot hT F.slot_enumerate_iter (wpAny_call_entry F.slot_enumerate_iter hT F.entry_enumerate_iter ?_ (F.args_enumerate_iter_1 _));show wpAny _ _ (ret (.ref e)) _ _ s;exact wpAny_pure ⟨_,rfl,"enumerate",_,hT,F.slot_enumerate_next.lookup,h⟩
def Jx(K:Mv)(tl:TE):TI:=fun σ H R=>tl σ H fun x H1=>∃a,x=.ref a/\(∃xs,SqL K H1 a xs)/\R (Ite K a) H1
section
variable{X:Cx}{l:Expr}{tl:TE}{p pos:Pos}{elts:List Expr}{x1:Nat}{tp:Pos}
theorem CH(hg:Gl X "enumerate")(hm:X.mg "enumerate" = none)(hl:PE X l tl)(hs:starEach [l] X.env=[(false,eval l X.env)]:=by rfl):PI X (.Tuple elts x1 tp) (.Call (.Name "enumerate" p) [l] [] pos) (Jx X.K tl):=by
 intro eU s σ H R I h;refine Call_ (eT I hg hm boot_enumerate (Na (spliced_more ?_ (by rw[hs];rfl)) (by rw[hs];rfl) rfl));refine thn (hl eU s σ H _ I h) fun v s1 ⟨x,H1,I1,r1,q1⟩=>?_;obtain⟨a,e,⟨xs,hq⟩,q⟩:=q1;subst e;cases r1;obtain⟨its,rv,pl,hz⟩:=I1.list hq;refine N4 (call_enumerate_list pl.isList fun h' he LX hsz k=>?_);have I2:Inv X eU σ H1 { s1 with heap:=h' }:=I1.kept (t':=s1.toks) k;have T:=ya (P:=X.prog) (w:=X.w) (K:=X.K) (elts:=elts) (x1:=x1) (tp:=tp) a (s1.heap.objs.size+1) s1.heap.objs.size (Nat.succ_ne_self _);refine T.self X.A 0 { s1 with heap:=h' } _ X.xe ⟨⟨_,he⟩,LX⟩ ?_;refine⟨s1.heap.objs.size+1,[s1.heap.objs.size+1,s1.heap.objs.size],_,_,H1,rfl,I2,T,⟨⟨_,he⟩,LX⟩,fun b hb=>?_,q⟩;have:s1.heap.objs.size<=b:=by
  rcases MV.mp hb with rfl | hb
  ·exact Py _
  ·have:b=s1.heap.objs.size:=by simpa using hb
   exact Nat.le_of_eq this.symm
 exact I1.rH this (I1.hok.fresh this)
end
theorem uO:typeLookup (.type "list_reverseiterator") "__len__" = pure none:=by rw[typeLookup_type,builtinLookup_eq_fast];kernel_rfl
theorem zS:typeLookup (.type "list_reverseiterator") "__length_hint__" = pure (some (.builtin "list_reverseiterator.__length_hint__")):=by rw[typeLookup_type,builtinLookup_eq_fast];kernel_rfl
section
variable{prog:Program}{w:World}{A:Around}{E:Value->Shared->Prop}{s:Shared}
section
variable{I l:Addr}
theorem zT{i:Int}{Q:Bool->Shared->Prop}(LX:s.heap.IsRevIter I l i)(h:Q false s):wpAny (model prog w) A (Builtin.List.listLengthHint (.ref I)) Q E s:=by
 unfold Builtin.List.listLengthHint;refine wpAny_bind (wpAny_specialOf LX.typeIs uO ?_);show wpAny _ A (specialOf (Nq I) (Str.ofString "__length_hint__") >>= _) _ _ _;refine wpAny_bind (wpAny_specialOf LX.typeIs zS ?_)
 generalize hid:("list_reverseiterator.__length_hint__" : String)=id0
 wp_delta
 rw[show splitId id0=some ("list_reverseiterator","__length_hint__") from by subst hid;decide +kernel];subst hid;refine wpAny_bind (wpAny_isInstance (T := "list_reverseiterator") (b:=true) LX.typeIs (by rw[isSubtype_type];kernel_rfl) ?_);refine wpAny_ite_split (fun Ry=>absurd Ry (by decide)) (fun _=>?_);refine wpAny_ite_split (fun _=>?_) (fun Ry=>absurd (by decide +kernel) Ry);refine wpAny_ite_split (fun Ry=>absurd Ry (by decide +kernel)) (fun _=>wpAny_pure h)
theorem uP{R:Result->Shared->Prop}{items:Array Value}(hh:A.handled=none)(LX:s.heap.IsRevIter I l ((items.size:Int)-1))(hl:s.heap.IsList l items)(Rz:l≠I)(Dh:items.size<=sizeLine)
  (S:Addr) (res:Value) (c₀:Nat) (hSI:S≠I) (hSl:S≠l) (hS:s.heap.get? S=some { cls:=.type "list",data:=.seq #[] c₀ })
  (hR:∀ h' tk acc' c',(∀ b o,b≠S→b≠I→s.heap.get? b=some o→h'.get? b=some o)→h'.get? S=some { cls:=.type "list",dict:=none,data:=.seq acc' c',slots:=#[] } →
   ItemsOf (fun i v=>items[items.size-1-i]?=some v) acc' items.size->R (.ok (.ret res)) { s with heap:=h',toks:=tk }) :
  wpAny (model prog w) A.in1 (NU (.ref S) (.ref I) res)
   (fun Rt s'=>match Rt with | .done f=>R (.ok f) s' | .again c'=>c'.quiet=true/\codeAny (model prog w) A c' R s') (fun e s'=>R (.error e) s') s:=by
 have hSf:S∉[I,l]:=fun hm=>by
  rcases MV.mp hm with z | z
  ·exact hSI z
  ·exact hSl (M4.mp z)
 have W:=(Walks.listRev (prog:=prog) (w:=w) (A:=A.in1) hh I l Rz items).toS;unfold NU;refine wpAny_bind (wpAny_typeOf (T := "list_reverseiterator") LX.typeIs ?_);have h1:Builtin.List.listSameRef (.ref S) (.ref I)=false:=by simp[Builtin.List.listSameRef,hSI]
 have h2:(Ou "list_reverseiterator" == Ou "list")=false:=by decide
 have h3:(Ou "list_reverseiterator" == Ou "tuple")=false:=by decide
 simp only[h1,h2,h3,Bool.or_false,OX,if_false];refine wpAny_bind (wpAny_pyIter_revIter LX ?_);refine wpAny_bind (wpAny_holding (zT LX ?_));refine wpAny_ite_split (fun Ry=>absurd Ry (by decide +kernel)) (fun _=>wpAny_pure ⟨plainId_quiet F.plain_extend_loop _,?_⟩);have hst:(0<=items.size)/\s.heap.IsRevIter I l ((items.size:Int)-1-((0:Nat):Int))/\s.heap.IsList l items:=⟨Nc _,by simpa using LX,hl⟩
 refine codeAny_extend_loopS W Dh S hSf res items.size 0 _ #[] c₀ rfl (Nc _) hst hS (ItemsOf.nil _) fun s' acc' c' hm hS' hacc=>?_;rw[Moved.eq_with hm];refine hR s'.heap s'.toks acc' c' (fun b o hb hb2 e=>hm.heap b o (fun hmem=>?_) e) hS' hacc;rcases MV.mp hmem with e' | hmem
 ·exact hb e'
 ·exact hb2 (M4.mp hmem)
theorem zU{R:Result->Shared->Prop}{items:Array Value}(hh:A.handled=none)(LX:s.heap.IsRevIter I l ((items.size:Int)-1))(hl:s.heap.IsList l items)(Rz:l≠I)(Dh:items.size<=sizeLine)
  (S:Addr) (hSI:S≠I) (hSl:S≠l) (hS:s.heap.get? S=some { cls:=.type "list",data:=.seq #[] })
  (hR:∀ h' tk acc' c',(∀ b o,b≠S→b≠I→s.heap.get? b=some o→h'.get? b=some o)→h'.get? S=some { cls:=.type "list",dict:=none,data:=.seq acc' c',slots:=#[] } →
   ItemsOf (fun i v=>items[items.size-1-i]?=some v) acc' items.size->R (.ok (.ret .none)) { s with heap:=h',toks:=tk }) :
  wpAny (model prog w) A.in1 (Builtin.«list.__init__» ⟨[.ref S,.ref I],[]⟩)
   (fun Rt s'=>match Rt with | .done f=>R (.ok f) s' | .again c'=>c'.quiet=true/\codeAny (model prog w) A c' R s') (fun e s'=>R (.error e) s') s:=by
 show wpAny _ A.in1 (do let old <- Builtin.List.listItems (.ref S);Builtin.List.listUpdate (.ref S) (fun _=>#[]);letGo old.toList.reverse;NU (.ref S) (.ref I) .none) _ _ s;refine wpAny_bind ?_;unfold Builtin.List.listItems;refine wpAny_bind (wpAny_seqItems hS rfl (wpAny_pure ?_));show wpAny _ A.in1 (updateSeq S (fun _=>#[]) >>= fun _=>letGo (#[]:Array Value).toList.reverse >>= fun _=>NU (.ref S) (.ref I) .none) _ _ s;refine wpAny_bind (wpAny_updateSeq hS rfl ?_);have hS₂:=N8 (Ov (fun _=>(#[]:Array Value))) hS rfl;have oth:∀b o,b≠S->s.heap.get? b=some o->(s.heap.update S (Ov (fun _=>(#[]:Array Value)))).get? b=some o:=
  fun b o hb e=>(Oz _ _ (Nt hb)).trans e
 refine wpAny_bind (wpAny_letGo ?_);refine uP hh (LX.at fun o e=>oth I o (Nt hSI) e) (hl.at fun o e=>oth l o (Nt hSl) e) Rz Dh S .none _ hSI hSl hS₂ fun h' tk acc' c' hk hS' hacc=>?_;exact hR h' tk acc' c' (fun b o hb hb2 e=>hk b o hb hb2 (oth b o hb e)) hS' hacc
theorem pG{Q:Value->Shared->Prop}{items:Array Value}(hh:A.handled=none)(LX:s.heap.IsRevIter I l ((items.size:Int)-1))(hl:s.heap.IsList l items)(Rz:l≠I)(Dh:items.size<=sizeLine)
  (hQ:∀ h' tk acc' c',(∀ b o,b≠I→s.heap.get? b=some o→h'.get? b=some o)→h'.get? s.heap.objs.size=some { cls:=.type "list",dict:=none,data:=.seq acc' c',slots:=#[] } →
   ItemsOf (fun i v=>items[items.size-1-i]?=some v) acc' items.size->Q (.ref s.heap.objs.size) { s with heap:=h',toks:=tk }) :
  wpAny (model prog w) A (call (.type "list") [.ref I]) Q E s:=by
 refine callType_codes (Q₁:=fun obj s₁=>obj=.ref s.heap.objs.size/\s₁={ s with heap:=s.heap.push { cls:=.type "list",data:=.seq #[] } }) F.called_list (F.typeCall_list_1 _) F.entry_list_init
  (code_list_new _ ⟨rfl,rfl⟩) fun obj s₁ h₁=>?_
 obtain⟨rfl,rfl⟩:=h₁;have hS:(s.heap.push { cls:=.type "list",data:=.seq #[] }).get? s.heap.objs.size=some { cls:=.type "list",data:=.seq #[] }:=M9 _ rfl;obtain⟨oi,hoi,_⟩:=id LX;obtain⟨ol,hol,_⟩:=id hl;refine⟨⟨_,hS,rfl⟩,F.args_list_init_2 _ _,zU (A:=A.in1) hh (LX.at fun o e=>MR _ e) (hl.at fun o e=>MR _ e) Rz Dh _ (NZ (MS hoi)) (NZ (MS hol)) hS fun h' tk acc' c' hk hS' hacc=>?_⟩;exact⟨rfl,hQ h' tk acc' c' (fun b o hb e=>hk b o (Nb (MS e)) hb (MR _ e)) hS' hacc⟩
end
end
theorem mT{P:Nat->Value->Prop}{qN:Array Value}{ys:List V}(h:ItemsOf P qN ys.length)(k:∀i v,P i v->i<ys.length->∃y,ys[i]?=some y/\RelV y v):Vals ys qN.toList:=by
 have:∀(ys:List V) (us:List Value),ys.length=us.length->(∀(i:Nat) (u:Value),us[i]?=some u->∃y,ys[i]?=some y/\RelV y u)->Vals ys us:=by
  intro ys
  induction ys with
  |nil=>intro us e _;cases us with
   |nil=>exact .nil
   |cons _ _=>cases e
  |cons y ys ih=>intro us e f;cases us with
   |nil=>cases e
   |cons u us=>obtain⟨y',h1,h2⟩:=f 0 u rfl;cases h1;exact .cons h2 (ih us (by simpa using e) fun i u' hu=>by simpa using f (i+1) u' (by simpa using hu))
 refine this ys qN.toList (by have:=h.1;simp only[OP];exact this.symm) fun i u hu=>?_;have hu':qN[i]?=some u:=by rw[<- Array.getElem?_toList];exact hu
 have hi:i<ys.length:=by rw[<- h.1];exact(Array.getElem?_eq_some_iff.mp hu').1
 exact k i u (h.2 i u hu') hi
def GD(K:Mv)(tl:TE):TE:=fun σ H Q=>tl σ H fun x H1=>∃a xs,x=.ref a/\SqL K H1 a xs/\∀q,H1 q=none->Q (.ref q) (upd H1 q (.lst xs.reverse))
def Jy(ta:TA):TE:=fun σ H Q=>ta σ H fun vs H1=>∃j:Int,vs=[.int j]/\-(2 ^ 62)<=j/\j<=1000000/\∀q,H1 q=none->Q (.ref q) (upd H1 q (.lst ((Ni j.toNat).map fun i=>V.int (i:Nat))))
section
variable{X:Cx}{l a:Expr}{tl:TE}{ta:TA}{p pos p0 lT:Pos}
theorem zV(hc:X.calm=true)(hgl:Gl X "list")(hml:X.mg "list" = none)(hg:Gl X "reversed")(hm:X.mg "reversed" = none)(hl:PE X l tl)(hs:starEach [l] X.env=[(false,eval l X.env)]:=by rfl)
  (hs0:starEach [.Call (.Name "reversed" p) [l] [] pos] X.env=[(false,eval (.Call (.Name "reversed" p) [l] [] pos) X.env)]:=by rfl) :
  PE X (.Call (.Name "list" p0) [.Call (.Name "reversed" p) [l] [] pos] [] lT) (GD X.K tl):=by
 intro eU s σ H Q I h;refine wpAny_Call_Name_kw (eT I hgl hml boot_list (Na (spliced_more ?_ (by rw[hs0];rfl)) (by rw[hs0];rfl) rfl));refine zR hg hm hl hs I h fun x H1 s1 I1 q1=>?_;obtain⟨a,xs,e,hq,q⟩:=q1;refine⟨a,xs,e,hq,fun its rv pl hz=>N4 ?_⟩;have hal:a<s1.heap.objs.size:=by obtain⟨o,ho,_⟩:=pl.isList;exact MS ho
 have hn:=rv.length;refine pG (items:=its.toArray) (I.ok.hd hc) ⟨_,M9 _ rfl,rfl,rfl⟩ (pl.isList.at fun o e=>MR _ e) (Nb hal) (by rw[MW,<- hn];exact hz) fun h' tk acc' c' hk hS' hacc=>?_;have hsz:({ s1 with heap:=s1.heap.push (revObj a ((its.toArray.size:Int)-1)) }:Shared).heap.objs.size=s1.heap.objs.size+1:=PB ..;have hp:s1.heap.objs.size<=({ s1 with heap:=s1.heap.push (revObj a ((its.toArray.size:Int)-1)) }:Shared).heap.objs.size:=by rw[hsz];exact Py _
 have vl:Vals xs.reverse acc'.toList:=by
  refine mT (by rw[N2,hn,<- MW];exact hacc) fun i v hv hi=>?_;rw[N2]at hi;rw[MW]at hv;have hv':its[its.length-1-i]?=some v:=by simpa using hv
  rw[OD hi,hn];have L8:=(MT.mp hv').1;have hx:xs[its.length-1-i]?=some (xs[its.length-1-i]'(by lia)):=M7 _;obtain⟨u,hu,ru⟩:=rv.get hx;rw[hv']at hu;cases hu;exact⟨_,hx,ru⟩
 have ok:ck X.prog X.w (upd H1 ({ s1 with heap:=s1.heap.push (revObj a ((its.toArray.size:Int)-1)) }:Shared).heap.objs.size (.lst xs.reverse)) h' ({ s1 with heap:=s1.heap.push (revObj a ((its.toArray.size:Int)-1)) }:Shared).heap.objs.size (.lst xs.reverse):=⟨by rw[N2];exact hz,acc'.toList,c',vl,by simpa using hS'⟩
 exact⟨.ref _,_,I1.laid (t':=tk) (fun b u e=>hk b u (Nb (MS e)) (MR _ e)) hp ok,rfl,q _ (I1.hok.fresh hp)⟩
theorem CI(hc:X.calm=true)(hgl:Gl X "list")(hml:X.mg "list" = none)(hg:Gl X "range")(hm:X.mg "range" = none)(ha:PA X [a] ta)(hs:starEach [a] X.env=[(false,eval a X.env)]:=by rfl)
  (hs0:starEach [.Call (.Name "range" p) [a] [] pos] X.env=[(false,eval (.Call (.Name "range" p) [a] [] pos) X.env)]:=by rfl) :
  PE X (.Call (.Name "list" p0) [.Call (.Name "range" p) [a] [] pos] [] lT) (Jy ta):=by
 intro eU s σ H Q I h;refine wpAny_Call_Name_kw (eT I hgl hml boot_list (Na (spliced_more ?_ (by rw[hs0];rfl)) (by rw[hs0];rfl) rfl));refine Call_ (eT I hg hm boot_range (Na (thn (ha pos eU s σ H _ I h) fun us s1 ⟨vs,H1,I1,r1,q1⟩=>?_) hs rfl));obtain⟨j,e,q1,q2,q⟩:=q1;subst e;cases r1 with
 |cons r rr=>
  cases rr;obtain⟨t,rfl⟩:=r;refine call_range_1 (N4 ?_);have hn:NQ 0 j 1=(j.toNat:Nat):=by rw[rangeSize_one];split<;>lia
  refine call_list_range (n:=j.toNat) (I.ok.hd hc) (IsRange.new ..) (small_one (by lia) (by lia) q1 (by lia)) hn (by lia) fun h' tk acc' c' hk hS' hacc=>?_;have hsz:(s1.heap.push { cls:=.type "range",data:=.fields #[.int 0 s1.toks,.int j t,.int 1 (s1.toks+1)] }).objs.size=s1.heap.objs.size+1:=PB ..;have hp:s1.heap.objs.size<=(s1.heap.push { cls:=.type "range",data:=.fields #[.int 0 s1.toks,.int j t,.int 1 (s1.toks+1)] }).objs.size:=by rw[hsz];exact Py _
  have vl:Vals ((Ni j.toNat).map fun i=>V.int (i:Nat)) acc'.toList:=by
   refine mT (by rw[MP,Ox];exact hacc) fun i v hv hi=>?_;obtain⟨t,rfl⟩:=hv;rw[MP,Ox]at hi;refine⟨.int (i:Nat),by rw[M0,Oc hi];rfl,t,?_⟩;have:(0:Int)+(i:Int)*1=i:=by lia
   rw[this]
  have ok:ck X.prog X.w (upd H1 (s1.heap.push { cls:=.type "range",data:=.fields #[.int 0 s1.toks,.int j t,.int 1 (s1.toks+1)] }).objs.size (.lst ((Ni j.toNat).map fun i=>V.int (i:Nat)))) h' (s1.heap.push { cls:=.type "range",data:=.fields #[.int 0 s1.toks,.int j t,.int 1 (s1.toks+1)] }).objs.size (.lst ((Ni j.toNat).map fun i=>V.int (i:Nat))):=
   ⟨by rw[MP,Ox,sizeLine_eq];lia,acc'.toList,c',vl,by simpa using hS'⟩
  exact⟨.ref _,_,I1.laid (t':=tk) (fun b u e=>hk b u (MR _ e)) hp ok,rfl,q _ (I1.hok.fresh hp)⟩
end
section
variable{ds:List Dat}{xs:List V}{H0:Hp}{a:Addr}
theorem bg.rev{H:Hp}(h:bg H xs ds):bg H xs.reverse ds.reverse:=by
 induction xs generalizing ds with
 |nil=>cases h;exact .nil
 |cons x xs ih=>
  cases h with
  |cons r rs=>rw[Pd,Pd];exact(ih rs).append (.cons r .nil)
theorem GF{K:Mv}(hq:Rd H0 a (.lst xs))(rs:bg H0 xs ds):JW (Itv K a xs.length) H0 ds.reverse:=by intro H0' H s0 s1;have q:SqL K H a xs:=.inl (aF.rd s1 (aF.rd s0 hq));refine⟨fun i hi=>by rw[N2,<- rs.length]at hi;exact hi,fun i d e=>?_⟩;obtain⟨v,hv,rv⟩:=rs.rev.get e;refine⟨⟨xs,v,q,rfl,hv⟩,fun x H' y=>?_⟩;obtain⟨e1,y⟩:=y;subst e1;have z:=y xs q;rw[hv]at z;cases z;exact⟨H0',aQ.refl s1,rv.mono s0⟩
theorem CJ{hi:Int}{n:Nat}:JW (Itd hi n) H0 (Dm.downs hi n):=by
 intro H0' H s0 s1;have el:(Dm.downs hi n).length=n:=by simp[Dm.downs]
 refine⟨fun i hi=>by rw[el]at hi;exact hi,fun i d e=>?_⟩;have L8:i<n:=by have:=(MT.mp e).1;rw[el]at this;exact this
 have hd:d=.int (hi-i):=by unfold Dm.downs at e;rw[M0,Oc L8]at e;exact(Option.some.inj e).symm
 refine⟨L8,fun x H' y=>?_⟩;obtain⟨rfl,rfl⟩:=y;subst hd;exact⟨H0',aQ.refl s1,.int _⟩
theorem rX:∀(ds:List Dat) (i:Nat),(Dm.j0 i ds).length=ds.length
 |[],_=>rfl
 |_::ds,i=>by simp[Dm.j0,rX ds]
theorem rY:∀(ds:List Dat) (i j:Nat) (d:Dat),(Dm.j0 i ds)[j]?=some d->∃x,ds[j]?=some x/\d=.tup [.int ((i+j:Nat):Int),x]
 |[],_,_,_,h=>by cases h
 |x::ds,i,0,d,h=>by cases h;exact⟨x,rfl,rfl⟩
 |x::ds,i,j+1,d,h=>by
  obtain⟨y,h1,h2⟩:=rY ds (i+1) j d h;refine⟨y,h1,?_⟩;rw[h2];have:i+1+j=i+(j+1):=by lia
  rw[this]
theorem CK{K:Mv}(hq:Rd H0 a (.lst xs))(rs:bg H0 xs ds):JW (Ite K a) H0 (Dm.j0 0 ds):=by intro H0' H s0 s1;have q:SqL K H a xs:=.inl (aF.rd s1 (aF.rd s0 hq));refine⟨fun i hi=>⟨xs,q,by rw[rs.length,<- rX ds 0];exact hi⟩,fun i d e=>?_⟩;obtain⟨d',hd,rfl⟩:=rY ds 0 i d e;obtain⟨v,hv,rv⟩:=rs.get hd;refine⟨⟨xs,v,q,hv⟩,fun x H' y=>?_⟩;obtain⟨p,v',hn,rfl,rfl,y⟩:=y;have z:=y xs q;rw[hv]at z;cases z;have g:=aQ.xQ (o:=HO.tup [.int i,v]) s1 hn;refine⟨_,g,.tup aY (.cons ?_ (.cons ((rv.mono s0).mono g.s0) .nil))⟩;rw[MJ];exact .int _
end
section
variable{σ:L2.St}{H:Hp}{R:It->Hp->Prop}
theorem GG{K:Mv}{f:FE}(h:tDI (Dm.x8 f) σ H R):Eu K (tD f) σ H R:=by
 obtain⟨H0,ρ,ys,ρ',st,e,k⟩:=h;unfold Dm.x8 at e;split at e
 ·cases e
 rename_i x ρ1 e1;split at e
 ·rename_i ds ρ2 e2;cases e;refine⟨H0,ρ,_,ρ1,st,e1,fun v H0' H' t r=>?_⟩;obtain⟨H1,t1,b1,r1,_,_⟩:=take1 t (aF.refl _) r e2;cases r1 with
  |lst q rs=>exact⟨_,_,rfl,.inl (aF.rd t1.st.same q),k _ H1 H' t1 (GF q rs)⟩
 ·cases e
theorem Jz{K:Mv}{f:FE}(h:tDI (Dm.iEn f) σ H R):Jx K (tD f) σ H R:=by
 obtain⟨H0,ρ,ys,ρ',st,e,k⟩:=h;unfold Dm.iEn at e;split at e
 ·cases e
 rename_i x ρ1 e1;split at e
 ·rename_i ds ρ2 e2;cases e;refine⟨H0,ρ,_,ρ1,st,e1,fun v H0' H' t r=>?_⟩;obtain⟨H1,t1,b1,r1,_,_⟩:=take1 t (aF.refl _) r e2;cases r1 with
  |lst q rs=>exact⟨_,rfl,⟨_,.inl (aF.rd t1.st.same q)⟩,k _ H1 H' t1 (CK q rs)⟩
 ·cases e
theorem JA{f g c:FE}(h:tDI (Dm.iRd f g c) σ H R):Ew (tDA [f,g,c]) σ H R:=by
 obtain⟨H0,ρ,ys,ρ',st,e,k⟩:=h;unfold Dm.iRd at e;split at e
 ·rename_i i ρ1 e1;split at e
  ·rename_i j ρ2 e2;split at e
   ·rename_i l ρ3 e3;split at e
    ·rename_i hb;cases e;refine⟨H0,ρ,[.val (.int i),.val (.int j),.val (.int l)],_,st,by simp only[Dm.eAs,e1,e2,e3];rfl,fun vs H0' H' t r=>?_⟩;cases r with
     |cons r rr=>
      cases rr with
      |cons r' rr=>
       cases rr with
       |cons r'' rr=>cases rr;cases Rep.isInt r;cases Rep.isInt r';cases Rep.isInt r'';obtain⟨h0,h1,h2,h3,h4⟩:=hb;subst h0;unfold Dm.BIG at h1 h2 h3 h4;exact⟨i,j,rfl,⟨by lia,by lia,by lia,by lia⟩,k _ H0' H' t CJ⟩
    ·cases e
   ·cases e
  ·cases e
 ·cases e
end
theorem zW{K:Mv}:UnD (fun x H Q=>∃a xs,x=.ref a/\SqL K H a xs/\∀q,H q=none->Q (.ref q) (upd H q (.lst xs.reverse))) Dm.kJ:=by
 intro H0 H x dx z Q s rx e k;unfold Dm.kJ at e;split at e
 ·cases e;obtain⟨a,us,rfl,qa,ra⟩:=cR s rx;exact⟨a,us,rfl,.inl qa,fun p hp=>k _ _ _ (aQ.mG s hp) ⟨p,rfl,hp,s.free hp,_,aY,ra.rev⟩⟩
 ·cases e
theorem zX{H:Hp}:∀(n:Nat) ,bg H ((Ni n).map fun i=>V.int (i:Nat)) (Dm.ups 0 n):=by
 intro n;unfold Dm.ups;have:∀l:List Nat,bg H (l.map fun i=>V.int (i:Nat)) (l.map fun i=>Dat.int (0+(i:Nat))):=fun l=>by
  induction l with
  |nil=>exact .nil
  |cons x l ih=>rw[Mu,Mu,Int.zero_add];exact .cons (.int _) ih
 exact this _
theorem CL:CallD (fun xs H Q=>∃j:Int,xs=[.int j]/\-(2 ^ 62)<=j/\j<=1000000/\∀q,H q=none->Q (.ref q) (upd H q (.lst ((Ni j.toNat).map fun i=>V.int (i:Nat))))) Dm.gw:=by
 intro H0 H xs ds z Q s rx e k;unfold Dm.gw at e;split at e
 ·rename_i j;split at e
  ·rename_i hb;cases e;cases rx with
   |cons r rr=>cases rr;cases aC r;exact⟨j,rfl,by lia,hb.1,fun p hp=>k _ _ _ (aQ.mG s hp) ⟨p,rfl,hp,s.free hp,_,aY,zX _⟩⟩
  ·cases e
 ·cases e
section
variable{X:Cx}{tg e a b c:Expr}{f fa fb fc:FE}{p pos p0 lT:Pos}{elts:List Expr}{x1:Nat}{tp:Pos}
theorem JB(hg:Gl X "reversed")(hm:X.mg "reversed" = none)(h:DE X e f)(hs:starEach [e] X.env=[(false,eval e X.env)]:=by rfl):DI X tg (.Call (.Name "reversed" p) [e] [] pos) (Dm.x8 f):=PI.weak (GC hg hm h hs) fun _ _ _=>GG
theorem LM(hg:Gl X "enumerate")(hm:X.mg "enumerate" = none)(h:DE X e f)(hs:starEach [e] X.env=[(false,eval e X.env)]:=by rfl):DI X (.Tuple elts x1 tp) (.Call (.Name "enumerate" p) [e] [] pos) (Dm.iEn f):=PI.weak (CH hg hm h hs) fun _ _ _=>Jz
theorem JC(hg:Gl X "range")(hm:X.mg "range" = none)(ha:DA X [a,b,c] [fa,fb,fc])(hs:starEach [a,b,c] X.env=(false,eval a X.env)::starEach [b,c] X.env:=by rfl)(hs2:(backTo pos (starEach [b,c] X.env)).any (·.1)=false:=by rfl) :
  DI X tg (.Call (.Name "range" p) [a,b,c] [] pos) (Dm.iRd fa fb fc):=PI.weak (x_ hg hm ha hs hs2) fun _ _ _=>JA
theorem CM(hc:X.calm=true)(hgl:Gl X "list")(hml:X.mg "list" = none)(hg:Gl X "reversed")(hm:X.mg "reversed" = none)(h:DE X e f)(hs:starEach [e] X.env=[(false,eval e X.env)]:=by rfl)
  (hs0:starEach [.Call (.Name "reversed" p) [e] [] pos] X.env=[(false,eval (.Call (.Name "reversed" p) [e] [] pos) X.env)]:=by rfl) :
  DE X (.Call (.Name "list" p0) [.Call (.Name "reversed" p) [e] [] pos] [] lT) (Dm.e1 Dm.kJ f):=PE.weak (zV hc hgl hml hg hm h hs hs0) fun _ _ _=>F2 zW
theorem zY(hc:X.calm=true)(hgl:Gl X "list")(hml:X.mg "list" = none)(hg:Gl X "range")(hm:X.mg "range" = none)(h:DA X [a] [fa])(hs:starEach [a] X.env=[(false,eval a X.env)]:=by rfl)
  (hs0:starEach [.Call (.Name "range" p) [a] [] pos] X.env=[(false,eval (.Call (.Name "range" p) [a] [] pos) X.env)]:=by rfl) :
  DE X (.Call (.Name "list" p0) [.Call (.Name "range" p) [a] [] pos] [] lT) (Dm.eB Dm.gw [fa]):=PE.weak (CI hc hgl hml hg hm h hs hs0) fun _ _ _=>F4 CL
end
end Br
namespace Dm
noncomputable def cU(i:Nat)(own:Nat)(bd:FB)(t:FT)(el:FE):FE:=fun ρ=>match ρ[i]? with
 | some (.ow (.lst ds))=>if ds.length≤SZ then (match cZ bd t el ds (ρ.set i .un++gc own .un) [] with
  |none=>none
  |some (ys,ρ2)=>some (.new (.lst ys),(ρ2.take ρ.length).set i (.ow (.lst ds)))) else none
 |_=>cP (iS (eV i)) own bd t el ρ
end Dm
namespace Br
open PySem PySem.Spec PyProof.Rows L2
theorem zZ{K:Mv}{H0:Hp}{a:Addr}{xs:List V}{ds:List Dat}(rs:bg H0 xs ds):JWa (Itl K a) H0 (some (a,.lst xs)) ds:=by intro H0' H s0 s1 hq;have hq:=hq _ rfl;have q:SqL K H a xs:=.inl (.inl hq);refine⟨fun i hi=>⟨xs,q,by rw[rs.length];exact hi⟩,fun i d e=>?_⟩;obtain⟨v,hv,rv⟩:=rs.get e;refine⟨⟨xs,v,q,hv⟩,fun x H' y=>?_⟩;obtain⟨e1,y⟩:=y;subst e1;have z:=y xs q;rw[hv]at z;cases z;exact⟨H0',aQ.refl s1,rv.mono s0⟩
theorem vY{K:Mv}{σ:L2.St}{H:Hp}{i own:Nat}{bd:Dm.FB}{g:TG}{t:FT}{el:FE}{is:List Nat}{Q:VK}(hb:BD is g bd)(hl:∀i∈is,σ.length<=i)(h:tD (Dm.cU i own bd t el) σ H Q) :
  tLC (fun σ H R=>rJ K (tD (Dm.eV i)) σ H R\/yX K (tD (Dm.eV i)) σ H R) own g (tDT t) (tD el) σ H Q:=by
 obtain⟨H0,ρ,x,ρ',st,e,k⟩:=h;unfold Dm.cU at e;split at e
 ·rename_i ds eo;split at e
  case isFalse=>cases e
  rename_i hsz;split at e
  ·cases e
  rename_i ys ρ2 e2;cases e;refine .inl ⟨H0,ρ,.slot i,ρ,st,by unfold Dm.eV;rw[eo],fun v H0' H' t1 r=>?_⟩;obtain⟨a,qa,na,xs,ha,rs⟩:=t1.st.ow i _ eo;obtain⟨r1,_⟩:=r;rw[qa]at r1;cases r1;have nO:¬aG σ (ρ.set i .un) a:=fun z=>by obtain⟨j,d,hj,h1,h2⟩:=gb z;exact hj (t1.st.dis j i d _ a h1 eo h2 qa)
  have L8:i<ρ.length:=(MT.mp eo).1;refine⟨a,rfl,⟨xs,.inl (.inl ha)⟩,fun D hD=>rS hb hl (t1.st.mask i) (fun q e=>by cases e;exact⟨ha,na,nO⟩) (zZ rs) hsz e2 (fun v H1 Hc t2 r2 hpa=>?_) D hD⟩;obtain⟨ha2,na2⟩:=hpa _ rfl;rw[Nr]at t2 r2;have oo:∀b,aG σ ((ρ2.take ρ.length).set i (.ow (.lst ds))) b->b=a\/aG σ (ρ2.take ρ.length) b:=fun b ⟨j,d,h1,h2⟩=>by
   by_cases q:i=j
   ·subst q;rw[qa]at h2;cases h2;exact .inl rfl
   ·rw[MC q]at h1;exact .inr ⟨j,d,h1,h2⟩
  have om:∀b,aG σ (ρ.set i .un) b->aG σ ρ b:=fun b z=>by obtain⟨j,d,hj,h1,h2⟩:=gb z;exact⟨j,d,h1,h2⟩
  have oa:aG σ ρ a:=⟨i,_,eo,qa⟩
  have nO2:¬aG σ (ρ2.take ρ.length) a:=fun z=>nO (t2.own a z);have z4:(ρ2.take ρ.length).length=ρ.length:=by rw[<- t2.st.len,st.len]
  refine k v H1 Hc (t1.trans ⟨⟨t2.st.same,by rw[Nr];exact t2.st.len,fun j d h=>?_,fun j d h=>?_,fun j j' d d' b h1 h2 h3 h4=>?_⟩,t2.stp.wide om,fun b z=>?_,fun j z=>?_⟩) ?_
  ·by_cases q:i=j
   ·subst q;rw[M8 (by rw[z4];exact L8)]at h;cases h
   ·rw[MC q]at h;exact t2.st.sh j d h
  ·by_cases q:i=j
   ·subst q;rw[M8 (by rw[z4];exact L8)]at h;cases h;exact⟨a,qa,na2,xs,ha2,rs.mono t2.stp.s0⟩
   ·rw[MC q]at h;exact t2.st.ow j d h
  ·by_cases q:i=j
   ·subst q;by_cases q':i=j'
    ·exact q'
    ·rw[MC q']at h2;rw[qa]at h3;cases h3;exact absurd ⟨j',d',h2,h4⟩ nO2
   ·rw[MC q]at h1;by_cases q':i=j'
    ·subst q';rw[qa]at h4;cases h4;exact absurd ⟨j,d,h1,h3⟩ nO2
    ·rw[MC q']at h2;exact t2.st.dis j j' d d' b h1 h2 h3 h4
  ·rcases oo b z with rfl | z
   ·exact oa
   ·exact om b (t2.own b z)
  ·trivial
  ·obtain⟨D',e',n',no',n0',w'⟩:=r2;refine⟨D',e',t1.stp.gone n',fun z=>?_,n0',w'⟩;rcases oo D' z with rfl | z
   ·rw[n']at ha;cases ha
   ·exact no' z
 ·have h2:=uL (fi:=Dm.iS (Dm.eV i)) hb hl ⟨H0,ρ,x,ρ',st,e,k⟩;exact Jw h2
section
variable{X:Cx}{LV tg:Expr}{LW:List Expr}{scope:Scope}{pos px:Pos}{bd:Dm.FB}{is:List Nat}{t:FT}{f:FE}{x:Str}
theorem i_M(i:Nat)(h:DE X (.Name x px) (Dm.eV i)):PI X tg (.Name x px) (fun σ H R=>rJ X.K (tD (Dm.eV i)) σ H R\/yX X.K (tD (Dm.eV i)) σ H R):=PI.or (vJ h) (yY h)
theorem rZ(i:Nat)(nm own:List Str)(hg:TGc X nm scope own tg is bd)(hi:DE X (.Name x px) (Dm.eV i))(ht:∀cl C s H fp,DTs (bZ X nm scope own cl C s H fp) LW t)(he:∀cl C s H fp,DE (bZ X nm scope own cl C s H fp) LV f)
  (hc:X.calm=true:=by rfl) (hk:scope.kind=.function:=by rfl) (hS:pX X.env.scope X.N nm scope=true:=by rfl) (hl:(is.all fun i=>decide (X.N.length<=i))=true:=by rfl) (hs:∀y,foldedSetIterable (.Name x px) X.env y=pure y:=by intro _;rfl) :
  DE X (.ListComp LV [⟨tg,.Name x px,LW,0⟩] scope pos) (Dm.cU i own.length bd t f):=by
 obtain⟨g,h1,h2⟩:=hg.ex;intro eU s σ H Q I h;exact vQ hc (fm.of hS hk) (i_M i hi) h1 ht he hs eU s σ H Q I (vY h2 (fun i hi=>by rw[I.len];exact vX hl i hi) h)
theorem JD(j i:Nat)(nm own:List Str){y:Str}{py Ru:Pos}(hN:X.N.Nodup)(hg:TGc X nm scope own tg is bd)(hi:DE X (.Name x px) (Dm.eV i))(ht:∀cl C s H fp,DTs (bZ X nm scope own cl C s H fp) LW t)(he:∀cl C s H fp,DE (bZ X nm scope own cl C s H fp) LV f)
  (hc:X.calm=true:=by rfl) (hk:scope.kind=.function:=by rfl) (hS:pX X.env.scope X.N nm scope=true:=by rfl) (hl:(is.all fun i=>decide (X.N.length<=i))=true:=by rfl) (hj:X.N[j]?=some y:=by rfl) (hy:Loc X.env.scope y:=by trivial)
  (hsw:swapsWith (.ListComp LV [⟨tg,.Name x px,LW,0⟩] scope pos) (some (.Name y py)) Ru.line X.env=pure true:=by rfl) (hs:∀y,foldedSetIterable (.Name x px) X.env y=pure y:=by intro _;rfl)
  (hf:X.fn y=true\/X.env.scope.names.lookup y=some .local:=by trivial):DS X (.Assign [.Name y py] (.ListComp LV [⟨tg,.Name x px,LW,0⟩] scope pos) Ru) (Dm.sA j (Dm.cU i own.length bd t f)):=by
 obtain⟨g,h1,h2⟩:=hg.ex;intro eU s σ H D I h;exact k_ hN hj hy hc (fm.of hS hk) (i_M i hi) h1 ht he hsw hs hf eU s σ H D I (vY h2 (fun i hi=>by rw[I.len];exact vX hl i hi) (zp h))
end
end Br
namespace Dm
noncomputable def iI:List Dat->List Dat->List Dat
 |x::xs,y::ys=>.tup [x,y]::iI xs ys
 |_,_=>[]
noncomputable def CN(a b:FE):FI:=fun ρ=>match eAs [a,b] ρ with
 | some (vs,ρ1)=>(match tks ρ1 vs with
  |some ([.lst xs,.lst ys],ρ2)=>some (iI xs ys,ρ2)
  |_=>none)
 |none=>none
end Dm
namespace Br
open PySem PySem.Spec PyProof.Rows L2
theorem uQ{X:Cx}{eU:List (Addr×Obj)}{σ:L2.St}{H:Hp}{s:Shared}{h':Heap}{t':Nat}{fp:List Addr}(I:Inv X eU σ H s)(hf:∀b∈fp,pB X eU H b)
  (k:∀b u,b∉fp->s.heap.get? b=some u->h'.get? b=some u):Inv X eU σ H { s with heap:=h',toks:=t' }:=by
 have nf:∀b u,H b=some u->b∉fp:=fun b u e z=>by rw[(hf b z).1]at e;cases e
 have nL:X.env.locals∉fp:=fun z=>(hf _ z).2.1 rfl;refine I.step (g':=s.gens) (d':=s.drawn) (ch:=fp) (fun b hb=>?_) (fun b u _ _ hc e _=>k b u hc e) (fun b u _ _ hc e _=>⟨u.slots,k b u hc e⟩)
  (fun b u _ e n=>n) (fun b u hc e=>⟨u,k b u hc e⟩)
  (fun b xs q=>q) (fun b u xs q=>q) (fun _ _ _ _ q=>q) (fun m hm=>?_) (fun b u e=>?_) I.bare
 ·obtain⟨f0,f1,f2,f3,f4,f5⟩:=hf b hb;exact⟨f3,f1,f4,f5⟩
 ·obtain⟨o,es,ep,ho,r⟩:=hm;exact⟨o,es,ep,k _ o nL ho,r⟩
 ·refine(I.hok b u e).stay (fun c v hc q=>k c v ?_ q) (fun c q=>q) (fun _ _ _ q=>q) fun c xs q=>q;rcases hc with z | z
  ·rw[z];exact nf b u e
  ·exact nf c _ z
noncomputable def Itz(K:Mv)(a b:Addr):It:=
 ⟨fun i H=>∃ xs ys x y,SqL K H a xs∧SqL K H b ys∧xs[i]?=some x∧ys[i]?=some y,
  fun i H r H'=>∃p x y,H p=none/\r=.ref p/\H'=upd H p (.tup [x,y])/\(∀xs,SqL K H a xs->xs[i]?=some x)/\∀ys,SqL K H b ys->ys[i]?=some y,
  fun i H=>∃xs ys,SqL K H a xs/\SqL K H b ys/\(xs.length<=i\/ys.length<=i)⟩
theorem gJ{h:Heap}{a b:Addr}{o o':Obj}(ha:h.get? a=some o)(hb:h.get? b=some o')(n:o.cls≠o'.cls):a≠b:=fun z=>by subst z;rw[ha]at hb;cases hb;exact n rfl
structure qG(z TI TO i1 i2:Addr):Prop where
 TIz:TI≠z
 TOz:TO≠z
 i1z:i1≠z
 i2z:i2≠z
 TITO:TI≠TO
 TIi1:TI≠i1
 TIi2:TI≠i2
 TOi1:TO≠i1
 TOi2:TO≠i2
 i12:i1≠i2
def z5(a b z TI TO i1 i2:Addr)(i:Nat)(h:Heap):Prop:=IsZip h z TI TO .none/\IsPair h TI (.ref i1) (.ref i2)/\(∃x y,IsPair h TO x y)/\h.IsListIter i1 a i/\h.IsListIter i2 b i
theorem r8{h:Heap}{a b z TI TO i1 i2:Addr}{i:Nat}{xs ys:Array Value}(F:qG z TI TO i1 i2)(st:z5 a b z TI TO i1 i2 i h)(ha:h.IsList a xs)(hb:h.IsList b ys):ZipApart z TI TO i1 i2 a b:=by
 obtain⟨s1,s2,⟨x,y,s3⟩,s4,s5⟩:=st;obtain⟨o4,e4,c4,_⟩:=s4;obtain⟨o5,e5,c5,_⟩:=s5;obtain⟨oa,ea,ca,_⟩:=ha;obtain⟨ob,eb,cb,_⟩:=hb;have d:∀{n m:String},n≠m->(Ou n)≠(Ou m):=fun q z=>q (by injection z);exact ⟨F.TIz,F.TOz,F.i1z,F.i2z,F.TITO,F.TIi1,F.TIi2,F.TOi1,F.TOi2,F.i12,
  gJ ea s1 (by rw[ca];exact d (by decide)),gJ ea s3 (by rw[ca];exact d (by decide)),gJ ea e4 (by rw[ca,c4];exact d (by decide)),gJ ea e5 (by rw[ca,c5];exact d (by decide)),
  gJ eb s1 (by rw[cb];exact d (by decide)),gJ eb s3 (by rw[cb];exact d (by decide)),gJ eb e4 (by rw[cb,c4];exact d (by decide)),gJ eb e5 (by rw[cb,c5];exact d (by decide))⟩
theorem z6{P:Program}{w:World}{K:Mv}{elts:List Expr}{x1}{tp:Pos}(a b z TI TO i1 i2:Addr)(F:qG z TI TO i1 i2):Turn P w K (.Tuple elts x1 tp) (Itz K a b) [z,TI,TO,i1,i2] z (z5 a b z TI TO i1 i2) where
 mem:=by simp
 obj:=fun i h st c hc=>by
  obtain⟨s1,s2,⟨x,y,s3⟩,⟨o4,e4,c4,d4⟩,⟨o5,e5,c5,d5⟩⟩:=st;simp only[MV,NL,or_false]at hc;rcases hc with rfl | rfl | rfl | rfl | rfl
  ·exact⟨_,s1,fun v q=>by have q':Pw _=OU v:=q;cases q'⟩
  ·exact⟨_,s2,fun v q=>by have q':Data.seq _ _=OU v:=q;cases q'⟩
  ·exact⟨_,s3,fun v q=>by have q':Data.seq _ _=OU v:=q;cases q'⟩
  ·exact⟨o4,e4,fun v q=>by rw[d4]at q;cases q⟩
  ·exact⟨o5,e5,fun v q=>by rw[d5]at q;cases q⟩
 keep:=fun i h h' st k=>by obtain⟨s1,s2,⟨x,y,s3⟩,s4,s5⟩:=st;exact⟨k z (by simp) _ s1,k TI (by simp) _ s2,⟨x,y,k TO (by simp) _ s3⟩,s4.at fun o q=>k i1 (by simp) o q,s5.at fun o q=>k i2 (by simp) o q⟩
 item:=by
  intro X hP hw hK hc i eU s σ H E I hf st hg;subst hP hw hK;obtain⟨xs,ys,x,y,hq,hq',hx,hy⟩:=hg;obtain⟨its,rv,p,hz⟩:=I.list hq;obtain⟨its',rv',p',hz'⟩:=I.list hq';obtain⟨u,hu,ru⟩:=rv.get hx;obtain⟨u',hu',ru'⟩:=rv'.get hy;have D:=r8 F st p.isList p'.isList;obtain⟨s1,s2,⟨o1,o2,s3⟩,s4,s5⟩:=st;have lt:∀{c o},s.heap.get? c=some o->c<s.heap.objs.size:=fun q=>MS q;have l1:=lt s1;have l2:=lt s2;have l3:=lt s3;have l4:i1<s.heap.objs.size:=by obtain⟨_,q,_⟩:=s4;exact lt q
  have l5:i2<s.heap.objs.size:=by obtain⟨_,q,_⟩:=s5;exact lt q
  refine wpAny_pyNext_zip_item D s1 s2 s3 s4 s5 p.isList p'.isList (x:=u) (y:=u') (by simpa using hu) (by simpa using hu') fun h1 a1 a2 a3 a4 a5 a6 hk=>?_;refine⟨_,rfl,wpAny_letOwnedTupleGo_zip a1 fun h2 z2 hs2=>?_⟩;have ht2:h2.get? s.heap.objs.size=some { cls:=.type "tuple",data:=.seq #[u,u'] }:=(hs2.2 _ (NZ l1)).trans a5;have k2:∀c o,c∉[z,TI,TO,i1,i2]->s.heap.get? c=some o->h2.get? c=some o:=fun c o hc q=>by simp only[MV,NL,or_false,not_or]at hc;exact(hs2.2 c hc.1).trans (hk c o hc.1 hc.2.2.1 hc.2.2.2.1 hc.2.2.2.2 q)
  have hn:H s.heap.objs.size=none:=I.hok.fresh (MO _);have I2:Inv X eU σ (upd H s.heap.objs.size (.tup [x,y])) { s with heap:=h2,toks:=s.toks }:=
   pY I hf k2 (MO _) ⟨by simp[sizeLine],[u,u'],.cons ru (.cons ru' .nil),_,ht2,rfl,_,rfl⟩
  refine⟨.ref s.heap.objs.size,_,I2,rfl,⟨_,x,y,hn,rfl,rfl,fun vs hv=>by rw[I.gD hv hq];exact hx,fun vs hv=>by rw[I.gD hv hq'];exact hy⟩,⟨z2,?_,⟨_,_,hs2.extBut _ _ D.TOz a2⟩,?_,?_⟩,fun c hc=>?_⟩
  ·exact hs2.extBut _ _ D.TIz (hk TI _ D.TIz D.TITO D.TIi1 D.TIi2 s2)
  ·exact a3.extBut hs2.extBut D.i1z
  ·exact a4.extBut hs2.extBut D.i2z
  ·have hc1:c≠s.heap.objs.size:=fun q=>by
    simp only[MV,NL,or_false]at hc;rcases hc with r | r | r | r | r
    ·subst r;rw[q]at l1;exact Nz _ l1
    ·subst r;rw[q]at l2;exact Nz _ l2
    ·subst r;rw[q]at l3;exact Nz _ l3
    ·subst r;rw[q]at l4;exact Nz _ l4
    ·subst r;rw[q]at l5;exact Nz _ l5
   rw[ay hc1];exact(hf c hc).1
 done:=by
  intro X hP hw hK hc i eU s σ H E I hf st hg;subst hP hw hK;obtain⟨xs,ys,hq,hq',hx⟩:=hg;obtain⟨its,rv,p,hz⟩:=I.list hq;obtain⟨its',rv',p',hz'⟩:=I.list hq';have hl:=rv.length;have hl':=rv'.length;have D:=r8 F st p.isList p'.isList;obtain⟨s1,s2,⟨o1,o2,s3⟩,s4,s5⟩:=st;refine wpAny_pyNext_zip_end (I.ok.hd hc) D s1 s2 s3 s4 s5 p.isList p'.isList ?_ fun h' hk=>⟨rfl,uQ (t':=s.toks) I hf fun c o hc q=>?_⟩
  ·rcases hx with hx | hx
   ·exact .inl (by simp;lia)
   ·exact .inr (by simp;lia)
  ·simp only[MV,NL,or_false,not_or]at hc;exact hk c o hc.1 hc.2.2.1 hc.2.2.2.1 hc.2.2.2.2 q
 self:=fun A i s Q E st h=>wpAny_pyIter_zip st.1 h
def Ex(K:Mv)(ta:TA):TI:=fun σ H R=>ta σ H fun vs H1=>∃a b,vs=[.ref a,.ref b]/\(∃xs,SqL K H1 a xs)/\(∃ys,SqL K H1 b ys)/\R (Itz K a b) H1
section
variable{X:Cx}{l l':Expr}{ta:TA}{p pos:Pos}{elts:List Expr}{x1:Nat}{tp:Pos}
theorem GH(hg:Gl X "zip")(hm:X.mg "zip" = none)(ha:PA X [l,l'] ta)(hs:starEach [l,l'] X.env=(false,eval l X.env)::starEach [l'] X.env:=by rfl)(hs2:(backTo pos (starEach [l'] X.env)).any (·.1)=false:=by rfl) :
  PI X (.Tuple elts x1 tp) (.Call (.Name "zip" p) [l,l'] [] pos) (Ex X.K ta):=by
 intro eU s σ H R I h;refine Call_ (eT I hg hm boot_zip (Na (thn (ha pos eU s σ H _ I h) fun us s1 ⟨vs,H1,I1,r1,q1⟩=>?_) hs hs2));obtain⟨a,b,e,⟨xs,hq⟩,⟨ys,hq'⟩,q⟩:=q1;subst e;obtain⟨v1,v2,rfl,r,r'⟩:=vals2 r1;cases r;cases r';obtain⟨its,rv,pl,hz⟩:=I1.list hq;obtain⟨its',rv',pl',hz'⟩:=I1.list hq';refine call_zip_2 pl.isList pl'.isList fun h' e1 e2 e3 e4 e5 hsz k=>?_;have I2:Inv X eU σ H1 { s1 with heap:=h' }:=I1.kept (t':=s1.toks) k;have F:qG (s1.heap.objs.size+4) (s1.heap.objs.size+2) (s1.heap.objs.size+3) s1.heap.objs.size (s1.heap.objs.size+1):=by constructor<;>first | exact Nb (by lia) | exact NZ (by lia)
 have T:=z6 (P:=X.prog) (w:=X.w) (K:=X.K) (elts:=elts) (x1:=x1) (tp:=tp) a b _ _ _ _ _ F;have st:z5 a b (s1.heap.objs.size+4) (s1.heap.objs.size+2) (s1.heap.objs.size+3) s1.heap.objs.size (s1.heap.objs.size+1) 0 h':=⟨e1,e2,⟨_,_,e3⟩,e4,e5⟩
 refine T.self X.A 0 { s1 with heap:=h' } _ X.xe st ?_;refine⟨s1.heap.objs.size+4,_,_,_,H1,rfl,I2,T,st,fun c hc=>?_,q⟩;have:s1.heap.objs.size<=c:=by simp only[MV,NL,or_false]at hc;rcases hc with r | r | r | r | r<;>(rw[r];first | exact Nat.le_add_right _ _ | exact MO _)
 exact I1.rH this (I1.hok.fresh this)
end
theorem vZ:∀(xs ys:List Dat),(Dm.iI xs ys).length=min xs.length ys.length
 |[],_=>by simp[Dm.iI]
 |_::_,[]=>by simp[Dm.iI]
 |x::xs,y::ys=>by simp[Dm.iI,vZ xs ys]
theorem zip_get:∀(xs ys:List Dat) (j:Nat) (d:Dat),(Dm.iI xs ys)[j]?=some d->∃x y,xs[j]?=some x/\ys[j]?=some y/\d=.tup [x,y]
 |[],_,_,_,h=>by simp[Dm.iI]at h
 |_::_,[],_,_,h=>by simp[Dm.iI]at h
 |x::xs,y::ys,0,d,h=>by cases h;exact⟨x,y,rfl,rfl,rfl⟩
 |x::xs,y::ys,j+1,d,h=>zip_get xs ys j d h
theorem GI{K:Mv}{H0:Hp}{a b:Addr}{xs ys:List V}{ds es:List Dat}(hq:Rd H0 a (.lst xs))(rs:bg H0 xs ds)(hq':Rd H0 b (.lst ys))(rs':bg H0 ys es):JW (Itz K a b) H0 (Dm.iI ds es):=by
 intro H0' H s0 s1;have q:SqL K H a xs:=.inl (aF.rd s1 (aF.rd s0 hq));have q':SqL K H b ys:=.inl (aF.rd s1 (aF.rd s0 hq'));refine⟨fun i hi=>⟨xs,ys,q,q',?_⟩,fun i d e=>?_⟩
 ·rw[vZ]at hi;have:=rs.length;have:=rs'.length
  lia
 obtain⟨x,y,hx,hy,rfl⟩:=zip_get ds es i d e;obtain⟨v,hv,rv⟩:=rs.get hx;obtain⟨v',hv',rv'⟩:=rs'.get hy;refine⟨⟨xs,ys,v,v',q,q',hv,hv'⟩,fun r H' z=>?_⟩;obtain⟨p,u,u',hn,rfl,rfl,z1,z2⟩:=z;have w1:=z1 xs q;have w2:=z2 ys q';rw[hv]at w1;rw[hv']at w2;cases w1;cases w2;have g:=aQ.xQ (o:=HO.tup [v,v']) s1 hn;exact⟨_,g,.tup aY (.cons ((rv.mono s0).mono g.s0) (.cons ((rv'.mono s0).mono g.s0) .nil))⟩
section
variable{σ:L2.St}{H:Hp}{R:It->Hp->Prop}
theorem GJ{K:Mv}{f g:FE}(h:tDI (Dm.CN f g) σ H R):Ex K (tDA [f,g]) σ H R:=by
 obtain⟨H0,ρ,ys,ρ',st,e,k⟩:=h;unfold Dm.CN at e;split at e
 ·rename_i vs ρ1 e1;split at e
  ·rename_i xs zs ρ2 e2;cases e;refine⟨H0,ρ,vs,ρ1,st,e1,fun us H0' H' t r=>?_⟩;obtain⟨H1,t1,b1,r1⟩:=takes t (aF.refl _) r e2;cases r1 with
   |cons q1 rr=>
    cases rr with
    |cons q2 rr=>
     cases rr;cases q1 with
     |lst q rs=>
      cases q2 with
      |lst q' rs'=>exact⟨_,_,rfl,⟨_,.inl (aF.rd t1.st.same q)⟩,⟨_,.inl (aF.rd t1.st.same q')⟩,k _ H1 H' t1 (GI q rs q' rs')⟩
  ·cases e
 ·cases e
end
section
variable{X:Cx}{a b:Expr}{fa fb:FE}{p pos:Pos}{elts:List Expr}{x1:Nat}{tp:Pos}
theorem JE(hg:Gl X "zip")(hm:X.mg "zip" = none)(ha:DA X [a,b] [fa,fb])(hs:starEach [a,b] X.env=(false,eval a X.env)::starEach [b] X.env:=by rfl)(hs2:(backTo pos (starEach [b] X.env)).any (·.1)=false:=by rfl) :
  DI X (.Tuple elts x1 tp) (.Call (.Name "zip" p) [a,b] [] pos) (Dm.CN fa fb):=PI.weak (GH hg hm ha hs hs2) fun _ _ _=>GJ
end
end Br
namespace Ts
open PySem PyProof.Rows
variable{M:Model}{A:Around}{E:Value->Shared->Prop}{s:Shared}{κ:KeyKind}{kd:SortKind}{a₀:Array Keyed}
end Ts
namespace Ts
open PySem PyProof.Rows
variable{M:Model}{A:Around}{E:Value->Shared->Prop}{s:Shared}{κ:KeyKind}{kd:SortKind}{a₀:Array Keyed}
end Ts
namespace Ts
open PySem PyProof.Rows
variable{M:Model}{A:Around}{E:Value->Shared->Prop}{s:Shared}{κ:KeyKind}{kd:SortKind}{a₀:Array Keyed}
end Ts
namespace Ts
open PySem PyProof.Rows
variable{M:Model}{A:Around}{E:Value->Shared->Prop}{s:Shared}{κ:KeyKind}{kd:SortKind}{a₀:Array Keyed}
end Ts
namespace Ts
open PySem PyProof.Rows
variable{A:Around}{E:Value->Shared->Prop}{s:Shared}{κ:KeyKind}{kd:SortKind}{a₀:Array Keyed}{prog:Program}{w:World}
end Ts
namespace Ts
open PySem PyProof.Rows
variable{A:Around}{E:Value->Shared->Prop}{s:Shared}{κ:KeyKind}{kd:SortKind}{a₀:Array Keyed}{prog:Program}{w:World}
end Ts
namespace Ts
open PySem PyProof.Rows
variable{A:Around}{E:Value->Shared->Prop}{s:Shared}{κ:KeyKind}{kd:SortKind}{a₀:Array Keyed}{prog:Program}{w:World}
end Ts
namespace Ts
open PySem PyProof.Rows
variable{A:Around}{E:Value->Shared->Prop}{s:Shared}{κ:KeyKind}{kd:SortKind}{a₀:Array Keyed}{prog:Program}{w:World}
end Ts
namespace Ts
open PySem PyProof.Rows
variable{A:Around}{E:Value->Shared->Prop}{s:Shared}{κ:KeyKind}{kd:SortKind}{prog:Program}{w:World}
end Ts
namespace Ts
open PySem PyProof.Rows
variable{A:Around}{E:Value->Shared->Prop}{s:Shared}{κ:KeyKind}{kd:SortKind}{a₀:Array Keyed}{prog:Program}{w:World}
end Ts
namespace Ts
open PySem PyProof.Rows
variable{A:Around}{E:Value->Shared->Prop}{s:Shared}{κ:KeyKind}{kd:SortKind}{prog:Program}{w:World}
end Ts
namespace Dm
noncomputable def isN:Dat->Bool
 |.non=>true
 |_=>false
noncomputable def z7:Dat->Dat->Option RV
 |d,.non=>vB (isN d)
 |_,_=>none
noncomputable def r9:Dat->Dat->Option RV
 |d,.non=>vB (!isN d)
 |_,_=>none
noncomputable def lz(bad:List Dat->Bool)(fs:List FE)(ρ:Env):Option Env:=match eAs fs ρ with
 |none=>none
 |some (xs,ρ1)=>match pks ρ1 xs with
  |none=>none
  |some ds=>if bad ds then some ρ1 else none
noncomputable def rIf(t:FT)(R S:Env->Option Env)(ρ:Env):Option Env:=match t ρ with
 |none=>none
 |some (true,ρ1)=>R ρ1
 |some (false,ρ1)=>S ρ1
noncomputable def CO(ρ:Env):Option Env:=some ρ
noncomputable def rNo(_:Env):Option Env:=none
noncomputable def fnX(n m:Nat)(R:Env->Option Env)(ds:List Dat):Bool:=decide (ds.length=n)&&(R (ds.map .sh++gc m .un)).isSome
noncomputable def lU(C:Nat)(b:Bool):Dat->Option RV
 |.exc C'=>if C'=C then vB b else none
 |.dj C' _=>if C'=C then vB b else none
 |_=>none
end Dm
namespace Br
open PySem PySem.Spec PyProof.Rows L2
section
variable{X:Cx}{a b c e:Expr}{f fa fb:FE}{fs:List FE}{p pos:Pos}
def CQ(neg:Bool):R2:=fun x y H Q=>y=.non/\Q (.bl (if neg then !decide (x=V.non) else decide (x=V.non))) H
theorem v7{x:V}{v:Value}(r:RelV x v):(v == Value.none)=decide (x=V.non):=by
 cases x with
 |non=>cases r;rfl
 |bl b=>cases r;rfl
 |int i=>obtain⟨t,rfl⟩:=r;rfl
 |str z=>obtain⟨t,rfl⟩:=r;rfl
 |byt z=>obtain⟨t,rfl⟩:=r;rfl
 |flt z=>obtain⟨t,rfl⟩:=r;rfl
 |ref z=>cases r;rfl
 |ty z=>cases r;rfl
theorem GK:OpR X (compareOp .Is) (CQ false):=by intro eU s σ H x y v u Q I rx ry h;obtain⟨rfl,q⟩:=h;cases ry;refine is_none_gen ?_;rw[v7 rx];exact⟨.bl _,H,I,rfl,q⟩
theorem l0{H0 H:Hp}{x:V}{d:Dat}(r:jV H0 H x d):decide (x=V.non)=Dm.isN d:=by
 rcases r with r | ⟨a,rfl,w⟩
 ·cases r<;>rfl
 ·cases d with
  |non=>exact MX w
  |_=>rfl
theorem GL:OpD (CQ false) Dm.z7:=by
 intro H0 H x y dx dy z Q s rx ry e k;unfold Dm.z7 at e;split at e
 ·cases e;have hy:=l0 ry;have:y=V.non:=of_decide_eq_true (hy.trans rfl);refine⟨this,?_⟩;rw[if_neg (by decide),l0 rx];exact k _ H0 H (aQ.refl s) (.bl _)
 ·cases e
theorem JF(ha:DE X a fa)(hb:DE X b fb):DT X (.Compare a [.Is] [b] pos) (Dm.tV (Dm.e2 Dm.z7 fa fb)):=lg GK GL ha hb (fL _)
end
end Br
namespace L2
open PySem PySem.Spec PyProof.Rows
def CXE(P:Program)(w:World)(C:Addr):CXT:=fun outer H s E e s'=>
 ∃ea a0 B H',e=.ref ea/\s'.os=s.os/\AllBare s'.gens/\Un (frs outer) [] H H' s.heap s'.heap/\HOk P w H' s'.heap/\Heap.FlyingW B outer ea (.ref C) a0 s'.heap /\
  (∀b o,s'.heap.get? b=some o->(s.heap.get? b).isSome=true\/(H' b).isSome=true->b∉frs outer->B.get? b=some o)/\E (.ref C) (some ea) H'
theorem ck.there{P:Program}{w:World}{H:Hp}{h:Heap}{a:Addr}{o:HO}(x:ck P w H h a o):∃u,h.get? a=some u:=by
 cases o with
 |lst xs=>obtain⟨_,_,_,_,e⟩:=x;exact⟨_,e⟩
 |tup xs=>obtain⟨_,_,_,ob,e,_⟩:=x;exact⟨_,e⟩
 |dK kvs=>obtain⟨_,_,_,_,o,_,_,e,_⟩:=x;exact⟨_,e⟩
 |dT kvs ts=>obtain⟨_,_,_,_,o,_,_,e,_⟩:=x;exact⟨_,e⟩
 |set S n=>obtain⟨o,_,_,_,e,_⟩:=x;exact⟨_,e⟩
 |ins C dx fs=>obtain⟨_,_,_,e,_⟩:=x;exact⟨_,e⟩
 |own y=>obtain⟨_,e⟩:=x;exact⟨_,e⟩
 |xd fs=>obtain⟨_,⟨_,_,_,e,_⟩,_⟩:=x;exact⟨_,e⟩
 |rng lo hi=>obtain⟨_,_,_,e⟩:=x;exact⟨_,e⟩
 |frz ob u=>obtain⟨e,_⟩:=x;exact⟨_,e⟩
 |tbl _ _ _=>obtain⟨_,e,_⟩:=x;exact⟨_,e⟩
 |met f y=>exact⟨_,x⟩
 |ext φ=>obtain⟨_,⟨_,e⟩,_⟩:=x;exact⟨_,e⟩
section
variable{X:Cx}{eU:List (Addr×Obj)}{σ:St}{H:Hp}{s:Shared}{x:Str}{C:Addr}{bmB:List Value}{B newId initId:String}{np cpos pos:Pos}
theorem yb{t:St->Hp->Prop}(hc:X.calm=true)(hg:Gl X x)(O:OwnCls x C bmB newId X.mg X.base)(FB:ExcBaseFacts B newId initId bmB)
  (hE:∀eU σ H s h' e,Inv X eU σ H s->t σ H->Heap.MadeExcOf s.heap h' e (.ref C) []->X.xe (.ref e) { s with heap:=h' }) (Rq:(x == ("__debug__" : Str))=false:=by decide) :
  PS X (.Raise (some (.Call (.Name x np) [] [] cpos)) none pos) (fun _ σ H=>t σ H):=by
 intro eU s σ H D I h;obtain⟨tl,N,nm,q,bs,hdct,sn,sub,ab,col,dd,k0,k1,k2,k3,k5,mN,hC,hN,hni,T⟩:=O.obj;refine wpAny_Raise_call_subT (C:=C) (nm:=nm) (q:=q) (N:=N) (bs:=bs) (bm:=tl) (hdct:=hdct) (sn:=sn) (sub:=sub) (ab:=ab) (col:=col) (dd:=dd) (k0:=k0) (k1:=k1) (k2:=k2) (k3:=k3) (k5:=k5)
  FB (mN:=mN) (T.hasType FB.hasBase) (I.ok.hd hc) rfl hni (jR I hg O.bound ⟨rfl,?_⟩ Rq)
 exact evalArgs_empty ⟨rfl,Nc _,I.bk _ _ hC,hN.keeps I.bk,T.keeps I.bk,fun h' e hm=>hE eU σ H s h' e I h hm⟩
theorem Inv.out(I:Inv X eU σ H s){h'' Bh:Heap}(hx:X.ex=[])(hB:∀b o,s.heap.get? b=some o->b∉frs X.stack->(X.s₀.heap.get? b).isSome=true\/(H b).isSome=true->Bh.get? b=some o)(k1:Bh.StaysIn h'')
  (sl:s.heap.UpToSlots h''):Un X.fs [] X.H₀ H X.s₀.heap h''/\HOk X.prog X.w H h'' /\
   (∀b o,h''.get? b=some o->(X.s₀.heap.get? b).isSome=true\/(H b).isSome=true->b∉X.fs->Bh.get? b=some o):=by
 have nx:∀b:Addr,b∉X.ex:=fun b z=>by rw[hx]at z;cases z
 have neL:∀b o,X.s₀.heap.get? b=some o->b≠X.env.locals:=fun b o e=>Nb (MZ (MS e) I.ok.above);have nst:∀b o,X.s₀.heap.get? b=some o->b∉X.fs->b∉frs X.stack:=fun b o e hb z=>(MV.mp (I.mC b z)).elim (neL b o e) hb;have frame:∀b,b∈X.fs->∀o,s.heap.get? b=some o->∃sl,h''.get? b=some { o with slots:=sl }:=fun b hb o e=>by obtain⟨_,o',ho',hd⟩:=I.lP.mem hb;rw[e]at ho';cases ho';exact sl b o e hd
 have stay:∀b o,b∉frs X.stack->(X.s₀.heap.get? b).isSome=true\/(H b).isSome=true->s.heap.get? b=some o->h''.get? b=some o:=fun b o hb hh e=>k1 b o (hB b o e hb hh);have tr:∀b u,H b=some u->b∉frs X.stack:=fun b u e z=>by rw[I.qm b z]at e;cases e
 refine⟨⟨fun b o e n hb _=>?_,fun b o e n hb _=>?_,fun b o e n _=>I.base.free b o e n (nx b),fun b o e _=>?_,I.base.tups,I.base.lO,I.base.mz⟩,fun b u e=>?_,fun b o e hh hb=>?_⟩
 ·exact stay b o (nst b o e hb) (.inl (by rw[e];rfl)) (I.base.keep b o e n hb (nx b))
 ·obtain⟨s1,e1⟩:=I.base.slot b o e n hb (nx b);obtain⟨s2,e2⟩:=frame b hb _ e1;exact⟨s2,e2⟩
 ·obtain⟨o1,e1⟩:=I.base.there b o e (nx b);by_cases hb:b∈X.fs
  ·obtain⟨s2,e2⟩:=frame b hb _ e1;exact⟨_,e2⟩
  ·exact⟨o1,stay b o1 (nst b o e hb) (.inl (by rw[e];rfl)) e1⟩
 ·refine(I.hok b u e).stay (fun c v hc q=>?_) (fun _ q=>q) (fun _ _ _ q=>q) fun _ _ q=>q;rcases hc with rfl | hc
  ·exact stay c v (tr c u e) (.inr (by rw[e];rfl)) q
  ·exact stay c v (tr c _ hc) (.inr (by rw[hc];rfl)) q
 ·have:∃o1,s.heap.get? b=some o1:=by
   rcases hh with hh | hh
   ·obtain⟨o0,e0⟩:=Ng.mp hh;exact I.base.there b o0 e0 (nx b)
   ·obtain⟨u,e0⟩:=Ng.mp hh;exact(I.hok b u e0).there
  obtain⟨o1,e1⟩:=this;have hs:b∉frs X.stack:=by
   rcases hh with hh | hh
   ·obtain⟨o0,e0⟩:=Ng.mp hh;exact nst b o0 e0 hb
   ·obtain⟨u,e0⟩:=Ng.mp hh;exact tr b u e0
  have e2:=stay b o1 hs hh e1;rw[e]at e2;cases e2;exact hB b o e1 hs hh
end
section
variable{P:Program}{w:World}{K:Mv}{mg:Str->Option Value}{base:Heap}{N:List Str}{qual:Str}{scope:Scope}{f:Addr}{cd:Value}{A:Around}{outer:List Env}{s₀:Shared}{H₀:Hp}{E:XK}{C:Addr}
 {eU:List (Addr×Obj)} {σ:St} {H:Hp} {s:Shared}
theorem CS{h h' h'':Heap}(k:∀b o,h.get? b=some o->h'.get? b=some o)(x:h'.UpToSlots h''):h.UpToSlots h'':=(Heap.UpToSlots.of_keeps k).trans x
theorem CT(I:Inv (gB (CXE P w C) P w K mg base N qual scope f cd A outer s₀ H₀ E) eU σ H s){h':Heap}{e:Addr}(hx:Heap.MadeExcOf s.heap h' e (.ref C) [])(hE:E (.ref C) (some e) H) :
  (gB (CXE P w C) P w K mg base N qual scope f cd A outer s₀ H₀ E).xe (.ref e) { s with heap:=h' }:=by
 have hin:∀env∈(gB (CXE P w C) P w K mg base N qual scope f cd A outer s₀ H₀ E).stack,∀b,env.frame=some b->b∈frs (gB (CXE P w C) P w K mg base N qual scope f cd A outer s₀ H₀ E).stack:=fun env he b hb=>Om.mpr ⟨env,he,hb⟩;show wpAny (model P w) _ (leaving _ (.ref e)) _ _ _;refine wpAny_leaves_madeW (base:=Po s.heap (frs (gB (CXE P w C) P w K mg base N qual scope f cd A outer s₀ H₀ E).stack)) (h:=s.heap) (L:=s₀.heap.objs.size) I.ok.frames rfl (fun b o q=>PySem.W.of_hideAll _ q) (PySem.W.funFrames_hide I.stack hin) hx fun h'' t fl tup bt sl=>?_;obtain⟨u1,u2,u3⟩:=I.out (h'':=h'') (Bh:=Po s.heap (frs (gB (CXE P w C) P w K mg base N qual scope f cd A outer s₀ H₀ E).stack)) rfl (fun b o q hb _=>PySem.W.hideAll_get _ q hb) fl.1 (CS hx.keeps sl);exact⟨e,.ref t,_,H,rfl,I.os,I.bare,u1,u2,fl,u3,hE⟩
theorem JG:Passes (CXE P w C) (gB (CXE P w C) P w K mg base N qual scope f cd A outer s₀ H₀ E) E:=by
 intro eU σ H s e s' I hq;obtain⟨ea,a0,Bh,H',rfl,os,bare,un,hok,fl,hB,hE⟩:=hq;obtain⟨hh,g,d,t,os'⟩:=s';obtain rfl:os'=s.os:=os;have J:=I.call (h':=hh) (g':=g) (d':=d) (t':=t) (ch:=[]) un hok bare (fun b z=>absurd z (by simp));show wpAny (model P w) _ (leaving _ (.ref ea)) _ _ _;refine wpAny_leaves_onW (base:=Bh) (L:=s₀.heap.objs.size) I.ok.frames rfl fl fun h'' JH sl=>?_;have neL:∀b o,s₀.heap.get? b=some o->∃o1,s.heap.get? b=some o1:=fun b o e=>I.base.there b o e (fun z=>nomatch z);obtain ⟨u1,u2,u3⟩:=J.out (h'':=h'') (Bh:=Bh) rfl (fun b o q hb hh=>hB b o q (hh.imp (fun z=>by obtain⟨o0,e0⟩:=Ng.mp z;obtain⟨o1,e1⟩:=neL b o0 e0;rw[e1];rfl) id) hb) JH.1 sl
 exact⟨ea,a0,Bh,H',rfl,J.os,bare,u1,u2,JH,u3,hE⟩
end
section
variable{X:Cx}{st:Stmt}{yi:List Stmt}{t:TS}
noncomputable def DF:Ends:={ nx:=fun _ _=>False,rt:=fun _ _=>False,bk:=fun _ _=>False,ct:=fun _ _=>False }
theorem z8(h1:PS X st t):PSs X (st::yi) (fun _ σ H=>t DF σ H):=by
 intro eU s σ H D I h;refine wpAny_execs_cons (thn (h1 eU s σ H DF I h) fun f s1 q=>?_);cases f with
 |next=>obtain⟨_,_,_,q⟩:=q;exact MX q
 |ret v=>obtain⟨_,_,_,_,_,q⟩:=q;exact MX q
 |brk=>obtain⟨_,_,_,q⟩:=q;exact MX q
 |cont=>obtain⟨_,_,_,q⟩:=q;exact MX q
end
end L2
namespace Br
open PySem PySem.Spec PyProof.Rows L2
def v8(C:Addr)(X:Cx)(E:L2.St->XK):Prop:=∀(eU:List (Addr×Obj)) (σ:L2.St) (H:Hp) (s:Shared) (e:Value) (s':Shared),Inv X eU σ H s->CXE X.prog X.w C X.stack H s (E σ) e s'->X.xe e s'
def tX(C:Addr)(E:L2.St->XK)(R:Dm.Env->Option Dm.Env)(σ:L2.St)(H:Hp):Prop:=∃H0 ρ ρ',aJ H0 H σ ρ/\R ρ=some ρ'/\∀a H0' H',ESt σ ρ H0 H ρ' H0' H'->E σ (.ref C) (some a) H'
def spX(C:Addr)(bad:List Dat->Bool):Sp:=fun vs H _ E=>∃H0 ds,aF H0 H/\bg H0 vs ds/\bad ds=true/\∀a H0' H',aQ H0 H H0' H'->E (.ref C) (some a) H'
noncomputable abbrev XE(X:Cx)(C:Addr)(E:L2.St->XK)(e:Expr)(R:Dm.Env->Option Dm.Env):Prop:=PE X e (fun σ H _=>tX C E R σ H)
noncomputable abbrev XS(X:Cx)(C:Addr)(E:L2.St->XK)(st:Stmt)(R:Dm.Env->Option Dm.Env):Prop:=PS X st (fun _ σ H=>tX C E R σ H)
section
variable{X:Cx}{C:Addr}{E:L2.St->XK}{k:Nat}{F:Addr}{fd:FuncData}{ps:List Str}{x:Str}{p pos:Pos}{e:Expr}{es:List Expr}{fs:List FE}{bad:List Dat->Bool}{R S:Dm.Env->Option Dm.Env}
theorem CU{eU:List (Addr×Obj)}{σ:L2.St}{H:Hp}{s:Shared}{Q:VK}{us:List Value}{vs:List V}(G:bW X.prog X.w X.K X.mg X.base (CXE X.prog X.w C) k F fd ps (spX C bad))(hr:c_ k X.A)(hb:Binds X.K fd ps [])(hx:v8 C X E)
  (I:Inv X eU σ H s) (r:Vals vs us) (h:spX C bad vs H Q (E σ)):wpAny (model X.prog X.w) X.A (call (.ref F) us) (EP X eU σ Q) X.xe s:=by
 have hl:(us++[]).length=ps.length:=by rw[Nl,<- r.length];exact G.len _ _ _ _ h
 have hb':=hb s us I.kIn hl;rw[Nl]at hb';refine wpAny_call (codeAny_mono (G.run X.A X.stack s H ⟨us,[]⟩ us vs Q (E σ) hr I.IC hb' r h) fun r s' hq=>?_);cases r with
 |error e=>exact hx eU σ H s e s' I hq
 |ok fl=>
  cases fl with
  |ret u=>exact I.after hq
  |next=>exact MX hq
  |brk=>exact MX hq
  |cont=>exact MX hq
theorem CV{σ:L2.St}{H:Hp}(h:tX C E (Dm.lz bad fs) σ H)(Q:VK):tDA fs σ H fun vs H1=>spX C bad vs H1 Q (E σ):=by
 obtain⟨H0,ρ,ρ',st,hR,k⟩:=h;unfold Dm.lz at hR;split at hR
 ·cases hR
 rename_i xs ρ1 e1;split at hR
 ·cases hR
 rename_i ds p1;split at hR
 case isFalse=>cases hR
 rename_i hbad;cases hR;refine⟨H0,ρ,xs,ρ',st,e1,fun vs H1 Hb t1 r1=>?_⟩;obtain⟨ρ2,e2⟩:=iU p1;obtain⟨H2,t2,b2,r2⟩:=takes t1 (aF.refl _) r1 e2;exact⟨H2,ds,t2.st.same,r2,hbad,fun a H0' H' g=>k a H1 H' (t1.trans (.grow t1.st ⟨aF.refl _,g.s1,fun a o q=>.inr q,t1.st.same.trans g.s1⟩))⟩
theorem x_call(G:bW X.prog X.w X.K X.mg X.base (CXE X.prog X.w C) k F fd ps (spX C bad))(hr:c_ k X.A)(hg:Gl X x)(hm:X.mg x=some (.ref F))(hk:N6 X.K (.ref F)=true)(hb:Binds X.K fd ps [])(hx:v8 C X E)
  (ha:DA X (e::es) fs) (Rq:(x == ("__debug__" : Str))=false:=by decide) (he:starEach (e::es) X.env=(false,eval e X.env)::starEach es X.env:=by rfl) (ED:(backTo pos (starEach es X.env)).any (·.1)=false:=by rfl) :
  XE X C E (.Call (.Name x p) (e::es) [] pos) (Dm.lz bad fs):=by
 intro eU s σ H Q I h;refine wpAny_Call_Name_kw (jR I hg hm ?_ Rq);refine PySem.W.callWith_K (h₀:=X.base) I.ok.mod.kin hk (thn (ha pos eU s σ H _ I (CV h Q)) fun us s1 ⟨vs,H1,I1,r,q⟩=>⟨I1.kIn,?_⟩) he ED;exact CU G hr hb hx I1 r q
theorem z9(h:XE X C E e R)(hs:swapsWith e none pos.line X.env=pure false:=by rfl):XS X C E (.Expr e pos) R:=PS.weak (qo h hs) fun _ _ _ q=>q
theorem x_a(i:Nat){x:Str}{pos':Pos}(hN:X.N.Nodup)(he:XE X C E e R)(hi:X.N[i]?=some x:=by rfl)(hx:Loc X.env.scope x:=by trivial)(hs:swapsWith e (some (.Name x pos')) pos.line X.env=pure false:=by rfl)
  (hf:X.fn x=true\/X.env.scope.names.lookup x=some .local:=by trivial):XS X C E (.Assign [.Name x pos'] e pos) R:=PS.weak (yU hN hi hx he hs hf) fun _ _ _ q=>q
end
section
variable{P:Program}{w:World}{K:Mv}{mg:Str->Option Value}{base:Heap}{N:List Str}{qual:Str}{scope:Scope}{f:Addr}{cd:Value}{A:Around}{outer:List Env}{s₀:Shared}{H₀:Hp}{E:XK}{C:Addr}
theorem JI:v8 C (gB (CXE P w C) P w K mg base N qual scope f cd A outer s₀ H₀ E) (fun _=>E):=fun eU σ H s e s' I q=>JG eU σ H s e s' I q
theorem x_raise{x:Str}{bmB:List Value}{B newId initId:String}{np cpos pos:Pos}(O:OwnCls x C bmB newId mg base)(FB:ExcBaseFacts B newId initId bmB)(hg:Gl (gB (CXE P w C) P w K mg base N qual scope f cd A outer s₀ H₀ E) x)(Rq:(x == ("__debug__" : Str))=false:=by decide) :
  XS (gB (CXE P w C) P w K mg base N qual scope f cd A outer s₀ H₀ E) C (fun _=>E) (.Raise (some (.Call (.Name x np) [] [] cpos)) none pos) Dm.CO:=
 yb rfl hg O FB (fun eU σ H s h' e I ⟨H0,ρ,ρ',st,hR,k⟩ hm=>CT I hm (k e _ _ (by cases hR;exact ESt.refl st))) Rq
end
theorem v9{C:Addr}{n m:Nat}{R:Dm.Env->Option Dm.Env}{vs:List V}{H:Hp}{Q:VK}{E:XK}(h:spX C (Dm.fnX n m R) vs H Q E):vs.length=n:=by obtain⟨H0,ds,s,rs,e,k⟩:=h;unfold Dm.fnX at e;rw[MY,decide_eq_true_eq]at e;rw[rs.length];exact e.1
theorem z_{N:List Str}{n m:Nat}{vs:List V}{H0 H:Hp}{ds:List Dat}(hm:N.length=n+m)(hvn:vs.length=n)(s:aF H0 H)(rs:bg H0 vs ds) :
  aJ H0 H (start N vs) (ds.map Dm.Cell.sh++gc m .un)/\∀a,¬aG (start N vs) (ds.map Dm.Cell.sh++gc m .un) a:=by
 have hl:=rs.length;refine ⟨?_,fun a ⟨i,d,h1,_⟩=>by
  by_cases hi:i<ds.length
  ·rw[MU (by simpa using hi),M0]at h1;cases q:ds[i]? with
   |none=>rw[q]at h1;cases h1
   |some y=>rw[q]at h1;cases h1
  ·rw[M5 (by simpa using hi),Nj]at h1;split at h1<;>cases h1⟩
 refine⟨s,?_,fun i d h=>?_,fun i d h=>?_,fun i j d e a h1 h2 _ _=>?_⟩
 ·unfold L2.start;simp only[MA,MP,N7]
  lia
 ·have hi:i<ds.length:=by
   by_cases hi:i<ds.length
   ·exact hi
   ·rw[M5 (by simpa using hi),Nj]at h;split at h<;>cases h
  rw[MU (by simpa using hi),M0]at h;cases q:ds[i]? with
  |none=>rw[q]at h;cases h
  |some y=>rw[q]at h;cases h;obtain⟨v,hv,r⟩:=rs.get q;refine⟨v,?_,r⟩;unfold L2.start;rw[MU (by simpa [hl] using hi),M0,hv];rfl
 ·by_cases hi:i<ds.length
  ·rw[MU (by simpa using hi),M0]at h;cases q:ds[i]? with
   |none=>rw[q]at h;cases h
   |some y=>rw[q]at h;cases h
  ·rw[M5 (by simpa using hi),Nj]at h;split at h<;>cases h
 ·by_cases hi:i<ds.length
  ·rw[MU (by simpa using hi),M0]at h1;cases q:ds[i]? with
   |none=>rw[q]at h1;cases h1
   |some y=>rw[q]at h1;cases h1
  ·rw[M5 (by simpa using hi),Nj]at h1;split at h1<;>cases h1
end Br
namespace PySem.W
open PySem PySem.Spec PySem.Calls PyProof.Rows
structure iV(K:Frag)(C:Addr):Prop where
 ga:findIn K (.ref C) "__getattribute__" = some (some (.builtin "BaseException.__getattribute__"))
 gn:findIn K (.ref C) "__getattr__" = some none
 cl:findIn K (.ref C) "__class__" = some (some (.builtin "object.__class__"))
 mB:mroIn K C (.type "BaseException")=some true
 mO:mroIn K C (.type "object")=some true
def pH(x C:Addr)(h:Heap):Prop:=∃ox,h.get? x=some ox/\ox.cls=.ref C
theorem iy{x C:Addr}{M:Model}{h:Heap}(p:pH x C h):Looks M h (typeOf (.ref x)) (.ref C):=by obtain⟨o,h1,h2⟩:=p;exact h2▸(Looks.ld h1).andThen .now
section
variable{prog:Program}{w:World}{A:Around}{K:Frag}{x C:Addr}{s:Shared}{R:Result->Shared->Prop}
theorem uR{tp:Value}(X:K.In s.heap)(I:pH x C s.heap)(hm:mroIn K C (.type "object")=some true)
  (h:R (.ok (.ret (.ref C))) s):codeAny (model prog w) A (.call (.builtin "getset_descriptor.__get__") ⟨[.builtin "object.__class__",.ref x,tp],[]⟩) R s:=by
 obtain⟨hh,g,dr,t,os⟩:=s;have L0:=iy (M:=model prog w) I;have L1:=looks_mroIn (M:=model prog w) X hm;refine codeAny_call_builtin KF.slot_gs.plain KF.entry_gs (KF.slot_gs.check _ _ _ _ _ _ _ _ KF.type_class (KF.args_gs _ _ _) ?_);unfold Builtin.«getset_descriptor.__get__» Builtin.Getset_descriptor.descrGet;rw[dga_obj];refine wpAny_bind (wpAny_pure ?_);unfold Builtin.Getset_descriptor.descrGetter Builtin.Getset_descriptor.descrCheckInstance Builtin.Getset_descriptor.descrNameAndClass isInstance;simp only[KF.owner_class]
 repeat lk
 refine⟨Code.quiet_builtin _ (by decide +kernel),codeAny_builtin KF.entry_class ?_⟩;unfold Builtin.«object.__class__» shownTypeOf
 repeat lk
 exact h
end
section
variable{prog:Program}{w:World}{A:Around}{E:Value->Shared->Prop}{K:Frag}{x C:Addr}{ox:Obj}{h:Heap}{g:Array GenState}{d:Drawn}{t:Nat}{os:OsState}
theorem Aa{M:Model}{nameV:Value}{Q:Unit->Shared->Prop}(Z:iV K C)(X:K.In h)(I:pH x C h)(hq:Q () ⟨h,g,d,t,os⟩):wpAny M A (checkBuiltinCall "BaseException.__getattribute__" ⟨[.ref x,nameV],[]⟩) Q E ⟨h,g,d,t,os⟩:=by
 have hk:builtinKind "BaseException.__getattribute__" = some .slot:=by decide +kernel
 have hsplit:splitId "BaseException.__getattribute__" = some ("BaseException","__getattribute__"):=by decide +kernel
 have L0:=iy (M:=M) I;have L1:=looks_mroIn (M:=M) X Z.mB;have LI:Looks M h (isInstance (.ref x) (.type "BaseException")) true:=L0.andThen L1;have ha:=PySem.F.args_bexc_ga (.ref x) nameV;simp only[checkBuiltinCall,hk,hsplit];refine wpAny_bind (LI.at ?_)
 repeat (first | assumption | wp_step)
theorem Ab{tk:Tok}{Q:Fin->Shared->Prop}(Z:iV K C)(X:K.In h)(I:pH x C h)(hq:Q (.done (.ret (.ref C))) ⟨h,g,d,t,os⟩) :
  wpAny (model prog w) A (Builtin.«object.__getattribute__» ⟨[.ref x,.str "__class__" tk],[]⟩) Q E ⟨h,g,d,t,os⟩:=by
 have hT5:(⟨h,g,d,t,os⟩:Shared).TypeIs (.builtin "object.__class__") "getset_descriptor" := F.typeOf_object_class;have f5:=F.typeOf_object_class;have f6:=F.slot_gs_get.lookup;have f7:=F.slot_gs_set.lookup;have L0:=iy (M:=model prog w) I;have L1:=looks_findIn (M:=model prog w) X Z.cl
 repeat (any_goals (first | assumption | with_reducible refine L0.at ?_ | with_reducible refine L1.at ?_ | wp_step))
 refine uR X I Z.mO ?_
 repeat (any_goals (first | assumption | wp_step))
theorem CW{tk:Tok}{R:Result->Shared->Prop}(Z:iV K C)(X:K.In h)(I:pH x C h)(hq:R (.ok (.ret (.ref C))) ⟨h,g,d,t,os⟩) :
  codeAny (model prog w) A (.call (.builtin "BaseException.__getattribute__") ⟨[.ref x,.str "__class__" tk],[]⟩) R ⟨h,g,d,t,os⟩:=
 codeAny_call_builtin PySem.F.excAttr_ValueError.ga.plain PySem.F.entry_bexc_ga (Aa Z X I (Ab Z X I hq))
theorem JJ{tk:Tok}{Q:Value->Shared->Prop}(Z:iV K C)(X:K.In h)(I:pH x C h)(hq:Q (.ref C) ⟨h,g,d,t,os⟩) :
  wpAny (model prog w) A (getAttrBy (.ref x) (.str "__class__" tk) false) Q E ⟨h,g,d,t,os⟩:=by
 have f3:=PySem.F.excAttr_ValueError.ga.bind (.ref x);have hx2:(O7 "BaseException.__getattribute__" == O7 "object.__getattribute__")=false:=by decide +kernel
 have hx1:(onTheHeap (Nq C)&&O7 "BaseException.__getattribute__" == O7 "object.__getattribute__")=false:=by rw[hx2];rfl
 have L0:=iy (M:=model prog w) I;have L1:=looks_findIn (M:=model prog w) X Z.ga;have L2:=looks_findIn (M:=model prog w) X Z.gn
 repeat (any_goals (first | assumption | with_reducible refine L0.at ?_ | with_reducible refine L1.at ?_ | with_reducible refine L2.at ?_ | wp_step))
 refine CW Z X I ?_
 repeat (any_goals (first | assumption | wp_step))
theorem CY{s:Shared}{Q:Option Value->Shared->Prop}(Z:iV K C)(X:K.In s.heap)(I:pH x C s.heap)(hq:Q (some (.ref C)) { s with toks:=s.toks+1 }):wpAny (model prog w) A (getAttr? (.ref x) "__class__") Q E s:=by
 obtain⟨h,g,d,t,os⟩:=s;unfold getAttr? getAttrBy?
 repeat (any_goals (first | assumption | with_reducible apply JJ Z X I | wp_step))
theorem r_(Z:iV K C)(hc:(clsIn K C).isSome=true):KitX K (.ref x) (.ref C) (pH x C) where
 ty:=fun _ _ _ I=>iy I
 it:=fun _ _ X _=>by
  unfold clsIn at hc;split at hc
  ·rename_i c' d' cd' sl' ho;intro A' Q' E' s' k q;unfold isType loadHead;exact wpAny_bind (wpAny_loadPart (k _ _ (X _ _ ho)) (wpAny_pure q))
  ·cases hc
 ne:=fun h tp dd its n sl X htp=>by
  refine Pe.mpr fun q=>?_;have e:C=tp:=Nq.inj (beq_iff_eq.mp q);subst e;unfold clsIn at hc;split at hc
  ·rename_i c' d' cd' sl' ho;have z:=(X _ _ ho).symm.trans htp;cases z
  ·cases hc
 ca:=fun X I k=>CY Z X I k
end
end PySem.W
namespace PySem
theorem lA{α:Type}(p:α->Bool):∀(l:List α) (i:Nat) (x:α),l[i]?=some x->p x=false->(l.eraseIdx i).find? p=l.find? p
 |[],i,x,h,_=>by simp at h
 |y::l,0,x,h,hp=>by simp only[Dp,Option.some.injEq]at h;subst h;rw[List.eraseIdx_cons_zero,Pu,hp]
 |y::l,i+1,x,h,hp=>by rw[List.eraseIdx_cons_succ,Pu,Pu,lA p l i x (by simpa using h) hp]
theorem pI{es:Array DictEntry}{i:Nat}{name y:Str}(hi:es.findIdx? (·.key.isStr name)=some i)(hy:y≠name):nsFind (es.eraseIdxIfInBounds i) y=nsFind es y:=by
 obtain⟨L8,hp,_⟩:=Array.findIdx?_eq_some_iff_getElem.mp hi;have hq:(es[i]).key.isStr y=false:=by
  cases hk:(es[i]).key with
  |str z t=>rw[hk]at hp;simp only[PL,beq_iff_eq]at hp;simp only[PL,beq_eq_false_iff_ne];intro e;exact hy (e.symm.trans hp)
  |_=>rw[hk]at hp;simp[PL]at hp
 have h2:(es.eraseIdxIfInBounds i).toList=es.toList.eraseIdx i:=by unfold Array.eraseIdxIfInBounds;rw[dif_pos L8,Array.toList_eraseIdx]
 unfold nsFind findBy;rw[<- OV,<- OV,h2,lA _ _ i es[i] (by rw[Array.getElem?_toList,Array.getElem?_eq_getElem L8]) hq]
section
variable{M:Model}{A:Around}{E:Value->Shared->Prop}{s:Shared}{env:Env}
theorem qH{a:Addr}{m}{name:Str}{Q:Bool->Shared->Prop}(hn:s.heap.Ns a m)
  (hQ:∀h' m',h'.Ns a m'->(∀y,y≠name->m' y=m y)->OI a s.heap h'->Q (m name).isSome { s with heap:=h' }):wpAny M A (nsDel a name) Q E s:=by
 obtain⟨o,es,ep,ho,hd,hk,hm⟩:=id hn;have hany:es.any (·.refKey)=false:=by rw[Array.any_eq_false'];intro e he;obtain⟨n,t,h⟩:=hk e he;simp[DictEntry.refKey,h]
 have hsome:(m name).isSome=es.any (·.key.isStr name):=by
  rw[<- hm name];simp only[nsFind,findBy,Option.isSome_map];rw[Oh];simp only[Array.find?_isSome,Array.any_eq_true];constructor
  ·rintro⟨x,hx,hp⟩;obtain⟨i,hi,rfl⟩:=Array.mem_iff_getElem.mp hx;exact⟨i,hi,hp⟩
  ·rintro⟨i,hi,hp⟩;exact⟨_,Array.getElem_mem hi,hp⟩
 have hhas:nsHas name o=pure (es.any (·.key.isStr name)):=by
  rw[nsHas_eq];unfold nsHasByArray;rw[hd];show (if (es.any fun x=>x.key.isStr name)=true then _ else _)=_
  generalize (es.any fun x=>x.key.isStr name)=b
  cases b<;>simp[hany]
 unfold nsDel;refine wpAny_bind (wpAny_loadPart ho ?_);rw[hhas];refine wpAny_bind (wpAny_pure ?_);rw[<- hsome];cases hmn:(m name).isSome
 ·have:=hQ s.heap m hn (fun _ _=>rfl) (.refl ..);rw[hmn]at this;exact wpAny_pure this
 ·refine wpAny_bind (wpAny_updatePart ho (wpAny_pure ?_));have key:∃m',(s.heap.update a (Obj.dropName name)).Ns a m'/\∀y,y≠name->m' y=m y:=by
   obtain⟨cl,d,dt,sl⟩:=o;subst hd;cases hi:es.findIdx? (·.key.isStr name) with
   |some i=>exact⟨nsFind (es.eraseIdxIfInBounds i),⟨_,_,ep+1,N8 _ ho (by simp only[ON,Od,hi]<;>rfl),(by simp only[ON,Od,hi]<;>rfl),hk.erase i,fun _=>rfl⟩,fun y hy=>by rw[pI hi hy,hm]⟩
   |none=>exact⟨nsFind es,⟨_,_,ep,N8 _ ho (by simp only[ON,Od,hi]<;>rfl),(by simp only[ON,Od,hi]<;>rfl),hk,fun _=>rfl⟩,fun y _=>hm y⟩
  obtain⟨m',hm',hy⟩:=key;have:=hQ _ m' hm' hy (OI.update ..);rw[hmn]at this;exact this
theorem lV{n:Str}{pos:Pos}{m:Str->Option Value}{Q:Unit->Shared->Prop}(hl:env.kindOf n=some .local)(hn:s.heap.Ns env.locals m)
  (hp:(env.scope.kind == .class||(env.scope.kind == .module&&env.locals != env.globals))=false)
  (h:∀h' m',h'.Ns env.locals m'->(∀y,y≠n->m' y=m y)->OI env.locals s.heap h'->Q () { s with heap:=h',toks:=s.toks+1 }) :
  wpAny M A (do bindName env n .none;unbindBehindTheSuite env n pos) Q E s:=by
 refine wpAny_bind (wpAny_bindName (wpAny_storeName_local hl hn (fun h₁ hn₁ hs₁=>?_) hp));unfold unbindBehindTheSuite;refine wpAny_onRaise ?_;unfold unbindName;refine wpAny_bind (wpAny_point (wpAny_bind ?_));unfold deleteName;simp only[hl,hp];rw[if_neg (by decide)];refine wpAny_bind (qH hn₁ fun h₂ m₂ hn₂ hy hs₂=>?_);simp only[if_true,Option.isSome_some,MH,OX,if_false];exact wpAny_pure (wpAny_point (h h₂ m₂ hn₂ (fun y hny=>(hy y hny).trans (if_neg hny)) (hs₁.trans hs₂)))
end
end PySem
namespace PySem.W
open PySem PySem.Spec PySem.Calls PyProof.Rows
structure l6(K:Frag)(C CP:Addr):Prop where
 ty:typeIn K (.ref CP)=some (.type "type")
 cl:(clsIn K CP).isSome=true
 mB:mroIn K CP (.type "BaseException")=some true
 mP:mroIn K C (.ref CP)=some true
theorem sd{M:Model}{A:Around}{E:Value->Shared->Prop}{K:Frag}{x C CP:Addr}{h:Heap}{g:Array GenState}{d:Drawn}{t:Nat}{os:OsState}{Q:Bool->Shared->Prop}
  (Z:l6 K C CP) (X:K.In h) (I:pH x C h) (hq:Q true ⟨h,g,d,t,os⟩):wpAny M A (excMatches (.ref x) (.ref CP)) Q E ⟨h,g,d,t,os⟩:=by
 have L0:=iy (M:=M) I;have L1:=looks_typeIn (M:=M) X Z.ty;have L2:=looks_mroIn (M:=M) X Z.mB;have L3:=looks_mroIn (M:=M) X Z.mP;have L4:Looks M h (isType (.ref CP)) true:=by
  have hc:=Z.cl;unfold clsIn at hc;split at hc
  ·rename_i c' d' cd' sl' ho;intro A' Q' E' s' k q;unfold isType loadHead;exact wpAny_bind (wpAny_loadPart (k _ _ (X _ _ ho)) (wpAny_pure q))
  ·cases hc
 have LT:Looks M h (isSubtype (.type "type") (.type "tuple")) false:=Looks.of_pure tc_notTuple;unfold excMatches isInstance
 repeat lk
 exact hq
end PySem.W
namespace L2
open PySem PySem.Spec PyProof.Rows
section
variable{X:Cx}{eU:List (Addr×Obj)}{σ:L2.St}{H:Hp}{s:Shared}
theorem Inv.fly(I:Inv X eU σ H s){h'' B:Heap}{t':Nat}(hx:X.ex=[])(hB:∀b o,s.heap.get? b=some o->b∉frs X.stack->((X.s₀.heap.get? b).isSome=true\/(H b).isSome=true\/∃p∈X.pn++eU,p.1=b)->B.get? b=some o)
  (k1:B.StaysIn h'') (sl:s.heap.UpToSlots h''):Inv X eU σ H { s with heap:=h'',toks:=t' }:=by
 obtain⟨u1,u2,_⟩:=I.out (h'':=h'') (Bh:=B) hx (fun b o e hb hh=>hB b o e hb (hh.imp id .inl)) k1 sl;have cellK:∀c v,s.heap.IsCell c v->h''.IsCell c v:=fun c v ⟨o,ho,hd⟩=>by
  obtain⟨sl',e⟩:=sl c o ho fun vs q=>by rw[hd]at q;cases q
  exact⟨_,e,hd⟩
 refine⟨I.ok,I.os,I.bare,by rw[hx];exact u1,?_,fun x c e=>?_,I.free,I.eO,fun p hp=>?_,u2,I.len⟩
 ·obtain⟨m,hn,hl⟩:=I.loc;refine⟨m,sl.ns hn,fun i x v e1 e2 e3=>?_⟩;obtain⟨u,r,l⟩:=hl i x v e1 e2 e3;refine⟨u,r,?_⟩;rcases l with l | ⟨k,c,e,z⟩
  ·exact .inl l
  ·exact .inr ⟨k,c,e,cellK c _ z⟩
 ·obtain⟨v,z⟩:=I.cell x c e;exact⟨v,cellK c v z⟩
 ·obtain⟨e,n,ne,nf,d⟩:=I.pin p hp;exact⟨k1 _ _ (hB p.1 p.2 e (fun z=>(MV.mp (I.mC _ z)).elim ne nf) (.inr (.inr ⟨p,hp,rfl⟩))),n,ne,nf,d⟩
theorem Inv.JK(I:Inv X eU σ H s){ea:Addr}{o:HO}(n:H ea=none)(hok:ck X.prog X.w (upd H ea o) s.heap ea o)(n0:X.s₀.heap.get? ea=none)(nl:ea≠X.env.locals)(nc:∀x c,X.env.cells.lookup x=some c->c≠ea)
  (np:∀p∈X.pn++eU,p.1≠ea):Inv X eU σ (upd H ea o) s:=by
 have ne:∀b u,H b=some u->b≠ea:=fun b u e z=>by rw[z,n]at e;cases e
 have n1:∀b u,X.s₀.heap.get? b=some u->b≠ea:=fun b u e z=>by rw[z,n0]at e;cases e
 refine⟨I.ok,I.os,I.bare,⟨I.base.keep,I.base.slot,fun b u e q hx=>?_,I.base.there,fun b xs e=>?_,fun b u v e=>?_,fun b x1 x2 x3 e=>?_⟩,I.loc,I.cell,?_,fun x c e=>?_,fun p hp=>?_,fun b u e=>?_,I.len⟩
 ·rw[ay (n1 b u e)];exact I.base.free b u e q hx
 ·have:=I.base.tups b xs e;rw[ay (ne b _ this)];exact this
 ·have:=I.base.lO b u v e;rw[ay (ne b _ this)];exact this
 ·have:=I.base.mz b _ _ _ e;rw[ay (ne b _ this)];exact this
 ·rw[ay (Nt nl)];exact I.free
 ·rw[ay (nc x c e)];exact I.eO x c e
 ·obtain⟨e,q,a,b,d⟩:=I.pin p hp;exact⟨e,by rw[ay (np p hp)];exact q,a,b,d⟩
 ·by_cases hb:b=ea
  ·subst hb;rw[aY]at e;cases e;exact hok
  ·rw[ay hb]at e;exact(I.hok b u e).stay (fun c v _ q=>q) (fun c q=>by rw[ay (ne c _ q)];exact q) (fun c _ _ q=>by rw[ay (ne c _ q)];exact q) fun c xs q=>by rw[ay (ne c _ q)];exact q
theorem name_goes{M:Model}{A:Around}{E:Value->Shared->Prop}{i:Nat}{n:Str}{pos:Pos}{Q:Unit->Shared->Prop}(I:Inv X eU σ H s)(hN:X.N.Nodup)(hi:X.N[i]?=some n)(hk:X.env.kindOf n=some .local)
  (h:∀s',Inv X eU (σ.set i none) H s'->Q () s'):wpAny M A (do bindName X.env n .none;unbindBehindTheSuite X.env n pos) Q E s:=by
 obtain⟨m,hn,hl⟩:=id I.loc;have hcls:(X.env.scope.kind == .class||(X.env.scope.kind == .module&&X.env.locals != X.env.globals))=false:=by rw[I.ok.kind];rfl
 have cne:=I.cne;refine lV hk hn hcls fun h' m' hn' hy hs=>?_;have low:∀b o,X.s₀.heap.get? b=some o->b≠X.env.locals:=fun b o e=>Nb (MZ (MS e) I.ok.above);refine h _ ⟨I.ok,I.os,I.bare,⟨fun b o e n hb hx=>?_,fun b o e n hb hx=>?_,I.base.free,fun b o e hx=>?_,I.base.tups,I.base.lO,I.base.mz⟩,⟨m',hn',fun j y v' e1 e2 e3=>?_⟩,fun y c e=>?_,I.free,I.eO,fun p hp=>?_,fun b u e=>?_,by simpa using I.len⟩
 ·exact(hs.2 b (low b o e)).trans (I.base.keep b o e n hb hx)
 ·obtain⟨sl,e1⟩:=I.base.slot b o e n hb hx;exact⟨sl,(hs.2 b (low b o e)).trans e1⟩
 ·obtain⟨o',e1⟩:=I.base.there b o e hx;exact⟨o',(hs.2 b (low b o e)).trans e1⟩
 ·have hj:j≠i:=fun z=>by
   subst z;by_cases L8:j<σ.length
   ·rw[M8 L8]at e2;cases e2
   ·rw[NN (by simpa using L8)]at e2;cases e2
  rw[MC (Nt hj)]at e2;obtain⟨u',r',q⟩:=hl j y v' e1 e2 e3;refine⟨u',r',?_⟩;rcases q with⟨k,e⟩ | ⟨k,c,e,z⟩
  ·exact .inl ⟨k,by rw[hy y fun e=>hj (mD hN e1 (e▸hi))];exact e⟩
  ·obtain⟨o,ho,hd⟩:=z;exact .inr ⟨k,c,e,o,(hs.2 c (cne y c e)).trans ho,hd⟩
 ·obtain⟨v,o,ho,hd⟩:=I.cell y c e;exact⟨v,o,(hs.2 c (cne y c e)).trans ho,hd⟩
 ·obtain⟨e,q,a,b,d⟩:=I.pin p hp;exact⟨(hs.2 _ a).trans e,q,a,b,d⟩
 ·refine(I.hok b u e).stay (fun c v hc q=>(hs.2 c ?_).trans q) (fun _ q=>q) (fun _ _ _ q=>q) fun _ _ q=>q;rintro rfl;rcases hc with rfl | hc
  ·rw[I.free]at e;cases e
  ·rw[I.free]at hc;cases hc
end
end L2
namespace Br
open PySem PySem.Spec PyProof.Rows L2
section
variable{ρ:Dm.Env}{σ:L2.St}{H0 H:Hp}
theorem aJ.drop(st:aJ H0 H σ ρ)(i:Nat):aJ H0 H (σ.set i none) (ρ.set i .un):=by
 have m:=st.mask i;have ne:∀{j:Nat} {c:Dm.Cell},(ρ.set i .un)[j]?=some c->c≠.un->j≠i:=fun {j c} e hc z=>by
  subst z;by_cases L8:j<ρ.length
  ·rw[M8 L8]at e;cases e;exact hc rfl
  ·rw[NN (by simpa using L8)]at e;cases e
 have gs:∀{j:Nat},j≠i->(σ.set i none)[j]?=σ[j]?:=fun {j} h=>MC (Nt h);refine⟨m.same,by rw[Nr];exact m.len,fun j d e=>?_,fun j d e=>?_,fun j k d e a h1 h2 h3 h4=>?_⟩
 ·rw[gs (ne e (by simp))];exact m.sh j d e
 ·rw[gs (ne e (by simp))];exact m.ow j d e
 ·rw[gs (ne h1 (by simp))]at h3;rw[gs (ne h2 (by simp))]at h4;exact m.dis j k d e a h1 h2 h3 h4
theorem SSt.drop(st:aJ H0 H σ ρ){i:Nat}(h0:i≠0):SSt σ ρ H0 H (σ.set i none) (ρ.set i .un) H0 H:=by
 refine⟨aJ.drop st i,Stp.refl _ _ _,fun a ⟨j,d,h1,h2⟩=>.inl ?_,MC h0⟩;by_cases hj:i=j
 ·subst hj;by_cases L8:i<ρ.length
  ·rw[M8 L8]at h1;cases h1
  ·rw[NN (by simpa using L8)]at h1;cases h1
 ·rw[MC hj]at h1 h2;exact⟨j,d,h1,h2⟩
noncomputable def φX(ea C:Addr):HO:=.ext fun h=>∃o,h.get? ea=some o/\o.cls=.ref C
theorem φX_ok{P:Program}{w:World}{H:Hp}{h:Heap}{ea C:Addr}{o:Obj}(e:h.get? ea=some o)(c:o.cls=.ref C):ck P w H h ea (φX ea C):=
 ⟨⟨o,e,c⟩,⟨o,e⟩,fun _ _ ⟨o,e,c⟩ k=>⟨o,k o e,c⟩⟩
noncomputable def Cx.in'(X:Cx)(pn:List (Addr×Obj))(xe:Value->Shared->Prop):Cx:={ X with pn:=X.pn++pn,xe:=xe }
noncomputable def Cx.sub'(X:Cx)(A:Around)(xe:Value->Shared->Prop):Cx:={ X with A:=A,calm:=false,xe:=xe }
end
section
variable{X:Cx}{eU pn:List (Addr×Obj)}{σ:L2.St}{H:Hp}{s:Shared}{xe:Value->Shared->Prop}
theorem Ac(I:Inv X pn σ H s):Inv (Cx.in' X pn xe) [] σ H s:=
 ⟨⟨I.ok.1,I.ok.2,I.ok.3,I.ok.4,I.ok.5,I.ok.6,I.ok.7,I.ok.8,I.ok.9,I.ok.10,I.ok.11,I.ok.12,I.ok.13,I.ok.14,I.ok.15,I.ok.16,I.ok.17,I.ok.18⟩,I.os,I.bare,I.base,I.loc,I.cell,I.free,I.eO,fun p hp=>I.pin p (by rw[Nl]at hp;exact hp),I.hok,I.len⟩
theorem iz(I:Inv (Cx.in' X pn xe) eU σ H s):Inv X pn σ H s:=
 ⟨⟨I.ok.1,I.ok.2,I.ok.3,I.ok.4,I.ok.5,I.ok.6,I.ok.7,I.ok.8,I.ok.9,I.ok.10,I.ok.11,I.ok.12,I.ok.13,I.ok.14,I.ok.15,I.ok.16,I.ok.17,I.ok.18⟩,I.os,I.bare,I.base,I.loc,I.cell,I.free,I.eO,fun p hp=>I.pin p (OH _ hp),I.hok,I.len⟩
theorem v_{A:Around}(hA:A.frames=X.A.frames)(I:Inv X eU σ H s):Inv (Cx.sub' X A xe) eU σ H s:=
 ⟨⟨I.ok.1,I.ok.2,I.ok.3,I.ok.4,I.ok.5,I.ok.6,I.ok.7,I.ok.8,(fun h=>nomatch h),hA.trans I.ok.10,I.ok.11,I.ok.12,I.ok.13,I.ok.14,I.ok.15,I.ok.16,I.ok.17,I.ok.18⟩,I.os,I.bare,I.base,I.loc,I.cell,I.free,I.eO,I.pin,I.hok,I.len⟩
theorem pZ{A:Around}(ok:X.Ok)(I:Inv (Cx.sub' X A xe) eU σ H s):Inv X eU σ H s:=
 ⟨ok,I.os,I.bare,I.base,I.loc,I.cell,I.free,I.eO,I.pin,I.hok,I.len⟩
end
structure mU(K:Mv)(C:Addr):Prop where
 get:PySem.W.iV K C
 cls:(O8 K C).isSome=true
noncomputable def φXF(ea C d:Addr):HO:=.ext fun h=>∃o,h.get? ea=some o/\o.cls=.ref C/\o.dict=some d/\∀c,o.data≠.cls c
def ExK(H:Hp)(a C:Addr):Prop:=H a=some (φX a C)\/∃d,H a=some (φXF a C d)
theorem ExK.ne{H:Hp}{a C b:Addr}(x:ExK H a C)(h:H b=none):a≠b:=fun z=>by subst z;rcases x with x | ⟨d,x⟩<;>rw[h]at x<;>cases x
theorem ExK.upd{H:Hp}{a C b:Addr}{o:HO}(x:ExK H a C)(h:H b=none):ExK (L2.upd H b o) a C:=by
 have n:=x.ne h;rcases x with x | ⟨d,x⟩
 ·exact .inl (by rw[ay n];exact x)
 ·exact .inr ⟨d,by rw[ay n];exact x⟩
def JL(K:Mv)(C:Addr)(c:V)(b:Bool):List V->Hp->VK->Prop:=fun xs H Q=>∃a,xs=[.ref a,c]/\ExK H a C/\Q (.bl b) H
section
variable{X:Cx}{C:Addr}{e:Expr}{f:FE}{p p2 pos:Pos}{b:Bool}
section
variable{σ:L2.St}{tn:Str}{H:Hp}{c:V}
theorem Ey{eU:List (Addr×Obj)}{s:Shared}{a:Addr}(I:Inv X eU σ H s)(h:ExK H a C):PySem.W.pH a C s.heap:=by
 rcases h with h | ⟨d,h⟩
 ·exact(I.hok a _ h).1
 ·obtain⟨o,e,c,_⟩:=(I.hok a _ h).1;exact⟨o,e,c⟩
theorem se{u2:Value}(hc:RelV c u2)(hu:∀u,RelV c u->u=u2)(Z:mU X.K C)(k:Nd X.K (.ref C) u2=some b):dP X (.builtin "isinstance") (JL X.K C c b):=by intro eU s σ H xs us Q I r h;obtain⟨a,rfl,ha,q⟩:=h;obtain⟨u,u3,rfl,rx,ry⟩:=vals2 r;cases rx;obtain rfl:=hu u3 ry;exact Nu (PySem.W.r_ Z.get Z.cls) I.kIn (Ey I ha) k (by intro q;cases q) fun tk=>⟨.bl b,H,I.tok tk,rfl,q⟩
theorem Ez{Q:VK}(h:tD (Dm.e1 (Dm.lU C b) f) σ H Q):tCB (JL X.K C c b) (k7 (tD f) (k7 (tC c) zc)) σ H Q:=by
 obtain⟨H0,ρ,x,ρ',st,e,k⟩:=h;unfold Dm.e1 at e;split at e
 ·cases e
 rename_i x1 ρ1 e1;split at e
 ·cases e
 rename_i dx p1;cases dx with
 |exc C'=>
  unfold Dm.lU at e;dsimp only at e;by_cases hC:C'=C
  ·subst hC;rw[if_pos rfl]at e;cases e;refine⟨H0,ρ,x1,_,st,e1,fun v H1 Hb t1 r1=>?_⟩;have rv:Rep Hb v (.exc C'):=(r1.look t1.st p1).full t1.st.same;cases rv with
   |exc q=>exact⟨_,rfl,.inl q,k _ H1 Hb t1 (Rep.bl _)⟩
  ·rw[if_neg hC]at e;cases e
 |dj C' mv=>
  unfold Dm.lU at e;dsimp only at e;by_cases hC:C'=C
  ·subst hC;rw[if_pos rfl]at e;cases e;refine⟨H0,ρ,x1,_,st,e1,fun v H1 Hb t1 r1=>?_⟩;have rv:Rep Hb v (.dj C' mv):=(r1.look t1.st p1).full t1.st.same;cases rv with
   |dj q _=>exact⟨_,rfl,.inr ⟨_,q⟩,k _ H1 Hb t1 (Rep.bl _)⟩
  ·rw[if_neg hC]at e;cases e
 |_=>cases e
theorem wc{D:Addr}(Z:mU X.K C)(k:Nd X.K (.ref C) (.ref D)=some b)(hgT:Gl X tn)(hmT:X.mg tn=some (.ref D))(hg:Gl X "isinstance")(hm:X.mg "isinstance" = none)(h:DE X e f)(Rq:(tn == ("__debug__" : Str))=false:=by decide)
  (he:starEach [e,.Name tn p2] X.env=(false,eval e X.env)::starEach [.Name tn p2] X.env:=by rfl) (ED:(backTo pos (starEach [.Name tn p2] X.env)).any (·.1)=false:=by rfl) (he2:starEach [.Name tn p2] X.env=(false,eval (.Name tn p2) X.env)::starEach [] X.env:=by rfl) :
  DE X (.Call (.Name "isinstance" p) [e,.Name tn p2] [] pos) (Dm.e1 (Dm.lU C b) f):=
 PE.weak (gF (se (c:=.ref D) rfl (fun u q=>q) Z k) hg hm NT (eG h (eG (lZ (v:=.ref D) hgT hmT rfl Rq) kD he2) he) (he:=he) (ED:=ED)) fun _ _ _=>Ez
theorem Ad{T:String}(Z:mU X.K C)(k:Nd X.K (.ref C) (.type T)=some b)(hvT:bootBuiltins tn=some (.type T))(hgT:Gl X tn)(hmT:X.mg tn=none)(hg:Gl X "isinstance")(hm:X.mg "isinstance" = none)(h:DE X e f)(hn:tn ≠ "__name__" := by decide)(Rq:(tn == ("__debug__" : Str))=false:=by decide)
  (he:starEach [e,.Name tn p2] X.env=(false,eval e X.env)::starEach [.Name tn p2] X.env:=by rfl) (ED:(backTo pos (starEach [.Name tn p2] X.env)).any (·.1)=false:=by rfl) (he2:starEach [.Name tn p2] X.env=(false,eval (.Name tn p2) X.env)::starEach [] X.env:=by rfl) :
  DE X (.Call (.Name "isinstance" p) [e,.Name tn p2] [] pos) (Dm.e1 (Dm.lU C b) f):=
 PE.weak (gF (se (c:=.ty T) rfl (fun u q=>by cases q;rfl) Z k) hg hm NT (eG h (eG (vH (v:=.ty T) hgT hmT hvT rfl hn Rq) kD he2) he) (he:=he) (ED:=ED)) fun _ _ _=>Ez
end
end
def tK(vs:List V):TA:=fun _ H Q=>Q vs H
def JM(K:Mv)(C:Addr)(Ds:List Addr)(b:Bool):List V->Hp->VK->Prop:=fun xs H Q=>∃a tp,xs=[.ref a,.ref tp]/\ExK H a C/\H tp=some (.tup (Ds.map V.ref))/\Q (.bl b) H
theorem p5:∀{Ds:List Addr} {us:List Value},Vals (Ds.map V.ref) us->us=Ds.map Nq
 |[],_,.nil=>rfl
 |D::Ds,_,.cons r t=>by rw[p5 t];cases r;rfl
section
variable{X:Cx}{C:Addr}{e:Expr}{es:List Expr}{f:FE}{p p2 pos:Pos}{b:Bool}{Ds:List Addr}
theorem we:PA X [] (tK []):=kD
theorem cL{D:Addr}{tn:Str}(hgT:Gl X tn)(hmT:X.mg tn=some (.ref D))(h:PA X es (tK (Ds.map V.ref)))(Rq:(tn == ("__debug__" : Str))=false:=by decide)(hs:starEach (.Name tn p2::es) X.env=(false,eval (.Name tn p2) X.env)::starEach es X.env:=by rfl) :
  PA X (.Name tn p2::es) (tK ((D::Ds).map V.ref)):=PA.weak (eG (lZ (v:=.ref D) hgT hmT rfl Rq) h hs) fun _ _ _ q=>q
theorem Ae(Z:mU X.K C)(k:NI X.K (.ref C) (Ds.map Nq)=some b):dP X (.builtin "isinstance") (JM X.K C Ds b):=by
 intro eU s σ H xs us Q I r h;obtain⟨a,tp,rfl,ha,ht,q⟩:=h;obtain⟨u,u3,rfl,rx,ry⟩:=vals2 r;cases rx;cases ry;obtain⟨_,its,vr,o,ho,hc,n,hd⟩:=(show ck X.prog X.w H s.heap tp (.tup (Ds.map V.ref)) from I.hok tp _ ht)
 obtain rfl:=p5 vr;obtain⟨oc,od,oda,osl⟩:=o;dsimp only at hc hd;subst hc hd;exact PySem.W.kia_tup (PySem.W.r_ Z.get Z.cls) I.kIn (Ey I ha) ho k (by intro q;cases q) fun tk=>⟨.bl b,H,I.tok tk,rfl,q⟩
theorem JN{σ:L2.St}{H:Hp}{Q:VK}(hz:Ds.length<=1000)(h:tD (Dm.e1 (Dm.lU C b) f) σ H Q):tCB (JM X.K C Ds b) (k7 (tD f) (k7 (FJ (tK (Ds.map V.ref))) zc)) σ H Q:=by
 obtain⟨H0,ρ,x,ρ',st,e,k⟩:=h;unfold Dm.e1 at e;split at e
 ·cases e
 rename_i x1 ρ1 e1;split at e
 ·cases e
 rename_i dx p1;cases dx with
 |exc C'=>
  unfold Dm.lU at e;dsimp only at e;by_cases hC:C'=C
  ·subst hC;rw[if_pos rfl]at e;cases e;refine⟨H0,ρ,x1,_,st,e1,fun v H1 Hb t1 r1=>?_⟩;have rv:Rep Hb v (.exc C'):=(r1.look t1.st p1).full t1.st.same;cases rv with
   |exc q=>refine⟨by rw[MP];exact Ol (pT hz),fun tp ht=>?_⟩;exact⟨_,tp,rfl,ExK.upd (.inl q) ht,aY,k _ H1 _ (t1.trans (.grow t1.st (aQ.mG t1.st.same ht))) (Rep.bl _)⟩
  ·rw[if_neg hC]at e;cases e
 |dj C' mv=>
  unfold Dm.lU at e;dsimp only at e;by_cases hC:C'=C
  ·subst hC;rw[if_pos rfl]at e;cases e;refine⟨H0,ρ,x1,_,st,e1,fun v H1 Hb t1 r1=>?_⟩;have rv:Rep Hb v (.dj C' mv):=(r1.look t1.st p1).full t1.st.same;cases rv with
   |dj q _=>refine⟨by rw[MP];exact Ol (pT hz),fun tp ht=>?_⟩;exact⟨_,tp,rfl,ExK.upd (.inr ⟨_,q⟩) ht,aY,k _ H1 _ (t1.trans (.grow t1.st (aQ.mG t1.st.same ht))) (Rep.bl _)⟩
  ·rw[if_neg hC]at e;cases e
 |_=>cases e
theorem wg{pt:Pos}{cx:Nat}(Z:mU X.K C)(k:NI X.K (.ref C) (Ds.map Nq)=some b)(hT:PA X es (tK (Ds.map V.ref)))(hz:Ds.length<=1000)(hg:Gl X "isinstance")(hm:X.mg "isinstance" = none)(h:DE X e f)
  (he:starEach [e,.Tuple es cx pt] X.env=(false,eval e X.env)::starEach [.Tuple es cx pt] X.env:=by rfl) (ED:(backTo pos (starEach [.Tuple es cx pt] X.env)).any (·.1)=false:=by rfl) (he2:starEach [.Tuple es cx pt] X.env=(false,eval (.Tuple es cx pt) X.env)::starEach [] X.env:=by rfl) :
  DE X (.Call (.Name "isinstance" p) [e,.Tuple es cx pt] [] pos) (Dm.e1 (Dm.lU C b) f):=
 PE.weak (gF (Ae Z k) hg hm NT (eG h (eG (zd hT) kD he2) he) (he:=he) (ED:=ED)) fun _ _ _=>JN hz
end
theorem sj{K:Mv}{h₀:Heap}{mg:Str->Option Value}{x:Str}{C:Addr}{bmB:List Value}{newId:String}(X:K.In h₀)(G:mg x=some (.ref C))(q:O9 K C bmB newId=true):OwnCls x C bmB newId mg h₀:=by
 refine⟨G,?_⟩;unfold O9 at q;split at q
 ·rename_i dd cd sl ho;split at q
  ·rename_i C' bm k0 k1 k2 k3 n k5 hm hs;simp only[MY,beq_iff_eq,Bool.not_eq_true']at q;obtain⟨⟨⟨⟨⟨rfl,rfl⟩,JO⟩,ht⟩,hok⟩,hni⟩:=q;obtain⟨nm,bs,mro,ns,qn,hd,sn,sub,ab,col,del⟩:=cd;dsimp only at hm JO hok hni;subst hm JO;have hsl:sl=#[k0,k1,k2,k3,some (.builtin n),k5]:=by
    obtain⟨l⟩:=sl;simp only at hs;rw[hs]
   subst hsl;exact⟨bm,ns,nm,qn,bs,hd,sn,sub,ab,col,dd,k0,k1,k2,k3,k5,_,X _ _ ho,.of_isNs (PySem.W.isNs_of_in X hok),PySem.W.nsMap_none_of_in X hok hni,PySem.W.tail_of_in X ht⟩
  ·cases q
 ·cases q
noncomputable abbrev bmV:List Value:=[.type "ValueError",.type "Exception",.type "BaseException",.type "object"]
section
variable{X:Cx}{a b c e:Expr}{f fa fb fc:FE}{p p2 pos:Pos}{es:List Expr}{fs:List FE}
theorem CZ:OpR X (compareOp .IsNot) (CQ true):=by intro eU s σ H x y v u Q I rx ry h;obtain⟨rfl,q⟩:=h;cases ry;refine isnot_none_gen ?_;rw[v7 rx];exact⟨.bl _,H,I,rfl,q⟩
theorem C0:OpD (CQ true) Dm.r9:=by
 intro H0 H x y dx dy z Q s rx ry e k;unfold Dm.r9 at e;split at e
 ·cases e;have hy:=l0 ry;have:y=V.non:=of_decide_eq_true (hy.trans rfl);refine⟨this,?_⟩;rw[if_pos rfl,l0 rx];exact k _ H0 H (aQ.refl s) (.bl _)
 ·cases e
theorem GN(ha:DE X a fa)(hb:DE X b fb):DT X (.Compare a [.IsNot] [b] pos) (Dm.tV (Dm.e2 Dm.r9 fa fb)):=lg CZ C0 ha hb (fL _)
end
end Br
namespace Dm
noncomputable abbrev FN:=Env->List (List Dat)->Option (Env×List (List Dat))
end Dm
namespace Br
open PySem PySem.Spec PyProof.Rows L2
section
variable{X:Cx}{a b c e:Expr}{fa fb fc:FE}{p pos:Pos}
theorem qI{op op':CmpOp}{r r':R2}{g h:Dat->Dat->Option RV}(o1:OpR X (compareOp op) r)(q1:OpD r g)(o2:OpR X (compareOp op') r')(q2:OpD r' h)(ha:DE X a fa)(hb:DE X b fb)(hc:DE X c fc)
  (hm:lastMarks [op,op'] [b,c]=false:=by with_unfolding_all rfl):DT X (.Compare a [op,op'] [b,c] pos) (Dm.tV (Dm.ak g h fa fb fc)):=PT.weak (zb o1 o2 ha hb hc hm) fun _ _ _ h=>vV q1 q2 (uJ h)
end
open PySem
variable{C:List Value->Prop}{us:List Value}
theorem len0(h:us.length=0)(c:C []):C us:=by rw[List.eq_nil_of_length_eq_zero h];exact c
theorem Af{n:Nat}{C:List Value->Prop}{us:List Value}(h:us.length=n+1)(c:∀a us,us.length=n->C (a::us)):C us:=by
 cases us with
 |nil=>cases h
 |cons a us=>exact c a us (by simpa using h)
theorem JP(h:us.length=1)(c:∀a,C [a]):C us:=Af h fun a _ h=>len0 h (C:=fun us=>C (a::us)) (c a)
theorem z4(h:us.length=2)(c:∀a b,C [a,b]):C us:=Af h fun a _ h=>JP h (C:=fun us=>C (a::us)) (c a)
theorem JQ(h:us.length=3)(c:∀a b d,C [a,b,d]):C us:=Af h fun a _ h=>z4 h (C:=fun us=>C (a::us)) (c a)
theorem JR(h:us.length=4)(c:∀a b d e,C [a,b,d,e]):C us:=Af h fun a _ h=>JQ h (C:=fun us=>C (a::us)) (c a)
theorem LN(h:us.length=5)(c:∀a b d e f,C [a,b,d,e,f]):C us:=Af h fun a _ h=>JR h (C:=fun us=>C (a::us)) (c a)
end Br
namespace L2
open PySem
variable{K:Mv}{x qual:Str}{st:Stmt}{f:Addr}{fd:FuncData}{ps:List Str}
theorem Fun.cV(F:Fun K x qual st f fd)(hp:ps.length=1)(h:∀(kV doc pm:Value) (an:Option Addr) (cdv ct:Value) (a:Value),bindArgs (Nk x qual (cE st) (bX st) (ah st) .none kV doc pm an cdv ct) ⟨[a],[]⟩=pure (ps.zip [a])):Binds K fd ps []:=
 F.binds fun kV doc pm an cdv ct us hl=>Br.JP (C:=fun us=>bindArgs (Nk x qual (cE st) (bX st) (ah st) .none kV doc pm an cdv ct) ⟨us,[]⟩=pure (ps.zip us)) (hl.trans hp) (h kV doc pm an cdv ct)
theorem Fun.kK(F:Fun K x qual st f fd)(hp:ps.length=2)(h:∀(kV doc pm:Value) (an:Option Addr) (cdv ct:Value) (a b:Value),bindArgs (Nk x qual (cE st) (bX st) (ah st) .none kV doc pm an cdv ct) ⟨[a,b],[]⟩=pure (ps.zip [a,b])):Binds K fd ps []:=
 F.binds fun kV doc pm an cdv ct us hl=>Br.z4 (C:=fun us=>bindArgs (Nk x qual (cE st) (bX st) (ah st) .none kV doc pm an cdv ct) ⟨us,[]⟩=pure (ps.zip us)) (hl.trans hp) (h kV doc pm an cdv ct)
theorem Fun.iW(F:Fun K x qual st f fd)(hp:ps.length=3)(h:∀(kV doc pm:Value) (an:Option Addr) (cdv ct:Value) (a b d:Value),bindArgs (Nk x qual (cE st) (bX st) (ah st) .none kV doc pm an cdv ct) ⟨[a,b,d],[]⟩=pure (ps.zip [a,b,d])):Binds K fd ps []:=
 F.binds fun kV doc pm an cdv ct us hl=>Br.JQ (C:=fun us=>bindArgs (Nk x qual (cE st) (bX st) (ah st) .none kV doc pm an cdv ct) ⟨us,[]⟩=pure (ps.zip us)) (hl.trans hp) (h kV doc pm an cdv ct)
theorem Fun.uS(F:Fun K x qual st f fd)(hp:ps.length=4)(h:∀(kV doc pm:Value) (an:Option Addr) (cdv ct:Value) (a b d e:Value),bindArgs (Nk x qual (cE st) (bX st) (ah st) .none kV doc pm an cdv ct) ⟨[a,b,d,e],[]⟩=pure (ps.zip [a,b,d,e])):Binds K fd ps []:=
 F.binds fun kV doc pm an cdv ct us hl=>Br.JR (C:=fun us=>bindArgs (Nk x qual (cE st) (bX st) (ah st) .none kV doc pm an cdv ct) ⟨us,[]⟩=pure (ps.zip us)) (hl.trans hp) (h kV doc pm an cdv ct)
theorem Fun.GO(F:Fun K x qual st f fd)(hp:ps.length=5)(h:∀(kV doc pm:Value) (an:Option Addr) (cdv ct:Value) (a b d e g:Value),bindArgs (Nk x qual (cE st) (bX st) (ah st) .none kV doc pm an cdv ct) ⟨[a,b,d,e,g],[]⟩=pure (ps.zip [a,b,d,e,g])):Binds K fd ps []:=
 F.binds fun kV doc pm an cdv ct us hl=>Br.LN (C:=fun us=>bindArgs (Nk x qual (cE st) (bX st) (ah st) .none kV doc pm an cdv ct) ⟨us,[]⟩=pure (ps.zip us)) (hl.trans hp) (h kV doc pm an cdv ct)
end L2
namespace Br
open PySem PySem.Spec PyProof.Rows L2
open PySem L2
structure cM(K:Mv)(x:Str)(st:Stmt)(a:Addr)(fd:FuncData):Prop where
 e:M1 K mainGlobals x=some (some (.ref a))
 F:Fun K x x st a fd
variable{K:Mv}{x:Str}{st:Stmt}{a:Addr}{fd:FuncData}{hp:Heap}{mg:Str->Option Value}
theorem bu{oc:Value}{od an:Option Addr}{osl:Array (Option Value)}{kV doc pm cdv ct:Value}(e:M1 K mainGlobals x=some (some (.ref a)))
  (l:K.lookup a=some ⟨oc,od,.func (Nk x x (cE st) (bX st) (ah st) .none kV doc pm an cdv ct),osl⟩) (c:OT K cdv x=true) (k:N6 K (.ref a)=true) :
  cM K x st a (Nk x x (cE st) (bX st) (ah st) .none kV doc pm an cdv ct):=⟨e,F1 l c k⟩
theorem mgo{v:Value}(X:K.In hp)(G:hp.Ns mainGlobals mg)(e:M1 K mainGlobals x=some (some v)):mg x=some v:=PySem.W.mg_of X G e
theorem mno(X:K.In hp)(G:hp.Ns mainGlobals mg)(e:M1 K mainGlobals x=some none):mg x=none:=PySem.W.mg_none_of X G e
theorem cM.m(h:cM K x st a fd)(X:K.In hp)(G:hp.Ns mainGlobals mg):mg x=some (.ref a):=PySem.W.mg_of X G h.e
theorem cM.LO{y:Str}(h:cM K x st a fd)(hb:∀(kV doc pm:Value) (an:Option Addr) (cdv ct v:Value),bindArgs (Nk x x (cE st) (bX st) (ah st) .none kV doc pm an cdv ct) ⟨[v],[]⟩=pure [(y,v)])(s:Shared)(v:Value):BindsTo s fd ⟨[v],[]⟩ [(y,v)]:=by obtain⟨oc,od,kV,doc,pm,an,cdv,ct,osl,rfl,lk,Rv⟩:=h.F.ex;exact .of_eq (hb kV doc pm an cdv ct v)
theorem hm{j k:Nat}{A:Around}(r:c_ k A)(h:j<=k:=by decide):c_ j A:=r.mono h
theorem fsc{N P:List Str}{sc:Scope}(h1:sc.kind=.function:=by rfl)(h2:sc.isCoroutine=false:=by rfl)(h3:sc.isGenerator=false:=by rfl)(h4:N.take P.length=P:=by rfl)(h:N.Nodup/\(∀x∈P,sc.names.lookup x=some .local\/sc.names.lookup x=some .cell)/\∀y∈sc.names,y.2≠.free:=by decide +kernel):aE N P sc:=⟨h1,h2,h3,h.1,h4,h.2.1,h.2.2⟩
end Br
namespace Dm
noncomputable def uT(s:FS)(R:Env->Option Env)(ρ:Env):Option Env:=match s ρ with
 |some (.nx ρ1)=>R ρ1
 |_=>none
noncomputable def sUn(f g:FS):FS:=fun ρ=>match f ρ with
 |some x=>some x
 |none=>g ρ
noncomputable def mV(R:Env->Option Env)(C ie:Nat)(h:FS):FS:=fun ρ=>match R ρ with
 |none=>none
 |some ρ1=>if ie=0 then none else match h (ρ1.set ie (.sh (.exc C))) with
  |some (.nx ρ')=>some (.nx (ρ'.set ie .un))
  |some (.ret r ρ')=>some (.ret r (ρ'.set ie .un))
  |_=>none
noncomputable def pJ:List Nat->List Bool->Nat->Option Bool
 |C::cs,b::bs,D=>if D=C then some b else pJ cs bs D
 |_,_,_=>none
noncomputable def eZ(cs:List Nat)(bs:List Bool):Dat->Option RV
 |.exc C=>(pJ cs bs C).bind vB
 |.dj C _=>(pJ cs bs C).bind vB
 |_=>none
end Dm
namespace Br
open PySem PySem.Spec PyProof.Rows L2
section
variable{X:Cx}{C:Addr}{E:L2.St->XK}{R S:Dm.Env->Option Dm.Env}{sts yi:List Stmt}{st:Stmt}
section
variable{σ:L2.St}{t:FT}{H:Hp}
theorem JS{f g:FS}(h1:DS X st f)(h2:DS X st g):DS X st (Dm.sUn f g):=fun eU s σ H D I q=>by
 obtain⟨H0,ρ,o,rs,e,k⟩:=q;unfold Dm.sUn at e;split at e
 ·rename_i y hy;exact h1 eU s σ H D I ⟨H0,ρ,o,rs,hy.trans e,k⟩
 ·exact h2 eU s σ H D I ⟨H0,ρ,o,rs,e,k⟩
def tY(C:Addr)(E:L2.St->XK)(R:Dm.Env->Option Dm.Env)(σ:L2.St)(H:Hp):Prop:=∃H0 ρ ρ',aJ H0 H σ ρ/\R ρ=some ρ'/\∀σ' a H0' H',SSt σ ρ H0 H σ' ρ' H0' H'->E σ' (.ref C) (some a) H'
noncomputable abbrev YS(X:Cx)(C:Addr)(E:L2.St->XK)(st:Stmt)(R:Dm.Env->Option Dm.Env):Prop:=PS X st (fun _ σ H=>tY C E R σ H)
noncomputable abbrev YB(X:Cx)(C:Addr)(E:L2.St->XK)(sts:List Stmt)(R:Dm.Env->Option Dm.Env):Prop:=PSs X sts (fun _ σ H=>tY C E R σ H)
theorem tY.x(h:tY C E R σ H):tX C E R σ H:=by obtain⟨H0,ρ,ρ',st,e,k⟩:=h;exact⟨H0,ρ,ρ',st,e,fun a H0' H' t=>k σ a H0' H' t.sst⟩
theorem y_x(h:XS X C E st R):YS X C E st R:=PS.weak h fun _ _ _ q=>q.x
theorem mW(h:YS X C E st R):YB X C E (st::yi) R:=by have:=z8 (yi:=yi) h;exact fun eU s σ H D I q=>this eU s σ H D I q
theorem Ag{s:FS}(h1:DS X st s)(h2:YB X C E yi R):YB X C E (st::yi) (Dm.uT s R):=PSs.weak (rG h1 h2) fun D σ H q=>by
 obtain⟨H0,ρ,ρ',rs,e,k⟩:=q;unfold Dm.uT at e;split at e
 case h_2=>cases e
 rename_i ρ1 hs;exact⟨H0,ρ,_,rs,hs,fun σ' H0' H' t=>⟨H0',ρ1,ρ',t.st,e,fun σ'' a qD H'' u=>k σ'' a qD H'' (t.trans u)⟩⟩
theorem JT(h:tY C E (Dm.rIf t R S) σ H):tDT t σ H fun b H1=>if b=true then tY C E R σ H1 else tY C E S σ H1:=by
 obtain⟨H0,ρ,ρ',rs,e,k⟩:=h;unfold Dm.rIf at e;split at e
 ·cases e
 ·rename_i ρ1 ht;exact⟨H0,ρ,true,ρ1,rs,ht,fun H0' H' u=>by show (if true=true then _ else _);rw[if_pos rfl];exact⟨H0',ρ1,ρ',u.st,e,fun σ'' a qD H'' w=>k σ'' a qD H'' (u.sst.trans w)⟩⟩
 ·rename_i ρ1 ht;exact⟨H0,ρ,false,ρ1,rs,ht,fun H0' H' u=>by show (if false=true then _ else _);rw[if_neg (by decide)];exact⟨H0',ρ1,ρ',u.st,e,fun σ'' a qD H'' w=>k σ'' a qD H'' (u.sst.trans w)⟩⟩
theorem JU{c:Expr}{a b:List Stmt}{pos:Pos}(hc:DT X c t)(ha:YB X C E a R)(hb:YB X C E b S):YS X C E (.If c a b pos) (Dm.rIf t R S):=PS.weak (Ec hc ha hb) fun _ _ _ q=>JT q
theorem JV:YB X C E sts Dm.rNo:=fun eU s σ H D I h=>by obtain⟨_,_,_,_,e,_⟩:=h;cases e
end
end
theorem Ah{X:Cx}{body:List Stmt}{h0:ExceptHandler}{hs:List ExceptHandler}{q:FS}{pos:Pos}(hb:∀(pn:List (Addr×Obj)) (xe:Value->Shared->Prop),DSs (Cx.in' X pn xe) body q):DS X (.Try body (h0::hs) [] [] pos) q:=by
 intro eU s σ H D I hq;refine wpAny_Try_except ?_;refine wpAny_mono (hb eU _ [] s σ H D (Ac I) hq) (fun f s1 z=>?_) fun _ _ z=>z;cases f with
 |next=>obtain⟨σ',H',J,k⟩:=z;exact wpAny_execs_nil ⟨σ',H',iz J,k⟩
 |ret v=>obtain⟨u,σ',H',J,r,k⟩:=z;exact⟨u,σ',H',iz J,r,k⟩
 |brk=>obtain⟨σ',H',J,k⟩:=z;exact⟨σ',H',iz J,k⟩
 |cont=>obtain⟨σ',H',J,k⟩:=z;exact⟨σ',H',iz J,k⟩
section
variable{X:Cx}{eU pn:List (Addr×Obj)}{σ:L2.St}{H:Hp}{s:Shared}{xe:Value->Shared->Prop}
theorem Ai{x n:Str}{np hpos pos:Pos}{body suite:List Stmt}{b₀:Stmt}{R:Dm.Env->Option Dm.Env}{h:FS}{C CP:Addr}{ie:Nat}
  (hst:X.stack=X.env::X.outer) (hfr:X.env.frame=some X.env.locals) (hex:X.ex=[]) (hN:X.N.Nodup) (hi:X.N[ie]?=some n) (hk:X.env.kindOf n=some .local) (hg:Gl X x) (hm:X.mg x=some (.ref CP)) (Z:PySem.W.l6 X.K C CP)
  (hb:∀(pn:List (Addr×Obj)) (xe:Value->Shared->Prop) (E:L2.St->XK),v8 C (Cx.in' X pn xe) E->YB (Cx.in' X pn xe) C E body R)
  (hh:∀(A':Around) (xe:Value->Shared->Prop),DSs (Cx.sub' X A' xe) (b₀::suite) h) (Rq:(x == ("__debug__" : Str))=false:=by decide) :
  DS X (.Try body [.ExceptHandler (some (.Name x np)) (some n) (b₀::suite) hpos] [] [] pos) (Dm.mV R C ie h):=by
 intro eU s σ H D I hq;obtain⟨H0,ρ,o,st,e,ok⟩:=hq;unfold Dm.mV at e;split at e
 ·cases e
 rename_i ρ1 hR;split at e
 ·cases e
 rename_i h0;refine wpAny_Try_except ?_;refine wpAny_mono (hb eU (fun e s₁=>wpAny (model X.prog X.w) X.A (noteFrame e X.env) (fun _ s₂=>wpAny (model X.prog X.w) X.A (setFlight e none) (fun _ s₃=>wpAny (model X.prog X.w) X.A (handleBy e X.env [.ExceptHandler (some (.Name x np)) (some n) (b₀::suite) hpos]) (SP X eU D) X.xe s₃) X.xe s₂) X.xe s₁)
  (fun σ' _ _ H'=>∃H0',SSt σ ρ H0 H σ' ρ1 H0' H') ?pass [] s σ H DF (Ac I) ⟨H0,ρ,ρ1,st,hR,fun σ' a H0' H' t=>⟨H0',t⟩⟩) ?q fun _ _ z=>z
 case q=>
  intro f s1 z;cases f with
  |next=>obtain⟨_,_,_,q⟩:=z;exact MX q
  |ret v=>obtain⟨_,_,_,_,_,q⟩:=z;exact MX q
  |brk=>obtain⟨_,_,_,q⟩:=z;exact MX q
  |cont=>obtain⟨_,_,_,q⟩:=z;exact MX q
 case pass=>
  intro Mi σ1 H1 s1 e s' I1 hq;obtain⟨ea,a0,B,H',rfl,os,bare,un,hok,fl,hB,H0',t1⟩:=hq;obtain⟨hh',g,d,t,os'⟩:=s';obtain rfl:os'=s1.os:=os;have J:Inv X eU σ1 H' ⟨hh',g,d,t,s1.os⟩:=iz (I1.call (h':=hh') (g':=g) (d':=d) (t':=t) (ch:=[]) un hok bare (fun b z=>absurd z (by simp)));have J1:Inv X eU σ1 H1 s1:=iz I1;have GP:∀b o,X.s₀.heap.get? b=some o->∃o1,s1.heap.get? b=some o1:=fun b o e=>J1.base.there b o e (by rw[hex];exact fun z=>nomatch z);have hB':∀b o,hh'.get? b=some o->b∉frs X.stack->((X.s₀.heap.get? b).isSome=true\/(H' b).isSome=true\/∃p∈X.pn++eU,p.1=b)->B.get? b=some o:=fun b o e nb hc=>by
   refine hB b o e ?_ nb;rcases hc with hc | hc | ⟨p,hp,rfl⟩
   ·obtain⟨o0,e0⟩:=Ng.mp hc;obtain⟨o1,e1⟩:=GP b o0 e0;exact .inl (by rw[e1];rfl)
   ·exact .inr hc
   ·exact .inl (by rw[(J1.pin p hp).1];rfl)
  have hfs:X.A.frames=some (X.env::X.outer):=by rw[J.ok.frames,hst]
  have fl':Heap.FlyingW B (X.env::X.outer) ea (.ref C) a0 hh':=by rw[<- hst];exact fl
  show wpAny (model X.prog X.w) X.A (noteFrame (.ref ea) X.env) _ _ _;refine wpAny_looks_onW (base:=B) (L:=X.env.locals) hfs hfr fl' fun h4 held sl4=>?_;refine wpAny_landsW held fun h5 fl5 sl5=>?_;have J5:Inv X eU σ1 H' ⟨h5,g,d,t,s1.os⟩:=J.fly (t':=t) hex hB' fl5.1 (sl4.trans sl5);obtain⟨oe,vs,he,hc,hd,_⟩:=fl'.first
  have neF:ea∉frs X.stack:=fun z=>by rw[hst]at z;obtain⟨_,o',ho',hd'⟩:=fl'.2.2.1.mem z;rw[he]at ho';cases ho';exact hd' vs hd
  have noB:B.get? ea=none:=fl'.2.1;have nH:H' ea=none:=by
   cases q:H' ea with
   |none=>rfl
   |some u=>have:=hB' ea oe he neF (.inr (.inl (by rw[q];rfl)));rw[noB]at this;cases this
  have n0:X.s₀.heap.get? ea=none:=by
   cases q:X.s₀.heap.get? ea with
   |none=>rfl
   |some u=>have:=hB' ea oe he neF (.inl (by rw[q];rfl));rw[noB]at this;cases this
  have nl:ea≠X.env.locals:=fun z=>by obtain⟨m,⟨o,es,ep,ho,hd',_⟩,_⟩:=J.loc;rw[<- z,he]at ho;cases ho;rw[hd]at hd';cases hd'
  have nc:∀y c,X.env.cells.lookup y=some c->c≠ea:=fun y c e z=>by obtain⟨v,o,ho,hd'⟩:=J.cell y c e;rw[z,he]at ho;cases ho;rw[hd]at hd';cases hd'
  have np:∀p∈X.pn++eU,p.1≠ea:=fun p hp z=>by have:=hB' ea oe he neF (.inr (.inr ⟨p,hp,z⟩));rw[noB]at this;cases this
  have hB5:∀b o,h5.get? b=some o->b∉frs X.stack->((X.s₀.heap.get? b).isSome=true\/(H' b).isSome=true\/∃p∈X.pn++eU,p.1=b)->B.get? b=some o:=fun b o e nb Rv=>by
   have:∃o',hh'.get? b=some o':=by
    rcases Rv with hc | hc | ⟨p,hp,rfl⟩
    ·obtain⟨o0,e0⟩:=Ng.mp hc;exact J.base.there b o0 e0 (by rw[hex];exact fun z=>nomatch z)
    ·obtain⟨u,e0⟩:=Ng.mp hc;exact(J.hok b u e0).there
    ·exact⟨_,(J.pin p hp).1⟩
   obtain⟨o',e'⟩:=this;have q:=hB' b o' e' nb Rv;have q2:=fl5.1 b o' q;rw[e]at q2;cases q2;exact q
  obtain⟨oe5,he5,hc5⟩:=fl5.there;refine wpAny_handleBy_cons (codeAny_handlers_test ?_) (by intro q;cases q);refine jR (X:=Cx.sub' X (X.A.mark (some (.ref ea))) X.xe) (v_ rfl J5) hg hm ?_ Rq;refine PySem.W.sd Z J5.kIn ⟨oe5,he5,hc5⟩ ?_;refine codeAny_handlers_suite_as ?_;refine lands_againW fl5 fun h6 fl6 sl6=>?_;have J6:Inv X eU σ1 H' ⟨h6,g,d,t,s1.os⟩:=J5.fly (t':=t) hex hB5 fl6.1 sl6;obtain⟨oe6,he6,hc6⟩:=fl6.there;have J7:=J6.JK (o:=φX ea C) nH (φX_ok he6 hc6) n0 nl nc np;refine kB J7 hN hi (.inl hk) (v:=.ref ea) rfl (fun s8 J8 _=>?_) (.inr hk);have t12:SSt σ ρ H0 H σ1 ρ1 (upd H0' ea (φX ea C)) (upd H' ea (φX ea C)):=t1.trans (ESt.grow t1.st (aQ.xQ t1.st.same nH)).sst;have rep:Rep (upd H0' ea (φX ea C)) (V.ref ea) (.exc C):=.exc aY;have C1:SSt σ1 ρ1 (upd H0' ea (φX ea C)) (upd H' ea (φX ea C)) (σ1.set ie (some (.ref ea))) (ρ1.set ie (.sh (.exc C))) (upd H0' ea (φX ea C)) (upd H' ea (φX ea C)):=
   ⟨t12.st.qA rep,Stp.refl _ _ _,fun a z=>.inl (e9 z),MC h0⟩
  have Rt:∀(oh:Dm.Out),h (ρ1.set ie (.sh (.exc C)))=some oh->(∀(D':Ends),(∀σ' H3,(∃ρ' H03,oh=.nx ρ'/\SSt (σ1.set ie (some (.ref ea))) (ρ1.set ie (.sh (.exc C))) (upd H0' ea (φX ea C)) (upd H' ea (φX ea C)) σ' ρ' H03 H3)->D'.nx σ' H3)->(∀v H3,(∃z ρ' σ' H03,oh=.ret z ρ'/\SSt (σ1.set ie (some (.ref ea))) (ρ1.set ie (.sh (.exc C))) (upd H0' ea (φX ea C)) (upd H' ea (φX ea C)) σ' ρ' H03 H3/\zo (σ1.set ie (some (.ref ea))) (ρ1.set ie (.sh (.exc C))) (upd H' ea (φX ea C)) H03 H3 v z/\∀d a,z=.new d->v=.ref a->¬aG σ' ρ' a)->D'.rt v H3)->(∀ρ',oh≠.bk ρ')->(∀ρ',oh≠.ct ρ')->mH D' (σ1.set ie (some (.ref ea))) (ρ1.set ie (.sh (.exc C))) (upd H0' ea (φX ea C)) (upd H' ea (φX ea C)) oh):=fun oh _ D' hn hr hb hc=>by
   cases oh with
   |nx ρ'=>exact fun σ' H03 H3 tt=>hn σ' H3 ⟨ρ',H03,rfl,tt⟩
   |bk ρ'=>exact absurd rfl (hb ρ')
   |ct ρ'=>exact absurd rfl (hc ρ')
   |ret z ρ'=>exact fun σ' v H03 H3 tt rr no=>hr v H3 ⟨z,ρ',σ',H03,rfl,tt,rr,no⟩
  cases hoh:h (ρ1.set ie (.sh (.exc C))) with
  |none=>rw[hoh]at e;cases e
  |some oh=>
  rw[hoh]at e;have nb:∀ρ',oh≠.bk ρ':=fun ρ' z=>by rw[z]at e;cases e
  have nc':∀ρ',oh≠.ct ρ':=fun ρ' z=>by rw[z]at e;cases e
  refine wpAny_mono (hh (X.A.mark (some (.ref ea))) _ eU s8 _ _ { nx:=fun σ' H3=>∃ ρ' H03,oh=.nx ρ'∧SSt (σ1.set ie (some (.ref ea))) (ρ1.set ie (.sh (.exc C))) (upd H0' ea (φX ea C)) (upd H' ea (φX ea C)) σ' ρ' H03 H3,rt:=fun v H3=>∃ z ρ' σ' H03,oh=.ret z ρ'∧SSt (σ1.set ie (some (.ref ea))) (ρ1.set ie (.sh (.exc C))) (upd H0' ea (φX ea C)) (upd H' ea (φX ea C)) σ' ρ' H03 H3∧zo (σ1.set ie (some (.ref ea))) (ρ1.set ie (.sh (.exc C))) (upd H' ea (φX ea C)) H03 H3 v z∧∀ d a,z=.new d→v=.ref a→¬ aG σ' ρ' a,bk:=fun _ _=>False,ct:=fun _ _=>False } (v_ rfl J8)
   ⟨_,_,_,C1.st,hoh,Rt oh hoh _ (fun _ _ z=>z) (fun _ _ z=>z) nb nc'⟩) (fun f s4 z=>?_) fun _ _ z=>z
  cases f with
  |next=>obtain⟨σ',H3,I4,ρ',H03,rfl,tt⟩:=z;cases e;refine name_goes (pZ J.ok I4) hN hi hk fun s9 J9=>?_;exact⟨σ'.set ie none,H3,J9,ok _ _ _ (t12.trans (C1.trans (tt.trans (SSt.drop tt.st h0))))⟩
  |ret v=>
   obtain⟨u,σ0,H3,I4,rl,z,ρ',σ',H03,rfl,tt,rr,no⟩:=z;cases e;refine name_goes (pZ J.ok I4) hN hi hk fun s9 J9=>?_;refine⟨u,σ0.set ie none,H3,J9,rl,ok _ _ _ _ (t12.trans (C1.trans (tt.trans (SSt.drop tt.st h0)))) ?_ ?_⟩
   ·cases z with
    |val d=>exact rr
    |new d=>
     obtain⟨a,ea',n,n0',w⟩:=rr;refine⟨a,ea',?_,n0',w⟩;have tp:=t12.trans C1;rcases n with n | n
     ·exact .inl (tp.stp.gone n)
     ·exact(tp.own a n).symm
   ·intro d a hz hv ho;obtain⟨j,d',h1,h2⟩:=ho;refine no d a hz hv ?_;by_cases hj:ie=j
    ·subst hj;rw[NW]at h1;simp only[if_true]at h1;split at h1<;>cases h1
    ·rw[MC hj]at h1 h2;exact⟨j,d',h1,h2⟩
  |brk=>obtain⟨_,_,_,q⟩:=z;exact MX q
  |cont=>obtain⟨_,_,_,q⟩:=z;exact MX q
end
theorem JX{C:Addr}{N:List Str}{n m:Nat}{R:Dm.Env->Option Dm.Env}{vs:List V}{H:Hp}{Q:VK}{E:XK}(hm:N.length=n+m)(h:spX C (Dm.fnX n m R) vs H Q E):tY C (fun _=>E) R (start N vs) H:=by have hvn:=v9 h;obtain⟨H0,ds,s,rs,e,k⟩:=h;unfold Dm.fnX at e;rw[MY]at e;obtain⟨st,no⟩:=z_ hm hvn s rs;obtain⟨ρ',hR⟩:=Ng.mp e.2;exact⟨H0,_,ρ',st,hR,fun σ' a H0' H' t=>k a H0' H' ⟨t.stp.s0,fun a o e=>t.stp.s1 a o e (no a),fun a o e=>(t.stp.s2 a o e).imp id fun q=>q.elim id fun z=>absurd z (no a),t.st.same⟩⟩
theorem okY{P:Program}{w:World}{K:Mv}{mg:Str->Option Value}{base:Heap}{x qual:Str}{st:Stmt}{f C:Addr}{fd:FuncData}{N ps:List Str}{k n m:Nat}{R:Dm.Env->Option Dm.Env}(F:Fun K x qual st f fd)(S:aE N ps (ah st))(hn:ps.length=n)(hm:N.length=n+m)
  (hbody:∀(cdv:Value) (A:Around) (outer:List Env) (s:Shared) (H:Hp) (E:XK),c_ k (A.deeper (envOfC qual (ah st) s.heap.objs.size f cdv))->YB (gB (CXE P w C) P w K mg base N qual (ah st) f cdv A outer s H E) C (fun _=>E) (bX st) R) :
  bW P w K mg base (CXE P w C) (k+1) f fd ps (spX C (Dm.fnX n m R)):=by
 obtain⟨oc,od,kV,doc,pm,an,cdv,ct,osl,rfl,lk,Rv⟩:=F.ex;refine Ej lk Rv S (fun vs H Q E h=>(v9 h).trans hn.symm) fun A outer s H vs Q E hr hsp=>?_;exact⟨_,hbody cdv A outer s H E hr,JX hm hsp⟩
section
variable{X:Cx}{C:Nat}{b:Bool}{cs:List Nat}{bs:List Bool}{e:Expr}{f:FE}
theorem iQ(h1:DE X e (Dm.e1 (Dm.lU C b) f))(h2:DE X e (Dm.e1 (Dm.eZ cs bs) f)):DE X e (Dm.e1 (Dm.eZ (C::cs) (b::bs)) f):=fun eU s σ H Q I q=>by
 obtain⟨H0,ρ,x,ρ',st,e0,k⟩:=q;have e:=e0;unfold Dm.e1 at e;split at e
 ·cases e
 rename_i x1 ρ1 e1;split at e
 ·cases e
 rename_i dx p1;cases dx with
 |exc D=>
  by_cases hD:D=C
  ·refine h1 eU s σ H Q I ⟨H0,ρ,x,ρ',st,?_,k⟩;unfold Dm.e1;rw[e1];dsimp only;rw[p1];dsimp only;rw[<- e];unfold Dm.lU Dm.eZ Dm.pJ;dsimp only;rw[if_pos hD,if_pos hD];rfl
  ·refine h2 eU s σ H Q I ⟨H0,ρ,x,ρ',st,?_,k⟩;unfold Dm.e1;rw[e1];dsimp only;rw[p1];dsimp only;rw[<- e];unfold Dm.eZ;dsimp only;rw[Dm.pJ.eq_def (C::cs)];dsimp only;rw[if_neg hD]
 |dj D mv=>
  by_cases hD:D=C
  ·refine h1 eU s σ H Q I ⟨H0,ρ,x,ρ',st,?_,k⟩;unfold Dm.e1;rw[e1];dsimp only;rw[p1];dsimp only;rw[<- e];unfold Dm.lU Dm.eZ Dm.pJ;dsimp only;rw[if_pos hD,if_pos hD];rfl
  ·refine h2 eU s σ H Q I ⟨H0,ρ,x,ρ',st,?_,k⟩;unfold Dm.e1;rw[e1];dsimp only;rw[p1];dsimp only;rw[<- e];unfold Dm.eZ;dsimp only;rw[Dm.pJ.eq_def (C::cs)];dsimp only;rw[if_neg hD]
 |_=>cases e
theorem sq:DE X e (Dm.e1 (Dm.eZ [] []) f):=fun eU s σ H Q I q=>by
 obtain⟨H0,ρ,x,ρ',st,e,k⟩:=q;unfold Dm.e1 at e;split at e
 ·cases e
 split at e
 ·cases e
 rename_i dx p1;cases dx<;>cases e
end
end Br
namespace Dm
noncomputable def codes(s:String):List Nat:=s.toList.map Char.toNat
noncomputable def shJ:List (List Nat)->List Nat
 |[]=>[]
 |[x]=>x
 |x::y::r=>x++44::32::shJ (y::r)
mutual
noncomputable def shw:Dat->List Nat
 |.non=>codes "None"
 |.bl b=>codes (if b then "True" else "False")
 |.int i=>codes (toString i)
 |.str s=>39::(s++[39])
 |.tup xs=>40::(shJ (iJ xs)++(if xs.length == 1 then [44,41] else [41]))
 |.lst xs=>91::(shJ (iJ xs)++[93])
 |_=>[]
noncomputable def iJ:List Dat->List (List Nat)
 |[]=>[]
 |x::r=>shw x::iJ r
end
mutual
noncomputable def sr:Nat->Dat->Bool
 |_,.non=>true
 |_,.bl _=>true
 |_,.int i=>decide (i.natAbs<10 ^ 100)
 |_,.str s=>decide (s=[115,105,110,99,101]\/s=[110,101,118,101,114]\/s=[53]\/s=[48]\/s=[53,58,48,45,48]\/s=[])
 |n+1,.tup xs=>gK n xs
 |n+1,.lst xs=>gK n xs
 |_,_=>false
noncomputable def gK:Nat->List Dat->Bool
 |_,[]=>true
 |n,x::r=>sr n x&&gK n r
end
mutual
noncomputable def uU:Dat->Nat
 |.tup xs=>1+su xs
 |.lst xs=>1+su xs
 |_=>1
noncomputable def su:List Dat->Nat
 |[]=>0
 |x::r=>uU x+su r
end
noncomputable def GQ:List Dat->Option RV
 |[.tup xs]=>if sr 8 (.tup xs)=true/\uU (.tup xs)<=900 then some (.val (.str (shw (.tup xs)))) else none
 |[.lst xs]=>if sr 8 (.lst xs)=true/\uU (.lst xs)<=900 then some (.val (.str (shw (.lst xs)))) else none
 |_=>none
theorem repr_len{n:Nat}(h:n<10 ^ 100):n.repr.toList.length<=100:=by rw[Nat.toList_repr];exact(Nat.length_toDigits_le_iff (by decide) (by decide)).mpr h
theorem sy{i:Int}(h:i.natAbs<10 ^ 100):(shw (.int i)).length<=101:=by
 unfold shw codes;rw[MP,Int.toString_eq_repr];unfold Int.repr;cases i with
 |ofNat m=>exact Nat.le_succ_of_le (repr_len h)
 |negSucc m=>
  dsimp only;rw[String.toList_append,MA];have:=repr_len (n:=m.succ) h;show 1+_<=101
  lia
theorem qJ:∀l:List (List Nat),(shJ l).length<=(l.map fun x=>x.length+2).sum
 |[]=>Nc _
 |[x]=>by simp[shJ]
 |x::y::r=>by
  have:=qJ (y::r);unfold shJ;simp only[MA,gV,Mu,Pa]at this ⊢
  lia
mutual
theorem qK:∀(n:Nat) (d:Dat),sr n d=true->(shw d).length+2<=110*uU d
 |_,.non,_=>by decide
 |_,.bl b,_=>by cases b<;>decide
 |n,.int i,h=>by
  have:=sy (i:=i) (by cases n<;>exact of_decide_eq_true h);unfold uU
  lia
 |n+1,.tup xs,h=>by have:=mX n xs h;have j:=qJ (iJ xs);unfold shw uU;simp only[gV,MA];split<;>simp<;>lia
 |n+1,.lst xs,h=>by
  have:=mX n xs h;have j:=qJ (iJ xs);unfold shw uU;simp only[gV,MA];simp
  lia
 |0,.tup xs,h=>by cases h
 |0,.lst xs,h=>by cases h
 |n,.str s,h=>by
  have h:s=[115,105,110,99,101]\/s=[110,101,118,101,114]\/s=[53]\/s=[48]\/s=[53,58,48,45,48]\/s=[]:=by cases n<;>exact of_decide_eq_true h
  rcases h with rfl | rfl | rfl | rfl | rfl | rfl<;>decide
 |0,.dct _ _,h=>by cases h
 |0,.dcp _ _,h=>by cases h
 |_+1,.dct _ _,h=>by cases h
 |_+1,.dcp _ _,h=>by cases h
 |0,.exc _,h=>by cases h
 |0,.dj _ _,h=>by cases h
 |_+1,.exc _,h=>by cases h
 |_+1,.dj _ _,h=>by cases h
 |0,.fn _,h=>by cases h
 |_+1,.fn _,h=>by cases h
theorem mX:∀(n:Nat) (xs:List Dat),gK n xs=true->((iJ xs).map fun x=>x.length+2).sum<=110*su xs
 |_,[],_=>by simp[iJ]
 |n,x::r,h=>by
  unfold gK at h;rw[MY]at h;have a:=qK n x h.1;have b:=mX n r h.2;unfold iJ su;simp only[Mu,Pa]
  lia
end
end Dm
namespace Br
open PySem PySem.Spec PyProof.Rows L2
mutual
noncomputable def pyD:Dat->PyData
 |.bl b=>.bool b
 |.int i=>.int i
 |.str s=>.str ⟨s.toArray⟩
 |.tup xs=>.tuple (iK xs)
 |.lst xs=>.list (iK xs)
 |_=>.none
noncomputable def iK:List Dat->List PyData
 |[]=>[]
 |x::r=>pyD x::iK r
end
theorem sC:∀xs:List Dat,(iK xs).length=xs.length
 |[]=>rfl
 |x::r=>by simp[iK,sC r]
theorem dH(s:String):Str.ofString s=⟨(Dm.codes s).toArray⟩:=Str.ofString_eq_toList s
theorem gf(a b:List Nat):((⟨a.toArray⟩:Str)++(⟨b.toArray⟩:Str))=⟨(a++b).toArray⟩:=by show Str.append _ _=_;unfold Str.append;simp
theorem mY:∀l:List (List Nat),Str.join ", " (l.map fun x=>(⟨x.toArray⟩:Str))=⟨(Dm.shJ l).toArray⟩
 |[]=>rfl
 |[x]=>rfl
 |x::y::r=>by have:=mY (y::r);show (⟨x.toArray⟩:Str)++(", " : Str)++Str.join ", " ((y::r).map fun x=>(⟨x.toArray⟩:Str))=_;rw[this];have e:((", " : String):Str)=⟨[44,32].toArray⟩:=dH ", ";rw[e,gf x [44,32],gf (x++[44,32]) (Dm.shJ (y::r))];simp[Dm.shJ]
mutual
theorem sD:∀(n:Nat) (d:Dat),Dm.sr n d=true->(pyD d).shown=⟨(Dm.shw d).toArray⟩
 |_,.non,_=>by unfold pyD;rw[PyData.shown_none];exact dH "None"
 |_,.bl b,_=>by
  unfold pyD;rw[PyData.shown_bool];cases b
  ·exact dH "False"
  ·exact dH "True"
 |_,.int i,_=>by unfold pyD;rw[PyData.shown_int];exact dH (toString i)
 |n+1,.tup xs,h=>by
  unfold pyD;rw[PyData.shown_tuple,kL n xs h,mY,sC];have e1:(("(" : String):Str)=⟨[40].toArray⟩:=dH "(";rw[e1,gf [40] (Dm.shJ (Dm.iJ xs))];unfold Dm.shw;by_cases q:(xs.length == 1)=true
  ·rw[if_pos q,if_pos q];have e2:((",)" : String):Str)=⟨[44,41].toArray⟩:=dH ",)";rw[e2,gf ([40]++Dm.shJ (Dm.iJ xs)) [44,41]];simp
  ·rw[if_neg q,if_neg q];have e2:((")" : String):Str)=⟨[41].toArray⟩:=dH ")";rw[e2,gf ([40]++Dm.shJ (Dm.iJ xs)) [41]];simp
 |n+1,.lst xs,h=>by unfold pyD;rw[PyData.shown_list,kL n xs h,mY];have e1:(("[" : String):Str)=⟨[91].toArray⟩:=dH "[";have e2:(("]" : String):Str)=⟨[93].toArray⟩:=dH "]";rw[e1,e2,gf [91] (Dm.shJ (Dm.iJ xs)),gf ([91]++Dm.shJ (Dm.iJ xs)) [93]];unfold Dm.shw;simp
 |0,.tup xs,h=>by cases h
 |0,.lst xs,h=>by cases h
 |n,.str s,h=>by
  have h:s=[115,105,110,99,101]\/s=[110,101,118,101,114]\/s=[53]\/s=[48]\/s=[53,58,48,45,48]\/s=[]:=by cases n<;>exact of_decide_eq_true h
  unfold pyD;rw[PyData.shown_str];rcases h with rfl | rfl | rfl | rfl | rfl | rfl<;>decide +kernel
 |0,.dct _ _,h=>by cases h
 |0,.dcp _ _,h=>by cases h
 |_+1,.dct _ _,h=>by cases h
 |_+1,.dcp _ _,h=>by cases h
 |0,.exc _,h=>by cases h
 |0,.dj _ _,h=>by cases h
 |_+1,.exc _,h=>by cases h
 |_+1,.dj _ _,h=>by cases h
 |0,.fn _,h=>by cases h
 |_+1,.fn _,h=>by cases h
theorem kL:∀(n:Nat) (xs:List Dat),Dm.gK n xs=true->PyData.shownAll (iK xs)=(Dm.iJ xs).map fun x=>(⟨x.toArray⟩:Str)
 |_,[],_=>by unfold iK Dm.iJ;rw[PyData.shownAll_nil];rfl
 |n,x::r,h=>by unfold Dm.gK at h;rw[MY]at h;unfold iK Dm.iJ;rw[PyData.shownAll_cons,sD n x h.1,kL n r h.2];rfl
end
mutual
theorem Aj:∀(n:Nat) (d:Dat),Dm.sr n d=true->(pyD d).showable=true/\(pyD d).hasDict=false/\(pyD d).depth<=n
 |_,.non,_=>by unfold pyD N3 N9 PyData.depth;exact⟨rfl,rfl,Nc _⟩
 |_,.bl b,_=>by unfold pyD N3 N9 PyData.depth;exact⟨rfl,rfl,Nc _⟩
 |n,.int i,h=>by
  unfold pyD N3 N9 PyData.depth;refine⟨decide_eq_true ?_,rfl,Nc _⟩;have hi:i.natAbs<10 ^ 100:=by cases n<;>exact of_decide_eq_true h
  by_cases z:i.natAbs=0
  ·rw[z];decide
  ·exact(Px z).mpr (Nat.lt_trans hi (by decide))
 |n+1,.tup xs,h=>by obtain⟨h1,h2,h3⟩:=fits_of n xs h;unfold pyD N3 N9 PyData.depth;exact⟨h1,h2,by lia⟩
 |n+1,.lst xs,h=>by obtain⟨h1,h2,h3⟩:=fits_of n xs h;unfold pyD N3 N9 PyData.depth;exact⟨h1,h2,by lia⟩
 |0,.tup xs,h=>by cases h
 |0,.lst xs,h=>by cases h
 |n,.str s,h=>by unfold pyD N3 N9 PyData.depth;exact⟨rfl,rfl,Nc _⟩
 |0,.dct _ _,h=>by cases h
 |0,.dcp _ _,h=>by cases h
 |_+1,.dct _ _,h=>by cases h
 |_+1,.dcp _ _,h=>by cases h
 |0,.exc _,h=>by cases h
 |0,.dj _ _,h=>by cases h
 |_+1,.exc _,h=>by cases h
 |_+1,.dj _ _,h=>by cases h
 |0,.fn _,h=>by cases h
 |_+1,.fn _,h=>by cases h
theorem fits_of:∀(n:Nat) (xs:List Dat),Dm.gK n xs=true->OY (iK xs)=true/\Pf (iK xs)=false/\NH (iK xs)<=n
 |_,[],_=>by unfold iK OY Pf NH;exact⟨rfl,rfl,Nc _⟩
 |n,x::r,h=>by unfold Dm.gK at h;rw[MY]at h;obtain⟨a1,a2,a3⟩:=Aj n x h.1;obtain⟨b1,b2,b3⟩:=fits_of n r h.2;unfold iK OY Pf NH;exact⟨by rw[a1,b1];rfl,by rw[a2,b2];rfl,Nat.max_le.mpr ⟨a3,b3⟩⟩
end
section
variable{eU:List (Addr×Obj)}{s:Shared}{σ:L2.St}{X:Cx}{H:Hp}
mutual
theorem sF(I:Inv X eU σ H s):∀(n:Nat) (d:Dat) (v:V) (u:Value),Dm.sr n d=true->Rep H v d->RelV v u->∃as,Reads s.heap u (pyD d) as
 |_,.non,v,u,_,r,q=>by cases r;cases q;unfold pyD;exact⟨_,.none⟩
 |_,.bl b,v,u,_,r,q=>by cases r;cases q;unfold pyD;exact⟨_,.bool b⟩
 |_,.int i,v,u,_,r,q=>by cases r;obtain⟨t,rfl⟩:=q;unfold pyD;exact⟨_,.int i t⟩
 |n+1,.tup ds,v,u,h,r,q=>by
  cases r with
  |@tup a xs _ hq rs=>cases q;obtain⟨its,rv,⟨o,ho,hc,m,hd⟩,hz⟩:=I.tuple (SqT.of (K:=X.K) hq);obtain⟨as,ha⟩:=kM I n ds xs its h rs rv;unfold pyD;exact⟨as,.tuple ho hc hd (by simpa using ha)⟩
 |n+1,.lst ds,v,u,h,r,q=>by
  cases r with
  |@lst a xs _ hq rs=>cases q;obtain⟨its,rv,⟨o,m,ho,hc,_,hd⟩,hz⟩:=I.list (.inl hq);obtain⟨as,ha⟩:=kM I n ds xs its h rs rv;unfold pyD;exact⟨_,.list ho hc hd (by simpa using ha)⟩
 |0,.tup xs,_,_,h,_,_=>by cases h
 |0,.lst xs,_,_,h,_,_=>by cases h
 |n,.str s,v,u,_,r,q=>by cases r;obtain⟨t,rfl⟩:=q;unfold pyD;exact⟨_,.str _ t⟩
 |0,.dct _ _,_,_,h,_,_=>by cases h
 |0,.dcp _ _,_,_,h,_,_=>by cases h
 |_+1,.dct _ _,_,_,h,_,_=>by cases h
 |_+1,.dcp _ _,_,_,h,_,_=>by cases h
 |0,.exc _,_,_,h,_,_=>by cases h
 |0,.dj _ _,_,_,h,_,_=>by cases h
 |_+1,.exc _,_,_,h,_,_=>by cases h
 |_+1,.dj _ _,_,_,h,_,_=>by cases h
 |0,.fn _,_,_,h,_,_=>by cases h
 |_+1,.fn _,_,_,h,_,_=>by cases h
theorem kM(I:Inv X eU σ H s):∀(n:Nat) (ds:List Dat) (vs:List V) (us:List Value),Dm.gK n ds=true->bg H vs ds->Vals vs us->∃as,ReadsAll s.heap us (iK ds) as
 |_,[],vs,us,_,r,q=>by cases r;cases q;unfold iK;exact⟨_,.nil⟩
 |n,d::ds,vs,us,h,r,q=>by
  cases r with
  |cons r rs=>
   cases q with
   |cons q qs=>unfold Dm.gK at h;rw[MY]at h;obtain⟨as,ha⟩:=sF I n d _ _ h.1 r q;obtain⟨bs,hb⟩:=kM I n ds _ _ h.2 rs qs;unfold iK;exact⟨_,.cons ha hb⟩
end
end
def GR:List V->Hp->VK->Prop:=fun xs H Q=>∃(a:Addr) (d:Dat),xs=[.ref a]/\Dm.sr 8 d=true/\(Dm.shw d).length<=sizeLine/\Rep H (.ref a) d/\Q (.str ⟨(Dm.shw d).toArray⟩) H
theorem sG{X:Cx}{k:Nat}(hr:c_ k X.A):dP X (.type "str") GR:=by intro eU s σ H xs us Q I r h;obtain⟨a,d,rfl,hd,hz,rd,q⟩:=h;obtain⟨u,rfl,rx⟩:=vals1 r;cases rx;obtain⟨as,ha⟩:=sF I 8 d _ _ hd rd rfl;obtain⟨f1,f2,f3⟩:=Aj 8 d hd;have sh:=sD 8 d hd;have un:=hr.un;refine str_of_reads ha f1 (fun z=>by rw[f2]at z;cases z) hr.gd (by lia) (fun _ _ e=>e) (fun h' u tk kp=>?_) (by rw[sh];exact M6 (by show (Dm.shw d).toArray.size<=_;simp) hz);rw[sh];exact⟨.str ⟨(Dm.shw d).toArray⟩,H,I.kept (t':=tk) kp,⟨u,rfl⟩,q⟩
theorem GS:CallD GR Dm.GQ:=by
 intro H0 H vs ds z Q s rs e k;have sz:110*900<=sizeLine:=by decide
 unfold Dm.GQ at e;split at e
 ·split at e
  ·rename_i hk;cases e;cases rs with
   |cons r rr=>
    cases rr;rcases r with r | ⟨a,_,w⟩
    ·cases r with
     |tup q rs=>have rp:Rep H (.ref _) (.tup _):=.tup (s _ _ q) (rs.mono s);have:=Dm.qK 8 _ hk.1;have h2:=hk.2;exact⟨_,_,rfl,hk.1,by lia,rp,k _ H0 H (aQ.refl s) (.str _)⟩
    ·exact MX w
  ·cases e
 ·split at e
  ·rename_i hk;cases e;cases rs with
   |cons r rr=>cases rr;obtain⟨a,us,rfl,qa,ra⟩:=cR s r;have rp:Rep H (.ref a) (.lst _):=.lst qa (ra.mono s);have:=Dm.qK 8 _ hk.1;have h2:=hk.2;exact⟨_,_,rfl,hk.1,by lia,rp,k _ H0 H (aQ.refl s) (.str _)⟩
  ·cases e
 ·cases e
end Br
set_option maxHeartbeats 4000000
namespace Ts
open PySem PyProof.Rows
variable{A:Around}{E:Value->Shared->Prop}{s:Shared}{prog:Program}{w:World}
end Ts
namespace Br
open PySem PySem.Spec PyProof.Rows L2
theorem okQ{P:Program}{w:World}{K:Mv}{mg:Str->Option Value}{base:Heap}{x qual:Str}{st:Stmt}{f:Addr}{fd:FuncData}{N ps:List Str}{k n m:Nat}{body:FS}(F:Fun K x qual st f fd)(S:aE N ps (ah st))
  (hb:∀(cdv:Value) (A:Around) (outer:List Env) (s:Shared) (H:Hp) (E:XK),c_ k (A.deeper (envOfC qual (ah st) s.heap.objs.size f cdv))->DSs (gB CX0 P w K mg base N qual (ah st) f cdv A outer s H E).nox (bX st) body)
  (hn:ps.length=n:=by rfl) (hm:N.length=n+m:=by rfl):bW P w K mg base CX0 (k+1) f fd ps (spD (Dm.fn n m body)):=
 F.ok S (fun vs H Q E h=>(kH h).trans hn.symm) fun cdv A outer s H vs Q E hr h=>⟨_,hb cdv A outer s H E hr,zw hm h⟩
end Br
namespace Dm
open Classical in
noncomputable def cN:List Dat->Option RV
 |[.non]=>some (.val (.str (codes "None")))
 |[.bl b]=>some (.val (.str (codes (if b then "True" else "False"))))
 |[.int i]=>if i.natAbs<10 ^ 100 then some (.val (.str (codes (toString i)))) else none
 |[.str s]=>some (.val (.str s))
 |[.dct [] []]=>some (.val (.str (codes "{}")))
 |ds=>GQ ds
end Dm
namespace Br
open PySem PySem.Spec PyProof.Rows L2
def EA:List V->Hp->VK->Prop:=fun xs H Q=>(xs=[.non]/\Q (.str ⟨(Dm.codes "None").toArray⟩) H)\/(∃b,xs=[.bl b]/\Q (.str ⟨(Dm.codes (if b then "True" else "False")).toArray⟩) H)\/(∃i:Int,xs=[.int i]/\i.natAbs<10 ^ 100/\Q (.str ⟨(Dm.codes (toString i)).toArray⟩) H) \/
 (∃s,xs=[.str s]/\Q (.str s) H)\/(∃a,xs=[.ref a]/\H a=some (.dK [])/\Q (.str ⟨(Dm.codes "{}").toArray⟩) H)\/GR xs H Q
theorem yc{X:Cx}{k:Nat}(hr:c_ k X.A):dP X (.type "str") EA:=by
 intro eU s σ H xs us Q I r h;rcases h with⟨rfl,q⟩ | ⟨b,rfl,q⟩ | ⟨i,rfl,hi,q⟩ | ⟨x,rfl,q⟩ | ⟨a,rfl,ha,q⟩ | h
 ·obtain⟨u,rfl,rx⟩:=vals1 r;cases rx;exact P.str_of_none ⟨.str ⟨(Dm.codes "None").toArray⟩,H,I.tok _,⟨_,congrArg (Oj · _) (dH "None")⟩,q⟩
 ·obtain⟨u,rfl,rx⟩:=vals1 r;cases rx;refine P.str_of_bool ⟨.str ⟨(Dm.codes (if b then "True" else "False")).toArray⟩,H,I.tok _,⟨s.toks,?_⟩,q⟩;cases b
  ·exact congrArg (Oj · _) (dH "False")
  ·exact congrArg (Oj · _) (dH "True")
 ·obtain⟨u,rfl,tk,rfl⟩:=vals1 r;refine P.str_of_int ?_ ⟨.str ⟨(Dm.codes (toString i)).toArray⟩,H,I.tok _,⟨_,congrArg (Oj · _) (dH _)⟩,q⟩;by_cases z:i.natAbs=0
  ·rw[z];decide
  ·exact(Px z).mpr (MZ hi (M6 (Nat.pow_le_pow_left (by decide:10<=2 ^ 4) 100) (by rw[<- Nat.pow_mul];exact Nat.pow_le_pow_right (by decide) (by decide))))
 ·obtain⟨u,rfl,tk,rfl⟩:=vals1 r;exact P.str_of_str ⟨.str x,H,I,⟨_,rfl⟩,q⟩
 ·obtain⟨u,rfl,rx⟩:=vals1 r;cases rx;obtain⟨hz,hS,vs,rv,m⟩:=IM I.hok ha;cases rv;obtain⟨o,es,ep,ho,xd,hd,_,pr,_⟩:=m;have hes:es.toList=[]:=by cases hq:es.toList with
   |nil=>rfl
   |cons y ys=>rw[hq]at pr;cases pr
  have un:=hr.un;have rd:Reads s.heap (.ref a) (.dict []) (a::[]++[]):=.dict ho xd.1 hd (by rw[hes];exact .nil) (by rw[hes];exact .nil);have sh:(PyData.dict []).shown=⟨(Dm.codes "{}").toArray⟩:=by rw[PyData.shown_dict];decide +kernel
  have dp:(PyData.dict []).depth<=2:=by decide
  refine str_of_reads rd (by decide) (fun _ z=>?_) hr.gd (by lia) (fun _ _ e=>e) (fun h' u tk kp=>?_) (by rw[sh];decide)
  ·have:sysModules=a:=by simpa using z
   rw[<- this]at hS;simp at hS
  ·rw[sh];exact⟨.str ⟨(Dm.codes "{}").toArray⟩,H,I.kept (t':=tk) kp,⟨u,rfl⟩,q⟩
 ·exact sG hr eU s σ H xs us Q I r h
theorem C2:CallD EA Dm.cN:=by
 intro H0 H vs ds z Q s rs e k;unfold Dm.cN at e;split at e
 ·cases e;cases rs with
  |cons r rr=>
   cases rr;rcases r with r | ⟨a,_,w⟩
   ·cases r;exact .inl ⟨rfl,k _ H0 H (aQ.refl s) (.str _)⟩
   ·exact MX w
 ·cases e;cases rs with
  |cons r rr=>
   cases rr;rcases r with r | ⟨a,_,w⟩
   ·cases r;exact .inr (.inl ⟨_,rfl,k _ H0 H (aQ.refl s) (.str _)⟩)
   ·exact MX w
 ·split at e
  case isFalse=>cases e
  rename_i hi;cases e;cases rs with
  |cons r rr=>
   cases rr;rcases r with r | ⟨a,_,w⟩
   ·cases r;exact .inr (.inr (.inl ⟨_,rfl,hi,k _ H0 H (aQ.refl s) (.str _)⟩))
   ·exact MX w
 ·cases e;cases rs with
  |cons r rr=>
   cases rr;rcases r with r | ⟨a,_,w⟩
   ·cases r;exact .inr (.inr (.inr (.inl ⟨_,rfl,k _ H0 H (aQ.refl s) (.str _)⟩)))
   ·exact MX w
 ·cases e;cases rs with
  |cons r rr=>
   cases rr;refine .inr (.inr (.inr (.inr (.inl ?_))));rcases r with r | ⟨a,rfl,xs,q,e1,e2⟩
   ·cases r with
    |dct q e1 e2=>
     rename_i a kvs;have:kvs=[]:=by cases kvs with
      |nil=>rfl
      |cons _ _=>cases e1
     subst this;exact⟨a,rfl,s _ _ q,k _ H0 H (aQ.refl s) (.str _)⟩
   ·have:xs=[]:=by cases xs with
     |nil=>rfl
     |cons _ _=>cases e1
    subst this;exact⟨a,rfl,q,k _ H0 H (aQ.refl s) (.str _)⟩
 ·exact .inr (.inr (.inr (.inr (.inr (GS H0 H vs _ z Q s rs e k)))))
section
variable{X:Cx}{e:Expr}{fs:List FE}{p pos:Pos}{k:Nat}
theorem cW(hr:c_ k X.A)(hg:Gl X "str")(hm:X.mg "str" = none)(ha:DA X [e] fs)(he:starEach [e] X.env=[(false,eval e X.env)]:=by rfl)(ED:(backTo pos (starEach [] X.env)).any (·.1)=false:=by rfl):DE X (.Call (.Name "str" p) [e] [] pos) (Dm.eB Dm.cN fs):=zH (yc hr) C2 (by rfl) hg hm ha (he:=he) (ED:=ED)
end
end Br
namespace L2
open PySem PySem.Spec PyProof.Rows
section
variable{P:Program}{w:World}{K:Mv}{mg:Str->Option Value}{base:Heap}{N:List Str}{qual:Str}{scope:Scope}{f:Addr}{cd:Value}{A:Around}{outer:List Env}{s₀:Shared}{H₀:Hp}{E:XK}{C:Addr}
 {eU:List (Addr×Obj)} {σ:St} {H:Hp} {s:Shared}
end
end L2
namespace Ts
open PySem PyProof.Rows
variable{A:Around}{E:Value->Shared->Prop}{s:Shared}{prog:Program}{w:World}
end Ts
namespace Dm
noncomputable def bM:Dat->Dat->Option RV
 |.str a,.str b=>if a.length+b.length<=SZ then some (.val (.str (a++b))) else none
 |_,_=>none
noncomputable def yd:Dat->Dat->Option RV
 | .str a,.int i=>if a.length≤SZ then (match ixN a.length i with
  |none=>none
  |some m=>match a[m]? with
   |none=>none
   |some c=>some (.val (.str [c]))) else none
 |_,_=>none
noncomputable def Ak:Dat->Dat->Option RV
 |.str [c],.str b=>vB (b.contains c)
 |_,_=>none
noncomputable def p6:List Dat->Option RV
 |[.str a]=>if a.length<=SZ then vI a.length else none
 |_=>none
noncomputable def pK(a:List Nat):Nat:=a.foldl (fun n c=>n*10+(c-48)) 0
noncomputable def e7(c:Nat):Bool:=decide (48<=c)&&decide (c<=57)
noncomputable def mZ:List Dat->Option RV
 |[.str a]=>if a≠[]/\a.all e7=true/\a.length<=600 then vI (pK a) else none
 |_=>none
noncomputable def ao(c:Nat):List Nat->List Nat×List Nat×List Nat
 |[]=>([],[],[])
 |x::r=>if x=c then ([],[c],r) else ((x::(ao c r).1),(ao c r).2)
noncomputable def d_:List Nat->Dat->Option RV
 |s,.str [c]=>if s.length<=SZ then some (.val (.tup [.str (ao c s).1,.str (ao c s).2.1,.str (ao c s).2.2])) else none
 |_,_=>none
noncomputable def aR(c d:Nat):List Nat->List Nat->List (List Nat)
 |qN,[]=>[qN]
 |qN,[x]=>[qN++[x]]
 |qN,x::y::r=>if x=c/\y=d then qN::aR c d [] r else aR c d (qN++[x]) (y::r)
noncomputable def kN:List Nat->Dat->Option RV
 |s,.str [c,d]=>if s.length<=SZ/\c<128/\d<128 then some (.new (.lst ((aR c d [] s).map .str))) else none
 |_,_=>none
noncomputable def j3:List Dat->Option (List (List Nat))
 |[]=>some []
 |.str s::r=>(j3 r).map (s::·)
 |_::_=>none
noncomputable def cy(y:List Nat):List (List Nat)->List Nat
 |[]=>[]
 |[x]=>x
 |x::r=>x++y++cy y r
noncomputable def lB:List Nat->Dat->Option RV
 | y,.lst ds=>(match j3 ds with
  |some ss=>if (ss.map fun s=>s.length+y.length).sum<=SZ then some (.val (.str (cy y ss))) else none
  |none=>none)
 |_,_=>none
noncomputable def eS2(g:List Nat->Dat->Option RV)(a b:FE):FE:=fun ρ=>match a ρ with
 |none=>none
 |some (x,ρ1)=>match pk ρ1 x with
  | some (.str s)=>(match b ρ1 with
   |none=>none
   |some (y,ρ2)=>match pk ρ2 y with
    |none=>none
    |some d=>match g s d with
     |none=>none
     |some v=>some (v.aB,ρ2))
  |_=>none
noncomputable def iTx(a:FE):FI:=fun ρ=>match a ρ with
 |none=>none
 |some (x,ρ1)=>match pk ρ1 x with
  |some (.str s)=>if s.all (fun c=>decide (c<128))=true then some (s.map fun c=>.str [c],ρ1) else none
  |_=>none
end Dm
namespace Tx
open PySem PySem.Builtin PySem.Builtin.Str PySem.StrLaws
noncomputable def fQ(y:List Nat):List Nat->Nat->Nat->Nat->List Nat
 |[],_,_,_=>[]
 |c::r,i,free,lim=>if (0<lim/\free<=i)/\y.isPrefixOf (c::r)=true then i::fQ y r (i+1) (i+y.length) (lim-1) else fQ y r (i+1) free lim
theorem C3(x y:List Nat)(i:Nat)(h:i<x.length)(hy:y≠[]):(i+y.length<=x.length/\subAt ⟨x.toArray⟩ ⟨y.toArray⟩ i=true)↔y.isPrefixOf (x.drop i)=true:=by
 rw[List.isPrefixOf_iff_prefix,List.prefix_iff_eq_take];have e:subAt ⟨x.toArray⟩ ⟨y.toArray⟩ i=true↔y=(x.drop i).take y.length:=by
  unfold subAt;rw[beq_iff_eq];have l:(Str.mk y.toArray).length=y.length:=by simp[Str.length]
  rw[l];show x.toArray.extract i (i+y.length)=y.toArray↔_;rw[<- Array.toList_inj];simp only[Array.toList_extract,List.extract_eq_drop_take'];rw[List.drop_take,Nat.add_sub_cancel_left];exact eq_comm
 rw[e];constructor
 ·exact fun q=>q.2
 ·intro q;refine⟨?_,q⟩;have:=congrArg List.length q;rw[NJ,NK]at this
  lia
theorem qL(x y:List Nat)(hy:y≠[])(limit:Nat):∀(m i:Nat) (st:Array Nat×Nat),i+m=x.length ->
  (forIn (List.range' i (m+1)) st (occBody ⟨x.toArray⟩ ⟨y.toArray⟩ x.length limit)).run.fst.toList=st.fst.toList++fQ y (x.drop i) i st.snd (limit-st.fst.size)
 |0,i,st,h=>by
  have yl:(Str.mk y.toArray).length=y.length:=by simp[Str.length]
  have y1:0<y.length:=List.length_pos_iff.mpr hy;rw[List.range'_succ,OM];unfold occBody;rw[if_neg (by rintro⟨⟨_,q⟩,_⟩;rw[yl]at q;lia),List.drop_eq_nil_of_le (by lia)];simp[fQ]
 |m+1,i,st,h=>by
  have yl:(Str.mk y.toArray).length=y.length:=by simp[Str.length]
  have hi:i<x.length:=by lia
  have sp:=C3 x y i hi hy;rw[List.range'_succ,OM];rw[NY hi]at sp ⊢;rw[fQ];by_cases q:(0<limit-st.fst.size/\st.snd<=i)/\y.isPrefixOf (x[i]::x.drop (i+1))=true
  ·have p:=sp.mpr q.2;rw[if_pos q];have e:occBody ⟨x.toArray⟩ ⟨y.toArray⟩ x.length limit i st=pure (NG (st.fst.push i,i+y.length)):=by
    unfold occBody;rw[if_pos ⟨⟨⟨by lia,q.1.2⟩,by rw[yl];exact p.1⟩,p.2⟩,yl]
   rw[e];have:=qL x y hy limit m (i+1) (st.fst.push i,i+y.length) (by lia);simp only[pure_bind];rw[this];simp[Array.toList_push,Nat.sub_sub]
  ·rw[if_neg q];have e:occBody ⟨x.toArray⟩ ⟨y.toArray⟩ x.length limit i st=pure (NG (st.fst,st.snd)):=by
    unfold occBody;rw[if_neg];rintro⟨⟨⟨q1,q2⟩,q3⟩,q4⟩;rw[yl]at q3;exact q ⟨⟨by lia,q2⟩,sp.mp ⟨q3,q4⟩⟩
   rw[e];have:=qL x y hy limit m (i+1) (st.fst,st.snd) (by lia);simp only[pure_bind];rw[this]
theorem m5(x y:List Nat)(hy:y≠[])(limit:Nat):occurrences ⟨x.toArray⟩ ⟨y.toArray⟩ 0 x.length limit=fQ y x 0 0 limit:=by rw[occ_eq];have:=qL x y hy limit x.length 0 (#[],0) (by lia);rw[Nat.sub_zero];rw[this];simp
theorem p7(y:List Nat):∀(l:List Nat) (i free:Nat),fQ y l i free 0=[]
 |[],_,_=>rfl
 |c::r,i,free=>by rw[fQ,if_neg (by lia),p7 y r]
theorem qM(c:Nat):∀(l:List Nat) (i free:Nat),free<=i->(c∉l/\fQ [c] l i free 1=[]/\Dm.ao c l=(l,[],[]))\/∃a b,l=a++c::b/\fQ [c] l i free 1=[i+a.length]/\Dm.ao c l=(a,[c],b)
 |[],i,free,_=>.inl ⟨by simp,rfl,rfl⟩
 |x::r,i,free,h=>by
  rw[fQ,Dm.ao];by_cases e:x=c
  ·subst e;rw[if_pos ⟨⟨by lia,h⟩,by simp[Oi]⟩,if_pos rfl,p7];exact .inr ⟨[],r,rfl,rfl,rfl⟩
  ·rw[if_neg (by rintro⟨_,q⟩;simp[Oi]at q;exact e q.symm),if_neg e];rcases qM c r (i+1) free (by lia) with⟨h1,h2,h3⟩ | ⟨a,b,h1,h2,h3⟩
   ·refine .inl ⟨?_,h2,by rw[h3]⟩;intro z;rcases MV.mp z with z | z
    ·exact e z.symm
    ·exact h1 z
   ·refine .inr ⟨x::a,b,by rw[h1];rfl,by rw[h2,gV];congr 1;lia,by rw[h3]⟩
theorem dN(x:List Nat)(i j:Nat):strSub ⟨x.toArray⟩ i j=⟨((x.drop i).take (j-i)).toArray⟩:=by
 unfold strSub
 congr 1
 rw[<- Array.toList_inj];simp only[Array.toList_extract,List.extract_eq_drop_take']
theorem len_list(x:List Nat):(Str.mk x.toArray).length=x.length:=by simp[Str.length]
theorem ye(x:List Nat)(c:Nat):Txt.partition ⟨x.toArray⟩ ⟨[c].toArray⟩=(⟨(Dm.ao c x).1.toArray⟩,⟨(Dm.ao c x).2.1.toArray⟩,⟨(Dm.ao c x).2.2.toArray⟩):=by
 unfold Txt.partition;rw[len_list,m5 x [c] (by simp)];rcases qM c x 0 0 (MO _) with⟨_,h2,h3⟩ | ⟨a,b,h1,h2,h3⟩
 ·rw[h2,h3];rfl
 ·rw[h2,h3];dsimp only;rw[dN,dN,len_list,h1];refine Prod.ext ?_ (Prod.ext rfl ?_)
  ·simp
  ·simp[MJ];exact List.take_of_length_le (by lia)
theorem in_list(x:List Nat)(c:Nat):(!(occurrences ⟨x.toArray⟩ ⟨[c].toArray⟩ 0 (Str.mk x.toArray).length 1).isEmpty)=x.contains c:=by
 rw[len_list,m5 x [c] (by simp)];rcases qM c x 0 0 (MO _) with⟨h1,h2,_⟩ | ⟨a,b,h1,h2,_⟩
 ·rw[h2];simp[h1]
 ·rw[h2,h1];simp
theorem iX(x:List Nat)(c d:Nat):∀(yi qN:List Nat) (i a free lim:Nat),x.drop i=yi->a<=i->i<=x.length->qN=(x.drop a).take (i-a)->free<=i->yi.length<lim ->
  (partsFrom ⟨x.toArray⟩ 2 a (fQ [c,d] yi i free lim)).map (fun s:Str=>s.cps.toList)=Dm.aR c d qN yi
 |[],qN,i,a,free,lim,hr,ha,hi,hacc,hf,hl=>by
  have:i=x.length:=by
   have:=congrArg List.length hr;rw[NK]at this;simp at this
   lia
  rw[fQ,Dm.aR,partsFrom,len_list,dN,hacc,this];simp
 |[z],qN,i,a,free,lim,hr,ha,hi,hacc,hf,hl=>by
  have e1:i+1=x.length:=by
   have:=congrArg List.length hr;rw[NK]at this;simp at this
   lia
  rw[fQ,if_neg (by rintro⟨_,q⟩;simp[Oi]at q),fQ,Dm.aR,partsFrom,len_list,dN,hacc,<- e1];have hz:x[i]?=some z:=by
   have:=congrArg (·[0]?) hr
   simpa using this
  have e2:i+1-a=(i-a)+1:=by lia
  rw[e2,List.take_succ,OZ,show a+(i-a)=i by lia,hz];simp
 |z::w::r,qN,i,a,free,lim,hr,ha,hi,hacc,hf,hl=>by
  have len:i+(r.length+2)=x.length:=by
   have:=congrArg List.length hr;rw[NK]at this;simp at this
   lia
  have hz:x[i]?=some z:=by
   have:=congrArg (·[0]?) hr
   simpa using this
  have d1:x.drop (i+1)=w::r:=by
   have:=congrArg (List.drop 1) hr
   simpa [PC,PJ] using this
  have d2:x.drop (i+2)=r:=by
   have:=congrArg (List.drop 2) hr
   simpa [PC,PJ] using this
  rw[fQ,Dm.aR];by_cases q:z=c/\w=d
  ·obtain⟨rfl,rfl⟩:=q;rw[if_pos ⟨⟨by lia,hf⟩,by simp[Oi]⟩,if_pos ⟨rfl,rfl⟩,partsFrom,Mu,dN];have e:fQ [z,w] (w::r) (i+1) (i+[z,w].length) (lim-1)=fQ [z,w] r (i+2) (i+2) (lim-1):=by
    rw[fQ,if_neg (by rintro⟨⟨_,q⟩,_⟩;simp at q)];rfl
   rw[e];have ih:=iX x z w r [] (i+2) (i+2) (i+2) (lim-1) d2 (MO _) (by lia) (by simp) (MO _) (by simp at hl;lia);rw[ih,hacc]
  ·rw[if_neg (by rintro⟨_,p⟩;simp[Oi]at p;exact q ⟨p.1.symm,p.2.symm⟩),if_neg q];exact iX x c d (w::r) (qN++[z]) (i+1) a free lim d1 (by lia) (by lia) (by
    have e2:i+1-a=(i-a)+1:=by lia
    rw[e2,List.take_succ,OZ,show a+(i-a)=i by lia,hz,hacc];simp) (by lia) (by simp at hl ⊢;lia)
 termination_by yi=>yi.length
theorem sH(c d:Nat)(x:List Nat)(h:x.length<2):Dm.aR c d [] x=[x]:=by
 match x,h with
 |[],_=>rfl
 |[z],_=>rfl
theorem C4(x y:List Nat)(h:∀c∈y,c<128):¬Str.strKind ⟨x.toArray⟩<Str.strKind ⟨y.toArray⟩:=by
 have:Str.strKind ⟨y.toArray⟩=1:=by
  unfold Str.strKind;rw[if_pos];simp;intro c hc;have:=h c hc
  lia
 rw[this];unfold Str.strKind;split
 ·decide
 ·split<;>decide
theorem split_list(x:List Nat)(c d:Nat)(hc:c<128)(hd:d<128):(Txt.split ⟨x.toArray⟩ ⟨[c,d].toArray⟩).map (fun s:Str=>s.cps.toList)=Dm.aR c d [] x:=by
 unfold Txt.split;rw[len_list,len_list,m5 x [c,d] (by simp)];have main:=iX x c d x [] 0 0 0 (x.length+1) rfl (MO _) (Nc _) (by simp) (MO _) (by lia);by_cases h:x.length<2
 ·rw[if_pos (by simp[h]),sH c d x h];simp
 ·rw[if_neg (by simp[h];exact Nat.le_of_not_lt (C4 x [c,d] (by intro z hz;simp at hz;lia)))];by_cases e:(fQ [c,d] x 0 0 (x.length+1)).isEmpty=true
  ·rw[if_pos e,<- main];have:fQ [c,d] x 0 0 (x.length+1)=[]:=by simpa using e
   rw[this,partsFrom,len_list,dN];simp
  ·rw[if_neg e,partsBetween_eq];exact main
end Tx
namespace Br
open PySem PySem.Spec PyProof.Rows L2
section
variable{X:Cx}{s:List Nat}{H:Hp}{σ:L2.St}
theorem cT{H0 H:Hp}{v:V}(r:jV H0 H v (.str s)):v=.str ⟨s.toArray⟩:=by
 rcases r with r | ⟨a,_,w⟩
 ·cases r;rfl
 ·exact MX w
theorem ez(s:List Nat):(Str.mk s.toArray).length=s.length:=Tx.len_list s
def JY:R2:=fun x y H Q=>∃i j,x=.str i/\y=.str j/\i.length+j.length<=sizeLine/\Q (.str (i++j)) H
theorem C5:OpD JY Dm.bM:=by
 intro H0 H x y dx dy z Q s rx ry e k;unfold Dm.bM at e;split at e
 ·rename_i a b;split at e
  case isFalse=>cases e
  rename_i hz;cases e;cases cT rx;cases cT ry;refine⟨_,_,rfl,rfl,by rw[ez,ez];exact dQ hz,?_⟩;have:(Str.mk a.toArray++Str.mk b.toArray)=Str.mk (a++b).toArray:=by show Str.mk (a.toArray++b.toArray)=_;simp
  rw[this];exact k _ H0 H (aQ.refl s) (.str _)
 ·cases e
def LP:R2:=fun x y H Q=>∃i j,x=.str i/\y=.str j/\Q (.bl (!(NR j i 0 j.length 1).isEmpty)) H
theorem GU:OpD LP Dm.Ak:=by
 intro H0 H x y dx dy z Q s rx ry e k;unfold Dm.Ak at e;split at e
 ·rename_i c b;cases e;cases cT rx;cases cT ry;refine⟨_,_,rfl,rfl,?_⟩;rw[Tx.in_list b c];exact k _ H0 H (aQ.refl s) (.bl _)
 ·cases e
theorem GV:OpD IF Dm.yd:=by
 intro H0 H x y dx dy z Q s rx ry e k;unfold Dm.yd at e;split at e
 ·rename_i a i;split at e
  case isFalse=>cases e
  rename_i hz;split at e
  ·cases e
  rename_i m hm;split at e
  ·cases e
  rename_i c hc;cases e;cases cT rx;cases aC ry;refine⟨_,i,c,rfl,rfl,by rw[ez];exact dQ hz,?_,k _ H0 H (aQ.refl s) (.str [c])⟩;show L2.atI a i=some c;have:L2.ixN a.length i=some m:=hm;unfold L2.atI;rw[this];exact hc
 ·cases e
theorem C6:CallD (fun xs H Q=>∃z,xs=[.str z]/\z.length<=sizeLine/\Q (.int z.length) H) Dm.p6:=by
 intro H0 H vs ds z Q s rs e k;unfold Dm.p6 at e;split at e
 ·rename_i a;split at e
  case isFalse=>cases e
  rename_i hz;cases e;cases rs with
  |cons r rr=>cases rr;cases cT r;refine⟨_,rfl,by rw[ez];exact dQ hz,?_⟩;rw[ez];exact k _ H0 H (aQ.refl s) (.int _)
 ·cases e
theorem yf:dP X (.type "int") (fun xs H Q=>∃a:List Nat,xs=[.str ⟨a.toArray⟩]/\a≠[]/\a.all Dm.e7=true/\a.length<=600/\Q (.int (Dm.pK a:Nat)) H):=by
 intro eU s σ H xs us Q I r h;obtain⟨a,rfl,h1,h2,h3,q⟩:=h;obtain⟨u,rfl,rx⟩:=vals1 r;obtain⟨t,rfl⟩:=rx;have dig:PySem.NumText.AllDigits a:=fun c hc=>by
  have:=M3.mp h2 c hc;unfold Dm.e7 at this
  simpa using this
 have rd:PySem.intText? ⟨a.toArray⟩=some ((Ow a:Nat):Int):=PySem.intText_digits (x:=⟨a.toArray⟩) (by simpa using dig) (by simpa using h1) (by rw[ez];lia);have ev:Ow a=Dm.pK a:=rfl;rw[ev]at rd;exact PySem.W.KIN.call_text rd (by rw[ez];lia) ⟨.int (Dm.pK a:Nat),H,I.tok _,⟨_,rfl⟩,q⟩
def MD(r:V->List V->Hp->VK->Prop)(g:List Nat->Dat->Option RV):Prop:=∀(H0 H:Hp) (s:List Nat) (y:V) (dy:Dat) (z:RV) (Q:VK),aF H0 H->jV H0 H y dy->g s dy=some z ->
 (∀v H0' H',aQ H0 H H0' H'->uG H H0' H' v z->Q v H')->r (.str ⟨s.toArray⟩) [y] H Q
theorem LQ{K:Mv}{r:V->List V->Hp->VK->Prop}{g:List Nat->Dat->Option RV}{fa fb:FE}{Q:VK}(o:MD r g)(h:tD (Dm.eS2 g fa fb) σ H Q):tBM K "str" r (tD fa) (tDA [fb]) σ H Q:=by
 obtain⟨H0,ρ,x,ρ',st,e,k⟩:=h;unfold Dm.eS2 at e;split at e
 ·cases e
 rename_i x1 ρ1 e1;split at e
 case h_2=>cases e
 rename_i s0 p0;split at e
 ·cases e
 rename_i y1 ρ2 e2;split at e
 ·cases e
 rename_i d p1;split at e
 ·cases e
 rename_i v hv;cases e;refine⟨H0,ρ,x1,ρ1,st,e1,fun v1 H1 Hb t1 r1=>?_⟩;cases cT (r1.look t1.st p0);refine⟨rfl,H1,ρ1,[y1],_,t1.st,by unfold Dm.eAs;rw[e2];rfl,fun vs H2 Hc t2 r2=>?_⟩;cases r2 with
 |cons r2 rr=>cases rr;refine o H2 Hc s0 _ d v Q t2.st.same (r2.look t2.st p1) hv fun w H3 Hd g3 r3=>?_;exact k w H3 Hd (t1.trans (t2.trans (.grow t2.st g3))) ((r3.toV t2.st).early fun a n=>(t1.trans t2).stp.gone n)
theorem p8:∀l:List (Str×Tok),Vals ((l.map (·.1)).map V.str) (strValues l)
 |[]=>.nil
 |p::l=>.cons ⟨p.2,rfl⟩ (p8 l)
theorem wj:∀{ss:List (List Nat)} {us:List Value},Vals (ss.map fun s=>V.str ⟨s.toArray⟩) us->∃l:List (Str×Tok),us=strValues l/\l.map (·.1)=ss.map fun s=>Str.mk s.toArray
 |[],_,.nil=>⟨[],rfl,rfl⟩
 |s::ss,_,.cons r rr=>by obtain⟨t,rfl⟩:=r;obtain⟨l,h1,h2⟩:=wj rr;refine⟨(⟨s.toArray⟩,t)::l,by rw[h1];rfl,by rw[Mu,h2];rfl⟩
theorem GW{l:List Str}{ss:List (List Nat)}(h:l.map (fun s:Str=>s.cps.toList)=ss):l=ss.map fun s=>Str.mk s.toArray:=by subst h;rw[Nv];exact(List.map_id _).symm.trans (Oe fun s _=>by cases s;simp)
def EB:V->List V->Hp->VK->Prop:=fun x xs H Q=>∃(a:List Nat) (c:Nat),x=.str ⟨a.toArray⟩/\xs=[.str ⟨[c].toArray⟩]/\a.length<=sizeLine /\
 ∀p,H p=none->Q (.ref p) (upd H p (.tup [.str ⟨(Dm.ao c a).1.toArray⟩,.str ⟨(Dm.ao c a).2.1.toArray⟩,.str ⟨(Dm.ao c a).2.2.toArray⟩]))
theorem C7:MtR X "str.partition" EB:=by
 intro eU s σ H x vs v us Q I rx rv h;obtain⟨a,c,rfl,rfl,hz,q⟩:=h;obtain⟨t,rfl⟩:=rx;obtain⟨u,rfl,ru⟩:=rv.one;obtain⟨t',rfl⟩:=ru;refine call_meets F.slot_str_partition (typeIs_str _ _ _) F.entry_str_partition (F.args_str_partition_2 _ _) (meets_str_partition _ _ t t' rfl (by rw[ez];exact hz)) ?_;have pl:=Tx.ye a c;have lay:∀(A B C:Str) (ta tb tc:Tok) (tk:Nat),(A,B,C)=Txt.partition ⟨a.toArray⟩ ⟨[c].toArray⟩->EP X eU σ Q (.ref s.heap.objs.size) { s with toks:=tk,heap:=s.heap.push { cls:=.type "tuple",data:=.seq [.str A ta,.str B tb,.str C tc].toArray } }:=fun A B C ta tb tc tk e=>by
  rw[pl]at e;injection e with e1 e
  injection e with e2 e3
  subst e1 e2 e3;exact⟨.ref _,_,I.laid (t':=tk) (fun _ _ q=>MR _ q) (MO _) (show ck X.prog X.w _ _ _ (.tup [.str ⟨(Dm.ao c a).1.toArray⟩,.str ⟨(Dm.ao c a).2.1.toArray⟩,.str ⟨(Dm.ao c a).2.2.toArray⟩]) from ⟨by show 3<=sizeLine;decide,_,.cons ⟨ta,rfl⟩ (.cons ⟨tb,rfl⟩ (.cons ⟨tc,rfl⟩ .nil)),⟨_,M9 _ rfl,rfl,0,rfl⟩⟩),rfl,q _ I.fresh⟩
 unfold Txt.partition at lay;revert lay;cases NR ⟨a.toArray⟩ ⟨[c].toArray⟩ 0 (Str.mk a.toArray).length 1 with
 |nil=>intro lay;exact lay _ _ _ _ _ _ _ rfl
 |cons i r=>intro lay;exact lay _ _ _ _ _ _ _ rfl
theorem C8:MD EB Dm.d_:=by
 intro H0 H s y dy z Q sm ry e k;unfold Dm.d_ at e;split at e
 ·rename_i c;split at e
  case isFalse=>cases e
  rename_i hz;cases e;cases cT ry;refine⟨s,c,rfl,rfl,dQ hz,fun p hp=>?_⟩;have g:=aQ.xQ (o:=.tup [.str ⟨(Dm.ao c s).1.toArray⟩,.str ⟨(Dm.ao c s).2.1.toArray⟩,.str ⟨(Dm.ao c s).2.2.toArray⟩]) sm hp;exact k _ _ _ g (.tup aY (.cons (.str _) (.cons (.str _) (.cons (.str _) .nil))))
 ·cases e
def Al:V->List V->Hp->VK->Prop:=fun x xs H Q=>∃(a:List Nat) (c d:Nat),x=.str ⟨a.toArray⟩/\xs=[.str ⟨[c,d].toArray⟩]/\a.length+1<=sizeLine/\c<128/\d<128 /\
 ∀p,H p=none->Q (.ref p) (upd H p (.lst ((Dm.aR c d [] a).map fun s=>V.str ⟨s.toArray⟩)))
theorem split_len(c d:Nat):∀(s qN:List Nat),(Dm.aR c d qN s).length<=s.length+1
 |[],qN=>by rw[Dm.aR];simp
 |[x],qN=>by rw[Dm.aR];simp
 |x::y::r,qN=>by
  rw[Dm.aR];split
  ·have:=split_len c d r [];simp;lia
  ·have:=split_len c d (y::r) (qN++[x]);simp at this ⊢;lia
 termination_by s=>s.length
theorem Am:MtR X "str.split" Al:=by
 intro eU s σ H x vs v us Q I rx rv h;obtain⟨a,c,d,rfl,rfl,hz,hc,hd,q⟩:=h;obtain⟨t,rfl⟩:=rx;obtain⟨u,rfl,ru⟩:=rv.one;obtain⟨t',rfl⟩:=ru;have sl:=Tx.split_list a c d hc hd;have Dh:=split_len c d a [];have hS:Txt.split ⟨a.toArray⟩ ⟨[c,d].toArray⟩=(Dm.aR c d [] a).map fun s=>Str.mk s.toArray:=GW sl;have lay:∀(l:List (Str×Tok)) (tk:Nat),l.map (·.1)=Txt.split ⟨a.toArray⟩ ⟨[c,d].toArray⟩->EP X eU σ Q (.ref s.heap.objs.size) { s with toks:=tk,heap:=s.heap.push { cls:=.type "list",data:=.seq (strValues l).toArray } }:=fun l tk e=>by have rl:=p8 l;rw[e,hS,Nv]at rl;exact⟨.ref _,_,I.laid (t':=tk) (o:=HO.lst ((Dm.aR c d [] a).map fun s:List Nat=>V.str (Str.mk s.toArray))) (fun _ _ q=>MR _ q) (MO _) ⟨by rw[MP];lia,_,0,rl,M9 _ rfl⟩,rfl,q _ I.fresh⟩
 have hy:((Str.mk [c,d].toArray).length == 0)=false:=rfl;have hx:(Str.mk a.toArray).length<=sizeLine:=by rw[ez];lia
 have LR:=lay;unfold Txt.split at LR;cases h1:(decide ((Str.mk a.toArray).length<(Str.mk [c,d].toArray).length)||decide (Builtin.Str.strKind (Str.mk a.toArray)<Builtin.Str.strKind (Str.mk [c,d].toArray)))
 ·cases hf:(NR (Str.mk a.toArray) (Str.mk [c,d].toArray) 0 (Str.mk a.toArray).length ((Str.mk a.toArray).length+1)).isEmpty
  ·have hp:Txt.split ⟨a.toArray⟩ ⟨[c,d].toArray⟩=Builtin.Str.partsBetween (Str.mk a.toArray) (NR (Str.mk a.toArray) (Str.mk [c,d].toArray) 0 (Str.mk a.toArray).length ((Str.mk a.toArray).length+1)) (Str.mk [c,d].toArray).length:=by
    unfold Txt.split;rw[if_neg (by rw[h1];decide),if_neg (by rw[hf];decide)]
   refine call_meets OB (typeIs_str _ _ _) Pg (O0 _ _) (meets_str_split_sep _ _ t t' h1 hy hf hx (by rw[<- hp,hS,MP];lia)) ?_;rw[strsFrom_eq];exact lay _ _ ((numbered_texts _ _).trans hp.symm)
  ·refine call_meets OB (typeIs_str _ _ _) Pg (O0 _ _) (meets_str_split_not_found _ _ t t' h1 hy hf) ?_;exact lay [(⟨a.toArray⟩,t)] _ (by unfold Txt.split;rw[if_neg (by rw[h1];decide),if_pos hf];rfl)
 ·refine call_meets OB (typeIs_str _ _ _) Pg (O0 _ _) (meets_str_split_cannot_occur _ _ t t' h1) ?_;exact lay [(⟨a.toArray⟩,t)] _ (by unfold Txt.split;rw[if_pos h1];rfl)
theorem p9:∀ss:List (List Nat),bg H (ss.map fun s=>V.str ⟨s.toArray⟩) (ss.map Dat.str)
 |[]=>.nil
 |s::ss=>.cons (.str s) (p9 ss)
theorem An:MD Al Dm.kN:=by
 intro H0 H s y dy z Q sm ry e k;unfold Dm.kN at e;split at e
 ·rename_i c d;split at e
  case isFalse=>cases e
  rename_i hz;cases e;cases cT ry;refine⟨s,c,d,rfl,rfl,M6 (Nat.succ_le_succ hz.1) (by decide),hz.2.1,hz.2.2,fun p hp=>?_⟩;have g:=aQ.mG (o:=HO.lst ((Dm.aR c d [] s).map fun s=>V.str ⟨s.toArray⟩)) sm hp;exact k _ _ _ g ⟨p,rfl,hp,sm.free hp,_,aY,p9 _⟩
 ·cases e
theorem m7(y:List Nat):∀(x:List Nat) (r:List (List Nat)),Dm.cy y (x::r)=x++(r.map (y++·)).flatten
 |x,[]=>by rw[Dm.cy];simp
 |x,z::r=>by rw[Dm.cy,m7 y z r];simp;intro h;cases h
theorem wk(y:List Nat):∀(r:List (List Nat)) (qN:List Nat),(r.map fun s=>Str.mk s.toArray).foldl (fun(qN:Array Nat) (p:Str)=>qN++(Str.mk y.toArray).cps++p.cps) qN.toArray=(qN++(r.map (y++·)).flatten).toArray
 |[],qN=>by simp
 |z::r,qN=>by
  rw[Mu,Pp];have:qN.toArray++(Str.mk y.toArray).cps++(Str.mk z.toArray).cps=(qN++y++z).toArray:=by simp
  rw[this,wk y r];simp
theorem join_list(y:List Nat)(ss:List (List Nat)):Txt.join ⟨y.toArray⟩ (ss.map fun s=>Str.mk s.toArray)=⟨(Dm.cy y ss).toArray⟩:=by
 unfold Txt.join Builtin.Str.glued;cases ss with
 |nil=>rfl
 |cons s r=>
  congr 1
  show (r.map fun s=>Str.mk s.toArray).foldl _ s.toArray=_;rw[wk,m7]
theorem sI(y:List Nat):∀(ss:List (List Nat)) (n:Nat),(ss.map fun s=>Str.mk s.toArray).foldl (fun(n:Nat) (s:Str)=>n+s.length+(Str.mk y.toArray).length) n=n+(ss.map fun s=>s.length+y.length).sum
 |[],n=>by simp
 |s::ss,n=>by rw[Mu,Pp,sI y ss,ez,ez];simp;lia
def rJoin:V->List V->Hp->VK->Prop:=fun x xs H Q=>∃(y:List Nat) (l:Addr) (ss:List (List Nat)),x=.str ⟨y.toArray⟩/\xs=[.ref l]/\Rd H l (.lst (ss.map fun s=>V.str ⟨s.toArray⟩))/\(ss.map fun s=>s.length+y.length).sum<=Dm.SZ/\Q (.str ⟨(Dm.cy y ss).toArray⟩) H
theorem C9:MtR X "str.join" rJoin:=by
 intro eU s σ H x vs v us Q I rx rv h;obtain⟨y,l,ss,rfl,rfl,hB,hz,q⟩:=h;obtain⟨t,rfl⟩:=rx;obtain⟨u,rfl,ru⟩:=rv.one;cases ru;obtain⟨z,its,n,r,e⟩:=hB.ok I.hok;obtain⟨ls,rfl,h2⟩:=wj r;refine SC.join (l:=ls) (texts:=ss.map fun s=>Str.mk s.toArray) ⟨_,e,rfl,_,rfl⟩ h2 ?_ fun t' k=>?_
 ·unfold JoinOk;have:(ss.map fun s=>Str.mk s.toArray).toArray.foldl (fun(n:Nat) (s:Str)=>n+s.length+(Str.mk y.toArray).length) 0=(ss.map fun s=>s.length+y.length).sum:=by
   rw[<- Array.foldl_toList];show (ss.map fun s=>Str.mk s.toArray).foldl _ 0=_;rw[sI,MJ]
  rw[this];unfold Builtin.Str.tooLong;have:(ss.map fun s=>s.length+y.length).sum<=sizeLine:=dQ hz;simp;exact this
 ·rw[join_list];exact⟨.str ⟨(Dm.cy y ss).toArray⟩,H,I.tok _,⟨_,rfl⟩,q⟩
theorem m8:∀{us:List V} {ds:List Dat} {ss:List (List Nat)},bg H us ds->Dm.j3 ds=some ss->us=ss.map fun s=>V.str ⟨s.toArray⟩
 |_,[],ss,.nil,e=>by rw[Dm.j3]at e;cases e;rfl
 |_,d::ds,ss,.cons r rr,e=>by
  cases d with
  |str s=>
   rw[Dm.j3]at e;cases hq:Dm.j3 ds with
   |none=>rw[hq]at e;cases e
   |some q=>rw[hq]at e;cases e;cases r;rw[m8 rr hq];rfl
  |_=>rw[Dm.j3]at e;cases e;intro s h;cases h
theorem C_:MD rJoin Dm.lB:=by
 intro H0 H s y dy z Q sm ry e k;unfold Dm.lB at e;split at e
 ·rename_i ds;split at e
  ·rename_i ss hs;split at e
   case isFalse=>cases e
   rename_i hz;cases e;obtain⟨a,us,rfl,qa,ra⟩:=cR sm ry;have:=m8 ra hs;subst this;exact⟨s,a,ss,rfl,rfl,qa,hz,k _ H0 H (aQ.refl sm) (.str _)⟩
  ·cases e
 ·cases e
noncomputable def Itx(s:List Nat):It:=⟨fun i _=>i<s.length,fun i H x H'=>H'=H/\∃c,s[i]?=some c/\x=.str ⟨#[c]⟩,fun i _=>s.length<=i⟩
theorem yg{P:Program}{w:World}{K:Mv}{tg:Expr}(it:Addr)(s:List Nat)(t:Tok):Turn P w K tg (Itx s) [it] it (fun i h=>h.IsStrIter it "str_ascii_iterator" ⟨s.toArray⟩ t i) where
 mem:=by simp
 obj:=fun i h st b hb=>by
  have e:b=it:=by simpa using hb
  subst e;obtain⟨o,ho,_,hd⟩:=st;exact⟨o,ho,fun v z=>by rw[hd]at z;cases z⟩
 keep:=fun i h h' st k=>by obtain⟨o,ho,r⟩:=st;exact⟨o,k it (by simp) _ ho,r⟩
 item:=by intro X hP hw hK hc i eU sh σ H E I hf st hg;subst hP hw hK;obtain⟨f0,f1,f2,f3,f4,f5⟩:=hf it (by simp);have W:=Walks.strAscii (prog:=X.prog) (w:=X.w) (I.ok.hd hc) it ⟨s.toArray⟩ t;refine W.item i sh _ _ (by have:i<s.length:=hg;simpa using this) st fun v h' tk hv st' kk=>?_;obtain⟨c,u,hc',rfl⟩:=hv;have I1:Inv X eU σ H { sh with heap:=h',toks:=tk }:=I.turned (fun b o hb e=>kk b o (by simpa using hb) e) f0 f1 f3 f4 f5;obtain⟨o,ho,hcl,hd⟩:=st';exact⟨_,rfl,pM (s:={ sh with heap:=h',toks:=tk }) (n := "str_ascii_iterator") ho hcl hd (by decide) ⟨.str ⟨#[c]⟩,H,I1,⟨u,rfl⟩,⟨rfl,c,by simpa using hc',rfl⟩,⟨o,ho,hcl,hd⟩,fun b hb=>(hf b hb).1⟩⟩
 done:=by intro X hP hw hK hc i eU sh σ H E I hf st hg;subst hP hw hK;obtain⟨f0,f1,f2,f3,f4,f5⟩:=hf it (by simp);refine wpAny_pyNext_ascii_end (I.ok.hd hc) st ?_ fun h' eb=>⟨rfl,I.turned (t':=sh.toks) (fun b o hb e=>eb b o hb e) f0 f1 f3 f4 f5⟩;have:s.length<=i:=hg;simp[this]
 self:=fun _ _ _ _ _ st h=>wpAny_pyIter_striter_ascii st h
def EC(te:TE):TI:=fun σ H R=>te σ H fun x H1=>∃s:List Nat,x=.str ⟨s.toArray⟩/\s.all (fun c=>decide (c<128))=true/\R (Itx s) H1
theorem Dc{tg l:Expr}{tl:TE}(hl:PE X l tl):PI X tg l (EC tl):=by
 intro eU s σ H R I h;refine thn (hl eU s σ H _ I h) fun v s1 ⟨x,H1,I1,r1,q1⟩=>?_;obtain⟨a,rfl,ha,q⟩:=q1;obtain⟨t,rfl⟩:=r1;refine wpAny_pyIter_ascii (by simpa using ha) ?_;refine⟨s1.heap.objs.size,[s1.heap.objs.size],_,_,H1,rfl,I1.kept (t':=s1.toks) fun b o e=>MR _ e,yg _ a t,⟨_,M9 _ rfl,rfl,rfl⟩,fun b hb=>?_,q⟩;have e:b=s1.heap.objs.size:=by simpa using hb
 subst e;exact I1.rH (MO _) (I1.hok.fresh (MO _))
theorem Dd{H0:Hp}:JW (Itx s) H0 (s.map fun c=>Dat.str [c]):=by
 intro H0' H s0 s1;refine⟨fun i hi=>(show s.length<=i by simpa using hi),fun i d e=>?_⟩;rw[M0]at e;cases hc:s[i]? with
 |none=>rw[hc]at e;cases e
 |some c=>rw[hc]at e;cases e;refine⟨(MT.mp hc).1,fun x H' y=>?_⟩;obtain⟨rfl,c',hc',rfl⟩:=y;rw[hc]at hc';cases hc';exact⟨H0',aQ.refl s1,.str [c]⟩
theorem JZ{R:It->Hp->Prop}{f:FE}(h:tDI (Dm.iTx f) σ H R):EC (tD f) σ H R:=by
 obtain⟨H0,ρ,ys,ρ',st,e,k⟩:=h;unfold Dm.iTx at e;split at e
 ·cases e
 rename_i x ρ1 e1;split at e
 ·rename_i s hp;split at e
  ·rename_i ha;cases e;refine⟨H0,ρ,x,_,st,e1,fun v H1 Hb t1 r1=>?_⟩;cases cT (r1.look t1.st hp);exact⟨s,rfl,ha,k _ H1 Hb t1 Dd⟩
  ·cases e
 ·cases e
end
section
variable{X:Cx}{tg a b e:Expr}{fa fb f:FE}{pos p:Pos}
theorem LS(he:DE X e f):DI X tg e (Dm.iTx f):=PI.weak (Dc he) fun _ _ _=>JZ
theorem GX{name:Str}{id:String}{r:V->List V->Hp->VK->Prop}{g:List Nat->Dat->Option RV}{ap cp:Pos}(slot:Slot "str" name id)(hty:typeOf (.builtin id)=pure (.type "method_descriptor"))(mt:MtR X id r)(md:MD r g)(ha:DE X a fa)(he:DE X e f)
  (Ka:attributeBase a name X.env (eval a X.env)=eval a X.env:=by rfl)
  (hfew:((backTo cp (starEach [e] X.env)).all (fun x=>!x.1)&&(backToKw cp (keywordEach [] X.env)).all (fun x=>x.1.isSome)
   && decide ([e].length+([]:List Keyword).length+(if ([]:List Keyword).isEmpty then 0 else 1)<30))=true:=by rfl)
  (G_:(ap.endLine == cp.line)=true:=by rfl) (hs:starEach [e] X.env=(false,eval e X.env)::starEach [] X.env:=by rfl) (Kd:(backTo cp (starEach [] X.env)).any (·.1)=false:=by rfl) :
  DE X (.Call (.Attribute a name ap) [e] [] cp) (Dm.eS2 g fa f):=
 PE.weak (Em PySem.F.plainAttrs_str slot hty mt ha (aa he af hs) Ka hfew G_ hs Kd) fun _ _ _=>LQ md
theorem bK(ha:DE X a fa)(hb:DE X b fb):DE X (.BinOp a .Add b pos) (Dm.e2 Dm.bM fa fb):=uM uD C5 ha hb
theorem J0(ha:DE X a fa)(hb:DE X b fb)(hm:behindInMarks .In b=false:=by rfl):DE X (.Compare a [.In] [b] pos) (Dm.e2 Dm.Ak fa fb):=rT xE GU ha hb hm
theorem J2(ha:DE X a fa)(hb:DE X b fb)(hs:qu b:=by intro _ _;rfl):DE X (.Subscript a b pos) (Dm.e2 Dm.yd fa fb):=PE.weak (Ek FU ha hb hs) fun _ _ _=>zm GV
theorem GY{fs:List FE}(hg:Gl X "len")(hm:X.mg "len" = none)(ha:DA X [e] fs)(he:starEach [e] X.env=[(false,eval e X.env)]:=by rfl)(ED:(backTo pos (starEach [] X.env)).any (·.1)=false:=by rfl):DE X (.Call (.Name "len" p) [e] [] pos) (Dm.eB Dm.p6 fs):=xW qx C6 PySem.boot_len hg hm ha (he:=he) (ED:=ED)
end
open Builtin.Str in
open Builtin.Str in
theorem De:CallD (fun xs H Q=>∃a:List Nat,xs=[.str ⟨a.toArray⟩]/\a≠[]/\a.all Dm.e7=true/\a.length<=600/\Q (.int (Dm.pK a:Nat)) H) Dm.mZ:=by
 intro H0 H vs ds z Q s rs e k;unfold Dm.mZ at e;split at e
 ·rename_i a;split at e
  case isFalse=>cases e
  rename_i hz;cases e;cases rs with
  |cons r rr=>cases rr;cases cT r;exact⟨a,rfl,hz.1,hz.2.1,hz.2.2,k _ H0 H (aQ.refl s) (.int _)⟩
 ·cases e
section
variable{X:Cx}{tg a b e:Expr}{fa fb f:FE}{pos p p2:Pos}{fs:List FE}
theorem GZ(hg:Gl X "int")(hm:X.mg "int" = none)(ha:DA X [e] fs)(he:starEach [e] X.env=[(false,eval e X.env)]:=by rfl)(ED:(backTo pos (starEach [] X.env)).any (·.1)=false:=by rfl):DE X (.Call (.Name "int" p) [e] [] pos) (Dm.eB Dm.mZ fs):=zH yf De (by rfl) hg hm ha (he:=he) (ED:=ED)
theorem G0{x:Str}{s:List Nat}{t:Tok}(hg:Gl X x)(hm:X.mg x=some (.str ⟨s.toArray⟩ t))(hd:(x == ("__debug__" : Str))=false:=by decide):DE X (.Name x pos) (Dm.eC (.str s)):=
 PE.weak (lZ (v:=.str ⟨s.toArray⟩) hg hm ⟨t,rfl⟩ hd) fun _ _ _=>iw fun _=>.str s
variable{ap cp:Pos}
theorem kO(ha:DE X a fa)(he:DE X e f)(Ka:attributeBase a "partition" X.env (eval a X.env)=eval a X.env:=by rfl)
  (hfew:((backTo cp (starEach [e] X.env)).all (fun x=>!x.1)&&(backToKw cp (keywordEach [] X.env)).all (fun x=>x.1.isSome)
   && decide ([e].length+([]:List Keyword).length+(if ([]:List Keyword).isEmpty then 0 else 1)<30))=true:=by rfl)
  (G_:(ap.endLine == cp.line)=true:=by rfl) (hs:starEach [e] X.env=(false,eval e X.env)::starEach [] X.env:=by rfl) (Kd:(backTo cp (starEach [] X.env)).any (·.1)=false:=by rfl) :
  DE X (.Call (.Attribute a "partition" ap) [e] [] cp) (Dm.eS2 Dm.d_ fa f):=GX F.slot_str_partition F.type_str_partition C7 C8 ha he Ka hfew G_ hs Kd
theorem Df(ha:DE X a fa)(he:DE X e f)(Ka:attributeBase a "split" X.env (eval a X.env)=eval a X.env:=by rfl)
  (hfew:((backTo cp (starEach [e] X.env)).all (fun x=>!x.1)&&(backToKw cp (keywordEach [] X.env)).all (fun x=>x.1.isSome)
   && decide ([e].length+([]:List Keyword).length+(if ([]:List Keyword).isEmpty then 0 else 1)<30))=true:=by rfl)
  (G_:(ap.endLine == cp.line)=true:=by rfl) (hs:starEach [e] X.env=(false,eval e X.env)::starEach [] X.env:=by rfl) (Kd:(backTo cp (starEach [] X.env)).any (·.1)=false:=by rfl) :
  DE X (.Call (.Attribute a "split" ap) [e] [] cp) (Dm.eS2 Dm.kN fa f):=GX OB F.type_str_split Am An ha he Ka hfew G_ hs Kd
theorem uV(ha:DE X a fa)(he:DE X e f)(Ka:attributeBase a "join" X.env (eval a X.env)=eval a X.env:=by rfl)
  (hfew:((backTo cp (starEach [e] X.env)).all (fun x=>!x.1)&&(backToKw cp (keywordEach [] X.env)).all (fun x=>x.1.isSome)
   && decide ([e].length+([]:List Keyword).length+(if ([]:List Keyword).isEmpty then 0 else 1)<30))=true:=by rfl)
  (G_:(ap.endLine == cp.line)=true:=by rfl) (hs:starEach [e] X.env=(false,eval e X.env)::starEach [] X.env:=by rfl) (Kd:(backTo cp (starEach [] X.env)).any (·.1)=false:=by rfl) :
  DE X (.Call (.Attribute a "join" ap) [e] [] cp) (Dm.eS2 Dm.lB fa f):=GX F.slot_str_join F.type_str_join C9 C_ ha he Ka hfew G_ hs Kd
end
end Br
namespace Dm
noncomputable def yh:Dat->Option RV
 |.int i=>if i.natAbs<10 ^ 100 then some (.val (.str (codes (toString i)))) else none
 |_=>none
noncomputable def Ao:List FE->List Nat->Env->Option (List Nat×Env)
 |[],qN,ρ=>some (qN,ρ)
 |f::r,qN,ρ=>match f ρ with
  |some (.val (.str s),ρ1)=>if qN.length+s.length<=SZ then Ao r (qN++s) ρ1 else none
  |_=>none
noncomputable def eJS(fs:List FE):FE:=fun ρ=>match Ao fs [] ρ with
 |some (s,ρ1)=>some (.val (.str s),ρ1)
 |none=>none
end Dm
namespace Br
open PySem PySem.Spec PyProof.Rows L2
section
variable{fs:List FE}{pos:Pos}{X:Cx}{e:Expr}
def J3:V->Hp->VK->Prop:=fun x H Q=>∃i:Int,x=.int i/\i.natAbs<10 ^ 100/\Q (.str ⟨(Dm.codes (toString i)).toArray⟩) H
theorem G1{te:TE}(he:PE X e te):PE X (.FormattedValue e (-1) none pos) (tUn J3 te):=by
 intro eU s σ H Q I h;refine FormattedValue_plain (thn (he eU s σ H _ I h) fun v s1 ⟨x,H1,I1,r1,q1⟩=>?_);obtain⟨i,rfl,hi,q⟩:=q1;obtain⟨t,rfl⟩:=r1;refine formatField_int_small ?_ ⟨.str ⟨(Dm.codes (toString i)).toArray⟩,H1,I1.tok _,⟨_,congrArg (Oj · _) (dH _)⟩,q⟩;by_cases z:i.natAbs=0
 ·rw[z];decide
 ·exact(Px z).mpr (MZ hi (M6 (Nat.pow_le_pow_left (by decide:10<=2 ^ 4) 100) (by rw[<- Nat.pow_mul];exact Nat.pow_le_pow_right (by decide) (by decide))))
theorem G3:UnD J3 Dm.yh:=by
 intro H0 H x dx z Q s rx e k;unfold Dm.yh at e;split at e
 ·rename_i i;split at e
  case isFalse=>cases e
  rename_i hi;cases e;cases aC rx;exact⟨i,rfl,hi,k _ H0 H (aQ.refl s) (.str _)⟩
 ·cases e
theorem Aq{f:FE}(he:DE X e f):DE X (.FormattedValue e (-1) none pos) (Dm.e1 Dm.yh f):=PE.weak (G1 he) fun _ _ _=>F2 G3
inductive DJ(X:Cx):List Expr->List FE->Prop
 |nil:DJ X [] []
 |cons {e:Expr} {f:FE} {es:List Expr} {fs:List FE}:DE X e f->DJ X es fs->DJ X (e::es) (f::fs)
theorem J4{es:List Expr}(d:DJ X es fs):∀(qN:List Nat) (eU:List (Addr×Obj)) (s:Shared) (σ:L2.St) (H H0:Hp) (ρ:Dm.Env) (out:List Nat) (ρ':Dm.Env) (Q:VK),Inv X eU σ H s->aJ H0 H σ ρ->qN.length<=Dm.SZ->Dm.Ao fs qN ρ=some (out,ρ') ->
  (∀H0' H',ESt σ ρ H0 H ρ' H0' H'->Q (.str ⟨out.toArray⟩) H')->wpAny (model X.prog X.w) X.A (joinParts ⟨qN.toArray⟩ (evalEach es X.env)) (EP X eU σ Q) X.xe s:=by
 induction d with
 |nil=>intro qN eU s σ H H0 ρ out ρ' Q I st ha e k;rw[Dm.Ao]at e;cases e;exact joinParts_nilE (joinParts_nil ⟨.str ⟨qN.toArray⟩,H,I.tok _,⟨_,rfl⟩,k H0 H (.refl st)⟩ (by rw[ez];exact dQ ha))
 |cons he _ ih=>
  intro qN eU s σ H H0 ρ out ρ' Q I st ha e k;rw[Dm.Ao]at e;split at e
  ·rename_i t ρ1 e1;split at e
   case isFalse=>cases e
   rename_i hz;refine joinParts_consE (joinParts_cons (thn (he eU s σ H (fun v H'=>∃H0',v=.str ⟨t.toArray⟩/\ESt σ ρ H0 H ρ1 H0' H') I ⟨H0,ρ,.val (.str t),ρ1,st,e1,fun v H0' H' tt r=>⟨H0',cT (r.look tt.st rfl),tt⟩⟩) fun v s1 ⟨x,H1,I1,rx,H0',hx,tt⟩=>?_));subst hx;obtain⟨tk,rfl⟩:=rx;have app:Str.mk qN.toArray++Str.mk t.toArray=Str.mk (qN++t).toArray:=by show Str.mk (qN.toArray++t.toArray)=_;simp
   show (Str.mk qN.toArray++Str.mk t.toArray).length<=sizeLine/\wpAny _ _ (joinParts (Str.mk qN.toArray++Str.mk t.toArray) _) _ _ s1;rw[app];refine⟨by rw[ez,MA];exact dQ hz,?_⟩;exact ih (qN++t) eU s1 σ H1 H0' ρ1 out ρ' Q I1 tt.st (by rw[MA];exact hz) e fun H2 H3 t2=>k H2 H3 (tt.trans t2)
  ·cases e
theorem LU{v1 v2:Expr}{yi:List Expr}(d:DJ X (v1::v2::yi) fs):DE X (.JoinedStr (v1::v2::yi) pos) (Dm.eJS fs):=by
 intro eU s σ H Q I h;obtain⟨H0,ρ,x,ρ',st,e,k⟩:=h;unfold Dm.eJS at e;split at e
 ·rename_i out ρ1 e1;cases e;exact JoinedStr_many (J4 d [] eU s σ H H0 ρ out _ Q I st (Nc _) e1 fun H2 H3 t=>k _ H2 H3 t (.str _))
 ·cases e
end
end Br
namespace Dm
section
variable{o p:Option Dat}{K:RV->Prop}{ρ:Env}{Q:Val->Env->Prop}{R:RV->Env->Prop}{N:Env->Prop}{B C:Env->Prop}{α:Type}{d:Dat}{i j:Int}{f:List Dat->Option RV}{ds:List Dat}{xs:List Dat}{X Y:Prop}{as:List FE}{a:FE}{g:Dat->Option RV}{c:Bool}{e:FE}{ρ2 ρ3:Env}{v:RV}{t:FT}{body:FS}{it:FI}{bd:FB}
def We(e:FE)(ρ:Env)(Q:Val->Env->Prop):Prop:=∃v ρ',e ρ=some (v,ρ')/\Q v ρ'
def Wt(t:FT)(ρ:Env)(Q:Bool->Env->Prop):Prop:=∃v ρ',t ρ=some (v,ρ')/\Q v ρ'
def Was(as:List FE)(ρ:Env)(Q:List Val->Env->Prop):Prop:=∃v ρ',eAs as ρ=some (v,ρ')/\Q v ρ'
def Wi(it:FI)(ρ:Env)(Q:List Dat->Env->Prop):Prop:=∃v ρ',it ρ=some (v,ρ')/\Q v ρ'
def KO(N:Env->Prop)(R:RV->Env->Prop)(B C:Env->Prop):Out->Prop
 |.nx ρ=>N ρ
 |.ret r ρ=>R r ρ
 |.bk ρ=>B ρ
 |.ct ρ=>C ρ
def Ws(s:FS)(ρ:Env)(N:Env->Prop)(R:RV->Env->Prop)(B C:Env->Prop):Prop:=∃o,s ρ=some o/\KO N R B C o
def Wr(o:Option RV)(P:RV->Prop):Prop:=∃r,o=some r/\P r
def Wif(c:Bool)(X Y:Prop):Prop:=(c=true->X)/\(c=false->Y)
def Wg1(g:Dat->Option RV)(o:Option Dat)(K:RV->Prop):Prop:=∃d v,o=some d/\g d=some v/\K v
def Wg2(g:Dat->Dat->Option RV)(o p:Option Dat)(K:RV->Prop):Prop:=∃d e v,o=some d/\p=some e/\g d e=some v/\K v
def WB(g:List Dat->Option RV)(o:Option (List Dat))(K:RV->Prop):Prop:=∃ds v,o=some ds/\g ds=some v/\K v
def WT(o:Option (List Dat×Env))(K:List Dat->Env->Prop):Prop:=∃ds ρ,o=some (ds,ρ)/\ds.length<=SZ/\K ds ρ
def WF(f:List Dat->Option RV)(ρ:Env)(xs:List Val)(Q:Val->Env->Prop):Prop:=∃ds v,pks ρ xs=some ds/\f ds=some v/\(if aO v.dat then ∃ds' ρ2,tks ρ xs=some (ds',ρ2)/\Q v.aB ρ2 else Q v.aB ρ)
def Wk(ρ:Env)(x:Val)(K:Dat->Env->Prop):Prop:=∃d ρ',tk ρ x=some (d,ρ')/\K d ρ'
def Wp(o:Option FE)(ρ:Env)(K:Option Int->Env->Prop):Prop:=∃i ρ',part o ρ=some (i,ρ')/\K i ρ'
theorem Qc(x:X):Wif true X Y:=⟨fun _=>x,fun h=>by cases h⟩
theorem P_(y:Y):Wif false X Y:=⟨fun h=>(by cases h),fun _=>y⟩
theorem Qs(h:c=true)(x:X):Wif c X Y:=⟨fun _=>x,fun h'=>by rw[h]at h';cases h'⟩
theorem Qi(h:c=false)(y:Y):Wif c X Y:=⟨fun h'=>(by rw[h]at h';cases h'),fun _=>y⟩
theorem QI{p:Prop}[Decidable p](x:p->X)(y:¬p->Y):Wif (decide p) X Y:=⟨fun h=>x (of_decide_eq_true h),fun h=>y (of_decide_eq_false h)⟩
theorem N_{i:Nat}(h:ρ[i]?=some (.sh d))(q:Q (.val d) ρ):We (eV i) ρ Q:=⟨_,_,by unfold eV;rw[h],q⟩
theorem Qm{i:Nat}(h:ρ[i]?=some (.ow d))(q:Q (.slot i) ρ):We (eV i) ρ Q:=⟨_,_,by unfold eV;rw[h],q⟩
theorem PU(q:Q (.val d) ρ):We (eC d) ρ Q:=⟨_,_,rfl,q⟩
theorem Qk(h:We a ρ fun x ρ1=>Wg1 g (pk ρ1 x) fun v=>Q v.aB ρ1):We (e1 g a) ρ Q:=by obtain⟨x,ρ1,h1,d,v,h2,h3,q⟩:=h;exact⟨_,_,by unfold Dm.e1;rw[h1];dsimp only;rw[h2];dsimp only;rw[h3],q⟩
theorem O_{g:Dat->Dat->Option RV}{a b:FE}(h:We a ρ fun x ρ1=>We b ρ1 fun y ρ2=>Wg2 g (pk ρ2 x) (pk ρ2 y) fun v=>Q v.aB ρ2):We (e2 g a b) ρ Q:=by obtain⟨x,ρ1,h1,y,ρ2,h2,d,e,v,h3,h4,h5,q⟩:=h;exact⟨_,_,by unfold Dm.e2;rw[h1];dsimp only;rw[h2];dsimp only;rw[h3];dsimp only;rw[h4];dsimp only;rw[h5],q⟩
theorem M_{Q:List Val->Env->Prop}(q:Q [] ρ):Was [] ρ Q:=⟨_,_,rfl,q⟩
theorem m_{r:List FE}{Q:List Val->Env->Prop}(h:We a ρ fun x ρ1=>Was r ρ1 fun xs ρ2=>Q (x::xs) ρ2):Was (a::r) ρ Q:=by obtain⟨x,ρ1,h1,xs,ρ2,h2,q⟩:=h;exact⟨_,_,by unfold eAs;rw[h1];dsimp only;rw[h2],q⟩
theorem Qj{g:List Dat->Option RV}(h:Was as ρ fun xs ρ1=>WB g (pks ρ1 xs) fun v=>Q v.aB ρ1):We (eB g as) ρ Q:=by obtain⟨x,ρ1,h1,d,v,h2,h3,q⟩:=h;exact⟨_,_,by unfold eB;rw[h1];dsimp only;rw[h2];dsimp only;rw[h3],q⟩
theorem Qw(h:Was as ρ fun xs ρ1=>WT (tks ρ1 xs) fun ds ρ2=>Q (.val (.tup ds)) ρ2):We (aT as) ρ Q:=by obtain⟨x,ρ1,h1,ds,ρ2,h2,h3,q⟩:=h;exact⟨_,_,by unfold aT;rw[h1];dsimp only;rw[h2];dsimp only;rw[if_pos h3],q⟩
theorem Qu(h:Was as ρ fun xs ρ1=>WT (tks ρ1 xs) fun ds ρ2=>Q (.new (.lst ds)) ρ2):We (aU as) ρ Q:=by obtain⟨x,ρ1,h1,ds,ρ2,h2,h3,q⟩:=h;exact⟨_,_,by unfold aU;rw[h1];dsimp only;rw[h2];dsimp only;rw[if_pos h3],q⟩
theorem Qd{xs:List Val}{K:List Dat->Env->Prop}(k:K ds ρ3)(h:tks ρ xs=some (ds,ρ2))(hn:ρ2=ρ3)(hl:ds.length<=SZ):WT (tks ρ xs) K:=⟨_,_,hn▸h,hl,k⟩
theorem P0(h:Was as ρ fun xs ρ1=>WF f ρ1 xs Q):We (eF f as) ρ Q:=by
 obtain⟨x,ρ1,h1,ds,v,h2,h3,h4⟩:=h;by_cases hb:aO v.dat=true
 ·rw[if_pos hb]at h4;obtain⟨ds',ρ2,h5,q⟩:=h4;exact⟨_,_,by unfold eF;rw[h1];dsimp only;rw[h2];dsimp only;rw[h3];dsimp only;rw[if_pos hb,h5],q⟩
 ·rw[if_neg hb]at h4;exact⟨_,_,by unfold eF;rw[h1];dsimp only;rw[h2];dsimp only;rw[h3];dsimp only;rw[if_neg hb],h4⟩
theorem Qo{ρ ρ2 ρ3:Env}{xs:List Val}{ds ds':List Dat}(h2:f ds=some v)(q:Q v.aB ρ3)(h1:pks ρ xs=some ds)(h3:aO v.dat=true)(h4:tks ρ xs=some (ds',ρ2))(hn:ρ2=ρ3):WF f ρ xs Q:=
 ⟨_,_,h1,h2,by rw[if_pos h3];exact⟨_,_,h4,hn▸q⟩⟩
theorem PY{xs:List Val}(h2:f ds=some v)(q:Q v.aB ρ)(h1:pks ρ xs=some ds)(h3:aO v.dat=false):WF f ρ xs Q:=
 ⟨_,_,h1,h2,by rw[if_neg (by rw[h3];decide)];exact q⟩
def Wb(v:Val)(K:Bool->Prop):Prop:=∃c,v=.val (.bl c)/\K c
theorem PX{K:Bool->Prop}(k:K c):Wb (.val (.bl c)) K:=⟨c,rfl,k⟩
theorem Qv{a b:FE}(h:We a ρ fun v ρ1=>Wb v fun c=>Wif c (We b ρ1 Q) (Q (.val (.bl false)) ρ1)):We (bE a b) ρ Q:=by
 obtain⟨v,ρ1,h1,c,rfl,h2,h3⟩:=h;cases c with
 |true=>obtain⟨v,ρ2,h4,q⟩:=h2 rfl;exact⟨_,_,by unfold bE;rw[h1];exact h4,q⟩
 |false=>exact⟨_,_,by unfold bE;rw[h1],h3 rfl⟩
theorem Q9(h:We a ρ fun v ρ1=>Wb v fun c=>Q (.val (.bl (!c))) ρ1):We (bO a) ρ Q:=by obtain⟨v,ρ1,h1,c,rfl,h2⟩:=h;exact⟨_,_,by unfold bO;rw[h1],h2⟩
theorem PZ{Q:Bool->Env->Prop}(h:We a ρ fun v ρ1=>Wb v fun c=>Q c ρ1):Wt (tV a) ρ Q:=by obtain⟨v,ρ1,h1,c,rfl,h2⟩:=h;exact⟨_,_,by unfold tV;rw[h1],h2⟩
theorem P1{Q:Bool->Env->Prop}(h:Wt t ρ fun c ρ1=>Q (!c) ρ1):Wt (aV t) ρ Q:=by obtain⟨v,ρ1,h1,h2⟩:=h;exact⟨_,_,by unfold aV;rw[h1],h2⟩
theorem Q_{t u:FT}{Q:Bool->Env->Prop}(h:Wt t ρ fun c ρ1=>Wif c (Wt u ρ1 Q) (Q false ρ1)):Wt (bI t u) ρ Q:=by
 obtain⟨c,ρ1,h1,h2,h3⟩:=h;cases c with
 |true=>obtain⟨v,ρ2,h4,q⟩:=h2 rfl;exact⟨_,_,by unfold bI;rw[h1];exact h4,q⟩
 |false=>exact⟨_,_,by unfold bI;rw[h1],h3 rfl⟩
theorem Qe{t u:FT}{Q:Bool->Env->Prop}(h:Wt t ρ fun c ρ1=>Wif c (Q true ρ1) (Wt u ρ1 Q)):Wt (tOr t u) ρ Q:=by
 obtain⟨c,ρ1,h1,h2,h3⟩:=h;cases c with
 |false=>obtain⟨v,ρ2,h4,q⟩:=h3 rfl;exact⟨_,_,by unfold tOr;rw[h1];exact h4,q⟩
 |true=>exact⟨_,_,by unfold tOr;rw[h1],h2 rfl⟩
theorem Q0{Q:Bool->Env->Prop}(q:Q true ρ):Wt aD ρ Q:=⟨_,_,rfl,q⟩
theorem Ql{K:Dat->Env->Prop}(k:K d ρ):Wk ρ (.val d) K:=⟨_,_,rfl,k⟩
theorem QF{K:Dat->Env->Prop}(k:K d ρ):Wk ρ (.new d) K:=⟨_,_,rfl,k⟩
noncomputable def Dg:Dat->Option (List Dat)
 |.lst ds=>some ds
 |.tup ds=>some ds
 |_=>none
theorem QO{Q:List Dat->Env->Prop}(h:We a ρ fun x ρ1=>Wk ρ1 x fun d ρ2=>∃ds,Dg d=some ds/\Q ds ρ2):Wi (iS a) ρ Q:=by
 obtain⟨x,ρ1,h1,d,ρ2,h2,ds,hd,q⟩:=h;cases d with
 |lst xs=>cases hd;exact⟨_,_,by unfold iS;rw[h1];dsimp only;rw[h2],q⟩
 |tup xs=>cases hd;exact⟨_,_,by unfold iS;rw[h1];dsimp only;rw[h2],q⟩
 |_=>cases hd
def pL(v:Val)(K:Int->Prop):Prop:=∃i,v=.val (.int i)/\K i
theorem pL.mk{i:Int}{K:Int->Prop}(k:K i):pL (.val (.int i)) K:=⟨i,rfl,k⟩
theorem Rb{a b:FE}{Q:List Dat->Env->Prop}(h:We a ρ fun v ρ1=>pL v fun i=>We b ρ1 fun w ρ2=>pL w fun j=>Q (ups i (j-i).toNat) ρ2/\j<=BIG/\-BIG<=j/\i<=BIG/\-BIG<=i):Wi (iR2 a b) ρ Q:=by obtain⟨v,ρ1,h1,i,rfl,w,ρ2,h2,j,rfl,q,h3⟩:=h;exact⟨_,_,by unfold iR2;rw[h1];dsimp only;rw[h2];dsimp only;rw[if_pos h3],q⟩
theorem Wp.none{K:Option Int->Env->Prop}(k:K none ρ):Wp none ρ K:=⟨_,_,rfl,k⟩
theorem Wp.some{f:FE}{K:Option Int->Env->Prop}(h:We f ρ fun v ρ1=>pL v fun i=>K (some i) ρ1):Wp (some f) ρ K:=by obtain⟨v,ρ1,h1,i,rfl,k⟩:=h;exact⟨_,_,by unfold part;dsimp only;rw[h1],k⟩
def Wsl(o:Option Dat)(l h:Option Int)(K:Dat->Prop):Prop:=∃xs,o=some (.lst xs)/\K (.lst (cut xs l h))
noncomputable def m9{α:Type}(xs:List α)(lo hi:Option Int):List α:=(xs.drop (sIx xs.length 0 lo)).take (sIx xs.length xs.length hi-sIx xs.length 0 lo)
theorem J_(Aw:α->Dat)(xs:List α)(lo hi:Option Int):cut (xs.map Aw) lo hi=(m9 xs lo hi).map Aw:=by unfold cut m9;rw[MP,<- List.map_drop,<- List.map_take]
theorem Ar(xs:List α)(lo hi:Option Int):(m9 xs lo hi).length<=xs.length:=by unfold m9;rw[NJ,NK];lia
theorem Wsl.A{Aw:α->Dat}{xs:List α}{o:Option Dat}{l h:Option Int}{K:Dat->Prop}(k:K (.lst ((m9 xs l h).map Aw)))(ho:o=some (.lst (xs.map Aw))):Wsl o l h K:=⟨_,ho,by rw[J_];exact k⟩
theorem QY{lo hi:Option FE}(h:We a ρ fun x ρ1=>Wp lo ρ1 fun l ρ2=>Wp hi ρ2 fun h ρ3=>Wsl (pk ρ3 x) l h fun d=>Q (.new d) ρ3):We (eSl a lo hi) ρ Q:=by obtain⟨x,ρ1,h1,l,ρ2,h2,hh,ρ3,h3,xs,h4,q⟩:=h;exact⟨_,_,by unfold eSl;rw[h1];dsimp only;rw[h2];dsimp only;rw[h3];dsimp only;rw[h4],q⟩
theorem Qa(n:N ρ):Ws sNx ρ N R B C:=⟨_,rfl,n⟩
theorem PV{s u:FS}(h:Ws s ρ (fun ρ1=>Ws u ρ1 N R B C) R B C):Ws (aj s u) ρ N R B C:=by
 obtain⟨o,h1,h2⟩:=h;cases o with
 |nx ρ1=>obtain⟨o,h3,h4⟩:=h2;exact⟨o,by unfold aj;rw[h1];exact h3,h4⟩
 |ret r ρ1=>exact⟨.ret r ρ1,by unfold aj;rw[h1],h2⟩
 |bk ρ1=>exact⟨.bk ρ1,by unfold aj;rw[h1],h2⟩
 |ct ρ1=>exact⟨.ct ρ1,by unfold aj;rw[h1],h2⟩
def WA(i:Nat)(v:Val)(ρ:Env)(N:Env->Prop):Prop:=match v with
 |.new d=>N (ρ.set i (.ow d))
 |x=>Wk ρ x fun d ρ2=>N (ρ2.set i (.sh d))
theorem Qg{i:Nat}(h:We e ρ fun v ρ1=>WA i v ρ1 N)(hi:i≠0):Ws (sA i e) ρ N R B C:=by
 obtain⟨v,ρ1,h1,h2⟩:=h;cases v with
 |new d=>exact⟨.nx _,by unfold sA;rw[if_neg hi,h1],h2⟩
 |val d=>obtain⟨d',ρ2,h3,h4⟩:=h2;exact⟨.nx _,by unfold sA;rw[if_neg hi,h1];dsimp only;rw[h3],h4⟩
 |slot j=>obtain⟨d',ρ2,h3,h4⟩:=h2;exact⟨.nx _,by unfold sA;rw[if_neg hi,h1];dsimp only;rw[h3],h4⟩
theorem Qn{i:Nat}{ρ ρ2:Env}(n:N ρ2)(hs:ρ.set i (.ow d)=ρ2):WA i (.new d) ρ N:=by unfold WA;dsimp only;rw[hs];exact n
theorem Qf{i:Nat}{ρ ρ2:Env}(n:N ρ2)(hs:ρ.set i (.sh d)=ρ2):WA i (.val d) ρ N:=⟨_,_,rfl,by show N _;rw[hs];exact n⟩
theorem Rk{is:List Nat}(h:We e ρ fun x ρ1=>Wk ρ1 x fun d ρ2=>∃ds ρ3,d=.tup ds/\sets is ds ρ2=some ρ3/\N ρ3):Ws (sU is e) ρ N R B C:=by obtain⟨x,ρ1,h1,d,ρ2,h2,ds,ρ3,rfl,h3,n⟩:=h;exact⟨.nx _,by unfold sU;rw[h1];dsimp only;rw[h2];dsimp only;rw[h3],n⟩
def WR(v:Val)(ρ:Env)(R:RV->Env->Prop):Prop:=match v with
 |.new d=>R (.new d) ρ
 |.val d=>R (.val d) ρ
 |.slot i=>(∃d,ρ[i]?=some (.ow d)/\R (.new d) (ρ.set i .un))
theorem P4(h:We e ρ fun v ρ1=>WR v ρ1 R):Ws (sR e) ρ N R B C:=by
 obtain⟨v,ρ1,h1,h2⟩:=h;cases v with
 |new d=>exact⟨.ret _ _,by unfold sR;rw[h1],h2⟩
 |val d=>exact⟨.ret _ _,by unfold sR;rw[h1],h2⟩
 |slot i=>obtain⟨d,h3,h4⟩:=h2;exact⟨.ret _ _,by unfold sR;rw[h1];dsimp only;rw[h3],h4⟩
theorem Q8(r:R (.val d) ρ):WR (.val d) ρ R:=r
theorem P6{a b:FS}(h:Wt t ρ fun c ρ1=>Wif c (Ws a ρ1 N R B C) (Ws b ρ1 N R B C)):Ws (sIf t a b) ρ N R B C:=by
 obtain⟨c,ρ1,h1,h2,h3⟩:=h;cases c with
 |true=>obtain⟨o,h4,q⟩:=h2 rfl;exact⟨_,by unfold sIf;rw[h1];exact h4,q⟩
 |false=>obtain⟨o,h4,q⟩:=h3 rfl;exact⟨_,by unfold sIf;rw[h1];exact h4,q⟩
theorem Q7{i:Nat}{ds0:List Dat}(h:We e ρ fun x ρ1=>Wk ρ1 x fun d ρ2=>∃ds ρ3,ρ2[i]?=some (.ow (.lst ds))/\ρ2.set i (.ow (.lst (ds++[d])))=ρ3/\N ρ3/\ds.length<SZ)(h0:ρ[i]?=some (.ow (.lst ds0))):Ws (bJ i e) ρ N R B C:=by obtain⟨x,ρ1,h1,d,ρ2,h2,ds,ρ3,h3,h5,n,h4⟩:=h;exact⟨.nx _,by unfold bJ;rw[h0];dsimp only;rw[h1];dsimp only;rw[h2];dsimp only;rw[h3];dsimp only;rw[if_pos h4,h5],n⟩
theorem As{i:Nat}(n:N ρ3)(h:ρ2[i]?=some (.ow (.lst ds)))(hs:ρ2.set i (.ow (.lst (ds++[d])))=ρ3)(hl:ds.length<SZ):∃ds ρ3,ρ2[i]?=some (.ow (.lst ds))/\ρ2.set i (.ow (.lst (ds++[d])))=ρ3/\N ρ3/\ds.length<SZ:=⟨_,_,h,hs,n,hl⟩
theorem QD(h:Wi it ρ fun ds ρ1=>Ws (dG bd body ds) ρ1 N R B C):Ws (bB it bd body) ρ N R B C:=by obtain⟨ds,ρ1,h1,o,h2,h3⟩:=h;exact⟨o,by unfold bB;rw[h1];exact h2,h3⟩
theorem QS(Aw:α->Dat)(bd:FB)(body:FS)(xs:List α)(ρ:Env)(N:Env->Prop)(R:RV->Env->Prop)(B C:Env->Prop)(I:List α->List α->Env->Prop)
  (h0:I [] xs ρ) (hs:∀p x q ρ,xs=p++x::q->I p (x::q) ρ->∃ρ1,bd (Aw x) ρ=some ρ1/\Ws body ρ1 (fun ρ2=>I (p++[x]) q ρ2) R N (fun ρ2=>I (p++[x]) q ρ2)) (he:∀ρ,I xs [] ρ->N ρ):Ws (dG bd body (xs.map Aw)) ρ N R B C:=by
 have go:∀(q p:List α) (ρ:Env),xs=p++q->I p q ρ->Ws (dG bd body (q.map Aw)) ρ N R B C:=fun q=>by
  induction q with
  |nil=>intro p ρ e i;rw[Nl]at e;exact⟨.nx _,rfl,he ρ (e▸i)⟩
  |cons x q ih=>
   intro p ρ e i;obtain⟨ρ1,h1,o,h2,h3⟩:=hs p x q ρ e i;have e':xs=(p++[x])++q:=by rw[Ny];exact e
   cases o with
   |nx ρ2=>obtain⟨o,h4,h5⟩:=ih _ _ e' h3;exact⟨o,by rw[Mu,dG,h1];dsimp only;rw[h2];exact h4,h5⟩
   |ct ρ2=>obtain⟨o,h4,h5⟩:=ih _ _ e' h3;exact⟨o,by rw[Mu,dG,h1];dsimp only;rw[h2];exact h4,h5⟩
   |bk ρ2=>exact⟨.nx _,by rw[Mu,dG,h1];dsimp only;rw[h2],h3⟩
   |ret r ρ2=>exact⟨.ret _ _,by rw[Mu,dG,h1];dsimp only;rw[h2],h3⟩
 exact go xs [] ρ rfl h0
theorem P7{n m:Nat}{P:RV->Prop}(b:Ws body ρ (fun _=>P (.val .non)) (fun r _=>P r) (fun _=>False) (fun _=>False))(hρ:ds.map Cell.sh++gc m .un=ρ)(h:ds.length=n):Wr (fn n m body ds) P:=by
 obtain⟨o,h1,h2⟩:=b;cases o with
 |nx ρ1=>exact⟨_,by unfold Dm.fn;rw[if_pos h,hρ,h1],h2⟩
 |ret r ρ1=>exact⟨_,by unfold Dm.fn;rw[if_pos h,hρ,h1],h2⟩
 |bk ρ1=>exact h2.elim
 |ct ρ1=>exact h2.elim
theorem P9{o:Option RV}{r:RV}(h:Wr o fun x=>x=r):o=some r:=by obtain⟨x,h1,rfl⟩:=h;exact h1
theorem Au(Aw:α->Dat)(p:α->Bool)(v:α->Dat)(bd:FB)(t:FT)(el:FE)(mk:Cell->Env)(hb:∀d c,bd d (mk c)=some (mk (.sh d))):∀(xs:List α) (c:Cell) (qN:List Dat),
  (∀x∈xs,t (mk (.sh (Aw x)))=some (p x,mk (.sh (Aw x))))->(∀x∈xs,p x=true->We el (mk (.sh (Aw x))) fun w ρ'=>Wk ρ' w fun d ρ''=>d=v x/\ρ''=mk (.sh (Aw x))) ->
  ∃c',cZ bd t el (xs.map Aw) (mk c) qN=some (qN++(xs.filter p).map v,mk c')
 |[],c,qN,_,_=>⟨c,by simp[cZ]⟩
 |x::xs,c,qN,ht,he=>by
  rw[Mu,cZ,hb];dsimp only;rw[ht x MM];have ht':=fun y hy=>ht y (MK _ hy);have he':=fun y hy=>he y (MK _ hy);by_cases h:p x=true
  ·obtain⟨w,ρ',h1,d,ρ'',h2,rfl,rfl⟩:=he x MM h;rw[h];dsimp only;rw[h1];dsimp only;rw[h2];obtain⟨c',e⟩:=Au Aw p v bd t el mk hb xs (.sh (Aw x)) (qN++[v x]) ht' he';exact⟨c',by dsimp only;rw[e,List.filter_cons_of_pos h];simp⟩
  ·rw[Bool.not_eq_true]at h;rw[h];obtain⟨c',e⟩:=Au Aw p v bd t el mk hb xs (.sh (Aw x)) qN ht' he';exact⟨c',by dsimp only;rw[e,List.filter_cons_of_neg (by rw[h];decide)]⟩
theorem Q6(h:Wt t ρ fun c' ρ'=>c'=c/\ρ'=ρ):t ρ=some (c,ρ):=by obtain⟨_,_,h1,rfl,rfl⟩:=h;exact h1
theorem QH(Aw:α->Dat)(xs:List α)(p:α->Bool)(v:α->Dat){it:FI}{k:Nat}{t:FT}{el:FE}{ρ ρ1:Env}{Q:Val->Env->Prop}
  (q:Q (.new (.lst ((xs.filter p).map v))) ρ1) (LX:it ρ=some (xs.map Aw,ρ1)) (hk:ρ1.length=k) (hk0:k≠0) (hl:xs.length<=SZ)
  (ht:∀x∈xs,Wt t (ρ1++[.sh (Aw x)]) fun c ρ'=>c=p x/\ρ'=ρ1++[.sh (Aw x)])
  (he:∀x∈xs,p x=true->We el (ρ1++[.sh (Aw x)]) fun w ρ'=>Wk ρ' w fun d ρ''=>d=v x/\ρ''=ρ1++[.sh (Aw x)]):We (cP it 1 (bN k) t el) ρ Q:=by
 have bd:∀(d:Dat) (c:Cell),bN k d (ρ1++[c])=some (ρ1++[.sh d]):=fun d c=>by unfold bN;rw[if_neg hk0,Oa _ _ (by lia)];simp[hk]
 obtain⟨c',e⟩:=Au Aw p v (bN k) t el (fun c=>ρ1++[c]) bd xs .un [] (fun x hx=>Q6 (ht x hx)) he;refine⟨_,_,?_,q⟩;unfold cP;rw[LX];dsimp only;rw[if_pos (by rw[MP];exact hl)];show (match cZ _ _ _ _ (ρ1++[.un]) [] with | none=>none | some (ys,ρ2)=>some (Val.new (.lst ys),ρ2.take ρ1.length))=_;rw[e];dsimp only;rw[Mw,PD]
theorem Rm(Aw:α->Dat)(xs:List α)(p:α->Bool)(v:α->Dat){i:Nat}{k:Nat}{t:FT}{el:FE}{ρ:Env}{Q:Val->Env->Prop}{d:Dat}
  (q:Q (.new (.lst ((xs.filter p).map v))) ρ) (hi:ρ[i]?=some (.sh d)) (hd:Dg d=some (xs.map Aw)) (hk:ρ.length=k) (hk0:k≠0) (hl:xs.length<=SZ)
  (ht:∀x∈xs,Wt t (ρ++[.sh (Aw x)]) fun c ρ'=>c=p x/\ρ'=ρ++[.sh (Aw x)])
  (he:∀x∈xs,p x=true->We el (ρ++[.sh (Aw x)]) fun w ρ'=>Wk ρ' w fun d ρ''=>d=v x/\ρ''=ρ++[.sh (Aw x)]):We (cU i 1 (bN k) t el) ρ Q:=by
 have LX:iS (eV i) ρ=some (xs.map Aw,ρ):=by
  unfold iS eV;rw[hi];cases d with
  |lst ys=>cases hd;rfl
  |tup ys=>cases hd;rfl
  |_=>cases hd
 obtain⟨a,ρ',h1,h2⟩:=QH Aw xs p v (Q:=Q) q LX hk hk0 hl ht he;refine⟨a,ρ',?_,h2⟩;unfold cU;rw[hi];exact h1
theorem Q2{α β:Type}(Aw:α->Dat)(xs:List α)(f:α->β)(ng:β->Dat){it:FI}{k:Nat}{el:FE}{ρ ρ1:Env}{Q:Val->Env->Prop}
  (q:Q (.new (.lst ((xs.map f).map ng))) ρ1) (LX:it ρ=some (xs.map Aw,ρ1)) (hk:ρ1.length=k) (hk0:k≠0) (hl:xs.length<=SZ)
  (he:∀x∈xs,We el (ρ1++[.sh (Aw x)]) fun w ρ'=>Wk ρ' w fun d ρ''=>d=ng (f x)/\ρ''=ρ1++[.sh (Aw x)]):We (cP it 1 (bN k) aD el) ρ Q:=
 QH Aw xs (fun _=>true) (fun x=>ng (f x)) (by rw[OQ.mpr (fun _ _=>rfl)];rw[Nv]at q;exact q) LX hk hk0 hl (fun _ _=>Q0 ⟨rfl,rfl⟩) fun x hx _=>he x hx
theorem QK{α β:Type}(Aw:α->Dat)(xs:List α)(f:α->β)(ng:β->Dat){i:Nat}{k:Nat}{el:FE}{ρ:Env}{Q:Val->Env->Prop}{d:Dat}
  (q:Q (.new (.lst ((xs.map f).map ng))) ρ) (hi:ρ[i]?=some (.sh d)) (hd:Dg d=some (xs.map Aw)) (hk:ρ.length=k) (hk0:k≠0) (hl:xs.length<=SZ)
  (he:∀x∈xs,We el (ρ++[.sh (Aw x)]) fun w ρ'=>Wk ρ' w fun d ρ''=>d=ng (f x)/\ρ''=ρ++[.sh (Aw x)]):We (cU i 1 (bN k) aD el) ρ Q:=
 Rm Aw xs (fun _=>true) (fun x=>ng (f x)) (by rw[OQ.mpr (fun _ _=>rfl)];rw[Nv]at q;exact q) hi hd hk hk0 hl (fun _ _=>Q0 ⟨rfl,rfl⟩) fun x hx _=>he x hx
theorem Di(i j:Int):gNe (.int i) (.int j)=vB (!decide (i=j)):=by
 have:(i == j)=decide (i=j):=by by_cases h:i=j<;>simp[h]
 show vB (!(i == j))=_;rw[this]
theorem Qy(k:K (.val (.bl (!decide (i=j)))))(ho:o=some (.int i))(hp:p=some (.int j)):Wg2 gNe o p K:=⟨_,_,_,ho,hp,Di i j,k⟩
theorem Ra(k:K (.val (.bl (decide (i<j)))))(ho:o=some (.int i))(hp:p=some (.int j)):Wg2 gLt o p K:=⟨_,_,_,ho,hp,rfl,k⟩
theorem Q5(k:K (.val (.bl (decide (i<=j)))))(ho:o=some (.int i))(hp:p=some (.int j)):Wg2 gLe o p K:=⟨_,_,_,ho,hp,rfl,k⟩
theorem QA(k:K (.val (.bl (decide (j<i)))))(ho:o=some (.int i))(hp:p=some (.int j)):Wg2 gGt o p K:=⟨_,_,_,ho,hp,rfl,k⟩
theorem Q3(k:K (.val (.bl (decide (j<=i)))))(ho:o=some (.int i))(hp:p=some (.int j)):Wg2 gGe o p K:=⟨_,_,_,ho,hp,rfl,k⟩
theorem QV(k:K (.val (.int (i+j))))(ho:o=some (.int i))(hp:p=some (.int j)):Wg2 aL o p K:=⟨_,_,_,ho,hp,rfl,k⟩
theorem Qp{xs ys:List Dat}(k:K (.new (.lst (xs++ys))))(ho:o=some (.lst xs))(hp:p=some (.lst ys))(h:xs.length+ys.length<=SZ):Wg2 aL o p K:=⟨_,_,_,ho,hp,by unfold aL;dsimp only;rw[if_pos h],k⟩
theorem QJ(k:K (.val (.int (i-j))))(ho:o=some (.int i))(hp:p=some (.int j)):Wg2 bD o p K:=⟨_,_,_,ho,hp,rfl,k⟩
theorem Qq(k:K (.val (.int (i % j))))(ho:o=some (.int i))(hp:p=some (.int j))(h:0<j):Wg2 aH o p K:=⟨_,_,_,ho,hp,by unfold aH;dsimp only;rw[if_pos h],k⟩
theorem P5{d e:Dat}{v:Dat}(k:K (.val v))(ho:o=some d)(hp:p=some e)(h:gIx d e=some (.val v)):Wg2 gIx o p K:=⟨_,_,_,ho,hp,h,k⟩
theorem l7(Aw:α->Dat)(xs:List α)(i:Int)(h0:0<=i)(h1:i<xs.length):atI (xs.map Aw) i=some (Aw (xs[i.toNat]'(by omega))):=by unfold atI ixN;rw[MP,if_pos h0,if_pos h1];show (xs.map Aw)[i.toNat]?=_;rw[M0,M7 (by lia)];rfl
theorem Qz{Aw:α->Dat}{xs:List α}{i:Int}(h0:0<=i)(h1:i<xs.length)(k:K (.val (Aw (xs[i.toNat]'(by omega)))))(ho:o=some (.lst (xs.map Aw)))(hp:p=some (.int i)):Wg2 gIx o p K:=
 ⟨_,_,_,ho,hp,by unfold gIx;dsimp only;rw[l7 Aw xs i h0 h1];rfl,k⟩
theorem wm(i:Int)(xs:List Int):inD (.int i) (xs.map Dat.int)=decide (i∈xs):=by
 induction xs with
 |nil=>rfl
 |cons x xs ih=>
  have ih':(xs.map Dat.int).any (fun y=>eqD y (.int i))=decide (i∈xs):=ih;unfold inD;rw[Mu,List.any_cons,ih'];show ((x == i)||_)=_;by_cases h:x=i
  ·simp[h]
  ·have h':¬i=x:=fun z=>h z.symm;simp[h,h']
theorem Av(xs:List Int):(xs.map Dat.int).all (okD 7)=true:=by rw[M3];intro d hd;obtain⟨x,_,rfl⟩:=NB.mp hd;rfl
theorem Rg{i:Int}{xs:List Int}(k:K (.val (.bl (decide (i∈xs)))))(ho:o=some (.int i))(hp:p=some (.lst (xs.map Dat.int))):Wg2 gIn o p K:=
 ⟨_,_,_,ho,hp,by unfold gIn;dsimp only;rw[show okD 8 (.int i)=true from rfl,Av,wm];rfl,k⟩
theorem Rj{i:Int}{xs:List Int}(k:K (.val (.bl (!decide (i∈xs)))))(ho:o=some (.int i))(hp:p=some (.lst (xs.map Dat.int))):Wg2 kF o p K:=
 ⟨_,_,_,ho,hp,by unfold kF;dsimp only;rw[show okD 8 (.int i)=true from rfl,Av,wm];rfl,k⟩
theorem QN{o:Option (List Dat)}(k:K (.val (.int xs.length)))(ho:o=some [.lst xs]):WB bq o K:=⟨_,_,ho,rfl,k⟩
theorem QG{o:Option (List Dat)}(k:K (.val (.int xs.length)))(ho:o=some [.tup xs]):WB bq o K:=⟨_,_,ho,rfl,k⟩
theorem Qh{o:Option Dat}(k:K v)(ho:o=some d)(h:g d=some v):Wg1 g o K:=⟨_,_,ho,h,k⟩
theorem j4{Q:List Dat->Prop}(q:Q xs):∃ds,Dg (.lst xs)=some ds/\Q ds:=⟨_,rfl,q⟩
theorem Dj(xs:List Dat)(h:okD 8 (.lst xs)=true):gEq (.lst xs) (.lst [])=vB xs.isEmpty:=by unfold gEq;rw[h];cases xs<;>rfl
theorem Kc(Aw:α->Dat)(xs:List α)(h:∀x,okD 7 (Aw x)=true):okD 8 (.lst (xs.map Aw))=true:=by unfold okD;rw[M3];intro d hd;obtain⟨x,_,rfl⟩:=NB.mp hd;exact h x
theorem Q4(k:K (.val (.bl xs.isEmpty)))(ho:o=some (.lst xs))(hp:p=some (.lst []))(h:okD 8 (.lst xs)=true):Wg2 gEq o p K:=⟨_,_,_,ho,hp,Dj xs h,k⟩
theorem QB{Aw:α->Dat}{xs:List α}{o:Option (List Dat)}(k:K (.val (.int xs.length)))(ho:o=some [.lst (xs.map Aw)]):WB bq o K:=⟨_,_,ho,by unfold bq;dsimp only;rw[MP],k⟩
theorem qO{ρ ρ1 ρ2:Env}{W:Env->Prop}(h:bd d ρ=some ρ1)(hn:ρ1=ρ2)(w:W ρ2):∃ρ1,bd d ρ=some ρ1/\W ρ1:=⟨ρ1,h,hn▸w⟩
theorem Ax(Aw:α->Dat)(p:α->Bool)(v:α->Dat)(bd:FB)(t:FT)(el:FE)(e0:Env)(env:α->Env)(h0:∀x,bd (Aw x) e0=some (env x))(h1:∀x y,bd (Aw x) (env y)=some (env x)):∀(xs:List α) (qN:List Dat) (e:Env),(e=e0\/∃y,e=env y) ->
  (∀x∈xs,t (env x)=some (p x,env x))->(∀x∈xs,p x=true->We el (env x) fun w ρ'=>Wk ρ' w fun d ρ''=>d=v x/\ρ''=env x) ->
  ∃e',(e'=e0\/∃y,e'=env y)/\cZ bd t el (xs.map Aw) e qN=some (qN++(xs.filter p).map v,e')
 |[],qN,e,he,_,_=>⟨e,he,by simp[cZ]⟩
 |x::xs,qN,e,he,ht,hel=>by
  have hb:bd (Aw x) e=some (env x):=by
   rcases he with rfl | ⟨y,rfl⟩
   ·exact h0 x
   ·exact h1 x y
  rw[Mu,cZ,hb];dsimp only;rw[ht x MM];have ht':=fun y hy=>ht y (MK _ hy);have he':=fun y hy=>hel y (MK _ hy);by_cases h:p x=true
  ·obtain⟨w,ρ',g1,d,ρ'',g2,rfl,rfl⟩:=hel x MM h;rw[h];dsimp only;rw[g1];dsimp only;rw[g2];obtain⟨e',q,z⟩:=Ax Aw p v bd t el e0 env h0 h1 xs (qN++[v x]) _ (.inr ⟨x,rfl⟩) ht' he';exact⟨e',q,by dsimp only;rw[z,List.filter_cons_of_pos h];simp⟩
  ·rw[Bool.not_eq_true]at h;rw[h];obtain⟨e',q,z⟩:=Ax Aw p v bd t el e0 env h0 h1 xs qN _ (.inr ⟨x,rfl⟩) ht' he';exact⟨e',q,by dsimp only;rw[z,List.filter_cons_of_neg (by rw[h];decide)]⟩
theorem Rn{α β:Type}(Aw:α->Dat)(xs:List α)(p:α->Bool)(f:α->β)(ng:β->Dat)(env:α->Env){it:FI}{own:Nat}{bd:FB}{t:FT}{el:FE}{ρ ρ1:Env}{Q:Val->Env->Prop}
  (q:Q (.new (.lst (((xs.filter p).map f).map ng))) ρ1) (LX:it ρ=some (xs.map Aw,ρ1)) (h0:∀x,bd (Aw x) (ρ1++gc own .un)=some (env x)) (h1:∀x y,bd (Aw x) (env y)=some (env x)) (h2:∀x,(env x).take ρ1.length=ρ1) (hl:xs.length<=SZ)
  (ht:∀x∈xs,Wt t (env x) fun c ρ'=>c=p x/\ρ'=env x)
  (he:∀x∈xs,p x=true->We el (env x) fun w ρ'=>Wk ρ' w fun d ρ''=>d=ng (f x)/\ρ''=env x):We (cP it own bd t el) ρ Q:=by
 obtain⟨e',q',e⟩:=Ax Aw p (fun x=>ng (f x)) bd t el _ env h0 h1 xs [] _ (.inl rfl) (fun x hx=>Q6 (ht x hx)) he;refine⟨_,_,?_,q⟩;unfold cP;rw[LX];dsimp only;rw[if_pos (by rw[MP];exact hl),e];dsimp only;rw[Mw,Nv];have:e'.take ρ1.length=ρ1:=by
  rcases q' with rfl | ⟨y,rfl⟩
  ·exact PD
  ·exact h2 y
 rw[this];rfl
theorem yj(p:α->Bool)(xs:List α):bools (xs.map fun x=>Dat.bl (p x))=some (xs.map p):=by
 induction xs with
 |nil=>rfl
 |cons x xs ih=>rw[Mu,bools,ih];rfl
theorem QE(p:α->Bool){xs:List α}{o:Option (List Dat)}(k:K (.val (.bl (xs.all p))))(ho:o=some [.lst (xs.map fun x=>Dat.bl (p x))]):WB rO o K:=⟨_,_,ho,by
 unfold rO;dsimp only;rw[yj];have:(xs.map p).all id=xs.all p:=by rw[PK];rfl
 dsimp only;rw[this],k⟩
theorem Ri(k:K (.val (.bl (!isN d))))(ho:o=some d)(hp:p=some .non):Wg2 r9 o p K:=⟨_,_,_,ho,hp,by cases d<;>rfl,k⟩
theorem QW(k:K (.val (.bl (Dm.isN d))))(ho:o=some d)(hp:p=some .non):Wg2 z7 o p K:=⟨_,_,_,ho,hp,by cases d<;>rfl,k⟩
theorem QL{ρ ρ1:Env}(h:Wi it ρ fun x y=>x=ds/\y=ρ1):it ρ=some (ds,ρ1):=by obtain⟨_,_,h1,rfl,rfl⟩:=h;exact h1
theorem QM{ρ ρ':Env}{v:Val}(h:We e ρ fun x y=>x=v/\y=ρ'):e ρ=some (v,ρ'):=by obtain⟨_,_,h1,rfl,rfl⟩:=h;exact h1
theorem Ro{a:List Nat}{o:Option (List Dat)}(k:K (.val (.int (pK a:Nat))))(ho:o=some [.str a])(h:a≠[]/\a.all e7=true/\a.length<=600):WB mZ o K:=⟨_,_,ho,by unfold mZ;dsimp only;rw[if_pos h],k⟩
theorem P8{a b:List Nat}(k:K (.val (.str (a++b))))(ho:o=some (.str a))(hp:p=some (.str b))(hz:a.length+b.length<=SZ):Wg2 bM o p K:=⟨_,_,_,ho,hp,by unfold bM;dsimp only;rw[if_pos hz],k⟩
theorem Rh{c:Nat}{b:List Nat}(k:K (.val (.bl (b.contains c))))(ho:o=some (.str [c]))(hp:p=some (.str b)):Wg2 Ak o p K:=⟨_,_,_,ho,hp,rfl,k⟩
theorem Rc{a:List Nat}{i:Int}{c:Nat}{m:Nat}(k:K (.val (.str [c])))(ho:o=some (.str a))(hp:p=some (.int i))(hz:a.length<=SZ)(h1:ixN a.length i=some m)(h2:a[m]?=some c):Wg2 yd o p K:=⟨_,_,_,ho,hp,by unfold yd;dsimp only;rw[if_pos hz,h1];dsimp only;rw[h2],k⟩
theorem QC{g:List Nat->Dat->Option RV}{a b:FE}(h:We a ρ fun x ρ1=>∃s,pk ρ1 x=some (.str s)/\We b ρ1 fun y ρ2=>∃d v,pk ρ2 y=some d/\g s d=some v/\Q v.aB ρ2):We (eS2 g a b) ρ Q:=by obtain⟨x,ρ1,e1,s,e2,y,ρ2,e3,d,v,e4,e5,q⟩:=h;exact⟨_,_,by unfold eS2;rw[e1];dsimp only;rw[e2];dsimp only;rw[e3];dsimp only;rw[e4];dsimp only;rw[e5],q⟩
theorem Rp{Q:List Dat->Env->Prop}(h:We a ρ fun x ρ1=>∃s,pk ρ1 x=some (.str s)/\s.all (fun c=>decide (c<128))=true/\Q (s.map fun c=>.str [c]) ρ1):Wi (iTx a) ρ Q:=by obtain⟨x,ρ1,e1,s,e2,e3,q⟩:=h;exact⟨_,_,by unfold iTx;rw[e1];dsimp only;rw[e2];dsimp only;rw[if_pos e3],q⟩
noncomputable def aW(v:Nat):List Nat:=(Nat.toDigits 10 v).map Char.toNat
theorem yk(v:Nat):codes (toString ((v:Nat):Int))=aW v:=by unfold codes aW;show (Nat.repr v).toList.map _=_;rw[Nat.toList_repr]
theorem sJ(v:Nat):pK (aW v)=v:=PySem.W.KIN.val_back v
theorem fk(c:Nat):e7 c=true↔48<=c/\c<=57:=by unfold e7;simp
theorem gM(v:Nat):(aW v).all e7=true:=by
 rw[M3];intro c hc;obtain⟨ch,hch,e⟩:=NB.mp hc;have r:=Nat.isDigit_of_mem_toDigits (by decide) (by decide) hch;rw[fk,<- e];have:(48<=ch.val/\ch.val<=57):=by
  unfold Char.isDigit at r
  simpa using r
 exact⟨by have:=this.1;exact this,by have:=this.2;exact this⟩
theorem l8(v:Nat):aW v≠[]:=by intro e;have h:=PyProof.Rows.tDigits_len_ge 10 v;unfold aW at e;rw[List.map_eq_nil_iff.mp e]at h;exact absurd h (by decide)
theorem cz{v k:Nat}(hk:1<=k)(hv:v<10 ^ k):(aW v).length<=k:=by unfold aW;rw[MP];exact PyProof.Rows.digits10_le hk hv
theorem ym{v:Nat}(h:(aW v).head?=some 48):aW v=[48]:=by
 have dig:PySem.NumText.AllDigits (aW v):=fun c hc=>(fk c).mp (M3.mp (gM v) c hc);have e:=PySem.NumText.toDigits_all (aW v) dig;rw[show Ow (aW v)=v from sJ v]at e;have hl:(aW v).length=(Nat.toDigits 10 v).length:=by unfold aW;rw[MP]
 cases hd:aW v with
 |nil=>exact absurd hd (l8 v)
 |cons c r=>
  rw[hd]at h e hl;cases h;rw[List.dropWhile_cons,if_pos (by decide)]at e;have hr:(r.dropWhile (· == 48)).length<=r.length:=(List.dropWhile_sublist _).length_le;cases hw:r.dropWhile (· == 48) with
  |nil=>rw[hw]at e;rw[e]at hl;have:r=[]:=List.eq_nil_of_length_eq_zero (by simpa using hl);rw[this]
  |cons a b=>
   rw[hw]at e hr;rw[e]at hl;simp at hl hr
   lia
theorem yo:∀c,c<58->[48,49,50,51,52,53,54,55,56,57].contains c=e7 c:=by decide
theorem G4(c:Nat):[48,49,50,51,52,53,54,55,56,57].contains c=e7 c:=by
 by_cases h:c<58
 ·exact yo c h
 ·have h1:e7 c=false:=by
   unfold e7;rw[decide_eq_false (show ¬c<=57 from fun z=>h (Nat.lt_succ_of_le z)),Bool.and_false]
  have h2:[48,49,50,51,52,53,54,55,56,57].contains c=false:=by
   cases q:[48,49,50,51,52,53,54,55,56,57].contains c with
   |false=>rfl
   |true=>
    have m:=List.contains_iff_mem.mp q;have b:∀x∈[48,49,50,51,52,53,54,55,56,57],x<58:=by decide
    exact absurd (b c m) h
  rw[h1,h2]
end
end Dm
namespace P
open Dm
noncomputable def Ay:List Dat->Option RV:=fn 1 0
  (sR (bE (e1 (pF isI) (eV 0)) (bO (e1 (pF isB) (eV 0)))))
noncomputable def iY:List Dat->Option RV:=fn 3 0
  (sR (bE (eF Ay [(eV 0)]) (ak gLe gLe (eV 1) (eV 0) (eV 2))))
noncomputable def uW:List Dat->Option RV:=fn 1 0
  (sR (eF iY [(eV 0),(eC (.int 1)),(eC (.int 10))]))
noncomputable def Az:List Dat->Option RV:=fn 2 0
  (sR (eF iY [(eV 1),(eC (.int 0)),(e2 bD (eV 0) (eC (.int 1)))]))
noncomputable def kQ:List Dat->Option RV:=fn 1 0
  (sR (eF iY [(eV 0),(eC (.int 1)),(eC (.int 6))]))
noncomputable def Dl:List Dat->Option RV:=fn 1 0
  (sR (eF iY [(eV 0),(eC (.int 0)),(e2 bF (eC (.int 10)) (eC (.int 30)))]))
noncomputable def AA:List Dat->Option RV:=fn 2 0
  (aj (sIf (tOr (aV (tV (e1 (pF isT) (eV 1)))) (tV (e2 gNe (eB bq [(eV 1)]) (eC (.int 3))))) (sR (eC (.bl false))) sNx)
  (sR (bE (eF Dl [(e2 gIx (eV 1) (eC (.int 0)))]) (bE (eF Az [(eV 0),(e2 gIx (eV 1) (eC (.int 1)))]) (eF Az [(eV 0),(e2 gIx (eV 1) (eC (.int 2)))])))))
noncomputable def yp:List Dat->Option RV:=fn 2 0
  (sR (bE (eF AA [(eV 0),(eV 1)]) (e2 gLe (e2 gIx (eV 1) (eC (.int 1))) (e2 gIx (eV 1) (eC (.int 2))))))
noncomputable def Dq:List Dat->Option RV:=fn 1 0
  (sR (eB rO [(cP (iR2 (eC (.int 1)) (eB bq [(eV 0)])) 1 (bN 1) aD (e2 gLt (e2 gIx (eV 0) (e2 bD (eV 1) (eC (.int 1)))) (e2 gIx (eV 0) (eV 1))))]))
noncomputable def Dr:List Dat->Option RV:=fn 1 0
  (sIf (aV (tV (eF kQ [(eV 0)]))) (fun _=>none) sNx)
noncomputable def wo:List Dat->Option RV:=fn 3 0
  (sR (cU 0 1 (bN 3) aD (eIf (tV (e2 gEq (eV 3) (e2 gIx (eV 0) (eV 2)))) (e2 gIx (eV 0) (eV 1)) (eV 3))))
noncomputable def iZ:FS:=
  (sIf (tV (e2 gNe (e2 gIx (eV 4) (eV 1)) (e2 gIx (eV 4) (eV 2)))) (sR (e2 aL (eV 3) (eC (.int 1)))) sNx)
noncomputable def wu:List Dat->Option RV:=fn 3 2
  (aj (bB (iEn (eV 0)) (bT [3,4])
  iZ)
  (sR (eC (.int 0))))
noncomputable def nh:FS:=
  (aj (sA 8 (eF wu [(eV 3),(eV 6),(eV 7)]))
  (aj (sIf (tV (e2 gGt (eV 8) (eC (.int 0)))) (bP 3 (e2 bD (eV 8) (eC (.int 1))) (eF wo [(e2 gIx (eV 3) (e2 bD (eV 8) (eC (.int 1)))),(eV 6),(eV 7)])) sNx)
  (bJ 4 (eV 8))))
noncomputable def wz:List Dat->Option RV:=fn 3 6
  (aj (sE (eF Dr [(eV 2)]))
  (aj (sA 3 (cP (iR1 (eV 2)) 1 (bN 9) aD (eB gw [(eV 0)])))
  (aj (sA 4 (aU []))
  (aj (bB (x8 (eV 1)) (bT [5,6,7])
  nh)
  (sR (e1 kJ (eV 4)))))))
noncomputable def gy:List Dat->Option RV:=fn 2 0
  (aj (sIf (tOr (aV (tV (eF uW [(eV 0)]))) (tOr (aV (tV (e1 (pF isL) (eV 1)))) (tV (e2 gGt (eB bq [(eV 1)]) (eC (.int 60)))))) (sR (eC (.bl false))) sNx)
  (aj (sIf (aV (tV (eB rO [(cU 1 1 (bN 2) aD (eF yp [(eV 0),(eV 2)]))]))) (sR (eC (.bl false))) sNx)
  (sR (eF Dq [(cU 1 1 (bN 2) aD (e2 gIx (eV 2) (eC (.int 0))))]))))
noncomputable def cA:List Dat->Option RV:=fn 1 0
  (aj (sIf (tOr (aV (tV (e1 (pF isT) (eV 0)))) (tV (e2 gNe (eB bq [(eV 0)]) (eC (.int 3))))) (sR (eC (.bl false))) sNx)
  (aj (sIf (tOr (aV (tV (eF kQ [(e2 gIx (eV 0) (eC (.int 1)))]))) (aV (tV (eF gy [(e2 gIx (eV 0) (eC (.int 0))),(e2 gIx (eV 0) (eC (.int 2)))])))) (sR (eC (.bl false))) sNx)
  (sR (e2 kF (eC (.int 0)) (eF wz [(e2 gIx (eV 0) (eC (.int 0))),(e2 gIx (eV 0) (eC (.int 2))),(e2 gIx (eV 0) (eC (.int 1)))])))))
noncomputable def wA:List Dat->Option RV:=fn 1 0
  (sIf (aV (tV (eF cA [(eV 0)]))) (fun _=>none) sNx)
noncomputable def dc:List Dat->Bool:=fnX 1 0
  (rIf (aV (tV (eF cA [(eV 0)]))) CO rNo)
noncomputable def EE:List Dat->Option RV:=fn 1 0
  (aj (sIf (tV (e2 gEq (eB bq [(eV 0)]) (eC (.int 0)))) (sR (eC (.str [110,111,110,101]))) sNx)
  (sR (eS2 lB (eC (.str [59,32])) (cU 0 3 (bT [1,2,3]) aD (eJS [(e1 yh (eV 1)),(eC (.str [58])),(e1 yh (eV 2)),(eC (.str [45])),(e1 yh (eV 3))])))))
noncomputable def wB:List Dat->Option RV:=fn 1 0
  (aj (sE (eF wA [(eV 0)]))
  (sR (eS2 lB (eC (.str [32])) (aU [(eB cN [(e2 gIx (eV 0) (eC (.int 0)))]),(eB cN [(e2 gIx (eV 0) (eC (.int 1)))]),(eF EE [(e2 gIx (eV 0) (eC (.int 2)))])]))))
noncomputable def dS:List Dat->Bool:=fnX 1 0
  (lz dc [(eV 0)])
noncomputable def e8:List Dat->Option RV:=fn 1 0
  (aj (sIf (tOr (aV (tV (ak gLe gLe (eC (.int 1)) (eB p6 [(eV 0)]) (eC (.int 60))))) (aV (tV (eB rO [(cP (iTx (eV 0)) 1 (bN 1) aD (e2 Ak (eV 1) (eC (.str [48,49,50,51,52,53,54,55,56,57]))))])))) (sR (eC .non)) sNx)
  (aj (sIf (bI (tV (e2 gEq (e2 yd (eV 0) (eC (.int 0))) (eC (.str [48])))) (tV (e2 gNe (eV 0) (eC (.str [48]))))) (sR (eC .non)) sNx)
  (sR (eB mZ [(eV 0)]))))
noncomputable def wC:List Dat->Option RV:=fn 1 2
  (aj (sA 1 (eS2 d_ (eV 0) (eC (.str [58]))))
  (aj (sA 2 (eS2 d_ (e2 gIx (eV 1) (eC (.int 2))) (eC (.str [45]))))
  (sR (aT [(eF e8 [(e2 gIx (eV 1) (eC (.int 0)))]),(eF e8 [(e2 gIx (eV 2) (eC (.int 0)))]),(eF e8 [(e2 gIx (eV 2) (eC (.int 2)))])]))))
noncomputable def j5:List Dat->Option RV:=fn 1 0
  (aj (sIf (tV (e2 gEq (eV 0) (eC (.str [110,111,110,101])))) (sR (aU [])) sNx)
  (sR (cP (iS (eS2 kN (eV 0) (eC (.str [59,32])))) 1 (bN 1) aD (eF wC [(eV 1)]))))
noncomputable def p_:List Dat->Option RV:=fn 1 3
  (aj (sA 1 (eS2 d_ (eV 0) (eC (.str [32]))))
  (aj (sA 2 (eS2 d_ (e2 gIx (eV 1) (eC (.int 2))) (eC (.str [32]))))
  (aj (sA 3 (aT [(eF e8 [(e2 gIx (eV 1) (eC (.int 0)))]),(eF e8 [(e2 gIx (eV 2) (eC (.int 0)))]),(eF j5 [(e2 gIx (eV 2) (eC (.int 2)))])]))
  (aj (sIf (aV (tV (eF cA [(eV 3)]))) (fun _=>none) sNx)
  (sR (eV 3))))))
noncomputable def dI:List Dat->Bool:=fnX 1 3
  (uT (sA 1 (eS2 d_ (eV 0) (eC (.str [32])))) (uT (sA 2 (eS2 d_ (e2 gIx (eV 1) (eC (.int 2))) (eC (.str [32])))) (uT (sA 3 (aT [(eF e8 [(e2 gIx (eV 1) (eC (.int 0)))]),(eF e8 [(e2 gIx (eV 2) (eC (.int 0)))]),(eF j5 [(e2 gIx (eV 2) (eC (.int 2)))])])) (rIf (aV (tV (eF cA [(eV 3)]))) CO rNo))))
noncomputable def wD:List Dat->Option RV:=fn 2 1
  (aj (sA 2 (e2 aH (e2 br (e2 aL (e2 aL (e2 aH (eV 0) (eC (.int 2147483629))) (e2 br (eC (.int 7919)) (eV 1))) (eC (.int 11))) (eC (.int 48271))) (eC (.int 2147483647))))
  (aj (sA 2 (e2 aH (e2 aL (e2 aH (e2 br (eV 2) (eV 2)) (eC (.int 2147483629))) (e2 br (eC (.int 104729)) (eV 1))) (eC (.int 2147483629))))
  (sR (e2 aH (e2 br (eV 2) (eC (.int 39373))) (eC (.int 2147483647))))))
noncomputable def kR:FS:=
  (aj (sA 6 (e2 aL (e2 br (eV 6) (eC (.int 2147483647))) (eF wD [(eV 0),(e2 aL (e2 br (eC (.int 8)) (eV 5)) (eV 7))])))
  (sA 7 (e2 aL (eV 7) (eC (.int 1)))))
noncomputable def qP:FS:=
  (aj (sA 6 (eV 4))
  (aj (sIf (tV (e2 gGt (eV 4) (eC (.int 0)))) (sA 4 (e2 bC (eV 4) (eV 2))) (aj (sA 6 (eC (.int 0)))
  (aj (sA 7 (eC (.int 0)))
  (whD (tV (e2 gLt (e2 br (eV 7) (eC (.int 30))) (e2 aL (e1 aP (eV 2)) (eC (.int 8)))))
  kR 100))))
  (bJ 3 (e2 aH (eV 6) (eV 2)))))
noncomputable def wF:List Dat->Option RV:=fn 3 5
  (aj (sA 3 (aU []))
  (aj (sA 4 (e2 bD (eV 0) (e2 bF (eC (.int 10)) (eC (.int 18)))))
  (aj (bB (iR1 (eV 1)) (bN 5)
  qP)
  (sR (eV 3)))))
noncomputable def wG:List Dat->Option RV:=fn 4 1
  (aj (sA 4 (e2 aH (eV 2) (eV 0)))
  (aj (sIf (tV (e2 gEq (eV 1) (eC (.int 0)))) (sR (aT [(eV 4),(e2 aH (eV 3) (eV 0))])) sNx)
  (aj (sIf (tV (e2 gEq (eV 1) (eC (.int 1)))) (sR (aT [(e2 aH (eV 2) (eB aX [(eV 0),(eC (.int 3))])),(e2 aH (eV 3) (eB aX [(eV 0),(eC (.int 2))]))])) sNx)
  (aj (sIf (tV (e2 gEq (eV 1) (eC (.int 2)))) (sR (aT [(eV 4),(e2 aH (e2 aL (e2 aL (eV 4) (eC (.int 1))) (e2 bC (e2 aH (eV 3) (eC (.int 5))) (eC (.int 4)))) (eV 0))])) sNx)
  (sR (aT [(eV 4),(e2 aH (e2 aL (eV 4) (e2 br (eC (.int 2)) (e2 aH (eV 3) (eV 0)))) (eV 0))]))))))
noncomputable def qQ:FS:=
  (aj (sU [8,9] (eF wG [(eV 2),(e2 aH (e2 gIx (eV 0) (eC (.int 3))) (eC (.int 4))),(e2 gIx (eV 0) (e2 aL (eC (.int 4)) (e2 br (eC (.int 3)) (eV 7)))),(e2 gIx (eV 0) (e2 aL (eC (.int 5)) (e2 br (eC (.int 3)) (eV 7))))]))
  (aj (bJ 6 (aT [(eV 5),(eB aX [(eV 8),(eV 9)]),(eB a_ [(eV 8),(eV 9)])]))
  (sA 5 (e2 aL (e2 aL (eV 5) (eC (.int 1))) (e2 aH (e2 gIx (eV 0) (e2 aL (eC (.int 6)) (e2 br (eC (.int 3)) (eV 7)))) (eV 4))))))
noncomputable def wH:List Dat->Option RV:=fn 2 8
  (aj (sA 2 (e2 aL (eC (.int 1)) (e2 aH (e2 gIx (eV 0) (eC (.int 0))) (eC (.int 6)))))
  (aj (sIf (tV (e2 gEq (e2 aH (e2 bC (e2 gIx (eV 0) (eC (.int 0))) (eC (.int 6))) (eC (.int 8))) (eC (.int 1)))) (sA 2 (e2 aL (eC (.int 7)) (e2 aH (e2 bC (e2 gIx (eV 0) (eC (.int 0))) (eC (.int 48))) (eC (.int 4))))) sNx)
  (aj (sA 3 (e2 aH (e2 gIx (eV 0) (eC (.int 1))) (eC (.int 13))))
  (aj (sIf (tV (e2 gEq (e2 aH (e2 bC (e2 gIx (eV 0) (eC (.int 1))) (eC (.int 13))) (eC (.int 8))) (eC (.int 1)))) (sA 3 (e2 aL (eC (.int 13)) (e2 aH (e2 bC (e2 gIx (eV 0) (eC (.int 1))) (eC (.int 104))) (eC (.int 48))))) sNx)
  (aj (sA 4 (e2 gIx (aU [(eC (.int 1)),(eC (.int 4)),(e2 bF (eC (.int 10)) (eC (.int 28)))]) (e2 aH (e2 gIx (eV 0) (eC (.int 2))) (eC (.int 3)))))
  (aj (sA 5 (e2 gIx (aU [(eC (.int 0)),(e2 aH (e2 bC (e2 gIx (eV 0) (eC (.int 2))) (eC (.int 12))) (eC (.int 100))),(e2 aH (e2 gIx (eV 0) (eC (.int 3))) (e2 bF (eC (.int 10)) (eC (.int 29))))]) (e2 aH (e2 bC (e2 gIx (eV 0) (eC (.int 2))) (eC (.int 3))) (eC (.int 3)))))
  (aj (sA 6 (aU []))
  (aj (bB (iR1 (eB bf [(eV 3),(eV 1),(e2 bC (e2 bD (eB bq [(eV 0)]) (eC (.int 4))) (eC (.int 3)))])) (bN 7)
  qQ)
  (sR (aT [(eV 2),(eV 6)]))))))))))
noncomputable def sL:List Dat->Option RV:=fn 1 0
  (sR (e2 gIx (aU [(e2 aL (eC (.int 1)) (e2 aH (eV 0) (eC (.int 4)))),(e2 aL (eC (.int 1)) (e2 aH (e2 bC (eV 0) (eC (.int 32))) (eC (.int 6))))]) (eB bR [(e2 gEq (e2 aH (eV 0) (eC (.int 8))) (eC (.int 1)))])))
noncomputable def ni:FS:=
  (aj (sA 8 (e2 gIx (eV 4) (eV 6)))
  (aj (sA 9 (e2 gIx (eV 4) (eV 7)))
  (sA 4 (cU 4 1 (bN 10) aD (eIf (tV (e2 gEq (eV 10) (eV 8))) (eV 9) (eV 10))))))
noncomputable def wI:List Dat->Option RV:=fn 4 6
  (aj (sA 4 (eB gw [(eV 0)]))
  (aj (bB (iS (eV 1)) (bT [5,6,7])
  ni)
  (sR (e2 gEq (e2 gIx (eV 4) (eV 2)) (e2 gIx (eV 4) (eV 3))))))
noncomputable def qR:FS:=
  (aj (sA 6 (cP (iR2 (e2 aL (eV 4) (eC (.int 1))) (eB bq [(eV 1)])) 1 (bN 7) (tV (e2 gEq (e2 gIx (eV 3) (eV 7)) (eV 5))) (e2 gIx (eV 1) (eV 7))))
  (sIf (aV (tV (eF wI [(eV 0),(eV 6),(e2 gIx (e2 gIx (eV 1) (eV 4)) (eC (.int 1))),(e2 gIx (e2 gIx (eV 1) (eV 4)) (eC (.int 2)))]))) (bP 3 (eV 4) (eV 5)) sNx))
noncomputable def nj:FS:=
  (bB (iRd (eV 2) (eC (.int 0)) (e1 bH (eC (.int 1)))) (bN 5)
  qR)
noncomputable def sM:List Dat->Option RV:=fn 3 4
  (aj (sA 3 (e2 br (aU [(eC (.int 0))]) (eB bq [(eV 1)])))
  (aj (bB (iRd (e2 bD (eB bq [(eV 1)]) (eC (.int 1))) (e1 bH (eC (.int 1))) (e1 bH (eC (.int 1)))) (bN 4)
  nj)
  (sR (eV 3))))
noncomputable def nk:List Dat->Option RV:=fn 1 0
  (aj (sIf (tV (e2 gEq (eV 0) (aU []))) (sR (eC (.str [110,111,110,101]))) sNx)
  (sR (eS2 lB (eC (.str [59,32])) (cU 0 1 (bN 1) aD (e2 bM (e2 bM (e2 bM (e2 bM (eB cN [(e2 gIx (eV 1) (eC (.int 0)))]) (eC (.str [58]))) (eB cN [(e2 gIx (eV 1) (eC (.int 1)))])) (eC (.str [45]))) (eB cN [(e2 gIx (eV 1) (eC (.int 2)))]))))))
noncomputable def nu(bG b7:Nat):List Dat->Option RV:=fn 1 3
  (aj (sA 1 (eC .non))
  (aj (sA 2 (eC .non))
  (aj (sUn (sA 2 (eF p_ [(eV 0)])) (mV (lz dI [(eV 0)]) bG 3 (sA 1 (eV 3))))
  (aj (sIf (tV (e2 z7 (eV 1) (eC .non))) (sR (eV 2)) sNx)
  (aj (sIf (tOr (aV (tV (e1 (eZ [bG,b7] [true,false]) (eV 1)))) (tV (e1 (eZ [bG,b7] [false,true]) (eV 1)))) (sR (eC (.str [111,100,100]))) sNx)
  (sR (eC .non)))))))
noncomputable def AB:FS:=
  (sIf (tV (e2 gGe (e2 gIx (eV 3) (eC (.int 2))) (eV 0))) (sR (eC .non)) sNx)
noncomputable def qc:List Dat->Option RV:=fn 3 1
  (aj (sIf (tOr (aV (tV (ak gLe gLe (eC (.int 1)) (eV 0) (eC (.int 10))))) (aV (tV (ak gLe gLe (eC (.int 1)) (eV 1) (eC (.int 6)))))) (sR (eC .non)) sNx)
  (aj (bB (iS (eV 2)) (bN 3)
  AB)
  (aj (sIf (tV (e2 gIn (eC (.int 0)) (eF sM [(eV 0),(eV 2),(eV 1)]))) (sR (eC .non)) sNx)
  (sR (aT [(eV 0),(eV 1),(eV 2)])))))
noncomputable def sN:List Dat->Option RV:=fn 4 2
  (aj (sA 4 (eF nk [(eV 2)]))
  (aj (sA 5 (aU [(e2 bM (e2 bM (eB cN [(eV 0)]) (eC (.str [32]))) (eB cN [(eV 1)])),(e2 bM (e2 bM (e2 bM (e2 bM (eB cN [(eV 0)]) (eC (.str [32,32]))) (eB cN [(eV 1)])) (eC (.str [32]))) (eV 4)),(eV 4),(e2 bM (e2 bM (eB cN [(eV 1)]) (eC (.str [32]))) (eV 4))]))
  (aj (sA 5 (e2 aL (eV 5) (aU [(eC (.str [])),(eC (.str [110,111,110,101])),(eC (.str [51,32,50])),(eC (.str [51,32,50,32]))])))
  (aj (sA 5 (e2 aL (eV 5) (aU [(e2 bM (e2 bM (e2 bM (eC (.str [48])) (eB cN [(eV 0)])) (eC (.str [32,49,32]))) (eV 4)),(e2 bM (eB cN [(eV 0)]) (eC (.str [32,48,49,32,110,111,110,101]))),(eC (.str [49,32,48,32,110,111,110,101])),(eC (.str [49,49,32,50,32,110,111,110,101])),(eC (.str [45,49,32,50,32,110,111,110,101])),(eC (.str [50,32,55,32,110,111,110,101]))])))
  (sR (e2 gIx (e2 aL (eV 5) (aU [(e2 bM (e2 bM (e2 bM (e2 bM (e2 bM (eB cN [(eV 0)]) (eC (.str [32]))) (eB cN [(eV 1)])) (eC (.str [32]))) (eV 4)) (eC (.str [32]))),(eC (.str [49,32,49,32,48,58,48,45,48]))])) (e2 aH (eV 3) (eC (.int 16)))))))))
noncomputable def sO:List Dat->Option RV:=fn 5 1
  (aj (sA 5 (aU [(aT [(eV 0),(eV 1)]),(aT [(eV 0),(eV 1),(eV 2),(eC (.int 0))]),(aU [(eV 0),(eV 1),(eB bw [(eV 2)])]),(aT [(eV 0),(eV 1),(eB aI [(eV 2)])]),(eC .non),(eC (.str [51,32,50,32,110,111,110,101])),(aT [(eC (.int 11)),(eV 1),(eV 2)])]))
  (aj (sA 5 (e2 aL (eV 5) (aU [(aT [(eV 0),(eC (.int 7)),(eV 2)]),(aT [(eV 0),(eC (.int 0)),(eV 2)]),(aT [(eC (.int 0)),(eV 1),(aU [])]),(aT [(eV 0),(eV 1),(eC .non)]),(aT [(eC (.bl true)),(eV 1),(aU [])]),(aT [(eV 0),(eC (.bl true)),(eV 2)])])))
  (aj (sA 5 (e2 aL (eV 5) (aU [(aT [(eV 0),(eV 1),(e2 aL (eV 2) (aU [(eC .non)]))]),(aT [(eV 0),(eV 1),(e2 aL (eV 2) (aU [(aT [(e2 bF (eC (.int 10)) (eC (.int 30))),(eC (.int 0)),(eC (.int 0))])]))]),(aT [(eV 0),(eV 1),(aU [(aT [(eC (.int 1)),(eC (.int 0)),(eV 0)])])]),(eC (.int 7)),(aT [])])))
  (aj (sIf (tV (e2 gGt (eB bq [(eV 3)]) (eB bq [(eV 2)]))) (bJ 5 (aT [(eV 0),(eV 1),(eV 3)])) sNx)
  (sR (e2 gIx (eV 5) (e2 aH (eV 4) (eB bq [(eV 5)]))))))))
noncomputable def sP(bG b7:Nat):List Dat->Option RV:=fn 1 2
  (aj (sA 1 (eC .non))
  (aj (sUn (sE (eF wB [(eV 0)])) (mV (lz dS [(eV 0)]) b7 2 (sA 1 (eV 2))))
  (aj (sIf (tOr (aV (tV (e1 (eZ [bG,b7] [false,true]) (eV 1)))) (aV (tV (e1 (eZ [bG,b7] [true,true]) (eV 1))))) (sR (eC (.bl false))) sNx)
  (sR (bO (e1 (eZ [bG,b7] [true,false]) (eV 1)))))))
noncomputable def AD(bG b7:Nat):FS:=
  (aj (sA 11 (e2 bM (e2 bM (e2 bM (e2 bM (eB cN [(eV 8)]) (eC (.str [32]))) (eB cN [(eV 9)])) (eC (.str [32]))) (eF nk [(eV 10)])))
  (sIf (tV (e2 gNe (eF (nu bG b7) [(eV 11)]) (eF qc [(eV 8),(eV 9),(eV 10)]))) (sR (eC (.bl false))) sNx))
noncomputable def uX(bG b7:Nat):FS:=
  (aj (sA 2 (eF wF [(eV 1),(eC (.int 48)),(e2 bF (eC (.int 10)) (eC (.int 30)))]))
  (aj (sU [3,4] (eF wH [(eSl (eV 2) (some (eC (.int 8))) none),(eC (.int 12))]))
  (aj (sA 5 (eF sL [(e2 gIx (eV 2) (eC (.int 0)))]))
  (aj (sA 6 (eF sM [(eV 3),(eV 4),(eV 5)]))
  (aj (sA 7 (cP (CN (eV 4) (eV 6)) 2 (bT [12,13]) (tV (e2 gGt (eV 13) (eC (.int 0)))) (eV 12)))
  (aj (bB (iS (aU [(aT [(eV 3),(eV 5),(eV 7)]),(aT [(eV 3),(eV 5),(eV 4)]),(aT [(eV 3),(e2 aL (eC (.int 1)) (e2 aH (e2 gIx (eV 2) (eC (.int 1))) (eC (.int 6)))),(eV 7)])])) (bT [8,9,10])
  (AD bG b7))
  (aj (sA 8 (e2 aH (e2 gIx (eV 2) (eC (.int 2))) (eC (.int 13))))
  (aj (sA 11 (e2 bM (e2 bM (e2 bM (e2 bM (eB cN [(eV 8)]) (eC (.str [32]))) (eB cN [(eV 5)])) (eC (.str [32]))) (eF nk [(eV 7)])))
  (aj (sIf (tV (e2 gNe (eF (nu bG b7) [(eV 11)]) (eF qc [(eV 8),(eV 5),(eV 7)]))) (sR (eC (.bl false))) sNx)
  (aj (sIf (tV (e2 r9 (eF (nu bG b7) [(eF sN [(eV 3),(eV 5),(eV 7),(e2 gIx (eV 2) (eC (.int 3)))])]) (eC .non))) (sR (eC (.bl false))) sNx)
  (sIf (aV (tV (eF (sP bG b7) [(eF sO [(eV 3),(eV 5),(eV 7),(eV 4),(e2 gIx (eV 2) (eC (.int 4)))])]))) (sR (eC (.bl false))) sNx)))))))))))
noncomputable def nv(bG b7:Nat):List Dat->Option RV:=fn 1 11
  (aj (bB (iS (e2 aL (eSl (eV 0) none (some (eC (.int 10)))) (aU [(eB bq [(eV 0)])]))) (bN 1)
  (uX bG b7))
  (sR (eC (.bl true))))
end P
local macro_rules|`(tactic|trivial)=>`(tactic|first | (dsimp only[List.set];first | done | rfl) | rfl)
local macro_rules | `(tactic| array_get_dec)=>`(tactic| first | with_reducible refine Dm.PV ?_ | with_reducible refine Dm.O_ ?_ | ((with_reducible apply Dm.N_);(focus rfl)) | ((with_reducible apply Dm.Qm);(focus rfl)) | with_reducible refine Dm.PU ?_ | (refine Dm.Qf ?_ (by trivial)) | (refine Dm.Qn ?_ (by trivial)) | (refine Dm.WA.slot ?_ rfl (by trivial)) | with_reducible refine Dm.Qg ?_ (by decide) | with_reducible refine Dm.P6 ?_ | with_reducible refine Dm.PZ ?_ | with_reducible refine Dm.P1 ?_ | with_reducible refine Dm.Q_ ?_ | with_reducible refine Dm.Qe ?_ | with_reducible refine Dm.Q0 ?_ | (refine Dm.PX ?_) | (refine Dm.pL.mk ?_) | with_reducible refine Dm.Qc ?_ | with_reducible refine Dm.P_ ?_ | with_reducible refine Dm.M_ ?_ | with_reducible refine Dm.m_ ?_ | with_reducible refine Dm.Qj ?_ | with_reducible refine Dm.P0 ?_ | with_reducible refine Dm.Qw ?_ | with_reducible refine Dm.Qu ?_ | with_reducible refine Dm.Qk ?_ | with_reducible refine Dm.We.If ?_ | with_reducible refine Dm.Qv ?_ | with_reducible refine Dm.We.Or ?_ | with_reducible refine Dm.Q9 ?_ | with_reducible refine Dm.QY ?_ | with_reducible refine Dm.We.SlT ?_ | with_reducible refine Dm.Wp.none ?_ | with_reducible refine Dm.Wp.some ?_ | (refine Dm.Wsl.A (Aw:=Dat.int) ?_ rfl) | (refine Dm.Wsl.mk ?_ rfl) | (refine Dm.Qd ?_ rfl (by trivial) (by exact Nat.le_of_ble_eq_true rfl)) | (refine Dm.Ql ?_) | (refine Dm.QF ?_) | (refine Dm.Wk.slot ?_ rfl (by trivial)) | with_reducible refine Dm.We.Dn ?_ | with_reducible refine Dm.We.D1 ?_ | with_reducible refine Dm.Ws.Mm ?_ | (refine Dm.Mn ?_ rfl) | (refine Dm.LY rfl ?_) | (refine Dm.Lf ?_ rfl (by trivial) ?_) | (refine Dm.Q7 ?_ rfl) | (refine Dm.As ?_ rfl (by trivial) ?_) | with_reducible refine Dm.Rk ?_ | (refine Dm.LZ ?_ rfl (by trivial)) | with_reducible refine Dm.P4 ?_ | (refine Dm.WR.new ?_) | (refine Dm.Q8 ?_) | (refine Dm.WR.slot ?_ rfl) | with_reducible refine Dm.Qa ?_ | with_reducible refine Dm.Ws.bk ?_ | with_reducible refine Dm.Ws.ct ?_ | with_reducible refine Dm.Ws.E ?_ | with_reducible refine Dm.QD ?_ | with_reducible refine Dm.QO ?_ | with_reducible refine Dm.Wi.L ?_ | with_reducible refine Dm.Wi.R1 ?_ | with_reducible refine Dm.Rb ?_ | (refine Dm.j4 ?_) | (refine Dm.Lg ?_) | (refine Dm.Wg2.eq ?_ rfl rfl) | (refine Dm.Qy ?_ rfl rfl) | (refine Dm.Q4 ?_ rfl rfl ?_) | (refine Dm.Wg2.Mj ?_ rfl rfl ?_) | (refine Dm.Wg2.eqb ?_ rfl rfl) | (refine Dm.Wg2.neb ?_ rfl rfl) | (refine Dm.Wg2.L5 ?_ rfl rfl) | (refine Dm.Wg2.isb ?_ rfl rfl) | (refine Dm.Ra ?_ rfl rfl) | (refine Dm.Q5 ?_ rfl rfl) | (refine Dm.QA ?_ rfl rfl) | (refine Dm.Q3 ?_ rfl rfl) | (refine Dm.QV ?_ rfl rfl) | (refine Dm.Wg2.Mp ?_ rfl rfl ?_) | (refine Dm.Wg2.Mk ?_ rfl rfl ?_) | (refine Dm.Qp ?_ rfl rfl ?_) | (refine Dm.QJ ?_ rfl rfl) | (refine Dm.Wg2.mul ?_ rfl rfl (by first | exact Or.inl (by decide) | exact Or.inr (by decide))) | (refine Dm.Wg2.mul ?_ rfl rfl ?_) | (refine Dm.Wg2.div ?_ rfl rfl (by decide)) | (refine Dm.Wg2.div ?_ rfl rfl ?_) | (refine Dm.Qq ?_ rfl rfl (by decide)) | (refine Dm.Qq ?_ rfl rfl ?_) | (refine Dm.Wg2.din ?_ rfl rfl) | (refine Dm.Wg2.Mq ?_ rfl rfl) | (refine Dm.Wg2.inP ?_ rfl rfl) | (refine Dm.Wg2.Mr ?_ rfl rfl) | (refine Dm.P5 ?_ rfl rfl rfl) | (refine Dm.QB (Aw:=Dat.int) ?_ rfl) | (refine Dm.QN ?_ rfl) | (refine Dm.QG ?_ rfl) | (refine Dm.WB.min2 ?_ rfl) | (refine Dm.WB.max2 ?_ rfl) | (refine Dm.WB.list ?_ rfl) | (refine Dm.WB.int ?_ rfl) | (refine Dm.WB.sum2 ?_ rfl ?_) | (refine Dm.Wg1.Ms (Aw:=Dat.int) ?_ rfl) | (refine Dm.Qh ?_ rfl rfl))
namespace P
open Dm
section
variable{w:List Nat}{a b:List Nat}{o p:Option Dat}{K:RV->Prop}{R:RV->Env->Prop}{ρ:Env}{gs:List (Int->Int)}{ds:List Dat}{ms:List Int}{N:Env->Prop}{r:List Tie}{s:List Nat}{n:Int}{ts us:List Tie}{B C:Env->Prop}{k:Int}{f:Int->Int}{x y:Int}{α:Type}{t:Tie}
theorem fW(i j:Int):aL (.int i) (.int j)=vI (i+j):=rfl
theorem kT(b:Bool):aO (.bl b)=false:=rfl
theorem iA(b:Int):aO (.int b)=false:=rfl
theorem iB:aO .non=false:=rfl
noncomputable def mixed(cell k:Int):Int:=
 let n1:=(cell % 2147483629+7919*k+11)*48271 % 2147483647
 let n2:=(n1*n1 % 2147483629+104729*k) % 2147483629
 n2*39373 % 2147483647
theorem inB{a m:Int}(h0:0<m)(h1:m<=18446744073709551616):-B64<a % m/\a % m<B64:=by
 have h2:=Int.emod_nonneg a (Int.ne_of_gt h0);have h3:=Int.emod_lt_of_pos a h0;unfold B64
 lia
theorem AE(cell k:Int):wD [.int cell,.int k]=some (.val (.int (mixed cell k))):=by unfold wD mixed;simp(config:={ decide:=true }) only[Dm.fn,Dm.aj,Dm.sA,Dm.sR,Dm.sE,Dm.sU,Dm.sIf,Dm.sNx,Dm.bJ,Dm.bP,Dm.bB,Dm.e1,Dm.e2,Dm.eB,Dm.eAs,Dm.eC,Dm.eV,Dm.aT,Dm.aU,Dm.eF,Dm.eIf,Dm.bE,Dm.bO,Dm.tV,Dm.aV,Dm.bI,Dm.tOr,Dm.aD,Dm.pk,Dm.tk,Dm.pks,Dm.tks,RV.aB,RV.dat,Dm.aO,Dm.aL,Dm.bD,Dm.br,Dm.bC,Dm.aH,Dm.bF,Dm.gLt,Dm.gLe,Dm.gGt,Dm.gGe,Dm.bH,Dm.aP,Dm.bq,Dm.aX,Dm.a_,Dm.bf,Dm.bw,Dm.aI,Dm.bR,Dm.isI,Dm.isB,Dm.isL,Dm.isT,Dm.vB,Dm.vI,Mu,ML,gV,Mt,Mw,Mz,gc,Dp,Dk,MB,Mx,My,MN,if_true,if_false,MI,Dm.iR1,Dm.iR2,Dm.iS,Dm.bN,Dm.bT,Dm.sets,reduceIte,MJ,Dm.ak,ME,MF,MH,MG,true_or,or_true,true_and,and_true,decide_true,decide_false,false_or,or_false,false_and,and_false];rw[if_pos (Or.inl (inB (by decide) (by decide)))];simp(config:={ decide:=true }) only[Dm.fn,Dm.aj,Dm.sA,Dm.sR,Dm.sE,Dm.sU,Dm.sIf,Dm.sNx,Dm.bJ,Dm.bP,Dm.bB,Dm.e1,Dm.e2,Dm.eB,Dm.eAs,Dm.eC,Dm.eV,Dm.aT,Dm.aU,Dm.eF,Dm.eIf,Dm.bE,Dm.bO,Dm.tV,Dm.aV,Dm.bI,Dm.tOr,Dm.aD,Dm.pk,Dm.tk,Dm.pks,Dm.tks,RV.aB,RV.dat,Dm.aO,Dm.aL,Dm.bD,Dm.br,Dm.bC,Dm.aH,Dm.bF,Dm.gLt,Dm.gLe,Dm.gGt,Dm.gGe,Dm.bH,Dm.aP,Dm.bq,Dm.aX,Dm.a_,Dm.bf,Dm.bw,Dm.aI,Dm.bR,Dm.isI,Dm.isB,Dm.isL,Dm.isT,Dm.vB,Dm.vI,Mu,ML,gV,Mt,Mw,Mz,gc,Dp,Dk,MB,Mx,My,MN,if_true,if_false,MI,Dm.iR1,Dm.iR2,Dm.iS,Dm.bN,Dm.bT,Dm.sets,reduceIte,MJ,Dm.ak,ME,MF,MH,MG,true_or,or_true,true_and,and_true,decide_true,decide_false,false_or,or_false,false_and,and_false]
theorem ny(lo:Int):ups lo 0=[]:=rfl
theorem nA(lo:Int)(n:Nat):ups lo (n+1)=Dat.int lo::ups (lo+1) n:=by
 unfold ups;rw[OA,Mu,Nv]
 congr 1
 ·simp
 ·apply Oe;intro i _;simp only[Function.comp,Dat.int.injEq]
  lia
noncomputable abbrev Z30:Int:=1000000000000000000000000000000
noncomputable def draw(cell k:Int):Int:=((mixed cell (8*k+0)*2147483647+mixed cell (8*k+1))*2147483647+mixed cell (8*k+2))*2147483647+mixed cell (8*k+3)
noncomputable def nums(cell:Int):Nat->Int->Int->List Int
 |0,_,_=>[]
 |n+1,k,left=>if 0<left then (left % Z30)::nums cell n (k+1) (left / Z30) else (draw cell k % Z30)::nums cell n (k+1) left
theorem sQ(cell:Int):∀n k left,(nums cell n k left).length=n
 |0,_,_=>rfl
 |n+1,k,left=>by unfold nums;split<;>simp[sQ cell n]
theorem G5:bits Z30=100:=by decide
theorem Ke(cell many left k:Int)(qN:Dat) :
  whD (tV (e2 gLt (e2 br (eV 7) (eC (.int 30))) (e2 aL (e1 aP (eV 2)) (eC (.int 8))))) kR 100
   [.sh (.int cell),.sh (.int many),.sh (.int Z30),.ow qN,.sh (.int left),.sh (.int k),.sh (.int 0),.sh (.int 0)] =
  some (.nx [.sh (.int cell),.sh (.int many),.sh (.int Z30),.ow qN,.sh (.int left),.sh (.int k),.sh (.int (draw cell k)),.sh (.int 4)]):=by
 have bt:=G5;have one:∀(n:Nat) (num:Int) (t:Int),t=0\/t=1\/t=2\/t=3 ->
   whD (tV (e2 gLt (e2 br (eV 7) (eC (.int 30))) (e2 aL (e1 aP (eV 2)) (eC (.int 8))))) kR (n+1)
    [.sh (.int cell),.sh (.int many),.sh (.int Z30),.ow qN,.sh (.int left),.sh (.int k),.sh (.int num),.sh (.int t)] =
   whD (tV (e2 gLt (e2 br (eV 7) (eC (.int 30))) (e2 aL (e1 aP (eV 2)) (eC (.int 8))))) kR n
    [.sh (.int cell),.sh (.int many),.sh (.int Z30),.ow qN,.sh (.int left),.sh (.int k),.sh (.int (num*2147483647+mixed cell (8*k+t))),.sh (.int (t+1))]:=by
  intro n num t ht;rw[whD];have lt:(t*30<100+8)=True:=by simp only[eq_iff_iff,iff_true];lia
  have test:tV (e2 gLt (e2 br (eV 7) (eC (.int 30))) (e2 aL (e1 aP (eV 2)) (eC (.int 8)))) [.sh (.int cell),.sh (.int many),.sh (.int Z30),.ow qN,.sh (.int left),.sh (.int k),.sh (.int num),.sh (.int t)] =
    some (true,[.sh (.int cell),.sh (.int many),.sh (.int Z30),.ow qN,.sh (.int left),.sh (.int k),.sh (.int num),.sh (.int t)]):=by
   simp(config:={ decide:=true }) only[Dm.fn,Dm.aj,Dm.sA,Dm.sR,Dm.sE,Dm.sU,Dm.sIf,Dm.sNx,Dm.bJ,Dm.bP,Dm.bB,Dm.e1,Dm.e2,Dm.eB,Dm.eAs,Dm.eC,Dm.eV,Dm.aT,Dm.aU,Dm.eF,Dm.eIf,Dm.bE,Dm.bO,Dm.tV,Dm.aV,Dm.bI,Dm.tOr,Dm.aD,Dm.pk,Dm.tk,Dm.pks,Dm.tks,RV.aB,RV.dat,Dm.aO,Dm.aL,Dm.bD,Dm.br,Dm.bC,Dm.aH,Dm.bF,Dm.gLt,Dm.gLe,Dm.gGt,Dm.gGe,Dm.bH,Dm.aP,Dm.bq,Dm.aX,Dm.a_,Dm.bf,Dm.bw,Dm.aI,Dm.bR,Dm.isI,Dm.isB,Dm.isL,Dm.isT,Dm.vB,Dm.vI,Mu,ML,gV,Mt,Mw,Mz,gc,Dp,Dk,MB,Mx,My,MN,if_true,if_false,MI,Dm.iR1,Dm.iR2,Dm.iS,Dm.bN,Dm.bT,Dm.sets,reduceIte,MJ,Dm.ak,ME,MF,MH,MG,true_or,or_true,true_and,and_true,decide_true,decide_false,false_or,or_false,false_and,and_false];rw[bt];simp only[lt,decide_true]
  rw[test];have body:kR [.sh (.int cell),.sh (.int many),.sh (.int Z30),.ow qN,.sh (.int left),.sh (.int k),.sh (.int num),.sh (.int t)] =
    some (.nx [.sh (.int cell),.sh (.int many),.sh (.int Z30),.ow qN,.sh (.int left),.sh (.int k),.sh (.int (num*2147483647+mixed cell (8*k+t))),.sh (.int (t+1))]):=by
   unfold kR;simp(config:={ decide:=true }) only[Dm.fn,Dm.aj,Dm.sA,Dm.sR,Dm.sE,Dm.sU,Dm.sIf,Dm.sNx,Dm.bJ,Dm.bP,Dm.bB,Dm.e1,Dm.e2,Dm.eB,Dm.eAs,Dm.eC,Dm.eV,Dm.aT,Dm.aU,Dm.eF,Dm.eIf,Dm.bE,Dm.bO,Dm.tV,Dm.aV,Dm.bI,Dm.tOr,Dm.aD,Dm.pk,Dm.tk,Dm.pks,Dm.tks,RV.aB,RV.dat,Dm.aO,Dm.aL,Dm.bD,Dm.br,Dm.bC,Dm.aH,Dm.bF,Dm.gLt,Dm.gLe,Dm.gGt,Dm.gGe,Dm.bH,Dm.aP,Dm.bq,Dm.aX,Dm.a_,Dm.bf,Dm.bw,Dm.aI,Dm.bR,Dm.isI,Dm.isB,Dm.isL,Dm.isT,Dm.vB,Dm.vI,Mu,ML,gV,Mt,Mw,Mz,gc,Dp,Dk,MB,Mx,My,MN,if_true,if_false,MI,Dm.iR1,Dm.iR2,Dm.iS,Dm.bN,Dm.bT,Dm.sets,reduceIte,MJ,Dm.ak,ME,MF,MH,MG,true_or,or_true,true_and,and_true,decide_true,decide_false,false_or,or_false,false_and,and_false];rw[AE];simp(config:={ decide:=true }) only[Dm.fn,Dm.aj,Dm.sA,Dm.sR,Dm.sE,Dm.sU,Dm.sIf,Dm.sNx,Dm.bJ,Dm.bP,Dm.bB,Dm.e1,Dm.e2,Dm.eB,Dm.eAs,Dm.eC,Dm.eV,Dm.aT,Dm.aU,Dm.eF,Dm.eIf,Dm.bE,Dm.bO,Dm.tV,Dm.aV,Dm.bI,Dm.tOr,Dm.aD,Dm.pk,Dm.tk,Dm.pks,Dm.tks,RV.aB,RV.dat,Dm.aO,Dm.aL,Dm.bD,Dm.br,Dm.bC,Dm.aH,Dm.bF,Dm.gLt,Dm.gLe,Dm.gGt,Dm.gGe,Dm.bH,Dm.aP,Dm.bq,Dm.aX,Dm.a_,Dm.bf,Dm.bw,Dm.aI,Dm.bR,Dm.isI,Dm.isB,Dm.isL,Dm.isT,Dm.vB,Dm.vI,Mu,ML,gV,Mt,Mw,Mz,gc,Dp,Dk,MB,Mx,My,MN,if_true,if_false,MI,Dm.iR1,Dm.iR2,Dm.iS,Dm.bN,Dm.bT,Dm.sets,reduceIte,MJ,Dm.ak,ME,MF,MH,MG,true_or,or_true,true_and,and_true,decide_true,decide_false,false_or,or_false,false_and,and_false]
  dsimp only;rw[body]
 rw[one 99 0 0 (by lia),one 98 _ (0+1) (by lia),one 97 _ (0+1+1) (by lia),one 96 _ (0+1+1+1) (by lia)];rw[whD];have test:∀num,tV (e2 gLt (e2 br (eV 7) (eC (.int 30))) (e2 aL (e1 aP (eV 2)) (eC (.int 8)))) [.sh (.int cell),.sh (.int many),.sh (.int Z30),.ow qN,.sh (.int left),.sh (.int k),.sh (.int num),.sh (.int (0+1+1+1+1))] =
    some (false,[.sh (.int cell),.sh (.int many),.sh (.int Z30),.ow qN,.sh (.int left),.sh (.int k),.sh (.int num),.sh (.int (0+1+1+1+1))]):=by
  intro num;simp(config:={ decide:=true }) only[Dm.fn,Dm.aj,Dm.sA,Dm.sR,Dm.sE,Dm.sU,Dm.sIf,Dm.sNx,Dm.bJ,Dm.bP,Dm.bB,Dm.e1,Dm.e2,Dm.eB,Dm.eAs,Dm.eC,Dm.eV,Dm.aT,Dm.aU,Dm.eF,Dm.eIf,Dm.bE,Dm.bO,Dm.tV,Dm.aV,Dm.bI,Dm.tOr,Dm.aD,Dm.pk,Dm.tk,Dm.pks,Dm.tks,RV.aB,RV.dat,Dm.aO,Dm.aL,Dm.bD,Dm.br,Dm.bC,Dm.aH,Dm.bF,Dm.gLt,Dm.gLe,Dm.gGt,Dm.gGe,Dm.bH,Dm.aP,Dm.bq,Dm.aX,Dm.a_,Dm.bf,Dm.bw,Dm.aI,Dm.bR,Dm.isI,Dm.isB,Dm.isL,Dm.isT,Dm.vB,Dm.vI,Mu,ML,gV,Mt,Mw,Mz,gc,Dp,Dk,MB,Mx,My,MN,if_true,if_false,MI,Dm.iR1,Dm.iR2,Dm.iS,Dm.bN,Dm.bT,Dm.sets,reduceIte,MJ,Dm.ak,ME,MF,MH,MG,true_or,or_true,true_and,and_true,decide_true,decide_false,false_or,or_false,false_and,and_false]
 rw[test];simp only[draw,Int.zero_mul,Int.zero_add];rfl
theorem Dt(cell many left k:Int)(qN:List Dat)(c5 c6 c7:Cell)(hl:qN.length<SZ) :
  ∃c6' c7',qP [.sh (.int cell),.sh (.int many),.sh (.int Z30),.ow (.lst qN),.sh (.int left),.sh (.int k),c6,c7] =
   some (.nx [.sh (.int cell),.sh (.int many),.sh (.int Z30),.ow (.lst (qN++[.int (if 0<left then left % Z30 else draw cell k % Z30)])),.sh (.int (if 0<left then left / Z30 else left)),.sh (.int k),c6',c7']):=by
 unfold qP;by_cases h:0<left
 ·refine⟨.sh (.int left),c7,?_⟩;simp(config:={ decide:=true }) only[Dm.fn,Dm.aj,Dm.sA,Dm.sR,Dm.sE,Dm.sU,Dm.sIf,Dm.sNx,Dm.bJ,Dm.bP,Dm.bB,Dm.e1,Dm.e2,Dm.eB,Dm.eAs,Dm.eC,Dm.eV,Dm.aT,Dm.aU,Dm.eF,Dm.eIf,Dm.bE,Dm.bO,Dm.tV,Dm.aV,Dm.bI,Dm.tOr,Dm.aD,Dm.pk,Dm.tk,Dm.pks,Dm.tks,RV.aB,RV.dat,Dm.aO,Dm.aL,Dm.bD,Dm.br,Dm.bC,Dm.aH,Dm.bF,Dm.gLt,Dm.gLe,Dm.gGt,Dm.gGe,Dm.bH,Dm.aP,Dm.bq,Dm.aX,Dm.a_,Dm.bf,Dm.bw,Dm.aI,Dm.bR,Dm.isI,Dm.isB,Dm.isL,Dm.isT,Dm.vB,Dm.vI,Mu,ML,gV,Mt,Mw,Mz,gc,Dp,Dk,MB,Mx,My,MN,if_true,if_false,MI,Dm.iR1,Dm.iR2,Dm.iS,Dm.bN,Dm.bT,Dm.sets,reduceIte,MJ,Dm.ak,ME,MF,MH,MG,true_or,or_true,true_and,and_true,decide_true,decide_false,false_or,or_false,false_and,and_false];simp only[h,if_true,decide_true];simp(config:={ decide:=true }) only[Dm.fn,Dm.aj,Dm.sA,Dm.sR,Dm.sE,Dm.sU,Dm.sIf,Dm.sNx,Dm.bJ,Dm.bP,Dm.bB,Dm.e1,Dm.e2,Dm.eB,Dm.eAs,Dm.eC,Dm.eV,Dm.aT,Dm.aU,Dm.eF,Dm.eIf,Dm.bE,Dm.bO,Dm.tV,Dm.aV,Dm.bI,Dm.tOr,Dm.aD,Dm.pk,Dm.tk,Dm.pks,Dm.tks,RV.aB,RV.dat,Dm.aO,Dm.aL,Dm.bD,Dm.br,Dm.bC,Dm.aH,Dm.bF,Dm.gLt,Dm.gLe,Dm.gGt,Dm.gGe,Dm.bH,Dm.aP,Dm.bq,Dm.aX,Dm.a_,Dm.bf,Dm.bw,Dm.aI,Dm.bR,Dm.isI,Dm.isB,Dm.isL,Dm.isT,Dm.vB,Dm.vI,Mu,ML,gV,Mt,Mw,Mz,gc,Dp,Dk,MB,Mx,My,MN,if_true,if_false,MI,Dm.iR1,Dm.iR2,Dm.iS,Dm.bN,Dm.bT,Dm.sets,reduceIte,MJ,Dm.ak,ME,MF,MH,MG,true_or,or_true,true_and,and_true,decide_true,decide_false,false_or,or_false,false_and,and_false];simp only[hl,if_true]
 ·refine⟨.sh (.int (draw cell k)),.sh (.int 4),?_⟩;simp(config:={ decide:=true }) only[Dm.fn,Dm.aj,Dm.sA,Dm.sR,Dm.sE,Dm.sU,Dm.sIf,Dm.sNx,Dm.bJ,Dm.bP,Dm.bB,Dm.e1,Dm.e2,Dm.eB,Dm.eAs,Dm.eC,Dm.eV,Dm.aT,Dm.aU,Dm.eF,Dm.eIf,Dm.bE,Dm.bO,Dm.tV,Dm.aV,Dm.bI,Dm.tOr,Dm.aD,Dm.pk,Dm.tk,Dm.pks,Dm.tks,RV.aB,RV.dat,Dm.aO,Dm.aL,Dm.bD,Dm.br,Dm.bC,Dm.aH,Dm.bF,Dm.gLt,Dm.gLe,Dm.gGt,Dm.gGe,Dm.bH,Dm.aP,Dm.bq,Dm.aX,Dm.a_,Dm.bf,Dm.bw,Dm.aI,Dm.bR,Dm.isI,Dm.isB,Dm.isL,Dm.isT,Dm.vB,Dm.vI,Mu,ML,gV,Mt,Mw,Mz,gc,Dp,Dk,MB,Mx,My,MN,if_true,if_false,MI,Dm.iR1,Dm.iR2,Dm.iS,Dm.bN,Dm.bT,Dm.sets,reduceIte,MJ,Dm.ak,ME,MF,MH,MG,true_or,or_true,true_and,and_true,decide_true,decide_false,false_or,or_false,false_and,and_false];simp only[h,if_false,decide_false];simp(config:={ decide:=true }) only[Dm.fn,Dm.aj,Dm.sA,Dm.sR,Dm.sE,Dm.sU,Dm.sIf,Dm.sNx,Dm.bJ,Dm.bP,Dm.bB,Dm.e1,Dm.e2,Dm.eB,Dm.eAs,Dm.eC,Dm.eV,Dm.aT,Dm.aU,Dm.eF,Dm.eIf,Dm.bE,Dm.bO,Dm.tV,Dm.aV,Dm.bI,Dm.tOr,Dm.aD,Dm.pk,Dm.tk,Dm.pks,Dm.tks,RV.aB,RV.dat,Dm.aO,Dm.aL,Dm.bD,Dm.br,Dm.bC,Dm.aH,Dm.bF,Dm.gLt,Dm.gLe,Dm.gGt,Dm.gGe,Dm.bH,Dm.aP,Dm.bq,Dm.aX,Dm.a_,Dm.bf,Dm.bw,Dm.aI,Dm.bR,Dm.isI,Dm.isB,Dm.isL,Dm.isT,Dm.vB,Dm.vI,Mu,ML,gV,Mt,Mw,Mz,gc,Dp,Dk,MB,Mx,My,MN,if_true,if_false,MI,Dm.iR1,Dm.iR2,Dm.iS,Dm.bN,Dm.bT,Dm.sets,reduceIte,MJ,Dm.ak,ME,MF,MH,MG,true_or,or_true,true_and,and_true,decide_true,decide_false,false_or,or_false,false_and,and_false];rw[Ke];simp(config:={ decide:=true }) only[Dm.fn,Dm.aj,Dm.sA,Dm.sR,Dm.sE,Dm.sU,Dm.sIf,Dm.sNx,Dm.bJ,Dm.bP,Dm.bB,Dm.e1,Dm.e2,Dm.eB,Dm.eAs,Dm.eC,Dm.eV,Dm.aT,Dm.aU,Dm.eF,Dm.eIf,Dm.bE,Dm.bO,Dm.tV,Dm.aV,Dm.bI,Dm.tOr,Dm.aD,Dm.pk,Dm.tk,Dm.pks,Dm.tks,RV.aB,RV.dat,Dm.aO,Dm.aL,Dm.bD,Dm.br,Dm.bC,Dm.aH,Dm.bF,Dm.gLt,Dm.gLe,Dm.gGt,Dm.gGe,Dm.bH,Dm.aP,Dm.bq,Dm.aX,Dm.a_,Dm.bf,Dm.bw,Dm.aI,Dm.bR,Dm.isI,Dm.isB,Dm.isL,Dm.isT,Dm.vB,Dm.vI,Mu,ML,gV,Mt,Mw,Mz,gc,Dp,Dk,MB,Mx,My,MN,if_true,if_false,MI,Dm.iR1,Dm.iR2,Dm.iS,Dm.bN,Dm.bT,Dm.sets,reduceIte,MJ,Dm.ak,ME,MF,MH,MG,true_or,or_true,true_and,and_true,decide_true,decide_false,false_or,or_false,false_and,and_false];simp only[hl,if_true]
theorem wJ(cell many:Int):∀(n:Nat) (k left:Int) (qN:List Dat) (c5 c6 c7:Cell),qN.length+n<=SZ ->
  ∃left' c5' c6' c7',dG (bN 5) qP (ups k n) [.sh (.int cell),.sh (.int many),.sh (.int Z30),.ow (.lst qN),.sh (.int left),c5,c6,c7] =
   some (.nx [.sh (.int cell),.sh (.int many),.sh (.int Z30),.ow (.lst (qN++(nums cell n k left).map Dat.int)),.sh (.int left'),c5',c6',c7'])
 |0,k,left,qN,c5,c6,c7,h=>⟨left,c5,c6,c7,by rw[ny,dG];simp[nums]⟩
 |n+1,k,left,qN,c5,c6,c7,h=>by
  rw[nA,dG];have hb:bN 5 (.int k) [.sh (.int cell),.sh (.int many),.sh (.int Z30),.ow (.lst qN),.sh (.int left),c5,c6,c7]=some [.sh (.int cell),.sh (.int many),.sh (.int Z30),.ow (.lst qN),.sh (.int left),.sh (.int k),c6,c7]:=rfl;rw[hb];dsimp only;obtain⟨d6,d7,e⟩:=Dt cell many left k qN c5 c6 c7 (by lia);rw[e];dsimp only;obtain⟨l',a5,a6,a7,e2⟩:=wJ cell many n (k+1) (if 0<left then left / Z30 else left) (qN++[.int (if 0<left then left % Z30 else draw cell k % Z30)]) (.sh (.int k)) d6 d7 (by simp;lia);refine⟨l',a5,a6,a7,?_⟩;rw[e2];have:qN++(nums cell (n+1) k left).map Dat.int=qN++[.int (if 0<left then left % Z30 else draw cell k % Z30)]++(nums cell n (k+1) (if 0<left then left / Z30 else left)).map Dat.int:=by
   conv=>lhs;unfold nums
   by_cases h0:0<left
   ·simp[h0]
   ·simp[h0]
  rw[this]
noncomputable def numsOf(cell:Int)(n:Nat):List Int:=nums cell n 0 (cell-1000000000000000000)
theorem uY(cell:Int)(n:Nat)(hn:n<=1000):wF [.int cell,.int n,.int Z30]=some (.new (.lst ((numsOf cell n).map Dat.int))):=by
 unfold wF;obtain⟨l',a5,a6,a7,e⟩:=wJ cell n n 0 (cell-1000000000000000000) [] .un .un .un (by simp[SZ];lia);have p18:(10:Int) ^ (18:Int).toNat=1000000000000000000:=by decide
 have hb:((n:Int)<=BIG/\-BIG<=(n:Int))=True:=by simp only[eq_iff_iff,iff_true];unfold BIG;lia
 have hs:(0<=SZ)=True:=by simp
 simp(config:={ decide:=true }) only[Dm.fn,Dm.aj,Dm.sA,Dm.sR,Dm.sE,Dm.sU,Dm.sIf,Dm.sNx,Dm.bJ,Dm.bP,Dm.bB,Dm.e1,Dm.e2,Dm.eB,Dm.eAs,Dm.eC,Dm.eV,Dm.aT,Dm.aU,Dm.eF,Dm.eIf,Dm.bE,Dm.bO,Dm.tV,Dm.aV,Dm.bI,Dm.tOr,Dm.aD,Dm.pk,Dm.tk,Dm.pks,Dm.tks,RV.aB,RV.dat,Dm.aO,Dm.aL,Dm.bD,Dm.br,Dm.bC,Dm.aH,Dm.bF,Dm.gLt,Dm.gLe,Dm.gGt,Dm.gGe,Dm.bH,Dm.aP,Dm.bq,Dm.aX,Dm.a_,Dm.bf,Dm.bw,Dm.aI,Dm.bR,Dm.isI,Dm.isB,Dm.isL,Dm.isT,Dm.vB,Dm.vI,Mu,ML,gV,Mt,Mw,Mz,gc,Dp,Dk,MB,Mx,My,MN,if_true,if_false,MI,Dm.iR1,Dm.iR2,Dm.iS,Dm.bN,Dm.bT,Dm.sets,reduceIte,MJ,Dm.ak,ME,MF,MH,MG,true_or,or_true,true_and,and_true,decide_true,decide_false,false_or,or_false,false_and,and_false];simp only[p18,hb,hs,if_true,NF];rw[Mw]at e;unfold numsOf;rw[e];simp(config:={ decide:=true }) only[Dm.fn,Dm.aj,Dm.sA,Dm.sR,Dm.sE,Dm.sU,Dm.sIf,Dm.sNx,Dm.bJ,Dm.bP,Dm.bB,Dm.e1,Dm.e2,Dm.eB,Dm.eAs,Dm.eC,Dm.eV,Dm.aT,Dm.aU,Dm.eF,Dm.eIf,Dm.bE,Dm.bO,Dm.tV,Dm.aV,Dm.bI,Dm.tOr,Dm.aD,Dm.pk,Dm.tk,Dm.pks,Dm.tks,RV.aB,RV.dat,Dm.aO,Dm.aL,Dm.bD,Dm.br,Dm.bC,Dm.aH,Dm.bF,Dm.gLt,Dm.gLe,Dm.gGt,Dm.gGe,Dm.bH,Dm.aP,Dm.bq,Dm.aX,Dm.a_,Dm.bf,Dm.bw,Dm.aI,Dm.bR,Dm.isI,Dm.isB,Dm.isL,Dm.isT,Dm.vB,Dm.vI,Mu,ML,gV,Mt,Mw,Mz,gc,Dp,Dk,MB,Mx,My,MN,if_true,if_false,MI,Dm.iR1,Dm.iR2,Dm.iS,Dm.bN,Dm.bT,Dm.sets,reduceIte,MJ,Dm.ak,ME,MF,MH,MG,true_or,or_true,true_and,and_true,decide_true,decide_false,false_or,or_false,false_and,and_false]
structure Tie where
 m:Int
 a:Int
 b:Int
noncomputable def bS(t:Tie):Dat:=.tup [.int t.m,.int t.a,.int t.b]
noncomputable def av(r:List Tie):Dat:=.lst (r.map bS)
theorem eq_int(i j:Int):gEq (.int i) (.int j)=vB (decide (i=j)):=by
 have:(i == j)=decide (i=j):=by by_cases h:i=j<;>simp[h]
 show vB (i == j)=_;rw[this]
theorem ne_int(i j:Int):gNe (.int i) (.int j)=vB (!decide (i=j)):=by
 have:(i == j)=decide (i=j):=by by_cases h:i=j<;>simp[h]
 show vB (!(i == j))=_;rw[this]
theorem cg(x n:Int)(h:1<=n):0<=x % n/\x % n<n:=⟨Int.emod_nonneg x (by lia),Int.emod_lt_of_pos x (by lia)⟩
theorem Kf(n:Int)(hn:1<=n)(hn2:n<=10)(kind one other:Int):∃a b,wG [.int n,.int kind,.int one,.int other]=some (.val (.tup [.int a,.int b]))/\0<=a/\a<n/\0<=b/\b<n:=by
 have h0:(0<n)=True:=by simp only[eq_iff_iff,iff_true];lia
 have z2:(2<=SZ)=True:=by simp[SZ]
 have m1:∀x:Int,0<=x % n/\x % n<n:=fun x=>cg x n hn;unfold wG;by_cases k0:kind=0
 ·refine⟨one % n,other % n,?_,(m1 _).1,(m1 _).2,(m1 _).1,(m1 _).2⟩;subst k0;simp(config:={ decide:=true }) only[h0,z2,eq_int,Dm.fn,Dm.aj,Dm.sA,Dm.sR,Dm.sE,Dm.sU,Dm.sIf,Dm.sNx,Dm.bJ,Dm.bP,Dm.bB,Dm.e1,Dm.e2,Dm.eB,Dm.eAs,Dm.eC,Dm.eV,Dm.aT,Dm.aU,Dm.eF,Dm.eIf,Dm.bE,Dm.bO,Dm.tV,Dm.aV,Dm.bI,Dm.tOr,Dm.aD,Dm.pk,Dm.tk,Dm.pks,Dm.tks,RV.aB,RV.dat,Dm.aO,Dm.aL,Dm.bD,Dm.br,Dm.bC,Dm.aH,Dm.bF,Dm.gLt,Dm.gLe,Dm.gGt,Dm.gGe,Dm.bH,Dm.aP,Dm.bq,Dm.aX,Dm.a_,Dm.bf,Dm.bw,Dm.aI,Dm.bR,Dm.isI,Dm.isB,Dm.isL,Dm.isT,Dm.vB,Dm.vI,Mu,ML,gV,Mt,Mw,Mz,gc,Dp,Dk,MB,Mx,My,MN,if_true,if_false,MI,Dm.iR1,Dm.iR2,Dm.iS,Dm.bN,Dm.bT,Dm.sets,reduceIte,MJ,Dm.ak,ME,MF,MH,MG,true_or,or_true,true_and,and_true,decide_true,decide_false,false_or,or_false,false_and,and_false]
 ·have e0:(kind=0)=False:=by simp[k0]
  by_cases k1:kind=1
  ·subst k1;have p3:(0<if 3<n then 3 else n)=True:=by simp only[eq_iff_iff,iff_true];split<;>lia
   have p2:(0<if 2<n then 2 else n)=True:=by simp only[eq_iff_iff,iff_true];split<;>lia
   have b3:=cg one (if 3<n then 3 else n) (by split<;>lia);have b2:=cg other (if 2<n then 2 else n) (by split<;>lia);refine⟨one % (if 3<n then 3 else n),other % (if 2<n then 2 else n),?_,b3.1,?_,b2.1,?_⟩
   ·simp(config:={ decide:=true }) only[h0,z2,eq_int,p3,p2,Dm.fn,Dm.aj,Dm.sA,Dm.sR,Dm.sE,Dm.sU,Dm.sIf,Dm.sNx,Dm.bJ,Dm.bP,Dm.bB,Dm.e1,Dm.e2,Dm.eB,Dm.eAs,Dm.eC,Dm.eV,Dm.aT,Dm.aU,Dm.eF,Dm.eIf,Dm.bE,Dm.bO,Dm.tV,Dm.aV,Dm.bI,Dm.tOr,Dm.aD,Dm.pk,Dm.tk,Dm.pks,Dm.tks,RV.aB,RV.dat,Dm.aO,Dm.aL,Dm.bD,Dm.br,Dm.bC,Dm.aH,Dm.bF,Dm.gLt,Dm.gLe,Dm.gGt,Dm.gGe,Dm.bH,Dm.aP,Dm.bq,Dm.aX,Dm.a_,Dm.bf,Dm.bw,Dm.aI,Dm.bR,Dm.isI,Dm.isB,Dm.isL,Dm.isT,Dm.vB,Dm.vI,Mu,ML,gV,Mt,Mw,Mz,gc,Dp,Dk,MB,Mx,My,MN,if_true,if_false,MI,Dm.iR1,Dm.iR2,Dm.iS,Dm.bN,Dm.bT,Dm.sets,reduceIte,MJ,Dm.ak,ME,MF,MH,MG,true_or,or_true,true_and,and_true,decide_true,decide_false,false_or,or_false,false_and,and_false]
   ·have:=b3.2;split at this<;>lia
   ·have:=b2.2;split at this<;>lia
  ·have e1:(kind=1)=False:=by simp[k1]
   by_cases k2:kind=2
   ·subst k2;refine⟨one % n,(one % n+1+other % 5 / 4) % n,?_,(m1 _).1,(m1 _).2,(m1 _).1,(m1 _).2⟩;have c:(0<(4:Int)/\(4:Int)<fM)=True:=by simp[fM]
    simp(config:={ decide:=true }) only[h0,z2,eq_int,c,Dm.fn,Dm.aj,Dm.sA,Dm.sR,Dm.sE,Dm.sU,Dm.sIf,Dm.sNx,Dm.bJ,Dm.bP,Dm.bB,Dm.e1,Dm.e2,Dm.eB,Dm.eAs,Dm.eC,Dm.eV,Dm.aT,Dm.aU,Dm.eF,Dm.eIf,Dm.bE,Dm.bO,Dm.tV,Dm.aV,Dm.bI,Dm.tOr,Dm.aD,Dm.pk,Dm.tk,Dm.pks,Dm.tks,RV.aB,RV.dat,Dm.aO,Dm.aL,Dm.bD,Dm.br,Dm.bC,Dm.aH,Dm.bF,Dm.gLt,Dm.gLe,Dm.gGt,Dm.gGe,Dm.bH,Dm.aP,Dm.bq,Dm.aX,Dm.a_,Dm.bf,Dm.bw,Dm.aI,Dm.bR,Dm.isI,Dm.isB,Dm.isL,Dm.isT,Dm.vB,Dm.vI,Mu,ML,gV,Mt,Mw,Mz,gc,Dp,Dk,MB,Mx,My,MN,if_true,if_false,MI,Dm.iR1,Dm.iR2,Dm.iS,Dm.bN,Dm.bT,Dm.sets,reduceIte,MJ,Dm.ak,ME,MF,MH,MG,true_or,or_true,true_and,and_true,decide_true,decide_false,false_or,or_false,false_and,and_false]
   ·have e2:(kind=2)=False:=by simp[k2]
    refine⟨one % n,(one % n+2*(other % n)) % n,?_,(m1 _).1,(m1 _).2,(m1 _).1,(m1 _).2⟩;simp(config:={ decide:=true }) only[h0,z2,eq_int,e0,e1,e2,Dm.fn,Dm.aj,Dm.sA,Dm.sR,Dm.sE,Dm.sU,Dm.sIf,Dm.sNx,Dm.bJ,Dm.bP,Dm.bB,Dm.e1,Dm.e2,Dm.eB,Dm.eAs,Dm.eC,Dm.eV,Dm.aT,Dm.aU,Dm.eF,Dm.eIf,Dm.bE,Dm.bO,Dm.tV,Dm.aV,Dm.bI,Dm.tOr,Dm.aD,Dm.pk,Dm.tk,Dm.pks,Dm.tks,RV.aB,RV.dat,Dm.aO,Dm.aL,Dm.bD,Dm.br,Dm.bC,Dm.aH,Dm.bF,Dm.gLt,Dm.gLe,Dm.gGt,Dm.gGe,Dm.bH,Dm.aP,Dm.bq,Dm.aX,Dm.a_,Dm.bf,Dm.bw,Dm.aI,Dm.bR,Dm.isI,Dm.isB,Dm.isL,Dm.isT,Dm.vB,Dm.vI,Mu,ML,gV,Mt,Mw,Mz,gc,Dp,Dk,MB,Mx,My,MN,if_true,if_false,MI,Dm.iR1,Dm.iR2,Dm.iS,Dm.bN,Dm.bT,Dm.sets,reduceIte,MJ,Dm.ak,ME,MF,MH,MG,true_or,or_true,true_and,and_true,decide_true,decide_false,false_or,or_false,false_and,and_false]
noncomputable def at'(ns:List Int)(i:Int):Int:=ns.getD i.toNat 0
theorem l7(ns:List Int)(i:Int)(h0:0<=i)(h1:i<ns.length):atI (ns.map Dat.int) i=some (.int (at' ns i)):=by
 unfold atI ixN at';rw[if_pos h0,if_pos (by simpa using h1)];have hi:i.toNat<ns.length:=by lia
 show (ns.map Dat.int)[i.toNat]?=_;rw[M0,M7 hi,Np,M7 hi];rfl
theorem gO(ns:List Int)(i:Int)(h0:0<=i)(h1:i<ns.length):gIx (.lst (ns.map Dat.int)) (.int i)=some (.val (.int (at' ns i))):=by show (atI (ns.map Dat.int) i).map RV.val=_;rw[l7 ns i h0 h1];rfl
def Good(n:Int):Int->List Tie->Prop
 |_,[]=>True
 |lo,t::r=>lo<=t.m/\0<=t.a/\t.a<=t.b/\t.b<n/\Good n (t.m+1) r
noncomputable abbrev Z28:Int:=10000000000000000000000000000
theorem Du(ns:List Int)(n many wide cO most k:Int)(qN:List Tie)(c8 c9:Cell)(hn:1<=n)(hn2:n<=10)(hw:1<=wide)(hw2:wide<=Z28)(hk:0<=k)(hk2:6+3*k<ns.length)(hl:qN.length<1000) :
  ∃(t:Tie) (j6:Int) (c8' c9':Cell),qQ [.sh (.lst (ns.map Dat.int)),.sh (.int most),.sh (.int n),.sh (.int many),.sh (.int wide),.sh (.int cO),.ow (av qN),.sh (.int k),c8,c9] =
   some (.nx [.sh (.lst (ns.map Dat.int)),.sh (.int most),.sh (.int n),.sh (.int many),.sh (.int wide),.sh (.int j6),.ow (av (qN++[t])),.sh (.int k),c8',c9']) /\
   t.m=cO/\0<=t.a/\t.a<=t.b/\t.b<n/\cO+1<=j6/\j6<=cO+Z28:=by
 obtain⟨a,b,e,a0,a1,b0,b1⟩:=Kf n hn hn2 (at' ns 3 % 4) (at' ns (4+3*k)) (at' ns (5+3*k));have i3:=gO ns 3 (by decide) (by lia);have i4:=gO ns (4+3*k) (by lia) (by lia);have i5:=gO ns (5+3*k) (by lia) (by lia);have i6:=gO ns (6+3*k) (by lia) (by lia);have mw:=cg (at' ns (6+3*k)) wide hw;have w0:(0<wide)=True:=by simp only[eq_iff_iff,iff_true];lia
 have z3:(3<=SZ)=True:=by simp[SZ]
 have za:((qN.map bS).length<SZ)=True:=by simp only[eq_iff_iff,iff_true,MP];unfold SZ;lia
 refine⟨⟨cO,if b<a then b else a,if b>a then b else a⟩,cO+1+at' ns (6+3*k) % wide,.sh (.int a),.sh (.int b),?_,rfl,?_,?_,?_,by lia,by lia⟩
 ·unfold qQ av;simp(config:={ decide:=true }) only[i3,i4,i5,i6,e,w0,z3,za,Dm.fn,Dm.aj,Dm.sA,Dm.sR,Dm.sE,Dm.sU,Dm.sIf,Dm.sNx,Dm.bJ,Dm.bP,Dm.bB,Dm.e1,Dm.e2,Dm.eB,Dm.eAs,Dm.eC,Dm.eV,Dm.aT,Dm.aU,Dm.eF,Dm.eIf,Dm.bE,Dm.bO,Dm.tV,Dm.aV,Dm.bI,Dm.tOr,Dm.aD,Dm.pk,Dm.tk,Dm.pks,Dm.tks,RV.aB,RV.dat,Dm.aO,Dm.aL,Dm.bD,Dm.br,Dm.bC,Dm.aH,Dm.bF,Dm.gLt,Dm.gLe,Dm.gGt,Dm.gGe,Dm.bH,Dm.aP,Dm.bq,Dm.aX,Dm.a_,Dm.bf,Dm.bw,Dm.aI,Dm.bR,Dm.isI,Dm.isB,Dm.isL,Dm.isT,Dm.vB,Dm.vI,Mu,ML,gV,Mt,Mw,Mz,gc,Dp,Dk,MB,Mx,My,MN,if_true,if_false,MI,Dm.iR1,Dm.iR2,Dm.iS,Dm.bN,Dm.bT,Dm.sets,reduceIte,MJ,Dm.ak,ME,MF,MH,MG,true_or,or_true,true_and,and_true,decide_true,decide_false,false_or,or_false,false_and,and_false];simp[bS]
 ·dsimp only;split<;>lia
 ·dsimp only;split<;>split<;>lia
 ·dsimp only;split<;>lia
theorem wK(ns:List Int)(n many wide most:Int)(hn:1<=n)(hn2:n<=10)(hw:1<=wide)(hw2:wide<=Z28):∀(Rw:Nat) (k cO:Int) (qN:List Tie) (c7 c8 c9:Cell),0<=k->3+3*(k+Rw)<ns.length->qN.length+Rw<1000 ->
  ∃(r:List Tie) (j6:Int) (c7' c8' c9':Cell),dG (bN 7) qQ (ups k Rw) [.sh (.lst (ns.map Dat.int)),.sh (.int most),.sh (.int n),.sh (.int many),.sh (.int wide),.sh (.int cO),.ow (av qN),c7,c8,c9] =
   some (.nx [.sh (.lst (ns.map Dat.int)),.sh (.int most),.sh (.int n),.sh (.int many),.sh (.int wide),.sh (.int j6),.ow (av (qN++r)),c7',c8',c9'])/\r.length=Rw/\Good n cO r/\∀t∈r,t.m<=cO+Rw*Z28
 |0,k,cO,qN,c7,c8,c9,hk,hl,ha=>⟨[],cO,c7,c8,c9,by rw[ny,dG,Nl],rfl,trivial,fun t ht=>by cases ht⟩
 |Rw+1,k,cO,qN,c7,c8,c9,hk,hl,ha=>by
  rw[nA,dG];have hb:bN 7 (.int k) [.sh (.lst (ns.map Dat.int)),.sh (.int most),.sh (.int n),.sh (.int many),.sh (.int wide),.sh (.int cO),.ow (av qN),c7,c8,c9]=some [.sh (.lst (ns.map Dat.int)),.sh (.int most),.sh (.int n),.sh (.int many),.sh (.int wide),.sh (.int cO),.ow (av qN),.sh (.int k),c8,c9]:=rfl;rw[hb];dsimp only;obtain⟨t,m1,d8,d9,e,tm,ta,tab,tb,l1,l2⟩:=Du ns n many wide cO most k qN c8 c9 hn hn2 hw hw2 hk (by lia) (by lia);rw[e];dsimp only;obtain⟨r,m2,f7,f8,f9,e2,rl,rg,ru⟩:=wK ns n many wide most hn hn2 hw hw2 Rw (k+1) m1 (qN++[t]) (.sh (.int k)) d8 d9 (by lia) (by lia) (by simp;lia);refine⟨t::r,m2,f7,f8,f9,by rw[e2,Ny];rfl,by simp[rl],⟨by lia,ta,tab,tb,?_⟩,fun u hu=>?_⟩
  ·have mono:∀(r:List Tie) (a b:Int),a<=b->Good n b r->Good n a r:=fun r a b h g=>by
    cases r with
    |nil=>trivial
    |cons x y=>exact⟨OO h g.1,g.2⟩
   exact mono r _ _ (by lia) rg
  ·rcases MV.mp hu with rfl | hu
   ·have:(0:Int)<=(Rw+1:Nat)*Z28:=by
     have:(0:Int)<=((Rw+1:Nat):Int):=by lia
     unfold Z28;lia
    lia
   ·have:=ru u hu;have e3:((Rw+1:Nat):Int)*Z28=Rw*Z28+Z28:=by unfold Z28;lia
    lia
theorem ix3(a b c:Dat)(x:Int)(h0:0<=x)(h:x<3):gIx (.lst [a,b,c]) (.int x)=some (.val (if x=0 then a else if x=1 then b else c)):=by
 have:x=0\/x=1\/x=2:=by lia
 rcases this with rfl | rfl | rfl<;>rfl
theorem stA(ns:List Int)(most:Int)(hl:10<=ns.length):∃n:Int,1<=n/\n<=10/\∀yi:FS,
  aj (sA 2 (e2 aL (eC (.int 1)) (e2 aH (e2 gIx (eV 0) (eC (.int 0))) (eC (.int 6)))))
  (aj (sIf (tV (e2 gEq (e2 aH (e2 bC (e2 gIx (eV 0) (eC (.int 0))) (eC (.int 6))) (eC (.int 8))) (eC (.int 1)))) (sA 2 (e2 aL (eC (.int 7)) (e2 aH (e2 bC (e2 gIx (eV 0) (eC (.int 0))) (eC (.int 48))) (eC (.int 4))))) sNx) yi)
   [.sh (.lst (ns.map Dat.int)),.sh (.int most),.un,.un,.un,.un,.un,.un,.un,.un]=yi [.sh (.lst (ns.map Dat.int)),.sh (.int most),.sh (.int n),.un,.un,.un,.un,.un,.un,.un]:=by
 have i0:=gO ns 0 (by decide) (by lia);have m6:=cg (at' ns 0) 6 (by decide);have m4:=cg (at' ns 0 / 48) 4 (by decide);have c6:(0<(6:Int)/\(6:Int)<fM)=True:=by simp[fM]
 have c48:(0<(48:Int)/\(48:Int)<fM)=True:=by simp[fM]
 by_cases c:at' ns 0 / 6 % 8=1
 ·refine⟨7+at' ns 0 / 48 % 4,by lia,by lia,fun yi=>?_⟩;have c':(at' ns 0 / 6 % 8=1)=True:=by simp[c]
  simp(config:={ decide:=true }) only[i0,c6,c48,eq_int,c',Dm.fn,Dm.aj,Dm.sA,Dm.sR,Dm.sE,Dm.sU,Dm.sIf,Dm.sNx,Dm.bJ,Dm.bP,Dm.bB,Dm.e1,Dm.e2,Dm.eB,Dm.eAs,Dm.eC,Dm.eV,Dm.aT,Dm.aU,Dm.eF,Dm.eIf,Dm.bE,Dm.bO,Dm.tV,Dm.aV,Dm.bI,Dm.tOr,Dm.aD,Dm.pk,Dm.tk,Dm.pks,Dm.tks,RV.aB,RV.dat,Dm.aO,Dm.aL,Dm.bD,Dm.br,Dm.bC,Dm.aH,Dm.bF,Dm.gLt,Dm.gLe,Dm.gGt,Dm.gGe,Dm.bH,Dm.aP,Dm.bq,Dm.aX,Dm.a_,Dm.bf,Dm.bw,Dm.aI,Dm.bR,Dm.isI,Dm.isB,Dm.isL,Dm.isT,Dm.vB,Dm.vI,Mu,ML,gV,Mt,Mw,Mz,gc,Dp,Dk,MB,Mx,My,MN,if_true,if_false,MI,Dm.iR1,Dm.iR2,Dm.iS,Dm.bN,Dm.bT,Dm.sets,reduceIte,MJ,Dm.ak,ME,MF,MH,MG,true_or,or_true,true_and,and_true,decide_true,decide_false,false_or,or_false,false_and,and_false]
 ·refine⟨1+at' ns 0 % 6,by lia,by lia,fun yi=>?_⟩;have c':(at' ns 0 / 6 % 8=1)=False:=by simp[c]
  simp(config:={ decide:=true }) only[i0,c6,c48,eq_int,c',Dm.fn,Dm.aj,Dm.sA,Dm.sR,Dm.sE,Dm.sU,Dm.sIf,Dm.sNx,Dm.bJ,Dm.bP,Dm.bB,Dm.e1,Dm.e2,Dm.eB,Dm.eAs,Dm.eC,Dm.eV,Dm.aT,Dm.aU,Dm.eF,Dm.eIf,Dm.bE,Dm.bO,Dm.tV,Dm.aV,Dm.bI,Dm.tOr,Dm.aD,Dm.pk,Dm.tk,Dm.pks,Dm.tks,RV.aB,RV.dat,Dm.aO,Dm.aL,Dm.bD,Dm.br,Dm.bC,Dm.aH,Dm.bF,Dm.gLt,Dm.gLe,Dm.gGt,Dm.gGe,Dm.bH,Dm.aP,Dm.bq,Dm.aX,Dm.a_,Dm.bf,Dm.bw,Dm.aI,Dm.bR,Dm.isI,Dm.isB,Dm.isL,Dm.isT,Dm.vB,Dm.vI,Mu,ML,gV,Mt,Mw,Mz,gc,Dp,Dk,MB,Mx,My,MN,if_true,if_false,MI,Dm.iR1,Dm.iR2,Dm.iS,Dm.bN,Dm.bT,Dm.sets,reduceIte,MJ,Dm.ak,ME,MF,MH,MG,true_or,or_true,true_and,and_true,decide_true,decide_false,false_or,or_false,false_and,and_false]
theorem stB(ns:List Int)(most n:Int)(hl:10<=ns.length):∃many:Int,0<=many/\many<=60/\∀yi:FS,
  aj (sA 3 (e2 aH (e2 gIx (eV 0) (eC (.int 1))) (eC (.int 13))))
  (aj (sIf (tV (e2 gEq (e2 aH (e2 bC (e2 gIx (eV 0) (eC (.int 1))) (eC (.int 13))) (eC (.int 8))) (eC (.int 1)))) (sA 3 (e2 aL (eC (.int 13)) (e2 aH (e2 bC (e2 gIx (eV 0) (eC (.int 1))) (eC (.int 104))) (eC (.int 48))))) sNx) yi)
   [.sh (.lst (ns.map Dat.int)),.sh (.int most),.sh (.int n),.un,.un,.un,.un,.un,.un,.un]=yi [.sh (.lst (ns.map Dat.int)),.sh (.int most),.sh (.int n),.sh (.int many),.un,.un,.un,.un,.un,.un]:=by
 have i0:=gO ns 1 (by decide) (by lia);have m6:=cg (at' ns 1) 13 (by decide);have m4:=cg (at' ns 1 / 104) 48 (by decide);have c6:(0<(13:Int)/\(13:Int)<fM)=True:=by simp[fM]
 have c48:(0<(104:Int)/\(104:Int)<fM)=True:=by simp[fM]
 by_cases c:at' ns 1 / 13 % 8=1
 ·refine⟨13+at' ns 1 / 104 % 48,by lia,by lia,fun yi=>?_⟩;have c':(at' ns 1 / 13 % 8=1)=True:=by simp[c]
  simp(config:={ decide:=true }) only[i0,c6,c48,eq_int,c',Dm.fn,Dm.aj,Dm.sA,Dm.sR,Dm.sE,Dm.sU,Dm.sIf,Dm.sNx,Dm.bJ,Dm.bP,Dm.bB,Dm.e1,Dm.e2,Dm.eB,Dm.eAs,Dm.eC,Dm.eV,Dm.aT,Dm.aU,Dm.eF,Dm.eIf,Dm.bE,Dm.bO,Dm.tV,Dm.aV,Dm.bI,Dm.tOr,Dm.aD,Dm.pk,Dm.tk,Dm.pks,Dm.tks,RV.aB,RV.dat,Dm.aO,Dm.aL,Dm.bD,Dm.br,Dm.bC,Dm.aH,Dm.bF,Dm.gLt,Dm.gLe,Dm.gGt,Dm.gGe,Dm.bH,Dm.aP,Dm.bq,Dm.aX,Dm.a_,Dm.bf,Dm.bw,Dm.aI,Dm.bR,Dm.isI,Dm.isB,Dm.isL,Dm.isT,Dm.vB,Dm.vI,Mu,ML,gV,Mt,Mw,Mz,gc,Dp,Dk,MB,Mx,My,MN,if_true,if_false,MI,Dm.iR1,Dm.iR2,Dm.iS,Dm.bN,Dm.bT,Dm.sets,reduceIte,MJ,Dm.ak,ME,MF,MH,MG,true_or,or_true,true_and,and_true,decide_true,decide_false,false_or,or_false,false_and,and_false]
 ·refine⟨at' ns 1 % 13,by lia,by lia,fun yi=>?_⟩;have c':(at' ns 1 / 13 % 8=1)=False:=by simp[c]
  simp(config:={ decide:=true }) only[i0,c6,c48,eq_int,c',Dm.fn,Dm.aj,Dm.sA,Dm.sR,Dm.sE,Dm.sU,Dm.sIf,Dm.sNx,Dm.bJ,Dm.bP,Dm.bB,Dm.e1,Dm.e2,Dm.eB,Dm.eAs,Dm.eC,Dm.eV,Dm.aT,Dm.aU,Dm.eF,Dm.eIf,Dm.bE,Dm.bO,Dm.tV,Dm.aV,Dm.bI,Dm.tOr,Dm.aD,Dm.pk,Dm.tk,Dm.pks,Dm.tks,RV.aB,RV.dat,Dm.aO,Dm.aL,Dm.bD,Dm.br,Dm.bC,Dm.aH,Dm.bF,Dm.gLt,Dm.gLe,Dm.gGt,Dm.gGe,Dm.bH,Dm.aP,Dm.bq,Dm.aX,Dm.a_,Dm.bf,Dm.bw,Dm.aI,Dm.bR,Dm.isI,Dm.isB,Dm.isL,Dm.isT,Dm.vB,Dm.vI,Mu,ML,gV,Mt,Mw,Mz,gc,Dp,Dk,MB,Mx,My,MN,if_true,if_false,MI,Dm.iR1,Dm.iR2,Dm.iS,Dm.bN,Dm.bT,Dm.sets,reduceIte,MJ,Dm.ak,ME,MF,MH,MG,true_or,or_true,true_and,and_true,decide_true,decide_false,false_or,or_false,false_and,and_false]
theorem stC(ns:List Int)(most n many:Int)(hl:10<=ns.length):∃wide cO:Int,1<=wide/\wide<=Z28/\0<=cO/\cO<=100000000000000000000000000000/\∀yi:FS,
  aj (sA 4 (e2 gIx (aU [(eC (.int 1)),(eC (.int 4)),(e2 bF (eC (.int 10)) (eC (.int 28)))]) (e2 aH (e2 gIx (eV 0) (eC (.int 2))) (eC (.int 3)))))
  (aj (sA 5 (e2 gIx (aU [(eC (.int 0)),(e2 aH (e2 bC (e2 gIx (eV 0) (eC (.int 2))) (eC (.int 12))) (eC (.int 100))),(e2 aH (e2 gIx (eV 0) (eC (.int 3))) (e2 bF (eC (.int 10)) (eC (.int 29))))]) (e2 aH (e2 bC (e2 gIx (eV 0) (eC (.int 2))) (eC (.int 3))) (eC (.int 3)))))
  (aj (sA 6 (aU [])) yi))
   [.sh (.lst (ns.map Dat.int)),.sh (.int most),.sh (.int n),.sh (.int many),.un,.un,.un,.un,.un,.un]=yi [.sh (.lst (ns.map Dat.int)),.sh (.int most),.sh (.int n),.sh (.int many),.sh (.int wide),.sh (.int cO),.ow (av []),.un,.un,.un]:=by
 have i2:=gO ns 2 (by decide) (by lia);have i3:=gO ns 3 (by decide) (by lia);have q1:=cg (at' ns 2) 3 (by decide);have q2:=cg (at' ns 2 / 3) 3 (by decide);have q3:=cg (at' ns 2 / 12) 100 (by decide);have q4:=cg (at' ns 3) 100000000000000000000000000000 (by decide);have c12:(0<(12:Int)/\(12:Int)<fM)=True:=by simp[fM]
 have c3:(0<(3:Int)/\(3:Int)<fM)=True:=by simp[fM]
 have p28:(10:Int) ^ (28:Int).toNat=Z28:=by decide
 have p29:(10:Int) ^ (29:Int).toNat=100000000000000000000000000000:=by decide
 have z3:(3<=SZ)=True:=by simp[SZ]
 have z0:(0<=SZ)=True:=by simp
 have p0:(0<(100000000000000000000000000000:Int))=True:=by simp
 have w:∃wide:Int,(1<=wide/\wide<=Z28)/\(if at' ns 2 % 3=0 then Dat.int 1 else if at' ns 2 % 3=1 then Dat.int 4 else Dat.int Z28)=.int wide:=by
  split
  ·exact⟨1,by decide,rfl⟩
  ·split
   ·exact⟨4,by decide,rfl⟩
   ·exact⟨Z28,by decide,rfl⟩
 have m:∃mo:Int,(0<=mo/\mo<=100000000000000000000000000000)/\(if at' ns 2 / 3 % 3=0 then Dat.int 0 else if at' ns 2 / 3 % 3=1 then Dat.int (at' ns 2 / 12 % 100) else Dat.int (at' ns 3 % 100000000000000000000000000000))=.int mo:=by
  split
  ·exact⟨0,by decide,rfl⟩
  ·split
   ·exact⟨_,⟨q3.1,by lia⟩,rfl⟩
   ·exact⟨_,⟨q4.1,by lia⟩,rfl⟩
 obtain⟨wide,hw,ew⟩:=w;obtain⟨mo,hm,em⟩:=m;refine⟨wide,mo,hw.1,hw.2,hm.1,hm.2,fun yi=>?_⟩;have g1:=ix3 (.int 1) (.int 4) (.int Z28) (at' ns 2 % 3) q1.1 q1.2;have g2:=ix3 (.int 0) (.int (at' ns 2 / 12 % 100)) (.int (at' ns 3 % 100000000000000000000000000000)) (at' ns 2 / 3 % 3) q2.1 q2.2;rw[ew]at g1;rw[em]at g2;unfold av;simp(config:={ decide:=true }) only[i2,i3,c12,c3,p28,p29,z3,z0,p0,g1,g2,Dm.fn,Dm.aj,Dm.sA,Dm.sR,Dm.sE,Dm.sU,Dm.sIf,Dm.sNx,Dm.bJ,Dm.bP,Dm.bB,Dm.e1,Dm.e2,Dm.eB,Dm.eAs,Dm.eC,Dm.eV,Dm.aT,Dm.aU,Dm.eF,Dm.eIf,Dm.bE,Dm.bO,Dm.tV,Dm.aV,Dm.bI,Dm.tOr,Dm.aD,Dm.pk,Dm.tk,Dm.pks,Dm.tks,RV.aB,RV.dat,Dm.aO,Dm.aL,Dm.bD,Dm.br,Dm.bC,Dm.aH,Dm.bF,Dm.gLt,Dm.gLe,Dm.gGt,Dm.gGe,Dm.bH,Dm.aP,Dm.bq,Dm.aX,Dm.a_,Dm.bf,Dm.bw,Dm.aI,Dm.bR,Dm.isI,Dm.isB,Dm.isL,Dm.isT,Dm.vB,Dm.vI,Mu,ML,gV,Mt,Mw,Mz,gc,Dp,Dk,MB,Mx,My,MN,if_true,if_false,MI,Dm.iR1,Dm.iR2,Dm.iS,Dm.bN,Dm.bT,Dm.sets,reduceIte,MJ,Dm.ak,ME,MF,MH,MG,true_or,or_true,true_and,and_true,decide_true,decide_false,false_or,or_false,false_and,and_false]
noncomputable abbrev Hi:Int:=700000000000000000000000000000
noncomputable def yq:Option Out->Option RV
 |some (.ret r _)=>some r
 |some (.nx _)=>some (.val .non)
 |_=>none
theorem qd{n m:Nat}{body:FS}(h:ds.length=n)(hρ:ds.map Cell.sh++gc m .un=ρ):fn n m body ds=yq (body ρ):=by unfold fn;rw[if_pos h,hρ];rfl
theorem yr(ns:List Int)(most:Int)(hl:10<=ns.length)(hl2:ns.length<=1000)(h0:0<=most)(h60:most<=60) :
  ∃(n:Int) (r:List Tie),wH [.lst (ns.map Dat.int),.int most]=some (.val (.tup [.int n,av r]))/\1<=n/\n<=10/\Good n 0 r/\(∀t∈r,t.m<=Hi)/\(r.length:Int)<=most:=by
 obtain⟨n,n1,n2,eA⟩:=stA ns most hl;obtain⟨many,a1,a2,eB'⟩:=stB ns most n hl;obtain⟨wide,mo,w1,w2,m1,m2,eC'⟩:=stC ns most n many hl;have c3:(0<(3:Int)/\(3:Int)<fM)=True:=by simp[fM]
 have cn:∃Rw:Nat,(if most<many then (if ((ns.length:Int)-4) / 3<most then ((ns.length:Int)-4) / 3 else most) else (if ((ns.length:Int)-4) / 3<many then ((ns.length:Int)-4) / 3 else many))=(Rw:Int)/\(Rw:Int)<=most/\3+3*(Rw:Int)<ns.length:=by
  refine⟨(if most<many then (if ((ns.length:Int)-4) / 3<most then ((ns.length:Int)-4) / 3 else most) else (if ((ns.length:Int)-4) / 3<many then ((ns.length:Int)-4) / 3 else many)).toNat,?_,?_,?_⟩
  ·split<;>split<;>lia
  ·split<;>split<;>lia
  ·split<;>split<;>lia
 obtain⟨Rw,ec,cm,cl⟩:=cn;obtain⟨r,mo',c7,c8,c9,e,rl,rg,ru⟩:=wK ns n many wide most n1 n2 w1 w2 Rw 0 mo [] .un .un .un (by decide) (by lia) (by simp;lia);refine⟨n,r,?_,n1,n2,?_,fun t ht=>?_,by lia⟩
 ·unfold wH;refine(qd (ρ:=[.sh (.lst (ns.map Dat.int)),.sh (.int most),.un,.un,.un,.un,.un,.un,.un,.un]) (by rfl) (by rfl)).trans ?_;rw[eA,eB',eC'];have hb:((Rw:Int)<=BIG/\-BIG<=(Rw:Int))=True:=by simp only[eq_iff_iff,iff_true];unfold BIG;lia
  have z2:(2<=SZ)=True:=by simp[SZ]
  rw[Mw]at e;simp(config:={ decide:=true }) only[MP,c3,ec,hb,NF,e,z2,yq,Dm.fn,Dm.aj,Dm.sA,Dm.sR,Dm.sE,Dm.sU,Dm.sIf,Dm.sNx,Dm.bJ,Dm.bP,Dm.bB,Dm.e1,Dm.e2,Dm.eB,Dm.eAs,Dm.eC,Dm.eV,Dm.aT,Dm.aU,Dm.eF,Dm.eIf,Dm.bE,Dm.bO,Dm.tV,Dm.aV,Dm.bI,Dm.tOr,Dm.aD,Dm.pk,Dm.tk,Dm.pks,Dm.tks,RV.aB,RV.dat,Dm.aO,Dm.aL,Dm.bD,Dm.br,Dm.bC,Dm.aH,Dm.bF,Dm.gLt,Dm.gLe,Dm.gGt,Dm.gGe,Dm.bH,Dm.aP,Dm.bq,Dm.aX,Dm.a_,Dm.bf,Dm.bw,Dm.aI,Dm.bR,Dm.isI,Dm.isB,Dm.isL,Dm.isT,Dm.vB,Dm.vI,Mu,ML,gV,Mt,Mw,Mz,gc,Dp,Dk,MB,Mx,My,MN,if_true,if_false,MI,Dm.iR1,Dm.iR2,Dm.iS,Dm.bN,Dm.bT,Dm.sets,reduceIte,MJ,Dm.ak,ME,MF,MH,MG,true_or,or_true,true_and,and_true,decide_true,decide_false,false_or,or_false,false_and,and_false]
 ·have mono:∀(r:List Tie) (a b:Int),a<=b->Good n b r->Good n a r:=fun r a b h g=>by
   cases r with
   |nil=>trivial
   |cons x y=>exact⟨OO h g.1,g.2⟩
  exact mono r _ _ m1 rg
 ·have:=ru t ht;have h1:(Rw:Int)*Z28<=60*Z28:=by unfold Z28;lia
  have:(60:Int)*Z28=600000000000000000000000000000:=by decide
  show t.m<=700000000000000000000000000000
  lia
noncomputable def mgf(f:Int->Int)(a b:Int):Int->Int:=fun x=>if f x=f b then f a else f x
inductive Con(ts:List Tie):Int->Int->Prop
 |refl (x:Int):Con ts x x
 |tie (t:Tie):t∈ts->Con ts t.a t.b
 |symm {x y:Int}:Con ts x y->Con ts y x
 |trans {x y z:Int}:Con ts x y->Con ts y z->Con ts x z
theorem Con.mono(h:∀t∈ts,t∈us)(c:Con ts x y):Con us x y:=by
 induction c with
 |refl x=>exact .refl x
 |tie t m=>exact .tie t (h t m)
 |symm _ ih=>exact .symm ih
 |trans _ _ i1 i2=>exact .trans i1 i2
def Tells(f:Int->Int)(ts:List Tie):Prop:=∀x y,f x=f y↔Con ts x y
theorem Con.nil(c:Con [] x y):x=y:=by
 induction c with
 |refl x=>rfl
 |tie t m=>cases m
 |symm _ ih=>exact ih.symm
 |trans _ _ i1 i2=>exact i1.trans i2
theorem tells_nil:Tells (fun x=>x) []:=fun x y=>⟨fun h=>by cases h;exact .refl _,fun c=>c.nil⟩
theorem tells_same(h:Tells f ts)(e:∀t,t∈ts↔t∈us):Tells f us:=fun x y=>(h x y).trans ⟨Con.mono fun t m=>(e t).mp m,Con.mono fun t m=>(e t).mpr m⟩
theorem tells_mgf{ts:List Tie}(h:Tells f ts)(t:Tie)(a b:Int)(Ry:(a=t.a/\b=t.b)\/(a=t.b/\b=t.a)):Tells (mgf f a b) (t::ts):=by
 have up:∀{x y},f x=f y->Con (t::ts) x y:=fun e=>Con.mono (fun u m=>MK _ m) ((h _ _).mp e);have ab:Con (t::ts) a b:=by
  rcases Ry with⟨rfl,rfl⟩ | ⟨rfl,rfl⟩
  ·exact .tie t MM
  ·exact .symm (.tie t MM)
 intro x y;unfold mgf;constructor
 ·intro e;by_cases hx:f x=f b
  ·rw[if_pos hx]at e;by_cases hy:f y=f b
   ·exact up (hx.trans hy.symm)
   ·rw[if_neg hy]at e;exact .trans (up hx) (.trans (.symm ab) (up e))
  ·rw[if_neg hx]at e;by_cases hy:f y=f b
   ·rw[if_pos hy]at e;exact .trans (up e) (.trans ab (.symm (up hy)))
   ·rw[if_neg hy]at e;exact up e
 ·intro c;have key:∀{x y:Int},Con (t::ts) x y->(if f x=f b then f a else f x)=(if f y=f b then f a else f y):=fun c=>by
   induction c with
   |refl x=>rfl
   |tie u m=>
    rcases MV.mp m with rfl | m
    ·rcases Ry with⟨rfl,rfl⟩ | ⟨rfl,rfl⟩
     ·rw[if_pos (rfl:f u.b=f u.b)];split
      ·rfl
      ·rfl
     ·rw[if_pos (rfl:f u.a=f u.a)];split
      ·rfl
      ·rfl
    ·have e:=(h u.a u.b).mpr (.tie u m);rw[e]
   |symm _ ih=>exact ih.symm
   |trans _ _ i1 i2=>exact i1.trans i2
  exact key c
noncomputable def fG(f:Int->Int):List Tie->Int->Int
 |[]=>f
 |t::r=>fG (mgf f t.b t.a) r
theorem lC:∀(r:List Tie) (f:Int->Int) (ts:List Tie),Tells f ts->Tells (fG f r) (r++ts)
 |[],f,ts,h=>h
 |t::r,f,ts,h=>tells_same (lC r _ _ (tells_mgf h t t.b t.a (.inr ⟨rfl,rfl⟩))) fun u=>by
   simp only[Mz,Nf,MV];constructor
   ·rintro(h | h | h)
    ·exact .inr (.inl h)
    ·exact .inl h
    ·exact .inr (.inr h)
   ·rintro(h | h | h)
    ·exact .inr (.inl h)
    ·exact .inl h
    ·exact .inr (.inr h)
theorem AF(r:List Tie)(a b:Int):fG (fun x=>x) r a=fG (fun x=>x) r b↔Con r a b:=by have:=lC r (fun x=>x) [] tells_nil a b;rw[Nl]at this;exact this
noncomputable def lay(r:List Tie)(ms:List Int)(j:Int):List Tie:=((r.zip ms).filter fun p=>decide (p.2=j)).map (·.1)
theorem nB(t:Tie)(m:Int)(r:List Tie)(ms:List Int)(j:Int):lay (t::r) (m::ms) j=if m=j then t::lay r ms j else lay r ms j:=by unfold lay;rw[O3,List.filter_cons];by_cases h:m=j<;>simp[h]
theorem Dv(j:Int):lay [] [] j=[]:=rfl
def nC(k:Int)(r:List Tie)(ms:List Int)(t:Tie)(m:Int):Prop:=
 (m=0/\∀j,1<=j->j<=k->Con (lay r ms j) t.a t.b)\/(1<=m/\m<=k/\¬Con (lay r ms m) t.a t.b/\∀j,1<=j->j<m->Con (lay r ms j) t.a t.b)
def cX(k:Int):List Tie->List Int->Prop
 |[],[]=>True
 |t::r,m::ms=>cX k r ms/\nC k r ms t m
 |_,_=>False
theorem nC.uniq{m m':Int}(h:nC k r ms t m)(h':nC k r ms t m'):m=m':=by
 rcases h with⟨rfl,h⟩ | ⟨h1,h2,h3,h4⟩
 ·rcases h' with⟨rfl,_⟩ | ⟨g1,g2,g3,_⟩
  ·rfl
  ·exact absurd (h m' g1 g2) g3
 ·rcases h' with⟨rfl,h'⟩ | ⟨g1,g2,g3,g4⟩
  ·exact absurd (h' m h1 h2) h3
  ·rcases Int.lt_trichotomy m m' with q | q | q
   ·exact absurd (g4 m h1 q) h3
   ·exact q
   ·exact absurd (h4 m' g1 q) g3
theorem cX.len:∀{r:List Tie} {ms:List Int},cX k r ms->ms.length=r.length
 |[],[],_=>rfl
 |_::r,_::ms,h=>by simp[cX.len h.1]
 |[],_::_,h=>h.elim
 |_::_,[],h=>h.elim
theorem cX.uniq:∀{r:List Tie} {ms ms':List Int},cX k r ms->cX k r ms'->ms=ms'
 |[],[],[],_,_=>rfl
 |_::r,m::ms,m'::ms',h,h'=>by have e:=cX.uniq h.1 h'.1;subst e;rw[h.2.uniq h'.2]
 |[],_::_,_,h,_=>h.elim
 |[],[],_::_,_,h=>h.elim
 |_::_,[],_,h,_=>h.elim
 |_::_,_::_,[],_,h=>h.elim
noncomputable def lab(n:Nat)(f:Int->Int):Dat:=.lst ((Ni n).map fun(i:Nat)=>Dat.int (f i))
theorem gP(n:Nat)(f:Int->Int)(x:Int)(h0:0<=x)(h1:x<n):gIx (lab n f) (.int x)=some (.val (.int (f x))):=by
 unfold lab gIx atI ixN;have hx:x.toNat<n:=by lia
 have hc:((x.toNat:Nat):Int)=x:=by lia
 simp only[MP,Ox,h0,h1,if_true];simp[Oc hx,hc]
theorem AG(n:Nat):Dat.lst (ups 0 n)=lab n fun x=>x:=by unfold ups lab;simp
theorem yt{i own:Nat}{bd:FB}{t:FT}{el:FE}{d:Dat}(h:ρ[i]?=some (.sh d)):cU i own bd t el ρ=cP (iS (eV i)) own bd t el ρ:=by unfold cU;rw[h]
theorem comp_map(g:Int->Int)(bd:FB)(el:FE)(pre:Env)(step:∀(d:Dat) (c:Cell),bd d (pre++[c])=some (pre++[.sh d]))(LV:∀i:Int,el (pre++[.sh (.int i)])=some (.val (.int (g i)),pre++[.sh (.int i)])):∀(xs:List Int) (c:Cell) (qN:List Dat),
  ∃c',cZ bd aD el (xs.map Dat.int) (pre++[c]) qN=some (qN++xs.map (fun i=>.int (g i)),pre++[c'])
 |[],c,qN=>⟨c,by simp[cZ]⟩
 |x::xs,c,qN=>by rw[Mu,cZ,step];dsimp only[aD];rw[LV];dsimp only[tk];obtain⟨c',e⟩:=comp_map g bd el pre step LV xs (.sh (.int x)) (qN++[.int (g x)]);exact⟨c',by rw[e];simp⟩
theorem wL(n:Nat)(f:Int->Int):lab n f=.lst (((Ni n).map fun(i:Nat)=>f i).map Dat.int):=by unfold lab;rw[Nv];rfl
theorem yu(n:Nat)(hn:n<=10)(f:Int->Int)(a b:Int)(a0:0<=a)(a1:a<n)(b0:0<=b)(b1:b<n):wo [lab n f,.int a,.int b]=some (.new (lab n (mgf f a b))):=by
 have ia:=gP n f a a0 a1;have ib:=gP n f b b0 b1;have LV:∀i:Int,(eIf (tV (e2 gEq (eV 3) (e2 gIx (eV 0) (eV 2)))) (e2 gIx (eV 0) (eV 1)) (eV 3)) ([.sh (lab n f),.sh (.int a),.sh (.int b)]++[.sh (.int i)])=some (.val (.int (if i=f b then f a else i)),[.sh (lab n f),.sh (.int a),.sh (.int b)]++[.sh (.int i)]):=fun i=>by
  by_cases h:i=f b
  ·have h':(i=f b)=True:=by simp[h]
   simp(config:={ decide:=true }) only[ia,ib,eq_int,h',Dm.fn,Dm.aj,Dm.sA,Dm.sR,Dm.sE,Dm.sU,Dm.sIf,Dm.sNx,Dm.bJ,Dm.bP,Dm.bB,Dm.e1,Dm.e2,Dm.eB,Dm.eAs,Dm.eC,Dm.eV,Dm.aT,Dm.aU,Dm.eF,Dm.eIf,Dm.bE,Dm.bO,Dm.tV,Dm.aV,Dm.bI,Dm.tOr,Dm.aD,Dm.pk,Dm.tk,Dm.pks,Dm.tks,RV.aB,RV.dat,Dm.aO,Dm.aL,Dm.bD,Dm.br,Dm.bC,Dm.aH,Dm.bF,Dm.gLt,Dm.gLe,Dm.gGt,Dm.gGe,Dm.bH,Dm.aP,Dm.bq,Dm.aX,Dm.a_,Dm.bf,Dm.bw,Dm.aI,Dm.bR,Dm.isI,Dm.isB,Dm.isL,Dm.isT,Dm.vB,Dm.vI,Mu,ML,gV,Mt,Mw,Mz,gc,Dp,Dk,MB,Mx,My,MN,if_true,if_false,MI,Dm.iR1,Dm.iR2,Dm.iS,Dm.bN,Dm.bT,Dm.sets,reduceIte,MJ,Dm.ak,ME,MF,MH,MG,true_or,or_true,true_and,and_true,decide_true,decide_false,false_or,or_false,false_and,and_false]
  ·have h':(i=f b)=False:=by simp[h]
   simp(config:={ decide:=true }) only[ia,ib,eq_int,h',Dm.fn,Dm.aj,Dm.sA,Dm.sR,Dm.sE,Dm.sU,Dm.sIf,Dm.sNx,Dm.bJ,Dm.bP,Dm.bB,Dm.e1,Dm.e2,Dm.eB,Dm.eAs,Dm.eC,Dm.eV,Dm.aT,Dm.aU,Dm.eF,Dm.eIf,Dm.bE,Dm.bO,Dm.tV,Dm.aV,Dm.bI,Dm.tOr,Dm.aD,Dm.pk,Dm.tk,Dm.pks,Dm.tks,RV.aB,RV.dat,Dm.aO,Dm.aL,Dm.bD,Dm.br,Dm.bC,Dm.aH,Dm.bF,Dm.gLt,Dm.gLe,Dm.gGt,Dm.gGe,Dm.bH,Dm.aP,Dm.bq,Dm.aX,Dm.a_,Dm.bf,Dm.bw,Dm.aI,Dm.bR,Dm.isI,Dm.isB,Dm.isL,Dm.isT,Dm.vB,Dm.vI,Mu,ML,gV,Mt,Mw,Mz,gc,Dp,Dk,MB,Mx,My,MN,if_true,if_false,MI,Dm.iR1,Dm.iR2,Dm.iS,Dm.bN,Dm.bT,Dm.sets,reduceIte,MJ,Dm.ak,ME,MF,MH,MG,true_or,or_true,true_and,and_true,decide_true,decide_false,false_or,or_false,false_and,and_false]
 obtain⟨c',e⟩:=comp_map (fun i=>if i=f b then f a else i) (bN 3) _ [.sh (lab n f),.sh (.int a),.sh (.int b)] (fun _ _=>rfl) LV ((Ni n).map fun(i:Nat)=>f i) .un [];have hz:(((Ni n).map fun(i:Nat)=>f i).map Dat.int).length<=SZ:=by simp[SZ];lia
 unfold wo;refine(qd (ρ:=[.sh (lab n f),.sh (.int a),.sh (.int b)]) rfl rfl).trans ?_;have e':cU 0 1 (bN 3) aD (eIf (tV (e2 gEq (eV 3) (e2 gIx (eV 0) (eV 2)))) (e2 gIx (eV 0) (eV 1)) (eV 3)) [.sh (lab n f),.sh (.int a),.sh (.int b)]=some (.new (lab n (mgf f a b)),[.sh (lab n f),.sh (.int a),.sh (.int b)]):=by
  have it:iS (eV 0) [.sh (lab n f),.sh (.int a),.sh (.int b)]=some (((Ni n).map fun(i:Nat)=>f i).map Dat.int,[.sh (lab n f),.sh (.int a),.sh (.int b)]):=by rw[wL];rfl
  rw[yt (d:=lab n f) rfl];unfold cP;rw[it];dsimp only;rw[if_pos hz];show (match cZ _ _ _ _ ([.sh (lab n f),.sh (.int a),.sh (.int b)]++[.un]) [] with | none=>none | some (ys,ρ2)=>some (Val.new (.lst ys),ρ2.take 3))=_;rw[e];dsimp only
  congr 2
  unfold lab mgf;rw[Mw,Nv];rfl
 unfold sR;rw[e'];rfl
noncomputable def bU(a b:Int):Nat->List (Int->Int)->Int
 |_,[]=>0
 |i,f::r=>if f a=f b then bU a b (i+1) r else (i:Int)+1
theorem nD(n:Nat)(a b:Int)(a0:0<=a)(a1:a<n)(b0:0<=b)(b1:b<n)(g:Cell):∀(gs:List (Int->Int)) (i:Nat) (c3 c4:Cell),
  (bU a b i gs=0/\∃ρ,dG (bT [3,4]) iZ (j0 i (gs.map (lab n))) [g,.sh (.int a),.sh (.int b),c3,c4]=some (.nx ρ)) \/
  ∃ρ,dG (bT [3,4]) iZ (j0 i (gs.map (lab n))) [g,.sh (.int a),.sh (.int b),c3,c4]=some (.ret (.val (.int (bU a b i gs))) ρ)
 |[],i,c3,c4=>.inl ⟨rfl,_,rfl⟩
 |f::gs,i,c3,c4=>by
  have ia:=gP n f a a0 a1;have ib:=gP n f b b0 b1;rw[Mu,j0,dG];have hb:bT [3,4] (.tup [.int (i:Nat),lab n f]) [g,.sh (.int a),.sh (.int b),c3,c4]=some [g,.sh (.int a),.sh (.int b),.sh (.int (i:Nat)),.sh (lab n f)]:=rfl;rw[hb];dsimp only;by_cases h:f a=f b
  ·have h':(f a=f b)=True:=by simp[h]
   have bd:iZ [g,.sh (.int a),.sh (.int b),.sh (.int (i:Nat)),.sh (lab n f)]=some (.nx [g,.sh (.int a),.sh (.int b),.sh (.int (i:Nat)),.sh (lab n f)]):=by unfold iZ;simp(config:={ decide:=true }) only[ia,ib,ne_int,h',Dm.fn,Dm.aj,Dm.sA,Dm.sR,Dm.sE,Dm.sU,Dm.sIf,Dm.sNx,Dm.bJ,Dm.bP,Dm.bB,Dm.e1,Dm.e2,Dm.eB,Dm.eAs,Dm.eC,Dm.eV,Dm.aT,Dm.aU,Dm.eF,Dm.eIf,Dm.bE,Dm.bO,Dm.tV,Dm.aV,Dm.bI,Dm.tOr,Dm.aD,Dm.pk,Dm.tk,Dm.pks,Dm.tks,RV.aB,RV.dat,Dm.aO,Dm.aL,Dm.bD,Dm.br,Dm.bC,Dm.aH,Dm.bF,Dm.gLt,Dm.gLe,Dm.gGt,Dm.gGe,Dm.bH,Dm.aP,Dm.bq,Dm.aX,Dm.a_,Dm.bf,Dm.bw,Dm.aI,Dm.bR,Dm.isI,Dm.isB,Dm.isL,Dm.isT,Dm.vB,Dm.vI,Mu,ML,gV,Mt,Mw,Mz,gc,Dp,Dk,MB,Mx,My,MN,if_true,if_false,MI,Dm.iR1,Dm.iR2,Dm.iS,Dm.bN,Dm.bT,Dm.sets,reduceIte,MJ,Dm.ak,ME,MF,MH,MG,true_or,or_true,true_and,and_true,decide_true,decide_false,false_or,or_false,false_and,and_false]
   rw[bd];dsimp only;rw[show bU a b i (f::gs)=bU a b (i+1) gs by simp[bU,h]];exact nD n a b a0 a1 b0 b1 g gs (i+1) _ _
  ·have h':(f a=f b)=False:=by simp[h]
   have bd:iZ [g,.sh (.int a),.sh (.int b),.sh (.int (i:Nat)),.sh (lab n f)]=some (.ret (.val (.int ((i:Int)+1))) [g,.sh (.int a),.sh (.int b),.sh (.int (i:Nat)),.sh (lab n f)]):=by unfold iZ;simp(config:={ decide:=true }) only[ia,ib,ne_int,h',Dm.fn,Dm.aj,Dm.sA,Dm.sR,Dm.sE,Dm.sU,Dm.sIf,Dm.sNx,Dm.bJ,Dm.bP,Dm.bB,Dm.e1,Dm.e2,Dm.eB,Dm.eAs,Dm.eC,Dm.eV,Dm.aT,Dm.aU,Dm.eF,Dm.eIf,Dm.bE,Dm.bO,Dm.tV,Dm.aV,Dm.bI,Dm.tOr,Dm.aD,Dm.pk,Dm.tk,Dm.pks,Dm.tks,RV.aB,RV.dat,Dm.aO,Dm.aL,Dm.bD,Dm.br,Dm.bC,Dm.aH,Dm.bF,Dm.gLt,Dm.gLe,Dm.gGt,Dm.gGe,Dm.bH,Dm.aP,Dm.bq,Dm.aX,Dm.a_,Dm.bf,Dm.bw,Dm.aI,Dm.bR,Dm.isI,Dm.isB,Dm.isL,Dm.isT,Dm.vB,Dm.vI,Mu,ML,gV,Mt,Mw,Mz,gc,Dp,Dk,MB,Mx,My,MN,if_true,if_false,MI,Dm.iR1,Dm.iR2,Dm.iS,Dm.bN,Dm.bT,Dm.sets,reduceIte,MJ,Dm.ak,ME,MF,MH,MG,true_or,or_true,true_and,and_true,decide_true,decide_false,false_or,or_false,false_and,and_false]
   rw[bd];rw[show bU a b i (f::gs)=(i:Int)+1 by simp[bU,h]];exact .inr ⟨_,rfl⟩
theorem AH(n:Nat)(gs:List (Int->Int))(a b:Int)(a0:0<=a)(a1:a<n)(b0:0<=b)(b1:b<n):wu [.lst (gs.map (lab n)),.int a,.int b]=some (.val (.int (bU a b 0 gs))):=by
 unfold wu;refine(qd (ρ:=[.sh (.lst (gs.map (lab n))),.sh (.int a),.sh (.int b),.un,.un]) rfl rfl).trans ?_;rcases nD n a b a0 a1 b0 b1 (.sh (.lst (gs.map (lab n)))) gs 0 .un .un with⟨h,ρ,e⟩ | ⟨ρ,e⟩
 ·rw[h];simp(config:={ decide:=true }) only[iEn,e,yq,Dm.fn,Dm.aj,Dm.sA,Dm.sR,Dm.sE,Dm.sU,Dm.sIf,Dm.sNx,Dm.bJ,Dm.bP,Dm.bB,Dm.e1,Dm.e2,Dm.eB,Dm.eAs,Dm.eC,Dm.eV,Dm.aT,Dm.aU,Dm.eF,Dm.eIf,Dm.bE,Dm.bO,Dm.tV,Dm.aV,Dm.bI,Dm.tOr,Dm.aD,Dm.pk,Dm.tk,Dm.pks,Dm.tks,RV.aB,RV.dat,Dm.aO,Dm.aL,Dm.bD,Dm.br,Dm.bC,Dm.aH,Dm.bF,Dm.gLt,Dm.gLe,Dm.gGt,Dm.gGe,Dm.bH,Dm.aP,Dm.bq,Dm.aX,Dm.a_,Dm.bf,Dm.bw,Dm.aI,Dm.bR,Dm.isI,Dm.isB,Dm.isL,Dm.isT,Dm.vB,Dm.vI,Mu,ML,gV,Mt,Mw,Mz,gc,Dp,Dk,MB,Mx,My,MN,if_true,if_false,MI,Dm.iR1,Dm.iR2,Dm.iS,Dm.bN,Dm.bT,Dm.sets,reduceIte,MJ,Dm.ak,ME,MF,MH,MG,true_or,or_true,true_and,and_true,decide_true,decide_false,false_or,or_false,false_and,and_false]
 ·simp(config:={ decide:=true }) only[iEn,e,yq,Dm.fn,Dm.aj,Dm.sA,Dm.sR,Dm.sE,Dm.sU,Dm.sIf,Dm.sNx,Dm.bJ,Dm.bP,Dm.bB,Dm.e1,Dm.e2,Dm.eB,Dm.eAs,Dm.eC,Dm.eV,Dm.aT,Dm.aU,Dm.eF,Dm.eIf,Dm.bE,Dm.bO,Dm.tV,Dm.aV,Dm.bI,Dm.tOr,Dm.aD,Dm.pk,Dm.tk,Dm.pks,Dm.tks,RV.aB,RV.dat,Dm.aO,Dm.aL,Dm.bD,Dm.br,Dm.bC,Dm.aH,Dm.bF,Dm.gLt,Dm.gLe,Dm.gGt,Dm.gGe,Dm.bH,Dm.aP,Dm.bq,Dm.aX,Dm.a_,Dm.bf,Dm.bw,Dm.aI,Dm.bR,Dm.isI,Dm.isB,Dm.isL,Dm.isT,Dm.vB,Dm.vI,Mu,ML,gV,Mt,Mw,Mz,gc,Dp,Dk,MB,Mx,My,MN,if_true,if_false,MI,Dm.iR1,Dm.iR2,Dm.iS,Dm.bN,Dm.bT,Dm.sets,reduceIte,MJ,Dm.ak,ME,MF,MH,MG,true_or,or_true,true_and,and_true,decide_true,decide_false,false_or,or_false,false_and,and_false]
theorem fH(a b:Int):∀(gs:List (Int->Int)) (i:Nat),(bU a b i gs=0/\∀f∈gs,f a=f b)\/(∃j f,gs[j]?=some f/\bU a b i gs=((i+j:Nat):Int)+1/\f a≠f b/\∀(j':Nat) f',j'<j->gs[j']?=some f'->f' a=f' b)
 |[],i=>.inl ⟨rfl,fun f h=>by cases h⟩
 |f::gs,i=>by
  by_cases h:f a=f b
  ·have e:bU a b i (f::gs)=bU a b (i+1) gs:=by simp[bU,h]
   rw[e];rcases fH a b gs (i+1) with⟨h1,h2⟩ | ⟨j,g,h1,h2,h3,h4⟩
   ·refine .inl ⟨h1,fun g hg=>?_⟩;rcases MV.mp hg with rfl | hg
    ·exact h
    ·exact h2 g hg
   ·refine .inr ⟨j+1,g,h1,by rw[h2];lia,h3,fun j' f' hj hf=>?_⟩;cases j' with
    |zero=>cases hf;exact h
    |succ j'=>exact h4 j' f' (by lia) hf
  ·exact .inr ⟨0,f,rfl,by simp[bU,h],h,fun j' f' hj=>by lia⟩
def Ends(n:Int)(r:List Tie):Prop:=∀t∈r,0<=t.a/\t.a<n/\0<=t.b/\t.b<n
theorem Good.ends:∀{lo:Int} {r:List Tie},Good n lo r->Ends n r
 |_,[],_,t,h=>by cases h
 |_,u::r,g,t,h=>by
  obtain⟨g1,g2,g3,g4,g5⟩:=g;rcases MV.mp h with rfl | h
  ·exact⟨g2,by lia,by lia,g4⟩
  ·exact Good.ends g5 t h
noncomputable def sS(gs:List (Int->Int))(t:Tie):List (Int->Int):=
 if 0<bU t.a t.b 0 gs then gs.set (bU t.a t.b 0 gs-1).toNat (mgf (gs.getD (bU t.a t.b 0 gs-1).toNat fun x=>x) t.a t.b) else gs
def qS(k:Nat)(gs:List (Int->Int))(r:List Tie)(ms:List Int):Prop:=gs.length=k/\∀(j:Nat) f,gs[j]?=some f->Tells f (lay r ms ((j:Int)+1))
theorem qS.num{k:Nat}(h:qS k gs r ms)(t:Tie):nC k r ms t (bU t.a t.b 0 gs):=by
 obtain⟨hl,ht⟩:=h;rcases fH t.a t.b gs 0 with⟨h1,h2⟩ | ⟨j,f,h1,h2,h3,h4⟩
 ·refine .inl ⟨h1,fun j j1 j2=>?_⟩;have hj:(j-1).toNat<gs.length:=by lia
  have:=(ht (j-1).toNat _ (M7 hj) t.a t.b).mp (h2 _ (Ob hj));rw[show (((j-1).toNat:Nat):Int)+1=j by lia]at this;exact this
 ·have hj:j<gs.length:=(MT.mp h1).1;rw[h2];refine .inr ⟨by lia,by lia,fun c=>h3 ((ht j f h1 t.a t.b).mpr (by rw[show ((0+j:Nat):Int)+1=(j:Int)+1 by lia]at c;exact c)),fun i i1 i2=>?_⟩;have hi:(i-1).toNat<gs.length:=by lia
  have:=(ht (i-1).toNat _ (M7 hi) t.a t.b).mp (h4 (i-1).toNat _ (by lia) (M7 hi));rw[show (((i-1).toNat:Nat):Int)+1=i by lia]at this;exact this
theorem qS.step{k:Nat}(h:qS k gs r ms)(t:Tie):qS k (sS gs t) (t::r) (bU t.a t.b 0 gs::ms):=by
 obtain⟨hl,ht⟩:=h;unfold sS;rcases fH t.a t.b gs 0 with⟨h1,h2⟩ | ⟨j,f,h1,h2,h3,h4⟩
 ·rw[h1];refine⟨by simpa using hl,fun i g hg=>?_⟩;rw[nB,if_neg (by lia)];exact ht i g (by simpa using hg)
 ·have hj:j<gs.length:=(MT.mp h1).1;have e:bU t.a t.b 0 gs=(j:Int)+1:=by rw[h2];lia
  have e2:((j:Int)+1-1).toNat=j:=by lia
  rw[e,if_pos (by lia),e2];have eg:(gs.getD j fun x=>x)=f:=by rw[Np,h1];rfl
  rw[eg];refine⟨by rw[Nr];exact hl,fun i g hg=>?_⟩;rw[nB];by_cases q:j=i
  ·subst q;rw[M8 hj]at hg;cases hg;rw[if_pos rfl];exact tells_mgf (ht j f h1) t t.a t.b (.inl ⟨rfl,rfl⟩)
  ·rw[MC q]at hg;rw[if_neg (by lia)];exact ht i g hg
theorem Dw(n:Nat)(f:Int->Int):aO (lab n f)=true:=rfl
theorem L6(j:Int):j+1-1=j:=by lia
theorem map_set(n:Nat)(gs:List (Int->Int))(i:Nat)(f:Int->Int):(gs.map (lab n)).set i (lab n f)=(gs.set i f).map (lab n):=by rw[List.map_set]
theorem qT(n:Nat)(hn:n<=10)(gs:List (Int->Int))(hk:gs.length<=10)(t:Tie)(a0:0<=t.a)(a1:t.a<n)(b0:0<=t.b)(b1:t.b<n)(ds:List Dat)(hd:ds.length<SZ)(c0 c1 c2 c5 c8:Cell) :
  nh [c0,c1,c2,.ow (.lst (gs.map (lab n))),.ow (.lst ds),c5,.sh (.int t.a),.sh (.int t.b),c8] =
   some (.nx [c0,c1,c2,.ow (.lst ((sS gs t).map (lab n))),.ow (.lst (ds++[.int (bU t.a t.b 0 gs)])),c5,.sh (.int t.a),.sh (.int t.b),.sh (.int (bU t.a t.b 0 gs))]):=by
 have el:=AH n gs t.a t.b a0 a1 b0 b1;have hd':(ds.length<SZ)=True:=by simp[hd]
 unfold nh sS;rcases fH t.a t.b gs 0 with⟨h1,h2⟩ | ⟨j,f,h1,h2,h3,h4⟩
 ·rw[h1]at el ⊢;simp(config:={ decide:=true }) only[el,hd',Dm.fn,Dm.aj,Dm.sA,Dm.sR,Dm.sE,Dm.sU,Dm.sIf,Dm.sNx,Dm.bJ,Dm.bP,Dm.bB,Dm.e1,Dm.e2,Dm.eB,Dm.eAs,Dm.eC,Dm.eV,Dm.aT,Dm.aU,Dm.eF,Dm.eIf,Dm.bE,Dm.bO,Dm.tV,Dm.aV,Dm.bI,Dm.tOr,Dm.aD,Dm.pk,Dm.tk,Dm.pks,Dm.tks,RV.aB,RV.dat,Dm.aO,Dm.aL,Dm.bD,Dm.br,Dm.bC,Dm.aH,Dm.bF,Dm.gLt,Dm.gLe,Dm.gGt,Dm.gGe,Dm.bH,Dm.aP,Dm.bq,Dm.aX,Dm.a_,Dm.bf,Dm.bw,Dm.aI,Dm.bR,Dm.isI,Dm.isB,Dm.isL,Dm.isT,Dm.vB,Dm.vI,Mu,ML,gV,Mt,Mw,Mz,gc,Dp,Dk,MB,Mx,My,MN,if_true,if_false,MI,Dm.iR1,Dm.iR2,Dm.iS,Dm.bN,Dm.bT,Dm.sets,reduceIte,MJ,Dm.ak,ME,MF,MH,MG,true_or,or_true,true_and,and_true,decide_true,decide_false,false_or,or_false,false_and,and_false]
 ·have hj:j<gs.length:=(MT.mp h1).1;have e:bU t.a t.b 0 gs=(j:Int)+1:=by rw[h2];lia
  have eg:(gs.getD j fun x=>x)=f:=by rw[Np,h1];rfl
  have e2:((j:Int)+1-1).toNat=j:=by lia
  rw[e]at el ⊢;have p:(0<(j:Int)+1)=True:=by simp only[eq_iff_iff,iff_true];lia
  have ix:ixN gs.length (j:Int)=some j:=by unfold ixN;rw[if_pos (by lia),if_pos (by lia)];simp
  have gi:gIx (.lst (gs.map (lab n))) (.int (j:Int))=some (.val (lab n f)):=by unfold gIx atI;simp only[MP,ix];show (((gs.map (lab n))[j]?).map RV.val)=_;rw[M0,h1];rfl
  have em:=yu n hn f t.a t.b a0 a1 b0 b1;simp only[p,if_true,e2,eg,<- map_set];simp(config:={ decide:=true }) only[el,p,L6,gi,em,Dw,MP,ix,hd',Dm.fn,Dm.aj,Dm.sA,Dm.sR,Dm.sE,Dm.sU,Dm.sIf,Dm.sNx,Dm.bJ,Dm.bP,Dm.bB,Dm.e1,Dm.e2,Dm.eB,Dm.eAs,Dm.eC,Dm.eV,Dm.aT,Dm.aU,Dm.eF,Dm.eIf,Dm.bE,Dm.bO,Dm.tV,Dm.aV,Dm.bI,Dm.tOr,Dm.aD,Dm.pk,Dm.tk,Dm.pks,Dm.tks,RV.aB,RV.dat,fW,kT,iA,iB,Dm.bD,Dm.br,Dm.bC,Dm.aH,Dm.bF,Dm.gLt,Dm.gLe,Dm.gGt,Dm.gGe,Dm.bH,Dm.aP,Dm.aX,Dm.a_,Dm.bf,Dm.bR,Dm.vB,Dm.vI,Mu,ML,gV,Mt,Mw,Mz,gc,Dp,Dk,MB,Mx,My,MN,if_true,if_false,MI,Dm.iR1,Dm.iR2,Dm.iS,Dm.bN,Dm.bT,Dm.sets,reduceIte,MJ,Dm.ak,ME,MF,MH,MG,true_or,or_true,true_and,and_true,decide_true,decide_false,false_or,or_false,false_and,and_false]
theorem j7(n k:Nat)(hn:n<=10)(hk:k<=10)(c0 c1 c2:Cell):∀(xs ys:List Tie) (ms:List Int) (gs:List (Int->Int)) (c5 c6 c7 c8:Cell),Ends n xs->qS k gs ys ms->cX k ys ms->xs.length+ys.length<SZ ->
  ∃(ms':List Int) (gs':List (Int->Int)) (c5' c6' c7' c8':Cell),dG (bT [5,6,7]) nh (xs.map bS) [c0,c1,c2,.ow (.lst (gs.map (lab n))),.ow (.lst (ms.reverse.map Dat.int)),c5,c6,c7,c8] =
   some (.nx [c0,c1,c2,.ow (.lst (gs'.map (lab n))),.ow (.lst (ms'.reverse.map Dat.int)),c5',c6',c7',c8'])/\cX k (xs.reverse++ys) ms'
 |[],ys,ms,gs,c5,c6,c7,c8,_,_,ha,_=>⟨ms,gs,c5,c6,c7,c8,rfl,ha⟩
 |t::xs,ys,ms,gs,c5,c6,c7,c8,he,hi,ha,hs=>by
  obtain⟨a0,a1,b0,b1⟩:=he t MM;rw[Mu,dG];have hb:bT [5,6,7] (bS t) [c0,c1,c2,.ow (.lst (gs.map (lab n))),.ow (.lst (ms.reverse.map Dat.int)),c5,c6,c7,c8]=some [c0,c1,c2,.ow (.lst (gs.map (lab n))),.ow (.lst (ms.reverse.map Dat.int)),.sh (.int t.m),.sh (.int t.a),.sh (.int t.b),c8]:=rfl;rw[hb];dsimp only;have hl:=ha.len;have hs':ys.length+(xs.length+1)<SZ:=by simp only[gV]at hs;lia
  rw[qT n hn gs (by rw[hi.1];exact hk) t a0 a1 b0 b1 (ms.reverse.map Dat.int) (by simp;lia)];dsimp only;obtain⟨ms',gs',d5,d6,d7,d8,e,al⟩:=j7 n k hn hk c0 c1 c2 xs (t::ys) (bU t.a t.b 0 gs::ms) (sS gs t) (.sh (.int t.m)) (.sh (.int t.a)) (.sh (.int t.b)) (.sh (.int (bU t.a t.b 0 gs))) (fun u hu=>he u (MK _ hu)) (hi.step t) ⟨ha,hi.num t⟩ (by simp only[gV];lia);refine⟨ms',gs',d5,d6,d7,d8,?_,by simpa using al⟩;rw[<- e,Pd,NO];rfl
theorem AI(i:Int):Ay [.int i]=some (.val (.bl true)):=by
 apply P9;unfold Ay
 (refine Dm.P7 ?_ rfl rfl;and_intros)
 refine P4 (Qv (Qk (N_ rfl (Qh (v:=.val (.bl true)) (PX (Qc ?_)) rfl rfl))));exact⟨_,_,rfl,rfl⟩
theorem yw(i lo hi:Int)(h1:lo<=i)(h2:i<=hi):iY [.int i,.int lo,.int hi]=some (.val (.bl true)):=by
 apply P9;unfold iY
 (refine Dm.P7 ?_ rfl rfl;and_intros)
 refine P4 (Qv (P0 (m_ (N_ rfl (M_ (PY (AI i) (PX (Qc ?_)) rfl rfl))))));have e1:gLe (.int lo) (.int i)=some (.val (.bl true)):=by show vB (decide (lo<=i))=_;rw[decide_eq_true h1]
 have e2:gLe (.int i) (.int hi)=some (.val (.bl true)):=by show vB (decide (i<=hi))=_;rw[decide_eq_true h2]
 have e:ak gLe gLe (eV 1) (eV 0) (eV 2) [.sh (.int i),.sh (.int lo),.sh (.int hi)]=some (.val (.bl true),[.sh (.int i),.sh (.int lo),.sh (.int hi)]):=by unfold ak;simp only[eV,Dp,Dk,pk,e1,e2,RV.aB]
 exact⟨_,_,e,rfl⟩
theorem yx(k:Int)(h1:1<=k)(h6:k<=6):Dr [.int k]=some (.val .non):=by
 have e:kQ [.int k]=some (.val (.bl true)):=by
  apply P9;unfold kQ
  (refine Dm.P7 ?_ rfl rfl;and_intros)
  exact P4 (P0 (m_ (N_ rfl (m_ (PU (m_ (PU (M_ (PY (yw k 1 6 h1 h6) rfl rfl rfl)))))))))
 apply P9;unfold Dr
 (refine Dm.P7 ?_ rfl rfl;and_intros)
 exact P6 (P1 (PZ (P0 (m_ (N_ rfl (M_ (PY e (PX (P_ (Qa rfl))) rfl rfl)))))))
theorem comp_const(d:Dat)(i0:Nat)(bd:FB)(el:FE)(pre:Env)(step:∀(d:Dat) (c:Cell),bd d (pre++[c])=some (pre++[.sh d]))(LV:∀c:Cell,el (pre++[c])=some (.new d,pre++[c])):∀(xs:List Dat) (c:Cell) (qN:List Dat),
  ∃c',cZ bd aD el xs (pre++[c]) qN=some (qN++gc xs.length d,pre++[c'])
 |[],c,qN=>⟨c,by simp[cZ]⟩
 |x::xs,c,qN=>by rw[cZ,step];dsimp only[aD];rw[LV];dsimp only[tk];obtain⟨c',e⟩:=comp_const d i0 bd el pre step LV xs (.sh x) (qN++[d]);exact⟨c',by rw[e,gV,Nx];simp⟩
theorem qU(lo:Int)(n:Nat):(ups lo n).length=n:=by simp[ups]
theorem uZ(n k:Nat)(hn:n<=10)(hk1:1<=k)(hk6:k<=6)(r:List Tie)(hr:Ends n r)(hl:r.length<=1000):∃ms:List Int,wz [.int n,av r,.int k]=some (.new (.lst (ms.map Dat.int)))/\cX k r ms:=by
 have G6:qS k (gc k fun x=>x) [] []:=⟨by simp,fun j f hf=>by have hm:=Ot (NX hf);subst hm;exact tells_nil⟩
 have er:Ends n r.reverse:=fun t ht=>hr t (List.mem_reverse.mp ht);obtain⟨ms,gs,d5,d6,d7,d8,e,al⟩:=j7 n k hn (by lia) (.sh (.int n)) (.sh (av r)) (.sh (.int k)) r.reverse [] [] (gc k fun x=>x) .un .un .un .un er G6 trivial (by simp[SZ];lia);rw[List.reverse_reverse,Nl]at al;refine⟨ms,?_,al⟩;have lk:=yx k (by lia) (by lia);have hb:((k:Int)<=BIG/\-BIG<=(k:Int))=True:=by simp only[eq_iff_iff,iff_true];unfold BIG;lia
 have gl:gw [.int (n:Int)]=some (.new (lab n fun x=>x)):=by unfold gw;dsimp only;rw[if_pos (by lia),NF,AG]
 have LV:∀c:Cell,(eB gw [(eV 0)]) ([.sh (.int n),.sh (av r),.sh (.int k),.un,.un,.un,.un,.un,.un]++[c])=some (.new (lab n fun x=>x),[.sh (.int n),.sh (av r),.sh (.int k),.un,.un,.un,.un,.un,.un]++[c]):=fun c=>by simp(config:={ decide:=true }) only[gl,Dm.fn,Dm.aj,Dm.sA,Dm.sR,Dm.sE,Dm.sU,Dm.sIf,Dm.sNx,Dm.bJ,Dm.bP,Dm.bB,Dm.e1,Dm.e2,Dm.eB,Dm.eAs,Dm.eC,Dm.eV,Dm.aT,Dm.aU,Dm.eF,Dm.eIf,Dm.bE,Dm.bO,Dm.tV,Dm.aV,Dm.bI,Dm.tOr,Dm.aD,Dm.pk,Dm.tk,Dm.pks,Dm.tks,RV.aB,RV.dat,Dm.aO,Dm.aL,Dm.bD,Dm.br,Dm.bC,Dm.aH,Dm.bF,Dm.gLt,Dm.gLe,Dm.gGt,Dm.gGe,Dm.bH,Dm.aP,Dm.bq,Dm.aX,Dm.a_,Dm.bf,Dm.bw,Dm.aI,Dm.bR,Dm.isI,Dm.isB,Dm.isL,Dm.isT,Dm.vB,Dm.vI,Mu,ML,gV,Mt,Mw,Mz,gc,Dp,Dk,MB,Mx,My,MN,if_true,if_false,MI,Dm.iR1,Dm.iR2,Dm.iS,Dm.bN,Dm.bT,Dm.sets,reduceIte,MJ,Dm.ak,ME,MF,MH,MG,true_or,or_true,true_and,and_true,decide_true,decide_false,false_or,or_false,false_and,and_false]
 obtain⟨c',ec⟩:=comp_const (lab n fun x=>x) 0 (bN 9) _ [.sh (.int n),.sh (av r),.sh (.int k),.un,.un,.un,.un,.un,.un] (fun _ _=>rfl) LV (ups 0 k) .un [];have cp:cP (iR1 (eV 2)) 1 (bN 9) aD (eB gw [(eV 0)]) [.sh (.int n),.sh (av r),.sh (.int k),.un,.un,.un,.un,.un,.un]=some (.new (.lst ((gc k fun x=>x).map (lab n))),[.sh (.int n),.sh (av r),.sh (.int k),.un,.un,.un,.un,.un,.un]):=by
  unfold cP;have it:iR1 (eV 2) [.sh (.int n),.sh (av r),.sh (.int k),.un,.un,.un,.un,.un,.un]=some (ups 0 k,[.sh (.int n),.sh (av r),.sh (.int k),.un,.un,.un,.un,.un,.un]):=by simp(config:={ decide:=true }) only[hb,NF,Dm.fn,Dm.aj,Dm.sA,Dm.sR,Dm.sE,Dm.sU,Dm.sIf,Dm.sNx,Dm.bJ,Dm.bP,Dm.bB,Dm.e1,Dm.e2,Dm.eB,Dm.eAs,Dm.eC,Dm.eV,Dm.aT,Dm.aU,Dm.eF,Dm.eIf,Dm.bE,Dm.bO,Dm.tV,Dm.aV,Dm.bI,Dm.tOr,Dm.aD,Dm.pk,Dm.tk,Dm.pks,Dm.tks,RV.aB,RV.dat,Dm.aO,Dm.aL,Dm.bD,Dm.br,Dm.bC,Dm.aH,Dm.bF,Dm.gLt,Dm.gLe,Dm.gGt,Dm.gGe,Dm.bH,Dm.aP,Dm.bq,Dm.aX,Dm.a_,Dm.bf,Dm.bw,Dm.aI,Dm.bR,Dm.isI,Dm.isB,Dm.isL,Dm.isT,Dm.vB,Dm.vI,Mu,ML,gV,Mt,Mw,Mz,gc,Dp,Dk,MB,Mx,My,MN,if_true,if_false,MI,Dm.iR1,Dm.iR2,Dm.iS,Dm.bN,Dm.bT,Dm.sets,reduceIte,MJ,Dm.ak,ME,MF,MH,MG,true_or,or_true,true_and,and_true,decide_true,decide_false,false_or,or_false,false_and,and_false]
  rw[it];dsimp only;rw[if_pos (by rw[qU];simp[SZ];lia)];have:[Cell.sh (.int n),.sh (av r),.sh (.int k),.un,.un,.un,.un,.un,.un]++gc 1 Cell.un=[.sh (.int n),.sh (av r),.sh (.int k),.un,.un,.un,.un,.un,.un]++[.un]:=rfl;rw[this,ec];dsimp only;rw[qU,Mw,List.map_replicate];rfl
 have z0:(0<=SZ)=True:=by simp
 have itr:x8 (eV 1) [.sh (.int n),.sh (av r),.sh (.int k),.ow (.lst ((gc k fun x=>x).map (lab n))),.ow (.lst []),.un,.un,.un,.un]=some (r.reverse.map bS,[.sh (.int n),.sh (av r),.sh (.int k),.ow (.lst ((gc k fun x=>x).map (lab n))),.ow (.lst []),.un,.un,.un,.un]):=by unfold x8 av;simp(config:={ decide:=true }) only[List.map_reverse,Dm.fn,Dm.aj,Dm.sA,Dm.sR,Dm.sE,Dm.sU,Dm.sIf,Dm.sNx,Dm.bJ,Dm.bP,Dm.bB,Dm.e1,Dm.e2,Dm.eB,Dm.eAs,Dm.eC,Dm.eV,Dm.aT,Dm.aU,Dm.eF,Dm.eIf,Dm.bE,Dm.bO,Dm.tV,Dm.aV,Dm.bI,Dm.tOr,Dm.aD,Dm.pk,Dm.tk,Dm.pks,Dm.tks,RV.aB,RV.dat,Dm.aO,Dm.aL,Dm.bD,Dm.br,Dm.bC,Dm.aH,Dm.bF,Dm.gLt,Dm.gLe,Dm.gGt,Dm.gGe,Dm.bH,Dm.aP,Dm.bq,Dm.aX,Dm.a_,Dm.bf,Dm.bw,Dm.aI,Dm.bR,Dm.isI,Dm.isB,Dm.isL,Dm.isT,Dm.vB,Dm.vI,Mu,ML,gV,Mt,Mw,Mz,gc,Dp,Dk,MB,Mx,My,MN,if_true,if_false,MI,Dm.iR1,Dm.iR2,Dm.iS,Dm.bN,Dm.bT,Dm.sets,reduceIte,MJ,Dm.ak,ME,MF,MH,MG,true_or,or_true,true_and,and_true,decide_true,decide_false,false_or,or_false,false_and,and_false]
 unfold wz;refine(qd (ρ:=[.sh (.int n),.sh (av r),.sh (.int k),.un,.un,.un,.un,.un,.un]) rfl rfl).trans ?_;have e':dG (bT [5,6,7]) nh (r.reverse.map bS) [.sh (.int n),.sh (av r),.sh (.int k),.ow (.lst ((gc k fun x=>x).map (lab n))),.ow (.lst []),.un,.un,.un,.un]=_:=e;have gr:kJ (.lst (ms.reverse.map Dat.int))=some (.new (.lst (ms.map Dat.int))):=by unfold kJ;dsimp only;rw[<- List.map_reverse,List.reverse_reverse]
 simp(config:={ decide:=true }) only[lk,cp,z0,itr,e',gr,yq,Dm.fn,Dm.aj,Dm.sA,Dm.sR,Dm.sE,Dm.sU,Dm.sIf,Dm.sNx,Dm.bJ,Dm.bP,Dm.bB,Dm.e1,Dm.e2,Dm.eB,Dm.eAs,Dm.eC,Dm.eV,Dm.aT,Dm.aU,Dm.eF,Dm.eIf,Dm.bE,Dm.bO,Dm.tV,Dm.aV,Dm.bI,Dm.tOr,Dm.aD,Dm.pk,Dm.tk,Dm.pks,Dm.tks,RV.aB,RV.dat,Dm.aO,Dm.aL,Dm.bD,Dm.br,Dm.bC,Dm.aH,Dm.bF,Dm.gLt,Dm.gLe,Dm.gGt,Dm.gGe,Dm.bH,Dm.aP,Dm.bq,Dm.aX,Dm.a_,Dm.bf,Dm.bw,Dm.aI,Dm.bR,Dm.isI,Dm.isB,Dm.isL,Dm.isT,Dm.vB,Dm.vI,Mu,ML,gV,Mt,Mw,Mz,gc,Dp,Dk,MB,Mx,My,MN,if_true,if_false,MI,Dm.iR1,Dm.iR2,Dm.iS,Dm.bN,Dm.bT,Dm.sets,reduceIte,MJ,Dm.ak,ME,MF,MH,MG,true_or,or_true,true_and,and_true,decide_true,decide_false,false_or,or_false,false_and,and_false]
theorem G6(k:Nat):qS k ((Ni k).map fun _=>(fun x:Int=>x)) [] []:=⟨by simp,fun j f hf=>by
 rw[M0]at hf;cases h:(Ni k)[j]? with
 |none=>rw[h]at hf;cases hf
 |some x=>rw[h]at hf;cases hf;exact tells_nil⟩
theorem sV(n:Nat)(hn:n<=10)(f:Int->Int)(t:Tie)(a0:0<=t.a)(a1:t.a<n)(b0:0<=t.b)(b1:t.b<n)(c0 c1 c2 c3 c5 c8 c9:Cell) :
  ni [c0,c1,c2,c3,.ow (lab n f),c5,.sh (.int t.a),.sh (.int t.b),c8,c9]=some (.nx [c0,c1,c2,c3,.ow (lab n (mgf f t.b t.a)),c5,.sh (.int t.a),.sh (.int t.b),.sh (.int (f t.a)),.sh (.int (f t.b))]):=by
 have ia:=gP n f t.a a0 a1;have ib:=gP n f t.b b0 b1;have LV:∀i:Int,(eIf (tV (e2 gEq (eV 10) (eV 8))) (eV 9) (eV 10)) ([c0,c1,c2,c3,.un,c5,.sh (.int t.a),.sh (.int t.b),.sh (.int (f t.a)),.sh (.int (f t.b))]++[.sh (.int i)])=some (.val (.int (if i=f t.a then f t.b else i)),[c0,c1,c2,c3,.un,c5,.sh (.int t.a),.sh (.int t.b),.sh (.int (f t.a)),.sh (.int (f t.b))]++[.sh (.int i)]):=fun i=>by
  by_cases h:i=f t.a
  ·have h':(i=f t.a)=True:=by simp[h]
   simp(config:={ decide:=true }) only[eq_int,h',Dm.fn,Dm.aj,Dm.sA,Dm.sR,Dm.sE,Dm.sU,Dm.sIf,Dm.sNx,Dm.bJ,Dm.bP,Dm.bB,Dm.e1,Dm.e2,Dm.eB,Dm.eAs,Dm.eC,Dm.eV,Dm.aT,Dm.aU,Dm.eF,Dm.eIf,Dm.bE,Dm.bO,Dm.tV,Dm.aV,Dm.bI,Dm.tOr,Dm.aD,Dm.pk,Dm.tk,Dm.pks,Dm.tks,RV.aB,RV.dat,Dm.aO,Dm.aL,Dm.bD,Dm.br,Dm.bC,Dm.aH,Dm.bF,Dm.gLt,Dm.gLe,Dm.gGt,Dm.gGe,Dm.bH,Dm.aP,Dm.bq,Dm.aX,Dm.a_,Dm.bf,Dm.bw,Dm.aI,Dm.bR,Dm.isI,Dm.isB,Dm.isL,Dm.isT,Dm.vB,Dm.vI,Mu,ML,gV,Mt,Mw,Mz,gc,Dp,Dk,MB,Mx,My,MN,if_true,if_false,MI,Dm.iR1,Dm.iR2,Dm.iS,Dm.bN,Dm.bT,Dm.sets,reduceIte,MJ,Dm.ak,ME,MF,MH,MG,true_or,or_true,true_and,and_true,decide_true,decide_false,false_or,or_false,false_and,and_false]
  ·have h':(i=f t.a)=False:=by simp[h]
   simp(config:={ decide:=true }) only[eq_int,h',Dm.fn,Dm.aj,Dm.sA,Dm.sR,Dm.sE,Dm.sU,Dm.sIf,Dm.sNx,Dm.bJ,Dm.bP,Dm.bB,Dm.e1,Dm.e2,Dm.eB,Dm.eAs,Dm.eC,Dm.eV,Dm.aT,Dm.aU,Dm.eF,Dm.eIf,Dm.bE,Dm.bO,Dm.tV,Dm.aV,Dm.bI,Dm.tOr,Dm.aD,Dm.pk,Dm.tk,Dm.pks,Dm.tks,RV.aB,RV.dat,Dm.aO,Dm.aL,Dm.bD,Dm.br,Dm.bC,Dm.aH,Dm.bF,Dm.gLt,Dm.gLe,Dm.gGt,Dm.gGe,Dm.bH,Dm.aP,Dm.bq,Dm.aX,Dm.a_,Dm.bf,Dm.bw,Dm.aI,Dm.bR,Dm.isI,Dm.isB,Dm.isL,Dm.isT,Dm.vB,Dm.vI,Mu,ML,gV,Mt,Mw,Mz,gc,Dp,Dk,MB,Mx,My,MN,if_true,if_false,MI,Dm.iR1,Dm.iR2,Dm.iS,Dm.bN,Dm.bT,Dm.sets,reduceIte,MJ,Dm.ak,ME,MF,MH,MG,true_or,or_true,true_and,and_true,decide_true,decide_false,false_or,or_false,false_and,and_false]
 obtain⟨c',e⟩:=comp_map (fun i=>if i=f t.a then f t.b else i) (bN 10) _ [c0,c1,c2,c3,.un,c5,.sh (.int t.a),.sh (.int t.b),.sh (.int (f t.a)),.sh (.int (f t.b))] (fun _ _=>rfl) LV ((Ni n).map fun(i:Nat)=>f i) .un [];have hz:(((Ni n).map fun(i:Nat)=>f i).map Dat.int).length<=SZ:=by simp[SZ];lia
 have cp:cU 4 1 (bN 10) aD (eIf (tV (e2 gEq (eV 10) (eV 8))) (eV 9) (eV 10)) [c0,c1,c2,c3,.ow (lab n f),c5,.sh (.int t.a),.sh (.int t.b),.sh (.int (f t.a)),.sh (.int (f t.b))]=some (.new (lab n (mgf f t.b t.a)),[c0,c1,c2,c3,.ow (lab n f),c5,.sh (.int t.a),.sh (.int t.b),.sh (.int (f t.a)),.sh (.int (f t.b))]):=by
  unfold cU;rw[wL n f];simp only[Dk,Dp];rw[if_pos hz];have:[c0,c1,c2,c3,.ow (.lst (((Ni n).map fun(i:Nat)=>f i).map Dat.int)),c5,.sh (.int t.a),.sh (.int t.b),.sh (.int (f t.a)),.sh (.int (f t.b))].set 4 Cell.un++gc 1 Cell.un=[c0,c1,c2,c3,.un,c5,.sh (.int t.a),.sh (.int t.b),.sh (.int (f t.a)),.sh (.int (f t.b))]++[.un]:=rfl;rw[this,e];dsimp only;have e3:Dat.lst ([]++((Ni n).map fun(i:Nat)=>f i).map fun i=>Dat.int (if i=f t.a then f t.b else i))=lab n (mgf f t.b t.a):=by unfold lab mgf;rw[Mw,Nv];rfl
  rw[e3];rfl
 unfold ni;simp(config:={ decide:=true }) only[ia,ib,cp,Dm.fn,Dm.aj,Dm.sA,Dm.sR,Dm.sE,Dm.sU,Dm.sIf,Dm.sNx,Dm.bJ,Dm.bP,Dm.bB,Dm.e1,Dm.e2,Dm.eB,Dm.eAs,Dm.eC,Dm.eV,Dm.aT,Dm.aU,Dm.eF,Dm.eIf,Dm.bE,Dm.bO,Dm.tV,Dm.aV,Dm.bI,Dm.tOr,Dm.aD,Dm.pk,Dm.tk,Dm.pks,Dm.tks,RV.aB,RV.dat,Dm.aO,Dm.aL,Dm.bD,Dm.br,Dm.bC,Dm.aH,Dm.bF,Dm.gLt,Dm.gLe,Dm.gGt,Dm.gGe,Dm.bH,Dm.aP,Dm.bq,Dm.aX,Dm.a_,Dm.bf,Dm.bw,Dm.aI,Dm.bR,Dm.isI,Dm.isB,Dm.isL,Dm.isT,Dm.vB,Dm.vI,Mu,ML,gV,Mt,Mw,Mz,gc,Dp,Dk,MB,Mx,My,MN,if_true,if_false,MI,Dm.iR1,Dm.iR2,Dm.iS,Dm.bN,Dm.bT,Dm.sets,reduceIte,MJ,Dm.ak,ME,MF,MH,MG,true_or,or_true,true_and,and_true,decide_true,decide_false,false_or,or_false,false_and,and_false]
theorem lD(n:Nat)(hn:n<=10)(c0 c1 c2 c3:Cell):∀(ts:List Tie) (f:Int->Int) (c5 c6 c7 c8 c9:Cell),Ends n ts ->
  ∃c5' c6' c7' c8' c9',dG (bT [5,6,7]) ni (ts.map bS) [c0,c1,c2,c3,.ow (lab n f),c5,c6,c7,c8,c9]=some (.nx [c0,c1,c2,c3,.ow (lab n (fG f ts)),c5',c6',c7',c8',c9'])
 |[],f,c5,c6,c7,c8,c9,_=>⟨c5,c6,c7,c8,c9,rfl⟩
 |t::ts,f,c5,c6,c7,c8,c9,he=>by obtain⟨a0,a1,b0,b1⟩:=he t MM;rw[Mu,dG];have hb:bT [5,6,7] (bS t) [c0,c1,c2,c3,.ow (lab n f),c5,c6,c7,c8,c9]=some [c0,c1,c2,c3,.ow (lab n f),.sh (.int t.m),.sh (.int t.a),.sh (.int t.b),c8,c9]:=rfl;rw[hb];dsimp only;rw[sV n hn f t a0 a1 b0 b1];exact lD n hn c0 c1 c2 c3 ts _ _ _ _ _ _ fun u hu=>he u (MK _ hu)
theorem Dy(n:Nat)(hn:n<=10):gw [.int (n:Int)]=some (.new (lab n fun x=>x)):=by unfold gw;dsimp only;rw[if_pos (by lia),NF,AG]
theorem yz(n:Nat)(hn:n<=10)(ts:List Tie)(he:Ends n ts)(a b:Int)(a0:0<=a)(a1:a<n)(b0:0<=b)(b1:b<n) :
  wI [.int n,av ts,.int a,.int b]=some (.val (.bl (decide (fG (fun x=>x) ts a=fG (fun x=>x) ts b)))):=by
 obtain⟨d5,d6,d7,d8,d9,e⟩:=lD n hn (.sh (.int n)) (.sh (av ts)) (.sh (.int a)) (.sh (.int b)) ts (fun x=>x) .un .un .un .un .un he;have gl:=Dy n hn;have ia:=gP n (fG (fun x=>x) ts) a a0 a1;have ib:=gP n (fG (fun x=>x) ts) b b0 b1;have it:∀c,iS (eV 1) [.sh (.int n),.sh (av ts),.sh (.int a),.sh (.int b),c,.un,.un,.un,.un,.un]=some (ts.map bS,[.sh (.int n),.sh (av ts),.sh (.int a),.sh (.int b),c,.un,.un,.un,.un,.un]):=fun c=>rfl;have sf:∀yi,aj (bB (iS (eV 1)) (bT [5,6,7]) ni) yi [.sh (.int n),.sh (av ts),.sh (.int a),.sh (.int b),.ow (lab n fun x=>x),.un,.un,.un,.un,.un]=yi [.sh (.int n),.sh (av ts),.sh (.int a),.sh (.int b),.ow (lab n (fG (fun x=>x) ts)),d5,d6,d7,d8,d9]:=fun yi=>by unfold aj bB;rw[it];dsimp only;rw[e]
 unfold wI;refine(qd (ρ:=[.sh (.int n),.sh (av ts),.sh (.int a),.sh (.int b),.un,.un,.un,.un,.un,.un]) rfl rfl).trans ?_;rw[show ∀yi,aj (sA 4 (eB gw [(eV 0)])) yi [.sh (.int n),.sh (av ts),.sh (.int a),.sh (.int b),.un,.un,.un,.un,.un,.un]=yi [.sh (.int n),.sh (av ts),.sh (.int a),.sh (.int b),.ow (lab n fun x=>x),.un,.un,.un,.un,.un] from fun yi=>by simp(config:={ decide:=true }) only[gl,Dm.fn,Dm.aj,Dm.sA,Dm.sR,Dm.sE,Dm.sU,Dm.sIf,Dm.sNx,Dm.bJ,Dm.bP,Dm.bB,Dm.e1,Dm.e2,Dm.eB,Dm.eAs,Dm.eC,Dm.eV,Dm.aT,Dm.aU,Dm.eF,Dm.eIf,Dm.bE,Dm.bO,Dm.tV,Dm.aV,Dm.bI,Dm.tOr,Dm.aD,Dm.pk,Dm.tk,Dm.pks,Dm.tks,RV.aB,RV.dat,Dm.aO,Dm.aL,Dm.bD,Dm.br,Dm.bC,Dm.aH,Dm.bF,Dm.gLt,Dm.gLe,Dm.gGt,Dm.gGe,Dm.bH,Dm.aP,Dm.bq,Dm.aX,Dm.a_,Dm.bf,Dm.bw,Dm.aI,Dm.bR,Dm.isI,Dm.isB,Dm.isL,Dm.isT,Dm.vB,Dm.vI,Mu,ML,gV,Mt,Mw,Mz,gc,Dp,Dk,MB,Mx,My,MN,if_true,if_false,MI,Dm.iR1,Dm.iR2,Dm.iS,Dm.bN,Dm.bT,Dm.sets,reduceIte,MJ,Dm.ak,ME,MF,MH,MG,true_or,or_true,true_and,and_true,decide_true,decide_false,false_or,or_false,false_and,and_false]];rw[sf];simp(config:={ decide:=true }) only[ia,ib,eq_int,yq,Dm.fn,Dm.aj,Dm.sA,Dm.sR,Dm.sE,Dm.sU,Dm.sIf,Dm.sNx,Dm.bJ,Dm.bP,Dm.bB,Dm.e1,Dm.e2,Dm.eB,Dm.eAs,Dm.eC,Dm.eV,Dm.aT,Dm.aU,Dm.eF,Dm.eIf,Dm.bE,Dm.bO,Dm.tV,Dm.aV,Dm.bI,Dm.tOr,Dm.aD,Dm.pk,Dm.tk,Dm.pks,Dm.tks,RV.aB,RV.dat,Dm.aO,Dm.aL,Dm.bD,Dm.br,Dm.bC,Dm.aH,Dm.bF,Dm.gLt,Dm.gLe,Dm.gGt,Dm.gGe,Dm.bH,Dm.aP,Dm.bq,Dm.aX,Dm.a_,Dm.bf,Dm.bw,Dm.aI,Dm.bR,Dm.isI,Dm.isB,Dm.isL,Dm.isT,Dm.vB,Dm.vI,Mu,ML,gV,Mt,Mw,Mz,gc,Dp,Dk,MB,Mx,My,MN,if_true,if_false,MI,Dm.iR1,Dm.iR2,Dm.iS,Dm.bN,Dm.bT,Dm.sets,reduceIte,MJ,Dm.ak,ME,MF,MH,MG,true_or,or_true,true_and,and_true,decide_true,decide_false,false_or,or_false,false_and,and_false]
theorem AJ(r:List Tie)(s:Nat)(t:Tie)(h:r[s]?=some t):gIx (av r) (.int (s:Nat))=some (.val (bS t)):=by have hs:s<r.length:=(MT.mp h).1;unfold av gIx atI ixN;simp only[MP];rw[if_pos (by lia),if_pos (by lia)];show (((r.map bS)[(s:Int).toNat]?).map RV.val)=_;rw[NF,M0,h];rfl
theorem G7(N:List Int)(s:Nat)(m:Int)(h:N[s]?=some m):gIx (.lst (N.map Dat.int)) (.int (s:Nat))=some (.val (.int m)):=by have hs:s<N.length:=(MT.mp h).1;unfold gIx atI ixN;simp only[MP];rw[if_pos (by lia),if_pos (by lia)];show (((N.map Dat.int)[(s:Int).toNat]?).map RV.val)=_;rw[NF,M0,h];rfl
theorem fR{l r:List α}{s:Nat}{x:α}(h:l.drop s=x::r):l[s]?=some x/\l.drop (s+1)=r:=by
 constructor
 ·have:=congrArg (fun z=>z[0]?) h
  simpa [OZ] using this
 ·rw[show s+1=s+1 from rfl,<- PC,h];rfl
theorem nE(r:List Tie)(N:List Int)(j:Int)(c0 c2 c4 c6:Cell):∀(rs:List Tie) (ms:List Int) (s:Nat) (c:Cell) (qN:List Dat),rs.length=ms.length->r.drop s=rs->N.drop s=ms ->
  ∃c',cZ (bN 7) (tV (e2 gEq (e2 gIx (eV 3) (eV 7)) (eV 5))) (e2 gIx (eV 1) (eV 7)) (ups (s:Nat) rs.length) [c0,.sh (av r),c2,.ow (.lst (N.map Dat.int)),c4,.sh (.int j),c6,c] qN =
   some (qN++(lay rs ms j).map bS,[c0,.sh (av r),c2,.ow (.lst (N.map Dat.int)),c4,.sh (.int j),c6,c'])
 |[],[],s,c,qN,_,_,_=>⟨c,by simp[cZ,ny,Dv]⟩
 |t::rs,m::ms,s,c,qN,hl,hr,hN=>by
  obtain⟨r1,r2⟩:=fR hr;obtain⟨n1,n2⟩:=fR hN;have i1:=AJ r s t r1;have i2:=G7 N s m n1;rw[gV,nA,cZ];have hb:bN 7 (.int (s:Nat)) [c0,.sh (av r),c2,.ow (.lst (N.map Dat.int)),c4,.sh (.int j),c6,c]=some [c0,.sh (av r),c2,.ow (.lst (N.map Dat.int)),c4,.sh (.int j),c6,.sh (.int (s:Nat))]:=rfl;rw[hb];dsimp only;have te:tV (e2 gEq (e2 gIx (eV 3) (eV 7)) (eV 5)) [c0,.sh (av r),c2,.ow (.lst (N.map Dat.int)),c4,.sh (.int j),c6,.sh (.int (s:Nat))]=some (decide (m=j),[c0,.sh (av r),c2,.ow (.lst (N.map Dat.int)),c4,.sh (.int j),c6,.sh (.int (s:Nat))]):=by simp(config:={ decide:=true }) only[i2,eq_int,Dm.fn,Dm.aj,Dm.sA,Dm.sR,Dm.sE,Dm.sU,Dm.sIf,Dm.sNx,Dm.bJ,Dm.bP,Dm.bB,Dm.e1,Dm.e2,Dm.eB,Dm.eAs,Dm.eC,Dm.eV,Dm.aT,Dm.aU,Dm.eF,Dm.eIf,Dm.bE,Dm.bO,Dm.tV,Dm.aV,Dm.bI,Dm.tOr,Dm.aD,Dm.pk,Dm.tk,Dm.pks,Dm.tks,RV.aB,RV.dat,Dm.aO,Dm.aL,Dm.bD,Dm.br,Dm.bC,Dm.aH,Dm.bF,Dm.gLt,Dm.gLe,Dm.gGt,Dm.gGe,Dm.bH,Dm.aP,Dm.bq,Dm.aX,Dm.a_,Dm.bf,Dm.bw,Dm.aI,Dm.bR,Dm.isI,Dm.isB,Dm.isL,Dm.isT,Dm.vB,Dm.vI,Mu,ML,gV,Mt,Mw,Mz,gc,Dp,Dk,MB,Mx,My,MN,if_true,if_false,MI,Dm.iR1,Dm.iR2,Dm.iS,Dm.bN,Dm.bT,Dm.sets,reduceIte,MJ,Dm.ak,ME,MF,MH,MG,true_or,or_true,true_and,and_true,decide_true,decide_false,false_or,or_false,false_and,and_false]
  rw[te];have cs:((s:Nat):Int)+1=((s+1:Nat):Int):=by lia
  rw[cs,nB];by_cases h:m=j
  ·rw[decide_eq_true h,if_pos h];dsimp only;have el:(e2 gIx (eV 1) (eV 7)) [c0,.sh (av r),c2,.ow (.lst (N.map Dat.int)),c4,.sh (.int j),c6,.sh (.int (s:Nat))]=some (.val (bS t),[c0,.sh (av r),c2,.ow (.lst (N.map Dat.int)),c4,.sh (.int j),c6,.sh (.int (s:Nat))]):=by simp(config:={ decide:=true }) only[i1,Dm.fn,Dm.aj,Dm.sA,Dm.sR,Dm.sE,Dm.sU,Dm.sIf,Dm.sNx,Dm.bJ,Dm.bP,Dm.bB,Dm.e1,Dm.e2,Dm.eB,Dm.eAs,Dm.eC,Dm.eV,Dm.aT,Dm.aU,Dm.eF,Dm.eIf,Dm.bE,Dm.bO,Dm.tV,Dm.aV,Dm.bI,Dm.tOr,Dm.aD,Dm.pk,Dm.tk,Dm.pks,Dm.tks,RV.aB,RV.dat,Dm.aO,Dm.aL,Dm.bD,Dm.br,Dm.bC,Dm.aH,Dm.bF,Dm.gLt,Dm.gLe,Dm.gGt,Dm.gGe,Dm.bH,Dm.aP,Dm.bq,Dm.aX,Dm.a_,Dm.bf,Dm.bw,Dm.aI,Dm.bR,Dm.isI,Dm.isB,Dm.isL,Dm.isT,Dm.vB,Dm.vI,Mu,ML,gV,Mt,Mw,Mz,gc,Dp,Dk,MB,Mx,My,MN,if_true,if_false,MI,Dm.iR1,Dm.iR2,Dm.iS,Dm.bN,Dm.bT,Dm.sets,reduceIte,MJ,Dm.ak,ME,MF,MH,MG,true_or,or_true,true_and,and_true,decide_true,decide_false,false_or,or_false,false_and,and_false]
   rw[el];dsimp only[tk];obtain⟨c',e⟩:=nE r N j c0 c2 c4 c6 rs ms (s+1) (.sh (.int (s:Nat))) (qN++[bS t]) (by simpa using hl) r2 n2;exact⟨c',by rw[e];simp⟩
  ·rw[decide_eq_false h,if_neg h];exact nE r N j c0 c2 c4 c6 rs ms (s+1) (.sh (.int (s:Nat))) qN (by simpa using hl) r2 n2
 |[],_::_,_,_,_,h,_,_=>by cases h
 |_::_,[],_,_,_,h,_,_=>by cases h
theorem nF(hi:Int)(n:Nat):downs hi (n+1)=Dat.int hi::downs (hi-1) n:=by
 unfold downs;rw[OA,Mu,Nv]
 congr 1
 ·simp
 ·apply Oe;intro i _;simp only[Function.comp,Dat.int.injEq]
  lia
theorem Dz(p:Nat)(m j:Int)(ms:List Int):(gc p (0:Int)++m::ms).set p j=gc p 0++j::ms:=by rw[Oa _ _ (by simp)];simp
theorem u0(n:Nat)(hn:n<=10)(r:List Tie)(he:Ends n r)(hl:r.length<=1000)(p:Nat)(t:Tie)(rs:List Tie)(ms:List Int)(m j:Int)(hr:r.drop p=t::rs)(hms:rs.length=ms.length)(c2 c6:Cell) :
  qR [.sh (.int n),.sh (av r),c2,.ow (.lst ((gc p 0++m::ms).map Dat.int)),.sh (.int (p:Nat)),.sh (.int j),c6] =
   some (.nx [.sh (.int n),.sh (av r),c2,.ow (.lst ((gc p 0++(if fG (fun x=>x) (lay rs ms j) t.a=fG (fun x=>x) (lay rs ms j) t.b then m else j)::ms).map Dat.int)),.sh (.int (p:Nat)),.sh (.int j),.ow (av (lay rs ms j))]):=by
 obtain⟨r1,r2⟩:=fR hr;have Dh:r.length=p+1+rs.length:=by
  have:=congrArg List.length hr;rw[NK,gV]at this
  lia
 have hN:(gc p (0:Int)++m::ms).drop (p+1)=ms:=by rw[List.drop_append];simp
 obtain⟨c',ec⟩:=nE r (gc p 0++m::ms) j (.sh (.int n)) c2 (.sh (.int (p:Nat))) c6 rs ms (p+1) .un [] hms r2 hN;have cp:cP (iR2 (e2 aL (eV 4) (eC (.int 1))) (eB bq [(eV 1)])) 1 (bN 7) (tV (e2 gEq (e2 gIx (eV 3) (eV 7)) (eV 5))) (e2 gIx (eV 1) (eV 7)) [.sh (.int n),.sh (av r),c2,.ow (.lst ((gc p 0++m::ms).map Dat.int)),.sh (.int (p:Nat)),.sh (.int j),c6] =
   some (.new (av (lay rs ms j)),[.sh (.int n),.sh (av r),c2,.ow (.lst ((gc p 0++m::ms).map Dat.int)),.sh (.int (p:Nat)),.sh (.int j),c6]):=by
  have it:iR2 (e2 aL (eV 4) (eC (.int 1))) (eB bq [(eV 1)]) [.sh (.int n),.sh (av r),c2,.ow (.lst ((gc p 0++m::ms).map Dat.int)),.sh (.int (p:Nat)),.sh (.int j),c6] =
    some (ups ((p+1:Nat):Int) rs.length,[.sh (.int n),.sh (av r),c2,.ow (.lst ((gc p 0++m::ms).map Dat.int)),.sh (.int (p:Nat)),.sh (.int j),c6]):=by
   have gl:bq [av r]=some (.val (.int (r.length:Nat))):=by unfold av;simp[bq]
   have hb:(((r.length:Nat):Int)<=BIG/\-BIG<=((r.length:Nat):Int)/\((p:Nat):Int)+1<=BIG/\-BIG<=((p:Nat):Int)+1)=True:=by simp only[eq_iff_iff,iff_true];unfold BIG;lia
   have ht:(((r.length:Nat):Int)-(((p:Nat):Int)+1)).toNat=rs.length:=by lia
   have hc:((p+1:Nat):Int)=((p:Nat):Int)+1:=by lia
   rw[hc];simp(config:={ decide:=true }) only[gl,hb,ht,Dm.fn,Dm.aj,Dm.sA,Dm.sR,Dm.sE,Dm.sU,Dm.sIf,Dm.sNx,Dm.bJ,Dm.bP,Dm.bB,Dm.e1,Dm.e2,Dm.eB,Dm.eAs,Dm.eC,Dm.eV,Dm.aT,Dm.aU,Dm.eF,Dm.eIf,Dm.bE,Dm.bO,Dm.tV,Dm.aV,Dm.bI,Dm.tOr,Dm.aD,Dm.pk,Dm.tk,Dm.pks,Dm.tks,RV.aB,RV.dat,fW,kT,iA,iB,Dm.bD,Dm.br,Dm.bC,Dm.aH,Dm.bF,Dm.gLt,Dm.gLe,Dm.gGt,Dm.gGe,Dm.bH,Dm.aP,Dm.aX,Dm.a_,Dm.bf,Dm.bR,Dm.vB,Dm.vI,Mu,ML,gV,Mt,Mw,Mz,gc,Dp,Dk,MB,Mx,My,MN,if_true,if_false,MI,Dm.iR1,Dm.iR2,Dm.iS,Dm.bN,Dm.bT,Dm.sets,reduceIte,MJ,Dm.ak,ME,MF,MH,MG,true_or,or_true,true_and,and_true,decide_true,decide_false,false_or,or_false,false_and,and_false]
  unfold cP;rw[it];dsimp only;rw[if_pos (by rw[qU];simp[SZ];lia)];have:[Cell.sh (.int n),.sh (av r),c2,.ow (.lst ((gc p 0++m::ms).map Dat.int)),.sh (.int (p:Nat)),.sh (.int j),c6]++gc 1 Cell.un=[.sh (.int n),.sh (av r),c2,.ow (.lst ((gc p 0++m::ms).map Dat.int)),.sh (.int (p:Nat)),.sh (.int j),c6,.un]:=rfl;rw[this,ec];rfl
 obtain⟨a0,a1,b0,b1⟩:=he t (NX r1);have hle:Ends n (lay rs ms j):=fun u hu=>by unfold lay at hu;obtain⟨q,hq,rfl⟩:=NB.mp hu;have hq2:=(OG.mp hq).1;have:q.1∈rs:=(Og (show (q.1,q.2)∈rs.zip ms from hq2)).1;refine he q.1 ?_;rw[<- r2]at this;exact List.mem_of_mem_drop this
 have jo:=yz n hn (lay rs ms j) hle t.a t.b a0 a1 b0 b1;have i0:=AJ r p t r1;have i1:gIx (bS t) (.int 1)=some (.val (.int t.a)):=rfl;have i2:gIx (bS t) (.int 2)=some (.val (.int t.b)):=rfl;have ix:ixN (r.length) ((p:Nat):Int)=some p:=by unfold ixN;rw[if_pos (by lia),if_pos (by lia)];simp
 have ln:(gc p (0:Int)++m::ms).length=r.length:=by simp;lia
 unfold qR;by_cases h:fG (fun x=>x) (lay rs ms j) t.a=fG (fun x=>x) (lay rs ms j) t.b
 ·rw[decide_eq_true h]at jo;rw[if_pos h];simp(config:={ decide:=true }) only[cp,i0,i1,i2,jo,Dm.fn,Dm.aj,Dm.sA,Dm.sR,Dm.sE,Dm.sU,Dm.sIf,Dm.sNx,Dm.bJ,Dm.bP,Dm.bB,Dm.e1,Dm.e2,Dm.eB,Dm.eAs,Dm.eC,Dm.eV,Dm.aT,Dm.aU,Dm.eF,Dm.eIf,Dm.bE,Dm.bO,Dm.tV,Dm.aV,Dm.bI,Dm.tOr,Dm.aD,Dm.pk,Dm.tk,Dm.pks,Dm.tks,RV.aB,RV.dat,fW,kT,iA,iB,Dm.bD,Dm.br,Dm.bC,Dm.aH,Dm.bF,Dm.gLt,Dm.gLe,Dm.gGt,Dm.gGe,Dm.bH,Dm.aP,Dm.aX,Dm.a_,Dm.bf,Dm.bR,Dm.vB,Dm.vI,Mu,ML,gV,Mt,Mw,Mz,gc,Dp,Dk,MB,Mx,My,MN,if_true,if_false,MI,Dm.iR1,Dm.iR2,Dm.iS,Dm.bN,Dm.bT,Dm.sets,reduceIte,MJ,Dm.ak,ME,MF,MH,MG,true_or,or_true,true_and,and_true,decide_true,decide_false,false_or,or_false,false_and,and_false]
 ·rw[decide_eq_false h]at jo;rw[if_neg h,<- Dz p m j ms,List.map_set];simp(config:={ decide:=true }) only[cp,i0,i1,i2,jo,MP,ln,ix,Dm.fn,Dm.aj,Dm.sA,Dm.sR,Dm.sE,Dm.sU,Dm.sIf,Dm.sNx,Dm.bJ,Dm.bP,Dm.bB,Dm.e1,Dm.e2,Dm.eB,Dm.eAs,Dm.eC,Dm.eV,Dm.aT,Dm.aU,Dm.eF,Dm.eIf,Dm.bE,Dm.bO,Dm.tV,Dm.aV,Dm.bI,Dm.tOr,Dm.aD,Dm.pk,Dm.tk,Dm.pks,Dm.tks,RV.aB,RV.dat,fW,kT,iA,iB,Dm.bD,Dm.br,Dm.bC,Dm.aH,Dm.bF,Dm.gLt,Dm.gLe,Dm.gGt,Dm.gGe,Dm.bH,Dm.aP,Dm.aX,Dm.a_,Dm.bf,Dm.bR,Dm.vB,Dm.vI,Mu,ML,gV,Mt,Mw,Mz,gc,Dp,Dk,MB,Mx,My,MN,if_true,if_false,MI,Dm.iR1,Dm.iR2,Dm.iS,Dm.bN,Dm.bT,Dm.sets,reduceIte,MJ,Dm.ak,ME,MF,MH,MG,true_or,or_true,true_and,and_true,decide_true,decide_false,false_or,or_false,false_and,and_false]
def Part(k q:Int)(rs:List Tie)(ms:List Int)(t:Tie)(m:Int):Prop:=
 (m=0/\∀j,q<j->j<=k->Con (lay rs ms j) t.a t.b)\/(q<m/\m<=k/\¬Con (lay rs ms m) t.a t.b/\∀j,q<j->j<m->Con (lay rs ms j) t.a t.b)
theorem nG(n:Nat)(hn:n<=10)(k:Int)(r:List Tie)(he:Ends n r)(hl:r.length<=1000)(p:Nat)(t:Tie)(rs:List Tie)(ms:List Int)(hr:r.drop p=t::rs)(hms:rs.length=ms.length)(c2:Cell):∀(q:Nat) (m:Int) (c5 c6:Cell),(q:Int)<=k->Part k q rs ms t m ->
  ∃m' c5' c6',dG (bN 5) qR (downs (q:Nat) q) [.sh (.int n),.sh (av r),c2,.ow (.lst ((gc p 0++m::ms).map Dat.int)),.sh (.int (p:Nat)),c5,c6] =
   some (.nx [.sh (.int n),.sh (av r),c2,.ow (.lst ((gc p 0++m'::ms).map Dat.int)),.sh (.int (p:Nat)),c5',c6'])/\Part k 0 rs ms t m'
 |0,m,c5,c6,hq,hp=>⟨m,c5,c6,rfl,hp⟩
 |q+1,m,c5,c6,hq,hp=>by
  rw[nF,dG];have hb:bN 5 (.int ((q+1:Nat):Int)) [.sh (.int n),.sh (av r),c2,.ow (.lst ((gc p 0++m::ms).map Dat.int)),.sh (.int (p:Nat)),c5,c6]=some [.sh (.int n),.sh (av r),c2,.ow (.lst ((gc p 0++m::ms).map Dat.int)),.sh (.int (p:Nat)),.sh (.int ((q+1:Nat):Int)),c6]:=rfl;rw[hb];dsimp only;rw[u0 n hn r he hl p t rs ms m ((q+1:Nat):Int) hr hms];dsimp only;have e1:((q+1:Nat):Int)-1=(q:Nat):=by lia
  rw[e1];refine nG n hn k r he hl p t rs ms hr hms c2 q _ _ _ (by lia) ?_;have ji:=AF (lay rs ms ((q+1:Nat):Int)) t.a t.b;by_cases h:Con (lay rs ms ((q+1:Nat):Int)) t.a t.b
  ·rw[if_pos (ji.mpr h)];rcases hp with⟨h1,h2⟩ | ⟨h1,h2,h3,h4⟩
   ·refine .inl ⟨h1,fun j j1 j2=>?_⟩;by_cases q1:j=((q+1:Nat):Int)
    ·rw[q1];exact h
    ·exact h2 j (by lia) j2
   ·refine .inr ⟨by lia,h2,h3,fun j j1 j2=>?_⟩;by_cases q1:j=((q+1:Nat):Int)
    ·rw[q1];exact h
    ·exact h4 j (by lia) j2
  ·rw[if_neg fun z=>h (ji.mp z)];exact .inr ⟨by lia,hq,h,fun j j1 j2=>by lia⟩
theorem nI(n:Nat)(hn:n<=10)(k:Nat)(hk:k<=10)(r:List Tie)(he:Ends n r)(hl:r.length<=1000):∀(p:Nat) (ms:List Int) (c4 c5 c6:Cell),p<=r.length->cX k (r.drop p) ms ->
  ∃ms' c4' c5' c6',dG (bN 4) nj (downs ((p:Int)-1) p) [.sh (.int n),.sh (av r),.sh (.int k),.ow (.lst ((gc p 0++ms).map Dat.int)),c4,c5,c6] =
   some (.nx [.sh (.int n),.sh (av r),.sh (.int k),.ow (.lst (ms'.map Dat.int)),c4',c5',c6'])/\cX k r ms'
 |0,ms,c4,c5,c6,hp,ha=>⟨ms,c4,c5,c6,rfl,by simpa using ha⟩
 |p+1,ms,c4,c5,c6,hp,ha=>by
  have e0:((p+1:Nat):Int)-1=(p:Nat):=by lia
  have L8:p<r.length:=by lia
  have hr:r.drop p=r[p]::r.drop (p+1):=NY L8;rw[e0,nF,dG];have rp:gc (p+1) (0:Int)++ms=gc p 0++0::ms:=by rw[List.replicate_succ',Ny];rfl
  rw[rp];have hb:bN 4 (.int ((p:Nat):Int)) [.sh (.int n),.sh (av r),.sh (.int k),.ow (.lst ((gc p 0++0::ms).map Dat.int)),c4,c5,c6]=some [.sh (.int n),.sh (av r),.sh (.int k),.ow (.lst ((gc p 0++0::ms).map Dat.int)),.sh (.int ((p:Nat):Int)),c5,c6]:=rfl;rw[hb];dsimp only;obtain⟨m',d5,d6,e,pt⟩:=nG n hn k r he hl p r[p] (r.drop (p+1)) ms hr ha.len.symm (.sh (.int k)) k 0 c5 c6 (by lia) (.inl ⟨rfl,fun j j1 j2=>by lia⟩);have hb2:((k:Int)<=BIG/\-BIG<=(k:Int))=True:=by simp only[eq_iff_iff,iff_true];unfold BIG;lia
  have kt:((k:Int)-0).toNat=k:=by lia
  have body:nj [.sh (.int n),.sh (av r),.sh (.int k),.ow (.lst ((gc p 0++0::ms).map Dat.int)),.sh (.int ((p:Nat):Int)),c5,c6]=some (.nx [.sh (.int n),.sh (av r),.sh (.int k),.ow (.lst ((gc p 0++m'::ms).map Dat.int)),.sh (.int (p:Nat)),d5,d6]):=by
   unfold nj;have it:iRd (eV 2) (eC (.int 0)) (e1 bH (eC (.int 1))) [.sh (.int n),.sh (av r),.sh (.int k),.ow (.lst ((gc p 0++0::ms).map Dat.int)),.sh (.int ((p:Nat):Int)),c5,c6]=some (downs (k:Nat) k,[.sh (.int n),.sh (av r),.sh (.int k),.ow (.lst ((gc p 0++0::ms).map Dat.int)),.sh (.int ((p:Nat):Int)),c5,c6]):=by unfold iRd;simp(config:={ decide:=true }) only[hb2,kt,Dm.fn,Dm.aj,Dm.sA,Dm.sR,Dm.sE,Dm.sU,Dm.sIf,Dm.sNx,Dm.bJ,Dm.bP,Dm.bB,Dm.e1,Dm.e2,Dm.eB,Dm.eAs,Dm.eC,Dm.eV,Dm.aT,Dm.aU,Dm.eF,Dm.eIf,Dm.bE,Dm.bO,Dm.tV,Dm.aV,Dm.bI,Dm.tOr,Dm.aD,Dm.pk,Dm.tk,Dm.pks,Dm.tks,RV.aB,RV.dat,fW,kT,iA,iB,Dm.bD,Dm.br,Dm.bC,Dm.aH,Dm.bF,Dm.gLt,Dm.gLe,Dm.gGt,Dm.gGe,Dm.bH,Dm.aP,Dm.aX,Dm.a_,Dm.bf,Dm.bR,Dm.vB,Dm.vI,Mu,ML,gV,Mt,Mw,Mz,gc,Dp,Dk,MB,Mx,My,MN,if_true,if_false,MI,Dm.iR1,Dm.iR2,Dm.iS,Dm.bN,Dm.bT,Dm.sets,reduceIte,MJ,Dm.ak,ME,MF,MH,MG,true_or,or_true,true_and,and_true,decide_true,decide_false,false_or,or_false,false_and,and_false]
   unfold bB;rw[it];exact e
  rw[body];dsimp only;refine nI n hn k hk r he hl p (m'::ms) _ _ _ (by lia) ?_;rw[hr];exact⟨ha,pt⟩
theorem lE(n:Nat)(hn:n<=10)(k:Nat)(hk:k<=10)(r:List Tie)(he:Ends n r)(hl:r.length<=1000):∃ms:List Int,sM [.int n,av r,.int k]=some (.new (.lst (ms.map Dat.int)))/\cX k r ms:=by
 obtain⟨ms,c4,c5,c6,e,al⟩:=nI n hn k hk r he hl r.length [] .un .un .un (MO _) (by rw[Pj];trivial);refine⟨ms,?_,al⟩;have gl:bq [av r]=some (.val (.int (r.length:Nat))):=by unfold av;simp[bq]
 have gm:br (.lst [.int 0]) (.int ((r.length:Nat):Int))=some (.new (.lst ((gc r.length (0:Int)++[]).map Dat.int))):=by
  unfold br;dsimp only;rw[if_pos (by unfold BIG SZ;simp;lia),Nl,List.map_replicate,NF]
  congr 3
  induction r.length with
  |zero=>rfl
  |succ n ih=>rw[Nx,NP,ih];rfl
 have z1:(1<=SZ)=True:=by simp[SZ]
 have hb3:(((r.length:Nat):Int)-1<=BIG/\-BIG<=((r.length:Nat):Int)-1)=True:=by simp only[eq_iff_iff,iff_true];unfold BIG;lia
 have kt:(((r.length:Nat):Int)-1 - -1).toNat=r.length:=by lia
 have it:∀c,iRd (e2 bD (eB bq [(eV 1)]) (eC (.int 1))) (e1 bH (eC (.int 1))) (e1 bH (eC (.int 1))) [.sh (.int n),.sh (av r),.sh (.int k),c,.un,.un,.un]=some (downs (((r.length:Nat):Int)-1) r.length,[.sh (.int n),.sh (av r),.sh (.int k),c,.un,.un,.un]):=fun c=>by unfold iRd;simp(config:={ decide:=true }) only[gl,hb3,kt,Dm.fn,Dm.aj,Dm.sA,Dm.sR,Dm.sE,Dm.sU,Dm.sIf,Dm.sNx,Dm.bJ,Dm.bP,Dm.bB,Dm.e1,Dm.e2,Dm.eB,Dm.eAs,Dm.eC,Dm.eV,Dm.aT,Dm.aU,Dm.eF,Dm.eIf,Dm.bE,Dm.bO,Dm.tV,Dm.aV,Dm.bI,Dm.tOr,Dm.aD,Dm.pk,Dm.tk,Dm.pks,Dm.tks,RV.aB,RV.dat,fW,kT,iA,iB,Dm.bD,Dm.br,Dm.bC,Dm.aH,Dm.bF,Dm.gLt,Dm.gLe,Dm.gGt,Dm.gGe,Dm.bH,Dm.aP,Dm.aX,Dm.a_,Dm.bf,Dm.bR,Dm.vB,Dm.vI,Mu,ML,gV,Mt,Mw,Mz,gc,Dp,Dk,MB,Mx,My,MN,if_true,if_false,MI,Dm.iR1,Dm.iR2,Dm.iS,Dm.bN,Dm.bT,Dm.sets,reduceIte,MJ,Dm.ak,ME,MF,MH,MG,true_or,or_true,true_and,and_true,decide_true,decide_false,false_or,or_false,false_and,and_false]
 have s1:∀yi:FS,aj (sA 3 (e2 br (aU [(eC (.int 0))]) (eB bq [(eV 1)]))) yi [.sh (.int n),.sh (av r),.sh (.int k),.un,.un,.un,.un]=yi [.sh (.int n),.sh (av r),.sh (.int k),.ow (.lst (Pk Dat.int (gc r.length (0:Int)++[]))),.un,.un,.un]:=fun yi=>by simp(config:={ decide:=true }) only[gl,z1,gm,aj,sA,e2,aU,eAs,eC,eV,eB,pks,tks,pk,tk,RV.aB,gV,Mt,Dp,Dk,Mx,My,MJ,if_true,if_false,reduceIte]
 have s2:∀yi:FS,aj (bB (iRd (e2 bD (eB bq [(eV 1)]) (eC (.int 1))) (e1 bH (eC (.int 1))) (e1 bH (eC (.int 1)))) (bN 4) nj) yi [.sh (.int n),.sh (av r),.sh (.int k),.ow (.lst (Pk Dat.int (gc r.length (0:Int)++[]))),.un,.un,.un]=yi [.sh (.int n),.sh (av r),.sh (.int k),.ow (.lst (ms.map Dat.int)),c4,c5,c6]:=fun yi=>by unfold aj bB;rw[it];dsimp only;rw[e]
 unfold sM;refine(qd (ρ:=[.sh (.int n),.sh (av r),.sh (.int k),.un,.un,.un,.un]) rfl rfl).trans ?_;rw[s1,s2];rfl
theorem AK(x:Int):∃k:Nat,1<=k/\k<=6/\sL [.int x]=some (.val (.int (k:Nat))):=by
 have z2:(2<=SZ)=True:=by simp[SZ]
 have c32:(0<(32:Int)/\(32:Int)<fM)=True:=by simp[fM]
 have m4:=cg x 4 (by decide);have m6:=cg (x / 32) 6 (by decide);by_cases h:x % 8=1
 ·refine⟨(1+x / 32 % 6).toNat,by lia,by lia,?_⟩;have e:(((1+x / 32 % 6).toNat:Nat):Int)=1+x / 32 % 6:=by lia
  have h':(x % 8=1)=True:=by simp[h]
  have gx:∀a b:Dat,gIx (.lst [a,b]) (.int (b2i true))=some (.val b):=fun a b=>rfl;unfold sL;rw[e];simp(config:={ decide:=true }) only[c32,z2,eq_int,h',gx,Dm.fn,Dm.aj,Dm.sA,Dm.sR,Dm.sE,Dm.sU,Dm.sIf,Dm.sNx,Dm.bJ,Dm.bP,Dm.bB,Dm.e1,Dm.e2,Dm.eB,Dm.eAs,Dm.eC,Dm.eV,Dm.aT,Dm.aU,Dm.eF,Dm.eIf,Dm.bE,Dm.bO,Dm.tV,Dm.aV,Dm.bI,Dm.tOr,Dm.aD,Dm.pk,Dm.tk,Dm.pks,Dm.tks,RV.aB,RV.dat,Dm.aO,Dm.aL,Dm.bD,Dm.br,Dm.bC,Dm.aH,Dm.bF,Dm.gLt,Dm.gLe,Dm.gGt,Dm.gGe,Dm.bH,Dm.aP,Dm.bq,Dm.aX,Dm.a_,Dm.bf,Dm.bw,Dm.aI,Dm.bR,Dm.isI,Dm.isB,Dm.isL,Dm.isT,Dm.vB,Dm.vI,Mu,ML,gV,Mt,Mw,Mz,gc,Dp,Dk,MB,Mx,My,MN,if_true,if_false,MI,Dm.iR1,Dm.iR2,Dm.iS,Dm.bN,Dm.bT,Dm.sets,reduceIte,MJ,Dm.ak,ME,MF,MH,MG,true_or,or_true,true_and,and_true,decide_true,decide_false,false_or,or_false,false_and,and_false]
 ·refine⟨(1+x % 4).toNat,by lia,by lia,?_⟩;have e:(((1+x % 4).toNat:Nat):Int)=1+x % 4:=by lia
  have h':(x % 8=1)=False:=by simp[h]
  have gx:∀a b:Dat,gIx (.lst [a,b]) (.int (b2i false))=some (.val a):=fun a b=>rfl;unfold sL;rw[e];simp(config:={ decide:=true }) only[c32,z2,eq_int,h',gx,Dm.fn,Dm.aj,Dm.sA,Dm.sR,Dm.sE,Dm.sU,Dm.sIf,Dm.sNx,Dm.bJ,Dm.bP,Dm.bB,Dm.e1,Dm.e2,Dm.eB,Dm.eAs,Dm.eC,Dm.eV,Dm.aT,Dm.aU,Dm.eF,Dm.eIf,Dm.bE,Dm.bO,Dm.tV,Dm.aV,Dm.bI,Dm.tOr,Dm.aD,Dm.pk,Dm.tk,Dm.pks,Dm.tks,RV.aB,RV.dat,Dm.aO,Dm.aL,Dm.bD,Dm.br,Dm.bC,Dm.aH,Dm.bF,Dm.gLt,Dm.gLe,Dm.gGt,Dm.gGe,Dm.bH,Dm.aP,Dm.bq,Dm.aX,Dm.a_,Dm.bf,Dm.bw,Dm.aI,Dm.bR,Dm.isI,Dm.isB,Dm.isL,Dm.isT,Dm.vB,Dm.vI,Mu,ML,gV,Mt,Mw,Mz,gc,Dp,Dk,MB,Mx,My,MN,if_true,if_false,MI,Dm.iR1,Dm.iR2,Dm.iS,Dm.bN,Dm.bT,Dm.sets,reduceIte,MJ,Dm.ak,ME,MF,MH,MG,true_or,or_true,true_and,and_true,decide_true,decide_false,false_or,or_false,false_and,and_false]
noncomputable def eW:Option Nat->Dat
 |none=>.non
 |some v=>.int v
noncomputable def rdN(w:List Nat):Option Nat:=if (1<=w.length/\w.length<=60)/\w.all e7=true/\¬(w.head?=some 48/\w≠[48]) then some (pK w) else none
def asc(w:List Nat):Prop:=w.all (fun c=>decide (c<128))=true/\w.length<=20000
theorem qV(h:asc w)(k:Nat):okD k (.str w)=true:=by cases k<;>exact h.1
theorem eq_str(ha:asc a)(hb:asc b):gEq (.str a) (.str b)=vB (decide (a=b)):=by unfold gEq;rw[qV ha,qV hb];show vB (eqD (.str a) (.str b))=_;rw[eqD,show (a == b)=decide (a=b) by rw[Oh];simp]
theorem ne_str(ha:asc a)(hb:asc b):gNe (.str a) (.str b)=vB (!decide (a=b)):=by unfold gNe;rw[qV ha,qV hb];show vB (!eqD (.str a) (.str b))=_;rw[eqD,show (a == b)=decide (a=b) by rw[Oh];simp]
theorem QT(ha:asc a)(hb:asc b)(k:K (.val (.bl (decide (a=b)))))(ho:o=some (.str a))(hp:p=some (.str b)):Wg2 gEq o p K:=⟨_,_,_,ho,hp,eq_str ha hb,k⟩
theorem Rf(ha:asc a)(hb:asc b)(k:K (.val (.bl (!decide (a=b)))))(ho:o=some (.str a))(hp:p=some (.str b)):Wg2 gNe o p K:=⟨_,_,_,ho,hp,ne_str ha hb,k⟩
theorem l9(h:asc b)(s:∀c∈a,c∈b)(l:a.length<=b.length):asc a:=⟨by have:=h.1;rw[M3]at this ⊢;exact fun c hc=>this c (s c hc),M6 l h.2⟩
theorem G8{n:Nat}(h0:0<=k)(h1:k<n):ixN n k=some k.toNat:=by unfold ixN;rw[if_pos h0,if_pos h1]
theorem yC{g:Int}{e:FE}(he:e ρ=some (.val (.int w.length),ρ))(hg:g=60):ak gLe gLe (eC (.int 1)) e (eC (.int g)) ρ=some (.val (.bl (decide (1<=w.length/\w.length<=60))),ρ):=by
 subst hg;unfold ak;simp only[eC,he,pk,gLe];by_cases h1:1<=w.length
 ·have e1:decide ((1:Int)<=(w.length:Int))=true:=decide_eq_true (by lia);simp only[e1];by_cases h2:w.length<=60
  ·have e2:decide ((w.length:Int)<=60)=true:=decide_eq_true (by lia);rw[decide_eq_true (show 1<=w.length/\w.length<=60 from ⟨h1,h2⟩)];simp[e2];rfl
  ·have e2:decide ((w.length:Int)<=60)=false:=decide_eq_false (by lia);rw[decide_eq_false (show ¬(1<=w.length/\w.length<=60) from fun z=>h2 z.2)];simp[e2];rfl
 ·have e1:decide ((1:Int)<=(w.length:Int))=false:=decide_eq_false (by lia);rw[decide_eq_false (show ¬(1<=w.length/\w.length<=60) from fun z=>h1 z.1)];simp[e1]
theorem DB(hw:asc w){i:Nat}(h:ρ[i]?=some (.sh (.str w))):eB p6 [(eV i)] ρ=some (.val (.int w.length),ρ):=by have z:w.length<=SZ:=M6 hw.2 (by decide);unfold eB eAs eV;simp only[h];unfold eAs;simp only[pks,pk];unfold p6;simp[z,RV.aB]
theorem dg(hw:asc w):e8 [.str w]=some (.val (eW (rdN w))):=by
 have hz:w.length<=SZ:=M6 hw.2 (by decide);apply P9;unfold e8
 (refine Dm.P7 ?_ rfl rfl;and_intros)
 refine PV (P6 (Qe (P1 (PZ ⟨_,_,yC (DB hw rfl) rfl,PX ?_⟩))));unfold rdN;by_cases h1:1<=w.length/\w.length<=60
 rotate_left
 ·rw[decide_eq_false h1,if_neg fun z=>h1 z.1];exact Qc (Qc (P4 (PU rfl)))
 rw[decide_eq_true h1];refine P_ ?_;refine P1 (PZ (Qj (m_ (Q2 (fun c:Nat=>Dat.str [c]) w (fun c=>e7 c) Dat.bl (ρ1:=[.sh (.str w)]) ?_ ?_ rfl (by decide) hz fun c _=>?_))))
 rotate_left
 ·apply QL;exact Rp (N_ rfl ⟨w,rfl,hw.1,rfl,rfl⟩)
 ·refine O_ (N_ rfl (PU (Rh (c:=c) ?_ rfl rfl)));rw[G4];exact Ql ⟨rfl,rfl⟩
 refine M_ (QE e7 (xs:=w) ?_ (by rw[Nv];rfl));cases hf:w.all e7 with
 |false=>refine PX (Qc (P4 (PU ?_)));rw[if_neg (by rintro⟨_,z,_⟩;cases z)];rfl
 |true=>
  refine PX (P_ (Qa ?_));cases w with
  |nil=>exact absurd h1.1 (by simp)
  |cons c r=>
   have a1:asc [c]:=l9 hw (fun x hx=>by rw[M4.mp hx];exact MM) (by simp);have a48:asc [48]:=⟨by decide,by decide⟩
   refine PV (P6 (Q_ (PZ (O_ (O_ (N_ rfl (PU (Rc (m:=0) (c:=c) ?_ rfl rfl hz (G8 (by lia) (by simp)) rfl))))))));refine PU (QT a1 a48 (PX ?_) rfl rfl);have Rt:¬((c::r).head?=some 48/\(c::r:List Nat)≠[48])->Ws (sR (eB mZ [eV 0])) [.sh (.str (c::r))] (fun _=>RV.val Dat.non=RV.val (eW (if (1<=(c::r).length/\(c::r).length<=60)/\true=true/\¬((c::r).head?=some 48/\(c::r:List Nat)≠[48]) then some (pK (c::r)) else none))) (fun v _=>v=RV.val (eW (if (1<=(c::r).length/\(c::r).length<=60)/\true=true/\¬((c::r).head?=some 48/\(c::r:List Nat)≠[48]) then some (pK (c::r)) else none))) (fun _=>False) (fun _=>False):=fun hn=>by rw[if_pos ⟨h1,rfl,hn⟩];exact P4 (Qj (m_ (N_ rfl (M_ (Ro rfl rfl ⟨by simp,hf,by lia⟩)))))
   by_cases e:c=48
   ·subst e;rw[decide_eq_true rfl];refine Qs rfl ?_;refine PZ (O_ (N_ rfl (PU (Rf hw a48 (PX ?_) rfl rfl))));by_cases e2:(48::r:List Nat)=[48]
    ·rw[decide_eq_true e2];exact Qi rfl (Qa (Rt fun z=>z.2 e2))
    ·rw[decide_eq_false e2];refine Qs rfl (P4 (PU ?_));rw[if_neg fun z=>z.2.2 ⟨rfl,e2⟩];rfl
   ·have:decide ([c]=[48])=false:=decide_eq_false fun z=>e (by injection z);rw[this];exact Qi rfl (Qi rfl (Qa (Rt fun z=>e (by injection z.1))))
theorem QU{v:Nat}{o:Option (List Dat)}(k:K (.val (.str (aW v))))(ho:o=some [.int (v:Nat)])(h:v<10 ^ 60):WB cN o K:=⟨_,_,ho,by
 unfold cN;dsimp only;rw [if_pos (by
  have:(10:Nat) ^ 60<10 ^ 100:=by decide
  show v<_
  lia),yk],k⟩
theorem sW(c:Nat):∀w:List Nat,(∀x∈(ao c w).1,x∈w)/\(ao c w).1.length<=w.length/\(∀x∈(ao c w).2.2,x∈w)/\(ao c w).2.2.length<=w.length/\((ao c w).2.1=[]->(ao c w).2.2=[])
 |[]=>⟨fun x h=>h,MO _,fun x h=>h,MO _,fun _=>rfl⟩
 |y::r=>by
  obtain⟨h1,h2,h3,h4,h5⟩:=sW c r;rw[ao];split
  ·exact⟨fun x h=>(by cases h),Nc _,fun x h=>MK _ h,Py _,fun z=>by cases z⟩
  ·refine⟨fun x h=>?_,by simp;lia,fun x h=>MK _ (h3 x h),by simp;lia,h5⟩;rcases MV.mp h with rfl | h
   ·exact MM
   ·exact MK _ (h1 x h)
theorem fq(c:Nat)(h:asc w):asc (ao c w).1/\asc (ao c w).2.2:=by obtain⟨h1,h2,h3,h4,_⟩:=sW c w;exact⟨l9 h h1 h2,l9 h h3 h4⟩
noncomputable def n3(w:List Nat):Option Nat×Option Nat×Option Nat:=(rdN (ao 58 w).1,rdN (ao 45 (ao 58 w).2.2).1,rdN (ao 45 (ao 58 w).2.2).2.2)
noncomputable def n3D(w:List Nat):Dat:=.tup [eW (n3 w).1,eW (n3 w).2.1,eW (n3 w).2.2]
theorem j8(h:asc w)(c:Nat):d_ w (.str [c])=some (.val (.tup [.str (ao c w).1,.str (ao c w).2.1,.str (ao c w).2.2])):=by unfold d_;dsimp only;rw[if_pos (M6 h.2 (by decide))]
theorem j9(o:Option Nat):aO (eW o)=false:=by cases o<;>rfl
theorem sX(hw:asc w):wC [.str w]=some (.val (n3D w)):=by
 obtain⟨a1,a2⟩:=fq 58 hw;obtain⟨b1,b2⟩:=fq 45 a2;apply P9;unfold wC
 (refine Dm.P7 ?_ rfl rfl;and_intros)
 refine PV (Qg (QC (N_ rfl ⟨w,rfl,PU ⟨_,_,rfl,j8 hw 58,?_⟩⟩)) (by decide));refine Qf ?_ (by trivial);refine PV (Qg (QC (O_ (N_ rfl (PU (P5 (v:=.str (ao 58 w).2.2) ⟨_,rfl,PU ⟨_,_,rfl,j8 a2 45,?_⟩⟩ rfl rfl rfl))))) (by decide));refine Qf ?_ (by trivial);refine P4 (Qw (m_ (P0 (m_ (O_ (N_ rfl (PU (P5 (v:=.str (ao 58 w).1) ?_ rfl rfl rfl))))))));refine M_ (PY (dg a1) ?_ rfl (j9 _));refine m_ (P0 (m_ (O_ (N_ rfl (PU (P5 (v:=.str (ao 45 (ao 58 w).2.2).1) ?_ rfl rfl rfl))))));refine M_ (PY (dg b1) ?_ rfl (j9 _));refine m_ (P0 (m_ (O_ (N_ rfl (PU (P5 (v:=.str (ao 45 (ao 58 w).2.2).2.2) ?_ rfl rfl rfl))))));refine M_ (PY (dg b2) ?_ rfl (j9 _));exact M_ (Qd rfl rfl rfl (by exact MQ rfl))
noncomputable def cB(n:Int)(w:List Nat):Option Tie:=match n3 w with
 |(some m,some a,some b)=>if (m:Int)<=Z30/\a<=b/\(b:Int)<n then some ⟨m,a,b⟩ else none
 |_=>none
noncomputable def sY:Option Tie->Dat
 |none=>.non
 |some t=>bS t
theorem u5(k:K (.val (.int Z30)))(ho:o=some (.int 10))(hp:p=some (.int 30)):Wg2 bF o p K:=⟨_,_,_,ho,hp,rfl,k⟩
theorem fu(o:Option Nat)(lo hi:Int):iY [eW o,.int lo,.int hi]=some (.val (.bl (match o with | none=>false | some v=>decide (lo<=(v:Int)/\(v:Int)<=hi)))):=by
 cases o with
 |none=>rfl
 |some v=>
  show iY [.int (v:Int),.int lo,.int hi]=_;have h:Ay [.int (v:Int)]=some (.val (.bl true)):=rfl;by_cases h1:lo<=(v:Int)
  ·by_cases h2:(v:Int)<=hi
   ·unfold iY;simp[fn,sR,bE,eF,eAs,eV,pks,pk,h,RV.aB,RV.dat,aO,ak,gLe,h1,h2]
   ·unfold iY;simp[fn,sR,bE,eF,eAs,eV,pks,pk,h,RV.aB,RV.dat,aO,ak,gLe,h1,h2]
  ·unfold iY;simp[fn,sR,bE,eF,eAs,eV,pks,pk,h,RV.aB,RV.dat,aO,ak,gLe,h1]
noncomputable def steps(S:List Int):Bool:=(Ni (S.length-1)).all fun i=>decide (S.getD i 0<S.getD (i+1) 0)
theorem qe:∀S:List Int,steps S=true↔S.Pairwise (· < ·)
 |[]=>by simp[steps]
 |[x]=>by simp[steps]
 |x::y::S=>by
  have ih:=qe (y::S);have e:steps (x::y::S)=(decide (x<y)&&steps (y::S)):=by unfold steps;simp only[gV,Nat.add_sub_cancel];rw[OA,O6,PK];rfl
  rw[e,MY,ih,O4 (a:=x)];constructor
  ·rintro⟨h1,h2⟩;have h1:=of_decide_eq_true h1;refine⟨fun z hz=>?_,h2⟩;rcases MV.mp hz with rfl | hz
   ·exact h1
   ·exact Int.lt_trans h1 ((O4.mp h2).1 z hz)
  ·rintro⟨h1,h2⟩;exact⟨decide_eq_true (h1 y MM),h2⟩
theorem G9{Aw:α->Dat}{xs:List α}{i:Int}(h0:0<=i)(h1:i<xs.length)(k:K (.val (Aw (xs[i.toNat]'(by omega)))))(ho:o=some (.tup (xs.map Aw)))(hp:p=some (.int i)):Wg2 gIx o p K:=
 ⟨_,_,_,ho,hp,by unfold gIx;dsimp only;rw[Dm.l7 Aw xs i h0 h1];rfl,k⟩
theorem AL(d:Dat)(S:List Int)(hl:S.length<=1000)(hd:d=.tup (S.map Dat.int)\/d=.lst (S.map Dat.int)):Dq [d]=some (.val (.bl (steps S))):=by
 have len:bq [d]=some (.val (.int (S.length:Nat))):=by
  rcases hd with rfl | rfl
  ·show some (RV.val (.int ((S.map Dat.int).length:Nat)))=_;rw[MP]
  ·show some (RV.val (.int ((S.map Dat.int).length:Nat)))=_;rw[MP]
 have ix:∀(i:Int) (h0:0<=i) (h1:i<S.length) {o p:Option Dat} {K:RV->Prop},K (.val (.int (S[i.toNat]'(by lia))))->o=some d->p=some (.int i)->Wg2 gIx o p K:=fun i h0 h1 {o p K} k ho hp=>by
  rcases hd with rfl | rfl
  ·exact G9 (xs:=S) (Aw:=Dat.int) h0 h1 k ho hp
  ·exact Qz (xs:=S) (Aw:=Dat.int) h0 h1 k ho hp
 apply P9;unfold Dq
 (refine Dm.P7 ?_ rfl rfl;and_intros)
 refine P4 (Qj (m_ ?_));refine QH (fun i:Nat=>Dat.int (1+(i:Nat))) (Ni (S.length-1)) (fun _=>true) (fun i=>Dat.bl (decide (S.getD i 0<S.getD (i+1) 0))) ?_ (ρ1:=[.sh d]) ?_ rfl (by decide) (by simp[SZ];lia) (fun i _=>?_) (fun i hi _=>?_)
 ·refine M_ (QE (fun i=>decide (S.getD i 0<S.getD (i+1) 0)) ?_ (by rw[OQ.mpr (fun _ _=>rfl)];rfl));rfl
 ·apply QL;refine Rb (PU (pL.mk (Qj (m_ (N_ rfl (M_ ⟨_,_,rfl,len,?_⟩))))));refine pL.mk ⟨⟨?_,rfl⟩,by unfold BIG;lia,by unfold BIG;lia,by unfold BIG;lia,by unfold BIG;lia⟩;have e2:(((S.length:Nat):Int)-1).toNat=S.length-1:=by lia
  rw[e2];rfl
 ·exact Q0 ⟨rfl,rfl⟩
 ·have hi':i<S.length-1:=OS.mp hi;refine O_ (O_ (N_ rfl (O_ (N_ rfl (PU (QJ (ix _ (by lia) (by lia) ?_ rfl rfl) rfl rfl))))));refine O_ (N_ rfl (N_ rfl (ix _ (by lia) (by lia) ?_ rfl rfl)));refine Ra (Ql ⟨?_,rfl⟩) rfl rfl;have e1:S.getD i 0=S[(1+(i:Int)-1).toNat]'(by omega):=by
   rw[Np,M7 (by lia)];simp only[Option.getD_some]
   congr 1;lia
  have e2:S.getD (i+1) 0=S[(1+(i:Int)).toNat]'(by lia):=by
   rw[Np,M7 (by lia)];simp only[Option.getD_some]
   congr 1;lia
  rw[e1,e2]
noncomputable def inM:Option Nat->Bool
 |none=>false
 |some v=>decide (0<=(v:Int)/\(v:Int)<=Z30)
noncomputable def inP(n:Int):Option Nat->Bool
 |none=>false
 |some v=>decide (0<=(v:Int)/\(v:Int)<=n-1)
theorem AM(o:Option Nat):Dl [eW o]=some (.val (.bl (inM o))):=by
 apply P9;unfold Dl
 (refine Dm.P7 ?_ rfl rfl;and_intros)
 refine P4 (P0 (m_ (N_ rfl (m_ (PU (m_ (O_ (PU (PU (u5 ?_ rfl rfl))))))))));refine M_ (PY (fu o 0 Z30) ?_ rfl rfl);cases o<;>rfl
theorem wM(n:Int)(o:Option Nat):Az [.int n,eW o]=some (.val (.bl (inP n o))):=by
 apply P9;unfold Az
 (refine Dm.P7 ?_ rfl rfl;and_intros)
 refine P4 (P0 (m_ (N_ rfl (m_ (PU (m_ (O_ (N_ rfl (PU (QJ ?_ rfl rfl))))))))));refine M_ (PY (fu o 0 (n-1)) ?_ rfl rfl);cases o<;>rfl
theorem nJ(n1:1<=n)(n10:n<=10):uW [.int n]=some (.val (.bl true)):=by
 have h:=fu (some n.toNat) 1 10;have e:((n.toNat:Nat):Int)=n:=by lia
 have h:iY [.int n,.int 1,.int 10]=some (.val (.bl true)):=by
  have h2:iY [eW (some n.toNat),.int 1,.int 10]=some (.val (.bl true)):=by rw[h];show some (RV.val (.bl (decide _)))=_;rw[decide_eq_true (by lia)]
  have h3:iY [.int ((n.toNat:Nat):Int),.int 1,.int 10]=some (.val (.bl true)):=h2;rw[e]at h3;exact h3
 apply P9;unfold uW
 (refine Dm.P7 ?_ rfl rfl;and_intros)
 exact P4 (P0 (m_ (N_ rfl (m_ (PU (m_ (PU (M_ (PY h rfl rfl rfl))))))))) 
theorem AO(n:Int)(w:List Nat):AA [.int n,n3D w]=some (.val (.bl (inM (n3 w).1&&(inP n (n3 w).2.1&&inP n (n3 w).2.2)))):=by
 apply P9;unfold AA
 (refine Dm.P7 ?_ rfl rfl;and_intros)
 refine PV (P6 (Qe (P1 (PZ (Qk (N_ rfl (Qh (v:=.val (.bl true)) (PX (P_ ?_)) rfl rfl)))))));refine PZ (O_ (Qj (m_ (N_ rfl (M_ ⟨_,_,rfl,(show bq [n3D w]=some (.val (.int 3)) from rfl),?_⟩)))));refine PU (Qy (PX ?_) rfl rfl);rw[show (!decide ((3:Int)=3))=false from rfl];refine P_ (Qa ?_);refine P4 (Qv (P0 (m_ (O_ (N_ rfl (PU (P5 (v:=eW (n3 w).1) ?_ rfl rfl rfl)))))));refine M_ (PY (AM _) (PX ?_) rfl rfl);cases h1:inM (n3 w).1 with
 |false=>exact P_ rfl
 |true=>
  refine Qc ?_;refine Qv (P0 (m_ (N_ rfl (m_ (O_ (N_ rfl (PU (P5 (v:=eW (n3 w).2.1) ?_ rfl rfl rfl))))))));refine M_ (PY (wM n _) (PX ?_) rfl rfl);cases h2:inP n (n3 w).2.1 with
  |false=>exact P_ rfl
  |true=>refine Qc ?_;refine P0 (m_ (N_ rfl (m_ (O_ (N_ rfl (PU (P5 (v:=eW (n3 w).2.2) ?_ rfl rfl rfl)))))));exact M_ (PY (wM n _) rfl rfl rfl)
theorem i7(h:cB n w=some t):n3D w=bS t/\inM (n3 w).1=true/\inP n (n3 w).2.1=true/\inP n (n3 w).2.2=true/\0<=t.m/\t.m<=Z30/\0<=t.a/\t.a<=t.b/\t.b<n:=by
 unfold cB at h;unfold n3D;split at h
 ·rename_i m a b e;split at h
  ·rename_i q;cases h;rw[e];dsimp only;refine⟨rfl,decide_eq_true (by lia),decide_eq_true (by lia),decide_eq_true (by lia),by lia,q.1,by lia,by lia,q.2.2⟩
  ·cases h
 ·cases h
theorem sZ(n:Int)(w:List Nat):yp [.int n,n3D w]=some (.val (.bl (cB n w).isSome)):=by
 apply P9;unfold yp
 (refine Dm.P7 ?_ rfl rfl;and_intros)
 refine P4 (Qv (P0 (m_ (N_ rfl (m_ (N_ rfl (M_ (PY (AO n w) (PX ?_) rfl rfl))))))));cases h:(inM (n3 w).1&&(inP n (n3 w).2.1&&inP n (n3 w).2.2)) with
 |false=>
  refine P_ ?_;cases ht:cB n w with
  |none=>rfl
  |some t=>obtain⟨_,h1,h2,h3,_⟩:=i7 ht;rw[h1,h2,h3]at h;cases h
 |true=>
  refine Qc ?_;rw[MY,MY]at h;obtain⟨h1,h2,h3⟩:=h;cases e1:(n3 w).1 with
  |none=>rw[e1]at h1;cases h1
  |some m=>
   cases e2:(n3 w).2.1 with
   |none=>rw[e2]at h2;cases h2
   |some a=>
    cases e3:(n3 w).2.2 with
    |none=>rw[e3]at h3;cases h3
    |some b=>
     rw[e1]at h1;rw[e2]at h2;rw[e3]at h3;have h1:=of_decide_eq_true h1;have h2:=of_decide_eq_true h2;have h3:=of_decide_eq_true h3;have en:n3 w=(some m,some a,some b):=by rw[<- e1,<- e2,<- e3]
     unfold n3D;rw[en];refine O_ (O_ (N_ rfl (PU (P5 (v:=.int a) ?_ rfl rfl rfl))));refine O_ (N_ rfl (PU (P5 (v:=.int b) ?_ rfl rfl rfl)));refine Q5 ?_ rfl rfl;unfold cB;rw[en];dsimp only;by_cases q:a<=b
     ·rw[if_pos ⟨h1.2,q,by lia⟩,decide_eq_true (by lia)];rfl
     ·rw[if_neg fun z=>q z.2.1,decide_eq_false (by lia)];rfl
noncomputable def fX(n:Int)(ws:List (List Nat)):Option (List Tie):=if ws.length<=60/\(∀w∈ws,(cB n w).isSome=true)/\steps ((ws.filterMap (cB n)).map (·.m))=true then some (ws.filterMap (cB n)) else none
theorem all_some:∀{ws:List (List Nat)},(∀w∈ws,(cB n w).isSome=true)->ws.map n3D=(ws.filterMap (cB n)).map bS/\ws.map (fun w=>sY (cB n w))=(ws.filterMap (cB n)).map bS
 |[],_=>⟨rfl,rfl⟩
 |w::ws,h=>by
  obtain⟨h1,h2⟩:=all_some fun x hx=>h x (MK _ hx);have hw:=h w MM;cases ht:cB n w with
  |none=>rw[ht]at hw;cases hw
  |some t=>rw[N1,ht];dsimp only;rw[Mu,Mu,Mu,h1,h2,ht,(i7 ht).1];exact⟨rfl,rfl⟩
theorem s_(n1:1<=n)(n10:n<=10)(ws:List (List Nat))(hl:ws.length<=30000):gy [.int n,.lst (ws.map n3D)]=some (.val (.bl (fX n ws).isSome)):=by
 apply P9;unfold gy
 (refine Dm.P7 ?_ rfl rfl;and_intros)
 refine PV (P6 (Qe (P1 (PZ (P0 (m_ (N_ rfl (M_ (PY (nJ n1 n10) (PX (P_ ?_)) rfl rfl)))))))));refine Qe (P1 (PZ (Qk (N_ rfl (Qh (v:=.val (.bl true)) (PX (P_ ?_)) rfl rfl)))));refine PZ (O_ (Qj (m_ (N_ rfl (M_ (QB (Aw:=n3D) (xs:=ws) ?_ rfl))))));refine PU (QA (PX ?_) rfl rfl);unfold fX;by_cases h1:ws.length<=60
 rotate_left
 ·rw[decide_eq_true (by lia),if_neg fun z=>h1 z.1];exact Qs rfl (P4 (PU rfl))
 rw[decide_eq_false (by lia)];refine Qi rfl (Qa ?_);refine PV (P6 (P1 (PZ (Qj (m_ (QK n3D ws (fun w=>(cB n w).isSome) Dat.bl (d:=.lst (ws.map n3D)) ?_ rfl rfl rfl (by decide) (M6 hl (by decide)) fun w hw=>?_))))))
 rotate_left
 ·exact P0 (m_ (N_ rfl (m_ (N_ rfl (M_ (PY (sZ n w) (Ql ⟨rfl,rfl⟩) rfl rfl))))))
 refine M_ (QE (fun w=>(cB n w).isSome) (xs:=ws) ?_ (by rw[Nv];rfl));by_cases h2:∀w∈ws,(cB n w).isSome=true
 rotate_left
 ·have:(ws.all fun w=>(cB n w).isSome)=false:=by
   rw[Pe];intro z;exact h2 (M3.mp z)
  rw[this,if_neg fun z=>h2 z.2.1];exact PX (Qc (P4 (PU rfl)))
 rw[M3.mpr h2];refine PX (P_ (Qa ?_));obtain⟨e1,_⟩:=all_some h2;have hts:(ws.filterMap (cB n)).length<=60:=M6 (List.length_filterMap_le _ _) h1;rw[e1];refine P4 (P0 (m_ (QK bS (ws.filterMap (cB n)) (·.m) Dat.int (d:=av (ws.filterMap (cB n))) ?_ rfl rfl rfl (by decide) (M6 hts (by decide)) fun t ht=>?_)))
 ·refine M_ (PY (AL _ ((ws.filterMap (cB n)).map (·.m)) (by rw[MP];lia) (.inr rfl)) ?_ rfl rfl);cases h3:steps ((ws.filterMap (cB n)).map (·.m)) with
  |true=>rw[if_pos ⟨h1,h2,rfl⟩];rfl
  |false=>rw[if_neg fun z=>by cases z.2.2];rfl
 ·exact O_ (N_ rfl (PU (P5 (v:=.int t.m) (Ql ⟨rfl,rfl⟩) rfl rfl rfl)))
theorem Kg{f g:FS}(h:f ρ=none)(k:Ws g ρ N R B C):Ws (sUn f g) ρ N R B C:=by obtain⟨o,e,q⟩:=k;exact⟨o,by unfold sUn;rw[h];exact e,q⟩
theorem AQ{Rr:Env->Option Env}{C ie:Nat}{h:FS}{ρ ρ1:Env}(e:Rr ρ=some ρ1)(h0:ie≠0){B D:Env->Prop}(k:Ws h (ρ1.set ie (.sh (.exc C))) (fun ρ'=>N (ρ'.set ie .un)) (fun r ρ'=>R r (ρ'.set ie .un)) (fun _=>False) (fun _=>False)):Ws (mV Rr C ie h) ρ N R B D:=by
 obtain⟨o,eo,q⟩:=k;cases o with
 |nx ρ'=>exact⟨.nx (ρ'.set ie .un),by unfold mV;rw[e];dsimp only;rw[if_neg h0,eo],q⟩
 |ret r ρ'=>exact⟨.ret r (ρ'.set ie .un),by unfold mV;rw[e];dsimp only;rw[if_neg h0,eo],q⟩
 |bk ρ'=>exact q.elim
 |ct ρ'=>exact q.elim
theorem kU{bad:List Dat->Bool}{fs:List FE}{ρ ρ1:Env}{xs:List Val}(h1:eAs fs ρ=some (xs,ρ1))(h2:pks ρ1 xs=some ds)(h:bad ds=true):lz bad fs ρ=some ρ1:=by unfold lz;rw[h1];dsimp only;rw[h2];dsimp only;rw[if_pos h]
theorem qW{n m:Nat}{R:Env->Option Env}(hl:ds.length=n)(h:R (ds.map Cell.sh++gc m .un)=some ρ):fnX n m R ds=true:=by unfold fnX;rw[h,decide_eq_true hl];rfl
theorem L7{f g:FS}(k:Ws f ρ N R B C):Ws (sUn f g) ρ N R B C:=by obtain⟨o,e,q⟩:=k;exact⟨o,by unfold sUn;rw[e],q⟩
noncomputable def gQ:List Nat:=[110,111,110,101]
theorem AR:asc gQ:=⟨by decide,by decide⟩
noncomputable def pieces(s:List Nat):List (List Nat):=aR 59 32 [] s
theorem iC(c d:Nat):∀(s qN:List Nat),(∀p∈aR c d qN s,(∀x∈p,x∈qN\/x∈s)/\p.length<=qN.length+s.length)/\(aR c d qN s).length<=s.length+1
 |[],qN=>by rw[aR];exact⟨fun p hp=>by rw[M4.mp hp];exact⟨fun x h=>.inl h,by simp⟩,by simp⟩
 |[x],qN=>by
  rw[aR];refine⟨fun p hp=>?_,by simp⟩;rw[M4.mp hp];refine⟨fun y h=>?_,by simp⟩;rcases Nf.mp h with h | h
  ·exact .inl h
  ·exact .inr h
 |x::y::r,qN=>by
  rw[aR];split
  ·obtain⟨h1,h2⟩:=iC c d r [];refine⟨fun p hp=>?_,by simp;lia⟩;rcases MV.mp hp with rfl | hp
   ·exact⟨fun z h=>.inl h,by simp⟩
   ·obtain⟨g1,g2⟩:=h1 p hp;refine⟨fun z h=>?_,by simp at g2 ⊢;lia⟩;rcases g1 z h with q | q
    ·cases q
    ·exact .inr (MK _ (MK _ q))
  ·obtain⟨h1,h2⟩:=iC c d (y::r) (qN++[x]);refine⟨fun p hp=>?_,by simp at h2 ⊢;lia⟩;obtain⟨g1,g2⟩:=h1 p hp;refine⟨fun z h=>?_,by simp at g2 ⊢;lia⟩;rcases g1 z h with q | q
   ·rcases Nf.mp q with q | q
    ·exact .inl q
    ·rw[M4.mp q];exact .inr MM
   ·exact .inr (MK _ q)
 termination_by s=>s.length
theorem u6(h:asc s):∀p∈pieces s,asc p:=fun p hp=>by obtain⟨h1,_⟩:=iC 59 32 s [];obtain⟨g1,g2⟩:=h1 p hp;exact l9 h (fun x hx=>(g1 x hx).resolve_left (by simp)) (by simpa using g2)
theorem nK(s:List Nat):(pieces s).length<=s.length+1:=(iC 59 32 s []).2
theorem yD(h:asc s):kN s (.str [59,32])=some (.new (.lst ((pieces s).map .str))):=by unfold kN;dsimp only;rw[if_pos ⟨M6 h.2 (by decide),by decide,by decide⟩];rfl
theorem qX(h:asc s):j5 [.str s]=some (.new (.lst (if s=gQ then [] else (pieces s).map n3D))):=by
 have hp:=nK s;have hs:=h.2;apply P9;unfold j5
 (refine Dm.P7 ?_ rfl rfl;and_intros)
 refine PV (P6 (PZ (O_ (N_ rfl (PU (QT h AR (PX ?_) rfl rfl))))));refine QI (fun e=>?_) fun e=>Qa ?_
 ·rw[if_pos e];exact P4 (Qu (M_ (Qd rfl rfl rfl (by decide))))
 ·rw[if_neg e];refine P4 (Q2 Dat.str (pieces s) n3D id (ρ1:=[.sh (.str s)]) ?_ ?_ rfl (by decide) (by unfold SZ;lia) fun p hp=>?_)
  ·rw[List.map_id];rfl
  ·apply QL;exact QO (QC (N_ rfl ⟨s,rfl,PU ⟨_,_,rfl,yD h,QF (j4 ⟨rfl,rfl⟩)⟩⟩))
  ·exact P0 (m_ (N_ rfl (M_ (Qo (sX (u6 h p hp)) (Ql ⟨rfl,rfl⟩) rfl rfl rfl rfl))))
noncomputable def lF(n:Int)(s:List Nat):Option (List Tie):=if s=gQ then some [] else fX n (pieces s)
end
section
variable{n:Int}(n1:1<=n)(n10:n<=10){s:List Nat}(h:asc s)
theorem tu{ws:List (List Nat)}{r:List Tie}(e:fX n ws=some r):ws.map n3D=r.map bS/\ws.map (fun w=>sY (cB n w))=r.map bS:=by
 unfold fX at e;split at e
 ·rename_i q;cases e;exact all_some q.2.1
 ·cases e
theorem AS:fX n []=some []:=by unfold fX;rw[if_pos ⟨by simp,by simp,rfl⟩];rfl
noncomputable def rdL(s:List Nat):List (List Nat):=if s=gQ then [] else pieces s
theorem DC(h:asc s):(rdL s).length<=20001:=by
 unfold rdL;split
 ·simp
 ·have:=nK s;have:=h.2
  lia
theorem AU(h:asc s):j5 [.str s]=some (.new (.lst ((rdL s).map n3D))):=by rw[qX h];unfold rdL;split<;>rfl
theorem wN:fX n (rdL s)=lF n s:=by
 unfold rdL lF;split
 ·exact AS
 ·rfl
end
section
variable{n:Int}{r:List Tie}{w:List Nat}{ws:List (List Nat)}{Q:Val->Env->Prop}{t:Tie}{ρ ρ1:Env}{k:Nat}{it:FI}
noncomputable def bL(t:Tie):List Nat:=aW t.m.toNat++[58]++aW t.a.toNat++[45]++aW t.b.toNat
noncomputable def textOf(r:List Tie):List Nat:=if r=[] then gQ else cy [59,32] (r.map bL)
theorem textOf_nil:textOf []=gQ:=rfl
theorem textOf_cons(t:Tie)(r:List Tie):textOf (t::r)=cy [59,32] ((t::r).map bL):=by unfold textOf;rw[if_neg (by simp)]
theorem fY(y s:List Nat):cy y [s]=s:=rfl
theorem dO(y s z:List Nat)(r:List (List Nat)):cy y (s::z::r)=s++y++cy y (z::r):=by rw[cy];intro h;cases h
theorem join_snoc(y z:List Nat):∀(ss:List (List Nat)) (s:List Nat),cy y (ss++[s])++z=cy y (ss++[s++z])
 |[],s=>rfl
 |[a],s=>by show cy y (a::s::[])++z=cy y (a::(s++z)::[]);rw[dO,dO,fY,fY];simp
 |a::b::ss,s=>by
  show cy y (a::b::(ss++[s]))++z=cy y (a::b::(ss++[s++z]));rw[dO,dO,Ny]
  congr 1
  exact join_snoc y z (b::ss) s
theorem gR(c d:Nat)(yi:List Nat):∀(s qN:List Nat),c∉s->aR c d qN (s++c::d::yi)=(qN++s)::aR c d [] yi
 |[],qN,_=>by rw[Mw,aR,if_pos ⟨rfl,rfl⟩,Nl]
 |[x],qN,h=>by have hx:x≠c:=fun z=>h (by rw[z];exact MM);show aR c d qN (x::c::(d::yi))=_;rw[aR,if_neg fun z=>hx z.1];have:=gR c d yi [] (qN++[x]) (by simp);rw[Mw,Nl]at this;exact this
 |x::y::s,qN,h=>by have hx:x≠c:=fun z=>h (by rw[z];exact MM);show aR c d qN (x::y::(s++c::d::yi))=_;rw[aR,if_neg fun z=>hx z.1];have:=gR c d yi (y::s) (qN++[x]) (fun z=>h (MK _ z));rw[Ny]at this;exact this
theorem nM(c d:Nat):∀(s qN:List Nat),c∉s->aR c d qN s=[qN++s]
 |[],qN,_=>by rw[aR,Nl]
 |[x],qN,_=>by rw[aR]
 |x::y::s,qN,h=>by have hx:x≠c:=fun z=>h (by rw[z];exact MM);rw[aR,if_neg fun z=>hx z.1,nM c d (y::s) (qN++[x]) fun z=>h (MK _ z)];simp
theorem gg:∀(s:List Nat) (ss:List (List Nat)),(∀p∈s::ss,59∉p)->pieces (cy [59,32] (s::ss))=s::ss
 |s,[],h=>by unfold pieces;rw[fY,nM 59 32 s [] (h s MM)];rfl
 |s,z::ss,h=>by have ih:=gg z ss fun p hp=>h p (MK _ hp);unfold pieces at ih ⊢;rw[dO,Ny];show aR 59 32 [] (s++59::32::cy [59,32] (z::ss))=_;rw[gR 59 32 _ s [] (h s MM),ih];rfl
theorem iD(c:Nat)(b:List Nat):∀a:List Nat,c∉a->ao c (a++c::b)=(a,[c],b)
 |[],_=>by rw[Mw,ao,if_pos rfl]
 |x::a,h=>by have hx:x≠c:=fun z=>h (by rw[z];exact MM);rw[Mz,ao,if_neg hx,iD c b a fun z=>h (MK _ z)]
theorem dU{v c:Nat}(h:c<48\/57<c):c∉aW v:=fun z=>by
 have:=(fk c).mp (M3.mp (gM v) c z)
 lia
theorem cF{v:Nat}(h:v<10 ^ 60):rdN (aW v)=some v:=by unfold rdN;have:=l8 v;rw[if_pos ⟨⟨List.length_pos_iff.mpr this,cz (by decide) h⟩,gM v,fun z=>z.2 (ym z.1)⟩,sJ]
theorem iE{c:Nat}(h:c∈w)(hc:c<48\/57<c):rdN w=none:=by
 unfold rdN;rw[if_neg];rintro⟨_,z,_⟩;have:=(fk c).mp (M3.mp z c h)
 lia
structure TOk(n:Int)(t:Tie):Prop where
 m0:0<=t.m
 m1:t.m<=Z30
 a0:0<=t.a
 ab:t.a<=t.b
 bn:t.b<n
theorem TOk.small(n10:n<=10)(h:TOk n t):t.m.toNat<10 ^ 60/\t.a.toNat<10 ^ 60/\t.b.toNat<10 ^ 60:=by
 obtain⟨h1,h2,h3,h4,h5⟩:=h;have e:(10:Nat) ^ 60=1000000000000000000000000000000000000000000000000000000000000:=by decide
 unfold Z30 at h2;rw[e]
 lia
theorem nN(A B:List Nat)(m a:Nat)(hA:58∉A):n3 (A++[58]++aW a++[45]++B)=(rdN A,rdN (aW a),rdN B):=by
 unfold n3;have e1:ao 58 (A++[58]++aW a++[45]++B)=(A,[58],aW a++45::B):=by
  have:=iD 58 (aW a++45::B) A hA;rw[<- this]
  congr 1
  simp
 rw[e1];dsimp only;rw[iD 45 B (aW a) (dU (.inl (by decide)))]
theorem i8(n10:n<=10)(h:TOk n t):cB n (bL t)=some t:=by
 obtain⟨s1,s2,s3⟩:=h.small n10;unfold cB bL;rw[nN (aW t.m.toNat) (aW t.b.toNat) 0 t.a.toNat (dU (.inr (by decide))),cF s1,cF s2,cF s3];dsimp only;obtain⟨h1,h2,h3,h4,h5⟩:=h;rw[if_pos ⟨by lia,by lia,by lia⟩]
 congr 1
 cases t;dsimp only at *
 congr 1<;>lia
theorem kW(h:(n3 w).1=none\/(n3 w).2.2=none):cB n w=none:=by
 unfold cB;split
 ·rename_i m a b e;rw[e]at h;rcases h with h | h<;>cases h
 ·rfl
theorem DG(t:Tie):59∉bL t:=by
 unfold bL;simp only[Nf,M4];have d:∀v,59∉aW v:=fun v=>dU (.inr (by decide));rintro((((h | h) | h) | h) | h)
 ·exact d _ h
 ·cases h
 ·exact d _ h
 ·cases h
 ·exact d _ h
theorem gS(h:w∈ws)(e:cB n w=none):fX n ws=none:=by unfold fX;rw[if_neg];rintro⟨_,z,_⟩;have:=z w h;rw[e]at this;cases this
theorem AV(v:Nat):∃c r,aW v=c::r/\48<=c/\c<=57:=by
 cases e:aW v with
 |nil=>exact absurd e (l8 v)
 |cons c r=>exact⟨c,r,rfl,(fk c).mp (M3.mp (gM v) c (by rw[e];exact MM))⟩
theorem qf(s:List Nat)(ss:List (List Nat)):∃q,cy [59,32] (s::ss)=s++q:=by
 cases ss with
 |nil=>exact⟨[],by rw[fY];simp⟩
 |cons a ss=>exact⟨_,by rw[dO,Ny]⟩
theorem text_head(t:Tie)(r:List Tie)(z:List Nat):cy [59,32] ((t::r).map bL)++z≠gQ:=by
 obtain⟨q,e⟩:=qf (bL t) (r.map bL);obtain⟨c,k,e2,h1,h2⟩:=AV t.m.toNat;rw[Mu,e];unfold bL gQ;rw[e2];intro h;injection h with h _
 lia
theorem dW(n10:n<=10):∀{r:List Tie},(∀t∈r,TOk n t)->(r.map bL).filterMap (cB n)=r
 |[],_=>rfl
 |t::r,h=>by rw[Mu,N1,i8 n10 (h t MM)];dsimp only;rw[dW n10 fun u hu=>h u (MK _ hu)]
theorem DH(n10:n<=10)(h:∀t∈r,TOk n t)(up:(r.map (·.m)).Pairwise (· < ·))(hl:r.length<=60):lF n (textOf r)=some r:=by
 unfold lF;cases r with
 |nil=>rw[textOf_nil,if_pos rfl]
 |cons t r=>
  rw[textOf_cons,if_neg (by have:=text_head t r [];rw[Nl]at this;exact this)];have e:pieces (cy [59,32] ((t::r).map bL))=(t::r).map bL:=gg (bL t) (r.map bL) fun p hp=>by obtain⟨u,_,rfl⟩:=NB.mp (show p∈(t::r).map bL from hp);exact DG u
  rw[e];unfold fX;rw[if_pos]
  ·rw[dW n10 h]
  ·refine⟨by rw[MP];exact hl,fun w hw=>?_,?_⟩
   ·obtain⟨u,hu,rfl⟩:=NB.mp hw;rw[i8 n10 (h u hu)];rfl
   ·rw[dW n10 h];exact(qe _).mpr up
theorem u7(r:List Tie):lF n (textOf r++[32])=none:=by
 unfold lF;cases r with
 |nil=>rw[textOf_nil,if_neg (by decide)];exact gS (w:=gQ++[32]) (by decide) (kW (.inl (show rdN (ao 58 (gQ++[32])).1=none from iE (c:=110) (by decide) (by decide))))
 |cons t r=>
  rw[textOf_cons,if_neg (text_head t r [32])];obtain⟨r0,u,e⟩:∃r0 u,t::r=r0++[u]:=by
   rcases List.eq_nil_or_concat (t::r) with z | ⟨r0,u,z⟩
   ·cases z
   ·exact⟨r0,u,by rw[z,List.concat_eq_append]⟩
  rw[e,NO,Mu,ML,join_snoc];have nn:∀p∈r0.map bL++[bL u++[32]],59∉p:=fun p hp=>by
   rcases Nf.mp hp with hp | hp
   ·obtain⟨x,_,rfl⟩:=NB.mp hp;exact DG x
   ·rw[M4.mp hp];intro z;rcases Nf.mp z with z | z
    ·exact DG u z
    ·cases M4.mp z
  have ep:pieces (cy [59,32] (r0.map bL++[bL u++[32]]))=r0.map bL++[bL u++[32]]:=by
   cases hq:r0.map bL++[bL u++[32]] with
   |nil=>simp at hq
   |cons s ss=>exact gg s ss (by rw[<- hq];exact nn)
  rw[ep];refine gS (w:=bL u++[32]) (by simp) (kW (.inr ?_));have:bL u++[32]=aW u.m.toNat++[58]++aW u.a.toNat++[45]++(aW u.b.toNat++[32]):=by unfold bL;simp
  rw[this,nN _ _ 0 _ (dU (.inr (by decide)))];exact iE (c:=32) (by simp) (by decide)
theorem QZ{i:Int}{o:Option (List Dat)}{K:RV->Prop}(h0:0<=i)(h:i.toNat<10 ^ 60)(k:K (.val (.str (aW i.toNat))))(ho:o=some [.int i]):WB cN o K:=QU k (by rw[ho,Of h0]) h
theorem qg:∀ss:List (List Nat),j3 (ss.map Dat.str)=some ss
 |[]=>rfl
 |s::ss=>by rw[Mu,j3,qg ss];rfl
theorem AW(y:List Nat)(ss:List (List Nat))(h:(ss.map fun s=>s.length+y.length).sum<=SZ):lB y (.lst (ss.map Dat.str))=some (.val (.str (cy y ss))):=by unfold lB;dsimp only;rw[qg];dsimp only;rw[if_pos h]
theorem tw(y:List Nat):∀ss:List (List Nat),(cy y ss).length<=(ss.map fun s=>s.length+y.length).sum
 |[]=>by simp[cy]
 |[s]=>by rw[fY];simp
 |s::z::ss=>by
  have:=tw y (z::ss);rw[dO,Mu,Pa,MA,MA]
  lia
def lo(w:List Nat):Prop:=∀c∈w,c<128
theorem bQ{a b:List Nat}(ha:lo a)(hb:lo b):lo (a++b):=fun c hc=>(Nf.mp hc).elim (ha c) (hb c)
theorem dh(h:lo w)(hl:w.length<=20000):asc w:=⟨M3.mpr fun c hc=>decide_eq_true (h c hc),hl⟩
theorem wO{y:List Nat}(hy:lo y):∀{ss:List (List Nat)},(∀s∈ss,lo s)->lo (cy y ss)
 |[],_=>fun c hc=>by cases hc
 |[s],h=>h s MM
 |s::z::ss,h=>by rw[dO];exact bQ (bQ (h s MM) hy) (wO hy fun x hx=>h x (MK _ hx))
theorem gh(v:Nat):lo (aW v):=fun c hc=>by
 have:=(fk c).mp (M3.mp (gM v) c hc)
 lia
theorem b8(h:w.all (fun c=>decide (c<128))=true):lo w:=fun c hc=>of_decide_eq_true (M3.mp h c hc)
theorem DK(t:Tie):lo (bL t):=bQ (bQ (bQ (bQ (gh _) (b8 rfl)) (gh _)) (b8 rfl)) (gh _)
theorem AX(n10:n<=10)(h:TOk n t):(bL t).length<=182:=by
 obtain⟨s1,s2,s3⟩:=h.small n10;have h1:=cz (by decide) s1;have h2:=cz (by decide) s2;have h3:=cz (by decide) s3;unfold bL;simp only[MA,OC]
 lia
theorem AY{α:Type}(f:α->Nat)(k:Nat):∀l:List α,(∀x∈l,f x<=k)->(l.map f).sum<=l.length*k
 |[],_=>by simp
 |x::l,h=>by
  have:=AY f k l fun y hy=>h y (MK _ hy);have:=h x MM;rw[Mu,Pa,gV,Nat.succ_mul]
  lia
theorem text_sum(n10:n<=10)(h:∀t∈r,TOk n t):((r.map bL).map fun s=>s.length+[59,32].length).sum<=r.length*184:=by
 have:=AY (fun s:List Nat=>s.length+[59,32].length) 184 (r.map bL) fun s hs=>by
  obtain⟨t,ht,rfl⟩:=NB.mp hs;have:=AX n10 (h t ht);show _+2<=_
  lia
 rw[MP]at this;exact this
theorem text_lo(n10:n<=10)(h:∀t∈r,TOk n t)(hl:r.length<=12):lo (textOf r)/\(textOf r).length<=2208:=by
 unfold textOf;split
 ·exact⟨b8 rfl,by decide⟩
 ·have:=text_sum n10 h;have:=tw [59,32] (r.map bL);exact ⟨wO (b8 rfl) fun s hs=>by obtain⟨t,_,rfl⟩:=NB.mp hs;exact DK t,by lia⟩
theorem lG(n10:n<=10)(h:∀t∈r,TOk n t)(hl:r.length<=12):nk [av r]=some (.val (.str (textOf r))):=by
 have ok:okD 8 (av r)=true:=Kc bS r fun t=>rfl;apply P9;unfold nk
 (refine Dm.P7 ?_ rfl rfl;and_intros)
 refine PV (P6 (PZ (O_ (N_ rfl (Qu (M_ (Qd (Q4 (xs:=r.map bS) (PX ?_) rfl rfl ok) rfl rfl (by decide))))))));cases r with
 |nil=>exact Qs rfl (P4 (PU rfl))
 |cons t0 r0=>
  refine Qi rfl (Qa ?_);rw[textOf_cons]
  generalize hr:t0::r0=r at *
  have sm:=text_sum n10 h;refine P4 (QC (PU ⟨_,rfl,QK bS r bL Dat.str (d:=av r) ?_ rfl rfl rfl (by decide) (by unfold SZ;lia) fun t ht=>?_⟩))
  ·exact⟨_,_,rfl,AW _ _ (by unfold SZ;lia),rfl⟩
  ·have tk:=h t ht;obtain⟨s1,s2,s3⟩:=tk.small n10;have d1:=cz (by decide) s1;have d2:=cz (by decide) s2;have d3:=cz (by decide) s3;have sz:SZ=100000:=rfl;refine O_ (O_ (O_ (O_ (Qj (m_ (O_ (N_ rfl (PU (P5 (v:=.int t.m) ?_ rfl rfl rfl)))))))));refine M_ (QZ tk.m0 s1 ?_ rfl);refine PU (P8 ?_ rfl rfl (by simp;lia));refine Qj (m_ (O_ (N_ rfl (PU (P5 (v:=.int t.a) ?_ rfl rfl rfl)))));refine M_ (QZ tk.a0 s2 ?_ rfl);refine P8 ?_ rfl rfl (by simp;lia);refine PU (P8 ?_ rfl rfl (by simp;lia));refine Qj (m_ (O_ (N_ rfl (PU (P5 (v:=.int t.b) ?_ rfl rfl rfl)))));refine M_ (QZ (OO tk.a0 tk.ab) s3 ?_ rfl);refine P8 ?_ rfl rfl (by simp;lia);exact Ql ⟨rfl,rfl⟩
noncomputable def keep(r:List Tie)(ms:List Int):List Tie:=((r.zip ms).filter fun p=>decide (0<p.2)).map (·.1)
theorem qh(t:Tie)(m:Int)(r:List Tie)(ms:List Int):keep (t::r) (m::ms)=if 0<m then t::keep r ms else keep r ms:=by unfold keep;rw[O3,List.filter_cons];by_cases h:0<m<;>simp[h]
noncomputable def zE(x:Tie×Int):Dat:=.tup [bS x.1,.int x.2]
theorem wQ:∀(r:List Tie) (ms:List Int),iI (r.map bS) (ms.map Dat.int)=(r.zip ms).map zE
 |[],_=>by simp[iI]
 |_::_,[]=>by simp[iI]
 |t::r,m::ms=>by rw[Mu,Mu,iI,wQ r ms,O3,Mu];rfl
theorem Rl(r:List Tie)(ms:List Int)(p:Tie×Int->Bool){t:FT}(q:Q (.new (av (((r.zip ms).filter p).map (·.1)))) ρ1)(LX:it ρ=some (iI (r.map bS) (ms.map Dat.int),ρ1))(hk:ρ1.length=k)(hk0:k≠0)(hl:r.length<=SZ)
  (ht:∀x:Tie×Int,Wt t (ρ1++[.sh (bS x.1),.sh (.int x.2)]) fun c ρ'=>c=p x/\ρ'=ρ1++[.sh (bS x.1),.sh (.int x.2)]):We (cP it 2 (bT [k,k+1]) t (eV k)) ρ Q:=by
 have b:∀(x:Tie×Int) (c1 c2:Cell),bT [k,k+1] (zE x) (ρ1++[c1,c2])=some (ρ1++[.sh (bS x.1),.sh (.int x.2)]):=fun x c1 c2=>by show sets [k,k+1] [bS x.1,.int x.2] _=_;rw[sets,if_neg hk0,sets,if_neg (by lia),sets];rw[Oa _ _ (by lia),Oa _ _ (by lia)];subst hk;rw[Nat.sub_self,show ρ1.length+1-ρ1.length=1 by lia];rfl
 refine Rn zE (r.zip ms) p (fun x=>x.1) bS (fun x=>(ρ1++[Cell.sh (bS x.1),Cell.sh (.int x.2)]:Env)) (own:=2) (bd:=bT [k,k+1]) (Q:=Q) q (by rw[LX,wQ]) (fun x=>b x .un .un) (fun x y=>b x (.sh (bS y.1)) (.sh (.int y.2))) (fun x=>PD) (by rw[List.length_zip];lia) (fun x _=>ht x) (fun x _ _=>?_);refine N_ (d:=bS x.1) ?_ (Ql ⟨rfl,rfl⟩);rw[M5 (by lia),hk,Nat.sub_self];rfl
theorem Hg(r:List Tie):eqD (av r) (av r)=true:=by
 unfold av;rw[eqD]
 induction r with
 |nil=>rfl
 |cons b bs ih=>rw[Mu,kE,ih];simp[bS,eqD,kE]
theorem yE(r:List Tie)(ms:List Int)(q:Q (.new (av (keep r ms))) ρ1)(LX:it ρ=some (iI (r.map bS) (ms.map Dat.int),ρ1))(hk:ρ1.length=k)(hk0:k≠0)(hl:r.length<=SZ):We (cP it 2 (bT [k,k+1]) (tV (e2 gGt (eV (k+1)) (eC (.int 0)))) (eV k)) ρ Q:=by refine Rl r ms (fun p=>decide (0<p.2)) q LX hk hk0 hl fun x=>?_;refine PZ (O_ (N_ (d:=.int x.2) ?_ (PU (QA (PX ⟨rfl,rfl⟩) rfl rfl))));rw[M5 (by lia),hk];simp
theorem u9(k:Nat):∀r:List Tie,∃(gs:List (Int->Int)) (ms:List Int),qS k gs r ms/\cX k r ms
 |[]=>⟨_,[],G6 k,trivial⟩
 |t::r=>by obtain⟨gs,ms,h1,h2⟩:=u9 k r;exact⟨_,_,h1.step t,h2,h1.num t⟩
noncomputable def nmb(k:Nat)(r:List Tie):List Int:=Classical.choose (OE (u9 k r))
theorem iF(k:Nat)(r:List Tie):cX k r (nmb k r):=(OE (OE (u9 k r))).2
theorem j_(d:Dat)(h:pF isT d=some (.val (.bl false))):cA [d]=some (.val (.bl false)):=by
 apply P9;unfold cA
 (refine Dm.P7 ?_ rfl rfl;and_intros)
 refine PV (P6 (Qe (P1 (PZ (Qk (N_ rfl (Qh (v:=.val (.bl false)) (PX (Qc (Qc ?_))) rfl h)))))));exact P4 (PU rfl)
theorem qY(ds:List Dat)(h:ds.length≠3)(hl:ds.length<100):cA [.tup ds]=some (.val (.bl false)):=by
 apply P9;unfold cA
 (refine Dm.P7 ?_ rfl rfl;and_intros)
 refine PV (P6 (Qe (P1 (PZ (Qk (N_ rfl (Qh (v:=.val (.bl true)) (PX (P_ ?_)) rfl rfl)))))));refine PZ (O_ (Qj (m_ (N_ rfl (M_ (QG ?_ rfl))))));refine PU (Qy (PX ?_) rfl rfl);rw[decide_eq_false (by lia)];exact Qc (P4 (PU rfl))
theorem kc(a b c:Dat)(h:kQ [b]=some (.val (.bl false))):cA [.tup [a,b,c]]=some (.val (.bl false)):=by
 apply P9;unfold cA
 (refine Dm.P7 ?_ rfl rfl;and_intros)
 refine PV (P6 (Qe (P1 (PZ (Qk (N_ rfl (Qh (v:=.val (.bl true)) (PX (P_ ?_)) rfl rfl)))))));refine PZ (O_ (Qj (m_ (N_ rfl (M_ (QG ?_ rfl))))));refine PU (Qy (PX ?_) rfl rfl);refine Qi rfl (Qa ?_);refine PV (P6 (Qe (P1 (PZ (P0 (m_ (O_ (N_ rfl (PU (P5 (v:=b) ?_ rfl rfl rfl))))))))));refine M_ (PY h (PX (Qc (Qc ?_))) rfl rfl);exact P4 (PU rfl)
theorem e_(a b c:Dat)(hb:kQ [b]=some (.val (.bl true)))(h:gy [a,c]=some (.val (.bl false))):cA [.tup [a,b,c]]=some (.val (.bl false)):=by
 apply P9;unfold cA
 (refine Dm.P7 ?_ rfl rfl;and_intros)
 refine PV (P6 (Qe (P1 (PZ (Qk (N_ rfl (Qh (v:=.val (.bl true)) (PX (P_ ?_)) rfl rfl)))))));refine PZ (O_ (Qj (m_ (N_ rfl (M_ (QG ?_ rfl))))));refine PU (Qy (PX ?_) rfl rfl);refine Qi rfl (Qa ?_);refine PV (P6 (Qe (P1 (PZ (P0 (m_ (O_ (N_ rfl (PU (P5 (v:=b) ?_ rfl rfl rfl))))))))));refine M_ (PY hb (PX (P_ ?_)) rfl rfl);refine P1 (PZ (P0 (m_ (O_ (N_ rfl (PU (P5 (v:=a) ?_ rfl rfl rfl)))))));refine m_ (O_ (N_ rfl (PU (P5 (v:=c) ?_ rfl rfl rfl))));refine M_ (PY h (PX (Qc ?_)) rfl rfl);exact P4 (PU rfl)
theorem fy(a c:Dat)(h:uW [a]=some (.val (.bl false))):gy [a,c]=some (.val (.bl false)):=by
 apply P9;unfold gy
 (refine Dm.P7 ?_ rfl rfl;and_intros)
 refine PV (P6 (Qe (P1 (PZ (P0 (m_ (N_ rfl (M_ (PY h (PX (Qc (Qc ?_))) rfl rfl)))))))));exact P4 (PU rfl)
theorem tE(n:Nat)(n1:1<=n)(n10:n<=10)(c:Dat)(h:pF isL c=some (.val (.bl false))):gy [.int n,c]=some (.val (.bl false)):=by
 apply P9;unfold gy
 (refine Dm.P7 ?_ rfl rfl;and_intros)
 refine PV (P6 (Qe (P1 (PZ (P0 (m_ (N_ rfl (M_ (PY (nJ (n:=(n:Int)) (by lia) (by lia)) (PX (P_ ?_)) rfl rfl)))))))));refine Qe (P1 (PZ (Qk (N_ rfl (Qh (v:=.val (.bl false)) (PX (Qc (Qc ?_))) rfl h)))));exact P4 (PU rfl)
theorem qZ(h:t.a=t.b):∀{r:List Tie} {ms:List Int},cX k r ms->t∈r->(0:Int)∈ms
 |[],_,_,ht=>by cases ht
 |u::r,[],al,_=>al.elim
 |u::r,m::ms,al,ht=>by
  rcases MV.mp ht with rfl | ht
  ·have h1:nC k r ms t m:=al.2;rcases h1 with⟨e,_⟩ | ⟨_,_,nc,_⟩
   ·rw[e];exact MM
   ·rw[h]at nc;exact absurd (Con.refl _) nc
  ·exact MK _ (qZ h al.1 ht)
theorem nP:∀{r:List Tie} {ms:List Int},cX k r ms->(keep r ms).length<r.length->(0:Int)∈ms
 |[],_,_,ht=>by cases ht
 |u::r,[],al,_=>al.elim
 |u::r,m::ms,al,ht=>by
  have h1:nC k r ms u m:=al.2;rw[qh]at ht;by_cases hm:0<m
  ·rw[if_pos hm,gV,gV]at ht;exact MK _ (nP al.1 (by lia))
  ·rcases h1 with⟨e,_⟩ | ⟨h1,_⟩
   ·rw[e];exact MM
   ·lia
theorem tF{ms:List Int}(h:t∈keep r ms):t∈r:=by unfold keep at h;obtain⟨p,hp,rfl⟩:=NB.mp h;exact(Og (OG.mp hp).1).1
theorem gT:∀(r:List Tie) (ms:List Int),(keep r ms).Sublist r
 |[],ms=>by unfold keep;exact List.Sublist.refl _
 |t::r,[]=>by unfold keep;simp
 |t::r,m::ms=>by
  rw[qh];split
  ·exact(gT r ms).cons₂ t
  ·exact(gT r ms).cons t
theorem i9(o:Option Nat):kQ [eW o]=some (.val (.bl (match o with | none=>false | some v=>decide (1<=(v:Int)/\(v:Int)<=6)))):=by
 apply P9;unfold kQ
 (refine Dm.P7 ?_ rfl rfl;and_intros)
 refine P4 (P0 (m_ (N_ rfl (m_ (PU (m_ (PU (M_ (PY (fu o 1 6) ?_ rfl rfl)))))))));cases o<;>rfl
theorem u_(o:Option Nat):uW [eW o]=some (.val (.bl (match o with | none=>false | some v=>decide (1<=(v:Int)/\(v:Int)<=10)))):=by
 apply P9;unfold uW
 (refine Dm.P7 ?_ rfl rfl;and_intros)
 refine P4 (P0 (m_ (N_ rfl (m_ (PU (m_ (PU (M_ (PY (fu o 1 10) ?_ rfl rfl)))))))));cases o<;>rfl
noncomputable def gj(o1 o2:Option Nat)(ws:List (List Nat)):Option (Nat×Nat×List Tie):=match o1,o2 with
 | some n,some k=>if (1≤k∧k≤6)∧1≤n∧n≤10 then (match fX n ws with
  |some r=>if (0:Int)∈nmb k r then none else some (n,k,r)
  |none=>none) else none
 |_,_=>none
theorem AZ(e:fX n ws=some r):(∀t∈r,TOk n t)/\r.length<=60:=by
 unfold fX at e;split at e
 ·rename_i q;cases e;refine⟨fun t ht=>?_,M6 (List.length_filterMap_le _ _) q.1⟩;obtain⟨w,hw,e⟩:=Om.mp ht;obtain⟨_,_,_,_,h1,h2,h3,h4,h5⟩:=i7 e;exact⟨h1,h2,h3,h4,h5⟩
 ·cases e
theorem A0(n k:Nat)(n1:1<=n)(n10:n<=10)(k1:1<=k)(k6:k<=6)(r:List Tie)(hr:Ends n r)(hl:r.length<=60)(h:gy [.int (n:Nat),av r]=some (.val (.bl true))):cA [.tup [.int (n:Nat),.int (k:Nat),av r]]=some (.val (.bl (decide ((0:Int)∉nmb k r)))):=by
 obtain⟨ms,el,al⟩:=uZ n k n10 k1 k6 r hr (by lia);rw[al.uniq (iF k r)]at el;have hb:kQ [.int (k:Nat)]=some (.val (.bl true)):=by have:=i9 (some k);show kQ [eW (some k)]=_;rw[this];show some (RV.val (.bl (decide _)))=_;rw[decide_eq_true (by lia)]
 apply P9;unfold cA
 (refine Dm.P7 ?_ rfl rfl;and_intros)
 refine PV (P6 (Qe (P1 (PZ (Qk (N_ rfl (Qh (v:=.val (.bl true)) (PX (P_ ?_)) rfl rfl)))))));refine PZ (O_ (Qj (m_ (N_ rfl (M_ (QG ?_ rfl))))));refine PU (Qy (PX ?_) rfl rfl);refine Qi rfl (Qa ?_);refine PV (P6 (Qe (P1 (PZ (P0 (m_ (O_ (N_ rfl (PU (P5 (v:=.int (k:Nat)) ?_ rfl rfl rfl))))))))));refine M_ (PY hb (PX (P_ ?_)) rfl rfl);refine P1 (PZ (P0 (m_ (O_ (N_ rfl (PU (P5 (v:=.int (n:Nat)) ?_ rfl rfl rfl)))))));refine m_ (O_ (N_ rfl (PU (P5 (v:=av r) ?_ rfl rfl rfl))));refine M_ (PY h (PX (P_ (Qa ?_))) rfl rfl);refine P4 (O_ (PU (P0 (m_ (O_ (N_ rfl (PU (P5 (v:=.int (n:Nat)) ?_ rfl rfl rfl))))))));refine m_ (O_ (N_ rfl (PU (P5 (v:=av r) ?_ rfl rfl rfl))));refine m_ (O_ (N_ rfl (PU (P5 (v:=.int (k:Nat)) ?_ rfl rfl rfl))));refine M_ (Qo el ?_ rfl rfl rfl rfl);refine Rj (xs:=nmb k r) ?_ rfl rfl;refine Q8 (congrArg (fun b=>RV.val (Dat.bl b)) ?_);simp
theorem tG(o1 o2:Option Nat)(ws:List (List Nat))(hl:ws.length<=30000):cA [.tup [eW o1,eW o2,.lst (ws.map n3D)]]=some (.val (.bl (gj o1 o2 ws).isSome)):=by
 have l2:=i9 o2;have l1:=u_ o1;cases o2 with
 |none=>rw[kc _ _ _ l2];cases o1<;>rfl
 |some k=>
  dsimp only at l2;by_cases hk:1<=k/\k<=6
  rotate_left
  ·rw[decide_eq_false (by lia)]at l2;rw[kc _ _ _ l2];unfold gj;cases o1 with
   |none=>rfl
   |some n=>dsimp only;rw[if_neg fun z=>hk z.1];rfl
  rw[decide_eq_true (by lia)]at l2;cases o1 with
  |none=>rw[e_ _ _ _ l2 (fy _ _ l1)];rfl
  |some n=>
   dsimp only at l1;unfold gj;dsimp only;by_cases hn:1<=n/\n<=10
   rotate_left
   ·rw[decide_eq_false (by lia)]at l1;rw[e_ _ _ _ l2 (fy _ _ l1),if_neg fun z=>hn z.2];rfl
   rw[if_pos ⟨hk,hn⟩];have hb:=s_ (n:=(n:Int)) (by lia) (by lia) ws hl;cases e:fX n ws with
   |none=>rw[e]at hb;exact e_ (eW (some n)) _ _ l2 hb
   |some r=>
    rw[e]at hb;obtain⟨h1,h2⟩:=AZ e;have hev:=(tu e).1;rw[hev]at hb ⊢;have q:=A0 n k hn.1 hn.2 hk.1 hk.2 r (fun t ht=>by obtain⟨q1,q2,q3,q4,q5⟩:=h1 t ht;exact⟨q3,by lia,by lia,q5⟩) h2 hb;refine(show cA [.tup [.int (n:Nat),.int (k:Nat),av r]]=_ from q).trans ?_;dsimp only;by_cases z:(0:Int)∈nmb k r
    ·rw[if_pos z,decide_eq_false fun y=>y z];rfl
    ·rw[if_neg z,decide_eq_true z];rfl
theorem QX{s:FS}(h:Ws s ρ (fun ρ'=>ρ'=ρ1) (fun _ _=>False) (fun _=>False) (fun _=>False)):s ρ=some (.nx ρ1):=by
 obtain⟨o,e,q⟩:=h;cases o with
 |nx ρ=>rw[e];exact congrArg (fun r=>some (Out.nx r)) q
 |ret _ _=>exact q.elim
 |bk _=>exact q.elim
 |ct _=>exact q.elim
end
section
variable{w:List Nat}
noncomputable def pt(c:Nat)(w:List Nat):Dat:=.tup [.str (ao c w).1,.str (ao c w).2.1,.str (ao c w).2.2]
noncomputable def nw(w:List Nat):Dat:=.tup [eW (rdN (ao 32 w).1),eW (rdN (ao 32 (ao 32 w).2.2).1),.lst ((rdL (ao 32 (ao 32 w).2.2).2.2).map n3D)]
noncomputable def ee(w:List Nat):Option (Nat×Nat×List Tie):=gj (rdN (ao 32 w).1) (rdN (ao 32 (ao 32 w).2.2).1) (rdL (ao 32 (ao 32 w).2.2).2.2)
theorem rn1(h:asc w):sA 1 (eS2 d_ (eV 0) (eC (.str [32]))) [.sh (.str w),.un,.un,.un]=some (.nx [.sh (.str w),.sh (pt 32 w),.un,.un]):=by refine QX (Qg (QC (N_ rfl ⟨w,rfl,PU ⟨_,_,rfl,j8 h 32,?_⟩⟩)) (by decide));exact Qf rfl (by trivial)
theorem rn2(h:asc w):sA 2 (eS2 d_ (e2 gIx (eV 1) (eC (.int 2))) (eC (.str [32]))) [.sh (.str w),.sh (pt 32 w),.un,.un]=some (.nx [.sh (.str w),.sh (pt 32 w),.sh (pt 32 (ao 32 w).2.2),.un]):=by refine QX (Qg (QC (O_ (N_ rfl (PU (P5 (v:=.str (ao 32 w).2.2) ⟨_,rfl,PU ⟨_,_,rfl,j8 (fq 32 h).2 32,?_⟩⟩ rfl rfl rfl))))) (by decide));exact Qf rfl (by trivial)
theorem rn3(h:asc w):sA 3 (aT [(eF e8 [(e2 gIx (eV 1) (eC (.int 0)))]),(eF e8 [(e2 gIx (eV 2) (eC (.int 0)))]),(eF j5 [(e2 gIx (eV 2) (eC (.int 2)))])]) [.sh (.str w),.sh (pt 32 w),.sh (pt 32 (ao 32 w).2.2),.un]=some (.nx [.sh (.str w),.sh (pt 32 w),.sh (pt 32 (ao 32 w).2.2),.sh (nw w)]):=by obtain⟨a1,a2⟩:=fq 32 h;obtain⟨b1,b2⟩:=fq 32 a2;refine QX (Qg (Qw (m_ (P0 (m_ (O_ (N_ rfl (PU (P5 (v:=.str (ao 32 w).1) ?_ rfl rfl rfl)))))))) (by decide));refine M_ (PY (dg a1) ?_ rfl (j9 _));refine m_ (P0 (m_ (O_ (N_ rfl (PU (P5 (v:=.str (ao 32 (ao 32 w).2.2).1) ?_ rfl rfl rfl))))));refine M_ (PY (dg b1) ?_ rfl (j9 _));refine m_ (P0 (m_ (O_ (N_ rfl (PU (P5 (v:=.str (ao 32 (ao 32 w).2.2).2.2) ?_ rfl rfl rfl))))));refine M_ (Qo (AU b2) ?_ rfl rfl rfl rfl);exact M_ (Qd (Qf rfl (by trivial)) rfl rfl (by exact MQ rfl))
theorem rn4(h:asc w):aV (tV (eF cA [(eV 3)])) [.sh (.str w),.sh (pt 32 w),.sh (pt 32 (ao 32 w).2.2),.sh (nw w)]=some (!(ee w).isSome,[.sh (.str w),.sh (pt 32 w),.sh (pt 32 (ao 32 w).2.2),.sh (nw w)]):=by
 have b2:=(fq 32 (fq 32 h).2).2;have hb:cA [nw w]=some (.val (.bl (ee w).isSome)):=tG _ _ _ (M6 (DC b2) (by decide));have:Wt (aV (tV (eF cA [(eV 3)]))) [.sh (.str w),.sh (pt 32 w),.sh (pt 32 (ao 32 w).2.2),.sh (nw w)] (fun c ρ=>c=(!(ee w).isSome)/\ρ=[.sh (.str w),.sh (pt 32 w),.sh (pt 32 (ao 32 w).2.2),.sh (nw w)]):=by exact P1 (PZ (P0 (m_ (N_ rfl (M_ (PY hb (PX ⟨rfl,rfl⟩) rfl rfl))))))
 obtain⟨c,ρ,h1,rfl,rfl⟩:=this;exact h1
noncomputable def nvD:Option (Nat×Nat×List Tie)->Dat
 |some (n,k,r)=>.tup [.int (n:Nat),.int (k:Nat),av r]
 |none=>.non
theorem A1{o1 o2:Option Nat}{ws:List (List Nat)}{x:Nat×Nat×List Tie}(e:gj o1 o2 ws=some x):Dat.tup [eW o1,eW o2,.lst (ws.map n3D)]=nvD (some x):=by
 unfold gj at e;split at e
 ·split at e
  ·split at e
   ·split at e
    ·cases e
    ·rename_i q _;cases e;rw[(tu q).1];rfl
   ·cases e
  ·cases e
 ·cases e
theorem yF(h:asc w){x:Nat×Nat×List Tie}(e:ee w=some x):p_ [.str w]=some (.val (nvD (some x))):=by
 have hev:nw w=nvD (some x):=A1 e;have q:=rn4 h;rw[e]at q;have z:(aj (sA 1 (eS2 d_ (eV 0) (eC (.str [32])))) (aj (sA 2 (eS2 d_ (e2 gIx (eV 1) (eC (.int 2))) (eC (.str [32])))) (aj (sA 3 (aT [(eF e8 [(e2 gIx (eV 1) (eC (.int 0)))]),(eF e8 [(e2 gIx (eV 2) (eC (.int 0)))]),(eF j5 [(e2 gIx (eV 2) (eC (.int 2)))])])) (aj (sIf (aV (tV (eF cA [(eV 3)]))) (fun _=>none) sNx) (sR (eV 3)))))) [.sh (.str w),.un,.un,.un]=some (.ret (.val (nvD (some x))) [.sh (.str w),.sh (pt 32 w),.sh (pt 32 (ao 32 w).2.2),.sh (nw w)]):=by unfold aj;rw[rn1 h];dsimp only;rw[rn2 h];dsimp only;rw[rn3 h];dsimp only;unfold sIf;rw[q,hev];rfl
 unfold p_ fn;dsimp only[Pk,gc,Mz,Mw,List.length];rw[if_pos rfl,z]
theorem yG(h:asc w)(e:ee w=none):p_ [.str w]=none/\dI [.str w]=true:=by
 have q:=rn4 h;rw[e]at q;refine⟨?_,qW (ρ:=[.sh (.str w),.sh (pt 32 w),.sh (pt 32 (ao 32 w).2.2),.sh (nw w)]) rfl ?_⟩
 ·have z:(aj (sA 1 (eS2 d_ (eV 0) (eC (.str [32])))) (aj (sA 2 (eS2 d_ (e2 gIx (eV 1) (eC (.int 2))) (eC (.str [32])))) (aj (sA 3 (aT [(eF e8 [(e2 gIx (eV 1) (eC (.int 0)))]),(eF e8 [(e2 gIx (eV 2) (eC (.int 0)))]),(eF j5 [(e2 gIx (eV 2) (eC (.int 2)))])])) (aj (sIf (aV (tV (eF cA [(eV 3)]))) (fun _=>none) sNx) (sR (eV 3)))))) [.sh (.str w),.un,.un,.un]=none:=by
   unfold aj;rw[rn1 h];dsimp only;rw[rn2 h];dsimp only;rw[rn3 h];dsimp only;unfold sIf;rw[q];rfl
  unfold p_ fn;dsimp only[Pk,gc,Mz,Mw,List.length];rw[if_pos rfl,z]
 ·show uT (sA 1 (eS2 d_ (eV 0) (eC (.str [32])))) _ [.sh (.str w),.un,.un,.un]=_;unfold uT;rw[rn1 h];dsimp only;rw[rn2 h];dsimp only;rw[rn3 h];dsimp only;unfold rIf;rw[q];rfl
theorem lH(x y:Nat)(h:asc w):nu x y [.str w]=some (.val (nvD (ee w))):=by
 apply P9;unfold nu
 (refine Dm.P7 ?_ rfl rfl;and_intros)
 refine PV (Qg (PU (Qf ?_ (by trivial))) (by decide));refine PV (Qg (PU (Qf ?_ (by trivial))) (by decide));cases e:ee w with
 |some r=>refine PV (L7 (Qg (P0 (m_ (N_ rfl (M_ (Qo (yF h e) ?_ rfl rfl rfl rfl))))) (by decide)));refine Qf ?_ (by trivial);refine PV (P6 (PZ (O_ (N_ rfl (PU (QW (PX (Qs rfl ?_)) rfl rfl))))));exact P4 (N_ rfl rfl)
 |none=>
  obtain⟨q1,q2⟩:=yG h e;refine PV (Kg ?_ (AQ (ie:=3) (kU (ds:=[.str w]) rfl rfl q2) (by decide) ?_))
  ·unfold sA eF;simp[eAs,eV,pks,pk,q1]
  ·refine Qg (N_ rfl (Qf ?_ (by trivial))) (by decide);refine PV (P6 (PZ (O_ (N_ rfl (PU (QW (PX (Qi rfl (Qa ?_))) rfl rfl))))));have i1:∀b c:Bool,eZ [x,y] [b,c] (.exc x)=some (.val (.bl b)):=fun b c=>by
    unfold eZ pJ;dsimp only;rw[if_pos rfl];rfl
   refine PV (P6 (Qe (P1 (PZ (Qk (N_ rfl (Qh (v:=.val (.bl true)) (PX (P_ ?_)) rfl (i1 true false))))))));refine PZ (Qk (N_ rfl (Qh (v:=.val (.bl false)) (PX (P_ (Qa ?_))) rfl (i1 false true))));exact P4 (PU rfl)
end
section
variable{r:List Tie}{n k:Nat}{Q:Val->Env->Prop}{t:Tie}{w:List Nat}{ρ:Env}{N:Int}
theorem wR{lo i hi:Int}{a b c:FE}(ha:∀Q:Val->Env->Prop,Q (.val (.int lo)) ρ->We a ρ Q)(hb:∀Q:Val->Env->Prop,Q (.val (.int i)) ρ->We b ρ Q)(hc:∀Q:Val->Env->Prop,Q (.val (.int hi)) ρ->We c ρ Q)(q:Q (.val (.bl (decide (lo<=i/\i<=hi)))) ρ):We (ak gLe gLe a b c) ρ Q:=by
 have ea:a ρ=some (.val (.int lo),ρ):=QM (ha _ ⟨rfl,rfl⟩);have eb:b ρ=some (.val (.int i),ρ):=QM (hb _ ⟨rfl,rfl⟩);have ec:c ρ=some (.val (.int hi),ρ):=QM (hc _ ⟨rfl,rfl⟩);have e1:gLe (.int lo) (.int i)=some (.val (.bl (decide (lo<=i)))):=rfl;have e2:gLe (.int i) (.int hi)=some (.val (.bl (decide (i<=hi)))):=rfl;refine⟨_,_,?_,q⟩;unfold ak;simp only[ea,eb,ec,pk,e1,e2,RV.aB];by_cases h1:lo<=i
 ·rw[decide_eq_true h1];dsimp only;by_cases h2:i<=hi
  ·have z:decide (lo<=i/\i<=hi)=true:=decide_eq_true ⟨h1,h2⟩;rw[decide_eq_true h2,z]
  ·have z:decide (lo<=i/\i<=hi)=false:=decide_eq_false fun h=>h2 h.2;rw[decide_eq_false h2,z]
 ·have z:decide (lo<=i/\i<=hi)=false:=decide_eq_false fun h=>h1 h.1;rw[decide_eq_false h1,z]
theorem iG(n:Nat)(s:List Nat):ao 32 (aW n++32::s)=(aW n,[32],s):=iD 32 s (aW n) (dU (.inl (by decide)))
noncomputable def tx3(n k:Nat)(s:List Nat):List Nat:=aW n++[32]++aW k++[32]++s
theorem Hh(n k:Nat)(s:List Nat):tx3 n k s=aW n++32::(aW k++32::s):=by unfold tx3;simp
theorem nQ(hn:n<10 ^ 60)(hk:k<10 ^ 60)(s:List Nat):ee (tx3 n k s)=gj (some n) (some k) (rdL s):=by rw[Hh];unfold ee;rw[iG];dsimp only;rw[iG];dsimp only;rw[cF hn,cF hk]
theorem ff{n:Nat}(h:n<=100):n<10 ^ 60:=OW h (by decide)
noncomputable def due(n k:Nat)(r:List Tie):Option (Nat×Nat×List Tie):=if (1<=k/\k<=6)/\1<=n/\n<=10 then (if ∀t∈r,t.b<(n:Int) then (if (0:Int)∈nmb k r then none else some (n,k,r)) else none) else none
theorem yH(N10:N<=10){n:Int}(h:∀t∈r,TOk N t)(ht:t∈r)(hb:¬t.b<n):lF n (textOf r)=none:=by
 unfold lF;cases r with
 |nil=>cases ht
 |cons u r=>
  rw[textOf_cons,if_neg (by have:=text_head u r [];rw[Nl]at this;exact this)];have e:pieces (cy [59,32] ((u::r).map bL))=(u::r).map bL:=gg (bL u) (r.map bL) fun p hp=>by obtain⟨u,_,rfl⟩:=NB.mp (show p∈(u::r).map bL from hp);exact DG u
  rw[e];refine gS (NB.mpr ⟨t,ht,rfl⟩) ?_;obtain⟨s1,s2,s3⟩:=(h t ht).small N10;obtain⟨h1,h2,h3,h4,h5⟩:=h t ht;unfold cB bL;rw[nN (aW t.m.toNat) (aW t.b.toNat) 0 t.a.toNat (dU (.inr (by decide))),cF s1,cF s2,cF s3];dsimp only;rw[if_neg]
  lia
theorem tH(N10:N<=10)(h:∀t∈r,TOk N t)(up:(r.map (·.m)).Pairwise (· < ·))(hl:r.length<=60)(hn:n<=100)(hk:k<=100):ee (tx3 n k (textOf r))=due n k r:=by
 rw[nQ (ff hn) (ff hk)];unfold gj due;dsimp only;by_cases q:(1<=k/\k<=6)/\1<=n/\n<=10
 rotate_left
 ·rw[if_neg q,if_neg q]
 rw[if_pos q,if_pos q,wN];by_cases z:∀t∈r,t.b<(n:Int)
 ·rw [if_pos z,DH (n:=(n:Int)) (by lia) (fun t ht=>by obtain⟨h1,h2,h3,h4,h5⟩:=h t ht;exact⟨h1,h2,h3,h4,z t ht⟩) up hl]
 ·rw[if_neg z];obtain⟨t,ht,hb⟩:∃t∈r,¬t.b<(n:Int):=by
   apply Classical.byContradiction;intro y;exact z fun t ht=>Classical.byContradiction fun x=>y ⟨t,ht,x⟩
  rw[yH N10 h ht hb]
theorem vc(h:∀t∈r,TOk N t)(hl:r.length<=60)(n k:Nat):qc [.int (n:Nat),.int (k:Nat),av r]=some (.val (nvD (due n k r))):=by
 apply P9;unfold qc
 (refine Dm.P7 ?_ rfl rfl;and_intros)
 refine PV (P6 (Qe (P1 (PZ (wR (fun Q q=>PU q) (fun Q q=>N_ rfl q) (fun Q q=>PU q) (PX ?_))))));unfold due;by_cases q1:(1:Int)<=n/\(n:Int)<=10
 rotate_left
 ·rw[if_neg (fun z=>q1 ⟨by lia,by lia⟩),decide_eq_false q1];exact Qc (Qc (P4 (PU rfl)))
 rw[decide_eq_true q1];refine P_ (P1 (PZ (wR (fun Q q=>PU q) (fun Q q=>N_ rfl q) (fun Q q=>PU q) (PX ?_))));by_cases q2:(1:Int)<=k/\(k:Int)<=6
 rotate_left
 ·rw[if_neg (fun z=>q2 ⟨by lia,by lia⟩),decide_eq_false q2];exact Qc (P4 (PU rfl))
 rw[decide_eq_true q2,if_pos ⟨⟨by lia,by lia⟩,by lia,by lia⟩];refine P_ (Qa ?_);refine PV (QD (QO (N_ rfl (Ql (j4 ?_)))));refine QS bS _ _ r _ _ _ _ _ (fun p q ρ=>∃c3:Cell,ρ=[.sh (.int (n:Nat)),.sh (.int (k:Nat)),.sh (av r),c3]/\∀t∈p,t.b<(n:Int)) ⟨_,rfl,fun t ht=>by cases ht⟩ ?_ ?_
 ·rintro p t q ρ e ⟨c3,rfl,low⟩;refine Dm.qO rfl (by trivial) ?_;unfold AB;refine P6 (PZ (O_ (O_ (N_ rfl (PU (P5 (v:=.int t.b) ?_ rfl rfl rfl))))));refine N_ rfl (Q3 (PX ?_) rfl rfl);by_cases z:t.b<(n:Int)
  ·refine Qi (decide_eq_false (by lia)) (Qa ⟨_,rfl,fun u hu=>?_⟩);rcases Nf.mp hu with hu | hu
   ·exact low u hu
   ·rw[M4.mp hu];exact z
  ·refine Qs (decide_eq_true (by lia)) (P4 (PU ?_));rw[if_neg fun y=>z (y t (by rw[e];simp))];rfl
 ·rintro ρ ⟨c3,rfl,low⟩;rw[if_pos low];obtain ⟨ms,el,al⟩:=lE n (by lia) k (by lia) r (fun t ht=>by
   obtain⟨h1,h2,h3,h4,h5⟩:=h t ht;have:=low t ht;exact⟨h3,by lia,by lia,this⟩) (by lia)
  rw[al.uniq (iF k r)]at el;refine PV (P6 (PZ (O_ (PU (P0 (m_ (N_ rfl (m_ (N_ rfl (m_ (N_ rfl (M_ (Qo el ?_ rfl rfl rfl rfl)))))))))))));refine Rg (xs:=nmb k r) (PX ?_) rfl rfl;refine QI (fun z=>?_) fun z=>Qa ?_
  ·rw[if_pos z];exact P4 (PU rfl)
  ·rw[if_neg z];exact P4 (Qw (m_ (N_ rfl (m_ (N_ rfl (m_ (N_ rfl (M_ (Qd rfl rfl rfl (by exact MQ rfl))))))))))
noncomputable def b1(n k:Nat)(s:List Nat):List (List Nat):=[aW n++[32]++aW k,aW n++[32,32]++aW k++[32]++s,s,aW k++[32]++s]
noncomputable def b2:List (List Nat):=[[],gQ,[51,32,50],[51,32,50,32]]
noncomputable def b3(n:Nat)(s:List Nat):List (List Nat):=[[48]++aW n++[32,49,32]++s,aW n++[32,48,49,32,110,111,110,101],[49,32,48,32,110,111,110,101],[49,49,32,50,32,110,111,110,101],[45,49,32,50,32,110,111,110,101],[50,32,55,32,110,111,110,101]]
noncomputable def b4(n k:Nat)(s:List Nat):List (List Nat):=[aW n++[32]++aW k++[32]++s++[32],[49,32,49,32,48,58,48,45,48]]
theorem wU(c:Nat):∀a:List Nat,c∉a->ao c a=(a,[],[])
 |[],_=>by rw[ao]
 |x::a,h=>by have hx:x≠c:=fun z=>h (by rw[z];exact MM);rw[ao,if_neg hx,wU c a fun z=>h (MK _ z)]
theorem tL(c:Nat)(b:List Nat):∀a:List Nat,c∉a->∃q,(ao c (a++b)).1=a++q
 |[],_=>⟨_,rfl⟩
 |x::a,h=>by have hx:x≠c:=fun z=>h (by rw[z];exact MM);obtain⟨q,e⟩:=tL c b a fun z=>h (MK _ z);refine⟨q,?_⟩;rw[Mz,ao,if_neg hx];dsimp only;rw[e];rfl
theorem DL(o:Option Nat)(ws:List (List Nat)):gj o none ws=none:=by cases o<;>rfl
theorem l_{o1 o2:Option Nat}{ws:List (List Nat)}(h:∀n:Nat,fX n ws=none):gj o1 o2 ws=none:=by
 unfold gj;split
 ·rename_i n k;split
  ·rw[h n]
  ·rfl
 ·rfl
theorem nR(h:rdN (ao 32 w).1=none):ee w=none:=by unfold ee;rw[h];rfl
theorem vd(h:rdN (ao 32 (ao 32 w).2.2).1=none):ee w=none:=by unfold ee;rw[h];exact DL _ _
theorem DM(r:List Tie):rdN (ao 32 (textOf r)).1=none:=by
 cases r with
 |nil=>rw[textOf_nil];exact iE (c:=110) (by decide) (by decide)
 |cons t r=>
  rw[textOf_cons,Mu];obtain⟨q,e⟩:=qf (bL t) (r.map bL);rw[e];have e2:bL t++q=(aW t.m.toNat++[58])++(aW t.a.toNat++[45]++aW t.b.toNat++q):=by unfold bL;simp
  rw[e2];obtain ⟨p,e3⟩:=tL 32 (aW t.a.toNat++[45]++aW t.b.toNat++q) (aW t.m.toNat++[58]) (fun z=>by
   rcases Nf.mp z with z | z
   ·exact dU (.inl (by decide)) z
   ·cases M4.mp z)
  rw[e3];exact iE (c:=58) (by simp) (by decide)
theorem i_(n:Int):fX n (rdL [])=none:=gS (w:=[]) (by decide) (kW (.inl rfl))
theorem A2(n k:Nat)(r:List Tie)(ht:t∈r)(h:t.a=t.b):due n k r=none:=by
 unfold due;split
 ·split
  ·rw[if_pos (qZ h (iF k r) ht)]
  ·rfl
 ·rfl
theorem yI(n:Nat):rdN (48::aW n)=none:=by unfold rdN;rw[if_neg];rintro⟨_,_,z⟩;refine z ⟨rfl,fun y=>l8 n ?_⟩;injection y
theorem A3(hn:n<=10)(hk:k<=6)(hs:lo (textOf r))(ls:(textOf r).length<=2208):∀w∈b1 n k (textOf r)++b2++b3 n (textOf r)++b4 n k (textOf r),ee w=none/\asc w:=by
 have dn:=cz (v:=n) (k:=2) (by decide) (by lia);have dk:=cz (v:=k) (k:=2) (by decide) (by lia);have ln:=gh n;have lk:=gh k;have nt:=DM r;have sn:=ff (n:=n) (by lia);have sk:=ff (n:=k) (by lia)
 generalize et:textOf r=s at *
 intro w hw;unfold b1 b2 b3 b4 at hw;simp only[Nf,MV,NL,or_false,Ny]at hw;rcases hw with(rfl | rfl | rfl | rfl) | (rfl | rfl | rfl | rfl) | (rfl | rfl | rfl | rfl | rfl | rfl) | rfl | rfl
 ·refine⟨?_,dh (bQ ln (bQ (b8 rfl) lk)) (by simp only[MA,gV,Mt];lia)⟩;unfold ee;rw[show aW n++([32]++aW k)=aW n++32::aW k from rfl,iG];dsimp only;rw[wU 32 (aW k) (dU (.inl (by decide)))];exact l_ fun m=>i_ m
 ·refine⟨vd ?_,dh (bQ ln (bQ (b8 rfl) (bQ lk (bQ (b8 rfl) hs)))) (by simp only[MA,gV,Mt];lia)⟩;rw[show aW n++([32,32]++(aW k++([32]++s)))=aW n++32::([]++32::(aW k++([32]++s))) from rfl,iG];dsimp only;rw[iD 32 _ [] (by simp)];rfl
 ·exact⟨nR nt,dh hs (by lia)⟩
 ·refine⟨vd ?_,dh (bQ lk (bQ (b8 rfl) hs)) (by simp only[MA,gV,Mt];lia)⟩;rw[show aW k++([32]++s)=aW k++32::s from rfl,iG];exact nt
 ·exact⟨nR rfl,dh (b8 rfl) (by decide)⟩
 ·exact⟨nR (iE (c:=110) (by decide) (by decide)),dh (b8 rfl) (by decide)⟩
 ·exact⟨l_ fun m=>i_ m,dh (b8 rfl) (by decide)⟩
 ·exact⟨l_ fun m=>i_ m,dh (b8 rfl) (by decide)⟩
 ·refine⟨nR ?_,dh (bQ (b8 rfl) (bQ ln (bQ (b8 rfl) hs))) (by simp only[MA,gV,Mt];lia)⟩;rw [show [48]++(aW n++([32,49,32]++s))=(48::aW n)++32::([49,32]++s) from rfl,iD 32 _ (48::aW n) (fun z=>by
   rcases MV.mp z with z | z
   ·cases z
   ·exact dU (.inl (by decide)) z)]
  exact yI n
 ·refine⟨vd ?_,dh (bQ ln (b8 rfl)) (by simp only[MA,gV,Mt];lia)⟩;rw[show aW n++[32,48,49,32,110,111,110,101]=aW n++32::[48,49,32,110,111,110,101] from rfl,iG];rfl
 ·refine⟨?_,dh (b8 rfl) (by decide)⟩;show gj (some 1) (some 0) _=none;rfl
 ·refine⟨?_,dh (b8 rfl) (by decide)⟩;show gj (some 11) (some 2) _=none;rfl
 ·exact⟨nR (iE (c:=45) (by decide) (by decide)),dh (b8 rfl) (by decide)⟩
 ·refine⟨?_,dh (b8 rfl) (by decide)⟩;show gj (some 2) (some 7) _=none;rfl
 ·refine⟨?_,dh (bQ ln (bQ (b8 rfl) (bQ lk (bQ (b8 rfl) (bQ hs (b8 rfl)))))) (by simp only[MA,gV,Mt];lia)⟩;have e:aW n++([32]++(aW k++([32]++(s++[32]))))=tx3 n k (s++[32]):=by unfold tx3;simp
  rw[e,nQ sn sk];refine l_ fun m=>?_;rw[wN,<- et];exact u7 r
 ·refine⟨?_,dh (b8 rfl) (by decide)⟩;have e:tx3 1 1 (textOf [⟨0,0,0⟩])=[49,32,49,32,48,58,48,45,48]:=by decide
  rw[<- e,tH (N:=10) (by decide) (fun t ht=>by rw[M4.mp ht];exact⟨by decide,by decide,by decide,by decide,by decide⟩) (by decide) (by decide) (by decide) (by decide)];exact A2 1 1 _ (M4.mpr rfl) rfl
theorem text_addS{s:List Nat}{i:Nat}{v:Nat}(hi:ρ[i]?=some (.sh (.int (v:Nat))))(hv:v<10 ^ 60)(q:Q (.val (.str (aW v))) ρ):We (eB cN [(eV i)]) ρ Q:=
 Qj (m_ (N_ hi (M_ (QU q rfl hv))))
theorem Hj(hn:n<=10)(hk:k<=6)(h:∀t∈r,TOk n t)(hl:r.length<=12)(x:Int):∃w,sN [.int (n:Nat),.int (k:Nat),av r,.int x]=some (.val (.str w))/\ee w=none/\asc w:=by
 suffices q:Wr (sN [.int (n:Nat),.int (k:Nat),av r,.int x]) fun v=>∃w,v=.val (.str w)/\ee w=none/\asc w by obtain⟨v,h1,w,rfl,h2⟩:=q;exact⟨w,h1,h2⟩
 have sz:SZ=100000:=rfl;obtain⟨hs,ls⟩:=text_lo (n:=(n:Int)) (by lia) h hl;have bn:=A3 hn hk hs ls;have et:=lG (n:=(n:Int)) (by lia) h hl;have dn:=cz (v:=n) (k:=2) (by decide) (by lia);have dk:=cz (v:=k) (k:=2) (by decide) (by lia);have sn:=ff (n:=n) (by lia);have sk:=ff (n:=k) (by lia)
 generalize textOf r=s at *
 unfold sN
 (refine Dm.P7 ?_ rfl rfl;and_intros)
 refine PV (Qg (P0 (m_ (N_ rfl (M_ (PY et (Qf ?_ (by trivial)) rfl rfl))))) (by decide));refine PV (Qg (Qu (m_ (O_ (O_ (text_addS (s:=s) rfl sn (PU (P8 ?_ rfl rfl (by simp only[MA,gV,Mt];lia)))))))) (by decide));refine text_addS (s:=s) rfl sk (P8 ?_ rfl rfl (by simp only[MA,gV,Mt];lia));refine m_ (O_ (O_ (O_ (O_ (text_addS (s:=s) rfl sn (PU (P8 ?_ rfl rfl (by simp only[MA,gV,Mt];lia))))))));refine text_addS (s:=s) rfl sk (P8 ?_ rfl rfl (by simp only[MA,gV,Mt];lia));refine PU (P8 ?_ rfl rfl (by simp only[MA,gV,Mt];lia));refine N_ rfl (P8 ?_ rfl rfl (by simp only[MA,gV,Mt];lia));refine m_ (N_ rfl (m_ (O_ (O_ (text_addS (s:=s) rfl sk (PU (P8 ?_ rfl rfl (by simp only[MA,gV,Mt];lia))))))));refine N_ rfl (P8 ?_ rfl rfl (by simp only[MA,gV,Mt];lia));refine M_ (Qd ?_ rfl rfl (by exact MQ rfl));refine Qn ?_ (by trivial);refine PV (Qg (O_ (Qm rfl ⟨_,_,(rfl:aU _ _=some (.new (.lst (b2.map Dat.str)),_)),Qp (xs:=(b1 n k s).map Dat.str) (Qn ?_ (by trivial)) rfl rfl (by exact MQ rfl)⟩)) (by decide));refine PV (Qg (O_ (Qm rfl (Qu (m_ (O_ (O_ (O_ (PU (text_addS (s:=s) rfl sn (P8 ?_ rfl rfl (by simp only[MA,gV,Mt];lia)))))))))) ) (by decide));refine PU (P8 ?_ rfl rfl (by simp only[MA,gV,Mt];lia));refine N_ rfl (P8 ?_ rfl rfl (by simp only[MA,gV,Mt];lia));refine m_ (O_ (text_addS (s:=s) rfl sn (PU (P8 ?_ rfl rfl (by simp only[MA,gV,Mt];lia)))));refine m_ (PU (m_ (PU (m_ (PU (m_ (PU ?_)))))));refine M_ (Qd ?_ rfl rfl (by exact MQ rfl));refine Qp (xs:=(b1 n k s).map Dat.str++b2.map Dat.str) (ys:=(b3 n s).map Dat.str) (Qn ?_ (by trivial)) rfl rfl (by exact MQ rfl);refine P4 (O_ (O_ (Qm rfl (Qu (m_ (O_ (O_ (O_ (O_ (O_ (text_addS (s:=s) rfl sn (PU (P8 ?_ rfl rfl (by simp only[MA,gV,Mt];lia))))))))))))));refine text_addS (s:=s) rfl sk (P8 ?_ rfl rfl (by simp only[MA,gV,Mt];lia));refine PU (P8 ?_ rfl rfl (by simp only[MA,gV,Mt];lia));refine N_ rfl (P8 ?_ rfl rfl (by simp only[MA,gV,Mt];lia));refine PU (P8 ?_ rfl rfl (by simp only[MA,gV,Mt];lia));refine m_ (PU (M_ (Qd ?_ rfl rfl (by exact MQ rfl))));refine Qp (xs:=(b1 n k s).map Dat.str++b2.map Dat.str++(b3 n s).map Dat.str) (ys:=(b4 n k s).map Dat.str) ?_ rfl rfl (by exact MQ rfl);have hm:=cg x 16 (by decide);have el:(b1 n k s++b2++b3 n s++b4 n k s).length=16:=rfl;refine O_ (N_ rfl (PU (Qq ?_ rfl rfl (by decide))));refine Qz (Aw:=Dat.str) (xs:=b1 n k s++b2++b3 n s++b4 n k s) hm.1 (by rw[el];exact hm.2) ?_ (by rw[NO,NO,NO];rfl) rfl;exact⟨_,rfl,bn _ (Ob _)⟩
theorem A4(m0:0<=t.m)(a0:0<=t.a)(b0:0<=t.b)(s:t.m.toNat<10 ^ 60/\t.a.toNat<10 ^ 60/\t.b.toNat<10 ^ 60):n3D (bL t)=bS t:=by obtain⟨s1,s2,s3⟩:=s;unfold n3D bL;rw[nN (aW t.m.toNat) (aW t.b.toNat) 0 t.a.toNat (dU (.inr (by decide))),cF s1,cF s2,cF s3];show Dat.tup [.int (t.m.toNat:Nat),.int (t.a.toNat:Nat),.int (t.b.toNat:Nat)]=_;rw[Of m0,Of a0,Of b0];rfl
theorem TOk.n3{n:Int}(n10:n<=10)(h:TOk n t):n3D (bL t)=bS t:=A4 h.m0 h.a0 (OO h.a0 h.ab) (h.small n10)
theorem Hl:∀{r:List Tie},(∀t∈r,n3D (bL t)=bS t)->av r=.lst ((r.map bL).map n3D):=fun {r} h=>by unfold av;rw[Nv];exact congrArg Dat.lst (Oe fun t ht=>(h t ht).symm)
theorem A5(h:∀t∈r,n3D (bL t)=bS t)(hl:r.length<=1000)(e:gj (some n) (some k) (r.map bL)=none):cA [.tup [.int (n:Nat),.int (k:Nat),av r]]=some (.val (.bl false)):=by have:=tG (some n) (some k) (r.map bL) (by rw[MP];lia);rw[e]at this;rw[Hl h];exact this
theorem qi(n10:n<=10)(h:∀t∈r,TOk n t)(z:(0:Int)∈nmb k r):gj (some n) (some k) (r.map bL)=none:=by
 unfold gj;dsimp only;split
 ·cases e:fX n (r.map bL) with
  |none=>rfl
  |some q=>
   unfold fX at e;rw[dW (n:=(n:Int)) (by lia) h]at e;split at e
   ·cases e;dsimp only;rw[if_pos z]
   ·cases e
 ·rfl
theorem A6(ht:t∈r)(m0:0<=t.m)(a0:0<=t.a)(b0:0<=t.b)(s:t.m.toNat<10 ^ 60/\t.a.toNat<10 ^ 60/\t.b.toNat<10 ^ 60)(hb:¬t.b<(n:Int)):gj (some n) (some k) (r.map bL)=none:=by
 unfold gj;dsimp only;split
 ·have:fX n (r.map bL)=none:=by
   refine gS (NB.mpr ⟨t,ht,rfl⟩) ?_;obtain⟨s1,s2,s3⟩:=s;unfold cB bL;rw[nN (aW t.m.toNat) (aW t.b.toNat) 0 t.a.toNat (dU (.inr (by decide))),cF s1,cF s2,cF s3];dsimp only;rw[if_neg]
   lia
  rw[this]
 ·rfl
theorem DN{n:Int}(n10:n<=10)(o:Option Tie)(h:∀t,o=some t->TOk n t):yp [.int n,sY o]=some (.val (.bl o.isSome)):=by
 cases o with
 |some t=>have:=sZ n (bL t);rw[(h t rfl).n3 n10,i8 n10 (h t rfl)]at this;exact this
 |none=>
  have e:AA [.int n,.non]=some (.val (.bl false)):=rfl;apply P9;unfold yp
  (refine Dm.P7 ?_ rfl rfl;and_intros)
  exact P4 (Qv (P0 (m_ (N_ rfl (m_ (N_ rfl (M_ (PY e (PX (P_ rfl)) rfl rfl))))))))
theorem DO{n:Nat}(n1:1<=n)(n10:n<=10)(os:List (Option Tie))(h:∀o∈os,∀t,o=some t->TOk n t)(hn:none∈os)(hl:os.length<=60):gy [.int (n:Nat),.lst (os.map sY)]=some (.val (.bl false)):=by
 apply P9;unfold gy
 (refine Dm.P7 ?_ rfl rfl;and_intros)
 refine PV (P6 (Qe (P1 (PZ (P0 (m_ (N_ rfl (M_ (PY (nJ (n:=(n:Int)) (by lia) (by lia)) (PX (P_ ?_)) rfl rfl)))))))));refine Qe (P1 (PZ (Qk (N_ rfl (Qh (v:=.val (.bl true)) (PX (P_ ?_)) rfl rfl)))));refine PZ (O_ (Qj (m_ (N_ rfl (M_ (QB (Aw:=sY) (xs:=os) ?_ rfl))))));refine PU (QA (PX ?_) rfl rfl);rw[decide_eq_false (by lia)];refine Qi rfl (Qa ?_);refine PV (P6 (P1 (PZ (Qj (m_ (QK sY os (fun o=>o.isSome) Dat.bl (d:=.lst (os.map sY)) ?_ rfl rfl rfl (by decide) (M6 hl (by decide)) fun o ho=>?_))))))
 rotate_left
 ·exact P0 (m_ (N_ rfl (m_ (N_ rfl (M_ (PY (DN (n:=(n:Int)) (by lia) o (h o ho)) (Ql ⟨rfl,rfl⟩) rfl rfl))))))
 refine M_ (QE (fun o=>o.isSome) (xs:=os) ?_ (by rw[Nv];rfl));have:(os.all fun o=>o.isSome)=false:=by rw[Pe];intro z;have:=M3.mp z none hn;cases this
 rw[this];exact PX (Qc (P4 (PU rfl)))
noncomputable def q1(n k:Nat)(K:List Tie):List Dat:=[.tup [.int n,.int k],.tup [.int n,.int k,av K,.int 0],.lst [.int n,.int k,av K],.tup [.int n,.int k,.tup (K.map bS)],.non,.str [51,32,50,32,110,111,110,101],.tup [.int 11,.int k,av K]]
noncomputable def q2(n k:Nat)(K:List Tie):List Dat:=[.tup [.int n,.int 7,av K],.tup [.int n,.int 0,av K],.tup [.int 0,.int k,.lst []],.tup [.int n,.int k,.non],.tup [.bl true,.int k,.lst []],.tup [.int n,.bl true,av K]]
noncomputable def q3(n k:Nat)(K:List Tie):List Dat:=[.tup [.int n,.int k,.lst (K.map bS++[.non])],.tup [.int n,.int k,.lst (K.map bS++[.tup [.int Z30,.int 0,.int 0]])],.tup [.int n,.int k,.lst [.tup [.int 1,.int 0,.int n]]],.int 7,.tup []]
theorem DP(n1:1<=n)(n10:n<=10)(k1:1<=k)(k6:k<=6){K:List Tie}(h:∀t∈K,TOk n t)(hl:K.length<=12):∀d∈q1 n k K++q2 n k K++q3 n k K,cA [d]=some (.val (.bl false)):=by
 have ly:kQ [.int (k:Nat)]=some (.val (.bl true)):=by have:=i9 (some k);show kQ [eW (some k)]=_;rw[this];show some (RV.val (.bl (decide _)))=_;rw[decide_eq_true (by lia)]
 have nn:=fun t ht=>(h t ht).n3 (by lia);intro d hd;unfold q1 q2 q3 at hd;simp only[Nf,MV,NL,or_false,Ny]at hd;rcases hd with(rfl | rfl | rfl | rfl | rfl | rfl | rfl) | (rfl | rfl | rfl | rfl | rfl | rfl) | rfl | rfl | rfl | rfl | rfl
 ·exact qY _ (by simp) (by simp)
 ·exact qY _ (by simp) (by simp)
 ·exact j_ _ rfl
 ·exact e_ _ _ _ ly (tE n n1 n10 _ rfl)
 ·exact j_ _ rfl
 ·exact j_ _ rfl
 ·exact e_ _ _ _ ly (fy _ _ rfl)
 ·exact kc _ _ _ rfl
 ·exact kc _ _ _ rfl
 ·exact e_ _ _ _ ly (fy _ _ rfl)
 ·exact e_ _ _ _ ly (tE n n1 n10 _ rfl)
 ·exact e_ _ _ _ ly (fy _ _ rfl)
 ·exact kc _ _ _ rfl
 ·refine e_ _ _ _ ly ?_;have e:K.map bS++[Dat.non]=(K.map some++[none]).map sY:=by rw[NO,Nv];rfl
  rw[e];refine DO n1 n10 _ (fun o ho t e=>?_) (by simp) (by rw[MA,MP];show _+1<=_;lia);subst e;rcases Nf.mp ho with ho | ho
  ·obtain⟨u,hu,e⟩:=NB.mp ho;cases e;exact h _ hu
  ·cases M4.mp ho
 ·have e:Dat.lst (K.map bS++[.tup [.int Z30,.int 0,.int 0]])=av (K++[⟨Z30,0,0⟩]):=by unfold av;rw[NO];rfl
  have hh:∀t∈K++[⟨Z30,0,0⟩],TOk n t:=fun t ht=>by
   rcases Nf.mp ht with ht | ht
   ·exact h t ht
   ·rw[M4.mp ht];exact⟨by decide,by decide,by decide,by decide,by show (0:Int)<n;lia⟩
  rw[e];refine A5 (fun t ht=>(hh t ht).n3 (by lia)) (by rw[MA];show _+1<=_;lia) (qi n10 hh ?_);exact qZ (t:=⟨Z30,0,0⟩) rfl (iF k _) (by simp)
 ·have sm:(1:Int).toNat<10 ^ 60/\(0:Int).toNat<10 ^ 60/\((n:Nat):Int).toNat<10 ^ 60:=⟨by decide,by decide,by rw[NF];exact ff (by lia)⟩
  refine A5 (r:=[⟨1,0,n⟩]) (fun t ht=>?_) (by simp) (A6 (t:=⟨1,0,n⟩) (M4.mpr rfl) (show (0:Int)<=1 by decide) (show (0:Int)<=0 by decide) (by show (0:Int)<=n;lia) sm (by show ¬(n:Int)<n;lia));rw[M4.mp ht];exact A4 (show (0:Int)<=1 by decide) (show (0:Int)<=0 by decide) (by show (0:Int)<=n;lia) sm
 ·exact j_ _ rfl
 ·exact qY [] (by decide) (by decide)
theorem yJ(n1:1<=n)(n10:n<=10)(k1:1<=k)(k6:k<=6){R:List Tie}(hR:∀t∈R,TOk n t)(lR:R.length<=12)(x:Int):∃d,sO [.int (n:Nat),.int (k:Nat),av (keep R (nmb k R)),av R,.int x]=some (.val d)/\cA [d]=some (.val (.bl false)):=by
 suffices q:Wr (sO [.int (n:Nat),.int (k:Nat),av (keep R (nmb k R)),av R,.int x]) fun v=>∃d,v=.val d/\cA [d]=some (.val (.bl false)) by obtain⟨v,h1,w,rfl,h2⟩:=q;exact⟨w,h1,h2⟩
 have sz:SZ=100000:=rfl;have lK:(keep R (nmb k R)).length<=R.length:=(gT R (nmb k R)).length_le;have short:(keep R (nmb k R)).length<R.length->(0:Int)∈nmb k R:=nP (iF k R);have hK:∀t∈keep R (nmb k R),TOk n t:=fun t ht=>hR t (tF ht)
 generalize keep R (nmb k R)=K at *
 have no:=DP n1 n10 k1 k6 hK (by lia);have lo:(q1 n k K++q2 n k K++q3 n k K).length=18:=rfl;unfold sO
 (refine Dm.P7 ?_ rfl rfl;and_intros)
 refine PV (Qg ⟨_,_,(rfl:aU _ _=some (.new (.lst (q1 n k K)),_)),Qn ?_ (by trivial)⟩ (by decide));refine PV (Qg (O_ (Qm rfl ⟨_,_,(rfl:aU _ _=some (.new (.lst (q2 n k K)),_)),Qp (xs:=q1 n k K) (Qn ?_ (by trivial)) rfl rfl (by exact MQ rfl)⟩)) (by decide));refine PV (Qg (O_ (Qm rfl (Qu (m_ (Qw (m_ (N_ rfl (m_ (N_ rfl (m_ (O_ (N_ rfl (Qu (m_ (PU (M_ (Qd ?_ rfl rfl (by exact MQ rfl)))))))))))))))))) (by decide));refine Qp (xs:=K.map bS) ?_ rfl rfl (by rw[MP];show _+1<=_;lia);refine M_ (Qd ?_ rfl rfl (by exact MQ rfl));refine m_ (Qw (m_ (N_ rfl (m_ (N_ rfl (m_ (O_ (N_ rfl (Qu (m_ (Qw (m_ (O_ (PU (PU (u5 ?_ rfl rfl))))))))))))))));refine m_ (PU (m_ (PU (M_ (Qd ?_ rfl rfl (by exact MQ rfl))))));refine M_ (Qd ?_ rfl rfl (by exact MQ rfl));refine Qp (xs:=K.map bS) ?_ rfl rfl (by rw[MP];show _+1<=_;lia);refine M_ (Qd ?_ rfl rfl (by exact MQ rfl));refine m_ ⟨_,_,rfl,m_ (PU (m_ ⟨_,_,rfl,M_ (Qd ?_ rfl rfl (by exact MQ rfl))⟩))⟩;refine Qp (xs:=q1 n k K++q2 n k K) (ys:=q3 n k K) (Qn ?_ (by trivial)) rfl rfl (by exact MQ rfl);refine PV (P6 (PZ (O_ (Qj (m_ (N_ rfl (M_ (QB (Aw:=bS) (xs:=R) ?_ rfl))))))));refine Qj (m_ (N_ rfl (M_ (QB (Aw:=bS) (xs:=K) ?_ rfl))));refine QA (PX ?_) rfl rfl;refine QI (fun z=>?_) fun z=>Qa ?_
 ·refine Q7 (Qw (m_ (N_ rfl (m_ (N_ rfl (m_ (N_ rfl (M_ (Qd ?_ rfl rfl (by exact MQ rfl)))))))))) rfl;refine Ql (As (ds:=q1 n k K++q2 n k K++q3 n k K) ?_ rfl rfl (by rw[lo];decide));have no2:∀d∈q1 n k K++q2 n k K++q3 n k K++[Dat.tup [.int n,.int k,av R]],cA [d]=some (.val (.bl false)):=fun d hd=>by
   rcases Nf.mp hd with hd | hd
   ·exact no d hd
   ·rw[M4.mp hd];exact A5 (fun t ht=>(hR t ht).n3 (by lia)) (by lia) (qi n10 hR (short (by lia)))
  have l2:(q1 n k K++q2 n k K++q3 n k K++[Dat.tup [.int n,.int k,av R]]).length=19:=rfl
  generalize q1 n k K++q2 n k K++q3 n k K++[Dat.tup [.int n,.int k,av R]]=M at no2 l2 ⊢
  refine P4 (O_ (Qm rfl (O_ (N_ rfl (Qj (m_ (Qm rfl (M_ (QN ?_ rfl)))))))));rw[l2];have hm:=cg x 19 (by decide);refine Qq ?_ rfl rfl (by decide);refine Qz (Aw:=fun d:Dat=>d) (xs:=M) hm.1 (by rw[l2];exact hm.2) ?_ (by rw[List.map_id'];rfl) rfl;exact⟨_,rfl,no2 _ (Ob _)⟩
 ·generalize q1 n k K++q2 n k K++q3 n k K=M at no lo ⊢
  refine P4 (O_ (Qm rfl (O_ (N_ rfl (Qj (m_ (Qm rfl (M_ (QN ?_ rfl)))))))));rw[lo];have hm:=cg x 18 (by decide);refine Qq ?_ rfl rfl (by decide);refine Qz (Aw:=fun d:Dat=>d) (xs:=M) hm.1 (by rw[lo];exact hm.2) ?_ (by rw[List.map_id'];rfl) rfl;exact⟨_,rfl,no _ (Ob _)⟩
theorem q_{x y:Nat}(ne:x≠y){d:Dat}(h:cA [d]=some (.val (.bl false))):sP x y [d]=some (.val (.bl true)):=by
 have t1:aV (tV (eF cA [(eV 0)])) [.sh d]=some (true,[.sh d]):=by
  have:Wt (aV (tV (eF cA [(eV 0)]))) [.sh d] (fun c ρ=>c=true/\ρ=[.sh d]):=
   P1 (PZ (P0 (m_ (N_ rfl (M_ (PY h (PX ⟨rfl,rfl⟩) rfl rfl))))))
  obtain⟨c,ρ,h1,rfl,rfl⟩:=this;exact h1
 have lq:wA [d]=none:=by unfold wA fn;dsimp only[Pk,gc,Mz,Mw,List.length];rw[if_pos rfl];unfold sIf;rw[t1]
 have lx:dc [d]=true:=by refine qW (ρ:=[.sh d]) rfl ?_;show rIf (aV (tV (eF cA [(eV 0)]))) CO rNo [.sh d]=_;unfold rIf;rw[t1];rfl
 have nq:wB [d]=none:=by unfold wB fn;dsimp only[Pk,gc,Mz,Mw,List.length];rw[if_pos rfl];unfold aj sE eF;simp[eAs,eV,pks,pk,lq]
 have nx:dS [d]=true:=by refine qW (ρ:=[.sh d]) rfl ?_;exact kU (ds:=[d]) rfl rfl lx
 apply P9;unfold sP
 (refine Dm.P7 ?_ rfl rfl;and_intros)
 refine PV (Qg (PU (Qf ?_ (by trivial))) (by decide));refine PV (Kg ?_ (AQ (ie:=2) (kU (ds:=[d]) rfl rfl nx) (by decide) ?_))
 ·unfold sE eF;simp[eAs,eV,pks,pk,nq]
 ·refine Qg (N_ rfl (Qf ?_ (by trivial))) (by decide);have i1:∀b c:Bool,eZ [x,y] [b,c] (.exc y)=some (.val (.bl c)):=fun b c=>by
   unfold eZ pJ;dsimp only;rw[if_neg fun z=>ne z.symm];unfold pJ;rw[if_pos rfl];rfl
  refine PV (P6 (Qe (P1 (PZ (Qk (N_ rfl (Qh (v:=.val (.bl true)) (PX (P_ ?_)) rfl (i1 false true))))))));refine P1 (PZ (Qk (N_ rfl (Qh (v:=.val (.bl true)) (PX (P_ (Qa ?_))) rfl (i1 true true)))));exact P4 (Q9 (Qk (N_ rfl (Qh (v:=.val (.bl false)) (PX rfl) rfl (i1 true false)))))
noncomputable abbrev L_(D:List Tie):Prop:=D.Pairwise fun t u=>t.m<u.m
theorem Good.lo{n:Int}:∀{r:List Tie} {lo:Int},Good n lo r->∀t∈r,lo<=t.m
 |[],_,_,t,h=>by cases h
 |x::r,lo,g,t,h=>by
  rcases MV.mp h with rfl | h
  ·exact g.1
  ·have:=Good.lo g.2.2.2.2 t h;have:=g.1;lia
theorem Good.mem{n:Int}:∀{r:List Tie} {lo:Int},Good n lo r->∀t∈r,0<=t.a/\t.a<=t.b/\t.b<n
 |[],_,_,t,h=>by cases h
 |x::r,lo,g,t,h=>by
  rcases MV.mp h with rfl | h
  ·exact⟨g.2.1,g.2.2.1,g.2.2.2.1⟩
  ·exact Good.mem g.2.2.2.2 t h
theorem Good.EF{n:Int}:∀{r:List Tie} {lo:Int},Good n lo r->L_ r
 |[],_,_=>List.Pairwise.nil
 |x::r,lo,g=>O4.mpr ⟨fun u hu=>by have:=Good.lo g.2.2.2.2 u hu;lia,Good.EF g.2.2.2.2⟩
theorem Kh(o:Option (Nat×Nat×List Tie)){a b:Option Dat}{K:RV->Prop}(k:K (.val (.bl false)))(ha:a=some (nvD o))(hb:b=some (nvD o)):Wg2 gNe a b K:=by
 refine⟨_,_,_,ha,hb,?_,k⟩;have e:okD 8 (nvD o)=true/\eqD (nvD o) (nvD o)=true:=by
  rcases o with _ | ⟨n,m,r⟩
  ·exact⟨rfl,rfl⟩
  ·refine⟨?_,?_⟩
   ·have:okD 7 (av r)=true:=by
     unfold av;rw[okD,PK,M3];intro t _;rfl
    show okD 8 (.tup [.int n,.int m,av r])=true;rw[okD];simp only[O6,List.all_nil,this,Bool.and_true,okD]
   ·show eqD (.tup [.int n,.int m,av r]) (.tup [.int n,.int m,av r])=true;rw[eqD,kE,kE,kE,Hg];simp[eqD,kE]
 unfold gNe;rw[e.1,e.2];rfl
theorem Kl{f:List Dat->Option RV}{ds:List Dat}{o:Option (Nat×Nat×List Tie)}(e:f ds=some (.val (nvD o))){xs:List Val}(q:Q (.val (nvD o)) ρ)(h1:pks ρ xs=some ds)(h2:tks ρ xs=some (ds,ρ)):WF f ρ xs Q:=by
 rcases o with _ | ⟨n,k,r⟩
 ·exact PY e q h1 rfl
 ·exact Qo e q h1 rfl h2 rfl
end
section
variable{N:Int}(N10:N<=10){r:List Tie}(h:∀t∈r,TOk N t)(hl:r.length<=12)
section
variable{Q:Val->Env->Prop}{n k:Nat}{ρ:Env}
theorem text_go(N10:N<=10)(h:∀t∈r,TOk N t)(hl:r.length<=12)(hn:n<=12)(hk:k<=12){i j l:Nat}(hi:ρ[i]?=some (.sh (.int (n:Nat))))(hj:ρ[j]?=some (.sh (.int (k:Nat))))(hr:ρ[l]?=some (.sh (av r)))(q:Q (.val (.str (tx3 n k (textOf r)))) ρ):We (e2 bM (e2 bM (e2 bM (e2 bM (eB cN [(eV i)]) (eC (.str [32]))) (eB cN [(eV j)])) (eC (.str [32]))) (eF nk [(eV l)])) ρ Q:=by have sz:SZ=100000:=rfl;obtain⟨hs,ls⟩:=text_lo N10 h hl;have dn:=cz (v:=n) (k:=2) (by decide) (by lia);have dk:=cz (v:=k) (k:=2) (by decide) (by lia);refine O_ (O_ (O_ (O_ (text_addS (s:=[]) hi (ff (by lia)) (PU (P8 ?_ rfl rfl (by simp only[MA,gV,Mt];lia)))))));refine text_addS (s:=[]) hj (ff (by lia)) (P8 ?_ rfl rfl (by simp only[MA,gV,Mt];lia));refine PU (P8 ?_ rfl rfl (by simp only[MA,gV,Mt];lia));refine P0 (m_ (N_ hr (M_ (PY (lG N10 h hl) ?_ rfl rfl))));exact P8 q rfl rfl (by simp only[MA,gV,Mt];lia)
theorem DQ(N10:N<=10)(h:∀t∈r,TOk N t)(hl:r.length<=12)(hn:n<=12)(hk:k<=12):asc (tx3 n k (textOf r)):=by obtain⟨hs,ls⟩:=text_lo N10 h hl;have dn:=cz (v:=n) (k:=2) (by decide) (by lia);have dk:=cz (v:=k) (k:=2) (by decide) (by lia);unfold tx3;exact dh (bQ (bQ (bQ (bQ (gh n) (b8 rfl)) (gh k)) (b8 rfl)) hs) (by simp only[MA,gV,Mt];lia)
theorem wV(N10:N<=10)(h:∀t∈r,TOk N t)(hl:r.length<=12)(up:(r.map (·.m)).Pairwise (· < ·))(x y:Nat)(hn:n<=12)(hk:k<=12){i j l w:Nat}(hw:ρ[w]?=some (.sh (.str (tx3 n k (textOf r)))))(hi:ρ[i]?=some (.sh (.int (n:Nat))))(hj:ρ[j]?=some (.sh (.int (k:Nat))))(hr:ρ[l]?=some (.sh (av r)))(q:Q (.val (.bl false)) ρ):We (e2 gNe (eF (nu x y) [(eV w)]) (eF qc [(eV i),(eV j),(eV l)])) ρ Q:=by refine O_ (P0 (m_ (N_ hw (M_ (Kl (lH x y (DQ N10 h hl hn hk)) ?_ rfl rfl)))));refine P0 (m_ (N_ hi (m_ (N_ hj (m_ (N_ hr (M_ (Kl (vc h (by lia) n k) ?_ rfl rfl))))))));exact Kh (due n k r) q (by rw[tH N10 h up (by lia) (by lia) (by lia)];rfl) rfl
end
end
theorem A7{x y:Nat}(ne:x≠y)(ns:List Int)(cell:Int)(c2 c3 c4 c5 c6 c7 c8 c9 c10 c11:Cell){R:RV->Env->Prop}{B C:Env->Prop}{N:Env->Prop}(kk:∀c2 c3 c4 c5 c6 c7 c8 c9 c10 c11:Cell,N [.sh (.lst (ns.map Dat.int)),.sh (.int cell),c2,c3,c4,c5,c6,c7,c8,c9,c10,c11]) :
  Ws (uX x y) [.sh (.lst (ns.map Dat.int)),.sh (.int cell),c2,c3,c4,c5,c6,c7,c8,c9,c10,c11] N R B C:=by
 unfold uX;have sz:SZ=100000:=rfl;refine PV (Qg (P0 (m_ (N_ rfl (m_ (PU (m_ (O_ (PU (PU (u5 (M_ (Qo (uY cell 48 (by decide)) ?_ rfl rfl rfl rfl)) rfl rfl)))))))))) (by decide));refine Qn ?_ (by trivial);have ln:(numsOf cell 48).length=48:=sQ cell 48 0 _
 generalize numsOf cell 48=ds at ln
 have lc:(m9 ds (some 8) none).length=40:=by unfold m9;rw[ln,NJ,NK,ln];decide
 obtain⟨n',D,er,n1,n10,hg,hh,hl⟩:=yr (m9 ds (some 8) none) 12 (by lia) (by lia) (by decide) (by decide);obtain⟨n,rfl⟩:∃m:Nat,n'=m:=⟨n'.toNat,by lia⟩
 have tok:∀t∈D,TOk n t:=fun t ht=>by obtain⟨h1,h2,h3⟩:=hg.mem t ht;exact⟨hg.lo t ht,OO (hh t ht) (by decide),h1,h2,h3⟩
 have Km:D.length<=12:=by lia
 have up:(D.map (·.m)).Pairwise (· < ·):=List.pairwise_map.mpr hg.EF;refine PV (Rk (P0 (m_ (QY (Qm rfl (Wp.some (PU (pL.mk (Wp.none (Wsl.A (Aw:=Dat.int) (xs:=ds) ?_ rfl))))))))));refine m_ (PU (M_ (Qo er ?_ rfl rfl rfl rfl)));refine Ql ⟨_,_,rfl,rfl,?_⟩;have at_:∀(i:Int) {o p:Option Dat} {K:RV->Prop},0<=i->i<48->(∀v:Int,K (.val (.int v)))->o=some (.lst (ds.map Dat.int))->p=some (.int i)->Wg2 gIx o p K:=fun i o p K h0 h1 q ho hp=>Qz (Aw:=Dat.int) (xs:=ds) h0 (by rw[ln];exact h1) (q _) ho hp;refine PV (Qg (P0 (m_ (O_ (Qm rfl (PU (at_ 0 (by decide) (by decide) (fun v=>?_) rfl rfl)))))) (by decide));obtain⟨k,k1,k6,ek⟩:=AK v;refine M_ (PY ek (Qf ?_ (by trivial)) rfl rfl);obtain⟨ms,el,al⟩:=lE n (by lia) k (by lia) D hg.ends (by lia);rw[al.uniq (iF k D)]at el;refine PV (Qg (P0 (m_ (N_ rfl (m_ (N_ rfl (m_ (N_ rfl (M_ (Qo el ?_ rfl rfl rfl rfl)))))))) ) (by decide));refine Qn ?_ (by trivial);refine PV (Qg (yE (ρ1:=[.sh (.lst (ns.map Dat.int)),.sh (.int cell),.ow (.lst (ds.map Dat.int)),.sh (.int (n:Nat)),.sh (av D),.sh (.int (k:Nat)),.sh (.lst ((nmb k D).map Dat.int)),c7,c8,c9,c10,c11]) D (nmb k D) (k:=12) ?_ ?_ rfl (by decide) (M6 Km (by decide))) (by decide))
 rotate_left
 ·rfl
 refine Qn ?_ (by trivial);have lK:(keep D (nmb k D)).length<=D.length:=(gT D (nmb k D)).length_le;have A8:∀t∈keep D (nmb k D),TOk n t:=fun t ht=>tok t (tF ht);have upK:((keep D (nmb k D)).map (·.m)).Pairwise (· < ·):=up.sublist ((gT D (nmb k D)).map _);have nno:=fun z=>yJ (n:=n) (k:=k) (by lia) (by lia) k1 k6 tok Km z
 generalize keep D (nmb k D)=K at *
 refine PV (QD (QO (Qu (m_ (Qw (m_ (N_ rfl (m_ (N_ rfl (m_ (Qm rfl (M_ (Qd ?_ rfl rfl (by exact MQ rfl))))))))))))));refine m_ (Qw (m_ (N_ rfl (m_ (N_ rfl (m_ (N_ rfl (M_ (Qd ?_ rfl rfl (by exact MQ rfl))))))))));refine m_ (Qw (m_ (N_ rfl (m_ (O_ (PU (O_ (O_ (Qm rfl (PU (at_ 1 (by decide) (by decide) (fun v2=>?_) rfl rfl)))))))))));refine PU (Qq ?_ rfl rfl (by decide));refine QV ?_ rfl rfl;have m6:=cg v2 6 (by decide);obtain⟨k2,ek2⟩:∃m:Nat,1+v2 % 6=m:=⟨(1+v2 % 6).toNat,by lia⟩
 rw[ek2];refine m_ (N_ rfl (M_ (Qd ?_ rfl rfl (by exact MQ rfl))));refine M_ (Qd ?_ rfl rfl (by exact MQ rfl));refine QF (j4 ?_);refine QS (fun p:Nat×List Tie=>Dat.tup [.int (n:Nat),.int (p.1:Nat),av p.2]) _ _ [(k,K),(k,D),(k2,K)] _ _ _ _ _ (fun p q ρ=>∃c8 c9 c10 c11:Cell,ρ=[.sh (.lst (ns.map Dat.int)),.sh (.int cell),.ow (.lst (ds.map Dat.int)),.sh (.int (n:Nat)),.sh (av D),.sh (.int (k:Nat)),.sh (.lst ((nmb k D).map Dat.int)),.sh (av K),c8,c9,c10,c11]) ⟨_,_,_,_,rfl⟩ ?_ ?_
 ·rintro p ⟨k',r⟩ q ρ e ⟨c8,c9,c10,c11,rfl⟩;have hm:(k',r)∈[(k,K),(k,D),(k2,K)]:=by rw[e];simp
  have hr:(∀t∈r,TOk n t)/\r.length<=12/\(r.map (·.m)).Pairwise (· < ·)/\k'<=12:=by
   simp only[MV,NL,or_false,Prod.mk.injEq]at hm;rcases hm with⟨rfl,rfl⟩ | ⟨rfl,rfl⟩ | ⟨rfl,rfl⟩
   ·exact⟨A8,by lia,upK,by lia⟩
   ·exact⟨tok,by lia,up,by lia⟩
   ·exact⟨A8,by lia,upK,by lia⟩
  obtain⟨h1,h2,h3,h4⟩:=hr;refine Dm.qO rfl (by trivial) ?_;unfold AD;refine PV (Qg (text_go (n:=n) (k:=k') n10 h1 h2 (by lia) h4 rfl rfl rfl (Qf ?_ (by trivial))) (by decide));refine P6 (PZ (wV (n:=n) (k:=k') n10 h1 h2 h3 x y (by lia) h4 rfl rfl rfl rfl (PX (Qi rfl (Qa ?_)))));exact⟨_,_,_,_,rfl⟩
 ·rintro ρ ⟨c8,c9,c10,c11,rfl⟩;refine PV (Qg (O_ (O_ (Qm rfl (PU (at_ 2 (by decide) (by decide) (fun v3=>?_) rfl rfl))))) (by decide));have m13:=cg v3 13 (by decide);obtain⟨n3,en3⟩:∃m:Nat,v3 % 13=m:=⟨(v3 % 13).toNat,by lia⟩
  refine PU (Qq ?_ rfl rfl (by decide));rw[en3];refine Qf ?_ (by trivial);refine PV (Qg (text_go (n:=n3) (k:=k) n10 A8 (by lia) (by lia) (by lia) rfl rfl rfl (Qf ?_ (by trivial))) (by decide));refine PV (P6 (PZ (wV (n:=n3) (k:=k) n10 A8 (by lia) upK x y (by lia) (by lia) rfl rfl rfl rfl (PX (Qi rfl (Qa ?_))))));refine PV (P6 (PZ (O_ (P0 (m_ (P0 (m_ (N_ rfl (m_ (N_ rfl (m_ (N_ rfl (m_ (O_ (Qm rfl (PU (at_ 3 (by decide) (by decide) (fun v4=>?_) rfl rfl)))))))))))))))));obtain⟨w,ew,hw,aw⟩:=Hj (n:=n) (k:=k) (by lia) k6 A8 (by lia) v4;refine M_ (PY ew ?_ rfl rfl);have rd:=lH x y aw;rw[hw]at rd;refine M_ (PY rd ?_ rfl rfl);refine PU (Ri (PX (Qi rfl (Qa ?_))) rfl rfl);refine P6 (P1 (PZ (P0 (m_ (P0 (m_ (N_ rfl (m_ (N_ rfl (m_ (N_ rfl (m_ (N_ rfl (m_ (O_ (Qm rfl (PU (at_ 4 (by decide) (by decide) (fun v5=>?_) rfl rfl))))))))))))))))));obtain⟨d,ed,hd⟩:=nno v5;refine M_ ?_;have Rt:∀{ρ:Env} {Q:Val->Env->Prop},Q (.val (.bl true)) ρ->Was [] ρ fun xs ρ2=>WF (sP x y) ρ2 (.val d::xs) Q:=fun {ρ Q} q=>M_ (PY (q_ ne hd) q rfl rfl);cases hb:aO d with
  |true=>exact Qo ed (Rt (PX (Qi rfl (Qa (kk _ _ _ _ _ _ _ _ _ _))))) rfl hb rfl rfl
  |false=>exact PY ed (Rt (PX (Qi rfl (Qa (kk _ _ _ _ _ _ _ _ _ _))))) rfl hb
theorem math(x y:Nat)(ne:x≠y)(ns:List Int)(h:ns.length<=63):nv x y [.lst (ns.map Dat.int)]=some (.val (.bl true)):=by
 apply P9;unfold nv
 (refine Dm.P7 ?_ rfl rfl;and_intros)
 have hc:=Ar ns none (some 10);refine PV (QD (QO (O_ (QY (N_ rfl (Wp.none (Wp.some (PU (pL.mk (Wsl.A (Aw:=Dat.int) (xs:=ns) ?_ rfl))))))))));refine Qu (m_ (Qj (m_ (N_ rfl (M_ (QB (Aw:=Dat.int) (xs:=ns) (M_ (Qd ?_ rfl rfl (by exact MQ rfl))) rfl))))));refine Qp ?_ rfl rfl (by rw[MP];show _+1<=100000;lia);refine QF (j4 ?_);have e:(m9 ns none (some 10)).map Dat.int++[.int (ns.length:Nat)]=(m9 ns none (some 10)++[((ns.length:Nat):Int)]).map Dat.int:=by rw[NO];rfl
 rw[e];refine QS Dat.int _ _ (m9 ns none (some 10)++[((ns.length:Nat):Int)]) _ _ _ _ _ (fun p q ρ=>∃c1 c2 c3 c4 c5 c6 c7 c8 c9 c10 c11:Cell,ρ=[.sh (.lst (ns.map Dat.int)),c1,c2,c3,c4,c5,c6,c7,c8,c9,c10,c11]) ⟨_,_,_,_,_,_,_,_,_,_,_,rfl⟩ ?_ ?_
 ·rintro p cell q ρ ex ⟨c1,c2,c3,c4,c5,c6,c7,c8,c9,c10,c11,rfl⟩;refine Dm.qO rfl (by trivial) ?_;exact A7 ne ns cell _ _ _ _ _ _ _ _ _ _ fun c2 c3 c4 c5 c6 c7 c8 c9 c10 c11=>⟨_,_,_,_,_,_,_,_,_,_,_,rfl⟩
 ·rintro ρ ⟨c1,c2,c3,c4,c5,c6,c7,c8,c9,c10,c11,rfl⟩;exact P4 (PU rfl)
end P
namespace Q
open PySem L2 Br Dm P
noncomputable def top(i:Nat):Stmt:=PySem.Challenge.pw_sinceply_k57_nets_misread.main.body.getD i (.Pass ⟨0,0,0,0⟩)
structure Txt(mg:Str->Option Value)(K:Mv)(base:Heap)(ve vf vg vh vj vm vn vo vp vq nS nT nU nV nW lI nX lJ nY nZ n5 lM n6 n8 n9 n_ oj oq ou oz oA oB oE oF oG oH cG bz aA bA au bV b9:Addr)(oJ oK oM oN oO oQ oR oS oU oV ja jb jc jd je gU jf gW jh jj jk gX jl jm jn jq jr jt ju jv jx jy jz jA jB kX:FuncData):Prop where
 mh:mg "Clash" = some (.ref cG)
 gk:mg "NoLayers" = some (.ref bz)
 mj:mg "NoNet" = some (.ref aA)
 gp:mg "NoPlaces" = some (.ref bA)
 kg:mg "NoText" = some (.ref au)
 kh:mg "NoTies" = some (.ref bV)
 oW:mg "PlyError" = some (.ref b9)
 vt:PyProof.Rows.OwnCls "NoText" au bmV "ValueError.__new__" mg base
 fB:mU K au
 yK:PyProof.Rows.OwnCls "NoNet" aA bmV "ValueError.__new__" mg base
 fZ:mU K aA
 iM:Nd K (.ref aA) (.type "ValueError")=some true
 gY:Nd K (.ref au) (.type "ValueError")=some true
 ki:PySem.W.l6 K aA b9
 jC:PySem.W.l6 K au b9
 oX:Nd K (.ref aA) (.ref aA)=some true
 lW:Nd K (.ref aA) (.ref au)=some false
 lX:Nd K (.ref au) (.ref aA)=some false
 kY:Nd K (.ref au) (.ref au)=some true
 cK:NI K (.ref aA) (([cG,bz,aA,bA,bV]:List Addr).map Nq)=some true
 cI:NI K (.ref aA) (([cG,bz,bA,au,bV]:List Addr).map Nq)=some false
 cJ:NI K (.ref au) (([cG,bz,aA,bA,bV]:List Addr).map Nq)=some false
 cH:NI K (.ref au) (([cG,bz,bA,au,bV]:List Addr).map Nq)=some true
 kj:mg "ValueError" = none
 A9:mg "all" = none
 Ho:mg "bool" = none
 tM:mg "enumerate" = none
 A_:mg "int" = none
 bh:mg "isinstance" = none
 fJ:mg "len" = none
 oY:mg "list" = none
 Kn:mg "max" = none
 wW:mg "min" = none
 fh:mg "range" = none
 oZ:mg "reversed" = none
 ef:mg "str" = none
 rj:mg "tuple" = none
 Ko:mg "zip" = none
 rm:∃t,mg "FIGURES" = some (.str ⟨([48,49,50,51,52,53,54,55,56,57]:List Nat).toArray⟩ t)
 ko:∃t,mg "MOST_FIGURES" = some (.int 60 t)
 o6:∃t,mg "MOST_TIES" = some (.int 60 t)
 fK:∃t,mg "WITHOUT_TIES" = some (.str ⟨([110,111,110,101]:List Nat).toArray⟩ t)
 Ma:mg "is_whole" = some (.ref ve)
 DR:mg "is_within" = some (.ref vf)
 Mb:mg "is_places" = some (.ref vg)
 Kp:mg "is_place" = some (.ref vh)
 Kq:mg "is_layers" = some (.ref vj)
 Mc:mg "is_moment" = some (.ref vm)
 Me:mg "is_tie_either_way" = some (.ref vn)
 Mf:mg "is_tie" = some (.ref vo)
 Mg:mg "is_rising" = some (.ref vp)
 Mh:mg "look_at_layers" = some (.ref vq)
 Kr:mg "merged" = some (.ref nS)
 Ks:mg "least_layer" = some (.ref nT)
 Ku:mg "layered" = some (.ref nU)
 Kv:mg "is_record" = some (.ref nV)
 wX:mg "is_net" = some (.ref nW)
 EG:mg "look_at_net" = some (.ref lI)
 Kw:mg "record_text" = some (.ref nX)
 EH:mg "net_text" = some (.ref lJ)
 o7:mg "read_number" = some (.ref nY)
 Ky:mg "read_tie" = some (.ref nZ)
 EI:mg "read_ties" = some (.ref n5)
 EJ:mg "read_net" = some (.ref lM)
 Kz:mg "_law_mixed" = some (.ref n6)
 KA:mg "_law_numbers" = some (.ref n8)
 KC:mg "_law_ends" = some (.ref n9)
 KD:mg "_law_record" = some (.ref n_)
 KG:mg "_law_depth" = some (.ref oj)
 KH:mg "_law_joined" = some (.ref oq)
 EK:mg "_law_numbered" = some (.ref ou)
 Ba:mg "_law_text" = some (.ref oz)
 Bb:mg "_law_read" = some (.ref oA)
 EL:mg "_law_due" = some (.ref oB)
 KI:mg "_law_bad" = some (.ref oE)
 KJ:mg "_law_no_net" = some (.ref oF)
 KL:mg "_law_unwritten" = some (.ref oG)
 Ml:mg "law" = some (.ref oH)
 KN:Fun K "is_whole" "is_whole" (top 9) ve oJ
 Hq:Binds K oJ ["thing"] []
 Bc:Fun K "is_within" "is_within" (top 10) vf oK
 yL:Binds K oK ["thing","low","high"] []
 KP:Fun K "is_places" "is_places" (top 11) vg oM
 Hr:Fun K "is_place" "is_place" (top 12) vh oN
 Ht:Fun K "is_layers" "is_layers" (top 13) vj oO
 KQ:Fun K "is_moment" "is_moment" (top 14) vm oQ
 DU:Binds K oN ["n","thing"] []
 Hu:Binds K oQ ["thing"] []
 KR:Fun K "is_tie_either_way" "is_tie_either_way" (top 15) vn oR
 Hv:Binds K oR ["n","thing"] []
 KS:Fun K "is_tie" "is_tie" (top 16) vo oS
 KU:Fun K "is_rising" "is_rising" (top 17) vp oU
 DV:Binds K oO ["thing"] []
 KW:Fun K "look_at_layers" "look_at_layers" (top 18) vq oV
 EM:Fun K "merged" "merged" (top 20) nS ja
 EN:Fun K "least_layer" "least_layer" (top 23) nT jb
 Hw:Binds K oV ["k"] []
 Bd:Binds K ja ["groups","a","b"] []
 Be:Binds K jb ["layers","a","b"] []
 EO:Fun K "layered" "layered" (top 22) nU jc
 Hx:Binds K oM ["thing"] []
 Hy:Binds K oS ["n","thing"] []
 Hz:Binds K oU ["things"] []
 ER:Fun K "is_record" "is_record" (top 26) nV jd
 Bf:Binds K jc ["n","record","k"] []
 Bg:Binds K jd ["n","thing"] []
 tN:Fun K "is_net" "is_net" (top 28) nW je
 qj:Binds K je ["thing"] []
 wY:Fun K "look_at_net" "look_at_net" (top 29) lI gU
 ES:Fun K "record_text" "record_text" (top 34) nX jf
 wZ:Binds K gU ["thing"] []
 Bj:Binds K jf ["record"] []
 w4:Fun K "net_text" "net_text" (top 35) lJ gW
 lN:Fun K "read_number" "read_number" (top 39) nY jh
 kq:Binds K jh ["word"] []
 ET:Fun K "read_tie" "read_tie" (top 38) nZ jj
 Bk:Binds K jj ["word"] []
 Bl:Fun K "read_ties" "read_ties" (top 37) n5 jk
 w6:Binds K jk ["text"] []
 w_:Fun K "read_net" "read_net" (top 36) lM gX
 EU:Fun K "_law_mixed" "_law_mixed" (top 41) n6 jl
 Bm:Binds K jl ["cell","k"] []
 EV:Fun K "_law_numbers" "_law_numbers" (top 42) n8 jm
 EW:Fun K "_law_ends" "_law_ends" (top 43) n9 jn
 Bo:Binds K jn ["n","kind","one","other"] []
 EX:Fun K "_law_record" "_law_record" (top 44) n_ jq
 EY:Fun K "_law_depth" "_law_depth" (top 45) oj jr
 EZ:Fun K "_law_joined" "_law_joined" (top 46) oq jt
 Bp:Binds K jt ["n","ties","a","b"] []
 Bq:Fun K "_law_numbered" "_law_numbered" (top 47) ou ju
 xg:Fun K "_law_text" "_law_text" (top 48) oz jv
 xh:Binds K gX ["text"] []
 xj:Fun K "_law_read" "_law_read" (top 49) oA jx
 xm:Binds K ju ["n","record","k"] []
 Bs:Fun K "_law_due" "_law_due" (top 50) oB jy
 tO:Binds K jv ["record"] []
 E1:Fun K "_law_bad" "_law_bad" (top 51) oE jz
 E2:Fun K "_law_no_net" "_law_no_net" (top 52) oF jA
 xo:Binds K gW ["net"] []
 E3:Fun K "_law_unwritten" "_law_unwritten" (top 53) oG jB
 Bt:Binds K jm ["cell","many","base"] []
 Bu:Binds K jq ["numbers","most"] []
 Bv:Binds K jr ["number"] []
 tP:Binds K jx ["text"] []
 xq:Binds K jy ["n","k","ties"] []
 Bw:Binds K jz ["n","k","ties","number"] []
 Bx:Binds K jA ["n","k","ties","record","number"] []
 By:Binds K jB ["thing"] []
 KY:Fun K "law" "law" (top 54) oH kX
section
variable{P':Program}{w:World}{K:Mv}{mg:Str->Option Value}{base:Heap}{ve vf vg vh vj vm vn vo vp vq nS nT nU nV nW lI nX lJ nY nZ n5 lM n6 n8 n9 n_ oj oq ou oz oA oB oE oF oG oH cG bz aA bA au bV b9:Addr}
variable{oJ oK oM oN oO oQ oR oS oU oV ja jb jc jd je gU jf gW jh jj jk gX jl jm jn jq jr jt ju jv jx jy jz jA jB kX:FuncData}
theorem KZ:aE ["thing"] ["thing"] (ah (top 9)):=fsc
theorem K0:aE ["thing","low","high"] ["thing","low","high"] (ah (top 10)):=fsc
theorem K1:aE ["thing"] ["thing"] (ah (top 11)):=fsc
theorem K2:aE ["n","thing"] ["n","thing"] (ah (top 12)):=fsc
theorem K3:aE ["thing"] ["thing"] (ah (top 13)):=fsc
theorem K4:aE ["thing"] ["thing"] (ah (top 14)):=fsc
theorem K5:aE ["n","thing"] ["n","thing"] (ah (top 15)):=fsc
theorem K6:aE ["n","thing"] ["n","thing"] (ah (top 16)):=fsc
theorem K7:aE ["things"] ["things"] (ah (top 17)):=fsc
theorem HA:(["things","at"]:List Str).Nodup:=by decide +kernel
theorem K8:aE ["k"] ["k"] (ah (top 18)):=fsc
theorem HB:aE ["groups","a","b"] ["groups","a","b"] (ah (top 20)):=fsc
theorem DX:(["groups","a","b","group"]:List Str).Nodup:=by decide +kernel
theorem vv:aE ["layers","a","b","at","groups"] ["layers","a","b"] (ah (top 23)):=fsc
theorem jD:aE ["n","record","k","layers","numbers","moment","a","b","number"] ["n","record","k"] (ah (top 22)):=fsc
theorem DY:(["n","record","k","layers","numbers","moment","a","b","number","layer"]:List Str).Nodup:=by decide +kernel
theorem HC:aE ["n","thing"] ["n","thing"] (ah (top 26)):=fsc
theorem DZ:(["n","thing","tie"]:List Str).Nodup:=by decide +kernel
theorem D0:(["n","thing","tie"]:List Str).Nodup:=by decide +kernel
theorem HD:aE ["thing"] ["thing"] (ah (top 28)):=fsc
theorem BA:aE ["thing"] ["thing"] (ah (top 29)):=fsc
theorem HE:aE ["record"] ["record"] (ah (top 34)):=fsc
theorem rq:(["record","moment","a","b"]:List Str).Nodup:=by decide +kernel
theorem BB:aE ["net"] ["net"] (ah (top 35)):=fsc
theorem HF:aE ["word"] ["word"] (ah (top 39)):=fsc
theorem D3:(["word","sign"]:List Str).Nodup:=by decide +kernel
theorem vz:aE ["word","first","ends"] ["word"] (ah (top 38)):=fsc
theorem HG:aE ["text"] ["text"] (ah (top 37)):=fsc
theorem D4:(["text","word"]:List Str).Nodup:=by decide +kernel
theorem gZ:aE ["text","first","second","net"] ["text"] (ah (top 36)):=fsc
theorem vA:aE ["cell","k","number"] ["cell","k"] (ah (top 41)):=fsc
theorem fS:aE ["cell","many","base","found","left","k","number","turns"] ["cell","many","base"] (ah (top 42)):=fsc
theorem BC:aE ["n","kind","one","other","a"] ["n","kind","one","other"] (ah (top 43)):=fsc
theorem eX:aE ["numbers","most","n","many","wide","moment","record","k","a","b"] ["numbers","most"] (ah (top 44)):=fsc
theorem HH:aE ["number"] ["number"] (ah (top 45)):=fsc
theorem g6:aE ["n","ties","a","b","marks","moment","one","other","old","new"] ["n","ties","a","b"] (ah (top 46)):=fsc
theorem D5:(["n","ties","a","b","marks","moment","one","other","old","new","mark"]:List Str).Nodup:=by decide +kernel
theorem o8:aE ["n","record","k","numbers","at","j","ties"] ["n","record","k"] (ah (top 47)):=fsc
theorem D6:(["n","record","k","numbers","at","j","ties","later"]:List Str).Nodup:=by decide +kernel
theorem HJ:aE ["record"] ["record"] (ah (top 48)):=fsc
theorem D7:(["record","tie"]:List Str).Nodup:=by decide +kernel
theorem jE:aE ["text","caught","found","e"] ["text"] (ah (top 49)):=fsc
theorem BE:aE ["n","k","ties","tie"] ["n","k","ties"] (ah (top 50)):=fsc
theorem o9:aE ["n","k","ties","number","text","some"] ["n","k","ties","number"] (ah (top 51)):=fsc
theorem rz:aE ["n","k","ties","record","number","some"] ["n","k","ties","record","number"] (ah (top 52)):=fsc
theorem rA:aE ["thing","caught","e"] ["thing"] (ah (top 53)):=fsc
theorem dX:aE ["script","cell","numbers","n","record","k","told","ties","places","layers","some","text"] ["script"] (ah (top 54)):=fsc
theorem xr:(["script","cell","numbers","n","record","k","told","ties","places","layers","some","text","tie","number"]:List Str).Nodup:=by decide +kernel
variable(T:Txt mg K base ve vf vg vh vj vm vn vo vp vq nS nT nU nV nW lI nX lJ nY nZ n5 lM n6 n8 n9 n_ oj oq ou oz oA oB oE oF oG oH cG bz aA bA au bV b9 oJ oK oM oN oO oQ oR oS oU oV ja jb jc jd je gU jf gW jh jj jk gX jl jm jn jq jr jt ju jv jx jy jz jA jB kX)
include T
theorem K9 :
  bW P' w K mg base CX0 1 ve oJ ["thing"] (spD Ay):=
 okQ T.KN KZ fun _ _ _ _ _ _ hr=>(aq (s_r (rV (rW CC (by rfl) rfl T.A_ rfl T.bh (d_v 0)) (vS (Er (rW zI (by rfl) rfl T.Ho rfl T.bh (d_v 0)))))))
theorem xu :
  bW P' w K mg base CX0 2 vf oK ["thing","low","high"] (spD iY):=
 okQ T.Bc K0 fun _ _ _ _ _ _ hr=>(aq (s_r (rV (az (K9 T) (Br.hm hr) rfl T.Ma T.KN.kp T.Hq (aa (d_v 0) af)) (vS (CD jT jZ jT jZ (d_v 1) (d_v 0) (d_v 2))))))
theorem K_ :
  bW P' w K mg base CX0 3 vg oM ["thing"] (spD uW):=
 okQ T.KP K1 fun _ _ _ _ _ _ hr=>(aq (s_r (az (xu T) (Br.hm hr) rfl T.DR T.Bc.kp T.yL (aa (d_v 0) (aa d_i (aa d_i af))))))
theorem E4 :
  bW P' w K mg base CX0 3 vh oN ["n","thing"] (spD Az):=
 okQ T.Hr K2 fun _ _ _ _ _ _ hr=>(aq (s_r (az (xu T) (Br.hm hr) rfl T.DR T.Bc.kp T.yL (aa (d_v 1) (aa d_i (aa (mR (d_v 0) d_i) af))))))
theorem E5 :
  bW P' w K mg base CX0 3 vj oO ["thing"] (spD kQ):=
 okQ T.Ht K3 fun _ _ _ _ _ _ hr=>(aq (s_r (az (xu T) (Br.hm hr) rfl T.DR T.Bc.kp T.yL (aa (d_v 0) (aa d_i (aa d_i af))))))
theorem La :
  bW P' w K mg base CX0 3 vm oQ ["thing"] (spD Dl):=
 okQ T.KQ K4 fun _ _ _ _ _ _ hr=>(aq (s_r (az (xu T) (Br.hm hr) rfl T.DR T.Bc.kp T.yL (aa (d_v 0) (aa d_i (aa (pW d_i d_i) af))))))
theorem Lb :
  bW P' w K mg base CX0 4 vn oR ["n","thing"] (spD AA):=
 okQ T.KR K5 fun _ _ _ _ _ _ hr=>(ai (dm (t_w (w_or (dF (dR (rW kit_tuple (by rfl) rfl T.rj rfl T.bh (d_v 1)))) (lu (xV hr (fV rfl T.fJ (aa (d_v 1) af)) d_i)))) (aq (s_r d_b)) cj)
  (aq (s_r (rV (az (La T) (Br.hm hr) rfl T.Mc T.KQ.kp T.Hu (aa (bx (d_v 1) d_i) af)) (rV (az (E4 T) (Br.hm hr) rfl T.Kp T.Hr.kp T.DU (aa (d_v 0) (aa (bx (d_v 1) d_i) af))) (vS (az (E4 T) (Br.hm hr) rfl T.Kp T.Hr.kp T.DU (aa (d_v 0) (aa (bx (d_v 1) d_i) af)))))))))
theorem Lc :
  bW P' w K mg base CX0 5 vo oS ["n","thing"] (spD yp):=
 okQ T.KS K6 fun _ _ _ _ _ _ hr=>(aq (s_r (rV (az (Lb T) (Br.hm hr) rfl T.Me T.KR.kp T.Hv (aa (d_v 0) (aa (d_v 1) af))) (vS (LD (bx (d_v 1) d_i) (bx (d_v 1) d_i))))))
theorem Ld :
  bW P' w K mg base CX0 1 vp oU ["things"] (spD Dq):=
 okQ T.KU K7 fun _ _ _ _ _ _ hr=>(aq (s_r (zO rfl rfl T.A9 (aa (Gz ["things"] ["at"] (c_n 1 HA rfl rfl) (Jr rfl T.fh (aa d_i (aa (fV rfl T.fJ (aa (d_v 0) af)) af))) (fun _ _ _ _ _=>fP) (fun _ _ _ _ _=>(LC (bx (d_v 0) (mR (d_v 1) d_i)) (bx (d_v 0) (d_v 1))))) af))))
theorem Le :
  bW P' w K mg base CX0 4 vq oV ["k"] (spD Dr):=
 okQ T.KW K8 fun _ _ _ _ _ _ hr=>(aq (dm (dF (dR (az (E5 T) (Br.hm hr) rfl T.Kq T.Ht.kp T.DV (aa (d_v 0) af)))) (aq qF) cj))
theorem HK :
  bW P' w K mg base CX0 1 nS ja ["groups","a","b"] (spD wo):=
 okQ T.EM HB fun _ _ _ _ _ _ hr=>(aq (s_r (rZ 0 ["groups","a","b"] ["group"] (c_n 3 DX rfl rfl) (d_v 0) (fun _ _ _ _ _=>fP) (fun _ _ _ _ _=>(Jq (lS hr (d_v 3) (bx (d_v 0) (d_v 2))) (bx (d_v 0) (d_v 1)) (d_v 3))))))
theorem HL :
  bW P' w K mg base CX0 1 nT jb ["layers","a","b"] (spD wu):=
 okQ T.EN vv fun _ _ _ _ _ _ hr=>(ai (iP NC rfl (LM rfl T.tM (d_v 0)) (g_t rfl (b5 3 vv.nd (b5 4 vv.nd gI)))
  (aq (dm (xV hr (bx (d_v 4) (d_v 1)) (bx (d_v 4) (d_v 2))) (aq (s_r (cu (d_v 3) d_i))) cj)))
  (aq (s_r d_i)))
theorem HM :
  bW P' w K mg base CX0 5 nU jc ["n","record","k"] (spD wz):=
 okQ T.EO jD fun _ _ _ _ _ _ hr=>(ai (s_e (az (Le T) (Br.hm hr) rfl T.Mh T.KW.kp T.Hw (aa (d_v 2) af)))
  (ai (GA 3 ["n","record","k","layers","numbers","moment","a","b","number"] ["layer"] jD.nd (c_n 9 DY rfl rfl) (Gq rfl T.fh (aa (d_v 2) af)) (fun _ _ _ _ _=>fP) (fun _ _ _ _ _=>(zY rfl rfl T.oY rfl T.fh (aa (d_v 0) af))))
  (ai (s_a 4 jD.nd (cS af))
  (ai (iP NC rfl (JB rfl T.oZ (d_v 1)) (g_t rfl (b5 5 jD.nd (b5 6 jD.nd (b5 7 jD.nd gI))))
  (ai (s_a 8 jD.nd (az (HL T) (Br.hm hr) rfl T.Ks T.EN.kp T.Be (aa (d_v 3) (aa (d_v 6) (aa (d_v 7) af)))))
  (ai (dm (zG (d_v 8) d_i) (aq (Es 3 (mR (d_v 8) d_i) (az (HK T) (Br.hm hr) rfl T.Kr T.EM.kp T.Bd (aa (bx (d_v 3) (mR (d_v 8) d_i)) (aa (d_v 6) (aa (d_v 7) af)))))) cj)
  (aq (vU 4 (d_v 8))))))
  (aq (s_r (CM rfl rfl T.oY rfl T.oZ (d_v 4))))))))
theorem HN :
  bW P' w K mg base CX0 6 nV jd ["n","thing"] (spD gy):=by
 refine T.ER.ok HC (fun vs H Q E h=>kH h) (fun cdv A outer s H vs Q E hr h=>?_);obtain⟨kr,tQ⟩:=T.o6;exact ⟨_,(ai (dm (t_w (w_or (dF (dR (az (K_ T) (Br.hm hr) rfl T.Mb T.KP.kp T.Hx (aa (d_v 0) af)))) (w_or (dF (dR (rW zJ (by rfl) rfl T.oY rfl T.bh (d_v 1)))) (lu (zG (fV rfl T.fJ (aa (d_v 1) af)) (d_g rfl tQ)))))) (aq (s_r d_b)) cj)
  (ai (dm (dF (dR (zO rfl rfl T.A9 (aa (rZ 1 ["n","thing"] ["tie"] (c_n 2 DZ rfl rfl) (d_v 1) (fun _ _ _ _ _=>fP) (fun _ _ _ _ _=>(az (Lc T) (Br.hm hr) rfl T.Mf T.KS.kp T.Hy (aa (d_v 0) (aa (d_v 2) af))))) af)))) (aq (s_r d_b)) cj)
  (aq (s_r (az (Ld T) (Br.hm hr) rfl T.Mg T.KU.kp T.Hz (aa (rZ 1 ["n","thing"] ["tie"] (c_n 2 D0 rfl rfl) (d_v 1) (fun _ _ _ _ _=>fP) (fun _ _ _ _ _=>(bx (d_v 2) d_i))) af)))))),zw (n:=2) (m:=0) rfl h⟩
theorem rB :
  bW P' w K mg base CX0 7 nW je ["thing"] (spD cA):=
 okQ T.tN HD fun _ _ _ _ _ _ hr=>(ai (dm (t_w (w_or (dF (dR (rW kit_tuple (by rfl) rfl T.rj rfl T.bh (d_v 0)))) (lu (xV hr (fV rfl T.fJ (aa (d_v 0) af)) d_i)))) (aq (s_r d_b)) cj)
  (ai (dm (t_w (w_or (dF (dR (az (E5 T) (Br.hm hr) rfl T.Kq T.Ht.kp T.DV (aa (bx (d_v 0) d_i) af)))) (lu (dF (dR (az (HN T) (Br.hm hr) rfl T.Kv T.ER.kp T.Bg (aa (bx (d_v 0) d_i) (aa (bx (d_v 0) d_i) af)))))))) (aq (s_r d_b)) cj)
  (aq (s_r (Jp hr d_i (az (HM T) (Br.hm hr) rfl T.Ku T.EO.kp T.Bf (aa (bx (d_v 0) d_i) (aa (bx (d_v 0) d_i) (aa (bx (d_v 0) d_i) af)))))))))
theorem HP :
  bW P' w K mg base CX0 8 lI gU ["thing"] (spD wA):=
 okQ T.wY BA fun _ _ _ _ _ _ hr=>(aq (dm (dF (dR (az (rB T) (Br.hm hr) rfl T.wX T.tN.kp T.qj (aa (d_v 0) af)))) (aq qF) cj))
theorem gC :
  bW P' w K mg base (CXE P' w aA) 8 lI gU ["thing"] (spX aA dc):=by
 exact okY (n:=1) (m:=0) T.wY BA rfl rfl (fun cdv A outer s H E hr=>(mW (JU (dF (dR (az (rB T) (Br.hm hr) rfl T.wX T.tN.kp T.qj (aa (d_v 0) af)))) (mW (y_x (x_raise T.yK PySem.F.excBase_ValueError rfl))) JV)))
theorem HQ :
  bW P' w K mg base CX0 1 nX jf ["record"] (spD EE):=by
 refine T.ES.ok HE (fun vs H Q E h=>kH h) (fun cdv A outer s H vs Q E hr h=>?_);obtain⟨eY,fC⟩:=T.fK;exact ⟨_,(ai (dm (lS hr (fV rfl T.fJ (aa (d_v 0) af)) d_i) (aq (s_r (G0 rfl fC))) cj)
  (aq (s_r (uV d_s (rZ 0 ["record"] ["moment","a","b"] (c_t rfl (fun _ _ _ _ _=>(b5 1 rq (b5 2 rq (b5 3 rq gI))))) (d_v 0) (fun _ _ _ _ _=>fP) (fun _ _ _ _ _=>(LU (.cons (Aq (d_v 1)) (.cons d_s (.cons (Aq (d_v 2)) (.cons d_s (.cons (Aq (d_v 3)) .nil)))))))))))),zw (n:=1) (m:=0) rfl h⟩
theorem HR :
  bW P' w K mg base CX0 9 lJ gW ["net"] (spD wB):=
 okQ T.w4 BB fun _ _ _ _ _ _ hr=>(ai (s_e (az (HP T) (Br.hm hr) rfl T.EG T.wY.kp T.wZ (aa (d_v 0) af)))
  (aq (s_r (uV d_s (cS (aa (cW hr rfl T.ef (aa (bx (d_v 0) d_i) af)) (aa (cW hr rfl T.ef (aa (bx (d_v 0) d_i) af)) (aa (az (HQ T) (Br.hm hr) rfl T.Kw T.ES.kp T.Bj (aa (bx (d_v 0) d_i) af)) af))))))))
theorem jF :
  bW P' w K mg base (CXE P' w aA) 9 lJ gW ["net"] (spX aA dS):=by
 exact okY (n:=1) (m:=0) T.w4 BB rfl rfl (fun cdv A outer s H E hr=>(mW (y_x (z9 (x_call (gC T) (Br.hm hr) rfl T.EG T.wY.kp T.wZ JI (aa (d_v 0) af))))))
theorem jG :
  bW P' w K mg base CX0 1 nY jh ["word"] (spD e8):=by
 refine T.lN.ok HF (fun vs H Q E h=>kH h) (fun cdv A outer s H vs Q E hr h=>?_);obtain⟨o_,yM⟩:=T.rm;obtain⟨gA,pe⟩:=T.ko;exact ⟨_,(ai (dm (t_w (w_or (dF (qI jT jZ jT jZ d_i (GY rfl T.fJ (aa (d_v 0) af)) (d_g rfl pe))) (lu (dF (dR (zO rfl rfl T.A9 (aa (Gz ["word"] ["sign"] (c_n 1 D3 rfl rfl) (LS (d_v 0)) (fun _ _ _ _ _=>fP) (fun _ _ _ _ _=>(J0 (d_v 1) (G0 rfl yM)))) af))))))) (aq (s_r d_n)) cj)
  (ai (dm (t_w (w_and (lS hr (J2 (d_v 0) d_i) d_s) (Gp (xV hr (d_v 0) d_s)))) (aq (s_r d_n)) cj)
  (aq (s_r (GZ rfl T.A_ (aa (d_v 0) af)))))),zw (n:=1) (m:=0) rfl h⟩
theorem HS :
  bW P' w K mg base CX0 2 nZ jj ["word"] (spD wC):=
 okQ T.ET vz fun _ _ _ _ _ _ hr=>(ai (s_a 1 vz.nd (kO (d_v 0) d_s))
  (ai (s_a 2 vz.nd (kO (bx (d_v 1) d_i) d_s))
  (aq (s_r (cC (aa (az (jG T) (Br.hm hr) rfl T.o7 T.lN.kp T.kq (aa (bx (d_v 1) d_i) af)) (aa (az (jG T) (Br.hm hr) rfl T.o7 T.lN.kp T.kq (aa (bx (d_v 2) d_i) af)) (aa (az (jG T) (Br.hm hr) rfl T.o7 T.lN.kp T.kq (aa (bx (d_v 2) d_i) af)) af))))))))
theorem BF :
  bW P' w K mg base CX0 3 n5 jk ["text"] (spD j5):=by
 refine T.Bl.ok HG (fun vs H Q E h=>kH h) (fun cdv A outer s H vs Q E hr h=>?_);obtain⟨eY,fC⟩:=T.fK;exact ⟨_,(ai (dm (lS hr (d_v 0) (G0 rfl fC)) (aq (s_r (cS af))) cj)
  (aq (s_r (Gz ["text"] ["word"] (c_n 1 D4 rfl rfl) (i_S (Df (d_v 0) d_s)) (fun _ _ _ _ _=>fP) (fun _ _ _ _ _=>(az (HS T) (Br.hm hr) rfl T.Ky T.ET.kp T.Bk (aa (d_v 1) af))))))),zw (n:=1) (m:=0) rfl h⟩
theorem HU :
  bW P' w K mg base CX0 8 lM gX ["text"] (spD p_):=
 okQ T.w_ gZ fun _ _ _ _ _ _ hr=>(ai (s_a 1 gZ.nd (kO (d_v 0) d_s))
  (ai (s_a 2 gZ.nd (kO (bx (d_v 1) d_i) d_s))
  (ai (s_a 3 gZ.nd (cC (aa (az (jG T) (Br.hm hr) rfl T.o7 T.lN.kp T.kq (aa (bx (d_v 1) d_i) af)) (aa (az (jG T) (Br.hm hr) rfl T.o7 T.lN.kp T.kq (aa (bx (d_v 2) d_i) af)) (aa (az (BF T) (Br.hm hr) rfl T.EI T.Bl.kp T.w6 (aa (bx (d_v 2) d_i) af)) af)))))
  (ai (dm (dF (dR (az (rB T) (Br.hm hr) rfl T.wX T.tN.kp T.qj (aa (d_v 3) af)))) (aq qF) cj)
  (aq (s_r (d_v 3)))))))
theorem iN :
  bW P' w K mg base (CXE P' w au) 8 lM gX ["text"] (spX au dI):=by
 exact okY (n:=1) (m:=3) T.w_ gZ rfl rfl (fun cdv A outer s H E hr=>(Ag (s_a 1 gZ.nd (kO (d_v 0) d_s)) (Ag (s_a 2 gZ.nd (kO (bx (d_v 1) d_i) d_s)) (Ag (s_a 3 gZ.nd (cC (aa (az (jG T) (Br.hm hr) rfl T.o7 T.lN.kp T.kq (aa (bx (d_v 1) d_i) af)) (aa (az (jG T) (Br.hm hr) rfl T.o7 T.lN.kp T.kq (aa (bx (d_v 2) d_i) af)) (aa (az (BF T) (Br.hm hr) rfl T.EI T.Bl.kp T.w6 (aa (bx (d_v 2) d_i) af)) af))))) (mW (JU (dF (dR (az (rB T) (Br.hm hr) rfl T.wX T.tN.kp T.qj (aa (d_v 3) af)))) (mW (y_x (x_raise T.vt PySem.F.excBase_ValueError rfl))) JV))))))
theorem HV :
  bW P' w K mg base CX0 1 n6 jl ["cell","k"] (spD wD):=
 okQ T.EU vA fun _ _ _ _ _ _ hr=>(ai (s_a 2 vA.nd (b_ (fU (cu (cu (b_ (d_v 0) d_i) (fU d_i (d_v 1))) d_i) d_i) d_i))
  (ai (s_a 2 vA.nd (b_ (cu (b_ (fU (d_v 2) (d_v 2)) d_i) (fU d_i (d_v 1))) d_i))
  (aq (s_r (b_ (fU (d_v 2) d_i) d_i)))))
theorem HW :
  bW P' w K mg base CX0 2 n8 jm ["cell","many","base"] (spD wF):=
 okQ T.EV fS fun _ _ _ _ _ _ hr=>(ai (s_a 3 fS.nd (cS af))
  (ai (s_a 4 fS.nd (mR (d_v 0) (pW d_i d_i)))
  (ai (iP NC rfl (Gq rfl T.fh (aa (d_v 1) af)) (g_n 5 fS.nd)
  (ai (s_a 6 fS.nd (d_v 4))
  (ai (dm (zG (d_v 4) d_i) (aq (s_a 4 fS.nd (iO (d_v 4) (d_v 2)))) (ai (s_a 6 fS.nd d_i)
  (ai (s_a 7 fS.nd d_i)
  (aq (LJ 100 NC (LF (fU (d_v 7) d_i) (cu (Gy (d_v 2)) d_i))
  (ai (s_a 6 fS.nd (cu (fU (d_v 6) d_i) (az (HV T) (Br.hm hr) rfl T.Kz T.EU.kp T.Bm (aa (d_v 0) (aa (cu (fU d_i (d_v 5)) (d_v 7)) af)))))
  (aq (s_a 7 fS.nd (cu (d_v 7) d_i)))))))))
  (aq (vU 3 (b_ (d_v 6) (d_v 2)))))))
  (aq (s_r (d_v 3))))))
theorem HX :
  bW P' w K mg base CX0 1 n9 jn ["n","kind","one","other"] (spD wG):=
 okQ T.EW BC fun _ _ _ _ _ _ hr=>(ai (s_a 4 BC.nd (b_ (d_v 2) (d_v 0)))
  (ai (dm (lS hr (d_v 1) d_i) (aq (s_r (cC (aa (d_v 4) (aa (b_ (d_v 3) (d_v 0)) af))))) cj)
  (ai (dm (lS hr (d_v 1) d_i) (aq (s_r (cC (aa (b_ (d_v 2) (uN rfl rfl T.wW (aa (d_v 0) (aa d_i af)))) (aa (b_ (d_v 3) (uN rfl rfl T.wW (aa (d_v 0) (aa d_i af)))) af))))) cj)
  (ai (dm (lS hr (d_v 1) d_i) (aq (s_r (cC (aa (d_v 4) (aa (b_ (cu (cu (d_v 4) d_i) (iO (b_ (d_v 3) d_i) d_i)) (d_v 0)) af))))) cj)
  (aq (s_r (cC (aa (d_v 4) (aa (b_ (cu (d_v 4) (fU d_i (b_ (d_v 3) (d_v 0)))) (d_v 0)) af)))))))))
theorem HY :
  bW P' w K mg base CX0 2 n_ jq ["numbers","most"] (spD wH):=
 okQ T.EX eX fun _ _ _ _ _ _ hr=>(ai (s_a 2 eX.nd (cu d_i (b_ (bx (d_v 0) d_i) d_i)))
  (ai (dm (lS hr (b_ (iO (bx (d_v 0) d_i) d_i) d_i) d_i) (aq (s_a 2 eX.nd (cu d_i (b_ (iO (bx (d_v 0) d_i) d_i) d_i)))) cj)
  (ai (s_a 3 eX.nd (b_ (bx (d_v 0) d_i) d_i))
  (ai (dm (lS hr (b_ (iO (bx (d_v 0) d_i) d_i) d_i) d_i) (aq (s_a 3 eX.nd (cu d_i (b_ (iO (bx (d_v 0) d_i) d_i) d_i)))) cj)
  (ai (s_a 4 eX.nd (bx (cS (aa d_i (aa d_i (aa (pW d_i d_i) af)))) (b_ (bx (d_v 0) d_i) d_i)))
  (ai (s_a 5 eX.nd (bx (cS (aa d_i (aa (b_ (iO (bx (d_v 0) d_i) d_i) d_i) (aa (b_ (bx (d_v 0) d_i) (pW d_i d_i)) af)))) (b_ (iO (bx (d_v 0) d_i) d_i) d_i)))
  (ai (s_a 6 eX.nd (cS af))
  (ai (iP NC rfl (Gq rfl T.fh (aa (Gw rfl rfl T.wW (aa (d_v 3) (aa (d_v 1) (aa (iO (mR (fV rfl T.fJ (aa (d_v 0) af)) d_i) d_i) af)))) af)) (g_n 7 eX.nd)
  (ai (s_u rfl (b5 8 eX.nd (b5 9 eX.nd gI)) (az (HX T) (Br.hm hr) rfl T.KC T.EW.kp T.Bo (aa (d_v 2) (aa (b_ (bx (d_v 0) d_i) d_i) (aa (bx (d_v 0) (cu d_i (fU d_i (d_v 7)))) (aa (bx (d_v 0) (cu d_i (fU d_i (d_v 7)))) af))))))
  (ai (vU 6 (cC (aa (d_v 5) (aa (uN rfl rfl T.wW (aa (d_v 8) (aa (d_v 9) af))) (aa (Gm rfl rfl T.Kn (aa (d_v 8) (aa (d_v 9) af))) af)))))
  (aq (s_a 5 eX.nd (cu (cu (d_v 5) d_i) (b_ (bx (d_v 0) (cu d_i (fU d_i (d_v 7)))) (d_v 4))))))))
  (aq (s_r (cC (aa (d_v 2) (aa (d_v 6) af)))))))))))))
theorem HZ :
  bW P' w K mg base CX0 1 oj jr ["number"] (spD sL):=
 okQ T.EY HH fun _ _ _ _ _ _ hr=>(aq (s_r (bx (cS (aa (cu d_i (b_ (d_v 0) d_i)) (aa (cu d_i (b_ (iO (d_v 0) d_i) d_i)) af))) (Jv rfl T.A_ (aa (Jo hr (b_ (d_v 0) d_i) d_i) af)))))
theorem H_ :
  bW P' w K mg base CX0 1 oq jt ["n","ties","a","b"] (spD wI):=
 okQ T.EZ g6 fun _ _ _ _ _ _ hr=>(ai (s_a 4 g6.nd (zY rfl rfl T.oY rfl T.fh (aa (d_v 0) af)))
  (ai (iP NC rfl (i_S (d_v 1)) (g_t rfl (b5 5 g6.nd (b5 6 g6.nd (b5 7 g6.nd gI))))
  (ai (s_a 8 g6.nd (bx (d_v 4) (d_v 6)))
  (ai (s_a 9 g6.nd (bx (d_v 4) (d_v 7)))
  (aq (JD 4 4 ["n","ties","a","b","marks","moment","one","other","old","new"] ["mark"] g6.nd (c_n 10 D5 rfl rfl) (d_v 4) (fun _ _ _ _ _=>fP) (fun _ _ _ _ _=>(Jq (lS hr (d_v 10) (d_v 8)) (d_v 9) (d_v 10))))))))
  (aq (s_r (Jo hr (bx (d_v 4) (d_v 2)) (bx (d_v 4) (d_v 3)))))))
theorem BG :
  bW P' w K mg base CX0 2 ou ju ["n","record","k"] (spD sM):=
 okQ T.Bq o8 fun _ _ _ _ _ _ hr=>(ai (s_a 3 o8.nd (fU (cS (aa d_i af)) (fV rfl T.fJ (aa (d_v 1) af))))
  (ai (iP NC rfl (JC rfl T.fh (aa (mR (fV rfl T.fJ (aa (d_v 1) af)) d_i) (aa (zF d_i) (aa (zF d_i) af)))) (g_n 4 o8.nd)
  (aq (iP NC rfl (JC rfl T.fh (aa (d_v 2) (aa d_i (aa (zF d_i) af)))) (g_n 5 o8.nd)
  (ai (GA 6 ["n","record","k","numbers","at","j","ties"] ["later"] o8.nd (c_n 7 D6 rfl rfl) (Jr rfl T.fh (aa (cu (d_v 4) d_i) (aa (fV rfl T.fJ (aa (d_v 1) af)) af))) (fun _ _ _ _ _=>zN (lS hr (bx (d_v 3) (d_v 7)) (d_v 5))) (fun _ _ _ _ _=>(bx (d_v 1) (d_v 7))))
  (aq (dm (dF (dR (az (H_ T) (Br.hm hr) rfl T.KH T.EZ.kp T.Bp (aa (d_v 0) (aa (d_v 6) (aa (bx (bx (d_v 1) (d_v 4)) d_i) (aa (bx (bx (d_v 1) (d_v 4)) d_i) af))))))) (aq (Es 3 (d_v 4) (d_v 5))) cj))))))
  (aq (s_r (d_v 3)))))
theorem vC :
  bW P' w K mg base CX0 1 oz jv ["record"] (spD nk):=
 okQ T.xg HJ fun _ _ _ _ _ _ hr=>(ai (dm (lS hr (d_v 0) (cS af)) (aq (s_r d_s)) cj)
  (aq (s_r (uV d_s (rZ 0 ["record"] ["tie"] (c_n 1 D7 rfl rfl) (d_v 0) (fun _ _ _ _ _=>fP) (fun _ _ _ _ _=>(bK (bK (bK (bK (cW hr rfl T.ef (aa (bx (d_v 1) d_i) af)) d_s) (cW hr rfl T.ef (aa (bx (d_v 1) d_i) af))) d_s) (cW hr rfl T.ef (aa (bx (d_v 1) d_i) af)))))))))
theorem vD :
  bW P' w K mg base CX0 9 oA jx ["text"] (spD (nu au aA)):=
 okQ T.xj jE fun _ _ _ _ _ _ hr=>(ai (s_a 1 jE.nd d_n)
  (ai (s_a 2 jE.nd d_n)
  (ai (JS (Ah (fun pn xe=>(aq (s_a 2 jE.nd (az (HU T) (Br.hm hr) rfl T.EJ T.w_.kp T.xh (aa (d_v 0) af)))))) (Ai (ie:=3) rfl rfl rfl jE.nd rfl rfl rfl T.oW T.jC (fun pn xe E hp=>(mW (y_x (x_a 2 jE.nd (x_call (iN T) (Br.hm hr) rfl T.EJ T.w_.kp T.xh hp (aa (d_v 0) af)))))) (fun A' xe=>(aq (s_a 1 jE.nd (d_v 3))))))
  (ai (dm (JF (d_v 1) d_n) (aq (s_r (d_v 2))) cj)
  (ai (dm (t_w (w_or (dF (dR (iQ (wc T.fB T.kY rfl T.kg rfl T.bh (d_v 1)) (iQ (wc T.fZ T.lW rfl T.kg rfl T.bh (d_v 1)) sq)))) (lu (dR (iQ (wg (Ds:=[cG,bz,aA,bA,bV]) T.fB T.cJ (cL rfl T.mh (cL rfl T.gk (cL rfl T.mj (cL rfl T.gp (cL rfl T.kh we))))) (MQ rfl) rfl T.bh (d_v 1)) (iQ (wg (Ds:=[cG,bz,aA,bA,bV]) T.fZ T.cK (cL rfl T.mh (cL rfl T.gk (cL rfl T.mj (cL rfl T.gp (cL rfl T.kh we))))) (MQ rfl) rfl T.bh (d_v 1)) sq)))))) (aq (s_r d_s)) cj)
  (aq (s_r d_n)))))))
theorem BH :
  bW P' w K mg base CX0 3 oB jy ["n","k","ties"] (spD qc):=
 okQ T.Bs BE fun _ _ _ _ _ _ hr=>(ai (dm (t_w (w_or (dF (qI jT jZ jT jZ d_i (d_v 0) d_i)) (lu (dF (qI jT jZ jT jZ d_i (d_v 1) d_i))))) (aq (s_r d_n)) cj)
  (ai (iP NC rfl (i_S (d_v 2)) (g_n 3 BE.nd)
  (aq (dm (LG (bx (d_v 3) d_i) (d_v 0)) (aq (s_r d_n)) cj)))
  (ai (dm (LH hr d_i (az (BG T) (Br.hm hr) rfl T.EK T.Bq.kp T.xm (aa (d_v 0) (aa (d_v 2) (aa (d_v 1) af))))) (aq (s_r d_n)) cj)
  (aq (s_r (cC (aa (d_v 0) (aa (d_v 1) (aa (d_v 2) af)))))))))
theorem Ia :
  bW P' w K mg base CX0 2 oE jz ["n","k","ties","number"] (spD sN):=
 okQ T.E1 o9 fun _ _ _ _ _ _ hr=>(ai (s_a 4 o9.nd (az (vC T) (Br.hm hr) rfl T.Ba T.xg.kp T.tO (aa (d_v 2) af)))
  (ai (s_a 5 o9.nd (cS (aa (bK (bK (cW hr rfl T.ef (aa (d_v 0) af)) d_s) (cW hr rfl T.ef (aa (d_v 1) af))) (aa (bK (bK (bK (bK (cW hr rfl T.ef (aa (d_v 0) af)) d_s) (cW hr rfl T.ef (aa (d_v 1) af))) d_s) (d_v 4)) (aa (d_v 4) (aa (bK (bK (cW hr rfl T.ef (aa (d_v 1) af)) d_s) (d_v 4)) af))))))
  (ai (s_a 5 o9.nd (cu (d_v 5) (cS (aa d_s (aa d_s (aa d_s (aa d_s af)))))))
  (@ai _ _ _ _ _ (@s_a _ _ _ _ 5 _ _ o9.nd (@cu _ _ _ _ _ _ (d_v 5) (@cS _ _ _ _ (@aa _ _ _ _ _ (bK (bK (bK d_s (cW hr rfl T.ef (aa (d_v 0) af))) d_s) (d_v 4)) (@aa _ _ _ _ _ (bK (cW hr rfl T.ef (aa (d_v 0) af)) d_s) (@aa _ _ _ _ _ d_s (@aa _ _ _ _ _ d_s (@aa _ _ _ _ _ d_s (@aa _ _ _ _ _ d_s af rfl) rfl) rfl) rfl) rfl) rfl))) rfl (by trivial) rfl (by trivial))
  (aq (s_r (bx (cu (d_v 5) (cS (aa (bK (bK (bK (bK (bK (cW hr rfl T.ef (aa (d_v 0) af)) d_s) (cW hr rfl T.ef (aa (d_v 1) af))) d_s) (d_v 4)) d_s) (aa d_s af)))) (b_ (d_v 3) d_i))))))))
theorem Ib :
  bW P' w K mg base CX0 1 oF jA ["n","k","ties","record","number"] (spD sO):=
 okQ T.E2 rz fun _ _ _ _ _ _ hr=>(@ai _ _ _ _ _ (@s_a _ _ _ _ 5 _ _ rz.nd (@cS _ _ _ _ (@aa _ _ _ _ _ (cC (aa (d_v 0) (aa (d_v 1) af))) (@aa _ _ _ _ _ (cC (aa (d_v 0) (aa (d_v 1) (aa (d_v 2) (aa d_i af))))) (@aa _ _ _ _ _ (cS (aa (d_v 0) (aa (d_v 1) (aa (Gn rfl T.oY (aa (d_v 2) af)) af)))) (@aa _ _ _ _ _ (cC (aa (d_v 0) (aa (d_v 1) (aa (CB rfl T.rj (aa (d_v 2) af)) af)))) (@aa _ _ _ _ _ d_n (@aa _ _ _ _ _ d_s (@aa _ _ _ _ _ (cC (aa d_i (aa (d_v 1) (aa (d_v 2) af)))) af rfl) rfl) rfl) rfl) rfl) rfl) rfl)) rfl (by trivial) rfl (by trivial))
  (@ai _ _ _ _ _ (@s_a _ _ _ _ 5 _ _ rz.nd (@cu _ _ _ _ _ _ (d_v 5) (@cS _ _ _ _ (@aa _ _ _ _ _ (cC (aa (d_v 0) (aa d_i (aa (d_v 2) af)))) (@aa _ _ _ _ _ (cC (aa (d_v 0) (aa d_i (aa (d_v 2) af)))) (@aa _ _ _ _ _ (cC (aa d_i (aa (d_v 1) (aa (cS af) af)))) (@aa _ _ _ _ _ (cC (aa (d_v 0) (aa (d_v 1) (aa d_n af)))) (@aa _ _ _ _ _ (cC (aa d_b (aa (d_v 1) (aa (cS af) af)))) (@aa _ _ _ _ _ (cC (aa (d_v 0) (aa d_b (aa (d_v 2) af)))) af rfl) rfl) rfl) rfl) rfl) rfl))) rfl (by trivial) rfl (by trivial))
  (@ai _ _ _ _ _ (@s_a _ _ _ _ 5 _ _ rz.nd (@cu _ _ _ _ _ _ (d_v 5) (@cS _ _ _ _ (@aa _ _ _ _ _ (cC (aa (d_v 0) (aa (d_v 1) (aa (cu (d_v 2) (cS (aa d_n af))) af)))) (@aa _ _ _ _ _ (cC (aa (d_v 0) (aa (d_v 1) (aa (cu (d_v 2) (cS (aa (cC (aa (pW d_i d_i) (aa d_i (aa d_i af)))) af))) af)))) (@aa _ _ _ _ _ (cC (aa (d_v 0) (aa (d_v 1) (aa (cS (aa (cC (aa d_i (aa d_i (aa (d_v 0) af)))) af)) af)))) (@aa _ _ _ _ _ d_i (@aa _ _ _ _ _ (cC af) af rfl) rfl) rfl) rfl) rfl))) rfl (by trivial) rfl (by trivial))
  (ai (dm (zG (fV rfl T.fJ (aa (d_v 3) af)) (fV rfl T.fJ (aa (d_v 2) af))) (aq (vU 5 (cC (aa (d_v 0) (aa (d_v 1) (aa (d_v 3) af)))))) cj)
  (aq (s_r (bx (d_v 5) (b_ (d_v 4) (fV rfl T.fJ (aa (d_v 5) af))))))))))
theorem Ic :
  bW P' w K mg base CX0 10 oG jB ["thing"] (spD (sP au aA)):=
 okQ T.E3 rA fun _ _ _ _ _ _ hr=>(ai (s_a 1 rA.nd d_n)
  (ai (JS (Ah (fun pn xe=>(aq (s_e (az (HR T) (Br.hm hr) rfl T.EH T.w4.kp T.xo (aa (d_v 0) af)))))) (Ai (ie:=2) rfl rfl rfl rA.nd rfl rfl rfl T.oW T.ki (fun pn xe E hp=>(mW (y_x (z9 (x_call (jF T) (Br.hm hr) rfl T.EH T.w4.kp T.xo hp (aa (d_v 0) af)))))) (fun A' xe=>(aq (s_a 1 rA.nd (d_v 2))))))
  (ai (dm (t_w (w_or (dF (dR (iQ (wc T.fB T.lX rfl T.mj rfl T.bh (d_v 1)) (iQ (wc T.fZ T.oX rfl T.mj rfl T.bh (d_v 1)) sq)))) (lu (dF (dR (iQ (Ad T.fB T.gY rfl rfl T.kj rfl T.bh (d_v 1)) (iQ (Ad T.fZ T.iM rfl rfl T.kj rfl T.bh (d_v 1)) sq))))))) (aq (s_r d_b)) cj)
  (aq (s_r (Er (iQ (wg (Ds:=[cG,bz,bA,au,bV]) T.fB T.cH (cL rfl T.mh (cL rfl T.gk (cL rfl T.gp (cL rfl T.kg (cL rfl T.kh we))))) (MQ rfl) rfl T.bh (d_v 1)) (iQ (wg (Ds:=[cG,bz,bA,au,bV]) T.fZ T.cI (cL rfl T.mh (cL rfl T.gk (cL rfl T.gp (cL rfl T.kg (cL rfl T.kh we))))) (MQ rfl) rfl T.bh (d_v 1)) sq))))))))
theorem Ie :
  bW P' w K mg base CX0 11 oH kX ["script"] (spD (nv au aA)):=
 okQ T.KY dX fun _ _ _ _ _ _ hr=>(ai (iP NC rfl (i_S (cu (Ju (d_v 0) o_n (o_s d_i)) (cS (aa (fV rfl T.fJ (aa (d_v 0) af)) af)))) (g_n 1 dX.nd)
  (ai (s_a 2 dX.nd (az (HW T) (Br.hm hr) rfl T.KA T.EV.kp T.Bt (aa (d_v 1) (aa d_i (aa (pW d_i d_i) af)))))
  (ai (s_u rfl (b5 3 dX.nd (b5 4 dX.nd gI)) (az (HY T) (Br.hm hr) rfl T.KD T.EX.kp T.Bu (aa (Ju (d_v 2) (o_s d_i) o_n) (aa d_i af))))
  (ai (s_a 5 dX.nd (az (HZ T) (Br.hm hr) rfl T.KG T.EY.kp T.Bv (aa (bx (d_v 2) d_i) af)))
  (ai (s_a 6 dX.nd (az (BG T) (Br.hm hr) rfl T.EK T.Bq.kp T.xm (aa (d_v 3) (aa (d_v 4) (aa (d_v 5) af)))))
  (ai (GA 7 ["script","cell","numbers","n","record","k","told","ties","places","layers","some","text"] ["tie","number"] dX.nd (c_t rfl (fun _ _ _ _ _=>(b5 12 xr (b5 13 xr gI)))) (JE rfl T.Ko (aa (d_v 4) (aa (d_v 6) af))) (fun _ _ _ _ _=>zN (zG (d_v 13) d_i)) (fun _ _ _ _ _=>(d_v 12)))
  (ai (iP NC rfl (i_S (cS (aa (cC (aa (d_v 3) (aa (d_v 5) (aa (d_v 7) af)))) (aa (cC (aa (d_v 3) (aa (d_v 5) (aa (d_v 4) af)))) (aa (cC (aa (d_v 3) (aa (cu d_i (b_ (bx (d_v 2) d_i) d_i)) (aa (d_v 7) af)))) af))))) (g_t rfl (b5 8 dX.nd (b5 9 dX.nd (b5 10 dX.nd gI))))
  (ai (s_a 11 dX.nd (bK (bK (bK (bK (cW hr rfl T.ef (aa (d_v 8) af)) d_s) (cW hr rfl T.ef (aa (d_v 9) af))) d_s) (az (vC T) (Br.hm hr) rfl T.Ba T.xg.kp T.tO (aa (d_v 10) af))))
  (aq (dm (xV hr (az (vD T) (Br.hm hr) rfl T.Bb T.xj.kp T.tP (aa (d_v 11) af)) (az (BH T) (Br.hm hr) rfl T.EL T.Bs.kp T.xq (aa (d_v 8) (aa (d_v 9) (aa (d_v 10) af))))) (aq (s_r d_b)) cj))))
  (ai (s_a 8 dX.nd (b_ (bx (d_v 2) d_i) d_i))
  (ai (s_a 11 dX.nd (bK (bK (bK (bK (cW hr rfl T.ef (aa (d_v 8) af)) d_s) (cW hr rfl T.ef (aa (d_v 5) af))) d_s) (az (vC T) (Br.hm hr) rfl T.Ba T.xg.kp T.tO (aa (d_v 7) af))))
  (ai (dm (xV hr (az (vD T) (Br.hm hr) rfl T.Bb T.xj.kp T.tP (aa (d_v 11) af)) (az (BH T) (Br.hm hr) rfl T.EL T.Bs.kp T.xq (aa (d_v 8) (aa (d_v 5) (aa (d_v 7) af))))) (aq (s_r d_b)) cj)
  (ai (dm (GN (az (vD T) (Br.hm hr) rfl T.Bb T.xj.kp T.tP (aa (az (Ia T) (Br.hm hr) rfl T.KI T.E1.kp T.Bw (aa (d_v 3) (aa (d_v 5) (aa (d_v 7) (aa (bx (d_v 2) d_i) af))))) af)) d_n) (aq (s_r d_b)) cj)
  (aq (dm (dF (dR (az (Ic T) (Br.hm hr) rfl T.KL T.E3.kp T.By (aa (az (Ib T) (Br.hm hr) rfl T.KJ T.E2.kp T.Bx (@aa _ _ _ _ _ (d_v 3) (@aa _ _ _ _ _ (d_v 5) (@aa _ _ _ _ _ (d_v 7) (@aa _ _ _ _ _ (d_v 4) (@aa _ _ _ _ _ (bx (d_v 2) d_i) af rfl) rfl) rfl) rfl) rfl)) af)))) (aq (s_r d_b)) cj)))))))))))))
  (aq (s_r d_b)))
end
theorem all_mk{l:Pq}{w:World}{K:Mv}{h:Heap}{mg:Str->Option Value}{fa ve vf vg vh vj vm vn vo vp vq nS nT nU nV nW lI nX lJ nY nZ n5 lM n6 n8 n9 n_ oj oq ou oz oA oB oE oF oG oH cG bz aA bA au bV b9:Addr}{oJ oK oM oN oO oQ oR oS oU oV ja jb jc jd je gU jf gW jh jj jk gX jl jm jn jq jr jt ju jv jx jy jz jA jB kX:FuncData}(X:K.In h)(G:h.Ns mainGlobals mg)(hfa:mg "law" = some (.ref fa))
  {o_:Tok}
  {gA:Tok}
  {kr:Tok}
  {eY:Tok}
  (BI:cM K "is_whole" (top 9) ve oJ)
  (BJ:cM K "is_within" (top 10) vf oK)
  (BK:cM K "is_places" (top 11) vg oM)
  (BL:cM K "is_place" (top 12) vh oN)
  (BN:cM K "is_layers" (top 13) vj oO)
  (BO:cM K "is_moment" (top 14) vm oQ)
  (BP:cM K "is_tie_either_way" (top 15) vn oR)
  (BQ:cM K "is_tie" (top 16) vo oS)
  (BR:cM K "is_rising" (top 17) vp oU)
  (BS:cM K "look_at_layers" (top 18) vq oV)
  (tR:cM K "merged" (top 20) nS ja)
  (tS:cM K "least_layer" (top 23) nT jb)
  (tT:cM K "layered" (top 22) nU jc)
  (tU:cM K "is_record" (top 26) nV jd)
  (tW:cM K "is_net" (top 28) nW je)
  (tZ:cM K "look_at_net" (top 29) lI gU)
  (t7:cM K "record_text" (top 34) nX jf)
  (t8:cM K "net_text" (top 35) lJ gW)
  (t9:cM K "read_number" (top 39) nY jh)
  (t_:cM K "read_tie" (top 38) nZ jj)
  (ua:cM K "read_ties" (top 37) n5 jk)
  (uc:cM K "read_net" (top 36) lM gX)
  (ud:cM K "_law_mixed" (top 41) n6 jl)
  (ue:cM K "_law_numbers" (top 42) n8 jm)
  (uf:cM K "_law_ends" (top 43) n9 jn)
  (ug:cM K "_law_record" (top 44) n_ jq)
  (uh:cM K "_law_depth" (top 45) oj jr)
  (um:cM K "_law_joined" (top 46) oq jt)
  (uo:cM K "_law_numbered" (top 47) ou ju)
  (uq:cM K "_law_text" (top 48) oz jv)
  (ur:cM K "_law_read" (top 49) oA jx)
  (uu:cM K "_law_due" (top 50) oB jy)
  (uv:cM K "_law_bad" (top 51) oE jz)
  (uw:cM K "_law_no_net" (top 52) oF jA)
  (ux:cM K "_law_unwritten" (top 53) oG jB)
  (qk:cM K "law" (top 54) oH kX)
  (gq:M1 K mainGlobals "ValueError" = some none)
  (BU:M1 K mainGlobals "all" = some none)
  (vE:M1 K mainGlobals "bool" = some none)
  (g7:M1 K mainGlobals "enumerate" = some none)
  (BV:M1 K mainGlobals "int" = some none)
  (gu:M1 K mainGlobals "isinstance" = some none)
  (BW:M1 K mainGlobals "len" = some none)
  (vF:M1 K mainGlobals "list" = some none)
  (BX:M1 K mainGlobals "max" = some none)
  (BY:M1 K mainGlobals "min" = some none)
  (rC:M1 K mainGlobals "range" = some none)
  (jH:M1 K mainGlobals "reversed" = some none)
  (BZ:M1 K mainGlobals "str" = some none)
  (rD:M1 K mainGlobals "tuple" = some none)
  (B0:M1 K mainGlobals "zip" = some none)
  (kZ:M1 K mainGlobals "FIGURES" = some (some (.str ⟨([48,49,50,51,52,53,54,55,56,57]:List Nat).toArray⟩ o_)))
  (fD:M1 K mainGlobals "MOST_FIGURES" = some (some (.int 60 gA)))
  (g8:M1 K mainGlobals "MOST_TIES" = some (some (.int 60 kr)))
  (fE:M1 K mainGlobals "WITHOUT_TIES" = some (some (.str ⟨([110,111,110,101]:List Nat).toArray⟩ eY)))
  (rE:M1 K mainGlobals "Clash" = some (some (.ref cG)))
  (jI:M1 K mainGlobals "NoLayers" = some (some (.ref bz)))
  (mq:M1 K mainGlobals "NoNet" = some (some (.ref aA)))
  (jJ:M1 K mainGlobals "NoPlaces" = some (some (.ref bA)))
  (ku:M1 K mainGlobals "NoText" = some (some (.ref au)))
  (pq:M1 K mainGlobals "NoTies" = some (some (.ref bV)))
  (jK:M1 K mainGlobals "PlyError" = some (some (.ref b9)))
  (gv:O9 K au bmV "ValueError.__new__" = true)
  (g9:NS K (.ref au) "__getattribute__" = some (some (.builtin "BaseException.__getattribute__")))
  (g_:NS K (.ref au) "__getattr__" = some none)
  (h_:NS K (.ref au) "__class__" = some (some (.builtin "object.__class__")))
  (ic:NV K au (.type "BaseException")=some true)
  (ig:NV K au (.type "object")=some true)
  (ir:(O8 K au).isSome=true)
  (iu:O9 K aA bmV "ValueError.__new__" = true)
  (jL:NS K (.ref aA) "__getattribute__" = some (some (.builtin "BaseException.__getattribute__")))
  (jM:NS K (.ref aA) "__getattr__" = some none)
  (jN:NS K (.ref aA) "__class__" = some (some (.builtin "object.__class__")))
  (jO:NV K aA (.type "BaseException")=some true)
  (jP:NV K aA (.type "object")=some true)
  (jQ:(O8 K aA).isSome=true)
  (cY:Nd K (.ref aA) (.type "ValueError")=some true)
  (cQ:Nd K (.ref au) (.type "ValueError")=some true)
  (eK:PySem.W.typeIn K (.ref b9)=some (.type "type"))
  (eL:(O8 K b9).isSome=true)
  (eN:NV K b9 (.type "BaseException")=some true)
  (dw:NV K aA (.ref b9)=some true)
  (di:NV K au (.ref b9)=some true)
  (eE:Nd K (.ref aA) (.ref aA)=some true)
  (dY:Nd K (.ref aA) (.ref au)=some false)
  (dZ:Nd K (.ref au) (.ref aA)=some false)
  (dJ:Nd K (.ref au) (.ref au)=some true)
  (aS:NI K (.ref aA) (([cG,bz,aA,bA,bV]:List Addr).map Nq)=some true)
  (aM:NI K (.ref aA) (([cG,bz,bA,au,bV]:List Addr).map Nq)=some false)
  (aN:NI K (.ref au) (([cG,bz,aA,bA,bV]:List Addr).map Nq)=some false)
  (aK:NI K (.ref au) (([cG,bz,bA,au,bV]:List Addr).map Nq)=some true) :
  ∃fd:FuncData,(∀(s:Shared) (v:Value),BindsTo s fd ⟨[v],[]⟩ [("script",v)])/\∀base:Heap,K.In base->base.Ns mainGlobals mg->bW l.prog w K mg base CX0 11 fa fd ["script"] (spD (nv au aA)):=by
 have e:=hfa.symm.trans (qk.m X G);cases e;have Hq:=BI.F.cV (ps:=["thing"]) rfl fun _ _ _ _ _ _ _=>rfl;have yL:=BJ.F.iW (ps:=["thing","low","high"]) rfl fun _ _ _ _ _ _ _ _ _=>rfl;have Hx:=BK.F.cV (ps:=["thing"]) rfl fun _ _ _ _ _ _ _=>rfl;have DU:=BL.F.kK (ps:=["n","thing"]) rfl fun _ _ _ _ _ _ _ _=>rfl;have DV:=BN.F.cV (ps:=["thing"]) rfl fun _ _ _ _ _ _ _=>rfl;have Hu:=BO.F.cV (ps:=["thing"]) rfl fun _ _ _ _ _ _ _=>rfl;have Hv:=BP.F.kK (ps:=["n","thing"]) rfl fun _ _ _ _ _ _ _ _=>rfl;have Hy:=BQ.F.kK (ps:=["n","thing"]) rfl fun _ _ _ _ _ _ _ _=>rfl;have Hz:=BR.F.cV (ps:=["things"]) rfl fun _ _ _ _ _ _ _=>rfl;have Hw:=BS.F.cV (ps:=["k"]) rfl fun _ _ _ _ _ _ _=>rfl;have Bd:=tR.F.iW (ps:=["groups","a","b"]) rfl fun _ _ _ _ _ _ _ _ _=>rfl;have Be:=tS.F.iW (ps:=["layers","a","b"]) rfl fun _ _ _ _ _ _ _ _ _=>rfl;have Bf:=tT.F.iW (ps:=["n","record","k"]) rfl fun _ _ _ _ _ _ _ _ _=>rfl;have Bg:=tU.F.kK (ps:=["n","thing"]) rfl fun _ _ _ _ _ _ _ _=>rfl;have qj:=tW.F.cV (ps:=["thing"]) rfl fun _ _ _ _ _ _ _=>rfl;have wZ:=tZ.F.cV (ps:=["thing"]) rfl fun _ _ _ _ _ _ _=>rfl;have Bj:=t7.F.cV (ps:=["record"]) rfl fun _ _ _ _ _ _ _=>rfl;have xo:=t8.F.cV (ps:=["net"]) rfl fun _ _ _ _ _ _ _=>rfl;have kq:=t9.F.cV (ps:=["word"]) rfl fun _ _ _ _ _ _ _=>rfl;have Bk:=t_.F.cV (ps:=["word"]) rfl fun _ _ _ _ _ _ _=>rfl;have w6:=ua.F.cV (ps:=["text"]) rfl fun _ _ _ _ _ _ _=>rfl;have xh:=uc.F.cV (ps:=["text"]) rfl fun _ _ _ _ _ _ _=>rfl;have Bm:=ud.F.kK (ps:=["cell","k"]) rfl fun _ _ _ _ _ _ _ _=>rfl;have Bt:=ue.F.iW (ps:=["cell","many","base"]) rfl fun _ _ _ _ _ _ _ _ _=>rfl;have Bo:=uf.F.uS (ps:=["n","kind","one","other"]) rfl fun _ _ _ _ _ _ _ _ _ _=>rfl;have Bu:=ug.F.kK (ps:=["numbers","most"]) rfl fun _ _ _ _ _ _ _ _=>rfl;have Bv:=uh.F.cV (ps:=["number"]) rfl fun _ _ _ _ _ _ _=>rfl;have Bp:=um.F.uS (ps:=["n","ties","a","b"]) rfl fun _ _ _ _ _ _ _ _ _ _=>rfl;have xm:=uo.F.iW (ps:=["n","record","k"]) rfl fun _ _ _ _ _ _ _ _ _=>rfl;have tO:=uq.F.cV (ps:=["record"]) rfl fun _ _ _ _ _ _ _=>rfl;have tP:=ur.F.cV (ps:=["text"]) rfl fun _ _ _ _ _ _ _=>rfl;have xq:=uu.F.iW (ps:=["n","k","ties"]) rfl fun _ _ _ _ _ _ _ _ _=>rfl;have Bw:=uv.F.uS (ps:=["n","k","ties","number"]) rfl fun _ _ _ _ _ _ _ _ _ _=>rfl;have Bx:=uw.F.GO (ps:=["n","k","ties","record","number"]) rfl fun _ _ _ _ _ _ _ _ _ _ _=>rfl;have By:=ux.F.cV (ps:=["thing"]) rfl fun _ _ _ _ _ _ _=>rfl;refine⟨_,fun s v=>qk.LO (fun _ _ _ _ _ _ _=>rfl) s v,fun base Xb _=>?_⟩;have T:Txt mg K base ..:=⟨mgo X G rE,mgo X G jI,mgo X G mq,mgo X G jJ,mgo X G ku,mgo X G pq,mgo X G jK,sj Xb (mgo X G ku) gv,⟨⟨g9,g_,h_,ic,ig⟩,ir⟩,sj Xb (mgo X G mq) iu,⟨⟨jL,jM,jN,jO,jP⟩,jQ⟩,cY,cQ,⟨eK,eL,eN,dw⟩,⟨eK,eL,eN,di⟩,eE,dY,dZ,dJ,aS,aM,aN,aK,mno X G gq,mno X G BU,mno X G vE,mno X G g7,mno X G BV,mno X G gu,mno X G BW,mno X G vF,mno X G BX,mno X G BY,mno X G rC,mno X G jH,mno X G BZ,mno X G rD,mno X G B0,⟨_,mgo X G kZ⟩,⟨_,mgo X G fD⟩,⟨_,mgo X G g8⟩,⟨_,mgo X G fE⟩,BI.m X G,BJ.m X G,BK.m X G,BL.m X G,BN.m X G,BO.m X G,BP.m X G,BQ.m X G,BR.m X G,BS.m X G,tR.m X G,tS.m X G,tT.m X G,tU.m X G,tW.m X G,tZ.m X G,t7.m X G,t8.m X G,t9.m X G,t_.m X G,ua.m X G,uc.m X G,ud.m X G,ue.m X G,uf.m X G,ug.m X G,uh.m X G,um.m X G,uo.m X G,uq.m X G,ur.m X G,uu.m X G,uv.m X G,uw.m X G,ux.m X G,qk.m X G,BI.F,Hq,BJ.F,yL,BK.F,BL.F,BN.F,BO.F,DU,Hu,BP.F,Hv,BQ.F,BR.F,DV,BS.F,tR.F,tS.F,Hw,Bd,Be,tT.F,Hx,Hy,Hz,tU.F,Bf,Bg,tW.F,qj,tZ.F,t7.F,wZ,Bj,t8.F,t9.F,kq,t_.F,Bk,ua.F,w6,uc.F,ud.F,Bm,ue.F,uf.F,Bo,ug.F,uh.F,um.F,Bp,uo.F,uq.F,xh,ur.F,xm,uu.F,tO,uv.F,uw.F,xo,ux.F,Bt,Bu,Bv,tP,xq,Bw,Bx,By,qk.F⟩
 exact Ie T
theorem walk{bG b7:Nat}{l:Pq}{q:Program}{loose:List Str}{XP:(Str->Option Value)->Heap->Prop}{YP:World->Heap->Prop}{d:DefRec}{K:Params->Mv}(hn:l.most=some 63)(hdf:d.params.defaults=[])
  (hY:∀(w:World) (h:Heap),YP w h->(K w.params).In h) (M:∀ns:List Int,ns.length<=63->nv bG b7 [.lst (ns.map Dat.int)]=some (.val (.bl true))) (hK:∀w:World,zP (K w.params)=true)
  (F:∀ (w:World) (mg:Str→Option Value) (fa:Addr) (h:Heap),(K w.params).In h→h.Ns mainGlobals mg→mg d.name=some (.ref fa) →
   ∃fd:FuncData,(∀(s:Shared) (u:Value),BindsTo s fd ⟨[u],[]⟩ [("script",u)])/\∀base:Heap,(K w.params).In base->base.Ns mainGlobals mg->bW l.prog w (K w.params) mg base CX0 11 fa fd ["script"] (spD (nv bG b7))) :
  PySem.W.WalkO q loose XP YP l.row.toRowW d [] (fun f vs=>PySem.call f vs):=
 L2.Ck (n:=63) (k:=11) (x := "script") (CX:=fun _=>CX0) (sp:=fun _=>spD (nv bG b7)) hn (by decide) hdf ⟨rfl,by decide,by decide,rfl⟩ hY F
  (fun w H a ns hl hO hS=>GB (M ns hl) (hK w) hS) fun _ _ _ _ _ z=>z
open PySem PySem.W PySem.W.X
theorem B3{q:Program}{loose:List Str}{XP:(Str->Option Value)->Heap->Prop}{r:RowW}{d:DefRec}{kwd:List (Str×Expr)}{run:Value->List Value->Sem Value}{K:Params->Frag}{as:List Addr}{n t:Nat}(e:∀P,as=(K P).map (·.1))
  (W:WalkO q loose XP (fun w h=>(K w.params).In h) r d kwd run):WalkX q loose XP (obsZ as) (valZ K n t) r d kwd run:=
 fun w s₀ s₁ mg mb G y a o pm cd doc dV kV ho hd Rv hD hmg hg args vals as' L=>W w s₀ s₁ mg mb G (InK.keeps w _ _ (z_facts e y).2.1 L.keeps) a o pm cd doc dV kV ho hd Rv hD hmg hg args vals as'
end Q
noncomputable def PySem.W.Fast.tw8192705478273537799:PySem.Program:=PySem.Challenge.pw_sinceply_k57_nets_misread
theorem PySem.W.Fast.te8192705478273537799:PySem.Challenge.pw_sinceply_k57_nets_misread=PySem.W.Fast.tw8192705478273537799:=rfl
namespace PySem.W.Fast
def tw15720102407315146614:=0
def tw18375548044287999078:=0
def tw7675536651079147238:=0
def tw4817378109263945291:=0
def tw15854534713697961522:=0
def tw7216437379106446025:=0
def tw1407295399511934525:=0
def tw10409210142089048062:=0
def tw6828963957132520529:=0
def tw7305969223253764341:=0
def tw3886239749095885559:=0
def tw8863257415485029409:=0
def tw13366014649068823983:=0
def tw4428142916677215740:=0
def tw14878692825853176438:=0
def tw5207281066772461140:=0
def tw6757026340867874022:=0
def tw7736881891856903270:=0
def tw12219560849950727342:=0
def tw6035284580776151849:=0
def tw13763326982484971783:=0
def tw15238112312464324154:=0
def tw17144506046413404062:=0
def tw6598316121640019226:=0
def tw8045472255335003327:=0
def tw7210124916577557824:=0
def tw9350988332715133779:=0
def tw16211190677199886320:=0
def tw11732567313846855376:=0
def tw2280731610068416211:=0
def tw5568778256491088633:=0
def tw18438181606750711513:=0
def tw1626690029724318968:=0
def tw4109723209552700952:=0
def tw9243494210733698003:=0
def tw15488291829299703580:=0
def tw7445209092041760497:=0
def tw10758171414515950885:=0
def tw7226061307985812801:=0
def tw17291698838453216798:=0
def tw311112263454461799:=0
def tw16911528743274614645:=0
def tw8957394980857690231:=0
def tw11884960043988192069:=0
def tw11010546535692807775:=0
def tw1161877660703342701:=0
def tw2669190844268456649:=0
def tw2771900861380133692:=0
def tw7373380221507772232:=0
def tw11851425055150821009:=0
def tw5923883538506653070:=0
def tw12250743894016791266:=0
def tw1333090605651563465:=0
def tw10128808041239496018:=0
def tw12411808926240403510:=0
def tw7790266707544693090:=0
def tw7924803922117593026:=0
def tw17195635876140933462:=0
def tw16649251941096738864:=0
def tw17291933099618915215:=0
def tw8365400603455045741:=0
def tw17627169377317200438:=0
def tw11622567106543028335:=0
def tw11686363201374278488:=0
def tw5054889810597811220:=0
def tw11974274326785374825:=0
def tw18198969749755970839:=0
def tw867081577034172885:=0
def tw17929010513902118192:=0
def tw14651849848035412227:=0
def tw17132145993492737626:=0
def tw5067421946819340211:=0
def tw16970860868242124019:=0
def tw387253145867186852:=0
def tw17917078984962970346:=0
def tw3712997202157910008:=0
def tw7047539765221390709:=0
def tw15732630803365151322:=0
def tw8091941972367074900:=0
def tw13011190459641452218:=0
def tw7054622073329008559:=0
def tw8510777747911963625:=0
def tw16898545339010865094:=0
def tw2049535918031727954:=0
def tw11265560880577613609:=0
def tw16379239770140973390:=0
def tw503263588834113720:=0
def tw18393168755500029658:=0
def tw1335816414545397113:=0
def tw8420327775652707490:=0
def tw2537602352202917097:=0
def tw8359533663908158134:=0
def tw11342626281588302565:=0
def tw5345408092876856461:=0
def tw13491243428129063281:=0
def tw4991962344913584086:=0
def tw15064146531780832437:=0
def tw13618802813236348236:=0
def tw9884170869612768495:=0
def tw12883766117084933643:=0
def tw15179979570745257987:=0
def tw1642314952052251517:=0
def tw16458362838337129626:=0
def tw11702429611026820433:=0
def tw2141084784955755252:=0
def tw310894032974354975:=0
def tw6586276808532095294:=0
def tw11826708181884782111:=0
def tw13351140069416855134:=0
def tw7375398928432198399:=0
def tw16490841098300442179:=0
def tw14066116538629401568:=0
def tw10376489229818446027:=0
def tw9306419257608180336:=0
def tw11410208344667914986:=0
def tw3665316496283253645:=0
def tw15670186259596056666:=0
def tw4878736233986151128:=0
def tw10042552445900609382:=0
def tw7989246394686836230:=0
def tw13622992244206319021:=0
def tw4665347666309978518:=0
def tw6875059572481417538:=0
def tw54573903164441825:=0
def tw3179394162809669540:=0
def tw7170879519188948277:=0
def tw1691945386891365531:=0
def tw18348469862575118783:=0
def tw5064164684649390527:=0
def tw5069199030677277781:=0
def tw12274417895463914279:=0
def tw3230140927600613249:=0
def tw3861127936889789731:=0
def tw3973614042864830731:=0
def tw686189620317786941:=0
def tw6391021946716808545:=0
def tw4569308039880488809:=0
def tw5786243155148381114:=0
def tw9387809819445314816:=0
def tw4043172503606701771:=0
def tw5341135827179551988:=0
def tw16767782815612516799:=0
def tw1869251258389647078:=0
def tw17035385431770765815:=0
def tw9300948656589423495:=0
def tw644492226003542507:=0
def tw14197864848873150020:=0
def tw12493895976432018168:=0
def tw14110173213286503571:=0
def tw4784074592980045685:=0
def tw14363740041073003856:=0
def tw13315829461111310759:=0
def tw8841792880138195473:=0
def tw11210798159267291581:=0
def tw14145441416257599615:=0
def tw4407899339341040006:=0
def tw11790128295749471120:=0
def tw9094965005287185961:=0
def tw3284430473258928393:=0
def tw5662910591224953273:=0
def tw7175688646379254110:=0
def tw9034087063049500782:=0
def tw4753485326529085204:=0
def tw5084338791951771454:=0
def tw17786259755709671629:=0
def tw3355949536725065007:=0
def tw16637214305140529651:=0
def tw2246563590176657911:=0
def tw9876708916937303251:=0
def tw3016334737178491503:=0
def tw10500599394450003463:=0
def tw698514085417446152:=0
def tw7246406504461184051:=0
def tw16388322792555405402:=0
def tw1695198019107654645:=0
def tw1328514527278362259:=0
def tw2635929538026315827:=0
def tw11795023087514189931:=0
def tw2420496403992913357:=0
def tw16558022544459963785:=0
def tw13939043579214812979:=0
def tw17759692199258630579:=0
def tw2061831336751599387:=0
def tw18176031779990934911:=0
def tw869481582272406814:=0
def tw8920250060679734092:=0
def tw597147783817854710:=0
def tw5894560801770314296:=0
def tw15003325384720217844:=0
def tw16709480485676974935:=0
def tw13168435518935861987:=0
def tw16407840077339106283:=0
def tw1213790685442355991:=0
def tw16941316522566972790:=0
def tw15943931502464577681:=0
def tw12775792238780153509:=0
def tw7919344202459734667:=0
def tw10426094137914131330:=0
def tw2186601068632331610:=0
def tw5039960681394915024:=0
def tw7885893677626726566:=0
def tw9423975124920806663:=0
def tw8607221458230455374:=0
def tw8047370628962527199:=0
def tw7262133726998682350:=0
def tw4438931574674655411:=0
def tw2252274587430446637:=0
def tw15882982177703816400:=0
def tw934515297071298600:=0
def tw15827829231760593767:=0
def tw3808975751768931189:=0
def tw12282853156615592492:=0
def tw17534344412922160191:=0
def tw1070637536370337856:=0
def tw14030600686881299519:=0
def tw6135609737823108133:=0
def tw2780452596731452954:=0
def tw13245332678718563693:=0
def tw2143396901569531736:=0
def tw15967964941158473901:=0
def tw11960484779929702215:=0
def tw6620237753404601156:=0
def tw2387277310953256983:=0
def tw6024398956187653174:=0
def tw1642148653065917183:=0
def tw9149007928129273555:=0
def tw17369246003850070309:=0
def tw10444697450144188879:=0
def tw11282977253564876996:=0
def tw7353441289569465055:=0
def tw5081075984506463306:=0
def tw13595785818413768938:=0
def tw10745417279988914651:=0
def tw10711657308141553268:=0
def tw15731879286082778577:=0
def tw6051263036874650000:=0
def tw12299748362413173431:=0
def tw7841441018213472153:=0
def tw2344435533790708251:=0
def tw16631748788580548030:=0
def tw16920704589498858446:=0
def tw12722986292924539364:=0
def tw4187360703239088728:=0
def tw14325132223572232553:=0
def tw12342266066606451600:=0
def tw15086059875776531379:=0
def tw3341368263394563159:=0
def tw10388370776230804279:=0
def tw14892695444394245747:=0
def tw12874578568755492271:=0
def tw17088807052709304051:=0
def tw11796833803092623568:=0
def tw1046521017302944924:=0
def tw8777800016780681988:=0
def tw15336589719969367276:=0
def tw10705532670407353120:=0
def tw8019795897988142536:=0
def tw5598465711531679118:=0
def tw15638228718931280371:=0
def tw11252599855348861466:=0
def tw10769941217788586637:=0
def tw17941303191079453245:=0
def tw115518327012656044:=0
def tw3388395247476388836:=0
def tw6272236597906080459:=0
def tw9558892628455274984:=0
def tw13594863992807983043:=0
def tw14198236929459764995:=0
def tw16883232288468561270:=0
def tw9828149208051948412:=0
def tw6566916770317501632:=0
def tw1993204761149976724:=0
def tw2918920790988675069:=0
def tw8178499402677569947:=0
def tw12159344147209766016:=0
def tw13195582754398984764:=0
def tw9102171764151461595:=0
def tw1544460927927136709:=0
def tw16558897148671460618:=0
def tw3698407276754679842:=0
def tw7366842075522840761:=0
def tw10705707925377268285:=0
def tw13085123976872167514:=0
def tw17087430490089802363:=0
def tw13464034474572157657:=0
def tw8233305315505427955:=0
def tw17006080343957335769:=0
def tw579541508215907296:=0
def tw1089027735827824949:=0
def tw14188438340217543517:=0
def tw156840098470936461:=0
def tw11838848404876816878:=0
def tw13762641924507672941:=0
def tw6950382413813415820:=0
def tw16398514331473402510:=0
def tw10542763237041475817:=0
def tw4307392757671690610:=0
def tw9399374125464997111:=0
def tw15487890580299099509:=0
def tw16209119137534376339:=0
def tw2591869877805744014:=0
def tw3629014841179236203:=0
def tw15193555628767817967:=0
def tw12016905414877096104:=0
def tw15043336672130105228:=0
def tw18116360955151948385:=0
def tw826663442444944982:=0
def tw6943954999568436948:=0
def tw6447955402079360019:=0
def tw12311488487772055707:=0
def tw3239938813240491321:=0
def tw11937546185819274711:=0
def tw15789101684593053695:=0
def tw16579888291155258445:=0
def tw12556466410833302453:=0
def tw15273573046986727391:=0
def tw944648819520392360:=0
def tw16095278007581735868:=0
def tw10762560734734202018:=0
def tw16697307927686822292:=0
def tw6572422131064312260:=0
def tw7223012636074193895:=0
def tw1160048153774310869:=0
end PySem.W.Fast
open PySem PySem.W PyProof.Rows
set_option maxRecDepth 100000 in
set_option maxHeartbeats 0 in
theorem PySem.Challenge.cw_sinceply_k57_nets_misread_holds : PySem.Challenge.rw_sinceply_k57_nets_misread.Holds := by
 w_on;o_law;z_head;(case hw=>w_witness2)
 k_fill
 refine' Q.B3 (fun _=>rfl) (Q.walk (l:=PySem.Challenge.rw_sinceply_k57_nets_misread) rfl rfl (fun w h Y=>Y) (P.math _ _ ?ne) ?noL ?fnS)
 case noL=>intro w;rfl
 case fnS=>
  intro w mg fa h KX G hmg
  refine' Q.all_mk KX G hmg ?BI ?BJ ?BK ?BL ?BN ?BO ?BP ?BQ ?BR ?BS ?tR ?tS ?tT ?tU ?tW ?tZ ?t7 ?t8 ?t9 ?t_ ?ua ?uc ?ud ?ue ?uf ?ug ?uh ?um ?uo ?uq ?ur ?uu ?uv ?uw ?ux ?qk ?gq ?BU ?vE ?g7 ?BV ?gu ?BW ?vF ?BX ?BY ?rC ?jH ?BZ ?rD ?B0 ?kZ ?fD ?g8 ?fE ?rE ?jI ?mq ?jJ ?ku ?pq ?jK ?gv ?g9 ?g_ ?h_ ?ic ?ig ?ir ?iu ?jL ?jM ?jN ?jO ?jP ?jQ ?cY ?cQ ?eK ?eL ?eN ?dw ?di ?eE ?dY ?dZ ?dJ ?aS ?aM ?aN ?aK
  case BI|BJ|BK|BL|BN|BO|BP|BQ|BR|BS|tR|tS|tT|tU|tW|tZ|t7|t8|t9|t_|ua|uc|ud|ue|uf|ug|uh|um|uo|uq|ur|uu|uv|uw|ux|qk=>refine' Br.bu ?e ?l ?c ?k;(case e=>k_is);(case l=>k_is);(case c=>k_is);(case k=>k_is)
  case gq|BU|vE|g7|BV|gu|BW|vF|BX|BY|rC|jH|BZ|rD|B0|kZ|fD|g8|fE|rE|jI|mq|jJ|ku|pq|jK=>k_is
  case gv|g9|g_|h_|ic|ig|ir|iu|jL|jM|jN|jO|jP|jQ|cY|cQ|eK|eL|eN|dw|di|eE|dY|dZ|dJ|aS|aM|aN|aK=>first | k_is | kit_is | kernel_rfl
 case ne=>decide
end
