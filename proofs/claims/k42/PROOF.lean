import PyProof.Rows.All
import Wide.All
import OpenK.AllK
import Wide.FinOn
import Lean
import PyProof.EqAt
import PyProof.EqKinds
import PyProof.TupleCall
import KE.KRevIter
import PyProof.EnumMake
import PyProof.EnumFor
import PyProof.ListRange
import PyProof.Rows.Range3
import PyProof.ZipIter
import PyProof.SumWalk
import PyProof.WalksMore
import PyProof.Rows.SetFrom
import PyProof.SetRoads
import PyProof.Rows.SortRunsK
import PyProof.Rows.SortWalk
import KE.KSortTup
import PyProof.Rows.Own
import PyProof.StationsW
import OpenK.KRaise
import KE.KIsAll
import PyProof.ExcArgsOwn
import PyProof.RulesAs
import PyProof.Ns1
import PyProof.Rows.Catch
import OpenK.KOwn
import PyProof.ExcBaseAll.ValueError
import KE.KDictSum
import PyProof.AttrMiss
import PyProof.IsiH_list
import KE.KDictOf
import PyProof.DictList
import KE.KDictList
import PyProof.FactsAll.set
import PyProof.Rows.TupAdd
import KE.KDictMeth
import PyProof.DictWalks
import PyProof.TupleKey
import PyProof.DictStraight
import PyProof.IsRules
import KE.KRevSl
import PyProof.Rows.CallKwBuiltin
import PyProof.Rows.SortShell
import KE.KSortKey
import KE.KLam
import KE.KNestM
import PyProof.CallStr
import OpenK.KMake
import PyProof.ExcClass2
import PyProof.InstStoreFacts
import OpenK.KCls
import PyProof.DictRoadsH
import PyProof.DictUpdate
import PyProof.DictCopy
import PyProof.MeetsDictList
import PyProof.FactsAll.tuple_1
import PyProof.TupleOfSeq
import KE.KSortAsk
import PySem.Challenge.RW_sinceply_k42_layers_refused
open Array renaming length_toList→abi,getElem?_toList→aby,getElem?_eq_getElem→abE,find?_toList→acp
open Bool renaming and_eq_true→aau,false_ne_true→aaz,false_eq_true→aaU,eq_iff_iff→aci,eq_false_iff→acD,not_eq_true'→acE
open Decidable renaming byContradiction→abF
open False renaming elim→aat
open ForInStep renaming yield→abr
open Int renaming le_refl→abX,toNat_natCast→ab8,add_mul→acQ
open List renaming map_cons→gc,getElem?_set_ne→gV,replicate→Dp,mem_cons_of_mem→Ds,length_map→Pa,mem_cons_self→PU,getElem?_append_left→aae,getElem?_eq_some_iff→aag,mem_cons→aah,size_toArray→aai,map_append→aaj,mem_map→aak,nodup_cons→aal,length_append→aan,getElem?_map→aao,getElem?_set_self→aap,getElem?_eq_none→aaq,range→aas,getElem?_append_right→aav,mem_append→aay,mem_append_left→aaA,length_set→aaC,mem_append_right→aaG,getElem?_eq_getElem→aaI,getElem?_replicate→aaK,mem_singleton→aaL,length_range→aaM,map_map→aaN,mem_filter→aaO,append_nil→aaP,length_cons→aaR,filter_cons_of_neg→aaS,filter_cons_of_pos→aaT,mem_range→aaV,lookup_cons→aaX,find?_cons→aa0,all_eq_true→aa1,nodup_append→aa3,flatten_cons→aa5,length_take→aa7,getElem?_range→abb,any_cons→abc,map_id→abd,mem_of_getElem?→abe,ext_getElem?→abg,replicate_succ→abj,getD_eq_getElem?_getD→abm,not_mem_nil→abn,length_singleton→abp,append_assoc→abt,getElem?_cons_succ→abu,map_congr_left→abv,map_nil→abw,length_replicate→abx,length_filter_le→abz,getElem?_set→abB,drop_eq_getElem_cons→abD,getElem?_take_of_lt→abG,filter_eq_self→abJ,filter_sublist→abK,mem_filterMap→abN,nil_append→abO,pairwise_cons→abP,cons_append→abW,flatten_append→abZ,getElem?_cons_zero→ab7,drop_length→ab9,flatten_nil→acd,set_append_right→acg,filterMap_append→ach,filterMap_cons→ack,map_inj_right→acr,find?_eq_none→acs,Pairwise→acu,pairwise_map→acF,getElem_mem→acI,of_mem_zip→acO,range'→acR,all_cons→acU,set_set→acW,Sublist→acX,foldl→ac2
open Nat renaming le_of_ble_eq_true→aaa,le_refl→aab,lt_of_lt_of_le→aam,ne_of_lt→aax,le_trans→aaE,zero_le→aaY,lt_irrefl→aaZ,not_lt→abV,ne_of_gt→ab2,lt_succ_of_lt→acC,le_of_lt→acH
open Option renaming isSome_iff_exists→aaH,isSome_map→aba,isSome_some→ab4
open PyProof.Rows renaming OwnCls→aa2,callWith_type1→abh,slot_tuple_getitem→abL,boot_isinstance→abT
open PySem.Builtin.Dict renaming showsAll→acf
open PySem.Builtin.List renaming listTooLong→abI
open PySem.Builtin.Slice renaming slicePlaces→abC,sliceAdjust→ab0
open PySem.Builtin.Tuple renaming tupleExact→abH,tupleHashOf→ab1
open PySem.Calls renaming callWith_builtin→abQ,spliced_nil→abR,evalArgs_plain→abU,spliced_cons→ab3
open PySem.Data renaming cell→acN,fields→acY
open PySem.F renaming slot_dict_keyiterator_next→abf,plainAttrs_list→abM,slot_dict_pop→abS,plainAttrs_dict→ab6,slot_dict_get→ace,slot_dict_iter→acJ
open PySem.Heap renaming get?_push_of_some→aac,lt_size→aad,get?_push_size→aaJ,get?_update_self→abo,SameBut→abq
open PySem.Heap.SameBut renaming update→abk
open PySem.NameKind renaming cell→acT
open PySem.Obj renaming dropNameByArray→abY,dropName_eq→acj,mapSeq→acG
open PySem.PassesOwn renaming never→aaw
open PySem.PyData renaming eqv→aa8,depthAll→abA,eqvAll→acv,canLayAll0→acB
open PySem.Str renaming ofString→acV
open PySem.Value renaming ref→aaB,int→aco,builtin→acw,str→acK,isStr→acZ,bool→ac0,type→ac1
open PySem.W renaming kitOne→eg,Frag→Dk,findIn→aaf,nsIn→aar,mroIn→aaD,fnOf→aaQ,keepIn→aaW,kia_one→aa4,clsIn→aa6,excIn→aa9,codeIn→ab5,typeIn→acn,callWith_K→acq,methodObj→acy,hasDictIn→acz,specialIn→acA,instObj→acL,hideAll→acM,OpenLaw→acP,lookIn→acS
open Sum renaming inl→aaF,inr→acm
open True renaming intro→abl
noncomputable section
set_option Elab.async false
set_option linter.all false

set_option maxRecDepth 100000
local macro_rules|`(tactic|trivial)=>`(tactic|first|exact Or.inl rfl|exact Or.inr rfl|exact Or.inr (Or.inl rfl)|exact Or.inr (Or.inr rfl)|assumption)
local macro_rules|`(tactic|and_intros)=>`(tactic|dsimp only[List.map,List.replicate,List.cons_append,List.nil_append])
namespace L2
open PySem PySem.Spec PyProof.Rows
section
variable{a b:Addr}{H:Hp}{o:HO}
noncomputable abbrev Key:=Sum Int Str
noncomputable def B4:Key->Value->Bool
 |.inl k,v=>Value.isInt k v
 |.inr x,v=>Value.isStrOf x v
noncomputable def Y8(w:World):Key->Int
 |.inl k=>hashInt k
 |.inr x=>hashStr w x
theorem cK:∀{k:Key} {v:Value},B4 k v=true->(∃i t,k=aaF i/\v=aco i t)\/(∃x t,k=acm x/\v=acK x t)
 |.inl i,v,h=>by obtain⟨t,e⟩:=Value.isInt_shape (k:=i) (v:=v) h;exact .inl ⟨i,t,rfl,e⟩
 |.inr x,v,h=>by obtain⟨t,e⟩:=Value.isStrOf_shape (x:=x) (v:=v) h;exact .inr ⟨x,t,rfl,e⟩
theorem JO(i:Int)(t:Tok):B4 (.inl i) (.int i t)=true:=by simp[B4,Value.isInt]
theorem JP(x:Str)(t:Tok):B4 (.inr x) (.str x t)=true:=by simp[B4,Value.isStrOf]
theorem S4(a b:Int):decide ((aaF a:Key)=aaF b)=(a == b):=by
 by_cases e:a=b
 ·subst e;simp
 ·have h:¬(aaF a:Key)=aaF b:=fun q=>e (Sum.inl.inj q);rw[decide_eq_false h];exact(beq_eq_false_iff_ne.mpr e).symm
theorem S5(a b:Str):decide ((acm a:Key)=acm b)=decide (a=b):=by
 by_cases e:a=b
 ·subst e;simp
 ·have h:¬(acm a:Key)=acm b:=fun q=>e (acm.inj q);rw[decide_eq_false h,decide_eq_false e]
theorem S6(a:Int)(b:Str):decide ((aaF a:Key)=acm b)=false:=decide_eq_false (fun q=>nomatch q)
theorem S7(a:Str)(b:Int):decide ((acm a:Key)=aaF b)=false:=decide_eq_false (fun q=>nomatch q)
noncomputable def bB(prog:Program)(w:World):PySem.KeyKind prog w Key where
 is:=B4
 hash:=Y8 w
 inj:=fun v a b ha hb=>by
  rcases cK ha with⟨i,t,rfl,rfl⟩ | ⟨x,t,rfl,rfl⟩
  ·rcases cK hb with⟨j,u,rfl,e⟩ | ⟨y,u,rfl,e⟩
   ·injection e with e1 _;rw[e1]
   ·exact nomatch e
  ·rcases cK hb with⟨j,u,rfl,e⟩ | ⟨y,u,rfl,e⟩
   ·exact nomatch e
   ·injection e with e1 _;rw[e1]
 byValue:=fun k v h=>by rcases cK h with⟨i,t,rfl,rfl⟩ | ⟨x,t,rfl,rfl⟩<;>rfl
 pyHash:=fun hv h=>by
  rcases cK hv with⟨i,t,rfl,rfl⟩ | ⟨x,t,rfl,rfl⟩
  ·exact wpAny_pyHash_int h
  ·exact wpAny_pyHash_str h
 eqBool:=fun hu hv h=>by
  rcases cK hu with⟨i,t,rfl,rfl⟩ | ⟨x,t,rfl,rfl⟩
  ·rcases cK hv with⟨j,u,rfl,rfl⟩ | ⟨y,u,rfl,rfl⟩
   ·rw[S4]at h;exact wpAny_eqBool_int h
   ·rw[S6]at h;exact SeqAt.EqAt.int_str i t y u _ _ _ _ h
  ·rcases cK hv with⟨j,u,rfl,rfl⟩ | ⟨y,u,rfl,rfl⟩
   ·rw[S7]at h;exact SeqAt.EqAt.str_int x t j u _ _ _ _ h
   ·rw[S5]at h;exact wpAny_eqBool_str h
 «strs»:=fun k x t v h=>by
  rcases cK h with⟨i,u,rfl,e⟩ | ⟨y,u,rfl,e⟩
  ·exact nomatch e
  ·injection e with e1 _
   subst e1;cases v<;>rfl
theorem Ea(prog:Program)(w:World)(i:Int)(t:Tok):(bB prog w).is (.inl i) (.int i t)=true:=JO i t
theorem Eb(prog:Program)(w:World)(x:Str)(t:Tok):(bB prog w).is (.inr x) (.str x t)=true:=JP x t
inductive V where
 |non | bl (b:Bool) | int (i:Int) | str (x:Str) | byt (b:Array UInt8) | flt (b:UInt64) | ref (a:Addr) | ty (n:String)
 deriving DecidableEq
def RelV:V->Value->Prop
 |.non,u=>u=Value.none
 |.bl b,u=>u=ac0 b
 |.int i,u=>∃t,u=aco i t
 |.str x,u=>∃t,u=acK x t
 |.byt b,u=>∃t,u=Value.bytes b t
 |.flt b,u=>∃t,u=Value.float b t
 |.ref a,u=>u=aaB a
 |.ty n,u=>u=ac1 n
noncomputable abbrev Vals:List V->List Value->Prop:=Paired RelV
theorem Vals.length{xs:List V}{us:List Value}(r:Vals xs us):xs.length=us.length:=Paired.length r
theorem Vals.get:∀{xs:List V} {us:List Value} {i:Nat} {x:V},Vals xs us->xs[i]?=some x->∃u,us[i]?=some u/\RelV x u
 |_,_,_,_,.nil,e=>by simp at e
 |_,_,0,_,.cons r _,e=>by simp at e;subst e;exact⟨_,rfl,r⟩
 |_,_,i+1,x,.cons _ t,e=>by obtain⟨u,h1,h2⟩:=Vals.get (i:=i) (x:=x) t (by simpa using e);exact⟨u,by simpa using h1,h2⟩
theorem Vals.set{x:V}{u:Value}(r:RelV x u):∀{xs:List V} {us:List Value} (i:Nat),Vals xs us->Vals (xs.set i x) (us.set i u)
 |_,_,_,.nil=>.nil
 |_,_,0,.cons _ t=>.cons r t
 |_,_,i+1,.cons q t=>.cons q (Vals.set r i t)
theorem Vals.append:∀{xs ys:List V} {us ws:List Value},Vals xs us->Vals ys ws->Vals (xs++ys) (us++ws)
 |_,_,_,_,.nil,s=>s
 |_,_,_,_,.cons r t,s=>.cons r (Vals.append t s)
theorem Vals.take:∀{xs:List V} {us:List Value} (n:Nat),Vals xs us->Vals (xs.take n) (us.take n)
 |_,_,0,_=>.nil
 |_,_,_+1,.nil=>.nil
 |_,_,n+1,.cons r t=>.cons r (Vals.take n t)
theorem Vals.drop:∀{xs:List V} {us:List Value} (n:Nat),Vals xs us->Vals (xs.drop n) (us.drop n)
 |_,_,0,r=>r
 |_,_,_+1,.nil=>.nil
 |_,_,n+1,.cons _ t=>Vals.drop n t
def rz:Option V->Option Value->Prop
 |some v,some u=>RelV v u
 |none,none=>True
 |_,_=>False
def KV{κ:Type}:List (κ×V)->List (κ×Value)->Prop:=Paired fun(p:κ×V) (q:κ×Value)=>p.1=q.1/\RelV p.2 q.2
noncomputable def kV:Key->V
 |.inl i=>.int i
 |.inr x=>.str x
inductive HO where
 |lst (xs:List V)
 |tup (xs:List V)
 |dK (kvs:List (Key×V)) | dT (kvs:List (List Key×V)) (ts:List Addr)
 |set (S:Int->Bool) (n:Nat)
 |ins (C dx:Addr) (fs:List (Str×V))
 |own (x:Addr)
 |xd (fs:List (Str×V))
 |met (f x:Addr)
 |rng (lo hi:Int)
 |frz (o:Obj) (u:HO)
 |tbl (ln cl:Value) (q:Str)
 |ext (φ:Heap->Prop)
noncomputable abbrev Hp:=Addr->Option HO
noncomputable def upd(H:Hp)(a:Addr)(o:HO):Hp:=fun b=>if b=a then some o else H b
theorem aQ{a:Addr}:upd H a o a=some o:=by unfold upd;rw[if_pos rfl]
theorem aM(h:b≠a):upd H a o b=H b:=by unfold upd;rw[if_neg h]
theorem Rw{o u:HO}(h:H a=some o)(h':H b=some u)(d:o≠u):a≠b:=by intro e;subst e;rw[h]at h';exact d (Option.some.inj h')
theorem bC(h:H a=some o)(h':H b=none):a≠b:=by intro e;subst e;rw[h]at h';cases h'
end
section
variable(P:Program)(w:World)
def bR(H:Hp)(h:Heap)(a:Addr):HO->Prop
 |.lst xs=>xs.length<=sizeLine/\∃(its:List Value) (n:Nat),Vals xs its/\h.get? a=some { cls:=.type "list",data:=.seq its.toArray n }
 |.tup xs=>xs.length<=sizeLine/\∃its:List Value,Vals xs its/\IsTup h a its.toArray
 |.dK kvs=>kvs.length<=sizeLine/\(a == sysModules)=false/\∃vs,KV kvs vs/\h.DictOf (bB P w) a vs
 |.dT kvs ts=>kvs.length<=sizeLine/\(a == sysModules)=false/\∃xs:List (List Key×Addr×Value),
   Paired (fun(p:List Key×V) (q:List Key×Addr×Value)=>p.1=q.1/\H q.2.1=some (.tup (p.1.map kV))/\RelV p.2 q.2.2) kvs xs /\
   ∃o es ep,h.get? a=some o/\o.ExactDict/\o.data=.dict es ep/\es.toList=xs.map (entryOfKey (tupleKind (bB P w)))/\(xs.map (·.1)).Nodup/\xs.map (·.2.1)=ts
 |.set S n=>h.SetOf (intKind P w) a S n
 |.ins C dx fs=>H dx=some (.own a)/\fs.length<=1000/\dx≠a/\h.get? a=some (acL C dx) /\
   ∃mA,h.Ns1 dx mA/\(∀f,rz (fs.lookup f) (mA f))/\PySem.Within mA (fs.map (·.1))
 |.own _=>∃o,h.get? a=some o
 |.xd fs=>∃mA,h.Ns1 a mA/\∀f,rz (fs.lookup f) (mA f)
 |.rng lo hi=>∃t u v,h.get? a=some { cls:=.type "range",data:=.fields #[.int lo t,.int hi u,.int 1 v] }
 |.frz o u=>h.get? a=some o/\bR H h a u
 |.tbl ln cl q=>∃ps:Array Value,h.get? a=some { cls:=.none,data:=.fields ps }/\(ps=#[]\/∃(c:Addr) (oc:Obj) (vs:Array Value) (t:Tok),ps=#[ln,cl,.ref c]/\H c=some (.frz oc (.own a))/\oc.data=.fields vs/\vs[1]?=some (.str q t))
 |.met f x=>h.get? a=some (acy (.ref f) (.ref x))
 |.ext φ=>φ h/\(∃o,h.get? a=some o)/\∀h1 h2:Heap,φ h1->(∀o,h1.get? a=some o->h2.get? a=some o)->φ h2
def HOk(H:Hp)(h:Heap):Prop:=∀a o,H a=some o->bR P w H h a o
end
section
variable{P:Program}{w:World}{H H':Hp}{h h':Heap}{a:Addr}{o:HO}
theorem bR.lt(x:bR P w H h a o):a<h.objs.size:=by
 cases o with
 |lst xs=>obtain⟨_,_,_,_,e⟩:=x;exact aad e
 |tup xs=>obtain⟨_,_,_,p⟩:=x;exact p.lt
 |dK kvs=>obtain⟨_,_,_,_,o,_,_,e,_⟩:=x;exact aad e
 |dT kvs ts=>obtain⟨_,_,_,_,o,_,_,e,_⟩:=x;exact aad e
 |set S n=>obtain⟨o,_,_,_,e,_⟩:=x;exact aad e
 |ins C dx fs=>obtain⟨_,_,_,e,_⟩:=x;exact aad e
 |own y=>obtain⟨_,e⟩:=x;exact aad e
 |xd fs=>obtain⟨_,⟨_,_,_,e,_⟩,_⟩:=x;exact aad e
 |rng lo hi=>obtain⟨_,_,_,e⟩:=x;exact aad e
 |frz ob u=>obtain⟨e,_⟩:=x;exact aad e
 |tbl ln cl q=>obtain⟨_,e,_⟩:=x;exact aad e
 |met f y=>exact aad (show h.get? a=some _ from x)
 |ext φ=>obtain⟨_,⟨_,e⟩,_⟩:=x;exact aad e
theorem Paired.S8{α β:Type}{F G:α->β->Prop}:∀{l₁:List α} {l₂:List β},Paired F l₁ l₂->(∀a b,F a b->G a b)->Paired G l₁ l₂
 |_,_,.nil,_=>.nil
 |_,_,.cons r t,f=>.cons (f _ _ r) (Paired.S8 t f)
theorem bR.stay(x:bR P w H h a o)(k:∀b u,(b=a\/H b=some (.own a))->h.get? b=some u->h'.get? b=some u)
  (ho:∀b,H b=some (.own a)->H' b=some (.own a)) (hf:∀b o c,H b=some (.frz o (.own c))->H' b=some (.frz o (.own c))) (ht:∀b xs,H b=some (.tup xs)->H' b=some (.tup xs)):bR P w H' h' a o:=by
 induction o with
 |lst xs=>obtain⟨z,its,n,r,e⟩:=x;exact⟨z,its,n,r,k _ _ (.inl rfl) e⟩
 |tup xs=>obtain⟨z,its,r,ob,e,c⟩:=x;exact⟨z,its,r,ob,k _ _ (.inl rfl) e,c⟩
 |dK kvs=>obtain⟨z,y,vs,r,ob,es,ep,e,c⟩:=x;exact⟨z,y,vs,r,ob,es,ep,k _ _ (.inl rfl) e,c⟩
 |dT kvs ts=>obtain⟨z,y,xs,r,ob,es,ep,e,c⟩:=x;exact⟨z,y,xs,Paired.S8 r fun p q z=>⟨z.1,ht _ _ z.2.1,z.2.2⟩,ob,es,ep,k _ _ (.inl rfl) e,c⟩
 |set S n=>obtain⟨ob,es,ep,t,e,c⟩:=x;exact⟨ob,es,ep,t,k _ _ (.inl rfl) e,c⟩
 |ins C dx fs=>obtain⟨d,z,ne,e,mA,⟨od,es,ep,e2,c⟩,r⟩:=x;exact⟨ho _ d,z,ne,k _ _ (.inl rfl) e,mA,⟨od,es,ep,k _ _ (.inr d) e2,c⟩,r⟩
 |own y=>obtain⟨ob,e⟩:=x;exact⟨ob,k _ _ (.inl rfl) e⟩
 |xd fs=>obtain⟨mA,⟨od,es,ep,e,c⟩,r⟩:=x;exact⟨mA,⟨od,es,ep,k _ _ (.inl rfl) e,c⟩,r⟩
 |rng lo hi=>obtain⟨t,u,v,e⟩:=x;exact⟨t,u,v,k _ _ (.inl rfl) e⟩
 |frz ob u ih=>obtain⟨e,q⟩:=x;exact⟨k _ _ (.inl rfl) e,ih q⟩
 |tbl ln cl q=>
  obtain⟨ps,e,d⟩:=x;refine⟨ps,k _ _ (.inl rfl) e,?_⟩;rcases d with d | ⟨c,oc,vs,t,d,d2,d3⟩
  ·exact .inl d
  ·exact .inr ⟨c,oc,vs,t,d,hf _ _ _ d2,d3⟩
 |met f y=>have e:h.get? a=some (acy (.ref f) (.ref y)):=x;show h'.get? a=some (acy (.ref f) (.ref y));exact k a _ (.inl rfl) e
 |ext φ=>obtain⟨p,⟨o,e⟩,st⟩:=x;exact⟨st _ _ p fun o q=>k _ _ (.inl rfl) q,⟨o,k _ _ (.inl rfl) e⟩,st⟩
theorem HOk.lt(x:HOk P w H h)(e:H a=some o):a<h.objs.size:=(x a o e).lt
theorem HOk.fresh(x:HOk P w H h)(e:h.objs.size<=a):H a=none:=by
 cases q:H a with
 |none=>rfl
 |some u=>exact absurd (aam (x.lt q) e) (aaZ _)
theorem HOk.kept(x:HOk P w H h)(k:∀b u,h.get? b=some u->h'.get? b=some u):HOk P w H h':=fun a o e=>(x a o e).stay (fun b u _ q=>k b u q) (fun _ q=>q) (fun _ _ _ q=>q) fun _ _ q=>q
theorem HOk.laid(x:HOk P w H h)(k:∀b u,h.get? b=some u->h'.get? b=some u)(hp:h.objs.size<=a)(new:bR P w (upd H a o) h' a o):HOk P w (upd H a o) h':=fun b u e=>by
 have hn:=x.fresh hp;by_cases hb:b=a
 ·subst hb;rw[aQ]at e;cases e;exact new
 ·rw[aM hb]at e;exact(x b u e).stay (fun c v _ q=>k c v q) (fun c q=>by rw[aM (bC q hn)];exact q) (fun c _ _ q=>by rw[aM (bC q hn)];exact q) fun c xs q=>by rw[aM (bC q hn)];exact q
end
def Rd(H:Hp)(a:Addr)(u:HO):Prop:=H a=some u\/∃o,H a=some (.frz o u)
theorem Rd.ok{P:Program}{w:World}{H:Hp}{h:Heap}{a:Addr}{u:HO}(r:Rd H a u)(x:HOk P w H h):bR P w H h a u:=by
 rcases r with r | ⟨o,r⟩
 ·exact x a u r
 ·obtain⟨_,q⟩:=x a _ r;exact q
def Mut:Option HO->Prop
 |some (.lst _)=>True
 |some (.dK _)=>True
 |some (.dT _ _)=>True
 |some (.set _ _)=>True
 |some (.ins _ _ _)=>True
 |some (.ext _)=>True
 |_=>False
section
variable{P:Program}{w:World}{H:Hp}{h h':Heap}{x e:Addr}{o':HO}
theorem HOk.write(ok:HOk P w H h)(mu:Mut (H x))(he:e=x\/H e=some (.own x))(k:∀b u,b≠e->h.get? b=some u->h'.get? b=some u)(heo:∃u,h'.get? e=some u)
  (new:bR P w (upd H x o') h' x o'):HOk P w (upd H x o') h':=fun b u q=>by
 have Wf:∀c y,H c=some (.own y)->c≠x:=fun c y r z=>by subst z;rw[r]at mu;exact mu
 have Y9:∀c xs,H c=some (.tup xs)->c≠x:=fun c xs r z=>by subst z;rw[r]at mu;exact mu
 have Y_:∀c o y,H c=some (.frz o y)->c≠x:=fun c o y r z=>by subst z;rw[r]at mu;exact mu
 by_cases hb:b=x
 ·subst hb;rw[aQ]at q;cases q;exact new
 ·rw[aM hb]at q;by_cases hbe:b=e
  ·have q':H b=some (.own x):=by
    rcases he with z | z
    ·exact absurd (hbe.trans z) hb
    ·rw[hbe];exact z
   rw[q]at q';cases q';obtain⟨v,hv⟩:=heo;exact⟨v,by rw[hbe];exact hv⟩
  ·refine(ok b u q).stay (fun c v hc r=>k c v ?_ r) (fun c r=>by rw[aM (Wf c b r)];exact r) (fun c _ _ r=>by rw[aM (Y_ c _ _ r)];exact r) fun c xs r=>by rw[aM (Y9 c xs r)];exact r
   rcases hc with rfl | hc
   ·exact hbe
   ·rintro rfl;rcases he with z | z
    ·exact Wf c b hc z
    ·rw[hc]at z;cases z;exact hb rfl
end
structure Un(fs ex:List Addr)(H H':Hp)(h h':Heap):Prop where
 keep:∀b o,h.get? b=some o->H b=none->b∉fs->b∉ex->h'.get? b=some o
 slot:∀b o,h.get? b=some o->H b=none->b∈fs->b∉ex->∃sl,h'.get? b=some { o with slots:=sl }
 free:∀b o,h.get? b=some o->H b=none->b∉ex->H' b=none
 there:∀b o,h.get? b=some o->b∉ex->∃o',h'.get? b=some o'
 tups:∀b xs,H b=some (.tup xs)->H' b=some (.tup xs)
 yw:∀b o u,H b=some (.frz o u)->H' b=some (.frz o u)
 zI:∀b x y z,H b=some (.tbl x y z)->H' b=some (.tbl x y z)
section
variable{fs fs' ex ex':List Addr}{H H1 H2:Hp}{h h1 h2 h':Heap}{a x e:Addr}{o:HO}
theorem Un.any(u:Un fs ex H H1 h h1){b:Addr}{ob:Obj}(q:h.get? b=some ob)(n:H b=none)(hx:b∉ex):∃sl,h1.get? b=some { ob with slots:=sl }:=by
 by_cases hb:b∈fs
 ·exact u.slot b ob q n hb hx
 ·exact⟨ob.slots,u.keep b ob q n hb hx⟩
theorem Un.kept(k:∀b u,h.get? b=some u->h'.get? b=some u):Un fs ex H H h h':=
 ⟨fun b ob q _ _ _=>k b ob q,fun b ob q _ _ _=>⟨ob.slots,k b ob q⟩,fun _ _ _ n _=>n,fun b ob q _=>⟨ob,k b ob q⟩,fun _ _ q=>q,fun _ _ _ q=>q,fun _ _ _ _ q=>q⟩
theorem Un.refl:Un fs ex H H h h:=Un.kept fun _ _ q=>q
theorem Un.laid(k:∀b u,h.get? b=some u->h'.get? b=some u)(hp:h.objs.size<=a)(hn:H a=none):Un fs ex H (upd H a o) h h' where
 keep:=fun b u q _ _ _=>k b u q
 slot:=fun b u q _ _ _=>⟨u.slots,k b u q⟩
 free:=fun b u q n _=>by rw[aM (aax (aam (aad q) hp))];exact n
 there:=fun b u q _=>⟨u,k b u q⟩
 tups:=fun b xs q=>by rw[aM (bC q hn)];exact q
 yw:=fun b u xs q=>by rw[aM (bC q hn)];exact q
 zI:=fun b _ _ _ q=>by rw[aM (bC q hn)];exact q
theorem Un.write(mu:Mut (H x))(he:e=x\/H e=some (.own x))(k:∀b u,b≠e->h.get? b=some u->h'.get? b=some u)(heo:∃u,h'.get? e=some u):Un fs ex H (upd H x o) h h':=by
 have hx:∀b,H b=none->b≠x:=fun b n z=>by subst z;rw[n]at mu;exact mu
 have hb:∀b,H b=none->b≠e:=fun b n z=>by
  subst z;rcases he with r | r
  ·exact hx b n r
  ·rw[n]at r;cases r
 have hm:∀b u,H b=some u->¬Mut (some u)->b≠x:=fun b u q nm z=>by subst z;rw[q]at mu;exact nm mu
 refine ⟨fun b u q n _ _=>k b u (hb b n) q,fun b u q n _ _=>⟨u.slots,k b u (hb b n) q⟩,fun b u q n _=>by rw [aM (hx b n)];exact n,fun b u q _=>?_,
  fun b xs q=>by rw[aM (hm b _ q fun z=>z)];exact q,fun b u xs q=>by rw[aM (hm b _ q fun z=>z)];exact q,fun b _ _ _ q=>by rw[aM (hm b _ q fun z=>z)];exact q⟩
 by_cases hbe:b=e
 ·subst hbe;exact heo
 ·exact⟨u,k b u hbe q⟩
end
section
variable{b:Addr}{h:Heap}{o:Obj}{H:Hp}
noncomputable def trk(h:Heap)(H:Hp):List Addr:=(aas h.objs.size).filter fun a=>(H a).isSome
noncomputable def CQ(h:Heap)(H:Hp):Heap:=acM h (trk h H)
theorem JQ(h:Heap)(H:Hp):(CQ h H).objs.size=h.objs.size:=PySem.W.hideAll_size _ _
theorem La(e:h.get? b=some o)(n:H b=none):(CQ h H).get? b=some o:=
 PySem.W.hideAll_get _ e fun hm=>by have q:(H b).isSome=true:=(aaO.mp hm).2;rw[n]at q;simp at q
theorem OY(e:(CQ h H).get? b=some o):h.get? b=some o/\H b=none:=by
 have e':h.get? b=some o:=PySem.W.of_hideAll (trk h H) e;refine⟨e',?_⟩;cases q:H b with
 |none=>rfl
 |some x=>have hm:b∈trk h H:=aaO.mpr ⟨aaV.mpr (aad e'),by simp[q]⟩;have z:(CQ h H).get? b=none:=PySem.W.hideAll_none (trk h H) hm;rw[z]at e;cases e
structure Mod(K:Dk)(mg:Str->Option Value)(base:Heap):Prop where
 kin:K.In base
 glob:base.Ns mainGlobals mg
 blt:∃mb,base.Ns builtinsNs mb/\∀x:Str,x ≠ "__name__" -> mb x=bootBuiltins x
 nolimit:base.NoLimit
structure Cx where
 prog:Program
 w:World
 K:Dk
 mg:Str->Option Value
 base:Heap
 A:Around
 N:List Str
 s₀:Shared
 H₀:Hp
 env:Env
 outer:List Env
 stack:List Env
 ex:List Addr
 fn:Str->Bool
 calm:Bool
 pn:List (Addr×Obj)
 xe:Value->Shared->Prop
noncomputable def frs(l:List Env):List Addr:=l.filterMap (·.frame)
noncomputable abbrev Cx.fs(X:Cx):List Addr:=frs X.outer
def Vis(sc:Scope)(x:Str):Prop:=sc.names.lookup x=some .local\/sc.names.lookup x=some .cell\/sc.names.lookup x=some .free
def Loc(sc:Scope)(x:Str):Prop:=sc.names.lookup x=some .local\/sc.names.lookup x=some .cell
def Look(env:Env)(h:Heap)(m:Str->Option Value)(x:Str)(u:Value):Prop:=
 (env.kindOf x=some .local/\m x=some u)\/((env.kindOf x=some .cell\/env.kindOf x=some .free)/\∃c,env.cells.lookup x=some c/\h.IsCell c (some u))
structure Cx.Ok(X:Cx):Prop where
 mod:Mod X.K X.mg X.base
 kind:X.env.scope.kind=.function
 glob:X.env.globals=mainGlobals
 blt:X.env.builtins=builtinsNs
 above:X.s₀.heap.objs.size<=X.env.locals
 inj:∀x y c,X.env.cells.lookup x=some c->X.env.cells.lookup y=some c->x=y
 has:∀x,(X.env.kindOf x=some .cell\/X.env.kindOf x=some .free)->∃c,X.env.cells.lookup x=some c
 cab:∀x c,X.fn x=true->X.env.cells.lookup x=some c->X.s₀.heap.objs.size<=c
 hd:X.calm=true->X.A.handled=none
 frames:X.A.frames=some X.stack
 stk:X.stack=X.outer\/(X.stack=X.env::X.outer/\X.env.frame=some X.env.locals)
 exf:∀b∈X.ex,b≠X.env.locals/\∀x c,X.env.cells.lookup x=some c->c≠b
 bs:∀b o,X.base.get? b=some o->X.s₀.heap.get? b=some o/\X.H₀ b=none
 bsz:X.base.objs.size<=X.s₀.heap.objs.size
 Lb:∀b o,X.base.get? b=some o->b∉X.ex
 OZ:∀b∈X.ex,b∉X.fs
 yx:X.s₀.heap.FunFrames X.base X.outer
 frf:∀b∈X.fs,X.H₀ b=none
structure Inv(X:Cx)(BU:List (Addr×Obj))(σ:List (Option V))(H:Hp)(s:Shared):Prop where
 ok:X.Ok
 os:s.os=X.s₀.os
 bare:AllBare s.gens
 base:Un X.fs X.ex X.H₀ H X.s₀.heap s.heap
 loc:∃m,s.heap.Ns X.env.locals m/\∀(i:Nat) (x:Str) (v:V),X.N[i]?=some x->σ[i]?=some (some v)->Vis X.env.scope x->∃u,RelV v u/\Look X.env s.heap m x u
 cell:∀x c,X.env.cells.lookup x=some c->∃v,s.heap.IsCell c v
 free:H X.env.locals=none
 jS:∀x c,X.env.cells.lookup x=some c->H c=none
 pin:∀p∈X.pn++BU,s.heap.get? p.1=some p.2/\H p.1=none/\p.1≠X.env.locals/\p.1∉X.fs/\∀v,p.2.data≠.cell v
 hok:HOk X.prog X.w H s.heap
 len:σ.length=X.N.length
end
section
variable{X:Cx}{BU:List (Addr×Obj)}{σ:List (Option V)}{H H':Hp}{s:Shared}{h':Heap}
section
variable{ch:List Addr}{x:Str}{u:Value}{a:Addr}{t':Nat}{i:Nat}{v:V}
theorem Cx.Ok.Za(ok:X.Ok){b:Addr}{o:Obj}(e:X.base.get? b=some o):b∉X.fs:=fun hb=>by have:=(ok.yx.mem hb).1;rw[e]at this;cases this
theorem Inv.bs(I:Inv X BU σ H s):∀b o,X.base.get? b=some o->s.heap.get? b=some o/\H b=none:=fun b o e=>⟨I.base.keep b o (I.ok.bs b o e).1 (I.ok.bs b o e).2 (I.ok.Za e) (I.ok.Lb b o e),I.base.free b o (I.ok.bs b o e).1 (I.ok.bs b o e).2 (I.ok.Lb b o e)⟩
theorem Inv.bk(I:Inv X BU σ H s):∀b o,X.base.get? b=some o->s.heap.get? b=some o:=fun b o e=>(I.bs b o e).1
theorem Inv.mod(I:Inv X BU σ H s):Mod X.K X.mg X.base:=I.ok.mod
theorem Inv.kIn(I:Inv X BU σ H s):X.K.In s.heap:=I.ok.mod.kin.keeps I.bk
theorem Inv.lt(I:Inv X BU σ H s):X.env.locals<s.heap.objs.size:=let ⟨_,hn,_⟩:=I.loc;hn.lt
theorem Inv.sz(I:Inv X BU σ H s):X.s₀.heap.objs.size<=s.heap.objs.size:=aaE I.ok.above (acH I.lt)
theorem Inv.Zb(I:Inv X BU σ H s)(h:s.heap.objs.size<=a):a∉X.fs:=fun hb=>by obtain⟨_,o,ho,_⟩:=I.ok.yx.mem hb;exact absurd (aam (aad ho) (aaE I.sz h)) (aaZ _)
theorem Inv.cne(I:Inv X BU σ H s):∀x c,X.env.cells.lookup x=some c->c≠X.env.locals:=fun x c e z=>by obtain⟨v,o,ho,hd⟩:=I.cell x c e;obtain⟨m,⟨o',es,ep,ho',hd',_⟩,_⟩:=I.loc;rw[z,ho']at ho;cases ho;rw[hd']at hd;cases hd
theorem Inv.yx(I:Inv X BU σ H s):s.heap.FunFrames X.base X.outer:=by
 have all:∀(l:List Env),(∀b∈frs l,b∈X.fs)->X.s₀.heap.FunFrames X.base l->s.heap.FunFrames X.base l:=by
  intro l
  induction l with
  |nil=>intro _ _;trivial
  |cons env r ih=>intro hs hl;obtain⟨hk,⟨L,o,hf,hn,ho,hd⟩,hr⟩:=hl;have hL:L∈X.fs:=hs L (by unfold frs;rw[ack,hf];exact PU);obtain⟨sl,e⟩:=I.base.slot L o ho (I.ok.frf L hL) hL fun z=>I.ok.OZ L z hL;exact⟨hk,⟨L,_,hf,hn,e,hd⟩,ih (fun b hb=>hs b (by unfold frs;rw[ack,hf];exact Ds _ hb)) hr⟩
 exact all X.outer (fun _ hb=>hb) I.ok.yx
theorem Inv.stack(I:Inv X BU σ H s):s.heap.FunFrames X.base X.stack:=by
 rcases I.ok.stk with e | ⟨e,hf⟩
 ·rw[e];exact I.yx
 ·rw[e];obtain⟨m,hn,_⟩:=I.loc;refine .cons (by rw[I.ok.kind];decide) hf hn ?_ I.yx;exact Heap.get?_none_of_le (aaE I.ok.bsz I.ok.above)
theorem Inv.zJ(I:Inv X BU σ H s):∀b∈frs X.stack,b∈X.env.locals::X.fs:=fun b hb=>by
 rcases I.ok.stk with e | ⟨e,hf⟩
 ·rw[e]at hb;exact Ds _ hb
 ·rw[e]at hb;unfold frs at hb;rw[ack,hf]at hb;exact hb
theorem Inv.CS(I:Inv X BU σ H s):∀b∈frs X.stack,H b=none:=fun b hb=>by
 rcases aah.mp (I.zJ b hb) with e | hb
 ·rw[e];exact I.free
 ·obtain⟨_,o,ho,_⟩:=I.ok.yx.mem hb;exact I.base.free b o ho (I.ok.frf b hb) fun z=>I.ok.OZ b z hb
theorem Inv.step{g':Array GenState}{t':Nat}{d':Drawn}{ch:List Addr}(I:Inv X BU σ H s)
  (hch:∀b∈ch,(b∈X.ex\/X.s₀.heap.objs.size<=b)/\b≠X.env.locals/\(∀x c,X.env.cells.lookup x=some c->c≠b)/\∀p∈X.pn++BU,p.1≠b)
  (keep:∀b o,b≠X.env.locals->b∉X.fs->b∉ch->s.heap.get? b=some o->H b=none->h'.get? b=some o)
  (slot:∀b o,b≠X.env.locals->b∈X.fs->b∉ch->s.heap.get? b=some o->H b=none->∃sl,h'.get? b=some { o with slots:=sl }) (free:∀b o,b∉ch->s.heap.get? b=some o->H b=none->H' b=none)
  (there:∀b o,b∉ch->s.heap.get? b=some o->∃o',h'.get? b=some o')
  (tups:∀b xs,H b=some (.tup xs)->H' b=some (.tup xs)) (yw:∀b o u,H b=some (.frz o u)->H' b=some (.frz o u)) (zI:∀b x y z,H b=some (.tbl x y z)->H' b=some (.tbl x y z))
  (ns:∀m,s.heap.Ns X.env.locals m->h'.Ns X.env.locals m) (hok:HOk X.prog X.w H' h') (hg:AllBare g') :
  Inv X BU σ H' { s with heap:=h',gens:=g',drawn:=d',toks:=t' }:=by
 have neL:∀b o,X.s₀.heap.get? b=some o->b≠X.env.locals:=fun b o e=>aax (aam (aad e) I.ok.above);have neC:∀b o,X.s₀.heap.get? b=some o->b∉X.ex->b∉ch:=fun b o e hx hb=>by
  rcases (hch b hb).1 with z | z
  ·exact hx z
  ·exact absurd (aam (aad e) z) (aaZ _)
 have cellK:∀x c,X.env.cells.lookup x=some c->∀v,s.heap.IsCell c v->h'.IsCell c v:=fun x c e v ⟨o,ho,hd⟩=>by
  have nch:c∉ch:=fun z=>(hch c z).2.2.1 x c e rfl;by_cases hc:c∈X.fs
  ·obtain⟨sl,q⟩:=slot c o (I.cne x c e) hc nch ho (I.jS x c e);exact⟨_,q,hd⟩
  ·exact⟨o,keep c o (I.cne x c e) hc nch ho (I.jS x c e),hd⟩
 refine⟨I.ok,I.os,hg,⟨fun b o e n hb hx=>?_,fun b o e n hb hx=>?_,fun b o e n hx=>?_,fun b o e hx=>?_,fun b xs e=>tups b xs (I.base.tups b xs e),fun b o xs e=>yw b o xs (I.base.yw b o xs e),fun b x y z e=>?_⟩,?_,fun x c e=>?_,?_,fun x c e=>?_,fun p hp=>?_,hok,I.len⟩
 ·exact keep b o (neL b o e) hb (neC b o e hx) (I.base.keep b o e n hb hx) (I.base.free b o e n hx)
 ·obtain⟨sl,e1⟩:=I.base.slot b o e n hb hx;obtain⟨sl',e2⟩:=slot b _ (neL b o e) hb (neC b o e hx) e1 (I.base.free b o e n hx);exact⟨sl',e2⟩
 ·obtain⟨o',e1⟩:=I.base.there b o e hx;exact free b o' (neC b o e hx) e1 (I.base.free b o e n hx)
 ·obtain⟨o',e1⟩:=I.base.there b o e hx;exact there b o' (neC b o e hx) e1
 ·exact zI _ _ _ _ (I.base.zI _ _ _ _ e)
 ·obtain⟨m,hn,hl⟩:=I.loc;refine⟨m,ns m hn,fun i x v e1 e2 e3=>?_⟩;obtain⟨u,r,l⟩:=hl i x v e1 e2 e3;refine⟨u,r,?_⟩;rcases l with l | ⟨k,c,e,z⟩
  ·exact .inl l
  ·exact .inr ⟨k,c,e,cellK x c e _ z⟩
 ·obtain⟨v,z⟩:=I.cell x c e;exact⟨v,cellK x c e v z⟩
 ·obtain⟨m,⟨o,_,_,ho,_⟩,_⟩:=I.loc;exact free _ o (fun z=>(hch _ z).2.1 rfl) ho I.free
 ·obtain⟨v,o,ho,hd⟩:=I.cell x c e;exact free c o (fun z=>(hch c z).2.2.1 x c e rfl) ho (I.jS x c e)
 ·obtain⟨e,n,ne,nf,d⟩:=I.pin p hp;have nch:p.1∉ch:=fun z=>(hch p.1 z).2.2.2 p hp rfl;exact⟨keep p.1 p.2 ne nf nch e n,free p.1 p.2 nch e n,ne,nf,d⟩
theorem Inv.un(I:Inv X BU σ H s)(u:Un X.fs [] H H' s.heap h')(hok:HOk X.prog X.w H' h'):Inv X BU σ H' { s with heap:=h',toks:=t' }:=by
 obtain⟨m,⟨o,es,ep,ho,r⟩,_⟩:=id I.loc;obtain⟨sl,hL⟩:=u.any ho I.free (by simp);exact I.step (g':=s.gens) (d':=s.drawn) (ch:=[]) (fun _ z=>nomatch z) (fun b o _ hb _ e n=>u.keep b o e n hb (by simp)) (fun b o _ hb _ e n=>u.slot b o e n hb (by simp)) (fun b o _ e n=>u.free b o e n (by simp)) (fun b o _ e=>u.there b o e (by simp)) u.tups u.yw u.zI (fun m' hm=>by obtain⟨o',es',ep',ho',r'⟩:=hm;rw[ho]at ho';cases ho';exact⟨_,es',ep',hL,r'⟩) hok I.bare
theorem Inv.call{g':Array GenState}{t':Nat}{d':Drawn}(I:Inv X BU σ H s)(u:Un (frs X.stack) ch H H' s.heap h')(hok:HOk X.prog X.w H' h')(hg:AllBare g')
  (hch:∀b∈ch,(b∈X.ex\/X.s₀.heap.objs.size<=b)/\b≠X.env.locals/\(∀x c,X.env.cells.lookup x=some c->c≠b)/\∀p∈X.pn++BU,p.1≠b) :
  Inv X BU σ H' { s with heap:=h',gens:=g',drawn:=d',toks:=t' }:=by
 obtain⟨m,⟨o,es,ep,ho,r⟩,_⟩:=id I.loc;obtain⟨sl,hL⟩:=u.any ho I.free fun z=>(hch _ z).2.1 rfl;exact I.step (ch:=ch) hch (fun b o hL hb hc e n=>u.keep b o e n (fun z=>(aah.mp (I.zJ b z)).elim hL hb) hc) (fun b o _ _ hc e n=>u.any e n hc) (fun b o hc e n=>u.free b o e n hc) (fun b o hc e=>u.there b o e hc) u.tups u.yw u.zI (fun m' hm=>by obtain⟨o',es',ep',ho',r'⟩:=hm;rw[ho]at ho';cases ho';exact⟨_,es',ep',hL,r'⟩) hok hg
theorem Inv.turned{t':Nat}{it:Addr}(I:Inv X BU σ H s)(k:∀b o,b≠it->s.heap.get? b=some o->h'.get? b=some o)(hn:H it=none)(hL:it≠X.env.locals)
  (h1:it∈X.ex\/X.s₀.heap.objs.size<=it) (h2:∀x c,X.env.cells.lookup x=some c->c≠it) (h3:∀p∈X.pn++BU,p.1≠it):Inv X BU σ H { s with heap:=h',toks:=t' }:=by
 have nit:∀b u,H b=some u->b≠it:=fun b u e z=>by rw[z,hn]at e;cases e
 refine I.step (g':=s.gens) (d':=s.drawn) (ch:=[it]) (fun b hb=>?_) (fun b o _ _ hc e _=>k b o (fun z=>hc (by simp[z])) e) (fun b o _ _ hc e _=>⟨o.slots,k b o (fun z=>hc (by simp[z])) e⟩) (fun _ _ _ _ n=>n)
  (fun b o hc e=>⟨o,k b o (fun z=>hc (by simp[z])) e⟩) (fun _ _ e=>e) (fun _ _ _ e=>e) (fun _ _ _ _ e=>e) (fun m hm=>?_) (fun b u e=>?_) I.bare
 ·have e:b=it:=by simpa using hb
  subst e;exact⟨h1,hL,h2,h3⟩
 ·obtain⟨o,es,ep,ho,r⟩:=hm;exact⟨o,es,ep,k _ o (Ne.symm hL) ho,r⟩
 ·refine(I.hok b u e).stay (fun c v hc q=>k c v ?_ q) (fun _ q=>q) (fun _ _ _ q=>q) fun _ _ q=>q;rcases hc with z | z
  ·rw[z];exact nit b u e
  ·exact nit c _ z
theorem Inv.tok(I:Inv X BU σ H s)(t:Nat):Inv X BU σ H { s with toks:=t }:=I.un (h':=s.heap) (t':=t) Un.refl I.hok
theorem Inv.kept(I:Inv X BU σ H s)(k:∀b u,s.heap.get? b=some u->h'.get? b=some u):Inv X BU σ H { s with heap:=h',toks:=t' }:=I.un (Un.kept k) (I.hok.kept k)
theorem Inv.laid{o:HO}{t':Nat}(I:Inv X BU σ H s)(k:∀b u,s.heap.get? b=some u->h'.get? b=some u)(hp:s.heap.objs.size<=a)(new:bR X.prog X.w (upd H a o) h' a o) :
  Inv X BU σ (upd H a o) { s with heap:=h',toks:=t' }:=I.un (Un.laid k hp (I.hok.fresh hp)) (I.hok.laid k hp new)
theorem Inv.write{x e:Addr}{o:HO}{t':Nat}(I:Inv X BU σ H s)(mu:Mut (H x))(he:e=x\/H e=some (.own x))(k:∀b u,b≠e->s.heap.get? b=some u->h'.get? b=some u)(heo:∃u,h'.get? e=some u)
  (new:bR X.prog X.w (upd H x o) h' x o):Inv X BU σ (upd H x o) { s with heap:=h',toks:=t' }:=I.un (Un.write mu he k heo) (I.hok.write mu he k heo new)
theorem Inv.Ie{Rx:List (Addr×Obj)}(I:Inv X BU σ H s)(h:∀p∈Rx,s.heap.get? p.1=some p.2/\H p.1=none/\p.1≠X.env.locals/\p.1∉X.fs/\∀v,p.2.data≠.cell v):Inv X Rx σ H s:=
 ⟨I.ok,I.os,I.bare,I.base,I.loc,I.cell,I.free,I.jS,fun p hp=>(aay.mp hp).elim (fun z=>I.pin p (aaA _ z)) (h p),I.hok,I.len⟩
theorem zK{N:List Str}(hN:N.Nodup){i j:Nat}(a:N[i]?=some x)(b:N[j]?=some x):i=j:=by obtain⟨h1,e1⟩:=aag.mp a;obtain⟨h2,e2⟩:=aag.mp b;exact(List.getElem_inj hN).mp (e1.trans e2.symm)
theorem v8{M:Model}{A:Around}{E:Value->Shared->Prop}{Q:Unit->Shared->Prop}(I:Inv X BU σ H s)(hN:X.N.Nodup)(hi:X.N[i]?=some x)(hx:Loc X.env.scope x)(r:RelV v u)
  (h:∀s',Inv X BU (σ.set i (some v)) H s'->(∃a,abq a s.heap s'.heap/\(a=X.env.locals\/X.env.cells.lookup x=some a))->Q () s') (hf:X.fn x=true\/X.env.scope.names.lookup x=some .local:=by trivial):wpAny M A (storeName X.env x u) Q E s:=by
 obtain⟨m,hn,hl⟩:=id I.loc;have hcls:(X.env.scope.kind == .class||(X.env.scope.kind == .module&&X.env.locals != X.env.globals))=false:=by rw[I.ok.kind];rfl
 have hiσ:i<σ.length:=by rw[I.len];exact(aag.mp hi).1
 have cne:=I.cne;have tracked:∀{a:Addr} {h':Heap},(∃o,s.heap.get? a=some o/\H a=none)->abq a s.heap h'->HOk X.prog X.w H h':=fun {a h'} ha hs b ob e=>by
  obtain⟨_,_,hfree⟩:=ha;refine(I.hok b ob e).stay (fun c w' hc q=>(hs.2 c ?_).trans q) (fun _ q=>q) (fun _ _ _ q=>q) fun _ _ q=>q;rintro rfl;rcases hc with rfl | hc
  ·rw[hfree]at e;cases e
  ·rw[hfree]at hc;cases hc
 rcases hx with hk | hk
 ·refine wpAny_storeName_local hk hn (fun h' hn' hs=>?_) hcls;obtain⟨oL,_,_,hoL,_⟩:=id hn;refine h _ ⟨I.ok,I.os,I.bare,⟨fun b o e n hb hx=>?_,fun b o e n hb hx=>?_,I.base.free,fun b o e hx=>?_,I.base.tups,I.base.yw,I.base.zI⟩,⟨_,hn',fun j y v' e1 e2 e3=>?_⟩,fun y c e=>?_,I.free,I.jS,fun p hp=>?_,tracked ⟨oL,hoL,I.free⟩ hs,by simpa using I.len⟩ ⟨_,hs,.inl rfl⟩
  ·exact(hs.2 b (aax (aam (aad e) I.ok.above))).trans (I.base.keep b o e n hb hx)
  ·obtain⟨sl,e1⟩:=I.base.slot b o e n hb hx;exact⟨sl,(hs.2 b (aax (aam (aad e) I.ok.above))).trans e1⟩
  ·obtain⟨o',e1⟩:=I.base.there b o e hx;exact⟨o',(hs.2 b (aax (aam (aad e) I.ok.above))).trans e1⟩
  ·by_cases hj:j=i
   ·subst hj;rw[hi]at e1;cases e1;rw[aap hiσ]at e2;cases e2;exact⟨u,r,.inl ⟨hk,by simp⟩⟩
   ·rw[gV (Ne.symm hj)]at e2;obtain⟨u',r',q⟩:=hl j y v' e1 e2 e3;refine⟨u',r',?_⟩;rcases q with⟨k,e⟩ | ⟨k,c,e,z⟩
    ·refine .inl ⟨k,?_⟩;have:y≠x:=fun e=>hj (zK hN e1 (e▸hi));simp[this,e]
    ·exact .inr ⟨k,c,e,z.sameBut hs (cne y c e)⟩
  ·obtain⟨w',z⟩:=I.cell y c e;exact⟨w',z.sameBut hs (cne y c e)⟩
  ·obtain⟨e,n,ne,nf,d⟩:=I.pin p hp;exact⟨(hs.2 p.1 ne).trans e,n,ne,nf,d⟩
 ·have hfn:X.fn x=true:=by
   rcases hf with z | z
   ·exact z
   ·rw[z]at hk;cases hk
  obtain⟨c,hc⟩:=I.ok.has x (.inl hk);obtain⟨w',z⟩:=I.cell x c hc;refine wpAny_storeName_cell I.ok.kind hk hc z (fun h' hc' hs=>?_);obtain⟨oc,hoc,Zc⟩:=id z;refine h { s with heap:=h' } ⟨I.ok,I.os,I.bare,⟨fun b o e n hb hx=>?_,fun b o e n hb hx=>?_,I.base.free,fun b o e hx=>?_,I.base.tups,I.base.yw,I.base.zI⟩,⟨m,hn.sameBut hs (Ne.symm (cne x c hc)),fun j y v' e1 e2 e3=>?_⟩,fun y c' e=>?_,I.free,I.jS,fun p hp=>?_,tracked ⟨oc,hoc,I.jS x c hc⟩ hs,by simpa using I.len⟩ ⟨c,hs,.inr hc⟩
  ·exact(hs.2 b (aax (aam (aad e) (I.ok.cab x c hfn hc)))).trans (I.base.keep b o e n hb hx)
  ·obtain⟨sl,e1⟩:=I.base.slot b o e n hb hx;exact⟨sl,(hs.2 b (aax (aam (aad e) (I.ok.cab x c hfn hc)))).trans e1⟩
  ·obtain⟨o',e1⟩:=I.base.there b o e hx;exact⟨o',(hs.2 b (aax (aam (aad e) (I.ok.cab x c hfn hc)))).trans e1⟩
  ·by_cases hj:j=i
   ·subst hj;rw[hi]at e1;cases e1;rw[aap hiσ]at e2;cases e2;exact⟨u,r,.inr ⟨.inl hk,c,hc,hc'⟩⟩
   ·rw[gV (Ne.symm hj)]at e2;obtain⟨u',r',q⟩:=hl j y v' e1 e2 e3;refine⟨u',r',?_⟩;rcases q with q | ⟨k,c',e,z'⟩
    ·exact .inl q
    ·refine .inr ⟨k,c',e,z'.sameBut hs ?_⟩;rintro rfl;exact hj (zK hN e1 (I.ok.inj _ _ _ e hc▸hi))
  ·by_cases hcc:c'=c
   ·subst hcc;exact⟨_,hc'⟩
   ·obtain⟨w2,z2⟩:=I.cell y c' e;exact⟨w2,z2.sameBut hs hcc⟩
  ·obtain⟨e,n,ne,nf,d⟩:=I.pin p hp;refine⟨(hs.2 p.1 ?_).trans e,n,ne,nf,d⟩;intro q;rw[q,hoc]at e;have q':oc=p.2:=Option.some.inj e;exact d w' (by rw[<- q'];exact Zc)
theorem Ec{M:Model}{A:Around}{E:Value->Shared->Prop}{Q:Unit->Shared->Prop}(I:Inv X BU σ H s)(hN:X.N.Nodup)(hi:X.N[i]?=some x)(hx:Loc X.env.scope x)(r:RelV v u)
  (h:∀s',Inv X BU (σ.set i (some v)) H s'->Q () s') (hf:X.fn x=true\/X.env.scope.names.lookup x=some .local:=by trivial):wpAny M A (storeName X.env x u) Q E s:=
 v8 I hN hi hx r (fun s' I' _=>h s' I') hf
theorem Inv.Wg{s':Shared}(I:Inv X BU σ H s)(ho:s'.os=s.os)(u:Un (frs X.stack) ch H H' s.heap s'.heap)(hok:HOk X.prog X.w H' s'.heap)(hg:AllBare s'.gens)
  (hch:∀b∈ch,(b∈X.ex\/X.s₀.heap.objs.size<=b)/\b≠X.env.locals/\(∀x c,X.env.cells.lookup x=some c->c≠b)/\∀p∈X.pn++BU,p.1≠b):Inv X BU σ H' s':=by
 obtain⟨h',g',d',t',o'⟩:=s';have e:o'=s.os:=ho;subst e;exact I.call (g':=g') (t':=t') (d':=d') u hok hg hch
end
end
noncomputable abbrev XK:=Value->Option Addr->Hp->Prop
noncomputable abbrev St:=List (Option V)
noncomputable abbrev VK:=V->Hp->Prop
noncomputable abbrev TE:=St->Hp->VK->Prop
noncomputable abbrev TT:=St->Hp->(Bool->Hp->Prop)->Prop
noncomputable abbrev TA:=St->Hp->(List V->Hp->Prop)->Prop
structure Ends where
 nx:St->Hp->Prop
 rt:VK
 bk:St->Hp->Prop:=fun _ _=>False
 ct:St->Hp->Prop:=fun _ _=>False
noncomputable abbrev TS:=Ends->St->Hp->Prop
def EP(X:Cx)(BU:List (Addr×Obj))(σ:St)(Q:VK)(u:Value)(s':Shared):Prop:=∃v H',Inv X BU σ H' s'/\RelV v u/\Q v H'
def TP(X:Cx)(BU:List (Addr×Obj))(σ:St)(Q:Bool->Hp->Prop)(b:Bool)(s':Shared):Prop:=∃H',Inv X BU σ H' s'/\Q b H'
def AP(X:Cx)(BU:List (Addr×Obj))(σ:St)(Q:List V->Hp->Prop)(us:List Value)(s':Shared):Prop:=∃vs H',Inv X BU σ H' s'/\Vals vs us/\Q vs H'
def SP(X:Cx)(BU:List (Addr×Obj))(D:Ends)(f:Flow)(s':Shared):Prop:=
 match f with
 |.next=>∃σ' H',Inv X BU σ' H' s'/\D.nx σ' H'
 |.brk=>∃σ' H',Inv X BU σ' H' s'/\D.bk σ' H'
 |.cont=>∃σ' H',Inv X BU σ' H' s'/\D.ct σ' H'
 |.ret u=>∃v σ' H',Inv X BU σ' H' s'/\RelV v u/\D.rt v H'
def PE(X:Cx)(e:Expr)(t:TE):Prop:=
 ∀(BU:List (Addr×Obj)) (s:Shared) (σ:St) (H:Hp) (Q:VK),Inv X BU σ H s->t σ H Q->wpAny (model X.prog X.w) X.A (eval e X.env) (EP X BU σ Q) X.xe s
def PT(X:Cx)(e:Expr)(t:TT):Prop:=
 ∀(BU:List (Addr×Obj)) (s:Shared) (σ:St) (H:Hp) (Q:Bool->Hp->Prop),Inv X BU σ H s->t σ H Q->wpAny (model X.prog X.w) X.A (isTrue e X.env (eval e X.env)) (TP X BU σ Q) X.xe s
def PW(X:Cx)(e:Expr)(t:TT):Prop:=
 ∀(whole:Sem Value) (BU:List (Addr×Obj)) (s:Shared) (σ:St) (H:Hp) (Q:Bool->Hp->Prop),Inv X BU σ H s->t σ H Q->wpAny (model X.prog X.w) X.A (isTrue e X.env whole) (TP X BU σ Q) X.xe s
theorem PW.pt{X:Cx}{e:Expr}{t:TT}(h:PW X e t):PT X e t:=h _
def PA(X:Cx)(es:List Expr)(t:TA):Prop:=
 ∀(pos:Pos) (BU:List (Addr×Obj)) (s:Shared) (σ:St) (H:Hp) (Q:List V->Hp->Prop),Inv X BU σ H s->t σ H Q->wpAny (model X.prog X.w) X.A (spliced (backTo pos (starEach es X.env))) (AP X BU σ Q) X.xe s
def PS(X:Cx)(st:Stmt)(t:TS):Prop:=
 ∀(BU:List (Addr×Obj)) (s:Shared) (σ:St) (H:Hp) (D:Ends),Inv X BU σ H s->t D σ H->wpAny (model X.prog X.w) X.A (exec st X.env) (SP X BU D) X.xe s
def PSs(X:Cx)(st:List Stmt)(t:TS):Prop:=
 ∀(BU:List (Addr×Obj)) (s:Shared) (σ:St) (H:Hp) (D:Ends),Inv X BU σ H s->t D σ H->wpAny (model X.prog X.w) X.A (execs st X.env) (SP X BU D) X.xe s
theorem thn{α:Type}{t:Sem α}{Q Q':α->Shared->Prop}{M:Model}{A:Around}{E:Value->Shared->Prop}{s:Shared}(h:wpAny M A t Q E s)(hQ:∀a s,Q a s->Q' a s):wpAny M A t Q' E s:=wpAny_mono h hQ fun _ _ x=>x
section
variable{X:Cx}
section
variable{Q:Value->Shared->Prop}{BU:List (Addr×Obj)}{u:Value}{x:Str}{s:Shared}{t:TE}{H:Hp}{σ:St}{v:V}
def v9(i:Nat):TE:=fun σ H Q=>∃v,σ[i]?=some (some v)/\Q v H
def tC(v:V):TE:=fun _ H Q=>Q v H
theorem kT{i:Nat}{pos:Pos}(hN:X.N[i]?=some x)(hv:Vis X.env.scope x)(hd:(x == ("__debug__" : Str))=false:=by decide)(R1:(x == ("__classdict__" : Str))=false:=by decide):PE X (.Name x pos) (v9 i):=by
 intro BU s σ H Q I h;obtain⟨v,e,h⟩:=h;obtain⟨m,hn,hl⟩:=I.loc;obtain⟨u,r,l⟩:=hl i x v hN e hv;have Tr:EP X BU σ Q u s:=⟨v,H,I,r,h⟩
 rcases l with⟨hk,hm⟩ | ⟨hk,c,hc,hcell⟩
 ·exact wpAny_Name (wpAny_loadName_local I.ok.kind hk hn hm Tr) hd
 ·rcases hk with hk | hk
  ·exact wpAny_Name (wpAny_loadName_cell I.ok.kind hk hc hcell Tr) hd
  ·exact wpAny_Name (wpAny_loadName_free I.ok.kind hk hc hcell Tr R1) hd
theorem S9{i j pos}:PE X (.Constant (.int i) j pos) (tC (.int i)):=fun _ _ _ H _ I h=>wpAny_Constant_int ⟨.int i,H,I.tok _,⟨_,rfl⟩,h⟩
theorem Wh{b j pos}:PE X (.Constant (.bool b) j pos) (tC (.bl b)):=fun _ _ _ H _ I h=>Constant_bool ⟨.bl b,H,I,rfl,h⟩
theorem S_{j pos}:PE X (.Constant .none j pos) (tC .non):=fun _ _ _ H _ I h=>Constant_none ⟨.non,H,I,rfl,h⟩
theorem Tc{x j pos}:PE X (.Constant (.str x) j pos) (tC (.str x)):=fun _ _ _ H _ I h=>Calls.Constant_str ⟨.str x,H,I.tok _,⟨_,rfl⟩,h⟩
def Gl(X:Cx)(x:Str):Prop:=X.env.kindOf x=some .globalImplicit
theorem uI{E:Value->Shared->Prop}{pos:Pos}(I:Inv X BU σ H s)(hg:Gl X x)(hm:X.mg x=some u)(h:Q u s)
  (hd:(x == ("__debug__" : Str))=false:=by decide):wpAny (model X.prog X.w) X.A (eval (.Name x pos) X.env) Q E s:=
 Calls.Name_function_global I.ok.kind hg (Calls.loadGlobal_global (by rw[I.ok.glob];exact I.mod.glob.keeps I.bk) hm h) hd
theorem rA{E:Value->Shared->Prop}{pos:Pos}(I:Inv X BU σ H s)(hg:Gl X x)(hm:X.mg x=none)(hv:bootBuiltins x=some u)(h:Q u s)
  (hn:x ≠ "__name__" := by decide) (hd:(x == ("__debug__" : Str))=false:=by decide):wpAny (model X.prog X.w) X.A (eval (.Name x pos) X.env) Q E s:=by
 obtain⟨mb,h1,h2⟩:=I.mod.blt;exact Calls.Name_function_global I.ok.kind hg (Calls.loadGlobal_builtin (by rw[I.ok.glob];exact I.mod.glob.keeps I.bk) hm (by rw[I.ok.blt];exact h1.keeps I.bk) ((h2 x hn).trans hv) h) hd
theorem Ig{pos:Pos}(hg:Gl X x)(hm:X.mg x=some u)(r:RelV v u)(hd:(x == ("__debug__" : Str))=false:=by decide):PE X (.Name x pos) (tC v):=
 fun _ _ _ H _ I h=>uI I hg hm ⟨v,H,I,r,h⟩ hd
theorem Ih{pos:Pos}(hg:Gl X x)(hm:X.mg x=none)(hv:bootBuiltins x=some u)(r:RelV v u)(hn:x ≠ "__name__" := by decide)(hd:(x == ("__debug__" : Str))=false:=by decide):PE X (.Name x pos) (tC v):=
 fun _ _ _ H _ I h=>rA I hg hm hv ⟨v,H,I,r,h⟩ hn hd
variable{a b:Expr}{ta tb:TE}{pos:Pos}
def PC(X:Cx)(op:CmpOp)(a b:Expr)(t:TE):Prop:=
 ∀(BU:List (Addr×Obj)) (s:Shared) (σ:St) (H:Hp) (Q:VK),Inv X BU σ H s->t σ H Q ->
  wpAny (model X.prog X.w) X.A (eval a X.env) (fun v s₁=>wpAny (model X.prog X.w) X.A (eval b X.env) (fun u s₂=>wpAny (model X.prog X.w) X.A (compareOp op v u) (EP X BU σ Q) X.xe s₂) X.xe s₁) X.xe s
def tB(t:TE):TT:=fun σ H Q=>t σ H fun x H1=>∃c,x=.bl c/\Q c H1
theorem Gx{op:CmpOp}(h:PC X op a b t)(h1:behindInMarks op b=false:=by first | exact Wj _ (by decide) (by decide) | rfl):PT X (.Compare a [op] [b] pos) (tB t):=by intro BU s σ H Q I hw;refine wpAny_isTrue_Compare1 (thn (h BU s σ H _ I hw) fun v s1 h1=>thn h1 fun u s2 h2=>thn h2 fun c s3 ⟨x,H1,I1,r1,q1⟩=>?_) h1;obtain⟨d,rfl,q⟩:=q1;cases r1;exact wpAny_truthy_bool ⟨H1,I1,q⟩
theorem Td{e:Expr}(h:PE X e t)(he:∀whole,isTrue e X.env whole=(do let v <- whole;standAt e.pos;holding [v] (truthy v)):=by intro _;rfl):PT X e (tB t):=by intro BU s σ H Q I hw;refine isTrue_plain (thn (h BU s σ H _ I hw) fun v s1 ⟨x,H1,I1,r1,q1⟩=>?_) (he _);obtain⟨d,rfl,q⟩:=q1;cases r1;exact wpAny_truthy_bool ⟨H1,I1,q⟩
variable{tA tB':TT}{HJ:List Expr}
def rB(t u:TT):TT:=fun σ H Q=>t σ H fun c H1=>if c=true then u σ H1 Q else Q false H1
def tOr(t u:TT):TT:=fun σ H Q=>t σ H fun c H1=>if c=true then Q true H1 else u σ H1 Q
def qK(t:TT):TT:=fun σ H Q=>t σ H fun c H1=>Q (!c) H1
theorem pw_and1(ha:PT X a tA):PW X (.BoolOp .And [a] pos) tA:=by
 intro wh BU s σ H Q I h;refine isTrue_and (thn (ha BU s σ H Q I h) fun c s1 e=>?_);cases c with
 |true=>exact isTrue_and_nil e
 |false=>exact e
theorem pw_or1(ha:PT X a tA):PW X (.BoolOp .Or [a] pos) tA:=by
 intro wh BU s σ H Q I h;refine isTrue_or (thn (ha BU s σ H Q I h) fun c s1 e=>?_);cases c with
 |false=>exact isTrue_or_nil e
 |true=>exact e
theorem pw_and(ha:PT X a tA)(hb:PW X (.BoolOp .And (b::HJ) pos) tB'):PW X (.BoolOp .And (a::b::HJ) pos) (rB tA tB'):=by
 intro wh BU s σ H Q I h;refine isTrue_and (thn (ha BU s σ H _ I h) fun c s1 ⟨H1,I1,q1⟩=>?_);cases c with
 |true=>exact hb wh BU s1 σ H1 Q I1 q1
 |false=>exact⟨H1,I1,q1⟩
theorem pw_or(ha:PT X a tA)(hb:PW X (.BoolOp .Or (b::HJ) pos) tB'):PW X (.BoolOp .Or (a::b::HJ) pos) (tOr tA tB'):=by
 intro wh BU s σ H Q I h;refine isTrue_or (thn (ha BU s σ H _ I h) fun c s1 ⟨H1,I1,q1⟩=>?_);cases c with
 |true=>exact⟨H1,I1,q1⟩
 |false=>exact hb wh BU s1 σ H1 Q I1 q1
theorem Te(ha:PT X a tA):PT X (.UnaryOp .Not a pos) (qK tA):=by intro BU s σ H Q I h;exact isTrue_not (ha BU s σ H (fun c H1=>Q (!c) H1) I h)
def Ry(ta tb:TE):TE:=fun σ H Q=>ta σ H fun x H1=>∃c,x=.bl c/\if c=true then tb σ H1 Q else Q (.bl false) H1
def Rz(ta:TE):TE:=fun σ H Q=>ta σ H fun x H1=>∃c,x=.bl c/\Q (.bl (!c)) H1
theorem Tf{op}(h:PE X a t):PE X (.BoolOp op [a] pos) t:=fun BU s σ H Q I hw=>BoolOp_one (h BU s σ H Q I hw)
theorem Tg(ha:PE X a ta)(hb:PE X (.BoolOp .And (b::HJ) pos) tb):PE X (.BoolOp .And (a::b::HJ) pos) (Ry ta tb):=by
 intro BU s σ H Q I h;refine BoolOp_and (thn (ha BU s σ H _ I h) fun v s1 ⟨x,H1,I1,r1,q1⟩=>?_);obtain⟨c,rfl,q1⟩:=q1;cases r1;refine wpAny_truthy_bool ?_;cases c with
 |true=>exact hb BU s1 σ H1 Q I1 q1
 |false=>exact⟨.bl false,H1,I1,rfl,q1⟩
theorem Th(ha:PE X a ta):PE X (.UnaryOp .Not a pos) (Rz ta):=by intro BU s σ H Q I h;refine UnaryOp_ (thn (ha BU s σ H _ I h) fun v s1 ⟨x,H1,I1,r1,q1⟩=>?_);obtain⟨c,rfl,q1⟩:=q1;cases r1;exact not_of (wpAny_truthy_bool ⟨.bl (!c),H1,I1,rfl,q1⟩)
def tIf(t:TT)(ta tb:TE):TE:=fun σ H Q=>t σ H fun c H1=>if c=true then ta σ H1 Q else tb σ H1 Q
theorem Lc{c:Expr}(hc:PT X c tA)(ha:PE X a ta)(hb:PE X b tb):PE X (.IfExp c a b pos) (tIf tA ta tb):=by
 intro BU s σ H Q I h;refine wpAny_IfExp (thn (hc BU s σ H _ I h) fun d s1 ⟨H1,I1,q1⟩=>?_);cases d with
 |true=>exact ha BU s1 σ H1 Q I1 q1
 |false=>exact hb BU s1 σ H1 Q I1 q1
end
end
def SqL(K:Dk)(H:Hp)(a:Addr)(xs:List V):Prop:=
 Rd H a (.lst xs) \/
  ∃(o:Obj) (its:Array Value) (n:Nat),K.lookup a=some o/\o.cls=.type "list" /\ o.dict=none/\o.data=.seq its n/\its.size<=sizeLine/\Vals xs its.toList
def SqT(K:Dk)(H:Hp)(a:Addr)(xs:List V):Prop:=
 Rd H a (.tup xs) \/
  ∃(o:Obj) (its:Array Value) (n:Nat),K.lookup a=some o/\o.cls=.type "tuple" /\ o.data=.seq its n/\its.size<=sizeLine/\Vals xs its.toList
noncomputable def Zd:Value->Option V
 |.none=>some .non
 |.bool b=>some (.bl b)
 |.int i _=>some (.int i)
 |.str x _=>some (.str x)
 |.bytes b _=>some (.byt b)
 |.float b _=>some (.flt b)
 |.ref a=>some (.ref a)
 |.type n=>some (.ty n)
 |_=>none
theorem RelV.abs{x:V}{u:Value}(r:RelV x u):Zd u=some x:=by
 cases x with
 |non=>cases r;rfl
 |bl _=>cases r;rfl
 |int _=>obtain⟨t,rfl⟩:=r;rfl
 |str _=>obtain⟨t,rfl⟩:=r;rfl
 |byt _=>obtain⟨t,rfl⟩:=r;rfl
 |flt _=>obtain⟨t,rfl⟩:=r;rfl
 |ref _=>cases r;rfl
 |ty _=>cases r;rfl
theorem RelV.inj{x y:V}{u:Value}(r:RelV x u)(q:RelV y u):x=y:=Option.some.inj (r.abs.symm.trans q.abs)
theorem Vals.inj:∀{xs ys:List V} {us:List Value},Vals xs us->Vals ys us->xs=ys
 |_,_,_,.nil,.nil=>rfl
 |_,_,_,.cons r t,.cons r' t'=>by rw[r.inj r',Vals.inj t t']
section
variable{X:Cx}{BU:List (Addr×Obj)}{σ:St}{H:Hp}{s:Shared}{a:Addr}{xs ys:List V}
theorem SqT.of{K:Dk}(h:H a=some (.tup xs)):SqT K H a xs:=.inl (.inl h)
theorem Inv.list(I:Inv X BU σ H s)(h:SqL X.K H a xs):∃its:List Value,Vals xs its/\PlainL s.heap a its.toArray/\xs.length<=sizeLine:=by
 rcases h with h | ⟨o,its,n,hk,hc,hd,hs,hz,r⟩
 ·obtain⟨z,its,n,r,e⟩:=h.ok I.hok;exact⟨its,r,⟨_,n,e,rfl,rfl,rfl⟩,z⟩
 ·refine⟨its.toList,r,⟨o,n,I.kIn a o hk,hc,hd,by simpa using hs⟩,?_⟩;have e:=r.length;simp only[abi]at e
  lia
theorem Inv.tuple(I:Inv X BU σ H s)(h:SqT X.K H a xs):∃its:List Value,Vals xs its/\IsTup s.heap a its.toArray/\xs.length<=sizeLine:=by
 rcases h with h | ⟨o,its,n,hk,hc,hs,hz,r⟩
 ·obtain⟨z,its,r,p⟩:=h.ok I.hok;exact⟨its,r,p,z⟩
 ·refine⟨its.toList,r,⟨o,I.kIn a o hk,hc,n,by simpa using hs⟩,?_⟩;have e:=r.length;simp only[abi]at e
  lia
theorem Inv.uJ(I:Inv X BU σ H s)(h:SqL X.K H a xs)(h':SqL X.K H a ys):xs=ys:=by
 obtain⟨its,r,⟨o,n,e,_,_,d⟩,_⟩:=I.list h;obtain⟨its',r',⟨o',n',e',_,_,d'⟩,_⟩:=I.list h';rw[e]at e';cases e';rw[d]at d';injection d' with d1 _
 have:its=its':=by simpa using congrArg Array.toList d1
 subst this;exact r.inj r'
theorem Inv.JR(I:Inv X BU σ H s)(h:SqT X.K H a xs)(h':SqT X.K H a ys):xs=ys:=by
 obtain⟨its,r,⟨o,e,_,n,d⟩,_⟩:=I.tuple h;obtain⟨its',r',⟨o',e',_,n',d'⟩,_⟩:=I.tuple h';rw[e]at e';cases e';rw[d]at d';injection d' with d1 _
 have:its=its':=by simpa using congrArg Array.toList d1
 subst this;exact r.inj r'
end
noncomputable abbrev Cx.BF(X:Cx)(E:Value->Shared->Prop):Cx:={ X with xe:=E }
noncomputable abbrev Cx.nox(X:Cx):Cx:=X.BF fun _ _=>False
theorem Cx.Ok.BF{X:Cx}(ok:X.Ok)(E:Value->Shared->Prop):(X.BF E).Ok:=
 ⟨ok.mod,ok.kind,ok.glob,ok.blt,ok.above,ok.inj,ok.has,ok.cab,ok.hd,ok.frames,ok.stk,ok.exf,ok.bs,ok.bsz,ok.Lb,ok.OZ,ok.yx,ok.frf⟩
theorem Cx.Ok.ou{X:Cx}{E:Value->Shared->Prop}(ok:(X.BF E).Ok):X.Ok:=
 ⟨ok.mod,ok.kind,ok.glob,ok.blt,ok.above,ok.inj,ok.has,ok.cab,ok.hd,ok.frames,ok.stk,ok.exf,ok.bs,ok.bsz,ok.Lb,ok.OZ,ok.yx,ok.frf⟩
section
variable{X:Cx}{BU:List (Addr×Obj)}{σ:St}{H:Hp}{s:Shared}{E:Value->Shared->Prop}
theorem Inv.BF(I:Inv X BU σ H s)(E:Value->Shared->Prop):Inv (X.BF E) BU σ H s:=⟨I.ok.BF E,I.os,I.bare,I.base,I.loc,I.cell,I.free,I.jS,I.pin,I.hok,I.len⟩
theorem Inv.ou(I:Inv (X.BF E) BU σ H s):Inv X BU σ H s:=⟨I.ok.ou,I.os,I.bare,I.base,I.loc,I.cell,I.free,I.jS,I.pin,I.hok,I.len⟩
theorem SP.ou{D:Ends}{f:Flow}{s':Shared}(h:SP (X.BF E) BU D f s'):SP X BU D f s':=by
 cases f with
 |next=>obtain⟨σ',H',I,q⟩:=h;exact⟨σ',H',I.ou,q⟩
 |brk=>obtain⟨σ',H',I,q⟩:=h;exact⟨σ',H',I.ou,q⟩
 |cont=>obtain⟨σ',H',I,q⟩:=h;exact⟨σ',H',I.ou,q⟩
 |ret u=>obtain⟨v,σ',H',I,r,q⟩:=h;exact⟨v,σ',H',I.ou,r,q⟩
theorem PSs.nox{st:List Stmt}{t:TS}(h:PSs X.nox st t):PSs X st t:=fun BU s σ H D I hw=>wpAny_mono (h BU s σ H D (I.BF _) hw) (fun _ _ q=>q.ou) fun _ _ z=>aat z
end
section
variable{X:Cx}{st:Stmt}{HJ:List Stmt}{t u:TS}{e:Expr}{te:TE}{pos:Pos}
def Ld:TS:=fun D σ H=>D.nx σ H
def Gy(t u:TS):TS:=fun D σ H=>t { D with nx:=u D } σ H
theorem Ii:PSs X [] Ld:=fun _ _ σ H _ I h=>wpAny_execs_nil ⟨σ,H,I,h⟩
theorem kU(h1:PS X st t)(h2:PSs X HJ u):PSs X (st::HJ) (Gy t u):=by
 intro BU s σ H D I h;refine wpAny_execs_cons (thn (h1 BU s σ H { D with nx:=u D } I h) fun f s1 q=>?_);cases f with
 |next=>obtain⟨σ',H',I',q⟩:=q;exact h2 BU s1 σ' H' D I' q
 |ret v=>exact q
 |brk=>exact q
 |cont=>exact q
theorem Ij(h1:PS X st t):PSs X [st] t:=by
 intro BU s σ H D I h;refine wpAny_execs_cons (thn (h1 BU s σ H D I h) fun f s1 q=>?_);cases f with
 |next=>exact wpAny_execs_nil q
 |ret v=>exact q
 |brk=>exact q
 |cont=>exact q
theorem Inv.quiet{BU:List (Addr×Obj)}{σ:St}{H:Hp}{s:Shared}(I:Inv X BU σ H s):interactive X.env=false:=by simp[interactive,I.ok.kind]
def Ed(te:TE):TS:=fun D σ H=>te σ H fun _ H1=>D.nx σ H1
theorem uK(he:PE X e te)(hs:swapsWith e none pos.line X.env=pure false:=by rfl):PS X (.Expr e pos) (Ed te):=by intro BU s σ H D I h;exact wpAny_Expr_any (thn (he BU s σ H _ I h) fun v s1 ⟨x,H1,I1,r1,q1⟩=>⟨σ,H1,I1,q1⟩) I.quiet hs
def Wl(te:TE):TS:=fun D σ H=>te σ H D.rt
theorem Ti(he:PE X e te):PS X (.Return (some e) pos) (Wl te):=by intro BU s σ H D I h;exact wpAny_Return_some (thn (he BU s σ H _ I h) fun v s1 ⟨x,H1,I1,r1,q1⟩=>⟨x,σ,H1,I1,r1,q1⟩)
def Tj(c:TT)(t u:TS):TS:=fun D σ H=>c σ H fun b H1=>if b=true then t D σ H1 else u D σ H1
theorem Le{c:Expr}{a b:List Stmt}{tc:TT}(hc:PT X c tc)(ha:PSs X a t)(hb:PSs X b u):PS X (.If c a b pos) (Tj tc t u):=by
 intro BU s σ H D I h;refine wpAny_If (thn (hc BU s σ H _ I h) fun d s1 ⟨H1,I1,q1⟩=>?_);cases d with
 |true=>exact ha BU s1 σ H1 D I1 q1
 |false=>exact hb BU s1 σ H1 D I1 q1
def Tn:TS:=fun _ _ _=>False
theorem Lf:PS X st Tn:=fun _ _ _ _ _ _ h=>h.elim
end
noncomputable abbrev TG:=V->St->Hp->(St->Hp->Prop)->Prop
noncomputable abbrev TGs:=List V->St->Hp->(St->Hp->Prop)->Prop
def PG(X:Cx)(target:Expr)(t:TG):Prop:=
 ∀(BU:List (Addr×Obj)) (s:Shared) (σ:St) (H:Hp) (v:V) (u:Value) (Q:St->Hp->Prop),Inv X BU σ H s->RelV v u->t v σ H Q ->
  wpAny (model X.prog X.w) X.A (assign target X.env u) (fun _ s'=>∃σ' H',Inv X BU σ' H' s'/\Q σ' H') X.xe s
def PGs(X:Cx)(ts:List Expr)(t:TGs):Prop:=
 ∀(BU:List (Addr×Obj)) (s:Shared) (σ:St) (H:Hp) (vs:List V) (us:List Value) (Q:St->Hp->Prop),Inv X BU σ H s->Vals vs us->t vs σ H Q ->
  wpAny (model X.prog X.w) X.A (assignInOrder ((assignEach ts X.env).map (·.2)) us) (fun _ s'=>∃σ' H',Inv X BU σ' H' s'/\Q σ' H') X.xe s
noncomputable abbrev To:=V->V->V->Hp->(Hp->Prop)->Prop
def Wm(X:Cx)(t:To):Prop:=
 ∀(BU:List (Addr×Obj)) (s:Shared) (σ:St) (H:Hp) (o i v:V) (ov iv u:Value) (Q:Hp->Prop),Inv X BU σ H s->RelV o ov->RelV i iv->RelV v u->t o i v H Q ->
  wpAny (model X.prog X.w) X.A (setItem ov iv u) (fun _ s'=>∃H',Inv X BU σ H' s'/\Q H') X.xe s
section
variable{X:Cx}{pos:Pos}
section
variable{es:List Expr}{e:Expr}{i:Nat}{x:Str}{te:TE}
def nX(i:Nat):TG:=fun v σ H Q=>Q (σ.set i (some v)) H
theorem CT(hN:X.N.Nodup)(hi:X.N[i]?=some x)(hx:Loc X.env.scope x)(hf:X.fn x=true\/X.env.scope.names.lookup x=some .local:=by trivial):PG X (.Name x pos) (nX i):=by intro BU s σ H v u Q I r h;exact wpAny_assign_Name (Ec I hN hi hx r (fun s' I'=>⟨_,H,I',h⟩) hf)
def Wn:TGs:=fun vs σ H Q=>vs=[]/\Q σ H
def RA(t:TG)(u:TGs):TGs:=fun vs σ H Q=>∃v r,vs=v::r/\t v σ H fun σ' H'=>u r σ' H' Q
theorem O0:PGs X [] Wn:=by intro BU s σ H vs us Q I r h;obtain⟨e,h⟩:=h;subst e;cases r;exact assignInOrder_nil ⟨σ,H,I,h⟩
theorem Lg{t:TG}{u:TGs}(h1:PG X e t)(h2:PGs X es u)
  (hs:(assignEach (e::es) X.env).map (·.2)=assign e X.env::(assignEach es X.env).map (·.2):=by rfl):PGs X (e::es) (RA t u):=by
 intro BU s σ H vs us Q I r h;obtain⟨v,vr,e1,h⟩:=h;subst e1;cases r with
 |cons r rr=>rw[hs];refine assignInOrder_cons (thn (h1 BU s σ H _ _ _ I r h) fun _ s1 ⟨σ1,H1,I1,q1⟩=>?_);exact h2 BU s1 σ1 H1 _ _ Q I1 rr q1
def Wo(K:Dk)(n:Nat)(t:TGs):TG:=fun v σ H Q=>∃a xs,v=.ref a/\SqT K H a xs/\xs.length=n/\t xs σ H Q
theorem Lh{k:Nat}{t:TGs}{n:Nat}(hc:X.calm=true)(h:PGs X es t)
  (hn:(assignEach es X.env).length=n:=by rfl) (hst:(assignEach es X.env).findIdx? (·.1)=none:=by rfl):PG X (.Tuple es k pos) (Wo X.K n t):=by
 intro BU s σ H v u Q I r hw;obtain⟨a,xs,e1,hq,hl,hw⟩:=hw;subst e1;cases r;obtain⟨its,rv,ht,hz⟩:=I.tuple hq;refine assign_Tuple_tuple (I.ok.hd hc) ht (by simp[hn,<- hl,rv.length]) hst fun h' hx=>?_;have I1:Inv X BU σ H { s with heap:=h' }:=I.kept (t':=s.toks) fun b o e=>hx b o (aax (aad e)) e;exact h BU _ σ H xs _ Q I1 (by simpa using rv) hw
def uL(to ti:TE)(t:To):TG:=fun v σ H Q=>to σ H fun o H1=>ti σ H1 fun i H2=>t o i v H2 fun H3=>Q σ H3
theorem Tp{o i:Expr}{to ti:TE}{t:To}(ho:PE X o to)(hi:PE X i ti)(hs:Wm X t)
  (ha:∀ v,assign (.Subscript o i pos) X.env v=(do
   let ov <- holding [v] (eval o X.env)
   let iv <- holding [v,ov] (eval i X.env)
   standAt pos
   holding [v,ov,iv] (setItem ov iv v)
   release [v,ov,iv] []):=by intro _;rfl):PG X (.Subscript o i pos) (uL to ti t):=by
 intro BU s σ H v u Q I r h;rw[ha];refine wpAny_bind (wpAny_holding (thn (ho BU s σ H _ I h) fun ov s1 ⟨x,H1,I1,r1,q1⟩=>?_));refine wpAny_bind (wpAny_holding (thn (hi BU s1 σ H1 _ I1 q1) fun iv s2 ⟨y,H2,I2,r2,q2⟩=>?_));refine wpAny_bind (wpAny_standAt (wpAny_bind (wpAny_holding (thn (hs BU s2 σ H2 x y v ov iv u _ I2 r1 r2 r q2) fun _ s3 ⟨H3,I3,q3⟩=>?_))));exact wpAny_release ⟨σ,H3,I3,q3⟩
def Ef(te:TE)(g:TG):TS:=fun D σ H=>te σ H fun x H1=>g x σ H1 D.nx
theorem Tq{tg e:Expr}{g:TG}(he:PE X e te)(hg:PG X tg g)(hs:swapsWithSole [tg] e pos.line X.env=pure false:=by rfl)(hw:swappedStores [tg] e X.env=pure none:=by rfl)
  (h1:(assignEach [tg] X.env).map (·.2)=[assign tg X.env]:=by rfl):PS X (.Assign [tg] e pos) (Ef te g):=by
 intro BU s σ H D I h;refine wpAny_Assign_stores (thn (he BU s σ H _ I h) fun v s1 ⟨x,H1,I1,r1,q1⟩=>?_) hs hw;rw[h1];exact thn (hg BU s1 σ H1 x v _ I1 r1 q1) fun _ s2 q=>q
theorem Tt{pos':Pos}(hN:X.N.Nodup)(hi:X.N[i]?=some x)(hx:Loc X.env.scope x)(he:PE X e te)(hs:swapsWith e (some (.Name x pos')) pos.line X.env=pure false:=by rfl)(hf:X.fn x=true\/X.env.scope.names.lookup x=some .local:=by trivial) :
  PS X (.Assign [.Name x pos'] e pos) (Ef te (nX i)):=by
 intro BU s σ H D I h;refine wpAny_Assign_Name (thn (he BU s σ H _ I h) fun v s1 ⟨y,H1,I1,r1,q1⟩=>?_) hs;exact Ec I1 hN hi hx r1 (fun s2 I2=>⟨_,H1,I2,q1⟩) hf
end
end
section
variable{X:Cx}{pos:Pos}
def Li(c:TT)(tb:TS):TS:=fun D σ H=>∃W:Nat->St->Hp->Prop,(∃m,W m σ H)/\∀m σ H,W m σ H ->
 c σ H fun b H1=>if b=true then ∃N:St->Hp->Prop,(∀σ' H',N σ' H'->∃m',m'<m/\W m' σ' H')/\tb { D with nx:=N,ct:=N,bk:=D.nx } σ H1 else D.nx σ H1
theorem Lj{c:Expr}{body:List Stmt}{tc:TT}{tb:TS}(hp:PassesOwn (model X.prog X.w) X.A X.env X.xe)(hc:PT X c tc)(hb:PSs X body tb):PS X (.While c body [] pos) (Li tc tb):=by
 intro BU s σ H D I h;obtain⟨W,⟨m0,w0⟩,turn⟩:=h;refine wpAny_While (codeAny_whileLoop (fun n s'=>∃σ' H',Inv X BU σ' H' s'/\W n σ' H') ?_ m0 ⟨σ,H,I,w0⟩);rintro n s1 ⟨σ1,H1,I1,w1⟩;refine wpAny_passesOwn hp (thn (hc BU s1 σ1 H1 _ I1 (turn n σ1 H1 w1)) fun b s2 ⟨H2,I2,q2⟩=>?_);cases b with
 |true=>
  obtain⟨N,hN,q2⟩:=q2;rw[if_pos rfl];refine wpAny_passesOwn hp (thn (hb BU s2 σ1 H2 _ I2 q2) fun f s3 q3=>?_);cases f with
  |next=>obtain⟨σ3,H3,I3,n3⟩:=q3;obtain⟨m',hm,w3⟩:=hN σ3 H3 n3;exact⟨m',hm,σ3,H3,I3,w3⟩
  |cont=>obtain⟨σ3,H3,I3,n3⟩:=q3;obtain⟨m',hm,w3⟩:=hN σ3 H3 n3;exact⟨m',hm,σ3,H3,I3,w3⟩
  |brk=>exact q3
  |ret v=>exact q3
 |false=>rw[if_neg aaz];exact wpAny_execs_nil ⟨σ1,H2,I2,q2⟩
end
section
variable{P:Program}{tg:Expr}{w:World}{s:Shared}
structure It where
 go:Nat->Hp->Prop
 yld:Nat->Hp->V->Hp->Prop
 stop:Nat->Hp->Prop
def BG(X:Cx)(BU:List (Addr×Obj))(H:Hp)(b:Addr):Prop:=
 H b=none/\b≠X.env.locals/\b∉X.fs/\(b∈X.ex\/X.s₀.heap.objs.size<=b)/\(∀x c,X.env.cells.lookup x=some c->c≠b)/\∀p∈X.pn++BU,p.1≠b
theorem Inv.Lk{X:Cx}{BU:List (Addr×Obj)}{σ:St}{H H':Hp}{b:Addr}(I:Inv X BU σ H s)(hb:s.heap.objs.size<=b)(hn:H' b=none):BG X BU H' b:=by
 refine⟨hn,ab2 (aam I.lt hb),I.Zb hb,.inr (aaE I.sz hb),fun x c e z=>?_,fun p hp z=>?_⟩
 ·obtain⟨v,q⟩:=I.cell x c e;exact absurd (aam q.lt (by rw[z];exact hb)) (aaZ _)
 ·exact absurd (aam (aad (I.pin p hp).1) (by rw[z];exact hb)) (aaZ _)
structure Turn(P:Program)(w:World)(K:Dk)(tg:Expr)(J:It)(fp:List Addr)(it:Addr)(tn:Nat->Heap->Prop):Prop where
 mem:it∈fp
 obj:∀i h,tn i h->∀b∈fp,∃o,h.get? b=some o/\∀v,o.data≠.cell v
 keep:∀i h h',tn i h->(∀b∈fp,∀o,h.get? b=some o->h'.get? b=some o)->tn i h'
 item:∀(X:Cx),X.prog=P->X.w=w->X.K=K->X.calm=true->∀(i:Nat) (BU:List (Addr×Obj)) (s:Shared) (σ:St) (H:Hp) (E:Value->Shared->Prop),Inv X BU σ H s->(∀b∈fp,BG X BU H b)->tn i s.heap->J.go i H ->
  wpAny (model P w) X.A (pyNext (.ref it)) (fun r s1=>∃ u,r=some u ∧
   wpAny (model P w) X.A (letOwnedTupleGo tg (.ref it) u) (fun _ s2=>∃x H',Inv X BU σ H' s2/\RelV x u/\J.yld i H x H'/\tn (i+1) s2.heap/\∀b∈fp,H' b=none) E s1) E s
 done:∀(X:Cx),X.prog=P->X.w=w->X.K=K->X.calm=true->∀(i:Nat) (BU:List (Addr×Obj)) (s:Shared) (σ:St) (H:Hp) (E:Value->Shared->Prop),Inv X BU σ H s->(∀b∈fp,BG X BU H b)->tn i s.heap->J.stop i H ->
  wpAny (model P w) X.A (pyNext (.ref it)) (fun r s1=>r=none/\Inv X BU σ H s1) E s
 self:∀(A:Around) (i:Nat) (s:Shared) (Q:Value->Shared->Prop) (E:Value->Shared->Prop),tn i s.heap->Q (.ref it) s->wpAny (model P w) A (pyIter (.ref it)) Q E s
noncomputable abbrev TI:=St->Hp->(It->Hp->Prop)->Prop
def PIE(X:Cx)(BU:List (Addr×Obj))(σ:St)(tg:Expr)(R:It->Hp->Prop)(itv:Value)(s2:Shared):Prop:=
 ∃(it:Addr) (fp:List Addr) (tn:Nat->Heap->Prop) (J:It) (H':Hp),itv=.ref it/\Inv X BU σ H' s2/\Turn X.prog X.w X.K tg J fp it tn/\tn 0 s2.heap/\(∀b∈fp,BG X BU H' b)/\R J H'
def PI(X:Cx)(tg iter:Expr)(wi:TI):Prop:=
 ∀(BU:List (Addr×Obj)) (s:Shared) (σ:St) (H:Hp) (R:It->Hp->Prop),Inv X BU σ H s->wi σ H R ->
  wpAny (model X.prog X.w) X.A (eval iter X.env) (fun v s1=>wpAny (model X.prog X.w) X.A (pyIter v) (PIE X BU σ tg R) X.xe s1) X.xe s
theorem Ll{M:Model}{A:Around}{E:Value->Shared->Prop}{tg:Expr}{it:Addr}{u:Value}{o:Obj}{n:String}{vs:Array Value}{Q:Unit->Shared->Prop}(ho:s.heap.get? it=some o)(hc:o.cls=.type n)(hd:o.data=.fields vs)
  (hn:["enumerate","zip","dict_itemiterator","dict_reverseitemiterator","odict_iterator","itertools.zip_longest","itertools.pairwise"].contains n=false) (hQ:Q () s):wpAny M A (letOwnedTupleGo tg (.ref it) u) Q E s:=by
 unfold letOwnedTupleGo;cases tg<;>first
  |exact wpAny_pure hQ
  | (cases u<;>first
    |exact wpAny_pure hQ
    | (refine wpAny_bind (wpAny_load ho ?_)
       rw[hc,hd];show wpAny M A (if (["enumerate","zip","dict_itemiterator","dict_reverseitemiterator","odict_iterator","itertools.zip_longest","itertools.pairwise"].contains n&&vs[0]? == some (rawInt _))=true then _ else _) Q E s;rw[if_neg (by intro h;rw[hn,Bool.false_and]at h;cases h)];exact wpAny_pure hQ))
noncomputable def Itl(K:Dk)(a:Addr):It:=
 ⟨fun i H=>∃xs x,SqL K H a xs/\xs[i]?=some x,fun i H x H'=>H'=H/\∀xs,SqL K H a xs->xs[i]?=some x,fun i H=>∃xs,SqL K H a xs/\xs.length<=i⟩
noncomputable def Itt(K:Dk)(a:Addr):It:=
 ⟨fun i H=>∃xs x,SqT K H a xs/\xs[i]?=some x,fun i H x H'=>H'=H/\∀xs,SqT K H a xs->xs[i]?=some x,fun i H=>∃xs,SqT K H a xs/\xs.length<=i⟩
noncomputable def Itr(lo:Int)(n:Nat):It:=⟨fun i _=>i<n,fun i H x H'=>H'=H/\x=.int (lo+i),fun i _=>n<=i⟩
theorem JS{K:Dk}(a it:Addr):Turn P w K tg (Itl K a) [it] it (fun i h=>h.IsListIter it a i) where
 mem:=by simp
 obj:=fun i h st b hb=>by
  have e:b=it:=by simpa using hb
  subst e;obtain⟨o,e,c,d⟩:=st;exact⟨o,e,fun v z=>by rw[d]at z;cases z⟩
 keep:=fun i h h' st k=>st.at fun o e=>k it (by simp) o e
 item:=by intro X hP hw hK hc i BU s σ H E I hf st hg;subst hP hw hK;obtain⟨xs,x,hq,hx⟩:=hg;obtain⟨its,rv,p,hz⟩:=I.list hq;obtain⟨u,hu,ru⟩:=rv.get hx;obtain⟨f0,f1,f2,f3,f4,f5⟩:=hf it (by simp);refine wpAny_pyNext_list_item st p.isList (x:=u) (by simpa using hu) fun h' st' sb=>?_;have I1:Inv X BU σ H { s with heap:=h' }:=I.turned (t':=s.toks) (fun b o hb e=>(sb.2 b hb).trans e) f0 f1 f3 f4 f5;obtain⟨o,e,c,d⟩:=id st';exact⟨u,rfl,Ll (s:={ s with heap:=h' }) e c d (by decide) ⟨x,H,I1,ru,⟨rfl,fun ys hy=>by rw[I.uJ hy hq];exact hx⟩,st',fun b hb=>(hf b hb).1⟩⟩
 done:=by intro X hP hw hK hc i BU s σ H E I hf st hg;subst hP hw hK;obtain⟨xs,hq,hx⟩:=hg;obtain⟨its,rv,p,hz⟩:=I.list hq;obtain⟨f0,f1,f2,f3,f4,f5⟩:=hf it (by simp);have hl:=rv.length;exact wpAny_pyNext_list_end (I.ok.hd hc) st p.isList (by simp;lia) fun h' eb=>⟨rfl,I.turned (t':=s.toks) (fun b o hb e=>eb b o hb e) f0 f1 f3 f4 f5⟩
 self:=fun _ _ _ _ _ st h=>wpAny_pyIter_listiter st h
theorem Gz{K:Dk}(a it:Addr):Turn P w K tg (Itt K a) [it] it (fun i h=>h.IsTupleIter it a i) where
 mem:=by simp
 obj:=fun i h st b hb=>by
  have e:b=it:=by simpa using hb
  subst e;obtain⟨o,e,c,d⟩:=st;exact⟨o,e,fun v z=>by rw[d]at z;cases z⟩
 keep:=fun i h h' st k=>st.at fun o e=>k it (by simp) o e
 item:=by intro X hP hw hK hc i BU s σ H E I hf st hg;subst hP hw hK;obtain⟨xs,x,hq,hx⟩:=hg;obtain⟨its,rv,p,hz⟩:=I.tuple hq;obtain⟨u,hu,ru⟩:=rv.get hx;obtain⟨f0,f1,f2,f3,f4,f5⟩:=hf it (by simp);refine wpAny_pyNext_tuple_item st (show s.heap.IsTuple a its.toArray from p) (x:=u) (by simpa using hu) fun h' st' sb=>?_;have I1:Inv X BU σ H { s with heap:=h' }:=I.turned (t':=s.toks) (fun b o hb e=>(sb.2 b hb).trans e) f0 f1 f3 f4 f5;obtain⟨o,e,c,d⟩:=id st';exact⟨u,rfl,Ll (s:={ s with heap:=h' }) e c d (by decide) ⟨x,H,I1,ru,⟨rfl,fun ys hy=>by rw[I.JR hy hq];exact hx⟩,st',fun b hb=>(hf b hb).1⟩⟩
 done:=by intro X hP hw hK hc i BU s σ H E I hf st hg;subst hP hw hK;obtain⟨xs,hq,hx⟩:=hg;obtain⟨its,rv,p,hz⟩:=I.tuple hq;obtain⟨f0,f1,f2,f3,f4,f5⟩:=hf it (by simp);have hl:=rv.length;exact wpAny_pyNext_tuple_end (I.ok.hd hc) st (show s.heap.IsTuple a its.toArray from p) (by simp;lia) fun h' eb=>⟨rfl,I.turned (t':=s.toks) (fun b o hb e=>eb b o hb e) f0 f1 f3 f4 f5⟩
 self:=fun _ _ _ _ _ st h=>wpAny_pyIter_tupleiter st h
theorem GA{K:Dk}(it:Addr)(lo:Int)(n:Nat):Turn P w K tg (Itr lo n) [it] it (fun i h=>IsRangeIter h it (lo+(i:Nat)*1) ((n:Int)-(i:Nat)) 1) where
 mem:=by simp
 obj:=fun i h st b hb=>by
  have e:b=it:=by simpa using hb
  subst e;exact ⟨_,st,fun v z=>by have z':acY _=acN v:=z;cases z'⟩
 keep:=fun i h h' st k=>k it (by simp) _ st
 item:=by intro X hP hw hK hc i BU s σ H E I hf st hg;subst hP hw hK;obtain⟨f0,f1,f2,f3,f4,f5⟩:=hf it (by simp);have W:=Walks.range (prog:=X.prog) (w:=X.w) (I.ok.hd hc) it lo 1 n;refine W.item i s _ _ hg st fun v h' tk hv st' kk=>?_;obtain⟨t,rfl⟩:=hv;have I1:Inv X BU σ H { s with heap:=h',toks:=tk }:=I.turned (fun b o hb e=>kk b o (by simpa using hb) e) f0 f1 f3 f4 f5;refine⟨_,rfl,Ll (s:={ s with heap:=h',toks:=tk }) (n := "range_iterator") st' rfl rfl (by decide) ⟨.int (lo+i),H,I1,⟨t,?_⟩,⟨rfl,rfl⟩,st',fun b hb=>(hf b hb).1⟩⟩;rw[Int.mul_one]
 done:=by intro X hP hw hK hc i BU s σ H E I hf st hg;subst hP hw hK;obtain⟨f0,f1,f2,f3,f4,f5⟩:=hf it (by simp);exact wpAny_pyNext_range_end (I.ok.hd hc) st (by have:n<=i:=hg;lia) fun h' eb=>⟨rfl,I.turned (t':=s.toks) (fun b o hb e=>eb b o hb e) f0 f1 f3 f4 f5⟩
 self:=fun _ _ _ _ _ st h=>wpAny_pyIter_rangeiter st h
end
section
variable{X:Cx}{tg:Expr}
section
variable{BU:List (Addr×Obj)}{fp:List Addr}{s:Shared}{H:Hp}{σ:St}{l:Expr}{h:Heap}{tl:TE}{ta:TA}
def Eg(K:Dk)(tl:TE):TI:=fun σ H R=>tl σ H fun x H1=>∃a,x=.ref a/\(∃xs,SqL K H1 a xs)/\R (Itl K a) H1
def Lm(K:Dk)(tl:TE):TI:=fun σ H R=>tl σ H fun x H1=>∃a,x=.ref a/\(∃xs,SqT K H1 a xs)/\R (Itt K a) H1
theorem Ik(hl:PE X l tl):PI X tg l (Eg X.K tl):=by
 intro BU s σ H R I h;refine thn (hl BU s σ H _ I h) fun v s1 ⟨x,H1,I1,r1,q1⟩=>?_;obtain⟨a,e,⟨xs,hq⟩,q⟩:=q1;subst e;cases r1;obtain⟨its,rv,p,hz⟩:=I1.list hq;refine wpAny_pyIter_list p.isList ?_;refine⟨s1.heap.objs.size,[s1.heap.objs.size],_,_,H1,rfl,I1.kept (t':=s1.toks) fun b o e=>aac _ e,JS a _,⟨_,aaJ _ rfl,rfl,rfl⟩,fun b hb=>?_,q⟩;have e:b=s1.heap.objs.size:=by simpa using hb
 subst e;exact I1.Lk (aab _) (I1.hok.fresh (aab _))
theorem Ln(hl:PE X l tl):PI X tg l (Lm X.K tl):=by
 intro BU s σ H R I h;refine thn (hl BU s σ H _ I h) fun v s1 ⟨x,H1,I1,r1,q1⟩=>?_;obtain⟨a,e,⟨xs,hq⟩,q⟩:=q1;subst e;cases r1;obtain⟨its,rv,p,hz⟩:=I1.tuple hq;refine wpAny_pyIter_tuple (show s1.heap.IsTuple a its.toArray from p) ?_;refine⟨s1.heap.objs.size,[s1.heap.objs.size],_,_,H1,rfl,I1.kept (t':=s1.toks) fun b o e=>aac _ e,Gz a _,⟨_,aaJ _ rfl,rfl,rfl⟩,fun b hb=>?_,q⟩;have e:b=s1.heap.objs.size:=by simpa using hb
 subst e;exact I1.Lk (aab _) (I1.hok.fresh (aab _))
theorem Eh{R:It->Hp->Prop}{E:Value->Shared->Prop}{lo hi:Int}{t u v:Tok}{tk:Nat}(I:Inv X BU σ H s)(h1:-(2 ^ 62)<=lo)(h2:lo<2 ^ 62)(h3:-(2 ^ 62)<=hi)(h4:hi<2 ^ 62)
  (q:R (Itr lo (hi-lo).toNat) H):wpAny (model X.prog X.w) X.A (pyIter (.ref s.heap.objs.size)) (PIE X BU σ tg R) E { s with heap:=s.heap.push { cls:=.type "range",data:=.fields #[.int lo t,.int hi u,.int 1 v] },toks:=tk }:=by
 refine wpAny_pyIter_range (IsRange.new ..) (small_one h1 h2 h3 h4) ?_;have I1:Inv X BU σ H { s with heap:=s.heap.push { cls:=.type "range",data:=.fields #[.int lo t,.int hi u,.int 1 v] },toks:=tk }:=I.kept fun b o e=>aac _ e;refine ⟨(s.heap.push { cls:=.type "range",data:=.fields #[.int lo t,.int hi u,.int 1 v] }).objs.size,[(s.heap.push { cls:=.type "range",data:=.fields #[.int lo t,.int hi u,.int 1 v] }).objs.size],_,_,H,rfl,
  I1.kept (t':=tk) fun b o e=>aac _ e,GA _ lo (hi-lo).toNat,?_,fun b hb=>?_,q⟩
 ·have e1:lo+((0:Nat):Int)*1=lo:=by simp
  have e2:(((hi-lo).toNat:Nat):Int)-((0:Nat):Int)=Builtin.Range.rangeSize lo hi 1:=by rw[rangeSize_one];split<;>lia
  show IsRangeIter _ _ (lo+((0:Nat):Int)*1) ((((hi-lo).toNat:Nat):Int)-((0:Nat):Int)) 1;rw[e1,e2];exact aaJ _ rfl
 ·have e:b=(s.heap.push { cls:=.type "range",data:=.fields #[.int lo t,.int hi u,.int 1 v] }).objs.size:=by simpa using hb
  subst e;exact I1.Lk (aab _) (I1.hok.fresh (aab _))
def RB(ta:TA):TI:=fun σ H R=>ta σ H fun vs H1=>∃j:Int,vs=[.int j]/\-(2 ^ 62)<=j/\j<2 ^ 62/\R (Itr 0 j.toNat) H1
def RC(ta:TA):TI:=fun σ H R=>ta σ H fun vs H1=>∃i j:Int,vs=[.int i,.int j]/\(-(2 ^ 62)<=i/\i<2 ^ 62/\-(2 ^ 62)<=j/\j<2 ^ 62)/\R (Itr i (j-i).toNat) H1
theorem JT{a:Expr}{p pos:Pos}(hg:Gl X "range")(hm:X.mg "range" = none)(ha:PA X [a] ta)(hs:starEach [a] X.env=[(false,eval a X.env)]:=by rfl):PI X tg (.Call (.Name "range" p) [a] [] pos) (RB ta):=by
 intro BU s σ H R I h;refine Call_ (rA I hg hm boot_range (abh (thn (ha pos BU s σ H _ I h) fun us s1 ⟨vs,H1,I1,r1,q1⟩=>?_) hs rfl));obtain⟨j,e,q1,q2,q⟩:=q1;subst e;cases r1 with
 |cons r rr=>cases rr;obtain⟨t,rfl⟩:=r;exact call_range_1 (Eh I1 (by lia) (by lia) q1 q2 (by simpa using q))
theorem JU{a b:Expr}{p pos:Pos}(hg:Gl X "range")(hm:X.mg "range" = none)(ha:PA X [a,b] ta)(hs:starEach [a,b] X.env=[(false,eval a X.env),(false,eval b X.env)]:=by rfl)(hs2:starEach [b] X.env=[(false,eval b X.env)]:=by rfl) :
  PI X tg (.Call (.Name "range" p) [a,b] [] pos) (RC ta):=by
 intro BU s σ H R I h;refine Call_ (rA I hg hm boot_range (abh (thn (ha pos BU s σ H _ I h) fun us s1 ⟨vs,H1,I1,r1,q1⟩=>?_) (by rw[hs,hs2]) (by rw[hs2];rfl)));obtain⟨i,j,e,⟨q1,q2,q3,q4⟩,q⟩:=q1;subst e;cases r1 with
 |cons r rr=>
  cases rr with
  |cons r' rr=>cases rr;obtain⟨t,rfl⟩:=r;obtain⟨t',rfl⟩:=r';exact call_range_2 (Eh I1 q1 q2 q3 q4 q)
def Tu(wi:TI)(g:TG)(tb:TS):TS:=fun D σ H=>wi σ H fun J H1=>∃W:Nat->Nat->St->Hp->Prop,(∃m,W 0 m σ H1)/\∀i m σ H,W i m σ H ->
 (J.stop i H/\D.nx σ H)\/(J.go i H/\∃N:St->Hp->Prop,(∀σ' H',N σ' H'->∃m',m'<m/\W (i+1) m' σ' H')/\∀x H',J.yld i H x H'->g x σ H' fun σ2 H2=>tb { D with nx:=N,ct:=N,bk:=D.nx } σ2 H2)
noncomputable def zL(fp:List Addr)(h:Heap):List (Addr×Obj):=fp.filterMap fun b=>(h.get? b).map fun o=>(b,o)
theorem m6{b:Addr}{o:Obj}(hb:b∈fp)(e:h.get? b=some o):(b,o)∈zL fp h:=abN.mpr ⟨b,hb,by rw[e];rfl⟩
theorem JV{p:Addr×Obj}(hp:p∈zL fp h):p.1∈fp/\h.get? p.1=some p.2:=by
 obtain⟨b,hb,e⟩:=abN.mp hp;cases q:h.get? b with
 |none=>rw[q]at e;cases e
 |some o=>rw[q]at e;have e':(b,o)=p:=Option.some.inj e;subst e';exact⟨hb,q⟩
theorem Inv.pinned(I:Inv X BU σ H s)(hf:∀b∈fp,BG X BU H b)(ho:∀b∈fp,∃o,s.heap.get? b=some o/\∀v,o.data≠.cell v):Inv X (BU++zL fp s.heap) σ H s:=
 I.Ie fun p hp=>(aay.mp hp).elim (fun z=>I.pin p (aaG _ z)) fun z=>by obtain⟨hb,e⟩:=JV z;obtain⟨f0,f1,f2,_⟩:=hf p.1 hb;obtain⟨o,e',d⟩:=ho p.1 hb;rw[e]at e';cases e';exact⟨e,f0,f1,f2,d⟩
theorem Inv.uM{BU pl:List (Addr×Obj)}(I:Inv X (BU++pl) σ H s):Inv X BU σ H s:=I.Ie fun p hp=>I.pin p (aaG _ (aaA _ hp))
theorem Lo{iter:Expr}{body:List Stmt}{wi:TI}{g:TG}{tb:TS}{pos:Pos}(hp:PassesOwn (model X.prog X.w) X.A X.env X.xe)(hc:X.calm=true)(hi:PI X tg iter wi)(hg:PG X tg g)(hb:PSs X body tb)
  (hs:∀x,foldedSetIterable iter X.env x=pure x:=by intro _;rfl):PS X (.For tg iter body [] pos) (Tu wi g tb):=by
 intro BU s σ H D I h;refine wpAny_For (thn (hi BU s σ H _ I h) fun v s1 h1=>thn h1 fun itv s2 h2=>?_) hs;obtain⟨it,fp,tn,J,H2,e,I2,T,st2,f2,W,⟨m0,w0⟩,turn⟩:=h2;subst e;have stat:∀{H':Hp},(∀b∈fp,H' b=none)->∀b∈fp,BG X BU H' b:=fun hn b hb=>⟨hn b hb,(f2 b hb).2⟩;refine codeAny_forLoop_any (fun n s'=>∃i σ' H',Inv X BU σ' H' s'/\tn i s'.heap/\(∀b∈fp,H' b=none)/\W i n σ' H') ?_ m0 ⟨0,σ,H2,I2,st2,fun b hb=>(f2 b hb).1,w0⟩;rintro n s3 ⟨i,σ3,H3,I3,st3,fr3,w3⟩;rcases turn i n σ3 H3 w3 with⟨stop,qn⟩ | ⟨go,N,hN,step⟩
 ·refine wpAny_passesOwn hp (thn (T.done X rfl rfl rfl hc i BU s3 σ3 H3 X.xe I3 (stat fr3) st3 stop) fun r s4 ⟨hr,I4⟩=>?_);subst hr;exact wpAny_execs_nil ⟨σ3,H3,I4,qn⟩
 ·refine wpAny_passesOwn hp (thn (T.item X rfl rfl rfl hc i BU s3 σ3 H3 X.xe I3 (stat fr3) st3 go) fun r s4 ⟨u,hr,h4⟩=>?_);subst hr;refine wpAny_passesOwn hp (thn h4 fun _ s5 ⟨x,H5,I5,r5,y5,st5,fr5⟩=>?_);have I5':=I5.pinned (stat fr5) (T.obj _ _ st5);refine wpAny_passesOwn hp (thn (hg _ s5 σ3 H5 x u _ I5' r5 (step x H5 y5)) fun _ s6 ⟨σ6,H6,I6,q6⟩=>?_);refine wpAny_passesOwn hp (thn (hb _ s6 σ6 H6 _ I6 q6) fun f s7 q7=>?_);have again:∀{σ7:St} {H7:Hp},Inv X (BU++zL fp s5.heap) σ7 H7 s7->N σ7 H7->∃m,m<n/\∃i σ' H',Inv X BU σ' H' s7/\tn i s7.heap/\(∀b∈fp,H' b=none)/\W i m σ' H':=fun {σ7 H7} I7 n7=>by
   obtain⟨m',hm,w7⟩:=hN σ7 H7 n7;refine⟨m',hm,i+1,σ7,H7,I7.uM,T.keep _ _ _ st5 fun b hb o e=>(I7.pin (b,o) (aaG _ (aaG _ (m6 hb e)))).1,fun b hb=>?_,w7⟩;obtain⟨o,e,d⟩:=T.obj _ _ st5 b hb;exact(I7.pin (b,o) (aaG _ (aaG _ (m6 hb e)))).2.1
  cases f with
  |next=>obtain⟨σ7,H7,I7,n7⟩:=q7;exact again I7 n7
  |cont=>obtain⟨σ7,H7,I7,n7⟩:=q7;exact again I7 n7
  |brk=>obtain⟨σ7,H7,I7,q7⟩:=q7;exact⟨σ7,H7,I7.uM,q7⟩
  |ret v=>obtain⟨x7,σ7,H7,I7,r7,q7⟩:=q7;exact⟨x7,σ7,H7,I7.uM,r7,q7⟩
end
end
noncomputable abbrev R2:=V->V->Hp->VK->Prop
def OpR(X:Cx)(f:Value->Value->Sem Value)(r:R2):Prop:=
 ∀(BU:List (Addr×Obj)) (s:Shared) (σ:St) (H:Hp) (x y:V) (v u:Value) (Q:VK),Inv X BU σ H s->RelV x v->RelV y u->r x y H Q ->
  wpAny (model X.prog X.w) X.A (f v u) (EP X BU σ Q) X.xe s
def UnR(X:Cx)(f:Value->Sem Value)(r:V->Hp->VK->Prop):Prop:=
 ∀(BU:List (Addr×Obj)) (s:Shared) (σ:St) (H:Hp) (x:V) (v:Value) (Q:VK),Inv X BU σ H s->RelV x v->r x H Q ->
  wpAny (model X.prog X.w) X.A (f v) (EP X BU σ Q) X.xe s
def iz(X:Cx)(f:Value)(r:List V->Hp->VK->Prop):Prop:=
 ∀(BU:List (Addr×Obj)) (s:Shared) (σ:St) (H:Hp) (xs:List V) (us:List Value) (Q:VK),Inv X BU σ H s->Vals xs us->r xs H Q ->
  wpAny (model X.prog X.w) X.A (call f us) (EP X BU σ Q) X.xe s
def Ze(X:Cx)(r:V->Hp->(Bool->Hp->Prop)->Prop):Prop:=
 ∀(BU:List (Addr×Obj)) (s:Shared) (σ:St) (H:Hp) (x:V) (v:Value) (Q:Bool->Hp->Prop),Inv X BU σ H s->RelV x v->r x H Q ->
  wpAny (model X.prog X.w) X.A (truthy v) (TP X BU σ Q) X.xe s
def tOp(r:R2)(ta tb:TE):TE:=fun σ H Q=>ta σ H fun x H1=>tb σ H1 fun y H2=>r x y H2 Q
def tUn(r:V->Hp->VK->Prop)(ta:TE):TE:=fun σ H Q=>ta σ H fun x H1=>r x H1 Q
def rI(C:Int->Int->Prop)(g:Int->Int->V):R2:=fun x y H Q=>∃i j,x=.int i/\y=.int j/\C i j/\Q (g i j) H
def rI0(g:Int->Int->V):R2:=fun x y H Q=>∃i j,x=.int i/\y=.int j/\Q (g i j) H
def rU(g:Int->V):V->Hp->VK->Prop:=fun x H Q=>∃i,x=.int i/\Q (g i) H
section
variable{X:Cx}{a b c:Expr}{ta tb tc:TE}{pos:Pos}
theorem Tv(ha:PE X a ta)(hb:PE X b tb){BU:List (Addr×Obj)}{s:Shared}{σ:St}{H:Hp}{R:V->V->Hp->Prop}(I:Inv X BU σ H s)
  (h:ta σ H fun x H1=>tb σ H1 fun y H2=>R x y H2) {Q:Value->Shared->Prop} {f:Value->Value->Sem Value}
  (hf:∀v u s2 x y H2,Inv X BU σ H2 s2->RelV x v->RelV y u->R x y H2->wpAny (model X.prog X.w) X.A (f v u) Q X.xe s2) :
  wpAny (model X.prog X.w) X.A (eval a X.env) (fun v s₁=>wpAny (model X.prog X.w) X.A (eval b X.env) (fun u s₂=>wpAny (model X.prog X.w) X.A (f v u) Q X.xe s₂) X.xe s₁) X.xe s:=by
 refine thn (ha BU s σ H _ I h) fun v s1 ⟨x,H1,I1,r1,q1⟩=>?_;refine thn (hb BU s1 σ H1 _ I1 q1) fun u s2 ⟨y,H2,I2,r2,q2⟩=>?_;exact hf v u s2 x y H2 I2 r1 r2 q2
theorem Wq{op:Operator}{r:R2}(ho:OpR X (binaryOp op) r)(ha:PE X a ta)(hb:PE X b tb):PE X (.BinOp a op b pos) (tOp r ta tb):=by intro BU s σ H Q I h;exact wpAny_BinOp (Tv ha hb I h fun v u s2 x y H2 I2 rx ry q=>ho BU s2 σ H2 x y v u Q I2 rx ry q)
theorem Wu{op:UnaryOp}{r:V->Hp->VK->Prop}(ho:UnR X (unaryOp op) r)(ha:PE X a ta):PE X (.UnaryOp op a pos) (tUn r ta):=by intro BU s σ H Q I h;exact UnaryOp_ (thn (ha BU s σ H _ I h) fun v s1 ⟨x,H1,I1,r1,q1⟩=>ho BU s1 σ H1 x v Q I1 r1 q1)
theorem opI{f:Value->Value->Sem Value}{C:Int->Int->Prop}{g:Int->Int->Int}
  (rule:∀(i j:Int) (t u:Tok) (s:Shared) (Q:Value->Shared->Prop) (E:Value->Shared->Prop),C i j->Q (.int (g i j) s.toks) { s with toks:=s.toks+1 }->wpAny (model X.prog X.w) X.A (f (.int i t) (.int j u)) Q E s) :
  OpR X f (rI C fun i j=>.int (g i j)):=by
 intro BU s σ H x y v u Q I rx ry h;obtain⟨i,j,rfl,rfl,hc,q⟩:=h;obtain⟨t,rfl⟩:=rx;obtain⟨t',rfl⟩:=ry;exact rule i j t t' s _ _ hc ⟨.int (g i j),H,I.tok _,⟨_,rfl⟩,q⟩
theorem Wv{f:Value->Value->Sem Value}{g:Int->Int->Int}
  (rule:∀(i j:Int) (t u:Tok) (s:Shared) (Q:Value->Shared->Prop) (E:Value->Shared->Prop),Q (.int (g i j) s.toks) { s with toks:=s.toks+1 }->wpAny (model X.prog X.w) X.A (f (.int i t) (.int j u)) Q E s) :
  OpR X f (rI0 fun i j=>.int (g i j)):=by
 intro BU s σ H x y v u Q I rx ry h;obtain⟨i,j,rfl,rfl,q⟩:=h;obtain⟨t,rfl⟩:=rx;obtain⟨t',rfl⟩:=ry;exact rule i j t t' s _ _ ⟨.int (g i j),H,I.tok _,⟨_,rfl⟩,q⟩
theorem O3{f:Value->Value->Sem Value}{g:Int->Int->Bool}
  (rule:∀(i j:Int) (t u:Tok) (s:Shared) (Q:Value->Shared->Prop) (E:Value->Shared->Prop),Q (.bool (g i j)) s->wpAny (model X.prog X.w) X.A (f (.int i t) (.int j u)) Q E s) :
  OpR X f (rI0 fun i j=>.bl (g i j)):=by
 intro BU s σ H x y v u Q I rx ry h;obtain⟨i,j,rfl,rfl,q⟩:=h;obtain⟨t,rfl⟩:=rx;obtain⟨t',rfl⟩:=ry;exact rule i j t t' s _ _ ⟨.bl (g i j),H,I,rfl,q⟩
def Ww(i j:Int):Prop:=0<=j/\j<=1000000/\i.natAbs<2 ^ 64
def Lp(i j:Int):Prop:=(-(2 ^ 64)<i/\i<2 ^ 64)\/(-(2 ^ 64)<j/\j<2 ^ 64)
theorem Lp.ok{i j:Int}(h:Lp i j):IntMulOk i j:=by
 rcases h with⟨h1,h2⟩ | ⟨h1,h2⟩
 ·exact .of_left (intBits_le_64 h1 h2)
 ·exact .of_right (intBits_le_64 h1 h2)
theorem Tw:OpR X (binaryOp .Add) (rI0 fun i j=>.int (i+j)):=Wv fun _ _ _ _ _ _ _ q=>add_int q
theorem Tz:OpR X (binaryOp .Sub) (rI0 fun i j=>.int (i-j)):=Wv fun _ _ _ _ _ _ _ q=>sub_int q
theorem TF:OpR X (binaryOp .Mult) (rI Lp fun i j=>.int (i*j)):=opI fun _ _ _ _ _ _ _ hc q=>mul_int q hc.ok
theorem TH:OpR X (binaryOp .Mod) (rI (fun _ j=>0<j) fun i j=>.int (i % j)):=opI fun i j _ _ _ _ _ hc q=>by have h1:(0:Int)<j:=hc;exact mod_int' (by lia) (by rw[Int.fmod_eq_emod_of_nonneg i (by lia)];exact q)
theorem TJ:OpR X (binaryOp .Pow) (rI Ww fun i j=>.int (i ^ j.toNat)):=opI fun _ _ _ _ _ _ _ hc q=>pow_int_small hc.1 hc.2.1 hc.2.2 q
theorem unI{f:Value->Sem Value}{g:Int->Int}
  (rule:∀(i:Int) (t:Tok) (s:Shared) (Q:Value->Shared->Prop) (E:Value->Shared->Prop),Q (.int (g i) s.toks) { s with toks:=s.toks+1 }->wpAny (model X.prog X.w) X.A (f (.int i t)) Q E s) :
  UnR X f (rU fun i=>.int (g i)):=by
 intro BU s σ H x v Q I rx h;obtain⟨i,rfl,q⟩:=h;obtain⟨t,rfl⟩:=rx;exact rule i t s _ _ ⟨.int (g i),H,I.tok _,⟨_,rfl⟩,q⟩
theorem TL:UnR X (unaryOp .USub) (rU fun i=>.int (-i)):=unI fun _ _ _ _ _ q=>neg_int q
end
section
variable{X:Cx}{a b c:Expr}{ta tb tc:TE}{pos:Pos}
theorem RD:OpR X (compareOp .Lt) (rI0 fun i j=>.bl (decide (i<j))):=O3 fun _ _ _ _ _ _ _ q=>lt_int q
theorem Lq:OpR X (compareOp .LtE) (rI0 fun i j=>.bl (decide (i<=j))):=O3 fun _ _ _ _ _ _ _ q=>le_int q
theorem Wx:OpR X (compareOp .Gt) (rI0 fun i j=>.bl (decide (j<i))):=O3 fun _ _ _ _ _ _ _ q=>gt_int q
theorem Wy:OpR X (compareOp .GtE) (rI0 fun i j=>.bl (decide (j<=i))):=O3 fun _ _ _ _ _ _ _ q=>ge_int q
theorem OpR.or{f:Value->Value->Sem Value}{r r':R2}(h:OpR X f r)(h':OpR X f r'):OpR X f (fun x y H Q=>r x y H Q\/r' x y H Q):=by
 intro BU s σ H x y v u Q I rx ry q;rcases q with q | q
 ·exact h BU s σ H x y v u Q I rx ry q
 ·exact h' BU s σ H x y v u Q I rx ry q
theorem j7(b:Expr){op:CmpOp}(h:op≠.In:=by decide)(h2:op≠.NotIn:=by decide):behindInMarks op b=false:=by
 have e1:(op == CmpOp.In)=false:=by cases op<;>first | rfl | exact absurd rfl h
 have e2:(op == CmpOp.NotIn)=false:=by cases op<;>first | rfl | exact absurd rfl h2
 cases b<;>simp[behindInMarks,e1,e2]
theorem O4{op:CmpOp}{r:R2}(ho:OpR X (compareOp op) r)(ha:PE X a ta)(hb:PE X b tb)(hm:behindInMarks op b=false):PE X (.Compare a [op] [b] pos) (tOp r ta tb):=by intro BU s σ H Q I h;exact wpAny_Compare1 (Tv ha hb I h fun v u s2 x y H2 I2 rx ry q=>ho BU s2 σ H2 x y v u Q I2 rx ry q) hm
def RG(t:TE):TT:=fun σ H Q=>t σ H fun x H'=>∃k,x=.bl k/\Q k H'
theorem O5{op:CmpOp}{r:R2}(ho:OpR X (compareOp op) r)(ha:PE X a ta)(hb:PE X b tb)(hm:behindInMarks op b=false):PT X (.Compare a [op] [b] pos) (RG (tOp r ta tb)):=by
 intro BU s σ H Q I h;refine wpAny_isTrue_Compare1 (thn (ha BU s σ H _ I h) fun v s1 ⟨x,H1,I1,r1,q1⟩=>thn (hb BU s1 σ H1 _ I1 q1) fun u s2 ⟨y,H2,I2,r2,q2⟩=>thn (ho BU s2 σ H2 x y v u _ I2 r1 r2 q2) fun c s3 ⟨z,H3,I3,r3,k,e,q3⟩=>?_) hm
 subst e;cases r3;exact wpAny_truthy_bool ⟨H3,I3,q3⟩
def Lr(r r':R2)(ta tb tc:TE):TE:=fun σ H Q=>ta σ H fun x H1=>tb σ H1 fun y H2=>r x y H2 fun z H3=>∃k,z=.bl k /\
 (if k=true then tc σ H3 fun w' H4=>r' y w' H4 Q else Q (.bl false) H3)
theorem Ls{op op':CmpOp}{r r':R2}(ho:OpR X (compareOp op) r)(ho':OpR X (compareOp op') r')(ha:PE X a ta)(hb:PE X b tb)(hc:PE X c tc)
  (hm:lastMarks [op,op'] [b,c]=false:=by with_unfolding_all rfl):PE X (.Compare a [op,op'] [b,c] pos) (Lr r r' ta tb tc):=by
 intro BU s σ H Q I h;refine Compare_chain (thn (ha BU s σ H _ I h) fun v s1 ⟨x,H1,I1,r1,q1⟩=>chain_link (thn (hb BU s1 σ H1 _ I1 q1) fun u s2 ⟨y,H2,I2,r2,q2⟩=>thn (ho BU s2 σ H2 x y v u _ I2 r1 r2 q2) fun d s3 ⟨z,H3,I3,r3,k,e,q3⟩=>?_)) hm
 subst e;cases r3;refine wpAny_truthy_bool ?_;cases k with
 |false=>exact ite_ff ⟨.bl false,H3,I3,rfl,q3⟩
 |true=>exact ite_tt (chain_last (thn (hc BU s3 σ H3 _ I3 q3) fun w' s4 ⟨z',H4,I4,r4,q4⟩=>ho' BU s4 σ H4 y z' u w' Q I4 r2 r4 q4))
def TM(K:Dk)(x:V)(H:Hp)(k:Bool):Prop:=
 match x with
 |.non=>k=false
 |.bl b=>k=b
 |.int i=>k=(i != 0)
 |.str y=>y.length<=sizeLine/\k=((y.length:Int) != 0)
 |.byt y=>y.size<=sizeLine/\k=((y.size:Int) != 0)
 |.ref p=>(∃xs,SqL K H p xs/\k=!xs.isEmpty)\/(∃xs,SqT K H p xs/\k=!xs.isEmpty)\/∃kvs,H p=some (.dK kvs)/\k=!kvs.isEmpty
 |_=>False
theorem GB{κ:Type}{kvs:List (κ×V)}{vs:List (κ×Value)}(r:KV kvs vs):(!vs.isEmpty)=!kvs.isEmpty:=by cases r<;>rfl
theorem zM{xs:List V}{its:List Value}(r:Vals xs its):(!its.toArray.isEmpty)=!xs.isEmpty:=by cases r<;>simp
theorem zN:(sizeLine:Nat)<2 ^ 63:=by rw[sizeLine_eq];decide
theorem TN:Ze X (fun x H Q=>∃k,TM X.K x H k/\Q k H):=by
 intro BU s σ H x v Q I rx h;obtain⟨k,e,q⟩:=h;have hl:=zN;have hs:sizeLine=16777216:=sizeLine_eq;cases x with
 |non=>cases rx;have e':k=false:=e;subst e';exact truthy_none ⟨H,I,q⟩
 |bl b=>cases rx;have e':k=b:=e;subst e';exact wpAny_truthy_bool ⟨H,I,q⟩
 |int i=>obtain⟨t,rfl⟩:=rx;have e':k=(i != 0):=e;subst e';exact PySem.P.truthy_int ⟨H,I,q⟩
 |str y=>obtain⟨t,rfl⟩:=rx;obtain⟨hy,e'⟩:y.length<=sizeLine/\k=((y.length:Int) != 0):=e;subst e';exact PySem.P.truthy_str (by lia) ⟨H,I.tok _,q⟩
 |byt y=>obtain⟨t,rfl⟩:=rx;obtain⟨hy,e'⟩:y.size<=sizeLine/\k=((y.size:Int) != 0):=e;subst e';exact PySem.W.truthy_bytes (by lia) ⟨H,I.tok _,q⟩
 |ref p=>
  cases rx;have e':(∃xs,SqL X.K H p xs/\k=!xs.isEmpty)\/(∃xs,SqT X.K H p xs/\k=!xs.isEmpty)\/∃kvs,H p=some (.dK kvs)/\k=!kvs.isEmpty:=e;rcases e' with⟨xs,hx,e'⟩ | ⟨xs,hx,e'⟩ | ⟨kvs,hx,e'⟩
  ·subst e';obtain⟨its,r,pl,hz⟩:=I.list hx;have Fp:=r.length;exact wpAny_truthy_list pl.isList (by simp only[aai];lia) ⟨H,I.tok _,by rw[zM r];exact q⟩
  ·subst e';obtain⟨its,r,pl,hz⟩:=I.tuple hx;have Fp:=r.length;exact truthy_tuple pl (by simp only[aai];lia) ⟨H,I.tok _,by rw[zM r];exact q⟩
  ·subst e';obtain⟨hz,hS,vs,r,m⟩:kvs.length<=sizeLine/\(p == sysModules)=false/\∃vs,KV kvs vs/\s.heap.DictOf (bB X.prog X.w) p vs:=I.hok p _ hx;have Fp:kvs.length=vs.length:=Paired.length r;exact wpAny_truthy_dict hS m (by lia) ⟨H,I.tok _,by rw[GB r];exact q⟩
 |_=>exact(show False from e).elim
theorem Lu(ha:PE X a ta)(he:∀whole,isTrue a X.env whole=(do let v <- whole;standAt a.pos;holding [v] (truthy v))) :
  PT X a (fun σ H Q=>ta σ H fun x H'=>∃k,TM X.K x H' k/\Q k H'):=by
 intro BU s σ H Q I h;exact isTrue_plain (thn (ha BU s σ H _ I h) fun v s1 ⟨x,H1,I1,r1,q1⟩=>TN BU s1 σ H1 x v Q I1 r1 q1) (he _)
theorem vals1{x:V}{us:List Value}(r:Vals [x] us):∃u,us=[u]/\RelV x u:=by
 cases r with
 |cons r1 r2=>cases r2;exact⟨_,rfl,r1⟩
theorem vals2{x y:V}{us:List Value}(r:Vals [x,y] us):∃u w',us=[u,w']/\RelV x u/\RelV y w':=by
 cases r with
 |cons r1 r2=>
  cases r2 with
  |cons r3 r4=>cases r4;exact⟨_,_,rfl,r1,r3⟩
theorem JX(hc:X.calm=true):iz X (.builtin "max") (fun xs H Q=>∃i j,xs=[.int i,.int j]/\Q (.int (if j>i then j else i)) H):=by
 intro BU s σ H xs us Q I r h;obtain⟨i,j,rfl,q⟩:=h;obtain⟨u,w',rfl,⟨t,rfl⟩,⟨t',rfl⟩⟩:=vals2 r;refine max_two_ints (I.ok.hd hc) fun h' tk k=>⟨_,H,I.kept k,?_,q⟩;by_cases hj:j>i
 ·rw[if_pos hj,if_pos hj];exact⟨_,rfl⟩
 ·rw[if_neg hj,if_neg hj];exact⟨_,rfl⟩
theorem JY(hc:X.calm=true):iz X (.builtin "min") (fun xs H Q=>∃i j,xs=[.int i,.int j]/\Q (.int (if j<i then j else i)) H):=by
 intro BU s σ H xs us Q I r h;obtain⟨i,j,rfl,q⟩:=h;obtain⟨u,w',rfl,⟨t,rfl⟩,⟨t',rfl⟩⟩:=vals2 r;refine min_two_ints (I.ok.hd hc) fun h' tk k=>⟨_,H,I.kept k,?_,q⟩;by_cases hj:j<i
 ·rw[if_pos hj,if_pos hj];exact⟨_,rfl⟩
 ·rw[if_neg hj,if_neg hj];exact⟨_,rfl⟩
end
section
variable{mA:Str->Option Value}{h:Heap}
structure TQ(h:Heap)(x dx C:Addr)(mA:Str->Option Value):Prop where
 obj:h.get? x=some (acL C dx)
 ns:h.Ns1 dx mA
 ne:dx≠x
theorem JZ{dx:Addr}(n:h.Ns1 dx mA):∃od,h.get? dx=some od/\∀name,acS name od=some (mA name):=by
 obtain⟨o,es,ep,ho,hd,hk,_,hm⟩:=n;refine⟨o,ho,fun name=>?_⟩;have e:=hm name;unfold nsFind findBy at e;rw[<- acp]at e;unfold acS;rw[hd];dsimp only;split
 ·rename_i y q;rw[q]at e;exact congrArg some e
 ·rename_i q;rw[q]at e;have a:es.toList.any (·.refKey)=false:=by
   rw[List.any_eq_false];intro y hy;obtain⟨z,t,hkey⟩:=hk y (Array.mem_toList_iff.mp hy);simp[DictEntry.refKey,hkey]
  have a':¬es.toList.any (·.refKey)=true:=by rw[a];exact aaz
  rw[if_neg a'];exact congrArg some e
theorem TQ.look{x dx C:Addr}(I:TQ h x dx C mA):∃od,PySem.W.InstAt h x (acL C dx) C (some od)/\∀name,acS name od=some (mA name):=
 let ⟨od,ho,hl⟩:=JZ I.ns
 ⟨od,⟨I.obj,rfl,rfl,ho⟩,hl⟩
theorem rz.some_of{v:V}{o:Option Value}(r:rz (some v) o):∃u,o=some u/\RelV v u:=by
 cases o with
 |none=>exact(show False from r).elim
 |some u=>exact⟨u,rfl,r⟩
end
section
variable{P:Program}{w:World}{H H':Hp}{h h':Heap}{a C dx:Addr}{fs fs':List (Str×V)}
theorem O6(hok:HOk P w H h)(e:H a=some (.ins C dx fs)):∃mA,TQ h a dx C mA/\(∀f,rz (fs.lookup f) (mA f))/\PySem.Within mA (fs.map (·.1))/\fs.length<=1000/\H dx=some (.own a):=by
 obtain⟨d,z,ne,ob,mA,n,r,q⟩:=(show bR P w H h a (.ins C dx fs) from hok a _ e)
 exact⟨mA,⟨ob,n,ne⟩,r,q,z,d⟩
end
structure Cls(K:Dk)(C:Addr):Prop where
 pg:PySem.W.plainGet K C Str.empty=true
 hd:acz K C=true
 po:PySem.W.plainOver K C=true
 sa:aaf K (.ref C) "__setattr__" = some (some (.builtin "object.__setattr__"))
theorem Cls.get{K:Dk}{C:Addr}(c:Cls K C)(f:Str):PySem.W.plainGet K C f=true:=c.pg
section
variable{X:Cx}{BU:List (Addr×Obj)}{σ:St}{H:Hp}{s:Shared}{A:Around}{E:Value->Shared->Prop}{Q:Value->Shared->Prop}{c:Value}{b:Bool}
inductive uN(K:Dk)(H:Hp):V->Value->Prop where
 |non:uN K H .non (.type "NoneType")
 |bl (x:Bool):uN K H (.bl x) (.type "bool")
 |int (i:Int):uN K H (.int i) (.type "int")
 |str (x:Str):uN K H (.str x) (.type "str")
 |flt (x:UInt64):uN K H (.flt x) (.type "float")
 |lst {a:Addr} {xs:List V} (e:H a=some (.lst xs)):uN K H (.ref a) (.type "list")
 |frz {a:Addr} {o:Obj} {xs:List V} (e:H a=some (.frz o (.lst xs))):uN K H (.ref a) (.type "list")
 |tup {a:Addr} {xs:List V} (e:H a=some (.tup xs)):uN K H (.ref a) (.type "tuple")
 |dK {a:Addr} {kvs:List (Key×V)} (e:H a=some (.dK kvs)):uN K H (.ref a) (.type "dict")
 |dT {a:Addr} {kvs:List (List Key×V)} {ts:List Addr} (e:H a=some (.dT kvs ts)):uN K H (.ref a) (.type "dict")
 |ins {a C dx:Addr} {fs:List (Str×V)} (e:H a=some (.ins C dx fs)) (cl:Cls K C) (ha:aaf K (.ref C) "__class__" = some (some (.builtin "object.__class__")))
   (hn:acA K (.builtin "object.__class__") "__get__" = some (some (.builtin "getset_descriptor.__get__"))) (htk:PySem.W.takesIn K (.builtin "object.__class__")=some true)
   (hm:aaD K C (.type "object")=some true):uN K H (.ref a) (.ref C)
theorem J0{x:V}{u t:Value}(I:Inv X BU σ H s)(rx:RelV x u)(ty:uN X.K H x t)(e:eg X.K t c=some b)(h:∀tk,Q (.bool b) { s with toks:=tk }) :
  wpAny (model X.prog X.w) A (call (.builtin "isinstance") [u,c]) Q E s:=by
 cases ty with
 |non=>cases (show u=Value.none from rx);exact aa4 PySem.W.kitx_none I.kIn abl e (fun z=>nomatch z) h
 |bl y=>cases (show u=ac0 y from rx);exact aa4 PySem.W.kitx_bool I.kIn abl e (fun z=>nomatch z) h
 |int i=>obtain⟨t,q⟩:=(show ∃t,u=aco i t from rx);cases q;exact aa4 PySem.W.kitx_int I.kIn abl e (fun z=>nomatch z) h
 |str y=>obtain⟨t,q⟩:=(show ∃t,u=acK y t from rx);cases q;exact aa4 PySem.W.kitx_str I.kIn abl e (fun z=>nomatch z) h
 |flt y=>obtain⟨t,q⟩:=(show ∃t,u=Value.float y t from rx);cases q;exact aa4 PySem.W.kitx_float I.kIn abl e (fun z=>nomatch z) h
 |@lst a xs ea=>
  cases (show u=aaB a from rx);obtain⟨_,_,n,_,h1⟩:=(show bR X.prog X.w H s.heap a (.lst xs) from I.hok a _ ea)
  exact aa4 PySem.W.kitx_list I.kIn ⟨_,h1,rfl⟩ e (fun z=>nomatch z) h
 |@frz a ob xs ea=>
  cases (show u=aaB a from rx);obtain⟨_,_,_,n,_,h1⟩:=(show bR X.prog X.w H s.heap a (.frz ob (.lst xs)) from I.hok a _ ea)
  exact aa4 PySem.W.kitx_list I.kIn ⟨_,h1,rfl⟩ e (fun z=>nomatch z) h
 |@tup a xs ea=>
  cases (show u=aaB a from rx);obtain⟨_,_,_,p⟩:=(show bR X.prog X.w H s.heap a (.tup xs) from I.hok a _ ea)
  obtain⟨o,h1,h2,_⟩:=p;exact aa4 PySem.W.kitx_tuple I.kIn ⟨o,h1,h2⟩ e (fun z=>nomatch z) h
 |@dK a kvs ea=>
  cases (show u=aaB a from rx);obtain⟨_,_,vs,_,p⟩:=(show bR X.prog X.w H s.heap a (.dK kvs) from I.hok a _ ea)
  obtain⟨o,es,ep,h1,h2,_⟩:=p;exact aa4 PySem.W.kitx_dict I.kIn ⟨o,h1,h2.1⟩ e (fun z=>nomatch z) h
 |@dT a kvs ts ea=>
  cases (show u=aaB a from rx);obtain⟨_,_,xs,_,o,es,ep,h1,h2,_⟩:=(show bR X.prog X.w H s.heap a (.dT kvs ts) from I.hok a _ ea)
  exact aa4 PySem.W.kitx_dict I.kIn ⟨o,h1,h2.1⟩ e (fun z=>nomatch z) h
 |@ins a C dx fs ea cl ha hn htk hm=>cases (show u=aaB a from rx);obtain⟨mA,O,_⟩:=O6 I.hok ea;obtain⟨od,J,_⟩:=O.look;exact aa4 (PySem.W.kitx_own (cl.get _) cl.hd ha hn htk hm) I.kIn J e (fun z=>nomatch z) h
end
section
variable{A:Around}{k:Nat}
structure b9(k:Nat)(A:Around):Prop where
 hd:A.handled=none
 dp:A.depth+3*k+5<recursionLimit
 un:A.units+16*k+200<cLine
 gd:A.guards=some []
theorem b9.mono{j k:Nat}(r:b9 k A)(h:j<=k):b9 j A:=⟨r.hd,by have:=r.dp;lia,by have:=r.un;lia,r.gd⟩
theorem b9.deeper(r:b9 (k+1) A)(env:Env):b9 k (A.deeper env):=
 ⟨r.hd,by have:=r.dp;show A.depth+1+3*k+5<_;lia,by have:=r.un;show A.units+3+16*k+200<_;lia,r.gd⟩
theorem b9.depth(r:b9 k A):A.depth<recursionLimit:=by have:=r.dp;lia
theorem b9.units(r:b9 k A):A.units+64<cLine:=by have:=r.un;lia
def CU:TA:=fun _ H Q=>Q [] H
def xR(ta:TE)(tr:TA):TA:=fun σ H Q=>ta σ H fun x H1=>tr σ H1 fun xs H2=>Q (x::xs) H2
end
section
variable{X:Cx}{e:Expr}{es:List Expr}{te:TE}{t:TA}{pos:Pos}
theorem oz:PA X [] CU:=fun _ _ _ _ H Q I h=>abR ⟨[],H,I,.nil,h⟩
theorem kD(ha:PE X e te)(hr:PA X es t)(hs:starEach (e::es) X.env=(false,eval e X.env)::starEach es X.env:=by rfl):PA X (e::es) (xR te t):=by intro pos BU s σ H Q I h;rw[hs];show wpAny _ _ (spliced ((false,eval e X.env)::backTo pos (starEach es X.env))) _ _ s;refine ab3 (thn (ha BU s σ H _ I h) fun u s1 ⟨x,H1,I1,r1,q1⟩=>?_);exact thn (hr pos BU s1 σ H1 _ I1 q1) fun us s2 ⟨xs,H2,I2,r2,q2⟩=>⟨x::xs,H2,I2,.cons r1 r2,q2⟩
def Wz(t:TA):TE:=fun σ H Q=>t σ H fun xs H1=>xs.length<=sizeLine/\∀p,H1 p=none->Q (.ref p) (upd H1 p (.tup xs))
def Lv(t:TA):TE:=fun σ H Q=>t σ H fun xs H1=>xs.length<=sizeLine/\∀p,H1 p=none->Q (.ref p) (upd H1 p (.lst xs))
theorem TR{x1}(h:PA X es t):PE X (.Tuple es x1 pos) (Wz t):=by intro BU s σ H Q I hq;refine wpAny_Tuple_spliced (thn (h pos BU s σ H _ I hq) fun us s1 ⟨xs,H1,I1,r,z,q⟩=>⟨by rw[<- r.length];exact z,?_⟩);have hf:H1 s1.heap.objs.size=none:=I1.hok.fresh (aab _);refine⟨.ref s1.heap.objs.size,upd H1 s1.heap.objs.size (.tup xs),I1.laid (t':=s1.toks) (fun b u e=>aac _ e) (aab _) ?_,rfl,q _ hf⟩;exact⟨z,us,r,⟨_,aaJ _ rfl,rfl,_,rfl⟩⟩
theorem GC(h:PA X es t):PE X (.List es pos) (Lv t):=by intro BU s σ H Q I hq;refine wpAny_List_spliced (thn (h pos BU s σ H _ I hq) fun us s1 ⟨xs,H1,I1,r,z,q⟩=>⟨by rw[<- r.length];exact z,?_⟩);have hf:H1 s1.heap.objs.size=none:=I1.hok.fresh (aab _);refine⟨.ref s1.heap.objs.size,upd H1 s1.heap.objs.size (.lst xs),I1.laid (t':=s1.toks) (fun b u e=>aac _ e) (aab _) ?_,rfl,q _ hf⟩;exact⟨z,us,0,r,aaJ _ rfl⟩
end
noncomputable abbrev Sp:=List V->Hp->VK->XK->Prop
noncomputable abbrev CXT:=List Env->Hp->Shared->XK->Value->Shared->Prop
structure O7(P:Program)(w:World)(K:Dk)(mg:Str->Option Value)(base:Heap)(A:Around)(outer:List Env)(s:Shared)(H:Hp):Prop where
 frames:A.frames=some outer
 mod:Mod K mg base
 bs:∀b o,base.get? b=some o->s.heap.get? b=some o/\H b=none
 bsz:base.objs.size<=s.heap.objs.size
 yx:s.heap.FunFrames base outer
 frf:∀b∈frs outer,H b=none
 hok:HOk P w H s.heap
 bare:AllBare s.gens
def CE(outer:List Env)(P:Program)(w:World)(H:Hp)(s:Shared)(Q:VK)(u:Value)(s':Shared):Prop:=
 ∃v H',s'.os=s.os/\AllBare s'.gens/\Un (frs outer) [] H H' s.heap s'.heap/\HOk P w H' s'.heap/\RelV v u/\Q v H'
def CR(CX:CXT)(outer:List Env)(P:Program)(w:World)(H:Hp)(s:Shared)(Q:VK)(E:XK)(r:Result)(s':Shared):Prop:=
 match r with
 |.ok (.ret u)=>CE outer P w H s Q u s'
 |.ok _=>False
 |.error e=>CX outer H s E e s'
structure bI(P:Program)(w:World)(K:Dk)(mg:Str->Option Value)(base:Heap)(CX:CXT)(k:Nat)(f:Addr)(fd:FuncData)(ps:List Str)(sp:Sp):Prop where
 len:∀vs H Q E,sp vs H Q E->vs.length=ps.length
 run:∀(A:Around) (outer:List Env) (s:Shared) (H:Hp) (args:Args) (us:List Value) (vs:List V) (Q:VK) (E:XK),b9 k A->O7 P w K mg base A outer s H->BindsTo s fd args (ps.zip us)->Vals vs us->sp vs H Q E ->
  codeAny (model P w) A (.call (.ref f) args) (CR CX outer P w H s Q E) s
section
variable{X:Cx}{BU:List (Addr×Obj)}{σ:St}{H:Hp}{s s':Shared}
theorem Inv.WC(I:Inv X BU σ H s):O7 X.prog X.w X.K X.mg X.base X.A X.stack s H:=
 ⟨I.ok.frames,I.ok.mod,I.bs,aaE I.ok.bsz I.sz,I.stack,I.CS,I.hok,I.bare⟩
theorem Inv.after{Q:VK}{u:Value}(I:Inv X BU σ H s)(h:CE X.stack X.prog X.w H s Q u s'):EP X BU σ Q u s':=by obtain⟨v,H',os,bare,un,hok,r,q⟩:=h;obtain⟨hh,g,d,t,os'⟩:=s';obtain rfl:os'=s.os:=os;exact⟨v,H',I.call (h':=hh) (g':=g) (d':=d) (t':=t) (ch:=[]) un hok bare (fun b z=>absurd z (by simp)),r,q⟩
end
def zO(sp:Sp)(dvs:List V)(E:XK)(t:TA):TE:=fun σ H Q=>t σ H fun vs H1=>sp (vs++dvs) H1 Q E
def Binds(K:Dk)(fd:FuncData)(ps:List Str)(ds:List Value):Prop:=
 ∀(s:Shared) (us:List Value),K.In s.heap->(us++ds).length=ps.length->BindsTo s fd ⟨us,[]⟩ (ps.zip (us++ds))
theorem Binds.all{K:Dk}{fd:FuncData}{ps:List Str}(h:∀us:List Value,us.length=ps.length->bindArgs fd ⟨us,[]⟩=pure (ps.zip us)):Binds K fd ps []:=fun s us _ hl=>by rw[aaP]at hl ⊢;exact .of_eq (h us hl)
def Passes(CX:CXT)(X:Cx)(E:XK):Prop:=∀(BU:List (Addr×Obj)) (σ:St) (H:Hp) (s:Shared) (e:Value) (s':Shared),Inv X BU σ H s->CX X.stack H s E e s'->X.xe e s'
section
variable{X:Cx}{CX:CXT}{k:Nat}{f C:Addr}{fd:FuncData}{ps:List Str}{sp:Sp}{dvs:List V}{ds:List Value}{E:XK}{x m:Str}{p pos Nd:Pos}{e o:Expr}{es:List Expr}{ta:TE}{t:TA}
theorem Lw{BU:List (Addr×Obj)}{σ:St}{H:Hp}{s:Shared}{Q:VK}{us:List Value}{vs:List V}(F:bI X.prog X.w X.K X.mg X.base CX k f fd ps sp)(hr:b9 k X.A)(hb:Binds X.K fd ps ds)(hd:Vals dvs ds)(hx:Passes CX X E)
  (I:Inv X BU σ H s) (r:Vals vs us) (h:sp (vs++dvs) H Q E):wpAny (model X.prog X.w) X.A (call (.ref f) us) (EP X BU σ Q) X.xe s:=by
 have r2:Vals (vs++dvs) (us++ds):=r.append hd;have hl:(us++ds).length=ps.length:=by rw[<- r2.length];exact F.len _ _ _ _ h
 refine wpAny_call (codeAny_mono (F.run X.A X.stack s H ⟨us,[]⟩ (us++ds) (vs++dvs) Q E hr I.WC (hb s us I.kIn hl) r2 h) fun r s' hq=>?_);cases r with
 |error e=>exact hx BU σ H s e s' I hq
 |ok fl=>
  cases fl with
  |ret u=>exact I.after hq
  |next=>exact aat hq
  |brk=>exact aat hq
  |cont=>exact aat hq
theorem zq(F:bI X.prog X.w X.K X.mg X.base CX k f fd ps sp)(hr:b9 k X.A)(hg:Gl X x)(hm:X.mg x=some (.ref f))(hk:aaW X.K (.ref f)=true)(hb:Binds X.K fd ps ds)(hd:Vals dvs ds)(hx:Passes CX X E)
  (ha:PA X (e::es) t) (XW:(x == ("__debug__" : Str))=false:=by decide) (he:starEach (e::es) X.env=(false,eval e X.env)::starEach es X.env:=by rfl) (KD:(backTo pos (starEach es X.env)).any (·.1)=false:=by rfl) :
  PE X (.Call (.Name x p) (e::es) [] pos) (zO sp dvs E t):=by
 intro BU s σ H Q I h;refine wpAny_Call_Name_kw (uI I hg hm ?_ XW);refine acq (h₀:=X.base) I.ok.mod.kin hk (thn (ha pos BU s σ H _ I h) fun us s1 ⟨vs,H1,I1,r,q⟩=>⟨I1.kIn,?_⟩) he KD;exact Lw F hr hb hd hx I1 r q
end
section
variable{x:Str}{v:Value}
structure aN(N P:List Str)(sc:Scope):Prop where
 kind:sc.kind=.function
 co:sc.isCoroutine=false
 gen:sc.isGenerator=false
 nd:N.Nodup
 pre:N.take P.length=P
 par:∀x∈P,sc.names.lookup x=some .local\/sc.names.lookup x=some .cell
 TU:∀y∈sc.names,y.2≠.free
theorem B5{kindOf:Str->Option NameKind}:∀{binds:List (Str×Value)} {m:Str->Option Value},(∀v,(x,v)∉binds)->bindL kindOf binds m x=m x
 |[],_,_=>rfl
 |(n,v)::r,m,h=>by
  unfold bindL;rw[B5 fun w hw=>h w (Ds _ hw)];split
  ·have:x≠n:=by rintro rfl;exact h v PU
   simp[this]
  ·rfl
theorem B6{kindOf:Str->Option NameKind}:∀{binds:List (Str×Value)} {m:Str->Option Value},(∀v,(x,v)∉binds)->bindC kindOf binds m x=m x
 |[],_,_=>rfl
 |(n,v)::r,m,h=>by
  unfold bindC;rw[B6 fun w hw=>h w (Ds _ hw)];split
  ·rfl
  ·have:x≠n:=by rintro rfl;exact h v PU
   simp[this]
theorem B7{kindOf:Str->Option NameKind}:∀{P:List Str} {vs:List Value} {i:Nat} {m:Str->Option Value},P.Nodup->P[i]?=some x->vs[i]?=some v->kindOf x=some .local ->
  bindL kindOf (P.zip vs) m x=some v
 |[],_,_,_,_,h,_,_=>by simp at h
 |_::_,[],_,_,_,_,h,_=>by simp at h
 |p::P,w::vs,0,m,nd,h1,h2,hk=>by simp at h1 h2;subst h1;subst h2;show bindL kindOf ((p,w)::P.zip vs) m p=_;unfold bindL;rw[B5 fun v hv=>(aal.mp nd).1 (acO hv).1,if_pos hk];simp
 |p::P,w::vs,i+1,m,nd,h1,h2,hk=>by show bindL kindOf ((p,w)::P.zip vs) m x=_;unfold bindL;exact B7 (i:=i) (aal.mp nd).2 (by simpa using h1) (by simpa using h2) hk
theorem B8{kindOf:Str->Option NameKind}:∀{P:List Str} {vs:List Value} {i:Nat} {m:Str->Option Value},P.Nodup->P[i]?=some x->vs[i]?=some v->kindOf x≠some .local ->
  bindC kindOf (P.zip vs) m x=some v
 |[],_,_,_,_,h,_,_=>by simp at h
 |_::_,[],_,_,_,_,h,_=>by simp at h
 |p::P,w::vs,0,m,nd,h1,h2,hk=>by simp at h1 h2;subst h1;subst h2;show bindC kindOf ((p,w)::P.zip vs) m p=_;unfold bindC;rw[B6 fun v hv=>(aal.mp nd).1 (acO hv).1,if_neg hk];simp
 |p::P,w::vs,i+1,m,nd,h1,h2,hk=>by show bindC kindOf ((p,w)::P.zip vs) m x=_;unfold bindC;exact B8 (i:=i) (aal.mp nd).2 (by simpa using h1) (by simpa using h2) hk
noncomputable def start(N:List Str)(vs:List V):St:=vs.map some++Dp (N.length-vs.length) none
noncomputable def n_(CX:CXT)(P:Program)(w:World)(K:Dk)(mg:Str->Option Value)(base:Heap)(N:List Str)(qual:Str)(scope:Scope)(f:Addr)(cd:Value)(A:Around)(outer:List Env)(s:Shared)(H:Hp)(E:XK):Cx where
 prog:=P
 w:=w
 K:=K
 mg:=mg
 base:=base
 A:=A.deeper (envOfC qual scope s.heap.objs.size f cd)
 N:=N
 s₀:=s
 H₀:=H
 env:=envOfC qual scope s.heap.objs.size f cd
 outer:=outer
 stack:=envOfC qual scope s.heap.objs.size f cd::outer
 ex:=[]
 calm:=true
 fn:=fun _=>true
 pn:=[]
 xe:=fun e s'=>wpAny (model P w) (A.deeper (envOfC qual scope s.heap.objs.size f cd)) (leaving (envOfC qual scope s.heap.objs.size f cd) e) (fun _ s''=>CX outer H s E e s'') (fun e' s''=>CX outer H s E e' s'') s'
theorem Ei{sc:Scope}{n:Nat}(h:sc.names.lookup x=some .cell):∃c,(cellsFrom n sc.names []).lookup x=some c:=by have q:=PySem.W.cellsFrom_some sc.names n [] (.inl h);exact aaH.mp q
theorem J2{CX:CXT}{P:Program}{w:World}{K:Dk}{mg:Str->Option Value}{base:Heap}{N ps:List Str}{qual:Str}{scope:Scope}{f:Addr}{cd:Value}{A:Around}{outer:List Env}{s s1:Shared}{H:Hp}{E:XK}{us:List Value}{vs:List V}
  (S:aN N ps scope) (hd:A.handled=none) (e0:O7 P w K mg base A outer s H) (hl:vs.length=ps.length) (r:Vals vs us)
  (x:InCallC s s.heap.objs.size (bindL (envOfC qual scope s.heap.objs.size f cd).kindOf (ps.zip us) fun _=>none) (cellsFrom (s.heap.objs.size+1) scope.names []) (bindC (envOfC qual scope s.heap.objs.size f cd).kindOf (ps.zip us) fun _=>none) s1) :
  Inv (n_ CX P w K mg base N qual scope f cd A outer s H E) [] (start N vs) H s1:=by
 have KD:ps.length<=N.length:=by have:=congrArg List.length S.pre;rw[aa7]at this;lia
 obtain⟨h1,tk,rfl,hk⟩:=x.done;have noA:∀b:Addr,b∉(n_ CX P w K mg base N qual scope f cd A outer s H E).ex:=fun b z=>absurd (show b∈([]:List Addr) from z) (by simp);refine ⟨⟨e0.mod,S.kind,rfl,rfl,aab _,fun y z c h1 h2=>?_,fun y hy=>?_,fun y c _ h=>?_,fun _=>hd,Around.frames_deeper e0.frames,.inr ⟨rfl,rfl⟩,fun b z=>absurd z (noA b),e0.bs,e0.bsz,fun b _ _=>noA b,fun b z=>absurd z (noA b),e0.yx,e0.frf⟩,
  rfl,e0.bare,Un.kept hk,⟨_,x.toInCall.ns,fun i y v h1 h2 h3=>?_⟩,fun y c h=>⟨_,x.cell y c h⟩,e0.hok.fresh (aab _),fun y c h=>?_,fun p hp=>absurd (show p∈([]:List (Addr×Obj)) from hp) (by simp),e0.hok.kept hk,?_⟩
 ·exact name_of_addr x.apart (PySem.mem_of_lookup h1) (PySem.mem_of_lookup h2)
 ·have hy:scope.names.lookup y=some .cell\/scope.names.lookup y=some .free:=hy;rcases hy with hy | hy
  ·exact Ei hy
  ·exact absurd rfl (S.TU _ (PySem.mem_of_lookup hy))
 ·exact acH (x.above y c (PySem.mem_of_lookup h))
 ·have hi:i<vs.length:=by
   unfold start at h2;by_cases hi:i<vs.length
   ·exact hi
   ·rw[aav (by simpa using hi)]at h2;rw[aaK]at h2;split at h2<;>cases h2
  have ha:vs[i]?=some v:=by
   unfold start at h2;rw[aae (by simpa using hi),aao]at h2;cases e:vs[i]? with
   |none=>rw[e]at h2;cases h2
   |some a=>rw[e]at h2;cases h2;rfl
  obtain⟨u,hu,rv⟩:=r.get ha;have hp:ps[i]?=some y:=by rw[<- S.pre,abG (by lia)];exact h1
  have ndP:ps.Nodup:=by rw[<- S.pre];exact S.nd.sublist (List.take_sublist _ _)
  refine⟨u,rv,?_⟩;rcases S.par y (abe hp) with k | k
  ·exact .inl ⟨k,B7 ndP hp hu k⟩
  ·obtain⟨c,e⟩:=Ei (n:=s.heap.objs.size+1) k;refine .inr ⟨.inl k,c,e,?_⟩;have q:=x.cell y c e;rw[B8 ndP hp hu (by show scope.names.lookup y≠_;rw[k];decide)]at q;exact q
 ·exact e0.hok.fresh (acH (x.above y c (PySem.mem_of_lookup h)))
 ·unfold start;show _=N.length;rw[aan,Pa,abx]
  lia
theorem RH{CX:CXT}{P:Program}{w:World}{K:Dk}{mg:Str->Option Value}{base:Heap}{k:Nat}{f:Addr}{name qual:Str}{params:Arguments}{body:List Stmt}{scope:Scope}{dV kV doc pm cdv ct oc:Value}{an od:Option Addr}
  {osl:Array (Option Value)} {N ps:List Str} {sp:Sp} (lk:K.lookup f=some ⟨oc,od,.func (aaQ name qual params body scope dV kV doc pm an cdv ct),osl⟩) (R1:ab5 K cdv qual=true) (S:aN N ps scope)
  (len:∀vs H Q E,sp vs H Q E->vs.length=ps.length)
  (hbody:∀ (A:Around) (outer:List Env) (s:Shared) (H:Hp) (vs:List V) (Q:VK) (E:XK),b9 k (A.deeper (envOfC qual scope s.heap.objs.size f cdv))→sp vs H Q E →
   ∃t,PSs (n_ CX P w K mg base N qual scope f cdv A outer s H E) body t/\t { nx:=fun _ H'=>Q .non H',rt:=Q } (start N vs) H) :
  bI P w K mg base CX (k+1) f (aaQ name qual params body scope dV kV doc pm an cdv ct) ps sp:=by
 refine⟨len,fun A outer s H args us vs Q E hr e0 hb r hsp=>?_⟩;have hl:=len _ _ _ _ hsp;have KX:K.In s.heap:=e0.mod.kin.keeps fun b o e=>(e0.bs b o e).1;have lim:s.heap.NoLimit:=e0.mod.nolimit.keeps fun b o e=>(e0.bs b o e).1;have hkind:∀y∈ps.zip us,scope.names.lookup y.1=some .local\/(scope.names.lookup y.1=some .cell/\((cellsFrom (s.heap.objs.size+1) scope.names []).lookup y.1).isSome=true):=fun⟨n,v⟩ hy=>by
  rcases S.par n (acO hy).1 with q | q
  ·exact .inl q
  ·exact .inr ⟨q,PySem.W.cellsFrom_some _ _ _ (.inl q)⟩
 refine codeAny_call_function hr.depth (KX _ _ lk) rfl S.co S.gen rfl (PySem.W.codeRec_of KX R1) (hb _ _ _ _ ?_);refine wpAny_newFunctionEnv_cells S.kind hkind fun env he s1 x=>?_;subst he;refine⟨lim.keeps x.toInCall.keep,codeAny_func ?_⟩;obtain⟨t,ht,hq⟩:=hbody A outer s H vs Q E (hr.deeper _) hsp;have I:Inv (n_ CX P w K mg base N qual scope f cdv A outer s H E) [] (start N vs) H s1:=J2 S hr.hd e0 hl r x;refine wpAny_mono (ht [] s1 (start N vs) H _ I hq) (fun fl s' hs=>?_) fun e s' hs=>hs;have Tr:∀{σ':St} {H':Hp} {v:V} {u:Value},Inv (n_ CX P w K mg base N qual scope f cdv A outer s H E) [] σ' H' s'->RelV v u->Q v H'->CE outer P w H s Q u s':=
  fun {σ' H' v u} J rv q=>⟨v,H',J.os,J.bare,J.base,J.hok,rv,q⟩
 cases fl with
 |ret u=>obtain⟨v,σ',H',J,rv,q⟩:=hs;exact Tr J rv q
 |next=>obtain⟨σ',H',J,q⟩:=hs;exact Tr (v:=V.non) (u:=Value.none) J rfl q
 |brk=>obtain⟨_,_,_,q⟩:=hs;exact aat q
 |cont=>obtain⟨_,_,_,q⟩:=hs;exact aat q
end
section
variable{X:Cx}{x:Str}{p pos:Pos}{e:Expr}{es:List Expr}{t:TA}{id T:String}{r:List V->Hp->VK->Prop}
def tCB(r:List V->Hp->VK->Prop)(t:TA):TE:=fun σ H Q=>t σ H fun vs H1=>r vs H1 Q
theorem oA(hc:iz X (.builtin id) r)(hg:Gl X x)(hm:X.mg x=none)(hv:bootBuiltins x=some (.builtin id))(ha:PA X (e::es) t)(hn:x ≠ "__name__" := by decide)(XW:(x == ("__debug__" : Str))=false:=by decide)
  (he:starEach (e::es) X.env=(false,eval e X.env)::starEach es X.env:=by rfl) (KD:(backTo pos (starEach es X.env)).any (·.1)=false:=by rfl):PE X (.Call (.Name x p) (e::es) [] pos) (tCB r t):=by
 intro BU s σ H Q I h;refine wpAny_Call_Name_kw (rA I hg hm hv ?_ hn XW);exact PyProof.Rows.callWith_builtin1 (thn (ha pos BU s σ H _ I h) fun us s1 ⟨vs,H1,I1,r1,q1⟩=>hc BU s1 σ H1 vs us Q I1 r1 q1) he KD
theorem B9(hc:iz X (.type T) r)(hg:Gl X x)(hm:X.mg x=none)(hv:bootBuiltins x=some (.type T))(ha:PA X (e::es) t)(hn:x ≠ "__name__" := by decide)(XW:(x == ("__debug__" : Str))=false:=by decide)
  (he:starEach (e::es) X.env=(false,eval e X.env)::starEach es X.env:=by rfl) (KD:(backTo pos (starEach es X.env)).any (·.1)=false:=by rfl):PE X (.Call (.Name x p) (e::es) [] pos) (tCB r t):=by
 intro BU s σ H Q I h;refine wpAny_Call_Name_kw (rA I hg hm hv ?_ hn XW);exact abh (thn (ha pos BU s σ H _ I h) fun us s1 ⟨vs,H1,I1,r1,q1⟩=>hc BU s1 σ H1 vs us Q I1 r1 q1) he KD
end
end L2
namespace HT
open PySem PyProof.Rows
section
variable{prog:Program}{w:World}{A:Around}{E:Value->Shared->Prop}{s:Shared}
section
variable{lo hi:Option Int}{vl vu:Value}
noncomputable def sIx(n d:Nat):Option Int->Nat
 |none=>d
 |some v=>if v<0 then (v+(n:Int)).toNat else min v.toNat n
theorem TV(n d:Nat)(hd:d<=n)(o:Option Int):sIx n d o<=n:=by
 cases o with
 |none=>exact hd
 |some v=>
  show (if v<0 then (v+(n:Int)).toNat else min v.toNat n)<=n;by_cases hv:v<0
  ·rw[if_pos hv];lia
  ·rw[if_neg hv];exact Nat.min_le_right _ _
theorem Il(v:Int)(n d:Nat):(if v<0 then max (v+(n:Int)) 0 else min v (n:Int))=((sIx n d (some v):Nat):Int):=by
 show (if v<0 then max (v+(n:Int)) 0 else min v (n:Int))=(((if v<0 then (v+(n:Int)).toNat else min v.toNat n):Nat):Int)
 by_cases hv:v<0
 ·simp only[if_pos hv];lia
 ·simp only[if_neg hv];lia
theorem GD(lo hi:Option Int)(n:Nat):ab0 lo hi 1 (n:Int)=(((sIx n 0 lo:Nat):Int),((sIx n n hi:Nat):Int)):=by
 have h1:¬((1:Int)<0):=by lia
 unfold ab0;simp only[h1,if_false];refine Prod.ext ?_ ?_
 ·cases lo with
  |none=>rfl
  |some v=>exact Il v n 0
 ·cases hi with
  |none=>rfl
  |some v=>exact Il v n n
theorem GF(i j:Nat):abC (i:Int) (j:Int) 1=j-i:=by
 unfold abC;have h1:(1:Int)>0:=by lia
 simp only[h1,if_true,Int.ediv_one];split<;>lia
theorem zP{v:Value}{o:Option Int}{Q:Option Int->Shared->Prop}(p:IsPart v o)(h:Q o s):wpAny (model prog w) A (Builtin.Slice.slicePartIndex v) Q E s:=by
 cases p with
 |none=>exact slicePart_none h
 |int i t=>exact slicePart_int h
theorem v_{sl:Addr}{n:Nat}{Q:Int×Int×Nat->Shared->Prop}(hs:s.heap.IsSliceOf sl vl vu .none)(pl:IsPart vl lo)(pu:IsPart vu hi)
  (h:Q (((sIx n 0 lo:Nat):Int),1,sIx n n hi-sIx n 0 lo) s):wpAny (model prog w) A (Builtin.Slice.sliceApplied (.ref sl) (pure (n:Int))) Q E s:=by
 obtain⟨os,hos,hcs,hds⟩:=id hs;unfold Builtin.Slice.sliceApplied Builtin.Slice.sliceFields;refine wpAny_bind (wpAny_bind (wpAny_field hos hds (x:=vl) rfl (wpAny_bind (wpAny_field hos hds (x:=vu) rfl (wpAny_bind (wpAny_field hos hds (x:=.none) rfl (wpAny_pure ?_)))))));refine wpAny_bind (slicePart_none ?_);show wpAny _ _ (if ((1:Int) == 0)=true then _ else _) _ _ s;rw[if_neg (by decide)];refine wpAny_bind (zP pl (wpAny_bind (zP pu (wpAny_bind (wpAny_pure ?_)))));show wpAny _ _ (match ab0 lo hi 1 (n:Int) with | (lo,hi)=>pure (lo,(1:Int),abC lo hi 1)) _ _ s;rw[GD lo hi n];show wpAny _ _ (pure (((sIx n 0 lo:Nat):Int),(1:Int),abC ((sIx n 0 lo:Nat):Int) ((sIx n n hi:Nat):Int) 1)) _ _ s;rw[GF];exact wpAny_pure h
theorem Lx(xs:Array Value)(i k:Nat):((aas k).filterMap fun(m:Nat)=>xs[((i:Int)+(m:Int)*1).toNat]?).toArray=((xs.toList.drop i).take k).toArray:=by
 have e:(fun(m:Nat)=>xs[((i:Int)+(m:Int)*1).toNat]?)=fun m=>xs[i+m]?:=by
  funext m
  have:((i:Int)+(m:Int)*1).toNat=i+m:=by lia
  rw[this]
 rw[e];have:=pick_run xs i k;rw[List.filterMap_map]at this;have e2:((fun x=>xs[x]?)∘fun x=>i+x)=fun m=>xs[i+m]?:=rfl;rw[e2]at this;rw[this]
theorem uO{t sl:Addr}{items:Array Value}{Q:Value->Shared->Prop}(ht:IsTup s.heap t items)(hs:s.heap.IsSliceOf sl vl vu .none)(pl:IsPart vl lo)(pu:IsPart vu hi)
  (hw:¬(sIx items.size 0 lo=0/\sIx items.size items.size hi=items.size))
  (h:Q (.ref s.heap.objs.size) { s with heap:=s.heap.push { cls:=.type "tuple",data:=.seq ((items.toList.drop (sIx items.size 0 lo)).take (sIx items.size items.size hi-sIx items.size 0 lo)).toArray } })
  (hsz:items.size<=sizeLine):wpAny (model prog w) A (getItem (.ref t) (.ref sl)) Q E s:=by
 have Im:sizeOk (.seq ((items.toList.drop (sIx items.size 0 lo)).take (sIx items.size items.size hi-sIx items.size 0 lo)).toArray):=by show ((items.toList.drop (sIx items.size 0 lo)).take (sIx items.size items.size hi-sIx items.size 0 lo)).toArray.size<=sizeLine;rw[aai,aa7,List.length_drop,abi];omega
 have hj:sIx items.size items.size hi<=items.size:=TV _ _ (aab _) hi;obtain⟨os,hos,hcs,hds⟩:=id hs;have hTs:s.TypeIs (.ref sl) "slice" := ⟨os,hos,hcs⟩
 unfold getItem
 try with_reducible refine wpAny_holding ?_
 first | refine wpAny_bind (wpAny_pure ?_) | skip
 refine wpAny_bind (wpAny_sequenceKey ht.typeIs (by decide) ?_);refine wpAny_bind (wpAny_callSpecial?_slot (name:=acV "__getitem__") ht.typeIs abL
  (wpAny_call_entry abL ht.typeIs entry_tuple_getitem ?_ (args_tuple_getitem _ _)))
 show wpAny _ _ (Builtin.Tuple.tupleItemsOf (.ref t) >>= _) _ _ s;refine wpAny_bind (tupleItemsOf_ ht ?_);refine wpAny_bind (wpAny_typeOf hTs ?_);rw[if_pos (by decide)];refine wpAny_bind (v_ hs pl pu ?_);have hno:¬((((sIx items.size 0 lo:Nat):Int) == 0&&(1:Int) == 1&&(sIx items.size items.size hi-sIx items.size 0 lo) == items.size)=true):=by intro q;rw[aau,aau]at q;have q1:((sIx items.size 0 lo:Nat):Int)=0:=eq_of_beq q.1.1;have q2:sIx items.size items.size hi-sIx items.size 0 lo=items.size:=eq_of_beq q.2;exact hw ⟨by omega,by omega⟩
 show wpAny _ _ (if (((sIx items.size 0 lo:Nat):Int) == 0&&(1:Int) == 1&&(sIx items.size items.size hi-sIx items.size 0 lo) == items.size)=true then _ else _) _ _ s;rw[if_neg hno,Lx]
 first
  |exact wpAny_bind (m:=abH _) (wpAny_newObj_type (wpAny_pure ⟨_,rfl,wpAny_pure h⟩) Im)
  |exact wpAny_bind (m:=abH _) (wpAny_newObj_type (wpAny_bind (wpAny_pure (wpAny_pure ⟨_,rfl,wpAny_pure h⟩))) Im)
  |exact wpAny_bind (wpAny_bind (m:=abH _) (wpAny_newObj_type (wpAny_pure (wpAny_pure ⟨_,rfl,wpAny_pure h⟩)) Im))
  |exact wpAny_bind (wpAny_bind (m:=abH _) (wpAny_newObj_type (wpAny_pure ⟨_,rfl,wpAny_pure h⟩) Im))
end
end
end HT
namespace L2
open PySem PySem.Spec PyProof.Rows
noncomputable abbrev TO:=St->Hp->(Option Int->Hp->Prop)->Prop
def PO(X:Cx)(e:Option Expr)(t:TO):Prop:=
 ∀(BU:List (Addr×Obj)) (s:Shared) (σ:St) (H:Hp) (Q:Option Int->Hp->Prop),Inv X BU σ H s->t σ H Q ->
  wpAny (model X.prog X.w) X.A (evalPart e X.env) (fun u s'=>∃o H',Inv X BU σ H' s'/\IsPart u o/\Q o H') X.xe s
def CV:TO:=fun _ H Q=>Q none H
def Ly(t:TE):TO:=fun σ H Q=>t σ H fun x H1=>∃i,x=.int i/\Q (some i) H1
section
variable{X:Cx}{e:Expr}{te:TE}{lo hi:Option Expr}{tl th:TO}{pos p2:Pos}
theorem O8:PO X none CV:=by intro BU s σ H Q I h;rw[evalPart_none];exact wpAny_pure ⟨none,H,I,.none,h⟩
theorem O9(h:PE X e te):PO X (some e) (Ly te):=by intro BU s σ H Q I hw;rw[evalPart_some];refine thn (h BU s σ H _ I hw) fun u s1 ⟨x,H1,I1,r1,q1⟩=>?_;obtain⟨i,rfl,q⟩:=q1;obtain⟨t,rfl⟩:=r1;exact⟨some i,H1,I1,.int i t,q⟩
def SlR(X:Cx)(r:V->Option Int->Option Int->Hp->VK->Prop):Prop:=
 ∀(BU:List (Addr×Obj)) (s:Shared) (σ:St) (H:Hp) (x:V) (v vl vu:Value) (lo hi:Option Int) (sl:Addr) (Q:VK),Inv X BU σ H s->RelV x v->s.heap.IsSliceOf sl vl vu .none->IsPart vl lo->IsPart vu hi->r x lo hi H Q ->
  ∃T id,typeLookup (.type T) "__getitem__" = pure (some (.builtin id))/\s.TypeIs v T/\wpAny (model X.prog X.w) X.A (getItem v (.ref sl)) (EP X BU σ Q) X.xe s
def tSl(r:V->Option Int->Option Int->Hp->VK->Prop)(te:TE)(tl th:TO):TE:=fun σ H Q=>te σ H fun x H1=>tl σ H1 fun l H2=>th σ H2 fun u H3=>r x l u H3 Q
theorem Ej{r:V->Option Int->Option Int->Hp->VK->Prop}(hr:SlR X r)(he:PE X e te)(hl:PO X lo tl)(hu:PO X hi th):PE X (.Subscript e (.Slice lo hi none p2) pos) (tSl r te tl th):=by intro BU s σ H Q I h;refine Subscript_ (thn (he BU s σ H _ I h) fun v s1 ⟨x,H1,I1,r1,q1⟩=>?_);refine wpAny_Slice (thn (hl BU s1 σ H1 _ I1 q1) fun vl s2 ⟨l,H2,I2,pl,q2⟩=>thn (hu BU s2 σ H2 _ I2 q2) fun vu s3 ⟨u,H3,I3,pu,q3⟩=>?_);rw[evalPart_none];refine wpAny_pure ?_;have I4:Inv X BU σ H3 { s3 with heap:=s3.heap.push { cls:=.type "slice",data:=.fields #[vl,vu,.none] } }:=I3.kept (t':=s3.toks) fun b ob q=>aac _ q;obtain⟨T,id,hT,ht,hg⟩:=hr BU { s3 with heap:=s3.heap.push { cls:=.type "slice",data:=.fields #[vl,vu,.none] } } σ H3 x v vl vu l u s3.heap.objs.size Q I4 r1 (Heap.IsSliceOf.new ..) pl pu q3;show wpAny (model X.prog X.w) X.A (subscriptTail e (.Slice lo hi none p2) v (.ref s3.heap.objs.size)) (EP X BU σ Q) X.xe { s3 with heap:=s3.heap.push { cls:=.type "slice",data:=.fields #[vl,vu,.none] } };exact tail_any (ops:=[.ref s3.heap.objs.size,v]) ht hT hg (by with_unfolding_all rfl)
noncomputable def BH(xs:List V)(lo hi:Option Int):List V:=(xs.drop (HT.sIx xs.length 0 lo)).take (HT.sIx xs.length xs.length hi-HT.sIx xs.length 0 lo)
theorem xS(xs:List V)(lo hi:Option Int):(BH xs lo hi).length<=xs.length:=by
 unfold BH;rw[aa7,List.length_drop]
 lia
def WD(K:Dk):V->Option Int->Option Int->Hp->VK->Prop:=fun x lo hi H Q=>∃a xs,x=.ref a/\SqT K H a xs /\
 ¬(HT.sIx xs.length 0 lo=0/\HT.sIx xs.length xs.length hi=xs.length)/\∀p,H p=none->Q (.ref p) (upd H p (.tup (BH xs lo hi)))
theorem TX:SlR X (WD X.K):=by
 intro BU s σ H x v vl vu lo hi sl Q I rx hs pl pu h;obtain⟨a,xs,rfl,hx,hw,q⟩:=h;cases rx;obtain⟨its,r,ht,hz⟩:=I.tuple hx;have Fp:its.toArray.size=xs.length:=by rw[aai];exact r.length.symm
 refine⟨"tuple",_,abL.lookup,ht.typeIs,?_⟩;refine HT.uO ht hs pl pu (by rw[Fp];exact hw) ?_ (by rw[Fp];exact hz);rw[Fp];refine⟨.ref s.heap.objs.size,_,I.laid (t':=s.toks) (o:=.tup (BH xs lo hi)) (fun b ob q=>aac _ q) (aab _) ?_,rfl,q _ (I.hok.fresh (aab _))⟩;exact⟨aaE (xS xs lo hi) hz,_,(r.drop (HT.sIx xs.length 0 lo)).take (HT.sIx xs.length xs.length hi-HT.sIx xs.length 0 lo),IsTup.new _ _⟩
end
noncomputable def ixN(n:Nat)(i:Int):Option Nat:=if 0<=i then (if i<n then some i.toNat else none) else if -(n:Int)<=i then some (i+n).toNat else none
noncomputable def atI{α:Type}(xs:List α)(i:Int):Option α:=(ixN xs.length i).bind fun j=>xs[j]?
theorem Io{n:Nat}{i:Int}{j:Nat}(h:ixN n i=some j):seqIndex? i n=some j/\j<n/\-(n:Int)<=i/\i<n:=by
 unfold ixN at h;by_cases h0:0<=i
 ·rw[if_pos h0]at h;by_cases h1:i<n
  ·rw[if_pos h1]at h;have e:i.toNat=j:=Option.some.inj h;exact⟨by rw[seqIndex_of h0 h1,e],by lia,by lia,h1⟩
  ·rw[if_neg h1]at h;cases h
 ·rw[if_neg h0]at h;by_cases h1:-(n:Int)<=i
  ·rw[if_pos h1]at h;have e:(i+n).toNat=j:=Option.some.inj h;exact⟨by rw[seqIndex_neg (by lia) h1,e],by lia,h1,by lia⟩
  ·rw[if_neg h1]at h;cases h
theorem Ip{α:Type}{xs:List α}{i:Int}{v:α}(h:atI xs i=some v):∃j,seqIndex? i xs.length=some j/\xs[j]?=some v/\j<xs.length/\-(xs.length:Int)<=i/\i<xs.length:=by
 unfold atI at h;cases e:ixN xs.length i with
 |none=>rw[e]at h;cases h
 |some j=>rw[e]at h;obtain⟨h1,h2,h3,h4⟩:=Io e;exact⟨j,h1,h,h2,h3,h4⟩
def CW(b:Expr):Prop:=∀o i,subscripted b false o i=operate [o,i] (getItem o i)
def IxR(X:Cx)(r:R2):Prop:=
 ∀(value slice:Expr) (BU:List (Addr×Obj)) (s:Shared) (σ:St) (H:Hp) (x y:V) (v u:Value) (Q:VK),Inv X BU σ H s->RelV x v->RelV y u->r x y H Q ->
  subscripted slice false v u=operate [v,u] (getItem v u)->wpAny (model X.prog X.w) X.A (subscriptTail value slice v u) (EP X BU σ Q) X.xe s
def MtR(X:Cx)(id:String)(r:V->List V->Hp->VK->Prop):Prop:=
 ∀(BU:List (Addr×Obj)) (s:Shared) (σ:St) (H:Hp) (x:V) (xs:List V) (v:Value) (us:List Value) (Q:VK),Inv X BU σ H s->RelV x v->Vals xs us->r x xs H Q ->
  wpAny (model X.prog X.w) X.A (call (.builtin id) (v::us)) (EP X BU σ Q) X.xe s
section
variable{X:Cx}{a b:Expr}{ta tb:TE}{pos:Pos}
section
variable{BU:List (Addr×Obj)}{s:Shared}{H:Hp}{σ:St}
theorem IxR.or{r r':R2}(h:IxR X r)(h':IxR X r'):IxR X (fun x y H Q=>r x y H Q\/r' x y H Q):=by
 intro value slice BU s σ H x y v u Q I rx ry q hs;rcases q with q | q
 ·exact h value slice BU s σ H x y v u Q I rx ry q hs
 ·exact h' value slice BU s σ H x y v u Q I rx ry q hs
theorem RI{r:R2}(hr:IxR X r)(ha:PE X a ta)(hb:PE X b tb)(hs:CW b):PE X (.Subscript a b pos) (tOp r ta tb):=by intro BU s σ H Q I h;exact Subscript_ (Tv ha hb I h fun v u s2 x y H2 I2 rx ry q=>hr a b BU s2 σ H2 x y v u Q I2 rx ry q (hs _ _))
def TY(K:Dk):R2:=fun x y H Q=>∃p xs i v,x=.ref p/\y=.int i/\SqL K H p xs/\atI xs i=some v/\Q v H
def WE(K:Dk):R2:=fun x y H Q=>∃p xs i v,x=.ref p/\y=.int i/\SqT K H p xs/\atI xs i=some v/\Q v H
theorem Iq:IxR X (TY X.K):=by
 intro value slice BU s σ H x y v u Q I rx ry h hs;obtain⟨p,xs,i,z,rfl,rfl,hq,he,q⟩:=h;cases rx;obtain⟨t,rfl⟩:=ry;obtain⟨its,r,pl,hz⟩:=I.list hq;obtain⟨j,h1,h2,h3,h4,h5⟩:=Ip he;obtain⟨w,ew,rw'⟩:=r.get h2;have hl:=r.length;have hn:=zN;have Tr:EP X BU σ Q w s:=⟨z,H,I,rw',q⟩
 by_cases h0:0<=i
 ·have hj:i.toNat=j:=by
   rw[seqIndex_of h0 h5]at h1;exact Option.some.inj h1
  exact item_listR pl.isList h0 (by lia) (by rw[hj];simpa using ew) Tr hs
 ·have hj:(i+(its.toArray.size:Int)).toNat=j:=by
   rw[seqIndex_neg (by lia) h4]at h1;rw[aai,<- hl];exact Option.some.inj h1
  exact subscriptTail_builtinR (x:=w) pl.isList.typeIs slot_list_getitem.lookup
   (wpAny_getItem_list_neg (Q:=fun r s'=>r=w/\EP X BU σ Q r s') pl.isList (by lia) (by rw[aai]<;>lia) (by lia) (by rw[hj];simpa using ew) ⟨rfl,Tr⟩) hs
theorem TZ:IxR X (WE X.K):=by
 intro value slice BU s σ H x y v u Q I rx ry h hs;obtain⟨p,xs,i,z,rfl,rfl,hq,he,q⟩:=h;cases rx;obtain⟨t,rfl⟩:=ry;obtain⟨its,r,pl,hz⟩:=I.tuple hq;obtain⟨j,h1,h2,h3,h4,h5⟩:=Ip he;obtain⟨w,ew,rw'⟩:=r.get h2;have hl:=r.length;have hn:=zN;have Tr:EP X BU σ Q w s:=⟨z,H,I,rw',q⟩
 exact subscriptTail_builtinR (x:=w) pl.typeIs slot_tuple_getitem.lookup
  (getItem_tuple (j:=j) (Q:=fun r s'=>r=w/\EP X BU σ Q r s') pl (by lia) (by lia) (by rw[aai,<- hl];exact h1) (by simpa using ew) ⟨rfl,Tr⟩) hs
theorem GG(its:List Value)(n j:Nat)(u:Value):acG (·.setIfInBounds j u) { cls:=.type "list",data:=.seq its.toArray n }={ cls:=.type "list",data:=.seq (its.set j u).toArray n }:=by simp[acG]
theorem Inv.lst{BU:List (Addr×Obj)}{σ:St}{H:Hp}{s:Shared}{p:Addr}{xs:List V}(I:Inv X BU σ H s)(h:H p=some (.lst xs)) :
  ∃(its:List Value) (n:Nat),Vals xs its/\s.heap.get? p=some { cls:=.type "list",data:=.seq its.toArray n }/\xs.length<=sizeLine:=by
 obtain⟨z,its,n,r,e⟩:=I.hok p _ h;exact⟨its,n,r,e,z⟩
theorem Inv.T3{p:Addr}{xs ys:List V}{its its':List Value}{n n':Nat}{f:Obj->Obj}(I:Inv X BU σ H s)(h:H p=some (.lst xs))
  (ho:s.heap.get? p=some { cls:=.type "list",data:=.seq its.toArray n }) (hf:f { cls:=.type "list",data:=.seq its.toArray n }={ cls:=.type "list",data:=.seq its'.toArray n' }) (r:Vals ys its') (hz:ys.length<=sizeLine) (t:Nat) :
  Inv X BU σ (upd H p (.lst ys)) { s with heap:=s.heap.update p f,toks:=t }:=by
 have e:(s.heap.update p f).get? p=some { cls:=.type "list",data:=.seq its'.toArray n' }:=by rw[abo f ho (by rw[hf]<;>rfl),hf]
 refine I.write (x:=p) (e:=p) (by rw[h];trivial) (.inl rfl) (fun b u hb q=>(Heap.get?_update_other _ _ (Ne.symm hb)).trans q) ⟨_,e⟩ ?_;exact⟨hz,its',n',r,e⟩
def Ek:V->V->V->Hp->(Hp->Prop)->Prop:=fun o i v H Q=>∃p xs k j,o=.ref p/\i=.int k/\H p=some (.lst xs)/\ixN xs.length k=some j/\Q (upd H p (.lst (xs.set j v)))
theorem set_list:Wm X Ek:=by
 intro BU s σ H o i v ov iv u Q I ro ri rv h;obtain⟨p,xs,k,j,rfl,rfl,hp,hj,q⟩:=h;cases ro;obtain⟨t,rfl⟩:=ri;obtain⟨its,n,r,ho,hz⟩:=I.lst hp;obtain⟨h1,h2,h3,h4⟩:=Io hj;have hl:=r.length;have hn:=zN;have I':Inv X BU σ (upd H p (.lst (xs.set j v))) { s with heap:=s.heap.update p (acG (·.setIfInBounds j u)) }:=
  I.T3 hp ho (GG its n j u) (r.set rv j) (by rw[aaC];exact hz) s.toks
 by_cases h0:0<=k
 ·have hk:k.toNat=j:=by
   rw[seqIndex_of h0 h4]at h1;exact Option.some.inj h1
  exact PySem.W.ki_setAt ho h0 (by lia) (by rw[aai,<- hl];exact h4) (by rw[hk];exact⟨_,I',q⟩)
 ·have hk:(k+(its.toArray.size:Int)).toNat=j:=by
   rw[seqIndex_neg (by lia) h3]at h1;rw[aai,<- hl];exact Option.some.inj h1
  exact PySem.W.ki_setBack ho (by lia) (by rw[aai,<- hl];exact h3) (by lia) (by rw[hk];exact⟨_,I',q⟩)
theorem CY(lo hi:Option Int)(n:Nat):(sliceBounds lo hi none n).1=((HT.sIx n 0 lo:Nat):Int)/\(sliceBounds lo hi none n).2.1=((HT.sIx n n hi:Nat):Int)/\(sliceBounds lo hi none n).2.2=1:=by
 refine⟨?_,?_,rfl⟩
 ·cases lo with
  |none=>simp[sliceBounds,HT.sIx]
  |some i=>
   simp only[sliceBounds,HT.sIx,Option.getD_none,show (1:Int)>0 by decide,if_true];by_cases h:i<0
   ·simp only[h,if_true]<;>lia
   ·simp only[h,if_false]<;>lia
 ·cases hi with
  |none=>simp[sliceBounds,HT.sIx]
  |some i=>
   simp only[sliceBounds,HT.sIx,Option.getD_none,show (1:Int)>0 by decide,if_true];by_cases h:i<0
   ·simp only[h,if_true]<;>lia
   ·simp only[h,if_false]<;>lia
theorem BI(its:List Value)(lo hi:Option Int):slicePick its.toArray lo hi none=((its.drop (HT.sIx its.length 0 lo)).take (HT.sIx its.length its.length hi-HT.sIx its.length 0 lo)).toArray:=by obtain⟨h1,h2,h3⟩:=CY lo hi its.toArray.size;unfold slicePick;rw[h1,h2,h3];simp only[sliceRange_one,pick_run,aai]<;>rfl
def WG(K:Dk):V->Option Int->Option Int->Hp->VK->Prop:=fun x lo hi H Q=>∃a xs,x=.ref a/\SqL K H a xs/\∀p,H p=none->Q (.ref p) (upd H p (.lst (BH xs lo hi)))
theorem O_:SlR X (WG X.K):=by intro BU s σ H x v vl vu lo hi sl Q I rx hs pl pu h;obtain⟨a,xs,rfl,hx,q⟩:=h;cases rx;obtain⟨its,r,ht,hz⟩:=I.list hx;have Fp:=r.length;refine⟨"list",_,slot_list_getitem.lookup,ht.isList.typeIs,?_⟩;refine wpAny_getItem_list_slice ht.isList hs pl pu .none (by simp) ?_ (by rw[aai]<;>lia);rw[BI,<- Fp];refine⟨.ref s.heap.objs.size,_,I.laid (t':=s.toks) (o:=.lst (BH xs lo hi)) (fun b ob q=>aac _ q) (aab _) ?_,rfl,q _ (I.hok.fresh (aab _))⟩;exact⟨aaE (xS xs lo hi) hz,_,0,(r.drop (HT.sIx xs.length 0 lo)).take (HT.sIx xs.length xs.length hi-HT.sIx xs.length 0 lo),aaJ _ rfl⟩
theorem CZ:iz X (.builtin "len") (fun xs H Q=>∃p ys,xs=[.ref p]/\(SqL X.K H p ys\/SqT X.K H p ys)/\Q (.int ys.length) H):=by
 intro BU s σ H xs us Q I r h;obtain⟨p,ys,rfl,hq,q⟩:=h;obtain⟨u,rfl,rx⟩:=vals1 r;cases rx;have hn:=zN;rcases hq with hq | hq
 ·obtain⟨its,r',pl,hz⟩:=I.list hq;have Fp:=r'.length;exact Calls.call_len_list pl.isList (by simp only[aai]<;>lia) ⟨.int ys.length,H,I.tok _,⟨s.toks+1,by rw[aai,Fp]⟩,q⟩
 ·obtain⟨its,r',pl,hz⟩:=I.tuple hq;have Fp:=r'.length;exact len_tuple pl (by simp only[aai]<;>lia) ⟨.int ys.length,H,I.tok _,⟨s.toks+1,by rw[aai,Fp]⟩,q⟩
theorem C0:iz X (.type "list") (fun xs H Q=>∃p ys,xs=[.ref p]/\(SqL X.K H p ys\/SqT X.K H p ys)/\∀l,H l=none->Q (.ref l) (upd H l (.lst ys))):=by
 intro BU s σ H xs us Q I r h;obtain⟨p,ys,rfl,hq,q⟩:=h;obtain⟨u,rfl,rx⟩:=vals1 r;cases rx;have Tr:∀(its:List Value),Vals ys its->ys.length<=sizeLine->∀(h':Heap) (c':Nat),(∀b o',s.heap.get? b=some o'->h'.get? b=some o') ->
   h'.get? s.heap.objs.size=some { cls:=.type "list",dict:=none,data:=.seq its.toArray c',slots:=#[] }->EP X BU σ Q (.ref s.heap.objs.size) { s with heap:=h' }:=fun its r' hz h' c' kp e=>
  ⟨.ref s.heap.objs.size,_,I.laid (t':=s.toks) kp (aab _) (show bR X.prog X.w _ h' _ (.lst ys) from ⟨hz,its,c',r',e⟩),rfl,q _ (I.hok.fresh (aab _))⟩
 rcases hq with hq | hq
 ·obtain⟨its,r',pl,hz⟩:=I.list hq;have Fp:=r'.length;obtain⟨o,ho,hc,n,hd⟩:=pl.isList;exact call_list_seq p (.inl rfl) ho hc hd (fun h' c' kp e=>Tr its r' hz h' c' kp e) (by simp only[aai]<;>lia)
 ·obtain⟨its,r',pl,hz⟩:=I.tuple hq;have Fp:=r'.length;obtain⟨o,ho,hc,n,hd⟩:=pl;exact call_list_seq p (.inr rfl) ho hc hd (fun h' c' kp e=>Tr its r' hz h' c' kp e) (by simp only[aai]<;>lia)
theorem BJ:iz X (.type "tuple") (fun xs H Q=>∃p ys,xs=[.ref p]/\((SqL X.K H p ys/\∀l,H l=none->Q (.ref l) (upd H l (.tup ys)))\/(SqT X.K H p ys/\Q (.ref p) H))):=by
 intro BU s σ H xs us Q I r h;obtain⟨p,ys,rfl,h⟩:=h;obtain⟨u,rfl,rx⟩:=vals1 r;cases rx;rcases h with⟨hq,q⟩ | ⟨hq,q⟩
 ·obtain⟨its,r',pl,hz⟩:=I.list hq;have Fp:=r'.length;refine call_tuple_list pl.isList (fun h' kp=>?_) (by simp only[aai]<;>lia);have I1:Inv X BU σ H { s with heap:=h' }:=I.kept (t':=s.toks) kp;have I2:Inv X BU σ (upd H h'.objs.size (.tup ys)) { s with heap:=h'.push { cls:=.type "tuple",data:=.seq its.toArray } }:=
   I1.laid (t':=s.toks) (fun b o e=>aac _ e) (aab _) (show bR X.prog X.w _ _ _ (.tup ys) from ⟨hz,its,r',IsTup.new _ _⟩)
  exact⟨.ref h'.objs.size,_,I2,rfl,q _ (I1.hok.fresh (aab _))⟩
 ·obtain⟨its,r',pl,hz⟩:=I.tuple hq;exact call_tuple_same pl ⟨.ref p,H,I,rfl,q⟩
def tyV(K:Dk)(T:String)(x:V)(H:Hp):Prop:=match x with
 |.str _=>T = "str"
 |.int _=>T = "int"
 |.ref p=>(T = "list" /\ ∃xs,SqL K H p xs)\/(T = "tuple" /\ ∃o,K.lookup p=some o/\o.cls=.type "tuple" /\ o.dict=none) \/
   (T = "dict" /\ ((∃kvs,H p=some (.dK kvs))\/∃kvs ts,H p=some (.dT kvs ts)))\/(T = "set" /\ ∃S n,H p=some (.set S n))
 |_=>False
theorem T4{T:String}{x:V}{v:Value}(I:Inv X BU σ H s)(r:RelV x v)(ty:tyV X.K T x H) :
  s.TypeIs v T/\∀a,v=.ref a->∃ob,s.heap.get? a=some ob/\ob.dict=none:=by
 cases x with
 |str z=>obtain⟨t,rfl⟩:=r;cases (show T = "str" from ty);exact⟨typeIs_str s z t,fun _ e=>nomatch e⟩
 |int i=>obtain⟨t,rfl⟩:=r;cases (show T = "int" from ty);exact⟨typeIs_int s i t,fun _ e=>nomatch e⟩
 |ref p=>
  cases r;rcases ty with⟨rfl,xs,hq⟩ | ⟨rfl,o,hk,hc,hd⟩ | ⟨rfl,hk⟩ | ⟨rfl,S,n,hk⟩
  ·obtain⟨its,_,pl,_⟩:=I.list hq;refine⟨pl.isList.typeIs,fun a e=>?_⟩;cases e;obtain⟨o,n,e,c,hd,_⟩:=pl;exact⟨o,e,hd⟩
  ·refine⟨⟨o,I.kIn p o hk,hc⟩,fun a e=>?_⟩;cases e;exact⟨o,I.kIn _ o hk,hd⟩
  ·have z:∃o,s.heap.get? p=some o/\o.ExactDict:=by
    rcases hk with⟨kvs,hk⟩ | ⟨kvs,ts,hk⟩
    ·obtain⟨_,_,_,_,o,_,_,e,ex,_⟩:=I.hok p _ hk;exact⟨o,e,ex⟩
    ·obtain⟨_,_,_,_,o,_,_,e,ex,_⟩:=I.hok p _ hk;exact⟨o,e,ex⟩
   obtain⟨o,e,ex⟩:=z;refine⟨⟨o,e,ex.1⟩,fun a e2=>?_⟩;cases e2;exact⟨o,e,ex.2.1⟩
  ·obtain⟨o,_,_,_,e,ex,_⟩:=I.hok p _ hk;refine⟨⟨o,e,ex.1⟩,fun a e2=>?_⟩;cases e2;exact⟨o,e,ex.2.1⟩
 |_=>exact aat ty
def tBM(K:Dk)(T:String)(r:V->List V->Hp->VK->Prop)(to:TE)(t:TA):TE:=fun σ H Q=>to σ H fun x H1=>tyV K T x H1/\t σ H1 fun xs H2=>r x xs H2 Q
variable{o e:Expr}{es:List Expr}{to:TE}{t:TA}{name:Str}{Nd cpos:Pos}{T id:String}{r:V->List V->Hp->VK->Prop}
theorem Ir(pa:PlainAttrs T)(slot:Slot T name id)(hty:typeOf (.builtin id)=pure (.type "method_descriptor"))(hm:MtR X id r)(ho:PE X o to)(ha:PA X (e::es) t)
  (XZ:attributeBase o name X.env (eval o X.env)=eval o X.env:=by rfl)
  (hfew:((backTo cpos (starEach (e::es) X.env)).all (fun x=>!x.1)&&(backToKw cpos (keywordEach [] X.env)).all (fun x=>x.1.isSome)
   && decide ((e::es).length+([]:List Keyword).length+(if ([]:List Keyword).isEmpty then 0 else 1)<30))=true:=by rfl)
  (XY:(Nd.endLine == cpos.line)=true:=by rfl) (hs:starEach (e::es) X.env=(false,eval e X.env)::starEach es X.env:=by rfl) (R5:(backTo cpos (starEach es X.env)).any (·.1)=false:=by rfl) :
  PE X (.Call (.Attribute o name Nd) (e::es) [] cpos) (tBM X.K T r to t):=by
 intro BU s σ H Q I h;refine wpAny_Call_method_late XZ hfew XY rfl (thn (ho BU s σ H _ I h) fun v s1 ⟨x,H1,I1,r1,ty,q1⟩=>?_);obtain⟨h1,h2⟩:=T4 I1 r1 ty;refine⟨T,id,pa,slot,hty,h1,h2,?_⟩;have hA:=ha cpos BU s1 σ H1 _ I1 q1;rw[hs]at hA ⊢;refine abQ (by show (false||(backTo cpos (starEach es X.env)).any (·.1))=false;rw[R5]<;>rfl) (abU ?_);exact thn hA fun us s2 ⟨vs,H2,I2,r2,q2⟩=>hm BU s2 σ H2 x vs v us Q I2 r1 r2 q2
end
end
def MtM(X:Cx)(id:String)(r:V->List V->Hp->VK->Prop):Prop:=
 ∀(BU:List (Addr×Obj)) (s:Shared) (σ:St) (H:Hp) (x:V) (xs:List V) (v:Value) (us:List Value) (Q:VK),Inv X BU σ H s->RelV x v->Vals xs us->r x xs H Q ->
  wpAny (model X.prog X.w) X.A (call (.builtin id) (v::us)) (EP X BU σ Q) X.xe s
theorem Vals.one:∀{x:V} {us:List Value},Vals [x] us->∃u,us=[u]/\RelV x u
 |_,_,.cons r .nil=>⟨_,rfl,r⟩
theorem Vals.eraseIdx:∀{xs:List V} {us:List Value} (i:Nat),Vals xs us->Vals (xs.eraseIdx i) (us.eraseIdx i)
 |_,_,_,.nil=>.nil
 |_,_,0,.cons _ t=>t
 |_,_,i+1,.cons r t=>.cons r (Vals.eraseIdx i t)
theorem Vals.rep{xs:List V}{us:List Value}(h:Vals xs us):∀k:Nat,Vals (Dp k xs).flatten (Dp k us).flatten
 |0=>.nil
 |k+1=>by rw[abj,abj,aa5,aa5];exact Vals.append h (Vals.rep h k)
theorem B_{α:Type}:∀(l:List α) (i:Nat),(l.eraseIdx i).length<=l.length
 |[],_=>aab _
 |_::_,0=>Nat.le_succ _
 |_::r,i+1=>Nat.succ_le_succ (B_ r i)
theorem foldl_rep(its:List Value):∀(k:Nat) (KG:List Value),
  ac2 (fun x1 x2=>x1++x2) KG.toArray (Dp k its.toArray)=(KG++(Dp k its).flatten).toArray
 |0,KG=>by simp
 |k+1,KG=>by
  have e:KG.toArray++its.toArray=(KG++its).toArray:=by simp
  have e2:(KG++its)++(Dp k its).flatten=KG++(Dp (k+1) its).flatten:=by rw[abj,aa5,abt]
  rw[<- e2,<- foldl_rep its k (KG++its),<- e,abj,List.foldl_cons]
section
variable{X:Cx}{BU:List (Addr×Obj)}{σ:St}{H:Hp}{s:Shared}{l b:Addr}{xs ys zs:List V}
theorem Inv.T5{its its':List Value}{n:Nat}{f:Array Value->Array Value}{t':Nat}(I:Inv X BU σ H s)(hH:H l=some (.lst xs))
  (e:s.heap.get? l=some { cls:=.type "list",data:=.seq its.toArray n }) (hf:f its.toArray=its'.toArray) (hv:Vals ys its') (hz:ys.length<=sizeLine) :
  Inv X BU σ (upd H l (.lst ys)) { s with heap:=s.heap.update l (acG f),toks:=t' }:=by
 have q:=PySem.IsL.update e f;rw[hf]at q;refine I.write (x:=l) (e:=l) (by rw[hH];exact trivial) (.inl rfl) (fun b' u hb hu=>(Heap.get?_update_other s.heap (acG f) (Ne.symm hb)).trans hu) ⟨_,q⟩ ?_;exact⟨hz,its',_,hv,q⟩
theorem Inv.T6{its:List Value}{t':Nat}(I:Inv X BU σ H s)(hv:Vals ys its)(hz:ys.length<=sizeLine) :
  Inv X BU σ (upd H s.heap.objs.size (.lst ys)) { s with heap:=s.heap.push { cls:=.type "list",data:=.seq its.toArray },toks:=t' }:=
 I.laid (fun _ _ q=>aac _ q) (aab _) ⟨hz,its,0,hv,aaJ _ rfl⟩
theorem Inv.fresh(I:Inv X BU σ H s):H s.heap.objs.size=none:=I.hok.fresh (aab _)
theorem Inv.T7(I:Inv X BU σ H s)(hH:H l=some (.lst xs)):xs.length<=sizeLine/\∃(its:List Value) (n:Nat),Vals xs its/\xs.length=its.length/\s.heap.get? l=some { cls:=.type "list",data:=.seq its.toArray n }:=by obtain⟨z,its,n,r,e⟩:=I.hok l _ hH;exact⟨z,its,n,r,r.length,e⟩
theorem El{n:Nat}(h:n<=sizeLine):abI n=false:=by unfold abI;exact decide_eq_false (by lia)
end
section
variable{X:Cx}
def C1:V->List V->Hp->VK->Prop:=fun x vs H Q=>∃l xs y,x=.ref l/\vs=[y]/\H l=some (.lst xs)/\xs.length<sizeLine/\Q .non (upd H l (.lst (xs++[y])))
theorem wc:MtM X "list.append" C1:=by
 intro BU s σ H x vs v us Q I rx rv h;obtain⟨l,xs,y,rfl,rfl,hH,hz,q⟩:=h;cases rx;obtain⟨u,rfl,ru⟩:=rv.one;obtain⟨z,its,n,r,hl,e⟩:=I.T7 hH;refine call_meets F.slot_list_append ⟨_,e,rfl⟩ F.entry_list_append (F.args_list_append_2 _ _) (PySem.list_append l its.toArray n u (by rw[aai];lia)) ⟨e,?_⟩;refine⟨.non,_,I.T5 (its':=its++[u]) hH e (by simp) (r.append (.cons ru .nil)) ?_,rfl,q⟩;rw[aan,abp]
 lia
def Lz:V->List V->Hp->VK->Prop:=fun x vs H Q=>∃l xs i k y,x=.ref l/\vs=[.int i]/\H l=some (.lst xs)/\-(2 ^ 63)<=i/\i<2 ^ 63/\seqIndex? i xs.length=some k/\xs[k]?=some y/\Q y (upd H l (.lst (xs.eraseIdx k)))
theorem LA:MtM X "list.pop" Lz:=by
 intro BU s σ H x vs v us Q I rx rv h;obtain⟨l,xs,i,k,y,rfl,rfl,hH,h1,h2,hk,hy,q⟩:=h;cases rx;obtain⟨u,rfl,ru⟩:=rv.one;obtain⟨t,rfl⟩:=ru;obtain⟨z,its,n,r,hl,e⟩:=I.T7 hH;obtain⟨w,hw,rw'⟩:=r.get hy;refine call_meets F.slot_list_pop ⟨_,e,rfl⟩ F.entry_list_pop (F.args_list_pop_2 _ _)
  (MeetsSeq.list_pop_at l its.toArray n i t k w (fitsIndex_both h1 h2) (by rw[aai,<- hl];exact hk) (by rw[<- aby];exact hw) (by rw[aai];lia)) ⟨e,?_⟩
 refine⟨y,_,I.T5 (its':=its.eraseIdx k) hH e ?_ (r.eraseIdx k) ?_,rw',q⟩
 ·show its.toArray.eraseIdxIfInBounds k=(its.eraseIdx k).toArray;rw[List.eraseIdxIfInBounds_toArray]
 ·have:=B_ xs k
  lia
theorem len_rep{α:Type}(xs:List α)(k:Nat):(Dp k xs).flatten.length=k*xs.length:=by
 induction k with
 |zero=>simp
 |succ k ih=>rw[abj,aa5,aan,ih,Nat.succ_mul,Nat.add_comm]
end
end L2
namespace Att
open PySem PySem.W PySem.Calls PyProof.Rows
theorem yz{P:Params}{h:Heap}:∀(ns:List Int) (vs:List Value),WellAll P h vs (ns.map WData.int)->IntsAre vs ns:=by
 intro ns
 induction ns with
 |nil=>intro vs w;rw[abw]at w;cases w;exact .nil
 |cons n ns ih=>
  intro vs w;rw[gc]at w;cases w with
  |cons a b=>cases a;exact .cons _ _ (ih _ b)
theorem J3{l:OpenLaw}{n:Nat}(hn:l.most=some n){P:Params}{h:Heap}{args:List WData}{vals:List Value}
  (hpre:l.row.toRowW.claim.pre args=true) (hwl:WellAll P h vals args) :
  ∃a vs ns,vals=[aaB a]/\args=[WData.list (ns.map WData.int)]/\h.get? a=some { cls:=.type "list",data:=.seq vs.toArray }/\IntsAre vs ns/\ns.length<=n:=by
 have hsh:WShape.hasAll [] args [.list .int]=true:=(pre_splitW hpre).1;have hc:l.pre.holds [] { args:=args }=true:=(pre_splitW hpre).2;obtain⟨d,r,rfl,h1,h2⟩:=hasAllW_cons hsh;obtain rfl:=hasAllW_nil h2;obtain⟨xs,rfl,h3⟩:=hasW_list h1;obtain⟨ns,rfl⟩:=items_int h3;have Fp:ns.length<=n:=by
  unfold OpenLaw.pre at hc;have h4:(WTm.not (.lt (.lit (.int (n:Int))) (.len (.arg 0)))).holds [] { args:=[.list (ns.map .int)] }=true:=by have h4:=(holds_andW hc).1;rw[hn]at h4;exact h4
  have h5:=condW_of h4 (w_not (w_lt w_lit (w_len_list (w_arg rfl))));rw[Pa]at h5;refine Nat.le_of_not_lt fun q=>?_;have q':(n:Int)<((ns.length:Nat):Int):=by omega
  first
   |(rw[decide_eq_true q']at h5;exact absurd h5 (by decide))
   |(simp at h5;omega)
 cases hwl with
 |cons w1 w2=>
  cases w2;cases w1 with
  |list ho hall=>exact⟨_,_,ns,rfl,rfl,ho,yz ns _ hall,Fp⟩
theorem J4(l:OpenLaw)(args:List WData):l.row.toRowW.claim.post args (.bool true) args=true:=
 postW_of (r:=l.row.toRowW) (X:=(true == true))
  (show WShape.has [] (.bool true) .bool=true by first | rfl | decide | simp[WShape.has,WShape.arms,WShape.armsAll])
  (show (WTm.eq .res (.lit (.bool true))).value [] { args:=args,res:=some (.bool true),after:=args }=some (.bool (true == true)) from w_eq_bool (w_res rfl) w_lit) rfl
theorem Em{l:OpenLaw}{n:Nat}{q:Program}{loose:List Str}{XP:(Str->Option Value)->Heap->Prop}{YP:World->Heap->Prop}{d:DefRec}
  (hn:l.most=some n) (hdf:d.params.defaults=[])
  (call:∀ (w:World) (s₀ s₁:Shared) (mg mb:Str→Option Value) (fa:Addr) (o:Obj) (pm cd doc:Value) (a:Addr) (vs:List Value) (ns:List Int),
   Ground q loose [] XP w s₀ mg mb s₁.heap->YP w s₁.heap ->
   s₁.heap.get? fa=some o->o.data=.func (docDef d.name d.params d.body d.scope pm cd doc)->s₁.heap.CodeRec cd d.name->mg d.name=some (.ref fa) ->
   s₁.heap.get? a=some { cls:=.type "list",data:=.seq vs.toArray }->IntsAre vs ns->ns.length<=n->s₁.gens=#[] ->
   codeAny (model l.prog w) callerA (.call (.ref fa) ⟨[.ref a],[]⟩) (fun r s'=>r=.ok (.ret (.bool true))/\OldK s₁.heap s'.heap/\s'.os=s₁.os/\AllBare s'.gens) s₁) :
  WalkO q loose XP YP l.row.toRowW d [] (fun f vs=>PySem.call f vs):=by
 intro w s₀ s₁ mg mb G Y fa o pm cd doc dV kV ho hd R1 hD hmg hg args vals as hpre hlay hrd hwl hlo;obtain rfl:dV=.none:=Dflts.none hD hdf;obtain rfl:kV=.none:=Dflts.noKw hD;obtain⟨a,vs,ns,rfl,rfl,hobj,hints,Fp⟩:=J3 hn hpre hwl;refine enter_call (codeAny_mono (call w s₀ s₁ mg mb fa o pm cd doc a vs ns G Y ho (fd_plain hd) R1 hmg hobj hints Fp hg) fun r s' hq=>?_);obtain⟨rfl,h2,h3,h4⟩:=hq;exact⟨.inl ⟨.bool true,.bool true,[],rfl,fun _=>rfl,.bool true,J4 l _,fun _=>⟨acu.nil,fun _ hm=>(nomatch hm)⟩⟩,h2,h3,h4⟩
end Att
namespace L2
open PySem PySem.Spec PyProof.Rows
theorem kK:∀{vs:List Value} {ns:List Int},IntsAre vs ns->Vals (ns.map V.int) vs
 |_,_,.nil=>.nil
 |_,_,.cons n t h=>.cons ⟨t,rfl⟩ (kK h)
def T8(H:Hp):Prop:=∀b,H b=none\/∃o xs,H b=some (.frz o (.lst xs))
theorem LB{P:Program}{w:World}{K:Dk}{mg mb:Str->Option Value}{CX:CXT}{k:Nat}{fa a:Addr}{fd:FuncData}{x:Str}{sp:Sp}{s₁:Shared}{vs:List Value}{ns:List Int}
  (KX:K.In s₁.heap) (hns:s₁.heap.Ns mainGlobals mg) (hb:s₁.heap.Ns builtinsNs mb) (hbb:∀x:Str,x ≠ "__name__" -> mb x=bootBuiltins x) (hlim:s₁.heap.NoLimit) (hg:s₁.gens=#[])
  (ha:s₁.heap.get? a=some { cls:=.type "list",data:=.seq vs.toArray }) (hi:IntsAre vs ns) (hl:ns.length<=sizeLine) (hr:b9 k callerA)
  (F:∀base:Heap,K.In base->base.Ns mainGlobals mg->bI P w K mg base CX k fa fd [x] sp) (hbind:∀(s:Shared) (u:Value),BindsTo s fd ⟨[u],[]⟩ [(x,u)])
  (hsp:∀H:Hp,T8 H->SqL K H a (ns.map V.int)->sp [.ref a] H (fun v _=>v=.bl true) fun _ _ _=>False)
  (hCX:∀H e s',CX [] H s₁ (fun _ _ _=>False) e s'->False) :
  codeAny (model P w) callerA (.call (.ref fa) ⟨[.ref a],[]⟩) (fun r s'=>r=.ok (.ret (.bool true))/\OldK s₁.heap s'.heap/\s'.os=s₁.os/\AllBare s'.gens) s₁:=by
 have rv:=kK hi;have Zf:=hi.length;have core:∀H:Hp,T8 H->SqL K H a (ns.map V.int)->HOk P w H s₁.heap->(∀b,H b≠none->b=a)->(H a≠none->K.lookup a=none) ->
   codeAny (model P w) callerA (.call (.ref fa) ⟨[.ref a],[]⟩) (fun r s'=>r=.ok (.ret (.bool true))/\OldK s₁.heap s'.heap/\s'.os=s₁.os/\AllBare s'.gens) s₁:=by
  intro H hO hS hok hA hK;have Iu:∀{b:Addr} {o:Obj},s₁.heap.get? b=some o->H b=none->(CQ s₁.heap H).get? b=some o:=fun e n=>La e n;have noA:∀{b:Addr} {o:Obj} {es:Array DictEntry} {ep:Nat},s₁.heap.get? b=some o->o.data=.dict es ep->H b=none:=fun {b o es ep} e d=>by
   cases q:H b with
   |none=>rfl
   |some u=>have e':b=a:=hA b (by rw[q];simp);subst e';rw[ha]at e;cases e;have d':Data.seq vs.toArray _=Data.dict es ep:=d;cases d'
  have nsK:∀{b:Addr} {m:Str->Option Value},s₁.heap.Ns b m->(CQ s₁.heap H).Ns b m:=fun {b m} ⟨o,es,ep,e,d,r⟩=>⟨o,es,ep,Iu e (noA e d),d,r⟩;have hKb:K.In (CQ s₁.heap H):=fun b o e=>Iu (KX b o e) (by
   cases q:H b with
   |none=>rfl
   |some u=>have e':b=a:=hA b (by rw[q];simp);subst e';rw[hK (by rw[q];simp)]at e;cases e)
  have hM:Mod K mg (CQ s₁.heap H):=⟨hKb,nsK hns,⟨mb,nsK hb,hbb⟩,let ⟨mc,h1,h2⟩:=hlim;⟨mc,nsK h1,h2⟩⟩
  have e0:O7 P w K mg (CQ s₁.heap H) callerA [] s₁ H:=⟨rfl,hM,fun b o e=>OY e,Nat.le_of_eq (JQ _ _),trivial,fun b hb=>absurd (show b∈([]:List Addr) from hb) (by simp),hok,.of_eq hg⟩
  refine codeAny_mono ((F _ hKb (nsK hns)).run callerA [] s₁ H ⟨[.ref a],[]⟩ [.ref a] [.ref a] _ _ hr e0 (hbind s₁ (.ref a)) (.cons rfl .nil) (hsp H hO hS)) fun r s' h=>?_;cases r with
  |error e=>exact(hCX H e s' h).elim
  |ok fl=>
   cases fl with
   |next=>exact aat h
   |brk=>exact aat h
   |cont=>exact aat h
   |ret u=>
    obtain⟨v,H',os,bare,un,Zg,r',q⟩:=h;have q':v=.bl true:=q;subst q';obtain rfl:u=ac0 true:=r';refine⟨rfl,OldK.of_keep fun b o e=>?_,os,bare⟩;cases q:H b with
    |none=>exact un.keep b o e q (by intro z;exact absurd (show b∈([]:List Addr) from z) (by simp)) (by simp)
    |some u=>
     rcases hO b with z | ⟨ob,xs,z⟩
     ·rw[q]at z;cases z
     ·have z2:=un.yw b ob _ z;obtain⟨e1,_⟩:=hok b _ z;obtain⟨e2,_⟩:=Zg b _ z2;rw[e]at e1;cases e1;exact e2
 cases hk:K.lookup a with
 |some o=>have e:=KX a o hk;rw[ha]at e;cases e;refine core (fun _=>none) (fun _=>.inl rfl) (.inr ⟨_,vs.toArray,_,hk,rfl,rfl,rfl,by rw[aai,Zf];exact hl,by simpa using rv⟩) (fun b u z=>by have z':(none:Option HO)=some u:=z;cases z') (fun b z=>absurd rfl z) fun z=>absurd rfl z
 |none=>
  refine core (fun b=>if b=a then some (.frz { cls:=.type "list",data:=.seq vs.toArray } (.lst (ns.map V.int))) else none) (fun b=>?_) (.inl (.inr ⟨{ cls:=.type "list",data:=.seq vs.toArray },if_pos rfl⟩)) (fun b u z=>?_) (fun b z=>?_) fun _=>hk
  ·by_cases hb:b=a
   ·exact .inr ⟨_,_,if_pos hb⟩
   ·exact .inl (if_neg hb)
  ·by_cases hb:b=a
   ·have z':=(if_pos hb).symm.trans z;cases z';subst hb;exact⟨ha,by rw[Pa];exact hl,vs,_,rv,ha⟩
   ·have z':=(if_neg hb).symm.trans z;cases z'
  ·by_cases hb:b=a
   ·exact hb
   ·exact absurd (if_neg hb) z
theorem Pb{l:acP}{n k:Nat}{q:Program}{loose:List Str}{XP:(Str->Option Value)->Heap->Prop}{YP:World->Heap->Prop}{d:DefRec}{K:Params->Dk}{CX:World->CXT}{sp:World->Sp}{x:Str}
  (hn:l.most=some n) (hn2:n<=sizeLine) (hdf:d.params.defaults=[]) (hr:b9 k callerA)
  (hY:∀(w:World) (h:Heap),YP w h->(K w.params).In h)
  (F:∀ (w:World) (mg:Str→Option Value) (fa:Addr) (h:Heap),(K w.params).In h→h.Ns mainGlobals mg→mg d.name=some (.ref fa) →
   ∃fd:FuncData,(∀(s:Shared) (u:Value),BindsTo s fd ⟨[u],[]⟩ [(x,u)]) /\
    ∀base:Heap,(K w.params).In base->base.Ns mainGlobals mg->bI l.prog w (K w.params) mg base (CX w) k fa fd [x] (sp w))
  (hsp:∀(w:World) (H:Hp) (a:Addr) (ns:List Int),ns.length<=n->T8 H->SqL (K w.params) H a (ns.map V.int)->sp w [.ref a] H (fun v _=>v=.bl true) fun _ _ _=>False)
  (hCX:∀(w:World) (H:Hp) (s:Shared) (e:Value) (s':Shared),CX w [] H s (fun _ _ _=>False) e s'->False) :
  PySem.W.WalkO q loose XP YP l.row.toRowW d [] (fun f vs=>PySem.call f vs):=by
 refine Att.Em hn hdf fun w s₀ s₁ mg mb fa o pm cd doc a vs ns G Y ho hd R1 hmg hobj hints Fp hg=>?_;have KX:=hY w _ Y;obtain⟨fd,hb,hF⟩:=F w mg fa _ KX G.T.g hmg;exact LB KX G.T.g G.T.b G.T.builtins G.T.nolimit hg hobj hints (aaE Fp hn2) hr hF hb (fun H hO hS=>hsp w H a ns Fp hO hS) fun H e s'=>hCX w H s₁ e s'
noncomputable def cF(s:Stmt):Arguments:=match s with
 |.FunctionDef _ a _ _ _ _ _ _ _ _=>a
 |_=>{ posonlyargs:=[],args:=[],vararg:=none,kwonlyargs:=[],kw_defaults:=[],kwarg:=none,defaults:=[] }
noncomputable def b5(s:Stmt):List Stmt:=match s with
 |.FunctionDef _ _ b _ _ _ _ _ _ _=>b
 |_=>[]
noncomputable def ao(s:Stmt):Scope:=match s with
 |.FunctionDef _ _ _ _ _ _ sc _ _ _=>sc
 |_=>{ kind:=.function,names:=[],isGenerator:=false,isCoroutine:=false }
noncomputable abbrev CX0:CXT:=fun _ _ _ _ _ _=>False
noncomputable abbrev E0:XK:=fun _ _ _=>False
theorem En{X:Cx}:Passes CX0 X E0:=fun _ _ _ _ _ _ _ h=>h.elim
structure Fun(K:Dk)(x qual:Str)(st:Stmt)(f:Addr)(fd:FuncData):Prop where
 ex:∃(oc:Value) (od:Option Addr) (kV doc pm:Value) (an:Option Addr) (cdv ct:Value) (osl:Array (Option Value)),
  fd=aaQ x qual (cF st) (b5 st) (ao st) .none kV doc pm an cdv ct/\K.lookup f=some ⟨oc,od,.func fd,osl⟩/\ab5 K cdv qual=true
 kp:aaW K (.ref f)=true
section
variable{P:Program}{w:World}{K:Dk}{mg:Str->Option Value}{base:Heap}
section
variable{x qual:Str}{st:Stmt}{fd:FuncData}{f:Addr}
theorem Fun.ok{N ps:List Str}{k:Nat}{sp:Sp}(F:Fun K x qual st f fd)(S:aN N ps (ao st))(len:∀vs H Q E,sp vs H Q E->vs.length=ps.length)
  (hbody:∀ (cdv:Value) (A:Around) (outer:List Env) (s:Shared) (H:Hp) (vs:List V) (Q:VK) (E:XK),b9 k (A.deeper (envOfC qual (ao st) s.heap.objs.size f cdv))→sp vs H Q E →
   ∃t,PSs (n_ CX0 P w K mg base N qual (ao st) f cdv A outer s H E).nox (b5 st) t/\t { nx:=fun _ H'=>Q .non H',rt:=Q } (start N vs) H):bI P w K mg base CX0 (k+1) f fd ps sp:=by
 obtain⟨oc,od,kV,doc,pm,an,cdv,ct,osl,rfl,lk,R1⟩:=F.ex;refine RH lk R1 S len fun A outer s H vs Q E hr hsp=>?_;obtain⟨t,h,q⟩:=hbody cdv A outer s H vs Q E hr hsp;exact⟨t,h.nox,q⟩
theorem Fun.binds{ps:List Str}(F:Fun K x qual st f fd)
  (h:∀(kV doc pm:Value) (an:Option Addr) (cdv ct:Value) (us:List Value),us.length=ps.length->bindArgs (aaQ x qual (cF st) (b5 st) (ao st) .none kV doc pm an cdv ct) ⟨us,[]⟩=pure (ps.zip us)):Binds K fd ps []:=by
 obtain⟨oc,od,kV,doc,pm,an,cdv,ct,osl,rfl,lk,R1⟩:=F.ex;exact .all (h kV doc pm an cdv ct)
theorem LC{oc:Value}{od an:Option Addr}{osl:Array (Option Value)}{kV doc pm cdv ct:Value}(l:K.lookup f=some ⟨oc,od,.func (aaQ x qual (cF st) (b5 st) (ao st) .none kV doc pm an cdv ct),osl⟩)
  (c:ab5 K cdv qual=true) (k:aaW K (.ref f)=true):Fun K x qual st f (aaQ x qual (cF st) (b5 st) (ao st) .none kV doc pm an cdv ct):=⟨⟨oc,od,kV,doc,pm,an,cdv,ct,osl,rfl,l,c⟩,k⟩
end
end
def aO(H H':Hp):Prop:=∀b o,H b=some o->H' b=some o
theorem aO.refl(H:Hp):aO H H:=fun _ _ h=>h
theorem aO.trans{H H1 H2:Hp}(a:aO H H1)(b:aO H1 H2):aO H H2:=fun c o h=>b c o (a c o h)
theorem aO.free{H H':Hp}(e:aO H H'){l:Addr}(h:H' l=Option.none):H l=Option.none:=by
 cases q:H l with
 |none=>rfl
 |some o=>rw[e l o q]at h;cases h
section
variable{κ:Type}[DecidableEq κ]
section
variable{u:Option Value}{o:Option V}{y:V}
noncomputable def mL(kvs:List (κ×V))(k:κ):Option V:=(kvs.find? fun kv=>decide (kv.1=k)).map (·.2)
noncomputable def putK(kvs:List (κ×V))(k:κ)(v:V):List (κ×V):=
 if (kvs.any fun kv=>decide (kv.1=k))=true then kvs.map (fun kv=>if kv.1=k then (kv.1,v) else kv) else kvs++[(k,v)]
noncomputable def ki(kvs:List (κ×V))(k:κ):List (κ×V):=kvs.filter fun kv=>decide (kv.1≠k)
theorem oB{p:κ×V}{r:List (κ×V)}{k:κ}(e:p.1=k):mL (p::r) k=some p.2:=by simp[mL,aa0,e]
theorem oE{p:κ×V}{r:List (κ×V)}{k:κ}(e:¬p.1=k):mL (p::r) k=mL r k:=by simp[mL,aa0,e]
theorem zQ(k:κ):∀kvs:List (κ×V),(kvs.any fun kv=>decide (kv.1=k))=(mL kvs k).isSome
 |[]=>rfl
 |p::r=>by
  rw[abc];by_cases e:p.1=k
  ·simp only[oB e,decide_eq_true e,Bool.true_or,ab4]
  ·rw[oE e,decide_eq_false e,Bool.false_or];exact zQ k r
theorem oG(kvs:List (κ×V))(k:κ)(v:V):(putK kvs k v).length<=kvs.length+1:=by
 unfold putK;split
 ·rw[Pa];lia
 ·rw[aan,aaR,List.length_nil];lia
theorem rz.kL(r:rz o u):o.isSome=u.isSome:=by
 cases o with
 |none=>cases u with
  |none=>rfl
  |some _=>exact(show False from r).elim
 |some _=>cases u with
  |none=>exact(show False from r).elim
  |some _=>rfl
theorem rz.getD{d:V}{d':Value}(r:rz o u)(rd:RelV d d'):RelV (o.getD d) (u.getD d'):=by
 cases o with
 |none=>cases u with
  |none=>exact rd
  |some _=>exact(show False from r).elim
 |some _=>cases u with
  |none=>exact(show False from r).elim
  |some _=>exact r
theorem KV.val{kvs:List (κ×V)}{vs:List (κ×Value)}(r:KV kvs vs)(k:κ):rz (mL kvs k) (valueAt vs k):=by
 unfold KV at r
 induction r with
 |nil=>exact abl
 |@cons p q ps qs h t ih=>
  obtain⟨h1,h2⟩:=h;by_cases e:p.1=k
  ·have e':q.1=k:=h1.symm.trans e;have b:valueAt (q::qs) k=some q.2:=by simp[valueAt,aa0,e']
   rw[oB e,b];exact h2
  ·have e':¬q.1=k:=fun z=>e (h1.trans z);have b:valueAt (q::qs) k=valueAt qs k:=by simp[valueAt,aa0,e']
   rw[oE e,b];exact ih
theorem KV.any{kvs:List (κ×V)}{vs:List (κ×Value)}(r:KV kvs vs)(k:κ):(kvs.any fun kv=>decide (kv.1=k))=vs.any fun kv=>decide (kv.1=k):=by
 unfold KV at r
 induction r with
 |nil=>rfl
 |cons h t ih=>rw[abc,abc,ih,h.1]
theorem KV.repl{kvs:List (κ×V)}{vs:List (κ×Value)}(r:KV kvs vs)(k:κ){u:Value}(ry:RelV y u) :
  KV (kvs.map fun kv=>if kv.1=k then (kv.1,y) else kv) (vs.map fun kv=>if kv.1=k then (kv.1,u) else kv):=by
 unfold KV at r ⊢
 induction r with
 |nil=>exact .nil
 |@cons p q ps qs h t ih=>
  rw[gc,gc];refine .cons ?_ ih;obtain⟨h1,h2⟩:=h;by_cases e:p.1=k
  ·rw[if_pos e,if_pos (h1.symm.trans e)];exact⟨h1,ry⟩
  ·rw[if_neg e,if_neg (fun z=>e (h1.trans z))];exact⟨h1,h2⟩
theorem KV.put{kvs:List (κ×V)}{vs:List (κ×Value)}(r:KV kvs vs)(k:κ){u:Value}(ry:RelV y u):KV (putK kvs k y) (stored vs k u):=by
 unfold putK stored;rw[r.any k];by_cases e:(vs.any fun kv=>decide (kv.1=k))=true
 ·rw[if_pos e,if_pos e];exact r.repl k ry
 ·rw[if_neg e,if_neg e];exact Paired.snoc r ⟨rfl,ry⟩
theorem KV.drop{kvs:List (κ×V)}{vs:List (κ×Value)}(r:KV kvs vs)(k:κ):KV (ki kvs k) (without vs k):=by
 unfold KV at r ⊢;unfold ki without
 induction r with
 |nil=>exact .nil
 |@cons p q ps qs h t ih=>
  obtain⟨h1,h2⟩:=h;rw[List.filter_cons,List.filter_cons];by_cases e:p.1=k
  ·have a:¬decide (p.1≠k)=true:=by simp[e]
   have b:¬decide (q.1≠k)=true:=by simp[h1.symm.trans e]
   rw[if_neg a,if_neg b];exact ih
  ·have e':¬q.1=k:=fun z=>e (h1.trans z);have a:decide (p.1≠k)=true:=by simp[e]
   have b:decide (q.1≠k)=true:=by simp[e']
   rw[if_pos a,if_pos b];exact .cons ⟨h1,h2⟩ ih
theorem KV.length{kvs:List (κ×V)}{vs:List (κ×Value)}(r:KV kvs vs):kvs.length=vs.length:=Paired.length r
theorem Eo(kvs:List (κ×V))(k:κ):(ki kvs k).length<=kvs.length:=abz _ _
end
end
section
variable{xs:List (List Key×Addr×Value)}{kvs:List (List Key×V)}{u:Value}{P:Program}{w:World}{H:Hp}{y:V}
theorem xT{k:Key}(r:RelV (kV k) u):(bB P w).is k u=true:=by
 cases k with
 |inl i=>obtain⟨t,e⟩:=(show ∃t,u=aco i t from r);subst e;exact Ea P w i t
 |inr x=>obtain⟨t,e⟩:=(show ∃t,u=acK x t from r);subst e;exact Eb P w x t
theorem Ca:∀{ks:List Key} {us:List Value},Vals (ks.map kV) us->ItemsAre (bB P w) ks us
 |[],_,r=>by rw[abw]at r;cases r;exact .nil
 |k::ks,_,r=>by
  rw[gc]at r;cases r with
  |cons h t=>exact .cons (xT h) (Ca t)
noncomputable abbrev KT(H:Hp):List (List Key×V)->List (List Key×Addr×Value)->Prop:=Paired fun p q=>p.1=q.1/\H q.2.1=some (.tup (p.1.map kV))/\RelV p.2 q.2.2
theorem KT.val(r:KT H kvs xs)(k:List Key):rz (mL kvs k) ((atKey xs k).map (·.2)):=by
 induction r with
 |nil=>exact abl
 |@cons p q ps qs h t ih=>
  obtain⟨h1,_,h2⟩:=h;by_cases e:p.1=k
  ·have e':q.1=k:=h1.symm.trans e;have b:atKey (q::qs) k=some q.2:=by simp[atKey,aa0,e']
   rw[oB e,b];exact h2
  ·have e':¬q.1=k:=fun z=>e (h1.trans z);have b:atKey (q::qs) k=atKey qs k:=by simp[atKey,aa0,e']
   rw[oE e,b];exact ih
theorem KT.repl(r:KT H kvs xs)(k:List Key)(ry:RelV y u) :
  KT H (kvs.map fun kv=>if kv.1=k then (kv.1,y) else kv) (xs.map (putAt k u)):=by
 induction r with
 |nil=>exact .nil
 |@cons p q ps qs h t ih=>
  rw[gc,gc];refine .cons ?_ ih;obtain⟨h1,h2,h3⟩:=h;unfold putAt;by_cases e:p.1=k
  ·rw[if_pos e,if_pos (h1.symm.trans e)];exact⟨h1,h2,ry⟩
  ·rw[if_neg e,if_neg (fun z=>e (h1.trans z))];exact⟨h1,h2,h3⟩
theorem KT.put(r:KT H kvs xs)(k:List Key){b:Addr}(hb:H b=some (.tup (k.map kV)))(ry:RelV y u) :
  KT H (putK kvs k y) (storedH xs k b u):=by
 have e:(kvs.any fun kv=>decide (kv.1=k))=(atKey xs k).isSome:=by rw[zQ,(r.val k).kL,aba]
 unfold putK storedH;rw[e];by_cases q:(atKey xs k).isSome=true
 ·rw[if_pos q,if_pos q];exact r.repl k ry
 ·rw[if_neg q,if_neg q];exact Paired.snoc r ⟨rfl,hb,ry⟩
theorem KT.keeps{H H':Hp}(r:KT H kvs xs)(ht:∀b ys,H b=some (.tup ys)->H' b=some (.tup ys)):KT H' kvs xs:=
 Paired.S8 r fun _ _ z=>⟨z.1,ht _ _ z.2.1,z.2.2⟩
end
section
variable{P:Program}{w:World}{H:Hp}{h:Heap}{a:Addr}
section
variable{kvs:List (List Key×V)}{ts:List Addr}
theorem RJ{u:HO}(ok:HOk P w H h)(e:Rd H a u):bR P w H h a u:=e.ok ok
theorem xU{kvs:List (Key×V)}(ok:HOk P w H h)(e:Rd H a (.dK kvs)):kvs.length<=sizeLine/\(a == sysModules)=false/\∃vs,KV kvs vs/\h.DictOf (bB P w) a vs:=
 show bR P w H h a (.dK kvs) from RJ ok e
theorem Iv{kvs:List (Key×V)}(ok:HOk P w H h)(e:H a=some (.dK kvs)):kvs.length<=sizeLine/\(a == sysModules)=false/\∃vs,KV kvs vs/\h.DictOf (bB P w) a vs:=xU ok (.inl e)
theorem rC{ks:List Key}(ok:HOk P w H h)(e:H a=some (.tup (ks.map kV))):(tupleKind (bB P w)).is h ks a:=by
 obtain⟨_,its,r,o,h1,h2,n,h3⟩:=(show bR P w H h a (.tup (ks.map kV)) from ok a _ e)
 exact⟨o,its.toArray,n,h1,h2,h3,by simpa using Ca r⟩
theorem zR(ok:HOk P w H h)(e:Rd H a (.dT kvs ts)):kvs.length<=sizeLine/\(a == sysModules)=false /\
  ∃xs,KT H kvs xs/\h.DictOfH (tupleKind (bB P w)) a xs:=by
 obtain⟨z,y,xs,r,o,es,ep,h1,h2,h3,h4,h5,_⟩:=(show bR P w H h a (.dT kvs ts) from RJ ok e)
 refine⟨z,y,xs,r,o,es,ep,h1,h2,h3,h4,fun x hx=>?_,h5⟩;have all:∀{l:List (List Key×V)} {m:List (List Key×Addr×Value)},KT H l m->∀x∈m,(tupleKind (bB P w)).is h x.1 x.2.1:=by
  intro l m q
  induction q with
  |nil=>intro x hx;exact nomatch hx
  |@cons p q ps qs hq t ih=>
   intro x hx;rcases aah.mp hx with e | hx
   ·subst e;exact rC ok (by rw[<- hq.1];exact hq.2.1)
   ·exact ih x hx
 exact all r x hx
theorem LD(ok:HOk P w H h)(e:H a=some (.dT kvs ts)):kvs.length<=sizeLine/\(a == sysModules)=false /\
  ∃xs,KT H kvs xs/\h.DictOfH (tupleKind (bB P w)) a xs:=zR ok (.inl e)
end
end
section
variable{kvs:List (List Key×V)}{H:Hp}{ts:List Addr}{a:Addr}
noncomputable def GH(kvs:List (List Key×V))(ts:List Addr)(k:List Key)(b:Addr):List Addr:=if (kvs.any fun kv=>decide (kv.1=k))=true then ts else ts++[b]
theorem Ep{xs:List (List Key×Addr×Value)}(r:KT H kvs xs)(k:List Key)(b:Addr)(u:Value):(storedH xs k b u).map (·.2.1)=GH kvs (xs.map (·.2.1)) k b:=by
 have e:(kvs.any fun kv=>decide (kv.1=k))=(atKey xs k).isSome:=by rw[zQ,(r.val k).kL,aba]
 unfold storedH GH;rw[e];by_cases q:(atKey xs k).isSome=true
 ·rw[if_pos q,if_pos q,aaN];refine abv fun x _=>?_;show (putAt k u x).2.1=x.2.1;unfold putAt;split<;>rfl
 ·rw[if_neg q,if_neg q,aaj];rfl
theorem GI{P:Program}{w:World}{h:Heap}{xs xs2:List (List Key×Addr×Value)}{ts:List Addr}{o:Obj}{es:Array DictEntry}{ep:Nat}(d:h.DictOfH (tupleKind (bB P w)) a xs)(g1:h.get? a=some o)(g3:o.data=.dict es ep)
  (g4:es.toList=xs2.map (entryOfKey (tupleKind (bB P w)))) (g6:xs2.map (·.2.1)=ts):xs.map (·.2.1)=ts:=by
 obtain⟨o1,es1,ep1,h1,h2,h3,h4,_⟩:=d;rw[g1]at h1;cases h1;rw[g3]at h3;cases h3;rw[g4]at h4;have key:∀l:List (List Key×Addr×Value),(l.map (entryOfKey (tupleKind (bB P w)))).map (·.key)=(l.map (·.2.1)).map aaB:=fun l=>by rw[aaN,aaN];rfl
 have:=congrArg (List.map (·.key)) h4;rw[key,key,g6]at this;exact(acr (fun a b e=>aaB.inj e)).mp this.symm
def j8(H:Hp)(a:Addr)(y:V)(r:Option V):Prop:=
 (∃kvs k,Rd H a (.dK kvs)/\y=kV k/\r=mL kvs k)\/∃kvs k b ts,Rd H a (.dT kvs ts)/\y=.ref b/\H b=some (.tup (k.map kV))/\r=mL kvs k
def Er(H:Hp)(a:Addr)(y v:V)(H':Hp):Prop:=
 (∃kvs k,H a=some (.dK kvs)/\y=kV k/\kvs.length<sizeLine/\H'=upd H a (.dK (putK kvs k v))) \/
 ∃kvs k b ts,H a=some (.dT kvs ts)/\y=.ref b/\H b=some (.tup (k.map kV))/\kvs.length<sizeLine/\H'=upd H a (.dT (putK kvs k v) (GH kvs ts k b))
theorem j8.k{kvs:List (Key×V)}{k:Key}(e:H a=some (.dK kvs)):j8 H a (kV k) (mL kvs k):=.inl ⟨kvs,k,.inl e,rfl,rfl⟩
theorem j8.t{a b:Addr}{k:List Key}(e:H a=some (.dT kvs ts))(eb:H b=some (.tup (k.map kV))):j8 H a (.ref b) (mL kvs k):=.inr ⟨kvs,k,b,ts,.inl e,rfl,eb,rfl⟩
theorem Er.k{kvs:List (Key×V)}{k:Key}{v:V}(e:H a=some (.dK kvs))(hl:kvs.length<sizeLine):Er H a (kV k) v (upd H a (.dK (putK kvs k v))):=.inl ⟨kvs,k,e,rfl,hl,rfl⟩
theorem Er.t{a b:Addr}{k:List Key}{v:V}(e:H a=some (.dT kvs ts))(eb:H b=some (.tup (k.map kV)))(hl:kvs.length<sizeLine) :
  Er H a (.ref b) v (upd H a (.dT (putK kvs k v) (GH kvs ts k b))):=.inr ⟨kvs,k,b,ts,e,rfl,eb,hl,rfl⟩
end
section
variable{X:Cx}{BU:List (Addr×Obj)}{σ:St}{H:Hp}{s:Shared}{a:Addr}{y v:V}{u r:Value}{o:Option V}{A:Around}{E:Value->Shared->Prop}
section
variable{Q:Value->Shared->Prop}{h':Heap}
theorem Inv.big(I:Inv X BU σ H s):sysModules<s.heap.objs.size:=by have h:mainGlobals<s.heap.objs.size:=(I.mod.glob.keeps I.bk).lt;exact Nat.lt_trans (by decide) h
theorem J_(hu:A.units+1<cLine)(I:Inv X BU σ H s)(g:j8 H a y (some v))(ry:RelV y u)(h:∀w' s',Inv X BU σ H s'->RelV v w'->Q w' s') :
  wpAny (model X.prog X.w) A (getItem (.ref a) u) Q E s:=by
 rcases g with⟨kvs,k,e,ey,l⟩ | ⟨kvs,k,b,ts,e,ey,eb,l⟩
 ·subst ey;obtain⟨z,hd,vs,rel,dd⟩:=xU I.hok e;obtain⟨w',hw,rw'⟩:=rz.some_of (v:=v) (o:=valueAt vs k) (by rw[l];exact rel.val k);exact wpAny_getItem_of (xT ry) dd.mapOf hw (h w' _ (I.tok _) rw')
 ·subst ey;cases (show u=aaB b from ry);obtain⟨z,hd,xs,rel,dd⟩:=zR I.hok e;obtain⟨w',hw,rw'⟩:=rz.some_of (v:=v) (o:=(atKey xs k).map (·.2)) (by rw[l];exact rel.val k);obtain⟨p,hp,hp2⟩:=Option.map_eq_some_iff.mp hw;refine wpAny_getItem_heap (tupleKind_room_in1 hu) (rC I.hok eb) dd hp ?_;rw[hp2];exact h w' _ (I.tok _) rw'
theorem LF(hu:A.units+1<cLine)(I:Inv X BU σ H s)(g:j8 H a y o)(ry:RelV y u)(h:∀s',Inv X BU σ H s'->Q (.bool o.isSome) s') :
  wpAny (model X.prog X.w) A (compareOp .In u (.ref a)) Q E s:=by
 rcases g with⟨kvs,k,e,ey,l⟩ | ⟨kvs,k,b,ts,e,ey,eb,l⟩
 ·subst ey;obtain⟨z,hd,vs,rel,dd⟩:=xU I.hok e;refine wpAny_in_of (xT ry) hd dd.mapOf ?_;rw[<- (rel.val k).kL,<- l];exact h _ (I.tok _)
 ·subst ey;cases (show u=aaB b from ry);obtain⟨z,hd,xs,rel,dd⟩:=zR I.hok e;refine wpAny_in_heap (tupleKind_room_in1 hu) (rC I.hok eb) hd dd ?_;have q:=(rel.val k).kL;rw[aba]at q;rw[<- q,<- l];exact h _ (I.tok _)
theorem Pc(hu:A.units+1<cLine)(I:Inv X BU σ H s)(g:j8 H a y o)(ry:RelV y u)(h:∀s',Inv X BU σ H s'->Q (.bool (!o.isSome)) s') :
  wpAny (model X.prog X.w) A (compareOp .NotIn u (.ref a)) Q E s:=by
 rcases g with⟨kvs,k,e,ey,l⟩ | ⟨kvs,k,b,ts,e,ey,eb,l⟩
 ·subst ey;obtain⟨z,hd,vs,rel,dd⟩:=xU I.hok e;refine wpAny_notIn_of (xT ry) hd dd.mapOf ?_;rw[<- (rel.val k).kL,<- l];exact h _ (I.tok _)
 ·subst ey;cases (show u=aaB b from ry);obtain⟨z,hd,xs,rel,dd⟩:=zR I.hok e;refine wpAny_notIn_heap (tupleKind_room_in1 hu) (rC I.hok eb) hd dd ?_;have q:=(rel.val k).kL;rw[aba]at q;rw[<- q,<- l];exact h _ (I.tok _)
theorem uP{t':Nat}{ob:HO}(I:Inv X BU σ H s)(mu:Mut (H a))(hs:abq a s.heap h')(he:∃q,h'.get? a=some q)(new:bR X.prog X.w (upd H a ob) h' a ob) :
  Inv X BU σ (upd H a ob) { s with heap:=h',toks:=t' }:=
 I.write (x:=a) (e:=a) mu (.inl rfl) (fun b q hb z=>(hs.2 b hb).trans z) he new
theorem C2{P:Program}{w:World}{H':Hp}{kvs:List (Key×V)}{vs:List (Key×Value)}(z:kvs.length<=sizeLine)(hd:(a == sysModules)=false)(rel:KV kvs vs)(dd:h'.DictOf (bB P w) a vs) :
  bR P w H' h' a (.dK kvs):=⟨z,hd,vs,rel,dd⟩
theorem Ka{H':Hp}{Q:Unit->Shared->Prop}(hu:A.units+1<cLine)(I:Inv X BU σ H s)(g:Er H a y v H')(ry:RelV y u)(rv:RelV v r)(h:∀s',Inv X BU σ H' s'->Q () s') :
  wpAny (model X.prog X.w) A (setItem (.ref a) u r) Q E s:=by
 rcases g with⟨kvs,k,e,ey,l,eH⟩ | ⟨kvs,k,b,ts,e,ey,eb,l,eH⟩
 ·subst ey eH;obtain⟨z,hd,vs,rel,dd⟩:=Iv I.hok e;have hz:vs.length<=sizeLine:=by rw[<- rel.length];exact z
  have hl:(putK kvs k v).length<=sizeLine:=by have:=oG kvs k v;lia
  refine wpAny_setItem_pairs (hsz:=hz) (xT ry) dd fun h' dd' hs=>h _ ?_;have he:∃q,h'.get? a=some q:=let ⟨q,_,_,hq,_⟩:=dd';⟨q,hq⟩
  exact uP I (by rw[e];exact abl) hs he (C2 hl hd (rel.put k rv) dd')
 ·subst ey eH;cases (show u=aaB b from ry);obtain⟨z,hd,xs,rel,dd⟩:=LD I.hok e;have hz:xs.length<=sizeLine:=by rw[<- Paired.length rel];exact z
  have hl:(putK kvs k v).length<=sizeLine:=by have:=oG kvs k v;lia
  refine wpAny_setItem_heap (hsz:=hz) (tupleKind_room_in1 hu) (rC I.hok eb) dd fun h' dd' hs=>h _ ?_;obtain⟨q,es,ep,hq,h2,h3,h4,_,h5⟩:=dd';refine uP I (by rw[e];exact abl) hs ⟨q,hq⟩ ⟨hl,hd,_,(rel.put k eb rv).keeps fun c ys ec=>?_,q,es,ep,hq,h2,h3,h4,h5,?_⟩
  ·rw[aM (Rw ec e (fun z=>nomatch z))];exact ec
  ·have hts:xs.map (·.2.1)=ts:=by
    obtain⟨_,_,xs2,_,o2,es2,ep2,g1,g2,g3,g4,g5,g6⟩:=(show bR X.prog X.w H s.heap a (.dT kvs ts) from I.hok a _ e)
    exact GI dd g1 g3 g4 g6
   rw[<- hts];exact Ep rel k b r
end
end
section
variable{X:Cx}{BU:List (Addr×Obj)}{σ:St}{H:Hp}{s:Shared}{a:Addr}{kvs:List (Key×V)}{k:Key}{u:Value}{A:Around}{E:Value->Shared->Prop}
theorem WH{v:V}{more:List Value}{Q:Value->Shared->Prop}(I:Inv X BU σ H s)(e:H a=some (.dK kvs))(ry:RelV (kV k) u)(l:mL kvs k=some v)(hm:more=[]\/∃x,more=[x])
  (h:∀w' s',Inv X BU σ (upd H a (.dK (ki kvs k))) s'->RelV v w'->Q w' s'):wpAny (model X.prog X.w) A (call (.builtin "dict.pop") (.ref a::u::more)) Q E s:=by
 obtain⟨z,hd,vs,rel,dd⟩:=Iv I.hok e;obtain⟨w',hw,rw'⟩:=rz.some_of (v:=v) (o:=valueAt vs k) (by rw[<- l];exact rel.val k);have hp:(keyPart u).isSome=true:=by
  cases k with
  |inl i=>obtain⟨t,q⟩:=(show ∃t,u=aco i t from ry);subst q;rfl
  |inr x=>obtain⟨t,q⟩:=(show ∃t,u=acK x t from ry);subst q;rfl
 have ha:argsOk "dict.pop" ⟨.ref a::u::more,[]⟩:=by
  rcases hm with q | ⟨x,q⟩
  ·subst q;exact PySem.F.args_dict_pop_2 _ _
  ·subst q;exact PySem.F.args_dict_pop_3 _ _ _
 refine call_meetsIn abS dd.typeIs PySem.F.entry_dict_pop ha (meets_dict_pop_there (bB X.prog X.w) a (xT ry) more hm hp)
  ⟨vs,w',dd,by rw[<- rel.length];exact z,hw,fun h' dd' hs=>h w' _ ?_ rw'⟩
 have he:∃q,h'.get? a=some q:=let ⟨q,_,_,hq,_⟩:=dd';⟨q,hq⟩
 exact uP I (by rw[e];exact abl) hs he (C2 (aaE (Eo kvs k) z) hd (rel.drop k) dd')
end
def Pd(i:Expr):Prop:=∀ov iv,subscripted i false ov iv=operate [ov,iv] (getItem ov iv)
theorem Pe{prog:Program}{w:World}{A:Around}{E:Value->Shared->Prop}{s:Shared}{env:Env}{value slice:Expr}{pos:Pos}{T id:String}{Q:Value->Shared->Prop}
  (hl:typeLookup (.type T) "__getitem__" = pure (some (.builtin id))) (hs:Pd slice)
  (h:wpAny (model prog w) A (eval value env) (fun o s₁=>wpAny (model prog w) A (eval slice env) (fun i s₂=>s₂.TypeIs o T/\wpAny (model prog w) A (getItem o i) Q E s₂) E s₁) E s) :
  wpAny (model prog w) A (eval (.Subscript value slice pos) env) Q E s:=by
 refine Subscript_ (wpAny_mono h (fun o s₁ h₁=>wpAny_mono h₁ (fun i s₂ h₂=>?_) fun _ _ x=>x) fun _ _ x=>x);obtain⟨hT,h₂⟩:=h₂;unfold subscriptTail;refine wpAny_bind ?_;rw[getitemInPython_of_ne hT.not_modules];refine wpAny_bind (wpAny_specialOf hT hl ?_);have Tr:wpAny (model prog w) A (subscripted slice false o i) (fun r s₃=>wpAny (model prog w) A (letTemporaryGo value o r >>= fun _=>pure r) Q E s₃) E s₂:=by rw[hs o i];exact wpAny_operating (wpAny_mono h₂ (fun r s₃ h₃=>wpAny_bind (wpAny_letTemporaryGo (wpAny_pure h₃))) fun _ _ x=>x)
 first
  |exact wpAny_pure (wpAny_bind Tr)
  |exact wpAny_bind (wpAny_pure (wpAny_bind Tr))
  |exact wpAny_bind Tr
theorem Es{X:Cx}{BU:List (Addr×Obj)}{σ:St}{H:Hp}{s:Shared}{a:Addr}{y:V}{o:Option V}(I:Inv X BU σ H s)(g:j8 H a y o):s.TypeIs (.ref a) "dict" := by
 rcases g with⟨kvs,k,e,_,_⟩ | ⟨kvs,k,b,ts,e,_,_,_⟩
 ·obtain⟨_,_,vs,_,dd⟩:=xU I.hok e;exact dd.typeIs
 ·obtain⟨_,_,xs,_,dd⟩:=zR I.hok e;exact dd.typeIs
def WI(td ty:TE):TE:=fun σ H Q=>td σ H fun x H1=>ty σ H1 fun y H2=>∃a v,x=.ref a/\j8 H2 a y (some v)/\Q v H2
def Zh(ty td:TE):TE:=fun σ H Q=>ty σ H fun y H1=>td σ H1 fun x H2=>∃a o,x=.ref a/\j8 H2 a y o/\Q (.bl o.isSome) H2
def Pf(ty td:TE):TE:=fun σ H Q=>ty σ H fun y H1=>td σ H1 fun x H2=>∃a o,x=.ref a/\j8 H2 a y o/\Q (.bl (!o.isSome)) H2
def LG(td ty tv:TE):TS:=fun D σ H=>tv σ H fun v H1=>td σ H1 fun x H2=>ty σ H2 fun y H3=>∃a H4,x=.ref a/\Er H3 a y v H4/\D.nx σ H4
section
variable{X:Cx}{o i e value:Expr}{pos pos' tpos:Pos}{td ty tv:TE}
theorem Iw(hu:X.A.units+1<cLine)(ho:PE X o td)(hi:PE X i ty)(hs:Pd i):PE X (.Subscript o i pos) (WI td ty):=by intro BU s σ H Q I h;refine Pe PySem.F.slot_dict_getitem.lookup hs (thn (ho BU s σ H _ I h) fun u s1 ⟨x,H1,I1,rx,q1⟩=>thn (hi BU s1 σ H1 _ I1 q1) fun iv s2 ⟨y,H2,I2,ry,a,v,ex,g,q2⟩=>?_);subst ex;obtain rfl:u=aaB a:=rx;exact⟨Es I2 g,J_ hu I2 g ry fun w' s3 I3 rw'=>⟨v,H2,I3,rw',q2⟩⟩
theorem LH(hu:X.A.units+1<cLine)(hi:PE X i ty)(ho:PE X o td):PC X .In i o (Zh ty td):=by intro BU s σ H Q I h;refine thn (hi BU s σ H _ I h) fun iv s1 ⟨y,H1,I1,ry,q1⟩=>thn (ho BU s1 σ H1 _ I1 q1) fun u s2 ⟨x,H2,I2,rx,a,ov,ex,g,q2⟩=>?_;subst ex;obtain rfl:u=aaB a:=rx;exact LF hu I2 g ry fun s3 I3=>⟨.bl ov.isSome,H2,I3,rfl,q2⟩
theorem Kc(hu:X.A.units+1<cLine)(hi:PE X i ty)(ho:PE X o td):PC X .NotIn i o (Pf ty td):=by intro BU s σ H Q I h;refine thn (hi BU s σ H _ I h) fun iv s1 ⟨y,H1,I1,ry,q1⟩=>thn (ho BU s1 σ H1 _ I1 q1) fun u s2 ⟨x,H2,I2,rx,a,ov,ex,g,q2⟩=>?_;subst ex;obtain rfl:u=aaB a:=rx;exact Pc hu I2 g ry fun s3 I3=>⟨.bl (!ov.isSome),H2,I3,rfl,q2⟩
theorem Iz(hu:X.A.units+1<cLine)(ho:PE X o td)(hi:PE X i ty)(hv:PE X value tv)(hs:swapsWith value (some (.Subscript o i pos')) pos.line X.env=pure false) :
  PS X (.Assign [.Subscript o i pos'] value pos) (LG td ty tv):=by
 intro BU s σ H D I h;refine wpAny_Assign_Subscript (thn (hv BU s σ H _ I h) fun r s1 ⟨v,H1,I1,rv,q1⟩=>thn (ho BU s1 σ H1 _ I1 q1) fun u s2 ⟨x,H2,I2,rx,q2⟩=>thn (hi BU s2 σ H2 _ I2 q2) fun iv s3 ⟨y,H3,I3,ry,a,H4,ex,g,q3⟩=>?_) hs;subst ex;obtain rfl:u=aaB a:=rx;exact Ka hu I3 g ry rv fun s4 I4=>⟨σ,H4,I4,q3⟩
end
section
variable{P:Program}{w:World}{H:Hp}
theorem Et(h:Heap)(hb:sysModules<h.objs.size):bR P w H (h.push { cls:=.type "dict",data:=.dict #[] }) h.objs.size (.dK []):=
 ⟨aaY _,beq_eq_false_iff_ne.mpr (Ne.symm (aax hb)),[],.nil,Heap.DictOf.new h⟩
theorem LJ(h:Heap)(hb:sysModules<h.objs.size):bR P w H (h.push { cls:=.type "dict",data:=.dict #[] }) h.objs.size (.dT [] []):=
 ⟨aaY _,beq_eq_false_iff_ne.mpr (Ne.symm (aax hb)),[],.nil,_,#[],0,aaJ _ rfl,⟨rfl,rfl,rfl⟩,rfl,rfl,List.nodup_nil,rfl⟩
def LK:TE:=fun _ H Q=>∀p,H p=none->Q (.ref p) (upd H p (.dK []))
def LL:TE:=fun _ H Q=>∀p,H p=none->Q (.ref p) (upd H p (.dT [] []))
end
section
variable{X:Cx}{pos:Pos}
theorem LM:PE X (.Dict [] [] pos) LK:=fun BU s σ H Q I h=>wpAny_Dict_empty ⟨.ref s.heap.objs.size,_,I.laid (a:=s.heap.objs.size) (o:=.dK []) (t':=s.toks) (fun _ _ q=>aac _ q) (aab _) (Et s.heap I.big),rfl,h _ (I.hok.fresh (aab _))⟩
theorem LN:PE X (.Dict [] [] pos) LL:=fun BU s σ H Q I h=>wpAny_Dict_empty ⟨.ref s.heap.objs.size,_,I.laid (a:=s.heap.objs.size) (o:=.dT [] []) (t':=s.toks) (fun _ _ q=>aac _ q) (aab _) (LJ s.heap I.big),rfl,h _ (I.hok.fresh (aab _))⟩
end
section
variable{trs:List (TE×TE)}{pos:Pos}{X:Cx}
def GJ:List (TE×TE)->St->Hp->(List (V×V)->Hp->Prop)->Prop
 |[],_,H,Q=>Q [] H
 |(tk,tv)::r,σ,H,Q=>tk σ H fun x H1=>tv σ H1 fun y H2=>GJ r σ H2 fun ps H3=>Q ((x,y)::ps) H3
noncomputable abbrev VV:List (V×V)->List (Value×Value)->Prop:=Paired fun p q=>RelV p.1 q.1/\RelV p.2 q.2
def PPs(X:Cx)(pos:Pos)(keys:List (Option Expr))(values:List Expr)(trs:List (TE×TE)):Prop:=
 ∀(BU:List (Addr×Obj)) (s:Shared) (σ:St) (H:Hp) (Q:List (V×V)->Hp->Prop),Inv X BU σ H s->GJ trs σ H Q ->
  wpAny (model X.prog X.w) X.A (evalPairs (pairTrees keys values X.env pos)) (fun vs s'=>∃ps H',Inv X BU σ H' s'/\VV ps vs/\Q ps H') X.xe s
theorem Pg:PPs X pos [] [] []:=fun BU s σ H Q I h=>pairTrees_nil_walk ⟨[],H,I,.nil,h⟩
theorem LO{k v:Expr}{ks:List (Option Expr)}{vs:List Expr}{tk tv:TE}(hk:PE X k tk)(hv:PE X v tv)(hr:PPs X pos ks vs trs) :
  PPs X pos (some k::ks) (v::vs) ((tk,tv)::trs):=fun BU s σ H Q I h=>
 pairTrees_cons_walk (thn (hk BU s σ H _ I h) fun u s1 ⟨x,H1,I1,rx,q1⟩=>thn (hv BU s1 σ H1 _ I1 q1) fun w2 s2 ⟨y,H2,I2,ry,q2⟩=>thn (hr BU s2 σ H2 _ I2 q2) fun ws s3 ⟨ps,H3,I3,rel,q3⟩=>⟨(x,y)::ps,H3,I3,.cons ⟨rx,ry⟩ rel,q3⟩)
noncomputable def we(kvs more:List (Key×V)):List (Key×V):=more.foldl (fun KG kv=>putK KG kv.1 kv.2) kvs
theorem KV.merge:∀{more:List (Key×V)} {rs:List (Key×Value)} {kvs:List (Key×V)} {vs:List (Key×Value)},KV more rs->KV kvs vs->KV (we kvs more) (merged vs rs):=by
 intro more rs kvs vs r;unfold KV at r
 induction r generalizing kvs vs with
 |nil=>intro q;exact q
 |@cons p q ps qs h t ih=>
  intro r0;have e:KV (putK kvs p.1 p.2) (stored vs q.1 q.2):=by have:=r0.put p.1 h.2;rw[<- h.1];exact this
  exact ih e
theorem qT:∀(more kvs:List (Key×V)),(we kvs more).length<=kvs.length+more.length
 |[],kvs=>by show kvs.length<=kvs.length+0;lia
 |p::r,kvs=>by have h1:=qT r (putK kvs p.1 p.2);have h2:=oG kvs p.1 p.2;show (we (putK kvs p.1 p.2) r).length<=_;rw[aaR];lia
theorem zS{P:Program}{w:World}:∀{kvs:List (Key×V)} {ws:List (Value×Value)},VV (kvs.map fun kv=>(kV kv.1,kv.2)) ws->∃rs,Carries (bB P w) ws rs/\KV kvs rs
 |[],_,r=>by rw[abw]at r;cases r;exact⟨[],abl,.nil⟩
 |p::kvs,_,r=>by
  rw[gc]at r;cases r with
  |@cons a b as bs h t=>obtain⟨rs,c,q⟩:=zS (P:=P) (w:=w) t;obtain⟨b1,b2⟩:=b;exact⟨(p.1,b2)::rs,⟨xT h.1,rfl,c⟩,.cons ⟨rfl,h.2⟩ q⟩
def RK(trs:List (TE×TE)):TE:=fun σ H Q=>∀p,H p=none->GJ trs σ (upd H p (.dK [])) fun ps H2=>H2 p=some (.dK [])/\∃kvs:List (Key×V),ps=kvs.map (fun kv=>(kV kv.1,kv.2))/\kvs.length<=15/\Q (.ref p) (upd H2 p (.dK (we [] kvs)))
theorem Ph{keys:List (Option Expr)}{values:List Expr}(h:PPs X pos keys values trs)(hall:keys.all (·.isSome)=true)(hl:keys.length=values.length)(h0:keys≠[])
  (h15:keys.length<=15):PE X (.Dict keys values pos) (RK trs):=by
 intro BU s σ H Q I q;have hn:=I.hok.fresh (aab s.heap.objs.size);have I1:=I.laid (a:=s.heap.objs.size) (o:=.dK []) (h':=s.heap.push { cls:=.type "dict",data:=.dict #[] }) (t':=s.toks) (fun _ _ q=>aac _ q) (aab _) (Et s.heap I.big);refine wpAny_Dict_walk (knd:=bB X.prog X.w) hall hl h0 h15 (thn (h BU _ σ _ _ I1 (q _ hn)) fun ws s2 ⟨ps,H2,I2,rel,e,kvs,ep,lk,q2⟩=>?_);subst ep;obtain⟨rs,c,rk⟩:=zS (P:=X.prog) (w:=X.w) rel;obtain⟨z,hd,vs0,r0,dd⟩:=Iv I2.hok e;cases r0;refine⟨rs,c,dd,fun h' dd' hs=>⟨.ref s.heap.objs.size,_,?_,rfl,q2⟩⟩;have hz:(we [] kvs).length<=sizeLine:=by have h1:=qT kvs [];rw[List.length_nil]at h1;rw[sizeLine_eq];lia
 have he:∃q,h'.get? s.heap.objs.size=some q:=let ⟨q,_,_,hq,_⟩:=dd';⟨q,hq⟩
 exact uP I2 (by rw[e];exact abl) hs he (C2 hz hd (rk.merge .nil) dd')
structure M1(X:Cx)(o:Expr)(m:Str)(Nd:Pos)(e:Expr)(cpos:Pos):Prop where
 base:attributeBase o m X.env (eval o X.env)=eval o X.env
 few:((backTo cpos (starEach [e] X.env)).all (fun x=>!x.1)&&(backToKw cpos (keywordEach [] X.env)).all (fun x=>x.1.isSome)
  && decide (([e]:List Expr).length+([]:List Keyword).length+(if ([]:List Keyword).isEmpty then 0 else 1)<30))=true
 line:(Nd.endLine == cpos.line)=true
 trees:backTo cpos (starEach [e] X.env)=[(false,eval e X.env)]
def IsD(H:Hp)(a:Addr):Prop:=(∃kvs,Rd H a (.dK kvs))\/∃kvs ts,Rd H a (.dT kvs ts)
theorem GK{BU:List (Addr×Obj)}{σ:St}{H:Hp}{s:Shared}{a:Addr}(I:Inv X BU σ H s)(d:IsD H a) :
  s.TypeIs (.ref a) "dict" /\ (∀b,aaB a=.ref b->∃ob,s.heap.get? b=some ob/\ob.dict=none)/\(a == sysModules)=false:=by
 rcases d with⟨kvs,e⟩ | ⟨kvs,ts,e⟩
 ·obtain⟨_,hd,vs,_,dd⟩:=xU I.hok e;refine⟨dd.typeIs,fun b q=>?_,hd⟩;cases q;obtain⟨ob,_,_,h1,h2,_⟩:=dd;exact⟨ob,h1,h2.2.1⟩
 ·obtain⟨_,hd,xs,_,dd⟩:=zR I.hok e;refine⟨dd.typeIs,fun b q=>?_,hd⟩;cases q;obtain⟨ob,_,_,h1,h2,_⟩:=dd;exact⟨ob,h1,h2.2.1⟩
end
section
variable{X:Cx}{BU:List (Addr×Obj)}{σ:St}{H:Hp}{s:Shared}{a:Addr}{y d:V}{u r:Value}{o:Option V}{A:Around}{E:Value->Shared->Prop}
theorem T9{Q:Value->Shared->Prop}(hu:A.units+1<cLine)(I:Inv X BU σ H s)(g:j8 H a y o)(ry:RelV y u)(h:∀w' s',Inv X BU σ H s'->RelV (o.getD .non) w'->Q w' s') :
  wpAny (model X.prog X.w) A (call (.builtin "dict.get") [.ref a,u]) Q E s:=by
 rcases g with⟨kvs,k,e,ey,l⟩ | ⟨kvs,k,b,ts,e,ey,eb,l⟩
 ·subst ey;obtain⟨z,hd,vs,rel,dd⟩:=xU I.hok e;refine call_meetsIn ace dd.typeIs PySem.F.entry_dict_get (PySem.F.args_dict_get_2 _ _) (meets_dict_get (bB X.prog X.w) a (xT ry) hd) ⟨_,dd.mapOf,h _ _ (I.tok _) ?_⟩;rw[l];exact(rel.val k).getD rfl
 ·subst ey;cases (show u=aaB b from ry);obtain⟨z,hd,xs,rel,dd⟩:=zR I.hok e;refine call_meetsIn ace dd.typeIs PySem.F.entry_dict_get (PySem.F.args_dict_get_2 _ _) (meetsH_dict_get (tupleKind (bB X.prog X.w)) a b hd) ⟨tupleKind_room_in1 hu,k,xs,rC I.hok eb,dd,h _ _ (I.tok _) ?_⟩;rw[l];exact(rel.val k).getD rfl
end
def GL(td ty:TE):TE:=fun σ H Q=>td σ H fun x H1=>∃a,x=.ref a/\IsD H1 a/\ty σ H1 fun y H2=>∃o,j8 H2 a y o/\Q (o.getD .non) H2
def LP(td ty:TE):TE:=fun σ H Q=>td σ H fun x H1=>∃a,x=.ref a/\IsD H1 a/\ty σ H1 fun y H2=>∃kvs k v,H2 a=some (.dK kvs)/\y=kV k/\mL kvs k=some v/\Q v (upd H2 a (.dK (ki kvs k)))
section
variable{X:Cx}{o e f:Expr}{Nd cpos:Pos}{td ty tx:TE}
theorem Eu(hu:X.A.units+1<cLine)(ho:PE X o td)(he:PE X e ty)(m:M1 X o "get" Nd e cpos):PE X (.Call (.Attribute o "get" Nd) [e] [] cpos) (GL td ty):=by intro BU s σ H Q I h;refine wpAny_Call_method m.base m.few m.line ab6 ace PySem.F.type_dict_get (thn (ho BU s σ H _ I h) fun u s1 ⟨x,H1,I1,rx,a,ex,d,q1⟩=>?_);subst ex;obtain rfl:u=aaB a:=rx;obtain⟨t1,t2,_⟩:=GK I1 d;refine⟨t1,t2,?_⟩;rw[m.trees];refine abQ rfl (abU (ab3 (thn (he BU s1 σ H1 _ I1 q1) fun iv s2 ⟨y,H2,I2,ry,ov,g,q2⟩=>abR ?_)));exact T9 hu I2 g ry fun w' s3 I3 rw'=>⟨_,H2,I3,rw',q2⟩
theorem LQ(ho:PE X o td)(he:PE X e ty)(m:M1 X o "pop" Nd e cpos):PE X (.Call (.Attribute o "pop" Nd) [e] [] cpos) (LP td ty):=by intro BU s σ H Q I h;refine wpAny_Call_method m.base m.few m.line ab6 abS PySem.F.type_dict_pop (thn (ho BU s σ H _ I h) fun u s1 ⟨x,H1,I1,rx,a,ex,d,q1⟩=>?_);subst ex;obtain rfl:u=aaB a:=rx;obtain⟨t1,t2,_⟩:=GK I1 d;refine⟨t1,t2,?_⟩;rw[m.trees];refine abQ rfl (abU (ab3 (thn (he BU s1 σ H1 _ I1 q1) fun iv s2 ⟨y,H2,I2,ry,kvs,k,v,ea,ey,l,q2⟩=>abR ?_)));subst ey;exact WH I2 ea ry l (.inl rfl) fun w' s3 I3 rw'=>⟨v,_,I3,rw',q2⟩
end
section
variable{X:Cx}{BU:List (Addr×Obj)}{σ:St}{H:Hp}{s:Shared}{a:Addr}{kvs:List (Key×V)}{A:Around}{E:Value->Shared->Prop}
theorem LR{Q:Value->Shared->Prop}(I:Inv X BU σ H s)(e:Rd H a (.dK kvs))(h:∀p s',H p=none->Inv X BU σ (upd H p (.dK kvs)) s'->Q (.ref p) s'):wpAny (model X.prog X.w) A (call (.type "dict") [.ref a]) Q E s:=by obtain⟨z,hd,vs,rel,dd⟩:=xU I.hok e;refine kt_call_dict hd dd (by rw[<- rel.length];exact z) fun h' dd' hs=>?_;refine h _ _ (I.hok.fresh (aab _)) (I.laid (a:=s.heap.objs.size) (o:=.dK kvs) (t':=s.toks) (fun b q hq=>?_) (aab _) (C2 z (beq_eq_false_iff_ne.mpr (Ne.symm (aax I.big))) rel dd'));exact(hs.2 b (aax (aad hq))).trans (aac _ hq)
end
end L2
namespace Dm
inductive Dat where
 |non
 |bl (b:Bool)
 |int (i:Int)
 |str (s:List Nat)
 |tup (xs:List Dat)
 |lst (xs:List Dat)
 |dct (ks:List Int) (vs:List Dat)
 |dcp (ks:List (Int×Int)) (vs:List Dat)
 |exc (C:Nat)
 |jA (C:Nat) (v:Int)
 |fn (a:Nat)
deriving Inhabited
inductive Cell where
 |un
 |sh (d:Dat)
 |ow (d:Dat)
deriving Inhabited
noncomputable abbrev Env:=List Cell
inductive Val where
 |val (d:Dat)
 |slot (i:Nat)
 |new (d:Dat)
inductive RV where
 |val (d:Dat)
 |new (d:Dat)
noncomputable def RV.dat:RV->Dat
 |.val d=>d
 |.new d=>d
noncomputable def RV.cR:RV->Val
 |.val d=>.val d
 |.new d=>.new d
noncomputable def SZ:Nat:=100000
noncomputable def kj:Dat->Bool
 |.tup _=>true
 |.lst _=>true
 |.dct _ _=>true
 |.dcp _ _=>true
 |.exc _=>true
 |.jA _ _=>true
 |_=>false
noncomputable def pk(ρ:Env):Val->Option Dat
 |.val d=>some d
 |.new d=>some d
 |.slot i=>match ρ[i]? with
  |some (.ow d)=>some d
  |some (.sh d)=>some d
  |_=>none
noncomputable def tk(ρ:Env):Val->Option (Dat×Env)
 |.val d=>some (d,ρ)
 |.new d=>some (d,ρ)
 |.slot i=>match ρ[i]? with
  |some (.ow d)=>some (d,ρ.set i (.sh d))
  |some (.sh d)=>some (d,ρ)
  |_=>none
noncomputable def pks(ρ:Env):List Val->Option (List Dat)
 |[]=>some []
 |x::r=>match pk ρ x with
  |none=>none
  |some d=>match pks ρ r with
   |none=>none
   |some ds=>some (d::ds)
noncomputable def tks(ρ:Env):List Val->Option (List Dat×Env)
 |[]=>some ([],ρ)
 |x::r=>match tk ρ x with
  |none=>none
  |some (d,ρ1)=>match tks ρ1 r with
   |none=>none
   |some (ds,ρ2)=>some (d::ds,ρ2)
noncomputable abbrev FE:=Env->Option (Val×Env)
noncomputable abbrev FT:=Env->Option (Bool×Env)
noncomputable def eC(d:Dat):FE:=fun ρ=>some (.val d,ρ)
noncomputable def eV(i:Nat):FE:=fun ρ=>match ρ[i]? with
 |some (.sh d)=>some (.val d,ρ)
 |some (.ow _)=>some (.slot i,ρ)
 |_=>none
noncomputable def e1(g:Dat->Option RV)(a:FE):FE:=fun ρ=>match a ρ with
 |none=>none
 |some (x,ρ1)=>match pk ρ1 x with
  |none=>none
  |some d=>match g d with
   |none=>none
   |some v=>some (v.cR,ρ1)
noncomputable def e2(g:Dat->Dat->Option RV)(a b:FE):FE:=fun ρ=>match a ρ with
 |none=>none
 |some (x,ρ1)=>match b ρ1 with
  |none=>none
  |some (y,ρ2)=>match pk ρ2 x with
   |none=>none
   |some d=>match pk ρ2 y with
    |none=>none
    |some e=>match g d e with
     |none=>none
     |some v=>some (v.cR,ρ2)
noncomputable def eAs:List FE->Env->Option (List Val×Env)
 |[],ρ=>some ([],ρ)
 |a::r,ρ=>match a ρ with
  |none=>none
  |some (x,ρ1)=>match eAs r ρ1 with
   |none=>none
   |some (xs,ρ2)=>some (x::xs,ρ2)
noncomputable def eB(g:List Dat->Option RV)(as:List FE):FE:=fun ρ=>match eAs as ρ with
 |none=>none
 |some (xs,ρ1)=>match pks ρ1 xs with
  |none=>none
  |some ds=>match g ds with
   |none=>none
   |some v=>some (v.cR,ρ1)
noncomputable def gm(as:List FE):FE:=fun ρ=>match eAs as ρ with
 |none=>none
 |some (xs,ρ1)=>match tks ρ1 xs with
  |none=>none
  |some (ds,ρ2)=>if ds.length<=SZ then some (.val (.tup ds),ρ2) else none
noncomputable def gp(as:List FE):FE:=fun ρ=>match eAs as ρ with
 |none=>none
 |some (xs,ρ1)=>match tks ρ1 xs with
  |none=>none
  |some (ds,ρ2)=>if ds.length<=SZ then some (.new (.lst ds),ρ2) else none
noncomputable def eF(f:List Dat->Option RV)(as:List FE):FE:=fun ρ=>match eAs as ρ with
 |none=>none
 |some (xs,ρ1)=>match pks ρ1 xs with
  |none=>none
  |some ds=>match f ds with
   |none=>none
   | some v=>if kj v.dat then (match tks ρ1 xs with
     |none=>none
     |some (_,ρ2)=>some (v.cR,ρ2)) else some (v.cR,ρ1)
noncomputable def eIf(t:FT)(a b:FE):FE:=fun ρ=>match t ρ with
 |none=>none
 |some (true,ρ1)=>a ρ1
 |some (false,ρ1)=>b ρ1
noncomputable def oH(a b:FE):FE:=fun ρ=>match a ρ with
 |some (.val (.bl true),ρ1)=>b ρ1
 |some (.val (.bl false),ρ1)=>some (.val (.bl false),ρ1)
 |_=>none
noncomputable def Kd(a:FE):FE:=fun ρ=>match a ρ with
 |some (.val (.bl c),ρ1)=>some (.val (.bl (!c)),ρ1)
 |_=>none
noncomputable def tV(a:FE):FT:=fun ρ=>match a ρ with
 |some (.val (.bl c),ρ1)=>some (c,ρ1)
 |_=>none
noncomputable def qK(t:FT):FT:=fun ρ=>match t ρ with
 |some (c,ρ1)=>some (!c,ρ1)
 |none=>none
noncomputable def rB(t u:FT):FT:=fun ρ=>match t ρ with
 |some (true,ρ1)=>u ρ1
 |some (false,ρ1)=>some (false,ρ1)
 |none=>none
noncomputable def tOr(t u:FT):FT:=fun ρ=>match t ρ with
 |some (true,ρ1)=>some (true,ρ1)
 |some (false,ρ1)=>u ρ1
 |none=>none
noncomputable def truth:Dat->Option Bool
 |.non=>some false
 |.bl b=>some b
 |.int i=>some (i != 0)
 |.tup xs=>some (!xs.isEmpty)
 |.lst xs=>some (!xs.isEmpty)
 |_=>none
noncomputable def tTr(a:FE):FT:=fun ρ=>match a ρ with
 |none=>none
 |some (x,ρ1)=>match pk ρ1 x with
  |none=>none
  |some d=>match truth d with
   |none=>none
   |some c=>some (c,ρ1)
noncomputable def cz:FT:=fun ρ=>some (true,ρ)
noncomputable abbrev FI:=Env->Option (List Dat×Env)
noncomputable def iL(a:FE):FI:=fun ρ=>match a ρ with
 |none=>none
 |some (x,ρ1)=>match tk ρ1 x with
  |some (.lst ds,ρ2)=>some (ds,ρ2)
  |_=>none
noncomputable def iT(a:FE):FI:=fun ρ=>match a ρ with
 |none=>none
 |some (x,ρ1)=>match tk ρ1 x with
  |some (.tup ds,ρ2)=>some (ds,ρ2)
  |_=>none
noncomputable def iS(a:FE):FI:=fun ρ=>match a ρ with
 |none=>none
 |some (x,ρ1)=>match tk ρ1 x with
  |some (.lst ds,ρ2)=>some (ds,ρ2)
  |some (.tup ds,ρ2)=>some (ds,ρ2)
  |_=>none
noncomputable def ups(lo:Int)(n:Nat):List Dat:=(aas n).map fun i=>Dat.int (lo+(i:Nat))
noncomputable def downs(hi:Int)(n:Nat):List Dat:=(aas n).map fun i=>Dat.int (hi-(i:Nat))
noncomputable def BIG:Int:=1000000000
noncomputable def iR1(a:FE):FI:=fun ρ=>match a ρ with
 |some (.val (.int j),ρ1)=>if j<=BIG/\-BIG<=j then some (ups 0 j.toNat,ρ1) else none
 |_=>none
noncomputable def iR2(a b:FE):FI:=fun ρ=>match a ρ with
 | some (.val (.int i),ρ1)=>(match b ρ1 with
  |some (.val (.int j),ρ2)=>if j<=BIG/\-BIG<=j/\i<=BIG/\-BIG<=i then some (ups i (j-i).toNat,ρ2) else none
  |_=>none)
 |_=>none
noncomputable abbrev FB:=Dat->Env->Option Env
noncomputable def bN(i:Nat):FB:=fun d ρ=>if i=0 then none else some (ρ.set i (.sh d))
noncomputable def sets:List Nat->List Dat->Env->Option Env
 |[],[],ρ=>some ρ
 |i::is,d::ds,ρ=>if i=0 then none else sets is ds (ρ.set i (.sh d))
 |_,_,_=>none
noncomputable def bT(is:List Nat):FB:=fun d ρ=>match d with
 |.tup ds=>sets is ds ρ
 |_=>none
noncomputable def nY(bd:FB)(t:FT)(el:FE):List Dat->Env->List Dat->Option (List Dat×Env)
 |[],ρ,KG=>some (KG,ρ)
 |d::r,ρ,KG=>match bd d ρ with
  |none=>none
  |some ρ1=>match t ρ1 with
   |none=>none
   |some (false,ρ2)=>nY bd t el r ρ2 KG
   |some (true,ρ2)=>match el ρ2 with
    |none=>none
    |some (x,ρ3)=>match tk ρ3 x with
     |none=>none
     |some (y,ρ4)=>nY bd t el r ρ4 (KG++[y])
noncomputable def dY(it:FI)(own:Nat)(bd:FB)(t:FT)(el:FE):FE:=fun ρ=>match it ρ with
 |none=>none
 | some (ds,ρ1)=>if ds.length≤SZ then (match nY bd t el ds (ρ1++Dp own .un) [] with
  |none=>none
  |some (ys,ρ2)=>some (.new (.lst ys),ρ2.take ρ1.length)) else none
inductive Out where
 |nx (ρ:Env)
 |ret (r:RV) (ρ:Env)
 |bk (ρ:Env)
 |ct (ρ:Env)
noncomputable abbrev FS:=Env->Option Out
noncomputable def sNx:FS:=fun ρ=>some (.nx ρ)
noncomputable def aR(s u:FS):FS:=fun ρ=>match s ρ with
 |some (.nx ρ1)=>u ρ1
 |o=>o
noncomputable def sA(i:Nat)(e:FE):FS:=fun ρ=>if i=0 then none else match e ρ with
 |none=>none
 |some (.new d,ρ1)=>some (.nx (ρ1.set i (.ow d)))
 |some (x,ρ1)=>match tk ρ1 x with
  |none=>none
  |some (d,ρ2)=>some (.nx (ρ2.set i (.sh d)))
noncomputable def sE(e:FE):FS:=fun ρ=>match e ρ with
 |none=>none
 |some (_,ρ1)=>some (.nx ρ1)
noncomputable def sR(e:FE):FS:=fun ρ=>match e ρ with
 |none=>none
 |some (.new d,ρ1)=>some (.ret (.new d) ρ1)
 |some (.val d,ρ1)=>some (.ret (.val d) ρ1)
 |some (.slot i,ρ1)=>match ρ1[i]? with
  |some (.ow d)=>some (.ret (.new d) (ρ1.set i .un))
  |some (.sh d)=>some (.ret (.val d) ρ1)
  |_=>none
noncomputable def sIf(t:FT)(a b:FS):FS:=fun ρ=>match t ρ with
 |none=>none
 |some (true,ρ1)=>a ρ1
 |some (false,ρ1)=>b ρ1
noncomputable def C3(i:Nat)(e:FE):FS:=fun ρ=>match ρ[i]? with
 | some (.ow (.lst _))=>(match e ρ with
  |none=>none
  |some (x,ρ1)=>match tk ρ1 x with
   |none=>none
   |some (d,ρ2)=>match ρ2[i]? with
    |some (.ow (.lst ds))=>if ds.length<SZ then some (.nx (ρ2.set i (.ow (.lst (ds++[d]))))) else none
    |_=>none)
 |_=>none
noncomputable def ixN(n:Nat)(i:Int):Option Nat:=
 if 0<=i then (if i<n then some i.toNat else none) else if -(n:Int)<=i then some (i+n).toNat else none
noncomputable def Ke(i:Nat)(j e:FE):FS:=fun ρ=>match e ρ with
 |none=>none
 |some (x,ρ1)=>match tk ρ1 x with
  |none=>none
  |some (d,ρ2)=>match ρ2[i]? with
   | some (.ow _)=>(match j ρ2 with
    | some (.val (.int k),ρ3)=>(match ρ3[i]? with
     | some (.ow (.lst ds))=>(match ixN ds.length k with
      |none=>none
      |some m=>some (.nx (ρ3.set i (.ow (.lst (ds.set m d))))))
     |_=>none)
    |_=>none)
   |_=>none
noncomputable def wg(bd:FB)(body:FS):List Dat->FS
 |[],ρ=>some (.nx ρ)
 |d::r,ρ=>match bd d ρ with
  |none=>none
  |some ρ1=>match body ρ1 with
   |some (.nx ρ2)=>wg bd body r ρ2
   |some (.ct ρ2)=>wg bd body r ρ2
   |some (.bk ρ2)=>some (.nx ρ2)
   |some (.ret v ρ2)=>some (.ret v ρ2)
   |none=>none
noncomputable def kW(it:FI)(bd:FB)(body:FS):FS:=fun ρ=>match it ρ with
 |none=>none
 |some (ds,ρ1)=>wg bd body ds ρ1
noncomputable def whD(t:FT)(body:FS):Nat->FS
 |0,_=>none
 |n+1,ρ=>match t ρ with
  |none=>none
  |some (false,ρ1)=>some (.nx ρ1)
  |some (true,ρ1)=>match body ρ1 with
   |some (.nx ρ2)=>whD t body n ρ2
   |some (.ct ρ2)=>whD t body n ρ2
   |some (.bk ρ2)=>some (.nx ρ2)
   |some (.ret v ρ2)=>some (.ret v ρ2)
   |none=>none
noncomputable def fn(n m:Nat)(body:FS)(ds:List Dat):Option RV:=if ds.length=n then (match body (ds.map Cell.sh++Dp m .un) with
 |some (.ret r _)=>some r
 |some (.nx _)=>some (.val .non)
 |_=>none) else none
noncomputable def b2i(b:Bool):Int:=if b then 1 else 0
mutual
noncomputable def eqD:Dat->Dat->Bool
 |.non,.non=>true
 |.bl a,.bl b=>a == b
 |.bl a,.int j=>b2i a == j
 |.int i,.bl b=>i == b2i b
 |.int i,.int j=>i == j
 |.str a,.str b=>a == b
 |.tup xs,.tup ys=>yC xs ys
 |.lst xs,.lst ys=>yC xs ys
 |_,_=>false
noncomputable def yC:List Dat->List Dat->Bool
 |[],[]=>true
 |x::xs,y::ys=>eqD x y&&yC xs ys
 |_,_=>false
end
noncomputable def okD:Nat->Dat->Bool
 |_,.dct _ _=>false
 |_,.dcp _ _=>false
 |_,.exc _=>false
 |_,.jA _ _=>false
 |_,.fn _=>false
 |_,.str s=>s.all fun c=>decide (c<128)
 |0,.tup _=>false
 |0,.lst _=>false
 |n+1,.tup xs=>xs.all (okD n)
 |n+1,.lst xs=>xs.all (okD n)
 |_,_=>true
noncomputable abbrev vB(b:Bool):Option RV:=some (.val (.bl b))
noncomputable def Kf(p:Dat->Bool):Dat->Option RV
 |.exc _=>none
 |.jA _ _=>none
 |.fn _=>none
 |d=>vB (p d)
noncomputable abbrev vI(i:Int):Option RV:=some (.val (.int i))
noncomputable def gEq(x y:Dat):Option RV:=if okD 8 x&&okD 8 y then vB (eqD x y) else none
noncomputable def gNe(x y:Dat):Option RV:=if okD 8 x&&okD 8 y then vB (!eqD x y) else none
noncomputable def gLt:Dat->Dat->Option RV
 |.int i,.int j=>vB (decide (i<j))
 |_,_=>none
noncomputable def gLe:Dat->Dat->Option RV
 |.int i,.int j=>vB (decide (i<=j))
 |_,_=>none
noncomputable def gGt:Dat->Dat->Option RV
 |.int i,.int j=>vB (decide (j<i))
 |_,_=>none
noncomputable def gGe:Dat->Dat->Option RV
 |.int i,.int j=>vB (decide (j<=i))
 |_,_=>none
noncomputable def B64:Int:=18446744073709551616
noncomputable def cQ:Dat->Dat->Option RV
 |.int i,.int j=>vI (i+j)
 |.lst xs,.lst ys=>if xs.length+ys.length<=SZ then some (.new (.lst (xs++ys))) else none
 |_,_=>none
noncomputable def uL:Dat->Dat->Option RV
 |.int i,.int j=>vI (i-j)
 |_,_=>none
noncomputable def oJ:Dat->Dat->Option RV
 |.int i,.int j=>if (-B64<i/\i<B64)\/(-B64<j/\j<B64) then vI (i*j) else none
 |.lst xs,.int k=>if k<=BIG/\-BIG<=k/\xs.length*k.toNat<=SZ then some (.new (.lst (Dp k.toNat xs).flatten)) else none
 |_,_=>none
noncomputable def yD:Int:=1606938044258990275541962092341162602522202993782792835301376
noncomputable def GN:Dat->Dat->Option RV
 |.int i,.int j=>if 0<j/\j<yD then vI (i / j) else none
 |_,_=>none
noncomputable def yE:Dat->Dat->Option RV
 |.int i,.int j=>if 0<j then vI (i % j) else none
 |_,_=>none
noncomputable def C4:Dat->Dat->Option RV
 |.int i,.int j=>if 0<=j/\j<=1000000/\i.natAbs<1000000 then vI (i ^ j.toNat) else none
 |_,_=>none
noncomputable def Pj:Dat->Option RV
 |.int i=>vI (-i)
 |_=>none
noncomputable def atI(xs:List Dat)(i:Int):Option Dat:=(ixN xs.length i).bind fun j=>xs[j]?
noncomputable def gIx:Dat->Dat->Option RV
 |.lst xs,.int i=>(atI xs i).map .val
 |.tup xs,.int i=>(atI xs i).map .val
 |_,_=>none
noncomputable def inD(x:Dat)(xs:List Dat):Bool:=xs.any fun y=>eqD y x
noncomputable def gIn:Dat->Dat->Option RV
 |x,.lst xs=>if okD 8 x&&xs.all (okD 7) then vB (inD x xs) else none
 |x,.tup xs=>if okD 8 x&&xs.all (okD 7) then vB (inD x xs) else none
 |_,_=>none
noncomputable def kX:Dat->Dat->Option RV
 |x,.lst xs=>if okD 8 x&&xs.all (okD 7) then vB (!inD x xs) else none
 |x,.tup xs=>if okD 8 x&&xs.all (okD 7) then vB (!inD x xs) else none
 |_,_=>none
noncomputable def sIx(n d:Nat):Option Int->Nat
 |none=>d
 |some v=>(if v<0 then max (v+n) 0 else min v n).toNat
noncomputable def cut(xs:List Dat)(lo hi:Option Int):List Dat:=(xs.drop (sIx xs.length 0 lo)).take (sIx xs.length xs.length hi-sIx xs.length 0 lo)
noncomputable def lP:List Dat->Option RV
 |[.lst xs]=>vI xs.length
 |[.tup xs]=>vI xs.length
 |_=>none
noncomputable def Cb:List Dat->Option RV
 |[.int i,.int j]=>vI (if j<i then j else i)
 |_=>none
noncomputable def Cc:List Dat->Option RV
 |[.int i,.int j]=>vI (if j>i then j else i)
 |_=>none
noncomputable def xV:List Dat->Option RV
 |[.lst xs]=>some (.new (.lst xs))
 |[.tup xs]=>some (.new (.lst xs))
 |_=>none
noncomputable def rD:List Dat->Option RV
 |[.lst xs]=>some (.val (.tup xs))
 |[.tup xs]=>some (.val (.tup xs))
 |_=>none
noncomputable def isI:Dat->Bool
 |.int _=>true
 |.bl _=>true
 |_=>false
noncomputable def isB:Dat->Bool
 |.bl _=>true
 |_=>false
noncomputable def isT:Dat->Bool
 |.tup _=>true
 |_=>false
noncomputable def bools:List Dat->Option (List Bool)
 |[]=>some []
 |.bl b::r=>(bools r).map fun bs=>b::bs
 |_=>none
noncomputable def Ew:List Dat->Option RV
 | [.lst xs]=>(match bools xs with
  |some bs=>vB (bs.all id)
  |none=>none)
 |_=>none
noncomputable def rE(g h:Dat->Dat->Option RV)(a b c:FE):FE:=fun ρ=>match a ρ with
 |none=>none
 |some (x,ρ1)=>match b ρ1 with
  |none=>none
  |some (y,ρ2)=>match pk ρ2 x with
   |none=>none
   |some d=>match pk ρ2 y with
    |none=>none
    |some e=>match g d e with
     | some (.val (.bl true))=>(match c ρ2 with
      |none=>none
      |some (z,ρ3)=>match pk ρ3 y with
       |none=>none
       |some e'=>match pk ρ3 z with
        |none=>none
        |some f=>match h e' f with
         |none=>none
         |some v=>some (v.cR,ρ3))
     |some (.val (.bl false))=>some (.val (.bl false),ρ2)
     |_=>none
noncomputable def part:Option FE->Env->Option (Option Int×Env)
 |none,ρ=>some (none,ρ)
 |some f,ρ=>match f ρ with
  |some (.val (.int i),ρ1)=>some (some i,ρ1)
  |_=>none
noncomputable def eSl(a:FE)(lo hi:Option FE):FE:=fun ρ=>match a ρ with
 |none=>none
 |some (x,ρ1)=>match part lo ρ1 with
  |none=>none
  |some (l,ρ2)=>match part hi ρ2 with
   |none=>none
   |some (h,ρ3)=>match pk ρ3 x with
    |some (.lst xs)=>some (.new (.lst (cut xs l h)),ρ3)
    |_=>none
end Dm
open Dm(Dat FE RV FT FS)
namespace Br
open PySem L2
noncomputable def kP(p:Int×Int):List Key:=[aaF p.1,aaF p.2]
def fJ(H:Hp):List Addr->List (Int×Int)->Prop
 |[],[]=>True
 |t::ts,p::ks=>H t=some (.tup [V.int p.1,V.int p.2])/\fJ H ts ks
 |_,_=>False
theorem fJ.mono{H H':Hp}(s:aO H H'):∀{ts:List Addr} {ks:List (Int×Int)},fJ H ts ks->fJ H' ts ks
 |[],[],_=>trivial
 |_::_,_::_,h=>⟨s _ _ h.1,fJ.mono s h.2⟩
 |[],_::_,h=>h
 |_::_,[],h=>h
def Kg(H:Hp)(x:List (List Key×V)×List Addr)(ks:List (Int×Int)):Prop:=x.1.map (·.1)=ks.map kP/\fJ H x.2 ks
theorem Kg.mono{H H':Hp}(s:aO H H'){x:List (List Key×V)×List Addr}{ks:List (Int×Int)}(h:Kg H x ks):Kg H' x ks:=⟨h.1,h.2.mono s⟩
mutual
inductive Rep(H:Hp):V->Dat->Prop
 |non:Rep H V.non Dat.non
 |bl (b:Bool):Rep H (V.bl b) (Dat.bl b)
 |int (i:Int):Rep H (V.int i) (Dat.int i)
 |str (s:List Nat):Rep H (V.str ⟨s.toArray⟩) (Dat.str s)
 |tup {a:Addr} {xs:List V} {ds:List Dat}:H a=some (.tup xs)->bg H xs ds->Rep H (V.ref a) (Dat.tup ds)
 |lst {a:Addr} {xs:List V} {ds:List Dat}:Rd H a (.lst xs)->bg H xs ds->Rep H (V.ref a) (Dat.lst ds)
 |dct {a:Addr} {kvs:List (Key×V)} {ks:List Int} {ds:List Dat}:H a=some (.dK kvs)->kvs.map (·.1)=ks.map aaF->bg H (kvs.map (·.2)) ds->Rep H (V.ref a) (Dat.dct ks ds)
 |dcp {a:Addr} {x:List (List Key×V)×List Addr} {ks:List (Int×Int)} {ds:List Dat}:H a=some (.dT x.1 x.2)->Kg H x ks->bg H (x.1.map (·.2)) ds->Rep H (V.ref a) (Dat.dcp ks ds)
 |exc {a:Addr} {C:Nat}:H a=some (.ext fun h=>∃o,h.get? a=some o/\o.cls=.ref C)->Rep H (V.ref a) (Dat.exc C)
 |jA {a d:Addr} {C:Nat} {v:Int}:H a=some (.ext fun h=>∃o,h.get? a=some o/\o.cls=.ref C/\o.dict=some d/\∀c,o.data≠.cls c)->H d=some (.xd [("moment",.int v)])->Rep H (V.ref a) (Dat.jA C v)
 |fn (a:Addr):Rep H (V.ref a) (Dat.fn a)
inductive bg(H:Hp):List V->List Dat->Prop
 |nil:bg H [] []
 |cons {v:V} {d:Dat} {vs:List V} {ds:List Dat}:Rep H v d->bg H vs ds->bg H (v::vs) (d::ds)
end
theorem aO.rd{H H':Hp}(s:aO H H'){a:Addr}{u:HO}(h:Rd H a u):Rd H' a u:=by
 rcases h with h | ⟨o,h⟩
 ·exact .inl (s _ _ h)
 ·exact .inr ⟨o,s _ _ h⟩
mutual
theorem Rep.mono{H H':Hp}(s:aO H H'):∀{v:V} {d:Dat},Rep H v d->Rep H' v d
 |_,_,.non=>.non
 |_,_,.bl b=>.bl b
 |_,_,.int i=>.int i
 |_,_,.str x=>.str x
 |_,_,.tup h r=>.tup (s _ _ h) (bg.mono s r)
 |_,_,.lst h r=>.lst (aO.rd s h) (bg.mono s r)
 |_,_,.dct h e r=>.dct (s _ _ h) e (bg.mono s r)
 |_,_,.dcp h e r=>.dcp (s _ _ h) (e.mono s) (bg.mono s r)
 |_,_,.exc h=>.exc (s _ _ h)
 |_,_,.jA h k=>.jA (s _ _ h) (s _ _ k)
 |_,_,.fn a=>.fn a
theorem bg.mono{H H':Hp}(s:aO H H'):∀{vs:List V} {ds:List Dat},bg H vs ds->bg H' vs ds
 |_,_,.nil=>.nil
 |_,_,.cons h r=>.cons (Rep.mono s h) (bg.mono s r)
end
section
variable{ρ:Dm.Env}{H0 H:Hp}{d:Dat}{σ:St}{a:Addr}{x:Dm.Val}{v:V}{X:Cx}{t t':TS}{p:Addr}{e:Expr}{o:HO}
theorem bg.length{H:Hp}:∀{vs:List V} {ds:List Dat},bg H vs ds->vs.length=ds.length
 |_,_,.nil=>rfl
 |_,_,.cons _ r=>by simp[bg.length r]
theorem bg.get{H:Hp}:∀{vs:List V} {ds:List Dat} {i:Nat} {d:Dat},bg H vs ds->ds[i]?=some d->∃v,vs[i]?=some v/\Rep H v d
 |_,_,_,_,.nil,e=>by simp at e
 |_,_,0,_,.cons h _,e=>by simp at e;subst e;exact⟨_,rfl,h⟩
 |_,_,i+1,_,.cons _ r,e=>by obtain⟨v,h1,h2⟩:=bg.get (i:=i) r (by simpa using e);exact⟨v,by simpa using h1,h2⟩
theorem bg.append{H:Hp}:∀{vs ws:List V} {ds es:List Dat},bg H vs ds->bg H ws es->bg H (vs++ws) (ds++es)
 |_,_,_,_,.nil,s=>s
 |_,_,_,_,.cons h r,s=>.cons h (bg.append r s)
theorem bg.take{H:Hp}:∀{vs:List V} {ds:List Dat} (n:Nat),bg H vs ds->bg H (vs.take n) (ds.take n)
 |_,_,0,_=>by simpa using bg.nil
 |_,_,_+1,.nil=>by simpa using bg.nil
 |_,_,n+1,.cons h r=>by simpa using bg.cons h (bg.take n r)
theorem bg.drop{H:Hp}:∀{vs:List V} {ds:List Dat} (n:Nat),bg H vs ds->bg H (vs.drop n) (ds.drop n)
 |_,_,0,r=>by simpa using r
 |_,_,_+1,.nil=>by simpa using bg.nil
 |_,_,n+1,.cons _ r=>by simpa using bg.drop n r
theorem bg.set{H:Hp}(h:Rep H v d):∀{vs:List V} {ds:List Dat} (i:Nat),bg H vs ds->bg H (vs.set i v) (ds.set i d)
 |_,_,_,.nil=>.nil
 |_,_,0,.cons _ r=>.cons h r
 |_,_,i+1,.cons q r=>.cons q (bg.set h i r)
theorem bg.rep{H:Hp}{vs:List V}{ds:List Dat}(r:bg H vs ds):∀k:Nat,bg H (Dp k vs).flatten (Dp k ds).flatten
 |0=>by simpa using bg.nil
 |k+1=>by rw[abj,abj,aa5,aa5];exact bg.append r (bg.rep r k)
def Own(H0 H:Hp)(a:Addr):Dat->Prop
 |.lst ds=>∃xs,H a=some (.lst xs)/\bg H0 xs ds
 |.dct ks ds=>∃kvs:List (Key×V),H a=some (.dK kvs)/\kvs.map (·.1)=ks.map aaF/\bg H0 (kvs.map (·.2)) ds
 |.dcp ks ds=>∃x:List (List Key×V)×List Addr,H a=some (.dT x.1 x.2)/\Kg H0 x ks/\bg H0 (x.1.map (·.2)) ds
 |_=>False
theorem Own.some(h:Own H0 H a d):∃o,H a=some o:=by
 cases d with
 |lst ds=>obtain⟨xs,e,_⟩:=h;exact⟨_,e⟩
 |dct ks ds=>obtain⟨xs,e,_⟩:=h;exact⟨_,e⟩
 |dcp ks ds=>obtain⟨xs,e,_⟩:=h;exact⟨_,e⟩
 |_=>exact aat h
theorem Own.mono{H0 H H0' H':Hp}(h:Own H0 H a d)(s:aO H0 H0')(e:H' a=H a):Own H0' H' a d:=by
 cases d with
 |lst ds=>obtain⟨xs,q,r⟩:=h;exact⟨xs,by rw[e];exact q,r.mono s⟩
 |dct ks ds=>obtain⟨xs,q,k,r⟩:=h;exact⟨xs,by rw[e];exact q,k,r.mono s⟩
 |dcp ks ds=>obtain⟨xs,q,k,r⟩:=h;exact⟨xs,by rw[e];exact q,k.mono s,r.mono s⟩
 |_=>exact aat h
def rF(H0 H:Hp)(v:V)(d:Dat):Prop:=Rep H0 v d\/∃a,v=V.ref a/\Own H0 H a d
inductive Ex(H0 H:Hp):List V->List Dat->Prop
 |nil:Ex H0 H [] []
 |cons {v:V} {d:Dat} {vs:List V} {ds:List Dat}:rF H0 H v d->Ex H0 H vs ds->Ex H0 H (v::vs) (d::ds)
noncomputable def shr(H0 H:Hp)(a:Addr):Hp:=fun b=>if b=a then H a else H0 b
theorem jT:shr H0 H a a=H a:=by unfold shr;rw[if_pos rfl]
theorem rG{a b:Addr}(h:b≠a):shr H0 H a b=H0 b:=by unfold shr;rw[if_neg h]
theorem mQ(h:H0 a=none):aO H0 (shr H0 H a):=fun b o e=>by
 by_cases q:b=a
 ·subst q;rw[h]at e;cases e
 ·rw[rG q];exact e
theorem IA(s:aO H0 H):aO (shr H0 H a) H:=fun b o e=>by
 by_cases q:b=a
 ·subst q;rw[jT]at e;exact e
 ·rw[rG q]at e;exact s _ _ e
theorem Own.rep(h:Own H0 H a d)(n:H0 a=none):Rep (shr H0 H a) (V.ref a) d:=by
 cases d with
 |lst ds=>obtain⟨xs,q,r⟩:=h;exact .lst (.inl (by rw[jT];exact q)) (r.mono (mQ n))
 |dct ks ds=>obtain⟨xs,q,k,r⟩:=h;exact .dct (by rw[jT];exact q) k (r.mono (mQ n))
 |dcp ks ds=>obtain⟨xs,q,k,r⟩:=h;exact .dcp (by rw[jT];exact q) (k.mono (mQ n)) (r.mono (mQ n))
 |_=>exact aat h
def aJ(σ:St)(ρ:Dm.Env)(a:Addr):Prop:=∃(i:Nat) (d:Dat),ρ[i]?=some (Dm.Cell.ow d)/\σ[i]?=some (some (V.ref a))
noncomputable abbrev Def(_:Dm.Env)(_:Nat):Prop:=True
structure a_(H0 H:Hp)(σ:St)(ρ:Dm.Env):Prop where
 same:aO H0 H
 len:σ.length=ρ.length
 sh:∀(i:Nat) (d:Dat),ρ[i]?=some (Dm.Cell.sh d)->∃v,σ[i]?=some (some v)/\Rep H0 v d
 ow:∀(i:Nat) (d:Dat),ρ[i]?=some (Dm.Cell.ow d)->∃a,σ[i]?=some (some (V.ref a))/\H0 a=none/\Own H0 H a d
 dis:∀(i j:Nat) (d e:Dat) (a:Addr),ρ[i]?=some (Dm.Cell.ow d)->ρ[j]?=some (Dm.Cell.ow e)->σ[i]?=some (some (V.ref a))->σ[j]?=some (some (V.ref a))->i=j
structure Stp(O:Addr->Prop)(H0 H H0' H':Hp):Prop where
 s0:aO H0 H0'
 s1:∀a o,H a=some o->¬O a->H' a=some o
 s2:∀a o,H0' a=some o->H a=none\/H0 a=some o\/O a
 s3:∀a o,H a=some o->∃o',H' a=some o'
theorem Stp.refl(O:Addr->Prop)(H0 H:Hp):Stp O H0 H H0 H:=⟨aO.refl _,fun _ _ e _=>e,fun _ _ e=>.inr (.inl e),fun _ o e=>⟨o,e⟩⟩
theorem Stp.gone{O:Addr->Prop}{H0 H H0' H':Hp}(t:Stp O H0 H H0' H')(h:H' a=none):H a=none:=by
 cases q:H a with
 |none=>rfl
 |some o=>obtain⟨o',e⟩:=t.s3 a o q;rw[h]at e;cases e
theorem Stp.trans{O1 O2:Addr->Prop}{H0 H H1 H' H2 H'':Hp}(t:Stp O1 H0 H H1 H')(u:Stp O2 H1 H' H2 H'')(k:∀a,O2 a->O1 a\/H a=none):Stp O1 H0 H H2 H'' where
 s0:=t.s0.trans u.s0
 s1:=fun a o e n=>u.s1 a o (t.s1 a o e n) fun z=>(k a z).elim n fun q=>by rw[q]at e;cases e
 s2:=fun a o e=>by
  rcases u.s2 a o e with q | q | q
  ·exact .inl (t.gone q)
  ·exact t.s2 a o q
  ·rcases k a q with z | z
   ·exact .inr (.inr z)
   ·exact .inl z
 s3:=fun a o e=>by obtain⟨o',e'⟩:=t.s3 a o e;exact u.s3 a o' e'
theorem Stp.wide{O O':Addr->Prop}{H0 H H0' H':Hp}(t:Stp O H0 H H0' H')(k:∀a,O a->O' a):Stp O' H0 H H0' H':=
 ⟨t.s0,fun a o e n=>t.s1 a o e fun z=>n (k a z),fun a o e=>(t.s2 a o e).imp id (Or.imp id (k a)),t.s3⟩
structure bG(H0 H H0' H':Hp):Prop where
 s0:aO H0 H0'
 s1:aO H H'
 s2:∀a o,H0' a=some o->H a=none\/H0 a=some o
 s3:aO H0' H'
theorem bG.refl(s:aO H0 H):bG H0 H H0 H:=⟨aO.refl _,aO.refl _,fun _ _ e=>.inr e,s⟩
theorem bG.stp{H0 H H0' H':Hp}(g:bG H0 H H0' H')(O:Addr->Prop):Stp O H0 H H0' H':=
 ⟨g.s0,fun a o e _=>g.s1 a o e,fun a o e=>(g.s2 a o e).imp id .inl,fun a o e=>⟨o,g.s1 a o e⟩⟩
theorem bG.Kh(s:aO H0 H)(n:H p=none):bG H0 H (upd H0 p o) (upd H p o) where
 s0:=fun b u e=>by rw[aM (bC e (s.free n))];exact e
 s1:=fun b u e=>by rw[aM (bC e n)];exact e
 s2:=fun b u e=>by
  by_cases q:b=p
  ·subst q;exact .inl n
  ·rw[aM q]at e;exact .inr e
 s3:=fun b u e=>by
  by_cases q:b=p
  ·subst q;rw[aQ]at e ⊢;exact e
  ·rw[aM q]at e ⊢;exact s _ _ e
theorem bG.uQ(s:aO H0 H)(n:H p=none):bG H0 H H0 (upd H p o) where
 s0:=aO.refl _
 s1:=fun b u e=>by rw[aM (bC e n)];exact e
 s2:=fun b u e=>.inr e
 s3:=fun b u e=>by rw[aM (bC (s _ _ e) n)];exact s _ _ e
def oK(Hs H0 H:Hp)(σ:St)(ρ:Dm.Env)(v:V):Dm.Val->Prop
 |.val d=>Rep H0 v d
 |.slot i=>σ[i]?=some (some v)/\Def ρ i
 |.new d=>∃a,v=V.ref a/\Hs a=none/\¬aJ σ ρ a/\H0 a=none/\Own H0 H a d
structure ESt(σ:St)(ρ:Dm.Env)(H0 H:Hp)(ρ':Dm.Env)(H0' H':Hp):Prop where
 st:a_ H0' H' σ ρ'
 stp:Stp (aJ σ ρ) H0 H H0' H'
 own:∀a,aJ σ ρ' a->aJ σ ρ a
 dfn:∀i,Def ρ i->Def ρ' i
theorem ESt.refl(st:a_ H0 H σ ρ):ESt σ ρ H0 H ρ H0 H:=⟨st,Stp.refl _ _ _,fun _ z=>z,fun _ z=>z⟩
theorem ESt.trans{ρ ρ1 ρ2:Dm.Env}{H0 H H1 H' H2 H'':Hp}(t:ESt σ ρ H0 H ρ1 H1 H')(u:ESt σ ρ1 H1 H' ρ2 H2 H''):ESt σ ρ H0 H ρ2 H2 H'':=
 ⟨u.st,t.stp.trans u.stp fun a z=>.inl (t.own a z),fun a z=>t.own a (u.own a z),fun i z=>u.dfn i (t.dfn i z)⟩
theorem a_.grow{H0 H H0' H':Hp}(st:a_ H0 H σ ρ)(g:bG H0 H H0' H'):a_ H0' H' σ ρ where
 same:=g.s3
 len:=st.len
 sh:=fun i d e=>by obtain⟨v,q,r⟩:=st.sh i d e;exact⟨v,q,r.mono g.s0⟩
 ow:=fun i d e=>by
  obtain⟨a,q,n,w⟩:=st.ow i d e;obtain⟨o,z⟩:=w.some;refine⟨a,q,?_,w.mono g.s0 ((g.s1 a o z).trans z.symm)⟩;cases y:H0' a with
  |none=>rfl
  |some u=>
   rcases g.s2 a u y with k | k
   ·rw[z]at k;cases k
   ·rw[n]at k;cases k
 dis:=st.dis
theorem ESt.grow{H0 H H0' H':Hp}(st:a_ H0 H σ ρ)(g:bG H0 H H0' H'):ESt σ ρ H0 H ρ H0' H':=
 ⟨st.grow g,g.stp _,fun _ z=>z,fun _ z=>z⟩
theorem oK.mono{Hs H0 H H0' H':Hp}{ρ ρ':Dm.Env}(r:oK Hs H0 H σ ρ v x)(t:ESt σ ρ H0 H ρ' H0' H'):oK Hs H0' H' σ ρ' v x:=by
 cases x with
 |val d=>exact Rep.mono t.stp.s0 r
 |slot i=>exact⟨r.1,t.dfn i r.2⟩
 |new d=>
  obtain⟨a,e,n,no,n0,w⟩:=r;obtain⟨o,z⟩:=w.some;refine⟨a,e,n,fun y=>no (t.own a y),?_,w.mono t.stp.s0 ((t.stp.s1 a o z no).trans z.symm)⟩;cases y:H0' a with
  |none=>rfl
  |some u=>
   rcases t.stp.s2 a u y with k | k | k
   ·rw[z]at k;cases k
   ·rw[n0]at k;cases k
   ·exact absurd k no
theorem oK.early{Hs Hs' H0 H:Hp}(r:oK Hs H0 H σ ρ v x)(k:∀a,Hs a=none->Hs' a=none):oK Hs' H0 H σ ρ v x:=by
 cases x with
 |val d=>exact r
 |slot i=>exact r
 |new d=>obtain⟨a,e,n,z⟩:=r;exact⟨a,e,k a n,z⟩
theorem oK.look{Hs H0 H:Hp}(r:oK Hs H0 H σ ρ v x)(st:a_ H0 H σ ρ)(e:Dm.pk ρ x=some d):rF H0 H v d:=by
 cases x with
 |val d'=>cases e;exact .inl r
 |new d'=>cases e;obtain⟨a,e,_,_,_,w⟩:=r;exact .inr ⟨a,e,w⟩
 |slot i=>
  obtain⟨q,_⟩:=r;unfold Dm.pk at e;dsimp only at e;split at e
  ·rename_i d' h;cases e;obtain⟨a,z,_,w⟩:=st.ow i d h;rw[q]at z;cases z;exact .inr ⟨a,rfl,w⟩
  ·rename_i d' h;cases e;obtain⟨u,z,w⟩:=st.sh i d h;rw[q]at z;cases z;exact .inl w
  ·cases e
def C5(Hs H0 H:Hp)(v:V):RV->Prop
 |.val d=>Rep H0 v d
 |.new d=>∃a,v=V.ref a/\Hs a=none/\H0 a=none/\Own H0 H a d
theorem C5.toV{H H0' H' H0:Hp}{z:RV}(r:C5 H H0' H' v z)(st:a_ H0 H σ ρ):oK H H0' H' σ ρ v z.cR:=by
 cases z with
 |val d=>exact r
 |new d=>obtain⟨a,e,n,n0,w⟩:=r;refine⟨a,e,n,fun⟨i,d',h1,h2⟩=>?_,n0,w⟩;obtain⟨a',q,_,w'⟩:=st.ow i d' h1;rw[h2]at q;cases q;obtain⟨o,z⟩:=w'.some;rw[n]at z;cases z
def tD(f:FE):TE:=fun σ H Q=>∃H0 ρ x ρ',a_ H0 H σ ρ/\f ρ=some (x,ρ')/\∀v H0' H',ESt σ ρ H0 H ρ' H0' H'->oK H H0' H' σ ρ' v x->Q v H'
def tDT(f:FT):TT:=fun σ H Q=>∃H0 ρ b ρ',a_ H0 H σ ρ/\f ρ=some (b,ρ')/\∀H0' H',ESt σ ρ H0 H ρ' H0' H'->Q b H'
inductive ko(Hs H0 H:Hp)(σ:St)(ρ:Dm.Env):List V->List Dm.Val->Prop
 |nil:ko Hs H0 H σ ρ [] []
 |cons {v:V} {x:Dm.Val} {vs:List V} {xs:List Dm.Val}:oK Hs H0 H σ ρ v x->ko Hs H0 H σ ρ vs xs->ko Hs H0 H σ ρ (v::vs) (x::xs)
def tDA(fs:List FE):TA:=fun σ H Q=>∃H0 ρ xs ρ',a_ H0 H σ ρ/\Dm.eAs fs ρ=some (xs,ρ')/\∀vs H0' H',ESt σ ρ H0 H ρ' H0' H'->ko H H0' H' σ ρ' vs xs->Q vs H'
noncomputable abbrev DE(X:Cx)(e:Expr)(f:FE):Prop:=PE X e (tD f)
noncomputable abbrev DT(X:Cx)(e:Expr)(f:FT):Prop:=PT X e (tDT f)
noncomputable abbrev DA(X:Cx)(es:List Expr)(fs:List FE):Prop:=PA X es (tDA fs)
theorem PE.weak{t t':TE}(h:PE X e t)(k:∀σ H Q,t' σ H Q->t σ H Q):PE X e t':=fun BU s σ H Q I q=>h BU s σ H Q I (k σ H Q q)
theorem PT.weak{t t':TT}(h:PT X e t)(k:∀σ H Q,t' σ H Q->t σ H Q):PT X e t':=fun BU s σ H Q I q=>h BU s σ H Q I (k σ H Q q)
theorem PA.weak{es:List Expr}{t t':TA}(h:PA X es t)(k:∀σ H Q,t' σ H Q->t σ H Q):PA X es t':=fun pos BU s σ H Q I q=>h pos BU s σ H Q I (k σ H Q q)
theorem PS.weak{st:Stmt}(h:PS X st t)(k:∀D σ H,t' D σ H->t D σ H):PS X st t':=fun BU s σ H D I q=>h BU s σ H D I (k D σ H q)
theorem PSs.weak{st:List Stmt}(h:PSs X st t)(k:∀D σ H,t' D σ H->t D σ H):PSs X st t':=fun BU s σ H D I q=>h BU s σ H D I (k D σ H q)
theorem iA(s:aO H0 H):aO H0 (shr H0 H a):=fun b o e=>by
 by_cases q:b=a
 ·subst q;rw[jT];exact s _ _ e
 ·rw[rG q];exact e
theorem Own.WJ{H0 H0c H:Hp}(h:Own H0 H a d)(b:aO H0 H0c)(s:aO H0c H):Rep (shr H0c H a) (V.ref a) d:=by
 cases d with
 |lst ds=>obtain⟨xs,q,r⟩:=h;exact .lst (.inl (by rw[jT];exact q)) (r.mono (b.trans (iA s)))
 |dct ks ds=>obtain⟨xs,q,k,r⟩:=h;exact .dct (by rw[jT];exact q) k (r.mono (b.trans (iA s)))
 |dcp ks ds=>obtain⟨xs,q,k,r⟩:=h;exact .dcp (by rw[jT];exact q) (k.mono (b.trans (iA s))) (r.mono (b.trans (iA s)))
 |_=>exact aat h
theorem oK.rho{Hs H0 H:Hp}{ρ ρ':Dm.Env}(r:oK Hs H0 H σ ρ v x)(o:∀a,aJ σ ρ' a->aJ σ ρ a)(d:∀i,Def ρ i->Def ρ' i):oK Hs H0 H σ ρ' v x:=by
 cases x with
 |val d=>exact r
 |slot i=>exact⟨r.1,d i r.2⟩
 |new d=>obtain⟨a,e,n,no,z⟩:=r;exact⟨a,e,n,fun y=>no (o a y),z⟩
theorem ko.rho{Hs H0 H:Hp}{ρ ρ':Dm.Env}(o:∀a,aJ σ ρ' a->aJ σ ρ a)(d:∀i,Def ρ i->Def ρ' i):∀{vs:List V} {xs:List Dm.Val},ko Hs H0 H σ ρ vs xs->ko Hs H0 H σ ρ' vs xs
 |_,_,.nil=>.nil
 |_,_,.cons h r=>.cons (h.rho o d) (ko.rho o d r)
theorem ko.early{Hs Hs' H0 H:Hp}(k:∀a,Hs a=none->Hs' a=none):∀{vs:List V} {xs:List Dm.Val},ko Hs H0 H σ ρ vs xs->ko Hs' H0 H σ ρ vs xs
 |_,_,.nil=>.nil
 |_,_,.cons h r=>.cons (h.early k) (ko.early k r)
theorem bH{i j:Nat}{c d:Dm.Cell}(h:(ρ.set i c)[j]?=some d):(j=i/\d=c)\/(j≠i/\ρ[j]?=some d):=by
 by_cases e:j=i
 ·subst e;by_cases l:j<ρ.length
  ·rw[aap l]at h;exact .inl ⟨rfl,(Option.some.inj h).symm⟩
  ·rw[aaq (by simpa using abV.mp l)]at h;cases h
 ·rw[gV (Ne.symm e)]at h;exact .inr ⟨e,h⟩
theorem GO{i:Nat}(st:a_ H0 H σ ρ)(e:ρ[i]?=some (.ow d))(q:σ[i]?=some (some (V.ref a))) :
  a_ (shr H0 H a) H σ (ρ.set i (.sh d))/\(∀b,aJ σ (ρ.set i (.sh d)) b->aJ σ ρ b)/\∀j,Def ρ j->Def (ρ.set i (.sh d)) j:=by
 obtain⟨a',q',n,w⟩:=st.ow i d e;rw[q]at q';cases q';have hil:i<ρ.length:=(aag.mp e).1;refine⟨⟨IA st.same,by rw[aaC];exact st.len,fun j d' h=>?_,fun j d' h=>?_,fun j k d1 d2 b h1 h2 h3 h4=>?_⟩,fun b ⟨j,d',h1,h2⟩=>?_,fun j h=>?_⟩
 ·rcases bH h with⟨rfl,z⟩ | ⟨_,h⟩
  ·cases z;exact⟨_,q,w.rep n⟩
  ·obtain⟨v,z,r⟩:=st.sh j d' h;exact⟨v,z,r.mono (mQ n)⟩
 ·rcases bH h with⟨_,z⟩ | ⟨hj,h⟩
  ·cases z
  ·obtain⟨b,z,n',w'⟩:=st.ow j d' h;have nb:b≠a:=fun y=>hj (st.dis j i d' d a h e (y▸z) q);exact⟨b,z,by rw[rG nb];exact n',w'.mono (mQ n) rfl⟩
 ·rcases bH h1 with⟨_,z⟩ | ⟨_,h1⟩
  ·cases z
  ·rcases bH h2 with⟨_,z⟩ | ⟨_,h2⟩
   ·cases z
   ·exact st.dis j k d1 d2 b h1 h2 h3 h4
 ·rcases bH h1 with⟨_,z⟩ | ⟨_,h1⟩
  ·cases z
  ·exact⟨j,d',h1,h2⟩
 ·trivial
theorem Kl(st:a_ H0 H σ ρ)(no:¬aJ σ ρ a):a_ (shr H0 H a) H σ ρ where
 same:=IA st.same
 len:=st.len
 sh:=fun j d h=>by obtain⟨v,z,r⟩:=st.sh j d h;exact⟨v,z,r.mono (iA st.same)⟩
 ow:=fun j d h=>by obtain⟨b,z,n',w'⟩:=st.ow j d h;have nb:b≠a:=fun y=>no ⟨j,d,h,y▸z⟩;exact⟨b,z,by rw[rG nb];exact n',w'.mono (iA st.same) rfl⟩
 dis:=st.dis
theorem take1{Hs H0s H0 H0c H:Hp}{ρs ρ ρ':Dm.Env}(t:ESt σ ρs H0s Hs ρ H0c H)(b:aO H0 H0c)(r:oK Hs H0 H σ ρ v x)(e:Dm.tk ρ x=some (d,ρ')) :
  ∃rH,ESt σ ρs H0s Hs ρ' rH H/\aO H0c rH/\Rep rH v d/\(∀a,aJ σ ρ' a->aJ σ ρ a)/\∀i,Def ρ i->Def ρ' i:=by
 cases x with
 |val d'=>cases e;exact⟨H0c,t,aO.refl _,Rep.mono b r,fun _ z=>z,fun _ z=>z⟩
 |new d'=>
  cases e;obtain⟨a,e,n,no,n0,w⟩:=r;subst e;have ss:=iA (a:=a) t.st.same;refine⟨shr H0c H a,⟨Kl t.st no,⟨t.stp.s0.trans ss,t.stp.s1,fun c o q=>?_,t.stp.s3⟩,t.own,t.dfn⟩,ss,w.WJ b t.st.same,fun _ z=>z,fun _ z=>z⟩;by_cases y:c=a
  ·subst y;exact .inl n
  ·rw[rG y]at q;exact t.stp.s2 c o q
 |slot i=>
  obtain⟨q,_⟩:=r;unfold Dm.tk at e;dsimp only at e;split at e
  ·rename_i d' h;cases e;obtain⟨a,z,n,w⟩:=t.st.ow i _ h;rw[q]at z;cases z;obtain⟨s1,s2,s3⟩:=GO t.st h q;have ss:=iA (a:=a) t.st.same;refine⟨shr H0c H a,⟨s1,⟨t.stp.s0.trans ss,t.stp.s1,fun c o q'=>?_,t.stp.s3⟩,fun b z=>t.own b (s2 b z),fun j z=>s3 j (t.dfn j z)⟩,ss,w.WJ (aO.refl _) t.st.same,s2,s3⟩;by_cases y:c=a
   ·subst y;exact .inr (.inr (t.own c ⟨i,_,h,q⟩))
   ·rw[rG y]at q';exact t.stp.s2 c o q'
  ·rename_i d' h;cases e;obtain⟨u,z,w⟩:=t.st.sh i _ h;rw[q]at z;cases z;exact⟨H0c,t,aO.refl _,w,fun _ z=>z,fun _ z=>z⟩
  ·cases e
theorem takes{Hs H0s H0 H:Hp}{ρs:Dm.Env}:∀{xs:List Dm.Val} {vs:List V} {ρ ρ':Dm.Env} {ds:List Dat} {H0c:Hp},ESt σ ρs H0s Hs ρ H0c H->aO H0 H0c->ko Hs H0 H σ ρ vs xs->Dm.tks ρ xs=some (ds,ρ') ->
  ∃rH,ESt σ ρs H0s Hs ρ' rH H/\aO H0c rH/\bg rH vs ds
 |[],_,ρ,ρ',ds,H0c,t,b,r,e=>by cases r;cases e;exact⟨H0c,t,aO.refl _,.nil⟩
 |x::xs,_,ρ,ρ',ds,H0c,t,b,r,e=>by
  cases r with
  |cons h r=>
   unfold Dm.tks at e;split at e
   ·cases e
   ·rename_i d ρ1 e1;split at e
    ·cases e
    ·rename_i ds' ρ2 e2;cases e;obtain⟨H1,t1,b1,r1,o1,d1⟩:=take1 t b h e1;obtain⟨H2,t2,b2,r2⟩:=takes t1 (b.trans b1) (r.rho o1 d1) e2;exact⟨H2,t2,b1.trans b2,.cons (r1.mono b2) r2⟩
theorem WK{ρ ρ':Dm.Env}(e:Dm.tk ρ x=some (d,ρ'))(y:Dm.Val):Dm.pk ρ' y=Dm.pk ρ y:=by
 cases x with
 |val d'=>cases e;rfl
 |new d'=>cases e;rfl
 |slot i=>
  unfold Dm.tk at e;dsimp only at e;split at e
  ·rename_i d' h;cases e;cases y with
   |val _=>rfl
   |new _=>rfl
   |slot j=>
    unfold Dm.pk;dsimp only;by_cases z:j=i
    ·subst z;rw[aap (aag.mp h).1,h]
    ·rw[gV (Ne.symm z)]
  ·cases e;rfl
  ·cases e
theorem LS(e:Dm.pk ρ x=some d):∃ρ',Dm.tk ρ x=some (d,ρ'):=by
 cases x with
 |val d'=>cases e;exact⟨ρ,rfl⟩
 |new d'=>cases e;exact⟨ρ,rfl⟩
 |slot i=>
  unfold Dm.pk at e;dsimp only at e;unfold Dm.tk;dsimp only;split at e
  ·rename_i d' h;cases e;exact⟨_,rfl⟩
  ·rename_i d' h;cases e;exact⟨_,rfl⟩
  ·cases e
theorem rJ:∀{xs:List Dm.Val} {ρ:Dm.Env} {ds:List Dat},Dm.pks ρ xs=some ds->∃ρ',Dm.tks ρ xs=some (ds,ρ')
 |[],ρ,ds,e=>by cases e;exact⟨ρ,rfl⟩
 |x::xs,ρ,ds,e=>by
  unfold Dm.pks at e;split at e
  ·cases e
  ·rename_i d e1;split at e
   ·cases e
   ·rename_i ds' e2;cases e;obtain⟨ρ1,h1⟩:=LS e1;have key:∀ys:List Dm.Val,Dm.pks ρ1 ys=Dm.pks ρ ys:=fun ys=>by
     induction ys with
     |nil=>rfl
     |cons y ys ih=>unfold Dm.pks;rw[WK h1 y,ih]
    obtain⟨ρ2,h2⟩:=rJ (xs:=xs) (ρ:=ρ1) (ds:=ds') (by rw[key];exact e2);exact⟨ρ2,by unfold Dm.tks;rw[h1];dsimp only;rw[h2]⟩
theorem looks{Hs H0 H:Hp}(st:a_ H0 H σ ρ):∀{xs:List Dm.Val} {vs:List V} {ds:List Dat},ko Hs H0 H σ ρ vs xs->Dm.pks ρ xs=some ds->Ex H0 H vs ds
 |[],_,ds,r,e=>by cases r;cases e;exact .nil
 |x::xs,_,ds,r,e=>by
  cases r with
  |cons h r=>
   unfold Dm.pks at e;split at e
   ·cases e
   ·rename_i d e1;split at e
    ·cases e
    ·rename_i ds' e2;cases e;exact .cons (h.look st e1) (looks st r e2)
def OpD(r:R2)(g:Dat->Dat->Option RV):Prop:=∀(H0 H:Hp) (x y:V) (dx dy:Dat) (z:RV) (Q:VK),aO H0 H->rF H0 H x dx->rF H0 H y dy->g dx dy=some z ->
 (∀v H0' H',bG H0 H H0' H'->C5 H H0' H' v z->Q v H')->r x y H Q
def UnD(r:V->Hp->VK->Prop)(g:Dat->Option RV):Prop:=∀(H0 H:Hp) (x:V) (dx:Dat) (z:RV) (Q:VK),aO H0 H->rF H0 H x dx->g dx=some z ->
 (∀v H0' H',bG H0 H H0' H'->C5 H H0' H' v z->Q v H')->r x H Q
def CallD(r:List V->Hp->VK->Prop)(g:List Dat->Option RV):Prop:=∀(H0 H:Hp) (vs:List V) (ds:List Dat) (z:RV) (Q:VK),aO H0 H->Ex H0 H vs ds->g ds=some z ->
 (∀v H0' H',bG H0 H H0' H'->C5 H H0' H' v z->Q v H')->r vs H Q
def spD(f:List Dat->Option RV):Sp:=fun vs H Q _=>∃H0 ds z,aO H0 H/\bg H0 vs ds/\f ds=some z/\∀v H0' H',bG H0 H H0' H'->C5 H H0' H' v z->Q v H'
end
section
variable{σ:St}{H:Hp}{Q:VK}
section
variable{fs:List FE}{d:Dat}{a b:FE}{t u:FT}{v:V}{H0:Hp}
theorem WL{i:Nat}(h:tD (Dm.eV i) σ H Q):v9 i σ H Q:=by
 obtain⟨H0,ρ,x,ρ',st,e,k⟩:=h;unfold Dm.eV at e;split at e
 ·rename_i d h1;cases e;obtain⟨v,q,r⟩:=st.sh i d h1;exact⟨v,q,k v H0 H (.refl st) r⟩
 ·rename_i d h1;cases e;obtain⟨a,q,_⟩:=st.ow i d h1;exact⟨_,q,k _ H0 H (.refl st) ⟨q,trivial⟩⟩
 ·cases e
theorem uR(c:∀H0:Hp,Rep H0 v d)(h:tD (Dm.eC d) σ H Q):tC v σ H Q:=by obtain⟨H0,ρ,x,ρ',st,e,k⟩:=h;cases e;exact k v H0 H (.refl st) (c H0)
theorem C6{r:R2}{g:Dat->Dat->Option RV}{fa fb:FE}(o:OpD r g)(h:tD (Dm.e2 g fa fb) σ H Q):tOp r (tD fa) (tD fb) σ H Q:=by
 obtain⟨H0,ρ,x,ρ',st,e,k⟩:=h;unfold Dm.e2 at e;split at e
 ·cases e
 rename_i x1 ρ1 e1;split at e
 ·cases e
 rename_i y1 ρ2 e2;split at e
 ·cases e
 rename_i dx p1;split at e
 ·cases e
 rename_i dy p2;split at e
 ·cases e
 rename_i z gz;cases e;refine⟨H0,ρ,x1,ρ1,st,e1,fun v H1 Hb t1 r1=>⟨H1,ρ1,y1,_,t1.st,e2,fun u H2 Hc t2 r2=>?_⟩⟩;refine o H2 Hc v u dx dy z Q t2.st.same ((r1.mono t2).look t2.st p1) (r2.look t2.st p2) gz fun w H3 Hd g3 r3=>?_;exact k w H3 Hd (t1.trans (t2.trans (.grow t2.st g3))) ((r3.toV t2.st).early fun a n=>(t1.trans t2).stp.gone n)
theorem Zi{r:V->Hp->VK->Prop}{g:Dat->Option RV}{fa:FE}(o:UnD r g)(h:tD (Dm.e1 g fa) σ H Q):tUn r (tD fa) σ H Q:=by
 obtain⟨H0,ρ,x,ρ',st,e,k⟩:=h;unfold Dm.e1 at e;split at e
 ·cases e
 rename_i x1 ρ1 e1;split at e
 ·cases e
 rename_i dx p1;split at e
 ·cases e
 rename_i z gz;cases e;refine⟨H0,ρ,x1,_,st,e1,fun v H1 Hb t1 r1=>?_⟩;refine o H1 Hb v dx z Q t1.st.same (r1.look t1.st p1) gz fun w H3 Hd g3 r3=>?_;exact k w H3 Hd (t1.trans (.grow t1.st g3)) ((r3.toV t1.st).early fun a n=>t1.stp.gone n)
theorem WM{Q:List V->Hp->Prop}(h:tDA [] σ H Q):CU σ H Q:=by obtain⟨H0,ρ,xs,ρ',st,e,k⟩:=h;cases e;exact k [] H0 H (.refl st) .nil
theorem T_{f:FE}{Q:List V->Hp->Prop}(h:tDA (f::fs) σ H Q):xR (tD f) (tDA fs) σ H Q:=by
 obtain⟨H0,ρ,xs,ρ',st,e,k⟩:=h;unfold Dm.eAs at e;split at e
 ·cases e
 rename_i x1 ρ1 e1;split at e
 ·cases e
 rename_i xs1 ρ2 e2;cases e;refine⟨H0,ρ,x1,ρ1,st,e1,fun v H1 Hb t1 r1=>⟨H1,ρ1,xs1,_,t1.st,e2,fun vs H2 Hc t2 r2=>?_⟩⟩;exact k (v::vs) H2 Hc (t1.trans t2) (.cons (r1.mono t2) (r2.early fun a n=>t1.stp.gone n))
theorem WN{r:List V->Hp->VK->Prop}{g:List Dat->Option RV}(o:CallD r g)(h:tD (Dm.eB g fs) σ H Q):tCB r (tDA fs) σ H Q:=by
 obtain⟨H0,ρ,x,ρ',st,e,k⟩:=h;unfold Dm.eB at e;split at e
 ·cases e
 rename_i xs ρ1 e1;split at e
 ·cases e
 rename_i ds p1;split at e
 ·cases e
 rename_i z gz;cases e;refine⟨H0,ρ,xs,_,st,e1,fun vs H1 Hb t1 r1=>?_⟩;refine o H1 Hb vs ds z Q t1.st.same (looks t1.st r1 p1) gz fun w H3 Hd g3 r3=>?_;exact k w H3 Hd (t1.trans (.grow t1.st g3)) ((r3.toV t1.st).early fun a n=>t1.stp.gone n)
theorem zu{n:Nat}(h:n<=Dm.SZ):n<=sizeLine:=aaE h (by decide)
theorem WO(h:tD (Dm.gm fs) σ H Q):Wz (tDA fs) σ H Q:=by
 obtain⟨H0,ρ,x,ρ',st,e,k⟩:=h;unfold Dm.gm at e;split at e
 ·cases e
 rename_i xs ρ1 e1;split at e
 ·cases e
 rename_i ds ρ2 e2;split at e
 ·rename_i hz;cases e;refine⟨H0,ρ,xs,ρ1,st,e1,fun vs H1 Hb t1 r1=>?_⟩;obtain⟨H2,t2,b2,r2⟩:=takes t1 (aO.refl _) r1 e2;refine⟨by rw[r2.length];exact zu hz,fun p hp=>?_⟩;have g:=bG.Kh (o:=HO.tup vs) t2.st.same hp;exact k _ _ _ (t2.trans (.grow t2.st g)) (.tup aQ (r2.mono g.s0))
 ·cases e
theorem WQ(h:tD (Dm.gp fs) σ H Q):Lv (tDA fs) σ H Q:=by
 obtain⟨H0,ρ,x,ρ',st,e,k⟩:=h;unfold Dm.gp at e;split at e
 ·cases e
 rename_i xs ρ1 e1;split at e
 ·cases e
 rename_i ds ρ2 e2;split at e
 ·rename_i hz;cases e;refine⟨H0,ρ,xs,ρ1,st,e1,fun vs H1 Hb t1 r1=>?_⟩;obtain⟨H2,t2,b2,r2⟩:=takes t1 (aO.refl _) r1 e2;refine⟨by rw[r2.length];exact zu hz,fun p hp=>?_⟩;have g:=bG.uQ (o:=HO.lst vs) t2.st.same hp;refine k _ _ _ (t2.trans (.grow t2.st g)) ⟨p,rfl,t2.stp.gone hp,fun⟨i,d,h1,h2⟩=>?_,t2.st.same.free hp,vs,aQ,r2⟩;obtain⟨a,q,_,w⟩:=t2.st.ow i d h1;rw[h2]at q;cases q;obtain⟨o,z⟩:=w.some;rw[hp]at z;cases z
 ·cases e
theorem Rep.plain{H0 H1:Hp}(r:Rep H0 v d)(n:Dm.kj d=false):Rep H1 v d:=by
 cases r with
 |non=>exact .non
 |bl b=>exact .bl b
 |int i=>exact .int i
 |str s=>exact .str s
 |tup _ _=>cases n
 |lst _ _=>cases n
 |dct _ _ _=>cases n
 |dcp _ _ _=>cases n
 |exc _=>cases n
 |jA _ _=>cases n
 |fn a=>exact .fn a
theorem Own.box{H0 H:Hp}{a:Addr}(w:Own H0 H a d):Dm.kj d=true:=by
 cases d with
 |lst ds=>rfl
 |dct ks ds=>rfl
 |dcp ks ds=>rfl
 |_=>exact aat w
theorem LU{f:List Dat->Option RV}{E:XK}(h:tD (Dm.eF f fs) σ H Q):zO (spD f) [] E (tDA fs) σ H Q:=by
 obtain⟨H0,ρ,x,ρ',st,e,k⟩:=h;unfold Dm.eF at e;split at e
 ·cases e
 rename_i xs ρ1 e1;split at e
 ·cases e
 rename_i ds p1;split at e
 ·cases e
 rename_i z fz;refine⟨H0,ρ,xs,ρ1,st,e1,fun vs H1 Hb t1 r1=>?_⟩;dsimp only;rw[aaP];obtain⟨ρ2,e2⟩:=rJ p1;obtain⟨H2,t2,b2,r2⟩:=takes t1 (aO.refl _) r1 e2;split at e
 ·rw[e2]at e;cases e;exact⟨H2,ds,z,t2.st.same,r2,fz,fun w H3 Hd g3 r3=>k w H3 Hd (t2.trans (.grow t2.st g3)) ((r3.toV t2.st).early fun a n=>t2.stp.gone n)⟩
 ·rename_i nb;cases e;refine⟨H2,ds,z,t2.st.same,r2,fz,fun w H3 Hd g3 r3=>?_⟩;have g:bG H1 Hb H1 Hd:=⟨aO.refl _,g3.s1,fun a o q=>.inr q,t1.st.same.trans g3.s1⟩
  refine k w H1 Hd (t1.trans (.grow t1.st g)) ?_;cases z with
  |val d=>exact Rep.plain r3 (by simpa [RV.dat] using nb)
  |new d=>obtain⟨a,_,_,_,w⟩:=r3;exact absurd w.box (by simpa [RV.dat] using nb)
theorem Zj{t:FT}(h:tD (Dm.eIf t a b) σ H Q):tIf (tDT t) (tD a) (tD b) σ H Q:=by
 obtain⟨H0,ρ,x,ρ',st,e,k⟩:=h;unfold Dm.eIf at e;split at e
 ·cases e
 ·rename_i ρ1 e1;refine⟨H0,ρ,true,ρ1,st,e1,fun H1 Hb t1=>?_⟩;dsimp only;rw[if_pos rfl];exact⟨H1,ρ1,x,ρ',t1.st,e,fun v H2 Hc t2 r2=>k v H2 Hc (t1.trans t2) (r2.early fun a n=>t1.stp.gone n)⟩
 ·rename_i ρ1 e1;refine⟨H0,ρ,false,ρ1,st,e1,fun H1 Hb t1=>?_⟩;dsimp only;rw[if_neg aaz];exact⟨H1,ρ1,x,ρ',t1.st,e,fun v H2 Hc t2 r2=>k v H2 Hc (t1.trans t2) (r2.early fun a n=>t1.stp.gone n)⟩
theorem Rep.C7{c:Bool}(r:Rep H0 v (.bl c)):v=.bl c:=by cases r;rfl
theorem Rep.isInt{c:Int}(r:Rep H0 v (.int c)):v=.int c:=by cases r;rfl
theorem WS(h:tD (Dm.oH a b) σ H Q):Ry (tD a) (tD b) σ H Q:=by
 obtain⟨H0,ρ,x,ρ',st,e,k⟩:=h;unfold Dm.oH at e;split at e
 ·rename_i ρ1 e1;refine⟨H0,ρ,_,_,st,e1,fun v H1 Hb t1 r1=>⟨true,Rep.C7 r1,?_⟩⟩
  try dsimp only
  rw[if_pos rfl];exact⟨H1,ρ1,x,ρ',t1.st,e,fun v H2 Hc t2 r2=>k v H2 Hc (t1.trans t2) (r2.early fun a n=>t1.stp.gone n)⟩
 ·rename_i ρ1 e1;cases e;refine⟨H0,ρ,_,_,st,e1,fun v H1 Hb t1 r1=>⟨false,Rep.C7 r1,?_⟩⟩
  try dsimp only
  rw[if_neg aaz];exact k _ H1 Hb t1 (Rep.bl false)
 ·cases e
theorem WU{a:FE}(h:tD (Dm.Kd a) σ H Q):Rz (tD a) σ H Q:=by
 obtain⟨H0,ρ,x,ρ',st,e,k⟩:=h;unfold Dm.Kd at e;split at e
 ·rename_i c ρ1 e1;cases e;exact⟨H0,ρ,_,_,st,e1,fun v H1 Hb t1 r1=>⟨c,Rep.C7 r1,k _ H1 Hb t1 (Rep.bl (!c))⟩⟩
 ·cases e
variable{Qt:Bool->Hp->Prop}
theorem zT{a:FE}(h:tDT (Dm.tV a) σ H Qt):RG (tD a) σ H Qt:=by
 obtain⟨H0,ρ,x,ρ',st,e,k⟩:=h;unfold Dm.tV at e;split at e
 ·rename_i c ρ1 e1;cases e;exact⟨H0,ρ,_,_,st,e1,fun v H1 Hb t1 r1=>⟨_,Rep.C7 r1,k H1 Hb t1⟩⟩
 ·cases e
theorem Ua{t:FT}(h:tDT (Dm.qK t) σ H Qt):qK (tDT t) σ H Qt:=by
 obtain⟨H0,ρ,x,ρ',st,e,k⟩:=h;unfold Dm.qK at e;split at e
 ·rename_i c ρ1 e1;cases e;exact⟨H0,ρ,_,_,st,e1,fun H1 Hb t1=>k H1 Hb t1⟩
 ·cases e
theorem Ub(h:tDT (Dm.rB t u) σ H Qt):rB (tDT t) (tDT u) σ H Qt:=by
 obtain⟨H0,ρ,x,ρ',st,e,k⟩:=h;unfold Dm.rB at e;split at e
 ·rename_i ρ1 e1;refine⟨H0,ρ,_,ρ1,st,e1,fun H1 Hb t1=>?_⟩;dsimp only;rw[if_pos rfl];exact⟨H1,ρ1,x,ρ',t1.st,e,fun H2 Hc t2=>k H2 Hc (t1.trans t2)⟩
 ·rename_i ρ1 e1;cases e;refine⟨H0,ρ,_,_,st,e1,fun H1 Hb t1=>?_⟩;dsimp only;rw[if_neg aaz];exact k H1 Hb t1
 ·cases e
theorem WV(h:tDT (Dm.tOr t u) σ H Qt):tOr (tDT t) (tDT u) σ H Qt:=by
 obtain⟨H0,ρ,x,ρ',st,e,k⟩:=h;unfold Dm.tOr at e;split at e
 ·rename_i ρ1 e1;cases e;refine⟨H0,ρ,_,_,st,e1,fun H1 Hb t1=>?_⟩;dsimp only;rw[if_pos rfl];exact k H1 Hb t1
 ·rename_i ρ1 e1;refine⟨H0,ρ,_,ρ1,st,e1,fun H1 Hb t1=>?_⟩;dsimp only;rw[if_neg aaz];exact⟨H1,ρ1,x,ρ',t1.st,e,fun H2 Hc t2=>k H2 Hc (t1.trans t2)⟩
 ·cases e
end
end
section
variable{ρ:Dm.Env}{H0 H:Hp}{σ:L2.St}
structure SSt(σ:St)(ρ:Dm.Env)(H0 H:Hp)(σ':St)(ρ':Dm.Env)(H0' H':Hp):Prop where
 st:a_ H0' H' σ' ρ'
 stp:Stp (aJ σ ρ) H0 H H0' H'
 own:∀a,aJ σ' ρ' a->aJ σ ρ a\/H a=none
 fx:σ'[0]?=σ[0]?
theorem ESt.sst{σ:St}{ρ ρ':Dm.Env}{H0 H H0' H':Hp}(t:ESt σ ρ H0 H ρ' H0' H'):SSt σ ρ H0 H σ ρ' H0' H':=⟨t.st,t.stp,fun a z=>.inl (t.own a z),rfl⟩
theorem SSt.refl{σ:St}(st:a_ H0 H σ ρ):SSt σ ρ H0 H σ ρ H0 H:=(ESt.refl st).sst
theorem SSt.trans{σ σ1 σ2:St}{ρ ρ1 ρ2:Dm.Env}{H0 H H1 H' H2 H'':Hp}(t:SSt σ ρ H0 H σ1 ρ1 H1 H')(u:SSt σ1 ρ1 H1 H' σ2 ρ2 H2 H''):SSt σ ρ H0 H σ2 ρ2 H2 H'':=
 ⟨u.st,t.stp.trans u.stp t.own,fun a z=>(u.own a z).elim (t.own a) fun n=>.inr (t.stp.gone n),u.fx.trans t.fx⟩
def LV(σ:St)(ρ:Dm.Env)(H H0' H':Hp)(v:V):RV->Prop
 |.val d=>Rep H0' v d
 |.new d=>∃a,v=V.ref a/\(H a=none\/aJ σ ρ a)/\H0' a=none/\Own H0' H' a d
def zU(D:Ends)(σ:St)(ρ:Dm.Env)(H0 H:Hp):Dm.Out->Prop
 |.nx ρ'=>∀σ' H0' H',SSt σ ρ H0 H σ' ρ' H0' H'->D.nx σ' H'
 |.bk ρ'=>∀σ' H0' H',SSt σ ρ H0 H σ' ρ' H0' H'->D.bk σ' H'
 |.ct ρ'=>∀σ' H0' H',SSt σ ρ H0 H σ' ρ' H0' H'->D.ct σ' H'
 |.ret z ρ'=>∀σ' v H0' H',SSt σ ρ H0 H σ' ρ' H0' H'->LV σ ρ H H0' H' v z->(∀d a,z=.new d->v=.ref a->¬aJ σ' ρ' a)->D.rt v H'
def tDS(g:FS):TS:=fun D σ H=>∃H0 ρ o,a_ H0 H σ ρ/\g ρ=some o/\zU D σ ρ H0 H o
theorem zU.pre{D:Ends}{σ σ1:St}{ρ ρ1:Dm.Env}{H0 H H1 H':Hp}{o:Dm.Out}(t:SSt σ ρ H0 H σ1 ρ1 H1 H')(k:zU D σ ρ H0 H o):zU D σ1 ρ1 H1 H' o:=by
 cases o with
 |nx ρ'=>exact fun σ' H0' H' u=>k σ' H0' H' (t.trans u)
 |bk ρ'=>exact fun σ' H0' H' u=>k σ' H0' H' (t.trans u)
 |ct ρ'=>exact fun σ' H0' H' u=>k σ' H0' H' (t.trans u)
 |ret z ρ'=>
  refine fun σ' v H0' H'' u r no=>k σ' v H0' H'' (t.trans u) ?_ no;cases z with
  |val d=>exact r
  |new d=>
   obtain⟨a,e,n,n0,w⟩:=r;refine⟨a,e,?_,n0,w⟩;rcases n with n | n
   ·exact .inl (t.stp.gone n)
   ·exact(t.own a n).symm
theorem a_.mask(st:a_ H0 H σ ρ)(i:Nat):a_ H0 H σ (ρ.set i .un) where
 same:=st.same
 len:=by rw[aaC];exact st.len
 sh:=fun j d h=>by
  by_cases q:i=j
  ·subst q;rw[abB]at h;simp only[if_true]at h;split at h<;>cases h
  ·rw[gV q]at h;exact st.sh j d h
 ow:=fun j d h=>by
  by_cases q:i=j
  ·subst q;rw[abB]at h;simp only[if_true]at h;split at h<;>cases h
  ·rw[gV q]at h;exact st.ow j d h
 dis:=fun j j' d d' a h1 h2 h3 h4=>by
  by_cases q:i=j
  ·subst q;rw[abB]at h1;simp only[if_true]at h1;split at h1<;>cases h1
  ·by_cases q':i=j'
   ·subst q';rw[abB]at h2;simp only[if_true]at h2;split at h2<;>cases h2
   ·rw[gV q]at h1;rw[gV q']at h2;exact st.dis j j' d d' a h1 h2 h3 h4
theorem jB{i:Nat}{a:Addr}(h:aJ σ (ρ.set i .un) a):∃(j:Nat) (d:Dat),j≠i/\ρ[j]?=some (Dm.Cell.ow d)/\σ[j]?=some (some (V.ref a)):=by
 obtain⟨j,d,h1,h2⟩:=h;by_cases q:i=j
 ·subst q;rw[abB]at h1;simp only[if_true]at h1;split at h1<;>cases h1
 ·rw[gV q]at h1;exact⟨j,d,fun z=>q z.symm,h1,h2⟩
end
section
variable{D:Ends}{σ:St}{H:Hp}
theorem Zk(h:tDS Dm.sNx D σ H):Ld D σ H:=by obtain⟨H0,ρ,o,st,e,k⟩:=h;cases e;exact k σ H0 H (.refl st)
theorem WW{s u:FS}(h:tDS (Dm.aR s u) D σ H):Gy (tDS s) (tDS u) D σ H:=by
 obtain⟨H0,ρ,o,st,e,k⟩:=h;unfold Dm.aR at e;split at e
 ·rename_i ρ1 e1;exact⟨H0,ρ,.nx ρ1,st,e1,fun σ' H0' H' t=>⟨H0',ρ1,o,t.st,e,k.pre t⟩⟩
 ·rename_i h1;cases o with
  |nx ρ1=>exact absurd e (h1 ρ1)
  |bk ρ1=>exact⟨H0,ρ,_,st,e,k⟩
  |ct ρ1=>exact⟨H0,ρ,_,st,e,k⟩
  |ret z ρ1=>exact⟨H0,ρ,_,st,e,k⟩
theorem Uc{f:FE}(h:tDS (Dm.sE f) D σ H):Ed (tD f) D σ H:=by
 obtain⟨H0,ρ,o,st,e,k⟩:=h;unfold Dm.sE at e;split at e
 ·cases e
 ·rename_i x ρ1 e1;cases e;exact⟨H0,ρ,x,ρ1,st,e1,fun v H0' H' t r=>k σ H0' H' t.sst⟩
theorem WX{f:FE}(h:tDS (Dm.sR f) D σ H):Wl (tD f) D σ H:=by
 obtain⟨H0,ρ,o,st,e,k⟩:=h;unfold Dm.sR at e;split at e
 ·cases e
 ·rename_i d ρ1 e1;cases e;refine⟨H0,ρ,_,ρ1,st,e1,fun v H0' H' t r=>?_⟩;obtain⟨a,e,n,no,n0,w⟩:=r;exact k σ v H0' H' t.sst ⟨a,e,.inl n,n0,w⟩ fun d' a' _ e' z=>by rw[e]at e';cases e';exact no z
 ·rename_i d ρ1 e1;cases e;exact⟨H0,ρ,_,ρ1,st,e1,fun v H0' H' t r=>k σ v H0' H' t.sst r fun d' a' z=>by cases z⟩
 ·rename_i i ρ1 e1;split at e
  ·rename_i d h1;cases e;refine⟨H0,ρ,_,ρ1,st,e1,fun v H0' H' t r=>?_⟩;obtain⟨q,_⟩:=r;obtain⟨a,q',n0,w⟩:=t.st.ow i d h1;rw[q]at q';cases q';refine k σ _ H0' H' ⟨t.st.mask i,t.stp,fun b z=>?_,rfl⟩ ⟨a,rfl,.inr (t.own a ⟨i,d,h1,q⟩),n0,w⟩ fun d' a' _ e' z=>?_
   ·obtain⟨j,d2,_,z1,z2⟩:=jB z;exact .inl (t.own b ⟨j,d2,z1,z2⟩)
   ·cases e';obtain⟨j,d2,hj,z1,z2⟩:=jB z;exact hj (t.st.dis j i d2 d a z1 h1 z2 q)
  ·rename_i d h1;cases e;refine⟨H0,ρ,_,ρ1,st,e1,fun v H0' H' t r=>?_⟩;obtain⟨q,_⟩:=r;obtain⟨u,q',w⟩:=t.st.sh i d h1;rw[q]at q';cases q';exact k σ _ H0' H' t.sst w fun d' a' z=>by cases z
  ·cases e
theorem WY{t:FT}{a b:FS}(h:tDS (Dm.sIf t a b) D σ H):Tj (tDT t) (tDS a) (tDS b) D σ H:=by
 obtain⟨H0,ρ,o,st,e,k⟩:=h;unfold Dm.sIf at e;split at e
 ·cases e
 ·rename_i ρ1 e1;refine⟨H0,ρ,true,ρ1,st,e1,fun H1 Hb t1=>?_⟩;dsimp only;rw[if_pos rfl];exact⟨H1,ρ1,o,t1.st,e,k.pre t1.sst⟩
 ·rename_i ρ1 e1;refine⟨H0,ρ,false,ρ1,st,e1,fun H1 Hb t1=>?_⟩;dsimp only;rw[if_neg aaz];exact⟨H1,ρ1,o,t1.st,e,k.pre t1.sst⟩
end
section
variable{ρ:Dm.Env}{σ:St}{i:Nat}{H0 H:Hp}{d:Dat}{a:Addr}{b:Addr}{o:HO}{v:V}
theorem oM{i j:Nat}{c d:Option V}(h:(σ.set i c)[j]?=some d):(j=i/\d=c)\/(j≠i/\σ[j]?=some d):=by
 by_cases e:j=i
 ·subst e;by_cases l:j<σ.length
  ·rw[aap l]at h;exact .inl ⟨rfl,(Option.some.inj h).symm⟩
  ·rw[aaq (by simpa using abV.mp l)]at h;cases h
 ·rw[gV (Ne.symm e)]at h;exact .inr ⟨e,h⟩
theorem a_.inσ{c d:Dm.Cell}(st:a_ H0 H σ ρ)(h:(ρ.set i c)[i]?=some d):i<σ.length:=by have:=(aag.mp h).1;rw[aaC]at this;rw[st.len];exact this
theorem iG(h:aJ (σ.set i (some v)) (ρ.set i (.sh d)) b):aJ σ ρ b:=by
 obtain⟨j,d',h1,h2⟩:=h;rcases bH h1 with⟨_,z⟩ | ⟨hj,h1⟩
 ·cases z
 ·rcases oM h2 with⟨z,_⟩ | ⟨_,h2⟩
  ·exact absurd z hj
  ·exact⟨j,d',h1,h2⟩
theorem a_.zV(st:a_ H0 H σ ρ)(r:Rep H0 v d):a_ H0 H (σ.set i (some v)) (ρ.set i (.sh d)) where
 same:=st.same
 len:=by rw[aaC,aaC];exact st.len
 sh:=fun j d' h=>by
  rcases bH h with⟨rfl,z⟩ | ⟨hj,h'⟩
  ·cases z;exact⟨v,aap (st.inσ h),r⟩
  ·obtain⟨u,q,w⟩:=st.sh j d' h';exact⟨u,by rw[gV (Ne.symm hj)];exact q,w⟩
 ow:=fun j d' h=>by
  rcases bH h with⟨_,z⟩ | ⟨hj,h'⟩
  ·cases z
  ·obtain⟨u,q,w⟩:=st.ow j d' h';exact⟨u,by rw[gV (Ne.symm hj)];exact q,w⟩
 dis:=fun j k d1 d2 b h1 h2 h3 h4=>by
  rcases bH h1 with⟨_,z⟩ | ⟨hj,h1⟩
  ·cases z
  rcases bH h2 with⟨_,z⟩ | ⟨hk,h2⟩
  ·cases z
  rw[gV (Ne.symm hj)]at h3;rw[gV (Ne.symm hk)]at h4;exact st.dis j k d1 d2 b h1 h2 h3 h4
theorem a_.GP(st:a_ H0 H σ ρ)(no:¬aJ σ ρ a)(n0:H0 a=none)(w:Own H0 H a d):a_ H0 H (σ.set i (some (.ref a))) (ρ.set i (.ow d)) where
 same:=st.same
 len:=by rw[aaC,aaC];exact st.len
 sh:=fun j d' h=>by
  rcases bH h with⟨_,z⟩ | ⟨hj,h'⟩
  ·cases z
  ·obtain⟨u,q,w⟩:=st.sh j d' h';exact⟨u,by rw[gV (Ne.symm hj)];exact q,w⟩
 ow:=fun j d' h=>by
  rcases bH h with⟨rfl,z⟩ | ⟨hj,h'⟩
  ·cases z;exact⟨a,aap (st.inσ h),n0,w⟩
  ·obtain⟨u,q,w⟩:=st.ow j d' h';exact⟨u,by rw[gV (Ne.symm hj)];exact q,w⟩
 dis:=fun j k d1 d2 b h1 h2 h3 h4=>by
  rcases bH h1 with⟨e1,z1⟩ | ⟨hj,h1'⟩
  ·rcases bH h2 with⟨e2,z2⟩ | ⟨hk,h2'⟩
   ·rw[e1,e2]
   ·rcases oM h3 with⟨_,z⟩ | ⟨z,_⟩
    ·cases z;rw[gV (Ne.symm hk)]at h4;exact absurd ⟨k,d2,h2',h4⟩ no
    ·exact absurd e1 z
  ·rcases bH h2 with⟨e2,z2⟩ | ⟨hk,h2'⟩
   ·rcases oM h4 with⟨_,z⟩ | ⟨z,_⟩
    ·cases z;rw[gV (Ne.symm hj)]at h3;exact absurd ⟨j,d1,h1',h3⟩ no
    ·exact absurd e2 z
   ·rw[gV (Ne.symm hj)]at h3;rw[gV (Ne.symm hk)]at h4;exact st.dis j k d1 d2 b h1' h2' h3 h4
theorem kE{a b:Addr}(h:aJ (σ.set i (some (.ref a))) (ρ.set i (.ow d)) b):b=a\/aJ σ ρ b:=by
 obtain⟨j,d',h1,h2⟩:=h;rcases bH h1 with⟨e,_⟩ | ⟨hj,h1⟩
 ·rcases oM h2 with⟨_,z⟩ | ⟨z,_⟩
  ·cases z;exact .inl rfl
  ·exact absurd e z
 ·rcases oM h2 with⟨z,_⟩ | ⟨_,h2⟩
  ·exact absurd z hj
  ·exact .inr ⟨j,d',h1,h2⟩
theorem a_.write{d d':Dat}(st:a_ H0 H σ ρ)(e:ρ[i]?=some (.ow d))(q:σ[i]?=some (some (V.ref a)))(w':Own H0 (upd H a o) a d') :
  a_ H0 (upd H a o) σ (ρ.set i (.ow d')):=by
 obtain⟨a',q',n,w⟩:=st.ow i d e;rw[q]at q';cases q';refine⟨fun b u z=>?_,by rw[aaC];exact st.len,fun j d1 h=>?_,fun j d1 h=>?_,fun j k d1 d2 b h1 h2 h3 h4=>?_⟩
 ·rw[aM (bC z n)];exact st.same _ _ z
 ·rcases bH h with⟨_,z⟩ | ⟨hj,h'⟩
  ·cases z
  ·exact st.sh j d1 h'
 ·rcases bH h with⟨rfl,z⟩ | ⟨hj,h'⟩
  ·cases z;exact⟨a,q,n,w'⟩
  ·obtain⟨b,q1,n1,w1⟩:=st.ow j d1 h';have nb:b≠a:=fun y=>hj (st.dis j i d1 d a h' e (y▸q1) q);exact⟨b,q1,n1,w1.mono (aO.refl _) (aM nb)⟩
 ·have f:∀{j:Nat} {d1:Dat},(ρ.set i (.ow d'))[j]?=some (.ow d1)->∃d2,ρ[j]?=some (.ow d2):=fun {j d1} h=>by
   rcases bH h with⟨rfl,_⟩ | ⟨_,h'⟩
   ·exact⟨d,e⟩
   ·exact⟨d1,h'⟩
  obtain⟨x1,y1⟩:=f h1;obtain⟨x2,y2⟩:=f h2;exact st.dis j k x1 x2 b y1 y2 h3 h4
theorem cZ{d d':Dat}(e:ρ[i]?=some (.ow d))(h:aJ σ (ρ.set i (.ow d')) b):aJ σ ρ b:=by
 obtain⟨j,d1,h1,h2⟩:=h;rcases bH h1 with⟨rfl,_⟩ | ⟨_,h'⟩
 ·exact⟨j,d,e,h2⟩
 ·exact⟨j,d1,h',h2⟩
theorem Stp.write(w:aJ σ ρ a):Stp (aJ σ ρ) H0 H H0 (upd H a o):=
 ⟨aO.refl _,fun b u e n=>by rw [aM (show b≠a from fun z=>n (by rw [z];exact w))];exact e,fun b u e=>.inr (.inl e),fun b u e=>by
  by_cases z:b=a
  ·subst z;exact⟨o,aQ⟩
  ·exact⟨u,by rw[aM z];exact e⟩⟩
end
section
variable{D:Ends}{σ:St}{H:Hp}
section
variable{ρ:Dm.Env}{body:FS}{f:FE}{a:Addr}{is:List Nat}{i:Nat}{ds:List Dat}{d:Dat}{bd:Dm.FB}{xs:List V}{vs:List V}{n:Nat}{H0:Hp}{k:Nat}{fi:Dm.FI}{t:FT}{g:TG}{o:HO}{Q:VK}{E:XK}
theorem LW(h:tDS (Dm.sA i f) D σ H):Ef (tD f) (nX i) D σ H:=by
 obtain⟨H0,ρ,o,st,e,k⟩:=h;unfold Dm.sA at e;split at e
 ·cases e
 rename_i hi0;split at e
 ·cases e
 ·rename_i d ρ1 e1;cases e;refine⟨H0,ρ,_,ρ1,st,e1,fun v H0' H' t r=>?_⟩;obtain⟨a,e,n,no,n0,w⟩:=r;subst e;refine k _ H0' H' ⟨t.st.GP no n0 w,t.stp,fun b z=>?_,gV hi0⟩;rcases kE z with rfl | z
  ·exact .inr n
  ·exact .inl (t.own b z)
 ·rename_i x ρ1 _ e1;split at e
  ·cases e
  ·rename_i d ρ2 e2;cases e;refine⟨H0,ρ,_,ρ1,st,e1,fun v H0' H' t r=>?_⟩;obtain⟨H1,t1,b1,r1,_,_⟩:=take1 t (aO.refl _) r e2;exact k _ H1 H' ⟨t1.st.zV r1,t1.stp,fun b z=>.inl (t1.own b (iG z)),gV hi0⟩
theorem IB{j:Nat}(h:Def ρ j):Def (ρ.set i (.sh d)) j:=trivial
noncomputable def oN:List Nat->TGs
 |[]=>Wn
 |i::is=>RA (nX i) (oN is)
theorem IC{H0 H:Hp}{Q:St->Hp->Prop}:∀{is:List Nat} {xs:List V} {ds:List Dat} {σ:St} {ρ ρ':Dm.Env},a_ H0 H σ ρ->bg H0 xs ds->Dm.sets is ds ρ=some ρ' ->
  (∀σ',a_ H0 H σ' ρ'->(∀a,aJ σ' ρ' a->aJ σ ρ a)->(∀j,j∉is->σ'[j]?=σ[j]?)->(∀j,Def ρ j->Def ρ' j)->σ'[0]?=σ[0]?->Q σ' H)->oN is xs σ H Q
 |[],_,[],σ,ρ,ρ',st,r,e,k=>by cases r;cases e;exact⟨rfl,k σ st (fun _ z=>z) (fun _ _=>rfl) (fun _ z=>z) rfl⟩
 |i::is,_,d::ds,σ,ρ,ρ',st,r,e,k=>by
  cases r with
  |cons h r=>
   unfold Dm.sets at e;split at e
   ·cases e
   rename_i hi0;refine⟨_,_,rfl,?_⟩;refine IC (st.zV h) r e fun σ' st' o' n' d' f'=>k σ' st' (fun a z=>iG (o' a z)) (fun j hj=>?_) (fun j z=>d' j (IB z)) (f'.trans (gV hi0));rw[n' j fun z=>hj (Ds _ z)];exact gV fun z=>hj (by rw[z];exact PU)
 |[],_,_::_,_,_,_,_,_,e,_=>by cases e
 |_::_,_,[],_,_,_,_,_,e,_=>by cases e
theorem Ey:∀{is:List Nat} {ds:List Dat} {ρ ρ':Dm.Env},Dm.sets is ds ρ=some ρ'->ds.length=is.length
 |[],[],_,_,_=>rfl
 |i::is,_::ds,_,_,e=>by
  unfold Dm.sets at e;split at e
  ·cases e
  ·simp[Ey (is:=is) (ds:=ds) e]
 |[],_::_,_,_,e=>by cases e
 |_::_,[],_,_,e=>by cases e
def BD(is:List Nat)(g:TG)(bd:Dm.FB):Prop:=∀(H0 H:Hp) (σ:St) (ρ ρ':Dm.Env) (x:V) (d:Dat) (Q:St->Hp->Prop),a_ H0 H σ ρ->Rep H0 x d->bd d ρ=some ρ' ->
 (∀σ',a_ H0 H σ' ρ'->(∀a,aJ σ' ρ' a->aJ σ ρ a)->(∀j,j∉is->σ'[j]?=σ[j]?)->(∀j,Def ρ j->Def ρ' j)->σ'[0]?=σ[0]?->Q σ' H)->g x σ H Q
theorem ID(i:Nat):BD [i] (nX i) (Dm.bN i):=by
 intro H0 H σ ρ ρ' x d Q st r e k;unfold Dm.bN at e;split at e
 ·cases e
 rename_i hi0;cases e;refine k _ (st.zV r) (fun a z=>iG z) (fun j hj=>?_) (fun j h=>IB h) (gV hi0);exact gV (fun z=>hj (by rw[z];exact aaL.mpr rfl))
theorem LX{K:Dk}(is:List Nat)(hn:is.length=n):BD is (Wo K n (oN is)) (Dm.bT is):=by
 intro H0 H σ ρ ρ' x d Q st r e k;unfold Dm.bT at e;split at e
 ·cases r with
  |tup q rs=>exact⟨_,_,rfl,SqT.of (st.same _ _ q),by rw[rs.length,Ey e,hn],IC st rs e k⟩
 ·cases e
theorem WZ{K:Dk}(h:tDS (Dm.C3 i f) D σ H):Ed (tBM K "list" C1 (v9 i) (tDA [f])) D σ H:=by
 obtain⟨H0,ρ,o,st,e,k⟩:=h;unfold Dm.C3 at e;split at e
 ·rename_i ds0 h0;obtain⟨a0,q0,n0,w0⟩:=st.ow i _ h0;refine⟨_,q0,?_⟩;split at e
  ·cases e
  rename_i x ρ1 e1;split at e
  ·cases e
  rename_i d ρ2 e2;split at e
  ·rename_i ds h2;split at e
   ·rename_i hz;cases e;obtain⟨xs0,y0,_⟩:=w0;refine⟨.inl ⟨rfl,xs0,.inl (.inl y0)⟩,?_⟩;refine⟨H0,ρ,[x],ρ1,st,by unfold Dm.eAs;rw[e1];rfl,fun vs H0' H' t r=>?_⟩;cases r with
    |cons r rr=>
     cases rr;obtain⟨H1,t1,b1,r1,_,_⟩:=take1 t (aO.refl _) r e2;obtain⟨a,q,n,w⟩:=t1.st.ow i _ h2;rw[q0]at q;cases q;obtain⟨xs,y,rs⟩:=w;refine⟨a0,xs,_,rfl,rfl,y,by rw[rs.length];exact aam hz (by decide),?_⟩;have ow:aJ σ ρ2 a0:=⟨i,_,h2,q0⟩
     refine k σ H1 _ ⟨t1.st.write h2 q0 ⟨_,aQ,rs.append (.cons r1 .nil)⟩,t1.stp.trans (Stp.write ow) fun b z=>.inl (t1.own b z),fun b z=>.inl (t1.own b (cZ h2 z)),rfl⟩
   ·cases e
  ·cases e
 ·cases e
theorem Ud(n:Nat)(i:Int):Dm.ixN n i=L2.ixN n i:=rfl
theorem W0{j f:FE}(h:tDS (Dm.Ke i j f) D σ H):Ef (tD f) (uL (v9 i) (tD j) Ek) D σ H:=by
 obtain⟨H0,ρ,o,st,e,k⟩:=h;unfold Dm.Ke at e;split at e
 ·cases e
 rename_i x ρ1 e1;split at e
 ·cases e
 rename_i d ρ2 e2;split at e
 case h_2=>cases e
 rename_i d0 h2;split at e
 ·rename_i m ρ3 e3;split at e
  ·rename_i ds h3;split at e
   ·cases e
   ·rename_i p e4;cases e;refine⟨H0,ρ,_,ρ1,st,e1,fun v H0' H' t r=>?_⟩;obtain⟨H1,t1,b1,r1,_,_⟩:=take1 t (aO.refl _) r e2;obtain⟨a0,q0,_,_⟩:=t1.st.ow i _ h2;refine⟨_,q0,H1,ρ2,_,ρ3,t1.st,e3,fun u H2 Hc t2 r2=>?_⟩;obtain⟨a,q,n,w⟩:=t2.st.ow i _ h3;rw[q0]at q;cases q;obtain⟨xs,y,rs⟩:=w;refine⟨a0,xs,m,p,rfl,Rep.isInt r2,y,by rw[rs.length];exact e4,?_⟩;have ow:aJ σ ρ3 a0:=⟨i,_,h3,q0⟩
    have tt:=t1.trans t2;refine k σ H2 _ ⟨t2.st.write h3 q0 ⟨_,aQ,rs.set (r1.mono t2.stp.s0) p⟩,tt.stp.trans (Stp.write ow) fun b z=>.inl (tt.own b z),fun b z=>.inl (tt.own b (cZ h3 z)),rfl⟩
  ·cases e
 ·cases e
theorem Pk(h:tDS (Dm.whD t body n) D σ H):Li (tDT t) (tDS body) D σ H:=by
 refine⟨fun m σ H=>tDS (Dm.whD t body m) D σ H,⟨n,h⟩,?_⟩;rintro m σ H ⟨H0,ρ,o,st,e,k⟩;cases m with
 |zero=>unfold Dm.whD at e;cases e
 |succ m=>
  unfold Dm.whD at e;split at e
  ·cases e
  ·rename_i ρ1 e1;cases e;refine⟨H0,ρ,false,ρ1,st,e1,fun H1 Hb t1=>?_⟩;dsimp only;rw[if_neg aaz];exact k σ H1 Hb t1.sst
  ·rename_i ρ1 e1;refine⟨H0,ρ,true,ρ1,st,e1,fun H1 Hb t1=>?_⟩;dsimp only;rw[if_pos rfl];refine⟨fun σ' H'=>tDS (Dm.whD t body m) D σ' H',fun σ' H' q=>⟨m,Nat.lt_succ_self m,q⟩,?_⟩;have k1:=k.pre t1.sst;split at e
   ·rename_i ρ2 e2;exact⟨H1,ρ1,_,t1.st,e2,fun σ' H0' H' t2=>⟨H0',ρ2,o,t2.st,e,k1.pre t2⟩⟩
   ·rename_i ρ2 e2;exact⟨H1,ρ1,_,t1.st,e2,fun σ' H0' H' t2=>⟨H0',ρ2,o,t2.st,e,k1.pre t2⟩⟩
   ·rename_i ρ2 e2;cases e;exact⟨H1,ρ1,_,t1.st,e2,k1⟩
   ·rename_i v ρ2 e2;cases e;exact⟨H1,ρ1,_,t1.st,e2,k1⟩
   ·cases e
def JW(J:It)(H00:Hp)(ys:List Dat):Prop:=∀H0 H,aO H00 H0->aO H0 H->(∀i,ys.length<=i->J.stop i H) /\
 ∀(i:Nat) (d:Dat),ys[i]?=some d->J.go i H/\∀x H',J.yld i H x H'->∃H0',bG H0 H H0' H'/\Rep H0' x d
def tDI(fi:Dm.FI):TI:=fun σ H R=>∃H0 ρ ys ρ',a_ H0 H σ ρ/\fi ρ=some (ys,ρ')/\∀J H0' H',ESt σ ρ H0 H ρ' H0' H'->JW J H0' ys->R J H'
theorem W2(hb:BD is g bd)(h:tDS (Dm.kW fi bd body) D σ H):Tu (tDI fi) g (tDS body) D σ H:=by
 obtain⟨H0,ρ,o,st,e,k⟩:=h;unfold Dm.kW at e;split at e
 ·cases e
 rename_i ys ρ1 e1;refine⟨H0,ρ,ys,ρ1,st,e1,fun J H00 Hb t1 jw=>?_⟩;refine ⟨fun i m σ H=>∃ H0 ρ o,a_ H0 H σ ρ∧aO H00 H0∧m=ys.length-i∧i≤ys.length∧Dm.wg bd body (ys.drop i) ρ=some o∧zU D σ ρ H0 H o,
  ⟨ys.length,H00,ρ1,o,t1.st,aO.refl _,by simp,aaY _,by simpa using e,k.pre t1.sst⟩,?_⟩
 rintro i m σ H ⟨H0,ρ,o,st,s00,rfl,hi,e,k⟩;obtain⟨js,jg⟩:=jw H0 H s00 st.same;by_cases NO:i<ys.length
 ·have hd:ys[i]?=some ys[i]:=by simp[NO]
  obtain⟨g1,g2⟩:=jg i ys[i] hd;rw[abD NO]at e;unfold Dm.wg at e;refine .inr ⟨g1,fun σ' H'=>∃H0 ρ o,a_ H0 H' σ' ρ/\aO H00 H0/\Dm.wg bd body (ys.drop (i+1)) ρ=some o/\zU D σ' ρ H0 H' o,?_,fun x H' y=>?_⟩
  ·rintro σ' H' ⟨H0',ρ',o',h1,h2,h3,h4⟩;exact⟨ys.length-(i+1),by lia,H0',ρ',o',h1,h2,rfl,NO,h3,h4⟩
  ·obtain⟨H0',gr,rx⟩:=g2 x H' y;split at e
   ·cases e
   ·rename_i ρ2 e2;have t2:=ESt.grow st gr;refine hb H0' H' σ ρ ρ2 x ys[i] _ t2.st rx e2 fun σ2 st2 o2 _ _ f2=>?_;have t3:SSt σ ρ H0 H σ2 ρ2 H0' H':=⟨st2,t2.stp,fun a z=>.inl (o2 a z),f2⟩
    have k3:=k.pre t3;have s3:aO H00 H0':=s00.trans gr.s0;split at e
    ·rename_i ρ3 e3;exact⟨H0',ρ2,_,st2,e3,fun σ4 H4 Hd t4=>⟨H4,ρ3,o,t4.st,s3.trans t4.stp.s0,e,k3.pre t4⟩⟩
    ·rename_i ρ3 e3;exact⟨H0',ρ2,_,st2,e3,fun σ4 H4 Hd t4=>⟨H4,ρ3,o,t4.st,s3.trans t4.stp.s0,e,k3.pre t4⟩⟩
    ·rename_i ρ3 e3;cases e;exact⟨H0',ρ2,_,st2,e3,k3⟩
    ·rename_i v ρ3 e3;cases e;exact⟨H0',ρ2,_,st2,e3,k3⟩
    ·cases e
 ·have e':i=ys.length:=by lia
  subst e';rw[ab9]at e;cases e;exact .inl ⟨js _ (aab _),k σ H0 H (.refl st)⟩
theorem Pn{K:Dk}(hq:Rd H0 a (.lst xs))(rs:bg H0 xs ds):JW (Itl K a) H0 ds:=by intro H0' H s0 s1;have q:SqL K H a xs:=.inl (aO.rd s1 (aO.rd s0 hq));refine⟨fun i hi=>⟨xs,q,by rw[rs.length];exact hi⟩,fun i d e=>?_⟩;obtain⟨v,hv,rv⟩:=rs.get e;refine⟨⟨xs,v,q,hv⟩,fun x H' y=>?_⟩;obtain⟨e1,y⟩:=y;subst e1;have z:=y xs q;rw[hv]at z;cases z;exact⟨H0',bG.refl s1,rv.mono s0⟩
theorem Ue{K:Dk}(hq:H0 a=some (.tup xs))(rs:bg H0 xs ds):JW (Itt K a) H0 ds:=by intro H0' H s0 s1;have q:SqT K H a xs:=.inl (.inl (s1 _ _ (s0 _ _ hq)));refine⟨fun i hi=>⟨xs,q,by rw[rs.length];exact hi⟩,fun i d e=>?_⟩;obtain⟨v,hv,rv⟩:=rs.get e;refine⟨⟨xs,v,q,hv⟩,fun x H' y=>?_⟩;obtain⟨e1,y⟩:=y;subst e1;have z:=y xs q;rw[hv]at z;cases z;exact⟨H0',bG.refl s1,rv.mono s0⟩
theorem Ez{lo:Int}:JW (Itr lo n) H0 (Dm.ups lo n):=by
 intro H0' H s0 s1;have el:(Dm.ups lo n).length=n:=by simp[Dm.ups]
 refine⟨fun i hi=>by rw[el]at hi;exact hi,fun i d e=>?_⟩;have hi:i<n:=by have:=(aag.mp e).1;rw[el]at this;exact this
 have hd:d=.int (lo+i):=by unfold Dm.ups at e;rw[aao,abb hi]at e;exact(Option.some.inj e).symm
 refine⟨hi,fun x H' y=>?_⟩;obtain⟨rfl,rfl⟩:=y;subst hd;exact⟨H0',bG.refl s1,.int _⟩
variable{R:It->Hp->Prop}
theorem Zl{K:Dk}(h:tDI (Dm.iL f) σ H R):Eg K (tD f) σ H R:=by
 obtain⟨H0,ρ,ys,ρ',st,e,k⟩:=h;unfold Dm.iL at e;split at e
 ·cases e
 rename_i x ρ1 e1;split at e
 ·rename_i ds ρ2 e2;cases e;refine⟨H0,ρ,_,ρ1,st,e1,fun v H0' H' t r=>?_⟩;obtain⟨H1,t1,b1,r1,_,_⟩:=take1 t (aO.refl _) r e2;cases r1 with
  |lst q rs=>exact⟨_,rfl,⟨_,.inl (aO.rd t1.st.same q)⟩,k _ H1 H' t1 (Pn q rs)⟩
 ·cases e
theorem Zm{K:Dk}(h:tDI (Dm.iT f) σ H R):Lm K (tD f) σ H R:=by
 obtain⟨H0,ρ,ys,ρ',st,e,k⟩:=h;unfold Dm.iT at e;split at e
 ·cases e
 rename_i x ρ1 e1;split at e
 ·rename_i ds ρ2 e2;cases e;refine⟨H0,ρ,_,ρ1,st,e1,fun v H0' H' t r=>?_⟩;obtain⟨H1,t1,b1,r1,_,_⟩:=take1 t (aO.refl _) r e2;cases r1 with
  |tup q rs=>exact⟨_,rfl,⟨_,.inl (.inl (t1.st.same _ _ q))⟩,k _ H1 H' t1 (Ue q rs)⟩
 ·cases e
theorem W3(h:tDI (Dm.iR1 f) σ H R):RB (tDA [f]) σ H R:=by
 obtain⟨H0,ρ,ys,ρ',st,e,k⟩:=h;unfold Dm.iR1 at e;split at e
 ·rename_i j ρ1 e1;split at e
  ·rename_i hb;cases e;refine⟨H0,ρ,[.val (.int j)],_,st,by unfold Dm.eAs;rw[e1];rfl,fun vs H0' H' t r=>?_⟩;cases r with
   |cons r rr=>cases rr;cases Rep.isInt r;have h1:=hb.1;have h2:=hb.2;unfold Dm.BIG at h1 h2;exact⟨j,rfl,by lia,by lia,k _ H0' H' t Ez⟩
  ·cases e
 ·cases e
theorem W4{f g:FE}(h:tDI (Dm.iR2 f g) σ H R):RC (tDA [f,g]) σ H R:=by
 obtain⟨H0,ρ,ys,ρ',st,e,k⟩:=h;unfold Dm.iR2 at e;split at e
 ·rename_i i ρ1 e1;split at e
  ·rename_i j ρ2 e2;split at e
   ·rename_i hb;cases e;refine⟨H0,ρ,[.val (.int i),.val (.int j)],_,st,by unfold Dm.eAs;rw[e1];dsimp only;unfold Dm.eAs;rw[e2];rfl,fun vs H0' H' t r=>?_⟩;cases r with
    |cons r rr=>
     cases rr with
     |cons r' rr=>cases rr;cases Rep.isInt r;cases Rep.isInt r';obtain⟨h1,h2,h3,h4⟩:=hb;unfold Dm.BIG at h1 h2 h3 h4;exact⟨i,j,rfl,⟨by lia,by lia,by lia,by lia⟩,k _ H0' H' t Ez⟩
   ·cases e
  ·cases e
 ·cases e
def tLC(wi:TI)(own:Nat)(g:TG)(tt:TT)(te:TE):TE:=fun σ H Q=>wi σ H fun J H1=>∀D,H1 D=none->∃W:Nat->Nat->St->Hp->Prop,
 (∃m,W 0 m (σ++Dp own none) (upd H1 D (.lst [])))/\∀i m σ' H',W i m σ' H' ->
  (J.stop i H'∧Q (.ref D) H')∨(J.go i H'∧∀ x H2,J.yld i H' x H2→g x σ' H2 fun σ2 H3=>tt σ2 H3 fun b H4=>if b=true
   then te σ2 H4 fun y H5=>∃KG,H5 D=some (.lst KG)/\KG.length<sizeLine/\∃m',m'<m/\W (i+1) m' σ2 (upd H5 D (.lst (KG++[y])))
   else ∃m',m'<m/\W (i+1) m' σ2 H4)
theorem a_.aside{H0 H:Hp}{σ:St}(st:a_ H0 H σ ρ)(n0:H0 a=none)(no:¬aJ σ ρ a):a_ H0 (upd H a o) σ ρ where
 same:=fun b u z=>by rw[aM (bC z n0)];exact st.same _ _ z
 len:=st.len
 sh:=st.sh
 ow:=fun j d h=>by obtain⟨b,q,n,w⟩:=st.ow j d h;have nb:b≠a:=fun y=>no ⟨j,d,h,y▸q⟩;exact⟨b,q,n,w.mono (aO.refl _) (aM nb)⟩
 dis:=st.dis
theorem a_.cS{H0 H:Hp}{σ:St}(st:a_ H0 H σ ρ)(h:H a=none):¬aJ σ ρ a:=fun⟨i,d,h1,h2⟩=>by obtain⟨b,q,n,w⟩:=st.ow i d h1;rw[h2]at q;cases q;obtain⟨o,z⟩:=w.some;rw[h]at z;cases z
theorem uS{α:Type}{l:List α}{r:List α}{x:α}(h:(l++r)[i]?=some x)(n:x∉r):i<l.length/\l[i]?=some x:=by
 by_cases hi:i<l.length
 ·rw[aae hi]at h;exact⟨hi,h⟩
 ·rw[aav (abV.mp hi)]at h;exact absurd (abe h) n
theorem LY:Dm.Cell.sh d∉Dp k Dm.Cell.un:=fun h=>by have:=List.eq_of_mem_replicate h;cases this
theorem uT:Dm.Cell.ow d∉Dp k Dm.Cell.un:=fun h=>by have:=List.eq_of_mem_replicate h;cases this
theorem a_.ext{H0 H:Hp}{σ:St}(st:a_ H0 H σ ρ)(k:Nat):a_ H0 H (σ++Dp k none) (ρ++Dp k .un) where
 same:=st.same
 len:=by simp[st.len]
 sh:=fun i d h=>by obtain⟨hi,h⟩:=uS h LY;obtain⟨v,q,r⟩:=st.sh i d h;exact⟨v,by rw[aae (by rw[st.len];exact hi)];exact q,r⟩
 ow:=fun i d h=>by obtain⟨hi,h⟩:=uS h uT;obtain⟨v,q,r⟩:=st.ow i d h;exact⟨v,by rw[aae (by rw[st.len];exact hi)];exact q,r⟩
 dis:=fun i j d e a h1 h2 h3 h4=>by obtain⟨hi,h1⟩:=uS h1 uT;obtain⟨hj,h2⟩:=uS h2 uT;rw[aae (by rw[st.len];exact hi)]at h3;rw[aae (by rw[st.len];exact hj)]at h4;exact st.dis i j d e a h1 h2 h3 h4
theorem wj{H0 H:Hp}{σ:St}(st:a_ H0 H σ ρ)(h:aJ (σ++Dp k none) (ρ++Dp k .un) a):aJ σ ρ a:=by obtain⟨i,d,h1,h2⟩:=h;obtain⟨hi,h1⟩:=uS h1 uT;rw[aae (by rw[st.len];exact hi)]at h2;exact⟨i,d,h1,h2⟩
theorem Stp.aside{O:Addr->Prop}{H0 H H0' H':Hp}{D:Addr}(t:Stp O H0 H H0' H')(hD:H D=none):Stp O H0 H H0' (upd H' D o):=
 ⟨t.s0,fun a u e n=>by rw[aM (bC e hD)];exact t.s1 a u e n,t.s2,fun a u e=>by rw[aM (bC e hD)];exact t.s3 a u e⟩
theorem ESt.kq{σ:St}{ρ ρ':Dm.Env}{H0 H H0' H':Hp}(t:ESt σ ρ H0 H ρ' H0' H'){D:Addr}(h:H D=some o)(n0:H0 D=none)(no:¬aJ σ ρ D):H' D=some o/\H0' D=none/\¬aJ σ ρ' D:=by
 refine⟨t.stp.s1 D o h no,?_,fun z=>no (t.own D z)⟩;cases q:H0' D with
 |none=>rfl
 |some u=>
  rcases t.stp.s2 D u q with z | z | z
  ·rw[h]at z;cases z
  ·rw[n0]at z;cases z
  ·exact absurd z no
def JWa(J:It)(H00:Hp)(pa:Option (Addr×HO))(ys:List Dat):Prop:=∀H0 H,aO H00 H0->aO H0 H->(∀q,pa=some q->H q.1=some q.2)->(∀i,ys.length<=i->J.stop i H) /\
 ∀(i:Nat) (d:Dat),ys[i]?=some d->J.go i H/\∀x H',J.yld i H x H'->∃H0',bG H0 H H0' H'/\Rep H0' x d
theorem EA{σ:St}{own:Nat}{t:FT}{el:FE}{Q:VK}{H00 Hb:Hp}{ρ1 ρ2:Dm.Env}{ds ys:List Dat}{J:It}{pa:Option (Addr×HO)}(hb:BD is g bd)(hl:∀i∈is,σ.length<=i)
  (st1:a_ H00 Hb σ ρ1) (hp:∀q,pa=some q->Hb q.1=some q.2/\H00 q.1=none/\¬aJ σ ρ1 q.1) (jw:JWa J H00 pa ds) (hsz:ds.length<=Dm.SZ) (e2:Dm.nY bd t el ds (ρ1++Dp own .un) []=some (ys,ρ2))
  (k:∀v H0' H',ESt σ ρ1 H00 Hb (ρ2.take ρ1.length) H0' H'->oK Hb H0' H' σ (ρ2.take ρ1.length) v (.new (.lst ys))->(∀q,pa=some q->H' q.1=some q.2/\H0' q.1=none)->Q v H') (D:Addr) (hD:Hb D=none) :
  ∃W:Nat->Nat->St->Hp->Prop,(∃m,W 0 m (σ++Dp own none) (upd Hb D (.lst [])))/\∀i m σ' H',W i m σ' H' ->
  (J.stop i H'∧Q (.ref D) H')∨(J.go i H'∧∀ x H2,J.yld i H' x H2→g x σ' H2 fun σ2 H3=>tDT t σ2 H3 fun b H4=>if b=true
   then tD el σ2 H4 fun y H5=>∃KG,H5 D=some (.lst KG)/\KG.length<sizeLine/\∃m',m'<m/\W (i+1) m' σ2 (upd H5 D (.lst (KG++[y])))
   else ∃m',m'<m/\W (i+1) m' σ2 H4):=by
 have hpD:∀q,pa=some q->q.1≠D:=fun q e z=>by have:=(hp q e).1;rw[z,hD]at this;cases this
 have noD:¬aJ σ ρ1 D:=st1.cS hD;refine ⟨fun i m σ' H'=>∃ (H0c:Hp) (ρc:Dm.Env) (Km:List Dat) (GQ:List V),a_ H0c H' σ' ρc∧aO H00 H0c∧m=ds.length-i∧i≤ds.length∧Dm.nY bd t el (ds.drop i) ρc Km=some (ys,ρ2) ∧
  H' D=some (.lst GQ)/\bg H0c GQ Km/\H0c D=none/\Km.length<=i/\Stp (aJ σ ρ1) H00 Hb H0c H'/\(∀j,j<σ.length->σ'[j]?=σ[j]?)/\(∀a,aJ σ' ρc a->aJ σ ρ1 a)/\(∀j,Def ρ1 j->Def ρc j)/\(∀q,pa=some q->H' q.1=some q.2/\H0c q.1=none/\¬aJ σ' ρc q.1),
  ⟨ds.length,H00,ρ1++Dp own .un,[],[],(st1.aside (st1.same.free hD) noD).ext own,aO.refl _,by simp,aaY _,by simpa using e2,aQ,.nil,st1.same.free hD,aaY _,(Stp.refl _ _ _).aside hD,
   fun j hj=>aae hj,fun a z=>wj st1 z,fun j z=>trivial,fun q e=>⟨by rw[aM (hpD q e)];exact(hp q e).1,(hp q e).2.1,fun z=>(hp q e).2.2 (wj st1 z)⟩⟩,?_⟩
 rintro i m σ' H' ⟨H0c,ρc,Km,GQ,sc,s00,rfl,hi,ec,hDl,ra,n0,hal,sp,hσ,ho,hdf,hpc⟩;have nOc:¬aJ σ' ρc D:=fun z=>noD (ho D z);obtain⟨js,jg⟩:=jw H0c H' s00 sc.same fun q e=>(hpc q e).1;by_cases NO:i<ds.length
 ·have hd:ds[i]?=some ds[i]:=by simp[NO]
  obtain⟨g1,g2⟩:=jg i ds[i] hd;rw[abD NO]at ec;unfold Dm.nY at ec;refine .inr ⟨g1,fun y H2 yy=>?_⟩;obtain⟨H0',gr,rx⟩:=g2 y H2 yy;split at ec
  ·cases ec
  rename_i ρ3 e3;have t2:=ESt.grow sc gr;obtain⟨hD2,n02,no2⟩:=t2.kq hDl n0 nOc;have hp2:=fun q e=>t2.kq (hpc q e).1 (hpc q e).2.1 (hpc q e).2.2;refine hb H0' H2 σ' ρc ρ3 y ds[i] _ t2.st rx e3 fun σ3 st3 o3 k3 d3 _=>?_;have no3:¬aJ σ3 ρ3 D:=fun z=>no2 (o3 D z);have po3:∀q,pa=some q->¬aJ σ3 ρ3 q.1:=fun q e z=>(hp2 q e).2.2 (o3 q.1 z);have hσ3:∀j,j<σ.length->σ3[j]?=σ[j]?:=fun j hj=>(k3 j fun z=>abV.mpr (hl j z) hj).trans (hσ j hj);have ho3:∀a,aJ σ3 ρ3 a->aJ σ ρ1 a:=fun a z=>ho a (o3 a z);have W5:∀j,Def ρ1 j->Def ρ3 j:=fun j z=>d3 j (hdf j z);have sp3:Stp (aJ σ ρ1) H00 Hb H0' H2:=sp.trans t2.stp fun a z=>.inl (ho a z);have ra3:=ra.mono gr.s0;have s3:aO H00 H0':=s00.trans gr.s0;split at ec
  ·cases ec
  ·rename_i ρ4 e4;refine⟨H0',ρ3,false,ρ4,st3,e4,fun GR H'' t4=>?_⟩;dsimp only;rw[if_neg aaz];obtain⟨hD4,n04,no4⟩:=t4.kq hD2 n02 no3;have hp4:=fun q e=>t4.kq (hp2 q e).1 (hp2 q e).2.1 (po3 q e);exact⟨ds.length-(i+1),by lia,GR,ρ4,Km,GQ,t4.st,s3.trans t4.stp.s0,rfl,NO,ec,hD4,ra3.mono t4.stp.s0,n04,Nat.le_succ_of_le hal,sp3.trans t4.stp fun a z=>.inl (ho3 a z),hσ3,fun a z=>ho3 a (t4.own a z),fun j z=>t4.dfn j (W5 j z),hp4⟩
  ·rename_i ρ4 e4;refine⟨H0',ρ3,true,ρ4,st3,e4,fun GR H'' t4=>?_⟩;dsimp only;rw[if_pos rfl];obtain⟨hD4,n04,no4⟩:=t4.kq hD2 n02 no3;have hp4:=fun q e=>t4.kq (hp2 q e).1 (hp2 q e).2.1 (po3 q e);split at ec
   ·cases ec
   rename_i x5 ρ5 e5;split at ec
   ·cases ec
   rename_i y6 ρ6 e6;refine⟨GR,ρ4,x5,ρ5,t4.st,e5,fun v H5 Hc t5 r5=>?_⟩;obtain⟨H6,t6,b6,r6,_,_⟩:=take1 t5 (aO.refl _) r5 e6;obtain⟨hD6,n06,no6⟩:=t6.kq hD4 n04 no4;have hp6:=fun q e=>t6.kq (hp4 q e).1 (hp4 q e).2.1 (hp4 q e).2.2;refine⟨GQ,hD6,?_,ds.length-(i+1),by lia,H6,ρ6,Km++[y6],GQ++[v],t6.st.aside n06 no6,(s3.trans t4.stp.s0).trans t6.stp.s0,rfl,NO,ec,aQ,?_,n06,?_,?_,hσ3,fun a z=>ho3 a (t4.own a (t6.own a z)),fun j z=>t6.dfn j (t4.dfn j (W5 j z)),fun q e=>⟨by rw[aM (hpD q e)];exact(hp6 q e).1,(hp6 q e).2.1,(hp6 q e).2.2⟩⟩
   ·rw[ra.length];unfold Dm.SZ at hsz;exact Nat.lt_of_le_of_lt (aaE hal (aaE (acH NO) hsz)) (by decide)
   ·exact((ra3.mono t4.stp.s0).mono t6.stp.s0).append (.cons r6 .nil)
   ·rw[aan,abp];lia
   ·exact((sp3.trans t4.stp fun a z=>.inl (ho3 a z)).trans t6.stp fun a z=>.inl (ho3 a (t4.own a z))).aside hD
 ·have e':i=ds.length:=by lia
  subst e';rw[ab9]at ec;cases ec;refine .inl ⟨js _ (aab _),k _ H0c H' ?_ ?_ fun q e=>⟨(hpc q e).1,(hpc q e).2.1⟩⟩
  ·have Fp:σ.length<=ρ2.length:=by
    rw[<- sc.len];refine abV.mp fun z=>?_;have q:=hσ σ'.length z;rw[aaq (aab _),aaI z]at q;cases q
   have tk:∀{j:Nat} {c:Dm.Cell},(ρ2.take ρ1.length)[j]?=some c->j<σ.length/\ρ2[j]?=some c:=fun {j c} h=>by
    have hj:j<ρ1.length:=by
     have:=(aag.mp h).1;rw[aa7]at this
     lia
    rw[abG hj]at h;exact⟨by rw[st1.len];exact hj,h⟩
   have own':∀a,aJ σ (ρ2.take ρ1.length) a->aJ σ' ρ2 a:=fun a ⟨j,d,h1,h2⟩=>by obtain⟨hj,h1⟩:=tk h1;exact⟨j,d,h1,(hσ j hj).trans h2⟩
   refine⟨⟨sc.same,?_,fun j d h=>?_,fun j d h=>?_,fun j j' d d' a h1 h2 h3 h4=>?_⟩,sp,fun a z=>ho a (own' a z),fun j z=>?_⟩
   ·rw[aa7,<- st1.len];lia
   ·obtain⟨hj,h⟩:=tk h;obtain⟨v,q,r⟩:=sc.sh j d h;exact⟨v,(hσ j hj).symm.trans q,r⟩
   ·obtain⟨hj,h⟩:=tk h;obtain⟨v,q,r⟩:=sc.ow j d h;exact⟨v,(hσ j hj).symm.trans q,r⟩
   ·obtain⟨hj,h1⟩:=tk h1;obtain⟨hj',h2⟩:=tk h2;exact sc.dis j j' d d' a h1 h2 ((hσ j hj).trans h3) ((hσ j' hj').trans h4)
   ·trivial
  ·refine⟨D,rfl,hD,fun⟨j,d,h1,h2⟩=>?_,n0,GQ,hDl,ra⟩;have hj:j<ρ1.length:=by
    have:=(aag.mp h1).1;rw[aa7]at this
    lia
   rw[abG hj]at h1;exact nOc ⟨j,d,h1,(hσ j (by rw[st1.len];exact hj)).trans h2⟩
theorem C8{own:Nat}{el:FE}(hb:BD is g bd)(hl:∀i∈is,σ.length<=i)(h:tD (Dm.dY fi own bd t el) σ H Q) :
  tLC (tDI fi) own g (tDT t) (tD el) σ H Q:=by
 obtain⟨H0,ρ,x,ρ',st,e,k⟩:=h;unfold Dm.dY at e;split at e
 ·cases e
 rename_i ds ρ1 e1;split at e
 case isFalse=>cases e
 rename_i hsz;split at e
 ·cases e
 rename_i ys ρ2 e2;cases e;refine⟨H0,ρ,ds,ρ1,st,e1,fun J H00 Hb t1 jw D hD=>EA (pa:=none) hb hl t1.st (fun q e=>by cases e) (fun H0 H s0 s1 _=>jw H0 H s0 s1) hsz e2 (fun v H0' H' t2 r2 _=>k v H0' H' (t1.trans t2) (r2.early fun a n=>t1.stp.gone n)) D hD⟩
theorem LZ{n m:Nat}{H:Hp}(h:spD (Dm.fn n m body) vs H Q E):vs.length=n:=by
 obtain⟨H0,ds,z,s,rs,e,k⟩:=h;unfold Dm.fn at e;split at e
 ·rename_i hl;rw[rs.length];exact hl
 ·cases e
theorem Zn{N:List Str}{n m:Nat}(hm:N.length=n+m)(h:spD (Dm.fn n m body) vs H Q E) :
  tDS body { nx:=fun _ H'=>Q .non H',rt:=Q } (start N vs) H:=by
 have hvn:=LZ h;obtain⟨H0,ds,z,s,rs,e,k⟩:=h;have hl:=rs.length;have no:∀a,¬aJ (start N vs) (ds.map Dm.Cell.sh++Dp m .un) a:=fun a ⟨i,d,h1,_⟩=>by
  by_cases hi:i<ds.length
  ·rw[aae (by simpa using hi),aao]at h1;cases q:ds[i]? with
   |none=>rw[q]at h1;cases h1
   |some y=>rw[q]at h1;cases h1
  ·rw[aav (by simpa using hi),aaK]at h1;split at h1<;>cases h1
 have st:a_ H0 H (start N vs) (ds.map Dm.Cell.sh++Dp m .un):=by
  refine⟨s,?_,fun i d h=>?_,fun i d h=>?_,fun i j d e a h1 h2 _ _=>?_⟩
  ·unfold L2.start;simp only[aan,Pa,abx]
   lia
  ·have hi:i<ds.length:=by
    by_cases hi:i<ds.length
    ·exact hi
    ·rw[aav (by simpa using hi),aaK]at h;split at h<;>cases h
   rw[aae (by simpa using hi),aao]at h;cases q:ds[i]? with
   |none=>rw[q]at h;cases h
   |some y=>rw[q]at h;cases h;obtain⟨v,hv,r⟩:=rs.get q;refine⟨v,?_,r⟩;unfold L2.start;rw[aae (by simpa [hl] using hi),aao,hv];rfl
  ·by_cases hi:i<ds.length
   ·rw[aae (by simpa using hi),aao]at h;cases q:ds[i]? with
    |none=>rw[q]at h;cases h
    |some y=>rw[q]at h;cases h
   ·rw[aav (by simpa using hi),aaK]at h;split at h<;>cases h
  ·by_cases hi:i<ds.length
   ·rw[aae (by simpa using hi),aao]at h1;cases q:ds[i]? with
    |none=>rw[q]at h1;cases h1
    |some y=>rw[q]at h1;cases h1
   ·rw[aav (by simpa using hi),aaK]at h1;split at h1<;>cases h1
 have gr:∀{H0' H'},Stp (aJ (start N vs) (ds.map Dm.Cell.sh++Dp m .un)) H0 H H0' H'->aO H0' H'->bG H0 H H0' H':=fun {H0' H'} t ss=>⟨t.s0,fun a o e=>t.s1 a o e (no a),fun a o e=>(t.s2 a o e).imp id fun q=>q.elim id fun z=>absurd z (no a),ss⟩
 unfold Dm.fn at e;rw[if_pos (by rw[<- hl];exact hvn)]at e;split at e
 ·rename_i r ρ' e1;cases e;refine⟨H0,_,_,st,e1,fun σ' v H0' H' t r _=>k v H0' H' (gr t.stp t.st.same) ?_⟩;cases z with
  |val d=>exact r
  |new d=>obtain⟨a,e,n,n0,w⟩:=r;exact⟨a,e,n.elim id fun z=>absurd z (no a),n0,w⟩
 ·rename_i ρ' e1;cases e;exact⟨H0,_,_,st,e1,fun σ' H0' H' t=>k _ H0' H' (gr t.stp t.st.same) .non⟩
 ·cases e
end
end
open PySem PySem.Spec PyProof.Rows L2
noncomputable def b4(X:Cx)(nm:List Str)(scope:Scope)(own:List Str)(cl:List (Str×Addr))(C:Addr)(s:Shared)(H:Hp)(fp:List Addr):Cx where
 prog:=X.prog
 w:=X.w
 K:=X.K
 mg:=X.mg
 base:=X.base
 A:=X.A
 N:=nm++own
 s₀:=s
 H₀:=H
 env:=compEnvC scope cl C X.env
 outer:=X.stack
 stack:=X.stack
 ex:=fp
 fn:=fun _=>false
 calm:=X.calm
 pn:=[]
 xe:=fun _ _=>False
def PTs(X:Cx)(Sl:List Expr)(t:TT):Prop:=
 ∀(BU:List (Addr×Obj)) (s:Shared) (σ:L2.St) (H:Hp) (Q:Bool->Hp->Prop),Inv X BU σ H s->t σ H Q ->
  wpAny (model X.prog X.w) X.A (forIn Sl true fun c r=>if r=true then do let ok <- isTrue c X.env (eval c X.env);pure (abr ok) else pure (abr r)) (TP X BU σ Q) X.xe s
def L5:TT:=fun _ H Q=>Q true H
theorem C9{X:Cx}:PTs X [] L5:=fun BU s σ H Q I h=>wpAny_tests_nil ⟨H,I,h⟩
theorem Po{X:Cx}{c:Expr}{t:TT}(h:PT X c t):PTs X [c] t:=fun BU s σ H Q I hq=>wpAny_tests_one (h BU s σ H Q I hq)
theorem lQ(env:Env):∀(names:List (Str×NameKind)) (cs:List (Str×Addr)),(∀y∈names,y.2=.free->∃c,env.cells.lookup y.1=some c) ->
  ∃cl,(forIn names cs fun(x:Str×NameKind) (r:List (Str×Addr))=>(if (x.2 == NameKind.free)=true then do let c <- cellOf env x.1;pure (abr ((x.1,c)::r)) else pure (abr r):Sem (ForInStep (List (Str×Addr)))))=pure cl /\
   (∀x c,cl.lookup x=some c->env.cells.lookup x=some c\/cs.lookup x=some c)/\(∀y∈names,y.2=.free->∃c,cl.lookup y.1=some c)/\(∀x c,cs.lookup x=some c->∃c',cl.lookup x=some c')
 |[],cs,_=>⟨cs,rfl,fun _ _ h=>.inr h,fun _ h=>(nomatch h),fun _ c h=>⟨c,h⟩⟩
 |(n,k)::r,cs,h=>by
  have hr:∀y∈r,y.2=.free->∃c,env.cells.lookup y.1=some c:=fun y hy=>h y (Ds _ hy);by_cases hk:k=.free
  ·subst hk;obtain⟨c,hc⟩:=h (n,.free) PU rfl;obtain⟨cl,e,h1,h2,h3⟩:=lQ env r ((n,c)::cs) hr;refine⟨cl,?_,fun x c' q=>?_,fun y hy hf=>?_,fun x c' q=>?_⟩
   ·rw[List.forIn_cons];have e1:cellOf env n=pure c:=by unfold cellOf;rw[hc]
    simp only[beq_self_eq_true,if_true,e1,pure_bind];exact e
   ·rcases h1 x c' q with z | z
    ·exact .inl z
    ·rw[aaX]at z;cases hx:x == n with
     |true=>
      rw[hx]at z;have:x=n:=by simpa using hx
      subst this;injection z with z
      subst z;exact .inl hc
     |false=>rw[hx]at z;exact .inr z
   ·rcases aah.mp hy with rfl | hy
    ·exact h3 n c (by rw[aaX,beq_self_eq_true])
    ·exact h2 y hy hf
   ·by_cases hx:x=n
    ·subst hx;exact h3 x c (by rw[aaX,beq_self_eq_true])
    ·have hx':(x == n)=false:=by simpa using hx
     exact h3 x c' (by rw[aaX,hx'];exact q)
  ·have hb:(k == NameKind.free)=false:=by simpa using hk
   obtain⟨cl,e,h1,h2,h3⟩:=lQ env r cs hr;refine⟨cl,?_,h1,fun y hy hf=>?_,h3⟩
   ·rw[List.forIn_cons];simp only[hb,aaU,if_false,pure_bind];exact e
   ·rcases aah.mp hy with rfl | hy
    ·exact absurd hf hk
    ·exact h2 y hy hf
theorem zW{env:Env}{scope:Scope}(h:∀y∈scope.names,y.2=.free->∃c,env.cells.lookup y.1=some c) :
  ∃cl,closureFor scope env=pure cl/\(∀x c,cl.lookup x=some c->env.cells.lookup x=some c)/\∀y∈scope.names,y.2=.free->∃c,cl.lookup y.1=some c:=by
 obtain⟨cl,e,h1,h2,_⟩:=lQ env scope.names [] h;refine⟨cl,?_,fun x c q=>(h1 x c q).elim id fun z=>by simp at z,h2⟩;unfold closureFor;have e':(forIn scope.names ([]:List (Str×Addr)) fun(x:Str×NameKind) (r:List (Str×Addr))=>(if (x.2 == NameKind.free)=true then do let c <- cellOf env x.1;pure (abr ((x.1,c)::r)) else pure (abr r):Sem (ForInStep (List (Str×Addr)))))=pure cl:=e
 first
  |(rw[show (forIn scope.names ([]:List (Str×Addr)) _:Sem (List (Str×Addr)))=pure cl from e'];rfl)
  |(simp only[e'];rfl)
theorem C_{prog:Program}{w:World}{A:Around}{R:Result->Shared->Prop}{s:Shared}{U0 target iter:Expr}{Sl:List Expr}{scope:Scope}{pos:Pos}{it KG:Value}{env:Env}(I:Nat->Shared->Prop)
  (turn:∀ n s,I n s→wpAny (model prog w) A (pyNext it) (fun r s₁=>match r with
   |none=>R (.ok .next) s₁
   | some v=>wpAny (model prog w) A (letOwnedTupleGo target it v) (fun _ s₁'=>wpAny (model prog w) A (assign target env v) (fun _ s₂=>
     wpAny (model prog w) A (forIn Sl true fun c r=>if r=true then do let ok ← isTrue c env (eval c env);pure (abr ok) else pure (abr r)) (fun ok s₃=>
      if ok=true then wpAny (model prog w) A (eval U0 env) (fun x s₄=>wpAny (model prog w) A (call (.builtin "list.append") [KG,x]) (fun _ s₅=>∃m,m<n/\I m s₅) (fun _ _=>False) s₄) (fun _ _=>False) s₃
      else ∃m,m<n/\I m s₃) (fun _ _=>False) s₂) (fun _ _=>False) s₁') (fun _ _=>False) s₁) (fun _ _=>False) s)
  (n:Nat) (h:I n s) :
  codeAny (model prog w) A (.compLoop (.ListComp U0 [⟨target,iter,Sl,0⟩] scope pos) 0 it KG env) R s:=by
 have no:∀{P:Value->Shared->Prop} (x:Value) (s':Shared),False->P x s':=fun _ _ f=>f.elim;refine codeAny_loop rfl I (fun n s hI=>?_) n h;show wpAny _ A ((compTurn (.ListComp U0 [⟨target,iter,Sl,0⟩] scope pos) 0 it KG env).onRaise (fun x=>do noteFrame x env;theTreesLotGoes x)) _ _ s;refine wpAny_noted ?_;rw[compTurn_list];refine wpAny_bind (wpAny_standAt (wpAny_bind (wpAny_mono (turn n s hI) (fun r s₁ h₁=>?_) no)));cases r with
 |none=>exact wpAny_pure h₁
 |some v=>
  refine wpAny_bind (wpAny_mono h₁ (fun _ s₁' h₁'=>?_) no);refine wpAny_bind (wpAny_mono h₁' (fun _ s₂ h₂=>wpAny_bind (wpAny_mono h₂ (fun ok s₃ h₃=>?_) no)) no);cases ok with
  |false=>exact wpAny_pure ⟨rfl,h₃⟩
  |true=>exact wpAny_bind (wpAny_bind (wpAny_mono h₃ (fun x s₄ h₄=>wpAny_bind (wpAny_mono h₄ (fun _ s₅ h₅=>wpAny_pure (wpAny_pure ⟨rfl,h₅⟩)) no)) no))
theorem jP(env:Env):∀(names:List (Str×NameKind)) (x:Str) (k:NameKind),
  (names.map fun(n,k)=>if (k == NameKind.free&&env.scope.kind == .function&&env.kindOf n == some .cell) then (n,acT) else (n,k)).lookup x=some k ->
  ∃k0,names.lookup x=some k0/\(k=k0\/(k0=.free/\k=.cell))
 |[],x,k,h=>by simp at h
 |(n,k1)::r,x,k,h=>by
  have h:List.lookup x ((if (k1 == NameKind.free&&env.scope.kind == .function&&env.kindOf n == some .cell)=true then (n,acT) else (n,k1))::r.map fun(n,k)=>if (k == NameKind.free&&env.scope.kind == .function&&env.kindOf n == some .cell) then (n,acT) else (n,k))=some k:=h;cases hx:x == n with
  |true=>
   by_cases hc:(k1 == NameKind.free&&env.scope.kind == .function&&env.kindOf n == some .cell)=true
   ·rw[if_pos hc,aaX,hx]at h;injection h with h
    have hk:k1=.free:=by simp only[aau,beq_iff_eq]at hc;exact hc.1.1
    exact⟨k1,by rw[aaX,hx],.inr ⟨hk,h.symm⟩⟩
   ·rw[if_neg hc,aaX,hx]at h;injection h with h
    exact⟨k1,by rw[aaX,hx],.inl h.symm⟩
  |false=>
   by_cases hc:(k1 == NameKind.free&&env.scope.kind == .function&&env.kindOf n == some .cell)=true
   ·rw[if_pos hc,aaX,hx]at h;obtain⟨k0,e,z⟩:=jP env r x k h;exact⟨k0,by rw[aaX,hx];exact e,z⟩
   ·rw[if_neg hc,aaX,hx]at h;obtain⟨k0,e,z⟩:=jP env r x k h;exact⟨k0,by rw[aaX,hx];exact e,z⟩
structure iH(X:Cx)(nm:List Str)(scope:Scope):Prop where
 kind:scope.kind=.function
 cell:∀y∈scope.names,y.2≠.cell
 names:∀y∈scope.names,y.2=.local->scope.names.lookup y.1=some .local
 free:∀y∈scope.names,y.2=.free->X.env.kindOf y.1=some .cell\/X.env.kindOf y.1=some .free
 apart:∀x∈nm,scope.names.lookup x≠some .local
 len:nm.length=X.N.length
 mask:∀(i:Nat) (x:Str),nm[i]?=some x->X.N[i]?=some x\/scope.names.lookup x=none
section
variable{X:Cx}{nm:List Str}{U0 tg iter:Expr}{Sl:List Expr}{scope:Scope}{pos:Pos}{own:List Str}{wi:TI}{g:TG}{tt:TT}{te:TE}
theorem Cd{BU:List (Addr×Obj)}{s2:Shared}{σ:L2.St}{H2:Hp}{cl:List (Str×Addr)}{it:Addr}{fp:List Addr}{tn:Nat->Heap->Prop}{J:It}{Q:VK}{E:Value->Shared->Prop}{RR:Value->Addr->Result->Shared->Prop}
  (hc:X.calm=true) (S:iH X nm scope) (zX:∀x c,cl.lookup x=some c->X.env.cells.lookup x=some c) (Kn:∀y∈scope.names,y.2=.free->∃c,cl.lookup y.1=some c)
  (hg:∀cl C s H fp,PG (b4 X nm scope own cl C s H fp) tg g) (ht:∀cl C s H fp,PTs (b4 X nm scope own cl C s H fp) Sl tt) (he:∀cl C s H fp,PE (b4 X nm scope own cl C s H fp) U0 te)
  (I2:Inv X BU σ H2 s2) (T:Turn X.prog X.w X.K tg J fp it tn) (st2:tn 0 s2.heap) (f2:∀b∈fp,BG X BU H2 b)
  (hR:∀ D,H2 D=none→∃ W:Nat→Nat→L2.St→Hp→Prop,
   (∃m,W 0 m (σ++Dp own.length none) (upd H2 D (.lst [])))/\∀i m σ' H',W i m σ' H' ->
    (J.stop i H'∧Q (.ref D) H')∨(J.go i H'∧∀ x H2,J.yld i H' x H2→g x σ' H2 fun σ2 H3=>tt σ2 H3 fun b H4=>if b=true
     then te σ2 H4 fun y H5=>∃KG,H5 D=some (.lst KG)/\KG.length<sizeLine/\∃m',m'<m/\W (i+1) m' σ2 (upd H5 D (.lst (KG++[y])))
     else ∃m',m'<m/\W (i+1) m' σ2 H4))
  (Zo:∀D C H6 s6,Inv X BU σ H6 s6->H6 C=none->C≠X.env.locals->X.s₀.heap.objs.size<=C->(∀x c,X.env.cells.lookup x=some c->c≠C)->(∀p∈X.pn++BU,p.1≠C)->(∃m,s6.heap.Ns C m)->Q (.ref D) H6->RR (.ref D) C (.ok .next) s6) :
  wpAny (model X.prog X.w) X.A (newList []) (fun KG s₃=>wpAny (model X.prog X.w) X.A (newFunctionEnv scope X.env.globals cl [] X.env.qual none .none (some X.env)) (fun cenv s₄=>codeAny (model X.prog X.w) X.A (.compStart (.ListComp U0 [⟨tg,iter,Sl,0⟩] scope pos) 0 (.ref it) KG { cenv with scope:=relabel scope X.env }) (RR KG cenv.locals) s₄) E s₃) E s2:=by
 have no:∀{P:Value->Shared->Prop} (x:Value) (s':Shared),False->P x s':=fun _ _ f=>f.elim;refine wpAny_newObj_type (wpAny_newFunctionEnv S.cell (by intro y hy;simp at hy) (fun h₁ hns₁ hsb₁=>?_) S.kind);dsimp only at hns₁ hsb₁ ⊢;have I3:Inv X BU σ (upd H2 s2.heap.objs.size (.lst [])) { s2 with heap:=s2.heap.push { cls:=.type "list",dict:=none,data:=.seq ([]:List Value).toArray } }:=I2.T6 (t':=s2.toks) (ys:=[]) (its:=[]) .nil (aaY _)
 generalize hG2:s2.heap.push { cls:=.type "list",dict:=none,data:=.seq ([]:List Value).toArray }=G2 at hns₁ hsb₁ I3 ⊢
 have hC:G2.objs.size=s2.heap.objs.size+1:=by rw[<- hG2,Heap.size_push]
 have up2:∀b o,s2.heap.get? b=some o->G2.get? b=some o:=fun b o e=>hG2▸aac _ e;have up3:∀b o,G2.get? b=some o->h₁.get? b=some o:=fun b o e=>hsb₁.extBut b o (aax (aad e)) (aac _ e);have Zp:G2.get? G2.objs.size=none:=Heap.get?_none_of_le (aab _);have fpo:∀b∈fp,∃o,s2.heap.get? b=some o:=fun b hb=>by obtain⟨o,e,_⟩:=T.obj 0 _ st2 b hb;exact⟨o,e⟩
 have fpC:∀b∈fp,b≠G2.objs.size:=fun b hb=>by obtain⟨o,e⟩:=fpo b hb;exact aax (aad (up2 b o e))
 have H3C:(upd H2 s2.heap.objs.size (.lst [])) G2.objs.size=none:=I3.hok.fresh (aab _);have fpD:∀b∈fp,b≠s2.heap.objs.size:=fun b hb=>by obtain⟨o,e⟩:=fpo b hb;exact aax (aad e)
 have W6:∀b∈fp,b∉frs X.stack:=fun b hb z=>by
  rcases aah.mp (I3.zJ b z) with y | y
  ·exact(f2 b hb).2.1 y
  ·exact(f2 b hb).2.2.1 y
 have ok':(b4 X nm scope own cl G2.objs.size { s2 with heap:=G2 } (upd H2 s2.heap.objs.size (.lst [])) fp).Ok:=by
  refine ⟨I3.ok.mod,S.kind,I3.ok.glob,I3.ok.blt,aab _,fun x y c e1 e2=>I3.ok.inj x y c (zX x c e1) (zX y c e2),fun x hx=>?_,fun x c z=>(nomatch z),I3.ok.hd,I3.ok.frames,.inl rfl,
   fun b hb=>⟨fpC b hb,fun x c e=>(f2 b hb).2.2.2.2.1 x c (zX x c e)⟩,fun b o e=>I3.bs b o e,aaE I3.ok.bsz I3.sz,fun b o e hb=>?_,fun b hb=>W6 b hb,I3.stack,I3.CS⟩
  ·have hx:(relabel scope X.env).names.lookup x=some .cell\/(relabel scope X.env).names.lookup x=some .free:=hx;have key:∀k,(relabel scope X.env).names.lookup x=some k->k≠.local->k=.cell\/k=.free->∃c,cl.lookup x=some c:=fun k hk _ hkk=>by
    obtain⟨k0,e0,z⟩:=jP X.env scope.names x k hk;have m0:=PySem.mem_of_lookup e0;have f0:k0=.free:=by
     rcases z with z | z
     ·subst z;rcases hkk with q | q
      ·exact absurd q (S.cell _ m0)
      ·exact q
     ·exact z.1
    exact Kn (x,k0) m0 f0
   rcases hx with hx | hx
   ·exact key _ hx (by decide) (.inl rfl)
   ·exact key _ hx (by decide) (.inr rfl)
  ·rcases (f2 b hb).2.2.2.1 with z | z
   ·exact I3.ok.Lb b o e z
   ·exact absurd (aam (aad e) (aaE I3.ok.bsz z)) (aaZ _)
 have stat:∀{H':Hp},(∀b∈fp,H' b=none)->∀b∈fp,BG (b4 X nm scope own cl G2.objs.size { s2 with heap:=G2 } (upd H2 s2.heap.objs.size (.lst [])) fp) [] H' b:=fun hn b hb=>⟨hn b hb,fpC b hb,W6 b hb,.inl hb,fun x c e=>(f2 b hb).2.2.2.2.1 x c (zX x c e),fun p hp=>(nomatch (show p∈([]:List (Addr×Obj)) from hp))⟩
 have I4:Inv (b4 X nm scope own cl G2.objs.size { s2 with heap:=G2 } (upd H2 s2.heap.objs.size (.lst [])) fp) [] (σ++Dp own.length none) (upd H2 s2.heap.objs.size (.lst [])) { s2 with heap:=h₁,toks:=s2.toks+([]:List (Str×Value)).length }:=by
  refine⟨ok',rfl,I3.bare,Un.kept up3,⟨_,hns₁,fun i x v e1 e2 e3=>?_⟩,fun x c e=>?_,H3C,fun x c e=>I3.jS x c (zX x c e),fun p hp=>(nomatch (show p∈([]:List (Addr×Obj)) from hp)),I3.hok.kept up3,?_⟩
  ·have e1:(nm++own)[i]?=some x:=e1;have hi:i<σ.length:=by
    by_cases hi:i<σ.length
    ·exact hi
    ·rw[aav (abV.mp hi),aaK]at e2;split at e2<;>cases e2
   rw[aae hi]at e2;rw[aae (by rw[S.len,<- I3.len];exact hi)]at e1;have key:∀k,(relabel scope X.env).names.lookup x=some k->k=.local\/k=.cell\/k=.free->scope.names.lookup x=some .free/\(k=.cell\/k=.free):=fun k hk hkk=>by
    obtain⟨k0,e0,z⟩:=jP X.env scope.names x k hk;have m0:=PySem.mem_of_lookup e0;have n1:k0≠.local:=fun y=>S.apart x (abe e1) (y▸e0);have n2:k0≠.cell:=S.cell _ m0;rcases z with z | z
    ·subst z;rcases hkk with q | q | q
     ·exact absurd q n1
     ·exact absurd q n2
     ·subst q;exact⟨e0,.inr rfl⟩
    ·obtain⟨z1,z2⟩:=z;subst z1;subst z2;exact⟨e0,.inl rfl⟩
   have hk:∃k,(relabel scope X.env).names.lookup x=some k/\(k=.cell\/k=.free)/\scope.names.lookup x=some .free:=by
    rcases (show (relabel scope X.env).names.lookup x=some .local\/(relabel scope X.env).names.lookup x=some .cell\/(relabel scope X.env).names.lookup x=some .free from e3) with q | q | q
    ·obtain⟨a,b⟩:=key _ q (.inl rfl);exact⟨_,q,b,a⟩
    ·obtain⟨a,b⟩:=key _ q (.inr (.inl rfl));exact⟨_,q,b,a⟩
    ·obtain⟨a,b⟩:=key _ q (.inr (.inr rfl));exact⟨_,q,b,a⟩
   obtain⟨k,hk1,hk2,hk3⟩:=hk;have m0:=PySem.mem_of_lookup hk3;obtain⟨c,hcc⟩:=Kn (x,.free) m0 rfl;obtain⟨m,hn,hl⟩:=I3.loc;have hout:=S.free (x,.free) m0 rfl;have Zq:Vis X.env.scope x:=by
    rcases hout with q | q
    ·exact .inr (.inl q)
    ·exact .inr (.inr q)
   have e1':X.N[i]?=some x:=by
    rcases S.mask i x e1 with z | z
    ·exact z
    ·rw[z]at hk3;cases hk3
   obtain⟨u,ru,lk⟩:=hl i x v e1' e2 Zq;refine⟨u,ru,.inr ⟨?_,c,hcc,?_⟩⟩
   ·rcases hk2 with q | q
    ·subst q;exact .inl hk1
    ·subst q;exact .inr hk1
   ·rcases lk with⟨q,_⟩ | ⟨_,c',e',z⟩
    ·rcases hout with y | y
     ·rw[q]at y;cases y
     ·rw[q]at y;cases y
    ·rw[zX x c hcc]at e';cases e';obtain⟨o,ho,hd⟩:=z;exact⟨o,up3 c o ho,hd⟩
  ·obtain⟨v,o,ho,hd⟩:=I3.cell x c (zX x c e);exact⟨v,o,up3 c o ho,hd⟩
  ·show (σ++Dp own.length none).length=(nm++own).length;rw[aan,aan,abx,I3.len,S.len]
 obtain⟨W,⟨m0,w0⟩,turn⟩:=hR s2.heap.objs.size I2.fresh;have st4:tn 0 h₁:=T.keep 0 _ _ st2 fun b hb o e=>up3 b o (up2 b o e);have Zr:∀b∈fp,(upd H2 s2.heap.objs.size (.lst [])) b=none:=fun b hb=>by rw[aM (fpD b hb)];exact(f2 b hb).1
 have U1:∀s₃:Shared,s₃={ s2 with heap:=h₁,toks:=s2.toks+([]:List (Str×Value)).length } ->
   codeAny (model X.prog X.w) X.A (.compLoop (.ListComp U0 [⟨tg,iter,Sl,0⟩] scope pos) 0 (.ref it) (.ref s2.heap.objs.size) (compEnvC scope cl G2.objs.size X.env))
    (RR (.ref s2.heap.objs.size) G2.objs.size) s₃:=by
  rintro s₃ rfl;refine C_ (fun n s'=>∃i σ' H',Inv (b4 X nm scope own cl G2.objs.size { s2 with heap:=G2 } (upd H2 s2.heap.objs.size (.lst [])) fp) [] σ' H' s'/\tn i s'.heap/\(∀b∈fp,H' b=none)/\W i n σ' H') ?_ m0
   ⟨0,_,_,I4,st4,Zr,w0⟩
  rintro n s5 ⟨i,σ5,H5,I5,st5,fr5,w5⟩;rcases turn i n σ5 H5 w5 with⟨stop,q⟩ | ⟨go,step⟩
  ·refine wpAny_mono (T.done (b4 X nm scope own cl G2.objs.size { s2 with heap:=G2 } (upd H2 s2.heap.objs.size (.lst [])) fp) rfl rfl rfl hc i [] s5 σ5 H5 (fun _ _=>False) I5 (stat fr5) st5 stop) (fun r s6 hr6=>?_) no;obtain⟨hr,I6⟩:=hr6;subst hr;have I7:Inv X BU σ H5 s6:=I3.Wg (ch:=fp) I6.os I6.base I6.hok I6.bare fun b hb=>⟨(f2 b hb).2.2.2.1,(f2 b hb).2.1,(f2 b hb).2.2.2.2.1,(f2 b hb).2.2.2.2.2⟩;refine Zo _ _ H5 s6 I7 I6.free (ab2 (show X.env.locals<G2.objs.size from I3.lt)) I3.sz (fun x c e=>?_) (fun p hp=>?_) (let ⟨m,hn,_⟩:=I6.loc;⟨m,hn⟩) q
   ·obtain⟨v,z⟩:=I3.cell x c e;exact aax z.lt
   ·exact aax (aad (I3.pin p hp).1)
  ·refine wpAny_mono (T.item (b4 X nm scope own cl G2.objs.size { s2 with heap:=G2 } (upd H2 s2.heap.objs.size (.lst [])) fp) rfl rfl rfl hc i [] s5 σ5 H5 (fun _ _=>False) I5 (stat fr5) st5 go) (fun r s6 hr6=>?_) no;obtain⟨u,hr,h6⟩:=hr6;subst hr;refine wpAny_mono h6 (fun _ s7 h7=>?_) no;obtain⟨x,H7,I7,r7,y7,st7,fr7⟩:=h7;have I7':=I7.pinned (stat fr7) (T.obj _ _ st7);have again:∀{s9:Shared} {σ9:L2.St} {H9:Hp} {m':Nat},m'<n->Inv (b4 X nm scope own cl G2.objs.size { s2 with heap:=G2 } (upd H2 s2.heap.objs.size (.lst [])) fp) ([]++zL fp s7.heap) σ9 H9 s9->W (i+1) m' σ9 H9 ->
     ∃m,m<n/\∃i σ' H',Inv (b4 X nm scope own cl G2.objs.size { s2 with heap:=G2 } (upd H2 s2.heap.objs.size (.lst [])) fp) [] σ' H' s9/\tn i s9.heap/\(∀b∈fp,H' b=none)/\W i m σ' H':=fun {s9 σ9 H9 m'} hm I9 w9=>by
    refine⟨m',hm,i+1,σ9,H9,I9.uM,T.keep _ _ _ st7 fun b hb o e=>(I9.pin (b,o) (aaG _ (aaG _ (m6 hb e)))).1,fun b hb=>?_,w9⟩;obtain⟨o,e,d⟩:=T.obj _ _ st7 b hb;exact(I9.pin (b,o) (aaG _ (aaG _ (m6 hb e)))).2.1
   refine wpAny_mono (hg cl G2.objs.size _ _ fp _ s7 σ5 H7 x u _ I7' r7 (step x H7 y7)) (fun _ s8 h8=>?_) no;obtain⟨σ8,H8,I8,q8⟩:=h8;refine wpAny_mono (ht cl G2.objs.size _ _ fp _ s8 σ8 H8 _ I8 q8) (fun b s9 h9=>?_) no;obtain⟨H9,I9,q9⟩:=h9;cases b with
   |false=>rw[if_neg aaz]at q9 ⊢;obtain⟨m',hm,w9⟩:=q9;exact again hm I9 w9
   |true=>rw[if_pos rfl]at q9 ⊢;refine wpAny_mono (he cl G2.objs.size _ _ fp _ s9 σ8 H9 _ I9 q9) (fun y s10 h10=>?_) no;obtain⟨yv,H10,I10,r10,KG,hacc,Fp,m',hm,w10⟩:=h10;refine wpAny_mono (wc (X:=b4 X nm scope own cl G2.objs.size { s2 with heap:=G2 } (upd H2 s2.heap.objs.size (.lst [])) fp) _ s10 σ8 H10 (.ref s2.heap.objs.size) [yv] (.ref s2.heap.objs.size) [y] (fun _ H'=>H'=upd H10 s2.heap.objs.size (.lst (KG++[yv]))) I10 rfl (.cons r10 .nil) ⟨_,KG,yv,rfl,rfl,hacc,Fp,rfl⟩) (fun _ s11 h11=>?_) no;obtain⟨_,H11,I11,_,e11⟩:=h11;subst e11;exact again hm I11 w10
 exact codeAny_compStart_list (U1 _ rfl) (T.self _ 0 _ _ _ st4 (U1 _ rfl))
theorem IE(hc:X.calm=true)(S:iH X nm scope)(hi:PI X tg iter wi)
  (hg:∀cl C s H fp,PG (b4 X nm scope own cl C s H fp) tg g) (ht:∀cl C s H fp,PTs (b4 X nm scope own cl C s H fp) Sl tt) (he:∀cl C s H fp,PE (b4 X nm scope own cl C s H fp) U0 te)
  (hs:∀x,foldedSetIterable iter X.env x=pure x:=by intro _;rfl):PE X (.ListComp U0 [⟨tg,iter,Sl,0⟩] scope pos) (tLC wi own.length g tt te):=by
 intro BU s σ H Q I h;obtain⟨cl,hclos,zX,Kn⟩:=zW (env:=X.env) (scope:=scope) fun y hy hf=>I.ok.has y.1 (S.free y hy hf);rw[eval_ListComp];refine wpAny_comprehension_free (use:=none) rfl hs hclos S.kind S.names (thn (hi BU s σ H _ I h) fun v s1 h1=>thn h1 fun itv s2 h2=>?_);obtain⟨it,fp,tn,J,H2,e,I2,T,st2,f2,hR⟩:=h2;subst e;refine Cd (Q:=Q) (RR:=fun KG C=>compPost (model X.prog X.w) X.A X.xe none (EP X BU σ Q) KG C) hc S zX Kn hg ht he I2 T st2 f2 hR ?_;intro D C H6 s6 I6 hCn hCL hCs hCc hCp hns q;obtain⟨m,hn⟩:=hns;refine⟨m,hn,fun h' hs'=>⟨.ref D,H6,I6.turned (t':=s6.toks) (fun b o hb e=>(hs'.2 b hb).trans e) hCn hCL (.inr hCs) hCc hCp,rfl,q⟩⟩
theorem jU{i:Nat}{y:Str}{py R4:Pos}(hN:X.N.Nodup)(hi':X.N[i]?=some y)(hy:Loc X.env.scope y)(hc:X.calm=true)(S:iH X nm scope)(hi:PI X tg iter wi)
  (hg:∀cl C s H fp,PG (b4 X nm scope own cl C s H fp) tg g) (ht:∀cl C s H fp,PTs (b4 X nm scope own cl C s H fp) Sl tt) (he:∀cl C s H fp,PE (b4 X nm scope own cl C s H fp) U0 te)
  (hsw:swapsWith (.ListComp U0 [⟨tg,iter,Sl,0⟩] scope pos) (some (.Name y py)) R4.line X.env=pure true:=by rfl)
  (hs:∀x,foldedSetIterable iter X.env x=pure x:=by intro _;rfl) (hf:X.fn y=true\/X.env.scope.names.lookup y=some .local:=by trivial) :
  PS X (.Assign [.Name y py] (.ListComp U0 [⟨tg,iter,Sl,0⟩] scope pos) R4) (Ef (tLC wi own.length g tt te) (nX i)):=by
 intro BU s σ H Dn I h;obtain⟨cl,hclos,zX,Kn⟩:=zW (env:=X.env) (scope:=scope) fun y hy hf=>I.ok.has y.1 (S.free y hy hf);rw[exec_Assign_Name_used _ _ _ _ hsw];refine wpAny_bind (wpAny_standAt (wpAny_bind ?_));show wpAny _ X.A (do let _ <- comprehension (.ListComp U0 [⟨tg,iter,Sl,0⟩] scope pos) scope X.env _ (newList []) false (eval iter X.env) (some (assign (.Name y py) X.env))) _ _ s;refine wpAny_bind (wpAny_mono (wpAny_comprehension_free (use:=some (assign (.Name y py) X.env)) (Q:=fun _ s'=>SP X BU Dn .next s') rfl hs hclos S.kind S.names
  (thn (hi BU s σ H _ I h) fun v s1 h1=>thn h1 fun itv s2 h2=>?_)) (fun _ s' hq=>wpAny_pure (wpAny_pure hq)) fun _ _ e=>e)
 obtain⟨it,fp,tn,J,H2,e,I2,T,st2,f2,hR⟩:=h2;subst e;refine Cd (Q:=fun x H1=>nX i x σ H1 Dn.nx) (RR:=fun KG C=>compPost (model X.prog X.w) X.A X.xe (some (assign (.Name y py) X.env)) (fun _ s'=>SP X BU Dn .next s') KG C) hc S zX Kn hg ht he I2 T st2 f2 hR ?_;intro D C H6 s6 I6 hCn hCL hCs hCc hCp hns q;obtain⟨m,hn⟩:=hns;show wpAny _ X.A (assign (.Name y py) X.env (.ref D)) _ _ _;refine wpAny_assign_Name (v8 I6 hN hi' hy (v:=.ref D) rfl (fun s7 I7 h7=>?_) hf);obtain⟨a,sb,ha⟩:=h7;have hCa:C≠a:=by
  rcases ha with ha | ha
  ·rw[ha];exact hCL
  ·exact Ne.symm (hCc y a ha)
 refine⟨m,hn.sameBut sb hCa,fun h' hs'=>⟨_,H6,I7.turned (t':=s7.toks) (fun b o hb e=>(hs'.2 b hb).trans e) hCn hCL (.inr hCs) hCc hCp,q⟩⟩
end
mutual
noncomputable def toPy:Dat->PyData
 |.non=>.none
 |.bl b=>.bool b
 |.int i=>.int i
 |.str s=>.str ⟨s.toArray⟩
 |.tup xs=>.tuple (gq xs)
 |.lst xs=>.list (gq xs)
 |.dct _ _=>.dict []
 |.dcp _ _=>.dict []
 |.exc _=>.dict []
 |.jA _ _=>.dict []
 |.fn _=>.dict []
noncomputable def gq:List Dat->List PyData
 |[]=>[]
 |x::xs=>toPy x::gq xs
end
mutual
theorem uU:∀a b:Dat,aa8 (toPy a) (toPy b)=Dm.eqD a b
 |.non,b=>by cases b<;>simp[toPy,aa8,Dm.eqD]
 |.bl x,b=>by cases b<;>simp[toPy,aa8,Dm.eqD,Dm.b2i]
 |.int x,b=>by cases b<;>simp[toPy,aa8,Dm.eqD,Dm.b2i]
 |.str x,b=>by
  cases b with
  |str y=>
   simp only[toPy,aa8,Dm.eqD];rw[aci];simp only[beq_iff_eq];constructor
   ·intro h;have h:=congrArg (fun s:Str=>s.cps.toList) h
    simpa using h
   ·rintro rfl;rfl
  |_=>simp[toPy,aa8,Dm.eqD]
 |.tup xs,b=>by
  cases b with
  |tup ys=>simp only[toPy,aa8,Dm.eqD];exact wk xs ys
  |_=>simp[toPy,aa8,Dm.eqD]
 |.lst xs,b=>by
  cases b with
  |lst ys=>simp only[toPy,aa8,Dm.eqD];exact wk xs ys
  |_=>simp[toPy,aa8,Dm.eqD]
 |.dct ks vs,b=>by cases b<;>simp[toPy,aa8,Dm.eqD]
 |.dcp ks vs,b=>by cases b<;>simp[toPy,aa8,Dm.eqD]
 |.exc C,b=>by cases b<;>simp[toPy,aa8,Dm.eqD]
 |.jA C v,b=>by cases b<;>simp[toPy,aa8,Dm.eqD]
 |.fn C,b=>by cases b<;>simp[toPy,aa8,Dm.eqD]
theorem wk:∀a b:List Dat,acv (gq a) (gq b)=Dm.yC a b
 |[],b=>by cases b<;>simp[gq,acv,Dm.yC]
 |x::xs,b=>by
  cases b with
  |nil=>simp[gq,acv,Dm.yC]
  |cons y ys=>simp only[gq,acv,Dm.yC];rw[uU x y,wk xs ys]
end
theorem L6{s:List Nat}(h:(s.all fun c=>decide (c<128))=true):PyData.strOk ⟨s.toArray⟩=true:=by unfold PyData.strOk;rw[Array.all_eq_true'];intro c hc;have h1:=aa1.mp h c (by simpa using hc);have h2:c<128:=of_decide_eq_true h1;exact decide_eq_true (by lia)
theorem gu{P:Program}{w:World}{H:Hp}{h:Heap}(ok:HOk P w H h):∀(n:Nat),
  (∀(v:V) (d:Dat) (u:Value),Rep H v d->RelV v u->Dm.okD n d=true->∃as,Reads h u (toPy d) as/\(toPy d).canLay0=true/\(toPy d).depth<=n) /\
  (∀(vs:List V) (ds:List Dat) (us:List Value),bg H vs ds->Vals vs us->ds.all (Dm.okD n)=true->∃as,ReadsAll h us (gq ds) as/\acB (gq ds)=true/\abA (gq ds)<=n):=by
 intro n
 induction n with
 |zero=>
  have one:∀(v:V) (d:Dat) (u:Value),Rep H v d->RelV v u->Dm.okD 0 d=true->∃as,Reads h u (toPy d) as/\(toPy d).canLay0=true/\(toPy d).depth<=0:=by
   intro v d u r rv k;cases r with
   |non=>cases rv;exact⟨_,.none,rfl,aab _⟩
   |bl b=>cases rv;exact⟨_,.bool b,rfl,aab _⟩
   |int i=>obtain⟨t,rfl⟩:=rv;exact⟨_,.int i t,rfl,aab _⟩
   |str s=>obtain⟨t,rfl⟩:=rv;exact⟨_,.str _ t,L6 k,aab _⟩
   |tup _ _=>cases k
   |lst _ _=>cases k
   |dct _ _ _=>cases k
   |dcp _ _ _=>cases k
   |exc _=>cases k
   |jA _ _=>cases k
   |fn _=>cases k
  refine⟨one,fun vs ds=>?_⟩
  induction ds generalizing vs with
  |nil=>intro us r rv _;cases r;cases rv;exact⟨_,.nil,rfl,aab _⟩
  |cons d ds ih=>
   intro us r rv k;cases r with
   |cons r rs=>
    cases rv with
    |cons q qs=>rw[acU,aau]at k;obtain⟨a1,h1,h2,h3⟩:=one _ _ _ r q k.1;obtain⟨a2,h4,h5,h6⟩:=ih _ _ rs qs k.2;exact⟨_,.cons h1 h4,by simp[gq,acB,h2,h5],by simp only[gq,abA];lia⟩
 |succ n ih=>
  have one:∀(v:V) (d:Dat) (u:Value),Rep H v d->RelV v u->Dm.okD (n+1) d=true->∃as,Reads h u (toPy d) as/\(toPy d).canLay0=true/\(toPy d).depth<=n+1:=by
   intro v d u r rv k;cases r with
   |non=>cases rv;exact⟨_,.none,rfl,aaY _⟩
   |bl b=>cases rv;exact⟨_,.bool b,rfl,aaY _⟩
   |int i=>obtain⟨t,rfl⟩:=rv;exact⟨_,.int i t,rfl,aaY _⟩
   |str s=>obtain⟨t,rfl⟩:=rv;exact⟨_,.str _ t,L6 k,aaY _⟩
   |tup q rs=>cases rv;obtain⟨z,its,vr,ob,e,hc,m,hd⟩:=ok _ _ q;obtain⟨as,h1,h2,h3⟩:=ih.2 _ _ _ rs vr k;exact⟨_,.tuple e hc hd h1,h2,by simp only[toPy,PyData.depth];lia⟩
   |lst q rs=>cases rv;obtain⟨z,its,m,vr,e⟩:=q.ok ok;obtain⟨as,h1,h2,h3⟩:=ih.2 _ _ _ rs vr k;exact⟨_,.list e rfl rfl h1,h2,by simp only[toPy,PyData.depth];lia⟩
   |dct _ _ _=>cases k
   |dcp _ _ _=>cases k
   |exc _=>cases k
   |jA _ _=>cases k
   |fn _=>cases k
  refine⟨one,fun vs ds=>?_⟩
  induction ds generalizing vs with
  |nil=>intro us r rv _;cases r;cases rv;exact⟨_,.nil,rfl,aaY _⟩
  |cons d ds ih=>
   intro us r rv k;cases r with
   |cons r rs=>
    cases rv with
    |cons q qs=>rw[acU,aau]at k;obtain⟨a1,h1,h2,h3⟩:=one _ _ _ r q k.1;obtain⟨a2,h4,h5,h6⟩:=ih _ _ rs qs k.2;exact⟨_,.cons h1 h4,by simp[gq,acB,h2,h5],by simp only[gq,abA];lia⟩
theorem rF.full{H0 H:Hp}(s:aO H0 H){v:V}{d:Dat}(r:rF H0 H v d):Rep H v d:=by
 rcases r with r | ⟨a,rfl,w⟩
 ·exact r.mono s
 ·cases d with
  |lst ds=>obtain⟨xs,q,rs⟩:=w;exact .lst (.inl q) (rs.mono s)
  |dct ks ds=>obtain⟨kvs,q,e,rs⟩:=w;exact .dct q e (rs.mono s)
  |dcp ks ds=>obtain⟨kvs,q,e,rs⟩:=w;exact .dcp q (e.mono s) (rs.mono s)
  |_=>exact aat w
def Pp(neg:Bool):R2:=fun x y H Q=>∃dx dy,Rep H x dx/\Rep H y dy/\Dm.okD 8 dx=true/\Dm.okD 8 dy=true/\Q (.bl (if neg then !Dm.eqD dx dy else Dm.eqD dx dy)) H
section
variable{X:Cx}
section
variable{k:Nat}
theorem L7(hr:b9 k X.A):OpR X (compareOp .Eq) (Pp false):=by intro BU s σ H x y v u Q I rx ry h;obtain⟨dx,dy,r1,r2,k1,k2,q⟩:=h;obtain⟨as,h1,h2,h3⟩:=(gu I.hok 8).1 x dx v r1 rx k1;obtain⟨bs,h4,h5,h6⟩:=(gu I.hok 8).1 y dy u r2 ry k2;have hu:=hr.units;refine PySem.SeqAt.compareEq_reads h1 h4 h2 h5 (by lia) ?_;rw[uU];exact⟨.bl (Dm.eqD dx dy),H,I,rfl,q⟩
theorem L8(hr:b9 k X.A):OpR X (compareOp .NotEq) (Pp true):=by intro BU s σ H x y v u Q I rx ry h;obtain⟨dx,dy,r1,r2,k1,k2,q⟩:=h;obtain⟨as,h1,h2,h3⟩:=(gu I.hok 8).1 x dx v r1 rx k1;obtain⟨bs,h4,h5,h6⟩:=(gu I.hok 8).1 y dy u r2 ry k2;have hu:=hr.units;refine PySem.SeqAt.compareNe_reads h1 h4 h2 h5 (by lia) ?_;rw[uU];exact⟨.bl (!Dm.eqD dx dy),H,I,rfl,q⟩
def Pq(neg:Bool):R2:=fun x y H Q=>∃dx ds,Rep H x dx/\(Rep H y (.lst ds)\/Rep H y (.tup ds))/\Dm.okD 8 dx=true/\ds.all (Dm.okD 7)=true/\Q (.bl (if neg then !Dm.inD dx ds else Dm.inD dx ds)) H
theorem oO(x:Dat):∀ds:List Dat,((gq ds).any fun y=>aa8 y (toPy x))=Dm.inD x ds
 |[]=>rfl
 |d::ds=>by have:=oO x ds;unfold Dm.inD at this ⊢;simp only[gq,abc,uU];rw[this]
theorem L_(hr:b9 k X.A):OpR X (compareOp .In) (Pq false):=by
 intro BU s σ H x y v u Q I rx ry h;obtain⟨dx,ds,r1,r2,k1,k2,q⟩:=h;obtain⟨as,h1,h2,h3⟩:=(gu I.hok 8).1 x dx v r1 rx k1;have hu:=hr.units;rcases r2 with r2 | r2
 ·obtain⟨bs,h4,h5,h6⟩:=(gu I.hok 8).1 y (.lst ds) u r2 ry k2;have h6:abA (gq ds)+1<=8:=h6;refine PySem.SeqAt.in_list_reads h4 h1 h5 h2 (by lia) ?_;rw[oO];exact⟨.bl (Dm.inD dx ds),H,I,rfl,q⟩
 ·obtain⟨bs,h4,h5,h6⟩:=(gu I.hok 8).1 y (.tup ds) u r2 ry k2;have h6:abA (gq ds)+1<=8:=h6;refine PySem.SeqAt.in_tuple_reads h4 h1 h5 h2 (by lia) ?_;rw[oO];exact⟨.bl (Dm.inD dx ds),H,I,rfl,q⟩
theorem Ko(hr:b9 k X.A):OpR X (compareOp .NotIn) (Pq true):=by
 intro BU s σ H x y v u Q I rx ry h;obtain⟨dx,ds,r1,r2,k1,k2,q⟩:=h;obtain⟨as,h1,h2,h3⟩:=(gu I.hok 8).1 x dx v r1 rx k1;have hu:=hr.units;rcases r2 with r2 | r2
 ·obtain⟨bs,h4,h5,h6⟩:=(gu I.hok 8).1 y (.lst ds) u r2 ry k2;have h6:abA (gq ds)+1<=8:=h6;refine PySem.SeqAt.notIn_list_reads h4 h1 h5 h2 (by lia) ?_;rw[oO];exact⟨.bl (!Dm.inD dx ds),H,I,rfl,q⟩
 ·obtain⟨bs,h4,h5,h6⟩:=(gu I.hok 8).1 y (.tup ds) u r2 ry k2;have h6:abA (gq ds)+1<=8:=h6;refine PySem.SeqAt.notIn_tuple_reads h4 h1 h5 h2 (by lia) ?_;rw[oO];exact⟨.bl (!Dm.inD dx ds),H,I,rfl,q⟩
end
end
section
variable{H0 H:Hp}{ds:List Dat}{v:V}
theorem bw{i:Int}(r:rF H0 H v (.int i)):v=.int i:=by
 rcases r with r | ⟨a,_,w⟩
 ·exact Rep.isInt r
 ·exact aat w
theorem Pr{b:Bool}(r:rF H0 H v (.bl b)):v=.bl b:=by
 rcases r with r | ⟨a,_,w⟩
 ·exact Rep.C7 r
 ·exact aat w
theorem cT(s:aO H0 H)(r:rF H0 H v (.lst ds)):∃a xs,v=.ref a/\Rd H a (.lst xs)/\bg H0 xs ds:=by
 rcases r with r | ⟨a,e,xs,q,rs⟩
 ·cases r with
  |lst q rs=>exact⟨_,_,rfl,aO.rd s q,rs⟩
 ·exact⟨a,xs,e,.inl q,rs⟩
theorem mR(s:aO H0 H)(r:rF H0 H v (.tup ds)):∃a xs,v=.ref a/\H a=some (.tup xs)/\bg H0 xs ds:=by
 rcases r with r | ⟨a,_,w⟩
 ·cases r with
  |tup q rs=>exact⟨_,_,rfl,s _ _ q,rs⟩
 ·exact aat w
theorem Ug:OpD (rI0 fun i j=>.int (i-j)) Dm.uL:=by
 intro H0 H x y dx dy z Q s rx ry e k;unfold Dm.uL at e;split at e
 ·cases e;cases bw rx;cases bw ry;exact⟨_,_,rfl,rfl,k _ H0 H (bG.refl s) (.int _)⟩
 ·cases e
theorem RL:OpD (rI0 fun i j=>.bl (decide (i<j))) Dm.gLt:=by
 intro H0 H x y dx dy z Q s rx ry e k;unfold Dm.gLt at e;split at e
 ·cases e;cases bw rx;cases bw ry;exact⟨_,_,rfl,rfl,k _ H0 H (bG.refl s) (.bl _)⟩
 ·cases e
theorem Ma:OpD (rI0 fun i j=>.bl (decide (i<=j))) Dm.gLe:=by
 intro H0 H x y dx dy z Q s rx ry e k;unfold Dm.gLe at e;split at e
 ·cases e;cases bw rx;cases bw ry;exact⟨_,_,rfl,rfl,k _ H0 H (bG.refl s) (.bl _)⟩
 ·cases e
theorem W7:OpD (rI0 fun i j=>.bl (decide (j<i))) Dm.gGt:=by
 intro H0 H x y dx dy z Q s rx ry e k;unfold Dm.gGt at e;split at e
 ·cases e;cases bw rx;cases bw ry;exact⟨_,_,rfl,rfl,k _ H0 H (bG.refl s) (.bl _)⟩
 ·cases e
theorem W8:OpD (rI0 fun i j=>.bl (decide (j<=i))) Dm.gGe:=by
 intro H0 H x y dx dy z Q s rx ry e k;unfold Dm.gGe at e;split at e
 ·cases e;cases bw rx;cases bw ry;exact⟨_,_,rfl,rfl,k _ H0 H (bG.refl s) (.bl _)⟩
 ·cases e
theorem Uh:OpD (rI (fun _ j=>0<j) fun i j=>.int (i % j)) Dm.yE:=by
 intro H0 H x y dx dy z Q s rx ry e k;unfold Dm.yE at e;split at e
 ·split at e
  ·rename_i hj;cases e;cases bw rx;cases bw ry;exact⟨_,_,rfl,rfl,hj,k _ H0 H (bG.refl s) (.int _)⟩
  ·cases e
 ·cases e
theorem Ui:OpD (rI Ww fun i j=>.int (i ^ j.toNat)) Dm.C4:=by
 intro H0 H x y dx dy z Q s rx ry e k;unfold Dm.C4 at e;split at e
 ·split at e
  ·rename_i hj;cases e;cases bw rx;cases bw ry;exact⟨_,_,rfl,rfl,⟨hj.1,hj.2.1,Nat.lt_trans hj.2.2 (by decide)⟩,k _ H0 H (bG.refl s) (.int _)⟩
  ·cases e
 ·cases e
end
section
variable{X:Cx}
def RM(i j:Int):Prop:=0<j/\j<Dm.yD
theorem Mb:OpR X (binaryOp .FloorDiv) (rI RM fun i j=>.int (i / j)):=opI fun i j _ _ _ _ _ hc q=>by
 have h:j.natAbs.log2<9000:=by
  have h1:j.natAbs<2 ^ 200:=by
   have:=hc.2;unfold Dm.yD at this;have h2:=hc.1;have e:(2:Nat) ^ 200=1606938044258990275541962092341162602522202993782792835301376:=by decide +kernel
   omega
  have h3:j.natAbs≠0:=by have:=hc.1;omega
  have:=(Nat.log2_lt h3).mpr h1;omega
 have e:i.fdiv j=i / j:=Int.fdiv_eq_ediv_of_nonneg i (Int.le_of_lt hc.1);rw[<- e]at q;exact floordiv_int (Int.ne_of_gt hc.1) q (.inl (PyProof.noPylong_of_log2 h))
end
theorem Uj:OpD (rI RM fun i j=>.int (i / j)) Dm.GN:=by
 intro H0 H x y dx dy z Q s rx ry e k;unfold Dm.GN at e;split at e
 ·split at e
  ·rename_i hj;cases e;cases bw rx;cases bw ry;exact⟨_,_,rfl,rfl,hj,k _ H0 H (bG.refl s) (.int _)⟩
  ·cases e
 ·cases e
theorem Uk:UnD (rU fun i=>.int (-i)) Dm.Pj:=by
 intro H0 H x dx z Q s rx e k;unfold Dm.Pj at e;split at e
 ·cases e;cases bw rx;exact⟨_,rfl,k _ H0 H (bG.refl s) (.int _)⟩
 ·cases e
def Mc:R2:=fun x y H Q=>∃l b xs zs,x=.ref l/\y=.ref b/\Rd H l (.lst xs)/\Rd H b (.lst zs)/\xs.length+zs.length<=sizeLine/\∀p,H p=none->Q (.ref p) (upd H p (.lst (xs++zs)))
def Me:R2:=fun x y H Q=>∃l k xs,x=.ref l/\y=.int k/\Rd H l (.lst xs)/\-(2 ^ 63)<=k/\k<2 ^ 63/\xs.length*k.toNat<=sizeLine /\
 ∀p,H p=none->Q (.ref p) (upd H p (.lst (Dp k.toNat xs).flatten))
section
variable{X:Cx}
theorem Pu:OpR X (binaryOp .Add) Mc:=by
 intro BU s σ H x y v u Q I rx ry h;obtain⟨l,b,xs,zs,rfl,rfl,hH,hB,hz,q⟩:=h;cases rx;cases ry;obtain⟨z,its,n,r,e⟩:=hH.ok I.hok;obtain⟨z2,its2,n2,r2,e2⟩:=hB.ok I.hok;have hl:=r.length;have hl2:=r2.length;refine PySem.P.add_list e e2 ?_ (by rw[aai,aai];lia);have ea:its.toArray++its2.toArray=(its++its2).toArray:=by simp
 rw[ea];exact⟨.ref _,_,I.T6 (t':=s.toks) (r.append r2) (by rw[aan];lia),rfl,q _ I.fresh⟩
theorem Pw:OpR X (binaryOp .Mult) Me:=by
 intro BU s σ H x y v u Q I rx ry h;obtain⟨l,k,xs,rfl,rfl,hH,h1,h2,hz,q⟩:=h;cases rx;obtain⟨t,rfl⟩:=ry;obtain⟨z,its,n,r,e⟩:=hH.ok I.hok;have hl:=r.length;have Fp:its.toArray.size*k.toNat<=sizeLine:=by rw[aai,<- hl];exact hz
 have hcap:¬its.toArray.size*k.toNat>(2 ^ 63-1) / 8:=by
  have:(sizeLine:Nat)<=(2 ^ 63-1) / 8:=by decide
  lia
 have hfit:¬(!Builtin.List.listFitsIndex k)=true:=by rw[fitsIndex_both h1 h2];exact aaz
 have W9:¬abI (its.toArray.size*k.toNat)=true:=by rw[El Fp];exact aaz
 have hnew:ac2 (fun x1 x2=>x1++x2) #[] (Dp (if its.toArray.isEmpty=true then 0 else k.toNat) its.toArray)=(Dp k.toNat its).flatten.toArray:=by
  have f0:∀m:Nat,ac2 (fun x1 x2=>x1++x2) #[] (Dp m its.toArray)=(Dp m its).flatten.toArray:=fun m=>by have:=foldl_rep its m [];rw[abO]at this;exact this
  rw[f0];cases its with
  |nil=>simp
  |cons a r'=>rw[if_neg (by simp)]
 refine wpAny_binaryOp_repeat_ref (T := "list") (U := "int") (by decide) ⟨_,e,rfl⟩ (fun s'=>typeIs_int s' k t) noFill_list_mul F.fills_int_mul F.slot_int_rmul repeat_list F.slot_int_index.lookup
  (call_meets F.slot_int_rmul (typeIs_int s k t) F.entry_int_rmul (F.args_int_rmul_2 _ _) (int___rmul___int_list k t l its.toArray n)
   ⟨e,rfl,⟨_,e,rfl⟩,call_meets F.slot_list_mul ⟨_,e,rfl⟩ F.entry_list_mul (F.args_list_mul_2 _ _) (AutoListH.list___mul___list_int_3 l its.toArray n k t hfit hcap W9) ⟨e,?_⟩⟩)
 rw[hnew];exact⟨.ref _,_,I.T6 (t':=s.toks) (r.rep k.toNat) (by rw[len_rep,Nat.mul_comm];exact hz),rfl,q _ I.fresh⟩
theorem Px:OpR X (binaryOp .Add) (fun x y H Q=>rI0 (fun i j=>.int (i+j)) x y H Q\/Mc x y H Q):=Tw.or Pu
theorem Py:OpR X (binaryOp .Mult) (fun x y H Q=>rI Lp (fun i j=>.int (i*j)) x y H Q\/Me x y H Q):=TF.or Pw
end
theorem Ul:OpD (fun x y H Q=>rI0 (fun i j=>.int (i+j)) x y H Q\/Mc x y H Q) Dm.cQ:=by
 intro H0 H x y dx dy z Q s rx ry e k;unfold Dm.cQ at e;split at e
 ·cases e;cases bw rx;cases bw ry;exact .inl ⟨_,_,rfl,rfl,k _ H0 H (bG.refl s) (.int _)⟩
 ·split at e
  ·rename_i hz;cases e;obtain⟨a,us,rfl,qa,ra⟩:=cT s rx;obtain⟨b,ws,rfl,qb,rb⟩:=cT s ry;refine .inr ⟨a,b,us,ws,rfl,rfl,qa,qb,by rw[ra.length,rb.length];exact zu hz,fun p hp=>?_⟩;exact k _ _ _ (bG.uQ s hp) ⟨p,rfl,hp,s.free hp,_,aQ,ra.append rb⟩
  ·cases e
 ·cases e
theorem Um:OpD (fun x y H Q=>rI Lp (fun i j=>.int (i*j)) x y H Q\/Me x y H Q) Dm.oJ:=by
 intro H0 H x y dx dy z Q s rx ry e k;unfold Dm.oJ at e;split at e
 ·split at e
  ·rename_i hj;cases e;cases bw rx;cases bw ry;exact .inl ⟨_,_,rfl,rfl,hj,k _ H0 H (bG.refl s) (.int _)⟩
  ·cases e
 ·split at e
  ·rename_i hz;cases e;cases bw ry;obtain⟨a,us,rfl,qa,ra⟩:=cT s rx;obtain⟨h1,h2,h3⟩:=hz;unfold Dm.BIG at h1 h2;refine .inr ⟨a,_,us,rfl,rfl,qa,by lia,by lia,by rw[ra.length];exact zu h3,fun p hp=>?_⟩;exact k _ _ _ (bG.uQ s hp) ⟨p,rfl,hp,s.free hp,_,aQ,ra.rep _⟩
  ·cases e
 ·cases e
theorem RN:OpD (Pp false) Dm.gEq:=by
 intro H0 H x y dx dy z Q s rx ry e k;unfold Dm.gEq at e;split at e
 ·rename_i hk;rw[aau]at hk;cases e;exact⟨dx,dy,rx.full s,ry.full s,hk.1,hk.2,k _ H0 H (bG.refl s) (.bl _)⟩
 ·cases e
theorem RO:OpD (Pp true) Dm.gNe:=by
 intro H0 H x y dx dy z Q s rx ry e k;unfold Dm.gNe at e;split at e
 ·rename_i hk;rw[aau]at hk;cases e;exact⟨dx,dy,rx.full s,ry.full s,hk.1,hk.2,k _ H0 H (bG.refl s) (.bl _)⟩
 ·cases e
theorem RP:OpD (Pq false) Dm.gIn:=by
 intro H0 H x y dx dy z Q s rx ry e k;unfold Dm.gIn at e;split at e
 ·split at e
  ·rename_i hk;rw[aau]at hk;cases e;exact⟨dx,_,rx.full s,.inl (ry.full s),hk.1,hk.2,k _ H0 H (bG.refl s) (.bl _)⟩
  ·cases e
 ·split at e
  ·rename_i hk;rw[aau]at hk;cases e;exact⟨dx,_,rx.full s,.inr (ry.full s),hk.1,hk.2,k _ H0 H (bG.refl s) (.bl _)⟩
  ·cases e
 ·cases e
theorem Mf:OpD (Pq true) Dm.kX:=by
 intro H0 H x y dx dy z Q s rx ry e k;unfold Dm.kX at e;split at e
 ·split at e
  ·rename_i hk;rw[aau]at hk;cases e;exact⟨dx,_,rx.full s,.inl (ry.full s),hk.1,hk.2,k _ H0 H (bG.refl s) (.bl _)⟩
  ·cases e
 ·split at e
  ·rename_i hk;rw[aau]at hk;cases e;exact⟨dx,_,rx.full s,.inr (ry.full s),hk.1,hk.2,k _ H0 H (bG.refl s) (.bl _)⟩
  ·cases e
 ·cases e
theorem IF{H0:Hp}{xs:List V}{ds:List Dat}{i:Int}{d:Dat}(rs:bg H0 xs ds)(e:Dm.atI ds i=some d):∃v,L2.atI xs i=some v/\Rep H0 v d:=by
 unfold Dm.atI at e;cases q:Dm.ixN ds.length i with
 |none=>rw[q]at e;cases e
 |some j=>rw[q]at e;obtain⟨v,hv,r⟩:=rs.get (i:=j) e;refine⟨v,?_,r⟩;unfold L2.atI;rw[rs.length];have q':L2.ixN ds.length i=some j:=q;rw[q'];exact hv
theorem W_{K:Dk}:OpD (fun x y H Q=>TY K x y H Q\/WE K x y H Q) Dm.gIx:=by
 intro H0 H x y dx dy z Q s rx ry e k;unfold Dm.gIx at e;split at e
 ·rename_i ds i;cases q:Dm.atI ds i with
  |none=>rw[q]at e;cases e
  |some d=>rw[q]at e;cases e;cases bw ry;obtain⟨a,us,rfl,qa,ra⟩:=cT s rx;obtain⟨v,hv,rv⟩:=IF ra q;exact .inl ⟨a,us,i,v,rfl,rfl,.inl qa,hv,k _ H0 H (bG.refl s) rv⟩
 ·rename_i ds i;cases q:Dm.atI ds i with
  |none=>rw[q]at e;cases e
  |some d=>rw[q]at e;cases e;cases bw ry;obtain⟨a,us,rfl,qa,ra⟩:=mR s rx;obtain⟨v,hv,rv⟩:=IF ra q;exact .inr ⟨a,us,i,v,rfl,rfl,.inl (.inl qa),hv,k _ H0 H (bG.refl s) rv⟩
 ·cases e
theorem Uo{K:Dk}:CallD (fun xs H Q=>∃p ys,xs=[.ref p]/\(SqL K H p ys\/SqT K H p ys)/\Q (.int ys.length) H) Dm.lP:=by
 intro H0 H vs ds z Q s rs e k;unfold Dm.lP at e;split at e
 ·cases e;cases rs with
  |cons r rr=>cases rr;obtain⟨a,us,rfl,qa,ra⟩:=cT s r;exact⟨a,us,rfl,.inl (.inl qa),k _ H0 H (bG.refl s) (by rw[ra.length];exact .int _)⟩
 ·cases e;cases rs with
  |cons r rr=>cases rr;obtain⟨a,us,rfl,qa,ra⟩:=mR s r;exact⟨a,us,rfl,.inr (.inl (.inl qa)),k _ H0 H (bG.refl s) (by rw[ra.length];exact .int _)⟩
 ·cases e
theorem PB:CallD (fun xs H Q=>∃i j,xs=[.int i,.int j]/\Q (.int (if j<i then j else i)) H) Dm.Cb:=by
 intro H0 H vs ds z Q s rs e k;unfold Dm.Cb at e;split at e
 ·cases e;cases rs with
  |cons r rr=>
   cases rr with
   |cons r' rr=>cases rr;cases bw r;cases bw r';exact⟨_,_,rfl,k _ H0 H (bG.refl s) (.int _)⟩
 ·cases e
theorem PD:CallD (fun xs H Q=>∃i j,xs=[.int i,.int j]/\Q (.int (if j>i then j else i)) H) Dm.Cc:=by
 intro H0 H vs ds z Q s rs e k;unfold Dm.Cc at e;split at e
 ·cases e;cases rs with
  |cons r rr=>
   cases rr with
   |cons r' rr=>cases rr;cases bw r;cases bw r';exact⟨_,_,rfl,k _ H0 H (bG.refl s) (.int _)⟩
 ·cases e
theorem PF{K:Dk}:CallD (fun xs H Q=>∃p ys,xs=[.ref p]/\(SqL K H p ys\/SqT K H p ys)/\∀l,H l=none->Q (.ref l) (upd H l (.lst ys))) Dm.xV:=by
 intro H0 H vs ds z Q s rs e k;unfold Dm.xV at e;split at e
 ·cases e;cases rs with
  |cons r rr=>cases rr;obtain⟨a,us,rfl,qa,ra⟩:=cT s r;exact⟨a,us,rfl,.inl (.inl qa),fun p hp=>k _ _ _ (bG.uQ s hp) ⟨p,rfl,hp,s.free hp,_,aQ,ra⟩⟩
 ·cases e;cases rs with
  |cons r rr=>cases rr;obtain⟨a,us,rfl,qa,ra⟩:=mR s r;exact⟨a,us,rfl,.inr (.inl (.inl qa)),fun p hp=>k _ _ _ (bG.uQ s hp) ⟨p,rfl,hp,s.free hp,_,aQ,ra⟩⟩
 ·cases e
theorem Mg{K:Dk}:CallD (fun xs H Q=>∃p ys,xs=[.ref p]/\((SqL K H p ys/\∀l,H l=none->Q (.ref l) (upd H l (.tup ys)))\/(SqT K H p ys/\Q (.ref p) H))) Dm.rD:=by
 intro H0 H vs ds z Q s rs e k;unfold Dm.rD at e;split at e
 ·cases e;cases rs with
  |cons r rr=>cases rr;obtain⟨a,us,rfl,qa,ra⟩:=cT s r;refine⟨a,us,rfl,.inl ⟨.inl qa,fun p hp=>?_⟩⟩;have g:=bG.Kh (o:=HO.tup us) s hp;exact k _ _ _ g (.tup aQ (ra.mono g.s0))
 ·cases e;cases rs with
  |cons r rr=>
   cases rr;rcases r with r | ⟨a,_,w⟩
   ·cases r with
    |tup q rs=>exact⟨_,_,rfl,.inr ⟨.inl (.inl (s _ _ q)),k _ H0 H (bG.refl s) (.tup q rs)⟩⟩
   ·exact aat w
 ·cases e
noncomputable abbrev DS(X:Cx)(st:Stmt)(f:FS):Prop:=PS X st (tDS f)
noncomputable abbrev DSs(X:Cx)(st:List Stmt)(f:FS):Prop:=PSs X st (tDS f)
noncomputable abbrev DI(X:Cx)(tg it:Expr)(f:Dm.FI):Prop:=PI X tg it (tDI f)
theorem PI.weak{X:Cx}{tg it:Expr}{t t':TI}(h:PI X tg it t)(k:∀σ H R,t' σ H R->t σ H R):PI X tg it t':=fun BU s σ H R I q=>h BU s σ H R I (k σ H R q)
section
variable{X:Cx}{a b c e:Expr}{fa fb fc f:FE}{pos:Pos}
section
variable{g:Dat->Dat->Option RV}{k:Nat}{r:List V->Hp->VK->Prop}{HJ:List Expr}{x:Str}
theorem d_v(i:Nat)(hN:X.N[i]?=some x:=by rfl)(hv:Vis X.env.scope x:=by trivial)(hd:(x == ("__debug__" : Str))=false:=by decide)
  (R1:(x == ("__classdict__" : Str))=false:=by decide):DE X (.Name x pos) (Dm.eV i):=PE.weak (kT hN hv hd R1) fun _ _ _=>WL
theorem d_i{i:Int}{j}:DE X (.Constant (.int i) j pos) (Dm.eC (.int i)):=PE.weak S9 fun _ _ _=>uR fun _=>.int i
theorem d_b{v:Bool}{j}:DE X (.Constant (.bool v) j pos) (Dm.eC (.bl v)):=PE.weak Wh fun _ _ _=>uR fun _=>.bl v
theorem d_n{j}:DE X (.Constant .none j pos) (Dm.eC .non):=PE.weak S_ fun _ _ _=>uR fun _=>.non
theorem d_s{s:List Nat}{j}(hx:x=⟨s.toArray⟩:=by rfl):DE X (.Constant (.str x) j pos) (Dm.eC (.str s)):=by subst hx;exact PE.weak Tc fun _ _ _=>uR fun _=>.str s
theorem Kp{op:Operator}{r:R2}(o:OpR X (binaryOp op) r)(od:OpD r g)(ha:DE X a fa)(hb:DE X b fb):DE X (.BinOp a op b pos) (Dm.e2 g fa fb):=
 PE.weak (Wq o ha hb) fun _ _ _=>C6 od
theorem c_(ha:DE X a fa)(hb:DE X b fb):DE X (.BinOp a .Add b pos) (Dm.e2 Dm.cQ fa fb):=Kp Px Ul ha hb
theorem zY(ha:DE X a fa)(hb:DE X b fb):DE X (.BinOp a .Sub b pos) (Dm.e2 Dm.uL fa fb):=Kp Tz Ug ha hb
theorem qU(ha:DE X a fa)(hb:DE X b fb):DE X (.BinOp a .Mult b pos) (Dm.e2 Dm.oJ fa fb):=Kp Py Um ha hb
theorem RQ(ha:DE X a fa)(hb:DE X b fb):DE X (.BinOp a .FloorDiv b pos) (Dm.e2 Dm.GN fa fb):=Kp Mb Uj ha hb
theorem zZ(ha:DE X a fa)(hb:DE X b fb):DE X (.BinOp a .Mod b pos) (Dm.e2 Dm.yE fa fb):=Kp TH Uh ha hb
theorem IG(ha:DE X a fa)(hb:DE X b fb):DE X (.BinOp a .Pow b pos) (Dm.e2 Dm.C4 fa fb):=Kp TJ Ui ha hb
theorem Xa(ha:DE X a fa):DE X (.UnaryOp .USub a pos) (Dm.e1 Dm.Pj fa):=PE.weak (Wu TL ha) fun _ _ _=>Zi Uk
theorem Ce{op:CmpOp}{r:R2}(o:OpR X (compareOp op) r)(od:OpD r g)(ha:DE X a fa)(hb:DE X b fb)(hm:behindInMarks op b=false):DE X (.Compare a [op] [b] pos) (Dm.e2 g fa fb):=
 PE.weak (O4 o ha hb hm) fun _ _ _=>C6 od
theorem uV{op:CmpOp}{r:R2}(o:OpR X (compareOp op) r)(od:OpD r g)(ha:DE X a fa)(hb:DE X b fb)(hm:behindInMarks op b=false):DT X (.Compare a [op] [b] pos) (Dm.tV (Dm.e2 g fa fb)):=
 PT.weak (O5 o ha hb hm) fun σ H Q h=>C6 od (zT h)
theorem Kq(hr:b9 k X.A)(ha:DE X a fa)(hb:DE X b fb):DE X (.Compare a [.Eq] [b] pos) (Dm.e2 Dm.gEq fa fb):=Ce (L7 hr) RN ha hb (j7 _)
theorem Zs(hr:b9 k X.A)(ha:DE X a fa)(hb:DE X b fb):DE X (.Compare a [.NotEq] [b] pos) (Dm.e2 Dm.gNe fa fb):=Ce (L8 hr) RO ha hb (j7 _)
theorem Zt(ha:DE X a fa)(hb:DE X b fb):DE X (.Compare a [.Lt] [b] pos) (Dm.e2 Dm.gLt fa fb):=Ce RD RL ha hb (j7 _)
theorem Zu(ha:DE X a fa)(hb:DE X b fb):DE X (.Compare a [.LtE] [b] pos) (Dm.e2 Dm.gLe fa fb):=Ce Lq Ma ha hb (j7 _)
theorem LF(hr:b9 k X.A)(ha:DE X a fa)(hb:DE X b fb)(hm:behindInMarks .In b=false:=by rfl):DE X (.Compare a [.In] [b] pos) (Dm.e2 Dm.gIn fa fb):=Ce (L_ hr) RP ha hb hm
theorem uW(hr:b9 k X.A)(ha:DE X a fa)(hb:DE X b fb):DT X (.Compare a [.Eq] [b] pos) (Dm.tV (Dm.e2 Dm.gEq fa fb)):=uV (L7 hr) RN ha hb (j7 _)
theorem BK(hr:b9 k X.A)(ha:DE X a fa)(hb:DE X b fb):DT X (.Compare a [.NotEq] [b] pos) (Dm.tV (Dm.e2 Dm.gNe fa fb)):=uV (L8 hr) RO ha hb (j7 _)
theorem PJ(ha:DE X a fa)(hb:DE X b fb):DT X (.Compare a [.Lt] [b] pos) (Dm.tV (Dm.e2 Dm.gLt fa fb)):=uV RD RL ha hb (j7 _)
theorem Xc(ha:DE X a fa)(hb:DE X b fb):DT X (.Compare a [.Gt] [b] pos) (Dm.tV (Dm.e2 Dm.gGt fa fb)):=uV Wx W7 ha hb (j7 _)
theorem Zv(ha:DE X a fa)(hb:DE X b fb):DT X (.Compare a [.GtE] [b] pos) (Dm.tV (Dm.e2 Dm.gGe fa fb)):=uV Wy W8 ha hb (j7 _)
theorem Up(hr:b9 k X.A)(ha:DE X a fa)(hb:DE X b fb)(hm:behindInMarks .In b=false:=by rfl):DT X (.Compare a [.In] [b] pos) (Dm.tV (Dm.e2 Dm.gIn fa fb)):=uV (L_ hr) RP ha hb hm
theorem EB(hr:b9 k X.A)(ha:DE X a fa)(hb:DE X b fb)(hm:behindInMarks .NotIn b=false:=by rfl):DT X (.Compare a [.NotIn] [b] pos) (Dm.tV (Dm.e2 Dm.kX fa fb)):=uV (Ko hr) Mf ha hb hm
theorem bK(ha:DE X a fa)(hb:DE X b fb)(hs:CW b:=by intro _ _;rfl):DE X (.Subscript a b pos) (Dm.e2 Dm.gIx fa fb):=PE.weak (RI (Iq.or TZ) ha hb hs) fun _ _ _=>C6 W_
theorem aj:DA X [] []:=PA.weak oz fun _ _ _=>WM
theorem aa{es:List Expr}{fs:List FE}(h:DE X e f)(r:DA X es fs)(hs:starEach (e::es) X.env=(false,eval e X.env)::starEach es X.env:=by rfl):DA X (e::es) (f::fs):=PA.weak (kD h r hs) fun _ _ _=>T_
theorem iB{es:List Expr}{fs:List FE}{x1}(h:DA X es fs):DE X (.Tuple es x1 pos) (Dm.gm fs):=PE.weak (TR h) fun _ _ _=>WO
theorem cU{es:List Expr}{fs:List FE}(h:DA X es fs):DE X (.List es pos) (Dm.gp fs):=PE.weak (GC h) fun _ _ _=>WQ
theorem GS{es:List Expr}{fs:List FE}{g:List Dat->Option RV}{id:String}{p:Pos}(hc:iz X (.builtin id) r)(cd:CallD r g)(hv:bootBuiltins x=some (.builtin id))(hg:Gl X x)(hm:X.mg x=none)(ha:DA X (e::es) fs)
  (hn:x ≠ "__name__" := by decide) (XW:(x == ("__debug__" : Str))=false:=by decide) (he:starEach (e::es) X.env=(false,eval e X.env)::starEach es X.env:=by rfl) (KD:(backTo pos (starEach es X.env)).any (·.1)=false:=by rfl) :
  DE X (.Call (.Name x p) (e::es) [] pos) (Dm.eB g fs):=PE.weak (oA hc hg hm hv ha hn XW he KD) fun _ _ _=>WN cd
theorem Mh{es:List Expr}{fs:List FE}{g:List Dat->Option RV}{T:String}{p:Pos}(hc:iz X (.type T) r)(cd:CallD r g)(hv:bootBuiltins x=some (.type T))(hg:Gl X x)(hm:X.mg x=none)(ha:DA X (e::es) fs)
  (hn:x ≠ "__name__" := by decide) (XW:(x == ("__debug__" : Str))=false:=by decide) (he:starEach (e::es) X.env=(false,eval e X.env)::starEach es X.env:=by rfl) (KD:(backTo pos (starEach es X.env)).any (·.1)=false:=by rfl) :
  DE X (.Call (.Name x p) (e::es) [] pos) (Dm.eB g fs):=PE.weak (B9 hc hg hm hv ha hn XW he KD) fun _ _ _=>WN cd
variable{es:List Expr}{fs:List FE}{p:Pos}
theorem kY(hg:Gl X "len")(hm:X.mg "len" = none)(ha:DA X [e] fs)(he:starEach [e] X.env=[(false,eval e X.env)]:=by rfl)(KD:(backTo pos (starEach [] X.env)).any (·.1)=false:=by rfl):DE X (.Call (.Name "len" p) [e] [] pos) (Dm.eB Dm.lP fs):=GS CZ Uo PySem.boot_len hg hm ha (he:=he) (KD:=KD)
theorem Mi(hc:X.calm=true)(hg:Gl X "min")(hm:X.mg "min" = none)(ha:DA X [a,b] fs)(he:starEach [a,b] X.env=(false,eval a X.env)::starEach [b] X.env:=by rfl)(KD:(backTo pos (starEach [b] X.env)).any (·.1)=false:=by rfl):DE X (.Call (.Name "min" p) [a,b] [] pos) (Dm.eB Dm.Cb fs):=GS (JY hc) PB (by rfl) hg hm ha (he:=he) (KD:=KD)
theorem Mj(hc:X.calm=true)(hg:Gl X "max")(hm:X.mg "max" = none)(ha:DA X [a,b] fs)(he:starEach [a,b] X.env=(false,eval a X.env)::starEach [b] X.env:=by rfl)(KD:(backTo pos (starEach [b] X.env)).any (·.1)=false:=by rfl):DE X (.Call (.Name "max" p) [a,b] [] pos) (Dm.eB Dm.Cc fs):=GS (JX hc) PD (by rfl) hg hm ha (he:=he) (KD:=KD)
theorem GU(hg:Gl X "list")(hm:X.mg "list" = none)(ha:DA X [e] fs)(he:starEach [e] X.env=[(false,eval e X.env)]:=by rfl)(KD:(backTo pos (starEach [] X.env)).any (·.1)=false:=by rfl):DE X (.Call (.Name "list" p) [e] [] pos) (Dm.eB Dm.xV fs):=Mh C0 PF (by rfl) hg hm ha (he:=he) (KD:=KD)
theorem II(hg:Gl X "tuple")(hm:X.mg "tuple" = none)(ha:DA X [e] fs)(he:starEach [e] X.env=[(false,eval e X.env)]:=by rfl)(KD:(backTo pos (starEach [] X.env)).any (·.1)=false:=by rfl):DE X (.Call (.Name "tuple" p) [e] [] pos) (Dm.eB Dm.rD fs):=Mh BJ Mg (by rfl) hg hm ha (he:=he) (KD:=KD)
theorem bu{F:Addr}{fd:FuncData}{ps:List Str}{g:List Dat->Option RV}(G:bI X.prog X.w X.K X.mg X.base CX0 k F fd ps (spD g))(hr:b9 k X.A)(hg:Gl X x)(hm:X.mg x=some (.ref F))(hk:aaW X.K (.ref F)=true)(hb:Binds X.K fd ps [])
  (ha:DA X (e::es) fs) (XW:(x == ("__debug__" : Str))=false:=by decide) (he:starEach (e::es) X.env=(false,eval e X.env)::starEach es X.env:=by rfl) (KD:(backTo pos (starEach es X.env)).any (·.1)=false:=by rfl) :
  DE X (.Call (.Name x p) (e::es) [] pos) (Dm.eF g fs):=PE.weak (zq G hr hg hm hk hb .nil (En (X:=X)) ha XW he KD) fun _ _ _=>LU
theorem Xd{t:FT}{q:Expr}(hq:DT X q t)(ha:DE X a fa)(hb:DE X b fb):DE X (.IfExp q a b pos) (Dm.eIf t fa fb):=PE.weak (Lc hq ha hb) fun _ _ _=>Zj
theorem xW{op}(h:DE X a fa):DE X (.BoolOp op [a] pos) fa:=Tf h
theorem qV(ha:DE X a fa)(hb:DE X (.BoolOp .And (b::HJ) pos) fb):DE X (.BoolOp .And (a::b::HJ) pos) (Dm.oH fa fb):=PE.weak (Tg ha hb) fun _ _ _=>WS
theorem Xe(ha:DE X a fa):DE X (.UnaryOp .Not a pos) (Dm.Kd fa):=PE.weak (Th ha) fun _ _ _=>WU
noncomputable abbrev DW(X:Cx)(e:Expr)(f:FT):Prop:=PW X e (tDT f)
theorem PW.weak{t t':TT}(h:PW X e t)(k:∀σ H Q,t' σ H Q->t σ H Q):PW X e t':=fun whole BU s σ H Q I q=>h whole BU s σ H Q I (k σ H Q q)
variable{ta tb:FT}
theorem wo(h:DT X a ta):DW X (.BoolOp .And [a] pos) ta:=pw_and1 h
theorem Cf(h:DT X a ta):DW X (.BoolOp .Or [a] pos) ta:=pw_or1 h
theorem w_and(ha:DT X a ta)(hb:DW X (.BoolOp .And (b::HJ) pos) tb):DW X (.BoolOp .And (a::b::HJ) pos) (Dm.rB ta tb):=PW.weak (pw_and ha hb) fun _ _ _=>Ub
theorem w_or(ha:DT X a ta)(hb:DW X (.BoolOp .Or (b::HJ) pos) tb):DW X (.BoolOp .Or (a::b::HJ) pos) (Dm.tOr ta tb):=PW.weak (pw_or ha hb) fun _ _ _=>WV
theorem t_w(h:DW X a ta):DT X a ta:=h.pt
theorem z0(h:DT X a ta):DT X (.UnaryOp .Not a pos) (Dm.qK ta):=PT.weak (Te h) fun _ _ _=>Ua
theorem uX(h:DE X e f)(he:∀whole,isTrue e X.env whole=(do let v <- whole;standAt e.pos;holding [v] (truthy v)):=by intro _;rfl):DT X e (Dm.tV f):=PT.weak (Td h he) fun _ _ _=>zT
variable{tg:Expr}
theorem BL(hg:Gl X "range")(hm:X.mg "range" = none)(ha:DA X [a] [fa])(hs:starEach [a] X.env=[(false,eval a X.env)]:=by rfl):DI X tg (.Call (.Name "range" p) [a] [] pos) (Dm.iR1 fa):=
 PI.weak (JT hg hm ha hs) fun _ _ _=>W3
theorem Xf(hg:Gl X "range")(hm:X.mg "range" = none)(ha:DA X [a,b] [fa,fb])(hs:starEach [a,b] X.env=[(false,eval a X.env),(false,eval b X.env)]:=by rfl)(hs2:starEach [b] X.env=[(false,eval b X.env)]:=by rfl):DI X tg (.Call (.Name "range" p) [a,b] [] pos) (Dm.iR2 fa fb):=
 PI.weak (JU hg hm ha hs hs2) fun _ _ _=>W4
end
end
section
variable{X:Cx}{st:Stmt}{HJ:List Stmt}{fs gs:FS}{e a b c:Expr}{f fa fb:FE}{pos:Pos}
section
variable{is:List Nat}{body:List Stmt}{x:Str}{es:List Expr}{t:FT}
theorem iC:DSs X [] Dm.sNx:=PSs.weak Ii fun _ _ _=>Zk
theorem aq(h1:DS X st fs)(h2:DSs X HJ gs):DSs X (st::HJ) (Dm.aR fs gs):=PSs.weak (kU h1 h2) fun _ _ _=>WW
theorem aL(h1:DS X st fs):DSs X [st] fs:=Ij h1
theorem s_a(i:Nat){x:Str}{pos':Pos}(hN:X.N.Nodup)(he:DE X e f)(hi:X.N[i]?=some x:=by rfl)(hx:Loc X.env.scope x:=by trivial)(hs:swapsWith e (some (.Name x pos')) pos.line X.env=pure false:=by rfl)
  (hf:X.fn x=true\/X.env.scope.names.lookup x=some .local:=by trivial):DS X (.Assign [.Name x pos'] e pos) (Dm.sA i f):=PS.weak (Tt hN hi hx he hs hf) fun _ _ _=>LW
theorem lR:PGs X [] (oN []):=O0
theorem bS(i:Nat){px:Pos}(hN:X.N.Nodup)(h2:PGs X es (oN is))(hi:X.N[i]?=some x:=by rfl)(hx:Loc X.env.scope x:=by trivial)
  (hf:X.fn x=true\/X.env.scope.names.lookup x=some .local:=by trivial) (hs:(assignEach (.Name x px::es) X.env).map (·.2)=assign (.Name x px) X.env::(assignEach es X.env).map (·.2):=by rfl):PGs X (.Name x px::es) (oN (i::is)):=Lg (CT hN hi hx hf) h2 hs
theorem s_e(he:DE X e f)(hs:swapsWith e none pos.line X.env=pure false:=by rfl):DS X (.Expr e pos) (Dm.sE f):=PS.weak (uK he hs) fun _ _ _=>Uc
theorem s_r(he:DE X e f):DS X (.Return (some e) pos) (Dm.sR f):=PS.weak (Ti he) fun _ _ _=>WX
theorem j9{x y:List Stmt}(ht:DT X c t)(ha:DSs X x fs)(hb:DSs X y gs):DS X (.If c x y pos) (Dm.sIf t fs gs):=PS.weak (Le ht ha hb) fun _ _ _=>WY
theorem IJ:DS X st (fun _=>none):=PS.weak Lf fun _ _ _ ⟨_,_,_,_,z,_⟩=>by cases z
theorem IK(i:Nat){px ap cp:Pos}(he:DE X e f)(hi:X.N[i]?=some x:=by rfl)(hv:Vis X.env.scope x:=by trivial)(hd:(x == ("__debug__" : Str))=false:=by decide)
  (R1:(x == ("__classdict__" : Str))=false:=by decide) (XZ:attributeBase (.Name x px) "append" X.env (eval (.Name x px) X.env)=eval (.Name x px) X.env:=by rfl)
  (hfew:((backTo cp (starEach [e] X.env)).all (fun x=>!x.1)&&(backToKw cp (keywordEach [] X.env)).all (fun x=>x.1.isSome)
   && decide ([e].length+([]:List Keyword).length+(if ([]:List Keyword).isEmpty then 0 else 1)<30))=true:=by rfl)
  (XY:(ap.endLine == cp.line)=true:=by rfl) (hs:starEach [e] X.env=(false,eval e X.env)::starEach [] X.env:=by rfl) (R5:(backTo cp (starEach [] X.env)).any (·.1)=false:=by rfl)
  (hsw:swapsWith (.Call (.Attribute (.Name x px) "append" ap) [e] [] cp) none pos.line X.env=pure false:=by rfl) :
  DS X (.Expr (.Call (.Attribute (.Name x px) "append" ap) [e] [] cp) pos) (Dm.C3 i f):=
 PS.weak (uK (Ir abM PySem.F.slot_list_append PySem.F.type_list_append wc (kT hi hv hd R1) (aa he aj hs) XZ hfew XY hs R5) hsw) fun _ _ _=>WZ
theorem Xg(i:Nat){j:Expr}{fj:FE}{px sp:Pos}(hj:DE X j fj)(he:DE X e f)(hi:X.N[i]?=some x:=by rfl)(hv:Vis X.env.scope x:=by trivial)(hd:(x == ("__debug__" : Str))=false:=by decide)
  (R1:(x == ("__classdict__" : Str))=false:=by decide) (ha:∀ v,assign (.Subscript (.Name x px) j sp) X.env v=(do
   let ov <- holding [v] (eval (.Name x px) X.env)
   let iv <- holding [v,ov] (eval j X.env)
   standAt sp
   holding [v,ov,iv] (setItem ov iv v)
   release [v,ov,iv] []):=by intro _;rfl)
  (hs:swapsWithSole [.Subscript (.Name x px) j sp] e pos.line X.env=pure false:=by rfl) (hw:swappedStores [.Subscript (.Name x px) j sp] e X.env=pure none:=by rfl) (h1:(assignEach [.Subscript (.Name x px) j sp] X.env).map (·.2)=[assign (.Subscript (.Name x px) j sp) X.env]:=by rfl) :
  DS X (.Assign [.Subscript (.Name x px) j sp] e pos) (Dm.Ke i fj f):=PS.weak (Tq he (Tp (kT hi hv hd R1) hj set_list ha) hs hw h1) fun _ _ _=>W0
theorem Uq(n:Nat)(hp:PassesOwn (model X.prog X.w) X.A X.env X.xe)(ht:DT X c t)(hb:DSs X body fs):DS X (.While c body [] pos) (Dm.whD t fs n):=PS.weak (Lj hp ht hb) fun _ _ _=>Pk
structure TG'(X:Cx)(tg:Expr)(is:List Nat)(bd:Dm.FB):Prop where
 ex:∃g,PG X tg g/\BD is g bd
theorem g_n(i:Nat){px:Pos}(hN:X.N.Nodup)(hi:X.N[i]?=some x:=by rfl)(hx:Loc X.env.scope x:=by trivial)(hf:X.fn x=true\/X.env.scope.names.lookup x=some .local:=by trivial) :
  TG' X (.Name x px) [i] (Dm.bN i):=⟨⟨_,CT hN hi hx hf,ID i⟩⟩
theorem g_t{k:Nat}{tpos:Pos}(hc:X.calm=true)(hg:PGs X es (oN is))(hn:(assignEach es X.env).length=is.length:=by rfl)(hst:(assignEach es X.env).findIdx? (·.1)=none:=by rfl):TG' X (.Tuple es k tpos) is (Dm.bT is):=
 ⟨⟨_,Lh hc hg hn hst,LX is rfl⟩⟩
theorem jV{tg it:Expr}{fi:Dm.FI}{bd:Dm.FB}(hp:PassesOwn (model X.prog X.w) X.A X.env X.xe)(hc:X.calm=true)(hi:DI X tg it fi)(hg:TG' X tg is bd)(hb:DSs X body fs)
  (hs:∀x,foldedSetIterable it X.env x=pure x:=by intro _;rfl):DS X (.For tg it body [] pos) (Dm.kW fi bd fs):=by
 obtain⟨g,h1,h2⟩:=hg.ex;exact PS.weak (Lo hp hc hi h1 hb hs) fun _ _ _=>W2 h2
end
end
noncomputable def tyName:Dat->String
 |.non => "NoneType"
 |.bl _ => "bool"
 |.int _ => "int"
 |.str _ => "str"
 |.tup _ => "tuple"
 |.lst _ => "list"
 |.dct _ _ => "dict"
 |.dcp _ _ => "dict"
 |.exc _ => "dict"
 |.jA _ _ => "dict"
 |.fn _ => "dict"
def Mk(T:String)(p:Dat->Bool):Prop:=∀(K:Dk) (d:Dat),eg K (.type (tyName d)) (.type T)=some (p d)
theorem PK:Mk "int" Dm.isI:=fun K d=>by cases d<;>rfl
theorem Ml:Mk "bool" Dm.isB:=fun K d=>by cases d<;>rfl
theorem kit_tuple:Mk "tuple" Dm.isT:=fun K d=>by cases d<;>rfl
theorem Mm{K:Dk}{H:Hp}{v:V}{d:Dat}(r:Rep H v d)(nx:∀C,d≠.exc C/\d≠.fn C/\∀v,d≠.jA C v):uN K H v (.type (tyName d)):=by
 cases r with
 |non=>exact .non
 |bl b=>exact .bl b
 |int i=>exact .int i
 |str s=>exact .str _
 |tup q _=>exact .tup q
 |lst q _=>
  rcases q with q | ⟨o,q⟩
  ·exact .lst q
  ·exact .frz q
 |dct q _ _=>exact .dK q
 |dcp q _ _=>exact .dT q
 |exc _=>exact absurd rfl (nx _).1
 |jA _ _=>exact absurd rfl ((nx _).2.2 _)
 |fn _=>exact absurd rfl (nx _).2.1
def Xh(K:Dk)(T:String):List V->Hp->VK->Prop:=fun xs H Q=>∃x t b,xs=[x,.ty T]/\uN K H x t/\eg K t (.type T)=some b/\Q (.bl b) H
section
variable{X:Cx}{e:Expr}{f:FE}{p p2 pos:Pos}
theorem Mn{T:String}:iz X (.builtin "isinstance") (Xh X.K T):=by intro BU s σ H xs us Q I r h;obtain⟨x,t,b,rfl,ty,e,q⟩:=h;obtain⟨u,u2,rfl,rx,ry⟩:=vals2 r;cases ry;exact J0 I rx ty e fun tk=>⟨.bl b,H,I.tok tk,rfl,q⟩
theorem Xi{K:Dk}{T:String}{p:Dat->Bool}(kp:Mk T p){σ:L2.St}{H:Hp}{Q:VK}(h:tD (Dm.e1 (Dm.Kf p) f) σ H Q):tCB (Xh K T) (xR (tD f) (xR (tC (.ty T)) CU)) σ H Q:=by
 obtain⟨H0,ρ,x,ρ',st,e,k⟩:=h;unfold Dm.e1 at e;split at e
 ·cases e
 rename_i x1 ρ1 e1;split at e
 ·cases e
 rename_i dx p1;have nx:∀C,dx≠.exc C/\dx≠.fn C/\∀v,dx≠.jA C v:=fun C=>⟨fun z=>(by subst z;cases e),fun z=>(by subst z;cases e),fun v z=>(by subst z;cases e)⟩;have ev:Dm.Kf p dx=Dm.vB (p dx):=by cases dx<;>first | rfl | exact absurd rfl (nx _).1 | exact absurd rfl (nx _).2.1 | exact absurd rfl ((nx _).2.2 _)
 rw[ev]at e;dsimp only at e;cases e;refine⟨H0,ρ,x1,_,st,e1,fun v H1 Hb t1 r1=>?_⟩;exact⟨v,_,_,rfl,Mm ((r1.look t1.st p1).full t1.st.same) nx,kp K dx,k _ H1 Hb t1 (Rep.bl _)⟩
theorem Mp{T:String}{tn:Str}{p':Dat->Bool}(kp:Mk T p')(hvT:bootBuiltins tn=some (.type T))(hgT:Gl X tn)(hmT:X.mg tn=none)(hg:Gl X "isinstance")(hm:X.mg "isinstance" = none)(h:DE X e f)
  (hn:tn ≠ "__name__" := by decide) (XW:(tn == ("__debug__" : Str))=false:=by decide)
  (he:starEach [e,.Name tn p2] X.env=(false,eval e X.env)::starEach [.Name tn p2] X.env:=by rfl) (KD:(backTo pos (starEach [.Name tn p2] X.env)).any (·.1)=false:=by rfl) (he2:starEach [.Name tn p2] X.env=(false,eval (.Name tn p2) X.env)::starEach [] X.env:=by rfl) :
  DE X (.Call (.Name "isinstance" p) [e,.Name tn p2] [] pos) (Dm.e1 (Dm.Kf p') f):=
 PE.weak (oA Mn hg hm abT (kD h (kD (Ih (v:=.ty T) hgT hmT hvT rfl hn XW) oz he2) he) (he:=he) (KD:=KD)) fun _ _ _=>Xi kp
theorem all_range(bs:List Bool):(aas bs.length).all (fun i=>bs.getD i true)=bs.all id:=by
 rw[aci,aa1,aa1];constructor
 ·intro h b hb;obtain⟨i,hi,rfl⟩:=List.mem_iff_getElem.mp hb;have:=h i (aaV.mpr hi);rw[abm,aaI hi]at this;exact this
 ·intro h i hi;have hi:=aaV.mp hi;rw[abm,aaI hi];exact h _ (acI hi)
theorem Kr(hc:X.calm=true):iz X (.builtin "all") (fun xs H Q=>∃(a:Addr) (bs:List Bool),xs=[.ref a]/\Rd H a (.lst (bs.map V.bl))/\Q (.bl (bs.all id)) H):=by
 intro BU s σ H xs us Q I r h;obtain⟨a,bs,rfl,hq,q⟩:=h;obtain⟨u,rfl,rx⟩:=vals1 r;cases rx;obtain⟨z,its,n,rv,e⟩:=hq.ok I.hok;have hl:s.heap.IsList a its.toArray:=⟨_,e,rfl,_,rfl⟩
 have Fp:=rv.length;rw[Pa]at Fp;have hax:a≠s.heap.objs.size:=aax (aad e);refine PySem.call_all_walk (wpAny_pyIter_list hl ⟨s.heap.objs.size,_,_,_,_,_,fun i=>bs.getD i true,rfl,Walks.list (A:=X.A.in1) (I.ok.hd hc) s.heap.objs.size a hax its.toArray,⟨⟨_,aaJ _ rfl,rfl,rfl⟩,hl.push _⟩,?_,fun h' tk hk=>?_⟩)
 ·intro i v s' Q' E' hv hQ';have hv':its[i]?=some v:=by simpa using hv
  have hi:i<bs.length:=by rw[Fp];exact(aag.mp hv').1
  have hb:(bs.map V.bl)[i]?=some (V.bl bs[i]):=by rw[aao,aaI hi];rfl
  obtain⟨u,hu,ru⟩:=rv.get hb;rw[hv']at hu;cases hu;cases ru;refine wpAny_truthy_bool ?_;have e2:bs.getD i true=bs[i]:=by rw[abm,aaI hi];rfl
  rw[<- e2];exact hQ'
 ·have e1:its.toArray.size=bs.length:=by rw[aai,Fp]
  rw[e1,all_range];refine⟨.bl _,H,I.kept (t':=tk) fun b o eb=>hk b o ?_ (aac _ eb),rfl,q⟩;intro hm;have:b=s.heap.objs.size:=by simpa using hm
  exact absurd (aad eb) (by rw[this];exact aaZ _)
end
section
variable{X:Cx}{a b c e:Expr}{f fa fb fc:FE}{p p2 pos:Pos}
section
variable{g h:Dat->Dat->Option RV}{σ:L2.St}{Q:VK}{H:Hp}
theorem PL{r r':R2}(o1:OpD r g)(o2:OpD r' h)(hh:tD (Dm.rE g h fa fb fc) σ H Q):Lr r r' (tD fa) (tD fb) (tD fc) σ H Q:=by
 obtain⟨H0,ρ,x,ρ',st,e,k⟩:=hh;unfold Dm.rE at e;split at e
 ·cases e
 rename_i x1 ρ1 e1;split at e
 ·cases e
 rename_i y1 ρ2 e2;split at e
 ·cases e
 rename_i dx p1;split at e
 ·cases e
 rename_i dy p2;refine⟨H0,ρ,x1,ρ1,st,e1,fun v H1 Hb t1 r1=>⟨H1,ρ1,y1,ρ2,t1.st,e2,fun u H2 Hc t2 r2=>?_⟩⟩;split at e
 ·rename_i gz;refine o1 H2 Hc v u dx dy _ _ t2.st.same ((r1.mono t2).look t2.st p1) (r2.look t2.st p2) gz fun w H3 Hd g3 r3=>?_;refine⟨true,Rep.C7 r3,?_⟩;rw[if_pos rfl];have t3:=t2.trans (.grow t2.st g3);have r2':=r2.mono (.grow t2.st g3);split at e
  ·cases e
  rename_i z ρ3 e3;split at e
  ·cases e
  rename_i dy' p3;split at e
  ·cases e
  rename_i dz p4;split at e
  ·cases e
  rename_i w2 hz;cases e;refine⟨H3,ρ2,z,_,t3.st,e3,fun w' H4 He t4 r4=>?_⟩;refine o2 H4 He u w' dy' dz w2 Q t4.st.same ((r2'.mono t4).look t4.st p3) (r4.look t4.st p4) hz fun w5 H5 Hf g5 r5=>?_;exact k w5 H5 Hf (t1.trans (t3.trans (t4.trans (.grow t4.st g5)))) ((r5.toV t4.st).early fun a n=>(t1.trans (t3.trans t4)).stp.gone n)
 ·rename_i gz;cases e;refine o1 H2 Hc v u dx dy _ _ t2.st.same ((r1.mono t2).look t2.st p1) (r2.look t2.st p2) gz fun w H3 Hd g3 r3=>?_;refine⟨false,Rep.C7 r3,?_⟩;rw[if_neg aaz];exact k _ H3 Hd (t1.trans (t2.trans (.grow t2.st g3))) (Rep.bl false)
 ·cases e
theorem PM{op op':CmpOp}{r r':R2}(o1:OpR X (compareOp op) r)(q1:OpD r g)(o2:OpR X (compareOp op') r')(q2:OpD r' h)(ha:DE X a fa)(hb:DE X b fb)(hc:DE X c fc)
  (hm:lastMarks [op,op'] [b,c]=false:=by with_unfolding_all rfl):DE X (.Compare a [op,op'] [b,c] pos) (Dm.rE g h fa fb fc):=PE.weak (Ls o1 o2 ha hb hc hm) fun _ _ _=>PL q1 q2
theorem Dc(n d:Nat)(o:Option Int)(hd:d<=n):HT.sIx n d o=Dm.sIx n d o:=by
 cases o with
 |none=>rfl
 |some v=>
  unfold HT.sIx Dm.sIx
  first
   |rfl
   |(dsimp only;split<;>lia)
theorem Cg{H0:Hp}{xs:List V}{ds:List Dat}(rs:bg H0 xs ds)(lo hi:Option Int):bg H0 (BH xs lo hi) (Dm.cut ds lo hi):=by unfold BH Dm.cut;rw[rs.length,Dc _ _ _ (aaY _),Dc _ _ _ (aab _)];exact(rs.drop _).take _
theorem zv{fo:Option FE}{H0 H:Hp}{ρ ρ':Dm.Env}{o:Option Int}{Q:Option Int->Hp->Prop}(st:a_ H0 H σ ρ)(e:Dm.part fo ρ=some (o,ρ'))(k:∀H0' H',ESt σ ρ H0 H ρ' H0' H'->Q o H') :
  (match fo with | none=>CV | some f=>Ly (tD f)) σ H Q:=by
 cases fo with
 |none=>cases e;exact k H0 H (.refl st)
 |some f=>
  unfold Dm.part at e;dsimp only at e;split at e
  ·rename_i i ρ1 e1;cases e;exact⟨H0,ρ,_,_,st,e1,fun v H1 Hb t1 r1=>⟨i,Rep.isInt r1,k H1 Hb t1⟩⟩
  ·cases e
noncomputable abbrev tOf(fo:Option FE):TO:=match fo with | none=>CV | some f=>Ly (tD f)
theorem Zw{K:Dk}{lo hi:Option FE}(h:tD (Dm.eSl f lo hi) σ H Q):tSl (WG K) (tD f) (tOf lo) (tOf hi) σ H Q:=by
 obtain⟨H0,ρ,x,ρ',st,e,k⟩:=h;unfold Dm.eSl at e;split at e
 ·cases e
 rename_i x1 ρ1 e1;split at e
 ·cases e
 rename_i l ρ2 e2;split at e
 ·cases e
 rename_i hh ρ3 e3;split at e
 ·rename_i ds p1;cases e;refine⟨H0,ρ,x1,ρ1,st,e1,fun v H1 Hb t1 r1=>?_⟩;refine zv t1.st e2 fun H2 Hc t2=>?_;refine zv t2.st e3 fun H3 Hd t3=>?_;have tt:=t1.trans (t2.trans t3);obtain⟨a,xs,rfl,qa,ra⟩:=cT t3.st.same ((r1.mono (t2.trans t3)).look t3.st p1);refine⟨a,xs,rfl,.inl qa,fun q hq=>?_⟩;have g:=bG.uQ (o:=HO.lst (BH xs l hh)) t3.st.same hq;refine k _ _ _ (tt.trans (.grow t3.st g)) ⟨q,rfl,tt.stp.gone hq,t3.st.cS hq,t3.st.same.free hq,_,aQ,Cg ra l hh⟩
 ·cases e
theorem Zx{lo hi:Option Expr}{flo fhi:Option FE}(h:DE X e f)(hl:PO X lo (tOf flo))(hh:PO X hi (tOf fhi)):DE X (.Subscript e (.Slice lo hi none p2) pos) (Dm.eSl f flo fhi):=PE.weak (Ej O_ h hl hh) fun _ _ _=>Zw
theorem o_n:PO X none (tOf none):=O8
theorem o_s(h:DE X e f):PO X (some e) (tOf (some f)):=O9 h
end
end
section
variable{X:Cx}{nm:List Str}{U0 tg iter:Expr}{Sl:List Expr}{scope:Scope}{pos:Pos}{own:List Str}{fi:Dm.FI}{bd:Dm.FB}{is:List Nat}{t:FT}{f:FE}
noncomputable abbrev DTs(X:Cx)(Sl:List Expr)(t:FT):Prop:=PTs X Sl (tDT t)
theorem cN:DTs X [] Dm.cz:=fun BU s σ H Q I h=>by obtain⟨H0,ρ,b,ρ',st,e,k⟩:=h;cases e;exact C9 BU s σ H Q I (k H0 H (.refl st))
theorem jC{c:Expr}(h:DT X c t):DTs X [c] t:=Po h
structure TGc(X:Cx)(nm:List Str)(scope:Scope)(own:List Str)(tg:Expr)(is:List Nat)(bd:Dm.FB):Prop where
 ex:∃g,(∀cl C s H fp,PG (b4 X nm scope own cl C s H fp) tg g)/\BD is g bd
theorem c_n(i:Nat){x:Str}{px:Pos}(hN:(nm++own).Nodup)(hi:(nm++own)[i]?=some x)(hx:(relabel scope X.env).names.lookup x=some .local):TGc X nm scope own (.Name x px) [i] (Dm.bN i):=
 ⟨⟨_,fun cl C s H fp=>CT (X:=b4 X nm scope own cl C s H fp) hN hi (.inl hx) (.inr hx),ID i⟩⟩
theorem c_t{es:List Expr}{k:Nat}{tpos:Pos}(hc:X.calm=true)(hg:∀cl C s H fp,PGs (b4 X nm scope own cl C s H fp) es (oN is))(hn:∀cl C,(assignEach es (compEnvC scope cl C X.env)).length=is.length:=by intro _ _;rfl)
  (hst:∀cl C,(assignEach es (compEnvC scope cl C X.env)).findIdx? (·.1)=none:=by intro _ _;rfl):TGc X nm scope own (.Tuple es k tpos) is (Dm.bT is):=
 ⟨⟨_,fun cl C s H fp=>Lh (X:=b4 X nm scope own cl C s H fp) hc (hg cl C s H fp) (hn cl C) (hst cl C),LX is rfl⟩⟩
theorem Ur(hc:X.calm=true)(S:iH X nm scope)(hi:DI X tg iter fi)(hg:TGc X nm scope own tg is bd)(ht:∀cl C s H fp,DTs (b4 X nm scope own cl C s H fp) Sl t)(he:∀cl C s H fp,DE (b4 X nm scope own cl C s H fp) U0 f)
  (hl:∀i∈is,X.N.length<=i) (hs:∀x,foldedSetIterable iter X.env x=pure x:=by intro _;rfl):DE X (.ListComp U0 [⟨tg,iter,Sl,0⟩] scope pos) (Dm.dY fi own.length bd t f):=by
 obtain⟨g,h1,h2⟩:=hg.ex;intro BU s σ H Q I h;exact IE hc S hi h1 ht he hs BU s σ H Q I (C8 h2 (fun i hi=>by rw[I.len];exact hl i hi) h)
theorem Us(j:Nat){y:Str}{py R4:Pos}(hN:X.N.Nodup)(hc:X.calm=true)(S:iH X nm scope)(hi:DI X tg iter fi)(hg:TGc X nm scope own tg is bd)(ht:∀cl C s H fp,DTs (b4 X nm scope own cl C s H fp) Sl t)(he:∀cl C s H fp,DE (b4 X nm scope own cl C s H fp) U0 f)
  (hl:∀i∈is,X.N.length<=i) (hj:X.N[j]?=some y:=by rfl) (hy:Loc X.env.scope y:=by trivial)
  (hsw:swapsWith (.ListComp U0 [⟨tg,iter,Sl,0⟩] scope pos) (some (.Name y py)) R4.line X.env=pure true:=by rfl) (hs:∀x,foldedSetIterable iter X.env x=pure x:=by intro _;rfl)
  (hf:X.fn y=true\/X.env.scope.names.lookup y=some .local:=by trivial):DS X (.Assign [.Name y py] (.ListComp U0 [⟨tg,iter,Sl,0⟩] scope pos) R4) (Dm.sA j (Dm.dY fi own.length bd t f)):=by
 obtain⟨g,h1,h2⟩:=hg.ex;intro BU s σ H D I h;exact jU hN hj hy hc S hi h1 ht he hsw hs hf BU s σ H D I (C8 h2 (fun i hi=>by rw[I.len];exact hl i hi) (LW h))
end
theorem z4{H0:Hp}:∀{ds:List Dat} {bs:List Bool} {vs:List V},bg H0 vs ds->Dm.bools ds=some bs->vs=bs.map V.bl
 |[],bs,vs,r,e=>by cases r;cases e;rfl
 |.bl b::ds,bs,vs,r,e=>by
  cases r with
  |cons r rs=>
   unfold Dm.bools at e;cases q:Dm.bools ds with
   |none=>rw[q]at e;cases e
   |some cs=>rw[q]at e;cases e;cases Rep.C7 r;rw[z4 rs q];rfl
 |.non::ds,bs,vs,r,e=>by cases e
 |.int _::ds,bs,vs,r,e=>by cases e
 |.str _::ds,bs,vs,r,e=>by cases e
 |.tup _::ds,bs,vs,r,e=>by cases e
 |.lst _::ds,bs,vs,r,e=>by cases e
 |.dct _ _::ds,bs,vs,r,e=>by cases e
 |.dcp _ _::ds,bs,vs,r,e=>by cases e
theorem Ut:CallD (fun xs H Q=>∃(a:Addr) (bs:List Bool),xs=[.ref a]/\Rd H a (.lst (bs.map V.bl))/\Q (.bl (bs.all id)) H) Dm.Ew:=by
 intro H0 H vs ds z Q s rs e k;unfold Dm.Ew at e;split at e
 ·split at e
  ·rename_i bs hb;cases e;cases rs with
   |cons r rr=>cases rr;obtain⟨a,us,rfl,qa,ra⟩:=cT s r;have:=z4 ra hb;subst this;exact⟨a,bs,rfl,qa,k _ H0 H (bG.refl s) (.bl _)⟩
  ·cases e
 ·cases e
section
variable{X:Cx}{a b c e:Expr}{f:FE}{fs:List FE}{p p2 pos:Pos}
theorem EC(hc:X.calm=true)(hg:Gl X "all")(hm:X.mg "all" = none)(ha:DA X [e] fs)(he:starEach [e] X.env=[(false,eval e X.env)]:=by rfl)(KD:(backTo pos (starEach [] X.env)).any (·.1)=false:=by rfl) :
  DE X (.Call (.Name "all" p) [e] [] pos) (Dm.eB Dm.Ew fs):=GS (Kr hc) Ut (by rfl) hg hm ha (he:=he) (KD:=KD)
end
noncomputable def jD(sc:Scope):List Str->List Str->Bool
 |[],[]=>true
 |x::N,y::nm=>(x == y||(sc.names.lookup y).isNone)&&jD sc N nm
 |_,_=>false
theorem jD.len{sc:Scope}:∀{N nm:List Str},jD sc N nm=true->nm.length=N.length
 |[],[],_=>rfl
 |[],_::_,h=>by cases h
 |_::_,[],h=>by cases h
 |x::N,y::nm,h=>by rw[jD,aau]at h;rw[aaR,aaR,jD.len h.2]
theorem jD.at{sc:Scope}:∀{N nm:List Str},jD sc N nm=true->∀(i:Nat) (x:Str),nm[i]?=some x->N[i]?=some x\/sc.names.lookup x=none
 |[],[],_,i,x,e=>by simp at e
 |[],_::_,h,_,_,_=>by cases h
 |_::_,[],h,_,_,_=>by cases h
 |x::N,y::nm,h,0,z,e=>by
  rw[jD,aau,Bool.or_eq_true]at h;simp at e;subst e;rcases h.1 with q | q
  ·have:x=y:=by simpa using q
   subst this;exact .inl rfl
  ·exact .inr (by simpa using q)
 |x::N,y::nm,h,i+1,z,e=>by rw[jD,aau]at h;rw[abu]at e ⊢;exact jD.at h.2 i z e
noncomputable def uY(osc:Scope)(N nm:List Str)(sc:Scope):Bool:=
 sc.names.all (fun y=>y.2 != .cell)&&sc.names.all (fun y=>y.2 != .local||sc.names.lookup y.1 == some .local) &&
 sc.names.all (fun y=>y.2 != .free||(osc.names.lookup y.1 == some .cell||osc.names.lookup y.1 == some .free))&&nm.all (fun x=>sc.names.lookup x != some .local)&&jD sc N nm
theorem iH.of{X:Cx}{nm:List Str}{scope:Scope}(h:uY X.env.scope X.N nm scope=true)(hk:scope.kind=.function):iH X nm scope:=by
 unfold uY at h;simp only[aau,aa1]at h;obtain⟨⟨⟨⟨h1,h2⟩,h3⟩,h4⟩,h5⟩:=h;refine⟨hk,fun y hy=>?_,fun y hy hl=>?_,fun y hy hf=>?_,fun x hx=>?_,jD.len h5,jD.at h5⟩
 ·have:=h1 y hy;simpa using this
 ·have:=h2 y hy;rw[hl]at this
  simpa using this
 ·have:=h3 y hy;rw[hf]at this;have:(X.env.scope.names.lookup y.1 == some .cell||X.env.scope.names.lookup y.1 == some .free)=true:=by simpa using this
  rw[Bool.or_eq_true,beq_iff_eq,beq_iff_eq]at this;exact this
 ·have:=h4 x hx;simpa using this
section
variable{X:Cx}{U0 tg iter:Expr}{Sl:List Expr}{scope:Scope}{pos:Pos}{fi:Dm.FI}{bd:Dm.FB}{is:List Nat}{t:FT}{f:FE}
theorem z5{l:List Nat}{n:Nat}(h:(l.all fun i=>decide (n<=i))=true):∀i∈l,n<=i:=fun i hi=>of_decide_eq_true (aa1.mp h i hi)
theorem Mq(nm own:List Str)(hg:TGc X nm scope own tg is bd)(hi:DI X tg iter fi)(ht:∀cl C s H fp,DTs (b4 X nm scope own cl C s H fp) Sl t)(he:∀cl C s H fp,DE (b4 X nm scope own cl C s H fp) U0 f)
  (hc:X.calm=true:=by rfl) (hk:scope.kind=.function:=by rfl) (hS:uY X.env.scope X.N nm scope=true:=by rfl) (hl:(is.all fun i=>decide (X.N.length<=i))=true:=by rfl) (hs:∀x,foldedSetIterable iter X.env x=pure x:=by intro _;rfl) :
  DE X (.ListComp U0 [⟨tg,iter,Sl,0⟩] scope pos) (Dm.dY fi own.length bd t f):=Ur hc (iH.of hS hk) hi hg ht he (z5 hl) hs
theorem Uu(j:Nat)(nm own:List Str){y:Str}{py R4:Pos}(hN:X.N.Nodup)(hg:TGc X nm scope own tg is bd)(hi:DI X tg iter fi)(ht:∀cl C s H fp,DTs (b4 X nm scope own cl C s H fp) Sl t)(he:∀cl C s H fp,DE (b4 X nm scope own cl C s H fp) U0 f)
  (hc:X.calm=true:=by rfl) (hk:scope.kind=.function:=by rfl) (hS:uY X.env.scope X.N nm scope=true:=by rfl) (hl:(is.all fun i=>decide (X.N.length<=i))=true:=by rfl) (hj:X.N[j]?=some y:=by rfl) (hy:Loc X.env.scope y:=by trivial)
  (hsw:swapsWith (.ListComp U0 [⟨tg,iter,Sl,0⟩] scope pos) (some (.Name y py)) R4.line X.env=pure true:=by rfl) (hs:∀x,foldedSetIterable iter X.env x=pure x:=by intro _;rfl)
  (hf:X.fn y=true\/X.env.scope.names.lookup y=some .local:=by trivial):DS X (.Assign [.Name y py] (.ListComp U0 [⟨tg,iter,Sl,0⟩] scope pos) R4) (Dm.sA j (Dm.dY fi own.length bd t f)):=
 Us j hN hc (iH.of hS hk) hi hg ht he (z5 hl) hj hy hsw hs hf
end
section
variable{f:FE}{a:Addr}{X:Cx}{H:Hp}
theorem PI.or{tg it:Expr}{t t':TI}(h:PI X tg it t)(h':PI X tg it t'):PI X tg it (fun σ H R=>t σ H R\/t' σ H R):=fun BU s σ H R I q=>q.elim (h BU s σ H R I) (h' BU s σ H R I)
theorem Xj{K:Dk}{σ:L2.St}{R:It->Hp->Prop}(h:tDI (Dm.iS f) σ H R):Eg K (tD f) σ H R\/Lm K (tD f) σ H R:=by
 obtain⟨H0,ρ,ys,ρ',st,e,k⟩:=h;unfold Dm.iS at e;split at e
 ·cases e
 rename_i x ρ1 e1;split at e
 ·rename_i ds ρ2 e2;cases e;exact .inl (Zl ⟨H0,ρ,_,_,st,by unfold Dm.iL;rw[e1];dsimp only;rw[e2],k⟩)
 ·rename_i ds ρ2 e2;cases e;exact .inr (Zm ⟨H0,ρ,_,_,st,by unfold Dm.iT;rw[e1];dsimp only;rw[e2],k⟩)
 ·cases e
theorem i_S{tg e:Expr}(h:DE X e f):DI X tg e (Dm.iS f):=PI.weak (PI.or (Ik h) (Ln h)) fun _ _ _=>Xj
noncomputable def Mr(K:Dk):Bool:=K.all fun p=>match p.2.cls with | .type n=>n != "list" | _=>true
theorem lookup_mem{o:Obj}:∀{K:List (Addr×Obj)},K.lookup a=some o->(a,o)∈K
 |[],h=>by cases h
 |(b,x)::r,h=>by
  rw[aaX]at h;cases q:a == b with
  |true=>
   rw[q]at h;cases h;have:a=b:=by simpa using q
   rw[this];exact PU
  |false=>rw[q]at h;exact Ds _ (lookup_mem h)
theorem Uv{f:List Dat->Option RV}{K:Dk}{ns:List Int}{E:XK}(hf:f [.lst (ns.map Dat.int)]=some (.val (.bl true)))(hK:Mr K=true)(hS:SqL K H a (ns.map V.int)) :
  spD f [.ref a] H (fun v _=>v=.bl true) E:=by
 have hq:Rd H a (.lst (ns.map V.int)):=by
  rcases hS with h | ⟨o,its,n,hk,hc,_⟩
  ·exact h
  ·have:=aa1.mp hK _ (lookup_mem hk);dsimp only at this;rw[hc]at this;exact absurd this (by decide)
 have hr:∀ns:List Int,bg H (ns.map V.int) (ns.map Dat.int):=fun ns=>by
  induction ns with
  |nil=>exact .nil
  |cons n ns ih=>exact .cons (.int n) ih
 exact⟨H,_,_,aO.refl _,.cons (.lst hq (hr ns)) .nil,hf,fun v H0' H' _ r=>Rep.C7 r⟩
end
end Br
namespace Dm
noncomputable def iRd(a b c:FE):FI:=fun ρ=>match a ρ with
 | some (.val (.int i),ρ1)=>(match b ρ1 with
  | some (.val (.int j),ρ2)=>(match c ρ2 with
   |some (.val (.int k),ρ3)=>if k=-1/\j<=BIG/\-BIG<=j/\i<=BIG/\-BIG<=i then some (downs i (i-j).toNat,ρ3) else none
   |_=>none)
  |_=>none)
 |_=>none
noncomputable def uZ:Nat->List Dat->List Dat
 |_,[]=>[]
 |i,d::ds=>.tup [.int (i:Nat),d]::uZ (i+1) ds
noncomputable def iEn(a:FE):FI:=fun ρ=>match a ρ with
 |none=>none
 |some (x,ρ1)=>match tk ρ1 x with
  |some (.lst ds,ρ2)=>some (uZ 0 ds,ρ2)
  |_=>none
end Dm
namespace Br
open PySem PySem.Spec PyProof.Rows L2
theorem Ci{X:Cx}{BU:List (Addr×Obj)}{σ:L2.St}{H:Hp}{s:Shared}{h':Heap}{t':Nat}{fp:List Addr}{p:Addr}{o:HO}(I:Inv X BU σ H s)(hf:∀b∈fp,BG X BU H b)
  (k:∀b u,b∉fp->s.heap.get? b=some u->h'.get? b=some u) (hp:s.heap.objs.size<=p) (new:bR X.prog X.w (upd H p o) h' p o):Inv X BU σ (upd H p o) { s with heap:=h',toks:=t' }:=by
 have hn:H p=none:=I.hok.fresh hp;have nf:∀b u,H b=some u->b∉fp:=fun b u e z=>by rw[(hf b z).1]at e;cases e
 have nL:X.env.locals∉fp:=fun z=>(hf _ z).2.1 rfl;refine I.step (g':=s.gens) (d':=s.drawn) (ch:=fp) (fun b hb=>?_) (fun b u _ _ hc e _=>k b u hc e) (fun b u _ _ hc e _=>⟨u.slots,k b u hc e⟩)
  (fun b u _ e n=>by rw[aM (aax (aam (aad e) hp))];exact n) (fun b u hc e=>⟨u,k b u hc e⟩)
  (fun b xs q=>by rw[aM (bC q hn)];exact q) (fun b u xs q=>by rw[aM (bC q hn)];exact q) (fun b _ _ _ q=>by rw[aM (bC q hn)];exact q) (fun m hm=>?_) (fun b u e=>?_) I.bare
 ·obtain⟨f0,f1,f2,f3,f4,f5⟩:=hf b hb;exact⟨f3,f1,f4,f5⟩
 ·obtain⟨o,es,ep,ho,r⟩:=hm;exact⟨o,es,ep,k _ o nL ho,r⟩
 ·by_cases hb:b=p
  ·subst hb;rw[aQ]at e;cases e;exact new
  ·rw[aM hb]at e;refine(I.hok b u e).stay (fun c v hc q=>k c v ?_ q) (fun c q=>by rw[aM (bC q hn)];exact q) (fun c _ _ q=>by rw[aM (bC q hn)];exact q) fun c xs q=>by rw[aM (bC q hn)];exact q
   rcases hc with z | z
   ·rw[z];exact nf b u e
   ·exact nf c _ z
noncomputable def Ite(K:Dk)(a:Addr):It:=
 ⟨fun i H=>∃xs x,SqL K H a xs/\xs[i]?=some x,fun i H x H'=>∃p v,H p=none/\x=.ref p/\H'=upd H p (.tup [.int i,v])/\∀xs,SqL K H a xs->xs[i]?=some v,fun i H=>∃xs,SqL K H a xs/\xs.length<=i⟩
theorem Ks{P:Program}{w:World}{K:Dk}{elts:List Expr}{x1}{tp:Pos}(a e it:Addr)(X0:e≠it):Turn P w K (.Tuple elts x1 tp) (Ite K a) [e,it] e (fun i h=>(∃old,IsEnum h e it (i:Nat) old)/\h.IsListIter it a i) where
 mem:=by simp
 obj:=fun i h st b hb=>by
  obtain⟨⟨old,he⟩,o,e1,c,d⟩:=st;rcases aah.mp hb with rfl | hb
  ·exact ⟨_,he,fun v z=>by have z':acY _=acN v:=z;cases z'⟩
  ·have e2:b=it:=by simpa using hb
   subst e2;exact⟨o,e1,fun v z=>by rw[d]at z;cases z⟩
 keep:=fun i h h' st k=>⟨let ⟨old,he⟩:=st.1;⟨old,k e (by simp) _ he⟩,st.2.at fun o z=>k it (by simp) o z⟩
 item:=by
  intro X hP hw hK hc i BU s σ H E I hf st hg;subst hP hw hK;obtain⟨xs,x,hq,hx⟩:=hg;obtain⟨its,rv,p,hz⟩:=I.list hq;obtain⟨u,hu,ru⟩:=rv.get hx;obtain⟨⟨old,he⟩,UZ⟩:=st;refine wpAny_pyNext_enum_item he UZ p.isList (x:=u) (by simpa using hu) X0 fun h1 heo Zy ht1 hz1 hk1=>?_;refine⟨_,rfl,wpAny_letOwnedTupleGo_enum heo fun h2 he2 hs2=>?_⟩;have NO:e<s.heap.objs.size:=aad he;have ht2:h2.get? s.heap.objs.size=some { cls:=.type "tuple",data:=.seq #[.int i s.toks,u] }:=(hs2.2 _ (ab2 NO)).trans ht1;have k2:∀b o,b∉[e,it]->s.heap.get? b=some o->h2.get? b=some o:=fun b o hb z=>by have n1:b≠e:=fun y=>hb (by simp[y]);have n2:b≠it:=fun y=>hb (by simp[y]);exact(hs2.2 b n1).trans (hk1 b o n1 n2 z)
  have hn:H s.heap.objs.size=none:=I.hok.fresh (aab _);have I2:Inv X BU σ (upd H s.heap.objs.size (.tup [.int i,x])) { s with heap:=h2,toks:=s.toks+1 }:=
   Ci I hf k2 (aab _) ⟨by simp[sizeLine],[.int i s.toks,u],.cons ⟨s.toks,rfl⟩ (.cons ru .nil),_,ht2,rfl,_,rfl⟩
  refine⟨.ref s.heap.objs.size,_,I2,rfl,⟨_,x,hn,rfl,rfl,fun ys hy=>by rw[I.uJ hy hq];exact hx⟩,⟨⟨u,?_⟩,?_⟩,fun b hb=>?_⟩
  ·have:(((i+1:Nat):Int))=(i:Int)+1:=by lia
   rw[this];exact he2
  ·exact Zy.at fun o z=>(hs2.2 it (Ne.symm X0)).trans z
  ·have hb1:b≠s.heap.objs.size:=fun y=>by
    rcases aah.mp hb with z | z
    ·rw[y]at z;exact absurd z (ab2 NO)
    ·have z':b=it:=by simpa using z
     obtain⟨o,ho,_⟩:=UZ;have:=aad ho;rw[<- z',y]at this;exact aaZ _ this
   rw[aM hb1];exact(hf b hb).1
 done:=by intro X hP hw hK hc i BU s σ H E I hf st hg;subst hP hw hK;obtain⟨xs,hq,hx⟩:=hg;obtain⟨its,rv,p,hz⟩:=I.list hq;obtain⟨f0,f1,f2,f3,f4,f5⟩:=hf it (by simp);obtain⟨⟨old,he⟩,UZ⟩:=st;have hl:=rv.length;exact wpAny_pyNext_enum_end (I.ok.hd hc) he UZ p.isList (by simp;lia) fun h' eb=>⟨rfl,I.turned (t':=s.toks) (fun b o hb e=>eb b o hb e) f0 f1 f3 f4 f5⟩
 self:=fun A i s Q E st h=>by
  obtain⟨⟨old,he⟩,UZ⟩:=st;have hT:s.TypeIs (.ref e) "enumerate" := ⟨_,he,rfl⟩
  refine wpAny_pyIter_slot hT F.slot_enumerate_iter (wpAny_call_entry F.slot_enumerate_iter hT F.entry_enumerate_iter ?_ (F.args_enumerate_iter_1 _));show wpAny _ _ (ret (.ref e)) _ _ s;exact wpAny_pure ⟨_,rfl,"enumerate",_,hT,F.slot_enumerate_next.lookup,h⟩
def Xk(K:Dk)(tl:TE):TI:=fun σ H R=>tl σ H fun x H1=>∃a,x=.ref a/\(∃xs,SqL K H1 a xs)/\R (Ite K a) H1
section
variable{X:Cx}{l:Expr}{tl:TE}{p pos:Pos}{elts:List Expr}{x1:Nat}{tp:Pos}
theorem PN(hg:Gl X "enumerate")(hm:X.mg "enumerate" = none)(hl:PE X l tl)(hs:starEach [l] X.env=[(false,eval l X.env)]:=by rfl):PI X (.Tuple elts x1 tp) (.Call (.Name "enumerate" p) [l] [] pos) (Xk X.K tl):=by
 intro BU s σ H R I h;refine Call_ (rA I hg hm boot_enumerate (abh (spliced_more ?_ (by rw[hs];rfl)) (by rw[hs];rfl) rfl));refine thn (hl BU s σ H _ I h) fun v s1 ⟨x,H1,I1,r1,q1⟩=>?_;obtain⟨a,e,⟨xs,hq⟩,q⟩:=q1;subst e;cases r1;obtain⟨its,rv,pl,hz⟩:=I1.list hq;refine abR (call_enumerate_list pl.isList fun h' he UZ hsz k=>?_);have I2:Inv X BU σ H1 { s1 with heap:=h' }:=I1.kept (t':=s1.toks) k;have T:=Ks (P:=X.prog) (w:=X.w) (K:=X.K) (elts:=elts) (x1:=x1) (tp:=tp) a (s1.heap.objs.size+1) s1.heap.objs.size (Nat.succ_ne_self _);refine T.self X.A 0 { s1 with heap:=h' } _ X.xe ⟨⟨_,he⟩,UZ⟩ ?_;refine⟨s1.heap.objs.size+1,[s1.heap.objs.size+1,s1.heap.objs.size],_,_,H1,rfl,I2,T,⟨⟨_,he⟩,UZ⟩,fun b hb=>?_,q⟩;have:s1.heap.objs.size<=b:=by
  rcases aah.mp hb with rfl | hb
  ·exact Nat.le_succ _
  ·have:b=s1.heap.objs.size:=by simpa using hb
   exact Nat.le_of_eq this.symm
 exact I1.Lk this (I1.hok.fresh this)
end
theorem ED:∀(ds:List Dat) (i:Nat),(Dm.uZ i ds).length=ds.length
 |[],_=>rfl
 |_::ds,i=>by simp[Dm.uZ,ED ds]
theorem EE:∀(ds:List Dat) (i j:Nat) (d:Dat),(Dm.uZ i ds)[j]?=some d->∃x,ds[j]?=some x/\d=.tup [.int ((i+j:Nat):Int),x]
 |[],_,_,_,h=>by cases h
 |x::ds,i,0,d,h=>by cases h;exact⟨x,rfl,rfl⟩
 |x::ds,i,j+1,d,h=>by
  obtain⟨y,h1,h2⟩:=EE ds (i+1) j d h;refine⟨y,h1,?_⟩;rw[h2];have:i+1+j=i+(j+1):=by lia
  rw[this]
theorem PR{K:Dk}{H0:Hp}{a:Addr}{xs:List V}{ds:List Dat}(hq:Rd H0 a (.lst xs))(rs:bg H0 xs ds):JW (Ite K a) H0 (Dm.uZ 0 ds):=by intro H0' H s0 s1;have q:SqL K H a xs:=.inl (aO.rd s1 (aO.rd s0 hq));refine⟨fun i hi=>⟨xs,q,by rw[rs.length,<- ED ds 0];exact hi⟩,fun i d e=>?_⟩;obtain⟨d',hd,rfl⟩:=EE ds 0 i d e;obtain⟨v,hv,rv⟩:=rs.get hd;refine⟨⟨xs,v,q,hv⟩,fun x H' y=>?_⟩;obtain⟨p,v',hn,rfl,rfl,y⟩:=y;have z:=y xs q;rw[hv]at z;cases z;have g:=bG.Kh (o:=HO.tup [.int i,v]) s1 hn;refine⟨_,g,.tup aQ (.cons ?_ (.cons ((rv.mono s0).mono g.s0) .nil))⟩;rw[Nat.zero_add];exact .int _
section
variable{σ:L2.St}{H:Hp}{R:It->Hp->Prop}
theorem Xl{K:Dk}{f:FE}(h:tDI (Dm.iEn f) σ H R):Xk K (tD f) σ H R:=by
 obtain⟨H0,ρ,ys,ρ',st,e,k⟩:=h;unfold Dm.iEn at e;split at e
 ·cases e
 rename_i x ρ1 e1;split at e
 ·rename_i ds ρ2 e2;cases e;refine⟨H0,ρ,_,ρ1,st,e1,fun v H0' H' t r=>?_⟩;obtain⟨H1,t1,b1,r1,_,_⟩:=take1 t (aO.refl _) r e2;cases r1 with
  |lst q rs=>exact⟨_,rfl,⟨_,.inl (aO.rd t1.st.same q)⟩,k _ H1 H' t1 (PR q rs)⟩
 ·cases e
end
section
variable{X:Cx}{tg e a b c:Expr}{f fa fb fc:FE}{p pos p0 BN:Pos}{elts:List Expr}{x1:Nat}{tp:Pos}
theorem Zz(hg:Gl X "enumerate")(hm:X.mg "enumerate" = none)(h:DE X e f)(hs:starEach [e] X.env=[(false,eval e X.env)]:=by rfl):DI X (.Tuple elts x1 tp) (.Call (.Name "enumerate" p) [e] [] pos) (Dm.iEn f):=PI.weak (PN hg hm h hs) fun _ _ _=>Xl
end
end Br
namespace Dm
noncomputable def bA(i:Nat)(own:Nat)(bd:FB)(t:FT)(el:FE):FE:=fun ρ=>match ρ[i]? with
 | some (.ow (.lst ds))=>if ds.length≤SZ then (match nY bd t el ds (ρ.set i .un++Dp own .un) [] with
  |none=>none
  |some (ys,ρ2)=>some (.new (.lst ys),(ρ2.take ρ.length).set i (.ow (.lst ds)))) else none
 |_=>dY (iS (eV i)) own bd t el ρ
end Dm
namespace Br
open PySem PySem.Spec PyProof.Rows L2
theorem Ms{K:Dk}{H0:Hp}{a:Addr}{xs:List V}{ds:List Dat}(rs:bg H0 xs ds):JWa (Itl K a) H0 (some (a,.lst xs)) ds:=by intro H0' H s0 s1 hq;have hq:=hq _ rfl;have q:SqL K H a xs:=.inl (.inl hq);refine⟨fun i hi=>⟨xs,q,by rw[rs.length];exact hi⟩,fun i d e=>?_⟩;obtain⟨v,hv,rv⟩:=rs.get e;refine⟨⟨xs,v,q,hv⟩,fun x H' y=>?_⟩;obtain⟨e1,y⟩:=y;subst e1;have z:=y xs q;rw[hv]at z;cases z;exact⟨H0',bG.refl s1,rv.mono s0⟩
theorem IL{K:Dk}{σ:L2.St}{H:Hp}{i own:Nat}{bd:Dm.FB}{g:TG}{t:FT}{el:FE}{is:List Nat}{Q:VK}(hb:BD is g bd)(hl:∀i∈is,σ.length<=i)(h:tD (Dm.bA i own bd t el) σ H Q) :
  tLC (fun σ H R=>Eg K (tD (Dm.eV i)) σ H R\/Lm K (tD (Dm.eV i)) σ H R) own g (tDT t) (tD el) σ H Q:=by
 obtain⟨H0,ρ,x,ρ',st,e,k⟩:=h;unfold Dm.bA at e;split at e
 ·rename_i ds eo;split at e
  case isFalse=>cases e
  rename_i hsz;split at e
  ·cases e
  rename_i ys ρ2 e2;cases e;refine .inl ⟨H0,ρ,.slot i,ρ,st,by unfold Dm.eV;rw[eo],fun v H0' H' t1 r=>?_⟩;obtain⟨a,qa,na,xs,ha,rs⟩:=t1.st.ow i _ eo;obtain⟨r1,_⟩:=r;rw[qa]at r1;cases r1;have nO:¬aJ σ (ρ.set i .un) a:=fun z=>by obtain⟨j,d,hj,h1,h2⟩:=jB z;exact hj (t1.st.dis j i d _ a h1 eo h2 qa)
  have NO:i<ρ.length:=(aag.mp eo).1;refine⟨a,rfl,⟨xs,.inl (.inl ha)⟩,fun D hD=>EA hb hl (t1.st.mask i) (fun q e=>by cases e;exact⟨ha,na,nO⟩) (Ms rs) hsz e2 (fun v H1 Hc t2 r2 hpa=>?_) D hD⟩;obtain⟨ha2,na2⟩:=hpa _ rfl;rw[aaC]at t2 r2;have oo:∀b,aJ σ ((ρ2.take ρ.length).set i (.ow (.lst ds))) b->b=a\/aJ σ (ρ2.take ρ.length) b:=fun b ⟨j,d,h1,h2⟩=>by
   by_cases q:i=j
   ·subst q;rw[qa]at h2;cases h2;exact .inl rfl
   ·rw[gV q]at h1;exact .inr ⟨j,d,h1,h2⟩
  have om:∀b,aJ σ (ρ.set i .un) b->aJ σ ρ b:=fun b z=>by obtain⟨j,d,hj,h1,h2⟩:=jB z;exact⟨j,d,h1,h2⟩
  have oa:aJ σ ρ a:=⟨i,_,eo,qa⟩
  have nO2:¬aJ σ (ρ2.take ρ.length) a:=fun z=>nO (t2.own a z);have Mt:(ρ2.take ρ.length).length=ρ.length:=by rw[<- t2.st.len,st.len]
  refine k v H1 Hc (t1.trans ⟨⟨t2.st.same,by rw[aaC];exact t2.st.len,fun j d h=>?_,fun j d h=>?_,fun j j' d d' b h1 h2 h3 h4=>?_⟩,t2.stp.wide om,fun b z=>?_,fun j z=>?_⟩) ?_
  ·by_cases q:i=j
   ·subst q;rw[aap (by rw[Mt];exact NO)]at h;cases h
   ·rw[gV q]at h;exact t2.st.sh j d h
  ·by_cases q:i=j
   ·subst q;rw[aap (by rw[Mt];exact NO)]at h;cases h;exact⟨a,qa,na2,xs,ha2,rs.mono t2.stp.s0⟩
   ·rw[gV q]at h;exact t2.st.ow j d h
  ·by_cases q:i=j
   ·subst q;by_cases q':i=j'
    ·exact q'
    ·rw[gV q']at h2;rw[qa]at h3;cases h3;exact absurd ⟨j',d',h2,h4⟩ nO2
   ·rw[gV q]at h1;by_cases q':i=j'
    ·subst q';rw[qa]at h4;cases h4;exact absurd ⟨j,d,h1,h3⟩ nO2
    ·rw[gV q']at h2;exact t2.st.dis j j' d d' b h1 h2 h3 h4
  ·rcases oo b z with rfl | z
   ·exact oa
   ·exact om b (t2.own b z)
  ·trivial
  ·obtain⟨D',e',n',no',n0',w'⟩:=r2;refine⟨D',e',t1.stp.gone n',fun z=>?_,n0',w'⟩;rcases oo D' z with rfl | z
   ·rw[n']at ha;cases ha
   ·exact no' z
 ·have h2:=C8 (fi:=Dm.iS (Dm.eV i)) hb hl ⟨H0,ρ,x,ρ',st,e,k⟩;exact Xj h2
section
variable{X:Cx}{U0 tg:Expr}{Sl:List Expr}{scope:Scope}{pos px:Pos}{bd:Dm.FB}{is:List Nat}{t:FT}{f:FE}{x:Str}
theorem i_M(i:Nat)(h:DE X (.Name x px) (Dm.eV i)):PI X tg (.Name x px) (fun σ H R=>Eg X.K (tD (Dm.eV i)) σ H R\/Lm X.K (tD (Dm.eV i)) σ H R):=PI.or (Ik h) (Ln h)
theorem iI(i:Nat)(nm own:List Str)(hg:TGc X nm scope own tg is bd)(hi:DE X (.Name x px) (Dm.eV i))(ht:∀cl C s H fp,DTs (b4 X nm scope own cl C s H fp) Sl t)(he:∀cl C s H fp,DE (b4 X nm scope own cl C s H fp) U0 f)
  (hc:X.calm=true:=by rfl) (hk:scope.kind=.function:=by rfl) (hS:uY X.env.scope X.N nm scope=true:=by rfl) (hl:(is.all fun i=>decide (X.N.length<=i))=true:=by rfl) (hs:∀y,foldedSetIterable (.Name x px) X.env y=pure y:=by intro _;rfl) :
  DE X (.ListComp U0 [⟨tg,.Name x px,Sl,0⟩] scope pos) (Dm.bA i own.length bd t f):=by
 obtain⟨g,h1,h2⟩:=hg.ex;intro BU s σ H Q I h;exact IE hc (iH.of hS hk) (i_M i hi) h1 ht he hs BU s σ H Q I (IL h2 (fun i hi=>by rw[I.len];exact z5 hl i hi) h)
theorem Cj(j i:Nat)(nm own:List Str){y:Str}{py R4:Pos}(hN:X.N.Nodup)(hg:TGc X nm scope own tg is bd)(hi:DE X (.Name x px) (Dm.eV i))(ht:∀cl C s H fp,DTs (b4 X nm scope own cl C s H fp) Sl t)(he:∀cl C s H fp,DE (b4 X nm scope own cl C s H fp) U0 f)
  (hc:X.calm=true:=by rfl) (hk:scope.kind=.function:=by rfl) (hS:uY X.env.scope X.N nm scope=true:=by rfl) (hl:(is.all fun i=>decide (X.N.length<=i))=true:=by rfl) (hj:X.N[j]?=some y:=by rfl) (hy:Loc X.env.scope y:=by trivial)
  (hsw:swapsWith (.ListComp U0 [⟨tg,.Name x px,Sl,0⟩] scope pos) (some (.Name y py)) R4.line X.env=pure true:=by rfl) (hs:∀y,foldedSetIterable (.Name x px) X.env y=pure y:=by intro _;rfl)
  (hf:X.fn y=true\/X.env.scope.names.lookup y=some .local:=by trivial):DS X (.Assign [.Name y py] (.ListComp U0 [⟨tg,.Name x px,Sl,0⟩] scope pos) R4) (Dm.sA j (Dm.bA i own.length bd t f)):=by
 obtain⟨g,h1,h2⟩:=hg.ex;intro BU s σ H D I h;exact jU hN hj hy hc (iH.of hS hk) (i_M i hi) h1 ht he hsw hs hf BU s σ H D I (IL h2 (fun i hi=>by rw[I.len];exact z5 hl i hi) (LW h))
end
end Br
namespace Dm
noncomputable def BO:List Dat->List Dat->List Dat
 |x::xs,y::ys=>.tup [x,y]::BO xs ys
 |_,_=>[]
noncomputable def Mu(a b:FE):FI:=fun ρ=>match eAs [a,b] ρ with
 | some (vs,ρ1)=>(match tks ρ1 vs with
  |some ([.lst xs,.lst ys],ρ2)=>some (BO xs ys,ρ2)
  |_=>none)
 |none=>none
end Dm
namespace Br
open PySem PySem.Spec PyProof.Rows L2
theorem GV{X:Cx}{BU:List (Addr×Obj)}{σ:L2.St}{H:Hp}{s:Shared}{h':Heap}{t':Nat}{fp:List Addr}(I:Inv X BU σ H s)(hf:∀b∈fp,BG X BU H b)
  (k:∀b u,b∉fp->s.heap.get? b=some u->h'.get? b=some u):Inv X BU σ H { s with heap:=h',toks:=t' }:=by
 have nf:∀b u,H b=some u->b∉fp:=fun b u e z=>by rw[(hf b z).1]at e;cases e
 have nL:X.env.locals∉fp:=fun z=>(hf _ z).2.1 rfl;refine I.step (g':=s.gens) (d':=s.drawn) (ch:=fp) (fun b hb=>?_) (fun b u _ _ hc e _=>k b u hc e) (fun b u _ _ hc e _=>⟨u.slots,k b u hc e⟩)
  (fun b u _ e n=>n) (fun b u hc e=>⟨u,k b u hc e⟩)
  (fun b xs q=>q) (fun b u xs q=>q) (fun _ _ _ _ q=>q) (fun m hm=>?_) (fun b u e=>?_) I.bare
 ·obtain⟨f0,f1,f2,f3,f4,f5⟩:=hf b hb;exact⟨f3,f1,f4,f5⟩
 ·obtain⟨o,es,ep,ho,r⟩:=hm;exact⟨o,es,ep,k _ o nL ho,r⟩
 ·refine(I.hok b u e).stay (fun c v hc q=>k c v ?_ q) (fun c q=>q) (fun _ _ _ q=>q) fun c xs q=>q;rcases hc with z | z
  ·rw[z];exact nf b u e
  ·exact nf c _ z
noncomputable def Itz(K:Dk)(a b:Addr):It:=
 ⟨fun i H=>∃ xs ys x y,SqL K H a xs∧SqL K H b ys∧xs[i]?=some x∧ys[i]?=some y,
  fun i H r H'=>∃p x y,H p=none/\r=.ref p/\H'=upd H p (.tup [x,y])/\(∀xs,SqL K H a xs->xs[i]?=some x)/\∀ys,SqL K H b ys->ys[i]?=some y,
  fun i H=>∃xs ys,SqL K H a xs/\SqL K H b ys/\(xs.length<=i\/ys.length<=i)⟩
theorem oQ{h:Heap}{a b:Addr}{o o':Obj}(ha:h.get? a=some o)(hb:h.get? b=some o')(n:o.cls≠o'.cls):a≠b:=fun z=>by subst z;rw[ha]at hb;cases hb;exact n rfl
structure Dd(z TI TO i1 i2:Addr):Prop where
 TIz:TI≠z
 TOz:TO≠z
 i1z:i1≠z
 i2z:i2≠z
 TITO:TI≠TO
 TIi1:TI≠i1
 TIi2:TI≠i2
 TOi1:TO≠i1
 TOi2:TO≠i2
 i12:i1≠i2
def Mv(a b z TI TO i1 i2:Addr)(i:Nat)(h:Heap):Prop:=IsZip h z TI TO .none/\IsPair h TI (.ref i1) (.ref i2)/\(∃x y,IsPair h TO x y)/\h.IsListIter i1 a i/\h.IsListIter i2 b i
theorem EF{h:Heap}{a b z TI TO i1 i2:Addr}{i:Nat}{xs ys:Array Value}(F:Dd z TI TO i1 i2)(st:Mv a b z TI TO i1 i2 i h)(ha:h.IsList a xs)(hb:h.IsList b ys):ZipApart z TI TO i1 i2 a b:=by
 obtain⟨s1,s2,⟨x,y,s3⟩,s4,s5⟩:=st;obtain⟨o4,e4,c4,_⟩:=s4;obtain⟨o5,e5,c5,_⟩:=s5;obtain⟨oa,ea,ca,_⟩:=ha;obtain⟨ob,eb,cb,_⟩:=hb;have d:∀{n m:String},n≠m->(ac1 n)≠(ac1 m):=fun q z=>q (by injection z);exact ⟨F.TIz,F.TOz,F.i1z,F.i2z,F.TITO,F.TIi1,F.TIi2,F.TOi1,F.TOi2,F.i12,
  oQ ea s1 (by rw[ca];exact d (by decide)),oQ ea s3 (by rw[ca];exact d (by decide)),oQ ea e4 (by rw[ca,c4];exact d (by decide)),oQ ea e5 (by rw[ca,c5];exact d (by decide)),
  oQ eb s1 (by rw[cb];exact d (by decide)),oQ eb s3 (by rw[cb];exact d (by decide)),oQ eb e4 (by rw[cb,c4];exact d (by decide)),oQ eb e5 (by rw[cb,c5];exact d (by decide))⟩
theorem Mw{P:Program}{w:World}{K:Dk}{elts:List Expr}{x1}{tp:Pos}(a b z TI TO i1 i2:Addr)(F:Dd z TI TO i1 i2):Turn P w K (.Tuple elts x1 tp) (Itz K a b) [z,TI,TO,i1,i2] z (Mv a b z TI TO i1 i2) where
 mem:=by simp
 obj:=fun i h st c hc=>by
  obtain⟨s1,s2,⟨x,y,s3⟩,⟨o4,e4,c4,d4⟩,⟨o5,e5,c5,d5⟩⟩:=st;simp only[aah,abn,or_false]at hc;rcases hc with rfl | rfl | rfl | rfl | rfl
  ·exact⟨_,s1,fun v q=>by have q':acY _=acN v:=q;cases q'⟩
  ·exact⟨_,s2,fun v q=>by have q':Data.seq _ _=acN v:=q;cases q'⟩
  ·exact⟨_,s3,fun v q=>by have q':Data.seq _ _=acN v:=q;cases q'⟩
  ·exact⟨o4,e4,fun v q=>by rw[d4]at q;cases q⟩
  ·exact⟨o5,e5,fun v q=>by rw[d5]at q;cases q⟩
 keep:=fun i h h' st k=>by obtain⟨s1,s2,⟨x,y,s3⟩,s4,s5⟩:=st;exact⟨k z (by simp) _ s1,k TI (by simp) _ s2,⟨x,y,k TO (by simp) _ s3⟩,s4.at fun o q=>k i1 (by simp) o q,s5.at fun o q=>k i2 (by simp) o q⟩
 item:=by
  intro X hP hw hK hc i BU s σ H E I hf st hg;subst hP hw hK;obtain⟨xs,ys,x,y,hq,hq',hx,hy⟩:=hg;obtain⟨its,rv,p,hz⟩:=I.list hq;obtain⟨its',rv',p',hz'⟩:=I.list hq';obtain⟨u,hu,ru⟩:=rv.get hx;obtain⟨u',hu',ru'⟩:=rv'.get hy;have D:=EF F st p.isList p'.isList;obtain⟨s1,s2,⟨o1,o2,s3⟩,s4,s5⟩:=st;have lt:∀{c o},s.heap.get? c=some o->c<s.heap.objs.size:=fun q=>aad q;have l1:=lt s1;have l2:=lt s2;have l3:=lt s3;have l4:i1<s.heap.objs.size:=by obtain⟨_,q,_⟩:=s4;exact lt q
  have l5:i2<s.heap.objs.size:=by obtain⟨_,q,_⟩:=s5;exact lt q
  refine wpAny_pyNext_zip_item D s1 s2 s3 s4 s5 p.isList p'.isList (x:=u) (y:=u') (by simpa using hu) (by simpa using hu') fun h1 a1 a2 a3 a4 a5 a6 hk=>?_;refine⟨_,rfl,wpAny_letOwnedTupleGo_zip a1 fun h2 z2 hs2=>?_⟩;have ht2:h2.get? s.heap.objs.size=some { cls:=.type "tuple",data:=.seq #[u,u'] }:=(hs2.2 _ (ab2 l1)).trans a5;have k2:∀c o,c∉[z,TI,TO,i1,i2]->s.heap.get? c=some o->h2.get? c=some o:=fun c o hc q=>by simp only[aah,abn,or_false,not_or]at hc;exact(hs2.2 c hc.1).trans (hk c o hc.1 hc.2.2.1 hc.2.2.2.1 hc.2.2.2.2 q)
  have hn:H s.heap.objs.size=none:=I.hok.fresh (aab _);have I2:Inv X BU σ (upd H s.heap.objs.size (.tup [x,y])) { s with heap:=h2,toks:=s.toks }:=
   Ci I hf k2 (aab _) ⟨by simp[sizeLine],[u,u'],.cons ru (.cons ru' .nil),_,ht2,rfl,_,rfl⟩
  refine⟨.ref s.heap.objs.size,_,I2,rfl,⟨_,x,y,hn,rfl,rfl,fun vs hv=>by rw[I.uJ hv hq];exact hx,fun vs hv=>by rw[I.uJ hv hq'];exact hy⟩,⟨z2,?_,⟨_,_,hs2.extBut _ _ D.TOz a2⟩,?_,?_⟩,fun c hc=>?_⟩
  ·exact hs2.extBut _ _ D.TIz (hk TI _ D.TIz D.TITO D.TIi1 D.TIi2 s2)
  ·exact a3.extBut hs2.extBut D.i1z
  ·exact a4.extBut hs2.extBut D.i2z
  ·have hc1:c≠s.heap.objs.size:=fun q=>by
    simp only[aah,abn,or_false]at hc;rcases hc with r | r | r | r | r
    ·subst r;rw[q]at l1;exact aaZ _ l1
    ·subst r;rw[q]at l2;exact aaZ _ l2
    ·subst r;rw[q]at l3;exact aaZ _ l3
    ·subst r;rw[q]at l4;exact aaZ _ l4
    ·subst r;rw[q]at l5;exact aaZ _ l5
   rw[aM hc1];exact(hf c hc).1
 done:=by
  intro X hP hw hK hc i BU s σ H E I hf st hg;subst hP hw hK;obtain⟨xs,ys,hq,hq',hx⟩:=hg;obtain⟨its,rv,p,hz⟩:=I.list hq;obtain⟨its',rv',p',hz'⟩:=I.list hq';have hl:=rv.length;have hl':=rv'.length;have D:=EF F st p.isList p'.isList;obtain⟨s1,s2,⟨o1,o2,s3⟩,s4,s5⟩:=st;refine wpAny_pyNext_zip_end (I.ok.hd hc) D s1 s2 s3 s4 s5 p.isList p'.isList ?_ fun h' hk=>⟨rfl,GV (t':=s.toks) I hf fun c o hc q=>?_⟩
  ·rcases hx with hx | hx
   ·exact .inl (by simp;lia)
   ·exact .inr (by simp;lia)
  ·simp only[aah,abn,or_false,not_or]at hc;exact hk c o hc.1 hc.2.2.1 hc.2.2.2.1 hc.2.2.2.2 q
 self:=fun A i s Q E st h=>wpAny_pyIter_zip st.1 h
def RS(K:Dk)(ta:TA):TI:=fun σ H R=>ta σ H fun vs H1=>∃a b,vs=[.ref a,.ref b]/\(∃xs,SqL K H1 a xs)/\(∃ys,SqL K H1 b ys)/\R (Itz K a b) H1
section
variable{X:Cx}{l l':Expr}{ta:TA}{p pos:Pos}{elts:List Expr}{x1:Nat}{tp:Pos}
theorem Uw(hg:Gl X "zip")(hm:X.mg "zip" = none)(ha:PA X [l,l'] ta)(hs:starEach [l,l'] X.env=(false,eval l X.env)::starEach [l'] X.env:=by rfl)(hs2:(backTo pos (starEach [l'] X.env)).any (·.1)=false:=by rfl) :
  PI X (.Tuple elts x1 tp) (.Call (.Name "zip" p) [l,l'] [] pos) (RS X.K ta):=by
 intro BU s σ H R I h;refine Call_ (rA I hg hm boot_zip (abh (thn (ha pos BU s σ H _ I h) fun us s1 ⟨vs,H1,I1,r1,q1⟩=>?_) hs hs2));obtain⟨a,b,e,⟨xs,hq⟩,⟨ys,hq'⟩,q⟩:=q1;subst e;obtain⟨v1,v2,rfl,r,r'⟩:=vals2 r1;cases r;cases r';obtain⟨its,rv,pl,hz⟩:=I1.list hq;obtain⟨its',rv',pl',hz'⟩:=I1.list hq';refine call_zip_2 pl.isList pl'.isList fun h' e1 e2 e3 e4 e5 hsz k=>?_;have I2:Inv X BU σ H1 { s1 with heap:=h' }:=I1.kept (t':=s1.toks) k;have F:Dd (s1.heap.objs.size+4) (s1.heap.objs.size+2) (s1.heap.objs.size+3) s1.heap.objs.size (s1.heap.objs.size+1):=by constructor<;>first | exact aax (by lia) | exact ab2 (by lia)
 have T:=Mw (P:=X.prog) (w:=X.w) (K:=X.K) (elts:=elts) (x1:=x1) (tp:=tp) a b _ _ _ _ _ F;have st:Mv a b (s1.heap.objs.size+4) (s1.heap.objs.size+2) (s1.heap.objs.size+3) s1.heap.objs.size (s1.heap.objs.size+1) 0 h':=⟨e1,e2,⟨_,_,e3⟩,e4,e5⟩
 refine T.self X.A 0 { s1 with heap:=h' } _ X.xe st ?_;refine⟨s1.heap.objs.size+4,_,_,_,H1,rfl,I2,T,st,fun c hc=>?_,q⟩;have:s1.heap.objs.size<=c:=by simp only[aah,abn,or_false]at hc;rcases hc with r | r | r | r | r<;>(rw[r];first | exact Nat.le_add_right _ _ | exact aab _)
 exact I1.Lk this (I1.hok.fresh this)
end
theorem IM:∀(xs ys:List Dat),(Dm.BO xs ys).length=min xs.length ys.length
 |[],_=>by simp[Dm.BO]
 |_::_,[]=>by simp[Dm.BO]
 |x::xs,y::ys=>by simp[Dm.BO,IM xs ys]
theorem zip_get:∀(xs ys:List Dat) (j:Nat) (d:Dat),(Dm.BO xs ys)[j]?=some d->∃x y,xs[j]?=some x/\ys[j]?=some y/\d=.tup [x,y]
 |[],_,_,_,h=>by simp[Dm.BO]at h
 |_::_,[],_,_,h=>by simp[Dm.BO]at h
 |x::xs,y::ys,0,d,h=>by cases h;exact⟨x,y,rfl,rfl,rfl⟩
 |x::xs,y::ys,j+1,d,h=>zip_get xs ys j d h
theorem Ux{K:Dk}{H0:Hp}{a b:Addr}{xs ys:List V}{ds es:List Dat}(hq:Rd H0 a (.lst xs))(rs:bg H0 xs ds)(hq':Rd H0 b (.lst ys))(rs':bg H0 ys es):JW (Itz K a b) H0 (Dm.BO ds es):=by
 intro H0' H s0 s1;have q:SqL K H a xs:=.inl (aO.rd s1 (aO.rd s0 hq));have q':SqL K H b ys:=.inl (aO.rd s1 (aO.rd s0 hq'));refine⟨fun i hi=>⟨xs,ys,q,q',?_⟩,fun i d e=>?_⟩
 ·rw[IM]at hi;have:=rs.length;have:=rs'.length
  lia
 obtain⟨x,y,hx,hy,rfl⟩:=zip_get ds es i d e;obtain⟨v,hv,rv⟩:=rs.get hx;obtain⟨v',hv',rv'⟩:=rs'.get hy;refine⟨⟨xs,ys,v,v',q,q',hv,hv'⟩,fun r H' z=>?_⟩;obtain⟨p,u,u',hn,rfl,rfl,z1,z2⟩:=z;have w1:=z1 xs q;have w2:=z2 ys q';rw[hv]at w1;rw[hv']at w2;cases w1;cases w2;have g:=bG.Kh (o:=HO.tup [v,v']) s1 hn;exact⟨_,g,.tup aQ (.cons ((rv.mono s0).mono g.s0) (.cons ((rv'.mono s0).mono g.s0) .nil))⟩
section
variable{σ:L2.St}{H:Hp}{R:It->Hp->Prop}
theorem Uy{K:Dk}{f g:FE}(h:tDI (Dm.Mu f g) σ H R):RS K (tDA [f,g]) σ H R:=by
 obtain⟨H0,ρ,ys,ρ',st,e,k⟩:=h;unfold Dm.Mu at e;split at e
 ·rename_i vs ρ1 e1;split at e
  ·rename_i xs zs ρ2 e2;cases e;refine⟨H0,ρ,vs,ρ1,st,e1,fun us H0' H' t r=>?_⟩;obtain⟨H1,t1,b1,r1⟩:=takes t (aO.refl _) r e2;cases r1 with
   |cons q1 rr=>
    cases rr with
    |cons q2 rr=>
     cases rr;cases q1 with
     |lst q rs=>
      cases q2 with
      |lst q' rs'=>exact⟨_,_,rfl,⟨_,.inl (aO.rd t1.st.same q)⟩,⟨_,.inl (aO.rd t1.st.same q')⟩,k _ H1 H' t1 (Ux q rs q' rs')⟩
  ·cases e
 ·cases e
end
section
variable{X:Cx}{a b:Expr}{fa fb:FE}{p pos:Pos}{elts:List Expr}{x1:Nat}{tp:Pos}
theorem RT(hg:Gl X "zip")(hm:X.mg "zip" = none)(ha:DA X [a,b] [fa,fb])(hs:starEach [a,b] X.env=(false,eval a X.env)::starEach [b] X.env:=by rfl)(hs2:(backTo pos (starEach [b] X.env)).any (·.1)=false:=by rfl) :
  DI X (.Tuple elts x1 tp) (.Call (.Name "zip" p) [a,b] [] pos) (Dm.Mu fa fb):=PI.weak (Uw hg hm ha hs hs2) fun _ _ _=>Uy
end
end Br
namespace Dm
noncomputable def fnM(n m:Nat)(body:FS)(ds:List Dat):Option (RV×Dat):=if ds.length=n then (match ds with
 | d::r=>(match body (Cell.ow d::(r.map Cell.sh++Dp m .un)) with
  | some (.ret z ρ')=>(match ρ'[0]? with
   |some (Cell.ow d')=>some (z,d')
   |_=>none)
  | some (.nx ρ')=>(match ρ'[0]? with
   |some (Cell.ow d')=>some (.val .non,d')
   |_=>none)
  |_=>none)
 |[]=>none) else none
noncomputable def flat:Dat->Bool
 |.tup xs=>xs.all fun x=>!kj x
 |d=>!kj d
noncomputable def GW:Dat->Bool
 |.lst xs=>xs.all fun x=>!kj x
 |_=>false
noncomputable def eFm(f:List Dat->Option (RV×Dat))(j:Nat)(as:List FE):FE:=fun ρ=>match ρ[j]? with
 | some (.ow _)=>(match eAs as ρ with
  |none=>none
  | some (xs,ρ1)=>(match ρ1[j]? with
   | some (.ow d1)=>(match tks ρ1 xs with
    |none=>none
    | some (ds,ρ2)=>(match ρ2[j]? with
     | some (.ow d)=>(match f (d::ds) with
      |none=>none
      |some (v,d')=>if flat v.dat&&GW d' then some (v.cR,ρ1.set j (.ow d')) else some (v.cR,ρ2.set j (.ow d')))
     |_=>none))
   |_=>none))
 |_=>none
end Dm
namespace Br
open PySem PySem.Spec PyProof.Rows L2
section
variable{ρ:Dm.Env}{σ:L2.St}{a:Addr}
def spM(f:List Dat->Option (RV×Dat)):Sp:=fun vs H Q _=>∃H0 a us d ds z d',vs=V.ref a::us/\aO H0 H/\H0 a=none/\Own H0 H a d/\bg H0 us ds/\f (d::ds)=some (z,d') /\
 ∀v H0' H',Stp (fun b=>b=a) H0 H H0' H'->aO H0' H'->H0' a=none->Own H0' H' a d'->C5 H H0' H' v z->Q v H'
theorem u5{n m:Nat}{body:FS}{vs:List V}{H:Hp}{Q:VK}{E:XK}(h:spM (Dm.fnM n m body) vs H Q E):vs.length=n:=by
 obtain⟨H0,a,us,d,ds,z,d',e,_,_,_,rs,ef,_⟩:=h;unfold Dm.fnM at ef;split at ef
 ·rename_i hl;rw[e,aaR,rs.length]
  simpa using hl
 ·cases ef
theorem a_.wu{H0 H:Hp}{j:Nat}{d:Dat}(st:a_ H0 H σ ρ)(q:σ[j]?=some (some (V.ref a)))(no:¬aJ σ ρ a)(n0:H0 a=none)(w:Own H0 H a d):a_ H0 H σ (ρ.set j (.ow d)):=by
 have:=st.GP (i:=j) no n0 w;have e:σ.set j (some (V.ref a))=σ:=by
  apply abg;intro i;by_cases h:j=i
  ·subst h;have hl:j<σ.length:=(aag.mp q).1;rw[aap hl,q]
  ·rw[gV h]
 rw[e]at this;exact this
theorem a_.off{H0 H H0' H':Hp}(st:a_ H0 H σ ρ)(s0:aO H0 H0')(ss:aO H0' H')(no:¬aJ σ ρ a)(s1:∀b o,H b=some o->b≠a->H' b=some o)(s2:∀(i:Nat) (d:Dat) (b:Addr),ρ[i]?=some (Dm.Cell.ow d)->σ[i]?=some (some (V.ref b))->H0' b=none):a_ H0' H' σ ρ where
 same:=ss
 len:=st.len
 sh:=fun i d e=>by obtain⟨v,q,r⟩:=st.sh i d e;exact⟨v,q,r.mono s0⟩
 ow:=fun i d e=>by obtain⟨b,q,n,w⟩:=st.ow i d e;obtain⟨o,z⟩:=w.some;have nb:b≠a:=fun y=>no ⟨i,d,e,y▸q⟩;exact⟨b,q,s2 i d b e q,w.mono s0 ((s1 b o z nb).trans z.symm)⟩
 dis:=st.dis
theorem m7{H0 H1:Hp}:∀{xs:List V} {ds:List Dat},bg H0 xs ds->(ds.all fun x=>!Dm.kj x)=true->bg H1 xs ds
 |_,_,.nil,_=>.nil
 |_,_,.cons r rs,h=>by rw[acU,aau]at h;exact .cons (Rep.plain r (by simpa using h.1)) (m7 rs h.2)
end
section
variable{σ:L2.St}{H:Hp}{Q:VK}
theorem PV{f:List Dat->Option (RV×Dat)}{j:Nat}{fs:List FE}{E:XK}(h:tD (Dm.eFm f j fs) σ H Q):zO (spM f) [] E (tDA (Dm.eV j::fs)) σ H Q:=by
 obtain⟨H0,ρ,x,ρ',st,e,k⟩:=h;unfold Dm.eFm at e;split at e
 case h_2=>cases e
 rename_i d0 h0;split at e
 ·cases e
 rename_i xs ρ1 e1;split at e
 case h_2=>cases e
 rename_i d1 h1;split at e
 ·cases e
 rename_i ds ρ2 e2;split at e
 case h_2=>cases e
 rename_i d h2;split at e
 ·cases e
 rename_i z d' fz;have ea:Dm.eAs (Dm.eV j::fs) ρ=some (.slot j::xs,ρ1):=by unfold Dm.eAs;rw[show Dm.eV j ρ=some (.slot j,ρ) from by unfold Dm.eV;rw[h0]];dsimp only;rw[e1]
 refine⟨H0,ρ,.slot j::xs,ρ1,st,ea,fun vs H1 Hb t1 r1=>?_⟩;dsimp only;rw[aaP];cases r1 with
 |cons r0 rr=>
  obtain⟨H2,t2,b2,r2⟩:=takes t1 (aO.refl _) rr e2;obtain⟨a,qa,na,wa⟩:=t2.st.ow j d h2;obtain⟨q0,_⟩:=r0;rw[qa]at q0;cases q0;obtain⟨a1,qa1,na1,wa1⟩:=t1.st.ow j d1 h1;rw[qa]at qa1;cases qa1;obtain⟨oa,ha⟩:=wa.some;have hl2:j<ρ2.length:=(aag.mp h2).1;have hl1:j<ρ1.length:=(aag.mp h1).1;have oa0:aJ σ ρ a:=t1.own a ⟨j,d1,h1,qa⟩;refine⟨H2,a,_,d,ds,z,d',rfl,t2.st.same,na,wa,r2,fz,fun v H3 Hd s3 ss n3 w3 r3=>?_⟩;have no2:¬aJ σ (ρ2.set j .un) a:=fun y=>by obtain⟨i,d4,hi,y1,y2⟩:=jB y;exact hi (t2.st.dis i j d4 d a y1 h2 y2 qa)
  have no1:¬aJ σ (ρ1.set j .un) a:=fun y=>by obtain⟨i,d4,hi,y1,y2⟩:=jB y;exact hi (t1.st.dis i j d4 d1 a y1 h1 y2 qa)
  split at e
  ·rename_i fl;cases e;rw[aau]at fl;obtain⟨f1,f2⟩:=fl;have wp:∀H',Own H' Hd a d':=fun H'=>by
    cases d' with
    |lst ys=>obtain⟨us,y1,y2⟩:=w3;exact⟨us,y1,m7 y2 f2⟩
    |_=>cases f2
   have Tr:∀H1':Hp,aO H1 H1'->aO H1' Hd->(∀b o,H1' b=some o->H1 b=some o\/((∃us,o=.tup us)/\H3 b=some o))->oK H H1' Hd σ (ρ1.set j (.ow d')) v z.cR->Q v Hd:=fun H1' m1 m2 m3 rv=>by
    have hd3:∀b,H1' b≠none->b≠a:=fun b hb y=>by
     subst y;cases y2:H1' b with
     |none=>exact hb y2
     |some o=>
      rcases m3 b o y2 with y3 | ⟨_,y3⟩
      ·rw[na1]at y3;cases y3
      ·rw[n3]at y3;cases y3
    have n1':H1' a=none:=by
     cases y:H1' a with
     |none=>rfl
     |some o=>exact absurd rfl (hd3 a (by rw[y];exact fun q=>nomatch q))
    have sm:a_ H1' Hd σ (ρ1.set j .un):=by
     refine(t1.st.mask j).off m1 m2 no1 (fun b o y nb=>s3.s1 b o y nb) fun i d4 b y1 y2=>?_;obtain⟨b',q',nb',w'⟩:=(t1.st.mask j).ow i d4 y1;rw[y2]at q';cases q';cases y:H1' b with
     |none=>rfl
     |some o=>
      rcases m3 b o y with y3 | ⟨⟨us,y4⟩,y3⟩
      ·rw[nb']at y3;cases y3
      ·subst y4;have nb:b≠a:=hd3 b (by rw[y];exact fun q=>nomatch q);cases d4 with
       |lst _=>obtain⟨ws,z1,_⟩:=w';have z2:=s3.s1 b _ z1 nb;rw[ss _ _ y3]at z2;cases z2
       |dct _ _=>obtain⟨ws,z1,_⟩:=w';have z2:=s3.s1 b _ z1 nb;rw[ss _ _ y3]at z2;cases z2
       |dcp _ _=>obtain⟨ws,z1,_⟩:=w';have z2:=s3.s1 b _ z1 nb;rw[ss _ _ y3]at z2;cases z2
       |_=>exact aat w'
    have sf:a_ H1' Hd σ (ρ1.set j (.ow d')):=by have:=sm.wu qa no1 n1' (wp H1');rw[acW]at this;exact this
    refine k v H1' Hd ⟨sf,⟨t1.stp.s0.trans m1,fun b o y nb=>?_,fun b o y=>?_,fun b o y=>?_⟩,fun b y=>?_,fun i y=>?_⟩ rv
    ·have y1:=t1.stp.s1 b o y nb;exact s3.s1 b o y1 fun q=>nb (by rw[q];exact oa0)
    ·rcases m3 b o y with y3 | ⟨_,y3⟩
     ·exact t1.stp.s2 b o y3
     ·rcases s3.s2 b o y3 with y4 | y4 | y4
      ·exact .inl (t1.stp.gone y4)
      ·exact t2.stp.s2 b o y4
      ·subst y4;rw[n3]at y3;cases y3
    ·obtain⟨o',y1⟩:=t1.stp.s3 b o y;exact s3.s3 b o' y1
    ·obtain⟨i,d4,y1,y2⟩:=y;by_cases hi:j=i
     ·subst hi;rw[qa]at y2;cases y2;exact oa0
     ·rw[gV hi]at y1;exact t1.own b ⟨i,d4,y1,y2⟩
    ·trivial
   have m0:aO H1 Hd:=fun b o y=>s3.s1 b o (t1.st.same _ _ y) fun q=>by rw[q,na1]at y;cases y
   cases z with
   |new d4=>
    obtain⟨_,_,_,_,w⟩:=r3;cases d4 with
    |lst _=>cases f1
    |dct _ _=>cases f1
    |dcp _ _=>cases f1
    |_=>exact aat w
   |val d4=>
    have r3':Rep H3 v d4:=r3;cases d4 with
    |tup es=>
     cases r3' with
     |tup q rs=>
      rename_i a2 us;have rp:bg H1 us es:=m7 rs f1;refine Tr (upd H1 a2 (.tup us)) (fun b o y=>?_) (fun b o y=>?_) (fun b o y=>?_) (.tup aQ (m7 rs f1))
      ·by_cases hb:b=a2
       ·subst hb;have:=s3.s0 _ _ (b2 _ _ y);rw[q]at this;rw[aQ,this]
       ·rw[aM hb];exact y
      ·by_cases hb:b=a2
       ·subst hb;rw[aQ]at y;cases y;exact ss _ _ q
       ·rw[aM hb]at y;exact m0 _ _ y
      ·by_cases hb:b=a2
       ·subst hb;rw[aQ]at y;cases y;exact .inr ⟨⟨us,rfl⟩,q⟩
       ·rw[aM hb]at y;exact .inl y
    |lst _=>cases f1
    |dct _ _=>cases f1
    |dcp _ _=>cases f1
    |exc _=>cases f1
    |jA _ _=>cases f1
    |fn _=>exact Tr H1 (aO.refl _) m0 (fun b o y=>.inl y) (Rep.plain r3' rfl)
    |non=>exact Tr H1 (aO.refl _) m0 (fun b o y=>.inl y) (Rep.plain r3' rfl)
    |bl _=>exact Tr H1 (aO.refl _) m0 (fun b o y=>.inl y) (Rep.plain r3' rfl)
    |int _=>exact Tr H1 (aO.refl _) m0 (fun b o y=>.inl y) (Rep.plain r3' rfl)
    |str _=>exact Tr H1 (aO.refl _) m0 (fun b o y=>.inl y) (Rep.plain r3' rfl)
  ·cases e;have sm:a_ H3 Hd σ (ρ2.set j .un):=by
    refine(t2.st.mask j).off s3.s0 ss no2 (fun b o y nb=>s3.s1 b o y nb) fun i d4 b y1 y2=>?_;obtain⟨b',q',nb',w'⟩:=(t2.st.mask j).ow i d4 y1;rw[y2]at q';cases q';obtain⟨ob,hob⟩:=w'.some;cases y:H3 b with
    |none=>rfl
    |some o=>
     rcases s3.s2 b o y with y3 | y3 | y3
     ·rw[hob]at y3;cases y3
     ·rw[nb']at y3;cases y3
     ·exact absurd ⟨i,d4,y1,y3▸y2⟩ no2
   have sf:a_ H3 Hd σ (ρ2.set j (.ow d')):=by have:=sm.wu qa no2 n3 w3;rw[acW]at this;exact this
   have of:∀b,aJ σ (ρ2.set j (.ow d')) b->b=a\/aJ σ ρ2 b:=fun b ⟨i,d4,y1,y2⟩=>by
    by_cases hi:j=i
    ·subst hi;rw[qa]at y2;cases y2;exact .inl rfl
    ·rw[gV hi]at y1;exact .inr ⟨i,d4,y1,y2⟩
   refine k v H3 Hd ⟨sf,t2.stp.trans s3 (fun b y=>.inl (y▸oa0)),fun b y=>?_,fun i y=>?_⟩ ?_
   ·rcases of b y with y | y
    ·exact y▸oa0
    ·exact t2.own b y
   ·trivial
   ·cases z with
    |val d4=>exact r3
    |new d4=>
     obtain⟨b,y0,y1,y2,y3⟩:=r3;refine⟨b,y0,t2.stp.gone y1,fun y=>?_,y2,y3⟩;rcases of b y with y | y
     ·subst y;rw[ha]at y1;cases y1
     ·exact t2.st.cS y1 y
end
theorem dh{X:Cx}{es:List Expr}{p pos px:Pos}{k:Nat}{F:Addr}{fd:FuncData}{ps:List Str}{g:List Dat->Option (RV×Dat)}{x y:Str}{j:Nat}{fs:List FE}(G:bI X.prog X.w X.K X.mg X.base CX0 k F fd ps (spM g))(hr:b9 k X.A)(hg:Gl X x)(hm:X.mg x=some (.ref F))(hk:aaW X.K (.ref F)=true)(hb:Binds X.K fd ps [])
  (ha:DA X (.Name y px::es) (Dm.eV j::fs)) (XW:(x == ("__debug__" : Str))=false:=by decide) (he:starEach (.Name y px::es) X.env=(false,eval (.Name y px) X.env)::starEach es X.env:=by rfl) (KD:(backTo pos (starEach es X.env)).any (·.1)=false:=by rfl) :
  DE X (.Call (.Name x p) (.Name y px::es) [] pos) (Dm.eFm g j fs):=PE.weak (zq G hr hg hm hk hb .nil (En (X:=X)) ha XW he KD) fun _ _ _=>PV
theorem IP{N:List Str}{n m:Nat}{body:FS}{vs:List V}{H:Hp}{Q:VK}{E:XK}(hm:N.length=n+m)(h:spM (Dm.fnM n m body) vs H Q E) :
  tDS body { nx:=fun _ H'=>Q .non H',rt:=Q } (start N vs) H:=by
 have hvn:=u5 h;obtain⟨H0,a,us,d,ds,z,d',e,s,na,wa,rs,ef,k⟩:=h;subst e;have hl:=rs.length;rw[aaR]at hvn;have e0:(start N (V.ref a::us))[0]?=some (some (V.ref a)):=rfl;have get:∀{i:Nat} {c:Dm.Cell},(Dm.Cell.ow d::(ds.map Dm.Cell.sh++Dp m .un))[i]?=some c->(i=0/\c=.ow d)\/(∃i' d4,i=i'+1/\ds[i']?=some d4/\c=.sh d4)\/c=.un:=fun {i c} y=>by
  cases i with
  |zero=>cases y;exact .inl ⟨rfl,rfl⟩
  |succ i=>
   rw[abu]at y;by_cases hi:i<ds.length
   ·rw[aae (by simpa using hi),aao,aaI hi]at y;cases y;exact .inr (.inl ⟨i,ds[i],rfl,aaI hi,rfl⟩)
   ·rw[aav (by simpa using hi),aaK]at y;split at y
    ·cases y;exact .inr (.inr rfl)
    ·cases y
 have ow0:∀{i:Nat} {d4:Dat},(Dm.Cell.ow d::(ds.map Dm.Cell.sh++Dp m .un))[i]?=some (.ow d4)->i=0/\d4=d:=fun {i d4} y=>by
  rcases get y with⟨y1,y2⟩ | ⟨_,_,_,_,y2⟩ | y2
  ·cases y2;exact⟨y1,rfl⟩
  ·cases y2
  ·cases y2
 have oa:∀b,aJ (start N (V.ref a::us)) (Dm.Cell.ow d::(ds.map Dm.Cell.sh++Dp m .un)) b->b=a:=fun b ⟨i,d4,y1,y2⟩=>by obtain⟨y3,_⟩:=ow0 y1;subst y3;rw[e0]at y2;cases y2;rfl
 have st:a_ H0 H (start N (V.ref a::us)) (Dm.Cell.ow d::(ds.map Dm.Cell.sh++Dp m .un)):=by
  refine⟨s,?_,fun i d4 y=>?_,fun i d4 y=>?_,fun i i' d4 d5 b y1 y2 _ _=>(ow0 y1).1.trans (ow0 y2).1.symm⟩
  ·unfold L2.start;simp only[aan,Pa,abx,aaR];omega
  ·rcases get y with⟨_,y2⟩ | ⟨i',d5,y1,y2,y3⟩ | y2
   ·cases y2
   ·cases y3;subst y1;obtain⟨v,hv,r⟩:=rs.get y2;refine⟨v,?_,r⟩;have hi:i'<us.length:=(aag.mp hv).1;unfold L2.start;rw[aae (by simp;omega),aao,abu,hv];rfl
   ·cases y2
  ·obtain⟨y1,y2⟩:=ow0 y;subst y1 y2;exact⟨a,e0,na,wa⟩
 have Tr:∀{σ':L2.St} {ρ':Dm.Env} {H0' H':Hp},SSt (start N (V.ref a::us)) (Dm.Cell.ow d::(ds.map Dm.Cell.sh++Dp m .un)) H0 H σ' ρ' H0' H'->ρ'[0]?=some (.ow d')->Stp (fun b=>b=a) H0 H H0' H'/\H0' a=none/\Own H0' H' a d'/\aJ σ' ρ' a:=fun {σ' ρ' H0' H'} t y=>by obtain⟨a',q',n',w'⟩:=t.st.ow 0 d' y;have fx:=t.fx;rw[e0,q']at fx;cases fx;exact⟨t.stp.wide fun b z=>oa b z,n',w',0,d',y,q'⟩
 unfold Dm.fnM at ef;split at ef
 case isFalse=>cases ef
 dsimp only at ef;split at ef
 ·rename_i z' ρ' e1;split at ef
  case h_2=>cases ef
  rename_i d4 y;cases ef;refine⟨H0,_,_,st,e1,fun σ' v H0' H' t r no=>?_⟩;obtain⟨f1,f2,f3,f4⟩:=Tr t y;refine k v H0' H' f1 t.st.same f2 f3 ?_;cases z with
  |val d5=>exact r
  |new d5=>
   obtain⟨b,y0,y1,y2,y3⟩:=r;refine⟨b,y0,?_,y2,y3⟩;rcases y1 with y1 | y1
   ·exact y1
   ·exact absurd f4 (oa b y1▸no d5 b rfl y0)
 ·rename_i ρ' e1;split at ef
  case h_2=>cases ef
  rename_i d4 y;cases ef;refine⟨H0,_,_,st,e1,fun σ' H0' H' t=>?_⟩;obtain⟨f1,f2,f3,f4⟩:=Tr t y;exact k _ H0' H' f1 t.st.same f2 f3 .non
 ·cases ef
end Br
namespace Dm
noncomputable def cL:List Int->List Dat->Int->Option Dat
 |k::ks,v::vs,i=>if k=i then some v else cL ks vs i
 |_,_,_=>none
noncomputable def IQ:List Int->List Dat->Int->Dat->List Dat
 |k::ks,v::vs,i,d=>(if k=i then d else v)::IQ ks vs i d
 |_,_,_,_=>[]
noncomputable def xX(ks:List Int)(i:Int):List Int:=if (ks.any fun k=>decide (k=i))=true then ks else ks++[i]
noncomputable def xY(ks:List Int)(vs:List Dat)(i:Int)(d:Dat):List Dat:=if (ks.any fun k=>decide (k=i))=true then IQ ks vs i d else vs++[d]
noncomputable def eDn:FE:=fun ρ=>some (.new (.dct [] []),ρ)
noncomputable def gDx:Dat->Dat->Option RV
 |.dct ks vs,.int i=>(cL ks vs i).map .val
 |_,_=>none
noncomputable def EG:Dat->Dat->Option RV
 |.int i,.dct ks vs=>vB (cL ks vs i).isSome
 |_,_=>none
noncomputable def z6:Dat->Dat->Option RV
 |.int i,.dct ks vs=>vB (!(cL ks vs i).isSome)
 |_,_=>none
noncomputable def xZ(a b:FE):FE:=fun ρ=>match a ρ with
 |none=>none
 |some (x,ρ1)=>match pk ρ1 x with
  | some (.dct _ _)=>(match b ρ1 with
   |none=>none
   |some (y,ρ2)=>match pk ρ2 x with
    | some (.dct ks vs)=>(match pk ρ2 y with
     |some (.int i)=>some (.val ((cL ks vs i).getD .non),ρ2)
     |_=>none)
    |_=>none)
  |_=>none
noncomputable def eD1(a b:FE):FE:=fun ρ=>match a ρ with
 | some (.val (.int i),ρ1)=>(match b ρ1 with
  |none=>none
  |some (x,ρ2)=>match tk ρ2 x with
   |none=>none
   |some (d,ρ3)=>some (.new (.dct [i] [d]),ρ3))
 |_=>none
noncomputable def u6(i:Nat)(j e:FE):FS:=fun ρ=>match e ρ with
 |none=>none
 |some (x,ρ1)=>match tk ρ1 x with
  |none=>none
  |some (d,ρ2)=>match ρ2[i]? with
   | some (.ow _)=>(match j ρ2 with
    | some (.val (.int k),ρ3)=>(match ρ3[i]? with
     |some (.ow (.dct ks vs))=>if ks.length<SZ then some (.nx (ρ3.set i (.ow (.dct (xX ks k) (xY ks vs k d))))) else none
     |_=>none)
    |_=>none)
   |_=>none
end Dm
namespace Br
open PySem PySem.Spec PyProof.Rows L2
section
variable{ds:List Dat}{ks:List Int}{H0:Hp}{d:Dat}{v:V}
theorem kZ{H0 H:Hp}(s:aO H0 H)(r:rF H0 H v (.dct ks ds)):∃a kvs,v=.ref a/\H a=some (.dK kvs)/\kvs.map (·.1)=ks.map aaF/\bg H0 (kvs.map (·.2)) ds:=by
 rcases r with r | ⟨a,e,kvs,q,ek,rs⟩
 ·cases r with
  |dct q ek rs=>exact⟨_,_,rfl,s _ _ q,ek,rs⟩
 ·exact⟨a,kvs,e,q,ek,rs⟩
theorem De{a b:Int}(h:¬a=b):¬(aaF a:Key)=aaF b:=fun q=>h (Sum.inl.inj q)
theorem qA(i:Int):∀{kvs:List (Key×V)} {ks:List Int} {ds:List Dat},kvs.map (·.1)=ks.map aaF->bg H0 (kvs.map (·.2)) ds ->
  (∃d v,Dm.cL ks ds i=some d/\mL kvs (aaF i)=some v/\Rep H0 v d)\/(Dm.cL ks ds i=none/\mL kvs (aaF i)=none)
 |[],[],_,_,r=>by cases r;exact .inr ⟨rfl,rfl⟩
 |[],_::_,_,e,_=>by cases e
 |_::_,[],_,e,_=>by cases e
 |(k0,v0)::kvs,k::ks,_,e,r=>by
  rw[gc]at r;cases r with
  |cons r0 rr=>
   rw[gc,gc]at e;injection e with e1 e2
   have e1:k0=aaF k:=e1;subst e1;unfold Dm.cL;by_cases h:k=i
   ·subst h;rw[if_pos rfl];exact .inl ⟨_,v0,rfl,oB rfl,r0⟩
   ·rw[if_neg h,oE (De h)];exact qA i e2 rr
theorem Mx(i:Int):∀{kvs:List (Key×V)} {ks:List Int},kvs.map (·.1)=ks.map aaF->(kvs.any fun kv=>decide (kv.1=aaF i))=(ks.any fun k=>decide (k=i))
 |[],[],_=>rfl
 |[],_::_,e=>by cases e
 |_::_,[],e=>by cases e
 |(k0,v0)::kvs,k::ks,e=>by
  rw[gc,gc]at e;injection e with e1 e2
  have e1:k0=aaF k:=e1;subst e1;rw[abc,abc,Mx i e2]
  congr 1
  by_cases h:k=i
  ·subst h;simp
  ·have:=De h;simp[h,this]
theorem IS(i:Int)(rv:Rep H0 v d):∀{kvs:List (Key×V)} {ks:List Int} {ds:List Dat},kvs.map (·.1)=ks.map aaF->bg H0 (kvs.map (·.2)) ds ->
  ((kvs.map fun kv=>if kv.1=aaF i then (kv.1,v) else kv).map (·.1)=ks.map aaF)/\bg H0 ((kvs.map fun kv=>if kv.1=aaF i then (kv.1,v) else kv).map (·.2)) (Dm.IQ ks ds i d)
 |[],[],_,_,r=>by cases r;exact⟨rfl,.nil⟩
 |[],_::_,_,e,_=>by cases e
 |_::_,[],_,e,_=>by cases e
 |(k0,v0)::kvs,k::ks,_,e,r=>by
  rw[gc]at r;cases r with
  |cons r0 rr=>
   rw[gc,gc]at e;injection e with e1 e2
   have e1:k0=aaF k:=e1;subst e1;obtain⟨i1,i2⟩:=IS i rv e2 rr;unfold Dm.IQ;by_cases h:k=i
   ·subst h;rw[if_pos rfl,gc,gc,gc,i1];simp only[if_true];exact⟨trivial,.cons rv i2⟩
   ·rw[if_neg h,gc,gc,gc,i1];have:=De h;simp only[this,if_false];exact⟨trivial,.cons r0 i2⟩
theorem Uz(i:Int)(rv:Rep H0 v d){kvs:List (Key×V)}(e:kvs.map (·.1)=ks.map aaF)(r:bg H0 (kvs.map (·.2)) ds) :
  (putK kvs (aaF i) v).map (·.1)=(Dm.xX ks i).map aaF/\bg H0 ((putK kvs (aaF i) v).map (·.2)) (Dm.xY ks ds i d):=by
 have ha:=Mx i e;unfold putK Dm.xX Dm.xY;rw[ha];cases hb:(ks.any fun k=>decide (k=i)) with
 |true=>simp only[if_true];exact IS i rv e r
 |false=>simp only[aaU,if_false];rw[aaj,aaj,aaj,e];exact⟨rfl,r.append (.cons rv .nil)⟩
theorem Xm:OpD (fun x y H Q=>∃a v,x=.ref a/\j8 H a y (some v)/\Q v H) Dm.gDx:=by
 intro H0 H x y dx dy z Q s rx ry e k;unfold Dm.gDx at e;split at e
 ·rename_i ks vs i;cases bw ry;obtain⟨a,kvs,rfl,qa,ek,rs⟩:=kZ s rx;rcases qA i ek rs with⟨d,v,l1,l2,r⟩ | ⟨l1,_⟩
  ·rw[l1]at e;cases e;refine⟨a,v,rfl,?_,k _ H0 H (bG.refl s) r⟩;have:=j8.k (k:=aaF i) qa;rw[l2]at this;exact this
  ·rw[l1]at e;cases e
 ·cases e
theorem UA:OpD (fun y x H Q=>∃a o,x=.ref a/\j8 H a y o/\Q (.bl o.isSome) H) Dm.EG:=by
 intro H0 H x y dx dy z Q s rx ry e k;unfold Dm.EG at e;split at e
 ·rename_i i ks vs;cases e;cases bw rx;obtain⟨a,kvs,rfl,qa,ek,rs⟩:=kZ s ry;refine⟨a,_,rfl,j8.k (k:=aaF i) qa,k _ H0 H (bG.refl s) ?_⟩;rcases qA i ek rs with⟨d,v,l1,l2,r⟩ | ⟨l1,l2⟩
  ·rw[l1,l2];exact .bl _
  ·rw[l1,l2];exact .bl _
 ·cases e
theorem PX:OpD (fun y x H Q=>∃a o,x=.ref a/\j8 H a y o/\Q (.bl (!o.isSome)) H) Dm.z6:=by
 intro H0 H x y dx dy z Q s rx ry e k;unfold Dm.z6 at e;split at e
 ·rename_i i ks vs;cases e;cases bw rx;obtain⟨a,kvs,rfl,qa,ek,rs⟩:=kZ s ry;refine⟨a,_,rfl,j8.k (k:=aaF i) qa,k _ H0 H (bG.refl s) ?_⟩;rcases qA i ek rs with⟨d,v,l1,l2,r⟩ | ⟨l1,l2⟩
  ·rw[l1,l2];exact .bl _
  ·rw[l1,l2];exact .bl _
 ·cases e
end
section
variable{σ:L2.St}{H:Hp}{Q:VK}{D:Ends}
theorem ZA(h:tD Dm.eDn σ H Q):LK σ H Q:=by obtain⟨H0,ρ,x,ρ',st,e,k⟩:=h;cases e;intro p hp;have g:=bG.uQ (o:=HO.dK []) st.same hp;exact k _ _ _ (.grow st g) ⟨p,rfl,hp,st.cS hp,st.same.free hp,[],aQ,rfl,.nil⟩
theorem UB{fo fi:FE}(h:tD (Dm.xZ fo fi) σ H Q):GL (tD fo) (tD fi) σ H Q:=by
 obtain⟨H0,ρ,x,ρ',st,e,k⟩:=h;unfold Dm.xZ at e;split at e
 ·cases e
 rename_i x1 ρ1 e1;split at e
 case h_2=>cases e
 rename_i ks0 vs0 p0;split at e
 ·cases e
 rename_i y1 ρ2 e2;split at e
 case h_2=>cases e
 rename_i ks vs p1;split at e
 case h_2=>cases e
 rename_i i p2;cases e;refine⟨H0,ρ,x1,ρ1,st,e1,fun v H1 Hb t1 r1=>?_⟩;obtain⟨a,UC,rfl,qa0,_,_⟩:=kZ t1.st.same (r1.look t1.st p0);refine⟨a,rfl,.inl ⟨UC,.inl qa0⟩,H1,ρ1,y1,_,t1.st,e2,fun u H2 Hc t2 r2=>?_⟩;have hu:=bw (r2.look t2.st p2);subst hu;obtain⟨a',kvs,ea,qa,ek,rs⟩:=kZ t2.st.same ((r1.mono t2).look t2.st p1);cases ea;refine⟨_,j8.k (k:=aaF i) qa,k _ H2 Hc (t1.trans t2) ?_⟩;rcases qA i ek rs with⟨d,w,l1,l2,r⟩ | ⟨l1,l2⟩
 ·rw[l1,l2];exact r
 ·rw[l1,l2];exact Rep.non
theorem UD{i:Nat}{j f:FE}(h:tDS (Dm.u6 i j f) D σ H):LG (v9 i) (tD j) (tD f) D σ H:=by
 obtain⟨H0,ρ,o,st,e,k⟩:=h;unfold Dm.u6 at e;split at e
 ·cases e
 rename_i x ρ1 e1;split at e
 ·cases e
 rename_i d ρ2 e2;split at e
 case h_2=>cases e
 rename_i d0 h2;split at e
 ·rename_i m ρ3 e3;split at e
  ·rename_i ks vs h3;split at e
   case isFalse=>cases e
   rename_i hz;cases e;refine⟨H0,ρ,_,ρ1,st,e1,fun v H0' H' t r=>?_⟩;obtain⟨H1,t1,b1,r1,_,_⟩:=take1 t (aO.refl _) r e2;obtain⟨a0,q0,_,_⟩:=t1.st.ow i _ h2;refine⟨_,q0,H1,ρ2,_,ρ3,t1.st,e3,fun u H2 Hc t2 r2=>?_⟩;obtain⟨a,q,n,w⟩:=t2.st.ow i _ h3;rw[q0]at q;cases q;obtain⟨kvs,y,ek,rs⟩:=w;have hu:=Rep.isInt r2;subst hu;obtain⟨p1,p2⟩:=Uz m (r1.mono t2.stp.s0) ek rs;have Fp:kvs.length=ks.length:=by
    have:=congrArg List.length ek
    simpa using this
   refine⟨a0,_,rfl,Er.k (k:=aaF m) y (by rw[Fp];exact aam hz (by decide)),?_⟩;have ow:aJ σ ρ3 a0:=⟨i,_,h3,q0⟩
   have tt:=t1.trans t2;exact k σ H2 _ ⟨t2.st.write h3 q0 ⟨_,aQ,p1,p2⟩,tt.stp.trans (Stp.write ow) fun b z=>.inl (tt.own b z),fun b z=>.inl (tt.own b (cZ h3 z)),rfl⟩
  ·cases e
 ·cases e
theorem ZC{fa fb:FE}(h:tD (Dm.eD1 fa fb) σ H Q):RK [(tD fa,tD fb)] σ H Q:=by
 obtain⟨H0,ρ,x,ρ',st,e,k⟩:=h;unfold Dm.eD1 at e;split at e
 ·rename_i i ρ1 e1;split at e
  ·cases e
  rename_i y ρ2 e2;split at e
  ·cases e
  rename_i d ρ3 e3;cases e;intro p hp;have n0:H0 p=none:=st.same.free hp;have no:¬aJ σ ρ p:=st.cS hp;refine⟨H0,ρ,_,ρ1,st.aside n0 no,e1,fun u H1 Hb t1 r1=>⟨H1,ρ1,y,ρ2,t1.st,e2,fun v H2 Hc t2 r2=>?_⟩⟩;have tt:=t1.trans t2;obtain⟨H3,t3,b3,r3,_,_⟩:=take1 tt (aO.refl _) (r2.early fun a n=>t1.stp.gone n) e3;obtain⟨hp3,n3,no3⟩:=t3.kq (o:=HO.dK []) aQ n0 no;have hu:=Rep.isInt r1;subst hu;refine⟨hp3,[(aaF i,v)],rfl,(by simp),?_⟩;have em:we [] [((aaF i:Key),v)]=[(aaF i,v)]:=rfl;rw[em];refine k _ H3 _ ⟨t3.st.aside n3 no3,⟨t3.stp.s0,fun a o y nb=>?_,fun a o y=>?_,fun a o y=>?_⟩,t3.own,t3.dfn⟩ ⟨p,rfl,hp,no3,n3,_,aQ,rfl,.cons r3 .nil⟩
  ·have ne:a≠p:=fun q=>by rw[q,hp]at y;cases y
   rw[aM ne];exact t3.stp.s1 a o (by rw[aM ne];exact y) nb
  ·rcases t3.stp.s2 a o y with y1 | y1 | y1
   ·by_cases ne:a=p
    ·subst ne;rw[n3]at y;cases y
    ·rw[aM ne]at y1;exact .inl y1
   ·exact .inr (.inl y1)
   ·exact .inr (.inr y1)
  ·have ne:a≠p:=fun q=>by rw[q,hp]at y;cases y
   rw[aM ne];exact t3.stp.s3 a o (by rw[aM ne];exact y)
 ·cases e
end
theorem u1{k:Nat}{A:Around}(hr:b9 k A):A.units+1<cLine:=Nat.lt_of_le_of_lt (Nat.add_le_add_left (by decide) _) hr.units
section
variable{X:Cx}{a b e:Expr}{fa fb f:FE}{pos:Pos}{k:Nat}
theorem PY:DE X (.Dict [] [] pos) Dm.eDn:=PE.weak LM fun _ _ _=>ZA
theorem ZD(ha:DE X a fa)(hb:DE X b fb):DE X (.Dict [some a] [b] pos) (Dm.eD1 fa fb):=PE.weak (Ph (LO ha hb Pg) rfl rfl (by simp) (by simp)) fun _ _ _=>ZC
theorem GX(hr:b9 k X.A)(ha:DE X a fa)(hb:DE X b fb)(hs:Pd b:=by intro _ _;rfl):DE X (.Subscript a b pos) (Dm.e2 Dm.gDx fa fb):=PE.weak (Iw (u1 hr) ha hb hs) fun _ _ _=>C6 Xm
theorem IT(hr:b9 k X.A)(ha:DE X a fa)(hb:DE X b fb)(hm:behindInMarks .In b=false:=by rfl):DT X (.Compare a [.In] [b] pos) (Dm.tV (Dm.e2 Dm.EG fa fb)):=PT.weak (Gx (LH (u1 hr) ha hb) hm) fun σ H Q h=>C6 UA (zT h)
theorem GY(hr:b9 k X.A)(ha:DE X a fa)(hb:DE X b fb)(hm:behindInMarks .NotIn b=false:=by rfl):DT X (.Compare a [.NotIn] [b] pos) (Dm.tV (Dm.e2 Dm.z6 fa fb)):=PT.weak (Gx (Kc (u1 hr) ha hb) hm) fun σ H Q h=>C6 PX (zT h)
theorem My{Nd cpos:Pos}(hr:b9 k X.A)(ha:DE X a fa)(hb:DE X b fb)(m:M1 X a "get" Nd b cpos:=by exact⟨rfl,rfl,rfl,rfl⟩):DE X (.Call (.Attribute a "get" Nd) [b] [] cpos) (Dm.xZ fa fb):=PE.weak (Eu (u1 hr) ha hb m) fun _ _ _=>UB
theorem Df(i:Nat){x:Str}{px sp:Pos}(hr:b9 k X.A)(hb:DE X b fb)(he:DE X e f)(hi:X.N[i]?=some x:=by rfl)(hv:Vis X.env.scope x:=by trivial)(hd:(x == ("__debug__" : Str))=false:=by decide)
  (R1:(x == ("__classdict__" : Str))=false:=by decide) (hs:swapsWith e (some (.Subscript (.Name x px) b sp)) pos.line X.env=pure false:=by rfl):DS X (.Assign [.Subscript (.Name x px) b sp] e pos) (Dm.u6 i fb f):=
 PS.weak (Iz (u1 hr) (kT hi hv hd R1) hb he hs) fun _ _ _=>UD
end
end Br
namespace Dm
noncomputable def Z4(i:Nat):FE:=fun ρ=>match ρ[i]? with
 | some (.ow (.lst ds))=>(match ds[ds.length-1]? with
  |some d=>some (.val d,ρ.set i (.ow (.lst (ds.take (ds.length-1)))))
  |none=>none)
 |_=>none
noncomputable def GZ(a:FE)(lo hi:Option FE):FE:=fun ρ=>match a ρ with
 |none=>none
 |some (x,ρ1)=>match part lo ρ1 with
  |none=>none
  |some (l,ρ2)=>match part hi ρ2 with
   |none=>none
   |some (h,ρ3)=>match pk ρ3 x with
    |some (.tup xs)=>if sIx xs.length 0 l=0/\sIx xs.length xs.length h=xs.length then none else some (.val (.tup (cut xs l h)),ρ3)
    |_=>none
noncomputable def IU:List Dat->Option RV
 |[.tup [.int a,.int b]]=>if -1000000<=a/\a<=1000000/\-1000000<=b/\b<=1000000 then vI (a+b) else none
 |_=>none
end Dm
namespace Br
open PySem PySem.Spec PyProof.Rows L2
section
variable{σ:L2.St}{H:Hp}{Q:VK}
theorem ZE{K:Dk}{f:FE}{Q:Bool->Hp->Prop}(h:tDT (Dm.tTr f) σ H Q):tD f σ H fun x H'=>∃k,TM K x H' k/\Q k H':=by
 obtain⟨H0,ρ,b,ρ',st,e,k⟩:=h;unfold Dm.tTr at e;split at e
 ·cases e
 rename_i x ρ1 e1;split at e
 ·cases e
 rename_i d p1;split at e
 ·cases e
 rename_i c tc;cases e;refine⟨H0,ρ,x,_,st,e1,fun v H1 Hb t1 r1=>⟨b,?_,k H1 Hb t1⟩⟩;have rl:=r1.look t1.st p1;cases d with
 |non=>
  cases tc;rcases rl with r | ⟨a,_,w⟩
  ·cases r;rfl
  ·exact aat w
 |bl c=>cases tc;cases Pr rl;rfl
 |int i=>cases tc;cases bw rl;rfl
 |tup es=>cases tc;obtain⟨a,xs,rfl,qa,rs⟩:=mR t1.st.same rl;refine .inr (.inl ⟨xs,SqT.of qa,?_⟩);cases rs<;>rfl
 |lst es=>cases tc;obtain⟨a,xs,rfl,qa,rs⟩:=cT t1.st.same rl;refine .inl ⟨xs,.inl qa,?_⟩;cases rs<;>rfl
 |str _=>cases tc
 |dct _ _=>cases tc
 |dcp _ _=>cases tc
 |exc _=>cases tc
 |jA _ _=>cases tc
 |fn _=>cases tc
end
section
variable{X:Cx}{a:Expr}{fa:FE}{p pos:Pos}
theorem ZF(ha:DE X a fa)(he:∀whole,isTrue a X.env whole=(do let v <- whole;standAt a.pos;holding [v] (truthy v)):=by intro _;rfl):DT X a (Dm.tTr fa):=PT.weak (Lu ha he) fun _ _ _=>ZE
end
section
variable{X:Cx}{a b e:Expr}{fa fb f:FE}{fs:List FE}{p p2 pos:Pos}
theorem Xn{K:Dk}{lo hi:Option FE}{σ:L2.St}{H:Hp}{Q:VK}(h:tD (Dm.GZ f lo hi) σ H Q):tSl (WD K) (tD f) (tOf lo) (tOf hi) σ H Q:=by
 obtain⟨H0,ρ,x,ρ',st,e,k⟩:=h;unfold Dm.GZ at e;split at e
 ·cases e
 rename_i x1 ρ1 e1;split at e
 ·cases e
 rename_i l ρ2 e2;split at e
 ·cases e
 rename_i hh ρ3 e3;split at e
 ·rename_i ds p1;split at e
  ·cases e
  rename_i X0;cases e;refine⟨H0,ρ,x1,ρ1,st,e1,fun v H1 Hb t1 r1=>?_⟩;refine zv t1.st e2 fun H2 Hc t2=>?_;refine zv t2.st e3 fun H3 Hd t3=>?_;have tt:=t1.trans (t2.trans t3);obtain⟨a,xs,rfl,qa,ra⟩:=mR t3.st.same ((r1.mono (t2.trans t3)).look t3.st p1);refine⟨a,xs,rfl,SqT.of qa,?_,fun q hq=>?_⟩
  ·rw[ra.length,Dc _ _ _ (aaY _),Dc _ _ _ (aab _)];exact X0
  ·have g:=bG.Kh (o:=HO.tup (BH xs l hh)) t3.st.same hq;exact k _ _ _ (tt.trans (.grow t3.st g)) (.tup aQ ((Cg ra l hh).mono g.s0))
 ·cases e
theorem RU{lo hi:Option Expr}{flo fhi:Option FE}(h:DE X e f)(hl:PO X lo (tOf flo))(hh:PO X hi (tOf fhi)):DE X (.Subscript e (.Slice lo hi none p2) pos) (Dm.GZ f flo fhi):=PE.weak (Ej TX h hl hh) fun _ _ _=>Xn
theorem Ku(hc:X.calm=true):iz X (.builtin "sum") (fun xs H Q=>∃(q:Addr) (i j:Int),xs=[.ref q]/\H q=some (.tup [.int i,.int j])/\(-1000000<=i/\i<=1000000/\-1000000<=j/\j<=1000000)/\Q (.int (i+j)) H):=by
 intro BU s σ H xs us Q I r h;obtain⟨q,i,j,rfl,hq,hb,k⟩:=h;obtain⟨u,rfl,rx⟩:=vals1 r;cases rx;obtain⟨its,rv,pl,hz⟩:=I.tuple (SqT.of hq);obtain⟨u1,u2,rfl,r1,r2⟩:=vals2 rv;obtain⟨t1,rfl⟩:=r1;obtain⟨t2,rfl⟩:=r2;have ht:s.heap.IsTuple q #[.int i t1,.int j t2]:=pl;obtain⟨oq,eq,_⟩:=id ht;have hax:q≠s.heap.objs.size:=aax (aad eq);refine PySem.call_sum_walk (wpAny_pyIter_tuple ht ⟨s.heap.objs.size,_,_,_,_,_,fun n=>if n=0 then i else j,rfl,Walks.tuple (A:=X.A.in1) (I.ok.hd hc) s.heap.objs.size q hax #[.int i t1,.int j t2],⟨⟨_,aaJ _ rfl,rfl,rfl⟩,?_⟩,?_,?_,?_,fun h' tk t' hk=>?_⟩)
 ·exact ht.at fun o e=>aac _ e
 ·intro b hb;simp only[aah,abn,or_false]at hb;have hz:(s.heap.push { cls:=.type "tuple_iterator",data:=.fields #[.ref q,.int 0 0] }).objs.size=s.heap.objs.size+1:=Heap.size_push ..;show b<(s.heap.push { cls:=.type "tuple_iterator",data:=.fields #[.ref q,.int 0 0] }).objs.size;rw[hz];rcases hb with rfl | rfl
  ·exact Nat.lt_succ_self _
  ·exact acC (aad eq)
 ·intro n v hv
  match n,hv with
  |0,hv=>cases hv;exact⟨t1,rfl⟩
  |1,hv=>cases hv;exact⟨t2,rfl⟩
  |n+2,hv=>simp at hv
 ·intro n hn;have hn:n<2:=hn
  match n,hn with
  |0,_=>simp[InLong,preSum];lia
  |1,_=>simp[InLong,preSum];lia
 ·refine⟨.int (i+j),H,I.kept (t':=tk) fun b o eb=>hk b o ?_ (aac _ eb),⟨t',?_⟩,k⟩
  ·intro hm;have:b=s.heap.objs.size:=by simpa using hm
   exact absurd (aad eb) (by rw[this];exact aaZ _)
  ·simp[preSum]
theorem PZ:CallD (fun xs H Q=>∃(q:Addr) (i j:Int),xs=[.ref q]/\H q=some (.tup [.int i,.int j])/\(-1000000<=i/\i<=1000000/\-1000000<=j/\j<=1000000)/\Q (.int (i+j)) H) Dm.IU:=by
 intro H0 H xs ds z Q s rx e k;unfold Dm.IU at e;split at e
 ·rename_i i j;split at e
  ·rename_i hb;cases e;cases rx with
   |cons r rr=>
    cases rr;obtain⟨q,us,rfl,qa,ra⟩:=mR s r;cases ra with
    |cons r1 rr=>
     cases rr with
     |cons r2 rr=>cases rr;cases Rep.isInt r1;cases Rep.isInt r2;exact⟨q,i,j,rfl,qa,hb,k _ H0 H (bG.refl s) (.int _)⟩
  ·cases e
 ·cases e
theorem UE(hc:X.calm=true)(hg:Gl X "sum")(hm:X.mg "sum" = none)(ha:DA X [e] fs)(he:starEach [e] X.env=[(false,eval e X.env)]:=by rfl)(KD:(backTo pos (starEach [] X.env)).any (·.1)=false:=by rfl):DE X (.Call (.Name "sum" p) [e] [] pos) (Dm.eB Dm.IU fs):=GS (Ku hc) PZ PyProof.Rows.boot_sum hg hm ha (he:=he) (KD:=KD)
end
end Br
namespace Dm
noncomputable def x_:List Dat->Option (List Int)
 |[]=>some []
 |.int i::r=>(x_ r).map fun ns=>i::ns
 |_=>none
noncomputable def dedup(ns:List Int):List Int:=ns.foldl (fun KG x=>if KG.any (· == x) then KG else KG++[x]) []
noncomputable def zw:Dat->Option RV
 | .lst ds=>(match x_ ds with
  |some ns=>if ns.length<=4000 then vI (dedup ns).length else none
  |none=>none)
 |_=>none
end Dm
namespace Br
open PySem PySem.Spec PyProof.Rows L2
def Ek(K:Dk):List V->Hp->VK->Prop:=fun xs H Q=>∃(q:Addr) (ns:List Int),xs=[.ref q]/\SqL K H q (ns.map V.int)/\ns.length+1<scanBound /\
 ∀l,H l=none->Q (.ref l) (upd H l (.set (fun k'=>(firstMet (fun i=>ns.getD i 0) ns.length).any (· == k')) (firstMet (fun i=>ns.getD i 0) ns.length).length))
def RW:List V->Hp->VK->Prop:=fun xs H Q=>∃(q:Addr) (S:Int->Bool) (n:Nat),xs=[.ref q]/\H q=some (.set S n)/\Q (.int n) H
theorem intsAre_of:∀{ns:List Int} {its:List Value},Vals (ns.map V.int) its->IntsAre its ns
 |[],_,r=>by cases r;exact .nil
 |n::ns,_,r=>by
  rw[gc]at r;cases r with
  |cons h t=>obtain⟨tk,rfl⟩:=h;exact .cons _ _ (intsAre_of t)
section
variable{X:Cx}
theorem Kv(hc:X.calm=true):iz X (.type "set") (Ek X.K):=by
 intro BU s σ H xs us Q I r h;obtain⟨q,ns,rfl,hq,hb,k⟩:=h;obtain⟨u,rfl,rx⟩:=vals1 r;cases rx;obtain⟨its,rv,pl,hz⟩:=I.list hq;have hl:=rv.length;rw[Pa]at hl;refine call_set_list (ns:=ns) (I.ok.hd hc) pl.isList (intsAre_of rv) (by rw[aai,<- hl];exact hb) fun h' tk hS hk=>?_;have hz2:its.toArray.size=ns.length:=by rw[aai,<- hl]
 rw[hz2]at hS;exact⟨.ref s.heap.objs.size,_,I.laid (a:=s.heap.objs.size) (o:=.set (fun k'=>(firstMet (fun i=>ns.getD i 0) ns.length).any (· == k')) (firstMet (fun i=>ns.getD i 0) ns.length).length) (t':=tk) (fun b u e=>hk b u (aad e) e) (aab _) hS,rfl,k _ (I.hok.fresh (aab _))⟩
theorem Kw:iz X (.builtin "len") RW:=by intro BU s σ H xs us Q I r h;obtain⟨q,S,n,rfl,hq,k⟩:=h;obtain⟨u,rfl,rx⟩:=vals1 r;cases rx;obtain⟨o,es,ep,t,ho,hex,hd,_,_,hb,hf,hn⟩:s.heap.SetOf (intKind X.prog X.w) q S n:=I.hok q _ hq;have hb':es.size<4096:=hb;refine call_len_set ho hex hd hf (by lia) ?_;exact⟨.int n,H,I.tok _,⟨_,by rw[hn]⟩,k⟩
end
theorem z7{H0:Hp}:∀{ds:List Dat} {xs:List V} {ns:List Int},bg H0 xs ds->Dm.x_ ds=some ns->xs=ns.map V.int
 |[],_,ns,r,e=>by cases r;cases e;rfl
 |d::ds,_,ns,r,e=>by
  cases r with
  |cons h t=>
   cases d with
   |int i=>
    unfold Dm.x_ at e;cases q:Dm.x_ ds with
    |none=>rw[q]at e;cases e
    |some ms=>rw[q]at e;cases e;cases Rep.isInt h;rw[z7 t q];rfl
   |_=>cases e
theorem range_getD(ns:List Int):(aas ns.length).map (fun i=>ns.getD i 0)=ns:=by
 apply abg;intro i;rw[aao];by_cases h:i<ns.length
 ·rw[abb h,aaI h];simp[abm,h]
 ·rw[aaq (by simpa using h),aaq (by simpa using h)];rfl
theorem z8(ns:List Int):(firstMet (fun i=>ns.getD i 0) ns.length)=Dm.dedup ns:=by unfold firstMet Dm.dedup;rw[range_getD];rfl
section
variable{X:Cx}{e:Expr}{f:FE}{p p0 pos BN:Pos}
theorem Mz{K:Dk}{σ:L2.St}{H:Hp}{Q:VK}(h:tD (Dm.e1 Dm.zw f) σ H Q):tCB RW (xR (tCB (Ek K) (xR (tD f) CU)) CU) σ H Q:=by
 obtain⟨H0,ρ,x,ρ',st,e,k⟩:=h;unfold Dm.e1 at e;split at e
 ·cases e
 rename_i x1 ρ1 e1;split at e
 ·cases e
 rename_i dx p1;split at e
 ·cases e
 rename_i z gz;cases e;unfold Dm.zw at gz;split at gz
 ·rename_i ds;split at gz
  ·rename_i ns en;split at gz
   ·rename_i hb;cases gz;refine⟨H0,ρ,x1,_,st,e1,fun v H1 Hb t1 r1=>?_⟩;obtain⟨a,xs,rfl,qa,ra⟩:=cT t1.st.same (r1.look t1.st p1);have ex:=z7 ra en;subst ex;refine⟨a,ns,rfl,.inl qa,by show ns.length+1<4096;lia,fun l hl=>⟨l,_,_,rfl,aQ,?_⟩⟩;rw[z8];exact k _ _ _ (t1.trans (.grow t1.st (bG.uQ t1.st.same hl))) (Rep.int _)
   ·cases gz
  ·cases gz
 ·cases gz
theorem MA(hc:X.calm=true)(hgl:Gl X "len")(hml:X.mg "len" = none)(hg:Gl X "set")(hm:X.mg "set" = none)(h:DE X e f)(hs:starEach [e] X.env=[(false,eval e X.env)]:=by rfl)
  (hs0:starEach [.Call (.Name "set" p) [e] [] pos] X.env=[(false,eval (.Call (.Name "set" p) [e] [] pos) X.env)]:=by rfl) (KD:(backTo pos (starEach [] X.env)).any (·.1)=false:=by rfl) (ZG:(backTo BN (starEach [] X.env)).any (·.1)=false:=by rfl) :
  DE X (.Call (.Name "len" p0) [.Call (.Name "set" p) [e] [] pos] [] BN) (Dm.e1 Dm.zw f):=
 PE.weak (oA Kw hgl hml PySem.boot_len (kD (B9 (Kv hc) hg hm (by rfl) (kD h oz hs) (he:=hs) (KD:=KD)) oz hs0) (he:=hs0) (KD:=ZG)) fun _ _ _=>Mz
end
end Br
namespace Ts
open PySem PyProof.Rows
variable{M:Model}{A:Around}{E:Value->Shared->Prop}{s:Shared}{κ:KeyKind}{kd:SortKind}{a₀:Array Keyed}
end Ts
namespace Ts
open PySem PyProof.Rows
variable{M:Model}{A:Around}{E:Value->Shared->Prop}{s:Shared}{κ:KeyKind}{kd:SortKind}{a₀:Array Keyed}
end Ts
namespace Ts
open PySem PyProof.Rows
variable{M:Model}{A:Around}{E:Value->Shared->Prop}{s:Shared}{κ:KeyKind}{kd:SortKind}{a₀:Array Keyed}
end Ts
namespace Ts
open PySem PyProof.Rows
variable{M:Model}{A:Around}{E:Value->Shared->Prop}{s:Shared}{κ:KeyKind}{kd:SortKind}{a₀:Array Keyed}
end Ts
namespace Ts
open PySem PyProof.Rows
variable{A:Around}{E:Value->Shared->Prop}{s:Shared}{κ:KeyKind}{kd:SortKind}{a₀:Array Keyed}{prog:Program}{w:World}
end Ts
namespace Ts
open PySem PyProof.Rows
variable{A:Around}{E:Value->Shared->Prop}{s:Shared}{κ:KeyKind}{kd:SortKind}{a₀:Array Keyed}{prog:Program}{w:World}
end Ts
namespace Ts
open PySem PyProof.Rows
variable{A:Around}{E:Value->Shared->Prop}{s:Shared}{κ:KeyKind}{kd:SortKind}{a₀:Array Keyed}{prog:Program}{w:World}
end Ts
namespace Ts
open PySem PyProof.Rows
variable{A:Around}{E:Value->Shared->Prop}{s:Shared}{κ:KeyKind}{kd:SortKind}{a₀:Array Keyed}{prog:Program}{w:World}
end Ts
namespace Ts
open PySem PyProof.Rows
variable{A:Around}{E:Value->Shared->Prop}{s:Shared}{κ:KeyKind}{kd:SortKind}{prog:Program}{w:World}
end Ts
namespace Ts
open PySem PyProof.Rows
variable{A:Around}{E:Value->Shared->Prop}{s:Shared}{κ:KeyKind}{kd:SortKind}{a₀:Array Keyed}{prog:Program}{w:World}
end Ts
namespace Ts
open PySem PyProof.Rows
variable{A:Around}{E:Value->Shared->Prop}{s:Shared}{κ:KeyKind}{kd:SortKind}{prog:Program}{w:World}
end Ts
namespace Dm
section
variable{α:Type}
noncomputable def ins{α:Type}(lt:α->α->Bool)(x:α):List α->List α
 |[]=>[x]
 |y::l=>if lt y x then y::ins lt x l else x::y::l
noncomputable def kr{α:Type}(lt:α->α->Bool):List α->List α
 |[]=>[]
 |x::l=>ins lt x (kr lt l)
theorem z_(lt:α->α->Bool)(x:α):∀l,(ins lt x l).Perm (x::l)
 |[]=>List.Perm.refl _
 |y::l=>by
  rw[ins];split
  ·exact((z_ lt x l).cons y).trans (List.Perm.swap x y l)
  ·exact List.Perm.refl _
theorem k7(lt:α->α->Bool):∀l,(kr lt l).Perm l
 |[]=>List.Perm.refl _
 |x::l=>(z_ lt x _).trans ((k7 lt l).cons x)
theorem Aa{lt:α->α->Bool}(tr:∀a b c,lt b a=false->lt c b=false->lt c a=false)(as:∀a b,lt a b=true->lt b a=false)(x:α):∀l:List α,l.Pairwise (fun a b=>lt b a=false)->(ins lt x l).Pairwise (fun a b=>lt b a=false)
 |[],_=>by simp[ins]
 |y::l,h=>by
  rw[ins];obtain⟨h1,h2⟩:=abP.mp h;split
  ·rename_i hl;refine abP.mpr ⟨fun z hz=>?_,Aa tr as x l h2⟩;rcases aah.mp ((z_ lt x l).mem_iff.mp hz) with rfl | hz
   ·exact as _ _ hl
   ·exact h1 z hz
  ·rename_i hl;have hl':lt y x=false:=by simpa using hl
   refine abP.mpr ⟨fun z hz=>?_,h⟩;rcases aah.mp hz with rfl | hz
   ·exact hl'
   ·exact tr _ _ _ hl' (h1 z hz)
theorem kG{lt:α->α->Bool}(tr:∀a b c,lt b a=false->lt c b=false->lt c a=false)(as:∀a b,lt a b=true->lt b a=false):∀l:List α,(kr lt l).Pairwise (fun a b=>lt b a=false)
 |[]=>acu.nil
 |x::l=>Aa tr as x _ (kG tr as l)
theorem oR{lt:α->α->Bool}(tot:∀a b,lt a b=false->lt b a=false->a=b):∀{l m:List α},l.Perm m->l.Pairwise (fun a b=>lt b a=false)->m.Pairwise (fun a b=>lt b a=false)->l=m
 |[],m,p,_,_=>(List.nil_perm.mp p).symm
 |x::l,[],p,_,_=>by have:=p.length_eq;simp at this
 |x::l,y::m,p,h1,h2=>by
  obtain⟨a1,a2⟩:=abP.mp h1;obtain⟨b1,b2⟩:=abP.mp h2;have e:x=y:=by
   rcases aah.mp (p.mem_iff.mp PU) with hx | hx
   ·exact hx
   ·rcases aah.mp (p.mem_iff.mpr (PU (a:=y) (l:=m))) with hy | hy
    ·exact hy.symm
    ·exact tot x y (b1 x hx) (a1 y hy)
  subst e;rw[oR tot (List.Perm.cons_inv p) a2 b2]
noncomputable def G0(i:Nat)(e:FE):FS:=fun ρ=>match ρ[i]? with
 | some (.ow (.lst _))=>(match e ρ with
  |none=>none
  |some (x,ρ1)=>match pk ρ1 x with
   | some (.lst es)=>(match ρ1[i]? with
    |some (.ow (.lst ds))=>if ds.length+es.length<=SZ then some (.nx (ρ1.set i (.ow (.lst (ds++es))))) else none
    |_=>none)
   |_=>none)
 |_=>none
noncomputable def wz(i:Nat)(e:FE):FE:=fun ρ=>match ρ[i]? with
 | some (.ow (.lst _))=>(match e ρ with
  | some (.val (.int j),ρ1)=>(match ρ1[i]? with
   | some (.ow (.lst ds))=>if 0≤j∧j≤BIG then (match ds[j.toNat]? with
     |some d=>some (.val d,ρ1.set i (.ow (.lst (ds.eraseIdx j.toNat))))
     |none=>none) else none
   |_=>none)
  |_=>none)
 |_=>none
noncomputable def isN:Dat->Bool
 |.non=>true
 |_=>false
noncomputable def EH:Dat->Dat->Option RV
 |d,.non=>vB (isN d)
 |_,_=>none
noncomputable def Ck:Dat->Dat->Option RV
 |d,.non=>vB (!isN d)
 |_,_=>none
noncomputable def oS(bad:List Dat->Bool)(fs:List FE)(ρ:Env):Option Env:=match eAs fs ρ with
 |none=>none
 |some (xs,ρ1)=>match pks ρ1 xs with
  |none=>none
  |some ds=>if bad ds then some ρ1 else none
noncomputable def rIf(t:FT)(R S:Env->Option Env)(ρ:Env):Option Env:=match t ρ with
 |none=>none
 |some (true,ρ1)=>R ρ1
 |some (false,ρ1)=>S ρ1
noncomputable def Xo(ρ:Env):Option Env:=some ρ
noncomputable def rNo(_:Env):Option Env:=none
noncomputable def fnX(n m:Nat)(R:Env->Option Env)(ds:List Dat):Bool:=decide (ds.length=n)&&(R (ds.map .sh++Dp m .un)).isSome
noncomputable def EI(C:Nat)(b:Bool):Dat->Option RV
 |.exc C'=>if C'=C then vB b else none
 |.jA C' _=>if C'=C then vB b else none
 |_=>none
end
end Dm
namespace Br
open PySem PySem.Spec PyProof.Rows L2
theorem wA{H0:Hp}:∀ns:List Int,bg H0 (ns.map V.int) (ns.map Dat.int)
 |[]=>.nil
 |n::ns=>.cons (.int n) (wA ns)
section
variable{X:Cx}{a b c e:Expr}{f fa fb:FE}{fs:List FE}{p pos:Pos}
def P0(neg:Bool):R2:=fun x y H Q=>y=.non/\Q (.bl (if neg then !decide (x=V.non) else decide (x=V.non))) H
theorem IV{x:V}{v:Value}(r:RelV x v):(v == Value.none)=decide (x=V.non):=by
 cases x with
 |non=>cases r;rfl
 |bl b=>cases r;rfl
 |int i=>obtain⟨t,rfl⟩:=r;rfl
 |str z=>obtain⟨t,rfl⟩:=r;rfl
 |byt z=>obtain⟨t,rfl⟩:=r;rfl
 |flt z=>obtain⟨t,rfl⟩:=r;rfl
 |ref z=>cases r;rfl
 |ty z=>cases r;rfl
theorem MB:OpR X (compareOp .Is) (P0 false):=by intro BU s σ H x y v u Q I rx ry h;obtain⟨rfl,q⟩:=h;cases ry;refine is_none_gen ?_;rw[IV rx];exact⟨.bl _,H,I,rfl,q⟩
theorem zx{H0 H:Hp}{x:V}{d:Dat}(r:rF H0 H x d):decide (x=V.non)=Dm.isN d:=by
 rcases r with r | ⟨a,rfl,w⟩
 ·cases r<;>rfl
 ·cases d with
  |non=>exact aat w
  |_=>rfl
theorem MC:OpD (P0 false) Dm.EH:=by
 intro H0 H x y dx dy z Q s rx ry e k;unfold Dm.EH at e;split at e
 ·cases e;have hy:=zx ry;have:y=V.non:=of_decide_eq_true (hy.trans rfl);refine⟨this,?_⟩;rw[if_neg (by decide),zx rx];exact k _ H0 H (bG.refl s) (.bl _)
 ·cases e
theorem RX(ha:DE X a fa)(hb:DE X b fb):DE X (.Compare a [.Is] [b] pos) (Dm.e2 Dm.EH fa fb):=Ce MB MC ha hb (j7 _)
theorem Xp(ha:DE X a fa)(hb:DE X b fb):DT X (.Compare a [.Is] [b] pos) (Dm.tV (Dm.e2 Dm.EH fa fb)):=uV MB MC ha hb (j7 _)
end
section
variable{X:Cx}
def RY:V->List V->Hp->VK->Prop:=fun x vs H Q=>∃l b xs zs,x=.ref l/\vs=[.ref b]/\H l=some (.lst xs)/\Rd H b (.lst zs)/\xs.length+zs.length<=sizeLine/\Q .non (upd H l (.lst (xs++zs)))
theorem P1:MtM X "list.extend" RY:=by
 intro BU s σ H x vs v us Q I rx rv h;obtain⟨l,b,xs,zs,rfl,rfl,hH,hB,hz,q⟩:=h;cases rx;obtain⟨u,rfl,ru⟩:=rv.one;cases ru;obtain⟨z,its,n,r,hl,e⟩:=I.T7 hH;obtain⟨z2,its2,n2,r2,e2⟩:=hB.ok I.hok;have hl2:=r2.length;have tot:its.toArray.size+its2.toArray.size<=sizeLine:=by simp only[aai];lia
 have short:¬(!its.toArray.isEmpty&&abI (its.toArray.size+its2.toArray.size))=true:=by rw[El tot,Bool.and_false];decide
 refine call_meets F.slot_list_extend ⟨_,e,rfl⟩ F.entry_list_extend (F.args_list_extend_2 _ _) (AutoSeq1.list_extend_list_list_0 l its.toArray n b its2.toArray n2 short (by rw[aai];lia) (by lia)) ⟨e,e2,?_⟩;exact⟨.non,_,I.T5 (its':=its++its2) hH e (by simp) (r.append r2) (by rw[aan];lia),rfl,q⟩
end
section
variable{σ:L2.St}{H:Hp}{Q:VK}{D:Ends}
theorem Xq{K:Dk}{i:Nat}{f:FE}(h:tDS (Dm.G0 i f) D σ H):Ed (tBM K "list" RY (v9 i) (tDA [f])) D σ H:=by
 obtain⟨H0,ρ,o,st,e,k⟩:=h;unfold Dm.G0 at e;split at e
 case h_2=>cases e
 rename_i ds0 h0;obtain⟨a0,q0,n0,w0⟩:=st.ow i _ h0;refine⟨_,q0,?_⟩;split at e
 ·cases e
 rename_i x ρ1 e1;split at e
 case h_2=>cases e
 rename_i es p1;split at e
 case h_2=>cases e
 rename_i ds h2;split at e
 case isFalse=>cases e
 rename_i hz;cases e;obtain⟨xs0,y0,_⟩:=w0;refine⟨.inl ⟨rfl,xs0,.inl (.inl y0)⟩,?_⟩;refine⟨H0,ρ,[x],ρ1,st,by unfold Dm.eAs;rw[e1];rfl,fun vs H0' H' t r=>?_⟩;cases r with
 |cons r rr=>
  cases rr;obtain⟨b,zs,rfl,qb,rb⟩:=cT t.st.same (r.look t.st p1);obtain⟨a,q,n,w⟩:=t.st.ow i _ h2;rw[q0]at q;cases q;obtain⟨xs,y,rs⟩:=w;refine⟨a0,b,xs,zs,rfl,rfl,y,qb,by rw[rs.length,rb.length];exact aaE hz (by decide),?_⟩;have ow:aJ σ ρ1 a0:=⟨i,_,h2,q0⟩
  exact k σ H0' _ ⟨t.st.write h2 q0 ⟨_,aQ,rs.append rb⟩,t.stp.trans (Stp.write ow) fun b z=>.inl (t.own b z),fun b z=>.inl (t.own b (cZ h2 z)),rfl⟩
theorem Ab{α:Type}(l:List α)(i:Nat):l.eraseIdx i=l.take i++l.drop (i+1):=List.eraseIdx_eq_take_drop_succ l i
theorem G1{H0:Hp}{vs:List V}{ds:List Dat}(i:Nat)(r:bg H0 vs ds):bg H0 (vs.eraseIdx i) (ds.eraseIdx i):=by rw[Ab,Ab];exact(r.take i).append (r.drop (i+1))
theorem P4{K:Dk}{i:Nat}{f:FE}(h:tD (Dm.wz i f) σ H Q):tBM K "list" Lz (v9 i) (tDA [f]) σ H Q:=by
 obtain⟨H0,ρ,x,ρ',st,e,k⟩:=h;unfold Dm.wz at e;split at e
 case h_2=>cases e
 rename_i ds0 h0;obtain⟨a0,q0,n0,w0⟩:=st.ow i _ h0;refine⟨_,q0,?_⟩;obtain⟨xs0,y0,_⟩:=w0;refine⟨.inl ⟨rfl,xs0,.inl (.inl y0)⟩,?_⟩;split at e
 case h_2=>cases e
 rename_i j ρ1 e1;split at e
 case h_2=>cases e
 rename_i ds h2;split at e
 case isFalse=>cases e
 rename_i hb;split at e
 case h_2=>cases e
 rename_i d hd;cases e;refine⟨H0,ρ,[.val (.int j)],ρ1,st,by unfold Dm.eAs;rw[e1];rfl,fun vs H0' H' t r=>?_⟩;cases r with
 |cons r rr=>
  cases rr;cases Rep.isInt r;obtain⟨a,q,n,w⟩:=t.st.ow i _ h2;rw[q0]at q;cases q;obtain⟨xs,y,rs⟩:=w;obtain⟨v,hv,rv⟩:=rs.get hd;have NO:j.toNat<xs.length:=(aag.mp hv).1;have hB:Dm.BIG=1000000000:=rfl;refine⟨a0,xs,j,j.toNat,v,rfl,rfl,y,by lia,by lia,?_,hv,?_⟩
  ·unfold seqIndex?;simp only[show ¬j<0 by lia,if_false];rw[if_pos (by rw[decide_eq_true (show 0<=j by lia),decide_eq_true (show j<(xs.length:Int) by lia)];rfl)]
  have ow:aJ σ ρ1 a0:=⟨i,_,h2,q0⟩
  have hi:i<ρ1.length:=(aag.mp h2).1;refine k v H0' _ (t.trans ⟨t.st.write h2 q0 ⟨_,aQ,G1 _ rs⟩,Stp.write ow,fun b z=>cZ h2 z,fun j' z=>trivial⟩) rv
end
section
variable{X:Cx}{e:Expr}{f:FE}{pos:Pos}
theorem RZ(i:Nat){x:Str}{px ap cp:Pos}(he:DE X e f)(hi:X.N[i]?=some x:=by rfl)(hv:Vis X.env.scope x:=by trivial)(hd:(x == ("__debug__" : Str))=false:=by decide)
  (R1:(x == ("__classdict__" : Str))=false:=by decide) (XZ:attributeBase (.Name x px) "extend" X.env (eval (.Name x px) X.env)=eval (.Name x px) X.env:=by rfl)
  (hfew:((backTo cp (starEach [e] X.env)).all (fun x=>!x.1)&&(backToKw cp (keywordEach [] X.env)).all (fun x=>x.1.isSome)
   && decide ([e].length+([]:List Keyword).length+(if ([]:List Keyword).isEmpty then 0 else 1)<30))=true:=by rfl)
  (XY:(ap.endLine == cp.line)=true:=by rfl) (hs:starEach [e] X.env=(false,eval e X.env)::starEach [] X.env:=by rfl) (R5:(backTo cp (starEach [] X.env)).any (·.1)=false:=by rfl)
  (hsw:swapsWith (.Call (.Attribute (.Name x px) "extend" ap) [e] [] cp) none pos.line X.env=pure false:=by rfl) :
  DS X (.Expr (.Call (.Attribute (.Name x px) "extend" ap) [e] [] cp) pos) (Dm.G0 i f):=
 PS.weak (uK (Ir abM PySem.F.slot_list_extend PySem.F.type_list_extend P1 (kT hi hv hd R1) (aa he aj hs) XZ hfew XY hs R5) hsw) fun _ _ _=>Xq
theorem P5(i:Nat){x:Str}{px ap cp:Pos}(he:DE X e f)(hi:X.N[i]?=some x:=by rfl)(hv:Vis X.env.scope x:=by trivial)(hd:(x == ("__debug__" : Str))=false:=by decide)
  (R1:(x == ("__classdict__" : Str))=false:=by decide) (XZ:attributeBase (.Name x px) "pop" X.env (eval (.Name x px) X.env)=eval (.Name x px) X.env:=by rfl)
  (hfew:((backTo cp (starEach [e] X.env)).all (fun x=>!x.1)&&(backToKw cp (keywordEach [] X.env)).all (fun x=>x.1.isSome)
   && decide ([e].length+([]:List Keyword).length+(if ([]:List Keyword).isEmpty then 0 else 1)<30))=true:=by rfl)
  (XY:(ap.endLine == cp.line)=true:=by rfl) (hs:starEach [e] X.env=(false,eval e X.env)::starEach [] X.env:=by rfl) (R5:(backTo cp (starEach [] X.env)).any (·.1)=false:=by rfl) :
  DE X (.Call (.Attribute (.Name x px) "pop" ap) [e] [] cp) (Dm.wz i f):=
 PE.weak (Ir abM PySem.F.slot_list_pop PySem.F.type_list_pop LA (kT hi hv hd R1) (aa he aj hs) XZ hfew XY hs R5) fun _ _ _=>P4
end
end Br
namespace L2
open PySem PySem.Spec PyProof.Rows
def CXE(P:Program)(w:World)(C:Addr):CXT:=fun outer H s E e s'=>
 ∃ea a0 B H',e=.ref ea/\s'.os=s.os/\AllBare s'.gens/\Un (frs outer) [] H H' s.heap s'.heap/\HOk P w H' s'.heap/\Heap.FlyingW B outer ea (.ref C) a0 s'.heap /\
  (∀b o,s'.heap.get? b=some o->(s.heap.get? b).isSome=true\/(H' b).isSome=true->b∉frs outer->B.get? b=some o)/\E (.ref C) (some ea) H'
theorem bR.there{P:Program}{w:World}{H:Hp}{h:Heap}{a:Addr}{o:HO}(x:bR P w H h a o):∃u,h.get? a=some u:=by
 cases o with
 |lst xs=>obtain⟨_,_,_,_,e⟩:=x;exact⟨_,e⟩
 |tup xs=>obtain⟨_,_,_,ob,e,_⟩:=x;exact⟨_,e⟩
 |dK kvs=>obtain⟨_,_,_,_,o,_,_,e,_⟩:=x;exact⟨_,e⟩
 |dT kvs ts=>obtain⟨_,_,_,_,o,_,_,e,_⟩:=x;exact⟨_,e⟩
 |set S n=>obtain⟨o,_,_,_,e,_⟩:=x;exact⟨_,e⟩
 |ins C dx fs=>obtain⟨_,_,_,e,_⟩:=x;exact⟨_,e⟩
 |own y=>obtain⟨_,e⟩:=x;exact⟨_,e⟩
 |xd fs=>obtain⟨_,⟨_,_,_,e,_⟩,_⟩:=x;exact⟨_,e⟩
 |rng lo hi=>obtain⟨_,_,_,e⟩:=x;exact⟨_,e⟩
 |frz ob u=>obtain⟨e,_⟩:=x;exact⟨_,e⟩
 |tbl _ _ _=>obtain⟨_,e,_⟩:=x;exact⟨_,e⟩
 |met f y=>exact⟨_,x⟩
 |ext φ=>obtain⟨_,⟨_,e⟩,_⟩:=x;exact⟨_,e⟩
section
variable{X:Cx}{BU:List (Addr×Obj)}{σ:St}{H:Hp}{s:Shared}{x:Str}{C:Addr}{bmB:List Value}{B newId initId:String}{np cpos pos:Pos}
theorem Ky{t:St->Hp->Prop}(hc:X.calm=true)(hg:Gl X x)(O:OwnCls x C bmB newId X.mg X.base)(FB:ExcBaseFacts B newId initId bmB)
  (hE:∀BU σ H s h' e,Inv X BU σ H s->t σ H->Heap.MadeExcOf s.heap h' e (.ref C) []->X.xe (.ref e) { s with heap:=h' }) (XW:(x == ("__debug__" : Str))=false:=by decide) :
  PS X (.Raise (some (.Call (.Name x np) [] [] cpos)) none pos) (fun _ σ H=>t σ H):=by
 intro BU s σ H D I h;obtain⟨tl,N,nm,q,bs,hdct,sn,sub,ab,col,dd,k0,k1,k2,k3,k5,mN,hC,hN,hni,T⟩:=O.obj;refine wpAny_Raise_call_subT (C:=C) (nm:=nm) (q:=q) (N:=N) (bs:=bs) (bm:=tl) (hdct:=hdct) (sn:=sn) (sub:=sub) (ab:=ab) (col:=col) (dd:=dd) (k0:=k0) (k1:=k1) (k2:=k2) (k3:=k3) (k5:=k5)
  FB (mN:=mN) (T.hasType FB.hasBase) (I.ok.hd hc) rfl hni (uI I hg O.bound ⟨rfl,?_⟩ XW)
 exact evalArgs_empty ⟨rfl,aaY _,I.bk _ _ hC,hN.keeps I.bk,T.keeps I.bk,fun h' e hm=>hE BU σ H s h' e I h hm⟩
theorem Inv.out(I:Inv X BU σ H s){h'' Bh:Heap}(hx:X.ex=[])(hB:∀b o,s.heap.get? b=some o->b∉frs X.stack->(X.s₀.heap.get? b).isSome=true\/(H b).isSome=true->Bh.get? b=some o)(k1:Bh.StaysIn h'')
  (sl:s.heap.UpToSlots h''):Un X.fs [] X.H₀ H X.s₀.heap h''/\HOk X.prog X.w H h'' /\
   (∀b o,h''.get? b=some o->(X.s₀.heap.get? b).isSome=true\/(H b).isSome=true->b∉X.fs->Bh.get? b=some o):=by
 have nx:∀b:Addr,b∉X.ex:=fun b z=>by rw[hx]at z;cases z
 have neL:∀b o,X.s₀.heap.get? b=some o->b≠X.env.locals:=fun b o e=>aax (aam (aad e) I.ok.above);have nst:∀b o,X.s₀.heap.get? b=some o->b∉X.fs->b∉frs X.stack:=fun b o e hb z=>(aah.mp (I.zJ b z)).elim (neL b o e) hb;have frame:∀b,b∈X.fs->∀o,s.heap.get? b=some o->∃sl,h''.get? b=some { o with slots:=sl }:=fun b hb o e=>by obtain⟨_,o',ho',hd⟩:=I.yx.mem hb;rw[e]at ho';cases ho';exact sl b o e hd
 have stay:∀b o,b∉frs X.stack->(X.s₀.heap.get? b).isSome=true\/(H b).isSome=true->s.heap.get? b=some o->h''.get? b=some o:=fun b o hb hh e=>k1 b o (hB b o e hb hh);have tr:∀b u,H b=some u->b∉frs X.stack:=fun b u e z=>by rw[I.CS b z]at e;cases e
 refine⟨⟨fun b o e n hb _=>?_,fun b o e n hb _=>?_,fun b o e n _=>I.base.free b o e n (nx b),fun b o e _=>?_,I.base.tups,I.base.yw,I.base.zI⟩,fun b u e=>?_,fun b o e hh hb=>?_⟩
 ·exact stay b o (nst b o e hb) (.inl (by rw[e];rfl)) (I.base.keep b o e n hb (nx b))
 ·obtain⟨s1,e1⟩:=I.base.slot b o e n hb (nx b);obtain⟨s2,e2⟩:=frame b hb _ e1;exact⟨s2,e2⟩
 ·obtain⟨o1,e1⟩:=I.base.there b o e (nx b);by_cases hb:b∈X.fs
  ·obtain⟨s2,e2⟩:=frame b hb _ e1;exact⟨_,e2⟩
  ·exact⟨o1,stay b o1 (nst b o e hb) (.inl (by rw[e];rfl)) e1⟩
 ·refine(I.hok b u e).stay (fun c v hc q=>?_) (fun _ q=>q) (fun _ _ _ q=>q) fun _ _ q=>q;rcases hc with rfl | hc
  ·exact stay c v (tr c u e) (.inr (by rw[e];rfl)) q
  ·exact stay c v (tr c _ hc) (.inr (by rw[hc];rfl)) q
 ·have:∃o1,s.heap.get? b=some o1:=by
   rcases hh with hh | hh
   ·obtain⟨o0,e0⟩:=aaH.mp hh;exact I.base.there b o0 e0 (nx b)
   ·obtain⟨u,e0⟩:=aaH.mp hh;exact(I.hok b u e0).there
  obtain⟨o1,e1⟩:=this;have hs:b∉frs X.stack:=by
   rcases hh with hh | hh
   ·obtain⟨o0,e0⟩:=aaH.mp hh;exact nst b o0 e0 hb
   ·obtain⟨u,e0⟩:=aaH.mp hh;exact tr b u e0
  have e2:=stay b o1 hs hh e1;rw[e]at e2;cases e2;exact hB b o e1 hs hh
end
section
variable{P:Program}{w:World}{K:Dk}{mg:Str->Option Value}{base:Heap}{N:List Str}{qual:Str}{scope:Scope}{f:Addr}{cd:Value}{A:Around}{outer:List Env}{s₀:Shared}{H₀:Hp}{E:XK}{C:Addr}
 {BU:List (Addr×Obj)} {σ:St} {H:Hp} {s:Shared}
theorem P6{h h' h'':Heap}(k:∀b o,h.get? b=some o->h'.get? b=some o)(x:h'.UpToSlots h''):h.UpToSlots h'':=(Heap.UpToSlots.of_keeps k).trans x
theorem P7(I:Inv (n_ (CXE P w C) P w K mg base N qual scope f cd A outer s₀ H₀ E) BU σ H s){h':Heap}{e:Addr}(hx:Heap.MadeExcOf s.heap h' e (.ref C) [])(hE:E (.ref C) (some e) H) :
  (n_ (CXE P w C) P w K mg base N qual scope f cd A outer s₀ H₀ E).xe (.ref e) { s with heap:=h' }:=by
 have hin:∀env∈(n_ (CXE P w C) P w K mg base N qual scope f cd A outer s₀ H₀ E).stack,∀b,env.frame=some b->b∈frs (n_ (CXE P w C) P w K mg base N qual scope f cd A outer s₀ H₀ E).stack:=fun env he b hb=>abN.mpr ⟨env,he,hb⟩;show wpAny (model P w) _ (leaving _ (.ref e)) _ _ _;refine wpAny_leaves_madeW (base:=acM s.heap (frs (n_ (CXE P w C) P w K mg base N qual scope f cd A outer s₀ H₀ E).stack)) (h:=s.heap) (L:=s₀.heap.objs.size) I.ok.frames rfl (fun b o q=>PySem.W.of_hideAll _ q) (PySem.W.funFrames_hide I.stack hin) hx fun h'' t fl tup bt sl=>?_;obtain⟨u1,u2,u3⟩:=I.out (h'':=h'') (Bh:=acM s.heap (frs (n_ (CXE P w C) P w K mg base N qual scope f cd A outer s₀ H₀ E).stack)) rfl (fun b o q hb _=>PySem.W.hideAll_get _ q hb) fl.1 (P6 hx.keeps sl);exact⟨e,.ref t,_,H,rfl,I.os,I.bare,u1,u2,fl,u3,hE⟩
theorem Xr:Passes (CXE P w C) (n_ (CXE P w C) P w K mg base N qual scope f cd A outer s₀ H₀ E) E:=by
 intro BU σ H s e s' I hq;obtain⟨ea,a0,Bh,H',rfl,os,bare,un,hok,fl,hB,hE⟩:=hq;obtain⟨hh,g,d,t,os'⟩:=s';obtain rfl:os'=s.os:=os;have J:=I.call (h':=hh) (g':=g) (d':=d) (t':=t) (ch:=[]) un hok bare (fun b z=>absurd z (by simp));show wpAny (model P w) _ (leaving _ (.ref ea)) _ _ _;refine wpAny_leaves_onW (base:=Bh) (L:=s₀.heap.objs.size) I.ok.frames rfl fl fun h'' Xs sl=>?_;have neL:∀b o,s₀.heap.get? b=some o->∃o1,s.heap.get? b=some o1:=fun b o e=>I.base.there b o e (fun z=>nomatch z);obtain ⟨u1,u2,u3⟩:=J.out (h'':=h'') (Bh:=Bh) rfl (fun b o q hb hh=>hB b o q (hh.imp (fun z=>by obtain⟨o0,e0⟩:=aaH.mp z;obtain⟨o1,e1⟩:=neL b o0 e0;rw[e1];rfl) id) hb) Xs.1 sl
 exact⟨ea,a0,Bh,H',rfl,J.os,bare,u1,u2,Xs,u3,hE⟩
end
section
variable{X:Cx}{st:Stmt}{HJ:List Stmt}{t:TS}
noncomputable def DF:Ends:={ nx:=fun _ _=>False,rt:=fun _ _=>False,bk:=fun _ _=>False,ct:=fun _ _=>False }
theorem MD(h1:PS X st t):PSs X (st::HJ) (fun _ σ H=>t DF σ H):=by
 intro BU s σ H D I h;refine wpAny_execs_cons (thn (h1 BU s σ H DF I h) fun f s1 q=>?_);cases f with
 |next=>obtain⟨_,_,_,q⟩:=q;exact aat q
 |ret v=>obtain⟨_,_,_,_,_,q⟩:=q;exact aat q
 |brk=>obtain⟨_,_,_,q⟩:=q;exact aat q
 |cont=>obtain⟨_,_,_,q⟩:=q;exact aat q
end
end L2
namespace Br
open PySem PySem.Spec PyProof.Rows L2
def IW(C:Addr)(X:Cx)(E:L2.St->XK):Prop:=∀(BU:List (Addr×Obj)) (σ:L2.St) (H:Hp) (s:Shared) (e:Value) (s':Shared),Inv X BU σ H s->CXE X.prog X.w C X.stack H s (E σ) e s'->X.xe e s'
def tX(C:Addr)(E:L2.St->XK)(R:Dm.Env->Option Dm.Env)(σ:L2.St)(H:Hp):Prop:=∃H0 ρ ρ',a_ H0 H σ ρ/\R ρ=some ρ'/\∀a H0' H',ESt σ ρ H0 H ρ' H0' H'->E σ (.ref C) (some a) H'
def spX(C:Addr)(bad:List Dat->Bool):Sp:=fun vs H _ E=>∃H0 ds,aO H0 H/\bg H0 vs ds/\bad ds=true/\∀a H0' H',bG H0 H H0' H'->E (.ref C) (some a) H'
noncomputable abbrev XE(X:Cx)(C:Addr)(E:L2.St->XK)(e:Expr)(R:Dm.Env->Option Dm.Env):Prop:=PE X e (fun σ H _=>tX C E R σ H)
noncomputable abbrev XS(X:Cx)(C:Addr)(E:L2.St->XK)(st:Stmt)(R:Dm.Env->Option Dm.Env):Prop:=PS X st (fun _ σ H=>tX C E R σ H)
section
variable{X:Cx}{C:Addr}{E:L2.St->XK}{k:Nat}{F:Addr}{fd:FuncData}{ps:List Str}{x:Str}{p pos:Pos}{e:Expr}{es:List Expr}{fs:List FE}{bad:List Dat->Bool}{R S:Dm.Env->Option Dm.Env}
theorem P8{BU:List (Addr×Obj)}{σ:L2.St}{H:Hp}{s:Shared}{Q:VK}{us:List Value}{vs:List V}(G:bI X.prog X.w X.K X.mg X.base (CXE X.prog X.w C) k F fd ps (spX C bad))(hr:b9 k X.A)(hb:Binds X.K fd ps [])(hx:IW C X E)
  (I:Inv X BU σ H s) (r:Vals vs us) (h:spX C bad vs H Q (E σ)):wpAny (model X.prog X.w) X.A (call (.ref F) us) (EP X BU σ Q) X.xe s:=by
 have hl:(us++[]).length=ps.length:=by rw[aaP,<- r.length];exact G.len _ _ _ _ h
 have hb':=hb s us I.kIn hl;rw[aaP]at hb';refine wpAny_call (codeAny_mono (G.run X.A X.stack s H ⟨us,[]⟩ us vs Q (E σ) hr I.WC hb' r h) fun r s' hq=>?_);cases r with
 |error e=>exact hx BU σ H s e s' I hq
 |ok fl=>
  cases fl with
  |ret u=>exact I.after hq
  |next=>exact aat hq
  |brk=>exact aat hq
  |cont=>exact aat hq
theorem P9{σ:L2.St}{H:Hp}(h:tX C E (Dm.oS bad fs) σ H)(Q:VK):tDA fs σ H fun vs H1=>spX C bad vs H1 Q (E σ):=by
 obtain⟨H0,ρ,ρ',st,hR,k⟩:=h;unfold Dm.oS at hR;split at hR
 ·cases hR
 rename_i xs ρ1 e1;split at hR
 ·cases hR
 rename_i ds p1;split at hR
 case isFalse=>cases hR
 rename_i hbad;cases hR;refine⟨H0,ρ,xs,ρ',st,e1,fun vs H1 Hb t1 r1=>?_⟩;obtain⟨ρ2,e2⟩:=rJ p1;obtain⟨H2,t2,b2,r2⟩:=takes t1 (aO.refl _) r1 e2;exact⟨H2,ds,t2.st.same,r2,hbad,fun a H0' H' g=>k a H1 H' (t1.trans (.grow t1.st ⟨aO.refl _,g.s1,fun a o q=>.inr q,t1.st.same.trans g.s1⟩))⟩
theorem x_call(G:bI X.prog X.w X.K X.mg X.base (CXE X.prog X.w C) k F fd ps (spX C bad))(hr:b9 k X.A)(hg:Gl X x)(hm:X.mg x=some (.ref F))(hk:aaW X.K (.ref F)=true)(hb:Binds X.K fd ps [])(hx:IW C X E)
  (ha:DA X (e::es) fs) (XW:(x == ("__debug__" : Str))=false:=by decide) (he:starEach (e::es) X.env=(false,eval e X.env)::starEach es X.env:=by rfl) (KD:(backTo pos (starEach es X.env)).any (·.1)=false:=by rfl) :
  XE X C E (.Call (.Name x p) (e::es) [] pos) (Dm.oS bad fs):=by
 intro BU s σ H Q I h;refine wpAny_Call_Name_kw (uI I hg hm ?_ XW);refine acq (h₀:=X.base) I.ok.mod.kin hk (thn (ha pos BU s σ H _ I (P9 h Q)) fun us s1 ⟨vs,H1,I1,r,q⟩=>⟨I1.kIn,?_⟩) he KD;exact P8 G hr hb hx I1 r q
theorem wB(h:XE X C E e R)(hs:swapsWith e none pos.line X.env=pure false:=by rfl):XS X C E (.Expr e pos) R:=PS.weak (uK h hs) fun _ _ _ q=>q
end
section
variable{P:Program}{w:World}{K:Dk}{mg:Str->Option Value}{base:Heap}{N:List Str}{qual:Str}{scope:Scope}{f:Addr}{cd:Value}{A:Around}{outer:List Env}{s₀:Shared}{H₀:Hp}{E:XK}{C:Addr}
theorem ME:IW C (n_ (CXE P w C) P w K mg base N qual scope f cd A outer s₀ H₀ E) (fun _=>E):=fun BU σ H s e s' I q=>Xr BU σ H s e s' I q
theorem x_raise{x:Str}{bmB:List Value}{B newId initId:String}{np cpos pos:Pos}(O:OwnCls x C bmB newId mg base)(FB:ExcBaseFacts B newId initId bmB)(hg:Gl (n_ (CXE P w C) P w K mg base N qual scope f cd A outer s₀ H₀ E) x)(XW:(x == ("__debug__" : Str))=false:=by decide) :
  XS (n_ (CXE P w C) P w K mg base N qual scope f cd A outer s₀ H₀ E) C (fun _=>E) (.Raise (some (.Call (.Name x np) [] [] cpos)) none pos) Dm.Xo:=
 Ky rfl hg O FB (fun BU σ H s h' e I ⟨H0,ρ,ρ',st,hR,k⟩ hm=>P7 I hm (k e _ _ (by cases hR;exact ESt.refl st))) XW
end
theorem IX{C:Addr}{n m:Nat}{R:Dm.Env->Option Dm.Env}{vs:List V}{H:Hp}{Q:VK}{E:XK}(h:spX C (Dm.fnX n m R) vs H Q E):vs.length=n:=by obtain⟨H0,ds,s,rs,e,k⟩:=h;unfold Dm.fnX at e;rw[aau,decide_eq_true_eq]at e;rw[rs.length];exact e.1
theorem MF{N:List Str}{n m:Nat}{vs:List V}{H0 H:Hp}{ds:List Dat}(hm:N.length=n+m)(hvn:vs.length=n)(s:aO H0 H)(rs:bg H0 vs ds) :
  a_ H0 H (start N vs) (ds.map Dm.Cell.sh++Dp m .un)/\∀a,¬aJ (start N vs) (ds.map Dm.Cell.sh++Dp m .un) a:=by
 have hl:=rs.length;refine ⟨?_,fun a ⟨i,d,h1,_⟩=>by
  by_cases hi:i<ds.length
  ·rw[aae (by simpa using hi),aao]at h1;cases q:ds[i]? with
   |none=>rw[q]at h1;cases h1
   |some y=>rw[q]at h1;cases h1
  ·rw[aav (by simpa using hi),aaK]at h1;split at h1<;>cases h1⟩
 refine⟨s,?_,fun i d h=>?_,fun i d h=>?_,fun i j d e a h1 h2 _ _=>?_⟩
 ·unfold L2.start;simp only[aan,Pa,abx]
  lia
 ·have hi:i<ds.length:=by
   by_cases hi:i<ds.length
   ·exact hi
   ·rw[aav (by simpa using hi),aaK]at h;split at h<;>cases h
  rw[aae (by simpa using hi),aao]at h;cases q:ds[i]? with
  |none=>rw[q]at h;cases h
  |some y=>rw[q]at h;cases h;obtain⟨v,hv,r⟩:=rs.get q;refine⟨v,?_,r⟩;unfold L2.start;rw[aae (by simpa [hl] using hi),aao,hv];rfl
 ·by_cases hi:i<ds.length
  ·rw[aae (by simpa using hi),aao]at h;cases q:ds[i]? with
   |none=>rw[q]at h;cases h
   |some y=>rw[q]at h;cases h
  ·rw[aav (by simpa using hi),aaK]at h;split at h<;>cases h
 ·by_cases hi:i<ds.length
  ·rw[aae (by simpa using hi),aao]at h1;cases q:ds[i]? with
   |none=>rw[q]at h1;cases h1
   |some y=>rw[q]at h1;cases h1
  ·rw[aav (by simpa using hi),aaK]at h1;split at h1<;>cases h1
end Br
namespace PySem.W
open PySem PySem.Spec PySem.Calls PyProof.Rows
structure rK(K:Frag)(C:Addr):Prop where
 ga:findIn K (.ref C) "__getattribute__" = some (some (.builtin "BaseException.__getattribute__"))
 gn:findIn K (.ref C) "__getattr__" = some none
 cl:findIn K (.ref C) "__class__" = some (some (.builtin "object.__class__"))
 mB:mroIn K C (.type "BaseException")=some true
 mO:mroIn K C (.type "object")=some true
def BP(x C:Addr)(h:Heap):Prop:=∃ox,h.get? x=some ox/\ox.cls=.ref C
theorem qB{x C:Addr}{M:Model}{h:Heap}(p:BP x C h):Looks M h (typeOf (.ref x)) (.ref C):=by obtain⟨o,h1,h2⟩:=p;exact h2▸(Looks.ld h1).andThen .now
section
variable{prog:Program}{w:World}{A:Around}{K:Frag}{x C:Addr}{s:Shared}{R:Result->Shared->Prop}
theorem G3{tp:Value}(X:K.In s.heap)(I:BP x C s.heap)(hm:mroIn K C (.type "object")=some true)
  (h:R (.ok (.ret (.ref C))) s):codeAny (model prog w) A (.call (.builtin "getset_descriptor.__get__") ⟨[.builtin "object.__class__",.ref x,tp],[]⟩) R s:=by
 obtain⟨hh,g,dr,t,os⟩:=s;have L0:=qB (M:=model prog w) I;have L1:=looks_mroIn (M:=model prog w) X hm;refine codeAny_call_builtin KF.slot_gs.plain KF.entry_gs (KF.slot_gs.check _ _ _ _ _ _ _ _ KF.type_class (KF.args_gs _ _ _) ?_);unfold Builtin.«getset_descriptor.__get__» Builtin.Getset_descriptor.descrGet;rw[dga_obj];refine wpAny_bind (wpAny_pure ?_);unfold Builtin.Getset_descriptor.descrGetter Builtin.Getset_descriptor.descrCheckInstance Builtin.Getset_descriptor.descrNameAndClass isInstance;simp only[KF.owner_class]
 repeat lk
 refine⟨Code.quiet_builtin _ (by decide +kernel),codeAny_builtin KF.entry_class ?_⟩;unfold Builtin.«object.__class__» shownTypeOf
 repeat lk
 exact h
end
section
variable{prog:Program}{w:World}{A:Around}{E:Value->Shared->Prop}{K:Frag}{x C:Addr}{ox:Obj}{h:Heap}{g:Array GenState}{d:Drawn}{t:Nat}{os:OsState}
theorem MG{M:Model}{nameV:Value}{Q:Unit->Shared->Prop}(Z:rK K C)(X:K.In h)(I:BP x C h)(hq:Q () ⟨h,g,d,t,os⟩):wpAny M A (checkBuiltinCall "BaseException.__getattribute__" ⟨[.ref x,nameV],[]⟩) Q E ⟨h,g,d,t,os⟩:=by
 have hk:builtinKind "BaseException.__getattribute__" = some .slot:=by decide +kernel
 have hsplit:splitId "BaseException.__getattribute__" = some ("BaseException","__getattribute__"):=by decide +kernel
 have L0:=qB (M:=M) I;have L1:=looks_mroIn (M:=M) X Z.mB;have LI:Looks M h (isInstance (.ref x) (.type "BaseException")) true:=L0.andThen L1;have ha:=PySem.F.args_bexc_ga (.ref x) nameV;simp only[checkBuiltinCall,hk,hsplit];refine wpAny_bind (LI.at ?_)
 repeat (first | assumption | wp_step)
theorem MH{tk:Tok}{Q:Fin->Shared->Prop}(Z:rK K C)(X:K.In h)(I:BP x C h)(hq:Q (.done (.ret (.ref C))) ⟨h,g,d,t,os⟩) :
  wpAny (model prog w) A (Builtin.«object.__getattribute__» ⟨[.ref x,.str "__class__" tk],[]⟩) Q E ⟨h,g,d,t,os⟩:=by
 have hT5:(⟨h,g,d,t,os⟩:Shared).TypeIs (.builtin "object.__class__") "getset_descriptor" := F.typeOf_object_class;have f5:=F.typeOf_object_class;have f6:=F.slot_gs_get.lookup;have f7:=F.slot_gs_set.lookup;have L0:=qB (M:=model prog w) I;have L1:=looks_findIn (M:=model prog w) X Z.cl
 repeat (any_goals (first | assumption | with_reducible refine L0.at ?_ | with_reducible refine L1.at ?_ | wp_step))
 refine G3 X I Z.mO ?_
 repeat (any_goals (first | assumption | wp_step))
theorem P_{tk:Tok}{R:Result->Shared->Prop}(Z:rK K C)(X:K.In h)(I:BP x C h)(hq:R (.ok (.ret (.ref C))) ⟨h,g,d,t,os⟩) :
  codeAny (model prog w) A (.call (.builtin "BaseException.__getattribute__") ⟨[.ref x,.str "__class__" tk],[]⟩) R ⟨h,g,d,t,os⟩:=
 codeAny_call_builtin PySem.F.excAttr_ValueError.ga.plain PySem.F.entry_bexc_ga (MG Z X I (MH Z X I hq))
theorem Xu{tk:Tok}{Q:Value->Shared->Prop}(Z:rK K C)(X:K.In h)(I:BP x C h)(hq:Q (.ref C) ⟨h,g,d,t,os⟩) :
  wpAny (model prog w) A (getAttrBy (.ref x) (.str "__class__" tk) false) Q E ⟨h,g,d,t,os⟩:=by
 have f3:=PySem.F.excAttr_ValueError.ga.bind (.ref x);have hx2:(acw "BaseException.__getattribute__" == acw "object.__getattribute__")=false:=by decide +kernel
 have hx1:(onTheHeap (aaB C)&&acw "BaseException.__getattribute__" == acw "object.__getattribute__")=false:=by rw[hx2];rfl
 have L0:=qB (M:=model prog w) I;have L1:=looks_findIn (M:=model prog w) X Z.ga;have L2:=looks_findIn (M:=model prog w) X Z.gn
 repeat (any_goals (first | assumption | with_reducible refine L0.at ?_ | with_reducible refine L1.at ?_ | with_reducible refine L2.at ?_ | wp_step))
 refine P_ Z X I ?_
 repeat (any_goals (first | assumption | wp_step))
theorem Qa{s:Shared}{Q:Option Value->Shared->Prop}(Z:rK K C)(X:K.In s.heap)(I:BP x C s.heap)(hq:Q (some (.ref C)) { s with toks:=s.toks+1 }):wpAny (model prog w) A (getAttr? (.ref x) "__class__") Q E s:=by
 obtain⟨h,g,d,t,os⟩:=s;unfold getAttr? getAttrBy?
 repeat (any_goals (first | assumption | with_reducible apply Xu Z X I | wp_step))
theorem MI(Z:rK K C)(hc:(clsIn K C).isSome=true):KitX K (.ref x) (.ref C) (BP x C) where
 ty:=fun _ _ _ I=>qB I
 it:=fun _ _ X _=>by
  unfold clsIn at hc;split at hc
  ·rename_i c' d' cd' sl' ho;intro A' Q' E' s' k q;unfold isType loadHead;exact wpAny_bind (wpAny_loadPart (k _ _ (X _ _ ho)) (wpAny_pure q))
  ·cases hc
 ne:=fun h tp dd its n sl X htp=>by
  refine acD.mpr fun q=>?_;have e:C=tp:=aaB.inj (beq_iff_eq.mp q);subst e;unfold clsIn at hc;split at hc
  ·rename_i c' d' cd' sl' ho;have z:=(X _ _ ho).symm.trans htp;cases z
  ·cases hc
 ca:=fun X I k=>Qa Z X I k
end
end PySem.W
namespace PySem
theorem ya{α:Type}(p:α->Bool):∀(l:List α) (i:Nat) (x:α),l[i]?=some x->p x=false->(l.eraseIdx i).find? p=l.find? p
 |[],i,x,h,_=>by simp at h
 |y::l,0,x,h,hp=>by simp only[ab7,Option.some.injEq]at h;subst h;rw[List.eraseIdx_cons_zero,aa0,hp]
 |y::l,i+1,x,h,hp=>by rw[List.eraseIdx_cons_succ,aa0,aa0,ya p l i x (by simpa using h) hp]
theorem BQ{es:Array DictEntry}{i:Nat}{name y:Str}(hi:es.findIdx? (·.key.isStr name)=some i)(hy:y≠name):nsFind (es.eraseIdxIfInBounds i) y=nsFind es y:=by
 obtain⟨NO,hp,_⟩:=Array.findIdx?_eq_some_iff_getElem.mp hi;have hq:(es[i]).key.isStr y=false:=by
  cases hk:(es[i]).key with
  |str z t=>rw[hk]at hp;simp only[acZ,beq_iff_eq]at hp;simp only[acZ,beq_eq_false_iff_ne];intro e;exact hy (e.symm.trans hp)
  |_=>rw[hk]at hp;simp[acZ]at hp
 have h2:(es.eraseIdxIfInBounds i).toList=es.toList.eraseIdx i:=by unfold Array.eraseIdxIfInBounds;rw[dif_pos NO,Array.toList_eraseIdx]
 unfold nsFind findBy;rw[<- acp,<- acp,h2,ya _ _ i es[i] (by rw[aby,abE NO]) hq]
section
variable{M:Model}{A:Around}{E:Value->Shared->Prop}{s:Shared}{env:Env}
theorem Dg{a:Addr}{m}{name:Str}{Q:Bool->Shared->Prop}(hn:s.heap.Ns a m)
  (hQ:∀h' m',h'.Ns a m'->(∀y,y≠name->m' y=m y)->abq a s.heap h'->Q (m name).isSome { s with heap:=h' }):wpAny M A (nsDel a name) Q E s:=by
 obtain⟨o,es,ep,ho,hd,hk,hm⟩:=id hn;have hany:es.any (·.refKey)=false:=by rw[Array.any_eq_false'];intro e he;obtain⟨n,t,h⟩:=hk e he;simp[DictEntry.refKey,h]
 have hsome:(m name).isSome=es.any (·.key.isStr name):=by
  rw[<- hm name];simp only[nsFind,findBy,aba];rw[aci];simp only[Array.find?_isSome,Array.any_eq_true];constructor
  ·rintro⟨x,hx,hp⟩;obtain⟨i,hi,rfl⟩:=Array.mem_iff_getElem.mp hx;exact⟨i,hi,hp⟩
  ·rintro⟨i,hi,hp⟩;exact⟨_,Array.getElem_mem hi,hp⟩
 have hhas:nsHas name o=pure (es.any (·.key.isStr name)):=by
  rw[nsHas_eq];unfold nsHasByArray;rw[hd];show (if (es.any fun x=>x.key.isStr name)=true then _ else _)=_
  generalize (es.any fun x=>x.key.isStr name)=b
  cases b<;>simp[hany]
 unfold nsDel;refine wpAny_bind (wpAny_loadPart ho ?_);rw[hhas];refine wpAny_bind (wpAny_pure ?_);rw[<- hsome];cases hmn:(m name).isSome
 ·have:=hQ s.heap m hn (fun _ _=>rfl) (.refl ..);rw[hmn]at this;exact wpAny_pure this
 ·refine wpAny_bind (wpAny_updatePart ho (wpAny_pure ?_));have key:∃m',(s.heap.update a (Obj.dropName name)).Ns a m'/\∀y,y≠name->m' y=m y:=by
   obtain⟨cl,d,dt,sl⟩:=o;subst hd;cases hi:es.findIdx? (·.key.isStr name) with
   |some i=>exact⟨nsFind (es.eraseIdxIfInBounds i),⟨_,_,ep+1,abo _ ho (by simp only[acj,abY,hi]<;>rfl),(by simp only[acj,abY,hi]<;>rfl),hk.erase i,fun _=>rfl⟩,fun y hy=>by rw[BQ hi hy,hm]⟩
   |none=>exact⟨nsFind es,⟨_,_,ep,abo _ ho (by simp only[acj,abY,hi]<;>rfl),(by simp only[acj,abY,hi]<;>rfl),hk,fun _=>rfl⟩,fun y _=>hm y⟩
  obtain⟨m',hm',hy⟩:=key;have:=hQ _ m' hm' hy (abk ..);rw[hmn]at this;exact this
theorem yF{n:Str}{pos:Pos}{m:Str->Option Value}{Q:Unit->Shared->Prop}(hl:env.kindOf n=some .local)(hn:s.heap.Ns env.locals m)
  (hp:(env.scope.kind == .class||(env.scope.kind == .module&&env.locals != env.globals))=false)
  (h:∀h' m',h'.Ns env.locals m'->(∀y,y≠n->m' y=m y)->abq env.locals s.heap h'->Q () { s with heap:=h',toks:=s.toks+1 }) :
  wpAny M A (do bindName env n .none;unbindBehindTheSuite env n pos) Q E s:=by
 refine wpAny_bind (wpAny_bindName (wpAny_storeName_local hl hn (fun h₁ hn₁ hs₁=>?_) hp));unfold unbindBehindTheSuite;refine wpAny_onRaise ?_;unfold unbindName;refine wpAny_bind (wpAny_point (wpAny_bind ?_));unfold deleteName;simp only[hl,hp];rw[if_neg (by decide)];refine wpAny_bind (Dg hn₁ fun h₂ m₂ hn₂ hy hs₂=>?_);simp only[if_true,ab4,Bool.not_true,aaU,if_false];exact wpAny_pure (wpAny_point (h h₂ m₂ hn₂ (fun y hny=>(hy y hny).trans (if_neg hny)) (hs₁.trans hs₂)))
end
end PySem
namespace PySem.W
open PySem PySem.Spec PySem.Calls PyProof.Rows
structure Dh(K:Frag)(C CP:Addr):Prop where
 ty:typeIn K (.ref CP)=some (.type "type")
 cl:(clsIn K CP).isSome=true
 mB:mroIn K CP (.type "BaseException")=some true
 mP:mroIn K C (.ref CP)=some true
theorem EJ{M:Model}{A:Around}{E:Value->Shared->Prop}{K:Frag}{x C CP:Addr}{h:Heap}{g:Array GenState}{d:Drawn}{t:Nat}{os:OsState}{Q:Bool->Shared->Prop}
  (Z:Dh K C CP) (X:K.In h) (I:BP x C h) (hq:Q true ⟨h,g,d,t,os⟩):wpAny M A (excMatches (.ref x) (.ref CP)) Q E ⟨h,g,d,t,os⟩:=by
 have L0:=qB (M:=M) I;have L1:=looks_typeIn (M:=M) X Z.ty;have L2:=looks_mroIn (M:=M) X Z.mB;have L3:=looks_mroIn (M:=M) X Z.mP;have L4:Looks M h (isType (.ref CP)) true:=by
  have hc:=Z.cl;unfold clsIn at hc;split at hc
  ·rename_i c' d' cd' sl' ho;intro A' Q' E' s' k q;unfold isType loadHead;exact wpAny_bind (wpAny_loadPart (k _ _ (X _ _ ho)) (wpAny_pure q))
  ·cases hc
 have LT:Looks M h (isSubtype (.type "type") (.type "tuple")) false:=Looks.of_pure tc_notTuple;unfold excMatches isInstance
 repeat lk
 exact hq
end PySem.W
namespace L2
open PySem PySem.Spec PyProof.Rows
section
variable{X:Cx}{BU:List (Addr×Obj)}{σ:L2.St}{H:Hp}{s:Shared}
theorem Inv.fly(I:Inv X BU σ H s){h'' B:Heap}{t':Nat}(hx:X.ex=[])(hB:∀b o,s.heap.get? b=some o->b∉frs X.stack->((X.s₀.heap.get? b).isSome=true\/(H b).isSome=true\/∃p∈X.pn++BU,p.1=b)->B.get? b=some o)
  (k1:B.StaysIn h'') (sl:s.heap.UpToSlots h''):Inv X BU σ H { s with heap:=h'',toks:=t' }:=by
 obtain⟨u1,u2,_⟩:=I.out (h'':=h'') (Bh:=B) hx (fun b o e hb hh=>hB b o e hb (hh.imp id .inl)) k1 sl;have cellK:∀c v,s.heap.IsCell c v->h''.IsCell c v:=fun c v ⟨o,ho,hd⟩=>by
  obtain⟨sl',e⟩:=sl c o ho fun vs q=>by rw[hd]at q;cases q
  exact⟨_,e,hd⟩
 refine⟨I.ok,I.os,I.bare,by rw[hx];exact u1,?_,fun x c e=>?_,I.free,I.jS,fun p hp=>?_,u2,I.len⟩
 ·obtain⟨m,hn,hl⟩:=I.loc;refine⟨m,sl.ns hn,fun i x v e1 e2 e3=>?_⟩;obtain⟨u,r,l⟩:=hl i x v e1 e2 e3;refine⟨u,r,?_⟩;rcases l with l | ⟨k,c,e,z⟩
  ·exact .inl l
  ·exact .inr ⟨k,c,e,cellK c _ z⟩
 ·obtain⟨v,z⟩:=I.cell x c e;exact⟨v,cellK c v z⟩
 ·obtain⟨e,n,ne,nf,d⟩:=I.pin p hp;exact⟨k1 _ _ (hB p.1 p.2 e (fun z=>(aah.mp (I.zJ _ z)).elim ne nf) (.inr (.inr ⟨p,hp,rfl⟩))),n,ne,nf,d⟩
theorem Inv.Xv(I:Inv X BU σ H s){ea:Addr}{o:HO}(n:H ea=none)(hok:bR X.prog X.w (upd H ea o) s.heap ea o)(n0:X.s₀.heap.get? ea=none)(nl:ea≠X.env.locals)(nc:∀x c,X.env.cells.lookup x=some c->c≠ea)
  (np:∀p∈X.pn++BU,p.1≠ea):Inv X BU σ (upd H ea o) s:=by
 have ne:∀b u,H b=some u->b≠ea:=fun b u e z=>by rw[z,n]at e;cases e
 have n1:∀b u,X.s₀.heap.get? b=some u->b≠ea:=fun b u e z=>by rw[z,n0]at e;cases e
 refine⟨I.ok,I.os,I.bare,⟨I.base.keep,I.base.slot,fun b u e q hx=>?_,I.base.there,fun b xs e=>?_,fun b u v e=>?_,fun b x1 x2 x3 e=>?_⟩,I.loc,I.cell,?_,fun x c e=>?_,fun p hp=>?_,fun b u e=>?_,I.len⟩
 ·rw[aM (n1 b u e)];exact I.base.free b u e q hx
 ·have:=I.base.tups b xs e;rw[aM (ne b _ this)];exact this
 ·have:=I.base.yw b u v e;rw[aM (ne b _ this)];exact this
 ·have:=I.base.zI b _ _ _ e;rw[aM (ne b _ this)];exact this
 ·rw[aM (Ne.symm nl)];exact I.free
 ·rw[aM (nc x c e)];exact I.jS x c e
 ·obtain⟨e,q,a,b,d⟩:=I.pin p hp;exact⟨e,by rw[aM (np p hp)];exact q,a,b,d⟩
 ·by_cases hb:b=ea
  ·subst hb;rw[aQ]at e;cases e;exact hok
  ·rw[aM hb]at e;exact(I.hok b u e).stay (fun c v _ q=>q) (fun c q=>by rw[aM (ne c _ q)];exact q) (fun c _ _ q=>by rw[aM (ne c _ q)];exact q) fun c xs q=>by rw[aM (ne c _ q)];exact q
theorem name_goes{M:Model}{A:Around}{E:Value->Shared->Prop}{i:Nat}{n:Str}{pos:Pos}{Q:Unit->Shared->Prop}(I:Inv X BU σ H s)(hN:X.N.Nodup)(hi:X.N[i]?=some n)(hk:X.env.kindOf n=some .local)
  (h:∀s',Inv X BU (σ.set i none) H s'->Q () s'):wpAny M A (do bindName X.env n .none;unbindBehindTheSuite X.env n pos) Q E s:=by
 obtain⟨m,hn,hl⟩:=id I.loc;have hcls:(X.env.scope.kind == .class||(X.env.scope.kind == .module&&X.env.locals != X.env.globals))=false:=by rw[I.ok.kind];rfl
 have cne:=I.cne;refine yF hk hn hcls fun h' m' hn' hy hs=>?_;have low:∀b o,X.s₀.heap.get? b=some o->b≠X.env.locals:=fun b o e=>aax (aam (aad e) I.ok.above);refine h _ ⟨I.ok,I.os,I.bare,⟨fun b o e n hb hx=>?_,fun b o e n hb hx=>?_,I.base.free,fun b o e hx=>?_,I.base.tups,I.base.yw,I.base.zI⟩,⟨m',hn',fun j y v' e1 e2 e3=>?_⟩,fun y c e=>?_,I.free,I.jS,fun p hp=>?_,fun b u e=>?_,by simpa using I.len⟩
 ·exact(hs.2 b (low b o e)).trans (I.base.keep b o e n hb hx)
 ·obtain⟨sl,e1⟩:=I.base.slot b o e n hb hx;exact⟨sl,(hs.2 b (low b o e)).trans e1⟩
 ·obtain⟨o',e1⟩:=I.base.there b o e hx;exact⟨o',(hs.2 b (low b o e)).trans e1⟩
 ·have hj:j≠i:=fun z=>by
   subst z;by_cases NO:j<σ.length
   ·rw[aap NO]at e2;cases e2
   ·rw[aaq (by simpa using NO)]at e2;cases e2
  rw[gV (Ne.symm hj)]at e2;obtain⟨u',r',q⟩:=hl j y v' e1 e2 e3;refine⟨u',r',?_⟩;rcases q with⟨k,e⟩ | ⟨k,c,e,z⟩
  ·exact .inl ⟨k,by rw[hy y fun e=>hj (zK hN e1 (e▸hi))];exact e⟩
  ·obtain⟨o,ho,hd⟩:=z;exact .inr ⟨k,c,e,o,(hs.2 c (cne y c e)).trans ho,hd⟩
 ·obtain⟨v,o,ho,hd⟩:=I.cell y c e;exact⟨v,o,(hs.2 c (cne y c e)).trans ho,hd⟩
 ·obtain⟨e,q,a,b,d⟩:=I.pin p hp;exact⟨(hs.2 _ a).trans e,q,a,b,d⟩
 ·refine(I.hok b u e).stay (fun c v hc q=>(hs.2 c ?_).trans q) (fun _ q=>q) (fun _ _ _ q=>q) fun _ _ q=>q;rintro rfl;rcases hc with rfl | hc
  ·rw[I.free]at e;cases e
  ·rw[I.free]at hc;cases hc
end
end L2
namespace Br
open PySem PySem.Spec PyProof.Rows L2
section
variable{ρ:Dm.Env}{H0 H:Hp}{σ:L2.St}
theorem a_.drop(st:a_ H0 H σ ρ)(i:Nat):a_ H0 H (σ.set i none) (ρ.set i .un):=by
 have m:=st.mask i;have ne:∀{j:Nat} {c:Dm.Cell},(ρ.set i .un)[j]?=some c->c≠.un->j≠i:=fun {j c} e hc z=>by
  subst z;by_cases NO:j<ρ.length
  ·rw[aap NO]at e;cases e;exact hc rfl
  ·rw[aaq (by simpa using NO)]at e;cases e
 have gs:∀{j:Nat},j≠i->(σ.set i none)[j]?=σ[j]?:=fun {j} h=>gV (Ne.symm h);refine⟨m.same,by rw[aaC];exact m.len,fun j d e=>?_,fun j d e=>?_,fun j k d e a h1 h2 h3 h4=>?_⟩
 ·rw[gs (ne e (by simp))];exact m.sh j d e
 ·rw[gs (ne e (by simp))];exact m.ow j d e
 ·rw[gs (ne h1 (by simp))]at h3;rw[gs (ne h2 (by simp))]at h4;exact m.dis j k d e a h1 h2 h3 h4
theorem SSt.drop(st:a_ H0 H σ ρ){i:Nat}(h0:i≠0):SSt σ ρ H0 H (σ.set i none) (ρ.set i .un) H0 H:=by
 refine⟨a_.drop st i,Stp.refl _ _ _,fun a ⟨j,d,h1,h2⟩=>.inl ?_,gV h0⟩;by_cases hj:i=j
 ·subst hj;by_cases NO:i<ρ.length
  ·rw[aap NO]at h1;cases h1
  ·rw[aaq (by simpa using NO)]at h1;cases h1
 ·rw[gV hj]at h1 h2;exact⟨j,d,h1,h2⟩
noncomputable def φX(ea C:Addr):HO:=.ext fun h=>∃o,h.get? ea=some o/\o.cls=.ref C
theorem φX_ok{P:Program}{w:World}{H:Hp}{h:Heap}{ea C:Addr}{o:Obj}(e:h.get? ea=some o)(c:o.cls=.ref C):bR P w H h ea (φX ea C):=
 ⟨⟨o,e,c⟩,⟨o,e⟩,fun _ _ ⟨o,e,c⟩ k=>⟨o,k o e,c⟩⟩
noncomputable def Cx.in'(X:Cx)(pn:List (Addr×Obj))(xe:Value->Shared->Prop):Cx:={ X with pn:=X.pn++pn,xe:=xe }
noncomputable def Cx.sub'(X:Cx)(A:Around)(xe:Value->Shared->Prop):Cx:={ X with A:=A,calm:=false,xe:=xe }
end
section
variable{X:Cx}{BU pn:List (Addr×Obj)}{σ:L2.St}{H:Hp}{s:Shared}{xe:Value->Shared->Prop}
theorem MJ(I:Inv X pn σ H s):Inv (Cx.in' X pn xe) [] σ H s:=
 ⟨⟨I.ok.1,I.ok.2,I.ok.3,I.ok.4,I.ok.5,I.ok.6,I.ok.7,I.ok.8,I.ok.9,I.ok.10,I.ok.11,I.ok.12,I.ok.13,I.ok.14,I.ok.15,I.ok.16,I.ok.17,I.ok.18⟩,I.os,I.bare,I.base,I.loc,I.cell,I.free,I.jS,fun p hp=>I.pin p (by rw[aaP]at hp;exact hp),I.hok,I.len⟩
theorem qC(I:Inv (Cx.in' X pn xe) BU σ H s):Inv X pn σ H s:=
 ⟨⟨I.ok.1,I.ok.2,I.ok.3,I.ok.4,I.ok.5,I.ok.6,I.ok.7,I.ok.8,I.ok.9,I.ok.10,I.ok.11,I.ok.12,I.ok.13,I.ok.14,I.ok.15,I.ok.16,I.ok.17,I.ok.18⟩,I.os,I.bare,I.base,I.loc,I.cell,I.free,I.jS,fun p hp=>I.pin p (aaA _ hp),I.hok,I.len⟩
theorem IY{A:Around}(hA:A.frames=X.A.frames)(I:Inv X BU σ H s):Inv (Cx.sub' X A xe) BU σ H s:=
 ⟨⟨I.ok.1,I.ok.2,I.ok.3,I.ok.4,I.ok.5,I.ok.6,I.ok.7,I.ok.8,(fun h=>nomatch h),hA.trans I.ok.10,I.ok.11,I.ok.12,I.ok.13,I.ok.14,I.ok.15,I.ok.16,I.ok.17,I.ok.18⟩,I.os,I.bare,I.base,I.loc,I.cell,I.free,I.jS,I.pin,I.hok,I.len⟩
theorem Cm{A:Around}(ok:X.Ok)(I:Inv (Cx.sub' X A xe) BU σ H s):Inv X BU σ H s:=
 ⟨ok,I.os,I.bare,I.base,I.loc,I.cell,I.free,I.jS,I.pin,I.hok,I.len⟩
end
structure lC(K:Dk)(C:Addr):Prop where
 get:PySem.W.rK K C
 cls:(aa6 K C).isSome=true
noncomputable def φXF(ea C d:Addr):HO:=.ext fun h=>∃o,h.get? ea=some o/\o.cls=.ref C/\o.dict=some d/\∀c,o.data≠.cls c
def ExK(H:Hp)(a C:Addr):Prop:=H a=some (φX a C)\/∃d,H a=some (φXF a C d)
def Xw(K:Dk)(C:Addr)(c:V)(b:Bool):List V->Hp->VK->Prop:=fun xs H Q=>∃a,xs=[.ref a,c]/\ExK H a C/\Q (.bl b) H
section
variable{X:Cx}{C:Addr}{e:Expr}{f:FE}{p p2 pos:Pos}{b:Bool}
section
variable{σ:L2.St}{tn:Str}{H:Hp}{c:V}
theorem Xx{BU:List (Addr×Obj)}{s:Shared}{a:Addr}(I:Inv X BU σ H s)(h:ExK H a C):PySem.W.BP a C s.heap:=by
 rcases h with h | ⟨d,h⟩
 ·exact(I.hok a _ h).1
 ·obtain⟨o,e,c,_⟩:=(I.hok a _ h).1;exact⟨o,e,c⟩
theorem EK{u2:Value}(hc:RelV c u2)(hu:∀u,RelV c u->u=u2)(Z:lC X.K C)(k:eg X.K (.ref C) u2=some b):iz X (.builtin "isinstance") (Xw X.K C c b):=by intro BU s σ H xs us Q I r h;obtain⟨a,rfl,ha,q⟩:=h;obtain⟨u,u3,rfl,rx,ry⟩:=vals2 r;cases rx;obtain rfl:=hu u3 ry;exact aa4 (PySem.W.MI Z.get Z.cls) I.kIn (Xx I ha) k (by intro q;cases q) fun tk=>⟨.bl b,H,I.tok tk,rfl,q⟩
theorem R0{Q:VK}(h:tD (Dm.e1 (Dm.EI C b) f) σ H Q):tCB (Xw X.K C c b) (xR (tD f) (xR (tC c) CU)) σ H Q:=by
 obtain⟨H0,ρ,x,ρ',st,e,k⟩:=h;unfold Dm.e1 at e;split at e
 ·cases e
 rename_i x1 ρ1 e1;split at e
 ·cases e
 rename_i dx p1;cases dx with
 |exc C'=>
  unfold Dm.EI at e;dsimp only at e;by_cases hC:C'=C
  ·subst hC;rw[if_pos rfl]at e;cases e;refine⟨H0,ρ,x1,_,st,e1,fun v H1 Hb t1 r1=>?_⟩;have rv:Rep Hb v (.exc C'):=(r1.look t1.st p1).full t1.st.same;cases rv with
   |exc q=>exact⟨_,rfl,.inl q,k _ H1 Hb t1 (Rep.bl _)⟩
  ·rw[if_neg hC]at e;cases e
 |jA C' mv=>
  unfold Dm.EI at e;dsimp only at e;by_cases hC:C'=C
  ·subst hC;rw[if_pos rfl]at e;cases e;refine⟨H0,ρ,x1,_,st,e1,fun v H1 Hb t1 r1=>?_⟩;have rv:Rep Hb v (.jA C' mv):=(r1.look t1.st p1).full t1.st.same;cases rv with
   |jA q _=>exact⟨_,rfl,.inr ⟨_,q⟩,k _ H1 Hb t1 (Rep.bl _)⟩
  ·rw[if_neg hC]at e;cases e
 |_=>cases e
theorem aF{D:Addr}(Z:lC X.K C)(k:eg X.K (.ref C) (.ref D)=some b)(hgT:Gl X tn)(hmT:X.mg tn=some (.ref D))(hg:Gl X "isinstance")(hm:X.mg "isinstance" = none)(h:DE X e f)(XW:(tn == ("__debug__" : Str))=false:=by decide)
  (he:starEach [e,.Name tn p2] X.env=(false,eval e X.env)::starEach [.Name tn p2] X.env:=by rfl) (KD:(backTo pos (starEach [.Name tn p2] X.env)).any (·.1)=false:=by rfl) (he2:starEach [.Name tn p2] X.env=(false,eval (.Name tn p2) X.env)::starEach [] X.env:=by rfl) :
  DE X (.Call (.Name "isinstance" p) [e,.Name tn p2] [] pos) (Dm.e1 (Dm.EI C b) f):=
 PE.weak (oA (EK (c:=.ref D) rfl (fun u q=>q) Z k) hg hm abT (kD h (kD (Ig (v:=.ref D) hgT hmT rfl XW) oz he2) he) (he:=he) (KD:=KD)) fun _ _ _=>R0
theorem k8{T:String}(Z:lC X.K C)(k:eg X.K (.ref C) (.type T)=some b)(hvT:bootBuiltins tn=some (.type T))(hgT:Gl X tn)(hmT:X.mg tn=none)(hg:Gl X "isinstance")(hm:X.mg "isinstance" = none)(h:DE X e f)(hn:tn ≠ "__name__" := by decide)(XW:(tn == ("__debug__" : Str))=false:=by decide)
  (he:starEach [e,.Name tn p2] X.env=(false,eval e X.env)::starEach [.Name tn p2] X.env:=by rfl) (KD:(backTo pos (starEach [.Name tn p2] X.env)).any (·.1)=false:=by rfl) (he2:starEach [.Name tn p2] X.env=(false,eval (.Name tn p2) X.env)::starEach [] X.env:=by rfl) :
  DE X (.Call (.Name "isinstance" p) [e,.Name tn p2] [] pos) (Dm.e1 (Dm.EI C b) f):=
 PE.weak (oA (EK (c:=.ty T) rfl (fun u q=>by cases q;rfl) Z k) hg hm abT (kD h (kD (Ih (v:=.ty T) hgT hmT hvT rfl hn XW) oz he2) he) (he:=he) (KD:=KD)) fun _ _ _=>R0
end
end
theorem gv{K:Dk}{h₀:Heap}{mg:Str->Option Value}{x:Str}{C:Addr}{bmB:List Value}{newId:String}(X:K.In h₀)(G:mg x=some (.ref C))(q:aa9 K C bmB newId=true):OwnCls x C bmB newId mg h₀:=by
 refine⟨G,?_⟩;unfold aa9 at q;split at q
 ·rename_i dd cd sl ho;split at q
  ·rename_i C' bm k0 k1 k2 k3 n k5 hm hs;simp only[aau,beq_iff_eq,acE]at q;obtain⟨⟨⟨⟨⟨rfl,rfl⟩,Xy⟩,ht⟩,hok⟩,hni⟩:=q;obtain⟨nm,bs,mro,ns,qn,hd,sn,sub,ab,col,del⟩:=cd;dsimp only at hm Xy hok hni;subst hm Xy;have hsl:sl=#[k0,k1,k2,k3,some (.builtin n),k5]:=by
    obtain⟨l⟩:=sl;simp only at hs;rw[hs]
   subst hsl;exact⟨bm,ns,nm,qn,bs,hd,sn,sub,ab,col,dd,k0,k1,k2,k3,k5,_,X _ _ ho,.of_isNs (PySem.W.isNs_of_in X hok),PySem.W.nsMap_none_of_in X hok hni,PySem.W.tail_of_in X ht⟩
  ·cases q
 ·cases q
noncomputable abbrev bmV:List Value:=[.type "ValueError",.type "Exception",.type "BaseException",.type "object"]
section
variable{X:Cx}{a b c e:Expr}{f fa fb fc:FE}{p p2 pos:Pos}{es:List Expr}{fs:List FE}
theorem Qc:OpR X (compareOp .IsNot) (P0 true):=by intro BU s σ H x y v u Q I rx ry h;obtain⟨rfl,q⟩:=h;cases ry;refine isnot_none_gen ?_;rw[IV rx];exact⟨.bl _,H,I,rfl,q⟩
theorem Qd:OpD (P0 true) Dm.Ck:=by
 intro H0 H x y dx dy z Q s rx ry e k;unfold Dm.Ck at e;split at e
 ·cases e;have hy:=zx ry;have:y=V.non:=of_decide_eq_true (hy.trans rfl);refine⟨this,?_⟩;rw[if_pos rfl,zx rx];exact k _ H0 H (bG.refl s) (.bl _)
 ·cases e
theorem UG(ha:DE X a fa)(hb:DE X b fb):DT X (.Compare a [.IsNot] [b] pos) (Dm.tV (Dm.e2 Dm.Ck fa fb)):=uV Qc Qd ha hb (j7 _)
end
end Br
namespace Dm
noncomputable abbrev FN:=Env->List (List Dat)->Option (Env×List (List Dat))
noncomputable def nNx:FN:=fun ρ r=>some (ρ,r)
noncomputable def yG(s u:FN):FN:=fun ρ r=>match s ρ r with
 |none=>none
 |some (ρ1,r1)=>u ρ1 r1
noncomputable def nIf(t:FT)(a b:FN):FN:=fun ρ r=>match t ρ with
 |none=>none
 |some (true,ρ1)=>a ρ1 r
 |some (false,ρ1)=>b ρ1 r
noncomputable def Ac(i e:FE):FN:=fun ρ r=>match i ρ with
 | some (.val (.int k),ρ1)=>(match ixN r.length k with
  |none=>none
  |some m=>match r[m]? with
   |none=>none
   |some row=>match e ρ1 with
    |none=>none
    |some (x,ρ2)=>match tk ρ2 x with
     |none=>none
     |some (d,ρ3)=>if row.length<SZ then some (ρ3,r.set m (row++[d])) else none)
 |_=>none
noncomputable def nA(j i:Nat)(e:FE):FN:=fun ρ r=>if i=j then none else match sA i e ρ with
 |some (.nx ρ1)=>some (ρ1,r)
 |_=>none
noncomputable def iJ(bd:FB)(body:FN):List Dat->FN
 |[],ρ,r=>some (ρ,r)
 |d::q,ρ,r=>match bd d ρ with
  |none=>none
  |some ρ1=>match body ρ1 r with
   |none=>none
   |some (ρ2,r2)=>iJ bd body q ρ2 r2
noncomputable def oi(it:FI)(bd:FB)(body:FN):FN:=fun ρ r=>match it ρ with
 |none=>none
 |some (ds,ρ1)=>iJ bd body ds ρ1 r
noncomputable def nMk(bd:FB):List Dat->Env->Option Env
 |[],ρ=>some ρ
 |d::r,ρ=>match bd d ρ with
  |none=>none
  |some ρ1=>nMk bd r ρ1
noncomputable def k9(j:Nat)(it:FI)(own:Nat)(bd:FB)(U1:FN):FS:=fun ρ=>if j=0 then none else match it ρ with
 |none=>none
 | some (ds,ρ1)=>if ds.length≤SZ then (match nMk bd ds (ρ1++Dp own .un) with
  |none=>none
  |some ρ2=>match U1 ((ρ2.take ρ1.length).set j .un) (Dp ds.length []) with
   |none=>none
   |some (ρ3,r)=>some (.nx (ρ3.set j (.ow (.lst (r.map .lst)))))) else none
noncomputable def wC:List Dat->Option RV
 |[.dct ks _]=>if ks.length<=63 then some (.new (.lst ((kr (fun a b=>decide (a<b)) ks).map .int))) else none
 |_=>none
noncomputable def EL:List Dat->Option RV
 |[.dct ks vs]=>some (.new (.dct ks vs))
 |_=>none
noncomputable def m8:List Int->List Dat->Int->List Int
 |k::ks,_::vs,i=>if k=i then m8 ks vs i else k::m8 ks vs i
 |_,_,_=>[]
noncomputable def m9:List Int->List Dat->Int->List Dat
 |k::ks,v::vs,i=>if k=i then m9 ks vs i else v::m9 ks vs i
 |_,_,_=>[]
noncomputable def Ad(i:Nat)(e:FE):FE:=fun ρ=>match ρ[i]? with
 | some (.ow (.dct _ _))=>(match e ρ with
  | some (.val (.int k),ρ1)=>(match ρ1[i]? with
   | some (.ow (.dct ks vs))=>(match cL ks vs k with
    |some d=>some (.val d,ρ1.set i (.ow (.dct (m8 ks vs k) (m9 ks vs k))))
    |none=>none)
   |_=>none)
  |_=>none)
 |_=>none
mutual
noncomputable def bJ:Dat->Bool
 |.tup xs=>lS xs
 |.lst xs=>lS xs
 |.dct _ _=>false
 |.dcp _ _=>false
 |.exc _=>false
 |.jA _ _=>false
 |_=>true
noncomputable def lS:List Dat->Bool
 |[]=>true
 |x::r=>bJ x&&lS r
end
noncomputable def tkd(ρ:Env):Val->Option (Dat×Env)
 |.val d=>some (d,ρ)
 |.new d=>some (d,ρ)
 |.slot i=>match ρ[i]? with
  |some (.ow (.dct ks vs))=>some (.dct ks vs,ρ)
  |some (.ow d)=>some (d,ρ.set i (.sh d))
  |some (.sh d)=>some (d,ρ)
  |_=>none
noncomputable def G4(ρ:Env):List Val->Option (List Dat×Env)
 |[]=>some ([],ρ)
 |x::r=>match tkd ρ x with
  |none=>none
  |some (d,ρ1)=>match G4 ρ1 r with
   |none=>none
   |some (ds,ρ2)=>some (d::ds,ρ2)
noncomputable def eFd(f:List Dat->Option RV)(as:List FE):FE:=fun ρ=>match eAs as ρ with
 |none=>none
 |some (xs,ρ1)=>match G4 ρ1 xs with
  |none=>none
  |some (ds,ρ2)=>match f ds with
   |none=>none
   |some v=>if bJ v.dat then some (v.cR,ρ2) else none
end Dm
namespace Br
open PySem PySem.Spec PyProof.Rows L2
section
variable{H0 H:Hp}{rows:List (List Dat)}{ps:List Addr}{H0s Hs:Hp}{ρs:Dm.Env}{σs:L2.St}{ρ ρ':Dm.Env}{j:Nat}{σ:L2.St}{b:Addr}
def bX(H0 H:Hp):List Addr->List (List Dat)->Prop
 |[],[]=>True
 |p::ps,r::rs=>(∃xs,H p=some (.lst xs)/\bg H0 xs r)/\bX H0 H ps rs
 |_,_=>False
theorem bX.len:∀{ps:List Addr} {rs:List (List Dat)},bX H0 H ps rs->ps.length=rs.length
 |[],[],_=>rfl
 |_::_,_::_,h=>by simp[bX.len h.2]
theorem bX.get:∀{ps:List Addr} {rs:List (List Dat)} {i:Nat} {r:List Dat},bX H0 H ps rs->rs[i]?=some r->∃p xs,ps[i]?=some p/\H p=some (.lst xs)/\bg H0 xs r
 |[],[],_,_,_,e=>by simp at e
 |p::_,_::_,0,_,h,e=>by simp at e;subst e;obtain⟨xs,h1,h2⟩:=h.1;exact⟨p,xs,rfl,h1,h2⟩
 |_::_,_::_,i+1,_,h,e=>by obtain⟨p,xs,h1,h2⟩:=bX.get (i:=i) h.2 (by simpa using e);exact⟨p,xs,by simpa using h1,h2⟩
theorem bX.mono{H0 H H0' H':Hp}:∀{ps:List Addr} {rs:List (List Dat)},bX H0 H ps rs->aO H0 H0'->(∀p∈ps,H' p=H p)->bX H0' H' ps rs
 |[],[],_,_,_=>trivial
 |p::ps,r::rs,h,s,k=>by obtain⟨⟨xs,h1,h2⟩,h3⟩:=h;exact⟨⟨xs,by rw[k p PU];exact h1,h2.mono s⟩,bX.mono h3 s fun q hq=>k q (Ds _ hq)⟩
theorem bX.set{p:Addr}{xs:List V}{r:List Dat}(w:bg H0 xs r):∀{ps:List Addr} {rs:List (List Dat)} {i:Nat},bX H0 H ps rs->ps.Nodup->ps[i]?=some p->bX H0 (upd H p (.lst xs)) ps (rs.set i r)
 |[],[],_,_,_,e=>by simp at e
 |q::ps,_::rs,0,h,n,e=>by simp at e;subst e;refine⟨⟨xs,aQ,w⟩,h.2.mono (aO.refl _) fun y hy=>aM fun z=>?_⟩;subst z;exact(aal.mp n).1 hy
 |q::ps,_::rs,i+1,h,n,e=>by
  have e':ps[i]?=some p:=by simpa using e
  obtain⟨⟨ys,h1,h2⟩,h3⟩:=h;obtain⟨n1,n2⟩:=aal.mp n;refine⟨⟨ys,?_,h2⟩,bX.set w h3 n2 e'⟩;rw[aM fun z=>?_]
  ·exact h1
  ·subst z;exact n1 (abe e')
theorem bX.some:∀{ps:List Addr} {rs:List (List Dat)},bX H0 H ps rs->∀p∈ps,∃o,H p=some o
 |[],[],_,_,h=>by cases h
 |q::ps,_::rs,h,p,hp=>by
  rcases aah.mp hp with rfl | hp
  ·obtain⟨xs,h1,_⟩:=h.1;exact⟨_,h1⟩
  ·exact bX.some h.2 p hp
structure NS(j:Nat)(σs:L2.St)(ρs:Dm.Env)(H0s Hs:Hp)(σ:L2.St)(ρ:Dm.Env)(H0 H:Hp)(rows:List (List Dat)):Prop where
 st:a_ H0 H σ ρ
 stp:Stp (aJ σs ρs) H0s Hs H0 H
 own:∀a,aJ σ ρ a->aJ σs ρs a\/Hs a=none
 fx:σ[0]?=σs[0]?
 ex:∃(L:Addr) (ps:List Addr),σ[j]?=some (some (.ref L))/\Hs L=none/\H0 L=none/\¬aJ σ ρ L/\H L=some (.lst (ps.map V.ref))/\(L::ps).Nodup/\(∀p∈ps,Hs p=none/\H0 p=none/\¬aJ σ ρ p)/\bX H0 H ps rows
theorem NS.est{H0 H H0' H':Hp}(n:NS j σs ρs H0s Hs σ ρ H0 H rows)(t:ESt σ ρ H0 H ρ' H0' H'):NS j σs ρs H0s Hs σ ρ' H0' H' rows:=by
 obtain⟨L,ps,h1,h2,h3,h4,h5,h6,h7,h8⟩:=n.ex;obtain⟨k1,k2,k3⟩:=t.kq h5 h3 h4;refine⟨t.st,n.stp.trans t.stp n.own,fun a z=>n.own a (t.own a z),n.fx,L,ps,h1,h2,k2,k3,k1,h6,fun p hp=>?_,h8.mono t.stp.s0 fun p hp=>?_⟩
 ·obtain⟨q1,q2,q3⟩:=h7 p hp;obtain⟨o,q4⟩:=h8.some p hp;obtain⟨z1,z2,z3⟩:=t.kq q4 q2 q3;exact⟨q1,z2,z3⟩
 ·obtain⟨q1,q2,q3⟩:=h7 p hp;obtain⟨o,q4⟩:=h8.some p hp;obtain⟨z1,z2,z3⟩:=t.kq q4 q2 q3;rw[z1,q4]
theorem NS.bind{σ σ':L2.St}(n:NS j σs ρs H0s Hs σ ρ H0 H rows)(st:a_ H0 H σ' ρ')(o:∀a,aJ σ' ρ' a->aJ σ ρ a)(hj:σ'[j]?=σ[j]?)(h0:σ'[0]?=σ[0]?):NS j σs ρs H0s Hs σ' ρ' H0 H rows:=by obtain⟨L,ps,h1,h2,h3,h4,h5,h6,h7,h8⟩:=n.ex;exact⟨st,n.stp,fun a z=>n.own a (o a z),h0.trans n.fx,L,ps,hj.trans h1,h2,h3,fun z=>h4 (o L z),h5,h6,fun p hp=>⟨(h7 p hp).1,(h7 p hp).2.1,fun z=>(h7 p hp).2.2 (o p z)⟩,h8⟩
noncomputable def EM(H0 H:Hp)(ps:List Addr):Hp:=fun b=>if b∈ps then H b else H0 b
theorem Di(h:b∈ps):EM H0 H ps b=H b:=by unfold EM;rw[if_pos h]
theorem oU(h:b∉ps):EM H0 H ps b=H0 b:=by unfold EM;rw[if_neg h]
theorem Kz(s:aO H0 H):aO H0 (EM H0 H ps):=fun b o e=>by
 by_cases q:b∈ps
 ·rw[Di q];exact s _ _ e
 ·rw[oU q];exact e
theorem MK(s:aO H0 H):aO (EM H0 H ps) H:=fun b o e=>by
 by_cases q:b∈ps
 ·rw[Di q]at e;exact e
 ·rw[oU q]at e;exact s _ _ e
theorem bX.reps{H0 H H1:Hp}:∀{ps:List Addr} {rs:List (List Dat)},bX H0 H ps rs->aO H0 H1->(∀p∈ps,H1 p=H p)->bg H1 (ps.map V.ref) (rs.map Dat.lst)
 |[],[],_,_,_=>.nil
 |p::ps,r::rs,h,s,k=>by obtain⟨⟨xs,h1,h2⟩,h3⟩:=h;exact .cons (.lst (.inl ((k p PU).trans h1)) (h2.mono s)) (bX.reps h3 s fun q hq=>k q (Ds _ hq))
theorem NS.done{ρ:Dm.Env}(n:NS j σs ρs H0s Hs σ ρ H0 H rows):∃H0',SSt σs ρs H0s Hs σ (ρ.set j (.ow (.lst (rows.map Dat.lst)))) H0' H:=by
 obtain⟨L,ps,h1,h2,h3,h4,h5,h6,h7,h8⟩:=n.ex;obtain⟨n1,n2⟩:=aal.mp h6;have ss:=Kz (ps:=ps) n.st.same;have st:a_ (EM H0 H ps) H σ ρ:={
  same:=MK n.st.same
  len:=n.st.len
  sh:=fun i d h=>by obtain⟨v,z,r⟩:=n.st.sh i d h;exact⟨v,z,r.mono ss⟩
  ow:=fun i d h=>by obtain⟨b,z,q,w⟩:=n.st.ow i d h;have nb:b∉ps:=fun y=>(h7 b y).2.2 ⟨i,d,h,z⟩;exact⟨b,z,by rw[oU nb];exact q,w.mono ss rfl⟩
  dis:=n.st.dis }
 refine⟨EM H0 H ps,st.wu h1 h4 (by rw[oU n1];exact h3) ⟨_,h5,h8.reps ss fun p hp=>Di hp⟩,⟨n.stp.s0.trans ss,n.stp.s1,fun a o e=>?_,n.stp.s3⟩,fun a z=>?_,n.fx⟩
 ·by_cases q:a∈ps
  ·exact .inl (h7 a q).1
  ·rw[oU q]at e;exact n.stp.s2 a o e
 ·obtain⟨i,d,z1,z2⟩:=z;by_cases q:j=i
  ·subst q;rw[h1]at z2;cases z2;exact .inr h2
  ·rw[gV q]at z1;exact n.own a ⟨i,d,z1,z2⟩
def tDN(j:Nat)(f:Dm.FN):TS:=fun D σ H=>∃σs ρs H0s Hs H0 ρ rows ρ' rows',NS j σs ρs H0s Hs σ ρ H0 H rows/\f ρ rows=some (ρ',rows')/\∀σ' H0' H',NS j σs ρs H0s Hs σ' ρ' H0' H' rows'->aO H0 H0'->D.nx σ' H'
end
section
variable{D:Ends}{σ:L2.St}{H:Hp}{j:Nat}
theorem Xz(h:tDN j Dm.nNx D σ H):Ld D σ H:=by obtain⟨σs,ρs,H0s,Hs,H0,ρ,rows,ρ',rows',n,e,k⟩:=h;cases e;exact k σ H0 H n (aO.refl _)
theorem ML{s u:Dm.FN}(h:tDN j (Dm.yG s u) D σ H):Gy (tDN j s) (tDN j u) D σ H:=by
 obtain⟨σs,ρs,H0s,Hs,H0,ρ,rows,ρ',rows',n,e,k⟩:=h;unfold Dm.yG at e;split at e
 ·cases e
 rename_i ρ1 r1 e1;exact⟨σs,ρs,H0s,Hs,H0,ρ,rows,ρ1,r1,n,e1,fun σ' H0' H' n' s1=>⟨σs,ρs,H0s,Hs,H0',ρ1,r1,ρ',rows',n',e,fun σ2 H2 Hc n2 s2=>k σ2 H2 Hc n2 (s1.trans s2)⟩⟩
theorem XA{t:FT}{a b:Dm.FN}(h:tDN j (Dm.nIf t a b) D σ H):Tj (tDT t) (tDN j a) (tDN j b) D σ H:=by
 obtain⟨σs,ρs,H0s,Hs,H0,ρ,rows,ρ',rows',n,e,k⟩:=h;unfold Dm.nIf at e;split at e
 ·cases e
 ·rename_i ρ1 e1;refine⟨H0,ρ,true,ρ1,n.st,e1,fun H1 Hb t1=>?_⟩;dsimp only;rw[if_pos rfl];exact⟨σs,ρs,H0s,Hs,H1,ρ1,rows,ρ',rows',n.est t1,e,fun σ2 H2 Hc n2 s2=>k σ2 H2 Hc n2 (t1.stp.s0.trans s2)⟩
 ·rename_i ρ1 e1;refine⟨H0,ρ,false,ρ1,n.st,e1,fun H1 Hb t1=>?_⟩;dsimp only;rw[if_neg aaz];exact⟨σs,ρs,H0s,Hs,H1,ρ1,rows,ρ',rows',n.est t1,e,fun σ2 H2 Hc n2 s2=>k σ2 H2 Hc n2 (t1.stp.s0.trans s2)⟩
theorem UH{fi:Dm.FI}{bd:Dm.FB}{g:TG}{body:Dm.FN}{is:List Nat}(hb:BD is g bd)(hj:j∉is)(h:tDN j (Dm.oi fi bd body) D σ H):Tu (tDI fi) g (tDN j body) D σ H:=by
 obtain⟨σs,ρs,H0s,Hs,H0,ρ,rows,ρ',rows',n,e,k⟩:=h;unfold Dm.oi at e;split at e
 ·cases e
 rename_i ys ρ1 e1;refine⟨H0,ρ,ys,ρ1,n.st,e1,fun J H00 Hb t1 jw=>?_⟩;refine ⟨fun i m σ H=>∃ H0 ρ rows,NS j σs ρs H0s Hs σ ρ H0 H rows∧aO H00 H0∧m=ys.length-i∧i≤ys.length∧Dm.iJ bd body (ys.drop i) ρ rows=some (ρ',rows'),
  ⟨ys.length,H00,ρ1,rows,n.est t1,aO.refl _,by simp,aaY _,by simpa using e⟩,?_⟩
 rintro i m σ H ⟨H0,ρ,rows,n,s00,rfl,hi,e⟩;obtain⟨js,jg⟩:=jw H0 H s00 n.st.same;by_cases NO:i<ys.length
 ·have hd:ys[i]?=some ys[i]:=by simp[NO]
  obtain⟨g1,g2⟩:=jg i ys[i] hd;rw[abD NO]at e;unfold Dm.iJ at e;refine .inr ⟨g1,fun σ' H'=>∃H0 ρ rows,NS j σs ρs H0s Hs σ' ρ H0 H' rows/\aO H00 H0/\Dm.iJ bd body (ys.drop (i+1)) ρ rows=some (ρ',rows'),?_,fun x H' y=>?_⟩
  ·rintro σ' H' ⟨H0',ρ2,r2,h1,h2,h3⟩;exact⟨ys.length-(i+1),by lia,H0',ρ2,r2,h1,h2,rfl,NO,h3⟩
  ·obtain⟨H0',gr,rx⟩:=g2 x H' y;split at e
   ·cases e
   ·rename_i ρ2 e2;have t2:=ESt.grow n.st gr;have n2:=n.est t2;refine hb H0' H' σ ρ ρ2 x ys[i] _ t2.st rx e2 fun σ2 st2 o2 k2 _ f2=>?_;have n3:=n2.bind st2 o2 (k2 j hj) f2;have s3:aO H00 H0':=s00.trans gr.s0;split at e
    ·cases e
    ·rename_i ρ3 r3 e3;refine⟨σs,ρs,H0s,Hs,H0',ρ2,rows,ρ3,r3,n3,e3,fun σ4 H4 Hd n4 s4=>⟨H4,ρ3,r3,n4,s3.trans s4,e⟩⟩
 ·have e':i=ys.length:=by lia
  subst e';rw[ab9]at e;cases e;exact .inl ⟨js _ (aab _),k σ H0 H n (t1.stp.s0.trans s00)⟩
theorem UI{K:Dk}{fi f:FE}(h:tDN j (Dm.Ac fi f) D σ H):Ed (tBM K "list" C1 (tOp (TY K) (v9 j) (tD fi)) (tDA [f])) D σ H:=by
 obtain⟨σs,ρs,H0s,Hs,H0,ρ,rows,ρ',rows',n,e,k⟩:=h;unfold Dm.Ac at e;split at e
 case h_2=>cases e
 rename_i z ρ1 e1;split at e
 ·cases e
 rename_i m em;split at e
 ·cases e
 rename_i row er;split at e
 ·cases e
 rename_i x ρ2 e2;split at e
 ·cases e
 rename_i d ρ3 e3;split at e
 case isFalse=>cases e
 rename_i hz;cases e;obtain⟨L,ps0,h1,_⟩:=n.ex;refine⟨_,h1,H0,ρ,_,ρ1,n.st,e1,fun y H1 Hb t1 r1=>?_⟩;have n1:=n.est t1;obtain⟨L',ps,q1,q2,q3,q4,q5,q6,q7,q8⟩:=n1.ex;rw[h1]at q1;cases q1;obtain⟨q,xs,hq,hqx,hqr⟩:=q8.get er;have hqm:q∈ps:=abe hq;refine⟨L,ps.map V.ref,z,V.ref q,rfl,Rep.isInt r1,.inl (.inl q5),?_,.inl ⟨rfl,xs,.inl (.inl hqx)⟩,?_⟩
 ·show (L2.ixN (ps.map V.ref).length z).bind (fun j=>(ps.map V.ref)[j]?)=_;rw[Pa,q8.len,<- Ud,em];show (ps.map V.ref)[m]?=_;rw[aao,hq];rfl
 refine⟨H1,ρ1,[x],ρ2,n1.st,by unfold Dm.eAs;rw[e2];rfl,fun vs H2 Hc t2 r2=>?_⟩;cases r2 with
 |cons r rr=>
  cases rr;obtain⟨H3,t3,b3,r3,_,_⟩:=take1 t2 (aO.refl _) r e3;have n3:=n1.est t3;obtain⟨L',ps',w1,w2,w3,w4,w5,w6,w7,w8⟩:=n3.ex;rw[h1]at w1;cases w1;obtain⟨k1,_,_⟩:=t3.kq q5 q3 q4;rw[k1]at w5;have ep:ps'=ps:=by
   have:ps.map V.ref=ps'.map V.ref:=by injection w5 with z;injection z
   exact((acr fun a b h=>by injection h).mp this).symm
  subst ep;obtain⟨q',ys,hq',hqy,XC⟩:=w8.get er;rw[hq]at hq';cases hq';have nL:L≠q:=fun z=>(aal.mp w6).1 (z▸hqm);refine⟨q,ys,_,rfl,rfl,hqy,by rw[XC.length];exact aam hz (by decide),?_⟩;obtain⟨z1,z2,z3⟩:=w7 q hqm;refine k σ H3 _ ⟨n3.st.aside z2 z3,n3.stp.aside z1,n3.own,n3.fx,L,ps',h1,w2,w3,w4,by rw[aM nL];exact k1,w6,w7,bX.set (XC.append (.cons r3 .nil)) w8 (aal.mp w6).2 hq⟩ (t1.stp.s0.trans t3.stp.s0)
theorem ZH{i:Nat}{f:FE}(h:tDN j (Dm.nA j i f) D σ H):Ef (tD f) (nX i) D σ H:=by
 obtain⟨σs,ρs,H0s,Hs,H0,ρ,rows,ρ',rows',n,e,k⟩:=h;unfold Dm.nA at e;split at e
 ·cases e
 rename_i hij;split at e
 case h_2=>cases e
 rename_i ρ9 e9;cases e;unfold Dm.sA at e9;split at e9
 ·cases e9
 rename_i hi0;split at e9
 ·cases e9
 ·rename_i d ρ1 e1;cases e9;refine⟨H0,ρ,_,ρ1,n.st,e1,fun v H0' H' t r=>?_⟩;obtain⟨a,e,n1,no,n0,w⟩:=r;subst e;have m:=n.est t;obtain⟨L0,ps0,y1,_,_,_,y5,_,y7,y8⟩:=n.ex;obtain⟨L,ps,h1,h2,h3,h4,h5,h6,h7,h8⟩:=m.ex;rw[y1]at h1;cases h1;obtain⟨k1,_,_⟩:=t.kq y5 (by assumption) (by assumption);rw[k1]at h5;have ep:ps=ps0:=by
   have:ps0.map V.ref=ps.map V.ref:=by injection h5 with z;injection z
   exact((acr fun a b h=>by injection h).mp this).symm
  subst ep;have nL:L0≠a:=fun z=>by rw[z,n1]at y5;cases y5
  have nP:∀p∈ps,p≠a:=fun p hp z=>by obtain⟨o,q⟩:=y8.some p hp;rw[z,n1]at q;cases q
  refine k _ H0' H' ⟨m.st.GP no n0 w,m.stp,fun b z=>?_,(gV hi0).trans m.fx,L0,ps,(gV hij).trans y1,h2,h3,fun z=>?_,k1,h6,fun p hp=>⟨(h7 p hp).1,(h7 p hp).2.1,fun z=>?_⟩,h8⟩ t.stp.s0
  ·rcases kE z with rfl | z
   ·exact .inr (n.stp.gone n1)
   ·exact m.own b z
  ·rcases kE z with z | z
   ·exact nL z
   ·exact h4 z
  ·rcases kE z with z | z
   ·exact nP p hp z
   ·exact(h7 p hp).2.2 z
 ·rename_i x ρ1 _ e1;split at e9
  ·cases e9
  ·rename_i d ρ2 e2;cases e9;refine⟨H0,ρ,_,ρ1,n.st,e1,fun v H0' H' t r=>?_⟩;obtain⟨H1,t1,b1,r1,_,_⟩:=take1 t (aO.refl _) r e2;exact k _ H1 H' ((n.est t1).bind (t1.st.zV r1) (fun b z=>iG z) (gV hij) (gV hi0)) t1.stp.s0
end
section
variable{bd:Dm.FB}{is:List Nat}{U1:Dm.FN}{j own:Nat}{fi:Dm.FI}{ρ:Dm.Env}{σ:L2.St}{g:TG}
theorem EN{own:Nat}{Q:VK}{H00 Hb:Hp}{ρ1 ρ2:Dm.Env}{ds:List Dat}{J:It}(hb:BD is g bd)(hl:∀i∈is,σ.length<=i)
  (st1:a_ H00 Hb σ ρ1) (jw:JW J H00 ds) (hsz:ds.length<=Dm.SZ) (e2:Dm.nMk bd ds (ρ1++Dp own .un)=some ρ2) (D:Addr) (hD:Hb D=none)
  (k:∀ H0' H' (ps:List Addr),a_ H0' H' σ (ρ2.take ρ1.length)→Stp (aJ σ ρ1) H00 Hb H0' H'→(∀ a,aJ σ (ρ2.take ρ1.length) a→aJ σ ρ1 a)→H' D=some (.lst (ps.map V.ref))→H0' D=none→(D::ps).Nodup→(∀ p∈ps,Hb p=none∧H0' p=none) →
   bX H0' H' ps (Dp ds.length [])->Q (.ref D) H') :
  ∃W:Nat->Nat->L2.St->Hp->Prop,(∃m,W 0 m (σ++Dp own none) (upd Hb D (.lst [])))/\∀i m σ' H',W i m σ' H' ->
  (J.stop i H'∧Q (.ref D) H')∨(J.go i H'∧∀ x H2,J.yld i H' x H2→g x σ' H2 fun σ2 H3=>L5 σ2 H3 fun b H4=>if b=true
   then Lv CU σ2 H4 fun y H5=>∃KG,H5 D=some (.lst KG)/\KG.length<sizeLine/\∃m',m'<m/\W (i+1) m' σ2 (upd H5 D (.lst (KG++[y])))
   else ∃m',m'<m/\W (i+1) m' σ2 H4):=by
 have noD:¬aJ σ ρ1 D:=st1.cS hD;refine ⟨fun i m σ' H'=>∃ (H0c:Hp) (ρc:Dm.Env) (ps:List Addr),a_ H0c H' σ' ρc∧aO H00 H0c∧m=ds.length-i∧i≤ds.length∧Dm.nMk bd (ds.drop i) ρc=some ρ2 ∧
  H' D=some (.lst (ps.map V.ref))/\ps.length=i/\H0c D=none/\(D::ps).Nodup/\(∀p∈ps,Hb p=none/\H0c p=none)/\bX H0c H' ps (Dp i [])/\Stp (aJ σ ρ1) H00 Hb H0c H'/\(∀j,j<σ.length->σ'[j]?=σ[j]?)/\(∀a,aJ σ' ρc a->aJ σ ρ1 a),
  ⟨ds.length,H00,ρ1++Dp own .un,[],(st1.aside (st1.same.free hD) noD).ext own,aO.refl _,by simp,aaY _,by simpa using e2,aQ,rfl,st1.same.free hD,by simp,by simp,trivial,(Stp.refl _ _ _).aside hD,
   fun j hj=>aae hj,fun a z=>wj st1 z⟩,?_⟩
 rintro i m σ' H' ⟨H0c,ρc,ps,sc,s00,rfl,hi,ec,hDl,KD,n0,nd,hps,hro,sp,hσ,ho⟩;have nOc:¬aJ σ' ρc D:=fun z=>noD (ho D z);have nOp:∀p∈ps,¬aJ σ' ρc p:=fun p hp z=>st1.cS (hps p hp).1 (ho p z);obtain⟨js,jg⟩:=jw H0c H' s00 sc.same;by_cases NO:i<ds.length
 ·have hd:ds[i]?=some ds[i]:=by simp[NO]
  obtain⟨g1,g2⟩:=jg i ds[i] hd;rw[abD NO]at ec;unfold Dm.nMk at ec;refine .inr ⟨g1,fun y H2 yy=>?_⟩;obtain⟨H0',gr,rx⟩:=g2 y H2 yy;split at ec
  ·cases ec
  rename_i ρ3 e3;have t2:=ESt.grow sc gr;obtain⟨hD2,n02,no2⟩:=t2.kq hDl n0 nOc;refine hb H0' H2 σ' ρc ρ3 y ds[i] _ t2.st rx e3 fun σ3 st3 o3 k3 d3 _=>?_;unfold L5;dsimp only;rw[if_pos rfl];refine⟨aaY _,fun p hp=>?_⟩;have hpD:p≠D:=fun z=>by rw[z,hD2]at hp;cases hp
  have noP:¬aJ σ3 ρ3 p:=st3.cS hp;have XD:∀q∈ps,q≠p:=fun q hq z=>by obtain⟨o,h1⟩:=hro.some q hq;have:=gr.s1 q o h1;rw[z,hp]at this;cases this
  refine⟨ps.map V.ref,by rw[aM (Ne.symm hpD)];exact hD2,?_,ds.length-(i+1),by lia,H0',ρ3,ps++[p],?_,s00.trans gr.s0,rfl,NO,ec,?_,by simp[KD],n02,?_,?_,?_,?_,?_,?_⟩
  ·rw[Pa,KD];unfold Dm.SZ at hsz;exact aam (aam NO hsz) (by decide)
  ·have no3:¬aJ σ3 ρ3 D:=fun z=>no2 (o3 D z);exact(st3.aside (st3.same.free hp) noP).aside n02 no3
  ·rw[aQ,aaj];rfl
  ·rw[<- abW];refine aa3.mpr ⟨nd,by simp,fun a ha b hb=>?_⟩;rw[aaL.mp hb];rcases aah.mp ha with rfl | ha
   ·exact Ne.symm hpD
   ·exact XD a ha
  ·intro q hq;rcases aay.mp hq with hq | hq
   ·refine⟨(hps q hq).1,?_⟩;obtain⟨o,h1⟩:=hro.some q hq;exact(t2.kq h1 (hps q hq).2 (nOp q hq)).2.1
   ·rw[aaL.mp hq];exact⟨(sp.trans t2.stp fun a z=>.inl (ho a z)).gone hp,st3.same.free hp⟩
  ·have base:bX H0' (upd (upd H2 p (.lst [])) D (.lst (ps.map V.ref++[V.ref p]))) ps (Dp i []):=hro.mono gr.s0 fun q hq=>by
    have hqD:q≠D:=fun z=>(aal.mp nd).1 (z▸hq);obtain⟨o,h1⟩:=hro.some q hq;rw[aM hqD,aM (XD q hq),gr.s1 q o h1,h1]
   have app:∀{H0 H:Hp} {ps:List Addr} {rs:List (List Dat)} {p:Addr},bX H0 H ps rs->H p=some (.lst [])->bX H0 H (ps++[p]) (rs++[[]]):=by
    intro H0 H ps rs p h1 h2
    induction ps generalizing rs with
    |nil=>cases rs with
     |nil=>exact⟨⟨[],h2,.nil⟩,trivial⟩
     |cons _ _=>exact h1.elim
    |cons q ps ih=>cases rs with
     |nil=>exact h1.elim
     |cons r rs=>exact⟨h1.1,ih h1.2⟩
   have:=app base (p:=p) (by rw[aM hpD,aQ]);rw[List.replicate_succ'];exact this
  ·exact((sp.trans t2.stp fun a z=>.inl (ho a z)).aside ((sp.trans t2.stp fun a z=>.inl (ho a z)).gone hp)).aside hD
  ·exact fun j hj=>(k3 j fun z=>abV.mpr (hl j z) hj).trans (hσ j hj)
  ·exact fun a z=>ho a (o3 a z)
 ·have e':i=ds.length:=by lia
  subst e';rw[ab9]at ec;cases ec;refine .inl ⟨js _ (aab _),k H0c H' ps ?_ sp ?_ hDl n0 nd hps hro⟩
  all_goals
   have Fp:σ.length<=ρ2.length:=by rw[<- sc.len];refine abV.mp fun z=>?_;have q:=hσ σ'.length z;rw[aaq (aab _),aaI z]at q;cases q
   have tk:∀{j:Nat} {c:Dm.Cell},(ρ2.take ρ1.length)[j]?=some c->j<σ.length/\ρ2[j]?=some c:=fun {j c} h=>by
    have hj:j<ρ1.length:=by
     have:=(aag.mp h).1;rw[aa7]at this
     lia
    rw[abG hj]at h;exact⟨by rw[st1.len];exact hj,h⟩
  ·refine⟨sc.same,?_,fun j d h=>?_,fun j d h=>?_,fun j j' d d' a h1 h2 h3 h4=>?_⟩
   ·rw[aa7,<- st1.len];lia
   ·obtain⟨hj,h⟩:=tk h;obtain⟨v,q,r⟩:=sc.sh j d h;exact⟨v,(hσ j hj).symm.trans q,r⟩
   ·obtain⟨hj,h⟩:=tk h;obtain⟨v,q,r⟩:=sc.ow j d h;exact⟨v,(hσ j hj).symm.trans q,r⟩
   ·obtain⟨hj,h1⟩:=tk h1;obtain⟨hj',h2⟩:=tk h2;exact sc.dis j j' d d' a h1 h2 ((hσ j hj).trans h3) ((hσ j' hj').trans h4)
  ·intro a ⟨j,d,h1,h2⟩;obtain⟨hj,h1⟩:=tk h1;exact ho a ⟨j,d,h1,(hσ j hj).trans h2⟩
theorem qD{z:Dm.Out}(q:Dm.k9 j fi own bd U1 ρ=some z):∃ds ρ1 ρ2 ρ3 r3,j≠0/\fi ρ=some (ds,ρ1)/\ds.length<=Dm.SZ/\Dm.nMk bd ds (ρ1++Dp own .un)=some ρ2 /\
  U1 ((ρ2.take ρ1.length).set j .un) (Dp ds.length [])=some (ρ3,r3)/\z=.nx (ρ3.set j (.ow (.lst (r3.map .lst)))):=by
 unfold Dm.k9 at q;split at q
 ·cases q
 rename_i hj0;split at q
 ·cases q
 rename_i ds ρ1 e1;split at q
 case isFalse=>cases q
 rename_i hsz;split at q
 ·cases q
 rename_i ρ2 e2;split at q
 ·cases q
 rename_i ρ3 r3 e3;cases q;exact⟨ds,ρ1,ρ2,ρ3,r3,hj0,e1,hsz,e2,e3,rfl⟩
theorem IZ{s u:FS}{o:Dm.Out}(hs:∀z,s ρ=some z->∃ρ',z=.nx ρ')(e:Dm.aR s u ρ=some o):∃ρ1,s ρ=some (.nx ρ1)/\u ρ1=some o:=by
 cases q:s ρ with
 |none=>unfold Dm.aR at e;rw[q]at e;cases e
 |some z=>obtain⟨ρ1,rfl⟩:=hs z q;unfold Dm.aR at e;rw[q]at e;exact⟨ρ1,rfl,e⟩
theorem UJ{H:Hp}{D:Ends}{gs:FS}(hb:BD is g bd)(hl:∀i∈is,σ.length<=i)(hj:j<σ.length)(h:tDS (Dm.aR (Dm.k9 j fi own bd U1) gs) D σ H) :
  Gy (Ef (tLC (tDI fi) own g L5 (Lv CU)) (nX j)) (Gy (tDN j U1) (tDS gs)) D σ H:=by
 obtain⟨H0,ρ,o,st,e,k⟩:=h;obtain⟨ρ9,e9,e⟩:=IZ (fun z q=>by obtain⟨_,_,_,_,_,_,_,_,_,_,z⟩:=qD q;exact⟨_,z⟩) e;obtain⟨ds,ρ1,ρ2,ρ3,r3,hj0,e1,hsz,e2,e3,z9⟩:=qD e9;cases z9;refine⟨H0,ρ,ds,ρ1,st,e1,fun J H00 Hb t1 jw L hL=>EN (Q:=fun x H1=>nX j x σ H1 (Gy (tDN j U1) (tDS gs) D)) hb hl t1.st jw hsz e2 L hL fun H0' H' ps st' sp' ho' hDl n0 nd hps hro=>?_⟩;have nL:¬aJ σ ρ1 L:=t1.st.cS hL;have om:∀a,aJ (σ.set j (some (.ref L))) ((ρ2.take ρ1.length).set j .un) a->aJ σ (ρ2.take ρ1.length) a:=fun a ⟨i,d,h1,h2⟩=>by
  rcases bH h1 with⟨_,z⟩ | ⟨hij,h1⟩
  ·cases z
  ·rw[gV (Ne.symm hij)]at h2;exact⟨i,d,h1,h2⟩
 have st2:a_ H0' H' (σ.set j (some (.ref L))) ((ρ2.take ρ1.length).set j .un):={
  same:=st'.same
  len:=by rw[aaC,aaC];exact st'.len
  sh:=fun i d h=>by
   rcases bH h with⟨_,z⟩ | ⟨hij,h⟩
   ·cases z
   ·obtain⟨v,q,r⟩:=st'.sh i d h;exact⟨v,by rw[gV (Ne.symm hij)];exact q,r⟩
  ow:=fun i d h=>by
   rcases bH h with⟨_,z⟩ | ⟨hij,h⟩
   ·cases z
   ·obtain⟨v,q,r⟩:=st'.ow i d h;exact⟨v,by rw[gV (Ne.symm hij)];exact q,r⟩
  dis:=fun i i' d d' a h1 h2 h3 h4=>by
   rcases bH h1 with⟨_,z⟩ | ⟨q1,h1⟩
   ·cases z
   rcases bH h2 with⟨_,z⟩ | ⟨q2,h2⟩
   ·cases z
   rw[gV (Ne.symm q1)]at h3;rw[gV (Ne.symm q2)]at h4;exact st'.dis i i' d d' a h1 h2 h3 h4 }
 have sp:Stp (aJ σ ρ) H0 H H0' H':=t1.stp.trans sp' fun a z=>.inl (t1.own a z);have n:NS j σ ρ H0 H (σ.set j (some (.ref L))) ((ρ2.take ρ1.length).set j .un) H0' H' (Dp ds.length []):=
  ⟨st2,sp,fun a z=>.inl (t1.own a (ho' a (om a z))),gV hj0,L,ps,aap hj,t1.stp.gone hL,n0,fun z=>nL (ho' L (om L z)),hDl,nd,fun p hp=>⟨t1.stp.gone (hps p hp).1,(hps p hp).2,fun z=>t1.st.cS (hps p hp).1 (ho' p (om p z))⟩,hro⟩
 refine⟨σ,ρ,H0,H,H0',_,_,ρ3,r3,n,e3,fun σ4 H4 Hd n4 _=>?_⟩;obtain⟨H5,t5⟩:=n4.done;exact⟨H5,_,o,t5.st,e,k.pre t5⟩
noncomputable abbrev DN(X:Cx)(j:Nat)(st:Stmt)(f:Dm.FN):Prop:=PS X st (tDN j f)
noncomputable abbrev DNs(X:Cx)(j:Nat)(st:List Stmt)(f:Dm.FN):Prop:=PSs X st (tDN j f)
end
section
variable{X:Cx}{st:Stmt}{HJ:List Stmt}{fs gs:Dm.FN}{e c:Expr}{f:FE}{pos:Pos}{j:Nat}
section
variable{is:List Nat}{fi:Dm.FI}{bd:Dm.FB}
theorem XF:DNs X j [] Dm.nNx:=PSs.weak Ii fun _ _ _=>Xz
theorem UK(h1:DN X j st fs)(h2:DNs X j HJ gs):DNs X j (st::HJ) (Dm.yG fs gs):=PSs.weak (kU h1 h2) fun _ _ _=>ML
theorem Ae(h1:DN X j st fs):DNs X j [st] fs:=Ij h1
theorem XG{t:FT}{x y:List Stmt}(ht:DT X c t)(ha:DNs X j x fs)(hb:DNs X j y gs):DN X j (.If c x y pos) (Dm.nIf t fs gs):=PS.weak (Le ht ha hb) fun _ _ _=>XA
theorem I0{tg it:Expr}{body:List Stmt}(hp:PassesOwn (model X.prog X.w) X.A X.env X.xe)(hc:X.calm=true)(hi:DI X tg it fi)(hg:TG' X tg is bd)(hb:DNs X j body fs)(hj:decide (j∈is)=false:=by rfl)
  (hs:∀x,foldedSetIterable it X.env x=pure x:=by intro _;rfl):DN X j (.For tg it body [] pos) (Dm.oi fi bd fs):=by
 obtain⟨g,h1,h2⟩:=hg.ex;exact PS.weak (Lo hp hc hi h1 hb hs) fun _ _ _=>UH h2 (of_decide_eq_false hj)
theorem EO{x:Str}{i:Expr}{fi:FE}{px sp ap cp:Pos}(hi':DE X i fi)(he:DE X e f)(hi:X.N[j]?=some x:=by rfl)(hv:Vis X.env.scope x:=by trivial)(hd:(x == ("__debug__" : Str))=false:=by decide)
  (R1:(x == ("__classdict__" : Str))=false:=by decide) (KD:CW i:=by intro _ _;rfl) (XZ:attributeBase (.Subscript (.Name x px) i sp) "append" X.env (eval (.Subscript (.Name x px) i sp) X.env)=eval (.Subscript (.Name x px) i sp) X.env:=by rfl)
  (hfew:((backTo cp (starEach [e] X.env)).all (fun x=>!x.1)&&(backToKw cp (keywordEach [] X.env)).all (fun x=>x.1.isSome)
   && decide ([e].length+([]:List Keyword).length+(if ([]:List Keyword).isEmpty then 0 else 1)<30))=true:=by rfl)
  (XY:(ap.endLine == cp.line)=true:=by rfl) (hs:starEach [e] X.env=(false,eval e X.env)::starEach [] X.env:=by rfl) (R5:(backTo cp (starEach [] X.env)).any (·.1)=false:=by rfl)
  (hsw:swapsWith (.Call (.Attribute (.Subscript (.Name x px) i sp) "append" ap) [e] [] cp) none pos.line X.env=pure false:=by rfl) :
  DN X j (.Expr (.Call (.Attribute (.Subscript (.Name x px) i sp) "append" ap) [e] [] cp) pos) (Dm.Ac fi f):=
 PS.weak (uK (Ir abM PySem.F.slot_list_append PySem.F.type_list_append wc (RI Iq (kT hi hv hd R1) hi' KD) (aa he aj hs) XZ hfew XY hs R5) hsw) fun _ _ _=>UI
theorem MM(j:Nat)(nm own:List Str){y:Str}{py R4 G5:Pos}{tg iter:Expr}{scope:Scope}{U1:Dm.FN}{gs:FS}{lst:Stmt}(hN:X.N.Nodup)(hg:TGc X nm scope own tg is bd)(hi:DI X tg iter fi)(hlp:DN X j lst U1)(hre:DSs X HJ gs)
  (hc:X.calm=true:=by rfl) (hk:scope.kind=.function:=by rfl) (hS:uY X.env.scope X.N nm scope=true:=by rfl) (hl:(is.all fun i=>decide (X.N.length<=i))=true:=by rfl) (hj:X.N[j]?=some y:=by rfl) (hy:Loc X.env.scope y:=by trivial)
  (hsw:swapsWith (.ListComp (.List [] G5) [⟨tg,iter,[],0⟩] scope pos) (some (.Name y py)) R4.line X.env=pure true:=by rfl) (hs:∀y,foldedSetIterable iter X.env y=pure y:=by intro _;rfl)
  (hf:X.fn y=true\/X.env.scope.names.lookup y=some .local:=by trivial) :
  DSs X (.Assign [.Name y py] (.ListComp (.List [] G5) [⟨tg,iter,[],0⟩] scope pos) R4::lst::HJ) (Dm.aR (Dm.k9 j fi own.length bd U1) gs):=by
 obtain⟨g,h1,h2⟩:=hg.ex;have h:=kU (jU hN hj hy hc (iH.of hS hk) hi h1 (fun cl C s H fp=>C9) (fun cl C s H fp=>GC (pos:=G5) oz) hsw hs hf) (kU hlp hre);intro BU s σ H D I q;exact h BU s σ H D I (UJ h2 (fun i hi=>by rw[I.len];exact z5 hl i hi) (by rw[I.len];exact(aag.mp hj).1) q)
end
end
theorem I_{H0:Hp}(i:Int):∀{kvs:List (Key×V)} {ks:List Int} {ds:List Dat},kvs.map (·.1)=ks.map aaF->bg H0 (kvs.map (·.2)) ds ->
  (ki kvs (aaF i)).map (·.1)=(Dm.m8 ks ds i).map aaF/\bg H0 ((ki kvs (aaF i)).map (·.2)) (Dm.m9 ks ds i)
 |[],[],ds,_,r=>by cases r;exact⟨rfl,.nil⟩
 |[],_::_,_,e,_=>by cases e
 |_::_,[],_,e,_=>by cases e
 |(k,v)::kvs,k'::ks,ds,e,r=>by
  rw[gc,gc]at e;injection e with e1 e2
  cases r with
  |cons h t=>
   obtain⟨i1,i2⟩:=I_ i e2 t;unfold ki at i1 i2 ⊢;dsimp only at e1;subst e1;by_cases q:k'=i
   ·subst q;rw[aaS (by simp),Dm.m8,if_pos rfl,Dm.m9,if_pos rfl];exact⟨i1,i2⟩
   ·have q':¬(aaF k':Key)=aaF i:=De q;rw[aaT (by simpa using q'),Dm.m8,if_neg q,Dm.m9,if_neg q];exact⟨by rw[gc,gc,i1],by rw[gc];exact .cons h i2⟩
section
variable{σ:L2.St}{H:Hp}{Q:VK}
theorem UL{i:Nat}{f:FE}(h:tD (Dm.Ad i f) σ H Q):LP (v9 i) (tD f) σ H Q:=by
 obtain⟨H0,ρ,x,ρ',st,e,k⟩:=h;unfold Dm.Ad at e;split at e
 case h_2=>cases e
 rename_i ks0 vs0 h0;split at e
 case h_2=>cases e
 rename_i m ρ1 e1;split at e
 case h_2=>cases e
 rename_i ks vs h1;split at e
 case h_2=>cases e
 rename_i d hl;cases e;obtain⟨a0,q0,n0,UC,y0,_⟩:=st.ow i _ h0;refine⟨_,q0,a0,rfl,.inl ⟨UC,.inl y0⟩,H0,ρ,_,ρ1,st,e1,fun u H1 Hb t1 r1=>?_⟩;have hu:=Rep.isInt r1;subst hu;obtain⟨a,q,n,w⟩:=t1.st.ow i _ h1;rw[q0]at q;cases q;obtain⟨kvs,y,ek,rs⟩:=w;rcases qA m ek rs with⟨d',v,l1,l2,r⟩ | ⟨l1,_⟩
 ·rw[hl]at l1;cases l1;obtain⟨p1,p2⟩:=I_ m ek rs;have ow:aJ σ ρ1 a0:=⟨i,_,h1,q0⟩
  have hil:i<ρ1.length:=(aag.mp h1).1;refine⟨kvs,aaF m,v,y,rfl,l2,k v H1 _ ⟨t1.st.write h1 q0 ⟨_,aQ,p1,p2⟩,t1.stp.trans (Stp.write ow) fun b z=>.inl (t1.own b z),fun b z=>t1.own b (cZ h1 z),fun j z=>trivial⟩ r⟩
 ·rw[hl]at l1;cases l1
end
section
variable{vs:List Dat}{ρ ρ':Dm.Env}{ks:List Int}{d:Dat}{x:Dm.Val}{H H':Hp}{i:Nat}{X:Cx}
theorem G6:iz X (.type "dict") (fun xs H Q=>∃a kvs,xs=[.ref a]/\H a=some (.dK kvs)/\∀p,H p=none->Q (.ref p) (upd H p (.dK kvs))):=by intro BU s σ H xs us Q I r h;obtain⟨a,kvs,rfl,ha,k⟩:=h;obtain⟨u,rfl,rx⟩:=vals1 r;cases rx;exact LR I (.inl ha) fun p s' hp I'=>⟨.ref p,_,I',rfl,k p hp⟩
theorem Qe:CallD (fun xs H Q=>∃a kvs,xs=[.ref a]/\H a=some (.dK kvs)/\∀p,H p=none->Q (.ref p) (upd H p (.dK kvs))) Dm.EL:=by
 intro H0 H vs ds z Q s rs e k;unfold Dm.EL at e;split at e
 ·cases e;cases rs with
  |cons r rr=>cases rr;obtain⟨a,kvs,rfl,ha,ek,rs⟩:=kZ s r;refine⟨a,kvs,rfl,ha,fun p hp=>k _ _ _ (bG.uQ s hp) ⟨p,rfl,hp,s.free hp,kvs,aQ,ek,rs⟩⟩
 ·cases e
theorem Af:∀(its:List Value) (ns:List Int),its.length=ns.length->(∀(i:Nat) (v:Value),its[i]?=some v->∃n,ns[i]?=some n/\∃t,v=aco n t)->IntsAre its ns
 |[],[],_,_=>.nil
 |[],_::_,h,_=>by cases h
 |_::_,[],h,_=>by cases h
 |v::its,n::ns,h,k=>by
  obtain⟨m,h1,t,h2⟩:=k 0 v rfl;simp at h1;subst h1;subst h2;exact .cons n t (Af its ns (by simpa using h) fun i v e=>by obtain⟨m,q1,q2⟩:=k (i+1) v (by simpa using e);exact⟨m,by simpa using q1,q2⟩)
theorem Ja:∀{kvs:List (Key×V)} {vs:List (Key×Value)},KV kvs vs->vs.map (·.1)=kvs.map (·.1)
 |_,_,.nil=>rfl
 |_,_,.cons h t=>by rw[gc,gc,Ja t,h.1]
theorem kK:∀{its:List Value} {ns:List Int},IntsAre its ns->Vals (ns.map V.int) its
 |_,_,.nil=>.nil
 |_,_,.cons n t h=>.cons ⟨t,rfl⟩ (kK h)
def MN:List V->Hp->VK->Prop:=fun xs H Q=>∃(p:Addr) (kvs:List (Key×V)) (ns:List Int),xs=[.ref p]/\H p=some (.dK kvs)/\kvs.map (·.1)=ns.map aaF/\ns.length<=63 /\
 ∀(ms:List Int) (l:Addr),ms.Perm ns->ms.Pairwise (·<=·)->H l=none->Q (.ref l) (upd H l (.lst (ms.map V.int)))
theorem G7(hc:X.calm=true):iz X (.builtin "sorted") MN:=by
 intro BU s σ H xs us Q I r h;obtain⟨p,kvs,ns,rfl,hq,ek,hl,k⟩:=h;obtain⟨u,rfl,rx⟩:=vals1 r;cases rx;obtain⟨z,hd,vs,rel,dd⟩:=Iv I.hok hq;obtain⟨ep,hat⟩:=dd.dictAt;have Fp:vs.length=ns.length:=by
  rw[<- rel.length];have:=congrArg List.length ek
  simpa using this
 have hns:vs.length<=sizeLine:=by rw[<- rel.length];exact z
 refine Calls.call_function_entry kind_sorted plain_sorted entry_sorted (args_sorted1 _) ?_;unfold Builtin.«sorted»;refine wpAny_bind (m:=checkCount "sorted" 1 1 _) (wpAny_pure ?_);refine wpAny_bind (PySem.W.kdu_collect (A:=X.A.in1) (PySem.W.kdl_dict (knd:=bB X.prog X.w) (kvs:=vs) (ep:=ep) hd) (I.ok.hd hc) hat hns fun h' tk KG hk hacc=>?_);have hsz:KG.toList.length=ns.length:=by rw[abi,hacc.1,Fp]
 have hI:IntsAre KG.toList ns:=Af _ _ hsz fun i v e=>by
  obtain⟨ky,x,h1,h2⟩:=hacc.2 i v (by rw[<- aby];exact e);have hk1:(vs.map (·.1))[i]?=some ky:=by rw[aao,h1];rfl
  rw[Ja rel,ek,aao]at hk1;cases q:ns[i]? with
  |none=>rw[q]at hk1;cases hk1
  |some n=>rw[q]at hk1;cases hk1;exact⟨n,rfl,(Value.isInt_shape (k:=n) (v:=v) h2)⟩
 have hn:KG.toList.length<=63:=by rw[hsz];exact hl
 refine wpAny_bind (wpAny_newList ?_ (aaE hn (by decide)));have hL0:(h'.push (seqObj "list" KG.toList.toArray 0)).get? h'.objs.size=some (seqObj "list" KG.toList.toArray 0):=aaJ _ rfl;have I1:=I.kept (t':=tk) hk;refine wpAny_bind (wpAny_holding (wpAny_call_entry (s:={ s with heap:=h'.push (seqObj "list" KG.toList.toArray 0),toks:=tk }) slot_list_sort ⟨_,hL0,rfl⟩ entry_list_sort (list_sort_tree hL0 hI (by lia) fun out ms a1 a2 a3=>⟨_,rfl,?_⟩) (args_list_sort _)));obtain⟨c,hc'⟩:=sortedHeap_at (out:=out) hL0;have hz2:(ms.map V.int).length<=sizeLine:=by rw[Pa,a2.length_eq];exact aaE hl (by decide)
 refine wpAny_pure ⟨_,rfl,.ref h'.objs.size,_,I1.laid (t':=tk) (fun b o e=>?_) (aab _) (show bR X.prog X.w _ _ _ (.lst (ms.map V.int)) from ⟨hz2,out.toList,c,kK a1,by simpa using hc'⟩),rfl,k ms _ a2 a3 (I1.hok.fresh (aab _))⟩;have lt:=aad e;rw[sortedHeap_old (aax lt) (by rw[size_push'];exact acC lt)];exact aac _ e
theorem MO:CallD MN Dm.wC:=by
 intro H0 H vs ds z Q s rs e k;unfold Dm.wC at e;split at e
 ·rename_i ks vs';split at e
  case isFalse=>cases e
  rename_i hl;cases e;cases rs with
  |cons r rr=>
   cases rr;obtain⟨a,kvs,rfl,ha,ek,rs⟩:=kZ s r;refine⟨a,kvs,ks,rfl,ha,ek,hl,fun ms l pm so hp=>?_⟩;have em:ms=Dm.kr (fun a b=>decide (a<b)) ks:=Dm.oR (lt:=fun a b=>decide (a<b)) (fun a b h1 h2=>by simp at h1 h2;lia) (pm.trans (Dm.k7 _ ks).symm) (so.imp fun {a b} h=>by simp;lia)
    (Dm.kG (fun a b c h1 h2=>by simp at *;lia) (fun a b h=>by simp at *;lia) ks)
   exact k _ _ _ (bG.uQ s hp) ⟨l,rfl,hp,s.free hp,_,aQ,by rw[<- em];exact wA ms⟩
 ·cases e
theorem UM(e:Dm.tkd ρ x=some (d,ρ')):Dm.tk ρ x=some (d,ρ')\/∃i ks vs,x=.slot i/\ρ[i]?=some (.ow (.dct ks vs))/\d=.dct ks vs/\ρ'=ρ:=by
 cases x with
 |val d'=>exact .inl e
 |new d'=>exact .inl e
 |slot i=>
  unfold Dm.tkd at e;dsimp only at e;split at e
  ·rename_i ks vs h;cases e;exact .inr ⟨i,ks,vs,rfl,h,rfl,rfl⟩
  ·rename_i d' _ h;left;unfold Dm.tk;dsimp only;rw[h];exact e
  ·rename_i d' h;left;unfold Dm.tk;dsimp only;rw[h];exact e
  ·cases e
theorem MP(e:Dm.tkd ρ x=some (d,ρ'))(h:ρ[i]?=some (.ow (.dct ks vs))):ρ'[i]?=some (.ow (.dct ks vs)):=by
 cases x with
 |val d'=>cases e;exact h
 |new d'=>cases e;exact h
 |slot j=>
  unfold Dm.tkd at e;dsimp only at e;split at e
  ·cases e;exact h
  ·rename_i d' hn hj;cases e;by_cases q:j=i
   ·subst q;rw[h]at hj;cases hj;exact absurd rfl (hn ks vs)
   ·rw[gV q];exact h
  ·cases e;exact h
  ·cases e
theorem Cn:∀{xs:List Dm.Val} {ρ ρ':Dm.Env} {ds:List Dat},Dm.G4 ρ xs=some (ds,ρ')->ρ[i]?=some (.ow (.dct ks vs))->ρ'[i]?=some (.ow (.dct ks vs))
 |[],_,_,_,e,h=>by cases e;exact h
 |x::xs,ρ,ρ',ds,e,h=>by
  unfold Dm.G4 at e;split at e
  ·cases e
  rename_i d ρ1 e1;split at e
  ·cases e
  rename_i ds' ρ2 e2;cases e;exact Cn e2 (MP e1 h)
def ZI(H0:Hp)(σ:L2.St)(ρ:Dm.Env)(v:V)(d:Dat):Prop:=Rep H0 v d\/∃(i:Nat) (b:Addr) (ks:List Int) (vs:List Dat),d=.dct ks vs/\v=.ref b/\ρ[i]?=some (.ow (.dct ks vs))/\σ[i]?=some (some (.ref b))
inductive ER(H0:Hp)(σ:L2.St)(ρ:Dm.Env):List V->List Dat->Prop
 |nil:ER H0 σ ρ [] []
 |cons {v:V} {d:Dat} {vs:List V} {ds:List Dat}:ZI H0 σ ρ v d->ER H0 σ ρ vs ds->ER H0 σ ρ (v::vs) (d::ds)
theorem G8{Hs H0s H0 H:Hp}{σ:L2.St}{ρs:Dm.Env}:∀{xs:List Dm.Val} {vs:List V} {ρ ρ':Dm.Env} {ds:List Dat} {H0c:Hp},ESt σ ρs H0s Hs ρ H0c H->aO H0 H0c->ko Hs H0 H σ ρ vs xs->Dm.G4 ρ xs=some (ds,ρ') ->
  ∃rH,ESt σ ρs H0s Hs ρ' rH H/\aO H0c rH/\ER rH σ ρ' vs ds
 |[],_,ρ,ρ',ds,H0c,t,b,r,e=>by cases r;cases e;exact⟨H0c,t,aO.refl _,.nil⟩
 |x::xs,_,ρ,ρ',ds,H0c,t,b,r,e=>by
  cases r with
  |cons h r=>
   unfold Dm.G4 at e;split at e
   ·cases e
   ·rename_i d ρ1 e1;split at e
    ·cases e
    ·rename_i ds' ρ2 e2;cases e;rcases UM e1 with e1' | ⟨i,ks,vs,rfl,hi,rfl,rfl⟩
     ·obtain⟨H1,t1,b1,r1,o1,d1⟩:=take1 t b h e1';obtain⟨H2,t2,b2,r2⟩:=G8 t1 (b.trans b1) (r.rho o1 d1) e2;exact⟨H2,t2,b1.trans b2,.cons (.inl (r1.mono b2)) r2⟩
     ·obtain⟨H2,t2,b2,r2⟩:=G8 t b r e2;obtain⟨q,_⟩:=h;obtain⟨a,z,_⟩:=t.st.ow i _ hi;rw[q]at z;cases z;exact⟨H2,t2,b2,.cons (.inr ⟨i,a,ks,vs,rfl,rfl,Cn e2 hi,q⟩) r2⟩
mutual
theorem Rep.noD(hk:∀a o,H a=some o->H' a=some o\/∃kvs,o=.dK kvs):∀{v:V} {d:Dat},Rep H v d->Dm.bJ d=true->Rep H' v d
 |_,_,.non,_=>.non
 |_,_,.bl b,_=>.bl b
 |_,_,.int i,_=>.int i
 |_,_,.str x,_=>.str x
 | _,_,.tup h r,n=>.tup (by
   rcases hk _ _ h with z | ⟨_,z⟩
   ·exact z
   ·cases z) (bg.noD hk r (by unfold Dm.bJ at n;exact n))
 | _,_,.lst h r,n=>.lst (by
   rcases h with h | ⟨o,h⟩
   ·rcases hk _ _ h with z | ⟨_,z⟩
    ·exact .inl z
    ·cases z
   ·rcases hk _ _ h with z | ⟨_,z⟩
    ·exact .inr ⟨o,z⟩
    ·cases z) (bg.noD hk r (by unfold Dm.bJ at n;exact n))
 |_,_,.dct _ _ _,n=>by unfold Dm.bJ at n;cases n
 |_,_,.dcp _ _ _,n=>by unfold Dm.bJ at n;cases n
 |_,_,.exc _,n=>by unfold Dm.bJ at n;cases n
 |_,_,.jA _ _,n=>by unfold Dm.bJ at n;cases n
 |_,_,.fn a,_=>.fn a
theorem bg.noD(hk:∀a o,H a=some o->H' a=some o\/∃kvs,o=.dK kvs):∀{vs:List V} {ds:List Dat},bg H vs ds->Dm.lS ds=true->bg H' vs ds
 |_,_,.nil,_=>.nil
 |_,_,.cons h r,n=>by unfold Dm.lS at n;rw[aau]at n;exact .cons (Rep.noD hk h n.1) (bg.noD hk r n.2)
end
end
open Classical in
theorem MQ{σ:L2.St}{H:Hp}{Q:VK}{f:List Dat->Option RV}{fs:List FE}{E:XK}(h:tD (Dm.eFd f fs) σ H Q):zO (spD f) [] E (tDA fs) σ H Q:=by
 obtain⟨H0,ρ,x,ρ',st,e,k⟩:=h;unfold Dm.eFd at e;split at e
 ·cases e
 rename_i xs ρ1 e1;split at e
 ·cases e
 rename_i ds ρ2 e2;split at e
 ·cases e
 rename_i z fz;split at e
 case isFalse=>cases e
 rename_i hno;injection e with e
 injection e with ea eb
 subst ea;subst eb;refine⟨H0,ρ,xs,ρ1,st,e1,fun vs H1 Hb t1 r1=>?_⟩;dsimp only;rw[aaP];obtain⟨H2,t2,b2,r2⟩:=G8 t1 (aO.refl _) r1 e2
 let B:Addr->Prop:=fun b=>∃(i:Nat) (ks:List Int) (vs:List Dat),ρ2[i]?=some (.ow (.dct ks vs))/\σ[i]?=some (some (.ref b))
 have hB:∀b,B b->H2 b=none/\∃kvs,Hb b=some (.dK kvs):=fun b ⟨i,ks,vs,h1,h2⟩=>by obtain⟨a,q,n,kvs,w,_⟩:=t2.st.ow i _ h1;rw[h2]at q;cases q;exact⟨n,kvs,w⟩
 let H2':Hp:=fun b=>if B b then Hb b else H2 b
 have in':∀b,B b->H2' b=Hb b:=fun b h=>if_pos h;have out':∀b,¬B b->H2' b=H2 b:=fun b h=>if_neg h;have s2:aO H2 H2':=fun b o e=>by
  by_cases q:B b
  ·rw[(hB b q).1]at e;cases e
  ·rw[out' b q];exact e
 have s2b:aO H2' Hb:=fun b o e=>by
  by_cases q:B b
  ·rw[in' b q]at e;exact e
  ·rw[out' b q]at e;exact t2.st.same _ _ e
 have rr:∀{vs:List V} {ds:List Dat},ER H2 σ ρ2 vs ds->bg H2' vs ds:=fun {vs ds} r=>by
  induction r with
  |nil=>exact .nil
  |cons h _ ih=>
   refine .cons ?_ ih;rcases h with h | ⟨i,b,ks,vs',rfl,rfl,h1,h2⟩
   ·exact h.mono s2
   ·obtain⟨a,q,n,kvs,w,ek,rs⟩:=t2.st.ow i _ h1;rw[h2]at q;cases q;exact .dct (by rw[in' _ ⟨i,ks,vs',h1,h2⟩];exact w) ek (rs.mono s2)
 refine⟨H2',ds,z,s2b,rr r2,fz,fun w H3 Hd g3 r3=>?_⟩
 let H3':Hp:=fun b=>if B b then none else H3 b
 have in3:∀b,B b->H3' b=none:=fun b h=>if_pos h;have Ag:∀b,¬B b->H3' b=H3 b:=fun b h=>if_neg h;have gr:bG H2 Hb H3' Hd:=⟨fun b o e=>by
   by_cases q:B b
   ·rw[(hB b q).1]at e;cases e
   ·rw[Ag b q];exact g3.s0 _ _ (s2 _ _ e),g3.s1,fun b o e=>by
   by_cases q:B b
   ·rw[in3 b q]at e;cases e
   ·rw[Ag b q]at e;rcases g3.s2 b o e with y | y
    ·exact .inl y
    ·rw[out' b q]at y;exact .inr y,fun b o e=>by
   by_cases q:B b
   ·rw[in3 b q]at e;cases e
   ·rw[Ag b q]at e;exact g3.s3 _ _ e⟩
 have hk:∀a o,H3 a=some o->H3' a=some o\/∃kvs,o=.dK kvs:=fun a o e=>by
  by_cases q:B a
  ·obtain⟨_,kvs,y⟩:=hB a q;have:=g3.s0 a _ ((in' a q).trans y);rw[e]at this;exact .inr ⟨kvs,Option.some.inj this⟩
  ·exact .inl (by rw[Ag a q];exact e)
 have r3':C5 Hb H3' Hd w z:=by
  cases z with
  |val d=>exact Rep.noD hk r3 hno
  |new d=>
   obtain⟨a,ea,n,n0,w'⟩:=r3;refine⟨a,ea,n,?_,?_⟩
   ·by_cases q:B a
    ·exact in3 a q
    ·rw[Ag a q];exact n0
   ·cases d with
    |lst ds'=>obtain⟨ys,y1,y2⟩:=w';exact⟨ys,y1,bg.noD hk y2 (by have:Dm.bJ (.lst ds')=true:=hno;unfold Dm.bJ at this;exact this)⟩
    |dct ks ds'=>have:Dm.bJ (.dct ks ds')=true:=hno;unfold Dm.bJ at this;cases this
    |dcp ks ds'=>have:Dm.bJ (.dcp ks ds')=true:=hno;unfold Dm.bJ at this;cases this
    |_=>exact w'.elim
 exact k w H3' Hd (t2.trans (.grow t2.st gr)) ((r3'.toV t2.st).early fun a n=>t2.stp.gone n)
section
variable{X:Cx}{e b:Expr}{es:List Expr}{fs:List FE}{fb:FE}{p pos:Pos}
theorem u7{k:Nat}{F:Addr}{fd:FuncData}{ps:List Str}{g:List Dat->Option RV}{x:Str}(G:bI X.prog X.w X.K X.mg X.base CX0 k F fd ps (spD g))(hr:b9 k X.A)(hg:Gl X x)(hm:X.mg x=some (.ref F))(hk:aaW X.K (.ref F)=true)(hb:Binds X.K fd ps [])
  (ha:DA X (e::es) fs) (XW:(x == ("__debug__" : Str))=false:=by decide) (he:starEach (e::es) X.env=(false,eval e X.env)::starEach es X.env:=by rfl) (KD:(backTo pos (starEach es X.env)).any (·.1)=false:=by rfl) :
  DE X (.Call (.Name x p) (e::es) [] pos) (Dm.eFd g fs):=PE.weak (zq G hr hg hm hk hb .nil (En (X:=X)) ha XW he KD) fun _ _ _=>MQ
theorem UN(hg:Gl X "dict")(hm:X.mg "dict" = none)(ha:DA X [e] fs)(he:starEach [e] X.env=[(false,eval e X.env)]:=by rfl)(KD:(backTo pos (starEach [] X.env)).any (·.1)=false:=by rfl):DE X (.Call (.Name "dict" p) [e] [] pos) (Dm.eB Dm.EL fs):=Mh G6 Qe (by rfl) hg hm ha (he:=he) (KD:=KD)
theorem Qf(hc:X.calm=true)(hg:Gl X "sorted")(hm:X.mg "sorted" = none)(ha:DA X [e] fs)(he:starEach [e] X.env=[(false,eval e X.env)]:=by rfl)(KD:(backTo pos (starEach [] X.env)).any (·.1)=false:=by rfl):DE X (.Call (.Name "sorted" p) [e] [] pos) (Dm.eB Dm.wC fs):=GS (G7 hc) MO (by rfl) hg hm ha (he:=he) (KD:=KD)
theorem MR(i:Nat){x:Str}{px Nd cpos:Pos}(hb:DE X b fb)(hi:X.N[i]?=some x:=by rfl)(hv:Vis X.env.scope x:=by trivial)(hd:(x == ("__debug__" : Str))=false:=by decide)
  (R1:(x == ("__classdict__" : Str))=false:=by decide) (m:M1 X (.Name x px) "pop" Nd b cpos:=by exact⟨rfl,rfl,rfl,rfl⟩):DE X (.Call (.Attribute (.Name x px) "pop" Nd) [b] [] cpos) (Dm.Ad i fb):=PE.weak (LQ (kT hi hv hd R1) hb m) fun _ _ _=>UL
end
open PySem
variable{C:List Value->Prop}{us:List Value}
theorem len0(h:us.length=0)(c:C []):C us:=by rw[List.eq_nil_of_length_eq_zero h];exact c
theorem MS{n:Nat}{C:List Value->Prop}{us:List Value}(h:us.length=n+1)(c:∀a us,us.length=n->C (a::us)):C us:=by
 cases us with
 |nil=>cases h
 |cons a us=>exact c a us (by simpa using h)
theorem XH(h:us.length=1)(c:∀a,C [a]):C us:=MS h fun a _ h=>len0 h (C:=fun us=>C (a::us)) (c a)
theorem Mt(h:us.length=2)(c:∀a b,C [a,b]):C us:=MS h fun a _ h=>XH h (C:=fun us=>C (a::us)) (c a)
theorem XI(h:us.length=3)(c:∀a b d,C [a,b,d]):C us:=MS h fun a _ h=>Mt h (C:=fun us=>C (a::us)) (c a)
theorem XJ(h:us.length=4)(c:∀a b d e,C [a,b,d,e]):C us:=MS h fun a _ h=>XI h (C:=fun us=>C (a::us)) (c a)
theorem ZJ(h:us.length=5)(c:∀a b d e f,C [a,b,d,e,f]):C us:=MS h fun a _ h=>XJ h (C:=fun us=>C (a::us)) (c a)
end Br
namespace L2
open PySem
variable{K:Dk}{x qual:Str}{st:Stmt}{f:Addr}{fd:FuncData}{ps:List Str}
theorem Fun.Ah(F:Fun K x qual st f fd)(hp:ps.length=1)(h:∀(kV doc pm:Value) (an:Option Addr) (cdv ct:Value) (a:Value),bindArgs (aaQ x qual (cF st) (b5 st) (ao st) .none kV doc pm an cdv ct) ⟨[a],[]⟩=pure (ps.zip [a])):Binds K fd ps []:=
 F.binds fun kV doc pm an cdv ct us hl=>Br.XH (C:=fun us=>bindArgs (aaQ x qual (cF st) (b5 st) (ao st) .none kV doc pm an cdv ct) ⟨us,[]⟩=pure (ps.zip us)) (hl.trans hp) (h kV doc pm an cdv ct)
theorem Fun.fL(F:Fun K x qual st f fd)(hp:ps.length=2)(h:∀(kV doc pm:Value) (an:Option Addr) (cdv ct:Value) (a b:Value),bindArgs (aaQ x qual (cF st) (b5 st) (ao st) .none kV doc pm an cdv ct) ⟨[a,b],[]⟩=pure (ps.zip [a,b])):Binds K fd ps []:=
 F.binds fun kV doc pm an cdv ct us hl=>Br.Mt (C:=fun us=>bindArgs (aaQ x qual (cF st) (b5 st) (ao st) .none kV doc pm an cdv ct) ⟨us,[]⟩=pure (ps.zip us)) (hl.trans hp) (h kV doc pm an cdv ct)
theorem Fun.rL(F:Fun K x qual st f fd)(hp:ps.length=3)(h:∀(kV doc pm:Value) (an:Option Addr) (cdv ct:Value) (a b d:Value),bindArgs (aaQ x qual (cF st) (b5 st) (ao st) .none kV doc pm an cdv ct) ⟨[a,b,d],[]⟩=pure (ps.zip [a,b,d])):Binds K fd ps []:=
 F.binds fun kV doc pm an cdv ct us hl=>Br.XI (C:=fun us=>bindArgs (aaQ x qual (cF st) (b5 st) (ao st) .none kV doc pm an cdv ct) ⟨us,[]⟩=pure (ps.zip us)) (hl.trans hp) (h kV doc pm an cdv ct)
theorem Fun.rM(F:Fun K x qual st f fd)(hp:ps.length=4)(h:∀(kV doc pm:Value) (an:Option Addr) (cdv ct:Value) (a b d e:Value),bindArgs (aaQ x qual (cF st) (b5 st) (ao st) .none kV doc pm an cdv ct) ⟨[a,b,d,e],[]⟩=pure (ps.zip [a,b,d,e])):Binds K fd ps []:=
 F.binds fun kV doc pm an cdv ct us hl=>Br.XJ (C:=fun us=>bindArgs (aaQ x qual (cF st) (b5 st) (ao st) .none kV doc pm an cdv ct) ⟨us,[]⟩=pure (ps.zip us)) (hl.trans hp) (h kV doc pm an cdv ct)
theorem Fun.lT(F:Fun K x qual st f fd)(hp:ps.length=5)(h:∀(kV doc pm:Value) (an:Option Addr) (cdv ct:Value) (a b d e g:Value),bindArgs (aaQ x qual (cF st) (b5 st) (ao st) .none kV doc pm an cdv ct) ⟨[a,b,d,e,g],[]⟩=pure (ps.zip [a,b,d,e,g])):Binds K fd ps []:=
 F.binds fun kV doc pm an cdv ct us hl=>Br.ZJ (C:=fun us=>bindArgs (aaQ x qual (cF st) (b5 st) (ao st) .none kV doc pm an cdv ct) ⟨us,[]⟩=pure (ps.zip us)) (hl.trans hp) (h kV doc pm an cdv ct)
end L2
namespace Dm
noncomputable def eFp(a i:Nat)(f:List Dat->Option RV)(as:List FE):FE:=fun ρ=>match ρ[i]? with
 |some (.sh (.fn b))=>if b=a then eF f as ρ else none
 |_=>none
end Dm
namespace Br
open PySem L2
section
variable{X:Cx}{e:Expr}{es:List Expr}{fs:List FE}{p pos:Pos}
section
variable{ps:List Str}{fd:FuncData}{F:Addr}{x:Str}{k:Nat}{E:XK}
theorem Qg(hg:Gl X x)(hm:X.mg x=some (.ref F))(hd:(x == ("__debug__" : Str))=false:=by decide):DE X (.Name x pos) (Dm.eC (.fn F)):=
 PE.weak (Ig (v:=V.ref F) hg hm rfl hd) fun _ _ _=>uR fun _=>.fn F
theorem MT{sp:Sp}{t:TA}{CX}(i:Nat)(G:bI X.prog X.w X.K X.mg X.base CX k F fd ps sp)(hr:b9 k X.A)(hN:X.N[i]?=some x)(hv:Vis X.env.scope x)(hk:aaW X.K (.ref F)=true)(hb:Binds X.K fd ps [])(hx:Passes CX X E)
  (ha:PA X (e::es) t) (hd:(x == ("__debug__" : Str))=false) (R1:(x == ("__classdict__" : Str))=false) (he:starEach (e::es) X.env=(false,eval e X.env)::starEach es X.env) (KD:(backTo pos (starEach es X.env)).any (·.1)=false) :
  PE X (.Call (.Name x p) (e::es) [] pos) (fun σ H Q=>v9 i σ H fun v _=>v=V.ref F/\zO sp [] E t σ H Q):=by
 intro BU s σ H Q I h;obtain⟨v,e1,rfl,h⟩:=h;refine wpAny_Call_Name_kw (thn (kT hN hv hd R1 BU s σ H (fun v H1=>v=V.ref F/\H1=H) I ⟨_,e1,rfl,rfl⟩) fun u s1 ⟨v,H1,I1,r,q1,q2⟩=>?_);subst q1 q2;cases r;refine acq (h₀:=X.base) I1.ok.mod.kin hk (thn (ha pos BU s1 σ H1 _ I1 h) fun us s2 ⟨vs,H2,I2,r,q⟩=>⟨I2.kIn,?_⟩) he KD;exact Lw G hr hb .nil hx I2 r q
theorem Qh{F i:Nat}{f:List Dat->Option RV}{σ:L2.St}{H:Hp}{Q:VK}(h:tD (Dm.eFp F i f fs) σ H Q):v9 i σ H fun v _=>v=V.ref F/\zO (spD f) [] E (tDA fs) σ H Q:=by
 obtain⟨H0,ρ,x,ρ',st,e,k⟩:=h;unfold Dm.eFp at e;split at e
 ·rename_i b h1;split at e
  ·rename_i hb;subst hb;obtain⟨v,q,r⟩:=st.sh i _ h1;cases r;exact⟨_,q,rfl,LU ⟨H0,ρ,x,ρ',st,e,k⟩⟩
  ·cases e
 ·cases e
theorem zy{g:List Dat->Option RV}(i:Nat){x:Str}(G:bI X.prog X.w X.K X.mg X.base CX0 k F fd ps (spD g))(hr:b9 k X.A)(hk:aaW X.K (.ref F)=true)(hb:Binds X.K fd ps [])
  (ha:DA X (e::es) fs) (hN:X.N[i]?=some x:=by rfl) (hv:Vis X.env.scope x:=by trivial) (hd:(x == ("__debug__" : Str))=false:=by decide) (R1:(x == ("__classdict__" : Str))=false:=by decide)
  (he:starEach (e::es) X.env=(false,eval e X.env)::starEach es X.env:=by rfl) (KD:(backTo pos (starEach es X.env)).any (·.1)=false:=by rfl) :
  DE X (.Call (.Name x p) (e::es) [] pos) (Dm.eFp F i g fs):=PE.weak (MT i G hr hN hv hk hb (En (X:=X)) ha hd R1 he KD) fun _ _ _=>Qh
end
end
open PySem PySem.Spec PyProof.Rows L2
structure b_(K:Dk)(x:Str)(st:Stmt)(a:Addr)(fd:FuncData):Prop where
 e:aar K mainGlobals x=some (some (.ref a))
 F:Fun K x x st a fd
variable{K:Dk}{x:Str}{st:Stmt}{a:Addr}{fd:FuncData}{hp:Heap}{mg:Str->Option Value}
theorem bx{oc:Value}{od an:Option Addr}{osl:Array (Option Value)}{kV doc pm cdv ct:Value}(e:aar K mainGlobals x=some (some (.ref a)))
  (l:K.lookup a=some ⟨oc,od,.func (aaQ x x (cF st) (b5 st) (ao st) .none kV doc pm an cdv ct),osl⟩) (c:ab5 K cdv x=true) (k:aaW K (.ref a)=true) :
  b_ K x st a (aaQ x x (cF st) (b5 st) (ao st) .none kV doc pm an cdv ct):=⟨e,LC l c k⟩
theorem mgo{v:Value}(X:K.In hp)(G:hp.Ns mainGlobals mg)(e:aar K mainGlobals x=some (some v)):mg x=some v:=PySem.W.mg_of X G e
theorem mno(X:K.In hp)(G:hp.Ns mainGlobals mg)(e:aar K mainGlobals x=some none):mg x=none:=PySem.W.mg_none_of X G e
theorem b_.m(h:b_ K x st a fd)(X:K.In hp)(G:hp.Ns mainGlobals mg):mg x=some (.ref a):=PySem.W.mg_of X G h.e
theorem b_.ZK{y:Str}(h:b_ K x st a fd)(hb:∀(kV doc pm:Value) (an:Option Addr) (cdv ct v:Value),bindArgs (aaQ x x (cF st) (b5 st) (ao st) .none kV doc pm an cdv ct) ⟨[v],[]⟩=pure [(y,v)])(s:Shared)(v:Value):BindsTo s fd ⟨[v],[]⟩ [(y,v)]:=by obtain⟨oc,od,kV,doc,pm,an,cdv,ct,osl,rfl,lk,R1⟩:=h.F.ex;exact .of_eq (hb kV doc pm an cdv ct v)
theorem hm{j k:Nat}{A:Around}(r:b9 k A)(h:j<=k:=by decide):b9 j A:=r.mono h
theorem fsc{N P:List Str}{sc:Scope}(h1:sc.kind=.function:=by rfl)(h2:sc.isCoroutine=false:=by rfl)(h3:sc.isGenerator=false:=by rfl)(h4:N.take P.length=P:=by rfl)(h:N.Nodup/\(∀x∈P,sc.names.lookup x=some .local\/sc.names.lookup x=some .cell)/\∀y∈sc.names,y.2≠.free:=by decide +kernel):aN N P sc:=⟨h1,h2,h3,h.1,h4,h.2.1,h.2.2⟩
end Br
namespace Dm
noncomputable def sUn(f g:FS):FS:=fun ρ=>match f ρ with
 |some x=>some x
 |none=>g ρ
noncomputable def Co(R:Env->Option Env)(C ie:Nat)(h:FS):FS:=fun ρ=>match R ρ with
 |none=>none
 |some ρ1=>if ie=0 then none else match h (ρ1.set ie (.sh (.exc C))) with
  |some (.nx ρ')=>some (.nx (ρ'.set ie .un))
  |some (.ret r ρ')=>some (.ret r (ρ'.set ie .un))
  |_=>none
noncomputable def BR:List Nat->List Bool->Nat->Option Bool
 |C::cs,b::bs,D=>if D=C then some b else BR cs bs D
 |_,_,_=>none
noncomputable def gw(cs:List Nat)(bs:List Bool):Dat->Option RV
 |.exc C=>(BR cs bs C).bind vB
 |.jA C _=>(BR cs bs C).bind vB
 |_=>none
end Dm
namespace Br
open PySem PySem.Spec PyProof.Rows L2
section
variable{X:Cx}{C:Addr}{E:L2.St->XK}{R S:Dm.Env->Option Dm.Env}{sts HJ:List Stmt}{st:Stmt}
section
variable{σ:L2.St}{t:FT}{H:Hp}
theorem ZL{f g:FS}(h1:DS X st f)(h2:DS X st g):DS X st (Dm.sUn f g):=fun BU s σ H D I q=>by
 obtain⟨H0,ρ,o,rs,e,k⟩:=q;unfold Dm.sUn at e;split at e
 ·rename_i y hy;exact h1 BU s σ H D I ⟨H0,ρ,o,rs,hy.trans e,k⟩
 ·exact h2 BU s σ H D I ⟨H0,ρ,o,rs,e,k⟩
def tY(C:Addr)(E:L2.St->XK)(R:Dm.Env->Option Dm.Env)(σ:L2.St)(H:Hp):Prop:=∃H0 ρ ρ',a_ H0 H σ ρ/\R ρ=some ρ'/\∀σ' a H0' H',SSt σ ρ H0 H σ' ρ' H0' H'->E σ' (.ref C) (some a) H'
noncomputable abbrev YS(X:Cx)(C:Addr)(E:L2.St->XK)(st:Stmt)(R:Dm.Env->Option Dm.Env):Prop:=PS X st (fun _ σ H=>tY C E R σ H)
noncomputable abbrev YB(X:Cx)(C:Addr)(E:L2.St->XK)(sts:List Stmt)(R:Dm.Env->Option Dm.Env):Prop:=PSs X sts (fun _ σ H=>tY C E R σ H)
theorem tY.x(h:tY C E R σ H):tX C E R σ H:=by obtain⟨H0,ρ,ρ',st,e,k⟩:=h;exact⟨H0,ρ,ρ',st,e,fun a H0' H' t=>k σ a H0' H' t.sst⟩
theorem y_x(h:XS X C E st R):YS X C E st R:=PS.weak h fun _ _ _ q=>q.x
theorem qW(h:YS X C E st R):YB X C E (st::HJ) R:=by have:=MD (HJ:=HJ) h;exact fun BU s σ H D I q=>this BU s σ H D I q
theorem XM(h:tY C E (Dm.rIf t R S) σ H):tDT t σ H fun b H1=>if b=true then tY C E R σ H1 else tY C E S σ H1:=by
 obtain⟨H0,ρ,ρ',rs,e,k⟩:=h;unfold Dm.rIf at e;split at e
 ·cases e
 ·rename_i ρ1 ht;exact⟨H0,ρ,true,ρ1,rs,ht,fun H0' H' u=>by show (if true=true then _ else _);rw[if_pos rfl];exact⟨H0',ρ1,ρ',u.st,e,fun σ'' a GR H'' w=>k σ'' a GR H'' (u.sst.trans w)⟩⟩
 ·rename_i ρ1 ht;exact⟨H0,ρ,false,ρ1,rs,ht,fun H0' H' u=>by show (if false=true then _ else _);rw[if_neg (by decide)];exact⟨H0',ρ1,ρ',u.st,e,fun σ'' a GR H'' w=>k σ'' a GR H'' (u.sst.trans w)⟩⟩
theorem UO{c:Expr}{a b:List Stmt}{pos:Pos}(hc:DT X c t)(ha:YB X C E a R)(hb:YB X C E b S):YS X C E (.If c a b pos) (Dm.rIf t R S):=PS.weak (Le hc ha hb) fun _ _ _ q=>XM q
theorem ZM:YB X C E sts Dm.rNo:=fun BU s σ H D I h=>by obtain⟨_,_,_,_,e,_⟩:=h;cases e
end
end
theorem UP{X:Cx}{body:List Stmt}{h0:ExceptHandler}{hs:List ExceptHandler}{q:FS}{pos:Pos}(hb:∀(pn:List (Addr×Obj)) (xe:Value->Shared->Prop),DSs (Cx.in' X pn xe) body q):DS X (.Try body (h0::hs) [] [] pos) q:=by
 intro BU s σ H D I hq;refine wpAny_Try_except ?_;refine wpAny_mono (hb BU _ [] s σ H D (MJ I) hq) (fun f s1 z=>?_) fun _ _ z=>z;cases f with
 |next=>obtain⟨σ',H',J,k⟩:=z;exact wpAny_execs_nil ⟨σ',H',qC J,k⟩
 |ret v=>obtain⟨u,σ',H',J,r,k⟩:=z;exact⟨u,σ',H',qC J,r,k⟩
 |brk=>obtain⟨σ',H',J,k⟩:=z;exact⟨σ',H',qC J,k⟩
 |cont=>obtain⟨σ',H',J,k⟩:=z;exact⟨σ',H',qC J,k⟩
section
variable{X:Cx}{BU pn:List (Addr×Obj)}{σ:L2.St}{H:Hp}{s:Shared}{xe:Value->Shared->Prop}
theorem UQ{x n:Str}{np hpos pos:Pos}{body suite:List Stmt}{b₀:Stmt}{R:Dm.Env->Option Dm.Env}{h:FS}{C CP:Addr}{ie:Nat}
  (hst:X.stack=X.env::X.outer) (hfr:X.env.frame=some X.env.locals) (hex:X.ex=[]) (hN:X.N.Nodup) (hi:X.N[ie]?=some n) (hk:X.env.kindOf n=some .local) (hg:Gl X x) (hm:X.mg x=some (.ref CP)) (Z:PySem.W.Dh X.K C CP)
  (hb:∀(pn:List (Addr×Obj)) (xe:Value->Shared->Prop) (E:L2.St->XK),IW C (Cx.in' X pn xe) E->YB (Cx.in' X pn xe) C E body R)
  (hh:∀(A':Around) (xe:Value->Shared->Prop),DSs (Cx.sub' X A' xe) (b₀::suite) h) (XW:(x == ("__debug__" : Str))=false:=by decide) :
  DS X (.Try body [.ExceptHandler (some (.Name x np)) (some n) (b₀::suite) hpos] [] [] pos) (Dm.Co R C ie h):=by
 intro BU s σ H D I hq;obtain⟨H0,ρ,o,st,e,ok⟩:=hq;unfold Dm.Co at e;split at e
 ·cases e
 rename_i ρ1 hR;split at e
 ·cases e
 rename_i h0;refine wpAny_Try_except ?_;refine wpAny_mono (hb BU (fun e s₁=>wpAny (model X.prog X.w) X.A (noteFrame e X.env) (fun _ s₂=>wpAny (model X.prog X.w) X.A (setFlight e none) (fun _ s₃=>wpAny (model X.prog X.w) X.A (handleBy e X.env [.ExceptHandler (some (.Name x np)) (some n) (b₀::suite) hpos]) (SP X BU D) X.xe s₃) X.xe s₂) X.xe s₁)
  (fun σ' _ _ H'=>∃H0',SSt σ ρ H0 H σ' ρ1 H0' H') ?pass [] s σ H DF (MJ I) ⟨H0,ρ,ρ1,st,hR,fun σ' a H0' H' t=>⟨H0',t⟩⟩) ?q fun _ _ z=>z
 case q=>
  intro f s1 z;cases f with
  |next=>obtain⟨_,_,_,q⟩:=z;exact aat q
  |ret v=>obtain⟨_,_,_,_,_,q⟩:=z;exact aat q
  |brk=>obtain⟨_,_,_,q⟩:=z;exact aat q
  |cont=>obtain⟨_,_,_,q⟩:=z;exact aat q
 case pass=>
  intro ZZ σ1 H1 s1 e s' I1 hq;obtain⟨ea,a0,B,H',rfl,os,bare,un,hok,fl,hB,H0',t1⟩:=hq;obtain⟨hh',g,d,t,os'⟩:=s';obtain rfl:os'=s1.os:=os;have J:Inv X BU σ1 H' ⟨hh',g,d,t,s1.os⟩:=qC (I1.call (h':=hh') (g':=g) (d':=d) (t':=t) (ch:=[]) un hok bare (fun b z=>absurd z (by simp)));have J1:Inv X BU σ1 H1 s1:=qC I1;have UR:∀b o,X.s₀.heap.get? b=some o->∃o1,s1.heap.get? b=some o1:=fun b o e=>J1.base.there b o e (by rw[hex];exact fun z=>nomatch z);have hB':∀b o,hh'.get? b=some o->b∉frs X.stack->((X.s₀.heap.get? b).isSome=true\/(H' b).isSome=true\/∃p∈X.pn++BU,p.1=b)->B.get? b=some o:=fun b o e nb hc=>by
   refine hB b o e ?_ nb;rcases hc with hc | hc | ⟨p,hp,rfl⟩
   ·obtain⟨o0,e0⟩:=aaH.mp hc;obtain⟨o1,e1⟩:=UR b o0 e0;exact .inl (by rw[e1];rfl)
   ·exact .inr hc
   ·exact .inl (by rw[(J1.pin p hp).1];rfl)
  have hfs:X.A.frames=some (X.env::X.outer):=by rw[J.ok.frames,hst]
  have fl':Heap.FlyingW B (X.env::X.outer) ea (.ref C) a0 hh':=by rw[<- hst];exact fl
  show wpAny (model X.prog X.w) X.A (noteFrame (.ref ea) X.env) _ _ _;refine wpAny_looks_onW (base:=B) (L:=X.env.locals) hfs hfr fl' fun h4 held sl4=>?_;refine wpAny_landsW held fun h5 fl5 sl5=>?_;have J5:Inv X BU σ1 H' ⟨h5,g,d,t,s1.os⟩:=J.fly (t':=t) hex hB' fl5.1 (sl4.trans sl5);obtain⟨oe,vs,he,hc,hd,_⟩:=fl'.first
  have neF:ea∉frs X.stack:=fun z=>by rw[hst]at z;obtain⟨_,o',ho',hd'⟩:=fl'.2.2.1.mem z;rw[he]at ho';cases ho';exact hd' vs hd
  have noB:B.get? ea=none:=fl'.2.1;have nH:H' ea=none:=by
   cases q:H' ea with
   |none=>rfl
   |some u=>have:=hB' ea oe he neF (.inr (.inl (by rw[q];rfl)));rw[noB]at this;cases this
  have n0:X.s₀.heap.get? ea=none:=by
   cases q:X.s₀.heap.get? ea with
   |none=>rfl
   |some u=>have:=hB' ea oe he neF (.inl (by rw[q];rfl));rw[noB]at this;cases this
  have nl:ea≠X.env.locals:=fun z=>by obtain⟨m,⟨o,es,ep,ho,hd',_⟩,_⟩:=J.loc;rw[<- z,he]at ho;cases ho;rw[hd]at hd';cases hd'
  have nc:∀y c,X.env.cells.lookup y=some c->c≠ea:=fun y c e z=>by obtain⟨v,o,ho,hd'⟩:=J.cell y c e;rw[z,he]at ho;cases ho;rw[hd]at hd';cases hd'
  have np:∀p∈X.pn++BU,p.1≠ea:=fun p hp z=>by have:=hB' ea oe he neF (.inr (.inr ⟨p,hp,z⟩));rw[noB]at this;cases this
  have hB5:∀b o,h5.get? b=some o->b∉frs X.stack->((X.s₀.heap.get? b).isSome=true\/(H' b).isSome=true\/∃p∈X.pn++BU,p.1=b)->B.get? b=some o:=fun b o e nb R1=>by
   have:∃o',hh'.get? b=some o':=by
    rcases R1 with hc | hc | ⟨p,hp,rfl⟩
    ·obtain⟨o0,e0⟩:=aaH.mp hc;exact J.base.there b o0 e0 (by rw[hex];exact fun z=>nomatch z)
    ·obtain⟨u,e0⟩:=aaH.mp hc;exact(J.hok b u e0).there
    ·exact⟨_,(J.pin p hp).1⟩
   obtain⟨o',e'⟩:=this;have q:=hB' b o' e' nb R1;have q2:=fl5.1 b o' q;rw[e]at q2;cases q2;exact q
  obtain⟨oe5,he5,hc5⟩:=fl5.there;refine wpAny_handleBy_cons (codeAny_handlers_test ?_) (by intro q;cases q);refine uI (X:=Cx.sub' X (X.A.mark (some (.ref ea))) X.xe) (IY rfl J5) hg hm ?_ XW;refine PySem.W.EJ Z J5.kIn ⟨oe5,he5,hc5⟩ ?_;refine codeAny_handlers_suite_as ?_;refine lands_againW fl5 fun h6 fl6 sl6=>?_;have J6:Inv X BU σ1 H' ⟨h6,g,d,t,s1.os⟩:=J5.fly (t':=t) hex hB5 fl6.1 sl6;obtain⟨oe6,he6,hc6⟩:=fl6.there;have J7:=J6.Xv (o:=φX ea C) nH (φX_ok he6 hc6) n0 nl nc np;refine v8 J7 hN hi (.inl hk) (v:=.ref ea) rfl (fun s8 J8 _=>?_) (.inr hk);have t12:SSt σ ρ H0 H σ1 ρ1 (upd H0' ea (φX ea C)) (upd H' ea (φX ea C)):=t1.trans (ESt.grow t1.st (bG.Kh t1.st.same nH)).sst;have rep:Rep (upd H0' ea (φX ea C)) (V.ref ea) (.exc C):=.exc aQ;have Qi:SSt σ1 ρ1 (upd H0' ea (φX ea C)) (upd H' ea (φX ea C)) (σ1.set ie (some (.ref ea))) (ρ1.set ie (.sh (.exc C))) (upd H0' ea (φX ea C)) (upd H' ea (φX ea C)):=
   ⟨t12.st.zV rep,Stp.refl _ _ _,fun a z=>.inl (iG z),gV h0⟩
  have Tr:∀(oh:Dm.Out),h (ρ1.set ie (.sh (.exc C)))=some oh->(∀(D':Ends),(∀σ' H3,(∃ρ' H03,oh=.nx ρ'/\SSt (σ1.set ie (some (.ref ea))) (ρ1.set ie (.sh (.exc C))) (upd H0' ea (φX ea C)) (upd H' ea (φX ea C)) σ' ρ' H03 H3)->D'.nx σ' H3)->(∀v H3,(∃z ρ' σ' H03,oh=.ret z ρ'/\SSt (σ1.set ie (some (.ref ea))) (ρ1.set ie (.sh (.exc C))) (upd H0' ea (φX ea C)) (upd H' ea (φX ea C)) σ' ρ' H03 H3/\LV (σ1.set ie (some (.ref ea))) (ρ1.set ie (.sh (.exc C))) (upd H' ea (φX ea C)) H03 H3 v z/\∀d a,z=.new d->v=.ref a->¬aJ σ' ρ' a)->D'.rt v H3)->(∀ρ',oh≠.bk ρ')->(∀ρ',oh≠.ct ρ')->zU D' (σ1.set ie (some (.ref ea))) (ρ1.set ie (.sh (.exc C))) (upd H0' ea (φX ea C)) (upd H' ea (φX ea C)) oh):=fun oh _ D' hn hr hb hc=>by
   cases oh with
   |nx ρ'=>exact fun σ' H03 H3 tt=>hn σ' H3 ⟨ρ',H03,rfl,tt⟩
   |bk ρ'=>exact absurd rfl (hb ρ')
   |ct ρ'=>exact absurd rfl (hc ρ')
   |ret z ρ'=>exact fun σ' v H03 H3 tt rr no=>hr v H3 ⟨z,ρ',σ',H03,rfl,tt,rr,no⟩
  cases hoh:h (ρ1.set ie (.sh (.exc C))) with
  |none=>rw[hoh]at e;cases e
  |some oh=>
  rw[hoh]at e;have nb:∀ρ',oh≠.bk ρ':=fun ρ' z=>by rw[z]at e;cases e
  have nc':∀ρ',oh≠.ct ρ':=fun ρ' z=>by rw[z]at e;cases e
  refine wpAny_mono (hh (X.A.mark (some (.ref ea))) _ BU s8 _ _ { nx:=fun σ' H3=>∃ ρ' H03,oh=.nx ρ'∧SSt (σ1.set ie (some (.ref ea))) (ρ1.set ie (.sh (.exc C))) (upd H0' ea (φX ea C)) (upd H' ea (φX ea C)) σ' ρ' H03 H3,rt:=fun v H3=>∃ z ρ' σ' H03,oh=.ret z ρ'∧SSt (σ1.set ie (some (.ref ea))) (ρ1.set ie (.sh (.exc C))) (upd H0' ea (φX ea C)) (upd H' ea (φX ea C)) σ' ρ' H03 H3∧LV (σ1.set ie (some (.ref ea))) (ρ1.set ie (.sh (.exc C))) (upd H' ea (φX ea C)) H03 H3 v z∧∀ d a,z=.new d→v=.ref a→¬ aJ σ' ρ' a,bk:=fun _ _=>False,ct:=fun _ _=>False } (IY rfl J8)
   ⟨_,_,_,Qi.st,hoh,Tr oh hoh _ (fun _ _ z=>z) (fun _ _ z=>z) nb nc'⟩) (fun f s4 z=>?_) fun _ _ z=>z
  cases f with
  |next=>obtain⟨σ',H3,I4,ρ',H03,rfl,tt⟩:=z;cases e;refine name_goes (Cm J.ok I4) hN hi hk fun s9 J9=>?_;exact⟨σ'.set ie none,H3,J9,ok _ _ _ (t12.trans (Qi.trans (tt.trans (SSt.drop tt.st h0))))⟩
  |ret v=>
   obtain⟨u,σ0,H3,I4,rl,z,ρ',σ',H03,rfl,tt,rr,no⟩:=z;cases e;refine name_goes (Cm J.ok I4) hN hi hk fun s9 J9=>?_;refine⟨u,σ0.set ie none,H3,J9,rl,ok _ _ _ _ (t12.trans (Qi.trans (tt.trans (SSt.drop tt.st h0)))) ?_ ?_⟩
   ·cases z with
    |val d=>exact rr
    |new d=>
     obtain⟨a,ea',n,n0',w⟩:=rr;refine⟨a,ea',?_,n0',w⟩;have tp:=t12.trans Qi;rcases n with n | n
     ·exact .inl (tp.stp.gone n)
     ·exact(tp.own a n).symm
   ·intro d a hz hv ho;obtain⟨j,d',h1,h2⟩:=ho;refine no d a hz hv ?_;by_cases hj:ie=j
    ·subst hj;rw[abB]at h1;simp only[if_true]at h1;split at h1<;>cases h1
    ·rw[gV hj]at h1 h2;exact⟨j,d',h1,h2⟩
  |brk=>obtain⟨_,_,_,q⟩:=z;exact aat q
  |cont=>obtain⟨_,_,_,q⟩:=z;exact aat q
end
theorem XN{C:Addr}{N:List Str}{n m:Nat}{R:Dm.Env->Option Dm.Env}{vs:List V}{H:Hp}{Q:VK}{E:XK}(hm:N.length=n+m)(h:spX C (Dm.fnX n m R) vs H Q E):tY C (fun _=>E) R (start N vs) H:=by have hvn:=IX h;obtain⟨H0,ds,s,rs,e,k⟩:=h;unfold Dm.fnX at e;rw[aau]at e;obtain⟨st,no⟩:=MF hm hvn s rs;obtain⟨ρ',hR⟩:=aaH.mp e.2;exact⟨H0,_,ρ',st,hR,fun σ' a H0' H' t=>k a H0' H' ⟨t.stp.s0,fun a o e=>t.stp.s1 a o e (no a),fun a o e=>(t.stp.s2 a o e).imp id fun q=>q.elim id fun z=>absurd z (no a),t.st.same⟩⟩
theorem okY{P:Program}{w:World}{K:Dk}{mg:Str->Option Value}{base:Heap}{x qual:Str}{st:Stmt}{f C:Addr}{fd:FuncData}{N ps:List Str}{k n m:Nat}{R:Dm.Env->Option Dm.Env}(F:Fun K x qual st f fd)(S:aN N ps (ao st))(hn:ps.length=n)(hm:N.length=n+m)
  (hbody:∀(cdv:Value) (A:Around) (outer:List Env) (s:Shared) (H:Hp) (E:XK),b9 k (A.deeper (envOfC qual (ao st) s.heap.objs.size f cdv))->YB (n_ (CXE P w C) P w K mg base N qual (ao st) f cdv A outer s H E) C (fun _=>E) (b5 st) R) :
  bI P w K mg base (CXE P w C) (k+1) f fd ps (spX C (Dm.fnX n m R)):=by
 obtain⟨oc,od,kV,doc,pm,an,cdv,ct,osl,rfl,lk,R1⟩:=F.ex;refine RH lk R1 S (fun vs H Q E h=>(IX h).trans hn.symm) fun A outer s H vs Q E hr hsp=>?_;exact⟨_,hbody cdv A outer s H E hr,XN hm hsp⟩
section
variable{X:Cx}{C:Nat}{b:Bool}{cs:List Nat}{bs:List Bool}{e:Expr}{f:FE}
theorem aC(h1:DE X e (Dm.e1 (Dm.EI C b) f))(h2:DE X e (Dm.e1 (Dm.gw cs bs) f)):DE X e (Dm.e1 (Dm.gw (C::cs) (b::bs)) f):=fun BU s σ H Q I q=>by
 obtain⟨H0,ρ,x,ρ',st,e0,k⟩:=q;have e:=e0;unfold Dm.e1 at e;split at e
 ·cases e
 rename_i x1 ρ1 e1;split at e
 ·cases e
 rename_i dx p1;cases dx with
 |exc D=>
  by_cases hD:D=C
  ·refine h1 BU s σ H Q I ⟨H0,ρ,x,ρ',st,?_,k⟩;unfold Dm.e1;rw[e1];dsimp only;rw[p1];dsimp only;rw[<- e];unfold Dm.EI Dm.gw Dm.BR;dsimp only;rw[if_pos hD,if_pos hD];rfl
  ·refine h2 BU s σ H Q I ⟨H0,ρ,x,ρ',st,?_,k⟩;unfold Dm.e1;rw[e1];dsimp only;rw[p1];dsimp only;rw[<- e];unfold Dm.gw;dsimp only;rw[Dm.BR.eq_def (C::cs)];dsimp only;rw[if_neg hD]
 |jA D mv=>
  by_cases hD:D=C
  ·refine h1 BU s σ H Q I ⟨H0,ρ,x,ρ',st,?_,k⟩;unfold Dm.e1;rw[e1];dsimp only;rw[p1];dsimp only;rw[<- e];unfold Dm.EI Dm.gw Dm.BR;dsimp only;rw[if_pos hD,if_pos hD];rfl
  ·refine h2 BU s σ H Q I ⟨H0,ρ,x,ρ',st,?_,k⟩;unfold Dm.e1;rw[e1];dsimp only;rw[p1];dsimp only;rw[<- e];unfold Dm.gw;dsimp only;rw[Dm.BR.eq_def (C::cs)];dsimp only;rw[if_neg hD]
 |_=>cases e
theorem nZ:DE X e (Dm.e1 (Dm.gw [] []) f):=fun BU s σ H Q I q=>by
 obtain⟨H0,ρ,x,ρ',st,e,k⟩:=q;unfold Dm.e1 at e;split at e
 ·cases e
 split at e
 ·cases e
 rename_i dx p1;cases dx<;>cases e
end
end Br
namespace Sx
open PySem PySem.SetTable PySem.W PyProof.Rows
open PySem PySem.W
def BS(h:Heap)(d:Addr)(es:Array DictEntry)(ep:Nat):Prop:=∃o,h.get? d=some o/\o.ExactDict/\o.data=.dict es ep
theorem BS.typeIs{s:Shared}{d:Addr}{es ep}(x:BS s.heap d es ep):s.TypeIs (.ref d) "dict" := let ⟨o,ho,he,_⟩:=x;⟨o,ho,he.1⟩
theorem BS.at{h h':Heap}{d:Addr}{es ep}(x:BS h d es ep)(e:∀o,h.get? d=some o->h'.get? d=some o):BS h' d es ep:=let ⟨o,ho,r⟩:=x;⟨o,e _ ho,r⟩
section
variable{prog:Program}{w:World}{A:Around}{E:Value->Shared->Prop}{s:Shared}{d it:Addr}{es:Array DictEntry}{ep i:Nat}
theorem KA(lo:(d == sysModules)=false)(x:BS s.heap d es ep){Q:Value->Shared->Prop}
  (hQ:Q (.ref s.heap.objs.size) { s with heap:=s.heap.push { cls:=.type "dict_keyiterator",data:=.fields #[.ref d,.int 0 0,.int es.size 0,.int ep 0] } }):wpAny (model prog w) A (pyIter (.ref d)) Q E s:=by
 obtain⟨o,ho,hex,hd⟩:=id x;have hT:=x.typeIs;refine wpAny_pyIter_slot hT acJ (wpAny_call_entry acJ hT F.entry_dict_iter ?_ (F.args_dict_iter_1 _));unfold Builtin.«dict.__iter__» Builtin.Dict.dictSlotNone;refine wpAny_bind (wpAny_bind (wpAny_notOrdered_dict hT ?_));show wpAny _ _ (pure (aaB d)) _ _ s;refine wpAny_pure ?_;show wpAny _ _ (acf d >>= _) _ _ s;unfold acf;rw[lo,if_neg aaz];refine wpAny_bind (wpAny_pure (wpAny_bind (wpAny_dictEntries ho hd (wpAny_bind (wpAny_dictEpoch ho hd ?_)))));refine wpAny_bind (wpAny_newObj_type (wpAny_pure ⟨_,rfl,"dict_keyiterator",_,⟨_,aaJ _ rfl,rfl⟩,abf.lookup,?_⟩))
 simpa [rawInt] using hQ
theorem Qj(UZ:s.heap.IsKeyIter it d i es.size ep)(x:BS s.heap d es ep){v:Value}(hv:(es.map (·.key))[i]?=some v){Q:Option Value->Shared->Prop}
  (hQ:∀h',h'.IsKeyIter it d (i+1) es.size ep->abq it s.heap h'->Q (some v) { s with heap:=h' }):wpAny (model prog w) A (pyNext (.ref it)) Q E s:=by
 obtain⟨o,ho,hc,hd⟩:=id UZ;obtain⟨od,hod,R1,hdd⟩:=id x;have NO:i<es.size:=by
  have:=(Array.getElem?_eq_some_iff.mp hv).1
  simpa using this
 have hkey:es[i].key=v:=by rw[Array.getElem?_map,abE NO]at hv;exact Option.some.inj hv
 unfold pyNext;refine wpAny_bind (wpAny_attempt (wpAny_callSpecial?_slot (name:=acV "__next__") UZ.typeIs abf (wpAny_call_entry abf UZ.typeIs F.entry_dict_keyiterator_next ?_ (F.args_dict_keyiterator_next_1 _))));refine wpAny_bind (wpAny_pure (wpAny_bind (wpAny_bind ?_)))
 first | refine wpAny_bind (wpAny_typeNameOfWhole_keyiter UZ.typeIs (wpAny_pure ?_)) | refine wpAny_bind (wpAny_typeNameOf_keyiter UZ.typeIs (wpAny_pure ?_))
 refine wpAny_bind (wpAny_fieldsOf ho hd ?_);have hown:Builtin.Dict_items.ownsTuple "dict_keyiterator" = false:=rfl;rw[hown];simp only[aaU,if_false];show wpAny _ _ (if (aaB d == Value.none)=true then _ else _) _ _ s;rw[if_neg (show ¬((aaB d == Value.none)=true) from aaz)];refine wpAny_bind (wpAny_pure (wpAny_bind (wpAny_dictEntries hod hdd ?_)));rw[if_neg (by simp)];refine wpAny_bind (wpAny_pure (wpAny_bind (wpAny_dictEpoch hod hdd ?_)));rw[if_neg (by simp)];refine wpAny_pure ?_;have hneg:¬(i:Int)<0:=by lia
 simp only[hneg,if_false,ab8,abE NO];refine wpAny_bind ?_
 first | refine wpAny_bind (wpAny_typeNameOfWhole_keyiter UZ.typeIs (wpAny_pure ?_)) | refine wpAny_bind (wpAny_typeNameOf_keyiter UZ.typeIs (wpAny_pure ?_))
 refine wpAny_bind (wpAny_isOneOf_keyiter UZ.typeIs ?_);show wpAny _ _ (setField (.ref it) 1 (rawInt ((i:Int)+1)) >>= _) _ _ s;refine wpAny_bind (wpAny_setField ho hd (by simp) ?_);have Qk:(s.heap.update it (Obj.mapFields (·.setIfInBounds 1 (rawInt ((i:Int)+1))))).IsKeyIter it d (i+1) es.size ep:=
  ⟨_,abo _ ho (Obj.isFreed_of_fields (Obj.data_mapFields hd _)),(Obj.cls_mapFields ..).trans hc,by rw[Obj.data_mapFields hd];simp[rawInt]⟩
 refine wpAny_bind (wpAny_holding (wpAny_bind (wpAny_isOneOf_keyiter (s:={ s with heap:=s.heap.update it (Obj.mapFields (·.setIfInBounds 1 (rawInt ((i:Int)+1)))) }) Qk.typeIs ?_)));show wpAny _ _ (pure es[i].key) _ _ _;rw[hkey];exact wpAny_pure (wpAny_pure ⟨_,rfl,wpAny_pure (hQ _ Qk (abk ..))⟩)
theorem US(hh:A.handled=none)(UZ:s.heap.IsKeyIter it d es.size es.size ep)(x:BS s.heap d es ep){Q:Option Value->Shared->Prop}
  (hQ:∀h',Heap.ExtBut it s.heap h'->Q none { s with heap:=h' }):wpAny (model prog w) A (pyNext (.ref it)) Q E s:=by
 obtain⟨o,ho,hc,hd⟩:=id UZ;obtain⟨od,hod,R1,hdd⟩:=id x;unfold pyNext;refine wpAny_bind (wpAny_attempt (wpAny_callSpecial?_slot (name:=acV "__next__") UZ.typeIs abf (wpAny_call_entry abf UZ.typeIs F.entry_dict_keyiterator_next ?_ (F.args_dict_keyiterator_next_1 _))));refine wpAny_bind (wpAny_pure (wpAny_bind (wpAny_bind ?_)))
 first | refine wpAny_bind (wpAny_typeNameOfWhole_keyiter UZ.typeIs (wpAny_pure ?_)) | refine wpAny_bind (wpAny_typeNameOf_keyiter UZ.typeIs (wpAny_pure ?_))
 refine wpAny_bind (wpAny_fieldsOf ho hd ?_);have hown:Builtin.Dict_items.ownsTuple "dict_keyiterator" = false:=rfl;rw[hown];simp only[aaU,if_false];show wpAny _ _ (if (aaB d == Value.none)=true then _ else _) _ _ s;rw[if_neg (show ¬((aaB d == Value.none)=true) from aaz)];refine wpAny_bind (wpAny_pure (wpAny_bind (wpAny_dictEntries hod hdd ?_)));rw[if_neg (by simp)];refine wpAny_bind (wpAny_pure (wpAny_bind (wpAny_dictEpoch hod hdd ?_)));rw[if_neg (by simp)];refine wpAny_pure ?_;have hneg:¬(es.size:Int)<0:=by lia
 simp only[hneg,if_false,ab8,Array.getElem?_eq_none (aab es.size)];refine wpAny_bind ?_
 first | refine wpAny_bind (wpAny_typeNameOfWhole_keyiter UZ.typeIs (wpAny_pure ?_)) | refine wpAny_bind (wpAny_typeNameOf_keyiter UZ.typeIs (wpAny_pure ?_))
 show wpAny _ _ (setField (.ref it) 0 .none >>= _) _ _ s;refine wpAny_bind (wpAny_setField ho hd (by simp) (wpAny_bind ?_));unfold newExc newTuple;refine wpAny_bind (wpAny_newObj_type (wpAny_bind (m:=firstArgMember _ _) (wpAny_of_eq (a:=.none) rfl (wpAny_newObj_type ?_ (by size_fits)))) (by size_fits));unfold raiseNew;refine wpAny_bind (wpAny_handled ?_);have hx:A.in1.handled=none:=hh;rw[hx];refine wpAny_bind (wpAny_pure (wpAny_throw (wpAny_bind ?_)));refine wpAny_isInstance (b:=true) (T := "StopIteration") ⟨_,aaJ _ rfl,rfl⟩ isSubtype_stop (wpAny_pure ?_);exact hQ _ (((abk ..).extBut.push _).push _)
theorem MU(hh:A.handled=none)(I d:Addr)(X0:d≠I) :
  Walks prog w A I [I,d] [I] es.size (fun i v=>(es.map (·.key))[i]?=some v) (fun i h=>h.IsKeyIter I d i es.size ep/\BS h d es ep) where
 sub:=fun b hb=>by simp at hb;simp[hb]
 frame:=fun _ _ _ st hk=>⟨let ⟨o,ho,r⟩:=st.1;⟨o,hk I (by simp) o ho,r⟩,st.2.at fun o e=>hk d (by simp) o e⟩
 item:=fun i s Q E hi st hQ=>by
  obtain⟨v,hv⟩:∃v,(es.map (·.key))[i]?=some v:=⟨_,abE (by simpa using hi)⟩
  refine Qj st.1 st.2 hv fun h' Qk hs'=>?_;exact hQ v h' s.toks hv ⟨Qk,st.2.at fun o e=>hs'.extBut d o X0 e⟩ fun b o hb e=>hs'.extBut b o (fun h=>hb (by simp[h])) e
 done:=fun s Q E st hQ=>US hh st.1 st.2 fun h' he'=>hQ h' s.toks fun b o hb e=>he' b o (fun h=>hb (by simp[h])) e
 self:=fun _ _ _ _ st hQ=>wpAny_pyIter_keyiter st.1 hQ
theorem UT(lo:(d == sysModules)=false):KdlSrc prog w "dict" d d es.size (fun i v=>(es.map (·.key))[i]?=some v) (fun h=>BS h d es ep) where
 type:=fun _ x=>x.typeIs
 there:=fun _ x=>let ⟨_,ho,_⟩:=x;⟨aad ho,aad ho⟩
 keep:=fun _ _ x hk=>x.at fun o e=>hk d (.inl rfl) o e
 notList:=by decide
 notTuple:=by decide
 hint:=fun _ _ _ _ x hq=>kdl_hint_dict x.typeIs hq
 iter:=fun _ s hh x=>⟨_,_,(fun _ _ hq=>KA lo x hq),MU hh _ d (let ⟨_,ho,_⟩:=x;aax (aad ho)),
  ⟨⟨_,aaJ _ rfl,rfl,by simp⟩,x.at fun o e=>aac _ e⟩⟩
end
end Sx
set_option maxHeartbeats 4000000
namespace Ts
open PySem PyProof.Rows
variable{A:Around}{E:Value->Shared->Prop}{s:Shared}{prog:Program}{w:World}
end Ts
namespace Br
open PySem PySem.Spec PyProof.Rows L2
theorem okQ{P:Program}{w:World}{K:Dk}{mg:Str->Option Value}{base:Heap}{x qual:Str}{st:Stmt}{f:Addr}{fd:FuncData}{N ps:List Str}{k n m:Nat}{body:FS}(F:Fun K x qual st f fd)(S:aN N ps (ao st))
  (hb:∀(cdv:Value) (A:Around) (outer:List Env) (s:Shared) (H:Hp) (E:XK),b9 k (A.deeper (envOfC qual (ao st) s.heap.objs.size f cdv))->DSs (n_ CX0 P w K mg base N qual (ao st) f cdv A outer s H E).nox (b5 st) body)
  (hn:ps.length=n:=by rfl) (hm:N.length=n+m:=by rfl):bI P w K mg base CX0 (k+1) f fd ps (spD (Dm.fn n m body)):=
 F.ok S (fun vs H Q E h=>(LZ h).trans hn.symm) fun cdv A outer s H vs Q E hr h=>⟨_,hb cdv A outer s H E hr,Zn hm h⟩
end Br
namespace Dm
noncomputable def lD:List (Int×Int)->List Dat->Int×Int->Option Dat
 |k::ks,v::vs,p=>if k=p then some v else lD ks vs p
 |_,_,_=>none
noncomputable def Cp:List (Int×Int)->List Dat->Int×Int->Dat->List Dat
 |k::ks,v::vs,p,d=>(if k=p then d else v)::Cp ks vs p d
 |_,_,_,_=>[]
noncomputable def Ai(ks:List (Int×Int))(p:Int×Int):Bool:=ks.any fun k=>decide (k=p)
noncomputable def j_(ks:List (Int×Int))(p:Int×Int):List (Int×Int):=if Ai ks p then ks else ks++[p]
noncomputable def lU(ks:List (Int×Int))(vs:List Dat)(p:Int×Int)(d:Dat):List Dat:=if Ai ks p then Cp ks vs p d else vs++[d]
noncomputable def pairD(p:Int×Int):Dat:=.tup [.int p.1,.int p.2]
noncomputable def MV:FE:=fun ρ=>some (.new (.dcp [] []),ρ)
noncomputable def ES:Dat->Dat->Option RV
 |.dcp ks vs,.tup [.int i,.int j]=>(lD ks vs (i,j)).map .val
 |_,_=>none
noncomputable def qX:Dat->Dat->Option RV
 |.tup [.int i,.int j],.dcp ks vs=>vB (lD ks vs (i,j)).isSome
 |_,_=>none
noncomputable def lV:List Dat->Option RV
 |[.dcp ks _]=>if ks.length<=SZ then some (.new (.lst (ks.map pairD))) else none
 |_=>none
noncomputable def oV(i:Nat)(j e:FE):FS:=fun ρ=>match e ρ with
 |none=>none
 |some (x,ρ1)=>match tk ρ1 x with
  |none=>none
  |some (d,ρ2)=>match ρ2[i]? with
   | some (.ow _)=>(match j ρ2 with
    | some (.val (.tup [.int p,.int q]),ρ3)=>(match ρ3[i]? with
     |some (.ow (.dcp ks vs))=>if ks.length<SZ then some (.nx (ρ3.set i (.ow (.dcp (j_ ks (p,q)) (lU ks vs (p,q) d))))) else none
     |_=>none)
    |_=>none)
   |_=>none
end Dm
namespace Br
open PySem PySem.Spec PyProof.Rows L2
section
variable{ks:List (Int×Int)}{kvs:List (List Key×V)}{ds:List Dat}{p:Int×Int}{H0:Hp}{v:V}{d:Dat}{H:Hp}
theorem Dj{p q:Int×Int}(h:kP p=kP q):p=q:=by
 unfold kP at h;injection h with h1 h2
 injection h2 with h2 _
 cases p;cases q;exact Prod.ext (Sum.inl.inj h1) (Sum.inl.inj h2)
theorem mS{H0 H:Hp}(s:aO H0 H)(r:rF H0 H v (.dcp ks ds)):∃a x,v=.ref a/\H a=some (.dT x.1 x.2)/\Kg H0 x ks/\bg H0 (x.1.map (·.2)) ds:=by
 rcases r with r | ⟨a,e,x,q,ek,rs⟩
 ·cases r with
  |dcp q ek rs=>exact⟨_,_,rfl,s _ _ q,ek,rs⟩
 ·exact⟨a,x,e,q,ek,rs⟩
theorem mT{H0 H:Hp}(s:aO H0 H){i j:Int}(r:rF H0 H v (.tup [.int i,.int j])):∃b,v=.ref b/\H0 b=some (.tup ((kP (i,j)).map kV)):=by
 rcases r with r | ⟨a,e,w⟩
 ·cases r with
  |tup q rs=>
   cases rs with
   |cons r1 rr=>
    cases rr with
    |cons r2 rr=>cases rr;cases r1;cases r2;exact⟨_,rfl,q⟩
 ·exact w.elim
theorem oW(p:Int×Int):∀{kvs:List (List Key×V)} {ks:List (Int×Int)} {ds:List Dat},kvs.map (·.1)=ks.map kP->bg H0 (kvs.map (·.2)) ds ->
  (∃d v,Dm.lD ks ds p=some d/\mL kvs (kP p)=some v/\Rep H0 v d)\/(Dm.lD ks ds p=none/\mL kvs (kP p)=none)
 |[],[],_,_,r=>by cases r;exact .inr ⟨rfl,rfl⟩
 |[],_::_,_,e,_=>by cases e
 |_::_,[],_,e,_=>by cases e
 |(k0,v0)::kvs,k::ks,_,e,r=>by
  rw[gc]at r;cases r with
  |cons r0 rr=>
   rw[gc,gc]at e;injection e with e1 e2
   have e1:k0=kP k:=e1;subst e1;unfold Dm.lD;by_cases h:k=p
   ·subst h;rw[if_pos rfl];exact .inl ⟨_,v0,rfl,oB rfl,r0⟩
   ·rw[if_neg h,oE (fun q=>h (Dj q))];exact oW p e2 rr
theorem Dl(p:Int×Int):∀{kvs:List (List Key×V)} {ks:List (Int×Int)},kvs.map (·.1)=ks.map kP->(kvs.any fun kv=>decide (kv.1=kP p))=Dm.Ai ks p
 |[],[],_=>rfl
 |[],_::_,e=>by cases e
 |_::_,[],e=>by cases e
 |(k0,v0)::kvs,k::ks,e=>by
  rw[gc,gc]at e;injection e with e1 e2
  have e1:k0=kP k:=e1;subst e1;unfold Dm.Ai;rw[abc,abc,Dl p e2];unfold Dm.Ai
  congr 1
  by_cases h:k=p
  ·subst h;simp
  ·have:¬kP k=kP p:=fun q=>h (Dj q);simp[h,this]
theorem ET(p:Int×Int)(rv:Rep H0 v d):∀{kvs:List (List Key×V)} {ks:List (Int×Int)} {ds:List Dat},kvs.map (·.1)=ks.map kP->bg H0 (kvs.map (·.2)) ds ->
  ((kvs.map fun kv=>if kv.1=kP p then (kv.1,v) else kv).map (·.1)=ks.map kP)/\bg H0 ((kvs.map fun kv=>if kv.1=kP p then (kv.1,v) else kv).map (·.2)) (Dm.Cp ks ds p d)
 |[],[],_,_,r=>by cases r;exact⟨rfl,.nil⟩
 |[],_::_,_,e,_=>by cases e
 |_::_,[],_,e,_=>by cases e
 |(k0,v0)::kvs,k::ks,_,e,r=>by
  rw[gc]at r;cases r with
  |cons r0 rr=>
   rw[gc,gc]at e;injection e with e1 e2
   have e1:k0=kP k:=e1;subst e1;obtain⟨i1,i2⟩:=ET p rv e2 rr;unfold Dm.Cp;by_cases h:k=p
   ·subst h;rw[if_pos rfl,gc,gc,gc,i1];simp only[if_true];exact⟨trivial,.cons rv i2⟩
   ·rw[if_neg h,gc,gc,gc,i1];have:¬kP k=kP p:=fun q=>h (Dj q);simp only[this,if_false];exact⟨trivial,.cons r0 i2⟩
theorem Ql(p:Int×Int)(rv:Rep H0 v d)(e:kvs.map (·.1)=ks.map kP)(r:bg H0 (kvs.map (·.2)) ds) :
  (putK kvs (kP p) v).map (·.1)=(Dm.j_ ks p).map kP/\bg H0 ((putK kvs (kP p) v).map (·.2)) (Dm.lU ks ds p d):=by
 have ha:=Dl p e;unfold putK Dm.j_ Dm.lU;rw[ha];cases hb:Dm.Ai ks p with
 |true=>simp only[if_true];exact ET p rv e r
 |false=>simp only[aaU,if_false];rw[aaj,aaj,aaj,e];exact⟨rfl,r.append (.cons rv .nil)⟩
theorem fJ.snoc{t:Addr}(h:H t=some (.tup [V.int p.1,V.int p.2])):∀{ts:List Addr} {ks:List (Int×Int)},fJ H ts ks->fJ H (ts++[t]) (ks++[p])
 |[],[],_=>⟨h,trivial⟩
 |_::_,_::_,q=>⟨q.1,fJ.snoc h q.2⟩
 |[],_::_,q=>q.elim
 |_::_,[],q=>q.elim
theorem MW{b:Addr}(hb:H b=some (.tup ((kP p).map kV))){ts:List Addr}(e:kvs.map (·.1)=ks.map kP)(k:fJ H ts ks):fJ H (GH kvs ts (kP p) b) (Dm.j_ ks p):=by
 unfold GH Dm.j_;rw[Dl p e];cases Dm.Ai ks p with
 |true=>simpa using k
 |false=>simpa using fJ.snoc hb k
theorem Cq:∀{ts:List Addr} {ks:List (Int×Int)},fJ H ts ks->bg H (ts.map V.ref) (ks.map Dm.pairD)
 |[],[],_=>.nil
 |_::_,_::_,q=>.cons (.tup q.1 (.cons (.int _) (.cons (.int _) .nil))) (Cq q.2)
 |[],_::_,q=>q.elim
 |_::_,[],q=>q.elim
theorem UU:OpD (fun x y H Q=>∃a v,x=.ref a/\j8 H a y (some v)/\Q v H) Dm.ES:=by
 intro H0 H x y dx dy z Q s rx ry e k;unfold Dm.ES at e;split at e
 ·rename_i ks vs i j;obtain⟨b,rfl,hb⟩:=mT s ry;obtain⟨a,x,rfl,qa,ek,rs⟩:=mS s rx;rcases oW (i,j) ek.1 rs with⟨d,v,l1,l2,r⟩ | ⟨l1,_⟩
  ·rw[l1]at e;cases e;refine⟨a,v,rfl,?_,k _ H0 H (bG.refl s) r⟩;have:=j8.t (k:=kP (i,j)) qa (s _ _ hb);rw[l2]at this;exact this
  ·rw[l1]at e;cases e
 ·cases e
theorem Qm:OpD (fun y x H Q=>∃a o,x=.ref a/\j8 H a y o/\Q (.bl o.isSome) H) Dm.qX:=by
 intro H0 H x y dx dy z Q s rx ry e k;unfold Dm.qX at e;split at e
 ·rename_i i j ks vs;cases e;obtain⟨b,rfl,hb⟩:=mT s rx;obtain⟨a,x,rfl,qa,ek,rs⟩:=mS s ry;refine⟨a,_,rfl,j8.t (k:=kP (i,j)) qa (s _ _ hb),k _ H0 H (bG.refl s) ?_⟩;rcases oW (i,j) ek.1 rs with⟨d,v,l1,l2,r⟩ | ⟨l1,l2⟩
  ·rw[l1,l2];exact .bl _
  ·rw[l1,l2];exact .bl _
 ·cases e
def MX:List V->Hp->VK->Prop:=fun xs H Q=>∃(a:Addr) (kvs:List (List Key×V)) (ts:List Addr),xs=[.ref a]/\H a=some (.dT kvs ts)/\∀l,H l=none->Q (.ref l) (upd H l (.lst (ts.map V.ref)))
theorem Cr:∀ts:List Addr,Vals (ts.map V.ref) (ts.map aaB)
 |[]=>.nil
 |_::ts=>.cons rfl (Cr ts)
theorem G9{X:Cx}(hc:X.calm=true):iz X (.type "list") MX:=by
 intro BU s σ H xs us Q I r h;obtain⟨a,kvs,ts,rfl,hq,k⟩:=h;obtain⟨u,rfl,rx⟩:=vals1 r;cases rx;obtain⟨z,hd,ys,rel,o,es,ep,h1,h2,h3,h4,h5,h6⟩:=(show bR X.prog X.w H s.heap a (.dT kvs ts) from I.hok a _ hq)
 have hkeys:(es.map (·.key)).toList=ts.map aaB:=by rw[Array.toList_map,h4,<- h6,aaN,aaN];rfl
 have hsz:es.size=ts.length:=by
  have:=congrArg List.length hkeys
  simpa using this
 have hyl:ys.length=ts.length:=by rw[<- h6,Pa]
 have hl:ts.length<=sizeLine:=by rw[<- hyl,<- Paired.length rel];exact z
 refine PySem.W.kdl_call (Sx.UT (es:=es) (ep:=ep) hd) (I.ok.hd hc) ⟨o,h1,h2,h3⟩ (by rw[hsz];exact hl) fun h' tk KG c hk hL hacc=>?_;have hal:KG.toList=ts.map aaB:=by
  apply abg;intro i;by_cases hi:i<es.size
  ·have e1:KG.toList[i]?=some (KG.toList[i]'(by rw[abi,hacc.1];exact hi)):=aaI _;have:=hacc.2 i _ (by rw[<- aby];exact e1);rw[<- hkeys,e1,<- this,aby]
  ·rw[aaq (by rw[abi,hacc.1];lia),aaq (by rw[Pa,<- hsz];lia)]
 have hobj:bR X.prog X.w (upd H s.heap.objs.size (.lst (ts.map V.ref))) h' s.heap.objs.size (.lst (ts.map V.ref)):=by refine⟨by rw[Pa];exact hl,ts.map aaB,c,Cr ts,?_⟩;rw[hL,<- hal]
 exact⟨.ref s.heap.objs.size,_,I.laid (t':=tk) hk (aab _) hobj,rfl,k _ (I.hok.fresh (aab _))⟩
theorem MY:CallD MX Dm.lV:=by
 intro H0 H vs ds z Q s rs e k;unfold Dm.lV at e;split at e
 ·split at e
  case isFalse=>cases e
  cases e;cases rs with
  |cons r rr=>cases rr;obtain⟨a,x,rfl,qa,ek,ra⟩:=mS s r;exact⟨a,x.1,x.2,rfl,qa,fun p hp=>k _ _ _ (bG.uQ s hp) ⟨p,rfl,hp,s.free hp,_,aQ,Cq ek.2⟩⟩
 ·cases e
end
section
variable{σ:L2.St}{H:Hp}{Q:VK}{D:Ends}
theorem XO(h:tD Dm.MV σ H Q):LL σ H Q:=by obtain⟨H0,ρ,x,ρ',st,e,k⟩:=h;cases e;intro p hp;have g:=bG.uQ (o:=HO.dT [] []) st.same hp;exact k _ _ _ (.grow st g) ⟨p,rfl,hp,st.cS hp,st.same.free hp,([],[]),aQ,⟨rfl,trivial⟩,.nil⟩
theorem Qn{i:Nat}{j f:FE}(h:tDS (Dm.oV i j f) D σ H):LG (v9 i) (tD j) (tD f) D σ H:=by
 obtain⟨H0,ρ,o,st,e,k⟩:=h;unfold Dm.oV at e;split at e
 ·cases e
 rename_i x ρ1 e1;split at e
 ·cases e
 rename_i d ρ2 e2;split at e
 case h_2=>cases e
 rename_i d0 h2;split at e
 ·rename_i m n ρ3 e3;split at e
  ·rename_i ks vs h3;split at e
   case isFalse=>cases e
   rename_i hz;cases e;refine⟨H0,ρ,_,ρ1,st,e1,fun v H0' H' t r=>?_⟩;obtain⟨H1,t1,b1,r1,_,_⟩:=take1 t (aO.refl _) r e2;obtain⟨a0,q0,_,_⟩:=t1.st.ow i _ h2;refine⟨_,q0,H1,ρ2,_,ρ3,t1.st,e3,fun u H2 Hc t2 r2=>?_⟩;obtain⟨a,q,n',w⟩:=t2.st.ow i _ h3;rw[q0]at q;cases q;obtain⟨y,yy,ek,rs⟩:=w;obtain⟨b,rfl,hb⟩:=mT t2.st.same (.inl r2);obtain⟨p1,p2⟩:=Ql (m,n) (r1.mono t2.stp.s0) ek.1 rs;have Fp:y.1.length=ks.length:=by
    have:=congrArg List.length ek.1
    simpa using this
   refine⟨a0,_,rfl,Er.t (k:=kP (m,n)) yy (t2.st.same _ _ hb) (by rw[Fp];exact aam hz (by decide)),?_⟩;have ow:aJ σ ρ3 a0:=⟨i,_,h3,q0⟩
   have tt:=t1.trans t2;exact k σ H2 _ ⟨t2.st.write h3 q0 ⟨(putK y.1 (kP (m,n)) v,GH y.1 y.2 (kP (m,n)) b),aQ,⟨p1,MW hb ek.1 ek.2⟩,p2⟩,tt.stp.trans (Stp.write ow) fun b z=>.inl (tt.own b z),fun b z=>.inl (tt.own b (cZ h3 z)),rfl⟩
  ·cases e
 ·cases e
end
section
variable{X:Cx}{a b e:Expr}{fa fb f:FE}{pos:Pos}{k:Nat}
theorem R3:DE X (.Dict [] [] pos) Dm.MV:=PE.weak LN fun _ _ _=>XO
theorem XQ(hr:b9 k X.A)(ha:DE X a fa)(hb:DE X b fb)(hs:Pd b:=by intro _ _;rfl):DE X (.Subscript a b pos) (Dm.e2 Dm.ES fa fb):=PE.weak (Iw (u1 hr) ha hb hs) fun _ _ _=>C6 UU
theorem Dq(i:Nat){x:Str}{px sp:Pos}(hr:b9 k X.A)(hb:DE X b fb)(he:DE X e f)(hi:X.N[i]?=some x:=by rfl)(hv:Vis X.env.scope x:=by trivial)(hd:(x == ("__debug__" : Str))=false:=by decide)
  (R1:(x == ("__classdict__" : Str))=false:=by decide) (hs:swapsWith e (some (.Subscript (.Name x px) b sp)) pos.line X.env=pure false:=by rfl):DS X (.Assign [.Subscript (.Name x px) b sp] e pos) (Dm.oV i fb f):=
 PS.weak (Iz (u1 hr) (kT hi hv hd R1) hb he hs) fun _ _ _=>Qn
theorem Qo{fs:List FE}{p:Pos}(hc:X.calm=true)(hg:Gl X "list")(hm:X.mg "list" = none)(ha:DA X [e] fs)(he:starEach [e] X.env=[(false,eval e X.env)]:=by rfl)(KD:(backTo pos (starEach [] X.env)).any (·.1)=false:=by rfl):DE X (.Call (.Name "list" p) [e] [] pos) (Dm.eB Dm.lV fs):=Mh (G9 hc) MY (by rfl) hg hm ha (he:=he) (KD:=KD)
end
end Br
namespace PySem.W
open PySem PySem.Spec PySem.Calls PyProof.Rows
noncomputable def isI(K:Frag)(C fI:Addr)(bmB:List Value)(newId:String):Bool:=match K.lookup C with
 | some o=>o.cls == .type "type" && (match o.data with
  |.cls c=>c.mro.head? == some (.ref C)&&(c.hasDict&&!c.hasDel)&&tailIn K bmB c.mro.tail&&(o.slots.size == 6&&o.slots[4]? == some (some (.builtin newId)))
  |_=>false)
 |none=>false
end PySem.W
namespace L2
open PySem PySem.Spec PyProof.Rows
structure XR(x:Str)(C fI:Addr)(bmB:List Value)(newId:String)(K:Dk)(mg:Str->Option Value)(base:Heap):Prop where
 bound:mg x=some (.ref C)
 kp:aaW K (.ref C)=true
 init:aaf K (.ref C) "__init__" = some (some (.ref fI))
 fn:acn K (.ref fI)=some (.type "function")
 obj:∃bm N nm q bs sn sub ab col dd k0 k1 k2 k3 k5,base.get? C=some (excClassObj nm q C N bs bm true sn sub ab col dd k0 k1 k2 k3 k5 newId)/\OwnTail base bmB bm
theorem Qp{x:Str}{C fI:Addr}{bmB:List Value}{newId:String}{K:Dk}{mg:Str->Option Value}{base:Heap}(X:K.In base)(bound:mg x=some (.ref C))(kp:aaW K (.ref C)=true)
  (init:aaf K (.ref C) "__init__" = some (some (.ref fI))) (fn:acn K (.ref fI)=some (.type "function")) (q:PySem.W.isI K C fI bmB newId=true):XR x C fI bmB newId K mg base:=by
 refine⟨bound,kp,init,fn,?_⟩;unfold PySem.W.isI at q;split at q
 case h_2=>cases q
 rename_i o ho;obtain⟨oc,od,dt,sl⟩:=o;cases dt with
 |cls c=>
  obtain⟨nm,bs,mro,ns,qn,hd,sn,sub,ab,col,del⟩:=c;simp only[aau,beq_iff_eq,acE]at q;obtain⟨rfl,⟨⟨⟨q1,rfl,rfl⟩,q2⟩,q3,q4⟩⟩:=q;cases mro with
  |nil=>cases q1
  |cons v bm=>
   cases q1;obtain⟨l⟩:=sl;have hl:l.length=6:=q3
   match l,hl,q4 with
   |[k0,k1,k2,k3,k4,k5],_,q4=>
    have:k4=some (.builtin newId):=by simpa using q4
    subst this;exact⟨bm,ns,nm,qn,bs,sn,sub,ab,col,od,k0,k1,k2,k3,k5,X _ _ ho,PySem.W.tail_of_in X q2⟩
 |_=>simp at q
section
variable{P:Program}{w:World}{K:Dk}{mg:Str->Option Value}{base:Heap}{N:List Str}{qual:Str}{scope:Scope}{f:Addr}{cd:Value}{A:Around}{outer:List Env}{s₀:Shared}{H₀:Hp}{E:XK}{C:Addr}
 {BU:List (Addr×Obj)} {σ:St} {H:Hp} {s:Shared}
end
end L2
namespace Pz
open PySem
section
variable{K:Type}[DecidableEq K]
noncomputable def u9(xs:List (K×Addr×Value))(k:K):List (K×Addr×Value):=xs.filter fun x=>decide (x.1≠k)
theorem yb{β:Type}(f:K×Addr×Value->β){k:K}:∀{xs:List (K×Addr×Value)} {j:Nat} {p:Addr×Value},(xs.map (·.1)).Nodup->xs[j]?=some (k,p)->(xs.map f).eraseIdx j=(u9 xs k).map f
 |[],_,_,_,h=>by simp at h
 |x::r,j,p,hn,h=>by
  rw[gc,aal]at hn;cases j with
  |zero=>
   simp only[ab7,Option.some.injEq]at h;subst h;unfold u9;rw[aaS (by simp),gc,List.eraseIdx_cons_zero]
   congr 1
   refine(abJ.mpr fun y hy=>?_).symm;exact decide_eq_true fun e=>hn.1 (aak.mpr ⟨y,hy,e⟩)
  |succ j=>simp only[abu]at h;have hm:k∈r.map (·.1):=aak.mpr ⟨(k,p),abe h,rfl⟩;have X0:x.1≠k:=fun e=>hn.1 (e▸hm);unfold u9;rw[aaT (by simpa using X0),gc,gc,List.eraseIdx_cons_succ,yb f hn.2 h];rfl
end
section
variable{prog:Program}{w:World}{K:Type}[DecidableEq K]{knd:HeapKind prog w K}{A:Around}{E:Value->Shared->Prop}{s:Shared}{d a:Addr}{k:K}{xs:List (K×Addr×Value)}
theorem Dt{p:Addr×Value}{Q:Option DictEntry->Shared->Prop}(hu:knd.room A)(hkey:knd.is s.heap k a)(hm:s.heap.DictOfH knd d xs)(hp:atKey xs k=some p)(hsz:xs.length<=sizeLine)
  (h:∀h',h'.DictOfH knd d (u9 xs k)->abq d s.heap h'->Q (some ⟨knd.hash k,.ref p.1,p.2⟩) { s with heap:=h',toks:=s.toks+knd.draws k }):wpAny (model prog w) A (Builtin.Dict.takeOut d (.ref a)) Q E s:=by
 obtain⟨o,es,ep,ho,hc,hd,he,his,hn⟩:=hm;unfold Builtin.Dict.takeOut
 try with_reducible refine wpAny_holding ?_
 refine wpAny_bind (knd.pyHash hu hkey (wpAny_bind (wpAny_dictFind_heap (s:={ s with toks:=s.toks+knd.draws k }) hu hkey ho hd he his hn ?_ ?_)))
 ·intro hno;rw[atKey_none_of_get hno]at hp;exact nomatch hp
 ·intro j q hj;have e:=atKey_of_get hn hj;rw[e]at hp;cases hp;refine wpAny_bind (wpAny_dictEntries (s:={ s with toks:=s.toks+knd.draws k }) ho hd ?_);rw[entry_at he j,hj];refine wpAny_bind (wpAny_updateDictKeys (hz:=by rw [size_of_entries he];exact hsz) (s:={ s with toks:=s.toks+knd.draws k }) ho hd (wpAny_pure (h _ ⟨_,_,ep+1,abo _ ho (Obj.isFreed_of_dict (Obj.data_mapDictKeys hd _)),
   hc.mapDictKeys _,Obj.data_mapDictKeys hd _,?_,fun x hx=>knd.keeps (his x (aaO.mp hx).1) ho hd (abk ..),?_⟩ (abk ..))))
  ·have:=yb (entryOfKey knd) hn hj;rw[<- he]at this;rw[<- this];obtain⟨l⟩:=es;have hl:j<l.length:=by
    have:=size_of_entries he;have h2:=(aag.mp hj).1;simp at this
    lia
   simp[Array.eraseIdxIfInBounds,hl]
  ·exact hn.sublist ((abK (p:=fun x:K×Addr×Value=>decide (x.1≠k)) (l:=xs)).map _)
theorem G_(knd:HeapKind prog w K)(d a:Addr) :
  MeetsIn prog w (Builtin.«dict.pop» ⟨[.ref d,.ref a],[]⟩) (fun A R s=>knd.room A.in1∧∃ k xs p,knd.is s.heap k a∧s.heap.DictOfH knd d xs∧xs.length≤sizeLine∧atKey xs k=some p ∧
   ∀h',h'.DictOfH knd d (u9 xs k)->abq d s.heap h'->R (.ok (.ret p.2)) { s with heap:=h',toks:=s.toks+knd.draws k }):=
 .of_wp fun A R s ⟨hu,k,xs,p,hkey,hm,hsz,hp,h⟩=>by
  obtain⟨o,es,ep,ho,hc,hd,he,his,hn⟩:=id hm;unfold Builtin.«dict.pop»;refine wpAny_bind ?_;unfold Builtin.Dict.keyAndDefault;refine wpAny_bind (wpAny_notOrdered_dict hm.typeIs ?_);show wpAny _ _ (pure (d,aaB a,none)) _ _ s;refine wpAny_pure ?_;have X0:es.isEmpty=false:=by
   cases hx:xs with
   |nil=>rw[hx]at hp;exact nomatch hp
   |cons x r=>
    have:=size_of_entries he;rw[hx]at this;cases hq:es.isEmpty with
    |false=>rfl
    |true=>rw[Array.isEmpty_iff.mp hq]at this;exact nomatch this
  simp only[show (keyPart (.ref a)).isSome=false from rfl,aaU,if_false];refine wpAny_bind (wpAny_dictEntries ho hd (wpAny_bind (wpAny_pure ?_)));simp only[X0,aaU,if_false];refine wpAny_bind (Dt hu hkey hm hp hsz fun h' hm' hs'=>?_);simp only[Option.isNone_some,aaU,if_false];exact wpAny_bind (wpAny_letGo (wpAny_pure ⟨p.2,rfl,h h' hm' hs'⟩))
end
section
variable{prog:Program}{w:World}{K:Type}[DecidableEq K]{kd:KeyKind prog w K}{A:Around}{E:Value->Shared->Prop}{s:Shared}{d a:Addr}{k:K}{xs:List (List K×Addr×Value)}
theorem MZ{es:List DictEntry}(hn:(es.map (·.hash)).Nodup){e:DictEntry}(he:e∈es):(es.filter (·.hash == e.hash)).length<=1:=by
 have h1:(es.filter (·.hash == e.hash)).length=((es.map (·.hash)).filter (· == e.hash)).length:=by rw[List.filter_map,Pa];rfl
 have h2:((es.map (·.hash)).filter (· == e.hash)).length=(es.map (·.hash)).count e.hash:=by rw[List.count_eq_length_filter]
 rw[h1,h2];exact List.nodup_iff_count.mp hn _
theorem Du{id:String}{o:Obj}{es ep}{Q:Array DictEntry->Shared->Prop}(ho:s.heap.get? d=some o)(hd:o.data=.dict es ep)(he:es.toList=xs.map (entryOfKey (tupleKind kd)))(his:∀x∈xs,(tupleKind kd).is s.heap x.1 x.2.1)(hh:(xs.map fun x=>(tupleKind kd).hash x.1).Nodup)(h:Q es s) :
  wpAny (model prog w) A (Builtin.Dict.entriesForEmpty id d) Q E s:=by
 unfold Builtin.Dict.entriesForEmpty;refine wpAny_bind (wpAny_dictEntries ho hd ?_);refine wpAny_bind ?_;rw[<- Array.forIn_toList];have hn:(es.toList.map (·.hash)).Nodup:=by rw[he,aaN];exact hh
 refine wpAny_forIn_list _ (fun HJ _ s'=>s'=s/\∀e∈HJ,e∈es.toList) _ ?_ ?_ _ _ ⟨rfl,fun _ h=>h⟩
 ·rintro e HJ b s' ⟨rfl,hall⟩;have hm:=hall e (PU ..);have hm':=hm;rw[he]at hm';obtain⟨x,hx,rfl⟩:=aak.mp hm';have hT:=(show IsTupleKey kd s'.heap x.1 x.2.1 from his x hx).typeIs;show wpAny _ _ (Builtin.Dict.quietEq (.ref x.2.1) >>= _) _ _ s';refine wpAny_bind ?_;unfold Builtin.Dict.quietEq;refine wpAny_bind (wpAny_specialOf hT F.slot_tuple_eq.lookup (wpAny_pure ?_));have hc:¬(es.filter (·.hash == (entryOfKey (tupleKind kd) x).hash)).size>1:=by
   have:=MZ hn hm;rw[<- Array.toList_filter,abi]at this
   lia
  split
  ·first | rw[if_neg hc] | skip
   exact wpAny_pure ⟨rfl,fun e he'=>hall e (Ds _ he')⟩
  ·exact wpAny_pure ⟨rfl,fun e he'=>hall e (Ds _ he')⟩
 ·rintro b s' ⟨rfl,_⟩;exact wpAny_pure h
theorem Hg{o:Addr}{Q:Value->Shared->Prop}(hoS:(o == sysModules)=false)(ho:s.heap.DictOfH (tupleKind kd) o xs)(hsz:xs.length<=sizeLine)(hh:(xs.map fun x=>(tupleKind kd).hash x.1).Nodup)
  (h:∀h',h'.DictOfH (tupleKind kd) s.heap.objs.size xs->abq s.heap.objs.size (s.heap.push { cls:=.type "dict",data:=.dict #[] }) h'->Q (.ref s.heap.objs.size) { s with heap:=h' }) :
  wpAny (model prog w) A (call (.type "dict") [.ref o]) Q E s:=by
 refine callType_codes (Q₁:=fun obj s₁=>obj=.ref s.heap.objs.size/\s₁={ s with heap:=s.heap.push { cls:=.type "dict",data:=.dict #[] } }) F.kt_called_dict (F.kt_typeCall_dict_1 _) F.entry_dict_init (kt_code_dict_new _ ⟨rfl,rfl⟩) ?_;rintro obj s₁ ⟨rfl,rfl⟩;have hnew:(s.heap.push { cls:=.type "dict",data:=.dict #[] }).DictOfH (tupleKind kd) s.heap.objs.size []:=Heap.DictOfH.new s.heap;have hdo:s.heap.objs.size≠o:=by obtain⟨_,_,_,hg,_⟩:=ho;exact fun e=>absurd (aad hg) (by rw[e];exact aaZ _)
 obtain⟨oo,es,ep,ho1,hc,hd,he,his,hn⟩:=id ho;have kp:∀{k:List K} {b:Addr},(tupleKind kd).is s.heap k b->(tupleKind kd).is (s.heap.push { cls:=.type "dict",data:=.dict #[] }) k b:=fun {k b} ⟨o,it,n,q1,q2⟩=>⟨o,it,n,aac _ q1,q2⟩;have ho':(s.heap.push { cls:=.type "dict",data:=.dict #[] }).DictOfH (tupleKind kd) o xs:=⟨oo,es,ep,aac _ ho1,hc,hd,he,fun x hx=>kp (his x hx),hn⟩
 have hg:(s.heap.push { cls:=.type "dict",data:=.dict #[] }).get? s.heap.objs.size=some { cls:=.type "dict",data:=.dict #[] }:=aaJ _ rfl;refine⟨hnew.typeIs,F.args_dict_init_2 _ _,?_⟩;unfold Builtin.«dict.__init__»;refine wpAny_bind ?_;unfold Builtin.Dict.selfAndRest;refine wpAny_bind (wpAny_notOrdered_dict hnew.typeIs ?_);show wpAny _ _ (pure (s.heap.objs.size,[aaB o])) _ _ _;refine wpAny_pure ?_;show wpAny _ _ (Builtin.Dict.updateFrom "dict.__init__" s.heap.objs.size (.ref o) [] .none) _ _ _;unfold Builtin.Dict.updateFrom;refine wpAny_bind (wpAny_typeOf ho'.typeIs ?_);rw[if_neg (by decide)];refine wpAny_bind ?_;unfold Builtin.Dict.merge;refine wpAny_bind ?_;unfold Builtin.Dict.readDirectly;refine wpAny_bind (wpAny_isInstance ho'.typeIs isSubtype_dict_dict ?_);simp only[Bool.not_true,aaU,if_false];refine wpAny_bind (wpAny_specialOf ho'.typeIs acJ.lookup (wpAny_pure ?_));simp only[beq_self_eq_true,if_true];refine wpAny_bind (wpAny_pure ?_);unfold Builtin.Dict.mergeDict;rw[if_neg (by simpa using hdo)];unfold acf;rw[if_neg (by rw[hoS];exact aaz)];refine wpAny_bind (wpAny_pure ?_);refine wpAny_bind (wpAny_dictEntries (aac _ ho1) hd ?_);dsimp only;cases hx:xs with
 |nil=>subst hx;have h0:es=#[]:=Array.toList_eq_nil_iff.mp he;subst h0;rw[if_neg (by simp)];refine wpAny_bind (wpAny_dictEpoch (aac _ ho1) hd ?_);refine wpAny_bind (wpAny_dictEntries (aac _ ho1) hd ?_);rw[Std.Legacy.Range.forIn_eq_forIn_range'];refine wpAny_bind (wpAny_pure (wpAny_pure ?_));show wpAny _ _ (Builtin.Dict.addKeywords s.heap.objs.size [] >>= _) _ _ _;exact wpAny_bind (wpAny_pure (wpAny_pure ⟨rfl,h _ hnew (abq.refl _ _)⟩))
 |cons x r=>
  have hf:¬(decide (es.size<=8)&&es.all fun e=>(keyPart e.key).isSome)=true:=fun z=>by have z2:=(Bool.and_eq_true_iff.mp z).2;rw[Array.all_eq_true_iff_forall_mem]at z2;have hm:entryOfKey (tupleKind kd) x∈es:=Array.mem_toList_iff.mp (by rw[he,hx];exact PU ..);exact nomatch z2 _ hm
  rw[if_pos (by rw[acE];exact acD.mpr hf)];refine wpAny_bind (wpAny_dictEntries hg rfl ?_);rw[if_pos (by rfl)];refine wpAny_bind (Du (aac _ ho1) hd he (fun x hx=>kp (his x hx)) hh ?_);have X0:(!es.isEmpty)=true:=by
   cases hq:es.isEmpty with
   |false=>rfl
   |true=>rw[Array.isEmpty_iff.mp hq,hx]at he;exact nomatch he
  rw[if_pos X0];refine wpAny_bind (wpAny_updateDictKeysTo hg rfl (wpAny_pure ?_) (by rw[size_of_entries he];exact Nat.le_succ_of_le hsz));show wpAny _ _ (Builtin.Dict.addKeywords s.heap.objs.size [] >>= _) _ _ _;refine wpAny_bind (wpAny_pure (wpAny_pure ⟨rfl,h _ ⟨_,_,1,abo _ hg rfl,?_,rfl,he,fun y hy=>(tupleKind kd).keeps (kp (his y hy)) hg rfl (abk ..),hn⟩ (abk ..)⟩));exact⟨rfl,rfl,rfl⟩
end
end Pz
namespace Dm
noncomputable def wD(a b:FE):FE:=fun ρ=>match a ρ with
 |none=>none
 |some (x,ρ1)=>match pk ρ1 x with
  | some (.dcp _ _)=>(match b ρ1 with
   |none=>none
   |some (y,ρ2)=>match pk ρ2 x with
    | some (.dcp ks vs)=>(match pk ρ2 y with
     |some (.tup [.int i,.int j])=>some (.val ((lD ks vs (i,j)).getD .non),ρ2)
     |_=>none)
    |_=>none)
  |_=>none
noncomputable def kH:List (Int×Int)->List Dat->Int×Int->List (Int×Int)
 |k::ks,_::vs,p=>if k=p then kH ks vs p else k::kH ks vs p
 |_,_,_=>[]
noncomputable def lE:List (Int×Int)->List Dat->Int×Int->List Dat
 |k::ks,v::vs,p=>if k=p then lE ks vs p else v::lE ks vs p
 |_,_,_=>[]
noncomputable def rN(i:Nat)(e:FE):FE:=fun ρ=>match ρ[i]? with
 | some (.ow (.dcp _ _))=>(match e ρ with
  | some (.val (.tup [.int p,.int q]),ρ1)=>(match ρ1[i]? with
   | some (.ow (.dcp ks vs))=>(match lD ks vs (p,q) with
    |some d=>some (.val d,ρ1.set i (.ow (.dcp (kH ks vs (p,q)) (lE ks vs (p,q)))))
    |none=>none)
   |_=>none)
  |_=>none)
 |_=>none
noncomputable def oX(ks:List (Int×Int)):Bool:=ks.all fun p=>decide (0<=p.1/\p.1<20/\0<=p.2/\p.2<20)
noncomputable def wF:List Dat->Option RV
 |[.dcp ks vs]=>if oX ks then some (.new (.dcp ks vs)) else none
 |_=>none
noncomputable def tkp(ρ:Env):Val->Option (Dat×Env)
 |.val d=>some (d,ρ)
 |.new d=>some (d,ρ)
 |.slot i=>match ρ[i]? with
  |some (.ow (.dcp ks vs))=>some (.dcp ks vs,ρ)
  |some (.ow d)=>some (d,ρ.set i (.sh d))
  |some (.sh d)=>some (d,ρ)
  |_=>none
noncomputable def Hh(ρ:Env):List Val->Option (List Dat×Env)
 |[]=>some ([],ρ)
 |x::r=>match tkp ρ x with
  |none=>none
  |some (d,ρ1)=>match Hh ρ1 r with
   |none=>none
   |some (ds,ρ2)=>some (d::ds,ρ2)
noncomputable def wG(f:List Dat->Option RV)(as:List FE):FE:=fun ρ=>match eAs as ρ with
 |none=>none
 |some (xs,ρ1)=>match Hh ρ1 xs with
  |none=>none
  |some (ds,ρ2)=>match f ds with
   |none=>none
   |some v=>if bJ v.dat then some (v.cR,ρ2) else none
end Dm
namespace Br
open PySem PySem.Spec PyProof.Rows L2
noncomputable def u_:List (List Key×V)->List Addr->List Key->List Addr
 |kv::kvs,t::ts,k=>if kv.1=k then u_ kvs ts k else t::u_ kvs ts k
 |_,_,_=>[]
theorem KT.drop{H:Hp}{kvs:List (List Key×V)}{xs:List (List Key×Addr×Value)}(r:KT H kvs xs)(k:List Key):KT H (ki kvs k) (Pz.u9 xs k)/\(Pz.u9 xs k).map (·.2.1)=u_ kvs (xs.map (·.2.1)) k:=by
 induction r with
 |nil=>exact⟨.nil,rfl⟩
 |@cons p q ps qs h t ih=>
  obtain⟨i1,i2⟩:=ih;unfold ki Pz.u9 at i1 ⊢;unfold Pz.u9 at i2;rw[gc];unfold u_;by_cases e:p.1=k
  ·have e':q.1=k:=h.1.symm.trans e;rw[aaS (by simp[e]),aaS (by simp[e']),if_pos e];exact⟨i1,i2⟩
  ·have e':¬q.1=k:=fun z=>e (h.1.trans z);rw[aaT (by simp[e]),aaT (by simp[e']),if_neg e,gc,i2];exact⟨.cons h i1,rfl⟩
theorem EU{H0 H1:Hp}(p:Int×Int):∀{kvs:List (List Key×V)} {ts:List Addr} {ks:List (Int×Int)} {ds:List Dat},kvs.map (·.1)=ks.map kP->fJ H1 ts ks->bg H0 (kvs.map (·.2)) ds ->
  (ki kvs (kP p)).map (·.1)=(Dm.kH ks ds p).map kP/\fJ H1 (u_ kvs ts (kP p)) (Dm.kH ks ds p)/\bg H0 ((ki kvs (kP p)).map (·.2)) (Dm.lE ks ds p)
 |[],[],[],ds,_,_,r=>by cases r;exact⟨rfl,trivial,.nil⟩
 |[],_::_,[],ds,_,h,r=>h.elim
 |[],_,_::_,_,e,_,_=>by cases e
 |_::_,_,[],_,e,_,_=>by cases e
 |_::_,[],_::_,_,_,h,_=>h.elim
 |(k,v)::kvs,t::ts,k'::ks,ds,e,h,r=>by
  rw[gc,gc]at e;injection e with e1 e2
  cases r with
  |cons h0 r=>
   obtain⟨i1,i2,i3⟩:=EU p e2 h.2 r;unfold ki at i1 i3 ⊢;dsimp only at e1;subst e1;unfold u_ Dm.kH Dm.lE;by_cases q:k'=p
   ·subst q;rw[aaS (by simp),if_pos rfl,if_pos rfl,if_pos rfl];exact⟨i1,i2,i3⟩
   ·have q':¬kP k'=kP p:=fun z=>q (Dj z);rw[aaT (by simpa using q'),if_neg q,if_neg q,if_neg q'];exact⟨by rw[gc,gc,i1],⟨h.1,i2⟩,by rw[gc];exact .cons h0 i3⟩
section
variable{X:Cx}{BU:List (Addr×Obj)}{σ:L2.St}{H:Hp}{s:Shared}{a b:Addr}{kvs:List (List Key×V)}{ts:List Addr}{k:List Key}{A:Around}{E:Value->Shared->Prop}
theorem UW{v:V}{Q:Value->Shared->Prop}(hu:A.units+1<cLine)(I:Inv X BU σ H s)(e:H a=some (.dT kvs ts))(eb:H b=some (.tup (k.map kV)))(l:mL kvs k=some v)
  (h:∀w' s',Inv X BU σ (upd H a (.dT (ki kvs k) (u_ kvs ts k))) s'->RelV v w'->Q w' s'):wpAny (model X.prog X.w) A (call (.builtin "dict.pop") [.ref a,.ref b]) Q E s:=by
 obtain⟨z,hd,xs,rel,dd⟩:=LD I.hok e;obtain⟨w',hw,rw'⟩:=rz.some_of (v:=v) (o:=(atKey xs k).map (·.2)) (by rw[<- l];exact rel.val k);obtain⟨p,hp,rfl⟩:=Option.map_eq_some_iff.mp hw;have hz:xs.length<=sizeLine:=by rw[<- Paired.length rel];exact z
 have hts:xs.map (·.2.1)=ts:=by
  obtain⟨_,_,xs2,_,o2,es2,ep2,g1,g2,g3,g4,g5,g6⟩:=(show bR X.prog X.w H s.heap a (.dT kvs ts) from I.hok a _ e)
  exact GI dd g1 g3 g4 g6
 refine call_meetsIn abS dd.typeIs PySem.F.entry_dict_pop (PySem.F.args_dict_pop_2 _ _) (Pz.G_ (tupleKind (bB X.prog X.w)) a b)
  ⟨tupleKind_room_in1 hu,k,xs,p,rC I.hok eb,dd,hz,hp,fun h' dd' hs=>h _ _ ?_ rw'⟩
 obtain⟨q,es,ep,hq,h2,h3,h4,_,h5⟩:=dd';obtain⟨d1,d2⟩:=KT.drop rel k;refine uP I (by rw[e];exact abl) hs ⟨q,hq⟩ ⟨aaE (Eo kvs k) z,hd,_,d1.keeps fun c ys ec=>?_,q,es,ep,hq,h2,h3,h4,h5,?_⟩
 ·rw[aM (Rw ec e (fun z=>nomatch z))];exact ec
 ·rw[d2,hts]
theorem Qq{Q:Value->Shared->Prop}(I:Inv X BU σ H s)(e:H a=some (.dT kvs ts))(hh:(kvs.map fun kv=>(tupleKind (bB X.prog X.w)).hash kv.1).Nodup)(h:∀p s',H p=none->Inv X BU σ (upd H p (.dT kvs ts)) s'->Q (.ref p) s'):wpAny (model X.prog X.w) A (call (.type "dict") [.ref a]) Q E s:=by
 obtain⟨z,hd,xs,rel,dd⟩:=LD I.hok e;have hts:xs.map (·.2.1)=ts:=by
  obtain⟨_,_,xs2,_,o2,es2,ep2,g1,g2,g3,g4,g5,g6⟩:=(show bR X.prog X.w H s.heap a (.dT kvs ts) from I.hok a _ e)
  exact GI dd g1 g3 g4 g6
 have keys:∀{l:List (List Key×V)} {m:List (List Key×Addr×Value)},KT H l m->l.map (·.1)=m.map (·.1):=by
  intro l m q
  induction q with
  |nil=>rfl
  |cons hq _ ih=>rw[gc,gc,ih,hq.1]
 have hh':(xs.map fun x=>(tupleKind (bB X.prog X.w)).hash x.1).Nodup:=by
  have:(xs.map fun x=>(tupleKind (bB X.prog X.w)).hash x.1)=(xs.map (·.1)).map (tupleKind (bB X.prog X.w)).hash:=by rw[aaN];rfl
  rw[this,<- keys rel,aaN];exact hh
 refine Pz.Hg hd dd (by rw[<- Paired.length rel];exact z) hh' fun h' dd' hs=>?_;obtain⟨q,es,ep,hq,h2,h3,h4,_,h5⟩:=dd';have hf:=I.hok.fresh (aab s.heap.objs.size);refine h _ _ hf (I.laid (a:=s.heap.objs.size) (o:=.dT kvs ts) (t':=s.toks) (fun b q hq=>?_) (aab _) ⟨z,beq_eq_false_iff_ne.mpr (Ne.symm (aax I.big)),xs,rel.keeps fun c ys ec=>?_,q,es,ep,hq,h2,h3,h4,h5,hts⟩)
 ·exact(hs.2 b (aax (aad hq))).trans (aac _ hq)
 ·rw[aM (fun z=>by rw[z,hf]at ec;cases ec)];exact ec
end
section
variable{P:Program}{kvs:List (List Key×V)}{w:World}{ks:List (Int×Int)}{X:Cx}
noncomputable def hp(i j:Nat):Int:=reduceHash (ab1 [hashInt (i:Int),hashInt (j:Int)])
theorem UX:((aas 400).map fun n=>hp (n / 20) (n % 20)).Nodup:=by decide +kernel
theorem KC{i j i' j':Nat}(h1:i<20)(h2:j<20)(h3:i'<20)(h4:j'<20)(e:hp i j=hp i' j'):i=i'/\j=j':=by
 have a1:∀{i j:Nat},i<20->j<20->((aas 400).map fun n=>hp (n / 20) (n % 20))[20*i+j]?=some (hp i j):=fun {i j} h1 h2=>by rw[aao,abb (by lia)];show some (hp ((20*i+j) / 20) ((20*i+j) % 20))=some _;rw[show (20*i+j) / 20=i by lia,show (20*i+j) % 20=j by lia]
 have:=(List.getElem?_inj (by rw[Pa,aaM];lia) UX).mp ((a1 h1 h2).trans ((congrArg some e).trans (a1 h3 h4).symm))
 lia
theorem M0{K:Type}[DecidableEq K](kd:KeyKind P w K)(ks:List K):(tupleKind kd).hash ks=reduceHash (ab1 (ks.map kd.hash)):=rfl
theorem EV(i:Int):(bB P w).hash (.inl i)=hashInt i:=rfl
theorem Jb(p:Int×Int):(tupleKind (bB P w)).hash (kP p)=reduceHash (ab1 [hashInt p.1,hashInt p.2]):=by rw[M0];unfold kP;rw[gc,gc,abw,EV,EV]
theorem M3{f:List Key->Int}(hf:∀p q:Int×Int,(0<=p.1/\p.1<20/\0<=p.2/\p.2<20)->(0<=q.1/\q.1<20/\0<=q.2/\q.2<20)->f (kP p)=f (kP q)->p=q)(e:kvs.map (·.1)=ks.map kP)(hs:Dm.oX ks=true)(hn:(kvs.map (·.1)).Nodup):(kvs.map fun kv=>f kv.1).Nodup:=by
 have h1:(kvs.map fun kv=>f kv.1)=ks.map fun p=>f (kP p):=by have:=congrArg (List.map f) e;rw[aaN,aaN]at this;exact this
 rw[h1];have hk:ks.Nodup:=by rw[e]at hn;exact(acF.mp hn).imp fun {a b} h q=>h (by rw[q])
 refine acF.mpr (acu.imp_of_mem ?_ hk);intro a b ha hb ne q;exact ne (hf a b (of_decide_eq_true (aa1.mp hs a ha)) (of_decide_eq_true (aa1.mp hs b hb)) q)
theorem EW(p q:Int×Int)(h1:0<=p.1/\p.1<20/\0<=p.2/\p.2<20)(h2:0<=q.1/\q.1<20/\0<=q.2/\q.2<20)(e:(tupleKind (bB P w)).hash (kP p)=(tupleKind (bB P w)).hash (kP q)):p=q:=by
 rw[Jb,Jb]at e;obtain⟨p1,p2⟩:=p;obtain⟨q1,q2⟩:=q;obtain⟨i,rfl⟩:∃i:Nat,p1=(i:Int):=⟨p1.toNat,by lia⟩
 obtain⟨j,rfl⟩:∃i:Nat,p2=(i:Int):=⟨p2.toNat,by lia⟩
 obtain⟨i',rfl⟩:∃i:Nat,q1=(i:Int):=⟨q1.toNat,by lia⟩
 obtain⟨j',rfl⟩:∃i:Nat,q2=(i:Int):=⟨q2.toNat,by lia⟩
 dsimp only at h1 h2 e;have e2:hp i j=hp i' j':=by unfold hp;exact e
 obtain⟨rfl,rfl⟩:=KC (by lia) (by lia) (by lia) (by lia) e2;rfl
theorem EX(e:kvs.map (·.1)=ks.map kP)(hs:Dm.oX ks=true)(hn:(kvs.map (·.1)).Nodup):(kvs.map fun kv=>(tupleKind (bB P w)).hash kv.1).Nodup:=M3 EW e hs hn
theorem Hi:iz X (.type "dict") (fun xs H Q=>∃a kvs ts ks,xs=[.ref a]/\H a=some (.dT kvs ts)/\kvs.map (·.1)=ks.map kP/\Dm.oX ks=true/\∀p,H p=none->Q (.ref p) (upd H p (.dT kvs ts))):=by
 intro BU s σ H xs us Q I r h;obtain⟨a,kvs,ts,ks,rfl,ha,ek,hs,k⟩:=h;obtain⟨u,rfl,rx⟩:=vals1 r;cases rx;have hn:(kvs.map (·.1)).Nodup:=by
  obtain⟨_,_,xs2,rel,o2,es2,ep2,g1,g2,g3,g4,g5,g6⟩:=(show bR X.prog X.w H s.heap a (.dT kvs ts) from I.hok a _ ha)
  have keys:∀{l:List (List Key×V)} {m:List (List Key×Addr×Value)},KT H l m->l.map (·.1)=m.map (·.1):=by
   intro l m q
   induction q with
   |nil=>rfl
   |cons hq _ ih=>rw[gc,gc,ih,hq.1]
  rw[keys rel];exact g5
 exact Qq I ha (EX ek hs hn) fun p s' hp I'=>⟨.ref p,_,I',rfl,k p hp⟩
theorem M4:CallD (fun xs H Q=>∃a kvs ts ks,xs=[.ref a]/\H a=some (.dT kvs ts)/\kvs.map (·.1)=ks.map kP/\Dm.oX ks=true/\∀p,H p=none->Q (.ref p) (upd H p (.dT kvs ts))) Dm.wF:=by
 intro H0 H vs ds z Q s rs e k;unfold Dm.wF at e;split at e
 ·rename_i ks vs';split at e
  case isFalse=>cases e
  rename_i hs;cases e;cases rs with
  |cons r rr=>cases rr;obtain⟨a,x,rfl,ha,ek,rs⟩:=mS s r;exact⟨a,x.1,x.2,ks,rfl,ha,ek.1,hs,fun p hp=>k _ _ _ (bG.uQ s hp) ⟨p,rfl,hp,s.free hp,x,aQ,ek,rs⟩⟩
 ·cases e
def M5(td ty:TE):TE:=fun σ H Q=>td σ H fun x H1=>∃a,x=.ref a/\IsD H1 a/\ty σ H1 fun y H2=>∃kvs ts k b v,H2 a=some (.dT kvs ts)/\y=.ref b/\H2 b=some (.tup (k.map kV))/\mL kvs k=some v/\Q v (upd H2 a (.dT (ki kvs k) (u_ kvs ts k)))
theorem M6{o e:Expr}{Nd cpos:Pos}{td ty:TE}(hu:X.A.units+1<cLine)(ho:PE X o td)(he:PE X e ty)(m:M1 X o "pop" Nd e cpos):PE X (.Call (.Attribute o "pop" Nd) [e] [] cpos) (M5 td ty):=by intro BU s σ H Q I h;refine wpAny_Call_method m.base m.few m.line ab6 abS PySem.F.type_dict_pop (thn (ho BU s σ H _ I h) fun u s1 ⟨x,H1,I1,rx,a,ex,d,q1⟩=>?_);subst ex;obtain rfl:u=aaB a:=rx;obtain⟨t1,t2,_⟩:=GK I1 d;refine⟨t1,t2,?_⟩;rw[m.trees];refine abQ rfl (abU (ab3 (thn (he BU s1 σ H1 _ I1 q1) fun iv s2 ⟨y,H2,I2,ry,kvs,ts,k,b,v,ea,ey,eb,l,q2⟩=>abR ?_)));subst ey;cases (show iv=aaB b from ry);exact UW hu I2 ea eb l fun w' s3 I3 rw'=>⟨v,_,I3,rw',q2⟩
end
section
variable{σ:L2.St}{H:Hp}{Q:VK}
theorem Qs{i:Nat}{f:FE}(h:tD (Dm.rN i f) σ H Q):M5 (v9 i) (tD f) σ H Q:=by
 obtain⟨H0,ρ,x,ρ',st,e,k⟩:=h;unfold Dm.rN at e;split at e
 case h_2=>cases e
 rename_i ks0 vs0 h0;split at e
 case h_2=>cases e
 rename_i m n ρ1 e1;split at e
 case h_2=>cases e
 rename_i ks vs h1;split at e
 case h_2=>cases e
 rename_i d hl;cases e;obtain⟨a0,q0,n0,y0,yy0,_⟩:=st.ow i _ h0;refine⟨_,q0,a0,rfl,.inr ⟨y0.1,y0.2,.inl yy0⟩,H0,ρ,_,ρ1,st,e1,fun u H1 Hb t1 r1=>?_⟩;obtain⟨b,rfl,hb⟩:=mT t1.st.same (.inl r1);obtain⟨a,q,n',w⟩:=t1.st.ow i _ h1;rw[q0]at q;cases q;obtain⟨y,yy,ek,rs⟩:=w;rcases oW (m,n) ek.1 rs with⟨d',v,l1,l2,r⟩ | ⟨l1,_⟩
 ·rw[hl]at l1;cases l1;obtain⟨p1,p2,p3⟩:=EU (m,n) ek.1 ek.2 rs;have ow:aJ σ ρ1 a0:=⟨i,_,h1,q0⟩
  exact⟨y.1,y.2,kP (m,n),b,v,yy,rfl,t1.st.same _ _ hb,l2,k v H1 _ ⟨t1.st.write h1 q0 ⟨(ki y.1 (kP (m,n)),u_ y.1 y.2 (kP (m,n))),aQ,⟨p1,p2⟩,p3⟩,t1.stp.trans (Stp.write ow) fun b z=>.inl (t1.own b z),fun b z=>t1.own b (cZ h1 z),fun j z=>trivial⟩ r⟩
 ·rw[hl]at l1;cases l1
theorem Qu{fo fi:FE}(h:tD (Dm.wD fo fi) σ H Q):GL (tD fo) (tD fi) σ H Q:=by
 obtain⟨H0,ρ,x,ρ',st,e,k⟩:=h;unfold Dm.wD at e;split at e
 ·cases e
 rename_i x1 ρ1 e1;split at e
 case h_2=>cases e
 rename_i ks0 vs0 p0;split at e
 ·cases e
 rename_i y1 ρ2 e2;split at e
 case h_2=>cases e
 rename_i ks vs p1;split at e
 case h_2=>cases e
 rename_i i j p2;cases e;refine⟨H0,ρ,x1,ρ1,st,e1,fun v H1 Hb t1 r1=>?_⟩;obtain⟨a,x0,rfl,qa0,_,_⟩:=mS t1.st.same (r1.look t1.st p0);refine⟨a,rfl,.inr ⟨x0.1,x0.2,.inl qa0⟩,H1,ρ1,y1,_,t1.st,e2,fun u H2 Hc t2 r2=>?_⟩;obtain⟨b,rfl,hb⟩:=mT t2.st.same (r2.look t2.st p2);obtain⟨a',x1,ea,qa,ek,rs⟩:=mS t2.st.same ((r1.mono t2).look t2.st p1);cases ea;refine⟨_,j8.t (k:=kP (i,j)) qa (t2.st.same _ _ hb),k _ H2 Hc (t1.trans t2) ?_⟩;rcases oW (i,j) ek.1 rs with⟨d,w,l1,l2,r⟩ | ⟨l1,l2⟩
 ·rw[l1,l2];exact r
 ·rw[l1,l2];exact Rep.non
end
section
variable{X:Cx}{a b e:Expr}{fs:List FE}{fa fb:FE}{p pos:Pos}{k:Nat}
theorem Qv(hg:Gl X "dict")(hm:X.mg "dict" = none)(ha:DA X [e] fs)(he:starEach [e] X.env=[(false,eval e X.env)]:=by rfl)(KD:(backTo pos (starEach [] X.env)).any (·.1)=false:=by rfl):DE X (.Call (.Name "dict" p) [e] [] pos) (Dm.eB Dm.wF fs):=Mh Hi M4 (by rfl) hg hm ha (he:=he) (KD:=KD)
theorem Jc(i:Nat){x:Str}{px Nd cpos:Pos}(hr:b9 k X.A)(hb:DE X b fb)(hi:X.N[i]?=some x:=by rfl)(hv:Vis X.env.scope x:=by trivial)(hd:(x == ("__debug__" : Str))=false:=by decide)
  (R1:(x == ("__classdict__" : Str))=false:=by decide) (m:M1 X (.Name x px) "pop" Nd b cpos:=by exact⟨rfl,rfl,rfl,rfl⟩):DE X (.Call (.Attribute (.Name x px) "pop" Nd) [b] [] cpos) (Dm.rN i fb):=PE.weak (M6 (u1 hr) (kT hi hv hd R1) hb m) fun _ _ _=>Qs
theorem Qw{Nd cpos:Pos}(hr:b9 k X.A)(ha:DE X a fa)(hb:DE X b fb)(m:M1 X a "get" Nd b cpos:=by exact⟨rfl,rfl,rfl,rfl⟩):DE X (.Call (.Attribute a "get" Nd) [b] [] cpos) (Dm.wD fa fb):=PE.weak (Eu (u1 hr) ha hb m) fun _ _ _=>Qu
end
section
variable{ks:List (Int×Int)}{vs:List Dat}{ρ ρ':Dm.Env}{d:Dat}{x:Dm.Val}{H H':Hp}{i:Nat}
theorem UY(e:Dm.tkp ρ x=some (d,ρ')):Dm.tk ρ x=some (d,ρ')\/∃i ks vs,x=.slot i/\ρ[i]?=some (.ow (.dcp ks vs))/\d=.dcp ks vs/\ρ'=ρ:=by
 cases x with
 |val d'=>exact .inl e
 |new d'=>exact .inl e
 |slot i=>
  unfold Dm.tkp at e;dsimp only at e;split at e
  ·rename_i ks vs h;cases e;exact .inr ⟨i,ks,vs,rfl,h,rfl,rfl⟩
  ·rename_i d' _ h;left;unfold Dm.tk;dsimp only;rw[h];exact e
  ·rename_i d' h;left;unfold Dm.tk;dsimp only;rw[h];exact e
  ·cases e
theorem M7(e:Dm.tkp ρ x=some (d,ρ'))(h:ρ[i]?=some (.ow (.dcp ks vs))):ρ'[i]?=some (.ow (.dcp ks vs)):=by
 cases x with
 |val d'=>cases e;exact h
 |new d'=>cases e;exact h
 |slot j=>
  unfold Dm.tkp at e;dsimp only at e;split at e
  ·cases e;exact h
  ·rename_i d' hn hj;cases e;by_cases q:j=i
   ·subst q;rw[h]at hj;cases hj;exact absurd rfl (hn ks vs)
   ·rw[gV q];exact h
  ·cases e;exact h
  ·cases e
theorem Cs:∀{xs:List Dm.Val} {ρ ρ':Dm.Env} {ds:List Dat},Dm.Hh ρ xs=some (ds,ρ')->ρ[i]?=some (.ow (.dcp ks vs))->ρ'[i]?=some (.ow (.dcp ks vs))
 |[],_,_,_,e,h=>by cases e;exact h
 |x::xs,ρ,ρ',ds,e,h=>by
  unfold Dm.Hh at e;split at e
  ·cases e
  rename_i d ρ1 e1;split at e
  ·cases e
  rename_i ds' ρ2 e2;cases e;exact Cs e2 (M7 e1 h)
def XT(H0:Hp)(σ:L2.St)(ρ:Dm.Env)(v:V)(d:Dat):Prop:=Rep H0 v d\/∃(i:Nat) (b:Addr) (ks:List (Int×Int)) (vs:List Dat),d=.dcp ks vs/\v=.ref b/\ρ[i]?=some (.ow (.dcp ks vs))/\σ[i]?=some (some (.ref b))
inductive Aj(H0:Hp)(σ:L2.St)(ρ:Dm.Env):List V->List Dat->Prop
 |nil:Aj H0 σ ρ [] []
 |cons {v:V} {d:Dat} {vs:List V} {ds:List Dat}:XT H0 σ ρ v d->Aj H0 σ ρ vs ds->Aj H0 σ ρ (v::vs) (d::ds)
theorem Hj{Hs H0s H0 H:Hp}{σ:L2.St}{ρs:Dm.Env}:∀{xs:List Dm.Val} {vs:List V} {ρ ρ':Dm.Env} {ds:List Dat} {H0c:Hp},ESt σ ρs H0s Hs ρ H0c H->aO H0 H0c->ko Hs H0 H σ ρ vs xs->Dm.Hh ρ xs=some (ds,ρ') ->
  ∃rH,ESt σ ρs H0s Hs ρ' rH H/\aO H0c rH/\Aj rH σ ρ' vs ds
 |[],_,ρ,ρ',ds,H0c,t,b,r,e=>by cases r;cases e;exact⟨H0c,t,aO.refl _,.nil⟩
 |x::xs,_,ρ,ρ',ds,H0c,t,b,r,e=>by
  cases r with
  |cons h r=>
   unfold Dm.Hh at e;split at e
   ·cases e
   ·rename_i d ρ1 e1;split at e
    ·cases e
    ·rename_i ds' ρ2 e2;cases e;rcases UY e1 with e1' | ⟨i,ks,vs,rfl,hi,rfl,rfl⟩
     ·obtain⟨H1,t1,b1,r1,o1,d1⟩:=take1 t b h e1';obtain⟨H2,t2,b2,r2⟩:=Hj t1 (b.trans b1) (r.rho o1 d1) e2;exact⟨H2,t2,b1.trans b2,.cons (.inl (r1.mono b2)) r2⟩
     ·obtain⟨H2,t2,b2,r2⟩:=Hj t b r e2;obtain⟨q,_⟩:=h;obtain⟨a,z,_⟩:=t.st.ow i _ hi;rw[q]at z;cases z;exact⟨H2,t2,b2,.cons (.inr ⟨i,a,ks,vs,rfl,rfl,Cs e2 hi,q⟩) r2⟩
mutual
theorem Rep.noP(hk:∀a o,H a=some o->H' a=some o\/∃kvs ts,o=.dT kvs ts):∀{v:V} {d:Dat},Rep H v d->Dm.bJ d=true->Rep H' v d
 |_,_,.non,_=>.non
 |_,_,.bl b,_=>.bl b
 |_,_,.int i,_=>.int i
 |_,_,.str x,_=>.str x
 | _,_,.tup h r,n=>.tup (by
   rcases hk _ _ h with z | ⟨_,_,z⟩
   ·exact z
   ·cases z) (bg.noP hk r (by unfold Dm.bJ at n;exact n))
 | _,_,.lst h r,n=>.lst (by
   rcases h with h | ⟨o,h⟩
   ·rcases hk _ _ h with z | ⟨_,_,z⟩
    ·exact .inl z
    ·cases z
   ·rcases hk _ _ h with z | ⟨_,_,z⟩
    ·exact .inr ⟨o,z⟩
    ·cases z) (bg.noP hk r (by unfold Dm.bJ at n;exact n))
 |_,_,.dct _ _ _,n=>by unfold Dm.bJ at n;cases n
 |_,_,.dcp _ _ _,n=>by unfold Dm.bJ at n;cases n
 |_,_,.exc _,n=>by unfold Dm.bJ at n;cases n
 |_,_,.jA _ _,n=>by unfold Dm.bJ at n;cases n
 |_,_,.fn a,_=>.fn a
theorem bg.noP(hk:∀a o,H a=some o->H' a=some o\/∃kvs ts,o=.dT kvs ts):∀{vs:List V} {ds:List Dat},bg H vs ds->Dm.lS ds=true->bg H' vs ds
 |_,_,.nil,_=>.nil
 |_,_,.cons h r,n=>by unfold Dm.lS at n;rw[aau]at n;exact .cons (Rep.noP hk h n.1) (bg.noP hk r n.2)
end
end
open Classical in
theorem M8{σ:L2.St}{H:Hp}{Q:VK}{f:List Dat->Option RV}{fs:List FE}{E:XK}(h:tD (Dm.wG f fs) σ H Q):zO (spD f) [] E (tDA fs) σ H Q:=by
 obtain⟨H0,ρ,x,ρ',st,e,k⟩:=h;unfold Dm.wG at e;split at e
 ·cases e
 rename_i xs ρ1 e1;split at e
 ·cases e
 rename_i ds ρ2 e2;split at e
 ·cases e
 rename_i z fz;split at e
 case isFalse=>cases e
 rename_i hno;injection e with e
 injection e with ea eb
 subst ea;subst eb;refine⟨H0,ρ,xs,ρ1,st,e1,fun vs H1 Hb t1 r1=>?_⟩;dsimp only;rw[aaP];obtain⟨H2,t2,b2,r2⟩:=Hj t1 (aO.refl _) r1 e2
 let B:Addr->Prop:=fun b=>∃(i:Nat) (ks:List (Int×Int)) (vs:List Dat),ρ2[i]?=some (.ow (.dcp ks vs))/\σ[i]?=some (some (.ref b))
 have hB:∀b,B b->H2 b=none/\∃kvs ts,Hb b=some (.dT kvs ts):=fun b ⟨i,ks,vs,h1,h2⟩=>by obtain⟨a,q,n,kvs,w,_⟩:=t2.st.ow i _ h1;rw[h2]at q;cases q;exact⟨n,kvs.1,kvs.2,w⟩
 let H2':Hp:=fun b=>if B b then Hb b else H2 b
 have in':∀b,B b->H2' b=Hb b:=fun b h=>if_pos h;have out':∀b,¬B b->H2' b=H2 b:=fun b h=>if_neg h;have s2:aO H2 H2':=fun b o e=>by
  by_cases q:B b
  ·rw[(hB b q).1]at e;cases e
  ·rw[out' b q];exact e
 have s2b:aO H2' Hb:=fun b o e=>by
  by_cases q:B b
  ·rw[in' b q]at e;exact e
  ·rw[out' b q]at e;exact t2.st.same _ _ e
 have rr:∀{vs:List V} {ds:List Dat},Aj H2 σ ρ2 vs ds->bg H2' vs ds:=fun {vs ds} r=>by
  induction r with
  |nil=>exact .nil
  |cons h _ ih=>
   refine .cons ?_ ih;rcases h with h | ⟨i,b,ks,vs',rfl,rfl,h1,h2⟩
   ·exact h.mono s2
   ·obtain⟨a,q,n,kvs,w,ek,rs⟩:=t2.st.ow i _ h1;rw[h2]at q;cases q;exact .dcp (by rw[in' _ ⟨i,ks,vs',h1,h2⟩];exact w) (ek.mono s2) (rs.mono s2)
 refine⟨H2',ds,z,s2b,rr r2,fz,fun w H3 Hd g3 r3=>?_⟩
 let H3':Hp:=fun b=>if B b then none else H3 b
 have in3:∀b,B b->H3' b=none:=fun b h=>if_pos h;have Ag:∀b,¬B b->H3' b=H3 b:=fun b h=>if_neg h;have gr:bG H2 Hb H3' Hd:=⟨fun b o e=>by
   by_cases q:B b
   ·rw[(hB b q).1]at e;cases e
   ·rw[Ag b q];exact g3.s0 _ _ (s2 _ _ e),g3.s1,fun b o e=>by
   by_cases q:B b
   ·rw[in3 b q]at e;cases e
   ·rw[Ag b q]at e;rcases g3.s2 b o e with y | y
    ·exact .inl y
    ·rw[out' b q]at y;exact .inr y,fun b o e=>by
   by_cases q:B b
   ·rw[in3 b q]at e;cases e
   ·rw[Ag b q]at e;exact g3.s3 _ _ e⟩
 have hk:∀a o,H3 a=some o->H3' a=some o\/∃kvs ts,o=.dT kvs ts:=fun a o e=>by
  by_cases q:B a
  ·obtain⟨_,kvs,ts,y⟩:=hB a q;have:=g3.s0 a _ ((in' a q).trans y);rw[e]at this;exact .inr ⟨kvs,ts,Option.some.inj this⟩
  ·exact .inl (by rw[Ag a q];exact e)
 have r3':C5 Hb H3' Hd w z:=by
  cases z with
  |val d=>exact Rep.noP hk r3 hno
  |new d=>
   obtain⟨a,ea,n,n0,w'⟩:=r3;refine⟨a,ea,n,?_,?_⟩
   ·by_cases q:B a
    ·exact in3 a q
    ·rw[Ag a q];exact n0
   ·cases d with
    |lst ds'=>obtain⟨ys,y1,y2⟩:=w';exact⟨ys,y1,bg.noP hk y2 (by have:Dm.bJ (.lst ds')=true:=hno;unfold Dm.bJ at this;exact this)⟩
    |dct ks ds'=>have:Dm.bJ (.dct ks ds')=true:=hno;unfold Dm.bJ at this;cases this
    |dcp ks ds'=>have:Dm.bJ (.dcp ks ds')=true:=hno;unfold Dm.bJ at this;cases this
    |_=>exact w'.elim
 exact k w H3' Hd (t2.trans (.grow t2.st gr)) ((r3'.toV t2.st).early fun a n=>t2.stp.gone n)
section
variable{X:Cx}{e b:Expr}{es:List Expr}{fs:List FE}{fb:FE}{p pos:Pos}
theorem oY{k:Nat}{F:Addr}{fd:FuncData}{ps:List Str}{g:List Dat->Option RV}{x:Str}(G:bI X.prog X.w X.K X.mg X.base CX0 k F fd ps (spD g))(hr:b9 k X.A)(hg:Gl X x)(hm:X.mg x=some (.ref F))(hk:aaW X.K (.ref F)=true)(hb:Binds X.K fd ps [])
  (ha:DA X (e::es) fs) (XW:(x == ("__debug__" : Str))=false:=by decide) (he:starEach (e::es) X.env=(false,eval e X.env)::starEach es X.env:=by rfl) (KD:(backTo pos (starEach es X.env)).any (·.1)=false:=by rfl) :
  DE X (.Call (.Name x p) (e::es) [] pos) (Dm.wG g fs):=PE.weak (zq G hr hg hm hk hb .nil (En (X:=X)) ha XW he KD) fun _ _ _=>M8
end
theorem Qx{σ:L2.St}{H:Hp}{D:Ends}{j own:Nat}{fi:Dm.FI}{bd:Dm.FB}{g:TG}{is:List Nat}{U1:Dm.FN}{gs:FS}{T:TS}(hT:∀D σ H,tDN j U1 { D with nx:=tDS gs D } σ H->T D σ H)(hb:BD is g bd)(hl:∀i∈is,σ.length<=i)(hj:j<σ.length)(h:tDS (Dm.aR (Dm.k9 j fi own bd U1) gs) D σ H) :
  Gy (Ef (tLC (tDI fi) own g L5 (Lv CU)) (nX j)) T D σ H:=by
 obtain⟨H0,ρ,o,st,e,k⟩:=h;obtain⟨ρ9,e9,e⟩:=IZ (fun z q=>by obtain⟨_,_,_,_,_,_,_,_,_,_,z⟩:=qD q;exact⟨_,z⟩) e;obtain⟨ds,ρ1,ρ2,ρ3,r3,hj0,e1,hsz,e2,e3,z9⟩:=qD e9;cases z9;refine⟨H0,ρ,ds,ρ1,st,e1,fun J H00 Hb t1 jw L hL=>EN (Q:=fun x H1=>nX j x σ H1 (T D)) hb hl t1.st jw hsz e2 L hL fun H0' H' ps st' sp' ho' hDl n0 nd hps hro=>?_⟩;have nL:¬aJ σ ρ1 L:=t1.st.cS hL;have om:∀a,aJ (σ.set j (some (.ref L))) ((ρ2.take ρ1.length).set j .un) a->aJ σ (ρ2.take ρ1.length) a:=fun a ⟨i,d,h1,h2⟩=>by
  rcases bH h1 with⟨_,z⟩ | ⟨hij,h1⟩
  ·cases z
  ·rw[gV (Ne.symm hij)]at h2;exact⟨i,d,h1,h2⟩
 have st2:a_ H0' H' (σ.set j (some (.ref L))) ((ρ2.take ρ1.length).set j .un):={
  same:=st'.same
  len:=by rw[aaC,aaC];exact st'.len
  sh:=fun i d h=>by
   rcases bH h with⟨_,z⟩ | ⟨hij,h⟩
   ·cases z
   ·obtain⟨v,q,r⟩:=st'.sh i d h;exact⟨v,by rw[gV (Ne.symm hij)];exact q,r⟩
  ow:=fun i d h=>by
   rcases bH h with⟨_,z⟩ | ⟨hij,h⟩
   ·cases z
   ·obtain⟨v,q,r⟩:=st'.ow i d h;exact⟨v,by rw[gV (Ne.symm hij)];exact q,r⟩
  dis:=fun i i' d d' a h1 h2 h3 h4=>by
   rcases bH h1 with⟨_,z⟩ | ⟨q1,h1⟩
   ·cases z
   rcases bH h2 with⟨_,z⟩ | ⟨q2,h2⟩
   ·cases z
   rw[gV (Ne.symm q1)]at h3;rw[gV (Ne.symm q2)]at h4;exact st'.dis i i' d d' a h1 h2 h3 h4 }
 have sp:Stp (aJ σ ρ) H0 H H0' H':=t1.stp.trans sp' fun a z=>.inl (t1.own a z);have n:NS j σ ρ H0 H (σ.set j (some (.ref L))) ((ρ2.take ρ1.length).set j .un) H0' H' (Dp ds.length []):=
  ⟨st2,sp,fun a z=>.inl (t1.own a (ho' a (om a z))),gV hj0,L,ps,aap hj,t1.stp.gone hL,n0,fun z=>nL (ho' L (om L z)),hDl,nd,fun p hp=>⟨t1.stp.gone (hps p hp).1,(hps p hp).2,fun z=>t1.st.cS (hps p hp).1 (ho' p (om p z))⟩,hro⟩
 refine hT _ _ _ ⟨σ,ρ,H0,H,H0',_,_,ρ3,r3,n,e3,fun σ4 H4 Hd n4 _=>?_⟩;obtain⟨H5,t5⟩:=n4.done;exact⟨H5,_,o,t5.st,e,k.pre t5⟩
section
variable{X:Cx}{HJ:List Stmt}{pos:Pos}
section
variable{is:List Nat}{scope:Scope}{fi:Dm.FI}{bd:Dm.FB}
theorem ZN{J:Nat}(j:Nat)(nm own:List Str){tg iter U0:Expr}{Sl:List Expr}{t:FT}{f:FE}{y:Str}{py R4:Pos}(hN:X.N.Nodup)(hg:TGc X nm scope own tg is bd)(hi:DI X tg iter fi)(ht:∀cl C s H fp,DTs (b4 X nm scope own cl C s H fp) Sl t)(he:∀cl C s H fp,DE (b4 X nm scope own cl C s H fp) U0 f)
  (hc:X.calm=true:=by rfl) (hk:scope.kind=.function:=by rfl) (hS:uY X.env.scope X.N nm scope=true:=by rfl) (hl:(is.all fun i=>decide (X.N.length<=i))=true:=by rfl) (hj:X.N[j]?=some y:=by rfl) (hy:Loc X.env.scope y:=by trivial)
  (hsw:swapsWith (.ListComp U0 [⟨tg,iter,Sl,0⟩] scope pos) (some (.Name y py)) R4.line X.env=pure true:=by rfl) (hs:∀x,foldedSetIterable iter X.env x=pure x:=by intro _;rfl)
  (hf:X.fn y=true\/X.env.scope.names.lookup y=some .local:=by trivial):DN X J (.Assign [.Name y py] (.ListComp U0 [⟨tg,iter,Sl,0⟩] scope pos) R4) (Dm.nA J j (Dm.dY fi own.length bd t f)):=by
 obtain⟨g,h1,h2⟩:=hg.ex;intro BU s σ H D I h;exact jU hN hj hy hc (iH.of hS hk) hi h1 ht he hsw hs hf BU s σ H D I (C8 h2 (fun i hi=>by rw[I.len];exact z5 hl i hi) (ZH h))
theorem Qy(j:Nat)(nm own:List Str){y:Str}{py R4 G5:Pos}{tg iter:Expr}{l1 l2:Dm.FN}{gs:FS}{st1 st2:Stmt}(hN:X.N.Nodup)(hg:TGc X nm scope own tg is bd)(hi:DI X tg iter fi)(hl1:DN X j st1 l1)(hl2:DN X j st2 l2)(hre:DSs X HJ gs)
  (hc:X.calm=true:=by rfl) (hk:scope.kind=.function:=by rfl) (hS:uY X.env.scope X.N nm scope=true:=by rfl) (hl:(is.all fun i=>decide (X.N.length<=i))=true:=by rfl) (hj:X.N[j]?=some y:=by rfl) (hy:Loc X.env.scope y:=by trivial)
  (hsw:swapsWith (.ListComp (.List [] G5) [⟨tg,iter,[],0⟩] scope pos) (some (.Name y py)) R4.line X.env=pure true:=by rfl) (hs:∀y,foldedSetIterable iter X.env y=pure y:=by intro _;rfl)
  (hf:X.fn y=true\/X.env.scope.names.lookup y=some .local:=by trivial) :
  DSs X (.Assign [.Name y py] (.ListComp (.List [] G5) [⟨tg,iter,[],0⟩] scope pos) R4::st1::st2::HJ) (Dm.aR (Dm.k9 j fi own.length bd (Dm.yG l1 l2)) gs):=by
 obtain⟨g,h1,h2⟩:=hg.ex;have h:=kU (jU hN hj hy hc (iH.of hS hk) hi h1 (fun cl C s H fp=>C9) (fun cl C s H fp=>GC (pos:=G5) oz) hsw hs hf) (kU hl1 (kU hl2 hre));intro BU s σ H D I q;exact h BU s σ H D I (Qx (fun D σ H z=>ML z) h2 (fun i hi=>by rw[I.len];exact z5 hl i hi) (by rw[I.len];exact(aag.mp hj).1) q)
end
end
section
variable{X:Cx}{a b:Expr}{fa fb:FE}{pos:Pos}{k:Nat}
theorem Hl(hr:b9 k X.A)(ha:DE X a fa)(hb:DE X b fb)(hm:behindInMarks .In b=false:=by rfl):DT X (.Compare a [.In] [b] pos) (Dm.tV (Dm.e2 Dm.qX fa fb)):=PT.weak (Gx (LH (u1 hr) ha hb) hm) fun σ H Q h=>C6 Qm (zT h)
end
end Br
namespace Br
open PySem PySem.Spec PyProof.Rows L2
theorem vc:∀{ns:List Int} {its:List Value},Vals (ns.map V.int) its->IntsAre its ns
 |[],_,r=>by rw[abw]at r;cases r;exact .nil
 |n::ns,_,r=>by
  rw[gc]at r;cases r with
  |cons h t=>obtain⟨k,rfl⟩:=h;exact .cons n k (vc t)
end Br
namespace Dm
noncomputable def rO:List Dat->Option RV
 | [.lst xs]=>(match x_ xs with
  |some ns=>if ns.length<=63 then some (.new (.lst ((kr (fun a b=>decide (a<b)) ns).map .int))) else none
  |none=>none)
 |_=>none
end Dm
namespace Br
open PySem PySem.Spec PyProof.Rows L2
def M9(K:Dk):List V->Hp->VK->Prop:=fun xs H Q=>∃(p:Addr) (ns:List Int),xs=[.ref p]/\SqL K H p (ns.map V.int)/\ns.length<=63 /\
 ∀(ms:List Int) (l:Addr),ms.Perm ns->ms.Pairwise (·<=·)->H l=none->Q (.ref l) (upd H l (.lst (ms.map V.int)))
theorem Ho{X:Cx}:iz X (.builtin "sorted") (M9 X.K):=by
 intro BU s σ H xs us Q I r h;obtain⟨p,ns,rfl,hq,hl,k⟩:=h;obtain⟨u,rfl,rx⟩:=vals1 r;cases rx;obtain⟨its,rv,pl,hz⟩:=I.list hq;obtain⟨o,h1,h2,n,h3⟩:=pl.isList;have hI:=vc rv;have Fp:its.length=ns.length:=by have:=rv.length;rw[Pa]at this;exact this.symm
 refine Calls.call_function_entry kind_sorted plain_sorted entry_sorted (args_sorted1 _) ?_;unfold Builtin.«sorted»;refine wpAny_bind (m:=checkCount "sorted" 1 1 _) (wpAny_pure ?_);refine wpAny_bind (wpAny_collect_seq (hsz:=by rw[aai,Fp];exact aaE hl (by decide)) p (.inl rfl) h1 h2 h3 fun h' hk=>?_);have hn:its.toArray.toList.length<=63:=by rw[List.toList_toArray,Fp];exact hl
 refine wpAny_bind (wpAny_newList ?_ (aaE hn (by decide)));have hL0:(h'.push (seqObj "list" its.toArray 0)).get? h'.objs.size=some (seqObj "list" its.toArray 0):=aaJ _ rfl;have I1:=I.kept (t':=s.toks) hk;refine wpAny_bind (wpAny_holding (wpAny_call_entry (s:={ s with heap:=h'.push (seqObj "list" its.toArray 0) }) slot_list_sort ⟨_,hL0,rfl⟩ entry_list_sort (list_sort_tree hL0 hI (by rw[Fp];lia) fun out ms a1 a2 a3=>⟨_,rfl,?_⟩) (args_list_sort _)));obtain⟨c,hc'⟩:=sortedHeap_at (out:=out) hL0;have hz2:(ms.map V.int).length<=sizeLine:=by rw[Pa,a2.length_eq];exact aaE hl (by decide)
 refine wpAny_pure ⟨_,rfl,.ref h'.objs.size,_,I1.laid (t':=s.toks) (fun b o e=>?_) (aab _) (show bR X.prog X.w _ _ _ (.lst (ms.map V.int)) from ⟨hz2,out.toList,c,kK a1,by simpa using hc'⟩),rfl,k ms _ a2 a3 (I1.hok.fresh (aab _))⟩;have lt:=aad e;rw[sortedHeap_old (aax lt) (by rw[size_push'];exact acC lt)];exact aac _ e
theorem M_{K:Dk}:CallD (M9 K) Dm.rO:=by
 intro H0 H vs ds z Q s rs e k;unfold Dm.rO at e;split at e
 ·rename_i xs;split at e
  ·rename_i ns en;split at e
   case isFalse=>cases e
   rename_i hl;cases e;cases rs with
   |cons r rr=>
    cases rr;obtain⟨a,us,rfl,ha,ra⟩:=cT s r;have eu:=z7 ra en;subst eu;refine⟨a,ns,rfl,.inl ha,hl,fun ms l pm so hp=>?_⟩;have em:ms=Dm.kr (fun a b=>decide (a<b)) ns:=Dm.oR (lt:=fun a b=>decide (a<b)) (fun a b h1 h2=>by simp at h1 h2;lia) (pm.trans (Dm.k7 _ ns).symm) (so.imp fun {a b} h=>by simp;lia)
     (Dm.kG (fun a b c h1 h2=>by simp at *;lia) (fun a b h=>by simp at *;lia) ns)
    exact k _ _ _ (bG.uQ s hp) ⟨l,rfl,hp,s.free hp,_,aQ,by rw[<- em];exact wA ms⟩
  ·cases e
 ·cases e
theorem Qz{X:Cx}{e:Expr}{fs:List FE}{p pos:Pos}(hg:Gl X "sorted")(hm:X.mg "sorted" = none)(ha:DA X [e] fs)(he:starEach [e] X.env=[(false,eval e X.env)]:=by rfl)(KD:(backTo pos (starEach [] X.env)).any (·.1)=false:=by rfl):DE X (.Call (.Name "sorted" p) [e] [] pos) (Dm.eB Dm.rO fs):=GS Ho M_ (by rfl) hg hm ha (he:=he) (KD:=KD)
end Br
namespace Ts
open PySem PyProof.Rows
variable{A:Around}{E:Value->Shared->Prop}{s:Shared}{prog:Program}{w:World}
end Ts
namespace Dm
section
variable{Q:Val->Env->Prop}{ρ:Env}{K:RV->Prop}{o p:Option Dat}{R:RV->Env->Prop}{N:Env->Prop}{B C:Env->Prop}{d:Dat}{f:List Dat->Option RV}{i j:Int}{ks:List Int}{vs:List Dat}{α:Type}{as:List FE}{ds:List Dat}{a:FE}{xs:List Val}{X Y:Prop}{g:Dat->Option RV}{e:FE}{lo hi:Option FE}{c:Bool}{ds0:List Dat}{body:FS}{v:RV}{t:FT}{ρ2 ρ3:Env}{n m:Nat}{s u:FS}{k:Int}{bd:FB}{it:FI}
def We(e:FE)(ρ:Env)(Q:Val->Env->Prop):Prop:=∃v ρ',e ρ=some (v,ρ')/\Q v ρ'
def Wt(t:FT)(ρ:Env)(Q:Bool->Env->Prop):Prop:=∃v ρ',t ρ=some (v,ρ')/\Q v ρ'
def Was(as:List FE)(ρ:Env)(Q:List Val->Env->Prop):Prop:=∃v ρ',eAs as ρ=some (v,ρ')/\Q v ρ'
def Wi(it:FI)(ρ:Env)(Q:List Dat->Env->Prop):Prop:=∃v ρ',it ρ=some (v,ρ')/\Q v ρ'
def KO(N:Env->Prop)(R:RV->Env->Prop)(B C:Env->Prop):Out->Prop
 |.nx ρ=>N ρ
 |.ret r ρ=>R r ρ
 |.bk ρ=>B ρ
 |.ct ρ=>C ρ
def Ws(s:FS)(ρ:Env)(N:Env->Prop)(R:RV->Env->Prop)(B C:Env->Prop):Prop:=∃o,s ρ=some o/\KO N R B C o
def Wr(o:Option RV)(P:RV->Prop):Prop:=∃r,o=some r/\P r
def Wif(c:Bool)(X Y:Prop):Prop:=(c=true->X)/\(c=false->Y)
def Wg1(g:Dat->Option RV)(o:Option Dat)(K:RV->Prop):Prop:=∃d v,o=some d/\g d=some v/\K v
def Wg2(g:Dat->Dat->Option RV)(o p:Option Dat)(K:RV->Prop):Prop:=∃d e v,o=some d/\p=some e/\g d e=some v/\K v
def WB(g:List Dat->Option RV)(o:Option (List Dat))(K:RV->Prop):Prop:=∃ds v,o=some ds/\g ds=some v/\K v
def WT(o:Option (List Dat×Env))(K:List Dat->Env->Prop):Prop:=∃ds ρ,o=some (ds,ρ)/\ds.length<=SZ/\K ds ρ
def WF(f:List Dat->Option RV)(ρ:Env)(xs:List Val)(Q:Val->Env->Prop):Prop:=∃ds v,pks ρ xs=some ds/\f ds=some v/\(if kj v.dat then ∃ds' ρ2,tks ρ xs=some (ds',ρ2)/\Q v.cR ρ2 else Q v.cR ρ)
def Wk(ρ:Env)(x:Val)(K:Dat->Env->Prop):Prop:=∃d ρ',tk ρ x=some (d,ρ')/\K d ρ'
def Wp(o:Option FE)(ρ:Env)(K:Option Int->Env->Prop):Prop:=∃i ρ',part o ρ=some (i,ρ')/\K i ρ'
theorem adQ(x:X):Wif true X Y:=⟨fun _=>x,fun h=>by cases h⟩
theorem adF(y:Y):Wif false X Y:=⟨fun h=>(by cases h),fun _=>y⟩
theorem adB(h:c=true)(x:X):Wif c X Y:=⟨fun _=>x,fun h'=>by rw[h]at h';cases h'⟩
theorem ads(h:c=false)(y:Y):Wif c X Y:=⟨fun h'=>(by rw[h]at h';cases h'),fun _=>y⟩
theorem adq{p:Prop}[Decidable p](x:p->X)(y:¬p->Y):Wif (decide p) X Y:=⟨fun h=>x (of_decide_eq_true h),fun h=>y (of_decide_eq_false h)⟩
theorem aa_{i:Nat}(h:ρ[i]?=some (.sh d))(q:Q (.val d) ρ):We (eV i) ρ Q:=⟨_,_,by unfold eV;rw[h],q⟩
theorem ac9{i:Nat}(h:ρ[i]?=some (.ow d))(q:Q (.slot i) ρ):We (eV i) ρ Q:=⟨_,_,by unfold eV;rw[h],q⟩
theorem ac5(q:Q (.val d) ρ):We (eC d) ρ Q:=⟨_,_,rfl,q⟩
theorem adw(h:We a ρ fun x ρ1=>Wg1 g (pk ρ1 x) fun v=>Q v.cR ρ1):We (e1 g a) ρ Q:=by obtain⟨x,ρ1,h1,d,v,h2,h3,q⟩:=h;exact⟨_,_,by unfold Dm.e1;rw[h1];dsimp only;rw[h2];dsimp only;rw[h3],q⟩
theorem ac3{g:Dat->Dat->Option RV}{a b:FE}(h:We a ρ fun x ρ1=>We b ρ1 fun y ρ2=>Wg2 g (pk ρ2 x) (pk ρ2 y) fun v=>Q v.cR ρ2):We (e2 g a b) ρ Q:=by obtain⟨x,ρ1,h1,y,ρ2,h2,d,e,v,h3,h4,h5,q⟩:=h;exact⟨_,_,by unfold Dm.e2;rw[h1];dsimp only;rw[h2];dsimp only;rw[h3];dsimp only;rw[h4];dsimp only;rw[h5],q⟩
theorem ab_{Q:List Val->Env->Prop}(q:Q [] ρ):Was [] ρ Q:=⟨_,_,rfl,q⟩
theorem m_{r:List FE}{Q:List Val->Env->Prop}(h:We a ρ fun x ρ1=>Was r ρ1 fun xs ρ2=>Q (x::xs) ρ2):Was (a::r) ρ Q:=by obtain⟨x,ρ1,h1,xs,ρ2,h2,q⟩:=h;exact⟨_,_,by unfold eAs;rw[h1];dsimp only;rw[h2],q⟩
theorem adp{g:List Dat->Option RV}(h:Was as ρ fun xs ρ1=>WB g (pks ρ1 xs) fun v=>Q v.cR ρ1):We (eB g as) ρ Q:=by obtain⟨x,ρ1,h1,d,v,h2,h3,q⟩:=h;exact⟨_,_,by unfold eB;rw[h1];dsimp only;rw[h2];dsimp only;rw[h3],q⟩
theorem adC(h:Was as ρ fun xs ρ1=>WT (tks ρ1 xs) fun ds ρ2=>Q (.val (.tup ds)) ρ2):We (gm as) ρ Q:=by obtain⟨x,ρ1,h1,ds,ρ2,h2,h3,q⟩:=h;exact⟨_,_,by unfold gm;rw[h1];dsimp only;rw[h2];dsimp only;rw[if_pos h3],q⟩
theorem adu(h:Was as ρ fun xs ρ1=>WT (tks ρ1 xs) fun ds ρ2=>Q (.new (.lst ds)) ρ2):We (gp as) ρ Q:=by obtain⟨x,ρ1,h1,ds,ρ2,h2,h3,q⟩:=h;exact⟨_,_,by unfold gp;rw[h1];dsimp only;rw[h2];dsimp only;rw[if_pos h3],q⟩
theorem adg{K:List Dat->Env->Prop}(k:K ds ρ3)(h:tks ρ xs=some (ds,ρ2))(hn:ρ2=ρ3)(hl:ds.length<=SZ):WT (tks ρ xs) K:=⟨_,_,hn▸h,hl,k⟩
theorem adb(h:Was as ρ fun xs ρ1=>WF f ρ1 xs Q):We (eF f as) ρ Q:=by
 obtain⟨x,ρ1,h1,ds,v,h2,h3,h4⟩:=h;by_cases hb:kj v.dat=true
 ·rw[if_pos hb]at h4;obtain⟨ds',ρ2,h5,q⟩:=h4;exact⟨_,_,by unfold eF;rw[h1];dsimp only;rw[h2];dsimp only;rw[h3];dsimp only;rw[if_pos hb,h5],q⟩
 ·rw[if_neg hb]at h4;exact⟨_,_,by unfold eF;rw[h1];dsimp only;rw[h2];dsimp only;rw[h3];dsimp only;rw[if_neg hb],h4⟩
theorem adf{ρ ρ2 ρ3:Env}{ds ds':List Dat}(h2:f ds=some v)(q:Q v.cR ρ3)(h1:pks ρ xs=some ds)(h3:kj v.dat=true)(h4:tks ρ xs=some (ds',ρ2))(hn:ρ2=ρ3):WF f ρ xs Q:=
 ⟨_,_,h1,h2,by rw[if_pos h3];exact⟨_,_,h4,hn▸q⟩⟩
theorem adl(h2:f ds=some v)(q:Q v.cR ρ)(h1:pks ρ xs=some ds)(h3:kj v.dat=false):WF f ρ xs Q:=
 ⟨_,_,h1,h2,by rw[if_neg (by rw[h3];decide)];exact q⟩
theorem aeB{a b:FE}(h:Wt t ρ fun c ρ1=>Wif c (We a ρ1 Q) (We b ρ1 Q)):We (eIf t a b) ρ Q:=by
 obtain⟨c,ρ1,h1,h2,h3⟩:=h;cases c with
 |true=>obtain⟨v,ρ2,h4,q⟩:=h2 rfl;exact⟨_,_,by unfold eIf;rw[h1];exact h4,q⟩
 |false=>obtain⟨v,ρ2,h4,q⟩:=h3 rfl;exact⟨_,_,by unfold eIf;rw[h1];exact h4,q⟩
def Wb(v:Val)(K:Bool->Prop):Prop:=∃c,v=.val (.bl c)/\K c
theorem ac_{K:Bool->Prop}(k:K c):Wb (.val (.bl c)) K:=⟨c,rfl,k⟩
theorem adM{a b:FE}(h:We a ρ fun v ρ1=>Wb v fun c=>Wif c (We b ρ1 Q) (Q (.val (.bl false)) ρ1)):We (oH a b) ρ Q:=by
 obtain⟨v,ρ1,h1,c,rfl,h2,h3⟩:=h;cases c with
 |true=>obtain⟨v,ρ2,h4,q⟩:=h2 rfl;exact⟨_,_,by unfold oH;rw[h1];exact h4,q⟩
 |false=>exact⟨_,_,by unfold oH;rw[h1],h3 rfl⟩
theorem aex(h:We a ρ fun v ρ1=>Wb v fun c=>Q (.val (.bl (!c))) ρ1):We (Kd a) ρ Q:=by obtain⟨v,ρ1,h1,c,rfl,h2⟩:=h;exact⟨_,_,by unfold Kd;rw[h1],h2⟩
theorem adh{Q:Bool->Env->Prop}(h:We a ρ fun v ρ1=>Wb v fun c=>Q c ρ1):Wt (tV a) ρ Q:=by obtain⟨v,ρ1,h1,c,rfl,h2⟩:=h;exact⟨_,_,by unfold tV;rw[h1],h2⟩
theorem adN{Q:Bool->Env->Prop}(h:Wt t ρ fun c ρ1=>Q (!c) ρ1):Wt (qK t) ρ Q:=by obtain⟨v,ρ1,h1,h2⟩:=h;exact⟨_,_,by unfold qK;rw[h1],h2⟩
theorem adO{t u:FT}{Q:Bool->Env->Prop}(h:Wt t ρ fun c ρ1=>Wif c (Wt u ρ1 Q) (Q false ρ1)):Wt (rB t u) ρ Q:=by
 obtain⟨c,ρ1,h1,h2,h3⟩:=h;cases c with
 |true=>obtain⟨v,ρ2,h4,q⟩:=h2 rfl;exact⟨_,_,by unfold rB;rw[h1];exact h4,q⟩
 |false=>exact⟨_,_,by unfold rB;rw[h1],h3 rfl⟩
theorem ad2{t u:FT}{Q:Bool->Env->Prop}(h:Wt t ρ fun c ρ1=>Wif c (Q true ρ1) (Wt u ρ1 Q)):Wt (tOr t u) ρ Q:=by
 obtain⟨c,ρ1,h1,h2,h3⟩:=h;cases c with
 |false=>obtain⟨v,ρ2,h4,q⟩:=h3 rfl;exact⟨_,_,by unfold tOr;rw[h1];exact h4,q⟩
 |true=>exact⟨_,_,by unfold tOr;rw[h1],h2 rfl⟩
theorem aeW{Q:Bool->Env->Prop}(h:We a ρ fun x ρ1=>∃d c,pk ρ1 x=some d/\truth d=some c/\Q c ρ1):Wt (tTr a) ρ Q:=by obtain⟨x,ρ1,h1,d,c,h2,h3,q⟩:=h;exact⟨_,_,by unfold tTr;rw[h1];dsimp only;rw[h2];dsimp only;rw[h3],q⟩
theorem aeu{Q:Bool->Env->Prop}(q:Q true ρ):Wt cz ρ Q:=⟨_,_,rfl,q⟩
theorem ada{K:Dat->Env->Prop}(k:K d ρ):Wk ρ (.val d) K:=⟨_,_,rfl,k⟩
theorem adE{K:Dat->Env->Prop}(k:K d ρ):Wk ρ (.new d) K:=⟨_,_,rfl,k⟩
theorem aec{ρ ρ':Env}{i:Nat}{K:Dat->Env->Prop}(k:K d ρ')(h:ρ[i]?=some (.ow d))(hs:ρ.set i (.sh d)=ρ'):Wk ρ (.slot i) K:=⟨_,_,by unfold tk;dsimp only;rw[h];dsimp only;rw[hs],k⟩
noncomputable def Na:Dat->Option (List Dat)
 |.lst ds=>some ds
 |.tup ds=>some ds
 |_=>none
theorem adI{Q:List Dat->Env->Prop}(h:We a ρ fun x ρ1=>Wk ρ1 x fun d ρ2=>∃ds,Na d=some ds/\Q ds ρ2):Wi (iS a) ρ Q:=by
 obtain⟨x,ρ1,h1,d,ρ2,h2,ds,hd,q⟩:=h;cases d with
 |lst xs=>cases hd;exact⟨_,_,by unfold iS;rw[h1];dsimp only;rw[h2],q⟩
 |tup xs=>cases hd;exact⟨_,_,by unfold iS;rw[h1];dsimp only;rw[h2],q⟩
 |_=>cases hd
def jx(v:Val)(K:Int->Prop):Prop:=∃i,v=.val (.int i)/\K i
theorem jx.mk{i:Int}{K:Int->Prop}(k:K i):jx (.val (.int i)) K:=⟨i,rfl,k⟩
theorem adJ{Q:List Dat->Env->Prop}(h:We a ρ fun v ρ1=>jx v fun j=>Q (ups 0 j.toNat) ρ1/\j<=BIG/\-BIG<=j):Wi (iR1 a) ρ Q:=by obtain⟨v,ρ1,h1,j,rfl,q,h2⟩:=h;exact⟨_,_,by unfold iR1;rw[h1];dsimp only;rw[if_pos h2],q⟩
theorem aeH{a b:FE}{Q:List Dat->Env->Prop}(h:We a ρ fun v ρ1=>jx v fun i=>We b ρ1 fun w ρ2=>jx w fun j=>Q (ups i (j-i).toNat) ρ2/\j<=BIG/\-BIG<=j/\i<=BIG/\-BIG<=i):Wi (iR2 a b) ρ Q:=by obtain⟨v,ρ1,h1,i,rfl,w,ρ2,h2,j,rfl,q,h3⟩:=h;exact⟨_,_,by unfold iR2;rw[h1];dsimp only;rw[h2];dsimp only;rw[if_pos h3],q⟩
theorem Wp.none{K:Option Int->Env->Prop}(k:K none ρ):Wp none ρ K:=⟨_,_,rfl,k⟩
theorem Wp.some{f:FE}{K:Option Int->Env->Prop}(h:We f ρ fun v ρ1=>jx v fun i=>K (some i) ρ1):Wp (some f) ρ K:=by obtain⟨v,ρ1,h1,i,rfl,k⟩:=h;exact⟨_,_,by unfold part;dsimp only;rw[h1],k⟩
def Wsl(o:Option Dat)(l h:Option Int)(K:Dat->Prop):Prop:=∃xs,o=some (.lst xs)/\K (.lst (cut xs l h))
noncomputable def QA{α:Type}(xs:List α)(lo hi:Option Int):List α:=(xs.drop (sIx xs.length 0 lo)).take (sIx xs.length xs.length hi-sIx xs.length 0 lo)
theorem XU(Hq:α->Dat)(xs:List α)(lo hi:Option Int):cut (xs.map Hq) lo hi=(QA xs lo hi).map Hq:=by unfold cut QA;rw[Pa,<- List.map_drop,<- List.map_take]
theorem aeI(h:We a ρ fun x ρ1=>Wp lo ρ1 fun l ρ2=>Wp hi ρ2 fun h ρ3=>Wsl (pk ρ3 x) l h fun d=>Q (.new d) ρ3):We (eSl a lo hi) ρ Q:=by obtain⟨x,ρ1,h1,l,ρ2,h2,hh,ρ3,h3,xs,h4,q⟩:=h;exact⟨_,_,by unfold eSl;rw[h1];dsimp only;rw[h2];dsimp only;rw[h3];dsimp only;rw[h4],q⟩
theorem ael(h:We a ρ fun x ρ1=>Wp lo ρ1 fun l ρ2=>Wp hi ρ2 fun h ρ3=>∃xs,pk ρ3 x=some (.tup xs)/\¬(sIx xs.length 0 l=0/\sIx xs.length xs.length h=xs.length)/\Q (.val (.tup (cut xs l h))) ρ3):We (GZ a lo hi) ρ Q:=by obtain⟨x,ρ1,h1,l,ρ2,h2,hh,ρ3,h3,xs,h4,h5,q⟩:=h;exact⟨_,_,by unfold GZ;rw[h1];dsimp only;rw[h2];dsimp only;rw[h3];dsimp only;rw[h4];dsimp only;rw[if_neg h5],q⟩
theorem adt(n:N ρ):Ws sNx ρ N R B C:=⟨_,rfl,n⟩
theorem ac4(h:Ws s ρ (fun ρ1=>Ws u ρ1 N R B C) R B C):Ws (aR s u) ρ N R B C:=by
 obtain⟨o,h1,h2⟩:=h;cases o with
 |nx ρ1=>obtain⟨o,h3,h4⟩:=h2;exact⟨o,by unfold aR;rw[h1];exact h3,h4⟩
 |ret r ρ1=>exact⟨.ret r ρ1,by unfold aR;rw[h1],h2⟩
 |bk ρ1=>exact⟨.bk ρ1,by unfold aR;rw[h1],h2⟩
 |ct ρ1=>exact⟨.ct ρ1,by unfold aR;rw[h1],h2⟩
def WA(i:Nat)(v:Val)(ρ:Env)(N:Env->Prop):Prop:=match v with
 |.new d=>N (ρ.set i (.ow d))
 |x=>Wk ρ x fun d ρ2=>N (ρ2.set i (.sh d))
theorem ac6{i:Nat}(h:We e ρ fun v ρ1=>WA i v ρ1 N)(hi:i≠0):Ws (sA i e) ρ N R B C:=by
 obtain⟨v,ρ1,h1,h2⟩:=h;cases v with
 |new d=>exact⟨.nx _,by unfold sA;rw[if_neg hi,h1],h2⟩
 |val d=>obtain⟨d',ρ2,h3,h4⟩:=h2;exact⟨.nx _,by unfold sA;rw[if_neg hi,h1];dsimp only;rw[h3],h4⟩
 |slot j=>obtain⟨d',ρ2,h3,h4⟩:=h2;exact⟨.nx _,by unfold sA;rw[if_neg hi,h1];dsimp only;rw[h3],h4⟩
theorem ac8{i:Nat}{ρ ρ2:Env}(n:N ρ2)(hs:ρ.set i (.ow d)=ρ2):WA i (.new d) ρ N:=by unfold WA;dsimp only;rw[hs];exact n
theorem adj{i:Nat}{ρ ρ2:Env}(n:N ρ2)(hs:ρ.set i (.sh d)=ρ2):WA i (.val d) ρ N:=⟨_,_,rfl,by show N _;rw[hs];exact n⟩
theorem aen{i j:Nat}{ρ ρ2:Env}(n:N ρ2)(h:ρ[j]?=some (.ow d))(hs:(ρ.set j (.sh d)).set i (.sh d)=ρ2):WA i (.slot j) ρ N:=⟨_,_,by unfold tk;dsimp only;rw[h],by show N _;rw[hs];exact n⟩
theorem adG(h:We e ρ fun _ ρ1=>N ρ1):Ws (sE e) ρ N R B C:=by obtain⟨x,ρ1,h1,n⟩:=h;exact⟨.nx _,by unfold sE;rw[h1],n⟩
def WR(v:Val)(ρ:Env)(R:RV->Env->Prop):Prop:=match v with
 |.new d=>R (.new d) ρ
 |.val d=>R (.val d) ρ
 |.slot i=>(∃d,ρ[i]?=some (.ow d)/\R (.new d) (ρ.set i .un))
theorem adi(h:We e ρ fun v ρ1=>WR v ρ1 R):Ws (sR e) ρ N R B C:=by
 obtain⟨v,ρ1,h1,h2⟩:=h;cases v with
 |new d=>exact⟨.ret _ _,by unfold sR;rw[h1],h2⟩
 |val d=>exact⟨.ret _ _,by unfold sR;rw[h1],h2⟩
 |slot i=>obtain⟨d,h3,h4⟩:=h2;exact⟨.ret _ _,by unfold sR;rw[h1];dsimp only;rw[h3],h4⟩
theorem aeS(r:R (.new d) ρ):WR (.new d) ρ R:=r
theorem ady(r:R (.val d) ρ):WR (.val d) ρ R:=r
theorem adz{i:Nat}(r:R (.new d) (ρ.set i .un))(h:ρ[i]?=some (.ow d)):WR (.slot i) ρ R:=⟨d,h,r⟩
theorem adm{a b:FS}(h:Wt t ρ fun c ρ1=>Wif c (Ws a ρ1 N R B C) (Ws b ρ1 N R B C)):Ws (sIf t a b) ρ N R B C:=by
 obtain⟨c,ρ1,h1,h2,h3⟩:=h;cases c with
 |true=>obtain⟨o,h4,q⟩:=h2 rfl;exact⟨_,by unfold sIf;rw[h1];exact h4,q⟩
 |false=>obtain⟨o,h4,q⟩:=h3 rfl;exact⟨_,by unfold sIf;rw[h1];exact h4,q⟩
theorem adV{i:Nat}(h:We e ρ fun x ρ1=>Wk ρ1 x fun d ρ2=>∃ds ρ3,ρ2[i]?=some (.ow (.lst ds))/\ρ2.set i (.ow (.lst (ds++[d])))=ρ3/\N ρ3/\ds.length<SZ)(h0:ρ[i]?=some (.ow (.lst ds0))):Ws (C3 i e) ρ N R B C:=by obtain⟨x,ρ1,h1,d,ρ2,h2,ds,ρ3,h3,h5,n,h4⟩:=h;exact⟨.nx _,by unfold C3;rw[h0];dsimp only;rw[h1];dsimp only;rw[h2];dsimp only;rw[h3];dsimp only;rw[if_pos h4,h5],n⟩
theorem Ak{i:Nat}(n:N ρ3)(h:ρ2[i]?=some (.ow (.lst ds)))(hs:ρ2.set i (.ow (.lst (ds++[d])))=ρ3)(hl:ds.length<SZ):∃ds ρ3,ρ2[i]?=some (.ow (.lst ds))/\ρ2.set i (.ow (.lst (ds++[d])))=ρ3/\N ρ3/\ds.length<SZ:=⟨_,_,h,hs,n,hl⟩
theorem aeP{i:Nat}{j e:FE}(h:We e ρ fun x ρ1=>Wk ρ1 x fun d ρ2=>(∃d0,ρ2[i]?=some (.ow d0))/\We j ρ2 fun y ρ3=>jx y fun k=>∃ds m ρ4,ρ3[i]?=some (.ow (.lst ds))/\ixN ds.length k=some m/\ρ3.set i (.ow (.lst (ds.set m d)))=ρ4/\N ρ4):Ws (Ke i j e) ρ N R B C:=by obtain⟨x,ρ1,h1,d,ρ2,h2,⟨d0,h0⟩,y,ρ3,h3,k,rfl,ds,m,ρ4,h4,h5,h6,n⟩:=h;exact⟨.nx _,by unfold Ke;rw[h1];dsimp only;rw[h2];dsimp only;rw[h0];dsimp only;rw[h3];dsimp only;rw[h4];dsimp only;rw[h5];dsimp only;rw[h6],n⟩
theorem aev{i:Nat}{j e:FE}(h:We e ρ fun x ρ1=>Wk ρ1 x fun d ρ2=>(∃d0,ρ2[i]?=some (.ow d0))/\We j ρ2 fun y ρ3=>jx y fun k=>∃ks vs ρ4,ρ3[i]?=some (.ow (.dct ks vs))/\ρ3.set i (.ow (.dct (xX ks k) (xY ks vs k d)))=ρ4/\N ρ4/\ks.length<SZ):Ws (u6 i j e) ρ N R B C:=by obtain⟨x,ρ1,h1,d,ρ2,h2,⟨d0,h0⟩,y,ρ3,h3,k,rfl,ks,vs,ρ4,h4,h5,n,h6⟩:=h;exact⟨.nx _,by unfold u6;rw[h1];dsimp only;rw[h2];dsimp only;rw[h0];dsimp only;rw[h3];dsimp only;rw[h4];dsimp only;rw[if_pos h6,h5],n⟩
theorem Dv{i:Nat}{ρ3 ρ4:Env}(n:N ρ4)(h:ρ3[i]?=some (.ow (.dct ks vs)))(hs:ρ3.set i (.ow (.dct (xX ks k) (xY ks vs k d)))=ρ4)(hl:ks.length<SZ):∃ks vs ρ4,ρ3[i]?=some (.ow (.dct ks vs))/\ρ3.set i (.ow (.dct (xX ks k) (xY ks vs k d)))=ρ4/\N ρ4/\ks.length<SZ:=⟨_,_,_,h,hs,n,hl⟩
theorem adv(h:Wi it ρ fun ds ρ1=>Ws (wg bd body ds) ρ1 N R B C):Ws (kW it bd body) ρ N R B C:=by obtain⟨ds,ρ1,h1,o,h2,h3⟩:=h;exact⟨o,by unfold kW;rw[h1];exact h2,h3⟩
theorem adx(Hq:α->Dat)(bd:FB)(body:FS)(xs:List α)(ρ:Env)(N:Env->Prop)(R:RV->Env->Prop)(B C:Env->Prop)(I:List α->List α->Env->Prop)
  (h0:I [] xs ρ) (hs:∀p x q ρ,xs=p++x::q->I p (x::q) ρ->∃ρ1,bd (Hq x) ρ=some ρ1/\Ws body ρ1 (fun ρ2=>I (p++[x]) q ρ2) R N (fun ρ2=>I (p++[x]) q ρ2)) (he:∀ρ,I xs [] ρ->N ρ):Ws (wg bd body (xs.map Hq)) ρ N R B C:=by
 have go:∀(q p:List α) (ρ:Env),xs=p++q->I p q ρ->Ws (wg bd body (q.map Hq)) ρ N R B C:=fun q=>by
  induction q with
  |nil=>intro p ρ e i;rw[aaP]at e;exact⟨.nx _,rfl,he ρ (e▸i)⟩
  |cons x q ih=>
   intro p ρ e i;obtain⟨ρ1,h1,o,h2,h3⟩:=hs p x q ρ e i;have e':xs=(p++[x])++q:=by rw[abt];exact e
   cases o with
   |nx ρ2=>obtain⟨o,h4,h5⟩:=ih _ _ e' h3;exact⟨o,by rw[gc,wg,h1];dsimp only;rw[h2];exact h4,h5⟩
   |ct ρ2=>obtain⟨o,h4,h5⟩:=ih _ _ e' h3;exact⟨o,by rw[gc,wg,h1];dsimp only;rw[h2];exact h4,h5⟩
   |bk ρ2=>exact⟨.nx _,by rw[gc,wg,h1];dsimp only;rw[h2],h3⟩
   |ret r ρ2=>exact⟨.ret _ _,by rw[gc,wg,h1];dsimp only;rw[h2],h3⟩
 exact go xs [] ρ rfl h0
theorem ade{P:RV->Prop}(b:Ws body ρ (fun _=>P (.val .non)) (fun r _=>P r) (fun _=>False) (fun _=>False))(hρ:ds.map Cell.sh++Dp m .un=ρ)(h:ds.length=n):Wr (fn n m body ds) P:=by
 obtain⟨o,h1,h2⟩:=b;cases o with
 |nx ρ1=>exact⟨_,by unfold Dm.fn;rw[if_pos h,hρ,h1],h2⟩
 |ret r ρ1=>exact⟨_,by unfold Dm.fn;rw[if_pos h,hρ,h1],h2⟩
 |bk ρ1=>exact h2.elim
 |ct ρ1=>exact h2.elim
theorem adk{o:Option RV}{r:RV}(h:Wr o fun x=>x=r):o=some r:=by obtain⟨x,h1,rfl⟩:=h;exact h1
theorem Jd(Hq:α->Dat)(p:α->Bool)(v:α->Dat)(bd:FB)(t:FT)(el:FE)(mk:Cell->Env)(hb:∀d c,bd d (mk c)=some (mk (.sh d))):∀(xs:List α) (c:Cell) (KG:List Dat),
  (∀x∈xs,t (mk (.sh (Hq x)))=some (p x,mk (.sh (Hq x))))->(∀x∈xs,p x=true->We el (mk (.sh (Hq x))) fun w ρ'=>Wk ρ' w fun d ρ''=>d=v x/\ρ''=mk (.sh (Hq x))) ->
  ∃c',nY bd t el (xs.map Hq) (mk c) KG=some (KG++(xs.filter p).map v,mk c')
 |[],c,KG,_,_=>⟨c,by simp[nY]⟩
 |x::xs,c,KG,ht,he=>by
  rw[gc,nY,hb];dsimp only;rw[ht x PU];have ht':=fun y hy=>ht y (Ds _ hy);have he':=fun y hy=>he y (Ds _ hy);by_cases h:p x=true
  ·obtain⟨w,ρ',h1,d,ρ'',h2,rfl,rfl⟩:=he x PU h;rw[h];dsimp only;rw[h1];dsimp only;rw[h2];obtain⟨c',e⟩:=Jd Hq p v bd t el mk hb xs (.sh (Hq x)) (KG++[v x]) ht' he';exact⟨c',by dsimp only;rw[e,aaT h];simp⟩
  ·rw[Bool.not_eq_true]at h;rw[h];obtain⟨c',e⟩:=Jd Hq p v bd t el mk hb xs (.sh (Hq x)) KG ht' he';exact⟨c',by dsimp only;rw[e,aaS (by rw[h];decide)]⟩
theorem ad8(h:Wt t ρ fun c' ρ'=>c'=c/\ρ'=ρ):t ρ=some (c,ρ):=by obtain⟨_,_,h1,rfl,rfl⟩:=h;exact h1
theorem aeq(Hq:α->Dat)(xs:List α)(p:α->Bool)(v:α->Dat){it:FI}{k:Nat}{t:FT}{el:FE}{ρ ρ1:Env}{Q:Val->Env->Prop}
  (q:Q (.new (.lst ((xs.filter p).map v))) ρ1) (UZ:it ρ=some (xs.map Hq,ρ1)) (hk:ρ1.length=k) (hk0:k≠0) (hl:xs.length<=SZ)
  (ht:∀x∈xs,Wt t (ρ1++[.sh (Hq x)]) fun c ρ'=>c=p x/\ρ'=ρ1++[.sh (Hq x)])
  (he:∀x∈xs,p x=true->We el (ρ1++[.sh (Hq x)]) fun w ρ'=>Wk ρ' w fun d ρ''=>d=v x/\ρ''=ρ1++[.sh (Hq x)]):We (dY it 1 (bN k) t el) ρ Q:=by
 have bd:∀(d:Dat) (c:Cell),bN k d (ρ1++[c])=some (ρ1++[.sh d]):=fun d c=>by unfold bN;rw[if_neg hk0,acg _ _ (by lia)];simp[hk]
 obtain⟨c',e⟩:=Jd Hq p v (bN k) t el (fun c=>ρ1++[c]) bd xs .un [] (fun x hx=>ad8 (ht x hx)) he;refine⟨_,_,?_,q⟩;unfold dY;rw[UZ];dsimp only;rw[if_pos (by rw[Pa];exact hl)];show (match nY _ _ _ _ (ρ1++[.un]) [] with | none=>none | some (ys,ρ2)=>some (Val.new (.lst ys),ρ2.take ρ1.length))=_;rw[e];dsimp only;rw[abO,List.take_left]
theorem aeC(Hq:α->Dat)(xs:List α)(p:α->Bool)(v:α->Dat){i:Nat}{k:Nat}{t:FT}{el:FE}{ρ:Env}{Q:Val->Env->Prop}{d:Dat}
  (q:Q (.new (.lst ((xs.filter p).map v))) ρ) (hi:ρ[i]?=some (.sh d)) (hd:Na d=some (xs.map Hq)) (hk:ρ.length=k) (hk0:k≠0) (hl:xs.length<=SZ)
  (ht:∀x∈xs,Wt t (ρ++[.sh (Hq x)]) fun c ρ'=>c=p x/\ρ'=ρ++[.sh (Hq x)])
  (he:∀x∈xs,p x=true->We el (ρ++[.sh (Hq x)]) fun w ρ'=>Wk ρ' w fun d ρ''=>d=v x/\ρ''=ρ++[.sh (Hq x)]):We (bA i 1 (bN k) t el) ρ Q:=by
 have UZ:iS (eV i) ρ=some (xs.map Hq,ρ):=by
  unfold iS eV;rw[hi];cases d with
  |lst ys=>cases hd;rfl
  |tup ys=>cases hd;rfl
  |_=>cases hd
 obtain⟨a,ρ',h1,h2⟩:=aeq Hq xs p v (Q:=Q) q UZ hk hk0 hl ht he;refine⟨a,ρ',?_,h2⟩;unfold bA;rw[hi];exact h1
theorem aeZ(Hq:α->Dat)(xs:List α)(p:α->Bool)(v:α->Dat){i:Nat}{k:Nat}{t:FT}{el:FE}{ρ ρ1:Env}{Q:Val->Env->Prop}
  (q:Q (.new (.lst ((xs.filter p).map v))) ρ) (hi:ρ[i]?=some (.ow (.lst (xs.map Hq)))) (h1:ρ.set i .un=ρ1) (hk:ρ.length=k) (hk0:k≠0) (hl:xs.length<=SZ)
  (ht:∀x∈xs,Wt t (ρ1++[.sh (Hq x)]) fun c ρ'=>c=p x/\ρ'=ρ1++[.sh (Hq x)])
  (he:∀x∈xs,p x=true->We el (ρ1++[.sh (Hq x)]) fun w ρ'=>Wk ρ' w fun d ρ''=>d=v x/\ρ''=ρ1++[.sh (Hq x)]):We (bA i 1 (bN k) t el) ρ Q:=by
 have Fp:ρ1.length=ρ.length:=by rw[<- h1,aaC]
 have hil:i<ρ.length:=(aag.mp hi).1;have bd:∀(d:Dat) (c:Cell),bN k d (ρ1++[c])=some (ρ1++[.sh d]):=fun d c=>by unfold bN;rw[if_neg hk0,acg _ _ (by lia)];simp[hk,Fp]
 obtain⟨c',e⟩:=Jd Hq p v (bN k) t el (fun c=>ρ1++[c]) bd xs .un [] (fun x hx=>ad8 (ht x hx)) he;refine⟨_,_,?_,q⟩;unfold bA;rw[hi];dsimp only;rw[if_pos (by rw[Pa];exact hl),h1];show (match nY _ _ _ _ (ρ1++[.un]) [] with | none=>none | some (ys,ρ2)=>some (Val.new (.lst ys),(ρ2.take ρ.length).set i (.ow (.lst (xs.map Hq)))))=_;rw[e];dsimp only;rw[abO,<- Fp,List.take_left,<- h1,acW]
 congr 2
 apply abg;intro j;by_cases h:i=j
 ·subst h;rw[aap hil,hi]
 ·rw[gV h]
theorem adR{α β:Type}(Hq:α->Dat)(xs:List α)(f:α->β)(rP:β->Dat){it:FI}{k:Nat}{el:FE}{ρ ρ1:Env}{Q:Val->Env->Prop}
  (q:Q (.new (.lst ((xs.map f).map rP))) ρ1) (UZ:it ρ=some (xs.map Hq,ρ1)) (hk:ρ1.length=k) (hk0:k≠0) (hl:xs.length<=SZ)
  (he:∀x∈xs,We el (ρ1++[.sh (Hq x)]) fun w ρ'=>Wk ρ' w fun d ρ''=>d=rP (f x)/\ρ''=ρ1++[.sh (Hq x)]):We (dY it 1 (bN k) cz el) ρ Q:=
 aeq Hq xs (fun _=>true) (fun x=>rP (f x)) (by rw[abJ.mpr (fun _ _=>rfl)];rw[aaN]at q;exact q) UZ hk hk0 hl (fun _ _=>aeu ⟨rfl,rfl⟩) fun x hx _=>he x hx
theorem ad0{α β:Type}(Hq:α->Dat)(xs:List α)(f:α->β)(rP:β->Dat){i:Nat}{k:Nat}{el:FE}{ρ:Env}{Q:Val->Env->Prop}{d:Dat}
  (q:Q (.new (.lst ((xs.map f).map rP))) ρ) (hi:ρ[i]?=some (.sh d)) (hd:Na d=some (xs.map Hq)) (hk:ρ.length=k) (hk0:k≠0) (hl:xs.length<=SZ)
  (he:∀x∈xs,We el (ρ++[.sh (Hq x)]) fun w ρ'=>Wk ρ' w fun d ρ''=>d=rP (f x)/\ρ''=ρ++[.sh (Hq x)]):We (bA i 1 (bN k) cz el) ρ Q:=
 aeC Hq xs (fun _=>true) (fun x=>rP (f x)) (by rw[abJ.mpr (fun _ _=>rfl)];rw[aaN]at q;exact q) hi hd hk hk0 hl (fun _ _=>aeu ⟨rfl,rfl⟩) fun x hx _=>he x hx
theorem ad4{α β:Type}(Hq:α->Dat)(xs:List α)(f:α->β)(rP:β->Dat){i:Nat}{k:Nat}{el:FE}{ρ ρ1:Env}{Q:Val->Env->Prop}
  (q:Q (.new (.lst ((xs.map f).map rP))) ρ) (hi:ρ[i]?=some (.ow (.lst (xs.map Hq)))) (h1:ρ.set i .un=ρ1) (hk:ρ.length=k) (hk0:k≠0) (hl:xs.length<=SZ)
  (he:∀x∈xs,We el (ρ1++[.sh (Hq x)]) fun w ρ'=>Wk ρ' w fun d ρ''=>d=rP (f x)/\ρ''=ρ1++[.sh (Hq x)]):We (bA i 1 (bN k) cz el) ρ Q:=
 aeZ Hq xs (fun _=>true) (fun x=>rP (f x)) (by rw[abJ.mpr (fun _ _=>rfl)];rw[aaN]at q;exact q) hi h1 hk hk0 hl (fun _ _=>aeu ⟨rfl,rfl⟩) fun x hx _=>he x hx
theorem adH{α β:Type}(Hq:α->Dat)(xs:List α)(p:α->Bool)(f:α->β)(rP:β->Dat){i:Nat}{k:Nat}{t:FT}{el:FE}{ρ:Env}{Q:Val->Env->Prop}{d:Dat}
  (q:Q (.new (.lst (((xs.filter p).map f).map rP))) ρ) (hi:ρ[i]?=some (.sh d)) (hd:Na d=some (xs.map Hq)) (hk:ρ.length=k) (hk0:k≠0) (hl:xs.length<=SZ)
  (ht:∀x∈xs,Wt t (ρ++[.sh (Hq x)]) fun c ρ'=>c=p x/\ρ'=ρ++[.sh (Hq x)])
  (he:∀x∈xs,p x=true->We el (ρ++[.sh (Hq x)]) fun w ρ'=>Wk ρ' w fun d ρ''=>d=rP (f x)/\ρ''=ρ++[.sh (Hq x)]):We (bA i 1 (bN k) t el) ρ Q:=
 aeC Hq xs p (fun x=>rP (f x)) (by rw[aaN]at q;exact q) hi hd hk hk0 hl ht he
theorem Je(i j:Int):gEq (.int i) (.int j)=vB (decide (i=j)):=by
 have:(i == j)=decide (i=j):=by by_cases h:i=j<;>simp[h]
 show vB (i == j)=_;rw[this]
theorem Dw(i j:Int):gNe (.int i) (.int j)=vB (!decide (i=j)):=by
 have:(i == j)=decide (i=j):=by by_cases h:i=j<;>simp[h]
 show vB (!(i == j))=_;rw[this]
theorem adD(k:K (.val (.bl (decide (i=j)))))(ho:o=some (.int i))(hp:p=some (.int j)):Wg2 gEq o p K:=⟨_,_,_,ho,hp,Je i j,k⟩
theorem adS(k:K (.val (.bl (!decide (i=j)))))(ho:o=some (.int i))(hp:p=some (.int j)):Wg2 gNe o p K:=⟨_,_,_,ho,hp,Dw i j,k⟩
theorem ad5(k:K (.val (.bl (decide (i<j)))))(ho:o=some (.int i))(hp:p=some (.int j)):Wg2 gLt o p K:=⟨_,_,_,ho,hp,rfl,k⟩
theorem aek(k:K (.val (.bl (decide (j<i)))))(ho:o=some (.int i))(hp:p=some (.int j)):Wg2 gGt o p K:=⟨_,_,_,ho,hp,rfl,k⟩
theorem aez(k:K (.val (.bl (decide (j<=i)))))(ho:o=some (.int i))(hp:p=some (.int j)):Wg2 gGe o p K:=⟨_,_,_,ho,hp,rfl,k⟩
theorem adn(k:K (.val (.int (i+j))))(ho:o=some (.int i))(hp:p=some (.int j)):Wg2 cQ o p K:=⟨_,_,_,ho,hp,rfl,k⟩
theorem adL{xs ys:List Dat}(k:K (.new (.lst (xs++ys))))(ho:o=some (.lst xs))(hp:p=some (.lst ys))(h:xs.length+ys.length<=SZ):Wg2 cQ o p K:=⟨_,_,_,ho,hp,by unfold cQ;dsimp only;rw[if_pos h],k⟩
theorem adK(k:K (.val (.int (i-j))))(ho:o=some (.int i))(hp:p=some (.int j)):Wg2 uL o p K:=⟨_,_,_,ho,hp,rfl,k⟩
theorem adZ(k:K (.val (.int (i*j))))(ho:o=some (.int i))(hp:p=some (.int j))(h:(-B64<i/\i<B64)\/(-B64<j/\j<B64)):Wg2 oJ o p K:=⟨_,_,_,ho,hp,by unfold oJ;dsimp only;rw[if_pos h],k⟩
theorem aeo(k:K (.val (.int (i / j))))(ho:o=some (.int i))(hp:p=some (.int j))(h:0<j/\j<yD):Wg2 GN o p K:=⟨_,_,_,ho,hp,by unfold GN;dsimp only;rw[if_pos h],k⟩
theorem aea(k:K (.val (.int (i % j))))(ho:o=some (.int i))(hp:p=some (.int j))(h:0<j):Wg2 yE o p K:=⟨_,_,_,ho,hp,by unfold yE;dsimp only;rw[if_pos h],k⟩
theorem adY{i j z:Int}(k:K (.val (.int z)))(ho:o=some (.int i))(hp:p=some (.int j))(h:0<=j/\j<=1000000/\i.natAbs<1000000)(hz:i ^ j.toNat=z):Wg2 C4 o p K:=⟨_,_,_,ho,hp,by unfold C4;dsimp only;rw[if_pos h,hz],k⟩
theorem ac7{d e:Dat}{v:Dat}(k:K (.val v))(ho:o=some d)(hp:p=some e)(h:gIx d e=some (.val v)):Wg2 gIx o p K:=⟨_,_,_,ho,hp,h,k⟩
theorem zz(Hq:α->Dat)(xs:List α)(i:Int)(h0:0<=i)(h1:i<xs.length):atI (xs.map Hq) i=some (Hq (xs[i.toNat]'(by omega))):=by unfold atI ixN;rw[Pa,if_pos h0,if_pos h1];show (xs.map Hq)[i.toNat]?=_;rw[aao,aaI (by lia)];rfl
theorem aeN{Hq:α->Dat}{xs:List α}{i:Int}(h0:0<=i)(h1:i<xs.length)(k:K (.val (Hq (xs[i.toNat]'(by omega)))))(ho:o=some (.lst (xs.map Hq)))(hp:p=some (.int i)):Wg2 gIx o p K:=
 ⟨_,_,_,ho,hp,by unfold gIx;dsimp only;rw[zz Hq xs i h0 h1];rfl,k⟩
theorem Jf(i:Int)(xs:List Int):inD (.int i) (xs.map Dat.int)=decide (i∈xs):=by
 induction xs with
 |nil=>rfl
 |cons x xs ih=>
  have ih':(xs.map Dat.int).any (fun y=>eqD y (.int i))=decide (i∈xs):=ih;unfold inD;rw[gc,abc,ih'];show ((x == i)||_)=_;by_cases h:x=i
  ·simp[h]
  ·have h':¬i=x:=fun z=>h z.symm;simp[h,h']
theorem Nb(xs:List Int):(xs.map Dat.int).all (okD 7)=true:=by rw[aa1];intro d hd;obtain⟨x,_,rfl⟩:=aak.mp hd;rfl
theorem aeO{i:Int}{xs:List Int}(k:K (.val (.bl (decide (i∈xs)))))(ho:o=some (.int i))(hp:p=some (.lst (xs.map Dat.int))):Wg2 gIn o p K:=
 ⟨_,_,_,ho,hp,by unfold gIn;dsimp only;rw[show okD 8 (.int i)=true from rfl,Nb,Jf];rfl,k⟩
theorem aeM{i:Int}{xs:List Int}(k:K (.val (.bl (decide (i∈xs)))))(ho:o=some (.int i))(hp:p=some (.tup (xs.map Dat.int))):Wg2 gIn o p K:=
 ⟨_,_,_,ho,hp,by unfold gIn;dsimp only;rw[show okD 8 (.int i)=true from rfl,Nb,Jf];rfl,k⟩
theorem ad9{i a b:Int}(k:K (.val (.bl (decide (i=a\/i=b)))))(ho:o=some (.int i))(hp:p=some (.tup [.int a,.int b])):Wg2 gIn o p K:=
 aeM (xs:=[a,b]) (by have:(i∈[a,b])=(i=a\/i=b):=(by simp);simp only[this];exact k) ho hp
theorem ad1{i:Int}(k:K (.val (.bl (cL ks vs i).isSome)))(ho:o=some (.int i))(hp:p=some (.dct ks vs)):Wg2 EG o p K:=⟨_,_,_,ho,hp,rfl,k⟩
theorem aem{i:Int}(k:K (.val (.bl (!(cL ks vs i).isSome))))(ho:o=some (.int i))(hp:p=some (.dct ks vs)):Wg2 z6 o p K:=⟨_,_,_,ho,hp,rfl,k⟩
theorem adX{i:Int}(h:cL ks vs i=some d)(k:K (.val d))(ho:o=some (.dct ks vs))(hp:p=some (.int i)):Wg2 gDx o p K:=⟨_,_,_,ho,hp,by unfold gDx;dsimp only;rw[h];rfl,k⟩
theorem adT{xs:List Dat}{o:Option (List Dat)}(k:K (.val (.int xs.length)))(ho:o=some [.lst xs]):WB lP o K:=⟨_,_,ho,rfl,k⟩
theorem aeb{o:Option (List Dat)}(k:K (.val (.int (if j<i then j else i))))(ho:o=some [.int i,.int j]):WB Cb o K:=⟨_,_,ho,rfl,k⟩
theorem ad_{o:Option (List Dat)}(k:K (.val (.int (if j>i then j else i))))(ho:o=some [.int i,.int j]):WB Cc o K:=⟨_,_,ho,rfl,k⟩
theorem aep{xs:List Dat}{o:Option (List Dat)}(k:K (.new (.lst xs)))(ho:o=some [.lst xs]):WB xV o K:=⟨_,_,ho,rfl,k⟩
theorem ado{o:Option Dat}(k:K v)(ho:o=some d)(h:g d=some v):Wg1 g o K:=⟨_,_,ho,h,k⟩
theorem iK{xs:List Dat}{Q:List Dat->Prop}(q:Q xs):∃ds,Na (.lst xs)=some ds/\Q ds:=⟨_,rfl,q⟩
theorem ndT{p:Prop}[Decidable p](h:(!decide p)=true):¬p:=by intro z;rw[decide_eq_true z]at h;cases h
theorem ndF{p:Prop}[Decidable p](h:(!decide p)=false):p:=abF fun z=>by rw[decide_eq_false z]at h;cases h
theorem XX(Hq:α->Dat)(xs:List α)(h:∀x,okD 7 (Hq x)=true):okD 8 (.lst (xs.map Hq))=true:=by unfold okD;rw[aa1];intro d hd;obtain⟨x,_,rfl⟩:=aak.mp hd;exact h x
theorem aes{Hq:α->Dat}{xs:List α}{o:Option (List Dat)}(k:K (.val (.int xs.length)))(ho:o=some [.lst (xs.map Hq)]):WB lP o K:=⟨_,_,ho,by unfold lP;dsimp only;rw[Pa],k⟩
theorem aeK{s:FS}{N N':Env->Prop}(h:Ws s ρ N' R B C)(k:∀ρ',N' ρ'->N ρ'):Ws s ρ N R B C:=by
 obtain⟨o,h1,h2⟩:=h;cases o with
 |nx ρ1=>exact⟨.nx ρ1,h1,k _ h2⟩
 |ret r ρ1=>exact⟨.ret r ρ1,h1,h2⟩
 |bk ρ1=>exact⟨.bk ρ1,h1,h2⟩
 |ct ρ1=>exact⟨.ct ρ1,h1,h2⟩
theorem wH{i:Nat}{W:Prop}(h:ρ[i]?=some (.ow d))(w:W):(∃d0,ρ[i]?=some (.ow d0))/\W:=⟨⟨d,h⟩,w⟩
theorem aew(q:Q (.new (.dct [] [])) ρ):We eDn ρ Q:=⟨_,_,rfl,q⟩
theorem aeD{a b:FE}(h:We a ρ fun v ρ1=>jx v fun i=>We b ρ1 fun x ρ2=>Wk ρ2 x fun d ρ3=>Q (.new (.dct [i] [d])) ρ3):We (eD1 a b) ρ Q:=by obtain⟨v,ρ1,h1,i,rfl,x,ρ2,h2,d,ρ3,h3,q⟩:=h;exact⟨_,_,by unfold eD1;rw[h1];dsimp only;rw[h2];dsimp only;rw[h3],q⟩
theorem fF{ρ ρ1 ρ2:Env}{W:Env->Prop}(h:bd d ρ=some ρ1)(hn:ρ1=ρ2)(w:W ρ2):∃ρ1,bd d ρ=some ρ1/\W ρ1:=⟨ρ1,h,hn▸w⟩
theorem aeh{xs:List Dat}{o:Option (List Dat)}(k:K (.val (.tup xs)))(ho:o=some [.lst xs]):WB rD o K:=⟨_,_,ho,rfl,k⟩
noncomputable def ltI(a b:Int):Bool:=decide (a<b)
theorem Hr(ns:List Int):x_ (ns.map Dat.int)=some ns:=by
 induction ns with
 |nil=>rfl
 |cons m ms ih=>rw[gc,x_,ih];rfl
theorem BV(ns:List Int):(kr ltI ns).Pairwise (fun a b=>ltI b a=false):=kG (fun a b c h1 h2=>by simp[ltI]at *;lia) (fun a b h=>by simp[ltI]at *;lia) ns
theorem aeT{i:Nat}(h:We e ρ fun x ρ1=>∃es ds ρ3,pk ρ1 x=some (.lst es)/\ρ1[i]?=some (.ow (.lst ds))/\ρ1.set i (.ow (.lst (ds++es)))=ρ3/\N ρ3/\ds.length+es.length<=SZ)(h0:ρ[i]?=some (.ow (.lst ds0))):Ws (G0 i e) ρ N R B C:=by obtain⟨x,ρ1,h1,es,ds,ρ3,h2,h3,h5,n,h4⟩:=h;exact⟨.nx _,by unfold G0;rw[h0];dsimp only;rw[h1];dsimp only;rw[h2];dsimp only;rw[h3];dsimp only;rw[if_pos h4,h5],n⟩
theorem ad6{t:FT}{body:FS}{N:Env->Prop}{R:RV->Env->Prop}{B C:Env->Prop}(I:Nat->Env->Prop)
  (hs:∀k ρ,I k ρ->Wt t ρ fun c ρ1=>Wif c (Ws body ρ1 (fun ρ2=>∃k',k'<k/\I k' ρ2) R N (fun ρ2=>∃k',k'<k/\I k' ρ2)) (N ρ1)):∀(n k:Nat) (ρ:Env),k<n->I k ρ->Ws (whD t body n) ρ N R B C
 |0,k,_,h,_=>absurd h (Nat.not_lt_zero k)
 |n+1,k,ρ,h,i=>by
  obtain⟨c,ρ1,h1,h2,h3⟩:=hs k ρ i;cases c with
  |false=>exact⟨.nx _,by rw[whD,h1],h3 rfl⟩
  |true=>
   obtain⟨o,h4,h5⟩:=h2 rfl;cases o with
   |nx ρ2=>obtain⟨k',hk,i'⟩:=h5;obtain⟨o,h6,h7⟩:=ad6 (N:=N) (R:=R) (B:=B) (C:=C) I hs n k' ρ2 (by lia) i';exact⟨o,by rw[whD,h1];dsimp only;rw[h4];exact h6,h7⟩
   |ct ρ2=>obtain⟨k',hk,i'⟩:=h5;obtain⟨o,h6,h7⟩:=ad6 (N:=N) (R:=R) (B:=B) (C:=C) I hs n k' ρ2 (by lia) i';exact⟨o,by rw[whD,h1];dsimp only;rw[h4];exact h6,h7⟩
   |bk ρ2=>exact⟨.nx _,by rw[whD,h1];dsimp only;rw[h4],h5⟩
   |ret r ρ2=>exact⟨.ret _ _,by rw[whD,h1];dsimp only;rw[h4],h5⟩
theorem ae0{a b:FE}(h:We a ρ fun x ρ1=>(∃ks vs,pk ρ1 x=some (.dct ks vs))/\We b ρ1 fun y ρ2=>∃ks vs i,pk ρ2 x=some (.dct ks vs)/\pk ρ2 y=some (.int i)/\Q (.val ((cL ks vs i).getD .non)) ρ2):We (xZ a b) ρ Q:=by obtain⟨x,ρ1,h1,⟨ks,vs,h2⟩,y,ρ2,h3,ks',vs',i,h4,h5,q⟩:=h;exact⟨_,_,by unfold xZ;rw[h1];dsimp only;rw[h2];dsimp only;rw[h3];dsimp only;rw[h4];dsimp only;rw[h5],q⟩
theorem aeQ(k:K (.val (.bl (!isN d))))(ho:o=some d)(hp:p=some .non):Wg2 Ck o p K:=⟨_,_,_,ho,hp,by cases d<;>rfl,k⟩
theorem aed(k:K (.val (.bl (Dm.isN d))))(ho:o=some d)(hp:p=some .non):Wg2 EH o p K:=⟨_,_,_,ho,hp,by cases d<;>rfl,k⟩
theorem adW(J:Env->Prop)(h1:Ws s ρ J R B C)(h2:∀ρ',J ρ'->Ws u ρ' N R B C):Ws (aR s u) ρ N R B C:=ac4 (aeK h1 h2)
def WrM(o:Option (RV×Dat))(P:RV->Dat->Prop):Prop:=∃z d,o=some (z,d)/\P z d
theorem ad7{r:List Dat}{P:RV->Dat->Prop}(b:Ws body ρ (fun ρ'=>∃d',ρ'[0]?=some (.ow d')/\P (.val .non) d') (fun z ρ'=>∃d',ρ'[0]?=some (.ow d')/\P z d') (fun _=>False) (fun _=>False))(hρ:Cell.ow d::(r.map Cell.sh++Dp m .un)=ρ)(h:(d::r).length=n):WrM (fnM n m body (d::r)) P:=by
 obtain⟨o,h1,h2⟩:=b;cases o with
 |nx ρ1=>obtain⟨d',h3,h4⟩:=h2;exact⟨_,_,by unfold fnM;rw[if_pos h];dsimp only;rw[hρ,h1];dsimp only;rw[h3],h4⟩
 |ret z ρ1=>obtain⟨d',h3,h4⟩:=h2;exact⟨_,_,by unfold fnM;rw[if_pos h];dsimp only;rw[hρ,h1];dsimp only;rw[h3],h4⟩
 |bk ρ1=>exact h2.elim
 |ct ρ1=>exact h2.elim
def WFm(f:List Dat->Option (RV×Dat))(j:Nat)(ρ1:Env)(xs:List Val)(Q:Val->Env->Prop):Prop:=
 ∃d1 ds ρ2 d v d',ρ1[j]?=some (.ow d1)/\tks ρ1 xs=some (ds,ρ2)/\ρ2[j]?=some (.ow d)/\f (d::ds)=some (v,d')/\(if (flat v.dat&&GW d')=true then Q v.cR (ρ1.set j (.ow d')) else Q v.cR (ρ2.set j (.ow d')))
theorem aee{f:List Dat->Option (RV×Dat)}{j:Nat}{d0:Dat}(h:Was as ρ fun xs ρ1=>WFm f j ρ1 xs Q)(h0:ρ[j]?=some (.ow d0)):We (eFm f j as) ρ Q:=by
 obtain⟨xs,ρ1,h1,d1,ds,ρ2,d,v,d',h2,h3,h4,h5,q⟩:=h;by_cases c:(flat v.dat&&GW d')=true
 ·rw[if_pos c]at q;exact⟨_,_,by unfold eFm;rw[h0];dsimp only;rw[h1];dsimp only;rw[h2];dsimp only;rw[h3];dsimp only;rw[h4];dsimp only;rw[h5];dsimp only;rw[if_pos c],q⟩
 ·rw[if_neg c]at q;exact⟨_,_,by unfold eFm;rw[h0];dsimp only;rw[h1];dsimp only;rw[h2];dsimp only;rw[h3];dsimp only;rw[h4];dsimp only;rw[h5];dsimp only;rw[if_neg c],q⟩
theorem ad3{f:List Dat->Option (RV×Dat)}{j:Nat}{ρ1 ρ3:Env}{d d':Dat}(h5:f (d::ds)=some (v,d'))(q:Q v.cR ρ3)(h2:ρ1[j]?=some (.ow d))(h3:tks ρ1 xs=some (ds,ρ1))(hn:ρ1.set j (.ow d')=ρ3):WFm f j ρ1 xs Q:=
 ⟨_,_,_,_,_,_,h2,h3,h2,h5,by rw[hn];split<;>exact q⟩
theorem aef(h:Was as ρ fun xs ρ1=>∃ds ρ2 v,G4 ρ1 xs=some (ds,ρ2)/\f ds=some v/\bJ v.dat=true/\Q v.cR ρ2):We (eFd f as) ρ Q:=by obtain⟨xs,ρ1,h1,ds,ρ2,v,h2,h3,h4,q⟩:=h;exact⟨_,_,by unfold eFd;rw[h1];dsimp only;rw[h2];dsimp only;rw[h3];dsimp only;rw[if_pos h4],q⟩
theorem mU:∀(xs:List Dat),(∀x∈xs,bJ x=true)->lS xs=true
 |[],_=>by unfold lS;rfl
 |x::xs,h=>by unfold lS;rw[h x PU,mU xs fun y hy=>h y (Ds _ hy)];rfl
theorem iD(Hq:α->Dat)(xs:List α)(h:∀x,bJ (Hq x)=true):bJ (.lst (xs.map Hq))=true:=by unfold bJ;exact mU _ fun d hd=>by obtain⟨x,_,rfl⟩:=aak.mp hd;exact h x
theorem mV(i:Int):bJ (.int i)=true:=by unfold bJ;rfl
theorem Ht(xs:List Int):bJ (.lst (xs.map Dat.int))=true:=iD _ _ mV
theorem aeJ{o:Option (List Dat)}(k:K (.new (.dct ks vs)))(ho:o=some [.dct ks vs]):WB EL o K:=⟨_,_,ho,rfl,k⟩
theorem ae2{o:Option (List Dat)}(k:K (.new (.lst ((kr ltI ks).map Dat.int))))(ho:o=some [.dct ks vs])(h:ks.length<=63):WB wC o K:=⟨_,_,ho,by unfold wC;dsimp only;rw[if_pos h];rfl,k⟩
theorem aeF{i:Nat}{ρ ρ2:Env}(hl:cL ks vs k=some d)(q:Q (.val d) ρ2)(h:ρ[i]?=some (.ow (.dct ks vs)))(he:e ρ=some (.val (.int k),ρ))(hs:ρ.set i (.ow (.dct (m8 ks vs k) (m9 ks vs k)))=ρ2):We (Ad i e) ρ Q:=⟨_,_,by unfold Ad;rw[h];dsimp only;rw[he];dsimp only;rw[h];dsimp only;rw[hl];dsimp only;rw[hs],q⟩
theorem adP{ρ ρ1:Env}(h:Wi it ρ fun x y=>x=ds/\y=ρ1):it ρ=some (ds,ρ1):=by obtain⟨_,_,h1,rfl,rfl⟩:=h;exact h1
theorem aeG{a i:Nat}(h:ρ[i]?=some (.sh (.fn a)))(k:We (eF f as) ρ Q):We (eFp a i f as) ρ Q:=by obtain⟨v,ρ',e,q⟩:=k;exact⟨v,ρ',by unfold eFp;rw[h];dsimp only;rw[if_pos rfl];exact e,q⟩
end
end Dm
namespace Fl
section
variable{r:List Tie}{S:Int->Bool}{R:Int->Step->Prop}{w:List Step}{p q:Int}{a b:Int}{t:Tie}{k:Nat}
structure Tie where
 m:Int
 a:Int
 b:Int
deriving Inhabited
noncomputable def one(b:Bool):Int:=if b then 1 else 0
def Ends(t:Tie)(p q:Int):Prop:=t.a≠t.b/\((t.a=p/\t.b=q)\/(t.b=p/\t.a=q))
theorem Ends.symm(h:Ends t p q):Ends t q p:=⟨h.1,h.2.symm.imp (fun x=>⟨x.2,x.1⟩) (fun x=>⟨x.2,x.1⟩)⟩
noncomputable abbrev Hd:=Int->Option Int
noncomputable def val(o:Option Int)(t:Tie)(S:Int->Bool):Int:=
 if t.a=t.b then 0 else if o=some t.b then one (S t.a)-one (S t.b) else if o=some t.a then one (S t.b)-one (S t.a) else 0
noncomputable def bY(r:List Tie)(H:Hd)(S:Int->Bool):Int:=match r with
 |[]=>0
 |t::r=>val (H t.m) t S+bY r H S
noncomputable def put(H:Hd)(m:Int)(o:Option Int):Hd:=fun x=>if x=m then o else H x
theorem wI{H H':Hd}(h:∀t∈r,H t.m=H' t.m):bY r H S=bY r H' S:=by
 induction r with
 |nil=>rfl
 |cons t r ih=>rw[bY,bY,h t PU,ih fun u hu=>h u (Ds _ hu)]
theorem jW(nd:(r.map (·.m)).Nodup)(ht:t∈r)(H:Hd)(o:Option Int)(S:Int->Bool):bY r (put H t.m o) S=bY r H S-val (H t.m) t S+val o t S:=by
 induction r with
 |nil=>cases ht
 |cons u r ih=>
  rw[gc,aal]at nd;rcases aah.mp ht with rfl | ht'
  ·rw[bY,bY];have e1:put H t.m o t.m=o:=by unfold put;rw[if_pos rfl]
   rw[e1,wI (H:=put H t.m o) (H':=H) fun v hv=>?_]
   ·lia
   ·unfold put;rw[if_neg fun e=>?_];exact nd.1 (aak.mpr ⟨v,hv,e⟩)
  ·have X0:u.m≠t.m:=fun e=>nd.1 (aak.mpr ⟨t,ht',e.symm⟩);rw[bY,bY,ih nd.2 ht'];have e1:put H t.m o u.m=H u.m:=by unfold put;rw[if_neg X0]
   rw[e1]
   lia
theorem qE(h:Ends t p q)(S:Int->Bool):val (some q) t S=one (S p)-one (S q):=by
 obtain⟨h1,h2⟩:=h;unfold val;rw[if_neg h1];rcases h2 with⟨rfl,rfl⟩ | ⟨rfl,rfl⟩
 ·rw[if_pos rfl]
 ·rw[if_neg (by intro e;injection e with e;exact h1 e),if_pos rfl]
theorem oZ(t:Tie)(S:Int->Bool):val none t S=0:=by
 unfold val;split
 ·rfl
 ·simp
def Ok(r:List Tie)(H:Hd):Prop:=∀t∈r,∀x,H t.m=some x->x=t.a\/x=t.b
noncomputable def jX(H:Hd)(m q:Int):Hd:=put H m (if (H m).isSome then none else some q)
theorem rQ(nd:(r.map (·.m)).Nodup){H:Hd}(ok:Ok r H)(ht:t∈r)(he:Ends t p q)(hf:H t.m≠some q)(S:Int->Bool) :
  bY r (jX H t.m q) S=bY r H S+one (S p)-one (S q):=by
 unfold jX;rw[jW nd ht];cases e:H t.m with
 |none=>
  simp only[Option.isSome_none,aaU,if_false];rw[oZ,qE he]
  lia
 |some x=>
  have hx:=ok t ht x e;have:x=p:=by
   rw[e]at hf;have hxq:x≠q:=fun z=>hf (by rw[z]);obtain⟨_,h2⟩:=he
   lia
  subst this;simp only[ab4,if_true];rw[oZ,qE he.symm]
  lia
theorem uniq(nd:(r.map (·.m)).Nodup){u t:Tie}(hu:u∈r)(ht:t∈r)(e:u.m=t.m):u=t:=by
 induction r with
 |nil=>cases hu
 |cons v r ih=>
  rw[gc,aal]at nd;rcases aah.mp hu with rfl | h1
  ·rcases aah.mp ht with rfl | h2
   ·rfl
   ·exact absurd (aak.mpr ⟨t,h2,e.symm⟩) nd.1
  ·rcases aah.mp ht with rfl | h2
   ·exact absurd (aak.mpr ⟨u,h1,e⟩) nd.1
   ·exact ih nd.2 h1 h2
theorem Al(nd:(r.map (·.m)).Nodup){H:Hd}(ok:Ok r H)(ht:t∈r)(he:Ends t p q):Ok r (jX H t.m q):=by
 intro u hu x hx;unfold jX put at hx;by_cases e:u.m=t.m
 ·rw[if_pos e]at hx;have:u=t:=uniq nd hu ht e;subst this;split at hx
  ·cases hx
  ·injection hx with hx
   obtain⟨_,h2⟩:=he
   lia
 ·rw[if_neg e]at hx;exact ok u hu x hx
noncomputable abbrev Step:=Int×Int
def Way(R:Int->Step->Prop):Int->List Step->Int->Prop
 |x,[],y=>x=y
 |x,s::w,y=>R x s/\Way R s.2 w y
theorem Way.snoc:∀{w:List Step} {x y:Int} {s:Step},Way R x w y->R y s->Way R x (w++[s]) s.2
 |[],_,_,_,h,k=>by cases h;exact⟨k,rfl⟩
 |_::_,_,_,_,h,k=>⟨h.1,Way.snoc h.2 k⟩
theorem Way.mono{R R':Int->Step->Prop}(h:∀p s,R p s->R' p s):∀{w:List Step} {x y:Int},Way R x w y->Way R' x w y
 |[],_,_,k=>k
 |_::_,_,_,k=>⟨h _ _ k.1,Way.mono h k.2⟩
def ku(r:List Tie)(p:Int)(s:Step):Prop:=∃t∈r,t.m=s.1/\Ends t p s.2
def jY(r:List Tie)(H:Hd)(p:Int)(s:Step):Prop:=ku r p s/\H s.1≠some s.2
def Led(r:List Tie)(H:Hd)(p:Int)(s:Step):Prop:=ku r p s/\H s.1=some s.2
theorem jE(nd:(r.map (·.m)).Nodup)(hR:∀p s,R p s->ku r p s){x y:Int}{s:Step}(h:Way R x (s::w) y)(hn:(x::(s::w).map (·.2)).Nodup):∀u∈w,u.1≠s.1:=by
 obtain⟨h1,h2⟩:=h;obtain⟨t,ht,hm,he⟩:=hR _ _ h1;have main:∀(w:List Step) (z:Int),Way R z w y->(∀u∈w,u.2≠x/\u.2≠s.2)->∀u∈w,u.1≠s.1:=fun w=>by
  induction w with
  |nil=>intro z _ _ u hu;cases hu
  |cons v w ih=>
   intro z hw hd u hu;rcases aah.mp hu with rfl | hu
   ·intro e;obtain⟨t',ht',hm',he'⟩:=hR _ _ hw.1;have:=uniq nd ht' ht (by rw[hm',e,hm]);subst this;obtain⟨d1,d2⟩:=hd u PU;obtain⟨_,he⟩:=he;obtain⟨_,he'⟩:=he'
    lia
   ·exact ih v.2 hw.2 (fun u hu=>hd u (Ds _ hu)) u hu
 rw[gc,aal,aal]at hn;refine main w s.2 h2 fun u hu=>⟨fun e=>hn.1 ?_,fun e=>hn.2.1 ?_⟩
 ·exact Ds _ (aak.mpr ⟨u,hu,e⟩)
 ·exact aak.mpr ⟨u,hu,e⟩
theorem yc(nd:(r.map (·.m)).Nodup)(hR:∀p s,R p s->ku r p s){y:Int}:∀{w:List Step} {x:Int},Way R x w y->(x::w.map (·.2)).Nodup->(w.map (·.1)).Nodup
 |[],_,_,_=>by simp
 |s::w,x,h,hn=>by rw[gc,aal];refine⟨fun e=>?_,yc nd hR h.2 (by rw[gc,aal]at hn;exact hn.2)⟩;obtain⟨u,hu,e⟩:=aak.mp e;exact jE nd hR h hn u hu e
noncomputable def mW(H:Hd):List Step->Hd
 |[]=>H
 |s::w=>mW (jX H s.1 s.2) w
theorem yd{H:Hd}{m q x:Int}(h:x≠m):jX H m q x=H x:=by unfold jX put;rw[if_neg h]
theorem gB(nd:(r.map (·.m)).Nodup)(S:Int->Bool):∀{w:List Step} {x y:Int} {H:Hd},Ok r H->Way (jY r H) x w y->(x::w.map (·.2)).Nodup ->
  Ok r (mW H w)/\bY r (mW H w) S=bY r H S+one (S x)-one (S y)
 |[],x,y,H,ok,h,_=>by cases h;exact⟨ok,by rw[mW];lia⟩
 |s::w,x,y,H,ok,h,hn=>by
  have hfr:=jE nd (fun p s h=>h.1) h hn;obtain⟨⟨⟨t,ht,hm,he⟩,hf⟩,h2⟩:=h;have ok1:=Al nd ok ht he;have f1:=rQ nd ok ht he (by rw[hm];exact hf) S;rw[hm]at ok1 f1;have h3:Way (jY r (jX H s.1 s.2)) s.2 w y:=by
   have main:∀(w:List Step) (z:Int),(∀u∈w,u.1≠s.1)->Way (jY r H) z w y->Way (jY r (jX H s.1 s.2)) z w y:=fun w=>by
    induction w with
    |nil=>intro _ _ h;exact h
    |cons u w ih=>intro z hu hw;exact⟨⟨hw.1.1,by rw[yd (hu u PU)];exact hw.1.2⟩,ih u.2 (fun v hv=>hu v (Ds _ hv)) hw.2⟩
   exact main w s.2 hfr h2
  obtain⟨k1,k2⟩:=gB nd S ok1 h3 (by rw[gc,aal]at hn;exact hn.2);rw[mW];exact⟨k1,by rw[k2,f1];lia⟩
noncomputable def jy(H:Hd):List Step->Hd
 |[]=>H
 |s::w=>jy (put H s.1 none) w
theorem lF:∀{w:List Step} {H:Hd} {x:Int},(∀u∈w,u.1≠x)->jy H w x=H x
 |[],_,_,_=>rfl
 |s::w,H,x,h=>by rw[jy,lF fun u hu=>h u (Ds _ hu)];unfold put;rw[if_neg fun e=>h s PU e.symm]
theorem k_:∀{w:List Step} {H:Hd} {x:Int},x∈w.map (·.1)->jy H w x=none
 |[],_,_,h=>by cases h
 |s::w,H,x,h=>by
  rw[jy];by_cases e:x∈w.map (·.1)
  ·exact k_ e
  ·rw[lF fun u hu z=>e (aak.mpr ⟨u,hu,z⟩)];rw[gc]at h;rcases aah.mp h with rfl | h
   ·unfold put;rw[if_pos rfl]
   ·exact absurd h e
theorem gC(nd:(r.map (·.m)).Nodup)(S:Int->Bool):∀{w:List Step} {x y:Int} {H:Hd},Ok r H->Way (Led r H) x w y->(x::w.map (·.2)).Nodup ->
  Ok r (jy H w)/\bY r (jy H w) S=bY r H S-one (S x)+one (S y)
 |[],x,y,H,ok,h,_=>by cases h;exact⟨ok,by rw[jy];lia⟩
 |s::w,x,y,H,ok,h,hn=>by
  have hfr:=jE nd (fun p s h=>h.1) h hn;obtain⟨⟨⟨t,ht,hm,he⟩,hf⟩,h2⟩:=h;have ok1:Ok r (put H s.1 none):=fun u hu z hz=>by
   unfold put at hz;split at hz
   ·cases hz
   ·exact ok u hu z hz
  have f1:=jW nd ht H none S;rw[oZ,hm,hf,qE he]at f1;have h3:Way (Led r (put H s.1 none)) s.2 w y:=by
   have main:∀(w:List Step) (z:Int),(∀u∈w,u.1≠s.1)->Way (Led r H) z w y->Way (Led r (put H s.1 none)) z w y:=fun w=>by
    induction w with
    |nil=>intro _ _ h;exact h
    |cons u w ih=>intro z hu hw;exact⟨⟨hw.1.1,by unfold put;rw[if_neg (hu u PU)];exact hw.1.2⟩,ih u.2 (fun v hv=>hu v (Ds _ hv)) hw.2⟩
   exact main w s.2 hfr h2
  obtain⟨k1,k2⟩:=gC nd S ok1 h3 (by rw[gc,aal]at hn;exact hn.2);rw[jy];exact⟨k1,by rw[k2,f1];lia⟩
noncomputable def over(S:Int->Bool)(t:Tie):Bool:=S t.a != S t.b
theorem Nc{H:Hd}(hc:∀p s,S p=true->jY r H p s->S s.2=true):bY r H S=((r.filter (over S)).length:Nat):=by
 have main:∀(q:List Tie),(∀t∈q,t∈r)->bY q H S=((q.filter (over S)).length:Nat):=fun q=>by
  induction q with
  |nil=>intro _;rfl
  |cons t q ih=>
   intro hq;rw[bY,ih fun u hu=>hq u (Ds _ hu)];by_cases ho:over S t=true
   ·rw[aaT ho];have X0:t.a≠t.b:=fun e=>by unfold over at ho;rw[e]at ho;simp at ho
    have hv:val (H t.m) t S=1:=by
     unfold over at ho;cases ha:S t.a with
     |true=>
      have hb:S t.b=false:=by rw[ha]at ho;simpa using ho
      have he:Ends t t.a t.b:=⟨X0,.inl ⟨rfl,rfl⟩⟩
      have:H t.m=some t.b:=abF fun e=>by have:=hc t.a (t.m,t.b) ha ⟨⟨t,hq t PU,rfl,he⟩,e⟩;rw[hb]at this;cases this
      rw[this,qE he,ha,hb];rfl
     |false=>
      have hb:S t.b=true:=by rw[ha]at ho;simpa using ho
      have he:Ends t t.b t.a:=⟨X0,.inr ⟨rfl,rfl⟩⟩
      have:H t.m=some t.a:=abF fun e=>by have:=hc t.b (t.m,t.a) hb ⟨⟨t,hq t PU,rfl,he⟩,e⟩;rw[ha]at this;cases this
      rw[this,qE he,ha,hb];rfl
    rw[hv,aaR]
    lia
   ·rw[aaS ho];have hv:val (H t.m) t S=0:=by
     unfold over at ho;have:S t.a=S t.b:=by simpa using ho
     unfold val;rw[this];split
     ·rfl
     ·split
      ·lia
      ·split<;>lia
    rw[hv]
    lia
 exact main r fun _ h=>h
theorem Am{H:Hd}(ok:Ok r H)(hc:∀p s,S p=true->Led r H p s->S s.2=true):bY r H S<=0:=by
 have main:∀(q:List Tie),(∀t∈q,t∈r)->bY q H S<=0:=fun q=>by
  induction q with
  |nil=>intro _;exact abX _
  |cons t q ih=>
   intro hq;rw[bY];have h1:=ih fun u hu=>hq u (Ds _ hu);have hv:val (H t.m) t S<=0:=by
    by_cases X0:t.a=t.b
    ·unfold val;rw[if_pos X0];exact abX _
    cases e:H t.m with
    |none=>rw[oZ];exact abX _
    |some x=>
     have key:∀p,Ends t p x->val (some x) t S<=0:=fun p he=>by
      rw[qE he];cases hp:S p with
      |false=>cases S x<;>decide
      |true=>have:=hc p (t.m,x) hp ⟨⟨t,hq t PU,rfl,he⟩,e⟩;rw[this];decide
     rcases ok t (hq t PU) x e with rfl | rfl
     ·exact key t.b ⟨X0,.inr ⟨rfl,rfl⟩⟩
     ·exact key t.a ⟨X0,.inl ⟨rfl,rfl⟩⟩
   lia
 exact main r fun _ h=>h
structure Flow(r:List Tie)(H:Hd)(a b:Int)(k:Nat):Prop where
 ok:Ok r H
 eq:∀S,bY r H S=(k:Int)*(one (S a)-one (S b))
theorem Flow.zero(r:List Tie)(a b:Int):Flow r (fun _=>none) a b 0:=⟨fun _ _ _ h=>(by cases h),fun S=>by
 induction r with
 |nil=>simp[bY]
 |cons t r ih=>rw[bY,oZ,ih];simp⟩
theorem Flow.more(nd:(r.map (·.m)).Nodup){H:Hd}(f:Flow r H a b k)(h:Way (jY r H) a w b)(hn:(a::w.map (·.2)).Nodup):Flow r (mW H w) a b (k+1):=
 ⟨(gB nd (fun _=>true) f.ok h hn).1,fun S=>by
  rw[(gB nd S f.ok h hn).2,f.eq S];have:((k+1:Nat):Int)=(k:Int)+1:=by lia
  rw[this,acQ]
  lia⟩
theorem Flow.less(nd:(r.map (·.m)).Nodup){H:Hd}(f:Flow r H a b (k+1))(h:Way (Led r H) a w b)(hn:(a::w.map (·.2)).Nodup):Flow r (jy H w) a b k:=
 ⟨(gC nd (fun _=>true) f.ok h hn).1,fun S=>by
  rw[(gC nd S f.ok h hn).2,f.eq S];have:((k+1:Nat):Int)=(k:Int)+1:=by lia
  rw[this,acQ]
  lia⟩
theorem Flow.cut{H:Hd}(f:Flow r H a b k)(ha:S a=true)(hb:S b=false)(hc:∀p s,S p=true->jY r H p s->S s.2=true):(r.filter (over S)).length=k:=by
 have h1:=Nc hc;rw[f.eq S,ha,hb]at h1;simp[one]at h1
 lia
theorem Flow.reach{H:Hd}(f:Flow r H a b (k+1))(ha:S a=true)(hc:∀p s,S p=true->Led r H p s->S s.2=true):S b=true:=by
 cases hb:S b with
 |true=>rfl
 |false=>
  have h1:=Am f.ok hc;rw[f.eq S,ha,hb]at h1;simp[one]at h1
  lia
end
end Fl
namespace Fd
open Fl
section
variable{r:List Int}{s:Step}{S:Int->Bool}{w:List Step}{R:Int->Step->Prop}{p:Int}{a b:Int}{k:Nat}
noncomputable def src(c:Int):Int:=c / 20
noncomputable def dst(c:Int):Int:=c % 20
noncomputable def vd(o:Option Int)(c:Int)(S:Int->Bool):Int:=if o.isSome then one (S (src c))-one (S (dst c)) else 0
noncomputable def bY(r:List Int)(H:Hd)(S:Int->Bool):Int:=match r with
 |[]=>0
 |c::r=>vd (H c) c S+bY r H S
theorem wI{H H':Hd}(h:∀c∈r,H c=H' c):bY r H S=bY r H' S:=by
 induction r with
 |nil=>rfl
 |cons c r ih=>rw[bY,bY,h c PU,ih fun u hu=>h u (Ds _ hu)]
theorem jW(nd:r.Nodup){c:Int}(hc:c∈r)(H:Hd)(o:Option Int)(S:Int->Bool):bY r (put H c o) S=bY r H S-vd (H c) c S+vd o c S:=by
 induction r with
 |nil=>cases hc
 |cons d r ih=>
  rw[aal]at nd;rcases aah.mp hc with rfl | h
  ·rw[bY,bY,wI (H:=put H c o) (H':=H) fun u hu=>by unfold put;rw[if_neg (fun e:u=c=>nd.1 (e▸hu))]];have:put H c o c=o:=by unfold put;rw[if_pos rfl]
   rw[this]
   lia
  ·rw[bY,bY,ih nd.2 h];have:put H c o d=H d:=by unfold put;rw[if_neg (fun e:d=c=>nd.1 (e▸h))]
   rw[this]
   lia
def ku(r:List Int)(p:Int)(s:Step):Prop:=s.1∈r/\((src s.1=p/\dst s.1=s.2)\/(dst s.1=p/\src s.1=s.2))
def jY(r:List Int)(H:Hd)(p:Int)(s:Step):Prop:=s.1∈r/\((H s.1=none/\src s.1=p/\dst s.1=s.2)\/((H s.1).isSome=true/\dst s.1=p/\src s.1=s.2))
def Led(r:List Int)(H:Hd)(p:Int)(s:Step):Prop:=s.1∈r/\H s.1=some s.2/\src s.1=p/\dst s.1=s.2
def Ok(r:List Int)(H:Hd):Prop:=∀c∈r,∀x,H c=some x->x=dst c
theorem jY.along{H:Hd}(h:jY r H p s):ku r p s:=⟨h.1,h.2.imp (fun x=>x.2) fun x=>x.2⟩
theorem Led.along{H:Hd}(h:Led r H p s):ku r p s:=⟨h.1,.inl h.2.2⟩
theorem jE(hR:∀p s,R p s->ku r p s){x y:Int}(h:Way R x (s::w) y)(hn:(x::(s::w).map (·.2)).Nodup):∀u∈w,u.1≠s.1:=by
 obtain⟨h1,h2⟩:=h;obtain⟨_,he⟩:=hR _ _ h1;have main:∀(w:List Step) (z:Int),Way R z w y->(∀u∈w,u.2≠x/\u.2≠s.2)->∀u∈w,u.1≠s.1:=fun w=>by
  induction w with
  |nil=>intro z _ _ u hu;cases hu
  |cons v w ih=>
   intro z hw hd u hu;rcases aah.mp hu with rfl | hu
   ·intro e;obtain⟨_,he'⟩:=hR _ _ hw.1;obtain⟨d1,d2⟩:=hd u PU;rw[e]at he'
    lia
   ·exact ih v.2 hw.2 (fun u hu=>hd u (Ds _ hu)) u hu
 rw[gc,aal,aal]at hn;refine main w s.2 h2 fun u hu=>⟨fun e=>hn.1 ?_,fun e=>hn.2.1 ?_⟩
 ·exact Ds _ (aak.mpr ⟨u,hu,e⟩)
 ·exact aak.mpr ⟨u,hu,e⟩
theorem rR(hR:∀p s,R p s->ku r p s){y:Int}:∀{w:List Step} {x:Int},Way R x w y->(x::w.map (·.2)).Nodup->(w.map (·.1)).Nodup
 |[],_,_,_=>by simp
 |s::w,x,h,hn=>by rw[gc,aal];refine⟨fun e=>?_,rR hR h.2 (by rw[gc,aal]at hn;exact hn.2)⟩;obtain⟨u,hu,e⟩:=aak.mp e;exact jE hR h hn u hu e
theorem rQ(nd:r.Nodup){H:Hd}(h:jY r H p s)(S:Int->Bool):bY r (jX H s.1 s.2) S=bY r H S+one (S p)-one (S s.2):=by
 obtain⟨hm,h⟩:=h;unfold jX;rw[jW nd hm];rcases h with⟨e,rfl,e2⟩ | ⟨e,rfl,e2⟩
 ·rw[e,<- e2];simp[vd]
  lia
 ·rw[if_pos e,<- e2];simp[vd,e]
  lia
theorem Al{H:Hd}(ok:Ok r H)(h:jY r H p s):Ok r (jX H s.1 s.2):=fun c hc x hx=>by
 unfold jX put at hx;by_cases e:c=s.1
 ·rw[if_pos e]at hx;obtain⟨hm,h⟩:=h;rcases h with⟨e1,_,e2⟩ | ⟨e1,_,e2⟩
  ·rw[e1]at hx;simp at hx;rw[e,e2,hx]
  ·rw[if_pos e1]at hx;cases hx
 ·rw[if_neg e]at hx;exact ok c hc x hx
theorem gB(nd:r.Nodup)(S:Int->Bool):∀{w:List Step} {x y:Int} {H:Hd},Ok r H->Way (jY r H) x w y->(x::w.map (·.2)).Nodup ->
  Ok r (mW H w)/\bY r (mW H w) S=bY r H S+one (S x)-one (S y)
 |[],x,y,H,ok,h,_=>by cases h;exact⟨ok,by rw[mW];lia⟩
 |s::w,x,y,H,ok,h,hn=>by
  have hfr:=jE (fun p s h=>h.along) h hn;obtain⟨hf,h2⟩:=h;have ok1:=Al ok hf;have f1:=rQ nd hf S;have h3:Way (jY r (jX H s.1 s.2)) s.2 w y:=by
   have main:∀(w:List Step) (z:Int),(∀u∈w,u.1≠s.1)->Way (jY r H) z w y->Way (jY r (jX H s.1 s.2)) z w y:=fun w=>by
    induction w with
    |nil=>intro _ _ h;exact h
    |cons u w ih=>intro z hu hw;exact⟨⟨hw.1.1,by rw[yd (hu u PU)];exact hw.1.2⟩,ih u.2 (fun v hv=>hu v (Ds _ hv)) hw.2⟩
   exact main w s.2 hfr h2
  obtain⟨k1,k2⟩:=gB nd S ok1 h3 (by rw[gc,aal]at hn;exact hn.2);rw[mW];exact⟨k1,by rw[k2,f1];lia⟩
theorem gC(nd:r.Nodup)(S:Int->Bool):∀{w:List Step} {x y:Int} {H:Hd},Ok r H->Way (Led r H) x w y->(x::w.map (·.2)).Nodup ->
  Ok r (jy H w)/\bY r (jy H w) S=bY r H S-one (S x)+one (S y)
 |[],x,y,H,ok,h,_=>by cases h;exact⟨ok,by rw[jy];lia⟩
 |s::w,x,y,H,ok,h,hn=>by
  have hfr:=jE (fun p s h=>h.along) h hn;obtain⟨⟨hm,hf,e1,e2⟩,h2⟩:=h;have ok1:Ok r (put H s.1 none):=fun u hu z hz=>by
   unfold put at hz;split at hz
   ·cases hz
   ·exact ok u hu z hz
  have f1:=jW nd hm H none S;rw[hf]at f1;simp only[vd,Option.isSome_none,ab4,aaU,if_false,if_true,e1,e2]at f1;have h3:Way (Led r (put H s.1 none)) s.2 w y:=by
   have main:∀(w:List Step) (z:Int),(∀u∈w,u.1≠s.1)->Way (Led r H) z w y->Way (Led r (put H s.1 none)) z w y:=fun w=>by
    induction w with
    |nil=>intro _ _ h;exact h
    |cons u w ih=>intro z hu hw;exact⟨⟨hw.1.1,by unfold put;rw[if_neg (hu u PU)];exact hw.1.2⟩,ih u.2 (fun v hv=>hu v (Ds _ hv)) hw.2⟩
   exact main w s.2 hfr h2
  obtain⟨k1,k2⟩:=gC nd S ok1 h3 (by rw[gc,aal]at hn;exact hn.2);rw[jy];exact⟨k1,by rw[k2,f1];lia⟩
theorem Am{H:Hd}(ok:Ok r H)(hc:∀p s,S p=true->Led r H p s->S s.2=true):bY r H S<=0:=by
 have main:∀(q:List Int),(∀t∈q,t∈r)->bY q H S<=0:=fun q=>by
  induction q with
  |nil=>intro _;exact abX _
  |cons c q ih=>
   intro hq;rw[bY];have h1:=ih fun u hu=>hq u (Ds _ hu);have hv:vd (H c) c S<=0:=by
    unfold vd;cases e:H c with
    |none=>exact abX _
    |some x=>
     have hx:=ok c (hq c PU) x e;rw[if_pos (show (some x).isSome=true from rfl)];cases hp:S (src c) with
     |false=>cases S (dst c)<;>decide
     |true=>have:=hc (src c) (c,x) hp ⟨hq c PU,e,rfl,hx.symm⟩;rw[hx]at this;rw[this];decide
   lia
 exact main r fun _ h=>h
structure Flow(r:List Int)(H:Hd)(a b:Int)(k:Nat):Prop where
 ok:Ok r H
 eq:∀S,bY r H S=(k:Int)*(one (S a)-one (S b))
theorem Flow.zero(r:List Int)(a b:Int):Flow r (fun _=>none) a b 0:=⟨fun _ _ _ h=>(by cases h),fun S=>by
 induction r with
 |nil=>simp[bY]
 |cons t r ih=>rw[bY,ih];simp[vd]⟩
theorem Flow.more(nd:r.Nodup){H:Hd}(f:Flow r H a b k)(h:Way (jY r H) a w b)(hn:(a::w.map (·.2)).Nodup):Flow r (mW H w) a b (k+1):=
 ⟨(gB nd (fun _=>true) f.ok h hn).1,fun S=>by
  rw[(gB nd S f.ok h hn).2,f.eq S];have:((k+1:Nat):Int)=(k:Int)+1:=by lia
  rw[this,acQ]
  lia⟩
theorem Flow.less(nd:r.Nodup){H:Hd}(f:Flow r H a b (k+1))(h:Way (Led r H) a w b)(hn:(a::w.map (·.2)).Nodup):Flow r (jy H w) a b k:=
 ⟨(gC nd (fun _=>true) f.ok h hn).1,fun S=>by
  rw[(gC nd S f.ok h hn).2,f.eq S];have:((k+1:Nat):Int)=(k:Int)+1:=by lia
  rw[this,acQ]
  lia⟩
theorem Flow.reach{H:Hd}(f:Flow r H a b (k+1))(ha:S a=true)(hc:∀p s,S p=true->Led r H p s->S s.2=true):S b=true:=by
 cases hb:S b with
 |true=>rfl
 |false=>
  have h1:=Am f.ok hc;rw[f.eq S,ha,hb]at h1;simp[one]at h1
  lia
end
end Fd
namespace Dm
section
variable{ks:List (Int×Int)}{vs:List Dat}{Q:Val->Env->Prop}{o:Option (List Dat)}{K:RV->Prop}{ρ:Env}{d:Dat}{N:Env->Prop}{p:Int×Int}{i:Nat}
theorem aeA(q:Q (.new (.dcp [] [])) ρ):We MV ρ Q:=⟨_,_,rfl,q⟩
theorem aet{j e:FE}{R:RV->Env->Prop}{B C:Env->Prop}(h:We e ρ fun x ρ1=>Wk ρ1 x fun d ρ2=>(∃d0,ρ2[i]?=some (.ow d0))/\We j ρ2 fun y ρ3=>∃p q ks vs ρ4,y=.val (.tup [.int p,.int q])/\ρ3[i]?=some (.ow (.dcp ks vs))/\ρ3.set i (.ow (.dcp (j_ ks (p,q)) (lU ks vs (p,q) d)))=ρ4/\N ρ4/\ks.length<SZ):Ws (oV i j e) ρ N R B C:=by obtain⟨x,ρ1,h1,d,ρ2,h2,⟨d0,h0⟩,y,ρ3,h3,p,q,ks,vs,ρ4,rfl,h4,h5,n,h6⟩:=h;exact⟨.nx _,by unfold oV;rw[h1];dsimp only;rw[h2];dsimp only;rw[h0];dsimp only;rw[h3];dsimp only;rw[h4];dsimp only;rw[if_pos h6,h5],n⟩
theorem An{p q:Int}{ρ3 ρ4:Env}{y:Val}(n:N ρ4)(hy:y=.val (.tup [.int p,.int q]))(h:ρ3[i]?=some (.ow (.dcp ks vs)))(hs:ρ3.set i (.ow (.dcp (j_ ks (p,q)) (lU ks vs (p,q) d)))=ρ4)(hl:ks.length<SZ) :
  ∃p q ks vs ρ4,y=.val (.tup [.int p,.int q])/\ρ3[i]?=some (.ow (.dcp ks vs))/\ρ3.set i (.ow (.dcp (j_ ks (p,q)) (lU ks vs (p,q) d)))=ρ4/\N ρ4/\ks.length<SZ:=⟨_,_,_,_,_,hy,h,hs,n,hl⟩
theorem aeL{i j:Int}{o p:Option Dat}(h:lD ks vs (i,j)=some d)(k:K (.val d))(ho:o=some (.dcp ks vs))(hp:p=some (.tup [.int i,.int j])):Wg2 ES o p K:=⟨_,_,_,ho,hp,by unfold ES;dsimp only;rw[h];rfl,k⟩
theorem aeV(k:K (.new (.lst (ks.map pairD))))(ho:o=some [.dcp ks vs])(hl:ks.length<=SZ):WB lV o K:=⟨_,_,ho,by unfold lV;dsimp only;rw[if_pos hl],k⟩
theorem QB(h:p∉ks):Ai ks p=false:=by unfold Ai;rw[List.any_eq_false];intro k hk e;exact h ((of_decide_eq_true e)▸hk)
theorem EY(h:p∉ks):j_ ks p=ks++[p]/\lU ks vs p d=vs++[d]:=by unfold j_ lU;rw[QB h];exact⟨rfl,rfl⟩
theorem ae1{a b:FE}(h:We a ρ fun x ρ1=>(∃ks vs,pk ρ1 x=some (.dcp ks vs))/\We b ρ1 fun y ρ2=>∃ks vs i j,pk ρ2 x=some (.dcp ks vs)/\pk ρ2 y=some (.tup [.int i,.int j])/\Q (.val ((lD ks vs (i,j)).getD .non)) ρ2):We (wD a b) ρ Q:=by obtain⟨x,ρ1,h1,⟨ks,vs,h2⟩,y,ρ2,h3,ks',vs',i,j,h4,h5,q⟩:=h;exact⟨_,_,by unfold wD;rw[h1];dsimp only;rw[h2];dsimp only;rw[h3];dsimp only;rw[h4];dsimp only;rw[h5],q⟩
theorem aeE{e:FE}{ρ ρ2:Env}{p q:Int}(hl:lD ks vs (p,q)=some d)(k:Q (.val d) ρ2)(h:ρ[i]?=some (.ow (.dcp ks vs)))(he:e ρ=some (.val (.tup [.int p,.int q]),ρ))(hs:ρ.set i (.ow (.dcp (kH ks vs (p,q)) (lE ks vs (p,q))))=ρ2):We (rN i e) ρ Q:=⟨_,_,by unfold rN;rw[h];dsimp only;rw[he];dsimp only;rw[h];dsimp only;rw[hl];dsimp only;rw[hs],k⟩
theorem aeY(k:K (.new (.dcp ks vs)))(ho:o=some [.dcp ks vs])(h:oX ks=true):WB wF o K:=⟨_,_,ho,by unfold wF;dsimp only;rw[if_pos h],k⟩
theorem aei{i j:Int}{o p:Option Dat}(k:K (.val (.bl (lD ks vs (i,j)).isSome)))(ho:o=some (.tup [.int i,.int j]))(hp:p=some (.dcp ks vs)):Wg2 qX o p K:=⟨_,_,_,ho,hp,rfl,k⟩
theorem adU{f:List Dat->Option RV}{as:List FE}(h:Was as ρ fun xs ρ1=>∃ds ρ2 v,Hh ρ1 xs=some (ds,ρ2)/\f ds=some v/\bJ v.dat=true/\Q v.cR ρ2):We (wG f as) ρ Q:=by obtain⟨xs,ρ1,h1,ds,ρ2,v,h2,h3,h4,q⟩:=h;exact⟨_,_,by unfold wG;rw[h1];dsimp only;rw[h2];dsimp only;rw[h3];dsimp only;rw[if_pos h4],q⟩
theorem aeX{ns:List Int}(k:K (.new (.lst ((kr ltI ns).map Dat.int))))(ho:o=some [.lst (ns.map Dat.int)])(h:ns.length<=63):WB rO o K:=⟨_,_,ho,by unfold rO;dsimp only;rw[Hr];dsimp only;rw[if_pos h];rfl,k⟩
end
end Dm
namespace P
open Dm
noncomputable def ve:FN:=
  (nIf (tV (e2 gNe (eV 4) (eV 5))) (yG (Ac (eV 4) (gm [(eV 3),(eV 5)]))
  (Ac (eV 5) (gm [(eV 3),(eV 4)]))) nNx)
noncomputable def QC:List Dat->Option RV:=fn 2 4
  (aR (k9 2 (iR1 (eV 0)) 1 (bN 6) (oi (iS (eV 1)) (bT [3,4,5])
  ve))
  (sR (eV 2)))
noncomputable def Nf:List Dat->Option RV:=fn 2 0
  (sR (bA 0 1 (bN 2) cz (bA 2 1 (bN 3) (tV (e2 gNe (xZ (eV 1) (e2 gIx (eV 3) (eC (.int 0)))) (e2 gIx (eV 3) (eC (.int 1))))) (eV 3))))
noncomputable def Ng:List Dat->Option RV:=fn 2 0
  (sR (bA 0 1 (bN 2) cz (bA 2 1 (bN 3) (tV (e2 gEq (xZ (eV 1) (e2 gIx (eV 3) (eC (.int 0)))) (e2 gIx (eV 3) (eC (.int 1))))) (eV 3))))
noncomputable def Nh:List Dat->Option RV:=fn 2 0
  (sR (bA 0 1 (bN 2) cz (bA 2 1 (bN 3) (tV (e2 gEq (wD (eV 1) (e2 gIx (eV 3) (eC (.int 0)))) (e2 gIx (eV 3) (eC (.int 1))))) (eV 3))))
noncomputable def R6:FS:=
  (sIf (tV (e2 z6 (e2 gIx (eV 5) (eC (.int 1))) (eV 2))) (aR (u6 2 (e2 gIx (eV 5) (eC (.int 1))) (e2 cQ (e2 gDx (eV 2) (eV 4)) (gp [(eV 5)])))
  (C3 3 (e2 gIx (eV 5) (eC (.int 1))))) sNx)
noncomputable def R7:FS:=
  (aR (sA 4 (wz 3 (eC (.int 0))))
  (kW (iS (e2 gIx (eV 0) (eV 4))) (bN 5)
  R6))
noncomputable def qL:List Dat->Option RV:=fn 2 4
  (aR (sA 2 (eD1 (eV 1) (gp [])))
  (aR (sA 3 (gp [(eV 1)]))
  (aR (whD (tTr (eV 3))
  R7 100)
  (sR (eV 2)))))
noncomputable def R8:FS:=
  (sIf (tV (e2 EG (eV 2) (eV 0))) (sE (Ad 0 (eV 2))) (u6 0 (eV 2) (eV 3)))
noncomputable def Ni:List Dat->Option (RV×Dat):=fnM 2 2
  (kW (iS (eV 1)) (bT [2,3])
  R8)
noncomputable def R9:FS:=
  (sIf (tV (e2 qX (eV 2) (eV 0))) (sE (rN 0 (eV 2))) (oV 0 (eV 2) (eV 3)))
noncomputable def Nj:List Dat->Option (RV×Dat):=fnM 2 2
  (kW (iS (eV 1)) (bT [2,3])
  R9)
noncomputable def R_:FS:=
  (sE (Ad 5 (eV 9)))
noncomputable def Sa:FS:=
  (aR (sA 8 (dY (iS (e2 gDx (eF qL [(eFd Ng [(eV 0),(eV 5)]),(eV 2)]) (eV 3))) 1 (bN 10) cz (e2 gIx (eV 10) (eC (.int 0)))))
  (aR (kW (iS (eV 8)) (bN 9)
  R_)
  (C3 6 (eV 8))))
noncomputable def KH:List Dat->Option RV:=fn 5 5
  (aR (sA 5 (eB EL [(eV 1)]))
  (aR (sA 6 (gp []))
  (aR (kW (iR1 (eV 4)) (bN 7)
  Sa)
  (sR (eV 6)))))
noncomputable def Sb:FS:=
  (aR (sA 9 (eF qL [(eFd Nf [(eV 5),(eV 6)]),(eV 2)]))
  (sIf (tV (e2 EG (eV 3) (eV 9))) (aR (sE (eFm Ni 6 [(e2 gDx (eV 9) (eV 3))]))
  (sA 8 (e2 cQ (eV 8) (eC (.int 1))))) (sA 7 (eB rD [(eB wC [(eV 9)])]))))
noncomputable def Hu:List Dat->Option RV:=fn 5 5
  (aR (sA 5 (eF QC [(eV 0),(eV 1)]))
  (aR (sA 6 eDn)
  (aR (sA 7 (eC .non))
  (aR (sA 8 (eC (.int 0)))
  (aR (whD (rB (tV (e2 gLt (eV 8) (eV 4))) (tV (e2 EH (eV 7) (eC .non))))
  Sb 100)
  (sR (gm [(eFd KH [(eV 5),(eV 6),(eV 2),(eV 3),(eV 8)]),(eV 7)])))))))
noncomputable def QD:List Dat->Option RV:=fn 5 0
  (sR (e2 EH (e2 gIx (eF Hu [(eV 0),(eV 1),(eV 2),(eV 3),(eV 4)]) (eC (.int 1))) (eC .non)))
noncomputable def Nk:FS:=
  (sE (rN 5 (eV 9)))
noncomputable def Nl:FS:=
  (aR (sA 8 (dY (iS (e2 gDx (eF qL [(wG Nh [(eV 0),(eV 5)]),(eV 2)]) (eV 3))) 1 (bN 10) cz (e2 gIx (eV 10) (eC (.int 0)))))
  (aR (kW (iS (eV 8)) (bN 9)
  Nk)
  (C3 6 (eV 8))))
noncomputable def Ct:List Dat->Option RV:=fn 5 5
  (aR (sA 5 (eB wF [(eV 1)]))
  (aR (sA 6 (gp []))
  (aR (kW (iR1 (eV 4)) (bN 7)
  Nl)
  (sR (eV 6)))))
noncomputable def EZ:List Dat->Option RV:=fn 1 0
  (sR (oH (e1 (Kf isI) (eV 0)) (Kd (e1 (Kf isB) (eV 0)))))
noncomputable def qY:List Dat->Option RV:=fn 3 0
  (sR (oH (eF EZ [(eV 0)]) (rE gLe gLe (eV 1) (eV 0) (eV 2))))
noncomputable def Cu:List Dat->Option RV:=fn 2 0
  (sR (eF qY [(eV 1),(eC (.int 0)),(e2 uL (eV 0) (eC (.int 1)))]))
noncomputable def mX:List Dat->Option RV:=fn 1 0
  (sR (eF qY [(eV 0),(eC (.int 1)),(eC (.int 6))]))
noncomputable def Jg:List Dat->Option RV:=fn 1 0
  (sR (eB Ew [(dY (iR2 (eC (.int 1)) (eB lP [(eV 0)])) 1 (bN 1) cz (e2 gLt (e2 gIx (eV 0) (e2 uL (eV 1) (eC (.int 1)))) (e2 gIx (eV 0) (eV 1))))]))
noncomputable def Jh:List Dat->Option RV:=fn 3 0
  (sR (oH (eF Cu [(eV 0),(eV 1)]) (oH (eF Cu [(eV 0),(eV 2)]) (e2 gNe (eV 1) (eV 2)))))
noncomputable def Sd:List Dat->Option RV:=fn 2 0
  (sR (oH (e1 (Kf isT) (eV 1)) (oH (eB Ew [(bA 1 1 (bN 2) cz (eF Cu [(eV 0),(eV 2)]))]) (eF Jg [(eV 1)]))))
noncomputable def Ao:List Dat->Option RV:=fn 1 0
  (sIf (qK (tV (eF mX [(eV 0)]))) (fun _=>none) sNx)
noncomputable def bL:List Dat->Bool:=fnX 1 0
  (rIf (qK (tV (eF mX [(eV 0)]))) Xo rNo)
noncomputable def Ji:List Dat->Option RV:=fn 3 0
  (sIf (qK (tV (eF Jh [(eV 0),(eV 1),(eV 2)]))) (fun _=>none) sNx)
noncomputable def Se:List Dat->Option RV:=fn 2 0
  (sR (bA 0 3 (bT [2,3,4]) (tV (e2 gNe (e2 gIn (eV 3) (eV 1)) (e2 gIn (eV 4) (eV 1)))) (eV 2)))
noncomputable def U4:FS:=
  (sIf (tV (e2 gNe (eV 6) (eV 7))) (u6 4 (eV 5) (gm [(eV 6),(eV 7)])) sNx)
noncomputable def U5:FS:=
  (aR (sIf (tOr (tV (e2 EG (eV 5) (eV 9))) (tOr (tV (e2 z6 (eV 5) (eV 4))) (tV (e2 kX (eV 8) (e2 gDx (eV 4) (eV 5)))))) (sR (eC (.bl false))) sNx)
  (aR (u6 9 (eV 5) (eC (.bl true)))
  (sA 8 (e2 uL (eB IU [(e2 gDx (eV 4) (eV 5))]) (eV 8)))))
noncomputable def Sf:List Dat->Option RV:=fn 4 6
  (aR (sA 4 eDn)
  (aR (kW (iS (eV 0)) (bT [5,6,7])
  U4)
  (aR (sA 8 (eV 1))
  (aR (sA 9 eDn)
  (aR (kW (iS (eV 3)) (bN 5)
  U5)
  (sR (e2 gEq (eV 8) (eV 2))))))))
noncomputable def U6:FS:=
  (G0 4 (eV 5))
noncomputable def Sg:List Dat->Option RV:=fn 4 2
  (aR (sA 4 (gp []))
  (aR (kW (iS (eV 3)) (bN 5)
  U6)
  (sR (oH (e2 gEq (e1 zw (eV 4)) (eB lP [(eV 4)])) (eB Ew [(bA 3 1 (bN 6) cz (eF Sf [(eV 0),(eV 1),(eV 2),(eV 6)]))])))))
noncomputable def ye:List Dat->Option RV:=fn 2 0
  (sR (bA 0 1 (bN 2) (tV (e2 gNe (eV 2) (eV 1))) (eV 2)))
noncomputable def Dy(aE aS aD aU bh aV aX aK bq aY br bZ bD bE bF:Nat):FS:=
  (aR (sA 6 (eF ye [(eV 4),(eV 5)]))
  (sIf (tOr (tV (e2 gEq (e2 gIx (eV 5) (eC (.int 1))) (e2 gIx (eV 5) (eC (.int 2))))) (tV (eFp bZ 3 QD [(eV 0),(eV 6),(e2 gIx (eV 5) (eC (.int 1))),(e2 gIx (eV 5) (eC (.int 2))),(eV 2)]))) (sA 4 (eV 6)) sNx))
noncomputable def o6(aE aS aD aU bh aV aX aK bq aY br bZ bD bE bF:Nat):List Dat->Option RV:=fn 4 3
  (aR (sA 4 (eB xV [(eV 1)]))
  (aR (kW (iS (eV 1)) (bN 5)
  (Dy aE aS aD aU bh aV aX aK bq aY br bZ bD bE bF))
  (sR (eV 4))))
noncomputable def vf:List Dat->Option RV:=fn 1 0
  (sR (dY (iR1 (eV 0)) 1 (bN 1) cz (gp [])))
noncomputable def Jj:List Dat->Option RV:=fn 5 0
  (sR (e2 gIx (eF Hu [(eV 0),(eV 1),(eV 2),(eV 3),(eV 4)]) (eC (.int 0))))
noncomputable def rS(aE aS aD aU bh aV aX aK bq aY br bZ bD bE bF:Nat):List Dat->Option RV:=fn 5 1
  (aR (sA 5 (bA 1 1 (bN 6) (tV (e2 kX (eV 6) (eV 2))) (eV 6)))
  (sR (bA 5 1 (bN 6) cz (eIf (tV (e2 gEq (e2 gIx (eV 6) (eC (.int 1))) (e2 gIx (eV 6) (eC (.int 2))))) (eF vf [(eV 3)]) (eFp bF 4 Jj [(eV 0),(eV 2),(e2 gIx (eV 6) (eC (.int 1))),(e2 gIx (eV 6) (eC (.int 2))),(eV 3)])))))
noncomputable def Aq:List Dat->Option RV:=fn 4 0
  (sR (e2 gIx (eF Hu [(eV 0),(eF ye [(eV 1),(eV 2)]),(e2 gIx (eV 2) (eC (.int 1))),(e2 gIx (eV 2) (eC (.int 2))),(eV 3)]) (eC (.int 1))))
noncomputable def qF(aE aS aD aU bh aV aX aK bq aY br bZ bD bE bF:Nat):List Dat->Option RV:=fn 3 2
  (aR (sE (eF Ao [(eV 2)]))
  (aR (sA 3 (eF (o6 aE aS aD aU bh aV aX aK bq aY br bZ bD bE bF) [(eV 0),(eV 1),(eV 2),(eC (.fn bZ))]))
  (aR (sA 4 (bA 3 1 (bN 5) cz (eF Aq [(eV 0),(eV 3),(eV 5),(eV 2)])))
  (sR (gm [(bA 3 1 (bN 5) cz (e2 gIx (eV 5) (eC (.int 0)))),(eF (rS aE aS aD aU bh aV aX aK bq aY br bZ bD bE bF) [(eV 0),(eV 1),(eV 3),(eV 2),(eC (.fn bF))]),(eV 4)])))))
noncomputable def iM(aE aS aD aU bh aV aX aK bq aY br bZ bD bE bF:Nat):List Dat->Bool:=fnX 3 2
  (oS bL [(eV 2)])
noncomputable def Sh:List Dat->Option RV:=fn 4 0
  (aR (sIf (tV (e2 gEq (e2 gIx (eV 1) (eC (.int 1))) (e2 gIx (eV 1) (eC (.int 2))))) (sR (e2 gEq (eV 3) (eF vf [(eV 2)]))) sNx)
  (sR (oH (e2 gEq (eB lP [(eV 3)]) (eV 2)) (eF Sg [(eV 0),(e2 gIx (eV 1) (eC (.int 1))),(e2 gIx (eV 1) (eC (.int 2))),(eV 3)]))))
noncomputable def Si:List Dat->Option RV:=fn 5 1
  (aR (sIf (qK (tV (eF Sd [(eV 0),(eV 4)]))) (sR (eC (.bl false))) sNx)
  (aR (sA 5 (eF Se [(eV 1),(eV 4)]))
  (sR (oH (e2 gIn (e2 gIx (eV 2) (eC (.int 0))) (eV 5)) (e2 gLe (eB lP [(eV 5)]) (eV 3))))))
noncomputable def Cv:List Dat->Option RV:=fn 4 2
  (aR (sE (eF Ao [(eV 2)]))
  (aR (sA 4 (bA 1 1 (bN 6) (tV (e2 gIn (e2 gIx (eV 6) (eC (.int 0))) (e2 gIx (eV 3) (eC (.int 0))))) (eV 6)))
  (aR (sIf (tOr (qK (tV (eF Jg [(e2 gIx (eV 3) (eC (.int 0)))]))) (tV (e2 gNe (eB lP [(eV 4)]) (eB lP [(e2 gIx (eV 3) (eC (.int 0)))])))) (sR (eC (.bl false))) sNx)
  (aR (sA 5 (bA 1 1 (bN 6) (tV (e2 kX (eV 6) (eV 4))) (eV 6)))
  (aR (sIf (tOr (tV (e2 gNe (eB lP [(e2 gIx (eV 3) (eC (.int 1)))]) (eB lP [(eV 5)]))) (tV (e2 gNe (eB lP [(e2 gIx (eV 3) (eC (.int 2)))]) (eB lP [(eV 4)])))) (sR (eC (.bl false))) sNx)
  (aR (sIf (qK (tV (eB Ew [(dY (Mu (eV 5) (e2 gIx (eV 3) (eC (.int 1)))) 2 (bT [6,7]) cz (eF Sh [(eV 4),(eV 6),(eV 2),(eV 7)]))]))) (sR (eC (.bl false))) sNx)
  (sR (eB Ew [(dY (Mu (eV 4) (e2 gIx (eV 3) (eC (.int 2)))) 2 (bT [6,7]) cz (eF Si [(eV 0),(eV 4),(eV 6),(eV 2),(eV 7)]))]))))))))
noncomputable def cV:List Dat->Bool:=fnX 4 2
  (oS bL [(eV 2)])
noncomputable def Nm:FS:=
  (sIf (tV (e2 gNe (eV 4) (eV 5))) (aR (oV 2 (gm [(e2 cQ (eV 0) (eV 4)),(eV 5)]) (eV 3))
  (oV 2 (gm [(e2 cQ (eV 0) (eV 5)),(eV 4)]) (eV 3))) sNx)
noncomputable def Jk:List Dat->Option RV:=fn 2 4
  (aR (sA 2 MV)
  (aR (kW (iS (eV 1)) (bT [3,4,5])
  Nm)
  (sR (eV 2))))
noncomputable def ng:FN:=
  (Ac (e2 gIx (eV 4) (eC (.int 0))) (gm [(eV 4),(e2 gIx (eV 4) (eC (.int 1)))]))
noncomputable def Jl:List Dat->Option RV:=fn 2 3
  (aR (k9 2 (iR1 (e2 oJ (eC (.int 2)) (eV 0))) 1 (bN 5) (yG (nA 2 3 (dY (iR1 (eV 0)) 1 (bN 5) cz (gm [(eV 5),(e2 cQ (eV 0) (eV 5))])))
  (oi (iS (e2 cQ (eB lV [(eV 1)]) (eV 3))) (bN 4)
  ng)))
  (sR (eV 2)))
noncomputable def rT:FN:=
  (nIf (tV (e2 qX (eV 5) (eV 1))) (Ac (eV 6) (gm [(eV 5),(eV 3)])) (Ac (eV 3) (gm [(eV 5),(eV 6)])))
noncomputable def lW:FN:=
  (oi (iS (eV 4)) (bT [5,6])
  rT)
noncomputable def Cw:List Dat->Option RV:=fn 2 5
  (aR (k9 2 (iS (eV 0)) 1 (bN 7) (oi (iEn (eV 0)) (bT [3,4])
  lW))
  (sR (eV 2)))
noncomputable def E1:List Dat->Option RV:=fn 3 0
  (sR (e2 gIx (bA 1 1 (bN 3) (rB (tV (e2 gLt (e2 gIx (eV 3) (eC (.int 0))) (eV 0))) (tV (e2 z6 (e2 gIx (eV 3) (eC (.int 1))) (eV 2)))) (e2 gIx (eV 3) (eC (.int 0)))) (eC (.int 0))))
noncomputable def Nn:FS:=
  (aR (sE (eFm Nj 7 [(e2 gDx (eV 8) (eV 3))]))
  (aR (sA 9 (e2 cQ (eV 9) (eC (.int 1))))
  (sA 8 (eF qL [(wG Cw [(eV 6),(eV 7)]),(e2 cQ (eV 0) (eV 2))]))))
noncomputable def E2:List Dat->Option RV:=fn 5 7
  (aR (sA 5 (eF Jk [(eV 0),(eV 1)]))
  (aR (sA 6 (wG Jl [(eV 0),(eV 5)]))
  (aR (sA 7 MV)
  (aR (sA 8 (eF qL [(wG Cw [(eV 6),(eV 7)]),(e2 cQ (eV 0) (eV 2))]))
  (aR (sA 9 (eC (.int 0)))
  (aR (whD (rB (tV (e2 gLt (eV 9) (eV 4))) (tV (e2 EG (eV 3) (eV 8))))
  Nn 100)
  (aR (sA 10 (wG Ct [(eV 6),(eV 7),(e2 cQ (eV 0) (eV 2)),(eV 3),(eV 9)]))
  (aR (sA 11 (bA 10 1 (bN 12) cz (bA 12 1 (bN 13) (tV (e2 qX (eV 13) (eV 5))) (e2 ES (eV 5) (eV 13)))))
  (aR (sIf (tV (e2 gEq (eV 9) (eV 4))) (sR (gm [(eV 11),(eC .non)])) sNx)
  (sR (gm [(eV 11),(eB rD [(eB rO [(bA 10 1 (bN 12) cz (eFd E1 [(eV 0),(eV 12),(eV 8)]))])])])))))))))))
noncomputable def E3:List Dat->Option RV:=fn 5 4
  (aR (sE (eF Ji [(eV 0),(eV 2),(eV 3)]))
  (aR (sA 5 (bA 1 1 (bN 9) (rB (tV (e2 gIn (eV 2) (GZ (eV 9) (some (eC (.int 1))) none))) (tV (e2 gIn (eV 3) (GZ (eV 9) (some (eC (.int 1))) none)))) (eV 9)))
  (aR (sA 6 (bA 1 1 (bN 9) (tV (e2 kX (eV 9) (eV 5))) (eV 9)))
  (aR (sA 7 (dY (iS (eSl (eV 5) none (some (eV 4)))) 1 (bN 9) cz (gp [(e2 gIx (eV 9) (eC (.int 0)))])))
  (aR (sA 8 (eF E2 [(eV 0),(eV 6),(eV 2),(eV 3),(e2 uL (eV 4) (eB lP [(eV 7)]))]))
  (aR (G0 7 (e2 gIx (eV 8) (eC (.int 0))))
  (sR (gm [(eB lP [(eV 7)]),(eV 7),(e2 gIx (eV 8) (eC (.int 1)))]))))))))
noncomputable def Jm:List Dat->Option RV:=fn 5 0
  (sR (e2 EH (e2 gIx (eF E3 [(eV 0),(eV 1),(eV 2),(eV 3),(eV 4)]) (eC (.int 2))) (eC .non)))
noncomputable def yH(aE aS aD aU bh aV aX aK bq aY br bZ bD bE bF:Nat):FS:=
  (aR (sA 6 (eF ye [(eV 4),(eV 5)]))
  (sIf (tOr (tV (e2 gEq (e2 gIx (eV 5) (eC (.int 1))) (e2 gIx (eV 5) (eC (.int 2))))) (tV (eFp bD 3 Jm [(eV 0),(eV 6),(e2 gIx (eV 5) (eC (.int 1))),(e2 gIx (eV 5) (eC (.int 2))),(eV 2)]))) (sA 4 (eV 6)) sNx))
noncomputable def lg(aE aS aD aU bh aV aX aK bq aY br bZ bD bE bF:Nat):List Dat->Option RV:=fn 4 3
  (aR (sA 4 (eB xV [(eV 1)]))
  (aR (kW (iS (eV 1)) (bN 5)
  (yH aE aS aD aU bh aV aX aK bq aY br bZ bD bE bF))
  (sR (eV 4))))
noncomputable def Jo:List Dat->Option RV:=fn 5 0
  (sR (e2 gIx (eF E3 [(eV 0),(eV 1),(eV 2),(eV 3),(eV 4)]) (eC (.int 1))))
noncomputable def lX(aE aS aD aU bh aV aX aK bq aY br bZ bD bE bF:Nat):List Dat->Option RV:=fn 5 1
  (aR (sA 5 (bA 1 1 (bN 6) (tV (e2 kX (eV 6) (eV 2))) (eV 6)))
  (sR (bA 5 1 (bN 6) cz (eIf (tV (e2 gEq (e2 gIx (eV 6) (eC (.int 1))) (e2 gIx (eV 6) (eC (.int 2))))) (eF vf [(eV 3)]) (eFp bE 4 Jo [(eV 0),(eV 2),(e2 gIx (eV 6) (eC (.int 1))),(e2 gIx (eV 6) (eC (.int 2))),(eV 3)])))))
noncomputable def dO(aE aS aD aU bh aV aX aK bq aY br bZ bD bE bF:Nat):List Dat->Option RV:=fn 3 1
  (aR (sE (eF Ao [(eV 2)]))
  (aR (sA 3 (eF (lg aE aS aD aU bh aV aX aK bq aY br bZ bD bE bF) [(eV 0),(eV 1),(eV 2),(eC (.fn bD))]))
  (sR (gm [(bA 3 1 (bN 4) cz (e2 gIx (eV 4) (eC (.int 0)))),(eF (lX aE aS aD aU bh aV aX aK bq aY br bZ bD bE bF) [(eV 0),(eV 1),(eV 3),(eV 2),(eC (.fn bE))])]))))
noncomputable def cW(aE aS aD aU bh aV aX aK bq aY br bZ bD bE bF:Nat):List Dat->Bool:=fnX 3 1
  (oS bL [(eV 2)])
noncomputable def E4:List Dat->Option RV:=fn 2 0
  (aR (sIf (tV (e2 gLt (eV 1) (eB lP [(eV 0)]))) (sR (e2 gIx (eV 0) (eV 1))) sNx)
  (sR (eC (.int 0))))
noncomputable def Np:FS:=
  (aR (sA 5 (e2 yE (e2 oJ (e2 cQ (e2 cQ (e2 cQ (e2 yE (eV 2) (eC (.int 998244353))) (e2 oJ (e2 oJ (eC (.int 89)) (eV 4)) (eV 4))) (e2 oJ (eC (.int 7)) (eV 1))) (eC (.int 1))) (eC (.int 48271))) (eC (.int 2147483647))))
  (aR (sA 5 (e2 yE (e2 oJ (eV 5) (eV 5)) (eC (.int 1000000007))))
  (aR (sA 5 (e2 yE (e2 oJ (e2 cQ (eV 5) (e2 oJ (eC (.int 7919)) (eV 4))) (eC (.int 69621))) (eC (.int 2147483587))))
  (sA 3 (e2 cQ (e2 oJ (eV 3) (eC (.int 1000003))) (e2 yE (e2 GN (eV 5) (eC (.int 8))) (eC (.int 1000003))))))))
noncomputable def Cy:List Dat->Option RV:=fn 2 4
  (aR (sA 2 (eF E4 [(eV 0),(eV 1)]))
  (aR (sIf (tV (e2 gGe (eV 2) (e2 C4 (eC (.int 10)) (eC (.int 18))))) (sR (gp [(eV 2)])) sNx)
  (aR (sA 3 (eC (.int 0)))
  (aR (kW (iR1 (eC (.int 48))) (bN 4)
  Np)
  (sR (gp [(eV 3)]))))))
noncomputable def jz:List Dat->Option (RV×Dat):=fnM 2 1
  (aR (sA 2 (e2 yE (e2 gIx (eV 0) (eC (.int 0))) (eV 1)))
  (aR (Ke 0 (eC (.int 0)) (e2 GN (e2 gIx (eV 0) (eC (.int 0))) (eV 1)))
  (sR (eV 2))))
noncomputable def Nq:FS:=
  (aR (sA 8 (eFm jz 0 [(eV 1)]))
  (aR (sA 9 (eFm jz 0 [(eV 1)]))
  (aR (sIf (rB (tV (e2 gGt (eV 4) (eC (.int 0)))) (tV (e2 gEq (eV 8) (eV 9)))) (sA 9 (e2 yE (e2 cQ (eV 8) (eC (.int 1))) (eV 1))) sNx)
  (aR (sIf (rB (tV (e2 gGt (eV 7) (eC (.int 0)))) (tV (e2 gEq (eFm jz 0 [(eC (.int 4))]) (eC (.int 0))))) (aR (sA 8 (e2 gIx (e2 gIx (eV 6) (e2 uL (eV 7) (eC (.int 1)))) (eC (.int 1))))
  (sA 9 (e2 gIx (e2 gIx (eV 6) (e2 uL (eV 7) (eC (.int 1)))) (eC (.int 2))))) sNx)
  (aR (C3 6 (gm [(eV 5),(eB Cb [(eV 8),(eV 9)]),(eB Cc [(eV 8),(eV 9)])]))
  (sA 5 (e2 cQ (e2 cQ (eV 5) (eC (.int 1))) (e2 oJ (eFm jz 0 [(e2 gIx (gp [(eC (.int 1)),(eC (.int 3)),(eC (.int 1000))]) (eV 4))]) (e2 gIx (gp [(eC (.int 1)),(eC (.int 1)),(e2 C4 (eC (.int 10)) (eC (.int 25)))]) (eV 4))))))))))
noncomputable def E5:List Dat->Option (RV×Dat):=fnM 3 7
  (aR (sA 3 (eFm jz 0 [(e2 cQ (eV 2) (eC (.int 1)))]))
  (aR (sA 4 (eFm jz 0 [(eC (.int 3))]))
  (aR (sA 5 (eFm jz 0 [(eC (.int 4))]))
  (aR (sA 6 (gp []))
  (aR (kW (iR1 (eV 3)) (bN 7)
  Nq)
  (sR (eV 6)))))))
noncomputable def lG(aE aS aD aU bh aV aX aK bq aY br bZ bD bE bF:Nat):List Dat->Option RV:=fn 2 1
  (aR (sA 2 (gp [(e1 (gw [aE,aS,aD,aU,bh,aV,aX,aK,bq,aY,br] [true,false,false,false,false,false,false,false,false,false,false]) (eV 0)),(e1 (gw [aE,aS,aD,aU,bh,aV,aX,aK,bq,aY,br] [false,true,false,false,false,false,false,false,false,false,false]) (eV 0)),(e1 (gw [aE,aS,aD,aU,bh,aV,aX,aK,bq,aY,br] [false,false,true,false,false,false,false,false,false,false,false]) (eV 0))]))
  (aR (sA 2 (e2 cQ (eV 2) (gp [(e1 (gw [aE,aS,aD,aU,bh,aV,aX,aK,bq,aY,br] [false,false,false,true,false,false,false,false,false,false,false]) (eV 0)),(e1 (gw [aE,aS,aD,aU,bh,aV,aX,aK,bq,aY,br] [false,false,false,false,true,false,false,false,false,false,false]) (eV 0)),(e1 (gw [aE,aS,aD,aU,bh,aV,aX,aK,bq,aY,br] [false,false,false,false,false,true,false,false,false,false,false]) (eV 0))])))
  (aR (sA 2 (e2 cQ (eV 2) (gp [(e1 (gw [aE,aS,aD,aU,bh,aV,aX,aK,bq,aY,br] [false,false,false,false,false,false,true,false,false,false,false]) (eV 0)),(e1 (gw [aE,aS,aD,aU,bh,aV,aX,aK,bq,aY,br] [false,false,false,false,false,false,false,true,false,false,false]) (eV 0)),(e1 (gw [aE,aS,aD,aU,bh,aV,aX,aK,bq,aY,br] [false,false,false,false,false,false,false,false,true,false,false]) (eV 0))])))
  (aR (sA 2 (e2 cQ (eV 2) (gp [(e1 (gw [aE,aS,aD,aU,bh,aV,aX,aK,bq,aY,br] [false,false,false,false,false,false,false,false,false,true,false]) (eV 0)),(e1 (gw [aE,aS,aD,aU,bh,aV,aX,aK,bq,aY,br] [false,false,false,false,false,false,false,false,false,false,true]) (eV 0))])))
  (sR (oH (e2 gEq (eV 2) (dY (iR1 (eC (.int 11))) 1 (bN 3) cz (e2 gEq (eV 3) (eV 1)))) (e1 (gw [aE,aS,aD,aU,bh,aV,aX,aK,bq,aY,br] [true,true,true,true,true,true,true,true,true,true,true]) (eV 0))))))))
noncomputable def d7(aE aS aD aU bh aV aX aK bq aY br bZ bD bE bF:Nat):List Dat->Option RV:=fn 4 2
  (aR (sA 4 (eC .non))
  (aR (sUn (sIf (tV (e2 gEq (eV 0) (eC (.int 0)))) (sE (eF (qF aE aS aD aU bh aV aX aK bq aY br bZ bD bE bF) [(eV 1),(eV 2),(eV 3)])) (sIf (tV (e2 gEq (eV 0) (eC (.int 1)))) (sE (eF Cv [(eV 1),(eV 2),(eV 3),(gm [(gp []),(gp []),(gp [])])])) (sE (eF (dO aE aS aD aU bh aV aX aK bq aY br bZ bD bE bF) [(eV 1),(eV 2),(eV 3)])))) (Co (rIf (tV (e2 gEq (eV 0) (eC (.int 0)))) (oS (iM aE aS aD aU bh aV aX aK bq aY br bZ bD bE bF) [(eV 1),(eV 2),(eV 3)]) (rIf (tV (e2 gEq (eV 0) (eC (.int 1)))) (oS cV [(eV 1),(eV 2),(eV 3),(gm [(gp []),(gp []),(gp [])])]) (oS (cW aE aS aD aU bh aV aX aK bq aY br bZ bD bE bF) [(eV 1),(eV 2),(eV 3)]))) aD 5 (sA 4 (eV 5))))
  (sR (eV 4))))
noncomputable def Nr(aE aS aD aU bh aV aX aK bq aY br bZ bD bE bF:Nat):FS:=
  (sIf (tOr (qK (tV (eF (lG aE aS aD aU bh aV aX aK bq aY br bZ bD bE bF) [(eF (d7 aE aS aD aU bh aV aX aK bq aY br bZ bD bE bF) [(eV 9),(eV 2),(eV 8),(eV 7)]),(eC (.int 2))]))) (tV (e2 Ck (eF (d7 aE aS aD aU bh aV aX aK bq aY br bZ bD bE bF) [(eV 9),(eV 2),(eV 8),(eV 5)]) (eC .non)))) (sR (eC (.bl false))) sNx)
noncomputable def Hv(aE aS aD aU bh aV aX aK bq aY br bZ bD bE bF:Nat):FS:=
  (aR (sA 1 (eF Cy [(eV 0),(eV 3)]))
  (aR (sA 4 (eFm E5 1 [(eV 2),(eC (.int 6))]))
  (aR (sA 5 (e2 cQ (eC (.int 1)) (eFm jz 1 [(eC (.int 6))])))
  (aR (sA 6 (gp [(eC (.int 0)),(eC (.int 7)),(e2 uL (e1 Pj (eC (.int 1))) (eFm jz 1 [(e2 C4 (eC (.int 10)) (eC (.int 9)))])),(e2 cQ (eC (.int 7)) (eFm jz 1 [(e2 C4 (eC (.int 10)) (eC (.int 59)))])),(eC (.bl true)),(eC (.bl false)),(eC .non),(eC (.str [49])),(eC (.str []))]))
  (aR (sA 6 (e2 cQ (eV 6) (gp [(gp [(eV 5)]),(gm [(eV 5)]),(gm [(eV 5),(eC (.int 1))]),(gp []),eDn])))
  (aR (sA 7 (e2 gIx (eV 6) (eFm jz 1 [(eB lP [(eV 6)])])))
  (aR (sA 8 (eB xV [(eV 4)]))
  (aR (kW (iR1 (eC (.int 3))) (bN 9)
  (Nr aE aS aD aU bh aV aX aK bq aY br bZ bD bE bF))
  (sIf (tV (e2 gNe (eV 8) (eV 4))) (sR (eC (.bl false))) sNx)))))))))
noncomputable def Ar(aE aS aD aU bh aV aX aK bq aY br bZ bD bE bF:Nat):List Dat->Option RV:=fn 1 9
  (aR (sA 1 (eF Cy [(eV 0),(eC (.int 0))]))
  (aR (sA 2 (e2 cQ (eC (.int 1)) (eFm jz 1 [(eC (.int 6))])))
  (aR (kW (iR2 (eC (.int 1)) (eB Cc [(eC (.int 2)),(eB Cb [(eC (.int 9)),(eB lP [(eV 0)])])])) (bN 3)
  (Hv aE aS aD aU bh aV aX aK bq aY br bZ bD bE bF))
  (sR (eC (.bl true))))))
end P
local macro_rules|`(tactic|trivial)=>`(tactic|first | (dsimp only[List.set];first | done | rfl) | rfl)
local macro_rules | `(tactic| array_get_dec)=>`(tactic| first | with_reducible refine Dm.ac4 ?_ | with_reducible refine Dm.ac3 ?_ | ((with_reducible apply Dm.aa_);(focus rfl)) | ((with_reducible apply Dm.ac9);(focus rfl)) | with_reducible refine Dm.ac5 ?_ | (refine Dm.adj ?_ (by trivial)) | (refine Dm.ac8 ?_ (by trivial)) | (refine Dm.aen ?_ rfl (by trivial)) | with_reducible refine Dm.ac6 ?_ (by decide) | with_reducible refine Dm.adm ?_ | with_reducible refine Dm.adh ?_ | with_reducible refine Dm.adN ?_ | with_reducible refine Dm.adO ?_ | with_reducible refine Dm.ad2 ?_ | with_reducible refine Dm.aeu ?_ | (refine Dm.ac_ ?_) | (refine Dm.jx.mk ?_) | with_reducible refine Dm.adQ ?_ | with_reducible refine Dm.adF ?_ | with_reducible refine Dm.ab_ ?_ | with_reducible refine Dm.m_ ?_ | with_reducible refine Dm.adp ?_ | with_reducible refine Dm.adb ?_ | with_reducible refine Dm.adC ?_ | with_reducible refine Dm.adu ?_ | with_reducible refine Dm.adw ?_ | with_reducible refine Dm.aeB ?_ | with_reducible refine Dm.adM ?_ | with_reducible refine Dm.We.Or ?_ | with_reducible refine Dm.aex ?_ | with_reducible refine Dm.aeI ?_ | with_reducible refine Dm.ael ?_ | with_reducible refine Dm.Wp.none ?_ | with_reducible refine Dm.Wp.some ?_ | (refine Dm.Wsl.A (Hq:=Dat.int) ?_ rfl) | (refine Dm.Wsl.mk ?_ rfl) | (refine Dm.adg ?_ rfl (by trivial) (by exact Nat.le_of_ble_eq_true rfl)) | (refine Dm.ada ?_) | (refine Dm.adE ?_) | (refine Dm.aec ?_ rfl (by trivial)) | with_reducible refine Dm.aew ?_ | with_reducible refine Dm.aeD ?_ | with_reducible refine Dm.aev ?_ | (refine Dm.Z5 ?_ rfl) | (refine Dm.wH rfl ?_) | (refine Dm.Dv ?_ rfl (by trivial) ?_) | (refine Dm.adV ?_ rfl) | (refine Dm.Ak ?_ rfl (by trivial) ?_) | with_reducible refine Dm.Ws.U ?_ | (refine Dm.ZQ ?_ rfl (by trivial)) | with_reducible refine Dm.adi ?_ | (refine Dm.aeS ?_) | (refine Dm.ady ?_) | (refine Dm.adz ?_ rfl) | with_reducible refine Dm.adt ?_ | with_reducible refine Dm.Ws.bk ?_ | with_reducible refine Dm.Ws.ct ?_ | with_reducible refine Dm.adG ?_ | with_reducible refine Dm.adv ?_ | with_reducible refine Dm.adI ?_ | with_reducible refine Dm.Wi.L ?_ | with_reducible refine Dm.adJ ?_ | with_reducible refine Dm.aeH ?_ | (refine Dm.iK ?_) | (refine Dm.Y7 ?_) | (refine Dm.adD ?_ rfl rfl) | (refine Dm.adS ?_ rfl rfl) | (refine Dm.Wg2.Z0 ?_ rfl rfl ?_) | (refine Dm.Wg2.Z1 ?_ rfl rfl ?_) | (refine Dm.Wg2.eqb ?_ rfl rfl) | (refine Dm.Wg2.neb ?_ rfl rfl) | (refine Dm.Wg2.ZR ?_ rfl rfl) | (refine Dm.Wg2.isb ?_ rfl rfl) | (refine Dm.ad5 ?_ rfl rfl) | (refine Dm.Wg2.le ?_ rfl rfl) | (refine Dm.aek ?_ rfl rfl) | (refine Dm.aez ?_ rfl rfl) | (refine Dm.adn ?_ rfl rfl) | (refine Dm.Wg2.Z6 ?_ rfl rfl ?_) | (refine Dm.Wg2.Z2 ?_ rfl rfl ?_) | (refine Dm.adL ?_ rfl rfl ?_) | (refine Dm.adK ?_ rfl rfl) | (refine Dm.adZ ?_ rfl rfl (by first | exact Or.inl (by decide) | exact Or.inr (by decide))) | (refine Dm.adZ ?_ rfl rfl ?_) | (refine Dm.aeo ?_ rfl rfl (by decide)) | (refine Dm.aeo ?_ rfl rfl ?_) | (refine Dm.aea ?_ rfl rfl (by decide)) | (refine Dm.aea ?_ rfl rfl ?_) | (refine Dm.ad1 ?_ rfl rfl) | (refine Dm.aem ?_ rfl rfl) | (refine Dm.ad9 ?_ rfl rfl) | (refine Dm.Wg2.Z7 ?_ rfl rfl) | (refine Dm.ac7 ?_ rfl rfl rfl) | (refine Dm.aes (Hq:=Dat.int) ?_ rfl) | (refine Dm.adT ?_ rfl) | (refine Dm.WB.Z8 ?_ rfl) | (refine Dm.aeb ?_ rfl) | (refine Dm.ad_ ?_ rfl) | (refine Dm.aep ?_ rfl) | (refine Dm.WB.int ?_ rfl) | (refine Dm.WB.sum2 ?_ rfl ?_) | (refine Dm.Wg1.Z9 (Hq:=Dat.int) ?_ rfl) | (refine Dm.ado ?_ rfl rfl))
namespace P
open Dm Fl
section
variable{r:List Int}{h:List (Int×Int)}{R:Int->List Step}{n:Nat}{s:Step}{a:Int}{p:Int}{w:List Step}{A:List Int}{α:Type}{i e:FE}{d:Dat}{c:Int}{x:Int}{y:Int}{k:Int}
theorem QE(ks:List Int)(i:Int):(ks.any fun k=>decide (k=i))=decide (i∈ks):=by
 induction ks with
 |nil=>rfl
 |cons k ks ih=>
  rw[abc,ih];by_cases h:k=i
  ·simp[h]
  ·have h':¬i=k:=fun z=>h z.symm;simp[h,h']
theorem Jp{ks:List Int}{vs:List Dat}{i:Int}(h:i∉ks):xX ks i=ks++[i]/\xY ks vs i d=vs++[d]:=by unfold xX xY;rw[QE,decide_eq_false h];exact⟨rfl,rfl⟩
theorem KI(key:α->Int)(val:α->Dat)(xs:List α)(i:Int):cL (xs.map key) (xs.map val) i=(xs.find? fun x=>decide (key x=i)).map val:=by
 induction xs with
 |nil=>rfl
 |cons x xs ih=>
  rw[gc,gc,cL,aa0];by_cases h:key x=i
  ·simp[h]
  ·simp[h,ih]
theorem kM[DecidableEq α]:∀(l m:List α),l.Nodup->(∀x∈l,x∈m)->l.length<=m.length
 |[],_,_,_=>aaY _
 |x::l,m,h,k=>by
  obtain⟨h1,h2⟩:=aal.mp h;have hx:x∈m:=k x PU;have:=kM l (m.erase x) h2 fun y hy=>(List.mem_erase_of_ne (fun e:y=x=>h1 (by rw[<- e];exact hy))).mpr (k y (Ds _ hy));rw[List.length_erase_of_mem hx]at this;have:=List.length_pos_of_mem hx;simp
  lia
noncomputable def places(n:Nat):List Int:=(aas n).map fun i:Nat=>(i:Int)
theorem places_len(n:Nat):(places n).length=n:=by simp[places]
theorem Hw(n:Nat)(x:Int):x∈places n↔0<=x/\x<n:=by
 unfold places;rw[aak];constructor
 ·rintro⟨i,hi,rfl⟩;have:=aaV.mp hi
  lia
 ·rintro⟨h0,h1⟩;exact⟨x.toNat,aaV.mpr (by lia),by lia⟩
noncomputable def stG(lb:Int->Dat)(s:Step):Dat:=.tup [lb s.1,.int s.2]
noncomputable def rwG(lb:Int->Dat)(w:List Step):Dat:=.lst (w.map (stG lb))
noncomputable def rsG(lb:Int->Dat)(n:Nat)(R:Int->List Step):Dat:=.lst ((aas n).map fun i:Nat=>rwG lb (R i))
noncomputable abbrev Sr:=List (Int×List Step)
noncomputable def sk(s:Sr):List Int:=s.map (·.1)
noncomputable def svG(lb:Int->Dat)(s:Sr):List Dat:=s.map fun e=>rwG lb e.2
def InR(R:Int->List Step)(p:Int)(s:Step):Prop:=s∈R p
structure Dz(R:Int->Step->Prop)(a:Int)(w:List Step)(p:Int):Prop where
 way:Way R a w p
 nd:(a::w.map (·.2)).Nodup
structure Fnd(n:Nat)(R:Int->List Step)(a:Int)(s:Sr):Prop where
 nd:(sk s).Nodup
 pl:∀x∈sk s,0<=x/\x<n
 st:a∈sk s
 way:∀e∈s,Dz (InR R) a e.2 e.1/\∀x∈a::e.2.map (·.2),x∈sk s
theorem Fnd.len{s:Sr}(h:Fnd n R a s):s.length<=n:=by
 have:=kM (sk s) (places n) h.nd fun x hx=>(Hw n x).mpr (h.pl x hx);rw[places_len]at this
 simpa [sk] using this
theorem Fnd.BW{s:Sr}(h:Fnd n R a s){e:Int×List Step}(he:e∈s):e.2.length<s.length:=by
 obtain⟨h1,h2⟩:=h.way e he;have:=kM (a::e.2.map (·.2)) (sk s) h1.nd h2;simp[sk]at this
 lia
theorem kI(s:Sr)(x:Int)(w:List Step):sk (s++[(x,w)])=sk s++[x]:=by simp[sk]
theorem QF(lb:Int->Dat)(s:Sr)(x:Int)(w:List Step):svG lb (s++[(x,w)])=svG lb s++[rwG lb w]:=by simp[svG]
theorem As(lb:Int->Dat)(s:Sr)(x:Int):(∃w,(x,w)∈s/\cL (sk s) (svG lb s) x=some (rwG lb w))\/(x∉sk s/\cL (sk s) (svG lb s) x=none):=by
 unfold sk svG;rw[KI (fun e:Int×List Step=>e.1) (fun e=>rwG lb e.2) s x];cases hf:s.find? fun e=>decide (e.1=x) with
 |none=>refine Or.inr ⟨fun h=>?_,rfl⟩;obtain⟨e,he,hx⟩:=aak.mp h;have:=acs.mp hf e he;simp[hx]at this
 |some e=>
  have h1:=List.mem_of_find?_eq_some hf;have h2:=List.find?_some hf;have h2:e.1=x:=by simpa using h2
  exact Or.inl ⟨e.2,by rw[<- h2];exact h1,rfl⟩
theorem lH(lb:Int->Dat)(s:Sr)(x:Int):(cL (sk s) (svG lb s) x).isSome=decide (x∈sk s):=by
 rcases As lb s x with⟨ts,h1,h2⟩ | ⟨h1,h2⟩
 ·have:x∈sk s:=aak.mpr ⟨_,h1,rfl⟩;rw[h2,decide_eq_true this];rfl
 ·rw[h2,decide_eq_false h1];rfl
theorem Fnd.start(a0:0<=a)(a1:a<n):Fnd n R a [(a,[])] where
 nd:=by simp[sk]
 pl:=by intro x hx;simp[sk]at hx;subst hx;exact⟨a0,a1⟩
 st:=by simp[sk]
 way:=by intro e he;simp at he;subst he;exact⟨⟨rfl,by simp⟩,by simp[sk]⟩
theorem Fnd.step{s:Sr}(h:Fnd n R a s)(hp:(p,w)∈s){u:Step}(hu:u∈R p)(hn:u.2∉sk s)(u0:0<=u.2)(u1:u.2<n):Fnd n R a (s++[(u.2,w++[u])]) where
 nd:=by rw[kI];exact aa3.mpr ⟨h.nd,by simp,fun x hx y hy=>by rw[aaL.mp hy];exact fun e=>hn (e▸hx)⟩
 pl:=by
  intro x hx;rw[kI]at hx;rcases aay.mp hx with hx | hx
  ·exact h.pl x hx
  ·rw[aaL.mp hx];exact⟨u0,u1⟩
 st:=by rw[kI];exact aaA _ h.st
 way:=by
  intro e he;rw[kI];rcases aay.mp he with he | he
  ·obtain⟨k1,k2⟩:=h.way e he;exact⟨k1,fun x hx=>aaA _ (k2 x hx)⟩
  ·rw[aaL.mp he];obtain⟨k1,k2⟩:=h.way _ hp;refine⟨⟨k1.way.snoc hu,?_⟩,fun x hx=>?_⟩
   ·dsimp only at k1 k2 ⊢;rw[aaj,<- abW];exact aa3.mpr ⟨k1.nd,by simp,fun x hx y hy=>by rw[aaL.mp hy];exact fun e:x=u.2=>hn (by rw[<- e];exact k2 x hx)⟩
   ·dsimp only at k1 k2 hx ⊢;rw[aaj,<- abW]at hx;rcases aay.mp hx with hx | hx
    ·exact aaA _ (k2 x hx)
    ·exact aaG _ (by simpa using hx)
def Done(R:Int->List Step)(K:List Int)(x:Int):Prop:=∀u∈R x,u.2∈K
noncomputable def QG(lb:Int->Dat)(n:Nat)(R:Int->List Step)(a:Int)(s:Sr)(ps:List Int)(c4 c5:Cell):Env:=[.sh (rsG lb n R),.sh (.int a),.ow (.dct (sk s) (svG lb s)),.ow (.lst (ps.map Dat.int)),c4,c5]
theorem U7{ps:List Int}{p0:Int}{i:Nat}{e:FE}{ρ ρ2:Env}{Q:Val->Env->Prop}(q:Q (.val (.int p0)) ρ2)(h:ρ[i]?=some (.ow (.lst ((p0::ps).map Dat.int))))(he:e ρ=some (.val (.int 0),ρ))(hs:ρ.set i (.ow (.lst (ps.map Dat.int)))=ρ2):We (wz i e) ρ Q:=
 ⟨_,_,by unfold wz;rw[h];dsimp only;rw[he];dsimp only;rw[h];dsimp only;rw[if_pos (by unfold BIG;lia)];show some (Val.val (.int p0),ρ.set i (.ow (.lst (ps.map Dat.int))))=_;rw[hs],q⟩
theorem QH(lb:Int->Dat)(n:Nat)(R:Int->List Step)(x:Int)(h0:0<=x)(h1:x<n):gIx (rsG lb n R) (.int x)=some (.val (rwG lb (R x))):=by
 unfold rsG gIx;dsimp only;rw[zz (fun i:Nat=>rwG lb (R i)) (aas n) x h0 (by rw[aaM];exact h1)];have e:(((aas n)[x.toNat]'(by rw[aaM];lia):Nat):Int)=x:=by rw[List.getElem_range];lia
 rw[e];rfl
theorem rV(lb:Int->Dat)(n:Nat)(hn:n<=40)(R:Int->List Step)(hR:∀i:Int,0<=i->i<n->∀u∈R i,0<=u.2/\u.2<n)(a:Int)(a0:0<=a)(a1:a<n) :
  ∃s:Sr,qL [rsG lb n R,.int a]=some (.new (.dct (sk s) (svG lb s)))/\Fnd n R a s/\∀x∈sk s,Done R (sk s) x:=by
 suffices h:Wr (qL [rsG lb n R,.int a]) fun v=>∃s:Sr,v=.new (.dct (sk s) (svG lb s))/\Fnd n R a s/\∀x∈sk s,Done R (sk s) x by obtain⟨v,h1,s,rfl,h2⟩:=h;exact⟨s,h1,h2⟩
 unfold qL
 (refine Dm.ade ?_ rfl rfl;and_intros)
 refine ac4 (ac6 ?_ (by decide));refine aeD (aa_ rfl (jx.mk (adu (ab_ (adg ?_ rfl (by trivial) (by exact aaa rfl))))));refine ada (ac8 ?_ (by trivial));refine ac4 (ac6 ?_ (by decide));refine adu (m_ (aa_ rfl (ab_ (adg ?_ rfl (by trivial) (by exact aaa rfl)))));refine ac8 ?_ (by trivial);refine ac4 ?_;refine ad6 (fun k ρ=>∃(s:Sr) (ps:List Int) (c4 c5:Cell),ρ=QG lb n R a s ps c4 c5/\Fnd n R a s/\(∀x∈ps,x∈sk s)/\(∀x∈sk s,x∈ps\/Done R (sk s) x)/\k=ps.length+(n-s.length)/\k<=40) ?_ 100 n _ (by lia) ⟨[(a,[])],[a],_,_,rfl,Fnd.start a0 a1,by simp[sk],by simp[sk],by simp;lia,hn⟩;rintro k ρ ⟨s,ps,c4,c5,rfl,F,hps,hd,hk,Z_⟩;unfold QG;refine aeW ?_;refine ac9 rfl ?_;refine⟨_,!(ps.map Dat.int).isEmpty,rfl,rfl,?_⟩;have len:=F.len;cases ps with
 |nil=>refine ads rfl ?_;refine adi (ac9 rfl (adz ?_ rfl));exact⟨s,rfl,F,fun x hx=>(hd x hx).resolve_left (by simp)⟩
 |cons p0 ps0=>
  refine adB rfl ?_;unfold R7;refine ac4 (ac6 ?_ (by decide));refine U7 (ps:=ps0) (p0:=p0) ?_ rfl rfl rfl;refine adj ?_ (by trivial);have hp0:p0∈sk s:=hps p0 (by simp);obtain⟨q0,q1⟩:=F.pl p0 hp0;refine adv (adI (ac3 (aa_ rfl (aa_ rfl (ac7 ?_ rfl rfl (QH lb n R p0 q0 q1))))));refine ada (iK ?_);refine adx (stG lb) _ _ (R p0) _ _ _ _ _ (fun p q ρ=>∃(s:Sr) (ps:List Int) (c5:Cell),ρ=QG lb n R a s ps (.sh (.int p0)) c5/\Fnd n R a s/\(∀x∈ps,x∈sk s)/\p0∈sk s/\(∀x∈sk s,x∈ps\/x=p0\/Done R (sk s) x)/\(∀u∈p,u.2∈sk s)/\k=ps.length+1+(n-s.length)) ⟨s,ps0,_,rfl,F,fun x hx=>hps x (by simp[hx]),hp0,?_,by simp,by rw[hk];simp⟩ ?_ ?_
  ·intro x hx;rcases hd x hx with h | h
   ·rcases aah.mp h with h | h
    ·exact .inr (.inl h)
    ·exact .inl h
   ·exact .inr (.inr h)
  ·rintro p u q ρ e' ⟨s,ps,c5,rfl,F,hps,hp0,hd,hp,hk⟩;have len:=F.len;have hu:u∈R p0:=by rw[e'];simp
   obtain⟨u0,u1⟩:=hR p0 q0 q1 u hu;unfold QG;refine Dm.fF rfl (by trivial) ?_;unfold R6;refine adm (adh (ac3 (ac3 (aa_ rfl (ac5 (ac7 ?_ rfl rfl rfl))))));refine ac9 rfl (aem ?_ rfl rfl);refine ac_ ?_;rw[lH];refine⟨fun h=>?_,fun h=>?_⟩
   ·have hnew:=ndT h;obtain⟨w,t1,t2⟩:∃w,(p0,w)∈s/\cL (sk s) (svG lb s) p0=some (rwG lb w):=by
     rcases As lb s p0 with h | h
     ·exact h
     ·exact absurd hp0 h.1
    have wl:=F.BW t1;refine ac4 (aev (ac3 (ac3 (ac9 rfl (aa_ rfl (adX t2 ?_ rfl rfl))))));refine adu (m_ (aa_ rfl (ab_ (adg ?_ rfl rfl (by exact aaa rfl)))));refine adL ?_ rfl rfl (by rw[Pa];dsimp only at wl;simp;unfold SZ;lia);refine adE (wH rfl (ac3 (aa_ rfl (ac5 (ac7 ?_ rfl rfl rfl)))));refine jx.mk (Dv ?_ rfl (by trivial) (by simp only[sk,Pa];unfold SZ;lia));refine adV (ac3 (aa_ rfl (ac5 (ac7 ?_ rfl rfl rfl)))) rfl;refine ada (Ak ?_ rfl (by trivial) (by rw[Pa];unfold SZ;lia));have F':=F.step t1 hu hnew u0 u1;have len':=F'.len;have em:Dat.lst (w.map (stG lb)++[(stG lb) u])=rwG lb (w++[u]):=by simp[rwG]
    obtain⟨p1,p2⟩:=Jp (ks:=sk s) (vs:=svG lb s) (i:=u.2) (d:=rwG lb (w++[u])) hnew;refine⟨s++[(u.2,w++[u])],ps++[u.2],.sh ((stG lb) u),?_,F',?_,?_,?_,?_,?_⟩
    ·rw[em,p1,p2,kI,QF,aaj];rfl
    ·intro x hx;rw[kI];rcases aay.mp hx with hx | hx
     ·exact aaA _ (hps x hx)
     ·exact aaG _ hx
    ·rw[kI];exact aaA _ hp0
    ·intro x hx;rw[kI]at hx ⊢;rcases aay.mp hx with hx | hx
     ·rcases hd x hx with h | h | h
      ·exact .inl (aaA _ h)
      ·exact .inr (.inl h)
      ·exact .inr (.inr fun y hy=>aaA _ (h y hy))
     ·exact .inl (aaG _ hx)
    ·intro v hv;rw[kI];rcases aay.mp hv with hv | hv
     ·exact aaA _ (hp v hv)
     ·rw[aaL.mp hv];simp
    ·rw[hk];simp at len' ⊢;lia
   ·have hold:=ndF h;refine adt ?_;refine⟨s,ps,.sh ((stG lb) u),rfl,F,hps,hp0,hd,fun v hv=>?_,hk⟩;rcases aay.mp hv with hv | hv
    ·exact hp v hv
    ·rw[aaL.mp hv];exact hold
  ·rintro ρ ⟨s,ps,c5,rfl,F,hps,hp0,hd,hp,hk⟩;refine⟨ps.length+(n-s.length),by lia,s,ps,_,_,rfl,F,hps,fun x hx=>?_,rfl,by lia⟩;rcases hd x hx with h | rfl | h
   ·exact .inl h
   ·exact .inr hp
   ·exact .inr h
noncomputable def pr(c:Int):Int×Int:=(c / 20,c % 20)
noncomputable def lbP(c:Int):Dat:=.tup [.int (c / 20),.int (c % 20)]
theorem Au{c d:Int}(h:pr c=pr d):c=d:=by
 unfold pr at h;injection h with h1 h2
 lia
noncomputable def hdF(h:List (Int×Int)):Hd:=fun m=>(h.find? fun e=>decide (e.1=m)).map (·.2)
noncomputable def hk(h:List (Int×Int)):List Int:=h.map (·.1)
noncomputable def hkP(h:List (Int×Int)):List (Int×Int):=h.map fun e=>pr e.1
noncomputable def hv(h:List (Int×Int)):List Dat:=h.map fun e=>Dat.int e.2
noncomputable def aZ(h:List (Int×Int)):Dat:=.dcp (hkP h) (hv h)
theorem nh(h:List (Int×Int))(c:Int):lD (hkP h) (hv h) (c / 20,c % 20)=(hdF h c).map Dat.int:=by
 unfold hkP hv hdF
 induction h with
 |nil=>rfl
 |cons e h ih=>
  rw[gc,gc,lD,aa0];by_cases q:e.1=c
  ·rw[if_pos (by rw[q];rfl),decide_eq_true q];rfl
  ·rw[if_neg (fun z:pr e.1=(c / 20,c % 20)=>q (Au z)),decide_eq_false q];exact ih
theorem vg{m:Int}:(hdF h m).isSome=decide (m∈hk h):=by
 unfold hdF hk
 induction h with
 |nil=>rfl
 |cons e h ih=>
  rw[aa0];by_cases q:e.1=m
  ·rw[decide_eq_true q];simp[q]
  ·rw[decide_eq_false q];have q':¬m=e.1:=fun z=>q z.symm;simp only[gc,aah,q',false_or];exact ih
theorem Nt(o:Option Int)(y:Int):gEq ((o.map Dat.int).getD .non) (.int y)=vB (decide (o=some y)):=by
 cases o with
 |none=>rfl
 |some z=>
  show gEq (.int z) (.int y)=_;rw[Je];have:(z=y)=(some z=some y):=by simp
  simp only[this]
noncomputable def qZ(h:List (Int×Int))(R:Int->List Step):Int->List Step:=fun x=>(R x).filter fun s=>decide (hdF h s.1=some s.2)
theorem DB(n:Nat)(hn:n<=1000)(R:Int->List Step)(hR:∀i:Nat,i<n->(R i).length<=1000)(h:List (Int×Int)):Nh [rsG lbP n R,aZ h]=some (.new (rsG lbP n (qZ h R))):=by
 apply adk;unfold Nh
 (refine Dm.ade ?_ rfl rfl;and_intros)
 refine adi ?_;refine ad0 (fun i:Nat=>rwG lbP (R i)) (aas n) id (fun i:Nat=>rwG lbP (qZ h R i)) (d:=rsG lbP n R) ?_ rfl rfl rfl (by decide) (by rw[aaM];unfold SZ;lia) fun i hi=>?_
 ·rw[abd];rfl
 ·have hl:=hR i (aaV.mp hi);refine adH (stG lbP) (R i) (fun s=>decide (hdF h s.1=some s.2)) id (stG lbP) (d:=rwG lbP (R i)) ?_ rfl rfl rfl (by decide) (by unfold SZ;lia) (fun s _=>?_) fun s _ _=>?_
  ·rw[abd];exact adE ⟨rfl,rfl⟩
  ·refine adh (ac3 (ae1 (aa_ rfl ⟨⟨_,_,rfl⟩,ac3 (aa_ rfl (ac5 (ac7 ?_ rfl rfl rfl)))⟩)));refine⟨hkP h,hv h,s.1 / 20,s.1 % 20,rfl,rfl,ac3 (aa_ rfl (ac5 (ac7 ?_ rfl rfl rfl)))⟩;refine⟨_,_,_,rfl,rfl,(by rw[nh];exact Nt _ _),?_⟩;exact ac_ ⟨rfl,rfl⟩
  ·exact aa_ rfl (ada ⟨rfl,rfl⟩)
noncomputable def n5(h:List (Int×Int))(s:Step):List (Int×Int):=if s.1∈hk h then h.filter fun e=>decide (e.1≠s.1) else h++[s]
theorem Av(h:List (Int×Int))(m:Int):hdF (h.filter fun e=>decide (e.1≠m))=put (hdF h) m none:=by
 funext x
 unfold put hdF;rw[List.find?_filter];by_cases e:x=m
 ·subst e;rw[if_pos rfl,acs.mpr fun y _=>by simp];rfl
 ·rw[if_neg e]
  congr 1
  congr 1
  funext y
  by_cases q:y.1=x
  ·have:y.1≠m:=fun z=>e (q.symm.trans z);simp[q,e]
  ·simp[q]
theorem QI(h:List (Int×Int))(s:Step)(hn:s.1∉hk h):hdF (h++[s])=put (hdF h) s.1 (some s.2):=by
 funext x
 unfold put hdF;rw[List.find?_append];by_cases e:x=s.1
 ·subst e;rw[if_pos rfl];have:(h.find? fun e=>decide (e.1=s.1))=none:=acs.mpr fun y hy=>by
   intro z;exact hn (aak.mpr ⟨y,hy,of_decide_eq_true z⟩)
  rw[this];simp
 ·rw[if_neg e];have e':¬s.1=x:=fun z=>e z.symm;cases hf:(h.find? fun e=>decide (e.1=x)) with
  |none=>simp[e']
  |some y=>rfl
theorem Nu(h:List (Int×Int))(s:Step):hdF (n5 h s)=jX (hdF h) s.1 s.2:=by
 unfold n5 jX;rw[vg];by_cases q:s.1∈hk h
 ·rw[if_pos q,if_pos (decide_eq_true q),Av]
 ·rw[if_neg q,if_neg (by simpa using q),QI h s q]
noncomputable def bU(h:List (Int×Int)):List Step->List (Int×Int)
 |[]=>h
 |s::w=>bU (n5 h s) w
theorem wJ:∀(w:List Step) (h:List (Int×Int)),hdF (bU h w)=mW (hdF h) w
 |[],_=>rfl
 |s::w,h=>by rw[bU,mW,wJ w,Nu]
theorem jZ:∀(w:List Step) (h:List (Int×Int)) (s:Step),bU h (w++[s])=n5 (bU h w) s
 |[],_,_=>rfl
 |_::w,h,s=>by rw[abW,bU,bU,jZ w]
theorem zA(h:List (Int×Int))(c:Int):kH (hkP h) (hv h) (c / 20,c % 20)=hkP (h.filter fun e=>decide (e.1≠c))/\lE (hkP h) (hv h) (c / 20,c % 20)=hv (h.filter fun e=>decide (e.1≠c)):=by
 unfold hkP hv
 induction h with
 |nil=>exact⟨rfl,rfl⟩
 |cons e h ih=>
  rw[gc,gc,kH,lE];by_cases q:e.1=c
  ·rw[if_pos (by rw[q];rfl),if_pos (by rw[q];rfl),aaS (by simpa using q)];exact ih
  ·rw[if_neg (fun z:pr e.1=(c / 20,c % 20)=>q (Au z)),if_neg (fun z:pr e.1=(c / 20,c % 20)=>q (Au z)),aaT (by simpa using q),gc,gc,ih.1,ih.2];exact⟨rfl,rfl⟩
structure Hok(r:List Int)(h:List (Int×Int)):Prop where
 nd:(hk h).Nodup
 sub:∀m∈hk h,m∈r
theorem Hok.len(k:Hok r h):h.length<=r.length:=by
 have:=kM (hk h) r k.nd k.sub
 simpa [hk] using this
theorem Hok.nil(r:List Int):Hok r []:=⟨by simp[hk],by simp[hk]⟩
theorem Hok.drop(k:Hok r h)(m:Int):Hok r (h.filter fun e=>decide (e.1≠m)):=by refine⟨(k.nd.sublist (acX.map _ (abK))),fun x hx=>k.sub x ?_⟩;obtain⟨e,he,rfl⟩:=aak.mp hx;exact aak.mpr ⟨e,(aaO.mp he).1,rfl⟩
theorem Hok.lead(k:Hok r h)(hs:s.1∈r):Hok r (n5 h s):=by
 unfold n5;split
 ·exact k.drop _
 ·rename_i q;refine⟨?_,fun x hx=>?_⟩
  ·unfold hk;rw[aaj];exact aa3.mpr ⟨k.nd,by simp,fun x hx y hy=>by
    have:y=s.1:=by simpa using hy
    rw[this];exact fun e=>q (e▸hx)⟩
  ·unfold hk at hx;rw[aaj]at hx;rcases aay.mp hx with hx | hx
   ·exact k.sub x hx
   ·have:x=s.1:=by simpa using hx
    rw[this];exact hs
theorem Hok.Aw:∀{w:List Step} {h:List (Int×Int)},Hok r h->(∀s∈w,s.1∈r)->Hok r (bU h w)
 |[],_,k,_=>k
 |s::w,h,k,hs=>by rw[bU];exact Hok.Aw (w:=w) (k.lead (hs s PU)) fun u hu=>hs u (Ds _ hu)
theorem DC:pr c∈hkP h↔c∈hk h:=by
 unfold hkP hk;rw[aak,aak];constructor
 ·rintro⟨e,he,q⟩;exact⟨e,he,Au q⟩
 ·rintro⟨e,he,q⟩;exact⟨e,he,by rw[q]⟩
theorem BX(r:List Int)(hl:r.length<=1000)(h:List (Int×Int))(k:Hok r h)(w:List Step)(hw:∀s∈w,s.1∈r):Nj [aZ h,rwG lbP w]=some (.val .non,aZ (bU h w)):=by
 suffices q:WrM (Nj [aZ h,rwG lbP w]) fun z d=>z=.val .non/\d=aZ (bU h w) by obtain⟨z,d,h1,rfl,rfl⟩:=q;exact h1
 unfold Nj;refine ad7 ?_ rfl rfl;refine adv (adI (aa_ rfl (ada (iK ?_))));refine adx (stG lbP) _ _ w _ _ _ _ _ (fun p q ρ=>∃c2 c3,ρ=[.ow (aZ (bU h p)),.sh (rwG lbP w),c2,c3]) ⟨_,_,rfl⟩ ?_ ?_
 ·rintro p s q ρ e ⟨c2,c3,rfl⟩;refine Dm.fF rfl (by trivial) ?_;have kp:Hok r (bU h p):=k.Aw fun u hu=>hw u (by rw[e];exact aaA _ hu);have len:=kp.len;unfold R9;refine adm (adh (ac3 (aa_ rfl (ac9 rfl (aei (i:=s.1 / 20) (j:=s.1 % 20) ?_ rfl rfl)))));refine ac_ ?_;rw[nh,aba,vg];refine adq (fun hm=>?_) fun hm=>?_
  ·obtain⟨x,hx⟩:∃x,hdF (bU h p) s.1=some x:=aaH.mp (by rw[vg];exact decide_eq_true hm);refine adG (aeE (p:=s.1 / 20) (q:=s.1 % 20) (d:=.int x) (by rw[nh,hx];rfl) ?_ rfl rfl rfl);refine⟨.sh (lbP s.1),.sh (.int s.2),?_⟩;rw[jZ,n5,if_pos hm,(zA _ _).1,(zA _ _).2];rfl
  ·refine aet (aa_ rfl (ada (wH rfl (aa_ rfl (An (p:=s.1 / 20) (q:=s.1 % 20) ?_ rfl rfl (by trivial) ?_)))))
   ·refine⟨.sh (lbP s.1),.sh (.int s.2),?_⟩;rw[jZ,n5,if_neg hm];obtain⟨p1,p2⟩:=EY (ks:=hkP (bU h p)) (vs:=hv (bU h p)) (p:=pr s.1) (d:=.int s.2) (fun z=>hm (DC.mp z));unfold pr at p1 p2;rw[p1,p2];unfold aZ hkP hv;rw[aaj,aaj];rfl
   ·unfold hkP;rw[Pa];unfold SZ;lia
 ·rintro ρ ⟨c2,c3,rfl⟩;exact⟨_,rfl,rfl,rfl⟩
noncomputable def bM(r:List Int)(p:Int):List Step:=(r.filter fun c=>decide (Fd.src c=p)).map fun c=>(c,Fd.dst c)
theorem ni:s∈bM r p↔s.1∈r/\Fd.src s.1=p/\Fd.dst s.1=s.2:=by
 unfold bM;rw[aak];constructor
 ·rintro⟨c,hc,rfl⟩;obtain⟨h1,h2⟩:=aaO.mp hc;exact⟨h1,of_decide_eq_true h2,rfl⟩
 ·rintro⟨h1,h2,h3⟩;exact⟨s.1,aaO.mpr ⟨h1,decide_eq_true h2⟩,by rw[h3]⟩
theorem rW(r:List Int)(p:Int):(bM r p).length<=r.length:=by unfold bM;rw[Pa];exact abz _ _
def Dr(n:Nat)(r:List Int):Prop:=∀c∈r,0<=Fd.src c/\Fd.src c<n/\0<=Fd.dst c/\Fd.dst c<n
theorem E6(hp:Dr n r)(h:Fd.ku r x s):(0<=x/\x<n)/\0<=s.2/\s.2<n:=by
 obtain⟨hs,he⟩:=h;have:=hp s.1 hs
 lia
theorem Hx{R:Int->Step->Prop}(hR:∀p s,R p s->Fd.ku r p s):∀{w:List Step} {x:Int},Way R x w y->∀s∈w,s.1∈r
 |[],_,_,s,hs=>by cases hs
 |u::w,x,h,s,hs=>by
  rcases aah.mp hs with rfl | hs
  ·exact(hR _ _ h.1).1
  ·exact Hx hR h.2 s hs
theorem DG:InR (qZ h (bM r)) p s↔Fd.Led r (hdF h) p s:=by
 unfold InR qZ Fd.Led;rw[aaO,ni,decide_eq_true_iff];constructor
 ·rintro⟨⟨h1,h2,h3⟩,h4⟩;exact⟨h1,h4,h2,h3⟩
 ·rintro⟨h1,h4,h2,h3⟩;exact⟨⟨h1,h2,h3⟩,h4⟩
theorem E7(c:Int):bJ (lbP c)=true:=by unfold lbP bJ;exact mU _ (by intro x hx;simp at hx;rcases hx with rfl | rfl<;>exact mV _)
theorem KJ(w:List Step):bJ (rwG lbP w)=true:=iD _ _ fun s=>by unfold stG bJ;exact mU _ (by intro x hx;simp at hx;rcases hx with rfl | rfl;exact E7 _;exact mV _)
theorem nj(n:Nat)(R:Int->List Step):bJ (rsG lbP n R)=true:=iD (fun i:Nat=>rwG lbP (R i)) _ fun i=>KJ _
noncomputable def mso(w:List Step):List Int:=w.map (·.1)
noncomputable def msD(w:List Step):Dat:=.lst ((mso w).map lbP)
noncomputable def di(h:List (Int×Int)):List Int->List (Int×Int)
 |[]=>h
 |m::ms=>di (h.filter fun e=>decide (e.1≠m)) ms
theorem o7:∀(ms:List Int) (h:List (Int×Int)) (m:Int),di h (ms++[m])=(di h ms).filter fun e=>decide (e.1≠m)
 |[],_,_=>rfl
 |_::ms,h,m=>by rw[abW,di,di,o7 ms]
theorem kO:∀(w:List Step) (h:List (Int×Int)),hdF (di h (mso w))=jy (hdF h) w
 |[],_=>rfl
 |s::w,h=>by show hdF (di _ (mso w))=jy _ w;rw[kO w,Av]
theorem o8:∀(ms:List Int) (h:List (Int×Int)) (x:Int),x∉ms->hdF (di h ms) x=hdF h x
 |[],_,_,_=>rfl
 |m::ms,h,x,hx=>by rw[di,o8 ms _ x fun z=>hx (Ds _ z),Av];unfold put;rw[if_neg fun z=>hx (by rw[z];exact PU)]
theorem Hok.drops:∀{ms:List Int} {h:List (Int×Int)},Hok r h->Hok r (di h ms)
 |[],_,k=>k
 |m::ms,h,k=>by rw[di];exact Hok.drops (ms:=ms) (k.drop m)
theorem Hy{H:Hd}:∀{w:List Step} {x:Int},Way (Fd.Led r H) x w y->∀s∈w,H s.1=some s.2
 |[],_,_,s,hs=>by cases hs
 |u::w,x,h,s,hs=>by
  rcases aah.mp hs with rfl | hs
  ·exact h.1.2.1
  ·exact Hy h.2 s hs
structure QJ(r:List Int)(H:Hd)(a b:Int)(ws:List (List Step)):Prop where
 way:∀w∈ws,Dz (Fd.Led r H) a w b
 nd:(ws.map mso).flatten.Nodup
theorem E8:∀{w:List Step} {H:Hd} {c x:Int},jy H w c=some x->H c=some x
 |[],_,_,_,h=>h
 |s::w,H,c,x,h=>by
  have:=E8 (w:=w) h;unfold put at this;split at this
  ·cases this
  ·exact this
noncomputable def KL(n:Nat)(r:List Int)(h0 h:List (Int×Int))(a b:Int)(c:Nat)(ws:List (List Step))(c7 c8 c9:Cell):Env:=
 [.sh (rsG lbP n (bM r)),.sh (aZ h0),.sh (.int a),.sh (.int b),.sh (.int c),.ow (aZ h),.ow (.lst (ws.map msD)),c7,c8,c9]
theorem KN(n:Nat)(hn:n<=20)(r:List Int)(hp:Dr n r)(nd:r.Nodup)(hl:r.length<=1000)(h:List (Int×Int))(k:Hok r h)(a b:Int)(a0:0<=a)(a1:a<n)(c:Nat)(hc:c<=1000)(fl:Fd.Flow r (hdF h) a b c) :
  ∃ws:List (List Step),Ct [rsG lbP n (bM r),aZ h,.int a,.int b,.int c]=some (.new (.lst (ws.map msD)))/\ws.length=c/\QJ r (hdF h) a b ws:=by
 suffices q:Wr (Ct [rsG lbP n (bM r),aZ h,.int a,.int b,.int c]) fun v=>∃ws:List (List Step),v=.new (.lst (ws.map msD))/\ws.length=c/\QJ r (hdF h) a b ws by obtain⟨v,h1,ws,rfl,h2⟩:=q;exact⟨ws,h1,h2⟩
 have hsm:oX (hkP h)=true:=by
  unfold oX hkP;rw[List.all_map];refine aa1.mpr fun e he=>?_;have:=hp e.1 (k.sub e.1 (aak.mpr ⟨e,he,rfl⟩));unfold Fd.src Fd.dst at this;show decide (0<=e.1 / 20/\e.1 / 20<20/\0<=e.1 % 20/\e.1 % 20<20)=true;rw[decide_eq_true_iff]
  lia
 unfold Ct
 (refine Dm.ade ?_ rfl rfl;and_intros)
 refine ac4 (ac6 (adp (m_ (aa_ rfl (ab_ (aeY (ks:=hkP h) (vs:=hv h) ?_ rfl hsm))))) (by decide));refine ac8 ?_ (by trivial);refine ac4 (ac6 (adu (ab_ (adg ?_ rfl rfl (by decide)))) (by decide));refine ac8 ?_ (by trivial);refine ac4 (adv (adJ (aa_ rfl (jx.mk ⟨?_,by unfold BIG;lia,by unfold BIG;lia⟩))));refine adx (fun i:Nat=>Dat.int (0+(i:Nat))) _ _ (aas c) _ _ _ _ _ (fun p q ρ=>∃(h':List (Int×Int)) (ws:List (List Step)) (c7 c8 c9:Cell),ρ=KL n r h h' a b c ws c7 c8 c9/\Hok r h'/\ws.length=p.length/\Fd.Flow r (hdF h') a b q.length/\QJ r (hdF h) a b ws/\(∀m∈(ws.map mso).flatten,hdF h' m=none)/\∀c x,hdF h' c=some x->hdF h c=some x)
  ⟨h,[],_,_,_,rfl,k,rfl,by rw[aaM];exact fl,⟨by simp,by simp⟩,by simp,fun _ _ z=>z⟩ ?_ ?_
 ·rintro p x q ρ e ⟨h',ws,c7,c8,c9,rfl,k',wl,fl',W,hno,hle⟩;rw[aaR]at fl';unfold KL;refine Dm.fF rfl (by trivial) ?_;unfold Nl;have hR:∀i:Nat,i<n->(bM r i).length<=1000:=fun i _=>aaE (rW r i) hl;obtain⟨s,es,F,hd⟩:=rV lbP n (by lia) (qZ h' (bM r)) (fun i _ _ u hu=>(E6 hp ((DG (h:=h')).mp hu).along).2) a a0 a1;have hb:b∈sk s:=by
   have:=fl'.reach (S:=fun y=>decide (y∈sk s)) (decide_eq_true F.st) fun y u hy hu=>decide_eq_true (hd y (of_decide_eq_true hy) u (DG.mpr hu));exact of_decide_eq_true this
  obtain⟨w,t1,t2⟩:∃w,(b,w)∈s/\cL (sk s) (svG lbP s) b=some (rwG lbP w):=by
   rcases As lbP s b with h | h
   ·exact h
   ·exact absurd hb h.1
  obtain⟨⟨w1,w2⟩,_⟩:=F.way _ t1;have BW:=F.BW t1;have X6:=F.len;dsimp only at w1 w2 BW;have w1':Way (Fd.Led r (hdF h')) a w b:=w1.mono fun _ _ z=>DG.mp z;have wm:=Fd.rR (fun p s h=>h.along) w1' w2;have UZ:iS (e2 gDx (eF qL [(wG Nh [(eV 0),(eV 5)]),(eV 2)]) (eV 3)) [.sh (rsG lbP n (bM r)),.sh (aZ h),.sh (.int a),.sh (.int b),.sh (.int c),.ow (aZ h'),.ow (.lst (ws.map msD)),.sh (.int (0+(x:Nat))),c8,c9]
    = some (w.map (stG lbP),[.sh (rsG lbP n (bM r)),.sh (aZ h),.sh (.int a),.sh (.int b),.sh (.int c),.ow (aZ h'),.ow (.lst (ws.map msD)),.sh (.int (0+(x:Nat))),c8,c9]):=by
   apply adP;refine adI (ac3 (adb (m_ (adU (m_ (aa_ rfl (m_ (ac9 rfl (ab_ ?_)))))))));refine⟨_,_,_,rfl,DB n (by lia) (bM r) hR h',nj _ _,?_⟩;refine m_ (aa_ rfl (ab_ (adf es ?_ rfl rfl rfl rfl)));refine aa_ rfl (adX t2 ?_ rfl rfl);exact ada (iK ⟨rfl,rfl⟩)
  refine ac4 (ac6 (adR (stG lbP) w (fun s=>s.1) lbP ?_ UZ rfl (by decide) (by unfold SZ;lia) fun s _=>ac3 (aa_ rfl (ac5 (ac7 (ada ⟨rfl,rfl⟩) rfl rfl rfl)))) (by decide));refine ac8 ?_ (by trivial);refine ac4 (adv (adI (ac9 rfl (aec (iK ?_) rfl (by trivial)))));refine adx lbP _ _ (mso w) _ _ _ _ _ (fun pm qm ρ=>∃c9,ρ=KL n r h (di h' pm) a b c ws (.sh (.int (0+(x:Nat)))) (.sh (msD w)) c9) ⟨_,rfl⟩ ?_ ?_
  ·rintro pm m qm ρ em ⟨c9,rfl⟩;unfold KL;refine Dm.fF rfl (by trivial) ?_;unfold Nk;have hm:m∉pm:=by
    have:(mso w).Nodup:=wm;rw[em]at this;exact fun z=>(aa3.mp this).2.2 m z m PU rfl
   have hmw:m∈mso w:=by rw[em];simp
   obtain⟨st,hst,rfl⟩:=aak.mp hmw;have hx:hdF (di h' pm) st.1=some st.2:=by rw[o8 pm h' st.1 hm];exact Hy w1' st hst
   refine adG (aeE (p:=st.1 / 20) (q:=st.1 % 20) (d:=.int st.2) (by rw[nh,hx];rfl) ?_ rfl rfl rfl);refine⟨.sh (lbP st.1),?_⟩;rw[o7,(zA _ _).1,(zA _ _).2];rfl
  ·rintro ρ ⟨c9,rfl⟩;unfold KL;refine adV (aa_ rfl (ada (Ak ?_ rfl (by trivial) ?_))) rfl
   ·have fl2:=fl'.less nd w1' w2;rw[<- kO]at fl2;refine⟨di h' (mso w),ws++[w],.sh (.int (0+(x:Nat))),.sh (msD w),c9,?_,k'.drops,by simp[wl],fl2,⟨fun v hv=>?_,?_⟩,fun m hm=>?_,fun c x z=>hle c x (E8 (by rw[<- kO];exact z))⟩
    ·rw[aaj];rfl
    ·rcases aay.mp hv with hv | hv
     ·exact W.way v hv
     ·rw[aaL.mp hv];exact⟨w1'.mono fun _ _ z=>⟨z.1,hle _ _ z.2.1,z.2.2⟩,w2⟩
    ·rw[aaj,abZ];refine aa3.mpr ⟨W.nd,by rw[gc,abw,aa5,acd,aaP];exact wm,fun m hm z hz=>?_⟩;intro e;subst e;have:m∈mso w:=by simpa using hz
     obtain⟨st,hst,rfl⟩:=aak.mp this;have h1:=Hy w1' st hst;rw[hno _ hm]at h1;cases h1
    ·rw[aaj,abZ]at hm;rw[kO];rcases aay.mp hm with hm | hm
     ·by_cases z:m∈mso w
      ·exact k_ z
      ·rw[lF fun u hu e=>z (aak.mpr ⟨u,hu,e⟩)];exact hno m hm
     ·rw[gc,abw,aa5,acd,aaP]at hm;exact k_ hm
   ·rw[Pa,wl];have:=congrArg List.length e;rw[aaM,aan]at this;unfold SZ;lia
 ·rintro ρ ⟨h',ws,c7,c8,c9,rfl,k',wl,fl',W,hno,hle⟩;unfold KL;refine adi (ac9 rfl (adz ?_ rfl));exact⟨ws,rfl,by rw[wl,aaM],W⟩
noncomputable def b7(t:Tie):Dat:=.tup [.int t.m,.int t.a,.int t.b]
noncomputable def bf(r:List Tie):Dat:=.lst (r.map b7)
def Pl(n:Nat)(r:List Tie):Prop:=∀t∈r,0<=t.a/\t.a<n/\0<=t.b/\t.b<n
theorem DH{ρ ρ1 ρ2 ρ3:Env}{rows:List (List Dat)}{m:Nat}{row:List Dat}{x:Val}(h1:i ρ=some (.val (.int k),ρ1))(h2:ixN rows.length k=some m)(h3:rows[m]?=some row)(h4:e ρ1=some (x,ρ2))(h5:tk ρ2 x=some (d,ρ3))(h6:row.length<SZ) :
  Ac i e ρ rows=some (ρ3,rows.set m (row++[d])):=by
 unfold Ac;rw[h1];dsimp only;rw[h2];dsimp only;rw[h3];dsimp only;rw[h4];dsimp only;rw[h5];dsimp only;rw[if_pos h6]
theorem Hz(h0:0<=k)(h1:k<n):ixN n k=some k.toNat:=by unfold ixN;rw[if_pos h0,if_pos h1]
theorem DJ(pre:Env)(k:Nat)(hk:pre.length=k)(h0:k≠0):∀(ds:List Dat) (c:Cell),∃c',nMk (bN k) ds (pre++[c])=some (pre++[c'])
 |[],c=>⟨c,rfl⟩
 |d::ds,c=>by
  obtain⟨c',e⟩:=DJ pre k hk h0 ds (.sh d);refine⟨c',?_⟩;rw[nMk];have:bN k d (pre++[c])=some (pre++[.sh d]):=by unfold bN;rw[if_neg h0,acg _ _ (by lia)];simp[hk]
  rw[this];exact e
noncomputable def cC(n:Nat)(R:Int->List Step):List (List Dat):=(aas n).map fun i:Nat=>(R i).map (stG lbP)
noncomputable def DK(R:Int->List Step)(k:Int)(s:Step):Int->List Step:=fun x=>if x=k then R x++[s] else R x
theorem qG(n:Nat)(R:Int->List Step):(cC n R).length=n:=by simp[cC]
theorem wK(n:Nat)(R:Int->List Step)(i:Nat)(h:i<n):(cC n R)[i]?=some ((R i).map (stG lbP)):=by unfold cC;rw[aao,abb h];rfl
theorem KP(n:Nat)(R:Int->List Step)(k:Int)(s:Step)(h0:0<=k)(h1:k<n):(cC n R).set k.toNat ((R k).map (stG lbP)++[stG lbP s])=cC n (DK R k s):=by
 apply abg;intro i;by_cases hi:i<n
 ·rw[wK _ _ _ hi];unfold DK;by_cases e:k.toNat=i
  ·have e':(i:Int)=k:=by lia
   rw[<- e,aap (by rw[qG];lia),e,if_pos e',e',aaj];rfl
  ·rw[gV e,wK _ _ _ hi,if_neg (by lia)]
 ·rw[aaq (by rw[aaC,qG];lia),aaq (by rw[qG];lia)]
theorem Cz(n:Nat):cC n (fun _=>[])=Dp n []:=by
 unfold cC;apply abg;intro i;by_cases hi:i<n
 ·rw[aao,abb hi,aaK,if_pos hi];rfl
 ·rw[aaq (by simp;lia),aaq (by simp;lia)]
theorem E9(n:Nat)(R:Int->List Step):Dat.lst ((cC n R).map Dat.lst)=rsG lbP n R:=by unfold cC rsG;rw[aaN];rfl
theorem DL(n:Nat)(R:Int->List Step)(k:Int)(s:Step)(h0:0<=k)(h1:k<n)(hl:(R k).length<10000){ρ:Env}(hi:i ρ=some (.val (.int k),ρ))(he:e ρ=some (.val (stG lbP s),ρ)):Ac i e ρ (cC n R)=some (ρ,cC n (DK R k s)):=by
 have hz:SZ=100000:=rfl;have ek:((k.toNat:Nat):Int)=k:=by lia
 rw[DH (k:=k) (m:=k.toNat) (row:=(R k).map (stG lbP)) (d:=stG lbP s) (ρ3:=ρ) hi (by rw[qG];exact Hz h0 h1) (by rw[wK _ _ _ (by lia),ek]) he rfl (by rw[Pa];lia),KP n R k s h0 h1]
theorem E_(p:List Int)(c:Int):DK (bM p) (Fd.src c) (c,Fd.dst c)=bM (p++[c]):=by
 funext x
 unfold DK bM;rw[List.filter_append,aaj];by_cases e:x=Fd.src c
 ·rw[if_pos e,aaT (by simp[e])];rfl
 ·rw[if_neg e,aaS (by simp;exact fun z=>e z.symm)];simp
theorem Fb(n:Nat)(c0 c1 c2 c3:Cell):∀(q p:List Int) (c4:Cell),Dr n q->p.length+q.length<=1000 ->
  ∃c4',iJ (bN 4) ng (q.map lbP) [c0,c1,c2,c3,c4] (cC n (bM p))=some ([c0,c1,c2,c3,c4'],cC n (bM (p++q)))
 |[],p,c4,_,_=>⟨c4,by rw[aaP];rfl⟩
 |c::q,p,c4,hp,hl=>by
  obtain⟨a0,a1,_,_⟩:=hp c PU;rw[aaR]at hl;obtain⟨c4',e⟩:=Fb n c0 c1 c2 c3 q (p++[c]) (.sh (lbP c)) (fun u hu=>hp u (Ds _ hu)) (by rw[aan,abp];lia);refine⟨c4',?_⟩;rw[gc,iJ];have sl:=rW p (Fd.src c);have h1:ng [c0,c1,c2,c3,.sh (lbP c)] (cC n (bM p))=some ([c0,c1,c2,c3,.sh (lbP c)],cC n (bM (p++[c]))):=by unfold ng;rw[DL n (bM p) (Fd.src c) (c,Fd.dst c) a0 a1 (by lia) rfl rfl,E_]
  show (match ng [c0,c1,c2,c3,.sh (lbP c)] (cC n (bM p)) with | none=>none | some (ρ2,r2)=>iJ (bN 4) ng (q.map lbP) ρ2 r2)=_;rw[h1];dsimp only;rw[e,abt];rfl
noncomputable def thr(n:Nat):List Int:=(aas n).map fun p:Nat=>20*(p:Int)+((n:Int)+p)
theorem QK(n:Nat)(hn:n<=10):(thr n).map lbP=(aas n).map fun p:Nat=>Dat.tup [.int (p:Int),.int ((n:Int)+p)]:=by unfold thr;rw[aaN];refine abv fun p hp=>?_;have:=aaV.mp hp;show lbP _=_;unfold lbP;rw[show (20*(p:Int)+((n:Int)+p)) / 20=(p:Int) by lia,show (20*(p:Int)+((n:Int)+p)) % 20=(n:Int)+p by lia]
theorem CA(K:List (Int×Int)):(hkP K).map pairD=(hk K).map lbP:=by unfold hkP hk;rw[aaN,aaN];rfl
theorem aeU{s:FS}{ρ ρ':Env}(h:Ws s ρ (fun x=>x=ρ') (fun _ _=>False) (fun _=>False) (fun _=>False)):s ρ=some (.nx ρ'):=by
 obtain⟨o,e,h⟩:=h;cases o with
 |nx ρ1=>rw[e,show ρ1=ρ' from h]
 |_=>exact h.elim
theorem Nv(n:Nat):ups 0 n=(aas n).map fun i:Nat=>Dat.int (i:Int):=by unfold ups;exact abv fun i _=>by rw[Int.zero_add]
theorem Nx(n:Nat)(n10:n<=10)(K:List (Int×Int))(hK:Dr (2*n) (hk K))(hl:K.length<=900) :
  Jl [.int n,aZ K]=some (.new (rsG lbP (2*n) (bM (hk K++thr n)))):=by
 have hz:SZ=100000:=rfl;have tl:(thr n).length=n:=by simp[thr]
 have kl:(hk K).length=K.length:=by simp[hk]
 have hT:Dr (2*n) (thr n):=fun c hc=>by
  obtain⟨p,hp,rfl⟩:=aak.mp hc;have:=aaV.mp hp;unfold Fd.src Fd.dst
  lia
 obtain⟨c4,e⟩:=Fb (2*n) (.sh (.int n)) (.sh (aZ K)) .un (.ow (.lst ((thr n).map lbP))) (hk K++thr n) [] .un (fun c hc=>(aay.mp hc).elim (hK c) (hT c)) (by rw[aan];simp;lia);obtain⟨c',eM⟩:=DJ [.sh (.int n),.sh (aZ K),.un,.un,.un] 5 rfl (by decide) (ups 0 (2*n)) .un;have hu:(ups 0 (2*n)).length=2*n:=by simp[ups]
 have e1:iR1 (e2 oJ (eC (.int 2)) (eV 0)) [.sh (.int n),.sh (aZ K),.un,.un,.un]=some (ups 0 (2*n),[.sh (.int n),.sh (aZ K),.un,.un,.un]):=by apply adP;refine adJ (ac3 (ac5 (aa_ rfl (adZ (jx.mk ⟨⟨?_,rfl⟩,by unfold BIG;lia⟩) rfl rfl (.inl (by unfold B64;lia))))));rw[show ((2:Int)*(n:Int)).toNat=2*n by lia]
 have eS:bM []=fun _=>[]:=by funext x;rfl
 rw[eS,Cz,abO]at e;have eA:sA 3 (dY (iR1 (eV 0)) 1 (bN 5) cz (gm [(eV 5),(e2 cQ (eV 0) (eV 5))])) [.sh (.int n),.sh (aZ K),.un,.un,.un]=some (.nx [.sh (.int n),.sh (aZ K),.un,.ow (.lst ((thr n).map lbP)),.un]):=by
  apply aeU;refine ac6 (adR (fun i:Nat=>Dat.int (i:Int)) (aas n) (fun p:Nat=>Dat.tup [.int (p:Int),.int ((n:Int)+p)]) id ?_ (adP (adJ (aa_ rfl (jx.mk ⟨⟨?_,rfl⟩,by unfold BIG;lia⟩)))) rfl (by decide) (by rw[aaM];lia) fun p _=>?_) (by decide)
  ·rw[abd,<- QK n n10];exact ac8 rfl (by trivial)
  ·rw[ab8,Nv]
  ·exact adC (m_ (aa_ rfl (m_ (ac3 (aa_ rfl (aa_ rfl (adn (ab_ (adg (ada ⟨rfl,rfl⟩) rfl rfl (by exact aaa rfl))) rfl rfl)))))))
 have eL:iS (e2 cQ (eB lV [(eV 1)]) (eV 3)) [.sh (.int n),.sh (aZ K),.un,.ow (.lst ((thr n).map lbP)),.un]=some ((hk K++thr n).map lbP,[.sh (.int n),.sh (aZ K),.un,.ow (.lst ((thr n).map lbP)),.un]):=by
  apply adP;refine adI (ac3 (adp (m_ (aa_ rfl (ab_ (aeV (ks:=hkP K) (vs:=hv K) (ac9 rfl (adL ?_ rfl rfl ?_)) rfl ?_))))))
  ·rw[CA,<- aaj];exact adE (iK ⟨rfl,rfl⟩)
  ·rw[CA,Pa,Pa];lia
  ·unfold hkP;rw[Pa];lia
 have en:k9 2 (iR1 (e2 oJ (eC (.int 2)) (eV 0))) 1 (bN 5) (yG (nA 2 3 (dY (iR1 (eV 0)) 1 (bN 5) cz (gm [(eV 5),(e2 cQ (eV 0) (eV 5))]))) (oi (iS (e2 cQ (eB lV [(eV 1)]) (eV 3))) (bN 4) ng)) [.sh (.int n),.sh (aZ K),.un,.un,.un]=some (.nx [.sh (.int n),.sh (aZ K),.ow (rsG lbP (2*n) (bM (hk K++thr n))),.ow (.lst ((thr n).map lbP)),c4]):=by
  unfold k9;rw[if_neg (by decide),e1];dsimp only;rw[if_pos (by rw[hu];lia)];show (match nMk (bN 5) (ups 0 (2*n)) ([.sh (.int n),.sh (aZ K),.un,.un,.un]++[.un]) with | none=>none | some ρ2=>_)=_;rw[eM];dsimp only;rw[hu];have:yG (nA 2 3 (dY (iR1 (eV 0)) 1 (bN 5) cz (gm [(eV 5),(e2 cQ (eV 0) (eV 5))]))) (oi (iS (e2 cQ (eB lV [(eV 1)]) (eV 3))) (bN 4) ng) [.sh (.int n),.sh (aZ K),.un,.un,.un] (Dp (2*n) [])=some ([.sh (.int n),.sh (aZ K),.un,.ow (.lst ((thr n).map lbP)),c4],cC (2*n) (bM (hk K++thr n))):=by unfold yG nA;rw[if_neg (by decide),eA];dsimp only;unfold oi;rw[eL];exact e
  show (match yG (nA 2 3 (dY (iR1 (eV 0)) 1 (bN 5) cz (gm [(eV 5),(e2 cQ (eV 0) (eV 5))]))) (oi (iS (e2 cQ (eB lV [(eV 1)]) (eV 3))) (bN 4) ng) [.sh (.int n),.sh (aZ K),.un,.un,.un] (Dp (2*n) []) with | none=>none | some (ρ3,r3)=>_)=_;rw[this];show some (Out.nx [.sh (.int n),.sh (aZ K),.ow (.lst ((cC (2*n) (bM (hk K++thr n))).map Dat.lst)),.ow (.lst ((thr n).map lbP)),c4])=_;rw[E9]
 apply adk;unfold Jl
 (refine Dm.ade ?_ rfl rfl;and_intros)
 refine ac4 ⟨_,en,?_⟩;refine adi (ac9 rfl (adz ?_ rfl));rfl
noncomputable def putL(h:List (Int×Int))(c m:Int):List (Int×Int):=if c∈hk h then h.map fun e=>if e.1=c then (e.1,m) else e else h++[(c,m)]
theorem Fc(h:List (Int×Int))(c m:Int):Cp (hkP h) (hv h) (c / 20,c % 20) (.int m)=hv (h.map fun e=>if e.1=c then (e.1,m) else e)/\hkP (h.map fun e=>if e.1=c then (e.1,m) else e)=hkP h:=by
 unfold hkP hv
 induction h with
 |nil=>exact⟨rfl,rfl⟩
 |cons e h ih=>
  rw[gc,gc,gc,gc,gc,Cp,ih.1,ih.2];by_cases q:e.1=c
  ·rw[if_pos (by rw[q];rfl),if_pos q];exact⟨rfl,rfl⟩
  ·rw[if_neg (fun z:pr e.1=(c / 20,c % 20)=>q (Au z)),if_neg q];exact⟨rfl,rfl⟩
theorem Ny(h:List (Int×Int))(c m:Int):Dat.dcp (j_ (hkP h) (c / 20,c % 20)) (lU (hkP h) (hv h) (c / 20,c % 20) (.int m))=aZ (putL h c m):=by
 by_cases q:c∈hk h
 ·have hp:Ai (hkP h) (c / 20,c % 20)=true:=by
   unfold Ai;rw[List.any_eq_true];exact⟨pr c,DC.mpr q,decide_eq_true rfl⟩
  unfold j_ lU putL aZ;rw[hp,if_pos rfl,if_pos rfl,if_pos q,(Fc h c m).1,(Fc h c m).2]
 ·obtain⟨p1,p2⟩:=EY (ks:=hkP h) (vs:=hv h) (p:=pr c) (d:=.int m) (fun z=>q (DC.mp z));unfold pr at p1 p2;rw[p1,p2];unfold putL aZ;rw[if_neg q];unfold hkP hv;rw[aaj,aaj];rfl
theorem Fe{c m x:Int}:x∈hk (putL h c m)↔x∈hk h\/x=c:=by
 unfold putL;by_cases q:c∈hk h
 ·rw[if_pos q];have:hk (h.map fun e=>if e.1=c then (e.1,m) else e)=hk h:=by
   unfold hk;rw[aaN];refine abv fun e _=>?_;show (if e.1=c then (e.1,m) else e).1=e.1;split<;>rfl
  rw[this];exact⟨.inl,fun z=>z.elim id fun e=>e▸q⟩
 ·rw[if_neg q];unfold hk;rw[aaj,aay];simp
theorem Ax{c m:Int}(nd:(hk h).Nodup):(hk (putL h c m)).Nodup:=by
 unfold putL;by_cases q:c∈hk h
 ·rw[if_pos q];have:hk (h.map fun e=>if e.1=c then (e.1,m) else e)=hk h:=by
   unfold hk;rw[aaN];refine abv fun e _=>?_;show (if e.1=c then (e.1,m) else e).1=e.1;split<;>rfl
  rw[this];exact nd
 ·rw[if_neg q];unfold hk;rw[aaj];exact aa3.mpr ⟨nd,by simp,fun x hx y hy=>by
   have:y=c:=by simpa using hy
   rw[this];exact fun e=>q (e▸hx)⟩
theorem Ay(h:List (Int×Int))(c m:Int):(putL h c m).length<=h.length+1:=by
 unfold putL;split
 ·rw[Pa];lia
 ·simp
noncomputable def cd(n:Nat)(u v:Int):Int:=20*((n:Int)+u)+v
noncomputable def QL(n:Nat)(h:List (Int×Int))(t:Tie):List (Int×Int):=if t.a=t.b then h else putL (putL h (cd n t.a t.b) t.m) (cd n t.b t.a) t.m
noncomputable def dZ(n:Nat)(r:List Tie):List (Int×Int):=r.foldl (QL n) []
theorem CB(n:Nat)(r:List Tie)(t:Tie):dZ n (r++[t])=QL n (dZ n r) t:=by unfold dZ;rw[List.foldl_append];rfl
structure Mom(n:Nat)(r:List Tie)(h:List (Int×Int)):Prop where
 nd:(hk h).Nodup
 mem:∀c,c∈hk h↔∃t∈r,t.a≠t.b/\(c=cd n t.a t.b\/c=cd n t.b t.a)
 len:h.length<=2*r.length
theorem DM(n:Nat)(r:List Tie):Mom n r (dZ n r):=by
 suffices h:∀q p:List Tie,Mom n p (dZ n p)->Mom n (p++q) (dZ n (p++q)) from h r [] ⟨by simp[dZ,hk],by simp[dZ,hk],by simp[dZ]⟩
 intro q
 induction q with
 |nil=>intro p h;rw[aaP];exact h
 |cons t q ih=>
  intro p h;rw[show p++t::q=(p++[t])++q by simp];refine ih _ ?_;rw[CB];unfold QL;by_cases e:t.a=t.b
  ·rw[if_pos e];refine⟨h.nd,fun c=>(h.mem c).trans ⟨fun⟨u,hu,k⟩=>⟨u,aaA _ hu,k⟩,?_⟩,by have:=h.len;rw[aan];simp;lia⟩;rintro⟨u,hu,k1,k2⟩;rcases aay.mp hu with hu | hu
   ·exact⟨u,hu,k1,k2⟩
   ·rw[aaL.mp hu]at k1;exact(k1 e).elim
  ·rw[if_neg e];refine⟨Ax (Ax h.nd),fun c=>?_,?_⟩
   ·rw[Fe,Fe,h.mem c];constructor
    ·rintro((⟨u,hu,k⟩ | k) | k)
     ·exact⟨u,aaA _ hu,k⟩
     ·exact⟨t,aaG _ (aaL.mpr rfl),e,.inl k⟩
     ·exact⟨t,aaG _ (aaL.mpr rfl),e,.inr k⟩
    ·rintro⟨u,hu,k1,k2⟩;rcases aay.mp hu with hu | hu
     ·exact .inl (.inl ⟨u,hu,k1,k2⟩)
     ·rw[aaL.mp hu]at k2;exact k2.elim (fun z=>.inl (.inr z)) .inr
   ·have l1:=Ay (putL (dZ n p) (cd n t.a t.b) t.m) (cd n t.b t.a) t.m;have l2:=Ay (dZ n p) (cd n t.a t.b) t.m;have:=h.len;rw[aan];simp
    lia
theorem DO{u v:Int}(h0:0<=v)(h1:v<20):cd n u v / 20=(n:Int)+u/\cd n u v % 20=v:=by
 unfold cd
 lia
theorem HA(n:Nat)(n10:n<=10)(r:List Tie)(hp:Pl n r)(hl:r.length<=400):Jk [.int n,bf r]=some (.new (aZ (dZ n r))):=by
 have hz:SZ=100000:=rfl;apply adk;unfold Jk
 (refine Dm.ade ?_ rfl rfl;and_intros)
 refine ac4 (ac6 (aeA (ac8 ?_ (by trivial))) (by decide));refine ac4 (adv (adI (aa_ rfl (ada (iK ?_)))));refine adx b7 _ _ r _ _ _ _ _ (fun p q ρ=>∃c3 c4 c5,ρ=[.sh (.int n),.sh (bf r),.ow (aZ (dZ n p)),c3,c4,c5]) ⟨_,_,_,rfl⟩ ?_ ?_
 ·rintro p t q ρ e ⟨c3,c4,c5,rfl⟩;have ht:t∈r:=by rw[e];simp
  obtain⟨a0,a1,b0,b1⟩:=hp t ht;have ml:=(DM n p).len;have pl:p.length<=r.length:=by rw[e];simp
  refine Dm.fF rfl (by trivial) ?_;unfold Nm;rw[CB];unfold QL;refine adm (adh (ac3 (aa_ rfl (aa_ rfl (adS (ac_ ?_) rfl rfl)))));by_cases h:t.a=t.b
  ·rw[decide_eq_true h,if_pos h];refine adF (adt ?_);exact⟨_,_,_,rfl⟩
  ·rw[decide_eq_false h,if_neg h];refine adQ (ac4 (aet (aa_ rfl (ada (wH rfl ?_)))));have e1:=DO (n:=n) (u:=t.a) (v:=t.b) b0 (by lia);have e2':=DO (n:=n) (u:=t.b) (v:=t.a) a0 (by lia);have l2:=Ay (dZ n p) (cd n t.a t.b) t.m;refine adC (m_ (ac3 (aa_ rfl (aa_ rfl (adn (m_ (aa_ rfl (ab_ (adg ?_ rfl rfl (by exact aaa rfl))))) rfl rfl)))));refine An (p:=(n:Int)+t.a) (q:=t.b) (ks:=hkP (dZ n p)) (vs:=hv (dZ n p)) ?_ rfl rfl rfl (by unfold hkP;rw[Pa];lia);have k1:=Ny (dZ n p) (cd n t.a t.b) t.m;rw[e1.1,e1.2]at k1;rw[k1];refine aet (aa_ rfl (ada (wH rfl ?_)));refine adC (m_ (ac3 (aa_ rfl (aa_ rfl (adn (m_ (aa_ rfl (ab_ (adg ?_ rfl rfl (by exact aaa rfl))))) rfl rfl)))));refine An (p:=(n:Int)+t.b) (q:=t.a) (ks:=hkP (putL (dZ n p) (cd n t.a t.b) t.m)) (vs:=hv (putL (dZ n p) (cd n t.a t.b) t.m)) ?_ rfl rfl rfl (by unfold hkP;rw[Pa];lia);have k2:=Ny (putL (dZ n p) (cd n t.a t.b) t.m) (cd n t.b t.a) t.m;rw[e2'.1,e2'.2]at k2;rw[k2];exact⟨_,_,_,rfl⟩
 ·rintro ρ ⟨c3,c4,c5,rfl⟩;exact adi (ac9 rfl (adz rfl rfl))
noncomputable def freeOf(H:Hd)(q:List (Int×Step))(x:Int):List Step:=q.filterMap fun e=>if (H e.2.1).isSome=true then (if x=e.2.2 then some (e.2.1,e.1) else none) else if x=e.1 then some e.2 else none
theorem Az(H:Hd)(q:List (Int×Step))(x:Int):(freeOf H q x).length<=q.length:=List.length_filterMap_le _ _
theorem KQ(H:Hd)(q:List (Int×Step))(d:Int)(u:Step)(h:(H u.1).isSome=true):DK (freeOf H q) u.2 (u.1,d)=freeOf H (q++[(d,u)]):=by
 funext x
 unfold DK freeOf;rw[ach];by_cases e:x=u.2
 ·rw[if_pos e];simp[h,e]
 ·rw[if_neg e];simp[h,e]
theorem HB(H:Hd)(q:List (Int×Step))(d:Int)(u:Step)(h:¬(H u.1).isSome=true):DK (freeOf H q) d u=freeOf H (q++[(d,u)]):=by
 funext x
 unfold DK freeOf;rw[ach];by_cases e:x=d
 ·rw[if_pos e];simp[h,e]
 ·rw[if_neg e];simp[h,e]
theorem Ff(n:Nat)(h:List (Int×Int))(c0 c2 c4:Cell)(d:Int)(d0:0<=d)(d1:d<n):∀(w:List Step) (Q:List (Int×Step)) (c5 c6:Cell),(∀u∈w,0<=u.2/\u.2<n)->Q.length+w.length<=9000 ->
  ∃c5' c6',iJ (bT [5,6]) rT (w.map (stG lbP)) [c0,.sh (aZ h),c2,.sh (.int d),c4,c5,c6] (cC n (freeOf (hdF h) Q))=some ([c0,.sh (aZ h),c2,.sh (.int d),c4,c5',c6'],cC n (freeOf (hdF h) (Q++w.map fun u=>(d,u))))
 |[],Q,c5,c6,_,_=>⟨c5,c6,by simp;rfl⟩
 |u::w,Q,c5,c6,hw,hl=>by
  rw[aaR]at hl;obtain⟨u0,u1⟩:=hw u PU;obtain⟨c5',c6',e⟩:=Ff n h c0 c2 c4 d d0 d1 w (Q++[(d,u)]) (.sh (lbP u.1)) (.sh (.int u.2)) (fun v hv=>hw v (Ds _ hv)) (by rw[aan,abp];lia);refine⟨c5',c6',?_⟩;rw[gc,iJ];have fl1:=Az (hdF h) Q d;have fl2:=Az (hdF h) Q u.2;have ht:tV (e2 qX (eV 5) (eV 1)) [c0,.sh (aZ h),c2,.sh (.int d),c4,.sh (lbP u.1),.sh (.int u.2)]=some ((hdF h u.1).isSome,[c0,.sh (aZ h),c2,.sh (.int d),c4,.sh (lbP u.1),.sh (.int u.2)]):=by refine ad8 (adh (ac3 (aa_ rfl (aa_ rfl (aei (i:=u.1 / 20) (j:=u.1 % 20) (ac_ ?_) rfl rfl)))));rw[nh,aba];exact⟨rfl,rfl⟩
  have h1:rT [c0,.sh (aZ h),c2,.sh (.int d),c4,.sh (lbP u.1),.sh (.int u.2)] (cC n (freeOf (hdF h) Q))=some ([c0,.sh (aZ h),c2,.sh (.int d),c4,.sh (lbP u.1),.sh (.int u.2)],cC n (freeOf (hdF h) (Q++[(d,u)]))):=by
   unfold rT nIf;rw[ht];by_cases q:(hdF h u.1).isSome=true
   ·rw[q];dsimp only;rw[DL n _ u.2 (u.1,d) u0 u1 (by lia) rfl rfl,KQ _ _ _ _ q]
   ·rw[acD.mpr q];dsimp only;rw[DL n _ d u d0 d1 (by lia) rfl rfl,HB _ _ _ _ q]
  show (match rT [c0,.sh (aZ h),c2,.sh (.int d),c4,.sh (lbP u.1),.sh (.int u.2)] (cC n (freeOf (hdF h) Q)) with | none=>none | some (ρ2,r2)=>iJ (bT [5,6]) rT (w.map (stG lbP)) ρ2 r2)=_;rw[h1];dsimp only;rw[e,abt];rfl
noncomputable def prs(R:Int->List Step)(j k:Nat):List (Int×Step):=(acR j k).flatMap fun i:Nat=>(R i).map fun u=>((i:Int),u)
theorem Fg(n:Nat)(h:List (Int×Int))(R:Int->List Step)(hR:∀i:Nat,i<n->∀u∈R i,0<=u.2/\u.2<n)(hL:∀i:Nat,(R i).length<=400)(c0 c2:Cell):∀(k j:Nat) (Q:List (Int×Step)) (c3 c4 c5 c6:Cell),j+k<=n->Q.length+400*k<=9000 ->
  ∃c3' c4' c5' c6',iJ (bT [3,4]) lW (uZ j ((acR j k).map fun i:Nat=>rwG lbP (R i))) [c0,.sh (aZ h),c2,c3,c4,c5,c6] (cC n (freeOf (hdF h) Q))=some ([c0,.sh (aZ h),c2,c3',c4',c5',c6'],cC n (freeOf (hdF h) (Q++prs R j k)))
 |0,j,Q,c3,c4,c5,c6,_,_=>⟨c3,c4,c5,c6,by simp[prs];rfl⟩
 |k+1,j,Q,c3,c4,c5,c6,hj,hq=>by
  have l1:=hL j;obtain⟨c5',c6',e1⟩:=Ff n h c0 c2 (.sh (rwG lbP (R j))) (j:Int) (by lia) (by lia) (R j) Q c5 c6 (hR j (by lia)) (by lia);obtain⟨c3',c4',d5,d6,e2⟩:=Fg n h R hR hL c0 c2 k (j+1) (Q++(R j).map fun u=>((j:Int),u)) (.sh (.int (j:Int))) (.sh (rwG lbP (R j))) c5' c6' (by lia) (by rw[aan,Pa];lia);refine⟨c3',c4',d5,d6,?_⟩;rw[List.range'_succ,gc];show iJ (bT [3,4]) lW (.tup [.int (j:Int),rwG lbP (R j)]::uZ (j+1) ((acR (j+1) k).map fun i:Nat=>rwG lbP (R i))) _ _=_;rw[iJ];have h1:lW [c0,.sh (aZ h),c2,.sh (.int (j:Int)),.sh (rwG lbP (R j)),c5,c6] (cC n (freeOf (hdF h) Q))=some ([c0,.sh (aZ h),c2,.sh (.int (j:Int)),.sh (rwG lbP (R j)),c5',c6'],cC n (freeOf (hdF h) (Q++(R j).map fun u=>((j:Int),u)))):=by unfold lW oi;show (match some ((R j).map (stG lbP),_) with | none=>none | some (ds,ρ1)=>iJ (bT [5,6]) rT ds ρ1 _)=_;exact e1
  show (match lW [c0,.sh (aZ h),c2,.sh (.int (j:Int)),.sh (rwG lbP (R j)),c5,c6] (cC n (freeOf (hdF h) Q)) with | none=>none | some (ρ2,r2)=>iJ (bT [3,4]) lW (uZ (j+1) ((acR (j+1) k).map fun i:Nat=>rwG lbP (R i))) ρ2 r2)=_;rw[h1];dsimp only;rw[e2,abt];unfold prs;rw[List.range'_succ,List.flatMap_cons]
theorem BY(n:Nat)(hn:n<=20)(h:List (Int×Int))(R:Int->List Step)(hR:∀i:Nat,i<n->∀u∈R i,0<=u.2/\u.2<n)(hL:∀i:Nat,(R i).length<=400):Cw [rsG lbP n R,aZ h]=some (.new (rsG lbP n (freeOf (hdF h) (prs R 0 n)))):=by
 have hz:SZ=100000:=rfl;obtain⟨c3,c4,c5,c6,e⟩:=Fg n h R hR hL (.sh (rsG lbP n R)) .un n 0 [] .un .un .un .un (by lia) (by simp;lia);obtain⟨c',eM⟩:=DJ [.sh (rsG lbP n R),.sh (aZ h),.un,.un,.un,.un,.un] 7 rfl (by decide) ((aas n).map fun i:Nat=>rwG lbP (R i)) .un;have hu:((aas n).map fun i:Nat=>rwG lbP (R i)).length=n:=by simp
 have e0:freeOf (hdF h) []=fun _=>[]:=by funext x;rfl
 rw[e0,Cz,abO,<- List.range_eq_range']at e;have en:k9 2 (iS (eV 0)) 1 (bN 7) (oi (iEn (eV 0)) (bT [3,4]) lW) [.sh (rsG lbP n R),.sh (aZ h),.un,.un,.un,.un,.un]=some (.nx [.sh (rsG lbP n R),.sh (aZ h),.ow (rsG lbP n (freeOf (hdF h) (prs R 0 n))),c3,c4,c5,c6]):=by unfold k9;rw[if_neg (by decide)];show (if ((aas n).map fun i:Nat=>rwG lbP (R i)).length<=SZ then (match nMk (bN 7) ((aas n).map fun i:Nat=>rwG lbP (R i)) ([.sh (rsG lbP n R),.sh (aZ h),.un,.un,.un,.un,.un]++[.un]) with | none=>none | some ρ2=>_) else none)=_;rw[if_pos (by rw[hu];lia),eM];dsimp only;rw[hu];have:oi (iEn (eV 0)) (bT [3,4]) lW [.sh (rsG lbP n R),.sh (aZ h),.un,.un,.un,.un,.un] (Dp n [])=some ([.sh (rsG lbP n R),.sh (aZ h),.un,c3,c4,c5,c6],cC n (freeOf (hdF h) (prs R 0 n))):=e;show (match oi (iEn (eV 0)) (bT [3,4]) lW [.sh (rsG lbP n R),.sh (aZ h),.un,.un,.un,.un,.un] (Dp n []) with | none=>none | some (ρ3,r3)=>_)=_;rw[this];show some (Out.nx [.sh (rsG lbP n R),.sh (aZ h),.ow (.lst ((cC n (freeOf (hdF h) (prs R 0 n))).map Dat.lst)),c3,c4,c5,c6])=_;rw[E9]
 apply adk;unfold Cw
 (refine Dm.ade ?_ rfl rfl;and_intros)
 refine ac4 ⟨_,en,?_⟩;refine adi (ac9 rfl (adz ?_ rfl));rfl
theorem AA(hp:Dr n r){H:Hd}:InR (freeOf H (prs (bM r) 0 n)) p s↔Fd.jY r H p s:=by
 unfold InR freeOf Fd.jY;rw[abN];constructor
 ·rintro⟨⟨d,u⟩,hm,e⟩;unfold prs at hm;obtain⟨i,hi,hm⟩:=List.mem_flatMap.mp hm;obtain⟨v,hv,e1⟩:=aak.mp hm;cases e1;obtain⟨h1,h2,h3⟩:=ni.mp hv;dsimp only at e;split at e
  ·rename_i q;split at e
   ·rename_i q2;cases e;exact⟨h1,.inr ⟨q,by rw[q2];exact h3,h2⟩⟩
   ·cases e
  ·rename_i q;split at e
   ·rename_i q2;cases e;exact⟨h1,.inl ⟨by simpa using q,by rw[q2];exact h2,h3⟩⟩
   ·cases e
 ·rintro⟨hm,h⟩;obtain⟨a0,a1,b0,b1⟩:=hp s.1 hm;refine⟨(Fd.src s.1,(s.1,Fd.dst s.1)),?_,?_⟩
  ·unfold prs;refine List.mem_flatMap.mpr ⟨(Fd.src s.1).toNat,List.mem_range'_1.mpr ⟨by lia,by lia⟩,aak.mpr ⟨(s.1,Fd.dst s.1),ni.mpr ⟨hm,by show Fd.src s.1=_;lia,rfl⟩,?_⟩⟩;rw[show (((Fd.src s.1).toNat:Nat):Int)=Fd.src s.1 by lia]
  ·dsimp only;rcases h with⟨q,h1,h2⟩ | ⟨q,h1,h2⟩
   ·rw[if_neg (by rw[q];decide),if_pos h1.symm,h2]
   ·rw[if_pos q,if_pos h1.symm,h2]
theorem QM{H:Hd}{S:Int->Bool}(h:∀c∈r,(H c).isSome=true->S (Fd.dst c)=false):0<=Fd.bY r H S:=by
 induction r with
 |nil=>exact abX _
 |cons c r ih=>
  rw[Fd.bY];have:=ih fun d hd=>h d (Ds _ hd);have h2:0<=Fd.vd (H c) c S:=by
   unfold Fd.vd;split
   ·rename_i q;rw[h c PU q];cases S (Fd.src c)<;>decide
   ·exact abX _
  lia
theorem QN(nd:r.Nodup){H:Hd}{x c d e:Int}(h0:Fd.bY r H (fun y=>decide (y=x))=0)(hc:c∈r)(lc:(H c).isSome=true)(sc:Fd.src c=x)(tc:Fd.dst c≠x)
  (hd:d∈r) (ld:(H d).isSome=true) (sd:Fd.src d=x) (td:Fd.dst d≠x) (only:∀z∈r,Fd.dst z=x->z=e) (he:e∈r) (le:(H e).isSome=true) (te:Fd.dst e=x) (se:Fd.src e≠x):c=d:=by
 refine abF fun ne=>?_;have ce:c≠e:=fun z=>tc (z▸te);have de:d≠e:=fun z=>td (z▸te);have v1:∀{z:Int},Fd.src z=x->Fd.dst z≠x->∀{o:Option Int},o.isSome=true->Fd.vd o z (fun y=>decide (y=x))=1:=fun {z} a b {o} k=>by unfold Fd.vd;rw[if_pos k];show one (decide (Fd.src z=x))-one (decide (Fd.dst z=x))=1;rw[decide_eq_true a,decide_eq_false b];rfl
 have v2:Fd.vd (H e) e (fun y=>decide (y=x))=-1:=by unfold Fd.vd;rw[if_pos le];show one (decide (Fd.src e=x))-one (decide (Fd.dst e=x))=-1;rw[decide_eq_false se,decide_eq_true te];rfl
 have v0:∀z,Fd.vd none z (fun y=>decide (y=x))=0:=fun z=>rfl;have f1:=Fd.jW nd hc H none (fun y=>decide (y=x));have f2:=Fd.jW nd hd (put H c none) none (fun y=>decide (y=x));have f3:=Fd.jW nd he (put (put H c none) d none) none (fun y=>decide (y=x));rw[v0,v1 sc tc lc]at f1;rw[v0,show put H c none d=H d by unfold put;rw[if_neg (fun z=>ne z.symm)],v1 sd td ld]at f2;rw[v0,show put (put H c none) d none e=H e by unfold put;rw[if_neg (fun z=>de z.symm),if_neg (fun z=>ce z.symm)],v2]at f3;have nn:0<=Fd.bY r (put (put (put H c none) d none) e none) (fun y=>decide (y=x)):=QM fun z hz hs=>by refine decide_eq_false fun q=>?_;have:=only z hz q;subst this;unfold put at hs;rw[if_pos rfl]at hs;cases hs
 lia
theorem vh{R:Int->Step->Prop}:∀{w:List Step} {x y:Int},Way R x w y->w≠[]->∃w' p c,w=w'++[(c,y)]/\Way R x w' p/\R p (c,y)
 |[],x,y,h,ne=>(ne rfl).elim
 |[s],x,y,h,_=>by obtain⟨h1,h2⟩:=h;have h2:s.2=y:=h2;subst h2;exact⟨[],x,s.1,rfl,rfl,h1⟩
 |s::u::w,x,y,h,ne=>by obtain⟨w',p,c,e1,e2,e3⟩:=vh h.2 (List.cons_ne_nil u w);exact⟨s::w',p,c,by rw[e1];rfl,⟨h.1,e2⟩,e3⟩
theorem HC{R:Int->Step->Prop}{x y:Int}(h:Way R x w y)(ne:x≠y):w≠[]:=fun e=>by subst e;exact ne h
structure Nz(n:Nat)(r:List Tie)(A:List Int):Prop where
 nd:A.Nodup
 dr:Dr (2*n) A
 mem:∀c,c∈A↔(∃t∈r,t.a≠t.b/\(c=cd n t.a t.b\/c=cd n t.b t.a))\/∃p:Nat,p<n/\c=20*(p:Int)+((n:Int)+p)
theorem vj(n:Nat)(n10:n<=10)(r:List Tie)(hp:Pl n r):Nz n r (hk (dZ n r)++thr n):=by
 have m:=DM n r;have k1:∀c∈hk (dZ n r),(n:Int)<=Fd.src c/\Fd.src c<2*n/\0<=Fd.dst c/\Fd.dst c<n:=fun c hc=>by
  obtain⟨t,ht,ne,h⟩:=(m.mem c).mp hc;obtain⟨p1,p2,p3,p4⟩:=hp t ht;unfold Fd.src Fd.dst;rcases h with rfl | rfl
  ·obtain⟨e1,e2⟩:=DO (n:=n) (u:=t.a) (v:=t.b) p3 (by lia);rw[e1,e2];exact⟨by lia,by lia,p3,p4⟩
  ·obtain⟨e1,e2⟩:=DO (n:=n) (u:=t.b) (v:=t.a) p1 (by lia);rw[e1,e2];exact⟨by lia,by lia,p1,p2⟩
 have k2:∀c,c∈thr n↔∃p:Nat,p<n/\c=20*(p:Int)+((n:Int)+p):=fun c=>by
  unfold thr;rw[aak];constructor
  ·rintro⟨p,h1,rfl⟩;exact⟨p,aaV.mp h1,rfl⟩
  ·rintro⟨p,h1,rfl⟩;exact⟨p,aaV.mpr h1,rfl⟩
 refine⟨aa3.mpr ⟨m.nd,?_,fun x hx y hy=>?_⟩,fun c hc=>?_,fun c=>?_⟩
 ·unfold thr;exact acF.mpr (List.nodup_range.imp fun {a b} h z=>h (by lia))
 ·rintro rfl;obtain⟨p,h1,rfl⟩:=(k2 _).mp hy;have:=(k1 _ hx).1;unfold Fd.src at this
  lia
 ·rcases aay.mp hc with hc | hc
  ·have:=k1 c hc
   lia
  ·obtain⟨p,h1,rfl⟩:=(k2 c).mp hc;unfold Fd.src Fd.dst
   lia
 ·rw[aay,m.mem c,k2 c]
theorem DP(n10:n<=10){r:List Tie}(D:Nz n r A)(hp:Pl n r)(hc:c∈A)(h:(n:Int)<=Fd.dst c):Fd.src c=Fd.dst c-n/\Fd.src c<n:=by
 rcases (D.mem c).mp hc with⟨t,ht,ne,k⟩ | ⟨p,h1,rfl⟩
 ·have:=hp t ht;unfold Fd.dst at h;unfold cd at k
  lia
 ·unfold Fd.src Fd.dst
  lia
theorem QO(n10:n<=10){r:List Tie}(hp:Pl n r)(D:Nz n r A){H:Hd}{a b:Int}{k:Nat}(a0:0<=a)(a1:a<n)(b0:0<=b)(b1:b<n)(X3:∀t∈r,¬((t.a=a/\t.b=b)\/(t.a=b/\t.b=a)))(F:Fd.Flow A H ((n:Int)+a) b k)
  {S:Int->Prop} (hS:∀x,S x->x≠(n:Int)+a->∃p c,S p/\Fd.jY A H p (c,x)) (hb:¬S b) {w:List Step} (hw:Dz (Fd.Led A H) ((n:Int)+a) w b):∃c∈mso w,Fd.src c<n/\¬S (Fd.dst c):=by
 obtain⟨w1,w2⟩:=hw;obtain⟨w',p,c,e1,e2,e3⟩:=vh w1 (HC w1 (by lia));obtain⟨hc,lc,sc,tc⟩:=e3;dsimp only at hc lc sc tc;have hu:(n:Int)<=p/\p≠(n:Int)+a:=by
  rcases (D.mem c).mp hc with⟨t,ht,ne,q⟩ | ⟨z,h1,rfl⟩
  ·have:=hp t ht;have h2:=X3 t ht;unfold Fd.src at sc;unfold Fd.dst at tc;unfold cd at q
   lia
  ·unfold Fd.dst at tc;have:(20*(z:Int)+((n:Int)+z)) % 20=(n:Int)+z:=by lia
   lia
 obtain⟨w'',p',d,f1,f2,f3⟩:=vh e2 (HC e2 (fun z=>hu.2 z.symm));obtain⟨hd,ld,sd,td⟩:=f3;dsimp only at hd ld sd td;obtain⟨g1,g2⟩:=DP n10 D hp hd (by rw[td];exact hu.1);refine⟨d,?_,g2,?_⟩
 ·rw[e1,f1];unfold mso;simp
 ·rw[td];intro hs;obtain⟨q,x,hq,hx,hf⟩:=hS p hs hu.2;have only:∀z∈A,Fd.dst z=p->z=d:=fun z hz hzp=>by
   obtain⟨k1,_⟩:=DP n10 D hp hz (by rw[hzp];exact hu.1);unfold Fd.src Fd.dst at *
   lia
  dsimp only at hx hf;rcases hf with⟨z1,z2,z3⟩ | ⟨z1,z2,z3⟩
  ·have:=only x hx z3;rw[this,ld]at z1;cases z1
  ·have h0:Fd.bY A H (fun y=>decide (y=p))=0:=by
    rw[F.eq];rw[decide_eq_false (fun z=>hu.2 z.symm),decide_eq_false (by lia)];simp
   have hx2:=(D.dr x hx)
   have e:=QN D.nd h0 hc (by rw [lc];rfl) sc (by lia) hx z1 z3 (fun z=>by
    obtain⟨k1,_⟩:=DP n10 D hp hx (by rw[z];exact hu.1)
    lia) only hd (by rw[ld];rfl) td (by lia)
   apply hb;rw[<- tc,e,z2];exact hq
noncomputable def CC(n:Nat)(K:List Int)(c:Int):Bool:=decide (Fd.src c<n)&&!decide (Fd.dst c∈K)
noncomputable def Jq(n:Nat)(K:List Int)(w:List Step):List Int:=((mso w).filter (CC n K)).map Fd.src
noncomputable def DQ(n:Nat)(K:List Int)(w:List Step):Int:=(Jq n K w).headD 0
theorem BZ(n:Nat)(w:List Step)(s:Sr)(hl:w.length<=1000)(hx:∃c∈mso w,Fd.src c<n/\Fd.dst c∉sk s):E1 [.int n,msD w,.dct (sk s) (svG lbP s)]=some (.val (.int (DQ n (sk s) w))):=by
 have hz:SZ=100000:=rfl;have ml:(mso w).length=w.length:=by simp[mso]
 apply adk;unfold E1
 (refine Dm.ade ?_ rfl rfl;and_intros)
 refine adi (ac3 (adH lbP (mso w) (CC n (sk s)) Fd.src Dat.int (d:=msD w) ?_ rfl rfl rfl (by decide) (by lia) (fun c _=>?_) fun c _ _=>?_))
 ·refine ac5 ?_;obtain⟨c,hc,h1,h2⟩:=hx;have hm:c∈(mso w).filter (CC n (sk s)):=aaO.mpr ⟨hc,by unfold CC;rw[decide_eq_true h1,decide_eq_false h2];rfl⟩;have e:∃x r,Jq n (sk s) w=x::r:=by
   unfold Jq;cases q:(mso w).filter (CC n (sk s)) with
   |nil=>rw[q]at hm;cases hm
   |cons x r=>exact⟨_,_,rfl⟩
  obtain⟨x,r,e⟩:=e;show Wg2 gIx (some (.lst ((Jq n (sk s) w).map Dat.int))) _ _;unfold DQ;rw[e];refine aeN (Hq:=Dat.int) (xs:=x::r) (i:=0) (by decide) (by rw[aaR];lia) ?_ rfl rfl;exact ady rfl
 ·refine adO (adh (ac3 (ac3 (aa_ rfl (ac5 (ac7 ?_ rfl rfl rfl))))));refine aa_ rfl (ad5 (ac_ ?_) rfl rfl);unfold CC;by_cases h:Fd.src c<n
  ·refine adB (decide_eq_true h) (adh (ac3 (ac3 (aa_ rfl (ac5 (ac7 ?_ rfl rfl rfl))))));refine aa_ rfl (aem (ac_ ?_) rfl rfl);rw[lH,decide_eq_true h];exact⟨rfl,rfl⟩
  ·refine ads (decide_eq_false h) ?_;rw[decide_eq_false h];exact⟨rfl,rfl⟩
 ·exact ac3 (aa_ rfl (ac5 (ac7 (ada ⟨rfl,rfl⟩) rfl rfl rfl)))
noncomputable def nk(n:Nat)(r:List Tie):List Int:=hk (dZ n r)++thr n
noncomputable def frR(n:Nat)(r:List Tie)(h:List (Int×Int)):Int->List Step:=freeOf (hdF h) (prs (bM (nk n r)) 0 (2*n))
noncomputable def X7(n:Nat)(r:List Tie)(w:List Step):List Int:=((mso w).filter fun c=>(hdF (dZ n r) c).isSome).map fun c=>(hdF (dZ n r) c).getD 0
noncomputable def vm(n:Nat)(r:List Tie)(w:List Step):Dat:=.lst ((X7 n r w).map Dat.int)
noncomputable def CD:Option (List Int)->Dat
 |none=>.non
 |some S=>.tup (S.map Dat.int)
structure ZS(n:Nat)(r:List Tie)(a b:Int)(h:List (Int×Int))(ws:List (List Step))(s:Sr)(S:List Int):Prop where
 fnd:Fnd (2*n) (frR n r h) ((n:Int)+a) s
 cl:∀x∈sk s,Done (frR n r h) (sk s) x
 no:b∉sk s
 eq:S=kr ltI (ws.map (DQ n (sk s)))
structure Around(n:Nat)(r:List Tie)(a b most:Int)(ws:List (List Step))(o:Option (List Int))(h:List (Int×Int)):Prop where
 hok:Hok (nk n r) h
 bY:Fd.Flow (nk n r) (hdF h) ((n:Int)+a) b ws.length
 ways:QJ (nk n r) (hdF h) ((n:Int)+a) b ws
 le:(ws.length:Int)<=most
 all:o=none->(ws.length:Int)=most
 shut:∀S,o=some S->(ws.length:Int)<most/\∃s,ZS n r a b h ws s S
theorem Jr{R:Int->Step->Prop}:∀{w:List Step} {x y:Int},Way R x w y->y∈x::w.map (·.2)
 |[],x,y,h=>by cases h;exact PU ..
 |s::w,x,y,h=>Ds _ (Jr h.2)
theorem Fnd.from{s:Sr}(h:Fnd n R a s)(hx:x∈sk s)(ne:x≠a):∃p c,p∈sk s/\InR R p (c,x):=by
 obtain⟨e,he,rfl⟩:=aak.mp hx;obtain⟨⟨w1,w2⟩,w3⟩:=h.way e he;obtain⟨w',p,c,e1,e2,e3⟩:=vh w1 (HC w1 (fun z=>ne z.symm));refine⟨p,c,w3 p ?_,e3⟩;have:=Jr e2;rw[e1,aaj];rcases aah.mp this with z | z
 ·rw[z];exact PU ..
 ·exact Ds _ (aaA _ z)
theorem Fi(n:Nat)(r:List Tie)(n10:n<=10)(hl:r.length<=100):(nk n r).length<=400:=by
 have:=(DM n r).len;unfold nk;rw[aan];simp[hk,thr]
 lia
theorem QS(ws:List (List Step)):bJ (.lst (ws.map msD))=true:=iD _ _ fun w=>iD _ _ E7
end
section
variable(n:Nat)(n10:n<=10)(r:List Tie)(hp:Pl n r)(hl:r.length<=100)(a b:Int)(a0:0<=a)(a1:a<n)
include n10 hp hl a0 a1
theorem CF(h:List (Int×Int)):∃s:Sr,qL [rsG lbP (2*n) (frR n r h),.int ((n:Int)+a)]=some (.new (.dct (sk s) (svG lbP s)))/\Fnd (2*n) (frR n r h) ((n:Int)+a) s/\∀x∈sk s,Done (frR n r h) (sk s) x:=
 rV lbP (2*n) (by lia) (frR n r h) (fun i _ _ u hu=>(E6 (vj n n10 r hp).dr ((AA (vj n n10 r hp).dr).mp hu).along).2) _ (by lia) (by lia)
theorem CG(h:List (Int×Int)){s:Sr}(es:qL [rsG lbP (2*n) (frR n r h),.int ((n:Int)+a)]=some (.new (.dct (sk s) (svG lbP s))))(c1 c3 c4 c5 c6 c8 c9 c10 c11:Cell)(h6:c6=.ow (rsG lbP (2*n) (bM (nk n r)))\/c6=.sh (rsG lbP (2*n) (bM (nk n r)))){N:Env->Prop}{R:RV->Env->Prop}{B C:Env->Prop}
  (k:N [.sh (.int n),c1,.sh (.int a),c3,c4,c5,.sh (rsG lbP (2*n) (bM (nk n r))),.ow (aZ h),.ow (.dct (sk s) (svG lbP s)),c9,c10,c11]) :
  Ws (sA 8 (eF qL [(wG Cw [(eV 6),(eV 7)]),(e2 cQ (eV 0) (eV 2))])) [.sh (.int n),c1,.sh (.int a),c3,c4,c5,c6,.ow (aZ h),c8,c9,c10,c11] N R B C:=by
 have ef:=BY (2*n) (by lia) h (bM (nk n r)) (fun i _ u hu=>by
  obtain⟨h1,h2,h3⟩:=ni.mp hu;have:=(vj n n10 r hp).dr u.1 h1
  lia) (fun i=>aaE (rW _ _) (Fi n r n10 hl))
 rcases h6 with rfl | rfl
 ·refine ac6 (adb (m_ (adU (m_ (ac9 rfl (m_ (ac9 rfl (ab_ ⟨_,_,_,rfl,ef,nj _ _,?_⟩)))))))) (by decide);refine m_ (ac3 (aa_ rfl (aa_ rfl (adn (ab_ (adf es (ac8 k rfl) rfl rfl rfl rfl)) rfl rfl))))
 ·refine ac6 (adb (m_ (adU (m_ (aa_ rfl (m_ (ac9 rfl (ab_ ⟨_,_,_,rfl,ef,nj _ _,?_⟩)))))))) (by decide);refine m_ (ac3 (aa_ rfl (aa_ rfl (adn (ab_ (adf es (ac8 k rfl) rfl rfl rfl rfl)) rfl rfl))))
end
section
variable{r:List Tie}{h:List (Int×Int)}{n k:Nat}{Q:Val->Env->Prop}{ds:List Dat}{s:Step}{o p:Option Dat}{ρ:Env}{R:RV->Env->Prop}{xs:List Val}{N:Env->Prop}{x:Int}{j:Nat}{a b:FS}{y:Int}{t:Tie}
theorem NB(n:Nat)(r:List Tie)(w:List Step)(hl:w.length<=1000)(pre:Env)(hpre:pre.length=12)(h5:pre[5]?=some (.ow (aZ (dZ n r)))) 
  {Q:Val->Env->Prop} (q:Q (.new (vm n r w)) (pre++[.sh (msD w)])):We (bA 12 1 (bN 13) (tV (e2 qX (eV 13) (eV 5))) (e2 ES (eV 5) (eV 13))) (pre++[.sh (msD w)]) Q:=by
 have hz:SZ=100000:=rfl;have ml:(mso w).length=w.length:=by simp[mso]
 have g5:∀c:Cell,(pre++[.sh (msD w)]++[c])[5]?=some (.ow (aZ (dZ n r))):=fun c=>by rw[abt,aae (by lia)];exact h5
 have g13:∀c:Int,(pre++[.sh (msD w)]++[.sh (lbP c)])[13]?=some (.sh (lbP c)):=fun c=>by rw[aav (by simp[hpre])];simp[hpre]
 refine adH lbP (mso w) (fun c=>(hdF (dZ n r) c).isSome) (fun c=>(hdF (dZ n r) c).getD 0) Dat.int (d:=msD w) ?_ (by rw[aav (by lia)];simp[hpre]) rfl (by simp[hpre]) (by decide) (by lia) (fun c _=>?_) fun c _ hc=>?_
 ·exact q
 ·refine adh (ac3 (aa_ (g13 c) (ac9 (g5 _) (aei (i:=c / 20) (j:=c % 20) (ks:=hkP (dZ n r)) (vs:=hv (dZ n r)) (ac_ ?_) rfl (by show pk _ (.slot 5)=_;unfold pk;dsimp only;rw[g5];rfl)))));rw[nh,aba];exact⟨rfl,rfl⟩
 ·obtain⟨m,hm⟩:=aaH.mp hc;refine ac3 (ac9 (g5 _) (aa_ (g13 c) (aeL (i:=c / 20) (j:=c % 20) (ks:=hkP (dZ n r)) (vs:=hv (dZ n r)) (d:=.int m) (by rw[nh,hm];rfl) (ada ⟨?_,rfl⟩) (by show pk _ (.slot 5)=_;unfold pk;dsimp only;rw[g5];rfl) rfl)));rw[hm];rfl
theorem AB(n:Nat)(n10:n<=10)(r:List Tie)(hp:Pl n r)(hl:r.length<=100)(a b:Int)(a0:0<=a)(a1:a<n)(b0:0<=b)(b1:b<n)(X3:∀t∈r,¬((t.a=a/\t.b=b)\/(t.a=b/\t.b=a)))(most:Int)(m0:0<=most)(m1:most<=60) :
  ∃ws o h,E2 [.int n,bf r,.int a,.int b,.int most]=some (.val (.tup [.lst (ws.map (vm n r)),CD o]))/\Around n r a b most ws o h:=by
 suffices q:Wr (E2 [.int n,bf r,.int a,.int b,.int most]) fun v=>∃ws o h,v=.val (.tup [.lst (ws.map (vm n r)),CD o])/\Around n r a b most ws o h by obtain⟨v,h1,ws,o,h,rfl,h2⟩:=q;exact⟨ws,o,h,h1,h2⟩
 have hz:SZ=100000:=rfl;have D:=vj n n10 r hp;have mk:=DM n r;have rl:=Fi n r n10 hl;have em:=HA n n10 r hp (by lia);have ed:=Nx n n10 (dZ n r) (fun c hc=>D.dr c (aaA _ hc)) (by have:=mk.len;lia);unfold E2
 (refine Dm.ade ?_ rfl rfl;and_intros)
 refine ac4 (ac6 (adb (m_ (aa_ rfl (m_ (aa_ rfl (ab_ (adf em (ac8 ?_ (by trivial)) rfl rfl rfl rfl))))))) (by decide));refine ac4 (ac6 (adU (m_ (aa_ rfl (m_ (ac9 rfl (ab_ ⟨_,_,_,rfl,ed,nj _ _,ac8 ?_ (by trivial)⟩)))))) (by decide));refine ac4 (ac6 (aeA (ac8 ?_ (by trivial))) (by decide));obtain⟨s0,es0,F0,d0⟩:=CF n n10 r hp hl a a0 a1 [];refine ac4 (CG n n10 r hp hl a a0 a1 [] es0 _ _ _ _ _ _ _ _ _ (.inl rfl) ?_);refine ac4 (ac6 (ac5 (adj ?_ (by trivial))) (by decide));refine ac4 ?_;refine ad6 (fun k ρ=>∃(h:List (Int×Int)) (s:Sr) (U3:Nat),ρ=[.sh (.int n),.sh (bf r),.sh (.int a),.sh (.int b),.sh (.int most),.ow (aZ (dZ n r)),.sh (rsG lbP (2*n) (bM (nk n r))),.ow (aZ h),.ow (.dct (sk s) (svG lbP s)),.sh (.int (U3:Nat)),.un,.un]/\Hok (nk n r) h/\Fd.Flow (nk n r) (hdF h) ((n:Int)+a) b U3/\(U3:Int)<=most/\Fnd (2*n) (frR n r h) ((n:Int)+a) s/\(∀x∈sk s,Done (frR n r h) (sk s) x)/\k=(most-U3).toNat) ?_ 100 most.toNat _ (by lia)
  ⟨[],s0,0,rfl,Hok.nil _,Fd.Flow.zero _ _ _,m0,F0,d0,by simp⟩
 rintro k ρ ⟨h,s,U3,rfl,hok,fl,hle,F,hd,hk⟩;have Tr:(U3:Int)=most∨b∉sk s→Ws (aR (sA 10 (wG Ct [(eV 6),(eV 7),(e2 cQ (eV 0) (eV 2)),(eV 3),(eV 9)]))
  (aR (sA 11 (bA 10 1 (bN 12) cz (bA 12 1 (bN 13) (tV (e2 qX (eV 13) (eV 5))) (e2 ES (eV 5) (eV 13)))))
  (aR (sIf (tV (e2 gEq (eV 9) (eV 4))) (sR (gm [(eV 11),(eC .non)])) sNx)
  (sR (gm [(eV 11),(eB rD [(eB rO [(bA 10 1 (bN 12) cz (eFd E1 [(eV 0),(eV 12),(eV 8)]))])])]))))) [.sh (.int n),.sh (bf r),.sh (.int a),.sh (.int b),.sh (.int most),.ow (aZ (dZ n r)),.sh (rsG lbP (2*n) (bM (nk n r))),.ow (aZ h),.ow (.dct (sk s) (svG lbP s)),.sh (.int (U3:Nat)),.un,.un]
   (fun _=>∃ws o h,RV.val .non=.val (.tup [.lst (ws.map (vm n r)),CD o])/\Around n r a b most ws o h) (fun v _=>∃ws o h,v=.val (.tup [.lst (ws.map (vm n r)),CD o])/\Around n r a b most ws o h) (fun _=>False) (fun _=>False):=fun hend=>by
  obtain⟨ws,ep,wl,W⟩:=KN (2*n) (by lia) (nk n r) D.dr D.nd (by lia) h hok ((n:Int)+a) b (by lia) (by lia) U3 (by lia) fl;have BW:∀w∈ws,w.length<=1000:=fun w hw=>by
   obtain⟨v1,v2⟩:=W.way w hw;have:=kM (w.map (·.1)) (nk n r) (Fd.rR (fun p s h=>h.along) v1 v2) fun c hc=>by obtain⟨u,hu,rfl⟩:=aak.mp hc;exact Hx (fun p s z=>z.along) v1 u hu
   rw[Pa]at this
   lia
  refine ac4 (ac6 (adU (m_ (aa_ rfl (m_ (ac9 rfl (m_ (ac3 (aa_ rfl (aa_ rfl (adn ?_ rfl rfl)))))))))) (by decide));refine m_ (aa_ rfl (m_ (aa_ rfl (ab_ ⟨_,_,_,rfl,ep,QS ws,ac8 ?_ (by trivial)⟩))));refine ac4 (ac6 (ad4 msD ws id (vm n r) ?_ rfl rfl rfl (by decide) (by lia) fun w hw=>NB n r w (BW w hw) _ rfl rfl (adE ⟨rfl,rfl⟩)) (by decide));rw[abd];refine ac8 ?_ (by trivial);refine ac4 (adm (adh (ac3 (aa_ rfl (aa_ rfl (adD (ac_ ?_) rfl rfl))))));refine adq (fun he=>?_) fun he=>adt ?_
  ·refine adi (adC (m_ (ac9 rfl (m_ (ac5 (ab_ (adg ?_ rfl rfl (by exact aaa rfl))))))));exact⟨ws,none,h,rfl,⟨hok,by rw[wl];exact fl,W,by rw[wl];exact hle,fun _=>by rw[wl];exact he,fun S z=>nomatch z⟩⟩
  ·have hb:=hend.resolve_left he;have NO:(U3:Int)<most:=by lia
   have hfs:∀w∈ws,∃c∈mso w,Fd.src c<n/\Fd.dst c∉sk s:=fun w hw=>
    QO n10 hp D a0 a1 b0 b1 X3 fl (S:=fun x=>x∈sk s) (fun x hx ne=>by
     obtain⟨p,c,k1,k2⟩:=Fnd.from F hx ne
     exact⟨p,c,k1,(AA D.dr).mp k2⟩) hb (W.way w hw)
   refine adi (adC (m_ (ac9 rfl (m_ (adp (m_ (adp (m_ ?_))))))));refine ad4 msD ws (DQ n (sk s)) Dat.int ?_ rfl rfl rfl (by decide) (by lia) fun w hw=>?_
   ·refine ab_ (aeX ?_ rfl (by rw[Pa];lia));refine ab_ (aeh (ab_ (adg ?_ rfl rfl (by exact aaa rfl))) rfl);exact ⟨ws,some _,h,rfl,⟨hok,by rw [wl];exact fl,W,by rw [wl];exact hle,fun z=>(nomatch z),fun S z=>by cases z;exact⟨by rw[wl];exact NO,s,F,hd,hb,rfl⟩⟩⟩
   ·refine aef (m_ (aa_ rfl (m_ (aa_ rfl (m_ (ac9 rfl (ab_ ⟨_,_,_,rfl,BZ n w s (BW w hw) (hfs w hw),mV _,?_⟩)))))));exact ada ⟨rfl,rfl⟩
 refine adO (adh (ac3 (aa_ rfl (aa_ rfl (ad5 (ac_ ?_) rfl rfl)))));refine adq (fun NO=>?_) fun hge=>?_
 ·refine adh (ac3 (aa_ rfl (ac9 rfl (ad1 (ac_ ?_) rfl rfl))));rw[lH];refine adq (fun hb=>?_) fun hb=>Tr (.inr hb);unfold Nn;obtain⟨w,t1,t2⟩:∃w,(b,w)∈s/\cL (sk s) (svG lbP s) b=some (rwG lbP w):=by
   rcases As lbP s b with h | h
   ·exact h
   ·exact absurd hb h.1
  obtain⟨⟨w1,w2⟩,_⟩:=F.way _ t1;dsimp only at w1 w2;have w1':Way (Fd.jY (nk n r) (hdF h)) ((n:Int)+a) w b:=w1.mono fun _ _ z=>(AA D.dr).mp z;have wms:=Hx (fun p s (z:Fd.jY (nk n r) (hdF h) p s)=>z.along) w1';have el:=BX (nk n r) (by lia) h hok w wms;refine ac4 (adG (aee (m_ (ac3 (ac9 rfl (aa_ rfl (adX t2 (ab_ (ad3 el ?_ rfl rfl rfl)) rfl rfl))))) rfl));refine ac4 (ac6 (ac3 (aa_ rfl (ac5 (adn (adj ?_ (by trivial)) rfl rfl)))) (by decide));have fl2:=fl.more D.nd w1' w2;rw[<- wJ]at fl2;obtain⟨s1,es1,F1,d1⟩:=CF n n10 r hp hl a a0 a1 (bU h w);refine CG n n10 r hp hl a a0 a1 (bU h w) es1 _ _ _ _ _ _ _ _ _ (.inr rfl) ?_;refine⟨(most-(U3+1:Nat)).toNat,by rw[hk];lia,bU h w,s1,U3+1,?_,hok.Aw wms,fl2,by lia,F1,d1,rfl⟩;rw[show ((U3:Int)+1)=((U3+1:Nat):Int) by lia]
 ·exact ads rfl (Tr (.inl (by lia)))
noncomputable def j3(s:Step):Dat:=.tup [.int s.1,.int s.2]
noncomputable def nq(w:List Step):Dat:=.lst (w.map j3)
noncomputable def jF(x:Int)(t:Tie):Option Step:=if t.a=t.b then none else if t.a=x then some (t.m,t.b) else if t.b=x then some (t.m,t.a) else none
noncomputable def bz(r:List Tie)(x:Int):List Step:=r.filterMap (jF x)
noncomputable def iE(n:Nat)(r:List Tie):List (List Dat):=(aas n).map fun i:Nat=>(bz r i).map j3
theorem vn(r:List Tie)(t:Tie)(x:Int):bz (r++[t]) x=bz r x++(jF x t).toList:=by
 unfold bz;rw[ach];cases h:jF x t with
 |none=>simp[h]
 |some s=>simp[h]
theorem qH(n:Nat)(r:List Tie)(i:Nat)(h:i<n):(iE n r)[i]?=some ((bz r i).map j3):=by unfold iE;rw[aao,abb h];rfl
theorem kQ(n:Nat)(r:List Tie):(iE n r).length=n:=by simp[iE]
theorem lI(r:List Tie)(x:Int):(bz r x).length<=r.length:=List.length_filterMap_le _ _
theorem HD(n:Nat)(r:List Tie)(t:Tie)(h:t.a≠t.b)(a0:0<=t.a)(a1:t.a<n)(b0:0<=t.b)(b1:t.b<n) :
  ((iE n r).set t.a.toNat ((bz r t.a).map j3++[j3 (t.m,t.b)])).set t.b.toNat ((bz r t.b).map j3++[j3 (t.m,t.a)])=iE n (r++[t]):=by
 apply abg;intro i;by_cases hi:i<n
 ·rw[qH _ _ _ hi,vn,aaj];by_cases eb:t.b.toNat=i
  ·have e:(i:Int)=t.b:=by lia
   rw[<- eb,aap (by rw[aaC,kQ];lia),eb,e];have:jF t.b t=some (t.m,t.a):=by unfold jF;rw[if_neg h,if_neg (fun z=>h z),if_pos rfl]
   rw[this];rfl
  ·rw[gV eb];by_cases ea:t.a.toNat=i
   ·have e:(i:Int)=t.a:=by lia
    rw[<- ea,aap (by rw[kQ];lia),ea,e];have:jF t.a t=some (t.m,t.b):=by unfold jF;rw[if_neg h,if_pos rfl]
    rw[this];rfl
   ·rw[gV ea,qH _ _ _ hi];have:jF i t=none:=by unfold jF;rw[if_neg h,if_neg (by lia),if_neg (by lia)]
    rw[this];simp
 ·rw[aaq (by rw[aaC,aaC,kQ];lia),aaq (by rw[kQ];lia)]
theorem HE(n:Nat)(r:List Tie)(t:Tie)(h:t.a=t.b):iE n (r++[t])=iE n r:=by
 unfold iE;apply abv;intro i _;rw[vn];have:jF i t=none:=by unfold jF;rw[if_pos h]
 rw[this];simp
theorem KR(n:Nat)(r:List Tie)(t:Tie)(hl:r.length<1000)(a0:0<=t.a)(a1:t.a<n)(b0:0<=t.b)(b1:t.b<n)(c0 c1 c2:Cell) :
  ve [c0,c1,c2,.sh (.int t.m),.sh (.int t.a),.sh (.int t.b)] (iE n r)=some ([c0,c1,c2,.sh (.int t.m),.sh (.int t.a),.sh (.int t.b)],iE n (r++[t])):=by
 have ht:tV (e2 gNe (eV 4) (eV 5)) [c0,c1,c2,.sh (.int t.m),.sh (.int t.a),.sh (.int t.b)]=some (!decide (t.a=t.b),[c0,c1,c2,.sh (.int t.m),.sh (.int t.a),.sh (.int t.b)]):=by unfold tV e2 eV;simp[pk,Dw,RV.cR]
 unfold ve nIf;rw[ht];by_cases h:t.a=t.b
 ·rw[decide_eq_true h];rw[HE n r t h];rfl
 ·rw[decide_eq_false h];show yG _ _ _ _=_;unfold yG;have k1:=(lI r t.a)
  have k2:=(lI r t.b)
  have hz:SZ=100000:=rfl;have ea:((t.a.toNat:Nat):Int)=t.a:=by lia
  have eb:((t.b.toNat:Nat):Int)=t.b:=by lia
  rw[DH (k:=t.a) (m:=t.a.toNat) (row:=(bz r t.a).map j3) (d:=j3 (t.m,t.b)) (ρ3:=[c0,c1,c2,.sh (.int t.m),.sh (.int t.a),.sh (.int t.b)]) rfl (by rw[kQ];exact Hz a0 a1) (by rw[qH _ _ _ (by lia),ea]) rfl rfl (by rw[Pa];lia)];dsimp only;rw [DH (k:=t.b) (m:=t.b.toNat) (row:=(bz r t.b).map j3) (d:=j3 (t.m,t.a)) (ρ3:=[c0,c1,c2,.sh (.int t.m),.sh (.int t.a),.sh (.int t.b)]) rfl (by rw [aaC,kQ];exact Hz b0 b1)
   (by rw[gV (by lia),qH _ _ _ (by lia),eb]) rfl rfl (by rw[Pa];lia)]
  rw[HD n r t h a0 a1 b0 b1]
theorem AD(n:Nat)(c0 c1 c2:Cell):∀(q p:List Tie) (c3 c4 c5:Cell),Pl n q->p.length+q.length<=1000 ->
  ∃c3' c4' c5',iJ (bT [3,4,5]) ve (q.map b7) [c0,c1,c2,c3,c4,c5] (iE n p)=some ([c0,c1,c2,c3',c4',c5'],iE n (p++q))
 |[],p,c3,c4,c5,_,_=>⟨c3,c4,c5,by rw[aaP];rfl⟩
 |t::q,p,c3,c4,c5,hp,hl=>by obtain⟨a0,a1,b0,b1⟩:=hp t PU;rw[aaR]at hl;obtain⟨c3',c4',c5',e⟩:=AD n c0 c1 c2 q (p++[t]) (.sh (.int t.m)) (.sh (.int t.a)) (.sh (.int t.b)) (fun u hu=>hp u (Ds _ hu)) (by rw[aan,abp];lia);refine⟨c3',c4',c5',?_⟩;rw[gc,iJ];show (match ve [c0,c1,c2,.sh (.int t.m),.sh (.int t.a),.sh (.int t.b)] (iE n p) with | none=>none | some (ρ2,r2)=>iJ (bT [3,4,5]) ve (q.map b7) ρ2 r2)=_;rw[KR n p t (by lia) a0 a1 b0 b1];dsimp only;rw[e,abt];rfl
noncomputable def iF(n:Nat)(R:Int->List Step):Dat:=.lst ((aas n).map fun i:Nat=>nq (R i))
theorem Fj(n:Nat)(hn:n<=1000)(r:List Tie)(hr:Pl n r)(hl:r.length<=1000):QC [.int n,bf r]=some (.new (iF n (bz r))):=by
 obtain⟨c3,c4,c5,e⟩:=AD n (.sh (.int n)) (.sh (bf r)) .un r [] .un .un .un hr (by simpa using hl);obtain⟨c',e2⟩:=DJ [.sh (.int n),.sh (bf r),.un,.un,.un,.un] 6 rfl (by decide) (ups 0 n) .un;have h0:iE n []=Dp n []:=by
  unfold iE bz;apply abg;intro i;by_cases hi:i<n
  ·rw[aao,abb hi,aaK,if_pos hi];rfl
  ·rw[aaq (by simp;lia),aaq (by simp;lia)]
 have hu:(ups 0 n).length=n:=by simp[ups]
 have e1:iR1 (eV 0) [.sh (.int n),.sh (bf r),.un,.un,.un,.un]=some (ups 0 n,[.sh (.int n),.sh (bf r),.un,.un,.un,.un]):=by show (if (n:Int)<=BIG/\-BIG<=(n:Int) then some (ups 0 (n:Int).toNat,_) else none)=_;rw[if_pos (by unfold BIG;lia)];rfl
 rw[h0,abO]at e;have en:k9 2 (iR1 (eV 0)) 1 (bN 6) (oi (iS (eV 1)) (bT [3,4,5]) ve) [.sh (.int n),.sh (bf r),.un,.un,.un,.un]=some (.nx [.sh (.int n),.sh (bf r),.ow (iF n (bz r)),c3,c4,c5]):=by
  unfold k9;rw[if_neg (by decide),e1];dsimp only;rw[if_pos (by rw[hu];unfold SZ;lia)];show (match nMk (bN 6) (ups 0 n) ([.sh (.int n),.sh (bf r),.un,.un,.un,.un]++[.un]) with | none=>none | some ρ2=>_)=_;rw[e2];dsimp only;rw[hu];show (match oi (iS (eV 1)) (bT [3,4,5]) ve [.sh (.int n),.sh (bf r),.un,.un,.un,.un] (Dp n []) with | none=>none | some (ρ3,r3)=>_)=_;have:oi (iS (eV 1)) (bT [3,4,5]) ve [.sh (.int n),.sh (bf r),.un,.un,.un,.un] (Dp n [])=some ([.sh (.int n),.sh (bf r),.un,c3,c4,c5],iE n r):=e;rw[this];have e3:(iE n r).map Dat.lst=(aas n).map fun i:Nat=>nq (bz r i):=by unfold iE;rw[aaN];rfl
  show some (Out.nx [.sh (.int n),.sh (bf r),.ow (.lst ((iE n r).map Dat.lst)),c3,c4,c5])=_;rw[e3];rfl
 apply adk;unfold QC
 (refine Dm.ade ?_ rfl rfl;and_intros)
 refine ac4 ⟨_,en,?_⟩;refine adi (ac9 rfl (adz ?_ rfl));rfl
noncomputable def cG(h:List (Int×Int)):Dat:=.dct (hk h) (hv h)
theorem vo(h:List (Int×Int))(m:Int):cL (hk h) (hv h) m=(hdF h m).map Dat.int:=by
 unfold hk hv hdF
 induction h with
 |nil=>rfl
 |cons e h ih=>
  rw[gc,gc,cL,aa0];by_cases q:e.1=m
  ·rw[if_pos q,decide_eq_true q];rfl
  ·rw[if_neg q,decide_eq_false q];exact ih
theorem U8(o:Option Int)(y:Int):gNe ((o.map Dat.int).getD .non) (.int y)=vB (!decide (o=some y)):=by
 cases o with
 |none=>rfl
 |some z=>
  show gNe (.int z) (.int y)=_;rw[Dw];have:(z=y)=(some z=some y):=by simp
  simp only[this]
noncomputable def Fo(h:List (Int×Int))(R:Int->List Step):Int->List Step:=fun x=>(R x).filter fun s=>!decide (hdF h s.1=some s.2)
theorem Js(g:Dat->Dat->Option RV)(p:Option Int->Int->Bool)(hg:∀o y,g ((o.map Dat.int).getD .non) (.int y)=vB (p o y))(h:List (Int×Int))(A:Cell)(w:List Step)(hl:w.length<=1000) :
  We (bA 2 1 (bN 3) (tV (e2 g (xZ (eV 1) (e2 gIx (eV 3) (eC (.int 0)))) (e2 gIx (eV 3) (eC (.int 1))))) (eV 3)) [A,.sh (cG h),.sh (nq w)] fun v ρ'=>Wk ρ' v fun d ρ''=>d=nq (w.filter fun s=>p (hdF h s.1) s.2)/\ρ''=[A,.sh (cG h),.sh (nq w)]:=by
 refine adH j3 w (fun s=>p (hdF h s.1) s.2) id j3 (d:=nq w) ?_ rfl rfl rfl (by decide) (by unfold SZ;lia) (fun s _=>?_) fun s _ _=>?_
 ·rw[abd];exact adE ⟨rfl,rfl⟩
 ·refine adh (ac3 (ae0 (aa_ rfl ⟨⟨_,_,rfl⟩,ac3 (aa_ rfl (ac5 (ac7 ?_ rfl rfl rfl)))⟩)));refine⟨hk h,hv h,s.1,rfl,rfl,ac3 (aa_ rfl (ac5 (ac7 ?_ rfl rfl rfl)))⟩;refine⟨_,_,_,rfl,rfl,(by rw[vo];exact hg _ _),?_⟩;exact ac_ ⟨rfl,rfl⟩
 ·exact aa_ rfl (ada ⟨rfl,rfl⟩)
theorem q_(n:Nat)(hn:n<=1000)(R:Int->List Step)(hR:∀i:Nat,i<n->(R i).length<=1000)(h:List (Int×Int)):Nf [iF n R,cG h]=some (.new (iF n (Fo h R))):=by
 apply adk;unfold Nf
 (refine Dm.ade ?_ rfl rfl;and_intros)
 refine adi ?_;refine ad0 (fun i:Nat=>nq (R i)) (aas n) id (fun i:Nat=>nq (Fo h R i)) (d:=iF n R) ?_ rfl rfl rfl (by decide) (by rw[aaM];unfold SZ;lia) fun i hi=>?_
 ·rw[abd];rfl
 ·exact Js gNe (fun o y=>!decide (o=some y)) U8 h _ (R i) (hR i (aaV.mp hi))
theorem B0(n:Nat)(hn:n<=1000)(R:Int->List Step)(hR:∀i:Nat,i<n->(R i).length<=1000)(h:List (Int×Int)):Ng [iF n R,cG h]=some (.new (iF n (qZ h R))):=by
 apply adk;unfold Ng
 (refine Dm.ade ?_ rfl rfl;and_intros)
 refine adi ?_;refine ad0 (fun i:Nat=>nq (R i)) (aas n) id (fun i:Nat=>nq (qZ h R i)) (d:=iF n R) ?_ rfl rfl rfl (by decide) (by rw[aaM];unfold SZ;lia) fun i hi=>?_
 ·rw[abd];rfl
 ·exact Js gEq (fun o y=>decide (o=some y)) Nt h _ (R i) (hR i (aaV.mp hi))
noncomputable def sv(s:Sr):List Dat:=s.map fun e=>nq e.2
theorem Jt(s:Sr)(x:Int):(∃w,(x,w)∈s/\cL (sk s) (sv s) x=some (nq w))\/(x∉sk s/\cL (sk s) (sv s) x=none):=As Dat.int s x
theorem DR(s:Sr)(x:Int):(cL (sk s) (sv s) x).isSome=decide (x∈sk s):=lH Dat.int s x
theorem yf(n:Nat)(hn:n<=40)(R:Int->List Step)(hR:∀i:Int,0<=i->i<n->∀u∈R i,0<=u.2/\u.2<n)(a:Int)(a0:0<=a)(a1:a<n) :
  ∃s:Sr,qL [iF n R,.int a]=some (.new (.dct (sk s) (sv s)))/\Fnd n R a s/\∀x∈sk s,Done R (sk s) x:=rV Dat.int n hn R hR a a0 a1
theorem vp(h:List (Int×Int))(m:Int):m8 (hk h) (hv h) m=hk (h.filter fun e=>decide (e.1≠m))/\m9 (hk h) (hv h) m=hv (h.filter fun e=>decide (e.1≠m)):=by
 unfold hk hv
 induction h with
 |nil=>exact⟨rfl,rfl⟩
 |cons e h ih=>
  rw[gc,gc,m8,m9];by_cases q:e.1=m
  ·rw[if_pos q,if_pos q,aaS (by simpa using q)];exact ih
  ·rw[if_neg q,if_neg q,aaT (by simpa using q),gc,gc,ih.1,ih.2];exact⟨rfl,rfl⟩
structure kJ(r:List Tie)(h:List (Int×Int)):Prop where
 nd:(hk h).Nodup
 sub:∀m∈hk h,m∈r.map (·.m)
theorem kJ.len(k:kJ r h):h.length<=r.length:=by
 have:=kM (hk h) (r.map (·.m)) k.nd k.sub
 simpa [hk] using this
theorem kJ.nil(r:List Tie):kJ r []:=⟨by simp[hk],by simp[hk]⟩
theorem kJ.drop(k:kJ r h)(m:Int):kJ r (h.filter fun e=>decide (e.1≠m)):=by refine⟨(k.nd.sublist (acX.map _ (abK))),fun x hx=>k.sub x ?_⟩;obtain⟨e,he,rfl⟩:=aak.mp hx;exact aak.mpr ⟨e,(aaO.mp he).1,rfl⟩
theorem kJ.lead(k:kJ r h)(hs:s.1∈r.map (·.m)):kJ r (n5 h s):=by
 unfold n5;split
 ·exact k.drop _
 ·rename_i q;refine⟨?_,fun x hx=>?_⟩
  ·unfold hk;rw[aaj];exact aa3.mpr ⟨k.nd,by simp,fun x hx y hy=>by
    have:y=s.1:=by simpa using hy
    rw[this];exact fun e=>q (e▸hx)⟩
  ·unfold hk at hx;rw[aaj]at hx;rcases aay.mp hx with hx | hx
   ·exact k.sub x hx
   ·have:x=s.1:=by simpa using hx
    rw[this];exact hs
theorem kJ.Aw:∀{w:List Step} {h:List (Int×Int)},kJ r h->(∀s∈w,s.1∈r.map (·.m))->kJ r (bU h w)
 |[],_,k,_=>k
 |s::w,h,k,hs=>by rw[bU];exact kJ.Aw (w:=w) (k.lead (hs s PU)) fun u hu=>hs u (Ds _ hu)
theorem AE(r:List Tie)(hl:r.length<=1000)(h:List (Int×Int))(k:kJ r h)(w:List Step)(hw:∀s∈w,s.1∈r.map (·.m)):Ni [cG h,nq w]=some (.val .non,cG (bU h w)):=by
 suffices q:WrM (Ni [cG h,nq w]) fun z d=>z=.val .non/\d=cG (bU h w) by obtain⟨z,d,h1,rfl,rfl⟩:=q;exact h1
 unfold Ni;refine ad7 ?_ rfl rfl;refine adv (adI (aa_ rfl (ada (iK ?_))));refine adx j3 _ _ w _ _ _ _ _ (fun p q ρ=>∃c2 c3,ρ=[.ow (cG (bU h p)),.sh (nq w),c2,c3]) ⟨_,_,rfl⟩ ?_ ?_
 ·rintro p s q ρ e ⟨c2,c3,rfl⟩;refine Dm.fF rfl (by trivial) ?_;have kp:kJ r (bU h p):=k.Aw fun u hu=>hw u (by rw[e];exact aaA _ hu);have len:=kp.len;unfold R8;refine adm (adh (ac3 (aa_ rfl (ac9 rfl (ad1 ?_ rfl rfl)))));refine ac_ ?_;rw[vo,aba,vg];refine adq (fun hm=>?_) fun hm=>?_
  ·obtain⟨x,hx⟩:∃x,hdF (bU h p) s.1=some x:=aaH.mp (by rw[vg];exact decide_eq_true hm);refine adG (aeF (k:=s.1) (d:=.int x) (by rw[vo,hx];rfl) ?_ rfl rfl rfl);refine⟨.sh (.int s.1),.sh (.int s.2),?_⟩;rw[jZ,n5,if_pos hm,(vp _ _).1,(vp _ _).2];rfl
  ·refine aev (aa_ rfl (ada (wH rfl (aa_ rfl (jx.mk (Dv ?_ rfl (by trivial) ?_))))))
   ·refine⟨.sh (.int s.1),.sh (.int s.2),?_⟩;rw[jZ,n5,if_neg hm];obtain⟨p1,p2⟩:=Jp (ks:=hk (bU h p)) (vs:=hv (bU h p)) (i:=s.1) (d:=.int s.2) hm;rw[p1,p2];unfold cG hk hv;rw[aaj,aaj];rfl
   ·unfold hk;rw[Pa];unfold SZ;lia
 ·rintro ρ ⟨c2,c3,rfl⟩;exact⟨_,rfl,rfl,rfl⟩
theorem yg:s∈bz r x↔ku r x s:=by
 unfold bz;rw[abN];constructor
 ·rintro⟨t,ht,e⟩;unfold jF at e;split at e
  ·cases e
  rename_i X0;split at e
  ·rename_i ha;cases e;exact⟨t,ht,rfl,X0,.inl ⟨ha,rfl⟩⟩
  ·split at e
   ·rename_i hb;cases e;exact⟨t,ht,rfl,X0,.inr ⟨hb,rfl⟩⟩
   ·cases e
 ·rintro⟨t,ht,hm,X0,he⟩;refine⟨t,ht,?_⟩;unfold jF;rw[if_neg X0];rcases he with⟨h1,h2⟩ | ⟨h1,h2⟩
  ·rw[if_pos h1,hm,h2]
  ·rw[if_neg (fun z=>X0 (z.trans h1.symm)),if_pos h1,hm,h2]
theorem CH{n:Nat}(hp:Pl n r)(h:ku r x s):(0<=x/\x<n)/\0<=s.2/\s.2<n:=by
 obtain⟨t,ht,_,_,he⟩:=h;have:=hp t ht
 lia
theorem QT(h:ku r x s):s.1∈r.map (·.m):=by obtain⟨t,ht,hm,_⟩:=h;exact aak.mpr ⟨t,ht,hm⟩
theorem Ju{R:Int->Step->Prop}(hR:∀p s,R p s->ku r p s):∀{w:List Step} {x:Int},Way R x w y->∀s∈w,s.1∈r.map (·.m)
 |[],_,_,s,hs=>by cases hs
 |u::w,x,h,s,hs=>by
  rcases aah.mp hs with rfl | hs
  ·exact QT (hR _ _ h.1)
  ·exact Ju hR h.2 s hs
theorem wL{p:Int}:InR (Fo h (bz r)) p s↔jY r (hdF h) p s:=by unfold InR Fo jY;rw[aaO,yg];simp
theorem AF{p:Int}:InR (qZ h (bz r)) p s↔Led r (hdF h) p s:=by unfold InR qZ Led;rw[aaO,yg];simp
theorem HF(w:List Step):bJ (nq w)=true:=iD _ _ fun s=>by unfold j3 bJ;exact mU _ (by intro x hx;simp at hx;rcases hx with rfl | rfl<;>exact mV _)
theorem o9(n:Nat)(R:Int->List Step):bJ (iF n R)=true:=iD (fun i:Nat=>nq (R i)) _ fun i=>HF _
noncomputable def wM(w:List Step):Dat:=.lst ((mso w).map Dat.int)
theorem kJ.drops:∀{ms:List Int} {h:List (Int×Int)},kJ r h->kJ r (di h ms)
 |[],_,k=>k
 |m::ms,h,k=>by rw[di];exact kJ.drops (ms:=ms) (k.drop m)
theorem DU{H:Hd}:∀{w:List Step} {x:Int},Way (Led r H) x w y->∀s∈w,H s.1=some s.2
 |[],_,_,s,hs=>by cases hs
 |u::w,x,h,s,hs=>by
  rcases aah.mp hs with rfl | hs
  ·exact h.1.2
  ·exact DU h.2 s hs
structure Jv(r:List Tie)(a b:Int)(ws:List (List Step)):Prop where
 way:∀w∈ws,Dz (ku r) a w b
 nd:(ws.map mso).flatten.Nodup
noncomputable def CI(n:Nat)(r:List Tie)(h0 h:List (Int×Int))(a b:Int)(c:Nat)(ws:List (List Step))(c7 c8 c9:Cell):Env:=
 [.sh (iF n (bz r)),.sh (cG h0),.sh (.int a),.sh (.int b),.sh (.int c),.ow (cG h),.ow (.lst (ws.map wM)),c7,c8,c9]
theorem HG(n:Nat)(hn:n<=40)(r:List Tie)(hp:Pl n r)(nd:(r.map (·.m)).Nodup)(hl:r.length<=1000)(h:List (Int×Int))(k:kJ r h)(a b:Int)(a0:0<=a)(a1:a<n)(c:Nat)(hc:c<=1000)(fl:Flow r (hdF h) a b c) :
  ∃ws:List (List Step),KH [iF n (bz r),cG h,.int a,.int b,.int c]=some (.new (.lst (ws.map wM)))/\ws.length=c/\Jv r a b ws:=by
 suffices q:Wr (KH [iF n (bz r),cG h,.int a,.int b,.int c]) fun v=>∃ws:List (List Step),v=.new (.lst (ws.map wM))/\ws.length=c/\Jv r a b ws by obtain⟨v,h1,ws,rfl,h2⟩:=q;exact⟨ws,h1,h2⟩
 unfold KH
 (refine Dm.ade ?_ rfl rfl;and_intros)
 refine ac4 (ac6 (adp (m_ (aa_ rfl (ab_ (aeJ (ks:=hk h) (vs:=hv h) ?_ rfl))))) (by decide));refine ac8 ?_ (by trivial);refine ac4 (ac6 (adu (ab_ (adg ?_ rfl rfl (by decide)))) (by decide));refine ac8 ?_ (by trivial);refine ac4 (adv (adJ (aa_ rfl (jx.mk ⟨?_,by unfold BIG;lia,by unfold BIG;lia⟩))));refine adx (fun i:Nat=>Dat.int (0+(i:Nat))) _ _ (aas c) _ _ _ _ _ (fun p q ρ=>∃(h':List (Int×Int)) (ws:List (List Step)) (c7 c8 c9:Cell),ρ=CI n r h h' a b c ws c7 c8 c9/\kJ r h'/\ws.length=p.length/\Flow r (hdF h') a b q.length/\Jv r a b ws/\∀m∈(ws.map mso).flatten,hdF h' m=none)
  ⟨h,[],_,_,_,rfl,k,rfl,by rw[aaM];exact fl,⟨by simp,by simp⟩,by simp⟩ ?_ ?_
 ·rintro p x q ρ e ⟨h',ws,c7,c8,c9,rfl,k',wl,fl',W,hno⟩;rw[aaR]at fl';unfold CI;refine Dm.fF rfl (by trivial) ?_;unfold Sa;have hR:∀i:Nat,i<n->(bz r i).length<=1000:=fun i _=>aaE (lI r i) hl;obtain⟨s,es,F,hd⟩:=yf n hn (qZ h' (bz r)) (fun i _ _ u hu=>(CH hp ((AF (h:=h')).mp hu).1).2) a a0 a1;have hb:b∈sk s:=by
   have:=fl'.reach (S:=fun y=>decide (y∈sk s)) (decide_eq_true F.st) fun y u hy hu=>decide_eq_true (hd y (of_decide_eq_true hy) u (AF.mpr hu));exact of_decide_eq_true this
  obtain⟨w,t1,t2⟩:∃w,(b,w)∈s/\cL (sk s) (sv s) b=some (nq w):=by
   rcases Jt s b with h | h
   ·exact h
   ·exact absurd hb h.1
  obtain⟨⟨w1,w2⟩,_⟩:=F.way _ t1;have BW:=F.BW t1;have X6:=F.len;dsimp only at w1 w2 BW;have w1':Way (Led r (hdF h')) a w b:=w1.mono fun _ _ z=>AF.mp z;have wm:=yc nd (fun p s h=>h.1) w1' w2;have UZ:iS (e2 gDx (eF qL [(eFd Ng [(eV 0),(eV 5)]),(eV 2)]) (eV 3)) [.sh (iF n (bz r)),.sh (cG h),.sh (.int a),.sh (.int b),.sh (.int c),.ow (cG h'),.ow (.lst (ws.map wM)),.sh (.int (0+(x:Nat))),c8,c9]
    = some (w.map j3,[.sh (iF n (bz r)),.sh (cG h),.sh (.int a),.sh (.int b),.sh (.int c),.ow (cG h'),.ow (.lst (ws.map wM)),.sh (.int (0+(x:Nat))),c8,c9]):=by
   apply adP;refine adI (ac3 (adb (m_ (aef (m_ (aa_ rfl (m_ (ac9 rfl (ab_ ?_)))))))));refine⟨_,_,_,rfl,B0 n (by lia) (bz r) hR h',o9 _ _,?_⟩;refine m_ (aa_ rfl (ab_ (adf es ?_ rfl rfl rfl rfl)));refine aa_ rfl (adX t2 ?_ rfl rfl);exact ada (iK ⟨rfl,rfl⟩)
  refine ac4 (ac6 (adR j3 w (fun s=>s.1) Dat.int ?_ UZ rfl (by decide) (by unfold SZ;lia) fun s _=>ac3 (aa_ rfl (ac5 (ac7 (ada ⟨rfl,rfl⟩) rfl rfl rfl)))) (by decide));refine ac8 ?_ (by trivial);refine ac4 (adv (adI (ac9 rfl (aec (iK ?_) rfl (by trivial)))));refine adx Dat.int _ _ (mso w) _ _ _ _ _ (fun pm qm ρ=>∃c9,ρ=CI n r h (di h' pm) a b c ws (.sh (.int (0+(x:Nat)))) (.sh (wM w)) c9) ⟨_,rfl⟩ ?_ ?_
  ·rintro pm m qm ρ em ⟨c9,rfl⟩;unfold CI;refine Dm.fF rfl (by trivial) ?_;unfold R_;have hm:m∉pm:=by
    have:(mso w).Nodup:=wm;rw[em]at this;exact fun z=>(aa3.mp this).2.2 m z m PU rfl
   have hmw:m∈mso w:=by rw[em];simp
   obtain⟨st,hst,rfl⟩:=aak.mp hmw;have hx:hdF (di h' pm) st.1=some st.2:=by rw[o8 pm h' st.1 hm];exact DU w1' st hst
   refine adG (aeF (k:=st.1) (d:=.int st.2) (by rw[vo,hx];rfl) ?_ rfl rfl rfl);refine⟨.sh (.int st.1),?_⟩;rw[o7,(vp _ _).1,(vp _ _).2];rfl
  ·rintro ρ ⟨c9,rfl⟩;unfold CI;refine adV (aa_ rfl (ada (Ak ?_ rfl (by trivial) ?_))) rfl
   ·have fl2:=fl'.less nd w1' w2;rw[<- kO]at fl2;refine⟨di h' (mso w),ws++[w],.sh (.int (0+(x:Nat))),.sh (wM w),c9,?_,k'.drops,by simp[wl],fl2,⟨fun v hv=>?_,?_⟩,fun m hm=>?_⟩
    ·rw[aaj];rfl
    ·rcases aay.mp hv with hv | hv
     ·exact W.way v hv
     ·rw[aaL.mp hv];exact⟨w1'.mono fun _ _ z=>z.1,w2⟩
    ·rw[aaj,abZ];refine aa3.mpr ⟨W.nd,by rw[gc,abw,aa5,acd,aaP];exact wm,fun m hm z hz=>?_⟩;intro e;subst e;have:m∈mso w:=by simpa using hz
     obtain⟨st,hst,rfl⟩:=aak.mp this;have h1:=DU w1' st hst;rw[hno _ hm]at h1;cases h1
    ·rw[aaj,abZ]at hm;rw[kO];rcases aay.mp hm with hm | hm
     ·by_cases z:m∈mso w
      ·exact k_ z
      ·rw[lF fun u hu e=>z (aak.mpr ⟨u,hu,e⟩)];exact hno m hm
     ·rw[gc,abw,aa5,acd,aaP]at hm;exact k_ hm
   ·rw[Pa,wl];have:=congrArg List.length e;rw[aaM,aan]at this;unfold SZ;lia
 ·rintro ρ ⟨h',ws,c7,c8,c9,rfl,k',wl,fl',W,hno⟩;unfold CI;refine adi (ac9 rfl (adz ?_ rfl));exact⟨ws,rfl,by rw[wl,aaM],W⟩
noncomputable def tupI(S:List Int):Dat:=.tup (S.map Dat.int)
noncomputable def ovr(S:List Int)(t:Tie):Bool:=decide (t.a∈S) != decide (t.b∈S)
noncomputable def U9(r:List Tie)(S:List Int):List Int:=(r.filter (ovr S)).map (·.m)
def X8(n:Nat)(a b:Int)(S:List Int):Prop:=S.Pairwise (· < ·)/\(∀x∈S,0<=x/\x<n)/\a∈S/\b∉S
noncomputable def n8:Option (List Int)->Dat
 |none=>.non
 |some S=>tupI S
theorem NC{l:List Int}(h:l.Nodup):(kr ltI l).Pairwise (· < ·):=by
 have h1:=BV l;have h2:(kr ltI l).Nodup:=(k7 ltI l).nodup_iff.mpr h;refine(acu.and h1 h2).imp fun {x y} q=>?_;obtain⟨q1,q2⟩:=q;simp[ltI]at q1
 lia
structure Apart(n:Nat)(r:List Tie)(a b:Int)(most:Int)(ws:List (List Step))(o:Option (List Int)):Prop where
 ways:Jv r a b ws
 le:(ws.length:Int)<=most
 all:o=none->(ws.length:Int)=most
 side:∀S,o=some S->X8 n a b S/\(U9 r S).length=ws.length/\(ws.length:Int)<most
noncomputable def X_(n:Nat)(r:List Tie)(a b most:Int)(c5:Cell)(h:List (Int×Int))(o:Option (List Int))(k:Nat)(c9:Cell):Env:=
 [.sh (.int n),.sh (bf r),.sh (.int a),.sh (.int b),.sh (.int most),c5,.ow (cG h),.sh (n8 o),.sh (.int k),c9]
def ND(n:Nat)(r:List Tie)(c:Cell):Prop:=c=.ow (iF n (bz r))\/c=.sh (iF n (bz r))
theorem Jw(ws:List (List Step)):bJ (.lst (ws.map wM))=true:=iD _ _ fun w=>Ht _
theorem Sj{n:Nat}{c5:Cell}(h5:ND n r c5)(A B C D E G H I J:Cell){Q:Val->Env->Prop}(HJ:List FE){Q':List Val->Env->Prop}
  (k:∀x,(x=.slot 5/\c5=.ow (iF n (bz r)))\/(x=.val (iF n (bz r))/\c5=.sh (iF n (bz r)))->Was HJ [A,B,C,D,E,c5,G,H,I,J] fun xs ρ2=>Q' (x::xs) ρ2):Was (eV 5::HJ) [A,B,C,D,E,c5,G,H,I,J] Q':=by
 rcases h5 with rfl | rfl
 ·exact m_ (ac9 rfl (k _ (.inl ⟨rfl,rfl⟩)))
 ·exact m_ (aa_ rfl (k _ (.inr ⟨rfl,rfl⟩)))
theorem lY(n:Nat)(hn:n<=40)(r:List Tie)(hp:Pl n r)(nd:(r.map (·.m)).Nodup)(hl:r.length<=1000)(a b:Int)(a0:0<=a)(a1:a<n)(b0:0<=b)(b1:b<n)(most:Int)(m0:0<=most)(m1:most<=90) :
  ∃ws o,Hu [.int n,bf r,.int a,.int b,.int most]=some (.val (.tup [.lst (ws.map wM),n8 o]))/\Apart n r a b most ws o:=by
 suffices q:Wr (Hu [.int n,bf r,.int a,.int b,.int most]) fun v=>∃ws o,v=.val (.tup [.lst (ws.map wM),n8 o])/\Apart n r a b most ws o by obtain⟨v,h1,ws,o,rfl,h2⟩:=q;exact⟨ws,o,h1,h2⟩
 unfold Hu
 (refine Dm.ade ?_ rfl rfl;and_intros)
 refine ac4 (ac6 (adb (m_ (aa_ rfl (m_ (aa_ rfl (ab_ (adf (Fj n (by lia) r hp hl) ?_ rfl rfl rfl rfl))))))) (by decide));refine ac8 ?_ (by trivial);refine ac4 (ac6 (aew (ac8 ?_ (by trivial))) (by decide));refine ac4 (ac6 (ac5 (adj ?_ (by trivial))) (by decide));refine ac4 (ac6 (ac5 (adj ?_ (by trivial))) (by decide));have hR:∀i:Nat,i<n->(bz r i).length<=1000:=fun i _=>aaE (lI r i) hl;refine ac4 ?_;refine ad6 (fun k ρ=>∃ (c5:Cell) (h:List (Int×Int)) (o:Option (List Int)) (U3:Nat) (c9:Cell),ρ=X_ n r a b most c5 h o U3 c9∧ND n r c5∧kJ r h∧Flow r (hdF h) a b U3∧(U3:Int)≤most∧(∀ S,o=some S→X8 n a b S∧(U9 r S).length=U3∧(U3:Int)<most) ∧
   k=(most-U3).toNat+(if o=none then 1 else 0)) ?_ 100 (most.toNat+1) _ (by lia) ⟨_,[],none,0,_,rfl,.inl rfl,kJ.nil r,Flow.zero r a b,m0,by simp,by simp⟩
 rintro k ρ ⟨c5,h,o,U3,c9,rfl,h5,hok,fl,hle,hs,hk⟩;unfold X_;have Tr:o≠none\/¬(U3:Int)<most->Ws (sR (gm [(eFd KH [(eV 5),(eV 6),(eV 2),(eV 3),(eV 8)]),(eV 7)])) [.sh (.int n),.sh (bf r),.sh (.int a),.sh (.int b),.sh (.int most),c5,.ow (cG h),.sh (n8 o),.sh (.int U3),c9]
   (fun _=>∃ws o,RV.val .non=.val (.tup [.lst (ws.map wM),n8 o])/\Apart n r a b most ws o) (fun v _=>∃ws o,v=.val (.tup [.lst (ws.map wM),n8 o])/\Apart n r a b most ws o) (fun _=>False) (fun _=>False):=fun hend=>by
  obtain⟨ws,ep,wl,W⟩:=HG n hn r hp nd hl h hok a b a0 a1 U3 (by lia) fl;refine adi (adC (m_ (aef (Sj (Q:=fun _ _=>True) h5 _ _ _ _ _ _ _ _ _ _ fun x hx=>?_))));refine m_ (ac9 rfl (m_ (aa_ rfl (m_ (aa_ rfl (m_ (aa_ rfl (ab_ ?_))))))));have fin2:Apart n r a b most ws o:=⟨W,by rw[wl];exact hle,fun z=>by rw[wl];have:=hend.resolve_left (fun y=>y z);lia,fun S z=>by rw[wl];exact hs S z⟩
  rcases hx with⟨rfl,rfl⟩ | ⟨rfl,rfl⟩
  ·refine⟨_,_,_,rfl,ep,Jw ws,?_⟩;refine m_ (aa_ rfl (ab_ (adg ?_ rfl rfl (by exact aaa rfl))));exact⟨ws,o,rfl,fin2⟩
  ·refine⟨_,_,_,rfl,ep,Jw ws,?_⟩;refine m_ (aa_ rfl (ab_ (adg ?_ rfl rfl (by exact aaa rfl))));exact⟨ws,o,rfl,fin2⟩
 refine adO (adh (ac3 (aa_ rfl (aa_ rfl (ad5 (ac_ ?_) rfl rfl)))));refine adq (fun NO=>?_) fun hge=>?_
 ·refine adh (ac3 (aa_ rfl (ac5 (aed (ac_ ?_) rfl rfl))));cases o with
  |some S=>refine ads rfl ?_;exact Tr (.inl (by simp))
  |none=>
   refine adB rfl ?_;unfold Sb;obtain⟨s,es,F,hd⟩:=yf n hn (Fo h (bz r)) (fun i _ _ u hu=>(CH hp ((wL (h:=h)).mp hu).1).2) a a0 a1;have X6:=F.len;have search:∀{N:Env->Prop} {R:RV->Env->Prop} {B C:Env->Prop},(∀c5',ND n r c5'->N [.sh (.int n),.sh (bf r),.sh (.int a),.sh (.int b),.sh (.int most),c5',.ow (cG h),.sh (n8 none),.sh (.int U3),.ow (.dct (sk s) (sv s))]) ->
     Ws (sA 9 (eF qL [(eFd Nf [(eV 5),(eV 6)]),(eV 2)])) [.sh (.int n),.sh (bf r),.sh (.int a),.sh (.int b),.sh (.int most),c5,.ow (cG h),.sh (n8 none),.sh (.int U3),c9] N R B C:=fun {N R B C} kN=>by
    refine ac6 (adb (m_ (aef (Sj (Q:=fun _ _=>True) h5 _ _ _ _ _ _ _ _ _ _ fun x hx=>?_)))) (by decide);refine m_ (ac9 rfl (ab_ ?_));rcases hx with⟨rfl,rfl⟩ | ⟨rfl,rfl⟩
    ·refine⟨_,_,_,rfl,q_ n (by lia) (bz r) hR h,o9 _ _,?_⟩;refine m_ (aa_ rfl (ab_ (adf es ?_ rfl rfl rfl rfl)));exact ac8 (kN _ (.inr rfl)) (by trivial)
    ·refine⟨_,_,_,rfl,q_ n (by lia) (bz r) hR h,o9 _ _,?_⟩;refine m_ (aa_ rfl (ab_ (adf es ?_ rfl rfl rfl rfl)));exact ac8 (kN _ (.inr rfl)) (by trivial)
   refine ac4 (search fun c5' h5'=>?_);refine adm (adh (ac3 (aa_ rfl (ac9 rfl (ad1 (ac_ ?_) rfl rfl)))));rw[DR];refine adq (fun hb=>?_) fun hb=>?_
   ·obtain⟨w,t1,t2⟩:∃w,(b,w)∈s/\cL (sk s) (sv s) b=some (nq w):=by
     rcases Jt s b with h | h
     ·exact h
     ·exact absurd hb h.1
    obtain⟨⟨w1,w2⟩,_⟩:=F.way _ t1;dsimp only at w1 w2;have w1':Way (jY r (hdF h)) a w b:=w1.mono fun _ _ z=>wL.mp z;have wms:=Ju (fun p s (z:jY r (hdF h) p s)=>z.1) w1';have el:=AE r hl h hok w wms;refine ac4 (adG (aee (m_ (ac3 (ac9 rfl (aa_ rfl (adX t2 (ab_ (ad3 el ?_ rfl rfl rfl)) rfl rfl))))) rfl));refine ac6 (ac3 (aa_ rfl (ac5 (adn (adj ?_ (by trivial)) rfl rfl)))) (by decide);have fl2:=fl.more nd w1' w2;rw[<- wJ]at fl2;refine⟨(most-(U3+1:Nat)).toNat+1,by rw[hk];simp;lia,c5',bU h w,none,U3+1,.ow (.dct (sk s) (sv s)),?_,h5',hok.Aw wms,fl2,by lia,by simp,by simp⟩;have:((U3:Int)+1)=((U3+1:Nat):Int):=by lia
    rw[this]
   ·refine ac6 (adp (m_ (adp (m_ (ac9 rfl (ab_ (ae2 (ks:=sk s) (vs:=sv s) ?_ rfl (by simp only[sk,Pa];lia)))))))) (by decide);refine ab_ (aeh ?_ rfl);refine adj ?_ (by trivial);have pm:=k7 ltI (sk s);have hS:∀x,x∈kr ltI (sk s)↔x∈sk s:=fun x=>pm.mem_iff;refine⟨(most-U3).toNat,by rw[hk];simp,c5',h,some (kr ltI (sk s)),U3,.ow (.dct (sk s) (sv s)),rfl,h5',hok,fl,hle,fun S z=>?_,by simp⟩;cases z;refine⟨⟨NC F.nd,fun x hx=>F.pl x ((hS x).mp hx),(hS a).mpr F.st,fun z=>hb ((hS b).mp z)⟩,?_,NO⟩;have:=fl.cut (S:=fun y=>decide (y∈kr ltI (sk s))) (decide_eq_true ((hS a).mpr F.st)) (decide_eq_false fun z=>hb ((hS b).mp z)) fun y u hy hu=>decide_eq_true ((hS _).mpr (hd y ((hS y).mp (of_decide_eq_true hy)) u (wL.mpr hu)));unfold U9;rw[Pa];exact this
 ·refine ads rfl ?_;exact Tr (.inr hge)
theorem Fq(i:Int):EZ [.int i]=some (.val (.bl true)):=by
 apply adk;unfold EZ
 (refine Dm.ade ?_ rfl rfl;and_intros)
 refine adi (adM (adw (aa_ rfl (ado ?_ rfl rfl))));refine ac_ (adQ (aex (adw (aa_ rfl (ado ?_ rfl rfl)))));exact ac_ rfl
theorem CJ(i lo hi:Int)(h0:lo<=i)(h1:i<=hi):qY [.int i,.int lo,.int hi]=some (.val (.bl true)):=by unfold qY;simp[fn,sR,oH,eF,eAs,eV,pks,pk,Fq,RV.cR,RV.dat,kj,rE,gLe,h0,h1]
theorem Ft(n i:Int)(h0:0<=i)(h1:i<n):Cu [.int n,.int i]=some (.val (.bl true)):=by
 apply adk;unfold Cu
 (refine Dm.ade ?_ rfl rfl;and_intros)
 refine adi (adb (m_ (aa_ rfl (m_ (ac5 (m_ (ac3 (aa_ rfl (ac5 (adK ?_ rfl rfl))))))))));exact ab_ (adl (CJ i 0 (n-1) h0 (by lia)) rfl rfl rfl)
theorem QU(n a b:Int)(a0:0<=a)(a1:a<n)(b0:0<=b)(b1:b<n)(h:a≠b):Jh [.int n,.int a,.int b]=some (.val (.bl true)):=by
 apply adk;unfold Jh
 (refine Dm.ade ?_ rfl rfl;and_intros)
 refine adi (adM (adb (m_ (aa_ rfl (m_ (aa_ rfl (ab_ (adl (Ft n a a0 a1) ?_ rfl rfl))))))));refine ac_ (adQ (adM (adb (m_ (aa_ rfl (m_ (aa_ rfl (ab_ (adl (Ft n b b0 b1) ?_ rfl rfl)))))))));refine ac_ (adQ (ac3 (aa_ rfl (aa_ rfl (adS ?_ rfl rfl)))));rw[decide_eq_false h];rfl
theorem DV(n a b:Int)(a0:0<=a)(a1:a<n)(b0:0<=b)(b1:b<n)(h:a≠b):Ji [.int n,.int a,.int b]=some (.val .non):=by
 apply adk;unfold Ji
 (refine Dm.ade ?_ rfl rfl;and_intros)
 refine adm (adN (adh (adb (m_ (aa_ rfl (m_ (aa_ rfl (m_ (aa_ rfl (ab_ (adl (QU n a b a0 a1 b0 b1 h) ?_ rfl rfl)))))))))));exact ac_ (adF (adt rfl))
theorem Jx{x y:Tie}(h:x.m=y.m/\x.a=y.a/\x.b=y.b):x=y:=by cases x;cases y;obtain⟨h1,h2,h3⟩:=h;dsimp only at h1 h2 h3;rw[h1,h2,h3]
instance ZT:DecidableEq Tie:=fun x y=>decidable_of_iff (x.m=y.m/\x.a=y.a/\x.b=y.b) ⟨Jx,fun h=>by rw[h];exact⟨rfl,rfl,rfl⟩⟩
theorem HH(u t:Tie):eqD (b7 u) (b7 t)=decide (u=t):=by rw[aci,decide_eq_true_iff];unfold b7;simp[eqD,yC];exact⟨Jx,fun h=>by rw[h];exact⟨rfl,rfl,rfl⟩⟩
theorem U_(t:Tie)(K:List Tie):inD (b7 t) (K.map b7)=decide (t∈K):=by
 induction K with
 |nil=>rfl
 |cons u K ih=>
  unfold inD at ih ⊢;rw[gc,abc,ih];by_cases h:t=u
  ·subst h;simp[HH]
  ·have h':¬u=t:=fun z=>h z.symm;simp[HH,h,h']
theorem QV(K:List Tie):(K.map b7).all (okD 7)=true:=by rw[List.all_map];exact aa1.mpr fun t _=>rfl
theorem aej{K:List Tie}{Q:RV->Prop}(k:Q (.val (.bl (!decide (t∈K)))))(ho:o=some (b7 t))(hp:p=some (bf K)):Wg2 kX o p Q:=
 ⟨_,_,_,ho,hp,by unfold bf kX;dsimp only;rw[QV,U_];rfl,k⟩
noncomputable def AG(a b:Int)(t:Tie):Bool:=decide (a=t.a\/a=t.b)&&decide (b=t.a\/b=t.b)
noncomputable def NF(t:Tie):Dat:=.lst [.int t.m]
noncomputable def o_(r:List Tie)(a b:Int):List Tie:=r.filter (AG a b)
noncomputable def AH(r:List Tie)(a b:Int):List Tie:=r.filter fun t=>!AG a b t
theorem HK(r:List Tie)(a b:Int):(r.filter fun t=>!decide (t∈o_ r a b))=AH r a b:=by
 refine List.filter_congr fun t ht=>?_;unfold o_;cases h:AG a b t with
 |true=>rw[decide_eq_true (aaO.mpr ⟨ht,h⟩)]
 |false=>rw[decide_eq_false fun z=>by rw[(aaO.mp z).2]at h;cases h]
theorem rj(n:Nat)(n10:n<=10)(r:List Tie)(hp:Pl n r)(hl:r.length<=100)(a b:Int)(a0:0<=a)(a1:a<n)(b0:0<=b)(b1:b<n)(X3:a≠b)(most:Int)(m0:0<=most)(m1:most<=60) :
  ∃ws o h,E3 [.int n,bf r,.int a,.int b,.int most]=some (.val (.tup [.int (((o_ r a b).take most.toNat).length+ws.length:Nat),.lst (((o_ r a b).take most.toNat).map NF++ws.map (vm n (AH r a b))),CD o]))/\Around n (AH r a b) a b (most-((o_ r a b).take most.toNat).length) ws o h:=by
 have hz:SZ=100000:=rfl;have hpo:Pl n (AH r a b):=fun t ht=>hp t (aaO.mp ht).1;have hlo:(AH r a b).length<=r.length:=abz _ _;have hls:(o_ r a b).length<=r.length:=abz _ _;have hno:∀t∈AH r a b,¬((t.a=a/\t.b=b)\/(t.a=b/\t.b=a)):=fun t ht k=>by
  have h2:AG a b t=false:=by simpa using(aaO.mp ht).2
  unfold AG at h2;rcases k with⟨rfl,rfl⟩ | ⟨rfl,rfl⟩
  ·rw[decide_eq_true (.inl rfl),decide_eq_true (.inr rfl)]at h2;cases h2
  ·rw[decide_eq_true (.inr rfl),decide_eq_true (.inl rfl)]at h2;cases h2
 have tl:((o_ r a b).take most.toNat).length<=most.toNat:=by rw[aa7];lia
 have tl2:((o_ r a b).take most.toNat).length<=(o_ r a b).length:=by rw[aa7];lia
 have ct:QA (o_ r a b) none (some most)=(o_ r a b).take most.toNat:=by
  unfold QA sIx;simp
  lia
 generalize hst:(o_ r a b).take most.toNat=st at tl tl2 ct
 obtain⟨ws,o,h,ew,A⟩:=AB n n10 (AH r a b) hpo (by lia) a b a0 a1 b0 b1 hno (most-st.length) (by lia) (by lia);have wl:=A.le;refine⟨ws,o,h,?_,A⟩;apply adk;unfold E3
 (refine Dm.ade ?_ rfl rfl;and_intros)
 refine ac4 (adG (adb (m_ (aa_ rfl (m_ (aa_ rfl (m_ (aa_ rfl (ab_ (adl (DV n a b a0 a1 b0 b1 X3) ?_ rfl rfl))))))))));refine ac4 (ac6 (adH b7 r (AG a b) id b7 (d:=bf r) ?_ rfl rfl rfl (by decide) (by lia) (fun t _=>?_) fun t _ _=>aa_ rfl (ada ⟨rfl,rfl⟩)) (by decide))
 rotate_left
 ·refine adO (adh (ac3 (aa_ rfl (ael (aa_ rfl (Wp.some (ac5 (jx.mk (Wp.none ⟨[.int t.m,.int t.a,.int t.b],rfl,by show ¬(sIx 3 0 (some 1)=0/\sIx 3 3 none=3);decide,?_⟩)))))))));refine ad9 (i:=a) (a:=t.a) (b:=t.b) (ac_ ?_) rfl rfl;unfold AG;by_cases h:a=t.a\/a=t.b
  ·refine adB (decide_eq_true h) (adh (ac3 (aa_ rfl (ael (aa_ rfl (Wp.some (ac5 (jx.mk (Wp.none ⟨[.int t.m,.int t.a,.int t.b],rfl,by show ¬(sIx 3 0 (some 1)=0/\sIx 3 3 none=3);decide,?_⟩)))))))));refine ad9 (i:=b) (a:=t.a) (b:=t.b) (ac_ ?_) rfl rfl;rw[decide_eq_true h];exact⟨rfl,rfl⟩
  ·refine ads (decide_eq_false h) ?_;rw[decide_eq_false h];exact⟨rfl,rfl⟩
 rw[abd];refine ac8 ?_ (by trivial);refine ac4 (ac6 (adH b7 r (fun t=>!decide (t∈o_ r a b)) id b7 (d:=bf r) ?_ rfl rfl rfl (by decide) (by lia) (fun t _=>?_) fun t _ _=>aa_ rfl (ada ⟨rfl,rfl⟩)) (by decide))
 rotate_left
 ·exact adh (ac3 (aa_ rfl (ac9 rfl (aej (t:=t) (K:=o_ r a b) (ac_ ⟨rfl,rfl⟩) rfl rfl))))
 rw[abd,HK];refine ac8 ?_ (by trivial);have hsl:iS (eSl (eV 5) none (some (eV 4))) [.sh (.int n),.sh (bf r),.sh (.int a),.sh (.int b),.sh (.int most),.ow (bf (o_ r a b)),.ow (bf (AH r a b)),.un,.un]=some (st.map b7,[.sh (.int n),.sh (bf r),.sh (.int a),.sh (.int b),.sh (.int most),.ow (bf (o_ r a b)),.ow (bf (AH r a b)),.un,.un]):=by apply adP;refine adI (aeI (ac9 rfl (Wp.none (Wp.some (aa_ rfl (jx.mk ⟨_,rfl,?_⟩))))));rw[XU,ct];exact adE (iK ⟨rfl,rfl⟩)
 refine ac4 (ac6 (adR b7 st id NF ?_ hsl rfl (by decide) (by lia) fun t _=>?_) (by decide))
 rotate_left
 ·exact adu (m_ (ac3 (aa_ rfl (ac5 (ac7 (ab_ (adg (adE ⟨rfl,rfl⟩) rfl rfl (by exact aaa rfl))) rfl rfl rfl)))))
 rw[abd];refine ac8 ?_ (by trivial);refine ac4 (ac6 (adb (m_ (aa_ rfl (m_ (ac9 rfl (m_ (aa_ rfl (m_ (aa_ rfl (m_ (ac3 (aa_ rfl (adp (m_ (ac9 rfl (ab_ ⟨_,_,rfl,rfl,adK ?_ rfl rfl⟩)))))))))))))))) (by decide));rw[Pa];refine ab_ (adf ew (adj ?_ (by trivial)) rfl rfl rfl rfl);refine ac4 (aeT (ds0:=st.map NF) (ac3 (aa_ rfl (ac5 (ac7 ?_ rfl rfl rfl)))) rfl);refine⟨ws.map (vm n (AH r a b)),st.map NF,_,rfl,rfl,rfl,?_,by rw[Pa,Pa];lia⟩;refine adi (adC (m_ (adp (m_ (ac9 rfl (ab_ ⟨_,_,rfl,rfl,?_⟩))))));refine m_ (ac9 rfl (m_ (ac3 (aa_ rfl (ac5 (ac7 (ab_ (adg ?_ rfl rfl (by exact aaa rfl))) rfl rfl rfl))))));rw[aan,Pa,Pa];exact ady rfl
theorem nt(x n:Int)(h:1<=n):0<=x % n/\x % n<n:=⟨Int.emod_nonneg x (by lia),Int.emod_lt_of_pos x (by lia)⟩
noncomputable def at'(ns:List Int)(i:Int):Int:=ns.getD i.toNat 0
theorem Va(ns:List Int)(i:Int)(h0:0<=i)(h1:i<ns.length):gIx (.lst (ns.map Dat.int)) (.int i)=some (.val (.int (at' ns i))):=by show (atI (ns.map Dat.int) i).map RV.val=_;rw[Dm.zz Dat.int ns i h0 h1];unfold at';rw[abm,aaI (by lia)];rfl
theorem Yb{ns:List Int}{i:Int}{K:RV->Prop}(h0:0<=i)(h1:i<ns.length)(k:K (.val (.int (at' ns i))))(ho:o=some (.lst (ns.map Dat.int)))(hp:p=some (.int i)):Wg2 gIx o p K:=⟨_,_,_,ho,hp,Va ns i h0 h1,k⟩
noncomputable def fG(x:Int):Dat:=.lst [.int x]
theorem QW(ns:List Int)(k:Int)(h0:0<=k):∃x,E4 [.lst (ns.map Dat.int),.int k]=some (.val (.int x)):=by
 suffices h:Wr (E4 [.lst (ns.map Dat.int),.int k]) fun v=>∃x,v=.val (.int x) by obtain⟨v,h1,c,rfl⟩:=h;exact⟨c,h1⟩
 unfold E4
 (refine Dm.ade ?_ rfl rfl;and_intros)
 repeat array_get_dec
 refine⟨fun h=>?_,fun h=>?_⟩
 ·have h:=of_decide_eq_true h
  repeat array_get_dec
  refine Yb h0 (by simpa using h) ?_ rfl rfl;exact⟨_,rfl⟩
 ·repeat array_get_dec
  exact⟨_,rfl⟩
theorem Jy(ns:List Int)(k:Int)(h0:0<=k)(h1:k<1000):∃x,Cy [.lst (ns.map Dat.int),.int k]=some (.new (fG x)):=by
 suffices h:Wr (Cy [.lst (ns.map Dat.int),.int k]) fun v=>∃x,v=.new (fG x) by obtain⟨v,h1,c,rfl⟩:=h;exact⟨c,h1⟩
 obtain⟨c,ec⟩:=QW ns k h0;unfold Cy
 (refine Dm.ade ?_ rfl rfl;and_intros)
 refine ac4 (ac6 (adb (m_ (aa_ rfl (m_ (aa_ rfl (ab_ (adl ec ?_ rfl rfl))))))) (by decide));refine adj ?_ (by trivial);refine ac4 (adm (adh (ac3 (aa_ rfl (ac3 (ac5 (ac5 (adY (z:=1000000000000000000) ?_ rfl rfl (by decide) (by decide)))))))));refine aez (ac_ ?_) rfl rfl;refine⟨fun h=>?_,fun h=>?_⟩
 ·repeat array_get_dec
  exact⟨_,rfl⟩
 ·refine adt ?_;refine ac4 (ac6 (ac5 (adj ?_ (by trivial))) (by decide));refine ac4 (adv (adJ (ac5 (jx.mk ⟨?_,by decide,by decide⟩))));refine adx (fun i:Nat=>Dat.int (0+(i:Nat))) _ _ (aas 48) _ _ _ _ _ (fun p q ρ=>∃(x:Int) (c4 c5:Cell),ρ=[.sh (.lst (ns.map Dat.int)),.sh (.int k),.sh (.int c),.sh (.int x),c4,c5]) ⟨_,_,_,rfl⟩ ?_ ?_
  ·rintro p i q ρ e ⟨x,c4,c5,rfl⟩;have hi:i<48:=aaV.mp (by rw[e];simp);refine Dm.fF rfl (by trivial) ?_;unfold Np;refine adW (fun ρ=>∃y:Int,(0<=y/\y<2147483647)/\ρ=[.sh (.lst (ns.map Dat.int)),.sh (.int k),.sh (.int c),.sh (.int x),.sh (.int (0+(i:Nat))),.sh (.int y)]) ?_ ?_
   ·repeat array_get_dec
    ·exact⟨_,nt _ _ (by decide),rfl⟩
    all_goals unfold B64
    all_goals lia
   rintro ρ ⟨y,hy,rfl⟩;refine adW (fun ρ=>∃y:Int,(0<=y/\y<2147483647)/\ρ=[.sh (.lst (ns.map Dat.int)),.sh (.int k),.sh (.int c),.sh (.int x),.sh (.int (0+(i:Nat))),.sh (.int y)]) ?_ ?_
   ·repeat array_get_dec
    ·exact⟨_,by have:=nt (y*y) 1000000007 (by decide);lia,rfl⟩
    ·exact .inl (by unfold B64;lia)
   rintro ρ ⟨z,hz,rfl⟩;refine adW (fun ρ=>∃y:Int,(0<=y/\y<2147483647)/\ρ=[.sh (.lst (ns.map Dat.int)),.sh (.int k),.sh (.int c),.sh (.int x),.sh (.int (0+(i:Nat))),.sh (.int y)]) ?_ ?_
   ·repeat array_get_dec
    ·exact⟨_,by have:=nt ((z+7919*(0+((i:Nat):Int)))*69621) 2147483587 (by decide);lia,rfl⟩
   rintro ρ ⟨u,hu,rfl⟩
   repeat array_get_dec
   exact⟨_,_,_,rfl⟩
  ·rintro ρ ⟨x,c4,c5,rfl⟩
   repeat array_get_dec
   exact⟨_,rfl⟩
theorem QX(x m:Int)(h0:0<m)(h1:m<yD):jz [fG x,.int m]=some (.val (.int (x % m)),fG (x / m)):=by
 suffices h:WrM (jz [fG x,.int m]) fun v d=>v=.val (.int (x % m))/\d=fG (x / m) by obtain⟨v,d,h1,rfl,rfl⟩:=h;exact h1
 unfold jz;refine ad7 ?_ rfl rfl;and_intros;unfold fG
 repeat array_get_dec
 ·refine aeP ?_
  repeat array_get_dec
  ·refine⟨_,0,_,rfl,rfl,rfl,?_⟩
   repeat array_get_dec
   exact⟨_,rfl,rfl,rfl⟩
  ·exact⟨h0,h1⟩
 ·exact h0
def Wtk(j:Nat)(m:Int)(ρ1:Env)(Q:Val->Env->Prop):Prop:=∃x ρ3,Q (.val (.int (x % m))) ρ3/\ρ1[j]?=some (.ow (fG x))/\ρ1.set j (.ow (fG (x / m)))=ρ3/\0<m/\m<yD
theorem Jz{x m:Int}{ρ1 ρ3:Env}(q:Q (.val (.int (x % m))) ρ3)(h2:ρ1[j]?=some (.ow (fG x)))(hn:ρ1.set j (.ow (fG (x / m)))=ρ3)(h0:0<m)(h1:m<yD):Wtk j m ρ1 Q:=⟨_,_,q,h2,hn,h0,h1⟩
theorem aer{a:FE}{d0:Dat}(h:We a ρ fun v ρ1=>jx v fun m=>Wtk j m ρ1 Q)(h0:ρ[j]?=some (.ow d0)):We (eFm jz j [a]) ρ Q:=by refine aee (m_ ?_) h0;obtain⟨v,ρ1,e1,m,rfl,x,ρ3,q,e2,e3,m0,m1⟩:=h;exact⟨_,_,e1,ab_ (ad3 (QX x m m0 m1) q e2 rfl e3)⟩
theorem adA{a:FE}{x m:Int}(ha:a ρ=some (.val (.int m),ρ))(h0:0<m)(h1:m<yD)(hj:ρ[j]?=some (.ow (fG x)))(k:∀t x':Int,0<=t->t<m->∀ρ3,ρ.set j (.ow (fG x'))=ρ3->Q (.val (.int t)) ρ3):We (eFm jz j [a]) ρ Q:=
 aer ⟨_,_,ha,m,rfl,Jz (k _ _ (nt x m (by lia)).1 (nt x m (by lia)).2 _ rfl) hj rfl h0 h1⟩ hj
def Good(n:Int):Int->List Tie->Prop
 |_,[]=>True
 |lo,t::r=>lo<=t.m/\0<=t.a/\t.a<=t.b/\t.b<n/\Good n (t.m+1) r
theorem Good.pl{n:Nat}:∀{r:List Tie} {lo:Int},Good n lo r->Pl n r
 |[],_,_,t,ht=>by cases ht
 |u::r,lo,h,t,ht=>by
  obtain⟨h1,h2,h3,h4,h5⟩:=h;rcases aah.mp ht with rfl | ht
  ·lia
  ·exact Good.pl h5 t ht
theorem Good.lo{n:Int}:∀{r:List Tie} {lo:Int},Good n lo r->∀t∈r,lo<=t.m
 |[],_,_,t,ht=>by cases ht
 |u::r,lo,h,t,ht=>by
  obtain⟨h1,h2,h3,h4,h5⟩:=h;rcases aah.mp ht with rfl | ht
  ·exact h1
  ·have:=Good.lo h5 t ht;lia
theorem Good.nd{n:Int}:∀{r:List Tie} {lo:Int},Good n lo r->(r.map (·.m)).Nodup
 |[],_,_=>by simp
 |u::r,lo,h=>by
  obtain⟨h1,h2,h3,h4,h5⟩:=h;rw[gc,aal];refine⟨fun z=>?_,Good.nd h5⟩;obtain⟨t,ht,e⟩:=aak.mp z;have:=Good.lo h5 t ht
  lia
theorem Good.snoc{n:Int}:∀{r:List Tie} {lo hi:Int} {t:Tie},Good n lo r->(∀u∈r,u.m<hi)->lo<=hi->hi=t.m->0<=t.a->t.a<=t.b->t.b<n->Good n lo (r++[t])
 |[],_,_,_,_,_,h,e,h1,h2,h3=>⟨by lia,h1,h2,h3,trivial⟩
 |u::r,lo,hi,t,h,hu,hl,e,h1,h2,h3=>by obtain⟨k1,k2,k3,k4,k5⟩:=h;exact⟨k1,k2,k3,k4,Good.snoc k5 (fun v hv=>hu v (Ds _ hv)) (by have:=hu u PU;lia) e h1 h2 h3⟩
theorem Good.pl'{n:Int}:∀{r:List Tie} {lo:Int},Good n lo r->∀t∈r,0<=t.a/\t.a<n/\0<=t.b/\t.b<n
 |[],_,_,t,ht=>by cases ht
 |u::r,lo,h,t,ht=>by
  obtain⟨h1,h2,h3,h4,h5⟩:=h;rcases aah.mp ht with rfl | ht
  ·lia
  ·exact Good.pl' h5 t ht
theorem ix3(a b c:Int)(x:Int)(h0:0<=x)(h:x<3):gIx (.lst [.int a,.int b,.int c]) (.int x)=some (.val (.int (if x=0 then a else if x=1 then b else c))):=by
 have:x=0\/x=1\/x=2:=by lia
 rcases this with rfl | rfl | rfl<;>rfl
theorem NG(r:List Tie)(i:Int)(h0:0<=i)(h1:i<r.length):gIx (bf r) (.int i)=some (.val (b7 (r[i.toNat]'(by omega)))):=by unfold bf gIx;dsimp only;rw[zz b7 r i h0 h1];rfl
noncomputable def RE(pool:Int)(n most many wide Vb:Int)(r:List Tie)(c7 c8 c9:Cell):Env:=
 [.ow (fG pool),.sh (.int n),.sh (.int most),.sh (.int many),.sh (.int wide),.sh (.int Vb),.ow (bf r),c7,c8,c9]
theorem QY(a b:Int):(if b<a then b else a)<=(if b>a then b else a):=by split<;>split<;>lia
theorem KS(x n most:Int)(n1:1<=n)(n10:n<=10)(m0:0<=most)(m60:most<=60) :
  ∃(r:List Tie) (x':Int),E5 [fG x,.int n,.int most]=some (.new (bf r),fG x')/\Good n 0 r/\(r.length:Int)<=most:=by
 suffices hh:WrM (E5 [fG x,.int n,.int most]) fun v d=>∃(r:List Tie) (x':Int),v=.new (bf r)/\d=fG x'/\Good n 0 r/\(r.length:Int)<=most by obtain⟨v,d,h1,h,x',rfl,rfl,h2⟩:=hh;exact⟨h,x',h1,h2⟩
 unfold E5;refine ad7 ?_ rfl rfl;and_intros;refine ac4 (ac6 ?_ (by decide));refine adA (m:=most+1) rfl (by lia) (by unfold yD;lia) rfl fun many x1 h1 h2 ρ3 e=>?_;subst e;refine adj ?_ (by trivial);refine ac4 (ac6 ?_ (by decide));refine adA (m:=3) rfl (by decide) (by decide) rfl fun wide x2 k1 k2 ρ3 e=>?_;subst e;refine adj ?_ (by trivial);refine ac4 (ac6 ?_ (by decide));refine adA (m:=4) rfl (by decide) (by decide) rfl fun mo x3 w1 w2 ρ3 e=>?_;subst e;refine adj ?_ (by trivial);refine ac4 (ac6 (adu (ab_ (adg ?_ rfl rfl (by decide)))) (by decide));refine ac8 ?_ (by trivial);refine ac4 (adv (adJ (aa_ rfl (jx.mk ⟨?_,by unfold BIG;lia⟩))));refine adx (fun i:Nat=>Dat.int (0+(i:Nat))) _ _ (aas many.toNat) _ _ _ _ _ (fun p q ρ=>∃(x mo:Int) (r:List Tie) (c7 c8 c9:Cell),ρ=RE x n most many wide mo r c7 c8 c9/\p=aas p.length/\Good n 0 r/\r.length=p.length/\(∀u∈r,u.m<mo)/\0<=mo)
  ⟨_,_,[],_,_,_,rfl,rfl,trivial,rfl,(fun u hu=>by cases hu),w1⟩ ?_ ?_
 ·rintro p i q ρ e ⟨x,mo,r,c7,c8,c9,rfl,hpp,hg,hl,hu,hm⟩;have lp:(aas many.toNat).length=p.length+(q.length+1):=by rw[e];simp
  rw[aaM]at lp;have hi:i=p.length:=by
   have h1:(aas many.toNat)[p.length]?=some i:=by rw[e];simp
   rw[abb (by lia)]at h1;exact(Option.some.inj h1).symm
  unfold RE;refine Dm.fF rfl (by trivial) ?_;unfold Nq;refine ac4 (ac6 ?_ (by decide));refine adA (m:=n) rfl (by lia) (by unfold yD;lia) rfl fun one y1 o1 o2 ρ3 e1=>?_;subst e1;refine adj ?_ (by trivial);refine ac4 (ac6 ?_ (by decide));refine adA (m:=n) rfl (by lia) (by unfold yD;lia) rfl fun oth y2 u1 u2 ρ3 e1=>?_;subst e1;refine adj ?_ (by trivial);refine adW (fun ρ=>∃o:Int,(0<=o/\o<n)/\ρ=RE y2 n most many wide mo r (.sh (.int (0+(i:Nat)))) (.sh (.int one)) (.sh (.int o))) ?_ ?_
  ·refine adm (adO (adh (ac3 (aa_ rfl (ac5 (aek (ac_ ?_) rfl rfl))))));refine adq (fun _=>?_) fun _=>?_
   ·refine adh (ac3 (aa_ rfl (aa_ rfl (adD (ac_ ?_) rfl rfl))));refine adq (fun _=>?_) fun _=>?_
    ·refine ac6 (ac3 (ac3 (aa_ rfl (ac5 (adn (aa_ rfl (aea ?_ rfl rfl (by lia))) rfl rfl))))) (by decide);exact adj ⟨_,nt _ n n1,rfl⟩ (by trivial)
    ·exact adt ⟨oth,⟨u1,u2⟩,rfl⟩
   ·exact ads rfl (adt ⟨oth,⟨u1,u2⟩,rfl⟩)
  rintro ρ ⟨o,⟨q1,q2⟩,rfl⟩;refine adW (fun ρ=>∃y v o:Int,(0<=v/\v<n)/\(0<=o/\o<n)/\ρ=RE y n most many wide mo r (.sh (.int (0+(i:Nat)))) (.sh (.int v)) (.sh (.int o))) ?_ ?_
  ·unfold RE;refine adm (adO (adh (ac3 (aa_ rfl (ac5 (aek (ac_ ?_) rfl rfl))))));refine adq (fun hk=>?_) fun _=>?_
   ·refine adh (ac3 ?_);refine adA (m:=4) rfl (by decide) (by decide) rfl fun t y3 t1 t2 ρ3 e1=>?_;subst e1;refine ac5 (adD (ac_ ?_) rfl rfl);refine adq (fun _=>?_) fun _=>?_
    ·have hj:(0:Int)<=0+((i:Nat):Int)-1:=by lia
     have hj2:0+((i:Nat):Int)-1<r.length:=by rw[hl];lia
     have pt:=hg.pl' (r[(0+((i:Nat):Int)-1).toNat]'(by lia)) (acI _);refine ac4 (ac6 (ac3 (ac3 (ac9 rfl (ac3 (aa_ rfl (ac5 (adK ?_ rfl rfl))))))) (by decide));refine ac7 ?_ rfl rfl (NG r _ hj hj2);refine ac5 (ac7 ?_ rfl rfl rfl);refine adj ?_ (by trivial);refine ac6 (ac3 (ac3 (ac9 rfl (ac3 (aa_ rfl (ac5 (adK ?_ rfl rfl))))))) (by decide);refine ac7 ?_ rfl rfl (NG r _ hj hj2);refine ac5 (ac7 ?_ rfl rfl rfl);exact adj ⟨_,_,_,⟨pt.1,pt.2.1⟩,⟨pt.2.2.1,pt.2.2.2⟩,rfl⟩ (by trivial)
    ·exact adt ⟨_,_,_,⟨o1,o2⟩,⟨q1,q2⟩,rfl⟩
   ·exact ads rfl (adt ⟨_,_,_,⟨o1,o2⟩,⟨q1,q2⟩,rfl⟩)
  rintro ρ ⟨y4,v,o,⟨v1,v2⟩,⟨q1,q2⟩,rfl⟩;unfold RE;refine ac4 (adV (adC (m_ (aa_ rfl (m_ (adp (m_ (aa_ rfl (m_ (aa_ rfl (ab_ (aeb ?_ rfl))))))))))) rfl);refine m_ (adp (m_ (aa_ rfl (m_ (aa_ rfl (ab_ (ad_ ?_ rfl)))))));refine ab_ (adg ?_ rfl rfl (by exact aaa rfl));refine ada (Ak ?_ rfl (by trivial) (by rw[Pa];unfold SZ;lia));refine ac6 (ac3 (ac3 (aa_ rfl (ac5 (adn ?_ rfl rfl))))) (by decide);have w1':(0:Int)<(if wide=0 then 1 else if wide=1 then 3 else 1000)/\(if wide=0 then 1 else if wide=1 then 3 else 1000:Int)<2000:=by split;decide;split<;>decide
  refine ac3 ?_;refine aer (ac3 (adu (m_ (ac5 (m_ (ac5 (m_ (ac5 (ab_ (adg ?_ rfl rfl (by exact aaa rfl))))))))))) rfl;refine aa_ rfl (ac7 ?_ rfl rfl (ix3 1 3 1000 wide k1 k2));refine jx.mk (Jz ?_ rfl rfl w1'.1 (by unfold yD;lia));have hm0:=nt y4 (if wide=0 then 1 else if wide=1 then 3 else 1000) (by lia);refine ac3 (adu (m_ (ac5 (m_ (ac5 (m_ (ac3 (ac5 (ac5 (adY (z:=10000000000000000000000000) ?_ rfl rfl (by decide) (by decide)))))))))));refine ab_ (adg ?_ rfl rfl (by exact aaa rfl));refine aa_ rfl (ac7 ?_ rfl rfl (ix3 1 1 10000000000000000000000000 wide k1 k2));refine adZ ?_ rfl rfl (.inl (by unfold B64;lia));refine adn ?_ rfl rfl;refine adj ?_ (by trivial)
  generalize hf:(if wide=0 then 1 else if wide=1 then 1 else 10000000000000000000000000:Int)=f
  have hf0:0<=f:=by rw[<- hf];split;decide;split<;>decide
  generalize (y4 % if wide=0 then 1 else if wide=1 then 3 else 1000:Int)=t at hm0 ⊢
  have tn:=Int.mul_nonneg hm0.1 hf0;refine⟨y4 / (if wide=0 then 1 else if wide=1 then 3 else 1000),mo+1+t*f,r++[⟨mo,(if o<v then o else v),(if o>v then o else v)⟩],.sh (.int (0+(i:Nat))),.sh (.int v),.sh (.int o),?_,?_,?_,by simp[hl],?_,by lia⟩
  ·unfold bf;rw[aaj];rfl
  ·rw[aan,abp,List.range_succ,<- hpp,hi]
  ·refine Good.snoc (hi:=mo) hg hu hm rfl ?_ (QY v o) ?_
   ·show 0<=(if o<v then o else v);split<;>lia
   ·show (if o>v then o else v)<n;split<;>lia
  ·intro u hu';rcases aay.mp hu' with h | h
   ·have:=hu u h;lia
   ·rw[aaL.mp h];show mo<_;lia
 ·rintro ρ ⟨x,mo,r,c7,c8,c9,rfl,hpp,hg,hl,hu,hm⟩;unfold RE;refine adi (ac9 rfl (adz ?_ rfl));refine⟨_,rfl,r,x,rfl,rfl,hg,?_⟩;rw[hl,aaM]
  lia
noncomputable def outF(r:List Tie)(t:Tie):List Tie:=r.filter fun u=>decide (u≠t)
theorem aeR{u t:Tie}{Q:RV->Prop}(k:Q (.val (.bl (decide (u≠t)))))(ho:o=some (b7 u))(hp:p=some (b7 t)):Wg2 gNe o p Q:=
 ⟨_,_,_,ho,hp,rfl,by rw[HH,<- decide_not];exact k⟩
theorem AI(r:List Tie)(hl:r.length<=1000)(t:Tie):ye [bf r,b7 t]=some (.new (bf (outF r t))):=by
 apply adk;unfold ye
 (refine Dm.ade ?_ rfl rfl;and_intros)
 refine adi ?_;refine adH b7 r (fun u=>decide (u≠t)) id b7 (d:=bf r) ?_ rfl rfl rfl (by decide) (by unfold SZ;lia) (fun u _=>?_) fun u _ _=>?_
 ·rw[abd];rfl
 ·exact adh (ac3 (aa_ rfl (aa_ rfl (aeR (ac_ ⟨rfl,rfl⟩) rfl rfl))))
 ·exact aa_ rfl (ada ⟨rfl,rfl⟩)
theorem HL(k:Nat)(k6:k<=6):∃d,vf [.int k]=some (.new (.lst d)):=by
 suffices q:Wr (vf [.int k]) fun v=>∃d,v=.new (.lst d) by obtain⟨v,h1,d,rfl⟩:=q;exact⟨d,h1⟩
 unfold vf
 (refine Dm.ade ?_ rfl rfl;and_intros)
 refine adi ?_;refine adR (fun i:Nat=>Dat.int (0+(i:Nat))) (aas k) (fun _=>Dat.lst []) id (ρ1:=[.sh (.int k)]) ?_ ?_ rfl (by decide) (by rw[aaM];unfold SZ;lia) fun i _=>?_
 ·exact⟨_,rfl⟩
 ·apply adP;refine adJ (aa_ rfl (jx.mk ⟨⟨?_,rfl⟩,by unfold BIG;lia,by unfold BIG;lia⟩));rw[ab8];rfl
 ·exact adu (ab_ (adg (adE ⟨rfl,rfl⟩) rfl rfl (by decide)))
theorem lq(k:Int)(h0:1<=k)(h1:k<=6):Ao [.int k]=some (.val .non):=by
 have e:mX [.int k]=some (.val (.bl true)):=by
  apply adk;unfold mX
  (refine Dm.ade ?_ rfl rfl;and_intros)
  refine adi (adb (m_ (aa_ rfl (m_ (ac5 (m_ (ac5 (ab_ (adl (CJ k 1 6 h0 h1) ?_ rfl rfl)))))))));rfl
 apply adk;unfold Ao
 (refine Dm.ade ?_ rfl rfl;and_intros)
 refine adm (adN (adh (adb (m_ (aa_ rfl (ab_ (adl e ?_ rfl rfl)))))));exact ac_ (adF (adt rfl))
structure Fit(n:Nat)(r:List Tie):Prop where
 n10:n<=10
 pl:Pl n r
 nd:(r.map (·.m)).Nodup
 len:r.length<=100
theorem Fit.sub{n:Nat}{r K:List Tie}(h:Fit n r)(s:K.Sublist r):Fit n K:=⟨h.n10,fun t ht=>h.pl t (s.subset ht),h.nd.sublist (s.map _),aaE s.length_le h.len⟩
theorem Fit.out{n:Nat}(h:Fit n r)(t:Tie):Fit n (outF r t):=h.sub abK
noncomputable def rm(r K:List Tie):RV:=if r=[] then .new (bf K) else .val (bf K)
noncomputable def kB(aH:Nat)(fH:List Dat->Option RV):FS:=
  (aR (sA 6 (eF ye [(eV 4),(eV 5)]))
  (sIf (tOr (tV (e2 gEq (e2 gIx (eV 5) (eC (.int 1))) (e2 gIx (eV 5) (eC (.int 2))))) (tV (eFp aH 3 fH [(eV 0),(eV 6),(e2 gIx (eV 5) (eC (.int 1))),(e2 gIx (eV 5) (eC (.int 2))),(eV 2)]))) (sA 4 (eV 6)) sNx))
noncomputable def kF(aH:Nat)(fH:List Dat->Option RV):List Dat->Option RV:=fn 4 3
  (aR (sA 4 (eB xV [(eV 1)]))
  (aR (kW (iS (eV 1)) (bN 5)
  (kB aH fH))
  (sR (eV 4))))
noncomputable def oF(aW:Nat)(fW:List Dat->Option RV):List Dat->Option RV:=fn 5 1
  (aR (sA 5 (bA 1 1 (bN 6) (tV (e2 kX (eV 6) (eV 2))) (eV 6)))
  (sR (bA 5 1 (bN 6) cz (eIf (tV (e2 gEq (e2 gIx (eV 6) (eC (.int 1))) (e2 gIx (eV 6) (eC (.int 2))))) (eF vf [(eV 3)]) (eFp aW 4 fW [(eV 0),(eV 2),(e2 gIx (eV 6) (eC (.int 1))),(e2 gIx (eV 6) (eC (.int 2))),(eV 3)])))))
def Tells(n k:Nat)(fH:List Dat->Option RV)(Q:Dat->Prop):Prop:=∀R,Fit n R->∀a b:Int,0<=a->a<n->0<=b->b<n->a≠b->∃d,fH [.int n,bf R,.int a,.int b,.int k]=some (.val d)/\Q d
theorem NH{aH:Nat}{fH:List Dat->Option RV}(hF:Tells n k fH fun d=>∃c,d=.bl c)(h:Fit n r):∃K,kF aH fH [.int n,bf r,.int k,.fn aH]=some (rm r K)/\K.Sublist r:=by
 suffices q:Wr (kF aH fH [.int n,bf r,.int k,.fn aH]) fun v=>∃K,v=rm r K/\K.Sublist r by obtain⟨v,h1,K,rfl,h2⟩:=q;exact⟨K,h1,h2⟩
 unfold kF
 (refine Dm.ade ?_ rfl rfl;and_intros)
 refine ac4 (ac6 (adp (m_ (aa_ rfl (ab_ (aep (xs:=r.map b7) ?_ rfl))))) (by decide));refine ac8 ?_ (by trivial);refine ac4 (adv (adI (aa_ rfl (ada ⟨r.map b7,rfl,?_⟩))));refine adx b7 _ _ r _ _ _ _ _ (fun p q ρ=>∃(K:List Tie) (c4 c5 c6:Cell),ρ=[.sh (.int n),.sh (bf r),.sh (.int k),.sh (.fn aH),c4,c5,c6]/\K.Sublist r/\((p=[]/\c4=.ow (bf K))\/(p≠[]/\c4=.sh (bf K))))
  ⟨r,_,_,_,rfl,acX.refl _,.inl ⟨rfl,rfl⟩⟩ ?_ ?_
 ·rintro p t q ρ e ⟨K,c4,c5,c6,rfl,hK,hc⟩;have ht:t∈r:=by rw[e];simp
  have hp:=h.pl t ht;have fK:=h.sub hK;refine Dm.fF rfl (by trivial) ?_;unfold kB;have ew:=AI K (by have:=fK.len;lia) t;have first:∀{N:Env->Prop} {R:RV->Env->Prop} {B C:Env->Prop},N [.sh (.int n),.sh (bf r),.sh (.int k),.sh (.fn aH),.sh (bf K),.sh (b7 t),.ow (bf (outF K t))] ->
    Ws (sA 6 (eF ye [(eV 4),(eV 5)])) [.sh (.int n),.sh (bf r),.sh (.int k),.sh (.fn aH),c4,.sh (b7 t),c6] N R B C:=fun kN=>by
   rcases hc with⟨_,rfl⟩ | ⟨_,rfl⟩
   ·refine ac6 (adb (m_ (ac9 rfl (m_ (aa_ rfl (ab_ (adf ew ?_ rfl rfl rfl rfl))))))) (by decide);exact ac8 kN (by trivial)
   ·refine ac6 (adb (m_ (aa_ rfl (m_ (aa_ rfl (ab_ (adf ew ?_ rfl rfl rfl rfl))))))) (by decide);exact ac8 kN (by trivial)
  refine ac4 (first ?_);have so:(outF K t).Sublist r:=abK.trans hK;have gone:∀{R:RV->Env->Prop} {B C:Env->Prop},
    Ws (sA 4 (eV 6)) [.sh (.int n),.sh (bf r),.sh (.int k),.sh (.fn aH),.sh (bf K),.sh (b7 t),.ow (bf (outF K t))]
     (fun ρ=>∃(K:List Tie) (c4 c5 c6:Cell),ρ=[.sh (.int n),.sh (bf r),.sh (.int k),.sh (.fn aH),c4,c5,c6]/\K.Sublist r/\((p++[t]=[]/\c4=.ow (bf K))\/(p++[t]≠[]/\c4=.sh (bf K)))) R B C:=by
   intro R B C;refine ac6 (ac9 rfl (aen ?_ rfl (by trivial))) (by decide);exact⟨outF K t,_,_,_,rfl,so,.inr ⟨by simp,rfl⟩⟩
  refine adm (ad2 (adh (ac3 (ac3 (aa_ rfl (ac5 (ac7 ?_ rfl rfl rfl)))))));refine ac3 (aa_ rfl (ac5 (ac7 ?_ rfl rfl rfl)));refine adD (ac_ ?_) rfl rfl;refine adq (fun X3=>?_) fun X3=>?_
  ·refine adB rfl ?_;exact gone
  ·obtain⟨d,eh,c,rfl⟩:=hF (outF K t) (h.sub so) t.a t.b hp.1 hp.2.1 hp.2.2.1 hp.2.2.2 X3;refine adh (aeG rfl (adb (m_ (aa_ rfl (m_ (ac9 rfl (m_ (ac3 (aa_ rfl (ac5 (ac7 ?_ rfl rfl rfl)))))))))));refine m_ (ac3 (aa_ rfl (ac5 (ac7 ?_ rfl rfl rfl))));refine m_ (aa_ rfl (ab_ (adl eh ?_ rfl rfl)));refine ac_ ?_;cases c with
   |true=>exact adB rfl gone
   |false=>exact ads rfl (adt ⟨K,_,_,_,rfl,hK,.inr ⟨by simp,rfl⟩⟩)
 ·rintro ρ ⟨K,c4,c5,c6,rfl,hK,hc⟩;rcases hc with⟨z,rfl⟩ | ⟨z,rfl⟩
  ·refine adi (ac9 rfl (adz ⟨K,?_,hK⟩ rfl));unfold rm;rw[if_pos z]
  ·refine adi (aa_ rfl ⟨K,?_,hK⟩);unfold rm;rw[if_neg z]
noncomputable def got(o:Option RV):Dat:=(o.map RV.dat).getD .non
theorem Sk(k6:k<=6){aW:Nat}{fW:List Dat->Option RV}(hF:Tells n k fW fun d=>kj d=true){r K:List Tie}(h:Fit n r)(hK:Fit n K):∃ds,oF aW fW [.int n,bf r,bf K,.int k,.fn aW]=some (.new (.lst ds)):=by
 suffices q:Wr (oF aW fW [.int n,bf r,bf K,.int k,.fn aW]) fun v=>∃d,v=.new (.lst d) by obtain⟨v,h1,d,rfl⟩:=q;exact⟨d,h1⟩
 unfold oF
 (refine Dm.ade ?_ rfl rfl;and_intros)
 refine ac4 (ac6 (adH b7 r (fun t=>!decide (t∈K)) id b7 (d:=bf r) ?_ rfl rfl rfl (by decide) (by have:=h.len;unfold SZ;lia) (fun u _=>?_) fun u _ _=>?_) (by decide))
 ·refine ac8 ?_ (by trivial);rw[abd];refine adi ?_;have hl:(r.filter fun t=>!decide (t∈K)).length<=SZ:=aaE (abz _ _) (by have:=h.len;unfold SZ;lia);refine ad4 b7 (r.filter fun t=>!decide (t∈K)) (fun t=>if t.a=t.b then got (vf [.int k]) else got (fW [.int n,bf K,.int t.a,.int t.b,.int k])) id ?_ rfl (by trivial) rfl (by decide) hl fun t ht=>?_
  ·exact⟨_,rfl⟩
  ·have hp:=h.pl t (aaO.mp ht).1;refine aeB (adh (ac3 (ac3 (aa_ rfl (ac5 (ac7 ?_ rfl rfl rfl))))));refine ac3 (aa_ rfl (ac5 (ac7 ?_ rfl rfl rfl)));refine adD (ac_ ?_) rfl rfl;refine adq (fun X3=>?_) fun X3=>?_
   ·obtain⟨d,e⟩:=HL k k6;refine adb (m_ (aa_ rfl (ab_ (adf e ?_ rfl rfl rfl rfl))));refine adE ⟨?_,rfl⟩;rw[if_pos X3,e];rfl
   ·obtain⟨d,e',hb⟩:=hF K hK t.a t.b hp.1 hp.2.1 hp.2.2.1 hp.2.2.2 X3;refine aeG rfl (adb (m_ (aa_ rfl (m_ (aa_ rfl (m_ (ac3 (aa_ rfl (ac5 (ac7 ?_ rfl rfl rfl))))))))));refine m_ (ac3 (aa_ rfl (ac5 (ac7 ?_ rfl rfl rfl))));refine m_ (aa_ rfl (ab_ (adf e' ?_ rfl hb rfl rfl)));refine ada ⟨?_,rfl⟩;rw[if_neg X3,e'];rfl
 ·exact adh (ac3 (aa_ rfl (aa_ rfl (aej (ac_ ⟨rfl,rfl⟩) rfl rfl))))
 ·exact aa_ rfl (ada ⟨rfl,rfl⟩)
theorem wN{f:List Dat->Option RV}{as:List FE}{ρ ρ1:Env}(h1:eAs as ρ=some (xs,ρ1))(h2:pks ρ1 xs=some ds)(h:f ds=none):eF f as ρ=none:=by unfold eF;rw[h1];dsimp only;rw[h2];dsimp only;rw[h]
theorem wO{e:FE}(h:e ρ=none):sE e ρ=none:=by unfold sE;rw[h]
theorem AJ(h:a ρ=none):aR a b ρ=none:=by unfold aR;rw[h]
theorem QZ{t:FT}{ρ ρ1:Env}{c:Bool}(ht:t ρ=some (c,ρ1))(h:(if c then a ρ1 else b ρ1)=none):sIf t a b ρ=none:=by unfold sIf;rw[ht];cases c<;>exact h
theorem Vc{f g:FS}(h:f ρ=none){B C:Env->Prop}(k:Ws g ρ N R B C):Ws (sUn f g) ρ N R B C:=by obtain⟨o,e,q⟩:=k;exact⟨o,by unfold sUn;rw[h];exact e,q⟩
theorem HM{Rr:Env->Option Env}{C ie:Nat}{h:FS}{ρ ρ1:Env}(e:Rr ρ=some ρ1)(h0:ie≠0){B D:Env->Prop}(k:Ws h (ρ1.set ie (.sh (.exc C))) (fun ρ'=>N (ρ'.set ie .un)) (fun r ρ'=>R r (ρ'.set ie .un)) (fun _=>False) (fun _=>False)):Ws (Co Rr C ie h) ρ N R B D:=by
 obtain⟨o,eo,q⟩:=k;cases o with
 |nx ρ'=>exact⟨.nx (ρ'.set ie .un),by unfold Co;rw[e];dsimp only;rw[if_neg h0,eo],q⟩
 |ret r ρ'=>exact⟨.ret r (ρ'.set ie .un),by unfold Co;rw[e];dsimp only;rw[if_neg h0,eo],q⟩
 |bk ρ'=>exact q.elim
 |ct ρ'=>exact q.elim
theorem kR{bad:List Dat->Bool}{fs:List FE}{ρ ρ1:Env}(h1:eAs fs ρ=some (xs,ρ1))(h2:pks ρ1 xs=some ds)(h:bad ds=true):oS bad fs ρ=some ρ1:=by unfold oS;rw[h1];dsimp only;rw[h2];dsimp only;rw[if_pos h]
theorem zB{n m:Nat}{body:FS}(h:body (ds.map Cell.sh++Dp m .un)=none):fn n m body ds=none:=by
 unfold fn;split
 ·rw[h]
 ·rfl
theorem zC{n m:Nat}{R:Env->Option Env}(hl:ds.length=n)(h:R (ds.map Cell.sh++Dp m .un)=some ρ):fnX n m R ds=true:=by unfold fnX;rw[h,decide_eq_true hl];rfl
theorem tells_often(k6:k<=6):Tells n k QD fun d=>∃c,d=.bl c:=fun R h a b a0 a1 b0 b1 X3=>by
 obtain⟨ws,o,e,A⟩:=lY n (by have:=h.n10;lia) R h.pl h.nd (by have:=h.len;lia) a b a0 a1 b0 b1 k (by lia) (by lia);refine⟨.bl (isN (n8 o)),?_,_,rfl⟩;apply adk;unfold QD
 (refine Dm.ade ?_ rfl rfl;and_intros)
 refine adi (ac3 (ac3 (adb (m_ (aa_ rfl (m_ (aa_ rfl (m_ (aa_ rfl (m_ (aa_ rfl (m_ (aa_ rfl (ab_ (adf e ?_ rfl rfl rfl rfl)))))))))))))));refine ac5 (ac7 ?_ rfl rfl rfl);exact ac5 (aed rfl rfl rfl)
theorem tells_ways(k6:k<=6):Tells n k Jj fun d=>kj d=true:=fun R h a b a0 a1 b0 b1 X3=>by
 obtain⟨ws,o,e,A⟩:=lY n (by have:=h.n10;lia) R h.pl h.nd (by have:=h.len;lia) a b a0 a1 b0 b1 k (by lia) (by lia);refine⟨.lst (ws.map wM),?_,rfl⟩;apply adk;unfold Jj
 (refine Dm.ade ?_ rfl rfl;and_intros)
 refine adi (ac3 (adb (m_ (aa_ rfl (m_ (aa_ rfl (m_ (aa_ rfl (m_ (aa_ rfl (m_ (aa_ rfl (ab_ (adf e ?_ rfl rfl rfl rfl))))))))))))));exact ac5 (ac7 rfl rfl rfl rfl)
theorem tells_often2(k6:k<=6):Tells n k Jm fun d=>∃c,d=.bl c:=fun R h a b a0 a1 b0 b1 X3=>by
 obtain⟨ws,o,_,e,A⟩:=rj n h.n10 R h.pl h.len a b a0 a1 b0 b1 X3 k (by lia) (by lia);refine⟨.bl (isN (CD o)),?_,_,rfl⟩;apply adk;unfold Jm
 (refine Dm.ade ?_ rfl rfl;and_intros)
 refine adi (ac3 (ac3 (adb (m_ (aa_ rfl (m_ (aa_ rfl (m_ (aa_ rfl (m_ (aa_ rfl (m_ (aa_ rfl (ab_ (adf e ?_ rfl rfl rfl rfl)))))))))))))));refine ac5 (ac7 ?_ rfl rfl rfl);exact ac5 (aed rfl rfl rfl)
theorem tells_ways2(k6:k<=6):Tells n k Jo fun d=>kj d=true:=fun R h a b a0 a1 b0 b1 X3=>by
 obtain⟨ws,o,_,e,A⟩:=rj n h.n10 R h.pl h.len a b a0 a1 b0 b1 X3 k (by lia) (by lia);refine⟨.lst (((o_ R a b).take (k:Int).toNat).map NF++ws.map (vm n (AH R a b))),?_,rfl⟩;apply adk;unfold Jo
 (refine Dm.ade ?_ rfl rfl;and_intros)
 refine adi (ac3 (adb (m_ (aa_ rfl (m_ (aa_ rfl (m_ (aa_ rfl (m_ (aa_ rfl (m_ (aa_ rfl (ab_ (adf e ?_ rfl rfl rfl rfl))))))))))))));exact ac5 (ac7 rfl rfl rfl rfl)
theorem NI(k6:k<=6)(h:Fit n r)(ht:t∈r):∃o,Aq [.int n,bf r,b7 t,.int k]=some (.val (n8 o)):=by
 have hp:=h.pl t ht;have h':=h.out t;obtain⟨ws,o,e,A⟩:=lY n (by have:=h.n10;lia) _ h'.pl h'.nd (by have:=h'.len;lia) t.a t.b hp.1 hp.2.1 hp.2.2.1 hp.2.2.2 k (by lia) (by lia);refine⟨o,?_⟩;apply adk;unfold Aq
 (refine Dm.ade ?_ rfl rfl;and_intros)
 refine adi (ac3 (adb (m_ (aa_ rfl (m_ (adb (m_ (aa_ rfl (m_ (aa_ rfl (ab_ (adf (AI r (by have:=h.len;lia) t) ?_ rfl rfl rfl rfl))))))))))));refine m_ (ac3 (aa_ rfl (ac5 (ac7 ?_ rfl rfl rfl))));refine m_ (ac3 (aa_ rfl (ac5 (ac7 ?_ rfl rfl rfl))));refine m_ (aa_ rfl (ab_ (adf e ?_ rfl rfl rfl rfl)));exact ac5 (ac7 rfl rfl rfl rfl)
end
section
variable(x0 x1 x2 x3 x4 x5 x6 x7 x8 x9 x10 aH aP aW aT:Nat)
section
variable{r:List Tie}{n k:Nat}
theorem KU(k1:1<=k)(k6:k<=6)(h:Fit n r):∃ds,dO x0 x1 x2 x3 x4 x5 x6 x7 x8 x9 x10 aH aP aW aT [.int n,bf r,.int k]=some (.val (.tup ds)):=by
 suffices q:Wr (dO x0 x1 x2 x3 x4 x5 x6 x7 x8 x9 x10 aH aP aW aT [.int n,bf r,.int k]) fun v=>∃d,v=.val (.tup d) by obtain⟨v,h1,d,rfl⟩:=q;exact⟨d,h1⟩
 obtain⟨K,eK,sub⟩:=NH (aH:=aP) (tells_often2 k6) h;have fK:=h.sub sub;obtain⟨ds,ew⟩:=Sk (aW:=aW) k6 (tells_ways2 k6) h fK;have eK:lg x0 x1 x2 x3 x4 x5 x6 x7 x8 x9 x10 aH aP aW aT [.int n,bf r,.int k,.fn aP]=some (rm r K):=eK;have ew:lX x0 x1 x2 x3 x4 x5 x6 x7 x8 x9 x10 aH aP aW aT [.int n,bf r,bf K,.int k,.fn aW]=some (.new (.lst ds)):=ew;have hl:K.length<=SZ:=by have:=fK.len;unfold SZ;lia
 unfold dO
 (refine Dm.ade ?_ rfl rfl;and_intros)
 refine ac4 (adG (adb (m_ (aa_ rfl (ab_ (adl (lq k (by lia) (by lia)) ?_ rfl rfl))))));by_cases hr:r=[]
 ·unfold rm at eK;rw[if_pos hr]at eK;refine ac4 (ac6 (adb (m_ (aa_ rfl (m_ (aa_ rfl (m_ (aa_ rfl (m_ (ac5 (ab_ (adf eK ?_ rfl rfl rfl rfl))))))))))) (by decide));refine ac8 ?_ (by trivial);refine adi (adC (m_ (ad4 b7 K (·.m) Dat.int ?_ rfl (by trivial) rfl (by decide) hl fun t ht=>?_)))
  ·refine m_ (adb (m_ (aa_ rfl (m_ (aa_ rfl (m_ (ac9 rfl (m_ (aa_ rfl (m_ (ac5 (ab_ (adf ew ?_ rfl rfl rfl rfl)))))))))))));exact ab_ (adg ⟨_,rfl⟩ rfl rfl (by exact aaa rfl))
  ·exact ac3 (aa_ rfl (ac5 (ac7 (ada ⟨rfl,rfl⟩) rfl rfl rfl)))
 ·unfold rm at eK;rw[if_neg hr]at eK;refine ac4 (ac6 (adb (m_ (aa_ rfl (m_ (aa_ rfl (m_ (aa_ rfl (m_ (ac5 (ab_ (adf eK ?_ rfl rfl rfl rfl))))))))))) (by decide));refine adj ?_ (by trivial);refine adi (adC (m_ (ad0 b7 K (·.m) Dat.int (d:=bf K) ?_ rfl rfl rfl (by decide) hl fun t ht=>?_)))
  ·refine m_ (adb (m_ (aa_ rfl (m_ (aa_ rfl (m_ (aa_ rfl (m_ (aa_ rfl (m_ (ac5 (ab_ (adf ew ?_ rfl rfl rfl rfl)))))))))))));exact ab_ (adg ⟨_,rfl⟩ rfl rfl (by exact aaa rfl))
  ·exact ac3 (aa_ rfl (ac5 (ac7 (ada ⟨rfl,rfl⟩) rfl rfl rfl)))
theorem KW(k1:1<=k)(k6:k<=6)(h:Fit n r):∃ds,qF x0 x1 x2 x3 x4 x5 x6 x7 x8 x9 x10 aH aP aW aT [.int n,bf r,.int k]=some (.val (.tup ds)):=by
 suffices q:Wr (qF x0 x1 x2 x3 x4 x5 x6 x7 x8 x9 x10 aH aP aW aT [.int n,bf r,.int k]) fun v=>∃d,v=.val (.tup d) by obtain⟨v,h1,d,rfl⟩:=q;exact⟨d,h1⟩
 obtain⟨K,eK,sub⟩:=NH (aH:=aH) (tells_often k6) h;have fK:=h.sub sub;obtain⟨ds,ew⟩:=Sk (aW:=aT) k6 (tells_ways k6) h fK;have eK:o6 x0 x1 x2 x3 x4 x5 x6 x7 x8 x9 x10 aH aP aW aT [.int n,bf r,.int k,.fn aH]=some (rm r K):=eK;have ew:rS x0 x1 x2 x3 x4 x5 x6 x7 x8 x9 x10 aH aP aW aT [.int n,bf r,bf K,.int k,.fn aT]=some (.new (.lst ds)):=ew;have hl:K.length<=SZ:=by have:=fK.len;unfold SZ;lia
 unfold qF
 (refine Dm.ade ?_ rfl rfl;and_intros)
 refine ac4 (adG (adb (m_ (aa_ rfl (ab_ (adl (lq k (by lia) (by lia)) ?_ rfl rfl))))));by_cases hr:r=[]
 ·have hK0:K=[]:=by
   have:=sub.length_le;rw[hr]at this;exact List.eq_nil_of_length_eq_zero (by simpa using this)
  unfold rm at eK;rw[if_pos hr]at eK;refine ac4 (ac6 (adb (m_ (aa_ rfl (m_ (aa_ rfl (m_ (aa_ rfl (m_ (ac5 (ab_ (adf eK ?_ rfl rfl rfl rfl))))))))))) (by decide));refine ac8 ?_ (by trivial);refine ac4 (ac6 (ad4 b7 K (fun t=>got (Aq [.int n,bf K,b7 t,.int k])) id ?_ rfl (by trivial) rfl (by decide) hl fun t ht=>?_) (by decide))
  ·refine ac8 ?_ (by trivial);refine adi (adC (m_ (ad4 b7 K (·.m) Dat.int ?_ rfl (by trivial) rfl (by decide) hl fun t ht=>?_)))
   ·refine m_ (adb (m_ (aa_ rfl (m_ (aa_ rfl (m_ (ac9 rfl (m_ (aa_ rfl (m_ (ac5 (ab_ (adf ew ?_ rfl rfl rfl rfl)))))))))))));exact m_ (ac9 rfl (ab_ (adg ⟨_,rfl⟩ rfl rfl (by exact aaa rfl))))
   ·exact ac3 (aa_ rfl (ac5 (ac7 (ada ⟨rfl,rfl⟩) rfl rfl rfl)))
  ·rw[hK0]at ht;cases ht
 ·unfold rm at eK;rw[if_neg hr]at eK;refine ac4 (ac6 (adb (m_ (aa_ rfl (m_ (aa_ rfl (m_ (aa_ rfl (m_ (ac5 (ab_ (adf eK ?_ rfl rfl rfl rfl))))))))))) (by decide));refine adj ?_ (by trivial);refine ac4 (ac6 (ad0 b7 K (fun t=>got (Aq [.int n,bf K,b7 t,.int k])) id (d:=bf K) ?_ rfl rfl rfl (by decide) hl fun t ht=>?_) (by decide))
  ·refine ac8 ?_ (by trivial);refine adi (adC (m_ (ad0 b7 K (·.m) Dat.int (d:=bf K) ?_ rfl rfl rfl (by decide) hl fun t ht=>?_)))
   ·refine m_ (adb (m_ (aa_ rfl (m_ (aa_ rfl (m_ (aa_ rfl (m_ (aa_ rfl (m_ (ac5 (ab_ (adf ew ?_ rfl rfl rfl rfl)))))))))))));exact m_ (ac9 rfl (ab_ (adg ⟨_,rfl⟩ rfl rfl (by exact aaa rfl))))
   ·exact ac3 (aa_ rfl (ac5 (ac7 (ada ⟨rfl,rfl⟩) rfl rfl rfl)))
  ·obtain⟨o,e⟩:=NI k6 fK ht;have go:∀{Q:Val->Env->Prop} {ρ:Env},Q (.val (n8 o)) ρ->∀xs,pks ρ xs=some [.int n,bf K,b7 t,.int k]->tks ρ xs=some ([.int n,bf K,b7 t,.int k],ρ)->WF Aq ρ xs Q:=fun {Q ρ} q xs h1 h2=>by
    cases hb:kj (n8 o) with
    |true=>exact adf e q h1 hb h2 rfl
    |false=>exact adl e q h1 hb
   refine adb (m_ (aa_ rfl (m_ (aa_ rfl (m_ (aa_ rfl (m_ (aa_ rfl (ab_ (go ?_ _ rfl rfl))))))))));refine ada ⟨?_,rfl⟩;rw[e];rfl
end
end
section
variable{a b:Env->Option Env}{d:Dat}{ρ ρ1 ρ2:Env}{t:FT}
theorem NJ:Jg [.lst []]=some (.val (.bl true)):=rfl
noncomputable def AK:Dat:=.tup [.lst [],.lst [],.lst []]
theorem KY{n k:Nat}(k1:1<=k)(k6:k<=6){r:List Tie}(h:Fit n r):∃c,Cv [.int n,bf r,.int k,AK]=some (.val (.bl c)):=by
 suffices q:Wr (Cv [.int n,bf r,.int k,AK]) fun v=>∃c,v=.val (.bl c) by obtain⟨v,h1,c,rfl⟩:=q;exact⟨c,h1⟩
 have rl:=h.len;have hz:SZ=100000:=rfl;unfold Cv AK
 (refine Dm.ade ?_ rfl rfl;and_intros)
 refine ac4 (adG (adb (m_ (aa_ rfl (ab_ (adl (lq k (by lia) (by lia)) ?_ rfl rfl))))));refine ac4 (ac6 (adH b7 r (fun _=>false) id b7 (d:=bf r) ?_ rfl rfl rfl (by decide) (by lia) (fun u _=>?_) fun u _ _=>aa_ rfl (ada ⟨rfl,rfl⟩)) (by decide))
 rotate_left
 ·refine adh (ac3 (ac3 (aa_ rfl (ac5 (ac7 (v:=.int u.m) ?_ rfl rfl rfl)))));refine ac3 (aa_ rfl (ac5 (ac7 (v:=.lst []) ?_ rfl rfl rfl)));exact aeO (i:=u.m) (xs:=[]) (ac_ ⟨rfl,rfl⟩) rfl rfl
 have e0:(r.filter fun _=>false)=[]:=by refine List.filter_eq_nil_iff.mpr fun _ _=>?_;exact aaz
 rw[e0];refine ac8 ?_ (by trivial);refine ac4 (adm (ad2 (adN (adh (adb (m_ (ac3 (aa_ rfl (ac5 (ac7 (v:=.lst []) (ab_ (adl NJ (ac_ (adF ?_)) rfl rfl)) rfl rfl rfl))))))))));refine adh (ac3 (adp (m_ (ac9 rfl (ab_ (adT (xs:=[]) ?_ rfl))))));refine adp (m_ (ac3 (aa_ rfl (ac5 (ac7 (v:=.lst []) (ab_ (adT (xs:=[]) ?_ rfl)) rfl rfl rfl)))));refine adS (i:=0) (j:=0) (ac_ (ads rfl (adt ?_))) rfl rfl;refine ac4 (ac6 (adH b7 r (fun t=>!decide (t∈([]:List Tie))) id b7 (d:=bf r) ?_ rfl rfl rfl (by decide) (by lia) (fun u _=>?_) fun u _ _=>aa_ rfl (ada ⟨rfl,rfl⟩)) (by decide))
 rotate_left
 ·exact adh (ac3 (aa_ rfl (ac9 rfl (aej (t:=u) (K:=[]) (ac_ ⟨rfl,rfl⟩) rfl rfl))))
 have e1:(r.filter fun t=>!decide (t∈([]:List Tie)))=r:=abJ.mpr fun t _=>by rw[decide_eq_false abn];rfl
 rw[abd,e1];refine ac8 ?_ (by trivial);refine ac4 (adm (ad2 (adh (ac3 (adp (m_ (ac3 (aa_ rfl (ac5 (ac7 (v:=.lst []) (ab_ (adT (xs:=[]) ?_ rfl)) rfl rfl rfl))))))))));refine adp (m_ (ac9 rfl (ab_ (aes (Hq:=b7) (xs:=r) ?_ rfl))));refine adS (ac_ ?_) rfl rfl;cases r with
 |cons t r=>exact adB (by rw[decide_eq_false (by rw[aaR];simp;lia)];rfl) (adQ (adi (ac5 ⟨_,rfl⟩)))
 |nil=>refine ads rfl ?_;refine adh (ac3 (adp (m_ (ac3 (aa_ rfl (ac5 (ac7 (v:=.lst []) (ab_ (adT (xs:=[]) ?_ rfl)) rfl rfl rfl)))))));refine adp (m_ (ac9 rfl (ab_ (adT (xs:=[]) ?_ rfl))));refine adS (i:=0) (j:=0) (ac_ (ads rfl (adt ?_))) rfl rfl;exact⟨.ret (.val (.bl true)) _,rfl,_,rfl⟩
theorem qI(i lo hi:Int)(h:¬(lo<=i/\i<=hi)):qY [.int i,.int lo,.int hi]=some (.val (.bl false)):=by
 apply adk;unfold qY
 (refine Dm.ade ?_ rfl rfl;and_intros)
 refine adi (adM (adb (m_ (aa_ rfl (ab_ (adl (Fq i) (ac_ (adQ ?_)) rfl rfl))))));have e1:gLe (.int lo) (.int i)=some (.val (.bl (decide (lo<=i)))):=rfl;have e2:gLe (.int i) (.int hi)=some (.val (.bl (decide (i<=hi)))):=rfl;have e:rE gLe gLe (eV 1) (eV 0) (eV 2) [.sh (.int i),.sh (.int lo),.sh (.int hi)]=some (.val (.bl false),[.sh (.int i),.sh (.int lo),.sh (.int hi)]):=by
  unfold rE;simp only[eV,ab7,abu,pk,e1,e2,RV.cR];by_cases q:lo<=i
  ·rw[decide_eq_true q,decide_eq_false fun z=>h ⟨q,z⟩]
  ·rw[decide_eq_false q]
 exact⟨_,_,e,rfl⟩
theorem ZU{f g:FS}{ρ:Env}{N:Env->Prop}{R:RV->Env->Prop}{B C:Env->Prop}(k:Ws f ρ N R B C):Ws (sUn f g) ρ N R B C:=by obtain⟨o,e,q⟩:=k;exact⟨o,by unfold sUn;rw[e],q⟩
theorem Fv:∀{cs:List Nat} {bs:List Bool} {i:Nat} {C:Nat},cs.Nodup->cs.length=bs.length->cs[i]?=some C->BR cs bs C=some (bs.getD i false)
 |[],_,i,C,_,_,h=>by simp at h
 |c::cs,[],i,C,_,hl,_=>by simp at hl
 |c::cs,b::bs,0,C,_,_,h=>by cases h;unfold BR;rw[if_pos rfl];rfl
 |c::cs,b::bs,i+1,C,hn,hl,h=>by
  have hm:C∈cs:=abe h;have ne:C≠c:=fun z=>by subst z;exact(aal.mp hn).1 hm
  unfold BR;rw[if_neg ne,Fv (aal.mp hn).2 (by simpa using hl) h];rfl
def Isx(cs:List Nat)(e:Dat)(i:Nat):Prop:=∀bs:List Bool,cs.length=bs.length->gw cs bs e=some (.val (.bl (bs.getD i false)))
theorem Yd{cs:List Nat}{i C:Nat}(hn:cs.Nodup)(h:cs[i]?=some C):Isx cs (.exc C) i:=fun bs hl=>by unfold gw;dsimp only;rw[Fv hn hl h];rfl
theorem ZV{ρ:Env}:iR1 (eC (.int 11)) ρ=some ((aas 11).map fun i:Nat=>Dat.int (i:Int),ρ):=rfl
theorem mY(h:qY [d,.int 1,.int 6]=some (.val (.bl false))):mX [d]=some (.val (.bl false)):=by
 apply adk;unfold mX
 (refine Dm.ade ?_ rfl rfl;and_intros)
 exact adi (adb (m_ (aa_ rfl (m_ (ac5 (m_ (ac5 (ab_ (adl h (ady rfl) rfl rfl)))))))))
theorem HN(h:EZ [d]=some (.val (.bl false))):qY [d,.int 1,.int 6]=some (.val (.bl false)):=by
 apply adk;unfold qY
 (refine Dm.ade ?_ rfl rfl;and_intros)
 exact adi (adM (adb (m_ (aa_ rfl (ab_ (adl h (ac_ (adF (ady rfl))) rfl rfl))))))
theorem Sm(h:mX [d]=some (.val (.bl false))):(qK (tV (eF mX [(eV 0)]))) [.sh d]=some (true,[.sh d]):=
 ad8 (adN (adh (adb (m_ (aa_ rfl (ab_ (adl h (ac_ ⟨rfl,rfl⟩) rfl rfl)))))))
theorem lZ(h:mX [d]=some (.val (.bl false))):Ao [d]=none:=zB (QZ (Sm h) rfl)
theorem rX(h:mX [d]=some (.val (.bl false))):bL [d]=true:=zC (ρ:=[.sh d]) rfl (by show rIf _ _ _ [.sh d]=_;unfold rIf;rw[Sm h];rfl)
theorem Sn(ht:t ρ=some (true,ρ1))(h:a ρ1=some ρ2):rIf t a b ρ=some ρ2:=by unfold rIf;rw[ht];exact h
theorem NK(ht:t ρ=some (false,ρ1))(h:b ρ1=some ρ2):rIf t a b ρ=some ρ2:=by unfold rIf;rw[ht];exact h
end
section
variable(x0 x1 x2 x3 x4 x5 x6 x7 x8 x9 x10 aH aP aW aT:Nat)
noncomputable abbrev Ye(x0 x1 x2 x3 x4 x5 x6 x7 x8 x9 x10:Nat):List Nat:=[x0,x1,x2,x3,x4,x5,x6,x7,x8,x9,x10]
theorem NL{e:Dat}(h:Isx (Ye x0 x1 x2 x3 x4 x5 x6 x7 x8 x9 x10) e 2):lG x0 x1 x2 x3 x4 x5 x6 x7 x8 x9 x10 aH aP aW aT [e,.int 2]=some (.val (.bl true)):=by
 apply adk;unfold lG
 (refine Dm.ade ?_ rfl rfl;and_intros)
 refine ac4 (ac6 (adu (m_ (adw (aa_ rfl (ado ?_ rfl (h _ rfl)))))) (by decide));refine m_ (adw (aa_ rfl (ado ?_ rfl (h _ rfl))));refine m_ (adw (aa_ rfl (ado ?_ rfl (h _ rfl))));refine ab_ (adg ?_ rfl rfl (by exact aaa rfl));refine ac8 ?_ (by trivial);refine ac4 (ac6 (ac3 (ac9 rfl (adu (m_ (adw (aa_ rfl (ado ?_ rfl (h _ rfl)))))))) (by decide));refine m_ (adw (aa_ rfl (ado ?_ rfl (h _ rfl))));refine m_ (adw (aa_ rfl (ado ?_ rfl (h _ rfl))));refine ab_ (adg ?_ rfl rfl (by exact aaa rfl));refine adL ?_ rfl rfl (by exact aaa rfl);refine ac8 ?_ (by trivial);refine ac4 (ac6 (ac3 (ac9 rfl (adu (m_ (adw (aa_ rfl (ado ?_ rfl (h _ rfl)))))))) (by decide));refine m_ (adw (aa_ rfl (ado ?_ rfl (h _ rfl))));refine m_ (adw (aa_ rfl (ado ?_ rfl (h _ rfl))));refine ab_ (adg ?_ rfl rfl (by exact aaa rfl));refine adL ?_ rfl rfl (by exact aaa rfl);refine ac8 ?_ (by trivial);refine ac4 (ac6 (ac3 (ac9 rfl (adu (m_ (adw (aa_ rfl (ado ?_ rfl (h _ rfl)))))))) (by decide));refine m_ (adw (aa_ rfl (ado ?_ rfl (h _ rfl))));refine ab_ (adg ?_ rfl rfl (by exact aaa rfl));refine adL ?_ rfl rfl (by exact aaa rfl);refine ac8 ?_ (by trivial);refine adi (adM (ac3 (ac9 rfl ?_)));refine adR (fun j:Nat=>Dat.int (j:Int)) (aas 11) (fun j:Nat=>decide ((j:Int)=((2:Nat):Int))) Dat.bl ?_ ZV rfl (by decide) (by exact aaa rfl) fun j _=>ac3 (aa_ rfl (aa_ rfl (adD (ada ⟨rfl,rfl⟩) rfl rfl)));refine⟨_,_,.val (.bl true),rfl,rfl,rfl,ac_ (adQ ?_)⟩;exact adw (aa_ rfl (ado (v:=.val (.bl true)) (ady rfl) rfl (h _ rfl)))
theorem KZ{n k:Nat}(k1:1<=k)(k6:k<=6){r:List Tie}(h:Fit n r)(w:Nat)(hw:w<3):d7 x0 x1 x2 x3 x4 x5 x6 x7 x8 x9 x10 aH aP aW aT [.int w,.int n,bf r,.int k]=some (.val .non):=by
 have w3:w=0\/w=1\/w=2:=by lia
 apply adk;unfold d7
 (refine Dm.ade ?_ rfl rfl;and_intros)
 refine ac4 (ac6 (ac5 (adj ?_ (by trivial))) (by decide));refine ac4 (ZU (adm (adh (ac3 (aa_ rfl (ac5 (adD (ac_ ?_) rfl rfl)))))));rcases w3 with rfl | rfl | rfl
 ·obtain⟨ds,e⟩:=KW x0 x1 x2 x3 x4 x5 x6 x7 x8 x9 x10 aH aP aW aT k1 k6 h;refine adB rfl (adG (adb (m_ (aa_ rfl (m_ (aa_ rfl (m_ (aa_ rfl (ab_ (adf e ?_ rfl rfl rfl rfl))))))))));exact adi (aa_ rfl (ady rfl))
 ·obtain⟨c,e⟩:=KY k1 k6 h;refine ads rfl (adm (adh (ac3 (aa_ rfl (ac5 (adD (ac_ (adB rfl ?_)) rfl rfl))))));refine adG (adb (m_ (aa_ rfl (m_ (aa_ rfl (m_ (aa_ rfl (m_ (adC ?_)))))))));refine m_ (adu (ab_ (adg ?_ rfl rfl (by decide))));refine m_ (adu (ab_ (adg ?_ rfl rfl (by decide))));refine m_ (adu (ab_ (adg ?_ rfl rfl (by decide))));refine ab_ (adg ?_ rfl rfl (by exact aaa rfl));refine ab_ (adl e ?_ rfl rfl);exact adi (aa_ rfl (ady rfl))
 ·obtain⟨ds,e⟩:=KU x0 x1 x2 x3 x4 x5 x6 x7 x8 x9 x10 aH aP aW aT k1 k6 h;refine ads rfl (adm (adh (ac3 (aa_ rfl (ac5 (adD (ac_ (ads rfl ?_)) rfl rfl))))));refine adG (adb (m_ (aa_ rfl (m_ (aa_ rfl (m_ (aa_ rfl (ab_ (adf e ?_ rfl rfl rfl rfl)))))))));exact adi (aa_ rfl (ady rfl))
theorem NN{n:Nat}{r:List Tie}{d:Dat}(h:mX [d]=some (.val (.bl false)))(w:Nat)(hw:w<3):d7 x0 x1 x2 x3 x4 x5 x6 x7 x8 x9 x10 aH aP aW aT [.int w,.int n,bf r,d]=some (.val (.exc x2)):=by
 have w3:w=0\/w=1\/w=2:=by lia
 have n0:qF x0 x1 x2 x3 x4 x5 x6 x7 x8 x9 x10 aH aP aW aT [.int n,bf r,d]=none:=zB (AJ (wO (wN (ds:=[d]) rfl rfl (lZ h))));have n1:Cv [.int n,bf r,d,AK]=none:=zB (AJ (wO (wN (ds:=[d]) rfl rfl (lZ h))));have n2:dO x0 x1 x2 x3 x4 x5 x6 x7 x8 x9 x10 aH aP aW aT [.int n,bf r,d]=none:=zB (AJ (wO (wN (ds:=[d]) rfl rfl (lZ h))));have y0:iM x0 x1 x2 x3 x4 x5 x6 x7 x8 x9 x10 aH aP aW aT [.int n,bf r,d]=true:=zC rfl (kR (ds:=[d]) rfl rfl (rX h));have y1:cV [.int n,bf r,d,AK]=true:=zC rfl (kR (ds:=[d]) rfl rfl (rX h));have y2:cW x0 x1 x2 x3 x4 x5 x6 x7 x8 x9 x10 aH aP aW aT [.int n,bf r,d]=true:=zC rfl (kR (ds:=[d]) rfl rfl (rX h));apply adk;unfold d7
 (refine Dm.ade ?_ rfl rfl;and_intros)
 refine ac4 (ac6 (ac5 (adj ?_ (by trivial))) (by decide));refine ac4 ?_;rcases w3 with rfl | rfl | rfl
 ·refine Vc (wO (wN (ds:=[.int n,bf r,d]) rfl rfl n0)) ?_;refine HM (ρ1:=[.sh (.int ((0:Nat):Int)),.sh (.int n),.sh (bf r),.sh d,.sh .non,.un]) ?_ (by decide) (ac6 (aa_ rfl (adj ?_ (by trivial))) (by decide))
  ·refine Sn rfl ?_;exact kR (ds:=[.int n,bf r,d]) rfl rfl y0
  ·exact adi (aa_ rfl (ady rfl))
 ·refine Vc (wO (wN (ds:=[.int n,bf r,d,AK]) rfl rfl n1)) ?_;refine HM (ρ1:=[.sh (.int ((1:Nat):Int)),.sh (.int n),.sh (bf r),.sh d,.sh .non,.un]) ?_ (by decide) (ac6 (aa_ rfl (adj ?_ (by trivial))) (by decide))
  ·refine NK rfl (Sn rfl ?_);exact kR (ds:=[.int n,bf r,d,AK]) rfl rfl y1
  ·exact adi (aa_ rfl (ady rfl))
 ·refine Vc (wO (wN (ds:=[.int n,bf r,d]) rfl rfl n2)) ?_;refine HM (ρ1:=[.sh (.int ((2:Nat):Int)),.sh (.int n),.sh (bf r),.sh d,.sh .non,.un]) ?_ (by decide) (ac6 (aa_ rfl (adj ?_ (by trivial))) (by decide))
  ·refine NK rfl (NK rfl ?_);exact kR (ds:=[.int n,bf r,d]) rfl rfl y2
  ·exact adi (aa_ rfl (ady rfl))
end
theorem aeg{e:FE}{ρ ρ':Env}{x:Val}(h:We e ρ fun v r=>v=x/\r=ρ'):e ρ=some (x,ρ'):=by obtain⟨v,r,h,rfl,rfl⟩:=h;exact h
theorem Vd(xs:List Dat)(i:Int)(h0:0<=i)(h1:i<xs.length):∃x∈xs,gIx (.lst xs) (.int i)=some (.val x):=by
 have hl:i.toNat<xs.length:=by lia
 refine⟨xs[i.toNat],acI hl,?_⟩;show ((ixN xs.length i).bind fun j=>xs[j]?).map RV.val=_;unfold ixN;rw[if_pos h0,if_pos h1,Option.bind_some,aaI hl];rfl
theorem CK:∀r:List Tie,yC (r.map b7) (r.map b7)=true
 |[]=>rfl
 |t::r=>by rw[gc,yC,CK r];simp[b7,eqD,yC]
theorem Q0(r:List Tie):gNe (bf r) (bf r)=vB false:=by have o:okD 8 (bf r)=true:=XX b7 r fun _=>rfl;unfold gNe;rw[o];show vB (!yC _ _)=_;rw[CK];rfl
theorem aey{r:List Tie}{o p:Option Dat}{K:RV->Prop}(k:K (.val (.bl false)))(ho:o=some (bf r))(hp:p=some (bf r)):Wg2 gNe o p K:=⟨_,_,_,ho,hp,Q0 r,k⟩
theorem Q2{u v g:Int}(u0:0<=u)(v0:0<=v):∀d∈([.int 0,.int 7,.int (-1-u),.int (7+v),.bl true,.bl false,.non,.str [49],.str [],.lst [.int g],.tup [.int g],.tup [.int g,.int 1],.lst [],.dct [] []]:List Dat),mX [d]=some (.val (.bl false)):=fun d hd=>by
 simp only[aah,abn,or_false]at hd;rcases hd with rfl | rfl | rfl | rfl | rfl | rfl | rfl | rfl | rfl | rfl | rfl | rfl | rfl | rfl
 ·exact mY (qI _ _ _ (by lia))
 ·exact mY (qI _ _ _ (by lia))
 ·exact mY (qI _ _ _ (by lia))
 ·exact mY (qI _ _ _ (by lia))
 all_goals exact mY (HN rfl)
section
variable(x0 x1 x2 x3 x4 x5 x6 x7 x8 x9 x10 aH aP aW aT:Nat)(hn:(Ye x0 x1 x2 x3 x4 x5 x6 x7 x8 x9 x10).Nodup)
include hn
theorem NP(ns:List Int){n:Nat}(n1:1<=n)(n6:n<=6){i:Int}(i0:0<=i)(i1:i<1000)(c1 c4 c5 c6 c7 c8 c9:Cell){N:Env->Prop}{R:RV->Env->Prop}{B C:Env->Prop}(k:∀c1 c4 c5 c6 c7 c8 c9:Cell,N [.sh (.lst (ns.map Dat.int)),c1,.sh (.int n),.sh (.int i),c4,c5,c6,c7,c8,c9]) :
  Ws (Hv x0 x1 x2 x3 x4 x5 x6 x7 x8 x9 x10 aH aP aW aT ) [.sh (.lst (ns.map Dat.int)),c1,.sh (.int n),.sh (.int i),c4,c5,c6,c7,c8,c9] N R B C:=by
 have hz:SZ=100000:=rfl;obtain⟨y0,ep⟩:=Jy ns i i0 i1;unfold Hv;refine ac4 (ac6 (adb (m_ (aa_ rfl (m_ (aa_ rfl (ab_ (adf ep (ac8 ?_ (by trivial)) rfl rfl rfl rfl))))))) (by decide));obtain⟨r,y1,er,rg,rl⟩:=KS y0 n 6 (by lia) (by lia) (by decide) (by decide);have hf:Fit n r:=⟨by lia,rg.pl,rg.nd,by lia⟩
 refine ac4 (ac6 (aee (m_ (aa_ rfl (m_ (ac5 (ab_ (ad3 er (ac8 ?_ (by trivial)) rfl rfl rfl)))))) rfl) (by decide));refine ac4 (ac6 (ac3 (ac5 (adA (m:=6) rfl (by decide) (by decide) rfl fun t y2 t0 t1 ρ3 e=>?_))) (by decide));subst e;refine adn (adj ?_ (by trivial)) rfl rfl;obtain⟨g,hg⟩:∃g:Nat,(1:Int)+t=(g:Nat):=⟨(1+t).toNat,by lia⟩
 rw[hg];refine ac4 (ac6 (adu (m_ (ac5 (m_ (ac5 (m_ (ac3 (adw (ac5 (ado (v:=.val (.int (-1))) ?_ rfl rfl)))))))))) (by decide));refine adA (m:=10 ^ 9) (aeg (ac3 (ac5 (ac5 (adY (z:=10 ^ 9) ⟨rfl,rfl⟩ rfl rfl (by decide) (by decide)))))) (by decide) (by decide) rfl fun u y3 u0 u1 ρ3 e=>?_;subst e;refine adK ?_ rfl rfl;refine m_ (ac3 (ac5 (adA (m:=10 ^ 59) (aeg (ac3 (ac5 (ac5 (adY (z:=10 ^ 59) ⟨rfl,rfl⟩ rfl rfl (by decide) (by decide)))))) (by decide) (by decide) rfl fun v y4 v0 v1 ρ3 e=>?_)));subst e;refine adn ?_ rfl rfl;refine m_ (ac5 (m_ (ac5 (m_ (ac5 (m_ (ac5 (m_ (ac5 (ab_ (adg ?_ rfl rfl (by exact aaa rfl))))))))))));refine ac8 ?_ (by trivial);refine ac4 (ac6 (ac3 (ac9 rfl (adu (m_ (adu (m_ (aa_ rfl (ab_ (adg ?_ rfl rfl (by exact aaa rfl))))))))))  (by decide));refine m_ (adC (m_ (aa_ rfl (ab_ (adg ?_ rfl rfl (by exact aaa rfl))))));refine m_ (adC (m_ (aa_ rfl (m_ (ac5 (ab_ (adg ?_ rfl rfl (by exact aaa rfl))))))));refine m_ (adu (ab_ (adg ?_ rfl rfl (by decide))));refine m_ (aew (ab_ (adg ?_ rfl rfl (by exact aaa rfl))));refine adL ?_ rfl rfl (by exact aaa rfl);refine ac8 ?_ (by trivial);have hodd:=Q2 (u:=u) (v:=v) (g:=g) u0 v0
 generalize hL:([.int 0,.int 7,.int (-1-u),.int (7+v),.bl true,.bl false,.non,.str [49],.str [],.lst [.int g],.tup [.int g],.tup [.int g,.int 1],.lst [],.dct [] []]:List Dat)=L at hodd
 have hLl:L.length=14:=by rw[<- hL];rfl
 show Ws _ [.sh (.lst (ns.map Dat.int)),.ow (fG y4),.sh (.int n),.sh (.int i),.ow (bf r),.sh (.int (g:Nat)),.ow (.lst [.int 0,.int 7,.int (-1-u),.int (7+v),.bl true,.bl false,.non,.str [49],.str [],.lst [.int g],.tup [.int g],.tup [.int g,.int 1],.lst [],.dct [] []]),c7,c8,c9] _ _ _ _;rw[hL];refine ac4 (ac6 (ac3 (ac9 rfl (adA (m:=14) (aeg (adp (m_ (ac9 rfl (ab_ ⟨_,_,rfl,rfl,?_⟩))))) (by decide) (by decide) rfl fun j y5 j0 j1 ρ3 e=>?_))) (by decide))
 ·rw[hLl];exact⟨rfl,rfl⟩
 subst e;obtain⟨d,hd,ed⟩:=Vd L j j0 (by rw[hLl];exact j1);refine ac7 (v:=d) (adj ?_ (by trivial)) rfl rfl ed;have ho:=hodd d hd;refine ac4 (ac6 (adp (m_ (ac9 rfl (ab_ ⟨_,_,rfl,rfl,ac8 ?_ (by trivial)⟩)))) (by decide));refine ac4 (adv (adJ (ac5 (jx.mk ⟨?_,by decide,by decide⟩))));refine adx (fun i:Nat=>Dat.int (0+(i:Nat))) _ _ (aas 3) _ _ _ _ _ (fun p q ρ=>∃c8 c9:Cell,ρ=[.sh (.lst (ns.map Dat.int)),.ow (fG y5),.sh (.int n),.sh (.int i),.ow (bf r),.sh (.int (g:Nat)),.ow (.lst L),.sh d,c8,c9]/\(c8=.ow (bf r)\/c8=.sh (bf r))) ⟨_,_,rfl,.inl rfl⟩ ?_ ?_
 ·rintro p w q ρ e ⟨c8,c9,rfl,h8⟩;have hw:w<3:=aaV.mp (by rw[e];simp);refine Dm.fF rfl (by trivial) ?_;rw[show (0:Int)+((w:Nat):Int)=(w:Nat) by lia];unfold Nr;have t1:=NN x0 x1 x2 x3 x4 x5 x6 x7 x8 x9 x10 aH aP aW aT (n:=n) (r:=r) ho w hw;have t2:=KZ x0 x1 x2 x3 x4 x5 x6 x7 x8 x9 x10 aH aP aW aT (k:=g) (by lia) (by lia) hf w hw;have al:=NL x0 x1 x2 x3 x4 x5 x6 x7 x8 x9 x10 aH aP aW aT (Yd (i:=2) (C:=x2) hn rfl);have Tr:Wt (tV (e2 Ck (eF (d7 x0 x1 x2 x3 x4 x5 x6 x7 x8 x9 x10 aH aP aW aT ) [(eV 9),(eV 2),(eV 8),(eV 5)]) (eC .non))) [.sh (.lst (ns.map Dat.int)),.ow (fG y5),.sh (.int n),.sh (.int i),.ow (bf r),.sh (.int (g:Nat)),.ow (.lst L),.sh d,.sh (bf r),.sh (.int (w:Nat))] fun c ρ=>c=false/\ρ=[.sh (.lst (ns.map Dat.int)),.ow (fG y5),.sh (.int n),.sh (.int i),.ow (bf r),.sh (.int (g:Nat)),.ow (.lst L),.sh d,.sh (bf r),.sh (.int (w:Nat))]:=by
   refine adh (ac3 (adb (m_ (aa_ rfl (m_ (aa_ rfl (m_ (aa_ rfl (m_ (aa_ rfl (ab_ (adl t2 (ac5 (aeQ ?_ rfl rfl)) rfl rfl))))))))))));exact ac_ ⟨rfl,rfl⟩
  obtain⟨c',ρ',f1,rfl,rfl⟩:=Tr;rcases h8 with rfl | rfl
  ·refine adm (ad2 (adN (adh (adb (m_ (adb (m_ (aa_ rfl (m_ (aa_ rfl (m_ (ac9 rfl (m_ (aa_ rfl (ab_ (adf t1 ?_ rfl rfl rfl rfl))))))))))))))));refine m_ (ac5 (ab_ (adl al (ac_ (adF ?_)) rfl rfl)));exact⟨_,_,f1,adF (adt ⟨_,_,rfl,.inr rfl⟩)⟩
  ·refine adm (ad2 (adN (adh (adb (m_ (adb (m_ (aa_ rfl (m_ (aa_ rfl (m_ (aa_ rfl (m_ (aa_ rfl (ab_ (adf t1 ?_ rfl rfl rfl rfl))))))))))))))));refine m_ (ac5 (ab_ (adl al (ac_ (adF ?_)) rfl rfl)));exact⟨_,_,f1,adF (adt ⟨_,_,rfl,.inr rfl⟩)⟩
 ·rintro ρ ⟨c8,c9,rfl,h8⟩;rcases h8 with rfl | rfl
  ·exact adm (adh (ac3 (ac9 rfl (ac9 rfl (aey (r:=r) (ac_ (adF (adt (k _ _ _ _ _ _ _)))) rfl rfl)))))
  ·exact adm (adh (ac3 (aa_ rfl (ac9 rfl (aey (r:=r) (ac_ (adF (adt (k _ _ _ _ _ _ _)))) rfl rfl)))))
theorem math(ns:List Int)(h:ns.length<=63):Ar x0 x1 x2 x3 x4 x5 x6 x7 x8 x9 x10 aH aP aW aT [.lst (ns.map Dat.int)]=some (.val (.bl true)):=by
 apply adk;unfold Ar
 (refine Dm.ade ?_ rfl rfl;and_intros)
 obtain⟨y0,ep⟩:=Jy ns 0 (by decide) (by decide);refine ac4 (ac6 (adb (m_ (aa_ rfl (m_ (ac5 (ab_ (adf ep (ac8 ?_ (by trivial)) rfl rfl rfl rfl))))))) (by decide));refine ac4 (ac6 (ac3 (ac5 (adA (m:=6) rfl (by decide) (by decide) rfl fun t y1 t0 t1 ρ3 e=>?_))) (by decide));subst e;refine adn (adj ?_ (by trivial)) rfl rfl;obtain⟨n,hn1⟩:∃n:Nat,(1:Int)+t=(n:Nat):=⟨(1+t).toNat,by lia⟩
 rw[hn1];refine ac4 (adv (aeH (ac5 (jx.mk (adp (m_ (ac5 (m_ (adp (m_ (ac5 (m_ (adp (m_ (aa_ rfl (ab_ (aes (Hq:=Dat.int) (xs:=ns) ?_ rfl)))))))))))))))));refine ab_ (aeb ?_ rfl);refine ab_ (ad_ ?_ rfl);have hb:∀z:Int,z=(if (ns.length:Int)<9 then (ns.length:Int) else 9)->(if z>2 then z else 2)<=9/\2<=(if z>2 then z else 2):=fun z hz=>by
  rw[hz];constructor
  ·split<;>split<;>lia
  ·split<;>lia
 have hb:=hb _ rfl
 generalize (if (if (ns.length:Int)<9 then (ns.length:Int) else 9)>2 then (if (ns.length:Int)<9 then (ns.length:Int) else 9) else 2)=top at hb ⊢
 refine jx.mk ⟨?_,by unfold BIG;lia⟩;refine adx (fun i:Nat=>Dat.int (1+(i:Nat))) _ _ (aas (top-1).toNat) _ _ _ _ _ (fun p q ρ=>∃c1 c3 c4 c5 c6 c7 c8 c9:Cell,ρ=[.sh (.lst (ns.map Dat.int)),c1,.sh (.int n),c3,c4,c5,c6,c7,c8,c9]) ⟨_,_,_,_,_,_,_,_,rfl⟩ ?_ ?_
 ·rintro p i q ρ e ⟨c1,c3,c4,c5,c6,c7,c8,c9,rfl⟩;have hi:i<(top-1).toNat:=aaV.mp (by rw[e];simp);refine Dm.fF rfl (by trivial) ?_;exact NP x0 x1 x2 x3 x4 x5 x6 x7 x8 x9 x10 aH aP aW aT hn ns (by lia) (by lia) (by lia) (by lia) _ _ _ _ _ _ _ fun c1 c4 c5 c6 c7 c8 c9=>⟨_,_,_,_,_,_,_,_,rfl⟩
 ·rintro ρ ⟨c1,c3,c4,c5,c6,c7,c8,c9,rfl⟩;exact adi (ac5 rfl)
end
end P
namespace Q
open PySem L2 Br Dm P
noncomputable def top(i:Nat):Stmt:=PySem.Challenge.pw_sinceply_k42_layers_refused.main.body.getD i (.Pass ⟨0,0,0,0⟩)
noncomputable def mZ:Stmt:=match top 21 with
 |.ClassDef _ _ _ b _ _ _ _ _ _ _=>b.getD 0 (.Pass ⟨0,0,0,0⟩)
 |_=>.Pass ⟨0,0,0,0⟩
structure Txt(mg:Str->Option Value)(K:Dk)(base:Heap)(HP HQ Fw HR Fx Fy HS bZ AL AM AO AQ AR AS AU yh AV AW AX AY AZ dc A0 bF d8 A1 lJ A2 A3 yi A4 A5 A6 A7 A8 A9 bD bE cB A_ Ba Bb Bc d9 gD Bd aB au ah aG av ak ai aI ay az bO aA gx:Addr)(wQ Be Bf yj Bg yk yl Bj Bk rY rZ r8 r9 r_ sj sq pe sr su sy sC sD cM sF sG dg sH j4 sI sJ pq sL sM sN sO sP sQ sS sU b8 sV sW sX sY dj d_ wR:FuncData):Prop where
 iN:mg "Clash" = some (.ref aB)
 ee:mg "NoDeed" = some (.ref au)
 cD:mg "NoLayers" = some (.ref ah)
 iO:mg "NoNet" = some (.ref aG)
 ez:mg "NoPair" = some (.ref av)
 cX:mg "NoPaper" = some (.ref ak)
 cE:mg "NoPlaces" = some (.ref ai)
 iP:mg "NoRow" = some (.ref aI)
 eE:mg "NoText" = some (.ref ay)
 eG:mg "NoTies" = some (.ref az)
 HU:mg "PlyError" = some (.ref bO)
 eN:mg "Unlike" = some (.ref aA)
 Q3:aa2 "NoPlaces" ai bmV "ValueError.__new__" mg base
 bP:lC K ai
 Ve:aa2 "NoTies" az bmV "ValueError.__new__" mg base
 cg:lC K az
 DX:aa2 "NoLayers" ah bmV "ValueError.__new__" mg base
 bQ:lC K ah
 Vf:aa2 "NoPair" av bmV "ValueError.__new__" mg base
 cj:lC K av
 Wc:aa2 "NoNet" aG bmV "ValueError.__new__" mg base
 cH:lC K aG
 Vg:aa2 "Unlike" aA bmV "ValueError.__new__" mg base
 ck:lC K aA
 Vh:aa2 "NoText" ay bmV "ValueError.__new__" mg base
 cu:lC K ay
 So:aa2 "NoPaper" ak bmV "ValueError.__new__" mg base
 bW:lC K ak
 Wd:aa2 "NoRow" aI bmV "ValueError.__new__" mg base
 cI:lC K aI
 Vi:aa2 "NoDeed" au bmV "ValueError.__new__" mg base
 cy:lC K au
 Yg:XR "Clash" aB gx bmV "ValueError.__new__" K mg base
 Yh:acz K aB=true
 Yi:aaf K (.ref aB) "moment" = some none
 Yj:aaf K (.ref aB) "__setattr__" = some (some (.builtin "object.__setattr__"))
 Yk:acA K (.ref bO) "__getattribute__" = some (some (.builtin "type.__getattribute__"))
 Yl:PySem.W.readsIn K bO (.type "type")=true
 Ym:PySem.W.findCls K (.ref bO) (.type "type") "__init__" = some (.val (.builtin "ValueError.__init__"))
 cJ:lC K aB
 qM:eg K (.ref aB) (.type "ValueError")=some true
 pA:eg K (.ref au) (.type "ValueError")=some true
 nu:eg K (.ref ah) (.type "ValueError")=some true
 qN:eg K (.ref aG) (.type "ValueError")=some true
 pB:eg K (.ref av) (.type "ValueError")=some true
 oj:eg K (.ref ak) (.type "ValueError")=some true
 nv:eg K (.ref ai) (.type "ValueError")=some true
 qO:eg K (.ref aI) (.type "ValueError")=some true
 pC:eg K (.ref ay) (.type "ValueError")=some true
 pD:eg K (.ref az) (.type "ValueError")=some true
 pF:eg K (.ref aA) (.type "ValueError")=some true
 pG:PySem.W.Dh K ah bO
 Bl:eg K (.ref aB) (.ref aB)=some true
 yI:eg K (.ref aB) (.ref au)=some false
 vq:eg K (.ref aB) (.ref ah)=some false
 Bm:eg K (.ref aB) (.ref aG)=some false
 yJ:eg K (.ref aB) (.ref av)=some false
 wU:eg K (.ref aB) (.ref ak)=some false
 vt:eg K (.ref aB) (.ref ai)=some false
 Bo:eg K (.ref aB) (.ref aI)=some false
 yK:eg K (.ref aB) (.ref ay)=some false
 yL:eg K (.ref aB) (.ref az)=some false
 yM:eg K (.ref aB) (.ref aA)=some false
 yN:eg K (.ref au) (.ref aB)=some false
 wV:eg K (.ref au) (.ref au)=some true
 sZ:eg K (.ref au) (.ref ah)=some false
 yO:eg K (.ref au) (.ref aG)=some false
 wW:eg K (.ref au) (.ref av)=some false
 vv:eg K (.ref au) (.ref ak)=some false
 s_:eg K (.ref au) (.ref ai)=some false
 yP:eg K (.ref au) (.ref aI)=some false
 wX:eg K (.ref au) (.ref ay)=some false
 wY:eg K (.ref au) (.ref az)=some false
 wZ:eg K (.ref au) (.ref aA)=some false
 vz:eg K (.ref ah) (.ref aB)=some false
 tu:eg K (.ref ah) (.ref au)=some false
 pH:eg K (.ref ah) (.ref ah)=some true
 vA:eg K (.ref ah) (.ref aG)=some false
 tw:eg K (.ref ah) (.ref av)=some false
 qP:eg K (.ref ah) (.ref ak)=some false
 pI:eg K (.ref ah) (.ref ai)=some false
 vC:eg K (.ref ah) (.ref aI)=some false
 tE:eg K (.ref ah) (.ref ay)=some false
 tF:eg K (.ref ah) (.ref az)=some false
 tG:eg K (.ref ah) (.ref aA)=some false
 Bp:eg K (.ref aG) (.ref aB)=some false
 yQ:eg K (.ref aG) (.ref au)=some false
 vD:eg K (.ref aG) (.ref ah)=some false
 Bq:eg K (.ref aG) (.ref aG)=some true
 yR:eg K (.ref aG) (.ref av)=some false
 w_:eg K (.ref aG) (.ref ak)=some false
 vE:eg K (.ref aG) (.ref ai)=some false
 Bs:eg K (.ref aG) (.ref aI)=some false
 yS:eg K (.ref aG) (.ref ay)=some false
 yT:eg K (.ref aG) (.ref az)=some false
 yU:eg K (.ref aG) (.ref aA)=some false
 yV:eg K (.ref av) (.ref aB)=some false
 xg:eg K (.ref av) (.ref au)=some false
 tH:eg K (.ref av) (.ref ah)=some false
 yW:eg K (.ref av) (.ref aG)=some false
 xh:eg K (.ref av) (.ref av)=some true
 vF:eg K (.ref av) (.ref ak)=some false
 tK:eg K (.ref av) (.ref ai)=some false
 yX:eg K (.ref av) (.ref aI)=some false
 xj:eg K (.ref av) (.ref ay)=some false
 xm:eg K (.ref av) (.ref az)=some false
 xo:eg K (.ref av) (.ref aA)=some false
 xq:eg K (.ref ak) (.ref aB)=some false
 vG:eg K (.ref ak) (.ref au)=some false
 qQ:eg K (.ref ak) (.ref ah)=some false
 xr:eg K (.ref ak) (.ref aG)=some false
 vH:eg K (.ref ak) (.ref av)=some false
 tL:eg K (.ref ak) (.ref ak)=some true
 qR:eg K (.ref ak) (.ref ai)=some false
 xu:eg K (.ref ak) (.ref aI)=some false
 vJ:eg K (.ref ak) (.ref ay)=some false
 vK:eg K (.ref ak) (.ref az)=some false
 vL:eg K (.ref ak) (.ref aA)=some false
 vM:eg K (.ref ai) (.ref aB)=some false
 tM:eg K (.ref ai) (.ref au)=some false
 pJ:eg K (.ref ai) (.ref ah)=some false
 vN:eg K (.ref ai) (.ref aG)=some false
 tN:eg K (.ref ai) (.ref av)=some false
 qS:eg K (.ref ai) (.ref ak)=some false
 pK:eg K (.ref ai) (.ref ai)=some true
 vO:eg K (.ref ai) (.ref aI)=some false
 tO:eg K (.ref ai) (.ref ay)=some false
 tP:eg K (.ref ai) (.ref az)=some false
 tQ:eg K (.ref ai) (.ref aA)=some false
 Bt:eg K (.ref aI) (.ref aB)=some false
 yY:eg K (.ref aI) (.ref au)=some false
 vP:eg K (.ref aI) (.ref ah)=some false
 Bu:eg K (.ref aI) (.ref aG)=some false
 yZ:eg K (.ref aI) (.ref av)=some false
 xw:eg K (.ref aI) (.ref ak)=some false
 vQ:eg K (.ref aI) (.ref ai)=some false
 Bv:eg K (.ref aI) (.ref aI)=some true
 y9:eg K (.ref aI) (.ref ay)=some false
 y_:eg K (.ref aI) (.ref az)=some false
 za:eg K (.ref aI) (.ref aA)=some false
 zb:eg K (.ref ay) (.ref aB)=some false
 xx:eg K (.ref ay) (.ref au)=some false
 tR:eg K (.ref ay) (.ref ah)=some false
 zc:eg K (.ref ay) (.ref aG)=some false
 xy:eg K (.ref ay) (.ref av)=some false
 vR:eg K (.ref ay) (.ref ak)=some false
 tS:eg K (.ref ay) (.ref ai)=some false
 zd:eg K (.ref ay) (.ref aI)=some false
 xA:eg K (.ref ay) (.ref ay)=some true
 xB:eg K (.ref ay) (.ref az)=some false
 xC:eg K (.ref ay) (.ref aA)=some false
 ze:eg K (.ref az) (.ref aB)=some false
 xD:eg K (.ref az) (.ref au)=some false
 tT:eg K (.ref az) (.ref ah)=some false
 zf:eg K (.ref az) (.ref aG)=some false
 xE:eg K (.ref az) (.ref av)=some false
 vS:eg K (.ref az) (.ref ak)=some false
 tU:eg K (.ref az) (.ref ai)=some false
 zg:eg K (.ref az) (.ref aI)=some false
 xF:eg K (.ref az) (.ref ay)=some false
 xG:eg K (.ref az) (.ref az)=some true
 xH:eg K (.ref az) (.ref aA)=some false
 zh:eg K (.ref aA) (.ref aB)=some false
 xJ:eg K (.ref aA) (.ref au)=some false
 tW:eg K (.ref aA) (.ref ah)=some false
 zj:eg K (.ref aA) (.ref aG)=some false
 xK:eg K (.ref aA) (.ref av)=some false
 vU:eg K (.ref aA) (.ref ak)=some false
 tZ:eg K (.ref aA) (.ref ai)=some false
 zk:eg K (.ref aA) (.ref aI)=some false
 xM:eg K (.ref aA) (.ref ay)=some false
 xN:eg K (.ref aA) (.ref az)=some false
 xO:eg K (.ref aA) (.ref aA)=some true
 bV:mg "ValueError" = none
 Fz:mg "all" = none
 Vj:mg "bool" = none
 NQ:mg "dict" = none
 FA:mg "enumerate" = none
 Yn:mg "int" = none
 af:mg "isinstance" = none
 kC:mg "len" = none
 DY:mg "list" = none
 Sq:mg "max" = none
 Ss:mg "min" = none
 gA:mg "range" = none
 Yo:mg "set" = none
 FD:mg "sorted" = none
 Yp:mg "sum" = none
 DZ:mg "tuple" = none
 Su:mg "zip" = none
 ZW:mg "steps_of" = some (.ref HP)
 ZX:mg "free_steps" = some (.ref HQ)
 Yq:mg "led_steps" = some (.ref Fw)
 NR:mg "shortest_ways" = some (.ref HR)
 Yr:mg "lead_along" = some (.ref Fx)
 Ys:mg "parted" = some (.ref Fy)
 Vk:mg "ways_apart" = some (.ref HS)
 ZY:mg "hang_often" = some (.ref bZ)
 Yt:mg "is_whole" = some (.ref AL)
 Sv:mg "is_within" = some (.ref AM)
 NT:mg "is_place" = some (.ref AO)
 Sw:mg "is_layers" = some (.ref AQ)
 Sy:mg "is_rising" = some (.ref AR)
 Yu:mg "is_pair" = some (.ref AS)
 Yv:mg "is_side" = some (.ref AU)
 CL:mg "look_at_layers" = some (.ref yh)
 Yw:mg "look_at_pair" = some (.ref AV)
 Yx:mg "rim" = some (.ref AW)
 Yy:mg "way_right" = some (.ref AX)
 Yz:mg "ways_right" = some (.ref AY)
 NU:mg "without" = some (.ref AZ)
 ym:mg "kept_ties" = some (.ref dc)
 NV:mg "no_ways" = some (.ref A0)
 YA:mg "ways_by_ties" = some (.ref bF)
 Bw:mg "ways_out" = some (.ref d8)
 YC:mg "side_for" = some (.ref A1)
 JA:mg "pared" = some (.ref lJ)
 YD:mg "out_right" = some (.ref A2)
 YE:mg "kept_right" = some (.ref A3)
 Sz:mg "pared_right" = some (.ref yi)
 YF:mg "moments_of_steps" = some (.ref A4)
 YG:mg "steps_through_doors" = some (.ref A5)
 SA:mg "free_doors" = some (.ref A6)
 YH:mg "first_shut" = some (.ref A7)
 YI:mg "ways_around" = some (.ref A8)
 SD:mg "place_hang" = some (.ref A9)
 YJ:mg "hang_often_by_places" = some (.ref bD)
 YK:mg "place_ways" = some (.ref bE)
 rq:mg "place_pared" = some (.ref cB)
 YL:mg "_law_cell_at" = some (.ref A_)
 SE:mg "_law_pool" = some (.ref Ba)
 n9:mg "_law_take" = some (.ref Bb)
 YM:mg "_law_record" = some (.ref Bc)
 FF:mg "_law_alone" = some (.ref d9)
 Bx:mg "_law_told" = some (.ref gD)
 Z3:mg "law" = some (.ref Bd)
 FG:Fun K "__init__" "Clash.__init__" mZ gx wQ
 YN:Fun K "steps_of" "steps_of" (top 3) HP Be
 YO:Fun K "free_steps" "free_steps" (top 4) HQ Bf
 Q4:Fun K "led_steps" "led_steps" (top 5) Fw yj
 K0:Fun K "shortest_ways" "shortest_ways" (top 6) HR Bg
 Q5:Fun K "lead_along" "lead_along" (top 7) Fx yk
 Q6:Binds K yj ["steps","heads"] []
 HV:Binds K Bg ["steps","a"] []
 Q7:Fun K "parted" "parted" (top 8) Fy yl
 Vl:Binds K Be ["n","ties"] []
 Vm:Binds K Bf ["steps","heads"] []
 Q8:Binds K yk ["heads","way"] []
 Q9:Binds K yl ["steps","heads","a","b","count"] []
 Q_:Fun K "ways_apart" "ways_apart" (top 1) HS Bj
 NW:Binds K Bj ["n","ties","a","b","most"] []
 YQ:Fun K "hang_often" "hang_often" (top 2) bZ Bk
 SG:Fun K "is_whole" "is_whole" (top 23) AL rY
 NX:Binds K rY ["thing"] []
 NY:Fun K "is_within" "is_within" (top 24) AM rZ
 JB:Binds K rZ ["thing","low","high"] []
 JC:Fun K "is_place" "is_place" (top 25) AO r8
 NZ:Fun K "is_layers" "is_layers" (top 26) AQ r9
 N1:Fun K "is_rising" "is_rising" (top 27) AR r_
 FH:Binds K r8 ["n","thing"] []
 SH:Fun K "is_pair" "is_pair" (top 28) AS sj
 JD:Binds K r_ ["things"] []
 SI:Fun K "is_side" "is_side" (top 29) AU sq
 JE:Binds K r9 ["thing"] []
 yo:Fun K "look_at_layers" "look_at_layers" (top 30) yh pe
 N2:Binds K sj ["n","a","b"] []
 SJ:Fun K "look_at_pair" "look_at_pair" (top 31) AV sr
 SK:Fun K "rim" "rim" (top 33) AW su
 SM:Fun K "way_right" "way_right" (top 34) AX sy
 N3:Binds K sy ["record","a","b","way"] []
 SN:Fun K "ways_right" "ways_right" (top 35) AY sC
 JF:Fun K "without" "without" (top 39) AZ sD
 Vn:Binds K Bk ["n","ties","a","b","times"] []
 FJ:Binds K sD ["ties","tie"] []
 lK:Fun K "kept_ties" "kept_ties" (top 38) dc cM
 JG:Fun K "no_ways" "no_ways" (top 41) A0 sF
 SO:Fun K "ways_by_ties" "ways_by_ties" (top 42) bF sG
 FL:Binds K sF ["k"] []
 N4:Binds K sG ["n","kept","a","b","k"] []
 ny:Fun K "ways_out" "ways_out" (top 40) d8 dg
 SQ:Fun K "side_for" "side_for" (top 43) A1 sH
 yp:Binds K pe ["k"] []
 lM:Binds K cM ["n","record","k","often"] []
 nB:Binds K dg ["n","record","kept","k","ways_of"] []
 N5:Binds K sH ["n","kept","tie","k"] []
 zD:Fun K "pared" "pared" (top 37) lJ j4
 N6:Binds K sC ["record","a","b","ways"] []
 SR:Fun K "out_right" "out_right" (top 45) A2 sI
 N7:Binds K sq ["n","thing"] []
 N8:Binds K su ["record","side"] []
 SS:Fun K "kept_right" "kept_right" (top 46) A3 sJ
 N9:Binds K sI ["kept","tie","k","ways"] []
 N_:Binds K sJ ["n","kept","tie","k","side"] []
 JH:Fun K "pared_right" "pared_right" (top 44) yi pq
 SV:Fun K "moments_of_steps" "moments_of_steps" (top 51) A4 sL
 SW:Fun K "steps_through_doors" "steps_through_doors" (top 52) A5 sM
 Oa:Fun K "free_doors" "free_doors" (top 53) A6 sN
 SX:Fun K "first_shut" "first_shut" (top 54) A7 sO
 Ob:Binds K sL ["n","ties"] []
 Oc:Binds K sM ["n","moments"] []
 JI:Binds K sN ["steps","heads"] []
 Od:Binds K sO ["n","way","reached"] []
 SY:Fun K "ways_around" "ways_around" (top 50) A8 sP
 Oe:Binds K sr ["n","a","b"] []
 Of:Binds K sP ["n","ties","a","b","most"] []
 Og:Fun K "place_hang" "place_hang" (top 48) A9 sQ
 JJ:Binds K sQ ["n","record","a","b","most"] []
 S0:Fun K "hang_often_by_places" "hang_often_by_places" (top 49) bD sS
 Oh:Binds K sS ["n","ties","a","b","times"] []
 S1:Fun K "place_ways" "place_ways" (top 57) bE sU
 Oi:Binds K sU ["n","kept","a","b","k"] []
 jQ:Fun K "place_pared" "place_pared" (top 56) cB b8
 S2:Fun K "_law_cell_at" "_law_cell_at" (top 59) A_ sV
 Oj:Binds K sV ["script","k"] []
 Ol:Fun K "_law_pool" "_law_pool" (top 60) Ba sW
 m5:Fun K "_law_take" "_law_take" (top 61) Bb sX
 lN:Binds K sX ["pool","many"] []
 S3:Fun K "_law_record" "_law_record" (top 62) Bc sY
 yq:Fun K "_law_alone" "_law_alone" (top 63) d9 dj
 zE:Binds K j4 ["n","record","k"] []
 JK:Binds K pq ["n","record","k","told"] []
 jR:Binds K b8 ["n","record","k"] []
 t7:Fun K "_law_told" "_law_told" (top 64) gD d_
 JL:Binds K sW ["script","at"] []
 Om:Binds K sY ["pool","n","most"] []
 pL:Binds K dj ["caught","kind"] []
 nC:Binds K d_ ["which","n","record","k"] []
 YR:Fun K "law" "law" (top 65) Bd wR
section
variable{P':Program}{w:World}{K:Dk}{mg:Str->Option Value}{base:Heap}{HP HQ Fw HR Fx Fy HS bZ AL AM AO AQ AR AS AU yh AV AW AX AY AZ dc A0 bF d8 A1 lJ A2 A3 yi A4 A5 A6 A7 A8 A9 bD bE cB A_ Ba Bb Bc d9 gD Bd aB au ah aG av ak ai aI ay az bO aA gx:Addr}
variable{wQ Be Bf yj Bg yk yl Bj Bk rY rZ r8 r9 r_ sj sq pe sr su sy sC sD cM sF sG dg sH j4 sI sJ pq sL sM sN sO sP sQ sS sU b8 sV sW sX sY dj d_ wR:FuncData}
theorem FO:aN ["n","ties","steps","moment","a","b"] ["n","ties"] (ao (top 3)):=fsc
theorem Vo:(["n","ties","steps","moment","a","b","place"]:List Str).Nodup:=by decide +kernel
theorem YT:aN ["steps","heads"] ["steps","heads"] (ao (top 4)):=fsc
theorem Vp:(["steps","heads","row"]:List Str).Nodup:=by decide +kernel
theorem Vq:(["steps","heads","row","step"]:List Str).Nodup:=by decide +kernel
theorem YU:aN ["steps","heads"] ["steps","heads"] (ao (top 5)):=fsc
theorem Vr:(["steps","heads","row"]:List Str).Nodup:=by decide +kernel
theorem Vs:(["steps","heads","row","step"]:List Str).Nodup:=by decide +kernel
theorem YV:aN ["steps","heads"] ["steps","heads"] (ao (top 5)):=fsc
theorem Vt:(["steps","heads","row"]:List Str).Nodup:=by decide +kernel
theorem Vu:(["steps","heads","row","step"]:List Str).Nodup:=by decide +kernel
theorem FP:aN ["steps","a","ways","pending","place","step"] ["steps","a"] (ao (top 6)):=fsc
theorem Oo:aN ["heads","way","moment","place"] ["heads","way"] (ao (top 7)):=fsc
theorem Oq:aN ["heads","way","moment","place"] ["heads","way"] (ao (top 7)):=fsc
theorem CM:aN ["steps","heads","a","b","count","left","ways","time","way","moment"] ["steps","heads","a","b","count"] (ao (top 8)):=fsc
theorem Vv:(["steps","heads","a","b","count","left","ways","time","way","moment","step"]:List Str).Nodup:=by decide +kernel
theorem yr:aN ["n","ties","a","b","most","steps","heads","side","count","found"] ["n","ties","a","b","most"] (ao (top 1)):=fsc
theorem YW:aN ["n","ties","a","b","times"] ["n","ties","a","b","times"] (ao (top 2)):=fsc
theorem xP:aN ["steps","heads","a","b","count","left","ways","time","way","moment"] ["steps","heads","a","b","count"] (ao (top 8)):=fsc
theorem Ra:(["steps","heads","a","b","count","left","ways","time","way","moment","step"]:List Str).Nodup:=by decide +kernel
theorem Vw:aN ["thing"] ["thing"] (ao (top 23)):=fsc
theorem Vx:aN ["thing","low","high"] ["thing","low","high"] (ao (top 24)):=fsc
theorem Vy:aN ["n","thing"] ["n","thing"] (ao (top 25)):=fsc
theorem Vz:aN ["thing"] ["thing"] (ao (top 26)):=fsc
theorem VA:aN ["things"] ["things"] (ao (top 27)):=fsc
theorem Rb:(["things","at"]:List Str).Nodup:=by decide +kernel
theorem VB:aN ["n","a","b"] ["n","a","b"] (ao (top 28)):=fsc
theorem VC:aN ["n","thing"] ["n","thing"] (ao (top 29)):=fsc
theorem Rc:(["n","thing","place"]:List Str).Nodup:=by decide +kernel
theorem Ot:aN ["k"] ["k"] (ao (top 30)):=fsc
theorem VD:aN ["n","a","b"] ["n","a","b"] (ao (top 31)):=fsc
theorem VE:aN ["record","side"] ["record","side"] (ao (top 33)):=fsc
theorem D0:(["record","side","moment","a","b"]:List Str).Nodup:=by decide +kernel
theorem nD:aN ["record","a","b","way","ends","moment","first","second","place","used"] ["record","a","b","way"] (ao (top 34)):=fsc
theorem HW:aN ["record","a","b","ways","used","way"] ["record","a","b","ways"] (ao (top 35)):=fsc
theorem Rf:(["record","a","b","ways","used","%5","way"]:List Str).Nodup:=by decide +kernel
theorem VF:aN ["ties","tie"] ["ties","tie"] (ao (top 39)):=fsc
theorem Rg:(["ties","tie","other"]:List Str).Nodup:=by decide +kernel
theorem iQ:aN ["n","record","k","often","kept","tie","others"] ["n","record","k","often"] (ao (top 38)):=fsc
theorem VG:aN ["k"] ["k"] (ao (top 41)):=fsc
theorem Rh:(["k","time"]:List Str).Nodup:=by decide +kernel
theorem VH:aN ["n","kept","a","b","k"] ["n","kept","a","b","k"] (ao (top 42)):=fsc
theorem yt:aN ["n","record","kept","k","ways_of","gone"] ["n","record","kept","k","ways_of"] (ao (top 40)):=fsc
theorem D3:(["n","record","kept","k","ways_of","gone","tie"]:List Str).Nodup:=by decide +kernel
theorem D4:(["n","record","kept","k","ways_of","gone","tie"]:List Str).Nodup:=by decide +kernel
theorem VI:aN ["n","kept","tie","k"] ["n","kept","tie","k"] (ao (top 43)):=fsc
theorem vV:aN ["n","record","k","kept","sides"] ["n","record","k"] (ao (top 37)):=fsc
theorem K1:(["n","record","k","kept","sides","tie"]:List Str).Nodup:=by decide +kernel
theorem K2:(["n","record","k","kept","sides","tie"]:List Str).Nodup:=by decide +kernel
theorem VJ:aN ["kept","tie","k","ways"] ["kept","tie","k","ways"] (ao (top 45)):=fsc
theorem Ou:aN ["n","kept","tie","k","side","over"] ["n","kept","tie","k","side"] (ao (top 46)):=fsc
theorem D5:aN ["n","record","k","told","kept","gone"] ["n","record","k","told"] (ao (top 44)):=fsc
theorem Ri:(["n","record","k","told","kept","gone","tie"]:List Str).Nodup:=by decide +kernel
theorem Rj:(["n","record","k","told","kept","gone","tie"]:List Str).Nodup:=by decide +kernel
theorem JM:(["n","record","k","told","kept","gone","tie","ways"]:List Str).Nodup:=by decide +kernel
theorem JN:(["n","record","k","told","kept","gone","tie","side"]:List Str).Nodup:=by decide +kernel
theorem By:aN ["n","ties","moments","moment","a","b"] ["n","ties"] (ao (top 51)):=fsc
theorem D6:aN ["n","moments","steps","through","step"] ["n","moments"] (ao (top 52)):=fsc
theorem Rk:(["n","moments","steps","through","step","door"]:List Str).Nodup:=by decide +kernel
theorem Rl:(["n","moments","steps","through","step","place"]:List Str).Nodup:=by decide +kernel
theorem xQ:aN ["steps","heads","free","door","row","step","onward"] ["steps","heads"] (ao (top 53)):=fsc
theorem Rm:(["steps","heads","free","door","%4","step","onward","row"]:List Str).Nodup:=by decide +kernel
theorem VL:aN ["n","way","reached"] ["n","way","reached"] (ao (top 54)):=fsc
theorem Rn:(["n","way","reached","step"]:List Str).Nodup:=by decide +kernel
theorem l0:aN ["n","ties","a","b","most","moments","steps","heads","reached","count","ways","told"] ["n","ties","a","b","most"] (ao (top 50)):=fsc
theorem Ro:(["n","ties","a","b","most","moments","steps","heads","reached","count","ways","told","way"]:List Str).Nodup:=by decide +kernel
theorem Rp:(["n","ties","a","b","most","moments","steps","heads","reached","count","ways","told","way","step"]:List Str).Nodup:=by decide +kernel
theorem Rq:(["n","ties","a","b","most","moments","steps","heads","reached","count","ways","told","way"]:List Str).Nodup:=by decide +kernel
theorem BA:aN ["n","record","a","b","most","straight","others","ways","around"] ["n","record","a","b","most"] (ao (top 48)):=fsc
theorem Rt:(["n","record","a","b","most","straight","others","ways","around","tie"]:List Str).Nodup:=by decide +kernel
theorem Ru:(["n","record","a","b","most","straight","others","ways","around","tie"]:List Str).Nodup:=by decide +kernel
theorem Rv:(["n","record","a","b","most","straight","others","ways","around","tie"]:List Str).Nodup:=by decide +kernel
theorem VM:aN ["n","ties","a","b","times"] ["n","ties","a","b","times"] (ao (top 49)):=fsc
theorem dN:aN ["n","record","k","often","kept","tie","others"] ["n","record","k","often"] (ao (top 38)):=fsc
theorem VN:aN ["n","kept","a","b","k"] ["n","kept","a","b","k"] (ao (top 57)):=fsc
theorem pM:aN ["n","record","kept","k","ways_of","gone"] ["n","record","kept","k","ways_of"] (ao (top 40)):=fsc
theorem zl:(["n","record","kept","k","ways_of","gone","tie"]:List Str).Nodup:=by decide +kernel
theorem zm:(["n","record","kept","k","ways_of","gone","tie"]:List Str).Nodup:=by decide +kernel
theorem lu:aN ["n","record","k","kept"] ["n","record","k"] (ao (top 56)):=fsc
theorem zo:(["n","record","k","kept","tie"]:List Str).Nodup:=by decide +kernel
theorem VO:aN ["script","k"] ["script","k"] (ao (top 59)):=fsc
theorem pN:aN ["script","at","cell","big","turn","one"] ["script","at"] (ao (top 60)):=fsc
theorem Ov:aN ["pool","many","number"] ["pool","many"] (ao (top 61)):=fsc
theorem kc:aN ["pool","n","most","many","wide","moment","record","k","a","b"] ["pool","n","most"] (ao (top 62)):=fsc
theorem iR:aN ["caught","kind","marks"] ["caught","kind"] (ao (top 63)):=fsc
theorem B3:(["caught","kind","marks","k"]:List Str).Nodup:=by decide +kernel
theorem lO:aN ["which","n","record","k","caught","e"] ["which","n","record","k"] (ao (top 64)):=fsc
theorem kg:aN ["script","pool","n","at","record","good","some","odd","handed","which"] ["script"] (ao (top 65)):=fsc
variable(T:Txt mg K base HP HQ Fw HR Fx Fy HS bZ AL AM AO AQ AR AS AU yh AV AW AX AY AZ dc A0 bF d8 A1 lJ A2 A3 yi A4 A5 A6 A7 A8 A9 bD bE cB A_ Ba Bb Bc d9 gD Bd aB au ah aG av ak ai aI ay az bO aA gx wQ Be Bf yj Bg yk yl Bj Bk rY rZ r8 r9 r_ sj sq pe sr su sy sC sD cM sF sG dg sH j4 sI sJ pq sL sM sN sO sP sQ sS sU b8 sV sW sX sY dj d_ wR)
include T
theorem YX :
  bI P' w K mg base CX0 1 HP Be ["n","ties"] (spD QC):=
 okQ T.YN FO fun _ _ _ _ _ _ hr=>(MM 2 ["n","ties","steps","moment","a","b"] ["place"] FO.nd (c_n 6 Vo rfl rfl) (BL rfl T.gA (aa (d_v 0) aj)) (I0 aaw rfl (i_S (d_v 1)) (g_t rfl (bS 3 FO.nd (bS 4 FO.nd (bS 5 FO.nd lR))))
  (Ae (XG (BK hr (d_v 4) (d_v 5)) (UK (EO (d_v 4) (iB (aa (d_v 3) (aa (d_v 5) aj))))
  (Ae (EO (d_v 5) (iB (aa (d_v 3) (aa (d_v 4) aj)))))) XF)))
  (aL (s_r (d_v 2))))
theorem YY :
  bI P' w K mg base CX0 1 HQ Bf ["steps","heads"] (spD Nf):=
 okQ T.YO YT fun _ _ _ _ _ _ hr=>(aL (s_r (iI 0 ["steps","heads"] ["row"] (c_n 2 Vp rfl rfl) (d_v 0) (fun _ _ _ _ _=>cN) (fun _ _ _ _ _=>(iI 2 ["steps","heads","row"] ["step"] (c_n 3 Vq rfl rfl) (d_v 2) (fun _ _ _ _ _=>jC (BK hr (My hr (d_v 1) (bK (d_v 3) d_i)) (bK (d_v 3) d_i))) (fun _ _ _ _ _=>(d_v 3)))))))
theorem YZ :
  bI P' w K mg base CX0 1 Fw yj ["steps","heads"] (spD Ng):=
 okQ T.Q4 YU fun _ _ _ _ _ _ hr=>(aL (s_r (iI 0 ["steps","heads"] ["row"] (c_n 2 Vr rfl rfl) (d_v 0) (fun _ _ _ _ _=>cN) (fun _ _ _ _ _=>(iI 2 ["steps","heads","row"] ["step"] (c_n 3 Vs rfl rfl) (d_v 2) (fun _ _ _ _ _=>jC (uW hr (My hr (d_v 1) (bK (d_v 3) d_i)) (bK (d_v 3) d_i))) (fun _ _ _ _ _=>(d_v 3)))))))
theorem Y0 :
  bI P' w K mg base CX0 1 Fw yj ["steps","heads"] (spD Nh):=
 okQ T.Q4 YV fun _ _ _ _ _ _ hr=>(aL (s_r (iI 0 ["steps","heads"] ["row"] (c_n 2 Vt rfl rfl) (d_v 0) (fun _ _ _ _ _=>cN) (fun _ _ _ _ _=>(iI 2 ["steps","heads","row"] ["step"] (c_n 3 Vu rfl rfl) (d_v 2) (fun _ _ _ _ _=>jC (uW hr (Qw hr (d_v 1) (bK (d_v 3) d_i)) (bK (d_v 3) d_i))) (fun _ _ _ _ _=>(d_v 3)))))))
theorem FQ :
  bI P' w K mg base CX0 1 HR Bg ["steps","a"] (spD qL):=
 okQ T.K0 FP fun _ _ _ _ _ _ hr=>(aq (s_a 2 FP.nd (ZD (d_v 1) (cU aj)))
  (aq (s_a 3 FP.nd (cU (aa (d_v 1) aj)))
  (aq (Uq 100 aaw (ZF (d_v 3))
  (aq (s_a 4 FP.nd (P5 3 d_i))
  (aL (jV aaw rfl (i_S (bK (d_v 0) (d_v 4))) (g_n 5 FP.nd)
  (aL (j9 (GY hr (bK (d_v 5) d_i) (d_v 2)) (aq (Df 2 hr (bK (d_v 5) d_i) (c_ (GX hr (d_v 2) (d_v 4)) (cU (aa (d_v 5) aj))))
  (aL (IK 3 (bK (d_v 5) d_i)))) iC))))))
  (aL (s_r (d_v 2))))))
theorem Y3 :
  bI P' w K mg base CX0 1 Fx yk ["heads","way"] (spM Ni):=by
 refine T.Q5.ok Oo (fun vs H Q E h=>u5 h) (fun cdv A outer s H vs Q E hr h=>?_);exact ⟨_,(aL (jV aaw rfl (i_S (d_v 1)) (g_t rfl (bS 2 Oo.nd (bS 3 Oo.nd lR)))
  (aL (j9 (IT hr (d_v 2) (d_v 0)) (aL (s_e (MR 0 (d_v 2)))) (aL (Df 0 hr (d_v 2) (d_v 3))))))),IP (n:=2) (m:=2) rfl h⟩
theorem Y4 :
  bI P' w K mg base CX0 1 Fx yk ["heads","way"] (spM Nj):=by
 refine T.Q5.ok Oq (fun vs H Q E h=>u5 h) (fun cdv A outer s H vs Q E hr h=>?_);exact ⟨_,(aL (jV aaw rfl (i_S (d_v 1)) (g_t rfl (bS 2 Oq.nd (bS 3 Oq.nd lR)))
  (aL (j9 (Hl hr (d_v 2) (d_v 0)) (aL (s_e (Jc 0 hr (d_v 2)))) (aL (Dq 0 hr (d_v 2) (d_v 3))))))),IP (n:=2) (m:=2) rfl h⟩
theorem Y5 :
  bI P' w K mg base CX0 2 Fy yl ["steps","heads","a","b","count"] (spD KH):=
 okQ T.Q7 CM fun _ _ _ _ _ _ hr=>(aq (s_a 5 CM.nd (UN rfl T.NQ (aa (d_v 1) aj)))
  (aq (s_a 6 CM.nd (cU aj))
  (aq (jV aaw rfl (BL rfl T.gA (aa (d_v 4) aj)) (g_n 7 CM.nd)
  (aq (Uu 8 ["steps","heads","a","b","count","left","ways","time","way","moment"] ["step"] CM.nd (c_n 10 Vv rfl rfl) (i_S (GX hr (bu (FQ T) (Br.hm hr) rfl T.NR T.K0.kp T.HV (aa (u7 (YZ T) (Br.hm hr) rfl T.Yq T.Q4.kp T.Q6 (aa (d_v 0) (aa (d_v 5) aj))) (aa (d_v 2) aj))) (d_v 3))) (fun _ _ _ _ _=>cN) (fun _ _ _ _ _=>(bK (d_v 10) d_i)))
  (aq (jV aaw rfl (i_S (d_v 8)) (g_n 9 CM.nd)
  (aL (s_e (MR 5 (d_v 9)))))
  (aL (IK 6 (d_v 8))))))
  (aL (s_r (d_v 6))))))
theorem Ow :
  bI P' w K mg base CX0 3 HS Bj ["n","ties","a","b","most"] (spD Hu):=
 okQ T.Q_ yr fun _ _ _ _ _ _ hr=>(aq (s_a 5 yr.nd (bu (YX T) (Br.hm hr) rfl T.ZW T.YN.kp T.Vl (aa (d_v 0) (aa (d_v 1) aj))))
  (aq (s_a 6 yr.nd PY)
  (aq (s_a 7 yr.nd d_n)
  (aq (s_a 8 yr.nd d_i)
  (aq (Uq 100 aaw (t_w (w_and (PJ (d_v 8) (d_v 4)) (wo (Xp (d_v 7) d_n))))
  (aq (s_a 9 yr.nd (bu (FQ T) (Br.hm hr) rfl T.NR T.K0.kp T.HV (aa (u7 (YY T) (Br.hm hr) rfl T.ZX T.YO.kp T.Vm (aa (d_v 5) (aa (d_v 6) aj))) (aa (d_v 2) aj))))
  (aL (j9 (IT hr (d_v 3) (d_v 9)) (aq (s_e (dh (Y3 T) (Br.hm hr) rfl T.Yr T.Q5.kp T.Q8 (aa (d_v 6) (aa (GX hr (d_v 9) (d_v 3)) aj))))
  (aL (s_a 8 yr.nd (c_ (d_v 8) d_i)))) (aL (s_a 7 yr.nd (II rfl T.DZ (aa (Qf rfl rfl T.FD (aa (d_v 9) aj)) aj))))))))
  (aL (s_r (iB (aa (u7 (Y5 T) (Br.hm hr) rfl T.Ys T.Q7.kp T.Q9 (@aa _ _ _ _ _ (d_v 5) (@aa _ _ _ _ _ (d_v 6) (@aa _ _ _ _ _ (d_v 2) (@aa _ _ _ _ _ (d_v 3) (@aa _ _ _ _ _ (d_v 8) aj rfl) rfl) rfl) rfl) rfl)) (aa (d_v 7) aj))))))))))
theorem Y6 :
  bI P' w K mg base CX0 4 bZ Bk ["n","ties","a","b","times"] (spD QD):=
 okQ T.YQ YW fun _ _ _ _ _ _ hr=>(aL (s_r (RX (bK (bu (Ow T) (Br.hm hr) rfl T.Vk T.Q_.kp T.NW (@aa _ _ _ _ _ (d_v 0) (@aa _ _ _ _ _ (d_v 1) (@aa _ _ _ _ _ (d_v 2) (@aa _ _ _ _ _ (d_v 3) (@aa _ _ _ _ _ (d_v 4) aj rfl) rfl) rfl) rfl) rfl)) d_i) d_n)))
theorem VP :
  bI P' w K mg base CX0 2 Fy yl ["steps","heads","a","b","count"] (spD Ct):=
 okQ T.Q7 xP fun _ _ _ _ _ _ hr=>(aq (s_a 5 xP.nd (Qv rfl T.NQ (aa (d_v 1) aj)))
  (aq (s_a 6 xP.nd (cU aj))
  (aq (jV aaw rfl (BL rfl T.gA (aa (d_v 4) aj)) (g_n 7 xP.nd)
  (aq (Uu 8 ["steps","heads","a","b","count","left","ways","time","way","moment"] ["step"] xP.nd (c_n 10 Ra rfl rfl) (i_S (GX hr (bu (FQ T) (Br.hm hr) rfl T.NR T.K0.kp T.HV (aa (oY (Y0 T) (Br.hm hr) rfl T.Yq T.Q4.kp T.Q6 (aa (d_v 0) (aa (d_v 5) aj))) (aa (d_v 2) aj))) (d_v 3))) (fun _ _ _ _ _=>cN) (fun _ _ _ _ _=>(bK (d_v 10) d_i)))
  (aq (jV aaw rfl (i_S (d_v 8)) (g_n 9 xP.nd)
  (aL (s_e (Jc 5 hr (d_v 9)))))
  (aL (IK 6 (d_v 8))))))
  (aL (s_r (d_v 6))))))
theorem VQ :
  bI P' w K mg base CX0 1 AL rY ["thing"] (spD EZ):=
 okQ T.SG Vw fun _ _ _ _ _ _ hr=>(aL (s_r (qV (Mp PK (by rfl) rfl T.Yn rfl T.af (d_v 0)) (xW (Xe (Mp Ml (by rfl) rfl T.Vj rfl T.af (d_v 0)))))))
theorem Ox :
  bI P' w K mg base CX0 2 AM rZ ["thing","low","high"] (spD qY):=
 okQ T.NY Vx fun _ _ _ _ _ _ hr=>(aL (s_r (qV (bu (VQ T) (Br.hm hr) rfl T.Yt T.SG.kp T.NX (aa (d_v 0) aj)) (xW (PM Lq Ma Lq Ma (d_v 1) (d_v 0) (d_v 2))))))
theorem HX :
  bI P' w K mg base CX0 3 AO r8 ["n","thing"] (spD Cu):=
 okQ T.JC Vy fun _ _ _ _ _ _ hr=>(aL (s_r (bu (Ox T) (Br.hm hr) rfl T.Sv T.NY.kp T.JB (aa (d_v 1) (aa d_i (aa (zY (d_v 0) d_i) aj))))))
theorem Oz :
  bI P' w K mg base CX0 3 AQ r9 ["thing"] (spD mX):=
 okQ T.NZ Vz fun _ _ _ _ _ _ hr=>(aL (s_r (bu (Ox T) (Br.hm hr) rfl T.Sv T.NY.kp T.JB (aa (d_v 0) (aa d_i (aa d_i aj))))))
theorem OA :
  bI P' w K mg base CX0 1 AR r_ ["things"] (spD Jg):=
 okQ T.N1 VA fun _ _ _ _ _ _ hr=>(aL (s_r (EC rfl rfl T.Fz (aa (Mq ["things"] ["at"] (c_n 1 Rb rfl rfl) (Xf rfl T.gA (aa d_i (aa (kY rfl T.kC (aa (d_v 0) aj)) aj))) (fun _ _ _ _ _=>cN) (fun _ _ _ _ _=>(Zt (bK (d_v 0) (zY (d_v 1) d_i)) (bK (d_v 0) (d_v 1))))) aj))))
theorem VR :
  bI P' w K mg base CX0 4 AS sj ["n","a","b"] (spD Jh):=
 okQ T.SH VB fun _ _ _ _ _ _ hr=>(aL (s_r (qV (bu (HX T) (Br.hm hr) rfl T.NT T.JC.kp T.FH (aa (d_v 0) (aa (d_v 1) aj))) (qV (bu (HX T) (Br.hm hr) rfl T.NT T.JC.kp T.FH (aa (d_v 0) (aa (d_v 2) aj))) (xW (Zs hr (d_v 1) (d_v 2)))))))
theorem VS :
  bI P' w K mg base CX0 4 AU sq ["n","thing"] (spD Sd):=
 okQ T.SI VC fun _ _ _ _ _ _ hr=>(aL (s_r (qV (Mp kit_tuple (by rfl) rfl T.DZ rfl T.af (d_v 1)) (qV (EC rfl rfl T.Fz (aa (iI 1 ["n","thing"] ["place"] (c_n 2 Rc rfl rfl) (d_v 1) (fun _ _ _ _ _=>cN) (fun _ _ _ _ _=>(bu (HX T) (Br.hm hr) rfl T.NT T.JC.kp T.FH (aa (d_v 0) (aa (d_v 2) aj))))) aj)) (xW (bu (OA T) (Br.hm hr) rfl T.Sy T.N1.kp T.JD (aa (d_v 1) aj)))))))
theorem HY :
  bI P' w K mg base CX0 4 yh pe ["k"] (spD Ao):=
 okQ T.yo Ot fun _ _ _ _ _ _ hr=>(aL (j9 (z0 (uX (bu (Oz T) (Br.hm hr) rfl T.Sw T.NZ.kp T.JE (aa (d_v 0) aj)))) (aL IJ) iC))
theorem cA :
  bI P' w K mg base (CXE P' w ah) 4 yh pe ["k"] (spX ah bL):=by
 exact okY (n:=1) (m:=0) T.yo Ot rfl rfl (fun cdv A outer s H E hr=>(qW (UO (z0 (uX (bu (Oz T) (Br.hm hr) rfl T.Sw T.NZ.kp T.JE (aa (d_v 0) aj)))) (qW (y_x (x_raise T.DX PySem.F.excBase_ValueError rfl))) ZM)))
theorem VT :
  bI P' w K mg base CX0 5 AV sr ["n","a","b"] (spD Ji):=
 okQ T.SJ VD fun _ _ _ _ _ _ hr=>(aL (j9 (z0 (uX (bu (VR T) (Br.hm hr) rfl T.Yu T.SH.kp T.N2 (aa (d_v 0) (aa (d_v 1) (aa (d_v 2) aj)))))) (aL IJ) iC))
theorem VU :
  bI P' w K mg base CX0 1 AW su ["record","side"] (spD Se):=
 okQ T.SK VE fun _ _ _ _ _ _ hr=>(aL (s_r (iI 0 ["record","side"] ["moment","a","b"] (c_t rfl (fun _ _ _ _ _=>(bS 2 D0 (bS 3 D0 (bS 4 D0 lR))))) (d_v 0) (fun _ _ _ _ _=>jC (BK hr (LF hr (d_v 3) (d_v 1)) (LF hr (d_v 4) (d_v 1)))) (fun _ _ _ _ _=>(d_v 2)))))
theorem VW :
  bI P' w K mg base CX0 1 AX sy ["record","a","b","way"] (spD Sf):=
 okQ T.SM nD fun _ _ _ _ _ _ hr=>(aq (s_a 4 nD.nd PY)
  (aq (jV aaw rfl (i_S (d_v 0)) (g_t rfl (bS 5 nD.nd (bS 6 nD.nd (bS 7 nD.nd lR))))
  (aL (j9 (BK hr (d_v 6) (d_v 7)) (aL (Df 4 hr (d_v 5) (iB (aa (d_v 6) (aa (d_v 7) aj))))) iC)))
  (aq (s_a 8 nD.nd (d_v 1))
  (aq (s_a 9 nD.nd PY)
  (aq (jV aaw rfl (i_S (d_v 3)) (g_n 5 nD.nd)
  (aq (j9 (t_w (w_or (IT hr (d_v 5) (d_v 9)) (w_or (GY hr (d_v 5) (d_v 4)) (Cf (EB hr (d_v 8) (GX hr (d_v 4) (d_v 5))))))) (aL (s_r d_b)) iC)
  (aq (Df 9 hr (d_v 5) d_b)
  (aL (s_a 8 nD.nd (zY (UE rfl rfl T.Yp (aa (GX hr (d_v 4) (d_v 5)) aj)) (d_v 8)))))))
  (aL (s_r (Kq hr (d_v 8) (d_v 2)))))))))
theorem VX :
  bI P' w K mg base CX0 2 AY sC ["record","a","b","ways"] (spD Sg):=
 okQ T.SN HW fun _ _ _ _ _ _ hr=>(aq (s_a 4 HW.nd (cU aj))
  (aq (jV aaw rfl (i_S (d_v 3)) (g_n 5 HW.nd)
  (aL (RZ 4 (d_v 5))))
  (aL (s_r (qV (Kq hr (MA rfl rfl T.kC rfl T.Yo (d_v 4)) (kY rfl T.kC (aa (d_v 4) aj))) (xW (EC rfl rfl T.Fz (aa (iI 3 ["record","a","b","ways","used","%5"] ["way"] (c_n 6 Rf rfl rfl) (d_v 3) (fun _ _ _ _ _=>cN) (fun _ _ _ _ _=>(bu (VW T) (Br.hm hr) rfl T.Yy T.SM.kp T.N3 (aa (d_v 0) (aa (d_v 1) (aa (d_v 2) (aa (d_v 6) aj))))))) aj))))))))
theorem HZ :
  bI P' w K mg base CX0 1 AZ sD ["ties","tie"] (spD ye):=
 okQ T.JF VF fun _ _ _ _ _ _ hr=>(aL (s_r (iI 0 ["ties","tie"] ["other"] (c_n 2 Rg rfl rfl) (d_v 0) (fun _ _ _ _ _=>jC (BK hr (d_v 2) (d_v 1))) (fun _ _ _ _ _=>(d_v 2)))))
theorem D7 :
  bI P' w K mg base CX0 5 dc cM ["n","record","k","often"] (spD (o6 ai az ah av aG aA ay ak aI au aB bZ bD bE bF)):=
 okQ T.lK iQ fun _ _ _ _ _ _ hr=>(aq (s_a 4 iQ.nd (GU rfl T.DY (aa (d_v 1) aj)))
  (aq (jV aaw rfl (i_S (d_v 1)) (g_n 5 iQ.nd)
  (aq (s_a 6 iQ.nd (bu (HZ T) (Br.hm hr) rfl T.NU T.JF.kp T.FJ (aa (d_v 4) (aa (d_v 5) aj))))
  (aL (j9 (t_w (w_or (uW hr (bK (d_v 5) d_i) (bK (d_v 5) d_i)) (Cf (uX (zy 3 (Y6 T) (Br.hm hr) T.YQ.kp T.Vn (@aa _ _ _ _ _ (d_v 0) (@aa _ _ _ _ _ (d_v 6) (@aa _ _ _ _ _ (bK (d_v 5) d_i) (@aa _ _ _ _ _ (bK (d_v 5) d_i) (@aa _ _ _ _ _ (d_v 2) aj rfl) rfl) rfl) rfl) rfl)))))) (aL (s_a 4 iQ.nd (d_v 6))) iC))))
  (aL (s_r (d_v 4)))))
theorem H_ :
  bI P' w K mg base CX0 1 A0 sF ["k"] (spD vf):=
 okQ T.JG VG fun _ _ _ _ _ _ hr=>(aL (s_r (Mq ["k"] ["time"] (c_n 1 Rh rfl rfl) (BL rfl T.gA (aa (d_v 0) aj)) (fun _ _ _ _ _=>cN) (fun _ _ _ _ _=>(cU aj)))))
theorem VY :
  bI P' w K mg base CX0 4 bF sG ["n","kept","a","b","k"] (spD Jj):=
 okQ T.SO VH fun _ _ _ _ _ _ hr=>(aL (s_r (bK (bu (Ow T) (Br.hm hr) rfl T.Vk T.Q_.kp T.NW (@aa _ _ _ _ _ (d_v 0) (@aa _ _ _ _ _ (d_v 1) (@aa _ _ _ _ _ (d_v 2) (@aa _ _ _ _ _ (d_v 3) (@aa _ _ _ _ _ (d_v 4) aj rfl) rfl) rfl) rfl) rfl)) d_i)))
theorem FU :
  bI P' w K mg base CX0 5 d8 dg ["n","record","kept","k","ways_of"] (spD (rS ai az ah av aG aA ay ak aI au aB bZ bD bE bF)):=
 okQ T.ny yt fun _ _ _ _ _ _ hr=>(aq (Cj 5 1 ["n","record","kept","k","ways_of","gone"] ["tie"] yt.nd (c_n 6 D3 rfl rfl) (d_v 1) (fun _ _ _ _ _=>jC (EB hr (d_v 6) (d_v 2))) (fun _ _ _ _ _=>(d_v 6)))
  (aL (s_r (iI 5 ["n","record","kept","k","ways_of","gone"] ["tie"] (c_n 6 D4 rfl rfl) (d_v 5) (fun _ _ _ _ _=>cN) (fun _ _ _ _ _=>(Xd (uW hr (bK (d_v 6) d_i) (bK (d_v 6) d_i)) (bu (H_ T) (Br.hm hr) rfl T.NV T.JG.kp T.FL (aa (d_v 3) aj)) (zy 4 (VY T) (Br.hm hr) T.SO.kp T.N4 (@aa _ _ _ _ _ (d_v 0) (@aa _ _ _ _ _ (d_v 2) (@aa _ _ _ _ _ (bK (d_v 6) d_i) (@aa _ _ _ _ _ (bK (d_v 6) d_i) (@aa _ _ _ _ _ (d_v 3) aj rfl) rfl) rfl) rfl) rfl))))))))
theorem VZ :
  bI P' w K mg base CX0 4 A1 sH ["n","kept","tie","k"] (spD Aq):=
 okQ T.SQ VI fun _ _ _ _ _ _ hr=>(aL (s_r (bK (bu (Ow T) (Br.hm hr) rfl T.Vk T.Q_.kp T.NW (@aa _ _ _ _ _ (d_v 0) (@aa _ _ _ _ _ (bu (HZ T) (Br.hm hr) rfl T.NU T.JF.kp T.FJ (aa (d_v 1) (aa (d_v 2) aj))) (@aa _ _ _ _ _ (bK (d_v 2) d_i) (@aa _ _ _ _ _ (bK (d_v 2) d_i) (@aa _ _ _ _ _ (d_v 3) aj rfl) rfl) rfl) rfl) rfl)) d_i)))
theorem OB :
  bI P' w K mg base CX0 6 lJ j4 ["n","record","k"] (spD (qF ai az ah av aG aA ay ak aI au aB bZ bD bE bF)):=
 okQ T.zD vV fun _ _ _ _ _ _ hr=>(aq (s_e (bu (HY T) (Br.hm hr) rfl T.CL T.yo.kp T.yp (aa (d_v 2) aj)))
  (aq (s_a 3 vV.nd (bu (D7 T) (Br.hm hr) rfl T.ym T.lK.kp T.lM (aa (d_v 0) (aa (d_v 1) (aa (d_v 2) (aa (Qg rfl T.ZY) aj))))))
  (aq (Cj 4 3 ["n","record","k","kept","sides"] ["tie"] vV.nd (c_n 5 K1 rfl rfl) (d_v 3) (fun _ _ _ _ _=>cN) (fun _ _ _ _ _=>(bu (VZ T) (Br.hm hr) rfl T.YC T.SQ.kp T.N5 (aa (d_v 0) (aa (d_v 3) (aa (d_v 5) (aa (d_v 2) aj)))))))
  (aL (s_r (iB (aa (iI 3 ["n","record","k","kept","sides"] ["tie"] (c_n 5 K2 rfl rfl) (d_v 3) (fun _ _ _ _ _=>cN) (fun _ _ _ _ _=>(bK (d_v 5) d_i))) (aa (bu (FU T) (Br.hm hr) rfl T.Bw T.ny.kp T.nB (@aa _ _ _ _ _ (d_v 0) (@aa _ _ _ _ _ (d_v 1) (@aa _ _ _ _ _ (d_v 3) (@aa _ _ _ _ _ (d_v 2) (@aa _ _ _ _ _ (Qg rfl T.YA) aj rfl) rfl) rfl) rfl) rfl)) (aa (d_v 4) aj)))))))))
theorem t8 :
  bI P' w K mg base (CXE P' w ah) 6 lJ j4 ["n","record","k"] (spX ah (iM ai az ah av aG aA ay ak aI au aB bZ bD bE bF)):=by
 exact okY (n:=3) (m:=2) T.zD vV rfl rfl (fun cdv A outer s H E hr=>(qW (y_x (wB (x_call (cA T) (Br.hm hr) rfl T.CL T.yo.kp T.yp ME (aa (d_v 2) aj))))))
theorem V0 :
  bI P' w K mg base CX0 3 A2 sI ["kept","tie","k","ways"] (spD Sh):=
 okQ T.SR VJ fun _ _ _ _ _ _ hr=>(aq (j9 (uW hr (bK (d_v 1) d_i) (bK (d_v 1) d_i)) (aL (s_r (Kq hr (d_v 3) (bu (H_ T) (Br.hm hr) rfl T.NV T.JG.kp T.FL (aa (d_v 2) aj))))) iC)
  (aL (s_r (qV (Kq hr (kY rfl T.kC (aa (d_v 3) aj)) (d_v 2)) (xW (bu (VX T) (Br.hm hr) rfl T.Yz T.SN.kp T.N6 (aa (d_v 0) (aa (bK (d_v 1) d_i) (aa (bK (d_v 1) d_i) (aa (d_v 3) aj))))))))))
theorem V1 :
  bI P' w K mg base CX0 5 A3 sJ ["n","kept","tie","k","side"] (spD Si):=
 okQ T.SS Ou fun _ _ _ _ _ _ hr=>(aq (j9 (z0 (uX (bu (VS T) (Br.hm hr) rfl T.Yv T.SI.kp T.N7 (aa (d_v 0) (aa (d_v 4) aj))))) (aL (s_r d_b)) iC)
  (aq (s_a 5 Ou.nd (bu (VU T) (Br.hm hr) rfl T.Yx T.SK.kp T.N8 (aa (d_v 1) (aa (d_v 4) aj))))
  (aL (s_r (qV (LF hr (bK (d_v 2) d_i) (d_v 5)) (xW (Zu (kY rfl T.kC (aa (d_v 5) aj)) (d_v 3))))))))
theorem V2 :
  bI P' w K mg base CX0 6 yi pq ["n","record","k","told"] (spD Cv):=
 okQ T.JH D5 fun _ _ _ _ _ _ hr=>(aq (s_e (bu (HY T) (Br.hm hr) rfl T.CL T.yo.kp T.yp (aa (d_v 2) aj)))
  (aq (s_a 4 D5.nd (iI 1 ["n","record","k","told","kept","gone"] ["tie"] (c_n 6 Ri rfl rfl) (d_v 1) (fun _ _ _ _ _=>jC (Up hr (bK (d_v 6) d_i) (bK (d_v 3) d_i))) (fun _ _ _ _ _=>(d_v 6))))
  (aq (j9 (t_w (w_or (z0 (uX (bu (OA T) (Br.hm hr) rfl T.Sy T.N1.kp T.JD (aa (bK (d_v 3) d_i) aj)))) (Cf (BK hr (kY rfl T.kC (aa (d_v 4) aj)) (kY rfl T.kC (aa (bK (d_v 3) d_i) aj)))))) (aL (s_r d_b)) iC)
  (aq (Cj 5 1 ["n","record","k","told","kept","gone"] ["tie"] D5.nd (c_n 6 Rj rfl rfl) (d_v 1) (fun _ _ _ _ _=>jC (EB hr (d_v 6) (d_v 4))) (fun _ _ _ _ _=>(d_v 6)))
  (aq (j9 (t_w (w_or (BK hr (kY rfl T.kC (aa (bK (d_v 3) d_i) aj)) (kY rfl T.kC (aa (d_v 5) aj))) (Cf (BK hr (kY rfl T.kC (aa (bK (d_v 3) d_i) aj)) (kY rfl T.kC (aa (d_v 4) aj)))))) (aL (s_r d_b)) iC)
  (aq (j9 (z0 (uX (EC rfl rfl T.Fz (aa (Mq ["n","record","k","told","kept","gone"] ["tie","ways"] (c_t rfl (fun _ _ _ _ _=>(bS 6 JM (bS 7 JM lR)))) (RT rfl T.Su (aa (d_v 5) (aa (bK (d_v 3) d_i) aj))) (fun _ _ _ _ _=>cN) (fun _ _ _ _ _=>(bu (V0 T) (Br.hm hr) rfl T.YD T.SR.kp T.N9 (aa (d_v 4) (aa (d_v 6) (aa (d_v 2) (aa (d_v 7) aj))))))) aj)))) (aL (s_r d_b)) iC)
  (aL (s_r (EC rfl rfl T.Fz (aa (Mq ["n","record","k","told","kept","gone"] ["tie","side"] (c_t rfl (fun _ _ _ _ _=>(bS 6 JN (bS 7 JN lR)))) (RT rfl T.Su (aa (d_v 4) (aa (bK (d_v 3) d_i) aj))) (fun _ _ _ _ _=>cN) (fun _ _ _ _ _=>(bu (V1 T) (Br.hm hr) rfl T.YE T.SS.kp T.N_ (@aa _ _ _ _ _ (d_v 0) (@aa _ _ _ _ _ (d_v 4) (@aa _ _ _ _ _ (d_v 6) (@aa _ _ _ _ _ (d_v 2) (@aa _ _ _ _ _ (d_v 7) aj rfl) rfl) rfl) rfl) rfl)))) aj))))))))))
theorem l6 :
  bI P' w K mg base (CXE P' w ah) 6 yi pq ["n","record","k","told"] (spX ah cV):=by
 exact okY (n:=4) (m:=2) T.JH D5 rfl rfl (fun cdv A outer s H E hr=>(qW (y_x (wB (x_call (cA T) (Br.hm hr) rfl T.CL T.yo.kp T.yp ME (aa (d_v 2) aj))))))
theorem V3 :
  bI P' w K mg base CX0 1 A4 sL ["n","ties"] (spD Jk):=
 okQ T.SV By fun _ _ _ _ _ _ hr=>(aq (s_a 2 By.nd R3)
  (aq (jV aaw rfl (i_S (d_v 1)) (g_t rfl (bS 3 By.nd (bS 4 By.nd (bS 5 By.nd lR))))
  (aL (j9 (BK hr (d_v 4) (d_v 5)) (aq (Dq 2 hr (iB (aa (c_ (d_v 0) (d_v 4)) (aa (d_v 5) aj))) (d_v 3))
  (aL (Dq 2 hr (iB (aa (c_ (d_v 0) (d_v 5)) (aa (d_v 4) aj))) (d_v 3)))) iC)))
  (aL (s_r (d_v 2)))))
theorem V4 :
  bI P' w K mg base CX0 1 A5 sM ["n","moments"] (spD Jl):=
 okQ T.SW D6 fun _ _ _ _ _ _ hr=>(Qy 2 ["n","moments","steps","through","step"] ["door"] D6.nd (c_n 5 Rk rfl rfl) (BL rfl T.gA (aa (qU d_i (d_v 0)) aj)) (ZN 3 ["n","moments","steps","through","step"] ["place"] D6.nd (c_n 5 Rl rfl rfl) (BL rfl T.gA (aa (d_v 0) aj)) (fun _ _ _ _ _=>cN) (fun _ _ _ _ _=>(iB (aa (d_v 5) (aa (c_ (d_v 0) (d_v 5)) aj))))) (I0 aaw rfl (i_S (c_ (Qo rfl rfl T.DY (aa (d_v 1) aj)) (d_v 3))) (g_n 4 D6.nd)
  (Ae (EO (bK (d_v 4) d_i) (iB (aa (d_v 4) (aa (bK (d_v 4) d_i) aj))))))
  (aL (s_r (d_v 2))))
theorem OC :
  bI P' w K mg base CX0 1 A6 sN ["steps","heads"] (spD Cw):=
 okQ T.Oa xQ fun _ _ _ _ _ _ hr=>(MM 2 ["steps","heads","free","door","%4","step","onward"] ["row"] xQ.nd (c_n 7 Rm rfl rfl) (i_S (d_v 0)) (I0 aaw rfl (Zz rfl T.FA (d_v 0)) (g_t rfl (bS 3 xQ.nd (bS 4 xQ.nd lR)))
  (Ae (I0 aaw rfl (i_S (d_v 4)) (g_t rfl (bS 5 xQ.nd (bS 6 xQ.nd lR)))
  (Ae (XG (Hl hr (d_v 5) (d_v 1)) (Ae (EO (d_v 6) (iB (aa (d_v 5) (aa (d_v 3) aj))))) (Ae (EO (d_v 3) (iB (aa (d_v 5) (aa (d_v 6) aj))))))))))
  (aL (s_r (d_v 2))))
theorem V5 :
  bI P' w K mg base CX0 1 A7 sO ["n","way","reached"] (spD E1):=
 okQ T.SX VL fun _ _ _ _ _ _ hr=>(aL (s_r (bK (iI 1 ["n","way","reached"] ["step"] (c_n 3 Rn rfl rfl) (d_v 1) (fun _ _ _ _ _=>jC (t_w (w_and (PJ (bK (d_v 3) d_i) (d_v 0)) (wo (GY hr (bK (d_v 3) d_i) (d_v 2)))))) (fun _ _ _ _ _=>(bK (d_v 3) d_i))) d_i)))
theorem V6 :
  bI P' w K mg base CX0 3 A8 sP ["n","ties","a","b","most"] (spD E2):=
 okQ T.SY l0 fun _ _ _ _ _ _ hr=>(aq (s_a 5 l0.nd (bu (V3 T) (Br.hm hr) rfl T.YF T.SV.kp T.Ob (aa (d_v 0) (aa (d_v 1) aj))))
  (aq (s_a 6 l0.nd (oY (V4 T) (Br.hm hr) rfl T.YG T.SW.kp T.Oc (aa (d_v 0) (aa (d_v 5) aj))))
  (aq (s_a 7 l0.nd R3)
  (aq (s_a 8 l0.nd (bu (FQ T) (Br.hm hr) rfl T.NR T.K0.kp T.HV (aa (oY (OC T) (Br.hm hr) rfl T.SA T.Oa.kp T.JI (aa (d_v 6) (aa (d_v 7) aj))) (aa (c_ (d_v 0) (d_v 2)) aj))))
  (aq (s_a 9 l0.nd d_i)
  (aq (Uq 100 aaw (t_w (w_and (PJ (d_v 9) (d_v 4)) (wo (IT hr (d_v 3) (d_v 8)))))
  (aq (s_e (dh (Y4 T) (Br.hm hr) rfl T.Yr T.Q5.kp T.Q8 (aa (d_v 7) (aa (GX hr (d_v 8) (d_v 3)) aj))))
  (aq (s_a 9 l0.nd (c_ (d_v 9) d_i))
  (aL (s_a 8 l0.nd (bu (FQ T) (Br.hm hr) rfl T.NR T.K0.kp T.HV (aa (oY (OC T) (Br.hm hr) rfl T.SA T.Oa.kp T.JI (aa (d_v 6) (aa (d_v 7) aj))) (aa (c_ (d_v 0) (d_v 2)) aj))))))))
  (aq (s_a 10 l0.nd (oY (VP T) (Br.hm hr) rfl T.Ys T.Q7.kp T.Q9 (@aa _ _ _ _ _ (d_v 6) (@aa _ _ _ _ _ (d_v 7) (@aa _ _ _ _ _ (c_ (d_v 0) (d_v 2)) (@aa _ _ _ _ _ (d_v 3) (@aa _ _ _ _ _ (d_v 9) aj rfl) rfl) rfl) rfl) rfl)))
  (aq (Cj 11 10 ["n","ties","a","b","most","moments","steps","heads","reached","count","ways","told"] ["way"] l0.nd (c_n 12 Ro rfl rfl) (d_v 10) (fun _ _ _ _ _=>cN) (fun _ _ _ _ _=>(iI 12 ["n","ties","a","b","most","moments","steps","heads","reached","count","ways","told","way"] ["step"] (c_n 13 Rp rfl rfl) (d_v 12) (fun _ _ _ _ _=>jC (Hl hr (d_v 13) (d_v 5))) (fun _ _ _ _ _=>(XQ hr (d_v 5) (d_v 13))))))
  (aq (j9 (uW hr (d_v 9) (d_v 4)) (aL (s_r (iB (aa (d_v 11) (aa d_n aj))))) iC)
  (aL (s_r (iB (aa (d_v 11) (aa (II rfl T.DZ (aa (Qz rfl T.FD (aa (iI 10 ["n","ties","a","b","most","moments","steps","heads","reached","count","ways","told"] ["way"] (c_n 12 Rq rfl rfl) (d_v 10) (fun _ _ _ _ _=>cN) (fun _ _ _ _ _=>(u7 (V5 T) (Br.hm hr) rfl T.YH T.SX.kp T.Od (aa (d_v 0) (aa (d_v 12) (aa (d_v 8) aj)))))) aj)) aj)) aj))))))))))))))
theorem OD :
  bI P' w K mg base CX0 6 A9 sQ ["n","record","a","b","most"] (spD E3):=
 okQ T.Og BA fun _ _ _ _ _ _ hr=>(aq (s_e (bu (VT T) (Br.hm hr) rfl T.Yw T.SJ.kp T.Oe (aa (d_v 0) (aa (d_v 2) (aa (d_v 3) aj)))))
  (aq (s_a 5 BA.nd (iI 1 ["n","record","a","b","most","straight","others","ways","around"] ["tie"] (c_n 9 Rt rfl rfl) (d_v 1) (fun _ _ _ _ _=>jC (t_w (w_and (Up hr (d_v 2) (RU (d_v 9) (o_s d_i) o_n)) (wo (Up hr (d_v 3) (RU (d_v 9) (o_s d_i) o_n)))))) (fun _ _ _ _ _=>(d_v 9))))
  (aq (Cj 6 1 ["n","record","a","b","most","straight","others","ways","around"] ["tie"] BA.nd (c_n 9 Ru rfl rfl) (d_v 1) (fun _ _ _ _ _=>jC (EB hr (d_v 9) (d_v 5))) (fun _ _ _ _ _=>(d_v 9)))
  (aq (Uu 7 ["n","record","a","b","most","straight","others","ways","around"] ["tie"] BA.nd (c_n 9 Rv rfl rfl) (i_S (Zx (d_v 5) o_n (o_s (d_v 4)))) (fun _ _ _ _ _=>cN) (fun _ _ _ _ _=>(cU (aa (bK (d_v 9) d_i) aj))))
  (aq (s_a 8 BA.nd (bu (V6 T) (Br.hm hr) rfl T.YI T.SY.kp T.Of (@aa _ _ _ _ _ (d_v 0) (@aa _ _ _ _ _ (d_v 6) (@aa _ _ _ _ _ (d_v 2) (@aa _ _ _ _ _ (d_v 3) (@aa _ _ _ _ _ (zY (d_v 4) (kY rfl T.kC (aa (d_v 7) aj))) aj rfl) rfl) rfl) rfl) rfl)))
  (aq (RZ 7 (bK (d_v 8) d_i))
  (aL (s_r (iB (aa (kY rfl T.kC (aa (d_v 7) aj)) (aa (d_v 7) (aa (bK (d_v 8) d_i) aj))))))))))))
theorem V7 :
  bI P' w K mg base CX0 7 bD sS ["n","ties","a","b","times"] (spD Jm):=
 okQ T.S0 VM fun _ _ _ _ _ _ hr=>(aL (s_r (RX (bK (bu (OD T) (Br.hm hr) rfl T.SD T.Og.kp T.JJ (@aa _ _ _ _ _ (d_v 0) (@aa _ _ _ _ _ (d_v 1) (@aa _ _ _ _ _ (d_v 2) (@aa _ _ _ _ _ (d_v 3) (@aa _ _ _ _ _ (d_v 4) aj rfl) rfl) rfl) rfl) rfl)) d_i) d_n)))
theorem zp :
  bI P' w K mg base CX0 8 dc cM ["n","record","k","often"] (spD (lg ai az ah av aG aA ay ak aI au aB bZ bD bE bF)):=
 okQ T.lK dN fun _ _ _ _ _ _ hr=>(aq (s_a 4 dN.nd (GU rfl T.DY (aa (d_v 1) aj)))
  (aq (jV aaw rfl (i_S (d_v 1)) (g_n 5 dN.nd)
  (aq (s_a 6 dN.nd (bu (HZ T) (Br.hm hr) rfl T.NU T.JF.kp T.FJ (aa (d_v 4) (aa (d_v 5) aj))))
  (aL (j9 (t_w (w_or (uW hr (bK (d_v 5) d_i) (bK (d_v 5) d_i)) (Cf (uX (zy 3 (V7 T) (Br.hm hr) T.S0.kp T.Oh (@aa _ _ _ _ _ (d_v 0) (@aa _ _ _ _ _ (d_v 6) (@aa _ _ _ _ _ (bK (d_v 5) d_i) (@aa _ _ _ _ _ (bK (d_v 5) d_i) (@aa _ _ _ _ _ (d_v 2) aj rfl) rfl) rfl) rfl) rfl)))))) (aL (s_a 4 dN.nd (d_v 6))) iC))))
  (aL (s_r (d_v 4)))))
theorem V8 :
  bI P' w K mg base CX0 7 bE sU ["n","kept","a","b","k"] (spD Jo):=
 okQ T.S1 VN fun _ _ _ _ _ _ hr=>(aL (s_r (bK (bu (OD T) (Br.hm hr) rfl T.SD T.Og.kp T.JJ (@aa _ _ _ _ _ (d_v 0) (@aa _ _ _ _ _ (d_v 1) (@aa _ _ _ _ _ (d_v 2) (@aa _ _ _ _ _ (d_v 3) (@aa _ _ _ _ _ (d_v 4) aj rfl) rfl) rfl) rfl) rfl)) d_i)))
theorem BB :
  bI P' w K mg base CX0 8 d8 dg ["n","record","kept","k","ways_of"] (spD (lX ai az ah av aG aA ay ak aI au aB bZ bD bE bF)):=
 okQ T.ny pM fun _ _ _ _ _ _ hr=>(aq (Cj 5 1 ["n","record","kept","k","ways_of","gone"] ["tie"] pM.nd (c_n 6 zl rfl rfl) (d_v 1) (fun _ _ _ _ _=>jC (EB hr (d_v 6) (d_v 2))) (fun _ _ _ _ _=>(d_v 6)))
  (aL (s_r (iI 5 ["n","record","kept","k","ways_of","gone"] ["tie"] (c_n 6 zm rfl rfl) (d_v 5) (fun _ _ _ _ _=>cN) (fun _ _ _ _ _=>(Xd (uW hr (bK (d_v 6) d_i) (bK (d_v 6) d_i)) (bu (H_ T) (Br.hm hr) rfl T.NV T.JG.kp T.FL (aa (d_v 3) aj)) (zy 4 (V8 T) (Br.hm hr) T.S1.kp T.Oi (@aa _ _ _ _ _ (d_v 0) (@aa _ _ _ _ _ (d_v 2) (@aa _ _ _ _ _ (bK (d_v 6) d_i) (@aa _ _ _ _ _ (bK (d_v 6) d_i) (@aa _ _ _ _ _ (d_v 3) aj rfl) rfl) rfl) rfl) rfl))))))))
theorem BC :
  bI P' w K mg base CX0 9 cB b8 ["n","record","k"] (spD (dO ai az ah av aG aA ay ak aI au aB bZ bD bE bF)):=
 okQ T.jQ lu fun _ _ _ _ _ _ hr=>(aq (s_e (bu (HY T) (Br.hm hr) rfl T.CL T.yo.kp T.yp (aa (d_v 2) aj)))
  (aq (s_a 3 lu.nd (bu (zp T) (Br.hm hr) rfl T.ym T.lK.kp T.lM (aa (d_v 0) (aa (d_v 1) (aa (d_v 2) (aa (Qg rfl T.YJ) aj))))))
  (aL (s_r (iB (aa (iI 3 ["n","record","k","kept"] ["tie"] (c_n 4 zo rfl rfl) (d_v 3) (fun _ _ _ _ _=>cN) (fun _ _ _ _ _=>(bK (d_v 4) d_i))) (aa (bu (BB T) (Br.hm hr) rfl T.Bw T.ny.kp T.nB (@aa _ _ _ _ _ (d_v 0) (@aa _ _ _ _ _ (d_v 1) (@aa _ _ _ _ _ (d_v 3) (@aa _ _ _ _ _ (d_v 2) (@aa _ _ _ _ _ (Qg rfl T.YK) aj rfl) rfl) rfl) rfl) rfl)) aj)))))))
theorem l7 :
  bI P' w K mg base (CXE P' w ah) 9 cB b8 ["n","record","k"] (spX ah (cW ai az ah av aG aA ay ak aI au aB bZ bD bE bF)):=by
 exact okY (n:=3) (m:=1) T.jQ lu rfl rfl (fun cdv A outer s H E hr=>(qW (y_x (wB (x_call (cA T) (Br.hm hr) rfl T.CL T.yo.kp T.yp ME (aa (d_v 2) aj))))))
theorem V9 :
  bI P' w K mg base CX0 1 A_ sV ["script","k"] (spD E4):=
 okQ T.S2 VO fun _ _ _ _ _ _ hr=>(aq (j9 (PJ (d_v 1) (kY rfl T.kC (aa (d_v 0) aj))) (aL (s_r (bK (d_v 0) (d_v 1)))) iC)
  (aL (s_r d_i)))
theorem OE :
  bI P' w K mg base CX0 2 Ba sW ["script","at"] (spD Cy):=
 okQ T.Ol pN fun _ _ _ _ _ _ hr=>(aq (s_a 2 pN.nd (bu (V9 T) (Br.hm hr) rfl T.YL T.S2.kp T.Oj (aa (d_v 0) (aa (d_v 1) aj))))
  (aq (j9 (Zv (d_v 2) (IG d_i d_i)) (aL (s_r (cU (aa (d_v 2) aj)))) iC)
  (aq (s_a 3 pN.nd d_i)
  (aq (jV aaw rfl (BL rfl T.gA (aa d_i aj)) (g_n 4 pN.nd)
  (aq (s_a 5 pN.nd (zZ (qU (c_ (c_ (c_ (zZ (d_v 2) d_i) (qU (qU d_i (d_v 4)) (d_v 4))) (qU d_i (d_v 1))) d_i) d_i) d_i))
  (aq (s_a 5 pN.nd (zZ (qU (d_v 5) (d_v 5)) d_i))
  (aq (s_a 5 pN.nd (zZ (qU (c_ (d_v 5) (qU d_i (d_v 4))) d_i) d_i))
  (aL (s_a 3 pN.nd (c_ (qU (d_v 3) d_i) (zZ (RQ (d_v 5) d_i) d_i))))))))
  (aL (s_r (cU (aa (d_v 3) aj))))))))
theorem kh :
  bI P' w K mg base CX0 1 Bb sX ["pool","many"] (spM jz):=by
 refine T.m5.ok Ov (fun vs H Q E h=>u5 h) (fun cdv A outer s H vs Q E hr h=>?_);exact ⟨_,(aq (s_a 2 Ov.nd (zZ (bK (d_v 0) d_i) (d_v 1)))
  (aq (Xg 0 d_i (RQ (bK (d_v 0) d_i) (d_v 1)))
  (aL (s_r (d_v 2))))),IP (n:=2) (m:=1) rfl h⟩
theorem V_ :
  bI P' w K mg base CX0 2 Bc sY ["pool","n","most"] (spM E5):=by
 refine T.S3.ok kc (fun vs H Q E h=>u5 h) (fun cdv A outer s H vs Q E hr h=>?_);exact ⟨_,(aq (s_a 3 kc.nd (dh (kh T) (Br.hm hr) rfl T.n9 T.m5.kp T.lN (aa (d_v 0) (aa (c_ (d_v 2) d_i) aj))))
  (aq (s_a 4 kc.nd (dh (kh T) (Br.hm hr) rfl T.n9 T.m5.kp T.lN (aa (d_v 0) (aa d_i aj))))
  (aq (s_a 5 kc.nd (dh (kh T) (Br.hm hr) rfl T.n9 T.m5.kp T.lN (aa (d_v 0) (aa d_i aj))))
  (aq (s_a 6 kc.nd (cU aj))
  (aq (jV aaw rfl (BL rfl T.gA (aa (d_v 3) aj)) (g_n 7 kc.nd)
  (aq (s_a 8 kc.nd (dh (kh T) (Br.hm hr) rfl T.n9 T.m5.kp T.lN (aa (d_v 0) (aa (d_v 1) aj))))
  (aq (s_a 9 kc.nd (dh (kh T) (Br.hm hr) rfl T.n9 T.m5.kp T.lN (aa (d_v 0) (aa (d_v 1) aj))))
  (aq (j9 (t_w (w_and (Xc (d_v 4) d_i) (wo (uW hr (d_v 8) (d_v 9))))) (aL (s_a 9 kc.nd (zZ (c_ (d_v 8) d_i) (d_v 1)))) iC)
  (aq (j9 (t_w (w_and (Xc (d_v 7) d_i) (wo (uW hr (dh (kh T) (Br.hm hr) rfl T.n9 T.m5.kp T.lN (aa (d_v 0) (aa d_i aj))) d_i)))) (aq (s_a 8 kc.nd (bK (bK (d_v 6) (zY (d_v 7) d_i)) d_i))
  (aL (s_a 9 kc.nd (bK (bK (d_v 6) (zY (d_v 7) d_i)) d_i)))) iC)
  (aq (IK 6 (iB (aa (d_v 5) (aa (Mi rfl rfl T.Ss (aa (d_v 8) (aa (d_v 9) aj))) (aa (Mj rfl rfl T.Sq (aa (d_v 8) (aa (d_v 9) aj))) aj)))))
  (aL (s_a 5 kc.nd (c_ (c_ (d_v 5) d_i) (qU (dh (kh T) (Br.hm hr) rfl T.n9 T.m5.kp T.lN (aa (d_v 0) (aa (bK (cU (aa d_i (aa d_i (aa d_i aj)))) (d_v 4)) aj))) (bK (cU (aa d_i (aa d_i (aa (IG d_i d_i) aj)))) (d_v 4))))))))))))
  (aL (s_r (d_v 6)))))))),IP (n:=3) (m:=7) rfl h⟩
theorem D8 :
  bI P' w K mg base CX0 1 d9 dj ["caught","kind"] (spD (lG ai az ah av aG aA ay ak aI au aB bZ bD bE bF)):=
 okQ T.yq iR fun _ _ _ _ _ _ hr=>(aq (s_a 2 iR.nd (cU (aa (aC (aF T.bP T.pK rfl T.cE rfl T.af (d_v 0)) (aC (aF T.cg T.tU rfl T.cE rfl T.af (d_v 0)) (aC (aF T.bQ T.pI rfl T.cE rfl T.af (d_v 0)) (aC (aF T.cj T.tK rfl T.cE rfl T.af (d_v 0)) (aC (aF T.cH T.vE rfl T.cE rfl T.af (d_v 0)) (aC (aF T.ck T.tZ rfl T.cE rfl T.af (d_v 0)) (aC (aF T.cu T.tS rfl T.cE rfl T.af (d_v 0)) (aC (aF T.bW T.qR rfl T.cE rfl T.af (d_v 0)) (aC (aF T.cI T.vQ rfl T.cE rfl T.af (d_v 0)) (aC (aF T.cy T.s_ rfl T.cE rfl T.af (d_v 0)) (aC (aF T.cJ T.vt rfl T.cE rfl T.af (d_v 0)) nZ))))))))))) (aa (aC (aF T.bP T.tP rfl T.eG rfl T.af (d_v 0)) (aC (aF T.cg T.xG rfl T.eG rfl T.af (d_v 0)) (aC (aF T.bQ T.tF rfl T.eG rfl T.af (d_v 0)) (aC (aF T.cj T.xm rfl T.eG rfl T.af (d_v 0)) (aC (aF T.cH T.yT rfl T.eG rfl T.af (d_v 0)) (aC (aF T.ck T.xN rfl T.eG rfl T.af (d_v 0)) (aC (aF T.cu T.xB rfl T.eG rfl T.af (d_v 0)) (aC (aF T.bW T.vK rfl T.eG rfl T.af (d_v 0)) (aC (aF T.cI T.y_ rfl T.eG rfl T.af (d_v 0)) (aC (aF T.cy T.wY rfl T.eG rfl T.af (d_v 0)) (aC (aF T.cJ T.yL rfl T.eG rfl T.af (d_v 0)) nZ))))))))))) (aa (aC (aF T.bP T.pJ rfl T.cD rfl T.af (d_v 0)) (aC (aF T.cg T.tT rfl T.cD rfl T.af (d_v 0)) (aC (aF T.bQ T.pH rfl T.cD rfl T.af (d_v 0)) (aC (aF T.cj T.tH rfl T.cD rfl T.af (d_v 0)) (aC (aF T.cH T.vD rfl T.cD rfl T.af (d_v 0)) (aC (aF T.ck T.tW rfl T.cD rfl T.af (d_v 0)) (aC (aF T.cu T.tR rfl T.cD rfl T.af (d_v 0)) (aC (aF T.bW T.qQ rfl T.cD rfl T.af (d_v 0)) (aC (aF T.cI T.vP rfl T.cD rfl T.af (d_v 0)) (aC (aF T.cy T.sZ rfl T.cD rfl T.af (d_v 0)) (aC (aF T.cJ T.vq rfl T.cD rfl T.af (d_v 0)) nZ))))))))))) aj)))))
  (aq (s_a 2 iR.nd (c_ (d_v 2) (cU (aa (aC (aF T.bP T.tN rfl T.ez rfl T.af (d_v 0)) (aC (aF T.cg T.xE rfl T.ez rfl T.af (d_v 0)) (aC (aF T.bQ T.tw rfl T.ez rfl T.af (d_v 0)) (aC (aF T.cj T.xh rfl T.ez rfl T.af (d_v 0)) (aC (aF T.cH T.yR rfl T.ez rfl T.af (d_v 0)) (aC (aF T.ck T.xK rfl T.ez rfl T.af (d_v 0)) (aC (aF T.cu T.xy rfl T.ez rfl T.af (d_v 0)) (aC (aF T.bW T.vH rfl T.ez rfl T.af (d_v 0)) (aC (aF T.cI T.yZ rfl T.ez rfl T.af (d_v 0)) (aC (aF T.cy T.wW rfl T.ez rfl T.af (d_v 0)) (aC (aF T.cJ T.yJ rfl T.ez rfl T.af (d_v 0)) nZ))))))))))) (aa (aC (aF T.bP T.vN rfl T.iO rfl T.af (d_v 0)) (aC (aF T.cg T.zf rfl T.iO rfl T.af (d_v 0)) (aC (aF T.bQ T.vA rfl T.iO rfl T.af (d_v 0)) (aC (aF T.cj T.yW rfl T.iO rfl T.af (d_v 0)) (aC (aF T.cH T.Bq rfl T.iO rfl T.af (d_v 0)) (aC (aF T.ck T.zj rfl T.iO rfl T.af (d_v 0)) (aC (aF T.cu T.zc rfl T.iO rfl T.af (d_v 0)) (aC (aF T.bW T.xr rfl T.iO rfl T.af (d_v 0)) (aC (aF T.cI T.Bu rfl T.iO rfl T.af (d_v 0)) (aC (aF T.cy T.yO rfl T.iO rfl T.af (d_v 0)) (aC (aF T.cJ T.Bm rfl T.iO rfl T.af (d_v 0)) nZ))))))))))) (aa (aC (aF T.bP T.tQ rfl T.eN rfl T.af (d_v 0)) (aC (aF T.cg T.xH rfl T.eN rfl T.af (d_v 0)) (aC (aF T.bQ T.tG rfl T.eN rfl T.af (d_v 0)) (aC (aF T.cj T.xo rfl T.eN rfl T.af (d_v 0)) (aC (aF T.cH T.yU rfl T.eN rfl T.af (d_v 0)) (aC (aF T.ck T.xO rfl T.eN rfl T.af (d_v 0)) (aC (aF T.cu T.xC rfl T.eN rfl T.af (d_v 0)) (aC (aF T.bW T.vL rfl T.eN rfl T.af (d_v 0)) (aC (aF T.cI T.za rfl T.eN rfl T.af (d_v 0)) (aC (aF T.cy T.wZ rfl T.eN rfl T.af (d_v 0)) (aC (aF T.cJ T.yM rfl T.eN rfl T.af (d_v 0)) nZ))))))))))) aj))))))
  (aq (s_a 2 iR.nd (c_ (d_v 2) (cU (aa (aC (aF T.bP T.tO rfl T.eE rfl T.af (d_v 0)) (aC (aF T.cg T.xF rfl T.eE rfl T.af (d_v 0)) (aC (aF T.bQ T.tE rfl T.eE rfl T.af (d_v 0)) (aC (aF T.cj T.xj rfl T.eE rfl T.af (d_v 0)) (aC (aF T.cH T.yS rfl T.eE rfl T.af (d_v 0)) (aC (aF T.ck T.xM rfl T.eE rfl T.af (d_v 0)) (aC (aF T.cu T.xA rfl T.eE rfl T.af (d_v 0)) (aC (aF T.bW T.vJ rfl T.eE rfl T.af (d_v 0)) (aC (aF T.cI T.y9 rfl T.eE rfl T.af (d_v 0)) (aC (aF T.cy T.wX rfl T.eE rfl T.af (d_v 0)) (aC (aF T.cJ T.yK rfl T.eE rfl T.af (d_v 0)) nZ))))))))))) (aa (aC (aF T.bP T.qS rfl T.cX rfl T.af (d_v 0)) (aC (aF T.cg T.vS rfl T.cX rfl T.af (d_v 0)) (aC (aF T.bQ T.qP rfl T.cX rfl T.af (d_v 0)) (aC (aF T.cj T.vF rfl T.cX rfl T.af (d_v 0)) (aC (aF T.cH T.w_ rfl T.cX rfl T.af (d_v 0)) (aC (aF T.ck T.vU rfl T.cX rfl T.af (d_v 0)) (aC (aF T.cu T.vR rfl T.cX rfl T.af (d_v 0)) (aC (aF T.bW T.tL rfl T.cX rfl T.af (d_v 0)) (aC (aF T.cI T.xw rfl T.cX rfl T.af (d_v 0)) (aC (aF T.cy T.vv rfl T.cX rfl T.af (d_v 0)) (aC (aF T.cJ T.wU rfl T.cX rfl T.af (d_v 0)) nZ))))))))))) (aa (aC (aF T.bP T.vO rfl T.iP rfl T.af (d_v 0)) (aC (aF T.cg T.zg rfl T.iP rfl T.af (d_v 0)) (aC (aF T.bQ T.vC rfl T.iP rfl T.af (d_v 0)) (aC (aF T.cj T.yX rfl T.iP rfl T.af (d_v 0)) (aC (aF T.cH T.Bs rfl T.iP rfl T.af (d_v 0)) (aC (aF T.ck T.zk rfl T.iP rfl T.af (d_v 0)) (aC (aF T.cu T.zd rfl T.iP rfl T.af (d_v 0)) (aC (aF T.bW T.xu rfl T.iP rfl T.af (d_v 0)) (aC (aF T.cI T.Bv rfl T.iP rfl T.af (d_v 0)) (aC (aF T.cy T.yP rfl T.iP rfl T.af (d_v 0)) (aC (aF T.cJ T.Bo rfl T.iP rfl T.af (d_v 0)) nZ))))))))))) aj))))))
  (aq (s_a 2 iR.nd (c_ (d_v 2) (cU (aa (aC (aF T.bP T.tM rfl T.ee rfl T.af (d_v 0)) (aC (aF T.cg T.xD rfl T.ee rfl T.af (d_v 0)) (aC (aF T.bQ T.tu rfl T.ee rfl T.af (d_v 0)) (aC (aF T.cj T.xg rfl T.ee rfl T.af (d_v 0)) (aC (aF T.cH T.yQ rfl T.ee rfl T.af (d_v 0)) (aC (aF T.ck T.xJ rfl T.ee rfl T.af (d_v 0)) (aC (aF T.cu T.xx rfl T.ee rfl T.af (d_v 0)) (aC (aF T.bW T.vG rfl T.ee rfl T.af (d_v 0)) (aC (aF T.cI T.yY rfl T.ee rfl T.af (d_v 0)) (aC (aF T.cy T.wV rfl T.ee rfl T.af (d_v 0)) (aC (aF T.cJ T.yI rfl T.ee rfl T.af (d_v 0)) nZ))))))))))) (aa (aC (aF T.bP T.vM rfl T.iN rfl T.af (d_v 0)) (aC (aF T.cg T.ze rfl T.iN rfl T.af (d_v 0)) (aC (aF T.bQ T.vz rfl T.iN rfl T.af (d_v 0)) (aC (aF T.cj T.yV rfl T.iN rfl T.af (d_v 0)) (aC (aF T.cH T.Bp rfl T.iN rfl T.af (d_v 0)) (aC (aF T.ck T.zh rfl T.iN rfl T.af (d_v 0)) (aC (aF T.cu T.zb rfl T.iN rfl T.af (d_v 0)) (aC (aF T.bW T.xq rfl T.iN rfl T.af (d_v 0)) (aC (aF T.cI T.Bt rfl T.iN rfl T.af (d_v 0)) (aC (aF T.cy T.yN rfl T.iN rfl T.af (d_v 0)) (aC (aF T.cJ T.Bl rfl T.iN rfl T.af (d_v 0)) nZ))))))))))) aj)))))
  (aL (s_r (qV (Kq hr (d_v 2) (Mq ["caught","kind","marks"] ["k"] (c_n 3 B3 rfl rfl) (BL rfl T.gA (aa d_i aj)) (fun _ _ _ _ _=>cN) (fun _ _ _ _ _=>(Kq hr (d_v 3) (d_v 1))))) (xW (aC (k8 T.bP T.nv rfl rfl T.bV rfl T.af (d_v 0)) (aC (k8 T.cg T.pD rfl rfl T.bV rfl T.af (d_v 0)) (aC (k8 T.bQ T.nu rfl rfl T.bV rfl T.af (d_v 0)) (aC (k8 T.cj T.pB rfl rfl T.bV rfl T.af (d_v 0)) (aC (k8 T.cH T.qN rfl rfl T.bV rfl T.af (d_v 0)) (aC (k8 T.ck T.pF rfl rfl T.bV rfl T.af (d_v 0)) (aC (k8 T.cu T.pC rfl rfl T.bV rfl T.af (d_v 0)) (aC (k8 T.bW T.oj rfl rfl T.bV rfl T.af (d_v 0)) (aC (k8 T.cI T.qO rfl rfl T.bV rfl T.af (d_v 0)) (aC (k8 T.cy T.pA rfl rfl T.bV rfl T.af (d_v 0)) (aC (k8 T.cJ T.qM rfl rfl T.bV rfl T.af (d_v 0)) nZ)))))))))))))))))))
theorem yu :
  bI P' w K mg base CX0 10 gD d_ ["which","n","record","k"] (spD (d7 ai az ah av aG aA ay ak aI au aB bZ bD bE bF)):=
 okQ T.t7 lO fun _ _ _ _ _ _ hr=>(aq (s_a 4 lO.nd d_n)
  (aq (ZL (UP (fun pn xe=>(aL (j9 (uW hr (d_v 0) d_i) (aL (s_e (bu (OB T) (Br.hm hr) rfl T.JA T.zD.kp T.zE (aa (d_v 1) (aa (d_v 2) (aa (d_v 3) aj)))))) (aL (j9 (uW hr (d_v 0) d_i) (aL (s_e (bu (V2 T) (Br.hm hr) rfl T.Sz T.JH.kp T.JK (aa (d_v 1) (aa (d_v 2) (aa (d_v 3) (aa (iB (aa (cU aj) (aa (cU aj) (aa (cU aj) aj)))) aj))))))) (aL (s_e (bu (BC T) (Br.hm hr) rfl T.rq T.jQ.kp T.jR (aa (d_v 1) (aa (d_v 2) (aa (d_v 3) aj)))))))))))) (UQ (ie:=5) rfl rfl rfl lO.nd rfl rfl rfl T.HU T.pG (fun pn xe E hp=>(qW (UO (uW hr (d_v 0) d_i) (qW (y_x (wB (x_call (t8 T) (Br.hm hr) rfl T.JA T.zD.kp T.zE hp (aa (d_v 1) (aa (d_v 2) (aa (d_v 3) aj))))))) (qW (UO (uW hr (d_v 0) d_i) (qW (y_x (wB (x_call (l6 T) (Br.hm hr) rfl T.Sz T.JH.kp T.JK hp (aa (d_v 1) (aa (d_v 2) (aa (d_v 3) (aa (iB (aa (cU aj) (aa (cU aj) (aa (cU aj) aj)))) aj)))))))) (qW (y_x (wB (x_call (l7 T) (Br.hm hr) rfl T.rq T.jQ.kp T.jR hp (aa (d_v 1) (aa (d_v 2) (aa (d_v 3) aj)))))))))))) (fun A' xe=>(aL (s_a 4 lO.nd (d_v 5))))))
  (aL (s_r (d_v 4)))))
theorem Wa :
  bI P' w K mg base CX0 11 Bd wR ["script"] (spD (Ar ai az ah av aG aA ay ak aI au aB bZ bD bE bF)):=
 okQ T.YR kg fun _ _ _ _ _ _ hr=>(aq (s_a 1 kg.nd (bu (OE T) (Br.hm hr) rfl T.SE T.Ol.kp T.JL (aa (d_v 0) (aa d_i aj))))
  (aq (s_a 2 kg.nd (c_ d_i (dh (kh T) (Br.hm hr) rfl T.n9 T.m5.kp T.lN (aa (d_v 1) (aa d_i aj)))))
  (aq (jV aaw rfl (Xf rfl T.gA (aa d_i (aa (Mj rfl rfl T.Sq (aa d_i (aa (Mi rfl rfl T.Ss (aa d_i (aa (kY rfl T.kC (aa (d_v 0) aj)) aj))) aj))) aj))) (g_n 3 kg.nd)
  (aq (s_a 1 kg.nd (bu (OE T) (Br.hm hr) rfl T.SE T.Ol.kp T.JL (aa (d_v 0) (aa (d_v 3) aj))))
  (aq (s_a 4 kg.nd (dh (V_ T) (Br.hm hr) rfl T.YM T.S3.kp T.Om (aa (d_v 1) (aa (d_v 2) (aa d_i aj)))))
  (aq (s_a 5 kg.nd (c_ d_i (dh (kh T) (Br.hm hr) rfl T.n9 T.m5.kp T.lN (aa (d_v 1) (aa d_i aj)))))
  (@aq _ _ _ _ _ (@s_a _ _ _ _ 6 _ _ kg.nd (@cU _ _ _ _ (@aa _ _ _ _ _ d_i (@aa _ _ _ _ _ d_i (@aa _ _ _ _ _ (zY (Xa d_i) (dh (kh T) (Br.hm hr) rfl T.n9 T.m5.kp T.lN (aa (d_v 1) (aa (IG d_i d_i) aj)))) (@aa _ _ _ _ _ (c_ d_i (dh (kh T) (Br.hm hr) rfl T.n9 T.m5.kp T.lN (aa (d_v 1) (aa (IG d_i d_i) aj)))) (@aa _ _ _ _ _ d_b (@aa _ _ _ _ _ d_b (@aa _ _ _ _ _ d_n (@aa _ _ _ _ _ d_s (@aa _ _ _ _ _ d_s aj rfl) rfl) rfl) rfl) rfl) rfl) rfl) rfl) rfl)) rfl (by trivial) rfl (by trivial))
  (@aq _ _ _ _ _ (@s_a _ _ _ _ 6 _ _ kg.nd (@c_ _ _ _ _ _ _ (d_v 6) (@cU _ _ _ _ (@aa _ _ _ _ _ (cU (aa (d_v 5) aj)) (@aa _ _ _ _ _ (iB (aa (d_v 5) aj)) (@aa _ _ _ _ _ (iB (aa (d_v 5) (aa d_i aj))) (@aa _ _ _ _ _ (cU aj) (@aa _ _ _ _ _ PY aj rfl) rfl) rfl) rfl) rfl))) rfl (by trivial) rfl (by trivial))
  (aq (s_a 7 kg.nd (bK (d_v 6) (dh (kh T) (Br.hm hr) rfl T.n9 T.m5.kp T.lN (aa (d_v 1) (aa (kY rfl T.kC (aa (d_v 6) aj)) aj)))))
  (aq (s_a 8 kg.nd (GU rfl T.DY (aa (d_v 4) aj)))
  (aq (jV aaw rfl (BL rfl T.gA (aa d_i aj)) (g_n 9 kg.nd)
  (aL (j9 (t_w (w_or (z0 (uX (bu (D8 T) (Br.hm hr) rfl T.FF T.yq.kp T.pL (aa (bu (yu T) (Br.hm hr) rfl T.Bx T.t7.kp T.nC (aa (d_v 9) (aa (d_v 2) (aa (d_v 8) (aa (d_v 7) aj))))) (aa d_i aj))))) (Cf (UG (bu (yu T) (Br.hm hr) rfl T.Bx T.t7.kp T.nC (aa (d_v 9) (aa (d_v 2) (aa (d_v 8) (aa (d_v 5) aj))))) d_n)))) (aL (s_r d_b)) iC)))
  (aL (j9 (BK hr (d_v 8) (d_v 4)) (aL (s_r d_b)) iC)))))))))))
  (aL (s_r d_b)))))
end
theorem all_mk{l:acP}{w:World}{K:Dk}{h:Heap}{mg:Str->Option Value}{fa HP HQ Fw HR Fx Fy HS bZ AL AM AO AQ AR AS AU yh AV AW AX AY AZ dc A0 bF d8 A1 lJ A2 A3 yi A4 A5 A6 A7 A8 A9 bD bE cB A_ Ba Bb Bc d9 gD Bd aB au ah aG av ak ai aI ay az bO aA gx:Addr}{Be Bf yj Bg yk yl Bj Bk rY rZ r8 r9 r_ sj sq pe sr su sy sC sD cM sF sG dg sH j4 sI sJ pq sL sM sN sO sP sQ sS sU b8 sV sW sX sY dj d_ wR:FuncData}(X:K.In h)(G:h.Ns mainGlobals mg)(hfa:mg "law" = some (.ref fa))
  {K3 K4:Option Addr} {K5:Array (Option Value)} {K6 K7 K8 K9 CN K_:Value}
  (OG:b_ K "steps_of" (top 3) HP Be)
  (OH:b_ K "free_steps" (top 4) HQ Bf)
  (OI:b_ K "led_steps" (top 5) Fw yj)
  (OJ:b_ K "shortest_ways" (top 6) HR Bg)
  (OL:b_ K "lead_along" (top 7) Fx yk)
  (OM:b_ K "parted" (top 8) Fy yl)
  (ON:b_ K "ways_apart" (top 1) HS Bj)
  (OO:b_ K "hang_often" (top 2) bZ Bk)
  (FW:b_ K "is_whole" (top 23) AL rY)
  (FY:b_ K "is_within" (top 24) AM rZ)
  (FZ:b_ K "is_place" (top 25) AO r8)
  (F2:b_ K "is_layers" (top 26) AQ r9)
  (F3:b_ K "is_rising" (top 27) AR r_)
  (F4:b_ K "is_pair" (top 28) AS sj)
  (F5:b_ K "is_side" (top 29) AU sq)
  (F6:b_ K "look_at_layers" (top 30) yh pe)
  (F7:b_ K "look_at_pair" (top 31) AV sr)
  (F8:b_ K "rim" (top 33) AW su)
  (F9:b_ K "way_right" (top 34) AX sy)
  (F_:b_ K "ways_right" (top 35) AY sC)
  (Ga:b_ K "without" (top 39) AZ sD)
  (j5:b_ K "kept_ties" (top 38) dc cM)
  (Gb:b_ K "no_ways" (top 41) A0 sF)
  (Gd:b_ K "ways_by_ties" (top 42) bF sG)
  (ly:b_ K "ways_out" (top 40) d8 dg)
  (Ge:b_ K "side_for" (top 43) A1 sH)
  (vW:b_ K "pared" (top 37) lJ j4)
  (Gf:b_ K "out_right" (top 45) A2 sI)
  (Gg:b_ K "kept_right" (top 46) A3 sJ)
  (Gh:b_ K "pared_right" (top 44) yi pq)
  (Gi:b_ K "moments_of_steps" (top 51) A4 sL)
  (Gj:b_ K "steps_through_doors" (top 52) A5 sM)
  (Gk:b_ K "free_doors" (top 53) A6 sN)
  (Gm:b_ K "first_shut" (top 54) A7 sO)
  (Gn:b_ K "ways_around" (top 50) A8 sP)
  (Gp:b_ K "place_hang" (top 48) A9 sQ)
  (Gq:b_ K "hang_often_by_places" (top 49) bD sS)
  (Gr:b_ K "place_ways" (top 57) bE sU)
  (gy:b_ K "place_pared" (top 56) cB b8)
  (Gs:b_ K "_law_cell_at" (top 59) A_ sV)
  (Gu:b_ K "_law_pool" (top 60) Ba sW)
  (Gv:b_ K "_law_take" (top 61) Bb sX)
  (Gw:b_ K "_law_record" (top 62) Bc sY)
  (j6:b_ K "_law_alone" (top 63) d9 dj)
  (lz:b_ K "_law_told" (top 64) gD d_)
  (CO:b_ K "law" (top 65) Bd wR)
  (nE:aar K mainGlobals "ValueError" = some none)
  (OP:aar K mainGlobals "all" = some none)
  (Ia:aar K mainGlobals "bool" = some none)
  (Ib:aar K mainGlobals "dict" = some none)
  (pO:aar K mainGlobals "enumerate" = some none)
  (OQ:aar K mainGlobals "int" = some none)
  (nF:aar K mainGlobals "isinstance" = some none)
  (OR:aar K mainGlobals "len" = some none)
  (Ic:aar K mainGlobals "list" = some none)
  (OS:aar K mainGlobals "max" = some none)
  (OT:aar K mainGlobals "min" = some none)
  (D9:aar K mainGlobals "range" = some none)
  (OU:aar K mainGlobals "set" = some none)
  (BE:aar K mainGlobals "sorted" = some none)
  (OV:aar K mainGlobals "sum" = some none)
  (D_:aar K mainGlobals "tuple" = some none)
  (OW:aar K mainGlobals "zip" = some none)
  (zF:aar K mainGlobals "Clash" = some (some (.ref aB)))
  (vX:aar K mainGlobals "NoDeed" = some (some (.ref au)))
  (nG:aar K mainGlobals "NoLayers" = some (some (.ref ah)))
  (zG:aar K mainGlobals "NoNet" = some (some (.ref aG)))
  (vY:aar K mainGlobals "NoPair" = some (some (.ref av)))
  (qJ:aar K mainGlobals "NoPaper" = some (some (.ref ak)))
  (nI:aar K mainGlobals "NoPlaces" = some (some (.ref ai)))
  (zH:aar K mainGlobals "NoRow" = some (some (.ref aI)))
  (vZ:aar K mainGlobals "NoText" = some (some (.ref ay)))
  (v5:aar K mainGlobals "NoTies" = some (some (.ref az)))
  (t9:aar K mainGlobals "PlyError" = some (some (.ref bO)))
  (v7:aar K mainGlobals "Unlike" = some (some (.ref aA)))
  (lA:aa9 K ai bmV "ValueError.__new__" = true)
  (l8:aaf K (.ref ai) "__getattribute__" = some (some (.builtin "BaseException.__getattribute__")))
  (l9:aaf K (.ref ai) "__getattr__" = some none)
  (l_:aaf K (.ref ai) "__class__" = some (some (.builtin "object.__class__")))
  (mh:aaD K ai (.type "BaseException")=some true)
  (mj:aaD K ai (.type "object")=some true)
  (mq:(aa6 K ai).isSome=true)
  (nJ:aa9 K az bmV "ValueError.__new__" = true)
  (pP:aaf K (.ref az) "__getattribute__" = some (some (.builtin "BaseException.__getattribute__")))
  (pQ:aaf K (.ref az) "__getattr__" = some none)
  (pR:aaf K (.ref az) "__class__" = some (some (.builtin "object.__class__")))
  (pS:aaD K az (.type "BaseException")=some true)
  (pT:aaD K az (.type "object")=some true)
  (pU:(aa6 K az).isSome=true)
  (lB:aa9 K ah bmV "ValueError.__new__" = true)
  (mw:aaf K (.ref ah) "__getattribute__" = some (some (.builtin "BaseException.__getattribute__")))
  (mz:aaf K (.ref ah) "__getattr__" = some none)
  (mC:aaf K (.ref ah) "__class__" = some (some (.builtin "object.__class__")))
  (mD:aaD K ah (.type "BaseException")=some true)
  (mE:aaD K ah (.type "object")=some true)
  (mF:(aa6 K ah).isSome=true)
  (nK:aa9 K av bmV "ValueError.__new__" = true)
  (pV:aaf K (.ref av) "__getattribute__" = some (some (.builtin "BaseException.__getattribute__")))
  (pW:aaf K (.ref av) "__getattr__" = some none)
  (pX:aaf K (.ref av) "__class__" = some (some (.builtin "object.__class__")))
  (pY:aaD K av (.type "BaseException")=some true)
  (pZ:aaD K av (.type "object")=some true)
  (p5:(aa6 K av).isSome=true)
  (p6:aa9 K aG bmV "ValueError.__new__" = true)
  (t_:aaf K (.ref aG) "__getattribute__" = some (some (.builtin "BaseException.__getattribute__")))
  (ua:aaf K (.ref aG) "__getattr__" = some none)
  (uc:aaf K (.ref aG) "__class__" = some (some (.builtin "object.__class__")))
  (ud:aaD K aG (.type "BaseException")=some true)
  (ue:aaD K aG (.type "object")=some true)
  (uf:(aa6 K aG).isSome=true)
  (nM:aa9 K aA bmV "ValueError.__new__" = true)
  (p7:aaf K (.ref aA) "__getattribute__" = some (some (.builtin "BaseException.__getattribute__")))
  (p8:aaf K (.ref aA) "__getattr__" = some none)
  (p9:aaf K (.ref aA) "__class__" = some (some (.builtin "object.__class__")))
  (p_:aaD K aA (.type "BaseException")=some true)
  (qc:aaD K aA (.type "object")=some true)
  (qd:(aa6 K aA).isSome=true)
  (nN:aa9 K ay bmV "ValueError.__new__" = true)
  (qe:aaf K (.ref ay) "__getattribute__" = some (some (.builtin "BaseException.__getattribute__")))
  (qf:aaf K (.ref ay) "__getattr__" = some none)
  (qg:aaf K (.ref ay) "__class__" = some (some (.builtin "object.__class__")))
  (qh:aaD K ay (.type "BaseException")=some true)
  (qi:aaD K ay (.type "object")=some true)
  (qj:(aa6 K ay).isSome=true)
  (mG:aa9 K ak bmV "ValueError.__new__" = true)
  (nQ:aaf K (.ref ak) "__getattribute__" = some (some (.builtin "BaseException.__getattribute__")))
  (nR:aaf K (.ref ak) "__getattr__" = some none)
  (nS:aaf K (.ref ak) "__class__" = some (some (.builtin "object.__class__")))
  (nT:aaD K ak (.type "BaseException")=some true)
  (nU:aaD K ak (.type "object")=some true)
  (nV:(aa6 K ak).isSome=true)
  (qk:aa9 K aI bmV "ValueError.__new__" = true)
  (ug:aaf K (.ref aI) "__getattribute__" = some (some (.builtin "BaseException.__getattribute__")))
  (uh:aaf K (.ref aI) "__getattr__" = some none)
  (um:aaf K (.ref aI) "__class__" = some (some (.builtin "object.__class__")))
  (uo:aaD K aI (.type "BaseException")=some true)
  (uq:aaD K aI (.type "object")=some true)
  (ur:(aa6 K aI).isSome=true)
  (nW:aa9 K au bmV "ValueError.__new__" = true)
  (ql:aaf K (.ref au) "__getattribute__" = some (some (.builtin "BaseException.__getattribute__")))
  (qo:aaf K (.ref au) "__getattr__" = some none)
  (qp:aaf K (.ref au) "__class__" = some (some (.builtin "object.__class__")))
  (qq:aaD K au (.type "BaseException")=some true)
  (qt:aaD K au (.type "object")=some true)
  (qu:(aa6 K au).isSome=true)
  (qv:aaf K (.ref aB) "__init__" = some (some (.ref gx)))
  (qw:K.lookup gx=some ⟨K6,K3,.func (aaQ "__init__" "Clash.__init__" (cF mZ) (b5 mZ) (ao mZ) .none K7 K8 K9 K4 CN K_),K5⟩) (qx:ab5 K CN "Clash.__init__" = true) (qy:aaW K (.ref gx)=true)
  (uu:aaW K (.ref aB)=true)
  (uv:acn K (.ref gx)=some (.type "function"))
  (qz:PySem.W.isI K aB gx bmV "ValueError.__new__" = true)
  (uw:acz K aB=true)
  (ux:aaf K (.ref aB) "moment" = some none)
  (uy:aaf K (.ref aB) "__setattr__" = some (some (.builtin "object.__setattr__")))
  (uz:acA K (.ref bO) "__getattribute__" = some (some (.builtin "type.__getattribute__")))
  (uA:PySem.W.readsIn K bO (.type "type")=true)
  (uB:PySem.W.findCls K (.ref bO) (.type "type") "__init__" = some (.val (.builtin "ValueError.__init__")))
  (uC:aaf K (.ref aB) "__getattribute__" = some (some (.builtin "BaseException.__getattribute__")))
  (uD:aaf K (.ref aB) "__getattr__" = some none)
  (uE:aaf K (.ref aB) "__class__" = some (some (.builtin "object.__class__")))
  (uF:aaD K aB (.type "BaseException")=some true)
  (uG:aaD K aB (.type "object")=some true)
  (uH:(aa6 K aB).isSome=true)
  (dP:eg K (.ref aB) (.type "ValueError")=some true)
  (dm:eg K (.ref au) (.type "ValueError")=some true)
  (cO:eg K (.ref ah) (.type "ValueError")=some true)
  (dQ:eg K (.ref aG) (.type "ValueError")=some true)
  (dw:eg K (.ref av) (.type "ValueError")=some true)
  (cY:eg K (.ref ak) (.type "ValueError")=some true)
  (cP:eg K (.ref ai) (.type "ValueError")=some true)
  (dR:eg K (.ref aI) (.type "ValueError")=some true)
  (dB:eg K (.ref ay) (.type "ValueError")=some true)
  (dD:eg K (.ref az) (.type "ValueError")=some true)
  (dF:eg K (.ref aA) (.type "ValueError")=some true)
  (mH:acn K (.ref bO)=some (.type "type"))
  (mJ:(aa6 K bO).isSome=true)
  (mK:aaD K bO (.type "BaseException")=some true)
  (dG:aaD K ah (.ref bO)=some true)
  (jG:eg K (.ref aB) (.ref aB)=some true)
  (iU:eg K (.ref aB) (.ref au)=some false)
  (fM:eg K (.ref aB) (.ref ah)=some false)
  (jH:eg K (.ref aB) (.ref aG)=some false)
  (iV:eg K (.ref aB) (.ref av)=some false)
  (gE:eg K (.ref aB) (.ref ak)=some false)
  (fN:eg K (.ref aB) (.ref ai)=some false)
  (jI:eg K (.ref aB) (.ref aI)=some false)
  (iW:eg K (.ref aB) (.ref ay)=some false)
  (iX:eg K (.ref aB) (.ref az)=some false)
  (iY:eg K (.ref aB) (.ref aA)=some false)
  (iZ:eg K (.ref au) (.ref aB)=some false)
  (gF:eg K (.ref au) (.ref au)=some true)
  (eO:eg K (.ref au) (.ref ah)=some false)
  (i6:eg K (.ref au) (.ref aG)=some false)
  (gG:eg K (.ref au) (.ref av)=some false)
  (fO:eg K (.ref au) (.ref ak)=some false)
  (eT:eg K (.ref au) (.ref ai)=some false)
  (i7:eg K (.ref au) (.ref aI)=some false)
  (gH:eg K (.ref au) (.ref ay)=some false)
  (gI:eg K (.ref au) (.ref az)=some false)
  (gJ:eg K (.ref au) (.ref aA)=some false)
  (fP:eg K (.ref ah) (.ref aB)=some false)
  (eU:eg K (.ref ah) (.ref au)=some false)
  (dH:eg K (.ref ah) (.ref ah)=some true)
  (fQ:eg K (.ref ah) (.ref aG)=some false)
  (eW:eg K (.ref ah) (.ref av)=some false)
  (dS:eg K (.ref ah) (.ref ak)=some false)
  (dI:eg K (.ref ah) (.ref ai)=some false)
  (fR:eg K (.ref ah) (.ref aI)=some false)
  (eX:eg K (.ref ah) (.ref ay)=some false)
  (eY:eg K (.ref ah) (.ref az)=some false)
  (eZ:eg K (.ref ah) (.ref aA)=some false)
  (jJ:eg K (.ref aG) (.ref aB)=some false)
  (i8:eg K (.ref aG) (.ref au)=some false)
  (fS:eg K (.ref aG) (.ref ah)=some false)
  (jK:eg K (.ref aG) (.ref aG)=some true)
  (i9:eg K (.ref aG) (.ref av)=some false)
  (gK:eg K (.ref aG) (.ref ak)=some false)
  (fT:eg K (.ref aG) (.ref ai)=some false)
  (jL:eg K (.ref aG) (.ref aI)=some false)
  (i_:eg K (.ref aG) (.ref ay)=some false)
  (ja:eg K (.ref aG) (.ref az)=some false)
  (jb:eg K (.ref aG) (.ref aA)=some false)
  (jc:eg K (.ref av) (.ref aB)=some false)
  (gM:eg K (.ref av) (.ref au)=some false)
  (e7:eg K (.ref av) (.ref ah)=some false)
  (jd:eg K (.ref av) (.ref aG)=some false)
  (gO:eg K (.ref av) (.ref av)=some true)
  (fU:eg K (.ref av) (.ref ak)=some false)
  (e8:eg K (.ref av) (.ref ai)=some false)
  (je:eg K (.ref av) (.ref aI)=some false)
  (gP:eg K (.ref av) (.ref ay)=some false)
  (gQ:eg K (.ref av) (.ref az)=some false)
  (gR:eg K (.ref av) (.ref aA)=some false)
  (gS:eg K (.ref ak) (.ref aB)=some false)
  (fV:eg K (.ref ak) (.ref au)=some false)
  (dU:eg K (.ref ak) (.ref ah)=some false)
  (gT:eg K (.ref ak) (.ref aG)=some false)
  (fX:eg K (.ref ak) (.ref av)=some false)
  (e_:eg K (.ref ak) (.ref ak)=some true)
  (dW:eg K (.ref ak) (.ref ai)=some false)
  (gU:eg K (.ref ak) (.ref aI)=some false)
  (fY:eg K (.ref ak) (.ref ay)=some false)
  (fZ:eg K (.ref ak) (.ref az)=some false)
  (f9:eg K (.ref ak) (.ref aA)=some false)
  (f_:eg K (.ref ai) (.ref aB)=some false)
  (ff:eg K (.ref ai) (.ref au)=some false)
  (dJ:eg K (.ref ai) (.ref ah)=some false)
  (gb:eg K (.ref ai) (.ref aG)=some false)
  (fh:eg K (.ref ai) (.ref av)=some false)
  (dX:eg K (.ref ai) (.ref ak)=some false)
  (dM:eg K (.ref ai) (.ref ai)=some true)
  (gf:eg K (.ref ai) (.ref aI)=some false)
  (fk:eg K (.ref ai) (.ref ay)=some false)
  (fm:eg K (.ref ai) (.ref az)=some false)
  (fq:eg K (.ref ai) (.ref aA)=some false)
  (jM:eg K (.ref aI) (.ref aB)=some false)
  (jf:eg K (.ref aI) (.ref au)=some false)
  (gg:eg K (.ref aI) (.ref ah)=some false)
  (jN:eg K (.ref aI) (.ref aG)=some false)
  (jh:eg K (.ref aI) (.ref av)=some false)
  (gW:eg K (.ref aI) (.ref ak)=some false)
  (gh:eg K (.ref aI) (.ref ai)=some false)
  (jO:eg K (.ref aI) (.ref aI)=some true)
  (ji:eg K (.ref aI) (.ref ay)=some false)
  (jj:eg K (.ref aI) (.ref az)=some false)
  (jk:eg K (.ref aI) (.ref aA)=some false)
  (jl:eg K (.ref ay) (.ref aB)=some false)
  (gX:eg K (.ref ay) (.ref au)=some false)
  (fu:eg K (.ref ay) (.ref ah)=some false)
  (jm:eg K (.ref ay) (.ref aG)=some false)
  (gY:eg K (.ref ay) (.ref av)=some false)
  (gi:eg K (.ref ay) (.ref ak)=some false)
  (fy:eg K (.ref ay) (.ref ai)=some false)
  (jn:eg K (.ref ay) (.ref aI)=some false)
  (gZ:eg K (.ref ay) (.ref ay)=some true)
  (g7:eg K (.ref ay) (.ref az)=some false)
  (g8:eg K (.ref ay) (.ref aA)=some false)
  (jo:eg K (.ref az) (.ref aB)=some false)
  (g9:eg K (.ref az) (.ref au)=some false)
  (fB:eg K (.ref az) (.ref ah)=some false)
  (jq:eg K (.ref az) (.ref aG)=some false)
  (g_:eg K (.ref az) (.ref av)=some false)
  (gj:eg K (.ref az) (.ref ak)=some false)
  (fC:eg K (.ref az) (.ref ai)=some false)
  (jr:eg K (.ref az) (.ref aI)=some false)
  (h_:eg K (.ref az) (.ref ay)=some false)
  (ia:eg K (.ref az) (.ref az)=some true)
  (ic:eg K (.ref az) (.ref aA)=some false)
  (jt:eg K (.ref aA) (.ref aB)=some false)
  (ig:eg K (.ref aA) (.ref au)=some false)
  (fD:eg K (.ref aA) (.ref ah)=some false)
  (ju:eg K (.ref aA) (.ref aG)=some false)
  (ir:eg K (.ref aA) (.ref av)=some false)
  (gk:eg K (.ref aA) (.ref ak)=some false)
  (fE:eg K (.ref aA) (.ref ai)=some false)
  (jv:eg K (.ref aA) (.ref aI)=some false)
  (iu:eg K (.ref aA) (.ref ay)=some false)
  (iw:eg K (.ref aA) (.ref az)=some false)
  (iy:eg K (.ref aA) (.ref aA)=some true) :
  ∃fd:FuncData,(∀(s:Shared) (v:Value),BindsTo s fd ⟨[v],[]⟩ [("script",v)])/\∀base:Heap,K.In base->base.Ns mainGlobals mg->bI l.prog w K mg base CX0 11 fa fd ["script"] (spD (Ar ai az ah av aG aA ay ak aI au aB bZ bD bE bF)):=by
 have e:=hfa.symm.trans (CO.m X G);cases e;have Vl:=OG.F.fL (ps:=["n","ties"]) rfl fun _ _ _ _ _ _ _ _=>rfl;have Vm:=OH.F.fL (ps:=["steps","heads"]) rfl fun _ _ _ _ _ _ _ _=>rfl;have Q6:=OI.F.fL (ps:=["steps","heads"]) rfl fun _ _ _ _ _ _ _ _=>rfl;have HV:=OJ.F.fL (ps:=["steps","a"]) rfl fun _ _ _ _ _ _ _ _=>rfl;have Q8:=OL.F.fL (ps:=["heads","way"]) rfl fun _ _ _ _ _ _ _ _=>rfl;have Q9:=OM.F.lT (ps:=["steps","heads","a","b","count"]) rfl fun _ _ _ _ _ _ _ _ _ _ _=>rfl;have NW:=ON.F.lT (ps:=["n","ties","a","b","most"]) rfl fun _ _ _ _ _ _ _ _ _ _ _=>rfl;have Vn:=OO.F.lT (ps:=["n","ties","a","b","times"]) rfl fun _ _ _ _ _ _ _ _ _ _ _=>rfl;have NX:=FW.F.Ah (ps:=["thing"]) rfl fun _ _ _ _ _ _ _=>rfl;have JB:=FY.F.rL (ps:=["thing","low","high"]) rfl fun _ _ _ _ _ _ _ _ _=>rfl;have FH:=FZ.F.fL (ps:=["n","thing"]) rfl fun _ _ _ _ _ _ _ _=>rfl;have JE:=F2.F.Ah (ps:=["thing"]) rfl fun _ _ _ _ _ _ _=>rfl;have JD:=F3.F.Ah (ps:=["things"]) rfl fun _ _ _ _ _ _ _=>rfl;have N2:=F4.F.rL (ps:=["n","a","b"]) rfl fun _ _ _ _ _ _ _ _ _=>rfl;have N7:=F5.F.fL (ps:=["n","thing"]) rfl fun _ _ _ _ _ _ _ _=>rfl;have yp:=F6.F.Ah (ps:=["k"]) rfl fun _ _ _ _ _ _ _=>rfl;have Oe:=F7.F.rL (ps:=["n","a","b"]) rfl fun _ _ _ _ _ _ _ _ _=>rfl;have N8:=F8.F.fL (ps:=["record","side"]) rfl fun _ _ _ _ _ _ _ _=>rfl;have N3:=F9.F.rM (ps:=["record","a","b","way"]) rfl fun _ _ _ _ _ _ _ _ _ _=>rfl;have N6:=F_.F.rM (ps:=["record","a","b","ways"]) rfl fun _ _ _ _ _ _ _ _ _ _=>rfl;have FJ:=Ga.F.fL (ps:=["ties","tie"]) rfl fun _ _ _ _ _ _ _ _=>rfl;have lM:=j5.F.rM (ps:=["n","record","k","often"]) rfl fun _ _ _ _ _ _ _ _ _ _=>rfl;have FL:=Gb.F.Ah (ps:=["k"]) rfl fun _ _ _ _ _ _ _=>rfl;have N4:=Gd.F.lT (ps:=["n","kept","a","b","k"]) rfl fun _ _ _ _ _ _ _ _ _ _ _=>rfl;have nB:=ly.F.lT (ps:=["n","record","kept","k","ways_of"]) rfl fun _ _ _ _ _ _ _ _ _ _ _=>rfl;have N5:=Ge.F.rM (ps:=["n","kept","tie","k"]) rfl fun _ _ _ _ _ _ _ _ _ _=>rfl;have zE:=vW.F.rL (ps:=["n","record","k"]) rfl fun _ _ _ _ _ _ _ _ _=>rfl;have N9:=Gf.F.rM (ps:=["kept","tie","k","ways"]) rfl fun _ _ _ _ _ _ _ _ _ _=>rfl;have N_:=Gg.F.lT (ps:=["n","kept","tie","k","side"]) rfl fun _ _ _ _ _ _ _ _ _ _ _=>rfl;have JK:=Gh.F.rM (ps:=["n","record","k","told"]) rfl fun _ _ _ _ _ _ _ _ _ _=>rfl;have Ob:=Gi.F.fL (ps:=["n","ties"]) rfl fun _ _ _ _ _ _ _ _=>rfl;have Oc:=Gj.F.fL (ps:=["n","moments"]) rfl fun _ _ _ _ _ _ _ _=>rfl;have JI:=Gk.F.fL (ps:=["steps","heads"]) rfl fun _ _ _ _ _ _ _ _=>rfl;have Od:=Gm.F.rL (ps:=["n","way","reached"]) rfl fun _ _ _ _ _ _ _ _ _=>rfl;have Of:=Gn.F.lT (ps:=["n","ties","a","b","most"]) rfl fun _ _ _ _ _ _ _ _ _ _ _=>rfl;have JJ:=Gp.F.lT (ps:=["n","record","a","b","most"]) rfl fun _ _ _ _ _ _ _ _ _ _ _=>rfl;have Oh:=Gq.F.lT (ps:=["n","ties","a","b","times"]) rfl fun _ _ _ _ _ _ _ _ _ _ _=>rfl;have Oi:=Gr.F.lT (ps:=["n","kept","a","b","k"]) rfl fun _ _ _ _ _ _ _ _ _ _ _=>rfl;have jR:=gy.F.rL (ps:=["n","record","k"]) rfl fun _ _ _ _ _ _ _ _ _=>rfl;have Oj:=Gs.F.fL (ps:=["script","k"]) rfl fun _ _ _ _ _ _ _ _=>rfl;have JL:=Gu.F.fL (ps:=["script","at"]) rfl fun _ _ _ _ _ _ _ _=>rfl;have lN:=Gv.F.fL (ps:=["pool","many"]) rfl fun _ _ _ _ _ _ _ _=>rfl;have Om:=Gw.F.rL (ps:=["pool","n","most"]) rfl fun _ _ _ _ _ _ _ _ _=>rfl;have pL:=j6.F.fL (ps:=["caught","kind"]) rfl fun _ _ _ _ _ _ _ _=>rfl;have nC:=lz.F.rM (ps:=["which","n","record","k"]) rfl fun _ _ _ _ _ _ _ _ _ _=>rfl;have FG:=LC (st:=mZ) qw qx qy;refine⟨_,fun s v=>CO.ZK (fun _ _ _ _ _ _ _=>rfl) s v,fun base Xb _=>?_⟩;have T:Txt mg K base ..:=⟨mgo X G zF,mgo X G vX,mgo X G nG,mgo X G zG,mgo X G vY,mgo X G qJ,mgo X G nI,mgo X G zH,mgo X G vZ,mgo X G v5,mgo X G t9,mgo X G v7,gv Xb (mgo X G nI) lA,⟨⟨l8,l9,l_,mh,mj⟩,mq⟩,gv Xb (mgo X G v5) nJ,⟨⟨pP,pQ,pR,pS,pT⟩,pU⟩,gv Xb (mgo X G nG) lB,⟨⟨mw,mz,mC,mD,mE⟩,mF⟩,gv Xb (mgo X G vY) nK,⟨⟨pV,pW,pX,pY,pZ⟩,p5⟩,gv Xb (mgo X G zG) p6,⟨⟨t_,ua,uc,ud,ue⟩,uf⟩,gv Xb (mgo X G v7) nM,⟨⟨p7,p8,p9,p_,qc⟩,qd⟩,gv Xb (mgo X G vZ) nN,⟨⟨qe,qf,qg,qh,qi⟩,qj⟩,gv Xb (mgo X G qJ) mG,⟨⟨nQ,nR,nS,nT,nU⟩,nV⟩,gv Xb (mgo X G zH) qk,⟨⟨ug,uh,um,uo,uq⟩,ur⟩,gv Xb (mgo X G vX) nW,⟨⟨ql,qo,qp,qq,qt⟩,qu⟩,Qp Xb (mgo X G zF) uu qv uv qz,uw,ux,uy,uz,uA,uB,⟨⟨uC,uD,uE,uF,uG⟩,uH⟩,dP,dm,cO,dQ,dw,cY,cP,dR,dB,dD,dF,⟨mH,mJ,mK,dG⟩,jG,iU,fM,jH,iV,gE,fN,jI,iW,iX,iY,iZ,gF,eO,i6,gG,fO,eT,i7,gH,gI,gJ,fP,eU,dH,fQ,eW,dS,dI,fR,eX,eY,eZ,jJ,i8,fS,jK,i9,gK,fT,jL,i_,ja,jb,jc,gM,e7,jd,gO,fU,e8,je,gP,gQ,gR,gS,fV,dU,gT,fX,e_,dW,gU,fY,fZ,f9,f_,ff,dJ,gb,fh,dX,dM,gf,fk,fm,fq,jM,jf,gg,jN,jh,gW,gh,jO,ji,jj,jk,jl,gX,fu,jm,gY,gi,fy,jn,gZ,g7,g8,jo,g9,fB,jq,g_,gj,fC,jr,h_,ia,ic,jt,ig,fD,ju,ir,gk,fE,jv,iu,iw,iy,mno X G nE,mno X G OP,mno X G Ia,mno X G Ib,mno X G pO,mno X G OQ,mno X G nF,mno X G OR,mno X G Ic,mno X G OS,mno X G OT,mno X G D9,mno X G OU,mno X G BE,mno X G OV,mno X G D_,mno X G OW,OG.m X G,OH.m X G,OI.m X G,OJ.m X G,OL.m X G,OM.m X G,ON.m X G,OO.m X G,FW.m X G,FY.m X G,FZ.m X G,F2.m X G,F3.m X G,F4.m X G,F5.m X G,F6.m X G,F7.m X G,F8.m X G,F9.m X G,F_.m X G,Ga.m X G,j5.m X G,Gb.m X G,Gd.m X G,ly.m X G,Ge.m X G,vW.m X G,Gf.m X G,Gg.m X G,Gh.m X G,Gi.m X G,Gj.m X G,Gk.m X G,Gm.m X G,Gn.m X G,Gp.m X G,Gq.m X G,Gr.m X G,gy.m X G,Gs.m X G,Gu.m X G,Gv.m X G,Gw.m X G,j6.m X G,lz.m X G,CO.m X G,FG,OG.F,OH.F,OI.F,OJ.F,OL.F,Q6,HV,OM.F,Vl,Vm,Q8,Q9,ON.F,NW,OO.F,FW.F,NX,FY.F,JB,FZ.F,F2.F,F3.F,FH,F4.F,JD,F5.F,JE,F6.F,N2,F7.F,F8.F,F9.F,N3,F_.F,Ga.F,Vn,FJ,j5.F,Gb.F,Gd.F,FL,N4,ly.F,Ge.F,yp,lM,nB,N5,vW.F,N6,Gf.F,N7,N8,Gg.F,N9,N_,Gh.F,Gi.F,Gj.F,Gk.F,Gm.F,Ob,Oc,JI,Od,Gn.F,Oe,Of,Gp.F,JJ,Gq.F,Oh,Gr.F,Oi,gy.F,Gs.F,Oj,Gu.F,Gv.F,lN,Gw.F,j6.F,zE,JK,jR,lz.F,JL,Om,pL,nC,CO.F⟩
 exact Wa T
theorem walk{aE aS aD aU bh aV aX aK bq aY br bZ bD bE bF:Nat}{l:acP}{q:Program}{loose:List Str}{XP:(Str->Option Value)->Heap->Prop}{YP:World->Heap->Prop}{d:DefRec}{K:Params->Dk}(hn:l.most=some 63)(hdf:d.params.defaults=[])
  (hY:∀(w:World) (h:Heap),YP w h->(K w.params).In h) (M:∀ns:List Int,ns.length<=63->Ar aE aS aD aU bh aV aX aK bq aY br bZ bD bE bF [.lst (ns.map Dat.int)]=some (.val (.bl true))) (hK:∀w:World,Mr (K w.params)=true)
  (F:∀ (w:World) (mg:Str→Option Value) (fa:Addr) (h:Heap),(K w.params).In h→h.Ns mainGlobals mg→mg d.name=some (.ref fa) →
   ∃fd:FuncData,(∀(s:Shared) (u:Value),BindsTo s fd ⟨[u],[]⟩ [("script",u)])/\∀base:Heap,(K w.params).In base->base.Ns mainGlobals mg->bI l.prog w (K w.params) mg base CX0 11 fa fd ["script"] (spD (Ar aE aS aD aU bh aV aX aK bq aY br bZ bD bE bF))) :
  PySem.W.WalkO q loose XP YP l.row.toRowW d [] (fun f vs=>PySem.call f vs):=
 L2.Pb (n:=63) (k:=11) (x := "script") (CX:=fun _=>CX0) (sp:=fun _=>spD (Ar aE aS aD aU bh aV aX aK bq aY br bZ bD bE bF)) hn (by decide) hdf ⟨rfl,by decide,by decide,rfl⟩ hY F
  (fun w H a ns hl hO hS=>Uv (M ns hl) (hK w) hS) fun _ _ _ _ _ z=>z
open PySem PySem.W PySem.W.X
theorem OX{q:Program}{loose:List Str}{XP:(Str->Option Value)->Heap->Prop}{r:RowW}{d:DefRec}{kwd:List (Str×Expr)}{run:Value->List Value->Sem Value}{K:Params->Frag}{as:List Addr}{n t:Nat}(e:∀P,as=(K P).map (·.1))
  (W:WalkO q loose XP (fun w h=>(K w.params).In h) r d kwd run):WalkX q loose XP (obsZ as) (valZ K n t) r d kwd run:=
 fun w s₀ s₁ mg mb G y a o pm cd doc dV kV ho hd R1 hD hmg hg args vals as' L=>W w s₀ s₁ mg mb G (InK.keeps w _ _ (z_facts e y).2.1 L.keeps) a o pm cd doc dV kV ho hd R1 hD hmg hg args vals as'
end Q
noncomputable def PySem.W.Fast.tw7537766892115132059:PySem.Program:=PySem.Challenge.pw_sinceply_k42_layers_refused
theorem PySem.W.Fast.te7537766892115132059:PySem.Challenge.pw_sinceply_k42_layers_refused=PySem.W.Fast.tw7537766892115132059:=rfl
namespace PySem.W.Fast
def tw5840510158045428580:=0
def tw17736952492036954961:=0
def tw8497266086880756186:=0
def tw2307332221560034257:=0
def tw14083942374045962787:=0
def tw16201959152180418634:=0
def tw2070595901084294503:=0
def tw16239297581754959753:=0
def tw10964114109678045880:=0
def tw15612905438359822003:=0
def tw10655006873699386787:=0
def tw3101345149792009475:=0
def tw1794654295726028950:=0
def tw14972422186002982489:=0
def tw2486045732068209631:=0
def tw5470603729012927931:=0
def tw8723487159087177724:=0
def tw2159724032497151362:=0
def tw12986331553137257413:=0
def tw11998285869236642716:=0
def tw12052485966669607383:=0
def tw18242306053881186691:=0
def tw10948042728864303253:=0
def tw10415372481710553838:=0
def tw1862887999331944505:=0
def tw5443276891073476521:=0
def tw9535851062126611907:=0
def tw11608739090876285353:=0
def tw8789337452290459898:=0
def tw18344999289981187606:=0
def tw2219177203285620881:=0
def tw17412280153672698291:=0
def tw11160909204519954067:=0
def tw5121641153500655825:=0
def tw2227547425527909713:=0
def tw7960707729499223343:=0
def tw16095497202497410560:=0
def tw18029630696296415485:=0
def tw6534161432112451212:=0
def tw9168894842787901019:=0
def tw16271180552233358618:=0
def tw14529309311617193297:=0
def tw5978951856584547559:=0
def tw8616242266353544769:=0
def tw15733101264460622405:=0
def tw16620839916179833718:=0
def tw6597959646821616750:=0
def tw5464232209829674189:=0
def tw9567825087687136117:=0
def tw11363097455657747593:=0
def tw3319650841228863172:=0
def tw5992687604653343904:=0
def tw11713161790847106931:=0
def tw14717074359376798325:=0
def tw5989251729790853598:=0
def tw294006172635458494:=0
def tw1907009660111632164:=0
def tw898421846868502056:=0
def tw6824641689115990346:=0
def tw4224506668297547123:=0
def tw5037848532656311430:=0
def tw10831839854954629116:=0
def tw12384045075571882366:=0
def tw6459809378962238158:=0
def tw9966113548656986012:=0
def tw18281918187209711439:=0
def tw2755033655124069774:=0
def tw274536930438958486:=0
def tw14908579189082078305:=0
def tw2994934899645290149:=0
def tw9591142547545908641:=0
def tw14155104059886227970:=0
def tw16689462780865291100:=0
def tw4508373741399087580:=0
def tw1846175487115230640:=0
def tw10544545479087746529:=0
def tw153900242884491379:=0
def tw1665813022775839786:=0
def tw8821420704664398363:=0
def tw7811175130743129737:=0
def tw519382411796043773:=0
def tw12436962478417747629:=0
def tw3336347735481140410:=0
def tw14870928265307109180:=0
def tw13038913423928277804:=0
def tw34074948387086759:=0
def tw13905614032603444217:=0
def tw4477509294850949386:=0
def tw7842717653574839451:=0
def tw6190917717263447541:=0
def tw11319515514488026183:=0
def tw9680111472662905255:=0
def tw7941927937736118975:=0
def tw12241550464802885894:=0
def tw17568427678395593373:=0
def tw10731683620607850314:=0
def tw8341235974620315248:=0
def tw18351687465990733885:=0
def tw439669116892557688:=0
def tw11066579915434682675:=0
def tw11414685696401890674:=0
def tw10576769298712298856:=0
def tw15200626094868349287:=0
def tw1357551371283033866:=0
def tw11114303744897143665:=0
def tw13902957682715582443:=0
def tw16122492475206313026:=0
def tw17225111439571355789:=0
def tw12541716161576169640:=0
def tw8565274184628686529:=0
def tw13654741815376092447:=0
def tw10219648063561065905:=0
def tw16044843351609811815:=0
def tw11507407617676930813:=0
def tw3416239712655333731:=0
def tw5274030729201849093:=0
def tw6800384941359515005:=0
def tw15626681278165807282:=0
def tw10055885121635090590:=0
def tw2044532102568892325:=0
def tw16897972646538492959:=0
def tw9077035645957649446:=0
def tw1822534549163499424:=0
def tw5351541946178172965:=0
def tw7310314943146169276:=0
def tw12817694145889418162:=0
def tw2014700079611946190:=0
def tw12335175110654964765:=0
def tw12946738270025292507:=0
def tw11537398912589586103:=0
def tw18273068707743206461:=0
def tw10902291475393266588:=0
def tw5363564647707295585:=0
def tw4350212375337011148:=0
def tw16013066780298938464:=0
def tw16691008957186908538:=0
def tw8818450494023903366:=0
def tw11631321414857479122:=0
def tw4344662212103704371:=0
def tw10654426509546814816:=0
def tw13516757222921102940:=0
def tw2579665238647713749:=0
def tw17137784319015885379:=0
def tw4855885649225354237:=0
def tw3557370998405135093:=0
def tw8135576609548947085:=0
def tw8827689373814959474:=0
def tw356096014560148331:=0
def tw14945306258624877544:=0
def tw1529439749749161299:=0
def tw15232150797444730068:=0
def tw1466412991931518777:=0
def tw12240386666305973508:=0
def tw8159397190250212875:=0
def tw4626047749108094:=0
def tw3198805468549872705:=0
def tw11857307174028519314:=0
def tw5646470355391434379:=0
def tw17810496818984505312:=0
def tw16802591717253026324:=0
def tw6474208038378564000:=0
def tw15004255822532977796:=0
def tw10832037993400600718:=0
def tw18092860397666710839:=0
def tw519692686167468524:=0
def tw12889658871334905350:=0
def tw880418173924027819:=0
def tw11914313195258041991:=0
def tw2307563805688474962:=0
def tw4525856474054634116:=0
def tw12957147182352621839:=0
def tw6331597986905765763:=0
def tw491751216013467721:=0
def tw5942819551163730334:=0
def tw16240620803637117676:=0
def tw6696165239574515963:=0
def tw1267853039357508569:=0
def tw17786910837824888717:=0
def tw13509017577814701334:=0
def tw12312234710393238411:=0
def tw5358237426832344867:=0
def tw17824663988825285341:=0
def tw12711372911282043596:=0
def tw17776751181338007712:=0
def tw6789814884409749475:=0
def tw14105907751951323224:=0
def tw11436124086972160199:=0
def tw7342622029470503280:=0
def tw1428872490949989291:=0
def tw6048352847923363112:=0
def tw9856030818439636016:=0
def tw12134622867214075394:=0
def tw11306668503312455499:=0
def tw5478895594781640754:=0
def tw17869882731824336456:=0
def tw8609627610110274420:=0
def tw13093914053578566339:=0
def tw8211289959918816351:=0
def tw7375819538464417318:=0
def tw7421400902378801112:=0
def tw10959546023904264837:=0
def tw7013998796853897036:=0
def tw14347338027979095086:=0
def tw11895816531839333209:=0
def tw16748389028214557525:=0
def tw4776791712541863266:=0
def tw8221796195066703969:=0
def tw4834860764451305528:=0
def tw961117624155137697:=0
def tw2933890801521309708:=0
def tw8999985164010973612:=0
def tw5150803428471722048:=0
def tw5327268810490880601:=0
def tw10120638864722900800:=0
def tw11937712794407713820:=0
def tw3076035475482813065:=0
def tw15646387625767107137:=0
def tw13594405315851150100:=0
def tw7525344923544338881:=0
def tw17231854904213829630:=0
def tw2106772749570310882:=0
def tw16477813378409758942:=0
def tw4818849439042738160:=0
def tw4392222243318819792:=0
def tw14987157128688836069:=0
def tw11878633835742862988:=0
def tw14682292350170530242:=0
def tw17793607649923890752:=0
def tw9845743913866801482:=0
def tw13824893748411059537:=0
def tw15079125877327932106:=0
def tw4734866138405620669:=0
def tw13140813952770250478:=0
def tw16770848704474931873:=0
def tw13251906125312296457:=0
def tw10585480028344642478:=0
def tw13856218186772732267:=0
def tw7915448242294947798:=0
def tw3614223420498633255:=0
def tw13059819583644758414:=0
def tw10281070358226277492:=0
def tw5654442028250545941:=0
def tw12200355540701386642:=0
def tw15381679216278427295:=0
def tw13893736201515780416:=0
def tw3923880881585853143:=0
def tw3914091002759319709:=0
def tw4244646260505796678:=0
def tw17546482248845797041:=0
def tw13337159011707920056:=0
def tw9193874306437920578:=0
def tw7238963349912305969:=0
def tw48409326628165222:=0
def tw2113957703526223147:=0
def tw1700145740291457555:=0
def tw12798173362177304423:=0
def tw7089001462163746352:=0
def tw5998293504461309935:=0
def tw18393149342468314246:=0
def tw17546663572479411218:=0
def tw3096667992640976787:=0
def tw7564203555143226928:=0
def tw8229964465835559674:=0
def tw16433531816416983413:=0
def tw1688219310183993679:=0
def tw14373005495197371653:=0
def tw4280966611810631543:=0
def tw9036624494021109091:=0
def tw9240967448552745017:=0
def tw9451325076355460751:=0
def tw10531013063170959808:=0
def tw5580518794633522881:=0
def tw9890783081424705505:=0
def tw8076666023582432078:=0
def tw12349289046992350588:=0
def tw14765068496402738587:=0
def tw18314974514593204682:=0
def tw3250587807294188772:=0
def tw14777020807524124165:=0
def tw9200687253108807092:=0
def tw6034929925195980339:=0
def tw13384433387630733757:=0
def tw2457474460356891114:=0
def tw9777798836918654493:=0
def tw9641622789366595053:=0
def tw12204621567857544855:=0
def tw14383283309894068200:=0
def tw2308570386745340008:=0
def tw3996316491053068201:=0
def tw3693286299211838739:=0
def tw5493137500689244755:=0
def tw18133176545822817420:=0
def tw1067685221601571105:=0
def tw17622194010738809444:=0
def tw3668141922543337406:=0
def tw1195193756534144475:=0
def tw17164056569277401449:=0
def tw14749622106545519353:=0
def tw566818501058325246:=0
def tw10498543530093533076:=0
def tw752006425721787853:=0
def tw2701169426581726580:=0
def tw4036280138146084884:=0
def tw16220411651249969024:=0
def tw16858444630146860870:=0
def tw3126176468344678359:=0
def tw15740965302069683415:=0
def tw5046898536266335362:=0
def tw8959219065099116540:=0
def tw9554299039089338459:=0
def tw12831822400896776738:=0
def tw2654028993510819564:=0
def tw3163415674525672921:=0
def tw3202450297659786981:=0
def tw7678282779245706411:=0
def tw14006637442501484830:=0
def tw3304167429402112839:=0
def tw17065432697964940984:=0
def tw2398610509218729759:=0
def tw12768521243046329909:=0
def tw10737152389378989220:=0
def tw1454791617193256959:=0
def tw9083686498865346209:=0
def tw13744917871845664982:=0
def tw2183928716925730439:=0
def tw16822675481321211238:=0
def tw8762549598484376930:=0
def tw14059064608452573702:=0
def tw6186868703847479757:=0
def tw11120980978601781450:=0
def tw13552214023285555000:=0
def tw6357031837804029576:=0
def tw16578870222960892539:=0
def tw14405196506926423762:=0
def tw979412210528670957:=0
def tw3702202283602465131:=0
def tw2730856303468771708:=0
def tw15914431643101617783:=0
def tw13818681502744872592:=0
def tw7729843145527154834:=0
def tw5416347166800169958:=0
def tw13519736568966881536:=0
def tw4715991978873746724:=0
def tw14782093888180908976:=0
def tw11352008356036264836:=0
def tw9039871736883685842:=0
def tw14029986574856443695:=0
def tw4690393753179975911:=0
def tw3116440013613775122:=0
def tw8363121675539617066:=0
def tw13482569927910673026:=0
def tw16335781356091045678:=0
def tw10945127396638132067:=0
def tw11586862657703890166:=0
def tw7005876404254089865:=0
def tw13083639734177917316:=0
def tw4704052700671869670:=0
def tw458254766425956136:=0
def tw18067804877013214034:=0
def tw6595593080216175525:=0
def tw14847024204158058349:=0
def tw10112635488412510927:=0
def tw5347625954523963170:=0
def tw8092719741902894488:=0
def tw12766349617654604551:=0
def tw9173646797852532015:=0
def tw11591928972341283440:=0
def tw14474189847594129672:=0
def tw8872952881577616998:=0
def tw11622188580675703268:=0
def tw6896437542786618218:=0
def tw7899618036941407867:=0
def tw17252124690463716810:=0
def tw8565119088500748357:=0
def tw13075758753973568960:=0
def tw17774394263197783316:=0
def tw3847492537996302036:=0
def tw15138855318867272464:=0
def tw16772805585017037664:=0
def tw8799615022608959914:=0
def tw9548859415387620874:=0
def tw12311112693513983521:=0
def tw8267575025118609369:=0
def tw461136470743737610:=0
def tw3586340695217252116:=0
def tw2092650331535597958:=0
def tw1078887699103372020:=0
def tw8372406649711497768:=0
def tw14616717136297561829:=0
def tw12317809083448490908:=0
def tw1719426580402832730:=0
def tw6710044751457300586:=0
def tw12068593445989468173:=0
def tw634362901442118420:=0
def tw11801032025584056478:=0
def tw15645085622207450940:=0
def tw10287287618592718733:=0
def tw2337487010013266658:=0
def tw8927523980140347557:=0
def tw2954870366933648102:=0
def tw12081156972518855817:=0
def tw1555280957257501180:=0
def tw9098500458348058728:=0
def tw9930648798436428080:=0
def tw14045650309444138396:=0
def tw15727212640427370012:=0
def tw2963793395253131782:=0
def tw3490737893489147740:=0
def tw11685164389208426323:=0
def tw4812281769615728739:=0
def tw4420125329437107255:=0
def tw16913118920264832455:=0
def tw2990412813864033908:=0
def tw4847178481443475517:=0
def tw4232733750288286581:=0
def tw7080128702010155395:=0
def tw1287081155901370073:=0
def tw8147342069907025371:=0
def tw5169232329672660567:=0
def tw16027607525404450925:=0
def tw13385064884590377605:=0
def tw18260967867710298228:=0
def tw16874857946816803545:=0
def tw7787954525427325237:=0
def tw11659121662307099325:=0
def tw16984974984125710634:=0
def tw11646105181399567478:=0
def tw6973329726874777249:=0
def tw5603233543873703520:=0
def tw3941529914902662211:=0
def tw7162463196887265958:=0
def tw17559143612243342340:=0
def tw12229051163108903581:=0
def tw4987385627590704089:=0
def tw3324196495901799484:=0
def tw12705610844093401507:=0
def tw3357103684514562527:=0
def tw4802777604045050225:=0
def tw10000376469226473711:=0
end PySem.W.Fast
open PySem PySem.W PyProof.Rows
set_option maxRecDepth 100000 in
set_option maxHeartbeats 0 in
theorem PySem.Challenge.cw_sinceply_k42_layers_refused_holds : PySem.Challenge.rw_sinceply_k42_layers_refused.Holds := by
 w_on;o_law;z_head;(case hw=>w_witness2)
 k_fill
 refine' Q.OX (fun _=>rfl) (Q.walk (l:=PySem.Challenge.rw_sinceply_k42_layers_refused) rfl rfl (fun w h Y=>Y) (P.math _ _ _ _ _ _ _ _ _ _ _ _ _ _ _ ?ne) ?noL ?fnS)
 case noL=>intro w;rfl
 case fnS=>
  intro w mg fa h KX G hmg
  refine' Q.all_mk KX G hmg ?OG ?OH ?OI ?OJ ?OL ?OM ?ON ?OO ?FW ?FY ?FZ ?F2 ?F3 ?F4 ?F5 ?F6 ?F7 ?F8 ?F9 ?F_ ?Ga ?j5 ?Gb ?Gd ?ly ?Ge ?vW ?Gf ?Gg ?Gh ?Gi ?Gj ?Gk ?Gm ?Gn ?Gp ?Gq ?Gr ?gy ?Gs ?Gu ?Gv ?Gw ?j6 ?lz ?CO ?nE ?OP ?Ia ?Ib ?pO ?OQ ?nF ?OR ?Ic ?OS ?OT ?D9 ?OU ?BE ?OV ?D_ ?OW ?zF ?vX ?nG ?zG ?vY ?qJ ?nI ?zH ?vZ ?v5 ?t9 ?v7 ?lA ?l8 ?l9 ?l_ ?mh ?mj ?mq ?nJ ?pP ?pQ ?pR ?pS ?pT ?pU ?lB ?mw ?mz ?mC ?mD ?mE ?mF ?nK ?pV ?pW ?pX ?pY ?pZ ?p5 ?p6 ?t_ ?ua ?uc ?ud ?ue ?uf ?nM ?p7 ?p8 ?p9 ?p_ ?qc ?qd ?nN ?qe ?qf ?qg ?qh ?qi ?qj ?mG ?nQ ?nR ?nS ?nT ?nU ?nV ?qk ?ug ?uh ?um ?uo ?uq ?ur ?nW ?ql ?qo ?qp ?qq ?qt ?qu ?qv ?qw ?qx ?qy ?uu ?uv ?qz ?uw ?ux ?uy ?uz ?uA ?uB ?uC ?uD ?uE ?uF ?uG ?uH ?dP ?dm ?cO ?dQ ?dw ?cY ?cP ?dR ?dB ?dD ?dF ?mH ?mJ ?mK ?dG ?jG ?iU ?fM ?jH ?iV ?gE ?fN ?jI ?iW ?iX ?iY ?iZ ?gF ?eO ?i6 ?gG ?fO ?eT ?i7 ?gH ?gI ?gJ ?fP ?eU ?dH ?fQ ?eW ?dS ?dI ?fR ?eX ?eY ?eZ ?jJ ?i8 ?fS ?jK ?i9 ?gK ?fT ?jL ?i_ ?ja ?jb ?jc ?gM ?e7 ?jd ?gO ?fU ?e8 ?je ?gP ?gQ ?gR ?gS ?fV ?dU ?gT ?fX ?e_ ?dW ?gU ?fY ?fZ ?f9 ?f_ ?ff ?dJ ?gb ?fh ?dX ?dM ?gf ?fk ?fm ?fq ?jM ?jf ?gg ?jN ?jh ?gW ?gh ?jO ?ji ?jj ?jk ?jl ?gX ?fu ?jm ?gY ?gi ?fy ?jn ?gZ ?g7 ?g8 ?jo ?g9 ?fB ?jq ?g_ ?gj ?fC ?jr ?h_ ?ia ?ic ?jt ?ig ?fD ?ju ?ir ?gk ?fE ?jv ?iu ?iw ?iy
  case OG|OH|OI|OJ|OL|OM|ON|OO|FW|FY|FZ|F2|F3|F4|F5|F6|F7|F8|F9|F_|Ga|j5|Gb|Gd|ly|Ge|vW|Gf|Gg|Gh|Gi|Gj|Gk|Gm|Gn|Gp|Gq|Gr|gy|Gs|Gu|Gv|Gw|j6|lz|CO=>refine' Br.bx ?e ?l ?c ?k;(case e=>k_is);(case l=>k_is);(case c=>k_is);(case k=>k_is)
  case nE|OP|Ia|Ib|pO|OQ|nF|OR|Ic|OS|OT|D9|OU|BE|OV|D_|OW|zF|vX|nG|zG|vY|qJ|nI|zH|vZ|v5|t9|v7|qv|qw|qx|qy=>k_is
  case lA|l8|l9|l_|mh|mj|mq|nJ|pP|pQ|pR|pS|pT|pU|lB|mw|mz|mC|mD|mE|mF|nK|pV|pW|pX|pY|pZ|p5|p6|t_|ua|uc|ud|ue|uf|nM|p7|p8|p9|p_|qc|qd|nN|qe|qf|qg|qh|qi|qj|mG|nQ|nR|nS|nT|nU|nV|qk|ug|uh|um|uo|uq|ur|nW|ql|qo|qp|qq|qt|qu|uu|uv|qz|uw|ux|uy|uz|uA|uB|uC|uD|uE|uF|uG|uH|dP|dm|cO|dQ|dw|cY|cP|dR|dB|dD|dF|mH|mJ|mK|dG|jG|iU|fM|jH|iV|gE|fN|jI|iW|iX|iY|iZ|gF|eO|i6|gG|fO|eT|i7|gH|gI|gJ|fP|eU|dH|fQ|eW|dS|dI|fR|eX|eY|eZ|jJ|i8|fS|jK|i9|gK|fT|jL|i_|ja|jb|jc|gM|e7|jd|gO|fU|e8|je|gP|gQ|gR|gS|fV|dU|gT|fX|e_|dW|gU|fY|fZ|f9|f_|ff|dJ|gb|fh|dX|dM|gf|fk|fm|fq|jM|jf|gg|jN|jh|gW|gh|jO|ji|jj|jk|jl|gX|fu|jm|gY|gi|fy|jn|gZ|g7|g8|jo|g9|fB|jq|g_|gj|fC|jr|h_|ia|ic|jt|ig|fD|ju|ir|gk|fE|jv|iu|iw|iy=>first | k_is | kit_is | kernel_rfl
 case ne=>decide
end
