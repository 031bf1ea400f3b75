import PyProof.Rows.All
import Wide.All
import OpenK.AllK
import Wide.FinOn
import Lean
import PyProof.EqAt
import PyProof.EqKinds
import PyProof.TupleCall
import KE.KRevIter
import PyProof.EnumMake
import PyProof.EnumFor
import PyProof.ListRange
import PyProof.Rows.Range3
import PyProof.ZipIter
import PyProof.SumWalk
import PyProof.WalksMore
import PyProof.Rows.SetFrom
import PyProof.SetRoads
import PyProof.Rows.SortRunsK
import PyProof.Rows.SortWalk
import KE.KSortTup
import PyProof.Rows.Own
import PyProof.StationsW
import OpenK.KRaise
import KE.KIsAll
import PyProof.ExcArgsOwn
import PyProof.RulesAs
import PyProof.Ns1
import PyProof.Rows.Catch
import OpenK.KOwn
import PyProof.ExcBaseAll.ValueError
import KE.KDictSum
import PyProof.AttrMiss
import PyProof.IsiH_list
import KE.KDictOf
import PyProof.DictList
import KE.KDictList
import PyProof.FactsAll.set
import PyProof.Rows.TupAdd
import KE.KDictMeth
import PyProof.DictWalks
import PyProof.TupleKey
import PyProof.DictStraight
import PyProof.IsRules
import KE.KRevSl
import PyProof.Rows.CallKwBuiltin
import PyProof.Rows.SortShell
import KE.KSortKey
import KE.KLam
import KE.KNestM
import PyProof.CallStr
import OpenK.KMake
import PyProof.ExcClass2
import PyProof.InstStoreFacts
import OpenK.KCls
import PyProof.DictRoadsH
import PyProof.DictUpdate
import PyProof.DictCopy
import PyProof.MeetsDictList
import PyProof.FactsAll.tuple_1
import PyProof.TupleOfSeq
import KE.KSortAsk
import PyProof.Rows.StrLawsPart
import PyProof.StrLawsChain
import PyProof.StrBlockL
import PyProof.SliceStr2
import PyProof.StrOps2
import PyProof.StrWalks
import PyProof.StrCalls2
import KE.KIntText
import KE.IntTextLaws
import PyProof.Rows.StrIntSpec
import PySem.Challenge.RW_sinceply_k56_texts_misread
open Array renaming find?_toList→HM
open Bool renaming and_eq_true→FH,not_false→FW,not_true→FZ,false_ne_true→Ge,eq_iff_iff→G8
open Char renaming toNat→IA
open False renaming elim→FG
open ForInStep renaming yield→Gy
open Int renaming le_trans→Ic
open List renaming replicate→eg,getElem?_set_ne→gc,map_cons→gV,getElem?_cons_succ→nC,getElem?_cons_zero→Dk,length_cons→Dp,length_append→Fl,nil_append→Fo,getElem?_append_left→Fp,mem_cons_self→Fq,mem_cons_of_mem→Fv,length_map→Fw,set_cons_zero→Fx,set_cons_succ→Fy,cons_append→Fz,getElem?_nil→FD,all_eq_true→FF,length_nil→FL,map_nil→F0,getElem?_eq_getElem→F1,getElem?_map→F4,getElem?_eq_some_iff→F5,set_nil→F6,getElem?_append_right→F7,getElem?_set_self→F8,mem_cons→F9,size_toArray→Ga,getElem?_replicate→Gd,mem_singleton→Gg,mem_append_right→Gh,lookup_cons→Gj,getD_eq_getElem?_getD→Gk,replicate_succ→Gq,mem_append→Gr,append_nil→Gs,length_set→Gu,length_take→Gz,mem_map→GD,length_drop→GF,getElem?_eq_none→GG,append_assoc→GJ,eq_nil_of_length_eq_zero→GK,mem_range→GL,range→GO,map_map→GP,all_cons→GQ,flatten_cons→GR,getElem?_set→GS,filterMap_cons→GU,length_replicate→G1,drop_eq_getElem_cons→G7,isPrefixOf→G9,map_append→Hg,getElem?_take_of_lt→Hj,length_singleton→Hv,mem_append_left→Hw,nodup_cons→Hy,mem_of_getElem?→Hz,foldl_cons→HA,forIn_cons→HC,all_append→HE,map_congr_left→HF,filter_eq_self→HG,mem_filterMap→HL,pairwise_cons→HR,sum_cons→HV,getElem_mem→Ib,of_mem_zip→Ih,find?_cons→Ij,map_id→Ik,any_map→Ir,foldl→Iz
open Nat renaming le_refl→Ft,lt_of_lt_of_le→FJ,le_trans→FQ,zero_add→F2,reduceAdd→F3,zero_le→Gb,ne_of_lt→Gm,le_of_ble_eq_true→GH,lt_irrefl→GW,le_of_lt→Hh,not_lt→HB,lt_of_le_of_lt→HN,add_comm→Iq,log2_lt→Iu
open Ne renaming symm→Gx
open Option renaming map_some→FO,map_none→FP,isSome_iff_exists→Gf
open PyProof.Rows renaming boot_isinstance→GN,callWith_type1→G4
open PySem.Builtin.List renaming listTooLong→Hl
open PySem.Builtin.Str renaming occurrences→Gv,strSliceIndices→G5
open PySem.F renaming slot_str_split→Ht,args_str_split_2→HQ,entry_str_split→HZ
open PySem.Heap renaming lt_size→FA,get?_push_of_some→FY,get?_push_size→Gi,SameBut→Hx
open PySem.NameKind renaming cell→Im
open PySem.NumText renaming digitsVal→GV,AllDigits→Hq
open PySem.Obj renaming dropNameByArray→G6,dropName_eq→HD
open PySem.PassesOwn renaming never→GY
open PySem.PyData renaming eqv→Gw,depthAll→GI,showable→GX,hasDict→G3,showableAll→HP,eqvAll→HS,canLayAll0→HX,hasDictAll→HY
open PySem.StrLaws renaming sliceText→GB
open PySem.Value renaming ref→GC,str→Hu,builtin→HU,isStr→Iv,bool→Iw,int→IB
open PySem.W renaming Frag→fj,nsIn→FU,fnOf→Gn,kia_one→Gp,kitOne→GA,keepIn→G0,findIn→Ho,mroIn→Hr,codeIn→HJ,kitAny→HK,methodObj→HW,instObj→Ie,hideAll→Ig,OpenLaw→Ii,lookIn→Il,clsIn→Io,excIn→Ip
open Sum renaming inl→GZ,inr→HH
open True renaming intro→Ia
noncomputable section
set_option Elab.async false
set_option linter.all false

set_option maxRecDepth 100000
local macro_rules|`(tactic|trivial)=>`(tactic|first|exact Or.inl rfl|exact Or.inr rfl|exact Or.inr (Or.inl rfl)|exact Or.inr (Or.inr rfl)|assumption)
local macro_rules|`(tactic|and_intros)=>`(tactic|dsimp only[List.map,List.replicate,List.cons_append,List.nil_append])
namespace L2
open PySem PySem.Spec PyProof.Rows
section
variable{a b:Addr}{o:HO}{H:Hp}
noncomputable abbrev Key:=Sum Int Str
noncomputable def yz:Key->Value->Bool
 |.inl k,v=>Value.isInt k v
 |.inr x,v=>Value.isStrOf x v
noncomputable def Eh(w:World):Key->Int
 |.inl k=>hashInt k
 |.inr x=>hashStr w x
theorem br:∀{k:Key} {v:Value},yz k v=true->(∃i t,k=GZ i/\v=IB i t)\/(∃x t,k=HH x/\v=Hu x t)
 |.inl i,v,h=>by obtain⟨t,e⟩:=Value.isInt_shape (k:=i) (v:=v) h;exact .inl ⟨i,t,rfl,e⟩
 |.inr x,v,h=>by obtain⟨t,e⟩:=Value.isStrOf_shape (x:=x) (v:=v) h;exact .inr ⟨x,t,rfl,e⟩
theorem zy(a b:Int):decide ((GZ a:Key)=GZ b)=(a == b):=by
 by_cases e:a=b
 ·subst e;simp
 ·have h:¬(GZ a:Key)=GZ b:=fun q=>e (GZ.inj q);rw[decide_eq_false h];exact(beq_eq_false_iff_ne.mpr e).symm
theorem zz(a b:Str):decide ((HH a:Key)=HH b)=decide (a=b):=by
 by_cases e:a=b
 ·subst e;simp
 ·have h:¬(HH a:Key)=HH b:=fun q=>e (HH.inj q);rw[decide_eq_false h,decide_eq_false e]
theorem zA(a:Int)(b:Str):decide ((GZ a:Key)=HH b)=false:=decide_eq_false (fun q=>nomatch q)
theorem zB(a:Str)(b:Int):decide ((HH a:Key)=GZ b)=false:=decide_eq_false (fun q=>nomatch q)
noncomputable def i_(prog:Program)(w:World):PySem.KeyKind prog w Key where
 is:=yz
 hash:=Eh w
 inj:=fun v a b ha hb=>by
  rcases br ha with⟨i,t,rfl,rfl⟩ | ⟨x,t,rfl,rfl⟩
  ·rcases br hb with⟨j,u,rfl,e⟩ | ⟨y,u,rfl,e⟩
   ·injection e with e1 _;rw[e1]
   ·exact nomatch e
  ·rcases br hb with⟨j,u,rfl,e⟩ | ⟨y,u,rfl,e⟩
   ·exact nomatch e
   ·injection e with e1 _;rw[e1]
 byValue:=fun k v h=>by rcases br h with⟨i,t,rfl,rfl⟩ | ⟨x,t,rfl,rfl⟩<;>rfl
 pyHash:=fun hv h=>by
  rcases br hv with⟨i,t,rfl,rfl⟩ | ⟨x,t,rfl,rfl⟩
  ·exact wpAny_pyHash_int h
  ·exact wpAny_pyHash_str h
 eqBool:=fun hu hv h=>by
  rcases br hu with⟨i,t,rfl,rfl⟩ | ⟨x,t,rfl,rfl⟩
  ·rcases br hv with⟨j,u,rfl,rfl⟩ | ⟨y,u,rfl,rfl⟩
   ·rw[zy]at h;exact wpAny_eqBool_int h
   ·rw[zA]at h;exact SeqAt.EqAt.int_str i t y u _ _ _ _ h
  ·rcases br hv with⟨j,u,rfl,rfl⟩ | ⟨y,u,rfl,rfl⟩
   ·rw[zB]at h;exact SeqAt.EqAt.str_int x t j u _ _ _ _ h
   ·rw[zz]at h;exact wpAny_eqBool_str h
 «strs»:=fun k x t v h=>by
  rcases br h with⟨i,u,rfl,e⟩ | ⟨y,u,rfl,e⟩
  ·exact nomatch e
  ·injection e with e1 _
   subst e1;cases v<;>rfl
inductive V where
 |non | bl (b:Bool) | int (i:Int) | str (x:Str) | byt (b:Array UInt8) | flt (b:UInt64) | ref (a:Addr) | ty (n:String)
 deriving DecidableEq
def RelV:V->Value->Prop
 |.non,u=>u=Value.none
 |.bl b,u=>u=Iw b
 |.int i,u=>∃t,u=IB i t
 |.str x,u=>∃t,u=Hu x t
 |.byt b,u=>∃t,u=Value.bytes b t
 |.flt b,u=>∃t,u=Value.float b t
 |.ref a,u=>u=GC a
 |.ty n,u=>u=Value.type n
noncomputable abbrev Vals:List V->List Value->Prop:=Paired RelV
theorem Vals.length{xs:List V}{us:List Value}(r:Vals xs us):xs.length=us.length:=Paired.length r
theorem Vals.get:∀{xs:List V} {us:List Value} {i:Nat} {x:V},Vals xs us->xs[i]?=some x->∃u,us[i]?=some u/\RelV x u
 |_,_,_,_,.nil,e=>by simp at e
 |_,_,0,_,.cons r _,e=>by simp at e;subst e;exact⟨_,rfl,r⟩
 |_,_,i+1,x,.cons _ t,e=>by obtain⟨u,h1,h2⟩:=Vals.get (i:=i) (x:=x) t (by simpa using e);exact⟨u,by simpa using h1,h2⟩
theorem Vals.append:∀{xs ys:List V} {us ws:List Value},Vals xs us->Vals ys ws->Vals (xs++ys) (us++ws)
 |_,_,_,_,.nil,s=>s
 |_,_,_,_,.cons r t,s=>.cons r (Vals.append t s)
theorem Vals.take:∀{xs:List V} {us:List Value} (n:Nat),Vals xs us->Vals (xs.take n) (us.take n)
 |_,_,0,_=>.nil
 |_,_,_+1,.nil=>.nil
 |_,_,n+1,.cons r t=>.cons r (Vals.take n t)
theorem Vals.drop:∀{xs:List V} {us:List Value} (n:Nat),Vals xs us->Vals (xs.drop n) (us.drop n)
 |_,_,0,r=>r
 |_,_,_+1,.nil=>.nil
 |_,_,n+1,.cons _ t=>Vals.drop n t
def zC:Option V->Option Value->Prop
 |some v,some u=>RelV v u
 |none,none=>True
 |_,_=>False
def KV{κ:Type}:List (κ×V)->List (κ×Value)->Prop:=Paired fun(p:κ×V) (q:κ×Value)=>p.1=q.1/\RelV p.2 q.2
noncomputable def kV:Key->V
 |.inl i=>.int i
 |.inr x=>.str x
inductive HO where
 |lst (xs:List V)
 |tup (xs:List V)
 |dK (kvs:List (Key×V)) | dT (kvs:List (List Key×V)) (ts:List Addr)
 |set (S:Int->Bool) (n:Nat)
 |ins (C dx:Addr) (fs:List (Str×V))
 |own (x:Addr)
 |xd (fs:List (Str×V))
 |met (f x:Addr)
 |rng (lo hi:Int)
 |frz (o:Obj) (u:HO)
 |tbl (ln cl:Value) (q:Str)
 |ext (φ:Heap->Prop)
noncomputable abbrev Hp:=Addr->Option HO
noncomputable def upd(H:Hp)(a:Addr)(o:HO):Hp:=fun b=>if b=a then some o else H b
theorem aN{a:Addr}:upd H a o a=some o:=by unfold upd;rw[if_pos rfl]
theorem ay(h:b≠a):upd H a o b=H b:=by unfold upd;rw[if_neg h]
theorem aM(h:H a=some o)(h':H b=none):a≠b:=by intro e;subst e;rw[h]at h';cases h'
end
section
variable(P:Program)(w:World)
def bF(H:Hp)(h:Heap)(a:Addr):HO->Prop
 |.lst xs=>xs.length<=sizeLine/\∃(its:List Value) (n:Nat),Vals xs its/\h.get? a=some { cls:=.type "list",data:=.seq its.toArray n }
 |.tup xs=>xs.length<=sizeLine/\∃its:List Value,Vals xs its/\IsTup h a its.toArray
 |.dK kvs=>kvs.length<=sizeLine/\(a == sysModules)=false/\∃vs,KV kvs vs/\h.DictOf (i_ P w) a vs
 |.dT kvs ts=>kvs.length<=sizeLine/\(a == sysModules)=false/\∃xs:List (List Key×Addr×Value),
   Paired (fun(p:List Key×V) (q:List Key×Addr×Value)=>p.1=q.1/\H q.2.1=some (.tup (p.1.map kV))/\RelV p.2 q.2.2) kvs xs /\
   ∃o es ep,h.get? a=some o/\o.ExactDict/\o.data=.dict es ep/\es.toList=xs.map (entryOfKey (tupleKind (i_ P w)))/\(xs.map (·.1)).Nodup/\xs.map (·.2.1)=ts
 |.set S n=>h.SetOf (intKind P w) a S n
 |.ins C dx fs=>H dx=some (.own a)/\fs.length<=1000/\dx≠a/\h.get? a=some (Ie C dx) /\
   ∃mA,h.Ns1 dx mA/\(∀f,zC (fs.lookup f) (mA f))/\PySem.Within mA (fs.map (·.1))
 |.own _=>∃o,h.get? a=some o
 |.xd fs=>∃mA,h.Ns1 a mA/\∀f,zC (fs.lookup f) (mA f)
 |.rng lo hi=>∃t u v,h.get? a=some { cls:=.type "range",data:=.fields #[.int lo t,.int hi u,.int 1 v] }
 |.frz o u=>h.get? a=some o/\bF H h a u
 |.tbl ln cl q=>∃ps:Array Value,h.get? a=some { cls:=.none,data:=.fields ps }/\(ps=#[]\/∃(c:Addr) (oc:Obj) (vs:Array Value) (t:Tok),ps=#[ln,cl,.ref c]/\H c=some (.frz oc (.own a))/\oc.data=.fields vs/\vs[1]?=some (.str q t))
 |.met f x=>h.get? a=some (HW (.ref f) (.ref x))
 |.ext φ=>φ h/\(∃o,h.get? a=some o)/\∀h1 h2:Heap,φ h1->(∀o,h1.get? a=some o->h2.get? a=some o)->φ h2
def HOk(H:Hp)(h:Heap):Prop:=∀a o,H a=some o->bF P w H h a o
end
section
variable{P:Program}{w:World}{H H':Hp}{h h':Heap}{a:Addr}{o:HO}
theorem bF.lt(x:bF P w H h a o):a<h.objs.size:=by
 cases o with
 |lst xs=>obtain⟨_,_,_,_,e⟩:=x;exact FA e
 |tup xs=>obtain⟨_,_,_,p⟩:=x;exact p.lt
 |dK kvs=>obtain⟨_,_,_,_,o,_,_,e,_⟩:=x;exact FA e
 |dT kvs ts=>obtain⟨_,_,_,_,o,_,_,e,_⟩:=x;exact FA e
 |set S n=>obtain⟨o,_,_,_,e,_⟩:=x;exact FA e
 |ins C dx fs=>obtain⟨_,_,_,e,_⟩:=x;exact FA e
 |own y=>obtain⟨_,e⟩:=x;exact FA e
 |xd fs=>obtain⟨_,⟨_,_,_,e,_⟩,_⟩:=x;exact FA e
 |rng lo hi=>obtain⟨_,_,_,e⟩:=x;exact FA e
 |frz ob u=>obtain⟨e,_⟩:=x;exact FA e
 |tbl ln cl q=>obtain⟨_,e,_⟩:=x;exact FA e
 |met f y=>exact FA (show h.get? a=some _ from x)
 |ext φ=>obtain⟨_,⟨_,e⟩,_⟩:=x;exact FA e
theorem Paired.BJ{α β:Type}{F G:α->β->Prop}:∀{l₁:List α} {l₂:List β},Paired F l₁ l₂->(∀a b,F a b->G a b)->Paired G l₁ l₂
 |_,_,.nil,_=>.nil
 |_,_,.cons r t,f=>.cons (f _ _ r) (Paired.BJ t f)
theorem bF.stay(x:bF P w H h a o)(k:∀b u,(b=a\/H b=some (.own a))->h.get? b=some u->h'.get? b=some u)
  (ho:∀b,H b=some (.own a)->H' b=some (.own a)) (hf:∀b o c,H b=some (.frz o (.own c))->H' b=some (.frz o (.own c))) (ht:∀b xs,H b=some (.tup xs)->H' b=some (.tup xs)):bF P w H' h' a o:=by
 induction o with
 |lst xs=>obtain⟨z,its,n,r,e⟩:=x;exact⟨z,its,n,r,k _ _ (.inl rfl) e⟩
 |tup xs=>obtain⟨z,its,r,ob,e,c⟩:=x;exact⟨z,its,r,ob,k _ _ (.inl rfl) e,c⟩
 |dK kvs=>obtain⟨z,y,vs,r,ob,es,ep,e,c⟩:=x;exact⟨z,y,vs,r,ob,es,ep,k _ _ (.inl rfl) e,c⟩
 |dT kvs ts=>obtain⟨z,y,xs,r,ob,es,ep,e,c⟩:=x;exact⟨z,y,xs,Paired.BJ r fun p q z=>⟨z.1,ht _ _ z.2.1,z.2.2⟩,ob,es,ep,k _ _ (.inl rfl) e,c⟩
 |set S n=>obtain⟨ob,es,ep,t,e,c⟩:=x;exact⟨ob,es,ep,t,k _ _ (.inl rfl) e,c⟩
 |ins C dx fs=>obtain⟨d,z,ne,e,mA,⟨od,es,ep,e2,c⟩,r⟩:=x;exact⟨ho _ d,z,ne,k _ _ (.inl rfl) e,mA,⟨od,es,ep,k _ _ (.inr d) e2,c⟩,r⟩
 |own y=>obtain⟨ob,e⟩:=x;exact⟨ob,k _ _ (.inl rfl) e⟩
 |xd fs=>obtain⟨mA,⟨od,es,ep,e,c⟩,r⟩:=x;exact⟨mA,⟨od,es,ep,k _ _ (.inl rfl) e,c⟩,r⟩
 |rng lo hi=>obtain⟨t,u,v,e⟩:=x;exact⟨t,u,v,k _ _ (.inl rfl) e⟩
 |frz ob u ih=>obtain⟨e,q⟩:=x;exact⟨k _ _ (.inl rfl) e,ih q⟩
 |tbl ln cl q=>
  obtain⟨ps,e,d⟩:=x;refine⟨ps,k _ _ (.inl rfl) e,?_⟩;rcases d with d | ⟨c,oc,vs,t,d,d2,d3⟩
  ·exact .inl d
  ·exact .inr ⟨c,oc,vs,t,d,hf _ _ _ d2,d3⟩
 |met f y=>have e:h.get? a=some (HW (.ref f) (.ref y)):=x;show h'.get? a=some (HW (.ref f) (.ref y));exact k a _ (.inl rfl) e
 |ext φ=>obtain⟨p,⟨o,e⟩,st⟩:=x;exact⟨st _ _ p fun o q=>k _ _ (.inl rfl) q,⟨o,k _ _ (.inl rfl) e⟩,st⟩
theorem HOk.lt(x:HOk P w H h)(e:H a=some o):a<h.objs.size:=(x a o e).lt
theorem HOk.fresh(x:HOk P w H h)(e:h.objs.size<=a):H a=none:=by
 cases q:H a with
 |none=>rfl
 |some u=>exact absurd (FJ (x.lt q) e) (GW _)
theorem HOk.kept(x:HOk P w H h)(k:∀b u,h.get? b=some u->h'.get? b=some u):HOk P w H h':=fun a o e=>(x a o e).stay (fun b u _ q=>k b u q) (fun _ q=>q) (fun _ _ _ q=>q) fun _ _ q=>q
theorem HOk.laid(x:HOk P w H h)(k:∀b u,h.get? b=some u->h'.get? b=some u)(hp:h.objs.size<=a)(new:bF P w (upd H a o) h' a o):HOk P w (upd H a o) h':=fun b u e=>by
 have hn:=x.fresh hp;by_cases hb:b=a
 ·subst hb;rw[aN]at e;cases e;exact new
 ·rw[ay hb]at e;exact(x b u e).stay (fun c v _ q=>k c v q) (fun c q=>by rw[ay (aM q hn)];exact q) (fun c _ _ q=>by rw[ay (aM q hn)];exact q) fun c xs q=>by rw[ay (aM q hn)];exact q
end
def Rd(H:Hp)(a:Addr)(u:HO):Prop:=H a=some u\/∃o,H a=some (.frz o u)
theorem Rd.ok{P:Program}{w:World}{H:Hp}{h:Heap}{a:Addr}{u:HO}(r:Rd H a u)(x:HOk P w H h):bF P w H h a u:=by
 rcases r with r | ⟨o,r⟩
 ·exact x a u r
 ·obtain⟨_,q⟩:=x a _ r;exact q
def Mut:Option HO->Prop
 |some (.lst _)=>True
 |some (.dK _)=>True
 |some (.dT _ _)=>True
 |some (.set _ _)=>True
 |some (.ins _ _ _)=>True
 |some (.ext _)=>True
 |_=>False
section
variable{P:Program}{w:World}{H:Hp}{h h':Heap}{x e:Addr}{o':HO}
theorem HOk.write(ok:HOk P w H h)(mu:Mut (H x))(he:e=x\/H e=some (.own x))(k:∀b u,b≠e->h.get? b=some u->h'.get? b=some u)(heo:∃u,h'.get? e=some u)
  (new:bF P w (upd H x o') h' x o'):HOk P w (upd H x o') h':=fun b u q=>by
 have BK:∀c y,H c=some (.own y)->c≠x:=fun c y r z=>by subst z;rw[r]at mu;exact mu
 have Ei:∀c xs,H c=some (.tup xs)->c≠x:=fun c xs r z=>by subst z;rw[r]at mu;exact mu
 have Ej:∀c o y,H c=some (.frz o y)->c≠x:=fun c o y r z=>by subst z;rw[r]at mu;exact mu
 by_cases hb:b=x
 ·subst hb;rw[aN]at q;cases q;exact new
 ·rw[ay hb]at q;by_cases hbe:b=e
  ·have q':H b=some (.own x):=by
    rcases he with z | z
    ·exact absurd (hbe.trans z) hb
    ·rw[hbe];exact z
   rw[q]at q';cases q';obtain⟨v,hv⟩:=heo;exact⟨v,by rw[hbe];exact hv⟩
  ·refine(ok b u q).stay (fun c v hc r=>k c v ?_ r) (fun c r=>by rw[ay (BK c b r)];exact r) (fun c _ _ r=>by rw[ay (Ej c _ _ r)];exact r) fun c xs r=>by rw[ay (Ei c xs r)];exact r
   rcases hc with rfl | hc
   ·exact hbe
   ·rintro rfl;rcases he with z | z
    ·exact BK c b hc z
    ·rw[hc]at z;cases z;exact hb rfl
end
structure Un(fs ex:List Addr)(H H':Hp)(h h':Heap):Prop where
 keep:∀b o,h.get? b=some o->H b=none->b∉fs->b∉ex->h'.get? b=some o
 slot:∀b o,h.get? b=some o->H b=none->b∈fs->b∉ex->∃sl,h'.get? b=some { o with slots:=sl }
 free:∀b o,h.get? b=some o->H b=none->b∉ex->H' b=none
 there:∀b o,h.get? b=some o->b∉ex->∃o',h'.get? b=some o'
 tups:∀b xs,H b=some (.tup xs)->H' b=some (.tup xs)
 iU:∀b o u,H b=some (.frz o u)->H' b=some (.frz o u)
 ji:∀b x y z,H b=some (.tbl x y z)->H' b=some (.tbl x y z)
section
variable{fs fs' ex ex':List Addr}{H H1 H2:Hp}{h h1 h2 h':Heap}{a x e:Addr}{o:HO}
theorem Un.any(u:Un fs ex H H1 h h1){b:Addr}{ob:Obj}(q:h.get? b=some ob)(n:H b=none)(hx:b∉ex):∃sl,h1.get? b=some { ob with slots:=sl }:=by
 by_cases hb:b∈fs
 ·exact u.slot b ob q n hb hx
 ·exact⟨ob.slots,u.keep b ob q n hb hx⟩
theorem Un.kept(k:∀b u,h.get? b=some u->h'.get? b=some u):Un fs ex H H h h':=
 ⟨fun b ob q _ _ _=>k b ob q,fun b ob q _ _ _=>⟨ob.slots,k b ob q⟩,fun _ _ _ n _=>n,fun b ob q _=>⟨ob,k b ob q⟩,fun _ _ q=>q,fun _ _ _ q=>q,fun _ _ _ _ q=>q⟩
theorem Un.refl:Un fs ex H H h h:=Un.kept fun _ _ q=>q
theorem Un.laid(k:∀b u,h.get? b=some u->h'.get? b=some u)(hp:h.objs.size<=a)(hn:H a=none):Un fs ex H (upd H a o) h h' where
 keep:=fun b u q _ _ _=>k b u q
 slot:=fun b u q _ _ _=>⟨u.slots,k b u q⟩
 free:=fun b u q n _=>by rw[ay (Gm (FJ (FA q) hp))];exact n
 there:=fun b u q _=>⟨u,k b u q⟩
 tups:=fun b xs q=>by rw[ay (aM q hn)];exact q
 iU:=fun b u xs q=>by rw[ay (aM q hn)];exact q
 ji:=fun b _ _ _ q=>by rw[ay (aM q hn)];exact q
theorem Un.write(mu:Mut (H x))(he:e=x\/H e=some (.own x))(k:∀b u,b≠e->h.get? b=some u->h'.get? b=some u)(heo:∃u,h'.get? e=some u):Un fs ex H (upd H x o) h h':=by
 have hx:∀b,H b=none->b≠x:=fun b n z=>by subst z;rw[n]at mu;exact mu
 have hb:∀b,H b=none->b≠e:=fun b n z=>by
  subst z;rcases he with r | r
  ·exact hx b n r
  ·rw[n]at r;cases r
 have hm:∀b u,H b=some u->¬Mut (some u)->b≠x:=fun b u q nm z=>by subst z;rw[q]at mu;exact nm mu
 refine ⟨fun b u q n _ _=>k b u (hb b n) q,fun b u q n _ _=>⟨u.slots,k b u (hb b n) q⟩,fun b u q n _=>by rw [ay (hx b n)];exact n,fun b u q _=>?_,
  fun b xs q=>by rw[ay (hm b _ q fun z=>z)];exact q,fun b u xs q=>by rw[ay (hm b _ q fun z=>z)];exact q,fun b _ _ _ q=>by rw[ay (hm b _ q fun z=>z)];exact q⟩
 by_cases hbe:b=e
 ·subst hbe;exact heo
 ·exact⟨u,k b u hbe q⟩
end
section
variable{h:Heap}{b:Addr}{o:Obj}{H:Hp}
noncomputable def trk(h:Heap)(H:Hp):List Addr:=(GO h.objs.size).filter fun a=>(H a).isSome
noncomputable def lG(h:Heap)(H:Hp):Heap:=Ig h (trk h H)
theorem qX(h:Heap)(H:Hp):(lG h H).objs.size=h.objs.size:=PySem.W.hideAll_size _ _
theorem sC(e:h.get? b=some o)(n:H b=none):(lG h H).get? b=some o:=
 PySem.W.hideAll_get _ e fun hm=>by have q:(H b).isSome=true:=(List.mem_filter.mp hm).2;rw[n]at q;simp at q
theorem v8(e:(lG h H).get? b=some o):h.get? b=some o/\H b=none:=by
 have e':h.get? b=some o:=PySem.W.of_hideAll (trk h H) e;refine⟨e',?_⟩;cases q:H b with
 |none=>rfl
 |some x=>have hm:b∈trk h H:=List.mem_filter.mpr ⟨GL.mpr (FA e'),by simp[q]⟩;have z:(lG h H).get? b=none:=PySem.W.hideAll_none (trk h H) hm;rw[z]at e;cases e
structure Mod(K:fj)(mg:Str->Option Value)(base:Heap):Prop where
 kin:K.In base
 glob:base.Ns mainGlobals mg
 blt:∃mb,base.Ns builtinsNs mb/\∀x:Str,x ≠ "__name__" -> mb x=bootBuiltins x
 nolimit:base.NoLimit
structure Cx where
 prog:Program
 w:World
 K:fj
 mg:Str->Option Value
 base:Heap
 A:Around
 N:List Str
 s₀:Shared
 H₀:Hp
 env:Env
 outer:List Env
 stack:List Env
 ex:List Addr
 fn:Str->Bool
 calm:Bool
 pn:List (Addr×Obj)
 xe:Value->Shared->Prop
noncomputable def frs(l:List Env):List Addr:=l.filterMap (·.frame)
noncomputable abbrev Cx.fs(X:Cx):List Addr:=frs X.outer
def Vis(sc:Scope)(x:Str):Prop:=sc.names.lookup x=some .local\/sc.names.lookup x=some .cell\/sc.names.lookup x=some .free
def Loc(sc:Scope)(x:Str):Prop:=sc.names.lookup x=some .local\/sc.names.lookup x=some .cell
def Look(env:Env)(h:Heap)(m:Str->Option Value)(x:Str)(u:Value):Prop:=
 (env.kindOf x=some .local/\m x=some u)\/((env.kindOf x=some .cell\/env.kindOf x=some .free)/\∃c,env.cells.lookup x=some c/\h.IsCell c (some u))
structure Cx.Ok(X:Cx):Prop where
 mod:Mod X.K X.mg X.base
 kind:X.env.scope.kind=.function
 glob:X.env.globals=mainGlobals
 blt:X.env.builtins=builtinsNs
 above:X.s₀.heap.objs.size<=X.env.locals
 inj:∀x y c,X.env.cells.lookup x=some c->X.env.cells.lookup y=some c->x=y
 has:∀x,(X.env.kindOf x=some .cell\/X.env.kindOf x=some .free)->∃c,X.env.cells.lookup x=some c
 cab:∀x c,X.fn x=true->X.env.cells.lookup x=some c->X.s₀.heap.objs.size<=c
 hd:X.calm=true->X.A.handled=none
 frames:X.A.frames=some X.stack
 stk:X.stack=X.outer\/(X.stack=X.env::X.outer/\X.env.frame=some X.env.locals)
 exf:∀b∈X.ex,b≠X.env.locals/\∀x c,X.env.cells.lookup x=some c->c≠b
 bs:∀b o,X.base.get? b=some o->X.s₀.heap.get? b=some o/\X.H₀ b=none
 bsz:X.base.objs.size<=X.s₀.heap.objs.size
 sD:∀b o,X.base.get? b=some o->b∉X.ex
 v9:∀b∈X.ex,b∉X.fs
 iV:X.s₀.heap.FunFrames X.base X.outer
 frf:∀b∈X.fs,X.H₀ b=none
structure Inv(X:Cx)(ez:List (Addr×Obj))(σ:List (Option V))(H:Hp)(s:Shared):Prop where
 ok:X.Ok
 os:s.os=X.s₀.os
 bare:AllBare s.gens
 base:Un X.fs X.ex X.H₀ H X.s₀.heap s.heap
 loc:∃m,s.heap.Ns X.env.locals m/\∀(i:Nat) (x:Str) (v:V),X.N[i]?=some x->σ[i]?=some (some v)->Vis X.env.scope x->∃u,RelV v u/\Look X.env s.heap m x u
 cell:∀x c,X.env.cells.lookup x=some c->∃v,s.heap.IsCell c v
 free:H X.env.locals=none
 cN:∀x c,X.env.cells.lookup x=some c->H c=none
 pin:∀p∈X.pn++ez,s.heap.get? p.1=some p.2/\H p.1=none/\p.1≠X.env.locals/\p.1∉X.fs/\∀v,p.2.data≠.cell v
 hok:HOk X.prog X.w H s.heap
 len:σ.length=X.N.length
end
section
variable{X:Cx}{ez:List (Addr×Obj)}{σ:List (Option V)}{H H':Hp}{s:Shared}{h':Heap}
section
variable{ch:List Addr}{x:Str}{u:Value}{a:Addr}{t':Nat}{i:Nat}{v:V}
theorem Cx.Ok.Ek(ok:X.Ok){b:Addr}{o:Obj}(e:X.base.get? b=some o):b∉X.fs:=fun hb=>by have:=(ok.iV.mem hb).1;rw[e]at this;cases this
theorem Inv.bs(I:Inv X ez σ H s):∀b o,X.base.get? b=some o->s.heap.get? b=some o/\H b=none:=fun b o e=>⟨I.base.keep b o (I.ok.bs b o e).1 (I.ok.bs b o e).2 (I.ok.Ek e) (I.ok.sD b o e),I.base.free b o (I.ok.bs b o e).1 (I.ok.bs b o e).2 (I.ok.sD b o e)⟩
theorem Inv.bk(I:Inv X ez σ H s):∀b o,X.base.get? b=some o->s.heap.get? b=some o:=fun b o e=>(I.bs b o e).1
theorem Inv.mod(I:Inv X ez σ H s):Mod X.K X.mg X.base:=I.ok.mod
theorem Inv.kIn(I:Inv X ez σ H s):X.K.In s.heap:=I.ok.mod.kin.keeps I.bk
theorem Inv.lt(I:Inv X ez σ H s):X.env.locals<s.heap.objs.size:=let ⟨_,hn,_⟩:=I.loc;hn.lt
theorem Inv.sz(I:Inv X ez σ H s):X.s₀.heap.objs.size<=s.heap.objs.size:=FQ I.ok.above (Hh I.lt)
theorem Inv.El(I:Inv X ez σ H s)(h:s.heap.objs.size<=a):a∉X.fs:=fun hb=>by obtain⟨_,o,ho,_⟩:=I.ok.iV.mem hb;exact absurd (FJ (FA ho) (FQ I.sz h)) (GW _)
theorem Inv.cne(I:Inv X ez σ H s):∀x c,X.env.cells.lookup x=some c->c≠X.env.locals:=fun x c e z=>by obtain⟨v,o,ho,hd⟩:=I.cell x c e;obtain⟨m,⟨o',es,ep,ho',hd',_⟩,_⟩:=I.loc;rw[z,ho']at ho;cases ho;rw[hd']at hd;cases hd
theorem Inv.iV(I:Inv X ez σ H s):s.heap.FunFrames X.base X.outer:=by
 have all:∀(l:List Env),(∀b∈frs l,b∈X.fs)->X.s₀.heap.FunFrames X.base l->s.heap.FunFrames X.base l:=by
  intro l
  induction l with
  |nil=>intro _ _;trivial
  |cons env r ih=>intro hs hl;obtain⟨hk,⟨L,o,hf,hn,ho,hd⟩,hr⟩:=hl;have hL:L∈X.fs:=hs L (by unfold frs;rw[GU,hf];exact Fq);obtain⟨sl,e⟩:=I.base.slot L o ho (I.ok.frf L hL) hL fun z=>I.ok.v9 L z hL;exact⟨hk,⟨L,_,hf,hn,e,hd⟩,ih (fun b hb=>hs b (by unfold frs;rw[GU,hf];exact Fv _ hb)) hr⟩
 exact all X.outer (fun _ hb=>hb) I.ok.iV
theorem Inv.stack(I:Inv X ez σ H s):s.heap.FunFrames X.base X.stack:=by
 rcases I.ok.stk with e | ⟨e,hf⟩
 ·rw[e];exact I.iV
 ·rw[e];obtain⟨m,hn,_⟩:=I.loc;refine .cons (by rw[I.ok.kind];decide) hf hn ?_ I.iV;exact Heap.get?_none_of_le (FQ I.ok.bsz I.ok.above)
theorem Inv.jj(I:Inv X ez σ H s):∀b∈frs X.stack,b∈X.env.locals::X.fs:=fun b hb=>by
 rcases I.ok.stk with e | ⟨e,hf⟩
 ·rw[e]at hb;exact Fv _ hb
 ·rw[e]at hb;unfold frs at hb;rw[GU,hf]at hb;exact hb
theorem Inv.lH(I:Inv X ez σ H s):∀b∈frs X.stack,H b=none:=fun b hb=>by
 rcases F9.mp (I.jj b hb) with e | hb
 ·rw[e];exact I.free
 ·obtain⟨_,o,ho,_⟩:=I.ok.iV.mem hb;exact I.base.free b o ho (I.ok.frf b hb) fun z=>I.ok.v9 b z hb
theorem Inv.step{g':Array GenState}{t':Nat}{d':Drawn}{ch:List Addr}(I:Inv X ez σ H s)
  (hch:∀b∈ch,(b∈X.ex\/X.s₀.heap.objs.size<=b)/\b≠X.env.locals/\(∀x c,X.env.cells.lookup x=some c->c≠b)/\∀p∈X.pn++ez,p.1≠b)
  (keep:∀b o,b≠X.env.locals->b∉X.fs->b∉ch->s.heap.get? b=some o->H b=none->h'.get? b=some o)
  (slot:∀b o,b≠X.env.locals->b∈X.fs->b∉ch->s.heap.get? b=some o->H b=none->∃sl,h'.get? b=some { o with slots:=sl }) (free:∀b o,b∉ch->s.heap.get? b=some o->H b=none->H' b=none)
  (there:∀b o,b∉ch->s.heap.get? b=some o->∃o',h'.get? b=some o')
  (tups:∀b xs,H b=some (.tup xs)->H' b=some (.tup xs)) (iU:∀b o u,H b=some (.frz o u)->H' b=some (.frz o u)) (ji:∀b x y z,H b=some (.tbl x y z)->H' b=some (.tbl x y z))
  (ns:∀m,s.heap.Ns X.env.locals m->h'.Ns X.env.locals m) (hok:HOk X.prog X.w H' h') (hg:AllBare g') :
  Inv X ez σ H' { s with heap:=h',gens:=g',drawn:=d',toks:=t' }:=by
 have neL:∀b o,X.s₀.heap.get? b=some o->b≠X.env.locals:=fun b o e=>Gm (FJ (FA e) I.ok.above);have neC:∀b o,X.s₀.heap.get? b=some o->b∉X.ex->b∉ch:=fun b o e hx hb=>by
  rcases (hch b hb).1 with z | z
  ·exact hx z
  ·exact absurd (FJ (FA e) z) (GW _)
 have cellK:∀x c,X.env.cells.lookup x=some c->∀v,s.heap.IsCell c v->h'.IsCell c v:=fun x c e v ⟨o,ho,hd⟩=>by
  have nch:c∉ch:=fun z=>(hch c z).2.2.1 x c e rfl;by_cases hc:c∈X.fs
  ·obtain⟨sl,q⟩:=slot c o (I.cne x c e) hc nch ho (I.cN x c e);exact⟨_,q,hd⟩
  ·exact⟨o,keep c o (I.cne x c e) hc nch ho (I.cN x c e),hd⟩
 refine⟨I.ok,I.os,hg,⟨fun b o e n hb hx=>?_,fun b o e n hb hx=>?_,fun b o e n hx=>?_,fun b o e hx=>?_,fun b xs e=>tups b xs (I.base.tups b xs e),fun b o xs e=>iU b o xs (I.base.iU b o xs e),fun b x y z e=>?_⟩,?_,fun x c e=>?_,?_,fun x c e=>?_,fun p hp=>?_,hok,I.len⟩
 ·exact keep b o (neL b o e) hb (neC b o e hx) (I.base.keep b o e n hb hx) (I.base.free b o e n hx)
 ·obtain⟨sl,e1⟩:=I.base.slot b o e n hb hx;obtain⟨sl',e2⟩:=slot b _ (neL b o e) hb (neC b o e hx) e1 (I.base.free b o e n hx);exact⟨sl',e2⟩
 ·obtain⟨o',e1⟩:=I.base.there b o e hx;exact free b o' (neC b o e hx) e1 (I.base.free b o e n hx)
 ·obtain⟨o',e1⟩:=I.base.there b o e hx;exact there b o' (neC b o e hx) e1
 ·exact ji _ _ _ _ (I.base.ji _ _ _ _ e)
 ·obtain⟨m,hn,hl⟩:=I.loc;refine⟨m,ns m hn,fun i x v e1 e2 e3=>?_⟩;obtain⟨u,r,l⟩:=hl i x v e1 e2 e3;refine⟨u,r,?_⟩;rcases l with l | ⟨k,c,e,z⟩
  ·exact .inl l
  ·exact .inr ⟨k,c,e,cellK x c e _ z⟩
 ·obtain⟨v,z⟩:=I.cell x c e;exact⟨v,cellK x c e v z⟩
 ·obtain⟨m,⟨o,_,_,ho,_⟩,_⟩:=I.loc;exact free _ o (fun z=>(hch _ z).2.1 rfl) ho I.free
 ·obtain⟨v,o,ho,hd⟩:=I.cell x c e;exact free c o (fun z=>(hch c z).2.2.1 x c e rfl) ho (I.cN x c e)
 ·obtain⟨e,n,ne,nf,d⟩:=I.pin p hp;have nch:p.1∉ch:=fun z=>(hch p.1 z).2.2.2 p hp rfl;exact⟨keep p.1 p.2 ne nf nch e n,free p.1 p.2 nch e n,ne,nf,d⟩
theorem Inv.un(I:Inv X ez σ H s)(u:Un X.fs [] H H' s.heap h')(hok:HOk X.prog X.w H' h'):Inv X ez σ H' { s with heap:=h',toks:=t' }:=by
 obtain⟨m,⟨o,es,ep,ho,r⟩,_⟩:=id I.loc;obtain⟨sl,hL⟩:=u.any ho I.free (by simp);exact I.step (g':=s.gens) (d':=s.drawn) (ch:=[]) (fun _ z=>nomatch z) (fun b o _ hb _ e n=>u.keep b o e n hb (by simp)) (fun b o _ hb _ e n=>u.slot b o e n hb (by simp)) (fun b o _ e n=>u.free b o e n (by simp)) (fun b o _ e=>u.there b o e (by simp)) u.tups u.iU u.ji (fun m' hm=>by obtain⟨o',es',ep',ho',r'⟩:=hm;rw[ho]at ho';cases ho';exact⟨_,es',ep',hL,r'⟩) hok I.bare
theorem Inv.call{g':Array GenState}{t':Nat}{d':Drawn}(I:Inv X ez σ H s)(u:Un (frs X.stack) ch H H' s.heap h')(hok:HOk X.prog X.w H' h')(hg:AllBare g')
  (hch:∀b∈ch,(b∈X.ex\/X.s₀.heap.objs.size<=b)/\b≠X.env.locals/\(∀x c,X.env.cells.lookup x=some c->c≠b)/\∀p∈X.pn++ez,p.1≠b) :
  Inv X ez σ H' { s with heap:=h',gens:=g',drawn:=d',toks:=t' }:=by
 obtain⟨m,⟨o,es,ep,ho,r⟩,_⟩:=id I.loc;obtain⟨sl,hL⟩:=u.any ho I.free fun z=>(hch _ z).2.1 rfl;exact I.step (ch:=ch) hch (fun b o hL hb hc e n=>u.keep b o e n (fun z=>(F9.mp (I.jj b z)).elim hL hb) hc) (fun b o _ _ hc e n=>u.any e n hc) (fun b o hc e n=>u.free b o e n hc) (fun b o hc e=>u.there b o e hc) u.tups u.iU u.ji (fun m' hm=>by obtain⟨o',es',ep',ho',r'⟩:=hm;rw[ho]at ho';cases ho';exact⟨_,es',ep',hL,r'⟩) hok hg
theorem Inv.turned{t':Nat}{it:Addr}(I:Inv X ez σ H s)(k:∀b o,b≠it->s.heap.get? b=some o->h'.get? b=some o)(hn:H it=none)(hL:it≠X.env.locals)
  (h1:it∈X.ex\/X.s₀.heap.objs.size<=it) (h2:∀x c,X.env.cells.lookup x=some c->c≠it) (h3:∀p∈X.pn++ez,p.1≠it):Inv X ez σ H { s with heap:=h',toks:=t' }:=by
 have nit:∀b u,H b=some u->b≠it:=fun b u e z=>by rw[z,hn]at e;cases e
 refine I.step (g':=s.gens) (d':=s.drawn) (ch:=[it]) (fun b hb=>?_) (fun b o _ _ hc e _=>k b o (fun z=>hc (by simp[z])) e) (fun b o _ _ hc e _=>⟨o.slots,k b o (fun z=>hc (by simp[z])) e⟩) (fun _ _ _ _ n=>n)
  (fun b o hc e=>⟨o,k b o (fun z=>hc (by simp[z])) e⟩) (fun _ _ e=>e) (fun _ _ _ e=>e) (fun _ _ _ _ e=>e) (fun m hm=>?_) (fun b u e=>?_) I.bare
 ·have e:b=it:=by simpa using hb
  subst e;exact⟨h1,hL,h2,h3⟩
 ·obtain⟨o,es,ep,ho,r⟩:=hm;exact⟨o,es,ep,k _ o (Gx hL) ho,r⟩
 ·refine(I.hok b u e).stay (fun c v hc q=>k c v ?_ q) (fun _ q=>q) (fun _ _ _ q=>q) fun _ _ q=>q;rcases hc with z | z
  ·rw[z];exact nit b u e
  ·exact nit c _ z
theorem Inv.tok(I:Inv X ez σ H s)(t:Nat):Inv X ez σ H { s with toks:=t }:=I.un (h':=s.heap) (t':=t) Un.refl I.hok
theorem Inv.kept(I:Inv X ez σ H s)(k:∀b u,s.heap.get? b=some u->h'.get? b=some u):Inv X ez σ H { s with heap:=h',toks:=t' }:=I.un (Un.kept k) (I.hok.kept k)
theorem Inv.laid{o:HO}{t':Nat}(I:Inv X ez σ H s)(k:∀b u,s.heap.get? b=some u->h'.get? b=some u)(hp:s.heap.objs.size<=a)(new:bF X.prog X.w (upd H a o) h' a o) :
  Inv X ez σ (upd H a o) { s with heap:=h',toks:=t' }:=I.un (Un.laid k hp (I.hok.fresh hp)) (I.hok.laid k hp new)
theorem Inv.write{x e:Addr}{o:HO}{t':Nat}(I:Inv X ez σ H s)(mu:Mut (H x))(he:e=x\/H e=some (.own x))(k:∀b u,b≠e->s.heap.get? b=some u->h'.get? b=some u)(heo:∃u,h'.get? e=some u)
  (new:bF X.prog X.w (upd H x o) h' x o):Inv X ez σ (upd H x o) { s with heap:=h',toks:=t' }:=I.un (Un.write mu he k heo) (I.hok.write mu he k heo new)
theorem Inv.qd{yC:List (Addr×Obj)}(I:Inv X ez σ H s)(h:∀p∈yC,s.heap.get? p.1=some p.2/\H p.1=none/\p.1≠X.env.locals/\p.1∉X.fs/\∀v,p.2.data≠.cell v):Inv X yC σ H s:=
 ⟨I.ok,I.os,I.bare,I.base,I.loc,I.cell,I.free,I.cN,fun p hp=>(Gr.mp hp).elim (fun z=>I.pin p (Hw _ z)) (h p),I.hok,I.len⟩
theorem jk{N:List Str}(hN:N.Nodup){i j:Nat}(a:N[i]?=some x)(b:N[j]?=some x):i=j:=by obtain⟨h1,e1⟩:=F5.mp a;obtain⟨h2,e2⟩:=F5.mp b;exact(List.getElem_inj hN).mp (e1.trans e2.symm)
theorem ig{M:Model}{A:Around}{E:Value->Shared->Prop}{Q:Unit->Shared->Prop}(I:Inv X ez σ H s)(hN:X.N.Nodup)(hi:X.N[i]?=some x)(hx:Loc X.env.scope x)(r:RelV v u)
  (h:∀s',Inv X ez (σ.set i (some v)) H s'->(∃a,Hx a s.heap s'.heap/\(a=X.env.locals\/X.env.cells.lookup x=some a))->Q () s') (hf:X.fn x=true\/X.env.scope.names.lookup x=some .local:=by trivial):wpAny M A (storeName X.env x u) Q E s:=by
 obtain⟨m,hn,hl⟩:=id I.loc;have hcls:(X.env.scope.kind == .class||(X.env.scope.kind == .module&&X.env.locals != X.env.globals))=false:=by rw[I.ok.kind];rfl
 have hiσ:i<σ.length:=by rw[I.len];exact(F5.mp hi).1
 have cne:=I.cne;have tracked:∀{a:Addr} {h':Heap},(∃o,s.heap.get? a=some o/\H a=none)->Hx a s.heap h'->HOk X.prog X.w H h':=fun {a h'} ha hs b ob e=>by
  obtain⟨_,_,hfree⟩:=ha;refine(I.hok b ob e).stay (fun c w' hc q=>(hs.2 c ?_).trans q) (fun _ q=>q) (fun _ _ _ q=>q) fun _ _ q=>q;rintro rfl;rcases hc with rfl | hc
  ·rw[hfree]at e;cases e
  ·rw[hfree]at hc;cases hc
 rcases hx with hk | hk
 ·refine wpAny_storeName_local hk hn (fun h' hn' hs=>?_) hcls;obtain⟨oL,_,_,hoL,_⟩:=id hn;refine h _ ⟨I.ok,I.os,I.bare,⟨fun b o e n hb hx=>?_,fun b o e n hb hx=>?_,I.base.free,fun b o e hx=>?_,I.base.tups,I.base.iU,I.base.ji⟩,⟨_,hn',fun j y v' e1 e2 e3=>?_⟩,fun y c e=>?_,I.free,I.cN,fun p hp=>?_,tracked ⟨oL,hoL,I.free⟩ hs,by simpa using I.len⟩ ⟨_,hs,.inl rfl⟩
  ·exact(hs.2 b (Gm (FJ (FA e) I.ok.above))).trans (I.base.keep b o e n hb hx)
  ·obtain⟨sl,e1⟩:=I.base.slot b o e n hb hx;exact⟨sl,(hs.2 b (Gm (FJ (FA e) I.ok.above))).trans e1⟩
  ·obtain⟨o',e1⟩:=I.base.there b o e hx;exact⟨o',(hs.2 b (Gm (FJ (FA e) I.ok.above))).trans e1⟩
  ·by_cases hj:j=i
   ·subst hj;rw[hi]at e1;cases e1;rw[F8 hiσ]at e2;cases e2;exact⟨u,r,.inl ⟨hk,by simp⟩⟩
   ·rw[gc (Gx hj)]at e2;obtain⟨u',r',q⟩:=hl j y v' e1 e2 e3;refine⟨u',r',?_⟩;rcases q with⟨k,e⟩ | ⟨k,c,e,z⟩
    ·refine .inl ⟨k,?_⟩;have:y≠x:=fun e=>hj (jk hN e1 (e▸hi));simp[this,e]
    ·exact .inr ⟨k,c,e,z.sameBut hs (cne y c e)⟩
  ·obtain⟨w',z⟩:=I.cell y c e;exact⟨w',z.sameBut hs (cne y c e)⟩
  ·obtain⟨e,n,ne,nf,d⟩:=I.pin p hp;exact⟨(hs.2 p.1 ne).trans e,n,ne,nf,d⟩
 ·have hfn:X.fn x=true:=by
   rcases hf with z | z
   ·exact z
   ·rw[z]at hk;cases hk
  obtain⟨c,hc⟩:=I.ok.has x (.inl hk);obtain⟨w',z⟩:=I.cell x c hc;refine wpAny_storeName_cell I.ok.kind hk hc z (fun h' hc' hs=>?_);obtain⟨oc,hoc,Em⟩:=id z;refine h { s with heap:=h' } ⟨I.ok,I.os,I.bare,⟨fun b o e n hb hx=>?_,fun b o e n hb hx=>?_,I.base.free,fun b o e hx=>?_,I.base.tups,I.base.iU,I.base.ji⟩,⟨m,hn.sameBut hs (Gx (cne x c hc)),fun j y v' e1 e2 e3=>?_⟩,fun y c' e=>?_,I.free,I.cN,fun p hp=>?_,tracked ⟨oc,hoc,I.cN x c hc⟩ hs,by simpa using I.len⟩ ⟨c,hs,.inr hc⟩
  ·exact(hs.2 b (Gm (FJ (FA e) (I.ok.cab x c hfn hc)))).trans (I.base.keep b o e n hb hx)
  ·obtain⟨sl,e1⟩:=I.base.slot b o e n hb hx;exact⟨sl,(hs.2 b (Gm (FJ (FA e) (I.ok.cab x c hfn hc)))).trans e1⟩
  ·obtain⟨o',e1⟩:=I.base.there b o e hx;exact⟨o',(hs.2 b (Gm (FJ (FA e) (I.ok.cab x c hfn hc)))).trans e1⟩
  ·by_cases hj:j=i
   ·subst hj;rw[hi]at e1;cases e1;rw[F8 hiσ]at e2;cases e2;exact⟨u,r,.inr ⟨.inl hk,c,hc,hc'⟩⟩
   ·rw[gc (Gx hj)]at e2;obtain⟨u',r',q⟩:=hl j y v' e1 e2 e3;refine⟨u',r',?_⟩;rcases q with q | ⟨k,c',e,z'⟩
    ·exact .inl q
    ·refine .inr ⟨k,c',e,z'.sameBut hs ?_⟩;rintro rfl;exact hj (jk hN e1 (I.ok.inj _ _ _ e hc▸hi))
  ·by_cases hcc:c'=c
   ·subst hcc;exact⟨_,hc'⟩
   ·obtain⟨w2,z2⟩:=I.cell y c' e;exact⟨w2,z2.sameBut hs hcc⟩
  ·obtain⟨e,n,ne,nf,d⟩:=I.pin p hp;refine⟨(hs.2 p.1 ?_).trans e,n,ne,nf,d⟩;intro q;rw[q,hoc]at e;have q':oc=p.2:=Option.some.inj e;exact d w' (by rw[<- q'];exact Em)
theorem mS{M:Model}{A:Around}{E:Value->Shared->Prop}{Q:Unit->Shared->Prop}(I:Inv X ez σ H s)(hN:X.N.Nodup)(hi:X.N[i]?=some x)(hx:Loc X.env.scope x)(r:RelV v u)
  (h:∀s',Inv X ez (σ.set i (some v)) H s'->Q () s') (hf:X.fn x=true\/X.env.scope.names.lookup x=some .local:=by trivial):wpAny M A (storeName X.env x u) Q E s:=
 ig I hN hi hx r (fun s' I' _=>h s' I') hf
theorem Inv.BL{s':Shared}(I:Inv X ez σ H s)(ho:s'.os=s.os)(u:Un (frs X.stack) ch H H' s.heap s'.heap)(hok:HOk X.prog X.w H' s'.heap)(hg:AllBare s'.gens)
  (hch:∀b∈ch,(b∈X.ex\/X.s₀.heap.objs.size<=b)/\b≠X.env.locals/\(∀x c,X.env.cells.lookup x=some c->c≠b)/\∀p∈X.pn++ez,p.1≠b):Inv X ez σ H' s':=by
 obtain⟨h',g',d',t',o'⟩:=s';have e:o'=s.os:=ho;subst e;exact I.call (g':=g') (t':=t') (d':=d') u hok hg hch
end
end
noncomputable abbrev XK:=Value->Option Addr->Hp->Prop
noncomputable abbrev St:=List (Option V)
noncomputable abbrev VK:=V->Hp->Prop
noncomputable abbrev TE:=St->Hp->VK->Prop
noncomputable abbrev TT:=St->Hp->(Bool->Hp->Prop)->Prop
noncomputable abbrev TA:=St->Hp->(List V->Hp->Prop)->Prop
structure Ends where
 nx:St->Hp->Prop
 rt:VK
 bk:St->Hp->Prop:=fun _ _=>False
 ct:St->Hp->Prop:=fun _ _=>False
noncomputable abbrev TS:=Ends->St->Hp->Prop
def EP(X:Cx)(ez:List (Addr×Obj))(σ:St)(Q:VK)(u:Value)(s':Shared):Prop:=∃v H',Inv X ez σ H' s'/\RelV v u/\Q v H'
def TP(X:Cx)(ez:List (Addr×Obj))(σ:St)(Q:Bool->Hp->Prop)(b:Bool)(s':Shared):Prop:=∃H',Inv X ez σ H' s'/\Q b H'
def AP(X:Cx)(ez:List (Addr×Obj))(σ:St)(Q:List V->Hp->Prop)(us:List Value)(s':Shared):Prop:=∃vs H',Inv X ez σ H' s'/\Vals vs us/\Q vs H'
def SP(X:Cx)(ez:List (Addr×Obj))(D:Ends)(f:Flow)(s':Shared):Prop:=
 match f with
 |.next=>∃σ' H',Inv X ez σ' H' s'/\D.nx σ' H'
 |.brk=>∃σ' H',Inv X ez σ' H' s'/\D.bk σ' H'
 |.cont=>∃σ' H',Inv X ez σ' H' s'/\D.ct σ' H'
 |.ret u=>∃v σ' H',Inv X ez σ' H' s'/\RelV v u/\D.rt v H'
def PE(X:Cx)(e:Expr)(t:TE):Prop:=
 ∀(ez:List (Addr×Obj)) (s:Shared) (σ:St) (H:Hp) (Q:VK),Inv X ez σ H s->t σ H Q->wpAny (model X.prog X.w) X.A (eval e X.env) (EP X ez σ Q) X.xe s
def PT(X:Cx)(e:Expr)(t:TT):Prop:=
 ∀(ez:List (Addr×Obj)) (s:Shared) (σ:St) (H:Hp) (Q:Bool->Hp->Prop),Inv X ez σ H s->t σ H Q->wpAny (model X.prog X.w) X.A (isTrue e X.env (eval e X.env)) (TP X ez σ Q) X.xe s
def PW(X:Cx)(e:Expr)(t:TT):Prop:=
 ∀(whole:Sem Value) (ez:List (Addr×Obj)) (s:Shared) (σ:St) (H:Hp) (Q:Bool->Hp->Prop),Inv X ez σ H s->t σ H Q->wpAny (model X.prog X.w) X.A (isTrue e X.env whole) (TP X ez σ Q) X.xe s
theorem PW.pt{X:Cx}{e:Expr}{t:TT}(h:PW X e t):PT X e t:=h _
def PA(X:Cx)(es:List Expr)(t:TA):Prop:=
 ∀(pos:Pos) (ez:List (Addr×Obj)) (s:Shared) (σ:St) (H:Hp) (Q:List V->Hp->Prop),Inv X ez σ H s->t σ H Q->wpAny (model X.prog X.w) X.A (spliced (backTo pos (starEach es X.env))) (AP X ez σ Q) X.xe s
def PS(X:Cx)(st:Stmt)(t:TS):Prop:=
 ∀(ez:List (Addr×Obj)) (s:Shared) (σ:St) (H:Hp) (D:Ends),Inv X ez σ H s->t D σ H->wpAny (model X.prog X.w) X.A (exec st X.env) (SP X ez D) X.xe s
def PSs(X:Cx)(st:List Stmt)(t:TS):Prop:=
 ∀(ez:List (Addr×Obj)) (s:Shared) (σ:St) (H:Hp) (D:Ends),Inv X ez σ H s->t D σ H->wpAny (model X.prog X.w) X.A (execs st X.env) (SP X ez D) X.xe s
theorem thn{α:Type}{t:Sem α}{Q Q':α->Shared->Prop}{M:Model}{A:Around}{E:Value->Shared->Prop}{s:Shared}(h:wpAny M A t Q E s)(hQ:∀a s,Q a s->Q' a s):wpAny M A t Q' E s:=wpAny_mono h hQ fun _ _ x=>x
section
variable{X:Cx}
section
variable{Q:Value->Shared->Prop}{ez:List (Addr×Obj)}{u:Value}{x:Str}{s:Shared}{H:Hp}{σ:St}{t:TE}{v:V}
def zD(i:Nat):TE:=fun σ H Q=>∃v,σ[i]?=some (some v)/\Q v H
def tC(v:V):TE:=fun _ H Q=>Q v H
theorem sE{i:Nat}{pos:Pos}(hN:X.N[i]?=some x)(hv:Vis X.env.scope x)(hd:(x == ("__debug__" : Str))=false:=by decide)(Kg:(x == ("__classdict__" : Str))=false:=by decide):PE X (.Name x pos) (zD i):=by
 intro ez s σ H Q I h;obtain⟨v,e,h⟩:=h;obtain⟨m,hn,hl⟩:=I.loc;obtain⟨u,r,l⟩:=hl i x v hN e hv;have Ke:EP X ez σ Q u s:=⟨v,H,I,r,h⟩
 rcases l with⟨hk,hm⟩ | ⟨hk,c,hc,hcell⟩
 ·exact wpAny_Name (wpAny_loadName_local I.ok.kind hk hn hm Ke) hd
 ·rcases hk with hk | hk
  ·exact wpAny_Name (wpAny_loadName_cell I.ok.kind hk hc hcell Ke) hd
  ·exact wpAny_Name (wpAny_loadName_free I.ok.kind hk hc hcell Ke Kg) hd
theorem zE{i j pos}:PE X (.Constant (.int i) j pos) (tC (.int i)):=fun _ _ _ H _ I h=>wpAny_Constant_int ⟨.int i,H,I.tok _,⟨_,rfl⟩,h⟩
theorem BN{b j pos}:PE X (.Constant (.bool b) j pos) (tC (.bl b)):=fun _ _ _ H _ I h=>Constant_bool ⟨.bl b,H,I,rfl,h⟩
theorem zF{j pos}:PE X (.Constant .none j pos) (tC .non):=fun _ _ _ H _ I h=>Constant_none ⟨.non,H,I,rfl,h⟩
theorem zG{x j pos}:PE X (.Constant (.str x) j pos) (tC (.str x)):=fun _ _ _ H _ I h=>Calls.Constant_str ⟨.str x,H,I.tok _,⟨_,rfl⟩,h⟩
def Gl(X:Cx)(x:Str):Prop:=X.env.kindOf x=some .globalImplicit
theorem gJ{E:Value->Shared->Prop}{pos:Pos}(I:Inv X ez σ H s)(hg:Gl X x)(hm:X.mg x=some u)(h:Q u s)
  (hd:(x == ("__debug__" : Str))=false:=by decide):wpAny (model X.prog X.w) X.A (eval (.Name x pos) X.env) Q E s:=
 Calls.Name_function_global I.ok.kind hg (Calls.loadGlobal_global (by rw[I.ok.glob];exact I.mod.glob.keeps I.bk) hm h) hd
theorem jl{E:Value->Shared->Prop}{pos:Pos}(I:Inv X ez σ H s)(hg:Gl X x)(hm:X.mg x=none)(hv:bootBuiltins x=some u)(h:Q u s)
  (hn:x ≠ "__name__" := by decide) (hd:(x == ("__debug__" : Str))=false:=by decide):wpAny (model X.prog X.w) X.A (eval (.Name x pos) X.env) Q E s:=by
 obtain⟨mb,h1,h2⟩:=I.mod.blt;exact Calls.Name_function_global I.ok.kind hg (Calls.loadGlobal_builtin (by rw[I.ok.glob];exact I.mod.glob.keeps I.bk) hm (by rw[I.ok.blt];exact h1.keeps I.bk) ((h2 x hn).trans hv) h) hd
theorem ja{pos:Pos}(hg:Gl X x)(hm:X.mg x=some u)(r:RelV v u)(hd:(x == ("__debug__" : Str))=false:=by decide):PE X (.Name x pos) (tC v):=
 fun _ _ _ H _ I h=>gJ I hg hm ⟨v,H,I,r,h⟩ hd
theorem qe{pos:Pos}(hg:Gl X x)(hm:X.mg x=none)(hv:bootBuiltins x=some u)(r:RelV v u)(hn:x ≠ "__name__" := by decide)(hd:(x == ("__debug__" : Str))=false:=by decide):PE X (.Name x pos) (tC v):=
 fun _ _ _ H _ I h=>jl I hg hm hv ⟨v,H,I,r,h⟩ hn hd
variable{a b:Expr}{ta tb:TE}{pos:Pos}
def tB(t:TE):TT:=fun σ H Q=>t σ H fun x H1=>∃c,x=.bl c/\Q c H1
theorem zH{e:Expr}(h:PE X e t)(he:∀whole,isTrue e X.env whole=(do let v <- whole;standAt e.pos;holding [v] (truthy v)):=by intro _;rfl):PT X e (tB t):=by intro ez s σ H Q I hw;refine isTrue_plain (thn (h ez s σ H _ I hw) fun v s1 ⟨x,H1,I1,r1,q1⟩=>?_) (he _);obtain⟨d,rfl,q⟩:=q1;cases r1;exact wpAny_truthy_bool ⟨H1,I1,q⟩
variable{tA tB':TT}{uL:List Expr}
def b8(t u:TT):TT:=fun σ H Q=>t σ H fun c H1=>if c=true then u σ H1 Q else Q false H1
def tOr(t u:TT):TT:=fun σ H Q=>t σ H fun c H1=>if c=true then Q true H1 else u σ H1 Q
def aV(t:TT):TT:=fun σ H Q=>t σ H fun c H1=>Q (!c) H1
theorem pw_and1(ha:PT X a tA):PW X (.BoolOp .And [a] pos) tA:=by
 intro wh ez s σ H Q I h;refine isTrue_and (thn (ha ez s σ H Q I h) fun c s1 e=>?_);cases c with
 |true=>exact isTrue_and_nil e
 |false=>exact e
theorem pw_or1(ha:PT X a tA):PW X (.BoolOp .Or [a] pos) tA:=by
 intro wh ez s σ H Q I h;refine isTrue_or (thn (ha ez s σ H Q I h) fun c s1 e=>?_);cases c with
 |false=>exact isTrue_or_nil e
 |true=>exact e
theorem pw_and(ha:PT X a tA)(hb:PW X (.BoolOp .And (b::uL) pos) tB'):PW X (.BoolOp .And (a::b::uL) pos) (b8 tA tB'):=by
 intro wh ez s σ H Q I h;refine isTrue_and (thn (ha ez s σ H _ I h) fun c s1 ⟨H1,I1,q1⟩=>?_);cases c with
 |true=>exact hb wh ez s1 σ H1 Q I1 q1
 |false=>exact⟨H1,I1,q1⟩
theorem pw_or(ha:PT X a tA)(hb:PW X (.BoolOp .Or (b::uL) pos) tB'):PW X (.BoolOp .Or (a::b::uL) pos) (tOr tA tB'):=by
 intro wh ez s σ H Q I h;refine isTrue_or (thn (ha ez s σ H _ I h) fun c s1 ⟨H1,I1,q1⟩=>?_);cases c with
 |true=>exact⟨H1,I1,q1⟩
 |false=>exact hb wh ez s1 σ H1 Q I1 q1
theorem zI(ha:PT X a tA):PT X (.UnaryOp .Not a pos) (aV tA):=by intro ez s σ H Q I h;exact isTrue_not (ha ez s σ H (fun c H1=>Q (!c) H1) I h)
def yD(ta tb:TE):TE:=fun σ H Q=>ta σ H fun x H1=>∃c,x=.bl c/\if c=true then tb σ H1 Q else Q (.bl false) H1
def yE(ta:TE):TE:=fun σ H Q=>ta σ H fun x H1=>∃c,x=.bl c/\Q (.bl (!c)) H1
theorem zJ{op}(h:PE X a t):PE X (.BoolOp op [a] pos) t:=fun ez s σ H Q I hw=>BoolOp_one (h ez s σ H Q I hw)
theorem zK(ha:PE X a ta)(hb:PE X (.BoolOp .And (b::uL) pos) tb):PE X (.BoolOp .And (a::b::uL) pos) (yD ta tb):=by
 intro ez s σ H Q I h;refine BoolOp_and (thn (ha ez s σ H _ I h) fun v s1 ⟨x,H1,I1,r1,q1⟩=>?_);obtain⟨c,rfl,q1⟩:=q1;cases r1;refine wpAny_truthy_bool ?_;cases c with
 |true=>exact hb ez s1 σ H1 Q I1 q1
 |false=>exact⟨.bl false,H1,I1,rfl,q1⟩
theorem zL(ha:PE X a ta):PE X (.UnaryOp .Not a pos) (yE ta):=by intro ez s σ H Q I h;refine UnaryOp_ (thn (ha ez s σ H _ I h) fun v s1 ⟨x,H1,I1,r1,q1⟩=>?_);obtain⟨c,rfl,q1⟩:=q1;cases r1;exact not_of (wpAny_truthy_bool ⟨.bl (!c),H1,I1,rfl,q1⟩)
end
end
def SqL(K:fj)(H:Hp)(a:Addr)(xs:List V):Prop:=
 Rd H a (.lst xs) \/
  ∃(o:Obj) (its:Array Value) (n:Nat),K.lookup a=some o/\o.cls=.type "list" /\ o.dict=none/\o.data=.seq its n/\its.size<=sizeLine/\Vals xs its.toList
def SqT(K:fj)(H:Hp)(a:Addr)(xs:List V):Prop:=
 Rd H a (.tup xs) \/
  ∃(o:Obj) (its:Array Value) (n:Nat),K.lookup a=some o/\o.cls=.type "tuple" /\ o.data=.seq its n/\its.size<=sizeLine/\Vals xs its.toList
noncomputable def En:Value->Option V
 |.none=>some .non
 |.bool b=>some (.bl b)
 |.int i _=>some (.int i)
 |.str x _=>some (.str x)
 |.bytes b _=>some (.byt b)
 |.float b _=>some (.flt b)
 |.ref a=>some (.ref a)
 |.type n=>some (.ty n)
 |_=>none
theorem RelV.abs{x:V}{u:Value}(r:RelV x u):En u=some x:=by
 cases x with
 |non=>cases r;rfl
 |bl _=>cases r;rfl
 |int _=>obtain⟨t,rfl⟩:=r;rfl
 |str _=>obtain⟨t,rfl⟩:=r;rfl
 |byt _=>obtain⟨t,rfl⟩:=r;rfl
 |flt _=>obtain⟨t,rfl⟩:=r;rfl
 |ref _=>cases r;rfl
 |ty _=>cases r;rfl
theorem RelV.inj{x y:V}{u:Value}(r:RelV x u)(q:RelV y u):x=y:=Option.some.inj (r.abs.symm.trans q.abs)
theorem Vals.inj:∀{xs ys:List V} {us:List Value},Vals xs us->Vals ys us->xs=ys
 |_,_,_,.nil,.nil=>rfl
 |_,_,_,.cons r t,.cons r' t'=>by rw[r.inj r',Vals.inj t t']
section
variable{X:Cx}{ez:List (Addr×Obj)}{σ:St}{H:Hp}{s:Shared}{a:Addr}{xs ys:List V}
theorem SqT.of{K:fj}(h:H a=some (.tup xs)):SqT K H a xs:=.inl (.inl h)
theorem Inv.list(I:Inv X ez σ H s)(h:SqL X.K H a xs):∃its:List Value,Vals xs its/\PlainL s.heap a its.toArray/\xs.length<=sizeLine:=by
 rcases h with h | ⟨o,its,n,hk,hc,hd,hs,hz,r⟩
 ·obtain⟨z,its,n,r,e⟩:=h.ok I.hok;exact⟨its,r,⟨_,n,e,rfl,rfl,rfl⟩,z⟩
 ·refine⟨its.toList,r,⟨o,n,I.kIn a o hk,hc,hd,by simpa using hs⟩,?_⟩;have e:=r.length;simp only[Array.length_toList]at e
  lia
theorem Inv.tuple(I:Inv X ez σ H s)(h:SqT X.K H a xs):∃its:List Value,Vals xs its/\IsTup s.heap a its.toArray/\xs.length<=sizeLine:=by
 rcases h with h | ⟨o,its,n,hk,hc,hs,hz,r⟩
 ·obtain⟨z,its,r,p⟩:=h.ok I.hok;exact⟨its,r,p,z⟩
 ·refine⟨its.toList,r,⟨o,I.kIn a o hk,hc,n,by simpa using hs⟩,?_⟩;have e:=r.length;simp only[Array.length_toList]at e
  lia
theorem Inv.sF(I:Inv X ez σ H s)(h:SqL X.K H a xs)(h':SqL X.K H a ys):xs=ys:=by
 obtain⟨its,r,⟨o,n,e,_,_,d⟩,_⟩:=I.list h;obtain⟨its',r',⟨o',n',e',_,_,d'⟩,_⟩:=I.list h';rw[e]at e';cases e';rw[d]at d';injection d' with d1 _
 have:its=its':=by simpa using congrArg Array.toList d1
 subst this;exact r.inj r'
theorem Inv.qY(I:Inv X ez σ H s)(h:SqT X.K H a xs)(h':SqT X.K H a ys):xs=ys:=by
 obtain⟨its,r,⟨o,e,_,n,d⟩,_⟩:=I.tuple h;obtain⟨its',r',⟨o',e',_,n',d'⟩,_⟩:=I.tuple h';rw[e]at e';cases e';rw[d]at d';injection d' with d1 _
 have:its=its':=by simpa using congrArg Array.toList d1
 subst this;exact r.inj r'
end
noncomputable abbrev Cx.kE(X:Cx)(E:Value->Shared->Prop):Cx:={ X with xe:=E }
noncomputable abbrev Cx.nox(X:Cx):Cx:=X.kE fun _ _=>False
theorem Cx.Ok.kE{X:Cx}(ok:X.Ok)(E:Value->Shared->Prop):(X.kE E).Ok:=
 ⟨ok.mod,ok.kind,ok.glob,ok.blt,ok.above,ok.inj,ok.has,ok.cab,ok.hd,ok.frames,ok.stk,ok.exf,ok.bs,ok.bsz,ok.sD,ok.v9,ok.iV,ok.frf⟩
theorem Cx.Ok.eZ{X:Cx}{E:Value->Shared->Prop}(ok:(X.kE E).Ok):X.Ok:=
 ⟨ok.mod,ok.kind,ok.glob,ok.blt,ok.above,ok.inj,ok.has,ok.cab,ok.hd,ok.frames,ok.stk,ok.exf,ok.bs,ok.bsz,ok.sD,ok.v9,ok.iV,ok.frf⟩
section
variable{X:Cx}{ez:List (Addr×Obj)}{σ:St}{H:Hp}{s:Shared}{E:Value->Shared->Prop}
theorem Inv.kE(I:Inv X ez σ H s)(E:Value->Shared->Prop):Inv (X.kE E) ez σ H s:=⟨I.ok.kE E,I.os,I.bare,I.base,I.loc,I.cell,I.free,I.cN,I.pin,I.hok,I.len⟩
theorem Inv.eZ(I:Inv (X.kE E) ez σ H s):Inv X ez σ H s:=⟨I.ok.eZ,I.os,I.bare,I.base,I.loc,I.cell,I.free,I.cN,I.pin,I.hok,I.len⟩
theorem SP.eZ{D:Ends}{f:Flow}{s':Shared}(h:SP (X.kE E) ez D f s'):SP X ez D f s':=by
 cases f with
 |next=>obtain⟨σ',H',I,q⟩:=h;exact⟨σ',H',I.eZ,q⟩
 |brk=>obtain⟨σ',H',I,q⟩:=h;exact⟨σ',H',I.eZ,q⟩
 |cont=>obtain⟨σ',H',I,q⟩:=h;exact⟨σ',H',I.eZ,q⟩
 |ret u=>obtain⟨v,σ',H',I,r,q⟩:=h;exact⟨v,σ',H',I.eZ,r,q⟩
theorem PSs.nox{st:List Stmt}{t:TS}(h:PSs X.nox st t):PSs X st t:=fun ez s σ H D I hw=>wpAny_mono (h ez s σ H D (I.kE _) hw) (fun _ _ q=>q.eZ) fun _ _ z=>FG z
end
section
variable{X:Cx}{st:Stmt}{uL:List Stmt}{t u:TS}{e:Expr}{te:TE}{pos:Pos}
def yF:TS:=fun D σ H=>D.nx σ H
def BO(t u:TS):TS:=fun D σ H=>t { D with nx:=u D } σ H
theorem v_:PSs X [] yF:=fun _ _ σ H _ I h=>wpAny_execs_nil ⟨σ,H,I,h⟩
theorem mT(h1:PS X st t)(h2:PSs X uL u):PSs X (st::uL) (BO t u):=by
 intro ez s σ H D I h;refine wpAny_execs_cons (thn (h1 ez s σ H { D with nx:=u D } I h) fun f s1 q=>?_);cases f with
 |next=>obtain⟨σ',H',I',q⟩:=q;exact h2 ez s1 σ' H' D I' q
 |ret v=>exact q
 |brk=>exact q
 |cont=>exact q
theorem wc(h1:PS X st t):PSs X [st] t:=by
 intro ez s σ H D I h;refine wpAny_execs_cons (thn (h1 ez s σ H D I h) fun f s1 q=>?_);cases f with
 |next=>exact wpAny_execs_nil q
 |ret v=>exact q
 |brk=>exact q
 |cont=>exact q
theorem Inv.quiet{ez:List (Addr×Obj)}{σ:St}{H:Hp}{s:Shared}(I:Inv X ez σ H s):interactive X.env=false:=by simp[interactive,I.ok.kind]
def yG(te:TE):TS:=fun D σ H=>te σ H fun _ H1=>D.nx σ H1
theorem we(he:PE X e te)(hs:swapsWith e none pos.line X.env=pure false:=by rfl):PS X (.Expr e pos) (yG te):=by intro ez s σ H D I h;exact wpAny_Expr_any (thn (he ez s σ H _ I h) fun v s1 ⟨x,H1,I1,r1,q1⟩=>⟨σ,H1,I1,q1⟩) I.quiet hs
def BP(te:TE):TS:=fun D σ H=>te σ H D.rt
theorem zM(he:PE X e te):PS X (.Return (some e) pos) (BP te):=by intro ez s σ H D I h;exact wpAny_Return_some (thn (he ez s σ H _ I h) fun v s1 ⟨x,H1,I1,r1,q1⟩=>⟨x,σ,H1,I1,r1,q1⟩)
def BQ(c:TT)(t u:TS):TS:=fun D σ H=>c σ H fun b H1=>if b=true then t D σ H1 else u D σ H1
theorem yH{c:Expr}{a b:List Stmt}{tc:TT}(hc:PT X c tc)(ha:PSs X a t)(hb:PSs X b u):PS X (.If c a b pos) (BQ tc t u):=by
 intro ez s σ H D I h;refine wpAny_If (thn (hc ez s σ H _ I h) fun d s1 ⟨H1,I1,q1⟩=>?_);cases d with
 |true=>exact ha ez s1 σ H1 D I1 q1
 |false=>exact hb ez s1 σ H1 D I1 q1
def zN:TS:=fun _ _ _=>False
theorem sG:PS X st zN:=fun _ _ _ _ _ _ h=>h.elim
end
noncomputable abbrev TG:=V->St->Hp->(St->Hp->Prop)->Prop
noncomputable abbrev TGs:=List V->St->Hp->(St->Hp->Prop)->Prop
def PG(X:Cx)(target:Expr)(t:TG):Prop:=
 ∀(ez:List (Addr×Obj)) (s:Shared) (σ:St) (H:Hp) (v:V) (u:Value) (Q:St->Hp->Prop),Inv X ez σ H s->RelV v u->t v σ H Q ->
  wpAny (model X.prog X.w) X.A (assign target X.env u) (fun _ s'=>∃σ' H',Inv X ez σ' H' s'/\Q σ' H') X.xe s
def PGs(X:Cx)(ts:List Expr)(t:TGs):Prop:=
 ∀(ez:List (Addr×Obj)) (s:Shared) (σ:St) (H:Hp) (vs:List V) (us:List Value) (Q:St->Hp->Prop),Inv X ez σ H s->Vals vs us->t vs σ H Q ->
  wpAny (model X.prog X.w) X.A (assignInOrder ((assignEach ts X.env).map (·.2)) us) (fun _ s'=>∃σ' H',Inv X ez σ' H' s'/\Q σ' H') X.xe s
section
variable{X:Cx}{pos:Pos}
section
variable{es:List Expr}{e:Expr}{x:Str}{i:Nat}{te:TE}
def jm(i:Nat):TG:=fun v σ H Q=>Q (σ.set i (some v)) H
theorem lI(hN:X.N.Nodup)(hi:X.N[i]?=some x)(hx:Loc X.env.scope x)(hf:X.fn x=true\/X.env.scope.names.lookup x=some .local:=by trivial):PG X (.Name x pos) (jm i):=by intro ez s σ H v u Q I r h;exact wpAny_assign_Name (mS I hN hi hx r (fun s' I'=>⟨_,H,I',h⟩) hf)
def BR:TGs:=fun vs σ H Q=>vs=[]/\Q σ H
def yI(t:TG)(u:TGs):TGs:=fun vs σ H Q=>∃v r,vs=v::r/\t v σ H fun σ' H'=>u r σ' H' Q
theorem wg:PGs X [] BR:=by intro ez s σ H vs us Q I r h;obtain⟨e,h⟩:=h;subst e;cases r;exact assignInOrder_nil ⟨σ,H,I,h⟩
theorem sH{t:TG}{u:TGs}(h1:PG X e t)(h2:PGs X es u)
  (hs:(assignEach (e::es) X.env).map (·.2)=assign e X.env::(assignEach es X.env).map (·.2):=by rfl):PGs X (e::es) (yI t u):=by
 intro ez s σ H vs us Q I r h;obtain⟨v,vr,e1,h⟩:=h;subst e1;cases r with
 |cons r rr=>rw[hs];refine assignInOrder_cons (thn (h1 ez s σ H _ _ _ I r h) fun _ s1 ⟨σ1,H1,I1,q1⟩=>?_);exact h2 ez s1 σ1 H1 _ _ Q I1 rr q1
def BS(K:fj)(n:Nat)(t:TGs):TG:=fun v σ H Q=>∃a xs,v=.ref a/\SqT K H a xs/\xs.length=n/\t xs σ H Q
theorem zO{k:Nat}{t:TGs}{n:Nat}(hc:X.calm=true)(h:PGs X es t)
  (hn:(assignEach es X.env).length=n:=by rfl) (hst:(assignEach es X.env).findIdx? (·.1)=none:=by rfl):PG X (.Tuple es k pos) (BS X.K n t):=by
 intro ez s σ H v u Q I r hw;obtain⟨a,xs,e1,hq,hl,hw⟩:=hw;subst e1;cases r;obtain⟨its,rv,ht,hz⟩:=I.tuple hq;refine assign_Tuple_tuple (I.ok.hd hc) ht (by simp[hn,<- hl,rv.length]) hst fun h' hx=>?_;have I1:Inv X ez σ H { s with heap:=h' }:=I.kept (t':=s.toks) fun b o e=>hx b o (Gm (FA e)) e;exact h ez _ σ H xs _ Q I1 (by simpa using rv) hw
def sI(te:TE)(g:TG):TS:=fun D σ H=>te σ H fun x H1=>g x σ H1 D.nx
theorem zP{tg e:Expr}{g:TG}(he:PE X e te)(hg:PG X tg g)(hs:swapsWithSole [tg] e pos.line X.env=pure false:=by rfl)(hw:swappedStores [tg] e X.env=pure none:=by rfl)
  (h1:(assignEach [tg] X.env).map (·.2)=[assign tg X.env]:=by rfl):PS X (.Assign [tg] e pos) (sI te g):=by
 intro ez s σ H D I h;refine wpAny_Assign_stores (thn (he ez s σ H _ I h) fun v s1 ⟨x,H1,I1,r1,q1⟩=>?_) hs hw;rw[h1];exact thn (hg ez s1 σ H1 x v _ I1 r1 q1) fun _ s2 q=>q
theorem sJ{pos':Pos}(hN:X.N.Nodup)(hi:X.N[i]?=some x)(hx:Loc X.env.scope x)(he:PE X e te)(hs:swapsWith e (some (.Name x pos')) pos.line X.env=pure false:=by rfl)(hf:X.fn x=true\/X.env.scope.names.lookup x=some .local:=by trivial) :
  PS X (.Assign [.Name x pos'] e pos) (sI te (jm i)):=by
 intro ez s σ H D I h;refine wpAny_Assign_Name (thn (he ez s σ H _ I h) fun v s1 ⟨y,H1,I1,r1,q1⟩=>?_) hs;exact mS I1 hN hi hx r1 (fun s2 I2=>⟨_,H1,I2,q1⟩) hf
end
end
section
variable{X:Cx}{pos:Pos}
def sL(c:TT)(tb:TS):TS:=fun D σ H=>∃W:Nat->St->Hp->Prop,(∃m,W m σ H)/\∀m σ H,W m σ H ->
 c σ H fun b H1=>if b=true then ∃N:St->Hp->Prop,(∀σ' H',N σ' H'->∃m',m'<m/\W m' σ' H')/\tb { D with nx:=N,ct:=N,bk:=D.nx } σ H1 else D.nx σ H1
theorem sM{c:Expr}{body:List Stmt}{tc:TT}{tb:TS}(hp:PassesOwn (model X.prog X.w) X.A X.env X.xe)(hc:PT X c tc)(hb:PSs X body tb):PS X (.While c body [] pos) (sL tc tb):=by
 intro ez s σ H D I h;obtain⟨W,⟨m0,w0⟩,turn⟩:=h;refine wpAny_While (codeAny_whileLoop (fun n s'=>∃σ' H',Inv X ez σ' H' s'/\W n σ' H') ?_ m0 ⟨σ,H,I,w0⟩);rintro n s1 ⟨σ1,H1,I1,w1⟩;refine wpAny_passesOwn hp (thn (hc ez s1 σ1 H1 _ I1 (turn n σ1 H1 w1)) fun b s2 ⟨H2,I2,q2⟩=>?_);cases b with
 |true=>
  obtain⟨N,hN,q2⟩:=q2;rw[if_pos rfl];refine wpAny_passesOwn hp (thn (hb ez s2 σ1 H2 _ I2 q2) fun f s3 q3=>?_);cases f with
  |next=>obtain⟨σ3,H3,I3,n3⟩:=q3;obtain⟨m',hm,w3⟩:=hN σ3 H3 n3;exact⟨m',hm,σ3,H3,I3,w3⟩
  |cont=>obtain⟨σ3,H3,I3,n3⟩:=q3;obtain⟨m',hm,w3⟩:=hN σ3 H3 n3;exact⟨m',hm,σ3,H3,I3,w3⟩
  |brk=>exact q3
  |ret v=>exact q3
 |false=>rw[if_neg Ge];exact wpAny_execs_nil ⟨σ1,H2,I2,q2⟩
end
section
variable{P:Program}{tg:Expr}{w:World}{s:Shared}
structure It where
 go:Nat->Hp->Prop
 yld:Nat->Hp->V->Hp->Prop
 stop:Nat->Hp->Prop
def mU(X:Cx)(ez:List (Addr×Obj))(H:Hp)(b:Addr):Prop:=
 H b=none/\b≠X.env.locals/\b∉X.fs/\(b∈X.ex\/X.s₀.heap.objs.size<=b)/\(∀x c,X.env.cells.lookup x=some c->c≠b)/\∀p∈X.pn++ez,p.1≠b
theorem Inv.wj{X:Cx}{ez:List (Addr×Obj)}{σ:St}{H H':Hp}{b:Addr}(I:Inv X ez σ H s)(hb:s.heap.objs.size<=b)(hn:H' b=none):mU X ez H' b:=by
 refine⟨hn,Nat.ne_of_gt (FJ I.lt hb),I.El hb,.inr (FQ I.sz hb),fun x c e z=>?_,fun p hp z=>?_⟩
 ·obtain⟨v,q⟩:=I.cell x c e;exact absurd (FJ q.lt (by rw[z];exact hb)) (GW _)
 ·exact absurd (FJ (FA (I.pin p hp).1) (by rw[z];exact hb)) (GW _)
structure Turn(P:Program)(w:World)(K:fj)(tg:Expr)(J:It)(fp:List Addr)(it:Addr)(tn:Nat->Heap->Prop):Prop where
 mem:it∈fp
 obj:∀i h,tn i h->∀b∈fp,∃o,h.get? b=some o/\∀v,o.data≠.cell v
 keep:∀i h h',tn i h->(∀b∈fp,∀o,h.get? b=some o->h'.get? b=some o)->tn i h'
 item:∀(X:Cx),X.prog=P->X.w=w->X.K=K->X.calm=true->∀(i:Nat) (ez:List (Addr×Obj)) (s:Shared) (σ:St) (H:Hp) (E:Value->Shared->Prop),Inv X ez σ H s->(∀b∈fp,mU X ez H b)->tn i s.heap->J.go i H ->
  wpAny (model P w) X.A (pyNext (.ref it)) (fun r s1=>∃ u,r=some u ∧
   wpAny (model P w) X.A (letOwnedTupleGo tg (.ref it) u) (fun _ s2=>∃x H',Inv X ez σ H' s2/\RelV x u/\J.yld i H x H'/\tn (i+1) s2.heap/\∀b∈fp,H' b=none) E s1) E s
 done:∀(X:Cx),X.prog=P->X.w=w->X.K=K->X.calm=true->∀(i:Nat) (ez:List (Addr×Obj)) (s:Shared) (σ:St) (H:Hp) (E:Value->Shared->Prop),Inv X ez σ H s->(∀b∈fp,mU X ez H b)->tn i s.heap->J.stop i H ->
  wpAny (model P w) X.A (pyNext (.ref it)) (fun r s1=>r=none/\Inv X ez σ H s1) E s
 self:∀(A:Around) (i:Nat) (s:Shared) (Q:Value->Shared->Prop) (E:Value->Shared->Prop),tn i s.heap->Q (.ref it) s->wpAny (model P w) A (pyIter (.ref it)) Q E s
noncomputable abbrev TI:=St->Hp->(It->Hp->Prop)->Prop
def PIE(X:Cx)(ez:List (Addr×Obj))(σ:St)(tg:Expr)(R:It->Hp->Prop)(itv:Value)(s2:Shared):Prop:=
 ∃(it:Addr) (fp:List Addr) (tn:Nat->Heap->Prop) (J:It) (H':Hp),itv=.ref it/\Inv X ez σ H' s2/\Turn X.prog X.w X.K tg J fp it tn/\tn 0 s2.heap/\(∀b∈fp,mU X ez H' b)/\R J H'
def PI(X:Cx)(tg iter:Expr)(wi:TI):Prop:=
 ∀(ez:List (Addr×Obj)) (s:Shared) (σ:St) (H:Hp) (R:It->Hp->Prop),Inv X ez σ H s->wi σ H R ->
  wpAny (model X.prog X.w) X.A (eval iter X.env) (fun v s1=>wpAny (model X.prog X.w) X.A (pyIter v) (PIE X ez σ tg R) X.xe s1) X.xe s
theorem qf{M:Model}{A:Around}{E:Value->Shared->Prop}{tg:Expr}{it:Addr}{u:Value}{o:Obj}{n:String}{vs:Array Value}{Q:Unit->Shared->Prop}(ho:s.heap.get? it=some o)(hc:o.cls=.type n)(hd:o.data=.fields vs)
  (hn:["enumerate","zip","dict_itemiterator","dict_reverseitemiterator","odict_iterator","itertools.zip_longest","itertools.pairwise"].contains n=false) (hQ:Q () s):wpAny M A (letOwnedTupleGo tg (.ref it) u) Q E s:=by
 unfold letOwnedTupleGo;cases tg<;>first
  |exact wpAny_pure hQ
  | (cases u<;>first
    |exact wpAny_pure hQ
    | (refine wpAny_bind (wpAny_load ho ?_)
       rw[hc,hd];show wpAny M A (if (["enumerate","zip","dict_itemiterator","dict_reverseitemiterator","odict_iterator","itertools.zip_longest","itertools.pairwise"].contains n&&vs[0]? == some (rawInt _))=true then _ else _) Q E s;rw[if_neg (by intro h;rw[hn,Bool.false_and]at h;cases h)];exact wpAny_pure hQ))
noncomputable def Itl(K:fj)(a:Addr):It:=
 ⟨fun i H=>∃xs x,SqL K H a xs/\xs[i]?=some x,fun i H x H'=>H'=H/\∀xs,SqL K H a xs->xs[i]?=some x,fun i H=>∃xs,SqL K H a xs/\xs.length<=i⟩
noncomputable def Itt(K:fj)(a:Addr):It:=
 ⟨fun i H=>∃xs x,SqT K H a xs/\xs[i]?=some x,fun i H x H'=>H'=H/\∀xs,SqT K H a xs->xs[i]?=some x,fun i H=>∃xs,SqT K H a xs/\xs.length<=i⟩
noncomputable def Itr(lo:Int)(n:Nat):It:=⟨fun i _=>i<n,fun i H x H'=>H'=H/\x=.int (lo+i),fun i _=>n<=i⟩
theorem qZ{K:fj}(a it:Addr):Turn P w K tg (Itl K a) [it] it (fun i h=>h.IsListIter it a i) where
 mem:=by simp
 obj:=fun i h st b hb=>by
  have e:b=it:=by simpa using hb
  subst e;obtain⟨o,e,c,d⟩:=st;exact⟨o,e,fun v z=>by rw[d]at z;cases z⟩
 keep:=fun i h h' st k=>st.at fun o e=>k it (by simp) o e
 item:=by intro X hP hw hK hc i ez s σ H E I hf st hg;subst hP hw hK;obtain⟨xs,x,hq,hx⟩:=hg;obtain⟨its,rv,p,hz⟩:=I.list hq;obtain⟨u,hu,ru⟩:=rv.get hx;obtain⟨f0,f1,f2,f3,f4,f5⟩:=hf it (by simp);refine wpAny_pyNext_list_item st p.isList (x:=u) (by simpa using hu) fun h' st' sb=>?_;have I1:Inv X ez σ H { s with heap:=h' }:=I.turned (t':=s.toks) (fun b o hb e=>(sb.2 b hb).trans e) f0 f1 f3 f4 f5;obtain⟨o,e,c,d⟩:=id st';exact⟨u,rfl,qf (s:={ s with heap:=h' }) e c d (by decide) ⟨x,H,I1,ru,⟨rfl,fun ys hy=>by rw[I.sF hy hq];exact hx⟩,st',fun b hb=>(hf b hb).1⟩⟩
 done:=by intro X hP hw hK hc i ez s σ H E I hf st hg;subst hP hw hK;obtain⟨xs,hq,hx⟩:=hg;obtain⟨its,rv,p,hz⟩:=I.list hq;obtain⟨f0,f1,f2,f3,f4,f5⟩:=hf it (by simp);have hl:=rv.length;exact wpAny_pyNext_list_end (I.ok.hd hc) st p.isList (by simp;lia) fun h' eb=>⟨rfl,I.turned (t':=s.toks) (fun b o hb e=>eb b o hb e) f0 f1 f3 f4 f5⟩
 self:=fun _ _ _ _ _ st h=>wpAny_pyIter_listiter st h
theorem oO{K:fj}(a it:Addr):Turn P w K tg (Itt K a) [it] it (fun i h=>h.IsTupleIter it a i) where
 mem:=by simp
 obj:=fun i h st b hb=>by
  have e:b=it:=by simpa using hb
  subst e;obtain⟨o,e,c,d⟩:=st;exact⟨o,e,fun v z=>by rw[d]at z;cases z⟩
 keep:=fun i h h' st k=>st.at fun o e=>k it (by simp) o e
 item:=by intro X hP hw hK hc i ez s σ H E I hf st hg;subst hP hw hK;obtain⟨xs,x,hq,hx⟩:=hg;obtain⟨its,rv,p,hz⟩:=I.tuple hq;obtain⟨u,hu,ru⟩:=rv.get hx;obtain⟨f0,f1,f2,f3,f4,f5⟩:=hf it (by simp);refine wpAny_pyNext_tuple_item st (show s.heap.IsTuple a its.toArray from p) (x:=u) (by simpa using hu) fun h' st' sb=>?_;have I1:Inv X ez σ H { s with heap:=h' }:=I.turned (t':=s.toks) (fun b o hb e=>(sb.2 b hb).trans e) f0 f1 f3 f4 f5;obtain⟨o,e,c,d⟩:=id st';exact⟨u,rfl,qf (s:={ s with heap:=h' }) e c d (by decide) ⟨x,H,I1,ru,⟨rfl,fun ys hy=>by rw[I.qY hy hq];exact hx⟩,st',fun b hb=>(hf b hb).1⟩⟩
 done:=by intro X hP hw hK hc i ez s σ H E I hf st hg;subst hP hw hK;obtain⟨xs,hq,hx⟩:=hg;obtain⟨its,rv,p,hz⟩:=I.tuple hq;obtain⟨f0,f1,f2,f3,f4,f5⟩:=hf it (by simp);have hl:=rv.length;exact wpAny_pyNext_tuple_end (I.ok.hd hc) st (show s.heap.IsTuple a its.toArray from p) (by simp;lia) fun h' eb=>⟨rfl,I.turned (t':=s.toks) (fun b o hb e=>eb b o hb e) f0 f1 f3 f4 f5⟩
 self:=fun _ _ _ _ _ st h=>wpAny_pyIter_tupleiter st h
theorem oQ{K:fj}(it:Addr)(lo:Int)(n:Nat):Turn P w K tg (Itr lo n) [it] it (fun i h=>IsRangeIter h it (lo+(i:Nat)*1) ((n:Int)-(i:Nat)) 1) where
 mem:=by simp
 obj:=fun i h st b hb=>by
  have e:b=it:=by simpa using hb
  subst e;exact ⟨_,st,fun v z=>by have z':Data.fields _=Data.cell v:=z;cases z'⟩
 keep:=fun i h h' st k=>k it (by simp) _ st
 item:=by intro X hP hw hK hc i ez s σ H E I hf st hg;subst hP hw hK;obtain⟨f0,f1,f2,f3,f4,f5⟩:=hf it (by simp);have W:=Walks.range (prog:=X.prog) (w:=X.w) (I.ok.hd hc) it lo 1 n;refine W.item i s _ _ hg st fun v h' tk hv st' kk=>?_;obtain⟨t,rfl⟩:=hv;have I1:Inv X ez σ H { s with heap:=h',toks:=tk }:=I.turned (fun b o hb e=>kk b o (by simpa using hb) e) f0 f1 f3 f4 f5;refine⟨_,rfl,qf (s:={ s with heap:=h',toks:=tk }) (n := "range_iterator") st' rfl rfl (by decide) ⟨.int (lo+i),H,I1,⟨t,?_⟩,⟨rfl,rfl⟩,st',fun b hb=>(hf b hb).1⟩⟩;rw[Int.mul_one]
 done:=by intro X hP hw hK hc i ez s σ H E I hf st hg;subst hP hw hK;obtain⟨f0,f1,f2,f3,f4,f5⟩:=hf it (by simp);exact wpAny_pyNext_range_end (I.ok.hd hc) st (by have:n<=i:=hg;lia) fun h' eb=>⟨rfl,I.turned (t':=s.toks) (fun b o hb e=>eb b o hb e) f0 f1 f3 f4 f5⟩
 self:=fun _ _ _ _ _ st h=>wpAny_pyIter_rangeiter st h
end
section
variable{X:Cx}{tg:Expr}
section
variable{ez:List (Addr×Obj)}{fp:List Addr}{s:Shared}{H:Hp}{σ:St}{l:Expr}{h:Heap}{tl:TE}{ta:TA}
def mV(K:fj)(tl:TE):TI:=fun σ H R=>tl σ H fun x H1=>∃a,x=.ref a/\(∃xs,SqL K H1 a xs)/\R (Itl K a) H1
def sN(K:fj)(tl:TE):TI:=fun σ H R=>tl σ H fun x H1=>∃a,x=.ref a/\(∃xs,SqT K H1 a xs)/\R (Itt K a) H1
theorem qg(hl:PE X l tl):PI X tg l (mV X.K tl):=by
 intro ez s σ H R I h;refine thn (hl ez s σ H _ I h) fun v s1 ⟨x,H1,I1,r1,q1⟩=>?_;obtain⟨a,e,⟨xs,hq⟩,q⟩:=q1;subst e;cases r1;obtain⟨its,rv,p,hz⟩:=I1.list hq;refine wpAny_pyIter_list p.isList ?_;refine⟨s1.heap.objs.size,[s1.heap.objs.size],_,_,H1,rfl,I1.kept (t':=s1.toks) fun b o e=>FY _ e,qZ a _,⟨_,Gi _ rfl,rfl,rfl⟩,fun b hb=>?_,q⟩;have e:b=s1.heap.objs.size:=by simpa using hb
 subst e;exact I1.wj (Ft _) (I1.hok.fresh (Ft _))
theorem sO(hl:PE X l tl):PI X tg l (sN X.K tl):=by
 intro ez s σ H R I h;refine thn (hl ez s σ H _ I h) fun v s1 ⟨x,H1,I1,r1,q1⟩=>?_;obtain⟨a,e,⟨xs,hq⟩,q⟩:=q1;subst e;cases r1;obtain⟨its,rv,p,hz⟩:=I1.tuple hq;refine wpAny_pyIter_tuple (show s1.heap.IsTuple a its.toArray from p) ?_;refine⟨s1.heap.objs.size,[s1.heap.objs.size],_,_,H1,rfl,I1.kept (t':=s1.toks) fun b o e=>FY _ e,oO a _,⟨_,Gi _ rfl,rfl,rfl⟩,fun b hb=>?_,q⟩;have e:b=s1.heap.objs.size:=by simpa using hb
 subst e;exact I1.wj (Ft _) (I1.hok.fresh (Ft _))
theorem mW{R:It->Hp->Prop}{E:Value->Shared->Prop}{lo hi:Int}{t u v:Tok}{tk:Nat}(I:Inv X ez σ H s)(h1:-(2 ^ 62)<=lo)(h2:lo<2 ^ 62)(h3:-(2 ^ 62)<=hi)(h4:hi<2 ^ 62)
  (q:R (Itr lo (hi-lo).toNat) H):wpAny (model X.prog X.w) X.A (pyIter (.ref s.heap.objs.size)) (PIE X ez σ tg R) E { s with heap:=s.heap.push { cls:=.type "range",data:=.fields #[.int lo t,.int hi u,.int 1 v] },toks:=tk }:=by
 refine wpAny_pyIter_range (IsRange.new ..) (small_one h1 h2 h3 h4) ?_;have I1:Inv X ez σ H { s with heap:=s.heap.push { cls:=.type "range",data:=.fields #[.int lo t,.int hi u,.int 1 v] },toks:=tk }:=I.kept fun b o e=>FY _ e;refine ⟨(s.heap.push { cls:=.type "range",data:=.fields #[.int lo t,.int hi u,.int 1 v] }).objs.size,[(s.heap.push { cls:=.type "range",data:=.fields #[.int lo t,.int hi u,.int 1 v] }).objs.size],_,_,H,rfl,
  I1.kept (t':=tk) fun b o e=>FY _ e,oQ _ lo (hi-lo).toNat,?_,fun b hb=>?_,q⟩
 ·have e1:lo+((0:Nat):Int)*1=lo:=by simp
  have e2:(((hi-lo).toNat:Nat):Int)-((0:Nat):Int)=Builtin.Range.rangeSize lo hi 1:=by rw[rangeSize_one];split<;>lia
  show IsRangeIter _ _ (lo+((0:Nat):Int)*1) ((((hi-lo).toNat:Nat):Int)-((0:Nat):Int)) 1;rw[e1,e2];exact Gi _ rfl
 ·have e:b=(s.heap.push { cls:=.type "range",data:=.fields #[.int lo t,.int hi u,.int 1 v] }).objs.size:=by simpa using hb
  subst e;exact I1.wj (Ft _) (I1.hok.fresh (Ft _))
def yJ(ta:TA):TI:=fun σ H R=>ta σ H fun vs H1=>∃j:Int,vs=[.int j]/\-(2 ^ 62)<=j/\j<2 ^ 62/\R (Itr 0 j.toNat) H1
def yK(ta:TA):TI:=fun σ H R=>ta σ H fun vs H1=>∃i j:Int,vs=[.int i,.int j]/\(-(2 ^ 62)<=i/\i<2 ^ 62/\-(2 ^ 62)<=j/\j<2 ^ 62)/\R (Itr i (j-i).toNat) H1
theorem q_{a:Expr}{p pos:Pos}(hg:Gl X "range")(hm:X.mg "range" = none)(ha:PA X [a] ta)(hs:starEach [a] X.env=[(false,eval a X.env)]:=by rfl):PI X tg (.Call (.Name "range" p) [a] [] pos) (yJ ta):=by
 intro ez s σ H R I h;refine Call_ (jl I hg hm boot_range (G4 (thn (ha pos ez s σ H _ I h) fun us s1 ⟨vs,H1,I1,r1,q1⟩=>?_) hs rfl));obtain⟨j,e,q1,q2,q⟩:=q1;subst e;cases r1 with
 |cons r rr=>cases rr;obtain⟨t,rfl⟩:=r;exact call_range_1 (mW I1 (by lia) (by lia) q1 q2 (by simpa using q))
theorem ri{a b:Expr}{p pos:Pos}(hg:Gl X "range")(hm:X.mg "range" = none)(ha:PA X [a,b] ta)(hs:starEach [a,b] X.env=[(false,eval a X.env),(false,eval b X.env)]:=by rfl)(hs2:starEach [b] X.env=[(false,eval b X.env)]:=by rfl) :
  PI X tg (.Call (.Name "range" p) [a,b] [] pos) (yK ta):=by
 intro ez s σ H R I h;refine Call_ (jl I hg hm boot_range (G4 (thn (ha pos ez s σ H _ I h) fun us s1 ⟨vs,H1,I1,r1,q1⟩=>?_) (by rw[hs,hs2]) (by rw[hs2];rfl)));obtain⟨i,j,e,⟨q1,q2,q3,q4⟩,q⟩:=q1;subst e;cases r1 with
 |cons r rr=>
  cases rr with
  |cons r' rr=>cases rr;obtain⟨t,rfl⟩:=r;obtain⟨t',rfl⟩:=r';exact call_range_2 (mW I1 q1 q2 q3 q4 q)
def BU(wi:TI)(g:TG)(tb:TS):TS:=fun D σ H=>wi σ H fun J H1=>∃W:Nat->Nat->St->Hp->Prop,(∃m,W 0 m σ H1)/\∀i m σ H,W i m σ H ->
 (J.stop i H/\D.nx σ H)\/(J.go i H/\∃N:St->Hp->Prop,(∀σ' H',N σ' H'->∃m',m'<m/\W (i+1) m' σ' H')/\∀x H',J.yld i H x H'->g x σ H' fun σ2 H2=>tb { D with nx:=N,ct:=N,bk:=D.nx } σ2 H2)
noncomputable def jn(fp:List Addr)(h:Heap):List (Addr×Obj):=fp.filterMap fun b=>(h.get? b).map fun o=>(b,o)
theorem dW{b:Addr}{o:Obj}(hb:b∈fp)(e:h.get? b=some o):(b,o)∈jn fp h:=HL.mpr ⟨b,hb,by rw[e];rfl⟩
theorem rj{p:Addr×Obj}(hp:p∈jn fp h):p.1∈fp/\h.get? p.1=some p.2:=by
 obtain⟨b,hb,e⟩:=HL.mp hp;cases q:h.get? b with
 |none=>rw[q]at e;cases e
 |some o=>rw[q]at e;have e':(b,o)=p:=Option.some.inj e;subst e';exact⟨hb,q⟩
theorem Inv.pinned(I:Inv X ez σ H s)(hf:∀b∈fp,mU X ez H b)(ho:∀b∈fp,∃o,s.heap.get? b=some o/\∀v,o.data≠.cell v):Inv X (ez++jn fp s.heap) σ H s:=
 I.qd fun p hp=>(Gr.mp hp).elim (fun z=>I.pin p (Gh _ z)) fun z=>by obtain⟨hb,e⟩:=rj z;obtain⟨f0,f1,f2,_⟩:=hf p.1 hb;obtain⟨o,e',d⟩:=ho p.1 hb;rw[e]at e';cases e';exact⟨e,f0,f1,f2,d⟩
theorem Inv.gK{ez pl:List (Addr×Obj)}(I:Inv X (ez++pl) σ H s):Inv X ez σ H s:=I.qd fun p hp=>I.pin p (Gh _ (Hw _ hp))
theorem zQ{iter:Expr}{body:List Stmt}{wi:TI}{g:TG}{tb:TS}{pos:Pos}(hp:PassesOwn (model X.prog X.w) X.A X.env X.xe)(hc:X.calm=true)(hi:PI X tg iter wi)(hg:PG X tg g)(hb:PSs X body tb)
  (hs:∀x,foldedSetIterable iter X.env x=pure x:=by intro _;rfl):PS X (.For tg iter body [] pos) (BU wi g tb):=by
 intro ez s σ H D I h;refine wpAny_For (thn (hi ez s σ H _ I h) fun v s1 h1=>thn h1 fun itv s2 h2=>?_) hs;obtain⟨it,fp,tn,J,H2,e,I2,T,st2,f2,W,⟨m0,w0⟩,turn⟩:=h2;subst e;have stat:∀{H':Hp},(∀b∈fp,H' b=none)->∀b∈fp,mU X ez H' b:=fun hn b hb=>⟨hn b hb,(f2 b hb).2⟩;refine codeAny_forLoop_any (fun n s'=>∃i σ' H',Inv X ez σ' H' s'/\tn i s'.heap/\(∀b∈fp,H' b=none)/\W i n σ' H') ?_ m0 ⟨0,σ,H2,I2,st2,fun b hb=>(f2 b hb).1,w0⟩;rintro n s3 ⟨i,σ3,H3,I3,st3,fr3,w3⟩;rcases turn i n σ3 H3 w3 with⟨stop,qn⟩ | ⟨go,N,hN,step⟩
 ·refine wpAny_passesOwn hp (thn (T.done X rfl rfl rfl hc i ez s3 σ3 H3 X.xe I3 (stat fr3) st3 stop) fun r s4 ⟨hr,I4⟩=>?_);subst hr;exact wpAny_execs_nil ⟨σ3,H3,I4,qn⟩
 ·refine wpAny_passesOwn hp (thn (T.item X rfl rfl rfl hc i ez s3 σ3 H3 X.xe I3 (stat fr3) st3 go) fun r s4 ⟨u,hr,h4⟩=>?_);subst hr;refine wpAny_passesOwn hp (thn h4 fun _ s5 ⟨x,H5,I5,r5,y5,st5,fr5⟩=>?_);have I5':=I5.pinned (stat fr5) (T.obj _ _ st5);refine wpAny_passesOwn hp (thn (hg _ s5 σ3 H5 x u _ I5' r5 (step x H5 y5)) fun _ s6 ⟨σ6,H6,I6,q6⟩=>?_);refine wpAny_passesOwn hp (thn (hb _ s6 σ6 H6 _ I6 q6) fun f s7 q7=>?_);have again:∀{σ7:St} {H7:Hp},Inv X (ez++jn fp s5.heap) σ7 H7 s7->N σ7 H7->∃m,m<n/\∃i σ' H',Inv X ez σ' H' s7/\tn i s7.heap/\(∀b∈fp,H' b=none)/\W i m σ' H':=fun {σ7 H7} I7 n7=>by
   obtain⟨m',hm,w7⟩:=hN σ7 H7 n7;refine⟨m',hm,i+1,σ7,H7,I7.gK,T.keep _ _ _ st5 fun b hb o e=>(I7.pin (b,o) (Gh _ (Gh _ (dW hb e)))).1,fun b hb=>?_,w7⟩;obtain⟨o,e,d⟩:=T.obj _ _ st5 b hb;exact(I7.pin (b,o) (Gh _ (Gh _ (dW hb e)))).2.1
  cases f with
  |next=>obtain⟨σ7,H7,I7,n7⟩:=q7;exact again I7 n7
  |cont=>obtain⟨σ7,H7,I7,n7⟩:=q7;exact again I7 n7
  |brk=>obtain⟨σ7,H7,I7,q7⟩:=q7;exact⟨σ7,H7,I7.gK,q7⟩
  |ret v=>obtain⟨x7,σ7,H7,I7,r7,q7⟩:=q7;exact⟨x7,σ7,H7,I7.gK,r7,q7⟩
end
end
noncomputable abbrev R2:=V->V->Hp->VK->Prop
def OpR(X:Cx)(f:Value->Value->Sem Value)(r:R2):Prop:=
 ∀(ez:List (Addr×Obj)) (s:Shared) (σ:St) (H:Hp) (x y:V) (v u:Value) (Q:VK),Inv X ez σ H s->RelV x v->RelV y u->r x y H Q ->
  wpAny (model X.prog X.w) X.A (f v u) (EP X ez σ Q) X.xe s
def cS(X:Cx)(f:Value)(r:List V->Hp->VK->Prop):Prop:=
 ∀(ez:List (Addr×Obj)) (s:Shared) (σ:St) (H:Hp) (xs:List V) (us:List Value) (Q:VK),Inv X ez σ H s->Vals xs us->r xs H Q ->
  wpAny (model X.prog X.w) X.A (call f us) (EP X ez σ Q) X.xe s
def tOp(r:R2)(ta tb:TE):TE:=fun σ H Q=>ta σ H fun x H1=>tb σ H1 fun y H2=>r x y H2 Q
def rI(C:Int->Int->Prop)(g:Int->Int->V):R2:=fun x y H Q=>∃i j,x=.int i/\y=.int j/\C i j/\Q (g i j) H
def rI0(g:Int->Int->V):R2:=fun x y H Q=>∃i j,x=.int i/\y=.int j/\Q (g i j) H
section
variable{X:Cx}{a b c:Expr}{ta tb tc:TE}{pos:Pos}
theorem zR(ha:PE X a ta)(hb:PE X b tb){ez:List (Addr×Obj)}{s:Shared}{σ:St}{H:Hp}{R:V->V->Hp->Prop}(I:Inv X ez σ H s)
  (h:ta σ H fun x H1=>tb σ H1 fun y H2=>R x y H2) {Q:Value->Shared->Prop} {f:Value->Value->Sem Value}
  (hf:∀v u s2 x y H2,Inv X ez σ H2 s2->RelV x v->RelV y u->R x y H2->wpAny (model X.prog X.w) X.A (f v u) Q X.xe s2) :
  wpAny (model X.prog X.w) X.A (eval a X.env) (fun v s₁=>wpAny (model X.prog X.w) X.A (eval b X.env) (fun u s₂=>wpAny (model X.prog X.w) X.A (f v u) Q X.xe s₂) X.xe s₁) X.xe s:=by
 refine thn (ha ez s σ H _ I h) fun v s1 ⟨x,H1,I1,r1,q1⟩=>?_;refine thn (hb ez s1 σ H1 _ I1 q1) fun u s2 ⟨y,H2,I2,r2,q2⟩=>?_;exact hf v u s2 x y H2 I2 r1 r2 q2
theorem BV{op:Operator}{r:R2}(ho:OpR X (binaryOp op) r)(ha:PE X a ta)(hb:PE X b tb):PE X (.BinOp a op b pos) (tOp r ta tb):=by intro ez s σ H Q I h;exact wpAny_BinOp (zR ha hb I h fun v u s2 x y H2 I2 rx ry q=>ho ez s2 σ H2 x y v u Q I2 rx ry q)
theorem opI{f:Value->Value->Sem Value}{C:Int->Int->Prop}{g:Int->Int->Int}
  (rule:∀(i j:Int) (t u:Tok) (s:Shared) (Q:Value->Shared->Prop) (E:Value->Shared->Prop),C i j->Q (.int (g i j) s.toks) { s with toks:=s.toks+1 }->wpAny (model X.prog X.w) X.A (f (.int i t) (.int j u)) Q E s) :
  OpR X f (rI C fun i j=>.int (g i j)):=by
 intro ez s σ H x y v u Q I rx ry h;obtain⟨i,j,rfl,rfl,hc,q⟩:=h;obtain⟨t,rfl⟩:=rx;obtain⟨t',rfl⟩:=ry;exact rule i j t t' s _ _ hc ⟨.int (g i j),H,I.tok _,⟨_,rfl⟩,q⟩
theorem BW{f:Value->Value->Sem Value}{g:Int->Int->Int}
  (rule:∀(i j:Int) (t u:Tok) (s:Shared) (Q:Value->Shared->Prop) (E:Value->Shared->Prop),Q (.int (g i j) s.toks) { s with toks:=s.toks+1 }->wpAny (model X.prog X.w) X.A (f (.int i t) (.int j u)) Q E s) :
  OpR X f (rI0 fun i j=>.int (g i j)):=by
 intro ez s σ H x y v u Q I rx ry h;obtain⟨i,j,rfl,rfl,q⟩:=h;obtain⟨t,rfl⟩:=rx;obtain⟨t',rfl⟩:=ry;exact rule i j t t' s _ _ ⟨.int (g i j),H,I.tok _,⟨_,rfl⟩,q⟩
theorem wk{f:Value->Value->Sem Value}{g:Int->Int->Bool}
  (rule:∀(i j:Int) (t u:Tok) (s:Shared) (Q:Value->Shared->Prop) (E:Value->Shared->Prop),Q (.bool (g i j)) s->wpAny (model X.prog X.w) X.A (f (.int i t) (.int j u)) Q E s) :
  OpR X f (rI0 fun i j=>.bl (g i j)):=by
 intro ez s σ H x y v u Q I rx ry h;obtain⟨i,j,rfl,rfl,q⟩:=h;obtain⟨t,rfl⟩:=rx;obtain⟨t',rfl⟩:=ry;exact rule i j t t' s _ _ ⟨.bl (g i j),H,I,rfl,q⟩
def BX(i j:Int):Prop:=0<=j/\j<=1000000/\i.natAbs<2 ^ 64
def sP(i j:Int):Prop:=(-(2 ^ 64)<i/\i<2 ^ 64)\/(-(2 ^ 64)<j/\j<2 ^ 64)
theorem sP.ok{i j:Int}(h:sP i j):IntMulOk i j:=by
 rcases h with⟨h1,h2⟩ | ⟨h1,h2⟩
 ·exact .of_left (intBits_le_64 h1 h2)
 ·exact .of_right (intBits_le_64 h1 h2)
theorem zS:OpR X (binaryOp .Add) (rI0 fun i j=>.int (i+j)):=BW fun _ _ _ _ _ _ _ q=>add_int q
theorem zT:OpR X (binaryOp .Sub) (rI0 fun i j=>.int (i-j)):=BW fun _ _ _ _ _ _ _ q=>sub_int q
theorem zU:OpR X (binaryOp .Mult) (rI sP fun i j=>.int (i*j)):=opI fun _ _ _ _ _ _ _ hc q=>mul_int q hc.ok
theorem zV:OpR X (binaryOp .Mod) (rI (fun _ j=>0<j) fun i j=>.int (i % j)):=opI fun i j _ _ _ _ _ hc q=>by have h1:(0:Int)<j:=hc;exact mod_int' (by lia) (by rw[Int.fmod_eq_emod_of_nonneg i (by lia)];exact q)
theorem zW:OpR X (binaryOp .Pow) (rI BX fun i j=>.int (i ^ j.toNat)):=opI fun _ _ _ _ _ _ _ hc q=>pow_int_small hc.1 hc.2.1 hc.2.2 q
end
section
variable{X:Cx}{a b c:Expr}{ta tb tc:TE}{pos:Pos}
theorem sQ{ez:List (Addr×Obj)}{σ:St}{H:Hp}{s:Shared}{Q:VK}{k k':Bool}(I:Inv X ez σ H s)(q:Q (.bl k) H)(e:k=k'):EP X ez σ Q (.bool k') s:=by subst e;exact⟨.bl k,H,I,rfl,q⟩
theorem yL:OpR X (compareOp .Lt) (rI0 fun i j=>.bl (decide (i<j))):=wk fun _ _ _ _ _ _ _ q=>lt_int q
theorem jo:OpR X (compareOp .LtE) (rI0 fun i j=>.bl (decide (i<=j))):=wk fun _ _ _ _ _ _ _ q=>le_int q
theorem BY:OpR X (compareOp .Gt) (rI0 fun i j=>.bl (decide (j<i))):=wk fun _ _ _ _ _ _ _ q=>gt_int q
theorem BZ:OpR X (compareOp .GtE) (rI0 fun i j=>.bl (decide (j<=i))):=wk fun _ _ _ _ _ _ _ q=>ge_int q
theorem rm:OpR X (compareOp .In) (fun x y H Q=>∃i j,x=.str i/\y=.str j/\Q (.bl (!(Gv j i 0 j.length 1).isEmpty)) H):=by intro ez s σ H x y v u Q I rx ry h;obtain⟨i,j,rfl,rfl,q⟩:=h;obtain⟨t,rfl⟩:=rx;obtain⟨t',rfl⟩:=ry;exact in_str (sQ I q rfl)
theorem lJ:OpR X (compareOp .NotIn) (fun x y H Q=>∃i j,x=.str i/\y=.str j/\Q (.bl (!(!(Gv j i 0 j.length 1).isEmpty))) H):=by intro ez s σ H x y v u Q I rx ry h;obtain⟨i,j,rfl,rfl,q⟩:=h;obtain⟨t,rfl⟩:=rx;obtain⟨t',rfl⟩:=ry;exact notIn_str (sQ I q rfl)
theorem OpR.or{f:Value->Value->Sem Value}{r r':R2}(h:OpR X f r)(h':OpR X f r'):OpR X f (fun x y H Q=>r x y H Q\/r' x y H Q):=by
 intro ez s σ H x y v u Q I rx ry q;rcases q with q | q
 ·exact h ez s σ H x y v u Q I rx ry q
 ·exact h' ez s σ H x y v u Q I rx ry q
theorem dX(b:Expr){op:CmpOp}(h:op≠.In:=by decide)(h2:op≠.NotIn:=by decide):behindInMarks op b=false:=by
 have e1:(op == CmpOp.In)=false:=by cases op<;>first | rfl | exact absurd rfl h
 have e2:(op == CmpOp.NotIn)=false:=by cases op<;>first | rfl | exact absurd rfl h2
 cases b<;>simp[behindInMarks,e1,e2]
theorem wm{op:CmpOp}{r:R2}(ho:OpR X (compareOp op) r)(ha:PE X a ta)(hb:PE X b tb)(hm:behindInMarks op b=false):PE X (.Compare a [op] [b] pos) (tOp r ta tb):=by intro ez s σ H Q I h;exact wpAny_Compare1 (zR ha hb I h fun v u s2 x y H2 I2 rx ry q=>ho ez s2 σ H2 x y v u Q I2 rx ry q) hm
def sS(t:TE):TT:=fun σ H Q=>t σ H fun x H'=>∃k,x=.bl k/\Q k H'
theorem wo{op:CmpOp}{r:R2}(ho:OpR X (compareOp op) r)(ha:PE X a ta)(hb:PE X b tb)(hm:behindInMarks op b=false):PT X (.Compare a [op] [b] pos) (sS (tOp r ta tb)):=by
 intro ez s σ H Q I h;refine wpAny_isTrue_Compare1 (thn (ha ez s σ H _ I h) fun v s1 ⟨x,H1,I1,r1,q1⟩=>thn (hb ez s1 σ H1 _ I1 q1) fun u s2 ⟨y,H2,I2,r2,q2⟩=>thn (ho ez s2 σ H2 x y v u _ I2 r1 r2 q2) fun c s3 ⟨z,H3,I3,r3,k,e,q3⟩=>?_) hm
 subst e;cases r3;exact wpAny_truthy_bool ⟨H3,I3,q3⟩
def oR(r r':R2)(ta tb tc:TE):TE:=fun σ H Q=>ta σ H fun x H1=>tb σ H1 fun y H2=>r x y H2 fun z H3=>∃k,z=.bl k /\
 (if k=true then tc σ H3 fun w' H4=>r' y w' H4 Q else Q (.bl false) H3)
theorem sV{op op':CmpOp}{r r':R2}(ho:OpR X (compareOp op) r)(ho':OpR X (compareOp op') r')(ha:PE X a ta)(hb:PE X b tb)(hc:PE X c tc)
  (hm:lastMarks [op,op'] [b,c]=false:=by with_unfolding_all rfl):PE X (.Compare a [op,op'] [b,c] pos) (oR r r' ta tb tc):=by
 intro ez s σ H Q I h;refine Compare_chain (thn (ha ez s σ H _ I h) fun v s1 ⟨x,H1,I1,r1,q1⟩=>chain_link (thn (hb ez s1 σ H1 _ I1 q1) fun u s2 ⟨y,H2,I2,r2,q2⟩=>thn (ho ez s2 σ H2 x y v u _ I2 r1 r2 q2) fun d s3 ⟨z,H3,I3,r3,k,e,q3⟩=>?_)) hm
 subst e;cases r3;refine wpAny_truthy_bool ?_;cases k with
 |false=>exact ite_ff ⟨.bl false,H3,I3,rfl,q3⟩
 |true=>exact ite_tt (chain_last (thn (hc ez s3 σ H3 _ I3 q3) fun w' s4 ⟨z',H4,I4,r4,q4⟩=>ho' ez s4 σ H4 y z' u w' Q I4 r2 r4 q4))
theorem sW{op op':CmpOp}{r r':R2}(ho:OpR X (compareOp op) r)(ho':OpR X (compareOp op') r')(ha:PE X a ta)(hb:PE X b tb)(hc:PE X c tc)
  (hm:lastMarks [op,op'] [b,c]=false:=by with_unfolding_all rfl):PT X (.Compare a [op,op'] [b,c] pos) (sS (oR r r' ta tb tc)):=by
 intro ez s σ H Q I h;refine isTrue_chain (thn (ha ez s σ H _ I h) fun v s1 ⟨x,H1,I1,r1,q1⟩=>test_link (thn (hb ez s1 σ H1 _ I1 q1) fun u s2 ⟨y,H2,I2,r2,q2⟩=>thn (ho ez s2 σ H2 x y v u _ I2 r1 r2 q2) fun d s3 ⟨z,H3,I3,r3,k,e,q3⟩=>?_)) hm
 subst e;cases r3;refine wpAny_truthy_bool ?_;cases k with
 |false=>obtain⟨k',e',q'⟩:=q3;cases e';exact ite_ff ⟨H3,I3,q'⟩
 |true=>refine ite_tt (test_last (thn (hc ez s3 σ H3 _ I3 q3) fun w' s4 ⟨z',H4,I4,r4,q4⟩=>thn (ho' ez s4 σ H4 y z' u w' _ I4 r2 r4 q4) fun d' s5 ⟨z2,H5,I5,r5,k2,e2,q5⟩=>?_));subst e2;cases r5;exact wpAny_truthy_bool ⟨H5,I5,q5⟩
theorem jq:(sizeLine:Nat)<2 ^ 63:=by rw[sizeLine_eq];decide
theorem oS:OpR X (binaryOp .Add) (fun x y H Q=>∃i j,x=.str i/\y=.str j/\i.length+j.length<=sizeLine/\Q (.str (i++j)) H):=by intro ez s σ H x y v u Q I rx ry h;obtain⟨i,j,rfl,rfl,hz,q⟩:=h;obtain⟨t,rfl⟩:=rx;obtain⟨t',rfl⟩:=ry;exact add_str (fun t' tk=>⟨.str (i++j),H,I.tok _,⟨_,rfl⟩,q⟩) hz
theorem vals1{x:V}{us:List Value}(r:Vals [x] us):∃u,us=[u]/\RelV x u:=by
 cases r with
 |cons r1 r2=>cases r2;exact⟨_,rfl,r1⟩
theorem vals2{x y:V}{us:List Value}(r:Vals [x,y] us):∃u w',us=[u,w']/\RelV x u/\RelV y w':=by
 cases r with
 |cons r1 r2=>
  cases r2 with
  |cons r3 r4=>cases r4;exact⟨_,_,rfl,r1,r3⟩
theorem rq(hc:X.calm=true):cS X (.builtin "max") (fun xs H Q=>∃i j,xs=[.int i,.int j]/\Q (.int (if j>i then j else i)) H):=by
 intro ez s σ H xs us Q I r h;obtain⟨i,j,rfl,q⟩:=h;obtain⟨u,w',rfl,⟨t,rfl⟩,⟨t',rfl⟩⟩:=vals2 r;refine max_two_ints (I.ok.hd hc) fun h' tk k=>⟨_,H,I.kept k,?_,q⟩;by_cases hj:j>i
 ·rw[if_pos hj,if_pos hj];exact⟨_,rfl⟩
 ·rw[if_neg hj,if_neg hj];exact⟨_,rfl⟩
theorem rz(hc:X.calm=true):cS X (.builtin "min") (fun xs H Q=>∃i j,xs=[.int i,.int j]/\Q (.int (if j<i then j else i)) H):=by
 intro ez s σ H xs us Q I r h;obtain⟨i,j,rfl,q⟩:=h;obtain⟨u,w',rfl,⟨t,rfl⟩,⟨t',rfl⟩⟩:=vals2 r;refine min_two_ints (I.ok.hd hc) fun h' tk k=>⟨_,H,I.kept k,?_,q⟩;by_cases hj:j<i
 ·rw[if_pos hj,if_pos hj];exact⟨_,rfl⟩
 ·rw[if_neg hj,if_neg hj];exact⟨_,rfl⟩
end
section
variable{mA:Str->Option Value}{h:Heap}
structure zX(h:Heap)(x dx C:Addr)(mA:Str->Option Value):Prop where
 obj:h.get? x=some (Ie C dx)
 ns:h.Ns1 dx mA
 ne:dx≠x
theorem rA{dx:Addr}(n:h.Ns1 dx mA):∃od,h.get? dx=some od/\∀name,Il name od=some (mA name):=by
 obtain⟨o,es,ep,ho,hd,hk,_,hm⟩:=n;refine⟨o,ho,fun name=>?_⟩;have e:=hm name;unfold nsFind findBy at e;rw[<- HM]at e;unfold Il;rw[hd];dsimp only;split
 ·rename_i y q;rw[q]at e;exact congrArg some e
 ·rename_i q;rw[q]at e;have a:es.toList.any (·.refKey)=false:=by
   rw[List.any_eq_false];intro y hy;obtain⟨z,t,hkey⟩:=hk y (Array.mem_toList_iff.mp hy);simp[DictEntry.refKey,hkey]
  have a':¬es.toList.any (·.refKey)=true:=by rw[a];exact Ge
  rw[if_neg a'];exact congrArg some e
theorem zX.look{x dx C:Addr}(I:zX h x dx C mA):∃od,PySem.W.InstAt h x (Ie C dx) C (some od)/\∀name,Il name od=some (mA name):=
 let ⟨od,ho,hl⟩:=rA I.ns
 ⟨od,⟨I.obj,rfl,rfl,ho⟩,hl⟩
end
section
variable{P:Program}{w:World}{H H':Hp}{h h':Heap}{a C dx:Addr}{fs fs':List (Str×V)}
theorem wu(hok:HOk P w H h)(e:H a=some (.ins C dx fs)):∃mA,zX h a dx C mA/\(∀f,zC (fs.lookup f) (mA f))/\PySem.Within mA (fs.map (·.1))/\fs.length<=1000/\H dx=some (.own a):=by
 obtain⟨d,z,ne,ob,mA,n,r,q⟩:=(show bF P w H h a (.ins C dx fs) from hok a _ e)
 exact⟨mA,⟨ob,n,ne⟩,r,q,z,d⟩
end
structure Cls(K:fj)(C:Addr):Prop where
 pg:PySem.W.plainGet K C Str.empty=true
 hd:PySem.W.hasDictIn K C=true
 po:PySem.W.plainOver K C=true
 sa:Ho K (.ref C) "__setattr__" = some (some (.builtin "object.__setattr__"))
theorem Cls.get{K:fj}{C:Addr}(c:Cls K C)(f:Str):PySem.W.plainGet K C f=true:=c.pg
section
variable{X:Cx}{ez:List (Addr×Obj)}{σ:St}{H:Hp}{s:Shared}{A:Around}{E:Value->Shared->Prop}{Q:Value->Shared->Prop}{c:Value}{b:Bool}
inductive gM(K:fj)(H:Hp):V->Value->Prop where
 |non:gM K H .non (.type "NoneType")
 |bl (x:Bool):gM K H (.bl x) (.type "bool")
 |int (i:Int):gM K H (.int i) (.type "int")
 |str (x:Str):gM K H (.str x) (.type "str")
 |flt (x:UInt64):gM K H (.flt x) (.type "float")
 |lst {a:Addr} {xs:List V} (e:H a=some (.lst xs)):gM K H (.ref a) (.type "list")
 |frz {a:Addr} {o:Obj} {xs:List V} (e:H a=some (.frz o (.lst xs))):gM K H (.ref a) (.type "list")
 |tup {a:Addr} {xs:List V} (e:H a=some (.tup xs)):gM K H (.ref a) (.type "tuple")
 |dK {a:Addr} {kvs:List (Key×V)} (e:H a=some (.dK kvs)):gM K H (.ref a) (.type "dict")
 |dT {a:Addr} {kvs:List (List Key×V)} {ts:List Addr} (e:H a=some (.dT kvs ts)):gM K H (.ref a) (.type "dict")
 |ins {a C dx:Addr} {fs:List (Str×V)} (e:H a=some (.ins C dx fs)) (cl:Cls K C) (ha:Ho K (.ref C) "__class__" = some (some (.builtin "object.__class__")))
   (hn:PySem.W.specialIn K (.builtin "object.__class__") "__get__" = some (some (.builtin "getset_descriptor.__get__"))) (htk:PySem.W.takesIn K (.builtin "object.__class__")=some true)
   (hm:Hr K C (.type "object")=some true):gM K H (.ref a) (.ref C)
theorem rB{x:V}{u t:Value}(I:Inv X ez σ H s)(rx:RelV x u)(ty:gM X.K H x t)(e:GA X.K t c=some b)(h:∀tk,Q (.bool b) { s with toks:=tk }) :
  wpAny (model X.prog X.w) A (call (.builtin "isinstance") [u,c]) Q E s:=by
 cases ty with
 |non=>cases (show u=Value.none from rx);exact Gp PySem.W.kitx_none I.kIn Ia e (fun z=>nomatch z) h
 |bl y=>cases (show u=Iw y from rx);exact Gp PySem.W.kitx_bool I.kIn Ia e (fun z=>nomatch z) h
 |int i=>obtain⟨t,q⟩:=(show ∃t,u=IB i t from rx);cases q;exact Gp PySem.W.kitx_int I.kIn Ia e (fun z=>nomatch z) h
 |str y=>obtain⟨t,q⟩:=(show ∃t,u=Hu y t from rx);cases q;exact Gp PySem.W.kitx_str I.kIn Ia e (fun z=>nomatch z) h
 |flt y=>obtain⟨t,q⟩:=(show ∃t,u=Value.float y t from rx);cases q;exact Gp PySem.W.kitx_float I.kIn Ia e (fun z=>nomatch z) h
 |@lst a xs ea=>
  cases (show u=GC a from rx);obtain⟨_,_,n,_,h1⟩:=(show bF X.prog X.w H s.heap a (.lst xs) from I.hok a _ ea)
  exact Gp PySem.W.kitx_list I.kIn ⟨_,h1,rfl⟩ e (fun z=>nomatch z) h
 |@frz a ob xs ea=>
  cases (show u=GC a from rx);obtain⟨_,_,_,n,_,h1⟩:=(show bF X.prog X.w H s.heap a (.frz ob (.lst xs)) from I.hok a _ ea)
  exact Gp PySem.W.kitx_list I.kIn ⟨_,h1,rfl⟩ e (fun z=>nomatch z) h
 |@tup a xs ea=>
  cases (show u=GC a from rx);obtain⟨_,_,_,p⟩:=(show bF X.prog X.w H s.heap a (.tup xs) from I.hok a _ ea)
  obtain⟨o,h1,h2,_⟩:=p;exact Gp PySem.W.kitx_tuple I.kIn ⟨o,h1,h2⟩ e (fun z=>nomatch z) h
 |@dK a kvs ea=>
  cases (show u=GC a from rx);obtain⟨_,_,vs,_,p⟩:=(show bF X.prog X.w H s.heap a (.dK kvs) from I.hok a _ ea)
  obtain⟨o,es,ep,h1,h2,_⟩:=p;exact Gp PySem.W.kitx_dict I.kIn ⟨o,h1,h2.1⟩ e (fun z=>nomatch z) h
 |@dT a kvs ts ea=>
  cases (show u=GC a from rx);obtain⟨_,_,xs,_,o,es,ep,h1,h2,_⟩:=(show bF X.prog X.w H s.heap a (.dT kvs ts) from I.hok a _ ea)
  exact Gp PySem.W.kitx_dict I.kIn ⟨o,h1,h2.1⟩ e (fun z=>nomatch z) h
 |@ins a C dx fs ea cl ha hn htk hm=>cases (show u=GC a from rx);obtain⟨mA,O,_⟩:=wu I.hok ea;obtain⟨od,J,_⟩:=O.look;exact Gp (PySem.W.kitx_own (cl.get _) cl.hd ha hn htk hm) I.kIn J e (fun z=>nomatch z) h
end
section
variable{A:Around}{k:Nat}
structure b_(k:Nat)(A:Around):Prop where
 hd:A.handled=none
 dp:A.depth+3*k+5<recursionLimit
 un:A.units+16*k+200<cLine
 gd:A.guards=some []
theorem b_.mono{j k:Nat}(r:b_ k A)(h:j<=k):b_ j A:=⟨r.hd,by have:=r.dp;lia,by have:=r.un;lia,r.gd⟩
theorem b_.deeper(r:b_ (k+1) A)(env:Env):b_ k (A.deeper env):=
 ⟨r.hd,by have:=r.dp;show A.depth+1+3*k+5<_;lia,by have:=r.un;show A.units+3+16*k+200<_;lia,r.gd⟩
theorem b_.depth(r:b_ k A):A.depth<recursionLimit:=by have:=r.dp;lia
theorem b_.units(r:b_ k A):A.units+64<cLine:=by have:=r.un;lia
def sX:TA:=fun _ H Q=>Q [] H
def iJ(ta:TE)(tr:TA):TA:=fun σ H Q=>ta σ H fun x H1=>tr σ H1 fun xs H2=>Q (x::xs) H2
end
section
variable{X:Cx}{e:Expr}{es:List Expr}{te:TE}{t:TA}{pos:Pos}
theorem ir:PA X [] sX:=fun _ _ _ _ H Q I h=>Calls.spliced_nil ⟨[],H,I,.nil,h⟩
theorem cK(ha:PE X e te)(hr:PA X es t)(hs:starEach (e::es) X.env=(false,eval e X.env)::starEach es X.env:=by rfl):PA X (e::es) (iJ te t):=by intro pos ez s σ H Q I h;rw[hs];show wpAny _ _ (spliced ((false,eval e X.env)::backTo pos (starEach es X.env))) _ _ s;refine Calls.spliced_cons (thn (ha ez s σ H _ I h) fun u s1 ⟨x,H1,I1,r1,q1⟩=>?_);exact thn (hr pos ez s1 σ H1 _ I1 q1) fun us s2 ⟨xs,H2,I2,r2,q2⟩=>⟨x::xs,H2,I2,.cons r1 r2,q2⟩
def zY(t:TA):TE:=fun σ H Q=>t σ H fun xs H1=>xs.length<=sizeLine/\∀p,H1 p=none->Q (.ref p) (upd H1 p (.tup xs))
def B0(t:TA):TE:=fun σ H Q=>t σ H fun xs H1=>xs.length<=sizeLine/\∀p,H1 p=none->Q (.ref p) (upd H1 p (.lst xs))
theorem sY{x1}(h:PA X es t):PE X (.Tuple es x1 pos) (zY t):=by intro ez s σ H Q I hq;refine wpAny_Tuple_spliced (thn (h pos ez s σ H _ I hq) fun us s1 ⟨xs,H1,I1,r,z,q⟩=>⟨by rw[<- r.length];exact z,?_⟩);have hf:H1 s1.heap.objs.size=none:=I1.hok.fresh (Ft _);refine⟨.ref s1.heap.objs.size,upd H1 s1.heap.objs.size (.tup xs),I1.laid (t':=s1.toks) (fun b u e=>FY _ e) (Ft _) ?_,rfl,q _ hf⟩;exact⟨z,us,r,⟨_,Gi _ rfl,rfl,_,rfl⟩⟩
theorem zZ(h:PA X es t):PE X (.List es pos) (B0 t):=by intro ez s σ H Q I hq;refine wpAny_List_spliced (thn (h pos ez s σ H _ I hq) fun us s1 ⟨xs,H1,I1,r,z,q⟩=>⟨by rw[<- r.length];exact z,?_⟩);have hf:H1 s1.heap.objs.size=none:=I1.hok.fresh (Ft _);refine⟨.ref s1.heap.objs.size,upd H1 s1.heap.objs.size (.lst xs),I1.laid (t':=s1.toks) (fun b u e=>FY _ e) (Ft _) ?_,rfl,q _ hf⟩;exact⟨z,us,0,r,Gi _ rfl⟩
end
noncomputable abbrev Sp:=List V->Hp->VK->XK->Prop
noncomputable abbrev CXT:=List Env->Hp->Shared->XK->Value->Shared->Prop
structure wz(P:Program)(w:World)(K:fj)(mg:Str->Option Value)(base:Heap)(A:Around)(outer:List Env)(s:Shared)(H:Hp):Prop where
 frames:A.frames=some outer
 mod:Mod K mg base
 bs:∀b o,base.get? b=some o->s.heap.get? b=some o/\H b=none
 bsz:base.objs.size<=s.heap.objs.size
 iV:s.heap.FunFrames base outer
 frf:∀b∈frs outer,H b=none
 hok:HOk P w H s.heap
 bare:AllBare s.gens
def CE(outer:List Env)(P:Program)(w:World)(H:Hp)(s:Shared)(Q:VK)(u:Value)(s':Shared):Prop:=
 ∃v H',s'.os=s.os/\AllBare s'.gens/\Un (frs outer) [] H H' s.heap s'.heap/\HOk P w H' s'.heap/\RelV v u/\Q v H'
def CR(CX:CXT)(outer:List Env)(P:Program)(w:World)(H:Hp)(s:Shared)(Q:VK)(E:XK)(r:Result)(s':Shared):Prop:=
 match r with
 |.ok (.ret u)=>CE outer P w H s Q u s'
 |.ok _=>False
 |.error e=>CX outer H s E e s'
structure bM(P:Program)(w:World)(K:fj)(mg:Str->Option Value)(base:Heap)(CX:CXT)(k:Nat)(f:Addr)(fd:FuncData)(ps:List Str)(sp:Sp):Prop where
 len:∀vs H Q E,sp vs H Q E->vs.length=ps.length
 run:∀(A:Around) (outer:List Env) (s:Shared) (H:Hp) (args:Args) (us:List Value) (vs:List V) (Q:VK) (E:XK),b_ k A->wz P w K mg base A outer s H->BindsTo s fd args (ps.zip us)->Vals vs us->sp vs H Q E ->
  codeAny (model P w) A (.call (.ref f) args) (CR CX outer P w H s Q E) s
section
variable{X:Cx}{ez:List (Addr×Obj)}{σ:St}{H:Hp}{s s':Shared}
theorem Inv.B3(I:Inv X ez σ H s):wz X.prog X.w X.K X.mg X.base X.A X.stack s H:=
 ⟨I.ok.frames,I.ok.mod,I.bs,FQ I.ok.bsz I.sz,I.stack,I.lH,I.hok,I.bare⟩
theorem Inv.after{Q:VK}{u:Value}(I:Inv X ez σ H s)(h:CE X.stack X.prog X.w H s Q u s'):EP X ez σ Q u s':=by obtain⟨v,H',os,bare,un,hok,r,q⟩:=h;obtain⟨hh,g,d,t,os'⟩:=s';obtain rfl:os'=s.os:=os;exact⟨v,H',I.call (h':=hh) (g':=g) (d':=d) (t':=t) (ch:=[]) un hok bare (fun b z=>absurd z (by simp)),r,q⟩
end
def yM(sp:Sp)(dvs:List V)(E:XK)(t:TA):TE:=fun σ H Q=>t σ H fun vs H1=>sp (vs++dvs) H1 Q E
def Binds(K:fj)(fd:FuncData)(ps:List Str)(ds:List Value):Prop:=
 ∀(s:Shared) (us:List Value),K.In s.heap->(us++ds).length=ps.length->BindsTo s fd ⟨us,[]⟩ (ps.zip (us++ds))
theorem Binds.all{K:fj}{fd:FuncData}{ps:List Str}(h:∀us:List Value,us.length=ps.length->bindArgs fd ⟨us,[]⟩=pure (ps.zip us)):Binds K fd ps []:=fun s us _ hl=>by rw[Gs]at hl ⊢;exact .of_eq (h us hl)
def Passes(CX:CXT)(X:Cx)(E:XK):Prop:=∀(ez:List (Addr×Obj)) (σ:St) (H:Hp) (s:Shared) (e:Value) (s':Shared),Inv X ez σ H s->CX X.stack H s E e s'->X.xe e s'
section
variable{X:Cx}{CX:CXT}{k:Nat}{f C:Addr}{fd:FuncData}{ps:List Str}{sp:Sp}{dvs:List V}{ds:List Value}{E:XK}{x m:Str}{p pos Km:Pos}{e o:Expr}{es:List Expr}{ta:TE}{t:TA}
theorem z4{ez:List (Addr×Obj)}{σ:St}{H:Hp}{s:Shared}{Q:VK}{us:List Value}{vs:List V}(F:bM X.prog X.w X.K X.mg X.base CX k f fd ps sp)(hr:b_ k X.A)(hb:Binds X.K fd ps ds)(hd:Vals dvs ds)(hx:Passes CX X E)
  (I:Inv X ez σ H s) (r:Vals vs us) (h:sp (vs++dvs) H Q E):wpAny (model X.prog X.w) X.A (call (.ref f) us) (EP X ez σ Q) X.xe s:=by
 have r2:Vals (vs++dvs) (us++ds):=r.append hd;have hl:(us++ds).length=ps.length:=by rw[<- r2.length];exact F.len _ _ _ _ h
 refine wpAny_call (codeAny_mono (F.run X.A X.stack s H ⟨us,[]⟩ (us++ds) (vs++dvs) Q E hr I.B3 (hb s us I.kIn hl) r2 h) fun r s' hq=>?_);cases r with
 |error e=>exact hx ez σ H s e s' I hq
 |ok fl=>
  cases fl with
  |ret u=>exact I.after hq
  |next=>exact FG hq
  |brk=>exact FG hq
  |cont=>exact FG hq
theorem wA(F:bM X.prog X.w X.K X.mg X.base CX k f fd ps sp)(hr:b_ k X.A)(hg:Gl X x)(hm:X.mg x=some (.ref f))(hk:G0 X.K (.ref f)=true)(hb:Binds X.K fd ps ds)(hd:Vals dvs ds)(hx:Passes CX X E)
  (ha:PA X (e::es) t) (Kd:(x == ("__debug__" : Str))=false:=by decide) (he:starEach (e::es) X.env=(false,eval e X.env)::starEach es X.env:=by rfl) (AZ:(backTo pos (starEach es X.env)).any (·.1)=false:=by rfl) :
  PE X (.Call (.Name x p) (e::es) [] pos) (yM sp dvs E t):=by
 intro ez s σ H Q I h;refine wpAny_Call_Name_kw (gJ I hg hm ?_ Kd);refine PySem.W.callWith_K (h₀:=X.base) I.ok.mod.kin hk (thn (ha pos ez s σ H _ I h) fun us s1 ⟨vs,H1,I1,r,q⟩=>⟨I1.kIn,?_⟩) he AZ;exact z4 F hr hb hd hx I1 r q
end
section
variable{x:Str}{v:Value}
structure aD(N P:List Str)(sc:Scope):Prop where
 kind:sc.kind=.function
 co:sc.isCoroutine=false
 gen:sc.isGenerator=false
 nd:N.Nodup
 pre:N.take P.length=P
 par:∀x∈P,sc.names.lookup x=some .local\/sc.names.lookup x=some .cell
 z5:∀y∈sc.names,y.2≠.free
theorem kI{kindOf:Str->Option NameKind}:∀{binds:List (Str×Value)} {m:Str->Option Value},(∀v,(x,v)∉binds)->bindL kindOf binds m x=m x
 |[],_,_=>rfl
 |(n,v)::r,m,h=>by
  unfold bindL;rw[kI fun w hw=>h w (Fv _ hw)];split
  ·have:x≠n:=by rintro rfl;exact h v Fq
   simp[this]
  ·rfl
theorem kJ{kindOf:Str->Option NameKind}:∀{binds:List (Str×Value)} {m:Str->Option Value},(∀v,(x,v)∉binds)->bindC kindOf binds m x=m x
 |[],_,_=>rfl
 |(n,v)::r,m,h=>by
  unfold bindC;rw[kJ fun w hw=>h w (Fv _ hw)];split
  ·rfl
  ·have:x≠n:=by rintro rfl;exact h v Fq
   simp[this]
theorem kK{kindOf:Str->Option NameKind}:∀{P:List Str} {vs:List Value} {i:Nat} {m:Str->Option Value},P.Nodup->P[i]?=some x->vs[i]?=some v->kindOf x=some .local ->
  bindL kindOf (P.zip vs) m x=some v
 |[],_,_,_,_,h,_,_=>by simp at h
 |_::_,[],_,_,_,_,h,_=>by simp at h
 |p::P,w::vs,0,m,nd,h1,h2,hk=>by simp at h1 h2;subst h1;subst h2;show bindL kindOf ((p,w)::P.zip vs) m p=_;unfold bindL;rw[kI fun v hv=>(Hy.mp nd).1 (Ih hv).1,if_pos hk];simp
 |p::P,w::vs,i+1,m,nd,h1,h2,hk=>by show bindL kindOf ((p,w)::P.zip vs) m x=_;unfold bindL;exact kK (i:=i) (Hy.mp nd).2 (by simpa using h1) (by simpa using h2) hk
theorem kL{kindOf:Str->Option NameKind}:∀{P:List Str} {vs:List Value} {i:Nat} {m:Str->Option Value},P.Nodup->P[i]?=some x->vs[i]?=some v->kindOf x≠some .local ->
  bindC kindOf (P.zip vs) m x=some v
 |[],_,_,_,_,h,_,_=>by simp at h
 |_::_,[],_,_,_,_,h,_=>by simp at h
 |p::P,w::vs,0,m,nd,h1,h2,hk=>by simp at h1 h2;subst h1;subst h2;show bindC kindOf ((p,w)::P.zip vs) m p=_;unfold bindC;rw[kJ fun v hv=>(Hy.mp nd).1 (Ih hv).1,if_neg hk];simp
 |p::P,w::vs,i+1,m,nd,h1,h2,hk=>by show bindC kindOf ((p,w)::P.zip vs) m x=_;unfold bindC;exact kL (i:=i) (Hy.mp nd).2 (by simpa using h1) (by simpa using h2) hk
noncomputable def start(N:List Str)(vs:List V):St:=vs.map some++eg (N.length-vs.length) none
noncomputable def fQ(CX:CXT)(P:Program)(w:World)(K:fj)(mg:Str->Option Value)(base:Heap)(N:List Str)(qual:Str)(scope:Scope)(f:Addr)(cd:Value)(A:Around)(outer:List Env)(s:Shared)(H:Hp)(E:XK):Cx where
 prog:=P
 w:=w
 K:=K
 mg:=mg
 base:=base
 A:=A.deeper (envOfC qual scope s.heap.objs.size f cd)
 N:=N
 s₀:=s
 H₀:=H
 env:=envOfC qual scope s.heap.objs.size f cd
 outer:=outer
 stack:=envOfC qual scope s.heap.objs.size f cd::outer
 ex:=[]
 calm:=true
 fn:=fun _=>true
 pn:=[]
 xe:=fun e s'=>wpAny (model P w) (A.deeper (envOfC qual scope s.heap.objs.size f cd)) (leaving (envOfC qual scope s.heap.objs.size f cd) e) (fun _ s''=>CX outer H s E e s'') (fun e' s''=>CX outer H s E e' s'') s'
theorem mX{sc:Scope}{n:Nat}(h:sc.names.lookup x=some .cell):∃c,(cellsFrom n sc.names []).lookup x=some c:=by have q:=PySem.W.cellsFrom_some sc.names n [] (.inl h);exact Gf.mp q
theorem rC{CX:CXT}{P:Program}{w:World}{K:fj}{mg:Str->Option Value}{base:Heap}{N ps:List Str}{qual:Str}{scope:Scope}{f:Addr}{cd:Value}{A:Around}{outer:List Env}{s s1:Shared}{H:Hp}{E:XK}{us:List Value}{vs:List V}
  (S:aD N ps scope) (hd:A.handled=none) (e0:wz P w K mg base A outer s H) (hl:vs.length=ps.length) (r:Vals vs us)
  (x:InCallC s s.heap.objs.size (bindL (envOfC qual scope s.heap.objs.size f cd).kindOf (ps.zip us) fun _=>none) (cellsFrom (s.heap.objs.size+1) scope.names []) (bindC (envOfC qual scope s.heap.objs.size f cd).kindOf (ps.zip us) fun _=>none) s1) :
  Inv (fQ CX P w K mg base N qual scope f cd A outer s H E) [] (start N vs) H s1:=by
 have AZ:ps.length<=N.length:=by have:=congrArg List.length S.pre;rw[Gz]at this;lia
 obtain⟨h1,tk,rfl,hk⟩:=x.done;have noA:∀b:Addr,b∉(fQ CX P w K mg base N qual scope f cd A outer s H E).ex:=fun b z=>absurd (show b∈([]:List Addr) from z) (by simp);refine ⟨⟨e0.mod,S.kind,rfl,rfl,Ft _,fun y z c h1 h2=>?_,fun y hy=>?_,fun y c _ h=>?_,fun _=>hd,Around.frames_deeper e0.frames,.inr ⟨rfl,rfl⟩,fun b z=>absurd z (noA b),e0.bs,e0.bsz,fun b _ _=>noA b,fun b z=>absurd z (noA b),e0.iV,e0.frf⟩,
  rfl,e0.bare,Un.kept hk,⟨_,x.toInCall.ns,fun i y v h1 h2 h3=>?_⟩,fun y c h=>⟨_,x.cell y c h⟩,e0.hok.fresh (Ft _),fun y c h=>?_,fun p hp=>absurd (show p∈([]:List (Addr×Obj)) from hp) (by simp),e0.hok.kept hk,?_⟩
 ·exact name_of_addr x.apart (PySem.mem_of_lookup h1) (PySem.mem_of_lookup h2)
 ·have hy:scope.names.lookup y=some .cell\/scope.names.lookup y=some .free:=hy;rcases hy with hy | hy
  ·exact mX hy
  ·exact absurd rfl (S.z5 _ (PySem.mem_of_lookup hy))
 ·exact Hh (x.above y c (PySem.mem_of_lookup h))
 ·have hi:i<vs.length:=by
   unfold start at h2;by_cases hi:i<vs.length
   ·exact hi
   ·rw[F7 (by simpa using hi)]at h2;rw[Gd]at h2;split at h2<;>cases h2
  have ha:vs[i]?=some v:=by
   unfold start at h2;rw[Fp (by simpa using hi),F4]at h2;cases e:vs[i]? with
   |none=>rw[e]at h2;cases h2
   |some a=>rw[e]at h2;cases h2;rfl
  obtain⟨u,hu,rv⟩:=r.get ha;have hp:ps[i]?=some y:=by rw[<- S.pre,Hj (by lia)];exact h1
  have ndP:ps.Nodup:=by rw[<- S.pre];exact S.nd.sublist (List.take_sublist _ _)
  refine⟨u,rv,?_⟩;rcases S.par y (Hz hp) with k | k
  ·exact .inl ⟨k,kK ndP hp hu k⟩
  ·obtain⟨c,e⟩:=mX (n:=s.heap.objs.size+1) k;refine .inr ⟨.inl k,c,e,?_⟩;have q:=x.cell y c e;rw[kL ndP hp hu (by show scope.names.lookup y≠_;rw[k];decide)]at q;exact q
 ·exact e0.hok.fresh (Hh (x.above y c (PySem.mem_of_lookup h)))
 ·unfold start;show _=N.length;rw[Fl,Fw,G1]
  lia
theorem yN{CX:CXT}{P:Program}{w:World}{K:fj}{mg:Str->Option Value}{base:Heap}{k:Nat}{f:Addr}{name qual:Str}{params:Arguments}{body:List Stmt}{scope:Scope}{dV kV doc pm cdv ct oc:Value}{an od:Option Addr}
  {osl:Array (Option Value)} {N ps:List Str} {sp:Sp} (lk:K.lookup f=some ⟨oc,od,.func (Gn name qual params body scope dV kV doc pm an cdv ct),osl⟩) (Kg:HJ K cdv qual=true) (S:aD N ps scope)
  (len:∀vs H Q E,sp vs H Q E->vs.length=ps.length)
  (hbody:∀ (A:Around) (outer:List Env) (s:Shared) (H:Hp) (vs:List V) (Q:VK) (E:XK),b_ k (A.deeper (envOfC qual scope s.heap.objs.size f cdv))→sp vs H Q E →
   ∃t,PSs (fQ CX P w K mg base N qual scope f cdv A outer s H E) body t/\t { nx:=fun _ H'=>Q .non H',rt:=Q } (start N vs) H) :
  bM P w K mg base CX (k+1) f (Gn name qual params body scope dV kV doc pm an cdv ct) ps sp:=by
 refine⟨len,fun A outer s H args us vs Q E hr e0 hb r hsp=>?_⟩;have hl:=len _ _ _ _ hsp;have KX:K.In s.heap:=e0.mod.kin.keeps fun b o e=>(e0.bs b o e).1;have lim:s.heap.NoLimit:=e0.mod.nolimit.keeps fun b o e=>(e0.bs b o e).1;have hkind:∀y∈ps.zip us,scope.names.lookup y.1=some .local\/(scope.names.lookup y.1=some .cell/\((cellsFrom (s.heap.objs.size+1) scope.names []).lookup y.1).isSome=true):=fun⟨n,v⟩ hy=>by
  rcases S.par n (Ih hy).1 with q | q
  ·exact .inl q
  ·exact .inr ⟨q,PySem.W.cellsFrom_some _ _ _ (.inl q)⟩
 refine codeAny_call_function hr.depth (KX _ _ lk) rfl S.co S.gen rfl (PySem.W.codeRec_of KX Kg) (hb _ _ _ _ ?_);refine wpAny_newFunctionEnv_cells S.kind hkind fun env he s1 x=>?_;subst he;refine⟨lim.keeps x.toInCall.keep,codeAny_func ?_⟩;obtain⟨t,ht,hq⟩:=hbody A outer s H vs Q E (hr.deeper _) hsp;have I:Inv (fQ CX P w K mg base N qual scope f cdv A outer s H E) [] (start N vs) H s1:=rC S hr.hd e0 hl r x;refine wpAny_mono (ht [] s1 (start N vs) H _ I hq) (fun fl s' hs=>?_) fun e s' hs=>hs;have Ke:∀{σ':St} {H':Hp} {v:V} {u:Value},Inv (fQ CX P w K mg base N qual scope f cdv A outer s H E) [] σ' H' s'->RelV v u->Q v H'->CE outer P w H s Q u s':=
  fun {σ' H' v u} J rv q=>⟨v,H',J.os,J.bare,J.base,J.hok,rv,q⟩
 cases fl with
 |ret u=>obtain⟨v,σ',H',J,rv,q⟩:=hs;exact Ke J rv q
 |next=>obtain⟨σ',H',J,q⟩:=hs;exact Ke (v:=V.non) (u:=Value.none) J rfl q
 |brk=>obtain⟨_,_,_,q⟩:=hs;exact FG q
 |cont=>obtain⟨_,_,_,q⟩:=hs;exact FG q
end
section
variable{X:Cx}{x:Str}{p pos:Pos}{e:Expr}{es:List Expr}{t:TA}{id T:String}{r:List V->Hp->VK->Prop}
def tCB(r:List V->Hp->VK->Prop)(t:TA):TE:=fun σ H Q=>t σ H fun vs H1=>r vs H1 Q
theorem e7(hc:cS X (.builtin id) r)(hg:Gl X x)(hm:X.mg x=none)(hv:bootBuiltins x=some (.builtin id))(ha:PA X (e::es) t)(hn:x ≠ "__name__" := by decide)(Kd:(x == ("__debug__" : Str))=false:=by decide)
  (he:starEach (e::es) X.env=(false,eval e X.env)::starEach es X.env:=by rfl) (AZ:(backTo pos (starEach es X.env)).any (·.1)=false:=by rfl):PE X (.Call (.Name x p) (e::es) [] pos) (tCB r t):=by
 intro ez s σ H Q I h;refine wpAny_Call_Name_kw (jl I hg hm hv ?_ hn Kd);exact PyProof.Rows.callWith_builtin1 (thn (ha pos ez s σ H _ I h) fun us s1 ⟨vs,H1,I1,r1,q1⟩=>hc ez s1 σ H1 vs us Q I1 r1 q1) he AZ
theorem rD(hc:cS X (.type T) r)(hg:Gl X x)(hm:X.mg x=none)(hv:bootBuiltins x=some (.type T))(ha:PA X (e::es) t)(hn:x ≠ "__name__" := by decide)(Kd:(x == ("__debug__" : Str))=false:=by decide)
  (he:starEach (e::es) X.env=(false,eval e X.env)::starEach es X.env:=by rfl) (AZ:(backTo pos (starEach es X.env)).any (·.1)=false:=by rfl):PE X (.Call (.Name x p) (e::es) [] pos) (tCB r t):=by
 intro ez s σ H Q I h;refine wpAny_Call_Name_kw (jl I hg hm hv ?_ hn Kd);exact G4 (thn (ha pos ez s σ H _ I h) fun us s1 ⟨vs,H1,I1,r1,q1⟩=>hc ez s1 σ H1 vs us Q I1 r1 q1) he AZ
end
end L2
namespace HT
open PySem PyProof.Rows
section
variable{prog:Program}{w:World}{A:Around}{E:Value->Shared->Prop}{s:Shared}
noncomputable def sIx(n d:Nat):Option Int->Nat
 |none=>d
 |some v=>if v<0 then (v+(n:Int)).toNat else min v.toNat n
end
end HT
namespace L2
open PySem PySem.Spec PyProof.Rows
noncomputable abbrev TO:=St->Hp->(Option Int->Hp->Prop)->Prop
def PO(X:Cx)(e:Option Expr)(t:TO):Prop:=
 ∀(ez:List (Addr×Obj)) (s:Shared) (σ:St) (H:Hp) (Q:Option Int->Hp->Prop),Inv X ez σ H s->t σ H Q ->
  wpAny (model X.prog X.w) X.A (evalPart e X.env) (fun u s'=>∃o H',Inv X ez σ H' s'/\IsPart u o/\Q o H') X.xe s
def lK:TO:=fun _ H Q=>Q none H
def sZ(t:TE):TO:=fun σ H Q=>t σ H fun x H1=>∃i,x=.int i/\Q (some i) H1
section
variable{X:Cx}{e:Expr}{te:TE}{lo hi:Option Expr}{tl th:TO}{pos p2:Pos}
theorem wB:PO X none lK:=by intro ez s σ H Q I h;rw[evalPart_none];exact wpAny_pure ⟨none,H,I,.none,h⟩
theorem wC(h:PE X e te):PO X (some e) (sZ te):=by intro ez s σ H Q I hw;rw[evalPart_some];refine thn (h ez s σ H _ I hw) fun u s1 ⟨x,H1,I1,r1,q1⟩=>?_;obtain⟨i,rfl,q⟩:=q1;obtain⟨t,rfl⟩:=r1;exact⟨some i,H1,I1,.int i t,q⟩
def SlR(X:Cx)(r:V->Option Int->Option Int->Hp->VK->Prop):Prop:=
 ∀(ez:List (Addr×Obj)) (s:Shared) (σ:St) (H:Hp) (x:V) (v vl vu:Value) (lo hi:Option Int) (sl:Addr) (Q:VK),Inv X ez σ H s->RelV x v->s.heap.IsSliceOf sl vl vu .none->IsPart vl lo->IsPart vu hi->r x lo hi H Q ->
  ∃T id,typeLookup (.type T) "__getitem__" = pure (some (.builtin id))/\s.TypeIs v T/\wpAny (model X.prog X.w) X.A (getItem v (.ref sl)) (EP X ez σ Q) X.xe s
def tSl(r:V->Option Int->Option Int->Hp->VK->Prop)(te:TE)(tl th:TO):TE:=fun σ H Q=>te σ H fun x H1=>tl σ H1 fun l H2=>th σ H2 fun u H3=>r x l u H3 Q
theorem mY{r:V->Option Int->Option Int->Hp->VK->Prop}(hr:SlR X r)(he:PE X e te)(hl:PO X lo tl)(hu:PO X hi th):PE X (.Subscript e (.Slice lo hi none p2) pos) (tSl r te tl th):=by intro ez s σ H Q I h;refine Subscript_ (thn (he ez s σ H _ I h) fun v s1 ⟨x,H1,I1,r1,q1⟩=>?_);refine wpAny_Slice (thn (hl ez s1 σ H1 _ I1 q1) fun vl s2 ⟨l,H2,I2,pl,q2⟩=>thn (hu ez s2 σ H2 _ I2 q2) fun vu s3 ⟨u,H3,I3,pu,q3⟩=>?_);rw[evalPart_none];refine wpAny_pure ?_;have I4:Inv X ez σ H3 { s3 with heap:=s3.heap.push { cls:=.type "slice",data:=.fields #[vl,vu,.none] } }:=I3.kept (t':=s3.toks) fun b ob q=>FY _ q;obtain⟨T,id,hT,ht,hg⟩:=hr ez { s3 with heap:=s3.heap.push { cls:=.type "slice",data:=.fields #[vl,vu,.none] } } σ H3 x v vl vu l u s3.heap.objs.size Q I4 r1 (Heap.IsSliceOf.new ..) pl pu q3;show wpAny (model X.prog X.w) X.A (subscriptTail e (.Slice lo hi none p2) v (.ref s3.heap.objs.size)) (EP X ez σ Q) X.xe { s3 with heap:=s3.heap.push { cls:=.type "slice",data:=.fields #[vl,vu,.none] } };exact tail_any (ops:=[.ref s3.heap.objs.size,v]) ht hT hg (by with_unfolding_all rfl)
noncomputable def oU(xs:List V)(lo hi:Option Int):List V:=(xs.drop (HT.sIx xs.length 0 lo)).take (HT.sIx xs.length xs.length hi-HT.sIx xs.length 0 lo)
theorem mZ(xs:List V)(lo hi:Option Int):(oU xs lo hi).length<=xs.length:=by
 unfold oU;rw[Gz,GF]
 lia
end
noncomputable def ixN(n:Nat)(i:Int):Option Nat:=if 0<=i then (if i<n then some i.toNat else none) else if -(n:Int)<=i then some (i+n).toNat else none
noncomputable def atI{α:Type}(xs:List α)(i:Int):Option α:=(ixN xs.length i).bind fun j=>xs[j]?
theorem wD{n:Nat}{i:Int}{j:Nat}(h:ixN n i=some j):seqIndex? i n=some j/\j<n/\-(n:Int)<=i/\i<n:=by
 unfold ixN at h;by_cases h0:0<=i
 ·rw[if_pos h0]at h;by_cases h1:i<n
  ·rw[if_pos h1]at h;have e:i.toNat=j:=Option.some.inj h;exact⟨by rw[seqIndex_of h0 h1,e],by lia,by lia,h1⟩
  ·rw[if_neg h1]at h;cases h
 ·rw[if_neg h0]at h;by_cases h1:-(n:Int)<=i
  ·rw[if_pos h1]at h;have e:(i+n).toNat=j:=Option.some.inj h;exact⟨by rw[seqIndex_neg (by lia) h1,e],by lia,h1,by lia⟩
  ·rw[if_neg h1]at h;cases h
theorem lM{α:Type}{xs:List α}{i:Int}{v:α}(h:atI xs i=some v):∃j,seqIndex? i xs.length=some j/\xs[j]?=some v/\j<xs.length/\-(xs.length:Int)<=i/\i<xs.length:=by
 unfold atI at h;cases e:ixN xs.length i with
 |none=>rw[e]at h;cases h
 |some j=>rw[e]at h;obtain⟨h1,h2,h3,h4⟩:=wD e;exact⟨j,h1,h,h2,h3,h4⟩
def lN(b:Expr):Prop:=∀o i,subscripted b false o i=operate [o,i] (getItem o i)
def IxR(X:Cx)(r:R2):Prop:=
 ∀(value slice:Expr) (ez:List (Addr×Obj)) (s:Shared) (σ:St) (H:Hp) (x y:V) (v u:Value) (Q:VK),Inv X ez σ H s->RelV x v->RelV y u->r x y H Q ->
  subscripted slice false v u=operate [v,u] (getItem v u)->wpAny (model X.prog X.w) X.A (subscriptTail value slice v u) (EP X ez σ Q) X.xe s
def MtR(X:Cx)(id:String)(r:V->List V->Hp->VK->Prop):Prop:=
 ∀(ez:List (Addr×Obj)) (s:Shared) (σ:St) (H:Hp) (x:V) (xs:List V) (v:Value) (us:List Value) (Q:VK),Inv X ez σ H s->RelV x v->Vals xs us->r x xs H Q ->
  wpAny (model X.prog X.w) X.A (call (.builtin id) (v::us)) (EP X ez σ Q) X.xe s
section
variable{X:Cx}{a b:Expr}{ta tb:TE}{pos:Pos}
theorem IxR.or{r r':R2}(h:IxR X r)(h':IxR X r'):IxR X (fun x y H Q=>r x y H Q\/r' x y H Q):=by
 intro value slice ez s σ H x y v u Q I rx ry q hs;rcases q with q | q
 ·exact h value slice ez s σ H x y v u Q I rx ry q hs
 ·exact h' value slice ez s σ H x y v u Q I rx ry q hs
theorem yO{r:R2}(hr:IxR X r)(ha:PE X a ta)(hb:PE X b tb)(hs:lN b):PE X (.Subscript a b pos) (tOp r ta tb):=by intro ez s σ H Q I h;exact Subscript_ (zR ha hb I h fun v u s2 x y H2 I2 rx ry q=>hr a b ez s2 σ H2 x y v u Q I2 rx ry q (hs _ _))
def B4(K:fj):R2:=fun x y H Q=>∃p xs i v,x=.ref p/\y=.int i/\SqL K H p xs/\atI xs i=some v/\Q v H
def B5(K:fj):R2:=fun x y H Q=>∃p xs i v,x=.ref p/\y=.int i/\SqT K H p xs/\atI xs i=some v/\Q v H
def B6:R2:=fun x y H Q=>∃z i c,x=.str z/\y=.int i/\z.length<=sizeLine/\atI z.cps.toList i=some c/\Q (.str ⟨#[c]⟩) H
theorem wF:IxR X (B4 X.K):=by
 intro value slice ez s σ H x y v u Q I rx ry h hs;obtain⟨p,xs,i,z,rfl,rfl,hq,he,q⟩:=h;cases rx;obtain⟨t,rfl⟩:=ry;obtain⟨its,r,pl,hz⟩:=I.list hq;obtain⟨j,h1,h2,h3,h4,h5⟩:=lM he;obtain⟨w,ew,rw'⟩:=r.get h2;have hl:=r.length;have hn:=jq;have Ke:EP X ez σ Q w s:=⟨z,H,I,rw',q⟩
 by_cases h0:0<=i
 ·have hj:i.toNat=j:=by
   rw[seqIndex_of h0 h5]at h1;exact Option.some.inj h1
  exact item_listR pl.isList h0 (by lia) (by rw[hj];simpa using ew) Ke hs
 ·have hj:(i+(its.toArray.size:Int)).toNat=j:=by
   rw[seqIndex_neg (by lia) h4]at h1;rw[Ga,<- hl];exact Option.some.inj h1
  exact subscriptTail_builtinR (x:=w) pl.isList.typeIs slot_list_getitem.lookup
   (wpAny_getItem_list_neg (Q:=fun r s'=>r=w/\EP X ez σ Q r s') pl.isList (by lia) (by rw[Ga]<;>lia) (by lia) (by rw[hj];simpa using ew) ⟨rfl,Ke⟩) hs
theorem z6:IxR X (B5 X.K):=by
 intro value slice ez s σ H x y v u Q I rx ry h hs;obtain⟨p,xs,i,z,rfl,rfl,hq,he,q⟩:=h;cases rx;obtain⟨t,rfl⟩:=ry;obtain⟨its,r,pl,hz⟩:=I.tuple hq;obtain⟨j,h1,h2,h3,h4,h5⟩:=lM he;obtain⟨w,ew,rw'⟩:=r.get h2;have hl:=r.length;have hn:=jq;have Ke:EP X ez σ Q w s:=⟨z,H,I,rw',q⟩
 exact subscriptTail_builtinR (x:=w) pl.typeIs slot_tuple_getitem.lookup
  (getItem_tuple (j:=j) (Q:=fun r s'=>r=w/\EP X ez σ Q r s') pl (by lia) (by lia) (by rw[Ga,<- hl];exact h1) (by simpa using ew) ⟨rfl,Ke⟩) hs
theorem z7:IxR X B6:=by
 intro value slice ez s σ H x y v u Q I rx ry h hs;obtain⟨z,i,c,rfl,rfl,hz,he,q⟩:=h;obtain⟨t,rfl⟩:=rx;obtain⟨t',rfl⟩:=ry;obtain⟨j,h1,h2,h3,h4,h5⟩:=lM he;have hl:z.cps.toList.length=z.length:=by simp[Str.length]
 rw[hl]at h1 h4 h5;have hn:=jq;exact tail_any (typeIs_str s z t) slot_str_getitem.lookup (getItem_str (c:=c) (by have e1:decide (i < -(2 ^ 63:Int))=false:=decide_eq_false (by lia);have e2:decide (i≥2 ^ 63)=false:=decide_eq_false (by lia);rw[e1,e2,Bool.or_false]) (by rw[h1];simpa using h2) ⟨.str ⟨#[c]⟩,H,I.tok _,⟨_,rfl⟩,q⟩) hs
theorem lO(lo hi:Option Int)(n:Nat):(sliceBounds lo hi none n).1=((HT.sIx n 0 lo:Nat):Int)/\(sliceBounds lo hi none n).2.1=((HT.sIx n n hi:Nat):Int)/\(sliceBounds lo hi none n).2.2=1:=by
 refine⟨?_,?_,rfl⟩
 ·cases lo with
  |none=>simp[sliceBounds,HT.sIx]
  |some i=>
   simp only[sliceBounds,HT.sIx,Option.getD_none,show (1:Int)>0 by decide,if_true];by_cases h:i<0
   ·simp only[h,if_true]<;>lia
   ·simp only[h,if_false]<;>lia
 ·cases hi with
  |none=>simp[sliceBounds,HT.sIx]
  |some i=>
   simp only[sliceBounds,HT.sIx,Option.getD_none,show (1:Int)>0 by decide,if_true];by_cases h:i<0
   ·simp only[h,if_true]<;>lia
   ·simp only[h,if_false]<;>lia
theorem kF(its:List Value)(lo hi:Option Int):slicePick its.toArray lo hi none=((its.drop (HT.sIx its.length 0 lo)).take (HT.sIx its.length its.length hi-HT.sIx its.length 0 lo)).toArray:=by obtain⟨h1,h2,h3⟩:=lO lo hi its.toArray.size;unfold slicePick;rw[h1,h2,h3];simp only[sliceRange_one,pick_run,Ga]<;>rfl
def B7(K:fj):V->Option Int->Option Int->Hp->VK->Prop:=fun x lo hi H Q=>∃a xs,x=.ref a/\SqL K H a xs/\∀p,H p=none->Q (.ref p) (upd H p (.lst (oU xs lo hi)))
theorem wG:SlR X (B7 X.K):=by intro ez s σ H x v vl vu lo hi sl Q I rx hs pl pu h;obtain⟨a,xs,rfl,hx,q⟩:=h;cases rx;obtain⟨its,r,ht,hz⟩:=I.list hx;have zc:=r.length;refine⟨"list",_,slot_list_getitem.lookup,ht.isList.typeIs,?_⟩;refine wpAny_getItem_list_slice ht.isList hs pl pu .none (by simp) ?_ (by rw[Ga]<;>lia);rw[kF,<- zc];refine⟨.ref s.heap.objs.size,_,I.laid (t':=s.toks) (o:=.lst (oU xs lo hi)) (fun b ob q=>FY _ q) (Ft _) ?_,rfl,q _ (I.hok.fresh (Ft _))⟩;exact⟨FQ (mZ xs lo hi) hz,_,0,(r.drop (HT.sIx xs.length 0 lo)).take (HT.sIx xs.length xs.length hi-HT.sIx xs.length 0 lo),Gi _ rfl⟩
theorem lP:cS X (.builtin "len") (fun xs H Q=>∃p ys,xs=[.ref p]/\(SqL X.K H p ys\/SqT X.K H p ys)/\Q (.int ys.length) H):=by
 intro ez s σ H xs us Q I r h;obtain⟨p,ys,rfl,hq,q⟩:=h;obtain⟨u,rfl,rx⟩:=vals1 r;cases rx;have hn:=jq;rcases hq with hq | hq
 ·obtain⟨its,r',pl,hz⟩:=I.list hq;have zc:=r'.length;exact Calls.call_len_list pl.isList (by simp only[Ga]<;>lia) ⟨.int ys.length,H,I.tok _,⟨s.toks+1,by rw[Ga,zc]⟩,q⟩
 ·obtain⟨its,r',pl,hz⟩:=I.tuple hq;have zc:=r'.length;exact len_tuple pl (by simp only[Ga]<;>lia) ⟨.int ys.length,H,I.tok _,⟨s.toks+1,by rw[Ga,zc]⟩,q⟩
theorem lQ:cS X (.builtin "len") (fun xs H Q=>∃z,xs=[.str z]/\z.length<=sizeLine/\Q (.int z.length) H):=by intro ez s σ H xs us Q I r h;obtain⟨z,rfl,hz,q⟩:=h;obtain⟨u,rfl,t,rfl⟩:=vals1 r;have hn:=jq;exact len_str (by lia) ⟨.int z.length,H,I.tok _,⟨_,rfl⟩,q⟩
def tyV(K:fj)(T:String)(x:V)(H:Hp):Prop:=match x with
 |.str _=>T = "str"
 |.int _=>T = "int"
 |.ref p=>(T = "list" /\ ∃xs,SqL K H p xs)\/(T = "tuple" /\ ∃o,K.lookup p=some o/\o.cls=.type "tuple" /\ o.dict=none) \/
   (T = "dict" /\ ((∃kvs,H p=some (.dK kvs))\/∃kvs ts,H p=some (.dT kvs ts)))\/(T = "set" /\ ∃S n,H p=some (.set S n))
 |_=>False
theorem s_{ez:List (Addr×Obj)}{σ:St}{H:Hp}{s:Shared}{T:String}{x:V}{v:Value}(I:Inv X ez σ H s)(r:RelV x v)(ty:tyV X.K T x H) :
  s.TypeIs v T/\∀a,v=.ref a->∃ob,s.heap.get? a=some ob/\ob.dict=none:=by
 cases x with
 |str z=>obtain⟨t,rfl⟩:=r;cases (show T = "str" from ty);exact⟨typeIs_str s z t,fun _ e=>nomatch e⟩
 |int i=>obtain⟨t,rfl⟩:=r;cases (show T = "int" from ty);exact⟨typeIs_int s i t,fun _ e=>nomatch e⟩
 |ref p=>
  cases r;rcases ty with⟨rfl,xs,hq⟩ | ⟨rfl,o,hk,hc,hd⟩ | ⟨rfl,hk⟩ | ⟨rfl,S,n,hk⟩
  ·obtain⟨its,_,pl,_⟩:=I.list hq;refine⟨pl.isList.typeIs,fun a e=>?_⟩;cases e;obtain⟨o,n,e,c,hd,_⟩:=pl;exact⟨o,e,hd⟩
  ·refine⟨⟨o,I.kIn p o hk,hc⟩,fun a e=>?_⟩;cases e;exact⟨o,I.kIn _ o hk,hd⟩
  ·have z:∃o,s.heap.get? p=some o/\o.ExactDict:=by
    rcases hk with⟨kvs,hk⟩ | ⟨kvs,ts,hk⟩
    ·obtain⟨_,_,_,_,o,_,_,e,ex,_⟩:=I.hok p _ hk;exact⟨o,e,ex⟩
    ·obtain⟨_,_,_,_,o,_,_,e,ex,_⟩:=I.hok p _ hk;exact⟨o,e,ex⟩
   obtain⟨o,e,ex⟩:=z;refine⟨⟨o,e,ex.1⟩,fun a e2=>?_⟩;cases e2;exact⟨o,e,ex.2.1⟩
  ·obtain⟨o,_,_,_,e,ex,_⟩:=I.hok p _ hk;refine⟨⟨o,e,ex.1⟩,fun a e2=>?_⟩;cases e2;exact⟨o,e,ex.2.1⟩
 |_=>exact FG ty
def B8(K:fj)(T:String)(r:V->List V->Hp->VK->Prop)(to:TE):TE:=fun σ H Q=>to σ H fun x H1=>tyV K T x H1/\r x [] H1 Q
def tBM(K:fj)(T:String)(r:V->List V->Hp->VK->Prop)(to:TE)(t:TA):TE:=fun σ H Q=>to σ H fun x H1=>tyV K T x H1/\t σ H1 fun xs H2=>r x xs H2 Q
variable{o e:Expr}{es:List Expr}{to:TE}{t:TA}{name:Str}{Km cpos:Pos}{T id:String}{r:V->List V->Hp->VK->Prop}
theorem z8(pa:PlainAttrs T)(slot:Slot T name id)(hty:typeOf (.builtin id)=pure (.type "method_descriptor"))(hm:MtR X id r)(ho:PE X o to)
  (A8:attributeBase o name X.env (eval o X.env)=eval o X.env:=by rfl) (A0:(Km.endLine == cpos.line)=true:=by rfl):PE X (.Call (.Attribute o name Km) [] [] cpos) (B8 X.K T r to):=by
 intro ez s σ H Q I h;refine wpAny_Call_method0_late A8 A0 (thn (ho ez s σ H _ I h) fun v s1 ⟨x,H1,I1,r1,ty,q1⟩=>?_);obtain⟨h1,h2⟩:=s_ I1 r1 ty;exact⟨T,id,pa,slot,hty,h1,h2,Calls.callWith_builtin rfl (PySem.evalArgs_none (hm ez s1 σ H1 x [] v [] Q I1 r1 .nil q1))⟩
theorem yP(pa:PlainAttrs T)(slot:Slot T name id)(hty:typeOf (.builtin id)=pure (.type "method_descriptor"))(hm:MtR X id r)(ho:PE X o to)(ha:PA X (e::es) t)
  (A8:attributeBase o name X.env (eval o X.env)=eval o X.env:=by rfl)
  (hfew:((backTo cpos (starEach (e::es) X.env)).all (fun x=>!x.1)&&(backToKw cpos (keywordEach [] X.env)).all (fun x=>x.1.isSome)
   && decide ((e::es).length+([]:List Keyword).length+(if ([]:List Keyword).isEmpty then 0 else 1)<30))=true:=by rfl)
  (A0:(Km.endLine == cpos.line)=true:=by rfl) (hs:starEach (e::es) X.env=(false,eval e X.env)::starEach es X.env:=by rfl) (Dh:(backTo cpos (starEach es X.env)).any (·.1)=false:=by rfl) :
  PE X (.Call (.Attribute o name Km) (e::es) [] cpos) (tBM X.K T r to t):=by
 intro ez s σ H Q I h;refine wpAny_Call_method_late A8 hfew A0 rfl (thn (ho ez s σ H _ I h) fun v s1 ⟨x,H1,I1,r1,ty,q1⟩=>?_);obtain⟨h1,h2⟩:=s_ I1 r1 ty;refine⟨T,id,pa,slot,hty,h1,h2,?_⟩;have hA:=ha cpos ez s1 σ H1 _ I1 q1;rw[hs]at hA ⊢;refine Calls.callWith_builtin (by show (false||(backTo cpos (starEach es X.env)).any (·.1))=false;rw[Dh]<;>rfl) (Calls.evalArgs_plain ?_);exact thn hA fun us s2 ⟨vs,H2,I2,r2,q2⟩=>hm ez s2 σ H2 x vs v us Q I2 r1 r2 q2
end
def MtM(X:Cx)(id:String)(r:V->List V->Hp->VK->Prop):Prop:=
 ∀(ez:List (Addr×Obj)) (s:Shared) (σ:St) (H:Hp) (x:V) (xs:List V) (v:Value) (us:List Value) (Q:VK),Inv X ez σ H s->RelV x v->Vals xs us->r x xs H Q ->
  wpAny (model X.prog X.w) X.A (call (.builtin id) (v::us)) (EP X ez σ Q) X.xe s
theorem Vals.one:∀{x:V} {us:List Value},Vals [x] us->∃u,us=[u]/\RelV x u
 |_,_,.cons r .nil=>⟨_,rfl,r⟩
theorem Vals.rep{xs:List V}{us:List Value}(h:Vals xs us):∀k:Nat,Vals (eg k xs).flatten (eg k us).flatten
 |0=>.nil
 |k+1=>by rw[Gq,Gq,GR,GR];exact Vals.append h (Vals.rep h k)
theorem foldl_rep(its:List Value):∀(k:Nat) (uK:List Value),
  Iz (fun x1 x2=>x1++x2) uK.toArray (eg k its.toArray)=(uK++(eg k its).flatten).toArray
 |0,uK=>by simp
 |k+1,uK=>by
  have e:uK.toArray++its.toArray=(uK++its).toArray:=by simp
  have e2:(uK++its)++(eg k its).flatten=uK++(eg (k+1) its).flatten:=by rw[Gq,GR,GJ]
  rw[<- e2,<- foldl_rep its k (uK++its),<- e,Gq,HA]
section
variable{X:Cx}{ez:List (Addr×Obj)}{σ:St}{H:Hp}{s:Shared}{l b:Addr}{xs ys zs:List V}
theorem Inv.Eo{its its':List Value}{n:Nat}{f:Array Value->Array Value}{t':Nat}(I:Inv X ez σ H s)(hH:H l=some (.lst xs))
  (e:s.heap.get? l=some { cls:=.type "list",data:=.seq its.toArray n }) (hf:f its.toArray=its'.toArray) (hv:Vals ys its') (hz:ys.length<=sizeLine) :
  Inv X ez σ (upd H l (.lst ys)) { s with heap:=s.heap.update l (Obj.mapSeq f),toks:=t' }:=by
 have q:=PySem.IsL.update e f;rw[hf]at q;refine I.write (x:=l) (e:=l) (by rw[hH];exact trivial) (.inl rfl) (fun b' u hb hu=>(Heap.get?_update_other s.heap (Obj.mapSeq f) (Gx hb)).trans hu) ⟨_,q⟩ ?_;exact⟨hz,its',_,hv,q⟩
theorem Inv.z9{its:List Value}{t':Nat}(I:Inv X ez σ H s)(hv:Vals ys its)(hz:ys.length<=sizeLine) :
  Inv X ez σ (upd H s.heap.objs.size (.lst ys)) { s with heap:=s.heap.push { cls:=.type "list",data:=.seq its.toArray },toks:=t' }:=
 I.laid (fun _ _ q=>FY _ q) (Ft _) ⟨hz,its,0,hv,Gi _ rfl⟩
theorem Inv.fresh(I:Inv X ez σ H s):H s.heap.objs.size=none:=I.hok.fresh (Ft _)
theorem Inv.Ep(I:Inv X ez σ H s)(hH:H l=some (.lst xs)):xs.length<=sizeLine/\∃(its:List Value) (n:Nat),Vals xs its/\xs.length=its.length/\s.heap.get? l=some { cls:=.type "list",data:=.seq its.toArray n }:=by obtain⟨z,its,n,r,e⟩:=I.hok l _ hH;exact⟨z,its,n,r,r.length,e⟩
theorem tu{n:Nat}(h:n<=sizeLine):Hl n=false:=by unfold Hl;exact decide_eq_false (by lia)
end
section
variable{X:Cx}
def qh:V->List V->Hp->VK->Prop:=fun x vs H Q=>∃l xs y,x=.ref l/\vs=[y]/\H l=some (.lst xs)/\xs.length<sizeLine/\Q .non (upd H l (.lst (xs++[y])))
theorem kM:MtM X "list.append" qh:=by
 intro ez s σ H x vs v us Q I rx rv h;obtain⟨l,xs,y,rfl,rfl,hH,hz,q⟩:=h;cases rx;obtain⟨u,rfl,ru⟩:=rv.one;obtain⟨z,its,n,r,hl,e⟩:=I.Ep hH;refine call_meets F.slot_list_append ⟨_,e,rfl⟩ F.entry_list_append (F.args_list_append_2 _ _) (PySem.list_append l its.toArray n u (by rw[Ga];lia)) ⟨e,?_⟩;refine⟨.non,_,I.Eo (its':=its++[u]) hH e (by simp) (r.append (.cons ru .nil)) ?_,rfl,q⟩;rw[Fl,Hv]
 lia
theorem len_rep{α:Type}(xs:List α)(k:Nat):(eg k xs).flatten.length=k*xs.length:=by
 induction k with
 |zero=>simp
 |succ k ih=>rw[Gq,GR,Fl,ih,Nat.succ_mul,Iq]
end
end L2
namespace Att
open PySem PySem.W PySem.Calls PyProof.Rows
theorem iW{P:Params}{h:Heap}:∀(ns:List Int) (vs:List Value),WellAll P h vs (ns.map WData.int)->IntsAre vs ns:=by
 intro ns
 induction ns with
 |nil=>intro vs w;rw[F0]at w;cases w;exact .nil
 |cons n ns ih=>
  intro vs w;rw[gV]at w;cases w with
  |cons a b=>cases a;exact .cons _ _ (ih _ b)
theorem rE{l:OpenLaw}{n:Nat}(hn:l.most=some n){P:Params}{h:Heap}{args:List WData}{vals:List Value}
  (hpre:l.row.toRowW.claim.pre args=true) (hwl:WellAll P h vals args) :
  ∃a vs ns,vals=[GC a]/\args=[WData.list (ns.map WData.int)]/\h.get? a=some { cls:=.type "list",data:=.seq vs.toArray }/\IntsAre vs ns/\ns.length<=n:=by
 have hsh:WShape.hasAll [] args [.list .int]=true:=(pre_splitW hpre).1;have hc:l.pre.holds [] { args:=args }=true:=(pre_splitW hpre).2;obtain⟨d,r,rfl,h1,h2⟩:=hasAllW_cons hsh;obtain rfl:=hasAllW_nil h2;obtain⟨xs,rfl,h3⟩:=hasW_list h1;obtain⟨ns,rfl⟩:=items_int h3;have zc:ns.length<=n:=by
  unfold OpenLaw.pre at hc;have h4:(WTm.not (.lt (.lit (.int (n:Int))) (.len (.arg 0)))).holds [] { args:=[.list (ns.map .int)] }=true:=by have h4:=(holds_andW hc).1;rw[hn]at h4;exact h4
  have h5:=condW_of h4 (w_not (w_lt w_lit (w_len_list (w_arg rfl))));rw[Fw]at h5;refine Nat.le_of_not_lt fun q=>?_;have q':(n:Int)<((ns.length:Nat):Int):=by omega
  first
   |(rw[decide_eq_true q']at h5;exact absurd h5 (by decide))
   |(simp at h5;omega)
 cases hwl with
 |cons w1 w2=>
  cases w2;cases w1 with
  |list ho hall=>exact⟨_,_,ns,rfl,rfl,ho,iW ns _ hall,zc⟩
theorem rF(l:OpenLaw)(args:List WData):l.row.toRowW.claim.post args (.bool true) args=true:=
 postW_of (r:=l.row.toRowW) (X:=(true == true))
  (show WShape.has [] (.bool true) .bool=true by first | rfl | decide | simp[WShape.has,WShape.arms,WShape.armsAll])
  (show (WTm.eq .res (.lit (.bool true))).value [] { args:=args,res:=some (.bool true),after:=args }=some (.bool (true == true)) from w_eq_bool (w_res rfl) w_lit) rfl
theorem m5{l:OpenLaw}{n:Nat}{q:Program}{loose:List Str}{XP:(Str->Option Value)->Heap->Prop}{YP:World->Heap->Prop}{d:DefRec}
  (hn:l.most=some n) (hdf:d.params.defaults=[])
  (call:∀ (w:World) (s₀ s₁:Shared) (mg mb:Str→Option Value) (fa:Addr) (o:Obj) (pm cd doc:Value) (a:Addr) (vs:List Value) (ns:List Int),
   Ground q loose [] XP w s₀ mg mb s₁.heap->YP w s₁.heap ->
   s₁.heap.get? fa=some o->o.data=.func (docDef d.name d.params d.body d.scope pm cd doc)->s₁.heap.CodeRec cd d.name->mg d.name=some (.ref fa) ->
   s₁.heap.get? a=some { cls:=.type "list",data:=.seq vs.toArray }->IntsAre vs ns->ns.length<=n->s₁.gens=#[] ->
   codeAny (model l.prog w) callerA (.call (.ref fa) ⟨[.ref a],[]⟩) (fun r s'=>r=.ok (.ret (.bool true))/\OldK s₁.heap s'.heap/\s'.os=s₁.os/\AllBare s'.gens) s₁) :
  WalkO q loose XP YP l.row.toRowW d [] (fun f vs=>PySem.call f vs):=by
 intro w s₀ s₁ mg mb G Y fa o pm cd doc dV kV ho hd Kg hD hmg hg args vals as hpre hlay hrd hwl hlo;obtain rfl:dV=.none:=Dflts.none hD hdf;obtain rfl:kV=.none:=Dflts.noKw hD;obtain⟨a,vs,ns,rfl,rfl,hobj,hints,zc⟩:=rE hn hpre hwl;refine enter_call (codeAny_mono (call w s₀ s₁ mg mb fa o pm cd doc a vs ns G Y ho (fd_plain hd) Kg hmg hobj hints zc hg) fun r s' hq=>?_);obtain⟨rfl,h2,h3,h4⟩:=hq;exact⟨.inl ⟨.bool true,.bool true,[],rfl,fun _=>rfl,.bool true,rF l _,fun _=>⟨List.Pairwise.nil,fun _ hm=>(nomatch hm)⟩⟩,h2,h3,h4⟩
end Att
namespace L2
open PySem PySem.Spec PyProof.Rows
theorem kN:∀{vs:List Value} {ns:List Int},IntsAre vs ns->Vals (ns.map V.int) vs
 |_,_,.nil=>.nil
 |_,_,.cons n t h=>.cons ⟨t,rfl⟩ (kN h)
def z_(H:Hp):Prop:=∀b,H b=none\/∃o xs,H b=some (.frz o (.lst xs))
theorem tw{P:Program}{w:World}{K:fj}{mg mb:Str->Option Value}{CX:CXT}{k:Nat}{fa a:Addr}{fd:FuncData}{x:Str}{sp:Sp}{s₁:Shared}{vs:List Value}{ns:List Int}
  (KX:K.In s₁.heap) (hns:s₁.heap.Ns mainGlobals mg) (hb:s₁.heap.Ns builtinsNs mb) (hbb:∀x:Str,x ≠ "__name__" -> mb x=bootBuiltins x) (hlim:s₁.heap.NoLimit) (hg:s₁.gens=#[])
  (ha:s₁.heap.get? a=some { cls:=.type "list",data:=.seq vs.toArray }) (hi:IntsAre vs ns) (hl:ns.length<=sizeLine) (hr:b_ k callerA)
  (F:∀base:Heap,K.In base->base.Ns mainGlobals mg->bM P w K mg base CX k fa fd [x] sp) (hbind:∀(s:Shared) (u:Value),BindsTo s fd ⟨[u],[]⟩ [(x,u)])
  (hsp:∀H:Hp,z_ H->SqL K H a (ns.map V.int)->sp [.ref a] H (fun v _=>v=.bl true) fun _ _ _=>False)
  (hCX:∀H e s',CX [] H s₁ (fun _ _ _=>False) e s'->False) :
  codeAny (model P w) callerA (.call (.ref fa) ⟨[.ref a],[]⟩) (fun r s'=>r=.ok (.ret (.bool true))/\OldK s₁.heap s'.heap/\s'.os=s₁.os/\AllBare s'.gens) s₁:=by
 have rv:=kN hi;have Er:=hi.length;have core:∀H:Hp,z_ H->SqL K H a (ns.map V.int)->HOk P w H s₁.heap->(∀b,H b≠none->b=a)->(H a≠none->K.lookup a=none) ->
   codeAny (model P w) callerA (.call (.ref fa) ⟨[.ref a],[]⟩) (fun r s'=>r=.ok (.ret (.bool true))/\OldK s₁.heap s'.heap/\s'.os=s₁.os/\AllBare s'.gens) s₁:=by
  intro H hO hS hok hA hK;have qi:∀{b:Addr} {o:Obj},s₁.heap.get? b=some o->H b=none->(lG s₁.heap H).get? b=some o:=fun e n=>sC e n;have noA:∀{b:Addr} {o:Obj} {es:Array DictEntry} {ep:Nat},s₁.heap.get? b=some o->o.data=.dict es ep->H b=none:=fun {b o es ep} e d=>by
   cases q:H b with
   |none=>rfl
   |some u=>have e':b=a:=hA b (by rw[q];simp);subst e';rw[ha]at e;cases e;have d':Data.seq vs.toArray _=Data.dict es ep:=d;cases d'
  have nsK:∀{b:Addr} {m:Str->Option Value},s₁.heap.Ns b m->(lG s₁.heap H).Ns b m:=fun {b m} ⟨o,es,ep,e,d,r⟩=>⟨o,es,ep,qi e (noA e d),d,r⟩;have hKb:K.In (lG s₁.heap H):=fun b o e=>qi (KX b o e) (by
   cases q:H b with
   |none=>rfl
   |some u=>have e':b=a:=hA b (by rw[q];simp);subst e';rw[hK (by rw[q];simp)]at e;cases e)
  have hM:Mod K mg (lG s₁.heap H):=⟨hKb,nsK hns,⟨mb,nsK hb,hbb⟩,let ⟨mc,h1,h2⟩:=hlim;⟨mc,nsK h1,h2⟩⟩
  have e0:wz P w K mg (lG s₁.heap H) callerA [] s₁ H:=⟨rfl,hM,fun b o e=>v8 e,Nat.le_of_eq (qX _ _),trivial,fun b hb=>absurd (show b∈([]:List Addr) from hb) (by simp),hok,.of_eq hg⟩
  refine codeAny_mono ((F _ hKb (nsK hns)).run callerA [] s₁ H ⟨[.ref a],[]⟩ [.ref a] [.ref a] _ _ hr e0 (hbind s₁ (.ref a)) (.cons rfl .nil) (hsp H hO hS)) fun r s' h=>?_;cases r with
  |error e=>exact(hCX H e s' h).elim
  |ok fl=>
   cases fl with
   |next=>exact FG h
   |brk=>exact FG h
   |cont=>exact FG h
   |ret u=>
    obtain⟨v,H',os,bare,un,Es,r',q⟩:=h;have q':v=.bl true:=q;subst q';obtain rfl:u=Iw true:=r';refine⟨rfl,OldK.of_keep fun b o e=>?_,os,bare⟩;cases q:H b with
    |none=>exact un.keep b o e q (by intro z;exact absurd (show b∈([]:List Addr) from z) (by simp)) (by simp)
    |some u=>
     rcases hO b with z | ⟨ob,xs,z⟩
     ·rw[q]at z;cases z
     ·have z2:=un.iU b ob _ z;obtain⟨e1,_⟩:=hok b _ z;obtain⟨e2,_⟩:=Es b _ z2;rw[e]at e1;cases e1;exact e2
 cases hk:K.lookup a with
 |some o=>have e:=KX a o hk;rw[ha]at e;cases e;refine core (fun _=>none) (fun _=>.inl rfl) (.inr ⟨_,vs.toArray,_,hk,rfl,rfl,rfl,by rw[Ga,Er];exact hl,by simpa using rv⟩) (fun b u z=>by have z':(none:Option HO)=some u:=z;cases z') (fun b z=>absurd rfl z) fun z=>absurd rfl z
 |none=>
  refine core (fun b=>if b=a then some (.frz { cls:=.type "list",data:=.seq vs.toArray } (.lst (ns.map V.int))) else none) (fun b=>?_) (.inl (.inr ⟨{ cls:=.type "list",data:=.seq vs.toArray },if_pos rfl⟩)) (fun b u z=>?_) (fun b z=>?_) fun _=>hk
  ·by_cases hb:b=a
   ·exact .inr ⟨_,_,if_pos hb⟩
   ·exact .inl (if_neg hb)
  ·by_cases hb:b=a
   ·have z':=(if_pos hb).symm.trans z;cases z';subst hb;exact⟨ha,by rw[Fw];exact hl,vs,_,rv,ha⟩
   ·have z':=(if_neg hb).symm.trans z;cases z'
  ·by_cases hb:b=a
   ·exact hb
   ·exact absurd (if_neg hb) z
theorem wH{l:Ii}{n k:Nat}{q:Program}{loose:List Str}{XP:(Str->Option Value)->Heap->Prop}{YP:World->Heap->Prop}{d:DefRec}{K:Params->fj}{CX:World->CXT}{sp:World->Sp}{x:Str}
  (hn:l.most=some n) (hn2:n<=sizeLine) (hdf:d.params.defaults=[]) (hr:b_ k callerA)
  (hY:∀(w:World) (h:Heap),YP w h->(K w.params).In h)
  (F:∀ (w:World) (mg:Str→Option Value) (fa:Addr) (h:Heap),(K w.params).In h→h.Ns mainGlobals mg→mg d.name=some (.ref fa) →
   ∃fd:FuncData,(∀(s:Shared) (u:Value),BindsTo s fd ⟨[u],[]⟩ [(x,u)]) /\
    ∀base:Heap,(K w.params).In base->base.Ns mainGlobals mg->bM l.prog w (K w.params) mg base (CX w) k fa fd [x] (sp w))
  (hsp:∀(w:World) (H:Hp) (a:Addr) (ns:List Int),ns.length<=n->z_ H->SqL (K w.params) H a (ns.map V.int)->sp w [.ref a] H (fun v _=>v=.bl true) fun _ _ _=>False)
  (hCX:∀(w:World) (H:Hp) (s:Shared) (e:Value) (s':Shared),CX w [] H s (fun _ _ _=>False) e s'->False) :
  PySem.W.WalkO q loose XP YP l.row.toRowW d [] (fun f vs=>PySem.call f vs):=by
 refine Att.m5 hn hdf fun w s₀ s₁ mg mb fa o pm cd doc a vs ns G Y ho hd Kg hmg hobj hints zc hg=>?_;have KX:=hY w _ Y;obtain⟨fd,hb,hF⟩:=F w mg fa _ KX G.T.g hmg;exact tw KX G.T.g G.T.b G.T.builtins G.T.nolimit hg hobj hints (FQ zc hn2) hr hF hb (fun H hO hS=>hsp w H a ns zc hO hS) fun H e s'=>hCX w H s₁ e s'
noncomputable def bG(s:Stmt):Arguments:=match s with
 |.FunctionDef _ a _ _ _ _ _ _ _ _=>a
 |_=>{ posonlyargs:=[],args:=[],vararg:=none,kwonlyargs:=[],kw_defaults:=[],kwarg:=none,defaults:=[] }
noncomputable def a_(s:Stmt):List Stmt:=match s with
 |.FunctionDef _ _ b _ _ _ _ _ _ _=>b
 |_=>[]
noncomputable def af(s:Stmt):Scope:=match s with
 |.FunctionDef _ _ _ _ _ _ sc _ _ _=>sc
 |_=>{ kind:=.function,names:=[],isGenerator:=false,isCoroutine:=false }
noncomputable abbrev CX0:CXT:=fun _ _ _ _ _ _=>False
noncomputable abbrev E0:XK:=fun _ _ _=>False
theorem B9{X:Cx}:Passes CX0 X E0:=fun _ _ _ _ _ _ _ h=>h.elim
structure Fun(K:fj)(x qual:Str)(st:Stmt)(f:Addr)(fd:FuncData):Prop where
 ex:∃(oc:Value) (od:Option Addr) (kV doc pm:Value) (an:Option Addr) (cdv ct:Value) (osl:Array (Option Value)),
  fd=Gn x qual (bG st) (a_ st) (af st) .none kV doc pm an cdv ct/\K.lookup f=some ⟨oc,od,.func fd,osl⟩/\HJ K cdv qual=true
 kp:G0 K (.ref f)=true
section
variable{P:Program}{w:World}{K:fj}{mg:Str->Option Value}{base:Heap}
section
variable{x qual:Str}{st:Stmt}{fd:FuncData}{f:Addr}
theorem Fun.ok{N ps:List Str}{k:Nat}{sp:Sp}(F:Fun K x qual st f fd)(S:aD N ps (af st))(len:∀vs H Q E,sp vs H Q E->vs.length=ps.length)
  (hbody:∀ (cdv:Value) (A:Around) (outer:List Env) (s:Shared) (H:Hp) (vs:List V) (Q:VK) (E:XK),b_ k (A.deeper (envOfC qual (af st) s.heap.objs.size f cdv))→sp vs H Q E →
   ∃t,PSs (fQ CX0 P w K mg base N qual (af st) f cdv A outer s H E).nox (a_ st) t/\t { nx:=fun _ H'=>Q .non H',rt:=Q } (start N vs) H):bM P w K mg base CX0 (k+1) f fd ps sp:=by
 obtain⟨oc,od,kV,doc,pm,an,cdv,ct,osl,rfl,lk,Kg⟩:=F.ex;refine yN lk Kg S len fun A outer s H vs Q E hr hsp=>?_;obtain⟨t,h,q⟩:=hbody cdv A outer s H vs Q E hr hsp;exact⟨t,h.nox,q⟩
theorem Fun.binds{ps:List Str}(F:Fun K x qual st f fd)
  (h:∀(kV doc pm:Value) (an:Option Addr) (cdv ct:Value) (us:List Value),us.length=ps.length->bindArgs (Gn x qual (bG st) (a_ st) (af st) .none kV doc pm an cdv ct) ⟨us,[]⟩=pure (ps.zip us)):Binds K fd ps []:=by
 obtain⟨oc,od,kV,doc,pm,an,cdv,ct,osl,rfl,lk,Kg⟩:=F.ex;exact .all (h kV doc pm an cdv ct)
theorem Aa{oc:Value}{od an:Option Addr}{osl:Array (Option Value)}{kV doc pm cdv ct:Value}(l:K.lookup f=some ⟨oc,od,.func (Gn x qual (bG st) (a_ st) (af st) .none kV doc pm an cdv ct),osl⟩)
  (c:HJ K cdv qual=true) (k:G0 K (.ref f)=true):Fun K x qual st f (Gn x qual (bG st) (a_ st) (af st) .none kV doc pm an cdv ct):=⟨⟨oc,od,kV,doc,pm,an,cdv,ct,osl,rfl,l,c⟩,k⟩
end
end
theorem kO{n:Nat}(h:n<=1000):n<sizeLine:=HN h (by decide)
def aC(H H':Hp):Prop:=∀b o,H b=some o->H' b=some o
theorem aC.refl(H:Hp):aC H H:=fun _ _ h=>h
theorem aC.trans{H H1 H2:Hp}(a:aC H H1)(b:aC H1 H2):aC H H2:=fun c o h=>b c o (a c o h)
theorem aC.free{H H':Hp}(e:aC H H'){l:Addr}(h:H' l=Option.none):H l=Option.none:=by
 cases q:H l with
 |none=>rfl
 |some o=>rw[e l o q]at h;cases h
section
variable{P:Program}{w:World}{H:Hp}{h:Heap}{a:Addr}
theorem B_{u:HO}(ok:HOk P w H h)(e:Rd H a u):bF P w H h a u:=e.ok ok
theorem Ca{kvs:List (Key×V)}(ok:HOk P w H h)(e:Rd H a (.dK kvs)):kvs.length<=sizeLine/\(a == sysModules)=false/\∃vs,KV kvs vs/\h.DictOf (i_ P w) a vs:=
 show bF P w H h a (.dK kvs) from B_ ok e
theorem Cb{kvs:List (Key×V)}(ok:HOk P w H h)(e:H a=some (.dK kvs)):kvs.length<=sizeLine/\(a == sysModules)=false/\∃vs,KV kvs vs/\h.DictOf (i_ P w) a vs:=Ca ok (.inl e)
end
end L2
namespace Dm
inductive Dat where
 |non
 |bl (b:Bool)
 |int (i:Int)
 |str (s:List Nat)
 |tup (xs:List Dat)
 |lst (xs:List Dat)
 |dct (ks:List Int) (vs:List Dat)
 |dcp (ks:List (Int×Int)) (vs:List Dat)
 |exc (C:Nat)
 |cg (C:Nat) (v:Int)
 |fn (a:Nat)
deriving Inhabited
inductive Cell where
 |un
 |sh (d:Dat)
 |ow (d:Dat)
deriving Inhabited
noncomputable abbrev Env:=List Cell
inductive Val where
 |val (d:Dat)
 |slot (i:Nat)
 |new (d:Dat)
inductive RV where
 |val (d:Dat)
 |new (d:Dat)
noncomputable def RV.dat:RV->Dat
 |.val d=>d
 |.new d=>d
noncomputable def RV.aH:RV->Val
 |.val d=>.val d
 |.new d=>.new d
noncomputable def SZ:Nat:=100000
noncomputable def aP:Dat->Bool
 |.tup _=>true
 |.lst _=>true
 |.dct _ _=>true
 |.dcp _ _=>true
 |.exc _=>true
 |.cg _ _=>true
 |_=>false
noncomputable def pk(ρ:Env):Val->Option Dat
 |.val d=>some d
 |.new d=>some d
 |.slot i=>match ρ[i]? with
  |some (.ow d)=>some d
  |some (.sh d)=>some d
  |_=>none
noncomputable def tk(ρ:Env):Val->Option (Dat×Env)
 |.val d=>some (d,ρ)
 |.new d=>some (d,ρ)
 |.slot i=>match ρ[i]? with
  |some (.ow d)=>some (d,ρ.set i (.sh d))
  |some (.sh d)=>some (d,ρ)
  |_=>none
noncomputable def pks(ρ:Env):List Val->Option (List Dat)
 |[]=>some []
 |x::r=>match pk ρ x with
  |none=>none
  |some d=>match pks ρ r with
   |none=>none
   |some ds=>some (d::ds)
noncomputable def tks(ρ:Env):List Val->Option (List Dat×Env)
 |[]=>some ([],ρ)
 |x::r=>match tk ρ x with
  |none=>none
  |some (d,ρ1)=>match tks ρ1 r with
   |none=>none
   |some (ds,ρ2)=>some (d::ds,ρ2)
noncomputable abbrev FE:=Env->Option (Val×Env)
noncomputable abbrev FT:=Env->Option (Bool×Env)
noncomputable def eC(d:Dat):FE:=fun ρ=>some (.val d,ρ)
noncomputable def eV(i:Nat):FE:=fun ρ=>match ρ[i]? with
 |some (.sh d)=>some (.val d,ρ)
 |some (.ow _)=>some (.slot i,ρ)
 |_=>none
noncomputable def e1(g:Dat->Option RV)(a:FE):FE:=fun ρ=>match a ρ with
 |none=>none
 |some (x,ρ1)=>match pk ρ1 x with
  |none=>none
  |some d=>match g d with
   |none=>none
   |some v=>some (v.aH,ρ1)
noncomputable def e2(g:Dat->Dat->Option RV)(a b:FE):FE:=fun ρ=>match a ρ with
 |none=>none
 |some (x,ρ1)=>match b ρ1 with
  |none=>none
  |some (y,ρ2)=>match pk ρ2 x with
   |none=>none
   |some d=>match pk ρ2 y with
    |none=>none
    |some e=>match g d e with
     |none=>none
     |some v=>some (v.aH,ρ2)
noncomputable def eAs:List FE->Env->Option (List Val×Env)
 |[],ρ=>some ([],ρ)
 |a::r,ρ=>match a ρ with
  |none=>none
  |some (x,ρ1)=>match eAs r ρ1 with
   |none=>none
   |some (xs,ρ2)=>some (x::xs,ρ2)
noncomputable def eB(g:List Dat->Option RV)(as:List FE):FE:=fun ρ=>match eAs as ρ with
 |none=>none
 |some (xs,ρ1)=>match pks ρ1 xs with
  |none=>none
  |some ds=>match g ds with
   |none=>none
   |some v=>some (v.aH,ρ1)
noncomputable def bV(as:List FE):FE:=fun ρ=>match eAs as ρ with
 |none=>none
 |some (xs,ρ1)=>match tks ρ1 xs with
  |none=>none
  |some (ds,ρ2)=>if ds.length<=SZ then some (.val (.tup ds),ρ2) else none
noncomputable def bf(as:List FE):FE:=fun ρ=>match eAs as ρ with
 |none=>none
 |some (xs,ρ1)=>match tks ρ1 xs with
  |none=>none
  |some (ds,ρ2)=>if ds.length<=SZ then some (.new (.lst ds),ρ2) else none
noncomputable def eF(f:List Dat->Option RV)(as:List FE):FE:=fun ρ=>match eAs as ρ with
 |none=>none
 |some (xs,ρ1)=>match pks ρ1 xs with
  |none=>none
  |some ds=>match f ds with
   |none=>none
   | some v=>if aP v.dat then (match tks ρ1 xs with
     |none=>none
     |some (_,ρ2)=>some (v.aH,ρ2)) else some (v.aH,ρ1)
noncomputable def eIf(t:FT)(a b:FE):FE:=fun ρ=>match t ρ with
 |none=>none
 |some (true,ρ1)=>a ρ1
 |some (false,ρ1)=>b ρ1
noncomputable def bO(a b:FE):FE:=fun ρ=>match a ρ with
 |some (.val (.bl true),ρ1)=>b ρ1
 |some (.val (.bl false),ρ1)=>some (.val (.bl false),ρ1)
 |_=>none
noncomputable def cI(a:FE):FE:=fun ρ=>match a ρ with
 |some (.val (.bl c),ρ1)=>some (.val (.bl (!c)),ρ1)
 |_=>none
noncomputable def tV(a:FE):FT:=fun ρ=>match a ρ with
 |some (.val (.bl c),ρ1)=>some (c,ρ1)
 |_=>none
noncomputable def aV(t:FT):FT:=fun ρ=>match t ρ with
 |some (c,ρ1)=>some (!c,ρ1)
 |none=>none
noncomputable def b8(t u:FT):FT:=fun ρ=>match t ρ with
 |some (true,ρ1)=>u ρ1
 |some (false,ρ1)=>some (false,ρ1)
 |none=>none
noncomputable def tOr(t u:FT):FT:=fun ρ=>match t ρ with
 |some (true,ρ1)=>some (true,ρ1)
 |some (false,ρ1)=>u ρ1
 |none=>none
noncomputable def aO:FT:=fun ρ=>some (true,ρ)
noncomputable abbrev FI:=Env->Option (List Dat×Env)
noncomputable def iL(a:FE):FI:=fun ρ=>match a ρ with
 |none=>none
 |some (x,ρ1)=>match tk ρ1 x with
  |some (.lst ds,ρ2)=>some (ds,ρ2)
  |_=>none
noncomputable def iT(a:FE):FI:=fun ρ=>match a ρ with
 |none=>none
 |some (x,ρ1)=>match tk ρ1 x with
  |some (.tup ds,ρ2)=>some (ds,ρ2)
  |_=>none
noncomputable def iS(a:FE):FI:=fun ρ=>match a ρ with
 |none=>none
 |some (x,ρ1)=>match tk ρ1 x with
  |some (.lst ds,ρ2)=>some (ds,ρ2)
  |some (.tup ds,ρ2)=>some (ds,ρ2)
  |_=>none
noncomputable def ups(lo:Int)(n:Nat):List Dat:=(GO n).map fun i=>Dat.int (lo+(i:Nat))
noncomputable def BIG:Int:=1000000000
noncomputable def iR1(a:FE):FI:=fun ρ=>match a ρ with
 |some (.val (.int j),ρ1)=>if j<=BIG/\-BIG<=j then some (ups 0 j.toNat,ρ1) else none
 |_=>none
noncomputable def iR2(a b:FE):FI:=fun ρ=>match a ρ with
 | some (.val (.int i),ρ1)=>(match b ρ1 with
  |some (.val (.int j),ρ2)=>if j<=BIG/\-BIG<=j/\i<=BIG/\-BIG<=i then some (ups i (j-i).toNat,ρ2) else none
  |_=>none)
 |_=>none
noncomputable abbrev FB:=Dat->Env->Option Env
noncomputable def bN(i:Nat):FB:=fun d ρ=>if i=0 then none else some (ρ.set i (.sh d))
noncomputable def sets:List Nat->List Dat->Env->Option Env
 |[],[],ρ=>some ρ
 |i::is,d::ds,ρ=>if i=0 then none else sets is ds (ρ.set i (.sh d))
 |_,_,_=>none
noncomputable def bT(is:List Nat):FB:=fun d ρ=>match d with
 |.tup ds=>sets is ds ρ
 |_=>none
noncomputable def e8(bd:FB)(t:FT)(el:FE):List Dat->Env->List Dat->Option (List Dat×Env)
 |[],ρ,uK=>some (uK,ρ)
 |d::r,ρ,uK=>match bd d ρ with
  |none=>none
  |some ρ1=>match t ρ1 with
   |none=>none
   |some (false,ρ2)=>e8 bd t el r ρ2 uK
   |some (true,ρ2)=>match el ρ2 with
    |none=>none
    |some (x,ρ3)=>match tk ρ3 x with
     |none=>none
     |some (y,ρ4)=>e8 bd t el r ρ4 (uK++[y])
noncomputable def cW(it:FI)(own:Nat)(bd:FB)(t:FT)(el:FE):FE:=fun ρ=>match it ρ with
 |none=>none
 | some (ds,ρ1)=>if ds.length≤SZ then (match e8 bd t el ds (ρ1++eg own .un) [] with
  |none=>none
  |some (ys,ρ2)=>some (.new (.lst ys),ρ2.take ρ1.length)) else none
inductive Out where
 |nx (ρ:Env)
 |ret (r:RV) (ρ:Env)
 |bk (ρ:Env)
 |ct (ρ:Env)
noncomputable abbrev FS:=Env->Option Out
noncomputable def sNx:FS:=fun ρ=>some (.nx ρ)
noncomputable def aj(s u:FS):FS:=fun ρ=>match s ρ with
 |some (.nx ρ1)=>u ρ1
 |o=>o
noncomputable def sA(i:Nat)(e:FE):FS:=fun ρ=>if i=0 then none else match e ρ with
 |none=>none
 |some (.new d,ρ1)=>some (.nx (ρ1.set i (.ow d)))
 |some (x,ρ1)=>match tk ρ1 x with
  |none=>none
  |some (d,ρ2)=>some (.nx (ρ2.set i (.sh d)))
noncomputable def sU(is:List Nat)(e:FE):FS:=fun ρ=>match e ρ with
 |none=>none
 |some (x,ρ1)=>match tk ρ1 x with
  | some (.tup ds,ρ2)=>(match sets is ds ρ2 with
   |none=>none
   |some ρ3=>some (.nx ρ3))
  |_=>none
noncomputable def sR(e:FE):FS:=fun ρ=>match e ρ with
 |none=>none
 |some (.new d,ρ1)=>some (.ret (.new d) ρ1)
 |some (.val d,ρ1)=>some (.ret (.val d) ρ1)
 |some (.slot i,ρ1)=>match ρ1[i]? with
  |some (.ow d)=>some (.ret (.new d) (ρ1.set i .un))
  |some (.sh d)=>some (.ret (.val d) ρ1)
  |_=>none
noncomputable def sIf(t:FT)(a b:FS):FS:=fun ρ=>match t ρ with
 |none=>none
 |some (true,ρ1)=>a ρ1
 |some (false,ρ1)=>b ρ1
noncomputable def cB(i:Nat)(e:FE):FS:=fun ρ=>match ρ[i]? with
 | some (.ow (.lst _))=>(match e ρ with
  |none=>none
  |some (x,ρ1)=>match tk ρ1 x with
   |none=>none
   |some (d,ρ2)=>match ρ2[i]? with
    |some (.ow (.lst ds))=>if ds.length<SZ then some (.nx (ρ2.set i (.ow (.lst (ds++[d]))))) else none
    |_=>none)
 |_=>none
noncomputable def ixN(n:Nat)(i:Int):Option Nat:=
 if 0<=i then (if i<n then some i.toNat else none) else if -(n:Int)<=i then some (i+n).toNat else none
noncomputable def dY(bd:FB)(body:FS):List Dat->FS
 |[],ρ=>some (.nx ρ)
 |d::r,ρ=>match bd d ρ with
  |none=>none
  |some ρ1=>match body ρ1 with
   |some (.nx ρ2)=>dY bd body r ρ2
   |some (.ct ρ2)=>dY bd body r ρ2
   |some (.bk ρ2)=>some (.nx ρ2)
   |some (.ret v ρ2)=>some (.ret v ρ2)
   |none=>none
noncomputable def b9(it:FI)(bd:FB)(body:FS):FS:=fun ρ=>match it ρ with
 |none=>none
 |some (ds,ρ1)=>dY bd body ds ρ1
noncomputable def whD(t:FT)(body:FS):Nat->FS
 |0,_=>none
 |n+1,ρ=>match t ρ with
  |none=>none
  |some (false,ρ1)=>some (.nx ρ1)
  |some (true,ρ1)=>match body ρ1 with
   |some (.nx ρ2)=>whD t body n ρ2
   |some (.ct ρ2)=>whD t body n ρ2
   |some (.bk ρ2)=>some (.nx ρ2)
   |some (.ret v ρ2)=>some (.ret v ρ2)
   |none=>none
noncomputable def fn(n m:Nat)(body:FS)(ds:List Dat):Option RV:=if ds.length=n then (match body (ds.map Cell.sh++eg m .un) with
 |some (.ret r _)=>some r
 |some (.nx _)=>some (.val .non)
 |_=>none) else none
noncomputable def b2i(b:Bool):Int:=if b then 1 else 0
mutual
noncomputable def eqD:Dat->Dat->Bool
 |.non,.non=>true
 |.bl a,.bl b=>a == b
 |.bl a,.int j=>b2i a == j
 |.int i,.bl b=>i == b2i b
 |.int i,.int j=>i == j
 |.str a,.str b=>a == b
 |.tup xs,.tup ys=>lR xs ys
 |.lst xs,.lst ys=>lR xs ys
 |_,_=>false
noncomputable def lR:List Dat->List Dat->Bool
 |[],[]=>true
 |x::xs,y::ys=>eqD x y&&lR xs ys
 |_,_=>false
end
noncomputable def okD:Nat->Dat->Bool
 |_,.dct _ _=>false
 |_,.dcp _ _=>false
 |_,.exc _=>false
 |_,.cg _ _=>false
 |_,.fn _=>false
 |_,.str s=>s.all fun c=>decide (c<128)
 |0,.tup _=>false
 |0,.lst _=>false
 |n+1,.tup xs=>xs.all (okD n)
 |n+1,.lst xs=>xs.all (okD n)
 |_,_=>true
noncomputable abbrev vB(b:Bool):Option RV:=some (.val (.bl b))
noncomputable def oV(p:Dat->Bool):Dat->Option RV
 |.exc _=>none
 |.cg _ _=>none
 |.fn _=>none
 |d=>vB (p d)
noncomputable abbrev vI(i:Int):Option RV:=some (.val (.int i))
noncomputable def gEq(x y:Dat):Option RV:=if okD 8 x&&okD 8 y then vB (eqD x y) else none
noncomputable def gNe(x y:Dat):Option RV:=if okD 8 x&&okD 8 y then vB (!eqD x y) else none
noncomputable def gLt:Dat->Dat->Option RV
 |.int i,.int j=>vB (decide (i<j))
 |_,_=>none
noncomputable def gLe:Dat->Dat->Option RV
 |.int i,.int j=>vB (decide (i<=j))
 |_,_=>none
noncomputable def gGt:Dat->Dat->Option RV
 |.int i,.int j=>vB (decide (j<i))
 |_,_=>none
noncomputable def gGe:Dat->Dat->Option RV
 |.int i,.int j=>vB (decide (j<=i))
 |_,_=>none
noncomputable def B64:Int:=18446744073709551616
noncomputable def aL:Dat->Dat->Option RV
 |.int i,.int j=>vI (i+j)
 |.lst xs,.lst ys=>if xs.length+ys.length<=SZ then some (.new (.lst (xs++ys))) else none
 |_,_=>none
noncomputable def cj:Dat->Dat->Option RV
 |.int i,.int j=>vI (i-j)
 |_,_=>none
noncomputable def bu:Dat->Dat->Option RV
 |.int i,.int j=>if (-B64<i/\i<B64)\/(-B64<j/\j<B64) then vI (i*j) else none
 |.lst xs,.int k=>if k<=BIG/\-BIG<=k/\xs.length*k.toNat<=SZ then some (.new (.lst (eg k.toNat xs).flatten)) else none
 |_,_=>none
noncomputable def dZ:Int:=1606938044258990275541962092341162602522202993782792835301376
noncomputable def bC:Dat->Dat->Option RV
 |.int i,.int j=>if 0<j/\j<dZ then vI (i / j) else none
 |_,_=>none
noncomputable def aJ:Dat->Dat->Option RV
 |.int i,.int j=>if 0<j then vI (i % j) else none
 |_,_=>none
noncomputable def b4:Dat->Dat->Option RV
 |.int i,.int j=>if 0<=j/\j<=1000000/\i.natAbs<1000000 then vI (i ^ j.toNat) else none
 |_,_=>none
noncomputable def cU:Dat->Option RV
 |.int i=>vI (-i)
 |_=>none
noncomputable def atI(xs:List Dat)(i:Int):Option Dat:=(ixN xs.length i).bind fun j=>xs[j]?
noncomputable def gIx:Dat->Dat->Option RV
 |.lst xs,.int i=>(atI xs i).map .val
 |.tup xs,.int i=>(atI xs i).map .val
 |_,_=>none
noncomputable def inD(x:Dat)(xs:List Dat):Bool:=xs.any fun y=>eqD y x
noncomputable def gIn:Dat->Dat->Option RV
 |x,.lst xs=>if okD 8 x&&xs.all (okD 7) then vB (inD x xs) else none
 |x,.tup xs=>if okD 8 x&&xs.all (okD 7) then vB (inD x xs) else none
 |_,_=>none
noncomputable def sIx(n d:Nat):Option Int->Nat
 |none=>d
 |some v=>(if v<0 then max (v+n) 0 else min v n).toNat
noncomputable def cut(xs:List Dat)(lo hi:Option Int):List Dat:=(xs.drop (sIx xs.length 0 lo)).take (sIx xs.length xs.length hi-sIx xs.length 0 lo)
noncomputable def bP:List Dat->Option RV
 |[.lst xs]=>vI xs.length
 |[.tup xs]=>vI xs.length
 |_=>none
noncomputable def bg:List Dat->Option RV
 |[.int i,.int j]=>vI (if j<i then j else i)
 |_=>none
noncomputable def bA:List Dat->Option RV
 |[.int i,.int j]=>vI (if j>i then j else i)
 |_=>none
noncomputable def isI:Dat->Bool
 |.int _=>true
 |.bl _=>true
 |_=>false
noncomputable def isB:Dat->Bool
 |.bl _=>true
 |_=>false
noncomputable def isL:Dat->Bool
 |.lst _=>true
 |_=>false
noncomputable def isT:Dat->Bool
 |.tup _=>true
 |_=>false
noncomputable def bools:List Dat->Option (List Bool)
 |[]=>some []
 |.bl b::r=>(bools r).map fun bs=>b::bs
 |_=>none
noncomputable def m7:List Dat->Option RV
 | [.lst xs]=>(match bools xs with
  |some bs=>vB (bs.all id)
  |none=>none)
 |_=>none
noncomputable def aF(g h:Dat->Dat->Option RV)(a b c:FE):FE:=fun ρ=>match a ρ with
 |none=>none
 |some (x,ρ1)=>match b ρ1 with
  |none=>none
  |some (y,ρ2)=>match pk ρ2 x with
   |none=>none
   |some d=>match pk ρ2 y with
    |none=>none
    |some e=>match g d e with
     | some (.val (.bl true))=>(match c ρ2 with
      |none=>none
      |some (z,ρ3)=>match pk ρ3 y with
       |none=>none
       |some e'=>match pk ρ3 z with
        |none=>none
        |some f=>match h e' f with
         |none=>none
         |some v=>some (v.aH,ρ3))
     |some (.val (.bl false))=>some (.val (.bl false),ρ2)
     |_=>none
noncomputable def part:Option FE->Env->Option (Option Int×Env)
 |none,ρ=>some (none,ρ)
 |some f,ρ=>match f ρ with
  |some (.val (.int i),ρ1)=>some (some i,ρ1)
  |_=>none
noncomputable def eSl(a:FE)(lo hi:Option FE):FE:=fun ρ=>match a ρ with
 |none=>none
 |some (x,ρ1)=>match part lo ρ1 with
  |none=>none
  |some (l,ρ2)=>match part hi ρ2 with
   |none=>none
   |some (h,ρ3)=>match pk ρ3 x with
    |some (.lst xs)=>some (.new (.lst (cut xs l h)),ρ3)
    |_=>none
noncomputable def bB:List Dat->Option RV
 |[.int a,.int b,.int c]=>vI (if b<a then (if c<b then c else b) else (if c<a then c else a))
 |_=>none
noncomputable def bits(x:Int):Int:=if x=0 then 0 else ((x.natAbs.log2+1:Nat):Int)
noncomputable def aS:Dat->Option RV
 |.int i=>vI (bits i)
 |_=>none
end Dm
open Dm(Dat FE RV FT FS)
namespace Br
open PySem L2
noncomputable def kP(p:Int×Int):List Key:=[GZ p.1,GZ p.2]
def iu(H:Hp):List Addr->List (Int×Int)->Prop
 |[],[]=>True
 |t::ts,p::ks=>H t=some (.tup [V.int p.1,V.int p.2])/\iu H ts ks
 |_,_=>False
theorem iu.mono{H H':Hp}(s:aC H H'):∀{ts:List Addr} {ks:List (Int×Int)},iu H ts ks->iu H' ts ks
 |[],[],_=>trivial
 |_::_,_::_,h=>⟨s _ _ h.1,iu.mono s h.2⟩
 |[],_::_,h=>h
 |_::_,[],h=>h
def tE(H:Hp)(x:List (List Key×V)×List Addr)(ks:List (Int×Int)):Prop:=x.1.map (·.1)=ks.map kP/\iu H x.2 ks
theorem tE.mono{H H':Hp}(s:aC H H'){x:List (List Key×V)×List Addr}{ks:List (Int×Int)}(h:tE H x ks):tE H' x ks:=⟨h.1,h.2.mono s⟩
mutual
inductive Rep(H:Hp):V->Dat->Prop
 |non:Rep H V.non Dat.non
 |bl (b:Bool):Rep H (V.bl b) (Dat.bl b)
 |int (i:Int):Rep H (V.int i) (Dat.int i)
 |str (s:List Nat):Rep H (V.str ⟨s.toArray⟩) (Dat.str s)
 |tup {a:Addr} {xs:List V} {ds:List Dat}:H a=some (.tup xs)->aK H xs ds->Rep H (V.ref a) (Dat.tup ds)
 |lst {a:Addr} {xs:List V} {ds:List Dat}:Rd H a (.lst xs)->aK H xs ds->Rep H (V.ref a) (Dat.lst ds)
 |dct {a:Addr} {kvs:List (Key×V)} {ks:List Int} {ds:List Dat}:H a=some (.dK kvs)->kvs.map (·.1)=ks.map GZ->aK H (kvs.map (·.2)) ds->Rep H (V.ref a) (Dat.dct ks ds)
 |dcp {a:Addr} {x:List (List Key×V)×List Addr} {ks:List (Int×Int)} {ds:List Dat}:H a=some (.dT x.1 x.2)->tE H x ks->aK H (x.1.map (·.2)) ds->Rep H (V.ref a) (Dat.dcp ks ds)
 |exc {a:Addr} {C:Nat}:H a=some (.ext fun h=>∃o,h.get? a=some o/\o.cls=.ref C)->Rep H (V.ref a) (Dat.exc C)
 |cg {a d:Addr} {C:Nat} {v:Int}:H a=some (.ext fun h=>∃o,h.get? a=some o/\o.cls=.ref C/\o.dict=some d/\∀c,o.data≠.cls c)->H d=some (.xd [("moment",.int v)])->Rep H (V.ref a) (Dat.cg C v)
 |fn (a:Addr):Rep H (V.ref a) (Dat.fn a)
inductive aK(H:Hp):List V->List Dat->Prop
 |nil:aK H [] []
 |cons {v:V} {d:Dat} {vs:List V} {ds:List Dat}:Rep H v d->aK H vs ds->aK H (v::vs) (d::ds)
end
theorem aC.rd{H H':Hp}(s:aC H H'){a:Addr}{u:HO}(h:Rd H a u):Rd H' a u:=by
 rcases h with h | ⟨o,h⟩
 ·exact .inl (s _ _ h)
 ·exact .inr ⟨o,s _ _ h⟩
mutual
theorem Rep.mono{H H':Hp}(s:aC H H'):∀{v:V} {d:Dat},Rep H v d->Rep H' v d
 |_,_,.non=>.non
 |_,_,.bl b=>.bl b
 |_,_,.int i=>.int i
 |_,_,.str x=>.str x
 |_,_,.tup h r=>.tup (s _ _ h) (aK.mono s r)
 |_,_,.lst h r=>.lst (aC.rd s h) (aK.mono s r)
 |_,_,.dct h e r=>.dct (s _ _ h) e (aK.mono s r)
 |_,_,.dcp h e r=>.dcp (s _ _ h) (e.mono s) (aK.mono s r)
 |_,_,.exc h=>.exc (s _ _ h)
 |_,_,.cg h k=>.cg (s _ _ h) (s _ _ k)
 |_,_,.fn a=>.fn a
theorem aK.mono{H H':Hp}(s:aC H H'):∀{vs:List V} {ds:List Dat},aK H vs ds->aK H' vs ds
 |_,_,.nil=>.nil
 |_,_,.cons h r=>.cons (Rep.mono s h) (aK.mono s r)
end
section
variable{ρ:Dm.Env}{H0 H:Hp}{σ:St}{d:Dat}{a:Addr}{x:Dm.Val}{v:V}{X:Cx}{t t':TS}{p:Addr}{e:Expr}{o:HO}
theorem aK.length{H:Hp}:∀{vs:List V} {ds:List Dat},aK H vs ds->vs.length=ds.length
 |_,_,.nil=>rfl
 |_,_,.cons _ r=>by simp[aK.length r]
theorem aK.get{H:Hp}:∀{vs:List V} {ds:List Dat} {i:Nat} {d:Dat},aK H vs ds->ds[i]?=some d->∃v,vs[i]?=some v/\Rep H v d
 |_,_,_,_,.nil,e=>by simp at e
 |_,_,0,_,.cons h _,e=>by simp at e;subst e;exact⟨_,rfl,h⟩
 |_,_,i+1,_,.cons _ r,e=>by obtain⟨v,h1,h2⟩:=aK.get (i:=i) r (by simpa using e);exact⟨v,by simpa using h1,h2⟩
theorem aK.append{H:Hp}:∀{vs ws:List V} {ds es:List Dat},aK H vs ds->aK H ws es->aK H (vs++ws) (ds++es)
 |_,_,_,_,.nil,s=>s
 |_,_,_,_,.cons h r,s=>.cons h (aK.append r s)
theorem aK.take{H:Hp}:∀{vs:List V} {ds:List Dat} (n:Nat),aK H vs ds->aK H (vs.take n) (ds.take n)
 |_,_,0,_=>by simpa using aK.nil
 |_,_,_+1,.nil=>by simpa using aK.nil
 |_,_,n+1,.cons h r=>by simpa using aK.cons h (aK.take n r)
theorem aK.drop{H:Hp}:∀{vs:List V} {ds:List Dat} (n:Nat),aK H vs ds->aK H (vs.drop n) (ds.drop n)
 |_,_,0,r=>by simpa using r
 |_,_,_+1,.nil=>by simpa using aK.nil
 |_,_,n+1,.cons _ r=>by simpa using aK.drop n r
theorem aK.rep{H:Hp}{vs:List V}{ds:List Dat}(r:aK H vs ds):∀k:Nat,aK H (eg k vs).flatten (eg k ds).flatten
 |0=>by simpa using aK.nil
 |k+1=>by rw[Gq,Gq,GR,GR];exact aK.append r (aK.rep r k)
def Own(H0 H:Hp)(a:Addr):Dat->Prop
 |.lst ds=>∃xs,H a=some (.lst xs)/\aK H0 xs ds
 |.dct ks ds=>∃kvs:List (Key×V),H a=some (.dK kvs)/\kvs.map (·.1)=ks.map GZ/\aK H0 (kvs.map (·.2)) ds
 |.dcp ks ds=>∃x:List (List Key×V)×List Addr,H a=some (.dT x.1 x.2)/\tE H0 x ks/\aK H0 (x.1.map (·.2)) ds
 |_=>False
theorem Own.some(h:Own H0 H a d):∃o,H a=some o:=by
 cases d with
 |lst ds=>obtain⟨xs,e,_⟩:=h;exact⟨_,e⟩
 |dct ks ds=>obtain⟨xs,e,_⟩:=h;exact⟨_,e⟩
 |dcp ks ds=>obtain⟨xs,e,_⟩:=h;exact⟨_,e⟩
 |_=>exact FG h
theorem Own.mono{H0 H H0' H':Hp}(h:Own H0 H a d)(s:aC H0 H0')(e:H' a=H a):Own H0' H' a d:=by
 cases d with
 |lst ds=>obtain⟨xs,q,r⟩:=h;exact⟨xs,by rw[e];exact q,r.mono s⟩
 |dct ks ds=>obtain⟨xs,q,k,r⟩:=h;exact⟨xs,by rw[e];exact q,k,r.mono s⟩
 |dcp ks ds=>obtain⟨xs,q,k,r⟩:=h;exact⟨xs,by rw[e];exact q,k.mono s,r.mono s⟩
 |_=>exact FG h
def iX(H0 H:Hp)(v:V)(d:Dat):Prop:=Rep H0 v d\/∃a,v=V.ref a/\Own H0 H a d
inductive m8(H0 H:Hp):List V->List Dat->Prop
 |nil:m8 H0 H [] []
 |cons {v:V} {d:Dat} {vs:List V} {ds:List Dat}:iX H0 H v d->m8 H0 H vs ds->m8 H0 H (v::vs) (d::ds)
noncomputable def shr(H0 H:Hp)(a:Addr):Hp:=fun b=>if b=a then H a else H0 b
theorem cO:shr H0 H a a=H a:=by unfold shr;rw[if_pos rfl]
theorem fY{a b:Addr}(h:b≠a):shr H0 H a b=H0 b:=by unfold shr;rw[if_neg h]
theorem dP(h:H0 a=none):aC H0 (shr H0 H a):=fun b o e=>by
 by_cases q:b=a
 ·subst q;rw[h]at e;cases e
 ·rw[fY q];exact e
theorem qj(s:aC H0 H):aC (shr H0 H a) H:=fun b o e=>by
 by_cases q:b=a
 ·subst q;rw[cO]at e;exact e
 ·rw[fY q]at e;exact s _ _ e
theorem Own.rep(h:Own H0 H a d)(n:H0 a=none):Rep (shr H0 H a) (V.ref a) d:=by
 cases d with
 |lst ds=>obtain⟨xs,q,r⟩:=h;exact .lst (.inl (by rw[cO];exact q)) (r.mono (dP n))
 |dct ks ds=>obtain⟨xs,q,k,r⟩:=h;exact .dct (by rw[cO];exact q) k (r.mono (dP n))
 |dcp ks ds=>obtain⟨xs,q,k,r⟩:=h;exact .dcp (by rw[cO];exact q) (k.mono (dP n)) (r.mono (dP n))
 |_=>exact FG h
def au(σ:St)(ρ:Dm.Env)(a:Addr):Prop:=∃(i:Nat) (d:Dat),ρ[i]?=some (Dm.Cell.ow d)/\σ[i]?=some (some (V.ref a))
noncomputable abbrev Def(_:Dm.Env)(_:Nat):Prop:=True
structure az(H0 H:Hp)(σ:St)(ρ:Dm.Env):Prop where
 same:aC H0 H
 len:σ.length=ρ.length
 sh:∀(i:Nat) (d:Dat),ρ[i]?=some (Dm.Cell.sh d)->∃v,σ[i]?=some (some v)/\Rep H0 v d
 ow:∀(i:Nat) (d:Dat),ρ[i]?=some (Dm.Cell.ow d)->∃a,σ[i]?=some (some (V.ref a))/\H0 a=none/\Own H0 H a d
 dis:∀(i j:Nat) (d e:Dat) (a:Addr),ρ[i]?=some (Dm.Cell.ow d)->ρ[j]?=some (Dm.Cell.ow e)->σ[i]?=some (some (V.ref a))->σ[j]?=some (some (V.ref a))->i=j
structure Stp(O:Addr->Prop)(H0 H H0' H':Hp):Prop where
 s0:aC H0 H0'
 s1:∀a o,H a=some o->¬O a->H' a=some o
 s2:∀a o,H0' a=some o->H a=none\/H0 a=some o\/O a
 s3:∀a o,H a=some o->∃o',H' a=some o'
theorem Stp.refl(O:Addr->Prop)(H0 H:Hp):Stp O H0 H H0 H:=⟨aC.refl _,fun _ _ e _=>e,fun _ _ e=>.inr (.inl e),fun _ o e=>⟨o,e⟩⟩
theorem Stp.gone{O:Addr->Prop}{H0 H H0' H':Hp}(t:Stp O H0 H H0' H')(h:H' a=none):H a=none:=by
 cases q:H a with
 |none=>rfl
 |some o=>obtain⟨o',e⟩:=t.s3 a o q;rw[h]at e;cases e
theorem Stp.trans{O1 O2:Addr->Prop}{H0 H H1 H' H2 H'':Hp}(t:Stp O1 H0 H H1 H')(u:Stp O2 H1 H' H2 H'')(k:∀a,O2 a->O1 a\/H a=none):Stp O1 H0 H H2 H'' where
 s0:=t.s0.trans u.s0
 s1:=fun a o e n=>u.s1 a o (t.s1 a o e n) fun z=>(k a z).elim n fun q=>by rw[q]at e;cases e
 s2:=fun a o e=>by
  rcases u.s2 a o e with q | q | q
  ·exact .inl (t.gone q)
  ·exact t.s2 a o q
  ·rcases k a q with z | z
   ·exact .inr (.inr z)
   ·exact .inl z
 s3:=fun a o e=>by obtain⟨o',e'⟩:=t.s3 a o e;exact u.s3 a o' e'
theorem Stp.wide{O O':Addr->Prop}{H0 H H0' H':Hp}(t:Stp O H0 H H0' H')(k:∀a,O a->O' a):Stp O' H0 H H0' H':=
 ⟨t.s0,fun a o e n=>t.s1 a o e fun z=>n (k a z),fun a o e=>(t.s2 a o e).imp id (Or.imp id (k a)),t.s3⟩
structure aE(H0 H H0' H':Hp):Prop where
 s0:aC H0 H0'
 s1:aC H H'
 s2:∀a o,H0' a=some o->H a=none\/H0 a=some o
 s3:aC H0' H'
theorem aE.refl(s:aC H0 H):aE H0 H H0 H:=⟨aC.refl _,aC.refl _,fun _ _ e=>.inr e,s⟩
theorem aE.stp{H0 H H0' H':Hp}(g:aE H0 H H0' H')(O:Addr->Prop):Stp O H0 H H0' H':=
 ⟨g.s0,fun a o e _=>g.s1 a o e,fun a o e=>(g.s2 a o e).imp id .inl,fun a o e=>⟨o,g.s1 a o e⟩⟩
theorem aE.Ab(s:aC H0 H)(n:H p=none):aE H0 H (upd H0 p o) (upd H p o) where
 s0:=fun b u e=>by rw[ay (aM e (s.free n))];exact e
 s1:=fun b u e=>by rw[ay (aM e n)];exact e
 s2:=fun b u e=>by
  by_cases q:b=p
  ·subst q;exact .inl n
  ·rw[ay q]at e;exact .inr e
 s3:=fun b u e=>by
  by_cases q:b=p
  ·subst q;rw[aN]at e ⊢;exact e
  ·rw[ay q]at e ⊢;exact s _ _ e
theorem aE.oW(s:aC H0 H)(n:H p=none):aE H0 H H0 (upd H p o) where
 s0:=aC.refl _
 s1:=fun b u e=>by rw[ay (aM e n)];exact e
 s2:=fun b u e=>.inr e
 s3:=fun b u e=>by rw[ay (aM (s _ _ e) n)];exact s _ _ e
def fR(Hs H0 H:Hp)(σ:St)(ρ:Dm.Env)(v:V):Dm.Val->Prop
 |.val d=>Rep H0 v d
 |.slot i=>σ[i]?=some (some v)/\Def ρ i
 |.new d=>∃a,v=V.ref a/\Hs a=none/\¬au σ ρ a/\H0 a=none/\Own H0 H a d
structure ESt(σ:St)(ρ:Dm.Env)(H0 H:Hp)(ρ':Dm.Env)(H0' H':Hp):Prop where
 st:az H0' H' σ ρ'
 stp:Stp (au σ ρ) H0 H H0' H'
 own:∀a,au σ ρ' a->au σ ρ a
 dfn:∀i,Def ρ i->Def ρ' i
theorem ESt.refl(st:az H0 H σ ρ):ESt σ ρ H0 H ρ H0 H:=⟨st,Stp.refl _ _ _,fun _ z=>z,fun _ z=>z⟩
theorem ESt.trans{ρ ρ1 ρ2:Dm.Env}{H0 H H1 H' H2 H'':Hp}(t:ESt σ ρ H0 H ρ1 H1 H')(u:ESt σ ρ1 H1 H' ρ2 H2 H''):ESt σ ρ H0 H ρ2 H2 H'':=
 ⟨u.st,t.stp.trans u.stp fun a z=>.inl (t.own a z),fun a z=>t.own a (u.own a z),fun i z=>u.dfn i (t.dfn i z)⟩
theorem az.grow{H0 H H0' H':Hp}(st:az H0 H σ ρ)(g:aE H0 H H0' H'):az H0' H' σ ρ where
 same:=g.s3
 len:=st.len
 sh:=fun i d e=>by obtain⟨v,q,r⟩:=st.sh i d e;exact⟨v,q,r.mono g.s0⟩
 ow:=fun i d e=>by
  obtain⟨a,q,n,w⟩:=st.ow i d e;obtain⟨o,z⟩:=w.some;refine⟨a,q,?_,w.mono g.s0 ((g.s1 a o z).trans z.symm)⟩;cases y:H0' a with
  |none=>rfl
  |some u=>
   rcases g.s2 a u y with k | k
   ·rw[z]at k;cases k
   ·rw[n]at k;cases k
 dis:=st.dis
theorem ESt.grow{H0 H H0' H':Hp}(st:az H0 H σ ρ)(g:aE H0 H H0' H'):ESt σ ρ H0 H ρ H0' H':=
 ⟨st.grow g,g.stp _,fun _ z=>z,fun _ z=>z⟩
theorem fR.mono{Hs H0 H H0' H':Hp}{ρ ρ':Dm.Env}(r:fR Hs H0 H σ ρ v x)(t:ESt σ ρ H0 H ρ' H0' H'):fR Hs H0' H' σ ρ' v x:=by
 cases x with
 |val d=>exact Rep.mono t.stp.s0 r
 |slot i=>exact⟨r.1,t.dfn i r.2⟩
 |new d=>
  obtain⟨a,e,n,no,n0,w⟩:=r;obtain⟨o,z⟩:=w.some;refine⟨a,e,n,fun y=>no (t.own a y),?_,w.mono t.stp.s0 ((t.stp.s1 a o z no).trans z.symm)⟩;cases y:H0' a with
  |none=>rfl
  |some u=>
   rcases t.stp.s2 a u y with k | k | k
   ·rw[z]at k;cases k
   ·rw[n0]at k;cases k
   ·exact absurd k no
theorem fR.early{Hs Hs' H0 H:Hp}(r:fR Hs H0 H σ ρ v x)(k:∀a,Hs a=none->Hs' a=none):fR Hs' H0 H σ ρ v x:=by
 cases x with
 |val d=>exact r
 |slot i=>exact r
 |new d=>obtain⟨a,e,n,z⟩:=r;exact⟨a,e,k a n,z⟩
theorem fR.look{Hs H0 H:Hp}(r:fR Hs H0 H σ ρ v x)(st:az H0 H σ ρ)(e:Dm.pk ρ x=some d):iX H0 H v d:=by
 cases x with
 |val d'=>cases e;exact .inl r
 |new d'=>cases e;obtain⟨a,e,_,_,_,w⟩:=r;exact .inr ⟨a,e,w⟩
 |slot i=>
  obtain⟨q,_⟩:=r;unfold Dm.pk at e;dsimp only at e;split at e
  ·rename_i d' h;cases e;obtain⟨a,z,_,w⟩:=st.ow i d h;rw[q]at z;cases z;exact .inr ⟨a,rfl,w⟩
  ·rename_i d' h;cases e;obtain⟨u,z,w⟩:=st.sh i d h;rw[q]at z;cases z;exact .inl w
  ·cases e
def rG(Hs H0 H:Hp)(v:V):RV->Prop
 |.val d=>Rep H0 v d
 |.new d=>∃a,v=V.ref a/\Hs a=none/\H0 a=none/\Own H0 H a d
theorem rG.toV{H H0' H' H0:Hp}{z:RV}(r:rG H H0' H' v z)(st:az H0 H σ ρ):fR H H0' H' σ ρ v z.aH:=by
 cases z with
 |val d=>exact r
 |new d=>obtain⟨a,e,n,n0,w⟩:=r;refine⟨a,e,n,fun⟨i,d',h1,h2⟩=>?_,n0,w⟩;obtain⟨a',q,_,w'⟩:=st.ow i d' h1;rw[h2]at q;cases q;obtain⟨o,z⟩:=w'.some;rw[n]at z;cases z
def tD(f:FE):TE:=fun σ H Q=>∃H0 ρ x ρ',az H0 H σ ρ/\f ρ=some (x,ρ')/\∀v H0' H',ESt σ ρ H0 H ρ' H0' H'->fR H H0' H' σ ρ' v x->Q v H'
def tDT(f:FT):TT:=fun σ H Q=>∃H0 ρ b ρ',az H0 H σ ρ/\f ρ=some (b,ρ')/\∀H0' H',ESt σ ρ H0 H ρ' H0' H'->Q b H'
inductive dh(Hs H0 H:Hp)(σ:St)(ρ:Dm.Env):List V->List Dm.Val->Prop
 |nil:dh Hs H0 H σ ρ [] []
 |cons {v:V} {x:Dm.Val} {vs:List V} {xs:List Dm.Val}:fR Hs H0 H σ ρ v x->dh Hs H0 H σ ρ vs xs->dh Hs H0 H σ ρ (v::vs) (x::xs)
def tDA(fs:List FE):TA:=fun σ H Q=>∃H0 ρ xs ρ',az H0 H σ ρ/\Dm.eAs fs ρ=some (xs,ρ')/\∀vs H0' H',ESt σ ρ H0 H ρ' H0' H'->dh H H0' H' σ ρ' vs xs->Q vs H'
noncomputable abbrev DE(X:Cx)(e:Expr)(f:FE):Prop:=PE X e (tD f)
noncomputable abbrev DT(X:Cx)(e:Expr)(f:FT):Prop:=PT X e (tDT f)
noncomputable abbrev DA(X:Cx)(es:List Expr)(fs:List FE):Prop:=PA X es (tDA fs)
theorem PE.weak{t t':TE}(h:PE X e t)(k:∀σ H Q,t' σ H Q->t σ H Q):PE X e t':=fun ez s σ H Q I q=>h ez s σ H Q I (k σ H Q q)
theorem PT.weak{t t':TT}(h:PT X e t)(k:∀σ H Q,t' σ H Q->t σ H Q):PT X e t':=fun ez s σ H Q I q=>h ez s σ H Q I (k σ H Q q)
theorem PA.weak{es:List Expr}{t t':TA}(h:PA X es t)(k:∀σ H Q,t' σ H Q->t σ H Q):PA X es t':=fun pos ez s σ H Q I q=>h pos ez s σ H Q I (k σ H Q q)
theorem PS.weak{st:Stmt}(h:PS X st t)(k:∀D σ H,t' D σ H->t D σ H):PS X st t':=fun ez s σ H D I q=>h ez s σ H D I (k D σ H q)
theorem PSs.weak{st:List Stmt}(h:PSs X st t)(k:∀D σ H,t' D σ H->t D σ H):PSs X st t':=fun ez s σ H D I q=>h ez s σ H D I (k D σ H q)
theorem cy(s:aC H0 H):aC H0 (shr H0 H a):=fun b o e=>by
 by_cases q:b=a
 ·subst q;rw[cO];exact s _ _ e
 ·rw[fY q];exact e
theorem Own.Cc{H0 H0c H:Hp}(h:Own H0 H a d)(b:aC H0 H0c)(s:aC H0c H):Rep (shr H0c H a) (V.ref a) d:=by
 cases d with
 |lst ds=>obtain⟨xs,q,r⟩:=h;exact .lst (.inl (by rw[cO];exact q)) (r.mono (b.trans (cy s)))
 |dct ks ds=>obtain⟨xs,q,k,r⟩:=h;exact .dct (by rw[cO];exact q) k (r.mono (b.trans (cy s)))
 |dcp ks ds=>obtain⟨xs,q,k,r⟩:=h;exact .dcp (by rw[cO];exact q) (k.mono (b.trans (cy s))) (r.mono (b.trans (cy s)))
 |_=>exact FG h
theorem fR.rho{Hs H0 H:Hp}{ρ ρ':Dm.Env}(r:fR Hs H0 H σ ρ v x)(o:∀a,au σ ρ' a->au σ ρ a)(d:∀i,Def ρ i->Def ρ' i):fR Hs H0 H σ ρ' v x:=by
 cases x with
 |val d=>exact r
 |slot i=>exact⟨r.1,d i r.2⟩
 |new d=>obtain⟨a,e,n,no,z⟩:=r;exact⟨a,e,n,fun y=>no (o a y),z⟩
theorem dh.rho{Hs H0 H:Hp}{ρ ρ':Dm.Env}(o:∀a,au σ ρ' a->au σ ρ a)(d:∀i,Def ρ i->Def ρ' i):∀{vs:List V} {xs:List Dm.Val},dh Hs H0 H σ ρ vs xs->dh Hs H0 H σ ρ' vs xs
 |_,_,.nil=>.nil
 |_,_,.cons h r=>.cons (h.rho o d) (dh.rho o d r)
theorem dh.early{Hs Hs' H0 H:Hp}(k:∀a,Hs a=none->Hs' a=none):∀{vs:List V} {xs:List Dm.Val},dh Hs H0 H σ ρ vs xs->dh Hs' H0 H σ ρ vs xs
 |_,_,.nil=>.nil
 |_,_,.cons h r=>.cons (h.early k) (dh.early k r)
theorem aQ{i j:Nat}{c d:Dm.Cell}(h:(ρ.set i c)[j]?=some d):(j=i/\d=c)\/(j≠i/\ρ[j]?=some d):=by
 by_cases e:j=i
 ·subst e;by_cases l:j<ρ.length
  ·rw[F8 l]at h;exact .inl ⟨rfl,(Option.some.inj h).symm⟩
  ·rw[GG (by simpa using HB.mp l)]at h;cases h
 ·rw[gc (Gx e)]at h;exact .inr ⟨e,h⟩
theorem oX{i:Nat}(st:az H0 H σ ρ)(e:ρ[i]?=some (.ow d))(q:σ[i]?=some (some (V.ref a))) :
  az (shr H0 H a) H σ (ρ.set i (.sh d))/\(∀b,au σ (ρ.set i (.sh d)) b->au σ ρ b)/\∀j,Def ρ j->Def (ρ.set i (.sh d)) j:=by
 obtain⟨a',q',n,w⟩:=st.ow i d e;rw[q]at q';cases q';have hil:i<ρ.length:=(F5.mp e).1;refine⟨⟨qj st.same,by rw[Gu];exact st.len,fun j d' h=>?_,fun j d' h=>?_,fun j k d1 d2 b h1 h2 h3 h4=>?_⟩,fun b ⟨j,d',h1,h2⟩=>?_,fun j h=>?_⟩
 ·rcases aQ h with⟨rfl,z⟩ | ⟨_,h⟩
  ·cases z;exact⟨_,q,w.rep n⟩
  ·obtain⟨v,z,r⟩:=st.sh j d' h;exact⟨v,z,r.mono (dP n)⟩
 ·rcases aQ h with⟨_,z⟩ | ⟨hj,h⟩
  ·cases z
  ·obtain⟨b,z,n',w'⟩:=st.ow j d' h;have nb:b≠a:=fun y=>hj (st.dis j i d' d a h e (y▸z) q);exact⟨b,z,by rw[fY nb];exact n',w'.mono (dP n) rfl⟩
 ·rcases aQ h1 with⟨_,z⟩ | ⟨_,h1⟩
  ·cases z
  ·rcases aQ h2 with⟨_,z⟩ | ⟨_,h2⟩
   ·cases z
   ·exact st.dis j k d1 d2 b h1 h2 h3 h4
 ·rcases aQ h1 with⟨_,z⟩ | ⟨_,h1⟩
  ·cases z
  ·exact⟨j,d',h1,h2⟩
 ·trivial
theorem rH(st:az H0 H σ ρ)(no:¬au σ ρ a):az (shr H0 H a) H σ ρ where
 same:=qj st.same
 len:=st.len
 sh:=fun j d h=>by obtain⟨v,z,r⟩:=st.sh j d h;exact⟨v,z,r.mono (cy st.same)⟩
 ow:=fun j d h=>by obtain⟨b,z,n',w'⟩:=st.ow j d h;have nb:b≠a:=fun y=>no ⟨j,d,h,y▸z⟩;exact⟨b,z,by rw[fY nb];exact n',w'.mono (cy st.same) rfl⟩
 dis:=st.dis
theorem take1{Hs H0s H0 H0c H:Hp}{ρs ρ ρ':Dm.Env}(t:ESt σ ρs H0s Hs ρ H0c H)(b:aC H0 H0c)(r:fR Hs H0 H σ ρ v x)(e:Dm.tk ρ x=some (d,ρ')) :
  ∃oY,ESt σ ρs H0s Hs ρ' oY H/\aC H0c oY/\Rep oY v d/\(∀a,au σ ρ' a->au σ ρ a)/\∀i,Def ρ i->Def ρ' i:=by
 cases x with
 |val d'=>cases e;exact⟨H0c,t,aC.refl _,Rep.mono b r,fun _ z=>z,fun _ z=>z⟩
 |new d'=>
  cases e;obtain⟨a,e,n,no,n0,w⟩:=r;subst e;have ss:=cy (a:=a) t.st.same;refine⟨shr H0c H a,⟨rH t.st no,⟨t.stp.s0.trans ss,t.stp.s1,fun c o q=>?_,t.stp.s3⟩,t.own,t.dfn⟩,ss,w.Cc b t.st.same,fun _ z=>z,fun _ z=>z⟩;by_cases y:c=a
  ·subst y;exact .inl n
  ·rw[fY y]at q;exact t.stp.s2 c o q
 |slot i=>
  obtain⟨q,_⟩:=r;unfold Dm.tk at e;dsimp only at e;split at e
  ·rename_i d' h;cases e;obtain⟨a,z,n,w⟩:=t.st.ow i _ h;rw[q]at z;cases z;obtain⟨s1,s2,s3⟩:=oX t.st h q;have ss:=cy (a:=a) t.st.same;refine⟨shr H0c H a,⟨s1,⟨t.stp.s0.trans ss,t.stp.s1,fun c o q'=>?_,t.stp.s3⟩,fun b z=>t.own b (s2 b z),fun j z=>s3 j (t.dfn j z)⟩,ss,w.Cc (aC.refl _) t.st.same,s2,s3⟩;by_cases y:c=a
   ·subst y;exact .inr (.inr (t.own c ⟨i,_,h,q⟩))
   ·rw[fY y]at q';exact t.stp.s2 c o q'
  ·rename_i d' h;cases e;obtain⟨u,z,w⟩:=t.st.sh i _ h;rw[q]at z;cases z;exact⟨H0c,t,aC.refl _,w,fun _ z=>z,fun _ z=>z⟩
  ·cases e
theorem takes{Hs H0s H0 H:Hp}{ρs:Dm.Env}:∀{xs:List Dm.Val} {vs:List V} {ρ ρ':Dm.Env} {ds:List Dat} {H0c:Hp},ESt σ ρs H0s Hs ρ H0c H->aC H0 H0c->dh Hs H0 H σ ρ vs xs->Dm.tks ρ xs=some (ds,ρ') ->
  ∃oY,ESt σ ρs H0s Hs ρ' oY H/\aC H0c oY/\aK oY vs ds
 |[],_,ρ,ρ',ds,H0c,t,b,r,e=>by cases r;cases e;exact⟨H0c,t,aC.refl _,.nil⟩
 |x::xs,_,ρ,ρ',ds,H0c,t,b,r,e=>by
  cases r with
  |cons h r=>
   unfold Dm.tks at e;split at e
   ·cases e
   ·rename_i d ρ1 e1;split at e
    ·cases e
    ·rename_i ds' ρ2 e2;cases e;obtain⟨H1,t1,b1,r1,o1,d1⟩:=take1 t b h e1;obtain⟨H2,t2,b2,r2⟩:=takes t1 (b.trans b1) (r.rho o1 d1) e2;exact⟨H2,t2,b1.trans b2,.cons (r1.mono b2) r2⟩
theorem Cd{ρ ρ':Dm.Env}(e:Dm.tk ρ x=some (d,ρ'))(y:Dm.Val):Dm.pk ρ' y=Dm.pk ρ y:=by
 cases x with
 |val d'=>cases e;rfl
 |new d'=>cases e;rfl
 |slot i=>
  unfold Dm.tk at e;dsimp only at e;split at e
  ·rename_i d' h;cases e;cases y with
   |val _=>rfl
   |new _=>rfl
   |slot j=>
    unfold Dm.pk;dsimp only;by_cases z:j=i
    ·subst z;rw[F8 (F5.mp h).1,h]
    ·rw[gc (Gx z)]
  ·cases e;rfl
  ·cases e
theorem tF(e:Dm.pk ρ x=some d):∃ρ',Dm.tk ρ x=some (d,ρ'):=by
 cases x with
 |val d'=>cases e;exact⟨ρ,rfl⟩
 |new d'=>cases e;exact⟨ρ,rfl⟩
 |slot i=>
  unfold Dm.pk at e;dsimp only at e;unfold Dm.tk;dsimp only;split at e
  ·rename_i d' h;cases e;exact⟨_,rfl⟩
  ·rename_i d' h;cases e;exact⟨_,rfl⟩
  ·cases e
theorem fZ:∀{xs:List Dm.Val} {ρ:Dm.Env} {ds:List Dat},Dm.pks ρ xs=some ds->∃ρ',Dm.tks ρ xs=some (ds,ρ')
 |[],ρ,ds,e=>by cases e;exact⟨ρ,rfl⟩
 |x::xs,ρ,ds,e=>by
  unfold Dm.pks at e;split at e
  ·cases e
  ·rename_i d e1;split at e
   ·cases e
   ·rename_i ds' e2;cases e;obtain⟨ρ1,h1⟩:=tF e1;have key:∀ys:List Dm.Val,Dm.pks ρ1 ys=Dm.pks ρ ys:=fun ys=>by
     induction ys with
     |nil=>rfl
     |cons y ys ih=>unfold Dm.pks;rw[Cd h1 y,ih]
    obtain⟨ρ2,h2⟩:=fZ (xs:=xs) (ρ:=ρ1) (ds:=ds') (by rw[key];exact e2);exact⟨ρ2,by unfold Dm.tks;rw[h1];dsimp only;rw[h2]⟩
theorem looks{Hs H0 H:Hp}(st:az H0 H σ ρ):∀{xs:List Dm.Val} {vs:List V} {ds:List Dat},dh Hs H0 H σ ρ vs xs->Dm.pks ρ xs=some ds->m8 H0 H vs ds
 |[],_,ds,r,e=>by cases r;cases e;exact .nil
 |x::xs,_,ds,r,e=>by
  cases r with
  |cons h r=>
   unfold Dm.pks at e;split at e
   ·cases e
   ·rename_i d e1;split at e
    ·cases e
    ·rename_i ds' e2;cases e;exact .cons (h.look st e1) (looks st r e2)
def OpD(r:R2)(g:Dat->Dat->Option RV):Prop:=∀(H0 H:Hp) (x y:V) (dx dy:Dat) (z:RV) (Q:VK),aC H0 H->iX H0 H x dx->iX H0 H y dy->g dx dy=some z ->
 (∀v H0' H',aE H0 H H0' H'->rG H H0' H' v z->Q v H')->r x y H Q
def CallD(r:List V->Hp->VK->Prop)(g:List Dat->Option RV):Prop:=∀(H0 H:Hp) (vs:List V) (ds:List Dat) (z:RV) (Q:VK),aC H0 H->m8 H0 H vs ds->g ds=some z ->
 (∀v H0' H',aE H0 H H0' H'->rG H H0' H' v z->Q v H')->r vs H Q
def spD(f:List Dat->Option RV):Sp:=fun vs H Q _=>∃H0 ds z,aC H0 H/\aK H0 vs ds/\f ds=some z/\∀v H0' H',aE H0 H H0' H'->rG H H0' H' v z->Q v H'
end
section
variable{σ:St}{H:Hp}{Q:VK}
section
variable{fs:List FE}{d:Dat}{t u:FT}{v:V}{a:FE}{H0:Hp}
theorem Ce{i:Nat}(h:tD (Dm.eV i) σ H Q):zD i σ H Q:=by
 obtain⟨H0,ρ,x,ρ',st,e,k⟩:=h;unfold Dm.eV at e;split at e
 ·rename_i d h1;cases e;obtain⟨v,q,r⟩:=st.sh i d h1;exact⟨v,q,k v H0 H (.refl st) r⟩
 ·rename_i d h1;cases e;obtain⟨a,q,_⟩:=st.ow i d h1;exact⟨_,q,k _ H0 H (.refl st) ⟨q,trivial⟩⟩
 ·cases e
theorem fK(c:∀H0:Hp,Rep H0 v d)(h:tD (Dm.eC d) σ H Q):tC v σ H Q:=by obtain⟨H0,ρ,x,ρ',st,e,k⟩:=h;cases e;exact k v H0 H (.refl st) (c H0)
theorem tG{r:R2}{g:Dat->Dat->Option RV}{fa fb:FE}(o:OpD r g)(h:tD (Dm.e2 g fa fb) σ H Q):tOp r (tD fa) (tD fb) σ H Q:=by
 obtain⟨H0,ρ,x,ρ',st,e,k⟩:=h;unfold Dm.e2 at e;split at e
 ·cases e
 rename_i x1 ρ1 e1;split at e
 ·cases e
 rename_i y1 ρ2 e2;split at e
 ·cases e
 rename_i dx p1;split at e
 ·cases e
 rename_i dy p2;split at e
 ·cases e
 rename_i z gz;cases e;refine⟨H0,ρ,x1,ρ1,st,e1,fun v H1 Hb t1 r1=>⟨H1,ρ1,y1,_,t1.st,e2,fun u H2 Hc t2 r2=>?_⟩⟩;refine o H2 Hc v u dx dy z Q t2.st.same ((r1.mono t2).look t2.st p1) (r2.look t2.st p2) gz fun w H3 Hd g3 r3=>?_;exact k w H3 Hd (t1.trans (t2.trans (.grow t2.st g3))) ((r3.toV t2.st).early fun a n=>(t1.trans t2).stp.gone n)
theorem Cf{Q:List V->Hp->Prop}(h:tDA [] σ H Q):sX σ H Q:=by obtain⟨H0,ρ,xs,ρ',st,e,k⟩:=h;cases e;exact k [] H0 H (.refl st) .nil
theorem Ac{f:FE}{Q:List V->Hp->Prop}(h:tDA (f::fs) σ H Q):iJ (tD f) (tDA fs) σ H Q:=by
 obtain⟨H0,ρ,xs,ρ',st,e,k⟩:=h;unfold Dm.eAs at e;split at e
 ·cases e
 rename_i x1 ρ1 e1;split at e
 ·cases e
 rename_i xs1 ρ2 e2;cases e;refine⟨H0,ρ,x1,ρ1,st,e1,fun v H1 Hb t1 r1=>⟨H1,ρ1,xs1,_,t1.st,e2,fun vs H2 Hc t2 r2=>?_⟩⟩;exact k (v::vs) H2 Hc (t1.trans t2) (.cons (r1.mono t2) (r2.early fun a n=>t1.stp.gone n))
theorem Cg{r:List V->Hp->VK->Prop}{g:List Dat->Option RV}(o:CallD r g)(h:tD (Dm.eB g fs) σ H Q):tCB r (tDA fs) σ H Q:=by
 obtain⟨H0,ρ,x,ρ',st,e,k⟩:=h;unfold Dm.eB at e;split at e
 ·cases e
 rename_i xs ρ1 e1;split at e
 ·cases e
 rename_i ds p1;split at e
 ·cases e
 rename_i z gz;cases e;refine⟨H0,ρ,xs,_,st,e1,fun vs H1 Hb t1 r1=>?_⟩;refine o H1 Hb vs ds z Q t1.st.same (looks t1.st r1 p1) gz fun w H3 Hd g3 r3=>?_;exact k w H3 Hd (t1.trans (.grow t1.st g3)) ((r3.toV t1.st).early fun a n=>t1.stp.gone n)
theorem cC{n:Nat}(h:n<=Dm.SZ):n<=sizeLine:=FQ h (by decide)
theorem Ci(h:tD (Dm.bV fs) σ H Q):zY (tDA fs) σ H Q:=by
 obtain⟨H0,ρ,x,ρ',st,e,k⟩:=h;unfold Dm.bV at e;split at e
 ·cases e
 rename_i xs ρ1 e1;split at e
 ·cases e
 rename_i ds ρ2 e2;split at e
 ·rename_i hz;cases e;refine⟨H0,ρ,xs,ρ1,st,e1,fun vs H1 Hb t1 r1=>?_⟩;obtain⟨H2,t2,b2,r2⟩:=takes t1 (aC.refl _) r1 e2;refine⟨by rw[r2.length];exact cC hz,fun p hp=>?_⟩;have g:=aE.Ab (o:=HO.tup vs) t2.st.same hp;exact k _ _ _ (t2.trans (.grow t2.st g)) (.tup aN (r2.mono g.s0))
 ·cases e
theorem Cj(h:tD (Dm.bf fs) σ H Q):B0 (tDA fs) σ H Q:=by
 obtain⟨H0,ρ,x,ρ',st,e,k⟩:=h;unfold Dm.bf at e;split at e
 ·cases e
 rename_i xs ρ1 e1;split at e
 ·cases e
 rename_i ds ρ2 e2;split at e
 ·rename_i hz;cases e;refine⟨H0,ρ,xs,ρ1,st,e1,fun vs H1 Hb t1 r1=>?_⟩;obtain⟨H2,t2,b2,r2⟩:=takes t1 (aC.refl _) r1 e2;refine⟨by rw[r2.length];exact cC hz,fun p hp=>?_⟩;have g:=aE.oW (o:=HO.lst vs) t2.st.same hp;refine k _ _ _ (t2.trans (.grow t2.st g)) ⟨p,rfl,t2.stp.gone hp,fun⟨i,d,h1,h2⟩=>?_,t2.st.same.free hp,vs,aN,r2⟩;obtain⟨a,q,_,w⟩:=t2.st.ow i d h1;rw[h2]at q;cases q;obtain⟨o,z⟩:=w.some;rw[hp]at z;cases z
 ·cases e
theorem Rep.plain{H0 H1:Hp}(r:Rep H0 v d)(n:Dm.aP d=false):Rep H1 v d:=by
 cases r with
 |non=>exact .non
 |bl b=>exact .bl b
 |int i=>exact .int i
 |str s=>exact .str s
 |tup _ _=>cases n
 |lst _ _=>cases n
 |dct _ _ _=>cases n
 |dcp _ _ _=>cases n
 |exc _=>cases n
 |cg _ _=>cases n
 |fn a=>exact .fn a
theorem Own.box{H0 H:Hp}{a:Addr}(w:Own H0 H a d):Dm.aP d=true:=by
 cases d with
 |lst ds=>rfl
 |dct ks ds=>rfl
 |dcp ks ds=>rfl
 |_=>exact FG w
theorem Ad{f:List Dat->Option RV}{E:XK}(h:tD (Dm.eF f fs) σ H Q):yM (spD f) [] E (tDA fs) σ H Q:=by
 obtain⟨H0,ρ,x,ρ',st,e,k⟩:=h;unfold Dm.eF at e;split at e
 ·cases e
 rename_i xs ρ1 e1;split at e
 ·cases e
 rename_i ds p1;split at e
 ·cases e
 rename_i z fz;refine⟨H0,ρ,xs,ρ1,st,e1,fun vs H1 Hb t1 r1=>?_⟩;dsimp only;rw[Gs];obtain⟨ρ2,e2⟩:=fZ p1;obtain⟨H2,t2,b2,r2⟩:=takes t1 (aC.refl _) r1 e2;split at e
 ·rw[e2]at e;cases e;exact⟨H2,ds,z,t2.st.same,r2,fz,fun w H3 Hd g3 r3=>k w H3 Hd (t2.trans (.grow t2.st g3)) ((r3.toV t2.st).early fun a n=>t2.stp.gone n)⟩
 ·rename_i nb;cases e;refine⟨H2,ds,z,t2.st.same,r2,fz,fun w H3 Hd g3 r3=>?_⟩;have g:aE H1 Hb H1 Hd:=⟨aC.refl _,g3.s1,fun a o q=>.inr q,t1.st.same.trans g3.s1⟩
  refine k w H1 Hd (t1.trans (.grow t1.st g)) ?_;cases z with
  |val d=>exact Rep.plain r3 (by simpa [RV.dat] using nb)
  |new d=>obtain⟨a,_,_,_,w⟩:=r3;exact absurd w.box (by simpa [RV.dat] using nb)
theorem Rep.m9{c:Bool}(r:Rep H0 v (.bl c)):v=.bl c:=by cases r;rfl
theorem Rep.isInt{c:Int}(r:Rep H0 v (.int c)):v=.int c:=by cases r;rfl
theorem Ck{a b:FE}(h:tD (Dm.bO a b) σ H Q):yD (tD a) (tD b) σ H Q:=by
 obtain⟨H0,ρ,x,ρ',st,e,k⟩:=h;unfold Dm.bO at e;split at e
 ·rename_i ρ1 e1;refine⟨H0,ρ,_,_,st,e1,fun v H1 Hb t1 r1=>⟨true,Rep.m9 r1,?_⟩⟩
  try dsimp only
  rw[if_pos rfl];exact⟨H1,ρ1,x,ρ',t1.st,e,fun v H2 Hc t2 r2=>k v H2 Hc (t1.trans t2) (r2.early fun a n=>t1.stp.gone n)⟩
 ·rename_i ρ1 e1;cases e;refine⟨H0,ρ,_,_,st,e1,fun v H1 Hb t1 r1=>⟨false,Rep.m9 r1,?_⟩⟩
  try dsimp only
  rw[if_neg Ge];exact k _ H1 Hb t1 (Rep.bl false)
 ·cases e
theorem Cm(h:tD (Dm.cI a) σ H Q):yE (tD a) σ H Q:=by
 obtain⟨H0,ρ,x,ρ',st,e,k⟩:=h;unfold Dm.cI at e;split at e
 ·rename_i c ρ1 e1;cases e;exact⟨H0,ρ,_,_,st,e1,fun v H1 Hb t1 r1=>⟨c,Rep.m9 r1,k _ H1 Hb t1 (Rep.bl (!c))⟩⟩
 ·cases e
variable{Qt:Bool->Hp->Prop}
theorem oZ(h:tDT (Dm.tV a) σ H Qt):sS (tD a) σ H Qt:=by
 obtain⟨H0,ρ,x,ρ',st,e,k⟩:=h;unfold Dm.tV at e;split at e
 ·rename_i c ρ1 e1;cases e;exact⟨H0,ρ,_,_,st,e1,fun v H1 Hb t1 r1=>⟨_,Rep.m9 r1,k H1 Hb t1⟩⟩
 ·cases e
theorem Ae{t:FT}(h:tDT (Dm.aV t) σ H Qt):aV (tDT t) σ H Qt:=by
 obtain⟨H0,ρ,x,ρ',st,e,k⟩:=h;unfold Dm.aV at e;split at e
 ·rename_i c ρ1 e1;cases e;exact⟨H0,ρ,_,_,st,e1,fun H1 Hb t1=>k H1 Hb t1⟩
 ·cases e
theorem Af(h:tDT (Dm.b8 t u) σ H Qt):b8 (tDT t) (tDT u) σ H Qt:=by
 obtain⟨H0,ρ,x,ρ',st,e,k⟩:=h;unfold Dm.b8 at e;split at e
 ·rename_i ρ1 e1;refine⟨H0,ρ,_,ρ1,st,e1,fun H1 Hb t1=>?_⟩;dsimp only;rw[if_pos rfl];exact⟨H1,ρ1,x,ρ',t1.st,e,fun H2 Hc t2=>k H2 Hc (t1.trans t2)⟩
 ·rename_i ρ1 e1;cases e;refine⟨H0,ρ,_,_,st,e1,fun H1 Hb t1=>?_⟩;dsimp only;rw[if_neg Ge];exact k H1 Hb t1
 ·cases e
theorem Cn(h:tDT (Dm.tOr t u) σ H Qt):tOr (tDT t) (tDT u) σ H Qt:=by
 obtain⟨H0,ρ,x,ρ',st,e,k⟩:=h;unfold Dm.tOr at e;split at e
 ·rename_i ρ1 e1;cases e;refine⟨H0,ρ,_,_,st,e1,fun H1 Hb t1=>?_⟩;dsimp only;rw[if_pos rfl];exact k H1 Hb t1
 ·rename_i ρ1 e1;refine⟨H0,ρ,_,ρ1,st,e1,fun H1 Hb t1=>?_⟩;dsimp only;rw[if_neg Ge];exact⟨H1,ρ1,x,ρ',t1.st,e,fun H2 Hc t2=>k H2 Hc (t1.trans t2)⟩
 ·cases e
end
end
section
variable{ρ:Dm.Env}{H0 H:Hp}{σ:L2.St}
structure SSt(σ:St)(ρ:Dm.Env)(H0 H:Hp)(σ':St)(ρ':Dm.Env)(H0' H':Hp):Prop where
 st:az H0' H' σ' ρ'
 stp:Stp (au σ ρ) H0 H H0' H'
 own:∀a,au σ' ρ' a->au σ ρ a\/H a=none
 fx:σ'[0]?=σ[0]?
theorem ESt.sst{σ:St}{ρ ρ':Dm.Env}{H0 H H0' H':Hp}(t:ESt σ ρ H0 H ρ' H0' H'):SSt σ ρ H0 H σ ρ' H0' H':=⟨t.st,t.stp,fun a z=>.inl (t.own a z),rfl⟩
theorem SSt.refl{σ:St}(st:az H0 H σ ρ):SSt σ ρ H0 H σ ρ H0 H:=(ESt.refl st).sst
theorem SSt.trans{σ σ1 σ2:St}{ρ ρ1 ρ2:Dm.Env}{H0 H H1 H' H2 H'':Hp}(t:SSt σ ρ H0 H σ1 ρ1 H1 H')(u:SSt σ1 ρ1 H1 H' σ2 ρ2 H2 H''):SSt σ ρ H0 H σ2 ρ2 H2 H'':=
 ⟨u.st,t.stp.trans u.stp t.own,fun a z=>(u.own a z).elim (t.own a) fun n=>.inr (t.stp.gone n),u.fx.trans t.fx⟩
def tH(σ:St)(ρ:Dm.Env)(H H0' H':Hp)(v:V):RV->Prop
 |.val d=>Rep H0' v d
 |.new d=>∃a,v=V.ref a/\(H a=none\/au σ ρ a)/\H0' a=none/\Own H0' H' a d
def jr(D:Ends)(σ:St)(ρ:Dm.Env)(H0 H:Hp):Dm.Out->Prop
 |.nx ρ'=>∀σ' H0' H',SSt σ ρ H0 H σ' ρ' H0' H'->D.nx σ' H'
 |.bk ρ'=>∀σ' H0' H',SSt σ ρ H0 H σ' ρ' H0' H'->D.bk σ' H'
 |.ct ρ'=>∀σ' H0' H',SSt σ ρ H0 H σ' ρ' H0' H'->D.ct σ' H'
 |.ret z ρ'=>∀σ' v H0' H',SSt σ ρ H0 H σ' ρ' H0' H'->tH σ ρ H H0' H' v z->(∀d a,z=.new d->v=.ref a->¬au σ' ρ' a)->D.rt v H'
def tDS(g:FS):TS:=fun D σ H=>∃H0 ρ o,az H0 H σ ρ/\g ρ=some o/\jr D σ ρ H0 H o
theorem jr.pre{D:Ends}{σ σ1:St}{ρ ρ1:Dm.Env}{H0 H H1 H':Hp}{o:Dm.Out}(t:SSt σ ρ H0 H σ1 ρ1 H1 H')(k:jr D σ ρ H0 H o):jr D σ1 ρ1 H1 H' o:=by
 cases o with
 |nx ρ'=>exact fun σ' H0' H' u=>k σ' H0' H' (t.trans u)
 |bk ρ'=>exact fun σ' H0' H' u=>k σ' H0' H' (t.trans u)
 |ct ρ'=>exact fun σ' H0' H' u=>k σ' H0' H' (t.trans u)
 |ret z ρ'=>
  refine fun σ' v H0' H'' u r no=>k σ' v H0' H'' (t.trans u) ?_ no;cases z with
  |val d=>exact r
  |new d=>
   obtain⟨a,e,n,n0,w⟩:=r;refine⟨a,e,?_,n0,w⟩;rcases n with n | n
   ·exact .inl (t.stp.gone n)
   ·exact(t.own a n).symm
theorem az.mask(st:az H0 H σ ρ)(i:Nat):az H0 H σ (ρ.set i .un) where
 same:=st.same
 len:=by rw[Gu];exact st.len
 sh:=fun j d h=>by
  by_cases q:i=j
  ·subst q;rw[GS]at h;simp only[if_true]at h;split at h<;>cases h
  ·rw[gc q]at h;exact st.sh j d h
 ow:=fun j d h=>by
  by_cases q:i=j
  ·subst q;rw[GS]at h;simp only[if_true]at h;split at h<;>cases h
  ·rw[gc q]at h;exact st.ow j d h
 dis:=fun j j' d d' a h1 h2 h3 h4=>by
  by_cases q:i=j
  ·subst q;rw[GS]at h1;simp only[if_true]at h1;split at h1<;>cases h1
  ·by_cases q':i=j'
   ·subst q';rw[GS]at h2;simp only[if_true]at h2;split at h2<;>cases h2
   ·rw[gc q]at h1;rw[gc q']at h2;exact st.dis j j' d d' a h1 h2 h3 h4
theorem d_{i:Nat}{a:Addr}(h:au σ (ρ.set i .un) a):∃(j:Nat) (d:Dat),j≠i/\ρ[j]?=some (Dm.Cell.ow d)/\σ[j]?=some (some (V.ref a)):=by
 obtain⟨j,d,h1,h2⟩:=h;by_cases q:i=j
 ·subst q;rw[GS]at h1;simp only[if_true]at h1;split at h1<;>cases h1
 ·rw[gc q]at h1;exact⟨j,d,fun z=>q z.symm,h1,h2⟩
end
section
variable{D:Ends}{σ:St}{H:Hp}
theorem Et(h:tDS Dm.sNx D σ H):yF D σ H:=by obtain⟨H0,ρ,o,st,e,k⟩:=h;cases e;exact k σ H0 H (.refl st)
theorem Co{s u:FS}(h:tDS (Dm.aj s u) D σ H):BO (tDS s) (tDS u) D σ H:=by
 obtain⟨H0,ρ,o,st,e,k⟩:=h;unfold Dm.aj at e;split at e
 ·rename_i ρ1 e1;exact⟨H0,ρ,.nx ρ1,st,e1,fun σ' H0' H' t=>⟨H0',ρ1,o,t.st,e,k.pre t⟩⟩
 ·rename_i h1;cases o with
  |nx ρ1=>exact absurd e (h1 ρ1)
  |bk ρ1=>exact⟨H0,ρ,_,st,e,k⟩
  |ct ρ1=>exact⟨H0,ρ,_,st,e,k⟩
  |ret z ρ1=>exact⟨H0,ρ,_,st,e,k⟩
theorem Cp{f:FE}(h:tDS (Dm.sR f) D σ H):BP (tD f) D σ H:=by
 obtain⟨H0,ρ,o,st,e,k⟩:=h;unfold Dm.sR at e;split at e
 ·cases e
 ·rename_i d ρ1 e1;cases e;refine⟨H0,ρ,_,ρ1,st,e1,fun v H0' H' t r=>?_⟩;obtain⟨a,e,n,no,n0,w⟩:=r;exact k σ v H0' H' t.sst ⟨a,e,.inl n,n0,w⟩ fun d' a' _ e' z=>by rw[e]at e';cases e';exact no z
 ·rename_i d ρ1 e1;cases e;exact⟨H0,ρ,_,ρ1,st,e1,fun v H0' H' t r=>k σ v H0' H' t.sst r fun d' a' z=>by cases z⟩
 ·rename_i i ρ1 e1;split at e
  ·rename_i d h1;cases e;refine⟨H0,ρ,_,ρ1,st,e1,fun v H0' H' t r=>?_⟩;obtain⟨q,_⟩:=r;obtain⟨a,q',n0,w⟩:=t.st.ow i d h1;rw[q]at q';cases q';refine k σ _ H0' H' ⟨t.st.mask i,t.stp,fun b z=>?_,rfl⟩ ⟨a,rfl,.inr (t.own a ⟨i,d,h1,q⟩),n0,w⟩ fun d' a' _ e' z=>?_
   ·obtain⟨j,d2,_,z1,z2⟩:=d_ z;exact .inl (t.own b ⟨j,d2,z1,z2⟩)
   ·cases e';obtain⟨j,d2,hj,z1,z2⟩:=d_ z;exact hj (t.st.dis j i d2 d a z1 h1 z2 q)
  ·rename_i d h1;cases e;refine⟨H0,ρ,_,ρ1,st,e1,fun v H0' H' t r=>?_⟩;obtain⟨q,_⟩:=r;obtain⟨u,q',w⟩:=t.st.sh i d h1;rw[q]at q';cases q';exact k σ _ H0' H' t.sst w fun d' a' z=>by cases z
  ·cases e
theorem Cq{t:FT}{a b:FS}(h:tDS (Dm.sIf t a b) D σ H):BQ (tDT t) (tDS a) (tDS b) D σ H:=by
 obtain⟨H0,ρ,o,st,e,k⟩:=h;unfold Dm.sIf at e;split at e
 ·cases e
 ·rename_i ρ1 e1;refine⟨H0,ρ,true,ρ1,st,e1,fun H1 Hb t1=>?_⟩;dsimp only;rw[if_pos rfl];exact⟨H1,ρ1,o,t1.st,e,k.pre t1.sst⟩
 ·rename_i ρ1 e1;refine⟨H0,ρ,false,ρ1,st,e1,fun H1 Hb t1=>?_⟩;dsimp only;rw[if_neg Ge];exact⟨H1,ρ1,o,t1.st,e,k.pre t1.sst⟩
end
section
variable{ρ:Dm.Env}{σ:St}{i:Nat}{H0 H:Hp}{d:Dat}{a:Addr}{b:Addr}{o:HO}{v:V}
theorem e9{i j:Nat}{c d:Option V}(h:(σ.set i c)[j]?=some d):(j=i/\d=c)\/(j≠i/\σ[j]?=some d):=by
 by_cases e:j=i
 ·subst e;by_cases l:j<σ.length
  ·rw[F8 l]at h;exact .inl ⟨rfl,(Option.some.inj h).symm⟩
  ·rw[GG (by simpa using HB.mp l)]at h;cases h
 ·rw[gc (Gx e)]at h;exact .inr ⟨e,h⟩
theorem az.inσ{c d:Dm.Cell}(st:az H0 H σ ρ)(h:(ρ.set i c)[i]?=some d):i<σ.length:=by have:=(F5.mp h).1;rw[Gu]at this;rw[st.len];exact this
theorem cV(h:au (σ.set i (some v)) (ρ.set i (.sh d)) b):au σ ρ b:=by
 obtain⟨j,d',h1,h2⟩:=h;rcases aQ h1 with⟨_,z⟩ | ⟨hj,h1⟩
 ·cases z
 ·rcases e9 h2 with⟨z,_⟩ | ⟨_,h2⟩
  ·exact absurd z hj
  ·exact⟨j,d',h1,h2⟩
theorem az.lS(st:az H0 H σ ρ)(r:Rep H0 v d):az H0 H (σ.set i (some v)) (ρ.set i (.sh d)) where
 same:=st.same
 len:=by rw[Gu,Gu];exact st.len
 sh:=fun j d' h=>by
  rcases aQ h with⟨rfl,z⟩ | ⟨hj,h'⟩
  ·cases z;exact⟨v,F8 (st.inσ h),r⟩
  ·obtain⟨u,q,w⟩:=st.sh j d' h';exact⟨u,by rw[gc (Gx hj)];exact q,w⟩
 ow:=fun j d' h=>by
  rcases aQ h with⟨_,z⟩ | ⟨hj,h'⟩
  ·cases z
  ·obtain⟨u,q,w⟩:=st.ow j d' h';exact⟨u,by rw[gc (Gx hj)];exact q,w⟩
 dis:=fun j k d1 d2 b h1 h2 h3 h4=>by
  rcases aQ h1 with⟨_,z⟩ | ⟨hj,h1⟩
  ·cases z
  rcases aQ h2 with⟨_,z⟩ | ⟨hk,h2⟩
  ·cases z
  rw[gc (Gx hj)]at h3;rw[gc (Gx hk)]at h4;exact st.dis j k d1 d2 b h1 h2 h3 h4
theorem az.Ag(st:az H0 H σ ρ)(no:¬au σ ρ a)(n0:H0 a=none)(w:Own H0 H a d):az H0 H (σ.set i (some (.ref a))) (ρ.set i (.ow d)) where
 same:=st.same
 len:=by rw[Gu,Gu];exact st.len
 sh:=fun j d' h=>by
  rcases aQ h with⟨_,z⟩ | ⟨hj,h'⟩
  ·cases z
  ·obtain⟨u,q,w⟩:=st.sh j d' h';exact⟨u,by rw[gc (Gx hj)];exact q,w⟩
 ow:=fun j d' h=>by
  rcases aQ h with⟨rfl,z⟩ | ⟨hj,h'⟩
  ·cases z;exact⟨a,F8 (st.inσ h),n0,w⟩
  ·obtain⟨u,q,w⟩:=st.ow j d' h';exact⟨u,by rw[gc (Gx hj)];exact q,w⟩
 dis:=fun j k d1 d2 b h1 h2 h3 h4=>by
  rcases aQ h1 with⟨e1,z1⟩ | ⟨hj,h1'⟩
  ·rcases aQ h2 with⟨e2,z2⟩ | ⟨hk,h2'⟩
   ·rw[e1,e2]
   ·rcases e9 h3 with⟨_,z⟩ | ⟨z,_⟩
    ·cases z;rw[gc (Gx hk)]at h4;exact absurd ⟨k,d2,h2',h4⟩ no
    ·exact absurd e1 z
  ·rcases aQ h2 with⟨e2,z2⟩ | ⟨hk,h2'⟩
   ·rcases e9 h4 with⟨_,z⟩ | ⟨z,_⟩
    ·cases z;rw[gc (Gx hj)]at h3;exact absurd ⟨j,d1,h1',h3⟩ no
    ·exact absurd e2 z
   ·rw[gc (Gx hj)]at h3;rw[gc (Gx hk)]at h4;exact st.dis j k d1 d2 b h1' h2' h3 h4
theorem lT{a b:Addr}(h:au (σ.set i (some (.ref a))) (ρ.set i (.ow d)) b):b=a\/au σ ρ b:=by
 obtain⟨j,d',h1,h2⟩:=h;rcases aQ h1 with⟨e,_⟩ | ⟨hj,h1⟩
 ·rcases e9 h2 with⟨_,z⟩ | ⟨z,_⟩
  ·cases z;exact .inl rfl
  ·exact absurd e z
 ·rcases e9 h2 with⟨z,_⟩ | ⟨_,h2⟩
  ·exact absurd z hj
  ·exact .inr ⟨j,d',h1,h2⟩
theorem az.write{d d':Dat}(st:az H0 H σ ρ)(e:ρ[i]?=some (.ow d))(q:σ[i]?=some (some (V.ref a)))(w':Own H0 (upd H a o) a d') :
  az H0 (upd H a o) σ (ρ.set i (.ow d')):=by
 obtain⟨a',q',n,w⟩:=st.ow i d e;rw[q]at q';cases q';refine⟨fun b u z=>?_,by rw[Gu];exact st.len,fun j d1 h=>?_,fun j d1 h=>?_,fun j k d1 d2 b h1 h2 h3 h4=>?_⟩
 ·rw[ay (aM z n)];exact st.same _ _ z
 ·rcases aQ h with⟨_,z⟩ | ⟨hj,h'⟩
  ·cases z
  ·exact st.sh j d1 h'
 ·rcases aQ h with⟨rfl,z⟩ | ⟨hj,h'⟩
  ·cases z;exact⟨a,q,n,w'⟩
  ·obtain⟨b,q1,n1,w1⟩:=st.ow j d1 h';have nb:b≠a:=fun y=>hj (st.dis j i d1 d a h' e (y▸q1) q);exact⟨b,q1,n1,w1.mono (aC.refl _) (ay nb)⟩
 ·have f:∀{j:Nat} {d1:Dat},(ρ.set i (.ow d'))[j]?=some (.ow d1)->∃d2,ρ[j]?=some (.ow d2):=fun {j d1} h=>by
   rcases aQ h with⟨rfl,_⟩ | ⟨_,h'⟩
   ·exact⟨d,e⟩
   ·exact⟨d1,h'⟩
  obtain⟨x1,y1⟩:=f h1;obtain⟨x2,y2⟩:=f h2;exact st.dis j k x1 x2 b y1 y2 h3 h4
theorem ng{d d':Dat}(e:ρ[i]?=some (.ow d))(h:au σ (ρ.set i (.ow d')) b):au σ ρ b:=by
 obtain⟨j,d1,h1,h2⟩:=h;rcases aQ h1 with⟨rfl,_⟩ | ⟨_,h'⟩
 ·exact⟨j,d,e,h2⟩
 ·exact⟨j,d1,h',h2⟩
theorem Stp.write(w:au σ ρ a):Stp (au σ ρ) H0 H H0 (upd H a o):=
 ⟨aC.refl _,fun b u e n=>by rw [ay (show b≠a from fun z=>n (by rw [z];exact w))];exact e,fun b u e=>.inr (.inl e),fun b u e=>by
  by_cases z:b=a
  ·subst z;exact⟨o,aN⟩
  ·exact⟨u,by rw[ay z];exact e⟩⟩
end
section
variable{D:Ends}{σ:St}{H:Hp}
section
variable{f:FE}{is:List Nat}{ρ:Dm.Env}{body:FS}{a:Addr}{ds:List Dat}{d:Dat}{bd:Dm.FB}{i:Nat}{xs:List V}{vs:List V}{n:Nat}{H0:Hp}{k:Nat}{fi:Dm.FI}{t:FT}{g:TG}{o:HO}{Q:VK}{E:XK}
theorem yQ(h:tDS (Dm.sA i f) D σ H):sI (tD f) (jm i) D σ H:=by
 obtain⟨H0,ρ,o,st,e,k⟩:=h;unfold Dm.sA at e;split at e
 ·cases e
 rename_i hi0;split at e
 ·cases e
 ·rename_i d ρ1 e1;cases e;refine⟨H0,ρ,_,ρ1,st,e1,fun v H0' H' t r=>?_⟩;obtain⟨a,e,n,no,n0,w⟩:=r;subst e;refine k _ H0' H' ⟨t.st.Ag no n0 w,t.stp,fun b z=>?_,gc hi0⟩;rcases lT z with rfl | z
  ·exact .inr n
  ·exact .inl (t.own b z)
 ·rename_i x ρ1 _ e1;split at e
  ·cases e
  ·rename_i d ρ2 e2;cases e;refine⟨H0,ρ,_,ρ1,st,e1,fun v H0' H' t r=>?_⟩;obtain⟨H1,t1,b1,r1,_,_⟩:=take1 t (aC.refl _) r e2;exact k _ H1 H' ⟨t1.st.lS r1,t1.stp,fun b z=>.inl (t1.own b (cV z)),gc hi0⟩
theorem qk{j:Nat}(h:Def ρ j):Def (ρ.set i (.sh d)) j:=trivial
noncomputable def f_:List Nat->TGs
 |[]=>BR
 |i::is=>yI (jm i) (f_ is)
theorem ql{H0 H:Hp}{Q:St->Hp->Prop}:∀{is:List Nat} {xs:List V} {ds:List Dat} {σ:St} {ρ ρ':Dm.Env},az H0 H σ ρ->aK H0 xs ds->Dm.sets is ds ρ=some ρ' ->
  (∀σ',az H0 H σ' ρ'->(∀a,au σ' ρ' a->au σ ρ a)->(∀j,j∉is->σ'[j]?=σ[j]?)->(∀j,Def ρ j->Def ρ' j)->σ'[0]?=σ[0]?->Q σ' H)->f_ is xs σ H Q
 |[],_,[],σ,ρ,ρ',st,r,e,k=>by cases r;cases e;exact⟨rfl,k σ st (fun _ z=>z) (fun _ _=>rfl) (fun _ z=>z) rfl⟩
 |i::is,_,d::ds,σ,ρ,ρ',st,r,e,k=>by
  cases r with
  |cons h r=>
   unfold Dm.sets at e;split at e
   ·cases e
   rename_i hi0;refine⟨_,_,rfl,?_⟩;refine ql (st.lS h) r e fun σ' st' o' n' d' f'=>k σ' st' (fun a z=>cV (o' a z)) (fun j hj=>?_) (fun j z=>d' j (qk z)) (f'.trans (gc hi0));rw[n' j fun z=>hj (Fv _ z)];exact gc fun z=>hj (by rw[z];exact Fq)
 |[],_,_::_,_,_,_,_,_,e,_=>by cases e
 |_::_,_,[],_,_,_,_,_,e,_=>by cases e
theorem nh:∀{is:List Nat} {ds:List Dat} {ρ ρ':Dm.Env},Dm.sets is ds ρ=some ρ'->ds.length=is.length
 |[],[],_,_,_=>rfl
 |i::is,_::ds,_,_,e=>by
  unfold Dm.sets at e;split at e
  ·cases e
  ·simp[nh (is:=is) (ds:=ds) e]
 |[],_::_,_,_,e=>by cases e
 |_::_,[],_,_,e=>by cases e
def BD(is:List Nat)(g:TG)(bd:Dm.FB):Prop:=∀(H0 H:Hp) (σ:St) (ρ ρ':Dm.Env) (x:V) (d:Dat) (Q:St->Hp->Prop),az H0 H σ ρ->Rep H0 x d->bd d ρ=some ρ' ->
 (∀σ',az H0 H σ' ρ'->(∀a,au σ' ρ' a->au σ ρ a)->(∀j,j∉is->σ'[j]?=σ[j]?)->(∀j,Def ρ j->Def ρ' j)->σ'[0]?=σ[0]?->Q σ' H)->g x σ H Q
theorem qm(i:Nat):BD [i] (jm i) (Dm.bN i):=by
 intro H0 H σ ρ ρ' x d Q st r e k;unfold Dm.bN at e;split at e
 ·cases e
 rename_i hi0;cases e;refine k _ (st.lS r) (fun a z=>cV z) (fun j hj=>?_) (fun j h=>qk h) (gc hi0);exact gc (fun z=>hj (by rw[z];exact Gg.mpr rfl))
theorem tL{K:fj}(hn:is.length=n)(h:tDS (Dm.sU is f) D σ H):sI (tD f) (BS K n (f_ is)) D σ H:=by
 obtain⟨H0,ρ,o,st,e,k⟩:=h;unfold Dm.sU at e;split at e
 ·cases e
 ·rename_i x ρ1 e1;split at e
  ·rename_i ds ρ2 e2;split at e
   ·cases e
   ·rename_i ρ3 e3;cases e;refine⟨H0,ρ,_,ρ1,st,e1,fun v H0' H' t r=>?_⟩;obtain⟨H1,t1,b1,r1,_,_⟩:=take1 t (aC.refl _) r e2;cases r1 with
    |tup q rs=>refine⟨_,_,rfl,SqT.of (t1.st.same _ _ q),by rw[rs.length,nh e3,hn],?_⟩;exact ql t1.st rs e3 fun σ' st' o' _ _ f'=>k σ' H1 H' ⟨st',t1.stp,fun a z=>.inl (t1.own a (o' a z)),f'⟩
  ·cases e
theorem Cr{K:fj}(h:tDS (Dm.cB i f) D σ H):yG (tBM K "list" qh (zD i) (tDA [f])) D σ H:=by
 obtain⟨H0,ρ,o,st,e,k⟩:=h;unfold Dm.cB at e;split at e
 ·rename_i ds0 h0;obtain⟨a0,q0,n0,w0⟩:=st.ow i _ h0;refine⟨_,q0,?_⟩;split at e
  ·cases e
  rename_i x ρ1 e1;split at e
  ·cases e
  rename_i d ρ2 e2;split at e
  ·rename_i ds h2;split at e
   ·rename_i hz;cases e;obtain⟨xs0,y0,_⟩:=w0;refine⟨.inl ⟨rfl,xs0,.inl (.inl y0)⟩,?_⟩;refine⟨H0,ρ,[x],ρ1,st,by unfold Dm.eAs;rw[e1];rfl,fun vs H0' H' t r=>?_⟩;cases r with
    |cons r rr=>
     cases rr;obtain⟨H1,t1,b1,r1,_,_⟩:=take1 t (aC.refl _) r e2;obtain⟨a,q,n,w⟩:=t1.st.ow i _ h2;rw[q0]at q;cases q;obtain⟨xs,y,rs⟩:=w;refine⟨a0,xs,_,rfl,rfl,y,by rw[rs.length];exact FJ hz (by decide),?_⟩;have ow:au σ ρ2 a0:=⟨i,_,h2,q0⟩
     refine k σ H1 _ ⟨t1.st.write h2 q0 ⟨_,aN,rs.append (.cons r1 .nil)⟩,t1.stp.trans (Stp.write ow) fun b z=>.inl (t1.own b z),fun b z=>.inl (t1.own b (ng h2 z)),rfl⟩
   ·cases e
  ·cases e
 ·cases e
theorem wI(h:tDS (Dm.whD t body n) D σ H):sL (tDT t) (tDS body) D σ H:=by
 refine⟨fun m σ H=>tDS (Dm.whD t body m) D σ H,⟨n,h⟩,?_⟩;rintro m σ H ⟨H0,ρ,o,st,e,k⟩;cases m with
 |zero=>unfold Dm.whD at e;cases e
 |succ m=>
  unfold Dm.whD at e;split at e
  ·cases e
  ·rename_i ρ1 e1;cases e;refine⟨H0,ρ,false,ρ1,st,e1,fun H1 Hb t1=>?_⟩;dsimp only;rw[if_neg Ge];exact k σ H1 Hb t1.sst
  ·rename_i ρ1 e1;refine⟨H0,ρ,true,ρ1,st,e1,fun H1 Hb t1=>?_⟩;dsimp only;rw[if_pos rfl];refine⟨fun σ' H'=>tDS (Dm.whD t body m) D σ' H',fun σ' H' q=>⟨m,Nat.lt_succ_self m,q⟩,?_⟩;have k1:=k.pre t1.sst;split at e
   ·rename_i ρ2 e2;exact⟨H1,ρ1,_,t1.st,e2,fun σ' H0' H' t2=>⟨H0',ρ2,o,t2.st,e,k1.pre t2⟩⟩
   ·rename_i ρ2 e2;exact⟨H1,ρ1,_,t1.st,e2,fun σ' H0' H' t2=>⟨H0',ρ2,o,t2.st,e,k1.pre t2⟩⟩
   ·rename_i ρ2 e2;cases e;exact⟨H1,ρ1,_,t1.st,e2,k1⟩
   ·rename_i v ρ2 e2;cases e;exact⟨H1,ρ1,_,t1.st,e2,k1⟩
   ·cases e
def JW(J:It)(H00:Hp)(ys:List Dat):Prop:=∀H0 H,aC H00 H0->aC H0 H->(∀i,ys.length<=i->J.stop i H) /\
 ∀(i:Nat) (d:Dat),ys[i]?=some d->J.go i H/\∀x H',J.yld i H x H'->∃H0',aE H0 H H0' H'/\Rep H0' x d
def tDI(fi:Dm.FI):TI:=fun σ H R=>∃H0 ρ ys ρ',az H0 H σ ρ/\fi ρ=some (ys,ρ')/\∀J H0' H',ESt σ ρ H0 H ρ' H0' H'->JW J H0' ys->R J H'
theorem Cs(hb:BD is g bd)(h:tDS (Dm.b9 fi bd body) D σ H):BU (tDI fi) g (tDS body) D σ H:=by
 obtain⟨H0,ρ,o,st,e,k⟩:=h;unfold Dm.b9 at e;split at e
 ·cases e
 rename_i ys ρ1 e1;refine⟨H0,ρ,ys,ρ1,st,e1,fun J H00 Hb t1 jw=>?_⟩;refine ⟨fun i m σ H=>∃ H0 ρ o,az H0 H σ ρ∧aC H00 H0∧m=ys.length-i∧i≤ys.length∧Dm.dY bd body (ys.drop i) ρ=some o∧jr D σ ρ H0 H o,
  ⟨ys.length,H00,ρ1,o,t1.st,aC.refl _,by simp,Gb _,by simpa using e,k.pre t1.sst⟩,?_⟩
 rintro i m σ H ⟨H0,ρ,o,st,s00,rfl,hi,e,k⟩;obtain⟨js,jg⟩:=jw H0 H s00 st.same;by_cases Kf:i<ys.length
 ·have hd:ys[i]?=some ys[i]:=by simp[Kf]
  obtain⟨g1,g2⟩:=jg i ys[i] hd;rw[G7 Kf]at e;unfold Dm.dY at e;refine .inr ⟨g1,fun σ' H'=>∃H0 ρ o,az H0 H' σ' ρ/\aC H00 H0/\Dm.dY bd body (ys.drop (i+1)) ρ=some o/\jr D σ' ρ H0 H' o,?_,fun x H' y=>?_⟩
  ·rintro σ' H' ⟨H0',ρ',o',h1,h2,h3,h4⟩;exact⟨ys.length-(i+1),by lia,H0',ρ',o',h1,h2,rfl,Kf,h3,h4⟩
  ·obtain⟨H0',gr,rx⟩:=g2 x H' y;split at e
   ·cases e
   ·rename_i ρ2 e2;have t2:=ESt.grow st gr;refine hb H0' H' σ ρ ρ2 x ys[i] _ t2.st rx e2 fun σ2 st2 o2 _ _ f2=>?_;have t3:SSt σ ρ H0 H σ2 ρ2 H0' H':=⟨st2,t2.stp,fun a z=>.inl (o2 a z),f2⟩
    have k3:=k.pre t3;have s3:aC H00 H0':=s00.trans gr.s0;split at e
    ·rename_i ρ3 e3;exact⟨H0',ρ2,_,st2,e3,fun σ4 H4 Hd t4=>⟨H4,ρ3,o,t4.st,s3.trans t4.stp.s0,e,k3.pre t4⟩⟩
    ·rename_i ρ3 e3;exact⟨H0',ρ2,_,st2,e3,fun σ4 H4 Hd t4=>⟨H4,ρ3,o,t4.st,s3.trans t4.stp.s0,e,k3.pre t4⟩⟩
    ·rename_i ρ3 e3;cases e;exact⟨H0',ρ2,_,st2,e3,k3⟩
    ·rename_i v ρ3 e3;cases e;exact⟨H0',ρ2,_,st2,e3,k3⟩
    ·cases e
 ·have e':i=ys.length:=by lia
  subst e';rw[List.drop_length]at e;cases e;exact .inl ⟨js _ (Ft _),k σ H0 H (.refl st)⟩
theorem wJ{K:fj}(hq:Rd H0 a (.lst xs))(rs:aK H0 xs ds):JW (Itl K a) H0 ds:=by intro H0' H s0 s1;have q:SqL K H a xs:=.inl (aC.rd s1 (aC.rd s0 hq));refine⟨fun i hi=>⟨xs,q,by rw[rs.length];exact hi⟩,fun i d e=>?_⟩;obtain⟨v,hv,rv⟩:=rs.get e;refine⟨⟨xs,v,q,hv⟩,fun x H' y=>?_⟩;obtain⟨e1,y⟩:=y;subst e1;have z:=y xs q;rw[hv]at z;cases z;exact⟨H0',aE.refl s1,rv.mono s0⟩
theorem Ah{K:fj}(hq:H0 a=some (.tup xs))(rs:aK H0 xs ds):JW (Itt K a) H0 ds:=by intro H0' H s0 s1;have q:SqT K H a xs:=.inl (.inl (s1 _ _ (s0 _ _ hq)));refine⟨fun i hi=>⟨xs,q,by rw[rs.length];exact hi⟩,fun i d e=>?_⟩;obtain⟨v,hv,rv⟩:=rs.get e;refine⟨⟨xs,v,q,hv⟩,fun x H' y=>?_⟩;obtain⟨e1,y⟩:=y;subst e1;have z:=y xs q;rw[hv]at z;cases z;exact⟨H0',aE.refl s1,rv.mono s0⟩
theorem ni{lo:Int}:JW (Itr lo n) H0 (Dm.ups lo n):=by
 intro H0' H s0 s1;have el:(Dm.ups lo n).length=n:=by simp[Dm.ups]
 refine⟨fun i hi=>by rw[el]at hi;exact hi,fun i d e=>?_⟩;have hi:i<n:=by have:=(F5.mp e).1;rw[el]at this;exact this
 have hd:d=.int (lo+i):=by unfold Dm.ups at e;rw[F4,List.getElem?_range hi]at e;exact(Option.some.inj e).symm
 refine⟨hi,fun x H' y=>?_⟩;obtain⟨rfl,rfl⟩:=y;subst hd;exact⟨H0',aE.refl s1,.int _⟩
variable{R:It->Hp->Prop}
theorem Eu{K:fj}(h:tDI (Dm.iL f) σ H R):mV K (tD f) σ H R:=by
 obtain⟨H0,ρ,ys,ρ',st,e,k⟩:=h;unfold Dm.iL at e;split at e
 ·cases e
 rename_i x ρ1 e1;split at e
 ·rename_i ds ρ2 e2;cases e;refine⟨H0,ρ,_,ρ1,st,e1,fun v H0' H' t r=>?_⟩;obtain⟨H1,t1,b1,r1,_,_⟩:=take1 t (aC.refl _) r e2;cases r1 with
  |lst q rs=>exact⟨_,rfl,⟨_,.inl (aC.rd t1.st.same q)⟩,k _ H1 H' t1 (wJ q rs)⟩
 ·cases e
theorem Ew{K:fj}(h:tDI (Dm.iT f) σ H R):sN K (tD f) σ H R:=by
 obtain⟨H0,ρ,ys,ρ',st,e,k⟩:=h;unfold Dm.iT at e;split at e
 ·cases e
 rename_i x ρ1 e1;split at e
 ·rename_i ds ρ2 e2;cases e;refine⟨H0,ρ,_,ρ1,st,e1,fun v H0' H' t r=>?_⟩;obtain⟨H1,t1,b1,r1,_,_⟩:=take1 t (aC.refl _) r e2;cases r1 with
  |tup q rs=>exact⟨_,rfl,⟨_,.inl (.inl (t1.st.same _ _ q))⟩,k _ H1 H' t1 (Ah q rs)⟩
 ·cases e
theorem Ct(h:tDI (Dm.iR1 f) σ H R):yJ (tDA [f]) σ H R:=by
 obtain⟨H0,ρ,ys,ρ',st,e,k⟩:=h;unfold Dm.iR1 at e;split at e
 ·rename_i j ρ1 e1;split at e
  ·rename_i hb;cases e;refine⟨H0,ρ,[.val (.int j)],_,st,by unfold Dm.eAs;rw[e1];rfl,fun vs H0' H' t r=>?_⟩;cases r with
   |cons r rr=>cases rr;cases Rep.isInt r;have h1:=hb.1;have h2:=hb.2;unfold Dm.BIG at h1 h2;exact⟨j,rfl,by lia,by lia,k _ H0' H' t ni⟩
  ·cases e
 ·cases e
theorem Cu{f g:FE}(h:tDI (Dm.iR2 f g) σ H R):yK (tDA [f,g]) σ H R:=by
 obtain⟨H0,ρ,ys,ρ',st,e,k⟩:=h;unfold Dm.iR2 at e;split at e
 ·rename_i i ρ1 e1;split at e
  ·rename_i j ρ2 e2;split at e
   ·rename_i hb;cases e;refine⟨H0,ρ,[.val (.int i),.val (.int j)],_,st,by unfold Dm.eAs;rw[e1];dsimp only;unfold Dm.eAs;rw[e2];rfl,fun vs H0' H' t r=>?_⟩;cases r with
    |cons r rr=>
     cases rr with
     |cons r' rr=>cases rr;cases Rep.isInt r;cases Rep.isInt r';obtain⟨h1,h2,h3,h4⟩:=hb;unfold Dm.BIG at h1 h2 h3 h4;exact⟨i,j,rfl,⟨by lia,by lia,by lia,by lia⟩,k _ H0' H' t ni⟩
   ·cases e
  ·cases e
 ·cases e
def tLC(wi:TI)(own:Nat)(g:TG)(tt:TT)(te:TE):TE:=fun σ H Q=>wi σ H fun J H1=>∀D,H1 D=none->∃W:Nat->Nat->St->Hp->Prop,
 (∃m,W 0 m (σ++eg own none) (upd H1 D (.lst [])))/\∀i m σ' H',W i m σ' H' ->
  (J.stop i H'∧Q (.ref D) H')∨(J.go i H'∧∀ x H2,J.yld i H' x H2→g x σ' H2 fun σ2 H3=>tt σ2 H3 fun b H4=>if b=true
   then te σ2 H4 fun y H5=>∃uK,H5 D=some (.lst uK)/\uK.length<sizeLine/\∃m',m'<m/\W (i+1) m' σ2 (upd H5 D (.lst (uK++[y])))
   else ∃m',m'<m/\W (i+1) m' σ2 H4)
theorem az.aside{H0 H:Hp}{σ:St}(st:az H0 H σ ρ)(n0:H0 a=none)(no:¬au σ ρ a):az H0 (upd H a o) σ ρ where
 same:=fun b u z=>by rw[ay (aM z n0)];exact st.same _ _ z
 len:=st.len
 sh:=st.sh
 ow:=fun j d h=>by obtain⟨b,q,n,w⟩:=st.ow j d h;have nb:b≠a:=fun y=>no ⟨j,d,h,y▸q⟩;exact⟨b,q,n,w.mono (aC.refl _) (ay nb)⟩
 dis:=st.dis
theorem az.nj{H0 H:Hp}{σ:St}(st:az H0 H σ ρ)(h:H a=none):¬au σ ρ a:=fun⟨i,d,h1,h2⟩=>by obtain⟨b,q,n,w⟩:=st.ow i d h1;rw[h2]at q;cases q;obtain⟨o,z⟩:=w.some;rw[h]at z;cases z
theorem gO{α:Type}{l:List α}{r:List α}{x:α}(h:(l++r)[i]?=some x)(n:x∉r):i<l.length/\l[i]?=some x:=by
 by_cases hi:i<l.length
 ·rw[Fp hi]at h;exact⟨hi,h⟩
 ·rw[F7 (HB.mp hi)]at h;exact absurd (Hz h) n
theorem tM:Dm.Cell.sh d∉eg k Dm.Cell.un:=fun h=>by have:=List.eq_of_mem_replicate h;cases this
theorem gP:Dm.Cell.ow d∉eg k Dm.Cell.un:=fun h=>by have:=List.eq_of_mem_replicate h;cases this
theorem az.ext{H0 H:Hp}{σ:St}(st:az H0 H σ ρ)(k:Nat):az H0 H (σ++eg k none) (ρ++eg k .un) where
 same:=st.same
 len:=by simp[st.len]
 sh:=fun i d h=>by obtain⟨hi,h⟩:=gO h tM;obtain⟨v,q,r⟩:=st.sh i d h;exact⟨v,by rw[Fp (by rw[st.len];exact hi)];exact q,r⟩
 ow:=fun i d h=>by obtain⟨hi,h⟩:=gO h gP;obtain⟨v,q,r⟩:=st.ow i d h;exact⟨v,by rw[Fp (by rw[st.len];exact hi)];exact q,r⟩
 dis:=fun i j d e a h1 h2 h3 h4=>by obtain⟨hi,h1⟩:=gO h1 gP;obtain⟨hj,h2⟩:=gO h2 gP;rw[Fp (by rw[st.len];exact hi)]at h3;rw[Fp (by rw[st.len];exact hj)]at h4;exact st.dis i j d e a h1 h2 h3 h4
theorem kQ{H0 H:Hp}{σ:St}(st:az H0 H σ ρ)(h:au (σ++eg k none) (ρ++eg k .un) a):au σ ρ a:=by obtain⟨i,d,h1,h2⟩:=h;obtain⟨hi,h1⟩:=gO h1 gP;rw[Fp (by rw[st.len];exact hi)]at h2;exact⟨i,d,h1,h2⟩
theorem Stp.aside{O:Addr->Prop}{H0 H H0' H':Hp}{D:Addr}(t:Stp O H0 H H0' H')(hD:H D=none):Stp O H0 H H0' (upd H' D o):=
 ⟨t.s0,fun a u e n=>by rw[ay (aM e hD)];exact t.s1 a u e n,t.s2,fun a u e=>by rw[ay (aM e hD)];exact t.s3 a u e⟩
theorem ESt.iK{σ:St}{ρ ρ':Dm.Env}{H0 H H0' H':Hp}(t:ESt σ ρ H0 H ρ' H0' H'){D:Addr}(h:H D=some o)(n0:H0 D=none)(no:¬au σ ρ D):H' D=some o/\H0' D=none/\¬au σ ρ' D:=by
 refine⟨t.stp.s1 D o h no,?_,fun z=>no (t.own D z)⟩;cases q:H0' D with
 |none=>rfl
 |some u=>
  rcases t.stp.s2 D u q with z | z | z
  ·rw[h]at z;cases z
  ·rw[n0]at z;cases z
  ·exact absurd z no
def JWa(J:It)(H00:Hp)(pa:Option (Addr×HO))(ys:List Dat):Prop:=∀H0 H,aC H00 H0->aC H0 H->(∀q,pa=some q->H q.1=some q.2)->(∀i,ys.length<=i->J.stop i H) /\
 ∀(i:Nat) (d:Dat),ys[i]?=some d->J.go i H/\∀x H',J.yld i H x H'->∃H0',aE H0 H H0' H'/\Rep H0' x d
theorem nk{σ:St}{own:Nat}{t:FT}{el:FE}{Q:VK}{H00 Hb:Hp}{ρ1 ρ2:Dm.Env}{ds ys:List Dat}{J:It}{pa:Option (Addr×HO)}(hb:BD is g bd)(hl:∀i∈is,σ.length<=i)
  (st1:az H00 Hb σ ρ1) (hp:∀q,pa=some q->Hb q.1=some q.2/\H00 q.1=none/\¬au σ ρ1 q.1) (jw:JWa J H00 pa ds) (hsz:ds.length<=Dm.SZ) (e2:Dm.e8 bd t el ds (ρ1++eg own .un) []=some (ys,ρ2))
  (k:∀v H0' H',ESt σ ρ1 H00 Hb (ρ2.take ρ1.length) H0' H'->fR Hb H0' H' σ (ρ2.take ρ1.length) v (.new (.lst ys))->(∀q,pa=some q->H' q.1=some q.2/\H0' q.1=none)->Q v H') (D:Addr) (hD:Hb D=none) :
  ∃W:Nat->Nat->St->Hp->Prop,(∃m,W 0 m (σ++eg own none) (upd Hb D (.lst [])))/\∀i m σ' H',W i m σ' H' ->
  (J.stop i H'∧Q (.ref D) H')∨(J.go i H'∧∀ x H2,J.yld i H' x H2→g x σ' H2 fun σ2 H3=>tDT t σ2 H3 fun b H4=>if b=true
   then tD el σ2 H4 fun y H5=>∃uK,H5 D=some (.lst uK)/\uK.length<sizeLine/\∃m',m'<m/\W (i+1) m' σ2 (upd H5 D (.lst (uK++[y])))
   else ∃m',m'<m/\W (i+1) m' σ2 H4):=by
 have hpD:∀q,pa=some q->q.1≠D:=fun q e z=>by have:=(hp q e).1;rw[z,hD]at this;cases this
 have noD:¬au σ ρ1 D:=st1.nj hD;refine ⟨fun i m σ' H'=>∃ (H0c:Hp) (ρc:Dm.Env) (rJ:List Dat) (o5:List V),az H0c H' σ' ρc∧aC H00 H0c∧m=ds.length-i∧i≤ds.length∧Dm.e8 bd t el (ds.drop i) ρc rJ=some (ys,ρ2) ∧
  H' D=some (.lst o5)/\aK H0c o5 rJ/\H0c D=none/\rJ.length<=i/\Stp (au σ ρ1) H00 Hb H0c H'/\(∀j,j<σ.length->σ'[j]?=σ[j]?)/\(∀a,au σ' ρc a->au σ ρ1 a)/\(∀j,Def ρ1 j->Def ρc j)/\(∀q,pa=some q->H' q.1=some q.2/\H0c q.1=none/\¬au σ' ρc q.1),
  ⟨ds.length,H00,ρ1++eg own .un,[],[],(st1.aside (st1.same.free hD) noD).ext own,aC.refl _,by simp,Gb _,by simpa using e2,aN,.nil,st1.same.free hD,Gb _,(Stp.refl _ _ _).aside hD,
   fun j hj=>Fp hj,fun a z=>kQ st1 z,fun j z=>trivial,fun q e=>⟨by rw[ay (hpD q e)];exact(hp q e).1,(hp q e).2.1,fun z=>(hp q e).2.2 (kQ st1 z)⟩⟩,?_⟩
 rintro i m σ' H' ⟨H0c,ρc,rJ,o5,sc,s00,rfl,hi,ec,hDl,ra,n0,hal,sp,hσ,ho,hdf,hpc⟩;have nOc:¬au σ' ρc D:=fun z=>noD (ho D z);obtain⟨js,jg⟩:=jw H0c H' s00 sc.same fun q e=>(hpc q e).1;by_cases Kf:i<ds.length
 ·have hd:ds[i]?=some ds[i]:=by simp[Kf]
  obtain⟨g1,g2⟩:=jg i ds[i] hd;rw[G7 Kf]at ec;unfold Dm.e8 at ec;refine .inr ⟨g1,fun y H2 yy=>?_⟩;obtain⟨H0',gr,rx⟩:=g2 y H2 yy;split at ec
  ·cases ec
  rename_i ρ3 e3;have t2:=ESt.grow sc gr;obtain⟨hD2,n02,no2⟩:=t2.iK hDl n0 nOc;have hp2:=fun q e=>t2.iK (hpc q e).1 (hpc q e).2.1 (hpc q e).2.2;refine hb H0' H2 σ' ρc ρ3 y ds[i] _ t2.st rx e3 fun σ3 st3 o3 k3 d3 _=>?_;have no3:¬au σ3 ρ3 D:=fun z=>no2 (o3 D z);have po3:∀q,pa=some q->¬au σ3 ρ3 q.1:=fun q e z=>(hp2 q e).2.2 (o3 q.1 z);have hσ3:∀j,j<σ.length->σ3[j]?=σ[j]?:=fun j hj=>(k3 j fun z=>HB.mpr (hl j z) hj).trans (hσ j hj);have ho3:∀a,au σ3 ρ3 a->au σ ρ1 a:=fun a z=>ho a (o3 a z);have Cv:∀j,Def ρ1 j->Def ρ3 j:=fun j z=>d3 j (hdf j z);have sp3:Stp (au σ ρ1) H00 Hb H0' H2:=sp.trans t2.stp fun a z=>.inl (ho a z);have ra3:=ra.mono gr.s0;have s3:aC H00 H0':=s00.trans gr.s0;split at ec
  ·cases ec
  ·rename_i ρ4 e4;refine⟨H0',ρ3,false,ρ4,st3,e4,fun lU H'' t4=>?_⟩;dsimp only;rw[if_neg Ge];obtain⟨hD4,n04,no4⟩:=t4.iK hD2 n02 no3;have hp4:=fun q e=>t4.iK (hp2 q e).1 (hp2 q e).2.1 (po3 q e);exact⟨ds.length-(i+1),by lia,lU,ρ4,rJ,o5,t4.st,s3.trans t4.stp.s0,rfl,Kf,ec,hD4,ra3.mono t4.stp.s0,n04,Nat.le_succ_of_le hal,sp3.trans t4.stp fun a z=>.inl (ho3 a z),hσ3,fun a z=>ho3 a (t4.own a z),fun j z=>t4.dfn j (Cv j z),hp4⟩
  ·rename_i ρ4 e4;refine⟨H0',ρ3,true,ρ4,st3,e4,fun lU H'' t4=>?_⟩;dsimp only;rw[if_pos rfl];obtain⟨hD4,n04,no4⟩:=t4.iK hD2 n02 no3;have hp4:=fun q e=>t4.iK (hp2 q e).1 (hp2 q e).2.1 (po3 q e);split at ec
   ·cases ec
   rename_i x5 ρ5 e5;split at ec
   ·cases ec
   rename_i y6 ρ6 e6;refine⟨lU,ρ4,x5,ρ5,t4.st,e5,fun v H5 Hc t5 r5=>?_⟩;obtain⟨H6,t6,b6,r6,_,_⟩:=take1 t5 (aC.refl _) r5 e6;obtain⟨hD6,n06,no6⟩:=t6.iK hD4 n04 no4;have hp6:=fun q e=>t6.iK (hp4 q e).1 (hp4 q e).2.1 (hp4 q e).2.2;refine⟨o5,hD6,?_,ds.length-(i+1),by lia,H6,ρ6,rJ++[y6],o5++[v],t6.st.aside n06 no6,(s3.trans t4.stp.s0).trans t6.stp.s0,rfl,Kf,ec,aN,?_,n06,?_,?_,hσ3,fun a z=>ho3 a (t4.own a (t6.own a z)),fun j z=>t6.dfn j (t4.dfn j (Cv j z)),fun q e=>⟨by rw[ay (hpD q e)];exact(hp6 q e).1,(hp6 q e).2.1,(hp6 q e).2.2⟩⟩
   ·rw[ra.length];unfold Dm.SZ at hsz;exact HN (FQ hal (FQ (Hh Kf) hsz)) (by decide)
   ·exact((ra3.mono t4.stp.s0).mono t6.stp.s0).append (.cons r6 .nil)
   ·rw[Fl,Hv];lia
   ·exact((sp3.trans t4.stp fun a z=>.inl (ho3 a z)).trans t6.stp fun a z=>.inl (ho3 a (t4.own a z))).aside hD
 ·have e':i=ds.length:=by lia
  subst e';rw[List.drop_length]at ec;cases ec;refine .inl ⟨js _ (Ft _),k _ H0c H' ?_ ?_ fun q e=>⟨(hpc q e).1,(hpc q e).2.1⟩⟩
  ·have zc:σ.length<=ρ2.length:=by
    rw[<- sc.len];refine HB.mp fun z=>?_;have q:=hσ σ'.length z;rw[GG (Ft _),F1 z]at q;cases q
   have tk:∀{j:Nat} {c:Dm.Cell},(ρ2.take ρ1.length)[j]?=some c->j<σ.length/\ρ2[j]?=some c:=fun {j c} h=>by
    have hj:j<ρ1.length:=by
     have:=(F5.mp h).1;rw[Gz]at this
     lia
    rw[Hj hj]at h;exact⟨by rw[st1.len];exact hj,h⟩
   have own':∀a,au σ (ρ2.take ρ1.length) a->au σ' ρ2 a:=fun a ⟨j,d,h1,h2⟩=>by obtain⟨hj,h1⟩:=tk h1;exact⟨j,d,h1,(hσ j hj).trans h2⟩
   refine⟨⟨sc.same,?_,fun j d h=>?_,fun j d h=>?_,fun j j' d d' a h1 h2 h3 h4=>?_⟩,sp,fun a z=>ho a (own' a z),fun j z=>?_⟩
   ·rw[Gz,<- st1.len];lia
   ·obtain⟨hj,h⟩:=tk h;obtain⟨v,q,r⟩:=sc.sh j d h;exact⟨v,(hσ j hj).symm.trans q,r⟩
   ·obtain⟨hj,h⟩:=tk h;obtain⟨v,q,r⟩:=sc.ow j d h;exact⟨v,(hσ j hj).symm.trans q,r⟩
   ·obtain⟨hj,h1⟩:=tk h1;obtain⟨hj',h2⟩:=tk h2;exact sc.dis j j' d d' a h1 h2 ((hσ j hj).trans h3) ((hσ j' hj').trans h4)
   ·trivial
  ·refine⟨D,rfl,hD,fun⟨j,d,h1,h2⟩=>?_,n0,o5,hDl,ra⟩;have hj:j<ρ1.length:=by
    have:=(F5.mp h1).1;rw[Gz]at this
    lia
   rw[Hj hj]at h1;exact nOc ⟨j,d,h1,(hσ j (by rw[st1.len];exact hj)).trans h2⟩
theorem o6{own:Nat}{el:FE}(hb:BD is g bd)(hl:∀i∈is,σ.length<=i)(h:tD (Dm.cW fi own bd t el) σ H Q) :
  tLC (tDI fi) own g (tDT t) (tD el) σ H Q:=by
 obtain⟨H0,ρ,x,ρ',st,e,k⟩:=h;unfold Dm.cW at e;split at e
 ·cases e
 rename_i ds ρ1 e1;split at e
 case isFalse=>cases e
 rename_i hsz;split at e
 ·cases e
 rename_i ys ρ2 e2;cases e;refine⟨H0,ρ,ds,ρ1,st,e1,fun J H00 Hb t1 jw D hD=>nk (pa:=none) hb hl t1.st (fun q e=>by cases e) (fun H0 H s0 s1 _=>jw H0 H s0 s1) hsz e2 (fun v H0' H' t2 r2 _=>k v H0' H' (t1.trans t2) (r2.early fun a n=>t1.stp.gone n)) D hD⟩
theorem jt{n m:Nat}{H:Hp}(h:spD (Dm.fn n m body) vs H Q E):vs.length=n:=by
 obtain⟨H0,ds,z,s,rs,e,k⟩:=h;unfold Dm.fn at e;split at e
 ·rename_i hl;rw[rs.length];exact hl
 ·cases e
theorem wK{N:List Str}{n m:Nat}(hm:N.length=n+m)(h:spD (Dm.fn n m body) vs H Q E) :
  tDS body { nx:=fun _ H'=>Q .non H',rt:=Q } (start N vs) H:=by
 have hvn:=jt h;obtain⟨H0,ds,z,s,rs,e,k⟩:=h;have hl:=rs.length;have no:∀a,¬au (start N vs) (ds.map Dm.Cell.sh++eg m .un) a:=fun a ⟨i,d,h1,_⟩=>by
  by_cases hi:i<ds.length
  ·rw[Fp (by simpa using hi),F4]at h1;cases q:ds[i]? with
   |none=>rw[q]at h1;cases h1
   |some y=>rw[q]at h1;cases h1
  ·rw[F7 (by simpa using hi),Gd]at h1;split at h1<;>cases h1
 have st:az H0 H (start N vs) (ds.map Dm.Cell.sh++eg m .un):=by
  refine⟨s,?_,fun i d h=>?_,fun i d h=>?_,fun i j d e a h1 h2 _ _=>?_⟩
  ·unfold L2.start;simp only[Fl,Fw,G1]
   lia
  ·have hi:i<ds.length:=by
    by_cases hi:i<ds.length
    ·exact hi
    ·rw[F7 (by simpa using hi),Gd]at h;split at h<;>cases h
   rw[Fp (by simpa using hi),F4]at h;cases q:ds[i]? with
   |none=>rw[q]at h;cases h
   |some y=>rw[q]at h;cases h;obtain⟨v,hv,r⟩:=rs.get q;refine⟨v,?_,r⟩;unfold L2.start;rw[Fp (by simpa [hl] using hi),F4,hv];rfl
  ·by_cases hi:i<ds.length
   ·rw[Fp (by simpa using hi),F4]at h;cases q:ds[i]? with
    |none=>rw[q]at h;cases h
    |some y=>rw[q]at h;cases h
   ·rw[F7 (by simpa using hi),Gd]at h;split at h<;>cases h
  ·by_cases hi:i<ds.length
   ·rw[Fp (by simpa using hi),F4]at h1;cases q:ds[i]? with
    |none=>rw[q]at h1;cases h1
    |some y=>rw[q]at h1;cases h1
   ·rw[F7 (by simpa using hi),Gd]at h1;split at h1<;>cases h1
 have gr:∀{H0' H'},Stp (au (start N vs) (ds.map Dm.Cell.sh++eg m .un)) H0 H H0' H'->aC H0' H'->aE H0 H H0' H':=fun {H0' H'} t ss=>⟨t.s0,fun a o e=>t.s1 a o e (no a),fun a o e=>(t.s2 a o e).imp id fun q=>q.elim id fun z=>absurd z (no a),ss⟩
 unfold Dm.fn at e;rw[if_pos (by rw[<- hl];exact hvn)]at e;split at e
 ·rename_i r ρ' e1;cases e;refine⟨H0,_,_,st,e1,fun σ' v H0' H' t r _=>k v H0' H' (gr t.stp t.st.same) ?_⟩;cases z with
  |val d=>exact r
  |new d=>obtain⟨a,e,n,n0,w⟩:=r;exact⟨a,e,n.elim id fun z=>absurd z (no a),n0,w⟩
 ·rename_i ρ' e1;cases e;exact⟨H0,_,_,st,e1,fun σ' H0' H' t=>k _ H0' H' (gr t.stp t.st.same) .non⟩
 ·cases e
end
end
open PySem PySem.Spec PyProof.Rows L2
noncomputable def bh(X:Cx)(nm:List Str)(scope:Scope)(own:List Str)(cl:List (Str×Addr))(C:Addr)(s:Shared)(H:Hp)(fp:List Addr):Cx where
 prog:=X.prog
 w:=X.w
 K:=X.K
 mg:=X.mg
 base:=X.base
 A:=X.A
 N:=nm++own
 s₀:=s
 H₀:=H
 env:=compEnvC scope cl C X.env
 outer:=X.stack
 stack:=X.stack
 ex:=fp
 fn:=fun _=>false
 calm:=X.calm
 pn:=[]
 xe:=fun _ _=>False
def PTs(X:Cx)(Di:List Expr)(t:TT):Prop:=
 ∀(ez:List (Addr×Obj)) (s:Shared) (σ:L2.St) (H:Hp) (Q:Bool->Hp->Prop),Inv X ez σ H s->t σ H Q ->
  wpAny (model X.prog X.w) X.A (forIn Di true fun c r=>if r=true then do let ok <- isTrue c X.env (eval c X.env);pure (Gy ok) else pure (Gy r)) (TP X ez σ Q) X.xe s
def Ex:TT:=fun _ H Q=>Q true H
theorem wL{X:Cx}:PTs X [] Ex:=fun ez s σ H Q I h=>wpAny_tests_nil ⟨H,I,h⟩
theorem dD(env:Env):∀(names:List (Str×NameKind)) (cs:List (Str×Addr)),(∀y∈names,y.2=.free->∃c,env.cells.lookup y.1=some c) ->
  ∃cl,(forIn names cs fun(x:Str×NameKind) (r:List (Str×Addr))=>(if (x.2 == NameKind.free)=true then do let c <- cellOf env x.1;pure (Gy ((x.1,c)::r)) else pure (Gy r):Sem (ForInStep (List (Str×Addr)))))=pure cl /\
   (∀x c,cl.lookup x=some c->env.cells.lookup x=some c\/cs.lookup x=some c)/\(∀y∈names,y.2=.free->∃c,cl.lookup y.1=some c)/\(∀x c,cs.lookup x=some c->∃c',cl.lookup x=some c')
 |[],cs,_=>⟨cs,rfl,fun _ _ h=>.inr h,fun _ h=>(nomatch h),fun _ c h=>⟨c,h⟩⟩
 |(n,k)::r,cs,h=>by
  have hr:∀y∈r,y.2=.free->∃c,env.cells.lookup y.1=some c:=fun y hy=>h y (Fv _ hy);by_cases hk:k=.free
  ·subst hk;obtain⟨c,hc⟩:=h (n,.free) Fq rfl;obtain⟨cl,e,h1,h2,h3⟩:=dD env r ((n,c)::cs) hr;refine⟨cl,?_,fun x c' q=>?_,fun y hy hf=>?_,fun x c' q=>?_⟩
   ·rw[HC];have e1:cellOf env n=pure c:=by unfold cellOf;rw[hc]
    simp only[beq_self_eq_true,if_true,e1,pure_bind];exact e
   ·rcases h1 x c' q with z | z
    ·exact .inl z
    ·rw[Gj]at z;cases hx:x == n with
     |true=>
      rw[hx]at z;have:x=n:=by simpa using hx
      subst this;injection z with z
      subst z;exact .inl hc
     |false=>rw[hx]at z;exact .inr z
   ·rcases F9.mp hy with rfl | hy
    ·exact h3 n c (by rw[Gj,beq_self_eq_true])
    ·exact h2 y hy hf
   ·by_cases hx:x=n
    ·subst hx;exact h3 x c (by rw[Gj,beq_self_eq_true])
    ·have hx':(x == n)=false:=by simpa using hx
     exact h3 x c' (by rw[Gj,hx'];exact q)
  ·have hb:(k == NameKind.free)=false:=by simpa using hk
   obtain⟨cl,e,h1,h2,h3⟩:=dD env r cs hr;refine⟨cl,?_,h1,fun y hy hf=>?_,h3⟩
   ·rw[HC];simp only[hb,Bool.false_eq_true,if_false,pure_bind];exact e
   ·rcases F9.mp hy with rfl | hy
    ·exact absurd hf hk
    ·exact h2 y hy hf
theorem ju{env:Env}{scope:Scope}(h:∀y∈scope.names,y.2=.free->∃c,env.cells.lookup y.1=some c) :
  ∃cl,closureFor scope env=pure cl/\(∀x c,cl.lookup x=some c->env.cells.lookup x=some c)/\∀y∈scope.names,y.2=.free->∃c,cl.lookup y.1=some c:=by
 obtain⟨cl,e,h1,h2,_⟩:=dD env scope.names [] h;refine⟨cl,?_,fun x c q=>(h1 x c q).elim id fun z=>by simp at z,h2⟩;unfold closureFor;have e':(forIn scope.names ([]:List (Str×Addr)) fun(x:Str×NameKind) (r:List (Str×Addr))=>(if (x.2 == NameKind.free)=true then do let c <- cellOf env x.1;pure (Gy ((x.1,c)::r)) else pure (Gy r):Sem (ForInStep (List (Str×Addr)))))=pure cl:=e
 first
  |(rw[show (forIn scope.names ([]:List (Str×Addr)) _:Sem (List (Str×Addr)))=pure cl from e'];rfl)
  |(simp only[e'];rfl)
theorem lV{prog:Program}{w:World}{A:Around}{R:Result->Shared->Prop}{s:Shared}{ES target iter:Expr}{Di:List Expr}{scope:Scope}{pos:Pos}{it uK:Value}{env:Env}(I:Nat->Shared->Prop)
  (turn:∀ n s,I n s→wpAny (model prog w) A (pyNext it) (fun r s₁=>match r with
   |none=>R (.ok .next) s₁
   | some v=>wpAny (model prog w) A (letOwnedTupleGo target it v) (fun _ s₁'=>wpAny (model prog w) A (assign target env v) (fun _ s₂=>
     wpAny (model prog w) A (forIn Di true fun c r=>if r=true then do let ok ← isTrue c env (eval c env);pure (Gy ok) else pure (Gy r)) (fun ok s₃=>
      if ok=true then wpAny (model prog w) A (eval ES env) (fun x s₄=>wpAny (model prog w) A (call (.builtin "list.append") [uK,x]) (fun _ s₅=>∃m,m<n/\I m s₅) (fun _ _=>False) s₄) (fun _ _=>False) s₃
      else ∃m,m<n/\I m s₃) (fun _ _=>False) s₂) (fun _ _=>False) s₁') (fun _ _=>False) s₁) (fun _ _=>False) s)
  (n:Nat) (h:I n s) :
  codeAny (model prog w) A (.compLoop (.ListComp ES [⟨target,iter,Di,0⟩] scope pos) 0 it uK env) R s:=by
 have no:∀{P:Value->Shared->Prop} (x:Value) (s':Shared),False->P x s':=fun _ _ f=>f.elim;refine codeAny_loop rfl I (fun n s hI=>?_) n h;show wpAny _ A ((compTurn (.ListComp ES [⟨target,iter,Di,0⟩] scope pos) 0 it uK env).onRaise (fun x=>do noteFrame x env;theTreesLotGoes x)) _ _ s;refine wpAny_noted ?_;rw[compTurn_list];refine wpAny_bind (wpAny_standAt (wpAny_bind (wpAny_mono (turn n s hI) (fun r s₁ h₁=>?_) no)));cases r with
 |none=>exact wpAny_pure h₁
 |some v=>
  refine wpAny_bind (wpAny_mono h₁ (fun _ s₁' h₁'=>?_) no);refine wpAny_bind (wpAny_mono h₁' (fun _ s₂ h₂=>wpAny_bind (wpAny_mono h₂ (fun ok s₃ h₃=>?_) no)) no);cases ok with
  |false=>exact wpAny_pure ⟨rfl,h₃⟩
  |true=>exact wpAny_bind (wpAny_bind (wpAny_mono h₃ (fun x s₄ h₄=>wpAny_bind (wpAny_mono h₄ (fun _ s₅ h₅=>wpAny_pure (wpAny_pure ⟨rfl,h₅⟩)) no)) no))
theorem cL(env:Env):∀(names:List (Str×NameKind)) (x:Str) (k:NameKind),
  (names.map fun(n,k)=>if (k == NameKind.free&&env.scope.kind == .function&&env.kindOf n == some .cell) then (n,Im) else (n,k)).lookup x=some k ->
  ∃k0,names.lookup x=some k0/\(k=k0\/(k0=.free/\k=.cell))
 |[],x,k,h=>by simp at h
 |(n,k1)::r,x,k,h=>by
  have h:List.lookup x ((if (k1 == NameKind.free&&env.scope.kind == .function&&env.kindOf n == some .cell)=true then (n,Im) else (n,k1))::r.map fun(n,k)=>if (k == NameKind.free&&env.scope.kind == .function&&env.kindOf n == some .cell) then (n,Im) else (n,k))=some k:=h;cases hx:x == n with
  |true=>
   by_cases hc:(k1 == NameKind.free&&env.scope.kind == .function&&env.kindOf n == some .cell)=true
   ·rw[if_pos hc,Gj,hx]at h;injection h with h
    have hk:k1=.free:=by simp only[FH,beq_iff_eq]at hc;exact hc.1.1
    exact⟨k1,by rw[Gj,hx],.inr ⟨hk,h.symm⟩⟩
   ·rw[if_neg hc,Gj,hx]at h;injection h with h
    exact⟨k1,by rw[Gj,hx],.inl h.symm⟩
  |false=>
   by_cases hc:(k1 == NameKind.free&&env.scope.kind == .function&&env.kindOf n == some .cell)=true
   ·rw[if_pos hc,Gj,hx]at h;obtain⟨k0,e,z⟩:=cL env r x k h;exact⟨k0,by rw[Gj,hx];exact e,z⟩
   ·rw[if_neg hc,Gj,hx]at h;obtain⟨k0,e,z⟩:=cL env r x k h;exact⟨k0,by rw[Gj,hx];exact e,z⟩
structure dF(X:Cx)(nm:List Str)(scope:Scope):Prop where
 kind:scope.kind=.function
 cell:∀y∈scope.names,y.2≠.cell
 names:∀y∈scope.names,y.2=.local->scope.names.lookup y.1=some .local
 free:∀y∈scope.names,y.2=.free->X.env.kindOf y.1=some .cell\/X.env.kindOf y.1=some .free
 apart:∀x∈nm,scope.names.lookup x≠some .local
 len:nm.length=X.N.length
 mask:∀(i:Nat) (x:Str),nm[i]?=some x->X.N[i]?=some x\/scope.names.lookup x=none
section
variable{X:Cx}{nm:List Str}{ES tg iter:Expr}{Di:List Expr}{scope:Scope}{pos:Pos}{own:List Str}{wi:TI}{g:TG}{tt:TT}{te:TE}
theorem kR{ez:List (Addr×Obj)}{s2:Shared}{σ:L2.St}{H2:Hp}{cl:List (Str×Addr)}{it:Addr}{fp:List Addr}{tn:Nat->Heap->Prop}{J:It}{Q:VK}{E:Value->Shared->Prop}{RR:Value->Addr->Result->Shared->Prop}
  (hc:X.calm=true) (S:dF X nm scope) (jv:∀x c,cl.lookup x=some c->X.env.cells.lookup x=some c) (rK:∀y∈scope.names,y.2=.free->∃c,cl.lookup y.1=some c)
  (hg:∀cl C s H fp,PG (bh X nm scope own cl C s H fp) tg g) (ht:∀cl C s H fp,PTs (bh X nm scope own cl C s H fp) Di tt) (he:∀cl C s H fp,PE (bh X nm scope own cl C s H fp) ES te)
  (I2:Inv X ez σ H2 s2) (T:Turn X.prog X.w X.K tg J fp it tn) (st2:tn 0 s2.heap) (f2:∀b∈fp,mU X ez H2 b)
  (hR:∀ D,H2 D=none→∃ W:Nat→Nat→L2.St→Hp→Prop,
   (∃m,W 0 m (σ++eg own.length none) (upd H2 D (.lst [])))/\∀i m σ' H',W i m σ' H' ->
    (J.stop i H'∧Q (.ref D) H')∨(J.go i H'∧∀ x H2,J.yld i H' x H2→g x σ' H2 fun σ2 H3=>tt σ2 H3 fun b H4=>if b=true
     then te σ2 H4 fun y H5=>∃uK,H5 D=some (.lst uK)/\uK.length<sizeLine/\∃m',m'<m/\W (i+1) m' σ2 (upd H5 D (.lst (uK++[y])))
     else ∃m',m'<m/\W (i+1) m' σ2 H4))
  (Ey:∀D C H6 s6,Inv X ez σ H6 s6->H6 C=none->C≠X.env.locals->X.s₀.heap.objs.size<=C->(∀x c,X.env.cells.lookup x=some c->c≠C)->(∀p∈X.pn++ez,p.1≠C)->(∃m,s6.heap.Ns C m)->Q (.ref D) H6->RR (.ref D) C (.ok .next) s6) :
  wpAny (model X.prog X.w) X.A (newList []) (fun uK s₃=>wpAny (model X.prog X.w) X.A (newFunctionEnv scope X.env.globals cl [] X.env.qual none .none (some X.env)) (fun cenv s₄=>codeAny (model X.prog X.w) X.A (.compStart (.ListComp ES [⟨tg,iter,Di,0⟩] scope pos) 0 (.ref it) uK { cenv with scope:=relabel scope X.env }) (RR uK cenv.locals) s₄) E s₃) E s2:=by
 have no:∀{P:Value->Shared->Prop} (x:Value) (s':Shared),False->P x s':=fun _ _ f=>f.elim;refine wpAny_newObj_type (wpAny_newFunctionEnv S.cell (by intro y hy;simp at hy) (fun h₁ hns₁ hsb₁=>?_) S.kind);dsimp only at hns₁ hsb₁ ⊢;have I3:Inv X ez σ (upd H2 s2.heap.objs.size (.lst [])) { s2 with heap:=s2.heap.push { cls:=.type "list",dict:=none,data:=.seq ([]:List Value).toArray } }:=I2.z9 (t':=s2.toks) (ys:=[]) (its:=[]) .nil (Gb _)
 generalize hG2:s2.heap.push { cls:=.type "list",dict:=none,data:=.seq ([]:List Value).toArray }=G2 at hns₁ hsb₁ I3 ⊢
 have hC:G2.objs.size=s2.heap.objs.size+1:=by rw[<- hG2,Heap.size_push]
 have up2:∀b o,s2.heap.get? b=some o->G2.get? b=some o:=fun b o e=>hG2▸FY _ e;have up3:∀b o,G2.get? b=some o->h₁.get? b=some o:=fun b o e=>hsb₁.extBut b o (Gm (FA e)) (FY _ e);have Ez:G2.get? G2.objs.size=none:=Heap.get?_none_of_le (Ft _);have fpo:∀b∈fp,∃o,s2.heap.get? b=some o:=fun b hb=>by obtain⟨o,e,_⟩:=T.obj 0 _ st2 b hb;exact⟨o,e⟩
 have fpC:∀b∈fp,b≠G2.objs.size:=fun b hb=>by obtain⟨o,e⟩:=fpo b hb;exact Gm (FA (up2 b o e))
 have H3C:(upd H2 s2.heap.objs.size (.lst [])) G2.objs.size=none:=I3.hok.fresh (Ft _);have fpD:∀b∈fp,b≠s2.heap.objs.size:=fun b hb=>by obtain⟨o,e⟩:=fpo b hb;exact Gm (FA e)
 have Cw:∀b∈fp,b∉frs X.stack:=fun b hb z=>by
  rcases F9.mp (I3.jj b z) with y | y
  ·exact(f2 b hb).2.1 y
  ·exact(f2 b hb).2.2.1 y
 have ok':(bh X nm scope own cl G2.objs.size { s2 with heap:=G2 } (upd H2 s2.heap.objs.size (.lst [])) fp).Ok:=by
  refine ⟨I3.ok.mod,S.kind,I3.ok.glob,I3.ok.blt,Ft _,fun x y c e1 e2=>I3.ok.inj x y c (jv x c e1) (jv y c e2),fun x hx=>?_,fun x c z=>(nomatch z),I3.ok.hd,I3.ok.frames,.inl rfl,
   fun b hb=>⟨fpC b hb,fun x c e=>(f2 b hb).2.2.2.2.1 x c (jv x c e)⟩,fun b o e=>I3.bs b o e,FQ I3.ok.bsz I3.sz,fun b o e hb=>?_,fun b hb=>Cw b hb,I3.stack,I3.lH⟩
  ·have hx:(relabel scope X.env).names.lookup x=some .cell\/(relabel scope X.env).names.lookup x=some .free:=hx;have key:∀k,(relabel scope X.env).names.lookup x=some k->k≠.local->k=.cell\/k=.free->∃c,cl.lookup x=some c:=fun k hk _ hkk=>by
    obtain⟨k0,e0,z⟩:=cL X.env scope.names x k hk;have m0:=PySem.mem_of_lookup e0;have f0:k0=.free:=by
     rcases z with z | z
     ·subst z;rcases hkk with q | q
      ·exact absurd q (S.cell _ m0)
      ·exact q
     ·exact z.1
    exact rK (x,k0) m0 f0
   rcases hx with hx | hx
   ·exact key _ hx (by decide) (.inl rfl)
   ·exact key _ hx (by decide) (.inr rfl)
  ·rcases (f2 b hb).2.2.2.1 with z | z
   ·exact I3.ok.sD b o e z
   ·exact absurd (FJ (FA e) (FQ I3.ok.bsz z)) (GW _)
 have stat:∀{H':Hp},(∀b∈fp,H' b=none)->∀b∈fp,mU (bh X nm scope own cl G2.objs.size { s2 with heap:=G2 } (upd H2 s2.heap.objs.size (.lst [])) fp) [] H' b:=fun hn b hb=>⟨hn b hb,fpC b hb,Cw b hb,.inl hb,fun x c e=>(f2 b hb).2.2.2.2.1 x c (jv x c e),fun p hp=>(nomatch (show p∈([]:List (Addr×Obj)) from hp))⟩
 have I4:Inv (bh X nm scope own cl G2.objs.size { s2 with heap:=G2 } (upd H2 s2.heap.objs.size (.lst [])) fp) [] (σ++eg own.length none) (upd H2 s2.heap.objs.size (.lst [])) { s2 with heap:=h₁,toks:=s2.toks+([]:List (Str×Value)).length }:=by
  refine⟨ok',rfl,I3.bare,Un.kept up3,⟨_,hns₁,fun i x v e1 e2 e3=>?_⟩,fun x c e=>?_,H3C,fun x c e=>I3.cN x c (jv x c e),fun p hp=>(nomatch (show p∈([]:List (Addr×Obj)) from hp)),I3.hok.kept up3,?_⟩
  ·have e1:(nm++own)[i]?=some x:=e1;have hi:i<σ.length:=by
    by_cases hi:i<σ.length
    ·exact hi
    ·rw[F7 (HB.mp hi),Gd]at e2;split at e2<;>cases e2
   rw[Fp hi]at e2;rw[Fp (by rw[S.len,<- I3.len];exact hi)]at e1;have key:∀k,(relabel scope X.env).names.lookup x=some k->k=.local\/k=.cell\/k=.free->scope.names.lookup x=some .free/\(k=.cell\/k=.free):=fun k hk hkk=>by
    obtain⟨k0,e0,z⟩:=cL X.env scope.names x k hk;have m0:=PySem.mem_of_lookup e0;have n1:k0≠.local:=fun y=>S.apart x (Hz e1) (y▸e0);have n2:k0≠.cell:=S.cell _ m0;rcases z with z | z
    ·subst z;rcases hkk with q | q | q
     ·exact absurd q n1
     ·exact absurd q n2
     ·subst q;exact⟨e0,.inr rfl⟩
    ·obtain⟨z1,z2⟩:=z;subst z1;subst z2;exact⟨e0,.inl rfl⟩
   have hk:∃k,(relabel scope X.env).names.lookup x=some k/\(k=.cell\/k=.free)/\scope.names.lookup x=some .free:=by
    rcases (show (relabel scope X.env).names.lookup x=some .local\/(relabel scope X.env).names.lookup x=some .cell\/(relabel scope X.env).names.lookup x=some .free from e3) with q | q | q
    ·obtain⟨a,b⟩:=key _ q (.inl rfl);exact⟨_,q,b,a⟩
    ·obtain⟨a,b⟩:=key _ q (.inr (.inl rfl));exact⟨_,q,b,a⟩
    ·obtain⟨a,b⟩:=key _ q (.inr (.inr rfl));exact⟨_,q,b,a⟩
   obtain⟨k,hk1,hk2,hk3⟩:=hk;have m0:=PySem.mem_of_lookup hk3;obtain⟨c,hcc⟩:=rK (x,.free) m0 rfl;obtain⟨m,hn,hl⟩:=I3.loc;have hout:=S.free (x,.free) m0 rfl;have EA:Vis X.env.scope x:=by
    rcases hout with q | q
    ·exact .inr (.inl q)
    ·exact .inr (.inr q)
   have e1':X.N[i]?=some x:=by
    rcases S.mask i x e1 with z | z
    ·exact z
    ·rw[z]at hk3;cases hk3
   obtain⟨u,ru,lk⟩:=hl i x v e1' e2 EA;refine⟨u,ru,.inr ⟨?_,c,hcc,?_⟩⟩
   ·rcases hk2 with q | q
    ·subst q;exact .inl hk1
    ·subst q;exact .inr hk1
   ·rcases lk with⟨q,_⟩ | ⟨_,c',e',z⟩
    ·rcases hout with y | y
     ·rw[q]at y;cases y
     ·rw[q]at y;cases y
    ·rw[jv x c hcc]at e';cases e';obtain⟨o,ho,hd⟩:=z;exact⟨o,up3 c o ho,hd⟩
  ·obtain⟨v,o,ho,hd⟩:=I3.cell x c (jv x c e);exact⟨v,o,up3 c o ho,hd⟩
  ·show (σ++eg own.length none).length=(nm++own).length;rw[Fl,Fl,G1,I3.len,S.len]
 obtain⟨W,⟨m0,w0⟩,turn⟩:=hR s2.heap.objs.size I2.fresh;have st4:tn 0 h₁:=T.keep 0 _ _ st2 fun b hb o e=>up3 b o (up2 b o e);have EB:∀b∈fp,(upd H2 s2.heap.objs.size (.lst [])) b=none:=fun b hb=>by rw[ay (fpD b hb)];exact(f2 b hb).1
 have loop:∀s₃:Shared,s₃={ s2 with heap:=h₁,toks:=s2.toks+([]:List (Str×Value)).length } ->
   codeAny (model X.prog X.w) X.A (.compLoop (.ListComp ES [⟨tg,iter,Di,0⟩] scope pos) 0 (.ref it) (.ref s2.heap.objs.size) (compEnvC scope cl G2.objs.size X.env))
    (RR (.ref s2.heap.objs.size) G2.objs.size) s₃:=by
  rintro s₃ rfl;refine lV (fun n s'=>∃i σ' H',Inv (bh X nm scope own cl G2.objs.size { s2 with heap:=G2 } (upd H2 s2.heap.objs.size (.lst [])) fp) [] σ' H' s'/\tn i s'.heap/\(∀b∈fp,H' b=none)/\W i n σ' H') ?_ m0
   ⟨0,_,_,I4,st4,EB,w0⟩
  rintro n s5 ⟨i,σ5,H5,I5,st5,fr5,w5⟩;rcases turn i n σ5 H5 w5 with⟨stop,q⟩ | ⟨go,step⟩
  ·refine wpAny_mono (T.done (bh X nm scope own cl G2.objs.size { s2 with heap:=G2 } (upd H2 s2.heap.objs.size (.lst [])) fp) rfl rfl rfl hc i [] s5 σ5 H5 (fun _ _=>False) I5 (stat fr5) st5 stop) (fun r s6 hr6=>?_) no;obtain⟨hr,I6⟩:=hr6;subst hr;have I7:Inv X ez σ H5 s6:=I3.BL (ch:=fp) I6.os I6.base I6.hok I6.bare fun b hb=>⟨(f2 b hb).2.2.2.1,(f2 b hb).2.1,(f2 b hb).2.2.2.2.1,(f2 b hb).2.2.2.2.2⟩;refine Ey _ _ H5 s6 I7 I6.free (Nat.ne_of_gt (show X.env.locals<G2.objs.size from I3.lt)) I3.sz (fun x c e=>?_) (fun p hp=>?_) (let ⟨m,hn,_⟩:=I6.loc;⟨m,hn⟩) q
   ·obtain⟨v,z⟩:=I3.cell x c e;exact Gm z.lt
   ·exact Gm (FA (I3.pin p hp).1)
  ·refine wpAny_mono (T.item (bh X nm scope own cl G2.objs.size { s2 with heap:=G2 } (upd H2 s2.heap.objs.size (.lst [])) fp) rfl rfl rfl hc i [] s5 σ5 H5 (fun _ _=>False) I5 (stat fr5) st5 go) (fun r s6 hr6=>?_) no;obtain⟨u,hr,h6⟩:=hr6;subst hr;refine wpAny_mono h6 (fun _ s7 h7=>?_) no;obtain⟨x,H7,I7,r7,y7,st7,fr7⟩:=h7;have I7':=I7.pinned (stat fr7) (T.obj _ _ st7);have again:∀{s9:Shared} {σ9:L2.St} {H9:Hp} {m':Nat},m'<n->Inv (bh X nm scope own cl G2.objs.size { s2 with heap:=G2 } (upd H2 s2.heap.objs.size (.lst [])) fp) ([]++jn fp s7.heap) σ9 H9 s9->W (i+1) m' σ9 H9 ->
     ∃m,m<n/\∃i σ' H',Inv (bh X nm scope own cl G2.objs.size { s2 with heap:=G2 } (upd H2 s2.heap.objs.size (.lst [])) fp) [] σ' H' s9/\tn i s9.heap/\(∀b∈fp,H' b=none)/\W i m σ' H':=fun {s9 σ9 H9 m'} hm I9 w9=>by
    refine⟨m',hm,i+1,σ9,H9,I9.gK,T.keep _ _ _ st7 fun b hb o e=>(I9.pin (b,o) (Gh _ (Gh _ (dW hb e)))).1,fun b hb=>?_,w9⟩;obtain⟨o,e,d⟩:=T.obj _ _ st7 b hb;exact(I9.pin (b,o) (Gh _ (Gh _ (dW hb e)))).2.1
   refine wpAny_mono (hg cl G2.objs.size _ _ fp _ s7 σ5 H7 x u _ I7' r7 (step x H7 y7)) (fun _ s8 h8=>?_) no;obtain⟨σ8,H8,I8,q8⟩:=h8;refine wpAny_mono (ht cl G2.objs.size _ _ fp _ s8 σ8 H8 _ I8 q8) (fun b s9 h9=>?_) no;obtain⟨H9,I9,q9⟩:=h9;cases b with
   |false=>rw[if_neg Ge]at q9 ⊢;obtain⟨m',hm,w9⟩:=q9;exact again hm I9 w9
   |true=>rw[if_pos rfl]at q9 ⊢;refine wpAny_mono (he cl G2.objs.size _ _ fp _ s9 σ8 H9 _ I9 q9) (fun y s10 h10=>?_) no;obtain⟨yv,H10,I10,r10,uK,hacc,zc,m',hm,w10⟩:=h10;refine wpAny_mono (kM (X:=bh X nm scope own cl G2.objs.size { s2 with heap:=G2 } (upd H2 s2.heap.objs.size (.lst [])) fp) _ s10 σ8 H10 (.ref s2.heap.objs.size) [yv] (.ref s2.heap.objs.size) [y] (fun _ H'=>H'=upd H10 s2.heap.objs.size (.lst (uK++[yv]))) I10 rfl (.cons r10 .nil) ⟨_,uK,yv,rfl,rfl,hacc,zc,rfl⟩) (fun _ s11 h11=>?_) no;obtain⟨_,H11,I11,_,e11⟩:=h11;subst e11;exact again hm I11 w10
 exact codeAny_compStart_list (loop _ rfl) (T.self _ 0 _ _ _ st4 (loop _ rfl))
theorem qo(hc:X.calm=true)(S:dF X nm scope)(hi:PI X tg iter wi)
  (hg:∀cl C s H fp,PG (bh X nm scope own cl C s H fp) tg g) (ht:∀cl C s H fp,PTs (bh X nm scope own cl C s H fp) Di tt) (he:∀cl C s H fp,PE (bh X nm scope own cl C s H fp) ES te)
  (hs:∀x,foldedSetIterable iter X.env x=pure x:=by intro _;rfl):PE X (.ListComp ES [⟨tg,iter,Di,0⟩] scope pos) (tLC wi own.length g tt te):=by
 intro ez s σ H Q I h;obtain⟨cl,hclos,jv,rK⟩:=ju (env:=X.env) (scope:=scope) fun y hy hf=>I.ok.has y.1 (S.free y hy hf);rw[eval_ListComp];refine wpAny_comprehension_free (use:=none) rfl hs hclos S.kind S.names (thn (hi ez s σ H _ I h) fun v s1 h1=>thn h1 fun itv s2 h2=>?_);obtain⟨it,fp,tn,J,H2,e,I2,T,st2,f2,hR⟩:=h2;subst e;refine kR (Q:=Q) (RR:=fun uK C=>compPost (model X.prog X.w) X.A X.xe none (EP X ez σ Q) uK C) hc S jv rK hg ht he I2 T st2 f2 hR ?_;intro D C H6 s6 I6 hCn hCL hCs hCc hCp hns q;obtain⟨m,hn⟩:=hns;refine⟨m,hn,fun h' hs'=>⟨.ref D,H6,I6.turned (t':=s6.toks) (fun b o hb e=>(hs'.2 b hb).trans e) hCn hCL (.inr hCs) hCc hCp,rfl,q⟩⟩
theorem nq{i:Nat}{y:Str}{py Kl:Pos}(hN:X.N.Nodup)(hi':X.N[i]?=some y)(hy:Loc X.env.scope y)(hc:X.calm=true)(S:dF X nm scope)(hi:PI X tg iter wi)
  (hg:∀cl C s H fp,PG (bh X nm scope own cl C s H fp) tg g) (ht:∀cl C s H fp,PTs (bh X nm scope own cl C s H fp) Di tt) (he:∀cl C s H fp,PE (bh X nm scope own cl C s H fp) ES te)
  (hsw:swapsWith (.ListComp ES [⟨tg,iter,Di,0⟩] scope pos) (some (.Name y py)) Kl.line X.env=pure true:=by rfl)
  (hs:∀x,foldedSetIterable iter X.env x=pure x:=by intro _;rfl) (hf:X.fn y=true\/X.env.scope.names.lookup y=some .local:=by trivial) :
  PS X (.Assign [.Name y py] (.ListComp ES [⟨tg,iter,Di,0⟩] scope pos) Kl) (sI (tLC wi own.length g tt te) (jm i)):=by
 intro ez s σ H Dn I h;obtain⟨cl,hclos,jv,rK⟩:=ju (env:=X.env) (scope:=scope) fun y hy hf=>I.ok.has y.1 (S.free y hy hf);rw[exec_Assign_Name_used _ _ _ _ hsw];refine wpAny_bind (wpAny_standAt (wpAny_bind ?_));show wpAny _ X.A (do let _ <- comprehension (.ListComp ES [⟨tg,iter,Di,0⟩] scope pos) scope X.env _ (newList []) false (eval iter X.env) (some (assign (.Name y py) X.env))) _ _ s;refine wpAny_bind (wpAny_mono (wpAny_comprehension_free (use:=some (assign (.Name y py) X.env)) (Q:=fun _ s'=>SP X ez Dn .next s') rfl hs hclos S.kind S.names
  (thn (hi ez s σ H _ I h) fun v s1 h1=>thn h1 fun itv s2 h2=>?_)) (fun _ s' hq=>wpAny_pure (wpAny_pure hq)) fun _ _ e=>e)
 obtain⟨it,fp,tn,J,H2,e,I2,T,st2,f2,hR⟩:=h2;subst e;refine kR (Q:=fun x H1=>jm i x σ H1 Dn.nx) (RR:=fun uK C=>compPost (model X.prog X.w) X.A X.xe (some (assign (.Name y py) X.env)) (fun _ s'=>SP X ez Dn .next s') uK C) hc S jv rK hg ht he I2 T st2 f2 hR ?_;intro D C H6 s6 I6 hCn hCL hCs hCc hCp hns q;obtain⟨m,hn⟩:=hns;show wpAny _ X.A (assign (.Name y py) X.env (.ref D)) _ _ _;refine wpAny_assign_Name (ig I6 hN hi' hy (v:=.ref D) rfl (fun s7 I7 h7=>?_) hf);obtain⟨a,sb,ha⟩:=h7;have hCa:C≠a:=by
  rcases ha with ha | ha
  ·rw[ha];exact hCL
  ·exact Gx (hCc y a ha)
 refine⟨m,hn.sameBut sb hCa,fun h' hs'=>⟨_,H6,I7.turned (t':=s7.toks) (fun b o hb e=>(hs'.2 b hb).trans e) hCn hCL (.inr hCs) hCc hCp,q⟩⟩
end
mutual
noncomputable def toPy:Dat->PyData
 |.non=>.none
 |.bl b=>.bool b
 |.int i=>.int i
 |.str s=>.str ⟨s.toArray⟩
 |.tup xs=>.tuple (cD xs)
 |.lst xs=>.list (cD xs)
 |.dct _ _=>.dict []
 |.dcp _ _=>.dict []
 |.exc _=>.dict []
 |.cg _ _=>.dict []
 |.fn _=>.dict []
noncomputable def cD:List Dat->List PyData
 |[]=>[]
 |x::xs=>toPy x::cD xs
end
mutual
theorem gQ:∀a b:Dat,Gw (toPy a) (toPy b)=Dm.eqD a b
 |.non,b=>by cases b<;>simp[toPy,Gw,Dm.eqD]
 |.bl x,b=>by cases b<;>simp[toPy,Gw,Dm.eqD,Dm.b2i]
 |.int x,b=>by cases b<;>simp[toPy,Gw,Dm.eqD,Dm.b2i]
 |.str x,b=>by
  cases b with
  |str y=>
   simp only[toPy,Gw,Dm.eqD];rw[G8];simp only[beq_iff_eq];constructor
   ·intro h;have h:=congrArg (fun s:Str=>s.cps.toList) h
    simpa using h
   ·rintro rfl;rfl
  |_=>simp[toPy,Gw,Dm.eqD]
 |.tup xs,b=>by
  cases b with
  |tup ys=>simp only[toPy,Gw,Dm.eqD];exact iw xs ys
  |_=>simp[toPy,Gw,Dm.eqD]
 |.lst xs,b=>by
  cases b with
  |lst ys=>simp only[toPy,Gw,Dm.eqD];exact iw xs ys
  |_=>simp[toPy,Gw,Dm.eqD]
 |.dct ks vs,b=>by cases b<;>simp[toPy,Gw,Dm.eqD]
 |.dcp ks vs,b=>by cases b<;>simp[toPy,Gw,Dm.eqD]
 |.exc C,b=>by cases b<;>simp[toPy,Gw,Dm.eqD]
 |.cg C v,b=>by cases b<;>simp[toPy,Gw,Dm.eqD]
 |.fn C,b=>by cases b<;>simp[toPy,Gw,Dm.eqD]
theorem iw:∀a b:List Dat,HS (cD a) (cD b)=Dm.lR a b
 |[],b=>by cases b<;>simp[cD,HS,Dm.lR]
 |x::xs,b=>by
  cases b with
  |nil=>simp[cD,HS,Dm.lR]
  |cons y ys=>simp only[cD,HS,Dm.lR];rw[gQ x y,iw xs ys]
end
theorem tN{s:List Nat}(h:(s.all fun c=>decide (c<128))=true):PyData.strOk ⟨s.toArray⟩=true:=by unfold PyData.strOk;rw[Array.all_eq_true'];intro c hc;have h1:=FF.mp h c (by simpa using hc);have h2:c<128:=of_decide_eq_true h1;exact decide_eq_true (by lia)
theorem cX{P:Program}{w:World}{H:Hp}{h:Heap}(ok:HOk P w H h):∀(n:Nat),
  (∀(v:V) (d:Dat) (u:Value),Rep H v d->RelV v u->Dm.okD n d=true->∃as,Reads h u (toPy d) as/\(toPy d).canLay0=true/\(toPy d).depth<=n) /\
  (∀(vs:List V) (ds:List Dat) (us:List Value),aK H vs ds->Vals vs us->ds.all (Dm.okD n)=true->∃as,ReadsAll h us (cD ds) as/\HX (cD ds)=true/\GI (cD ds)<=n):=by
 intro n
 induction n with
 |zero=>
  have one:∀(v:V) (d:Dat) (u:Value),Rep H v d->RelV v u->Dm.okD 0 d=true->∃as,Reads h u (toPy d) as/\(toPy d).canLay0=true/\(toPy d).depth<=0:=by
   intro v d u r rv k;cases r with
   |non=>cases rv;exact⟨_,.none,rfl,Ft _⟩
   |bl b=>cases rv;exact⟨_,.bool b,rfl,Ft _⟩
   |int i=>obtain⟨t,rfl⟩:=rv;exact⟨_,.int i t,rfl,Ft _⟩
   |str s=>obtain⟨t,rfl⟩:=rv;exact⟨_,.str _ t,tN k,Ft _⟩
   |tup _ _=>cases k
   |lst _ _=>cases k
   |dct _ _ _=>cases k
   |dcp _ _ _=>cases k
   |exc _=>cases k
   |cg _ _=>cases k
   |fn _=>cases k
  refine⟨one,fun vs ds=>?_⟩
  induction ds generalizing vs with
  |nil=>intro us r rv _;cases r;cases rv;exact⟨_,.nil,rfl,Ft _⟩
  |cons d ds ih=>
   intro us r rv k;cases r with
   |cons r rs=>
    cases rv with
    |cons q qs=>rw[GQ,FH]at k;obtain⟨a1,h1,h2,h3⟩:=one _ _ _ r q k.1;obtain⟨a2,h4,h5,h6⟩:=ih _ _ rs qs k.2;exact⟨_,.cons h1 h4,by simp[cD,HX,h2,h5],by simp only[cD,GI];lia⟩
 |succ n ih=>
  have one:∀(v:V) (d:Dat) (u:Value),Rep H v d->RelV v u->Dm.okD (n+1) d=true->∃as,Reads h u (toPy d) as/\(toPy d).canLay0=true/\(toPy d).depth<=n+1:=by
   intro v d u r rv k;cases r with
   |non=>cases rv;exact⟨_,.none,rfl,Gb _⟩
   |bl b=>cases rv;exact⟨_,.bool b,rfl,Gb _⟩
   |int i=>obtain⟨t,rfl⟩:=rv;exact⟨_,.int i t,rfl,Gb _⟩
   |str s=>obtain⟨t,rfl⟩:=rv;exact⟨_,.str _ t,tN k,Gb _⟩
   |tup q rs=>cases rv;obtain⟨z,its,vr,ob,e,hc,m,hd⟩:=ok _ _ q;obtain⟨as,h1,h2,h3⟩:=ih.2 _ _ _ rs vr k;exact⟨_,.tuple e hc hd h1,h2,by simp only[toPy,PyData.depth];lia⟩
   |lst q rs=>cases rv;obtain⟨z,its,m,vr,e⟩:=q.ok ok;obtain⟨as,h1,h2,h3⟩:=ih.2 _ _ _ rs vr k;exact⟨_,.list e rfl rfl h1,h2,by simp only[toPy,PyData.depth];lia⟩
   |dct _ _ _=>cases k
   |dcp _ _ _=>cases k
   |exc _=>cases k
   |cg _ _=>cases k
   |fn _=>cases k
  refine⟨one,fun vs ds=>?_⟩
  induction ds generalizing vs with
  |nil=>intro us r rv _;cases r;cases rv;exact⟨_,.nil,rfl,Gb _⟩
  |cons d ds ih=>
   intro us r rv k;cases r with
   |cons r rs=>
    cases rv with
    |cons q qs=>rw[GQ,FH]at k;obtain⟨a1,h1,h2,h3⟩:=one _ _ _ r q k.1;obtain⟨a2,h4,h5,h6⟩:=ih _ _ rs qs k.2;exact⟨_,.cons h1 h4,by simp[cD,HX,h2,h5],by simp only[cD,GI];lia⟩
theorem iX.full{H0 H:Hp}(s:aC H0 H){v:V}{d:Dat}(r:iX H0 H v d):Rep H v d:=by
 rcases r with r | ⟨a,rfl,w⟩
 ·exact r.mono s
 ·cases d with
  |lst ds=>obtain⟨xs,q,rs⟩:=w;exact .lst (.inl q) (rs.mono s)
  |dct ks ds=>obtain⟨kvs,q,e,rs⟩:=w;exact .dct q e (rs.mono s)
  |dcp ks ds=>obtain⟨kvs,q,e,rs⟩:=w;exact .dcp q (e.mono s) (rs.mono s)
  |_=>exact FG w
def wM(neg:Bool):R2:=fun x y H Q=>∃dx dy,Rep H x dx/\Rep H y dy/\Dm.okD 8 dx=true/\Dm.okD 8 dy=true/\Q (.bl (if neg then !Dm.eqD dx dy else Dm.eqD dx dy)) H
section
variable{X:Cx}
theorem Ai{k:Nat}(hr:b_ k X.A):OpR X (compareOp .Eq) (wM false):=by intro ez s σ H x y v u Q I rx ry h;obtain⟨dx,dy,r1,r2,k1,k2,q⟩:=h;obtain⟨as,h1,h2,h3⟩:=(cX I.hok 8).1 x dx v r1 rx k1;obtain⟨bs,h4,h5,h6⟩:=(cX I.hok 8).1 y dy u r2 ry k2;have hu:=hr.units;refine PySem.SeqAt.compareEq_reads h1 h4 h2 h5 (by lia) ?_;rw[gQ];exact⟨.bl (Dm.eqD dx dy),H,I,rfl,q⟩
theorem Aj{k:Nat}(hr:b_ k X.A):OpR X (compareOp .NotEq) (wM true):=by intro ez s σ H x y v u Q I rx ry h;obtain⟨dx,dy,r1,r2,k1,k2,q⟩:=h;obtain⟨as,h1,h2,h3⟩:=(cX I.hok 8).1 x dx v r1 rx k1;obtain⟨bs,h4,h5,h6⟩:=(cX I.hok 8).1 y dy u r2 ry k2;have hu:=hr.units;refine PySem.SeqAt.compareNe_reads h1 h4 h2 h5 (by lia) ?_;rw[gQ];exact⟨.bl (!Dm.eqD dx dy),H,I,rfl,q⟩
def Cy(neg:Bool):R2:=fun x y H Q=>∃dx ds,Rep H x dx/\(Rep H y (.lst ds)\/Rep H y (.tup ds))/\Dm.okD 8 dx=true/\ds.all (Dm.okD 7)=true/\Q (.bl (if neg then !Dm.inD dx ds else Dm.inD dx ds)) H
theorem jx(x:Dat):∀ds:List Dat,((cD ds).any fun y=>Gw y (toPy x))=Dm.inD x ds
 |[]=>rfl
 |d::ds=>by have:=jx x ds;unfold Dm.inD at this ⊢;simp only[cD,List.any_cons,gQ];rw[this]
theorem Ak{k:Nat}(hr:b_ k X.A):OpR X (compareOp .In) (Cy false):=by
 intro ez s σ H x y v u Q I rx ry h;obtain⟨dx,ds,r1,r2,k1,k2,q⟩:=h;obtain⟨as,h1,h2,h3⟩:=(cX I.hok 8).1 x dx v r1 rx k1;have hu:=hr.units;rcases r2 with r2 | r2
 ·obtain⟨bs,h4,h5,h6⟩:=(cX I.hok 8).1 y (.lst ds) u r2 ry k2;have h6:GI (cD ds)+1<=8:=h6;refine PySem.SeqAt.in_list_reads h4 h1 h5 h2 (by lia) ?_;rw[jx];exact⟨.bl (Dm.inD dx ds),H,I,rfl,q⟩
 ·obtain⟨bs,h4,h5,h6⟩:=(cX I.hok 8).1 y (.tup ds) u r2 ry k2;have h6:GI (cD ds)+1<=8:=h6;refine PySem.SeqAt.in_tuple_reads h4 h1 h5 h2 (by lia) ?_;rw[jx];exact⟨.bl (Dm.inD dx ds),H,I,rfl,q⟩
end
section
variable{ds:List Dat}{H0 H:Hp}{v:V}
theorem ak{i:Int}(r:iX H0 H v (.int i)):v=.int i:=by
 rcases r with r | ⟨a,_,w⟩
 ·exact Rep.isInt r
 ·exact FG w
theorem cE(s:aC H0 H)(r:iX H0 H v (.lst ds)):∃a xs,v=.ref a/\Rd H a (.lst xs)/\aK H0 xs ds:=by
 rcases r with r | ⟨a,e,xs,q,rs⟩
 ·cases r with
  |lst q rs=>exact⟨_,_,rfl,aC.rd s q,rs⟩
 ·exact⟨a,xs,e,.inl q,rs⟩
theorem nt(s:aC H0 H)(r:iX H0 H v (.tup ds)):∃a xs,v=.ref a/\H a=some (.tup xs)/\aK H0 xs ds:=by
 rcases r with r | ⟨a,_,w⟩
 ·cases r with
  |tup q rs=>exact⟨_,_,rfl,s _ _ q,rs⟩
 ·exact FG w
theorem Al:OpD (rI0 fun i j=>.int (i-j)) Dm.cj:=by
 intro H0 H x y dx dy z Q s rx ry e k;unfold Dm.cj at e;split at e
 ·cases e;cases ak rx;cases ak ry;exact⟨_,_,rfl,rfl,k _ H0 H (aE.refl s) (.int _)⟩
 ·cases e
theorem yR:OpD (rI0 fun i j=>.bl (decide (i<j))) Dm.gLt:=by
 intro H0 H x y dx dy z Q s rx ry e k;unfold Dm.gLt at e;split at e
 ·cases e;cases ak rx;cases ak ry;exact⟨_,_,rfl,rfl,k _ H0 H (aE.refl s) (.bl _)⟩
 ·cases e
theorem jy:OpD (rI0 fun i j=>.bl (decide (i<=j))) Dm.gLe:=by
 intro H0 H x y dx dy z Q s rx ry e k;unfold Dm.gLe at e;split at e
 ·cases e;cases ak rx;cases ak ry;exact⟨_,_,rfl,rfl,k _ H0 H (aE.refl s) (.bl _)⟩
 ·cases e
theorem Cz:OpD (rI0 fun i j=>.bl (decide (j<i))) Dm.gGt:=by
 intro H0 H x y dx dy z Q s rx ry e k;unfold Dm.gGt at e;split at e
 ·cases e;cases ak rx;cases ak ry;exact⟨_,_,rfl,rfl,k _ H0 H (aE.refl s) (.bl _)⟩
 ·cases e
theorem CA:OpD (rI0 fun i j=>.bl (decide (j<=i))) Dm.gGe:=by
 intro H0 H x y dx dy z Q s rx ry e k;unfold Dm.gGe at e;split at e
 ·cases e;cases ak rx;cases ak ry;exact⟨_,_,rfl,rfl,k _ H0 H (aE.refl s) (.bl _)⟩
 ·cases e
theorem Am:OpD (rI (fun _ j=>0<j) fun i j=>.int (i % j)) Dm.aJ:=by
 intro H0 H x y dx dy z Q s rx ry e k;unfold Dm.aJ at e;split at e
 ·split at e
  ·rename_i hj;cases e;cases ak rx;cases ak ry;exact⟨_,_,rfl,rfl,hj,k _ H0 H (aE.refl s) (.int _)⟩
  ·cases e
 ·cases e
theorem An:OpD (rI BX fun i j=>.int (i ^ j.toNat)) Dm.b4:=by
 intro H0 H x y dx dy z Q s rx ry e k;unfold Dm.b4 at e;split at e
 ·split at e
  ·rename_i hj;cases e;cases ak rx;cases ak ry;exact⟨_,_,rfl,rfl,⟨hj.1,hj.2.1,Nat.lt_trans hj.2.2 (by decide)⟩,k _ H0 H (aE.refl s) (.int _)⟩
  ·cases e
 ·cases e
end
section
variable{X:Cx}
def yS(i j:Int):Prop:=0<j/\j<Dm.dZ
theorem tO:OpR X (binaryOp .FloorDiv) (rI yS fun i j=>.int (i / j)):=opI fun i j _ _ _ _ _ hc q=>by
 have h:j.natAbs.log2<9000:=by
  have h1:j.natAbs<2 ^ 200:=by
   have:=hc.2;unfold Dm.dZ at this;have h2:=hc.1;have e:(2:Nat) ^ 200=1606938044258990275541962092341162602522202993782792835301376:=by decide +kernel
   omega
  have h3:j.natAbs≠0:=by have:=hc.1;omega
  have:=(Iu h3).mpr h1;omega
 have e:i.fdiv j=i / j:=Int.fdiv_eq_ediv_of_nonneg i (Int.le_of_lt hc.1);rw[<- e]at q;exact floordiv_int (Int.ne_of_gt hc.1) q (.inl (PyProof.noPylong_of_log2 h))
end
theorem Ao:OpD (rI yS fun i j=>.int (i / j)) Dm.bC:=by
 intro H0 H x y dx dy z Q s rx ry e k;unfold Dm.bC at e;split at e
 ·split at e
  ·rename_i hj;cases e;cases ak rx;cases ak ry;exact⟨_,_,rfl,rfl,hj,k _ H0 H (aE.refl s) (.int _)⟩
  ·cases e
 ·cases e
def tP:R2:=fun x y H Q=>∃l b xs zs,x=.ref l/\y=.ref b/\Rd H l (.lst xs)/\Rd H b (.lst zs)/\xs.length+zs.length<=sizeLine/\∀p,H p=none->Q (.ref p) (upd H p (.lst (xs++zs)))
def tQ:R2:=fun x y H Q=>∃l k xs,x=.ref l/\y=.int k/\Rd H l (.lst xs)/\-(2 ^ 63)<=k/\k<2 ^ 63/\xs.length*k.toNat<=sizeLine /\
 ∀p,H p=none->Q (.ref p) (upd H p (.lst (eg k.toNat xs).flatten))
section
variable{X:Cx}
theorem wN:OpR X (binaryOp .Add) tP:=by
 intro ez s σ H x y v u Q I rx ry h;obtain⟨l,b,xs,zs,rfl,rfl,hH,hB,hz,q⟩:=h;cases rx;cases ry;obtain⟨z,its,n,r,e⟩:=hH.ok I.hok;obtain⟨z2,its2,n2,r2,e2⟩:=hB.ok I.hok;have hl:=r.length;have hl2:=r2.length;refine PySem.P.add_list e e2 ?_ (by rw[Ga,Ga];lia);have ea:its.toArray++its2.toArray=(its++its2).toArray:=by simp
 rw[ea];exact⟨.ref _,_,I.z9 (t':=s.toks) (r.append r2) (by rw[Fl];lia),rfl,q _ I.fresh⟩
theorem wO:OpR X (binaryOp .Mult) tQ:=by
 intro ez s σ H x y v u Q I rx ry h;obtain⟨l,k,xs,rfl,rfl,hH,h1,h2,hz,q⟩:=h;cases rx;obtain⟨t,rfl⟩:=ry;obtain⟨z,its,n,r,e⟩:=hH.ok I.hok;have hl:=r.length;have zc:its.toArray.size*k.toNat<=sizeLine:=by rw[Ga,<- hl];exact hz
 have hcap:¬its.toArray.size*k.toNat>(2 ^ 63-1) / 8:=by
  have:(sizeLine:Nat)<=(2 ^ 63-1) / 8:=by decide
  lia
 have hfit:¬(!Builtin.List.listFitsIndex k)=true:=by rw[fitsIndex_both h1 h2];exact Ge
 have CB:¬Hl (its.toArray.size*k.toNat)=true:=by rw[tu zc];exact Ge
 have hnew:Iz (fun x1 x2=>x1++x2) #[] (eg (if its.toArray.isEmpty=true then 0 else k.toNat) its.toArray)=(eg k.toNat its).flatten.toArray:=by
  have f0:∀m:Nat,Iz (fun x1 x2=>x1++x2) #[] (eg m its.toArray)=(eg m its).flatten.toArray:=fun m=>by have:=foldl_rep its m [];rw[Fo]at this;exact this
  rw[f0];cases its with
  |nil=>simp
  |cons a r'=>rw[if_neg (by simp)]
 refine wpAny_binaryOp_repeat_ref (T := "list") (U := "int") (by decide) ⟨_,e,rfl⟩ (fun s'=>typeIs_int s' k t) noFill_list_mul F.fills_int_mul F.slot_int_rmul repeat_list F.slot_int_index.lookup
  (call_meets F.slot_int_rmul (typeIs_int s k t) F.entry_int_rmul (F.args_int_rmul_2 _ _) (int___rmul___int_list k t l its.toArray n)
   ⟨e,rfl,⟨_,e,rfl⟩,call_meets F.slot_list_mul ⟨_,e,rfl⟩ F.entry_list_mul (F.args_list_mul_2 _ _) (AutoListH.list___mul___list_int_3 l its.toArray n k t hfit hcap CB) ⟨e,?_⟩⟩)
 rw[hnew];exact⟨.ref _,_,I.z9 (t':=s.toks) (r.rep k.toNat) (by rw[len_rep,Nat.mul_comm];exact hz),rfl,q _ I.fresh⟩
theorem wQ:OpR X (binaryOp .Add) (fun x y H Q=>rI0 (fun i j=>.int (i+j)) x y H Q\/tP x y H Q):=zS.or wN
theorem wR:OpR X (binaryOp .Mult) (fun x y H Q=>rI sP (fun i j=>.int (i*j)) x y H Q\/tQ x y H Q):=zU.or wO
end
theorem Aq:OpD (fun x y H Q=>rI0 (fun i j=>.int (i+j)) x y H Q\/tP x y H Q) Dm.aL:=by
 intro H0 H x y dx dy z Q s rx ry e k;unfold Dm.aL at e;split at e
 ·cases e;cases ak rx;cases ak ry;exact .inl ⟨_,_,rfl,rfl,k _ H0 H (aE.refl s) (.int _)⟩
 ·split at e
  ·rename_i hz;cases e;obtain⟨a,us,rfl,qa,ra⟩:=cE s rx;obtain⟨b,ws,rfl,qb,rb⟩:=cE s ry;refine .inr ⟨a,b,us,ws,rfl,rfl,qa,qb,by rw[ra.length,rb.length];exact cC hz,fun p hp=>?_⟩;exact k _ _ _ (aE.oW s hp) ⟨p,rfl,hp,s.free hp,_,aN,ra.append rb⟩
  ·cases e
 ·cases e
theorem Ar:OpD (fun x y H Q=>rI sP (fun i j=>.int (i*j)) x y H Q\/tQ x y H Q) Dm.bu:=by
 intro H0 H x y dx dy z Q s rx ry e k;unfold Dm.bu at e;split at e
 ·split at e
  ·rename_i hj;cases e;cases ak rx;cases ak ry;exact .inl ⟨_,_,rfl,rfl,hj,k _ H0 H (aE.refl s) (.int _)⟩
  ·cases e
 ·split at e
  ·rename_i hz;cases e;cases ak ry;obtain⟨a,us,rfl,qa,ra⟩:=cE s rx;obtain⟨h1,h2,h3⟩:=hz;unfold Dm.BIG at h1 h2;refine .inr ⟨a,_,us,rfl,rfl,qa,by lia,by lia,by rw[ra.length];exact cC h3,fun p hp=>?_⟩;exact k _ _ _ (aE.oW s hp) ⟨p,rfl,hp,s.free hp,_,aN,ra.rep _⟩
  ·cases e
 ·cases e
theorem CC:OpD (wM false) Dm.gEq:=by
 intro H0 H x y dx dy z Q s rx ry e k;unfold Dm.gEq at e;split at e
 ·rename_i hk;rw[FH]at hk;cases e;exact⟨dx,dy,rx.full s,ry.full s,hk.1,hk.2,k _ H0 H (aE.refl s) (.bl _)⟩
 ·cases e
theorem CD:OpD (wM true) Dm.gNe:=by
 intro H0 H x y dx dy z Q s rx ry e k;unfold Dm.gNe at e;split at e
 ·rename_i hk;rw[FH]at hk;cases e;exact⟨dx,dy,rx.full s,ry.full s,hk.1,hk.2,k _ H0 H (aE.refl s) (.bl _)⟩
 ·cases e
theorem CF:OpD (Cy false) Dm.gIn:=by
 intro H0 H x y dx dy z Q s rx ry e k;unfold Dm.gIn at e;split at e
 ·split at e
  ·rename_i hk;rw[FH]at hk;cases e;exact⟨dx,_,rx.full s,.inl (ry.full s),hk.1,hk.2,k _ H0 H (aE.refl s) (.bl _)⟩
  ·cases e
 ·split at e
  ·rename_i hk;rw[FH]at hk;cases e;exact⟨dx,_,rx.full s,.inr (ry.full s),hk.1,hk.2,k _ H0 H (aE.refl s) (.bl _)⟩
  ·cases e
 ·cases e
theorem qp{H0:Hp}{xs:List V}{ds:List Dat}{i:Int}{d:Dat}(rs:aK H0 xs ds)(e:Dm.atI ds i=some d):∃v,L2.atI xs i=some v/\Rep H0 v d:=by
 unfold Dm.atI at e;cases q:Dm.ixN ds.length i with
 |none=>rw[q]at e;cases e
 |some j=>rw[q]at e;obtain⟨v,hv,r⟩:=rs.get (i:=j) e;refine⟨v,?_,r⟩;unfold L2.atI;rw[rs.length];have q':L2.ixN ds.length i=some j:=q;rw[q'];exact hv
theorem CG{K:fj}:OpD (fun x y H Q=>B4 K x y H Q\/B5 K x y H Q) Dm.gIx:=by
 intro H0 H x y dx dy z Q s rx ry e k;unfold Dm.gIx at e;split at e
 ·rename_i ds i;cases q:Dm.atI ds i with
  |none=>rw[q]at e;cases e
  |some d=>rw[q]at e;cases e;cases ak ry;obtain⟨a,us,rfl,qa,ra⟩:=cE s rx;obtain⟨v,hv,rv⟩:=qp ra q;exact .inl ⟨a,us,i,v,rfl,rfl,.inl qa,hv,k _ H0 H (aE.refl s) rv⟩
 ·rename_i ds i;cases q:Dm.atI ds i with
  |none=>rw[q]at e;cases e
  |some d=>rw[q]at e;cases e;cases ak ry;obtain⟨a,us,rfl,qa,ra⟩:=nt s rx;obtain⟨v,hv,rv⟩:=qp ra q;exact .inr ⟨a,us,i,v,rfl,rfl,.inl (.inl qa),hv,k _ H0 H (aE.refl s) rv⟩
 ·cases e
theorem As{K:fj}:CallD (fun xs H Q=>∃p ys,xs=[.ref p]/\(SqL K H p ys\/SqT K H p ys)/\Q (.int ys.length) H) Dm.bP:=by
 intro H0 H vs ds z Q s rs e k;unfold Dm.bP at e;split at e
 ·cases e;cases rs with
  |cons r rr=>cases rr;obtain⟨a,us,rfl,qa,ra⟩:=cE s r;exact⟨a,us,rfl,.inl (.inl qa),k _ H0 H (aE.refl s) (by rw[ra.length];exact .int _)⟩
 ·cases e;cases rs with
  |cons r rr=>cases rr;obtain⟨a,us,rfl,qa,ra⟩:=nt s r;exact⟨a,us,rfl,.inr (.inl (.inl qa)),k _ H0 H (aE.refl s) (by rw[ra.length];exact .int _)⟩
 ·cases e
theorem wU:CallD (fun xs H Q=>∃i j,xs=[.int i,.int j]/\Q (.int (if j<i then j else i)) H) Dm.bg:=by
 intro H0 H vs ds z Q s rs e k;unfold Dm.bg at e;split at e
 ·cases e;cases rs with
  |cons r rr=>
   cases rr with
   |cons r' rr=>cases rr;cases ak r;cases ak r';exact⟨_,_,rfl,k _ H0 H (aE.refl s) (.int _)⟩
 ·cases e
theorem wV:CallD (fun xs H Q=>∃i j,xs=[.int i,.int j]/\Q (.int (if j>i then j else i)) H) Dm.bA:=by
 intro H0 H vs ds z Q s rs e k;unfold Dm.bA at e;split at e
 ·cases e;cases rs with
  |cons r rr=>
   cases rr with
   |cons r' rr=>cases rr;cases ak r;cases ak r';exact⟨_,_,rfl,k _ H0 H (aE.refl s) (.int _)⟩
 ·cases e
noncomputable abbrev DS(X:Cx)(st:Stmt)(f:FS):Prop:=PS X st (tDS f)
noncomputable abbrev DSs(X:Cx)(st:List Stmt)(f:FS):Prop:=PSs X st (tDS f)
noncomputable abbrev DI(X:Cx)(tg it:Expr)(f:Dm.FI):Prop:=PI X tg it (tDI f)
theorem PI.weak{X:Cx}{tg it:Expr}{t t':TI}(h:PI X tg it t)(k:∀σ H R,t' σ H R->t σ H R):PI X tg it t':=fun ez s σ H R I q=>h ez s σ H R I (k σ H R q)
section
variable{X:Cx}{a b c e:Expr}{fa fb fc f:FE}{pos:Pos}
section
variable{g:Dat->Dat->Option RV}{r:List V->Hp->VK->Prop}{uL:List Expr}{x:Str}{k:Nat}{i:Int}
theorem d_v(i:Nat)(hN:X.N[i]?=some x:=by rfl)(hv:Vis X.env.scope x:=by trivial)(hd:(x == ("__debug__" : Str))=false:=by decide)
  (Kg:(x == ("__classdict__" : Str))=false:=by decide):DE X (.Name x pos) (Dm.eV i):=PE.weak (sE hN hv hd Kg) fun _ _ _=>Ce
theorem d_i{j}:DE X (.Constant (.int i) j pos) (Dm.eC (.int i)):=PE.weak zE fun _ _ _=>fK fun _=>.int i
theorem d_b{v:Bool}{j}:DE X (.Constant (.bool v) j pos) (Dm.eC (.bl v)):=PE.weak BN fun _ _ _=>fK fun _=>.bl v
theorem d_n{j}:DE X (.Constant .none j pos) (Dm.eC .non):=PE.weak zF fun _ _ _=>fK fun _=>.non
theorem d_s{s:List Nat}{j}(hx:x=⟨s.toArray⟩:=by rfl):DE X (.Constant (.str x) j pos) (Dm.eC (.str s)):=by subst hx;exact PE.weak zG fun _ _ _=>fK fun _=>.str s
theorem d_g{t:Tok}(hg:Gl X x)(hm:X.mg x=some (.int i t))(hd:(x == ("__debug__" : Str))=false:=by decide):DE X (.Name x pos) (Dm.eC (.int i)):=
 PE.weak (ja (v:=.int i) hg hm ⟨t,rfl⟩ hd) fun _ _ _=>fK fun _=>.int i
theorem nu{op:Operator}{r:R2}(o:OpR X (binaryOp op) r)(od:OpD r g)(ha:DE X a fa)(hb:DE X b fb):DE X (.BinOp a op b pos) (Dm.e2 g fa fb):=
 PE.weak (BV o ha hb) fun _ _ _=>tG od
theorem bQ(ha:DE X a fa)(hb:DE X b fb):DE X (.BinOp a .Add b pos) (Dm.e2 Dm.aL fa fb):=nu wQ Aq ha hb
theorem nv(ha:DE X a fa)(hb:DE X b fb):DE X (.BinOp a .Sub b pos) (Dm.e2 Dm.cj fa fb):=nu zT Al ha hb
theorem eS(ha:DE X a fa)(hb:DE X b fb):DE X (.BinOp a .Mult b pos) (Dm.e2 Dm.bu fa fb):=nu wR Ar ha hb
theorem gR(ha:DE X a fa)(hb:DE X b fb):DE X (.BinOp a .FloorDiv b pos) (Dm.e2 Dm.bC fa fb):=nu tO Ao ha hb
theorem bq(ha:DE X a fa)(hb:DE X b fb):DE X (.BinOp a .Mod b pos) (Dm.e2 Dm.aJ fa fb):=nu zV Am ha hb
theorem kT(ha:DE X a fa)(hb:DE X b fb):DE X (.BinOp a .Pow b pos) (Dm.e2 Dm.b4 fa fb):=nu zW An ha hb
theorem tR{op:CmpOp}{r:R2}(o:OpR X (compareOp op) r)(od:OpD r g)(ha:DE X a fa)(hb:DE X b fb)(hm:behindInMarks op b=false):DE X (.Compare a [op] [b] pos) (Dm.e2 g fa fb):=
 PE.weak (wm o ha hb hm) fun _ _ _=>tG od
theorem gS{op:CmpOp}{r:R2}(o:OpR X (compareOp op) r)(od:OpD r g)(ha:DE X a fa)(hb:DE X b fb)(hm:behindInMarks op b=false):DT X (.Compare a [op] [b] pos) (Dm.tV (Dm.e2 g fa fb)):=
 PT.weak (wo o ha hb hm) fun σ H Q h=>tG od (oZ h)
theorem EC(ha:DE X a fa)(hb:DE X b fb):DE X (.Compare a [.Lt] [b] pos) (Dm.e2 Dm.gLt fa fb):=tR yL yR ha hb (dX _)
theorem ED(ha:DE X a fa)(hb:DE X b fb):DE X (.Compare a [.LtE] [b] pos) (Dm.e2 Dm.gLe fa fb):=tR jo jy ha hb (dX _)
theorem gb(hr:b_ k X.A)(ha:DE X a fa)(hb:DE X b fb):DT X (.Compare a [.Eq] [b] pos) (Dm.tV (Dm.e2 Dm.gEq fa fb)):=gS (Ai hr) CC ha hb (dX _)
theorem tS(hr:b_ k X.A)(ha:DE X a fa)(hb:DE X b fb):DT X (.Compare a [.NotEq] [b] pos) (Dm.tV (Dm.e2 Dm.gNe fa fb)):=gS (Aj hr) CD ha hb (dX _)
theorem EE(ha:DE X a fa)(hb:DE X b fb):DT X (.Compare a [.Lt] [b] pos) (Dm.tV (Dm.e2 Dm.gLt fa fb)):=gS yL yR ha hb (dX _)
theorem tT(ha:DE X a fa)(hb:DE X b fb):DT X (.Compare a [.Gt] [b] pos) (Dm.tV (Dm.e2 Dm.gGt fa fb)):=gS BY Cz ha hb (dX _)
theorem CH(ha:DE X a fa)(hb:DE X b fb):DT X (.Compare a [.GtE] [b] pos) (Dm.tV (Dm.e2 Dm.gGe fa fb)):=gS BZ CA ha hb (dX _)
theorem CI(hr:b_ k X.A)(ha:DE X a fa)(hb:DE X b fb)(hm:behindInMarks .In b=false:=by rfl):DT X (.Compare a [.In] [b] pos) (Dm.tV (Dm.e2 Dm.gIn fa fb)):=gS (Ak hr) CF ha hb hm
theorem bw(ha:DE X a fa)(hb:DE X b fb)(hs:lN b:=by intro _ _;rfl):DE X (.Subscript a b pos) (Dm.e2 Dm.gIx fa fb):=PE.weak (yO (wF.or z6) ha hb hs) fun _ _ _=>tG CG
theorem ai:DA X [] []:=PA.weak ir fun _ _ _=>Cf
theorem aa{es:List Expr}{fs:List FE}(h:DE X e f)(r:DA X es fs)(hs:starEach (e::es) X.env=(false,eval e X.env)::starEach es X.env:=by rfl):DA X (e::es) (f::fs):=PA.weak (cK h r hs) fun _ _ _=>Ac
theorem iM{es:List Expr}{fs:List FE}{x1}(h:DA X es fs):DE X (.Tuple es x1 pos) (Dm.bV fs):=PE.weak (sY h) fun _ _ _=>Ci
theorem eT{es:List Expr}{fs:List FE}(h:DA X es fs):DE X (.List es pos) (Dm.bf fs):=PE.weak (zZ h) fun _ _ _=>Cj
theorem rL{es:List Expr}{fs:List FE}{g:List Dat->Option RV}{id:String}{p:Pos}(hc:cS X (.builtin id) r)(cd:CallD r g)(hv:bootBuiltins x=some (.builtin id))(hg:Gl X x)(hm:X.mg x=none)(ha:DA X (e::es) fs)
  (hn:x ≠ "__name__" := by decide) (Kd:(x == ("__debug__" : Str))=false:=by decide) (he:starEach (e::es) X.env=(false,eval e X.env)::starEach es X.env:=by rfl) (AZ:(backTo pos (starEach es X.env)).any (·.1)=false:=by rfl) :
  DE X (.Call (.Name x p) (e::es) [] pos) (Dm.eB g fs):=PE.weak (e7 hc hg hm hv ha hn Kd he AZ) fun _ _ _=>Cg cd
theorem CJ{es:List Expr}{fs:List FE}{g:List Dat->Option RV}{T:String}{p:Pos}(hc:cS X (.type T) r)(cd:CallD r g)(hv:bootBuiltins x=some (.type T))(hg:Gl X x)(hm:X.mg x=none)(ha:DA X (e::es) fs)
  (hn:x ≠ "__name__" := by decide) (Kd:(x == ("__debug__" : Str))=false:=by decide) (he:starEach (e::es) X.env=(false,eval e X.env)::starEach es X.env:=by rfl) (AZ:(backTo pos (starEach es X.env)).any (·.1)=false:=by rfl) :
  DE X (.Call (.Name x p) (e::es) [] pos) (Dm.eB g fs):=PE.weak (rD hc hg hm hv ha hn Kd he AZ) fun _ _ _=>Cg cd
variable{es:List Expr}{fs:List FE}{p:Pos}
theorem jz(hg:Gl X "len")(hm:X.mg "len" = none)(ha:DA X [e] fs)(he:starEach [e] X.env=[(false,eval e X.env)]:=by rfl)(AZ:(backTo pos (starEach [] X.env)).any (·.1)=false:=by rfl):DE X (.Call (.Name "len" p) [e] [] pos) (Dm.eB Dm.bP fs):=rL lP As PySem.boot_len hg hm ha (he:=he) (AZ:=AZ)
theorem o7(hc:X.calm=true)(hg:Gl X "min")(hm:X.mg "min" = none)(ha:DA X [a,b] fs)(he:starEach [a,b] X.env=(false,eval a X.env)::starEach [b] X.env:=by rfl)(AZ:(backTo pos (starEach [b] X.env)).any (·.1)=false:=by rfl):DE X (.Call (.Name "min" p) [a,b] [] pos) (Dm.eB Dm.bg fs):=rL (rz hc) wU (by rfl) hg hm ha (he:=he) (AZ:=AZ)
theorem Au(hc:X.calm=true)(hg:Gl X "max")(hm:X.mg "max" = none)(ha:DA X [a,b] fs)(he:starEach [a,b] X.env=(false,eval a X.env)::starEach [b] X.env:=by rfl)(AZ:(backTo pos (starEach [b] X.env)).any (·.1)=false:=by rfl):DE X (.Call (.Name "max" p) [a,b] [] pos) (Dm.eB Dm.bA fs):=rL (rq hc) wV (by rfl) hg hm ha (he:=he) (AZ:=AZ)
theorem aG{F:Addr}{fd:FuncData}{ps:List Str}{g:List Dat->Option RV}(G:bM X.prog X.w X.K X.mg X.base CX0 k F fd ps (spD g))(hr:b_ k X.A)(hg:Gl X x)(hm:X.mg x=some (.ref F))(hk:G0 X.K (.ref F)=true)(hb:Binds X.K fd ps [])
  (ha:DA X (e::es) fs) (Kd:(x == ("__debug__" : Str))=false:=by decide) (he:starEach (e::es) X.env=(false,eval e X.env)::starEach es X.env:=by rfl) (AZ:(backTo pos (starEach es X.env)).any (·.1)=false:=by rfl) :
  DE X (.Call (.Name x p) (e::es) [] pos) (Dm.eF g fs):=PE.weak (wA G hr hg hm hk hb .nil (B9 (X:=X)) ha Kd he AZ) fun _ _ _=>Ad
theorem qq{op}(h:DE X a fa):DE X (.BoolOp op [a] pos) fa:=zJ h
theorem ny(ha:DE X a fa)(hb:DE X (.BoolOp .And (b::uL) pos) fb):DE X (.BoolOp .And (a::b::uL) pos) (Dm.bO fa fb):=PE.weak (zK ha hb) fun _ _ _=>Ck
theorem CK(ha:DE X a fa):DE X (.UnaryOp .Not a pos) (Dm.cI fa):=PE.weak (zL ha) fun _ _ _=>Cm
noncomputable abbrev DW(X:Cx)(e:Expr)(f:FT):Prop:=PW X e (tDT f)
theorem PW.weak{t t':TT}(h:PW X e t)(k:∀σ H Q,t' σ H Q->t σ H Q):PW X e t':=fun whole ez s σ H Q I q=>h whole ez s σ H Q I (k σ H Q q)
variable{ta tb:FT}
theorem Av(h:DT X a ta):DW X (.BoolOp .And [a] pos) ta:=pw_and1 h
theorem iN(h:DT X a ta):DW X (.BoolOp .Or [a] pos) ta:=pw_or1 h
theorem w_and(ha:DT X a ta)(hb:DW X (.BoolOp .And (b::uL) pos) tb):DW X (.BoolOp .And (a::b::uL) pos) (Dm.b8 ta tb):=PW.weak (pw_and ha hb) fun _ _ _=>Af
theorem w_or(ha:DT X a ta)(hb:DW X (.BoolOp .Or (b::uL) pos) tb):DW X (.BoolOp .Or (a::b::uL) pos) (Dm.tOr ta tb):=PW.weak (pw_or ha hb) fun _ _ _=>Cn
theorem t_w(h:DW X a ta):DT X a ta:=h.pt
theorem e_(h:DT X a ta):DT X (.UnaryOp .Not a pos) (Dm.aV ta):=PT.weak (zI h) fun _ _ _=>Ae
theorem fU(h:DE X e f)(he:∀whole,isTrue e X.env whole=(do let v <- whole;standAt e.pos;holding [v] (truthy v)):=by intro _;rfl):DT X e (Dm.tV f):=PT.weak (zH h he) fun _ _ _=>oZ
variable{tg:Expr}
theorem Aw(hg:Gl X "range")(hm:X.mg "range" = none)(ha:DA X [a] [fa])(hs:starEach [a] X.env=[(false,eval a X.env)]:=by rfl):DI X tg (.Call (.Name "range" p) [a] [] pos) (Dm.iR1 fa):=
 PI.weak (q_ hg hm ha hs) fun _ _ _=>Ct
theorem CL(hg:Gl X "range")(hm:X.mg "range" = none)(ha:DA X [a,b] [fa,fb])(hs:starEach [a,b] X.env=[(false,eval a X.env),(false,eval b X.env)]:=by rfl)(hs2:starEach [b] X.env=[(false,eval b X.env)]:=by rfl):DI X tg (.Call (.Name "range" p) [a,b] [] pos) (Dm.iR2 fa fb):=
 PI.weak (ri hg hm ha hs hs2) fun _ _ _=>Cu
end
end
section
variable{X:Cx}{st:Stmt}{uL:List Stmt}{fs gs:FS}{e a b c:Expr}{f fa fb:FE}{pos:Pos}
section
variable{is:List Nat}{body:List Stmt}{es:List Expr}{x:Str}{t:FT}
theorem aW:DSs X [] Dm.sNx:=PSs.weak v_ fun _ _ _=>Et
theorem ah(h1:DS X st fs)(h2:DSs X uL gs):DSs X (st::uL) (Dm.aj fs gs):=PSs.weak (mT h1 h2) fun _ _ _=>Co
theorem av(h1:DS X st fs):DSs X [st] fs:=wc h1
theorem s_a(i:Nat){x:Str}{pos':Pos}(hN:X.N.Nodup)(he:DE X e f)(hi:X.N[i]?=some x:=by rfl)(hx:Loc X.env.scope x:=by trivial)(hs:swapsWith e (some (.Name x pos')) pos.line X.env=pure false:=by rfl)
  (hf:X.fn x=true\/X.env.scope.names.lookup x=some .local:=by trivial):DS X (.Assign [.Name x pos'] e pos) (Dm.sA i f):=PS.weak (sJ hN hi hx he hs hf) fun _ _ _=>yQ
theorem lW:PGs X [] (f_ []):=wg
theorem cM(i:Nat){px:Pos}(hN:X.N.Nodup)(h2:PGs X es (f_ is))(hi:X.N[i]?=some x:=by rfl)(hx:Loc X.env.scope x:=by trivial)
  (hf:X.fn x=true\/X.env.scope.names.lookup x=some .local:=by trivial) (hs:(assignEach (.Name x px::es) X.env).map (·.2)=assign (.Name x px) X.env::(assignEach es X.env).map (·.2):=by rfl):PGs X (.Name x px::es) (f_ (i::is)):=sH (lI hN hi hx hf) h2 hs
theorem s_u{k:Nat}{tpos:Pos}(hc:X.calm=true)(hg:PGs X es (f_ is))(he:DE X e f)(hn:(assignEach es X.env).length=is.length:=by rfl)(hst:(assignEach es X.env).findIdx? (·.1)=none:=by rfl)
  (hs:swapsWithSole [.Tuple es k tpos] e pos.line X.env=pure false:=by rfl) (hw:swappedStores [.Tuple es k tpos] e X.env=pure none:=by rfl) (h1:(assignEach [.Tuple es k tpos] X.env).map (·.2)=[assign (.Tuple es k tpos) X.env]:=by rfl) :
  DS X (.Assign [.Tuple es k tpos] e pos) (Dm.sU is f):=PS.weak (zP he (zO hc hg hn hst) hs hw h1) fun _ _ _=>tL rfl
theorem s_r(he:DE X e f):DS X (.Return (some e) pos) (Dm.sR f):=PS.weak (zM he) fun _ _ _=>Cp
theorem ck{x y:List Stmt}(ht:DT X c t)(ha:DSs X x fs)(hb:DSs X y gs):DS X (.If c x y pos) (Dm.sIf t fs gs):=PS.weak (yH ht ha hb) fun _ _ _=>Cq
theorem wW:DS X st (fun _=>none):=PS.weak sG fun _ _ _ ⟨_,_,_,_,z,_⟩=>by cases z
theorem yT(i:Nat){px ap cp:Pos}(he:DE X e f)(hi:X.N[i]?=some x:=by rfl)(hv:Vis X.env.scope x:=by trivial)(hd:(x == ("__debug__" : Str))=false:=by decide)
  (Kg:(x == ("__classdict__" : Str))=false:=by decide) (A8:attributeBase (.Name x px) "append" X.env (eval (.Name x px) X.env)=eval (.Name x px) X.env:=by rfl)
  (hfew:((backTo cp (starEach [e] X.env)).all (fun x=>!x.1)&&(backToKw cp (keywordEach [] X.env)).all (fun x=>x.1.isSome)
   && decide ([e].length+([]:List Keyword).length+(if ([]:List Keyword).isEmpty then 0 else 1)<30))=true:=by rfl)
  (A0:(ap.endLine == cp.line)=true:=by rfl) (hs:starEach [e] X.env=(false,eval e X.env)::starEach [] X.env:=by rfl) (Dh:(backTo cp (starEach [] X.env)).any (·.1)=false:=by rfl)
  (hsw:swapsWith (.Call (.Attribute (.Name x px) "append" ap) [e] [] cp) none pos.line X.env=pure false:=by rfl) :
  DS X (.Expr (.Call (.Attribute (.Name x px) "append" ap) [e] [] cp) pos) (Dm.cB i f):=
 PS.weak (we (yP PySem.F.plainAttrs_list PySem.F.slot_list_append PySem.F.type_list_append kM (sE hi hv hd Kg) (aa he ai hs) A8 hfew A0 hs Dh) hsw) fun _ _ _=>Cr
theorem EF(n:Nat)(hp:PassesOwn (model X.prog X.w) X.A X.env X.xe)(ht:DT X c t)(hb:DSs X body fs):DS X (.While c body [] pos) (Dm.whD t fs n):=PS.weak (sM hp ht hb) fun _ _ _=>wI
structure TG'(X:Cx)(tg:Expr)(is:List Nat)(bd:Dm.FB):Prop where
 ex:∃g,PG X tg g/\BD is g bd
theorem g_n(i:Nat){px:Pos}(hN:X.N.Nodup)(hi:X.N[i]?=some x:=by rfl)(hx:Loc X.env.scope x:=by trivial)(hf:X.fn x=true\/X.env.scope.names.lookup x=some .local:=by trivial) :
  TG' X (.Name x px) [i] (Dm.bN i):=⟨⟨_,lI hN hi hx hf,qm i⟩⟩
theorem nA{tg it:Expr}{fi:Dm.FI}{bd:Dm.FB}(hp:PassesOwn (model X.prog X.w) X.A X.env X.xe)(hc:X.calm=true)(hi:DI X tg it fi)(hg:TG' X tg is bd)(hb:DSs X body fs)
  (hs:∀x,foldedSetIterable it X.env x=pure x:=by intro _;rfl):DS X (.For tg it body [] pos) (Dm.b9 fi bd fs):=by
 obtain⟨g,h1,h2⟩:=hg.ex;exact PS.weak (zQ hp hc hi h1 hb hs) fun _ _ _=>Cs h2
end
end
noncomputable def tyName:Dat->String
 |.non => "NoneType"
 |.bl _ => "bool"
 |.int _ => "int"
 |.str _ => "str"
 |.tup _ => "tuple"
 |.lst _ => "list"
 |.dct _ _ => "dict"
 |.dcp _ _ => "dict"
 |.exc _ => "dict"
 |.cg _ _ => "dict"
 |.fn _ => "dict"
def rM(T:String)(p:Dat->Bool):Prop:=∀(K:fj) (d:Dat),GA K (.type (tyName d)) (.type T)=some (p d)
theorem wX:rM "int" Dm.isI:=fun K d=>by cases d<;>rfl
theorem tU:rM "bool" Dm.isB:=fun K d=>by cases d<;>rfl
theorem tW:rM "list" Dm.isL:=fun K d=>by cases d<;>rfl
theorem kit_tuple:rM "tuple" Dm.isT:=fun K d=>by cases d<;>rfl
theorem tZ{K:fj}{H:Hp}{v:V}{d:Dat}(r:Rep H v d)(nx:∀C,d≠.exc C/\d≠.fn C/\∀v,d≠.cg C v):gM K H v (.type (tyName d)):=by
 cases r with
 |non=>exact .non
 |bl b=>exact .bl b
 |int i=>exact .int i
 |str s=>exact .str _
 |tup q _=>exact .tup q
 |lst q _=>
  rcases q with q | ⟨o,q⟩
  ·exact .lst q
  ·exact .frz q
 |dct q _ _=>exact .dK q
 |dcp q _ _=>exact .dT q
 |exc _=>exact absurd rfl (nx _).1
 |cg _ _=>exact absurd rfl ((nx _).2.2 _)
 |fn _=>exact absurd rfl (nx _).2.1
def CM(K:fj)(T:String):List V->Hp->VK->Prop:=fun xs H Q=>∃x t b,xs=[x,.ty T]/\gM K H x t/\GA K t (.type T)=some b/\Q (.bl b) H
section
variable{X:Cx}{e:Expr}{f:FE}{p p2 pos:Pos}
theorem t7{T:String}:cS X (.builtin "isinstance") (CM X.K T):=by intro ez s σ H xs us Q I r h;obtain⟨x,t,b,rfl,ty,e,q⟩:=h;obtain⟨u,u2,rfl,rx,ry⟩:=vals2 r;cases ry;exact rB I rx ty e fun tk=>⟨.bl b,H,I.tok tk,rfl,q⟩
theorem CN{K:fj}{T:String}{p:Dat->Bool}(kp:rM T p){σ:L2.St}{H:Hp}{Q:VK}(h:tD (Dm.e1 (Dm.oV p) f) σ H Q):tCB (CM K T) (iJ (tD f) (iJ (tC (.ty T)) sX)) σ H Q:=by
 obtain⟨H0,ρ,x,ρ',st,e,k⟩:=h;unfold Dm.e1 at e;split at e
 ·cases e
 rename_i x1 ρ1 e1;split at e
 ·cases e
 rename_i dx p1;have nx:∀C,dx≠.exc C/\dx≠.fn C/\∀v,dx≠.cg C v:=fun C=>⟨fun z=>(by subst z;cases e),fun z=>(by subst z;cases e),fun v z=>(by subst z;cases e)⟩;have ev:Dm.oV p dx=Dm.vB (p dx):=by cases dx<;>first | rfl | exact absurd rfl (nx _).1 | exact absurd rfl (nx _).2.1 | exact absurd rfl ((nx _).2.2 _)
 rw[ev]at e;dsimp only at e;cases e;refine⟨H0,ρ,x1,_,st,e1,fun v H1 Hb t1 r1=>?_⟩;exact⟨v,_,_,rfl,tZ ((r1.look t1.st p1).full t1.st.same) nx,kp K dx,k _ H1 Hb t1 (Rep.bl _)⟩
theorem qt{T:String}{tn:Str}{p':Dat->Bool}(kp:rM T p')(hvT:bootBuiltins tn=some (.type T))(hgT:Gl X tn)(hmT:X.mg tn=none)(hg:Gl X "isinstance")(hm:X.mg "isinstance" = none)(h:DE X e f)
  (hn:tn ≠ "__name__" := by decide) (Kd:(tn == ("__debug__" : Str))=false:=by decide)
  (he:starEach [e,.Name tn p2] X.env=(false,eval e X.env)::starEach [.Name tn p2] X.env:=by rfl) (AZ:(backTo pos (starEach [.Name tn p2] X.env)).any (·.1)=false:=by rfl) (he2:starEach [.Name tn p2] X.env=(false,eval (.Name tn p2) X.env)::starEach [] X.env:=by rfl) :
  DE X (.Call (.Name "isinstance" p) [e,.Name tn p2] [] pos) (Dm.e1 (Dm.oV p') f):=
 PE.weak (e7 t7 hg hm GN (cK h (cK (qe (v:=.ty T) hgT hmT hvT rfl hn Kd) ir he2) he) (he:=he) (AZ:=AZ)) fun _ _ _=>CN kp
theorem all_range(bs:List Bool):(GO bs.length).all (fun i=>bs.getD i true)=bs.all id:=by
 rw[G8,FF,FF];constructor
 ·intro h b hb;obtain⟨i,hi,rfl⟩:=List.mem_iff_getElem.mp hb;have:=h i (GL.mpr hi);rw[Gk,F1 hi]at this;exact this
 ·intro h i hi;have hi:=GL.mp hi;rw[Gk,F1 hi];exact h _ (Ib hi)
theorem rN(hc:X.calm=true):cS X (.builtin "all") (fun xs H Q=>∃(a:Addr) (bs:List Bool),xs=[.ref a]/\Rd H a (.lst (bs.map V.bl))/\Q (.bl (bs.all id)) H):=by
 intro ez s σ H xs us Q I r h;obtain⟨a,bs,rfl,hq,q⟩:=h;obtain⟨u,rfl,rx⟩:=vals1 r;cases rx;obtain⟨z,its,n,rv,e⟩:=hq.ok I.hok;have hl:s.heap.IsList a its.toArray:=⟨_,e,rfl,_,rfl⟩
 have zc:=rv.length;rw[Fw]at zc;have hax:a≠s.heap.objs.size:=Gm (FA e);refine PySem.call_all_walk (wpAny_pyIter_list hl ⟨s.heap.objs.size,_,_,_,_,_,fun i=>bs.getD i true,rfl,Walks.list (A:=X.A.in1) (I.ok.hd hc) s.heap.objs.size a hax its.toArray,⟨⟨_,Gi _ rfl,rfl,rfl⟩,hl.push _⟩,?_,fun h' tk hk=>?_⟩)
 ·intro i v s' Q' E' hv hQ';have hv':its[i]?=some v:=by simpa using hv
  have hi:i<bs.length:=by rw[zc];exact(F5.mp hv').1
  have hb:(bs.map V.bl)[i]?=some (V.bl bs[i]):=by rw[F4,F1 hi];rfl
  obtain⟨u,hu,ru⟩:=rv.get hb;rw[hv']at hu;cases hu;cases ru;refine wpAny_truthy_bool ?_;have e2:bs.getD i true=bs[i]:=by rw[Gk,F1 hi];rfl
  rw[<- e2];exact hQ'
 ·have e1:its.toArray.size=bs.length:=by rw[Ga,zc]
  rw[e1,all_range];refine⟨.bl _,H,I.kept (t':=tk) fun b o eb=>hk b o ?_ (FY _ eb),rfl,q⟩;intro hm;have:b=s.heap.objs.size:=by simpa using hm
  exact absurd (FA eb) (by rw[this];exact GW _)
end
section
variable{X:Cx}{a b c e:Expr}{f fa fb fc:FE}{p p2 pos:Pos}
section
variable{g h:Dat->Dat->Option RV}{σ:L2.St}{H:Hp}{Q:VK}
theorem qu{r r':R2}(o1:OpD r g)(o2:OpD r' h)(hh:tD (Dm.aF g h fa fb fc) σ H Q):oR r r' (tD fa) (tD fb) (tD fc) σ H Q:=by
 obtain⟨H0,ρ,x,ρ',st,e,k⟩:=hh;unfold Dm.aF at e;split at e
 ·cases e
 rename_i x1 ρ1 e1;split at e
 ·cases e
 rename_i y1 ρ2 e2;split at e
 ·cases e
 rename_i dx p1;split at e
 ·cases e
 rename_i dy p2;refine⟨H0,ρ,x1,ρ1,st,e1,fun v H1 Hb t1 r1=>⟨H1,ρ1,y1,ρ2,t1.st,e2,fun u H2 Hc t2 r2=>?_⟩⟩;split at e
 ·rename_i gz;refine o1 H2 Hc v u dx dy _ _ t2.st.same ((r1.mono t2).look t2.st p1) (r2.look t2.st p2) gz fun w H3 Hd g3 r3=>?_;refine⟨true,Rep.m9 r3,?_⟩;rw[if_pos rfl];have t3:=t2.trans (.grow t2.st g3);have r2':=r2.mono (.grow t2.st g3);split at e
  ·cases e
  rename_i z ρ3 e3;split at e
  ·cases e
  rename_i dy' p3;split at e
  ·cases e
  rename_i dz p4;split at e
  ·cases e
  rename_i w2 hz;cases e;refine⟨H3,ρ2,z,_,t3.st,e3,fun w' H4 He t4 r4=>?_⟩;refine o2 H4 He u w' dy' dz w2 Q t4.st.same ((r2'.mono t4).look t4.st p3) (r4.look t4.st p4) hz fun w5 H5 Hf g5 r5=>?_;exact k w5 H5 Hf (t1.trans (t3.trans (t4.trans (.grow t4.st g5)))) ((r5.toV t4.st).early fun a n=>(t1.trans (t3.trans t4)).stp.gone n)
 ·rename_i gz;cases e;refine o1 H2 Hc v u dx dy _ _ t2.st.same ((r1.mono t2).look t2.st p1) (r2.look t2.st p2) gz fun w H3 Hd g3 r3=>?_;refine⟨false,Rep.m9 r3,?_⟩;rw[if_neg Ge];exact k _ H3 Hd (t1.trans (t2.trans (.grow t2.st g3))) (Rep.bl false)
 ·cases e
theorem wY{op op':CmpOp}{r r':R2}(o1:OpR X (compareOp op) r)(q1:OpD r g)(o2:OpR X (compareOp op') r')(q2:OpD r' h)(ha:DE X a fa)(hb:DE X b fb)(hc:DE X c fc)
  (hm:lastMarks [op,op'] [b,c]=false:=by with_unfolding_all rfl):DE X (.Compare a [op,op'] [b,c] pos) (Dm.aF g h fa fb fc):=PE.weak (sV o1 o2 ha hb hc hm) fun _ _ _=>qu q1 q2
theorem t8(n d:Nat)(o:Option Int)(hd:d<=n):HT.sIx n d o=Dm.sIx n d o:=by
 cases o with
 |none=>rfl
 |some v=>
  unfold HT.sIx Dm.sIx
  first
   |rfl
   |(dsimp only;split<;>lia)
theorem rO{H0:Hp}{xs:List V}{ds:List Dat}(rs:aK H0 xs ds)(lo hi:Option Int):aK H0 (oU xs lo hi) (Dm.cut ds lo hi):=by unfold oU Dm.cut;rw[rs.length,t8 _ _ _ (Gb _),t8 _ _ _ (Ft _)];exact(rs.drop _).take _
theorem jb{fo:Option FE}{H0 H:Hp}{ρ ρ':Dm.Env}{o:Option Int}{Q:Option Int->Hp->Prop}(st:az H0 H σ ρ)(e:Dm.part fo ρ=some (o,ρ'))(k:∀H0' H',ESt σ ρ H0 H ρ' H0' H'->Q o H') :
  (match fo with | none=>lK | some f=>sZ (tD f)) σ H Q:=by
 cases fo with
 |none=>cases e;exact k H0 H (.refl st)
 |some f=>
  unfold Dm.part at e;dsimp only at e;split at e
  ·rename_i i ρ1 e1;cases e;exact⟨H0,ρ,_,_,st,e1,fun v H1 Hb t1 r1=>⟨i,Rep.isInt r1,k H1 Hb t1⟩⟩
  ·cases e
noncomputable abbrev tOf(fo:Option FE):TO:=match fo with | none=>lK | some f=>sZ (tD f)
theorem EG{K:fj}{lo hi:Option FE}(h:tD (Dm.eSl f lo hi) σ H Q):tSl (B7 K) (tD f) (tOf lo) (tOf hi) σ H Q:=by
 obtain⟨H0,ρ,x,ρ',st,e,k⟩:=h;unfold Dm.eSl at e;split at e
 ·cases e
 rename_i x1 ρ1 e1;split at e
 ·cases e
 rename_i l ρ2 e2;split at e
 ·cases e
 rename_i hh ρ3 e3;split at e
 ·rename_i ds p1;cases e;refine⟨H0,ρ,x1,ρ1,st,e1,fun v H1 Hb t1 r1=>?_⟩;refine jb t1.st e2 fun H2 Hc t2=>?_;refine jb t2.st e3 fun H3 Hd t3=>?_;have tt:=t1.trans (t2.trans t3);obtain⟨a,xs,rfl,qa,ra⟩:=cE t3.st.same ((r1.mono (t2.trans t3)).look t3.st p1);refine⟨a,xs,rfl,.inl qa,fun q hq=>?_⟩;have g:=aE.oW (o:=HO.lst (oU xs l hh)) t3.st.same hq;refine k _ _ _ (tt.trans (.grow t3.st g)) ⟨q,rfl,tt.stp.gone hq,t3.st.nj hq,t3.st.same.free hq,_,aN,rO ra l hh⟩
 ·cases e
theorem Ax{lo hi:Option Expr}{flo fhi:Option FE}(h:DE X e f)(hl:PO X lo (tOf flo))(hh:PO X hi (tOf fhi)):DE X (.Subscript e (.Slice lo hi none p2) pos) (Dm.eSl f flo fhi):=PE.weak (mY wG h hl hh) fun _ _ _=>EG
theorem o_n:PO X none (tOf none):=wB
theorem o_s(h:DE X e f):PO X (some e) (tOf (some f)):=wC h
end
end
section
variable{X:Cx}{nm:List Str}{ES tg iter:Expr}{Di:List Expr}{scope:Scope}{pos:Pos}{own:List Str}{fi:Dm.FI}{bd:Dm.FB}{is:List Nat}{t:FT}{f:FE}
noncomputable abbrev DTs(X:Cx)(Di:List Expr)(t:FT):Prop:=PTs X Di (tDT t)
theorem ff:DTs X [] Dm.aO:=fun ez s σ H Q I h=>by obtain⟨H0,ρ,b,ρ',st,e,k⟩:=h;cases e;exact wL ez s σ H Q I (k H0 H (.refl st))
structure TGc(X:Cx)(nm:List Str)(scope:Scope)(own:List Str)(tg:Expr)(is:List Nat)(bd:Dm.FB):Prop where
 ex:∃g,(∀cl C s H fp,PG (bh X nm scope own cl C s H fp) tg g)/\BD is g bd
theorem c_n(i:Nat){x:Str}{px:Pos}(hN:(nm++own).Nodup)(hi:(nm++own)[i]?=some x)(hx:(relabel scope X.env).names.lookup x=some .local):TGc X nm scope own (.Name x px) [i] (Dm.bN i):=
 ⟨⟨_,fun cl C s H fp=>lI (X:=bh X nm scope own cl C s H fp) hN hi (.inl hx) (.inr hx),qm i⟩⟩
theorem Ay(hc:X.calm=true)(S:dF X nm scope)(hi:DI X tg iter fi)(hg:TGc X nm scope own tg is bd)(ht:∀cl C s H fp,DTs (bh X nm scope own cl C s H fp) Di t)(he:∀cl C s H fp,DE (bh X nm scope own cl C s H fp) ES f)
  (hl:∀i∈is,X.N.length<=i) (hs:∀x,foldedSetIterable iter X.env x=pure x:=by intro _;rfl):DE X (.ListComp ES [⟨tg,iter,Di,0⟩] scope pos) (Dm.cW fi own.length bd t f):=by
 obtain⟨g,h1,h2⟩:=hg.ex;intro ez s σ H Q I h;exact qo hc S hi h1 ht he hs ez s σ H Q I (o6 h2 (fun i hi=>by rw[I.len];exact hl i hi) h)
theorem Az(j:Nat){y:Str}{py Kl:Pos}(hN:X.N.Nodup)(hc:X.calm=true)(S:dF X nm scope)(hi:DI X tg iter fi)(hg:TGc X nm scope own tg is bd)(ht:∀cl C s H fp,DTs (bh X nm scope own cl C s H fp) Di t)(he:∀cl C s H fp,DE (bh X nm scope own cl C s H fp) ES f)
  (hl:∀i∈is,X.N.length<=i) (hj:X.N[j]?=some y:=by rfl) (hy:Loc X.env.scope y:=by trivial)
  (hsw:swapsWith (.ListComp ES [⟨tg,iter,Di,0⟩] scope pos) (some (.Name y py)) Kl.line X.env=pure true:=by rfl) (hs:∀x,foldedSetIterable iter X.env x=pure x:=by intro _;rfl)
  (hf:X.fn y=true\/X.env.scope.names.lookup y=some .local:=by trivial):DS X (.Assign [.Name y py] (.ListComp ES [⟨tg,iter,Di,0⟩] scope pos) Kl) (Dm.sA j (Dm.cW fi own.length bd t f)):=by
 obtain⟨g,h1,h2⟩:=hg.ex;intro ez s σ H D I h;exact nq hN hj hy hc S hi h1 ht he hsw hs hf ez s σ H D I (o6 h2 (fun i hi=>by rw[I.len];exact hl i hi) (yQ h))
end
theorem jA{H0:Hp}:∀{ds:List Dat} {bs:List Bool} {vs:List V},aK H0 vs ds->Dm.bools ds=some bs->vs=bs.map V.bl
 |[],bs,vs,r,e=>by cases r;cases e;rfl
 |.bl b::ds,bs,vs,r,e=>by
  cases r with
  |cons r rs=>
   unfold Dm.bools at e;cases q:Dm.bools ds with
   |none=>rw[q]at e;cases e
   |some cs=>rw[q]at e;cases e;cases Rep.m9 r;rw[jA rs q];rfl
 |.non::ds,bs,vs,r,e=>by cases e
 |.int _::ds,bs,vs,r,e=>by cases e
 |.str _::ds,bs,vs,r,e=>by cases e
 |.tup _::ds,bs,vs,r,e=>by cases e
 |.lst _::ds,bs,vs,r,e=>by cases e
 |.dct _ _::ds,bs,vs,r,e=>by cases e
 |.dcp _ _::ds,bs,vs,r,e=>by cases e
theorem AA:CallD (fun xs H Q=>∃(a:Addr) (bs:List Bool),xs=[.ref a]/\Rd H a (.lst (bs.map V.bl))/\Q (.bl (bs.all id)) H) Dm.m7:=by
 intro H0 H vs ds z Q s rs e k;unfold Dm.m7 at e;split at e
 ·split at e
  ·rename_i bs hb;cases e;cases rs with
   |cons r rr=>cases rr;obtain⟨a,us,rfl,qa,ra⟩:=cE s r;have:=jA ra hb;subst this;exact⟨a,bs,rfl,qa,k _ H0 H (aE.refl s) (.bl _)⟩
  ·cases e
 ·cases e
theorem wZ:CallD (fun xs H Q=>∃a b c:Int,xs=[.int a,.int b,.int c]/\Q (.int (if b<a then (if c<b then c else b) else (if c<a then c else a))) H) Dm.bB:=by
 intro H0 H vs ds z Q s rs e k;unfold Dm.bB at e;split at e
 ·cases e;cases rs with
  |cons r rr=>
   cases rr with
   |cons r' rr=>
    cases rr with
    |cons r'' rr=>cases rr;cases ak r;cases ak r';cases ak r'';exact⟨_,_,_,rfl,k _ H0 H (aE.refl s) (.int _)⟩
 ·cases e
section
variable{X:Cx}{a b c e:Expr}{f:FE}{fs:List FE}{p p2 pos:Pos}
theorem vals3{x y z:V}{us:List Value}(r:Vals [x,y,z] us):∃u v w,us=[u,v,w]/\RelV x u/\RelV y v/\RelV z w:=by
 cases r with
 |cons r1 r=>
  cases r with
  |cons r2 r=>
   cases r with
   |cons r3 r=>cases r;exact⟨_,_,_,rfl,r1,r2,r3⟩
theorem rP(hc:X.calm=true):cS X (.builtin "min") (fun xs H Q=>∃a b c:Int,xs=[.int a,.int b,.int c]/\Q (.int (if b<a then (if c<b then c else b) else (if c<a then c else a))) H):=by
 intro ez s σ H xs us Q I r h;obtain⟨i,j,l,rfl,q⟩:=h;obtain⟨u,v,w',rfl,⟨t,rfl⟩,⟨t',rfl⟩,⟨t'',rfl⟩⟩:=vals3 r;refine PySem.min_three_ints (I.ok.hd hc) fun h' tk k=>⟨_,H,I.kept k,?_,q⟩;by_cases h1:j<i
 ·rw[if_pos h1,if_pos h1];by_cases h2:l<j
  ·rw[if_pos h2,if_pos h2];exact⟨_,rfl⟩
  ·rw[if_neg h2,if_neg h2];exact⟨_,rfl⟩
 ·rw[if_neg h1,if_neg h1];by_cases h2:l<i
  ·rw[if_pos h2,if_pos h2];exact⟨_,rfl⟩
  ·rw[if_neg h2,if_neg h2];exact⟨_,rfl⟩
theorem t9(hc:X.calm=true)(hg:Gl X "all")(hm:X.mg "all" = none)(ha:DA X [e] fs)(he:starEach [e] X.env=[(false,eval e X.env)]:=by rfl)(AZ:(backTo pos (starEach [] X.env)).any (·.1)=false:=by rfl) :
  DE X (.Call (.Name "all" p) [e] [] pos) (Dm.eB Dm.m7 fs):=rL (rN hc) AA (by rfl) hg hm ha (he:=he) (AZ:=AZ)
theorem AB(hc:X.calm=true)(hg:Gl X "min")(hm:X.mg "min" = none)(ha:DA X [a,b,c] fs)(he:starEach [a,b,c] X.env=(false,eval a X.env)::starEach [b,c] X.env:=by rfl)(AZ:(backTo pos (starEach [b,c] X.env)).any (·.1)=false:=by rfl) :
  DE X (.Call (.Name "min" p) [a,b,c] [] pos) (Dm.eB Dm.bB fs):=rL (rP hc) wZ (by rfl) hg hm ha (he:=he) (AZ:=AZ)
def yU:V->List V->Hp->VK->Prop:=fun x vs H Q=>∃i:Int,x=.int i/\vs=[]/\Q (.int (Dm.bits i)) H
theorem w4:MtR X "int.bit_length" yU:=by
 intro ez s σ H x xs v us Q I rx rs h;obtain⟨i,rfl,rfl,q⟩:=h;cases rs;obtain⟨t,rfl⟩:=rx;refine PyProof.Rows.call_int_bit_length ?_;refine⟨.int (Dm.bits i),H,I.tok _,⟨s.toks,?_⟩,q⟩
 congr 1
 unfold Builtin.Int.intBits Dm.bits;by_cases h0:i=0
 ·subst h0;rfl
 ·have:(i == 0)=false:=by simpa using h0
  rw[if_neg h0,this];rfl
theorem AD{K:fj}{σ:L2.St}{H:Hp}{Q:VK}(h:tD (Dm.e1 Dm.aS f) σ H Q):B8 K "int" yU (tD f) σ H Q:=by
 obtain⟨H0,ρ,x,ρ',st,e,k⟩:=h;unfold Dm.e1 at e;split at e
 ·cases e
 rename_i x1 ρ1 e1;split at e
 ·cases e
 rename_i dx p1;split at e
 ·cases e
 rename_i z gz;unfold Dm.aS at gz;split at gz
 ·cases gz;cases e;refine⟨H0,ρ,x1,_,st,e1,fun v H1 Hb t1 r1=>?_⟩;cases ak (r1.look t1.st p1);exact⟨rfl,_,rfl,rfl,k _ H1 Hb t1 (Rep.int _)⟩
 ·cases gz
theorem AE{ap cp:Pos}(h:DE X e f)(A8:attributeBase e "bit_length" X.env (eval e X.env)=eval e X.env:=by rfl)(A0:(ap.endLine == cp.line)=true:=by rfl) :
  DE X (.Call (.Attribute e "bit_length" ap) [] [] cp) (Dm.e1 Dm.aS f):=
 PE.weak (z8 PySem.F.plainAttrs_int PySem.F.slot_int_bit_length PySem.F.type_int_bit_length w4 h A8 A0) fun _ _ _=>AD
end
noncomputable def cJ(sc:Scope):List Str->List Str->Bool
 |[],[]=>true
 |x::N,y::nm=>(x == y||(sc.names.lookup y).isNone)&&cJ sc N nm
 |_,_=>false
theorem cJ.len{sc:Scope}:∀{N nm:List Str},cJ sc N nm=true->nm.length=N.length
 |[],[],_=>rfl
 |[],_::_,h=>by cases h
 |_::_,[],h=>by cases h
 |x::N,y::nm,h=>by rw[cJ,FH]at h;rw[Dp,Dp,cJ.len h.2]
theorem cJ.at{sc:Scope}:∀{N nm:List Str},cJ sc N nm=true->∀(i:Nat) (x:Str),nm[i]?=some x->N[i]?=some x\/sc.names.lookup x=none
 |[],[],_,i,x,e=>by simp at e
 |[],_::_,h,_,_,_=>by cases h
 |_::_,[],h,_,_,_=>by cases h
 |x::N,y::nm,h,0,z,e=>by
  rw[cJ,FH,Bool.or_eq_true]at h;simp at e;subst e;rcases h.1 with q | q
  ·have:x=y:=by simpa using q
   subst this;exact .inl rfl
  ·exact .inr (by simpa using q)
 |x::N,y::nm,h,i+1,z,e=>by rw[cJ,FH]at h;rw[nC]at e ⊢;exact cJ.at h.2 i z e
noncomputable def nB(osc:Scope)(N nm:List Str)(sc:Scope):Bool:=
 sc.names.all (fun y=>y.2 != .cell)&&sc.names.all (fun y=>y.2 != .local||sc.names.lookup y.1 == some .local) &&
 sc.names.all (fun y=>y.2 != .free||(osc.names.lookup y.1 == some .cell||osc.names.lookup y.1 == some .free))&&nm.all (fun x=>sc.names.lookup x != some .local)&&cJ sc N nm
theorem dF.of{X:Cx}{nm:List Str}{scope:Scope}(h:nB X.env.scope X.N nm scope=true)(hk:scope.kind=.function):dF X nm scope:=by
 unfold nB at h;simp only[FH,FF]at h;obtain⟨⟨⟨⟨h1,h2⟩,h3⟩,h4⟩,h5⟩:=h;refine⟨hk,fun y hy=>?_,fun y hy hl=>?_,fun y hy hf=>?_,fun x hx=>?_,cJ.len h5,cJ.at h5⟩
 ·have:=h1 y hy;simpa using this
 ·have:=h2 y hy;rw[hl]at this
  simpa using this
 ·have:=h3 y hy;rw[hf]at this;have:(X.env.scope.names.lookup y.1 == some .cell||X.env.scope.names.lookup y.1 == some .free)=true:=by simpa using this
  rw[Bool.or_eq_true,beq_iff_eq,beq_iff_eq]at this;exact this
 ·have:=h4 x hx;simpa using this
section
variable{X:Cx}{ES tg iter:Expr}{Di:List Expr}{scope:Scope}{pos:Pos}{fi:Dm.FI}{bd:Dm.FB}{is:List Nat}{t:FT}{f:FE}
theorem t_{l:List Nat}{n:Nat}(h:(l.all fun i=>decide (n<=i))=true):∀i∈l,n<=i:=fun i hi=>of_decide_eq_true (FF.mp h i hi)
theorem w6(nm own:List Str)(hg:TGc X nm scope own tg is bd)(hi:DI X tg iter fi)(ht:∀cl C s H fp,DTs (bh X nm scope own cl C s H fp) Di t)(he:∀cl C s H fp,DE (bh X nm scope own cl C s H fp) ES f)
  (hc:X.calm=true:=by rfl) (hk:scope.kind=.function:=by rfl) (hS:nB X.env.scope X.N nm scope=true:=by rfl) (hl:(is.all fun i=>decide (X.N.length<=i))=true:=by rfl) (hs:∀x,foldedSetIterable iter X.env x=pure x:=by intro _;rfl) :
  DE X (.ListComp ES [⟨tg,iter,Di,0⟩] scope pos) (Dm.cW fi own.length bd t f):=Ay hc (dF.of hS hk) hi hg ht he (t_ hl) hs
theorem EH(j:Nat)(nm own:List Str){y:Str}{py Kl:Pos}(hN:X.N.Nodup)(hg:TGc X nm scope own tg is bd)(hi:DI X tg iter fi)(ht:∀cl C s H fp,DTs (bh X nm scope own cl C s H fp) Di t)(he:∀cl C s H fp,DE (bh X nm scope own cl C s H fp) ES f)
  (hc:X.calm=true:=by rfl) (hk:scope.kind=.function:=by rfl) (hS:nB X.env.scope X.N nm scope=true:=by rfl) (hl:(is.all fun i=>decide (X.N.length<=i))=true:=by rfl) (hj:X.N[j]?=some y:=by rfl) (hy:Loc X.env.scope y:=by trivial)
  (hsw:swapsWith (.ListComp ES [⟨tg,iter,Di,0⟩] scope pos) (some (.Name y py)) Kl.line X.env=pure true:=by rfl) (hs:∀x,foldedSetIterable iter X.env x=pure x:=by intro _;rfl)
  (hf:X.fn y=true\/X.env.scope.names.lookup y=some .local:=by trivial):DS X (.Assign [.Name y py] (.ListComp ES [⟨tg,iter,Di,0⟩] scope pos) Kl) (Dm.sA j (Dm.cW fi own.length bd t f)):=
 Az j hN hc (dF.of hS hk) hi hg ht he (t_ hl) hj hy hsw hs hf
end
section
variable{f:FE}{a:Addr}{X:Cx}{H:Hp}
theorem PI.or{tg it:Expr}{t t':TI}(h:PI X tg it t)(h':PI X tg it t'):PI X tg it (fun σ H R=>t σ H R\/t' σ H R):=fun ez s σ H R I q=>q.elim (h ez s σ H R I) (h' ez s σ H R I)
theorem CO{K:fj}{σ:L2.St}{R:It->Hp->Prop}(h:tDI (Dm.iS f) σ H R):mV K (tD f) σ H R\/sN K (tD f) σ H R:=by
 obtain⟨H0,ρ,ys,ρ',st,e,k⟩:=h;unfold Dm.iS at e;split at e
 ·cases e
 rename_i x ρ1 e1;split at e
 ·rename_i ds ρ2 e2;cases e;exact .inl (Eu ⟨H0,ρ,_,_,st,by unfold Dm.iL;rw[e1];dsimp only;rw[e2],k⟩)
 ·rename_i ds ρ2 e2;cases e;exact .inr (Ew ⟨H0,ρ,_,_,st,by unfold Dm.iT;rw[e1];dsimp only;rw[e2],k⟩)
 ·cases e
theorem i_S{tg e:Expr}(h:DE X e f):DI X tg e (Dm.iS f):=PI.weak (PI.or (qg h) (sO h)) fun _ _ _=>CO
noncomputable def ua(K:fj):Bool:=K.all fun p=>match p.2.cls with | .type n=>n != "list" | _=>true
theorem lookup_mem{o:Obj}:∀{K:List (Addr×Obj)},K.lookup a=some o->(a,o)∈K
 |[],h=>by cases h
 |(b,x)::r,h=>by
  rw[Gj]at h;cases q:a == b with
  |true=>
   rw[q]at h;cases h;have:a=b:=by simpa using q
   rw[this];exact Fq
  |false=>rw[q]at h;exact Fv _ (lookup_mem h)
theorem AF{f:List Dat->Option RV}{K:fj}{ns:List Int}{E:XK}(hf:f [.lst (ns.map Dat.int)]=some (.val (.bl true)))(hK:ua K=true)(hS:SqL K H a (ns.map V.int)) :
  spD f [.ref a] H (fun v _=>v=.bl true) E:=by
 have hq:Rd H a (.lst (ns.map V.int)):=by
  rcases hS with h | ⟨o,its,n,hk,hc,_⟩
  ·exact h
  ·have:=FF.mp hK _ (lookup_mem hk);dsimp only at this;rw[hc]at this;exact absurd this (by decide)
 have hr:∀ns:List Int,aK H (ns.map V.int) (ns.map Dat.int):=fun ns=>by
  induction ns with
  |nil=>exact .nil
  |cons n ns ih=>exact .cons (.int n) ih
 exact⟨H,_,_,aC.refl _,.cons (.lst hq (hr ns)) .nil,hf,fun v H0' H' _ r=>Rep.m9 r⟩
end
end Br
namespace Dm
noncomputable def ee(i:Nat)(own:Nat)(bd:FB)(t:FT)(el:FE):FE:=fun ρ=>match ρ[i]? with
 | some (.ow (.lst ds))=>if ds.length≤SZ then (match e8 bd t el ds (ρ.set i .un++eg own .un) [] with
  |none=>none
  |some (ys,ρ2)=>some (.new (.lst ys),(ρ2.take ρ.length).set i (.ow (.lst ds)))) else none
 |_=>cW (iS (eV i)) own bd t el ρ
end Dm
namespace Br
open PySem PySem.Spec PyProof.Rows L2
theorem uc{K:fj}{H0:Hp}{a:Addr}{xs:List V}{ds:List Dat}(rs:aK H0 xs ds):JWa (Itl K a) H0 (some (a,.lst xs)) ds:=by intro H0' H s0 s1 hq;have hq:=hq _ rfl;have q:SqL K H a xs:=.inl (.inl hq);refine⟨fun i hi=>⟨xs,q,by rw[rs.length];exact hi⟩,fun i d e=>?_⟩;obtain⟨v,hv,rv⟩:=rs.get e;refine⟨⟨xs,v,q,hv⟩,fun x H' y=>?_⟩;obtain⟨e1,y⟩:=y;subst e1;have z:=y xs q;rw[hv]at z;cases z;exact⟨H0',aE.refl s1,rv.mono s0⟩
theorem w_{K:fj}{σ:L2.St}{H:Hp}{i own:Nat}{bd:Dm.FB}{g:TG}{t:FT}{el:FE}{is:List Nat}{Q:VK}(hb:BD is g bd)(hl:∀i∈is,σ.length<=i)(h:tD (Dm.ee i own bd t el) σ H Q) :
  tLC (fun σ H R=>mV K (tD (Dm.eV i)) σ H R\/sN K (tD (Dm.eV i)) σ H R) own g (tDT t) (tD el) σ H Q:=by
 obtain⟨H0,ρ,x,ρ',st,e,k⟩:=h;unfold Dm.ee at e;split at e
 ·rename_i ds eo;split at e
  case isFalse=>cases e
  rename_i hsz;split at e
  ·cases e
  rename_i ys ρ2 e2;cases e;refine .inl ⟨H0,ρ,.slot i,ρ,st,by unfold Dm.eV;rw[eo],fun v H0' H' t1 r=>?_⟩;obtain⟨a,qa,na,xs,ha,rs⟩:=t1.st.ow i _ eo;obtain⟨r1,_⟩:=r;rw[qa]at r1;cases r1;have nO:¬au σ (ρ.set i .un) a:=fun z=>by obtain⟨j,d,hj,h1,h2⟩:=d_ z;exact hj (t1.st.dis j i d _ a h1 eo h2 qa)
  have Kf:i<ρ.length:=(F5.mp eo).1;refine⟨a,rfl,⟨xs,.inl (.inl ha)⟩,fun D hD=>nk hb hl (t1.st.mask i) (fun q e=>by cases e;exact⟨ha,na,nO⟩) (uc rs) hsz e2 (fun v H1 Hc t2 r2 hpa=>?_) D hD⟩;obtain⟨ha2,na2⟩:=hpa _ rfl;rw[Gu]at t2 r2;have oo:∀b,au σ ((ρ2.take ρ.length).set i (.ow (.lst ds))) b->b=a\/au σ (ρ2.take ρ.length) b:=fun b ⟨j,d,h1,h2⟩=>by
   by_cases q:i=j
   ·subst q;rw[qa]at h2;cases h2;exact .inl rfl
   ·rw[gc q]at h1;exact .inr ⟨j,d,h1,h2⟩
  have om:∀b,au σ (ρ.set i .un) b->au σ ρ b:=fun b z=>by obtain⟨j,d,hj,h1,h2⟩:=d_ z;exact⟨j,d,h1,h2⟩
  have oa:au σ ρ a:=⟨i,_,eo,qa⟩
  have nO2:¬au σ (ρ2.take ρ.length) a:=fun z=>nO (t2.own a z);have ud:(ρ2.take ρ.length).length=ρ.length:=by rw[<- t2.st.len,st.len]
  refine k v H1 Hc (t1.trans ⟨⟨t2.st.same,by rw[Gu];exact t2.st.len,fun j d h=>?_,fun j d h=>?_,fun j j' d d' b h1 h2 h3 h4=>?_⟩,t2.stp.wide om,fun b z=>?_,fun j z=>?_⟩) ?_
  ·by_cases q:i=j
   ·subst q;rw[F8 (by rw[ud];exact Kf)]at h;cases h
   ·rw[gc q]at h;exact t2.st.sh j d h
  ·by_cases q:i=j
   ·subst q;rw[F8 (by rw[ud];exact Kf)]at h;cases h;exact⟨a,qa,na2,xs,ha2,rs.mono t2.stp.s0⟩
   ·rw[gc q]at h;exact t2.st.ow j d h
  ·by_cases q:i=j
   ·subst q;by_cases q':i=j'
    ·exact q'
    ·rw[gc q']at h2;rw[qa]at h3;cases h3;exact absurd ⟨j',d',h2,h4⟩ nO2
   ·rw[gc q]at h1;by_cases q':i=j'
    ·subst q';rw[qa]at h4;cases h4;exact absurd ⟨j,d,h1,h3⟩ nO2
    ·rw[gc q']at h2;exact t2.st.dis j j' d d' b h1 h2 h3 h4
  ·rcases oo b z with rfl | z
   ·exact oa
   ·exact om b (t2.own b z)
  ·trivial
  ·obtain⟨D',e',n',no',n0',w'⟩:=r2;refine⟨D',e',t1.stp.gone n',fun z=>?_,n0',w'⟩;rcases oo D' z with rfl | z
   ·rw[n']at ha;cases ha
   ·exact no' z
 ·have h2:=o6 (fi:=Dm.iS (Dm.eV i)) hb hl ⟨H0,ρ,x,ρ',st,e,k⟩;exact CO h2
section
variable{X:Cx}{ES tg:Expr}{Di:List Expr}{scope:Scope}{pos px:Pos}{bd:Dm.FB}{is:List Nat}{t:FT}{f:FE}{x:Str}
theorem i_M(i:Nat)(h:DE X (.Name x px) (Dm.eV i)):PI X tg (.Name x px) (fun σ H R=>mV X.K (tD (Dm.eV i)) σ H R\/sN X.K (tD (Dm.eV i)) σ H R):=PI.or (qg h) (sO h)
theorem ue(i:Nat)(nm own:List Str)(hg:TGc X nm scope own tg is bd)(hi:DE X (.Name x px) (Dm.eV i))(ht:∀cl C s H fp,DTs (bh X nm scope own cl C s H fp) Di t)(he:∀cl C s H fp,DE (bh X nm scope own cl C s H fp) ES f)
  (hc:X.calm=true:=by rfl) (hk:scope.kind=.function:=by rfl) (hS:nB X.env.scope X.N nm scope=true:=by rfl) (hl:(is.all fun i=>decide (X.N.length<=i))=true:=by rfl) (hs:∀y,foldedSetIterable (.Name x px) X.env y=pure y:=by intro _;rfl) :
  DE X (.ListComp ES [⟨tg,.Name x px,Di,0⟩] scope pos) (Dm.ee i own.length bd t f):=by
 obtain⟨g,h1,h2⟩:=hg.ex;intro ez s σ H Q I h;exact qo hc (dF.of hS hk) (i_M i hi) h1 ht he hs ez s σ H Q I (w_ h2 (fun i hi=>by rw[I.len];exact t_ hl i hi) h)
end
end Br
namespace Ts
open PySem PyProof.Rows
variable{M:Model}{A:Around}{E:Value->Shared->Prop}{s:Shared}{κ:KeyKind}{kd:SortKind}{a₀:Array Keyed}
end Ts
namespace Ts
open PySem PyProof.Rows
variable{M:Model}{A:Around}{E:Value->Shared->Prop}{s:Shared}{κ:KeyKind}{kd:SortKind}{a₀:Array Keyed}
end Ts
namespace Ts
open PySem PyProof.Rows
variable{M:Model}{A:Around}{E:Value->Shared->Prop}{s:Shared}{κ:KeyKind}{kd:SortKind}{a₀:Array Keyed}
end Ts
namespace Ts
open PySem PyProof.Rows
variable{M:Model}{A:Around}{E:Value->Shared->Prop}{s:Shared}{κ:KeyKind}{kd:SortKind}{a₀:Array Keyed}
end Ts
namespace Ts
open PySem PyProof.Rows
variable{A:Around}{E:Value->Shared->Prop}{s:Shared}{κ:KeyKind}{kd:SortKind}{a₀:Array Keyed}{prog:Program}{w:World}
end Ts
namespace Ts
open PySem PyProof.Rows
variable{A:Around}{E:Value->Shared->Prop}{s:Shared}{κ:KeyKind}{kd:SortKind}{a₀:Array Keyed}{prog:Program}{w:World}
end Ts
namespace Ts
open PySem PyProof.Rows
variable{A:Around}{E:Value->Shared->Prop}{s:Shared}{κ:KeyKind}{kd:SortKind}{a₀:Array Keyed}{prog:Program}{w:World}
end Ts
namespace Ts
open PySem PyProof.Rows
variable{A:Around}{E:Value->Shared->Prop}{s:Shared}{κ:KeyKind}{kd:SortKind}{a₀:Array Keyed}{prog:Program}{w:World}
end Ts
namespace Ts
open PySem PyProof.Rows
variable{A:Around}{E:Value->Shared->Prop}{s:Shared}{κ:KeyKind}{kd:SortKind}{prog:Program}{w:World}
end Ts
namespace Ts
open PySem PyProof.Rows
variable{A:Around}{E:Value->Shared->Prop}{s:Shared}{κ:KeyKind}{kd:SortKind}{a₀:Array Keyed}{prog:Program}{w:World}
end Ts
namespace Ts
open PySem PyProof.Rows
variable{A:Around}{E:Value->Shared->Prop}{s:Shared}{κ:KeyKind}{kd:SortKind}{prog:Program}{w:World}
end Ts
namespace Dm
noncomputable def isN:Dat->Bool
 |.non=>true
 |_=>false
noncomputable def uf:Dat->Dat->Option RV
 |d,.non=>vB (isN d)
 |_,_=>none
noncomputable def kU:Dat->Dat->Option RV
 |d,.non=>vB (!isN d)
 |_,_=>none
noncomputable def kW(bad:List Dat->Bool)(fs:List FE)(ρ:Env):Option Env:=match eAs fs ρ with
 |none=>none
 |some (xs,ρ1)=>match pks ρ1 xs with
  |none=>none
  |some ds=>if bad ds then some ρ1 else none
noncomputable def rIf(t:FT)(R S:Env->Option Env)(ρ:Env):Option Env:=match t ρ with
 |none=>none
 |some (true,ρ1)=>R ρ1
 |some (false,ρ1)=>S ρ1
noncomputable def AG(ρ:Env):Option Env:=some ρ
noncomputable def rNo(_:Env):Option Env:=none
noncomputable def fnX(n m:Nat)(R:Env->Option Env)(ds:List Dat):Bool:=decide (ds.length=n)&&(R (ds.map .sh++eg m .un)).isSome
noncomputable def iY(C:Nat)(b:Bool):Dat->Option RV
 |.exc C'=>if C'=C then vB b else none
 |.cg C' _=>if C'=C then vB b else none
 |_=>none
end Dm
namespace Br
open PySem PySem.Spec PyProof.Rows L2
section
variable{X:Cx}{a b c e:Expr}{f fa fb:FE}{fs:List FE}{p pos:Pos}
def xg(neg:Bool):R2:=fun x y H Q=>y=.non/\Q (.bl (if neg then !decide (x=V.non) else decide (x=V.non))) H
theorem qv{x:V}{v:Value}(r:RelV x v):(v == Value.none)=decide (x=V.non):=by
 cases x with
 |non=>cases r;rfl
 |bl b=>cases r;rfl
 |int i=>obtain⟨t,rfl⟩:=r;rfl
 |str z=>obtain⟨t,rfl⟩:=r;rfl
 |byt z=>obtain⟨t,rfl⟩:=r;rfl
 |flt z=>obtain⟨t,rfl⟩:=r;rfl
 |ref z=>cases r;rfl
 |ty z=>cases r;rfl
theorem AH:OpR X (compareOp .Is) (xg false):=by intro ez s σ H x y v u Q I rx ry h;obtain⟨rfl,q⟩:=h;cases ry;refine is_none_gen ?_;rw[qv rx];exact⟨.bl _,H,I,rfl,q⟩
theorem jc{H0 H:Hp}{x:V}{d:Dat}(r:iX H0 H x d):decide (x=V.non)=Dm.isN d:=by
 rcases r with r | ⟨a,rfl,w⟩
 ·cases r<;>rfl
 ·cases d with
  |non=>exact FG w
  |_=>rfl
theorem AI:OpD (xg false) Dm.uf:=by
 intro H0 H x y dx dy z Q s rx ry e k;unfold Dm.uf at e;split at e
 ·cases e;have hy:=jc ry;have:y=V.non:=of_decide_eq_true (hy.trans rfl);refine⟨this,?_⟩;rw[if_neg (by decide),jc rx];exact k _ H0 H (aE.refl s) (.bl _)
 ·cases e
theorem CQ(ha:DE X a fa)(hb:DE X b fb):DT X (.Compare a [.Is] [b] pos) (Dm.tV (Dm.e2 Dm.uf fa fb)):=gS AH AI ha hb (dX _)
end
end Br
namespace L2
open PySem PySem.Spec PyProof.Rows
def CXE(P:Program)(w:World)(C:Addr):CXT:=fun outer H s E e s'=>
 ∃ea a0 B H',e=.ref ea/\s'.os=s.os/\AllBare s'.gens/\Un (frs outer) [] H H' s.heap s'.heap/\HOk P w H' s'.heap/\Heap.FlyingW B outer ea (.ref C) a0 s'.heap /\
  (∀b o,s'.heap.get? b=some o->(s.heap.get? b).isSome=true\/(H' b).isSome=true->b∉frs outer->B.get? b=some o)/\E (.ref C) (some ea) H'
theorem bF.there{P:Program}{w:World}{H:Hp}{h:Heap}{a:Addr}{o:HO}(x:bF P w H h a o):∃u,h.get? a=some u:=by
 cases o with
 |lst xs=>obtain⟨_,_,_,_,e⟩:=x;exact⟨_,e⟩
 |tup xs=>obtain⟨_,_,_,ob,e,_⟩:=x;exact⟨_,e⟩
 |dK kvs=>obtain⟨_,_,_,_,o,_,_,e,_⟩:=x;exact⟨_,e⟩
 |dT kvs ts=>obtain⟨_,_,_,_,o,_,_,e,_⟩:=x;exact⟨_,e⟩
 |set S n=>obtain⟨o,_,_,_,e,_⟩:=x;exact⟨_,e⟩
 |ins C dx fs=>obtain⟨_,_,_,e,_⟩:=x;exact⟨_,e⟩
 |own y=>obtain⟨_,e⟩:=x;exact⟨_,e⟩
 |xd fs=>obtain⟨_,⟨_,_,_,e,_⟩,_⟩:=x;exact⟨_,e⟩
 |rng lo hi=>obtain⟨_,_,_,e⟩:=x;exact⟨_,e⟩
 |frz ob u=>obtain⟨e,_⟩:=x;exact⟨_,e⟩
 |tbl _ _ _=>obtain⟨_,e,_⟩:=x;exact⟨_,e⟩
 |met f y=>exact⟨_,x⟩
 |ext φ=>obtain⟨_,⟨_,e⟩,_⟩:=x;exact⟨_,e⟩
section
variable{X:Cx}{ez:List (Addr×Obj)}{σ:St}{H:Hp}{s:Shared}{x:Str}{C:Addr}{bmB:List Value}{B newId initId:String}{np cpos pos:Pos}
theorem rQ{t:St->Hp->Prop}(hc:X.calm=true)(hg:Gl X x)(O:OwnCls x C bmB newId X.mg X.base)(FB:ExcBaseFacts B newId initId bmB)
  (hE:∀ez σ H s h' e,Inv X ez σ H s->t σ H->Heap.MadeExcOf s.heap h' e (.ref C) []->X.xe (.ref e) { s with heap:=h' }) (Kd:(x == ("__debug__" : Str))=false:=by decide) :
  PS X (.Raise (some (.Call (.Name x np) [] [] cpos)) none pos) (fun _ σ H=>t σ H):=by
 intro ez s σ H D I h;obtain⟨tl,N,nm,q,bs,hdct,sn,sub,ab,col,dd,k0,k1,k2,k3,k5,mN,hC,hN,hni,T⟩:=O.obj;refine wpAny_Raise_call_subT (C:=C) (nm:=nm) (q:=q) (N:=N) (bs:=bs) (bm:=tl) (hdct:=hdct) (sn:=sn) (sub:=sub) (ab:=ab) (col:=col) (dd:=dd) (k0:=k0) (k1:=k1) (k2:=k2) (k3:=k3) (k5:=k5)
  FB (mN:=mN) (T.hasType FB.hasBase) (I.ok.hd hc) rfl hni (gJ I hg O.bound ⟨rfl,?_⟩ Kd)
 exact evalArgs_empty ⟨rfl,Gb _,I.bk _ _ hC,hN.keeps I.bk,T.keeps I.bk,fun h' e hm=>hE ez σ H s h' e I h hm⟩
theorem Inv.out(I:Inv X ez σ H s){h'' Bh:Heap}(hx:X.ex=[])(hB:∀b o,s.heap.get? b=some o->b∉frs X.stack->(X.s₀.heap.get? b).isSome=true\/(H b).isSome=true->Bh.get? b=some o)(k1:Bh.StaysIn h'')
  (sl:s.heap.UpToSlots h''):Un X.fs [] X.H₀ H X.s₀.heap h''/\HOk X.prog X.w H h'' /\
   (∀b o,h''.get? b=some o->(X.s₀.heap.get? b).isSome=true\/(H b).isSome=true->b∉X.fs->Bh.get? b=some o):=by
 have nx:∀b:Addr,b∉X.ex:=fun b z=>by rw[hx]at z;cases z
 have neL:∀b o,X.s₀.heap.get? b=some o->b≠X.env.locals:=fun b o e=>Gm (FJ (FA e) I.ok.above);have nst:∀b o,X.s₀.heap.get? b=some o->b∉X.fs->b∉frs X.stack:=fun b o e hb z=>(F9.mp (I.jj b z)).elim (neL b o e) hb;have frame:∀b,b∈X.fs->∀o,s.heap.get? b=some o->∃sl,h''.get? b=some { o with slots:=sl }:=fun b hb o e=>by obtain⟨_,o',ho',hd⟩:=I.iV.mem hb;rw[e]at ho';cases ho';exact sl b o e hd
 have stay:∀b o,b∉frs X.stack->(X.s₀.heap.get? b).isSome=true\/(H b).isSome=true->s.heap.get? b=some o->h''.get? b=some o:=fun b o hb hh e=>k1 b o (hB b o e hb hh);have tr:∀b u,H b=some u->b∉frs X.stack:=fun b u e z=>by rw[I.lH b z]at e;cases e
 refine⟨⟨fun b o e n hb _=>?_,fun b o e n hb _=>?_,fun b o e n _=>I.base.free b o e n (nx b),fun b o e _=>?_,I.base.tups,I.base.iU,I.base.ji⟩,fun b u e=>?_,fun b o e hh hb=>?_⟩
 ·exact stay b o (nst b o e hb) (.inl (by rw[e];rfl)) (I.base.keep b o e n hb (nx b))
 ·obtain⟨s1,e1⟩:=I.base.slot b o e n hb (nx b);obtain⟨s2,e2⟩:=frame b hb _ e1;exact⟨s2,e2⟩
 ·obtain⟨o1,e1⟩:=I.base.there b o e (nx b);by_cases hb:b∈X.fs
  ·obtain⟨s2,e2⟩:=frame b hb _ e1;exact⟨_,e2⟩
  ·exact⟨o1,stay b o1 (nst b o e hb) (.inl (by rw[e];rfl)) e1⟩
 ·refine(I.hok b u e).stay (fun c v hc q=>?_) (fun _ q=>q) (fun _ _ _ q=>q) fun _ _ q=>q;rcases hc with rfl | hc
  ·exact stay c v (tr c u e) (.inr (by rw[e];rfl)) q
  ·exact stay c v (tr c _ hc) (.inr (by rw[hc];rfl)) q
 ·have:∃o1,s.heap.get? b=some o1:=by
   rcases hh with hh | hh
   ·obtain⟨o0,e0⟩:=Gf.mp hh;exact I.base.there b o0 e0 (nx b)
   ·obtain⟨u,e0⟩:=Gf.mp hh;exact(I.hok b u e0).there
  obtain⟨o1,e1⟩:=this;have hs:b∉frs X.stack:=by
   rcases hh with hh | hh
   ·obtain⟨o0,e0⟩:=Gf.mp hh;exact nst b o0 e0 hb
   ·obtain⟨u,e0⟩:=Gf.mp hh;exact tr b u e0
  have e2:=stay b o1 hs hh e1;rw[e]at e2;cases e2;exact hB b o e1 hs hh
end
section
variable{P:Program}{w:World}{K:fj}{mg:Str->Option Value}{base:Heap}{N:List Str}{qual:Str}{scope:Scope}{f:Addr}{cd:Value}{A:Around}{outer:List Env}{s₀:Shared}{H₀:Hp}{E:XK}{C:Addr}
 {ez:List (Addr×Obj)} {σ:St} {H:Hp} {s:Shared}
theorem xh{h h' h'':Heap}(k:∀b o,h.get? b=some o->h'.get? b=some o)(x:h'.UpToSlots h''):h.UpToSlots h'':=(Heap.UpToSlots.of_keeps k).trans x
theorem xj(I:Inv (fQ (CXE P w C) P w K mg base N qual scope f cd A outer s₀ H₀ E) ez σ H s){h':Heap}{e:Addr}(hx:Heap.MadeExcOf s.heap h' e (.ref C) [])(hE:E (.ref C) (some e) H) :
  (fQ (CXE P w C) P w K mg base N qual scope f cd A outer s₀ H₀ E).xe (.ref e) { s with heap:=h' }:=by
 have hin:∀env∈(fQ (CXE P w C) P w K mg base N qual scope f cd A outer s₀ H₀ E).stack,∀b,env.frame=some b->b∈frs (fQ (CXE P w C) P w K mg base N qual scope f cd A outer s₀ H₀ E).stack:=fun env he b hb=>HL.mpr ⟨env,he,hb⟩;show wpAny (model P w) _ (leaving _ (.ref e)) _ _ _;refine wpAny_leaves_madeW (base:=Ig s.heap (frs (fQ (CXE P w C) P w K mg base N qual scope f cd A outer s₀ H₀ E).stack)) (h:=s.heap) (L:=s₀.heap.objs.size) I.ok.frames rfl (fun b o q=>PySem.W.of_hideAll _ q) (PySem.W.funFrames_hide I.stack hin) hx fun h'' t fl tup bt sl=>?_;obtain⟨u1,u2,u3⟩:=I.out (h'':=h'') (Bh:=Ig s.heap (frs (fQ (CXE P w C) P w K mg base N qual scope f cd A outer s₀ H₀ E).stack)) rfl (fun b o q hb _=>PySem.W.hideAll_get _ q hb) fl.1 (xh hx.keeps sl);exact⟨e,.ref t,_,H,rfl,I.os,I.bare,u1,u2,fl,u3,hE⟩
end
section
variable{X:Cx}{st:Stmt}{uL:List Stmt}{t:TS}
noncomputable def DF:Ends:={ nx:=fun _ _=>False,rt:=fun _ _=>False,bk:=fun _ _=>False,ct:=fun _ _=>False }
theorem ug(h1:PS X st t):PSs X (st::uL) (fun _ σ H=>t DF σ H):=by
 intro ez s σ H D I h;refine wpAny_execs_cons (thn (h1 ez s σ H DF I h) fun f s1 q=>?_);cases f with
 |next=>obtain⟨_,_,_,q⟩:=q;exact FG q
 |ret v=>obtain⟨_,_,_,_,_,q⟩:=q;exact FG q
 |brk=>obtain⟨_,_,_,q⟩:=q;exact FG q
 |cont=>obtain⟨_,_,_,q⟩:=q;exact FG q
end
end L2
namespace Br
open PySem PySem.Spec PyProof.Rows L2
def uh(C:Addr)(X:Cx)(E:L2.St->XK):Prop:=∀(ez:List (Addr×Obj)) (σ:L2.St) (H:Hp) (s:Shared) (e:Value) (s':Shared),Inv X ez σ H s->CXE X.prog X.w C X.stack H s (E σ) e s'->X.xe e s'
def tX(C:Addr)(E:L2.St->XK)(R:Dm.Env->Option Dm.Env)(σ:L2.St)(H:Hp):Prop:=∃H0 ρ ρ',az H0 H σ ρ/\R ρ=some ρ'/\∀a H0' H',ESt σ ρ H0 H ρ' H0' H'->E σ (.ref C) (some a) H'
def spX(C:Addr)(bad:List Dat->Bool):Sp:=fun vs H _ E=>∃H0 ds,aC H0 H/\aK H0 vs ds/\bad ds=true/\∀a H0' H',aE H0 H H0' H'->E (.ref C) (some a) H'
noncomputable abbrev XE(X:Cx)(C:Addr)(E:L2.St->XK)(e:Expr)(R:Dm.Env->Option Dm.Env):Prop:=PE X e (fun σ H _=>tX C E R σ H)
noncomputable abbrev XS(X:Cx)(C:Addr)(E:L2.St->XK)(st:Stmt)(R:Dm.Env->Option Dm.Env):Prop:=PS X st (fun _ σ H=>tX C E R σ H)
section
variable{X:Cx}{C:Addr}{E:L2.St->XK}{k:Nat}{F:Addr}{fd:FuncData}{ps:List Str}{x:Str}{p pos:Pos}{e:Expr}{es:List Expr}{fs:List FE}{bad:List Dat->Bool}{R S:Dm.Env->Option Dm.Env}
theorem xm{ez:List (Addr×Obj)}{σ:L2.St}{H:Hp}{s:Shared}{Q:VK}{us:List Value}{vs:List V}(G:bM X.prog X.w X.K X.mg X.base (CXE X.prog X.w C) k F fd ps (spX C bad))(hr:b_ k X.A)(hb:Binds X.K fd ps [])(hx:uh C X E)
  (I:Inv X ez σ H s) (r:Vals vs us) (h:spX C bad vs H Q (E σ)):wpAny (model X.prog X.w) X.A (call (.ref F) us) (EP X ez σ Q) X.xe s:=by
 have hl:(us++[]).length=ps.length:=by rw[Gs,<- r.length];exact G.len _ _ _ _ h
 have hb':=hb s us I.kIn hl;rw[Gs]at hb';refine wpAny_call (codeAny_mono (G.run X.A X.stack s H ⟨us,[]⟩ us vs Q (E σ) hr I.B3 hb' r h) fun r s' hq=>?_);cases r with
 |error e=>exact hx ez σ H s e s' I hq
 |ok fl=>
  cases fl with
  |ret u=>exact I.after hq
  |next=>exact FG hq
  |brk=>exact FG hq
  |cont=>exact FG hq
theorem xo{σ:L2.St}{H:Hp}(h:tX C E (Dm.kW bad fs) σ H)(Q:VK):tDA fs σ H fun vs H1=>spX C bad vs H1 Q (E σ):=by
 obtain⟨H0,ρ,ρ',st,hR,k⟩:=h;unfold Dm.kW at hR;split at hR
 ·cases hR
 rename_i xs ρ1 e1;split at hR
 ·cases hR
 rename_i ds p1;split at hR
 case isFalse=>cases hR
 rename_i hbad;cases hR;refine⟨H0,ρ,xs,ρ',st,e1,fun vs H1 Hb t1 r1=>?_⟩;obtain⟨ρ2,e2⟩:=fZ p1;obtain⟨H2,t2,b2,r2⟩:=takes t1 (aC.refl _) r1 e2;exact⟨H2,ds,t2.st.same,r2,hbad,fun a H0' H' g=>k a H1 H' (t1.trans (.grow t1.st ⟨aC.refl _,g.s1,fun a o q=>.inr q,t1.st.same.trans g.s1⟩))⟩
theorem x_call(G:bM X.prog X.w X.K X.mg X.base (CXE X.prog X.w C) k F fd ps (spX C bad))(hr:b_ k X.A)(hg:Gl X x)(hm:X.mg x=some (.ref F))(hk:G0 X.K (.ref F)=true)(hb:Binds X.K fd ps [])(hx:uh C X E)
  (ha:DA X (e::es) fs) (Kd:(x == ("__debug__" : Str))=false:=by decide) (he:starEach (e::es) X.env=(false,eval e X.env)::starEach es X.env:=by rfl) (AZ:(backTo pos (starEach es X.env)).any (·.1)=false:=by rfl) :
  XE X C E (.Call (.Name x p) (e::es) [] pos) (Dm.kW bad fs):=by
 intro ez s σ H Q I h;refine wpAny_Call_Name_kw (gJ I hg hm ?_ Kd);refine PySem.W.callWith_K (h₀:=X.base) I.ok.mod.kin hk (thn (ha pos ez s σ H _ I (xo h Q)) fun us s1 ⟨vs,H1,I1,r,q⟩=>⟨I1.kIn,?_⟩) he AZ;exact xm G hr hb hx I1 r q
theorem x_a(i:Nat){x:Str}{pos':Pos}(hN:X.N.Nodup)(he:XE X C E e R)(hi:X.N[i]?=some x:=by rfl)(hx:Loc X.env.scope x:=by trivial)(hs:swapsWith e (some (.Name x pos')) pos.line X.env=pure false:=by rfl)
  (hf:X.fn x=true\/X.env.scope.names.lookup x=some .local:=by trivial):XS X C E (.Assign [.Name x pos'] e pos) R:=PS.weak (sJ hN hi hx he hs hf) fun _ _ _ q=>q
end
section
variable{P:Program}{w:World}{K:fj}{mg:Str->Option Value}{base:Heap}{N:List Str}{qual:Str}{scope:Scope}{f:Addr}{cd:Value}{A:Around}{outer:List Env}{s₀:Shared}{H₀:Hp}{E:XK}{C:Addr}
theorem x_raise{x:Str}{bmB:List Value}{B newId initId:String}{np cpos pos:Pos}(O:OwnCls x C bmB newId mg base)(FB:ExcBaseFacts B newId initId bmB)(hg:Gl (fQ (CXE P w C) P w K mg base N qual scope f cd A outer s₀ H₀ E) x)(Kd:(x == ("__debug__" : Str))=false:=by decide) :
  XS (fQ (CXE P w C) P w K mg base N qual scope f cd A outer s₀ H₀ E) C (fun _=>E) (.Raise (some (.Call (.Name x np) [] [] cpos)) none pos) Dm.AG:=
 rQ rfl hg O FB (fun ez σ H s h' e I ⟨H0,ρ,ρ',st,hR,k⟩ hm=>xj I hm (k e _ _ (by cases hR;exact ESt.refl st))) Kd
end
theorem qw{C:Addr}{n m:Nat}{R:Dm.Env->Option Dm.Env}{vs:List V}{H:Hp}{Q:VK}{E:XK}(h:spX C (Dm.fnX n m R) vs H Q E):vs.length=n:=by obtain⟨H0,ds,s,rs,e,k⟩:=h;unfold Dm.fnX at e;rw[FH,decide_eq_true_eq]at e;rw[rs.length];exact e.1
theorem um{N:List Str}{n m:Nat}{vs:List V}{H0 H:Hp}{ds:List Dat}(hm:N.length=n+m)(hvn:vs.length=n)(s:aC H0 H)(rs:aK H0 vs ds) :
  az H0 H (start N vs) (ds.map Dm.Cell.sh++eg m .un)/\∀a,¬au (start N vs) (ds.map Dm.Cell.sh++eg m .un) a:=by
 have hl:=rs.length;refine ⟨?_,fun a ⟨i,d,h1,_⟩=>by
  by_cases hi:i<ds.length
  ·rw[Fp (by simpa using hi),F4]at h1;cases q:ds[i]? with
   |none=>rw[q]at h1;cases h1
   |some y=>rw[q]at h1;cases h1
  ·rw[F7 (by simpa using hi),Gd]at h1;split at h1<;>cases h1⟩
 refine⟨s,?_,fun i d h=>?_,fun i d h=>?_,fun i j d e a h1 h2 _ _=>?_⟩
 ·unfold L2.start;simp only[Fl,Fw,G1]
  lia
 ·have hi:i<ds.length:=by
   by_cases hi:i<ds.length
   ·exact hi
   ·rw[F7 (by simpa using hi),Gd]at h;split at h<;>cases h
  rw[Fp (by simpa using hi),F4]at h;cases q:ds[i]? with
  |none=>rw[q]at h;cases h
  |some y=>rw[q]at h;cases h;obtain⟨v,hv,r⟩:=rs.get q;refine⟨v,?_,r⟩;unfold L2.start;rw[Fp (by simpa [hl] using hi),F4,hv];rfl
 ·by_cases hi:i<ds.length
  ·rw[Fp (by simpa using hi),F4]at h;cases q:ds[i]? with
   |none=>rw[q]at h;cases h
   |some y=>rw[q]at h;cases h
  ·rw[F7 (by simpa using hi),Gd]at h;split at h<;>cases h
 ·by_cases hi:i<ds.length
  ·rw[Fp (by simpa using hi),F4]at h1;cases q:ds[i]? with
   |none=>rw[q]at h1;cases h1
   |some y=>rw[q]at h1;cases h1
  ·rw[F7 (by simpa using hi),Gd]at h1;split at h1<;>cases h1
end Br
namespace PySem.W
open PySem PySem.Spec PySem.Calls PyProof.Rows
structure gf(K:Frag)(C:Addr):Prop where
 ga:findIn K (.ref C) "__getattribute__" = some (some (.builtin "BaseException.__getattribute__"))
 gn:findIn K (.ref C) "__getattr__" = some none
 cl:findIn K (.ref C) "__class__" = some (some (.builtin "object.__class__"))
 mB:mroIn K C (.type "BaseException")=some true
 mO:mroIn K C (.type "object")=some true
def kG(x C:Addr)(h:Heap):Prop:=∃ox,h.get? x=some ox/\ox.cls=.ref C
theorem fL{x C:Addr}{M:Model}{h:Heap}(p:kG x C h):Looks M h (typeOf (.ref x)) (.ref C):=by obtain⟨o,h1,h2⟩:=p;exact h2▸(Looks.ld h1).andThen .now
section
variable{prog:Program}{w:World}{A:Around}{K:Frag}{x C:Addr}{s:Shared}{R:Result->Shared->Prop}
theorem o8{tp:Value}(X:K.In s.heap)(I:kG x C s.heap)(hm:mroIn K C (.type "object")=some true)
  (h:R (.ok (.ret (.ref C))) s):codeAny (model prog w) A (.call (.builtin "getset_descriptor.__get__") ⟨[.builtin "object.__class__",.ref x,tp],[]⟩) R s:=by
 obtain⟨hh,g,dr,t,os⟩:=s;have L0:=fL (M:=model prog w) I;have L1:=looks_mroIn (M:=model prog w) X hm;refine codeAny_call_builtin KF.slot_gs.plain KF.entry_gs (KF.slot_gs.check _ _ _ _ _ _ _ _ KF.type_class (KF.args_gs _ _ _) ?_);unfold Builtin.«getset_descriptor.__get__» Builtin.Getset_descriptor.descrGet;rw[dga_obj];refine wpAny_bind (wpAny_pure ?_);unfold Builtin.Getset_descriptor.descrGetter Builtin.Getset_descriptor.descrCheckInstance Builtin.Getset_descriptor.descrNameAndClass isInstance;simp only[KF.owner_class]
 repeat lk
 refine⟨Code.quiet_builtin _ (by decide +kernel),codeAny_builtin KF.entry_class ?_⟩;unfold Builtin.«object.__class__» shownTypeOf
 repeat lk
 exact h
end
section
variable{prog:Program}{w:World}{A:Around}{E:Value->Shared->Prop}{K:Frag}{x C:Addr}{ox:Obj}{h:Heap}{g:Array GenState}{d:Drawn}{t:Nat}{os:OsState}
theorem uo{M:Model}{nameV:Value}{Q:Unit->Shared->Prop}(Z:gf K C)(X:K.In h)(I:kG x C h)(hq:Q () ⟨h,g,d,t,os⟩):wpAny M A (checkBuiltinCall "BaseException.__getattribute__" ⟨[.ref x,nameV],[]⟩) Q E ⟨h,g,d,t,os⟩:=by
 have hk:builtinKind "BaseException.__getattribute__" = some .slot:=by decide +kernel
 have hsplit:splitId "BaseException.__getattribute__" = some ("BaseException","__getattribute__"):=by decide +kernel
 have L0:=fL (M:=M) I;have L1:=looks_mroIn (M:=M) X Z.mB;have LI:Looks M h (isInstance (.ref x) (.type "BaseException")) true:=L0.andThen L1;have ha:=PySem.F.args_bexc_ga (.ref x) nameV;simp only[checkBuiltinCall,hk,hsplit];refine wpAny_bind (LI.at ?_)
 repeat (first | assumption | wp_step)
theorem uq{tk:Tok}{Q:Fin->Shared->Prop}(Z:gf K C)(X:K.In h)(I:kG x C h)(hq:Q (.done (.ret (.ref C))) ⟨h,g,d,t,os⟩) :
  wpAny (model prog w) A (Builtin.«object.__getattribute__» ⟨[.ref x,.str "__class__" tk],[]⟩) Q E ⟨h,g,d,t,os⟩:=by
 have hT5:(⟨h,g,d,t,os⟩:Shared).TypeIs (.builtin "object.__class__") "getset_descriptor" := F.typeOf_object_class;have f5:=F.typeOf_object_class;have f6:=F.slot_gs_get.lookup;have f7:=F.slot_gs_set.lookup;have L0:=fL (M:=model prog w) I;have L1:=looks_findIn (M:=model prog w) X Z.cl
 repeat (any_goals (first | assumption | with_reducible refine L0.at ?_ | with_reducible refine L1.at ?_ | wp_step))
 refine o8 X I Z.mO ?_
 repeat (any_goals (first | assumption | wp_step))
theorem xq{tk:Tok}{R:Result->Shared->Prop}(Z:gf K C)(X:K.In h)(I:kG x C h)(hq:R (.ok (.ret (.ref C))) ⟨h,g,d,t,os⟩) :
  codeAny (model prog w) A (.call (.builtin "BaseException.__getattribute__") ⟨[.ref x,.str "__class__" tk],[]⟩) R ⟨h,g,d,t,os⟩:=
 codeAny_call_builtin PySem.F.excAttr_ValueError.ga.plain PySem.F.entry_bexc_ga (uo Z X I (uq Z X I hq))
theorem CS{tk:Tok}{Q:Value->Shared->Prop}(Z:gf K C)(X:K.In h)(I:kG x C h)(hq:Q (.ref C) ⟨h,g,d,t,os⟩) :
  wpAny (model prog w) A (getAttrBy (.ref x) (.str "__class__" tk) false) Q E ⟨h,g,d,t,os⟩:=by
 have f3:=PySem.F.excAttr_ValueError.ga.bind (.ref x);have hx2:(HU "BaseException.__getattribute__" == HU "object.__getattribute__")=false:=by decide +kernel
 have hx1:(onTheHeap (GC C)&&HU "BaseException.__getattribute__" == HU "object.__getattribute__")=false:=by rw[hx2];rfl
 have L0:=fL (M:=model prog w) I;have L1:=looks_findIn (M:=model prog w) X Z.ga;have L2:=looks_findIn (M:=model prog w) X Z.gn
 repeat (any_goals (first | assumption | with_reducible refine L0.at ?_ | with_reducible refine L1.at ?_ | with_reducible refine L2.at ?_ | wp_step))
 refine xq Z X I ?_
 repeat (any_goals (first | assumption | wp_step))
theorem xr{s:Shared}{Q:Option Value->Shared->Prop}(Z:gf K C)(X:K.In s.heap)(I:kG x C s.heap)(hq:Q (some (.ref C)) { s with toks:=s.toks+1 }):wpAny (model prog w) A (getAttr? (.ref x) "__class__") Q E s:=by
 obtain⟨h,g,d,t,os⟩:=s;unfold getAttr? getAttrBy?
 repeat (any_goals (first | assumption | with_reducible apply CS Z X I | wp_step))
theorem nD(Z:gf K C)(hc:(clsIn K C).isSome=true):KitX K (.ref x) (.ref C) (kG x C) where
 ty:=fun _ _ _ I=>fL I
 it:=fun _ _ X _=>by
  unfold clsIn at hc;split at hc
  ·rename_i c' d' cd' sl' ho;intro A' Q' E' s' k q;unfold isType loadHead;exact wpAny_bind (wpAny_loadPart (k _ _ (X _ _ ho)) (wpAny_pure q))
  ·cases hc
 ne:=fun h tp dd its n sl X htp=>by
  refine Bool.eq_false_iff.mpr fun q=>?_;have e:C=tp:=GC.inj (beq_iff_eq.mp q);subst e;unfold clsIn at hc;split at hc
  ·rename_i c' d' cd' sl' ho;have z:=(X _ _ ho).symm.trans htp;cases z
  ·cases hc
 ca:=fun X I k=>xr Z X I k
end
end PySem.W
namespace PySem
theorem iO{α:Type}(p:α->Bool):∀(l:List α) (i:Nat) (x:α),l[i]?=some x->p x=false->(l.eraseIdx i).find? p=l.find? p
 |[],i,x,h,_=>by simp at h
 |y::l,0,x,h,hp=>by simp only[Dk,Option.some.injEq]at h;subst h;rw[List.eraseIdx_cons_zero,Ij,hp]
 |y::l,i+1,x,h,hp=>by rw[List.eraseIdx_cons_succ,Ij,Ij,iO p l i x (by simpa using h) hp]
theorem kH{es:Array DictEntry}{i:Nat}{name y:Str}(hi:es.findIdx? (·.key.isStr name)=some i)(hy:y≠name):nsFind (es.eraseIdxIfInBounds i) y=nsFind es y:=by
 obtain⟨Kf,hp,_⟩:=Array.findIdx?_eq_some_iff_getElem.mp hi;have hq:(es[i]).key.isStr y=false:=by
  cases hk:(es[i]).key with
  |str z t=>rw[hk]at hp;simp only[Iv,beq_iff_eq]at hp;simp only[Iv,beq_eq_false_iff_ne];intro e;exact hy (e.symm.trans hp)
  |_=>rw[hk]at hp;simp[Iv]at hp
 have h2:(es.eraseIdxIfInBounds i).toList=es.toList.eraseIdx i:=by unfold Array.eraseIdxIfInBounds;rw[dif_pos Kf,Array.toList_eraseIdx]
 unfold nsFind findBy;rw[<- HM,<- HM,h2,iO _ _ i es[i] (by rw[Array.getElem?_toList,Array.getElem?_eq_getElem Kf]) hq]
section
variable{M:Model}{A:Around}{E:Value->Shared->Prop}{s:Shared}{env:Env}
theorem lX{a:Addr}{m}{name:Str}{Q:Bool->Shared->Prop}(hn:s.heap.Ns a m)
  (hQ:∀h' m',h'.Ns a m'->(∀y,y≠name->m' y=m y)->Hx a s.heap h'->Q (m name).isSome { s with heap:=h' }):wpAny M A (nsDel a name) Q E s:=by
 obtain⟨o,es,ep,ho,hd,hk,hm⟩:=id hn;have hany:es.any (·.refKey)=false:=by rw[Array.any_eq_false'];intro e he;obtain⟨n,t,h⟩:=hk e he;simp[DictEntry.refKey,h]
 have hsome:(m name).isSome=es.any (·.key.isStr name):=by
  rw[<- hm name];simp only[nsFind,findBy,Option.isSome_map];rw[G8];simp only[Array.find?_isSome,Array.any_eq_true];constructor
  ·rintro⟨x,hx,hp⟩;obtain⟨i,hi,rfl⟩:=Array.mem_iff_getElem.mp hx;exact⟨i,hi,hp⟩
  ·rintro⟨i,hi,hp⟩;exact⟨_,Array.getElem_mem hi,hp⟩
 have hhas:nsHas name o=pure (es.any (·.key.isStr name)):=by
  rw[nsHas_eq];unfold nsHasByArray;rw[hd];show (if (es.any fun x=>x.key.isStr name)=true then _ else _)=_
  generalize (es.any fun x=>x.key.isStr name)=b
  cases b<;>simp[hany]
 unfold nsDel;refine wpAny_bind (wpAny_loadPart ho ?_);rw[hhas];refine wpAny_bind (wpAny_pure ?_);rw[<- hsome];cases hmn:(m name).isSome
 ·have:=hQ s.heap m hn (fun _ _=>rfl) (.refl ..);rw[hmn]at this;exact wpAny_pure this
 ·refine wpAny_bind (wpAny_updatePart ho (wpAny_pure ?_));have key:∃m',(s.heap.update a (Obj.dropName name)).Ns a m'/\∀y,y≠name->m' y=m y:=by
   obtain⟨cl,d,dt,sl⟩:=o;subst hd;cases hi:es.findIdx? (·.key.isStr name) with
   |some i=>exact⟨nsFind (es.eraseIdxIfInBounds i),⟨_,_,ep+1,Heap.get?_update_self _ ho (by simp only[HD,G6,hi]<;>rfl),(by simp only[HD,G6,hi]<;>rfl),hk.erase i,fun _=>rfl⟩,fun y hy=>by rw[kH hi hy,hm]⟩
   |none=>exact⟨nsFind es,⟨_,_,ep,Heap.get?_update_self _ ho (by simp only[HD,G6,hi]<;>rfl),(by simp only[HD,G6,hi]<;>rfl),hk,fun _=>rfl⟩,fun y _=>hm y⟩
  obtain⟨m',hm',hy⟩:=key;have:=hQ _ m' hm' hy (Hx.update ..);rw[hmn]at this;exact this
theorem iZ{n:Str}{pos:Pos}{m:Str->Option Value}{Q:Unit->Shared->Prop}(hl:env.kindOf n=some .local)(hn:s.heap.Ns env.locals m)
  (hp:(env.scope.kind == .class||(env.scope.kind == .module&&env.locals != env.globals))=false)
  (h:∀h' m',h'.Ns env.locals m'->(∀y,y≠n->m' y=m y)->Hx env.locals s.heap h'->Q () { s with heap:=h',toks:=s.toks+1 }) :
  wpAny M A (do bindName env n .none;unbindBehindTheSuite env n pos) Q E s:=by
 refine wpAny_bind (wpAny_bindName (wpAny_storeName_local hl hn (fun h₁ hn₁ hs₁=>?_) hp));unfold unbindBehindTheSuite;refine wpAny_onRaise ?_;unfold unbindName;refine wpAny_bind (wpAny_point (wpAny_bind ?_));unfold deleteName;simp only[hl,hp];rw[if_neg (by decide)];refine wpAny_bind (lX hn₁ fun h₂ m₂ hn₂ hy hs₂=>?_);simp only[if_true,Option.isSome_some,FZ,Bool.false_eq_true,if_false];exact wpAny_pure (wpAny_point (h h₂ m₂ hn₂ (fun y hny=>(hy y hny).trans (if_neg hny)) (hs₁.trans hs₂)))
end
end PySem
namespace PySem.W
open PySem PySem.Spec PySem.Calls PyProof.Rows
structure lY(K:Frag)(C CP:Addr):Prop where
 ty:typeIn K (.ref CP)=some (.type "type")
 cl:(clsIn K CP).isSome=true
 mB:mroIn K CP (.type "BaseException")=some true
 mP:mroIn K C (.ref CP)=some true
theorem nE{M:Model}{A:Around}{E:Value->Shared->Prop}{K:Frag}{x C CP:Addr}{h:Heap}{g:Array GenState}{d:Drawn}{t:Nat}{os:OsState}{Q:Bool->Shared->Prop}
  (Z:lY K C CP) (X:K.In h) (I:kG x C h) (hq:Q true ⟨h,g,d,t,os⟩):wpAny M A (excMatches (.ref x) (.ref CP)) Q E ⟨h,g,d,t,os⟩:=by
 have L0:=fL (M:=M) I;have L1:=looks_typeIn (M:=M) X Z.ty;have L2:=looks_mroIn (M:=M) X Z.mB;have L3:=looks_mroIn (M:=M) X Z.mP;have L4:Looks M h (isType (.ref CP)) true:=by
  have hc:=Z.cl;unfold clsIn at hc;split at hc
  ·rename_i c' d' cd' sl' ho;intro A' Q' E' s' k q;unfold isType loadHead;exact wpAny_bind (wpAny_loadPart (k _ _ (X _ _ ho)) (wpAny_pure q))
  ·cases hc
 have LT:Looks M h (isSubtype (.type "type") (.type "tuple")) false:=Looks.of_pure tc_notTuple;unfold excMatches isInstance
 repeat lk
 exact hq
end PySem.W
namespace L2
open PySem PySem.Spec PyProof.Rows
section
variable{X:Cx}{ez:List (Addr×Obj)}{σ:L2.St}{H:Hp}{s:Shared}
theorem Inv.fly(I:Inv X ez σ H s){h'' B:Heap}{t':Nat}(hx:X.ex=[])(hB:∀b o,s.heap.get? b=some o->b∉frs X.stack->((X.s₀.heap.get? b).isSome=true\/(H b).isSome=true\/∃p∈X.pn++ez,p.1=b)->B.get? b=some o)
  (k1:B.StaysIn h'') (sl:s.heap.UpToSlots h''):Inv X ez σ H { s with heap:=h'',toks:=t' }:=by
 obtain⟨u1,u2,_⟩:=I.out (h'':=h'') (Bh:=B) hx (fun b o e hb hh=>hB b o e hb (hh.imp id .inl)) k1 sl;have cellK:∀c v,s.heap.IsCell c v->h''.IsCell c v:=fun c v ⟨o,ho,hd⟩=>by
  obtain⟨sl',e⟩:=sl c o ho fun vs q=>by rw[hd]at q;cases q
  exact⟨_,e,hd⟩
 refine⟨I.ok,I.os,I.bare,by rw[hx];exact u1,?_,fun x c e=>?_,I.free,I.cN,fun p hp=>?_,u2,I.len⟩
 ·obtain⟨m,hn,hl⟩:=I.loc;refine⟨m,sl.ns hn,fun i x v e1 e2 e3=>?_⟩;obtain⟨u,r,l⟩:=hl i x v e1 e2 e3;refine⟨u,r,?_⟩;rcases l with l | ⟨k,c,e,z⟩
  ·exact .inl l
  ·exact .inr ⟨k,c,e,cellK c _ z⟩
 ·obtain⟨v,z⟩:=I.cell x c e;exact⟨v,cellK c v z⟩
 ·obtain⟨e,n,ne,nf,d⟩:=I.pin p hp;exact⟨k1 _ _ (hB p.1 p.2 e (fun z=>(F9.mp (I.jj _ z)).elim ne nf) (.inr (.inr ⟨p,hp,rfl⟩))),n,ne,nf,d⟩
theorem Inv.CT(I:Inv X ez σ H s){ea:Addr}{o:HO}(n:H ea=none)(hok:bF X.prog X.w (upd H ea o) s.heap ea o)(n0:X.s₀.heap.get? ea=none)(nl:ea≠X.env.locals)(nc:∀x c,X.env.cells.lookup x=some c->c≠ea)
  (np:∀p∈X.pn++ez,p.1≠ea):Inv X ez σ (upd H ea o) s:=by
 have ne:∀b u,H b=some u->b≠ea:=fun b u e z=>by rw[z,n]at e;cases e
 have n1:∀b u,X.s₀.heap.get? b=some u->b≠ea:=fun b u e z=>by rw[z,n0]at e;cases e
 refine⟨I.ok,I.os,I.bare,⟨I.base.keep,I.base.slot,fun b u e q hx=>?_,I.base.there,fun b xs e=>?_,fun b u v e=>?_,fun b x1 x2 x3 e=>?_⟩,I.loc,I.cell,?_,fun x c e=>?_,fun p hp=>?_,fun b u e=>?_,I.len⟩
 ·rw[ay (n1 b u e)];exact I.base.free b u e q hx
 ·have:=I.base.tups b xs e;rw[ay (ne b _ this)];exact this
 ·have:=I.base.iU b u v e;rw[ay (ne b _ this)];exact this
 ·have:=I.base.ji b _ _ _ e;rw[ay (ne b _ this)];exact this
 ·rw[ay (Gx nl)];exact I.free
 ·rw[ay (nc x c e)];exact I.cN x c e
 ·obtain⟨e,q,a,b,d⟩:=I.pin p hp;exact⟨e,by rw[ay (np p hp)];exact q,a,b,d⟩
 ·by_cases hb:b=ea
  ·subst hb;rw[aN]at e;cases e;exact hok
  ·rw[ay hb]at e;exact(I.hok b u e).stay (fun c v _ q=>q) (fun c q=>by rw[ay (ne c _ q)];exact q) (fun c _ _ q=>by rw[ay (ne c _ q)];exact q) fun c xs q=>by rw[ay (ne c _ q)];exact q
theorem name_goes{M:Model}{A:Around}{E:Value->Shared->Prop}{i:Nat}{n:Str}{pos:Pos}{Q:Unit->Shared->Prop}(I:Inv X ez σ H s)(hN:X.N.Nodup)(hi:X.N[i]?=some n)(hk:X.env.kindOf n=some .local)
  (h:∀s',Inv X ez (σ.set i none) H s'->Q () s'):wpAny M A (do bindName X.env n .none;unbindBehindTheSuite X.env n pos) Q E s:=by
 obtain⟨m,hn,hl⟩:=id I.loc;have hcls:(X.env.scope.kind == .class||(X.env.scope.kind == .module&&X.env.locals != X.env.globals))=false:=by rw[I.ok.kind];rfl
 have cne:=I.cne;refine iZ hk hn hcls fun h' m' hn' hy hs=>?_;have low:∀b o,X.s₀.heap.get? b=some o->b≠X.env.locals:=fun b o e=>Gm (FJ (FA e) I.ok.above);refine h _ ⟨I.ok,I.os,I.bare,⟨fun b o e n hb hx=>?_,fun b o e n hb hx=>?_,I.base.free,fun b o e hx=>?_,I.base.tups,I.base.iU,I.base.ji⟩,⟨m',hn',fun j y v' e1 e2 e3=>?_⟩,fun y c e=>?_,I.free,I.cN,fun p hp=>?_,fun b u e=>?_,by simpa using I.len⟩
 ·exact(hs.2 b (low b o e)).trans (I.base.keep b o e n hb hx)
 ·obtain⟨sl,e1⟩:=I.base.slot b o e n hb hx;exact⟨sl,(hs.2 b (low b o e)).trans e1⟩
 ·obtain⟨o',e1⟩:=I.base.there b o e hx;exact⟨o',(hs.2 b (low b o e)).trans e1⟩
 ·have hj:j≠i:=fun z=>by
   subst z;by_cases Kf:j<σ.length
   ·rw[F8 Kf]at e2;cases e2
   ·rw[GG (by simpa using Kf)]at e2;cases e2
  rw[gc (Gx hj)]at e2;obtain⟨u',r',q⟩:=hl j y v' e1 e2 e3;refine⟨u',r',?_⟩;rcases q with⟨k,e⟩ | ⟨k,c,e,z⟩
  ·exact .inl ⟨k,by rw[hy y fun e=>hj (jk hN e1 (e▸hi))];exact e⟩
  ·obtain⟨o,ho,hd⟩:=z;exact .inr ⟨k,c,e,o,(hs.2 c (cne y c e)).trans ho,hd⟩
 ·obtain⟨v,o,ho,hd⟩:=I.cell y c e;exact⟨v,o,(hs.2 c (cne y c e)).trans ho,hd⟩
 ·obtain⟨e,q,a,b,d⟩:=I.pin p hp;exact⟨(hs.2 _ a).trans e,q,a,b,d⟩
 ·refine(I.hok b u e).stay (fun c v hc q=>(hs.2 c ?_).trans q) (fun _ q=>q) (fun _ _ _ q=>q) fun _ _ q=>q;rintro rfl;rcases hc with rfl | hc
  ·rw[I.free]at e;cases e
  ·rw[I.free]at hc;cases hc
end
end L2
namespace Br
open PySem PySem.Spec PyProof.Rows L2
section
variable{ρ:Dm.Env}{H0 H:Hp}{σ:L2.St}
theorem az.drop(st:az H0 H σ ρ)(i:Nat):az H0 H (σ.set i none) (ρ.set i .un):=by
 have m:=st.mask i;have ne:∀{j:Nat} {c:Dm.Cell},(ρ.set i .un)[j]?=some c->c≠.un->j≠i:=fun {j c} e hc z=>by
  subst z;by_cases Kf:j<ρ.length
  ·rw[F8 Kf]at e;cases e;exact hc rfl
  ·rw[GG (by simpa using Kf)]at e;cases e
 have gs:∀{j:Nat},j≠i->(σ.set i none)[j]?=σ[j]?:=fun {j} h=>gc (Gx h);refine⟨m.same,by rw[Gu];exact m.len,fun j d e=>?_,fun j d e=>?_,fun j k d e a h1 h2 h3 h4=>?_⟩
 ·rw[gs (ne e (by simp))];exact m.sh j d e
 ·rw[gs (ne e (by simp))];exact m.ow j d e
 ·rw[gs (ne h1 (by simp))]at h3;rw[gs (ne h2 (by simp))]at h4;exact m.dis j k d e a h1 h2 h3 h4
theorem SSt.drop(st:az H0 H σ ρ){i:Nat}(h0:i≠0):SSt σ ρ H0 H (σ.set i none) (ρ.set i .un) H0 H:=by
 refine⟨az.drop st i,Stp.refl _ _ _,fun a ⟨j,d,h1,h2⟩=>.inl ?_,gc h0⟩;by_cases hj:i=j
 ·subst hj;by_cases Kf:i<ρ.length
  ·rw[F8 Kf]at h1;cases h1
  ·rw[GG (by simpa using Kf)]at h1;cases h1
 ·rw[gc hj]at h1 h2;exact⟨j,d,h1,h2⟩
noncomputable def φX(ea C:Addr):HO:=.ext fun h=>∃o,h.get? ea=some o/\o.cls=.ref C
theorem φX_ok{P:Program}{w:World}{H:Hp}{h:Heap}{ea C:Addr}{o:Obj}(e:h.get? ea=some o)(c:o.cls=.ref C):bF P w H h ea (φX ea C):=
 ⟨⟨o,e,c⟩,⟨o,e⟩,fun _ _ ⟨o,e,c⟩ k=>⟨o,k o e,c⟩⟩
noncomputable def Cx.in'(X:Cx)(pn:List (Addr×Obj))(xe:Value->Shared->Prop):Cx:={ X with pn:=X.pn++pn,xe:=xe }
noncomputable def Cx.sub'(X:Cx)(A:Around)(xe:Value->Shared->Prop):Cx:={ X with A:=A,calm:=false,xe:=xe }
end
section
variable{X:Cx}{ez pn:List (Addr×Obj)}{σ:L2.St}{H:Hp}{s:Shared}{xe:Value->Shared->Prop}
theorem ur(I:Inv X pn σ H s):Inv (Cx.in' X pn xe) [] σ H s:=
 ⟨⟨I.ok.1,I.ok.2,I.ok.3,I.ok.4,I.ok.5,I.ok.6,I.ok.7,I.ok.8,I.ok.9,I.ok.10,I.ok.11,I.ok.12,I.ok.13,I.ok.14,I.ok.15,I.ok.16,I.ok.17,I.ok.18⟩,I.os,I.bare,I.base,I.loc,I.cell,I.free,I.cN,fun p hp=>I.pin p (by rw[Gs]at hp;exact hp),I.hok,I.len⟩
theorem fM(I:Inv (Cx.in' X pn xe) ez σ H s):Inv X pn σ H s:=
 ⟨⟨I.ok.1,I.ok.2,I.ok.3,I.ok.4,I.ok.5,I.ok.6,I.ok.7,I.ok.8,I.ok.9,I.ok.10,I.ok.11,I.ok.12,I.ok.13,I.ok.14,I.ok.15,I.ok.16,I.ok.17,I.ok.18⟩,I.os,I.bare,I.base,I.loc,I.cell,I.free,I.cN,fun p hp=>I.pin p (Hw _ hp),I.hok,I.len⟩
theorem qx{A:Around}(hA:A.frames=X.A.frames)(I:Inv X ez σ H s):Inv (Cx.sub' X A xe) ez σ H s:=
 ⟨⟨I.ok.1,I.ok.2,I.ok.3,I.ok.4,I.ok.5,I.ok.6,I.ok.7,I.ok.8,(fun h=>nomatch h),hA.trans I.ok.10,I.ok.11,I.ok.12,I.ok.13,I.ok.14,I.ok.15,I.ok.16,I.ok.17,I.ok.18⟩,I.os,I.bare,I.base,I.loc,I.cell,I.free,I.cN,I.pin,I.hok,I.len⟩
theorem kX{A:Around}(ok:X.Ok)(I:Inv (Cx.sub' X A xe) ez σ H s):Inv X ez σ H s:=
 ⟨ok,I.os,I.bare,I.base,I.loc,I.cell,I.free,I.cN,I.pin,I.hok,I.len⟩
end
structure kY(K:fj)(C:Addr):Prop where
 get:PySem.W.gf K C
 cls:(Io K C).isSome=true
noncomputable def φXF(ea C d:Addr):HO:=.ext fun h=>∃o,h.get? ea=some o/\o.cls=.ref C/\o.dict=some d/\∀c,o.data≠.cls c
def ExK(H:Hp)(a C:Addr):Prop:=H a=some (φX a C)\/∃d,H a=some (φXF a C d)
theorem ExK.ne{H:Hp}{a C b:Addr}(x:ExK H a C)(h:H b=none):a≠b:=fun z=>by subst z;rcases x with x | ⟨d,x⟩<;>rw[h]at x<;>cases x
theorem ExK.upd{H:Hp}{a C b:Addr}{o:HO}(x:ExK H a C)(h:H b=none):ExK (L2.upd H b o) a C:=by
 have n:=x.ne h;rcases x with x | ⟨d,x⟩
 ·exact .inl (by rw[ay n];exact x)
 ·exact .inr ⟨d,by rw[ay n];exact x⟩
def CU(K:fj)(C:Addr)(c:V)(b:Bool):List V->Hp->VK->Prop:=fun xs H Q=>∃a,xs=[.ref a,c]/\ExK H a C/\Q (.bl b) H
section
variable{X:Cx}{C:Addr}{e:Expr}{f:FE}{p p2 pos:Pos}{b:Bool}
section
variable{σ:L2.St}{tn:Str}{H:Hp}{c:V}
theorem yV{ez:List (Addr×Obj)}{s:Shared}{a:Addr}(I:Inv X ez σ H s)(h:ExK H a C):PySem.W.kG a C s.heap:=by
 rcases h with h | ⟨d,h⟩
 ·exact(I.hok a _ h).1
 ·obtain⟨o,e,c,_⟩:=(I.hok a _ h).1;exact⟨o,e,c⟩
theorem nF{u2:Value}(hc:RelV c u2)(hu:∀u,RelV c u->u=u2)(Z:kY X.K C)(k:GA X.K (.ref C) u2=some b):cS X (.builtin "isinstance") (CU X.K C c b):=by intro ez s σ H xs us Q I r h;obtain⟨a,rfl,ha,q⟩:=h;obtain⟨u,u3,rfl,rx,ry⟩:=vals2 r;cases rx;obtain rfl:=hu u3 ry;exact Gp (PySem.W.nD Z.get Z.cls) I.kIn (yV I ha) k (by intro q;cases q) fun tk=>⟨.bl b,H,I.tok tk,rfl,q⟩
theorem yW{Q:VK}(h:tD (Dm.e1 (Dm.iY C b) f) σ H Q):tCB (CU X.K C c b) (iJ (tD f) (iJ (tC c) sX)) σ H Q:=by
 obtain⟨H0,ρ,x,ρ',st,e,k⟩:=h;unfold Dm.e1 at e;split at e
 ·cases e
 rename_i x1 ρ1 e1;split at e
 ·cases e
 rename_i dx p1;cases dx with
 |exc C'=>
  unfold Dm.iY at e;dsimp only at e;by_cases hC:C'=C
  ·subst hC;rw[if_pos rfl]at e;cases e;refine⟨H0,ρ,x1,_,st,e1,fun v H1 Hb t1 r1=>?_⟩;have rv:Rep Hb v (.exc C'):=(r1.look t1.st p1).full t1.st.same;cases rv with
   |exc q=>exact⟨_,rfl,.inl q,k _ H1 Hb t1 (Rep.bl _)⟩
  ·rw[if_neg hC]at e;cases e
 |cg C' mv=>
  unfold Dm.iY at e;dsimp only at e;by_cases hC:C'=C
  ·subst hC;rw[if_pos rfl]at e;cases e;refine⟨H0,ρ,x1,_,st,e1,fun v H1 Hb t1 r1=>?_⟩;have rv:Rep Hb v (.cg C' mv):=(r1.look t1.st p1).full t1.st.same;cases rv with
   |cg q _=>exact⟨_,rfl,.inr ⟨_,q⟩,k _ H1 Hb t1 (Rep.bl _)⟩
  ·rw[if_neg hC]at e;cases e
 |_=>cases e
theorem CV{D:Addr}(Z:kY X.K C)(k:GA X.K (.ref C) (.ref D)=some b)(hgT:Gl X tn)(hmT:X.mg tn=some (.ref D))(hg:Gl X "isinstance")(hm:X.mg "isinstance" = none)(h:DE X e f)(Kd:(tn == ("__debug__" : Str))=false:=by decide)
  (he:starEach [e,.Name tn p2] X.env=(false,eval e X.env)::starEach [.Name tn p2] X.env:=by rfl) (AZ:(backTo pos (starEach [.Name tn p2] X.env)).any (·.1)=false:=by rfl) (he2:starEach [.Name tn p2] X.env=(false,eval (.Name tn p2) X.env)::starEach [] X.env:=by rfl) :
  DE X (.Call (.Name "isinstance" p) [e,.Name tn p2] [] pos) (Dm.e1 (Dm.iY C b) f):=
 PE.weak (e7 (nF (c:=.ref D) rfl (fun u q=>q) Z k) hg hm GN (cK h (cK (ja (v:=.ref D) hgT hmT rfl Kd) ir he2) he) (he:=he) (AZ:=AZ)) fun _ _ _=>yW
theorem AJ{T:String}(Z:kY X.K C)(k:GA X.K (.ref C) (.type T)=some b)(hvT:bootBuiltins tn=some (.type T))(hgT:Gl X tn)(hmT:X.mg tn=none)(hg:Gl X "isinstance")(hm:X.mg "isinstance" = none)(h:DE X e f)(hn:tn ≠ "__name__" := by decide)(Kd:(tn == ("__debug__" : Str))=false:=by decide)
  (he:starEach [e,.Name tn p2] X.env=(false,eval e X.env)::starEach [.Name tn p2] X.env:=by rfl) (AZ:(backTo pos (starEach [.Name tn p2] X.env)).any (·.1)=false:=by rfl) (he2:starEach [.Name tn p2] X.env=(false,eval (.Name tn p2) X.env)::starEach [] X.env:=by rfl) :
  DE X (.Call (.Name "isinstance" p) [e,.Name tn p2] [] pos) (Dm.e1 (Dm.iY C b) f):=
 PE.weak (e7 (nF (c:=.ty T) rfl (fun u q=>by cases q;rfl) Z k) hg hm GN (cK h (cK (qe (v:=.ty T) hgT hmT hvT rfl hn Kd) ir he2) he) (he:=he) (AZ:=AZ)) fun _ _ _=>yW
end
end
def tK(vs:List V):TA:=fun _ H Q=>Q vs H
def CW(K:fj)(C:Addr)(Ds:List Addr)(b:Bool):List V->Hp->VK->Prop:=fun xs H Q=>∃a tp,xs=[.ref a,.ref tp]/\ExK H a C/\H tp=some (.tup (Ds.map V.ref))/\Q (.bl b) H
theorem kZ:∀{Ds:List Addr} {us:List Value},Vals (Ds.map V.ref) us->us=Ds.map GC
 |[],_,.nil=>rfl
 |D::Ds,_,.cons r t=>by rw[kZ t];cases r;rfl
section
variable{X:Cx}{C:Addr}{e:Expr}{es:List Expr}{f:FE}{p p2 pos:Pos}{b:Bool}{Ds:List Addr}
theorem CY:PA X [] (tK []):=ir
theorem iy{D:Addr}{tn:Str}(hgT:Gl X tn)(hmT:X.mg tn=some (.ref D))(h:PA X es (tK (Ds.map V.ref)))(Kd:(tn == ("__debug__" : Str))=false:=by decide)(hs:starEach (.Name tn p2::es) X.env=(false,eval (.Name tn p2) X.env)::starEach es X.env:=by rfl) :
  PA X (.Name tn p2::es) (tK ((D::Ds).map V.ref)):=PA.weak (cK (ja (v:=.ref D) hgT hmT rfl Kd) h hs) fun _ _ _ q=>q
theorem uu(Z:kY X.K C)(k:HK X.K (.ref C) (Ds.map GC)=some b):cS X (.builtin "isinstance") (CW X.K C Ds b):=by
 intro ez s σ H xs us Q I r h;obtain⟨a,tp,rfl,ha,ht,q⟩:=h;obtain⟨u,u3,rfl,rx,ry⟩:=vals2 r;cases rx;cases ry;obtain⟨_,its,vr,o,ho,hc,n,hd⟩:=(show bF X.prog X.w H s.heap tp (.tup (Ds.map V.ref)) from I.hok tp _ ht)
 obtain rfl:=kZ vr;obtain⟨oc,od,oda,osl⟩:=o;dsimp only at hc hd;subst hc hd;exact PySem.W.kia_tup (PySem.W.nD Z.get Z.cls) I.kIn (yV I ha) ho k (by intro q;cases q) fun tk=>⟨.bl b,H,I.tok tk,rfl,q⟩
theorem CZ{σ:L2.St}{H:Hp}{Q:VK}(hz:Ds.length<=1000)(h:tD (Dm.e1 (Dm.iY C b) f) σ H Q):tCB (CW X.K C Ds b) (iJ (tD f) (iJ (zY (tK (Ds.map V.ref))) sX)) σ H Q:=by
 obtain⟨H0,ρ,x,ρ',st,e,k⟩:=h;unfold Dm.e1 at e;split at e
 ·cases e
 rename_i x1 ρ1 e1;split at e
 ·cases e
 rename_i dx p1;cases dx with
 |exc C'=>
  unfold Dm.iY at e;dsimp only at e;by_cases hC:C'=C
  ·subst hC;rw[if_pos rfl]at e;cases e;refine⟨H0,ρ,x1,_,st,e1,fun v H1 Hb t1 r1=>?_⟩;have rv:Rep Hb v (.exc C'):=(r1.look t1.st p1).full t1.st.same;cases rv with
   |exc q=>refine⟨by rw[Fw];exact Hh (kO hz),fun tp ht=>?_⟩;exact⟨_,tp,rfl,ExK.upd (.inl q) ht,aN,k _ H1 _ (t1.trans (.grow t1.st (aE.oW t1.st.same ht))) (Rep.bl _)⟩
  ·rw[if_neg hC]at e;cases e
 |cg C' mv=>
  unfold Dm.iY at e;dsimp only at e;by_cases hC:C'=C
  ·subst hC;rw[if_pos rfl]at e;cases e;refine⟨H0,ρ,x1,_,st,e1,fun v H1 Hb t1 r1=>?_⟩;have rv:Rep Hb v (.cg C' mv):=(r1.look t1.st p1).full t1.st.same;cases rv with
   |cg q _=>refine⟨by rw[Fw];exact Hh (kO hz),fun tp ht=>?_⟩;exact⟨_,tp,rfl,ExK.upd (.inr ⟨_,q⟩) ht,aN,k _ H1 _ (t1.trans (.grow t1.st (aE.oW t1.st.same ht))) (Rep.bl _)⟩
  ·rw[if_neg hC]at e;cases e
 |_=>cases e
theorem C0{pt:Pos}{cx:Nat}(Z:kY X.K C)(k:HK X.K (.ref C) (Ds.map GC)=some b)(hT:PA X es (tK (Ds.map V.ref)))(hz:Ds.length<=1000)(hg:Gl X "isinstance")(hm:X.mg "isinstance" = none)(h:DE X e f)
  (he:starEach [e,.Tuple es cx pt] X.env=(false,eval e X.env)::starEach [.Tuple es cx pt] X.env:=by rfl) (AZ:(backTo pos (starEach [.Tuple es cx pt] X.env)).any (·.1)=false:=by rfl) (he2:starEach [.Tuple es cx pt] X.env=(false,eval (.Tuple es cx pt) X.env)::starEach [] X.env:=by rfl) :
  DE X (.Call (.Name "isinstance" p) [e,.Tuple es cx pt] [] pos) (Dm.e1 (Dm.iY C b) f):=
 PE.weak (e7 (uu Z k) hg hm GN (cK h (cK (sY hT) ir he2) he) (he:=he) (AZ:=AZ)) fun _ _ _=>CZ hz
end
theorem uv{K:fj}{h₀:Heap}{mg:Str->Option Value}{x:Str}{C:Addr}{bmB:List Value}{newId:String}(X:K.In h₀)(G:mg x=some (.ref C))(q:Ip K C bmB newId=true):OwnCls x C bmB newId mg h₀:=by
 refine⟨G,?_⟩;unfold Ip at q;split at q
 ·rename_i dd cd sl ho;split at q
  ·rename_i C' bm k0 k1 k2 k3 n k5 hm hs;simp only[FH,beq_iff_eq,Bool.not_eq_true']at q;obtain⟨⟨⟨⟨⟨rfl,rfl⟩,C1⟩,ht⟩,hok⟩,hni⟩:=q;obtain⟨nm,bs,mro,ns,qn,hd,sn,sub,ab,col,del⟩:=cd;dsimp only at hm C1 hok hni;subst hm C1;have hsl:sl=#[k0,k1,k2,k3,some (.builtin n),k5]:=by
    obtain⟨l⟩:=sl;simp only at hs;rw[hs]
   subst hsl;exact⟨bm,ns,nm,qn,bs,hd,sn,sub,ab,col,dd,k0,k1,k2,k3,k5,_,X _ _ ho,.of_isNs (PySem.W.isNs_of_in X hok),PySem.W.nsMap_none_of_in X hok hni,PySem.W.tail_of_in X ht⟩
  ·cases q
 ·cases q
noncomputable abbrev bmV:List Value:=[.type "ValueError",.type "Exception",.type "BaseException",.type "object"]
section
variable{X:Cx}{a b c e:Expr}{f fa fb fc:FE}{p p2 pos:Pos}{es:List Expr}{fs:List FE}
theorem xu:OpR X (compareOp .IsNot) (xg true):=by intro ez s σ H x y v u Q I rx ry h;obtain⟨rfl,q⟩:=h;cases ry;refine isnot_none_gen ?_;rw[qv rx];exact⟨.bl _,H,I,rfl,q⟩
theorem xw:OpD (xg true) Dm.kU:=by
 intro H0 H x y dx dy z Q s rx ry e k;unfold Dm.kU at e;split at e
 ·cases e;have hy:=jc ry;have:y=V.non:=of_decide_eq_true (hy.trans rfl);refine⟨this,?_⟩;rw[if_pos rfl,jc rx];exact k _ H0 H (aE.refl s) (.bl _)
 ·cases e
theorem uw(ha:DE X a fa)(hb:DE X b fb):DT X (.Compare a [.IsNot] [b] pos) (Dm.tV (Dm.e2 Dm.kU fa fb)):=gS xu xw ha hb (dX _)
end
end Br
namespace Dm
noncomputable abbrev FN:=Env->List (List Dat)->Option (Env×List (List Dat))
end Dm
namespace Br
open PySem PySem.Spec PyProof.Rows L2
section
variable{X:Cx}{a b c e:Expr}{fa fb fc:FE}{p pos:Pos}
theorem qy{op op':CmpOp}{r r':R2}{g h:Dat->Dat->Option RV}(o1:OpR X (compareOp op) r)(q1:OpD r g)(o2:OpR X (compareOp op') r')(q2:OpD r' h)(ha:DE X a fa)(hb:DE X b fb)(hc:DE X c fc)
  (hm:lastMarks [op,op'] [b,c]=false:=by with_unfolding_all rfl):DT X (.Compare a [op,op'] [b,c] pos) (Dm.tV (Dm.aF g h fa fb fc)):=PT.weak (sW o1 o2 ha hb hc hm) fun _ _ _ h=>qu q1 q2 (oZ h)
end
open PySem
variable{C:List Value->Prop}{us:List Value}
theorem len0(h:us.length=0)(c:C []):C us:=by rw[GK h];exact c
theorem rR{n:Nat}{C:List Value->Prop}{us:List Value}(h:us.length=n+1)(c:∀a us,us.length=n->C (a::us)):C us:=by
 cases us with
 |nil=>cases h
 |cons a us=>exact c a us (by simpa using h)
theorem C2(h:us.length=1)(c:∀a,C [a]):C us:=rR h fun a _ h=>len0 h (C:=fun us=>C (a::us)) (c a)
theorem ud(h:us.length=2)(c:∀a b,C [a,b]):C us:=rR h fun a _ h=>C2 h (C:=fun us=>C (a::us)) (c a)
theorem C3(h:us.length=3)(c:∀a b d,C [a,b,d]):C us:=rR h fun a _ h=>ud h (C:=fun us=>C (a::us)) (c a)
theorem EI(h:us.length=4)(c:∀a b d e,C [a,b,d,e]):C us:=rR h fun a _ h=>C3 h (C:=fun us=>C (a::us)) (c a)
end Br
namespace L2
open PySem
variable{K:fj}{x qual:Str}{st:Stmt}{f:Addr}{fd:FuncData}{ps:List Str}
theorem Fun.ef(F:Fun K x qual st f fd)(hp:ps.length=1)(h:∀(kV doc pm:Value) (an:Option Addr) (cdv ct:Value) (a:Value),bindArgs (Gn x qual (bG st) (a_ st) (af st) .none kV doc pm an cdv ct) ⟨[a],[]⟩=pure (ps.zip [a])):Binds K fd ps []:=
 F.binds fun kV doc pm an cdv ct us hl=>Br.C2 (C:=fun us=>bindArgs (Gn x qual (bG st) (a_ st) (af st) .none kV doc pm an cdv ct) ⟨us,[]⟩=pure (ps.zip us)) (hl.trans hp) (h kV doc pm an cdv ct)
theorem Fun.dG(F:Fun K x qual st f fd)(hp:ps.length=2)(h:∀(kV doc pm:Value) (an:Option Addr) (cdv ct:Value) (a b:Value),bindArgs (Gn x qual (bG st) (a_ st) (af st) .none kV doc pm an cdv ct) ⟨[a,b],[]⟩=pure (ps.zip [a,b])):Binds K fd ps []:=
 F.binds fun kV doc pm an cdv ct us hl=>Br.ud (C:=fun us=>bindArgs (Gn x qual (bG st) (a_ st) (af st) .none kV doc pm an cdv ct) ⟨us,[]⟩=pure (ps.zip us)) (hl.trans hp) (h kV doc pm an cdv ct)
theorem Fun.o9(F:Fun K x qual st f fd)(hp:ps.length=3)(h:∀(kV doc pm:Value) (an:Option Addr) (cdv ct:Value) (a b d:Value),bindArgs (Gn x qual (bG st) (a_ st) (af st) .none kV doc pm an cdv ct) ⟨[a,b,d],[]⟩=pure (ps.zip [a,b,d])):Binds K fd ps []:=
 F.binds fun kV doc pm an cdv ct us hl=>Br.C3 (C:=fun us=>bindArgs (Gn x qual (bG st) (a_ st) (af st) .none kV doc pm an cdv ct) ⟨us,[]⟩=pure (ps.zip us)) (hl.trans hp) (h kV doc pm an cdv ct)
theorem Fun.AK(F:Fun K x qual st f fd)(hp:ps.length=4)(h:∀(kV doc pm:Value) (an:Option Addr) (cdv ct:Value) (a b d e:Value),bindArgs (Gn x qual (bG st) (a_ st) (af st) .none kV doc pm an cdv ct) ⟨[a,b,d,e],[]⟩=pure (ps.zip [a,b,d,e])):Binds K fd ps []:=
 F.binds fun kV doc pm an cdv ct us hl=>Br.EI (C:=fun us=>bindArgs (Gn x qual (bG st) (a_ st) (af st) .none kV doc pm an cdv ct) ⟨us,[]⟩=pure (ps.zip us)) (hl.trans hp) (h kV doc pm an cdv ct)
end L2
namespace Br
open PySem PySem.Spec PyProof.Rows L2
open PySem L2
structure cF(K:fj)(x:Str)(st:Stmt)(a:Addr)(fd:FuncData):Prop where
 e:FU K mainGlobals x=some (some (.ref a))
 F:Fun K x x st a fd
variable{K:fj}{x:Str}{st:Stmt}{a:Addr}{fd:FuncData}{hp:Heap}{mg:Str->Option Value}
theorem aT{oc:Value}{od an:Option Addr}{osl:Array (Option Value)}{kV doc pm cdv ct:Value}(e:FU K mainGlobals x=some (some (.ref a)))
  (l:K.lookup a=some ⟨oc,od,.func (Gn x x (bG st) (a_ st) (af st) .none kV doc pm an cdv ct),osl⟩) (c:HJ K cdv x=true) (k:G0 K (.ref a)=true) :
  cF K x st a (Gn x x (bG st) (a_ st) (af st) .none kV doc pm an cdv ct):=⟨e,Aa l c k⟩
theorem mgo{v:Value}(X:K.In hp)(G:hp.Ns mainGlobals mg)(e:FU K mainGlobals x=some (some v)):mg x=some v:=PySem.W.mg_of X G e
theorem mno(X:K.In hp)(G:hp.Ns mainGlobals mg)(e:FU K mainGlobals x=some none):mg x=none:=PySem.W.mg_none_of X G e
theorem cF.m(h:cF K x st a fd)(X:K.In hp)(G:hp.Ns mainGlobals mg):mg x=some (.ref a):=PySem.W.mg_of X G h.e
theorem cF.EJ{y:Str}(h:cF K x st a fd)(hb:∀(kV doc pm:Value) (an:Option Addr) (cdv ct v:Value),bindArgs (Gn x x (bG st) (a_ st) (af st) .none kV doc pm an cdv ct) ⟨[v],[]⟩=pure [(y,v)])(s:Shared)(v:Value):BindsTo s fd ⟨[v],[]⟩ [(y,v)]:=by obtain⟨oc,od,kV,doc,pm,an,cdv,ct,osl,rfl,lk,Kg⟩:=h.F.ex;exact .of_eq (hb kV doc pm an cdv ct v)
theorem hm{j k:Nat}{A:Around}(r:b_ k A)(h:j<=k:=by decide):b_ j A:=r.mono h
theorem fsc{N P:List Str}{sc:Scope}(h1:sc.kind=.function:=by rfl)(h2:sc.isCoroutine=false:=by rfl)(h3:sc.isGenerator=false:=by rfl)(h4:N.take P.length=P:=by rfl)(h:N.Nodup/\(∀x∈P,sc.names.lookup x=some .local\/sc.names.lookup x=some .cell)/\∀y∈sc.names,y.2≠.free:=by decide +kernel):aD N P sc:=⟨h1,h2,h3,h.1,h4,h.2.1,h.2.2⟩
end Br
namespace Dm
noncomputable def ux(s:FS)(R:Env->Option Env)(ρ:Env):Option Env:=match s ρ with
 |some (.nx ρ1)=>R ρ1
 |_=>none
noncomputable def sUn(f g:FS):FS:=fun ρ=>match f ρ with
 |some x=>some x
 |none=>g ρ
noncomputable def k6(R:Env->Option Env)(C ie:Nat)(h:FS):FS:=fun ρ=>match R ρ with
 |none=>none
 |some ρ1=>if ie=0 then none else match h (ρ1.set ie (.sh (.exc C))) with
  |some (.nx ρ')=>some (.nx (ρ'.set ie .un))
  |some (.ret r ρ')=>some (.ret r (ρ'.set ie .un))
  |_=>none
noncomputable def nG:List Nat->List Bool->Nat->Option Bool
 |C::cs,b::bs,D=>if D=C then some b else nG cs bs D
 |_,_,_=>none
noncomputable def eU(cs:List Nat)(bs:List Bool):Dat->Option RV
 |.exc C=>(nG cs bs C).bind vB
 |.cg C _=>(nG cs bs C).bind vB
 |_=>none
end Dm
namespace Br
open PySem PySem.Spec PyProof.Rows L2
section
variable{X:Cx}{C:Addr}{E:L2.St->XK}{R S:Dm.Env->Option Dm.Env}{sts uL:List Stmt}{st:Stmt}
section
variable{σ:L2.St}{t:FT}{H:Hp}
theorem EK{f g:FS}(h1:DS X st f)(h2:DS X st g):DS X st (Dm.sUn f g):=fun ez s σ H D I q=>by
 obtain⟨H0,ρ,o,rs,e,k⟩:=q;unfold Dm.sUn at e;split at e
 ·rename_i y hy;exact h1 ez s σ H D I ⟨H0,ρ,o,rs,hy.trans e,k⟩
 ·exact h2 ez s σ H D I ⟨H0,ρ,o,rs,e,k⟩
def tY(C:Addr)(E:L2.St->XK)(R:Dm.Env->Option Dm.Env)(σ:L2.St)(H:Hp):Prop:=∃H0 ρ ρ',az H0 H σ ρ/\R ρ=some ρ'/\∀σ' a H0' H',SSt σ ρ H0 H σ' ρ' H0' H'->E σ' (.ref C) (some a) H'
noncomputable abbrev YS(X:Cx)(C:Addr)(E:L2.St->XK)(st:Stmt)(R:Dm.Env->Option Dm.Env):Prop:=PS X st (fun _ σ H=>tY C E R σ H)
noncomputable abbrev YB(X:Cx)(C:Addr)(E:L2.St->XK)(sts:List Stmt)(R:Dm.Env->Option Dm.Env):Prop:=PSs X sts (fun _ σ H=>tY C E R σ H)
theorem tY.x(h:tY C E R σ H):tX C E R σ H:=by obtain⟨H0,ρ,ρ',st,e,k⟩:=h;exact⟨H0,ρ,ρ',st,e,fun a H0' H' t=>k σ a H0' H' t.sst⟩
theorem y_x(h:XS X C E st R):YS X C E st R:=PS.weak h fun _ _ _ q=>q.x
theorem uy(h:YS X C E st R):YB X C E (st::uL) R:=by have:=ug (uL:=uL) h;exact fun ez s σ H D I q=>this ez s σ H D I q
theorem C4{s:FS}(h1:DS X st s)(h2:YB X C E uL R):YB X C E (st::uL) (Dm.ux s R):=PSs.weak (mT h1 h2) fun D σ H q=>by
 obtain⟨H0,ρ,ρ',rs,e,k⟩:=q;unfold Dm.ux at e;split at e
 case h_2=>cases e
 rename_i ρ1 hs;exact⟨H0,ρ,_,rs,hs,fun σ' H0' H' t=>⟨H0',ρ1,ρ',t.st,e,fun σ'' a lU H'' u=>k σ'' a lU H'' (t.trans u)⟩⟩
theorem C5(h:tY C E (Dm.rIf t R S) σ H):tDT t σ H fun b H1=>if b=true then tY C E R σ H1 else tY C E S σ H1:=by
 obtain⟨H0,ρ,ρ',rs,e,k⟩:=h;unfold Dm.rIf at e;split at e
 ·cases e
 ·rename_i ρ1 ht;exact⟨H0,ρ,true,ρ1,rs,ht,fun H0' H' u=>by show (if true=true then _ else _);rw[if_pos rfl];exact⟨H0',ρ1,ρ',u.st,e,fun σ'' a lU H'' w=>k σ'' a lU H'' (u.sst.trans w)⟩⟩
 ·rename_i ρ1 ht;exact⟨H0,ρ,false,ρ1,rs,ht,fun H0' H' u=>by show (if false=true then _ else _);rw[if_neg (by decide)];exact⟨H0',ρ1,ρ',u.st,e,fun σ'' a lU H'' w=>k σ'' a lU H'' (u.sst.trans w)⟩⟩
theorem EL{c:Expr}{a b:List Stmt}{pos:Pos}(hc:DT X c t)(ha:YB X C E a R)(hb:YB X C E b S):YS X C E (.If c a b pos) (Dm.rIf t R S):=PS.weak (yH hc ha hb) fun _ _ _ q=>C5 q
theorem EM:YB X C E sts Dm.rNo:=fun ez s σ H D I h=>by obtain⟨_,_,_,_,e,_⟩:=h;cases e
end
end
theorem AL{X:Cx}{body:List Stmt}{h0:ExceptHandler}{hs:List ExceptHandler}{q:FS}{pos:Pos}(hb:∀(pn:List (Addr×Obj)) (xe:Value->Shared->Prop),DSs (Cx.in' X pn xe) body q):DS X (.Try body (h0::hs) [] [] pos) q:=by
 intro ez s σ H D I hq;refine wpAny_Try_except ?_;refine wpAny_mono (hb ez _ [] s σ H D (ur I) hq) (fun f s1 z=>?_) fun _ _ z=>z;cases f with
 |next=>obtain⟨σ',H',J,k⟩:=z;exact wpAny_execs_nil ⟨σ',H',fM J,k⟩
 |ret v=>obtain⟨u,σ',H',J,r,k⟩:=z;exact⟨u,σ',H',fM J,r,k⟩
 |brk=>obtain⟨σ',H',J,k⟩:=z;exact⟨σ',H',fM J,k⟩
 |cont=>obtain⟨σ',H',J,k⟩:=z;exact⟨σ',H',fM J,k⟩
section
variable{X:Cx}{ez pn:List (Addr×Obj)}{σ:L2.St}{H:Hp}{s:Shared}{xe:Value->Shared->Prop}
theorem AM{x n:Str}{np hpos pos:Pos}{body suite:List Stmt}{b₀:Stmt}{R:Dm.Env->Option Dm.Env}{h:FS}{C CP:Addr}{ie:Nat}
  (hst:X.stack=X.env::X.outer) (hfr:X.env.frame=some X.env.locals) (hex:X.ex=[]) (hN:X.N.Nodup) (hi:X.N[ie]?=some n) (hk:X.env.kindOf n=some .local) (hg:Gl X x) (hm:X.mg x=some (.ref CP)) (Z:PySem.W.lY X.K C CP)
  (hb:∀(pn:List (Addr×Obj)) (xe:Value->Shared->Prop) (E:L2.St->XK),uh C (Cx.in' X pn xe) E->YB (Cx.in' X pn xe) C E body R)
  (hh:∀(A':Around) (xe:Value->Shared->Prop),DSs (Cx.sub' X A' xe) (b₀::suite) h) (Kd:(x == ("__debug__" : Str))=false:=by decide) :
  DS X (.Try body [.ExceptHandler (some (.Name x np)) (some n) (b₀::suite) hpos] [] [] pos) (Dm.k6 R C ie h):=by
 intro ez s σ H D I hq;obtain⟨H0,ρ,o,st,e,ok⟩:=hq;unfold Dm.k6 at e;split at e
 ·cases e
 rename_i ρ1 hR;split at e
 ·cases e
 rename_i h0;refine wpAny_Try_except ?_;refine wpAny_mono (hb ez (fun e s₁=>wpAny (model X.prog X.w) X.A (noteFrame e X.env) (fun _ s₂=>wpAny (model X.prog X.w) X.A (setFlight e none) (fun _ s₃=>wpAny (model X.prog X.w) X.A (handleBy e X.env [.ExceptHandler (some (.Name x np)) (some n) (b₀::suite) hpos]) (SP X ez D) X.xe s₃) X.xe s₂) X.xe s₁)
  (fun σ' _ _ H'=>∃H0',SSt σ ρ H0 H σ' ρ1 H0' H') ?pass [] s σ H DF (ur I) ⟨H0,ρ,ρ1,st,hR,fun σ' a H0' H' t=>⟨H0',t⟩⟩) ?q fun _ _ z=>z
 case q=>
  intro f s1 z;cases f with
  |next=>obtain⟨_,_,_,q⟩:=z;exact FG q
  |ret v=>obtain⟨_,_,_,_,_,q⟩:=z;exact FG q
  |brk=>obtain⟨_,_,_,q⟩:=z;exact FG q
  |cont=>obtain⟨_,_,_,q⟩:=z;exact FG q
 case pass=>
  intro E8 σ1 H1 s1 e s' I1 hq;obtain⟨ea,a0,B,H',rfl,os,bare,un,hok,fl,hB,H0',t1⟩:=hq;obtain⟨hh',g,d,t,os'⟩:=s';obtain rfl:os'=s1.os:=os;have J:Inv X ez σ1 H' ⟨hh',g,d,t,s1.os⟩:=fM (I1.call (h':=hh') (g':=g) (d':=d) (t':=t) (ch:=[]) un hok bare (fun b z=>absurd z (by simp)));have J1:Inv X ez σ1 H1 s1:=fM I1;have AO:∀b o,X.s₀.heap.get? b=some o->∃o1,s1.heap.get? b=some o1:=fun b o e=>J1.base.there b o e (by rw[hex];exact fun z=>nomatch z);have hB':∀b o,hh'.get? b=some o->b∉frs X.stack->((X.s₀.heap.get? b).isSome=true\/(H' b).isSome=true\/∃p∈X.pn++ez,p.1=b)->B.get? b=some o:=fun b o e nb hc=>by
   refine hB b o e ?_ nb;rcases hc with hc | hc | ⟨p,hp,rfl⟩
   ·obtain⟨o0,e0⟩:=Gf.mp hc;obtain⟨o1,e1⟩:=AO b o0 e0;exact .inl (by rw[e1];rfl)
   ·exact .inr hc
   ·exact .inl (by rw[(J1.pin p hp).1];rfl)
  have hfs:X.A.frames=some (X.env::X.outer):=by rw[J.ok.frames,hst]
  have fl':Heap.FlyingW B (X.env::X.outer) ea (.ref C) a0 hh':=by rw[<- hst];exact fl
  show wpAny (model X.prog X.w) X.A (noteFrame (.ref ea) X.env) _ _ _;refine wpAny_looks_onW (base:=B) (L:=X.env.locals) hfs hfr fl' fun h4 held sl4=>?_;refine wpAny_landsW held fun h5 fl5 sl5=>?_;have J5:Inv X ez σ1 H' ⟨h5,g,d,t,s1.os⟩:=J.fly (t':=t) hex hB' fl5.1 (sl4.trans sl5);obtain⟨oe,vs,he,hc,hd,_⟩:=fl'.first
  have neF:ea∉frs X.stack:=fun z=>by rw[hst]at z;obtain⟨_,o',ho',hd'⟩:=fl'.2.2.1.mem z;rw[he]at ho';cases ho';exact hd' vs hd
  have noB:B.get? ea=none:=fl'.2.1;have nH:H' ea=none:=by
   cases q:H' ea with
   |none=>rfl
   |some u=>have:=hB' ea oe he neF (.inr (.inl (by rw[q];rfl)));rw[noB]at this;cases this
  have n0:X.s₀.heap.get? ea=none:=by
   cases q:X.s₀.heap.get? ea with
   |none=>rfl
   |some u=>have:=hB' ea oe he neF (.inl (by rw[q];rfl));rw[noB]at this;cases this
  have nl:ea≠X.env.locals:=fun z=>by obtain⟨m,⟨o,es,ep,ho,hd',_⟩,_⟩:=J.loc;rw[<- z,he]at ho;cases ho;rw[hd]at hd';cases hd'
  have nc:∀y c,X.env.cells.lookup y=some c->c≠ea:=fun y c e z=>by obtain⟨v,o,ho,hd'⟩:=J.cell y c e;rw[z,he]at ho;cases ho;rw[hd]at hd';cases hd'
  have np:∀p∈X.pn++ez,p.1≠ea:=fun p hp z=>by have:=hB' ea oe he neF (.inr (.inr ⟨p,hp,z⟩));rw[noB]at this;cases this
  have hB5:∀b o,h5.get? b=some o->b∉frs X.stack->((X.s₀.heap.get? b).isSome=true\/(H' b).isSome=true\/∃p∈X.pn++ez,p.1=b)->B.get? b=some o:=fun b o e nb Kg=>by
   have:∃o',hh'.get? b=some o':=by
    rcases Kg with hc | hc | ⟨p,hp,rfl⟩
    ·obtain⟨o0,e0⟩:=Gf.mp hc;exact J.base.there b o0 e0 (by rw[hex];exact fun z=>nomatch z)
    ·obtain⟨u,e0⟩:=Gf.mp hc;exact(J.hok b u e0).there
    ·exact⟨_,(J.pin p hp).1⟩
   obtain⟨o',e'⟩:=this;have q:=hB' b o' e' nb Kg;have q2:=fl5.1 b o' q;rw[e]at q2;cases q2;exact q
  obtain⟨oe5,he5,hc5⟩:=fl5.there;refine wpAny_handleBy_cons (codeAny_handlers_test ?_) (by intro q;cases q);refine gJ (X:=Cx.sub' X (X.A.mark (some (.ref ea))) X.xe) (qx rfl J5) hg hm ?_ Kd;refine PySem.W.nE Z J5.kIn ⟨oe5,he5,hc5⟩ ?_;refine codeAny_handlers_suite_as ?_;refine lands_againW fl5 fun h6 fl6 sl6=>?_;have J6:Inv X ez σ1 H' ⟨h6,g,d,t,s1.os⟩:=J5.fly (t':=t) hex hB5 fl6.1 sl6;obtain⟨oe6,he6,hc6⟩:=fl6.there;have J7:=J6.CT (o:=φX ea C) nH (φX_ok he6 hc6) n0 nl nc np;refine ig J7 hN hi (.inl hk) (v:=.ref ea) rfl (fun s8 J8 _=>?_) (.inr hk);have t12:SSt σ ρ H0 H σ1 ρ1 (upd H0' ea (φX ea C)) (upd H' ea (φX ea C)):=t1.trans (ESt.grow t1.st (aE.Ab t1.st.same nH)).sst;have rep:Rep (upd H0' ea (φX ea C)) (V.ref ea) (.exc C):=.exc aN;have xx:SSt σ1 ρ1 (upd H0' ea (φX ea C)) (upd H' ea (φX ea C)) (σ1.set ie (some (.ref ea))) (ρ1.set ie (.sh (.exc C))) (upd H0' ea (φX ea C)) (upd H' ea (φX ea C)):=
   ⟨t12.st.lS rep,Stp.refl _ _ _,fun a z=>.inl (cV z),gc h0⟩
  have Ke:∀(oh:Dm.Out),h (ρ1.set ie (.sh (.exc C)))=some oh->(∀(D':Ends),(∀σ' H3,(∃ρ' H03,oh=.nx ρ'/\SSt (σ1.set ie (some (.ref ea))) (ρ1.set ie (.sh (.exc C))) (upd H0' ea (φX ea C)) (upd H' ea (φX ea C)) σ' ρ' H03 H3)->D'.nx σ' H3)->(∀v H3,(∃z ρ' σ' H03,oh=.ret z ρ'/\SSt (σ1.set ie (some (.ref ea))) (ρ1.set ie (.sh (.exc C))) (upd H0' ea (φX ea C)) (upd H' ea (φX ea C)) σ' ρ' H03 H3/\tH (σ1.set ie (some (.ref ea))) (ρ1.set ie (.sh (.exc C))) (upd H' ea (φX ea C)) H03 H3 v z/\∀d a,z=.new d->v=.ref a->¬au σ' ρ' a)->D'.rt v H3)->(∀ρ',oh≠.bk ρ')->(∀ρ',oh≠.ct ρ')->jr D' (σ1.set ie (some (.ref ea))) (ρ1.set ie (.sh (.exc C))) (upd H0' ea (φX ea C)) (upd H' ea (φX ea C)) oh):=fun oh _ D' hn hr hb hc=>by
   cases oh with
   |nx ρ'=>exact fun σ' H03 H3 tt=>hn σ' H3 ⟨ρ',H03,rfl,tt⟩
   |bk ρ'=>exact absurd rfl (hb ρ')
   |ct ρ'=>exact absurd rfl (hc ρ')
   |ret z ρ'=>exact fun σ' v H03 H3 tt rr no=>hr v H3 ⟨z,ρ',σ',H03,rfl,tt,rr,no⟩
  cases hoh:h (ρ1.set ie (.sh (.exc C))) with
  |none=>rw[hoh]at e;cases e
  |some oh=>
  rw[hoh]at e;have nb:∀ρ',oh≠.bk ρ':=fun ρ' z=>by rw[z]at e;cases e
  have nc':∀ρ',oh≠.ct ρ':=fun ρ' z=>by rw[z]at e;cases e
  refine wpAny_mono (hh (X.A.mark (some (.ref ea))) _ ez s8 _ _ { nx:=fun σ' H3=>∃ ρ' H03,oh=.nx ρ'∧SSt (σ1.set ie (some (.ref ea))) (ρ1.set ie (.sh (.exc C))) (upd H0' ea (φX ea C)) (upd H' ea (φX ea C)) σ' ρ' H03 H3,rt:=fun v H3=>∃ z ρ' σ' H03,oh=.ret z ρ'∧SSt (σ1.set ie (some (.ref ea))) (ρ1.set ie (.sh (.exc C))) (upd H0' ea (φX ea C)) (upd H' ea (φX ea C)) σ' ρ' H03 H3∧tH (σ1.set ie (some (.ref ea))) (ρ1.set ie (.sh (.exc C))) (upd H' ea (φX ea C)) H03 H3 v z∧∀ d a,z=.new d→v=.ref a→¬ au σ' ρ' a,bk:=fun _ _=>False,ct:=fun _ _=>False } (qx rfl J8)
   ⟨_,_,_,xx.st,hoh,Ke oh hoh _ (fun _ _ z=>z) (fun _ _ z=>z) nb nc'⟩) (fun f s4 z=>?_) fun _ _ z=>z
  cases f with
  |next=>obtain⟨σ',H3,I4,ρ',H03,rfl,tt⟩:=z;cases e;refine name_goes (kX J.ok I4) hN hi hk fun s9 J9=>?_;exact⟨σ'.set ie none,H3,J9,ok _ _ _ (t12.trans (xx.trans (tt.trans (SSt.drop tt.st h0))))⟩
  |ret v=>
   obtain⟨u,σ0,H3,I4,rl,z,ρ',σ',H03,rfl,tt,rr,no⟩:=z;cases e;refine name_goes (kX J.ok I4) hN hi hk fun s9 J9=>?_;refine⟨u,σ0.set ie none,H3,J9,rl,ok _ _ _ _ (t12.trans (xx.trans (tt.trans (SSt.drop tt.st h0)))) ?_ ?_⟩
   ·cases z with
    |val d=>exact rr
    |new d=>
     obtain⟨a,ea',n,n0',w⟩:=rr;refine⟨a,ea',?_,n0',w⟩;have tp:=t12.trans xx;rcases n with n | n
     ·exact .inl (tp.stp.gone n)
     ·exact(tp.own a n).symm
   ·intro d a hz hv ho;obtain⟨j,d',h1,h2⟩:=ho;refine no d a hz hv ?_;by_cases hj:ie=j
    ·subst hj;rw[GS]at h1;simp only[if_true]at h1;split at h1<;>cases h1
    ·rw[gc hj]at h1 h2;exact⟨j,d',h1,h2⟩
  |brk=>obtain⟨_,_,_,q⟩:=z;exact FG q
  |cont=>obtain⟨_,_,_,q⟩:=z;exact FG q
end
theorem C6{C:Addr}{N:List Str}{n m:Nat}{R:Dm.Env->Option Dm.Env}{vs:List V}{H:Hp}{Q:VK}{E:XK}(hm:N.length=n+m)(h:spX C (Dm.fnX n m R) vs H Q E):tY C (fun _=>E) R (start N vs) H:=by have hvn:=qw h;obtain⟨H0,ds,s,rs,e,k⟩:=h;unfold Dm.fnX at e;rw[FH]at e;obtain⟨st,no⟩:=um hm hvn s rs;obtain⟨ρ',hR⟩:=Gf.mp e.2;exact⟨H0,_,ρ',st,hR,fun σ' a H0' H' t=>k a H0' H' ⟨t.stp.s0,fun a o e=>t.stp.s1 a o e (no a),fun a o e=>(t.stp.s2 a o e).imp id fun q=>q.elim id fun z=>absurd z (no a),t.st.same⟩⟩
theorem okY{P:Program}{w:World}{K:fj}{mg:Str->Option Value}{base:Heap}{x qual:Str}{st:Stmt}{f C:Addr}{fd:FuncData}{N ps:List Str}{k n m:Nat}{R:Dm.Env->Option Dm.Env}(F:Fun K x qual st f fd)(S:aD N ps (af st))(hn:ps.length=n)(hm:N.length=n+m)
  (hbody:∀(cdv:Value) (A:Around) (outer:List Env) (s:Shared) (H:Hp) (E:XK),b_ k (A.deeper (envOfC qual (af st) s.heap.objs.size f cdv))->YB (fQ (CXE P w C) P w K mg base N qual (af st) f cdv A outer s H E) C (fun _=>E) (a_ st) R) :
  bM P w K mg base (CXE P w C) (k+1) f fd ps (spX C (Dm.fnX n m R)):=by
 obtain⟨oc,od,kV,doc,pm,an,cdv,ct,osl,rfl,lk,Kg⟩:=F.ex;refine yN lk Kg S (fun vs H Q E h=>(qw h).trans hn.symm) fun A outer s H vs Q E hr hsp=>?_;exact⟨_,hbody cdv A outer s H E hr,C6 hm hsp⟩
section
variable{X:Cx}{C:Nat}{b:Bool}{cs:List Nat}{bs:List Bool}{e:Expr}{f:FE}
theorem uz(h1:DE X e (Dm.e1 (Dm.iY C b) f))(h2:DE X e (Dm.e1 (Dm.eU cs bs) f)):DE X e (Dm.e1 (Dm.eU (C::cs) (b::bs)) f):=fun ez s σ H Q I q=>by
 obtain⟨H0,ρ,x,ρ',st,e0,k⟩:=q;have e:=e0;unfold Dm.e1 at e;split at e
 ·cases e
 rename_i x1 ρ1 e1;split at e
 ·cases e
 rename_i dx p1;cases dx with
 |exc D=>
  by_cases hD:D=C
  ·refine h1 ez s σ H Q I ⟨H0,ρ,x,ρ',st,?_,k⟩;unfold Dm.e1;rw[e1];dsimp only;rw[p1];dsimp only;rw[<- e];unfold Dm.iY Dm.eU Dm.nG;dsimp only;rw[if_pos hD,if_pos hD];rfl
  ·refine h2 ez s σ H Q I ⟨H0,ρ,x,ρ',st,?_,k⟩;unfold Dm.e1;rw[e1];dsimp only;rw[p1];dsimp only;rw[<- e];unfold Dm.eU;dsimp only;rw[Dm.nG.eq_def (C::cs)];dsimp only;rw[if_neg hD]
 |cg D mv=>
  by_cases hD:D=C
  ·refine h1 ez s σ H Q I ⟨H0,ρ,x,ρ',st,?_,k⟩;unfold Dm.e1;rw[e1];dsimp only;rw[p1];dsimp only;rw[<- e];unfold Dm.iY Dm.eU Dm.nG;dsimp only;rw[if_pos hD,if_pos hD];rfl
  ·refine h2 ez s σ H Q I ⟨H0,ρ,x,ρ',st,?_,k⟩;unfold Dm.e1;rw[e1];dsimp only;rw[p1];dsimp only;rw[<- e];unfold Dm.eU;dsimp only;rw[Dm.nG.eq_def (C::cs)];dsimp only;rw[if_neg hD]
 |_=>cases e
theorem uA:DE X e (Dm.e1 (Dm.eU [] []) f):=fun ez s σ H Q I q=>by
 obtain⟨H0,ρ,x,ρ',st,e,k⟩:=q;unfold Dm.e1 at e;split at e
 ·cases e
 split at e
 ·cases e
 rename_i dx p1;cases dx<;>cases e
end
end Br
namespace Dm
noncomputable def codes(s:String):List Nat:=s.toList.map IA
noncomputable def shJ:List (List Nat)->List Nat
 |[]=>[]
 |[x]=>x
 |x::y::r=>x++44::32::shJ (y::r)
mutual
noncomputable def shw:Dat->List Nat
 |.non=>codes "None"
 |.bl b=>codes (if b then "True" else "False")
 |.int i=>codes (toString i)
 |.str s=>39::(s++[39])
 |.tup xs=>40::(shJ (fS xs)++(if xs.length == 1 then [44,41] else [41]))
 |.lst xs=>91::(shJ (fS xs)++[93])
 |_=>[]
noncomputable def fS:List Dat->List (List Nat)
 |[]=>[]
 |x::r=>shw x::fS r
end
mutual
noncomputable def nI:Nat->Dat->Bool
 |_,.non=>true
 |_,.bl _=>true
 |_,.int i=>decide (i.natAbs<10 ^ 100)
 |_,.str s=>decide (s=[115,105,110,99,101]\/s=[110,101,118,101,114]\/s=[53]\/s=[48]\/s=[53,58,48,45,48]\/s=[])
 |n+1,.tup xs=>fh n xs
 |n+1,.lst xs=>fh n xs
 |_,_=>false
noncomputable def fh:Nat->List Dat->Bool
 |_,[]=>true
 |n,x::r=>nI n x&&fh n r
end
mutual
noncomputable def o_:Dat->Nat
 |.tup xs=>1+nJ xs
 |.lst xs=>1+nJ xs
 |_=>1
noncomputable def nJ:List Dat->Nat
 |[]=>0
 |x::r=>o_ x+nJ r
end
noncomputable def AQ:List Dat->Option RV
 |[.tup xs]=>if nI 8 (.tup xs)=true/\o_ (.tup xs)<=900 then some (.val (.str (shw (.tup xs)))) else none
 |[.lst xs]=>if nI 8 (.lst xs)=true/\o_ (.lst xs)<=900 then some (.val (.str (shw (.lst xs)))) else none
 |_=>none
theorem repr_len{n:Nat}(h:n<10 ^ 100):n.repr.toList.length<=100:=by rw[Nat.toList_repr];exact(Nat.length_toDigits_le_iff (by decide) (by decide)).mpr h
theorem nK{i:Int}(h:i.natAbs<10 ^ 100):(shw (.int i)).length<=101:=by
 unfold shw codes;rw[Fw,Int.toString_eq_repr];unfold Int.repr;cases i with
 |ofNat m=>exact Nat.le_succ_of_le (repr_len h)
 |negSucc m=>
  dsimp only;rw[String.toList_append,Fl];have:=repr_len (n:=m.succ) h;show 1+_<=101
  lia
theorem lZ:∀l:List (List Nat),(shJ l).length<=(l.map fun x=>x.length+2).sum
 |[]=>Gb _
 |[x]=>by simp[shJ]
 |x::y::r=>by
  have:=lZ (y::r);unfold shJ;simp only[Fl,Dp,gV,HV]at this ⊢
  lia
mutual
theorem l0:∀(n:Nat) (d:Dat),nI n d=true->(shw d).length+2<=110*o_ d
 |_,.non,_=>by decide
 |_,.bl b,_=>by cases b<;>decide
 |n,.int i,h=>by
  have:=nK (i:=i) (by cases n<;>exact of_decide_eq_true h);unfold o_
  lia
 |n+1,.tup xs,h=>by have:=jB n xs h;have j:=lZ (fS xs);unfold shw o_;simp only[Dp,Fl];split<;>simp<;>lia
 |n+1,.lst xs,h=>by
  have:=jB n xs h;have j:=lZ (fS xs);unfold shw o_;simp only[Dp,Fl];simp
  lia
 |0,.tup xs,h=>by cases h
 |0,.lst xs,h=>by cases h
 |n,.str s,h=>by
  have h:s=[115,105,110,99,101]\/s=[110,101,118,101,114]\/s=[53]\/s=[48]\/s=[53,58,48,45,48]\/s=[]:=by cases n<;>exact of_decide_eq_true h
  rcases h with rfl | rfl | rfl | rfl | rfl | rfl<;>decide
 |0,.dct _ _,h=>by cases h
 |0,.dcp _ _,h=>by cases h
 |_+1,.dct _ _,h=>by cases h
 |_+1,.dcp _ _,h=>by cases h
 |0,.exc _,h=>by cases h
 |0,.cg _ _,h=>by cases h
 |_+1,.exc _,h=>by cases h
 |_+1,.cg _ _,h=>by cases h
 |0,.fn _,h=>by cases h
 |_+1,.fn _,h=>by cases h
theorem jB:∀(n:Nat) (xs:List Dat),fh n xs=true->((fS xs).map fun x=>x.length+2).sum<=110*nJ xs
 |_,[],_=>by simp[fS]
 |n,x::r,h=>by
  unfold fh at h;rw[FH]at h;have a:=l0 n x h.1;have b:=jB n r h.2;unfold fS nJ;simp only[gV,HV]
  lia
end
end Dm
namespace Br
open PySem PySem.Spec PyProof.Rows L2
mutual
noncomputable def pyD:Dat->PyData
 |.bl b=>.bool b
 |.int i=>.int i
 |.str s=>.str ⟨s.toArray⟩
 |.tup xs=>.tuple (fT xs)
 |.lst xs=>.list (fT xs)
 |_=>.none
noncomputable def fT:List Dat->List PyData
 |[]=>[]
 |x::r=>pyD x::fT r
end
theorem nL:∀xs:List Dat,(fT xs).length=xs.length
 |[]=>rfl
 |x::r=>by simp[fT,nL r]
theorem cG(s:String):Str.ofString s=⟨(Dm.codes s).toArray⟩:=Str.ofString_eq_toList s
theorem ek(a b:List Nat):((⟨a.toArray⟩:Str)++(⟨b.toArray⟩:Str))=⟨(a++b).toArray⟩:=by show Str.append _ _=_;unfold Str.append;simp
theorem jC:∀l:List (List Nat),Str.join ", " (l.map fun x=>(⟨x.toArray⟩:Str))=⟨(Dm.shJ l).toArray⟩
 |[]=>rfl
 |[x]=>rfl
 |x::y::r=>by have:=jC (y::r);show (⟨x.toArray⟩:Str)++(", " : Str)++Str.join ", " ((y::r).map fun x=>(⟨x.toArray⟩:Str))=_;rw[this];have e:((", " : String):Str)=⟨[44,32].toArray⟩:=cG ", ";rw[e,ek x [44,32],ek (x++[44,32]) (Dm.shJ (y::r))];simp[Dm.shJ]
mutual
theorem nM:∀(n:Nat) (d:Dat),Dm.nI n d=true->(pyD d).shown=⟨(Dm.shw d).toArray⟩
 |_,.non,_=>by unfold pyD;rw[PyData.shown_none];exact cG "None"
 |_,.bl b,_=>by
  unfold pyD;rw[PyData.shown_bool];cases b
  ·exact cG "False"
  ·exact cG "True"
 |_,.int i,_=>by unfold pyD;rw[PyData.shown_int];exact cG (toString i)
 |n+1,.tup xs,h=>by
  unfold pyD;rw[PyData.shown_tuple,iz n xs h,jC,nL];have e1:(("(" : String):Str)=⟨[40].toArray⟩:=cG "(";rw[e1,ek [40] (Dm.shJ (Dm.fS xs))];unfold Dm.shw;by_cases q:(xs.length == 1)=true
  ·rw[if_pos q,if_pos q];have e2:((",)" : String):Str)=⟨[44,41].toArray⟩:=cG ",)";rw[e2,ek ([40]++Dm.shJ (Dm.fS xs)) [44,41]];simp
  ·rw[if_neg q,if_neg q];have e2:((")" : String):Str)=⟨[41].toArray⟩:=cG ")";rw[e2,ek ([40]++Dm.shJ (Dm.fS xs)) [41]];simp
 |n+1,.lst xs,h=>by unfold pyD;rw[PyData.shown_list,iz n xs h,jC];have e1:(("[" : String):Str)=⟨[91].toArray⟩:=cG "[";have e2:(("]" : String):Str)=⟨[93].toArray⟩:=cG "]";rw[e1,e2,ek [91] (Dm.shJ (Dm.fS xs)),ek ([91]++Dm.shJ (Dm.fS xs)) [93]];unfold Dm.shw;simp
 |0,.tup xs,h=>by cases h
 |0,.lst xs,h=>by cases h
 |n,.str s,h=>by
  have h:s=[115,105,110,99,101]\/s=[110,101,118,101,114]\/s=[53]\/s=[48]\/s=[53,58,48,45,48]\/s=[]:=by cases n<;>exact of_decide_eq_true h
  unfold pyD;rw[PyData.shown_str];rcases h with rfl | rfl | rfl | rfl | rfl | rfl<;>decide +kernel
 |0,.dct _ _,h=>by cases h
 |0,.dcp _ _,h=>by cases h
 |_+1,.dct _ _,h=>by cases h
 |_+1,.dcp _ _,h=>by cases h
 |0,.exc _,h=>by cases h
 |0,.cg _ _,h=>by cases h
 |_+1,.exc _,h=>by cases h
 |_+1,.cg _ _,h=>by cases h
 |0,.fn _,h=>by cases h
 |_+1,.fn _,h=>by cases h
theorem iz:∀(n:Nat) (xs:List Dat),Dm.fh n xs=true->PyData.shownAll (fT xs)=(Dm.fS xs).map fun x=>(⟨x.toArray⟩:Str)
 |_,[],_=>by unfold fT Dm.fS;rw[PyData.shownAll_nil];rfl
 |n,x::r,h=>by unfold Dm.fh at h;rw[FH]at h;unfold fT Dm.fS;rw[PyData.shownAll_cons,nM n x h.1,iz n r h.2];rfl
end
mutual
theorem uB:∀(n:Nat) (d:Dat),Dm.nI n d=true->(pyD d).showable=true/\(pyD d).hasDict=false/\(pyD d).depth<=n
 |_,.non,_=>by unfold pyD GX G3 PyData.depth;exact⟨rfl,rfl,Gb _⟩
 |_,.bl b,_=>by unfold pyD GX G3 PyData.depth;exact⟨rfl,rfl,Gb _⟩
 |n,.int i,h=>by
  unfold pyD GX G3 PyData.depth;refine⟨decide_eq_true ?_,rfl,Gb _⟩;have hi:i.natAbs<10 ^ 100:=by cases n<;>exact of_decide_eq_true h
  by_cases z:i.natAbs=0
  ·rw[z];decide
  ·exact(Iu z).mpr (Nat.lt_trans hi (by decide))
 |n+1,.tup xs,h=>by obtain⟨h1,h2,h3⟩:=fits_of n xs h;unfold pyD GX G3 PyData.depth;exact⟨h1,h2,by lia⟩
 |n+1,.lst xs,h=>by obtain⟨h1,h2,h3⟩:=fits_of n xs h;unfold pyD GX G3 PyData.depth;exact⟨h1,h2,by lia⟩
 |0,.tup xs,h=>by cases h
 |0,.lst xs,h=>by cases h
 |n,.str s,h=>by unfold pyD GX G3 PyData.depth;exact⟨rfl,rfl,Gb _⟩
 |0,.dct _ _,h=>by cases h
 |0,.dcp _ _,h=>by cases h
 |_+1,.dct _ _,h=>by cases h
 |_+1,.dcp _ _,h=>by cases h
 |0,.exc _,h=>by cases h
 |0,.cg _ _,h=>by cases h
 |_+1,.exc _,h=>by cases h
 |_+1,.cg _ _,h=>by cases h
 |0,.fn _,h=>by cases h
 |_+1,.fn _,h=>by cases h
theorem fits_of:∀(n:Nat) (xs:List Dat),Dm.fh n xs=true->HP (fT xs)=true/\HY (fT xs)=false/\GI (fT xs)<=n
 |_,[],_=>by unfold fT HP HY GI;exact⟨rfl,rfl,Gb _⟩
 |n,x::r,h=>by unfold Dm.fh at h;rw[FH]at h;obtain⟨a1,a2,a3⟩:=uB n x h.1;obtain⟨b1,b2,b3⟩:=fits_of n r h.2;unfold fT HP HY GI;exact⟨by rw[a1,b1];rfl,by rw[a2,b2];rfl,Nat.max_le.mpr ⟨a3,b3⟩⟩
end
section
variable{ez:List (Addr×Obj)}{s:Shared}{σ:L2.St}{H:Hp}{X:Cx}
mutual
theorem nN(I:Inv X ez σ H s):∀(n:Nat) (d:Dat) (v:V) (u:Value),Dm.nI n d=true->Rep H v d->RelV v u->∃as,Reads s.heap u (pyD d) as
 |_,.non,v,u,_,r,q=>by cases r;cases q;unfold pyD;exact⟨_,.none⟩
 |_,.bl b,v,u,_,r,q=>by cases r;cases q;unfold pyD;exact⟨_,.bool b⟩
 |_,.int i,v,u,_,r,q=>by cases r;obtain⟨t,rfl⟩:=q;unfold pyD;exact⟨_,.int i t⟩
 |n+1,.tup ds,v,u,h,r,q=>by
  cases r with
  |@tup a xs _ hq rs=>cases q;obtain⟨its,rv,⟨o,ho,hc,m,hd⟩,hz⟩:=I.tuple (SqT.of (K:=X.K) hq);obtain⟨as,ha⟩:=iA I n ds xs its h rs rv;unfold pyD;exact⟨as,.tuple ho hc hd (by simpa using ha)⟩
 |n+1,.lst ds,v,u,h,r,q=>by
  cases r with
  |@lst a xs _ hq rs=>cases q;obtain⟨its,rv,⟨o,m,ho,hc,_,hd⟩,hz⟩:=I.list (.inl hq);obtain⟨as,ha⟩:=iA I n ds xs its h rs rv;unfold pyD;exact⟨_,.list ho hc hd (by simpa using ha)⟩
 |0,.tup xs,_,_,h,_,_=>by cases h
 |0,.lst xs,_,_,h,_,_=>by cases h
 |n,.str s,v,u,_,r,q=>by cases r;obtain⟨t,rfl⟩:=q;unfold pyD;exact⟨_,.str _ t⟩
 |0,.dct _ _,_,_,h,_,_=>by cases h
 |0,.dcp _ _,_,_,h,_,_=>by cases h
 |_+1,.dct _ _,_,_,h,_,_=>by cases h
 |_+1,.dcp _ _,_,_,h,_,_=>by cases h
 |0,.exc _,_,_,h,_,_=>by cases h
 |0,.cg _ _,_,_,h,_,_=>by cases h
 |_+1,.exc _,_,_,h,_,_=>by cases h
 |_+1,.cg _ _,_,_,h,_,_=>by cases h
 |0,.fn _,_,_,h,_,_=>by cases h
 |_+1,.fn _,_,_,h,_,_=>by cases h
theorem iA(I:Inv X ez σ H s):∀(n:Nat) (ds:List Dat) (vs:List V) (us:List Value),Dm.fh n ds=true->aK H vs ds->Vals vs us->∃as,ReadsAll s.heap us (fT ds) as
 |_,[],vs,us,_,r,q=>by cases r;cases q;unfold fT;exact⟨_,.nil⟩
 |n,d::ds,vs,us,h,r,q=>by
  cases r with
  |cons r rs=>
   cases q with
   |cons q qs=>unfold Dm.fh at h;rw[FH]at h;obtain⟨as,ha⟩:=nN I n d _ _ h.1 r q;obtain⟨bs,hb⟩:=iA I n ds _ _ h.2 rs qs;unfold fT;exact⟨_,.cons ha hb⟩
end
end
def AR:List V->Hp->VK->Prop:=fun xs H Q=>∃(a:Addr) (d:Dat),xs=[.ref a]/\Dm.nI 8 d=true/\(Dm.shw d).length<=sizeLine/\Rep H (.ref a) d/\Q (.str ⟨(Dm.shw d).toArray⟩) H
theorem nP{X:Cx}{k:Nat}(hr:b_ k X.A):cS X (.type "str") AR:=by intro ez s σ H xs us Q I r h;obtain⟨a,d,rfl,hd,hz,rd,q⟩:=h;obtain⟨u,rfl,rx⟩:=vals1 r;cases rx;obtain⟨as,ha⟩:=nN I 8 d _ _ hd rd rfl;obtain⟨f1,f2,f3⟩:=uB 8 d hd;have sh:=nM 8 d hd;have un:=hr.un;refine str_of_reads ha f1 (fun z=>by rw[f2]at z;cases z) hr.gd (by lia) (fun _ _ e=>e) (fun h' u tk kp=>?_) (by rw[sh];exact FQ (by show (Dm.shw d).toArray.size<=_;simp) hz);rw[sh];exact⟨.str ⟨(Dm.shw d).toArray⟩,H,I.kept (t':=tk) kp,⟨u,rfl⟩,q⟩
theorem AS:CallD AR Dm.AQ:=by
 intro H0 H vs ds z Q s rs e k;have sz:110*900<=sizeLine:=by decide
 unfold Dm.AQ at e;split at e
 ·split at e
  ·rename_i hk;cases e;cases rs with
   |cons r rr=>
    cases rr;rcases r with r | ⟨a,_,w⟩
    ·cases r with
     |tup q rs=>have rp:Rep H (.ref _) (.tup _):=.tup (s _ _ q) (rs.mono s);have:=Dm.l0 8 _ hk.1;have h2:=hk.2;exact⟨_,_,rfl,hk.1,by lia,rp,k _ H0 H (aE.refl s) (.str _)⟩
    ·exact FG w
  ·cases e
 ·split at e
  ·rename_i hk;cases e;cases rs with
   |cons r rr=>cases rr;obtain⟨a,us,rfl,qa,ra⟩:=cE s r;have rp:Rep H (.ref a) (.lst _):=.lst qa (ra.mono s);have:=Dm.l0 8 _ hk.1;have h2:=hk.2;exact⟨_,_,rfl,hk.1,by lia,rp,k _ H0 H (aE.refl s) (.str _)⟩
  ·cases e
 ·cases e
end Br
set_option maxHeartbeats 4000000
namespace Ts
open PySem PyProof.Rows
variable{A:Around}{E:Value->Shared->Prop}{s:Shared}{prog:Program}{w:World}
end Ts
namespace Br
open PySem PySem.Spec PyProof.Rows L2
theorem okQ{P:Program}{w:World}{K:fj}{mg:Str->Option Value}{base:Heap}{x qual:Str}{st:Stmt}{f:Addr}{fd:FuncData}{N ps:List Str}{k n m:Nat}{body:FS}(F:Fun K x qual st f fd)(S:aD N ps (af st))
  (hb:∀(cdv:Value) (A:Around) (outer:List Env) (s:Shared) (H:Hp) (E:XK),b_ k (A.deeper (envOfC qual (af st) s.heap.objs.size f cdv))->DSs (fQ CX0 P w K mg base N qual (af st) f cdv A outer s H E).nox (a_ st) body)
  (hn:ps.length=n:=by rfl) (hm:N.length=n+m:=by rfl):bM P w K mg base CX0 (k+1) f fd ps (spD (Dm.fn n m body)):=
 F.ok S (fun vs H Q E h=>(jt h).trans hn.symm) fun cdv A outer s H vs Q E hr h=>⟨_,hb cdv A outer s H E hr,wK hm h⟩
end Br
namespace Dm
open Classical in
noncomputable def eW:List Dat->Option RV
 |[.non]=>some (.val (.str (codes "None")))
 |[.bl b]=>some (.val (.str (codes (if b then "True" else "False"))))
 |[.int i]=>if i.natAbs<10 ^ 100 then some (.val (.str (codes (toString i)))) else none
 |[.str s]=>some (.val (.str s))
 |[.dct [] []]=>some (.val (.str (codes "{}")))
 |ds=>AQ ds
end Dm
namespace Br
open PySem PySem.Spec PyProof.Rows L2
def yX:List V->Hp->VK->Prop:=fun xs H Q=>(xs=[.non]/\Q (.str ⟨(Dm.codes "None").toArray⟩) H)\/(∃b,xs=[.bl b]/\Q (.str ⟨(Dm.codes (if b then "True" else "False")).toArray⟩) H)\/(∃i:Int,xs=[.int i]/\i.natAbs<10 ^ 100/\Q (.str ⟨(Dm.codes (toString i)).toArray⟩) H) \/
 (∃s,xs=[.str s]/\Q (.str s) H)\/(∃a,xs=[.ref a]/\H a=some (.dK [])/\Q (.str ⟨(Dm.codes "{}").toArray⟩) H)\/AR xs H Q
theorem rS{X:Cx}{k:Nat}(hr:b_ k X.A):cS X (.type "str") yX:=by
 intro ez s σ H xs us Q I r h;rcases h with⟨rfl,q⟩ | ⟨b,rfl,q⟩ | ⟨i,rfl,hi,q⟩ | ⟨x,rfl,q⟩ | ⟨a,rfl,ha,q⟩ | h
 ·obtain⟨u,rfl,rx⟩:=vals1 r;cases rx;exact P.str_of_none ⟨.str ⟨(Dm.codes "None").toArray⟩,H,I.tok _,⟨_,congrArg (Hu · _) (cG "None")⟩,q⟩
 ·obtain⟨u,rfl,rx⟩:=vals1 r;cases rx;refine P.str_of_bool ⟨.str ⟨(Dm.codes (if b then "True" else "False")).toArray⟩,H,I.tok _,⟨s.toks,?_⟩,q⟩;cases b
  ·exact congrArg (Hu · _) (cG "False")
  ·exact congrArg (Hu · _) (cG "True")
 ·obtain⟨u,rfl,tk,rfl⟩:=vals1 r;refine P.str_of_int ?_ ⟨.str ⟨(Dm.codes (toString i)).toArray⟩,H,I.tok _,⟨_,congrArg (Hu · _) (cG _)⟩,q⟩;by_cases z:i.natAbs=0
  ·rw[z];decide
  ·exact(Iu z).mpr (FJ hi (FQ (Nat.pow_le_pow_left (by decide:10<=2 ^ 4) 100) (by rw[<- Nat.pow_mul];exact Nat.pow_le_pow_right (by decide) (by decide))))
 ·obtain⟨u,rfl,tk,rfl⟩:=vals1 r;exact P.str_of_str ⟨.str x,H,I,⟨_,rfl⟩,q⟩
 ·obtain⟨u,rfl,rx⟩:=vals1 r;cases rx;obtain⟨hz,hS,vs,rv,m⟩:=Cb I.hok ha;cases rv;obtain⟨o,es,ep,ho,xd,hd,_,pr,_⟩:=m;have hes:es.toList=[]:=by cases hq:es.toList with
   |nil=>rfl
   |cons y ys=>rw[hq]at pr;cases pr
  have un:=hr.un;have rd:Reads s.heap (.ref a) (.dict []) (a::[]++[]):=.dict ho xd.1 hd (by rw[hes];exact .nil) (by rw[hes];exact .nil);have sh:(PyData.dict []).shown=⟨(Dm.codes "{}").toArray⟩:=by rw[PyData.shown_dict];decide +kernel
  have dp:(PyData.dict []).depth<=2:=by decide
  refine str_of_reads rd (by decide) (fun _ z=>?_) hr.gd (by lia) (fun _ _ e=>e) (fun h' u tk kp=>?_) (by rw[sh];decide)
  ·have:sysModules=a:=by simpa using z
   rw[<- this]at hS;simp at hS
  ·rw[sh];exact⟨.str ⟨(Dm.codes "{}").toArray⟩,H,I.kept (t':=tk) kp,⟨u,rfl⟩,q⟩
 ·exact nP hr ez s σ H xs us Q I r h
theorem xy:CallD yX Dm.eW:=by
 intro H0 H vs ds z Q s rs e k;unfold Dm.eW at e;split at e
 ·cases e;cases rs with
  |cons r rr=>
   cases rr;rcases r with r | ⟨a,_,w⟩
   ·cases r;exact .inl ⟨rfl,k _ H0 H (aE.refl s) (.str _)⟩
   ·exact FG w
 ·cases e;cases rs with
  |cons r rr=>
   cases rr;rcases r with r | ⟨a,_,w⟩
   ·cases r;exact .inr (.inl ⟨_,rfl,k _ H0 H (aE.refl s) (.str _)⟩)
   ·exact FG w
 ·split at e
  case isFalse=>cases e
  rename_i hi;cases e;cases rs with
  |cons r rr=>
   cases rr;rcases r with r | ⟨a,_,w⟩
   ·cases r;exact .inr (.inr (.inl ⟨_,rfl,hi,k _ H0 H (aE.refl s) (.str _)⟩))
   ·exact FG w
 ·cases e;cases rs with
  |cons r rr=>
   cases rr;rcases r with r | ⟨a,_,w⟩
   ·cases r;exact .inr (.inr (.inr (.inl ⟨_,rfl,k _ H0 H (aE.refl s) (.str _)⟩)))
   ·exact FG w
 ·cases e;cases rs with
  |cons r rr=>
   cases rr;refine .inr (.inr (.inr (.inr (.inl ?_))));rcases r with r | ⟨a,rfl,xs,q,e1,e2⟩
   ·cases r with
    |dct q e1 e2=>
     rename_i a kvs;have:kvs=[]:=by cases kvs with
      |nil=>rfl
      |cons _ _=>cases e1
     subst this;exact⟨a,rfl,s _ _ q,k _ H0 H (aE.refl s) (.str _)⟩
   ·have:xs=[]:=by cases xs with
     |nil=>rfl
     |cons _ _=>cases e1
    subst this;exact⟨a,rfl,q,k _ H0 H (aE.refl s) (.str _)⟩
 ·exact .inr (.inr (.inr (.inr (.inr (AS H0 H vs _ z Q s rs e k)))))
section
variable{X:Cx}{e:Expr}{fs:List FE}{p pos:Pos}{k:Nat}
theorem iB(hr:b_ k X.A)(hg:Gl X "str")(hm:X.mg "str" = none)(ha:DA X [e] fs)(he:starEach [e] X.env=[(false,eval e X.env)]:=by rfl)(AZ:(backTo pos (starEach [] X.env)).any (·.1)=false:=by rfl):DE X (.Call (.Name "str" p) [e] [] pos) (Dm.eB Dm.eW fs):=CJ (rS hr) xy (by rfl) hg hm ha (he:=he) (AZ:=AZ)
end
end Br
namespace L2
open PySem PySem.Spec PyProof.Rows
section
variable{P:Program}{w:World}{K:fj}{mg:Str->Option Value}{base:Heap}{N:List Str}{qual:Str}{scope:Scope}{f:Addr}{cd:Value}{A:Around}{outer:List Env}{s₀:Shared}{H₀:Hp}{E:XK}{C:Addr}
 {ez:List (Addr×Obj)} {σ:St} {H:Hp} {s:Shared}
end
end L2
namespace Ts
open PySem PyProof.Rows
variable{A:Around}{E:Value->Shared->Prop}{s:Shared}{prog:Program}{w:World}
end Ts
namespace Dm
noncomputable def bY:Dat->Dat->Option RV
 |.str a,.str b=>if a.length+b.length<=SZ then some (.val (.str (a++b))) else none
 |_,_=>none
noncomputable def iP:Dat->Dat->Option RV
 |.str a,.int k=>if 0<=k/\k<=BIG/\a.length*k.toNat<=SZ then some (.val (.str (eg k.toNat a).flatten)) else none
 |_,_=>none
noncomputable def pe:Dat->Dat->Option RV
 | .str a,.int i=>if a.length≤SZ then (match ixN a.length i with
  |none=>none
  |some m=>match a[m]? with
   |none=>none
   |some c=>some (.val (.str [c]))) else none
 |_,_=>none
noncomputable def uC:Dat->Dat->Option RV
 |.str [c],.str b=>vB (b.contains c)
 |_,_=>none
noncomputable def nQ:Dat->Dat->Option RV
 |.str [c],.str b=>vB (!b.contains c)
 |_,_=>none
noncomputable def fV:List Dat->Option RV
 |[.str a]=>if a.length<=SZ then vI a.length else none
 |_=>none
noncomputable def dQ(a:List Nat):Nat:=a.foldl (fun n c=>n*10+(c-48)) 0
noncomputable def bZ(c:Nat):Bool:=decide (48<=c)&&decide (c<=57)
noncomputable def gT:List Dat->Option RV
 |[.str a]=>if a≠[]/\a.all bZ=true/\a.length<=600 then vI (dQ a) else none
 |_=>none
noncomputable def ao(c:Nat):List Nat->List Nat×List Nat×List Nat
 |[]=>([],[],[])
 |x::r=>if x=c then ([],[c],r) else ((x::(ao c r).1),(ao c r).2)
noncomputable def gU:List Nat->Dat->Option RV
 |s,.str [c]=>if s.length<=SZ then some (.val (.tup [.str (ao c s).1,.str (ao c s).2.1,.str (ao c s).2.2])) else none
 |_,_=>none
noncomputable def aA(c d:Nat):List Nat->List Nat->List (List Nat)
 |uK,[]=>[uK]
 |uK,[x]=>[uK++[x]]
 |uK,x::y::r=>if x=c/\y=d then uK::aA c d [] r else aA c d (uK++[x]) (y::r)
noncomputable def gg:List Nat->Dat->Option RV
 |s,.str [c,d]=>if s.length<=SZ/\c<128/\d<128 then some (.new (.lst ((aA c d [] s).map .str))) else none
 |_,_=>none
noncomputable def gW:List Dat->Option (List (List Nat))
 |[]=>some []
 |.str s::r=>(gW r).map (s::·)
 |_::_=>none
noncomputable def aR(y:List Nat):List (List Nat)->List Nat
 |[]=>[]
 |[x]=>x
 |x::r=>x++y++aR y r
noncomputable def jD:List Nat->Dat->Option RV
 | y,.lst ds=>(match gW ds with
  |some ss=>if (ss.map fun s=>s.length+y.length).sum<=SZ then some (.val (.str (aR y ss))) else none
  |none=>none)
 |_,_=>none
noncomputable def eS2(g:List Nat->Dat->Option RV)(a b:FE):FE:=fun ρ=>match a ρ with
 |none=>none
 |some (x,ρ1)=>match pk ρ1 x with
  | some (.str s)=>(match b ρ1 with
   |none=>none
   |some (y,ρ2)=>match pk ρ2 y with
    |none=>none
    |some d=>match g s d with
     |none=>none
     |some v=>some (v.aH,ρ2))
  |_=>none
noncomputable def iTx(a:FE):FI:=fun ρ=>match a ρ with
 |none=>none
 |some (x,ρ1)=>match pk ρ1 x with
  |some (.str s)=>if s.all (fun c=>decide (c<128))=true then some (s.map fun c=>.str [c],ρ1) else none
  |_=>none
noncomputable def iC(s:List Nat)(lo hi:Option Int):List Nat:=(s.drop (sIx s.length 0 lo)).take (sIx s.length s.length hi-sIx s.length 0 lo)
noncomputable def i7(a:FE)(lo hi:Option FE):FE:=fun ρ=>match a ρ with
 |none=>none
 |some (x,ρ1)=>match part lo ρ1 with
  |none=>none
  |some (l,ρ2)=>match part hi ρ2 with
   |none=>none
   |some (h,ρ3)=>match pk ρ3 x with
    |some (.str s)=>if s.length<=SZ then some (.val (.str (iC s l h)),ρ3) else none
    |_=>none
end Dm
namespace Tx
open PySem PySem.Builtin PySem.Builtin.Str PySem.StrLaws
noncomputable def dH(y:List Nat):List Nat->Nat->Nat->Nat->List Nat
 |[],_,_,_=>[]
 |c::r,i,free,lim=>if (0<lim/\free<=i)/\y.isPrefixOf (c::r)=true then i::dH y r (i+1) (i+y.length) (lim-1) else dH y r (i+1) free lim
theorem xA(x y:List Nat)(i:Nat)(h:i<x.length)(hy:y≠[]):(i+y.length<=x.length/\subAt ⟨x.toArray⟩ ⟨y.toArray⟩ i=true)↔y.isPrefixOf (x.drop i)=true:=by
 rw[List.isPrefixOf_iff_prefix,List.prefix_iff_eq_take];have e:subAt ⟨x.toArray⟩ ⟨y.toArray⟩ i=true↔y=(x.drop i).take y.length:=by
  unfold subAt;rw[beq_iff_eq];have l:(Str.mk y.toArray).length=y.length:=by simp[Str.length]
  rw[l];show x.toArray.extract i (i+y.length)=y.toArray↔_;rw[<- Array.toList_inj];simp only[Array.toList_extract,List.extract_eq_drop_take'];rw[List.drop_take,Nat.add_sub_cancel_left];exact eq_comm
 rw[e];constructor
 ·exact fun q=>q.2
 ·intro q;refine⟨?_,q⟩;have:=congrArg List.length q;rw[Gz,GF]at this
  lia
theorem l5(x y:List Nat)(hy:y≠[])(limit:Nat):∀(m i:Nat) (st:Array Nat×Nat),i+m=x.length ->
  (forIn (List.range' i (m+1)) st (occBody ⟨x.toArray⟩ ⟨y.toArray⟩ x.length limit)).run.fst.toList=st.fst.toList++dH y (x.drop i) i st.snd (limit-st.fst.size)
 |0,i,st,h=>by
  have yl:(Str.mk y.toArray).length=y.length:=by simp[Str.length]
  have y1:0<y.length:=List.length_pos_iff.mpr hy;rw[List.range'_succ,HC];unfold occBody;rw[if_neg (by rintro⟨⟨_,q⟩,_⟩;rw[yl]at q;lia),List.drop_eq_nil_of_le (by lia)];simp[dH]
 |m+1,i,st,h=>by
  have yl:(Str.mk y.toArray).length=y.length:=by simp[Str.length]
  have hi:i<x.length:=by lia
  have sp:=xA x y i hi hy;rw[List.range'_succ,HC];rw[G7 hi]at sp ⊢;rw[dH];by_cases q:(0<limit-st.fst.size/\st.snd<=i)/\y.isPrefixOf (x[i]::x.drop (i+1))=true
  ·have p:=sp.mpr q.2;rw[if_pos q];have e:occBody ⟨x.toArray⟩ ⟨y.toArray⟩ x.length limit i st=pure (Gy (st.fst.push i,i+y.length)):=by
    unfold occBody;rw[if_pos ⟨⟨⟨by lia,q.1.2⟩,by rw[yl];exact p.1⟩,p.2⟩,yl]
   rw[e];have:=l5 x y hy limit m (i+1) (st.fst.push i,i+y.length) (by lia);simp only[pure_bind];rw[this];simp[Array.toList_push,Nat.sub_sub]
  ·rw[if_neg q];have e:occBody ⟨x.toArray⟩ ⟨y.toArray⟩ x.length limit i st=pure (Gy (st.fst,st.snd)):=by
    unfold occBody;rw[if_neg];rintro⟨⟨⟨q1,q2⟩,q3⟩,q4⟩;rw[yl]at q3;exact q ⟨⟨by lia,q2⟩,sp.mp ⟨q3,q4⟩⟩
   rw[e];have:=l5 x y hy limit m (i+1) (st.fst,st.snd) (by lia);simp only[pure_bind];rw[this]
theorem jE(x y:List Nat)(hy:y≠[])(limit:Nat):occurrences ⟨x.toArray⟩ ⟨y.toArray⟩ 0 x.length limit=dH y x 0 0 limit:=by rw[occ_eq];have:=l5 x y hy limit x.length 0 (#[],0) (by lia);rw[Nat.sub_zero];rw[this];simp
theorem k7(y:List Nat):∀(l:List Nat) (i free:Nat),dH y l i free 0=[]
 |[],_,_=>rfl
 |c::r,i,free=>by rw[dH,if_neg (by lia),k7 y r]
theorem l6(c:Nat):∀(l:List Nat) (i free:Nat),free<=i->(c∉l/\dH [c] l i free 1=[]/\Dm.ao c l=(l,[],[]))\/∃a b,l=a++c::b/\dH [c] l i free 1=[i+a.length]/\Dm.ao c l=(a,[c],b)
 |[],i,free,_=>.inl ⟨by simp,rfl,rfl⟩
 |x::r,i,free,h=>by
  rw[dH,Dm.ao];by_cases e:x=c
  ·subst e;rw[if_pos ⟨⟨by lia,h⟩,by simp[G9]⟩,if_pos rfl,k7];exact .inr ⟨[],r,rfl,rfl,rfl⟩
  ·rw[if_neg (by rintro⟨_,q⟩;simp[G9]at q;exact e q.symm),if_neg e];rcases l6 c r (i+1) free (by lia) with⟨h1,h2,h3⟩ | ⟨a,b,h1,h2,h3⟩
   ·refine .inl ⟨?_,h2,by rw[h3]⟩;intro z;rcases F9.mp z with z | z
    ·exact e z.symm
    ·exact h1 z
   ·refine .inr ⟨x::a,b,by rw[h1];rfl,by rw[h2,Dp];congr 1;lia,by rw[h3]⟩
theorem cz(x:List Nat)(i j:Nat):strSub ⟨x.toArray⟩ i j=⟨((x.drop i).take (j-i)).toArray⟩:=by
 unfold strSub
 congr 1
 rw[<- Array.toList_inj];simp only[Array.toList_extract,List.extract_eq_drop_take']
theorem len_list(x:List Nat):(Str.mk x.toArray).length=x.length:=by simp[Str.length]
theorem rT(x:List Nat)(c:Nat):Txt.partition ⟨x.toArray⟩ ⟨[c].toArray⟩=(⟨(Dm.ao c x).1.toArray⟩,⟨(Dm.ao c x).2.1.toArray⟩,⟨(Dm.ao c x).2.2.toArray⟩):=by
 unfold Txt.partition;rw[len_list,jE x [c] (by simp)];rcases l6 c x 0 0 (Ft _) with⟨_,h2,h3⟩ | ⟨a,b,h1,h2,h3⟩
 ·rw[h2,h3];rfl
 ·rw[h2,h3];dsimp only;rw[cz,cz,len_list,h1];refine Prod.ext ?_ (Prod.ext rfl ?_)
  ·simp
  ·simp[F2];exact List.take_of_length_le (by lia)
theorem in_list(x:List Nat)(c:Nat):(!(occurrences ⟨x.toArray⟩ ⟨[c].toArray⟩ 0 (Str.mk x.toArray).length 1).isEmpty)=x.contains c:=by
 rw[len_list,jE x [c] (by simp)];rcases l6 c x 0 0 (Ft _) with⟨h1,h2,_⟩ | ⟨a,b,h1,h2,_⟩
 ·rw[h2];simp[h1]
 ·rw[h2,h1];simp
theorem gh(x:List Nat)(c d:Nat):∀(uL uK:List Nat) (i a free lim:Nat),x.drop i=uL->a<=i->i<=x.length->uK=(x.drop a).take (i-a)->free<=i->uL.length<lim ->
  (partsFrom ⟨x.toArray⟩ 2 a (dH [c,d] uL i free lim)).map (fun s:Str=>s.cps.toList)=Dm.aA c d uK uL
 |[],uK,i,a,free,lim,hr,ha,hi,hacc,hf,hl=>by
  have:i=x.length:=by
   have:=congrArg List.length hr;rw[GF]at this;simp at this
   lia
  rw[dH,Dm.aA,partsFrom,len_list,cz,hacc,this];simp
 |[z],uK,i,a,free,lim,hr,ha,hi,hacc,hf,hl=>by
  have e1:i+1=x.length:=by
   have:=congrArg List.length hr;rw[GF]at this;simp at this
   lia
  rw[dH,if_neg (by rintro⟨_,q⟩;simp[G9]at q),dH,Dm.aA,partsFrom,len_list,cz,hacc,<- e1];have hz:x[i]?=some z:=by
   have:=congrArg (·[0]?) hr
   simpa using this
  have e2:i+1-a=(i-a)+1:=by lia
  rw[e2,List.take_succ,List.getElem?_drop,show a+(i-a)=i by lia,hz];simp
 |z::w::r,uK,i,a,free,lim,hr,ha,hi,hacc,hf,hl=>by
  have len:i+(r.length+2)=x.length:=by
   have:=congrArg List.length hr;rw[GF]at this;simp at this
   lia
  have hz:x[i]?=some z:=by
   have:=congrArg (·[0]?) hr
   simpa using this
  have d1:x.drop (i+1)=w::r:=by
   have:=congrArg (List.drop 1) hr
   simpa [List.drop_drop,Iq] using this
  have d2:x.drop (i+2)=r:=by
   have:=congrArg (List.drop 2) hr
   simpa [List.drop_drop,Iq] using this
  rw[dH,Dm.aA];by_cases q:z=c/\w=d
  ·obtain⟨rfl,rfl⟩:=q;rw[if_pos ⟨⟨by lia,hf⟩,by simp[G9]⟩,if_pos ⟨rfl,rfl⟩,partsFrom,gV,cz];have e:dH [z,w] (w::r) (i+1) (i+[z,w].length) (lim-1)=dH [z,w] r (i+2) (i+2) (lim-1):=by
    rw[dH,if_neg (by rintro⟨⟨_,q⟩,_⟩;simp at q)];rfl
   rw[e];have ih:=gh x z w r [] (i+2) (i+2) (i+2) (lim-1) d2 (Ft _) (by lia) (by simp) (Ft _) (by simp at hl;lia);rw[ih,hacc]
  ·rw[if_neg (by rintro⟨_,p⟩;simp[G9]at p;exact q ⟨p.1.symm,p.2.symm⟩),if_neg q];exact gh x c d (w::r) (uK++[z]) (i+1) a free lim d1 (by lia) (by lia) (by
    have e2:i+1-a=(i-a)+1:=by lia
    rw[e2,List.take_succ,List.getElem?_drop,show a+(i-a)=i by lia,hz,hacc];simp) (by lia) (by simp at hl ⊢;lia)
 termination_by uL=>uL.length
theorem nR(c d:Nat)(x:List Nat)(h:x.length<2):Dm.aA c d [] x=[x]:=by
 match x,h with
 |[],_=>rfl
 |[z],_=>rfl
theorem xB(x y:List Nat)(h:∀c∈y,c<128):¬Str.strKind ⟨x.toArray⟩<Str.strKind ⟨y.toArray⟩:=by
 have:Str.strKind ⟨y.toArray⟩=1:=by
  unfold Str.strKind;rw[if_pos];simp;intro c hc;have:=h c hc
  lia
 rw[this];unfold Str.strKind;split
 ·decide
 ·split<;>decide
theorem split_list(x:List Nat)(c d:Nat)(hc:c<128)(hd:d<128):(Txt.split ⟨x.toArray⟩ ⟨[c,d].toArray⟩).map (fun s:Str=>s.cps.toList)=Dm.aA c d [] x:=by
 unfold Txt.split;rw[len_list,len_list,jE x [c,d] (by simp)];have main:=gh x c d x [] 0 0 0 (x.length+1) rfl (Ft _) (Gb _) (by simp) (Ft _) (by lia);by_cases h:x.length<2
 ·rw[if_pos (by simp[h]),nR c d x h];simp
 ·rw[if_neg (by simp[h];exact Nat.le_of_not_lt (xB x [c,d] (by intro z hz;simp at hz;lia)))];by_cases e:(dH [c,d] x 0 0 (x.length+1)).isEmpty=true
  ·rw[if_pos e,<- main];have:dH [c,d] x 0 0 (x.length+1)=[]:=by simpa using e
   rw[this,partsFrom,len_list,cz];simp
  ·rw[if_neg e,partsBetween_eq];exact main
end Tx
namespace Br
open PySem PySem.Spec PyProof.Rows L2
section
variable{X:Cx}{s:List Nat}{H:Hp}{σ:L2.St}
theorem aX{H0 H:Hp}{v:V}(r:iX H0 H v (.str s)):v=.str ⟨s.toArray⟩:=by
 rcases r with r | ⟨a,_,w⟩
 ·cases r;rfl
 ·exact FG w
theorem bH(s:List Nat):(Str.mk s.toArray).length=s.length:=Tx.len_list s
def C7:R2:=fun x y H Q=>∃i j,x=.str i/\y=.str j/\i.length+j.length<=sizeLine/\Q (.str (i++j)) H
theorem xC:OpD C7 Dm.bY:=by
 intro H0 H x y dx dy z Q s rx ry e k;unfold Dm.bY at e;split at e
 ·rename_i a b;split at e
  case isFalse=>cases e
  rename_i hz;cases e;cases aX rx;cases aX ry;refine⟨_,_,rfl,rfl,by rw[bH,bH];exact cC hz,?_⟩;have:(Str.mk a.toArray++Str.mk b.toArray)=Str.mk (a++b).toArray:=by show Str.mk (a.toArray++b.toArray)=_;simp
  rw[this];exact k _ H0 H (aE.refl s) (.str _)
 ·cases e
def EN:R2:=fun x y H Q=>∃i j,x=.str i/\y=.str j/\Q (.bl (!(Gv j i 0 j.length 1).isEmpty)) H
theorem AU:OpD EN Dm.uC:=by
 intro H0 H x y dx dy z Q s rx ry e k;unfold Dm.uC at e;split at e
 ·rename_i c b;cases e;cases aX rx;cases aX ry;refine⟨_,_,rfl,rfl,?_⟩;rw[Tx.in_list b c];exact k _ H0 H (aE.refl s) (.bl _)
 ·cases e
def C8:R2:=fun x y H Q=>∃i j,x=.str i/\y=.str j/\Q (.bl (!(!(Gv j i 0 j.length 1).isEmpty))) H
theorem xD:OpD C8 Dm.nQ:=by
 intro H0 H x y dx dy z Q s rx ry e k;unfold Dm.nQ at e;split at e
 ·rename_i c b;cases e;cases aX rx;cases aX ry;refine⟨_,_,rfl,rfl,?_⟩;rw[Tx.in_list b c];exact k _ H0 H (aE.refl s) (.bl _)
 ·cases e
theorem AV:OpD B6 Dm.pe:=by
 intro H0 H x y dx dy z Q s rx ry e k;unfold Dm.pe at e;split at e
 ·rename_i a i;split at e
  case isFalse=>cases e
  rename_i hz;split at e
  ·cases e
  rename_i m hm;split at e
  ·cases e
  rename_i c hc;cases e;cases aX rx;cases ak ry;refine⟨_,i,c,rfl,rfl,by rw[bH];exact cC hz,?_,k _ H0 H (aE.refl s) (.str [c])⟩;show L2.atI a i=some c;have:L2.ixN a.length i=some m:=hm;unfold L2.atI;rw[this];exact hc
 ·cases e
theorem xE:CallD (fun xs H Q=>∃z,xs=[.str z]/\z.length<=sizeLine/\Q (.int z.length) H) Dm.fV:=by
 intro H0 H vs ds z Q s rs e k;unfold Dm.fV at e;split at e
 ·rename_i a;split at e
  case isFalse=>cases e
  rename_i hz;cases e;cases rs with
  |cons r rr=>cases rr;cases aX r;refine⟨_,rfl,by rw[bH];exact cC hz,?_⟩;rw[bH];exact k _ H0 H (aE.refl s) (.int _)
 ·cases e
theorem rU:cS X (.type "int") (fun xs H Q=>∃a:List Nat,xs=[.str ⟨a.toArray⟩]/\a≠[]/\a.all Dm.bZ=true/\a.length<=600/\Q (.int (Dm.dQ a:Nat)) H):=by
 intro ez s σ H xs us Q I r h;obtain⟨a,rfl,h1,h2,h3,q⟩:=h;obtain⟨u,rfl,rx⟩:=vals1 r;obtain⟨t,rfl⟩:=rx;have dig:Hq a:=fun c hc=>by
  have:=FF.mp h2 c hc;unfold Dm.bZ at this
  simpa using this
 have rd:PySem.intText? ⟨a.toArray⟩=some ((GV a:Nat):Int):=PySem.intText_digits (x:=⟨a.toArray⟩) (by simpa using dig) (by simpa using h1) (by rw[bH];lia);have ev:GV a=Dm.dQ a:=rfl;rw[ev]at rd;exact PySem.W.KIN.call_text rd (by rw[bH];lia) ⟨.int (Dm.dQ a:Nat),H,I.tok _,⟨_,rfl⟩,q⟩
def MD(r:V->List V->Hp->VK->Prop)(g:List Nat->Dat->Option RV):Prop:=∀(H0 H:Hp) (s:List Nat) (y:V) (dy:Dat) (z:RV) (Q:VK),aC H0 H->iX H0 H y dy->g s dy=some z ->
 (∀v H0' H',aE H0 H H0' H'->rG H H0' H' v z->Q v H')->r (.str ⟨s.toArray⟩) [y] H Q
theorem EO{K:fj}{r:V->List V->Hp->VK->Prop}{g:List Nat->Dat->Option RV}{fa fb:FE}{Q:VK}(o:MD r g)(h:tD (Dm.eS2 g fa fb) σ H Q):tBM K "str" r (tD fa) (tDA [fb]) σ H Q:=by
 obtain⟨H0,ρ,x,ρ',st,e,k⟩:=h;unfold Dm.eS2 at e;split at e
 ·cases e
 rename_i x1 ρ1 e1;split at e
 case h_2=>cases e
 rename_i s0 p0;split at e
 ·cases e
 rename_i y1 ρ2 e2;split at e
 ·cases e
 rename_i d p1;split at e
 ·cases e
 rename_i v hv;cases e;refine⟨H0,ρ,x1,ρ1,st,e1,fun v1 H1 Hb t1 r1=>?_⟩;cases aX (r1.look t1.st p0);refine⟨rfl,H1,ρ1,[y1],_,t1.st,by unfold Dm.eAs;rw[e2];rfl,fun vs H2 Hc t2 r2=>?_⟩;cases r2 with
 |cons r2 rr=>cases rr;refine o H2 Hc s0 _ d v Q t2.st.same (r2.look t2.st p1) hv fun w H3 Hd g3 r3=>?_;exact k w H3 Hd (t1.trans (t2.trans (.grow t2.st g3))) ((r3.toV t2.st).early fun a n=>(t1.trans t2).stp.gone n)
theorem k8:∀l:List (Str×Tok),Vals ((l.map (·.1)).map V.str) (strValues l)
 |[]=>.nil
 |p::l=>.cons ⟨p.2,rfl⟩ (k8 l)
theorem qz:∀{ss:List (List Nat)} {us:List Value},Vals (ss.map fun s=>V.str ⟨s.toArray⟩) us->∃l:List (Str×Tok),us=strValues l/\l.map (·.1)=ss.map fun s=>Str.mk s.toArray
 |[],_,.nil=>⟨[],rfl,rfl⟩
 |s::ss,_,.cons r rr=>by obtain⟨t,rfl⟩:=r;obtain⟨l,h1,h2⟩:=qz rr;refine⟨(⟨s.toArray⟩,t)::l,by rw[h1];rfl,by rw[gV,h2];rfl⟩
theorem AW{l:List Str}{ss:List (List Nat)}(h:l.map (fun s:Str=>s.cps.toList)=ss):l=ss.map fun s=>Str.mk s.toArray:=by subst h;rw[GP];exact(Ik _).symm.trans (HF fun s _=>by cases s;simp)
def yY:V->List V->Hp->VK->Prop:=fun x xs H Q=>∃(a:List Nat) (c:Nat),x=.str ⟨a.toArray⟩/\xs=[.str ⟨[c].toArray⟩]/\a.length<=sizeLine /\
 ∀p,H p=none->Q (.ref p) (upd H p (.tup [.str ⟨(Dm.ao c a).1.toArray⟩,.str ⟨(Dm.ao c a).2.1.toArray⟩,.str ⟨(Dm.ao c a).2.2.toArray⟩]))
theorem xF:MtR X "str.partition" yY:=by
 intro ez s σ H x vs v us Q I rx rv h;obtain⟨a,c,rfl,rfl,hz,q⟩:=h;obtain⟨t,rfl⟩:=rx;obtain⟨u,rfl,ru⟩:=rv.one;obtain⟨t',rfl⟩:=ru;refine call_meets F.slot_str_partition (typeIs_str _ _ _) F.entry_str_partition (F.args_str_partition_2 _ _) (meets_str_partition _ _ t t' rfl (by rw[bH];exact hz)) ?_;have pl:=Tx.rT a c;have lay:∀(A B C:Str) (ta tb tc:Tok) (tk:Nat),(A,B,C)=Txt.partition ⟨a.toArray⟩ ⟨[c].toArray⟩->EP X ez σ Q (.ref s.heap.objs.size) { s with toks:=tk,heap:=s.heap.push { cls:=.type "tuple",data:=.seq [.str A ta,.str B tb,.str C tc].toArray } }:=fun A B C ta tb tc tk e=>by
  rw[pl]at e;injection e with e1 e
  injection e with e2 e3
  subst e1 e2 e3;exact⟨.ref _,_,I.laid (t':=tk) (fun _ _ q=>FY _ q) (Ft _) (show bF X.prog X.w _ _ _ (.tup [.str ⟨(Dm.ao c a).1.toArray⟩,.str ⟨(Dm.ao c a).2.1.toArray⟩,.str ⟨(Dm.ao c a).2.2.toArray⟩]) from ⟨by show 3<=sizeLine;decide,_,.cons ⟨ta,rfl⟩ (.cons ⟨tb,rfl⟩ (.cons ⟨tc,rfl⟩ .nil)),⟨_,Gi _ rfl,rfl,0,rfl⟩⟩),rfl,q _ I.fresh⟩
 unfold Txt.partition at lay;revert lay;cases Gv ⟨a.toArray⟩ ⟨[c].toArray⟩ 0 (Str.mk a.toArray).length 1 with
 |nil=>intro lay;exact lay _ _ _ _ _ _ _ rfl
 |cons i r=>intro lay;exact lay _ _ _ _ _ _ _ rfl
theorem xG:MD yY Dm.gU:=by
 intro H0 H s y dy z Q sm ry e k;unfold Dm.gU at e;split at e
 ·rename_i c;split at e
  case isFalse=>cases e
  rename_i hz;cases e;cases aX ry;refine⟨s,c,rfl,rfl,cC hz,fun p hp=>?_⟩;have g:=aE.Ab (o:=.tup [.str ⟨(Dm.ao c s).1.toArray⟩,.str ⟨(Dm.ao c s).2.1.toArray⟩,.str ⟨(Dm.ao c s).2.2.toArray⟩]) sm hp;exact k _ _ _ g (.tup aN (.cons (.str _) (.cons (.str _) (.cons (.str _) .nil))))
 ·cases e
def uD:V->List V->Hp->VK->Prop:=fun x xs H Q=>∃(a:List Nat) (c d:Nat),x=.str ⟨a.toArray⟩/\xs=[.str ⟨[c,d].toArray⟩]/\a.length+1<=sizeLine/\c<128/\d<128 /\
 ∀p,H p=none->Q (.ref p) (upd H p (.lst ((Dm.aA c d [] a).map fun s=>V.str ⟨s.toArray⟩)))
theorem split_len(c d:Nat):∀(s uK:List Nat),(Dm.aA c d uK s).length<=s.length+1
 |[],uK=>by rw[Dm.aA];simp
 |[x],uK=>by rw[Dm.aA];simp
 |x::y::r,uK=>by
  rw[Dm.aA];split
  ·have:=split_len c d r [];simp;lia
  ·have:=split_len c d (y::r) (uK++[x]);simp at this ⊢;lia
 termination_by s=>s.length
theorem uE:MtR X "str.split" uD:=by
 intro ez s σ H x vs v us Q I rx rv h;obtain⟨a,c,d,rfl,rfl,hz,hc,hd,q⟩:=h;obtain⟨t,rfl⟩:=rx;obtain⟨u,rfl,ru⟩:=rv.one;obtain⟨t',rfl⟩:=ru;have sl:=Tx.split_list a c d hc hd;have zc:=split_len c d a [];have hS:Txt.split ⟨a.toArray⟩ ⟨[c,d].toArray⟩=(Dm.aA c d [] a).map fun s=>Str.mk s.toArray:=AW sl;have lay:∀(l:List (Str×Tok)) (tk:Nat),l.map (·.1)=Txt.split ⟨a.toArray⟩ ⟨[c,d].toArray⟩->EP X ez σ Q (.ref s.heap.objs.size) { s with toks:=tk,heap:=s.heap.push { cls:=.type "list",data:=.seq (strValues l).toArray } }:=fun l tk e=>by have rl:=k8 l;rw[e,hS,GP]at rl;exact⟨.ref _,_,I.laid (t':=tk) (o:=HO.lst ((Dm.aA c d [] a).map fun s:List Nat=>V.str (Str.mk s.toArray))) (fun _ _ q=>FY _ q) (Ft _) ⟨by rw[Fw];lia,_,0,rl,Gi _ rfl⟩,rfl,q _ I.fresh⟩
 have hy:((Str.mk [c,d].toArray).length == 0)=false:=rfl;have hx:(Str.mk a.toArray).length<=sizeLine:=by rw[bH];lia
 have ER:=lay;unfold Txt.split at ER;cases h1:(decide ((Str.mk a.toArray).length<(Str.mk [c,d].toArray).length)||decide (Builtin.Str.strKind (Str.mk a.toArray)<Builtin.Str.strKind (Str.mk [c,d].toArray)))
 ·cases hf:(Gv (Str.mk a.toArray) (Str.mk [c,d].toArray) 0 (Str.mk a.toArray).length ((Str.mk a.toArray).length+1)).isEmpty
  ·have hp:Txt.split ⟨a.toArray⟩ ⟨[c,d].toArray⟩=Builtin.Str.partsBetween (Str.mk a.toArray) (Gv (Str.mk a.toArray) (Str.mk [c,d].toArray) 0 (Str.mk a.toArray).length ((Str.mk a.toArray).length+1)) (Str.mk [c,d].toArray).length:=by
    unfold Txt.split;rw[if_neg (by rw[h1];decide),if_neg (by rw[hf];decide)]
   refine call_meets Ht (typeIs_str _ _ _) HZ (HQ _ _) (meets_str_split_sep _ _ t t' h1 hy hf hx (by rw[<- hp,hS,Fw];lia)) ?_;rw[strsFrom_eq];exact lay _ _ ((numbered_texts _ _).trans hp.symm)
  ·refine call_meets Ht (typeIs_str _ _ _) HZ (HQ _ _) (meets_str_split_not_found _ _ t t' h1 hy hf) ?_;exact lay [(⟨a.toArray⟩,t)] _ (by unfold Txt.split;rw[if_neg (by rw[h1];decide),if_pos hf];rfl)
 ·refine call_meets Ht (typeIs_str _ _ _) HZ (HQ _ _) (meets_str_split_cannot_occur _ _ t t' h1) ?_;exact lay [(⟨a.toArray⟩,t)] _ (by unfold Txt.split;rw[if_pos h1];rfl)
theorem k9:∀ss:List (List Nat),aK H (ss.map fun s=>V.str ⟨s.toArray⟩) (ss.map Dat.str)
 |[]=>.nil
 |s::ss=>.cons (.str s) (k9 ss)
theorem uF:MD uD Dm.gg:=by
 intro H0 H s y dy z Q sm ry e k;unfold Dm.gg at e;split at e
 ·rename_i c d;split at e
  case isFalse=>cases e
  rename_i hz;cases e;cases aX ry;refine⟨s,c,d,rfl,rfl,FQ (Nat.succ_le_succ hz.1) (by decide),hz.2.1,hz.2.2,fun p hp=>?_⟩;have g:=aE.oW (o:=HO.lst ((Dm.aA c d [] s).map fun s=>V.str ⟨s.toArray⟩)) sm hp;exact k _ _ _ g ⟨p,rfl,hp,sm.free hp,_,aN,k9 _⟩
 ·cases e
theorem jF(y:List Nat):∀(x:List Nat) (r:List (List Nat)),Dm.aR y (x::r)=x++(r.map (y++·)).flatten
 |x,[]=>by rw[Dm.aR];simp
 |x,z::r=>by rw[Dm.aR,jF y z r];simp;intro h;cases h
theorem qA(y:List Nat):∀(r:List (List Nat)) (uK:List Nat),(r.map fun s=>Str.mk s.toArray).foldl (fun(uK:Array Nat) (p:Str)=>uK++(Str.mk y.toArray).cps++p.cps) uK.toArray=(uK++(r.map (y++·)).flatten).toArray
 |[],uK=>by simp
 |z::r,uK=>by
  rw[gV,HA];have:uK.toArray++(Str.mk y.toArray).cps++(Str.mk z.toArray).cps=(uK++y++z).toArray:=by simp
  rw[this,qA y r];simp
theorem join_list(y:List Nat)(ss:List (List Nat)):Txt.join ⟨y.toArray⟩ (ss.map fun s=>Str.mk s.toArray)=⟨(Dm.aR y ss).toArray⟩:=by
 unfold Txt.join Builtin.Str.glued;cases ss with
 |nil=>rfl
 |cons s r=>
  congr 1
  show (r.map fun s=>Str.mk s.toArray).foldl _ s.toArray=_;rw[qA,jF]
theorem nS(y:List Nat):∀(ss:List (List Nat)) (n:Nat),(ss.map fun s=>Str.mk s.toArray).foldl (fun(n:Nat) (s:Str)=>n+s.length+(Str.mk y.toArray).length) n=n+(ss.map fun s=>s.length+y.length).sum
 |[],n=>by simp
 |s::ss,n=>by rw[gV,HA,nS y ss,bH,bH];simp;lia
def rJoin:V->List V->Hp->VK->Prop:=fun x xs H Q=>∃(y:List Nat) (l:Addr) (ss:List (List Nat)),x=.str ⟨y.toArray⟩/\xs=[.ref l]/\Rd H l (.lst (ss.map fun s=>V.str ⟨s.toArray⟩))/\(ss.map fun s=>s.length+y.length).sum<=Dm.SZ/\Q (.str ⟨(Dm.aR y ss).toArray⟩) H
theorem xH:MtR X "str.join" rJoin:=by
 intro ez s σ H x vs v us Q I rx rv h;obtain⟨y,l,ss,rfl,rfl,hB,hz,q⟩:=h;obtain⟨t,rfl⟩:=rx;obtain⟨u,rfl,ru⟩:=rv.one;cases ru;obtain⟨z,its,n,r,e⟩:=hB.ok I.hok;obtain⟨ls,rfl,h2⟩:=qz r;refine SC.join (l:=ls) (texts:=ss.map fun s=>Str.mk s.toArray) ⟨_,e,rfl,_,rfl⟩ h2 ?_ fun t' k=>?_
 ·unfold JoinOk;have:(ss.map fun s=>Str.mk s.toArray).toArray.foldl (fun(n:Nat) (s:Str)=>n+s.length+(Str.mk y.toArray).length) 0=(ss.map fun s=>s.length+y.length).sum:=by
   rw[<- Array.foldl_toList];show (ss.map fun s=>Str.mk s.toArray).foldl _ 0=_;rw[nS,F2]
  rw[this];unfold Builtin.Str.tooLong;have:(ss.map fun s=>s.length+y.length).sum<=sizeLine:=cC hz;simp;exact this
 ·rw[join_list];exact⟨.str ⟨(Dm.aR y ss).toArray⟩,H,I.tok _,⟨_,rfl⟩,q⟩
theorem jG:∀{us:List V} {ds:List Dat} {ss:List (List Nat)},aK H us ds->Dm.gW ds=some ss->us=ss.map fun s=>V.str ⟨s.toArray⟩
 |_,[],ss,.nil,e=>by rw[Dm.gW]at e;cases e;rfl
 |_,d::ds,ss,.cons r rr,e=>by
  cases d with
  |str s=>
   rw[Dm.gW]at e;cases hq:Dm.gW ds with
   |none=>rw[hq]at e;cases e
   |some q=>rw[hq]at e;cases e;cases r;rw[jG rr hq];rfl
  |_=>rw[Dm.gW]at e;cases e;intro s h;cases h
theorem xJ:MD rJoin Dm.jD:=by
 intro H0 H s y dy z Q sm ry e k;unfold Dm.jD at e;split at e
 ·rename_i ds;split at e
  ·rename_i ss hs;split at e
   case isFalse=>cases e
   rename_i hz;cases e;obtain⟨a,us,rfl,qa,ra⟩:=cE sm ry;have:=jG ra hs;subst this;exact⟨s,a,ss,rfl,rfl,qa,hz,k _ H0 H (aE.refl sm) (.str _)⟩
  ·cases e
 ·cases e
noncomputable def Itx(s:List Nat):It:=⟨fun i _=>i<s.length,fun i H x H'=>H'=H/\∃c,s[i]?=some c/\x=.str ⟨#[c]⟩,fun i _=>s.length<=i⟩
theorem rV{P:Program}{w:World}{K:fj}{tg:Expr}(it:Addr)(s:List Nat)(t:Tok):Turn P w K tg (Itx s) [it] it (fun i h=>h.IsStrIter it "str_ascii_iterator" ⟨s.toArray⟩ t i) where
 mem:=by simp
 obj:=fun i h st b hb=>by
  have e:b=it:=by simpa using hb
  subst e;obtain⟨o,ho,_,hd⟩:=st;exact⟨o,ho,fun v z=>by rw[hd]at z;cases z⟩
 keep:=fun i h h' st k=>by obtain⟨o,ho,r⟩:=st;exact⟨o,k it (by simp) _ ho,r⟩
 item:=by intro X hP hw hK hc i ez sh σ H E I hf st hg;subst hP hw hK;obtain⟨f0,f1,f2,f3,f4,f5⟩:=hf it (by simp);have W:=Walks.strAscii (prog:=X.prog) (w:=X.w) (I.ok.hd hc) it ⟨s.toArray⟩ t;refine W.item i sh _ _ (by have:i<s.length:=hg;simpa using this) st fun v h' tk hv st' kk=>?_;obtain⟨c,u,hc',rfl⟩:=hv;have I1:Inv X ez σ H { sh with heap:=h',toks:=tk }:=I.turned (fun b o hb e=>kk b o (by simpa using hb) e) f0 f1 f3 f4 f5;obtain⟨o,ho,hcl,hd⟩:=st';exact⟨_,rfl,qf (s:={ sh with heap:=h',toks:=tk }) (n := "str_ascii_iterator") ho hcl hd (by decide) ⟨.str ⟨#[c]⟩,H,I1,⟨u,rfl⟩,⟨rfl,c,by simpa using hc',rfl⟩,⟨o,ho,hcl,hd⟩,fun b hb=>(hf b hb).1⟩⟩
 done:=by intro X hP hw hK hc i ez sh σ H E I hf st hg;subst hP hw hK;obtain⟨f0,f1,f2,f3,f4,f5⟩:=hf it (by simp);refine wpAny_pyNext_ascii_end (I.ok.hd hc) st ?_ fun h' eb=>⟨rfl,I.turned (t':=sh.toks) (fun b o hb e=>eb b o hb e) f0 f1 f3 f4 f5⟩;have:s.length<=i:=hg;simp[this]
 self:=fun _ _ _ _ _ st h=>wpAny_pyIter_striter_ascii st h
def yZ(te:TE):TI:=fun σ H R=>te σ H fun x H1=>∃s:List Nat,x=.str ⟨s.toArray⟩/\s.all (fun c=>decide (c<128))=true/\R (Itx s) H1
theorem xK{tg l:Expr}{tl:TE}(hl:PE X l tl):PI X tg l (yZ tl):=by
 intro ez s σ H R I h;refine thn (hl ez s σ H _ I h) fun v s1 ⟨x,H1,I1,r1,q1⟩=>?_;obtain⟨a,rfl,ha,q⟩:=q1;obtain⟨t,rfl⟩:=r1;refine wpAny_pyIter_ascii (by simpa using ha) ?_;refine⟨s1.heap.objs.size,[s1.heap.objs.size],_,_,H1,rfl,I1.kept (t':=s1.toks) fun b o e=>FY _ e,rV _ a t,⟨_,Gi _ rfl,rfl,rfl⟩,fun b hb=>?_,q⟩;have e:b=s1.heap.objs.size:=by simpa using hb
 subst e;exact I1.wj (Ft _) (I1.hok.fresh (Ft _))
theorem xM{H0:Hp}:JW (Itx s) H0 (s.map fun c=>Dat.str [c]):=by
 intro H0' H s0 s1;refine⟨fun i hi=>(show s.length<=i by simpa using hi),fun i d e=>?_⟩;rw[F4]at e;cases hc:s[i]? with
 |none=>rw[hc]at e;cases e
 |some c=>rw[hc]at e;cases e;refine⟨(F5.mp hc).1,fun x H' y=>?_⟩;obtain⟨rfl,c',hc',rfl⟩:=y;rw[hc]at hc';cases hc';exact⟨H0',aE.refl s1,.str [c]⟩
theorem C9{R:It->Hp->Prop}{f:FE}(h:tDI (Dm.iTx f) σ H R):yZ (tD f) σ H R:=by
 obtain⟨H0,ρ,ys,ρ',st,e,k⟩:=h;unfold Dm.iTx at e;split at e
 ·cases e
 rename_i x ρ1 e1;split at e
 ·rename_i s hp;split at e
  ·rename_i ha;cases e;refine⟨H0,ρ,x,_,st,e1,fun v H1 Hb t1 r1=>?_⟩;cases aX (r1.look t1.st hp);exact⟨s,rfl,ha,k _ H1 Hb t1 xM⟩
  ·cases e
 ·cases e
end
section
variable{X:Cx}{tg a b e:Expr}{fa fb f:FE}{pos p:Pos}
theorem C_(he:DE X e f):DI X tg e (Dm.iTx f):=PI.weak (xK he) fun _ _ _=>C9
theorem AX{name:Str}{id:String}{r:V->List V->Hp->VK->Prop}{g:List Nat->Dat->Option RV}{ap cp:Pos}(slot:Slot "str" name id)(hty:typeOf (.builtin id)=pure (.type "method_descriptor"))(mt:MtR X id r)(md:MD r g)(ha:DE X a fa)(he:DE X e f)
  (A8:attributeBase a name X.env (eval a X.env)=eval a X.env:=by rfl)
  (hfew:((backTo cp (starEach [e] X.env)).all (fun x=>!x.1)&&(backToKw cp (keywordEach [] X.env)).all (fun x=>x.1.isSome)
   && decide ([e].length+([]:List Keyword).length+(if ([]:List Keyword).isEmpty then 0 else 1)<30))=true:=by rfl)
  (A0:(ap.endLine == cp.line)=true:=by rfl) (hs:starEach [e] X.env=(false,eval e X.env)::starEach [] X.env:=by rfl) (Dh:(backTo cp (starEach [] X.env)).any (·.1)=false:=by rfl) :
  DE X (.Call (.Attribute a name ap) [e] [] cp) (Dm.eS2 g fa f):=
 PE.weak (yP PySem.F.plainAttrs_str slot hty mt ha (aa he ai hs) A8 hfew A0 hs Dh) fun _ _ _=>EO md
theorem bI(ha:DE X a fa)(hb:DE X b fb):DE X (.BinOp a .Add b pos) (Dm.e2 Dm.bY fa fb):=nu oS xC ha hb
theorem Dc(ha:DE X a fa)(hb:DE X b fb)(hm:behindInMarks .In b=false:=by rfl):DE X (.Compare a [.In] [b] pos) (Dm.e2 Dm.uC fa fb):=tR rm AU ha hb hm
theorem AY(ha:DE X a fa)(hb:DE X b fb)(hm:behindInMarks .NotIn b=false:=by rfl):DT X (.Compare a [.NotIn] [b] pos) (Dm.tV (Dm.e2 Dm.nQ fa fb)):=gS lJ xD ha hb hm
theorem y9(ha:DE X a fa)(hb:DE X b fb)(hs:lN b:=by intro _ _;rfl):DE X (.Subscript a b pos) (Dm.e2 Dm.pe fa fb):=PE.weak (yO z7 ha hb hs) fun _ _ _=>tG AV
theorem pq{fs:List FE}(hg:Gl X "len")(hm:X.mg "len" = none)(ha:DA X [e] fs)(he:starEach [e] X.env=[(false,eval e X.env)]:=by rfl)(AZ:(backTo pos (starEach [] X.env)).any (·.1)=false:=by rfl):DE X (.Call (.Name "len" p) [e] [] pos) (Dm.eB Dm.fV fs):=rL lQ xE PySem.boot_len hg hm ha (he:=he) (AZ:=AZ)
end
open Builtin.Str in
theorem uG(lo hi:Option Int)(n:Nat):strSliceIndices lo hi 1 n=strSliceIndices (some ((Dm.sIx n 0 lo:Nat):Int)) (some ((Dm.sIx n n hi:Nat):Int)) 1 n:=by
 have cl:∀v:Int,max 0 (min (if v<0 then v+(n:Int) else v) (n:Int))=(((if v<0 then max (v+(n:Int)) 0 else min v n).toNat:Nat):Int):=fun v=>by split<;>lia
 have c2:∀(d:Nat) (o:Option Int),d<=n->Dm.sIx n d o<=n:=fun d o hd=>by
  cases o with
  |none=>exact hd
  |some v=>unfold Dm.sIx;split<;>lia
 have h1:=c2 0 lo (Gb _);have h2:=c2 n hi (Ft _);have e1:max (0:Int) (min (if (Dm.sIx n 0 lo:Int)<0 then (Dm.sIx n 0 lo:Int)+n else (Dm.sIx n 0 lo:Int)) n)=Dm.sIx n 0 lo:=by split<;>lia
 have e2:max (0:Int) (min (if (Dm.sIx n n hi:Int)<0 then (Dm.sIx n n hi:Int)+n else (Dm.sIx n n hi:Int)) n)=Dm.sIx n n hi:=by split<;>lia
 unfold strSliceIndices;simp only[show ((1:Int)>0)=True from by simp,if_true];rw[e1,e2]
 congr 1
 ·cases lo with
  |none=>rfl
  |some v=>exact cl v
 ·cases hi with
  |none=>rfl
  |some v=>exact cl v
open Builtin.Str in
theorem slice_list(s:List Nat)(lo hi:Option Int):GB ⟨s.toArray⟩ lo hi=⟨(Dm.iC s lo hi).toArray⟩:=by
 have c2:∀(d:Nat) (o:Option Int),d<=s.length->Dm.sIx s.length d o<=s.length:=fun d o hd=>by
  cases o with
  |none=>exact hd
  |some v=>unfold Dm.sIx;split<;>lia
 have hb:=c2 s.length hi (Ft _);have ha:=c2 0 lo (Gb _);have cl:GB ⟨s.toArray⟩ lo hi=GB ⟨s.toArray⟩ (some ((Dm.sIx s.length 0 lo:Nat):Int)) (some ((Dm.sIx s.length s.length hi:Nat):Int)):=by unfold GB;rw[bH,uG lo hi]
 rw[cl];unfold Dm.iC;by_cases h:Dm.sIx s.length 0 lo<=Dm.sIx s.length s.length hi
 ·rw[StrLaws.sliceText_nat _ h (by rw[bH];exact hb)]
 ·have e:strSliceIndices (some ((Dm.sIx s.length 0 lo:Nat):Int)) (some ((Dm.sIx s.length s.length hi:Nat):Int)) 1 s.length=[]:=by
   unfold strSliceIndices sliceRange;simp only[show ((1:Int)>0)=True from by simp,if_true];have n1:¬(((Dm.sIx s.length 0 lo:Nat):Int)<0):=by lia
   have n2:¬(((Dm.sIx s.length s.length hi:Nat):Int)<0):=by lia
   rw[if_neg n1,if_neg n2,if_neg (by lia)];rfl
  unfold GB;rw[bH,e,show Dm.sIx s.length s.length hi-Dm.sIx s.length 0 lo=0 by lia,List.take_zero];split
  ·rename_i q;have q0:0=s.length:=by simpa using q
   have:s=[]:=GK q0.symm;rw[this]
  ·rfl
def Dd:V->Option Int->Option Int->Hp->VK->Prop:=fun x lo hi H Q=>∃s:List Nat,x=.str ⟨s.toArray⟩/\s.length<=sizeLine/\Q (.str ⟨(Dm.iC s lo hi).toArray⟩) H
theorem xN{X:Cx}:SlR X Dd:=by
 intro ez s σ H x v vl vu lo hi sl Q I rx hs pl pu h;obtain⟨a,rfl,hz,q⟩:=h;obtain⟨t,rfl⟩:=rx;refine⟨"str",_,F.slot_str_getitem.lookup,typeIs_str _ _ _,?_⟩;obtain⟨l,hl,rfl⟩:∃l:Option (Int×Tok),vl=partValue l/\lo=l.map (·.1):=by
  cases pl with
  |none=>exact⟨none,rfl,rfl⟩
  |int i t=>exact⟨some (i,t),rfl,rfl⟩
 obtain⟨u,hu,rfl⟩:∃u:Option (Int×Tok),vu=partValue u/\hi=u.map (·.1):=by
  cases pu with
  |none=>exact⟨none,rfl,rfl⟩
  |int i t=>exact⟨some (i,t),rfl,rfl⟩
 subst hl hu;refine wpAny_getItem_str_slice (l:=l) (u:=u) (st:=none) hs rfl ?_;have st:=slice_list a (l.map (·.1)) (u.map (·.1));have Ke:∀(t':Tok) (k:Nat),EP X ez σ Q (.str (GB ⟨a.toArray⟩ (l.map (·.1)) (u.map (·.1))) t') { s with toks:=k }:=fun t' k=>by rw[st];exact⟨.str ⟨(Dm.iC a (l.map (·.1)) (u.map (·.1))).toArray⟩,H,I.tok _,⟨_,rfl⟩,q⟩
 have zc:(GB ⟨a.toArray⟩ (l.map (·.1)) (u.map (·.1))).length<=sizeLine:=by
  rw[st,bH];unfold Dm.iC;rw[Gz,GF]
  lia
 have em:sliceMade ⟨a.toArray⟩ t l u none=if ((1:Int) == 1&&(G5 (l.map (·.1)) (u.map (·.1)) 1 (Str.mk a.toArray).length).length == (Str.mk a.toArray).length)=true then Made.val (.str ⟨a.toArray⟩ t) else Made.str ⟨((G5 (l.map (·.1)) (u.map (·.1)) 1 (Str.mk a.toArray).length).filterMap ((Str.mk a.toArray).cps[·]?)).toArray⟩:=rfl
 rw[em];unfold GB at Ke zc;by_cases c:((1:Int) == 1&&(G5 (l.map (·.1)) (u.map (·.1)) 1 (Str.mk a.toArray).length).length == (Str.mk a.toArray).length)=true
 ·rw[if_pos c]at Ke ⊢;exact Ke t s.toks
 ·rw[if_neg c]at Ke zc ⊢;exact⟨zc,Ke _ _⟩
theorem De{lo hi:Option FE}{f:FE}{σ:L2.St}{H:Hp}{Q:VK}(h:tD (Dm.i7 f lo hi) σ H Q):tSl Dd (tD f) (tOf lo) (tOf hi) σ H Q:=by
 obtain⟨H0,ρ,x,ρ',st,e,k⟩:=h;unfold Dm.i7 at e;split at e
 ·cases e
 rename_i x1 ρ1 e1;split at e
 ·cases e
 rename_i l ρ2 e2;split at e
 ·cases e
 rename_i hh ρ3 e3;split at e
 ·rename_i s p1;split at e
  ·rename_i hz;cases e;refine⟨H0,ρ,x1,ρ1,st,e1,fun v H1 Hb t1 r1=>?_⟩;refine jb t1.st e2 fun H2 Hc t2=>?_;refine jb t2.st e3 fun H3 Hd t3=>?_;have tt:=t1.trans (t2.trans t3);cases aX ((r1.mono (t2.trans t3)).look t3.st p1);exact⟨s,rfl,cC hz,k _ _ _ tt (.str _)⟩
  ·cases e
 ·cases e
theorem jH(a:List Nat):∀(n:Nat) (uK:List Nat),(eg n a.toArray).foldl (·++·) uK.toArray=(uK++(eg n a).flatten).toArray
 |0,uK=>by simp
 |n+1,uK=>by
  rw[Gq,HA];have:uK.toArray++a.toArray=(uK++a).toArray:=by simp
  rw[this,jH a n,Gq];simp
def y_:R2:=fun x y H Q=>∃(a:List Nat) (k:Int),x=.str ⟨a.toArray⟩/\y=.int k/\0<=k/\k<=Dm.BIG/\a.length*k.toNat<=Dm.SZ/\Q (.str ⟨(eg k.toNat a).flatten.toArray⟩) H
theorem xO{X:Cx}:OpR X (binaryOp .Mult) y_:=by
 intro ez s σ H x y v u Q I rx ry h;obtain⟨a,k,rfl,rfl,h0,h1,hz,q⟩:=h;obtain⟨t,rfl⟩:=rx;obtain⟨t',rfl⟩:=ry;unfold Dm.BIG at h1;have Ke:∀(z:Str) (t':Tok) (tk:Nat),z=⟨(eg k.toNat a).flatten.toArray⟩->EP X ez σ Q (.str z t') { s with toks:=tk }:=fun z t' tk e=>by subst e;exact⟨.str ⟨(eg k.toNat a).flatten.toArray⟩,H,I.tok _,⟨_,rfl⟩,q⟩
 have hz':a.length*k.toNat<=sizeLine:=cC hz;have p63:(2:Int) ^ 63=9223372036854775808:=by decide
 refine P.mul_str ?_ ?_ ?_ ?_
 ·rw[p63];have e1:decide (k < -9223372036854775808)=false:=decide_eq_false (by lia);have e2:decide (k≥9223372036854775808)=false:=decide_eq_false (by lia);rw[e1,e2];rfl
 ·intro hk _;rw[bH,p63];have hk1:1<=k:=by lia
  intro hgt;have m:(a.length:Int)*k<=100000:=by
   have:((a.length*k.toNat:Nat):Int)<=100000:=by unfold Dm.SZ at hz;lia
   rw[Int.natCast_mul,Int.toNat_of_nonneg h0]at this;exact this
  have hd:(2 ^ 63-1:Int) / k<a.length:=hgt;have h3:=Int.lt_mul_of_ediv_lt (show 0<k by lia) (by rw[p63]at hd;exact hd)
  lia
 ·intro _ _;unfold Builtin.Str.tooLong;rw[bH]
  simpa using hz'
 ·split
  ·rename_i hk;have:k=0:=by lia
   subst this;exact⟨by decide,Ke _ _ _ rfl⟩
  ·split
   ·rename_i hk h2;refine Ke _ _ s.toks ?_;rw[bH]at h2;by_cases k1:k=1
    ·subst k1;simp
    ·have:a=[]:=by simpa [k1] using h2
     subst this;simp
   ·refine⟨?_,Ke _ _ _ ?_⟩
    ·show (Str.mk _).length<=sizeLine;have:=jH a k.toNat [];rw[Fo]at this;have e:(eg k.toNat (Str.mk a.toArray).cps).foldl (·++·) #[]=(eg k.toNat a).flatten.toArray:=this;rw[e,bH]
     simpa [Nat.mul_comm] using hz'
    ·have:=jH a k.toNat [];rw[Fo]at this;exact congrArg Str.mk this
theorem xP:OpD y_ Dm.iP:=by
 intro H0 H x y dx dy z Q s rx ry e k;unfold Dm.iP at e;split at e
 ·rename_i a i;split at e
  case isFalse=>cases e
  rename_i hz;cases e;cases aX rx;cases ak ry;exact⟨a,i,rfl,rfl,hz.1,hz.2.1,hz.2.2,k _ H0 H (aE.refl s) (.str _)⟩
 ·cases e
theorem xQ:CallD (fun xs H Q=>∃a:List Nat,xs=[.str ⟨a.toArray⟩]/\a≠[]/\a.all Dm.bZ=true/\a.length<=600/\Q (.int (Dm.dQ a:Nat)) H) Dm.gT:=by
 intro H0 H vs ds z Q s rs e k;unfold Dm.gT at e;split at e
 ·rename_i a;split at e
  case isFalse=>cases e
  rename_i hz;cases e;cases rs with
  |cons r rr=>cases rr;cases aX r;exact⟨a,rfl,hz.1,hz.2.1,hz.2.2,k _ H0 H (aE.refl s) (.int _)⟩
 ·cases e
section
variable{X:Cx}{tg a b e:Expr}{fa fb f:FE}{pos p p2:Pos}{fs:List FE}
theorem pA(ha:DE X a fa)(hb:DE X b fb):DE X (.BinOp a .Mult b pos) (Dm.e2 Dm.iP fa fb):=nu xO xP ha hb
theorem k_{lo hi:Option Expr}{flo fhi:Option FE}(h:DE X e f)(hl:PO X lo (tOf flo))(hh:PO X hi (tOf fhi)):DE X (.Subscript e (.Slice lo hi none p2) pos) (Dm.i7 f flo fhi):=PE.weak (mY xN h hl hh) fun _ _ _=>De
theorem pB(hg:Gl X "int")(hm:X.mg "int" = none)(ha:DA X [e] fs)(he:starEach [e] X.env=[(false,eval e X.env)]:=by rfl)(AZ:(backTo pos (starEach [] X.env)).any (·.1)=false:=by rfl):DE X (.Call (.Name "int" p) [e] [] pos) (Dm.eB Dm.gT fs):=CJ rU xQ (by rfl) hg hm ha (he:=he) (AZ:=AZ)
theorem Df{x:Str}{s:List Nat}{t:Tok}(hg:Gl X x)(hm:X.mg x=some (.str ⟨s.toArray⟩ t))(hd:(x == ("__debug__" : Str))=false:=by decide):DE X (.Name x pos) (Dm.eC (.str s)):=
 PE.weak (ja (v:=.str ⟨s.toArray⟩) hg hm ⟨t,rfl⟩ hd) fun _ _ _=>fK fun _=>.str s
variable{ap cp:Pos}
theorem l7(ha:DE X a fa)(he:DE X e f)(A8:attributeBase a "partition" X.env (eval a X.env)=eval a X.env:=by rfl)
  (hfew:((backTo cp (starEach [e] X.env)).all (fun x=>!x.1)&&(backToKw cp (keywordEach [] X.env)).all (fun x=>x.1.isSome)
   && decide ([e].length+([]:List Keyword).length+(if ([]:List Keyword).isEmpty then 0 else 1)<30))=true:=by rfl)
  (A0:(ap.endLine == cp.line)=true:=by rfl) (hs:starEach [e] X.env=(false,eval e X.env)::starEach [] X.env:=by rfl) (Dh:(backTo cp (starEach [] X.env)).any (·.1)=false:=by rfl) :
  DE X (.Call (.Attribute a "partition" ap) [e] [] cp) (Dm.eS2 Dm.gU fa f):=AX F.slot_str_partition F.type_str_partition xF xG ha he A8 hfew A0 hs Dh
theorem qB(ha:DE X a fa)(he:DE X e f)(A8:attributeBase a "split" X.env (eval a X.env)=eval a X.env:=by rfl)
  (hfew:((backTo cp (starEach [e] X.env)).all (fun x=>!x.1)&&(backToKw cp (keywordEach [] X.env)).all (fun x=>x.1.isSome)
   && decide ([e].length+([]:List Keyword).length+(if ([]:List Keyword).isEmpty then 0 else 1)<30))=true:=by rfl)
  (A0:(ap.endLine == cp.line)=true:=by rfl) (hs:starEach [e] X.env=(false,eval e X.env)::starEach [] X.env:=by rfl) (Dh:(backTo cp (starEach [] X.env)).any (·.1)=false:=by rfl) :
  DE X (.Call (.Attribute a "split" ap) [e] [] cp) (Dm.eS2 Dm.gg fa f):=AX Ht F.type_str_split uE uF ha he A8 hfew A0 hs Dh
theorem uH(ha:DE X a fa)(he:DE X e f)(A8:attributeBase a "join" X.env (eval a X.env)=eval a X.env:=by rfl)
  (hfew:((backTo cp (starEach [e] X.env)).all (fun x=>!x.1)&&(backToKw cp (keywordEach [] X.env)).all (fun x=>x.1.isSome)
   && decide ([e].length+([]:List Keyword).length+(if ([]:List Keyword).isEmpty then 0 else 1)<30))=true:=by rfl)
  (A0:(ap.endLine == cp.line)=true:=by rfl) (hs:starEach [e] X.env=(false,eval e X.env)::starEach [] X.env:=by rfl) (Dh:(backTo cp (starEach [] X.env)).any (·.1)=false:=by rfl) :
  DE X (.Call (.Attribute a "join" ap) [e] [] cp) (Dm.eS2 Dm.jD fa f):=AX F.slot_str_join F.type_str_join xH xJ ha he A8 hfew A0 hs Dh
end
end Br
namespace Dm
section
variable{o p:Option Dat}{K:RV->Prop}{ρ:Env}{Q:Val->Env->Prop}{R:RV->Env->Prop}{N:Env->Prop}{B C:Env->Prop}{α:Type}{d:Dat}{i j:Int}{f:List Dat->Option RV}{ds:List Dat}{X Y:Prop}{a:FE}{as:List FE}{xs:List Val}{g:Dat->Option RV}{w:List Nat}{lo hi:Option FE}{c:Bool}{b:List Nat}{v:RV}{t:FT}{e:FE}{body:FS}{it:FI}{bd:FB}
def We(e:FE)(ρ:Env)(Q:Val->Env->Prop):Prop:=∃v ρ',e ρ=some (v,ρ')/\Q v ρ'
def Wt(t:FT)(ρ:Env)(Q:Bool->Env->Prop):Prop:=∃v ρ',t ρ=some (v,ρ')/\Q v ρ'
def Was(as:List FE)(ρ:Env)(Q:List Val->Env->Prop):Prop:=∃v ρ',eAs as ρ=some (v,ρ')/\Q v ρ'
def Wi(it:FI)(ρ:Env)(Q:List Dat->Env->Prop):Prop:=∃v ρ',it ρ=some (v,ρ')/\Q v ρ'
def KO(N:Env->Prop)(R:RV->Env->Prop)(B C:Env->Prop):Out->Prop
 |.nx ρ=>N ρ
 |.ret r ρ=>R r ρ
 |.bk ρ=>B ρ
 |.ct ρ=>C ρ
def Ws(s:FS)(ρ:Env)(N:Env->Prop)(R:RV->Env->Prop)(B C:Env->Prop):Prop:=∃o,s ρ=some o/\KO N R B C o
def Wr(o:Option RV)(P:RV->Prop):Prop:=∃r,o=some r/\P r
def Wif(c:Bool)(X Y:Prop):Prop:=(c=true->X)/\(c=false->Y)
def Wg1(g:Dat->Option RV)(o:Option Dat)(K:RV->Prop):Prop:=∃d v,o=some d/\g d=some v/\K v
def Wg2(g:Dat->Dat->Option RV)(o p:Option Dat)(K:RV->Prop):Prop:=∃d e v,o=some d/\p=some e/\g d e=some v/\K v
def WB(g:List Dat->Option RV)(o:Option (List Dat))(K:RV->Prop):Prop:=∃ds v,o=some ds/\g ds=some v/\K v
def WT(o:Option (List Dat×Env))(K:List Dat->Env->Prop):Prop:=∃ds ρ,o=some (ds,ρ)/\ds.length<=SZ/\K ds ρ
def WF(f:List Dat->Option RV)(ρ:Env)(xs:List Val)(Q:Val->Env->Prop):Prop:=∃ds v,pks ρ xs=some ds/\f ds=some v/\(if aP v.dat then ∃ds' ρ2,tks ρ xs=some (ds',ρ2)/\Q v.aH ρ2 else Q v.aH ρ)
def Wk(ρ:Env)(x:Val)(K:Dat->Env->Prop):Prop:=∃d ρ',tk ρ x=some (d,ρ')/\K d ρ'
def Wp(o:Option FE)(ρ:Env)(K:Option Int->Env->Prop):Prop:=∃i ρ',part o ρ=some (i,ρ')/\K i ρ'
theorem Je(x:X):Wif true X Y:=⟨fun _=>x,fun h=>by cases h⟩
theorem IW(y:Y):Wif false X Y:=⟨fun h=>(by cases h),fun _=>y⟩
theorem II(h:c=true)(x:X):Wif c X Y:=⟨fun _=>x,fun h'=>by rw[h]at h';cases h'⟩
theorem IQ(h:c=false)(y:Y):Wif c X Y:=⟨fun h'=>(by rw[h]at h';cases h'),fun _=>y⟩
theorem Jc{p:Prop}[Decidable p](x:p->X)(y:¬p->Y):Wif (decide p) X Y:=⟨fun h=>x (of_decide_eq_true h),fun h=>y (of_decide_eq_false h)⟩
theorem G_{i:Nat}(h:ρ[i]?=some (.sh d))(q:Q (.val d) ρ):We (eV i) ρ Q:=⟨_,_,by unfold eV;rw[h],q⟩
theorem I_{i:Nat}(h:ρ[i]?=some (.ow d))(q:Q (.slot i) ρ):We (eV i) ρ Q:=⟨_,_,by unfold eV;rw[h],q⟩
theorem H_(q:Q (.val d) ρ):We (eC d) ρ Q:=⟨_,_,rfl,q⟩
theorem Jq(h:We a ρ fun x ρ1=>Wg1 g (pk ρ1 x) fun v=>Q v.aH ρ1):We (e1 g a) ρ Q:=by obtain⟨x,ρ1,h1,d,v,h2,h3,q⟩:=h;exact⟨_,_,by unfold Dm.e1;rw[h1];dsimp only;rw[h2];dsimp only;rw[h3],q⟩
theorem F_{g:Dat->Dat->Option RV}{a b:FE}(h:We a ρ fun x ρ1=>We b ρ1 fun y ρ2=>Wg2 g (pk ρ2 x) (pk ρ2 y) fun v=>Q v.aH ρ2):We (e2 g a b) ρ Q:=by obtain⟨x,ρ1,h1,y,ρ2,h2,d,e,v,h3,h4,h5,q⟩:=h;exact⟨_,_,by unfold Dm.e2;rw[h1];dsimp only;rw[h2];dsimp only;rw[h3];dsimp only;rw[h4];dsimp only;rw[h5],q⟩
theorem IC{Q:List Val->Env->Prop}(q:Q [] ρ):Was [] ρ Q:=⟨_,_,rfl,q⟩
theorem m_{r:List FE}{Q:List Val->Env->Prop}(h:We a ρ fun x ρ1=>Was r ρ1 fun xs ρ2=>Q (x::xs) ρ2):Was (a::r) ρ Q:=by obtain⟨x,ρ1,h1,xs,ρ2,h2,q⟩:=h;exact⟨_,_,by unfold eAs;rw[h1];dsimp only;rw[h2],q⟩
theorem IY{g:List Dat->Option RV}(h:Was as ρ fun xs ρ1=>WB g (pks ρ1 xs) fun v=>Q v.aH ρ1):We (eB g as) ρ Q:=by obtain⟨x,ρ1,h1,d,v,h2,h3,q⟩:=h;exact⟨_,_,by unfold eB;rw[h1];dsimp only;rw[h2];dsimp only;rw[h3],q⟩
theorem JZ(h:Was as ρ fun xs ρ1=>WT (tks ρ1 xs) fun ds ρ2=>Q (.val (.tup ds)) ρ2):We (bV as) ρ Q:=by obtain⟨x,ρ1,h1,ds,ρ2,h2,h3,q⟩:=h;exact⟨_,_,by unfold bV;rw[h1];dsimp only;rw[h2];dsimp only;rw[if_pos h3],q⟩
theorem Jt(h:Was as ρ fun xs ρ1=>WT (tks ρ1 xs) fun ds ρ2=>Q (.new (.lst ds)) ρ2):We (bf as) ρ Q:=by obtain⟨x,ρ1,h1,ds,ρ2,h2,h3,q⟩:=h;exact⟨_,_,by unfold bf;rw[h1];dsimp only;rw[h2];dsimp only;rw[if_pos h3],q⟩
theorem Jf{ρ2 ρ3:Env}{K:List Dat->Env->Prop}(k:K ds ρ3)(h:tks ρ xs=some (ds,ρ2))(hn:ρ2=ρ3)(hl:ds.length<=SZ):WT (tks ρ xs) K:=⟨_,_,hn▸h,hl,k⟩
theorem IP(h:Was as ρ fun xs ρ1=>WF f ρ1 xs Q):We (eF f as) ρ Q:=by
 obtain⟨x,ρ1,h1,ds,v,h2,h3,h4⟩:=h;by_cases hb:aP v.dat=true
 ·rw[if_pos hb]at h4;obtain⟨ds',ρ2,h5,q⟩:=h4;exact⟨_,_,by unfold eF;rw[h1];dsimp only;rw[h2];dsimp only;rw[h3];dsimp only;rw[if_pos hb,h5],q⟩
 ·rw[if_neg hb]at h4;exact⟨_,_,by unfold eF;rw[h1];dsimp only;rw[h2];dsimp only;rw[h3];dsimp only;rw[if_neg hb],h4⟩
theorem Jd{ρ ρ2 ρ3:Env}{ds ds':List Dat}(h2:f ds=some v)(q:Q v.aH ρ3)(h1:pks ρ xs=some ds)(h3:aP v.dat=true)(h4:tks ρ xs=some (ds',ρ2))(hn:ρ2=ρ3):WF f ρ xs Q:=
 ⟨_,_,h1,h2,by rw[if_pos h3];exact⟨_,_,h4,hn▸q⟩⟩
theorem IJ(h2:f ds=some v)(q:Q v.aH ρ)(h1:pks ρ xs=some ds)(h3:aP v.dat=false):WF f ρ xs Q:=
 ⟨_,_,h1,h2,by rw[if_neg (by rw[h3];decide)];exact q⟩
def Wb(v:Val)(K:Bool->Prop):Prop:=∃c,v=.val (.bl c)/\K c
theorem IE{K:Bool->Prop}(k:K c):Wb (.val (.bl c)) K:=⟨c,rfl,k⟩
theorem Jz{a b:FE}(h:We a ρ fun v ρ1=>Wb v fun c=>Wif c (We b ρ1 Q) (Q (.val (.bl false)) ρ1)):We (bO a b) ρ Q:=by
 obtain⟨v,ρ1,h1,c,rfl,h2,h3⟩:=h;cases c with
 |true=>obtain⟨v,ρ2,h4,q⟩:=h2 rfl;exact⟨_,_,by unfold bO;rw[h1];exact h4,q⟩
 |false=>exact⟨_,_,by unfold bO;rw[h1],h3 rfl⟩
theorem IG{Q:Bool->Env->Prop}(h:We a ρ fun v ρ1=>Wb v fun c=>Q c ρ1):Wt (tV a) ρ Q:=by obtain⟨v,ρ1,h1,c,rfl,h2⟩:=h;exact⟨_,_,by unfold tV;rw[h1],h2⟩
theorem IZ{Q:Bool->Env->Prop}(h:Wt t ρ fun c ρ1=>Q (!c) ρ1):Wt (aV t) ρ Q:=by obtain⟨v,ρ1,h1,h2⟩:=h;exact⟨_,_,by unfold aV;rw[h1],h2⟩
theorem JS{t u:FT}{Q:Bool->Env->Prop}(h:Wt t ρ fun c ρ1=>Wif c (Wt u ρ1 Q) (Q false ρ1)):Wt (b8 t u) ρ Q:=by
 obtain⟨c,ρ1,h1,h2,h3⟩:=h;cases c with
 |true=>obtain⟨v,ρ2,h4,q⟩:=h2 rfl;exact⟨_,_,by unfold b8;rw[h1];exact h4,q⟩
 |false=>exact⟨_,_,by unfold b8;rw[h1],h3 rfl⟩
theorem Jb{t u:FT}{Q:Bool->Env->Prop}(h:Wt t ρ fun c ρ1=>Wif c (Q true ρ1) (Wt u ρ1 Q)):Wt (tOr t u) ρ Q:=by
 obtain⟨c,ρ1,h1,h2,h3⟩:=h;cases c with
 |false=>obtain⟨v,ρ2,h4,q⟩:=h3 rfl;exact⟨_,_,by unfold tOr;rw[h1];exact h4,q⟩
 |true=>exact⟨_,_,by unfold tOr;rw[h1],h2 rfl⟩
theorem JR{Q:Bool->Env->Prop}(q:Q true ρ):Wt aO ρ Q:=⟨_,_,rfl,q⟩
theorem IX{K:Dat->Env->Prop}(k:K d ρ):Wk ρ (.val d) K:=⟨_,_,rfl,k⟩
theorem Jv{K:Dat->Env->Prop}(k:K d ρ):Wk ρ (.new d) K:=⟨_,_,rfl,k⟩
noncomputable def xR:Dat->Option (List Dat)
 |.lst ds=>some ds
 |.tup ds=>some ds
 |_=>none
theorem JO{Q:List Dat->Env->Prop}(h:We a ρ fun x ρ1=>Wk ρ1 x fun d ρ2=>∃ds,xR d=some ds/\Q ds ρ2):Wi (iS a) ρ Q:=by
 obtain⟨x,ρ1,h1,d,ρ2,h2,ds,hd,q⟩:=h;cases d with
 |lst xs=>cases hd;exact⟨_,_,by unfold iS;rw[h1];dsimp only;rw[h2],q⟩
 |tup xs=>cases hd;exact⟨_,_,by unfold iS;rw[h1];dsimp only;rw[h2],q⟩
 |_=>cases hd
def eu(v:Val)(K:Int->Prop):Prop:=∃i,v=.val (.int i)/\K i
theorem eu.mk{i:Int}{K:Int->Prop}(k:K i):eu (.val (.int i)) K:=⟨i,rfl,k⟩
theorem J0{Q:List Dat->Env->Prop}(h:We a ρ fun v ρ1=>eu v fun j=>Q (ups 0 j.toNat) ρ1/\j<=BIG/\-BIG<=j):Wi (iR1 a) ρ Q:=by obtain⟨v,ρ1,h1,j,rfl,q,h2⟩:=h;exact⟨_,_,by unfold iR1;rw[h1];dsimp only;rw[if_pos h2],q⟩
theorem JM{a b:FE}{Q:List Dat->Env->Prop}(h:We a ρ fun v ρ1=>eu v fun i=>We b ρ1 fun w ρ2=>eu w fun j=>Q (ups i (j-i).toNat) ρ2/\j<=BIG/\-BIG<=j/\i<=BIG/\-BIG<=i):Wi (iR2 a b) ρ Q:=by obtain⟨v,ρ1,h1,i,rfl,w,ρ2,h2,j,rfl,q,h3⟩:=h;exact⟨_,_,by unfold iR2;rw[h1];dsimp only;rw[h2];dsimp only;rw[if_pos h3],q⟩
theorem Wp.none{K:Option Int->Env->Prop}(k:K none ρ):Wp none ρ K:=⟨_,_,rfl,k⟩
theorem Wp.some{f:FE}{K:Option Int->Env->Prop}(h:We f ρ fun v ρ1=>eu v fun i=>K (some i) ρ1):Wp (some f) ρ K:=by obtain⟨v,ρ1,h1,i,rfl,k⟩:=h;exact⟨_,_,by unfold part;dsimp only;rw[h1],k⟩
def Wsl(o:Option Dat)(l h:Option Int)(K:Dat->Prop):Prop:=∃xs,o=some (.lst xs)/\K (.lst (cut xs l h))
noncomputable def i8{α:Type}(xs:List α)(lo hi:Option Int):List α:=(xs.drop (sIx xs.length 0 lo)).take (sIx xs.length xs.length hi-sIx xs.length 0 lo)
theorem Dg(ye:α->Dat)(xs:List α)(lo hi:Option Int):cut (xs.map ye) lo hi=(i8 xs lo hi).map ye:=by unfold cut i8;rw[Fw,<- List.map_drop,<- List.map_take]
theorem uI(xs:List α)(lo hi:Option Int):(i8 xs lo hi).length<=xs.length:=by unfold i8;rw[Gz,GF];lia
theorem Wsl.A{ye:α->Dat}{xs:List α}{o:Option Dat}{l h:Option Int}{K:Dat->Prop}(k:K (.lst ((i8 xs l h).map ye)))(ho:o=some (.lst (xs.map ye))):Wsl o l h K:=⟨_,ho,by rw[Dg];exact k⟩
theorem JD(h:We a ρ fun x ρ1=>Wp lo ρ1 fun l ρ2=>Wp hi ρ2 fun h ρ3=>Wsl (pk ρ3 x) l h fun d=>Q (.new d) ρ3):We (eSl a lo hi) ρ Q:=by obtain⟨x,ρ1,h1,l,ρ2,h2,hh,ρ3,h3,xs,h4,q⟩:=h;exact⟨_,_,by unfold eSl;rw[h1];dsimp only;rw[h2];dsimp only;rw[h3];dsimp only;rw[h4],q⟩
theorem IL(n:N ρ):Ws sNx ρ N R B C:=⟨_,rfl,n⟩
theorem ID{s u:FS}(h:Ws s ρ (fun ρ1=>Ws u ρ1 N R B C) R B C):Ws (aj s u) ρ N R B C:=by
 obtain⟨o,h1,h2⟩:=h;cases o with
 |nx ρ1=>obtain⟨o,h3,h4⟩:=h2;exact⟨o,by unfold aj;rw[h1];exact h3,h4⟩
 |ret r ρ1=>exact⟨.ret r ρ1,by unfold aj;rw[h1],h2⟩
 |bk ρ1=>exact⟨.bk ρ1,by unfold aj;rw[h1],h2⟩
 |ct ρ1=>exact⟨.ct ρ1,by unfold aj;rw[h1],h2⟩
def WA(i:Nat)(v:Val)(ρ:Env)(N:Env->Prop):Prop:=match v with
 |.new d=>N (ρ.set i (.ow d))
 |x=>Wk ρ x fun d ρ2=>N (ρ2.set i (.sh d))
theorem IV{i:Nat}(h:We e ρ fun v ρ1=>WA i v ρ1 N)(hi:i≠0):Ws (sA i e) ρ N R B C:=by
 obtain⟨v,ρ1,h1,h2⟩:=h;cases v with
 |new d=>exact⟨.nx _,by unfold sA;rw[if_neg hi,h1],h2⟩
 |val d=>obtain⟨d',ρ2,h3,h4⟩:=h2;exact⟨.nx _,by unfold sA;rw[if_neg hi,h1];dsimp only;rw[h3],h4⟩
 |slot j=>obtain⟨d',ρ2,h3,h4⟩:=h2;exact⟨.nx _,by unfold sA;rw[if_neg hi,h1];dsimp only;rw[h3],h4⟩
theorem Ja{i:Nat}{ρ ρ2:Env}(n:N ρ2)(hs:ρ.set i (.ow d)=ρ2):WA i (.new d) ρ N:=by unfold WA;dsimp only;rw[hs];exact n
theorem I0{i:Nat}{ρ ρ2:Env}(n:N ρ2)(hs:ρ.set i (.sh d)=ρ2):WA i (.val d) ρ N:=⟨_,_,rfl,by show N _;rw[hs];exact n⟩
theorem JN{is:List Nat}(h:We e ρ fun x ρ1=>Wk ρ1 x fun d ρ2=>∃ds ρ3,d=.tup ds/\sets is ds ρ2=some ρ3/\N ρ3):Ws (sU is e) ρ N R B C:=by obtain⟨x,ρ1,h1,d,ρ2,h2,ds,ρ3,rfl,h3,n⟩:=h;exact⟨.nx _,by unfold sU;rw[h1];dsimp only;rw[h2];dsimp only;rw[h3],n⟩
def WR(v:Val)(ρ:Env)(R:RV->Env->Prop):Prop:=match v with
 |.new d=>R (.new d) ρ
 |.val d=>R (.val d) ρ
 |.slot i=>(∃d,ρ[i]?=some (.ow d)/\R (.new d) (ρ.set i .un))
theorem IF(h:We e ρ fun v ρ1=>WR v ρ1 R):Ws (sR e) ρ N R B C:=by
 obtain⟨v,ρ1,h1,h2⟩:=h;cases v with
 |new d=>exact⟨.ret _ _,by unfold sR;rw[h1],h2⟩
 |val d=>exact⟨.ret _ _,by unfold sR;rw[h1],h2⟩
 |slot i=>obtain⟨d,h3,h4⟩:=h2;exact⟨.ret _ _,by unfold sR;rw[h1];dsimp only;rw[h3],h4⟩
theorem Jp{i:Nat}(r:R (.new d) (ρ.set i .un))(h:ρ[i]?=some (.ow d)):WR (.slot i) ρ R:=⟨d,h,r⟩
theorem IM{a b:FS}(h:Wt t ρ fun c ρ1=>Wif c (Ws a ρ1 N R B C) (Ws b ρ1 N R B C)):Ws (sIf t a b) ρ N R B C:=by
 obtain⟨c,ρ1,h1,h2,h3⟩:=h;cases c with
 |true=>obtain⟨o,h4,q⟩:=h2 rfl;exact⟨_,by unfold sIf;rw[h1];exact h4,q⟩
 |false=>obtain⟨o,h4,q⟩:=h3 rfl;exact⟨_,by unfold sIf;rw[h1];exact h4,q⟩
theorem Jw(h:Wi it ρ fun ds ρ1=>Ws (dY bd body ds) ρ1 N R B C):Ws (b9 it bd body) ρ N R B C:=by obtain⟨ds,ρ1,h1,o,h2,h3⟩:=h;exact⟨o,by unfold b9;rw[h1];exact h2,h3⟩
theorem JH(ye:α->Dat)(bd:FB)(body:FS)(xs:List α)(ρ:Env)(N:Env->Prop)(R:RV->Env->Prop)(B C:Env->Prop)(I:List α->List α->Env->Prop)
  (h0:I [] xs ρ) (hs:∀p x q ρ,xs=p++x::q->I p (x::q) ρ->∃ρ1,bd (ye x) ρ=some ρ1/\Ws body ρ1 (fun ρ2=>I (p++[x]) q ρ2) R N (fun ρ2=>I (p++[x]) q ρ2)) (he:∀ρ,I xs [] ρ->N ρ):Ws (dY bd body (xs.map ye)) ρ N R B C:=by
 have go:∀(q p:List α) (ρ:Env),xs=p++q->I p q ρ->Ws (dY bd body (q.map ye)) ρ N R B C:=fun q=>by
  induction q with
  |nil=>intro p ρ e i;rw[Gs]at e;exact⟨.nx _,rfl,he ρ (e▸i)⟩
  |cons x q ih=>
   intro p ρ e i;obtain⟨ρ1,h1,o,h2,h3⟩:=hs p x q ρ e i;have e':xs=(p++[x])++q:=by rw[GJ];exact e
   cases o with
   |nx ρ2=>obtain⟨o,h4,h5⟩:=ih _ _ e' h3;exact⟨o,by rw[gV,dY,h1];dsimp only;rw[h2];exact h4,h5⟩
   |ct ρ2=>obtain⟨o,h4,h5⟩:=ih _ _ e' h3;exact⟨o,by rw[gV,dY,h1];dsimp only;rw[h2];exact h4,h5⟩
   |bk ρ2=>exact⟨.nx _,by rw[gV,dY,h1];dsimp only;rw[h2],h3⟩
   |ret r ρ2=>exact⟨.ret _ _,by rw[gV,dY,h1];dsimp only;rw[h2],h3⟩
 exact go xs [] ρ rfl h0
theorem IT{n m:Nat}{P:RV->Prop}(b:Ws body ρ (fun _=>P (.val .non)) (fun r _=>P r) (fun _=>False) (fun _=>False))(hρ:ds.map Cell.sh++eg m .un=ρ)(h:ds.length=n):Wr (fn n m body ds) P:=by
 obtain⟨o,h1,h2⟩:=b;cases o with
 |nx ρ1=>exact⟨_,by unfold Dm.fn;rw[if_pos h,hρ,h1],h2⟩
 |ret r ρ1=>exact⟨_,by unfold Dm.fn;rw[if_pos h,hρ,h1],h2⟩
 |bk ρ1=>exact h2.elim
 |ct ρ1=>exact h2.elim
theorem IU{o:Option RV}{r:RV}(h:Wr o fun x=>x=r):o=some r:=by obtain⟨x,h1,rfl⟩:=h;exact h1
theorem uJ(ye:α->Dat)(p:α->Bool)(v:α->Dat)(bd:FB)(t:FT)(el:FE)(mk:Cell->Env)(hb:∀d c,bd d (mk c)=some (mk (.sh d))):∀(xs:List α) (c:Cell) (uK:List Dat),
  (∀x∈xs,t (mk (.sh (ye x)))=some (p x,mk (.sh (ye x))))->(∀x∈xs,p x=true->We el (mk (.sh (ye x))) fun w ρ'=>Wk ρ' w fun d ρ''=>d=v x/\ρ''=mk (.sh (ye x))) ->
  ∃c',e8 bd t el (xs.map ye) (mk c) uK=some (uK++(xs.filter p).map v,mk c')
 |[],c,uK,_,_=>⟨c,by simp[e8]⟩
 |x::xs,c,uK,ht,he=>by
  rw[gV,e8,hb];dsimp only;rw[ht x Fq];have ht':=fun y hy=>ht y (Fv _ hy);have he':=fun y hy=>he y (Fv _ hy);by_cases h:p x=true
  ·obtain⟨w,ρ',h1,d,ρ'',h2,rfl,rfl⟩:=he x Fq h;rw[h];dsimp only;rw[h1];dsimp only;rw[h2];obtain⟨c',e⟩:=uJ ye p v bd t el mk hb xs (.sh (ye x)) (uK++[v x]) ht' he';exact⟨c',by dsimp only;rw[e,List.filter_cons_of_pos h];simp⟩
  ·rw[Bool.not_eq_true]at h;rw[h];obtain⟨c',e⟩:=uJ ye p v bd t el mk hb xs (.sh (ye x)) uK ht' he';exact⟨c',by dsimp only;rw[e,List.filter_cons_of_neg (by rw[h];decide)]⟩
theorem J4(h:Wt t ρ fun c' ρ'=>c'=c/\ρ'=ρ):t ρ=some (c,ρ):=by obtain⟨_,_,h1,rfl,rfl⟩:=h;exact h1
theorem JA(ye:α->Dat)(xs:List α)(p:α->Bool)(v:α->Dat){it:FI}{k:Nat}{t:FT}{el:FE}{ρ ρ1:Env}{Q:Val->Env->Prop}
  (q:Q (.new (.lst ((xs.filter p).map v))) ρ1) (Ko:it ρ=some (xs.map ye,ρ1)) (hk:ρ1.length=k) (hk0:k≠0) (hl:xs.length<=SZ)
  (ht:∀x∈xs,Wt t (ρ1++[.sh (ye x)]) fun c ρ'=>c=p x/\ρ'=ρ1++[.sh (ye x)])
  (he:∀x∈xs,p x=true->We el (ρ1++[.sh (ye x)]) fun w ρ'=>Wk ρ' w fun d ρ''=>d=v x/\ρ''=ρ1++[.sh (ye x)]):We (cW it 1 (bN k) t el) ρ Q:=by
 have bd:∀(d:Dat) (c:Cell),bN k d (ρ1++[c])=some (ρ1++[.sh d]):=fun d c=>by unfold bN;rw[if_neg hk0,List.set_append_right _ _ (by lia)];simp[hk]
 obtain⟨c',e⟩:=uJ ye p v (bN k) t el (fun c=>ρ1++[c]) bd xs .un [] (fun x hx=>J4 (ht x hx)) he;refine⟨_,_,?_,q⟩;unfold cW;rw[Ko];dsimp only;rw[if_pos (by rw[Fw];exact hl)];show (match e8 _ _ _ _ (ρ1++[.un]) [] with | none=>none | some (ys,ρ2)=>some (Val.new (.lst ys),ρ2.take ρ1.length))=_;rw[e];dsimp only;rw[Fo,List.take_left]
theorem Kc(ye:α->Dat)(xs:List α)(p:α->Bool)(v:α->Dat){i:Nat}{k:Nat}{t:FT}{el:FE}{ρ:Env}{Q:Val->Env->Prop}{d:Dat}
  (q:Q (.new (.lst ((xs.filter p).map v))) ρ) (hi:ρ[i]?=some (.sh d)) (hd:xR d=some (xs.map ye)) (hk:ρ.length=k) (hk0:k≠0) (hl:xs.length<=SZ)
  (ht:∀x∈xs,Wt t (ρ++[.sh (ye x)]) fun c ρ'=>c=p x/\ρ'=ρ++[.sh (ye x)])
  (he:∀x∈xs,p x=true->We el (ρ++[.sh (ye x)]) fun w ρ'=>Wk ρ' w fun d ρ''=>d=v x/\ρ''=ρ++[.sh (ye x)]):We (ee i 1 (bN k) t el) ρ Q:=by
 have Ko:iS (eV i) ρ=some (xs.map ye,ρ):=by
  unfold iS eV;rw[hi];cases d with
  |lst ys=>cases hd;rfl
  |tup ys=>cases hd;rfl
  |_=>cases hd
 obtain⟨a,ρ',h1,h2⟩:=JA ye xs p v (Q:=Q) q Ko hk hk0 hl ht he;refine⟨a,ρ',?_,h2⟩;unfold ee;rw[hi];exact h1
theorem Jy{α β:Type}(ye:α->Dat)(xs:List α)(f:α->β)(pC:β->Dat){it:FI}{k:Nat}{el:FE}{ρ ρ1:Env}{Q:Val->Env->Prop}
  (q:Q (.new (.lst ((xs.map f).map pC))) ρ1) (Ko:it ρ=some (xs.map ye,ρ1)) (hk:ρ1.length=k) (hk0:k≠0) (hl:xs.length<=SZ)
  (he:∀x∈xs,We el (ρ1++[.sh (ye x)]) fun w ρ'=>Wk ρ' w fun d ρ''=>d=pC (f x)/\ρ''=ρ1++[.sh (ye x)]):We (cW it 1 (bN k) aO el) ρ Q:=
 JA ye xs (fun _=>true) (fun x=>pC (f x)) (by rw[HG.mpr (fun _ _=>rfl)];rw[GP]at q;exact q) Ko hk hk0 hl (fun _ _=>JR ⟨rfl,rfl⟩) fun x hx _=>he x hx
theorem JQ{α β:Type}(ye:α->Dat)(xs:List α)(f:α->β)(pC:β->Dat){i:Nat}{k:Nat}{el:FE}{ρ:Env}{Q:Val->Env->Prop}{d:Dat}
  (q:Q (.new (.lst ((xs.map f).map pC))) ρ) (hi:ρ[i]?=some (.sh d)) (hd:xR d=some (xs.map ye)) (hk:ρ.length=k) (hk0:k≠0) (hl:xs.length<=SZ)
  (he:∀x∈xs,We el (ρ++[.sh (ye x)]) fun w ρ'=>Wk ρ' w fun d ρ''=>d=pC (f x)/\ρ''=ρ++[.sh (ye x)]):We (ee i 1 (bN k) aO el) ρ Q:=
 Kc ye xs (fun _=>true) (fun x=>pC (f x)) (by rw[HG.mpr (fun _ _=>rfl)];rw[GP]at q;exact q) hi hd hk hk0 hl (fun _ _=>JR ⟨rfl,rfl⟩) fun x hx _=>he x hx
theorem xS(i j:Int):gEq (.int i) (.int j)=vB (decide (i=j)):=by
 have:(i == j)=decide (i=j):=by by_cases h:i=j<;>simp[h]
 show vB (i == j)=_;rw[this]
theorem xT(i j:Int):gNe (.int i) (.int j)=vB (!decide (i=j)):=by
 have:(i == j)=decide (i=j):=by by_cases h:i=j<;>simp[h]
 show vB (!(i == j))=_;rw[this]
theorem Jk(k:K (.val (.bl (decide (i=j)))))(ho:o=some (.int i))(hp:p=some (.int j)):Wg2 gEq o p K:=⟨_,_,_,ho,hp,xS i j,k⟩
theorem JX(k:K (.val (.bl (!decide (i=j)))))(ho:o=some (.int i))(hp:p=some (.int j)):Wg2 gNe o p K:=⟨_,_,_,ho,hp,xT i j,k⟩
theorem JT(k:K (.val (.bl (decide (i<j)))))(ho:o=some (.int i))(hp:p=some (.int j)):Wg2 gLt o p K:=⟨_,_,_,ho,hp,rfl,k⟩
theorem JU(k:K (.val (.bl (decide (i<=j)))))(ho:o=some (.int i))(hp:p=some (.int j)):Wg2 gLe o p K:=⟨_,_,_,ho,hp,rfl,k⟩
theorem Jo(k:K (.val (.bl (decide (j<i)))))(ho:o=some (.int i))(hp:p=some (.int j)):Wg2 gGt o p K:=⟨_,_,_,ho,hp,rfl,k⟩
theorem JI(k:K (.val (.bl (decide (j<=i)))))(ho:o=some (.int i))(hp:p=some (.int j)):Wg2 gGe o p K:=⟨_,_,_,ho,hp,rfl,k⟩
theorem Jr(k:K (.val (.int (i+j))))(ho:o=some (.int i))(hp:p=some (.int j)):Wg2 aL o p K:=⟨_,_,_,ho,hp,rfl,k⟩
theorem Jl{xs ys:List Dat}(k:K (.new (.lst (xs++ys))))(ho:o=some (.lst xs))(hp:p=some (.lst ys))(h:xs.length+ys.length<=SZ):Wg2 aL o p K:=⟨_,_,_,ho,hp,by unfold aL;dsimp only;rw[if_pos h],k⟩
theorem Js(k:K (.val (.int (i-j))))(ho:o=some (.int i))(hp:p=some (.int j)):Wg2 cj o p K:=⟨_,_,_,ho,hp,rfl,k⟩
theorem Jg(k:K (.val (.int (i % j))))(ho:o=some (.int i))(hp:p=some (.int j))(h:0<j):Wg2 aJ o p K:=⟨_,_,_,ho,hp,by unfold aJ;dsimp only;rw[if_pos h],k⟩
theorem IK{d e:Dat}{v:Dat}(k:K (.val v))(ho:o=some d)(hp:p=some e)(h:gIx d e=some (.val v)):Wg2 gIx o p K:=⟨_,_,_,ho,hp,h,k⟩
theorem jd(ye:α->Dat)(xs:List α)(i:Int)(h0:0<=i)(h1:i<xs.length):atI (xs.map ye) i=some (ye (xs[i.toNat]'(by omega))):=by unfold atI ixN;rw[Fw,if_pos h0,if_pos h1];show (xs.map ye)[i.toNat]?=_;rw[F4,F1 (by lia)];rfl
theorem JB{ye:α->Dat}{xs:List α}{i:Int}(h0:0<=i)(h1:i<xs.length)(k:K (.val (ye (xs[i.toNat]'(by omega)))))(ho:o=some (.lst (xs.map ye)))(hp:p=some (.int i)):Wg2 gIx o p K:=
 ⟨_,_,_,ho,hp,by unfold gIx;dsimp only;rw[jd ye xs i h0 h1];rfl,k⟩
theorem Ji{o:Option Dat}(k:K v)(ho:o=some d)(h:g d=some v):Wg1 g o K:=⟨_,_,ho,h,k⟩
theorem je{xs:List Dat}{Q:List Dat->Prop}(q:Q xs):∃ds,xR (.lst xs)=some ds/\Q ds:=⟨_,rfl,q⟩
theorem xU(xs:List Dat)(h:okD 8 (.lst xs)=true):gEq (.lst xs) (.lst [])=vB xs.isEmpty:=by unfold gEq;rw[h];cases xs<;>rfl
theorem zb(ye:α->Dat)(xs:List α)(h:∀x,okD 7 (ye x)=true):okD 8 (.lst (xs.map ye))=true:=by unfold okD;rw[FF];intro d hd;obtain⟨x,_,rfl⟩:=GD.mp hd;exact h x
theorem JV{xs:List Dat}(k:K (.val (.bl xs.isEmpty)))(ho:o=some (.lst xs))(hp:p=some (.lst []))(h:okD 8 (.lst xs)=true):Wg2 gEq o p K:=⟨_,_,_,ho,hp,xU xs h,k⟩
theorem Jx{ye:α->Dat}{xs:List α}{o:Option (List Dat)}(k:K (.val (.int xs.length)))(ho:o=some [.lst (xs.map ye)]):WB bP o K:=⟨_,_,ho,by unfold bP;dsimp only;rw[Fw],k⟩
theorem l8{ρ ρ1 ρ2:Env}{W:Env->Prop}(h:bd d ρ=some ρ1)(hn:ρ1=ρ2)(w:W ρ2):∃ρ1,bd d ρ=some ρ1/\W ρ1:=⟨ρ1,h,hn▸w⟩
theorem rW(p:α->Bool)(xs:List α):bools (xs.map fun x=>Dat.bl (p x))=some (xs.map p):=by
 induction xs with
 |nil=>rfl
 |cons x xs ih=>rw[gV,bools,ih];rfl
theorem JF(p:α->Bool){xs:List α}{o:Option (List Dat)}(k:K (.val (.bl (xs.all p))))(ho:o=some [.lst (xs.map fun x=>Dat.bl (p x))]):WB m7 o K:=⟨_,_,ho,by
 unfold m7;dsimp only;rw[rW];have:(xs.map p).all id=xs.all p:=by rw[List.all_map];rfl
 dsimp only;rw[this],k⟩
theorem JY(k:K (.val (.bl (!isN d))))(ho:o=some d)(hp:p=some .non):Wg2 kU o p K:=⟨_,_,_,ho,hp,by cases d<;>rfl,k⟩
theorem JK(k:K (.val (.bl (Dm.isN d))))(ho:o=some d)(hp:p=some .non):Wg2 uf o p K:=⟨_,_,_,ho,hp,by cases d<;>rfl,k⟩
theorem Jm{ρ ρ1:Env}(h:Wi it ρ fun x y=>x=ds/\y=ρ1):it ρ=some (ds,ρ1):=by obtain⟨_,_,h1,rfl,rfl⟩:=h;exact h1
theorem Ka{a:List Nat}{o:Option (List Dat)}(k:K (.val (.int a.length)))(ho:o=some [.str a])(hz:a.length<=SZ):WB fV o K:=⟨_,_,ho,by unfold fV;dsimp only;rw[if_pos hz],k⟩
theorem JP{a:List Nat}{o:Option (List Dat)}(k:K (.val (.int (dQ a:Nat))))(ho:o=some [.str a])(h:a≠[]/\a.all bZ=true/\a.length<=600):WB gT o K:=⟨_,_,ho,by unfold gT;dsimp only;rw[if_pos h],k⟩
theorem IS{a b:List Nat}(k:K (.val (.str (a++b))))(ho:o=some (.str a))(hp:p=some (.str b))(hz:a.length+b.length<=SZ):Wg2 bY o p K:=⟨_,_,_,ho,hp,by unfold bY;dsimp only;rw[if_pos hz],k⟩
theorem J3{c:Nat}(k:K (.val (.bl (b.contains c))))(ho:o=some (.str [c]))(hp:p=some (.str b)):Wg2 uC o p K:=⟨_,_,_,ho,hp,rfl,k⟩
theorem J_{c:Nat}(k:K (.val (.bl (!b.contains c))))(ho:o=some (.str [c]))(hp:p=some (.str b)):Wg2 nQ o p K:=⟨_,_,_,ho,hp,rfl,k⟩
theorem JL{a:List Nat}{i:Int}{c:Nat}{m:Nat}(k:K (.val (.str [c])))(ho:o=some (.str a))(hp:p=some (.int i))(hz:a.length<=SZ)(h1:ixN a.length i=some m)(h2:a[m]?=some c):Wg2 pe o p K:=⟨_,_,_,ho,hp,by unfold pe;dsimp only;rw[if_pos hz,h1];dsimp only;rw[h2],k⟩
theorem Jh{g:List Nat->Dat->Option RV}{a b:FE}(h:We a ρ fun x ρ1=>∃s,pk ρ1 x=some (.str s)/\We b ρ1 fun y ρ2=>∃d v,pk ρ2 y=some d/\g s d=some v/\Q v.aH ρ2):We (eS2 g a b) ρ Q:=by obtain⟨x,ρ1,e1,s,e2,y,ρ2,e3,d,v,e4,e5,q⟩:=h;exact⟨_,_,by unfold eS2;rw[e1];dsimp only;rw[e2];dsimp only;rw[e3];dsimp only;rw[e4];dsimp only;rw[e5],q⟩
theorem J2{Q:List Dat->Env->Prop}(h:We a ρ fun x ρ1=>∃s,pk ρ1 x=some (.str s)/\s.all (fun c=>decide (c<128))=true/\Q (s.map fun c=>.str [c]) ρ1):Wi (iTx a) ρ Q:=by obtain⟨x,ρ1,e1,s,e2,e3,q⟩:=h;exact⟨_,_,by unfold iTx;rw[e1];dsimp only;rw[e2];dsimp only;rw[if_pos e3],q⟩
theorem Ju(h:We a ρ fun x ρ1=>Wp lo ρ1 fun l ρ2=>Wp hi ρ2 fun h ρ3=>∃s,pk ρ3 x=some (.str s)/\s.length<=SZ/\Q (.val (.str (iC s l h))) ρ3):We (i7 a lo hi) ρ Q:=by obtain⟨x,ρ1,e1,l,ρ2,e2,u,ρ3,e3,s,e4,e5,q⟩:=h;exact⟨_,_,by unfold i7;rw[e1];dsimp only;rw[e2];dsimp only;rw[e3];dsimp only;rw[e4];dsimp only;rw[if_pos e5],q⟩
noncomputable def aY(v:Nat):List Nat:=(Nat.toDigits 10 v).map IA
theorem rX(v:Nat):codes (toString ((v:Nat):Int))=aY v:=by unfold codes aY;show (Nat.repr v).toList.map _=_;rw[Nat.toList_repr]
theorem nT(v:Nat):dQ (aY v)=v:=PySem.W.KIN.val_back v
theorem bS(c:Nat):bZ c=true↔48<=c/\c<=57:=by unfold bZ;simp
theorem dR(v:Nat):(aY v).all bZ=true:=by
 rw[FF];intro c hc;obtain⟨ch,hch,e⟩:=GD.mp hc;have r:=Nat.isDigit_of_mem_toDigits (by decide) (by decide) hch;rw[bS,<- e];have:(48<=ch.val/\ch.val<=57):=by
  unfold Char.isDigit at r
  simpa using r
 exact⟨by have:=this.1;exact this,by have:=this.2;exact this⟩
theorem l9(v:Nat):aY v≠[]:=by intro e;have h:=PyProof.Rows.tDigits_len_ge 10 v;unfold aY at e;rw[List.map_eq_nil_iff.mp e]at h;exact absurd h (by decide)
theorem bR{v k:Nat}(hk:1<=k)(hv:v<10 ^ k):(aY v).length<=k:=by unfold aY;rw[Fw];exact PyProof.Rows.digits10_le hk hv
theorem A1(c:Nat)(h:48<=c/\c<=57):(Char.ofNat c).toNat=c:=by
 have:c=48\/c=49\/c=50\/c=51\/c=52\/c=53\/c=54\/c=55\/c=56\/c=57:=by lia
 rcases this with rfl | rfl | rfl | rfl | rfl | rfl | rfl | rfl | rfl | rfl<;>decide
theorem uM(h:w.all bZ=true):(w.map Char.ofNat).map IA=w:=by rw[GP];refine(HF fun c hc=>?_).trans (Ik w);exact A1 c ((bS c).mp (FF.mp h c hc))
theorem xV(Kn:w≠[])(hf:w.all bZ=true)(hz:¬(w.head?=some 48/\w≠[48])):aY (dQ w)=w:=by
 have dig:Hq w:=fun c hc=>(bS c).mp (FF.mp hf c hc);cases w with
 |nil=>exact absurd rfl Kn
 |cons c r=>
  have hc:=dig c Fq;have:=PySem.NumText.toDigits_digitsVal r.length (c::r) rfl dig (by
   by_cases e:c=48
   ·subst e;left;have:(48::r:List Nat)=[48]:=Classical.byContradiction fun q=>hz ⟨rfl,q⟩;injection this with _ q
    rw[q];rfl
   ·exact .inr ⟨c,r,rfl,by lia⟩)
  unfold aY;rw[show dQ (c::r)=GV (c::r) from rfl,this];exact uM hf
theorem lg{v:Nat}(h:(aY v).head?=some 48):aY v=[48]:=by
 have dig:Hq (aY v):=fun c hc=>(bS c).mp (FF.mp (dR v) c hc);have e:=PySem.NumText.toDigits_all (aY v) dig;rw[show GV (aY v)=v from nT v]at e;have hl:(aY v).length=(Nat.toDigits 10 v).length:=by unfold aY;rw[Fw]
 cases hd:aY v with
 |nil=>exact absurd hd (l9 v)
 |cons c r=>
  rw[hd]at h e hl;cases h;rw[List.dropWhile_cons,if_pos (by decide)]at e;have hr:(r.dropWhile (· == 48)).length<=r.length:=(List.dropWhile_sublist _).length_le;cases hw:r.dropWhile (· == 48) with
  |nil=>rw[hw]at e;rw[e]at hl;have:r=[]:=GK (by simpa using hl);rw[this]
  |cons a b=>
   rw[hw]at e hr;rw[e]at hl;simp at hl hr
   lia
theorem rY(w:List Nat)(c:Nat):dQ (w++[c])=dQ w*10+(c-48):=by unfold dQ;rw[List.foldl_append];rfl
theorem xW(hf:w.all bZ=true):dQ w<10 ^ w.length:=by
 have go:∀(n:Nat) (w:List Nat),w.length=n->w.all bZ=true->dQ w<10 ^ n:=fun n=>by
  induction n with
  |zero=>intro w h _;rw[GK h];decide
  |succ n ih=>
   intro w h hf;have Kn:w≠[]:=by intro e;rw[e]at h;cases h
   have e:=List.dropLast_concat_getLast Kn;rw[<- e]at h hf ⊢;rw[Fl]at h;rw[HE,FH]at hf;have:=ih w.dropLast (by simpa using h) hf.1;have hc:=(bS _).mp (by simpa using hf.2:bZ (w.getLast Kn)=true);rw[rY,Nat.pow_succ]
   lia
 exact go _ w rfl hf
theorem rZ:∀c,c<58->[48,49,50,51,52,53,54,55,56,57].contains c=bZ c:=by decide
theorem uN(c:Nat):[48,49,50,51,52,53,54,55,56,57].contains c=bZ c:=by
 by_cases h:c<58
 ·exact rZ c h
 ·have h1:bZ c=false:=by
   unfold bZ;rw[decide_eq_false (show ¬c<=57 from fun z=>h (Nat.lt_succ_of_le z)),Bool.and_false]
  have h2:[48,49,50,51,52,53,54,55,56,57].contains c=false:=by
   cases q:[48,49,50,51,52,53,54,55,56,57].contains c with
   |false=>rfl
   |true=>
    have m:=List.contains_iff_mem.mp q;have b:∀x∈[48,49,50,51,52,53,54,55,56,57],x<58:=by decide
    exact absurd (b c m) h
  rw[h1,h2]
end
end Dm
namespace P
open Dm
noncomputable def A2:List Dat->Option RV:=fn 1 0
  (sR (bO (e1 (oV isI) (eV 0)) (cI (e1 (oV isB) (eV 0)))))
noncomputable def i9:List Dat->Option RV:=fn 3 0
  (sR (bO (eF A2 [(eV 0)]) (aF gLe gLe (eV 1) (eV 0) (eV 2))))
noncomputable def xX:List Dat->Option RV:=fn 1 0
  (sR (eF i9 [(eV 0),(eC (.int 1)),(eC (.int 10))]))
noncomputable def uO:List Dat->Option RV:=fn 2 0
  (sR (eF i9 [(eV 1),(eC (.int 0)),(e2 cj (eV 0) (eC (.int 1)))]))
noncomputable def xY:List Dat->Option RV:=fn 1 0
  (sR (eF i9 [(eV 0),(eC (.int 0)),(e2 b4 (eC (.int 10)) (eC (.int 30)))]))
noncomputable def xZ:List Dat->Option RV:=fn 2 0
  (aj (sIf (tOr (aV (tV (e1 (oV isT) (eV 1)))) (tV (e2 gNe (eB bP [(eV 1)]) (eC (.int 3))))) (sR (eC (.bl false))) sNx)
  (sR (bO (eF xY [(e2 gIx (eV 1) (eC (.int 0)))]) (bO (eF uO [(eV 0),(e2 gIx (eV 1) (eC (.int 1)))]) (eF uO [(eV 0),(e2 gIx (eV 1) (eC (.int 2)))])))))
noncomputable def x6:List Dat->Option RV:=fn 2 0
  (sR (bO (eF xZ [(eV 0),(eV 1)]) (e2 gLe (e2 gIx (eV 1) (eC (.int 1))) (e2 gIx (eV 1) (eC (.int 2))))))
noncomputable def x8:List Dat->Option RV:=fn 1 0
  (sR (eB m7 [(cW (iR2 (eC (.int 1)) (eB bP [(eV 0)])) 1 (bN 1) aO (e2 gLt (e2 gIx (eV 0) (e2 cj (eV 1) (eC (.int 1)))) (e2 gIx (eV 0) (eV 1))))]))
noncomputable def jI:List Dat->Option RV:=fn 2 0
  (aj (sIf (tOr (aV (tV (eF xX [(eV 0)]))) (tOr (aV (tV (e1 (oV isL) (eV 1)))) (tV (e2 gGt (eB bP [(eV 1)]) (eC (.int 60)))))) (sR (eC (.bl false))) sNx)
  (aj (sIf (aV (tV (eB m7 [(ee 1 1 (bN 2) aO (eF x6 [(eV 0),(eV 2)]))]))) (sR (eC (.bl false))) sNx)
  (sR (eF x8 [(ee 1 1 (bN 2) aO (e2 gIx (eV 2) (eC (.int 0))))]))))
noncomputable def r8:List Dat->Option RV:=fn 1 0
  (aj (sIf (tOr (aV (tV (aF gLe gLe (eC (.int 1)) (eB fV [(eV 0)]) (eC (.int 60))))) (aV (tV (eB m7 [(cW (iTx (eV 0)) 1 (bN 1) aO (e2 uC (eV 1) (eC (.str [48,49,50,51,52,53,54,55,56,57]))))])))) (sR (eC .non)) sNx)
  (aj (sIf (b8 (tV (e2 gEq (e2 pe (eV 0) (eC (.int 0))) (eC (.str [48])))) (tV (e2 gNe (eV 0) (eC (.str [48]))))) (sR (eC .non)) sNx)
  (sR (eB gT [(eV 0)]))))
noncomputable def qC:List Dat->Option RV:=fn 1 2
  (aj (sA 1 (eS2 gU (eV 0) (eC (.str [58]))))
  (aj (sA 2 (eS2 gU (e2 gIx (eV 1) (eC (.int 2))) (eC (.str [45]))))
  (sR (bV [(eF r8 [(e2 gIx (eV 1) (eC (.int 0)))]),(eF r8 [(e2 gIx (eV 2) (eC (.int 0)))]),(eF r8 [(e2 gIx (eV 2) (eC (.int 2)))])]))))
noncomputable def fW:List Dat->Option RV:=fn 1 0
  (aj (sIf (tV (e2 gEq (eV 0) (eC (.str [110,111,110,101])))) (sR (bf [])) sNx)
  (sR (cW (iS (eS2 gg (eV 0) (eC (.str [59,32])))) 1 (bN 1) aO (eF qC [(eV 1)]))))
noncomputable def lq:List Dat->Option RV:=fn 2 1
  (aj (sA 2 (eF fW [(eV 1)]))
  (aj (sIf (aV (tV (eF jI [(eV 0),(eV 2)]))) (fun _=>none) sNx)
  (sR (eV 2))))
noncomputable def bW:List Dat->Bool:=fnX 2 1
  (ux (sA 2 (eF fW [(eV 1)])) (rIf (aV (tV (eF jI [(eV 0),(eV 2)]))) AG rNo))
noncomputable def qD:List Dat->Option RV:=fn 2 1
  (aj (sA 2 (e2 aJ (e2 bu (e2 aL (e2 aL (e2 aJ (eV 0) (eC (.int 2147483629))) (e2 bu (eC (.int 7919)) (eV 1))) (eC (.int 11))) (eC (.int 48271))) (eC (.int 2147483647))))
  (aj (sA 2 (e2 aJ (e2 aL (e2 aJ (e2 bu (eV 2) (eV 2)) (eC (.int 2147483629))) (e2 bu (eC (.int 104729)) (eV 1))) (eC (.int 2147483629))))
  (sR (e2 aJ (e2 bu (eV 2) (eC (.int 39373))) (eC (.int 2147483647))))))
noncomputable def iD:FS:=
  (aj (sA 6 (e2 aL (e2 bu (eV 6) (eC (.int 2147483647))) (eF qD [(eV 0),(e2 aL (e2 bu (eC (.int 8)) (eV 5)) (eV 7))])))
  (sA 7 (e2 aL (eV 7) (eC (.int 1)))))
noncomputable def l_:FS:=
  (aj (sA 6 (eV 4))
  (aj (sIf (tV (e2 gGt (eV 4) (eC (.int 0)))) (sA 4 (e2 bC (eV 4) (eV 2))) (aj (sA 6 (eC (.int 0)))
  (aj (sA 7 (eC (.int 0)))
  (whD (tV (e2 gLt (e2 bu (eV 7) (eC (.int 30))) (e2 aL (e1 aS (eV 2)) (eC (.int 8)))))
  iD 100))))
  (cB 3 (e2 aJ (eV 6) (eV 2)))))
noncomputable def qE:List Dat->Option RV:=fn 3 5
  (aj (sA 3 (bf []))
  (aj (sA 4 (e2 cj (eV 0) (e2 b4 (eC (.int 10)) (eC (.int 18)))))
  (aj (b9 (iR1 (eV 1)) (bN 5)
  l_)
  (sR (eV 3)))))
noncomputable def qF:List Dat->Option RV:=fn 4 1
  (aj (sA 4 (e2 aJ (eV 2) (eV 0)))
  (aj (sIf (tV (e2 gEq (eV 1) (eC (.int 0)))) (sR (bV [(eV 4),(e2 aJ (eV 3) (eV 0))])) sNx)
  (aj (sIf (tV (e2 gEq (eV 1) (eC (.int 1)))) (sR (bV [(e2 aJ (eV 2) (eB bg [(eV 0),(eC (.int 3))])),(e2 aJ (eV 3) (eB bg [(eV 0),(eC (.int 2))]))])) sNx)
  (aj (sIf (tV (e2 gEq (eV 1) (eC (.int 2)))) (sR (bV [(eV 4),(e2 aJ (e2 aL (e2 aL (eV 4) (eC (.int 1))) (e2 bC (e2 aJ (eV 3) (eC (.int 5))) (eC (.int 4)))) (eV 0))])) sNx)
  (sR (bV [(eV 4),(e2 aJ (e2 aL (eV 4) (e2 bu (eC (.int 2)) (e2 aJ (eV 3) (eV 0)))) (eV 0))]))))))
noncomputable def mh:FS:=
  (aj (sU [8,9] (eF qF [(eV 2),(e2 aJ (e2 gIx (eV 0) (eC (.int 3))) (eC (.int 4))),(e2 gIx (eV 0) (e2 aL (eC (.int 4)) (e2 bu (eC (.int 3)) (eV 7)))),(e2 gIx (eV 0) (e2 aL (eC (.int 5)) (e2 bu (eC (.int 3)) (eV 7))))]))
  (aj (cB 6 (bV [(eV 5),(eB bg [(eV 8),(eV 9)]),(eB bA [(eV 8),(eV 9)])]))
  (sA 5 (e2 aL (e2 aL (eV 5) (eC (.int 1))) (e2 aJ (e2 gIx (eV 0) (e2 aL (eC (.int 6)) (e2 bu (eC (.int 3)) (eV 7)))) (eV 4))))))
noncomputable def qG:List Dat->Option RV:=fn 2 8
  (aj (sA 2 (e2 aL (eC (.int 1)) (e2 aJ (e2 gIx (eV 0) (eC (.int 0))) (eC (.int 6)))))
  (aj (sIf (tV (e2 gEq (e2 aJ (e2 bC (e2 gIx (eV 0) (eC (.int 0))) (eC (.int 6))) (eC (.int 8))) (eC (.int 1)))) (sA 2 (e2 aL (eC (.int 7)) (e2 aJ (e2 bC (e2 gIx (eV 0) (eC (.int 0))) (eC (.int 48))) (eC (.int 4))))) sNx)
  (aj (sA 3 (e2 aJ (e2 gIx (eV 0) (eC (.int 1))) (eC (.int 13))))
  (aj (sIf (tV (e2 gEq (e2 aJ (e2 bC (e2 gIx (eV 0) (eC (.int 1))) (eC (.int 13))) (eC (.int 8))) (eC (.int 1)))) (sA 3 (e2 aL (eC (.int 13)) (e2 aJ (e2 bC (e2 gIx (eV 0) (eC (.int 1))) (eC (.int 104))) (eC (.int 48))))) sNx)
  (aj (sA 4 (e2 gIx (bf [(eC (.int 1)),(eC (.int 4)),(e2 b4 (eC (.int 10)) (eC (.int 28)))]) (e2 aJ (e2 gIx (eV 0) (eC (.int 2))) (eC (.int 3)))))
  (aj (sA 5 (e2 gIx (bf [(eC (.int 0)),(e2 aJ (e2 bC (e2 gIx (eV 0) (eC (.int 2))) (eC (.int 12))) (eC (.int 100))),(e2 aJ (e2 gIx (eV 0) (eC (.int 3))) (e2 b4 (eC (.int 10)) (eC (.int 29))))]) (e2 aJ (e2 bC (e2 gIx (eV 0) (eC (.int 2))) (eC (.int 3))) (eC (.int 3)))))
  (aj (sA 6 (bf []))
  (aj (b9 (iR1 (eB bB [(eV 3),(eV 1),(e2 bC (e2 cj (eB bP [(eV 0)]) (eC (.int 4))) (eC (.int 3)))])) (bN 7)
  mh)
  (sR (bV [(eV 2),(eV 6)]))))))))))
noncomputable def qH:List Dat->Option RV:=fn 1 0
  (aj (sIf (tV (e2 gEq (eV 0) (bf []))) (sR (eC (.str [110,111,110,101]))) sNx)
  (sR (eS2 jD (eC (.str [59,32])) (ee 0 1 (bN 1) aO (e2 bY (e2 bY (e2 bY (e2 bY (eB eW [(e2 gIx (eV 1) (eC (.int 0)))]) (eC (.str [58]))) (eB eW [(e2 gIx (eV 1) (eC (.int 1)))])) (eC (.str [45]))) (eB eW [(e2 gIx (eV 1) (eC (.int 2)))]))))))
noncomputable def uP:FS:=
  (sIf (tV (e2 nQ (eV 1) (eC (.str [48,49,50,51,52,53,54,55,56,57])))) (sR (eC .non)) sNx)
noncomputable def lu:List Dat->Option RV:=fn 1 1
  (aj (sIf (aV (tV (aF gLe gLe (eC (.int 1)) (eB fV [(eV 0)]) (eC (.int 60))))) (sR (eC .non)) sNx)
  (aj (b9 (iTx (eV 0)) (bN 1)
  uP)
  (aj (sIf (tV (e2 gNe (eB eW [(eB gT [(eV 0)])]) (eV 0))) (sR (eC .non)) sNx)
  (sR (eB gT [(eV 0)])))))
noncomputable def qI:List Dat->Option RV:=fn 2 7
  (aj (sU [2,3,4] (eS2 gU (eV 1) (eC (.str [58]))))
  (aj (sU [5,6,7] (eS2 gU (eV 4) (eC (.str [45]))))
  (aj (sA 8 (bV [(eF lu [(eV 2)]),(eF lu [(eV 5)]),(eF lu [(eV 7)])]))
  (aj (sIf (tOr (tV (e2 gIn (eC .non) (eV 8))) (tOr (tV (e2 gEq (eV 3) (eC (.str [])))) (tV (e2 gEq (eV 6) (eC (.str [])))))) (sR (eC .non)) sNx)
  (aj (sIf (tOr (tV (e2 gGt (e2 gIx (eV 8) (eC (.int 0))) (e2 b4 (eC (.int 10)) (eC (.int 30))))) (tOr (tV (e2 gGt (e2 gIx (eV 8) (eC (.int 1))) (e2 gIx (eV 8) (eC (.int 2))))) (tV (e2 gGe (e2 gIx (eV 8) (eC (.int 2))) (eV 0))))) (sR (eC .non)) sNx)
  (sR (eV 8)))))))
noncomputable def uQ:FS:=
  (sIf (tV (e2 gGe (e2 gIx (e2 gIx (eV 2) (e2 cj (eV 3) (eC (.int 1)))) (eC (.int 0))) (e2 gIx (e2 gIx (eV 2) (eV 3)) (eC (.int 0))))) (sR (eC .non)) sNx)
noncomputable def qJ:List Dat->Option RV:=fn 2 2
  (aj (sIf (tV (e2 gEq (eV 1) (eC (.str [110,111,110,101])))) (sR (bf [])) sNx)
  (aj (sA 2 (cW (iS (eS2 gg (eV 1) (eC (.str [59,32])))) 1 (bN 4) aO (eF qI [(eV 0),(eV 4)])))
  (aj (sIf (tOr (tV (e2 gIn (eC .non) (eV 2))) (tV (e2 gGt (eB bP [(eV 2)]) (eC (.int 60))))) (sR (eC .non)) sNx)
  (aj (b9 (iR2 (eC (.int 1)) (eB bP [(eV 2)])) (bN 3)
  uQ)
  (sR (eV 2))))))
noncomputable def nU:List Dat->Option RV:=fn 3 4
  (aj (sA 3 (e2 aJ (e2 gIx (eV 2) (eC (.int 0))) (eC (.int 5))))
  (aj (sA 4 (e2 aJ (e2 gIx (eV 2) (eC (.int 1))) (e2 aL (eB fV [(eV 1)]) (eC (.int 1)))))
  (aj (sA 5 (e2 pe (eC (.str [48,49,50,51,52,53,54,55,56,57,58,45,59,32,59,110,45,58,43,97])) (e2 aJ (e2 gIx (eV 2) (eC (.int 2))) (eC (.int 20)))))
  (aj (sIf (tV (e2 gEq (eV 3) (eC (.int 0)))) (sR (e2 bY (e2 bY (i7 (eV 1) none (some (eV 4))) (eV 5)) (i7 (eV 1) (some (eV 4)) none))) sNx)
  (aj (sIf (tV (e2 gEq (eV 3) (eC (.int 1)))) (sR (e2 bY (i7 (eV 1) none (some (eV 4))) (i7 (eV 1) (some (e2 aL (eV 4) (eC (.int 1)))) none))) sNx)
  (aj (sIf (tV (e2 gEq (eV 3) (eC (.int 2)))) (sR (e2 bY (e2 bY (i7 (eV 1) none (some (eV 4))) (eV 5)) (i7 (eV 1) (some (e2 aL (eV 4) (eC (.int 1)))) none))) sNx)
  (aj (sA 6 (bf [(eC (.str [])),(eC (.str [32])),(eC (.str [78,111,110,101])),(eC (.str [110,111,110,101,32])),(eC (.str [110,111,110,101,59,32,48,58,48,45,48])),(eC (.str [48,58,48,45,48,59])),(eC (.str [48,58,48,45,48,59,32])),(eC (.str [48,58,48,45,48,59,48,58,48,45,48])),(eC (.str [48,58,48,45,48,59,32,48,58,48,45,48]))]))
  (aj (sA 6 (e2 aL (eV 6) (bf [(eC (.str [49,58,48,45,48,59,32,48,58,48,45,48])),(eC (.str [48,48,58,48,45,48])),(eC (.str [48,58,48,48,45,48])),(eC (.str [45,49,58,48,45,48])),(eC (.str [48,58,48])),(eC (.str [48,45,48])),(eC (.str [48,58,48,45,48,45,48])),(eC (.str [48,58,48,58,48,45,48])),(eC (.str [48,58,49,45,48]))])))
  (aj (sA 6 (e2 aL (eV 6) (bf [(e2 bY (eC (.str [48,58,48,45])) (eB eW [(eV 0)])),(eC (.str [48,58,48,45,48,44,49,58,48,45,48])),(e2 bY (e2 iP (eC (.str [49])) (eC (.int 61))) (eC (.str [58,48,45,48]))),(e2 bY (e2 iP (eC (.str [55])) (eC (.int 5000))) (eC (.str [58,48,45,48])))])))
  (aj (sA 6 (e2 aL (eV 6) (bf [(e2 bY (e2 bY (eC (.str [49])) (e2 iP (eC (.str [48])) (eC (.int 29)))) (eC (.str [49,58,48,45,48]))),(eS2 jD (eC (.str [59,32])) (cW (iR1 (eC (.int 61))) 1 (bN 7) aO (e2 bY (eB eW [(eV 7)]) (eC (.str [58,48,45,48])))))])))
  (aj (sIf (tV (e2 gEq (eV 3) (eC (.int 3)))) (sR (e2 gIx (eV 6) (e2 aJ (e2 gIx (eV 2) (eC (.int 2))) (eC (.int 24))))) sNx)
  (sR (e2 bY (e2 bY (eV 1) (eC (.str [59,32]))) (eV 1))))))))))))))
noncomputable def jJ(aZ:Nat):List Dat->Option RV:=fn 2 3
  (aj (sA 2 (eC .non))
  (aj (sA 3 (eC .non))
  (aj (sUn (sA 3 (eF lq [(eV 0),(eV 1)])) (k6 (kW bW [(eV 0),(eV 1)]) aZ 4 (sA 2 (eV 4))))
  (aj (sIf (tV (e2 uf (eV 2) (eC .non))) (sR (eV 3)) sNx)
  (aj (sIf (tOr (aV (tV (e1 (eU [aZ] [true]) (eV 2)))) (aV (tV (e1 (eU [aZ] [true]) (eV 2))))) (sR (eC (.str [111,100,100]))) sNx)
  (aj (sIf (tV (e1 (eU [aZ] [false]) (eV 2))) (sR (eC (.str [111,100,100]))) sNx)
  (sR (eC .non))))))))
noncomputable def pD(aZ:Nat):FS:=
  (aj (sA 2 (eF qE [(eV 1),(eC (.int 45)),(e2 b4 (eC (.int 10)) (eC (.int 30)))]))
  (aj (sU [3,4] (eF qG [(eSl (eV 2) (some (eC (.int 3))) none),(eC (.int 12))]))
  (aj (sA 5 (eF qH [(eV 4)]))
  (aj (sIf (tV (e2 gNe (eF (jJ aZ) [(eV 3),(eV 5)]) (eV 4))) (sR (eC (.bl false))) sNx)
  (aj (sA 6 (eF nU [(eV 3),(eV 5),(eSl (eV 2) none (some (eC (.int 3))))]))
  (aj (sIf (tV (e2 gNe (eF (jJ aZ) [(eV 3),(eV 6)]) (eF qJ [(eV 3),(eV 6)]))) (sR (eC (.bl false))) sNx)
  (sIf (tOr (tV (e2 kU (eF (jJ aZ) [(eV 3),(e2 bY (eV 5) (eC (.str [32])))]) (eC .non))) (tV (e2 kU (eF (jJ aZ) [(eV 3),(e2 bY (eC (.str [32])) (eV 5))]) (eC .non)))) (sR (eC (.bl false))) sNx)))))))
noncomputable def jK(aZ:Nat):List Dat->Option RV:=fn 1 6
  (aj (b9 (iS (e2 aL (eSl (eV 0) none (some (eC (.int 15)))) (bf [(eB bP [(eV 0)])]))) (bN 1)
  (pD aZ))
  (sR (eC (.bl true))))
end P
local macro_rules|`(tactic|trivial)=>`(tactic|first | (dsimp only[List.set];first | done | rfl) | rfl)
local macro_rules | `(tactic| array_get_dec)=>`(tactic| first | with_reducible refine Dm.ID ?_ | with_reducible refine Dm.F_ ?_ | ((with_reducible apply Dm.G_);(focus rfl)) | ((with_reducible apply Dm.I_);(focus rfl)) | with_reducible refine Dm.H_ ?_ | (refine Dm.I0 ?_ (by trivial)) | (refine Dm.Ja ?_ (by trivial)) | (refine Dm.WA.slot ?_ rfl (by trivial)) | with_reducible refine Dm.IV ?_ (by decide) | with_reducible refine Dm.IM ?_ | with_reducible refine Dm.IG ?_ | with_reducible refine Dm.IZ ?_ | with_reducible refine Dm.JS ?_ | with_reducible refine Dm.Jb ?_ | with_reducible refine Dm.JR ?_ | (refine Dm.IE ?_) | (refine Dm.eu.mk ?_) | with_reducible refine Dm.Je ?_ | with_reducible refine Dm.IW ?_ | with_reducible refine Dm.IC ?_ | with_reducible refine Dm.m_ ?_ | with_reducible refine Dm.IY ?_ | with_reducible refine Dm.IP ?_ | with_reducible refine Dm.JZ ?_ | with_reducible refine Dm.Jt ?_ | with_reducible refine Dm.Jq ?_ | with_reducible refine Dm.We.If ?_ | with_reducible refine Dm.Jz ?_ | with_reducible refine Dm.We.Or ?_ | with_reducible refine Dm.We.Not ?_ | with_reducible refine Dm.JD ?_ | with_reducible refine Dm.We.SlT ?_ | with_reducible refine Dm.Wp.none ?_ | with_reducible refine Dm.Wp.some ?_ | (refine Dm.Wsl.A (ye:=Dat.int) ?_ rfl) | (refine Dm.Wsl.mk ?_ rfl) | (refine Dm.Jf ?_ rfl (by trivial) (by exact Nat.le_of_ble_eq_true rfl)) | (refine Dm.IX ?_) | (refine Dm.Jv ?_) | (refine Dm.Wk.slot ?_ rfl (by trivial)) | with_reducible refine Dm.We.Dn ?_ | with_reducible refine Dm.We.D1 ?_ | with_reducible refine Dm.Ws.Fc ?_ | (refine Dm.Fd ?_ rfl) | (refine Dm.ET rfl ?_) | (refine Dm.Ef ?_ rfl (by trivial) ?_) | (refine Dm.Ws.App ?_ rfl) | (refine Dm.EU ?_ rfl (by trivial) ?_) | with_reducible refine Dm.JN ?_ | (refine Dm.EV ?_ rfl (by trivial)) | with_reducible refine Dm.IF ?_ | (refine Dm.WR.new ?_) | (refine Dm.WR.val ?_) | (refine Dm.Jp ?_ rfl) | with_reducible refine Dm.IL ?_ | with_reducible refine Dm.Ws.bk ?_ | with_reducible refine Dm.Ws.ct ?_ | with_reducible refine Dm.Ws.E ?_ | with_reducible refine Dm.Jw ?_ | with_reducible refine Dm.JO ?_ | with_reducible refine Dm.Wi.L ?_ | with_reducible refine Dm.J0 ?_ | with_reducible refine Dm.JM ?_ | (refine Dm.je ?_) | (refine Dm.Eg ?_) | (refine Dm.Jk ?_ rfl rfl) | (refine Dm.JX ?_ rfl rfl) | (refine Dm.JV ?_ rfl rfl ?_) | (refine Dm.Wg2.E9 ?_ rfl rfl ?_) | (refine Dm.Wg2.eqb ?_ rfl rfl) | (refine Dm.Wg2.neb ?_ rfl rfl) | (refine Dm.Wg2.EW ?_ rfl rfl) | (refine Dm.Wg2.isb ?_ rfl rfl) | (refine Dm.JT ?_ rfl rfl) | (refine Dm.JU ?_ rfl rfl) | (refine Dm.Jo ?_ rfl rfl) | (refine Dm.JI ?_ rfl rfl) | (refine Dm.Jr ?_ rfl rfl) | (refine Dm.Wg2.Fe ?_ rfl rfl ?_) | (refine Dm.Wg2.E_ ?_ rfl rfl ?_) | (refine Dm.Jl ?_ rfl rfl ?_) | (refine Dm.Js ?_ rfl rfl) | (refine Dm.Wg2.mul ?_ rfl rfl (by first | exact Or.inl (by decide) | exact Or.inr (by decide))) | (refine Dm.Wg2.mul ?_ rfl rfl ?_) | (refine Dm.Wg2.div ?_ rfl rfl (by decide)) | (refine Dm.Wg2.div ?_ rfl rfl ?_) | (refine Dm.Jg ?_ rfl rfl (by decide)) | (refine Dm.Jg ?_ rfl rfl ?_) | (refine Dm.Wg2.din ?_ rfl rfl) | (refine Dm.Wg2.Ff ?_ rfl rfl) | (refine Dm.Wg2.inP ?_ rfl rfl) | (refine Dm.Wg2.Fg ?_ rfl rfl) | (refine Dm.IK ?_ rfl rfl rfl) | (refine Dm.Jx (ye:=Dat.int) ?_ rfl) | (refine Dm.WB.len ?_ rfl) | (refine Dm.WB.Fi ?_ rfl) | (refine Dm.WB.min2 ?_ rfl) | (refine Dm.WB.max2 ?_ rfl) | (refine Dm.WB.list ?_ rfl) | (refine Dm.WB.int ?_ rfl) | (refine Dm.WB.sum2 ?_ rfl ?_) | (refine Dm.Wg1.Fj (ye:=Dat.int) ?_ rfl) | (refine Dm.Ji ?_ rfl rfl))
namespace P
open Dm
section
variable{w:List Nat}{o p:Option Dat}{K:RV->Prop}{a b:List Nat}{R:RV->Env->Prop}{ρ:Env}{ds:List Dat}{N:Env->Prop}{s:List Nat}{n:Int}{B C:Env->Prop}{f g:FS}
noncomputable def mixed(cell k:Int):Int:=
 let n1:=(cell % 2147483629+7919*k+11)*48271 % 2147483647
 let n2:=(n1*n1 % 2147483629+104729*k) % 2147483629
 n2*39373 % 2147483647
theorem inB{a m:Int}(h0:0<m)(h1:m<=18446744073709551616):-B64<a % m/\a % m<B64:=by
 have h2:=Int.emod_nonneg a (Int.ne_of_gt h0);have h3:=Int.emod_lt_of_pos a h0;unfold B64
 lia
theorem uR(cell k:Int):qD [.int cell,.int k]=some (.val (.int (mixed cell k))):=by unfold qD mixed;simp(config:={ decide:=true }) only[Dm.fn,Dm.aj,Dm.sA,Dm.sR,Dm.sU,Dm.sIf,Dm.sNx,Dm.cB,Dm.b9,Dm.e1,Dm.e2,Dm.eB,Dm.eAs,Dm.eC,Dm.eV,Dm.bV,Dm.bf,Dm.eF,Dm.eIf,Dm.bO,Dm.cI,Dm.tV,Dm.aV,Dm.b8,Dm.tOr,Dm.aO,Dm.pk,Dm.tk,Dm.pks,Dm.tks,RV.aH,RV.dat,Dm.aP,Dm.aL,Dm.cj,Dm.bu,Dm.bC,Dm.aJ,Dm.b4,Dm.gLt,Dm.gLe,Dm.gGt,Dm.gGe,Dm.cU,Dm.aS,Dm.bP,Dm.bg,Dm.bA,Dm.bB,Dm.isI,Dm.isB,Dm.isL,Dm.isT,Dm.vB,Dm.vI,gV,F0,Dp,FL,Fo,Fz,eg,Dk,nC,FD,Fx,Fy,F6,if_true,if_false,F3,Dm.iR1,Dm.iR2,Dm.iS,Dm.bN,Dm.bT,Dm.sets,reduceIte,F2,Dm.aF,FO,FP,FZ,FW,true_or,or_true,true_and,and_true,decide_true,decide_false,false_or,or_false,false_and,and_false];rw[if_pos (Or.inl (inB (by decide) (by decide)))];simp(config:={ decide:=true }) only[Dm.fn,Dm.aj,Dm.sA,Dm.sR,Dm.sU,Dm.sIf,Dm.sNx,Dm.cB,Dm.b9,Dm.e1,Dm.e2,Dm.eB,Dm.eAs,Dm.eC,Dm.eV,Dm.bV,Dm.bf,Dm.eF,Dm.eIf,Dm.bO,Dm.cI,Dm.tV,Dm.aV,Dm.b8,Dm.tOr,Dm.aO,Dm.pk,Dm.tk,Dm.pks,Dm.tks,RV.aH,RV.dat,Dm.aP,Dm.aL,Dm.cj,Dm.bu,Dm.bC,Dm.aJ,Dm.b4,Dm.gLt,Dm.gLe,Dm.gGt,Dm.gGe,Dm.cU,Dm.aS,Dm.bP,Dm.bg,Dm.bA,Dm.bB,Dm.isI,Dm.isB,Dm.isL,Dm.isT,Dm.vB,Dm.vI,gV,F0,Dp,FL,Fo,Fz,eg,Dk,nC,FD,Fx,Fy,F6,if_true,if_false,F3,Dm.iR1,Dm.iR2,Dm.iS,Dm.bN,Dm.bT,Dm.sets,reduceIte,F2,Dm.aF,FO,FP,FZ,FW,true_or,or_true,true_and,and_true,decide_true,decide_false,false_or,or_false,false_and,and_false]
theorem nV(lo:Int):ups lo 0=[]:=rfl
theorem nW(lo:Int)(n:Nat):ups lo (n+1)=Dat.int lo::ups (lo+1) n:=by
 unfold ups;rw[List.range_succ_eq_map,gV,GP]
 congr 1
 ·simp
 ·apply HF;intro i _;simp only[Function.comp,Dat.int.injEq]
  lia
noncomputable abbrev Z30:Int:=1000000000000000000000000000000
noncomputable def draw(cell k:Int):Int:=((mixed cell (8*k+0)*2147483647+mixed cell (8*k+1))*2147483647+mixed cell (8*k+2))*2147483647+mixed cell (8*k+3)
noncomputable def nums(cell:Int):Nat->Int->Int->List Int
 |0,_,_=>[]
 |n+1,k,left=>if 0<left then (left % Z30)::nums cell n (k+1) (left / Z30) else (draw cell k % Z30)::nums cell n (k+1) left
theorem nX(cell:Int):∀n k left,(nums cell n k left).length=n
 |0,_,_=>rfl
 |n+1,k,left=>by unfold nums;split<;>simp[nX cell n]
theorem A3:bits Z30=100:=by decide
theorem Dj(cell many left k:Int)(uK:Dat) :
  whD (tV (e2 gLt (e2 bu (eV 7) (eC (.int 30))) (e2 aL (e1 aS (eV 2)) (eC (.int 8))))) iD 100
   [.sh (.int cell),.sh (.int many),.sh (.int Z30),.ow uK,.sh (.int left),.sh (.int k),.sh (.int 0),.sh (.int 0)] =
  some (.nx [.sh (.int cell),.sh (.int many),.sh (.int Z30),.ow uK,.sh (.int left),.sh (.int k),.sh (.int (draw cell k)),.sh (.int 4)]):=by
 have bt:=A3;have one:∀(n:Nat) (num:Int) (t:Int),t=0\/t=1\/t=2\/t=3 ->
   whD (tV (e2 gLt (e2 bu (eV 7) (eC (.int 30))) (e2 aL (e1 aS (eV 2)) (eC (.int 8))))) iD (n+1)
    [.sh (.int cell),.sh (.int many),.sh (.int Z30),.ow uK,.sh (.int left),.sh (.int k),.sh (.int num),.sh (.int t)] =
   whD (tV (e2 gLt (e2 bu (eV 7) (eC (.int 30))) (e2 aL (e1 aS (eV 2)) (eC (.int 8))))) iD n
    [.sh (.int cell),.sh (.int many),.sh (.int Z30),.ow uK,.sh (.int left),.sh (.int k),.sh (.int (num*2147483647+mixed cell (8*k+t))),.sh (.int (t+1))]:=by
  intro n num t ht;rw[whD];have lt:(t*30<100+8)=True:=by simp only[eq_iff_iff,iff_true];lia
  have test:tV (e2 gLt (e2 bu (eV 7) (eC (.int 30))) (e2 aL (e1 aS (eV 2)) (eC (.int 8)))) [.sh (.int cell),.sh (.int many),.sh (.int Z30),.ow uK,.sh (.int left),.sh (.int k),.sh (.int num),.sh (.int t)] =
    some (true,[.sh (.int cell),.sh (.int many),.sh (.int Z30),.ow uK,.sh (.int left),.sh (.int k),.sh (.int num),.sh (.int t)]):=by
   simp(config:={ decide:=true }) only[Dm.fn,Dm.aj,Dm.sA,Dm.sR,Dm.sU,Dm.sIf,Dm.sNx,Dm.cB,Dm.b9,Dm.e1,Dm.e2,Dm.eB,Dm.eAs,Dm.eC,Dm.eV,Dm.bV,Dm.bf,Dm.eF,Dm.eIf,Dm.bO,Dm.cI,Dm.tV,Dm.aV,Dm.b8,Dm.tOr,Dm.aO,Dm.pk,Dm.tk,Dm.pks,Dm.tks,RV.aH,RV.dat,Dm.aP,Dm.aL,Dm.cj,Dm.bu,Dm.bC,Dm.aJ,Dm.b4,Dm.gLt,Dm.gLe,Dm.gGt,Dm.gGe,Dm.cU,Dm.aS,Dm.bP,Dm.bg,Dm.bA,Dm.bB,Dm.isI,Dm.isB,Dm.isL,Dm.isT,Dm.vB,Dm.vI,gV,F0,Dp,FL,Fo,Fz,eg,Dk,nC,FD,Fx,Fy,F6,if_true,if_false,F3,Dm.iR1,Dm.iR2,Dm.iS,Dm.bN,Dm.bT,Dm.sets,reduceIte,F2,Dm.aF,FO,FP,FZ,FW,true_or,or_true,true_and,and_true,decide_true,decide_false,false_or,or_false,false_and,and_false];rw[bt];simp only[lt,decide_true]
  rw[test];have body:iD [.sh (.int cell),.sh (.int many),.sh (.int Z30),.ow uK,.sh (.int left),.sh (.int k),.sh (.int num),.sh (.int t)] =
    some (.nx [.sh (.int cell),.sh (.int many),.sh (.int Z30),.ow uK,.sh (.int left),.sh (.int k),.sh (.int (num*2147483647+mixed cell (8*k+t))),.sh (.int (t+1))]):=by
   unfold iD;simp(config:={ decide:=true }) only[Dm.fn,Dm.aj,Dm.sA,Dm.sR,Dm.sU,Dm.sIf,Dm.sNx,Dm.cB,Dm.b9,Dm.e1,Dm.e2,Dm.eB,Dm.eAs,Dm.eC,Dm.eV,Dm.bV,Dm.bf,Dm.eF,Dm.eIf,Dm.bO,Dm.cI,Dm.tV,Dm.aV,Dm.b8,Dm.tOr,Dm.aO,Dm.pk,Dm.tk,Dm.pks,Dm.tks,RV.aH,RV.dat,Dm.aP,Dm.aL,Dm.cj,Dm.bu,Dm.bC,Dm.aJ,Dm.b4,Dm.gLt,Dm.gLe,Dm.gGt,Dm.gGe,Dm.cU,Dm.aS,Dm.bP,Dm.bg,Dm.bA,Dm.bB,Dm.isI,Dm.isB,Dm.isL,Dm.isT,Dm.vB,Dm.vI,gV,F0,Dp,FL,Fo,Fz,eg,Dk,nC,FD,Fx,Fy,F6,if_true,if_false,F3,Dm.iR1,Dm.iR2,Dm.iS,Dm.bN,Dm.bT,Dm.sets,reduceIte,F2,Dm.aF,FO,FP,FZ,FW,true_or,or_true,true_and,and_true,decide_true,decide_false,false_or,or_false,false_and,and_false];rw[uR];simp(config:={ decide:=true }) only[Dm.fn,Dm.aj,Dm.sA,Dm.sR,Dm.sU,Dm.sIf,Dm.sNx,Dm.cB,Dm.b9,Dm.e1,Dm.e2,Dm.eB,Dm.eAs,Dm.eC,Dm.eV,Dm.bV,Dm.bf,Dm.eF,Dm.eIf,Dm.bO,Dm.cI,Dm.tV,Dm.aV,Dm.b8,Dm.tOr,Dm.aO,Dm.pk,Dm.tk,Dm.pks,Dm.tks,RV.aH,RV.dat,Dm.aP,Dm.aL,Dm.cj,Dm.bu,Dm.bC,Dm.aJ,Dm.b4,Dm.gLt,Dm.gLe,Dm.gGt,Dm.gGe,Dm.cU,Dm.aS,Dm.bP,Dm.bg,Dm.bA,Dm.bB,Dm.isI,Dm.isB,Dm.isL,Dm.isT,Dm.vB,Dm.vI,gV,F0,Dp,FL,Fo,Fz,eg,Dk,nC,FD,Fx,Fy,F6,if_true,if_false,F3,Dm.iR1,Dm.iR2,Dm.iS,Dm.bN,Dm.bT,Dm.sets,reduceIte,F2,Dm.aF,FO,FP,FZ,FW,true_or,or_true,true_and,and_true,decide_true,decide_false,false_or,or_false,false_and,and_false]
  dsimp only;rw[body]
 rw[one 99 0 0 (by lia),one 98 _ (0+1) (by lia),one 97 _ (0+1+1) (by lia),one 96 _ (0+1+1+1) (by lia)];rw[whD];have test:∀num,tV (e2 gLt (e2 bu (eV 7) (eC (.int 30))) (e2 aL (e1 aS (eV 2)) (eC (.int 8)))) [.sh (.int cell),.sh (.int many),.sh (.int Z30),.ow uK,.sh (.int left),.sh (.int k),.sh (.int num),.sh (.int (0+1+1+1+1))] =
    some (false,[.sh (.int cell),.sh (.int many),.sh (.int Z30),.ow uK,.sh (.int left),.sh (.int k),.sh (.int num),.sh (.int (0+1+1+1+1))]):=by
  intro num;simp(config:={ decide:=true }) only[Dm.fn,Dm.aj,Dm.sA,Dm.sR,Dm.sU,Dm.sIf,Dm.sNx,Dm.cB,Dm.b9,Dm.e1,Dm.e2,Dm.eB,Dm.eAs,Dm.eC,Dm.eV,Dm.bV,Dm.bf,Dm.eF,Dm.eIf,Dm.bO,Dm.cI,Dm.tV,Dm.aV,Dm.b8,Dm.tOr,Dm.aO,Dm.pk,Dm.tk,Dm.pks,Dm.tks,RV.aH,RV.dat,Dm.aP,Dm.aL,Dm.cj,Dm.bu,Dm.bC,Dm.aJ,Dm.b4,Dm.gLt,Dm.gLe,Dm.gGt,Dm.gGe,Dm.cU,Dm.aS,Dm.bP,Dm.bg,Dm.bA,Dm.bB,Dm.isI,Dm.isB,Dm.isL,Dm.isT,Dm.vB,Dm.vI,gV,F0,Dp,FL,Fo,Fz,eg,Dk,nC,FD,Fx,Fy,F6,if_true,if_false,F3,Dm.iR1,Dm.iR2,Dm.iS,Dm.bN,Dm.bT,Dm.sets,reduceIte,F2,Dm.aF,FO,FP,FZ,FW,true_or,or_true,true_and,and_true,decide_true,decide_false,false_or,or_false,false_and,and_false]
 rw[test];simp only[draw,Int.zero_mul,Int.zero_add];rfl
theorem x9(cell many left k:Int)(uK:List Dat)(c5 c6 c7:Cell)(hl:uK.length<SZ) :
  ∃c6' c7',l_ [.sh (.int cell),.sh (.int many),.sh (.int Z30),.ow (.lst uK),.sh (.int left),.sh (.int k),c6,c7] =
   some (.nx [.sh (.int cell),.sh (.int many),.sh (.int Z30),.ow (.lst (uK++[.int (if 0<left then left % Z30 else draw cell k % Z30)])),.sh (.int (if 0<left then left / Z30 else left)),.sh (.int k),c6',c7']):=by
 unfold l_;by_cases h:0<left
 ·refine⟨.sh (.int left),c7,?_⟩;simp(config:={ decide:=true }) only[Dm.fn,Dm.aj,Dm.sA,Dm.sR,Dm.sU,Dm.sIf,Dm.sNx,Dm.cB,Dm.b9,Dm.e1,Dm.e2,Dm.eB,Dm.eAs,Dm.eC,Dm.eV,Dm.bV,Dm.bf,Dm.eF,Dm.eIf,Dm.bO,Dm.cI,Dm.tV,Dm.aV,Dm.b8,Dm.tOr,Dm.aO,Dm.pk,Dm.tk,Dm.pks,Dm.tks,RV.aH,RV.dat,Dm.aP,Dm.aL,Dm.cj,Dm.bu,Dm.bC,Dm.aJ,Dm.b4,Dm.gLt,Dm.gLe,Dm.gGt,Dm.gGe,Dm.cU,Dm.aS,Dm.bP,Dm.bg,Dm.bA,Dm.bB,Dm.isI,Dm.isB,Dm.isL,Dm.isT,Dm.vB,Dm.vI,gV,F0,Dp,FL,Fo,Fz,eg,Dk,nC,FD,Fx,Fy,F6,if_true,if_false,F3,Dm.iR1,Dm.iR2,Dm.iS,Dm.bN,Dm.bT,Dm.sets,reduceIte,F2,Dm.aF,FO,FP,FZ,FW,true_or,or_true,true_and,and_true,decide_true,decide_false,false_or,or_false,false_and,and_false];simp only[h,if_true,decide_true];simp(config:={ decide:=true }) only[Dm.fn,Dm.aj,Dm.sA,Dm.sR,Dm.sU,Dm.sIf,Dm.sNx,Dm.cB,Dm.b9,Dm.e1,Dm.e2,Dm.eB,Dm.eAs,Dm.eC,Dm.eV,Dm.bV,Dm.bf,Dm.eF,Dm.eIf,Dm.bO,Dm.cI,Dm.tV,Dm.aV,Dm.b8,Dm.tOr,Dm.aO,Dm.pk,Dm.tk,Dm.pks,Dm.tks,RV.aH,RV.dat,Dm.aP,Dm.aL,Dm.cj,Dm.bu,Dm.bC,Dm.aJ,Dm.b4,Dm.gLt,Dm.gLe,Dm.gGt,Dm.gGe,Dm.cU,Dm.aS,Dm.bP,Dm.bg,Dm.bA,Dm.bB,Dm.isI,Dm.isB,Dm.isL,Dm.isT,Dm.vB,Dm.vI,gV,F0,Dp,FL,Fo,Fz,eg,Dk,nC,FD,Fx,Fy,F6,if_true,if_false,F3,Dm.iR1,Dm.iR2,Dm.iS,Dm.bN,Dm.bT,Dm.sets,reduceIte,F2,Dm.aF,FO,FP,FZ,FW,true_or,or_true,true_and,and_true,decide_true,decide_false,false_or,or_false,false_and,and_false];simp only[hl,if_true]
 ·refine⟨.sh (.int (draw cell k)),.sh (.int 4),?_⟩;simp(config:={ decide:=true }) only[Dm.fn,Dm.aj,Dm.sA,Dm.sR,Dm.sU,Dm.sIf,Dm.sNx,Dm.cB,Dm.b9,Dm.e1,Dm.e2,Dm.eB,Dm.eAs,Dm.eC,Dm.eV,Dm.bV,Dm.bf,Dm.eF,Dm.eIf,Dm.bO,Dm.cI,Dm.tV,Dm.aV,Dm.b8,Dm.tOr,Dm.aO,Dm.pk,Dm.tk,Dm.pks,Dm.tks,RV.aH,RV.dat,Dm.aP,Dm.aL,Dm.cj,Dm.bu,Dm.bC,Dm.aJ,Dm.b4,Dm.gLt,Dm.gLe,Dm.gGt,Dm.gGe,Dm.cU,Dm.aS,Dm.bP,Dm.bg,Dm.bA,Dm.bB,Dm.isI,Dm.isB,Dm.isL,Dm.isT,Dm.vB,Dm.vI,gV,F0,Dp,FL,Fo,Fz,eg,Dk,nC,FD,Fx,Fy,F6,if_true,if_false,F3,Dm.iR1,Dm.iR2,Dm.iS,Dm.bN,Dm.bT,Dm.sets,reduceIte,F2,Dm.aF,FO,FP,FZ,FW,true_or,or_true,true_and,and_true,decide_true,decide_false,false_or,or_false,false_and,and_false];simp only[h,if_false,decide_false];simp(config:={ decide:=true }) only[Dm.fn,Dm.aj,Dm.sA,Dm.sR,Dm.sU,Dm.sIf,Dm.sNx,Dm.cB,Dm.b9,Dm.e1,Dm.e2,Dm.eB,Dm.eAs,Dm.eC,Dm.eV,Dm.bV,Dm.bf,Dm.eF,Dm.eIf,Dm.bO,Dm.cI,Dm.tV,Dm.aV,Dm.b8,Dm.tOr,Dm.aO,Dm.pk,Dm.tk,Dm.pks,Dm.tks,RV.aH,RV.dat,Dm.aP,Dm.aL,Dm.cj,Dm.bu,Dm.bC,Dm.aJ,Dm.b4,Dm.gLt,Dm.gLe,Dm.gGt,Dm.gGe,Dm.cU,Dm.aS,Dm.bP,Dm.bg,Dm.bA,Dm.bB,Dm.isI,Dm.isB,Dm.isL,Dm.isT,Dm.vB,Dm.vI,gV,F0,Dp,FL,Fo,Fz,eg,Dk,nC,FD,Fx,Fy,F6,if_true,if_false,F3,Dm.iR1,Dm.iR2,Dm.iS,Dm.bN,Dm.bT,Dm.sets,reduceIte,F2,Dm.aF,FO,FP,FZ,FW,true_or,or_true,true_and,and_true,decide_true,decide_false,false_or,or_false,false_and,and_false];rw[Dj];simp(config:={ decide:=true }) only[Dm.fn,Dm.aj,Dm.sA,Dm.sR,Dm.sU,Dm.sIf,Dm.sNx,Dm.cB,Dm.b9,Dm.e1,Dm.e2,Dm.eB,Dm.eAs,Dm.eC,Dm.eV,Dm.bV,Dm.bf,Dm.eF,Dm.eIf,Dm.bO,Dm.cI,Dm.tV,Dm.aV,Dm.b8,Dm.tOr,Dm.aO,Dm.pk,Dm.tk,Dm.pks,Dm.tks,RV.aH,RV.dat,Dm.aP,Dm.aL,Dm.cj,Dm.bu,Dm.bC,Dm.aJ,Dm.b4,Dm.gLt,Dm.gLe,Dm.gGt,Dm.gGe,Dm.cU,Dm.aS,Dm.bP,Dm.bg,Dm.bA,Dm.bB,Dm.isI,Dm.isB,Dm.isL,Dm.isT,Dm.vB,Dm.vI,gV,F0,Dp,FL,Fo,Fz,eg,Dk,nC,FD,Fx,Fy,F6,if_true,if_false,F3,Dm.iR1,Dm.iR2,Dm.iS,Dm.bN,Dm.bT,Dm.sets,reduceIte,F2,Dm.aF,FO,FP,FZ,FW,true_or,or_true,true_and,and_true,decide_true,decide_false,false_or,or_false,false_and,and_false];simp only[hl,if_true]
theorem qK(cell many:Int):∀(n:Nat) (k left:Int) (uK:List Dat) (c5 c6 c7:Cell),uK.length+n<=SZ ->
  ∃left' c5' c6' c7',dY (bN 5) l_ (ups k n) [.sh (.int cell),.sh (.int many),.sh (.int Z30),.ow (.lst uK),.sh (.int left),c5,c6,c7] =
   some (.nx [.sh (.int cell),.sh (.int many),.sh (.int Z30),.ow (.lst (uK++(nums cell n k left).map Dat.int)),.sh (.int left'),c5',c6',c7'])
 |0,k,left,uK,c5,c6,c7,h=>⟨left,c5,c6,c7,by rw[nV,dY];simp[nums]⟩
 |n+1,k,left,uK,c5,c6,c7,h=>by
  rw[nW,dY];have hb:bN 5 (.int k) [.sh (.int cell),.sh (.int many),.sh (.int Z30),.ow (.lst uK),.sh (.int left),c5,c6,c7]=some [.sh (.int cell),.sh (.int many),.sh (.int Z30),.ow (.lst uK),.sh (.int left),.sh (.int k),c6,c7]:=rfl;rw[hb];dsimp only;obtain⟨d6,d7,e⟩:=x9 cell many left k uK c5 c6 c7 (by lia);rw[e];dsimp only;obtain⟨l',a5,a6,a7,e2⟩:=qK cell many n (k+1) (if 0<left then left / Z30 else left) (uK++[.int (if 0<left then left % Z30 else draw cell k % Z30)]) (.sh (.int k)) d6 d7 (by simp;lia);refine⟨l',a5,a6,a7,?_⟩;rw[e2];have:uK++(nums cell (n+1) k left).map Dat.int=uK++[.int (if 0<left then left % Z30 else draw cell k % Z30)]++(nums cell n (k+1) (if 0<left then left / Z30 else left)).map Dat.int:=by
   conv=>lhs;unfold nums
   by_cases h0:0<left
   ·simp[h0]
   ·simp[h0]
  rw[this]
noncomputable def numsOf(cell:Int)(n:Nat):List Int:=nums cell n 0 (cell-1000000000000000000)
theorem pF(cell:Int)(n:Nat)(hn:n<=1000):qE [.int cell,.int n,.int Z30]=some (.new (.lst ((numsOf cell n).map Dat.int))):=by
 unfold qE;obtain⟨l',a5,a6,a7,e⟩:=qK cell n n 0 (cell-1000000000000000000) [] .un .un .un (by simp[SZ];lia);have p18:(10:Int) ^ (18:Int).toNat=1000000000000000000:=by decide
 have hb:((n:Int)<=BIG/\-BIG<=(n:Int))=True:=by simp only[eq_iff_iff,iff_true];unfold BIG;lia
 have hs:(0<=SZ)=True:=by simp
 simp(config:={ decide:=true }) only[Dm.fn,Dm.aj,Dm.sA,Dm.sR,Dm.sU,Dm.sIf,Dm.sNx,Dm.cB,Dm.b9,Dm.e1,Dm.e2,Dm.eB,Dm.eAs,Dm.eC,Dm.eV,Dm.bV,Dm.bf,Dm.eF,Dm.eIf,Dm.bO,Dm.cI,Dm.tV,Dm.aV,Dm.b8,Dm.tOr,Dm.aO,Dm.pk,Dm.tk,Dm.pks,Dm.tks,RV.aH,RV.dat,Dm.aP,Dm.aL,Dm.cj,Dm.bu,Dm.bC,Dm.aJ,Dm.b4,Dm.gLt,Dm.gLe,Dm.gGt,Dm.gGe,Dm.cU,Dm.aS,Dm.bP,Dm.bg,Dm.bA,Dm.bB,Dm.isI,Dm.isB,Dm.isL,Dm.isT,Dm.vB,Dm.vI,gV,F0,Dp,FL,Fo,Fz,eg,Dk,nC,FD,Fx,Fy,F6,if_true,if_false,F3,Dm.iR1,Dm.iR2,Dm.iS,Dm.bN,Dm.bT,Dm.sets,reduceIte,F2,Dm.aF,FO,FP,FZ,FW,true_or,or_true,true_and,and_true,decide_true,decide_false,false_or,or_false,false_and,and_false];simp only[p18,hb,hs,if_true,Int.toNat_natCast];rw[Fo]at e;unfold numsOf;rw[e];simp(config:={ decide:=true }) only[Dm.fn,Dm.aj,Dm.sA,Dm.sR,Dm.sU,Dm.sIf,Dm.sNx,Dm.cB,Dm.b9,Dm.e1,Dm.e2,Dm.eB,Dm.eAs,Dm.eC,Dm.eV,Dm.bV,Dm.bf,Dm.eF,Dm.eIf,Dm.bO,Dm.cI,Dm.tV,Dm.aV,Dm.b8,Dm.tOr,Dm.aO,Dm.pk,Dm.tk,Dm.pks,Dm.tks,RV.aH,RV.dat,Dm.aP,Dm.aL,Dm.cj,Dm.bu,Dm.bC,Dm.aJ,Dm.b4,Dm.gLt,Dm.gLe,Dm.gGt,Dm.gGe,Dm.cU,Dm.aS,Dm.bP,Dm.bg,Dm.bA,Dm.bB,Dm.isI,Dm.isB,Dm.isL,Dm.isT,Dm.vB,Dm.vI,gV,F0,Dp,FL,Fo,Fz,eg,Dk,nC,FD,Fx,Fy,F6,if_true,if_false,F3,Dm.iR1,Dm.iR2,Dm.iS,Dm.bN,Dm.bT,Dm.sets,reduceIte,F2,Dm.aF,FO,FP,FZ,FW,true_or,or_true,true_and,and_true,decide_true,decide_false,false_or,or_false,false_and,and_false]
structure Tie where
 m:Int
 a:Int
 b:Int
noncomputable def eE(t:Tie):Dat:=.tup [.int t.m,.int t.a,.int t.b]
noncomputable def dg(r:List Tie):Dat:=.lst (r.map eE)
theorem eq_int(i j:Int):gEq (.int i) (.int j)=vB (decide (i=j)):=by
 have:(i == j)=decide (i=j):=by by_cases h:i=j<;>simp[h]
 show vB (i == j)=_;rw[this]
theorem bJ(x n:Int)(h:1<=n):0<=x % n/\x % n<n:=⟨Int.emod_nonneg x (by lia),Int.emod_lt_of_pos x (by lia)⟩
theorem Dl(n:Int)(hn:1<=n)(hn2:n<=10)(kind one other:Int):∃a b,qF [.int n,.int kind,.int one,.int other]=some (.val (.tup [.int a,.int b]))/\0<=a/\a<n/\0<=b/\b<n:=by
 have h0:(0<n)=True:=by simp only[eq_iff_iff,iff_true];lia
 have z2:(2<=SZ)=True:=by simp[SZ]
 have m1:∀x:Int,0<=x % n/\x % n<n:=fun x=>bJ x n hn;unfold qF;by_cases k0:kind=0
 ·refine⟨one % n,other % n,?_,(m1 _).1,(m1 _).2,(m1 _).1,(m1 _).2⟩;subst k0;simp(config:={ decide:=true }) only[h0,z2,eq_int,Dm.fn,Dm.aj,Dm.sA,Dm.sR,Dm.sU,Dm.sIf,Dm.sNx,Dm.cB,Dm.b9,Dm.e1,Dm.e2,Dm.eB,Dm.eAs,Dm.eC,Dm.eV,Dm.bV,Dm.bf,Dm.eF,Dm.eIf,Dm.bO,Dm.cI,Dm.tV,Dm.aV,Dm.b8,Dm.tOr,Dm.aO,Dm.pk,Dm.tk,Dm.pks,Dm.tks,RV.aH,RV.dat,Dm.aP,Dm.aL,Dm.cj,Dm.bu,Dm.bC,Dm.aJ,Dm.b4,Dm.gLt,Dm.gLe,Dm.gGt,Dm.gGe,Dm.cU,Dm.aS,Dm.bP,Dm.bg,Dm.bA,Dm.bB,Dm.isI,Dm.isB,Dm.isL,Dm.isT,Dm.vB,Dm.vI,gV,F0,Dp,FL,Fo,Fz,eg,Dk,nC,FD,Fx,Fy,F6,if_true,if_false,F3,Dm.iR1,Dm.iR2,Dm.iS,Dm.bN,Dm.bT,Dm.sets,reduceIte,F2,Dm.aF,FO,FP,FZ,FW,true_or,or_true,true_and,and_true,decide_true,decide_false,false_or,or_false,false_and,and_false]
 ·have e0:(kind=0)=False:=by simp[k0]
  by_cases k1:kind=1
  ·subst k1;have p3:(0<if 3<n then 3 else n)=True:=by simp only[eq_iff_iff,iff_true];split<;>lia
   have p2:(0<if 2<n then 2 else n)=True:=by simp only[eq_iff_iff,iff_true];split<;>lia
   have b3:=bJ one (if 3<n then 3 else n) (by split<;>lia);have b2:=bJ other (if 2<n then 2 else n) (by split<;>lia);refine⟨one % (if 3<n then 3 else n),other % (if 2<n then 2 else n),?_,b3.1,?_,b2.1,?_⟩
   ·simp(config:={ decide:=true }) only[h0,z2,eq_int,p3,p2,Dm.fn,Dm.aj,Dm.sA,Dm.sR,Dm.sU,Dm.sIf,Dm.sNx,Dm.cB,Dm.b9,Dm.e1,Dm.e2,Dm.eB,Dm.eAs,Dm.eC,Dm.eV,Dm.bV,Dm.bf,Dm.eF,Dm.eIf,Dm.bO,Dm.cI,Dm.tV,Dm.aV,Dm.b8,Dm.tOr,Dm.aO,Dm.pk,Dm.tk,Dm.pks,Dm.tks,RV.aH,RV.dat,Dm.aP,Dm.aL,Dm.cj,Dm.bu,Dm.bC,Dm.aJ,Dm.b4,Dm.gLt,Dm.gLe,Dm.gGt,Dm.gGe,Dm.cU,Dm.aS,Dm.bP,Dm.bg,Dm.bA,Dm.bB,Dm.isI,Dm.isB,Dm.isL,Dm.isT,Dm.vB,Dm.vI,gV,F0,Dp,FL,Fo,Fz,eg,Dk,nC,FD,Fx,Fy,F6,if_true,if_false,F3,Dm.iR1,Dm.iR2,Dm.iS,Dm.bN,Dm.bT,Dm.sets,reduceIte,F2,Dm.aF,FO,FP,FZ,FW,true_or,or_true,true_and,and_true,decide_true,decide_false,false_or,or_false,false_and,and_false]
   ·have:=b3.2;split at this<;>lia
   ·have:=b2.2;split at this<;>lia
  ·have e1:(kind=1)=False:=by simp[k1]
   by_cases k2:kind=2
   ·subst k2;refine⟨one % n,(one % n+1+other % 5 / 4) % n,?_,(m1 _).1,(m1 _).2,(m1 _).1,(m1 _).2⟩;have c:(0<(4:Int)/\(4:Int)<dZ)=True:=by simp[dZ]
    simp(config:={ decide:=true }) only[h0,z2,eq_int,c,Dm.fn,Dm.aj,Dm.sA,Dm.sR,Dm.sU,Dm.sIf,Dm.sNx,Dm.cB,Dm.b9,Dm.e1,Dm.e2,Dm.eB,Dm.eAs,Dm.eC,Dm.eV,Dm.bV,Dm.bf,Dm.eF,Dm.eIf,Dm.bO,Dm.cI,Dm.tV,Dm.aV,Dm.b8,Dm.tOr,Dm.aO,Dm.pk,Dm.tk,Dm.pks,Dm.tks,RV.aH,RV.dat,Dm.aP,Dm.aL,Dm.cj,Dm.bu,Dm.bC,Dm.aJ,Dm.b4,Dm.gLt,Dm.gLe,Dm.gGt,Dm.gGe,Dm.cU,Dm.aS,Dm.bP,Dm.bg,Dm.bA,Dm.bB,Dm.isI,Dm.isB,Dm.isL,Dm.isT,Dm.vB,Dm.vI,gV,F0,Dp,FL,Fo,Fz,eg,Dk,nC,FD,Fx,Fy,F6,if_true,if_false,F3,Dm.iR1,Dm.iR2,Dm.iS,Dm.bN,Dm.bT,Dm.sets,reduceIte,F2,Dm.aF,FO,FP,FZ,FW,true_or,or_true,true_and,and_true,decide_true,decide_false,false_or,or_false,false_and,and_false]
   ·have e2:(kind=2)=False:=by simp[k2]
    refine⟨one % n,(one % n+2*(other % n)) % n,?_,(m1 _).1,(m1 _).2,(m1 _).1,(m1 _).2⟩;simp(config:={ decide:=true }) only[h0,z2,eq_int,e0,e1,e2,Dm.fn,Dm.aj,Dm.sA,Dm.sR,Dm.sU,Dm.sIf,Dm.sNx,Dm.cB,Dm.b9,Dm.e1,Dm.e2,Dm.eB,Dm.eAs,Dm.eC,Dm.eV,Dm.bV,Dm.bf,Dm.eF,Dm.eIf,Dm.bO,Dm.cI,Dm.tV,Dm.aV,Dm.b8,Dm.tOr,Dm.aO,Dm.pk,Dm.tk,Dm.pks,Dm.tks,RV.aH,RV.dat,Dm.aP,Dm.aL,Dm.cj,Dm.bu,Dm.bC,Dm.aJ,Dm.b4,Dm.gLt,Dm.gLe,Dm.gGt,Dm.gGe,Dm.cU,Dm.aS,Dm.bP,Dm.bg,Dm.bA,Dm.bB,Dm.isI,Dm.isB,Dm.isL,Dm.isT,Dm.vB,Dm.vI,gV,F0,Dp,FL,Fo,Fz,eg,Dk,nC,FD,Fx,Fy,F6,if_true,if_false,F3,Dm.iR1,Dm.iR2,Dm.iS,Dm.bN,Dm.bT,Dm.sets,reduceIte,F2,Dm.aF,FO,FP,FZ,FW,true_or,or_true,true_and,and_true,decide_true,decide_false,false_or,or_false,false_and,and_false]
noncomputable def at'(ns:List Int)(i:Int):Int:=ns.getD i.toNat 0
theorem jd(ns:List Int)(i:Int)(h0:0<=i)(h1:i<ns.length):atI (ns.map Dat.int) i=some (.int (at' ns i)):=by
 unfold atI ixN at';rw[if_pos h0,if_pos (by simpa using h1)];have hi:i.toNat<ns.length:=by lia
 show (ns.map Dat.int)[i.toNat]?=_;rw[F4,F1 hi,Gk,F1 hi];rfl
theorem fk(ns:List Int)(i:Int)(h0:0<=i)(h1:i<ns.length):gIx (.lst (ns.map Dat.int)) (.int i)=some (.val (.int (at' ns i))):=by show (atI (ns.map Dat.int) i).map RV.val=_;rw[jd ns i h0 h1];rfl
def Good(n:Int):Int->List Tie->Prop
 |_,[]=>True
 |lo,t::r=>lo<=t.m/\0<=t.a/\t.a<=t.b/\t.b<n/\Good n (t.m+1) r
noncomputable abbrev Z28:Int:=10000000000000000000000000000
theorem x_(ns:List Int)(n many wide bD most k:Int)(uK:List Tie)(c8 c9:Cell)(hn:1<=n)(hn2:n<=10)(hw:1<=wide)(hw2:wide<=Z28)(hk:0<=k)(hk2:6+3*k<ns.length)(hl:uK.length<1000) :
  ∃(t:Tie) (gX:Int) (c8' c9':Cell),mh [.sh (.lst (ns.map Dat.int)),.sh (.int most),.sh (.int n),.sh (.int many),.sh (.int wide),.sh (.int bD),.ow (dg uK),.sh (.int k),c8,c9] =
   some (.nx [.sh (.lst (ns.map Dat.int)),.sh (.int most),.sh (.int n),.sh (.int many),.sh (.int wide),.sh (.int gX),.ow (dg (uK++[t])),.sh (.int k),c8',c9']) /\
   t.m=bD/\0<=t.a/\t.a<=t.b/\t.b<n/\bD+1<=gX/\gX<=bD+Z28:=by
 obtain⟨a,b,e,a0,a1,b0,b1⟩:=Dl n hn hn2 (at' ns 3 % 4) (at' ns (4+3*k)) (at' ns (5+3*k));have i3:=fk ns 3 (by decide) (by lia);have i4:=fk ns (4+3*k) (by lia) (by lia);have i5:=fk ns (5+3*k) (by lia) (by lia);have i6:=fk ns (6+3*k) (by lia) (by lia);have mw:=bJ (at' ns (6+3*k)) wide hw;have w0:(0<wide)=True:=by simp only[eq_iff_iff,iff_true];lia
 have z3:(3<=SZ)=True:=by simp[SZ]
 have za:((uK.map eE).length<SZ)=True:=by simp only[eq_iff_iff,iff_true,Fw];unfold SZ;lia
 refine⟨⟨bD,if b<a then b else a,if b>a then b else a⟩,bD+1+at' ns (6+3*k) % wide,.sh (.int a),.sh (.int b),?_,rfl,?_,?_,?_,by lia,by lia⟩
 ·unfold mh dg;simp(config:={ decide:=true }) only[i3,i4,i5,i6,e,w0,z3,za,Dm.fn,Dm.aj,Dm.sA,Dm.sR,Dm.sU,Dm.sIf,Dm.sNx,Dm.cB,Dm.b9,Dm.e1,Dm.e2,Dm.eB,Dm.eAs,Dm.eC,Dm.eV,Dm.bV,Dm.bf,Dm.eF,Dm.eIf,Dm.bO,Dm.cI,Dm.tV,Dm.aV,Dm.b8,Dm.tOr,Dm.aO,Dm.pk,Dm.tk,Dm.pks,Dm.tks,RV.aH,RV.dat,Dm.aP,Dm.aL,Dm.cj,Dm.bu,Dm.bC,Dm.aJ,Dm.b4,Dm.gLt,Dm.gLe,Dm.gGt,Dm.gGe,Dm.cU,Dm.aS,Dm.bP,Dm.bg,Dm.bA,Dm.bB,Dm.isI,Dm.isB,Dm.isL,Dm.isT,Dm.vB,Dm.vI,gV,F0,Dp,FL,Fo,Fz,eg,Dk,nC,FD,Fx,Fy,F6,if_true,if_false,F3,Dm.iR1,Dm.iR2,Dm.iS,Dm.bN,Dm.bT,Dm.sets,reduceIte,F2,Dm.aF,FO,FP,FZ,FW,true_or,or_true,true_and,and_true,decide_true,decide_false,false_or,or_false,false_and,and_false];simp[eE]
 ·dsimp only;split<;>lia
 ·dsimp only;split<;>split<;>lia
 ·dsimp only;split<;>lia
theorem qL(ns:List Int)(n many wide most:Int)(hn:1<=n)(hn2:n<=10)(hw:1<=wide)(hw2:wide<=Z28):∀(Kh:Nat) (k bD:Int) (uK:List Tie) (c7 c8 c9:Cell),0<=k->3+3*(k+Kh)<ns.length->uK.length+Kh<1000 ->
  ∃(r:List Tie) (gX:Int) (c7' c8' c9':Cell),dY (bN 7) mh (ups k Kh) [.sh (.lst (ns.map Dat.int)),.sh (.int most),.sh (.int n),.sh (.int many),.sh (.int wide),.sh (.int bD),.ow (dg uK),c7,c8,c9] =
   some (.nx [.sh (.lst (ns.map Dat.int)),.sh (.int most),.sh (.int n),.sh (.int many),.sh (.int wide),.sh (.int gX),.ow (dg (uK++r)),c7',c8',c9'])/\r.length=Kh/\Good n bD r/\∀t∈r,t.m<=bD+Kh*Z28
 |0,k,bD,uK,c7,c8,c9,hk,hl,ha=>⟨[],bD,c7,c8,c9,by rw[nV,dY,Gs],rfl,trivial,fun t ht=>by cases ht⟩
 |Kh+1,k,bD,uK,c7,c8,c9,hk,hl,ha=>by
  rw[nW,dY];have hb:bN 7 (.int k) [.sh (.lst (ns.map Dat.int)),.sh (.int most),.sh (.int n),.sh (.int many),.sh (.int wide),.sh (.int bD),.ow (dg uK),c7,c8,c9]=some [.sh (.lst (ns.map Dat.int)),.sh (.int most),.sh (.int n),.sh (.int many),.sh (.int wide),.sh (.int bD),.ow (dg uK),.sh (.int k),c8,c9]:=rfl;rw[hb];dsimp only;obtain⟨t,m1,d8,d9,e,tm,ta,tab,tb,l1,l2⟩:=x_ ns n many wide bD most k uK c8 c9 hn hn2 hw hw2 hk (by lia) (by lia);rw[e];dsimp only;obtain⟨r,m2,f7,f8,f9,e2,rl,rg,ru⟩:=qL ns n many wide most hn hn2 hw hw2 Kh (k+1) m1 (uK++[t]) (.sh (.int k)) d8 d9 (by lia) (by lia) (by simp;lia);refine⟨t::r,m2,f7,f8,f9,by rw[e2,GJ];rfl,by simp[rl],⟨by lia,ta,tab,tb,?_⟩,fun u hu=>?_⟩
  ·have mono:∀(r:List Tie) (a b:Int),a<=b->Good n b r->Good n a r:=fun r a b h g=>by
    cases r with
    |nil=>trivial
    |cons x y=>exact⟨Ic h g.1,g.2⟩
   exact mono r _ _ (by lia) rg
  ·rcases F9.mp hu with rfl | hu
   ·have:(0:Int)<=(Kh+1:Nat)*Z28:=by
     have:(0:Int)<=((Kh+1:Nat):Int):=by lia
     unfold Z28;lia
    lia
   ·have:=ru u hu;have e3:((Kh+1:Nat):Int)*Z28=Kh*Z28+Z28:=by unfold Z28;lia
    lia
theorem ix3(a b c:Dat)(x:Int)(h0:0<=x)(h:x<3):gIx (.lst [a,b,c]) (.int x)=some (.val (if x=0 then a else if x=1 then b else c)):=by
 have:x=0\/x=1\/x=2:=by lia
 rcases this with rfl | rfl | rfl<;>rfl
theorem stA(ns:List Int)(most:Int)(hl:10<=ns.length):∃n:Int,1<=n/\n<=10/\∀uL:FS,
  aj (sA 2 (e2 aL (eC (.int 1)) (e2 aJ (e2 gIx (eV 0) (eC (.int 0))) (eC (.int 6)))))
  (aj (sIf (tV (e2 gEq (e2 aJ (e2 bC (e2 gIx (eV 0) (eC (.int 0))) (eC (.int 6))) (eC (.int 8))) (eC (.int 1)))) (sA 2 (e2 aL (eC (.int 7)) (e2 aJ (e2 bC (e2 gIx (eV 0) (eC (.int 0))) (eC (.int 48))) (eC (.int 4))))) sNx) uL)
   [.sh (.lst (ns.map Dat.int)),.sh (.int most),.un,.un,.un,.un,.un,.un,.un,.un]=uL [.sh (.lst (ns.map Dat.int)),.sh (.int most),.sh (.int n),.un,.un,.un,.un,.un,.un,.un]:=by
 have i0:=fk ns 0 (by decide) (by lia);have m6:=bJ (at' ns 0) 6 (by decide);have m4:=bJ (at' ns 0 / 48) 4 (by decide);have c6:(0<(6:Int)/\(6:Int)<dZ)=True:=by simp[dZ]
 have c48:(0<(48:Int)/\(48:Int)<dZ)=True:=by simp[dZ]
 by_cases c:at' ns 0 / 6 % 8=1
 ·refine⟨7+at' ns 0 / 48 % 4,by lia,by lia,fun uL=>?_⟩;have c':(at' ns 0 / 6 % 8=1)=True:=by simp[c]
  simp(config:={ decide:=true }) only[i0,c6,c48,eq_int,c',Dm.fn,Dm.aj,Dm.sA,Dm.sR,Dm.sU,Dm.sIf,Dm.sNx,Dm.cB,Dm.b9,Dm.e1,Dm.e2,Dm.eB,Dm.eAs,Dm.eC,Dm.eV,Dm.bV,Dm.bf,Dm.eF,Dm.eIf,Dm.bO,Dm.cI,Dm.tV,Dm.aV,Dm.b8,Dm.tOr,Dm.aO,Dm.pk,Dm.tk,Dm.pks,Dm.tks,RV.aH,RV.dat,Dm.aP,Dm.aL,Dm.cj,Dm.bu,Dm.bC,Dm.aJ,Dm.b4,Dm.gLt,Dm.gLe,Dm.gGt,Dm.gGe,Dm.cU,Dm.aS,Dm.bP,Dm.bg,Dm.bA,Dm.bB,Dm.isI,Dm.isB,Dm.isL,Dm.isT,Dm.vB,Dm.vI,gV,F0,Dp,FL,Fo,Fz,eg,Dk,nC,FD,Fx,Fy,F6,if_true,if_false,F3,Dm.iR1,Dm.iR2,Dm.iS,Dm.bN,Dm.bT,Dm.sets,reduceIte,F2,Dm.aF,FO,FP,FZ,FW,true_or,or_true,true_and,and_true,decide_true,decide_false,false_or,or_false,false_and,and_false]
 ·refine⟨1+at' ns 0 % 6,by lia,by lia,fun uL=>?_⟩;have c':(at' ns 0 / 6 % 8=1)=False:=by simp[c]
  simp(config:={ decide:=true }) only[i0,c6,c48,eq_int,c',Dm.fn,Dm.aj,Dm.sA,Dm.sR,Dm.sU,Dm.sIf,Dm.sNx,Dm.cB,Dm.b9,Dm.e1,Dm.e2,Dm.eB,Dm.eAs,Dm.eC,Dm.eV,Dm.bV,Dm.bf,Dm.eF,Dm.eIf,Dm.bO,Dm.cI,Dm.tV,Dm.aV,Dm.b8,Dm.tOr,Dm.aO,Dm.pk,Dm.tk,Dm.pks,Dm.tks,RV.aH,RV.dat,Dm.aP,Dm.aL,Dm.cj,Dm.bu,Dm.bC,Dm.aJ,Dm.b4,Dm.gLt,Dm.gLe,Dm.gGt,Dm.gGe,Dm.cU,Dm.aS,Dm.bP,Dm.bg,Dm.bA,Dm.bB,Dm.isI,Dm.isB,Dm.isL,Dm.isT,Dm.vB,Dm.vI,gV,F0,Dp,FL,Fo,Fz,eg,Dk,nC,FD,Fx,Fy,F6,if_true,if_false,F3,Dm.iR1,Dm.iR2,Dm.iS,Dm.bN,Dm.bT,Dm.sets,reduceIte,F2,Dm.aF,FO,FP,FZ,FW,true_or,or_true,true_and,and_true,decide_true,decide_false,false_or,or_false,false_and,and_false]
theorem stB(ns:List Int)(most n:Int)(hl:10<=ns.length):∃many:Int,0<=many/\many<=60/\∀uL:FS,
  aj (sA 3 (e2 aJ (e2 gIx (eV 0) (eC (.int 1))) (eC (.int 13))))
  (aj (sIf (tV (e2 gEq (e2 aJ (e2 bC (e2 gIx (eV 0) (eC (.int 1))) (eC (.int 13))) (eC (.int 8))) (eC (.int 1)))) (sA 3 (e2 aL (eC (.int 13)) (e2 aJ (e2 bC (e2 gIx (eV 0) (eC (.int 1))) (eC (.int 104))) (eC (.int 48))))) sNx) uL)
   [.sh (.lst (ns.map Dat.int)),.sh (.int most),.sh (.int n),.un,.un,.un,.un,.un,.un,.un]=uL [.sh (.lst (ns.map Dat.int)),.sh (.int most),.sh (.int n),.sh (.int many),.un,.un,.un,.un,.un,.un]:=by
 have i0:=fk ns 1 (by decide) (by lia);have m6:=bJ (at' ns 1) 13 (by decide);have m4:=bJ (at' ns 1 / 104) 48 (by decide);have c6:(0<(13:Int)/\(13:Int)<dZ)=True:=by simp[dZ]
 have c48:(0<(104:Int)/\(104:Int)<dZ)=True:=by simp[dZ]
 by_cases c:at' ns 1 / 13 % 8=1
 ·refine⟨13+at' ns 1 / 104 % 48,by lia,by lia,fun uL=>?_⟩;have c':(at' ns 1 / 13 % 8=1)=True:=by simp[c]
  simp(config:={ decide:=true }) only[i0,c6,c48,eq_int,c',Dm.fn,Dm.aj,Dm.sA,Dm.sR,Dm.sU,Dm.sIf,Dm.sNx,Dm.cB,Dm.b9,Dm.e1,Dm.e2,Dm.eB,Dm.eAs,Dm.eC,Dm.eV,Dm.bV,Dm.bf,Dm.eF,Dm.eIf,Dm.bO,Dm.cI,Dm.tV,Dm.aV,Dm.b8,Dm.tOr,Dm.aO,Dm.pk,Dm.tk,Dm.pks,Dm.tks,RV.aH,RV.dat,Dm.aP,Dm.aL,Dm.cj,Dm.bu,Dm.bC,Dm.aJ,Dm.b4,Dm.gLt,Dm.gLe,Dm.gGt,Dm.gGe,Dm.cU,Dm.aS,Dm.bP,Dm.bg,Dm.bA,Dm.bB,Dm.isI,Dm.isB,Dm.isL,Dm.isT,Dm.vB,Dm.vI,gV,F0,Dp,FL,Fo,Fz,eg,Dk,nC,FD,Fx,Fy,F6,if_true,if_false,F3,Dm.iR1,Dm.iR2,Dm.iS,Dm.bN,Dm.bT,Dm.sets,reduceIte,F2,Dm.aF,FO,FP,FZ,FW,true_or,or_true,true_and,and_true,decide_true,decide_false,false_or,or_false,false_and,and_false]
 ·refine⟨at' ns 1 % 13,by lia,by lia,fun uL=>?_⟩;have c':(at' ns 1 / 13 % 8=1)=False:=by simp[c]
  simp(config:={ decide:=true }) only[i0,c6,c48,eq_int,c',Dm.fn,Dm.aj,Dm.sA,Dm.sR,Dm.sU,Dm.sIf,Dm.sNx,Dm.cB,Dm.b9,Dm.e1,Dm.e2,Dm.eB,Dm.eAs,Dm.eC,Dm.eV,Dm.bV,Dm.bf,Dm.eF,Dm.eIf,Dm.bO,Dm.cI,Dm.tV,Dm.aV,Dm.b8,Dm.tOr,Dm.aO,Dm.pk,Dm.tk,Dm.pks,Dm.tks,RV.aH,RV.dat,Dm.aP,Dm.aL,Dm.cj,Dm.bu,Dm.bC,Dm.aJ,Dm.b4,Dm.gLt,Dm.gLe,Dm.gGt,Dm.gGe,Dm.cU,Dm.aS,Dm.bP,Dm.bg,Dm.bA,Dm.bB,Dm.isI,Dm.isB,Dm.isL,Dm.isT,Dm.vB,Dm.vI,gV,F0,Dp,FL,Fo,Fz,eg,Dk,nC,FD,Fx,Fy,F6,if_true,if_false,F3,Dm.iR1,Dm.iR2,Dm.iS,Dm.bN,Dm.bT,Dm.sets,reduceIte,F2,Dm.aF,FO,FP,FZ,FW,true_or,or_true,true_and,and_true,decide_true,decide_false,false_or,or_false,false_and,and_false]
theorem stC(ns:List Int)(most n many:Int)(hl:10<=ns.length):∃wide bD:Int,1<=wide/\wide<=Z28/\0<=bD/\bD<=100000000000000000000000000000/\∀uL:FS,
  aj (sA 4 (e2 gIx (bf [(eC (.int 1)),(eC (.int 4)),(e2 b4 (eC (.int 10)) (eC (.int 28)))]) (e2 aJ (e2 gIx (eV 0) (eC (.int 2))) (eC (.int 3)))))
  (aj (sA 5 (e2 gIx (bf [(eC (.int 0)),(e2 aJ (e2 bC (e2 gIx (eV 0) (eC (.int 2))) (eC (.int 12))) (eC (.int 100))),(e2 aJ (e2 gIx (eV 0) (eC (.int 3))) (e2 b4 (eC (.int 10)) (eC (.int 29))))]) (e2 aJ (e2 bC (e2 gIx (eV 0) (eC (.int 2))) (eC (.int 3))) (eC (.int 3)))))
  (aj (sA 6 (bf [])) uL))
   [.sh (.lst (ns.map Dat.int)),.sh (.int most),.sh (.int n),.sh (.int many),.un,.un,.un,.un,.un,.un]=uL [.sh (.lst (ns.map Dat.int)),.sh (.int most),.sh (.int n),.sh (.int many),.sh (.int wide),.sh (.int bD),.ow (dg []),.un,.un,.un]:=by
 have i2:=fk ns 2 (by decide) (by lia);have i3:=fk ns 3 (by decide) (by lia);have q1:=bJ (at' ns 2) 3 (by decide);have q2:=bJ (at' ns 2 / 3) 3 (by decide);have q3:=bJ (at' ns 2 / 12) 100 (by decide);have q4:=bJ (at' ns 3) 100000000000000000000000000000 (by decide);have c12:(0<(12:Int)/\(12:Int)<dZ)=True:=by simp[dZ]
 have c3:(0<(3:Int)/\(3:Int)<dZ)=True:=by simp[dZ]
 have p28:(10:Int) ^ (28:Int).toNat=Z28:=by decide
 have p29:(10:Int) ^ (29:Int).toNat=100000000000000000000000000000:=by decide
 have z3:(3<=SZ)=True:=by simp[SZ]
 have z0:(0<=SZ)=True:=by simp
 have p0:(0<(100000000000000000000000000000:Int))=True:=by simp
 have w:∃wide:Int,(1<=wide/\wide<=Z28)/\(if at' ns 2 % 3=0 then Dat.int 1 else if at' ns 2 % 3=1 then Dat.int 4 else Dat.int Z28)=.int wide:=by
  split
  ·exact⟨1,by decide,rfl⟩
  ·split
   ·exact⟨4,by decide,rfl⟩
   ·exact⟨Z28,by decide,rfl⟩
 have m:∃mo:Int,(0<=mo/\mo<=100000000000000000000000000000)/\(if at' ns 2 / 3 % 3=0 then Dat.int 0 else if at' ns 2 / 3 % 3=1 then Dat.int (at' ns 2 / 12 % 100) else Dat.int (at' ns 3 % 100000000000000000000000000000))=.int mo:=by
  split
  ·exact⟨0,by decide,rfl⟩
  ·split
   ·exact⟨_,⟨q3.1,by lia⟩,rfl⟩
   ·exact⟨_,⟨q4.1,by lia⟩,rfl⟩
 obtain⟨wide,hw,ew⟩:=w;obtain⟨mo,hm,em⟩:=m;refine⟨wide,mo,hw.1,hw.2,hm.1,hm.2,fun uL=>?_⟩;have g1:=ix3 (.int 1) (.int 4) (.int Z28) (at' ns 2 % 3) q1.1 q1.2;have g2:=ix3 (.int 0) (.int (at' ns 2 / 12 % 100)) (.int (at' ns 3 % 100000000000000000000000000000)) (at' ns 2 / 3 % 3) q2.1 q2.2;rw[ew]at g1;rw[em]at g2;unfold dg;simp(config:={ decide:=true }) only[i2,i3,c12,c3,p28,p29,z3,z0,p0,g1,g2,Dm.fn,Dm.aj,Dm.sA,Dm.sR,Dm.sU,Dm.sIf,Dm.sNx,Dm.cB,Dm.b9,Dm.e1,Dm.e2,Dm.eB,Dm.eAs,Dm.eC,Dm.eV,Dm.bV,Dm.bf,Dm.eF,Dm.eIf,Dm.bO,Dm.cI,Dm.tV,Dm.aV,Dm.b8,Dm.tOr,Dm.aO,Dm.pk,Dm.tk,Dm.pks,Dm.tks,RV.aH,RV.dat,Dm.aP,Dm.aL,Dm.cj,Dm.bu,Dm.bC,Dm.aJ,Dm.b4,Dm.gLt,Dm.gLe,Dm.gGt,Dm.gGe,Dm.cU,Dm.aS,Dm.bP,Dm.bg,Dm.bA,Dm.bB,Dm.isI,Dm.isB,Dm.isL,Dm.isT,Dm.vB,Dm.vI,gV,F0,Dp,FL,Fo,Fz,eg,Dk,nC,FD,Fx,Fy,F6,if_true,if_false,F3,Dm.iR1,Dm.iR2,Dm.iS,Dm.bN,Dm.bT,Dm.sets,reduceIte,F2,Dm.aF,FO,FP,FZ,FW,true_or,or_true,true_and,and_true,decide_true,decide_false,false_or,or_false,false_and,and_false]
noncomputable abbrev Hi:Int:=700000000000000000000000000000
noncomputable def Dq:Option Out->Option RV
 |some (.ret r _)=>some r
 |some (.nx _)=>some (.val .non)
 |_=>none
theorem Dr{n m:Nat}{body:FS}(h:ds.length=n)(hρ:ds.map Cell.sh++eg m .un=ρ):fn n m body ds=Dq (body ρ):=by unfold fn;rw[if_pos h,hρ];rfl
theorem r9(ns:List Int)(most:Int)(hl:10<=ns.length)(hl2:ns.length<=1000)(h0:0<=most)(h60:most<=60) :
  ∃(n:Int) (r:List Tie),qG [.lst (ns.map Dat.int),.int most]=some (.val (.tup [.int n,dg r]))/\1<=n/\n<=10/\Good n 0 r/\(∀t∈r,t.m<=Hi)/\(r.length:Int)<=most:=by
 obtain⟨n,n1,n2,eA⟩:=stA ns most hl;obtain⟨many,a1,a2,eB'⟩:=stB ns most n hl;obtain⟨wide,mo,w1,w2,m1,m2,eC'⟩:=stC ns most n many hl;have c3:(0<(3:Int)/\(3:Int)<dZ)=True:=by simp[dZ]
 have cn:∃Kh:Nat,(if most<many then (if ((ns.length:Int)-4) / 3<most then ((ns.length:Int)-4) / 3 else most) else (if ((ns.length:Int)-4) / 3<many then ((ns.length:Int)-4) / 3 else many))=(Kh:Int)/\(Kh:Int)<=most/\3+3*(Kh:Int)<ns.length:=by
  refine⟨(if most<many then (if ((ns.length:Int)-4) / 3<most then ((ns.length:Int)-4) / 3 else most) else (if ((ns.length:Int)-4) / 3<many then ((ns.length:Int)-4) / 3 else many)).toNat,?_,?_,?_⟩
  ·split<;>split<;>lia
  ·split<;>split<;>lia
  ·split<;>split<;>lia
 obtain⟨Kh,ec,cm,cl⟩:=cn;obtain⟨r,mo',c7,c8,c9,e,rl,rg,ru⟩:=qL ns n many wide most n1 n2 w1 w2 Kh 0 mo [] .un .un .un (by decide) (by lia) (by simp;lia);refine⟨n,r,?_,n1,n2,?_,fun t ht=>?_,by lia⟩
 ·unfold qG;refine(Dr (ρ:=[.sh (.lst (ns.map Dat.int)),.sh (.int most),.un,.un,.un,.un,.un,.un,.un,.un]) (by rfl) (by rfl)).trans ?_;rw[eA,eB',eC'];have hb:((Kh:Int)<=BIG/\-BIG<=(Kh:Int))=True:=by simp only[eq_iff_iff,iff_true];unfold BIG;lia
  have z2:(2<=SZ)=True:=by simp[SZ]
  rw[Fo]at e;simp(config:={ decide:=true }) only[Fw,c3,ec,hb,Int.toNat_natCast,e,z2,Dq,Dm.fn,Dm.aj,Dm.sA,Dm.sR,Dm.sU,Dm.sIf,Dm.sNx,Dm.cB,Dm.b9,Dm.e1,Dm.e2,Dm.eB,Dm.eAs,Dm.eC,Dm.eV,Dm.bV,Dm.bf,Dm.eF,Dm.eIf,Dm.bO,Dm.cI,Dm.tV,Dm.aV,Dm.b8,Dm.tOr,Dm.aO,Dm.pk,Dm.tk,Dm.pks,Dm.tks,RV.aH,RV.dat,Dm.aP,Dm.aL,Dm.cj,Dm.bu,Dm.bC,Dm.aJ,Dm.b4,Dm.gLt,Dm.gLe,Dm.gGt,Dm.gGe,Dm.cU,Dm.aS,Dm.bP,Dm.bg,Dm.bA,Dm.bB,Dm.isI,Dm.isB,Dm.isL,Dm.isT,Dm.vB,Dm.vI,gV,F0,Dp,FL,Fo,Fz,eg,Dk,nC,FD,Fx,Fy,F6,if_true,if_false,F3,Dm.iR1,Dm.iR2,Dm.iS,Dm.bN,Dm.bT,Dm.sets,reduceIte,F2,Dm.aF,FO,FP,FZ,FW,true_or,or_true,true_and,and_true,decide_true,decide_false,false_or,or_false,false_and,and_false]
 ·have mono:∀(r:List Tie) (a b:Int),a<=b->Good n b r->Good n a r:=fun r a b h g=>by
   cases r with
   |nil=>trivial
   |cons x y=>exact⟨Ic h g.1,g.2⟩
  exact mono r _ _ m1 rg
 ·have:=ru t ht;have h1:(Kh:Int)*Z28<=60*Z28:=by unfold Z28;lia
  have:(60:Int)*Z28=600000000000000000000000000000:=by decide
  show t.m<=700000000000000000000000000000
  lia
noncomputable def cQ:Option Nat->Dat
 |none=>.non
 |some v=>.int v
noncomputable def rdN(w:List Nat):Option Nat:=if (1<=w.length/\w.length<=60)/\w.all bZ=true/\¬(w.head?=some 48/\w≠[48]) then some (dQ w) else none
def asc(w:List Nat):Prop:=w.all (fun c=>decide (c<128))=true/\w.length<=20000
theorem mj(h:asc w)(k:Nat):okD k (.str w)=true:=by cases k<;>exact h.1
theorem eq_str(ha:asc a)(hb:asc b):gEq (.str a) (.str b)=vB (decide (a=b)):=by unfold gEq;rw[mj ha,mj hb];show vB (eqD (.str a) (.str b))=_;rw[eqD,show (a == b)=decide (a=b) by rw[G8];simp]
theorem ne_str(ha:asc a)(hb:asc b):gNe (.str a) (.str b)=vB (!decide (a=b)):=by unfold gNe;rw[mj ha,mj hb];show vB (!eqD (.str a) (.str b))=_;rw[eqD,show (a == b)=decide (a=b) by rw[G8];simp]
theorem Jj(ha:asc a)(hb:asc b)(k:K (.val (.bl (decide (a=b)))))(ho:o=some (.str a))(hp:p=some (.str b)):Wg2 gEq o p K:=⟨_,_,_,ho,hp,eq_str ha hb,k⟩
theorem JJ(ha:asc a)(hb:asc b)(k:K (.val (.bl (!decide (a=b)))))(ho:o=some (.str a))(hp:p=some (.str b)):Wg2 gNe o p K:=⟨_,_,_,ho,hp,ne_str ha hb,k⟩
theorem ya(h:w.all bZ=true)(hl:w.length<=20000):asc w:=⟨by rw[FF]at h ⊢;intro c hc;have:=(bS c).mp (h c hc);exact decide_eq_true (by lia),hl⟩
theorem jf(h:asc b)(s:∀c∈a,c∈b)(l:a.length<=b.length):asc a:=⟨by have:=h.1;rw[FF]at this ⊢;exact fun c hc=>this c (s c hc),FQ l h.2⟩
theorem uS{n:Nat}{k:Int}(h0:0<=k)(h1:k<n):ixN n k=some k.toNat:=by unfold ixN;rw[if_pos h0,if_pos h1]
theorem ly{g:Int}{e:FE}(he:e ρ=some (.val (.int w.length),ρ))(hg:g=60):aF gLe gLe (eC (.int 1)) e (eC (.int g)) ρ=some (.val (.bl (decide (1<=w.length/\w.length<=60))),ρ):=by
 subst hg;unfold aF;simp only[eC,he,pk,gLe];by_cases h1:1<=w.length
 ·have e1:decide ((1:Int)<=(w.length:Int))=true:=decide_eq_true (by lia);simp only[e1];by_cases h2:w.length<=60
  ·have e2:decide ((w.length:Int)<=60)=true:=decide_eq_true (by lia);rw[decide_eq_true (show 1<=w.length/\w.length<=60 from ⟨h1,h2⟩)];simp[e2];rfl
  ·have e2:decide ((w.length:Int)<=60)=false:=decide_eq_false (by lia);rw[decide_eq_false (show ¬(1<=w.length/\w.length<=60) from fun z=>h2 z.2)];simp[e2];rfl
 ·have e1:decide ((1:Int)<=(w.length:Int))=false:=decide_eq_false (by lia);rw[decide_eq_false (show ¬(1<=w.length/\w.length<=60) from fun z=>h1 z.1)];simp[e1]
theorem qM(hw:asc w){i:Nat}(h:ρ[i]?=some (.sh (.str w))):eB fV [(eV i)] ρ=some (.val (.int w.length),ρ):=by have z:w.length<=SZ:=FQ hw.2 (by decide);unfold eB eAs eV;simp only[h];unfold eAs;simp only[pks,pk];unfold fV;simp[z,RV.aH]
theorem cY(hw:asc w):r8 [.str w]=some (.val (cQ (rdN w))):=by
 have hz:w.length<=SZ:=FQ hw.2 (by decide);apply IU;unfold r8
 (refine Dm.IT ?_ rfl rfl;and_intros)
 refine ID (IM (Jb (IZ (IG ⟨_,_,ly (qM hw rfl) rfl,IE ?_⟩))));unfold rdN;by_cases h1:1<=w.length/\w.length<=60
 rotate_left
 ·rw[decide_eq_false h1,if_neg fun z=>h1 z.1];exact Je (Je (IF (H_ rfl)))
 rw[decide_eq_true h1];refine IW ?_;refine IZ (IG (IY (m_ (Jy (fun c:Nat=>Dat.str [c]) w (fun c=>bZ c) Dat.bl (ρ1:=[.sh (.str w)]) ?_ ?_ rfl (by decide) hz fun c _=>?_))))
 rotate_left
 ·apply Jm;exact J2 (G_ rfl ⟨w,rfl,hw.1,rfl,rfl⟩)
 ·refine F_ (G_ rfl (H_ (J3 (c:=c) ?_ rfl rfl)));rw[uN];exact IX ⟨rfl,rfl⟩
 refine IC (JF bZ (xs:=w) ?_ (by rw[GP];rfl));cases hf:w.all bZ with
 |false=>refine IE (Je (IF (H_ ?_)));rw[if_neg (by rintro⟨_,z,_⟩;cases z)];rfl
 |true=>
  refine IE (IW (IL ?_));cases w with
  |nil=>exact absurd h1.1 (by simp)
  |cons c r=>
   have a1:asc [c]:=jf hw (fun x hx=>by rw[Gg.mp hx];exact Fq) (by simp);have a48:asc [48]:=⟨by decide,by decide⟩
   refine ID (IM (JS (IG (F_ (F_ (G_ rfl (H_ (JL (m:=0) (c:=c) ?_ rfl rfl hz (uS (by lia) (by simp)) rfl))))))));refine H_ (Jj a1 a48 (IE ?_) rfl rfl);have Ke:¬((c::r).head?=some 48/\(c::r:List Nat)≠[48])->Ws (sR (eB gT [eV 0])) [.sh (.str (c::r))] (fun _=>RV.val Dat.non=RV.val (cQ (if (1<=(c::r).length/\(c::r).length<=60)/\true=true/\¬((c::r).head?=some 48/\(c::r:List Nat)≠[48]) then some (dQ (c::r)) else none))) (fun v _=>v=RV.val (cQ (if (1<=(c::r).length/\(c::r).length<=60)/\true=true/\¬((c::r).head?=some 48/\(c::r:List Nat)≠[48]) then some (dQ (c::r)) else none))) (fun _=>False) (fun _=>False):=fun hn=>by rw[if_pos ⟨h1,rfl,hn⟩];exact IF (IY (m_ (G_ rfl (IC (JP rfl rfl ⟨by simp,hf,by lia⟩)))))
   by_cases e:c=48
   ·subst e;rw[decide_eq_true rfl];refine II rfl ?_;refine IG (F_ (G_ rfl (H_ (JJ hw a48 (IE ?_) rfl rfl))));by_cases e2:(48::r:List Nat)=[48]
    ·rw[decide_eq_true e2];exact IQ rfl (IL (Ke fun z=>z.2 e2))
    ·rw[decide_eq_false e2];refine II rfl (IF (H_ ?_));rw[if_neg fun z=>z.2.2 ⟨rfl,e2⟩];rfl
   ·have:decide ([c]=[48])=false:=decide_eq_false fun z=>e (by injection z);rw[this];exact IQ rfl (IQ rfl (IL (Ke fun z=>e (by injection z.1))))
theorem JC{v:Nat}{o:Option (List Dat)}(k:K (.val (.str (aY v))))(ho:o=some [.int (v:Nat)])(h:v<10 ^ 60):WB eW o K:=⟨_,_,ho,by
 unfold eW;dsimp only;rw [if_pos (by
  have:(10:Nat) ^ 60<10 ^ 100:=by decide
  show v<_
  lia),rX],k⟩
theorem uT{v k:Nat}(hk:1<=k)(h:v<10 ^ k)(k2:k<=600):asc (aY v):=ya (dR v) (FQ (bR hk h) (by lia))
theorem dI(hw:asc w):lu [.str w]=some (.val (cQ (rdN w))):=by
 have hz:w.length<=SZ:=FQ hw.2 (by decide);apply IU;unfold lu
 (refine Dm.IT ?_ rfl rfl;and_intros)
 refine ID (IM (IZ (IG ⟨_,_,ly (qM hw rfl) rfl,IE ?_⟩)));unfold rdN;by_cases h1:1<=w.length/\w.length<=60
 rotate_left
 ·rw[decide_eq_false h1,if_neg fun z=>h1 z.1];exact Je (IF (H_ rfl))
 rw[decide_eq_true h1];refine IW (IL ?_);refine ID (Jw (J2 (G_ rfl ⟨w,rfl,hw.1,?_⟩)));refine JH (fun c:Nat=>Dat.str [c]) _ _ w _ _ _ _ _ (fun p q ρ=>∃c1:Cell,ρ=[.sh (.str w),c1]/\p.all bZ=true) ⟨_,rfl,rfl⟩ ?_ ?_
 ·rintro p x q ρ e ⟨c1,rfl,hp⟩;refine Dm.l8 rfl (by trivial) ?_;unfold uP;refine IM (IG (F_ (G_ rfl (H_ (J_ (c:=x) (IE ?_) rfl rfl)))));rw[uN];cases hx:bZ x with
  |true=>exact IQ rfl (IL ⟨_,rfl,by rw[HE,hp];simp[hx]⟩)
  |false=>
   refine II rfl (IF (H_ ?_));rw[if_neg]
   ·rfl
   ·rintro⟨_,z,_⟩;rw[e,HE,GQ,hx]at z;simp at z
 rintro ρ ⟨c1,rfl,hf⟩;have Kn:w≠[]:=by intro z;rw[z]at h1;simp at h1
 have hv:dQ w<10 ^ 60:=FJ (xW hf) (Nat.pow_le_pow_right (by decide) h1.2);refine ID (IM (IG (F_ (IY (m_ (IY (m_ (G_ rfl (IC (JP ?_ rfl ⟨Kn,hf,by lia⟩))))))))));refine IC (JC ?_ rfl hv);refine G_ rfl (JJ (uT (by decide) hv (by decide)) hw (IE ?_) rfl rfl);by_cases hzr:w.head?=some 48/\w≠[48]
 ·have:aY (dQ w)≠w:=fun z=>hzr.2 (by
   have:=lg (v:=dQ w) (by rw[z];exact hzr.1);rw[z]at this;exact this)
  rw[decide_eq_false this,if_neg fun z=>z.2.2 hzr];exact II rfl (IF (H_ rfl))
 ·rw[decide_eq_true (xV Kn hf hzr),if_pos ⟨h1,hf,hzr⟩];exact IQ rfl (IL (IF (IY (m_ (G_ rfl (IC (JP rfl rfl ⟨Kn,hf,by lia⟩)))))))
theorem gY(c:Nat):∀w:List Nat,(∀x∈(ao c w).1,x∈w)/\(ao c w).1.length<=w.length/\(∀x∈(ao c w).2.2,x∈w)/\(ao c w).2.2.length<=w.length/\((ao c w).2.1=[]->(ao c w).2.2=[])
 |[]=>⟨fun x h=>h,Ft _,fun x h=>h,Ft _,fun _=>rfl⟩
 |y::r=>by
  obtain⟨h1,h2,h3,h4,h5⟩:=gY c r;rw[ao];split
  ·exact⟨fun x h=>(by cases h),Gb _,fun x h=>Fv _ h,Nat.le_succ _,fun z=>by cases z⟩
  ·refine⟨fun x h=>?_,by simp;lia,fun x h=>Fv _ (h3 x h),by simp;lia,h5⟩;rcases F9.mp h with rfl | h
   ·exact Fq
   ·exact Fv _ (h1 x h)
theorem gZ(c:Nat)(h:asc w):asc (ao c w).1/\asc (ao c w).2.2:=by obtain⟨h1,h2,h3,h4,_⟩:=gY c w;exact⟨jf h h1 h2,jf h h3 h4⟩
theorem qN{c:Nat}(hc:c<128)(h:asc w):asc (ao c w).2.1:=by
 have:(ao c w).2.1=[]\/(ao c w).2.1=[c]:=by
  clear h
  induction w with
  |nil=>exact .inl rfl
  |cons x r ih=>
   rw[ao];split
   ·exact .inr rfl
   ·exact ih
 rcases this with e | e<;>rw[e]
 ·exact⟨by decide,by decide⟩
 ·exact⟨by simp[hc],by simp⟩
noncomputable def n3(w:List Nat):Option Nat×Option Nat×Option Nat:=(rdN (ao 58 w).1,rdN (ao 45 (ao 58 w).2.2).1,rdN (ao 45 (ao 58 w).2.2).2.2)
noncomputable def n3D(w:List Nat):Dat:=.tup [cQ (n3 w).1,cQ (n3 w).2.1,cQ (n3 w).2.2]
theorem g4(h:asc w)(c:Nat):gU w (.str [c])=some (.val (.tup [.str (ao c w).1,.str (ao c w).2.1,.str (ao c w).2.2])):=by unfold gU;dsimp only;rw[if_pos (FQ h.2 (by decide))]
theorem fN(o:Option Nat):aP (cQ o)=false:=by cases o<;>rfl
theorem nY(hw:asc w):qC [.str w]=some (.val (n3D w)):=by
 obtain⟨a1,a2⟩:=gZ 58 hw;obtain⟨b1,b2⟩:=gZ 45 a2;apply IU;unfold qC
 (refine Dm.IT ?_ rfl rfl;and_intros)
 refine ID (IV (Jh (G_ rfl ⟨w,rfl,H_ ⟨_,_,rfl,g4 hw 58,?_⟩⟩)) (by decide));refine I0 ?_ (by trivial);refine ID (IV (Jh (F_ (G_ rfl (H_ (IK (v:=.str (ao 58 w).2.2) ⟨_,rfl,H_ ⟨_,_,rfl,g4 a2 45,?_⟩⟩ rfl rfl rfl))))) (by decide));refine I0 ?_ (by trivial);refine IF (JZ (m_ (IP (m_ (F_ (G_ rfl (H_ (IK (v:=.str (ao 58 w).1) ?_ rfl rfl rfl))))))));refine IC (IJ (cY a1) ?_ rfl (fN _));refine m_ (IP (m_ (F_ (G_ rfl (H_ (IK (v:=.str (ao 45 (ao 58 w).2.2).1) ?_ rfl rfl rfl))))));refine IC (IJ (cY b1) ?_ rfl (fN _));refine m_ (IP (m_ (F_ (G_ rfl (H_ (IK (v:=.str (ao 45 (ao 58 w).2.2).2.2) ?_ rfl rfl rfl))))));refine IC (IJ (cY b2) ?_ rfl (fN _));exact IC (Jf rfl rfl rfl (by exact GH rfl))
noncomputable def aI(n:Int)(w:List Nat):Option Tie:=match n3 w with
 |(some m,some a,some b)=>if (m:Int)<=Z30/\a<=b/\(b:Int)<n then some ⟨m,a,b⟩ else none
 |_=>none
noncomputable def jL:Option Tie->Dat
 |none=>.non
 |some t=>eE t
theorem pG(k:Nat)(o:Option Nat):okD k (cQ o)=true:=by cases o<;>cases k<;>rfl
theorem A4(a b c:Option Nat)(k:K (.val (.bl (a.isNone||(b.isNone||c.isNone)))))(ho:o=some .non)(hp:p=some (.tup [cQ a,cQ b,cQ c])):Wg2 gIn o p K:=by
 refine⟨_,_,_,ho,hp,?_,k⟩;unfold gIn;dsimp only;have h:([cQ a,cQ b,cQ c].all (okD 7))=true:=by rw[GQ,GQ,GQ,pG,pG,pG];rfl
 rw[h];show vB (inD .non [cQ a,cQ b,cQ c])=_;cases a<;>cases b<;>cases c<;>rfl
theorem pH(k:K (.val (.int Z30)))(ho:o=some (.int 10))(hp:p=some (.int 30)):Wg2 b4 o p K:=⟨_,_,_,ho,hp,rfl,k⟩
theorem pI(hw:asc w):qI [.int n,.str w]=some (.val (jL (aI n w))):=by
 obtain⟨a1,a2⟩:=gZ 58 hw;obtain⟨b1,b2⟩:=gZ 45 a2;have m1:=qN (c:=58) (by decide) hw;have m2:=qN (c:=45) (by decide) a2;have e0:asc []:=⟨by decide,by decide⟩
 apply IU;unfold qI
 (refine Dm.IT ?_ rfl rfl;and_intros)
 refine ID (JN (Jh (G_ rfl ⟨w,rfl,H_ ⟨_,_,rfl,g4 hw 58,?_⟩⟩)));refine IX ⟨_,_,rfl,rfl,?_⟩;refine ID (JN (Jh (G_ rfl ⟨_,rfl,H_ ⟨_,_,rfl,g4 a2 45,?_⟩⟩)));refine IX ⟨_,_,rfl,rfl,?_⟩;refine ID (IV (JZ (m_ (IP (m_ (G_ rfl (IC (IJ (dI a1) ?_ rfl (fN _)))))))) (by decide));refine m_ (IP (m_ (G_ rfl (IC (IJ (dI b1) ?_ rfl (fN _))))));refine m_ (IP (m_ (G_ rfl (IC (IJ (dI b2) ?_ rfl (fN _))))));refine IC (Jf ?_ rfl rfl (by exact GH rfl));refine I0 ?_ (by trivial);obtain⟨_,_,_,_,s1⟩:=gY 58 w;obtain⟨_,_,_,_,s2⟩:=gY 45 (ao 58 w).2.2;unfold aI n3;refine ID (IM (Jb (IG (F_ (H_ (G_ rfl (A4 (rdN (ao 58 w).1) (rdN (ao 45 (ao 58 w).2.2).1) (rdN (ao 45 (ao 58 w).2.2).2.2) (IE ?_) rfl rfl)))))));cases h1:rdN (ao 58 w).1 with
 |none=>exact II rfl (II rfl (IF (H_ rfl)))
 |some m=>
  cases h2:rdN (ao 45 (ao 58 w).2.2).1 with
  |none=>exact II rfl (II rfl (IF (H_ rfl)))
  |some a=>
   cases h3:rdN (ao 45 (ao 58 w).2.2).2.2 with
   |none=>exact II rfl (II rfl (IF (H_ rfl)))
   |some b=>
    refine IQ rfl ?_;have c1:(ao 58 w).2.1≠[]:=fun z=>by rw[s1 z]at h2;cases h2
    have c2:(ao 45 (ao 58 w).2.2).2.1≠[]:=fun z=>by rw[s2 z]at h3;cases h3
    refine Jb (IG (F_ (G_ rfl (H_ (Jj m1 e0 (IE (IQ (decide_eq_false c1) ?_)) rfl rfl)))));refine IG (F_ (G_ rfl (H_ (Jj m2 e0 (IE (IQ (decide_eq_false c2) (IL ?_))) rfl rfl))));dsimp only;refine ID (IM (Jb (IG (F_ (F_ (G_ rfl (H_ (IK (v:=.int m) ?_ rfl rfl rfl))))))));refine F_ (H_ (H_ (pH ?_ rfl rfl)));refine Jo (IE ?_) rfl rfl;by_cases q1:(m:Int)<=Z30
    rotate_left
    ·rw[decide_eq_true (show Z30<(m:Int) by lia),if_neg fun z=>q1 z.1];exact II rfl (II rfl (IF (H_ rfl)))
    rw[decide_eq_false (show ¬Z30<(m:Int) by lia)];refine IQ rfl ?_;refine Jb (IG (F_ (F_ (G_ rfl (H_ (IK (v:=.int a) ?_ rfl rfl rfl))))));refine F_ (G_ rfl (H_ (IK (v:=.int b) ?_ rfl rfl rfl)));refine Jo (IE ?_) rfl rfl;by_cases q2:a<=b
    rotate_left
    ·rw[decide_eq_true (show (b:Int)<(a:Int) by lia),if_neg fun z=>q2 z.2.1];exact II rfl (II rfl (IF (H_ rfl)))
    rw[decide_eq_false (show ¬(b:Int)<(a:Int) by lia)];refine IQ rfl ?_;refine IG (F_ (F_ (G_ rfl (H_ (IK (v:=.int b) ?_ rfl rfl rfl)))));refine G_ rfl (JI (IE ?_) rfl rfl);by_cases q3:(b:Int)<n
    rotate_left
    ·rw[decide_eq_true (show n<=(b:Int) by lia),if_neg fun z=>q3 z.2.2];exact II rfl (IF (H_ rfl))
    rw[decide_eq_false (show ¬n<=(b:Int) by lia),if_pos ⟨q1,q2,q3⟩];exact IQ rfl (IL (IF (G_ rfl rfl)))
theorem gi(o:Option Nat)(lo hi:Int):i9 [cQ o,.int lo,.int hi]=some (.val (.bl (match o with | none=>false | some v=>decide (lo<=(v:Int)/\(v:Int)<=hi)))):=by
 cases o with
 |none=>rfl
 |some v=>
  show i9 [.int (v:Int),.int lo,.int hi]=_;have h:A2 [.int (v:Int)]=some (.val (.bl true)):=rfl;by_cases h1:lo<=(v:Int)
  ·by_cases h2:(v:Int)<=hi
   ·unfold i9;simp[fn,sR,bO,eF,eAs,eV,pks,pk,h,RV.aH,RV.dat,aP,aF,gLe,h1,h2]
   ·unfold i9;simp[fn,sR,bO,eF,eAs,eV,pks,pk,h,RV.aH,RV.dat,aP,aF,gLe,h1,h2]
  ·unfold i9;simp[fn,sR,bO,eF,eAs,eV,pks,pk,h,RV.aH,RV.dat,aP,aF,gLe,h1]
noncomputable def steps(S:List Int):Bool:=(GO (S.length-1)).all fun i=>decide (S.getD i 0<S.getD (i+1) 0)
theorem lz:∀S:List Int,steps S=true↔S.Pairwise (· < ·)
 |[]=>by simp[steps]
 |[x]=>by simp[steps]
 |x::y::S=>by
  have ih:=lz (y::S);have e:steps (x::y::S)=(decide (x<y)&&steps (y::S)):=by unfold steps;simp only[Dp,Nat.add_sub_cancel];rw[List.range_succ_eq_map,GQ,List.all_map];rfl
  rw[e,FH,ih,HR (a:=x)];constructor
  ·rintro⟨h1,h2⟩;have h1:=of_decide_eq_true h1;refine⟨fun z hz=>?_,h2⟩;rcases F9.mp hz with rfl | hz
   ·exact h1
   ·exact Int.lt_trans h1 ((HR.mp h2).1 z hz)
  ·rintro⟨h1,h2⟩;exact⟨decide_eq_true (h1 y Fq),h2⟩
theorem A5{α:Type}{ye:α->Dat}{xs:List α}{i:Int}(h0:0<=i)(h1:i<xs.length)(k:K (.val (ye (xs[i.toNat]'(by omega)))))(ho:o=some (.tup (xs.map ye)))(hp:p=some (.int i)):Wg2 gIx o p K:=
 ⟨_,_,_,ho,hp,by unfold gIx;dsimp only;rw[Dm.jd ye xs i h0 h1];rfl,k⟩
theorem uU(d:Dat)(S:List Int)(hl:S.length<=1000)(hd:d=.tup (S.map Dat.int)\/d=.lst (S.map Dat.int)):x8 [d]=some (.val (.bl (steps S))):=by
 have len:bP [d]=some (.val (.int (S.length:Nat))):=by
  rcases hd with rfl | rfl
  ·show some (RV.val (.int ((S.map Dat.int).length:Nat)))=_;rw[Fw]
  ·show some (RV.val (.int ((S.map Dat.int).length:Nat)))=_;rw[Fw]
 have ix:∀(i:Int) (h0:0<=i) (h1:i<S.length) {o p:Option Dat} {K:RV->Prop},K (.val (.int (S[i.toNat]'(by lia))))->o=some d->p=some (.int i)->Wg2 gIx o p K:=fun i h0 h1 {o p K} k ho hp=>by
  rcases hd with rfl | rfl
  ·exact A5 (xs:=S) (ye:=Dat.int) h0 h1 k ho hp
  ·exact JB (xs:=S) (ye:=Dat.int) h0 h1 k ho hp
 apply IU;unfold x8
 (refine Dm.IT ?_ rfl rfl;and_intros)
 refine IF (IY (m_ ?_));refine JA (fun i:Nat=>Dat.int (1+(i:Nat))) (GO (S.length-1)) (fun _=>true) (fun i=>Dat.bl (decide (S.getD i 0<S.getD (i+1) 0))) ?_ (ρ1:=[.sh d]) ?_ rfl (by decide) (by simp[SZ];lia) (fun i _=>?_) (fun i hi _=>?_)
 ·refine IC (JF (fun i=>decide (S.getD i 0<S.getD (i+1) 0)) ?_ (by rw[HG.mpr (fun _ _=>rfl)];rfl));rfl
 ·apply Jm;refine JM (H_ (eu.mk (IY (m_ (G_ rfl (IC ⟨_,_,rfl,len,?_⟩))))));refine eu.mk ⟨⟨?_,rfl⟩,by unfold BIG;lia,by unfold BIG;lia,by unfold BIG;lia,by unfold BIG;lia⟩;have e2:(((S.length:Nat):Int)-1).toNat=S.length-1:=by lia
  rw[e2];rfl
 ·exact JR ⟨rfl,rfl⟩
 ·have hi':i<S.length-1:=GL.mp hi;refine F_ (F_ (G_ rfl (F_ (G_ rfl (H_ (Js (ix _ (by lia) (by lia) ?_ rfl rfl) rfl rfl))))));refine F_ (G_ rfl (G_ rfl (ix _ (by lia) (by lia) ?_ rfl rfl)));refine JT (IX ⟨?_,rfl⟩) rfl rfl;have e1:S.getD i 0=S[(1+(i:Int)-1).toNat]'(by omega):=by
   rw[Gk,F1 (by lia)];simp only[Option.getD_some]
   congr 1;lia
  have e2:S.getD (i+1) 0=S[(1+(i:Int)).toNat]'(by lia):=by
   rw[Gk,F1 (by lia)];simp only[Option.getD_some]
   congr 1;lia
  rw[e1,e2]
noncomputable def inM:Option Nat->Bool
 |none=>false
 |some v=>decide (0<=(v:Int)/\(v:Int)<=Z30)
noncomputable def inP(n:Int):Option Nat->Bool
 |none=>false
 |some v=>decide (0<=(v:Int)/\(v:Int)<=n-1)
theorem uV(o:Option Nat):xY [cQ o]=some (.val (.bl (inM o))):=by
 apply IU;unfold xY
 (refine Dm.IT ?_ rfl rfl;and_intros)
 refine IF (IP (m_ (G_ rfl (m_ (H_ (m_ (F_ (H_ (H_ (pH ?_ rfl rfl))))))))));refine IC (IJ (gi o 0 Z30) ?_ rfl rfl);cases o<;>rfl
theorem qO(n:Int)(o:Option Nat):uO [.int n,cQ o]=some (.val (.bl (inP n o))):=by
 apply IU;unfold uO
 (refine Dm.IT ?_ rfl rfl;and_intros)
 refine IF (IP (m_ (G_ rfl (m_ (H_ (m_ (F_ (G_ rfl (H_ (Js ?_ rfl rfl))))))))));refine IC (IJ (gi o 0 (n-1)) ?_ rfl rfl);cases o<;>rfl
theorem uW(n1:1<=n)(n10:n<=10):xX [.int n]=some (.val (.bl true)):=by
 have h:=gi (some n.toNat) 1 10;have e:((n.toNat:Nat):Int)=n:=by lia
 have h:i9 [.int n,.int 1,.int 10]=some (.val (.bl true)):=by
  have h2:i9 [cQ (some n.toNat),.int 1,.int 10]=some (.val (.bl true)):=by rw[h];show some (RV.val (.bl (decide _)))=_;rw[decide_eq_true (by lia)]
  have h3:i9 [.int ((n.toNat:Nat):Int),.int 1,.int 10]=some (.val (.bl true)):=h2;rw[e]at h3;exact h3
 apply IU;unfold xX
 (refine Dm.IT ?_ rfl rfl;and_intros)
 exact IF (IP (m_ (G_ rfl (m_ (H_ (m_ (H_ (IC (IJ h rfl rfl rfl))))))))) 
theorem uX(n:Int)(w:List Nat):xZ [.int n,n3D w]=some (.val (.bl (inM (n3 w).1&&(inP n (n3 w).2.1&&inP n (n3 w).2.2)))):=by
 apply IU;unfold xZ
 (refine Dm.IT ?_ rfl rfl;and_intros)
 refine ID (IM (Jb (IZ (IG (Jq (G_ rfl (Ji (v:=.val (.bl true)) (IE (IW ?_)) rfl rfl)))))));refine IG (F_ (IY (m_ (G_ rfl (IC ⟨_,_,rfl,(show bP [n3D w]=some (.val (.int 3)) from rfl),?_⟩)))));refine H_ (JX (IE ?_) rfl rfl);rw[show (!decide ((3:Int)=3))=false from rfl];refine IW (IL ?_);refine IF (Jz (IP (m_ (F_ (G_ rfl (H_ (IK (v:=cQ (n3 w).1) ?_ rfl rfl rfl)))))));refine IC (IJ (uV _) (IE ?_) rfl rfl);cases h1:inM (n3 w).1 with
 |false=>exact IW rfl
 |true=>
  refine Je ?_;refine Jz (IP (m_ (G_ rfl (m_ (F_ (G_ rfl (H_ (IK (v:=cQ (n3 w).2.1) ?_ rfl rfl rfl))))))));refine IC (IJ (qO n _) (IE ?_) rfl rfl);cases h2:inP n (n3 w).2.1 with
  |false=>exact IW rfl
  |true=>refine Je ?_;refine IP (m_ (G_ rfl (m_ (F_ (G_ rfl (H_ (IK (v:=cQ (n3 w).2.2) ?_ rfl rfl rfl)))))));exact IC (IJ (qO n _) rfl rfl rfl)
theorem jM{t:Tie}(h:aI n w=some t):n3D w=eE t/\inM (n3 w).1=true/\inP n (n3 w).2.1=true/\inP n (n3 w).2.2=true/\0<=t.m/\t.m<=Z30/\0<=t.a/\t.a<=t.b/\t.b<n:=by
 unfold aI at h;unfold n3D;split at h
 ·rename_i m a b e;split at h
  ·rename_i q;cases h;rw[e];dsimp only;refine⟨rfl,decide_eq_true (by lia),decide_eq_true (by lia),decide_eq_true (by lia),by lia,q.1,by lia,by lia,q.2.2⟩
  ·cases h
 ·cases h
theorem uY(n:Int)(w:List Nat):x6 [.int n,n3D w]=some (.val (.bl (aI n w).isSome)):=by
 apply IU;unfold x6
 (refine Dm.IT ?_ rfl rfl;and_intros)
 refine IF (Jz (IP (m_ (G_ rfl (m_ (G_ rfl (IC (IJ (uX n w) (IE ?_) rfl rfl))))))));cases h:(inM (n3 w).1&&(inP n (n3 w).2.1&&inP n (n3 w).2.2)) with
 |false=>
  refine IW ?_;cases ht:aI n w with
  |none=>rfl
  |some t=>obtain⟨_,h1,h2,h3,_⟩:=jM ht;rw[h1,h2,h3]at h;cases h
 |true=>
  refine Je ?_;rw[FH,FH]at h;obtain⟨h1,h2,h3⟩:=h;cases e1:(n3 w).1 with
  |none=>rw[e1]at h1;cases h1
  |some m=>
   cases e2:(n3 w).2.1 with
   |none=>rw[e2]at h2;cases h2
   |some a=>
    cases e3:(n3 w).2.2 with
    |none=>rw[e3]at h3;cases h3
    |some b=>
     rw[e1]at h1;rw[e2]at h2;rw[e3]at h3;have h1:=of_decide_eq_true h1;have h2:=of_decide_eq_true h2;have h3:=of_decide_eq_true h3;have en:n3 w=(some m,some a,some b):=by rw[<- e1,<- e2,<- e3]
     unfold n3D;rw[en];refine F_ (F_ (G_ rfl (H_ (IK (v:=.int a) ?_ rfl rfl rfl))));refine F_ (G_ rfl (H_ (IK (v:=.int b) ?_ rfl rfl rfl)));refine JU ?_ rfl rfl;unfold aI;rw[en];dsimp only;by_cases q:a<=b
     ·rw[if_pos ⟨h1.2,q,by lia⟩,decide_eq_true (by lia)];rfl
     ·rw[if_neg fun z=>q z.2.1,decide_eq_false (by lia)];rfl
noncomputable def iE(n:Int)(ws:List (List Nat)):Option (List Tie):=if ws.length<=60/\(∀w∈ws,(aI n w).isSome=true)/\steps ((ws.filterMap (aI n)).map (·.m))=true then some (ws.filterMap (aI n)) else none
theorem all_some:∀{ws:List (List Nat)},(∀w∈ws,(aI n w).isSome=true)->ws.map n3D=(ws.filterMap (aI n)).map eE/\ws.map (fun w=>jL (aI n w))=(ws.filterMap (aI n)).map eE
 |[],_=>⟨rfl,rfl⟩
 |w::ws,h=>by
  obtain⟨h1,h2⟩:=all_some fun x hx=>h x (Fv _ hx);have hw:=h w Fq;cases ht:aI n w with
  |none=>rw[ht]at hw;cases hw
  |some t=>rw[GU,ht];dsimp only;rw[gV,gV,gV,h1,h2,ht,(jM ht).1];exact⟨rfl,rfl⟩
theorem iQ(n1:1<=n)(n10:n<=10)(ws:List (List Nat))(hl:ws.length<=30000):jI [.int n,.lst (ws.map n3D)]=some (.val (.bl (iE n ws).isSome)):=by
 apply IU;unfold jI
 (refine Dm.IT ?_ rfl rfl;and_intros)
 refine ID (IM (Jb (IZ (IG (IP (m_ (G_ rfl (IC (IJ (uW n1 n10) (IE (IW ?_)) rfl rfl)))))))));refine Jb (IZ (IG (Jq (G_ rfl (Ji (v:=.val (.bl true)) (IE (IW ?_)) rfl rfl)))));refine IG (F_ (IY (m_ (G_ rfl (IC (Jx (ye:=n3D) (xs:=ws) ?_ rfl))))));refine H_ (Jo (IE ?_) rfl rfl);unfold iE;by_cases h1:ws.length<=60
 rotate_left
 ·rw[decide_eq_true (by lia),if_neg fun z=>h1 z.1];exact II rfl (IF (H_ rfl))
 rw[decide_eq_false (by lia)];refine IQ rfl (IL ?_);refine ID (IM (IZ (IG (IY (m_ (JQ n3D ws (fun w=>(aI n w).isSome) Dat.bl (d:=.lst (ws.map n3D)) ?_ rfl rfl rfl (by decide) (FQ hl (by decide)) fun w hw=>?_))))))
 rotate_left
 ·exact IP (m_ (G_ rfl (m_ (G_ rfl (IC (IJ (uY n w) (IX ⟨rfl,rfl⟩) rfl rfl))))))
 refine IC (JF (fun w=>(aI n w).isSome) (xs:=ws) ?_ (by rw[GP];rfl));by_cases h2:∀w∈ws,(aI n w).isSome=true
 rotate_left
 ·have:(ws.all fun w=>(aI n w).isSome)=false:=by
   rw[Bool.eq_false_iff];intro z;exact h2 (FF.mp z)
  rw[this,if_neg fun z=>h2 z.2.1];exact IE (Je (IF (H_ rfl)))
 rw[FF.mpr h2];refine IE (IW (IL ?_));obtain⟨e1,_⟩:=all_some h2;have hts:(ws.filterMap (aI n)).length<=60:=FQ (List.length_filterMap_le _ _) h1;rw[e1];refine IF (IP (m_ (JQ eE (ws.filterMap (aI n)) (·.m) Dat.int (d:=dg (ws.filterMap (aI n))) ?_ rfl rfl rfl (by decide) (FQ hts (by decide)) fun t ht=>?_)))
 ·refine IC (IJ (uU _ ((ws.filterMap (aI n)).map (·.m)) (by rw[Fw];lia) (.inr rfl)) ?_ rfl rfl);cases h3:steps ((ws.filterMap (aI n)).map (·.m)) with
  |true=>rw[if_pos ⟨h1,h2,rfl⟩];rfl
  |false=>rw[if_neg fun z=>by cases z.2.2];rfl
 ·exact F_ (G_ rfl (H_ (IK (v:=.int t.m) (IX ⟨rfl,rfl⟩) rfl rfl rfl)))
theorem EX(h:f ρ=none)(k:Ws g ρ N R B C):Ws (sUn f g) ρ N R B C:=by obtain⟨o,e,q⟩:=k;exact⟨o,by unfold sUn;rw[h];exact e,q⟩
theorem A6{Rr:Env->Option Env}{C ie:Nat}{h:FS}{ρ ρ1:Env}(e:Rr ρ=some ρ1)(h0:ie≠0){B D:Env->Prop}(k:Ws h (ρ1.set ie (.sh (.exc C))) (fun ρ'=>N (ρ'.set ie .un)) (fun r ρ'=>R r (ρ'.set ie .un)) (fun _=>False) (fun _=>False)):Ws (k6 Rr C ie h) ρ N R B D:=by
 obtain⟨o,eo,q⟩:=k;cases o with
 |nx ρ'=>exact⟨.nx (ρ'.set ie .un),by unfold k6;rw[e];dsimp only;rw[if_neg h0,eo],q⟩
 |ret r ρ'=>exact⟨.ret r (ρ'.set ie .un),by unfold k6;rw[e];dsimp only;rw[if_neg h0,eo],q⟩
 |bk ρ'=>exact q.elim
 |ct ρ'=>exact q.elim
theorem r_{bad:List Dat->Bool}{fs:List FE}{ρ ρ1:Env}{xs:List Val}(h1:eAs fs ρ=some (xs,ρ1))(h2:pks ρ1 xs=some ds)(h:bad ds=true):kW bad fs ρ=some ρ1:=by unfold kW;rw[h1];dsimp only;rw[h2];dsimp only;rw[if_pos h]
theorem yb{n m:Nat}{R:Env->Option Env}(hl:ds.length=n)(h:R (ds.map Cell.sh++eg m .un)=some ρ):fnX n m R ds=true:=by unfold fnX;rw[h,decide_eq_true hl];rfl
theorem EY(k:Ws f ρ N R B C):Ws (sUn f g) ρ N R B C:=by obtain⟨o,e,q⟩:=k;exact⟨o,by unfold sUn;rw[e],q⟩
noncomputable def dS:List Nat:=[110,111,110,101]
theorem nZ:asc dS:=⟨by decide,by decide⟩
noncomputable def pieces(s:List Nat):List (List Nat):=aA 59 32 [] s
theorem fO(c d:Nat):∀(s uK:List Nat),(∀p∈aA c d uK s,(∀x∈p,x∈uK\/x∈s)/\p.length<=uK.length+s.length)/\(aA c d uK s).length<=s.length+1
 |[],uK=>by rw[aA];exact⟨fun p hp=>by rw[Gg.mp hp];exact⟨fun x h=>.inl h,by simp⟩,by simp⟩
 |[x],uK=>by
  rw[aA];refine⟨fun p hp=>?_,by simp⟩;rw[Gg.mp hp];refine⟨fun y h=>?_,by simp⟩;rcases Gr.mp h with h | h
  ·exact .inl h
  ·exact .inr h
 |x::y::r,uK=>by
  rw[aA];split
  ·obtain⟨h1,h2⟩:=fO c d r [];refine⟨fun p hp=>?_,by simp;lia⟩;rcases F9.mp hp with rfl | hp
   ·exact⟨fun z h=>.inl h,by simp⟩
   ·obtain⟨g1,g2⟩:=h1 p hp;refine⟨fun z h=>?_,by simp at g2 ⊢;lia⟩;rcases g1 z h with q | q
    ·cases q
    ·exact .inr (Fv _ (Fv _ q))
  ·obtain⟨h1,h2⟩:=fO c d (y::r) (uK++[x]);refine⟨fun p hp=>?_,by simp at h2 ⊢;lia⟩;obtain⟨g1,g2⟩:=h1 p hp;refine⟨fun z h=>?_,by simp at g2 ⊢;lia⟩;rcases g1 z h with q | q
   ·rcases Gr.mp q with q | q
    ·exact .inl q
    ·rw[Gg.mp q];exact .inr Fq
   ·exact .inr (Fv _ q)
 termination_by s=>s.length
theorem jN(h:asc s):∀p∈pieces s,asc p:=fun p hp=>by obtain⟨h1,_⟩:=fO 59 32 s [];obtain⟨g1,g2⟩:=h1 p hp;exact jf h (fun x hx=>(g1 x hx).resolve_left (by simp)) (by simpa using g2)
theorem gj(s:List Nat):(pieces s).length<=s.length+1:=(fO 59 32 s []).2
theorem lA(h:asc s):gg s (.str [59,32])=some (.new (.lst ((pieces s).map .str))):=by unfold gg;dsimp only;rw[if_pos ⟨FQ h.2 (by decide),by decide,by decide⟩];rfl
theorem mq(h:asc s):fW [.str s]=some (.new (.lst (if s=dS then [] else (pieces s).map n3D))):=by
 have hp:=gj s;have hs:=h.2;apply IU;unfold fW
 (refine Dm.IT ?_ rfl rfl;and_intros)
 refine ID (IM (IG (F_ (G_ rfl (H_ (Jj h nZ (IE ?_) rfl rfl))))));refine Jc (fun e=>?_) fun e=>IL ?_
 ·rw[if_pos e];exact IF (Jt (IC (Jf rfl rfl rfl (by decide))))
 ·rw[if_neg e];refine IF (Jy Dat.str (pieces s) n3D id (ρ1:=[.sh (.str s)]) ?_ ?_ rfl (by decide) (by unfold SZ;lia) fun p hp=>?_)
  ·rw[Ik];rfl
  ·apply Jm;exact JO (Jh (G_ rfl ⟨s,rfl,H_ ⟨_,_,rfl,lA h,Jv (je ⟨rfl,rfl⟩)⟩⟩))
  ·exact IP (m_ (G_ rfl (IC (Jd (nY (jN h p hp)) (IX ⟨rfl,rfl⟩) rfl rfl rfl rfl))))
noncomputable def cT(n:Int)(s:List Nat):Option (List Tie):=if s=dS then some [] else iE n (pieces s)
end
section
variable{n:Int}(n1:1<=n)(n10:n<=10){s:List Nat}(h:asc s)
theorem uZ{ws:List (List Nat)}{r:List Tie}(e:iE n ws=some r):ws.map n3D=r.map eE/\ws.map (fun w=>jL (aI n w))=r.map eE:=by
 unfold iE at e;split at e
 ·rename_i q;cases e;exact all_some q.2.1
 ·cases e
theorem u0:iE n []=some []:=by unfold iE;rw[if_pos ⟨by simp,by simp,rfl⟩];rfl
noncomputable def rdL(s:List Nat):List (List Nat):=if s=dS then [] else pieces s
theorem qP(h:asc s):(rdL s).length<=20001:=by
 unfold rdL;split
 ·simp
 ·have:=gj s;have:=h.2
  lia
theorem n5(h:asc s):fW [.str s]=some (.new (.lst ((rdL s).map n3D))):=by rw[mq h];unfold rdL;split<;>rfl
theorem mz:iE n (rdL s)=cT n s:=by
 unfold rdL cT;split
 ·exact u0
 ·rfl
theorem sd(n1:1<=n)(n10:n<=10)(h:asc s){r:List Tie}(e:cT n s=some r):lq [.int n,.str s]=some (.new (dg r)):=by
 have hb:jI [.int n,.lst ((rdL s).map n3D)]=some (.val (.bl true)):=by rw[iQ n1 n10 (rdL s) (FQ (qP h) (by decide)),mz,e];rfl
 have hev:(rdL s).map n3D=r.map eE:=by rw[<- mz]at e;exact(uZ e).1
 apply IU;unfold lq
 (refine Dm.IT ?_ rfl rfl;and_intros)
 refine ID (IV (IP (m_ (G_ rfl (IC (Jd (n5 h) ?_ rfl rfl rfl rfl))))) (by decide));refine Ja ?_ (by trivial);refine ID (IM (IZ (IG (IP (m_ (G_ rfl (m_ (I_ rfl (IC (IJ hb (IE (IW (IL ?_))) rfl rfl))))))))));refine IF (I_ rfl (Jp ?_ rfl));rw[hev];rfl
theorem yc(n1:1<=n)(n10:n<=10)(h:asc s)(e:cT n s=none):jI [.int n,.lst ((rdL s).map n3D)]=some (.val (.bl false)):=by rw[iQ n1 n10 (rdL s) (FQ (qP h) (by decide)),mz,e];rfl
theorem jO(h:asc s):sA 2 (eF fW [(eV 1)]) [.sh (.int n),.sh (.str s),.un]=some (.nx [.sh (.int n),.sh (.str s),.ow (.lst ((rdL s).map n3D))]):=by
 have:Ws (sA 2 (eF fW [(eV 1)])) [.sh (.int n),.sh (.str s),.un] (fun ρ=>ρ=[.sh (.int n),.sh (.str s),.ow (.lst ((rdL s).map n3D))]) (fun _ _=>False) (fun _=>False) (fun _=>False):=by refine IV (IP (m_ (G_ rfl (IC (Jd (n5 h) ?_ rfl rfl rfl rfl))))) (by decide);exact Ja rfl (by trivial)
 obtain⟨o,e,q⟩:=this;cases o with
 |nx ρ=>rw[e];exact congrArg (fun r=>some (Out.nx r)) q
 |ret _ _=>exact q.elim
 |bk _=>exact q.elim
 |ct _=>exact q.elim
theorem lB(n1:1<=n)(n10:n<=10)(h:asc s)(e:cT n s=none):aV (tV (eF jI [(eV 0),(eV 2)])) [.sh (.int n),.sh (.str s),.ow (.lst ((rdL s).map n3D))]=some (true,[.sh (.int n),.sh (.str s),.ow (.lst ((rdL s).map n3D))]):=by
 have:Wt (aV (tV (eF jI [(eV 0),(eV 2)]))) [.sh (.int n),.sh (.str s),.ow (.lst ((rdL s).map n3D))] (fun c ρ=>c=true/\ρ=[.sh (.int n),.sh (.str s),.ow (.lst ((rdL s).map n3D))]):=by exact IZ (IG (IP (m_ (G_ rfl (m_ (I_ rfl (IC (IJ (yc n1 n10 h e) (IE ⟨rfl,rfl⟩) rfl rfl))))))))
 obtain⟨c,ρ,h1,rfl,rfl⟩:=this;exact h1
theorem se(n1:1<=n)(n10:n<=10)(h:asc s)(e:cT n s=none):lq [.int n,.str s]=none/\bW [.int n,.str s]=true:=by
 refine⟨?_,yb (ρ:=[.sh (.int n),.sh (.str s),.ow (.lst ((rdL s).map n3D))]) rfl ?_⟩
 ·have q:(aj (sA 2 (eF fW [(eV 1)])) (aj (sIf (aV (tV (eF jI [(eV 0),(eV 2)]))) (fun _=>none) sNx) (sR (eV 2)))) [.sh (.int n),.sh (.str s),.un]=none:=by
   unfold aj;rw[jO h];dsimp only;unfold sIf;rw[lB n1 n10 h e]
  unfold lq fn;dsimp only[List.map,eg,Fz,Fo,List.length];rw[if_pos rfl,q]
 ·show ux (sA 2 (eF fW [(eV 1)])) (rIf (aV (tV (eF jI [(eV 0),(eV 2)]))) AG rNo) [.sh (.int n),.sh (.str s),.un]=_;unfold ux;rw[jO h];dsimp only;unfold rIf;rw[lB n1 n10 h e];rfl
noncomputable def rdV:Option (List Tie)->RV
 |some r=>.new (dg r)
 |none=>.val .non
theorem dj(x:Nat)(n1:1<=n)(n10:n<=10)(h:asc s):jJ x [.int n,.str s]=some (rdV (cT n s)):=by
 apply IU;unfold jJ
 (refine Dm.IT ?_ rfl rfl;and_intros)
 refine ID (IV (H_ (I0 ?_ (by trivial))) (by decide));refine ID (IV (H_ (I0 ?_ (by trivial))) (by decide));cases e:cT n s with
 |some r=>refine ID (EY (IV (IP (m_ (G_ rfl (m_ (G_ rfl (IC (Jd (sd n1 n10 h e) ?_ rfl rfl rfl rfl))))))) (by decide)));refine Ja ?_ (by trivial);refine ID (IM (IG (F_ (G_ rfl (H_ (JK (IE (II rfl ?_)) rfl rfl))))));exact IF (I_ rfl (Jp rfl rfl))
 |none=>
  obtain⟨q1,q2⟩:=se n1 n10 h e;refine ID (EX ?_ (A6 (ie:=4) (r_ (ds:=[.int n,.str s]) rfl rfl q2) (by decide) ?_))
  ·unfold sA eF;simp[eAs,eV,pks,pk,q1]
  ·refine IV (G_ rfl (I0 ?_ (by trivial))) (by decide);refine ID (IM (IG (F_ (G_ rfl (H_ (JK (IE (IQ rfl (IL ?_))) rfl rfl))))));have i1:∀b:Bool,eU [x] [b] (.exc x)=some (.val (.bl b)):=fun b=>by
    unfold eU nG;dsimp only;rw[if_pos rfl];rfl
   refine ID (IM (Jb (IZ (IG (Jq (G_ rfl (Ji (v:=.val (.bl true)) (IE (IW ?_)) rfl (i1 true))))))));refine IZ (IG (Jq (G_ rfl (Ji (v:=.val (.bl true)) (IE (IW (IL ?_))) rfl (i1 true)))));refine ID (IM (IG (Jq (G_ rfl (Ji (v:=.val (.bl false)) (IE (IW (IL ?_))) rfl (i1 false))))));exact IF (H_ rfl)
end
section
variable{n:Int}{K:RV->Prop}{r:List Tie}{o p:Option Dat}{w:List Nat}{s:List Nat}{a:List Nat}{t:Tie}{i:Int}
theorem A7(k:Nat)(o:Option Tie):okD (k+1) (jL o)=true:=by
 cases o with
 |none=>rfl
 |some t=>cases k<;>rfl
theorem n6(os:List (Option Tie))(k:K (.val (.bl (os.any (·.isNone)))))(ho:o=some .non)(hp:p=some (.lst (os.map jL))):Wg2 gIn o p K:=by
 refine⟨_,_,_,ho,hp,?_,k⟩;unfold gIn;dsimp only;have h:((os.map jL).all (okD 7))=true:=by rw[FF];intro d hd;obtain⟨o,_,rfl⟩:=GD.mp hd;exact A7 6 o
 rw[h];show vB (inD .non (os.map jL))=_
 congr 1
 unfold inD;rw[Ir]
 congr 1
 funext o
 cases o<;>rfl
theorem u5(h0:0<=i)(h1:i<r.length)(k:K (.val (eE (r[i.toNat]'(by omega)))))(ho:o=some (dg r))(hp:p=some (.int i)):Wg2 gIx o p K:=
 JB (xs:=r) (ye:=eE) h0 h1 k ho hp
theorem pJ(h:asc s):qJ [.int n,.str s]=some (rdV (cT n s)):=by
 have hp:=gj s;have hs:=h.2;apply IU;unfold qJ
 (refine Dm.IT ?_ rfl rfl;and_intros)
 refine ID (IM (IG (F_ (G_ rfl (H_ (Jj h nZ (IE ?_) rfl rfl))))));unfold cT;refine Jc (fun e=>?_) fun e=>IL ?_
 ·rw[if_pos e];exact IF (Jt (IC (Jf rfl rfl rfl (by decide))))
 rw[if_neg e];refine ID (IV (Jy Dat.str (pieces s) (fun w=>jL (aI n w)) id (ρ1:=[.sh (.int n),.sh (.str s),.un,.un]) ?_ ?_ rfl (by decide) (by unfold SZ;lia) fun p hp=>?_) (by decide))
 rotate_left
 ·apply Jm;exact JO (Jh (G_ rfl ⟨s,rfl,H_ ⟨_,_,rfl,lA h,Jv (je ⟨rfl,rfl⟩)⟩⟩))
 ·have lt:=pI (n:=n) (jN h p hp);cases ht:aI n p with
  |none=>rw[ht]at lt;exact IP (m_ (G_ rfl (m_ (G_ rfl (IC (IJ lt (IX ⟨rfl,rfl⟩) rfl rfl))))))
  |some t=>rw[ht]at lt;exact IP (m_ (G_ rfl (m_ (G_ rfl (IC (Jd lt (IX ⟨rfl,rfl⟩) rfl rfl rfl rfl))))))
 refine Ja ?_ (by trivial);rw[Ik];have em:(pieces s).map (fun w=>jL (aI n w))=((pieces s).map (aI n)).map jL:=by rw[GP];rfl
 refine ID (IM (Jb (IG (F_ (H_ (I_ rfl (n6 ((pieces s).map (aI n)) (IE ?_) rfl (by rw[<- em];rfl))))))));unfold iE;by_cases h2:∀w∈pieces s,(aI n w).isSome=true
 rotate_left
 ·have:((pieces s).map (aI n)).any (·.isNone)=true:=by
   rw[Ir,List.any_eq_true];have ⟨w,hw⟩:=Classical.not_forall.mp h2;have ⟨hw1,hw2⟩:=Classical.not_imp.mp hw;refine⟨w,hw1,?_⟩;show (aI n w).isNone=true;cases q:aI n w with
   |none=>rfl
   |some t=>rw[q]at hw2;exact absurd rfl hw2
  rw[this,if_neg fun z=>h2 z.2.1];exact II rfl (II rfl (IF (H_ rfl)))
 have h2':((pieces s).map (aI n)).any (·.isNone)=false:=by
  rw[Ir,List.any_eq_false];intro w hw;have:=h2 w hw;show ¬(aI n w).isNone=true;cases q:aI n w with
  |none=>rw[q]at this;cases this
  |some t=>simp
 rw[h2'];refine IQ rfl ?_;refine IG (F_ (IY (m_ (I_ rfl (IC (Jx (ye:=fun w=>jL (aI n w)) (xs:=pieces s) ?_ rfl))))));refine H_ (Jo (IE ?_) rfl rfl);by_cases h1:(pieces s).length<=60
 rotate_left
 ·rw[decide_eq_true (by lia),if_neg fun z=>h1 z.1];exact II rfl (IF (H_ rfl))
 rw[decide_eq_false (by lia)];refine IQ rfl (IL ?_);obtain⟨_,e2⟩:=all_some h2;have ht:((pieces s).filterMap (aI n)).length=(pieces s).length:=by have:=congrArg List.length e2;rw[Fw,Fw]at this;exact this.symm
 rw[e2]
 generalize (pieces s).filterMap (aI n)=r at ht ⊢
 have lr:r.length<=60:=by lia
 refine ID (Jw (JM (H_ (eu.mk (IY (m_ (I_ rfl (IC (Jx (ye:=eE) (xs:=r) (eu.mk ⟨?_,by unfold BIG;lia⟩) rfl)))))))));have el:(((r.length:Nat):Int)-1).toNat=r.length-1:=by lia
 rw[el];refine JH (fun i:Nat=>Dat.int (1+(i:Nat))) _ _ (GO (r.length-1)) _ _ _ _ _ (fun p q ρ=>∃c3:Cell,ρ=[.sh (.int n),.sh (.str s),.ow (dg r),c3]/\(p.all fun i=>decide ((r.map (·.m)).getD i 0<(r.map (·.m)).getD (i+1) 0))=true) ⟨_,rfl,rfl⟩ ?_ ?_
 ·rintro p i q ρ e ⟨c3,rfl,hp⟩;have hi:i<r.length-1:=GL.mp (by rw[e];simp);refine Dm.l8 rfl (by trivial) ?_;unfold uQ;have g1:(r.map (·.m)).getD i 0=(r[(1+(i:Int)-1).toNat]'(by lia)).m:=by
   rw[Gk,F4,F1 (by lia)];have:(1+(i:Int)-1).toNat=i:=by lia
   simp only[this];rfl
  have g2:(r.map (·.m)).getD (i+1) 0=(r[(1+(i:Int)).toNat]'(by lia)).m:=by
   rw[Gk,F4,F1 (by lia)];have:(1+(i:Int)).toNat=i+1:=by lia
   simp only[this];rfl
  refine IM (IG (F_ (F_ (F_ (I_ rfl (F_ (G_ rfl (H_ (Js (u5 (by lia) (by lia) ?_ rfl rfl) rfl rfl)))))))));refine H_ (IK ?_ rfl rfl rfl);refine F_ (F_ (I_ rfl (G_ rfl (u5 (by lia) (by lia) ?_ rfl rfl))));refine H_ (IK ?_ rfl rfl rfl);refine JI (IE ?_) rfl rfl;rw[<- g1,<- g2];refine Jc (fun q=>?_) fun q=>?_
  ·refine IF (H_ ?_);rw[if_neg]
   ·rfl
   ·rintro⟨_,_,z⟩;unfold steps at z;rw[FF]at z;have:=of_decide_eq_true (z i (by rw[Fw];exact GL.mpr hi))
    lia
  ·refine IL ⟨_,rfl,?_⟩;rw[HE,hp,GQ,List.all_nil,decide_eq_true (Int.lt_of_not_ge q)];rfl
 ·rintro ρ ⟨c3,rfl,hp⟩;rw[if_pos ⟨h1,h2,by unfold steps;rw[Fw];exact hp⟩];exact IF (I_ rfl (Jp rfl rfl))
noncomputable def bE(t:Tie):List Nat:=aY t.m.toNat++[58]++aY t.a.toNat++[45]++aY t.b.toNat
noncomputable def textOf(r:List Tie):List Nat:=if r=[] then dS else aR [59,32] (r.map bE)
theorem textOf_nil:textOf []=dS:=rfl
theorem textOf_cons(t:Tie)(r:List Tie):textOf (t::r)=aR [59,32] ((t::r).map bE):=by unfold textOf;rw[if_neg (by simp)]
theorem dU(y s:List Nat):aR y [s]=s:=rfl
theorem bU(y s z:List Nat)(r:List (List Nat)):aR y (s::z::r)=s++y++aR y (z::r):=by rw[aR];intro h;cases h
theorem join_snoc(y z:List Nat):∀(ss:List (List Nat)) (s:List Nat),aR y (ss++[s])++z=aR y (ss++[s++z])
 |[],s=>rfl
 |[a],s=>by show aR y (a::s::[])++z=aR y (a::(s++z)::[]);rw[bU,bU,dU,dU];simp
 |a::b::ss,s=>by
  show aR y (a::b::(ss++[s]))++z=aR y (a::b::(ss++[s++z]));rw[bU,bU,GJ]
  congr 1
  exact join_snoc y z (b::ss) s
theorem sf(y z s:List Nat)(ss:List (List Nat)):z++aR y (s::ss)=aR y ((z++s)::ss):=by
 cases ss with
 |nil=>rfl
 |cons a ss=>rw[bU,bU];simp
theorem fm(c d:Nat)(uL:List Nat):∀(s uK:List Nat),c∉s->aA c d uK (s++c::d::uL)=(uK++s)::aA c d [] uL
 |[],uK,_=>by rw[Fo,aA,if_pos ⟨rfl,rfl⟩,Gs]
 |[x],uK,h=>by have hx:x≠c:=fun z=>h (by rw[z];exact Fq);show aA c d uK (x::c::(d::uL))=_;rw[aA,if_neg fun z=>hx z.1];have:=fm c d uL [] (uK++[x]) (by simp);rw[Fo,Gs]at this;exact this
 |x::y::s,uK,h=>by have hx:x≠c:=fun z=>h (by rw[z];exact Fq);show aA c d uK (x::y::(s++c::d::uL))=_;rw[aA,if_neg fun z=>hx z.1];have:=fm c d uL (y::s) (uK++[x]) (fun z=>h (Fv _ z));rw[GJ]at this;exact this
theorem jP(c d:Nat):∀(s uK:List Nat),c∉s->aA c d uK s=[uK++s]
 |[],uK,_=>by rw[aA,Gs]
 |[x],uK,_=>by rw[aA]
 |x::y::s,uK,h=>by have hx:x≠c:=fun z=>h (by rw[z];exact Fq);rw[aA,if_neg fun z=>hx z.1,jP c d (y::s) (uK++[x]) fun z=>h (Fv _ z)];simp
theorem eG:∀(s:List Nat) (ss:List (List Nat)),(∀p∈s::ss,59∉p)->pieces (aR [59,32] (s::ss))=s::ss
 |s,[],h=>by unfold pieces;rw[dU,jP 59 32 s [] (h s Fq)];rfl
 |s,z::ss,h=>by have ih:=eG z ss fun p hp=>h p (Fv _ hp);unfold pieces at ih ⊢;rw[bU,GJ];show aA 59 32 [] (s++59::32::aR [59,32] (z::ss))=_;rw[fm 59 32 _ s [] (h s Fq),ih];rfl
theorem mC(c:Nat)(b:List Nat):∀a:List Nat,c∉a->ao c (a++c::b)=(a,[c],b)
 |[],_=>by rw[Fo,ao,if_pos rfl]
 |x::a,h=>by have hx:x≠c:=fun z=>h (by rw[z];exact Fq);rw[Fz,ao,if_neg hx,mC c b a fun z=>h (Fv _ z)]
theorem g6{v c:Nat}(h:c<48\/57<c):c∉aY v:=fun z=>by
 have:=(bS c).mp (FF.mp (dR v) c z)
 lia
theorem jQ{v:Nat}(h:v<10 ^ 60):rdN (aY v)=some v:=by unfold rdN;have:=l9 v;rw[if_pos ⟨⟨List.length_pos_iff.mpr this,bR (by decide) h⟩,dR v,fun z=>z.2 (lg z.1)⟩,nT]
theorem jh{c:Nat}(h:c∈w)(hc:c<48\/57<c):rdN w=none:=by
 unfold rdN;rw[if_neg];rintro⟨_,z,_⟩;have:=(bS c).mp (FF.mp z c h)
 lia
structure TOk(n:Int)(t:Tie):Prop where
 m0:0<=t.m
 m1:t.m<=Z30
 a0:0<=t.a
 ab:t.a<=t.b
 bn:t.b<n
theorem TOk.small(n10:n<=10)(h:TOk n t):t.m.toNat<10 ^ 60/\t.a.toNat<10 ^ 60/\t.b.toNat<10 ^ 60:=by
 obtain⟨h1,h2,h3,h4,h5⟩:=h;have e:(10:Nat) ^ 60=1000000000000000000000000000000000000000000000000000000000000:=by decide
 unfold Z30 at h2;rw[e]
 lia
theorem pK(A B:List Nat)(m a:Nat)(hA:58∉A):n3 (A++[58]++aY a++[45]++B)=(rdN A,rdN (aY a),rdN B):=by
 unfold n3;have e1:ao 58 (A++[58]++aY a++[45]++B)=(A,[58],aY a++45::B):=by
  have:=mC 58 (aY a++45::B) A hA;rw[<- this]
  congr 1
  simp
 rw[e1];dsimp only;rw[mC 45 B (aY a) (g6 (.inl (by decide)))]
theorem jR(n10:n<=10)(h:TOk n t):aI n (bE t)=some t:=by
 obtain⟨s1,s2,s3⟩:=h.small n10;unfold aI bE;rw[pK (aY t.m.toNat) (aY t.b.toNat) 0 t.a.toNat (g6 (.inr (by decide))),jQ s1,jQ s2,jQ s3];dsimp only;obtain⟨h1,h2,h3,h4,h5⟩:=h;rw[if_pos ⟨by lia,by lia,by lia⟩]
 congr 1
 cases t;dsimp only at *
 congr 1<;>lia
theorem fP(h:(n3 w).1=none\/(n3 w).2.2=none):aI n w=none:=by
 unfold aI;split
 ·rename_i m a b e;rw[e]at h;rcases h with h | h<;>cases h
 ·rfl
theorem u6(t:Tie):59∉bE t:=by
 unfold bE;simp only[Gr,Gg];have d:∀v,59∉aY v:=fun v=>g6 (.inr (by decide));rintro((((h | h) | h) | h) | h)
 ·exact d _ h
 ·cases h
 ·exact d _ h
 ·cases h
 ·exact d _ h
theorem g7{ws:List (List Nat)}(h:w∈ws)(e:aI n w=none):iE n ws=none:=by unfold iE;rw[if_neg];rintro⟨_,z,_⟩;have:=z w h;rw[e]at this;cases this
theorem u7(v:Nat):∃c r,aY v=c::r/\48<=c/\c<=57:=by
 cases e:aY v with
 |nil=>exact absurd e (l9 v)
 |cons c r=>exact⟨c,r,rfl,(bS c).mp (FF.mp (dR v) c (by rw[e];exact Fq))⟩
theorem sj(s:List Nat)(ss:List (List Nat)):∃q,aR [59,32] (s::ss)=s++q:=by
 cases ss with
 |nil=>exact⟨[],by rw[dU];simp⟩
 |cons a ss=>exact⟨_,by rw[bU,GJ]⟩
theorem text_head(t:Tie)(r:List Tie)(z:List Nat):aR [59,32] ((t::r).map bE)++z≠dS:=by
 obtain⟨q,e⟩:=sj (bE t) (r.map bE);obtain⟨c,k,e2,h1,h2⟩:=u7 t.m.toNat;rw[gV,e];unfold bE dS;rw[e2];intro h;injection h with h _
 lia
theorem cZ(n10:n<=10):∀{r:List Tie},(∀t∈r,TOk n t)->(r.map bE).filterMap (aI n)=r
 |[],_=>rfl
 |t::r,h=>by rw[gV,GU,jR n10 (h t Fq)];dsimp only;rw[cZ n10 fun u hu=>h u (Fv _ hu)]
theorem yd(n10:n<=10)(h:∀t∈r,TOk n t)(up:(r.map (·.m)).Pairwise (· < ·))(hl:r.length<=60):cT n (textOf r)=some r:=by
 unfold cT;cases r with
 |nil=>rw[textOf_nil,if_pos rfl]
 |cons t r=>
  rw[textOf_cons,if_neg (by have:=text_head t r [];rw[Gs]at this;exact this)];have e:pieces (aR [59,32] ((t::r).map bE))=(t::r).map bE:=eG (bE t) (r.map bE) fun p hp=>by obtain⟨u,_,rfl⟩:=GD.mp (show p∈(t::r).map bE from hp);exact u6 u
  rw[e];unfold iE;rw[if_pos]
  ·rw[cZ n10 h]
  ·refine⟨by rw[Fw];exact hl,fun w hw=>?_,?_⟩
   ·obtain⟨u,hu,rfl⟩:=GD.mp hw;rw[jR n10 (h u hu)];rfl
   ·rw[cZ n10 h];exact(lz _).mpr up
theorem pL(r:List Tie):cT n (textOf r++[32])=none:=by
 unfold cT;cases r with
 |nil=>rw[textOf_nil,if_neg (by decide)];exact g7 (w:=dS++[32]) (by decide) (fP (.inl (show rdN (ao 58 (dS++[32])).1=none from jh (c:=110) (by decide) (by decide))))
 |cons t r=>
  rw[textOf_cons,if_neg (text_head t r [32])];obtain⟨r0,u,e⟩:∃r0 u,t::r=r0++[u]:=by
   rcases List.eq_nil_or_concat (t::r) with z | ⟨r0,u,z⟩
   ·cases z
   ·exact⟨r0,u,by rw[z,List.concat_eq_append]⟩
  rw[e,Hg,gV,F0,join_snoc];have nn:∀p∈r0.map bE++[bE u++[32]],59∉p:=fun p hp=>by
   rcases Gr.mp hp with hp | hp
   ·obtain⟨x,_,rfl⟩:=GD.mp hp;exact u6 x
   ·rw[Gg.mp hp];intro z;rcases Gr.mp z with z | z
    ·exact u6 u z
    ·cases Gg.mp z
  have ep:pieces (aR [59,32] (r0.map bE++[bE u++[32]]))=r0.map bE++[bE u++[32]]:=by
   cases hq:r0.map bE++[bE u++[32]] with
   |nil=>simp at hq
   |cons s ss=>exact eG s ss (by rw[<- hq];exact nn)
  rw[ep];refine g7 (w:=bE u++[32]) (by simp) (fP (.inr ?_));have:bE u++[32]=aY u.m.toNat++[58]++aY u.a.toNat++[45]++(aY u.b.toNat++[32]):=by unfold bE;simp
  rw[this,pK _ _ 0 _ (g6 (.inr (by decide)))];exact jh (c:=32) (by simp) (by decide)
theorem sq(r:List Tie):cT n (32::textOf r)=none:=by
 unfold cT;cases r with
 |nil=>rw[textOf_nil,if_neg (by decide)];exact g7 (w:=32::dS) (by decide) (fP (.inl (show rdN (ao 58 (32::dS)).1=none from jh (c:=110) (by decide) (by decide))))
 |cons t r=>
  rw[textOf_cons,if_neg (by unfold dS;intro z;injection z with z _;cases z)];show iE n (pieces ([32]++aR [59,32] (bE t::r.map bE)))=none;rw[sf];have nn:∀p∈([32]++bE t)::r.map bE,59∉p:=fun p hp=>by
   rcases F9.mp hp with rfl | hp
   ·intro z;rcases Gr.mp z with z | z
    ·cases Gg.mp z
    ·exact u6 t z
   ·obtain⟨x,_,rfl⟩:=GD.mp hp;exact u6 x
  rw[eG _ _ nn];refine g7 (w:=[32]++bE t) Fq (fP (.inl ?_));have:[32]++bE t=(32::aY t.m.toNat)++[58]++aY t.a.toNat++[45]++aY t.b.toNat:=by unfold bE;simp
  rw [this,pK _ _ 0 _ (by
   intro z;rcases F9.mp z with z | z
   ·cases z
   ·exact g6 (.inr (by decide)) z)]
  exact jh (c:=32) Fq (by decide)
theorem JE{o:Option (List Dat)}(h0:0<=i)(h:i.toNat<10 ^ 60)(k:K (.val (.str (aY i.toNat))))(ho:o=some [.int i]):WB eW o K:=JC k (by rw[ho,Int.toNat_of_nonneg h0]) h
theorem lC:∀ss:List (List Nat),gW (ss.map Dat.str)=some ss
 |[]=>rfl
 |s::ss=>by rw[gV,gW,lC ss];rfl
theorem n8(y:List Nat)(ss:List (List Nat))(h:(ss.map fun s=>s.length+y.length).sum<=SZ):jD y (.lst (ss.map Dat.str))=some (.val (.str (aR y ss))):=by unfold jD;dsimp only;rw[lC];dsimp only;rw[if_pos h]
theorem jS(y:List Nat):∀ss:List (List Nat),(aR y ss).length<=(ss.map fun s=>s.length+y.length).sum
 |[]=>by simp[aR]
 |[s]=>by rw[dU];simp
 |s::z::ss=>by
  have:=jS y (z::ss);rw[bU,gV,HV,Fl,Fl]
  lia
def lo(w:List Nat):Prop:=∀c∈w,c<128
theorem bx{a b:List Nat}(ha:lo a)(hb:lo b):lo (a++b):=fun c hc=>(Gr.mp hc).elim (ha c) (hb c)
theorem cH(h:lo w)(hl:w.length<=20000):asc w:=⟨FF.mpr fun c hc=>decide_eq_true (h c hc),hl⟩
theorem mD{y:List Nat}(hy:lo y):∀{ss:List (List Nat)},(∀s∈ss,lo s)->lo (aR y ss)
 |[],_=>fun c hc=>by cases hc
 |[s],h=>h s Fq
 |s::z::ss,h=>by rw[bU];exact bx (bx (h s Fq) hy) (mD hy fun x hx=>h x (Fv _ hx))
theorem g8(v:Nat):lo (aY v):=fun c hc=>by
 have:=(bS c).mp (FF.mp (dR v) c hc)
 lia
theorem bX(h:w.all (fun c=>decide (c<128))=true):lo w:=fun c hc=>of_decide_eq_true (FF.mp h c hc)
theorem yf(t:Tie):lo (bE t):=bx (bx (bx (bx (g8 _) (bX rfl)) (g8 _)) (bX rfl)) (g8 _)
theorem u9(n10:n<=10)(h:TOk n t):(bE t).length<=182:=by
 obtain⟨s1,s2,s3⟩:=h.small n10;have h1:=bR (by decide) s1;have h2:=bR (by decide) s2;have h3:=bR (by decide) s3;unfold bE;simp only[Fl,Hv]
 lia
theorem pM{α:Type}(f:α->Nat)(k:Nat):∀l:List α,(∀x∈l,f x<=k)->(l.map f).sum<=l.length*k
 |[],_=>by simp
 |x::l,h=>by
  have:=pM f k l fun y hy=>h y (Fv _ hy);have:=h x Fq;rw[gV,HV,Dp,Nat.succ_mul]
  lia
theorem text_sum(n10:n<=10)(h:∀t∈r,TOk n t):((r.map bE).map fun s=>s.length+[59,32].length).sum<=r.length*184:=by
 have:=pM (fun s:List Nat=>s.length+[59,32].length) 184 (r.map bE) fun s hs=>by
  obtain⟨t,ht,rfl⟩:=GD.mp hs;have:=u9 n10 (h t ht);show _+2<=_
  lia
 rw[Fw]at this;exact this
theorem text_lo(n10:n<=10)(h:∀t∈r,TOk n t)(hl:r.length<=12):lo (textOf r)/\(textOf r).length<=2208:=by
 unfold textOf;split
 ·exact⟨bX rfl,by decide⟩
 ·have:=text_sum n10 h;have:=jS [59,32] (r.map bE);exact ⟨mD (bX rfl) fun s hs=>by obtain⟨t,_,rfl⟩:=GD.mp hs;exact yf t,by lia⟩
theorem n9(n10:n<=10)(h:∀t∈r,TOk n t)(hl:r.length<=12):qH [dg r]=some (.val (.str (textOf r))):=by
 have ok:okD 8 (dg r)=true:=zb eE r fun t=>rfl;apply IU;unfold qH
 (refine Dm.IT ?_ rfl rfl;and_intros)
 refine ID (IM (IG (F_ (G_ rfl (Jt (IC (Jf (JV (xs:=r.map eE) (IE ?_) rfl rfl ok) rfl rfl (by decide))))))));cases r with
 |nil=>exact II rfl (IF (H_ rfl))
 |cons t0 r0=>
  refine IQ rfl (IL ?_);rw[textOf_cons]
  generalize hr:t0::r0=r at *
  have sm:=text_sum n10 h;refine IF (Jh (H_ ⟨_,rfl,JQ eE r bE Dat.str (d:=dg r) ?_ rfl rfl rfl (by decide) (by unfold SZ;lia) fun t ht=>?_⟩))
  ·exact⟨_,_,rfl,n8 _ _ (by unfold SZ;lia),rfl⟩
  ·have tk:=h t ht;obtain⟨s1,s2,s3⟩:=tk.small n10;have d1:=bR (by decide) s1;have d2:=bR (by decide) s2;have d3:=bR (by decide) s3;have sz:SZ=100000:=rfl;refine F_ (F_ (F_ (F_ (IY (m_ (F_ (G_ rfl (H_ (IK (v:=.int t.m) ?_ rfl rfl rfl)))))))));refine IC (JE tk.m0 s1 ?_ rfl);refine H_ (IS ?_ rfl rfl (by simp;lia));refine IY (m_ (F_ (G_ rfl (H_ (IK (v:=.int t.a) ?_ rfl rfl rfl)))));refine IC (JE tk.a0 s2 ?_ rfl);refine IS ?_ rfl rfl (by simp;lia);refine H_ (IS ?_ rfl rfl (by simp;lia));refine IY (m_ (F_ (G_ rfl (H_ (IK (v:=.int t.b) ?_ rfl rfl rfl)))));refine IC (JE (Ic tk.a0 tk.ab) s3 ?_ rfl);refine IS ?_ rfl rfl (by simp;lia);exact IX ⟨rfl,rfl⟩
theorem u_(h:lo s)(l u:Option Int):lo (iC s l u)/\(iC s l u).length<=s.length:=by unfold iC;exact⟨fun c hc=>h c (List.mem_of_mem_drop (List.mem_of_mem_take hc)),by rw[Gz,GF];lia⟩
theorem JG{k:Int}(q:K (.val (.str (eg k.toNat a).flatten)))(ho:o=some (.str a))(hp:p=some (.int k))(h:0<=k/\k<=BIG/\a.length*k.toNat<=SZ):Wg2 iP o p K:=⟨_,_,_,ho,hp,by unfold iP;dsimp only;rw[if_pos h],q⟩
noncomputable def o1:List (List Nat):=[[],[32],[78,111,110,101],[110,111,110,101,32],[110,111,110,101,59,32,48,58,48,45,48],[48,58,48,45,48,59],[48,58,48,45,48,59,32],[48,58,48,45,48,59,48,58,48,45,48],[48,58,48,45,48,59,32,48,58,48,45,48]]
noncomputable def o2:List (List Nat):=[[49,58,48,45,48,59,32,48,58,48,45,48],[48,48,58,48,45,48],[48,58,48,48,45,48],[45,49,58,48,45,48],[48,58,48],[48,45,48],[48,58,48,45,48,45,48],[48,58,48,58,48,45,48],[48,58,49,45,48]]
noncomputable def o3(n:Nat):List (List Nat):=[[48,58,48,45]++aY n,[48,58,48,45,48,44,49,58,48,45,48],(eg (61:Int).toNat [49]).flatten++[58,48,45,48],(eg (5000:Int).toNat [55]).flatten++[58,48,45,48]]
noncomputable def tk(k:Nat):List Nat:=aY k++[58,48,45,48]
noncomputable def o4:List (List Nat):=[[49]++(eg (29:Int).toNat [48]).flatten++[49,58,48,45,48],aR [59,32] ((GO 61).map tk)]
theorem pN(h:lo a)(k:Nat):lo (eg k a).flatten:=fun c hc=>by obtain⟨l,h1,h2⟩:=List.mem_flatten.mp hc;rw[(List.mem_replicate.mp h1).2]at h2;exact h c h2
theorem eH(a:List Nat)(k:Nat):(eg k a).flatten.length=k*a.length:=by simp
theorem A9(k:Nat)(h:k<61):(tk k).length<=6:=by
 unfold tk;have:=bR (v:=k) (k:=2) (by decide) (by lia);rw[Fl];show _+4<=6
 lia
theorem vc:(((GO 61).map tk).map fun s=>s.length+[59,32].length).sum<=488:=by
 have:=pM (fun s:List Nat=>s.length+[59,32].length) 8 ((GO 61).map tk) fun s hs=>by
  obtain⟨k,hk,rfl⟩:=GD.mp hs;have:=A9 k (GL.mp hk);show _+2<=_
  lia
 rw[Fw,List.length_range]at this;exact this
theorem yg(n:Nat)(hn:n<=10):∀w∈o1++o2++o3 n++o4,asc w:=by
 have e1:∀w∈o1++o2,asc w:=by
  have:(o1++o2).all (fun w=>w.all (fun c=>decide (c<128))&&decide (w.length<=20000))=true:=by decide
  intro w hw;have:=FF.mp this w hw;rw[FH]at this;exact⟨this.1,of_decide_eq_true this.2⟩
 have dn:=bR (v:=n) (k:=2) (by decide) (by lia);intro w hw;rcases Gr.mp hw with hw | hw
 ·rcases Gr.mp hw with hw | hw
  ·exact e1 w hw
  ·unfold o3 at hw;rcases F9.mp hw with rfl | hw
   ·exact cH (bx (bX rfl) (g8 n)) (by rw[Fl];show 4+_<=_;lia)
   ·rcases F9.mp hw with rfl | hw
    ·exact cH (bX rfl) (by decide)
    ·rcases F9.mp hw with rfl | hw
     ·exact cH (bx (pN (bX rfl) _) (bX rfl)) (by rw[Fl,eH];decide)
     ·rw[Gg.mp hw];exact cH (bx (pN (bX rfl) _) (bX rfl)) (by rw[Fl,eH];decide)
 ·unfold o4 at hw;rcases F9.mp hw with rfl | hw
  ·exact cH (bx (bx (bX rfl) (pN (bX rfl) _)) (bX rfl)) (by rw[Fl,Fl,eH];decide)
  ·rw[Gg.mp hw];have:=jS [59,32] ((GO 61).map tk);have:=vc;refine cH (mD (bX rfl) fun s hs=>?_) (by lia);obtain⟨k,_,rfl⟩:=GD.mp hs;exact bx (g8 k) (bX rfl)
theorem sr{n:Nat}(n10:n<=10)(hs:lo s)(ls:s.length<=2208)(x y z:Int):∃w,nU [.int (n:Nat),.str s,.lst [.int x,.int y,.int z]]=some (.val (.str w))/\asc w:=by
 suffices q:Wr (nU [.int (n:Nat),.str s,.lst [.int x,.int y,.int z]]) fun v=>∃w,v=.val (.str w)/\asc w by obtain⟨v,h1,w,rfl,h2⟩:=q;exact⟨w,h1,h2⟩
 have sz:SZ=100000:=rfl;have as:asc s:=cH hs (by lia);unfold nU
 (refine Dm.IT ?_ rfl rfl;and_intros)
 refine ID (IV (F_ (F_ (G_ rfl (H_ (IK (v:=.int x) ?_ rfl rfl rfl))))) (by decide));refine H_ (Jg (I0 ?_ (by trivial)) rfl rfl (by decide));refine ID (IV (F_ (F_ (G_ rfl (H_ (IK (v:=.int y) ?_ rfl rfl rfl))))) (by decide));refine F_ (IY (m_ (G_ rfl (IC (Ka ?_ rfl (by lia))))));refine H_ (Jr ?_ rfl rfl);refine Jg (I0 ?_ (by trivial)) rfl rfl (by lia)
 generalize y % ((s.length:Int)+1)=at_
 generalize x % 5=kind
 obtain⟨c,hc,ec⟩:∃c:Nat,c<128/\([48,49,50,51,52,53,54,55,56,57,58,45,59,32,59,110,45,58,43,97]:List Nat)[(z % 20).toNat]?=some c:=by
  have h:=bJ z 20 (by decide);have hl:(z % 20).toNat<([48,49,50,51,52,53,54,55,56,57,58,45,59,32,59,110,45,58,43,97]:List Nat).length:=by show _<20;lia
  refine⟨_,?_,F1 hl⟩;have:∀c∈([48,49,50,51,52,53,54,55,56,57,58,45,59,32,59,110,45,58,43,97]:List Nat),c<128:=by decide
  exact this _ (Ib hl)
 refine ID (IV (F_ (H_ (F_ (F_ (G_ rfl (H_ (IK (v:=.int z) ?_ rfl rfl rfl))))))) (by decide));refine H_ (Jg ?_ rfl rfl (by decide));have hm:=bJ z 20 (by decide);refine JL (m:=(z % 20).toNat) (c:=c) (I0 ?_ (by trivial)) rfl rfl (by decide) (uS hm.1 (by show _<((20:Nat):Int);lia)) ec;have lc:lo [c]:=fun k hk=>by rw[Gg.mp hk];exact hc
 have cut:∀l u,lo (iC s l u)/\(iC s l u).length<=2208:=fun l u=>⟨(u_ hs l u).1,FQ (u_ hs l u).2 ls⟩;have slA:∀{Q:Val->Env->Prop} {ρ:Env} {i j:Nat} {a:Int},ρ[i]?=some (.sh (.str s))->ρ[j]?=some (.sh (.int a))->Q (.val (.str (iC s none (some a)))) ρ->We (i7 (eV i) none (some (eV j))) ρ Q:=fun {Q ρ i j a} hi hj q=>Ju (G_ hi (Wp.none (Wp.some (G_ hj (eu.mk ⟨s,rfl,by lia,q⟩)))));refine ID (IM (IG (F_ (G_ rfl (H_ (Jk (IE ?_) rfl rfl))))));refine Jc (fun _=>?_) fun _=>IL ?_
 ·refine IF (F_ (F_ (slA rfl rfl ?_)));have c1:=cut none (some at_);refine G_ rfl (IS ?_ rfl rfl (by simp;lia));have c2:=cut (some at_) none;refine Ju (G_ rfl (Wp.some (G_ rfl (eu.mk (Wp.none ⟨s,rfl,by lia,?_⟩)))));refine IS ?_ rfl rfl (by simp;lia);exact⟨_,rfl,cH (bx (bx c1.1 lc) c2.1) (by simp;lia)⟩
 refine ID (IM (IG (F_ (G_ rfl (H_ (Jk (IE ?_) rfl rfl))))));refine Jc (fun _=>?_) fun _=>IL ?_
 ·refine IF (F_ (slA rfl rfl ?_));have c1:=cut none (some at_);have c2:=cut (some (at_+1)) none;refine Ju (G_ rfl (Wp.some (F_ (G_ rfl (H_ (Jr (eu.mk (Wp.none ⟨s,rfl,by lia,?_⟩)) rfl rfl))))));refine IS ?_ rfl rfl (by lia);exact⟨_,rfl,cH (bx c1.1 c2.1) (by rw[Fl];lia)⟩
 refine ID (IM (IG (F_ (G_ rfl (H_ (Jk (IE ?_) rfl rfl))))));refine Jc (fun _=>?_) fun _=>IL ?_
 ·refine IF (F_ (F_ (slA rfl rfl ?_)));have c1:=cut none (some at_);refine G_ rfl (IS ?_ rfl rfl (by simp;lia));have c2:=cut (some (at_+1)) none;refine Ju (G_ rfl (Wp.some (F_ (G_ rfl (H_ (Jr (eu.mk (Wp.none ⟨s,rfl,by lia,?_⟩)) rfl rfl))))));refine IS ?_ rfl rfl (by simp;lia);exact⟨_,rfl,cH (bx (bx c1.1 lc) c2.1) (by simp;lia)⟩
 refine ID (IV ⟨_,_,(rfl:bf _ _=some (.new (.lst (o1.map Dat.str)),_)),Ja ?_ (by trivial)⟩ (by decide));refine ID (IV (F_ (I_ rfl ⟨_,_,(rfl:bf _ _=some (.new (.lst (o2.map Dat.str)),_)),Jl (Ja ?_ (by trivial)) rfl rfl (by decide)⟩)) (by decide));have dn:=bR (v:=n) (k:=2) (by decide) (by lia);have nb:n<10 ^ 60:=HN n10 (by decide);refine ID (IV (F_ (I_ rfl (Jt (m_ (F_ (H_ (IY (m_ (G_ rfl (IC (JC ?_ rfl nb)))))))))) ) (by decide));refine IS ?_ rfl rfl (by show 4+_<=_;lia);refine m_ (H_ (m_ (F_ (F_ (H_ (H_ (JG ?_ rfl rfl (by decide))))))));refine H_ (IS ?_ rfl rfl (by rw[eH];decide));refine m_ (F_ (F_ (H_ (H_ (JG ?_ rfl rfl (by decide))))));refine H_ (IS ?_ rfl rfl (by rw[eH];decide));refine IC (Jf ?_ rfl rfl (by exact GH rfl));refine Jl (xs:=o1.map Dat.str++o2.map Dat.str) (ys:=(o3 n).map Dat.str) (Ja ?_ (by trivial)) rfl rfl (by show 18+4<=100000;decide);refine ID (IV (F_ (I_ rfl (Jt (m_ (F_ (F_ (H_ (F_ (H_ (H_ (JG ?_ rfl rfl (by decide)))))))))))) (by decide));refine IS ?_ rfl rfl (by rw[eH];decide);refine H_ (IS ?_ rfl rfl (by rw[Fl,eH];decide));refine m_ (Jh (H_ ⟨_,rfl,?_⟩));refine Jy (fun i:Nat=>Dat.int (0+(i:Nat))) (GO 61) tk Dat.str (ρ1:=[.sh (.int (n:Nat)),.sh (.str s),.sh (.lst [.int x,.int y,.int z]),.sh (.int kind),.sh (.int at_),.sh (.str [c]),.ow (.lst (o1.map Dat.str++o2.map Dat.str++(o3 n).map Dat.str))]) ?_ ?_ rfl (by decide) (by decide) fun i hi=>?_
 rotate_left
 ·apply Jm;exact J0 (H_ (eu.mk ⟨⟨rfl,rfl⟩,by decide,by decide⟩))
 ·have hi:=GL.mp hi;have di:=bR (v:=i) (k:=2) (by decide) (by lia);refine F_ (IY (m_ (G_ rfl (IC (JE (i:=0+(i:Nat)) (by lia) (by
   have:(100:Nat)<10 ^ 60:=by decide
   lia) ?_ rfl)))))
  have e:((0:Int)+(i:Nat)).toNat=i:=by lia
  rw[e];refine H_ (IS (IX ⟨rfl,rfl⟩) rfl rfl (by show _+4<=_;lia))
 refine⟨_,_,rfl,n8 _ _ (FQ vc (by decide)),?_⟩;refine IC (Jf ?_ rfl rfl (by exact GH rfl));refine Jl (xs:=o1.map Dat.str++o2.map Dat.str++(o3 n).map Dat.str) (ys:=o4.map Dat.str) (Ja ?_ (by trivial)) rfl rfl (by show 22+2<=100000;decide);refine ID (IM (IG (F_ (G_ rfl (H_ (Jk (IE ?_) rfl rfl))))));refine Jc (fun _=>?_) fun _=>IL ?_
 ·have hm:=bJ z 24 (by decide);have el:(o1++o2++o3 n++o4).length=24:=rfl;refine IF (F_ (I_ rfl (F_ (F_ (G_ rfl (H_ (IK (v:=.int z) ?_ rfl rfl rfl)))))));refine H_ (Jg ?_ rfl rfl (by decide));refine JB (ye:=Dat.str) (xs:=o1++o2++o3 n++o4) hm.1 (by rw[el];exact hm.2) ?_ (by rw[Hg,Hg,Hg];rfl) rfl;exact⟨_,rfl,yg n n10 _ (Ib _)⟩
 ·refine IF (F_ (F_ (G_ rfl (H_ (IS ?_ rfl rfl (by show _+2<=_;lia))))));refine G_ rfl (IS ?_ rfl rfl (by rw[Fl];show _+2+_<=_;lia));exact⟨_,rfl,cH (bx (bx hs (bX rfl)) hs) (by rw[Fl,Fl];show _+2+_<=_;lia)⟩
noncomputable abbrev EZ(D:List Tie):Prop:=D.Pairwise fun t u=>t.m<u.m
theorem Good.lo:∀{r:List Tie} {lo:Int},Good n lo r->∀t∈r,lo<=t.m
 |[],_,_,t,h=>by cases h
 |x::r,lo,g,t,h=>by
  rcases F9.mp h with rfl | h
  ·exact g.1
  ·have:=Good.lo g.2.2.2.2 t h;have:=g.1;lia
theorem Good.mem:∀{r:List Tie} {lo:Int},Good n lo r->∀t∈r,0<=t.a/\t.a<=t.b/\t.b<n
 |[],_,_,t,h=>by cases h
 |x::r,lo,g,t,h=>by
  rcases F9.mp h with rfl | h
  ·exact⟨g.2.1,g.2.2.1,g.2.2.2.1⟩
  ·exact Good.mem g.2.2.2.2 t h
theorem Good.zd:∀{r:List Tie} {lo:Int},Good n lo r->EZ r
 |[],_,_=>List.Pairwise.nil
 |x::r,lo,g=>HR.mpr ⟨fun u hu=>by have:=Good.lo g.2.2.2.2 u hu;lia,Good.zd g.2.2.2.2⟩
theorem ze(o:Option (List Tie)){a b:Option Dat}(k:K (.val (.bl false)))(ha:a=some (rdV o).dat)(hb:b=some (rdV o).dat):Wg2 gNe a b K:=by
 refine⟨_,_,_,ha,hb,?_,k⟩;have e:okD 8 (rdV o).dat=true/\eqD (rdV o).dat (rdV o).dat=true:=by
  cases o with
  |none=>exact⟨rfl,rfl⟩
  |some r=>
   refine⟨zb eE r fun t=>rfl,?_⟩;show eqD (dg r) (dg r)=true;unfold dg;rw[eqD];clear ha hb
   induction r with
   |nil=>rfl
   |cons b bs ih=>rw[gV,lR,ih];simp[eE,eqD,lR]
 unfold gNe;rw[e.1,e.2];rfl
theorem yh{n:Int}(k:K (.val (.bl false)))(ho:o=some (rdV (some r)).dat)(hp:p=some (dg r)):Wg2 gNe o p K:=ze (some r) k ho (by rw[hp];rfl)
theorem A_{f:List Dat->Option RV}{ds:List Dat}{o:Option (List Tie)}(e:f ds=some (rdV o)){ρ:Env}{xs:List Val}{Q:Val->Env->Prop}(q:Q (rdV o).aH ρ)(h1:pks ρ xs=some ds)(h2:tks ρ xs=some (ds,ρ)):WF f ρ xs Q:=by
 cases o with
 |none=>exact IJ e q h1 rfl
 |some r=>exact Jd e q h1 rfl h2 rfl
theorem zf(o:Option (List Tie))(ρ:Env):pk ρ (rdV o).aH=some (rdV o).dat:=by cases o<;>rfl
theorem vd(x:Nat)(ns:List Int)(cell:Int)(c2 c3 c4 c5 c6:Cell){R:RV->Env->Prop}{B C:Env->Prop}{N:Env->Prop}(k:∀c2 c3 c4 c5 c6:Cell,N [.sh (.lst (ns.map Dat.int)),.sh (.int cell),c2,c3,c4,c5,c6]) :
  Ws (pD x) [.sh (.lst (ns.map Dat.int)),.sh (.int cell),c2,c3,c4,c5,c6] N R B C:=by
 unfold pD;have sz:SZ=100000:=rfl;refine ID (IV (IP (m_ (G_ rfl (m_ (H_ (m_ (F_ (H_ (H_ (pH (IC (Jd (pF cell 45 (by decide)) ?_ rfl rfl rfl rfl)) rfl rfl)))))))))) (by decide));refine Ja ?_ (by trivial);have ln:(numsOf cell 45).length=45:=nX cell 45 0 _;obtain⟨a,b,c,uL,en⟩:∃a b c uL,numsOf cell 45=a::b::c::uL:=by
  match h:numsOf cell 45,ln with
  |a::b::c::uL,_=>exact⟨a,b,c,uL,rfl⟩
 have lr:uL.length=42:=by rw[en]at ln;simpa using ln
 rw[en];have i3:∀(l:List Int) (d:Nat),sIx (a::b::c::l).length d (some 3)=3:=fun l d=>by
  unfold sIx;dsimp only;rw[if_neg (by decide)];have:((a::b::c::l).length:Int)=(l.length:Int)+3:=by simp[Dp];lia
  rw[this]
  lia
 have E1:∀l:List Int,i8 (a::b::c::l) (some 3) none=l:=fun l=>by unfold i8;rw[i3];show List.take _ l=l;exact List.take_of_length_le (by show _<=(a::b::c::l).length-3;simp)
 have Dt:∀l:List Int,i8 (a::b::c::l) none (some 3)=[a,b,c]:=fun l=>by unfold i8;rw[i3];rfl
 obtain⟨n,r,er,n1,n10,hg,hh,hl⟩:=r9 uL 12 (by lia) (by lia) (by decide) (by decide);have tok:∀t∈r,TOk n t:=fun t ht=>by obtain⟨h1,h2,h3⟩:=hg.mem t ht;exact⟨hg.lo t ht,Ic (hh t ht) (by decide),h1,h2,h3⟩
 have Du:r.length<=12:=by lia
 have up:(r.map (·.m)).Pairwise (· < ·):=List.pairwise_map.mpr hg.zd;refine ID (JN (IP (m_ (JD (I_ rfl (Wp.some (H_ (eu.mk (Wp.none (Wsl.A (ye:=Dat.int) (xs:=a::b::c::uL) ?_ rfl))))))))));rw[E1];refine m_ (H_ (IC (Jd er ?_ rfl rfl rfl rfl)));refine IX ⟨_,_,rfl,rfl,?_⟩;obtain⟨tl,tn⟩:=text_lo n10 tok Du;have ta:asc (textOf r):=cH tl (by lia);refine ID (IV (IP (m_ (G_ rfl (IC (IJ (n9 n10 tok Du) (I0 ?_ (by trivial)) rfl rfl))))) (by decide));refine ID (IM (IG (F_ (IP (m_ (G_ rfl (m_ (G_ rfl (IC (A_ (dj x n1 n10 ta) ?_ rfl rfl))))))))));rw[yd n10 tok up (by lia)];refine G_ rfl (yh (n:=n) (r:=r) (IE (IQ rfl (IL ?_))) rfl rfl);obtain⟨m,rfl⟩:∃m:Nat,n=m:=⟨n.toNat,by lia⟩
 obtain⟨w,ew,aw⟩:=sr (n:=m) (by lia) tl tn a b c;refine ID (IV (IP (m_ (G_ rfl (m_ (G_ rfl (m_ (JD (I_ rfl (Wp.none (Wp.some (H_ (eu.mk (Wsl.A (ye:=Dat.int) (xs:=a::b::c::uL) ?_ rfl))))))))))))) (by decide));rw[Dt];refine IC (IJ ew (I0 ?_ (by trivial)) rfl rfl);refine ID (IM (IG (F_ (IP (m_ (G_ rfl (m_ (G_ rfl (IC (A_ (dj x n1 n10 aw) ?_ rfl rfl))))))))));refine IP (m_ (G_ rfl (m_ (G_ rfl (IC (A_ (pJ aw) ?_ rfl rfl))))));refine ze _ (IE (IQ rfl (IL ?_))) (zf _ _) (zf _ _);have a1:asc (textOf r++[32]):=cH (bx tl (bX rfl)) (by rw[Fl];show _+1<=_;lia);have a2:asc (32::textOf r):=cH (bx (a:=[32]) (bX rfl) tl) (by rw[Dp];lia);refine IM (Jb (IG (F_ (IP (m_ (G_ rfl (m_ (F_ (G_ rfl (H_ (IS ?_ rfl rfl (by show _+1<=_;lia))))))))))));have q1:=dj x n1 n10 a1;rw[pL]at q1;refine IC (IJ q1 ?_ rfl rfl);refine H_ (JY (IE (IQ rfl ?_)) rfl rfl);refine IG (F_ (IP (m_ (G_ rfl (m_ (F_ (H_ (G_ rfl (IS ?_ rfl rfl (by show 1+_<=_;lia))))))))));have q2:=dj x n1 n10 a2;rw[sq]at q2;refine IC (IJ q2 ?_ rfl rfl);refine H_ (JY (IE (IQ rfl (IL ?_))) rfl rfl);exact k _ _ _ _ _
theorem math(x:Nat)(ns:List Int)(h:ns.length<=63):jK x [.lst (ns.map Dat.int)]=some (.val (.bl true)):=by
 apply IU;unfold jK
 (refine Dm.IT ?_ rfl rfl;and_intros)
 have hc:=uI ns none (some 15);refine ID (Jw (JO (F_ (JD (G_ rfl (Wp.none (Wp.some (H_ (eu.mk (Wsl.A (ye:=Dat.int) (xs:=ns) ?_ rfl))))))))));refine Jt (m_ (IY (m_ (G_ rfl (IC (Jx (ye:=Dat.int) (xs:=ns) (IC (Jf ?_ rfl rfl (by exact GH rfl))) rfl))))));refine Jl ?_ rfl rfl (by rw[Fw];show _+1<=100000;lia);refine Jv (je ?_);have e:(i8 ns none (some 15)).map Dat.int++[.int (ns.length:Nat)]=(i8 ns none (some 15)++[((ns.length:Nat):Int)]).map Dat.int:=by rw[Hg];rfl
 rw[e];refine JH Dat.int _ _ (i8 ns none (some 15)++[((ns.length:Nat):Int)]) _ _ _ _ _ (fun p q ρ=>∃c1 c2 c3 c4 c5 c6:Cell,ρ=[.sh (.lst (ns.map Dat.int)),c1,c2,c3,c4,c5,c6]) ⟨_,_,_,_,_,_,rfl⟩ ?_ ?_
 ·rintro p cell q ρ ex ⟨c1,c2,c3,c4,c5,c6,rfl⟩;refine Dm.l8 rfl (by trivial) ?_;exact vd x ns cell _ _ _ _ _ fun c2 c3 c4 c5 c6=>⟨_,_,_,_,_,_,rfl⟩
 ·rintro ρ ⟨c1,c2,c3,c4,c5,c6,rfl⟩;exact IF (H_ rfl)
end
end P
namespace Q
open PySem L2 Br Dm P
noncomputable def top(i:Nat):Stmt:=PySem.Challenge.pw_sinceply_k56_texts_misread.main.body.getD i (.Pass ⟨0,0,0,0⟩)
structure Txt(mg:Str->Option Value)(K:fj)(base:Heap)(pO pP pQ pR pS pT pU pV pW pX jT jU iR jV jW jX jY jZ j0 j3 j4 j5 j6 j7 dm dw cA b5 dB aB cP bz:Addr)(j8 j9 j_ kc kg kh ki kj ko kq gk gm fq gp gq gu gv gw gx gy gA gB gC iF:FuncData):Prop where
 yi:mg "Clash" = some (.ref dm)
 yj:mg "NoNet" = some (.ref dw)
 su:mg "NoPaper" = some (.ref cA)
 pY:mg "NoPlaces" = some (.ref b5)
 yk:mg "NoRow" = some (.ref dB)
 ve:mg "NoText" = some (.ref aB)
 vf:mg "NoTies" = some (.ref cP)
 pZ:mg "PlyError" = some (.ref bz)
 p5:PyProof.Rows.OwnCls "NoText" aB bmV "ValueError.__new__" mg base
 gD:kY K aB
 fu:GA K (.ref aB) (.type "ValueError")=some true
 gE:PySem.W.lY K aB bz
 iG:GA K (.ref aB) (.ref aB)=some true
 aU:HK K (.ref aB) (([dm,dw,cA,b5,dB,cP]:List Addr).map GC)=some false
 mE:mg "ValueError" = none
 vg:mg "all" = none
 Ba:mg "bool" = none
 qQ:mg "int" = none
 bK:mg "isinstance" = none
 fX:mg "len" = none
 Bb:mg "list" = none
 Dv:mg "max" = none
 qR:mg "min" = none
 g9:mg "range" = none
 lD:mg "str" = none
 ym:mg "tuple" = none
 mF:∃t,mg "FIGURES" = some (.str ⟨([48,49,50,51,52,53,54,55,56,57]:List Nat).toArray⟩ t)
 g_:∃t,mg "MOST_FIGURES" = some (.int 60 t)
 kr:∃t,mg "MOST_TIES" = some (.int 60 t)
 h_:∃t,mg "WITHOUT_TIES" = some (.str ⟨([110,111,110,101]:List Nat).toArray⟩ t)
 E2:mg "is_whole" = some (.ref pO)
 Bc:mg "is_within" = some (.ref pP)
 E3:mg "is_places" = some (.ref pQ)
 Dw:mg "is_place" = some (.ref pR)
 E4:mg "is_moment" = some (.ref pS)
 E5:mg "is_tie_either_way" = some (.ref pT)
 E6:mg "is_tie" = some (.ref pU)
 E7:mg "is_rising" = some (.ref pV)
 Dy:mg "is_record" = some (.ref pW)
 Bd:mg "read_number" = some (.ref pX)
 Dz:mg "read_tie" = some (.ref jT)
 zg:mg "read_ties" = some (.ref jU)
 zh:mg "read_record" = some (.ref iR)
 DB:mg "_law_mixed" = some (.ref jV)
 DC:mg "_law_numbers" = some (.ref jW)
 DG:mg "_law_ends" = some (.ref jX)
 DH:mg "_law_record" = some (.ref jY)
 DJ:mg "_law_text" = some (.ref jZ)
 vh:mg "_law_number" = some (.ref j0)
 DK:mg "_law_tie" = some (.ref j3)
 DL:mg "_law_due" = some (.ref j4)
 DM:mg "_law_spoilt" = some (.ref j5)
 qS:mg "_law_read" = some (.ref j6)
 Fb:mg "law" = some (.ref j7)
 DN:Fun K "is_whole" "is_whole" (top 10) pO j8
 Be:Binds K j8 ["thing"] []
 yo:Fun K "is_within" "is_within" (top 11) pP j9
 vj:Binds K j9 ["thing","low","high"] []
 DO:Fun K "is_places" "is_places" (top 12) pQ j_
 Bf:Fun K "is_place" "is_place" (top 13) pR kc
 DP:Fun K "is_moment" "is_moment" (top 14) pS kg
 yp:Binds K kc ["n","thing"] []
 Bg:Binds K kg ["thing"] []
 DQ:Fun K "is_tie_either_way" "is_tie_either_way" (top 15) pT kh
 Bj:Binds K kh ["n","thing"] []
 DR:Fun K "is_tie" "is_tie" (top 16) pU ki
 DU:Fun K "is_rising" "is_rising" (top 17) pV kj
 Bk:Binds K j_ ["thing"] []
 Bl:Binds K ki ["n","thing"] []
 Bm:Binds K kj ["things"] []
 Bo:Fun K "is_record" "is_record" (top 20) pW ko
 yq:Fun K "read_number" "read_number" (top 28) pX kq
 vm:Binds K kq ["word"] []
 zj:Fun K "read_tie" "read_tie" (top 27) jT gk
 vn:Binds K gk ["word"] []
 vo:Fun K "read_ties" "read_ties" (top 26) jU gm
 yr:Binds K ko ["n","thing"] []
 qT:Binds K gm ["text"] []
 qU:Fun K "read_record" "read_record" (top 25) iR fq
 zk:Fun K "_law_mixed" "_law_mixed" (top 30) jV gp
 vp:Binds K gp ["cell","k"] []
 zl:Fun K "_law_numbers" "_law_numbers" (top 31) jW gq
 zm:Fun K "_law_ends" "_law_ends" (top 32) jX gu
 vq:Binds K gu ["n","kind","one","other"] []
 zo:Fun K "_law_record" "_law_record" (top 33) jY gv
 zp:Fun K "_law_text" "_law_text" (top 34) jZ gw
 qV:Fun K "_law_number" "_law_number" (top 35) j0 gx
 n_:Binds K gx ["word"] []
 zq:Fun K "_law_tie" "_law_tie" (top 36) j3 gy
 vt:Binds K gy ["n","part"] []
 zu:Fun K "_law_due" "_law_due" (top 37) j4 gA
 zv:Fun K "_law_spoilt" "_law_spoilt" (top 38) j5 gB
 qW:Binds K fq ["n","text"] []
 oi:Fun K "_law_read" "_law_read" (top 39) j6 gC
 vv:Binds K gq ["cell","many","base"] []
 vz:Binds K gv ["numbers","most"] []
 vA:Binds K gw ["record"] []
 vC:Binds K gA ["n","text"] []
 vD:Binds K gB ["n","text","numbers"] []
 lE:Binds K gC ["n","text"] []
 DV:Fun K "law" "law" (top 40) j7 iF
section
variable{P':Program}{w:World}{K:fj}{mg:Str->Option Value}{base:Heap}{pO pP pQ pR pS pT pU pV pW pX jT jU iR jV jW jX jY jZ j0 j3 j4 j5 j6 j7 dm dw cA b5 dB aB cP bz:Addr}
variable{j8 j9 j_ kc kg kh ki kj ko kq gk gm fq gp gq gu gv gw gx gy gA gB gC iF:FuncData}
theorem DX:aD ["thing"] ["thing"] (af (top 10)):=fsc
theorem DY:aD ["thing","low","high"] ["thing","low","high"] (af (top 11)):=fsc
theorem DZ:aD ["thing"] ["thing"] (af (top 12)):=fsc
theorem D0:aD ["n","thing"] ["n","thing"] (af (top 13)):=fsc
theorem D3:aD ["thing"] ["thing"] (af (top 14)):=fsc
theorem D4:aD ["n","thing"] ["n","thing"] (af (top 15)):=fsc
theorem D5:aD ["n","thing"] ["n","thing"] (af (top 16)):=fsc
theorem D6:aD ["things"] ["things"] (af (top 17)):=fsc
theorem Bp:(["things","at"]:List Str).Nodup:=by decide +kernel
theorem D7:aD ["n","thing"] ["n","thing"] (af (top 20)):=fsc
theorem Bq:(["n","thing","tie"]:List Str).Nodup:=by decide +kernel
theorem Bs:(["n","thing","tie"]:List Str).Nodup:=by decide +kernel
theorem D8:aD ["word"] ["word"] (af (top 28)):=fsc
theorem Bt:(["word","sign"]:List Str).Nodup:=by decide +kernel
theorem p6:aD ["word","first","ends"] ["word"] (af (top 27)):=fsc
theorem Bu:aD ["text"] ["text"] (af (top 26)):=fsc
theorem yt:(["text","word"]:List Str).Nodup:=by decide +kernel
theorem mG:aD ["n","text","record"] ["n","text"] (af (top 25)):=fsc
theorem p7:aD ["cell","k","number"] ["cell","k"] (af (top 30)):=fsc
theorem dJ:aD ["cell","many","base","found","left","k","number","turns"] ["cell","many","base"] (af (top 31)):=fsc
theorem vE:aD ["n","kind","one","other","a"] ["n","kind","one","other"] (af (top 32)):=fsc
theorem cR:aD ["numbers","most","n","many","wide","moment","record","k","a","b"] ["numbers","most"] (af (top 33)):=fsc
theorem Bv:aD ["record"] ["record"] (af (top 34)):=fsc
theorem yu:(["record","tie"]:List Str).Nodup:=by decide +kernel
theorem vF:aD ["word","sign"] ["word"] (af (top 35)):=fsc
theorem fy:aD ["n","part","moment","colon","ends","a","dash","b","tie"] ["n","part"] (af (top 36)):=fsc
theorem p8:aD ["n","text","found","at"] ["n","text"] (af (top 37)):=fsc
theorem yw:(["n","text","found","at","part"]:List Str).Nodup:=by decide +kernel
theorem fB:aD ["n","text","numbers","kind","at","sign","some"] ["n","text","numbers"] (af (top 38)):=fsc
theorem yx:(["n","text","numbers","kind","at","sign","some","k"]:List Str).Nodup:=by decide +kernel
theorem gF:aD ["n","text","caught","found","e"] ["n","text"] (af (top 39)):=fsc
theorem gG:aD ["script","cell","numbers","n","record","text","spoilt"] ["script"] (af (top 40)):=fsc
variable(T:Txt mg K base pO pP pQ pR pS pT pU pV pW pX jT jU iR jV jW jX jY jZ j0 j3 j4 j5 j6 j7 dm dw cA b5 dB aB cP bz j8 j9 j_ kc kg kh ki kj ko kq gk gm fq gp gq gu gv gw gx gy gA gB gC iF)
include T
theorem D9 :
  bM P' w K mg base CX0 1 pO j8 ["thing"] (spD A2):=
 okQ T.DN DX fun _ _ _ _ _ _ hr=>(av (s_r (ny (qt wX (by rfl) rfl T.qQ rfl T.bK (d_v 0)) (qq (CK (qt tU (by rfl) rfl T.Ba rfl T.bK (d_v 0)))))))
theorem vG :
  bM P' w K mg base CX0 2 pP j9 ["thing","low","high"] (spD i9):=
 okQ T.yo DY fun _ _ _ _ _ _ hr=>(av (s_r (ny (aG (D9 T) (Br.hm hr) rfl T.E2 T.DN.kp T.Be (aa (d_v 0) ai)) (qq (wY jo jy jo jy (d_v 1) (d_v 0) (d_v 2))))))
theorem D_ :
  bM P' w K mg base CX0 3 pQ j_ ["thing"] (spD xX):=
 okQ T.DO DZ fun _ _ _ _ _ _ hr=>(av (s_r (aG (vG T) (Br.hm hr) rfl T.Bc T.yo.kp T.vj (aa (d_v 0) (aa d_i (aa d_i ai))))))
theorem zw :
  bM P' w K mg base CX0 3 pR kc ["n","thing"] (spD uO):=
 okQ T.Bf D0 fun _ _ _ _ _ _ hr=>(av (s_r (aG (vG T) (Br.hm hr) rfl T.Bc T.yo.kp T.vj (aa (d_v 1) (aa d_i (aa (nv (d_v 0) d_i) ai))))))
theorem Ea :
  bM P' w K mg base CX0 3 pS kg ["thing"] (spD xY):=
 okQ T.DP D3 fun _ _ _ _ _ _ hr=>(av (s_r (aG (vG T) (Br.hm hr) rfl T.Bc T.yo.kp T.vj (aa (d_v 0) (aa d_i (aa (kT d_i d_i) ai))))))
theorem Eb :
  bM P' w K mg base CX0 4 pT kh ["n","thing"] (spD xZ):=
 okQ T.DQ D4 fun _ _ _ _ _ _ hr=>(ah (ck (t_w (w_or (e_ (fU (qt kit_tuple (by rfl) rfl T.ym rfl T.bK (d_v 1)))) (iN (tS hr (jz rfl T.fX (aa (d_v 1) ai)) d_i)))) (av (s_r d_b)) aW)
  (av (s_r (ny (aG (Ea T) (Br.hm hr) rfl T.E4 T.DP.kp T.Bg (aa (bw (d_v 1) d_i) ai)) (ny (aG (zw T) (Br.hm hr) rfl T.Dw T.Bf.kp T.yp (aa (d_v 0) (aa (bw (d_v 1) d_i) ai))) (qq (aG (zw T) (Br.hm hr) rfl T.Dw T.Bf.kp T.yp (aa (d_v 0) (aa (bw (d_v 1) d_i) ai)))))))))
theorem Ec :
  bM P' w K mg base CX0 5 pU ki ["n","thing"] (spD x6):=
 okQ T.DR D5 fun _ _ _ _ _ _ hr=>(av (s_r (ny (aG (Eb T) (Br.hm hr) rfl T.E5 T.DQ.kp T.Bj (aa (d_v 0) (aa (d_v 1) ai))) (qq (ED (bw (d_v 1) d_i) (bw (d_v 1) d_i))))))
theorem Ed :
  bM P' w K mg base CX0 1 pV kj ["things"] (spD x8):=
 okQ T.DU D6 fun _ _ _ _ _ _ hr=>(av (s_r (t9 rfl rfl T.vg (aa (w6 ["things"] ["at"] (c_n 1 Bp rfl rfl) (CL rfl T.g9 (aa d_i (aa (jz rfl T.fX (aa (d_v 0) ai)) ai))) (fun _ _ _ _ _=>ff) (fun _ _ _ _ _=>(EC (bw (d_v 0) (nv (d_v 1) d_i)) (bw (d_v 0) (d_v 1))))) ai))))
theorem zx :
  bM P' w K mg base CX0 6 pW ko ["n","thing"] (spD jI):=by
 refine T.Bo.ok D7 (fun vs H Q E h=>jt h) (fun cdv A outer s H vs Q E hr h=>?_);obtain⟨ia,oj⟩:=T.kr;exact ⟨_,(ah (ck (t_w (w_or (e_ (fU (aG (D_ T) (Br.hm hr) rfl T.E3 T.DO.kp T.Bk (aa (d_v 0) ai)))) (w_or (e_ (fU (qt tW (by rfl) rfl T.Bb rfl T.bK (d_v 1)))) (iN (tT (jz rfl T.fX (aa (d_v 1) ai)) (d_g rfl oj)))))) (av (s_r d_b)) aW)
  (ah (ck (e_ (fU (t9 rfl rfl T.vg (aa (ue 1 ["n","thing"] ["tie"] (c_n 2 Bq rfl rfl) (d_v 1) (fun _ _ _ _ _=>ff) (fun _ _ _ _ _=>(aG (Ec T) (Br.hm hr) rfl T.E6 T.DR.kp T.Bl (aa (d_v 0) (aa (d_v 2) ai))))) ai)))) (av (s_r d_b)) aW)
  (av (s_r (aG (Ed T) (Br.hm hr) rfl T.E7 T.DU.kp T.Bm (aa (ue 1 ["n","thing"] ["tie"] (c_n 2 Bs rfl rfl) (d_v 1) (fun _ _ _ _ _=>ff) (fun _ _ _ _ _=>(bw (d_v 2) d_i))) ai)))))),wK (n:=2) (m:=0) rfl h⟩
theorem vH :
  bM P' w K mg base CX0 1 pX kq ["word"] (spD r8):=by
 refine T.yq.ok D8 (fun vs H Q E h=>jt h) (fun cdv A outer s H vs Q E hr h=>?_);obtain⟨ku,sy⟩:=T.mF;obtain⟨eX,kB⟩:=T.g_;exact ⟨_,(ah (ck (t_w (w_or (e_ (qy jo jy jo jy d_i (pq rfl T.fX (aa (d_v 0) ai)) (d_g rfl kB))) (iN (e_ (fU (t9 rfl rfl T.vg (aa (w6 ["word"] ["sign"] (c_n 1 Bt rfl rfl) (C_ (d_v 0)) (fun _ _ _ _ _=>ff) (fun _ _ _ _ _=>(Dc (d_v 1) (Df rfl sy)))) ai))))))) (av (s_r d_n)) aW)
  (ah (ck (t_w (w_and (gb hr (y9 (d_v 0) d_i) d_s) (Av (tS hr (d_v 0) d_s)))) (av (s_r d_n)) aW)
  (av (s_r (pB rfl T.qQ (aa (d_v 0) ai)))))),wK (n:=1) (m:=0) rfl h⟩
theorem Bw :
  bM P' w K mg base CX0 2 jT gk ["word"] (spD qC):=
 okQ T.zj p6 fun _ _ _ _ _ _ hr=>(ah (s_a 1 p6.nd (l7 (d_v 0) d_s))
  (ah (s_a 2 p6.nd (l7 (bw (d_v 1) d_i) d_s))
  (av (s_r (iM (aa (aG (vH T) (Br.hm hr) rfl T.Bd T.yq.kp T.vm (aa (bw (d_v 1) d_i) ai)) (aa (aG (vH T) (Br.hm hr) rfl T.Bd T.yq.kp T.vm (aa (bw (d_v 2) d_i) ai)) (aa (aG (vH T) (Br.hm hr) rfl T.Bd T.yq.kp T.vm (aa (bw (d_v 2) d_i) ai)) ai))))))))
theorem vJ :
  bM P' w K mg base CX0 3 jU gm ["text"] (spD fW):=by
 refine T.vo.ok Bu (fun vs H Q E h=>jt h) (fun cdv A outer s H vs Q E hr h=>?_);obtain⟨eY,kC⟩:=T.h_;exact ⟨_,(ah (ck (gb hr (d_v 0) (Df rfl kC)) (av (s_r (eT ai))) aW)
  (av (s_r (w6 ["text"] ["word"] (c_n 1 yt rfl rfl) (i_S (qB (d_v 0) d_s)) (fun _ _ _ _ _=>ff) (fun _ _ _ _ _=>(aG (Bw T) (Br.hm hr) rfl T.Dz T.zj.kp T.vn (aa (d_v 1) ai))))))),wK (n:=1) (m:=0) rfl h⟩
theorem Bx :
  bM P' w K mg base CX0 7 iR fq ["n","text"] (spD lq):=
 okQ T.qU mG fun _ _ _ _ _ _ hr=>(ah (s_a 2 mG.nd (aG (vJ T) (Br.hm hr) rfl T.zg T.vo.kp T.qT (aa (d_v 1) ai)))
  (ah (ck (e_ (fU (aG (zx T) (Br.hm hr) rfl T.Dy T.Bo.kp T.yr (aa (d_v 0) (aa (d_v 2) ai))))) (av wW) aW)
  (av (s_r (d_v 2)))))
theorem eK :
  bM P' w K mg base (CXE P' w aB) 7 iR fq ["n","text"] (spX aB bW):=by
 exact okY (n:=2) (m:=1) T.qU mG rfl rfl (fun cdv A outer s H E hr=>(C4 (s_a 2 mG.nd (aG (vJ T) (Br.hm hr) rfl T.zg T.vo.kp T.qT (aa (d_v 1) ai))) (uy (EL (e_ (fU (aG (zx T) (Br.hm hr) rfl T.Dy T.Bo.kp T.yr (aa (d_v 0) (aa (d_v 2) ai))))) (uy (y_x (x_raise T.p5 PySem.F.excBase_ValueError rfl))) EM))))
theorem By :
  bM P' w K mg base CX0 1 jV gp ["cell","k"] (spD qD):=
 okQ T.zk p7 fun _ _ _ _ _ _ hr=>(ah (s_a 2 p7.nd (bq (eS (bQ (bQ (bq (d_v 0) d_i) (eS d_i (d_v 1))) d_i) d_i) d_i))
  (ah (s_a 2 p7.nd (bq (bQ (bq (eS (d_v 2) (d_v 2)) d_i) (eS d_i (d_v 1))) d_i))
  (av (s_r (bq (eS (d_v 2) d_i) d_i)))))
theorem BA :
  bM P' w K mg base CX0 2 jW gq ["cell","many","base"] (spD qE):=
 okQ T.zl dJ fun _ _ _ _ _ _ hr=>(ah (s_a 3 dJ.nd (eT ai))
  (ah (s_a 4 dJ.nd (nv (d_v 0) (kT d_i d_i)))
  (ah (nA GY rfl (Aw rfl T.g9 (aa (d_v 1) ai)) (g_n 5 dJ.nd)
  (ah (s_a 6 dJ.nd (d_v 4))
  (ah (ck (tT (d_v 4) d_i) (av (s_a 4 dJ.nd (gR (d_v 4) (d_v 2)))) (ah (s_a 6 dJ.nd d_i)
  (ah (s_a 7 dJ.nd d_i)
  (av (EF 100 GY (EE (eS (d_v 7) d_i) (bQ (AE (d_v 2)) d_i))
  (ah (s_a 6 dJ.nd (bQ (eS (d_v 6) d_i) (aG (By T) (Br.hm hr) rfl T.DB T.zk.kp T.vp (aa (d_v 0) (aa (bQ (eS d_i (d_v 5)) (d_v 7)) ai)))))
  (av (s_a 7 dJ.nd (bQ (d_v 7) d_i)))))))))
  (av (yT 3 (bq (d_v 6) (d_v 2)))))))
  (av (s_r (d_v 3))))))
theorem BB :
  bM P' w K mg base CX0 1 jX gu ["n","kind","one","other"] (spD qF):=
 okQ T.zm vE fun _ _ _ _ _ _ hr=>(ah (s_a 4 vE.nd (bq (d_v 2) (d_v 0)))
  (ah (ck (gb hr (d_v 1) d_i) (av (s_r (iM (aa (d_v 4) (aa (bq (d_v 3) (d_v 0)) ai))))) aW)
  (ah (ck (gb hr (d_v 1) d_i) (av (s_r (iM (aa (bq (d_v 2) (o7 rfl rfl T.qR (aa (d_v 0) (aa d_i ai)))) (aa (bq (d_v 3) (o7 rfl rfl T.qR (aa (d_v 0) (aa d_i ai)))) ai))))) aW)
  (ah (ck (gb hr (d_v 1) d_i) (av (s_r (iM (aa (d_v 4) (aa (bq (bQ (bQ (d_v 4) d_i) (gR (bq (d_v 3) d_i) d_i)) (d_v 0)) ai))))) aW)
  (av (s_r (iM (aa (d_v 4) (aa (bq (bQ (d_v 4) (eS d_i (bq (d_v 3) (d_v 0)))) (d_v 0)) ai)))))))))
theorem BC :
  bM P' w K mg base CX0 2 jY gv ["numbers","most"] (spD qG):=
 okQ T.zo cR fun _ _ _ _ _ _ hr=>(ah (s_a 2 cR.nd (bQ d_i (bq (bw (d_v 0) d_i) d_i)))
  (ah (ck (gb hr (bq (gR (bw (d_v 0) d_i) d_i) d_i) d_i) (av (s_a 2 cR.nd (bQ d_i (bq (gR (bw (d_v 0) d_i) d_i) d_i)))) aW)
  (ah (s_a 3 cR.nd (bq (bw (d_v 0) d_i) d_i))
  (ah (ck (gb hr (bq (gR (bw (d_v 0) d_i) d_i) d_i) d_i) (av (s_a 3 cR.nd (bQ d_i (bq (gR (bw (d_v 0) d_i) d_i) d_i)))) aW)
  (ah (s_a 4 cR.nd (bw (eT (aa d_i (aa d_i (aa (kT d_i d_i) ai)))) (bq (bw (d_v 0) d_i) d_i)))
  (ah (s_a 5 cR.nd (bw (eT (aa d_i (aa (bq (gR (bw (d_v 0) d_i) d_i) d_i) (aa (bq (bw (d_v 0) d_i) (kT d_i d_i)) ai)))) (bq (gR (bw (d_v 0) d_i) d_i) d_i)))
  (ah (s_a 6 cR.nd (eT ai))
  (ah (nA GY rfl (Aw rfl T.g9 (aa (AB rfl rfl T.qR (aa (d_v 3) (aa (d_v 1) (aa (gR (nv (jz rfl T.fX (aa (d_v 0) ai)) d_i) d_i) ai)))) ai)) (g_n 7 cR.nd)
  (ah (s_u rfl (cM 8 cR.nd (cM 9 cR.nd lW)) (aG (BB T) (Br.hm hr) rfl T.DG T.zm.kp T.vq (aa (d_v 2) (aa (bq (bw (d_v 0) d_i) d_i) (aa (bw (d_v 0) (bQ d_i (eS d_i (d_v 7)))) (aa (bw (d_v 0) (bQ d_i (eS d_i (d_v 7)))) ai))))))
  (ah (yT 6 (iM (aa (d_v 5) (aa (o7 rfl rfl T.qR (aa (d_v 8) (aa (d_v 9) ai))) (aa (Au rfl rfl T.Dv (aa (d_v 8) (aa (d_v 9) ai))) ai)))))
  (av (s_a 5 cR.nd (bQ (bQ (d_v 5) d_i) (bq (bw (d_v 0) (bQ d_i (eS d_i (d_v 7)))) (d_v 4))))))))
  (av (s_r (iM (aa (d_v 2) (aa (d_v 6) ai)))))))))))))
theorem BE :
  bM P' w K mg base CX0 1 jZ gw ["record"] (spD qH):=
 okQ T.zp Bv fun _ _ _ _ _ _ hr=>(ah (ck (gb hr (d_v 0) (eT ai)) (av (s_r d_s)) aW)
  (av (s_r (uH d_s (ue 0 ["record"] ["tie"] (c_n 1 yu rfl rfl) (d_v 0) (fun _ _ _ _ _=>ff) (fun _ _ _ _ _=>(bI (bI (bI (bI (iB hr rfl T.lD (aa (bw (d_v 1) d_i) ai)) d_s) (iB hr rfl T.lD (aa (bw (d_v 1) d_i) ai))) d_s) (iB hr rfl T.lD (aa (bw (d_v 1) d_i) ai)))))))))
theorem p9 :
  bM P' w K mg base CX0 1 j0 gx ["word"] (spD lu):=
 okQ T.qV vF fun _ _ _ _ _ _ hr=>(ah (ck (e_ (qy jo jy jo jy d_i (pq rfl T.fX (aa (d_v 0) ai)) d_i)) (av (s_r d_n)) aW)
  (ah (nA GY rfl (C_ (d_v 0)) (g_n 1 vF.nd)
  (av (ck (AY (d_v 1) d_s) (av (s_r d_n)) aW)))
  (ah (ck (tS hr (iB hr rfl T.lD (aa (pB rfl T.qQ (aa (d_v 0) ai)) ai)) (d_v 0)) (av (s_r d_n)) aW)
  (av (s_r (pB rfl T.qQ (aa (d_v 0) ai)))))))
theorem BF :
  bM P' w K mg base CX0 2 j3 gy ["n","part"] (spD qI):=
 okQ T.zq fy fun _ _ _ _ _ _ hr=>(ah (s_u rfl (cM 2 fy.nd (cM 3 fy.nd (cM 4 fy.nd lW))) (l7 (d_v 1) d_s))
  (ah (s_u rfl (cM 5 fy.nd (cM 6 fy.nd (cM 7 fy.nd lW))) (l7 (d_v 4) d_s))
  (ah (s_a 8 fy.nd (iM (aa (aG (p9 T) (Br.hm hr) rfl T.vh T.qV.kp T.n_ (aa (d_v 2) ai)) (aa (aG (p9 T) (Br.hm hr) rfl T.vh T.qV.kp T.n_ (aa (d_v 5) ai)) (aa (aG (p9 T) (Br.hm hr) rfl T.vh T.qV.kp T.n_ (aa (d_v 7) ai)) ai)))))
  (ah (ck (t_w (w_or (CI hr d_n (d_v 8)) (w_or (gb hr (d_v 3) d_s) (iN (gb hr (d_v 6) d_s))))) (av (s_r d_n)) aW)
  (ah (ck (t_w (w_or (tT (bw (d_v 8) d_i) (kT d_i d_i)) (w_or (tT (bw (d_v 8) d_i) (bw (d_v 8) d_i)) (iN (CH (bw (d_v 8) d_i) (d_v 0)))))) (av (s_r d_n)) aW)
  (av (s_r (d_v 8))))))))
theorem BG :
  bM P' w K mg base CX0 3 j4 gA ["n","text"] (spD qJ):=
 okQ T.zu p8 fun _ _ _ _ _ _ hr=>(ah (ck (gb hr (d_v 1) d_s) (av (s_r (eT ai))) aW)
  (ah (EH 2 ["n","text","found","at"] ["part"] p8.nd (c_n 4 yw rfl rfl) (i_S (qB (d_v 1) d_s)) (fun _ _ _ _ _=>ff) (fun _ _ _ _ _=>(aG (BF T) (Br.hm hr) rfl T.DK T.zq.kp T.vt (aa (d_v 0) (aa (d_v 4) ai)))))
  (ah (ck (t_w (w_or (CI hr d_n (d_v 2)) (iN (tT (jz rfl T.fX (aa (d_v 2) ai)) d_i)))) (av (s_r d_n)) aW)
  (ah (nA GY rfl (CL rfl T.g9 (aa d_i (aa (jz rfl T.fX (aa (d_v 2) ai)) ai))) (g_n 3 p8.nd)
  (av (ck (CH (bw (bw (d_v 2) (nv (d_v 3) d_i)) d_i) (bw (bw (d_v 2) (d_v 3)) d_i)) (av (s_r d_n)) aW)))
  (av (s_r (d_v 2)))))))
theorem BH :
  bM P' w K mg base CX0 1 j5 gB ["n","text","numbers"] (spD nU):=
 okQ T.zv fB fun _ _ _ _ _ _ hr=>(ah (s_a 3 fB.nd (bq (bw (d_v 2) d_i) d_i))
  (ah (s_a 4 fB.nd (bq (bw (d_v 2) d_i) (bQ (pq rfl T.fX (aa (d_v 1) ai)) d_i)))
  (ah (s_a 5 fB.nd (y9 d_s (bq (bw (d_v 2) d_i) d_i)))
  (ah (ck (gb hr (d_v 3) d_i) (av (s_r (bI (bI (k_ (d_v 1) o_n (o_s (d_v 4))) (d_v 5)) (k_ (d_v 1) (o_s (d_v 4)) o_n)))) aW)
  (ah (ck (gb hr (d_v 3) d_i) (av (s_r (bI (k_ (d_v 1) o_n (o_s (d_v 4))) (k_ (d_v 1) (o_s (bQ (d_v 4) d_i)) o_n)))) aW)
  (ah (ck (gb hr (d_v 3) d_i) (av (s_r (bI (bI (k_ (d_v 1) o_n (o_s (d_v 4))) (d_v 5)) (k_ (d_v 1) (o_s (bQ (d_v 4) d_i)) o_n)))) aW)
  (@ah _ _ _ _ _ (@s_a _ _ _ _ 6 _ _ fB.nd (@eT _ _ _ _ (@aa _ _ _ _ _ d_s (@aa _ _ _ _ _ d_s (@aa _ _ _ _ _ d_s (@aa _ _ _ _ _ d_s (@aa _ _ _ _ _ d_s (@aa _ _ _ _ _ d_s (@aa _ _ _ _ _ d_s (@aa _ _ _ _ _ d_s (@aa _ _ _ _ _ d_s ai rfl) rfl) rfl) rfl) rfl) rfl) rfl) rfl) rfl)) rfl (by trivial) rfl (by trivial))
  (@ah _ _ _ _ _ (@s_a _ _ _ _ 6 _ _ fB.nd (@bQ _ _ _ _ _ _ (d_v 6) (@eT _ _ _ _ (@aa _ _ _ _ _ d_s (@aa _ _ _ _ _ d_s (@aa _ _ _ _ _ d_s (@aa _ _ _ _ _ d_s (@aa _ _ _ _ _ d_s (@aa _ _ _ _ _ d_s (@aa _ _ _ _ _ d_s (@aa _ _ _ _ _ d_s (@aa _ _ _ _ _ d_s ai rfl) rfl) rfl) rfl) rfl) rfl) rfl) rfl) rfl))) rfl (by trivial) rfl (by trivial))
  (ah (s_a 6 fB.nd (bQ (d_v 6) (eT (aa (bI d_s (iB hr rfl T.lD (aa (d_v 0) ai))) (aa d_s (aa (bI (pA d_s d_i) d_s) (aa (bI (pA d_s d_i) d_s) ai)))))))
  (ah (s_a 6 fB.nd (bQ (d_v 6) (eT (aa (bI (bI d_s (pA d_s d_i)) d_s) (aa (uH d_s (w6 ["n","text","numbers","kind","at","sign","some"] ["k"] (c_n 7 yx rfl rfl) (Aw rfl T.g9 (aa d_i ai)) (fun _ _ _ _ _=>ff) (fun _ _ _ _ _=>(bI (iB hr rfl T.lD (aa (d_v 7) ai)) d_s)))) ai)))))
  (ah (ck (gb hr (d_v 3) d_i) (av (s_r (bw (d_v 6) (bq (bw (d_v 2) d_i) d_i)))) aW)
  (av (s_r (bI (bI (d_v 1) d_s) (d_v 1)))))))))))))))
theorem mH :
  bM P' w K mg base CX0 8 j6 gC ["n","text"] (spD (jJ aB)):=
 okQ T.oi gF fun _ _ _ _ _ _ hr=>(ah (s_a 2 gF.nd d_n)
  (ah (s_a 3 gF.nd d_n)
  (ah (EK (AL (fun pn xe=>(av (s_a 3 gF.nd (aG (Bx T) (Br.hm hr) rfl T.zh T.qU.kp T.qW (aa (d_v 0) (aa (d_v 1) ai))))))) (AM (ie:=4) rfl rfl rfl gF.nd rfl rfl rfl T.pZ T.gE (fun pn xe E hp=>(uy (y_x (x_a 3 gF.nd (x_call (eK T) (Br.hm hr) rfl T.zh T.qU.kp T.qW hp (aa (d_v 0) (aa (d_v 1) ai))))))) (fun A' xe=>(av (s_a 2 gF.nd (d_v 4))))))
  (ah (ck (CQ (d_v 2) d_n) (av (s_r (d_v 3))) aW)
  (ah (ck (t_w (w_or (e_ (fU (uz (CV T.gD T.iG rfl T.ve rfl T.bK (d_v 2)) uA))) (iN (e_ (fU (uz (AJ T.gD T.fu rfl rfl T.mE rfl T.bK (d_v 2)) uA)))))) (av (s_r d_s)) aW)
  (ah (ck (fU (uz (C0 (Ds:=[dm,dw,cA,b5,dB,cP]) T.gD T.aU (iy rfl T.yi (iy rfl T.yj (iy rfl T.su (iy rfl T.pY (iy rfl T.yk (iy rfl T.vf CY)))))) (GH rfl) rfl T.bK (d_v 2)) uA)) (av (s_r d_s)) aW)
  (av (s_r d_n))))))))
theorem BI :
  bM P' w K mg base CX0 9 j7 iF ["script"] (spD (jK aB)):=
 okQ T.DV gG fun _ _ _ _ _ _ hr=>(ah (nA GY rfl (i_S (bQ (Ax (d_v 0) o_n (o_s d_i)) (eT (aa (jz rfl T.fX (aa (d_v 0) ai)) ai)))) (g_n 1 gG.nd)
  (ah (s_a 2 gG.nd (aG (BA T) (Br.hm hr) rfl T.DC T.zl.kp T.vv (aa (d_v 1) (aa d_i (aa (kT d_i d_i) ai)))))
  (ah (s_u rfl (cM 3 gG.nd (cM 4 gG.nd lW)) (aG (BC T) (Br.hm hr) rfl T.DH T.zo.kp T.vz (aa (Ax (d_v 2) (o_s d_i) o_n) (aa d_i ai))))
  (ah (s_a 5 gG.nd (aG (BE T) (Br.hm hr) rfl T.DJ T.zp.kp T.vA (aa (d_v 4) ai)))
  (ah (ck (tS hr (aG (mH T) (Br.hm hr) rfl T.qS T.oi.kp T.lE (aa (d_v 3) (aa (d_v 5) ai))) (d_v 4)) (av (s_r d_b)) aW)
  (ah (s_a 6 gG.nd (aG (BH T) (Br.hm hr) rfl T.DM T.zv.kp T.vD (aa (d_v 3) (aa (d_v 5) (aa (Ax (d_v 2) o_n (o_s d_i)) ai)))))
  (ah (ck (tS hr (aG (mH T) (Br.hm hr) rfl T.qS T.oi.kp T.lE (aa (d_v 3) (aa (d_v 6) ai))) (aG (BG T) (Br.hm hr) rfl T.DL T.zu.kp T.vC (aa (d_v 3) (aa (d_v 6) ai)))) (av (s_r d_b)) aW)
  (av (ck (t_w (w_or (uw (aG (mH T) (Br.hm hr) rfl T.qS T.oi.kp T.lE (aa (d_v 3) (aa (bI (d_v 5) d_s) ai))) d_n) (iN (uw (aG (mH T) (Br.hm hr) rfl T.qS T.oi.kp T.lE (aa (d_v 3) (aa (bI d_s (d_v 5)) ai))) d_n)))) (av (s_r d_b)) aW)))))))))
  (av (s_r d_b)))
end
theorem all_mk{l:Ii}{w:World}{K:fj}{h:Heap}{mg:Str->Option Value}{fa pO pP pQ pR pS pT pU pV pW pX jT jU iR jV jW jX jY jZ j0 j3 j4 j5 j6 j7 dm dw cA b5 dB aB cP bz:Addr}{j8 j9 j_ kc kg kh ki kj ko kq gk gm fq gp gq gu gv gw gx gy gA gB gC iF:FuncData}(X:K.In h)(G:h.Ns mainGlobals mg)(hfa:mg "law" = some (.ref fa))
  {ku:Tok}
  {eX:Tok}
  {ia:Tok}
  {eY:Tok}
  (vK:cF K "is_whole" (top 10) pO j8)
  (vL:cF K "is_within" (top 11) pP j9)
  (vM:cF K "is_places" (top 12) pQ j_)
  (vN:cF K "is_place" (top 13) pR kc)
  (vO:cF K "is_moment" (top 14) pS kg)
  (vP:cF K "is_tie_either_way" (top 15) pT kh)
  (vQ:cF K "is_tie" (top 16) pU ki)
  (vR:cF K "is_rising" (top 17) pV kj)
  (vS:cF K "is_record" (top 20) pW ko)
  (vU:cF K "read_number" (top 28) pX kq)
  (oq:cF K "read_tie" (top 27) jT gk)
  (ou:cF K "read_ties" (top 26) jU gm)
  (oz:cF K "read_record" (top 25) iR fq)
  (oA:cF K "_law_mixed" (top 30) jV gp)
  (oB:cF K "_law_numbers" (top 31) jW gq)
  (oE:cF K "_law_ends" (top 32) jX gu)
  (oF:cF K "_law_record" (top 33) jY gv)
  (oG:cF K "_law_text" (top 34) jZ gw)
  (oH:cF K "_law_number" (top 35) j0 gx)
  (oJ:cF K "_law_tie" (top 36) j3 gy)
  (oK:cF K "_law_due" (top 37) j4 gA)
  (oM:cF K "_law_spoilt" (top 38) j5 gB)
  (oN:cF K "_law_read" (top 39) j6 gC)
  (lF:cF K "law" (top 40) j7 iF)
  (eL:FU K mainGlobals "ValueError" = some none)
  (vV:FU K mainGlobals "all" = some none)
  (p_:FU K mainGlobals "bool" = some none)
  (vW:FU K mainGlobals "int" = some none)
  (eN:FU K mainGlobals "isinstance" = some none)
  (vX:FU K mainGlobals "len" = some none)
  (qc:FU K mainGlobals "list" = some none)
  (vY:FU K mainGlobals "max" = some none)
  (vZ:FU K mainGlobals "min" = some none)
  (mJ:FU K mainGlobals "range" = some none)
  (v5:FU K mainGlobals "str" = some none)
  (mK:FU K mainGlobals "tuple" = some none)
  (iH:FU K mainGlobals "FIGURES" = some (some (.str ⟨([48,49,50,51,52,53,54,55,56,57]:List Nat).toArray⟩ ku)))
  (c_:FU K mainGlobals "MOST_FIGURES" = some (some (.int 60 eX)))
  (fC:FU K mainGlobals "MOST_TIES" = some (some (.int 60 ia)))
  (dc:FU K mainGlobals "WITHOUT_TIES" = some (some (.str ⟨([110,111,110,101]:List Nat).toArray⟩ eY)))
  (mL:FU K mainGlobals "Clash" = some (some (.ref dm)))
  (mQ:FU K mainGlobals "NoNet" = some (some (.ref dw)))
  (iI:FU K mainGlobals "NoPaper" = some (some (.ref cA)))
  (gH:FU K mainGlobals "NoPlaces" = some (some (.ref b5)))
  (mR:FU K mainGlobals "NoRow" = some (some (.ref dB)))
  (ic:FU K mainGlobals "NoText" = some (some (.ref aB)))
  (kD:FU K mainGlobals "NoTies" = some (some (.ref cP)))
  (gI:FU K mainGlobals "PlyError" = some (some (.ref bz)))
  (eO:Ip K aB bmV "ValueError.__new__" = true)
  (fD:Ho K (.ref aB) "__getattribute__" = some (some (.builtin "BaseException.__getattribute__")))
  (fE:Ho K (.ref aB) "__getattr__" = some none)
  (fF:Ho K (.ref aB) "__class__" = some (some (.builtin "object.__class__")))
  (fG:Hr K aB (.type "BaseException")=some true)
  (fH:Hr K aB (.type "object")=some true)
  (fJ:(Io K aB).isSome=true)
  (bL:GA K (.ref aB) (.type "ValueError")=some true)
  (dM:PySem.W.typeIn K (.ref bz)=some (.type "type"))
  (dN:(Io K bz).isSome=true)
  (dO:Hr K bz (.type "BaseException")=some true)
  (b7:Hr K aB (.ref bz)=some true)
  (cu:GA K (.ref aB) (.ref aB)=some true)
  (aq:HK K (.ref aB) (([dm,dw,cA,b5,dB,cP]:List Addr).map GC)=some false) :
  ∃fd:FuncData,(∀(s:Shared) (v:Value),BindsTo s fd ⟨[v],[]⟩ [("script",v)])/\∀base:Heap,K.In base->base.Ns mainGlobals mg->bM l.prog w K mg base CX0 9 fa fd ["script"] (spD (jK aB)):=by
 have e:=hfa.symm.trans (lF.m X G);cases e;have Be:=vK.F.ef (ps:=["thing"]) rfl fun _ _ _ _ _ _ _=>rfl;have vj:=vL.F.o9 (ps:=["thing","low","high"]) rfl fun _ _ _ _ _ _ _ _ _=>rfl;have Bk:=vM.F.ef (ps:=["thing"]) rfl fun _ _ _ _ _ _ _=>rfl;have yp:=vN.F.dG (ps:=["n","thing"]) rfl fun _ _ _ _ _ _ _ _=>rfl;have Bg:=vO.F.ef (ps:=["thing"]) rfl fun _ _ _ _ _ _ _=>rfl;have Bj:=vP.F.dG (ps:=["n","thing"]) rfl fun _ _ _ _ _ _ _ _=>rfl;have Bl:=vQ.F.dG (ps:=["n","thing"]) rfl fun _ _ _ _ _ _ _ _=>rfl;have Bm:=vR.F.ef (ps:=["things"]) rfl fun _ _ _ _ _ _ _=>rfl;have yr:=vS.F.dG (ps:=["n","thing"]) rfl fun _ _ _ _ _ _ _ _=>rfl;have vm:=vU.F.ef (ps:=["word"]) rfl fun _ _ _ _ _ _ _=>rfl;have vn:=oq.F.ef (ps:=["word"]) rfl fun _ _ _ _ _ _ _=>rfl;have qT:=ou.F.ef (ps:=["text"]) rfl fun _ _ _ _ _ _ _=>rfl;have qW:=oz.F.dG (ps:=["n","text"]) rfl fun _ _ _ _ _ _ _ _=>rfl;have vp:=oA.F.dG (ps:=["cell","k"]) rfl fun _ _ _ _ _ _ _ _=>rfl;have vv:=oB.F.o9 (ps:=["cell","many","base"]) rfl fun _ _ _ _ _ _ _ _ _=>rfl;have vq:=oE.F.AK (ps:=["n","kind","one","other"]) rfl fun _ _ _ _ _ _ _ _ _ _=>rfl;have vz:=oF.F.dG (ps:=["numbers","most"]) rfl fun _ _ _ _ _ _ _ _=>rfl;have vA:=oG.F.ef (ps:=["record"]) rfl fun _ _ _ _ _ _ _=>rfl;have n_:=oH.F.ef (ps:=["word"]) rfl fun _ _ _ _ _ _ _=>rfl;have vt:=oJ.F.dG (ps:=["n","part"]) rfl fun _ _ _ _ _ _ _ _=>rfl;have vC:=oK.F.dG (ps:=["n","text"]) rfl fun _ _ _ _ _ _ _ _=>rfl;have vD:=oM.F.o9 (ps:=["n","text","numbers"]) rfl fun _ _ _ _ _ _ _ _ _=>rfl;have lE:=oN.F.dG (ps:=["n","text"]) rfl fun _ _ _ _ _ _ _ _=>rfl;refine⟨_,fun s v=>lF.EJ (fun _ _ _ _ _ _ _=>rfl) s v,fun base Xb _=>?_⟩;have T:Txt mg K base ..:=⟨mgo X G mL,mgo X G mQ,mgo X G iI,mgo X G gH,mgo X G mR,mgo X G ic,mgo X G kD,mgo X G gI,uv Xb (mgo X G ic) eO,⟨⟨fD,fE,fF,fG,fH⟩,fJ⟩,bL,⟨dM,dN,dO,b7⟩,cu,aq,mno X G eL,mno X G vV,mno X G p_,mno X G vW,mno X G eN,mno X G vX,mno X G qc,mno X G vY,mno X G vZ,mno X G mJ,mno X G v5,mno X G mK,⟨_,mgo X G iH⟩,⟨_,mgo X G c_⟩,⟨_,mgo X G fC⟩,⟨_,mgo X G dc⟩,vK.m X G,vL.m X G,vM.m X G,vN.m X G,vO.m X G,vP.m X G,vQ.m X G,vR.m X G,vS.m X G,vU.m X G,oq.m X G,ou.m X G,oz.m X G,oA.m X G,oB.m X G,oE.m X G,oF.m X G,oG.m X G,oH.m X G,oJ.m X G,oK.m X G,oM.m X G,oN.m X G,lF.m X G,vK.F,Be,vL.F,vj,vM.F,vN.F,vO.F,yp,Bg,vP.F,Bj,vQ.F,vR.F,Bk,Bl,Bm,vS.F,vU.F,vm,oq.F,vn,ou.F,yr,qT,oz.F,oA.F,vp,oB.F,oE.F,vq,oF.F,oG.F,oH.F,n_,oJ.F,vt,oK.F,oM.F,qW,oN.F,vv,vz,vA,vC,vD,lE,lF.F⟩
 exact BI T
theorem walk{aZ:Nat}{l:Ii}{q:Program}{loose:List Str}{XP:(Str->Option Value)->Heap->Prop}{YP:World->Heap->Prop}{d:DefRec}{K:Params->fj}(hn:l.most=some 63)(hdf:d.params.defaults=[])
  (hY:∀(w:World) (h:Heap),YP w h->(K w.params).In h) (M:∀ns:List Int,ns.length<=63->jK aZ [.lst (ns.map Dat.int)]=some (.val (.bl true))) (hK:∀w:World,ua (K w.params)=true)
  (F:∀ (w:World) (mg:Str→Option Value) (fa:Addr) (h:Heap),(K w.params).In h→h.Ns mainGlobals mg→mg d.name=some (.ref fa) →
   ∃fd:FuncData,(∀(s:Shared) (u:Value),BindsTo s fd ⟨[u],[]⟩ [("script",u)])/\∀base:Heap,(K w.params).In base->base.Ns mainGlobals mg->bM l.prog w (K w.params) mg base CX0 9 fa fd ["script"] (spD (jK aZ))) :
  PySem.W.WalkO q loose XP YP l.row.toRowW d [] (fun f vs=>PySem.call f vs):=
 L2.wH (n:=63) (k:=9) (x := "script") (CX:=fun _=>CX0) (sp:=fun _=>spD (jK aZ)) hn (by decide) hdf ⟨rfl,by decide,by decide,rfl⟩ hY F
  (fun w H a ns hl hO hS=>AF (M ns hl) (hK w) hS) fun _ _ _ _ _ z=>z
open PySem PySem.W PySem.W.X
theorem v7{q:Program}{loose:List Str}{XP:(Str->Option Value)->Heap->Prop}{r:RowW}{d:DefRec}{kwd:List (Str×Expr)}{run:Value->List Value->Sem Value}{K:Params->Frag}{as:List Addr}{n t:Nat}(e:∀P,as=(K P).map (·.1))
  (W:WalkO q loose XP (fun w h=>(K w.params).In h) r d kwd run):WalkX q loose XP (obsZ as) (valZ K n t) r d kwd run:=
 fun w s₀ s₁ mg mb G y a o pm cd doc dV kV ho hd Kg hD hmg hg args vals as' L=>W w s₀ s₁ mg mb G (InK.keeps w _ _ (z_facts e y).2.1 L.keeps) a o pm cd doc dV kV ho hd Kg hD hmg hg args vals as'
end Q
noncomputable def PySem.W.Fast.tw2905252525188304401:PySem.Program:=PySem.Challenge.pw_sinceply_k56_texts_misread
theorem PySem.W.Fast.te2905252525188304401:PySem.Challenge.pw_sinceply_k56_texts_misread=PySem.W.Fast.tw2905252525188304401:=rfl
namespace PySem.W.Fast
def tw15399655745339516543:=0
def tw8402375833271528832:=0
def tw2258141772151385043:=0
def tw6041833964181526582:=0
def tw2710377368341810824:=0
def tw10713612083949739764:=0
def tw4559134373306313855:=0
def tw15303609964699256934:=0
def tw14412181926225231422:=0
def tw3199460971380357863:=0
def tw15747630034715571450:=0
def tw9422583111468567322:=0
def tw4845733864354920102:=0
def tw163876861990671738:=0
def tw6678632969875724086:=0
def tw7785501063467952292:=0
def tw5664273409619562404:=0
def tw4153630325437669288:=0
def tw1026779277188512812:=0
def tw13414665735380555561:=0
def tw3032275037092901708:=0
def tw16693670987592186594:=0
def tw17180578517414764763:=0
def tw7055179061312868154:=0
def tw12523934889252382315:=0
def tw5103384937672932137:=0
def tw3815740107784163017:=0
def tw16128854346665943055:=0
def tw12477911873421254983:=0
def tw13040019310435750264:=0
def tw10109408868421551610:=0
def tw13634275358866056802:=0
def tw2171055834290518977:=0
def tw526629539980778201:=0
def tw14466456218055225191:=0
def tw18004424903910257761:=0
def tw6607759117256157264:=0
def tw446217882757304371:=0
def tw10808103225127371736:=0
def tw2293574280047124347:=0
def tw13810164271586360901:=0
def tw5243707923631398850:=0
def tw11060976352213563908:=0
def tw2057534602691841534:=0
def tw18106193225336763369:=0
def tw14891795630860271270:=0
def tw13999277344171787760:=0
def tw3227475329163343773:=0
def tw13919297904339771309:=0
def tw15390558607020425443:=0
def tw4156334801583445622:=0
def tw14925011519658460674:=0
def tw4693143901457224807:=0
def tw3331509844816658445:=0
def tw7025636040463777685:=0
def tw4303803780861007724:=0
def tw6193226757296271852:=0
def tw7817268068480744867:=0
def tw3398460412687472694:=0
def tw5511001452707797918:=0
def tw13069030345916516413:=0
def tw9486943966709728079:=0
def tw3445784934178705293:=0
def tw9396991707433798576:=0
def tw16064132876130853406:=0
def tw5792817540638151259:=0
def tw8116325777958837675:=0
def tw16523764492984317698:=0
def tw8533159185005456261:=0
def tw9397497793923036309:=0
def tw14296655154264929171:=0
def tw18126861883485739102:=0
def tw9535706996181822549:=0
def tw2223941252841797006:=0
def tw628409104124337608:=0
def tw1878712153320350634:=0
def tw9636736870800763647:=0
def tw12779691856400981905:=0
def tw4543634558474613795:=0
def tw4251688983412327953:=0
def tw239804421377687585:=0
def tw13082661521195236798:=0
def tw8860801862566858536:=0
def tw5783212040167619258:=0
def tw7608858711912981463:=0
def tw8754113224719585765:=0
def tw1120095127085055291:=0
def tw11237694674392214444:=0
def tw2940298369522323011:=0
def tw5770451081487991747:=0
def tw2030457388226123358:=0
def tw18285597088469697004:=0
def tw7692038872690258983:=0
def tw16544550654677150646:=0
def tw8598056571296695025:=0
def tw9780993637012292294:=0
def tw6899058947871671795:=0
def tw12032681409235461032:=0
def tw15298109801345723061:=0
def tw15081915693087478417:=0
def tw9112416279748108711:=0
def tw17452764781546235844:=0
def tw7206952803880697114:=0
def tw2972784467994446741:=0
def tw12615921382135634844:=0
def tw13074730278732781221:=0
def tw12816702569789698190:=0
def tw12989956304056191125:=0
def tw2092867799604979198:=0
def tw17573884065660720327:=0
def tw5532793883407278409:=0
def tw11575709247291579587:=0
def tw17361219314107917892:=0
def tw380000669131989205:=0
def tw12072688362135176439:=0
def tw16925554696278404072:=0
def tw3874080041076900449:=0
def tw13595108925954771744:=0
def tw1503195145480922272:=0
def tw889325009131849524:=0
def tw13500869386829222223:=0
def tw3531890785725974221:=0
def tw11762045286306706275:=0
def tw1262607283495991681:=0
def tw3589327365038324375:=0
def tw6802529713531068696:=0
def tw7246424601878780934:=0
def tw8903951068584550690:=0
def tw12181665900803950607:=0
def tw14561779004281897466:=0
def tw10353791613934589901:=0
def tw4708681085136404673:=0
def tw3346750005072198323:=0
def tw10071106486405676241:=0
def tw4394341432932147723:=0
def tw6655736893698893661:=0
def tw10585871098988277129:=0
def tw17040382831936054658:=0
def tw14483632458671537205:=0
def tw11044334109144247027:=0
def tw14878814522104258048:=0
def tw5729975295584958851:=0
def tw4448736400819244859:=0
def tw7733979893240921822:=0
def tw9847939692150263615:=0
def tw11647588656776736830:=0
def tw16537668317608443700:=0
def tw8664401986016746685:=0
def tw8684650755950391062:=0
def tw8313989689476496253:=0
def tw16708559988426674688:=0
def tw6796653749744427707:=0
def tw17151736787279838262:=0
def tw6156562441210523751:=0
def tw15289423788028276120:=0
def tw6024231865363309979:=0
def tw1977870983283454254:=0
def tw8646453925938446234:=0
def tw6795719447978022559:=0
def tw6449200107920425357:=0
def tw15419289100174817626:=0
def tw4982904172003162144:=0
def tw12963742947934453759:=0
def tw11269157453247628705:=0
def tw6669893638535215454:=0
def tw13344116297045394221:=0
def tw13320812642056691198:=0
def tw4135553479230249801:=0
def tw1660709249582869247:=0
def tw6841048323686532593:=0
def tw5279282363051147252:=0
def tw6400001409680112532:=0
def tw5060244259028828950:=0
def tw8225575218304455566:=0
def tw12583870751050904200:=0
def tw1069713933662794839:=0
def tw15889356813526910030:=0
def tw9258598549058307215:=0
def tw1804527492392825849:=0
def tw15346274707014433687:=0
def tw856247478136417903:=0
def tw3224455363997806821:=0
def tw17857663872661669991:=0
def tw6165383654258284229:=0
def tw5185788370124751010:=0
def tw13544046887609273365:=0
def tw2040209365994177266:=0
def tw15707445960769661703:=0
def tw10341764285105157833:=0
def tw6011461620423241201:=0
def tw5505404977275958700:=0
def tw2292988070578316815:=0
def tw9984328082593951920:=0
def tw4456469527035051131:=0
def tw5737038155533948758:=0
def tw13422089163390345332:=0
def tw8831535472435027536:=0
def tw9924764505155002021:=0
def tw13054707816528435536:=0
def tw7689431022119429318:=0
def tw16103446426761317404:=0
def tw5827341867995107450:=0
def tw12629824495520977941:=0
def tw8424279801158248098:=0
def tw13549344703007035874:=0
def tw10302969813705380702:=0
def tw14611663553942732920:=0
def tw8124959575796901262:=0
def tw674610088373722812:=0
def tw17952035973126508297:=0
def tw6569349844090742634:=0
def tw14807878588994987525:=0
def tw6079012648505589556:=0
def tw17890554959079556157:=0
def tw6788168297796101027:=0
def tw13642153254688443473:=0
def tw15470914309632726954:=0
def tw4945758642679295116:=0
def tw10599772982152864347:=0
def tw15755993924125706526:=0
def tw7431471576132883444:=0
def tw2567187774391879197:=0
def tw7015232055451487161:=0
def tw15183818223708830309:=0
def tw16657413038798299538:=0
def tw7429826188642110711:=0
def tw14783075452151239993:=0
def tw7222768956800283427:=0
def tw8157869586929898496:=0
def tw11050824170691010574:=0
def tw12882265926380127121:=0
def tw16202696096455294031:=0
def tw13529235232457416857:=0
def tw12188656713717594843:=0
def tw11372841193567670834:=0
def tw8031123305706484140:=0
def tw11245867196314117122:=0
def tw15777471178035218011:=0
def tw4198036386356756187:=0
def tw17009763314097906392:=0
def tw17520740020828713446:=0
def tw344054843754847911:=0
def tw9529325941622974959:=0
def tw14993027400966612385:=0
def tw13116143555109376426:=0
def tw5324561606379835118:=0
def tw10011980902193061701:=0
def tw5051486849321718079:=0
def tw13987070164453274623:=0
def tw2834322858487569524:=0
def tw11158295537914661429:=0
def tw10124308433979963310:=0
def tw2956856168231379304:=0
def tw3201599557624267891:=0
def tw5107822659052033041:=0
def tw2373277111785113363:=0
def tw14946854319404959575:=0
def tw14804401751148981944:=0
def tw10825422735466608374:=0
def tw999964438680129855:=0
def tw1080776695803560656:=0
def tw3556925260241107512:=0
def tw13972176689544602952:=0
def tw1958590710710257532:=0
def tw3207737787372930050:=0
def tw7031318312488800437:=0
def tw11994220195523347499:=0
def tw12523273167714021778:=0
def tw14016535963132566562:=0
def tw3951683820664121580:=0
def tw13584821311393510652:=0
end PySem.W.Fast
open PySem PySem.W PyProof.Rows
set_option maxRecDepth 100000 in
set_option maxHeartbeats 0 in
theorem PySem.Challenge.cw_sinceply_k56_texts_misread_holds : PySem.Challenge.rw_sinceply_k56_texts_misread.Holds := by
 w_on;o_law;z_head;(case hw=>w_witness2)
 k_fill
 refine' Q.v7 (fun _=>rfl) (Q.walk (l:=PySem.Challenge.rw_sinceply_k56_texts_misread) rfl rfl (fun w h Y=>Y) (P.math _) ?noL ?fnS)
 case noL=>intro w;rfl
 case fnS=>
  intro w mg fa h KX G hmg
  refine' Q.all_mk KX G hmg ?vK ?vL ?vM ?vN ?vO ?vP ?vQ ?vR ?vS ?vU ?oq ?ou ?oz ?oA ?oB ?oE ?oF ?oG ?oH ?oJ ?oK ?oM ?oN ?lF ?eL ?vV ?p_ ?vW ?eN ?vX ?qc ?vY ?vZ ?mJ ?v5 ?mK ?iH ?c_ ?fC ?dc ?mL ?mQ ?iI ?gH ?mR ?ic ?kD ?gI ?eO ?fD ?fE ?fF ?fG ?fH ?fJ ?bL ?dM ?dN ?dO ?b7 ?cu ?aq
  case vK|vL|vM|vN|vO|vP|vQ|vR|vS|vU|oq|ou|oz|oA|oB|oE|oF|oG|oH|oJ|oK|oM|oN|lF=>refine' Br.aT ?e ?l ?c ?k;(case e=>k_is);(case l=>k_is);(case c=>k_is);(case k=>k_is)
  case eL|vV|p_|vW|eN|vX|qc|vY|vZ|mJ|v5|mK|iH|c_|fC|dc|mL|mQ|iI|gH|mR|ic|kD|gI=>k_is
  case eO|fD|fE|fF|fG|fH|fJ|bL|dM|dN|dO|b7|cu|aq=>first | k_is | kit_is | kernel_rfl
end
