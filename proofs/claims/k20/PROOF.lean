import PyProof.Rows.All
import Wide.All
import OpenK.AllK
import Wide.FinOn
import Lean
import PyProof.EqAt
import PyProof.EqKinds
import PyProof.TupleCall
import KE.KRevIter
import PyProof.EnumMake
import PyProof.EnumFor
import PyProof.ListRange
import PyProof.Rows.Range3
import PyProof.ZipIter
import PyProof.SumWalk
import PyProof.WalksMore
import PyProof.Rows.SetFrom
import PyProof.SetRoads
import PyProof.Rows.SortRunsK
import PyProof.Rows.SortWalk
import KE.KSortTup
import PyProof.StationsW
import PyProof.Rows.MatchSeqLen
import PyProof.RangeIter
import PyProof.Rows.Own
import OpenK.KRaise
import KE.KIsAll
import PyProof.ExcArgsOwn
import PyProof.RulesAs
import PyProof.Ns1
import PyProof.Rows.Catch
import OpenK.KOwn
import PyProof.ExcBaseAll.ValueError
import KE.KDictSum
import PyProof.AttrMiss
import PyProof.IsiH_list
import KE.KDictOf
import PyProof.DictList
import KE.KDictList
import PyProof.FactsAll.set
import PyProof.Rows.TupAdd
import KE.KDictMeth
import PyProof.DictWalks
import PyProof.TupleKey
import PyProof.DictStraight
import PyProof.IsRules
import KE.KRevSl
import PyProof.Rows.CallKwBuiltin
import PyProof.Rows.SortShell
import KE.KSortKey
import KE.KLam
import KE.KNestM
import PyProof.CallStr
import OpenK.KMake
import PyProof.ExcClass2
import PyProof.InstStoreFacts
import OpenK.KCls
import PyProof.DictRoadsH
import PyProof.DictUpdate
import PyProof.DictCopy
import PyProof.MeetsDictList
import PyProof.FactsAll.tuple_1
import PyProof.TupleOfSeq
import KE.KSortAsk
import PyProof.Rows.StrLawsPart
import PyProof.StrLawsChain
import PyProof.StrBlockL
import PyProof.SliceStr2
import PyProof.StrOps2
import PyProof.StrWalks
import PyProof.StrCalls2
import KE.KIntText
import KE.IntTextLaws
import PyProof.Rows.FStrParts
import PySem.Challenge.RW_sinceply_k20_nets_since_and_fewer
open Array renaming length_toList→N7,find?_toList→Oc
open Bool renaming and_eq_true→Mw,false_ne_true→MF,false_eq_true→Oe,eq_iff_iff→Oz,or_eq_true→OA
open Classical renaming choose_spec→NV
open False renaming elim→Mr
open ForInStep renaming yield→Na
open Int renaming toNat_natCast→MU,zero_add→ON
open List renaming getElem?_set_ne→gp,replicate→gV,getElem?_eq_some_iff→Dk,getElem?_append_left→HT,getElem?_eq_getElem→Me,length_map→Mg,range→Ml,size_toArray→Mm,getElem?_set_self→Mn,getElem?_append_right→Mp,getElem?_map→Mq,length_append→Mt,mem_cons→Mv,length_set→Mx,getElem?_replicate→My,mem_cons_self→MA,mem_cons_of_mem→MB,length_range→MD,mem_append_right→ME,map_cons→MI,lookup_cons→ML,getD_eq_getElem?_getD→MM,append_nil→MN,replicate_succ→MT,all_eq_true→MY,length_replicate→M0,length_singleton→M1,length_cons→M3,not_mem_nil→M4,length_reverse→M6,getElem?_eq_none→M8,mem_singleton→M9,flatten_cons→Nb,getElem?_cons_succ→Nc,map_map→Ni,getElem?_set→Nk,mem_append_left→Nl,getElem_mem→Nn,getElem?_range→Np,filter_cons_of_pos→Nq,filter_cons_of_neg→Nr,mem_append→Nt,mem_range→Ny,set_append_right→NB,getElem?_take_of_lt→NH,getElem?_cons_zero→NP,all_cons→NR,length_take→NS,getElem_map→NT,getElem?_reverse→NU,nodup_cons→NZ,of_mem_zip→N1,mem_of_getElem?→N2,nil_append→N4,filterMap_cons→N6,mem_filterMap→Ob,zip_cons_cons→Of,append_assoc→Om,reverse_cons→Oq,all_map→Ou,find?_cons→OB,map_append→OC,map_id→OE,nodup_nil→OI,take_left→OJ,set_set→OO,mem_map→OP,foldl→OT
open Nat renaming le_of_ble_eq_true→Mh,le_refl→Mj,lt_of_lt_of_le→Ms,ne_of_lt→MC,le_trans→MQ,lt_irrefl→MV,zero_le→MW,ne_of_gt→Nm,le_of_lt→NG,not_lt→N3,sub_self→Ov,le_succ→OQ
open Ne renaming symm→MJ
open Option renaming isSome_iff_exists→MH
open PyProof.Rows renaming callWith_type1→Mz,boot_isinstance→Nf
open PySem.Builtin.List renaming listExtendWith→Nh,listTooLong→NI
open PySem.Builtin.Range renaming rangeSize→M5
open PySem.Calls renaming spliced_nil→Nu
open PySem.Data renaming cell→Oa,fields→OD
open PySem.EntryCells renaming newEntry→N8
open PySem.F renaming excBase_ValueError→NC
open PySem.Heap renaming get?_push_of_some→Mf,lt_size→Mi,get?_push_size→MG,get?_update_self→M7,get?_update_other→Ng,FlyingW→NJ,get?_none_of_le→NX,SameBut→NY,size_push→OH
open PySem.NameKind renaming cell→OM
open PySem.Obj renaming dropNameByArray→ND,mapSeq→NO,dropName_eq→N5
open PySem.PassesOwn renaming never→MO
open PySem.PyData renaming eqv→MX,depthAll→NF,eqvAll→Og,canLayAll0→Oo
open PySem.Value renaming ref→MP,type→NK,builtin→Oh,none→OL,isStr→OR,bool→OS,str→OU
open PySem.W renaming Frag→gc,kitOne→Mk,nsIn→Mu,fnOf→MK,kia_one→MR,keepIn→MZ,findIn→Nd,mroIn→Nj,kitAny→Nz,codeIn→NL,cellsFrom_some→NQ,hideAll→NW,callWith_K→Od,clsIn→Oi,excIn→Oj,methodObj→Ol,instObj→Ow,OpenLaw→Ox,lookIn→OG
open Sum renaming inl→Nv,inr→N9
open True renaming intro→Ot
noncomputable section
set_option Elab.async false
set_option linter.all false

set_option maxRecDepth 100000
local macro_rules|`(tactic|trivial)=>`(tactic|first|exact Or.inl rfl|exact Or.inr rfl|exact Or.inr (Or.inl rfl)|exact Or.inr (Or.inr rfl)|assumption)
local macro_rules|`(tactic|and_intros)=>`(tactic|dsimp only[List.map,List.replicate,List.cons_append,List.nil_append])
namespace L2
open PySem PySem.Spec PyProof.Rows
section
variable{a b:Addr}{H:Hp}{o:HO}
noncomputable abbrev Key:=Sum Int Str
noncomputable def D5:Key->Value->Bool
 |.inl k,v=>Value.isInt k v
 |.inr x,v=>Value.isStrOf x v
noncomputable def K2(w:World):Key->Int
 |.inl k=>hashInt k
 |.inr x=>hashStr w x
theorem bG:∀{k:Key} {v:Value},D5 k v=true->(∃i t,k=Nv i/\v=Value.int i t)\/(∃x t,k=N9 x/\v=OU x t)
 |.inl i,v,h=>by obtain⟨t,e⟩:=Value.isInt_shape (k:=i) (v:=v) h;exact .inl ⟨i,t,rfl,e⟩
 |.inr x,v,h=>by obtain⟨t,e⟩:=Value.isStrOf_shape (x:=x) (v:=v) h;exact .inr ⟨x,t,rfl,e⟩
theorem E7(a b:Int):decide ((Nv a:Key)=Nv b)=(a == b):=by
 by_cases e:a=b
 ·subst e;simp
 ·have h:¬(Nv a:Key)=Nv b:=fun q=>e (Nv.inj q);rw[decide_eq_false h];exact(beq_eq_false_iff_ne.mpr e).symm
theorem E8(a b:Str):decide ((N9 a:Key)=N9 b)=decide (a=b):=by
 by_cases e:a=b
 ·subst e;simp
 ·have h:¬(N9 a:Key)=N9 b:=fun q=>e (N9.inj q);rw[decide_eq_false h,decide_eq_false e]
theorem E9(a:Int)(b:Str):decide ((Nv a:Key)=N9 b)=false:=decide_eq_false (fun q=>nomatch q)
theorem E_(a:Str)(b:Int):decide ((N9 a:Key)=Nv b)=false:=decide_eq_false (fun q=>nomatch q)
noncomputable def qi(prog:Program)(w:World):PySem.KeyKind prog w Key where
 is:=D5
 hash:=K2 w
 inj:=fun v a b ha hb=>by
  rcases bG ha with⟨i,t,rfl,rfl⟩ | ⟨x,t,rfl,rfl⟩
  ·rcases bG hb with⟨j,u,rfl,e⟩ | ⟨y,u,rfl,e⟩
   ·injection e with e1 _;rw[e1]
   ·exact nomatch e
  ·rcases bG hb with⟨j,u,rfl,e⟩ | ⟨y,u,rfl,e⟩
   ·exact nomatch e
   ·injection e with e1 _;rw[e1]
 byValue:=fun k v h=>by rcases bG h with⟨i,t,rfl,rfl⟩ | ⟨x,t,rfl,rfl⟩<;>rfl
 pyHash:=fun hv h=>by
  rcases bG hv with⟨i,t,rfl,rfl⟩ | ⟨x,t,rfl,rfl⟩
  ·exact wpAny_pyHash_int h
  ·exact wpAny_pyHash_str h
 eqBool:=fun hu hv h=>by
  rcases bG hu with⟨i,t,rfl,rfl⟩ | ⟨x,t,rfl,rfl⟩
  ·rcases bG hv with⟨j,u,rfl,rfl⟩ | ⟨y,u,rfl,rfl⟩
   ·rw[E7]at h;exact wpAny_eqBool_int h
   ·rw[E9]at h;exact SeqAt.EqAt.int_str i t y u _ _ _ _ h
  ·rcases bG hv with⟨j,u,rfl,rfl⟩ | ⟨y,u,rfl,rfl⟩
   ·rw[E_]at h;exact SeqAt.EqAt.str_int x t j u _ _ _ _ h
   ·rw[E8]at h;exact wpAny_eqBool_str h
 «strs»:=fun k x t v h=>by
  rcases bG h with⟨i,u,rfl,e⟩ | ⟨y,u,rfl,e⟩
  ·exact nomatch e
  ·injection e with e1 _
   subst e1;cases v<;>rfl
inductive V where
 |non | bl (b:Bool) | int (i:Int) | str (x:Str) | byt (b:Array UInt8) | flt (b:UInt64) | ref (a:Addr) | ty (n:String)
 deriving DecidableEq
def RelV:V->Value->Prop
 |.non,u=>u=OL
 |.bl b,u=>u=OS b
 |.int i,u=>∃t,u=Value.int i t
 |.str x,u=>∃t,u=OU x t
 |.byt b,u=>∃t,u=Value.bytes b t
 |.flt b,u=>∃t,u=Value.float b t
 |.ref a,u=>u=MP a
 |.ty n,u=>u=NK n
noncomputable abbrev Vals:List V->List Value->Prop:=Paired RelV
theorem Vals.length{xs:List V}{us:List Value}(r:Vals xs us):xs.length=us.length:=Paired.length r
theorem Vals.get:∀{xs:List V} {us:List Value} {i:Nat} {x:V},Vals xs us->xs[i]?=some x->∃u,us[i]?=some u/\RelV x u
 |_,_,_,_,.nil,e=>by simp at e
 |_,_,0,_,.cons r _,e=>by simp at e;subst e;exact⟨_,rfl,r⟩
 |_,_,i+1,x,.cons _ t,e=>by obtain⟨u,h1,h2⟩:=Vals.get (i:=i) (x:=x) t (by simpa using e);exact⟨u,by simpa using h1,h2⟩
theorem Vals.set{x:V}{u:Value}(r:RelV x u):∀{xs:List V} {us:List Value} (i:Nat),Vals xs us->Vals (xs.set i x) (us.set i u)
 |_,_,_,.nil=>.nil
 |_,_,0,.cons _ t=>.cons r t
 |_,_,i+1,.cons q t=>.cons q (Vals.set r i t)
theorem Vals.append:∀{xs ys:List V} {us ws:List Value},Vals xs us->Vals ys ws->Vals (xs++ys) (us++ws)
 |_,_,_,_,.nil,s=>s
 |_,_,_,_,.cons r t,s=>.cons r (Vals.append t s)
def Fb:Option V->Option Value->Prop
 |some v,some u=>RelV v u
 |none,none=>True
 |_,_=>False
def KV{κ:Type}:List (κ×V)->List (κ×Value)->Prop:=Paired fun(p:κ×V) (q:κ×Value)=>p.1=q.1/\RelV p.2 q.2
noncomputable def kV:Key->V
 |.inl i=>.int i
 |.inr x=>.str x
inductive HO where
 |lst (xs:List V)
 |tup (xs:List V)
 |dK (kvs:List (Key×V)) | dT (kvs:List (List Key×V)) (ts:List Addr)
 |set (S:Int->Bool) (n:Nat)
 |ins (C dx:Addr) (fs:List (Str×V))
 |own (x:Addr)
 |xd (fs:List (Str×V))
 |met (f x:Addr)
 |rng (lo hi:Int)
 |frz (o:Obj) (u:HO)
 |tbl (ln cl:Value) (q:Str)
 |ext (φ:Heap->Prop)
noncomputable abbrev Hp:=Addr->Option HO
noncomputable def upd(H:Hp)(a:Addr)(o:HO):Hp:=fun b=>if b=a then some o else H b
theorem aF{a:Addr}:upd H a o a=some o:=by unfold upd;rw[if_pos rfl]
theorem az(h:b≠a):upd H a o b=H b:=by unfold upd;rw[if_neg h]
theorem aH(h:H a=some o)(h':H b=none):a≠b:=by intro e;subst e;rw[h]at h';cases h'
end
section
variable(P:Program)(w:World)
def bH(H:Hp)(h:Heap)(a:Addr):HO->Prop
 |.lst xs=>xs.length<=sizeLine/\∃(its:List Value) (n:Nat),Vals xs its/\h.get? a=some { cls:=.type "list",data:=.seq its.toArray n }
 |.tup xs=>xs.length<=sizeLine/\∃its:List Value,Vals xs its/\IsTup h a its.toArray
 |.dK kvs=>kvs.length<=sizeLine/\(a == sysModules)=false/\∃vs,KV kvs vs/\h.DictOf (qi P w) a vs
 |.dT kvs ts=>kvs.length<=sizeLine/\(a == sysModules)=false/\∃xs:List (List Key×Addr×Value),
   Paired (fun(p:List Key×V) (q:List Key×Addr×Value)=>p.1=q.1/\H q.2.1=some (.tup (p.1.map kV))/\RelV p.2 q.2.2) kvs xs /\
   ∃o es ep,h.get? a=some o/\o.ExactDict/\o.data=.dict es ep/\es.toList=xs.map (entryOfKey (tupleKind (qi P w)))/\(xs.map (·.1)).Nodup/\xs.map (·.2.1)=ts
 |.set S n=>h.SetOf (intKind P w) a S n
 |.ins C dx fs=>H dx=some (.own a)/\fs.length<=1000/\dx≠a/\h.get? a=some (Ow C dx) /\
   ∃mA,h.Ns1 dx mA/\(∀f,Fb (fs.lookup f) (mA f))/\PySem.Within mA (fs.map (·.1))
 |.own _=>∃o,h.get? a=some o
 |.xd fs=>∃mA,h.Ns1 a mA/\∀f,Fb (fs.lookup f) (mA f)
 |.rng lo hi=>∃t u v,h.get? a=some { cls:=.type "range",data:=.fields #[.int lo t,.int hi u,.int 1 v] }
 |.frz o u=>h.get? a=some o/\bH H h a u
 |.tbl ln cl q=>∃ps:Array Value,h.get? a=some { cls:=.none,data:=.fields ps }/\(ps=#[]\/∃(c:Addr) (oc:Obj) (vs:Array Value) (t:Tok),ps=#[ln,cl,.ref c]/\H c=some (.frz oc (.own a))/\oc.data=.fields vs/\vs[1]?=some (.str q t))
 |.met f x=>h.get? a=some (Ol (.ref f) (.ref x))
 |.ext φ=>φ h/\(∃o,h.get? a=some o)/\∀h1 h2:Heap,φ h1->(∀o,h1.get? a=some o->h2.get? a=some o)->φ h2
def HOk(H:Hp)(h:Heap):Prop:=∀a o,H a=some o->bH P w H h a o
end
section
variable{P:Program}{w:World}{H H':Hp}{h h':Heap}{a:Addr}{o:HO}
theorem bH.lt(x:bH P w H h a o):a<h.objs.size:=by
 cases o with
 |lst xs=>obtain⟨_,_,_,_,e⟩:=x;exact Mi e
 |tup xs=>obtain⟨_,_,_,p⟩:=x;exact p.lt
 |dK kvs=>obtain⟨_,_,_,_,o,_,_,e,_⟩:=x;exact Mi e
 |dT kvs ts=>obtain⟨_,_,_,_,o,_,_,e,_⟩:=x;exact Mi e
 |set S n=>obtain⟨o,_,_,_,e,_⟩:=x;exact Mi e
 |ins C dx fs=>obtain⟨_,_,_,e,_⟩:=x;exact Mi e
 |own y=>obtain⟨_,e⟩:=x;exact Mi e
 |xd fs=>obtain⟨_,⟨_,_,_,e,_⟩,_⟩:=x;exact Mi e
 |rng lo hi=>obtain⟨_,_,_,e⟩:=x;exact Mi e
 |frz ob u=>obtain⟨e,_⟩:=x;exact Mi e
 |tbl ln cl q=>obtain⟨_,e,_⟩:=x;exact Mi e
 |met f y=>exact Mi (show h.get? a=some _ from x)
 |ext φ=>obtain⟨_,⟨_,e⟩,_⟩:=x;exact Mi e
theorem Paired.HY{α β:Type}{F G:α->β->Prop}:∀{l₁:List α} {l₂:List β},Paired F l₁ l₂->(∀a b,F a b->G a b)->Paired G l₁ l₂
 |_,_,.nil,_=>.nil
 |_,_,.cons r t,f=>.cons (f _ _ r) (Paired.HY t f)
theorem bH.stay(x:bH P w H h a o)(k:∀b u,(b=a\/H b=some (.own a))->h.get? b=some u->h'.get? b=some u)
  (ho:∀b,H b=some (.own a)->H' b=some (.own a)) (hf:∀b o c,H b=some (.frz o (.own c))->H' b=some (.frz o (.own c))) (ht:∀b xs,H b=some (.tup xs)->H' b=some (.tup xs)):bH P w H' h' a o:=by
 induction o with
 |lst xs=>obtain⟨z,its,n,r,e⟩:=x;exact⟨z,its,n,r,k _ _ (.inl rfl) e⟩
 |tup xs=>obtain⟨z,its,r,ob,e,c⟩:=x;exact⟨z,its,r,ob,k _ _ (.inl rfl) e,c⟩
 |dK kvs=>obtain⟨z,y,vs,r,ob,es,ep,e,c⟩:=x;exact⟨z,y,vs,r,ob,es,ep,k _ _ (.inl rfl) e,c⟩
 |dT kvs ts=>obtain⟨z,y,xs,r,ob,es,ep,e,c⟩:=x;exact⟨z,y,xs,Paired.HY r fun p q z=>⟨z.1,ht _ _ z.2.1,z.2.2⟩,ob,es,ep,k _ _ (.inl rfl) e,c⟩
 |set S n=>obtain⟨ob,es,ep,t,e,c⟩:=x;exact⟨ob,es,ep,t,k _ _ (.inl rfl) e,c⟩
 |ins C dx fs=>obtain⟨d,z,ne,e,mA,⟨od,es,ep,e2,c⟩,r⟩:=x;exact⟨ho _ d,z,ne,k _ _ (.inl rfl) e,mA,⟨od,es,ep,k _ _ (.inr d) e2,c⟩,r⟩
 |own y=>obtain⟨ob,e⟩:=x;exact⟨ob,k _ _ (.inl rfl) e⟩
 |xd fs=>obtain⟨mA,⟨od,es,ep,e,c⟩,r⟩:=x;exact⟨mA,⟨od,es,ep,k _ _ (.inl rfl) e,c⟩,r⟩
 |rng lo hi=>obtain⟨t,u,v,e⟩:=x;exact⟨t,u,v,k _ _ (.inl rfl) e⟩
 |frz ob u ih=>obtain⟨e,q⟩:=x;exact⟨k _ _ (.inl rfl) e,ih q⟩
 |tbl ln cl q=>
  obtain⟨ps,e,d⟩:=x;refine⟨ps,k _ _ (.inl rfl) e,?_⟩;rcases d with d | ⟨c,oc,vs,t,d,d2,d3⟩
  ·exact .inl d
  ·exact .inr ⟨c,oc,vs,t,d,hf _ _ _ d2,d3⟩
 |met f y=>have e:h.get? a=some (Ol (.ref f) (.ref y)):=x;show h'.get? a=some (Ol (.ref f) (.ref y));exact k a _ (.inl rfl) e
 |ext φ=>obtain⟨p,⟨o,e⟩,st⟩:=x;exact⟨st _ _ p fun o q=>k _ _ (.inl rfl) q,⟨o,k _ _ (.inl rfl) e⟩,st⟩
theorem HOk.lt(x:HOk P w H h)(e:H a=some o):a<h.objs.size:=(x a o e).lt
theorem HOk.fresh(x:HOk P w H h)(e:h.objs.size<=a):H a=none:=by
 cases q:H a with
 |none=>rfl
 |some u=>exact absurd (Ms (x.lt q) e) (MV _)
theorem HOk.kept(x:HOk P w H h)(k:∀b u,h.get? b=some u->h'.get? b=some u):HOk P w H h':=fun a o e=>(x a o e).stay (fun b u _ q=>k b u q) (fun _ q=>q) (fun _ _ _ q=>q) fun _ _ q=>q
theorem HOk.laid(x:HOk P w H h)(k:∀b u,h.get? b=some u->h'.get? b=some u)(hp:h.objs.size<=a)(new:bH P w (upd H a o) h' a o):HOk P w (upd H a o) h':=fun b u e=>by
 have hn:=x.fresh hp;by_cases hb:b=a
 ·subst hb;rw[aF]at e;cases e;exact new
 ·rw[az hb]at e;exact(x b u e).stay (fun c v _ q=>k c v q) (fun c q=>by rw[az (aH q hn)];exact q) (fun c _ _ q=>by rw[az (aH q hn)];exact q) fun c xs q=>by rw[az (aH q hn)];exact q
end
def Rd(H:Hp)(a:Addr)(u:HO):Prop:=H a=some u\/∃o,H a=some (.frz o u)
theorem Rd.ok{P:Program}{w:World}{H:Hp}{h:Heap}{a:Addr}{u:HO}(r:Rd H a u)(x:HOk P w H h):bH P w H h a u:=by
 rcases r with r | ⟨o,r⟩
 ·exact x a u r
 ·obtain⟨_,q⟩:=x a _ r;exact q
def Mut:Option HO->Prop
 |some (.lst _)=>True
 |some (.dK _)=>True
 |some (.dT _ _)=>True
 |some (.set _ _)=>True
 |some (.ins _ _ _)=>True
 |some (.ext _)=>True
 |_=>False
section
variable{P:Program}{w:World}{H:Hp}{h h':Heap}{x e:Addr}{o':HO}
theorem HOk.write(ok:HOk P w H h)(mu:Mut (H x))(he:e=x\/H e=some (.own x))(k:∀b u,b≠e->h.get? b=some u->h'.get? b=some u)(heo:∃u,h'.get? e=some u)
  (new:bH P w (upd H x o') h' x o'):HOk P w (upd H x o') h':=fun b u q=>by
 have HZ:∀c y,H c=some (.own y)->c≠x:=fun c y r z=>by subst z;rw[r]at mu;exact mu
 have K3:∀c xs,H c=some (.tup xs)->c≠x:=fun c xs r z=>by subst z;rw[r]at mu;exact mu
 have K4:∀c o y,H c=some (.frz o y)->c≠x:=fun c o y r z=>by subst z;rw[r]at mu;exact mu
 by_cases hb:b=x
 ·subst hb;rw[aF]at q;cases q;exact new
 ·rw[az hb]at q;by_cases hbe:b=e
  ·have q':H b=some (.own x):=by
    rcases he with z | z
    ·exact absurd (hbe.trans z) hb
    ·rw[hbe];exact z
   rw[q]at q';cases q';obtain⟨v,hv⟩:=heo;exact⟨v,by rw[hbe];exact hv⟩
  ·refine(ok b u q).stay (fun c v hc r=>k c v ?_ r) (fun c r=>by rw[az (HZ c b r)];exact r) (fun c _ _ r=>by rw[az (K4 c _ _ r)];exact r) fun c xs r=>by rw[az (K3 c xs r)];exact r
   rcases hc with rfl | hc
   ·exact hbe
   ·rintro rfl;rcases he with z | z
    ·exact HZ c b hc z
    ·rw[hc]at z;cases z;exact hb rfl
end
structure Un(fs ex:List Addr)(H H':Hp)(h h':Heap):Prop where
 keep:∀b o,h.get? b=some o->H b=none->b∉fs->b∉ex->h'.get? b=some o
 slot:∀b o,h.get? b=some o->H b=none->b∈fs->b∉ex->∃sl,h'.get? b=some { o with slots:=sl }
 free:∀b o,h.get? b=some o->H b=none->b∉ex->H' b=none
 there:∀b o,h.get? b=some o->b∉ex->∃o',h'.get? b=some o'
 tups:∀b xs,H b=some (.tup xs)->H' b=some (.tup xs)
 jF:∀b o u,H b=some (.frz o u)->H' b=some (.frz o u)
 lT:∀b x y z,H b=some (.tbl x y z)->H' b=some (.tbl x y z)
section
variable{fs fs' ex ex':List Addr}{H H1 H2:Hp}{h h1 h2 h':Heap}{a x e:Addr}{o:HO}
theorem Un.any(u:Un fs ex H H1 h h1){b:Addr}{ob:Obj}(q:h.get? b=some ob)(n:H b=none)(hx:b∉ex):∃sl,h1.get? b=some { ob with slots:=sl }:=by
 by_cases hb:b∈fs
 ·exact u.slot b ob q n hb hx
 ·exact⟨ob.slots,u.keep b ob q n hb hx⟩
theorem Un.kept(k:∀b u,h.get? b=some u->h'.get? b=some u):Un fs ex H H h h':=
 ⟨fun b ob q _ _ _=>k b ob q,fun b ob q _ _ _=>⟨ob.slots,k b ob q⟩,fun _ _ _ n _=>n,fun b ob q _=>⟨ob,k b ob q⟩,fun _ _ q=>q,fun _ _ _ q=>q,fun _ _ _ _ q=>q⟩
theorem Un.refl:Un fs ex H H h h:=Un.kept fun _ _ q=>q
theorem Un.laid(k:∀b u,h.get? b=some u->h'.get? b=some u)(hp:h.objs.size<=a)(hn:H a=none):Un fs ex H (upd H a o) h h' where
 keep:=fun b u q _ _ _=>k b u q
 slot:=fun b u q _ _ _=>⟨u.slots,k b u q⟩
 free:=fun b u q n _=>by rw[az (MC (Ms (Mi q) hp))];exact n
 there:=fun b u q _=>⟨u,k b u q⟩
 tups:=fun b xs q=>by rw[az (aH q hn)];exact q
 jF:=fun b u xs q=>by rw[az (aH q hn)];exact q
 lT:=fun b _ _ _ q=>by rw[az (aH q hn)];exact q
theorem Un.write(mu:Mut (H x))(he:e=x\/H e=some (.own x))(k:∀b u,b≠e->h.get? b=some u->h'.get? b=some u)(heo:∃u,h'.get? e=some u):Un fs ex H (upd H x o) h h':=by
 have hx:∀b,H b=none->b≠x:=fun b n z=>by subst z;rw[n]at mu;exact mu
 have hb:∀b,H b=none->b≠e:=fun b n z=>by
  subst z;rcases he with r | r
  ·exact hx b n r
  ·rw[n]at r;cases r
 have hm:∀b u,H b=some u->¬Mut (some u)->b≠x:=fun b u q nm z=>by subst z;rw[q]at mu;exact nm mu
 refine ⟨fun b u q n _ _=>k b u (hb b n) q,fun b u q n _ _=>⟨u.slots,k b u (hb b n) q⟩,fun b u q n _=>by rw [az (hx b n)];exact n,fun b u q _=>?_,
  fun b xs q=>by rw[az (hm b _ q fun z=>z)];exact q,fun b u xs q=>by rw[az (hm b _ q fun z=>z)];exact q,fun b _ _ _ q=>by rw[az (hm b _ q fun z=>z)];exact q⟩
 by_cases hbe:b=e
 ·subst hbe;exact heo
 ·exact⟨u,k b u hbe q⟩
end
section
variable{b:Addr}{h:Heap}{o:Obj}{H:Hp}
noncomputable def trk(h:Heap)(H:Hp):List Addr:=(Ml h.objs.size).filter fun a=>(H a).isSome
noncomputable def qj(h:Heap)(H:Hp):Heap:=NW h (trk h H)
theorem xy(h:Heap)(H:Hp):(qj h H).objs.size=h.objs.size:=PySem.W.hideAll_size _ _
theorem yG(e:h.get? b=some o)(n:H b=none):(qj h H).get? b=some o:=
 PySem.W.hideAll_get _ e fun hm=>by have q:(H b).isSome=true:=(List.mem_filter.mp hm).2;rw[n]at q;simp at q
theorem Cc(e:(qj h H).get? b=some o):h.get? b=some o/\H b=none:=by
 have e':h.get? b=some o:=PySem.W.of_hideAll (trk h H) e;refine⟨e',?_⟩;cases q:H b with
 |none=>rfl
 |some x=>have hm:b∈trk h H:=List.mem_filter.mpr ⟨Ny.mpr (Mi e'),by simp[q]⟩;have z:(qj h H).get? b=none:=PySem.W.hideAll_none (trk h H) hm;rw[z]at e;cases e
structure Mod(K:gc)(mg:Str->Option Value)(base:Heap):Prop where
 kin:K.In base
 glob:base.Ns mainGlobals mg
 blt:∃mb,base.Ns builtinsNs mb/\∀x:Str,x ≠ "__name__" -> mb x=bootBuiltins x
 nolimit:base.NoLimit
structure Cx where
 prog:Program
 w:World
 K:gc
 mg:Str->Option Value
 base:Heap
 A:Around
 N:List Str
 s₀:Shared
 H₀:Hp
 env:Env
 outer:List Env
 stack:List Env
 ex:List Addr
 fn:Str->Bool
 calm:Bool
 pn:List (Addr×Obj)
 xe:Value->Shared->Prop
noncomputable def frs(l:List Env):List Addr:=l.filterMap (·.frame)
noncomputable abbrev Cx.fs(X:Cx):List Addr:=frs X.outer
def Vis(sc:Scope)(x:Str):Prop:=sc.names.lookup x=some .local\/sc.names.lookup x=some .cell\/sc.names.lookup x=some .free
def Loc(sc:Scope)(x:Str):Prop:=sc.names.lookup x=some .local\/sc.names.lookup x=some .cell
def Look(env:Env)(h:Heap)(m:Str->Option Value)(x:Str)(u:Value):Prop:=
 (env.kindOf x=some .local/\m x=some u)\/((env.kindOf x=some .cell\/env.kindOf x=some .free)/\∃c,env.cells.lookup x=some c/\h.IsCell c (some u))
structure Cx.Ok(X:Cx):Prop where
 mod:Mod X.K X.mg X.base
 kind:X.env.scope.kind=.function
 glob:X.env.globals=mainGlobals
 blt:X.env.builtins=builtinsNs
 above:X.s₀.heap.objs.size<=X.env.locals
 inj:∀x y c,X.env.cells.lookup x=some c->X.env.cells.lookup y=some c->x=y
 has:∀x,(X.env.kindOf x=some .cell\/X.env.kindOf x=some .free)->∃c,X.env.cells.lookup x=some c
 cab:∀x c,X.fn x=true->X.env.cells.lookup x=some c->X.s₀.heap.objs.size<=c
 hd:X.calm=true->X.A.handled=none
 frames:X.A.frames=some X.stack
 stk:X.stack=X.outer\/(X.stack=X.env::X.outer/\X.env.frame=some X.env.locals)
 exf:∀b∈X.ex,b≠X.env.locals/\∀x c,X.env.cells.lookup x=some c->c≠b
 bs:∀b o,X.base.get? b=some o->X.s₀.heap.get? b=some o/\X.H₀ b=none
 bsz:X.base.objs.size<=X.s₀.heap.objs.size
 yH:∀b o,X.base.get? b=some o->b∉X.ex
 Cd:∀b∈X.ex,b∉X.fs
 kq:X.s₀.heap.FunFrames X.base X.outer
 frf:∀b∈X.fs,X.H₀ b=none
structure Inv(X:Cx)(mU:List (Addr×Obj))(σ:List (Option V))(H:Hp)(s:Shared):Prop where
 ok:X.Ok
 os:s.os=X.s₀.os
 bare:AllBare s.gens
 base:Un X.fs X.ex X.H₀ H X.s₀.heap s.heap
 loc:∃m,s.heap.Ns X.env.locals m/\∀(i:Nat) (x:Str) (v:V),X.N[i]?=some x->σ[i]?=some (some v)->Vis X.env.scope x->∃u,RelV v u/\Look X.env s.heap m x u
 cell:∀x c,X.env.cells.lookup x=some c->∃v,s.heap.IsCell c v
 free:H X.env.locals=none
 dR:∀x c,X.env.cells.lookup x=some c->H c=none
 pin:∀p∈X.pn++mU,s.heap.get? p.1=some p.2/\H p.1=none/\p.1≠X.env.locals/\p.1∉X.fs/\∀v,p.2.data≠.cell v
 hok:HOk X.prog X.w H s.heap
 len:σ.length=X.N.length
end
section
variable{X:Cx}{mU:List (Addr×Obj)}{σ:List (Option V)}{H H':Hp}{s:Shared}{h':Heap}
section
variable{ch:List Addr}{x:Str}{u:Value}{a:Addr}{t':Nat}{i:Nat}{v:V}
theorem Cx.Ok.K5(ok:X.Ok){b:Addr}{o:Obj}(e:X.base.get? b=some o):b∉X.fs:=fun hb=>by have:=(ok.kq.mem hb).1;rw[e]at this;cases this
theorem Inv.bs(I:Inv X mU σ H s):∀b o,X.base.get? b=some o->s.heap.get? b=some o/\H b=none:=fun b o e=>⟨I.base.keep b o (I.ok.bs b o e).1 (I.ok.bs b o e).2 (I.ok.K5 e) (I.ok.yH b o e),I.base.free b o (I.ok.bs b o e).1 (I.ok.bs b o e).2 (I.ok.yH b o e)⟩
theorem Inv.bk(I:Inv X mU σ H s):∀b o,X.base.get? b=some o->s.heap.get? b=some o:=fun b o e=>(I.bs b o e).1
theorem Inv.mod(I:Inv X mU σ H s):Mod X.K X.mg X.base:=I.ok.mod
theorem Inv.kIn(I:Inv X mU σ H s):X.K.In s.heap:=I.ok.mod.kin.keeps I.bk
theorem Inv.lt(I:Inv X mU σ H s):X.env.locals<s.heap.objs.size:=let ⟨_,hn,_⟩:=I.loc;hn.lt
theorem Inv.sz(I:Inv X mU σ H s):X.s₀.heap.objs.size<=s.heap.objs.size:=MQ I.ok.above (NG I.lt)
theorem Inv.K6(I:Inv X mU σ H s)(h:s.heap.objs.size<=a):a∉X.fs:=fun hb=>by obtain⟨_,o,ho,_⟩:=I.ok.kq.mem hb;exact absurd (Ms (Mi ho) (MQ I.sz h)) (MV _)
theorem Inv.cne(I:Inv X mU σ H s):∀x c,X.env.cells.lookup x=some c->c≠X.env.locals:=fun x c e z=>by obtain⟨v,o,ho,hd⟩:=I.cell x c e;obtain⟨m,⟨o',es,ep,ho',hd',_⟩,_⟩:=I.loc;rw[z,ho']at ho;cases ho;rw[hd']at hd;cases hd
theorem Inv.kq(I:Inv X mU σ H s):s.heap.FunFrames X.base X.outer:=by
 have all:∀(l:List Env),(∀b∈frs l,b∈X.fs)->X.s₀.heap.FunFrames X.base l->s.heap.FunFrames X.base l:=by
  intro l
  induction l with
  |nil=>intro _ _;trivial
  |cons env r ih=>intro hs hl;obtain⟨hk,⟨L,o,hf,hn,ho,hd⟩,hr⟩:=hl;have hL:L∈X.fs:=hs L (by unfold frs;rw[N6,hf];exact MA);obtain⟨sl,e⟩:=I.base.slot L o ho (I.ok.frf L hL) hL fun z=>I.ok.Cd L z hL;exact⟨hk,⟨L,_,hf,hn,e,hd⟩,ih (fun b hb=>hs b (by unfold frs;rw[N6,hf];exact MB _ hb)) hr⟩
 exact all X.outer (fun _ hb=>hb) I.ok.kq
theorem Inv.stack(I:Inv X mU σ H s):s.heap.FunFrames X.base X.stack:=by
 rcases I.ok.stk with e | ⟨e,hf⟩
 ·rw[e];exact I.kq
 ·rw[e];obtain⟨m,hn,_⟩:=I.loc;refine .cons (by rw[I.ok.kind];decide) hf hn ?_ I.kq;exact NX (MQ I.ok.bsz I.ok.above)
theorem Inv.lU(I:Inv X mU σ H s):∀b∈frs X.stack,b∈X.env.locals::X.fs:=fun b hb=>by
 rcases I.ok.stk with e | ⟨e,hf⟩
 ·rw[e]at hb;exact MB _ hb
 ·rw[e]at hb;unfold frs at hb;rw[N6,hf]at hb;exact hb
theorem Inv.qk(I:Inv X mU σ H s):∀b∈frs X.stack,H b=none:=fun b hb=>by
 rcases Mv.mp (I.lU b hb) with e | hb
 ·rw[e];exact I.free
 ·obtain⟨_,o,ho,_⟩:=I.ok.kq.mem hb;exact I.base.free b o ho (I.ok.frf b hb) fun z=>I.ok.Cd b z hb
theorem Inv.step{g':Array GenState}{t':Nat}{d':Drawn}{ch:List Addr}(I:Inv X mU σ H s)
  (hch:∀b∈ch,(b∈X.ex\/X.s₀.heap.objs.size<=b)/\b≠X.env.locals/\(∀x c,X.env.cells.lookup x=some c->c≠b)/\∀p∈X.pn++mU,p.1≠b)
  (keep:∀b o,b≠X.env.locals->b∉X.fs->b∉ch->s.heap.get? b=some o->H b=none->h'.get? b=some o)
  (slot:∀b o,b≠X.env.locals->b∈X.fs->b∉ch->s.heap.get? b=some o->H b=none->∃sl,h'.get? b=some { o with slots:=sl }) (free:∀b o,b∉ch->s.heap.get? b=some o->H b=none->H' b=none)
  (there:∀b o,b∉ch->s.heap.get? b=some o->∃o',h'.get? b=some o')
  (tups:∀b xs,H b=some (.tup xs)->H' b=some (.tup xs)) (jF:∀b o u,H b=some (.frz o u)->H' b=some (.frz o u)) (lT:∀b x y z,H b=some (.tbl x y z)->H' b=some (.tbl x y z))
  (ns:∀m,s.heap.Ns X.env.locals m->h'.Ns X.env.locals m) (hok:HOk X.prog X.w H' h') (hg:AllBare g') :
  Inv X mU σ H' { s with heap:=h',gens:=g',drawn:=d',toks:=t' }:=by
 have neL:∀b o,X.s₀.heap.get? b=some o->b≠X.env.locals:=fun b o e=>MC (Ms (Mi e) I.ok.above);have neC:∀b o,X.s₀.heap.get? b=some o->b∉X.ex->b∉ch:=fun b o e hx hb=>by
  rcases (hch b hb).1 with z | z
  ·exact hx z
  ·exact absurd (Ms (Mi e) z) (MV _)
 have cellK:∀x c,X.env.cells.lookup x=some c->∀v,s.heap.IsCell c v->h'.IsCell c v:=fun x c e v ⟨o,ho,hd⟩=>by
  have nch:c∉ch:=fun z=>(hch c z).2.2.1 x c e rfl;by_cases hc:c∈X.fs
  ·obtain⟨sl,q⟩:=slot c o (I.cne x c e) hc nch ho (I.dR x c e);exact⟨_,q,hd⟩
  ·exact⟨o,keep c o (I.cne x c e) hc nch ho (I.dR x c e),hd⟩
 refine⟨I.ok,I.os,hg,⟨fun b o e n hb hx=>?_,fun b o e n hb hx=>?_,fun b o e n hx=>?_,fun b o e hx=>?_,fun b xs e=>tups b xs (I.base.tups b xs e),fun b o xs e=>jF b o xs (I.base.jF b o xs e),fun b x y z e=>?_⟩,?_,fun x c e=>?_,?_,fun x c e=>?_,fun p hp=>?_,hok,I.len⟩
 ·exact keep b o (neL b o e) hb (neC b o e hx) (I.base.keep b o e n hb hx) (I.base.free b o e n hx)
 ·obtain⟨sl,e1⟩:=I.base.slot b o e n hb hx;obtain⟨sl',e2⟩:=slot b _ (neL b o e) hb (neC b o e hx) e1 (I.base.free b o e n hx);exact⟨sl',e2⟩
 ·obtain⟨o',e1⟩:=I.base.there b o e hx;exact free b o' (neC b o e hx) e1 (I.base.free b o e n hx)
 ·obtain⟨o',e1⟩:=I.base.there b o e hx;exact there b o' (neC b o e hx) e1
 ·exact lT _ _ _ _ (I.base.lT _ _ _ _ e)
 ·obtain⟨m,hn,hl⟩:=I.loc;refine⟨m,ns m hn,fun i x v e1 e2 e3=>?_⟩;obtain⟨u,r,l⟩:=hl i x v e1 e2 e3;refine⟨u,r,?_⟩;rcases l with l | ⟨k,c,e,z⟩
  ·exact .inl l
  ·exact .inr ⟨k,c,e,cellK x c e _ z⟩
 ·obtain⟨v,z⟩:=I.cell x c e;exact⟨v,cellK x c e v z⟩
 ·obtain⟨m,⟨o,_,_,ho,_⟩,_⟩:=I.loc;exact free _ o (fun z=>(hch _ z).2.1 rfl) ho I.free
 ·obtain⟨v,o,ho,hd⟩:=I.cell x c e;exact free c o (fun z=>(hch c z).2.2.1 x c e rfl) ho (I.dR x c e)
 ·obtain⟨e,n,ne,nf,d⟩:=I.pin p hp;have nch:p.1∉ch:=fun z=>(hch p.1 z).2.2.2 p hp rfl;exact⟨keep p.1 p.2 ne nf nch e n,free p.1 p.2 nch e n,ne,nf,d⟩
theorem Inv.un(I:Inv X mU σ H s)(u:Un X.fs [] H H' s.heap h')(hok:HOk X.prog X.w H' h'):Inv X mU σ H' { s with heap:=h',toks:=t' }:=by
 obtain⟨m,⟨o,es,ep,ho,r⟩,_⟩:=id I.loc;obtain⟨sl,hL⟩:=u.any ho I.free (by simp);exact I.step (g':=s.gens) (d':=s.drawn) (ch:=[]) (fun _ z=>nomatch z) (fun b o _ hb _ e n=>u.keep b o e n hb (by simp)) (fun b o _ hb _ e n=>u.slot b o e n hb (by simp)) (fun b o _ e n=>u.free b o e n (by simp)) (fun b o _ e=>u.there b o e (by simp)) u.tups u.jF u.lT (fun m' hm=>by obtain⟨o',es',ep',ho',r'⟩:=hm;rw[ho]at ho';cases ho';exact⟨_,es',ep',hL,r'⟩) hok I.bare
theorem Inv.call{g':Array GenState}{t':Nat}{d':Drawn}(I:Inv X mU σ H s)(u:Un (frs X.stack) ch H H' s.heap h')(hok:HOk X.prog X.w H' h')(hg:AllBare g')
  (hch:∀b∈ch,(b∈X.ex\/X.s₀.heap.objs.size<=b)/\b≠X.env.locals/\(∀x c,X.env.cells.lookup x=some c->c≠b)/\∀p∈X.pn++mU,p.1≠b) :
  Inv X mU σ H' { s with heap:=h',gens:=g',drawn:=d',toks:=t' }:=by
 obtain⟨m,⟨o,es,ep,ho,r⟩,_⟩:=id I.loc;obtain⟨sl,hL⟩:=u.any ho I.free fun z=>(hch _ z).2.1 rfl;exact I.step (ch:=ch) hch (fun b o hL hb hc e n=>u.keep b o e n (fun z=>(Mv.mp (I.lU b z)).elim hL hb) hc) (fun b o _ _ hc e n=>u.any e n hc) (fun b o hc e n=>u.free b o e n hc) (fun b o hc e=>u.there b o e hc) u.tups u.jF u.lT (fun m' hm=>by obtain⟨o',es',ep',ho',r'⟩:=hm;rw[ho]at ho';cases ho';exact⟨_,es',ep',hL,r'⟩) hok hg
theorem Inv.turned{t':Nat}{it:Addr}(I:Inv X mU σ H s)(k:∀b o,b≠it->s.heap.get? b=some o->h'.get? b=some o)(hn:H it=none)(hL:it≠X.env.locals)
  (h1:it∈X.ex\/X.s₀.heap.objs.size<=it) (h2:∀x c,X.env.cells.lookup x=some c->c≠it) (h3:∀p∈X.pn++mU,p.1≠it):Inv X mU σ H { s with heap:=h',toks:=t' }:=by
 have nit:∀b u,H b=some u->b≠it:=fun b u e z=>by rw[z,hn]at e;cases e
 refine I.step (g':=s.gens) (d':=s.drawn) (ch:=[it]) (fun b hb=>?_) (fun b o _ _ hc e _=>k b o (fun z=>hc (by simp[z])) e) (fun b o _ _ hc e _=>⟨o.slots,k b o (fun z=>hc (by simp[z])) e⟩) (fun _ _ _ _ n=>n)
  (fun b o hc e=>⟨o,k b o (fun z=>hc (by simp[z])) e⟩) (fun _ _ e=>e) (fun _ _ _ e=>e) (fun _ _ _ _ e=>e) (fun m hm=>?_) (fun b u e=>?_) I.bare
 ·have e:b=it:=by simpa using hb
  subst e;exact⟨h1,hL,h2,h3⟩
 ·obtain⟨o,es,ep,ho,r⟩:=hm;exact⟨o,es,ep,k _ o (MJ hL) ho,r⟩
 ·refine(I.hok b u e).stay (fun c v hc q=>k c v ?_ q) (fun _ q=>q) (fun _ _ _ q=>q) fun _ _ q=>q;rcases hc with z | z
  ·rw[z];exact nit b u e
  ·exact nit c _ z
theorem Inv.tok(I:Inv X mU σ H s)(t:Nat):Inv X mU σ H { s with toks:=t }:=I.un (h':=s.heap) (t':=t) Un.refl I.hok
theorem Inv.kept(I:Inv X mU σ H s)(k:∀b u,s.heap.get? b=some u->h'.get? b=some u):Inv X mU σ H { s with heap:=h',toks:=t' }:=I.un (Un.kept k) (I.hok.kept k)
theorem Inv.laid{o:HO}{t':Nat}(I:Inv X mU σ H s)(k:∀b u,s.heap.get? b=some u->h'.get? b=some u)(hp:s.heap.objs.size<=a)(new:bH X.prog X.w (upd H a o) h' a o) :
  Inv X mU σ (upd H a o) { s with heap:=h',toks:=t' }:=I.un (Un.laid k hp (I.hok.fresh hp)) (I.hok.laid k hp new)
theorem Inv.write{x e:Addr}{o:HO}{t':Nat}(I:Inv X mU σ H s)(mu:Mut (H x))(he:e=x\/H e=some (.own x))(k:∀b u,b≠e->s.heap.get? b=some u->h'.get? b=some u)(heo:∃u,h'.get? e=some u)
  (new:bH X.prog X.w (upd H x o) h' x o):Inv X mU σ (upd H x o) { s with heap:=h',toks:=t' }:=I.un (Un.write mu he k heo) (I.hok.write mu he k heo new)
theorem Inv.v8{D6:List (Addr×Obj)}(I:Inv X mU σ H s)(h:∀p∈D6,s.heap.get? p.1=some p.2/\H p.1=none/\p.1≠X.env.locals/\p.1∉X.fs/\∀v,p.2.data≠.cell v):Inv X D6 σ H s:=
 ⟨I.ok,I.os,I.bare,I.base,I.loc,I.cell,I.free,I.dR,fun p hp=>(Nt.mp hp).elim (fun z=>I.pin p (Nl _ z)) (h p),I.hok,I.len⟩
theorem lV{N:List Str}(hN:N.Nodup){i j:Nat}(a:N[i]?=some x)(b:N[j]?=some x):i=j:=by obtain⟨h1,e1⟩:=Dk.mp a;obtain⟨h2,e2⟩:=Dk.mp b;exact(List.getElem_inj hN).mp (e1.trans e2.symm)
theorem kr{M:Model}{A:Around}{E:Value->Shared->Prop}{Q:Unit->Shared->Prop}(I:Inv X mU σ H s)(hN:X.N.Nodup)(hi:X.N[i]?=some x)(hx:Loc X.env.scope x)(r:RelV v u)
  (h:∀s',Inv X mU (σ.set i (some v)) H s'->(∃a,NY a s.heap s'.heap/\(a=X.env.locals\/X.env.cells.lookup x=some a))->Q () s') (hf:X.fn x=true\/X.env.scope.names.lookup x=some .local:=by trivial):wpAny M A (storeName X.env x u) Q E s:=by
 obtain⟨m,hn,hl⟩:=id I.loc;have hcls:(X.env.scope.kind == .class||(X.env.scope.kind == .module&&X.env.locals != X.env.globals))=false:=by rw[I.ok.kind];rfl
 have hiσ:i<σ.length:=by rw[I.len];exact(Dk.mp hi).1
 have cne:=I.cne;have tracked:∀{a:Addr} {h':Heap},(∃o,s.heap.get? a=some o/\H a=none)->NY a s.heap h'->HOk X.prog X.w H h':=fun {a h'} ha hs b ob e=>by
  obtain⟨_,_,hfree⟩:=ha;refine(I.hok b ob e).stay (fun c w' hc q=>(hs.2 c ?_).trans q) (fun _ q=>q) (fun _ _ _ q=>q) fun _ _ q=>q;rintro rfl;rcases hc with rfl | hc
  ·rw[hfree]at e;cases e
  ·rw[hfree]at hc;cases hc
 rcases hx with hk | hk
 ·refine wpAny_storeName_local hk hn (fun h' hn' hs=>?_) hcls;obtain⟨oL,_,_,hoL,_⟩:=id hn;refine h _ ⟨I.ok,I.os,I.bare,⟨fun b o e n hb hx=>?_,fun b o e n hb hx=>?_,I.base.free,fun b o e hx=>?_,I.base.tups,I.base.jF,I.base.lT⟩,⟨_,hn',fun j y v' e1 e2 e3=>?_⟩,fun y c e=>?_,I.free,I.dR,fun p hp=>?_,tracked ⟨oL,hoL,I.free⟩ hs,by simpa using I.len⟩ ⟨_,hs,.inl rfl⟩
  ·exact(hs.2 b (MC (Ms (Mi e) I.ok.above))).trans (I.base.keep b o e n hb hx)
  ·obtain⟨sl,e1⟩:=I.base.slot b o e n hb hx;exact⟨sl,(hs.2 b (MC (Ms (Mi e) I.ok.above))).trans e1⟩
  ·obtain⟨o',e1⟩:=I.base.there b o e hx;exact⟨o',(hs.2 b (MC (Ms (Mi e) I.ok.above))).trans e1⟩
  ·by_cases hj:j=i
   ·subst hj;rw[hi]at e1;cases e1;rw[Mn hiσ]at e2;cases e2;exact⟨u,r,.inl ⟨hk,by simp⟩⟩
   ·rw[gp (MJ hj)]at e2;obtain⟨u',r',q⟩:=hl j y v' e1 e2 e3;refine⟨u',r',?_⟩;rcases q with⟨k,e⟩ | ⟨k,c,e,z⟩
    ·refine .inl ⟨k,?_⟩;have:y≠x:=fun e=>hj (lV hN e1 (e▸hi));simp[this,e]
    ·exact .inr ⟨k,c,e,z.sameBut hs (cne y c e)⟩
  ·obtain⟨w',z⟩:=I.cell y c e;exact⟨w',z.sameBut hs (cne y c e)⟩
  ·obtain⟨e,n,ne,nf,d⟩:=I.pin p hp;exact⟨(hs.2 p.1 ne).trans e,n,ne,nf,d⟩
 ·have hfn:X.fn x=true:=by
   rcases hf with z | z
   ·exact z
   ·rw[z]at hk;cases hk
  obtain⟨c,hc⟩:=I.ok.has x (.inl hk);obtain⟨w',z⟩:=I.cell x c hc;refine wpAny_storeName_cell I.ok.kind hk hc z (fun h' hc' hs=>?_);obtain⟨oc,hoc,K7⟩:=id z;refine h { s with heap:=h' } ⟨I.ok,I.os,I.bare,⟨fun b o e n hb hx=>?_,fun b o e n hb hx=>?_,I.base.free,fun b o e hx=>?_,I.base.tups,I.base.jF,I.base.lT⟩,⟨m,hn.sameBut hs (MJ (cne x c hc)),fun j y v' e1 e2 e3=>?_⟩,fun y c' e=>?_,I.free,I.dR,fun p hp=>?_,tracked ⟨oc,hoc,I.dR x c hc⟩ hs,by simpa using I.len⟩ ⟨c,hs,.inr hc⟩
  ·exact(hs.2 b (MC (Ms (Mi e) (I.ok.cab x c hfn hc)))).trans (I.base.keep b o e n hb hx)
  ·obtain⟨sl,e1⟩:=I.base.slot b o e n hb hx;exact⟨sl,(hs.2 b (MC (Ms (Mi e) (I.ok.cab x c hfn hc)))).trans e1⟩
  ·obtain⟨o',e1⟩:=I.base.there b o e hx;exact⟨o',(hs.2 b (MC (Ms (Mi e) (I.ok.cab x c hfn hc)))).trans e1⟩
  ·by_cases hj:j=i
   ·subst hj;rw[hi]at e1;cases e1;rw[Mn hiσ]at e2;cases e2;exact⟨u,r,.inr ⟨.inl hk,c,hc,hc'⟩⟩
   ·rw[gp (MJ hj)]at e2;obtain⟨u',r',q⟩:=hl j y v' e1 e2 e3;refine⟨u',r',?_⟩;rcases q with q | ⟨k,c',e,z'⟩
    ·exact .inl q
    ·refine .inr ⟨k,c',e,z'.sameBut hs ?_⟩;rintro rfl;exact hj (lV hN e1 (I.ok.inj _ _ _ e hc▸hi))
  ·by_cases hcc:c'=c
   ·subst hcc;exact⟨_,hc'⟩
   ·obtain⟨w2,z2⟩:=I.cell y c' e;exact⟨w2,z2.sameBut hs hcc⟩
  ·obtain⟨e,n,ne,nf,d⟩:=I.pin p hp;refine⟨(hs.2 p.1 ?_).trans e,n,ne,nf,d⟩;intro q;rw[q,hoc]at e;have q':oc=p.2:=Option.some.inj e;exact d w' (by rw[<- q'];exact K7)
theorem rP{M:Model}{A:Around}{E:Value->Shared->Prop}{Q:Unit->Shared->Prop}(I:Inv X mU σ H s)(hN:X.N.Nodup)(hi:X.N[i]?=some x)(hx:Loc X.env.scope x)(r:RelV v u)
  (h:∀s',Inv X mU (σ.set i (some v)) H s'->Q () s') (hf:X.fn x=true\/X.env.scope.names.lookup x=some .local:=by trivial):wpAny M A (storeName X.env x u) Q E s:=
 kr I hN hi hx r (fun s' I' _=>h s' I') hf
theorem Inv.H_{s':Shared}(I:Inv X mU σ H s)(ho:s'.os=s.os)(u:Un (frs X.stack) ch H H' s.heap s'.heap)(hok:HOk X.prog X.w H' s'.heap)(hg:AllBare s'.gens)
  (hch:∀b∈ch,(b∈X.ex\/X.s₀.heap.objs.size<=b)/\b≠X.env.locals/\(∀x c,X.env.cells.lookup x=some c->c≠b)/\∀p∈X.pn++mU,p.1≠b):Inv X mU σ H' s':=by
 obtain⟨h',g',d',t',o'⟩:=s';have e:o'=s.os:=ho;subst e;exact I.call (g':=g') (t':=t') (d':=d') u hok hg hch
end
end
noncomputable abbrev XK:=Value->Option Addr->Hp->Prop
noncomputable abbrev St:=List (Option V)
noncomputable abbrev VK:=V->Hp->Prop
noncomputable abbrev TE:=St->Hp->VK->Prop
noncomputable abbrev TT:=St->Hp->(Bool->Hp->Prop)->Prop
noncomputable abbrev TA:=St->Hp->(List V->Hp->Prop)->Prop
structure Ends where
 nx:St->Hp->Prop
 rt:VK
 bk:St->Hp->Prop:=fun _ _=>False
 ct:St->Hp->Prop:=fun _ _=>False
noncomputable abbrev TS:=Ends->St->Hp->Prop
def EP(X:Cx)(mU:List (Addr×Obj))(σ:St)(Q:VK)(u:Value)(s':Shared):Prop:=∃v H',Inv X mU σ H' s'/\RelV v u/\Q v H'
def TP(X:Cx)(mU:List (Addr×Obj))(σ:St)(Q:Bool->Hp->Prop)(b:Bool)(s':Shared):Prop:=∃H',Inv X mU σ H' s'/\Q b H'
def AP(X:Cx)(mU:List (Addr×Obj))(σ:St)(Q:List V->Hp->Prop)(us:List Value)(s':Shared):Prop:=∃vs H',Inv X mU σ H' s'/\Vals vs us/\Q vs H'
def SP(X:Cx)(mU:List (Addr×Obj))(D:Ends)(f:Flow)(s':Shared):Prop:=
 match f with
 |.next=>∃σ' H',Inv X mU σ' H' s'/\D.nx σ' H'
 |.brk=>∃σ' H',Inv X mU σ' H' s'/\D.bk σ' H'
 |.cont=>∃σ' H',Inv X mU σ' H' s'/\D.ct σ' H'
 |.ret u=>∃v σ' H',Inv X mU σ' H' s'/\RelV v u/\D.rt v H'
def PE(X:Cx)(e:Expr)(t:TE):Prop:=
 ∀(mU:List (Addr×Obj)) (s:Shared) (σ:St) (H:Hp) (Q:VK),Inv X mU σ H s->t σ H Q->wpAny (model X.prog X.w) X.A (eval e X.env) (EP X mU σ Q) X.xe s
def PT(X:Cx)(e:Expr)(t:TT):Prop:=
 ∀(mU:List (Addr×Obj)) (s:Shared) (σ:St) (H:Hp) (Q:Bool->Hp->Prop),Inv X mU σ H s->t σ H Q->wpAny (model X.prog X.w) X.A (isTrue e X.env (eval e X.env)) (TP X mU σ Q) X.xe s
def PW(X:Cx)(e:Expr)(t:TT):Prop:=
 ∀(whole:Sem Value) (mU:List (Addr×Obj)) (s:Shared) (σ:St) (H:Hp) (Q:Bool->Hp->Prop),Inv X mU σ H s->t σ H Q->wpAny (model X.prog X.w) X.A (isTrue e X.env whole) (TP X mU σ Q) X.xe s
theorem PW.pt{X:Cx}{e:Expr}{t:TT}(h:PW X e t):PT X e t:=h _
def PA(X:Cx)(es:List Expr)(t:TA):Prop:=
 ∀(pos:Pos) (mU:List (Addr×Obj)) (s:Shared) (σ:St) (H:Hp) (Q:List V->Hp->Prop),Inv X mU σ H s->t σ H Q->wpAny (model X.prog X.w) X.A (spliced (backTo pos (starEach es X.env))) (AP X mU σ Q) X.xe s
def PS(X:Cx)(st:Stmt)(t:TS):Prop:=
 ∀(mU:List (Addr×Obj)) (s:Shared) (σ:St) (H:Hp) (D:Ends),Inv X mU σ H s->t D σ H->wpAny (model X.prog X.w) X.A (exec st X.env) (SP X mU D) X.xe s
def PSs(X:Cx)(st:List Stmt)(t:TS):Prop:=
 ∀(mU:List (Addr×Obj)) (s:Shared) (σ:St) (H:Hp) (D:Ends),Inv X mU σ H s->t D σ H->wpAny (model X.prog X.w) X.A (execs st X.env) (SP X mU D) X.xe s
theorem thn{α:Type}{t:Sem α}{Q Q':α->Shared->Prop}{M:Model}{A:Around}{E:Value->Shared->Prop}{s:Shared}(h:wpAny M A t Q E s)(hQ:∀a s,Q a s->Q' a s):wpAny M A t Q' E s:=wpAny_mono h hQ fun _ _ x=>x
section
variable{X:Cx}
section
variable{Q:Value->Shared->Prop}{mU:List (Addr×Obj)}{u:Value}{x:Str}{s:Shared}{σ:St}{H:Hp}{t:TE}{v:V}
def uQ(i:Nat):TE:=fun σ H Q=>∃v,σ[i]?=some (some v)/\Q v H
def tC(v:V):TE:=fun _ H Q=>Q v H
theorem ku{i:Nat}{pos:Pos}(hN:X.N[i]?=some x)(hv:Vis X.env.scope x)(hd:(x == ("__debug__" : Str))=false:=by decide)(JL:(x == ("__classdict__" : Str))=false:=by decide):PE X (.Name x pos) (uQ i):=by
 intro mU s σ H Q I h;obtain⟨v,e,h⟩:=h;obtain⟨m,hn,hl⟩:=I.loc;obtain⟨u,r,l⟩:=hl i x v hN e hv;have JI:EP X mU σ Q u s:=⟨v,H,I,r,h⟩
 rcases l with⟨hk,hm⟩ | ⟨hk,c,hc,hcell⟩
 ·exact wpAny_Name (wpAny_loadName_local I.ok.kind hk hn hm JI) hd
 ·rcases hk with hk | hk
  ·exact wpAny_Name (wpAny_loadName_cell I.ok.kind hk hc hcell JI) hd
  ·exact wpAny_Name (wpAny_loadName_free I.ok.kind hk hc hcell JI JL) hd
theorem yI{i j pos}:PE X (.Constant (.int i) j pos) (tC (.int i)):=fun _ _ _ H _ I h=>wpAny_Constant_int ⟨.int i,H,I.tok _,⟨_,rfl⟩,h⟩
theorem Ia{b j pos}:PE X (.Constant (.bool b) j pos) (tC (.bl b)):=fun _ _ _ H _ I h=>Constant_bool ⟨.bl b,H,I,rfl,h⟩
theorem Fc{j pos}:PE X (.Constant .none j pos) (tC .non):=fun _ _ _ H _ I h=>Constant_none ⟨.non,H,I,rfl,h⟩
theorem Fd{x j pos}:PE X (.Constant (.str x) j pos) (tC (.str x)):=fun _ _ _ H _ I h=>Calls.Constant_str ⟨.str x,H,I.tok _,⟨_,rfl⟩,h⟩
def Gl(X:Cx)(x:Str):Prop:=X.env.kindOf x=some .globalImplicit
theorem h_{E:Value->Shared->Prop}{pos:Pos}(I:Inv X mU σ H s)(hg:Gl X x)(hm:X.mg x=some u)(h:Q u s)
  (hd:(x == ("__debug__" : Str))=false:=by decide):wpAny (model X.prog X.w) X.A (eval (.Name x pos) X.env) Q E s:=
 Calls.Name_function_global I.ok.kind hg (Calls.loadGlobal_global (by rw[I.ok.glob];exact I.mod.glob.keeps I.bk) hm h) hd
theorem dg{E:Value->Shared->Prop}{pos:Pos}(I:Inv X mU σ H s)(hg:Gl X x)(hm:X.mg x=none)(hv:bootBuiltins x=some u)(h:Q u s)
  (hn:x ≠ "__name__" := by decide) (hd:(x == ("__debug__" : Str))=false:=by decide):wpAny (model X.prog X.w) X.A (eval (.Name x pos) X.env) Q E s:=by
 obtain⟨mb,h1,h2⟩:=I.mod.blt;exact Calls.Name_function_global I.ok.kind hg (Calls.loadGlobal_builtin (by rw[I.ok.glob];exact I.mod.glob.keeps I.bk) hm (by rw[I.ok.blt];exact h1.keeps I.bk) ((h2 x hn).trans hv) h) hd
theorem ql{pos:Pos}(hg:Gl X x)(hm:X.mg x=some u)(r:RelV v u)(hd:(x == ("__debug__" : Str))=false:=by decide):PE X (.Name x pos) (tC v):=
 fun _ _ _ H _ I h=>h_ I hg hm ⟨v,H,I,r,h⟩ hd
theorem v9{pos:Pos}(hg:Gl X x)(hm:X.mg x=none)(hv:bootBuiltins x=some u)(r:RelV v u)(hn:x ≠ "__name__" := by decide)(hd:(x == ("__debug__" : Str))=false:=by decide):PE X (.Name x pos) (tC v):=
 fun _ _ _ H _ I h=>dg I hg hm hv ⟨v,H,I,r,h⟩ hn hd
variable{a b:Expr}{ta tb:TE}{pos:Pos}
def tB(t:TE):TT:=fun σ H Q=>t σ H fun x H1=>∃c,x=.bl c/\Q c H1
theorem Fe{e:Expr}(h:PE X e t)(he:∀whole,isTrue e X.env whole=(do let v <- whole;standAt e.pos;holding [v] (truthy v)):=by intro _;rfl):PT X e (tB t):=by intro mU s σ H Q I hw;refine isTrue_plain (thn (h mU s σ H _ I hw) fun v s1 ⟨x,H1,I1,r1,q1⟩=>?_) (he _);obtain⟨d,rfl,q⟩:=q1;cases r1;exact wpAny_truthy_bool ⟨H1,I1,q⟩
variable{tA tB':TT}{qU:List Expr}
def lW(t u:TT):TT:=fun σ H Q=>t σ H fun c H1=>if c=true then u σ H1 Q else Q false H1
def tOr(t u:TT):TT:=fun σ H Q=>t σ H fun c H1=>if c=true then Q true H1 else u σ H1 Q
def dh(t:TT):TT:=fun σ H Q=>t σ H fun c H1=>Q (!c) H1
theorem pw_and1(ha:PT X a tA):PW X (.BoolOp .And [a] pos) tA:=by
 intro wh mU s σ H Q I h;refine isTrue_and (thn (ha mU s σ H Q I h) fun c s1 e=>?_);cases c with
 |true=>exact isTrue_and_nil e
 |false=>exact e
theorem pw_or1(ha:PT X a tA):PW X (.BoolOp .Or [a] pos) tA:=by
 intro wh mU s σ H Q I h;refine isTrue_or (thn (ha mU s σ H Q I h) fun c s1 e=>?_);cases c with
 |false=>exact isTrue_or_nil e
 |true=>exact e
theorem pw_and(ha:PT X a tA)(hb:PW X (.BoolOp .And (b::qU) pos) tB'):PW X (.BoolOp .And (a::b::qU) pos) (lW tA tB'):=by
 intro wh mU s σ H Q I h;refine isTrue_and (thn (ha mU s σ H _ I h) fun c s1 ⟨H1,I1,q1⟩=>?_);cases c with
 |true=>exact hb wh mU s1 σ H1 Q I1 q1
 |false=>exact⟨H1,I1,q1⟩
theorem pw_or(ha:PT X a tA)(hb:PW X (.BoolOp .Or (b::qU) pos) tB'):PW X (.BoolOp .Or (a::b::qU) pos) (tOr tA tB'):=by
 intro wh mU s σ H Q I h;refine isTrue_or (thn (ha mU s σ H _ I h) fun c s1 ⟨H1,I1,q1⟩=>?_);cases c with
 |true=>exact⟨H1,I1,q1⟩
 |false=>exact hb wh mU s1 σ H1 Q I1 q1
theorem Ff(ha:PT X a tA):PT X (.UnaryOp .Not a pos) (dh tA):=by intro mU s σ H Q I h;exact isTrue_not (ha mU s σ H (fun c H1=>Q (!c) H1) I h)
def D7(ta tb:TE):TE:=fun σ H Q=>ta σ H fun x H1=>∃c,x=.bl c/\if c=true then tb σ H1 Q else Q (.bl false) H1
def D8(ta:TE):TE:=fun σ H Q=>ta σ H fun x H1=>∃c,x=.bl c/\Q (.bl (!c)) H1
theorem Fg{op}(h:PE X a t):PE X (.BoolOp op [a] pos) t:=fun mU s σ H Q I hw=>BoolOp_one (h mU s σ H Q I hw)
theorem Fi(ha:PE X a ta)(hb:PE X (.BoolOp .And (b::qU) pos) tb):PE X (.BoolOp .And (a::b::qU) pos) (D7 ta tb):=by
 intro mU s σ H Q I h;refine BoolOp_and (thn (ha mU s σ H _ I h) fun v s1 ⟨x,H1,I1,r1,q1⟩=>?_);obtain⟨c,rfl,q1⟩:=q1;cases r1;refine wpAny_truthy_bool ?_;cases c with
 |true=>exact hb mU s1 σ H1 Q I1 q1
 |false=>exact⟨.bl false,H1,I1,rfl,q1⟩
theorem Fj(ha:PE X a ta):PE X (.UnaryOp .Not a pos) (D8 ta):=by intro mU s σ H Q I h;refine UnaryOp_ (thn (ha mU s σ H _ I h) fun v s1 ⟨x,H1,I1,r1,q1⟩=>?_);obtain⟨c,rfl,q1⟩:=q1;cases r1;exact not_of (wpAny_truthy_bool ⟨.bl (!c),H1,I1,rfl,q1⟩)
def tIf(t:TT)(ta tb:TE):TE:=fun σ H Q=>t σ H fun c H1=>if c=true then ta σ H1 Q else tb σ H1 Q
theorem yJ{c:Expr}(hc:PT X c tA)(ha:PE X a ta)(hb:PE X b tb):PE X (.IfExp c a b pos) (tIf tA ta tb):=by
 intro mU s σ H Q I h;refine wpAny_IfExp (thn (hc mU s σ H _ I h) fun d s1 ⟨H1,I1,q1⟩=>?_);cases d with
 |true=>exact ha mU s1 σ H1 Q I1 q1
 |false=>exact hb mU s1 σ H1 Q I1 q1
end
end
def SqL(K:gc)(H:Hp)(a:Addr)(xs:List V):Prop:=
 Rd H a (.lst xs) \/
  ∃(o:Obj) (its:Array Value) (n:Nat),K.lookup a=some o/\o.cls=.type "list" /\ o.dict=none/\o.data=.seq its n/\its.size<=sizeLine/\Vals xs its.toList
def SqT(K:gc)(H:Hp)(a:Addr)(xs:List V):Prop:=
 Rd H a (.tup xs) \/
  ∃(o:Obj) (its:Array Value) (n:Nat),K.lookup a=some o/\o.cls=.type "tuple" /\ o.data=.seq its n/\its.size<=sizeLine/\Vals xs its.toList
noncomputable def K8:Value->Option V
 |.none=>some .non
 |.bool b=>some (.bl b)
 |.int i _=>some (.int i)
 |.str x _=>some (.str x)
 |.bytes b _=>some (.byt b)
 |.float b _=>some (.flt b)
 |.ref a=>some (.ref a)
 |.type n=>some (.ty n)
 |_=>none
theorem RelV.abs{x:V}{u:Value}(r:RelV x u):K8 u=some x:=by
 cases x with
 |non=>cases r;rfl
 |bl _=>cases r;rfl
 |int _=>obtain⟨t,rfl⟩:=r;rfl
 |str _=>obtain⟨t,rfl⟩:=r;rfl
 |byt _=>obtain⟨t,rfl⟩:=r;rfl
 |flt _=>obtain⟨t,rfl⟩:=r;rfl
 |ref _=>cases r;rfl
 |ty _=>cases r;rfl
theorem RelV.inj{x y:V}{u:Value}(r:RelV x u)(q:RelV y u):x=y:=Option.some.inj (r.abs.symm.trans q.abs)
theorem Vals.inj:∀{xs ys:List V} {us:List Value},Vals xs us->Vals ys us->xs=ys
 |_,_,_,.nil,.nil=>rfl
 |_,_,_,.cons r t,.cons r' t'=>by rw[r.inj r',Vals.inj t t']
section
variable{X:Cx}{mU:List (Addr×Obj)}{σ:St}{H:Hp}{s:Shared}{a:Addr}{xs ys:List V}
theorem SqT.of{K:gc}(h:H a=some (.tup xs)):SqT K H a xs:=.inl (.inl h)
theorem Inv.list(I:Inv X mU σ H s)(h:SqL X.K H a xs):∃its:List Value,Vals xs its/\PlainL s.heap a its.toArray/\xs.length<=sizeLine:=by
 rcases h with h | ⟨o,its,n,hk,hc,hd,hs,hz,r⟩
 ·obtain⟨z,its,n,r,e⟩:=h.ok I.hok;exact⟨its,r,⟨_,n,e,rfl,rfl,rfl⟩,z⟩
 ·refine⟨its.toList,r,⟨o,n,I.kIn a o hk,hc,hd,by simpa using hs⟩,?_⟩;have e:=r.length;simp only[N7]at e
  lia
theorem Inv.tuple(I:Inv X mU σ H s)(h:SqT X.K H a xs):∃its:List Value,Vals xs its/\IsTup s.heap a its.toArray/\xs.length<=sizeLine:=by
 rcases h with h | ⟨o,its,n,hk,hc,hs,hz,r⟩
 ·obtain⟨z,its,r,p⟩:=h.ok I.hok;exact⟨its,r,p,z⟩
 ·refine⟨its.toList,r,⟨o,I.kIn a o hk,hc,n,by simpa using hs⟩,?_⟩;have e:=r.length;simp only[N7]at e
  lia
theorem Inv.gx(I:Inv X mU σ H s)(h:SqL X.K H a xs)(h':SqL X.K H a ys):xs=ys:=by
 obtain⟨its,r,⟨o,n,e,_,_,d⟩,_⟩:=I.list h;obtain⟨its',r',⟨o',n',e',_,_,d'⟩,_⟩:=I.list h';rw[e]at e';cases e';rw[d]at d';injection d' with d1 _
 have:its=its':=by simpa using congrArg Array.toList d1
 subst this;exact r.inj r'
theorem Inv.xA(I:Inv X mU σ H s)(h:SqT X.K H a xs)(h':SqT X.K H a ys):xs=ys:=by
 obtain⟨its,r,⟨o,e,_,n,d⟩,_⟩:=I.tuple h;obtain⟨its',r',⟨o',e',_,n',d'⟩,_⟩:=I.tuple h';rw[e]at e';cases e';rw[d]at d';injection d' with d1 _
 have:its=its':=by simpa using congrArg Array.toList d1
 subst this;exact r.inj r'
end
noncomputable abbrev Cx.oR(X:Cx)(E:Value->Shared->Prop):Cx:={ X with xe:=E }
noncomputable abbrev Cx.nox(X:Cx):Cx:=X.oR fun _ _=>False
theorem Cx.Ok.oR{X:Cx}(ok:X.Ok)(E:Value->Shared->Prop):(X.oR E).Ok:=
 ⟨ok.mod,ok.kind,ok.glob,ok.blt,ok.above,ok.inj,ok.has,ok.cab,ok.hd,ok.frames,ok.stk,ok.exf,ok.bs,ok.bsz,ok.yH,ok.Cd,ok.kq,ok.frf⟩
theorem Cx.Ok.gy{X:Cx}{E:Value->Shared->Prop}(ok:(X.oR E).Ok):X.Ok:=
 ⟨ok.mod,ok.kind,ok.glob,ok.blt,ok.above,ok.inj,ok.has,ok.cab,ok.hd,ok.frames,ok.stk,ok.exf,ok.bs,ok.bsz,ok.yH,ok.Cd,ok.kq,ok.frf⟩
section
variable{X:Cx}{mU:List (Addr×Obj)}{σ:St}{H:Hp}{s:Shared}{E:Value->Shared->Prop}
theorem Inv.oR(I:Inv X mU σ H s)(E:Value->Shared->Prop):Inv (X.oR E) mU σ H s:=⟨I.ok.oR E,I.os,I.bare,I.base,I.loc,I.cell,I.free,I.dR,I.pin,I.hok,I.len⟩
theorem Inv.gy(I:Inv (X.oR E) mU σ H s):Inv X mU σ H s:=⟨I.ok.gy,I.os,I.bare,I.base,I.loc,I.cell,I.free,I.dR,I.pin,I.hok,I.len⟩
theorem SP.gy{D:Ends}{f:Flow}{s':Shared}(h:SP (X.oR E) mU D f s'):SP X mU D f s':=by
 cases f with
 |next=>obtain⟨σ',H',I,q⟩:=h;exact⟨σ',H',I.gy,q⟩
 |brk=>obtain⟨σ',H',I,q⟩:=h;exact⟨σ',H',I.gy,q⟩
 |cont=>obtain⟨σ',H',I,q⟩:=h;exact⟨σ',H',I.gy,q⟩
 |ret u=>obtain⟨v,σ',H',I,r,q⟩:=h;exact⟨v,σ',H',I.gy,r,q⟩
theorem PSs.nox{st:List Stmt}{t:TS}(h:PSs X.nox st t):PSs X st t:=fun mU s σ H D I hw=>wpAny_mono (h mU s σ H D (I.oR _) hw) (fun _ _ q=>q.gy) fun _ _ z=>Mr z
end
section
variable{X:Cx}{st:Stmt}{qU:List Stmt}{t u:TS}{e:Expr}{te:TE}{pos:Pos}
def v_:TS:=fun D σ H=>D.nx σ H
def rQ(t u:TS):TS:=fun D σ H=>t { D with nx:=u D } σ H
theorem qm:PSs X [] v_:=fun _ _ σ H _ I h=>wpAny_execs_nil ⟨σ,H,I,h⟩
theorem eN(h1:PS X st t)(h2:PSs X qU u):PSs X (st::qU) (rQ t u):=by
 intro mU s σ H D I h;refine wpAny_execs_cons (thn (h1 mU s σ H { D with nx:=u D } I h) fun f s1 q=>?_);cases f with
 |next=>obtain⟨σ',H',I',q⟩:=q;exact h2 mU s1 σ' H' D I' q
 |ret v=>exact q
 |brk=>exact q
 |cont=>exact q
theorem fT(h1:PS X st t):PSs X [st] t:=by
 intro mU s σ H D I h;refine wpAny_execs_cons (thn (h1 mU s σ H D I h) fun f s1 q=>?_);cases f with
 |next=>exact wpAny_execs_nil q
 |ret v=>exact q
 |brk=>exact q
 |cont=>exact q
theorem Inv.quiet{mU:List (Addr×Obj)}{σ:St}{H:Hp}{s:Shared}(I:Inv X mU σ H s):interactive X.env=false:=by simp[interactive,I.ok.kind]
def rR(te:TE):TS:=fun D σ H=>te σ H fun _ H1=>D.nx σ H1
theorem lJ(he:PE X e te)(hs:swapsWith e none pos.line X.env=pure false:=by rfl):PS X (.Expr e pos) (rR te):=by intro mU s σ H D I h;exact wpAny_Expr_any (thn (he mU s σ H _ I h) fun v s1 ⟨x,H1,I1,r1,q1⟩=>⟨σ,H1,I1,q1⟩) I.quiet hs
def Ce(te:TE):TS:=fun D σ H=>te σ H D.rt
theorem qo(he:PE X e te):PS X (.Return (some e) pos) (Ce te):=by intro mU s σ H D I h;exact wpAny_Return_some (thn (he mU s σ H _ I h) fun v s1 ⟨x,H1,I1,r1,q1⟩=>⟨x,σ,H1,I1,r1,q1⟩)
def yK(c:TT)(t u:TS):TS:=fun D σ H=>c σ H fun b H1=>if b=true then t D σ H1 else u D σ H1
theorem rS{c:Expr}{a b:List Stmt}{tc:TT}(hc:PT X c tc)(ha:PSs X a t)(hb:PSs X b u):PS X (.If c a b pos) (yK tc t u):=by
 intro mU s σ H D I h;refine wpAny_If (thn (hc mU s σ H _ I h) fun d s1 ⟨H1,I1,q1⟩=>?_);cases d with
 |true=>exact ha mU s1 σ H1 D I1 q1
 |false=>exact hb mU s1 σ H1 D I1 q1
def Fl:TS:=fun _ _ _=>False
theorem yL:PS X st Fl:=fun _ _ _ _ _ _ h=>h.elim
end
noncomputable abbrev TG:=V->St->Hp->(St->Hp->Prop)->Prop
noncomputable abbrev TGs:=List V->St->Hp->(St->Hp->Prop)->Prop
def PG(X:Cx)(target:Expr)(t:TG):Prop:=
 ∀(mU:List (Addr×Obj)) (s:Shared) (σ:St) (H:Hp) (v:V) (u:Value) (Q:St->Hp->Prop),Inv X mU σ H s->RelV v u->t v σ H Q ->
  wpAny (model X.prog X.w) X.A (assign target X.env u) (fun _ s'=>∃σ' H',Inv X mU σ' H' s'/\Q σ' H') X.xe s
def PGs(X:Cx)(ts:List Expr)(t:TGs):Prop:=
 ∀(mU:List (Addr×Obj)) (s:Shared) (σ:St) (H:Hp) (vs:List V) (us:List Value) (Q:St->Hp->Prop),Inv X mU σ H s->Vals vs us->t vs σ H Q ->
  wpAny (model X.prog X.w) X.A (assignInOrder ((assignEach ts X.env).map (·.2)) us) (fun _ s'=>∃σ' H',Inv X mU σ' H' s'/\Q σ' H') X.xe s
noncomputable abbrev Fo:=V->V->V->Hp->(Hp->Prop)->Prop
def Ib(X:Cx)(t:Fo):Prop:=
 ∀(mU:List (Addr×Obj)) (s:Shared) (σ:St) (H:Hp) (o i v:V) (ov iv u:Value) (Q:Hp->Prop),Inv X mU σ H s->RelV o ov->RelV i iv->RelV v u->t o i v H Q ->
  wpAny (model X.prog X.w) X.A (setItem ov iv u) (fun _ s'=>∃H',Inv X mU σ H' s'/\Q H') X.xe s
section
variable{X:Cx}{pos:Pos}
section
variable{es:List Expr}{e:Expr}{x:Str}{i:Nat}{te:TE}
def jG(i:Nat):TG:=fun v σ H Q=>Q (σ.set i (some v)) H
theorem qp(hN:X.N.Nodup)(hi:X.N[i]?=some x)(hx:Loc X.env.scope x)(hf:X.fn x=true\/X.env.scope.names.lookup x=some .local:=by trivial):PG X (.Name x pos) (jG i):=by intro mU s σ H v u Q I r h;exact wpAny_assign_Name (rP I hN hi hx r (fun s' I'=>⟨_,H,I',h⟩) hf)
def Ic:TGs:=fun vs σ H Q=>vs=[]/\Q σ H
def D9(t:TG)(u:TGs):TGs:=fun vs σ H Q=>∃v r,vs=v::r/\t v σ H fun σ' H'=>u r σ' H' Q
theorem Cf:PGs X [] Ic:=by intro mU s σ H vs us Q I r h;obtain⟨e,h⟩:=h;subst e;cases r;exact assignInOrder_nil ⟨σ,H,I,h⟩
theorem yM{t:TG}{u:TGs}(h1:PG X e t)(h2:PGs X es u)
  (hs:(assignEach (e::es) X.env).map (·.2)=assign e X.env::(assignEach es X.env).map (·.2):=by rfl):PGs X (e::es) (D9 t u):=by
 intro mU s σ H vs us Q I r h;obtain⟨v,vr,e1,h⟩:=h;subst e1;cases r with
 |cons r rr=>rw[hs];refine assignInOrder_cons (thn (h1 mU s σ H _ _ _ I r h) fun _ s1 ⟨σ1,H1,I1,q1⟩=>?_);exact h2 mU s1 σ1 H1 _ _ Q I1 rr q1
def Fp(K:gc)(n:Nat)(t:TGs):TG:=fun v σ H Q=>∃a xs,v=.ref a/\SqT K H a xs/\xs.length=n/\t xs σ H Q
theorem uR{k:Nat}{t:TGs}{n:Nat}(hc:X.calm=true)(h:PGs X es t)
  (hn:(assignEach es X.env).length=n:=by rfl) (hst:(assignEach es X.env).findIdx? (·.1)=none:=by rfl):PG X (.Tuple es k pos) (Fp X.K n t):=by
 intro mU s σ H v u Q I r hw;obtain⟨a,xs,e1,hq,hl,hw⟩:=hw;subst e1;cases r;obtain⟨its,rv,ht,hz⟩:=I.tuple hq;refine assign_Tuple_tuple (I.ok.hd hc) ht (by simp[hn,<- hl,rv.length]) hst fun h' hx=>?_;have I1:Inv X mU σ H { s with heap:=h' }:=I.kept (t':=s.toks) fun b o e=>hx b o (MC (Mi e)) e;exact h mU _ σ H xs _ Q I1 (by simpa using rv) hw
def fU(to ti:TE)(t:Fo):TG:=fun v σ H Q=>to σ H fun o H1=>ti σ H1 fun i H2=>t o i v H2 fun H3=>Q σ H3
theorem Fq{o i:Expr}{to ti:TE}{t:Fo}(ho:PE X o to)(hi:PE X i ti)(hs:Ib X t)
  (ha:∀ v,assign (.Subscript o i pos) X.env v=(do
   let ov <- holding [v] (eval o X.env)
   let iv <- holding [v,ov] (eval i X.env)
   standAt pos
   holding [v,ov,iv] (setItem ov iv v)
   release [v,ov,iv] []):=by intro _;rfl):PG X (.Subscript o i pos) (fU to ti t):=by
 intro mU s σ H v u Q I r h;rw[ha];refine wpAny_bind (wpAny_holding (thn (ho mU s σ H _ I h) fun ov s1 ⟨x,H1,I1,r1,q1⟩=>?_));refine wpAny_bind (wpAny_holding (thn (hi mU s1 σ H1 _ I1 q1) fun iv s2 ⟨y,H2,I2,r2,q2⟩=>?_));refine wpAny_bind (wpAny_standAt (wpAny_bind (wpAny_holding (thn (hs mU s2 σ H2 x y v ov iv u _ I2 r1 r2 r q2) fun _ s3 ⟨H3,I3,q3⟩=>?_))));exact wpAny_release ⟨σ,H3,I3,q3⟩
def rT(te:TE)(g:TG):TS:=fun D σ H=>te σ H fun x H1=>g x σ H1 D.nx
theorem yN{tg e:Expr}{g:TG}(he:PE X e te)(hg:PG X tg g)(hs:swapsWithSole [tg] e pos.line X.env=pure false:=by rfl)(hw:swappedStores [tg] e X.env=pure none:=by rfl)
  (h1:(assignEach [tg] X.env).map (·.2)=[assign tg X.env]:=by rfl):PS X (.Assign [tg] e pos) (rT te g):=by
 intro mU s σ H D I h;refine wpAny_Assign_stores (thn (he mU s σ H _ I h) fun v s1 ⟨x,H1,I1,r1,q1⟩=>?_) hs hw;rw[h1];exact thn (hg mU s1 σ H1 x v _ I1 r1 q1) fun _ s2 q=>q
theorem lX{pos':Pos}(hN:X.N.Nodup)(hi:X.N[i]?=some x)(hx:Loc X.env.scope x)(he:PE X e te)(hs:swapsWith e (some (.Name x pos')) pos.line X.env=pure false:=by rfl)(hf:X.fn x=true\/X.env.scope.names.lookup x=some .local:=by trivial) :
  PS X (.Assign [.Name x pos'] e pos) (rT te (jG i)):=by
 intro mU s σ H D I h;refine wpAny_Assign_Name (thn (he mU s σ H _ I h) fun v s1 ⟨y,H1,I1,r1,q1⟩=>?_) hs;exact rP I1 hN hi hx r1 (fun s2 I2=>⟨_,H1,I2,q1⟩) hf
end
end
section
variable{P:Program}{tg:Expr}{w:World}{s:Shared}{K:gc}
structure It where
 go:Nat->Hp->Prop
 yld:Nat->Hp->V->Hp->Prop
 stop:Nat->Hp->Prop
def lY(X:Cx)(mU:List (Addr×Obj))(H:Hp)(b:Addr):Prop:=
 H b=none/\b≠X.env.locals/\b∉X.fs/\(b∈X.ex\/X.s₀.heap.objs.size<=b)/\(∀x c,X.env.cells.lookup x=some c->c≠b)/\∀p∈X.pn++mU,p.1≠b
theorem Inv.rV{X:Cx}{mU:List (Addr×Obj)}{σ:St}{H H':Hp}{b:Addr}(I:Inv X mU σ H s)(hb:s.heap.objs.size<=b)(hn:H' b=none):lY X mU H' b:=by
 refine⟨hn,Nm (Ms I.lt hb),I.K6 hb,.inr (MQ I.sz hb),fun x c e z=>?_,fun p hp z=>?_⟩
 ·obtain⟨v,q⟩:=I.cell x c e;exact absurd (Ms q.lt (by rw[z];exact hb)) (MV _)
 ·exact absurd (Ms (Mi (I.pin p hp).1) (by rw[z];exact hb)) (MV _)
structure Turn(P:Program)(w:World)(K:gc)(tg:Expr)(J:It)(fp:List Addr)(it:Addr)(tn:Nat->Heap->Prop)(CC:Cx->Prop:=fun X=>X.calm=true):Prop where
 mem:it∈fp
 obj:∀i h,tn i h->∀b∈fp,∃o,h.get? b=some o/\∀v,o.data≠.cell v
 keep:∀i h h',tn i h->(∀b∈fp,∀o,h.get? b=some o->h'.get? b=some o)->tn i h'
 item:∀(X:Cx),X.prog=P->X.w=w->X.K=K->CC X->∀(i:Nat) (mU:List (Addr×Obj)) (s:Shared) (σ:St) (H:Hp) (E:Value->Shared->Prop),Inv X mU σ H s->(∀b∈fp,lY X mU H b)->tn i s.heap->J.go i H ->
  wpAny (model P w) X.A (pyNext (.ref it)) (fun r s1=>∃ u,r=some u ∧
   wpAny (model P w) X.A (letOwnedTupleGo tg (.ref it) u) (fun _ s2=>∃x H',Inv X mU σ H' s2/\RelV x u/\J.yld i H x H'/\tn (i+1) s2.heap/\∀b∈fp,H' b=none) E s1) E s
 done:∀(X:Cx),X.prog=P->X.w=w->X.K=K->CC X->∀(i:Nat) (mU:List (Addr×Obj)) (s:Shared) (σ:St) (H:Hp) (E:Value->Shared->Prop),Inv X mU σ H s->(∀b∈fp,lY X mU H b)->tn i s.heap->J.stop i H ->
  wpAny (model P w) X.A (pyNext (.ref it)) (fun r s1=>r=none/\Inv X mU σ H s1) E s
 self:∀(A:Around) (i:Nat) (s:Shared) (Q:Value->Shared->Prop) (E:Value->Shared->Prop),tn i s.heap->Q (.ref it) s->wpAny (model P w) A (pyIter (.ref it)) Q E s
noncomputable abbrev TI:=St->Hp->(It->Hp->Prop)->Prop
def PIE(X:Cx)(mU:List (Addr×Obj))(σ:St)(tg:Expr)(R:It->Hp->Prop)(itv:Value)(s2:Shared):Prop:=
 ∃(it:Addr) (fp:List Addr) (tn:Nat->Heap->Prop) (J:It) (H':Hp),itv=.ref it/\Inv X mU σ H' s2/\Turn X.prog X.w X.K tg J fp it tn/\tn 0 s2.heap/\(∀b∈fp,lY X mU H' b)/\R J H'
def PI(X:Cx)(tg iter:Expr)(wi:TI):Prop:=
 ∀(mU:List (Addr×Obj)) (s:Shared) (σ:St) (H:Hp) (R:It->Hp->Prop),Inv X mU σ H s->wi σ H R ->
  wpAny (model X.prog X.w) X.A (eval iter X.env) (fun v s1=>wpAny (model X.prog X.w) X.A (pyIter v) (PIE X mU σ tg R) X.xe s1) X.xe s
theorem o6{M:Model}{A:Around}{E:Value->Shared->Prop}{tg:Expr}{it:Addr}{u:Value}{o:Obj}{n:String}{vs:Array Value}{Q:Unit->Shared->Prop}(ho:s.heap.get? it=some o)(hc:o.cls=.type n)(hd:o.data=.fields vs)
  (hn:["enumerate","zip","dict_itemiterator","dict_reverseitemiterator","odict_iterator","itertools.zip_longest","itertools.pairwise"].contains n=false) (hQ:Q () s):wpAny M A (letOwnedTupleGo tg (.ref it) u) Q E s:=by
 unfold letOwnedTupleGo;cases tg<;>first
  |exact wpAny_pure hQ
  | (cases u<;>first
    |exact wpAny_pure hQ
    | (refine wpAny_bind (wpAny_load ho ?_)
       rw[hc,hd];show wpAny M A (if (["enumerate","zip","dict_itemiterator","dict_reverseitemiterator","odict_iterator","itertools.zip_longest","itertools.pairwise"].contains n&&vs[0]? == some (rawInt _))=true then _ else _) Q E s;rw[if_neg (by intro h;rw[hn,Bool.false_and]at h;cases h)];exact wpAny_pure hQ))
noncomputable def Itl(K:gc)(a:Addr):It:=
 ⟨fun i H=>∃xs x,SqL K H a xs/\xs[i]?=some x,fun i H x H'=>H'=H/\∀xs,SqL K H a xs->xs[i]?=some x,fun i H=>∃xs,SqL K H a xs/\xs.length<=i⟩
noncomputable def Itt(K:gc)(a:Addr):It:=
 ⟨fun i H=>∃xs x,SqT K H a xs/\xs[i]?=some x,fun i H x H'=>H'=H/\∀xs,SqT K H a xs->xs[i]?=some x,fun i H=>∃xs,SqT K H a xs/\xs.length<=i⟩
noncomputable def Itr(lo:Int)(n:Nat):It:=⟨fun i _=>i<n,fun i H x H'=>H'=H/\x=.int (lo+i),fun i _=>n<=i⟩
theorem xB(a it:Addr):Turn P w K tg (Itl K a) [it] it (fun i h=>h.IsListIter it a i) where
 mem:=by simp
 obj:=fun i h st b hb=>by
  have e:b=it:=by simpa using hb
  subst e;obtain⟨o,e,c,d⟩:=st;exact⟨o,e,fun v z=>by rw[d]at z;cases z⟩
 keep:=fun i h h' st k=>st.at fun o e=>k it (by simp) o e
 item:=by intro X hP hw hK hc i mU s σ H E I hf st hg;subst hP hw hK;obtain⟨xs,x,hq,hx⟩:=hg;obtain⟨its,rv,p,hz⟩:=I.list hq;obtain⟨u,hu,ru⟩:=rv.get hx;obtain⟨f0,f1,f2,f3,f4,f5⟩:=hf it (by simp);refine wpAny_pyNext_list_item st p.isList (x:=u) (by simpa using hu) fun h' st' sb=>?_;have I1:Inv X mU σ H { s with heap:=h' }:=I.turned (t':=s.toks) (fun b o hb e=>(sb.2 b hb).trans e) f0 f1 f3 f4 f5;obtain⟨o,e,c,d⟩:=id st';exact⟨u,rfl,o6 (s:={ s with heap:=h' }) e c d (by decide) ⟨x,H,I1,ru,⟨rfl,fun ys hy=>by rw[I.gx hy hq];exact hx⟩,st',fun b hb=>(hf b hb).1⟩⟩
 done:=by intro X hP hw hK hc i mU s σ H E I hf st hg;subst hP hw hK;obtain⟨xs,hq,hx⟩:=hg;obtain⟨its,rv,p,hz⟩:=I.list hq;obtain⟨f0,f1,f2,f3,f4,f5⟩:=hf it (by simp);have hl:=rv.length;exact wpAny_pyNext_list_end (I.ok.hd hc) st p.isList (by simp;lia) fun h' eb=>⟨rfl,I.turned (t':=s.toks) (fun b o hb e=>eb b o hb e) f0 f1 f3 f4 f5⟩
 self:=fun _ _ _ _ _ st h=>wpAny_pyIter_listiter st h
theorem uS(a it:Addr):Turn P w K tg (Itt K a) [it] it (fun i h=>h.IsTupleIter it a i) where
 mem:=by simp
 obj:=fun i h st b hb=>by
  have e:b=it:=by simpa using hb
  subst e;obtain⟨o,e,c,d⟩:=st;exact⟨o,e,fun v z=>by rw[d]at z;cases z⟩
 keep:=fun i h h' st k=>st.at fun o e=>k it (by simp) o e
 item:=by intro X hP hw hK hc i mU s σ H E I hf st hg;subst hP hw hK;obtain⟨xs,x,hq,hx⟩:=hg;obtain⟨its,rv,p,hz⟩:=I.tuple hq;obtain⟨u,hu,ru⟩:=rv.get hx;obtain⟨f0,f1,f2,f3,f4,f5⟩:=hf it (by simp);refine wpAny_pyNext_tuple_item st (show s.heap.IsTuple a its.toArray from p) (x:=u) (by simpa using hu) fun h' st' sb=>?_;have I1:Inv X mU σ H { s with heap:=h' }:=I.turned (t':=s.toks) (fun b o hb e=>(sb.2 b hb).trans e) f0 f1 f3 f4 f5;obtain⟨o,e,c,d⟩:=id st';exact⟨u,rfl,o6 (s:={ s with heap:=h' }) e c d (by decide) ⟨x,H,I1,ru,⟨rfl,fun ys hy=>by rw[I.xA hy hq];exact hx⟩,st',fun b hb=>(hf b hb).1⟩⟩
 done:=by intro X hP hw hK hc i mU s σ H E I hf st hg;subst hP hw hK;obtain⟨xs,hq,hx⟩:=hg;obtain⟨its,rv,p,hz⟩:=I.tuple hq;obtain⟨f0,f1,f2,f3,f4,f5⟩:=hf it (by simp);have hl:=rv.length;exact wpAny_pyNext_tuple_end (I.ok.hd hc) st (show s.heap.IsTuple a its.toArray from p) (by simp;lia) fun h' eb=>⟨rfl,I.turned (t':=s.toks) (fun b o hb e=>eb b o hb e) f0 f1 f3 f4 f5⟩
 self:=fun _ _ _ _ _ st h=>wpAny_pyIter_tupleiter st h
theorem eO(it:Addr)(lo:Int)(n:Nat):Turn P w K tg (Itr lo n) [it] it (fun i h=>IsRangeIter h it (lo+(i:Nat)*1) ((n:Int)-(i:Nat)) 1) where
 mem:=by simp
 obj:=fun i h st b hb=>by
  have e:b=it:=by simpa using hb
  subst e;exact ⟨_,st,fun v z=>by have z':OD _=Oa v:=z;cases z'⟩
 keep:=fun i h h' st k=>k it (by simp) _ st
 item:=by intro X hP hw hK hc i mU s σ H E I hf st hg;subst hP hw hK;obtain⟨f0,f1,f2,f3,f4,f5⟩:=hf it (by simp);have W:=Walks.range (prog:=X.prog) (w:=X.w) (I.ok.hd hc) it lo 1 n;refine W.item i s _ _ hg st fun v h' tk hv st' kk=>?_;obtain⟨t,rfl⟩:=hv;have I1:Inv X mU σ H { s with heap:=h',toks:=tk }:=I.turned (fun b o hb e=>kk b o (by simpa using hb) e) f0 f1 f3 f4 f5;refine⟨_,rfl,o6 (s:={ s with heap:=h',toks:=tk }) (n := "range_iterator") st' rfl rfl (by decide) ⟨.int (lo+i),H,I1,⟨t,?_⟩,⟨rfl,rfl⟩,st',fun b hb=>(hf b hb).1⟩⟩;rw[Int.mul_one]
 done:=by intro X hP hw hK hc i mU s σ H E I hf st hg;subst hP hw hK;obtain⟨f0,f1,f2,f3,f4,f5⟩:=hf it (by simp);exact wpAny_pyNext_range_end (I.ok.hd hc) st (by have:n<=i:=hg;lia) fun h' eb=>⟨rfl,I.turned (t':=s.toks) (fun b o hb e=>eb b o hb e) f0 f1 f3 f4 f5⟩
 self:=fun _ _ _ _ _ st h=>wpAny_pyIter_rangeiter st h
end
section
variable{X:Cx}{tg:Expr}
section
variable{mU:List (Addr×Obj)}{fp:List Addr}{s:Shared}{σ:St}{H:Hp}{l:Expr}{h:Heap}{tl:TE}{ta:TA}
def rW(K:gc)(tl:TE):TI:=fun σ H R=>tl σ H fun x H1=>∃a,x=.ref a/\(∃xs,SqL K H1 a xs)/\R (Itl K a) H1
def yO(K:gc)(tl:TE):TI:=fun σ H R=>tl σ H fun x H1=>∃a,x=.ref a/\(∃xs,SqT K H1 a xs)/\R (Itt K a) H1
theorem wc(hl:PE X l tl):PI X tg l (rW X.K tl):=by
 intro mU s σ H R I h;refine thn (hl mU s σ H _ I h) fun v s1 ⟨x,H1,I1,r1,q1⟩=>?_;obtain⟨a,e,⟨xs,hq⟩,q⟩:=q1;subst e;cases r1;obtain⟨its,rv,p,hz⟩:=I1.list hq;refine wpAny_pyIter_list p.isList ?_;refine⟨s1.heap.objs.size,[s1.heap.objs.size],_,_,H1,rfl,I1.kept (t':=s1.toks) fun b o e=>Mf _ e,xB a _,⟨_,MG _ rfl,rfl,rfl⟩,fun b hb=>?_,q⟩;have e:b=s1.heap.objs.size:=by simpa using hb
 subst e;exact I1.rV (Mj _) (I1.hok.fresh (Mj _))
theorem yP(hl:PE X l tl):PI X tg l (yO X.K tl):=by
 intro mU s σ H R I h;refine thn (hl mU s σ H _ I h) fun v s1 ⟨x,H1,I1,r1,q1⟩=>?_;obtain⟨a,e,⟨xs,hq⟩,q⟩:=q1;subst e;cases r1;obtain⟨its,rv,p,hz⟩:=I1.tuple hq;refine wpAny_pyIter_tuple (show s1.heap.IsTuple a its.toArray from p) ?_;refine⟨s1.heap.objs.size,[s1.heap.objs.size],_,_,H1,rfl,I1.kept (t':=s1.toks) fun b o e=>Mf _ e,uS a _,⟨_,MG _ rfl,rfl,rfl⟩,fun b hb=>?_,q⟩;have e:b=s1.heap.objs.size:=by simpa using hb
 subst e;exact I1.rV (Mj _) (I1.hok.fresh (Mj _))
theorem rX{R:It->Hp->Prop}{E:Value->Shared->Prop}{lo hi:Int}{t u v:Tok}{tk:Nat}(I:Inv X mU σ H s)(h1:-(2 ^ 62)<=lo)(h2:lo<2 ^ 62)(h3:-(2 ^ 62)<=hi)(h4:hi<2 ^ 62)
  (q:R (Itr lo (hi-lo).toNat) H):wpAny (model X.prog X.w) X.A (pyIter (.ref s.heap.objs.size)) (PIE X mU σ tg R) E { s with heap:=s.heap.push { cls:=.type "range",data:=.fields #[.int lo t,.int hi u,.int 1 v] },toks:=tk }:=by
 refine wpAny_pyIter_range (IsRange.new ..) (small_one h1 h2 h3 h4) ?_;have I1:Inv X mU σ H { s with heap:=s.heap.push { cls:=.type "range",data:=.fields #[.int lo t,.int hi u,.int 1 v] },toks:=tk }:=I.kept fun b o e=>Mf _ e;refine ⟨(s.heap.push { cls:=.type "range",data:=.fields #[.int lo t,.int hi u,.int 1 v] }).objs.size,[(s.heap.push { cls:=.type "range",data:=.fields #[.int lo t,.int hi u,.int 1 v] }).objs.size],_,_,H,rfl,
  I1.kept (t':=tk) fun b o e=>Mf _ e,eO _ lo (hi-lo).toNat,?_,fun b hb=>?_,q⟩
 ·have e1:lo+((0:Nat):Int)*1=lo:=by simp
  have e2:(((hi-lo).toNat:Nat):Int)-((0:Nat):Int)=M5 lo hi 1:=by rw[rangeSize_one];split<;>lia
  show IsRangeIter _ _ (lo+((0:Nat):Int)*1) ((((hi-lo).toNat:Nat):Int)-((0:Nat):Int)) 1;rw[e1,e2];exact MG _ rfl
 ·have e:b=(s.heap.push { cls:=.type "range",data:=.fields #[.int lo t,.int hi u,.int 1 v] }).objs.size:=by simpa using hb
  subst e;exact I1.rV (Mj _) (I1.hok.fresh (Mj _))
def yQ(ta:TA):TI:=fun σ H R=>ta σ H fun vs H1=>∃j:Int,vs=[.int j]/\-(2 ^ 62)<=j/\j<2 ^ 62/\R (Itr 0 j.toNat) H1
def D_(ta:TA):TI:=fun σ H R=>ta σ H fun vs H1=>∃i j:Int,vs=[.int i,.int j]/\(-(2 ^ 62)<=i/\i<2 ^ 62/\-(2 ^ 62)<=j/\j<2 ^ 62)/\R (Itr i (j-i).toNat) H1
theorem xC{a:Expr}{p pos:Pos}(hg:Gl X "range")(hm:X.mg "range" = none)(ha:PA X [a] ta)(hs:starEach [a] X.env=[(false,eval a X.env)]:=by rfl):PI X tg (.Call (.Name "range" p) [a] [] pos) (yQ ta):=by
 intro mU s σ H R I h;refine Call_ (dg I hg hm boot_range (Mz (thn (ha pos mU s σ H _ I h) fun us s1 ⟨vs,H1,I1,r1,q1⟩=>?_) hs rfl));obtain⟨j,e,q1,q2,q⟩:=q1;subst e;cases r1 with
 |cons r rr=>cases rr;obtain⟨t,rfl⟩:=r;exact call_range_1 (rX I1 (by lia) (by lia) q1 q2 (by simpa using q))
theorem xD{a b:Expr}{p pos:Pos}(hg:Gl X "range")(hm:X.mg "range" = none)(ha:PA X [a,b] ta)(hs:starEach [a,b] X.env=[(false,eval a X.env),(false,eval b X.env)]:=by rfl)(hs2:starEach [b] X.env=[(false,eval b X.env)]:=by rfl) :
  PI X tg (.Call (.Name "range" p) [a,b] [] pos) (D_ ta):=by
 intro mU s σ H R I h;refine Call_ (dg I hg hm boot_range (Mz (thn (ha pos mU s σ H _ I h) fun us s1 ⟨vs,H1,I1,r1,q1⟩=>?_) (by rw[hs,hs2]) (by rw[hs2];rfl)));obtain⟨i,j,e,⟨q1,q2,q3,q4⟩,q⟩:=q1;subst e;cases r1 with
 |cons r rr=>
  cases rr with
  |cons r' rr=>cases rr;obtain⟨t,rfl⟩:=r;obtain⟨t',rfl⟩:=r';exact call_range_2 (rX I1 q1 q2 q3 q4 q)
def Ie(wi:TI)(g:TG)(tb:TS):TS:=fun D σ H=>wi σ H fun J H1=>∃W:Nat->Nat->St->Hp->Prop,(∃m,W 0 m σ H1)/\∀i m σ H,W i m σ H ->
 (J.stop i H/\D.nx σ H)\/(J.go i H/\∃N:St->Hp->Prop,(∀σ' H',N σ' H'->∃m',m'<m/\W (i+1) m' σ' H')/\∀x H',J.yld i H x H'->g x σ H' fun σ2 H2=>tb { D with nx:=N,ct:=N,bk:=D.nx } σ2 H2)
noncomputable def lZ(fp:List Addr)(h:Heap):List (Addr×Obj):=fp.filterMap fun b=>(h.get? b).map fun o=>(b,o)
theorem fV{b:Addr}{o:Obj}(hb:b∈fp)(e:h.get? b=some o):(b,o)∈lZ fp h:=Ob.mpr ⟨b,hb,by rw[e];rfl⟩
theorem xE{p:Addr×Obj}(hp:p∈lZ fp h):p.1∈fp/\h.get? p.1=some p.2:=by
 obtain⟨b,hb,e⟩:=Ob.mp hp;cases q:h.get? b with
 |none=>rw[q]at e;cases e
 |some o=>rw[q]at e;have e':(b,o)=p:=Option.some.inj e;subst e';exact⟨hb,q⟩
theorem Inv.pinned(I:Inv X mU σ H s)(hf:∀b∈fp,lY X mU H b)(ho:∀b∈fp,∃o,s.heap.get? b=some o/\∀v,o.data≠.cell v):Inv X (mU++lZ fp s.heap) σ H s:=
 I.v8 fun p hp=>(Nt.mp hp).elim (fun z=>I.pin p (ME _ z)) fun z=>by obtain⟨hb,e⟩:=xE z;obtain⟨f0,f1,f2,_⟩:=hf p.1 hb;obtain⟨o,e',d⟩:=ho p.1 hb;rw[e]at e';cases e';exact⟨e,f0,f1,f2,d⟩
theorem Inv.jH{mU pl:List (Addr×Obj)}(I:Inv X (mU++pl) σ H s):Inv X mU σ H s:=I.v8 fun p hp=>I.pin p (ME _ (Nl _ hp))
theorem Ft{iter:Expr}{body:List Stmt}{wi:TI}{g:TG}{tb:TS}{pos:Pos}(hp:PassesOwn (model X.prog X.w) X.A X.env X.xe)(hc:X.calm=true)(hi:PI X tg iter wi)(hg:PG X tg g)(hb:PSs X body tb)
  (hs:∀x,foldedSetIterable iter X.env x=pure x:=by intro _;rfl):PS X (.For tg iter body [] pos) (Ie wi g tb):=by
 intro mU s σ H D I h;refine wpAny_For (thn (hi mU s σ H _ I h) fun v s1 h1=>thn h1 fun itv s2 h2=>?_) hs;obtain⟨it,fp,tn,J,H2,e,I2,T,st2,f2,W,⟨m0,w0⟩,turn⟩:=h2;subst e;have stat:∀{H':Hp},(∀b∈fp,H' b=none)->∀b∈fp,lY X mU H' b:=fun hn b hb=>⟨hn b hb,(f2 b hb).2⟩;refine codeAny_forLoop_any (fun n s'=>∃i σ' H',Inv X mU σ' H' s'/\tn i s'.heap/\(∀b∈fp,H' b=none)/\W i n σ' H') ?_ m0 ⟨0,σ,H2,I2,st2,fun b hb=>(f2 b hb).1,w0⟩;rintro n s3 ⟨i,σ3,H3,I3,st3,fr3,w3⟩;rcases turn i n σ3 H3 w3 with⟨stop,qn⟩ | ⟨go,N,hN,step⟩
 ·refine wpAny_passesOwn hp (thn (T.done X rfl rfl rfl hc i mU s3 σ3 H3 X.xe I3 (stat fr3) st3 stop) fun r s4 ⟨hr,I4⟩=>?_);subst hr;exact wpAny_execs_nil ⟨σ3,H3,I4,qn⟩
 ·refine wpAny_passesOwn hp (thn (T.item X rfl rfl rfl hc i mU s3 σ3 H3 X.xe I3 (stat fr3) st3 go) fun r s4 ⟨u,hr,h4⟩=>?_);subst hr;refine wpAny_passesOwn hp (thn h4 fun _ s5 ⟨x,H5,I5,r5,y5,st5,fr5⟩=>?_);have I5':=I5.pinned (stat fr5) (T.obj _ _ st5);refine wpAny_passesOwn hp (thn (hg _ s5 σ3 H5 x u _ I5' r5 (step x H5 y5)) fun _ s6 ⟨σ6,H6,I6,q6⟩=>?_);refine wpAny_passesOwn hp (thn (hb _ s6 σ6 H6 _ I6 q6) fun f s7 q7=>?_);have again:∀{σ7:St} {H7:Hp},Inv X (mU++lZ fp s5.heap) σ7 H7 s7->N σ7 H7->∃m,m<n/\∃i σ' H',Inv X mU σ' H' s7/\tn i s7.heap/\(∀b∈fp,H' b=none)/\W i m σ' H':=fun {σ7 H7} I7 n7=>by
   obtain⟨m',hm,w7⟩:=hN σ7 H7 n7;refine⟨m',hm,i+1,σ7,H7,I7.jH,T.keep _ _ _ st5 fun b hb o e=>(I7.pin (b,o) (ME _ (ME _ (fV hb e)))).1,fun b hb=>?_,w7⟩;obtain⟨o,e,d⟩:=T.obj _ _ st5 b hb;exact(I7.pin (b,o) (ME _ (ME _ (fV hb e)))).2.1
  cases f with
  |next=>obtain⟨σ7,H7,I7,n7⟩:=q7;exact again I7 n7
  |cont=>obtain⟨σ7,H7,I7,n7⟩:=q7;exact again I7 n7
  |brk=>obtain⟨σ7,H7,I7,q7⟩:=q7;exact⟨σ7,H7,I7.jH,q7⟩
  |ret v=>obtain⟨x7,σ7,H7,I7,r7,q7⟩:=q7;exact⟨x7,σ7,H7,I7.jH,r7,q7⟩
end
end
noncomputable abbrev R2:=V->V->Hp->VK->Prop
def OpR(X:Cx)(f:Value->Value->Sem Value)(r:R2):Prop:=
 ∀(mU:List (Addr×Obj)) (s:Shared) (σ:St) (H:Hp) (x y:V) (v u:Value) (Q:VK),Inv X mU σ H s->RelV x v->RelV y u->r x y H Q ->
  wpAny (model X.prog X.w) X.A (f v u) (EP X mU σ Q) X.xe s
def UnR(X:Cx)(f:Value->Sem Value)(r:V->Hp->VK->Prop):Prop:=
 ∀(mU:List (Addr×Obj)) (s:Shared) (σ:St) (H:Hp) (x:V) (v:Value) (Q:VK),Inv X mU σ H s->RelV x v->r x H Q ->
  wpAny (model X.prog X.w) X.A (f v) (EP X mU σ Q) X.xe s
def eS(X:Cx)(f:Value)(r:List V->Hp->VK->Prop):Prop:=
 ∀(mU:List (Addr×Obj)) (s:Shared) (σ:St) (H:Hp) (xs:List V) (us:List Value) (Q:VK),Inv X mU σ H s->Vals xs us->r xs H Q ->
  wpAny (model X.prog X.w) X.A (call f us) (EP X mU σ Q) X.xe s
def K9(X:Cx)(r:V->Hp->(Bool->Hp->Prop)->Prop):Prop:=
 ∀(mU:List (Addr×Obj)) (s:Shared) (σ:St) (H:Hp) (x:V) (v:Value) (Q:Bool->Hp->Prop),Inv X mU σ H s->RelV x v->r x H Q ->
  wpAny (model X.prog X.w) X.A (truthy v) (TP X mU σ Q) X.xe s
def tOp(r:R2)(ta tb:TE):TE:=fun σ H Q=>ta σ H fun x H1=>tb σ H1 fun y H2=>r x y H2 Q
def tUn(r:V->Hp->VK->Prop)(ta:TE):TE:=fun σ H Q=>ta σ H fun x H1=>r x H1 Q
def rI(C:Int->Int->Prop)(g:Int->Int->V):R2:=fun x y H Q=>∃i j,x=.int i/\y=.int j/\C i j/\Q (g i j) H
def rI0(g:Int->Int->V):R2:=fun x y H Q=>∃i j,x=.int i/\y=.int j/\Q (g i j) H
def rU(g:Int->V):V->Hp->VK->Prop:=fun x H Q=>∃i,x=.int i/\Q (g i) H
section
variable{X:Cx}{a b c:Expr}{ta tb tc:TE}{pos:Pos}
theorem Fv(ha:PE X a ta)(hb:PE X b tb){mU:List (Addr×Obj)}{s:Shared}{σ:St}{H:Hp}{R:V->V->Hp->Prop}(I:Inv X mU σ H s)
  (h:ta σ H fun x H1=>tb σ H1 fun y H2=>R x y H2) {Q:Value->Shared->Prop} {f:Value->Value->Sem Value}
  (hf:∀v u s2 x y H2,Inv X mU σ H2 s2->RelV x v->RelV y u->R x y H2->wpAny (model X.prog X.w) X.A (f v u) Q X.xe s2) :
  wpAny (model X.prog X.w) X.A (eval a X.env) (fun v s₁=>wpAny (model X.prog X.w) X.A (eval b X.env) (fun u s₂=>wpAny (model X.prog X.w) X.A (f v u) Q X.xe s₂) X.xe s₁) X.xe s:=by
 refine thn (ha mU s σ H _ I h) fun v s1 ⟨x,H1,I1,r1,q1⟩=>?_;refine thn (hb mU s1 σ H1 _ I1 q1) fun u s2 ⟨y,H2,I2,r2,q2⟩=>?_;exact hf v u s2 x y H2 I2 r1 r2 q2
theorem Ig{op:Operator}{r:R2}(ho:OpR X (binaryOp op) r)(ha:PE X a ta)(hb:PE X b tb):PE X (.BinOp a op b pos) (tOp r ta tb):=by intro mU s σ H Q I h;exact wpAny_BinOp (Fv ha hb I h fun v u s2 x y H2 I2 rx ry q=>ho mU s2 σ H2 x y v u Q I2 rx ry q)
theorem Ih{op:UnaryOp}{r:V->Hp->VK->Prop}(ho:UnR X (unaryOp op) r)(ha:PE X a ta):PE X (.UnaryOp op a pos) (tUn r ta):=by intro mU s σ H Q I h;exact UnaryOp_ (thn (ha mU s σ H _ I h) fun v s1 ⟨x,H1,I1,r1,q1⟩=>ho mU s1 σ H1 x v Q I1 r1 q1)
theorem opI{f:Value->Value->Sem Value}{C:Int->Int->Prop}{g:Int->Int->Int}
  (rule:∀(i j:Int) (t u:Tok) (s:Shared) (Q:Value->Shared->Prop) (E:Value->Shared->Prop),C i j->Q (.int (g i j) s.toks) { s with toks:=s.toks+1 }->wpAny (model X.prog X.w) X.A (f (.int i t) (.int j u)) Q E s) :
  OpR X f (rI C fun i j=>.int (g i j)):=by
 intro mU s σ H x y v u Q I rx ry h;obtain⟨i,j,rfl,rfl,hc,q⟩:=h;obtain⟨t,rfl⟩:=rx;obtain⟨t',rfl⟩:=ry;exact rule i j t t' s _ _ hc ⟨.int (g i j),H,I.tok _,⟨_,rfl⟩,q⟩
theorem Ii{f:Value->Value->Sem Value}{g:Int->Int->Int}
  (rule:∀(i j:Int) (t u:Tok) (s:Shared) (Q:Value->Shared->Prop) (E:Value->Shared->Prop),Q (.int (g i j) s.toks) { s with toks:=s.toks+1 }->wpAny (model X.prog X.w) X.A (f (.int i t) (.int j u)) Q E s) :
  OpR X f (rI0 fun i j=>.int (g i j)):=by
 intro mU s σ H x y v u Q I rx ry h;obtain⟨i,j,rfl,rfl,q⟩:=h;obtain⟨t,rfl⟩:=rx;obtain⟨t',rfl⟩:=ry;exact rule i j t t' s _ _ ⟨.int (g i j),H,I.tok _,⟨_,rfl⟩,q⟩
theorem Cg{f:Value->Value->Sem Value}{g:Int->Int->Bool}
  (rule:∀(i j:Int) (t u:Tok) (s:Shared) (Q:Value->Shared->Prop) (E:Value->Shared->Prop),Q (.bool (g i j)) s->wpAny (model X.prog X.w) X.A (f (.int i t) (.int j u)) Q E s) :
  OpR X f (rI0 fun i j=>.bl (g i j)):=by
 intro mU s σ H x y v u Q I rx ry h;obtain⟨i,j,rfl,rfl,q⟩:=h;obtain⟨t,rfl⟩:=rx;obtain⟨t',rfl⟩:=ry;exact rule i j t t' s _ _ ⟨.bl (g i j),H,I,rfl,q⟩
def Ij(i j:Int):Prop:=0<=j/\j<=1000000/\i.natAbs<2 ^ 64
def yR(i j:Int):Prop:=(-(2 ^ 64)<i/\i<2 ^ 64)\/(-(2 ^ 64)<j/\j<2 ^ 64)
theorem yR.ok{i j:Int}(h:yR i j):IntMulOk i j:=by
 rcases h with⟨h1,h2⟩ | ⟨h1,h2⟩
 ·exact .of_left (intBits_le_64 h1 h2)
 ·exact .of_right (intBits_le_64 h1 h2)
theorem Fw:OpR X (binaryOp .Add) (rI0 fun i j=>.int (i+j)):=Ii fun _ _ _ _ _ _ _ q=>add_int q
theorem Fx:OpR X (binaryOp .Sub) (rI0 fun i j=>.int (i-j)):=Ii fun _ _ _ _ _ _ _ q=>sub_int q
theorem Fy:OpR X (binaryOp .Mult) (rI yR fun i j=>.int (i*j)):=opI fun _ _ _ _ _ _ _ hc q=>mul_int q hc.ok
theorem Fz:OpR X (binaryOp .Mod) (rI (fun _ j=>0<j) fun i j=>.int (i % j)):=opI fun i j _ _ _ _ _ hc q=>by have h1:(0:Int)<j:=hc;exact mod_int' (by lia) (by rw[Int.fmod_eq_emod_of_nonneg i (by lia)];exact q)
theorem FA:OpR X (binaryOp .Pow) (rI Ij fun i j=>.int (i ^ j.toNat)):=opI fun _ _ _ _ _ _ _ hc q=>pow_int_small hc.1 hc.2.1 hc.2.2 q
theorem unI{f:Value->Sem Value}{g:Int->Int}
  (rule:∀(i:Int) (t:Tok) (s:Shared) (Q:Value->Shared->Prop) (E:Value->Shared->Prop),Q (.int (g i) s.toks) { s with toks:=s.toks+1 }->wpAny (model X.prog X.w) X.A (f (.int i t)) Q E s) :
  UnR X f (rU fun i=>.int (g i)):=by
 intro mU s σ H x v Q I rx h;obtain⟨i,rfl,q⟩:=h;obtain⟨t,rfl⟩:=rx;exact rule i t s _ _ ⟨.int (g i),H,I.tok _,⟨_,rfl⟩,q⟩
theorem FD:UnR X (unaryOp .USub) (rU fun i=>.int (-i)):=unI fun _ _ _ _ _ q=>neg_int q
end
section
variable{X:Cx}{a b c:Expr}{ta tb tc:TE}{pos:Pos}
theorem Ea:OpR X (compareOp .Lt) (rI0 fun i j=>.bl (decide (i<j))):=Cg fun _ _ _ _ _ _ _ q=>lt_int q
theorem yS:OpR X (compareOp .LtE) (rI0 fun i j=>.bl (decide (i<=j))):=Cg fun _ _ _ _ _ _ _ q=>le_int q
theorem Ik:OpR X (compareOp .Gt) (rI0 fun i j=>.bl (decide (j<i))):=Cg fun _ _ _ _ _ _ _ q=>gt_int q
theorem Il:OpR X (compareOp .GtE) (rI0 fun i j=>.bl (decide (j<=i))):=Cg fun _ _ _ _ _ _ _ q=>ge_int q
theorem OpR.or{f:Value->Value->Sem Value}{r r':R2}(h:OpR X f r)(h':OpR X f r'):OpR X f (fun x y H Q=>r x y H Q\/r' x y H Q):=by
 intro mU s σ H x y v u Q I rx ry q;rcases q with q | q
 ·exact h mU s σ H x y v u Q I rx ry q
 ·exact h' mU s σ H x y v u Q I rx ry q
theorem gA(b:Expr){op:CmpOp}(h:op≠.In:=by decide)(h2:op≠.NotIn:=by decide):behindInMarks op b=false:=by
 have e1:(op == CmpOp.In)=false:=by cases op<;>first | rfl | exact absurd rfl h
 have e2:(op == CmpOp.NotIn)=false:=by cases op<;>first | rfl | exact absurd rfl h2
 cases b<;>simp[behindInMarks,e1,e2]
theorem Ci{op:CmpOp}{r:R2}(ho:OpR X (compareOp op) r)(ha:PE X a ta)(hb:PE X b tb)(hm:behindInMarks op b=false):PE X (.Compare a [op] [b] pos) (tOp r ta tb):=by intro mU s σ H Q I h;exact wpAny_Compare1 (Fv ha hb I h fun v u s2 x y H2 I2 rx ry q=>ho mU s2 σ H2 x y v u Q I2 rx ry q) hm
def Eb(t:TE):TT:=fun σ H Q=>t σ H fun x H'=>∃k,x=.bl k/\Q k H'
theorem Cj{op:CmpOp}{r:R2}(ho:OpR X (compareOp op) r)(ha:PE X a ta)(hb:PE X b tb)(hm:behindInMarks op b=false):PT X (.Compare a [op] [b] pos) (Eb (tOp r ta tb)):=by
 intro mU s σ H Q I h;refine wpAny_isTrue_Compare1 (thn (ha mU s σ H _ I h) fun v s1 ⟨x,H1,I1,r1,q1⟩=>thn (hb mU s1 σ H1 _ I1 q1) fun u s2 ⟨y,H2,I2,r2,q2⟩=>thn (ho mU s2 σ H2 x y v u _ I2 r1 r2 q2) fun c s3 ⟨z,H3,I3,r3,k,e,q3⟩=>?_) hm
 subst e;cases r3;exact wpAny_truthy_bool ⟨H3,I3,q3⟩
def yT(r r':R2)(ta tb tc:TE):TE:=fun σ H Q=>ta σ H fun x H1=>tb σ H1 fun y H2=>r x y H2 fun z H3=>∃k,z=.bl k /\
 (if k=true then tc σ H3 fun w' H4=>r' y w' H4 Q else Q (.bl false) H3)
theorem yU{op op':CmpOp}{r r':R2}(ho:OpR X (compareOp op) r)(ho':OpR X (compareOp op') r')(ha:PE X a ta)(hb:PE X b tb)(hc:PE X c tc)
  (hm:lastMarks [op,op'] [b,c]=false:=by with_unfolding_all rfl):PE X (.Compare a [op,op'] [b,c] pos) (yT r r' ta tb tc):=by
 intro mU s σ H Q I h;refine Compare_chain (thn (ha mU s σ H _ I h) fun v s1 ⟨x,H1,I1,r1,q1⟩=>chain_link (thn (hb mU s1 σ H1 _ I1 q1) fun u s2 ⟨y,H2,I2,r2,q2⟩=>thn (ho mU s2 σ H2 x y v u _ I2 r1 r2 q2) fun d s3 ⟨z,H3,I3,r3,k,e,q3⟩=>?_)) hm
 subst e;cases r3;refine wpAny_truthy_bool ?_;cases k with
 |false=>exact ite_ff ⟨.bl false,H3,I3,rfl,q3⟩
 |true=>exact ite_tt (chain_last (thn (hc mU s3 σ H3 _ I3 q3) fun w' s4 ⟨z',H4,I4,r4,q4⟩=>ho' mU s4 σ H4 y z' u w' Q I4 r2 r4 q4))
def FF(K:gc)(x:V)(H:Hp)(k:Bool):Prop:=
 match x with
 |.non=>k=false
 |.bl b=>k=b
 |.int i=>k=(i != 0)
 |.str y=>y.length<=sizeLine/\k=((y.length:Int) != 0)
 |.byt y=>y.size<=sizeLine/\k=((y.size:Int) != 0)
 |.ref p=>(∃xs,SqL K H p xs/\k=!xs.isEmpty)\/(∃xs,SqT K H p xs/\k=!xs.isEmpty)\/∃kvs,H p=some (.dK kvs)/\k=!kvs.isEmpty
 |_=>False
theorem uT{κ:Type}{kvs:List (κ×V)}{vs:List (κ×Value)}(r:KV kvs vs):(!vs.isEmpty)=!kvs.isEmpty:=by cases r<;>rfl
theorem l6{xs:List V}{its:List Value}(r:Vals xs its):(!its.toArray.isEmpty)=!xs.isEmpty:=by cases r<;>simp
theorem l7:(sizeLine:Nat)<2 ^ 63:=by rw[sizeLine_eq];decide
theorem FG:K9 X (fun x H Q=>∃k,FF X.K x H k/\Q k H):=by
 intro mU s σ H x v Q I rx h;obtain⟨k,e,q⟩:=h;have hl:=l7;have hs:sizeLine=16777216:=sizeLine_eq;cases x with
 |non=>cases rx;have e':k=false:=e;subst e';exact truthy_none ⟨H,I,q⟩
 |bl b=>cases rx;have e':k=b:=e;subst e';exact wpAny_truthy_bool ⟨H,I,q⟩
 |int i=>obtain⟨t,rfl⟩:=rx;have e':k=(i != 0):=e;subst e';exact PySem.P.truthy_int ⟨H,I,q⟩
 |str y=>obtain⟨t,rfl⟩:=rx;obtain⟨hy,e'⟩:y.length<=sizeLine/\k=((y.length:Int) != 0):=e;subst e';exact PySem.P.truthy_str (by lia) ⟨H,I.tok _,q⟩
 |byt y=>obtain⟨t,rfl⟩:=rx;obtain⟨hy,e'⟩:y.size<=sizeLine/\k=((y.size:Int) != 0):=e;subst e';exact PySem.W.truthy_bytes (by lia) ⟨H,I.tok _,q⟩
 |ref p=>
  cases rx;have e':(∃xs,SqL X.K H p xs/\k=!xs.isEmpty)\/(∃xs,SqT X.K H p xs/\k=!xs.isEmpty)\/∃kvs,H p=some (.dK kvs)/\k=!kvs.isEmpty:=e;rcases e' with⟨xs,hx,e'⟩ | ⟨xs,hx,e'⟩ | ⟨kvs,hx,e'⟩
  ·subst e';obtain⟨its,r,pl,hz⟩:=I.list hx;have yi:=r.length;exact wpAny_truthy_list pl.isList (by simp only[Mm];lia) ⟨H,I.tok _,by rw[l6 r];exact q⟩
  ·subst e';obtain⟨its,r,pl,hz⟩:=I.tuple hx;have yi:=r.length;exact truthy_tuple pl (by simp only[Mm];lia) ⟨H,I.tok _,by rw[l6 r];exact q⟩
  ·subst e';obtain⟨hz,hS,vs,r,m⟩:kvs.length<=sizeLine/\(p == sysModules)=false/\∃vs,KV kvs vs/\s.heap.DictOf (qi X.prog X.w) p vs:=I.hok p _ hx;have yi:kvs.length=vs.length:=Paired.length r;exact wpAny_truthy_dict hS m (by lia) ⟨H,I.tok _,by rw[uT r];exact q⟩
 |_=>exact(show False from e).elim
theorem yV(ha:PE X a ta)(he:∀whole,isTrue a X.env whole=(do let v <- whole;standAt a.pos;holding [v] (truthy v))) :
  PT X a (fun σ H Q=>ta σ H fun x H'=>∃k,FF X.K x H' k/\Q k H'):=by
 intro mU s σ H Q I h;exact isTrue_plain (thn (ha mU s σ H _ I h) fun v s1 ⟨x,H1,I1,r1,q1⟩=>FG mU s1 σ H1 x v Q I1 r1 q1) (he _)
theorem vals1{x:V}{us:List Value}(r:Vals [x] us):∃u,us=[u]/\RelV x u:=by
 cases r with
 |cons r1 r2=>cases r2;exact⟨_,rfl,r1⟩
theorem vals2{x y:V}{us:List Value}(r:Vals [x,y] us):∃u w',us=[u,w']/\RelV x u/\RelV y w':=by
 cases r with
 |cons r1 r2=>
  cases r2 with
  |cons r3 r4=>cases r4;exact⟨_,_,rfl,r1,r3⟩
theorem yW:eS X (.builtin "abs") (fun xs H Q=>∃i,xs=[.int i]/\Q (.int (if i<0 then -i else i)) H):=by intro mU s σ H xs us Q I r h;obtain⟨i,rfl,q⟩:=h;obtain⟨u,rfl,t,rfl⟩:=vals1 r;exact call_abs_int fun u tk=>⟨.int (if i<0 then -i else i),H,I.tok _,⟨_,rfl⟩,q⟩
theorem xF(hc:X.calm=true):eS X (.builtin "max") (fun xs H Q=>∃i j,xs=[.int i,.int j]/\Q (.int (if j>i then j else i)) H):=by
 intro mU s σ H xs us Q I r h;obtain⟨i,j,rfl,q⟩:=h;obtain⟨u,w',rfl,⟨t,rfl⟩,⟨t',rfl⟩⟩:=vals2 r;refine max_two_ints (I.ok.hd hc) fun h' tk k=>⟨_,H,I.kept k,?_,q⟩;by_cases hj:j>i
 ·rw[if_pos hj,if_pos hj];exact⟨_,rfl⟩
 ·rw[if_neg hj,if_neg hj];exact⟨_,rfl⟩
theorem xG(hc:X.calm=true):eS X (.builtin "min") (fun xs H Q=>∃i j,xs=[.int i,.int j]/\Q (.int (if j<i then j else i)) H):=by
 intro mU s σ H xs us Q I r h;obtain⟨i,j,rfl,q⟩:=h;obtain⟨u,w',rfl,⟨t,rfl⟩,⟨t',rfl⟩⟩:=vals2 r;refine min_two_ints (I.ok.hd hc) fun h' tk k=>⟨_,H,I.kept k,?_,q⟩;by_cases hj:j<i
 ·rw[if_pos hj,if_pos hj];exact⟨_,rfl⟩
 ·rw[if_neg hj,if_neg hj];exact⟨_,rfl⟩
theorem xH:eS X (.type "int") (fun xs H Q=>(∃i,xs=[.int i]/\Q (.int i) H)\/∃k,xs=[.bl k]/\Q (.int (if k then 1 else 0)) H):=by
 intro mU s σ H xs us Q I r h;rcases h with⟨i,rfl,q⟩ | ⟨k,rfl,q⟩
 ·obtain⟨u,rfl,t,rfl⟩:=vals1 r;exact call_int_int ⟨.int i,H,I,⟨_,rfl⟩,q⟩
 ·obtain⟨u,rfl,r1⟩:=vals1 r;cases r1;exact call_int_bool ⟨.int (if k then 1 else 0),H,I.tok _,⟨_,rfl⟩,q⟩
end
section
variable{mA:Str->Option Value}{h:Heap}
structure FH(h:Heap)(x dx C:Addr)(mA:Str->Option Value):Prop where
 obj:h.get? x=some (Ow C dx)
 ns:h.Ns1 dx mA
 ne:dx≠x
theorem xJ{dx:Addr}(n:h.Ns1 dx mA):∃od,h.get? dx=some od/\∀name,OG name od=some (mA name):=by
 obtain⟨o,es,ep,ho,hd,hk,_,hm⟩:=n;refine⟨o,ho,fun name=>?_⟩;have e:=hm name;unfold nsFind findBy at e;rw[<- Oc]at e;unfold OG;rw[hd];dsimp only;split
 ·rename_i y q;rw[q]at e;exact congrArg some e
 ·rename_i q;rw[q]at e;have a:es.toList.any (·.refKey)=false:=by
   rw[List.any_eq_false];intro y hy;obtain⟨z,t,hkey⟩:=hk y (Array.mem_toList_iff.mp hy);simp[DictEntry.refKey,hkey]
  have a':¬es.toList.any (·.refKey)=true:=by rw[a];exact MF
  rw[if_neg a'];exact congrArg some e
theorem FH.look{x dx C:Addr}(I:FH h x dx C mA):∃od,PySem.W.InstAt h x (Ow C dx) C (some od)/\∀name,OG name od=some (mA name):=
 let ⟨od,ho,hl⟩:=xJ I.ns
 ⟨od,⟨I.obj,rfl,rfl,ho⟩,hl⟩
end
section
variable{P:Program}{w:World}{H H':Hp}{h h':Heap}{a C dx:Addr}{fs fs':List (Str×V)}
theorem Ck(hok:HOk P w H h)(e:H a=some (.ins C dx fs)):∃mA,FH h a dx C mA/\(∀f,Fb (fs.lookup f) (mA f))/\PySem.Within mA (fs.map (·.1))/\fs.length<=1000/\H dx=some (.own a):=by
 obtain⟨d,z,ne,ob,mA,n,r,q⟩:=(show bH P w H h a (.ins C dx fs) from hok a _ e)
 exact⟨mA,⟨ob,n,ne⟩,r,q,z,d⟩
end
structure Cls(K:gc)(C:Addr):Prop where
 pg:PySem.W.plainGet K C Str.empty=true
 hd:PySem.W.hasDictIn K C=true
 po:PySem.W.plainOver K C=true
 sa:Nd K (.ref C) "__setattr__" = some (some (.builtin "object.__setattr__"))
theorem Cls.get{K:gc}{C:Addr}(c:Cls K C)(f:Str):PySem.W.plainGet K C f=true:=c.pg
section
variable{X:Cx}{mU:List (Addr×Obj)}{σ:St}{H:Hp}{s:Shared}{A:Around}{E:Value->Shared->Prop}{Q:Value->Shared->Prop}{c:Value}{b:Bool}
inductive jI(K:gc)(H:Hp):V->Value->Prop where
 |non:jI K H .non (.type "NoneType")
 |bl (x:Bool):jI K H (.bl x) (.type "bool")
 |int (i:Int):jI K H (.int i) (.type "int")
 |str (x:Str):jI K H (.str x) (.type "str")
 |flt (x:UInt64):jI K H (.flt x) (.type "float")
 |lst {a:Addr} {xs:List V} (e:H a=some (.lst xs)):jI K H (.ref a) (.type "list")
 |frz {a:Addr} {o:Obj} {xs:List V} (e:H a=some (.frz o (.lst xs))):jI K H (.ref a) (.type "list")
 |tup {a:Addr} {xs:List V} (e:H a=some (.tup xs)):jI K H (.ref a) (.type "tuple")
 |dK {a:Addr} {kvs:List (Key×V)} (e:H a=some (.dK kvs)):jI K H (.ref a) (.type "dict")
 |dT {a:Addr} {kvs:List (List Key×V)} {ts:List Addr} (e:H a=some (.dT kvs ts)):jI K H (.ref a) (.type "dict")
 |ins {a C dx:Addr} {fs:List (Str×V)} (e:H a=some (.ins C dx fs)) (cl:Cls K C) (ha:Nd K (.ref C) "__class__" = some (some (.builtin "object.__class__")))
   (hn:PySem.W.specialIn K (.builtin "object.__class__") "__get__" = some (some (.builtin "getset_descriptor.__get__"))) (htk:PySem.W.takesIn K (.builtin "object.__class__")=some true)
   (hm:Nj K C (.type "object")=some true):jI K H (.ref a) (.ref C)
theorem xK{x:V}{u t:Value}(I:Inv X mU σ H s)(rx:RelV x u)(ty:jI X.K H x t)(e:Mk X.K t c=some b)(h:∀tk,Q (.bool b) { s with toks:=tk }) :
  wpAny (model X.prog X.w) A (call (.builtin "isinstance") [u,c]) Q E s:=by
 cases ty with
 |non=>cases (show u=OL from rx);exact MR PySem.W.kitx_none I.kIn Ot e (fun z=>nomatch z) h
 |bl y=>cases (show u=OS y from rx);exact MR PySem.W.kitx_bool I.kIn Ot e (fun z=>nomatch z) h
 |int i=>obtain⟨t,q⟩:=(show ∃t,u=Value.int i t from rx);cases q;exact MR PySem.W.kitx_int I.kIn Ot e (fun z=>nomatch z) h
 |str y=>obtain⟨t,q⟩:=(show ∃t,u=OU y t from rx);cases q;exact MR PySem.W.kitx_str I.kIn Ot e (fun z=>nomatch z) h
 |flt y=>obtain⟨t,q⟩:=(show ∃t,u=Value.float y t from rx);cases q;exact MR PySem.W.kitx_float I.kIn Ot e (fun z=>nomatch z) h
 |@lst a xs ea=>
  cases (show u=MP a from rx);obtain⟨_,_,n,_,h1⟩:=(show bH X.prog X.w H s.heap a (.lst xs) from I.hok a _ ea)
  exact MR PySem.W.kitx_list I.kIn ⟨_,h1,rfl⟩ e (fun z=>nomatch z) h
 |@frz a ob xs ea=>
  cases (show u=MP a from rx);obtain⟨_,_,_,n,_,h1⟩:=(show bH X.prog X.w H s.heap a (.frz ob (.lst xs)) from I.hok a _ ea)
  exact MR PySem.W.kitx_list I.kIn ⟨_,h1,rfl⟩ e (fun z=>nomatch z) h
 |@tup a xs ea=>
  cases (show u=MP a from rx);obtain⟨_,_,_,p⟩:=(show bH X.prog X.w H s.heap a (.tup xs) from I.hok a _ ea)
  obtain⟨o,h1,h2,_⟩:=p;exact MR PySem.W.kitx_tuple I.kIn ⟨o,h1,h2⟩ e (fun z=>nomatch z) h
 |@dK a kvs ea=>
  cases (show u=MP a from rx);obtain⟨_,_,vs,_,p⟩:=(show bH X.prog X.w H s.heap a (.dK kvs) from I.hok a _ ea)
  obtain⟨o,es,ep,h1,h2,_⟩:=p;exact MR PySem.W.kitx_dict I.kIn ⟨o,h1,h2.1⟩ e (fun z=>nomatch z) h
 |@dT a kvs ts ea=>
  cases (show u=MP a from rx);obtain⟨_,_,xs,_,o,es,ep,h1,h2,_⟩:=(show bH X.prog X.w H s.heap a (.dT kvs ts) from I.hok a _ ea)
  exact MR PySem.W.kitx_dict I.kIn ⟨o,h1,h2.1⟩ e (fun z=>nomatch z) h
 |@ins a C dx fs ea cl ha hn htk hm=>cases (show u=MP a from rx);obtain⟨mA,O,_⟩:=Ck I.hok ea;obtain⟨od,J,_⟩:=O.look;exact MR (PySem.W.kitx_own (cl.get _) cl.hd ha hn htk hm) I.kIn J e (fun z=>nomatch z) h
end
section
variable{A:Around}{k:Nat}
structure bM(k:Nat)(A:Around):Prop where
 hd:A.handled=none
 dp:A.depth+3*k+5<recursionLimit
 un:A.units+16*k+200<cLine
 gd:A.guards=some []
theorem bM.mono{j k:Nat}(r:bM k A)(h:j<=k):bM j A:=⟨r.hd,by have:=r.dp;lia,by have:=r.un;lia,r.gd⟩
theorem bM.deeper(r:bM (k+1) A)(env:Env):bM k (A.deeper env):=
 ⟨r.hd,by have:=r.dp;show A.depth+1+3*k+5<_;lia,by have:=r.un;show A.units+3+16*k+200<_;lia,r.gd⟩
theorem bM.depth(r:bM k A):A.depth<recursionLimit:=by have:=r.dp;lia
theorem bM.units(r:bM k A):A.units+64<cLine:=by have:=r.un;lia
def xM:TA:=fun _ H Q=>Q [] H
def jJ(ta:TE)(tr:TA):TA:=fun σ H Q=>ta σ H fun x H1=>tr σ H1 fun xs H2=>Q (x::xs) H2
end
section
variable{X:Cx}{e:Expr}{es:List Expr}{te:TE}{t:TA}{pos:Pos}
theorem gB:PA X [] xM:=fun _ _ _ _ H Q I h=>Nu ⟨[],H,I,.nil,h⟩
theorem cE(ha:PE X e te)(hr:PA X es t)(hs:starEach (e::es) X.env=(false,eval e X.env)::starEach es X.env:=by rfl):PA X (e::es) (jJ te t):=by intro pos mU s σ H Q I h;rw[hs];show wpAny _ _ (spliced ((false,eval e X.env)::backTo pos (starEach es X.env))) _ _ s;refine Calls.spliced_cons (thn (ha mU s σ H _ I h) fun u s1 ⟨x,H1,I1,r1,q1⟩=>?_);exact thn (hr pos mU s1 σ H1 _ I1 q1) fun us s2 ⟨xs,H2,I2,r2,q2⟩=>⟨x::xs,H2,I2,.cons r1 r2,q2⟩
def Cm(t:TA):TE:=fun σ H Q=>t σ H fun xs H1=>xs.length<=sizeLine/\∀p,H1 p=none->Q (.ref p) (upd H1 p (.tup xs))
def Im(t:TA):TE:=fun σ H Q=>t σ H fun xs H1=>xs.length<=sizeLine/\∀p,H1 p=none->Q (.ref p) (upd H1 p (.lst xs))
theorem uU{x1}(h:PA X es t):PE X (.Tuple es x1 pos) (Cm t):=by intro mU s σ H Q I hq;refine wpAny_Tuple_spliced (thn (h pos mU s σ H _ I hq) fun us s1 ⟨xs,H1,I1,r,z,q⟩=>⟨by rw[<- r.length];exact z,?_⟩);have hf:H1 s1.heap.objs.size=none:=I1.hok.fresh (Mj _);refine⟨.ref s1.heap.objs.size,upd H1 s1.heap.objs.size (.tup xs),I1.laid (t':=s1.toks) (fun b u e=>Mf _ e) (Mj _) ?_,rfl,q _ hf⟩;exact⟨z,us,r,⟨_,MG _ rfl,rfl,_,rfl⟩⟩
theorem FJ(h:PA X es t):PE X (.List es pos) (Im t):=by intro mU s σ H Q I hq;refine wpAny_List_spliced (thn (h pos mU s σ H _ I hq) fun us s1 ⟨xs,H1,I1,r,z,q⟩=>⟨by rw[<- r.length];exact z,?_⟩);have hf:H1 s1.heap.objs.size=none:=I1.hok.fresh (Mj _);refine⟨.ref s1.heap.objs.size,upd H1 s1.heap.objs.size (.lst xs),I1.laid (t':=s1.toks) (fun b u e=>Mf _ e) (Mj _) ?_,rfl,q _ hf⟩;exact⟨z,us,0,r,MG _ rfl⟩
end
noncomputable abbrev Sp:=List V->Hp->VK->XK->Prop
noncomputable abbrev CXT:=List Env->Hp->Shared->XK->Value->Shared->Prop
structure rY(P:Program)(w:World)(K:gc)(mg:Str->Option Value)(base:Heap)(A:Around)(outer:List Env)(s:Shared)(H:Hp):Prop where
 frames:A.frames=some outer
 mod:Mod K mg base
 bs:∀b o,base.get? b=some o->s.heap.get? b=some o/\H b=none
 bsz:base.objs.size<=s.heap.objs.size
 kq:s.heap.FunFrames base outer
 frf:∀b∈frs outer,H b=none
 hok:HOk P w H s.heap
 bare:AllBare s.gens
def CE(outer:List Env)(P:Program)(w:World)(H:Hp)(s:Shared)(Q:VK)(u:Value)(s':Shared):Prop:=
 ∃v H',s'.os=s.os/\AllBare s'.gens/\Un (frs outer) [] H H' s.heap s'.heap/\HOk P w H' s'.heap/\RelV v u/\Q v H'
def CR(CX:CXT)(outer:List Env)(P:Program)(w:World)(H:Hp)(s:Shared)(Q:VK)(E:XK)(r:Result)(s':Shared):Prop:=
 match r with
 |.ok (.ret u)=>CE outer P w H s Q u s'
 |.ok _=>False
 |.error e=>CX outer H s E e s'
structure aP(P:Program)(w:World)(K:gc)(mg:Str->Option Value)(base:Heap)(CX:CXT)(k:Nat)(f:Addr)(fd:FuncData)(ps:List Str)(sp:Sp):Prop where
 len:∀vs H Q E,sp vs H Q E->vs.length=ps.length
 run:∀(A:Around) (outer:List Env) (s:Shared) (H:Hp) (args:Args) (us:List Value) (vs:List V) (Q:VK) (E:XK),bM k A->rY P w K mg base A outer s H->BindsTo s fd args (ps.zip us)->Vals vs us->sp vs H Q E ->
  codeAny (model P w) A (.call (.ref f) args) (CR CX outer P w H s Q E) s
section
variable{X:Cx}{mU:List (Addr×Obj)}{σ:St}{H:Hp}{s s':Shared}
theorem Inv.FL(I:Inv X mU σ H s):rY X.prog X.w X.K X.mg X.base X.A X.stack s H:=
 ⟨I.ok.frames,I.ok.mod,I.bs,MQ I.ok.bsz I.sz,I.stack,I.qk,I.hok,I.bare⟩
theorem Inv.after{Q:VK}{u:Value}(I:Inv X mU σ H s)(h:CE X.stack X.prog X.w H s Q u s'):EP X mU σ Q u s':=by obtain⟨v,H',os,bare,un,hok,r,q⟩:=h;obtain⟨hh,g,d,t,os'⟩:=s';obtain rfl:os'=s.os:=os;exact⟨v,H',I.call (h':=hh) (g':=g) (d':=d) (t':=t) (ch:=[]) un hok bare (fun b z=>absurd z (by simp)),r,q⟩
end
def rZ(sp:Sp)(dvs:List V)(E:XK)(t:TA):TE:=fun σ H Q=>t σ H fun vs H1=>sp (vs++dvs) H1 Q E
def Binds(K:gc)(fd:FuncData)(ps:List Str)(ds:List Value):Prop:=
 ∀(s:Shared) (us:List Value),K.In s.heap->(us++ds).length=ps.length->BindsTo s fd ⟨us,[]⟩ (ps.zip (us++ds))
theorem Binds.all{K:gc}{fd:FuncData}{ps:List Str}(h:∀us:List Value,us.length=ps.length->bindArgs fd ⟨us,[]⟩=pure (ps.zip us)):Binds K fd ps []:=fun s us _ hl=>by rw[MN]at hl ⊢;exact .of_eq (h us hl)
def Passes(CX:CXT)(X:Cx)(E:XK):Prop:=∀(mU:List (Addr×Obj)) (σ:St) (H:Hp) (s:Shared) (e:Value) (s':Shared),Inv X mU σ H s->CX X.stack H s E e s'->X.xe e s'
section
variable{X:Cx}{CX:CXT}{k:Nat}{f C:Addr}{fd:FuncData}{ps:List Str}{sp:Sp}{dvs:List V}{ds:List Value}{E:XK}{x m:Str}{p pos Q8:Pos}{e o:Expr}{es:List Expr}{ta:TE}{t:TA}
theorem FO{mU:List (Addr×Obj)}{σ:St}{H:Hp}{s:Shared}{Q:VK}{us:List Value}{vs:List V}(F:aP X.prog X.w X.K X.mg X.base CX k f fd ps sp)(hr:bM k X.A)(hb:Binds X.K fd ps ds)(hd:Vals dvs ds)(hx:Passes CX X E)
  (I:Inv X mU σ H s) (r:Vals vs us) (h:sp (vs++dvs) H Q E):wpAny (model X.prog X.w) X.A (call (.ref f) us) (EP X mU σ Q) X.xe s:=by
 have r2:Vals (vs++dvs) (us++ds):=r.append hd;have hl:(us++ds).length=ps.length:=by rw[<- r2.length];exact F.len _ _ _ _ h
 refine wpAny_call (codeAny_mono (F.run X.A X.stack s H ⟨us,[]⟩ (us++ds) (vs++dvs) Q E hr I.FL (hb s us I.kIn hl) r2 h) fun r s' hq=>?_);cases r with
 |error e=>exact hx mU σ H s e s' I hq
 |ok fl=>
  cases fl with
  |ret u=>exact I.after hq
  |next=>exact Mr hq
  |brk=>exact Mr hq
  |cont=>exact Mr hq
theorem lM(F:aP X.prog X.w X.K X.mg X.base CX k f fd ps sp)(hr:bM k X.A)(hg:Gl X x)(hm:X.mg x=some (.ref f))(hk:MZ X.K (.ref f)=true)(hb:Binds X.K fd ps ds)(hd:Vals dvs ds)(hx:Passes CX X E)
  (ha:PA X (e::es) t) (JF:(x == ("__debug__" : Str))=false:=by decide) (he:starEach (e::es) X.env=(false,eval e X.env)::starEach es X.env:=by rfl) (En:(backTo pos (starEach es X.env)).any (·.1)=false:=by rfl) :
  PE X (.Call (.Name x p) (e::es) [] pos) (rZ sp dvs E t):=by
 intro mU s σ H Q I h;refine wpAny_Call_Name_kw (h_ I hg hm ?_ JF);refine Od (h₀:=X.base) I.ok.mod.kin hk (thn (ha pos mU s σ H _ I h) fun us s1 ⟨vs,H1,I1,r,q⟩=>⟨I1.kIn,?_⟩) he En;exact FO F hr hb hd hx I1 r q
end
section
variable{x:Str}{v:Value}
structure ay(N P:List Str)(sc:Scope):Prop where
 kind:sc.kind=.function
 co:sc.isCoroutine=false
 gen:sc.isGenerator=false
 nd:N.Nodup
 pre:N.take P.length=P
 par:∀x∈P,sc.names.lookup x=some .local\/sc.names.lookup x=some .cell
 FQ:∀y∈sc.names,y.2≠.free
theorem o7{kindOf:Str->Option NameKind}:∀{binds:List (Str×Value)} {m:Str->Option Value},(∀v,(x,v)∉binds)->bindL kindOf binds m x=m x
 |[],_,_=>rfl
 |(n,v)::r,m,h=>by
  unfold bindL;rw[o7 fun w hw=>h w (MB _ hw)];split
  ·have:x≠n:=by rintro rfl;exact h v MA
   simp[this]
  ·rfl
theorem o8{kindOf:Str->Option NameKind}:∀{binds:List (Str×Value)} {m:Str->Option Value},(∀v,(x,v)∉binds)->bindC kindOf binds m x=m x
 |[],_,_=>rfl
 |(n,v)::r,m,h=>by
  unfold bindC;rw[o8 fun w hw=>h w (MB _ hw)];split
  ·rfl
  ·have:x≠n:=by rintro rfl;exact h v MA
   simp[this]
theorem o9{kindOf:Str->Option NameKind}:∀{P:List Str} {vs:List Value} {i:Nat} {m:Str->Option Value},P.Nodup->P[i]?=some x->vs[i]?=some v->kindOf x=some .local ->
  bindL kindOf (P.zip vs) m x=some v
 |[],_,_,_,_,h,_,_=>by simp at h
 |_::_,[],_,_,_,_,h,_=>by simp at h
 |p::P,w::vs,0,m,nd,h1,h2,hk=>by simp at h1 h2;subst h1;subst h2;show bindL kindOf ((p,w)::P.zip vs) m p=_;unfold bindL;rw[o7 fun v hv=>(NZ.mp nd).1 (N1 hv).1,if_pos hk];simp
 |p::P,w::vs,i+1,m,nd,h1,h2,hk=>by show bindL kindOf ((p,w)::P.zip vs) m x=_;unfold bindL;exact o9 (i:=i) (NZ.mp nd).2 (by simpa using h1) (by simpa using h2) hk
theorem o_{kindOf:Str->Option NameKind}:∀{P:List Str} {vs:List Value} {i:Nat} {m:Str->Option Value},P.Nodup->P[i]?=some x->vs[i]?=some v->kindOf x≠some .local ->
  bindC kindOf (P.zip vs) m x=some v
 |[],_,_,_,_,h,_,_=>by simp at h
 |_::_,[],_,_,_,_,h,_=>by simp at h
 |p::P,w::vs,0,m,nd,h1,h2,hk=>by simp at h1 h2;subst h1;subst h2;show bindC kindOf ((p,w)::P.zip vs) m p=_;unfold bindC;rw[o8 fun v hv=>(NZ.mp nd).1 (N1 hv).1,if_neg hk];simp
 |p::P,w::vs,i+1,m,nd,h1,h2,hk=>by show bindC kindOf ((p,w)::P.zip vs) m x=_;unfold bindC;exact o_ (i:=i) (NZ.mp nd).2 (by simpa using h1) (by simpa using h2) hk
noncomputable def start(N:List Str)(vs:List V):St:=vs.map some++gV (N.length-vs.length) none
noncomputable def fK(CX:CXT)(P:Program)(w:World)(K:gc)(mg:Str->Option Value)(base:Heap)(N:List Str)(qual:Str)(scope:Scope)(f:Addr)(cd:Value)(A:Around)(outer:List Env)(s:Shared)(H:Hp)(E:XK):Cx where
 prog:=P
 w:=w
 K:=K
 mg:=mg
 base:=base
 A:=A.deeper (envOfC qual scope s.heap.objs.size f cd)
 N:=N
 s₀:=s
 H₀:=H
 env:=envOfC qual scope s.heap.objs.size f cd
 outer:=outer
 stack:=envOfC qual scope s.heap.objs.size f cd::outer
 ex:=[]
 calm:=true
 fn:=fun _=>true
 pn:=[]
 xe:=fun e s'=>wpAny (model P w) (A.deeper (envOfC qual scope s.heap.objs.size f cd)) (leaving (envOfC qual scope s.heap.objs.size f cd) e) (fun _ s''=>CX outer H s E e s'') (fun e' s''=>CX outer H s E e' s'') s'
theorem r8{sc:Scope}{n:Nat}(h:sc.names.lookup x=some .cell):∃c,(cellsFrom n sc.names []).lookup x=some c:=by have q:=NQ sc.names n [] (.inl h);exact MH.mp q
theorem pq{CX:CXT}{P:Program}{w:World}{K:gc}{mg:Str->Option Value}{base:Heap}{N ps:List Str}{qual:Str}{scope:Scope}{f:Addr}{cd:Value}{A:Around}{outer:List Env}{s s1:Shared}{H:Hp}{E:XK}{us:List Value}{vs:List V}
  (S:ay N ps scope) (hd:A.handled=none) (e0:rY P w K mg base A outer s H) (hl:vs.length=ps.length) (r:Vals vs us)
  (x:InCallC s s.heap.objs.size (bindL (envOfC qual scope s.heap.objs.size f cd).kindOf (ps.zip us) fun _=>none) (cellsFrom (s.heap.objs.size+1) scope.names []) (bindC (envOfC qual scope s.heap.objs.size f cd).kindOf (ps.zip us) fun _=>none) s1) :
  Inv (fK CX P w K mg base N qual scope f cd A outer s H E) [] (start N vs) H s1:=by
 have En:ps.length<=N.length:=by have:=congrArg List.length S.pre;rw[NS]at this;lia
 obtain⟨h1,tk,rfl,hk⟩:=x.done;have noA:∀b:Addr,b∉(fK CX P w K mg base N qual scope f cd A outer s H E).ex:=fun b z=>absurd (show b∈([]:List Addr) from z) (by simp);refine ⟨⟨e0.mod,S.kind,rfl,rfl,Mj _,fun y z c h1 h2=>?_,fun y hy=>?_,fun y c _ h=>?_,fun _=>hd,Around.frames_deeper e0.frames,.inr ⟨rfl,rfl⟩,fun b z=>absurd z (noA b),e0.bs,e0.bsz,fun b _ _=>noA b,fun b z=>absurd z (noA b),e0.kq,e0.frf⟩,
  rfl,e0.bare,Un.kept hk,⟨_,x.toInCall.ns,fun i y v h1 h2 h3=>?_⟩,fun y c h=>⟨_,x.cell y c h⟩,e0.hok.fresh (Mj _),fun y c h=>?_,fun p hp=>absurd (show p∈([]:List (Addr×Obj)) from hp) (by simp),e0.hok.kept hk,?_⟩
 ·exact name_of_addr x.apart (PySem.mem_of_lookup h1) (PySem.mem_of_lookup h2)
 ·have hy:scope.names.lookup y=some .cell\/scope.names.lookup y=some .free:=hy;rcases hy with hy | hy
  ·exact r8 hy
  ·exact absurd rfl (S.FQ _ (PySem.mem_of_lookup hy))
 ·exact NG (x.above y c (PySem.mem_of_lookup h))
 ·have hi:i<vs.length:=by
   unfold start at h2;by_cases hi:i<vs.length
   ·exact hi
   ·rw[Mp (by simpa using hi)]at h2;rw[My]at h2;split at h2<;>cases h2
  have ha:vs[i]?=some v:=by
   unfold start at h2;rw[HT (by simpa using hi),Mq]at h2;cases e:vs[i]? with
   |none=>rw[e]at h2;cases h2
   |some a=>rw[e]at h2;cases h2;rfl
  obtain⟨u,hu,rv⟩:=r.get ha;have hp:ps[i]?=some y:=by rw[<- S.pre,NH (by lia)];exact h1
  have ndP:ps.Nodup:=by rw[<- S.pre];exact S.nd.sublist (List.take_sublist _ _)
  refine⟨u,rv,?_⟩;rcases S.par y (N2 hp) with k | k
  ·exact .inl ⟨k,o9 ndP hp hu k⟩
  ·obtain⟨c,e⟩:=r8 (n:=s.heap.objs.size+1) k;refine .inr ⟨.inl k,c,e,?_⟩;have q:=x.cell y c e;rw[o_ ndP hp hu (by show scope.names.lookup y≠_;rw[k];decide)]at q;exact q
 ·exact e0.hok.fresh (NG (x.above y c (PySem.mem_of_lookup h)))
 ·unfold start;show _=N.length;rw[Mt,Mg,M0]
  lia
theorem Ec{CX:CXT}{P:Program}{w:World}{K:gc}{mg:Str->Option Value}{base:Heap}{k:Nat}{f:Addr}{name qual:Str}{params:Arguments}{body:List Stmt}{scope:Scope}{dV kV doc pm cdv ct oc:Value}{an od:Option Addr}
  {osl:Array (Option Value)} {N ps:List Str} {sp:Sp} (lk:K.lookup f=some ⟨oc,od,.func (MK name qual params body scope dV kV doc pm an cdv ct),osl⟩) (JL:NL K cdv qual=true) (S:ay N ps scope)
  (len:∀vs H Q E,sp vs H Q E->vs.length=ps.length)
  (hbody:∀ (A:Around) (outer:List Env) (s:Shared) (H:Hp) (vs:List V) (Q:VK) (E:XK),bM k (A.deeper (envOfC qual scope s.heap.objs.size f cdv))→sp vs H Q E →
   ∃t,PSs (fK CX P w K mg base N qual scope f cdv A outer s H E) body t/\t { nx:=fun _ H'=>Q .non H',rt:=Q } (start N vs) H) :
  aP P w K mg base CX (k+1) f (MK name qual params body scope dV kV doc pm an cdv ct) ps sp:=by
 refine⟨len,fun A outer s H args us vs Q E hr e0 hb r hsp=>?_⟩;have hl:=len _ _ _ _ hsp;have KX:K.In s.heap:=e0.mod.kin.keeps fun b o e=>(e0.bs b o e).1;have lim:s.heap.NoLimit:=e0.mod.nolimit.keeps fun b o e=>(e0.bs b o e).1;have hkind:∀y∈ps.zip us,scope.names.lookup y.1=some .local\/(scope.names.lookup y.1=some .cell/\((cellsFrom (s.heap.objs.size+1) scope.names []).lookup y.1).isSome=true):=fun⟨n,v⟩ hy=>by
  rcases S.par n (N1 hy).1 with q | q
  ·exact .inl q
  ·exact .inr ⟨q,NQ _ _ _ (.inl q)⟩
 refine codeAny_call_function hr.depth (KX _ _ lk) rfl S.co S.gen rfl (PySem.W.codeRec_of KX JL) (hb _ _ _ _ ?_);refine wpAny_newFunctionEnv_cells S.kind hkind fun env he s1 x=>?_;subst he;refine⟨lim.keeps x.toInCall.keep,codeAny_func ?_⟩;obtain⟨t,ht,hq⟩:=hbody A outer s H vs Q E (hr.deeper _) hsp;have I:Inv (fK CX P w K mg base N qual scope f cdv A outer s H E) [] (start N vs) H s1:=pq S hr.hd e0 hl r x;refine wpAny_mono (ht [] s1 (start N vs) H _ I hq) (fun fl s' hs=>?_) fun e s' hs=>hs;have JI:∀{σ':St} {H':Hp} {v:V} {u:Value},Inv (fK CX P w K mg base N qual scope f cdv A outer s H E) [] σ' H' s'->RelV v u->Q v H'->CE outer P w H s Q u s':=
  fun {σ' H' v u} J rv q=>⟨v,H',J.os,J.bare,J.base,J.hok,rv,q⟩
 cases fl with
 |ret u=>obtain⟨v,σ',H',J,rv,q⟩:=hs;exact JI J rv q
 |next=>obtain⟨σ',H',J,q⟩:=hs;exact JI (v:=V.non) (u:=OL) J rfl q
 |brk=>obtain⟨_,_,_,q⟩:=hs;exact Mr q
 |cont=>obtain⟨_,_,_,q⟩:=hs;exact Mr q
end
section
variable{X:Cx}{x:Str}{p pos:Pos}{e:Expr}{es:List Expr}{t:TA}{id T:String}{r:List V->Hp->VK->Prop}
def tCB(r:List V->Hp->VK->Prop)(t:TA):TE:=fun σ H Q=>t σ H fun vs H1=>r vs H1 Q
theorem gC(hc:eS X (.builtin id) r)(hg:Gl X x)(hm:X.mg x=none)(hv:bootBuiltins x=some (.builtin id))(ha:PA X (e::es) t)(hn:x ≠ "__name__" := by decide)(JF:(x == ("__debug__" : Str))=false:=by decide)
  (he:starEach (e::es) X.env=(false,eval e X.env)::starEach es X.env:=by rfl) (En:(backTo pos (starEach es X.env)).any (·.1)=false:=by rfl):PE X (.Call (.Name x p) (e::es) [] pos) (tCB r t):=by
 intro mU s σ H Q I h;refine wpAny_Call_Name_kw (dg I hg hm hv ?_ hn JF);exact PyProof.Rows.callWith_builtin1 (thn (ha pos mU s σ H _ I h) fun us s1 ⟨vs,H1,I1,r1,q1⟩=>hc mU s1 σ H1 vs us Q I1 r1 q1) he En
theorem xN(hc:eS X (.type T) r)(hg:Gl X x)(hm:X.mg x=none)(hv:bootBuiltins x=some (.type T))(ha:PA X (e::es) t)(hn:x ≠ "__name__" := by decide)(JF:(x == ("__debug__" : Str))=false:=by decide)
  (he:starEach (e::es) X.env=(false,eval e X.env)::starEach es X.env:=by rfl) (En:(backTo pos (starEach es X.env)).any (·.1)=false:=by rfl):PE X (.Call (.Name x p) (e::es) [] pos) (tCB r t):=by
 intro mU s σ H Q I h;refine wpAny_Call_Name_kw (dg I hg hm hv ?_ hn JF);exact Mz (thn (ha pos mU s σ H _ I h) fun us s1 ⟨vs,H1,I1,r1,q1⟩=>hc mU s1 σ H1 vs us Q I1 r1 q1) he En
end
noncomputable def ixN(n:Nat)(i:Int):Option Nat:=if 0<=i then (if i<n then some i.toNat else none) else if -(n:Int)<=i then some (i+n).toNat else none
noncomputable def atI{α:Type}(xs:List α)(i:Int):Option α:=(ixN xs.length i).bind fun j=>xs[j]?
theorem we{n:Nat}{i:Int}{j:Nat}(h:ixN n i=some j):seqIndex? i n=some j/\j<n/\-(n:Int)<=i/\i<n:=by
 unfold ixN at h;by_cases h0:0<=i
 ·rw[if_pos h0]at h;by_cases h1:i<n
  ·rw[if_pos h1]at h;have e:i.toNat=j:=Option.some.inj h;exact⟨by rw[seqIndex_of h0 h1,e],by lia,by lia,h1⟩
  ·rw[if_neg h1]at h;cases h
 ·rw[if_neg h0]at h;by_cases h1:-(n:Int)<=i
  ·rw[if_pos h1]at h;have e:(i+n).toNat=j:=Option.some.inj h;exact⟨by rw[seqIndex_neg (by lia) h1,e],by lia,h1,by lia⟩
  ·rw[if_neg h1]at h;cases h
theorem wg{α:Type}{xs:List α}{i:Int}{v:α}(h:atI xs i=some v):∃j,seqIndex? i xs.length=some j/\xs[j]?=some v/\j<xs.length/\-(xs.length:Int)<=i/\i<xs.length:=by
 unfold atI at h;cases e:ixN xs.length i with
 |none=>rw[e]at h;cases h
 |some j=>rw[e]at h;obtain⟨h1,h2,h3,h4⟩:=we e;exact⟨j,h1,h,h2,h3,h4⟩
def qq(b:Expr):Prop:=∀o i,subscripted b false o i=operate [o,i] (getItem o i)
def IxR(X:Cx)(r:R2):Prop:=
 ∀(value slice:Expr) (mU:List (Addr×Obj)) (s:Shared) (σ:St) (H:Hp) (x y:V) (v u:Value) (Q:VK),Inv X mU σ H s->RelV x v->RelV y u->r x y H Q ->
  subscripted slice false v u=operate [v,u] (getItem v u)->wpAny (model X.prog X.w) X.A (subscriptTail value slice v u) (EP X mU σ Q) X.xe s
def MtR(X:Cx)(id:String)(r:V->List V->Hp->VK->Prop):Prop:=
 ∀(mU:List (Addr×Obj)) (s:Shared) (σ:St) (H:Hp) (x:V) (xs:List V) (v:Value) (us:List Value) (Q:VK),Inv X mU σ H s->RelV x v->Vals xs us->r x xs H Q ->
  wpAny (model X.prog X.w) X.A (call (.builtin id) (v::us)) (EP X mU σ Q) X.xe s
section
variable{X:Cx}{a b:Expr}{ta tb:TE}{pos:Pos}
section
variable{mU:List (Addr×Obj)}{s:Shared}{σ:St}{H:Hp}
theorem IxR.or{r r':R2}(h:IxR X r)(h':IxR X r'):IxR X (fun x y H Q=>r x y H Q\/r' x y H Q):=by
 intro value slice mU s σ H x y v u Q I rx ry q hs;rcases q with q | q
 ·exact h value slice mU s σ H x y v u Q I rx ry q hs
 ·exact h' value slice mU s σ H x y v u Q I rx ry q hs
theorem Ed{r:R2}(hr:IxR X r)(ha:PE X a ta)(hb:PE X b tb)(hs:qq b):PE X (.Subscript a b pos) (tOp r ta tb):=by intro mU s σ H Q I h;exact Subscript_ (Fv ha hb I h fun v u s2 x y H2 I2 rx ry q=>hr a b mU s2 σ H2 x y v u Q I2 rx ry q (hs _ _))
def Io(K:gc):R2:=fun x y H Q=>∃p xs i v,x=.ref p/\y=.int i/\SqL K H p xs/\atI xs i=some v/\Q v H
def Cn(K:gc):R2:=fun x y H Q=>∃p xs i v,x=.ref p/\y=.int i/\SqT K H p xs/\atI xs i=some v/\Q v H
theorem Co:IxR X (Io X.K):=by
 intro value slice mU s σ H x y v u Q I rx ry h hs;obtain⟨p,xs,i,z,rfl,rfl,hq,he,q⟩:=h;cases rx;obtain⟨t,rfl⟩:=ry;obtain⟨its,r,pl,hz⟩:=I.list hq;obtain⟨j,h1,h2,h3,h4,h5⟩:=wg he;obtain⟨w,ew,rw'⟩:=r.get h2;have hl:=r.length;have hn:=l7;have JI:EP X mU σ Q w s:=⟨z,H,I,rw',q⟩
 by_cases h0:0<=i
 ·have hj:i.toNat=j:=by
   rw[seqIndex_of h0 h5]at h1;exact Option.some.inj h1
  exact item_listR pl.isList h0 (by lia) (by rw[hj];simpa using ew) JI hs
 ·have hj:(i+(its.toArray.size:Int)).toNat=j:=by
   rw[seqIndex_neg (by lia) h4]at h1;rw[Mm,<- hl];exact Option.some.inj h1
  exact subscriptTail_builtinR (x:=w) pl.isList.typeIs slot_list_getitem.lookup
   (wpAny_getItem_list_neg (Q:=fun r s'=>r=w/\EP X mU σ Q r s') pl.isList (by lia) (by rw[Mm]<;>lia) (by lia) (by rw[hj];simpa using ew) ⟨rfl,JI⟩) hs
theorem yX:IxR X (Cn X.K):=by
 intro value slice mU s σ H x y v u Q I rx ry h hs;obtain⟨p,xs,i,z,rfl,rfl,hq,he,q⟩:=h;cases rx;obtain⟨t,rfl⟩:=ry;obtain⟨its,r,pl,hz⟩:=I.tuple hq;obtain⟨j,h1,h2,h3,h4,h5⟩:=wg he;obtain⟨w,ew,rw'⟩:=r.get h2;have hl:=r.length;have hn:=l7;have JI:EP X mU σ Q w s:=⟨z,H,I,rw',q⟩
 exact subscriptTail_builtinR (x:=w) pl.typeIs slot_tuple_getitem.lookup
  (getItem_tuple (j:=j) (Q:=fun r s'=>r=w/\EP X mU σ Q r s') pl (by lia) (by lia) (by rw[Mm,<- hl];exact h1) (by simpa using ew) ⟨rfl,JI⟩) hs
theorem uV(its:List Value)(n j:Nat)(u:Value):NO (·.setIfInBounds j u) { cls:=.type "list",data:=.seq its.toArray n }={ cls:=.type "list",data:=.seq (its.set j u).toArray n }:=by simp[NO]
theorem Inv.lst{mU:List (Addr×Obj)}{σ:St}{H:Hp}{s:Shared}{p:Addr}{xs:List V}(I:Inv X mU σ H s)(h:H p=some (.lst xs)) :
  ∃(its:List Value) (n:Nat),Vals xs its/\s.heap.get? p=some { cls:=.type "list",data:=.seq its.toArray n }/\xs.length<=sizeLine:=by
 obtain⟨z,its,n,r,e⟩:=I.hok p _ h;exact⟨its,n,r,e,z⟩
theorem Inv.FU{p:Addr}{xs ys:List V}{its its':List Value}{n n':Nat}{f:Obj->Obj}(I:Inv X mU σ H s)(h:H p=some (.lst xs))
  (ho:s.heap.get? p=some { cls:=.type "list",data:=.seq its.toArray n }) (hf:f { cls:=.type "list",data:=.seq its.toArray n }={ cls:=.type "list",data:=.seq its'.toArray n' }) (r:Vals ys its') (hz:ys.length<=sizeLine) (t:Nat) :
  Inv X mU σ (upd H p (.lst ys)) { s with heap:=s.heap.update p f,toks:=t }:=by
 have e:(s.heap.update p f).get? p=some { cls:=.type "list",data:=.seq its'.toArray n' }:=by rw[M7 f ho (by rw[hf]<;>rfl),hf]
 refine I.write (x:=p) (e:=p) (by rw[h];trivial) (.inl rfl) (fun b u hb q=>(Ng _ _ (MJ hb)).trans q) ⟨_,e⟩ ?_;exact⟨hz,its',n',r,e⟩
def Ef:V->V->V->Hp->(Hp->Prop)->Prop:=fun o i v H Q=>∃p xs k j,o=.ref p/\i=.int k/\H p=some (.lst xs)/\ixN xs.length k=some j/\Q (upd H p (.lst (xs.set j v)))
theorem set_list:Ib X Ef:=by
 intro mU s σ H o i v ov iv u Q I ro ri rv h;obtain⟨p,xs,k,j,rfl,rfl,hp,hj,q⟩:=h;cases ro;obtain⟨t,rfl⟩:=ri;obtain⟨its,n,r,ho,hz⟩:=I.lst hp;obtain⟨h1,h2,h3,h4⟩:=we hj;have hl:=r.length;have hn:=l7;have I':Inv X mU σ (upd H p (.lst (xs.set j v))) { s with heap:=s.heap.update p (NO (·.setIfInBounds j u)) }:=
  I.FU hp ho (uV its n j u) (r.set rv j) (by rw[Mx];exact hz) s.toks
 by_cases h0:0<=k
 ·have hk:k.toNat=j:=by
   rw[seqIndex_of h0 h4]at h1;exact Option.some.inj h1
  exact PySem.W.ki_setAt ho h0 (by lia) (by rw[Mm,<- hl];exact h4) (by rw[hk];exact⟨_,I',q⟩)
 ·have hk:(k+(its.toArray.size:Int)).toNat=j:=by
   rw[seqIndex_neg (by lia) h3]at h1;rw[Mm,<- hl];exact Option.some.inj h1
  exact PySem.W.ki_setBack ho (by lia) (by rw[Mm,<- hl];exact h3) (by lia) (by rw[hk];exact⟨_,I',q⟩)
theorem qt:eS X (.builtin "len") (fun xs H Q=>∃p ys,xs=[.ref p]/\(SqL X.K H p ys\/SqT X.K H p ys)/\Q (.int ys.length) H):=by
 intro mU s σ H xs us Q I r h;obtain⟨p,ys,rfl,hq,q⟩:=h;obtain⟨u,rfl,rx⟩:=vals1 r;cases rx;have hn:=l7;rcases hq with hq | hq
 ·obtain⟨its,r',pl,hz⟩:=I.list hq;have yi:=r'.length;exact Calls.call_len_list pl.isList (by simp only[Mm]<;>lia) ⟨.int ys.length,H,I.tok _,⟨s.toks+1,by rw[Mm,yi]⟩,q⟩
 ·obtain⟨its,r',pl,hz⟩:=I.tuple hq;have yi:=r'.length;exact len_tuple pl (by simp only[Mm]<;>lia) ⟨.int ys.length,H,I.tok _,⟨s.toks+1,by rw[Mm,yi]⟩,q⟩
theorem qu:eS X (.type "list") (fun xs H Q=>∃p ys,xs=[.ref p]/\(SqL X.K H p ys\/SqT X.K H p ys)/\∀l,H l=none->Q (.ref l) (upd H l (.lst ys))):=by
 intro mU s σ H xs us Q I r h;obtain⟨p,ys,rfl,hq,q⟩:=h;obtain⟨u,rfl,rx⟩:=vals1 r;cases rx;have JI:∀(its:List Value),Vals ys its->ys.length<=sizeLine->∀(h':Heap) (c':Nat),(∀b o',s.heap.get? b=some o'->h'.get? b=some o') ->
   h'.get? s.heap.objs.size=some { cls:=.type "list",dict:=none,data:=.seq its.toArray c',slots:=#[] }->EP X mU σ Q (.ref s.heap.objs.size) { s with heap:=h' }:=fun its r' hz h' c' kp e=>
  ⟨.ref s.heap.objs.size,_,I.laid (t':=s.toks) kp (Mj _) (show bH X.prog X.w _ h' _ (.lst ys) from ⟨hz,its,c',r',e⟩),rfl,q _ (I.hok.fresh (Mj _))⟩
 rcases hq with hq | hq
 ·obtain⟨its,r',pl,hz⟩:=I.list hq;have yi:=r'.length;obtain⟨o,ho,hc,n,hd⟩:=pl.isList;exact call_list_seq p (.inl rfl) ho hc hd (fun h' c' kp e=>JI its r' hz h' c' kp e) (by simp only[Mm]<;>lia)
 ·obtain⟨its,r',pl,hz⟩:=I.tuple hq;have yi:=r'.length;obtain⟨o,ho,hc,n,hd⟩:=pl;exact call_list_seq p (.inr rfl) ho hc hd (fun h' c' kp e=>JI its r' hz h' c' kp e) (by simp only[Mm]<;>lia)
theorem oS:eS X (.type "tuple") (fun xs H Q=>∃p ys,xs=[.ref p]/\((SqL X.K H p ys/\∀l,H l=none->Q (.ref l) (upd H l (.tup ys)))\/(SqT X.K H p ys/\Q (.ref p) H))):=by
 intro mU s σ H xs us Q I r h;obtain⟨p,ys,rfl,h⟩:=h;obtain⟨u,rfl,rx⟩:=vals1 r;cases rx;rcases h with⟨hq,q⟩ | ⟨hq,q⟩
 ·obtain⟨its,r',pl,hz⟩:=I.list hq;have yi:=r'.length;refine call_tuple_list pl.isList (fun h' kp=>?_) (by simp only[Mm]<;>lia);have I1:Inv X mU σ H { s with heap:=h' }:=I.kept (t':=s.toks) kp;have I2:Inv X mU σ (upd H h'.objs.size (.tup ys)) { s with heap:=h'.push { cls:=.type "tuple",data:=.seq its.toArray } }:=
   I1.laid (t':=s.toks) (fun b o e=>Mf _ e) (Mj _) (show bH X.prog X.w _ _ _ (.tup ys) from ⟨hz,its,r',IsTup.new _ _⟩)
  exact⟨.ref h'.objs.size,_,I2,rfl,q _ (I1.hok.fresh (Mj _))⟩
 ·obtain⟨its,r',pl,hz⟩:=I.tuple hq;exact call_tuple_same pl ⟨.ref p,H,I,rfl,q⟩
def tyV(K:gc)(T:String)(x:V)(H:Hp):Prop:=match x with
 |.str _=>T = "str"
 |.int _=>T = "int"
 |.ref p=>(T = "list" /\ ∃xs,SqL K H p xs)\/(T = "tuple" /\ ∃o,K.lookup p=some o/\o.cls=.type "tuple" /\ o.dict=none) \/
   (T = "dict" /\ ((∃kvs,H p=some (.dK kvs))\/∃kvs ts,H p=some (.dT kvs ts)))\/(T = "set" /\ ∃S n,H p=some (.set S n))
 |_=>False
theorem yY{T:String}{x:V}{v:Value}(I:Inv X mU σ H s)(r:RelV x v)(ty:tyV X.K T x H) :
  s.TypeIs v T/\∀a,v=.ref a->∃ob,s.heap.get? a=some ob/\ob.dict=none:=by
 cases x with
 |str z=>obtain⟨t,rfl⟩:=r;cases (show T = "str" from ty);exact⟨typeIs_str s z t,fun _ e=>nomatch e⟩
 |int i=>obtain⟨t,rfl⟩:=r;cases (show T = "int" from ty);exact⟨typeIs_int s i t,fun _ e=>nomatch e⟩
 |ref p=>
  cases r;rcases ty with⟨rfl,xs,hq⟩ | ⟨rfl,o,hk,hc,hd⟩ | ⟨rfl,hk⟩ | ⟨rfl,S,n,hk⟩
  ·obtain⟨its,_,pl,_⟩:=I.list hq;refine⟨pl.isList.typeIs,fun a e=>?_⟩;cases e;obtain⟨o,n,e,c,hd,_⟩:=pl;exact⟨o,e,hd⟩
  ·refine⟨⟨o,I.kIn p o hk,hc⟩,fun a e=>?_⟩;cases e;exact⟨o,I.kIn _ o hk,hd⟩
  ·have z:∃o,s.heap.get? p=some o/\o.ExactDict:=by
    rcases hk with⟨kvs,hk⟩ | ⟨kvs,ts,hk⟩
    ·obtain⟨_,_,_,_,o,_,_,e,ex,_⟩:=I.hok p _ hk;exact⟨o,e,ex⟩
    ·obtain⟨_,_,_,_,o,_,_,e,ex,_⟩:=I.hok p _ hk;exact⟨o,e,ex⟩
   obtain⟨o,e,ex⟩:=z;refine⟨⟨o,e,ex.1⟩,fun a e2=>?_⟩;cases e2;exact⟨o,e,ex.2.1⟩
  ·obtain⟨o,_,_,_,e,ex,_⟩:=I.hok p _ hk;refine⟨⟨o,e,ex.1⟩,fun a e2=>?_⟩;cases e2;exact⟨o,e,ex.2.1⟩
 |_=>exact Mr ty
def FW(K:gc)(T:String)(r:V->List V->Hp->VK->Prop)(to:TE):TE:=fun σ H Q=>to σ H fun x H1=>tyV K T x H1/\r x [] H1 Q
def tBM(K:gc)(T:String)(r:V->List V->Hp->VK->Prop)(to:TE)(t:TA):TE:=fun σ H Q=>to σ H fun x H1=>tyV K T x H1/\t σ H1 fun xs H2=>r x xs H2 Q
variable{o e:Expr}{es:List Expr}{to:TE}{t:TA}{name:Str}{Q8 cpos:Pos}{T id:String}{r:V->List V->Hp->VK->Prop}
theorem FY(pa:PlainAttrs T)(slot:Slot T name id)(hty:typeOf (.builtin id)=pure (.type "method_descriptor"))(hm:MtR X id r)(ho:PE X o to)
  (Q5:attributeBase o name X.env (eval o X.env)=eval o X.env:=by rfl) (LL:(Q8.endLine == cpos.line)=true:=by rfl):PE X (.Call (.Attribute o name Q8) [] [] cpos) (FW X.K T r to):=by
 intro mU s σ H Q I h;refine wpAny_Call_method0_late Q5 LL (thn (ho mU s σ H _ I h) fun v s1 ⟨x,H1,I1,r1,ty,q1⟩=>?_);obtain⟨h1,h2⟩:=yY I1 r1 ty;exact⟨T,id,pa,slot,hty,h1,h2,Calls.callWith_builtin rfl (PySem.evalArgs_none (hm mU s1 σ H1 x [] v [] Q I1 r1 .nil q1))⟩
theorem Ip(pa:PlainAttrs T)(slot:Slot T name id)(hty:typeOf (.builtin id)=pure (.type "method_descriptor"))(hm:MtR X id r)(ho:PE X o to)(ha:PA X (e::es) t)
  (Q5:attributeBase o name X.env (eval o X.env)=eval o X.env:=by rfl)
  (hfew:((backTo cpos (starEach (e::es) X.env)).all (fun x=>!x.1)&&(backToKw cpos (keywordEach [] X.env)).all (fun x=>x.1.isSome)
   && decide ((e::es).length+([]:List Keyword).length+(if ([]:List Keyword).isEmpty then 0 else 1)<30))=true:=by rfl)
  (LL:(Q8.endLine == cpos.line)=true:=by rfl) (hs:starEach (e::es) X.env=(false,eval e X.env)::starEach es X.env:=by rfl) (hplain:(backTo cpos (starEach es X.env)).any (·.1)=false:=by rfl) :
  PE X (.Call (.Attribute o name Q8) (e::es) [] cpos) (tBM X.K T r to t):=by
 intro mU s σ H Q I h;refine wpAny_Call_method_late Q5 hfew LL rfl (thn (ho mU s σ H _ I h) fun v s1 ⟨x,H1,I1,r1,ty,q1⟩=>?_);obtain⟨h1,h2⟩:=yY I1 r1 ty;refine⟨T,id,pa,slot,hty,h1,h2,?_⟩;have hA:=ha cpos mU s1 σ H1 _ I1 q1;rw[hs]at hA ⊢;refine Calls.callWith_builtin (by show (false||(backTo cpos (starEach es X.env)).any (·.1))=false;rw[hplain]<;>rfl) (Calls.evalArgs_plain ?_);exact thn hA fun us s2 ⟨vs,H2,I2,r2,q2⟩=>hm mU s2 σ H2 x vs v us Q I2 r1 r2 q2
end
end
def MtM(X:Cx)(id:String)(r:V->List V->Hp->VK->Prop):Prop:=
 ∀(mU:List (Addr×Obj)) (s:Shared) (σ:St) (H:Hp) (x:V) (xs:List V) (v:Value) (us:List Value) (Q:VK),Inv X mU σ H s->RelV x v->Vals xs us->r x xs H Q ->
  wpAny (model X.prog X.w) X.A (call (.builtin id) (v::us)) (EP X mU σ Q) X.xe s
theorem Vals.one:∀{x:V} {us:List Value},Vals [x] us->∃u,us=[u]/\RelV x u
 |_,_,.cons r .nil=>⟨_,rfl,r⟩
theorem Vals.zero:∀{us:List Value},Vals [] us->us=[]
 |_,.nil=>rfl
theorem Vals.rep{xs:List V}{us:List Value}(h:Vals xs us):∀k:Nat,Vals (gV k xs).flatten (gV k us).flatten
 |0=>.nil
 |k+1=>by rw[MT,MT,Nb,Nb];exact Vals.append h (Vals.rep h k)
theorem foldl_rep(its:List Value):∀(k:Nat) (EA:List Value),
  OT (fun x1 x2=>x1++x2) EA.toArray (gV k its.toArray)=(EA++(gV k its).flatten).toArray
 |0,EA=>by simp
 |k+1,EA=>by
  have e:EA.toArray++its.toArray=(EA++its).toArray:=by simp
  have e2:(EA++its)++(gV k its).flatten=EA++(gV (k+1) its).flatten:=by rw[MT,Nb,Om]
  rw[<- e2,<- foldl_rep its k (EA++its),<- e,MT,List.foldl_cons]
section
variable{X:Cx}{mU:List (Addr×Obj)}{σ:St}{H:Hp}{s:Shared}{l b:Addr}{xs ys zs:List V}
theorem Inv.Iq{its its':List Value}{n:Nat}{f:Array Value->Array Value}{t':Nat}(I:Inv X mU σ H s)(hH:H l=some (.lst xs))
  (e:s.heap.get? l=some { cls:=.type "list",data:=.seq its.toArray n }) (hf:f its.toArray=its'.toArray) (hv:Vals ys its') (hz:ys.length<=sizeLine) :
  Inv X mU σ (upd H l (.lst ys)) { s with heap:=s.heap.update l (NO f),toks:=t' }:=by
 have q:=PySem.IsL.update e f;rw[hf]at q;refine I.write (x:=l) (e:=l) (by rw[hH];exact trivial) (.inl rfl) (fun b' u hb hu=>(Ng s.heap (NO f) (MJ hb)).trans hu) ⟨_,q⟩ ?_;exact⟨hz,its',_,hv,q⟩
theorem Inv.FZ{its:List Value}{t':Nat}(I:Inv X mU σ H s)(hv:Vals ys its)(hz:ys.length<=sizeLine) :
  Inv X mU σ (upd H s.heap.objs.size (.lst ys)) { s with heap:=s.heap.push { cls:=.type "list",data:=.seq its.toArray },toks:=t' }:=
 I.laid (fun _ _ q=>Mf _ q) (Mj _) ⟨hz,its,0,hv,MG _ rfl⟩
theorem Inv.fresh(I:Inv X mU σ H s):H s.heap.objs.size=none:=I.hok.fresh (Mj _)
theorem Inv.Ir(I:Inv X mU σ H s)(hH:H l=some (.lst xs)):xs.length<=sizeLine/\∃(its:List Value) (n:Nat),Vals xs its/\xs.length=its.length/\s.heap.get? l=some { cls:=.type "list",data:=.seq its.toArray n }:=by obtain⟨z,its,n,r,e⟩:=I.hok l _ hH;exact⟨z,its,n,r,r.length,e⟩
theorem yZ{n:Nat}(h:n<=sizeLine):NI n=false:=by unfold NI;exact decide_eq_false (by lia)
end
section
variable{X:Cx}
def wj:V->List V->Hp->VK->Prop:=fun x vs H Q=>∃l xs y,x=.ref l/\vs=[y]/\H l=some (.lst xs)/\xs.length<sizeLine/\Q .non (upd H l (.lst (xs++[y])))
theorem pA:MtM X "list.append" wj:=by
 intro mU s σ H x vs v us Q I rx rv h;obtain⟨l,xs,y,rfl,rfl,hH,hz,q⟩:=h;cases rx;obtain⟨u,rfl,ru⟩:=rv.one;obtain⟨z,its,n,r,hl,e⟩:=I.Ir hH;refine call_meets F.slot_list_append ⟨_,e,rfl⟩ F.entry_list_append (F.args_list_append_2 _ _) (PySem.list_append l its.toArray n u (by rw[Mm];lia)) ⟨e,?_⟩;refine⟨.non,_,I.Iq (its':=its++[u]) hH e (by simp) (r.append (.cons ru .nil)) ?_,rfl,q⟩;rw[Mt,M1]
 lia
def uW:V->List V->Hp->VK->Prop:=fun x vs H Q=>∃l xs,x=.ref l/\vs=[]/\H l=some (.lst xs)/\Q .non (upd H l (.lst []))
theorem y9:MtM X "list.clear" uW:=by intro mU s σ H x vs v us Q I rx rv h;obtain⟨l,xs,rfl,rfl,hH,q⟩:=h;cases rx;have hus:=rv.zero;subst hus;obtain⟨z,its,n,r,hl,e⟩:=I.Ir hH;refine call_meets F.slot_list_clear ⟨_,e,rfl⟩ F.entry_list_clear (F.args_list_clear_1 _) (AutoSeq1.list_clear_list_0 l its.toArray n (by rw[Mm];lia)) ⟨e,?_⟩;exact⟨.non,_,I.Iq (its':=[]) (ys:=[]) hH e rfl .nil (MW _),rfl,q⟩
theorem len_rep{α:Type}(xs:List α)(k:Nat):(gV k xs).flatten.length=k*xs.length:=by
 induction k with
 |zero=>simp
 |succ k ih=>rw[MT,Nb,Mt,ih,Nat.succ_mul,Nat.add_comm]
end
end L2
namespace Att
open PySem PySem.W PySem.Calls PyProof.Rows
theorem lA{P:Params}{h:Heap}:∀(ns:List Int) (vs:List Value),WellAll P h vs (ns.map WData.int)->IntsAre vs ns:=by
 intro ns
 induction ns with
 |nil=>intro vs w;rw[List.map_nil]at w;cases w;exact .nil
 |cons n ns ih=>
  intro vs w;rw[MI]at w;cases w with
  |cons a b=>cases a;exact .cons _ _ (ih _ b)
theorem xO{l:OpenLaw}{n:Nat}(hn:l.most=some n){P:Params}{h:Heap}{args:List WData}{vals:List Value}
  (hpre:l.row.toRowW.claim.pre args=true) (hwl:WellAll P h vals args) :
  ∃a vs ns,vals=[MP a]/\args=[WData.list (ns.map WData.int)]/\h.get? a=some { cls:=.type "list",data:=.seq vs.toArray }/\IntsAre vs ns/\ns.length<=n:=by
 have hsh:WShape.hasAll [] args [.list .int]=true:=(pre_splitW hpre).1;have hc:l.pre.holds [] { args:=args }=true:=(pre_splitW hpre).2;obtain⟨d,r,rfl,h1,h2⟩:=hasAllW_cons hsh;obtain rfl:=hasAllW_nil h2;obtain⟨xs,rfl,h3⟩:=hasW_list h1;obtain⟨ns,rfl⟩:=items_int h3;have yi:ns.length<=n:=by
  unfold OpenLaw.pre at hc;have h4:(WTm.not (.lt (.lit (.int (n:Int))) (.len (.arg 0)))).holds [] { args:=[.list (ns.map .int)] }=true:=by have h4:=(holds_andW hc).1;rw[hn]at h4;exact h4
  have h5:=condW_of h4 (w_not (w_lt w_lit (w_len_list (w_arg rfl))));rw[Mg]at h5;refine Nat.le_of_not_lt fun q=>?_;have q':(n:Int)<((ns.length:Nat):Int):=by omega
  first
   |(rw[decide_eq_true q']at h5;exact absurd h5 (by decide))
   |(simp at h5;omega)
 cases hwl with
 |cons w1 w2=>
  cases w2;cases w1 with
  |list ho hall=>exact⟨_,_,ns,rfl,rfl,ho,lA ns _ hall,yi⟩
theorem xP(l:OpenLaw)(args:List WData):l.row.toRowW.claim.post args (.bool true) args=true:=
 postW_of (r:=l.row.toRowW) (X:=(true == true))
  (show WShape.has [] (.bool true) .bool=true by first | rfl | decide | simp[WShape.has,WShape.arms,WShape.armsAll])
  (show (WTm.eq .res (.lit (.bool true))).value [] { args:=args,res:=some (.bool true),after:=args }=some (.bool (true == true)) from w_eq_bool (w_res rfl) w_lit) rfl
theorem r9{l:OpenLaw}{n:Nat}{q:Program}{loose:List Str}{XP:(Str->Option Value)->Heap->Prop}{YP:World->Heap->Prop}{d:DefRec}
  (hn:l.most=some n) (hdf:d.params.defaults=[])
  (call:∀ (w:World) (s₀ s₁:Shared) (mg mb:Str→Option Value) (fa:Addr) (o:Obj) (pm cd doc:Value) (a:Addr) (vs:List Value) (ns:List Int),
   Ground q loose [] XP w s₀ mg mb s₁.heap->YP w s₁.heap ->
   s₁.heap.get? fa=some o->o.data=.func (docDef d.name d.params d.body d.scope pm cd doc)->s₁.heap.CodeRec cd d.name->mg d.name=some (.ref fa) ->
   s₁.heap.get? a=some { cls:=.type "list",data:=.seq vs.toArray }->IntsAre vs ns->ns.length<=n->s₁.gens=#[] ->
   codeAny (model l.prog w) callerA (.call (.ref fa) ⟨[.ref a],[]⟩) (fun r s'=>r=.ok (.ret (.bool true))/\OldK s₁.heap s'.heap/\s'.os=s₁.os/\AllBare s'.gens) s₁) :
  WalkO q loose XP YP l.row.toRowW d [] (fun f vs=>PySem.call f vs):=by
 intro w s₀ s₁ mg mb G Y fa o pm cd doc dV kV ho hd JL hD hmg hg args vals as hpre hlay hrd hwl hlo;obtain rfl:dV=.none:=Dflts.none hD hdf;obtain rfl:kV=.none:=Dflts.noKw hD;obtain⟨a,vs,ns,rfl,rfl,hobj,hints,yi⟩:=xO hn hpre hwl;refine enter_call (codeAny_mono (call w s₀ s₁ mg mb fa o pm cd doc a vs ns G Y ho (fd_plain hd) JL hmg hobj hints yi hg) fun r s' hq=>?_);obtain⟨rfl,h2,h3,h4⟩:=hq;exact⟨.inl ⟨.bool true,.bool true,[],rfl,fun _=>rfl,.bool true,xP l _,fun _=>⟨List.Pairwise.nil,fun _ hm=>(nomatch hm)⟩⟩,h2,h3,h4⟩
end Att
namespace L2
open PySem PySem.Spec PyProof.Rows
theorem pB:∀{vs:List Value} {ns:List Int},IntsAre vs ns->Vals (ns.map V.int) vs
 |_,_,.nil=>.nil
 |_,_,.cons n t h=>.cons ⟨t,rfl⟩ (pB h)
def F0(H:Hp):Prop:=∀b,H b=none\/∃o xs,H b=some (.frz o (.lst xs))
theorem y_{P:Program}{w:World}{K:gc}{mg mb:Str->Option Value}{CX:CXT}{k:Nat}{fa a:Addr}{fd:FuncData}{x:Str}{sp:Sp}{s₁:Shared}{vs:List Value}{ns:List Int}
  (KX:K.In s₁.heap) (hns:s₁.heap.Ns mainGlobals mg) (hb:s₁.heap.Ns builtinsNs mb) (hbb:∀x:Str,x ≠ "__name__" -> mb x=bootBuiltins x) (hlim:s₁.heap.NoLimit) (hg:s₁.gens=#[])
  (ha:s₁.heap.get? a=some { cls:=.type "list",data:=.seq vs.toArray }) (hi:IntsAre vs ns) (hl:ns.length<=sizeLine) (hr:bM k callerA)
  (F:∀base:Heap,K.In base->base.Ns mainGlobals mg->aP P w K mg base CX k fa fd [x] sp) (hbind:∀(s:Shared) (u:Value),BindsTo s fd ⟨[u],[]⟩ [(x,u)])
  (hsp:∀H:Hp,F0 H->SqL K H a (ns.map V.int)->sp [.ref a] H (fun v _=>v=.bl true) fun _ _ _=>False)
  (hCX:∀H e s',CX [] H s₁ (fun _ _ _=>False) e s'->False) :
  codeAny (model P w) callerA (.call (.ref fa) ⟨[.ref a],[]⟩) (fun r s'=>r=.ok (.ret (.bool true))/\OldK s₁.heap s'.heap/\s'.os=s₁.os/\AllBare s'.gens) s₁:=by
 have rv:=pB hi;have K_:=hi.length;have core:∀H:Hp,F0 H->SqL K H a (ns.map V.int)->HOk P w H s₁.heap->(∀b,H b≠none->b=a)->(H a≠none->K.lookup a=none) ->
   codeAny (model P w) callerA (.call (.ref fa) ⟨[.ref a],[]⟩) (fun r s'=>r=.ok (.ret (.bool true))/\OldK s₁.heap s'.heap/\s'.os=s₁.os/\AllBare s'.gens) s₁:=by
  intro H hO hS hok hA hK;have wk:∀{b:Addr} {o:Obj},s₁.heap.get? b=some o->H b=none->(qj s₁.heap H).get? b=some o:=fun e n=>yG e n;have noA:∀{b:Addr} {o:Obj} {es:Array DictEntry} {ep:Nat},s₁.heap.get? b=some o->o.data=.dict es ep->H b=none:=fun {b o es ep} e d=>by
   cases q:H b with
   |none=>rfl
   |some u=>have e':b=a:=hA b (by rw[q];simp);subst e';rw[ha]at e;cases e;have d':Data.seq vs.toArray _=Data.dict es ep:=d;cases d'
  have nsK:∀{b:Addr} {m:Str->Option Value},s₁.heap.Ns b m->(qj s₁.heap H).Ns b m:=fun {b m} ⟨o,es,ep,e,d,r⟩=>⟨o,es,ep,wk e (noA e d),d,r⟩;have hKb:K.In (qj s₁.heap H):=fun b o e=>wk (KX b o e) (by
   cases q:H b with
   |none=>rfl
   |some u=>have e':b=a:=hA b (by rw[q];simp);subst e';rw[hK (by rw[q];simp)]at e;cases e)
  have hM:Mod K mg (qj s₁.heap H):=⟨hKb,nsK hns,⟨mb,nsK hb,hbb⟩,let ⟨mc,h1,h2⟩:=hlim;⟨mc,nsK h1,h2⟩⟩
  have e0:rY P w K mg (qj s₁.heap H) callerA [] s₁ H:=⟨rfl,hM,fun b o e=>Cc e,Nat.le_of_eq (xy _ _),trivial,fun b hb=>absurd (show b∈([]:List Addr) from hb) (by simp),hok,.of_eq hg⟩
  refine codeAny_mono ((F _ hKb (nsK hns)).run callerA [] s₁ H ⟨[.ref a],[]⟩ [.ref a] [.ref a] _ _ hr e0 (hbind s₁ (.ref a)) (.cons rfl .nil) (hsp H hO hS)) fun r s' h=>?_;cases r with
  |error e=>exact(hCX H e s' h).elim
  |ok fl=>
   cases fl with
   |next=>exact Mr h
   |brk=>exact Mr h
   |cont=>exact Mr h
   |ret u=>
    obtain⟨v,H',os,bare,un,La,r',q⟩:=h;have q':v=.bl true:=q;subst q';obtain rfl:u=OS true:=r';refine⟨rfl,OldK.of_keep fun b o e=>?_,os,bare⟩;cases q:H b with
    |none=>exact un.keep b o e q (by intro z;exact absurd (show b∈([]:List Addr) from z) (by simp)) (by simp)
    |some u=>
     rcases hO b with z | ⟨ob,xs,z⟩
     ·rw[q]at z;cases z
     ·have z2:=un.jF b ob _ z;obtain⟨e1,_⟩:=hok b _ z;obtain⟨e2,_⟩:=La b _ z2;rw[e]at e1;cases e1;exact e2
 cases hk:K.lookup a with
 |some o=>have e:=KX a o hk;rw[ha]at e;cases e;refine core (fun _=>none) (fun _=>.inl rfl) (.inr ⟨_,vs.toArray,_,hk,rfl,rfl,rfl,by rw[Mm,K_];exact hl,by simpa using rv⟩) (fun b u z=>by have z':(none:Option HO)=some u:=z;cases z') (fun b z=>absurd rfl z) fun z=>absurd rfl z
 |none=>
  refine core (fun b=>if b=a then some (.frz { cls:=.type "list",data:=.seq vs.toArray } (.lst (ns.map V.int))) else none) (fun b=>?_) (.inl (.inr ⟨{ cls:=.type "list",data:=.seq vs.toArray },if_pos rfl⟩)) (fun b u z=>?_) (fun b z=>?_) fun _=>hk
  ·by_cases hb:b=a
   ·exact .inr ⟨_,_,if_pos hb⟩
   ·exact .inl (if_neg hb)
  ·by_cases hb:b=a
   ·have z':=(if_pos hb).symm.trans z;cases z';subst hb;exact⟨ha,by rw[Mg];exact hl,vs,_,rv,ha⟩
   ·have z':=(if_neg hb).symm.trans z;cases z'
  ·by_cases hb:b=a
   ·exact hb
   ·exact absurd (if_neg hb) z
theorem Cp{l:Ox}{n k:Nat}{q:Program}{loose:List Str}{XP:(Str->Option Value)->Heap->Prop}{YP:World->Heap->Prop}{d:DefRec}{K:Params->gc}{CX:World->CXT}{sp:World->Sp}{x:Str}
  (hn:l.most=some n) (hn2:n<=sizeLine) (hdf:d.params.defaults=[]) (hr:bM k callerA)
  (hY:∀(w:World) (h:Heap),YP w h->(K w.params).In h)
  (F:∀ (w:World) (mg:Str→Option Value) (fa:Addr) (h:Heap),(K w.params).In h→h.Ns mainGlobals mg→mg d.name=some (.ref fa) →
   ∃fd:FuncData,(∀(s:Shared) (u:Value),BindsTo s fd ⟨[u],[]⟩ [(x,u)]) /\
    ∀base:Heap,(K w.params).In base->base.Ns mainGlobals mg->aP l.prog w (K w.params) mg base (CX w) k fa fd [x] (sp w))
  (hsp:∀(w:World) (H:Hp) (a:Addr) (ns:List Int),ns.length<=n->F0 H->SqL (K w.params) H a (ns.map V.int)->sp w [.ref a] H (fun v _=>v=.bl true) fun _ _ _=>False)
  (hCX:∀(w:World) (H:Hp) (s:Shared) (e:Value) (s':Shared),CX w [] H s (fun _ _ _=>False) e s'->False) :
  PySem.W.WalkO q loose XP YP l.row.toRowW d [] (fun f vs=>PySem.call f vs):=by
 refine Att.r9 hn hdf fun w s₀ s₁ mg mb fa o pm cd doc a vs ns G Y ho hd JL hmg hobj hints yi hg=>?_;have KX:=hY w _ Y;obtain⟨fd,hb,hF⟩:=F w mg fa _ KX G.T.g hmg;exact y_ KX G.T.g G.T.b G.T.builtins G.T.nolimit hg hobj hints (MQ yi hn2) hr hF hb (fun H hO hS=>hsp w H a ns yi hO hS) fun H e s'=>hCX w H s₁ e s'
noncomputable def bO(s:Stmt):Arguments:=match s with
 |.FunctionDef _ a _ _ _ _ _ _ _ _=>a
 |_=>{ posonlyargs:=[],args:=[],vararg:=none,kwonlyargs:=[],kw_defaults:=[],kwarg:=none,defaults:=[] }
noncomputable def bh(s:Stmt):List Stmt:=match s with
 |.FunctionDef _ _ b _ _ _ _ _ _ _=>b
 |_=>[]
noncomputable def ai(s:Stmt):Scope:=match s with
 |.FunctionDef _ _ _ _ _ _ sc _ _ _=>sc
 |_=>{ kind:=.function,names:=[],isGenerator:=false,isCoroutine:=false }
noncomputable abbrev CX0:CXT:=fun _ _ _ _ _ _=>False
noncomputable abbrev E0:XK:=fun _ _ _=>False
theorem r_{X:Cx}:Passes CX0 X E0:=fun _ _ _ _ _ _ _ h=>h.elim
structure Fun(K:gc)(x qual:Str)(st:Stmt)(f:Addr)(fd:FuncData):Prop where
 ex:∃(oc:Value) (od:Option Addr) (kV doc pm:Value) (an:Option Addr) (cdv ct:Value) (osl:Array (Option Value)),
  fd=MK x qual (bO st) (bh st) (ai st) .none kV doc pm an cdv ct/\K.lookup f=some ⟨oc,od,.func fd,osl⟩/\NL K cdv qual=true
 kp:MZ K (.ref f)=true
section
variable{P:Program}{w:World}{K:gc}{mg:Str->Option Value}{base:Heap}
section
variable{x qual:Str}{st:Stmt}{fd:FuncData}{f:Addr}
theorem Fun.ok{N ps:List Str}{k:Nat}{sp:Sp}(F:Fun K x qual st f fd)(S:ay N ps (ai st))(len:∀vs H Q E,sp vs H Q E->vs.length=ps.length)
  (hbody:∀ (cdv:Value) (A:Around) (outer:List Env) (s:Shared) (H:Hp) (vs:List V) (Q:VK) (E:XK),bM k (A.deeper (envOfC qual (ai st) s.heap.objs.size f cdv))→sp vs H Q E →
   ∃t,PSs (fK CX0 P w K mg base N qual (ai st) f cdv A outer s H E).nox (bh st) t/\t { nx:=fun _ H'=>Q .non H',rt:=Q } (start N vs) H):aP P w K mg base CX0 (k+1) f fd ps sp:=by
 obtain⟨oc,od,kV,doc,pm,an,cdv,ct,osl,rfl,lk,JL⟩:=F.ex;refine Ec lk JL S len fun A outer s H vs Q E hr hsp=>?_;obtain⟨t,h,q⟩:=hbody cdv A outer s H vs Q E hr hsp;exact⟨t,h.nox,q⟩
theorem Fun.binds{ps:List Str}(F:Fun K x qual st f fd)
  (h:∀(kV doc pm:Value) (an:Option Addr) (cdv ct:Value) (us:List Value),us.length=ps.length->bindArgs (MK x qual (bO st) (bh st) (ai st) .none kV doc pm an cdv ct) ⟨us,[]⟩=pure (ps.zip us)):Binds K fd ps []:=by
 obtain⟨oc,od,kV,doc,pm,an,cdv,ct,osl,rfl,lk,JL⟩:=F.ex;exact .all (h kV doc pm an cdv ct)
theorem F1{oc:Value}{od an:Option Addr}{osl:Array (Option Value)}{kV doc pm cdv ct:Value}(l:K.lookup f=some ⟨oc,od,.func (MK x qual (bO st) (bh st) (ai st) .none kV doc pm an cdv ct),osl⟩)
  (c:NL K cdv qual=true) (k:MZ K (.ref f)=true):Fun K x qual st f (MK x qual (bO st) (bh st) (ai st) .none kV doc pm an cdv ct):=⟨⟨oc,od,kV,doc,pm,an,cdv,ct,osl,rfl,l,c⟩,k⟩
end
end
theorem pC{n:Nat}(h:n<=1000):n<sizeLine:=Nat.lt_of_le_of_lt h (by decide)
def aq(H H':Hp):Prop:=∀b o,H b=some o->H' b=some o
theorem aq.refl(H:Hp):aq H H:=fun _ _ h=>h
theorem aq.trans{H H1 H2:Hp}(a:aq H H1)(b:aq H1 H2):aq H H2:=fun c o h=>b c o (a c o h)
theorem aq.free{H H':Hp}(e:aq H H'){l:Addr}(h:H' l=Option.none):H l=Option.none:=by
 cases q:H l with
 |none=>rfl
 |some o=>rw[e l o q]at h;cases h
section
variable{X:Cx}{mU:List (Addr×Obj)}{σ:St}{H:Hp}{s:Shared}{a:Addr}{y v:V}{u r:Value}{o:Option V}{A:Around}{E:Value->Shared->Prop}
theorem Inv.big(I:Inv X mU σ H s):sysModules<s.heap.objs.size:=by have h:mainGlobals<s.heap.objs.size:=(I.mod.glob.keeps I.bk).lt;exact Nat.lt_trans (by decide) h
end
theorem za{P:Program}{w:World}{H:Hp}(h:Heap)(hb:sysModules<h.objs.size):bH P w H (h.push { cls:=.type "dict",data:=.dict #[] }) h.objs.size (.dK []):=
 ⟨MW _,beq_eq_false_iff_ne.mpr (MJ (MC hb)),[],.nil,Heap.DictOf.new h⟩
def zb:TE:=fun _ H Q=>∀p,H p=none->Q (.ref p) (upd H p (.dK []))
section
variable{X:Cx}{pos:Pos}
theorem zc:PE X (.Dict [] [] pos) zb:=fun mU s σ H Q I h=>wpAny_Dict_empty ⟨.ref s.heap.objs.size,_,I.laid (a:=s.heap.objs.size) (o:=.dK []) (t':=s.toks) (fun _ _ q=>Mf _ q) (Mj _) (za s.heap I.big),rfl,h _ (I.hok.fresh (Mj _))⟩
end
end L2
namespace Dm
inductive Dat where
 |non
 |bl (b:Bool)
 |int (i:Int)
 |str (s:List Nat)
 |tup (xs:List Dat)
 |lst (xs:List Dat)
 |dct (ks:List Int) (vs:List Dat)
 |dcp (ks:List (Int×Int)) (vs:List Dat)
 |exc (C:Nat)
 |di (C:Nat) (v:Int)
 |fn (a:Nat)
deriving Inhabited
inductive Cell where
 |un
 |sh (d:Dat)
 |ow (d:Dat)
deriving Inhabited
noncomputable abbrev Env:=List Cell
inductive Val where
 |val (d:Dat)
 |slot (i:Nat)
 |new (d:Dat)
inductive RV where
 |val (d:Dat)
 |new (d:Dat)
noncomputable def RV.dat:RV->Dat
 |.val d=>d
 |.new d=>d
noncomputable def RV.bW:RV->Val
 |.val d=>.val d
 |.new d=>.new d
noncomputable def SZ:Nat:=100000
noncomputable def fL:Dat->Bool
 |.tup _=>true
 |.lst _=>true
 |.dct _ _=>true
 |.dcp _ _=>true
 |.exc _=>true
 |.di _ _=>true
 |_=>false
noncomputable def pk(ρ:Env):Val->Option Dat
 |.val d=>some d
 |.new d=>some d
 |.slot i=>match ρ[i]? with
  |some (.ow d)=>some d
  |some (.sh d)=>some d
  |_=>none
noncomputable def tk(ρ:Env):Val->Option (Dat×Env)
 |.val d=>some (d,ρ)
 |.new d=>some (d,ρ)
 |.slot i=>match ρ[i]? with
  |some (.ow d)=>some (d,ρ.set i (.sh d))
  |some (.sh d)=>some (d,ρ)
  |_=>none
noncomputable def pks(ρ:Env):List Val->Option (List Dat)
 |[]=>some []
 |x::r=>match pk ρ x with
  |none=>none
  |some d=>match pks ρ r with
   |none=>none
   |some ds=>some (d::ds)
noncomputable def tks(ρ:Env):List Val->Option (List Dat×Env)
 |[]=>some ([],ρ)
 |x::r=>match tk ρ x with
  |none=>none
  |some (d,ρ1)=>match tks ρ1 r with
   |none=>none
   |some (ds,ρ2)=>some (d::ds,ρ2)
noncomputable abbrev FE:=Env->Option (Val×Env)
noncomputable abbrev FT:=Env->Option (Bool×Env)
noncomputable def eC(d:Dat):FE:=fun ρ=>some (.val d,ρ)
noncomputable def eV(i:Nat):FE:=fun ρ=>match ρ[i]? with
 |some (.sh d)=>some (.val d,ρ)
 |some (.ow _)=>some (.slot i,ρ)
 |_=>none
noncomputable def e1(g:Dat->Option RV)(a:FE):FE:=fun ρ=>match a ρ with
 |none=>none
 |some (x,ρ1)=>match pk ρ1 x with
  |none=>none
  |some d=>match g d with
   |none=>none
   |some v=>some (v.bW,ρ1)
noncomputable def e2(g:Dat->Dat->Option RV)(a b:FE):FE:=fun ρ=>match a ρ with
 |none=>none
 |some (x,ρ1)=>match b ρ1 with
  |none=>none
  |some (y,ρ2)=>match pk ρ2 x with
   |none=>none
   |some d=>match pk ρ2 y with
    |none=>none
    |some e=>match g d e with
     |none=>none
     |some v=>some (v.bW,ρ2)
noncomputable def eAs:List FE->Env->Option (List Val×Env)
 |[],ρ=>some ([],ρ)
 |a::r,ρ=>match a ρ with
  |none=>none
  |some (x,ρ1)=>match eAs r ρ1 with
   |none=>none
   |some (xs,ρ2)=>some (x::xs,ρ2)
noncomputable def eB(g:List Dat->Option RV)(as:List FE):FE:=fun ρ=>match eAs as ρ with
 |none=>none
 |some (xs,ρ1)=>match pks ρ1 xs with
  |none=>none
  |some ds=>match g ds with
   |none=>none
   |some v=>some (v.bW,ρ1)
noncomputable def bq(as:List FE):FE:=fun ρ=>match eAs as ρ with
 |none=>none
 |some (xs,ρ1)=>match tks ρ1 xs with
  |none=>none
  |some (ds,ρ2)=>if ds.length<=SZ then some (.val (.tup ds),ρ2) else none
noncomputable def bf(as:List FE):FE:=fun ρ=>match eAs as ρ with
 |none=>none
 |some (xs,ρ1)=>match tks ρ1 xs with
  |none=>none
  |some (ds,ρ2)=>if ds.length<=SZ then some (.new (.lst ds),ρ2) else none
noncomputable def eF(f:List Dat->Option RV)(as:List FE):FE:=fun ρ=>match eAs as ρ with
 |none=>none
 |some (xs,ρ1)=>match pks ρ1 xs with
  |none=>none
  |some ds=>match f ds with
   |none=>none
   | some v=>if fL v.dat then (match tks ρ1 xs with
     |none=>none
     |some (_,ρ2)=>some (v.bW,ρ2)) else some (v.bW,ρ1)
noncomputable def eIf(t:FT)(a b:FE):FE:=fun ρ=>match t ρ with
 |none=>none
 |some (true,ρ1)=>a ρ1
 |some (false,ρ1)=>b ρ1
noncomputable def l8(a b:FE):FE:=fun ρ=>match a ρ with
 |some (.val (.bl true),ρ1)=>b ρ1
 |some (.val (.bl false),ρ1)=>some (.val (.bl false),ρ1)
 |_=>none
noncomputable def Cq(a:FE):FE:=fun ρ=>match a ρ with
 |some (.val (.bl c),ρ1)=>some (.val (.bl (!c)),ρ1)
 |_=>none
noncomputable def tV(a:FE):FT:=fun ρ=>match a ρ with
 |some (.val (.bl c),ρ1)=>some (c,ρ1)
 |_=>none
noncomputable def dh(t:FT):FT:=fun ρ=>match t ρ with
 |some (c,ρ1)=>some (!c,ρ1)
 |none=>none
noncomputable def lW(t u:FT):FT:=fun ρ=>match t ρ with
 |some (true,ρ1)=>u ρ1
 |some (false,ρ1)=>some (false,ρ1)
 |none=>none
noncomputable def tOr(t u:FT):FT:=fun ρ=>match t ρ with
 |some (true,ρ1)=>some (true,ρ1)
 |some (false,ρ1)=>u ρ1
 |none=>none
noncomputable def truth:Dat->Option Bool
 |.non=>some false
 |.bl b=>some b
 |.int i=>some (i != 0)
 |.tup xs=>some (!xs.isEmpty)
 |.lst xs=>some (!xs.isEmpty)
 |_=>none
noncomputable def tTr(a:FE):FT:=fun ρ=>match a ρ with
 |none=>none
 |some (x,ρ1)=>match pk ρ1 x with
  |none=>none
  |some d=>match truth d with
   |none=>none
   |some c=>some (c,ρ1)
noncomputable def gD:FT:=fun ρ=>some (true,ρ)
noncomputable abbrev FI:=Env->Option (List Dat×Env)
noncomputable def iL(a:FE):FI:=fun ρ=>match a ρ with
 |none=>none
 |some (x,ρ1)=>match tk ρ1 x with
  |some (.lst ds,ρ2)=>some (ds,ρ2)
  |_=>none
noncomputable def iT(a:FE):FI:=fun ρ=>match a ρ with
 |none=>none
 |some (x,ρ1)=>match tk ρ1 x with
  |some (.tup ds,ρ2)=>some (ds,ρ2)
  |_=>none
noncomputable def iS(a:FE):FI:=fun ρ=>match a ρ with
 |none=>none
 |some (x,ρ1)=>match tk ρ1 x with
  |some (.lst ds,ρ2)=>some (ds,ρ2)
  |some (.tup ds,ρ2)=>some (ds,ρ2)
  |_=>none
noncomputable def ups(lo:Int)(n:Nat):List Dat:=(Ml n).map fun i=>Dat.int (lo+(i:Nat))
noncomputable def downs(hi:Int)(n:Nat):List Dat:=(Ml n).map fun i=>Dat.int (hi-(i:Nat))
noncomputable def BIG:Int:=1000000000
noncomputable def iR1(a:FE):FI:=fun ρ=>match a ρ with
 |some (.val (.int j),ρ1)=>if j<=BIG/\-BIG<=j then some (ups 0 j.toNat,ρ1) else none
 |_=>none
noncomputable def iR2(a b:FE):FI:=fun ρ=>match a ρ with
 | some (.val (.int i),ρ1)=>(match b ρ1 with
  |some (.val (.int j),ρ2)=>if j<=BIG/\-BIG<=j/\i<=BIG/\-BIG<=i then some (ups i (j-i).toNat,ρ2) else none
  |_=>none)
 |_=>none
noncomputable abbrev FB:=Dat->Env->Option Env
noncomputable def bN(i:Nat):FB:=fun d ρ=>if i=0 then none else some (ρ.set i (.sh d))
noncomputable def sets:List Nat->List Dat->Env->Option Env
 |[],[],ρ=>some ρ
 |i::is,d::ds,ρ=>if i=0 then none else sets is ds (ρ.set i (.sh d))
 |_,_,_=>none
noncomputable def bT(is:List Nat):FB:=fun d ρ=>match d with
 |.tup ds=>sets is ds ρ
 |_=>none
noncomputable def e9(bd:FB)(t:FT)(el:FE):List Dat->Env->List Dat->Option (List Dat×Env)
 |[],ρ,EA=>some (EA,ρ)
 |d::r,ρ,EA=>match bd d ρ with
  |none=>none
  |some ρ1=>match t ρ1 with
   |none=>none
   |some (false,ρ2)=>e9 bd t el r ρ2 EA
   |some (true,ρ2)=>match el ρ2 with
    |none=>none
    |some (x,ρ3)=>match tk ρ3 x with
     |none=>none
     |some (y,ρ4)=>e9 bd t el r ρ4 (EA++[y])
noncomputable def bX(it:FI)(own:Nat)(bd:FB)(t:FT)(el:FE):FE:=fun ρ=>match it ρ with
 |none=>none
 | some (ds,ρ1)=>if ds.length≤SZ then (match e9 bd t el ds (ρ1++gV own .un) [] with
  |none=>none
  |some (ys,ρ2)=>some (.new (.lst ys),ρ2.take ρ1.length)) else none
inductive Out where
 |nx (ρ:Env)
 |ret (r:RV) (ρ:Env)
 |bk (ρ:Env)
 |ct (ρ:Env)
noncomputable abbrev FS:=Env->Option Out
noncomputable def sNx:FS:=fun ρ=>some (.nx ρ)
noncomputable def aG(s u:FS):FS:=fun ρ=>match s ρ with
 |some (.nx ρ1)=>u ρ1
 |o=>o
noncomputable def sA(i:Nat)(e:FE):FS:=fun ρ=>if i=0 then none else match e ρ with
 |none=>none
 |some (.new d,ρ1)=>some (.nx (ρ1.set i (.ow d)))
 |some (x,ρ1)=>match tk ρ1 x with
  |none=>none
  |some (d,ρ2)=>some (.nx (ρ2.set i (.sh d)))
noncomputable def sU(is:List Nat)(e:FE):FS:=fun ρ=>match e ρ with
 |none=>none
 |some (x,ρ1)=>match tk ρ1 x with
  | some (.tup ds,ρ2)=>(match sets is ds ρ2 with
   |none=>none
   |some ρ3=>some (.nx ρ3))
  |_=>none
noncomputable def sE(e:FE):FS:=fun ρ=>match e ρ with
 |none=>none
 |some (_,ρ1)=>some (.nx ρ1)
noncomputable def sR(e:FE):FS:=fun ρ=>match e ρ with
 |none=>none
 |some (.new d,ρ1)=>some (.ret (.new d) ρ1)
 |some (.val d,ρ1)=>some (.ret (.val d) ρ1)
 |some (.slot i,ρ1)=>match ρ1[i]? with
  |some (.ow d)=>some (.ret (.new d) (ρ1.set i .un))
  |some (.sh d)=>some (.ret (.val d) ρ1)
  |_=>none
noncomputable def sIf(t:FT)(a b:FS):FS:=fun ρ=>match t ρ with
 |none=>none
 |some (true,ρ1)=>a ρ1
 |some (false,ρ1)=>b ρ1
noncomputable def sd(i:Nat)(e:FE):FS:=fun ρ=>match ρ[i]? with
 | some (.ow (.lst _))=>(match e ρ with
  |none=>none
  |some (x,ρ1)=>match tk ρ1 x with
   |none=>none
   |some (d,ρ2)=>match ρ2[i]? with
    |some (.ow (.lst ds))=>if ds.length<SZ then some (.nx (ρ2.set i (.ow (.lst (ds++[d]))))) else none
    |_=>none)
 |_=>none
noncomputable def ixN(n:Nat)(i:Int):Option Nat:=
 if 0<=i then (if i<n then some i.toNat else none) else if -(n:Int)<=i then some (i+n).toNat else none
noncomputable def l9(i:Nat)(j e:FE):FS:=fun ρ=>match e ρ with
 |none=>none
 |some (x,ρ1)=>match tk ρ1 x with
  |none=>none
  |some (d,ρ2)=>match ρ2[i]? with
   | some (.ow _)=>(match j ρ2 with
    | some (.val (.int k),ρ3)=>(match ρ3[i]? with
     | some (.ow (.lst ds))=>(match ixN ds.length k with
      |none=>none
      |some m=>some (.nx (ρ3.set i (.ow (.lst (ds.set m d))))))
     |_=>none)
    |_=>none)
   |_=>none
noncomputable def kB(bd:FB)(body:FS):List Dat->FS
 |[],ρ=>some (.nx ρ)
 |d::r,ρ=>match bd d ρ with
  |none=>none
  |some ρ1=>match body ρ1 with
   |some (.nx ρ2)=>kB bd body r ρ2
   |some (.ct ρ2)=>kB bd body r ρ2
   |some (.bk ρ2)=>some (.nx ρ2)
   |some (.ret v ρ2)=>some (.ret v ρ2)
   |none=>none
noncomputable def fW(it:FI)(bd:FB)(body:FS):FS:=fun ρ=>match it ρ with
 |none=>none
 |some (ds,ρ1)=>kB bd body ds ρ1
noncomputable def fn(n m:Nat)(body:FS)(ds:List Dat):Option RV:=if ds.length=n then (match body (ds.map Cell.sh++gV m .un) with
 |some (.ret r _)=>some r
 |some (.nx _)=>some (.val .non)
 |_=>none) else none
noncomputable def b2i(b:Bool):Int:=if b then 1 else 0
mutual
noncomputable def eqD:Dat->Dat->Bool
 |.non,.non=>true
 |.bl a,.bl b=>a == b
 |.bl a,.int j=>b2i a == j
 |.int i,.bl b=>i == b2i b
 |.int i,.int j=>i == j
 |.str a,.str b=>a == b
 |.tup xs,.tup ys=>l_ xs ys
 |.lst xs,.lst ys=>l_ xs ys
 |_,_=>false
noncomputable def l_:List Dat->List Dat->Bool
 |[],[]=>true
 |x::xs,y::ys=>eqD x y&&l_ xs ys
 |_,_=>false
end
noncomputable def okD:Nat->Dat->Bool
 |_,.dct _ _=>false
 |_,.dcp _ _=>false
 |_,.exc _=>false
 |_,.di _ _=>false
 |_,.fn _=>false
 |_,.str s=>s.all fun c=>decide (c<128)
 |0,.tup _=>false
 |0,.lst _=>false
 |n+1,.tup xs=>xs.all (okD n)
 |n+1,.lst xs=>xs.all (okD n)
 |_,_=>true
noncomputable abbrev vB(b:Bool):Option RV:=some (.val (.bl b))
noncomputable def mh(p:Dat->Bool):Dat->Option RV
 |.exc _=>none
 |.di _ _=>none
 |.fn _=>none
 |d=>vB (p d)
noncomputable abbrev vI(i:Int):Option RV:=some (.val (.int i))
noncomputable def gEq(x y:Dat):Option RV:=if okD 8 x&&okD 8 y then vB (eqD x y) else none
noncomputable def gNe(x y:Dat):Option RV:=if okD 8 x&&okD 8 y then vB (!eqD x y) else none
noncomputable def gLt:Dat->Dat->Option RV
 |.int i,.int j=>vB (decide (i<j))
 |_,_=>none
noncomputable def gLe:Dat->Dat->Option RV
 |.int i,.int j=>vB (decide (i<=j))
 |_,_=>none
noncomputable def gGt:Dat->Dat->Option RV
 |.int i,.int j=>vB (decide (j<i))
 |_,_=>none
noncomputable def gGe:Dat->Dat->Option RV
 |.int i,.int j=>vB (decide (j<=i))
 |_,_=>none
noncomputable def B64:Int:=18446744073709551616
noncomputable def cX:Dat->Dat->Option RV
 |.int i,.int j=>vI (i+j)
 |.lst xs,.lst ys=>if xs.length+ys.length<=SZ then some (.new (.lst (xs++ys))) else none
 |_,_=>none
noncomputable def fU:Dat->Dat->Option RV
 |.int i,.int j=>vI (i-j)
 |_,_=>none
noncomputable def iy:Dat->Dat->Option RV
 |.int i,.int j=>if (-B64<i/\i<B64)\/(-B64<j/\j<B64) then vI (i*j) else none
 |.lst xs,.int k=>if k<=BIG/\-BIG<=k/\xs.length*k.toNat<=SZ then some (.new (.lst (gV k.toNat xs).flatten)) else none
 |_,_=>none
noncomputable def qv:Int:=1606938044258990275541962092341162602522202993782792835301376
noncomputable def se:Dat->Dat->Option RV
 |.int i,.int j=>if 0<j/\j<qv then vI (i / j) else none
 |_,_=>none
noncomputable def iI:Dat->Dat->Option RV
 |.int i,.int j=>if 0<j then vI (i % j) else none
 |_,_=>none
noncomputable def jK:Dat->Dat->Option RV
 |.int i,.int j=>if 0<=j/\j<=1000000/\i.natAbs<1000000 then vI (i ^ j.toNat) else none
 |_,_=>none
noncomputable def qw:Dat->Option RV
 |.int i=>vI (-i)
 |_=>none
noncomputable def atI(xs:List Dat)(i:Int):Option Dat:=(ixN xs.length i).bind fun j=>xs[j]?
noncomputable def gIx:Dat->Dat->Option RV
 |.lst xs,.int i=>(atI xs i).map .val
 |.tup xs,.int i=>(atI xs i).map .val
 |_,_=>none
noncomputable def inD(x:Dat)(xs:List Dat):Bool:=xs.any fun y=>eqD y x
noncomputable def gIn:Dat->Dat->Option RV
 |x,.lst xs=>if okD 8 x&&xs.all (okD 7) then vB (inD x xs) else none
 |x,.tup xs=>if okD 8 x&&xs.all (okD 7) then vB (inD x xs) else none
 |_,_=>none
noncomputable def kC:Dat->Dat->Option RV
 |x,.lst xs=>if okD 8 x&&xs.all (okD 7) then vB (!inD x xs) else none
 |x,.tup xs=>if okD 8 x&&xs.all (okD 7) then vB (!inD x xs) else none
 |_,_=>none
noncomputable def eT:List Dat->Option RV
 |[.lst xs]=>vI xs.length
 |[.tup xs]=>vI xs.length
 |_=>none
noncomputable def pD:List Dat->Option RV
 |[.int i,.int j]=>vI (if j<i then j else i)
 |_=>none
noncomputable def mj:List Dat->Option RV
 |[.int i,.int j]=>vI (if j>i then j else i)
 |_=>none
noncomputable def wm:List Dat->Option RV
 |[.lst xs]=>some (.new (.lst xs))
 |[.tup xs]=>some (.new (.lst xs))
 |_=>none
noncomputable def qx:List Dat->Option RV
 |[.lst xs]=>some (.val (.tup xs))
 |[.tup xs]=>some (.val (.tup xs))
 |_=>none
noncomputable def isI:Dat->Bool
 |.int _=>true
 |.bl _=>true
 |_=>false
noncomputable def isB:Dat->Bool
 |.bl _=>true
 |_=>false
noncomputable def isL:Dat->Bool
 |.lst _=>true
 |_=>false
noncomputable def isT:Dat->Bool
 |.tup _=>true
 |_=>false
noncomputable def bools:List Dat->Option (List Bool)
 |[]=>some []
 |.bl b::r=>(bools r).map fun bs=>b::bs
 |_=>none
noncomputable def uX:List Dat->Option RV
 | [.lst xs]=>(match bools xs with
  |some bs=>vB (bs.all id)
  |none=>none)
 |_=>none
noncomputable def gE(g h:Dat->Dat->Option RV)(a b c:FE):FE:=fun ρ=>match a ρ with
 |none=>none
 |some (x,ρ1)=>match b ρ1 with
  |none=>none
  |some (y,ρ2)=>match pk ρ2 x with
   |none=>none
   |some d=>match pk ρ2 y with
    |none=>none
    |some e=>match g d e with
     | some (.val (.bl true))=>(match c ρ2 with
      |none=>none
      |some (z,ρ3)=>match pk ρ3 y with
       |none=>none
       |some e'=>match pk ρ3 z with
        |none=>none
        |some f=>match h e' f with
         |none=>none
         |some v=>some (v.bW,ρ3))
     |some (.val (.bl false))=>some (.val (.bl false),ρ2)
     |_=>none
noncomputable def zd:List Dat->Option RV
 |[.int i]=>vI i
 |[.bl b]=>vI (b2i b)
 |_=>none
end Dm
open Dm(Dat FE RV FT FS)
namespace Br
open PySem L2
noncomputable def kP(p:Int×Int):List Key:=[Nv p.1,Nv p.2]
def kD(H:Hp):List Addr->List (Int×Int)->Prop
 |[],[]=>True
 |t::ts,p::ks=>H t=some (.tup [V.int p.1,V.int p.2])/\kD H ts ks
 |_,_=>False
theorem kD.mono{H H':Hp}(s:aq H H'):∀{ts:List Addr} {ks:List (Int×Int)},kD H ts ks->kD H' ts ks
 |[],[],_=>trivial
 |_::_,_::_,h=>⟨s _ _ h.1,kD.mono s h.2⟩
 |[],_::_,h=>h
 |_::_,[],h=>h
def ze(H:Hp)(x:List (List Key×V)×List Addr)(ks:List (Int×Int)):Prop:=x.1.map (·.1)=ks.map kP/\kD H x.2 ks
theorem ze.mono{H H':Hp}(s:aq H H'){x:List (List Key×V)×List Addr}{ks:List (Int×Int)}(h:ze H x ks):ze H' x ks:=⟨h.1,h.2.mono s⟩
mutual
inductive Rep(H:Hp):V->Dat->Prop
 |non:Rep H V.non Dat.non
 |bl (b:Bool):Rep H (V.bl b) (Dat.bl b)
 |int (i:Int):Rep H (V.int i) (Dat.int i)
 |str (s:List Nat):Rep H (V.str ⟨s.toArray⟩) (Dat.str s)
 |tup {a:Addr} {xs:List V} {ds:List Dat}:H a=some (.tup xs)->aM H xs ds->Rep H (V.ref a) (Dat.tup ds)
 |lst {a:Addr} {xs:List V} {ds:List Dat}:Rd H a (.lst xs)->aM H xs ds->Rep H (V.ref a) (Dat.lst ds)
 |dct {a:Addr} {kvs:List (Key×V)} {ks:List Int} {ds:List Dat}:H a=some (.dK kvs)->kvs.map (·.1)=ks.map Nv->aM H (kvs.map (·.2)) ds->Rep H (V.ref a) (Dat.dct ks ds)
 |dcp {a:Addr} {x:List (List Key×V)×List Addr} {ks:List (Int×Int)} {ds:List Dat}:H a=some (.dT x.1 x.2)->ze H x ks->aM H (x.1.map (·.2)) ds->Rep H (V.ref a) (Dat.dcp ks ds)
 |exc {a:Addr} {C:Nat} {o:Obj}:H a=some (.frz o (.ext fun h=>∃o,h.get? a=some o/\o.cls=.ref C/\∃vs,o.data=.fields vs/\vs[2]?=some .none))->Rep H (V.ref a) (Dat.exc C)
 |di {a d:Addr} {C:Nat} {v:Int}:H a=some (.ext fun h=>∃o,h.get? a=some o/\o.cls=.ref C/\o.dict=some d/\∀c,o.data≠.cls c)->H d=some (.xd [("moment",.int v)])->Rep H (V.ref a) (Dat.di C v)
 |fn (a:Addr):Rep H (V.ref a) (Dat.fn a)
inductive aM(H:Hp):List V->List Dat->Prop
 |nil:aM H [] []
 |cons {v:V} {d:Dat} {vs:List V} {ds:List Dat}:Rep H v d->aM H vs ds->aM H (v::vs) (d::ds)
end
theorem aq.rd{H H':Hp}(s:aq H H'){a:Addr}{u:HO}(h:Rd H a u):Rd H' a u:=by
 rcases h with h | ⟨o,h⟩
 ·exact .inl (s _ _ h)
 ·exact .inr ⟨o,s _ _ h⟩
mutual
theorem Rep.mono{H H':Hp}(s:aq H H'):∀{v:V} {d:Dat},Rep H v d->Rep H' v d
 |_,_,.non=>.non
 |_,_,.bl b=>.bl b
 |_,_,.int i=>.int i
 |_,_,.str x=>.str x
 |_,_,.tup h r=>.tup (s _ _ h) (aM.mono s r)
 |_,_,.lst h r=>.lst (aq.rd s h) (aM.mono s r)
 |_,_,.dct h e r=>.dct (s _ _ h) e (aM.mono s r)
 |_,_,.dcp h e r=>.dcp (s _ _ h) (e.mono s) (aM.mono s r)
 |_,_,.exc h=>.exc (s _ _ h)
 |_,_,.di h k=>.di (s _ _ h) (s _ _ k)
 |_,_,.fn a=>.fn a
theorem aM.mono{H H':Hp}(s:aq H H'):∀{vs:List V} {ds:List Dat},aM H vs ds->aM H' vs ds
 |_,_,.nil=>.nil
 |_,_,.cons h r=>.cons (Rep.mono s h) (aM.mono s r)
end
section
variable{ρ:Dm.Env}{H0 H:Hp}{d:Dat}{σ:St}{a:Addr}{x:Dm.Val}{v:V}{X:Cx}{t t':TS}{p:Addr}{e:Expr}{o:HO}
theorem aM.length{H:Hp}:∀{vs:List V} {ds:List Dat},aM H vs ds->vs.length=ds.length
 |_,_,.nil=>rfl
 |_,_,.cons _ r=>by simp[aM.length r]
theorem aM.get{H:Hp}:∀{vs:List V} {ds:List Dat} {i:Nat} {d:Dat},aM H vs ds->ds[i]?=some d->∃v,vs[i]?=some v/\Rep H v d
 |_,_,_,_,.nil,e=>by simp at e
 |_,_,0,_,.cons h _,e=>by simp at e;subst e;exact⟨_,rfl,h⟩
 |_,_,i+1,_,.cons _ r,e=>by obtain⟨v,h1,h2⟩:=aM.get (i:=i) r (by simpa using e);exact⟨v,by simpa using h1,h2⟩
theorem aM.append{H:Hp}:∀{vs ws:List V} {ds es:List Dat},aM H vs ds->aM H ws es->aM H (vs++ws) (ds++es)
 |_,_,_,_,.nil,s=>s
 |_,_,_,_,.cons h r,s=>.cons h (aM.append r s)
theorem aM.set{H:Hp}(h:Rep H v d):∀{vs:List V} {ds:List Dat} (i:Nat),aM H vs ds->aM H (vs.set i v) (ds.set i d)
 |_,_,_,.nil=>.nil
 |_,_,0,.cons _ r=>.cons h r
 |_,_,i+1,.cons q r=>.cons q (aM.set h i r)
theorem aM.rep{H:Hp}{vs:List V}{ds:List Dat}(r:aM H vs ds):∀k:Nat,aM H (gV k vs).flatten (gV k ds).flatten
 |0=>by simpa using aM.nil
 |k+1=>by rw[MT,MT,Nb,Nb];exact aM.append r (aM.rep r k)
def Own(H0 H:Hp)(a:Addr):Dat->Prop
 |.lst ds=>∃xs,H a=some (.lst xs)/\aM H0 xs ds
 |.dct ks ds=>∃kvs:List (Key×V),H a=some (.dK kvs)/\kvs.map (·.1)=ks.map Nv/\aM H0 (kvs.map (·.2)) ds
 |.dcp ks ds=>∃x:List (List Key×V)×List Addr,H a=some (.dT x.1 x.2)/\ze H0 x ks/\aM H0 (x.1.map (·.2)) ds
 |_=>False
theorem Own.some(h:Own H0 H a d):∃o,H a=some o:=by
 cases d with
 |lst ds=>obtain⟨xs,e,_⟩:=h;exact⟨_,e⟩
 |dct ks ds=>obtain⟨xs,e,_⟩:=h;exact⟨_,e⟩
 |dcp ks ds=>obtain⟨xs,e,_⟩:=h;exact⟨_,e⟩
 |_=>exact Mr h
theorem Own.mono{H0 H H0' H':Hp}(h:Own H0 H a d)(s:aq H0 H0')(e:H' a=H a):Own H0' H' a d:=by
 cases d with
 |lst ds=>obtain⟨xs,q,r⟩:=h;exact⟨xs,by rw[e];exact q,r.mono s⟩
 |dct ks ds=>obtain⟨xs,q,k,r⟩:=h;exact⟨xs,by rw[e];exact q,k,r.mono s⟩
 |dcp ks ds=>obtain⟨xs,q,k,r⟩:=h;exact⟨xs,by rw[e];exact q,k.mono s,r.mono s⟩
 |_=>exact Mr h
def mq(H0 H:Hp)(v:V)(d:Dat):Prop:=Rep H0 v d\/∃a,v=V.ref a/\Own H0 H a d
inductive sj(H0 H:Hp):List V->List Dat->Prop
 |nil:sj H0 H [] []
 |cons {v:V} {d:Dat} {vs:List V} {ds:List Dat}:mq H0 H v d->sj H0 H vs ds->sj H0 H (v::vs) (d::ds)
noncomputable def shr(H0 H:Hp)(a:Addr):Hp:=fun b=>if b=a then H a else H0 b
theorem dS:shr H0 H a a=H a:=by unfold shr;rw[if_pos rfl]
theorem iJ{a b:Addr}(h:b≠a):shr H0 H a b=H0 b:=by unfold shr;rw[if_neg h]
theorem fM(h:H0 a=none):aq H0 (shr H0 H a):=fun b o e=>by
 by_cases q:b=a
 ·subst q;rw[h]at e;cases e
 ·rw[iJ q];exact e
theorem wo(s:aq H0 H):aq (shr H0 H a) H:=fun b o e=>by
 by_cases q:b=a
 ·subst q;rw[dS]at e;exact e
 ·rw[iJ q]at e;exact s _ _ e
theorem Own.rep(h:Own H0 H a d)(n:H0 a=none):Rep (shr H0 H a) (V.ref a) d:=by
 cases d with
 |lst ds=>obtain⟨xs,q,r⟩:=h;exact .lst (.inl (by rw[dS];exact q)) (r.mono (fM n))
 |dct ks ds=>obtain⟨xs,q,k,r⟩:=h;exact .dct (by rw[dS];exact q) k (r.mono (fM n))
 |dcp ks ds=>obtain⟨xs,q,k,r⟩:=h;exact .dcp (by rw[dS];exact q) (k.mono (fM n)) (r.mono (fM n))
 |_=>exact Mr h
def ao(σ:St)(ρ:Dm.Env)(a:Addr):Prop:=∃(i:Nat) (d:Dat),ρ[i]?=some (Dm.Cell.ow d)/\σ[i]?=some (some (V.ref a))
noncomputable abbrev Def(_:Dm.Env)(_:Nat):Prop:=True
structure au(H0 H:Hp)(σ:St)(ρ:Dm.Env):Prop where
 same:aq H0 H
 len:σ.length=ρ.length
 sh:∀(i:Nat) (d:Dat),ρ[i]?=some (Dm.Cell.sh d)->∃v,σ[i]?=some (some v)/\Rep H0 v d
 ow:∀(i:Nat) (d:Dat),ρ[i]?=some (Dm.Cell.ow d)->∃a,σ[i]?=some (some (V.ref a))/\H0 a=none/\Own H0 H a d
 dis:∀(i j:Nat) (d e:Dat) (a:Addr),ρ[i]?=some (Dm.Cell.ow d)->ρ[j]?=some (Dm.Cell.ow e)->σ[i]?=some (some (V.ref a))->σ[j]?=some (some (V.ref a))->i=j
structure Stp(O:Addr->Prop)(H0 H H0' H':Hp):Prop where
 s0:aq H0 H0'
 s1:∀a o,H a=some o->¬O a->H' a=some o
 s2:∀a o,H0' a=some o->H a=none\/H0 a=some o\/O a
 s3:∀a o,H a=some o->∃o',H' a=some o'
theorem Stp.refl(O:Addr->Prop)(H0 H:Hp):Stp O H0 H H0 H:=⟨aq.refl _,fun _ _ e _=>e,fun _ _ e=>.inr (.inl e),fun _ o e=>⟨o,e⟩⟩
theorem Stp.gone{O:Addr->Prop}{H0 H H0' H':Hp}(t:Stp O H0 H H0' H')(h:H' a=none):H a=none:=by
 cases q:H a with
 |none=>rfl
 |some o=>obtain⟨o',e⟩:=t.s3 a o q;rw[h]at e;cases e
theorem Stp.trans{O1 O2:Addr->Prop}{H0 H H1 H' H2 H'':Hp}(t:Stp O1 H0 H H1 H')(u:Stp O2 H1 H' H2 H'')(k:∀a,O2 a->O1 a\/H a=none):Stp O1 H0 H H2 H'' where
 s0:=t.s0.trans u.s0
 s1:=fun a o e n=>u.s1 a o (t.s1 a o e n) fun z=>(k a z).elim n fun q=>by rw[q]at e;cases e
 s2:=fun a o e=>by
  rcases u.s2 a o e with q | q | q
  ·exact .inl (t.gone q)
  ·exact t.s2 a o q
  ·rcases k a q with z | z
   ·exact .inr (.inr z)
   ·exact .inl z
 s3:=fun a o e=>by obtain⟨o',e'⟩:=t.s3 a o e;exact u.s3 a o' e'
theorem Stp.wide{O O':Addr->Prop}{H0 H H0' H':Hp}(t:Stp O H0 H H0' H')(k:∀a,O a->O' a):Stp O' H0 H H0' H':=
 ⟨t.s0,fun a o e n=>t.s1 a o e fun z=>n (k a z),fun a o e=>(t.s2 a o e).imp id (Or.imp id (k a)),t.s3⟩
structure aN(H0 H H0' H':Hp):Prop where
 s0:aq H0 H0'
 s1:aq H H'
 s2:∀a o,H0' a=some o->H a=none\/H0 a=some o
 s3:aq H0' H'
theorem aN.refl(s:aq H0 H):aN H0 H H0 H:=⟨aq.refl _,aq.refl _,fun _ _ e=>.inr e,s⟩
theorem aN.stp{H0 H H0' H':Hp}(g:aN H0 H H0' H')(O:Addr->Prop):Stp O H0 H H0' H':=
 ⟨g.s0,fun a o e _=>g.s1 a o e,fun a o e=>(g.s2 a o e).imp id .inl,fun a o e=>⟨o,g.s1 a o e⟩⟩
theorem aN.zf(s:aq H0 H)(n:H p=none):aN H0 H (upd H0 p o) (upd H p o) where
 s0:=fun b u e=>by rw[az (aH e (s.free n))];exact e
 s1:=fun b u e=>by rw[az (aH e n)];exact e
 s2:=fun b u e=>by
  by_cases q:b=p
  ·subst q;exact .inl n
  ·rw[az q]at e;exact .inr e
 s3:=fun b u e=>by
  by_cases q:b=p
  ·subst q;rw[aF]at e ⊢;exact e
  ·rw[az q]at e ⊢;exact s _ _ e
theorem aN.mw(s:aq H0 H)(n:H p=none):aN H0 H H0 (upd H p o) where
 s0:=aq.refl _
 s1:=fun b u e=>by rw[az (aH e n)];exact e
 s2:=fun b u e=>.inr e
 s3:=fun b u e=>by rw[az (aH (s _ _ e) n)];exact s _ _ e
def gF(Hs H0 H:Hp)(σ:St)(ρ:Dm.Env)(v:V):Dm.Val->Prop
 |.val d=>Rep H0 v d
 |.slot i=>σ[i]?=some (some v)/\Def ρ i
 |.new d=>∃a,v=V.ref a/\Hs a=none/\¬ao σ ρ a/\H0 a=none/\Own H0 H a d
structure ESt(σ:St)(ρ:Dm.Env)(H0 H:Hp)(ρ':Dm.Env)(H0' H':Hp):Prop where
 st:au H0' H' σ ρ'
 stp:Stp (ao σ ρ) H0 H H0' H'
 own:∀a,ao σ ρ' a->ao σ ρ a
 dfn:∀i,Def ρ i->Def ρ' i
theorem ESt.refl(st:au H0 H σ ρ):ESt σ ρ H0 H ρ H0 H:=⟨st,Stp.refl _ _ _,fun _ z=>z,fun _ z=>z⟩
theorem ESt.trans{ρ ρ1 ρ2:Dm.Env}{H0 H H1 H' H2 H'':Hp}(t:ESt σ ρ H0 H ρ1 H1 H')(u:ESt σ ρ1 H1 H' ρ2 H2 H''):ESt σ ρ H0 H ρ2 H2 H'':=
 ⟨u.st,t.stp.trans u.stp fun a z=>.inl (t.own a z),fun a z=>t.own a (u.own a z),fun i z=>u.dfn i (t.dfn i z)⟩
theorem au.grow{H0 H H0' H':Hp}(st:au H0 H σ ρ)(g:aN H0 H H0' H'):au H0' H' σ ρ where
 same:=g.s3
 len:=st.len
 sh:=fun i d e=>by obtain⟨v,q,r⟩:=st.sh i d e;exact⟨v,q,r.mono g.s0⟩
 ow:=fun i d e=>by
  obtain⟨a,q,n,w⟩:=st.ow i d e;obtain⟨o,z⟩:=w.some;refine⟨a,q,?_,w.mono g.s0 ((g.s1 a o z).trans z.symm)⟩;cases y:H0' a with
  |none=>rfl
  |some u=>
   rcases g.s2 a u y with k | k
   ·rw[z]at k;cases k
   ·rw[n]at k;cases k
 dis:=st.dis
theorem ESt.grow{H0 H H0' H':Hp}(st:au H0 H σ ρ)(g:aN H0 H H0' H'):ESt σ ρ H0 H ρ H0' H':=
 ⟨st.grow g,g.stp _,fun _ z=>z,fun _ z=>z⟩
theorem gF.mono{Hs H0 H H0' H':Hp}{ρ ρ':Dm.Env}(r:gF Hs H0 H σ ρ v x)(t:ESt σ ρ H0 H ρ' H0' H'):gF Hs H0' H' σ ρ' v x:=by
 cases x with
 |val d=>exact Rep.mono t.stp.s0 r
 |slot i=>exact⟨r.1,t.dfn i r.2⟩
 |new d=>
  obtain⟨a,e,n,no,n0,w⟩:=r;obtain⟨o,z⟩:=w.some;refine⟨a,e,n,fun y=>no (t.own a y),?_,w.mono t.stp.s0 ((t.stp.s1 a o z no).trans z.symm)⟩;cases y:H0' a with
  |none=>rfl
  |some u=>
   rcases t.stp.s2 a u y with k | k | k
   ·rw[z]at k;cases k
   ·rw[n0]at k;cases k
   ·exact absurd k no
theorem gF.early{Hs Hs' H0 H:Hp}(r:gF Hs H0 H σ ρ v x)(k:∀a,Hs a=none->Hs' a=none):gF Hs' H0 H σ ρ v x:=by
 cases x with
 |val d=>exact r
 |slot i=>exact r
 |new d=>obtain⟨a,e,n,z⟩:=r;exact⟨a,e,k a n,z⟩
theorem gF.look{Hs H0 H:Hp}(r:gF Hs H0 H σ ρ v x)(st:au H0 H σ ρ)(e:Dm.pk ρ x=some d):mq H0 H v d:=by
 cases x with
 |val d'=>cases e;exact .inl r
 |new d'=>cases e;obtain⟨a,e,_,_,_,w⟩:=r;exact .inr ⟨a,e,w⟩
 |slot i=>
  obtain⟨q,_⟩:=r;unfold Dm.pk at e;dsimp only at e;split at e
  ·rename_i d' h;cases e;obtain⟨a,z,_,w⟩:=st.ow i d h;rw[q]at z;cases z;exact .inr ⟨a,rfl,w⟩
  ·rename_i d' h;cases e;obtain⟨u,z,w⟩:=st.sh i d h;rw[q]at z;cases z;exact .inl w
  ·cases e
def uY(Hs H0 H:Hp)(v:V):RV->Prop
 |.val d=>Rep H0 v d
 |.new d=>∃a,v=V.ref a/\Hs a=none/\H0 a=none/\Own H0 H a d
theorem uY.toV{H H0' H' H0:Hp}{z:RV}(r:uY H H0' H' v z)(st:au H0 H σ ρ):gF H H0' H' σ ρ v z.bW:=by
 cases z with
 |val d=>exact r
 |new d=>obtain⟨a,e,n,n0,w⟩:=r;refine⟨a,e,n,fun⟨i,d',h1,h2⟩=>?_,n0,w⟩;obtain⟨a',q,_,w'⟩:=st.ow i d' h1;rw[h2]at q;cases q;obtain⟨o,z⟩:=w'.some;rw[n]at z;cases z
def tD(f:FE):TE:=fun σ H Q=>∃H0 ρ x ρ',au H0 H σ ρ/\f ρ=some (x,ρ')/\∀v H0' H',ESt σ ρ H0 H ρ' H0' H'->gF H H0' H' σ ρ' v x->Q v H'
def tDT(f:FT):TT:=fun σ H Q=>∃H0 ρ b ρ',au H0 H σ ρ/\f ρ=some (b,ρ')/\∀H0' H',ESt σ ρ H0 H ρ' H0' H'->Q b H'
inductive e_(Hs H0 H:Hp)(σ:St)(ρ:Dm.Env):List V->List Dm.Val->Prop
 |nil:e_ Hs H0 H σ ρ [] []
 |cons {v:V} {x:Dm.Val} {vs:List V} {xs:List Dm.Val}:gF Hs H0 H σ ρ v x->e_ Hs H0 H σ ρ vs xs->e_ Hs H0 H σ ρ (v::vs) (x::xs)
def tDA(fs:List FE):TA:=fun σ H Q=>∃H0 ρ xs ρ',au H0 H σ ρ/\Dm.eAs fs ρ=some (xs,ρ')/\∀vs H0' H',ESt σ ρ H0 H ρ' H0' H'->e_ H H0' H' σ ρ' vs xs->Q vs H'
noncomputable abbrev DE(X:Cx)(e:Expr)(f:FE):Prop:=PE X e (tD f)
noncomputable abbrev DT(X:Cx)(e:Expr)(f:FT):Prop:=PT X e (tDT f)
noncomputable abbrev DA(X:Cx)(es:List Expr)(fs:List FE):Prop:=PA X es (tDA fs)
theorem PE.weak{t t':TE}(h:PE X e t)(k:∀σ H Q,t' σ H Q->t σ H Q):PE X e t':=fun mU s σ H Q I q=>h mU s σ H Q I (k σ H Q q)
theorem PT.weak{t t':TT}(h:PT X e t)(k:∀σ H Q,t' σ H Q->t σ H Q):PT X e t':=fun mU s σ H Q I q=>h mU s σ H Q I (k σ H Q q)
theorem PA.weak{es:List Expr}{t t':TA}(h:PA X es t)(k:∀σ H Q,t' σ H Q->t σ H Q):PA X es t':=fun pos mU s σ H Q I q=>h pos mU s σ H Q I (k σ H Q q)
theorem PS.weak{st:Stmt}(h:PS X st t)(k:∀D σ H,t' D σ H->t D σ H):PS X st t':=fun mU s σ H D I q=>h mU s σ H D I (k D σ H q)
theorem PSs.weak{st:List Stmt}(h:PSs X st t)(k:∀D σ H,t' D σ H->t D σ H):PSs X st t':=fun mU s σ H D I q=>h mU s σ H D I (k D σ H q)
theorem cI(s:aq H0 H):aq H0 (shr H0 H a):=fun b o e=>by
 by_cases q:b=a
 ·subst q;rw[dS];exact s _ _ e
 ·rw[iJ q];exact e
theorem Own.Iu{H0 H0c H:Hp}(h:Own H0 H a d)(b:aq H0 H0c)(s:aq H0c H):Rep (shr H0c H a) (V.ref a) d:=by
 cases d with
 |lst ds=>obtain⟨xs,q,r⟩:=h;exact .lst (.inl (by rw[dS];exact q)) (r.mono (b.trans (cI s)))
 |dct ks ds=>obtain⟨xs,q,k,r⟩:=h;exact .dct (by rw[dS];exact q) k (r.mono (b.trans (cI s)))
 |dcp ks ds=>obtain⟨xs,q,k,r⟩:=h;exact .dcp (by rw[dS];exact q) (k.mono (b.trans (cI s))) (r.mono (b.trans (cI s)))
 |_=>exact Mr h
theorem gF.rho{Hs H0 H:Hp}{ρ ρ':Dm.Env}(r:gF Hs H0 H σ ρ v x)(o:∀a,ao σ ρ' a->ao σ ρ a)(d:∀i,Def ρ i->Def ρ' i):gF Hs H0 H σ ρ' v x:=by
 cases x with
 |val d=>exact r
 |slot i=>exact⟨r.1,d i r.2⟩
 |new d=>obtain⟨a,e,n,no,z⟩:=r;exact⟨a,e,n,fun y=>no (o a y),z⟩
theorem e_.rho{Hs H0 H:Hp}{ρ ρ':Dm.Env}(o:∀a,ao σ ρ' a->ao σ ρ a)(d:∀i,Def ρ i->Def ρ' i):∀{vs:List V} {xs:List Dm.Val},e_ Hs H0 H σ ρ vs xs->e_ Hs H0 H σ ρ' vs xs
 |_,_,.nil=>.nil
 |_,_,.cons h r=>.cons (h.rho o d) (e_.rho o d r)
theorem e_.early{Hs Hs' H0 H:Hp}(k:∀a,Hs a=none->Hs' a=none):∀{vs:List V} {xs:List Dm.Val},e_ Hs H0 H σ ρ vs xs->e_ Hs' H0 H σ ρ vs xs
 |_,_,.nil=>.nil
 |_,_,.cons h r=>.cons (h.early k) (e_.early k r)
theorem aR{i j:Nat}{c d:Dm.Cell}(h:(ρ.set i c)[j]?=some d):(j=i/\d=c)\/(j≠i/\ρ[j]?=some d):=by
 by_cases e:j=i
 ·subst e;by_cases l:j<ρ.length
  ·rw[Mn l]at h;exact .inl ⟨rfl,(Option.some.inj h).symm⟩
  ·rw[M8 (by simpa using N3.mp l)]at h;cases h
 ·rw[gp (MJ e)]at h;exact .inr ⟨e,h⟩
theorem uZ{i:Nat}(st:au H0 H σ ρ)(e:ρ[i]?=some (.ow d))(q:σ[i]?=some (some (V.ref a))) :
  au (shr H0 H a) H σ (ρ.set i (.sh d))/\(∀b,ao σ (ρ.set i (.sh d)) b->ao σ ρ b)/\∀j,Def ρ j->Def (ρ.set i (.sh d)) j:=by
 obtain⟨a',q',n,w⟩:=st.ow i d e;rw[q]at q';cases q';have hil:i<ρ.length:=(Dk.mp e).1;refine⟨⟨wo st.same,by rw[Mx];exact st.len,fun j d' h=>?_,fun j d' h=>?_,fun j k d1 d2 b h1 h2 h3 h4=>?_⟩,fun b ⟨j,d',h1,h2⟩=>?_,fun j h=>?_⟩
 ·rcases aR h with⟨rfl,z⟩ | ⟨_,h⟩
  ·cases z;exact⟨_,q,w.rep n⟩
  ·obtain⟨v,z,r⟩:=st.sh j d' h;exact⟨v,z,r.mono (fM n)⟩
 ·rcases aR h with⟨_,z⟩ | ⟨hj,h⟩
  ·cases z
  ·obtain⟨b,z,n',w'⟩:=st.ow j d' h;have nb:b≠a:=fun y=>hj (st.dis j i d' d a h e (y▸z) q);exact⟨b,z,by rw[iJ nb];exact n',w'.mono (fM n) rfl⟩
 ·rcases aR h1 with⟨_,z⟩ | ⟨_,h1⟩
  ·cases z
  ·rcases aR h2 with⟨_,z⟩ | ⟨_,h2⟩
   ·cases z
   ·exact st.dis j k d1 d2 b h1 h2 h3 h4
 ·rcases aR h1 with⟨_,z⟩ | ⟨_,h1⟩
  ·cases z
  ·exact⟨j,d',h1,h2⟩
 ·trivial
theorem xQ(st:au H0 H σ ρ)(no:¬ao σ ρ a):au (shr H0 H a) H σ ρ where
 same:=wo st.same
 len:=st.len
 sh:=fun j d h=>by obtain⟨v,z,r⟩:=st.sh j d h;exact⟨v,z,r.mono (cI st.same)⟩
 ow:=fun j d h=>by obtain⟨b,z,n',w'⟩:=st.ow j d h;have nb:b≠a:=fun y=>no ⟨j,d,h,y▸z⟩;exact⟨b,z,by rw[iJ nb];exact n',w'.mono (cI st.same) rfl⟩
 dis:=st.dis
theorem take1{Hs H0s H0 H0c H:Hp}{ρs ρ ρ':Dm.Env}(t:ESt σ ρs H0s Hs ρ H0c H)(b:aq H0 H0c)(r:gF Hs H0 H σ ρ v x)(e:Dm.tk ρ x=some (d,ρ')) :
  ∃u0,ESt σ ρs H0s Hs ρ' u0 H/\aq H0c u0/\Rep u0 v d/\(∀a,ao σ ρ' a->ao σ ρ a)/\∀i,Def ρ i->Def ρ' i:=by
 cases x with
 |val d'=>cases e;exact⟨H0c,t,aq.refl _,Rep.mono b r,fun _ z=>z,fun _ z=>z⟩
 |new d'=>
  cases e;obtain⟨a,e,n,no,n0,w⟩:=r;subst e;have ss:=cI (a:=a) t.st.same;refine⟨shr H0c H a,⟨xQ t.st no,⟨t.stp.s0.trans ss,t.stp.s1,fun c o q=>?_,t.stp.s3⟩,t.own,t.dfn⟩,ss,w.Iu b t.st.same,fun _ z=>z,fun _ z=>z⟩;by_cases y:c=a
  ·subst y;exact .inl n
  ·rw[iJ y]at q;exact t.stp.s2 c o q
 |slot i=>
  obtain⟨q,_⟩:=r;unfold Dm.tk at e;dsimp only at e;split at e
  ·rename_i d' h;cases e;obtain⟨a,z,n,w⟩:=t.st.ow i _ h;rw[q]at z;cases z;obtain⟨s1,s2,s3⟩:=uZ t.st h q;have ss:=cI (a:=a) t.st.same;refine⟨shr H0c H a,⟨s1,⟨t.stp.s0.trans ss,t.stp.s1,fun c o q'=>?_,t.stp.s3⟩,fun b z=>t.own b (s2 b z),fun j z=>s3 j (t.dfn j z)⟩,ss,w.Iu (aq.refl _) t.st.same,s2,s3⟩;by_cases y:c=a
   ·subst y;exact .inr (.inr (t.own c ⟨i,_,h,q⟩))
   ·rw[iJ y]at q';exact t.stp.s2 c o q'
  ·rename_i d' h;cases e;obtain⟨u,z,w⟩:=t.st.sh i _ h;rw[q]at z;cases z;exact⟨H0c,t,aq.refl _,w,fun _ z=>z,fun _ z=>z⟩
  ·cases e
theorem takes{Hs H0s H0 H:Hp}{ρs:Dm.Env}:∀{xs:List Dm.Val} {vs:List V} {ρ ρ':Dm.Env} {ds:List Dat} {H0c:Hp},ESt σ ρs H0s Hs ρ H0c H->aq H0 H0c->e_ Hs H0 H σ ρ vs xs->Dm.tks ρ xs=some (ds,ρ') ->
  ∃u0,ESt σ ρs H0s Hs ρ' u0 H/\aq H0c u0/\aM u0 vs ds
 |[],_,ρ,ρ',ds,H0c,t,b,r,e=>by cases r;cases e;exact⟨H0c,t,aq.refl _,.nil⟩
 |x::xs,_,ρ,ρ',ds,H0c,t,b,r,e=>by
  cases r with
  |cons h r=>
   unfold Dm.tks at e;split at e
   ·cases e
   ·rename_i d ρ1 e1;split at e
    ·cases e
    ·rename_i ds' ρ2 e2;cases e;obtain⟨H1,t1,b1,r1,o1,d1⟩:=take1 t b h e1;obtain⟨H2,t2,b2,r2⟩:=takes t1 (b.trans b1) (r.rho o1 d1) e2;exact⟨H2,t2,b1.trans b2,.cons (r1.mono b2) r2⟩
theorem Iv{ρ ρ':Dm.Env}(e:Dm.tk ρ x=some (d,ρ'))(y:Dm.Val):Dm.pk ρ' y=Dm.pk ρ y:=by
 cases x with
 |val d'=>cases e;rfl
 |new d'=>cases e;rfl
 |slot i=>
  unfold Dm.tk at e;dsimp only at e;split at e
  ·rename_i d' h;cases e;cases y with
   |val _=>rfl
   |new _=>rfl
   |slot j=>
    unfold Dm.pk;dsimp only;by_cases z:j=i
    ·subst z;rw[Mn (Dk.mp h).1,h]
    ·rw[gp (MJ z)]
  ·cases e;rfl
  ·cases e
theorem zg(e:Dm.pk ρ x=some d):∃ρ',Dm.tk ρ x=some (d,ρ'):=by
 cases x with
 |val d'=>cases e;exact⟨ρ,rfl⟩
 |new d'=>cases e;exact⟨ρ,rfl⟩
 |slot i=>
  unfold Dm.pk at e;dsimp only at e;unfold Dm.tk;dsimp only;split at e
  ·rename_i d' h;cases e;exact⟨_,rfl⟩
  ·rename_i d' h;cases e;exact⟨_,rfl⟩
  ·cases e
theorem iK:∀{xs:List Dm.Val} {ρ:Dm.Env} {ds:List Dat},Dm.pks ρ xs=some ds->∃ρ',Dm.tks ρ xs=some (ds,ρ')
 |[],ρ,ds,e=>by cases e;exact⟨ρ,rfl⟩
 |x::xs,ρ,ds,e=>by
  unfold Dm.pks at e;split at e
  ·cases e
  ·rename_i d e1;split at e
   ·cases e
   ·rename_i ds' e2;cases e;obtain⟨ρ1,h1⟩:=zg e1;have key:∀ys:List Dm.Val,Dm.pks ρ1 ys=Dm.pks ρ ys:=fun ys=>by
     induction ys with
     |nil=>rfl
     |cons y ys ih=>unfold Dm.pks;rw[Iv h1 y,ih]
    obtain⟨ρ2,h2⟩:=iK (xs:=xs) (ρ:=ρ1) (ds:=ds') (by rw[key];exact e2);exact⟨ρ2,by unfold Dm.tks;rw[h1];dsimp only;rw[h2]⟩
theorem looks{Hs H0 H:Hp}(st:au H0 H σ ρ):∀{xs:List Dm.Val} {vs:List V} {ds:List Dat},e_ Hs H0 H σ ρ vs xs->Dm.pks ρ xs=some ds->sj H0 H vs ds
 |[],_,ds,r,e=>by cases r;cases e;exact .nil
 |x::xs,_,ds,r,e=>by
  cases r with
  |cons h r=>
   unfold Dm.pks at e;split at e
   ·cases e
   ·rename_i d e1;split at e
    ·cases e
    ·rename_i ds' e2;cases e;exact .cons (h.look st e1) (looks st r e2)
def OpD(r:R2)(g:Dat->Dat->Option RV):Prop:=∀(H0 H:Hp) (x y:V) (dx dy:Dat) (z:RV) (Q:VK),aq H0 H->mq H0 H x dx->mq H0 H y dy->g dx dy=some z ->
 (∀v H0' H',aN H0 H H0' H'->uY H H0' H' v z->Q v H')->r x y H Q
def UnD(r:V->Hp->VK->Prop)(g:Dat->Option RV):Prop:=∀(H0 H:Hp) (x:V) (dx:Dat) (z:RV) (Q:VK),aq H0 H->mq H0 H x dx->g dx=some z ->
 (∀v H0' H',aN H0 H H0' H'->uY H H0' H' v z->Q v H')->r x H Q
def CallD(r:List V->Hp->VK->Prop)(g:List Dat->Option RV):Prop:=∀(H0 H:Hp) (vs:List V) (ds:List Dat) (z:RV) (Q:VK),aq H0 H->sj H0 H vs ds->g ds=some z ->
 (∀v H0' H',aN H0 H H0' H'->uY H H0' H' v z->Q v H')->r vs H Q
def spD(f:List Dat->Option RV):Sp:=fun vs H Q _=>∃H0 ds z,aq H0 H/\aM H0 vs ds/\f ds=some z/\∀v H0' H',aN H0 H H0' H'->uY H H0' H' v z->Q v H'
end
section
variable{σ:St}{H:Hp}{Q:VK}
section
variable{fs:List FE}{d:Dat}{a b:FE}{t u:FT}{v:V}{H0:Hp}
theorem Eg{i:Nat}(h:tD (Dm.eV i) σ H Q):uQ i σ H Q:=by
 obtain⟨H0,ρ,x,ρ',st,e,k⟩:=h;unfold Dm.eV at e;split at e
 ·rename_i d h1;cases e;obtain⟨v,q,r⟩:=st.sh i d h1;exact⟨v,q,k v H0 H (.refl st) r⟩
 ·rename_i d h1;cases e;obtain⟨a,q,_⟩:=st.ow i d h1;exact⟨_,q,k _ H0 H (.refl st) ⟨q,trivial⟩⟩
 ·cases e
theorem jL(c:∀H0:Hp,Rep H0 v d)(h:tD (Dm.eC d) σ H Q):tC v σ H Q:=by obtain⟨H0,ρ,x,ρ',st,e,k⟩:=h;cases e;exact k v H0 H (.refl st) (c H0)
theorem Cr{r:R2}{g:Dat->Dat->Option RV}{fa fb:FE}(o:OpD r g)(h:tD (Dm.e2 g fa fb) σ H Q):tOp r (tD fa) (tD fb) σ H Q:=by
 obtain⟨H0,ρ,x,ρ',st,e,k⟩:=h;unfold Dm.e2 at e;split at e
 ·cases e
 rename_i x1 ρ1 e1;split at e
 ·cases e
 rename_i y1 ρ2 e2;split at e
 ·cases e
 rename_i dx p1;split at e
 ·cases e
 rename_i dy p2;split at e
 ·cases e
 rename_i z gz;cases e;refine⟨H0,ρ,x1,ρ1,st,e1,fun v H1 Hb t1 r1=>⟨H1,ρ1,y1,_,t1.st,e2,fun u H2 Hc t2 r2=>?_⟩⟩;refine o H2 Hc v u dx dy z Q t2.st.same ((r1.mono t2).look t2.st p1) (r2.look t2.st p2) gz fun w H3 Hd g3 r3=>?_;exact k w H3 Hd (t1.trans (t2.trans (.grow t2.st g3))) ((r3.toV t2.st).early fun a n=>(t1.trans t2).stp.gone n)
theorem Iw{r:V->Hp->VK->Prop}{g:Dat->Option RV}{fa:FE}(o:UnD r g)(h:tD (Dm.e1 g fa) σ H Q):tUn r (tD fa) σ H Q:=by
 obtain⟨H0,ρ,x,ρ',st,e,k⟩:=h;unfold Dm.e1 at e;split at e
 ·cases e
 rename_i x1 ρ1 e1;split at e
 ·cases e
 rename_i dx p1;split at e
 ·cases e
 rename_i z gz;cases e;refine⟨H0,ρ,x1,_,st,e1,fun v H1 Hb t1 r1=>?_⟩;refine o H1 Hb v dx z Q t1.st.same (r1.look t1.st p1) gz fun w H3 Hd g3 r3=>?_;exact k w H3 Hd (t1.trans (.grow t1.st g3)) ((r3.toV t1.st).early fun a n=>t1.stp.gone n)
theorem Eh{Q:List V->Hp->Prop}(h:tDA [] σ H Q):xM σ H Q:=by obtain⟨H0,ρ,xs,ρ',st,e,k⟩:=h;cases e;exact k [] H0 H (.refl st) .nil
theorem zh{f:FE}{Q:List V->Hp->Prop}(h:tDA (f::fs) σ H Q):jJ (tD f) (tDA fs) σ H Q:=by
 obtain⟨H0,ρ,xs,ρ',st,e,k⟩:=h;unfold Dm.eAs at e;split at e
 ·cases e
 rename_i x1 ρ1 e1;split at e
 ·cases e
 rename_i xs1 ρ2 e2;cases e;refine⟨H0,ρ,x1,ρ1,st,e1,fun v H1 Hb t1 r1=>⟨H1,ρ1,xs1,_,t1.st,e2,fun vs H2 Hc t2 r2=>?_⟩⟩;exact k (v::vs) H2 Hc (t1.trans t2) (.cons (r1.mono t2) (r2.early fun a n=>t1.stp.gone n))
theorem F2{r:List V->Hp->VK->Prop}{g:List Dat->Option RV}(o:CallD r g)(h:tD (Dm.eB g fs) σ H Q):tCB r (tDA fs) σ H Q:=by
 obtain⟨H0,ρ,x,ρ',st,e,k⟩:=h;unfold Dm.eB at e;split at e
 ·cases e
 rename_i xs ρ1 e1;split at e
 ·cases e
 rename_i ds p1;split at e
 ·cases e
 rename_i z gz;cases e;refine⟨H0,ρ,xs,_,st,e1,fun vs H1 Hb t1 r1=>?_⟩;refine o H1 Hb vs ds z Q t1.st.same (looks t1.st r1 p1) gz fun w H3 Hd g3 r3=>?_;exact k w H3 Hd (t1.trans (.grow t1.st g3)) ((r3.toV t1.st).early fun a n=>t1.stp.gone n)
theorem jM{n:Nat}(h:n<=Dm.SZ):n<=sizeLine:=MQ h (by decide)
theorem Iz(h:tD (Dm.bq fs) σ H Q):Cm (tDA fs) σ H Q:=by
 obtain⟨H0,ρ,x,ρ',st,e,k⟩:=h;unfold Dm.bq at e;split at e
 ·cases e
 rename_i xs ρ1 e1;split at e
 ·cases e
 rename_i ds ρ2 e2;split at e
 ·rename_i hz;cases e;refine⟨H0,ρ,xs,ρ1,st,e1,fun vs H1 Hb t1 r1=>?_⟩;obtain⟨H2,t2,b2,r2⟩:=takes t1 (aq.refl _) r1 e2;refine⟨by rw[r2.length];exact jM hz,fun p hp=>?_⟩;have g:=aN.zf (o:=HO.tup vs) t2.st.same hp;exact k _ _ _ (t2.trans (.grow t2.st g)) (.tup aF (r2.mono g.s0))
 ·cases e
theorem IA(h:tD (Dm.bf fs) σ H Q):Im (tDA fs) σ H Q:=by
 obtain⟨H0,ρ,x,ρ',st,e,k⟩:=h;unfold Dm.bf at e;split at e
 ·cases e
 rename_i xs ρ1 e1;split at e
 ·cases e
 rename_i ds ρ2 e2;split at e
 ·rename_i hz;cases e;refine⟨H0,ρ,xs,ρ1,st,e1,fun vs H1 Hb t1 r1=>?_⟩;obtain⟨H2,t2,b2,r2⟩:=takes t1 (aq.refl _) r1 e2;refine⟨by rw[r2.length];exact jM hz,fun p hp=>?_⟩;have g:=aN.mw (o:=HO.lst vs) t2.st.same hp;refine k _ _ _ (t2.trans (.grow t2.st g)) ⟨p,rfl,t2.stp.gone hp,fun⟨i,d,h1,h2⟩=>?_,t2.st.same.free hp,vs,aF,r2⟩;obtain⟨a,q,_,w⟩:=t2.st.ow i d h1;rw[h2]at q;cases q;obtain⟨o,z⟩:=w.some;rw[hp]at z;cases z
 ·cases e
theorem Rep.plain{H0 H1:Hp}(r:Rep H0 v d)(n:Dm.fL d=false):Rep H1 v d:=by
 cases r with
 |non=>exact .non
 |bl b=>exact .bl b
 |int i=>exact .int i
 |str s=>exact .str s
 |tup _ _=>cases n
 |lst _ _=>cases n
 |dct _ _ _=>cases n
 |dcp _ _ _=>cases n
 |exc _=>cases n
 |di _ _=>cases n
 |fn a=>exact .fn a
theorem Own.box{H0 H:Hp}{a:Addr}(w:Own H0 H a d):Dm.fL d=true:=by
 cases d with
 |lst ds=>rfl
 |dct ks ds=>rfl
 |dcp ks ds=>rfl
 |_=>exact Mr w
theorem zj{f:List Dat->Option RV}{E:XK}(h:tD (Dm.eF f fs) σ H Q):rZ (spD f) [] E (tDA fs) σ H Q:=by
 obtain⟨H0,ρ,x,ρ',st,e,k⟩:=h;unfold Dm.eF at e;split at e
 ·cases e
 rename_i xs ρ1 e1;split at e
 ·cases e
 rename_i ds p1;split at e
 ·cases e
 rename_i z fz;refine⟨H0,ρ,xs,ρ1,st,e1,fun vs H1 Hb t1 r1=>?_⟩;dsimp only;rw[MN];obtain⟨ρ2,e2⟩:=iK p1;obtain⟨H2,t2,b2,r2⟩:=takes t1 (aq.refl _) r1 e2;split at e
 ·rw[e2]at e;cases e;exact⟨H2,ds,z,t2.st.same,r2,fz,fun w H3 Hd g3 r3=>k w H3 Hd (t2.trans (.grow t2.st g3)) ((r3.toV t2.st).early fun a n=>t2.stp.gone n)⟩
 ·rename_i nb;cases e;refine⟨H2,ds,z,t2.st.same,r2,fz,fun w H3 Hd g3 r3=>?_⟩;have g:aN H1 Hb H1 Hd:=⟨aq.refl _,g3.s1,fun a o q=>.inr q,t1.st.same.trans g3.s1⟩
  refine k w H1 Hd (t1.trans (.grow t1.st g)) ?_;cases z with
  |val d=>exact Rep.plain r3 (by simpa [RV.dat] using nb)
  |new d=>obtain⟨a,_,_,_,w⟩:=r3;exact absurd w.box (by simpa [RV.dat] using nb)
theorem Lb{t:FT}(h:tD (Dm.eIf t a b) σ H Q):tIf (tDT t) (tD a) (tD b) σ H Q:=by
 obtain⟨H0,ρ,x,ρ',st,e,k⟩:=h;unfold Dm.eIf at e;split at e
 ·cases e
 ·rename_i ρ1 e1;refine⟨H0,ρ,true,ρ1,st,e1,fun H1 Hb t1=>?_⟩;dsimp only;rw[if_pos rfl];exact⟨H1,ρ1,x,ρ',t1.st,e,fun v H2 Hc t2 r2=>k v H2 Hc (t1.trans t2) (r2.early fun a n=>t1.stp.gone n)⟩
 ·rename_i ρ1 e1;refine⟨H0,ρ,false,ρ1,st,e1,fun H1 Hb t1=>?_⟩;dsimp only;rw[if_neg MF];exact⟨H1,ρ1,x,ρ',t1.st,e,fun v H2 Hc t2 r2=>k v H2 Hc (t1.trans t2) (r2.early fun a n=>t1.stp.gone n)⟩
theorem Rep.qy{c:Bool}(r:Rep H0 v (.bl c)):v=.bl c:=by cases r;rfl
theorem Rep.isInt{c:Int}(r:Rep H0 v (.int c)):v=.int c:=by cases r;rfl
theorem IB(h:tD (Dm.l8 a b) σ H Q):D7 (tD a) (tD b) σ H Q:=by
 obtain⟨H0,ρ,x,ρ',st,e,k⟩:=h;unfold Dm.l8 at e;split at e
 ·rename_i ρ1 e1;refine⟨H0,ρ,_,_,st,e1,fun v H1 Hb t1 r1=>⟨true,Rep.qy r1,?_⟩⟩
  try dsimp only
  rw[if_pos rfl];exact⟨H1,ρ1,x,ρ',t1.st,e,fun v H2 Hc t2 r2=>k v H2 Hc (t1.trans t2) (r2.early fun a n=>t1.stp.gone n)⟩
 ·rename_i ρ1 e1;cases e;refine⟨H0,ρ,_,_,st,e1,fun v H1 Hb t1 r1=>⟨false,Rep.qy r1,?_⟩⟩
  try dsimp only
  rw[if_neg MF];exact k _ H1 Hb t1 (Rep.bl false)
 ·cases e
theorem IC{a:FE}(h:tD (Dm.Cq a) σ H Q):D8 (tD a) σ H Q:=by
 obtain⟨H0,ρ,x,ρ',st,e,k⟩:=h;unfold Dm.Cq at e;split at e
 ·rename_i c ρ1 e1;cases e;exact⟨H0,ρ,_,_,st,e1,fun v H1 Hb t1 r1=>⟨c,Rep.qy r1,k _ H1 Hb t1 (Rep.bl (!c))⟩⟩
 ·cases e
variable{Qt:Bool->Hp->Prop}
theorem zk{a:FE}(h:tDT (Dm.tV a) σ H Qt):Eb (tD a) σ H Qt:=by
 obtain⟨H0,ρ,x,ρ',st,e,k⟩:=h;unfold Dm.tV at e;split at e
 ·rename_i c ρ1 e1;cases e;exact⟨H0,ρ,_,_,st,e1,fun v H1 Hb t1 r1=>⟨_,Rep.qy r1,k H1 Hb t1⟩⟩
 ·cases e
theorem F3{t:FT}(h:tDT (Dm.dh t) σ H Qt):dh (tDT t) σ H Qt:=by
 obtain⟨H0,ρ,x,ρ',st,e,k⟩:=h;unfold Dm.dh at e;split at e
 ·rename_i c ρ1 e1;cases e;exact⟨H0,ρ,_,_,st,e1,fun H1 Hb t1=>k H1 Hb t1⟩
 ·cases e
theorem F4(h:tDT (Dm.lW t u) σ H Qt):lW (tDT t) (tDT u) σ H Qt:=by
 obtain⟨H0,ρ,x,ρ',st,e,k⟩:=h;unfold Dm.lW at e;split at e
 ·rename_i ρ1 e1;refine⟨H0,ρ,_,ρ1,st,e1,fun H1 Hb t1=>?_⟩;dsimp only;rw[if_pos rfl];exact⟨H1,ρ1,x,ρ',t1.st,e,fun H2 Hc t2=>k H2 Hc (t1.trans t2)⟩
 ·rename_i ρ1 e1;cases e;refine⟨H0,ρ,_,_,st,e1,fun H1 Hb t1=>?_⟩;dsimp only;rw[if_neg MF];exact k H1 Hb t1
 ·cases e
theorem ID(h:tDT (Dm.tOr t u) σ H Qt):tOr (tDT t) (tDT u) σ H Qt:=by
 obtain⟨H0,ρ,x,ρ',st,e,k⟩:=h;unfold Dm.tOr at e;split at e
 ·rename_i ρ1 e1;cases e;refine⟨H0,ρ,_,_,st,e1,fun H1 Hb t1=>?_⟩;dsimp only;rw[if_pos rfl];exact k H1 Hb t1
 ·rename_i ρ1 e1;refine⟨H0,ρ,_,ρ1,st,e1,fun H1 Hb t1=>?_⟩;dsimp only;rw[if_neg MF];exact⟨H1,ρ1,x,ρ',t1.st,e,fun H2 Hc t2=>k H2 Hc (t1.trans t2)⟩
 ·cases e
end
end
section
variable{ρ:Dm.Env}{H0 H:Hp}{σ:L2.St}
structure SSt(σ:St)(ρ:Dm.Env)(H0 H:Hp)(σ':St)(ρ':Dm.Env)(H0' H':Hp):Prop where
 st:au H0' H' σ' ρ'
 stp:Stp (ao σ ρ) H0 H H0' H'
 own:∀a,ao σ' ρ' a->ao σ ρ a\/H a=none
 fx:σ'[0]?=σ[0]?
theorem ESt.sst{σ:St}{ρ ρ':Dm.Env}{H0 H H0' H':Hp}(t:ESt σ ρ H0 H ρ' H0' H'):SSt σ ρ H0 H σ ρ' H0' H':=⟨t.st,t.stp,fun a z=>.inl (t.own a z),rfl⟩
theorem SSt.refl{σ:St}(st:au H0 H σ ρ):SSt σ ρ H0 H σ ρ H0 H:=(ESt.refl st).sst
theorem SSt.trans{σ σ1 σ2:St}{ρ ρ1 ρ2:Dm.Env}{H0 H H1 H' H2 H'':Hp}(t:SSt σ ρ H0 H σ1 ρ1 H1 H')(u:SSt σ1 ρ1 H1 H' σ2 ρ2 H2 H''):SSt σ ρ H0 H σ2 ρ2 H2 H'':=
 ⟨u.st,t.stp.trans u.stp t.own,fun a z=>(u.own a z).elim (t.own a) fun n=>.inr (t.stp.gone n),u.fx.trans t.fx⟩
def zm(σ:St)(ρ:Dm.Env)(H H0' H':Hp)(v:V):RV->Prop
 |.val d=>Rep H0' v d
 |.new d=>∃a,v=V.ref a/\(H a=none\/ao σ ρ a)/\H0' a=none/\Own H0' H' a d
def kQ(D:Ends)(σ:St)(ρ:Dm.Env)(H0 H:Hp):Dm.Out->Prop
 |.nx ρ'=>∀σ' H0' H',SSt σ ρ H0 H σ' ρ' H0' H'->D.nx σ' H'
 |.bk ρ'=>∀σ' H0' H',SSt σ ρ H0 H σ' ρ' H0' H'->D.bk σ' H'
 |.ct ρ'=>∀σ' H0' H',SSt σ ρ H0 H σ' ρ' H0' H'->D.ct σ' H'
 |.ret z ρ'=>∀σ' v H0' H',SSt σ ρ H0 H σ' ρ' H0' H'->zm σ ρ H H0' H' v z->(∀d a,z=.new d->v=.ref a->¬ao σ' ρ' a)->D.rt v H'
def tDS(g:FS):TS:=fun D σ H=>∃H0 ρ o,au H0 H σ ρ/\g ρ=some o/\kQ D σ ρ H0 H o
theorem kQ.pre{D:Ends}{σ σ1:St}{ρ ρ1:Dm.Env}{H0 H H1 H':Hp}{o:Dm.Out}(t:SSt σ ρ H0 H σ1 ρ1 H1 H')(k:kQ D σ ρ H0 H o):kQ D σ1 ρ1 H1 H' o:=by
 cases o with
 |nx ρ'=>exact fun σ' H0' H' u=>k σ' H0' H' (t.trans u)
 |bk ρ'=>exact fun σ' H0' H' u=>k σ' H0' H' (t.trans u)
 |ct ρ'=>exact fun σ' H0' H' u=>k σ' H0' H' (t.trans u)
 |ret z ρ'=>
  refine fun σ' v H0' H'' u r no=>k σ' v H0' H'' (t.trans u) ?_ no;cases z with
  |val d=>exact r
  |new d=>
   obtain⟨a,e,n,n0,w⟩:=r;refine⟨a,e,?_,n0,w⟩;rcases n with n | n
   ·exact .inl (t.stp.gone n)
   ·exact(t.own a n).symm
theorem au.mask(st:au H0 H σ ρ)(i:Nat):au H0 H σ (ρ.set i .un) where
 same:=st.same
 len:=by rw[Mx];exact st.len
 sh:=fun j d h=>by
  by_cases q:i=j
  ·subst q;rw[Nk]at h;simp only[if_true]at h;split at h<;>cases h
  ·rw[gp q]at h;exact st.sh j d h
 ow:=fun j d h=>by
  by_cases q:i=j
  ·subst q;rw[Nk]at h;simp only[if_true]at h;split at h<;>cases h
  ·rw[gp q]at h;exact st.ow j d h
 dis:=fun j j' d d' a h1 h2 h3 h4=>by
  by_cases q:i=j
  ·subst q;rw[Nk]at h1;simp only[if_true]at h1;split at h1<;>cases h1
  ·by_cases q':i=j'
   ·subst q';rw[Nk]at h2;simp only[if_true]at h2;split at h2<;>cases h2
   ·rw[gp q]at h1;rw[gp q']at h2;exact st.dis j j' d d' a h1 h2 h3 h4
theorem bY{i:Nat}{a:Addr}(h:ao σ (ρ.set i .un) a):∃(j:Nat) (d:Dat),j≠i/\ρ[j]?=some (Dm.Cell.ow d)/\σ[j]?=some (some (V.ref a)):=by
 obtain⟨j,d,h1,h2⟩:=h;by_cases q:i=j
 ·subst q;rw[Nk]at h1;simp only[if_true]at h1;split at h1<;>cases h1
 ·rw[gp q]at h1;exact⟨j,d,fun z=>q z.symm,h1,h2⟩
end
section
variable{D:Ends}{σ:St}{H:Hp}
theorem Lc(h:tDS Dm.sNx D σ H):v_ D σ H:=by obtain⟨H0,ρ,o,st,e,k⟩:=h;cases e;exact k σ H0 H (.refl st)
theorem IE{s u:FS}(h:tDS (Dm.aG s u) D σ H):rQ (tDS s) (tDS u) D σ H:=by
 obtain⟨H0,ρ,o,st,e,k⟩:=h;unfold Dm.aG at e;split at e
 ·rename_i ρ1 e1;exact⟨H0,ρ,.nx ρ1,st,e1,fun σ' H0' H' t=>⟨H0',ρ1,o,t.st,e,k.pre t⟩⟩
 ·rename_i h1;cases o with
  |nx ρ1=>exact absurd e (h1 ρ1)
  |bk ρ1=>exact⟨H0,ρ,_,st,e,k⟩
  |ct ρ1=>exact⟨H0,ρ,_,st,e,k⟩
  |ret z ρ1=>exact⟨H0,ρ,_,st,e,k⟩
theorem F5{f:FE}(h:tDS (Dm.sE f) D σ H):rR (tD f) D σ H:=by
 obtain⟨H0,ρ,o,st,e,k⟩:=h;unfold Dm.sE at e;split at e
 ·cases e
 ·rename_i x ρ1 e1;cases e;exact⟨H0,ρ,x,ρ1,st,e1,fun v H0' H' t r=>k σ H0' H' t.sst⟩
theorem IF{f:FE}(h:tDS (Dm.sR f) D σ H):Ce (tD f) D σ H:=by
 obtain⟨H0,ρ,o,st,e,k⟩:=h;unfold Dm.sR at e;split at e
 ·cases e
 ·rename_i d ρ1 e1;cases e;refine⟨H0,ρ,_,ρ1,st,e1,fun v H0' H' t r=>?_⟩;obtain⟨a,e,n,no,n0,w⟩:=r;exact k σ v H0' H' t.sst ⟨a,e,.inl n,n0,w⟩ fun d' a' _ e' z=>by rw[e]at e';cases e';exact no z
 ·rename_i d ρ1 e1;cases e;exact⟨H0,ρ,_,ρ1,st,e1,fun v H0' H' t r=>k σ v H0' H' t.sst r fun d' a' z=>by cases z⟩
 ·rename_i i ρ1 e1;split at e
  ·rename_i d h1;cases e;refine⟨H0,ρ,_,ρ1,st,e1,fun v H0' H' t r=>?_⟩;obtain⟨q,_⟩:=r;obtain⟨a,q',n0,w⟩:=t.st.ow i d h1;rw[q]at q';cases q';refine k σ _ H0' H' ⟨t.st.mask i,t.stp,fun b z=>?_,rfl⟩ ⟨a,rfl,.inr (t.own a ⟨i,d,h1,q⟩),n0,w⟩ fun d' a' _ e' z=>?_
   ·obtain⟨j,d2,_,z1,z2⟩:=bY z;exact .inl (t.own b ⟨j,d2,z1,z2⟩)
   ·cases e';obtain⟨j,d2,hj,z1,z2⟩:=bY z;exact hj (t.st.dis j i d2 d a z1 h1 z2 q)
  ·rename_i d h1;cases e;refine⟨H0,ρ,_,ρ1,st,e1,fun v H0' H' t r=>?_⟩;obtain⟨q,_⟩:=r;obtain⟨u,q',w⟩:=t.st.sh i d h1;rw[q]at q';cases q';exact k σ _ H0' H' t.sst w fun d' a' z=>by cases z
  ·cases e
theorem IG{t:FT}{a b:FS}(h:tDS (Dm.sIf t a b) D σ H):yK (tDT t) (tDS a) (tDS b) D σ H:=by
 obtain⟨H0,ρ,o,st,e,k⟩:=h;unfold Dm.sIf at e;split at e
 ·cases e
 ·rename_i ρ1 e1;refine⟨H0,ρ,true,ρ1,st,e1,fun H1 Hb t1=>?_⟩;dsimp only;rw[if_pos rfl];exact⟨H1,ρ1,o,t1.st,e,k.pre t1.sst⟩
 ·rename_i ρ1 e1;refine⟨H0,ρ,false,ρ1,st,e1,fun H1 Hb t1=>?_⟩;dsimp only;rw[if_neg MF];exact⟨H1,ρ1,o,t1.st,e,k.pre t1.sst⟩
end
section
variable{ρ:Dm.Env}{σ:St}{i:Nat}{H0 H:Hp}{d:Dat}{a:Addr}{b:Addr}{o:HO}{v:V}
theorem gG{i j:Nat}{c d:Option V}(h:(σ.set i c)[j]?=some d):(j=i/\d=c)\/(j≠i/\σ[j]?=some d):=by
 by_cases e:j=i
 ·subst e;by_cases l:j<σ.length
  ·rw[Mn l]at h;exact .inl ⟨rfl,(Option.some.inj h).symm⟩
  ·rw[M8 (by simpa using N3.mp l)]at h;cases h
 ·rw[gp (MJ e)]at h;exact .inr ⟨e,h⟩
theorem au.inσ{c d:Dm.Cell}(st:au H0 H σ ρ)(h:(ρ.set i c)[i]?=some d):i<σ.length:=by have:=(Dk.mp h).1;rw[Mx]at this;rw[st.len];exact this
theorem er(h:ao (σ.set i (some v)) (ρ.set i (.sh d)) b):ao σ ρ b:=by
 obtain⟨j,d',h1,h2⟩:=h;rcases aR h1 with⟨_,z⟩ | ⟨hj,h1⟩
 ·cases z
 ·rcases gG h2 with⟨z,_⟩ | ⟨_,h2⟩
  ·exact absurd z hj
  ·exact⟨j,d',h1,h2⟩
theorem au.qz(st:au H0 H σ ρ)(r:Rep H0 v d):au H0 H (σ.set i (some v)) (ρ.set i (.sh d)) where
 same:=st.same
 len:=by rw[Mx,Mx];exact st.len
 sh:=fun j d' h=>by
  rcases aR h with⟨rfl,z⟩ | ⟨hj,h'⟩
  ·cases z;exact⟨v,Mn (st.inσ h),r⟩
  ·obtain⟨u,q,w⟩:=st.sh j d' h';exact⟨u,by rw[gp (MJ hj)];exact q,w⟩
 ow:=fun j d' h=>by
  rcases aR h with⟨_,z⟩ | ⟨hj,h'⟩
  ·cases z
  ·obtain⟨u,q,w⟩:=st.ow j d' h';exact⟨u,by rw[gp (MJ hj)];exact q,w⟩
 dis:=fun j k d1 d2 b h1 h2 h3 h4=>by
  rcases aR h1 with⟨_,z⟩ | ⟨hj,h1⟩
  ·cases z
  rcases aR h2 with⟨_,z⟩ | ⟨hk,h2⟩
  ·cases z
  rw[gp (MJ hj)]at h3;rw[gp (MJ hk)]at h4;exact st.dis j k d1 d2 b h1 h2 h3 h4
theorem au.zo(st:au H0 H σ ρ)(no:¬ao σ ρ a)(n0:H0 a=none)(w:Own H0 H a d):au H0 H (σ.set i (some (.ref a))) (ρ.set i (.ow d)) where
 same:=st.same
 len:=by rw[Mx,Mx];exact st.len
 sh:=fun j d' h=>by
  rcases aR h with⟨_,z⟩ | ⟨hj,h'⟩
  ·cases z
  ·obtain⟨u,q,w⟩:=st.sh j d' h';exact⟨u,by rw[gp (MJ hj)];exact q,w⟩
 ow:=fun j d' h=>by
  rcases aR h with⟨rfl,z⟩ | ⟨hj,h'⟩
  ·cases z;exact⟨a,Mn (st.inσ h),n0,w⟩
  ·obtain⟨u,q,w⟩:=st.ow j d' h';exact⟨u,by rw[gp (MJ hj)];exact q,w⟩
 dis:=fun j k d1 d2 b h1 h2 h3 h4=>by
  rcases aR h1 with⟨e1,z1⟩ | ⟨hj,h1'⟩
  ·rcases aR h2 with⟨e2,z2⟩ | ⟨hk,h2'⟩
   ·rw[e1,e2]
   ·rcases gG h3 with⟨_,z⟩ | ⟨z,_⟩
    ·cases z;rw[gp (MJ hk)]at h4;exact absurd ⟨k,d2,h2',h4⟩ no
    ·exact absurd e1 z
  ·rcases aR h2 with⟨e2,z2⟩ | ⟨hk,h2'⟩
   ·rcases gG h4 with⟨_,z⟩ | ⟨z,_⟩
    ·cases z;rw[gp (MJ hj)]at h3;exact absurd ⟨j,d1,h1',h3⟩ no
    ·exact absurd e2 z
   ·rw[gp (MJ hj)]at h3;rw[gp (MJ hk)]at h4;exact st.dis j k d1 d2 b h1' h2' h3 h4
theorem qB{a b:Addr}(h:ao (σ.set i (some (.ref a))) (ρ.set i (.ow d)) b):b=a\/ao σ ρ b:=by
 obtain⟨j,d',h1,h2⟩:=h;rcases aR h1 with⟨e,_⟩ | ⟨hj,h1⟩
 ·rcases gG h2 with⟨_,z⟩ | ⟨z,_⟩
  ·cases z;exact .inl rfl
  ·exact absurd e z
 ·rcases gG h2 with⟨z,_⟩ | ⟨_,h2⟩
  ·exact absurd z hj
  ·exact .inr ⟨j,d',h1,h2⟩
theorem au.write{d d':Dat}(st:au H0 H σ ρ)(e:ρ[i]?=some (.ow d))(q:σ[i]?=some (some (V.ref a)))(w':Own H0 (upd H a o) a d') :
  au H0 (upd H a o) σ (ρ.set i (.ow d')):=by
 obtain⟨a',q',n,w⟩:=st.ow i d e;rw[q]at q';cases q';refine⟨fun b u z=>?_,by rw[Mx];exact st.len,fun j d1 h=>?_,fun j d1 h=>?_,fun j k d1 d2 b h1 h2 h3 h4=>?_⟩
 ·rw[az (aH z n)];exact st.same _ _ z
 ·rcases aR h with⟨_,z⟩ | ⟨hj,h'⟩
  ·cases z
  ·exact st.sh j d1 h'
 ·rcases aR h with⟨rfl,z⟩ | ⟨hj,h'⟩
  ·cases z;exact⟨a,q,n,w'⟩
  ·obtain⟨b,q1,n1,w1⟩:=st.ow j d1 h';have nb:b≠a:=fun y=>hj (st.dis j i d1 d a h' e (y▸q1) q);exact⟨b,q1,n1,w1.mono (aq.refl _) (az nb)⟩
 ·have f:∀{j:Nat} {d1:Dat},(ρ.set i (.ow d'))[j]?=some (.ow d1)->∃d2,ρ[j]?=some (.ow d2):=fun {j d1} h=>by
   rcases aR h with⟨rfl,_⟩ | ⟨_,h'⟩
   ·exact⟨d,e⟩
   ·exact⟨d1,h'⟩
  obtain⟨x1,y1⟩:=f h1;obtain⟨x2,y2⟩:=f h2;exact st.dis j k x1 x2 b y1 y2 h3 h4
theorem kR{d d':Dat}(e:ρ[i]?=some (.ow d))(h:ao σ (ρ.set i (.ow d')) b):ao σ ρ b:=by
 obtain⟨j,d1,h1,h2⟩:=h;rcases aR h1 with⟨rfl,_⟩ | ⟨_,h'⟩
 ·exact⟨j,d,e,h2⟩
 ·exact⟨j,d1,h',h2⟩
theorem Stp.write(w:ao σ ρ a):Stp (ao σ ρ) H0 H H0 (upd H a o):=
 ⟨aq.refl _,fun b u e n=>by rw [az (show b≠a from fun z=>n (by rw [z];exact w))];exact e,fun b u e=>.inr (.inl e),fun b u e=>by
  by_cases z:b=a
  ·subst z;exact⟨o,aF⟩
  ·exact⟨u,by rw[az z];exact e⟩⟩
end
section
variable{D:Ends}{σ:St}{H:Hp}
section
variable{f:FE}{is:List Nat}{ρ:Dm.Env}{K:gc}{a:Addr}{body:FS}{i:Nat}{ds:List Dat}{d:Dat}{bd:Dm.FB}{xs:List V}{vs:List V}{n:Nat}{H0:Hp}{k:Nat}{fi:Dm.FI}{g:TG}{o:HO}{Q:VK}{E:XK}
theorem zp(h:tDS (Dm.sA i f) D σ H):rT (tD f) (jG i) D σ H:=by
 obtain⟨H0,ρ,o,st,e,k⟩:=h;unfold Dm.sA at e;split at e
 ·cases e
 rename_i hi0;split at e
 ·cases e
 ·rename_i d ρ1 e1;cases e;refine⟨H0,ρ,_,ρ1,st,e1,fun v H0' H' t r=>?_⟩;obtain⟨a,e,n,no,n0,w⟩:=r;subst e;refine k _ H0' H' ⟨t.st.zo no n0 w,t.stp,fun b z=>?_,gp hi0⟩;rcases qB z with rfl | z
  ·exact .inr n
  ·exact .inl (t.own b z)
 ·rename_i x ρ1 _ e1;split at e
  ·cases e
  ·rename_i d ρ2 e2;cases e;refine⟨H0,ρ,_,ρ1,st,e1,fun v H0' H' t r=>?_⟩;obtain⟨H1,t1,b1,r1,_,_⟩:=take1 t (aq.refl _) r e2;exact k _ H1 H' ⟨t1.st.qz r1,t1.stp,fun b z=>.inl (t1.own b (er z)),gp hi0⟩
theorem wu{j:Nat}(h:Def ρ j):Def (ρ.set i (.sh d)) j:=trivial
noncomputable def fh:List Nat->TGs
 |[]=>Ic
 |i::is=>D9 (jG i) (fh is)
theorem qC{H0 H:Hp}{Q:St->Hp->Prop}:∀{is:List Nat} {xs:List V} {ds:List Dat} {σ:St} {ρ ρ':Dm.Env},au H0 H σ ρ->aM H0 xs ds->Dm.sets is ds ρ=some ρ' ->
  (∀σ',au H0 H σ' ρ'->(∀a,ao σ' ρ' a->ao σ ρ a)->(∀j,j∉is->σ'[j]?=σ[j]?)->(∀j,Def ρ j->Def ρ' j)->σ'[0]?=σ[0]?->Q σ' H)->fh is xs σ H Q
 |[],_,[],σ,ρ,ρ',st,r,e,k=>by cases r;cases e;exact⟨rfl,k σ st (fun _ z=>z) (fun _ _=>rfl) (fun _ z=>z) rfl⟩
 |i::is,_,d::ds,σ,ρ,ρ',st,r,e,k=>by
  cases r with
  |cons h r=>
   unfold Dm.sets at e;split at e
   ·cases e
   rename_i hi0;refine⟨_,_,rfl,?_⟩;refine qC (st.qz h) r e fun σ' st' o' n' d' f'=>k σ' st' (fun a z=>er (o' a z)) (fun j hj=>?_) (fun j z=>d' j (wu z)) (f'.trans (gp hi0));rw[n' j fun z=>hj (MB _ z)];exact gp fun z=>hj (by rw[z];exact MA)
 |[],_,_::_,_,_,_,_,_,e,_=>by cases e
 |_::_,_,[],_,_,_,_,_,e,_=>by cases e
theorem mz:∀{is:List Nat} {ds:List Dat} {ρ ρ':Dm.Env},Dm.sets is ds ρ=some ρ'->ds.length=is.length
 |[],[],_,_,_=>rfl
 |i::is,_::ds,_,_,e=>by
  unfold Dm.sets at e;split at e
  ·cases e
  ·simp[mz (is:=is) (ds:=ds) e]
 |[],_::_,_,_,e=>by cases e
 |_::_,[],_,_,e=>by cases e
def BD(is:List Nat)(g:TG)(bd:Dm.FB):Prop:=∀(H0 H:Hp) (σ:St) (ρ ρ':Dm.Env) (x:V) (d:Dat) (Q:St->Hp->Prop),au H0 H σ ρ->Rep H0 x d->bd d ρ=some ρ' ->
 (∀σ',au H0 H σ' ρ'->(∀a,ao σ' ρ' a->ao σ ρ a)->(∀j,j∉is->σ'[j]?=σ[j]?)->(∀j,Def ρ j->Def ρ' j)->σ'[0]?=σ[0]?->Q σ' H)->g x σ H Q
theorem wz(i:Nat):BD [i] (jG i) (Dm.bN i):=by
 intro H0 H σ ρ ρ' x d Q st r e k;unfold Dm.bN at e;split at e
 ·cases e
 rename_i hi0;cases e;refine k _ (st.qz r) (fun a z=>er z) (fun j hj=>?_) (fun j h=>wu h) (gp hi0);exact gp (fun z=>hj (by rw[z];exact M9.mpr rfl))
theorem zq(hn:is.length=n)(h:tDS (Dm.sU is f) D σ H):rT (tD f) (Fp K n (fh is)) D σ H:=by
 obtain⟨H0,ρ,o,st,e,k⟩:=h;unfold Dm.sU at e;split at e
 ·cases e
 ·rename_i x ρ1 e1;split at e
  ·rename_i ds ρ2 e2;split at e
   ·cases e
   ·rename_i ρ3 e3;cases e;refine⟨H0,ρ,_,ρ1,st,e1,fun v H0' H' t r=>?_⟩;obtain⟨H1,t1,b1,r1,_,_⟩:=take1 t (aq.refl _) r e2;cases r1 with
    |tup q rs=>refine⟨_,_,rfl,SqT.of (t1.st.same _ _ q),by rw[rs.length,mz e3,hn],?_⟩;exact qC t1.st rs e3 fun σ' st' o' _ _ f'=>k σ' H1 H' ⟨st',t1.stp,fun a z=>.inl (t1.own a (o' a z)),f'⟩
  ·cases e
theorem zu(is:List Nat)(hn:is.length=n):BD is (Fp K n (fh is)) (Dm.bT is):=by
 intro H0 H σ ρ ρ' x d Q st r e k;unfold Dm.bT at e;split at e
 ·cases r with
  |tup q rs=>exact⟨_,_,rfl,SqT.of (st.same _ _ q),by rw[rs.length,mz e,hn],qC st rs e k⟩
 ·cases e
theorem II(h:tDS (Dm.sd i f) D σ H):rR (tBM K "list" wj (uQ i) (tDA [f])) D σ H:=by
 obtain⟨H0,ρ,o,st,e,k⟩:=h;unfold Dm.sd at e;split at e
 ·rename_i ds0 h0;obtain⟨a0,q0,n0,w0⟩:=st.ow i _ h0;refine⟨_,q0,?_⟩;split at e
  ·cases e
  rename_i x ρ1 e1;split at e
  ·cases e
  rename_i d ρ2 e2;split at e
  ·rename_i ds h2;split at e
   ·rename_i hz;cases e;obtain⟨xs0,y0,_⟩:=w0;refine⟨.inl ⟨rfl,xs0,.inl (.inl y0)⟩,?_⟩;refine⟨H0,ρ,[x],ρ1,st,by unfold Dm.eAs;rw[e1];rfl,fun vs H0' H' t r=>?_⟩;cases r with
    |cons r rr=>
     cases rr;obtain⟨H1,t1,b1,r1,_,_⟩:=take1 t (aq.refl _) r e2;obtain⟨a,q,n,w⟩:=t1.st.ow i _ h2;rw[q0]at q;cases q;obtain⟨xs,y,rs⟩:=w;refine⟨a0,xs,_,rfl,rfl,y,by rw[rs.length];exact Ms hz (by decide),?_⟩;have ow:ao σ ρ2 a0:=⟨i,_,h2,q0⟩
     refine k σ H1 _ ⟨t1.st.write h2 q0 ⟨_,aF,rs.append (.cons r1 .nil)⟩,t1.stp.trans (Stp.write ow) fun b z=>.inl (t1.own b z),fun b z=>.inl (t1.own b (kR h2 z)),rfl⟩
   ·cases e
  ·cases e
 ·cases e
theorem F6(n:Nat)(i:Int):Dm.ixN n i=L2.ixN n i:=rfl
theorem IJ{j f:FE}(h:tDS (Dm.l9 i j f) D σ H):rT (tD f) (fU (uQ i) (tD j) Ef) D σ H:=by
 obtain⟨H0,ρ,o,st,e,k⟩:=h;unfold Dm.l9 at e;split at e
 ·cases e
 rename_i x ρ1 e1;split at e
 ·cases e
 rename_i d ρ2 e2;split at e
 case h_2=>cases e
 rename_i d0 h2;split at e
 ·rename_i m ρ3 e3;split at e
  ·rename_i ds h3;split at e
   ·cases e
   ·rename_i p e4;cases e;refine⟨H0,ρ,_,ρ1,st,e1,fun v H0' H' t r=>?_⟩;obtain⟨H1,t1,b1,r1,_,_⟩:=take1 t (aq.refl _) r e2;obtain⟨a0,q0,_,_⟩:=t1.st.ow i _ h2;refine⟨_,q0,H1,ρ2,_,ρ3,t1.st,e3,fun u H2 Hc t2 r2=>?_⟩;obtain⟨a,q,n,w⟩:=t2.st.ow i _ h3;rw[q0]at q;cases q;obtain⟨xs,y,rs⟩:=w;refine⟨a0,xs,m,p,rfl,Rep.isInt r2,y,by rw[rs.length];exact e4,?_⟩;have ow:ao σ ρ3 a0:=⟨i,_,h3,q0⟩
    have tt:=t1.trans t2;refine k σ H2 _ ⟨t2.st.write h3 q0 ⟨_,aF,rs.set (r1.mono t2.stp.s0) p⟩,tt.stp.trans (Stp.write ow) fun b z=>.inl (tt.own b z),fun b z=>.inl (tt.own b (kR h3 z)),rfl⟩
  ·cases e
 ·cases e
def JW(J:It)(H00:Hp)(ys:List Dat):Prop:=∀H0 H,aq H00 H0->aq H0 H->(∀i,ys.length<=i->J.stop i H) /\
 ∀(i:Nat) (d:Dat),ys[i]?=some d->J.go i H/\∀x H',J.yld i H x H'->∃H0',aN H0 H H0' H'/\Rep H0' x d
def tDI(fi:Dm.FI):TI:=fun σ H R=>∃H0 ρ ys ρ',au H0 H σ ρ/\fi ρ=some (ys,ρ')/\∀J H0' H',ESt σ ρ H0 H ρ' H0' H'->JW J H0' ys->R J H'
theorem IK(hb:BD is g bd)(h:tDS (Dm.fW fi bd body) D σ H):Ie (tDI fi) g (tDS body) D σ H:=by
 obtain⟨H0,ρ,o,st,e,k⟩:=h;unfold Dm.fW at e;split at e
 ·cases e
 rename_i ys ρ1 e1;refine⟨H0,ρ,ys,ρ1,st,e1,fun J H00 Hb t1 jw=>?_⟩;refine ⟨fun i m σ H=>∃ H0 ρ o,au H0 H σ ρ∧aq H00 H0∧m=ys.length-i∧i≤ys.length∧Dm.kB bd body (ys.drop i) ρ=some o∧kQ D σ ρ H0 H o,
  ⟨ys.length,H00,ρ1,o,t1.st,aq.refl _,by simp,MW _,by simpa using e,k.pre t1.sst⟩,?_⟩
 rintro i m σ H ⟨H0,ρ,o,st,s00,rfl,hi,e,k⟩;obtain⟨js,jg⟩:=jw H0 H s00 st.same;by_cases JZ:i<ys.length
 ·have hd:ys[i]?=some ys[i]:=by simp[JZ]
  obtain⟨g1,g2⟩:=jg i ys[i] hd;rw[List.drop_eq_getElem_cons JZ]at e;unfold Dm.kB at e;refine .inr ⟨g1,fun σ' H'=>∃H0 ρ o,au H0 H' σ' ρ/\aq H00 H0/\Dm.kB bd body (ys.drop (i+1)) ρ=some o/\kQ D σ' ρ H0 H' o,?_,fun x H' y=>?_⟩
  ·rintro σ' H' ⟨H0',ρ',o',h1,h2,h3,h4⟩;exact⟨ys.length-(i+1),by lia,H0',ρ',o',h1,h2,rfl,JZ,h3,h4⟩
  ·obtain⟨H0',gr,rx⟩:=g2 x H' y;split at e
   ·cases e
   ·rename_i ρ2 e2;have t2:=ESt.grow st gr;refine hb H0' H' σ ρ ρ2 x ys[i] _ t2.st rx e2 fun σ2 st2 o2 _ _ f2=>?_;have t3:SSt σ ρ H0 H σ2 ρ2 H0' H':=⟨st2,t2.stp,fun a z=>.inl (o2 a z),f2⟩
    have k3:=k.pre t3;have s3:aq H00 H0':=s00.trans gr.s0;split at e
    ·rename_i ρ3 e3;exact⟨H0',ρ2,_,st2,e3,fun σ4 H4 Hd t4=>⟨H4,ρ3,o,t4.st,s3.trans t4.stp.s0,e,k3.pre t4⟩⟩
    ·rename_i ρ3 e3;exact⟨H0',ρ2,_,st2,e3,fun σ4 H4 Hd t4=>⟨H4,ρ3,o,t4.st,s3.trans t4.stp.s0,e,k3.pre t4⟩⟩
    ·rename_i ρ3 e3;cases e;exact⟨H0',ρ2,_,st2,e3,k3⟩
    ·rename_i v ρ3 e3;cases e;exact⟨H0',ρ2,_,st2,e3,k3⟩
    ·cases e
 ·have e':i=ys.length:=by lia
  subst e';rw[List.drop_length]at e;cases e;exact .inl ⟨js _ (Mj _),k σ H0 H (.refl st)⟩
theorem Cs(hq:Rd H0 a (.lst xs))(rs:aM H0 xs ds):JW (Itl K a) H0 ds:=by intro H0' H s0 s1;have q:SqL K H a xs:=.inl (aq.rd s1 (aq.rd s0 hq));refine⟨fun i hi=>⟨xs,q,by rw[rs.length];exact hi⟩,fun i d e=>?_⟩;obtain⟨v,hv,rv⟩:=rs.get e;refine⟨⟨xs,v,q,hv⟩,fun x H' y=>?_⟩;obtain⟨e1,y⟩:=y;subst e1;have z:=y xs q;rw[hv]at z;cases z;exact⟨H0',aN.refl s1,rv.mono s0⟩
theorem F7(hq:H0 a=some (.tup xs))(rs:aM H0 xs ds):JW (Itt K a) H0 ds:=by intro H0' H s0 s1;have q:SqT K H a xs:=.inl (.inl (s1 _ _ (s0 _ _ hq)));refine⟨fun i hi=>⟨xs,q,by rw[rs.length];exact hi⟩,fun i d e=>?_⟩;obtain⟨v,hv,rv⟩:=rs.get e;refine⟨⟨xs,v,q,hv⟩,fun x H' y=>?_⟩;obtain⟨e1,y⟩:=y;subst e1;have z:=y xs q;rw[hv]at z;cases z;exact⟨H0',aN.refl s1,rv.mono s0⟩
theorem sq{lo:Int}:JW (Itr lo n) H0 (Dm.ups lo n):=by
 intro H0' H s0 s1;have el:(Dm.ups lo n).length=n:=by simp[Dm.ups]
 refine⟨fun i hi=>by rw[el]at hi;exact hi,fun i d e=>?_⟩;have hi:i<n:=by have:=(Dk.mp e).1;rw[el]at this;exact this
 have hd:d=.int (lo+i):=by unfold Dm.ups at e;rw[Mq,Np hi]at e;exact(Option.some.inj e).symm
 refine⟨hi,fun x H' y=>?_⟩;obtain⟨rfl,rfl⟩:=y;subst hd;exact⟨H0',aN.refl s1,.int _⟩
variable{R:It->Hp->Prop}
theorem Ld(h:tDI (Dm.iL f) σ H R):rW K (tD f) σ H R:=by
 obtain⟨H0,ρ,ys,ρ',st,e,k⟩:=h;unfold Dm.iL at e;split at e
 ·cases e
 rename_i x ρ1 e1;split at e
 ·rename_i ds ρ2 e2;cases e;refine⟨H0,ρ,_,ρ1,st,e1,fun v H0' H' t r=>?_⟩;obtain⟨H1,t1,b1,r1,_,_⟩:=take1 t (aq.refl _) r e2;cases r1 with
  |lst q rs=>exact⟨_,rfl,⟨_,.inl (aq.rd t1.st.same q)⟩,k _ H1 H' t1 (Cs q rs)⟩
 ·cases e
theorem Le(h:tDI (Dm.iT f) σ H R):yO K (tD f) σ H R:=by
 obtain⟨H0,ρ,ys,ρ',st,e,k⟩:=h;unfold Dm.iT at e;split at e
 ·cases e
 rename_i x ρ1 e1;split at e
 ·rename_i ds ρ2 e2;cases e;refine⟨H0,ρ,_,ρ1,st,e1,fun v H0' H' t r=>?_⟩;obtain⟨H1,t1,b1,r1,_,_⟩:=take1 t (aq.refl _) r e2;cases r1 with
  |tup q rs=>exact⟨_,rfl,⟨_,.inl (.inl (t1.st.same _ _ q))⟩,k _ H1 H' t1 (F7 q rs)⟩
 ·cases e
theorem Ei(h:tDI (Dm.iR1 f) σ H R):yQ (tDA [f]) σ H R:=by
 obtain⟨H0,ρ,ys,ρ',st,e,k⟩:=h;unfold Dm.iR1 at e;split at e
 ·rename_i j ρ1 e1;split at e
  ·rename_i hb;cases e;refine⟨H0,ρ,[.val (.int j)],_,st,by unfold Dm.eAs;rw[e1];rfl,fun vs H0' H' t r=>?_⟩;cases r with
   |cons r rr=>cases rr;cases Rep.isInt r;have h1:=hb.1;have h2:=hb.2;unfold Dm.BIG at h1 h2;exact⟨j,rfl,by lia,by lia,k _ H0' H' t sq⟩
  ·cases e
 ·cases e
theorem IL{f g:FE}(h:tDI (Dm.iR2 f g) σ H R):D_ (tDA [f,g]) σ H R:=by
 obtain⟨H0,ρ,ys,ρ',st,e,k⟩:=h;unfold Dm.iR2 at e;split at e
 ·rename_i i ρ1 e1;split at e
  ·rename_i j ρ2 e2;split at e
   ·rename_i hb;cases e;refine⟨H0,ρ,[.val (.int i),.val (.int j)],_,st,by unfold Dm.eAs;rw[e1];dsimp only;unfold Dm.eAs;rw[e2];rfl,fun vs H0' H' t r=>?_⟩;cases r with
    |cons r rr=>
     cases rr with
     |cons r' rr=>cases rr;cases Rep.isInt r;cases Rep.isInt r';obtain⟨h1,h2,h3,h4⟩:=hb;unfold Dm.BIG at h1 h2 h3 h4;exact⟨i,j,rfl,⟨by lia,by lia,by lia,by lia⟩,k _ H0' H' t sq⟩
   ·cases e
  ·cases e
 ·cases e
def tLC(wi:TI)(own:Nat)(g:TG)(tt:TT)(te:TE):TE:=fun σ H Q=>wi σ H fun J H1=>∀D,H1 D=none->∃W:Nat->Nat->St->Hp->Prop,
 (∃m,W 0 m (σ++gV own none) (upd H1 D (.lst [])))/\∀i m σ' H',W i m σ' H' ->
  (J.stop i H'∧Q (.ref D) H')∨(J.go i H'∧∀ x H2,J.yld i H' x H2→g x σ' H2 fun σ2 H3=>tt σ2 H3 fun b H4=>if b=true
   then te σ2 H4 fun y H5=>∃EA,H5 D=some (.lst EA)/\EA.length<sizeLine/\∃m',m'<m/\W (i+1) m' σ2 (upd H5 D (.lst (EA++[y])))
   else ∃m',m'<m/\W (i+1) m' σ2 H4)
theorem au.aside{H0 H:Hp}{σ:St}(st:au H0 H σ ρ)(n0:H0 a=none)(no:¬ao σ ρ a):au H0 (upd H a o) σ ρ where
 same:=fun b u z=>by rw[az (aH z n0)];exact st.same _ _ z
 len:=st.len
 sh:=st.sh
 ow:=fun j d h=>by obtain⟨b,q,n,w⟩:=st.ow j d h;have nb:b≠a:=fun y=>no ⟨j,d,h,y▸q⟩;exact⟨b,q,n,w.mono (aq.refl _) (az nb)⟩
 dis:=st.dis
theorem au.gH{H0 H:Hp}{σ:St}(st:au H0 H σ ρ)(h:H a=none):¬ao σ ρ a:=fun⟨i,d,h1,h2⟩=>by obtain⟨b,q,n,w⟩:=st.ow i d h1;rw[h2]at q;cases q;obtain⟨o,z⟩:=w.some;rw[h]at z;cases z
theorem jN{α:Type}{l:List α}{r:List α}{x:α}(h:(l++r)[i]?=some x)(n:x∉r):i<l.length/\l[i]?=some x:=by
 by_cases hi:i<l.length
 ·rw[HT hi]at h;exact⟨hi,h⟩
 ·rw[Mp (N3.mp hi)]at h;exact absurd (N2 h) n
theorem zv:Dm.Cell.sh d∉gV k Dm.Cell.un:=fun h=>by have:=List.eq_of_mem_replicate h;cases this
theorem jO:Dm.Cell.ow d∉gV k Dm.Cell.un:=fun h=>by have:=List.eq_of_mem_replicate h;cases this
theorem au.ext{H0 H:Hp}{σ:St}(st:au H0 H σ ρ)(k:Nat):au H0 H (σ++gV k none) (ρ++gV k .un) where
 same:=st.same
 len:=by simp[st.len]
 sh:=fun i d h=>by obtain⟨hi,h⟩:=jN h zv;obtain⟨v,q,r⟩:=st.sh i d h;exact⟨v,by rw[HT (by rw[st.len];exact hi)];exact q,r⟩
 ow:=fun i d h=>by obtain⟨hi,h⟩:=jN h jO;obtain⟨v,q,r⟩:=st.ow i d h;exact⟨v,by rw[HT (by rw[st.len];exact hi)];exact q,r⟩
 dis:=fun i j d e a h1 h2 h3 h4=>by obtain⟨hi,h1⟩:=jN h1 jO;obtain⟨hj,h2⟩:=jN h2 jO;rw[HT (by rw[st.len];exact hi)]at h3;rw[HT (by rw[st.len];exact hj)]at h4;exact st.dis i j d e a h1 h2 h3 h4
theorem pF{H0 H:Hp}{σ:St}(st:au H0 H σ ρ)(h:ao (σ++gV k none) (ρ++gV k .un) a):ao σ ρ a:=by obtain⟨i,d,h1,h2⟩:=h;obtain⟨hi,h1⟩:=jN h1 jO;rw[HT (by rw[st.len];exact hi)]at h2;exact⟨i,d,h1,h2⟩
theorem Stp.aside{O:Addr->Prop}{H0 H H0' H':Hp}{D:Addr}(t:Stp O H0 H H0' H')(hD:H D=none):Stp O H0 H H0' (upd H' D o):=
 ⟨t.s0,fun a u e n=>by rw[az (aH e hD)];exact t.s1 a u e n,t.s2,fun a u e=>by rw[az (aH e hD)];exact t.s3 a u e⟩
theorem ESt.iC{σ:St}{ρ ρ':Dm.Env}{H0 H H0' H':Hp}(t:ESt σ ρ H0 H ρ' H0' H'){D:Addr}(h:H D=some o)(n0:H0 D=none)(no:¬ao σ ρ D):H' D=some o/\H0' D=none/\¬ao σ ρ' D:=by
 refine⟨t.stp.s1 D o h no,?_,fun z=>no (t.own D z)⟩;cases q:H0' D with
 |none=>rfl
 |some u=>
  rcases t.stp.s2 D u q with z | z | z
  ·rw[h]at z;cases z
  ·rw[n0]at z;cases z
  ·exact absurd z no
def JWa(J:It)(H00:Hp)(pa:Option (Addr×HO))(ys:List Dat):Prop:=∀H0 H,aq H00 H0->aq H0 H->(∀q,pa=some q->H q.1=some q.2)->(∀i,ys.length<=i->J.stop i H) /\
 ∀(i:Nat) (d:Dat),ys[i]?=some d->J.go i H/\∀x H',J.yld i H x H'->∃H0',aN H0 H H0' H'/\Rep H0' x d
theorem sr{σ:St}{own:Nat}{t:FT}{el:FE}{Q:VK}{H00 Hb:Hp}{ρ1 ρ2:Dm.Env}{ds ys:List Dat}{J:It}{pa:Option (Addr×HO)}(hb:BD is g bd)(hl:∀i∈is,σ.length<=i)
  (st1:au H00 Hb σ ρ1) (hp:∀q,pa=some q->Hb q.1=some q.2/\H00 q.1=none/\¬ao σ ρ1 q.1) (jw:JWa J H00 pa ds) (hsz:ds.length<=Dm.SZ) (e2:Dm.e9 bd t el ds (ρ1++gV own .un) []=some (ys,ρ2))
  (k:∀v H0' H',ESt σ ρ1 H00 Hb (ρ2.take ρ1.length) H0' H'->gF Hb H0' H' σ (ρ2.take ρ1.length) v (.new (.lst ys))->(∀q,pa=some q->H' q.1=some q.2/\H0' q.1=none)->Q v H') (D:Addr) (hD:Hb D=none) :
  ∃W:Nat->Nat->St->Hp->Prop,(∃m,W 0 m (σ++gV own none) (upd Hb D (.lst [])))/\∀i m σ' H',W i m σ' H' ->
  (J.stop i H'∧Q (.ref D) H')∨(J.go i H'∧∀ x H2,J.yld i H' x H2→g x σ' H2 fun σ2 H3=>tDT t σ2 H3 fun b H4=>if b=true
   then tD el σ2 H4 fun y H5=>∃EA,H5 D=some (.lst EA)/\EA.length<sizeLine/\∃m',m'<m/\W (i+1) m' σ2 (upd H5 D (.lst (EA++[y])))
   else ∃m',m'<m/\W (i+1) m' σ2 H4):=by
 have hpD:∀q,pa=some q->q.1≠D:=fun q e z=>by have:=(hp q e).1;rw[z,hD]at this;cases this
 have noD:¬ao σ ρ1 D:=st1.gH hD;refine ⟨fun i m σ' H'=>∃ (H0c:Hp) (ρc:Dm.Env) (xR:List Dat) (u5:List V),au H0c H' σ' ρc∧aq H00 H0c∧m=ds.length-i∧i≤ds.length∧Dm.e9 bd t el (ds.drop i) ρc xR=some (ys,ρ2) ∧
  H' D=some (.lst u5)/\aM H0c u5 xR/\H0c D=none/\xR.length<=i/\Stp (ao σ ρ1) H00 Hb H0c H'/\(∀j,j<σ.length->σ'[j]?=σ[j]?)/\(∀a,ao σ' ρc a->ao σ ρ1 a)/\(∀j,Def ρ1 j->Def ρc j)/\(∀q,pa=some q->H' q.1=some q.2/\H0c q.1=none/\¬ao σ' ρc q.1),
  ⟨ds.length,H00,ρ1++gV own .un,[],[],(st1.aside (st1.same.free hD) noD).ext own,aq.refl _,by simp,MW _,by simpa using e2,aF,.nil,st1.same.free hD,MW _,(Stp.refl _ _ _).aside hD,
   fun j hj=>HT hj,fun a z=>pF st1 z,fun j z=>trivial,fun q e=>⟨by rw[az (hpD q e)];exact(hp q e).1,(hp q e).2.1,fun z=>(hp q e).2.2 (pF st1 z)⟩⟩,?_⟩
 rintro i m σ' H' ⟨H0c,ρc,xR,u5,sc,s00,rfl,hi,ec,hDl,ra,n0,hal,sp,hσ,ho,hdf,hpc⟩;have nOc:¬ao σ' ρc D:=fun z=>noD (ho D z);obtain⟨js,jg⟩:=jw H0c H' s00 sc.same fun q e=>(hpc q e).1;by_cases JZ:i<ds.length
 ·have hd:ds[i]?=some ds[i]:=by simp[JZ]
  obtain⟨g1,g2⟩:=jg i ds[i] hd;rw[List.drop_eq_getElem_cons JZ]at ec;unfold Dm.e9 at ec;refine .inr ⟨g1,fun y H2 yy=>?_⟩;obtain⟨H0',gr,rx⟩:=g2 y H2 yy;split at ec
  ·cases ec
  rename_i ρ3 e3;have t2:=ESt.grow sc gr;obtain⟨hD2,n02,no2⟩:=t2.iC hDl n0 nOc;have hp2:=fun q e=>t2.iC (hpc q e).1 (hpc q e).2.1 (hpc q e).2.2;refine hb H0' H2 σ' ρc ρ3 y ds[i] _ t2.st rx e3 fun σ3 st3 o3 k3 d3 _=>?_;have no3:¬ao σ3 ρ3 D:=fun z=>no2 (o3 D z);have po3:∀q,pa=some q->¬ao σ3 ρ3 q.1:=fun q e z=>(hp2 q e).2.2 (o3 q.1 z);have hσ3:∀j,j<σ.length->σ3[j]?=σ[j]?:=fun j hj=>(k3 j fun z=>N3.mpr (hl j z) hj).trans (hσ j hj);have ho3:∀a,ao σ3 ρ3 a->ao σ ρ1 a:=fun a z=>ho a (o3 a z);have IM:∀j,Def ρ1 j->Def ρ3 j:=fun j z=>d3 j (hdf j z);have sp3:Stp (ao σ ρ1) H00 Hb H0' H2:=sp.trans t2.stp fun a z=>.inl (ho a z);have ra3:=ra.mono gr.s0;have s3:aq H00 H0':=s00.trans gr.s0;split at ec
  ·cases ec
  ·rename_i ρ4 e4;refine⟨H0',ρ3,false,ρ4,st3,e4,fun qD H'' t4=>?_⟩;dsimp only;rw[if_neg MF];obtain⟨hD4,n04,no4⟩:=t4.iC hD2 n02 no3;have hp4:=fun q e=>t4.iC (hp2 q e).1 (hp2 q e).2.1 (po3 q e);exact⟨ds.length-(i+1),by lia,qD,ρ4,xR,u5,t4.st,s3.trans t4.stp.s0,rfl,JZ,ec,hD4,ra3.mono t4.stp.s0,n04,Nat.le_succ_of_le hal,sp3.trans t4.stp fun a z=>.inl (ho3 a z),hσ3,fun a z=>ho3 a (t4.own a z),fun j z=>t4.dfn j (IM j z),hp4⟩
  ·rename_i ρ4 e4;refine⟨H0',ρ3,true,ρ4,st3,e4,fun qD H'' t4=>?_⟩;dsimp only;rw[if_pos rfl];obtain⟨hD4,n04,no4⟩:=t4.iC hD2 n02 no3;have hp4:=fun q e=>t4.iC (hp2 q e).1 (hp2 q e).2.1 (po3 q e);split at ec
   ·cases ec
   rename_i x5 ρ5 e5;split at ec
   ·cases ec
   rename_i y6 ρ6 e6;refine⟨qD,ρ4,x5,ρ5,t4.st,e5,fun v H5 Hc t5 r5=>?_⟩;obtain⟨H6,t6,b6,r6,_,_⟩:=take1 t5 (aq.refl _) r5 e6;obtain⟨hD6,n06,no6⟩:=t6.iC hD4 n04 no4;have hp6:=fun q e=>t6.iC (hp4 q e).1 (hp4 q e).2.1 (hp4 q e).2.2;refine⟨u5,hD6,?_,ds.length-(i+1),by lia,H6,ρ6,xR++[y6],u5++[v],t6.st.aside n06 no6,(s3.trans t4.stp.s0).trans t6.stp.s0,rfl,JZ,ec,aF,?_,n06,?_,?_,hσ3,fun a z=>ho3 a (t4.own a (t6.own a z)),fun j z=>t6.dfn j (t4.dfn j (IM j z)),fun q e=>⟨by rw[az (hpD q e)];exact(hp6 q e).1,(hp6 q e).2.1,(hp6 q e).2.2⟩⟩
   ·rw[ra.length];unfold Dm.SZ at hsz;exact Nat.lt_of_le_of_lt (MQ hal (MQ (NG JZ) hsz)) (by decide)
   ·exact((ra3.mono t4.stp.s0).mono t6.stp.s0).append (.cons r6 .nil)
   ·rw[Mt,M1];lia
   ·exact((sp3.trans t4.stp fun a z=>.inl (ho3 a z)).trans t6.stp fun a z=>.inl (ho3 a (t4.own a z))).aside hD
 ·have e':i=ds.length:=by lia
  subst e';rw[List.drop_length]at ec;cases ec;refine .inl ⟨js _ (Mj _),k _ H0c H' ?_ ?_ fun q e=>⟨(hpc q e).1,(hpc q e).2.1⟩⟩
  ·have yi:σ.length<=ρ2.length:=by
    rw[<- sc.len];refine N3.mp fun z=>?_;have q:=hσ σ'.length z;rw[M8 (Mj _),Me z]at q;cases q
   have tk:∀{j:Nat} {c:Dm.Cell},(ρ2.take ρ1.length)[j]?=some c->j<σ.length/\ρ2[j]?=some c:=fun {j c} h=>by
    have hj:j<ρ1.length:=by
     have:=(Dk.mp h).1;rw[NS]at this
     lia
    rw[NH hj]at h;exact⟨by rw[st1.len];exact hj,h⟩
   have own':∀a,ao σ (ρ2.take ρ1.length) a->ao σ' ρ2 a:=fun a ⟨j,d,h1,h2⟩=>by obtain⟨hj,h1⟩:=tk h1;exact⟨j,d,h1,(hσ j hj).trans h2⟩
   refine⟨⟨sc.same,?_,fun j d h=>?_,fun j d h=>?_,fun j j' d d' a h1 h2 h3 h4=>?_⟩,sp,fun a z=>ho a (own' a z),fun j z=>?_⟩
   ·rw[NS,<- st1.len];lia
   ·obtain⟨hj,h⟩:=tk h;obtain⟨v,q,r⟩:=sc.sh j d h;exact⟨v,(hσ j hj).symm.trans q,r⟩
   ·obtain⟨hj,h⟩:=tk h;obtain⟨v,q,r⟩:=sc.ow j d h;exact⟨v,(hσ j hj).symm.trans q,r⟩
   ·obtain⟨hj,h1⟩:=tk h1;obtain⟨hj',h2⟩:=tk h2;exact sc.dis j j' d d' a h1 h2 ((hσ j hj).trans h3) ((hσ j' hj').trans h4)
   ·trivial
  ·refine⟨D,rfl,hD,fun⟨j,d,h1,h2⟩=>?_,n0,u5,hDl,ra⟩;have hj:j<ρ1.length:=by
    have:=(Dk.mp h1).1;rw[NS]at this
    lia
   rw[NH hj]at h1;exact nOc ⟨j,d,h1,(hσ j (by rw[st1.len];exact hj)).trans h2⟩
theorem qE{own:Nat}{t:FT}{el:FE}(hb:BD is g bd)(hl:∀i∈is,σ.length<=i)(h:tD (Dm.bX fi own bd t el) σ H Q) :
  tLC (tDI fi) own g (tDT t) (tD el) σ H Q:=by
 obtain⟨H0,ρ,x,ρ',st,e,k⟩:=h;unfold Dm.bX at e;split at e
 ·cases e
 rename_i ds ρ1 e1;split at e
 case isFalse=>cases e
 rename_i hsz;split at e
 ·cases e
 rename_i ys ρ2 e2;cases e;refine⟨H0,ρ,ds,ρ1,st,e1,fun J H00 Hb t1 jw D hD=>sr (pa:=none) hb hl t1.st (fun q e=>by cases e) (fun H0 H s0 s1 _=>jw H0 H s0 s1) hsz e2 (fun v H0' H' t2 r2 _=>k v H0' H' (t1.trans t2) (r2.early fun a n=>t1.stp.gone n)) D hD⟩
theorem qF{n m:Nat}{H:Hp}(h:spD (Dm.fn n m body) vs H Q E):vs.length=n:=by
 obtain⟨H0,ds,z,s,rs,e,k⟩:=h;unfold Dm.fn at e;split at e
 ·rename_i hl;rw[rs.length];exact hl
 ·cases e
theorem F8{N:List Str}{n m:Nat}(hm:N.length=n+m)(h:spD (Dm.fn n m body) vs H Q E) :
  tDS body { nx:=fun _ H'=>Q .non H',rt:=Q } (start N vs) H:=by
 have hvn:=qF h;obtain⟨H0,ds,z,s,rs,e,k⟩:=h;have hl:=rs.length;have no:∀a,¬ao (start N vs) (ds.map Dm.Cell.sh++gV m .un) a:=fun a ⟨i,d,h1,_⟩=>by
  by_cases hi:i<ds.length
  ·rw[HT (by simpa using hi),Mq]at h1;cases q:ds[i]? with
   |none=>rw[q]at h1;cases h1
   |some y=>rw[q]at h1;cases h1
  ·rw[Mp (by simpa using hi),My]at h1;split at h1<;>cases h1
 have st:au H0 H (start N vs) (ds.map Dm.Cell.sh++gV m .un):=by
  refine⟨s,?_,fun i d h=>?_,fun i d h=>?_,fun i j d e a h1 h2 _ _=>?_⟩
  ·unfold L2.start;simp only[Mt,Mg,M0]
   lia
  ·have hi:i<ds.length:=by
    by_cases hi:i<ds.length
    ·exact hi
    ·rw[Mp (by simpa using hi),My]at h;split at h<;>cases h
   rw[HT (by simpa using hi),Mq]at h;cases q:ds[i]? with
   |none=>rw[q]at h;cases h
   |some y=>rw[q]at h;cases h;obtain⟨v,hv,r⟩:=rs.get q;refine⟨v,?_,r⟩;unfold L2.start;rw[HT (by simpa [hl] using hi),Mq,hv];rfl
  ·by_cases hi:i<ds.length
   ·rw[HT (by simpa using hi),Mq]at h;cases q:ds[i]? with
    |none=>rw[q]at h;cases h
    |some y=>rw[q]at h;cases h
   ·rw[Mp (by simpa using hi),My]at h;split at h<;>cases h
  ·by_cases hi:i<ds.length
   ·rw[HT (by simpa using hi),Mq]at h1;cases q:ds[i]? with
    |none=>rw[q]at h1;cases h1
    |some y=>rw[q]at h1;cases h1
   ·rw[Mp (by simpa using hi),My]at h1;split at h1<;>cases h1
 have gr:∀{H0' H'},Stp (ao (start N vs) (ds.map Dm.Cell.sh++gV m .un)) H0 H H0' H'->aq H0' H'->aN H0 H H0' H':=fun {H0' H'} t ss=>⟨t.s0,fun a o e=>t.s1 a o e (no a),fun a o e=>(t.s2 a o e).imp id fun q=>q.elim id fun z=>absurd z (no a),ss⟩
 unfold Dm.fn at e;rw[if_pos (by rw[<- hl];exact hvn)]at e;split at e
 ·rename_i r ρ' e1;cases e;refine⟨H0,_,_,st,e1,fun σ' v H0' H' t r _=>k v H0' H' (gr t.stp t.st.same) ?_⟩;cases z with
  |val d=>exact r
  |new d=>obtain⟨a,e,n,n0,w⟩:=r;exact⟨a,e,n.elim id fun z=>absurd z (no a),n0,w⟩
 ·rename_i ρ' e1;cases e;exact⟨H0,_,_,st,e1,fun σ' H0' H' t=>k _ H0' H' (gr t.stp t.st.same) .non⟩
 ·cases e
end
end
open PySem PySem.Spec PyProof.Rows L2
noncomputable def aV(X:Cx)(nm:List Str)(scope:Scope)(own:List Str)(cl:List (Str×Addr))(C:Addr)(s:Shared)(H:Hp)(fp:List Addr):Cx where
 prog:=X.prog
 w:=X.w
 K:=X.K
 mg:=X.mg
 base:=X.base
 A:=X.A
 N:=nm++own
 s₀:=s
 H₀:=H
 env:=compEnvC scope cl C X.env
 outer:=X.stack
 stack:=X.stack
 ex:=fp
 fn:=fun _=>false
 calm:=X.calm
 pn:=[]
 xe:=fun _ _=>False
def PTs(X:Cx)(JE:List Expr)(t:TT):Prop:=
 ∀(mU:List (Addr×Obj)) (s:Shared) (σ:L2.St) (H:Hp) (Q:Bool->Hp->Prop),Inv X mU σ H s->t σ H Q ->
  wpAny (model X.prog X.w) X.A (forIn JE true fun c r=>if r=true then do let ok <- isTrue c X.env (eval c X.env);pure (Na ok) else pure (Na r)) (TP X mU σ Q) X.xe s
def Lf:TT:=fun _ H Q=>Q true H
theorem Ct{X:Cx}:PTs X [] Lf:=fun mU s σ H Q I h=>wpAny_tests_nil ⟨H,I,h⟩
theorem Cu{X:Cx}{c:Expr}{t:TT}(h:PT X c t):PTs X [c] t:=fun mU s σ H Q I hq=>wpAny_tests_one (h mU s σ H Q I hq)
theorem fk(env:Env):∀(names:List (Str×NameKind)) (cs:List (Str×Addr)),(∀y∈names,y.2=.free->∃c,env.cells.lookup y.1=some c) ->
  ∃cl,(forIn names cs fun(x:Str×NameKind) (r:List (Str×Addr))=>(if (x.2 == NameKind.free)=true then do let c <- cellOf env x.1;pure (Na ((x.1,c)::r)) else pure (Na r):Sem (ForInStep (List (Str×Addr)))))=pure cl /\
   (∀x c,cl.lookup x=some c->env.cells.lookup x=some c\/cs.lookup x=some c)/\(∀y∈names,y.2=.free->∃c,cl.lookup y.1=some c)/\(∀x c,cs.lookup x=some c->∃c',cl.lookup x=some c')
 |[],cs,_=>⟨cs,rfl,fun _ _ h=>.inr h,fun _ h=>(nomatch h),fun _ c h=>⟨c,h⟩⟩
 |(n,k)::r,cs,h=>by
  have hr:∀y∈r,y.2=.free->∃c,env.cells.lookup y.1=some c:=fun y hy=>h y (MB _ hy);by_cases hk:k=.free
  ·subst hk;obtain⟨c,hc⟩:=h (n,.free) MA rfl;obtain⟨cl,e,h1,h2,h3⟩:=fk env r ((n,c)::cs) hr;refine⟨cl,?_,fun x c' q=>?_,fun y hy hf=>?_,fun x c' q=>?_⟩
   ·rw[List.forIn_cons];have e1:cellOf env n=pure c:=by unfold cellOf;rw[hc]
    simp only[beq_self_eq_true,if_true,e1,pure_bind];exact e
   ·rcases h1 x c' q with z | z
    ·exact .inl z
    ·rw[ML]at z;cases hx:x == n with
     |true=>
      rw[hx]at z;have:x=n:=by simpa using hx
      subst this;injection z with z
      subst z;exact .inl hc
     |false=>rw[hx]at z;exact .inr z
   ·rcases Mv.mp hy with rfl | hy
    ·exact h3 n c (by rw[ML,beq_self_eq_true])
    ·exact h2 y hy hf
   ·by_cases hx:x=n
    ·subst hx;exact h3 x c (by rw[ML,beq_self_eq_true])
    ·have hx':(x == n)=false:=by simpa using hx
     exact h3 x c' (by rw[ML,hx'];exact q)
  ·have hb:(k == NameKind.free)=false:=by simpa using hk
   obtain⟨cl,e,h1,h2,h3⟩:=fk env r cs hr;refine⟨cl,?_,h1,fun y hy hf=>?_,h3⟩
   ·rw[List.forIn_cons];simp only[hb,Oe,if_false,pure_bind];exact e
   ·rcases Mv.mp hy with rfl | hy
    ·exact absurd hf hk
    ·exact h2 y hy hf
theorem iM{env:Env}{scope:Scope}(h:∀y∈scope.names,y.2=.free->∃c,env.cells.lookup y.1=some c) :
  ∃cl,closureFor scope env=pure cl/\(∀x c,cl.lookup x=some c->env.cells.lookup x=some c)/\∀y∈scope.names,y.2=.free->∃c,cl.lookup y.1=some c:=by
 obtain⟨cl,e,h1,h2,_⟩:=fk env scope.names [] h;refine⟨cl,?_,fun x c q=>(h1 x c q).elim id fun z=>by simp at z,h2⟩;unfold closureFor;have e':(forIn scope.names ([]:List (Str×Addr)) fun(x:Str×NameKind) (r:List (Str×Addr))=>(if (x.2 == NameKind.free)=true then do let c <- cellOf env x.1;pure (Na ((x.1,c)::r)) else pure (Na r):Sem (ForInStep (List (Str×Addr)))))=pure cl:=e
 first
  |(rw[show (forIn scope.names ([]:List (Str×Addr)) _:Sem (List (Str×Addr)))=pure cl from e'];rfl)
  |(simp only[e'];rfl)
theorem qG{prog:Program}{w:World}{A:Around}{R:Result->Shared->Prop}{s:Shared}{JH target iter:Expr}{JE:List Expr}{scope:Scope}{pos:Pos}{it EA:Value}{env:Env}(I:Nat->Shared->Prop)
  (turn:∀ n s,I n s→wpAny (model prog w) A (pyNext it) (fun r s₁=>match r with
   |none=>R (.ok .next) s₁
   | some v=>wpAny (model prog w) A (letOwnedTupleGo target it v) (fun _ s₁'=>wpAny (model prog w) A (assign target env v) (fun _ s₂=>
     wpAny (model prog w) A (forIn JE true fun c r=>if r=true then do let ok ← isTrue c env (eval c env);pure (Na ok) else pure (Na r)) (fun ok s₃=>
      if ok=true then wpAny (model prog w) A (eval JH env) (fun x s₄=>wpAny (model prog w) A (call (.builtin "list.append") [EA,x]) (fun _ s₅=>∃m,m<n/\I m s₅) (fun _ _=>False) s₄) (fun _ _=>False) s₃
      else ∃m,m<n/\I m s₃) (fun _ _=>False) s₂) (fun _ _=>False) s₁') (fun _ _=>False) s₁) (fun _ _=>False) s)
  (n:Nat) (h:I n s) :
  codeAny (model prog w) A (.compLoop (.ListComp JH [⟨target,iter,JE,0⟩] scope pos) 0 it EA env) R s:=by
 have no:∀{P:Value->Shared->Prop} (x:Value) (s':Shared),False->P x s':=fun _ _ f=>f.elim;refine codeAny_loop rfl I (fun n s hI=>?_) n h;show wpAny _ A ((compTurn (.ListComp JH [⟨target,iter,JE,0⟩] scope pos) 0 it EA env).onRaise (fun x=>do noteFrame x env;theTreesLotGoes x)) _ _ s;refine wpAny_noted ?_;rw[compTurn_list];refine wpAny_bind (wpAny_standAt (wpAny_bind (wpAny_mono (turn n s hI) (fun r s₁ h₁=>?_) no)));cases r with
 |none=>exact wpAny_pure h₁
 |some v=>
  refine wpAny_bind (wpAny_mono h₁ (fun _ s₁' h₁'=>?_) no);refine wpAny_bind (wpAny_mono h₁' (fun _ s₂ h₂=>wpAny_bind (wpAny_mono h₂ (fun ok s₃ h₃=>?_) no)) no);cases ok with
  |false=>exact wpAny_pure ⟨rfl,h₃⟩
  |true=>exact wpAny_bind (wpAny_bind (wpAny_mono h₃ (fun x s₄ h₄=>wpAny_bind (wpAny_mono h₄ (fun _ s₅ h₅=>wpAny_pure (wpAny_pure ⟨rfl,h₅⟩)) no)) no))
theorem dJ(env:Env):∀(names:List (Str×NameKind)) (x:Str) (k:NameKind),
  (names.map fun(n,k)=>if (k == NameKind.free&&env.scope.kind == .function&&env.kindOf n == some .cell) then (n,OM) else (n,k)).lookup x=some k ->
  ∃k0,names.lookup x=some k0/\(k=k0\/(k0=.free/\k=.cell))
 |[],x,k,h=>by simp at h
 |(n,k1)::r,x,k,h=>by
  have h:List.lookup x ((if (k1 == NameKind.free&&env.scope.kind == .function&&env.kindOf n == some .cell)=true then (n,OM) else (n,k1))::r.map fun(n,k)=>if (k == NameKind.free&&env.scope.kind == .function&&env.kindOf n == some .cell) then (n,OM) else (n,k))=some k:=h;cases hx:x == n with
  |true=>
   by_cases hc:(k1 == NameKind.free&&env.scope.kind == .function&&env.kindOf n == some .cell)=true
   ·rw[if_pos hc,ML,hx]at h;injection h with h
    have hk:k1=.free:=by simp only[Mw,beq_iff_eq]at hc;exact hc.1.1
    exact⟨k1,by rw[ML,hx],.inr ⟨hk,h.symm⟩⟩
   ·rw[if_neg hc,ML,hx]at h;injection h with h
    exact⟨k1,by rw[ML,hx],.inl h.symm⟩
  |false=>
   by_cases hc:(k1 == NameKind.free&&env.scope.kind == .function&&env.kindOf n == some .cell)=true
   ·rw[if_pos hc,ML,hx]at h;obtain⟨k0,e,z⟩:=dJ env r x k h;exact⟨k0,by rw[ML,hx];exact e,z⟩
   ·rw[if_neg hc,ML,hx]at h;obtain⟨k0,e,z⟩:=dJ env r x k h;exact⟨k0,by rw[ML,hx];exact e,z⟩
structure dY(X:Cx)(nm:List Str)(scope:Scope):Prop where
 kind:scope.kind=.function
 cell:∀y∈scope.names,y.2≠.cell
 names:∀y∈scope.names,y.2=.local->scope.names.lookup y.1=some .local
 free:∀y∈scope.names,y.2=.free->X.env.kindOf y.1=some .cell\/X.env.kindOf y.1=some .free
 apart:∀x∈nm,scope.names.lookup x≠some .local
 len:nm.length=X.N.length
 mask:∀(i:Nat) (x:Str),nm[i]?=some x->X.N[i]?=some x\/scope.names.lookup x=none
section
variable{X:Cx}{nm:List Str}{JH tg iter:Expr}{JE:List Expr}{scope:Scope}{pos:Pos}{own:List Str}{wi:TI}{g:TG}{tt:TT}{te:TE}
theorem kE{mU:List (Addr×Obj)}{s2:Shared}{σ:L2.St}{H2:Hp}{cl:List (Str×Addr)}{it:Addr}{fp:List Addr}{tn:Nat->Heap->Prop}{J:It}{Q:VK}{E:Value->Shared->Prop}{RR:Value->Addr->Result->Shared->Prop}{CC:Cx->Prop}
  (hc:∀cl C s D fp,H2 D=none->CC (aV X nm scope own cl C s (upd H2 D (.lst [])) fp)) (S:dY X nm scope) (kF:∀x c,cl.lookup x=some c->X.env.cells.lookup x=some c) (su:∀y∈scope.names,y.2=.free->∃c,cl.lookup y.1=some c)
  (hg:∀cl C s H fp,PG (aV X nm scope own cl C s H fp) tg g) (ht:∀cl C s H fp,PTs (aV X nm scope own cl C s H fp) JE tt) (he:∀cl C s H fp,PE (aV X nm scope own cl C s H fp) JH te)
  (I2:Inv X mU σ H2 s2) (T:Turn X.prog X.w X.K tg J fp it tn CC) (st2:tn 0 s2.heap) (f2:∀b∈fp,lY X mU H2 b)
  (hR:∀ D,H2 D=none→∃ W:Nat→Nat→L2.St→Hp→Prop,
   (∃m,W 0 m (σ++gV own.length none) (upd H2 D (.lst [])))/\∀i m σ' H',W i m σ' H' ->
    (J.stop i H'∧Q (.ref D) H')∨(J.go i H'∧∀ x H2,J.yld i H' x H2→g x σ' H2 fun σ2 H3=>tt σ2 H3 fun b H4=>if b=true
     then te σ2 H4 fun y H5=>∃EA,H5 D=some (.lst EA)/\EA.length<sizeLine/\∃m',m'<m/\W (i+1) m' σ2 (upd H5 D (.lst (EA++[y])))
     else ∃m',m'<m/\W (i+1) m' σ2 H4))
  (Lg:∀D C H6 s6,Inv X mU σ H6 s6->H6 C=none->C≠X.env.locals->X.s₀.heap.objs.size<=C->(∀x c,X.env.cells.lookup x=some c->c≠C)->(∀p∈X.pn++mU,p.1≠C)->(∃m,s6.heap.Ns C m)->Q (.ref D) H6->RR (.ref D) C (.ok .next) s6) :
  wpAny (model X.prog X.w) X.A (newList []) (fun EA s₃=>wpAny (model X.prog X.w) X.A (newFunctionEnv scope X.env.globals cl [] X.env.qual none .none (some X.env)) (fun cenv s₄=>codeAny (model X.prog X.w) X.A (.compStart (.ListComp JH [⟨tg,iter,JE,0⟩] scope pos) 0 (.ref it) EA { cenv with scope:=relabel scope X.env }) (RR EA cenv.locals) s₄) E s₃) E s2:=by
 have no:∀{P:Value->Shared->Prop} (x:Value) (s':Shared),False->P x s':=fun _ _ f=>f.elim;refine wpAny_newObj_type (wpAny_newFunctionEnv S.cell (by intro y hy;simp at hy) (fun h₁ hns₁ hsb₁=>?_) S.kind);dsimp only at hns₁ hsb₁ ⊢;have I3:Inv X mU σ (upd H2 s2.heap.objs.size (.lst [])) { s2 with heap:=s2.heap.push { cls:=.type "list",dict:=none,data:=.seq ([]:List Value).toArray } }:=I2.FZ (t':=s2.toks) (ys:=[]) (its:=[]) .nil (MW _)
 generalize hG2:s2.heap.push { cls:=.type "list",dict:=none,data:=.seq ([]:List Value).toArray }=G2 at hns₁ hsb₁ I3 ⊢
 have hC:G2.objs.size=s2.heap.objs.size+1:=by rw[<- hG2,OH]
 have up2:∀b o,s2.heap.get? b=some o->G2.get? b=some o:=fun b o e=>hG2▸Mf _ e;have up3:∀b o,G2.get? b=some o->h₁.get? b=some o:=fun b o e=>hsb₁.extBut b o (MC (Mi e)) (Mf _ e);have Lh:G2.get? G2.objs.size=none:=NX (Mj _);have fpo:∀b∈fp,∃o,s2.heap.get? b=some o:=fun b hb=>by obtain⟨o,e,_⟩:=T.obj 0 _ st2 b hb;exact⟨o,e⟩
 have fpC:∀b∈fp,b≠G2.objs.size:=fun b hb=>by obtain⟨o,e⟩:=fpo b hb;exact MC (Mi (up2 b o e))
 have H3C:(upd H2 s2.heap.objs.size (.lst [])) G2.objs.size=none:=I3.hok.fresh (Mj _);have fpD:∀b∈fp,b≠s2.heap.objs.size:=fun b hb=>by obtain⟨o,e⟩:=fpo b hb;exact MC (Mi e)
 have IP:∀b∈fp,b∉frs X.stack:=fun b hb z=>by
  rcases Mv.mp (I3.lU b z) with y | y
  ·exact(f2 b hb).2.1 y
  ·exact(f2 b hb).2.2.1 y
 have ok':(aV X nm scope own cl G2.objs.size { s2 with heap:=G2 } (upd H2 s2.heap.objs.size (.lst [])) fp).Ok:=by
  refine ⟨I3.ok.mod,S.kind,I3.ok.glob,I3.ok.blt,Mj _,fun x y c e1 e2=>I3.ok.inj x y c (kF x c e1) (kF y c e2),fun x hx=>?_,fun x c z=>(nomatch z),I3.ok.hd,I3.ok.frames,.inl rfl,
   fun b hb=>⟨fpC b hb,fun x c e=>(f2 b hb).2.2.2.2.1 x c (kF x c e)⟩,fun b o e=>I3.bs b o e,MQ I3.ok.bsz I3.sz,fun b o e hb=>?_,fun b hb=>IP b hb,I3.stack,I3.qk⟩
  ·have hx:(relabel scope X.env).names.lookup x=some .cell\/(relabel scope X.env).names.lookup x=some .free:=hx;have key:∀k,(relabel scope X.env).names.lookup x=some k->k≠.local->k=.cell\/k=.free->∃c,cl.lookup x=some c:=fun k hk _ hkk=>by
    obtain⟨k0,e0,z⟩:=dJ X.env scope.names x k hk;have m0:=PySem.mem_of_lookup e0;have f0:k0=.free:=by
     rcases z with z | z
     ·subst z;rcases hkk with q | q
      ·exact absurd q (S.cell _ m0)
      ·exact q
     ·exact z.1
    exact su (x,k0) m0 f0
   rcases hx with hx | hx
   ·exact key _ hx (by decide) (.inl rfl)
   ·exact key _ hx (by decide) (.inr rfl)
  ·rcases (f2 b hb).2.2.2.1 with z | z
   ·exact I3.ok.yH b o e z
   ·exact absurd (Ms (Mi e) (MQ I3.ok.bsz z)) (MV _)
 have stat:∀{H':Hp},(∀b∈fp,H' b=none)->∀b∈fp,lY (aV X nm scope own cl G2.objs.size { s2 with heap:=G2 } (upd H2 s2.heap.objs.size (.lst [])) fp) [] H' b:=fun hn b hb=>⟨hn b hb,fpC b hb,IP b hb,.inl hb,fun x c e=>(f2 b hb).2.2.2.2.1 x c (kF x c e),fun p hp=>(nomatch (show p∈([]:List (Addr×Obj)) from hp))⟩
 have I4:Inv (aV X nm scope own cl G2.objs.size { s2 with heap:=G2 } (upd H2 s2.heap.objs.size (.lst [])) fp) [] (σ++gV own.length none) (upd H2 s2.heap.objs.size (.lst [])) { s2 with heap:=h₁,toks:=s2.toks+([]:List (Str×Value)).length }:=by
  refine⟨ok',rfl,I3.bare,Un.kept up3,⟨_,hns₁,fun i x v e1 e2 e3=>?_⟩,fun x c e=>?_,H3C,fun x c e=>I3.dR x c (kF x c e),fun p hp=>(nomatch (show p∈([]:List (Addr×Obj)) from hp)),I3.hok.kept up3,?_⟩
  ·have e1:(nm++own)[i]?=some x:=e1;have hi:i<σ.length:=by
    by_cases hi:i<σ.length
    ·exact hi
    ·rw[Mp (N3.mp hi),My]at e2;split at e2<;>cases e2
   rw[HT hi]at e2;rw[HT (by rw[S.len,<- I3.len];exact hi)]at e1;have key:∀k,(relabel scope X.env).names.lookup x=some k->k=.local\/k=.cell\/k=.free->scope.names.lookup x=some .free/\(k=.cell\/k=.free):=fun k hk hkk=>by
    obtain⟨k0,e0,z⟩:=dJ X.env scope.names x k hk;have m0:=PySem.mem_of_lookup e0;have n1:k0≠.local:=fun y=>S.apart x (N2 e1) (y▸e0);have n2:k0≠.cell:=S.cell _ m0;rcases z with z | z
    ·subst z;rcases hkk with q | q | q
     ·exact absurd q n1
     ·exact absurd q n2
     ·subst q;exact⟨e0,.inr rfl⟩
    ·obtain⟨z1,z2⟩:=z;subst z1;subst z2;exact⟨e0,.inl rfl⟩
   have hk:∃k,(relabel scope X.env).names.lookup x=some k/\(k=.cell\/k=.free)/\scope.names.lookup x=some .free:=by
    rcases (show (relabel scope X.env).names.lookup x=some .local\/(relabel scope X.env).names.lookup x=some .cell\/(relabel scope X.env).names.lookup x=some .free from e3) with q | q | q
    ·obtain⟨a,b⟩:=key _ q (.inl rfl);exact⟨_,q,b,a⟩
    ·obtain⟨a,b⟩:=key _ q (.inr (.inl rfl));exact⟨_,q,b,a⟩
    ·obtain⟨a,b⟩:=key _ q (.inr (.inr rfl));exact⟨_,q,b,a⟩
   obtain⟨k,hk1,hk2,hk3⟩:=hk;have m0:=PySem.mem_of_lookup hk3;obtain⟨c,hcc⟩:=su (x,.free) m0 rfl;obtain⟨m,hn,hl⟩:=I3.loc;have hout:=S.free (x,.free) m0 rfl;have Li:Vis X.env.scope x:=by
    rcases hout with q | q
    ·exact .inr (.inl q)
    ·exact .inr (.inr q)
   have e1':X.N[i]?=some x:=by
    rcases S.mask i x e1 with z | z
    ·exact z
    ·rw[z]at hk3;cases hk3
   obtain⟨u,ru,lk⟩:=hl i x v e1' e2 Li;refine⟨u,ru,.inr ⟨?_,c,hcc,?_⟩⟩
   ·rcases hk2 with q | q
    ·subst q;exact .inl hk1
    ·subst q;exact .inr hk1
   ·rcases lk with⟨q,_⟩ | ⟨_,c',e',z⟩
    ·rcases hout with y | y
     ·rw[q]at y;cases y
     ·rw[q]at y;cases y
    ·rw[kF x c hcc]at e';cases e';obtain⟨o,ho,hd⟩:=z;exact⟨o,up3 c o ho,hd⟩
  ·obtain⟨v,o,ho,hd⟩:=I3.cell x c (kF x c e);exact⟨v,o,up3 c o ho,hd⟩
  ·show (σ++gV own.length none).length=(nm++own).length;rw[Mt,Mt,M0,I3.len,S.len]
 obtain⟨W,⟨m0,w0⟩,turn⟩:=hR s2.heap.objs.size I2.fresh;have st4:tn 0 h₁:=T.keep 0 _ _ st2 fun b hb o e=>up3 b o (up2 b o e);have Lj:∀b∈fp,(upd H2 s2.heap.objs.size (.lst [])) b=none:=fun b hb=>by rw[az (fpD b hb)];exact(f2 b hb).1
 have loop:∀s₃:Shared,s₃={ s2 with heap:=h₁,toks:=s2.toks+([]:List (Str×Value)).length } ->
   codeAny (model X.prog X.w) X.A (.compLoop (.ListComp JH [⟨tg,iter,JE,0⟩] scope pos) 0 (.ref it) (.ref s2.heap.objs.size) (compEnvC scope cl G2.objs.size X.env))
    (RR (.ref s2.heap.objs.size) G2.objs.size) s₃:=by
  rintro s₃ rfl;refine qG (fun n s'=>∃i σ' H',Inv (aV X nm scope own cl G2.objs.size { s2 with heap:=G2 } (upd H2 s2.heap.objs.size (.lst [])) fp) [] σ' H' s'/\tn i s'.heap/\(∀b∈fp,H' b=none)/\W i n σ' H') ?_ m0
   ⟨0,_,_,I4,st4,Lj,w0⟩
  rintro n s5 ⟨i,σ5,H5,I5,st5,fr5,w5⟩;rcases turn i n σ5 H5 w5 with⟨stop,q⟩ | ⟨go,step⟩
  ·refine wpAny_mono (T.done (aV X nm scope own cl G2.objs.size { s2 with heap:=G2 } (upd H2 s2.heap.objs.size (.lst [])) fp) rfl rfl rfl (hc _ _ _ _ _ (I2.hok.fresh (Mj _))) i [] s5 σ5 H5 (fun _ _=>False) I5 (stat fr5) st5 stop) (fun r s6 hr6=>?_) no;obtain⟨hr,I6⟩:=hr6;subst hr;have I7:Inv X mU σ H5 s6:=I3.H_ (ch:=fp) I6.os I6.base I6.hok I6.bare fun b hb=>⟨(f2 b hb).2.2.2.1,(f2 b hb).2.1,(f2 b hb).2.2.2.2.1,(f2 b hb).2.2.2.2.2⟩;refine Lg _ _ H5 s6 I7 I6.free (Nm (show X.env.locals<G2.objs.size from I3.lt)) I3.sz (fun x c e=>?_) (fun p hp=>?_) (let ⟨m,hn,_⟩:=I6.loc;⟨m,hn⟩) q
   ·obtain⟨v,z⟩:=I3.cell x c e;exact MC z.lt
   ·exact MC (Mi (I3.pin p hp).1)
  ·refine wpAny_mono (T.item (aV X nm scope own cl G2.objs.size { s2 with heap:=G2 } (upd H2 s2.heap.objs.size (.lst [])) fp) rfl rfl rfl (hc _ _ _ _ _ (I2.hok.fresh (Mj _))) i [] s5 σ5 H5 (fun _ _=>False) I5 (stat fr5) st5 go) (fun r s6 hr6=>?_) no;obtain⟨u,hr,h6⟩:=hr6;subst hr;refine wpAny_mono h6 (fun _ s7 h7=>?_) no;obtain⟨x,H7,I7,r7,y7,st7,fr7⟩:=h7;have I7':=I7.pinned (stat fr7) (T.obj _ _ st7);have again:∀{s9:Shared} {σ9:L2.St} {H9:Hp} {m':Nat},m'<n->Inv (aV X nm scope own cl G2.objs.size { s2 with heap:=G2 } (upd H2 s2.heap.objs.size (.lst [])) fp) ([]++lZ fp s7.heap) σ9 H9 s9->W (i+1) m' σ9 H9 ->
     ∃m,m<n/\∃i σ' H',Inv (aV X nm scope own cl G2.objs.size { s2 with heap:=G2 } (upd H2 s2.heap.objs.size (.lst [])) fp) [] σ' H' s9/\tn i s9.heap/\(∀b∈fp,H' b=none)/\W i m σ' H':=fun {s9 σ9 H9 m'} hm I9 w9=>by
    refine⟨m',hm,i+1,σ9,H9,I9.jH,T.keep _ _ _ st7 fun b hb o e=>(I9.pin (b,o) (ME _ (ME _ (fV hb e)))).1,fun b hb=>?_,w9⟩;obtain⟨o,e,d⟩:=T.obj _ _ st7 b hb;exact(I9.pin (b,o) (ME _ (ME _ (fV hb e)))).2.1
   refine wpAny_mono (hg cl G2.objs.size _ _ fp _ s7 σ5 H7 x u _ I7' r7 (step x H7 y7)) (fun _ s8 h8=>?_) no;obtain⟨σ8,H8,I8,q8⟩:=h8;refine wpAny_mono (ht cl G2.objs.size _ _ fp _ s8 σ8 H8 _ I8 q8) (fun b s9 h9=>?_) no;obtain⟨H9,I9,q9⟩:=h9;cases b with
   |false=>rw[if_neg MF]at q9 ⊢;obtain⟨m',hm,w9⟩:=q9;exact again hm I9 w9
   |true=>rw[if_pos rfl]at q9 ⊢;refine wpAny_mono (he cl G2.objs.size _ _ fp _ s9 σ8 H9 _ I9 q9) (fun y s10 h10=>?_) no;obtain⟨yv,H10,I10,r10,EA,hacc,yi,m',hm,w10⟩:=h10;refine wpAny_mono (pA (X:=aV X nm scope own cl G2.objs.size { s2 with heap:=G2 } (upd H2 s2.heap.objs.size (.lst [])) fp) _ s10 σ8 H10 (.ref s2.heap.objs.size) [yv] (.ref s2.heap.objs.size) [y] (fun _ H'=>H'=upd H10 s2.heap.objs.size (.lst (EA++[yv]))) I10 rfl (.cons r10 .nil) ⟨_,EA,yv,rfl,rfl,hacc,yi,rfl⟩) (fun _ s11 h11=>?_) no;obtain⟨_,H11,I11,_,e11⟩:=h11;subst e11;exact again hm I11 w10
 exact codeAny_compStart_list (loop _ rfl) (T.self _ 0 _ _ _ st4 (loop _ rfl))
theorem wA(hc:X.calm=true)(S:dY X nm scope)(hi:PI X tg iter wi)
  (hg:∀cl C s H fp,PG (aV X nm scope own cl C s H fp) tg g) (ht:∀cl C s H fp,PTs (aV X nm scope own cl C s H fp) JE tt) (he:∀cl C s H fp,PE (aV X nm scope own cl C s H fp) JH te)
  (hs:∀x,foldedSetIterable iter X.env x=pure x:=by intro _;rfl):PE X (.ListComp JH [⟨tg,iter,JE,0⟩] scope pos) (tLC wi own.length g tt te):=by
 intro mU s σ H Q I h;obtain⟨cl,hclos,kF,su⟩:=iM (env:=X.env) (scope:=scope) fun y hy hf=>I.ok.has y.1 (S.free y hy hf);rw[eval_ListComp];refine wpAny_comprehension_free (use:=none) rfl hs hclos S.kind S.names (thn (hi mU s σ H _ I h) fun v s1 h1=>thn h1 fun itv s2 h2=>?_);obtain⟨it,fp,tn,J,H2,e,I2,T,st2,f2,hR⟩:=h2;subst e;refine kE (Q:=Q) (RR:=fun EA C=>compPost (model X.prog X.w) X.A X.xe none (EP X mU σ Q) EA C) (fun _ _ _ _ _ _=>hc) S kF su hg ht he I2 T st2 f2 hR ?_;intro D C H6 s6 I6 hCn hCL hCs hCc hCp hns q;obtain⟨m,hn⟩:=hns;refine⟨m,hn,fun h' hs'=>⟨.ref D,H6,I6.turned (t':=s6.toks) (fun b o hb e=>(hs'.2 b hb).trans e) hCn hCL (.inr hCs) hCc hCp,rfl,q⟩⟩
theorem sC{i:Nat}{y:Str}{py Q6:Pos}(hN:X.N.Nodup)(hi':X.N[i]?=some y)(hy:Loc X.env.scope y)(hc:X.calm=true)(S:dY X nm scope)(hi:PI X tg iter wi)
  (hg:∀cl C s H fp,PG (aV X nm scope own cl C s H fp) tg g) (ht:∀cl C s H fp,PTs (aV X nm scope own cl C s H fp) JE tt) (he:∀cl C s H fp,PE (aV X nm scope own cl C s H fp) JH te)
  (hsw:swapsWith (.ListComp JH [⟨tg,iter,JE,0⟩] scope pos) (some (.Name y py)) Q6.line X.env=pure true:=by rfl)
  (hs:∀x,foldedSetIterable iter X.env x=pure x:=by intro _;rfl) (hf:X.fn y=true\/X.env.scope.names.lookup y=some .local:=by trivial) :
  PS X (.Assign [.Name y py] (.ListComp JH [⟨tg,iter,JE,0⟩] scope pos) Q6) (rT (tLC wi own.length g tt te) (jG i)):=by
 intro mU s σ H Dn I h;obtain⟨cl,hclos,kF,su⟩:=iM (env:=X.env) (scope:=scope) fun y hy hf=>I.ok.has y.1 (S.free y hy hf);rw[exec_Assign_Name_used _ _ _ _ hsw];refine wpAny_bind (wpAny_standAt (wpAny_bind ?_));show wpAny _ X.A (do let _ <- comprehension (.ListComp JH [⟨tg,iter,JE,0⟩] scope pos) scope X.env _ (newList []) false (eval iter X.env) (some (assign (.Name y py) X.env))) _ _ s;refine wpAny_bind (wpAny_mono (wpAny_comprehension_free (use:=some (assign (.Name y py) X.env)) (Q:=fun _ s'=>SP X mU Dn .next s') rfl hs hclos S.kind S.names
  (thn (hi mU s σ H _ I h) fun v s1 h1=>thn h1 fun itv s2 h2=>?_)) (fun _ s' hq=>wpAny_pure (wpAny_pure hq)) fun _ _ e=>e)
 obtain⟨it,fp,tn,J,H2,e,I2,T,st2,f2,hR⟩:=h2;subst e;refine kE (Q:=fun x H1=>jG i x σ H1 Dn.nx) (RR:=fun EA C=>compPost (model X.prog X.w) X.A X.xe (some (assign (.Name y py) X.env)) (fun _ s'=>SP X mU Dn .next s') EA C) (fun _ _ _ _ _ _=>hc) S kF su hg ht he I2 T st2 f2 hR ?_;intro D C H6 s6 I6 hCn hCL hCs hCc hCp hns q;obtain⟨m,hn⟩:=hns;show wpAny _ X.A (assign (.Name y py) X.env (.ref D)) _ _ _;refine wpAny_assign_Name (kr I6 hN hi' hy (v:=.ref D) rfl (fun s7 I7 h7=>?_) hf);obtain⟨a,sb,ha⟩:=h7;have hCa:C≠a:=by
  rcases ha with ha | ha
  ·rw[ha];exact hCL
  ·exact MJ (hCc y a ha)
 refine⟨m,hn.sameBut sb hCa,fun h' hs'=>⟨_,H6,I7.turned (t':=s7.toks) (fun b o hb e=>(hs'.2 b hb).trans e) hCn hCL (.inr hCs) hCc hCp,q⟩⟩
end
mutual
noncomputable def toPy:Dat->PyData
 |.non=>.none
 |.bl b=>.bool b
 |.int i=>.int i
 |.str s=>.str ⟨s.toArray⟩
 |.tup xs=>.tuple (cM xs)
 |.lst xs=>.list (cM xs)
 |.dct _ _=>.dict []
 |.dcp _ _=>.dict []
 |.exc _=>.dict []
 |.di _ _=>.dict []
 |.fn _=>.dict []
noncomputable def cM:List Dat->List PyData
 |[]=>[]
 |x::xs=>toPy x::cM xs
end
mutual
theorem jP:∀a b:Dat,MX (toPy a) (toPy b)=Dm.eqD a b
 |.non,b=>by cases b<;>simp[toPy,MX,Dm.eqD]
 |.bl x,b=>by cases b<;>simp[toPy,MX,Dm.eqD,Dm.b2i]
 |.int x,b=>by cases b<;>simp[toPy,MX,Dm.eqD,Dm.b2i]
 |.str x,b=>by
  cases b with
  |str y=>
   simp only[toPy,MX,Dm.eqD];rw[Oz];simp only[beq_iff_eq];constructor
   ·intro h;have h:=congrArg (fun s:Str=>s.cps.toList) h
    simpa using h
   ·rintro rfl;rfl
  |_=>simp[toPy,MX,Dm.eqD]
 |.tup xs,b=>by
  cases b with
  |tup ys=>simp only[toPy,MX,Dm.eqD];exact kG xs ys
  |_=>simp[toPy,MX,Dm.eqD]
 |.lst xs,b=>by
  cases b with
  |lst ys=>simp only[toPy,MX,Dm.eqD];exact kG xs ys
  |_=>simp[toPy,MX,Dm.eqD]
 |.dct ks vs,b=>by cases b<;>simp[toPy,MX,Dm.eqD]
 |.dcp ks vs,b=>by cases b<;>simp[toPy,MX,Dm.eqD]
 |.exc C,b=>by cases b<;>simp[toPy,MX,Dm.eqD]
 |.di C v,b=>by cases b<;>simp[toPy,MX,Dm.eqD]
 |.fn C,b=>by cases b<;>simp[toPy,MX,Dm.eqD]
theorem kG:∀a b:List Dat,Og (cM a) (cM b)=Dm.l_ a b
 |[],b=>by cases b<;>simp[cM,Og,Dm.l_]
 |x::xs,b=>by
  cases b with
  |nil=>simp[cM,Og,Dm.l_]
  |cons y ys=>simp only[cM,Og,Dm.l_];rw[jP x y,kG xs ys]
end
theorem zw{s:List Nat}(h:(s.all fun c=>decide (c<128))=true):PyData.strOk ⟨s.toArray⟩=true:=by unfold PyData.strOk;rw[Array.all_eq_true'];intro c hc;have h1:=MY.mp h c (by simpa using hc);have h2:c<128:=of_decide_eq_true h1;exact decide_eq_true (by lia)
theorem eU{P:Program}{w:World}{H:Hp}{h:Heap}(ok:HOk P w H h):∀(n:Nat),
  (∀(v:V) (d:Dat) (u:Value),Rep H v d->RelV v u->Dm.okD n d=true->∃as,Reads h u (toPy d) as/\(toPy d).canLay0=true/\(toPy d).depth<=n) /\
  (∀(vs:List V) (ds:List Dat) (us:List Value),aM H vs ds->Vals vs us->ds.all (Dm.okD n)=true->∃as,ReadsAll h us (cM ds) as/\Oo (cM ds)=true/\NF (cM ds)<=n):=by
 intro n
 induction n with
 |zero=>
  have one:∀(v:V) (d:Dat) (u:Value),Rep H v d->RelV v u->Dm.okD 0 d=true->∃as,Reads h u (toPy d) as/\(toPy d).canLay0=true/\(toPy d).depth<=0:=by
   intro v d u r rv k;cases r with
   |non=>cases rv;exact⟨_,.none,rfl,Mj _⟩
   |bl b=>cases rv;exact⟨_,.bool b,rfl,Mj _⟩
   |int i=>obtain⟨t,rfl⟩:=rv;exact⟨_,.int i t,rfl,Mj _⟩
   |str s=>obtain⟨t,rfl⟩:=rv;exact⟨_,.str _ t,zw k,Mj _⟩
   |tup _ _=>cases k
   |lst _ _=>cases k
   |dct _ _ _=>cases k
   |dcp _ _ _=>cases k
   |exc _=>cases k
   |di _ _=>cases k
   |fn _=>cases k
  refine⟨one,fun vs ds=>?_⟩
  induction ds generalizing vs with
  |nil=>intro us r rv _;cases r;cases rv;exact⟨_,.nil,rfl,Mj _⟩
  |cons d ds ih=>
   intro us r rv k;cases r with
   |cons r rs=>
    cases rv with
    |cons q qs=>rw[NR,Mw]at k;obtain⟨a1,h1,h2,h3⟩:=one _ _ _ r q k.1;obtain⟨a2,h4,h5,h6⟩:=ih _ _ rs qs k.2;exact⟨_,.cons h1 h4,by simp[cM,Oo,h2,h5],by simp only[cM,NF];lia⟩
 |succ n ih=>
  have one:∀(v:V) (d:Dat) (u:Value),Rep H v d->RelV v u->Dm.okD (n+1) d=true->∃as,Reads h u (toPy d) as/\(toPy d).canLay0=true/\(toPy d).depth<=n+1:=by
   intro v d u r rv k;cases r with
   |non=>cases rv;exact⟨_,.none,rfl,MW _⟩
   |bl b=>cases rv;exact⟨_,.bool b,rfl,MW _⟩
   |int i=>obtain⟨t,rfl⟩:=rv;exact⟨_,.int i t,rfl,MW _⟩
   |str s=>obtain⟨t,rfl⟩:=rv;exact⟨_,.str _ t,zw k,MW _⟩
   |tup q rs=>cases rv;obtain⟨z,its,vr,ob,e,hc,m,hd⟩:=ok _ _ q;obtain⟨as,h1,h2,h3⟩:=ih.2 _ _ _ rs vr k;exact⟨_,.tuple e hc hd h1,h2,by simp only[toPy,PyData.depth];lia⟩
   |lst q rs=>cases rv;obtain⟨z,its,m,vr,e⟩:=q.ok ok;obtain⟨as,h1,h2,h3⟩:=ih.2 _ _ _ rs vr k;exact⟨_,.list e rfl rfl h1,h2,by simp only[toPy,PyData.depth];lia⟩
   |dct _ _ _=>cases k
   |dcp _ _ _=>cases k
   |exc _=>cases k
   |di _ _=>cases k
   |fn _=>cases k
  refine⟨one,fun vs ds=>?_⟩
  induction ds generalizing vs with
  |nil=>intro us r rv _;cases r;cases rv;exact⟨_,.nil,rfl,MW _⟩
  |cons d ds ih=>
   intro us r rv k;cases r with
   |cons r rs=>
    cases rv with
    |cons q qs=>rw[NR,Mw]at k;obtain⟨a1,h1,h2,h3⟩:=one _ _ _ r q k.1;obtain⟨a2,h4,h5,h6⟩:=ih _ _ rs qs k.2;exact⟨_,.cons h1 h4,by simp[cM,Oo,h2,h5],by simp only[cM,NF];lia⟩
theorem mq.full{H0 H:Hp}(s:aq H0 H){v:V}{d:Dat}(r:mq H0 H v d):Rep H v d:=by
 rcases r with r | ⟨a,rfl,w⟩
 ·exact r.mono s
 ·cases d with
  |lst ds=>obtain⟨xs,q,rs⟩:=w;exact .lst (.inl q) (rs.mono s)
  |dct ks ds=>obtain⟨kvs,q,e,rs⟩:=w;exact .dct q e (rs.mono s)
  |dcp ks ds=>obtain⟨kvs,q,e,rs⟩:=w;exact .dcp q (e.mono s) (rs.mono s)
  |_=>exact Mr w
def Cv(neg:Bool):R2:=fun x y H Q=>∃dx dy,Rep H x dx/\Rep H y dy/\Dm.okD 8 dx=true/\Dm.okD 8 dy=true/\Q (.bl (if neg then !Dm.eqD dx dy else Dm.eqD dx dy)) H
section
variable{X:Cx}
theorem zx{k:Nat}(hr:bM k X.A):OpR X (compareOp .Eq) (Cv false):=by intro mU s σ H x y v u Q I rx ry h;obtain⟨dx,dy,r1,r2,k1,k2,q⟩:=h;obtain⟨as,h1,h2,h3⟩:=(eU I.hok 8).1 x dx v r1 rx k1;obtain⟨bs,h4,h5,h6⟩:=(eU I.hok 8).1 y dy u r2 ry k2;have hu:=hr.units;refine PySem.SeqAt.compareEq_reads h1 h4 h2 h5 (by lia) ?_;rw[jP];exact⟨.bl (Dm.eqD dx dy),H,I,rfl,q⟩
theorem F9{k:Nat}(hr:bM k X.A):OpR X (compareOp .NotEq) (Cv true):=by intro mU s σ H x y v u Q I rx ry h;obtain⟨dx,dy,r1,r2,k1,k2,q⟩:=h;obtain⟨as,h1,h2,h3⟩:=(eU I.hok 8).1 x dx v r1 rx k1;obtain⟨bs,h4,h5,h6⟩:=(eU I.hok 8).1 y dy u r2 ry k2;have hu:=hr.units;refine PySem.SeqAt.compareNe_reads h1 h4 h2 h5 (by lia) ?_;rw[jP];exact⟨.bl (!Dm.eqD dx dy),H,I,rfl,q⟩
def IQ(neg:Bool):R2:=fun x y H Q=>∃dx ds,Rep H x dx/\(Rep H y (.lst ds)\/Rep H y (.tup ds))/\Dm.okD 8 dx=true/\ds.all (Dm.okD 7)=true/\Q (.bl (if neg then !Dm.inD dx ds else Dm.inD dx ds)) H
theorem mC(x:Dat):∀ds:List Dat,((cM ds).any fun y=>MX y (toPy x))=Dm.inD x ds
 |[]=>rfl
 |d::ds=>by have:=mC x ds;unfold Dm.inD at this ⊢;simp only[cM,List.any_cons,jP];rw[this]
theorem xS{k:Nat}(hr:bM k X.A):OpR X (compareOp .NotIn) (IQ true):=by
 intro mU s σ H x y v u Q I rx ry h;obtain⟨dx,ds,r1,r2,k1,k2,q⟩:=h;obtain⟨as,h1,h2,h3⟩:=(eU I.hok 8).1 x dx v r1 rx k1;have hu:=hr.units;rcases r2 with r2 | r2
 ·obtain⟨bs,h4,h5,h6⟩:=(eU I.hok 8).1 y (.lst ds) u r2 ry k2;have h6:NF (cM ds)+1<=8:=h6;refine PySem.SeqAt.notIn_list_reads h4 h1 h5 h2 (by lia) ?_;rw[mC];exact⟨.bl (!Dm.inD dx ds),H,I,rfl,q⟩
 ·obtain⟨bs,h4,h5,h6⟩:=(eU I.hok 8).1 y (.tup ds) u r2 ry k2;have h6:NF (cM ds)+1<=8:=h6;refine PySem.SeqAt.notIn_tuple_reads h4 h1 h5 h2 (by lia) ?_;rw[mC];exact⟨.bl (!Dm.inD dx ds),H,I,rfl,q⟩
end
section
variable{H0 H:Hp}{ds:List Dat}{v:V}
theorem aD{i:Int}(r:mq H0 H v (.int i)):v=.int i:=by
 rcases r with r | ⟨a,_,w⟩
 ·exact Rep.isInt r
 ·exact Mr w
theorem wB{b:Bool}(r:mq H0 H v (.bl b)):v=.bl b:=by
 rcases r with r | ⟨a,_,w⟩
 ·exact Rep.qy r
 ·exact Mr w
theorem cC(s:aq H0 H)(r:mq H0 H v (.lst ds)):∃a xs,v=.ref a/\Rd H a (.lst xs)/\aM H0 xs ds:=by
 rcases r with r | ⟨a,e,xs,q,rs⟩
 ·cases r with
  |lst q rs=>exact⟨_,_,rfl,aq.rd s q,rs⟩
 ·exact⟨a,xs,e,.inl q,rs⟩
theorem jQ(s:aq H0 H)(r:mq H0 H v (.tup ds)):∃a xs,v=.ref a/\H a=some (.tup xs)/\aM H0 xs ds:=by
 rcases r with r | ⟨a,_,w⟩
 ·cases r with
  |tup q rs=>exact⟨_,_,rfl,s _ _ q,rs⟩
 ·exact Mr w
theorem F_:OpD (rI0 fun i j=>.int (i-j)) Dm.fU:=by
 intro H0 H x y dx dy z Q s rx ry e k;unfold Dm.fU at e;split at e
 ·cases e;cases aD rx;cases aD ry;exact⟨_,_,rfl,rfl,k _ H0 H (aN.refl s) (.int _)⟩
 ·cases e
theorem Ej:OpD (rI0 fun i j=>.bl (decide (i<j))) Dm.gLt:=by
 intro H0 H x y dx dy z Q s rx ry e k;unfold Dm.gLt at e;split at e
 ·cases e;cases aD rx;cases aD ry;exact⟨_,_,rfl,rfl,k _ H0 H (aN.refl s) (.bl _)⟩
 ·cases e
theorem zy:OpD (rI0 fun i j=>.bl (decide (i<=j))) Dm.gLe:=by
 intro H0 H x y dx dy z Q s rx ry e k;unfold Dm.gLe at e;split at e
 ·cases e;cases aD rx;cases aD ry;exact⟨_,_,rfl,rfl,k _ H0 H (aN.refl s) (.bl _)⟩
 ·cases e
theorem IS:OpD (rI0 fun i j=>.bl (decide (j<i))) Dm.gGt:=by
 intro H0 H x y dx dy z Q s rx ry e k;unfold Dm.gGt at e;split at e
 ·cases e;cases aD rx;cases aD ry;exact⟨_,_,rfl,rfl,k _ H0 H (aN.refl s) (.bl _)⟩
 ·cases e
theorem IT:OpD (rI0 fun i j=>.bl (decide (j<=i))) Dm.gGe:=by
 intro H0 H x y dx dy z Q s rx ry e k;unfold Dm.gGe at e;split at e
 ·cases e;cases aD rx;cases aD ry;exact⟨_,_,rfl,rfl,k _ H0 H (aN.refl s) (.bl _)⟩
 ·cases e
theorem Ga:OpD (rI (fun _ j=>0<j) fun i j=>.int (i % j)) Dm.iI:=by
 intro H0 H x y dx dy z Q s rx ry e k;unfold Dm.iI at e;split at e
 ·split at e
  ·rename_i hj;cases e;cases aD rx;cases aD ry;exact⟨_,_,rfl,rfl,hj,k _ H0 H (aN.refl s) (.int _)⟩
  ·cases e
 ·cases e
theorem Gb:OpD (rI Ij fun i j=>.int (i ^ j.toNat)) Dm.jK:=by
 intro H0 H x y dx dy z Q s rx ry e k;unfold Dm.jK at e;split at e
 ·split at e
  ·rename_i hj;cases e;cases aD rx;cases aD ry;exact⟨_,_,rfl,rfl,⟨hj.1,hj.2.1,Nat.lt_trans hj.2.2 (by decide)⟩,k _ H0 H (aN.refl s) (.int _)⟩
  ·cases e
 ·cases e
end
section
variable{X:Cx}
def Ek(i j:Int):Prop:=0<j/\j<Dm.qv
theorem zz:OpR X (binaryOp .FloorDiv) (rI Ek fun i j=>.int (i / j)):=opI fun i j _ _ _ _ _ hc q=>by
 have h:j.natAbs.log2<9000:=by
  have h1:j.natAbs<2 ^ 200:=by
   have:=hc.2;unfold Dm.qv at this;have h2:=hc.1;have e:(2:Nat) ^ 200=1606938044258990275541962092341162602522202993782792835301376:=by decide +kernel
   omega
  have h3:j.natAbs≠0:=by have:=hc.1;omega
  have:=(Nat.log2_lt h3).mpr h1;omega
 have e:i.fdiv j=i / j:=Int.fdiv_eq_ediv_of_nonneg i (Int.le_of_lt hc.1);rw[<- e]at q;exact floordiv_int (Int.ne_of_gt hc.1) q (.inl (PyProof.noPylong_of_log2 h))
end
theorem Gd:OpD (rI Ek fun i j=>.int (i / j)) Dm.se:=by
 intro H0 H x y dx dy z Q s rx ry e k;unfold Dm.se at e;split at e
 ·split at e
  ·rename_i hj;cases e;cases aD rx;cases aD ry;exact⟨_,_,rfl,rfl,hj,k _ H0 H (aN.refl s) (.int _)⟩
  ·cases e
 ·cases e
theorem Ge:UnD (rU fun i=>.int (-i)) Dm.qw:=by
 intro H0 H x dx z Q s rx e k;unfold Dm.qw at e;split at e
 ·cases e;cases aD rx;exact⟨_,rfl,k _ H0 H (aN.refl s) (.int _)⟩
 ·cases e
def zA:R2:=fun x y H Q=>∃l b xs zs,x=.ref l/\y=.ref b/\Rd H l (.lst xs)/\Rd H b (.lst zs)/\xs.length+zs.length<=sizeLine/\∀p,H p=none->Q (.ref p) (upd H p (.lst (xs++zs)))
def zB:R2:=fun x y H Q=>∃l k xs,x=.ref l/\y=.int k/\Rd H l (.lst xs)/\-(2 ^ 63)<=k/\k<2 ^ 63/\xs.length*k.toNat<=sizeLine /\
 ∀p,H p=none->Q (.ref p) (upd H p (.lst (gV k.toNat xs).flatten))
section
variable{X:Cx}
theorem Cw:OpR X (binaryOp .Add) zA:=by
 intro mU s σ H x y v u Q I rx ry h;obtain⟨l,b,xs,zs,rfl,rfl,hH,hB,hz,q⟩:=h;cases rx;cases ry;obtain⟨z,its,n,r,e⟩:=hH.ok I.hok;obtain⟨z2,its2,n2,r2,e2⟩:=hB.ok I.hok;have hl:=r.length;have hl2:=r2.length;refine PySem.P.add_list e e2 ?_ (by rw[Mm,Mm];lia);have ea:its.toArray++its2.toArray=(its++its2).toArray:=by simp
 rw[ea];exact⟨.ref _,_,I.FZ (t':=s.toks) (r.append r2) (by rw[Mt];lia),rfl,q _ I.fresh⟩
theorem Cy:OpR X (binaryOp .Mult) zB:=by
 intro mU s σ H x y v u Q I rx ry h;obtain⟨l,k,xs,rfl,rfl,hH,h1,h2,hz,q⟩:=h;cases rx;obtain⟨t,rfl⟩:=ry;obtain⟨z,its,n,r,e⟩:=hH.ok I.hok;have hl:=r.length;have yi:its.toArray.size*k.toNat<=sizeLine:=by rw[Mm,<- hl];exact hz
 have hcap:¬its.toArray.size*k.toNat>(2 ^ 63-1) / 8:=by
  have:(sizeLine:Nat)<=(2 ^ 63-1) / 8:=by decide
  lia
 have hfit:¬(!Builtin.List.listFitsIndex k)=true:=by rw[fitsIndex_both h1 h2];exact MF
 have IU:¬NI (its.toArray.size*k.toNat)=true:=by rw[yZ yi];exact MF
 have hnew:OT (fun x1 x2=>x1++x2) #[] (gV (if its.toArray.isEmpty=true then 0 else k.toNat) its.toArray)=(gV k.toNat its).flatten.toArray:=by
  have f0:∀m:Nat,OT (fun x1 x2=>x1++x2) #[] (gV m its.toArray)=(gV m its).flatten.toArray:=fun m=>by have:=foldl_rep its m [];rw[N4]at this;exact this
  rw[f0];cases its with
  |nil=>simp
  |cons a r'=>rw[if_neg (by simp)]
 refine wpAny_binaryOp_repeat_ref (T := "list") (U := "int") (by decide) ⟨_,e,rfl⟩ (fun s'=>typeIs_int s' k t) noFill_list_mul F.fills_int_mul F.slot_int_rmul repeat_list F.slot_int_index.lookup
  (call_meets F.slot_int_rmul (typeIs_int s k t) F.entry_int_rmul (F.args_int_rmul_2 _ _) (int___rmul___int_list k t l its.toArray n)
   ⟨e,rfl,⟨_,e,rfl⟩,call_meets F.slot_list_mul ⟨_,e,rfl⟩ F.entry_list_mul (F.args_list_mul_2 _ _) (AutoListH.list___mul___list_int_3 l its.toArray n k t hfit hcap IU) ⟨e,?_⟩⟩)
 rw[hnew];exact⟨.ref _,_,I.FZ (t':=s.toks) (r.rep k.toNat) (by rw[len_rep,Nat.mul_comm];exact hz),rfl,q _ I.fresh⟩
theorem Cz:OpR X (binaryOp .Add) (fun x y H Q=>rI0 (fun i j=>.int (i+j)) x y H Q\/zA x y H Q):=Fw.or Cw
theorem CA:OpR X (binaryOp .Mult) (fun x y H Q=>rI yR (fun i j=>.int (i*j)) x y H Q\/zB x y H Q):=Fy.or Cy
end
theorem Gf:OpD (fun x y H Q=>rI0 (fun i j=>.int (i+j)) x y H Q\/zA x y H Q) Dm.cX:=by
 intro H0 H x y dx dy z Q s rx ry e k;unfold Dm.cX at e;split at e
 ·cases e;cases aD rx;cases aD ry;exact .inl ⟨_,_,rfl,rfl,k _ H0 H (aN.refl s) (.int _)⟩
 ·split at e
  ·rename_i hz;cases e;obtain⟨a,us,rfl,qa,ra⟩:=cC s rx;obtain⟨b,ws,rfl,qb,rb⟩:=cC s ry;refine .inr ⟨a,b,us,ws,rfl,rfl,qa,qb,by rw[ra.length,rb.length];exact jM hz,fun p hp=>?_⟩;exact k _ _ _ (aN.mw s hp) ⟨p,rfl,hp,s.free hp,_,aF,ra.append rb⟩
  ·cases e
 ·cases e
theorem Gg:OpD (fun x y H Q=>rI yR (fun i j=>.int (i*j)) x y H Q\/zB x y H Q) Dm.iy:=by
 intro H0 H x y dx dy z Q s rx ry e k;unfold Dm.iy at e;split at e
 ·split at e
  ·rename_i hj;cases e;cases aD rx;cases aD ry;exact .inl ⟨_,_,rfl,rfl,hj,k _ H0 H (aN.refl s) (.int _)⟩
  ·cases e
 ·split at e
  ·rename_i hz;cases e;cases aD ry;obtain⟨a,us,rfl,qa,ra⟩:=cC s rx;obtain⟨h1,h2,h3⟩:=hz;unfold Dm.BIG at h1 h2;refine .inr ⟨a,_,us,rfl,rfl,qa,by lia,by lia,by rw[ra.length];exact jM h3,fun p hp=>?_⟩;exact k _ _ _ (aN.mw s hp) ⟨p,rfl,hp,s.free hp,_,aF,ra.rep _⟩
  ·cases e
 ·cases e
theorem El:OpD (Cv false) Dm.gEq:=by
 intro H0 H x y dx dy z Q s rx ry e k;unfold Dm.gEq at e;split at e
 ·rename_i hk;rw[Mw]at hk;cases e;exact⟨dx,dy,rx.full s,ry.full s,hk.1,hk.2,k _ H0 H (aN.refl s) (.bl _)⟩
 ·cases e
theorem IV:OpD (Cv true) Dm.gNe:=by
 intro H0 H x y dx dy z Q s rx ry e k;unfold Dm.gNe at e;split at e
 ·rename_i hk;rw[Mw]at hk;cases e;exact⟨dx,dy,rx.full s,ry.full s,hk.1,hk.2,k _ H0 H (aN.refl s) (.bl _)⟩
 ·cases e
theorem zC:OpD (IQ true) Dm.kC:=by
 intro H0 H x y dx dy z Q s rx ry e k;unfold Dm.kC at e;split at e
 ·split at e
  ·rename_i hk;rw[Mw]at hk;cases e;exact⟨dx,_,rx.full s,.inl (ry.full s),hk.1,hk.2,k _ H0 H (aN.refl s) (.bl _)⟩
  ·cases e
 ·split at e
  ·rename_i hk;rw[Mw]at hk;cases e;exact⟨dx,_,rx.full s,.inr (ry.full s),hk.1,hk.2,k _ H0 H (aN.refl s) (.bl _)⟩
  ·cases e
 ·cases e
theorem wC{H0:Hp}{xs:List V}{ds:List Dat}{i:Int}{d:Dat}(rs:aM H0 xs ds)(e:Dm.atI ds i=some d):∃v,L2.atI xs i=some v/\Rep H0 v d:=by
 unfold Dm.atI at e;cases q:Dm.ixN ds.length i with
 |none=>rw[q]at e;cases e
 |some j=>rw[q]at e;obtain⟨v,hv,r⟩:=rs.get (i:=j) e;refine⟨v,?_,r⟩;unfold L2.atI;rw[rs.length];have q':L2.ixN ds.length i=some j:=q;rw[q'];exact hv
theorem IW{K:gc}:OpD (fun x y H Q=>Io K x y H Q\/Cn K x y H Q) Dm.gIx:=by
 intro H0 H x y dx dy z Q s rx ry e k;unfold Dm.gIx at e;split at e
 ·rename_i ds i;cases q:Dm.atI ds i with
  |none=>rw[q]at e;cases e
  |some d=>rw[q]at e;cases e;cases aD ry;obtain⟨a,us,rfl,qa,ra⟩:=cC s rx;obtain⟨v,hv,rv⟩:=wC ra q;exact .inl ⟨a,us,i,v,rfl,rfl,.inl qa,hv,k _ H0 H (aN.refl s) rv⟩
 ·rename_i ds i;cases q:Dm.atI ds i with
  |none=>rw[q]at e;cases e
  |some d=>rw[q]at e;cases e;cases aD ry;obtain⟨a,us,rfl,qa,ra⟩:=jQ s rx;obtain⟨v,hv,rv⟩:=wC ra q;exact .inr ⟨a,us,i,v,rfl,rfl,.inl (.inl qa),hv,k _ H0 H (aN.refl s) rv⟩
 ·cases e
theorem Gh{K:gc}:CallD (fun xs H Q=>∃p ys,xs=[.ref p]/\(SqL K H p ys\/SqT K H p ys)/\Q (.int ys.length) H) Dm.eT:=by
 intro H0 H vs ds z Q s rs e k;unfold Dm.eT at e;split at e
 ·cases e;cases rs with
  |cons r rr=>cases rr;obtain⟨a,us,rfl,qa,ra⟩:=cC s r;exact⟨a,us,rfl,.inl (.inl qa),k _ H0 H (aN.refl s) (by rw[ra.length];exact .int _)⟩
 ·cases e;cases rs with
  |cons r rr=>cases rr;obtain⟨a,us,rfl,qa,ra⟩:=jQ s r;exact⟨a,us,rfl,.inr (.inl (.inl qa)),k _ H0 H (aN.refl s) (by rw[ra.length];exact .int _)⟩
 ·cases e
theorem CB:CallD (fun xs H Q=>∃i j,xs=[.int i,.int j]/\Q (.int (if j<i then j else i)) H) Dm.pD:=by
 intro H0 H vs ds z Q s rs e k;unfold Dm.pD at e;split at e
 ·cases e;cases rs with
  |cons r rr=>
   cases rr with
   |cons r' rr=>cases rr;cases aD r;cases aD r';exact⟨_,_,rfl,k _ H0 H (aN.refl s) (.int _)⟩
 ·cases e
theorem CD:CallD (fun xs H Q=>∃i j,xs=[.int i,.int j]/\Q (.int (if j>i then j else i)) H) Dm.mj:=by
 intro H0 H vs ds z Q s rs e k;unfold Dm.mj at e;split at e
 ·cases e;cases rs with
  |cons r rr=>
   cases rr with
   |cons r' rr=>cases rr;cases aD r;cases aD r';exact⟨_,_,rfl,k _ H0 H (aN.refl s) (.int _)⟩
 ·cases e
theorem CF{K:gc}:CallD (fun xs H Q=>∃p ys,xs=[.ref p]/\(SqL K H p ys\/SqT K H p ys)/\∀l,H l=none->Q (.ref l) (upd H l (.lst ys))) Dm.wm:=by
 intro H0 H vs ds z Q s rs e k;unfold Dm.wm at e;split at e
 ·cases e;cases rs with
  |cons r rr=>cases rr;obtain⟨a,us,rfl,qa,ra⟩:=cC s r;exact⟨a,us,rfl,.inl (.inl qa),fun p hp=>k _ _ _ (aN.mw s hp) ⟨p,rfl,hp,s.free hp,_,aF,ra⟩⟩
 ·cases e;cases rs with
  |cons r rr=>cases rr;obtain⟨a,us,rfl,qa,ra⟩:=jQ s r;exact⟨a,us,rfl,.inr (.inl (.inl qa)),fun p hp=>k _ _ _ (aN.mw s hp) ⟨p,rfl,hp,s.free hp,_,aF,ra⟩⟩
 ·cases e
theorem zD{K:gc}:CallD (fun xs H Q=>∃p ys,xs=[.ref p]/\((SqL K H p ys/\∀l,H l=none->Q (.ref l) (upd H l (.tup ys)))\/(SqT K H p ys/\Q (.ref p) H))) Dm.qx:=by
 intro H0 H vs ds z Q s rs e k;unfold Dm.qx at e;split at e
 ·cases e;cases rs with
  |cons r rr=>cases rr;obtain⟨a,us,rfl,qa,ra⟩:=cC s r;refine⟨a,us,rfl,.inl ⟨.inl qa,fun p hp=>?_⟩⟩;have g:=aN.zf (o:=HO.tup us) s hp;exact k _ _ _ g (.tup aF (ra.mono g.s0))
 ·cases e;cases rs with
  |cons r rr=>
   cases rr;rcases r with r | ⟨a,_,w⟩
   ·cases r with
    |tup q rs=>exact⟨_,_,rfl,.inr ⟨.inl (.inl (s _ _ q)),k _ H0 H (aN.refl s) (.tup q rs)⟩⟩
   ·exact Mr w
 ·cases e
noncomputable abbrev DS(X:Cx)(st:Stmt)(f:FS):Prop:=PS X st (tDS f)
noncomputable abbrev DSs(X:Cx)(st:List Stmt)(f:FS):Prop:=PSs X st (tDS f)
noncomputable abbrev DI(X:Cx)(tg it:Expr)(f:Dm.FI):Prop:=PI X tg it (tDI f)
theorem PI.weak{X:Cx}{tg it:Expr}{t t':TI}(h:PI X tg it t)(k:∀σ H R,t' σ H R->t σ H R):PI X tg it t':=fun mU s σ H R I q=>h mU s σ H R I (k σ H R q)
section
variable{X:Cx}{a b c e:Expr}{fa fb fc f:FE}{pos:Pos}
section
variable{g:Dat->Dat->Option RV}{r:List V->Hp->VK->Prop}{qU:List Expr}{x:Str}{k:Nat}{i:Int}
theorem d_v(i:Nat)(hN:X.N[i]?=some x:=by rfl)(hv:Vis X.env.scope x:=by trivial)(hd:(x == ("__debug__" : Str))=false:=by decide)
  (JL:(x == ("__classdict__" : Str))=false:=by decide):DE X (.Name x pos) (Dm.eV i):=PE.weak (ku hN hv hd JL) fun _ _ _=>Eg
theorem d_i{j}:DE X (.Constant (.int i) j pos) (Dm.eC (.int i)):=PE.weak yI fun _ _ _=>jL fun _=>.int i
theorem d_b{v:Bool}{j}:DE X (.Constant (.bool v) j pos) (Dm.eC (.bl v)):=PE.weak Ia fun _ _ _=>jL fun _=>.bl v
theorem d_n{j}:DE X (.Constant .none j pos) (Dm.eC .non):=PE.weak Fc fun _ _ _=>jL fun _=>.non
theorem d_s{s:List Nat}{j}(hx:x=⟨s.toArray⟩:=by rfl):DE X (.Constant (.str x) j pos) (Dm.eC (.str s)):=by subst hx;exact PE.weak Fd fun _ _ _=>jL fun _=>.str s
theorem d_g{t:Tok}(hg:Gl X x)(hm:X.mg x=some (.int i t))(hd:(x == ("__debug__" : Str))=false:=by decide):DE X (.Name x pos) (Dm.eC (.int i)):=
 PE.weak (ql (v:=.int i) hg hm ⟨t,rfl⟩ hd) fun _ _ _=>jL fun _=>.int i
theorem xT{op:Operator}{r:R2}(o:OpR X (binaryOp op) r)(od:OpD r g)(ha:DE X a fa)(hb:DE X b fb):DE X (.BinOp a op b pos) (Dm.e2 g fa fb):=
 PE.weak (Ig o ha hb) fun _ _ _=>Cr od
theorem bU(ha:DE X a fa)(hb:DE X b fb):DE X (.BinOp a .Add b pos) (Dm.e2 Dm.cX fa fb):=xT Cz Gf ha hb
theorem gv(ha:DE X a fa)(hb:DE X b fb):DE X (.BinOp a .Sub b pos) (Dm.e2 Dm.fU fa fb):=xT Fx F_ ha hb
theorem jR(ha:DE X a fa)(hb:DE X b fb):DE X (.BinOp a .Mult b pos) (Dm.e2 Dm.iy fa fb):=xT CA Gg ha hb
theorem zF(ha:DE X a fa)(hb:DE X b fb):DE X (.BinOp a .FloorDiv b pos) (Dm.e2 Dm.se fa fb):=xT zz Gd ha hb
theorem jS(ha:DE X a fa)(hb:DE X b fb):DE X (.BinOp a .Mod b pos) (Dm.e2 Dm.iI fa fb):=xT Fz Ga ha hb
theorem jT(ha:DE X a fa)(hb:DE X b fb):DE X (.BinOp a .Pow b pos) (Dm.e2 Dm.jK fa fb):=xT FA Gb ha hb
theorem pG(ha:DE X a fa):DE X (.UnaryOp .USub a pos) (Dm.e1 Dm.qw fa):=PE.weak (Ih FD ha) fun _ _ _=>Iw Ge
theorem wD{op:CmpOp}{r:R2}(o:OpR X (compareOp op) r)(od:OpD r g)(ha:DE X a fa)(hb:DE X b fb)(hm:behindInMarks op b=false):DE X (.Compare a [op] [b] pos) (Dm.e2 g fa fb):=
 PE.weak (Ci o ha hb hm) fun _ _ _=>Cr od
theorem sD{op:CmpOp}{r:R2}(o:OpR X (compareOp op) r)(od:OpD r g)(ha:DE X a fa)(hb:DE X b fb)(hm:behindInMarks op b=false):DT X (.Compare a [op] [b] pos) (Dm.tV (Dm.e2 g fa fb)):=
 PT.weak (Cj o ha hb hm) fun σ H Q h=>Cr od (zk h)
theorem IX(hr:bM k X.A)(ha:DE X a fa)(hb:DE X b fb):DE X (.Compare a [.Eq] [b] pos) (Dm.e2 Dm.gEq fa fb):=wD (zx hr) El ha hb (gA _)
theorem Lk(ha:DE X a fa)(hb:DE X b fb):DE X (.Compare a [.Lt] [b] pos) (Dm.e2 Dm.gLt fa fb):=wD Ea Ej ha hb (gA _)
theorem Ll(ha:DE X a fa)(hb:DE X b fb):DE X (.Compare a [.LtE] [b] pos) (Dm.e2 Dm.gLe fa fb):=wD yS zy ha hb (gA _)
theorem IY(hr:bM k X.A)(ha:DE X a fa)(hb:DE X b fb)(hm:behindInMarks .NotIn b=false:=by rfl):DE X (.Compare a [.NotIn] [b] pos) (Dm.e2 Dm.kC fa fb):=wD (xS hr) zC ha hb hm
theorem CG(hr:bM k X.A)(ha:DE X a fa)(hb:DE X b fb):DT X (.Compare a [.Eq] [b] pos) (Dm.tV (Dm.e2 Dm.gEq fa fb)):=sD (zx hr) El ha hb (gA _)
theorem mD(hr:bM k X.A)(ha:DE X a fa)(hb:DE X b fb):DT X (.Compare a [.NotEq] [b] pos) (Dm.tV (Dm.e2 Dm.gNe fa fb)):=sD (F9 hr) IV ha hb (gA _)
theorem Lm(ha:DE X a fa)(hb:DE X b fb):DT X (.Compare a [.Lt] [b] pos) (Dm.tV (Dm.e2 Dm.gLt fa fb)):=sD Ea Ej ha hb (gA _)
theorem u6(ha:DE X a fa)(hb:DE X b fb):DT X (.Compare a [.Gt] [b] pos) (Dm.tV (Dm.e2 Dm.gGt fa fb)):=sD Ik IS ha hb (gA _)
theorem CH(ha:DE X a fa)(hb:DE X b fb):DT X (.Compare a [.GtE] [b] pos) (Dm.tV (Dm.e2 Dm.gGe fa fb)):=sD Il IT ha hb (gA _)
theorem aT(ha:DE X a fa)(hb:DE X b fb)(hs:qq b:=by intro _ _;rfl):DE X (.Subscript a b pos) (Dm.e2 Dm.gIx fa fb):=PE.weak (Ed (Co.or yX) ha hb hs) fun _ _ _=>Cr IW
theorem af:DA X [] []:=PA.weak gB fun _ _ _=>Eh
theorem aa{es:List Expr}{fs:List FE}(h:DE X e f)(r:DA X es fs)(hs:starEach (e::es) X.env=(false,eval e X.env)::starEach es X.env:=by rfl):DA X (e::es) (f::fs):=PA.weak (cE h r hs) fun _ _ _=>zh
theorem aS{es:List Expr}{fs:List FE}{x1}(h:DA X es fs):DE X (.Tuple es x1 pos) (Dm.bq fs):=PE.weak (uU h) fun _ _ _=>Iz
theorem aO{es:List Expr}{fs:List FE}(h:DA X es fs):DE X (.List es pos) (Dm.bf fs):=PE.weak (FJ h) fun _ _ _=>IA
theorem zG{es:List Expr}{fs:List FE}{g:List Dat->Option RV}{id:String}{p:Pos}(hc:eS X (.builtin id) r)(cd:CallD r g)(hv:bootBuiltins x=some (.builtin id))(hg:Gl X x)(hm:X.mg x=none)(ha:DA X (e::es) fs)
  (hn:x ≠ "__name__" := by decide) (JF:(x == ("__debug__" : Str))=false:=by decide) (he:starEach (e::es) X.env=(false,eval e X.env)::starEach es X.env:=by rfl) (En:(backTo pos (starEach es X.env)).any (·.1)=false:=by rfl) :
  DE X (.Call (.Name x p) (e::es) [] pos) (Dm.eB g fs):=PE.weak (gC hc hg hm hv ha hn JF he En) fun _ _ _=>F2 cd
theorem Gi{es:List Expr}{fs:List FE}{g:List Dat->Option RV}{T:String}{p:Pos}(hc:eS X (.type T) r)(cd:CallD r g)(hv:bootBuiltins x=some (.type T))(hg:Gl X x)(hm:X.mg x=none)(ha:DA X (e::es) fs)
  (hn:x ≠ "__name__" := by decide) (JF:(x == ("__debug__" : Str))=false:=by decide) (he:starEach (e::es) X.env=(false,eval e X.env)::starEach es X.env:=by rfl) (En:(backTo pos (starEach es X.env)).any (·.1)=false:=by rfl) :
  DE X (.Call (.Name x p) (e::es) [] pos) (Dm.eB g fs):=PE.weak (xN hc hg hm hv ha hn JF he En) fun _ _ _=>F2 cd
variable{es:List Expr}{fs:List FE}{p:Pos}
theorem fN(hg:Gl X "len")(hm:X.mg "len" = none)(ha:DA X [e] fs)(he:starEach [e] X.env=[(false,eval e X.env)]:=by rfl)(En:(backTo pos (starEach [] X.env)).any (·.1)=false:=by rfl):DE X (.Call (.Name "len" p) [e] [] pos) (Dm.eB Dm.eT fs):=zG qt Gh PySem.boot_len hg hm ha (he:=he) (En:=En)
theorem zH(hc:X.calm=true)(hg:Gl X "min")(hm:X.mg "min" = none)(ha:DA X [a,b] fs)(he:starEach [a,b] X.env=(false,eval a X.env)::starEach [b] X.env:=by rfl)(En:(backTo pos (starEach [b] X.env)).any (·.1)=false:=by rfl):DE X (.Call (.Name "min" p) [a,b] [] pos) (Dm.eB Dm.pD fs):=zG (xG hc) CB (by rfl) hg hm ha (he:=he) (En:=En)
theorem u7(hc:X.calm=true)(hg:Gl X "max")(hm:X.mg "max" = none)(ha:DA X [a,b] fs)(he:starEach [a,b] X.env=(false,eval a X.env)::starEach [b] X.env:=by rfl)(En:(backTo pos (starEach [b] X.env)).any (·.1)=false:=by rfl):DE X (.Call (.Name "max" p) [a,b] [] pos) (Dm.eB Dm.mj fs):=zG (xF hc) CD (by rfl) hg hm ha (he:=he) (En:=En)
theorem Gj(hg:Gl X "list")(hm:X.mg "list" = none)(ha:DA X [e] fs)(he:starEach [e] X.env=[(false,eval e X.env)]:=by rfl)(En:(backTo pos (starEach [] X.env)).any (·.1)=false:=by rfl):DE X (.Call (.Name "list" p) [e] [] pos) (Dm.eB Dm.wm fs):=Gi qu CF (by rfl) hg hm ha (he:=he) (En:=En)
theorem CI(hg:Gl X "tuple")(hm:X.mg "tuple" = none)(ha:DA X [e] fs)(he:starEach [e] X.env=[(false,eval e X.env)]:=by rfl)(En:(backTo pos (starEach [] X.env)).any (·.1)=false:=by rfl):DE X (.Call (.Name "tuple" p) [e] [] pos) (Dm.eB Dm.qx fs):=Gi oS zD (by rfl) hg hm ha (he:=he) (En:=En)
theorem aE{F:Addr}{fd:FuncData}{ps:List Str}{g:List Dat->Option RV}(G:aP X.prog X.w X.K X.mg X.base CX0 k F fd ps (spD g))(hr:bM k X.A)(hg:Gl X x)(hm:X.mg x=some (.ref F))(hk:MZ X.K (.ref F)=true)(hb:Binds X.K fd ps [])
  (ha:DA X (e::es) fs) (JF:(x == ("__debug__" : Str))=false:=by decide) (he:starEach (e::es) X.env=(false,eval e X.env)::starEach es X.env:=by rfl) (En:(backTo pos (starEach es X.env)).any (·.1)=false:=by rfl) :
  DE X (.Call (.Name x p) (e::es) [] pos) (Dm.eF g fs):=PE.weak (lM G hr hg hm hk hb .nil (r_ (X:=X)) ha JF he En) fun _ _ _=>zj
theorem Ln{t:FT}{q:Expr}(hq:DT X q t)(ha:DE X a fa)(hb:DE X b fb):DE X (.IfExp q a b pos) (Dm.eIf t fa fb):=PE.weak (yJ hq ha hb) fun _ _ _=>Lb
theorem wF{op}(h:DE X a fa):DE X (.BoolOp op [a] pos) fa:=Fg h
theorem sF(ha:DE X a fa)(hb:DE X (.BoolOp .And (b::qU) pos) fb):DE X (.BoolOp .And (a::b::qU) pos) (Dm.l8 fa fb):=PE.weak (Fi ha hb) fun _ _ _=>IB
theorem IZ(ha:DE X a fa):DE X (.UnaryOp .Not a pos) (Dm.Cq fa):=PE.weak (Fj ha) fun _ _ _=>IC
noncomputable abbrev DW(X:Cx)(e:Expr)(f:FT):Prop:=PW X e (tDT f)
theorem PW.weak{t t':TT}(h:PW X e t)(k:∀σ H Q,t' σ H Q->t σ H Q):PW X e t':=fun whole mU s σ H Q I q=>h whole mU s σ H Q I (k σ H Q q)
variable{ta tb:FT}
theorem zI(h:DT X a ta):DW X (.BoolOp .And [a] pos) ta:=pw_and1 h
theorem jU(h:DT X a ta):DW X (.BoolOp .Or [a] pos) ta:=pw_or1 h
theorem w_and(ha:DT X a ta)(hb:DW X (.BoolOp .And (b::qU) pos) tb):DW X (.BoolOp .And (a::b::qU) pos) (Dm.lW ta tb):=PW.weak (pw_and ha hb) fun _ _ _=>F4
theorem w_or(ha:DT X a ta)(hb:DW X (.BoolOp .Or (b::qU) pos) tb):DW X (.BoolOp .Or (a::b::qU) pos) (Dm.tOr ta tb):=PW.weak (pw_or ha hb) fun _ _ _=>ID
theorem t_w(h:DW X a ta):DT X a ta:=h.pt
theorem dU(h:DT X a ta):DT X (.UnaryOp .Not a pos) (Dm.dh ta):=PT.weak (Ff h) fun _ _ _=>F3
theorem cJ(h:DE X e f)(he:∀whole,isTrue e X.env whole=(do let v <- whole;standAt e.pos;holding [v] (truthy v)):=by intro _;rfl):DT X e (Dm.tV f):=PT.weak (Fe h he) fun _ _ _=>zk
variable{tg:Expr}
theorem xU(hg:Gl X "range")(hm:X.mg "range" = none)(ha:DA X [a] [fa])(hs:starEach [a] X.env=[(false,eval a X.env)]:=by rfl):DI X tg (.Call (.Name "range" p) [a] [] pos) (Dm.iR1 fa):=
 PI.weak (xC hg hm ha hs) fun _ _ _=>Ei
theorem I0(hg:Gl X "range")(hm:X.mg "range" = none)(ha:DA X [a,b] [fa,fb])(hs:starEach [a,b] X.env=[(false,eval a X.env),(false,eval b X.env)]:=by rfl)(hs2:starEach [b] X.env=[(false,eval b X.env)]:=by rfl):DI X tg (.Call (.Name "range" p) [a,b] [] pos) (Dm.iR2 fa fb):=
 PI.weak (xD hg hm ha hs hs2) fun _ _ _=>IL
end
end
section
variable{X:Cx}{st:Stmt}{qU:List Stmt}{fs gs:FS}{e a b c:Expr}{f fa fb:FE}{pos:Pos}
section
variable{is:List Nat}{es:List Expr}{x:Str}
theorem bZ:DSs X [] Dm.sNx:=PSs.weak qm fun _ _ _=>Lc
theorem ak(h1:DS X st fs)(h2:DSs X qU gs):DSs X (st::qU) (Dm.aG fs gs):=PSs.weak (eN h1 h2) fun _ _ _=>IE
theorem aA(h1:DS X st fs):DSs X [st] fs:=fT h1
theorem s_a(i:Nat){x:Str}{pos':Pos}(hN:X.N.Nodup)(he:DE X e f)(hi:X.N[i]?=some x:=by rfl)(hx:Loc X.env.scope x:=by trivial)(hs:swapsWith e (some (.Name x pos')) pos.line X.env=pure false:=by rfl)
  (hf:X.fn x=true\/X.env.scope.names.lookup x=some .local:=by trivial):DS X (.Assign [.Name x pos'] e pos) (Dm.sA i f):=PS.weak (lX hN hi hx he hs hf) fun _ _ _=>zp
theorem eW:PGs X [] (fh []):=Cf
theorem aQ(i:Nat){px:Pos}(hN:X.N.Nodup)(h2:PGs X es (fh is))(hi:X.N[i]?=some x:=by rfl)(hx:Loc X.env.scope x:=by trivial)
  (hf:X.fn x=true\/X.env.scope.names.lookup x=some .local:=by trivial) (hs:(assignEach (.Name x px::es) X.env).map (·.2)=assign (.Name x px) X.env::(assignEach es X.env).map (·.2):=by rfl):PGs X (.Name x px::es) (fh (i::is)):=yM (qp hN hi hx hf) h2 hs
theorem s_u{k:Nat}{tpos:Pos}(hc:X.calm=true)(hg:PGs X es (fh is))(he:DE X e f)(hn:(assignEach es X.env).length=is.length:=by rfl)(hst:(assignEach es X.env).findIdx? (·.1)=none:=by rfl)
  (hs:swapsWithSole [.Tuple es k tpos] e pos.line X.env=pure false:=by rfl) (hw:swappedStores [.Tuple es k tpos] e X.env=pure none:=by rfl) (h1:(assignEach [.Tuple es k tpos] X.env).map (·.2)=[assign (.Tuple es k tpos) X.env]:=by rfl) :
  DS X (.Assign [.Tuple es k tpos] e pos) (Dm.sU is f):=PS.weak (yN he (uR hc hg hn hst) hs hw h1) fun _ _ _=>zq rfl
theorem s_e(he:DE X e f)(hs:swapsWith e none pos.line X.env=pure false:=by rfl):DS X (.Expr e pos) (Dm.sE f):=PS.weak (lJ he hs) fun _ _ _=>F5
theorem s_r(he:DE X e f):DS X (.Return (some e) pos) (Dm.sR f):=PS.weak (qo he) fun _ _ _=>IF
theorem eX{t:FT}{x y:List Stmt}(ht:DT X c t)(ha:DSs X x fs)(hb:DSs X y gs):DS X (.If c x y pos) (Dm.sIf t fs gs):=PS.weak (rS ht ha hb) fun _ _ _=>IG
theorem qH:DS X st (fun _=>none):=PS.weak yL fun _ _ _ ⟨_,_,_,_,z,_⟩=>by cases z
theorem zJ(i:Nat){px ap cp:Pos}(he:DE X e f)(hi:X.N[i]?=some x:=by rfl)(hv:Vis X.env.scope x:=by trivial)(hd:(x == ("__debug__" : Str))=false:=by decide)
  (JL:(x == ("__classdict__" : Str))=false:=by decide) (Q5:attributeBase (.Name x px) "append" X.env (eval (.Name x px) X.env)=eval (.Name x px) X.env:=by rfl)
  (hfew:((backTo cp (starEach [e] X.env)).all (fun x=>!x.1)&&(backToKw cp (keywordEach [] X.env)).all (fun x=>x.1.isSome)
   && decide ([e].length+([]:List Keyword).length+(if ([]:List Keyword).isEmpty then 0 else 1)<30))=true:=by rfl)
  (LL:(ap.endLine == cp.line)=true:=by rfl) (hs:starEach [e] X.env=(false,eval e X.env)::starEach [] X.env:=by rfl) (hplain:(backTo cp (starEach [] X.env)).any (·.1)=false:=by rfl)
  (hsw:swapsWith (.Call (.Attribute (.Name x px) "append" ap) [e] [] cp) none pos.line X.env=pure false:=by rfl) :
  DS X (.Expr (.Call (.Attribute (.Name x px) "append" ap) [e] [] cp) pos) (Dm.sd i f):=
 PS.weak (lJ (Ip PySem.F.plainAttrs_list PySem.F.slot_list_append PySem.F.type_list_append pA (ku hi hv hd JL) (aa he af hs) Q5 hfew LL hs hplain) hsw) fun _ _ _=>II
theorem pH(i:Nat){j:Expr}{fj:FE}{px sp:Pos}(hj:DE X j fj)(he:DE X e f)(hi:X.N[i]?=some x:=by rfl)(hv:Vis X.env.scope x:=by trivial)(hd:(x == ("__debug__" : Str))=false:=by decide)
  (JL:(x == ("__classdict__" : Str))=false:=by decide) (ha:∀ v,assign (.Subscript (.Name x px) j sp) X.env v=(do
   let ov <- holding [v] (eval (.Name x px) X.env)
   let iv <- holding [v,ov] (eval j X.env)
   standAt sp
   holding [v,ov,iv] (setItem ov iv v)
   release [v,ov,iv] []):=by intro _;rfl)
  (hs:swapsWithSole [.Subscript (.Name x px) j sp] e pos.line X.env=pure false:=by rfl) (hw:swappedStores [.Subscript (.Name x px) j sp] e X.env=pure none:=by rfl) (h1:(assignEach [.Subscript (.Name x px) j sp] X.env).map (·.2)=[assign (.Subscript (.Name x px) j sp) X.env]:=by rfl) :
  DS X (.Assign [.Subscript (.Name x px) j sp] e pos) (Dm.l9 i fj f):=PS.weak (yN he (Fq (ku hi hv hd JL) hj set_list ha) hs hw h1) fun _ _ _=>IJ
structure TG'(X:Cx)(tg:Expr)(is:List Nat)(bd:Dm.FB):Prop where
 ex:∃g,PG X tg g/\BD is g bd
theorem g_n(i:Nat){px:Pos}(hN:X.N.Nodup)(hi:X.N[i]?=some x:=by rfl)(hx:Loc X.env.scope x:=by trivial)(hf:X.fn x=true\/X.env.scope.names.lookup x=some .local:=by trivial) :
  TG' X (.Name x px) [i] (Dm.bN i):=⟨⟨_,qp hN hi hx hf,wz i⟩⟩
theorem g_t{k:Nat}{tpos:Pos}(hc:X.calm=true)(hg:PGs X es (fh is))(hn:(assignEach es X.env).length=is.length:=by rfl)(hst:(assignEach es X.env).findIdx? (·.1)=none:=by rfl):TG' X (.Tuple es k tpos) is (Dm.bT is):=
 ⟨⟨_,uR hc hg hn hst,zu is rfl⟩⟩
theorem fO{tg it:Expr}{fi:Dm.FI}{bd:Dm.FB}{body:List Stmt}(hp:PassesOwn (model X.prog X.w) X.A X.env X.xe)(hc:X.calm=true)(hi:DI X tg it fi)(hg:TG' X tg is bd)(hb:DSs X body fs)
  (hs:∀x,foldedSetIterable it X.env x=pure x:=by intro _;rfl):DS X (.For tg it body [] pos) (Dm.fW fi bd fs):=by
 obtain⟨g,h1,h2⟩:=hg.ex;exact PS.weak (Ft hp hc hi h1 hb hs) fun _ _ _=>IK h2
end
end
noncomputable def tyName:Dat->String
 |.non => "NoneType"
 |.bl _ => "bool"
 |.int _ => "int"
 |.str _ => "str"
 |.tup _ => "tuple"
 |.lst _ => "list"
 |.dct _ _ => "dict"
 |.dcp _ _ => "dict"
 |.exc _ => "dict"
 |.di _ _ => "dict"
 |.fn _ => "dict"
def xV(T:String)(p:Dat->Bool):Prop:=∀(K:gc) (d:Dat),Mk K (.type (tyName d)) (.type T)=some (p d)
theorem CJ:xV "int" Dm.isI:=fun K d=>by cases d<;>rfl
theorem zK:xV "bool" Dm.isB:=fun K d=>by cases d<;>rfl
theorem zL:xV "list" Dm.isL:=fun K d=>by cases d<;>rfl
theorem kit_tuple:xV "tuple" Dm.isT:=fun K d=>by cases d<;>rfl
theorem zM{K:gc}{H:Hp}{v:V}{d:Dat}(r:Rep H v d)(nx:∀C,d≠.exc C/\d≠.fn C/\∀v,d≠.di C v):jI K H v (.type (tyName d)):=by
 cases r with
 |non=>exact .non
 |bl b=>exact .bl b
 |int i=>exact .int i
 |str s=>exact .str _
 |tup q _=>exact .tup q
 |lst q _=>
  rcases q with q | ⟨o,q⟩
  ·exact .lst q
  ·exact .frz q
 |dct q _ _=>exact .dK q
 |dcp q _ _=>exact .dT q
 |exc _=>exact absurd rfl (nx _).1
 |di _ _=>exact absurd rfl ((nx _).2.2 _)
 |fn _=>exact absurd rfl (nx _).2.1
def I_(K:gc)(T:String):List V->Hp->VK->Prop:=fun xs H Q=>∃x t b,xs=[x,.ty T]/\jI K H x t/\Mk K t (.type T)=some b/\Q (.bl b) H
section
variable{X:Cx}{e:Expr}{f:FE}{p p2 pos:Pos}
theorem zN{T:String}:eS X (.builtin "isinstance") (I_ X.K T):=by intro mU s σ H xs us Q I r h;obtain⟨x,t,b,rfl,ty,e,q⟩:=h;obtain⟨u,u2,rfl,rx,ry⟩:=vals2 r;cases ry;exact xK I rx ty e fun tk=>⟨.bl b,H,I.tok tk,rfl,q⟩
theorem Ja{K:gc}{T:String}{p:Dat->Bool}(kp:xV T p){σ:L2.St}{H:Hp}{Q:VK}(h:tD (Dm.e1 (Dm.mh p) f) σ H Q):tCB (I_ K T) (jJ (tD f) (jJ (tC (.ty T)) xM)) σ H Q:=by
 obtain⟨H0,ρ,x,ρ',st,e,k⟩:=h;unfold Dm.e1 at e;split at e
 ·cases e
 rename_i x1 ρ1 e1;split at e
 ·cases e
 rename_i dx p1;have nx:∀C,dx≠.exc C/\dx≠.fn C/\∀v,dx≠.di C v:=fun C=>⟨fun z=>(by subst z;cases e),fun z=>(by subst z;cases e),fun v z=>(by subst z;cases e)⟩;have ev:Dm.mh p dx=Dm.vB (p dx):=by cases dx<;>first | rfl | exact absurd rfl (nx _).1 | exact absurd rfl (nx _).2.1 | exact absurd rfl ((nx _).2.2 _)
 rw[ev]at e;dsimp only at e;cases e;refine⟨H0,ρ,x1,_,st,e1,fun v H1 Hb t1 r1=>?_⟩;exact⟨v,_,_,rfl,zM ((r1.look t1.st p1).full t1.st.same) nx,kp K dx,k _ H1 Hb t1 (Rep.bl _)⟩
theorem pI{T:String}{tn:Str}{p':Dat->Bool}(kp:xV T p')(hvT:bootBuiltins tn=some (.type T))(hgT:Gl X tn)(hmT:X.mg tn=none)(hg:Gl X "isinstance")(hm:X.mg "isinstance" = none)(h:DE X e f)
  (hn:tn ≠ "__name__" := by decide) (JF:(tn == ("__debug__" : Str))=false:=by decide)
  (he:starEach [e,.Name tn p2] X.env=(false,eval e X.env)::starEach [.Name tn p2] X.env:=by rfl) (En:(backTo pos (starEach [.Name tn p2] X.env)).any (·.1)=false:=by rfl) (he2:starEach [.Name tn p2] X.env=(false,eval (.Name tn p2) X.env)::starEach [] X.env:=by rfl) :
  DE X (.Call (.Name "isinstance" p) [e,.Name tn p2] [] pos) (Dm.e1 (Dm.mh p') f):=
 PE.weak (gC zN hg hm Nf (cE h (cE (v9 (v:=.ty T) hgT hmT hvT rfl hn JF) gB he2) he) (he:=he) (En:=En)) fun _ _ _=>Ja kp
theorem all_range(bs:List Bool):(Ml bs.length).all (fun i=>bs.getD i true)=bs.all id:=by
 rw[Oz,MY,MY];constructor
 ·intro h b hb;obtain⟨i,hi,rfl⟩:=List.mem_iff_getElem.mp hb;have:=h i (Ny.mpr hi);rw[MM,Me hi]at this;exact this
 ·intro h i hi;have hi:=Ny.mp hi;rw[MM,Me hi];exact h _ (Nn hi)
theorem xW(hc:X.calm=true):eS X (.builtin "all") (fun xs H Q=>∃(a:Addr) (bs:List Bool),xs=[.ref a]/\Rd H a (.lst (bs.map V.bl))/\Q (.bl (bs.all id)) H):=by
 intro mU s σ H xs us Q I r h;obtain⟨a,bs,rfl,hq,q⟩:=h;obtain⟨u,rfl,rx⟩:=vals1 r;cases rx;obtain⟨z,its,n,rv,e⟩:=hq.ok I.hok;have hl:s.heap.IsList a its.toArray:=⟨_,e,rfl,_,rfl⟩
 have yi:=rv.length;rw[Mg]at yi;have hax:a≠s.heap.objs.size:=MC (Mi e);refine PySem.call_all_walk (wpAny_pyIter_list hl ⟨s.heap.objs.size,_,_,_,_,_,fun i=>bs.getD i true,rfl,Walks.list (A:=X.A.in1) (I.ok.hd hc) s.heap.objs.size a hax its.toArray,⟨⟨_,MG _ rfl,rfl,rfl⟩,hl.push _⟩,?_,fun h' tk hk=>?_⟩)
 ·intro i v s' Q' E' hv hQ';have hv':its[i]?=some v:=by simpa using hv
  have hi:i<bs.length:=by rw[yi];exact(Dk.mp hv').1
  have hb:(bs.map V.bl)[i]?=some (V.bl bs[i]):=by rw[Mq,Me hi];rfl
  obtain⟨u,hu,ru⟩:=rv.get hb;rw[hv']at hu;cases hu;cases ru;refine wpAny_truthy_bool ?_;have e2:bs.getD i true=bs[i]:=by rw[MM,Me hi];rfl
  rw[<- e2];exact hQ'
 ·have e1:its.toArray.size=bs.length:=by rw[Mm,yi]
  rw[e1,all_range];refine⟨.bl _,H,I.kept (t':=tk) fun b o eb=>hk b o ?_ (Mf _ eb),rfl,q⟩;intro hm;have:b=s.heap.objs.size:=by simpa using hm
  exact absurd (Mi eb) (by rw[this];exact MV _)
end
section
variable{X:Cx}{a b c e:Expr}{f fa fb fc:FE}{p p2 pos:Pos}
section
variable{g h:Dat->Dat->Option RV}
theorem CL{r r':R2}(o1:OpD r g)(o2:OpD r' h){σ:L2.St}{H:Hp}{Q:VK}(hh:tD (Dm.gE g h fa fb fc) σ H Q):yT r r' (tD fa) (tD fb) (tD fc) σ H Q:=by
 obtain⟨H0,ρ,x,ρ',st,e,k⟩:=hh;unfold Dm.gE at e;split at e
 ·cases e
 rename_i x1 ρ1 e1;split at e
 ·cases e
 rename_i y1 ρ2 e2;split at e
 ·cases e
 rename_i dx p1;split at e
 ·cases e
 rename_i dy p2;refine⟨H0,ρ,x1,ρ1,st,e1,fun v H1 Hb t1 r1=>⟨H1,ρ1,y1,ρ2,t1.st,e2,fun u H2 Hc t2 r2=>?_⟩⟩;split at e
 ·rename_i gz;refine o1 H2 Hc v u dx dy _ _ t2.st.same ((r1.mono t2).look t2.st p1) (r2.look t2.st p2) gz fun w H3 Hd g3 r3=>?_;refine⟨true,Rep.qy r3,?_⟩;rw[if_pos rfl];have t3:=t2.trans (.grow t2.st g3);have r2':=r2.mono (.grow t2.st g3);split at e
  ·cases e
  rename_i z ρ3 e3;split at e
  ·cases e
  rename_i dy' p3;split at e
  ·cases e
  rename_i dz p4;split at e
  ·cases e
  rename_i w2 hz;cases e;refine⟨H3,ρ2,z,_,t3.st,e3,fun w' H4 He t4 r4=>?_⟩;refine o2 H4 He u w' dy' dz w2 Q t4.st.same ((r2'.mono t4).look t4.st p3) (r4.look t4.st p4) hz fun w5 H5 Hf g5 r5=>?_;exact k w5 H5 Hf (t1.trans (t3.trans (t4.trans (.grow t4.st g5)))) ((r5.toV t4.st).early fun a n=>(t1.trans (t3.trans t4)).stp.gone n)
 ·rename_i gz;cases e;refine o1 H2 Hc v u dx dy _ _ t2.st.same ((r1.mono t2).look t2.st p1) (r2.look t2.st p2) gz fun w H3 Hd g3 r3=>?_;refine⟨false,Rep.qy r3,?_⟩;rw[if_neg MF];exact k _ H3 Hd (t1.trans (t2.trans (.grow t2.st g3))) (Rep.bl false)
 ·cases e
theorem CM{op op':CmpOp}{r r':R2}(o1:OpR X (compareOp op) r)(q1:OpD r g)(o2:OpR X (compareOp op') r')(q2:OpD r' h)(ha:DE X a fa)(hb:DE X b fb)(hc:DE X c fc)
  (hm:lastMarks [op,op'] [b,c]=false:=by with_unfolding_all rfl):DE X (.Compare a [op,op'] [b,c] pos) (Dm.gE g h fa fb fc):=PE.weak (yU o1 o2 ha hb hc hm) fun _ _ _=>CL q1 q2
end
end
section
variable{X:Cx}{nm:List Str}{JH tg iter:Expr}{JE:List Expr}{scope:Scope}{pos:Pos}{own:List Str}{fi:Dm.FI}{bd:Dm.FB}{is:List Nat}{t:FT}{f:FE}
noncomputable abbrev DTs(X:Cx)(JE:List Expr)(t:FT):Prop:=PTs X JE (tDT t)
theorem iN:DTs X [] Dm.gD:=fun mU s σ H Q I h=>by obtain⟨H0,ρ,b,ρ',st,e,k⟩:=h;cases e;exact Ct mU s σ H Q I (k H0 H (.refl st))
theorem iO{c:Expr}(h:DT X c t):DTs X [c] t:=Cu h
structure TGc(X:Cx)(nm:List Str)(scope:Scope)(own:List Str)(tg:Expr)(is:List Nat)(bd:Dm.FB):Prop where
 ex:∃g,(∀cl C s H fp,PG (aV X nm scope own cl C s H fp) tg g)/\BD is g bd
theorem c_n(i:Nat){x:Str}{px:Pos}(hN:(nm++own).Nodup)(hi:(nm++own)[i]?=some x)(hx:(relabel scope X.env).names.lookup x=some .local):TGc X nm scope own (.Name x px) [i] (Dm.bN i):=
 ⟨⟨_,fun cl C s H fp=>qp (X:=aV X nm scope own cl C s H fp) hN hi (.inl hx) (.inr hx),wz i⟩⟩
theorem c_t{es:List Expr}{k:Nat}{tpos:Pos}(hc:X.calm=true)(hg:∀cl C s H fp,PGs (aV X nm scope own cl C s H fp) es (fh is))(hn:∀cl C,(assignEach es (compEnvC scope cl C X.env)).length=is.length:=by intro _ _;rfl)
  (hst:∀cl C,(assignEach es (compEnvC scope cl C X.env)).findIdx? (·.1)=none:=by intro _ _;rfl):TGc X nm scope own (.Tuple es k tpos) is (Dm.bT is):=
 ⟨⟨_,fun cl C s H fp=>uR (X:=aV X nm scope own cl C s H fp) hc (hg cl C s H fp) (hn cl C) (hst cl C),zu is rfl⟩⟩
theorem Gk(hc:X.calm=true)(S:dY X nm scope)(hi:DI X tg iter fi)(hg:TGc X nm scope own tg is bd)(ht:∀cl C s H fp,DTs (aV X nm scope own cl C s H fp) JE t)(he:∀cl C s H fp,DE (aV X nm scope own cl C s H fp) JH f)
  (hl:∀i∈is,X.N.length<=i) (hs:∀x,foldedSetIterable iter X.env x=pure x:=by intro _;rfl):DE X (.ListComp JH [⟨tg,iter,JE,0⟩] scope pos) (Dm.bX fi own.length bd t f):=by
 obtain⟨g,h1,h2⟩:=hg.ex;intro mU s σ H Q I h;exact wA hc S hi h1 ht he hs mU s σ H Q I (qE h2 (fun i hi=>by rw[I.len];exact hl i hi) h)
theorem Gm(j:Nat){y:Str}{py Q6:Pos}(hN:X.N.Nodup)(hc:X.calm=true)(S:dY X nm scope)(hi:DI X tg iter fi)(hg:TGc X nm scope own tg is bd)(ht:∀cl C s H fp,DTs (aV X nm scope own cl C s H fp) JE t)(he:∀cl C s H fp,DE (aV X nm scope own cl C s H fp) JH f)
  (hl:∀i∈is,X.N.length<=i) (hj:X.N[j]?=some y:=by rfl) (hy:Loc X.env.scope y:=by trivial)
  (hsw:swapsWith (.ListComp JH [⟨tg,iter,JE,0⟩] scope pos) (some (.Name y py)) Q6.line X.env=pure true:=by rfl) (hs:∀x,foldedSetIterable iter X.env x=pure x:=by intro _;rfl)
  (hf:X.fn y=true\/X.env.scope.names.lookup y=some .local:=by trivial):DS X (.Assign [.Name y py] (.ListComp JH [⟨tg,iter,JE,0⟩] scope pos) Q6) (Dm.sA j (Dm.bX fi own.length bd t f)):=by
 obtain⟨g,h1,h2⟩:=hg.ex;intro mU s σ H D I h;exact sC hN hj hy hc S hi h1 ht he hsw hs hf mU s σ H D I (qE h2 (fun i hi=>by rw[I.len];exact hl i hi) (zp h))
end
theorem mE{H0:Hp}:∀{ds:List Dat} {bs:List Bool} {vs:List V},aM H0 vs ds->Dm.bools ds=some bs->vs=bs.map V.bl
 |[],bs,vs,r,e=>by cases r;cases e;rfl
 |.bl b::ds,bs,vs,r,e=>by
  cases r with
  |cons r rs=>
   unfold Dm.bools at e;cases q:Dm.bools ds with
   |none=>rw[q]at e;cases e
   |some cs=>rw[q]at e;cases e;cases Rep.qy r;rw[mE rs q];rfl
 |.non::ds,bs,vs,r,e=>by cases e
 |.int _::ds,bs,vs,r,e=>by cases e
 |.str _::ds,bs,vs,r,e=>by cases e
 |.tup _::ds,bs,vs,r,e=>by cases e
 |.lst _::ds,bs,vs,r,e=>by cases e
 |.dct _ _::ds,bs,vs,r,e=>by cases e
 |.dcp _ _::ds,bs,vs,r,e=>by cases e
theorem Gn:CallD (fun xs H Q=>∃(a:Addr) (bs:List Bool),xs=[.ref a]/\Rd H a (.lst (bs.map V.bl))/\Q (.bl (bs.all id)) H) Dm.uX:=by
 intro H0 H vs ds z Q s rs e k;unfold Dm.uX at e;split at e
 ·split at e
  ·rename_i bs hb;cases e;cases rs with
   |cons r rr=>cases rr;obtain⟨a,us,rfl,qa,ra⟩:=cC s r;have:=mE ra hb;subst this;exact⟨a,bs,rfl,qa,k _ H0 H (aN.refl s) (.bl _)⟩
  ·cases e
 ·cases e
theorem Gp:CallD (fun xs H Q=>(∃i,xs=[.int i]/\Q (.int i) H)\/∃k,xs=[.bl k]/\Q (.int (if k then 1 else 0)) H) Dm.zd:=by
 intro H0 H vs ds z Q s rs e k;unfold Dm.zd at e;split at e
 ·cases e;cases rs with
  |cons r rr=>cases rr;cases aD r;exact .inl ⟨_,rfl,k _ H0 H (aN.refl s) (.int _)⟩
 ·cases e;cases rs with
  |cons r rr=>cases rr;cases wB r;exact .inr ⟨_,rfl,k _ H0 H (aN.refl s) (.int _)⟩
 ·cases e
section
variable{X:Cx}{a b c e:Expr}{f:FE}{fs:List FE}{p p2 pos:Pos}
theorem Em(hc:X.calm=true)(hg:Gl X "all")(hm:X.mg "all" = none)(ha:DA X [e] fs)(he:starEach [e] X.env=[(false,eval e X.env)]:=by rfl)(En:(backTo pos (starEach [] X.env)).any (·.1)=false:=by rfl) :
  DE X (.Call (.Name "all" p) [e] [] pos) (Dm.eB Dm.uX fs):=zG (xW hc) Gn (by rfl) hg hm ha (he:=he) (En:=En)
theorem Jb(hg:Gl X "int")(hm:X.mg "int" = none)(ha:DA X [e] fs)(he:starEach [e] X.env=[(false,eval e X.env)]:=by rfl)(En:(backTo pos (starEach [] X.env)).any (·.1)=false:=by rfl) :
  DE X (.Call (.Name "int" p) [e] [] pos) (Dm.eB Dm.zd fs):=Gi xH Gp (by rfl) hg hm ha (he:=he) (En:=En)
end
noncomputable def dj(sc:Scope):List Str->List Str->Bool
 |[],[]=>true
 |x::N,y::nm=>(x == y||(sc.names.lookup y).isNone)&&dj sc N nm
 |_,_=>false
theorem dj.len{sc:Scope}:∀{N nm:List Str},dj sc N nm=true->nm.length=N.length
 |[],[],_=>rfl
 |[],_::_,h=>by cases h
 |_::_,[],h=>by cases h
 |x::N,y::nm,h=>by rw[dj,Mw]at h;rw[M3,M3,dj.len h.2]
theorem dj.at{sc:Scope}:∀{N nm:List Str},dj sc N nm=true->∀(i:Nat) (x:Str),nm[i]?=some x->N[i]?=some x\/sc.names.lookup x=none
 |[],[],_,i,x,e=>by simp at e
 |[],_::_,h,_,_,_=>by cases h
 |_::_,[],h,_,_,_=>by cases h
 |x::N,y::nm,h,0,z,e=>by
  rw[dj,Mw,OA]at h;simp at e;subst e;rcases h.1 with q | q
  ·have:x=y:=by simpa using q
   subst this;exact .inl rfl
  ·exact .inr (by simpa using q)
 |x::N,y::nm,h,i+1,z,e=>by rw[dj,Mw]at h;rw[Nc]at e ⊢;exact dj.at h.2 i z e
noncomputable def pJ(osc:Scope)(N nm:List Str)(sc:Scope):Bool:=
 sc.names.all (fun y=>y.2 != .cell)&&sc.names.all (fun y=>y.2 != .local||sc.names.lookup y.1 == some .local) &&
 sc.names.all (fun y=>y.2 != .free||(osc.names.lookup y.1 == some .cell||osc.names.lookup y.1 == some .free))&&nm.all (fun x=>sc.names.lookup x != some .local)&&dj sc N nm
theorem dY.of{X:Cx}{nm:List Str}{scope:Scope}(h:pJ X.env.scope X.N nm scope=true)(hk:scope.kind=.function):dY X nm scope:=by
 unfold pJ at h;simp only[Mw,MY]at h;obtain⟨⟨⟨⟨h1,h2⟩,h3⟩,h4⟩,h5⟩:=h;refine⟨hk,fun y hy=>?_,fun y hy hl=>?_,fun y hy hf=>?_,fun x hx=>?_,dj.len h5,dj.at h5⟩
 ·have:=h1 y hy;simpa using this
 ·have:=h2 y hy;rw[hl]at this
  simpa using this
 ·have:=h3 y hy;rw[hf]at this;have:(X.env.scope.names.lookup y.1 == some .cell||X.env.scope.names.lookup y.1 == some .free)=true:=by simpa using this
  rw[OA,beq_iff_eq,beq_iff_eq]at this;exact this
 ·have:=h4 x hx;simpa using this
section
variable{X:Cx}{JH tg iter:Expr}{JE:List Expr}{scope:Scope}{pos:Pos}{fi:Dm.FI}{bd:Dm.FB}{is:List Nat}{t:FT}{f:FE}
theorem wG{l:List Nat}{n:Nat}(h:(l.all fun i=>decide (n<=i))=true):∀i∈l,n<=i:=fun i hi=>of_decide_eq_true (MY.mp h i hi)
theorem zO(nm own:List Str)(hg:TGc X nm scope own tg is bd)(hi:DI X tg iter fi)(ht:∀cl C s H fp,DTs (aV X nm scope own cl C s H fp) JE t)(he:∀cl C s H fp,DE (aV X nm scope own cl C s H fp) JH f)
  (hc:X.calm=true:=by rfl) (hk:scope.kind=.function:=by rfl) (hS:pJ X.env.scope X.N nm scope=true:=by rfl) (hl:(is.all fun i=>decide (X.N.length<=i))=true:=by rfl) (hs:∀x,foldedSetIterable iter X.env x=pure x:=by intro _;rfl) :
  DE X (.ListComp JH [⟨tg,iter,JE,0⟩] scope pos) (Dm.bX fi own.length bd t f):=Gk hc (dY.of hS hk) hi hg ht he (wG hl) hs
theorem Jc(j:Nat)(nm own:List Str){y:Str}{py Q6:Pos}(hN:X.N.Nodup)(hg:TGc X nm scope own tg is bd)(hi:DI X tg iter fi)(ht:∀cl C s H fp,DTs (aV X nm scope own cl C s H fp) JE t)(he:∀cl C s H fp,DE (aV X nm scope own cl C s H fp) JH f)
  (hc:X.calm=true:=by rfl) (hk:scope.kind=.function:=by rfl) (hS:pJ X.env.scope X.N nm scope=true:=by rfl) (hl:(is.all fun i=>decide (X.N.length<=i))=true:=by rfl) (hj:X.N[j]?=some y:=by rfl) (hy:Loc X.env.scope y:=by trivial)
  (hsw:swapsWith (.ListComp JH [⟨tg,iter,JE,0⟩] scope pos) (some (.Name y py)) Q6.line X.env=pure true:=by rfl) (hs:∀x,foldedSetIterable iter X.env x=pure x:=by intro _;rfl)
  (hf:X.fn y=true\/X.env.scope.names.lookup y=some .local:=by trivial):DS X (.Assign [.Name y py] (.ListComp JH [⟨tg,iter,JE,0⟩] scope pos) Q6) (Dm.sA j (Dm.bX fi own.length bd t f)):=
 Gm j hN hc (dY.of hS hk) hi hg ht he (wG hl) hj hy hsw hs hf
end
section
variable{f:FE}{a:Addr}{X:Cx}{H:Hp}{K:gc}
theorem PI.or{tg it:Expr}{t t':TI}(h:PI X tg it t)(h':PI X tg it t'):PI X tg it (fun σ H R=>t σ H R\/t' σ H R):=fun mU s σ H R I q=>q.elim (h mU s σ H R I) (h' mU s σ H R I)
theorem Jd{σ:L2.St}{R:It->Hp->Prop}(h:tDI (Dm.iS f) σ H R):rW K (tD f) σ H R\/yO K (tD f) σ H R:=by
 obtain⟨H0,ρ,ys,ρ',st,e,k⟩:=h;unfold Dm.iS at e;split at e
 ·cases e
 rename_i x ρ1 e1;split at e
 ·rename_i ds ρ2 e2;cases e;exact .inl (Ld ⟨H0,ρ,_,_,st,by unfold Dm.iL;rw[e1];dsimp only;rw[e2],k⟩)
 ·rename_i ds ρ2 e2;cases e;exact .inr (Le ⟨H0,ρ,_,_,st,by unfold Dm.iT;rw[e1];dsimp only;rw[e2],k⟩)
 ·cases e
theorem i_S{tg e:Expr}(h:DE X e f):DI X tg e (Dm.iS f):=PI.weak (PI.or (wc h) (yP h)) fun _ _ _=>Jd
noncomputable def zP(K:gc):Bool:=K.all fun p=>match p.2.cls with | .type n=>n != "list" | _=>true
theorem lookup_mem{o:Obj}:∀{K:List (Addr×Obj)},K.lookup a=some o->(a,o)∈K
 |[],h=>by cases h
 |(b,x)::r,h=>by
  rw[ML]at h;cases q:a == b with
  |true=>
   rw[q]at h;cases h;have:a=b:=by simpa using q
   rw[this];exact MA
  |false=>rw[q]at h;exact MB _ (lookup_mem h)
theorem Gq{f:List Dat->Option RV}{ns:List Int}{E:XK}(hf:f [.lst (ns.map Dat.int)]=some (.val (.bl true)))(hK:zP K=true)(hS:SqL K H a (ns.map V.int)) :
  spD f [.ref a] H (fun v _=>v=.bl true) E:=by
 have hq:Rd H a (.lst (ns.map V.int)):=by
  rcases hS with h | ⟨o,its,n,hk,hc,_⟩
  ·exact h
  ·have:=MY.mp hK _ (lookup_mem hk);dsimp only at this;rw[hc]at this;exact absurd this (by decide)
 have hr:∀ns:List Int,aM H (ns.map V.int) (ns.map Dat.int):=fun ns=>by
  induction ns with
  |nil=>exact .nil
  |cons n ns ih=>exact .cons (.int n) ih
 exact⟨H,_,_,aq.refl _,.cons (.lst hq (hr ns)) .nil,hf,fun v H0' H' _ r=>Rep.qy r⟩
end
end Br
namespace Dm
noncomputable def iRd(a b c:FE):FI:=fun ρ=>match a ρ with
 | some (.val (.int i),ρ1)=>(match b ρ1 with
  | some (.val (.int j),ρ2)=>(match c ρ2 with
   |some (.val (.int k),ρ3)=>if k=-1/\j<=BIG/\-BIG<=j/\i<=BIG/\-BIG<=i then some (downs i (i-j).toNat,ρ3) else none
   |_=>none)
  |_=>none)
 |_=>none
noncomputable def xX(a:FE):FI:=fun ρ=>match a ρ with
 |none=>none
 |some (x,ρ1)=>match tk ρ1 x with
  |some (.lst ds,ρ2)=>some (ds.reverse,ρ2)
  |_=>none
noncomputable def jV:Nat->List Dat->List Dat
 |_,[]=>[]
 |i,d::ds=>.tup [.int (i:Nat),d]::jV (i+1) ds
noncomputable def iEn(a:FE):FI:=fun ρ=>match a ρ with
 |none=>none
 |some (x,ρ1)=>match tk ρ1 x with
  |some (.lst ds,ρ2)=>some (jV 0 ds,ρ2)
  |_=>none
noncomputable def mF(d:Dat):Option RV:=match d with
 |.lst ds=>some (.new (.lst ds.reverse))
 |_=>none
noncomputable def mG:List Dat->Option RV
 |[.int j]=>if j<=1000000/\-1000000<=j then some (.new (.lst (ups 0 j.toNat))) else none
 |_=>none
end Dm
namespace Br
open PySem PySem.Spec PyProof.Rows L2
theorem pK{X:Cx}{mU:List (Addr×Obj)}{σ:L2.St}{H:Hp}{s:Shared}{h':Heap}{t':Nat}{fp:List Addr}{p:Addr}{o:HO}(I:Inv X mU σ H s)(hf:∀b∈fp,lY X mU H b)
  (k:∀b u,b∉fp->s.heap.get? b=some u->h'.get? b=some u) (hp:s.heap.objs.size<=p) (new:bH X.prog X.w (upd H p o) h' p o):Inv X mU σ (upd H p o) { s with heap:=h',toks:=t' }:=by
 have hn:H p=none:=I.hok.fresh hp;have nf:∀b u,H b=some u->b∉fp:=fun b u e z=>by rw[(hf b z).1]at e;cases e
 have nL:X.env.locals∉fp:=fun z=>(hf _ z).2.1 rfl;refine I.step (g':=s.gens) (d':=s.drawn) (ch:=fp) (fun b hb=>?_) (fun b u _ _ hc e _=>k b u hc e) (fun b u _ _ hc e _=>⟨u.slots,k b u hc e⟩)
  (fun b u _ e n=>by rw[az (MC (Ms (Mi e) hp))];exact n) (fun b u hc e=>⟨u,k b u hc e⟩)
  (fun b xs q=>by rw[az (aH q hn)];exact q) (fun b u xs q=>by rw[az (aH q hn)];exact q) (fun b _ _ _ q=>by rw[az (aH q hn)];exact q) (fun m hm=>?_) (fun b u e=>?_) I.bare
 ·obtain⟨f0,f1,f2,f3,f4,f5⟩:=hf b hb;exact⟨f3,f1,f4,f5⟩
 ·obtain⟨o,es,ep,ho,r⟩:=hm;exact⟨o,es,ep,k _ o nL ho,r⟩
 ·by_cases hb:b=p
  ·subst hb;rw[aF]at e;cases e;exact new
  ·rw[az hb]at e;refine(I.hok b u e).stay (fun c v hc q=>k c v ?_ q) (fun c q=>by rw[az (aH q hn)];exact q) (fun c _ _ q=>by rw[az (aH q hn)];exact q) fun c xs q=>by rw[az (aH q hn)];exact q
   rcases hc with z | z
   ·rw[z];exact nf b u e
   ·exact nf c _ z
noncomputable def Itv(K:gc)(a:Addr)(n:Nat):It:=
 ⟨fun i H=>∃xs x,SqL K H a xs/\xs.length=n/\xs.reverse[i]?=some x,fun i H x H'=>H'=H/\∀xs,SqL K H a xs->xs.reverse[i]?=some x,fun i H=>n<=i⟩
theorem zQ{P:Program}{w:World}{K:gc}{tg:Expr}(a it:Addr)(n:Nat):Turn P w K tg (Itv K a n) [it] it (fun i h=>i<=n/\h.IsRevIter it a ((n:Int)-1-(i:Nat))) where
 mem:=by simp
 obj:=fun i h st b hb=>by
  have e:b=it:=by simpa using hb
  subst e;obtain⟨_,o,e,c,d⟩:=st;exact⟨o,e,fun v z=>by rw[d]at z;cases z⟩
 keep:=fun i h h' st k=>⟨st.1,st.2.at fun o e=>k it (by simp) o e⟩
 item:=by
  intro X hP hw hK hc i mU s σ H E I hf st hg;subst hP hw hK;obtain⟨xs,x,hq,hl,hx⟩:=hg;obtain⟨its,rv,p,hz⟩:=I.list hq;have hi:i<n:=by have:=(Dk.mp hx).1;rw[M6,hl]at this;exact this
  rw[NU (by lia),hl]at hx;obtain⟨u,hu,ru⟩:=rv.get hx;obtain⟨f0,f1,f2,f3,f4,f5⟩:=hf it (by simp);obtain⟨_,st⟩:=st;have ei:((n:Int)-1-(i:Nat))=((n-1-i:Nat):Int):=by lia
  rw[ei]at st;refine wpAny_pyNext_rev_item st p.isList (x:=u) (by simpa using hu) fun h' st' sb=>?_;have ej:((n-1-i:Nat):Int)-1=(n:Int)-1-((i+1:Nat):Int):=by lia
  rw[ej]at st';have I1:Inv X mU σ H { s with heap:=h' }:=I.turned (t':=s.toks) (fun b o hb e=>(sb.2 b hb).trans e) f0 f1 f3 f4 f5;obtain⟨o,e,c,d⟩:=id st';refine⟨u,rfl,o6 (s:={ s with heap:=h' }) e c d (by decide) ⟨x,H,I1,ru,⟨rfl,fun ys hy=>?_⟩,⟨hi,st'⟩,fun b hb=>(hf b hb).1⟩⟩;rw[I.gx hy hq,NU (by lia),hl];exact hx
 done:=by
  intro X hP hw hK hc i mU s σ H E I hf st hg;subst hP hw hK;obtain⟨f0,f1,f2,f3,f4,f5⟩:=hf it (by simp);obtain⟨h1,st⟩:=st;have h2:n<=i:=hg;have ei:((n:Int)-1-(i:Nat))=-1:=by lia
  rw[ei]at st;exact wpAny_pyNext_rev_end (I.ok.hd hc) st fun h' eb=>⟨rfl,I.turned (t':=s.toks) (fun b o hb e=>eb b o hb e) f0 f1 f3 f4 f5⟩
 self:=fun _ _ _ _ _ st h=>wpAny_pyIter_revIter st.2 h
def Eo(K:gc)(tl:TE):TI:=fun σ H R=>tl σ H fun x H1=>∃a xs,x=.ref a/\SqL K H1 a xs/\R (Itv K a xs.length) H1
section
variable{X:Cx}{tg l:Expr}{tl:TE}{p pos:Pos}
theorem zR{Q:Value->Shared->Prop}{Qx:VK}{mU:List (Addr×Obj)}{s:Shared}{σ:L2.St}{H:Hp}(hg:Gl X "reversed")(hm:X.mg "reversed" = none)(hl:PE X l tl)(hs:starEach [l] X.env=[(false,eval l X.env)])(I:Inv X mU σ H s)(h:tl σ H Qx)
  (k:∀x H1 s1,Inv X mU σ H1 s1->Qx x H1->∃a xs,x=.ref a/\SqL X.K H1 a xs/\∀its:List Value,Vals xs its->PlainL s1.heap a its.toArray->xs.length<=sizeLine->Q (.ref s1.heap.objs.size) { s1 with heap:=s1.heap.push (revObj a ((its.toArray.size:Int)-1)) }) :
  wpAny (model X.prog X.w) X.A (eval (.Call (.Name "reversed" p) [l] [] pos) X.env) Q X.xe s:=by
 refine Call_ (dg I hg hm boot_reversed (Mz (spliced_more ?_ (by rw[hs];rfl)) (by rw[hs];rfl) rfl));refine thn (hl mU s σ H _ I h) fun v s1 ⟨x,H1,I1,r1,q1⟩=>?_;obtain⟨a,xs,e,hq,q⟩:=k x H1 s1 I1 q1;subst e;cases r1;obtain⟨its,rv,pl,hz⟩:=I1.list hq;refine Nu (call_reversed_list pl.isList (q its rv pl hz))
theorem Gr(hg:Gl X "reversed")(hm:X.mg "reversed" = none)(hl:PE X l tl)(hs:starEach [l] X.env=[(false,eval l X.env)]:=by rfl):PI X tg (.Call (.Name "reversed" p) [l] [] pos) (Eo X.K tl):=by
 intro mU s σ H R I h;refine zR hg hm hl hs I h fun x H1 s1 I1 q1=>?_;obtain⟨a,xs,e,hq,q⟩:=q1;refine⟨a,xs,e,hq,fun its rv pl hz=>?_⟩;have hn:(its.toArray.size:Int)=((xs.length:Nat):Int):=by rw[Mm,rv.length]
 have st:({ s1 with heap:=s1.heap.push (revObj a ((its.toArray.size:Int)-1)) }:Shared).heap.IsRevIter s1.heap.objs.size a (((xs.length:Nat):Int)-1-((0:Nat):Int)):=⟨_,MG _ rfl,rfl,by rw[hn];simp[revObj]⟩
 refine wpAny_pyIter_revIter st ?_;refine⟨s1.heap.objs.size,[s1.heap.objs.size],_,_,H1,rfl,I1.kept (t':=s1.toks) fun b o e=>Mf _ e,zQ a _ xs.length,⟨MW _,st⟩,fun b hb=>?_,q⟩;have e:b=s1.heap.objs.size:=by simpa using hb
 subst e;exact I1.rV (Mj _) (I1.hok.fresh (Mj _))
end
noncomputable def Itd(hi:Int)(n:Nat):It:=⟨fun i _=>i<n,fun i H x H'=>H'=H/\x=.int (hi-i),fun i _=>n<=i⟩
theorem xY{P:Program}{w:World}{K:gc}{tg:Expr}(it:Addr)(lo:Int)(n:Nat):Turn P w K tg (Itd lo n) [it] it (fun i h=>IsRangeIter h it (lo+(i:Nat)*(-1)) ((n:Int)-(i:Nat)) (-1)) where
 mem:=by simp
 obj:=fun i h st b hb=>by
  have e:b=it:=by simpa using hb
  subst e;exact ⟨_,st,fun v z=>by have z':OD _=Oa v:=z;cases z'⟩
 keep:=fun i h h' st k=>k it (by simp) _ st
 item:=by
  intro X hP hw hK hc i mU s σ H E I hf st hg;subst hP hw hK;obtain⟨f0,f1,f2,f3,f4,f5⟩:=hf it (by simp);have W:=Walks.range (prog:=X.prog) (w:=X.w) (I.ok.hd hc) it lo (-1) n;refine W.item i s _ _ hg st fun v h' tk hv st' kk=>?_;obtain⟨t,rfl⟩:=hv;have I1:Inv X mU σ H { s with heap:=h',toks:=tk }:=I.turned (fun b o hb e=>kk b o (by simpa using hb) e) f0 f1 f3 f4 f5;refine⟨_,rfl,o6 (s:={ s with heap:=h',toks:=tk }) (n := "range_iterator") st' rfl rfl (by decide) ⟨.int (lo-i),H,I1,⟨t,?_⟩,⟨rfl,rfl⟩,st',fun b hb=>(hf b hb).1⟩⟩;have:lo+(i:Int)*(-1)=lo-i:=by lia
  rw[this]
 done:=by intro X hP hw hK hc i mU s σ H E I hf st hg;subst hP hw hK;obtain⟨f0,f1,f2,f3,f4,f5⟩:=hf it (by simp);exact wpAny_pyNext_range_end (I.ok.hd hc) st (by have:n<=i:=hg;lia) fun h' eb=>⟨rfl,I.turned (t':=s.toks) (fun b o hb e=>eb b o hb e) f0 f1 f3 f4 f5⟩
 self:=fun _ _ _ _ _ st h=>wpAny_pyIter_rangeiter st h
theorem rangeSize_down(a b:Int):M5 a b (-1)=if b<a then a-b else 0:=by
 unfold M5;simp only[show ¬((-1:Int)>0) by decide,if_false];have:(-(-1:Int))=1:=by decide
 rw[this];simp only[Int.ediv_one];split<;>lia
theorem small_down{a b:Int}(ha:-(2 ^ 61)<=a)(ha':a<2 ^ 61)(hb:-(2 ^ 61)<=b)(hb':b<2 ^ 61):Builtin.Range.small a b (-1)=true:=by unfold Builtin.Range.small;rw[rangeSize_down];simp only[Builtin.Range.rangeFitsLong,Mw,OA,decide_eq_true_eq,beq_iff_eq,show ¬((-1:Int)>0) by decide,if_false];split<;>lia
section
variable{X:Cx}{tg:Expr}
def Ep(ta:TA):TI:=fun σ H R=>ta σ H fun vs H1=>∃i j:Int,vs=[.int i,.int j,.int (-1)]/\(-(2 ^ 61)<=i/\i<2 ^ 61/\-(2 ^ 61)<=j/\j<2 ^ 61)/\R (Itd i (i-j).toNat) H1
theorem xZ{a b c:Expr}{ta:TA}{p pos:Pos}(hg:Gl X "range")(hm:X.mg "range" = none)(ha:PA X [a,b,c] ta)(hs:starEach [a,b,c] X.env=(false,eval a X.env)::starEach [b,c] X.env:=by rfl)(hs2:(backTo pos (starEach [b,c] X.env)).any (·.1)=false:=by rfl) :
  PI X tg (.Call (.Name "range" p) [a,b,c] [] pos) (Ep ta):=by
 intro mU s σ H R I h;refine Call_ (dg I hg hm boot_range (Mz (thn (ha pos mU s σ H _ I h) fun us s1 ⟨vs,H1,I1,r1,q1⟩=>?_) hs hs2));obtain⟨i,j,e,⟨q1,q2,q3,q4⟩,q⟩:=q1;subst e;cases r1 with
 |cons r rr=>
  cases rr with
  |cons r' rr=>
   cases rr with
   |cons r'' rr=>
   cases rr;obtain⟨t,rfl⟩:=r;obtain⟨t',rfl⟩:=r';obtain⟨t'',rfl⟩:=r'';refine call_range_3 (by decide) ?_ (Or.inl (PyProof.noPylong_small (by lia)));refine wpAny_pyIter_range (IsRange.new ..) (small_down q1 q2 q3 q4) ?_;have I2:Inv X mU σ H1 { s1 with heap:=s1.heap.push { cls:=.type "range",data:=.fields #[.int i t,.int j t',.int (-1) t''] },toks:=s1.toks }:=I1.kept fun b o e=>Mf _ e;refine ⟨(s1.heap.push { cls:=.type "range",data:=.fields #[.int i t,.int j t',.int (-1) t''] }).objs.size,[(s1.heap.push { cls:=.type "range",data:=.fields #[.int i t,.int j t',.int (-1) t''] }).objs.size],_,_,H1,rfl,
    I2.kept (t':=s1.toks) fun b o e=>Mf _ e,xY _ i (i-j).toNat,?_,fun b hb=>?_,q⟩
   ·have e1:i+((0:Nat):Int)*(-1)=i:=by lia
    have e2:(((i-j).toNat:Nat):Int)-((0:Nat):Int)=M5 i j (-1):=by rw[rangeSize_down];split<;>lia
    show IsRangeIter _ _ (i+((0:Nat):Int)*(-1)) ((((i-j).toNat:Nat):Int)-((0:Nat):Int)) (-1);rw[e1,e2];exact MG _ rfl
   ·have e:b=(s1.heap.push { cls:=.type "range",data:=.fields #[.int i t,.int j t',.int (-1) t''] }).objs.size:=by simpa using hb
    subst e;exact I2.rV (Mj _) (I2.hok.fresh (Mj _))
end
noncomputable def Ite(K:gc)(a:Addr):It:=
 ⟨fun i H=>∃xs x,SqL K H a xs/\xs[i]?=some x,fun i H x H'=>∃p v,H p=none/\x=.ref p/\H'=upd H p (.tup [.int i,v])/\∀xs,SqL K H a xs->xs[i]?=some v,fun i H=>∃xs,SqL K H a xs/\xs.length<=i⟩
theorem x6{P:Program}{w:World}{K:gc}{elts:List Expr}{x1}{tp:Pos}(a e it:Addr)(Q9:e≠it):Turn P w K (.Tuple elts x1 tp) (Ite K a) [e,it] e (fun i h=>(∃old,IsEnum h e it (i:Nat) old)/\h.IsListIter it a i) where
 mem:=by simp
 obj:=fun i h st b hb=>by
  obtain⟨⟨old,he⟩,o,e1,c,d⟩:=st;rcases Mv.mp hb with rfl | hb
  ·exact ⟨_,he,fun v z=>by have z':OD _=Oa v:=z;cases z'⟩
  ·have e2:b=it:=by simpa using hb
   subst e2;exact⟨o,e1,fun v z=>by rw[d]at z;cases z⟩
 keep:=fun i h h' st k=>⟨let ⟨old,he⟩:=st.1;⟨old,k e (by simp) _ he⟩,st.2.at fun o z=>k it (by simp) o z⟩
 item:=by
  intro X hP hw hK hc i mU s σ H E I hf st hg;subst hP hw hK;obtain⟨xs,x,hq,hx⟩:=hg;obtain⟨its,rv,p,hz⟩:=I.list hq;obtain⟨u,hu,ru⟩:=rv.get hx;obtain⟨⟨old,he⟩,G3⟩:=st;refine wpAny_pyNext_enum_item he G3 p.isList (x:=u) (by simpa using hu) Q9 fun h1 heo Lo ht1 hz1 hk1=>?_;refine⟨_,rfl,wpAny_letOwnedTupleGo_enum heo fun h2 he2 hs2=>?_⟩;have JZ:e<s.heap.objs.size:=Mi he;have ht2:h2.get? s.heap.objs.size=some { cls:=.type "tuple",data:=.seq #[.int i s.toks,u] }:=(hs2.2 _ (Nm JZ)).trans ht1;have k2:∀b o,b∉[e,it]->s.heap.get? b=some o->h2.get? b=some o:=fun b o hb z=>by have n1:b≠e:=fun y=>hb (by simp[y]);have n2:b≠it:=fun y=>hb (by simp[y]);exact(hs2.2 b n1).trans (hk1 b o n1 n2 z)
  have hn:H s.heap.objs.size=none:=I.hok.fresh (Mj _);have I2:Inv X mU σ (upd H s.heap.objs.size (.tup [.int i,x])) { s with heap:=h2,toks:=s.toks+1 }:=
   pK I hf k2 (Mj _) ⟨by simp[sizeLine],[.int i s.toks,u],.cons ⟨s.toks,rfl⟩ (.cons ru .nil),_,ht2,rfl,_,rfl⟩
  refine⟨.ref s.heap.objs.size,_,I2,rfl,⟨_,x,hn,rfl,rfl,fun ys hy=>by rw[I.gx hy hq];exact hx⟩,⟨⟨u,?_⟩,?_⟩,fun b hb=>?_⟩
  ·have:(((i+1:Nat):Int))=(i:Int)+1:=by lia
   rw[this];exact he2
  ·exact Lo.at fun o z=>(hs2.2 it (MJ Q9)).trans z
  ·have hb1:b≠s.heap.objs.size:=fun y=>by
    rcases Mv.mp hb with z | z
    ·rw[y]at z;exact absurd z (Nm JZ)
    ·have z':b=it:=by simpa using z
     obtain⟨o,ho,_⟩:=G3;have:=Mi ho;rw[<- z',y]at this;exact MV _ this
   rw[az hb1];exact(hf b hb).1
 done:=by intro X hP hw hK hc i mU s σ H E I hf st hg;subst hP hw hK;obtain⟨xs,hq,hx⟩:=hg;obtain⟨its,rv,p,hz⟩:=I.list hq;obtain⟨f0,f1,f2,f3,f4,f5⟩:=hf it (by simp);obtain⟨⟨old,he⟩,G3⟩:=st;have hl:=rv.length;exact wpAny_pyNext_enum_end (I.ok.hd hc) he G3 p.isList (by simp;lia) fun h' eb=>⟨rfl,I.turned (t':=s.toks) (fun b o hb e=>eb b o hb e) f0 f1 f3 f4 f5⟩
 self:=fun A i s Q E st h=>by
  obtain⟨⟨old,he⟩,G3⟩:=st;have hT:s.TypeIs (.ref e) "enumerate" := ⟨_,he,rfl⟩
  refine wpAny_pyIter_slot hT F.slot_enumerate_iter (wpAny_call_entry F.slot_enumerate_iter hT F.entry_enumerate_iter ?_ (F.args_enumerate_iter_1 _));show wpAny _ _ (ret (.ref e)) _ _ s;exact wpAny_pure ⟨_,rfl,"enumerate",_,hT,F.slot_enumerate_next.lookup,h⟩
def Je(K:gc)(tl:TE):TI:=fun σ H R=>tl σ H fun x H1=>∃a,x=.ref a/\(∃xs,SqL K H1 a xs)/\R (Ite K a) H1
section
variable{X:Cx}{l:Expr}{tl:TE}{p pos:Pos}{elts:List Expr}{x1:Nat}{tp:Pos}
theorem CN(hg:Gl X "enumerate")(hm:X.mg "enumerate" = none)(hl:PE X l tl)(hs:starEach [l] X.env=[(false,eval l X.env)]:=by rfl):PI X (.Tuple elts x1 tp) (.Call (.Name "enumerate" p) [l] [] pos) (Je X.K tl):=by
 intro mU s σ H R I h;refine Call_ (dg I hg hm boot_enumerate (Mz (spliced_more ?_ (by rw[hs];rfl)) (by rw[hs];rfl) rfl));refine thn (hl mU s σ H _ I h) fun v s1 ⟨x,H1,I1,r1,q1⟩=>?_;obtain⟨a,e,⟨xs,hq⟩,q⟩:=q1;subst e;cases r1;obtain⟨its,rv,pl,hz⟩:=I1.list hq;refine Nu (call_enumerate_list pl.isList fun h' he G3 hsz k=>?_);have I2:Inv X mU σ H1 { s1 with heap:=h' }:=I1.kept (t':=s1.toks) k;have T:=x6 (P:=X.prog) (w:=X.w) (K:=X.K) (elts:=elts) (x1:=x1) (tp:=tp) a (s1.heap.objs.size+1) s1.heap.objs.size (Nat.succ_ne_self _);refine T.self X.A 0 { s1 with heap:=h' } _ X.xe ⟨⟨_,he⟩,G3⟩ ?_;refine⟨s1.heap.objs.size+1,[s1.heap.objs.size+1,s1.heap.objs.size],_,_,H1,rfl,I2,T,⟨⟨_,he⟩,G3⟩,fun b hb=>?_,q⟩;have:s1.heap.objs.size<=b:=by
  rcases Mv.mp hb with rfl | hb
  ·exact OQ _
  ·have:b=s1.heap.objs.size:=by simpa using hb
   exact Nat.le_of_eq this.symm
 exact I1.rV this (I1.hok.fresh this)
end
theorem u9:typeLookup (.type "list_reverseiterator") "__len__" = pure none:=by rw[typeLookup_type,builtinLookup_eq_fast];kernel_rfl
theorem zS:typeLookup (.type "list_reverseiterator") "__length_hint__" = pure (some (.builtin "list_reverseiterator.__length_hint__")):=by rw[typeLookup_type,builtinLookup_eq_fast];kernel_rfl
section
variable{prog:Program}{w:World}{A:Around}{E:Value->Shared->Prop}{s:Shared}
section
variable{I l:Addr}
theorem zT{i:Int}{Q:Bool->Shared->Prop}(G3:s.heap.IsRevIter I l i)(h:Q false s):wpAny (model prog w) A (Builtin.List.listLengthHint (.ref I)) Q E s:=by
 unfold Builtin.List.listLengthHint;refine wpAny_bind (wpAny_specialOf G3.typeIs u9 ?_);show wpAny _ A (specialOf (MP I) (Str.ofString "__length_hint__") >>= _) _ _ _;refine wpAny_bind (wpAny_specialOf G3.typeIs zS ?_)
 generalize hid:("list_reverseiterator.__length_hint__" : String)=id0
 wp_delta
 rw[show splitId id0=some ("list_reverseiterator","__length_hint__") from by subst hid;decide +kernel];subst hid;refine wpAny_bind (wpAny_isInstance (T := "list_reverseiterator") (b:=true) G3.typeIs (by rw[isSubtype_type];kernel_rfl) ?_);refine wpAny_ite_split (fun Q7=>absurd Q7 (by decide)) (fun _=>?_);refine wpAny_ite_split (fun _=>?_) (fun Q7=>absurd (by decide +kernel) Q7);refine wpAny_ite_split (fun Q7=>absurd Q7 (by decide +kernel)) (fun _=>wpAny_pure h)
theorem u_{R:Result->Shared->Prop}{items:Array Value}(hh:A.handled=none)(G3:s.heap.IsRevIter I l ((items.size:Int)-1))(hl:s.heap.IsList l items)(Q9:l≠I)(yi:items.size<=sizeLine)
  (S:Addr) (res:Value) (c₀:Nat) (hSI:S≠I) (hSl:S≠l) (hS:s.heap.get? S=some { cls:=.type "list",data:=.seq #[] c₀ })
  (hR:∀ h' tk acc' c',(∀ b o,b≠S→b≠I→s.heap.get? b=some o→h'.get? b=some o)→h'.get? S=some { cls:=.type "list",dict:=none,data:=.seq acc' c',slots:=#[] } →
   ItemsOf (fun i v=>items[items.size-1-i]?=some v) acc' items.size->R (.ok (.ret res)) { s with heap:=h',toks:=tk }) :
  wpAny (model prog w) A.in1 (Nh (.ref S) (.ref I) res)
   (fun JI s'=>match JI with | .done f=>R (.ok f) s' | .again c'=>c'.quiet=true/\codeAny (model prog w) A c' R s') (fun e s'=>R (.error e) s') s:=by
 have hSf:S∉[I,l]:=fun hm=>by
  rcases Mv.mp hm with z | z
  ·exact hSI z
  ·exact hSl (M9.mp z)
 have W:=(Walks.listRev (prog:=prog) (w:=w) (A:=A.in1) hh I l Q9 items).toS;unfold Nh;refine wpAny_bind (wpAny_typeOf (T := "list_reverseiterator") G3.typeIs ?_);have h1:Builtin.List.listSameRef (.ref S) (.ref I)=false:=by simp[Builtin.List.listSameRef,hSI]
 have h2:(NK "list_reverseiterator" == NK "list")=false:=by decide
 have h3:(NK "list_reverseiterator" == NK "tuple")=false:=by decide
 simp only[h1,h2,h3,Bool.or_false,Oe,if_false];refine wpAny_bind (wpAny_pyIter_revIter G3 ?_);refine wpAny_bind (wpAny_holding (zT G3 ?_));refine wpAny_ite_split (fun Q7=>absurd Q7 (by decide +kernel)) (fun _=>wpAny_pure ⟨plainId_quiet F.plain_extend_loop _,?_⟩);have hst:(0<=items.size)/\s.heap.IsRevIter I l ((items.size:Int)-1-((0:Nat):Int))/\s.heap.IsList l items:=⟨MW _,by simpa using G3,hl⟩
 refine codeAny_extend_loopS W yi S hSf res items.size 0 _ #[] c₀ rfl (MW _) hst hS (ItemsOf.nil _) fun s' acc' c' hm hS' hacc=>?_;rw[Moved.eq_with hm];refine hR s'.heap s'.toks acc' c' (fun b o hb hb2 e=>hm.heap b o (fun hmem=>?_) e) hS' hacc;rcases Mv.mp hmem with e' | hmem
 ·exact hb e'
 ·exact hb2 (M9.mp hmem)
theorem zU{R:Result->Shared->Prop}{items:Array Value}(hh:A.handled=none)(G3:s.heap.IsRevIter I l ((items.size:Int)-1))(hl:s.heap.IsList l items)(Q9:l≠I)(yi:items.size<=sizeLine)
  (S:Addr) (hSI:S≠I) (hSl:S≠l) (hS:s.heap.get? S=some { cls:=.type "list",data:=.seq #[] })
  (hR:∀ h' tk acc' c',(∀ b o,b≠S→b≠I→s.heap.get? b=some o→h'.get? b=some o)→h'.get? S=some { cls:=.type "list",dict:=none,data:=.seq acc' c',slots:=#[] } →
   ItemsOf (fun i v=>items[items.size-1-i]?=some v) acc' items.size->R (.ok (.ret .none)) { s with heap:=h',toks:=tk }) :
  wpAny (model prog w) A.in1 (Builtin.«list.__init__» ⟨[.ref S,.ref I],[]⟩)
   (fun JI s'=>match JI with | .done f=>R (.ok f) s' | .again c'=>c'.quiet=true/\codeAny (model prog w) A c' R s') (fun e s'=>R (.error e) s') s:=by
 show wpAny _ A.in1 (do let old <- Builtin.List.listItems (.ref S);Builtin.List.listUpdate (.ref S) (fun _=>#[]);letGo old.toList.reverse;Nh (.ref S) (.ref I) .none) _ _ s;refine wpAny_bind ?_;unfold Builtin.List.listItems;refine wpAny_bind (wpAny_seqItems hS rfl (wpAny_pure ?_));show wpAny _ A.in1 (updateSeq S (fun _=>#[]) >>= fun _=>letGo (#[]:Array Value).toList.reverse >>= fun _=>Nh (.ref S) (.ref I) .none) _ _ s;refine wpAny_bind (wpAny_updateSeq hS rfl ?_);have hS₂:=M7 (NO (fun _=>(#[]:Array Value))) hS rfl;have oth:∀b o,b≠S->s.heap.get? b=some o->(s.heap.update S (NO (fun _=>(#[]:Array Value)))).get? b=some o:=
  fun b o hb e=>(Ng _ _ (MJ hb)).trans e
 refine wpAny_bind (wpAny_letGo ?_);refine u_ hh (G3.at fun o e=>oth I o (MJ hSI) e) (hl.at fun o e=>oth l o (MJ hSl) e) Q9 yi S .none _ hSI hSl hS₂ fun h' tk acc' c' hk hS' hacc=>?_;exact hR h' tk acc' c' (fun b o hb hb2 e=>hk b o hb hb2 (oth b o hb e)) hS' hacc
theorem oU{Q:Value->Shared->Prop}{items:Array Value}(hh:A.handled=none)(G3:s.heap.IsRevIter I l ((items.size:Int)-1))(hl:s.heap.IsList l items)(Q9:l≠I)(yi:items.size<=sizeLine)
  (hQ:∀ h' tk acc' c',(∀ b o,b≠I→s.heap.get? b=some o→h'.get? b=some o)→h'.get? s.heap.objs.size=some { cls:=.type "list",dict:=none,data:=.seq acc' c',slots:=#[] } →
   ItemsOf (fun i v=>items[items.size-1-i]?=some v) acc' items.size->Q (.ref s.heap.objs.size) { s with heap:=h',toks:=tk }) :
  wpAny (model prog w) A (call (.type "list") [.ref I]) Q E s:=by
 refine callType_codes (Q₁:=fun obj s₁=>obj=.ref s.heap.objs.size/\s₁={ s with heap:=s.heap.push { cls:=.type "list",data:=.seq #[] } }) F.called_list (F.typeCall_list_1 _) F.entry_list_init
  (code_list_new _ ⟨rfl,rfl⟩) fun obj s₁ h₁=>?_
 obtain⟨rfl,rfl⟩:=h₁;have hS:(s.heap.push { cls:=.type "list",data:=.seq #[] }).get? s.heap.objs.size=some { cls:=.type "list",data:=.seq #[] }:=MG _ rfl;obtain⟨oi,hoi,_⟩:=id G3;obtain⟨ol,hol,_⟩:=id hl;refine⟨⟨_,hS,rfl⟩,F.args_list_init_2 _ _,zU (A:=A.in1) hh (G3.at fun o e=>Mf _ e) (hl.at fun o e=>Mf _ e) Q9 yi _ (Nm (Mi hoi)) (Nm (Mi hol)) hS fun h' tk acc' c' hk hS' hacc=>?_⟩;exact⟨rfl,hQ h' tk acc' c' (fun b o hb e=>hk b o (MC (Mi e)) hb (Mf _ e)) hS' hacc⟩
end
end
theorem mH{P:Nat->Value->Prop}{EA:Array Value}{ys:List V}(h:ItemsOf P EA ys.length)(k:∀i v,P i v->i<ys.length->∃y,ys[i]?=some y/\RelV y v):Vals ys EA.toList:=by
 have:∀(ys:List V) (us:List Value),ys.length=us.length->(∀(i:Nat) (u:Value),us[i]?=some u->∃y,ys[i]?=some y/\RelV y u)->Vals ys us:=by
  intro ys
  induction ys with
  |nil=>intro us e _;cases us with
   |nil=>exact .nil
   |cons _ _=>cases e
  |cons y ys ih=>intro us e f;cases us with
   |nil=>cases e
   |cons u us=>obtain⟨y',h1,h2⟩:=f 0 u rfl;cases h1;exact .cons h2 (ih us (by simpa using e) fun i u' hu=>by simpa using f (i+1) u' (by simpa using hu))
 refine this ys EA.toList (by have:=h.1;simp only[N7];exact this.symm) fun i u hu=>?_;have hu':EA[i]?=some u:=by rw[<- Array.getElem?_toList];exact hu
 have hi:i<ys.length:=by rw[<- h.1];exact(Array.getElem?_eq_some_iff.mp hu').1
 exact k i u (h.2 i u hu') hi
def Gs(K:gc)(tl:TE):TE:=fun σ H Q=>tl σ H fun x H1=>∃a xs,x=.ref a/\SqL K H1 a xs/\∀q,H1 q=none->Q (.ref q) (upd H1 q (.lst xs.reverse))
def Jf(ta:TA):TE:=fun σ H Q=>ta σ H fun vs H1=>∃j:Int,vs=[.int j]/\-(2 ^ 62)<=j/\j<=1000000/\∀q,H1 q=none->Q (.ref q) (upd H1 q (.lst ((Ml j.toNat).map fun i=>V.int (i:Nat))))
section
variable{X:Cx}{l a:Expr}{tl:TE}{ta:TA}{p pos p0 lB:Pos}
theorem zV(hc:X.calm=true)(hgl:Gl X "list")(hml:X.mg "list" = none)(hg:Gl X "reversed")(hm:X.mg "reversed" = none)(hl:PE X l tl)(hs:starEach [l] X.env=[(false,eval l X.env)]:=by rfl)
  (hs0:starEach [.Call (.Name "reversed" p) [l] [] pos] X.env=[(false,eval (.Call (.Name "reversed" p) [l] [] pos) X.env)]:=by rfl) :
  PE X (.Call (.Name "list" p0) [.Call (.Name "reversed" p) [l] [] pos] [] lB) (Gs X.K tl):=by
 intro mU s σ H Q I h;refine wpAny_Call_Name_kw (dg I hgl hml boot_list (Mz (spliced_more ?_ (by rw[hs0];rfl)) (by rw[hs0];rfl) rfl));refine zR hg hm hl hs I h fun x H1 s1 I1 q1=>?_;obtain⟨a,xs,e,hq,q⟩:=q1;refine⟨a,xs,e,hq,fun its rv pl hz=>Nu ?_⟩;have hal:a<s1.heap.objs.size:=by obtain⟨o,ho,_⟩:=pl.isList;exact Mi ho
 have hn:=rv.length;refine oU (items:=its.toArray) (I.ok.hd hc) ⟨_,MG _ rfl,rfl,rfl⟩ (pl.isList.at fun o e=>Mf _ e) (MC hal) (by rw[Mm,<- hn];exact hz) fun h' tk acc' c' hk hS' hacc=>?_;have hsz:({ s1 with heap:=s1.heap.push (revObj a ((its.toArray.size:Int)-1)) }:Shared).heap.objs.size=s1.heap.objs.size+1:=OH ..;have hp:s1.heap.objs.size<=({ s1 with heap:=s1.heap.push (revObj a ((its.toArray.size:Int)-1)) }:Shared).heap.objs.size:=by rw[hsz];exact OQ _
 have vl:Vals xs.reverse acc'.toList:=by
  refine mH (by rw[M6,hn,<- Mm];exact hacc) fun i v hv hi=>?_;rw[M6]at hi;rw[Mm]at hv;have hv':its[its.length-1-i]?=some v:=by simpa using hv
  rw[NU hi,hn];have JZ:=(Dk.mp hv').1;have hx:xs[its.length-1-i]?=some (xs[its.length-1-i]'(by lia)):=Me _;obtain⟨u,hu,ru⟩:=rv.get hx;rw[hv']at hu;cases hu;exact⟨_,hx,ru⟩
 have ok:bH X.prog X.w (upd H1 ({ s1 with heap:=s1.heap.push (revObj a ((its.toArray.size:Int)-1)) }:Shared).heap.objs.size (.lst xs.reverse)) h' ({ s1 with heap:=s1.heap.push (revObj a ((its.toArray.size:Int)-1)) }:Shared).heap.objs.size (.lst xs.reverse):=⟨by rw[M6];exact hz,acc'.toList,c',vl,by simpa using hS'⟩
 exact⟨.ref _,_,I1.laid (t':=tk) (fun b u e=>hk b u (MC (Mi e)) (Mf _ e)) hp ok,rfl,q _ (I1.hok.fresh hp)⟩
theorem CO(hc:X.calm=true)(hgl:Gl X "list")(hml:X.mg "list" = none)(hg:Gl X "range")(hm:X.mg "range" = none)(ha:PA X [a] ta)(hs:starEach [a] X.env=[(false,eval a X.env)]:=by rfl)
  (hs0:starEach [.Call (.Name "range" p) [a] [] pos] X.env=[(false,eval (.Call (.Name "range" p) [a] [] pos) X.env)]:=by rfl) :
  PE X (.Call (.Name "list" p0) [.Call (.Name "range" p) [a] [] pos] [] lB) (Jf ta):=by
 intro mU s σ H Q I h;refine wpAny_Call_Name_kw (dg I hgl hml boot_list (Mz (spliced_more ?_ (by rw[hs0];rfl)) (by rw[hs0];rfl) rfl));refine Call_ (dg I hg hm boot_range (Mz (thn (ha pos mU s σ H _ I h) fun us s1 ⟨vs,H1,I1,r1,q1⟩=>?_) hs rfl));obtain⟨j,e,q1,q2,q⟩:=q1;subst e;cases r1 with
 |cons r rr=>
  cases rr;obtain⟨t,rfl⟩:=r;refine call_range_1 (Nu ?_);have hn:M5 0 j 1=(j.toNat:Nat):=by rw[rangeSize_one];split<;>lia
  refine call_list_range (n:=j.toNat) (I.ok.hd hc) (IsRange.new ..) (small_one (by lia) (by lia) q1 (by lia)) hn (by lia) fun h' tk acc' c' hk hS' hacc=>?_;have hsz:(s1.heap.push { cls:=.type "range",data:=.fields #[.int 0 s1.toks,.int j t,.int 1 (s1.toks+1)] }).objs.size=s1.heap.objs.size+1:=OH ..;have hp:s1.heap.objs.size<=(s1.heap.push { cls:=.type "range",data:=.fields #[.int 0 s1.toks,.int j t,.int 1 (s1.toks+1)] }).objs.size:=by rw[hsz];exact OQ _
  have vl:Vals ((Ml j.toNat).map fun i=>V.int (i:Nat)) acc'.toList:=by
   refine mH (by rw[Mg,MD];exact hacc) fun i v hv hi=>?_;obtain⟨t,rfl⟩:=hv;rw[Mg,MD]at hi;refine⟨.int (i:Nat),by rw[Mq,Np hi];rfl,t,?_⟩;have:(0:Int)+(i:Int)*1=i:=by lia
   rw[this]
  have ok:bH X.prog X.w (upd H1 (s1.heap.push { cls:=.type "range",data:=.fields #[.int 0 s1.toks,.int j t,.int 1 (s1.toks+1)] }).objs.size (.lst ((Ml j.toNat).map fun i=>V.int (i:Nat)))) h' (s1.heap.push { cls:=.type "range",data:=.fields #[.int 0 s1.toks,.int j t,.int 1 (s1.toks+1)] }).objs.size (.lst ((Ml j.toNat).map fun i=>V.int (i:Nat))):=
   ⟨by rw[Mg,MD,sizeLine_eq];lia,acc'.toList,c',vl,by simpa using hS'⟩
  exact⟨.ref _,_,I1.laid (t':=tk) (fun b u e=>hk b u (Mf _ e)) hp ok,rfl,q _ (I1.hok.fresh hp)⟩
end
section
variable{ds:List Dat}{xs:List V}{H0:Hp}{a:Addr}{K:gc}
theorem aM.rev{H:Hp}(h:aM H xs ds):aM H xs.reverse ds.reverse:=by
 induction xs generalizing ds with
 |nil=>cases h;exact .nil
 |cons x xs ih=>
  cases h with
  |cons r rs=>rw[Oq,Oq];exact(ih rs).append (.cons r .nil)
theorem Gu(hq:Rd H0 a (.lst xs))(rs:aM H0 xs ds):JW (Itv K a xs.length) H0 ds.reverse:=by intro H0' H s0 s1;have q:SqL K H a xs:=.inl (aq.rd s1 (aq.rd s0 hq));refine⟨fun i hi=>by rw[M6,<- rs.length]at hi;exact hi,fun i d e=>?_⟩;obtain⟨v,hv,rv⟩:=rs.rev.get e;refine⟨⟨xs,v,q,rfl,hv⟩,fun x H' y=>?_⟩;obtain⟨e1,y⟩:=y;subst e1;have z:=y xs q;rw[hv]at z;cases z;exact⟨H0',aN.refl s1,rv.mono s0⟩
theorem CQ{hi:Int}{n:Nat}:JW (Itd hi n) H0 (Dm.downs hi n):=by
 intro H0' H s0 s1;have el:(Dm.downs hi n).length=n:=by simp[Dm.downs]
 refine⟨fun i hi=>by rw[el]at hi;exact hi,fun i d e=>?_⟩;have JZ:i<n:=by have:=(Dk.mp e).1;rw[el]at this;exact this
 have hd:d=.int (hi-i):=by unfold Dm.downs at e;rw[Mq,Np JZ]at e;exact(Option.some.inj e).symm
 refine⟨JZ,fun x H' y=>?_⟩;obtain⟨rfl,rfl⟩:=y;subst hd;exact⟨H0',aN.refl s1,.int _⟩
theorem sG:∀(ds:List Dat) (i:Nat),(Dm.jV i ds).length=ds.length
 |[],_=>rfl
 |_::ds,i=>by simp[Dm.jV,sG ds]
theorem sH:∀(ds:List Dat) (i j:Nat) (d:Dat),(Dm.jV i ds)[j]?=some d->∃x,ds[j]?=some x/\d=.tup [.int ((i+j:Nat):Int),x]
 |[],_,_,_,h=>by cases h
 |x::ds,i,0,d,h=>by cases h;exact⟨x,rfl,rfl⟩
 |x::ds,i,j+1,d,h=>by
  obtain⟨y,h1,h2⟩:=sH ds (i+1) j d h;refine⟨y,h1,?_⟩;rw[h2];have:i+1+j=i+(j+1):=by lia
  rw[this]
theorem CS(hq:Rd H0 a (.lst xs))(rs:aM H0 xs ds):JW (Ite K a) H0 (Dm.jV 0 ds):=by intro H0' H s0 s1;have q:SqL K H a xs:=.inl (aq.rd s1 (aq.rd s0 hq));refine⟨fun i hi=>⟨xs,q,by rw[rs.length,<- sG ds 0];exact hi⟩,fun i d e=>?_⟩;obtain⟨d',hd,rfl⟩:=sH ds 0 i d e;obtain⟨v,hv,rv⟩:=rs.get hd;refine⟨⟨xs,v,q,hv⟩,fun x H' y=>?_⟩;obtain⟨p,v',hn,rfl,rfl,y⟩:=y;have z:=y xs q;rw[hv]at z;cases z;have g:=aN.zf (o:=HO.tup [.int i,v]) s1 hn;refine⟨_,g,.tup aF (.cons ?_ (.cons ((rv.mono s0).mono g.s0) .nil))⟩;rw[Nat.zero_add];exact .int _
end
section
variable{σ:L2.St}{H:Hp}{R:It->Hp->Prop}
theorem Gv{K:gc}{f:FE}(h:tDI (Dm.xX f) σ H R):Eo K (tD f) σ H R:=by
 obtain⟨H0,ρ,ys,ρ',st,e,k⟩:=h;unfold Dm.xX at e;split at e
 ·cases e
 rename_i x ρ1 e1;split at e
 ·rename_i ds ρ2 e2;cases e;refine⟨H0,ρ,_,ρ1,st,e1,fun v H0' H' t r=>?_⟩;obtain⟨H1,t1,b1,r1,_,_⟩:=take1 t (aq.refl _) r e2;cases r1 with
  |lst q rs=>exact⟨_,_,rfl,.inl (aq.rd t1.st.same q),k _ H1 H' t1 (Gu q rs)⟩
 ·cases e
theorem Jg{K:gc}{f:FE}(h:tDI (Dm.iEn f) σ H R):Je K (tD f) σ H R:=by
 obtain⟨H0,ρ,ys,ρ',st,e,k⟩:=h;unfold Dm.iEn at e;split at e
 ·cases e
 rename_i x ρ1 e1;split at e
 ·rename_i ds ρ2 e2;cases e;refine⟨H0,ρ,_,ρ1,st,e1,fun v H0' H' t r=>?_⟩;obtain⟨H1,t1,b1,r1,_,_⟩:=take1 t (aq.refl _) r e2;cases r1 with
  |lst q rs=>exact⟨_,rfl,⟨_,.inl (aq.rd t1.st.same q)⟩,k _ H1 H' t1 (CS q rs)⟩
 ·cases e
theorem Jh{f g c:FE}(h:tDI (Dm.iRd f g c) σ H R):Ep (tDA [f,g,c]) σ H R:=by
 obtain⟨H0,ρ,ys,ρ',st,e,k⟩:=h;unfold Dm.iRd at e;split at e
 ·rename_i i ρ1 e1;split at e
  ·rename_i j ρ2 e2;split at e
   ·rename_i l ρ3 e3;split at e
    ·rename_i hb;cases e;refine⟨H0,ρ,[.val (.int i),.val (.int j),.val (.int l)],_,st,by simp only[Dm.eAs,e1,e2,e3];rfl,fun vs H0' H' t r=>?_⟩;cases r with
     |cons r rr=>
      cases rr with
      |cons r' rr=>
       cases rr with
       |cons r'' rr=>cases rr;cases Rep.isInt r;cases Rep.isInt r';cases Rep.isInt r'';obtain⟨h0,h1,h2,h3,h4⟩:=hb;subst h0;unfold Dm.BIG at h1 h2 h3 h4;exact⟨i,j,rfl,⟨by lia,by lia,by lia,by lia⟩,k _ H0' H' t CQ⟩
    ·cases e
   ·cases e
  ·cases e
 ·cases e
end
theorem zW{K:gc}:UnD (fun x H Q=>∃a xs,x=.ref a/\SqL K H a xs/\∀q,H q=none->Q (.ref q) (upd H q (.lst xs.reverse))) Dm.mF:=by
 intro H0 H x dx z Q s rx e k;unfold Dm.mF at e;split at e
 ·cases e;obtain⟨a,us,rfl,qa,ra⟩:=cC s rx;exact⟨a,us,rfl,.inl qa,fun p hp=>k _ _ _ (aN.mw s hp) ⟨p,rfl,hp,s.free hp,_,aF,ra.rev⟩⟩
 ·cases e
theorem zX{H:Hp}:∀(n:Nat) ,aM H ((Ml n).map fun i=>V.int (i:Nat)) (Dm.ups 0 n):=by
 intro n;unfold Dm.ups;have:∀l:List Nat,aM H (l.map fun i=>V.int (i:Nat)) (l.map fun i=>Dat.int (0+(i:Nat))):=fun l=>by
  induction l with
  |nil=>exact .nil
  |cons x l ih=>rw[MI,MI,ON];exact .cons (.int _) ih
 exact this _
theorem CT:CallD (fun xs H Q=>∃j:Int,xs=[.int j]/\-(2 ^ 62)<=j/\j<=1000000/\∀q,H q=none->Q (.ref q) (upd H q (.lst ((Ml j.toNat).map fun i=>V.int (i:Nat))))) Dm.mG:=by
 intro H0 H xs ds z Q s rx e k;unfold Dm.mG at e;split at e
 ·rename_i j;split at e
  ·rename_i hb;cases e;cases rx with
   |cons r rr=>cases rr;cases aD r;exact⟨j,rfl,by lia,hb.1,fun p hp=>k _ _ _ (aN.mw s hp) ⟨p,rfl,hp,s.free hp,_,aF,zX _⟩⟩
  ·cases e
 ·cases e
section
variable{X:Cx}{tg e a b c:Expr}{f fa fb fc:FE}{p pos p0 lB:Pos}{elts:List Expr}{x1:Nat}{tp:Pos}
theorem Ji(hg:Gl X "reversed")(hm:X.mg "reversed" = none)(h:DE X e f)(hs:starEach [e] X.env=[(false,eval e X.env)]:=by rfl):DI X tg (.Call (.Name "reversed" p) [e] [] pos) (Dm.xX f):=PI.weak (Gr hg hm h hs) fun _ _ _=>Gv
theorem Jj(hg:Gl X "enumerate")(hm:X.mg "enumerate" = none)(h:DE X e f)(hs:starEach [e] X.env=[(false,eval e X.env)]:=by rfl):DI X (.Tuple elts x1 tp) (.Call (.Name "enumerate" p) [e] [] pos) (Dm.iEn f):=PI.weak (CN hg hm h hs) fun _ _ _=>Jg
theorem Lp(hg:Gl X "range")(hm:X.mg "range" = none)(ha:DA X [a,b,c] [fa,fb,fc])(hs:starEach [a,b,c] X.env=(false,eval a X.env)::starEach [b,c] X.env:=by rfl)(hs2:(backTo pos (starEach [b,c] X.env)).any (·.1)=false:=by rfl) :
  DI X tg (.Call (.Name "range" p) [a,b,c] [] pos) (Dm.iRd fa fb fc):=PI.weak (xZ hg hm ha hs hs2) fun _ _ _=>Jh
theorem CU(hc:X.calm=true)(hgl:Gl X "list")(hml:X.mg "list" = none)(hg:Gl X "reversed")(hm:X.mg "reversed" = none)(h:DE X e f)(hs:starEach [e] X.env=[(false,eval e X.env)]:=by rfl)
  (hs0:starEach [.Call (.Name "reversed" p) [e] [] pos] X.env=[(false,eval (.Call (.Name "reversed" p) [e] [] pos) X.env)]:=by rfl) :
  DE X (.Call (.Name "list" p0) [.Call (.Name "reversed" p) [e] [] pos] [] lB) (Dm.e1 Dm.mF f):=PE.weak (zV hc hgl hml hg hm h hs hs0) fun _ _ _=>Iw zW
theorem zY(hc:X.calm=true)(hgl:Gl X "list")(hml:X.mg "list" = none)(hg:Gl X "range")(hm:X.mg "range" = none)(h:DA X [a] [fa])(hs:starEach [a] X.env=[(false,eval a X.env)]:=by rfl)
  (hs0:starEach [.Call (.Name "range" p) [a] [] pos] X.env=[(false,eval (.Call (.Name "range" p) [a] [] pos) X.env)]:=by rfl) :
  DE X (.Call (.Name "list" p0) [.Call (.Name "range" p) [a] [] pos] [] lB) (Dm.eB Dm.mG [fa]):=PE.weak (CO hc hgl hml hg hm h hs hs0) fun _ _ _=>F2 CT
end
end Br
namespace Dm
noncomputable def dm(i:Nat)(own:Nat)(bd:FB)(t:FT)(el:FE):FE:=fun ρ=>match ρ[i]? with
 | some (.ow (.lst ds))=>if ds.length≤SZ then (match e9 bd t el ds (ρ.set i .un++gV own .un) [] with
  |none=>none
  |some (ys,ρ2)=>some (.new (.lst ys),(ρ2.take ρ.length).set i (.ow (.lst ds)))) else none
 |_=>bX (iS (eV i)) own bd t el ρ
end Dm
namespace Br
open PySem PySem.Spec PyProof.Rows L2
theorem zZ{K:gc}{H0:Hp}{a:Addr}{xs:List V}{ds:List Dat}(rs:aM H0 xs ds):JWa (Itl K a) H0 (some (a,.lst xs)) ds:=by intro H0' H s0 s1 hq;have hq:=hq _ rfl;have q:SqL K H a xs:=.inl (.inl hq);refine⟨fun i hi=>⟨xs,q,by rw[rs.length];exact hi⟩,fun i d e=>?_⟩;obtain⟨v,hv,rv⟩:=rs.get e;refine⟨⟨xs,v,q,hv⟩,fun x H' y=>?_⟩;obtain⟨e1,y⟩:=y;subst e1;have z:=y xs q;rw[hv]at z;cases z;exact⟨H0',aN.refl s1,rv.mono s0⟩
theorem CV{K:gc}{σ:L2.St}{H:Hp}{i own:Nat}{bd:Dm.FB}{g:TG}{t:FT}{el:FE}{is:List Nat}{Q:VK}(hb:BD is g bd)(hl:∀i∈is,σ.length<=i)(h:tD (Dm.dm i own bd t el) σ H Q) :
  tLC (fun σ H R=>rW K (tD (Dm.eV i)) σ H R\/yO K (tD (Dm.eV i)) σ H R) own g (tDT t) (tD el) σ H Q:=by
 obtain⟨H0,ρ,x,ρ',st,e,k⟩:=h;unfold Dm.dm at e;split at e
 ·rename_i ds eo;split at e
  case isFalse=>cases e
  rename_i hsz;split at e
  ·cases e
  rename_i ys ρ2 e2;cases e;refine .inl ⟨H0,ρ,.slot i,ρ,st,by unfold Dm.eV;rw[eo],fun v H0' H' t1 r=>?_⟩;obtain⟨a,qa,na,xs,ha,rs⟩:=t1.st.ow i _ eo;obtain⟨r1,_⟩:=r;rw[qa]at r1;cases r1;have nO:¬ao σ (ρ.set i .un) a:=fun z=>by obtain⟨j,d,hj,h1,h2⟩:=bY z;exact hj (t1.st.dis j i d _ a h1 eo h2 qa)
  have JZ:i<ρ.length:=(Dk.mp eo).1;refine⟨a,rfl,⟨xs,.inl (.inl ha)⟩,fun D hD=>sr hb hl (t1.st.mask i) (fun q e=>by cases e;exact⟨ha,na,nO⟩) (zZ rs) hsz e2 (fun v H1 Hc t2 r2 hpa=>?_) D hD⟩;obtain⟨ha2,na2⟩:=hpa _ rfl;rw[Mx]at t2 r2;have oo:∀b,ao σ ((ρ2.take ρ.length).set i (.ow (.lst ds))) b->b=a\/ao σ (ρ2.take ρ.length) b:=fun b ⟨j,d,h1,h2⟩=>by
   by_cases q:i=j
   ·subst q;rw[qa]at h2;cases h2;exact .inl rfl
   ·rw[gp q]at h1;exact .inr ⟨j,d,h1,h2⟩
  have om:∀b,ao σ (ρ.set i .un) b->ao σ ρ b:=fun b z=>by obtain⟨j,d,hj,h1,h2⟩:=bY z;exact⟨j,d,h1,h2⟩
  have oa:ao σ ρ a:=⟨i,_,eo,qa⟩
  have nO2:¬ao σ (ρ2.take ρ.length) a:=fun z=>nO (t2.own a z);have z7:(ρ2.take ρ.length).length=ρ.length:=by rw[<- t2.st.len,st.len]
  refine k v H1 Hc (t1.trans ⟨⟨t2.st.same,by rw[Mx];exact t2.st.len,fun j d h=>?_,fun j d h=>?_,fun j j' d d' b h1 h2 h3 h4=>?_⟩,t2.stp.wide om,fun b z=>?_,fun j z=>?_⟩) ?_
  ·by_cases q:i=j
   ·subst q;rw[Mn (by rw[z7];exact JZ)]at h;cases h
   ·rw[gp q]at h;exact t2.st.sh j d h
  ·by_cases q:i=j
   ·subst q;rw[Mn (by rw[z7];exact JZ)]at h;cases h;exact⟨a,qa,na2,xs,ha2,rs.mono t2.stp.s0⟩
   ·rw[gp q]at h;exact t2.st.ow j d h
  ·by_cases q:i=j
   ·subst q;by_cases q':i=j'
    ·exact q'
    ·rw[gp q']at h2;rw[qa]at h3;cases h3;exact absurd ⟨j',d',h2,h4⟩ nO2
   ·rw[gp q]at h1;by_cases q':i=j'
    ·subst q';rw[qa]at h4;cases h4;exact absurd ⟨j,d,h1,h3⟩ nO2
    ·rw[gp q']at h2;exact t2.st.dis j j' d d' b h1 h2 h3 h4
  ·rcases oo b z with rfl | z
   ·exact oa
   ·exact om b (t2.own b z)
  ·trivial
  ·obtain⟨D',e',n',no',n0',w'⟩:=r2;refine⟨D',e',t1.stp.gone n',fun z=>?_,n0',w'⟩;rcases oo D' z with rfl | z
   ·rw[n']at ha;cases ha
   ·exact no' z
 ·have h2:=qE (fi:=Dm.iS (Dm.eV i)) hb hl ⟨H0,ρ,x,ρ',st,e,k⟩;exact Jd h2
section
variable{X:Cx}{JH tg:Expr}{JE:List Expr}{scope:Scope}{pos px:Pos}{bd:Dm.FB}{is:List Nat}{t:FT}{f:FE}{x:Str}
theorem i_M(i:Nat)(h:DE X (.Name x px) (Dm.eV i)):PI X tg (.Name x px) (fun σ H R=>rW X.K (tD (Dm.eV i)) σ H R\/yO X.K (tD (Dm.eV i)) σ H R):=PI.or (wc h) (yP h)
theorem pL(i:Nat)(nm own:List Str)(hg:TGc X nm scope own tg is bd)(hi:DE X (.Name x px) (Dm.eV i))(ht:∀cl C s H fp,DTs (aV X nm scope own cl C s H fp) JE t)(he:∀cl C s H fp,DE (aV X nm scope own cl C s H fp) JH f)
  (hc:X.calm=true:=by rfl) (hk:scope.kind=.function:=by rfl) (hS:pJ X.env.scope X.N nm scope=true:=by rfl) (hl:(is.all fun i=>decide (X.N.length<=i))=true:=by rfl) (hs:∀y,foldedSetIterable (.Name x px) X.env y=pure y:=by intro _;rfl) :
  DE X (.ListComp JH [⟨tg,.Name x px,JE,0⟩] scope pos) (Dm.dm i own.length bd t f):=by
 obtain⟨g,h1,h2⟩:=hg.ex;intro mU s σ H Q I h;exact wA hc (dY.of hS hk) (i_M i hi) h1 ht he hs mU s σ H Q I (CV h2 (fun i hi=>by rw[I.len];exact wG hl i hi) h)
end
end Br
namespace Dm
noncomputable def iz:List Dat->List Dat->List Dat
 |x::xs,y::ys=>.tup [x,y]::iz xs ys
 |_,_=>[]
noncomputable def x8(a b:FE):FI:=fun ρ=>match eAs [a,b] ρ with
 | some (vs,ρ1)=>(match tks ρ1 vs with
  |some ([.lst xs,.lst ys],ρ2)=>some (iz xs ys,ρ2)
  |_=>none)
 |none=>none
end Dm
namespace Br
open PySem PySem.Spec PyProof.Rows L2
theorem vc{X:Cx}{mU:List (Addr×Obj)}{σ:L2.St}{H:Hp}{s:Shared}{h':Heap}{t':Nat}{fp:List Addr}(I:Inv X mU σ H s)(hf:∀b∈fp,lY X mU H b)
  (k:∀b u,b∉fp->s.heap.get? b=some u->h'.get? b=some u):Inv X mU σ H { s with heap:=h',toks:=t' }:=by
 have nf:∀b u,H b=some u->b∉fp:=fun b u e z=>by rw[(hf b z).1]at e;cases e
 have nL:X.env.locals∉fp:=fun z=>(hf _ z).2.1 rfl;refine I.step (g':=s.gens) (d':=s.drawn) (ch:=fp) (fun b hb=>?_) (fun b u _ _ hc e _=>k b u hc e) (fun b u _ _ hc e _=>⟨u.slots,k b u hc e⟩)
  (fun b u _ e n=>n) (fun b u hc e=>⟨u,k b u hc e⟩)
  (fun b xs q=>q) (fun b u xs q=>q) (fun _ _ _ _ q=>q) (fun m hm=>?_) (fun b u e=>?_) I.bare
 ·obtain⟨f0,f1,f2,f3,f4,f5⟩:=hf b hb;exact⟨f3,f1,f4,f5⟩
 ·obtain⟨o,es,ep,ho,r⟩:=hm;exact⟨o,es,ep,k _ o nL ho,r⟩
 ·refine(I.hok b u e).stay (fun c v hc q=>k c v ?_ q) (fun c q=>q) (fun _ _ _ q=>q) fun c xs q=>q;rcases hc with z | z
  ·rw[z];exact nf b u e
  ·exact nf c _ z
noncomputable def Itz(K:gc)(a b:Addr):It:=
 ⟨fun i H=>∃ xs ys x y,SqL K H a xs∧SqL K H b ys∧xs[i]?=some x∧ys[i]?=some y,
  fun i H r H'=>∃p x y,H p=none/\r=.ref p/\H'=upd H p (.tup [x,y])/\(∀xs,SqL K H a xs->xs[i]?=some x)/\∀ys,SqL K H b ys->ys[i]?=some y,
  fun i H=>∃xs ys,SqL K H a xs/\SqL K H b ys/\(xs.length<=i\/ys.length<=i)⟩
theorem gI{h:Heap}{a b:Addr}{o o':Obj}(ha:h.get? a=some o)(hb:h.get? b=some o')(n:o.cls≠o'.cls):a≠b:=fun z=>by subst z;rw[ha]at hb;cases hb;exact n rfl
structure qI(z TI TO i1 i2:Addr):Prop where
 TIz:TI≠z
 TOz:TO≠z
 i1z:i1≠z
 i2z:i2≠z
 TITO:TI≠TO
 TIi1:TI≠i1
 TIi2:TI≠i2
 TOi1:TO≠i1
 TOi2:TO≠i2
 i12:i1≠i2
def z8(a b z TI TO i1 i2:Addr)(i:Nat)(h:Heap):Prop:=IsZip h z TI TO .none/\IsPair h TI (.ref i1) (.ref i2)/\(∃x y,IsPair h TO x y)/\h.IsListIter i1 a i/\h.IsListIter i2 b i
theorem sI{h:Heap}{a b z TI TO i1 i2:Addr}{i:Nat}{xs ys:Array Value}(F:qI z TI TO i1 i2)(st:z8 a b z TI TO i1 i2 i h)(ha:h.IsList a xs)(hb:h.IsList b ys):ZipApart z TI TO i1 i2 a b:=by
 obtain⟨s1,s2,⟨x,y,s3⟩,s4,s5⟩:=st;obtain⟨o4,e4,c4,_⟩:=s4;obtain⟨o5,e5,c5,_⟩:=s5;obtain⟨oa,ea,ca,_⟩:=ha;obtain⟨ob,eb,cb,_⟩:=hb;have d:∀{n m:String},n≠m->(NK n)≠(NK m):=fun q z=>q (by injection z);exact ⟨F.TIz,F.TOz,F.i1z,F.i2z,F.TITO,F.TIi1,F.TIi2,F.TOi1,F.TOi2,F.i12,
  gI ea s1 (by rw[ca];exact d (by decide)),gI ea s3 (by rw[ca];exact d (by decide)),gI ea e4 (by rw[ca,c4];exact d (by decide)),gI ea e5 (by rw[ca,c5];exact d (by decide)),
  gI eb s1 (by rw[cb];exact d (by decide)),gI eb s3 (by rw[cb];exact d (by decide)),gI eb e4 (by rw[cb,c4];exact d (by decide)),gI eb e5 (by rw[cb,c5];exact d (by decide))⟩
theorem z9{P:Program}{w:World}{K:gc}{elts:List Expr}{x1}{tp:Pos}(a b z TI TO i1 i2:Addr)(F:qI z TI TO i1 i2):Turn P w K (.Tuple elts x1 tp) (Itz K a b) [z,TI,TO,i1,i2] z (z8 a b z TI TO i1 i2) where
 mem:=by simp
 obj:=fun i h st c hc=>by
  obtain⟨s1,s2,⟨x,y,s3⟩,⟨o4,e4,c4,d4⟩,⟨o5,e5,c5,d5⟩⟩:=st;simp only[Mv,M4,or_false]at hc;rcases hc with rfl | rfl | rfl | rfl | rfl
  ·exact⟨_,s1,fun v q=>by have q':OD _=Oa v:=q;cases q'⟩
  ·exact⟨_,s2,fun v q=>by have q':Data.seq _ _=Oa v:=q;cases q'⟩
  ·exact⟨_,s3,fun v q=>by have q':Data.seq _ _=Oa v:=q;cases q'⟩
  ·exact⟨o4,e4,fun v q=>by rw[d4]at q;cases q⟩
  ·exact⟨o5,e5,fun v q=>by rw[d5]at q;cases q⟩
 keep:=fun i h h' st k=>by obtain⟨s1,s2,⟨x,y,s3⟩,s4,s5⟩:=st;exact⟨k z (by simp) _ s1,k TI (by simp) _ s2,⟨x,y,k TO (by simp) _ s3⟩,s4.at fun o q=>k i1 (by simp) o q,s5.at fun o q=>k i2 (by simp) o q⟩
 item:=by
  intro X hP hw hK hc i mU s σ H E I hf st hg;subst hP hw hK;obtain⟨xs,ys,x,y,hq,hq',hx,hy⟩:=hg;obtain⟨its,rv,p,hz⟩:=I.list hq;obtain⟨its',rv',p',hz'⟩:=I.list hq';obtain⟨u,hu,ru⟩:=rv.get hx;obtain⟨u',hu',ru'⟩:=rv'.get hy;have D:=sI F st p.isList p'.isList;obtain⟨s1,s2,⟨o1,o2,s3⟩,s4,s5⟩:=st;have lt:∀{c o},s.heap.get? c=some o->c<s.heap.objs.size:=fun q=>Mi q;have l1:=lt s1;have l2:=lt s2;have l3:=lt s3;have l4:i1<s.heap.objs.size:=by obtain⟨_,q,_⟩:=s4;exact lt q
  have l5:i2<s.heap.objs.size:=by obtain⟨_,q,_⟩:=s5;exact lt q
  refine wpAny_pyNext_zip_item D s1 s2 s3 s4 s5 p.isList p'.isList (x:=u) (y:=u') (by simpa using hu) (by simpa using hu') fun h1 a1 a2 a3 a4 a5 a6 hk=>?_;refine⟨_,rfl,wpAny_letOwnedTupleGo_zip a1 fun h2 z2 hs2=>?_⟩;have ht2:h2.get? s.heap.objs.size=some { cls:=.type "tuple",data:=.seq #[u,u'] }:=(hs2.2 _ (Nm l1)).trans a5;have k2:∀c o,c∉[z,TI,TO,i1,i2]->s.heap.get? c=some o->h2.get? c=some o:=fun c o hc q=>by simp only[Mv,M4,or_false,not_or]at hc;exact(hs2.2 c hc.1).trans (hk c o hc.1 hc.2.2.1 hc.2.2.2.1 hc.2.2.2.2 q)
  have hn:H s.heap.objs.size=none:=I.hok.fresh (Mj _);have I2:Inv X mU σ (upd H s.heap.objs.size (.tup [x,y])) { s with heap:=h2,toks:=s.toks }:=
   pK I hf k2 (Mj _) ⟨by simp[sizeLine],[u,u'],.cons ru (.cons ru' .nil),_,ht2,rfl,_,rfl⟩
  refine⟨.ref s.heap.objs.size,_,I2,rfl,⟨_,x,y,hn,rfl,rfl,fun vs hv=>by rw[I.gx hv hq];exact hx,fun vs hv=>by rw[I.gx hv hq'];exact hy⟩,⟨z2,?_,⟨_,_,hs2.extBut _ _ D.TOz a2⟩,?_,?_⟩,fun c hc=>?_⟩
  ·exact hs2.extBut _ _ D.TIz (hk TI _ D.TIz D.TITO D.TIi1 D.TIi2 s2)
  ·exact a3.extBut hs2.extBut D.i1z
  ·exact a4.extBut hs2.extBut D.i2z
  ·have hc1:c≠s.heap.objs.size:=fun q=>by
    simp only[Mv,M4,or_false]at hc;rcases hc with r | r | r | r | r
    ·subst r;rw[q]at l1;exact MV _ l1
    ·subst r;rw[q]at l2;exact MV _ l2
    ·subst r;rw[q]at l3;exact MV _ l3
    ·subst r;rw[q]at l4;exact MV _ l4
    ·subst r;rw[q]at l5;exact MV _ l5
   rw[az hc1];exact(hf c hc).1
 done:=by
  intro X hP hw hK hc i mU s σ H E I hf st hg;subst hP hw hK;obtain⟨xs,ys,hq,hq',hx⟩:=hg;obtain⟨its,rv,p,hz⟩:=I.list hq;obtain⟨its',rv',p',hz'⟩:=I.list hq';have hl:=rv.length;have hl':=rv'.length;have D:=sI F st p.isList p'.isList;obtain⟨s1,s2,⟨o1,o2,s3⟩,s4,s5⟩:=st;refine wpAny_pyNext_zip_end (I.ok.hd hc) D s1 s2 s3 s4 s5 p.isList p'.isList ?_ fun h' hk=>⟨rfl,vc (t':=s.toks) I hf fun c o hc q=>?_⟩
  ·rcases hx with hx | hx
   ·exact .inl (by simp;lia)
   ·exact .inr (by simp;lia)
  ·simp only[Mv,M4,or_false,not_or]at hc;exact hk c o hc.1 hc.2.2.1 hc.2.2.2.1 hc.2.2.2.2 q
 self:=fun A i s Q E st h=>wpAny_pyIter_zip st.1 h
def Er(K:gc)(ta:TA):TI:=fun σ H R=>ta σ H fun vs H1=>∃a b,vs=[.ref a,.ref b]/\(∃xs,SqL K H1 a xs)/\(∃ys,SqL K H1 b ys)/\R (Itz K a b) H1
section
variable{X:Cx}{l l':Expr}{ta:TA}{p pos:Pos}{elts:List Expr}{x1:Nat}{tp:Pos}
theorem Gw(hg:Gl X "zip")(hm:X.mg "zip" = none)(ha:PA X [l,l'] ta)(hs:starEach [l,l'] X.env=(false,eval l X.env)::starEach [l'] X.env:=by rfl)(hs2:(backTo pos (starEach [l'] X.env)).any (·.1)=false:=by rfl) :
  PI X (.Tuple elts x1 tp) (.Call (.Name "zip" p) [l,l'] [] pos) (Er X.K ta):=by
 intro mU s σ H R I h;refine Call_ (dg I hg hm boot_zip (Mz (thn (ha pos mU s σ H _ I h) fun us s1 ⟨vs,H1,I1,r1,q1⟩=>?_) hs hs2));obtain⟨a,b,e,⟨xs,hq⟩,⟨ys,hq'⟩,q⟩:=q1;subst e;obtain⟨v1,v2,rfl,r,r'⟩:=vals2 r1;cases r;cases r';obtain⟨its,rv,pl,hz⟩:=I1.list hq;obtain⟨its',rv',pl',hz'⟩:=I1.list hq';refine call_zip_2 pl.isList pl'.isList fun h' e1 e2 e3 e4 e5 hsz k=>?_;have I2:Inv X mU σ H1 { s1 with heap:=h' }:=I1.kept (t':=s1.toks) k;have F:qI (s1.heap.objs.size+4) (s1.heap.objs.size+2) (s1.heap.objs.size+3) s1.heap.objs.size (s1.heap.objs.size+1):=by constructor<;>first | exact MC (by lia) | exact Nm (by lia)
 have T:=z9 (P:=X.prog) (w:=X.w) (K:=X.K) (elts:=elts) (x1:=x1) (tp:=tp) a b _ _ _ _ _ F;have st:z8 a b (s1.heap.objs.size+4) (s1.heap.objs.size+2) (s1.heap.objs.size+3) s1.heap.objs.size (s1.heap.objs.size+1) 0 h':=⟨e1,e2,⟨_,_,e3⟩,e4,e5⟩
 refine T.self X.A 0 { s1 with heap:=h' } _ X.xe st ?_;refine⟨s1.heap.objs.size+4,_,_,_,H1,rfl,I2,T,st,fun c hc=>?_,q⟩;have:s1.heap.objs.size<=c:=by simp only[Mv,M4,or_false]at hc;rcases hc with r | r | r | r | r<;>(rw[r];first | exact Nat.le_add_right _ _ | exact Mj _)
 exact I1.rV this (I1.hok.fresh this)
end
theorem wH:∀(xs ys:List Dat),(Dm.iz xs ys).length=min xs.length ys.length
 |[],_=>by simp[Dm.iz]
 |_::_,[]=>by simp[Dm.iz]
 |x::xs,y::ys=>by simp[Dm.iz,wH xs ys]
theorem zip_get:∀(xs ys:List Dat) (j:Nat) (d:Dat),(Dm.iz xs ys)[j]?=some d->∃x y,xs[j]?=some x/\ys[j]?=some y/\d=.tup [x,y]
 |[],_,_,_,h=>by simp[Dm.iz]at h
 |_::_,[],_,_,h=>by simp[Dm.iz]at h
 |x::xs,y::ys,0,d,h=>by cases h;exact⟨x,y,rfl,rfl,rfl⟩
 |x::xs,y::ys,j+1,d,h=>zip_get xs ys j d h
theorem Gx{K:gc}{H0:Hp}{a b:Addr}{xs ys:List V}{ds es:List Dat}(hq:Rd H0 a (.lst xs))(rs:aM H0 xs ds)(hq':Rd H0 b (.lst ys))(rs':aM H0 ys es):JW (Itz K a b) H0 (Dm.iz ds es):=by
 intro H0' H s0 s1;have q:SqL K H a xs:=.inl (aq.rd s1 (aq.rd s0 hq));have q':SqL K H b ys:=.inl (aq.rd s1 (aq.rd s0 hq'));refine⟨fun i hi=>⟨xs,ys,q,q',?_⟩,fun i d e=>?_⟩
 ·rw[wH]at hi;have:=rs.length;have:=rs'.length
  lia
 obtain⟨x,y,hx,hy,rfl⟩:=zip_get ds es i d e;obtain⟨v,hv,rv⟩:=rs.get hx;obtain⟨v',hv',rv'⟩:=rs'.get hy;refine⟨⟨xs,ys,v,v',q,q',hv,hv'⟩,fun r H' z=>?_⟩;obtain⟨p,u,u',hn,rfl,rfl,z1,z2⟩:=z;have w1:=z1 xs q;have w2:=z2 ys q';rw[hv]at w1;rw[hv']at w2;cases w1;cases w2;have g:=aN.zf (o:=HO.tup [v,v']) s1 hn;exact⟨_,g,.tup aF (.cons ((rv.mono s0).mono g.s0) (.cons ((rv'.mono s0).mono g.s0) .nil))⟩
section
variable{σ:L2.St}{H:Hp}{R:It->Hp->Prop}
theorem Gy{K:gc}{f g:FE}(h:tDI (Dm.x8 f g) σ H R):Er K (tDA [f,g]) σ H R:=by
 obtain⟨H0,ρ,ys,ρ',st,e,k⟩:=h;unfold Dm.x8 at e;split at e
 ·rename_i vs ρ1 e1;split at e
  ·rename_i xs zs ρ2 e2;cases e;refine⟨H0,ρ,vs,ρ1,st,e1,fun us H0' H' t r=>?_⟩;obtain⟨H1,t1,b1,r1⟩:=takes t (aq.refl _) r e2;cases r1 with
   |cons q1 rr=>
    cases rr with
    |cons q2 rr=>
     cases rr;cases q1 with
     |lst q rs=>
      cases q2 with
      |lst q' rs'=>exact⟨_,_,rfl,⟨_,.inl (aq.rd t1.st.same q)⟩,⟨_,.inl (aq.rd t1.st.same q')⟩,k _ H1 H' t1 (Gx q rs q' rs')⟩
  ·cases e
 ·cases e
end
section
variable{X:Cx}{a b:Expr}{fa fb:FE}{p pos:Pos}{elts:List Expr}{x1:Nat}{tp:Pos}
theorem z_(hg:Gl X "zip")(hm:X.mg "zip" = none)(ha:DA X [a,b] [fa,fb])(hs:starEach [a,b] X.env=(false,eval a X.env)::starEach [b] X.env:=by rfl)(hs2:(backTo pos (starEach [b] X.env)).any (·.1)=false:=by rfl) :
  DI X (.Tuple elts x1 tp) (.Call (.Name "zip" p) [a,b] [] pos) (Dm.x8 fa fb):=PI.weak (Gw hg hm ha hs hs2) fun _ _ _=>Gy
end
end Br
namespace Dm
noncomputable def fnM(n m:Nat)(body:FS)(ds:List Dat):Option (RV×Dat):=if ds.length=n then (match ds with
 | d::r=>(match body (Cell.ow d::(r.map Cell.sh++gV m .un)) with
  | some (.ret z ρ')=>(match ρ'[0]? with
   |some (Cell.ow d')=>some (z,d')
   |_=>none)
  | some (.nx ρ')=>(match ρ'[0]? with
   |some (Cell.ow d')=>some (.val .non,d')
   |_=>none)
  |_=>none)
 |[]=>none) else none
noncomputable def flat:Dat->Bool
 |.tup xs=>xs.all fun x=>!fL x
 |d=>!fL d
noncomputable def mJ:Dat->Bool
 |.lst xs=>xs.all fun x=>!fL x
 |_=>false
noncomputable def eFm(f:List Dat->Option (RV×Dat))(j:Nat)(as:List FE):FE:=fun ρ=>match ρ[j]? with
 | some (.ow _)=>(match eAs as ρ with
  |none=>none
  | some (xs,ρ1)=>(match ρ1[j]? with
   | some (.ow d1)=>(match tks ρ1 xs with
    |none=>none
    | some (ds,ρ2)=>(match ρ2[j]? with
     | some (.ow d)=>(match f (d::ds) with
      |none=>none
      |some (v,d')=>if flat v.dat&&mJ d' then some (v.bW,ρ1.set j (.ow d')) else some (v.bW,ρ2.set j (.ow d')))
     |_=>none))
   |_=>none))
 |_=>none
end Dm
namespace Br
open PySem PySem.Spec PyProof.Rows L2
section
variable{ρ:Dm.Env}{σ:L2.St}{a:Addr}
def spM(f:List Dat->Option (RV×Dat)):Sp:=fun vs H Q _=>∃H0 a us d ds z d',vs=V.ref a::us/\aq H0 H/\H0 a=none/\Own H0 H a d/\aM H0 us ds/\f (d::ds)=some (z,d') /\
 ∀v H0' H',Stp (fun b=>b=a) H0 H H0' H'->aq H0' H'->H0' a=none->Own H0' H' a d'->uY H H0' H' v z->Q v H'
theorem cF{n m:Nat}{body:FS}{vs:List V}{H:Hp}{Q:VK}{E:XK}(h:spM (Dm.fnM n m body) vs H Q E):vs.length=n:=by
 obtain⟨H0,a,us,d,ds,z,d',e,_,_,_,rs,ef,_⟩:=h;unfold Dm.fnM at ef;split at ef
 ·rename_i hl;rw[e,M3,rs.length]
  simpa using hl
 ·cases ef
theorem au.pM{H0 H:Hp}{j:Nat}{d:Dat}(st:au H0 H σ ρ)(q:σ[j]?=some (some (V.ref a)))(no:¬ao σ ρ a)(n0:H0 a=none)(w:Own H0 H a d):au H0 H σ (ρ.set j (.ow d)):=by
 have:=st.zo (i:=j) no n0 w;have e:σ.set j (some (V.ref a))=σ:=by
  apply List.ext_getElem?;intro i;by_cases h:j=i
  ·subst h;have hl:j<σ.length:=(Dk.mp q).1;rw[Mn hl,q]
  ·rw[gp h]
 rw[e]at this;exact this
theorem au.off{H0 H H0' H':Hp}(st:au H0 H σ ρ)(s0:aq H0 H0')(ss:aq H0' H')(no:¬ao σ ρ a)(s1:∀b o,H b=some o->b≠a->H' b=some o)(s2:∀(i:Nat) (d:Dat) (b:Addr),ρ[i]?=some (Dm.Cell.ow d)->σ[i]?=some (some (V.ref b))->H0' b=none):au H0' H' σ ρ where
 same:=ss
 len:=st.len
 sh:=fun i d e=>by obtain⟨v,q,r⟩:=st.sh i d e;exact⟨v,q,r.mono s0⟩
 ow:=fun i d e=>by obtain⟨b,q,n,w⟩:=st.ow i d e;obtain⟨o,z⟩:=w.some;have nb:b≠a:=fun y=>no ⟨i,d,e,y▸q⟩;exact⟨b,q,s2 i d b e q,w.mono s0 ((s1 b o z nb).trans z.symm)⟩
 dis:=st.dis
theorem fX{H0 H1:Hp}:∀{xs:List V} {ds:List Dat},aM H0 xs ds->(ds.all fun x=>!Dm.fL x)=true->aM H1 xs ds
 |_,_,.nil,_=>.nil
 |_,_,.cons r rs,h=>by rw[NR,Mw]at h;exact .cons (Rep.plain r (by simpa using h.1)) (fX rs h.2)
end
section
variable{σ:L2.St}{H:Hp}{Q:VK}
theorem CW{f:List Dat->Option (RV×Dat)}{j:Nat}{fs:List FE}{E:XK}(h:tD (Dm.eFm f j fs) σ H Q):rZ (spM f) [] E (tDA (Dm.eV j::fs)) σ H Q:=by
 obtain⟨H0,ρ,x,ρ',st,e,k⟩:=h;unfold Dm.eFm at e;split at e
 case h_2=>cases e
 rename_i d0 h0;split at e
 ·cases e
 rename_i xs ρ1 e1;split at e
 case h_2=>cases e
 rename_i d1 h1;split at e
 ·cases e
 rename_i ds ρ2 e2;split at e
 case h_2=>cases e
 rename_i d h2;split at e
 ·cases e
 rename_i z d' fz;have ea:Dm.eAs (Dm.eV j::fs) ρ=some (.slot j::xs,ρ1):=by unfold Dm.eAs;rw[show Dm.eV j ρ=some (.slot j,ρ) from by unfold Dm.eV;rw[h0]];dsimp only;rw[e1]
 refine⟨H0,ρ,.slot j::xs,ρ1,st,ea,fun vs H1 Hb t1 r1=>?_⟩;dsimp only;rw[MN];cases r1 with
 |cons r0 rr=>
  obtain⟨H2,t2,b2,r2⟩:=takes t1 (aq.refl _) rr e2;obtain⟨a,qa,na,wa⟩:=t2.st.ow j d h2;obtain⟨q0,_⟩:=r0;rw[qa]at q0;cases q0;obtain⟨a1,qa1,na1,wa1⟩:=t1.st.ow j d1 h1;rw[qa]at qa1;cases qa1;obtain⟨oa,ha⟩:=wa.some;have hl2:j<ρ2.length:=(Dk.mp h2).1;have hl1:j<ρ1.length:=(Dk.mp h1).1;have oa0:ao σ ρ a:=t1.own a ⟨j,d1,h1,qa⟩;refine⟨H2,a,_,d,ds,z,d',rfl,t2.st.same,na,wa,r2,fz,fun v H3 Hd s3 ss n3 w3 r3=>?_⟩;have no2:¬ao σ (ρ2.set j .un) a:=fun y=>by obtain⟨i,d4,hi,y1,y2⟩:=bY y;exact hi (t2.st.dis i j d4 d a y1 h2 y2 qa)
  have no1:¬ao σ (ρ1.set j .un) a:=fun y=>by obtain⟨i,d4,hi,y1,y2⟩:=bY y;exact hi (t1.st.dis i j d4 d1 a y1 h1 y2 qa)
  split at e
  ·rename_i fl;cases e;rw[Mw]at fl;obtain⟨f1,f2⟩:=fl;have wp:∀H',Own H' Hd a d':=fun H'=>by
    cases d' with
    |lst ys=>obtain⟨us,y1,y2⟩:=w3;exact⟨us,y1,fX y2 f2⟩
    |_=>cases f2
   have JI:∀H1':Hp,aq H1 H1'->aq H1' Hd->(∀b o,H1' b=some o->H1 b=some o\/((∃us,o=.tup us)/\H3 b=some o))->gF H H1' Hd σ (ρ1.set j (.ow d')) v z.bW->Q v Hd:=fun H1' m1 m2 m3 rv=>by
    have hd3:∀b,H1' b≠none->b≠a:=fun b hb y=>by
     subst y;cases y2:H1' b with
     |none=>exact hb y2
     |some o=>
      rcases m3 b o y2 with y3 | ⟨_,y3⟩
      ·rw[na1]at y3;cases y3
      ·rw[n3]at y3;cases y3
    have n1':H1' a=none:=by
     cases y:H1' a with
     |none=>rfl
     |some o=>exact absurd rfl (hd3 a (by rw[y];exact fun q=>nomatch q))
    have sm:au H1' Hd σ (ρ1.set j .un):=by
     refine(t1.st.mask j).off m1 m2 no1 (fun b o y nb=>s3.s1 b o y nb) fun i d4 b y1 y2=>?_;obtain⟨b',q',nb',w'⟩:=(t1.st.mask j).ow i d4 y1;rw[y2]at q';cases q';cases y:H1' b with
     |none=>rfl
     |some o=>
      rcases m3 b o y with y3 | ⟨⟨us,y4⟩,y3⟩
      ·rw[nb']at y3;cases y3
      ·subst y4;have nb:b≠a:=hd3 b (by rw[y];exact fun q=>nomatch q);cases d4 with
       |lst _=>obtain⟨ws,z1,_⟩:=w';have z2:=s3.s1 b _ z1 nb;rw[ss _ _ y3]at z2;cases z2
       |dct _ _=>obtain⟨ws,z1,_⟩:=w';have z2:=s3.s1 b _ z1 nb;rw[ss _ _ y3]at z2;cases z2
       |dcp _ _=>obtain⟨ws,z1,_⟩:=w';have z2:=s3.s1 b _ z1 nb;rw[ss _ _ y3]at z2;cases z2
       |_=>exact Mr w'
    have sf:au H1' Hd σ (ρ1.set j (.ow d')):=by have:=sm.pM qa no1 n1' (wp H1');rw[OO]at this;exact this
    refine k v H1' Hd ⟨sf,⟨t1.stp.s0.trans m1,fun b o y nb=>?_,fun b o y=>?_,fun b o y=>?_⟩,fun b y=>?_,fun i y=>?_⟩ rv
    ·have y1:=t1.stp.s1 b o y nb;exact s3.s1 b o y1 fun q=>nb (by rw[q];exact oa0)
    ·rcases m3 b o y with y3 | ⟨_,y3⟩
     ·exact t1.stp.s2 b o y3
     ·rcases s3.s2 b o y3 with y4 | y4 | y4
      ·exact .inl (t1.stp.gone y4)
      ·exact t2.stp.s2 b o y4
      ·subst y4;rw[n3]at y3;cases y3
    ·obtain⟨o',y1⟩:=t1.stp.s3 b o y;exact s3.s3 b o' y1
    ·obtain⟨i,d4,y1,y2⟩:=y;by_cases hi:j=i
     ·subst hi;rw[qa]at y2;cases y2;exact oa0
     ·rw[gp hi]at y1;exact t1.own b ⟨i,d4,y1,y2⟩
    ·trivial
   have m0:aq H1 Hd:=fun b o y=>s3.s1 b o (t1.st.same _ _ y) fun q=>by rw[q,na1]at y;cases y
   cases z with
   |new d4=>
    obtain⟨_,_,_,_,w⟩:=r3;cases d4 with
    |lst _=>cases f1
    |dct _ _=>cases f1
    |dcp _ _=>cases f1
    |_=>exact Mr w
   |val d4=>
    have r3':Rep H3 v d4:=r3;cases d4 with
    |tup es=>
     cases r3' with
     |tup q rs=>
      rename_i a2 us;have rp:aM H1 us es:=fX rs f1;refine JI (upd H1 a2 (.tup us)) (fun b o y=>?_) (fun b o y=>?_) (fun b o y=>?_) (.tup aF (fX rs f1))
      ·by_cases hb:b=a2
       ·subst hb;have:=s3.s0 _ _ (b2 _ _ y);rw[q]at this;rw[aF,this]
       ·rw[az hb];exact y
      ·by_cases hb:b=a2
       ·subst hb;rw[aF]at y;cases y;exact ss _ _ q
       ·rw[az hb]at y;exact m0 _ _ y
      ·by_cases hb:b=a2
       ·subst hb;rw[aF]at y;cases y;exact .inr ⟨⟨us,rfl⟩,q⟩
       ·rw[az hb]at y;exact .inl y
    |lst _=>cases f1
    |dct _ _=>cases f1
    |dcp _ _=>cases f1
    |exc _=>cases f1
    |di _ _=>cases f1
    |fn _=>exact JI H1 (aq.refl _) m0 (fun b o y=>.inl y) (Rep.plain r3' rfl)
    |non=>exact JI H1 (aq.refl _) m0 (fun b o y=>.inl y) (Rep.plain r3' rfl)
    |bl _=>exact JI H1 (aq.refl _) m0 (fun b o y=>.inl y) (Rep.plain r3' rfl)
    |int _=>exact JI H1 (aq.refl _) m0 (fun b o y=>.inl y) (Rep.plain r3' rfl)
    |str _=>exact JI H1 (aq.refl _) m0 (fun b o y=>.inl y) (Rep.plain r3' rfl)
  ·cases e;have sm:au H3 Hd σ (ρ2.set j .un):=by
    refine(t2.st.mask j).off s3.s0 ss no2 (fun b o y nb=>s3.s1 b o y nb) fun i d4 b y1 y2=>?_;obtain⟨b',q',nb',w'⟩:=(t2.st.mask j).ow i d4 y1;rw[y2]at q';cases q';obtain⟨ob,hob⟩:=w'.some;cases y:H3 b with
    |none=>rfl
    |some o=>
     rcases s3.s2 b o y with y3 | y3 | y3
     ·rw[hob]at y3;cases y3
     ·rw[nb']at y3;cases y3
     ·exact absurd ⟨i,d4,y1,y3▸y2⟩ no2
   have sf:au H3 Hd σ (ρ2.set j (.ow d')):=by have:=sm.pM qa no2 n3 w3;rw[OO]at this;exact this
   have of:∀b,ao σ (ρ2.set j (.ow d')) b->b=a\/ao σ ρ2 b:=fun b ⟨i,d4,y1,y2⟩=>by
    by_cases hi:j=i
    ·subst hi;rw[qa]at y2;cases y2;exact .inl rfl
    ·rw[gp hi]at y1;exact .inr ⟨i,d4,y1,y2⟩
   refine k v H3 Hd ⟨sf,t2.stp.trans s3 (fun b y=>.inl (y▸oa0)),fun b y=>?_,fun i y=>?_⟩ ?_
   ·rcases of b y with y | y
    ·exact y▸oa0
    ·exact t2.own b y
   ·trivial
   ·cases z with
    |val d4=>exact r3
    |new d4=>
     obtain⟨b,y0,y1,y2,y3⟩:=r3;refine⟨b,y0,t2.stp.gone y1,fun y=>?_,y2,y3⟩;rcases of b y with y | y
     ·subst y;rw[ha]at y1;cases y1
     ·exact t2.st.gH y1 y
end
theorem aL{X:Cx}{es:List Expr}{p pos px:Pos}{k:Nat}{F:Addr}{fd:FuncData}{ps:List Str}{g:List Dat->Option (RV×Dat)}{x y:Str}{j:Nat}{fs:List FE}(G:aP X.prog X.w X.K X.mg X.base CX0 k F fd ps (spM g))(hr:bM k X.A)(hg:Gl X x)(hm:X.mg x=some (.ref F))(hk:MZ X.K (.ref F)=true)(hb:Binds X.K fd ps [])
  (ha:DA X (.Name y px::es) (Dm.eV j::fs)) (JF:(x == ("__debug__" : Str))=false:=by decide) (he:starEach (.Name y px::es) X.env=(false,eval (.Name y px) X.env)::starEach es X.env:=by rfl) (En:(backTo pos (starEach es X.env)).any (·.1)=false:=by rfl) :
  DE X (.Call (.Name x p) (.Name y px::es) [] pos) (Dm.eFm g j fs):=PE.weak (lM G hr hg hm hk hb .nil (r_ (X:=X)) ha JF he En) fun _ _ _=>CW
theorem gJ{N:List Str}{n m:Nat}{body:FS}{vs:List V}{H:Hp}{Q:VK}{E:XK}(hm:N.length=n+m)(h:spM (Dm.fnM n m body) vs H Q E) :
  tDS body { nx:=fun _ H'=>Q .non H',rt:=Q } (start N vs) H:=by
 have hvn:=cF h;obtain⟨H0,a,us,d,ds,z,d',e,s,na,wa,rs,ef,k⟩:=h;subst e;have hl:=rs.length;rw[M3]at hvn;have e0:(start N (V.ref a::us))[0]?=some (some (V.ref a)):=rfl;have get:∀{i:Nat} {c:Dm.Cell},(Dm.Cell.ow d::(ds.map Dm.Cell.sh++gV m .un))[i]?=some c->(i=0/\c=.ow d)\/(∃i' d4,i=i'+1/\ds[i']?=some d4/\c=.sh d4)\/c=.un:=fun {i c} y=>by
  cases i with
  |zero=>cases y;exact .inl ⟨rfl,rfl⟩
  |succ i=>
   rw[Nc]at y;by_cases hi:i<ds.length
   ·rw[HT (by simpa using hi),Mq,Me hi]at y;cases y;exact .inr (.inl ⟨i,ds[i],rfl,Me hi,rfl⟩)
   ·rw[Mp (by simpa using hi),My]at y;split at y
    ·cases y;exact .inr (.inr rfl)
    ·cases y
 have ow0:∀{i:Nat} {d4:Dat},(Dm.Cell.ow d::(ds.map Dm.Cell.sh++gV m .un))[i]?=some (.ow d4)->i=0/\d4=d:=fun {i d4} y=>by
  rcases get y with⟨y1,y2⟩ | ⟨_,_,_,_,y2⟩ | y2
  ·cases y2;exact⟨y1,rfl⟩
  ·cases y2
  ·cases y2
 have oa:∀b,ao (start N (V.ref a::us)) (Dm.Cell.ow d::(ds.map Dm.Cell.sh++gV m .un)) b->b=a:=fun b ⟨i,d4,y1,y2⟩=>by obtain⟨y3,_⟩:=ow0 y1;subst y3;rw[e0]at y2;cases y2;rfl
 have st:au H0 H (start N (V.ref a::us)) (Dm.Cell.ow d::(ds.map Dm.Cell.sh++gV m .un)):=by
  refine⟨s,?_,fun i d4 y=>?_,fun i d4 y=>?_,fun i i' d4 d5 b y1 y2 _ _=>(ow0 y1).1.trans (ow0 y2).1.symm⟩
  ·unfold L2.start;simp only[Mt,Mg,M0,M3];omega
  ·rcases get y with⟨_,y2⟩ | ⟨i',d5,y1,y2,y3⟩ | y2
   ·cases y2
   ·cases y3;subst y1;obtain⟨v,hv,r⟩:=rs.get y2;refine⟨v,?_,r⟩;have hi:i'<us.length:=(Dk.mp hv).1;unfold L2.start;rw[HT (by simp;omega),Mq,Nc,hv];rfl
   ·cases y2
  ·obtain⟨y1,y2⟩:=ow0 y;subst y1 y2;exact⟨a,e0,na,wa⟩
 have JI:∀{σ':L2.St} {ρ':Dm.Env} {H0' H':Hp},SSt (start N (V.ref a::us)) (Dm.Cell.ow d::(ds.map Dm.Cell.sh++gV m .un)) H0 H σ' ρ' H0' H'->ρ'[0]?=some (.ow d')->Stp (fun b=>b=a) H0 H H0' H'/\H0' a=none/\Own H0' H' a d'/\ao σ' ρ' a:=fun {σ' ρ' H0' H'} t y=>by obtain⟨a',q',n',w'⟩:=t.st.ow 0 d' y;have fx:=t.fx;rw[e0,q']at fx;cases fx;exact⟨t.stp.wide fun b z=>oa b z,n',w',0,d',y,q'⟩
 unfold Dm.fnM at ef;split at ef
 case isFalse=>cases ef
 dsimp only at ef;split at ef
 ·rename_i z' ρ' e1;split at ef
  case h_2=>cases ef
  rename_i d4 y;cases ef;refine⟨H0,_,_,st,e1,fun σ' v H0' H' t r no=>?_⟩;obtain⟨f1,f2,f3,f4⟩:=JI t y;refine k v H0' H' f1 t.st.same f2 f3 ?_;cases z with
  |val d5=>exact r
  |new d5=>
   obtain⟨b,y0,y1,y2,y3⟩:=r;refine⟨b,y0,?_,y2,y3⟩;rcases y1 with y1 | y1
   ·exact y1
   ·exact absurd f4 (oa b y1▸no d5 b rfl y0)
 ·rename_i ρ' e1;split at ef
  case h_2=>cases ef
  rename_i d4 y;cases ef;refine⟨H0,_,_,st,e1,fun σ' H0' H' t=>?_⟩;obtain⟨f1,f2,f3,f4⟩:=JI t y;exact k _ H0' H' f1 t.st.same f2 f3 .non
 ·cases ef
end Br
namespace Dm
noncomputable def eDn:FE:=fun ρ=>some (.new (.dct [] []),ρ)
end Dm
namespace Br
open PySem PySem.Spec PyProof.Rows L2
section
variable{σ:L2.St}{H:Hp}{Q:VK}{D:Ends}
theorem Lq(h:tD Dm.eDn σ H Q):zb σ H Q:=by obtain⟨H0,ρ,x,ρ',st,e,k⟩:=h;cases e;intro p hp;have g:=aN.mw (o:=HO.dK []) st.same hp;exact k _ _ _ (.grow st g) ⟨p,rfl,hp,st.gH hp,st.same.free hp,[],aF,rfl,.nil⟩
end
section
variable{X:Cx}{a b e:Expr}{fa fb f:FE}{pos:Pos}{k:Nat}
theorem Gz:DE X (.Dict [] [] pos) Dm.eDn:=PE.weak zc fun _ _ _=>Lq
end
end Br
namespace Dm
noncomputable def x9:List Dat->Option RV
 |[.int i]=>vI (if i<0 then -i else i)
 |_=>none
end Dm
namespace Br
open PySem PySem.Spec PyProof.Rows L2
theorem GA:CallD (fun xs H Q=>∃i,xs=[.int i]/\Q (.int (if i<0 then -i else i)) H) Dm.x9:=by
 intro H0 H xs ds z Q s rx e k;unfold Dm.x9 at e;split at e
 ·rename_i i;cases e;cases rx with
  |cons r rr=>cases rr;cases aD r;exact⟨i,rfl,k _ H0 H (aN.refl s) (.int _)⟩
 ·cases e
section
variable{σ:L2.St}{H:Hp}{Q:VK}
theorem Lr{K:gc}{f:FE}{Q:Bool->Hp->Prop}(h:tDT (Dm.tTr f) σ H Q):tD f σ H fun x H'=>∃k,FF K x H' k/\Q k H':=by
 obtain⟨H0,ρ,b,ρ',st,e,k⟩:=h;unfold Dm.tTr at e;split at e
 ·cases e
 rename_i x ρ1 e1;split at e
 ·cases e
 rename_i d p1;split at e
 ·cases e
 rename_i c tc;cases e;refine⟨H0,ρ,x,_,st,e1,fun v H1 Hb t1 r1=>⟨b,?_,k H1 Hb t1⟩⟩;have rl:=r1.look t1.st p1;cases d with
 |non=>
  cases tc;rcases rl with r | ⟨a,_,w⟩
  ·cases r;rfl
  ·exact Mr w
 |bl c=>cases tc;cases wB rl;rfl
 |int i=>cases tc;cases aD rl;rfl
 |tup es=>cases tc;obtain⟨a,xs,rfl,qa,rs⟩:=jQ t1.st.same rl;refine .inr (.inl ⟨xs,SqT.of qa,?_⟩);cases rs<;>rfl
 |lst es=>cases tc;obtain⟨a,xs,rfl,qa,rs⟩:=cC t1.st.same rl;refine .inl ⟨xs,.inl qa,?_⟩;cases rs<;>rfl
 |str _=>cases tc
 |dct _ _=>cases tc
 |dcp _ _=>cases tc
 |exc _=>cases tc
 |di _ _=>cases tc
 |fn _=>cases tc
end
section
variable{X:Cx}{a:Expr}{fa:FE}{p pos:Pos}
theorem x_(ha:DE X a fa)(he:∀whole,isTrue a X.env whole=(do let v <- whole;standAt a.pos;holding [v] (truthy v)):=by intro _;rfl):DT X a (Dm.tTr fa):=PT.weak (yV ha he) fun _ _ _=>Lr
end
section
variable{X:Cx}{a b e:Expr}{fa fb f:FE}{fs:List FE}{p p2 pos:Pos}
theorem Es(hg:Gl X "abs")(hm:X.mg "abs" = none)(ha:DA X [e] fs)(he:starEach [e] X.env=[(false,eval e X.env)]:=by rfl)(En:(backTo pos (starEach [] X.env)).any (·.1)=false:=by rfl):DE X (.Call (.Name "abs" p) [e] [] pos) (Dm.eB Dm.x9 fs):=zG yW GA PyProof.Rows.boot_abs hg hm ha (he:=he) (En:=En)
end
end Br
namespace Ts
open PySem PyProof.Rows
variable{M:Model}{A:Around}{E:Value->Shared->Prop}{s:Shared}{κ:KeyKind}{kd:SortKind}{a₀:Array Keyed}
end Ts
namespace Ts
open PySem PyProof.Rows
variable{M:Model}{A:Around}{E:Value->Shared->Prop}{s:Shared}{κ:KeyKind}{kd:SortKind}{a₀:Array Keyed}
end Ts
namespace Ts
open PySem PyProof.Rows
variable{M:Model}{A:Around}{E:Value->Shared->Prop}{s:Shared}{κ:KeyKind}{kd:SortKind}{a₀:Array Keyed}
end Ts
namespace Ts
open PySem PyProof.Rows
variable{M:Model}{A:Around}{E:Value->Shared->Prop}{s:Shared}{κ:KeyKind}{kd:SortKind}{a₀:Array Keyed}
end Ts
namespace Ts
open PySem PyProof.Rows
variable{A:Around}{E:Value->Shared->Prop}{s:Shared}{κ:KeyKind}{kd:SortKind}{a₀:Array Keyed}{prog:Program}{w:World}
end Ts
namespace Ts
open PySem PyProof.Rows
variable{A:Around}{E:Value->Shared->Prop}{s:Shared}{κ:KeyKind}{kd:SortKind}{a₀:Array Keyed}{prog:Program}{w:World}
end Ts
namespace Ts
open PySem PyProof.Rows
variable{A:Around}{E:Value->Shared->Prop}{s:Shared}{κ:KeyKind}{kd:SortKind}{a₀:Array Keyed}{prog:Program}{w:World}
end Ts
namespace Ts
open PySem PyProof.Rows
variable{A:Around}{E:Value->Shared->Prop}{s:Shared}{κ:KeyKind}{kd:SortKind}{a₀:Array Keyed}{prog:Program}{w:World}
end Ts
namespace Ts
open PySem PyProof.Rows
variable{A:Around}{E:Value->Shared->Prop}{s:Shared}{κ:KeyKind}{kd:SortKind}{prog:Program}{w:World}
end Ts
namespace Ts
open PySem PyProof.Rows
variable{A:Around}{E:Value->Shared->Prop}{s:Shared}{κ:KeyKind}{kd:SortKind}{a₀:Array Keyed}{prog:Program}{w:World}
end Ts
namespace Ts
open PySem PyProof.Rows
variable{A:Around}{E:Value->Shared->Prop}{s:Shared}{κ:KeyKind}{kd:SortKind}{prog:Program}{w:World}
end Ts
namespace Dm
noncomputable def cu(bad:List Dat->Bool)(fs:List FE)(ρ:Env):Option Env:=match eAs fs ρ with
 |none=>none
 |some (xs,ρ1)=>match pks ρ1 xs with
  |none=>none
  |some ds=>if bad ds then some ρ1 else none
noncomputable def rIf(t:FT)(R S:Env->Option Env)(ρ:Env):Option Env:=match t ρ with
 |none=>none
 |some (true,ρ1)=>R ρ1
 |some (false,ρ1)=>S ρ1
noncomputable def CY(ρ:Env):Option Env:=some ρ
noncomputable def rNo(_:Env):Option Env:=none
noncomputable def fnX(n m:Nat)(R:Env->Option Env)(ds:List Dat):Bool:=decide (ds.length=n)&&(R (ds.map .sh++gV m .un)).isSome
noncomputable def lC(C:Nat)(b:Bool):Dat->Option RV
 |.exc C'=>if C'=C then vB b else none
 |.di C' _=>if C'=C then vB b else none
 |_=>none
end Dm
namespace PySem
open Sem (wp)
noncomputable def vd(o:Obj):Option Value:=match o.data with
 |.fields vs=>vs[2]?
 |_=>none
def CK(h h':Heap):Prop:=∀b o,h.get? b=some o->∃o',h'.get? b=some o'/\vd o'=vd o
theorem CK.refl(h:Heap):CK h h:=fun _ o e=>⟨o,e,rfl⟩
theorem CK.trans{h1 h2 h3:Heap}(x:CK h1 h2)(y:CK h2 h3):CK h1 h3:=fun b o e=>by obtain⟨o1,e1,d1⟩:=x b o e;obtain⟨o2,e2,d2⟩:=y b o1 e1;exact⟨o2,e2,d2.trans d1⟩
def CkF(f:Obj->Obj):Prop:=∀o,vd (f o)=vd o/\(o.isFreed=false->(f o).isFreed=false)
theorem CK.upd{h:Heap}{a:Addr}{f:Obj->Obj}(hf:CkF f):CK h (h.update a f):=fun b o e=>by
 by_cases z:a=b
 ·subst z;exact⟨_,M7 f e ((hf o).2 (Heap.get?_some_iff.mp e).2),(hf o).1⟩
 ·exact⟨o,(Ng h f z).trans e,rfl⟩
theorem CZ{i:Nat}(hi:i≠2)(x:Value):CkF (Obj.mapFields (·.setIfInBounds i x)):=fun o=>by
 obtain⟨c,d,dt,s⟩:=o;cases dt with
 |fields vs=>refine⟨?_,fun z=>by first | exact z | rfl⟩;show (vs.setIfInBounds i x)[2]?=vs[2]?;exact Array.getElem?_setIfInBounds_ne hi
 |_=>exact⟨rfl,fun z=>by first | exact z | rfl⟩
def Ckt{α:Type}:Sem α->Prop
 |.pure _=>True
 |.raise _=>True
 |.unsupported _=>True
 |.finish _=>True
 |.rule _ k=>Ckt (k ())
 |.at _ k=>Ckt (k ())
 |.load _ _ k=>∀o,Ckt (k o)
 |.update _ _ f k=>CkF f/\Ckt (k ())
 |.loadIfAlive _ k=>∀o,Ckt (k o)
 |.point _ k=>Ckt (k ())
 |.register _ _=>True
 |.alloc _ k=>∀a,Ckt (k a)
 |.fresh k=>∀t,Ckt (k t)
 |.ask k=>∀t,Ckt (k t)
 |.choose _ _ _=>False
 |.os _ _ _=>False
 |.call _ _ _ _ _=>False
 |.handled _ k=>∀t,Ckt (k t)
 |.genState _ _=>False
 |.newGen _ _=>False
 |.resume _ _ _ _=>False
 |.yield _ _ _ _=>True
 |.stack k=>∀t,Ckt (k t)
 |.fork _ _=>True
 |.thread k=>∀t,Ckt (k t)
 |.await _ _ _ _ _=>True
theorem Ckt.bind'{α β:Type}{f:α->Sem β}(hf:∀a,Ckt (f a)){m:Sem α}(h:Ckt m):Ckt (m.bind f):=by
 induction m with
 |pure a=>exact hf a
 |raise e=>trivial
 |unsupported w=>trivial
 |finish e=>trivial
 |rule t k ih=>exact ih () h
 |«at» p k ih=>exact ih () h
 |load a p k ih=>exact fun o=>ih o (h o)
 |update a p g k ih=>exact⟨h.1,ih () h.2⟩
 |loadIfAlive a k ih=>exact fun o=>ih o (h o)
 |point l k ih=>exact ih () h
 |register a k ih=>trivial
 |alloc o k ih=>exact fun o=>ih o (h o)
 |fresh k ih=>exact fun o=>ih o (h o)
 |ask k ih=>exact fun o=>ih o (h o)
 |handled o k ih=>exact fun o=>ih o (h o)
 |yield v g l k ih=>trivial
 |stack k ih=>exact fun o=>ih o (h o)
 |fork c k ih=>trivial
 |thread k ih=>exact fun o=>ih o (h o)
 |await a t d l k ih=>trivial
 |choose s n k ih=>exact h.elim
 |os q l k ih=>exact h.elim
 |call c h' g l k ih=>exact h.elim
 |genState g k ih=>exact h.elim
 |newGen c k ih=>exact h.elim
 |resume g r l k ih=>exact h.elim
theorem Ckt.bind{α β:Type}{f:α->Sem β}{m:Sem α}(h:Ckt m)(hf:∀a,Ckt (f a)):Ckt (m >>= f):=Ckt.bind' hf h
theorem Ckt.keep{α:Type}{M:Model}{Γ:Ctx}{Q:α->Pos->Shared->Prop}{E:Value->Pos->Shared->Prop}{h0:Heap}{t:Sem α}{p:Pos}{s:Shared}(h:Ckt t)(d:CK h0 s.heap)(w:wp M Γ t Q E p s):wp M Γ t (fun a p s'=>Q a p s'/\CK h0 s'.heap) E p s:=by
 induction t generalizing p s with
 |pure a=>exact⟨w,d⟩
 |raise e=>exact w
 |unsupported w'=>exact w
 |finish e=>exact w
 |rule t k ih=>exact ih () h d w
 |«at» p' k ih=>exact ih () h d w
 |load a p' k ih=>obtain⟨o,e,w⟩:=w;exact⟨o,e,ih o (h o) d w⟩
 |update a p' g k ih=>exact⟨w.1,ih () h.2 (d.trans (CK.upd h.1)) w.2⟩
 |loadIfAlive a k ih=>exact ih _ (h _) d w
 |point l k ih=>exact ih () h d w
 |register a k ih=>exact w
 |alloc o k ih=>exact ih _ (h _) (d.trans fun b o' e=>⟨o',Mf _ e,rfl⟩) w
 |fresh k ih=>exact ih _ (h _) d w
 |ask k ih=>exact ih _ (h _) d w
 |handled o k ih=>exact ih _ (h _) d w
 |yield v g l k ih=>exact w
 |stack k ih=>exact ih _ (h _) d w
 |fork c k ih=>exact w
 |thread k ih=>exact ih _ (h _) d w
 |await a t d l k ih=>exact w
 |choose s' n k ih=>exact h.elim
 |os q l k ih=>exact h.elim
 |call c h' g l k ih=>exact h.elim
 |genState g k ih=>exact h.elim
 |newGen c k ih=>exact h.elim
 |resume g r l k ih=>exact h.elim
theorem gK{α:Type}{M:Model}{A:Around}{t:Sem α}{Q:α->Shared->Prop}{E:Value->Shared->Prop}{s:Shared}(h:Ckt t)(w:wpAny M A t Q E s):wpAny M A t (fun a s'=>Q a s'/\CK s.heap s'.heap) E s:=
 fun Γ p hΓ=>Ckt.keep h (CK.refl _) (w Γ p hΓ)
theorem ia(v:Value)(i:Nat):Ckt (field v i):=by
 unfold field fieldsOf;refine Ckt.bind ?_ fun a=>by split<;>trivial
 split
 ·refine Ckt.bind (fun o=>trivial) fun o=>?_;split<;>trivial
 ·trivial
theorem qJ(v:Value)(i:Nat)(hi:i≠2)(x:Value):Ckt (setField v i x):=by
 unfold setField updateField;split
 ·refine Ckt.bind (fun o=>trivial) fun o=>?_;split
  ·split
   ·exact⟨CZ hi _,trivial⟩
   ·trivial
  ·trivial
 ·trivial
theorem iP(e:Value)(f:Option Addr):Ckt (setFlight e f):=by
 unfold setFlight;refine Ckt.bind (ia _ _) fun tb=>?_;split
 ·exact qJ _ _ (by decide) _
 ·trivial
theorem Aa:Ckt frameEnvs:=by unfold frameEnvs;exact Ckt.bind (fun t=>trivial) fun t=>trivial
theorem Ab(env:Env)(i:Bool)(l:List Env):Ckt (keptBack env i l):=by
 unfold keptBack;split
 ·split
  ·trivial
  ·refine Ckt.bind ?_ fun b=>trivial;unfold underTheClaimsCaller
   first | exact Ckt.bind (fun t=>trivial) fun t=>trivial | (intro t;trivial) | trivial
 ·trivial
theorem C0(env:Env)(l:List Env):Ckt (behindIsImport env l):=by
 unfold behindIsImport;split
 ·trivial
 ·split
  ·trivial
  ·exact Ckt.bind (ia _ _) fun b=>trivial
theorem pN:∀l:List Env,Ckt (readyFrames l)
 |[]=>trivial
 |env::outer=>by
  unfold readyFrames;split
  ·refine Ckt.bind (fun o=>trivial) fun o=>?_;split
   ·trivial
   ·refine Ckt.bind (C0 _ _) fun i=>Ckt.bind (Ab _ _ _) fun b=>Ckt.bind ⟨fun o=>⟨rfl,fun z=>by obtain⟨oc,od,odt,os⟩:=o;cases odt<;>first | rfl | exact z⟩,trivial⟩ fun _=>pN outer
  ·trivial
theorem ya(env:Env):Ckt (frameOf env):=by
 unfold frameOf;refine Ckt.bind Aa fun es=>Ckt.bind ?_ fun o=>?_
 ·unfold frameObject;split
  ·trivial
  ·exact Ckt.bind (pN _) fun _=>trivial
 ·split<;>trivial
theorem yb(f:Addr)(b:Bool):Ckt (entryPlaceOf f b):=by unfold entryPlaceOf;refine Ckt.bind (fun t=>trivial) fun t=>?_;split<;>trivial
theorem yc(next frame lineno flight lasti:Value)(pl:List Value):Ckt (N8 next frame lineno flight lasti pl):=by
 unfold N8 newFields newObj newObjAsIs;dsimp only
 generalize ([next,frame,lineno,flight,lasti]++(if pl.isEmpty=true then gV 6 OL else pl)).toArray=vs
 split
 ·trivial
 ·exact fun a=>trivial
theorem sJ(e:Value)(env:Env):Ckt (noteFrame e env):=by
 unfold noteFrame;split
 ·refine Ckt.bind (ia _ _) fun head=>?_;have JI:∀f:Addr,Ckt (do setField e 1 (<- N8 head (<- frameOf env) .none (rawInt f) .none (<- entryPlaceOf f (head != .none)))):=fun f=>Ckt.bind (ya _) fun a=>Ckt.bind (yb _ _) fun pl=>Ckt.bind (yc ..) fun b=>qJ _ _ (by decide) _;split
  ·refine Ckt.bind (ia _ _) fun x=>?_;split
   ·trivial
   ·exact Ckt.bind (qJ _ _ (by decide) _) fun _=>JI _
  ·exact JI _
 ·trivial
theorem kT(env:Env)(e:Value):Ckt (leaving env e):=by unfold leaving;exact Ckt.bind (sJ _ _) fun _=>iP _ _
open PyProof.Rows
section
variable{P:Program}{w:World}{A:Around}{E:Value->Shared->Prop}{s:Shared}
def Fld(h:Heap)(a:Addr)(i:Nat)(x:Value):Prop:=∃o vs,h.get? a=some o/\o.data=.fields vs/\vs[i]?=some x
theorem oV:entryFor table "proto.unchain" = some Builtin.«proto.unchain»:=entryFor_of_tree (by kernel_rfl)
theorem Ac{e b:Addr}{Q:Value->Shared->Prop}(h:Fld s.heap b 2 .none)(q:Q .none s) :
  wpAny (model P w) A (runValue (.builtin "proto.unchain" ⟨[.ref e,.ref b,.ref b,.bool false],[]⟩)) Q E s:=by
 obtain⟨o,vs,h1,h2,h3⟩:=h;refine runValue_entry oV ?_;unfold Builtin.«proto.unchain»;dsimp only;refine wpAny_bind (wpAny_field h1 h2 h3 ?_);exact wpAny_pure ⟨_,rfl,q⟩
theorem Ad{α:Type}{a b:Addr}{o:Obj}{vs:Array Value}{Q:α->Shared->Prop}(hh:A.handled=some (.ref b))(ne:b≠a)(ha:s.heap.get? a=some o)(hd:o.data=.fields vs)(hi:2<vs.size)(hb:Fld s.heap b 2 .none)
  (k:E (.ref a) { s with heap:=s.heap.update a (Obj.mapFields (·.setIfInBounds 2 (.ref b))) }):wpAny (model P w) A (raiseNew (.ref a):Sem α) Q E s:=by
 unfold raiseNew;refine wpAny_bind (wpAny_handled ?_);rw[hh];dsimp only;have nq:((MP b:Value) != MP a)=true:=by simp[bne,ne]
 rw[if_pos nq];refine wpAny_bind (wpAny_holding (Ac hb ?_));refine wpAny_bind (m:=updateField a 2 (.ref b)) ?_;exact wpAny_setField (M:=model P w) ha hd hi (wpAny_throw k)
end
section
variable{P:Program}{w:World}{A:Around}{E:Value->Shared->Prop}{s:Shared}
noncomputable abbrev GB(h h':Heap):Prop:=∀b o,h.get? b=some o->h'.get? b=some o
theorem Ae{Q:Value->Shared->Prop}(k:∀h' a o vs,GB s.heap h'->s.heap.get? a=none->h'.get? a=some o->o.cls=.type "StopIteration" -> o.data=.fields vs->2<vs.size->Q (.ref a) { s with heap:=h' }) :
  wpAny (model P w) A (newExc (.type "StopIteration") []) Q E s:=by
 unfold newExc newTuple;refine wpAny_bind (wpAny_newObj_type ?_ (by size_fits));have f0:firstArgMember (.type "StopIteration") []=(pure .none:Sem Value):=by first | rfl | (simp only[firstArgMember];rfl)
 rw[f0];refine wpAny_bind (wpAny_pure (wpAny_newObj_type (k _ _ _ _ (fun b o e=>?_) ?_ (MG _ rfl) rfl rfl ?_) (by size_fits)))
 ·exact Mf _ (Mf _ e)
 ·exact NX (by simp)
 ·show 2<Array.size (_++_);rw[Array.size_append];exact Ms (by decide:2<6) (Nat.le_add_right _ _)
theorem qK{it b:Addr}{x left step:Int}{Q:Option Value->Shared->Prop}(hh:A.handled=some (.ref b))(hb:Fld s.heap b 2 .none)(G3:IsRangeIter s.heap it x left step)(hl:left<=0)
  (k:∀h',GB s.heap h'->Q none { s with heap:=h' }):wpAny (model P w) A (pyNext (.ref it)) Q E s:=by
 have ty:s.TypeIs (.ref it) "range_iterator" := ⟨_,G3,rfl⟩
 have body:∀{A':Around} {E':Value->Shared->Prop} {Q':Fin->Shared->Prop},A'.handled=some (.ref b)->(∀a h' o,GB s.heap h'->h'.get? a=some o->o.cls=.type "StopIteration" -> E' (.ref a) { s with heap:=h' })->wpAny (model P w) A' (Builtin.«range_iterator.__next__» ⟨[.ref it],[]⟩) Q' E' s:=fun {A' E' Q'} h1 h2=>by
  unfold Builtin.«range_iterator.__next__»;refine wpAny_bind (m:=slotArgs "__next__" 0 _) (wpAny_pure ?_);refine wpAny_bind (wpAny_field G3 rfl (x:=rawInt x) rfl ?_);refine wpAny_bind (wpAny_field G3 rfl (x:=rawInt left) rfl ?_);refine wpAny_bind (wpAny_field G3 rfl (x:=rawInt step) rfl ?_);show wpAny _ _ (if left<=0 then _ else _) _ _ s;rw[if_pos hl];refine wpAny_bind (wpAny_rule (wpAny_bind ?_));show wpAny _ _ (newExc (.type "StopIteration") [] >>= _) _ _ s;refine wpAny_bind (Ae fun h' a o vs st na ha hc hd hv=>?_);obtain⟨ob,bs,b1,b2,b3⟩:=hb;have nb:b≠a:=fun z=>by rw[z,na]at b1;cases b1
  refine Ad h1 nb ha hd hv ⟨ob,bs,st b ob b1,b2,b3⟩ (h2 a _ _ (fun c o' e=>?_) (M7 _ ha ?_) ?_)
  ·exact(Ng _ _ (fun z=>by rw[<- z,na]at e;cases e)).trans (st c o' e)
  ·obtain⟨c,d,dt,sl⟩:=o;cases hd;rfl
  ·obtain⟨c,d,dt,sl⟩:=o;cases hd;exact hc
 unfold pyNext;refine wpAny_bind (wpAny_attempt (wpAny_callSpecial?_slot (name:=Str.ofString "__next__") ty F.slot_range_iterator_next (wpAny_call_entry F.slot_range_iterator_next ty F.entry_range_iterator_next (body hh fun a h' o st ha hc=>?_) (F.args_range_iterator_next_1 _))));refine wpAny_bind (wpAny_isInstance (T := "StopIteration") (b:=true) ⟨_,ha,hc⟩ isSubtype_stop ?_);exact wpAny_pure (k h' st)
end
end PySem
namespace L2
open PySem PySem.Spec PyProof.Rows
def CXE(P:Program)(w:World)(C:Addr):CXT:=fun outer H s E e s'=>
 ∃ea a0 B H',e=.ref ea/\s'.os=s.os/\AllBare s'.gens/\Un (frs outer) [] H H' s.heap s'.heap/\HOk P w H' s'.heap/\NJ B outer ea (.ref C) a0 s'.heap /\
  (∀b o,s'.heap.get? b=some o->(s.heap.get? b).isSome=true\/(H' b).isSome=true->b∉frs outer->B.get? b=some o)/\Fld s'.heap ea 2 .none/\E (.ref C) (some ea) H'
theorem bH.there{P:Program}{w:World}{H:Hp}{h:Heap}{a:Addr}{o:HO}(x:bH P w H h a o):∃u,h.get? a=some u:=by
 cases o with
 |lst xs=>obtain⟨_,_,_,_,e⟩:=x;exact⟨_,e⟩
 |tup xs=>obtain⟨_,_,_,ob,e,_⟩:=x;exact⟨_,e⟩
 |dK kvs=>obtain⟨_,_,_,_,o,_,_,e,_⟩:=x;exact⟨_,e⟩
 |dT kvs ts=>obtain⟨_,_,_,_,o,_,_,e,_⟩:=x;exact⟨_,e⟩
 |set S n=>obtain⟨o,_,_,_,e,_⟩:=x;exact⟨_,e⟩
 |ins C dx fs=>obtain⟨_,_,_,e,_⟩:=x;exact⟨_,e⟩
 |own y=>obtain⟨_,e⟩:=x;exact⟨_,e⟩
 |xd fs=>obtain⟨_,⟨_,_,_,e,_⟩,_⟩:=x;exact⟨_,e⟩
 |rng lo hi=>obtain⟨_,_,_,e⟩:=x;exact⟨_,e⟩
 |frz ob u=>obtain⟨e,_⟩:=x;exact⟨_,e⟩
 |tbl _ _ _=>obtain⟨_,e,_⟩:=x;exact⟨_,e⟩
 |met f y=>exact⟨_,x⟩
 |ext φ=>obtain⟨_,⟨_,e⟩,_⟩:=x;exact⟨_,e⟩
section
variable{X:Cx}{mU:List (Addr×Obj)}{σ:St}{H:Hp}{s:Shared}{x:Str}{C:Addr}{bmB:List Value}{B newId initId:String}{np cpos pos:Pos}
theorem yd{t:St->Hp->Prop}(hc:X.calm=true)(hg:Gl X x)(O:OwnCls x C bmB newId X.mg X.base)(FB:ExcBaseFacts B newId initId bmB)
  (hE:∀mU σ H s h' e,Inv X mU σ H s->t σ H->Heap.MadeExcOf s.heap h' e (.ref C) []->X.xe (.ref e) { s with heap:=h' }) (JF:(x == ("__debug__" : Str))=false:=by decide) :
  PS X (.Raise (some (.Call (.Name x np) [] [] cpos)) none pos) (fun _ σ H=>t σ H):=by
 intro mU s σ H D I h;obtain⟨tl,N,nm,q,bs,hdct,sn,sub,ab,col,dd,k0,k1,k2,k3,k5,mN,hC,hN,hni,T⟩:=O.obj;refine wpAny_Raise_call_subT (C:=C) (nm:=nm) (q:=q) (N:=N) (bs:=bs) (bm:=tl) (hdct:=hdct) (sn:=sn) (sub:=sub) (ab:=ab) (col:=col) (dd:=dd) (k0:=k0) (k1:=k1) (k2:=k2) (k3:=k3) (k5:=k5)
  FB (mN:=mN) (T.hasType FB.hasBase) (I.ok.hd hc) rfl hni (h_ I hg O.bound ⟨rfl,?_⟩ JF)
 exact evalArgs_empty ⟨rfl,MW _,I.bk _ _ hC,hN.keeps I.bk,T.keeps I.bk,fun h' e hm=>hE mU σ H s h' e I h hm⟩
theorem Inv.out(I:Inv X mU σ H s){h'' Bh:Heap}(hx:X.ex=[])(hB:∀b o,s.heap.get? b=some o->b∉frs X.stack->(X.s₀.heap.get? b).isSome=true\/(H b).isSome=true->Bh.get? b=some o)(k1:Bh.StaysIn h'')
  (sl:s.heap.UpToSlots h''):Un X.fs [] X.H₀ H X.s₀.heap h''/\HOk X.prog X.w H h'' /\
   (∀b o,h''.get? b=some o->(X.s₀.heap.get? b).isSome=true\/(H b).isSome=true->b∉X.fs->Bh.get? b=some o):=by
 have nx:∀b:Addr,b∉X.ex:=fun b z=>by rw[hx]at z;cases z
 have neL:∀b o,X.s₀.heap.get? b=some o->b≠X.env.locals:=fun b o e=>MC (Ms (Mi e) I.ok.above);have nst:∀b o,X.s₀.heap.get? b=some o->b∉X.fs->b∉frs X.stack:=fun b o e hb z=>(Mv.mp (I.lU b z)).elim (neL b o e) hb;have frame:∀b,b∈X.fs->∀o,s.heap.get? b=some o->∃sl,h''.get? b=some { o with slots:=sl }:=fun b hb o e=>by obtain⟨_,o',ho',hd⟩:=I.kq.mem hb;rw[e]at ho';cases ho';exact sl b o e hd
 have stay:∀b o,b∉frs X.stack->(X.s₀.heap.get? b).isSome=true\/(H b).isSome=true->s.heap.get? b=some o->h''.get? b=some o:=fun b o hb hh e=>k1 b o (hB b o e hb hh);have tr:∀b u,H b=some u->b∉frs X.stack:=fun b u e z=>by rw[I.qk b z]at e;cases e
 refine⟨⟨fun b o e n hb _=>?_,fun b o e n hb _=>?_,fun b o e n _=>I.base.free b o e n (nx b),fun b o e _=>?_,I.base.tups,I.base.jF,I.base.lT⟩,fun b u e=>?_,fun b o e hh hb=>?_⟩
 ·exact stay b o (nst b o e hb) (.inl (by rw[e];rfl)) (I.base.keep b o e n hb (nx b))
 ·obtain⟨s1,e1⟩:=I.base.slot b o e n hb (nx b);obtain⟨s2,e2⟩:=frame b hb _ e1;exact⟨s2,e2⟩
 ·obtain⟨o1,e1⟩:=I.base.there b o e (nx b);by_cases hb:b∈X.fs
  ·obtain⟨s2,e2⟩:=frame b hb _ e1;exact⟨_,e2⟩
  ·exact⟨o1,stay b o1 (nst b o e hb) (.inl (by rw[e];rfl)) e1⟩
 ·refine(I.hok b u e).stay (fun c v hc q=>?_) (fun _ q=>q) (fun _ _ _ q=>q) fun _ _ q=>q;rcases hc with rfl | hc
  ·exact stay c v (tr c u e) (.inr (by rw[e];rfl)) q
  ·exact stay c v (tr c _ hc) (.inr (by rw[hc];rfl)) q
 ·have:∃o1,s.heap.get? b=some o1:=by
   rcases hh with hh | hh
   ·obtain⟨o0,e0⟩:=MH.mp hh;exact I.base.there b o0 e0 (nx b)
   ·obtain⟨u,e0⟩:=MH.mp hh;exact(I.hok b u e0).there
  obtain⟨o1,e1⟩:=this;have hs:b∉frs X.stack:=by
   rcases hh with hh | hh
   ·obtain⟨o0,e0⟩:=MH.mp hh;exact nst b o0 e0 hb
   ·obtain⟨u,e0⟩:=MH.mp hh;exact tr b u e0
  have e2:=stay b o1 hs hh e1;rw[e]at e2;cases e2;exact hB b o e1 hs hh
end
section
variable{P:Program}{w:World}{K:gc}{mg:Str->Option Value}{base:Heap}{N:List Str}{qual:Str}{scope:Scope}{f:Addr}{cd:Value}{A:Around}{outer:List Env}{s₀:Shared}{H₀:Hp}{E:XK}{C:Addr}
 {mU:List (Addr×Obj)} {σ:St} {H:Hp} {s:Shared}
theorem C1{h h' h'':Heap}(k:∀b o,h.get? b=some o->h'.get? b=some o)(x:h'.UpToSlots h''):h.UpToSlots h'':=(Heap.UpToSlots.of_keeps k).trans x
theorem mK{h h':Heap}{a:Addr}(k:CK h h')(x:Fld h a 2 .none):Fld h' a 2 .none:=by
 obtain⟨o,vs,e1,e2,e3⟩:=x;obtain⟨o',q1,q2⟩:=k a o e1;have q3:vd o'=some .none:=by rw[q2];unfold vd;rw[e2];exact e3
 unfold vd at q3;split at q3
 ·rename_i ws ew;exact⟨o',ws,q1,ew,q3⟩
 ·cases q3
theorem C2(I:Inv (fK (CXE P w C) P w K mg base N qual scope f cd A outer s₀ H₀ E) mU σ H s){h':Heap}{e:Addr}(hx:Heap.MadeExcOf s.heap h' e (.ref C) [])(hE:E (.ref C) (some e) H) :
  (fK (CXE P w C) P w K mg base N qual scope f cd A outer s₀ H₀ E).xe (.ref e) { s with heap:=h' }:=by
 have hin:∀env∈(fK (CXE P w C) P w K mg base N qual scope f cd A outer s₀ H₀ E).stack,∀b,env.frame=some b->b∈frs (fK (CXE P w C) P w K mg base N qual scope f cd A outer s₀ H₀ E).stack:=fun env he b hb=>Ob.mpr ⟨env,he,hb⟩;show wpAny (model P w) _ (leaving _ (.ref e)) _ _ _;have go:=wpAny_leaves_madeW (M:=model P w) (s:={ s with heap:=h' }) (E:=fun _ _=>False) (Q:=fun _ s'=>∃(h'':Heap) (t:Addr),NJ (NW s.heap (frs (fK (CXE P w C) P w K mg base N qual scope f cd A outer s₀ H₀ E).stack)) outer e (.ref C) (.ref t) h''/\h'.UpToSlots h''/\s'={ s with heap:=h'' }) (base:=NW s.heap (frs (fK (CXE P w C) P w K mg base N qual scope f cd A outer s₀ H₀ E).stack)) (h:=s.heap) (L:=s₀.heap.objs.size) I.ok.frames rfl (fun b o q=>PySem.W.of_hideAll _ q) (PySem.W.funFrames_hide I.stack hin) hx fun h'' t fl tup bt sl=>⟨h'',t,fl,sl,rfl⟩;refine wpAny_mono (gK (kT _ _) go) (fun _ s' z=>?_) fun _ _ z=>z.elim;obtain⟨⟨h'',t,fl,sl,rfl⟩,ck⟩:=z;obtain⟨u1,u2,u3⟩:=I.out (h'':=h'') (Bh:=NW s.heap (frs (fK (CXE P w C) P w K mg base N qual scope f cd A outer s₀ H₀ E).stack)) rfl (fun b o q hb _=>PySem.W.hideAll_get _ q hb) fl.1 (C1 hx.keeps sl);obtain⟨t0,ht0,_⟩:=hx.there;exact⟨e,.ref t,_,H,rfl,I.os,I.bare,u1,u2,fl,u3,mK ck ⟨_,_,ht0,rfl,rfl⟩,hE⟩
theorem Jk:Passes (CXE P w C) (fK (CXE P w C) P w K mg base N qual scope f cd A outer s₀ H₀ E) E:=by
 intro mU σ H s e s' I hq;obtain⟨ea,a0,Bh,H',rfl,os,bare,un,hok,fl,hB,hF,hE⟩:=hq;obtain⟨hh,g,d,t,os'⟩:=s';obtain rfl:os'=s.os:=os;have J:=I.call (h':=hh) (g':=g) (d':=d) (t':=t) (ch:=[]) un hok bare (fun b z=>absurd z (by simp));show wpAny (model P w) _ (leaving _ (.ref ea)) _ _ _;have go:=wpAny_leaves_onW (M:=model P w) (E:=fun _ _=>False) (base:=Bh) (L:=s₀.heap.objs.size) (Q:=fun _ s'=>∃h',NJ Bh outer ea (.ref C) a0 h'/\hh.UpToSlots h'/\s'=⟨h',g,d,t,s.os⟩) I.ok.frames rfl fl fun h' f1 f2=>⟨h',f1,f2,rfl⟩;refine wpAny_mono (gK (kT _ _) go) (fun _ s2 z=>?_) fun _ _ z=>z.elim;obtain⟨⟨h'',Jl,sl,rfl⟩,ck⟩:=z;have neL:∀b o,s₀.heap.get? b=some o->∃o1,s.heap.get? b=some o1:=fun b o e=>I.base.there b o e (fun z=>nomatch z);obtain ⟨u1,u2,u3⟩:=J.out (h'':=h'') (Bh:=Bh) rfl (fun b o q hb hh=>hB b o q (hh.imp (fun z=>by obtain⟨o0,e0⟩:=MH.mp z;obtain⟨o1,e1⟩:=neL b o0 e0;rw[e1];rfl) id) hb) Jl.1 sl
 exact⟨ea,a0,Bh,H',rfl,J.os,bare,u1,u2,Jl,u3,mK ck hF,hE⟩
end
section
variable{X:Cx}{st:Stmt}{qU:List Stmt}{t:TS}
noncomputable def DF:Ends:={ nx:=fun _ _=>False,rt:=fun _ _=>False,bk:=fun _ _=>False,ct:=fun _ _=>False }
theorem Af(h1:PS X st t):PSs X (st::qU) (fun _ σ H=>t DF σ H):=by
 intro mU s σ H D I h;refine wpAny_execs_cons (thn (h1 mU s σ H DF I h) fun f s1 q=>?_);cases f with
 |next=>obtain⟨_,_,_,q⟩:=q;exact Mr q
 |ret v=>obtain⟨_,_,_,_,_,q⟩:=q;exact Mr q
 |brk=>obtain⟨_,_,_,q⟩:=q;exact Mr q
 |cont=>obtain⟨_,_,_,q⟩:=q;exact Mr q
end
end L2
namespace Br
open PySem PySem.Spec PyProof.Rows L2
def wI(C:Addr)(X:Cx)(E:L2.St->XK):Prop:=∀(mU:List (Addr×Obj)) (σ:L2.St) (H:Hp) (s:Shared) (e:Value) (s':Shared),Inv X mU σ H s->CXE X.prog X.w C X.stack H s (E σ) e s'->X.xe e s'
def tX(C:Addr)(E:L2.St->XK)(R:Dm.Env->Option Dm.Env)(σ:L2.St)(H:Hp):Prop:=∃H0 ρ ρ',au H0 H σ ρ/\R ρ=some ρ'/\∀a H0' H',ESt σ ρ H0 H ρ' H0' H'->E σ (.ref C) (some a) H'
def spX(C:Addr)(bad:List Dat->Bool):Sp:=fun vs H _ E=>∃H0 ds,aq H0 H/\aM H0 vs ds/\bad ds=true/\∀a H0' H',aN H0 H H0' H'->E (.ref C) (some a) H'
noncomputable abbrev XE(X:Cx)(C:Addr)(E:L2.St->XK)(e:Expr)(R:Dm.Env->Option Dm.Env):Prop:=PE X e (fun σ H _=>tX C E R σ H)
noncomputable abbrev XS(X:Cx)(C:Addr)(E:L2.St->XK)(st:Stmt)(R:Dm.Env->Option Dm.Env):Prop:=PS X st (fun _ σ H=>tX C E R σ H)
section
variable{X:Cx}{C:Addr}{E:L2.St->XK}{k:Nat}{F:Addr}{fd:FuncData}{ps:List Str}{x:Str}{p pos:Pos}{e:Expr}{es:List Expr}{fs:List FE}{bad:List Dat->Bool}{R S:Dm.Env->Option Dm.Env}
theorem C3{mU:List (Addr×Obj)}{σ:L2.St}{H:Hp}{s:Shared}{Q:VK}{us:List Value}{vs:List V}(G:aP X.prog X.w X.K X.mg X.base (CXE X.prog X.w C) k F fd ps (spX C bad))(hr:bM k X.A)(hb:Binds X.K fd ps [])(hx:wI C X E)
  (I:Inv X mU σ H s) (r:Vals vs us) (h:spX C bad vs H Q (E σ)):wpAny (model X.prog X.w) X.A (call (.ref F) us) (EP X mU σ Q) X.xe s:=by
 have hl:(us++[]).length=ps.length:=by rw[MN,<- r.length];exact G.len _ _ _ _ h
 have hb':=hb s us I.kIn hl;rw[MN]at hb';refine wpAny_call (codeAny_mono (G.run X.A X.stack s H ⟨us,[]⟩ us vs Q (E σ) hr I.FL hb' r h) fun r s' hq=>?_);cases r with
 |error e=>exact hx mU σ H s e s' I hq
 |ok fl=>
  cases fl with
  |ret u=>exact I.after hq
  |next=>exact Mr hq
  |brk=>exact Mr hq
  |cont=>exact Mr hq
theorem C4{σ:L2.St}{H:Hp}(h:tX C E (Dm.cu bad fs) σ H)(Q:VK):tDA fs σ H fun vs H1=>spX C bad vs H1 Q (E σ):=by
 obtain⟨H0,ρ,ρ',st,hR,k⟩:=h;unfold Dm.cu at hR;split at hR
 ·cases hR
 rename_i xs ρ1 e1;split at hR
 ·cases hR
 rename_i ds p1;split at hR
 case isFalse=>cases hR
 rename_i hbad;cases hR;refine⟨H0,ρ,xs,ρ',st,e1,fun vs H1 Hb t1 r1=>?_⟩;obtain⟨ρ2,e2⟩:=iK p1;obtain⟨H2,t2,b2,r2⟩:=takes t1 (aq.refl _) r1 e2;exact⟨H2,ds,t2.st.same,r2,hbad,fun a H0' H' g=>k a H1 H' (t1.trans (.grow t1.st ⟨aq.refl _,g.s1,fun a o q=>.inr q,t1.st.same.trans g.s1⟩))⟩
theorem x_call(G:aP X.prog X.w X.K X.mg X.base (CXE X.prog X.w C) k F fd ps (spX C bad))(hr:bM k X.A)(hg:Gl X x)(hm:X.mg x=some (.ref F))(hk:MZ X.K (.ref F)=true)(hb:Binds X.K fd ps [])(hx:wI C X E)
  (ha:DA X (e::es) fs) (JF:(x == ("__debug__" : Str))=false:=by decide) (he:starEach (e::es) X.env=(false,eval e X.env)::starEach es X.env:=by rfl) (En:(backTo pos (starEach es X.env)).any (·.1)=false:=by rfl) :
  XE X C E (.Call (.Name x p) (e::es) [] pos) (Dm.cu bad fs):=by
 intro mU s σ H Q I h;refine wpAny_Call_Name_kw (h_ I hg hm ?_ JF);refine Od (h₀:=X.base) I.ok.mod.kin hk (thn (ha pos mU s σ H _ I (C4 h Q)) fun us s1 ⟨vs,H1,I1,r,q⟩=>⟨I1.kIn,?_⟩) he En;exact C3 G hr hb hx I1 r q
theorem mL(h:XE X C E e R)(hs:swapsWith e none pos.line X.env=pure false:=by rfl):XS X C E (.Expr e pos) R:=PS.weak (lJ h hs) fun _ _ _ q=>q
theorem Jm(h:XE X C E e R):XS X C E (.Return (some e) pos) R:=PS.weak (qo h) fun _ _ _ q=>q
theorem x_a(i:Nat){x:Str}{pos':Pos}(hN:X.N.Nodup)(he:XE X C E e R)(hi:X.N[i]?=some x:=by rfl)(hx:Loc X.env.scope x:=by trivial)(hs:swapsWith e (some (.Name x pos')) pos.line X.env=pure false:=by rfl)
  (hf:X.fn x=true\/X.env.scope.names.lookup x=some .local:=by trivial):XS X C E (.Assign [.Name x pos'] e pos) R:=PS.weak (lX hN hi hx he hs hf) fun _ _ _ q=>q
end
section
variable{P:Program}{w:World}{K:gc}{mg:Str->Option Value}{base:Heap}{N:List Str}{qual:Str}{scope:Scope}{f:Addr}{cd:Value}{A:Around}{outer:List Env}{s₀:Shared}{H₀:Hp}{E:XK}{C:Addr}
theorem mQ:wI C (fK (CXE P w C) P w K mg base N qual scope f cd A outer s₀ H₀ E) (fun _=>E):=fun mU σ H s e s' I q=>Jk mU σ H s e s' I q
theorem x_raise{x:Str}{bmB:List Value}{B newId initId:String}{np cpos pos:Pos}(O:OwnCls x C bmB newId mg base)(FB:ExcBaseFacts B newId initId bmB)(hg:Gl (fK (CXE P w C) P w K mg base N qual scope f cd A outer s₀ H₀ E) x)(JF:(x == ("__debug__" : Str))=false:=by decide) :
  XS (fK (CXE P w C) P w K mg base N qual scope f cd A outer s₀ H₀ E) C (fun _=>E) (.Raise (some (.Call (.Name x np) [] [] cpos)) none pos) Dm.CY:=
 yd rfl hg O FB (fun mU σ H s h' e I ⟨H0,ρ,ρ',st,hR,k⟩ hm=>C2 I hm (k e _ _ (by cases hR;exact ESt.refl st))) JF
end
theorem wJ{C:Addr}{n m:Nat}{R:Dm.Env->Option Dm.Env}{vs:List V}{H:Hp}{Q:VK}{E:XK}(h:spX C (Dm.fnX n m R) vs H Q E):vs.length=n:=by obtain⟨H0,ds,s,rs,e,k⟩:=h;unfold Dm.fnX at e;rw[Mw,decide_eq_true_eq]at e;rw[rs.length];exact e.1
theorem Ag{N:List Str}{n m:Nat}{vs:List V}{H0 H:Hp}{ds:List Dat}(hm:N.length=n+m)(hvn:vs.length=n)(s:aq H0 H)(rs:aM H0 vs ds) :
  au H0 H (start N vs) (ds.map Dm.Cell.sh++gV m .un)/\∀a,¬ao (start N vs) (ds.map Dm.Cell.sh++gV m .un) a:=by
 have hl:=rs.length;refine ⟨?_,fun a ⟨i,d,h1,_⟩=>by
  by_cases hi:i<ds.length
  ·rw[HT (by simpa using hi),Mq]at h1;cases q:ds[i]? with
   |none=>rw[q]at h1;cases h1
   |some y=>rw[q]at h1;cases h1
  ·rw[Mp (by simpa using hi),My]at h1;split at h1<;>cases h1⟩
 refine⟨s,?_,fun i d h=>?_,fun i d h=>?_,fun i j d e a h1 h2 _ _=>?_⟩
 ·unfold L2.start;simp only[Mt,Mg,M0]
  lia
 ·have hi:i<ds.length:=by
   by_cases hi:i<ds.length
   ·exact hi
   ·rw[Mp (by simpa using hi),My]at h;split at h<;>cases h
  rw[HT (by simpa using hi),Mq]at h;cases q:ds[i]? with
  |none=>rw[q]at h;cases h
  |some y=>rw[q]at h;cases h;obtain⟨v,hv,r⟩:=rs.get q;refine⟨v,?_,r⟩;unfold L2.start;rw[HT (by simpa [hl] using hi),Mq,hv];rfl
 ·by_cases hi:i<ds.length
  ·rw[HT (by simpa using hi),Mq]at h;cases q:ds[i]? with
   |none=>rw[q]at h;cases h
   |some y=>rw[q]at h;cases h
  ·rw[Mp (by simpa using hi),My]at h;split at h<;>cases h
 ·by_cases hi:i<ds.length
  ·rw[HT (by simpa using hi),Mq]at h1;cases q:ds[i]? with
   |none=>rw[q]at h1;cases h1
   |some y=>rw[q]at h1;cases h1
  ·rw[Mp (by simpa using hi),My]at h1;split at h1<;>cases h1
end Br
namespace PySem.W
open PySem PySem.Spec PySem.Calls PyProof.Rows
structure iQ(K:Frag)(C:Addr):Prop where
 ga:findIn K (.ref C) "__getattribute__" = some (some (.builtin "BaseException.__getattribute__"))
 gn:findIn K (.ref C) "__getattr__" = some none
 cl:findIn K (.ref C) "__class__" = some (some (.builtin "object.__class__"))
 mB:mroIn K C (.type "BaseException")=some true
 mO:mroIn K C (.type "object")=some true
def oW(x C:Addr)(h:Heap):Prop:=∃ox,h.get? x=some ox/\ox.cls=.ref C
theorem ic{x C:Addr}{M:Model}{h:Heap}(p:oW x C h):Looks M h (typeOf (.ref x)) (.ref C):=by obtain⟨o,h1,h2⟩:=p;exact h2▸(Looks.ld h1).andThen .now
section
variable{prog:Program}{w:World}{A:Around}{K:Frag}{x C:Addr}{s:Shared}{R:Result->Shared->Prop}
theorem ve{tp:Value}(X:K.In s.heap)(I:oW x C s.heap)(hm:mroIn K C (.type "object")=some true)
  (h:R (.ok (.ret (.ref C))) s):codeAny (model prog w) A (.call (.builtin "getset_descriptor.__get__") ⟨[.builtin "object.__class__",.ref x,tp],[]⟩) R s:=by
 obtain⟨hh,g,dr,t,os⟩:=s;have L0:=ic (M:=model prog w) I;have L1:=looks_mroIn (M:=model prog w) X hm;refine codeAny_call_builtin KF.slot_gs.plain KF.entry_gs (KF.slot_gs.check _ _ _ _ _ _ _ _ KF.type_class (KF.args_gs _ _ _) ?_);unfold Builtin.«getset_descriptor.__get__» Builtin.Getset_descriptor.descrGet;rw[dga_obj];refine wpAny_bind (wpAny_pure ?_);unfold Builtin.Getset_descriptor.descrGetter Builtin.Getset_descriptor.descrCheckInstance Builtin.Getset_descriptor.descrNameAndClass isInstance;simp only[KF.owner_class]
 repeat lk
 refine⟨Code.quiet_builtin _ (by decide +kernel),codeAny_builtin KF.entry_class ?_⟩;unfold Builtin.«object.__class__» shownTypeOf
 repeat lk
 exact h
end
section
variable{prog:Program}{w:World}{A:Around}{E:Value->Shared->Prop}{K:Frag}{x C:Addr}{ox:Obj}{h:Heap}{g:Array GenState}{d:Drawn}{t:Nat}{os:OsState}
theorem Ah{M:Model}{nameV:Value}{Q:Unit->Shared->Prop}(Z:iQ K C)(X:K.In h)(I:oW x C h)(hq:Q () ⟨h,g,d,t,os⟩):wpAny M A (checkBuiltinCall "BaseException.__getattribute__" ⟨[.ref x,nameV],[]⟩) Q E ⟨h,g,d,t,os⟩:=by
 have hk:builtinKind "BaseException.__getattribute__" = some .slot:=by decide +kernel
 have hsplit:splitId "BaseException.__getattribute__" = some ("BaseException","__getattribute__"):=by decide +kernel
 have L0:=ic (M:=M) I;have L1:=looks_mroIn (M:=M) X Z.mB;have LI:Looks M h (isInstance (.ref x) (.type "BaseException")) true:=L0.andThen L1;have ha:=PySem.F.args_bexc_ga (.ref x) nameV;simp only[checkBuiltinCall,hk,hsplit];refine wpAny_bind (LI.at ?_)
 repeat (first | assumption | wp_step)
theorem Ai{tk:Tok}{Q:Fin->Shared->Prop}(Z:iQ K C)(X:K.In h)(I:oW x C h)(hq:Q (.done (.ret (.ref C))) ⟨h,g,d,t,os⟩) :
  wpAny (model prog w) A (Builtin.«object.__getattribute__» ⟨[.ref x,.str "__class__" tk],[]⟩) Q E ⟨h,g,d,t,os⟩:=by
 have hT5:(⟨h,g,d,t,os⟩:Shared).TypeIs (.builtin "object.__class__") "getset_descriptor" := F.typeOf_object_class;have f5:=F.typeOf_object_class;have f6:=F.slot_gs_get.lookup;have f7:=F.slot_gs_set.lookup;have L0:=ic (M:=model prog w) I;have L1:=looks_findIn (M:=model prog w) X Z.cl
 repeat (any_goals (first | assumption | with_reducible refine L0.at ?_ | with_reducible refine L1.at ?_ | wp_step))
 refine ve X I Z.mO ?_
 repeat (any_goals (first | assumption | wp_step))
theorem C5{tk:Tok}{R:Result->Shared->Prop}(Z:iQ K C)(X:K.In h)(I:oW x C h)(hq:R (.ok (.ret (.ref C))) ⟨h,g,d,t,os⟩) :
  codeAny (model prog w) A (.call (.builtin "BaseException.__getattribute__") ⟨[.ref x,.str "__class__" tk],[]⟩) R ⟨h,g,d,t,os⟩:=
 codeAny_call_builtin PySem.F.excAttr_ValueError.ga.plain PySem.F.entry_bexc_ga (Ah Z X I (Ai Z X I hq))
theorem Jo{tk:Tok}{Q:Value->Shared->Prop}(Z:iQ K C)(X:K.In h)(I:oW x C h)(hq:Q (.ref C) ⟨h,g,d,t,os⟩) :
  wpAny (model prog w) A (getAttrBy (.ref x) (.str "__class__" tk) false) Q E ⟨h,g,d,t,os⟩:=by
 have f3:=PySem.F.excAttr_ValueError.ga.bind (.ref x);have hx2:(Oh "BaseException.__getattribute__" == Oh "object.__getattribute__")=false:=by decide +kernel
 have hx1:(onTheHeap (MP C)&&Oh "BaseException.__getattribute__" == Oh "object.__getattribute__")=false:=by rw[hx2];rfl
 have L0:=ic (M:=model prog w) I;have L1:=looks_findIn (M:=model prog w) X Z.ga;have L2:=looks_findIn (M:=model prog w) X Z.gn
 repeat (any_goals (first | assumption | with_reducible refine L0.at ?_ | with_reducible refine L1.at ?_ | with_reducible refine L2.at ?_ | wp_step))
 refine C5 Z X I ?_
 repeat (any_goals (first | assumption | wp_step))
theorem C6{s:Shared}{Q:Option Value->Shared->Prop}(Z:iQ K C)(X:K.In s.heap)(I:oW x C s.heap)(hq:Q (some (.ref C)) { s with toks:=s.toks+1 }):wpAny (model prog w) A (getAttr? (.ref x) "__class__") Q E s:=by
 obtain⟨h,g,d,t,os⟩:=s;unfold getAttr? getAttrBy?
 repeat (any_goals (first | assumption | with_reducible apply Jo Z X I | wp_step))
theorem sL(Z:iQ K C)(hc:(clsIn K C).isSome=true):KitX K (.ref x) (.ref C) (oW x C) where
 ty:=fun _ _ _ I=>ic I
 it:=fun _ _ X _=>by
  unfold clsIn at hc;split at hc
  ·rename_i c' d' cd' sl' ho;intro A' Q' E' s' k q;unfold isType loadHead;exact wpAny_bind (wpAny_loadPart (k _ _ (X _ _ ho)) (wpAny_pure q))
  ·cases hc
 ne:=fun h tp dd its n sl X htp=>by
  refine Bool.eq_false_iff.mpr fun q=>?_;have e:C=tp:=MP.inj (beq_iff_eq.mp q);subst e;unfold clsIn at hc;split at hc
  ·rename_i c' d' cd' sl' ho;have z:=(X _ _ ho).symm.trans htp;cases z
  ·cases hc
 ca:=fun X I k=>C6 Z X I k
end
end PySem.W
namespace PySem
theorem kU{α:Type}(p:α->Bool):∀(l:List α) (i:Nat) (x:α),l[i]?=some x->p x=false->(l.eraseIdx i).find? p=l.find? p
 |[],i,x,h,_=>by simp at h
 |y::l,0,x,h,hp=>by simp only[NP,Option.some.injEq]at h;subst h;rw[List.eraseIdx_cons_zero,OB,hp]
 |y::l,i+1,x,h,hp=>by rw[List.eraseIdx_cons_succ,OB,OB,kU p l i x (by simpa using h) hp]
theorem oX{es:Array DictEntry}{i:Nat}{name y:Str}(hi:es.findIdx? (·.key.isStr name)=some i)(hy:y≠name):nsFind (es.eraseIdxIfInBounds i) y=nsFind es y:=by
 obtain⟨JZ,hp,_⟩:=Array.findIdx?_eq_some_iff_getElem.mp hi;have hq:(es[i]).key.isStr y=false:=by
  cases hk:(es[i]).key with
  |str z t=>rw[hk]at hp;simp only[OR,beq_iff_eq]at hp;simp only[OR,beq_eq_false_iff_ne];intro e;exact hy (e.symm.trans hp)
  |_=>rw[hk]at hp;simp[OR]at hp
 have h2:(es.eraseIdxIfInBounds i).toList=es.toList.eraseIdx i:=by unfold Array.eraseIdxIfInBounds;rw[dif_pos JZ,Array.toList_eraseIdx]
 unfold nsFind findBy;rw[<- Oc,<- Oc,h2,kU _ _ i es[i] (by rw[Array.getElem?_toList,Array.getElem?_eq_getElem JZ]) hq]
section
variable{M:Model}{A:Around}{E:Value->Shared->Prop}{s:Shared}{env:Env}
theorem qL{a:Addr}{m}{name:Str}{Q:Bool->Shared->Prop}(hn:s.heap.Ns a m)
  (hQ:∀h' m',h'.Ns a m'->(∀y,y≠name->m' y=m y)->NY a s.heap h'->Q (m name).isSome { s with heap:=h' }):wpAny M A (nsDel a name) Q E s:=by
 obtain⟨o,es,ep,ho,hd,hk,hm⟩:=id hn;have hany:es.any (·.refKey)=false:=by rw[Array.any_eq_false'];intro e he;obtain⟨n,t,h⟩:=hk e he;simp[DictEntry.refKey,h]
 have hsome:(m name).isSome=es.any (·.key.isStr name):=by
  rw[<- hm name];simp only[nsFind,findBy,Option.isSome_map];rw[Oz];simp only[Array.find?_isSome,Array.any_eq_true];constructor
  ·rintro⟨x,hx,hp⟩;obtain⟨i,hi,rfl⟩:=Array.mem_iff_getElem.mp hx;exact⟨i,hi,hp⟩
  ·rintro⟨i,hi,hp⟩;exact⟨_,Array.getElem_mem hi,hp⟩
 have hhas:nsHas name o=pure (es.any (·.key.isStr name)):=by
  rw[nsHas_eq];unfold nsHasByArray;rw[hd];show (if (es.any fun x=>x.key.isStr name)=true then _ else _)=_
  generalize (es.any fun x=>x.key.isStr name)=b
  cases b<;>simp[hany]
 unfold nsDel;refine wpAny_bind (wpAny_loadPart ho ?_);rw[hhas];refine wpAny_bind (wpAny_pure ?_);rw[<- hsome];cases hmn:(m name).isSome
 ·have:=hQ s.heap m hn (fun _ _=>rfl) (.refl ..);rw[hmn]at this;exact wpAny_pure this
 ·refine wpAny_bind (wpAny_updatePart ho (wpAny_pure ?_));have key:∃m',(s.heap.update a (Obj.dropName name)).Ns a m'/\∀y,y≠name->m' y=m y:=by
   obtain⟨cl,d,dt,sl⟩:=o;subst hd;cases hi:es.findIdx? (·.key.isStr name) with
   |some i=>exact⟨nsFind (es.eraseIdxIfInBounds i),⟨_,_,ep+1,M7 _ ho (by simp only[N5,ND,hi]<;>rfl),(by simp only[N5,ND,hi]<;>rfl),hk.erase i,fun _=>rfl⟩,fun y hy=>by rw[oX hi hy,hm]⟩
   |none=>exact⟨nsFind es,⟨_,_,ep,M7 _ ho (by simp only[N5,ND,hi]<;>rfl),(by simp only[N5,ND,hi]<;>rfl),hk,fun _=>rfl⟩,fun y _=>hm y⟩
  obtain⟨m',hm',hy⟩:=key;have:=hQ _ m' hm' hy (NY.update ..);rw[hmn]at this;exact this
theorem lD{n:Str}{pos:Pos}{m:Str->Option Value}{Q:Unit->Shared->Prop}(hl:env.kindOf n=some .local)(hn:s.heap.Ns env.locals m)
  (hp:(env.scope.kind == .class||(env.scope.kind == .module&&env.locals != env.globals))=false)
  (h:∀h' m',h'.Ns env.locals m'->(∀y,y≠n->m' y=m y)->NY env.locals s.heap h'->Q () { s with heap:=h',toks:=s.toks+1 }) :
  wpAny M A (do bindName env n .none;unbindBehindTheSuite env n pos) Q E s:=by
 refine wpAny_bind (wpAny_bindName (wpAny_storeName_local hl hn (fun h₁ hn₁ hs₁=>?_) hp));unfold unbindBehindTheSuite;refine wpAny_onRaise ?_;unfold unbindName;refine wpAny_bind (wpAny_point (wpAny_bind ?_));unfold deleteName;simp only[hl,hp];rw[if_neg (by decide)];refine wpAny_bind (qL hn₁ fun h₂ m₂ hn₂ hy hs₂=>?_);simp only[if_true,Option.isSome_some,Bool.not_true,Oe,if_false];exact wpAny_pure (wpAny_point (h h₂ m₂ hn₂ (fun y hny=>(hy y hny).trans (if_neg hny)) (hs₁.trans hs₂)))
end
end PySem
namespace PySem.W
open PySem PySem.Spec PySem.Calls PyProof.Rows
structure lO(K:Frag)(C CP:Addr):Prop where
 ty:typeIn K (.ref CP)=some (.type "type")
 cl:(clsIn K CP).isSome=true
 mB:mroIn K CP (.type "BaseException")=some true
 mP:mroIn K C (.ref CP)=some true
theorem sM{M:Model}{A:Around}{E:Value->Shared->Prop}{K:Frag}{x C CP:Addr}{h:Heap}{g:Array GenState}{d:Drawn}{t:Nat}{os:OsState}{Q:Bool->Shared->Prop}
  (Z:lO K C CP) (X:K.In h) (I:oW x C h) (hq:Q true ⟨h,g,d,t,os⟩):wpAny M A (excMatches (.ref x) (.ref CP)) Q E ⟨h,g,d,t,os⟩:=by
 have L0:=ic (M:=M) I;have L1:=looks_typeIn (M:=M) X Z.ty;have L2:=looks_mroIn (M:=M) X Z.mB;have L3:=looks_mroIn (M:=M) X Z.mP;have L4:Looks M h (isType (.ref CP)) true:=by
  have hc:=Z.cl;unfold clsIn at hc;split at hc
  ·rename_i c' d' cd' sl' ho;intro A' Q' E' s' k q;unfold isType loadHead;exact wpAny_bind (wpAny_loadPart (k _ _ (X _ _ ho)) (wpAny_pure q))
  ·cases hc
 have LT:Looks M h (isSubtype (.type "type") (.type "tuple")) false:=Looks.of_pure tc_notTuple;unfold excMatches isInstance
 repeat lk
 exact hq
end PySem.W
namespace L2
open PySem PySem.Spec PyProof.Rows
section
variable{X:Cx}{mU:List (Addr×Obj)}{σ:L2.St}{H:Hp}{s:Shared}
theorem Inv.fly(I:Inv X mU σ H s){h'' B:Heap}{t':Nat}(hx:X.ex=[])(hB:∀b o,s.heap.get? b=some o->b∉frs X.stack->((X.s₀.heap.get? b).isSome=true\/(H b).isSome=true\/∃p∈X.pn++mU,p.1=b)->B.get? b=some o)
  (k1:B.StaysIn h'') (sl:s.heap.UpToSlots h''):Inv X mU σ H { s with heap:=h'',toks:=t' }:=by
 obtain⟨u1,u2,_⟩:=I.out (h'':=h'') (Bh:=B) hx (fun b o e hb hh=>hB b o e hb (hh.imp id .inl)) k1 sl;have cellK:∀c v,s.heap.IsCell c v->h''.IsCell c v:=fun c v ⟨o,ho,hd⟩=>by
  obtain⟨sl',e⟩:=sl c o ho fun vs q=>by rw[hd]at q;cases q
  exact⟨_,e,hd⟩
 refine⟨I.ok,I.os,I.bare,by rw[hx];exact u1,?_,fun x c e=>?_,I.free,I.dR,fun p hp=>?_,u2,I.len⟩
 ·obtain⟨m,hn,hl⟩:=I.loc;refine⟨m,sl.ns hn,fun i x v e1 e2 e3=>?_⟩;obtain⟨u,r,l⟩:=hl i x v e1 e2 e3;refine⟨u,r,?_⟩;rcases l with l | ⟨k,c,e,z⟩
  ·exact .inl l
  ·exact .inr ⟨k,c,e,cellK c _ z⟩
 ·obtain⟨v,z⟩:=I.cell x c e;exact⟨v,cellK c v z⟩
 ·obtain⟨e,n,ne,nf,d⟩:=I.pin p hp;exact⟨k1 _ _ (hB p.1 p.2 e (fun z=>(Mv.mp (I.lU _ z)).elim ne nf) (.inr (.inr ⟨p,hp,rfl⟩))),n,ne,nf,d⟩
theorem Inv.Jp(I:Inv X mU σ H s){ea:Addr}{o:HO}(n:H ea=none)(hok:bH X.prog X.w (upd H ea o) s.heap ea o)(n0:X.s₀.heap.get? ea=none)(nl:ea≠X.env.locals)(nc:∀x c,X.env.cells.lookup x=some c->c≠ea)
  (np:∀p∈X.pn++mU,p.1≠ea):Inv X mU σ (upd H ea o) s:=by
 have ne:∀b u,H b=some u->b≠ea:=fun b u e z=>by rw[z,n]at e;cases e
 have n1:∀b u,X.s₀.heap.get? b=some u->b≠ea:=fun b u e z=>by rw[z,n0]at e;cases e
 refine⟨I.ok,I.os,I.bare,⟨I.base.keep,I.base.slot,fun b u e q hx=>?_,I.base.there,fun b xs e=>?_,fun b u v e=>?_,fun b x1 x2 x3 e=>?_⟩,I.loc,I.cell,?_,fun x c e=>?_,fun p hp=>?_,fun b u e=>?_,I.len⟩
 ·rw[az (n1 b u e)];exact I.base.free b u e q hx
 ·have:=I.base.tups b xs e;rw[az (ne b _ this)];exact this
 ·have:=I.base.jF b u v e;rw[az (ne b _ this)];exact this
 ·have:=I.base.lT b _ _ _ e;rw[az (ne b _ this)];exact this
 ·rw[az (MJ nl)];exact I.free
 ·rw[az (nc x c e)];exact I.dR x c e
 ·obtain⟨e,q,a,b,d⟩:=I.pin p hp;exact⟨e,by rw[az (np p hp)];exact q,a,b,d⟩
 ·by_cases hb:b=ea
  ·subst hb;rw[aF]at e;cases e;exact hok
  ·rw[az hb]at e;exact(I.hok b u e).stay (fun c v _ q=>q) (fun c q=>by rw[az (ne c _ q)];exact q) (fun c _ _ q=>by rw[az (ne c _ q)];exact q) fun c xs q=>by rw[az (ne c _ q)];exact q
theorem name_goes{M:Model}{A:Around}{E:Value->Shared->Prop}{i:Nat}{n:Str}{pos:Pos}{Q:Unit->Shared->Prop}(I:Inv X mU σ H s)(hN:X.N.Nodup)(hi:X.N[i]?=some n)(hk:X.env.kindOf n=some .local)
  (h:∀s',Inv X mU (σ.set i none) H s'->Q () s'):wpAny M A (do bindName X.env n .none;unbindBehindTheSuite X.env n pos) Q E s:=by
 obtain⟨m,hn,hl⟩:=id I.loc;have hcls:(X.env.scope.kind == .class||(X.env.scope.kind == .module&&X.env.locals != X.env.globals))=false:=by rw[I.ok.kind];rfl
 have cne:=I.cne;refine lD hk hn hcls fun h' m' hn' hy hs=>?_;have low:∀b o,X.s₀.heap.get? b=some o->b≠X.env.locals:=fun b o e=>MC (Ms (Mi e) I.ok.above);refine h _ ⟨I.ok,I.os,I.bare,⟨fun b o e n hb hx=>?_,fun b o e n hb hx=>?_,I.base.free,fun b o e hx=>?_,I.base.tups,I.base.jF,I.base.lT⟩,⟨m',hn',fun j y v' e1 e2 e3=>?_⟩,fun y c e=>?_,I.free,I.dR,fun p hp=>?_,fun b u e=>?_,by simpa using I.len⟩
 ·exact(hs.2 b (low b o e)).trans (I.base.keep b o e n hb hx)
 ·obtain⟨sl,e1⟩:=I.base.slot b o e n hb hx;exact⟨sl,(hs.2 b (low b o e)).trans e1⟩
 ·obtain⟨o',e1⟩:=I.base.there b o e hx;exact⟨o',(hs.2 b (low b o e)).trans e1⟩
 ·have hj:j≠i:=fun z=>by
   subst z;by_cases JZ:j<σ.length
   ·rw[Mn JZ]at e2;cases e2
   ·rw[M8 (by simpa using JZ)]at e2;cases e2
  rw[gp (MJ hj)]at e2;obtain⟨u',r',q⟩:=hl j y v' e1 e2 e3;refine⟨u',r',?_⟩;rcases q with⟨k,e⟩ | ⟨k,c,e,z⟩
  ·exact .inl ⟨k,by rw[hy y fun e=>hj (lV hN e1 (e▸hi))];exact e⟩
  ·obtain⟨o,ho,hd⟩:=z;exact .inr ⟨k,c,e,o,(hs.2 c (cne y c e)).trans ho,hd⟩
 ·obtain⟨v,o,ho,hd⟩:=I.cell y c e;exact⟨v,o,(hs.2 c (cne y c e)).trans ho,hd⟩
 ·obtain⟨e,q,a,b,d⟩:=I.pin p hp;exact⟨(hs.2 _ a).trans e,q,a,b,d⟩
 ·refine(I.hok b u e).stay (fun c v hc q=>(hs.2 c ?_).trans q) (fun _ q=>q) (fun _ _ _ q=>q) fun _ _ q=>q;rintro rfl;rcases hc with rfl | hc
  ·rw[I.free]at e;cases e
  ·rw[I.free]at hc;cases hc
end
end L2
namespace Br
open PySem PySem.Spec PyProof.Rows L2
section
variable{ρ:Dm.Env}{H0 H:Hp}{σ:L2.St}
theorem au.drop(st:au H0 H σ ρ)(i:Nat):au H0 H (σ.set i none) (ρ.set i .un):=by
 have m:=st.mask i;have ne:∀{j:Nat} {c:Dm.Cell},(ρ.set i .un)[j]?=some c->c≠.un->j≠i:=fun {j c} e hc z=>by
  subst z;by_cases JZ:j<ρ.length
  ·rw[Mn JZ]at e;cases e;exact hc rfl
  ·rw[M8 (by simpa using JZ)]at e;cases e
 have gs:∀{j:Nat},j≠i->(σ.set i none)[j]?=σ[j]?:=fun {j} h=>gp (MJ h);refine⟨m.same,by rw[Mx];exact m.len,fun j d e=>?_,fun j d e=>?_,fun j k d e a h1 h2 h3 h4=>?_⟩
 ·rw[gs (ne e (by simp))];exact m.sh j d e
 ·rw[gs (ne e (by simp))];exact m.ow j d e
 ·rw[gs (ne h1 (by simp))]at h3;rw[gs (ne h2 (by simp))]at h4;exact m.dis j k d e a h1 h2 h3 h4
theorem SSt.drop(st:au H0 H σ ρ){i:Nat}(h0:i≠0):SSt σ ρ H0 H (σ.set i none) (ρ.set i .un) H0 H:=by
 refine⟨au.drop st i,Stp.refl _ _ _,fun a ⟨j,d,h1,h2⟩=>.inl ?_,gp h0⟩;by_cases hj:i=j
 ·subst hj;by_cases JZ:i<ρ.length
  ·rw[Mn JZ]at h1;cases h1
  ·rw[M8 (by simpa using JZ)]at h1;cases h1
 ·rw[gp hj]at h1 h2;exact⟨j,d,h1,h2⟩
noncomputable def φX(o:Obj)(ea C:Addr):HO:=.frz o (.ext fun h=>∃o,h.get? ea=some o/\o.cls=.ref C/\∃vs,o.data=.fields vs/\vs[2]?=some .none)
theorem φX_ok{P:Program}{w:World}{H:Hp}{h:Heap}{ea C:Addr}{o:Obj}(e:h.get? ea=some o)(c:o.cls=.ref C)(f:Fld h ea 2 .none):bH P w H h ea (φX o ea C):=by obtain⟨o',vs,e',d,v⟩:=f;rw[e]at e';cases e';exact⟨e,⟨o,e,c,vs,d,v⟩,⟨o,e⟩,fun _ _ ⟨o,e,c⟩ k=>⟨o,k o e,c⟩⟩
noncomputable def Cx.in'(X:Cx)(pn:List (Addr×Obj))(xe:Value->Shared->Prop):Cx:={ X with pn:=X.pn++pn,xe:=xe }
noncomputable def Cx.sub'(X:Cx)(A:Around)(xe:Value->Shared->Prop):Cx:={ X with A:=A,calm:=false,xe:=xe }
end
section
variable{X:Cx}{mU pn:List (Addr×Obj)}{σ:L2.St}{H:Hp}{s:Shared}{xe:Value->Shared->Prop}
theorem vf(I:Inv X pn σ H s):Inv (Cx.in' X pn xe) [] σ H s:=
 ⟨⟨I.ok.1,I.ok.2,I.ok.3,I.ok.4,I.ok.5,I.ok.6,I.ok.7,I.ok.8,I.ok.9,I.ok.10,I.ok.11,I.ok.12,I.ok.13,I.ok.14,I.ok.15,I.ok.16,I.ok.17,I.ok.18⟩,I.os,I.bare,I.base,I.loc,I.cell,I.free,I.dR,fun p hp=>I.pin p (by rw[MN]at hp;exact hp),I.hok,I.len⟩
theorem dM(I:Inv (Cx.in' X pn xe) mU σ H s):Inv X pn σ H s:=
 ⟨⟨I.ok.1,I.ok.2,I.ok.3,I.ok.4,I.ok.5,I.ok.6,I.ok.7,I.ok.8,I.ok.9,I.ok.10,I.ok.11,I.ok.12,I.ok.13,I.ok.14,I.ok.15,I.ok.16,I.ok.17,I.ok.18⟩,I.os,I.bare,I.base,I.loc,I.cell,I.free,I.dR,fun p hp=>I.pin p (Nl _ hp),I.hok,I.len⟩
theorem qM{A:Around}(hA:A.frames=X.A.frames)(I:Inv X mU σ H s):Inv (Cx.sub' X A xe) mU σ H s:=
 ⟨⟨I.ok.1,I.ok.2,I.ok.3,I.ok.4,I.ok.5,I.ok.6,I.ok.7,I.ok.8,(fun h=>nomatch h),hA.trans I.ok.10,I.ok.11,I.ok.12,I.ok.13,I.ok.14,I.ok.15,I.ok.16,I.ok.17,I.ok.18⟩,I.os,I.bare,I.base,I.loc,I.cell,I.free,I.dR,I.pin,I.hok,I.len⟩
theorem pP{A:Around}(ok:X.Ok)(I:Inv (Cx.sub' X A xe) mU σ H s):Inv X mU σ H s:=
 ⟨ok,I.os,I.bare,I.base,I.loc,I.cell,I.free,I.dR,I.pin,I.hok,I.len⟩
end
structure mR(K:gc)(C:Addr):Prop where
 get:PySem.W.iQ K C
 cls:(Oi K C).isSome=true
noncomputable def φXF(ea C d:Addr):HO:=.ext fun h=>∃o,h.get? ea=some o/\o.cls=.ref C/\o.dict=some d/\∀c,o.data≠.cls c
def ExK(H:Hp)(a C:Addr):Prop:=(∃o,H a=some (φX o a C))\/∃d,H a=some (φXF a C d)
theorem ExK.ne{H:Hp}{a C b:Addr}(x:ExK H a C)(h:H b=none):a≠b:=fun z=>by subst z;rcases x with⟨_,x⟩ | ⟨d,x⟩<;>rw[h]at x<;>cases x
theorem ExK.upd{H:Hp}{a C b:Addr}{o:HO}(x:ExK H a C)(h:H b=none):ExK (L2.upd H b o) a C:=by
 have n:=x.ne h;rcases x with⟨o1,x⟩ | ⟨d,x⟩
 ·exact .inl ⟨o1,by rw[az n];exact x⟩
 ·exact .inr ⟨d,by rw[az n];exact x⟩
def Jq(K:gc)(C:Addr)(c:V)(b:Bool):List V->Hp->VK->Prop:=fun xs H Q=>∃a,xs=[.ref a,c]/\ExK H a C/\Q (.bl b) H
section
variable{X:Cx}{C:Addr}{e:Expr}{f:FE}{p p2 pos:Pos}{b:Bool}
section
variable{σ:L2.St}{tn:Str}{H:Hp}{c:V}
theorem Et{mU:List (Addr×Obj)}{s:Shared}{a:Addr}(I:Inv X mU σ H s)(h:ExK H a C):PySem.W.oW a C s.heap:=by
 rcases h with⟨_,h⟩ | ⟨d,h⟩
 ·obtain⟨o,e,c,_⟩:=(I.hok a _ h).2.1;exact⟨o,e,c⟩
 ·obtain⟨o,e,c,_⟩:=(I.hok a _ h).1;exact⟨o,e,c⟩
theorem sN{u2:Value}(hc:RelV c u2)(hu:∀u,RelV c u->u=u2)(Z:mR X.K C)(k:Mk X.K (.ref C) u2=some b):eS X (.builtin "isinstance") (Jq X.K C c b):=by intro mU s σ H xs us Q I r h;obtain⟨a,rfl,ha,q⟩:=h;obtain⟨u,u3,rfl,rx,ry⟩:=vals2 r;cases rx;obtain rfl:=hu u3 ry;exact MR (PySem.W.sL Z.get Z.cls) I.kIn (Et I ha) k (by intro q;cases q) fun tk=>⟨.bl b,H,I.tok tk,rfl,q⟩
theorem Eu{Q:VK}(h:tD (Dm.e1 (Dm.lC C b) f) σ H Q):tCB (Jq X.K C c b) (jJ (tD f) (jJ (tC c) xM)) σ H Q:=by
 obtain⟨H0,ρ,x,ρ',st,e,k⟩:=h;unfold Dm.e1 at e;split at e
 ·cases e
 rename_i x1 ρ1 e1;split at e
 ·cases e
 rename_i dx p1;cases dx with
 |exc C'=>
  unfold Dm.lC at e;dsimp only at e;by_cases hC:C'=C
  ·subst hC;rw[if_pos rfl]at e;cases e;refine⟨H0,ρ,x1,_,st,e1,fun v H1 Hb t1 r1=>?_⟩;have rv:Rep Hb v (.exc C'):=(r1.look t1.st p1).full t1.st.same;cases rv with
   |exc q=>exact⟨_,rfl,.inl ⟨_,q⟩,k _ H1 Hb t1 (Rep.bl _)⟩
  ·rw[if_neg hC]at e;cases e
 |di C' mv=>
  unfold Dm.lC at e;dsimp only at e;by_cases hC:C'=C
  ·subst hC;rw[if_pos rfl]at e;cases e;refine⟨H0,ρ,x1,_,st,e1,fun v H1 Hb t1 r1=>?_⟩;have rv:Rep Hb v (.di C' mv):=(r1.look t1.st p1).full t1.st.same;cases rv with
   |di q _=>exact⟨_,rfl,.inr ⟨_,q⟩,k _ H1 Hb t1 (Rep.bl _)⟩
  ·rw[if_neg hC]at e;cases e
 |_=>cases e
theorem gw{D:Addr}(Z:mR X.K C)(k:Mk X.K (.ref C) (.ref D)=some b)(hgT:Gl X tn)(hmT:X.mg tn=some (.ref D))(hg:Gl X "isinstance")(hm:X.mg "isinstance" = none)(h:DE X e f)(JF:(tn == ("__debug__" : Str))=false:=by decide)
  (he:starEach [e,.Name tn p2] X.env=(false,eval e X.env)::starEach [.Name tn p2] X.env:=by rfl) (En:(backTo pos (starEach [.Name tn p2] X.env)).any (·.1)=false:=by rfl) (he2:starEach [.Name tn p2] X.env=(false,eval (.Name tn p2) X.env)::starEach [] X.env:=by rfl) :
  DE X (.Call (.Name "isinstance" p) [e,.Name tn p2] [] pos) (Dm.e1 (Dm.lC C b) f):=
 PE.weak (gC (sN (c:=.ref D) rfl (fun u q=>q) Z k) hg hm Nf (cE h (cE (ql (v:=.ref D) hgT hmT rfl JF) gB he2) he) (he:=he) (En:=En)) fun _ _ _=>Eu
theorem Aj{T:String}(Z:mR X.K C)(k:Mk X.K (.ref C) (.type T)=some b)(hvT:bootBuiltins tn=some (.type T))(hgT:Gl X tn)(hmT:X.mg tn=none)(hg:Gl X "isinstance")(hm:X.mg "isinstance" = none)(h:DE X e f)(hn:tn ≠ "__name__" := by decide)(JF:(tn == ("__debug__" : Str))=false:=by decide)
  (he:starEach [e,.Name tn p2] X.env=(false,eval e X.env)::starEach [.Name tn p2] X.env:=by rfl) (En:(backTo pos (starEach [.Name tn p2] X.env)).any (·.1)=false:=by rfl) (he2:starEach [.Name tn p2] X.env=(false,eval (.Name tn p2) X.env)::starEach [] X.env:=by rfl) :
  DE X (.Call (.Name "isinstance" p) [e,.Name tn p2] [] pos) (Dm.e1 (Dm.lC C b) f):=
 PE.weak (gC (sN (c:=.ty T) rfl (fun u q=>by cases q;rfl) Z k) hg hm Nf (cE h (cE (v9 (v:=.ty T) hgT hmT hvT rfl hn JF) gB he2) he) (he:=he) (En:=En)) fun _ _ _=>Eu
end
end
def tK(vs:List V):TA:=fun _ H Q=>Q vs H
def Jr(K:gc)(C:Addr)(Ds:List Addr)(b:Bool):List V->Hp->VK->Prop:=fun xs H Q=>∃a tp,xs=[.ref a,.ref tp]/\ExK H a C/\H tp=some (.tup (Ds.map V.ref))/\Q (.bl b) H
theorem pQ:∀{Ds:List Addr} {us:List Value},Vals (Ds.map V.ref) us->us=Ds.map MP
 |[],_,.nil=>rfl
 |D::Ds,_,.cons r t=>by rw[pQ t];cases r;rfl
section
variable{X:Cx}{C:Addr}{e:Expr}{es:List Expr}{f:FE}{p p2 pos:Pos}{b:Bool}{Ds:List Addr}
theorem Ew:PA X [] (tK []):=gB
theorem qN{D:Addr}{tn:Str}(hgT:Gl X tn)(hmT:X.mg tn=some (.ref D))(h:PA X es (tK (Ds.map V.ref)))(JF:(tn == ("__debug__" : Str))=false:=by decide)(hs:starEach (.Name tn p2::es) X.env=(false,eval (.Name tn p2) X.env)::starEach es X.env:=by rfl) :
  PA X (.Name tn p2::es) (tK ((D::Ds).map V.ref)):=PA.weak (cE (ql (v:=.ref D) hgT hmT rfl JF) h hs) fun _ _ _ q=>q
theorem Ak(Z:mR X.K C)(k:Nz X.K (.ref C) (Ds.map MP)=some b):eS X (.builtin "isinstance") (Jr X.K C Ds b):=by
 intro mU s σ H xs us Q I r h;obtain⟨a,tp,rfl,ha,ht,q⟩:=h;obtain⟨u,u3,rfl,rx,ry⟩:=vals2 r;cases rx;cases ry;obtain⟨_,its,vr,o,ho,hc,n,hd⟩:=(show bH X.prog X.w H s.heap tp (.tup (Ds.map V.ref)) from I.hok tp _ ht)
 obtain rfl:=pQ vr;obtain⟨oc,od,oda,osl⟩:=o;dsimp only at hc hd;subst hc hd;exact PySem.W.kia_tup (PySem.W.sL Z.get Z.cls) I.kIn (Et I ha) ho k (by intro q;cases q) fun tk=>⟨.bl b,H,I.tok tk,rfl,q⟩
theorem Js{σ:L2.St}{H:Hp}{Q:VK}(hz:Ds.length<=1000)(h:tD (Dm.e1 (Dm.lC C b) f) σ H Q):tCB (Jr X.K C Ds b) (jJ (tD f) (jJ (Cm (tK (Ds.map V.ref))) xM)) σ H Q:=by
 obtain⟨H0,ρ,x,ρ',st,e,k⟩:=h;unfold Dm.e1 at e;split at e
 ·cases e
 rename_i x1 ρ1 e1;split at e
 ·cases e
 rename_i dx p1;cases dx with
 |exc C'=>
  unfold Dm.lC at e;dsimp only at e;by_cases hC:C'=C
  ·subst hC;rw[if_pos rfl]at e;cases e;refine⟨H0,ρ,x1,_,st,e1,fun v H1 Hb t1 r1=>?_⟩;have rv:Rep Hb v (.exc C'):=(r1.look t1.st p1).full t1.st.same;cases rv with
   |exc q=>refine⟨by rw[Mg];exact NG (pC hz),fun tp ht=>?_⟩;exact⟨_,tp,rfl,ExK.upd (.inl ⟨_,q⟩) ht,aF,k _ H1 _ (t1.trans (.grow t1.st (aN.mw t1.st.same ht))) (Rep.bl _)⟩
  ·rw[if_neg hC]at e;cases e
 |di C' mv=>
  unfold Dm.lC at e;dsimp only at e;by_cases hC:C'=C
  ·subst hC;rw[if_pos rfl]at e;cases e;refine⟨H0,ρ,x1,_,st,e1,fun v H1 Hb t1 r1=>?_⟩;have rv:Rep Hb v (.di C' mv):=(r1.look t1.st p1).full t1.st.same;cases rv with
   |di q _=>refine⟨by rw[Mg];exact NG (pC hz),fun tp ht=>?_⟩;exact⟨_,tp,rfl,ExK.upd (.inr ⟨_,q⟩) ht,aF,k _ H1 _ (t1.trans (.grow t1.st (aN.mw t1.st.same ht))) (Rep.bl _)⟩
  ·rw[if_neg hC]at e;cases e
 |_=>cases e
theorem Ex{pt:Pos}{cx:Nat}(Z:mR X.K C)(k:Nz X.K (.ref C) (Ds.map MP)=some b)(hT:PA X es (tK (Ds.map V.ref)))(hz:Ds.length<=1000)(hg:Gl X "isinstance")(hm:X.mg "isinstance" = none)(h:DE X e f)
  (he:starEach [e,.Tuple es cx pt] X.env=(false,eval e X.env)::starEach [.Tuple es cx pt] X.env:=by rfl) (En:(backTo pos (starEach [.Tuple es cx pt] X.env)).any (·.1)=false:=by rfl) (he2:starEach [.Tuple es cx pt] X.env=(false,eval (.Tuple es cx pt) X.env)::starEach [] X.env:=by rfl) :
  DE X (.Call (.Name "isinstance" p) [e,.Tuple es cx pt] [] pos) (Dm.e1 (Dm.lC C b) f):=
 PE.weak (gC (Ak Z k) hg hm Nf (cE h (cE (uU hT) gB he2) he) (he:=he) (En:=En)) fun _ _ _=>Js hz
end
theorem sO{K:gc}{h₀:Heap}{mg:Str->Option Value}{x:Str}{C:Addr}{bmB:List Value}{newId:String}(X:K.In h₀)(G:mg x=some (.ref C))(q:Oj K C bmB newId=true):OwnCls x C bmB newId mg h₀:=by
 refine⟨G,?_⟩;unfold Oj at q;split at q
 ·rename_i dd cd sl ho;split at q
  ·rename_i C' bm k0 k1 k2 k3 n k5 hm hs;simp only[Mw,beq_iff_eq,Bool.not_eq_true']at q;obtain⟨⟨⟨⟨⟨rfl,rfl⟩,Jt⟩,ht⟩,hok⟩,hni⟩:=q;obtain⟨nm,bs,mro,ns,qn,hd,sn,sub,ab,col,del⟩:=cd;dsimp only at hm Jt hok hni;subst hm Jt;have hsl:sl=#[k0,k1,k2,k3,some (.builtin n),k5]:=by
    obtain⟨l⟩:=sl;simp only at hs;rw[hs]
   subst hsl;exact⟨bm,ns,nm,qn,bs,hd,sn,sub,ab,col,dd,k0,k1,k2,k3,k5,_,X _ _ ho,.of_isNs (PySem.W.isNs_of_in X hok),PySem.W.nsMap_none_of_in X hok hni,PySem.W.tail_of_in X ht⟩
  ·cases q
 ·cases q
noncomputable abbrev bmV:List Value:=[.type "ValueError",.type "Exception",.type "BaseException",.type "object"]
end Br
namespace Dm
noncomputable abbrev FN:=Env->List (List Dat)->Option (Env×List (List Dat))
end Dm
namespace Br
open PySem PySem.Spec PyProof.Rows L2
open Classical in
open PySem
variable{C:List Value->Prop}{us:List Value}
theorem len0(h:us.length=0)(c:C []):C us:=by rw[List.eq_nil_of_length_eq_zero h];exact c
theorem C7{n:Nat}{C:List Value->Prop}{us:List Value}(h:us.length=n+1)(c:∀a us,us.length=n->C (a::us)):C us:=by
 cases us with
 |nil=>cases h
 |cons a us=>exact c a us (by simpa using h)
theorem Ju(h:us.length=1)(c:∀a,C [a]):C us:=C7 h fun a _ h=>len0 h (C:=fun us=>C (a::us)) (c a)
theorem z7(h:us.length=2)(c:∀a b,C [a,b]):C us:=C7 h fun a _ h=>Ju h (C:=fun us=>C (a::us)) (c a)
theorem Jv(h:us.length=3)(c:∀a b d,C [a,b,d]):C us:=C7 h fun a _ h=>z7 h (C:=fun us=>C (a::us)) (c a)
theorem Ls(h:us.length=4)(c:∀a b d e,C [a,b,d,e]):C us:=C7 h fun a _ h=>Jv h (C:=fun us=>C (a::us)) (c a)
end Br
namespace L2
open PySem
variable{K:gc}{x qual:Str}{st:Stmt}{f:Addr}{fd:FuncData}{ps:List Str}
theorem Fun.cH(F:Fun K x qual st f fd)(hp:ps.length=1)(h:∀(kV doc pm:Value) (an:Option Addr) (cdv ct:Value) (a:Value),bindArgs (MK x qual (bO st) (bh st) (ai st) .none kV doc pm an cdv ct) ⟨[a],[]⟩=pure (ps.zip [a])):Binds K fd ps []:=
 F.binds fun kV doc pm an cdv ct us hl=>Br.Ju (C:=fun us=>bindArgs (MK x qual (bO st) (bh st) (ai st) .none kV doc pm an cdv ct) ⟨us,[]⟩=pure (ps.zip us)) (hl.trans hp) (h kV doc pm an cdv ct)
theorem Fun.dw(F:Fun K x qual st f fd)(hp:ps.length=2)(h:∀(kV doc pm:Value) (an:Option Addr) (cdv ct:Value) (a b:Value),bindArgs (MK x qual (bO st) (bh st) (ai st) .none kV doc pm an cdv ct) ⟨[a,b],[]⟩=pure (ps.zip [a,b])):Binds K fd ps []:=
 F.binds fun kV doc pm an cdv ct us hl=>Br.z7 (C:=fun us=>bindArgs (MK x qual (bO st) (bh st) (ai st) .none kV doc pm an cdv ct) ⟨us,[]⟩=pure (ps.zip us)) (hl.trans hp) (h kV doc pm an cdv ct)
theorem Fun.fm(F:Fun K x qual st f fd)(hp:ps.length=3)(h:∀(kV doc pm:Value) (an:Option Addr) (cdv ct:Value) (a b d:Value),bindArgs (MK x qual (bO st) (bh st) (ai st) .none kV doc pm an cdv ct) ⟨[a,b,d],[]⟩=pure (ps.zip [a,b,d])):Binds K fd ps []:=
 F.binds fun kV doc pm an cdv ct us hl=>Br.Jv (C:=fun us=>bindArgs (MK x qual (bO st) (bh st) (ai st) .none kV doc pm an cdv ct) ⟨us,[]⟩=pure (ps.zip us)) (hl.trans hp) (h kV doc pm an cdv ct)
theorem Fun.GC(F:Fun K x qual st f fd)(hp:ps.length=4)(h:∀(kV doc pm:Value) (an:Option Addr) (cdv ct:Value) (a b d e:Value),bindArgs (MK x qual (bO st) (bh st) (ai st) .none kV doc pm an cdv ct) ⟨[a,b,d,e],[]⟩=pure (ps.zip [a,b,d,e])):Binds K fd ps []:=
 F.binds fun kV doc pm an cdv ct us hl=>Br.Ls (C:=fun us=>bindArgs (MK x qual (bO st) (bh st) (ai st) .none kV doc pm an cdv ct) ⟨us,[]⟩=pure (ps.zip us)) (hl.trans hp) (h kV doc pm an cdv ct)
end L2
namespace Dm
inductive Dp where
 |s (d:Dat)
 |l (xs:List Dp)
 |t (xs:List Dp)
mutual
noncomputable def Dp.dat:Dp->Dat
 |.s d=>d
 |.l xs=>.lst (Dp.sP xs)
 |.t xs=>.tup (Dp.sP xs)
noncomputable def Dp.sP:List Dp->List Dat
 |[]=>[]
 |x::r=>x.dat::Dp.sP r
end
theorem Dp.sQ:∀xs:List Dp,Dp.sP xs=xs.map Dp.dat
 |[]=>rfl
 |x::r=>by rw[Dp.sP,Dp.sQ r];rfl
theorem Dp.GD(ds:List Dat):Dp.sP (ds.map Dp.s)=ds:=by rw[Dp.sQ,Ni];exact(List.map_congr_left fun d _=>rfl).trans (OE ds)
noncomputable abbrev FP:=Env->Option (Dp×Env)
noncomputable def pO(f:FE):FP:=fun ρ=>match f ρ with
 |some (.val d,ρ1)=>some (.s d,ρ1)
 |some (.new (.lst ds),ρ1)=>some (.l (ds.map .s),ρ1)
 | some (.slot i,ρ1)=>(match ρ1[i]? with
  |some (.ow (.lst ds))=>some (.l (ds.map .s),ρ1.set i .un)
  |some (.sh d)=>some (.s d,ρ1)
  |_=>none)
 |_=>none
noncomputable def pAs:List FP->Env->Option (List Dp×Env)
 |[],ρ=>some ([],ρ)
 |f::r,ρ=>match f ρ with
  |none=>none
  |some (x,ρ1)=>match pAs r ρ1 with
   |none=>none
   |some (xs,ρ2)=>some (x::xs,ρ2)
noncomputable def pT(fs:List FP):FP:=fun ρ=>match pAs fs ρ with
 |none=>none
 |some (ps,ρ1)=>if ps.length<=SZ then some (.t ps,ρ1) else none
noncomputable abbrev FSP:=Env->Option Dp
noncomputable def qR(f:FP):FSP:=fun ρ=>match f ρ with
 |none=>none
 |some (p,_)=>some p
noncomputable def lE(s:FS)(g:FSP):FSP:=fun ρ=>match s ρ with
 |some (.nx ρ1)=>g ρ1
 |_=>none
noncomputable def fnP(n m:Nat)(g:FSP)(ds:List Dat):Option Dp:=if ds.length=n then g (ds.map Cell.sh++gV m .un) else none
noncomputable def shC:Cell->Cell
 |.ow d=>.sh d
 |c=>c
noncomputable def wK(ρ:Env):Env:=ρ.map shC
noncomputable abbrev FM:=Env->Dp->Option Out
noncomputable def see(j:Nat)(ρ:Env)(p:Dp):Env:=wK (ρ.set j (.sh p.dat))
noncomputable def pR(j:Nat)(f:List Dat->Option Dp)(as:List FE)(g:FM):FS:=fun ρ=>if j=0 then none else match eAs as ρ with
 |none=>none
 |some (xs,ρ1)=>match tks ρ1 xs with
  |none=>none
  |some (ds,ρ2)=>match f ds with
   |none=>none
   |some p=>g (ρ2.set j .un) p
noncomputable def mIf(j:Nat)(t:FT)(fs:FS)(g:FM):FM:=fun ρ p=>match t (see j ρ p) with
 |none=>none
 | some (true,_)=>(match fs ρ with
  |some (.nx _)=>none
  |o=>o)
 |some (false,_)=>g ρ p
noncomputable def ye(z:Int)(gs:FS):FM:=fun ρ p=>match p with
 | .t xs=>(match ixN xs.length z with
  |none=>none
  | some m=>(match xs[m]? with
   |some (.l _)=>gs ρ
   |_=>none))
 |_=>none
noncomputable def Lu(gs:FS):FM:=fun ρ _=>gs ρ
end Dm
namespace Br
open PySem PySem.Spec PyProof.Rows L2
mutual
inductive eY(N:Addr->Prop)(H0 H:Hp):V->Dm.Dp->List Addr->Prop
 |s {v:V} {d:Dat}:Rep H0 v d->eY N H0 H v (.s d) []
 |l {a:Addr} {vs:List V} {ps:List Dm.Dp} {fp:List Addr}:N a->H a=some (.lst vs)->bu N H0 H vs ps fp->eY N H0 H (.ref a) (.l ps) (a::fp)
 |t {a:Addr} {vs:List V} {ps:List Dm.Dp} {fp:List Addr}:N a->H a=some (.tup vs)->bu N H0 H vs ps fp->eY N H0 H (.ref a) (.t ps) fp
inductive bu(N:Addr->Prop)(H0 H:Hp):List V->List Dm.Dp->List Addr->Prop
 |nil:bu N H0 H [] [] []
 |cons {v:V} {p:Dm.Dp} {f:List Addr} {vs:List V} {ps:List Dm.Dp} {fp:List Addr}:eY N H0 H v p f->bu N H0 H vs ps fp->bu N H0 H (v::vs) (p::ps) (f++fp)
end
section
variable{N N':Addr->Prop}{H0 H H0' H':Hp}
mutual
theorem eY.mono(s:aq H0 H0')(kn:∀a,N a->N' a)(kt:∀a vs,N a->H a=some (.tup vs)->H' a=some (.tup vs)):∀{v:V} {p:Dm.Dp} {fp:List Addr},eY N H0 H v p fp->(∀a∈fp,H' a=H a)->eY N' H0' H' v p fp
 |_,_,_,.s r,_=>.s (r.mono s)
 |_,_,_,.l n h r,k=>.l (kn _ n) ((k _ MA).trans h) (bu.mono s kn kt r fun b hb=>k b (MB _ hb))
 |_,_,_,.t n h r,k=>.t (kn _ n) (kt _ _ n h) (bu.mono s kn kt r k)
theorem bu.mono(s:aq H0 H0')(kn:∀a,N a->N' a)(kt:∀a vs,N a->H a=some (.tup vs)->H' a=some (.tup vs)):∀{vs:List V} {ps:List Dm.Dp} {fp:List Addr},bu N H0 H vs ps fp->(∀a∈fp,H' a=H a)->bu N' H0' H' vs ps fp
 |_,_,_,.nil,_=>.nil
 |_,_,_,.cons h r,k=>.cons (eY.mono s kn kt h fun a ha=>k a (Nl _ ha)) (bu.mono s kn kt r fun a ha=>k a (ME _ ha))
end
mutual
theorem eY.fpN:∀{v:V} {p:Dm.Dp} {fp:List Addr},eY N H0 H v p fp->∀a∈fp,N a/\∃xs,H a=some (.lst xs)
 |_,_,_,.s _,_,h=>by cases h
 |_,_,_,.l n h r,a,ha=>by
  rcases Mv.mp ha with rfl | ha
  ·exact⟨n,_,h⟩
  ·exact bu.fpN r a ha
 |_,_,_,.t n h r,a,ha=>bu.fpN r a ha
theorem bu.fpN:∀{vs:List V} {ps:List Dm.Dp} {fp:List Addr},bu N H0 H vs ps fp->∀a∈fp,N a/\∃xs,H a=some (.lst xs)
 |_,_,_,.nil,_,h=>by cases h
 |_,_,_,.cons h r,a,ha=>(Nt.mp ha).elim (eY.fpN h a) (bu.fpN r a)
end
mutual
theorem eY.rep(s:aq H0 H0')(k:∀a o,N a->H a=some o->H0' a=some o):∀{v:V} {p:Dm.Dp} {fp:List Addr},eY N H0 H v p fp->Rep H0' v p.dat
 |_,_,_,.s r=>r.mono s
 |_,_,_,.l n h r=>.lst (.inl (k _ _ n h)) (bu.rep s k r)
 |_,_,_,.t n h r=>.tup (k _ _ n h) (bu.rep s k r)
theorem bu.rep(s:aq H0 H0')(k:∀a o,N a->H a=some o->H0' a=some o):∀{vs:List V} {ps:List Dm.Dp} {fp:List Addr},bu N H0 H vs ps fp->aM H0' vs (Dm.Dp.sP ps)
 |_,_,_,.nil=>.nil
 |_,_,_,.cons h r=>.cons (eY.rep s k h) (bu.rep s k r)
end
theorem bu.qO:∀{vs:List V} {ds:List Dat},aM H0 vs ds->bu N H0 H vs (ds.map .s) []
 |_,_,.nil=>.nil
 |_,_,.cons h r=>.cons (.s h) (bu.qO r)
theorem bu.get:∀{vs:List V} {ps:List Dm.Dp} {fp:List Addr} {i:Nat} {p:Dm.Dp},bu N H0 H vs ps fp->ps[i]?=some p->∃v f,vs[i]?=some v/\eY N H0 H v p f/\∀a∈f,a∈fp
 |_,_,_,_,_,.nil,e=>by simp at e
 |_,_,_,0,_,.cons h _,e=>by simp at e;subst e;exact⟨_,_,rfl,h,fun a ha=>Nl _ ha⟩
 |_,_,_,i+1,_,.cons _ r,e=>by obtain⟨v,f,h1,h2,h3⟩:=bu.get (i:=i) r (by simpa using e);exact⟨v,f,by simpa using h1,h2,fun a ha=>ME _ (h3 a ha)⟩
theorem bu.length:∀{vs:List V} {ps:List Dm.Dp} {fp:List Addr},bu N H0 H vs ps fp->vs.length=ps.length
 |_,_,_,.nil=>rfl
 |_,_,_,.cons _ r=>by rw[M3,M3,bu.length r]
end
theorem au.GF{H0 H:Hp}{σ:L2.St}{ρ:Dm.Env}{a:Addr}{vs:List V}(st:au H0 H σ ρ)(h:H a=some (.tup vs)):¬ao σ ρ a:=fun⟨i,d,h1,h2⟩=>by
 obtain⟨b,q,n,w⟩:=st.ow i d h1;rw[h2]at q;cases q;cases d with
 |lst ds=>obtain⟨xs,y,_⟩:=w;rw[h]at y;cases y
 |dct ks ds=>obtain⟨xs,y,_⟩:=w;rw[h]at y;cases y
 |dcp ks ds=>obtain⟨xs,y,_⟩:=w;rw[h]at y;cases y
 |_=>exact w
theorem eY.est{N:Addr->Prop}{σ:L2.St}{ρ ρ':Dm.Env}{H0 H H0' H':Hp}{v:V}{p:Dm.Dp}{fp:List Addr}(st:au H0 H σ ρ)(t:ESt σ ρ H0 H ρ' H0' H')(r:eY N H0 H v p fp)(k:∀a∈fp,H0 a=none/\¬ao σ ρ a) :
  eY N H0' H' v p fp/\∀a∈fp,H0' a=none/\¬ao σ ρ' a:=by
 refine⟨r.mono t.stp.s0 (fun _ n=>n) (fun a vs _ h=>t.stp.s1 a _ h (st.GF h)) fun a ha=>?_,fun a ha=>?_⟩
 ·obtain⟨_,xs,h⟩:=r.fpN a ha;rw[(t.iC h (k a ha).1 (k a ha).2).1,h]
 ·obtain⟨_,xs,h⟩:=r.fpN a ha;exact(t.iC h (k a ha).1 (k a ha).2).2
def mS(σ:L2.St)(ρ:Dm.Env)(H:Hp)(a:Addr):Prop:=H a=none\/ao σ ρ a
def sS(σ:L2.St)(ρ:Dm.Env)(H0:Hp)(fp:List Addr):Prop:=fp.Nodup/\∀a∈fp,H0 a=none/\¬ao σ ρ a
def tDp(f:Dm.FP):TE:=fun σ H Q=>∃H0 ρ p ρ',au H0 H σ ρ/\f ρ=some (p,ρ')/\∀v H0' H' fp,ESt σ ρ H0 H ρ' H0' H'->eY (mS σ ρ H) H0' H' v p fp->sS σ ρ' H0' fp->Q v H'
def Al(fs:List Dm.FP):TA:=fun σ H Q=>∃H0 ρ ps ρ',au H0 H σ ρ/\Dm.pAs fs ρ=some (ps,ρ')/\∀vs H0' H' fp,ESt σ ρ H0 H ρ' H0' H'->bu (mS σ ρ H) H0' H' vs ps fp->sS σ ρ' H0' fp->Q vs H'
noncomputable abbrev DP(X:Cx)(e:Expr)(f:Dm.FP):Prop:=PE X e (tDp f)
noncomputable abbrev DPA(X:Cx)(es:List Expr)(fs:List Dm.FP):Prop:=PA X es (Al fs)
section
variable{σ:L2.St}{H:Hp}{Q:VK}
theorem Lv{f:FE}(h:tDp (Dm.pO f) σ H Q):tD f σ H Q:=by
 obtain⟨H0,ρ,p,ρ',st,e,k⟩:=h;unfold Dm.pO at e;split at e
 ·rename_i d ρ1 e1;cases e;exact⟨H0,ρ,_,_,st,e1,fun v H0' H' t r=>k v H0' H' [] t (.s r) ⟨OI,fun a h=>by cases h⟩⟩
 ·rename_i ds ρ1 e1;cases e;refine⟨H0,ρ,_,_,st,e1,fun v H0' H' t r=>?_⟩;obtain⟨a,rfl,n,no,n0,xs,y,rs⟩:=r;refine k _ H0' H' [a] t (.l (.inl n) y (.qO rs)) ⟨by simp,fun b hb=>?_⟩;rw[M9.mp hb];exact⟨n0,no⟩
 ·rename_i i ρ1 e1;split at e
  ·rename_i ds h1;cases e;refine⟨H0,ρ,_,_,st,e1,fun v H0' H' t r=>?_⟩;obtain⟨q,_⟩:=r;obtain⟨a,q',n0,xs,y,rs⟩:=t.st.ow i _ h1;rw[q]at q';cases q';have ow:ao σ ρ1 a:=⟨i,_,h1,q⟩
   refine k _ H0' H' [a] ⟨t.st.mask i,t.stp,fun b z=>?_,fun j z=>trivial⟩ (.l (.inr (t.own a ow)) y (.qO rs)) ⟨by simp,fun b hb=>?_⟩
   ·obtain⟨j,d2,_,z1,z2⟩:=bY z;exact t.own b ⟨j,d2,z1,z2⟩
   ·rw[M9.mp hb];refine⟨n0,fun z=>?_⟩;obtain⟨j,d2,hj,z1,z2⟩:=bY z;exact hj (t.st.dis j i d2 _ a z1 h1 z2 q)
  ·rename_i d h1;cases e;refine⟨H0,ρ,_,_,st,e1,fun v H0' H' t r=>?_⟩;obtain⟨q,_⟩:=r;obtain⟨u,q',w⟩:=t.st.sh i d h1;rw[q]at q';cases q';exact k _ H0' H' [] t (.s w) ⟨OI,fun a h=>by cases h⟩
  ·cases e
 ·cases e
theorem GG{Q:List V->Hp->Prop}(h:Al [] σ H Q):xM σ H Q:=by obtain⟨H0,ρ,xs,ρ',st,e,k⟩:=h;cases e;exact k [] H0 H [] (.refl st) .nil ⟨OI,fun a h=>by cases h⟩
theorem mS.back{σ:L2.St}{ρ ρ1:Dm.Env}{H0 H H1 Hb:Hp}(t:ESt σ ρ H0 H ρ1 H1 Hb){a:Addr}(n:mS σ ρ1 Hb a):mS σ ρ H a:=n.elim (fun z=>.inl (t.stp.gone z)) fun z=>.inr (t.own a z)
theorem sS.app{σ:L2.St}{ρ1 ρ2:Dm.Env}{H1 Hb H2 Hc:Hp}{f fp:List Addr}(hf:f.Nodup)(h1:∀a∈f,(∃o,Hb a=some o)/\¬ao σ ρ1 a)(h2:∀a∈f,H2 a=none/\¬ao σ ρ2 a)(g:sS σ ρ2 H2 fp)(gn:∀a∈fp,mS σ ρ1 Hb a):sS σ ρ2 H2 (f++fp):=by
 refine⟨List.nodup_append.mpr ⟨hf,g.1,fun a ha b hb z=>?_⟩,fun a ha=>(Nt.mp ha).elim (h2 a) (g.2 a)⟩;subst z;obtain⟨⟨o,q1⟩,q2⟩:=h1 a ha;rcases gn a hb with z | z
 ·rw[q1]at z;cases z
 ·exact q2 z
theorem C8{f:Dm.FP}{fs:List Dm.FP}{Q:List V->Hp->Prop}(h:Al (f::fs) σ H Q):jJ (tDp f) (Al fs) σ H Q:=by
 obtain⟨H0,ρ,xs,ρ',st,e,k⟩:=h;unfold Dm.pAs at e;split at e
 ·cases e
 rename_i x1 ρ1 e1;split at e
 ·cases e
 rename_i xs1 ρ2 e2;cases e;refine⟨H0,ρ,x1,ρ1,st,e1,fun v H1 Hb f1 t1 r1 g1=>⟨H1,ρ1,xs1,_,t1.st,e2,fun vs H2 Hc f2 t2 r2 g2=>?_⟩⟩;obtain⟨m1,m2⟩:=r1.est t1.st t2 g1.2;refine k (v::vs) H2 Hc (f1++f2) (t1.trans t2) (.cons m1 (r2.mono (aq.refl _) (fun a n=>mS.back t1 n) (fun _ _ _ h=>h) fun _ _=>rfl)) (sS.app (H1:=H1) (Hc:=Hc) g1.1 (fun a ha=>⟨?_,(g1.2 a ha).2⟩) m2 g2 fun a ha=>(r2.fpN a ha).1);obtain⟨_,ys,h⟩:=r1.fpN a ha;exact⟨_,h⟩
theorem GH{fs:List Dm.FP}(h:tDp (Dm.pT fs) σ H Q):Cm (Al fs) σ H Q:=by
 obtain⟨H0,ρ,x,ρ',st,e,k⟩:=h;unfold Dm.pT at e;split at e
 ·cases e
 rename_i ps ρ1 e1;split at e
 case isFalse=>cases e
 rename_i hz;cases e;refine⟨H0,ρ,ps,_,st,e1,fun vs H1 Hb fp t1 r1 g1=>⟨by rw[r1.length];exact jM hz,fun a ha=>?_⟩⟩;have g:=aN.mw (o:=HO.tup vs) t1.st.same ha;have t2:=ESt.grow t1.st g;refine k _ H1 _ fp (t1.trans t2) (.t (.inl (t1.stp.gone ha)) aF (r1.mono g.s0 (fun _ n=>n) (fun b us _ h=>g.s1 b _ h) fun b hb=>?_)) g1;obtain⟨_,xs,h⟩:=r1.fpN b hb;rw[g.s1 b _ h,h]
end
section
variable{X:Cx}{e:Expr}{es:List Expr}{f:FE}{fp:Dm.FP}{fps:List Dm.FP}{pos:Pos}
theorem p_o(h:DE X e f):DP X e (Dm.pO f):=PE.weak h fun _ _ _=>Lv
theorem Jw:DPA X [] []:=PA.weak gB fun _ _ _=>GG
theorem yf(h:DP X e fp)(r:DPA X es fps)(hs:starEach (e::es) X.env=(false,eval e X.env)::starEach es X.env:=by rfl):DPA X (e::es) (fp::fps):=PA.weak (cE h r hs) fun _ _ _=>C8
theorem Ey{x1}(h:DPA X es fps):DP X (.Tuple es x1 pos) (Dm.pT fps):=PE.weak (uU h) fun _ _ _=>GH
end
def spP(f:List Dat->Option Dm.Dp):Sp:=fun vs H Q _=>∃H0 ds p,aq H0 H/\aM H0 vs ds/\f ds=some p/\∀v H0' H' fp,aN H0 H H0' H'->eY (fun a=>H a=none) H0' H' v p fp->fp.Nodup->(∀a∈fp,H0' a=none)->Q v H'
def tDP(g:Dm.FSP):TS:=fun D σ H=>∃H0 ρ p,au H0 H σ ρ/\g ρ=some p/\∀σ' ρ' v H0' H' fp,SSt σ ρ H0 H σ' ρ' H0' H'->eY (mS σ ρ H) H0' H' v p fp->fp.Nodup->(∀a∈fp,H0' a=none)->D.rt v H'
noncomputable abbrev DQs(X:Cx)(st:List Stmt)(g:Dm.FSP):Prop:=PSs X st (tDP g)
section
variable{D:Ends}{σ:L2.St}{H:Hp}
section
variable{vs:List V}{ds:List Dat}{g:Dm.FSP}{n m:Nat}{N:List Str}{E:XK}{Q:VK}
theorem Lw{f:Dm.FP}(h:tDP (Dm.qR f) D σ H):Ce (tDp f) D σ H:=by
 obtain⟨H0,ρ,p,st,e,k⟩:=h;unfold Dm.qR at e;split at e
 ·cases e
 rename_i p' ρ1 e1;cases e;exact⟨H0,ρ,_,ρ1,st,e1,fun v H0' H' fp t r g=>k σ ρ1 v H0' H' fp t.sst r g.1 fun a ha=>(g.2 a ha).1⟩
theorem GI{s:FS}(h:tDP (Dm.lE s g) D σ H):rQ (tDS s) (tDP g) D σ H:=by
 obtain⟨H0,ρ,p,st,e,k⟩:=h;unfold Dm.lE at e;split at e
 case h_2=>cases e
 rename_i ρ1 e1;refine⟨H0,ρ,_,st,e1,fun σ1 H1 Hb t1=>⟨H1,ρ1,p,t1.st,e,fun σ2 ρ2 v H2 Hc fp t2 r nd n=>k σ2 ρ2 v H2 Hc fp (t1.trans t2) ?_ nd n⟩⟩;exact r.mono (aq.refl _) (fun a z=>z.elim (fun z=>.inl (t1.stp.gone z)) fun z=>(t1.own a z).elim .inr .inl) (fun _ _ _ h=>h) fun _ _=>rfl
theorem jW{m i:Nat}{c:Dm.Cell}(h:(ds.map Dm.Cell.sh++gV m .un)[i]?=some c):(∃d,c=.sh d/\ds[i]?=some d)\/c=.un:=by
 by_cases hi:i<ds.length
 ·rw[HT (by simpa using hi),Mq]at h;cases q:ds[i]? with
  |none=>rw[q]at h;cases h
  |some y=>rw[q]at h;cases h;exact .inl ⟨y,rfl,rfl⟩
 ·rw[Mp (by simpa using hi),My]at h;split at h<;>cases h
  exact .inr rfl
theorem Am{H0 H:Hp}(hm:N.length=n+m)(hn:ds.length=n)(s:aq H0 H)(rs:aM H0 vs ds) :
  au H0 H (start N vs) (ds.map Dm.Cell.sh++gV m .un)/\∀a,¬ao (start N vs) (ds.map Dm.Cell.sh++gV m .un) a:=by
 have hl:=rs.length;refine⟨⟨s,?_,fun i d h=>?_,fun i d h=>?_,fun i j d e a h1 h2 _ _=>?_⟩,fun a ⟨i,d,h1,_⟩=>?_⟩
 ·unfold L2.start;simp only[Mt,Mg,M0]
  lia
 ·rcases jW h with⟨d',z,q⟩ | z
  ·cases z;obtain⟨v,hv,r⟩:=rs.get q;have hi:i<vs.length:=(Dk.mp hv).1;refine⟨v,?_,r⟩;unfold L2.start;rw[HT (by simpa using hi),Mq,hv];rfl
  ·cases z
 ·rcases jW h with⟨d',z,q⟩ | z<;>cases z
 ·rcases jW h1 with⟨d',z,q⟩ | z<;>cases z
 ·rcases jW h1 with⟨d',z,q⟩ | z<;>cases z
theorem jX{H:Hp}(h:spP (Dm.fnP n m g) vs H Q E):vs.length=n:=by
 obtain⟨H0,ds,z,s,rs,e,k⟩:=h;unfold Dm.fnP at e;split at e
 ·rename_i hl;rw[rs.length];exact hl
 ·cases e
theorem sV(hm:N.length=n+m)(h:spP (Dm.fnP n m g) vs H Q E) :
  tDP g { nx:=fun _ H'=>Q .non H',rt:=Q } (start N vs) H:=by
 obtain⟨H0,ds,p,s,rs,e,k⟩:=h;unfold Dm.fnP at e;split at e
 case isFalse=>cases e
 rename_i hl;obtain⟨st,no⟩:=Am hm hl s rs;refine⟨H0,_,p,st,e,fun σ' ρ' v H0' H' fp t r nd n=>k v H0' H' fp ⟨t.stp.s0,fun a o e=>t.stp.s1 a o e (no a),fun a o e=>(t.stp.s2 a o e).imp id fun q=>q.elim id fun z=>absurd z (no a),t.st.same⟩ ?_ nd n⟩;exact r.mono (aq.refl _) (fun a z=>z.elim id fun z=>absurd z (no a)) (fun _ _ _ h=>h) fun _ _=>rfl
end
end
section
variable{X:Cx}{e:Expr}{st:Stmt}{qU:List Stmt}{fp:Dm.FP}{fs:FS}{g:Dm.FSP}{pos:Pos}
theorem q_r(h:DP X e fp):DQs X [.Return (some e) pos] (Dm.qR fp):=fT (PS.weak (qo h) fun _ _ _=>Lw)
theorem mT(h1:DS X st fs)(h2:DQs X qU g):DQs X (st::qU) (Dm.lE fs g):=PSs.weak (eN h1 h2) fun _ _ _=>GI
end
theorem au.An{H0 H:Hp}{σ:L2.St}{ρ:Dm.Env}(st:au H0 H σ ρ)(j:Nat)(v:Option V):au H0 H (σ.set j v) (ρ.set j .un)/\∀a,ao (σ.set j v) (ρ.set j .un) a->ao σ ρ a:=by
 refine⟨⟨st.same,by rw[Mx,Mx];exact st.len,fun i d h=>?_,fun i d h=>?_,fun i i' d d' a h1 h2 h3 h4=>?_⟩,fun a ⟨i,d,h1,h2⟩=>?_⟩
 ·rcases aR h with⟨_,z⟩ | ⟨hij,h⟩
  ·cases z
  ·obtain⟨v,q,r⟩:=st.sh i d h;exact⟨v,by rw[gp (MJ hij)];exact q,r⟩
 ·rcases aR h with⟨_,z⟩ | ⟨hij,h⟩
  ·cases z
  ·obtain⟨v,q,r⟩:=st.ow i d h;exact⟨v,by rw[gp (MJ hij)];exact q,r⟩
 ·rcases aR h1 with⟨_,z⟩ | ⟨q1,h1⟩
  ·cases z
  rcases aR h2 with⟨_,z⟩ | ⟨q2,h2⟩
  ·cases z
  rw[gp (MJ q1)]at h3;rw[gp (MJ q2)]at h4;exact st.dis i i' d d' a h1 h2 h3 h4
 ·rcases aR h1 with⟨_,z⟩ | ⟨hij,h1⟩
  ·cases z
  ·rw[gp (MJ hij)]at h2;exact⟨i,d,h1,h2⟩
structure MS(j:Nat)(σs:L2.St)(ρs:Dm.Env)(H0s Hs:Hp)(σ:L2.St)(ρ:Dm.Env)(H0 H:Hp)(p:Dm.Dp):Prop where
 st:au H0 H σ ρ
 stp:Stp (ao σs ρs) H0s Hs H0 H
 own:∀a,ao σ ρ a->ao σs ρs a\/Hs a=none
 fx:σ[0]?=σs[0]?
 ex:∃v fp,σ[j]?=some (some v)/\eY (fun a=>Hs a=none) H0 H v p fp/\sS σ ρ H0 fp
section
variable{j:Nat}{σs:L2.St}{ρs:Dm.Env}{H0s Hs:Hp}{σ:L2.St}{ρ ρ':Dm.Env}{H0 H H0' H':Hp}{p:Dm.Dp}
theorem MS.sst(n:MS j σs ρs H0s Hs σ ρ H0 H p):SSt σs ρs H0s Hs σ ρ H0 H:=⟨n.st,n.stp,n.own,n.fx⟩
theorem MS.est(n:MS j σs ρs H0s Hs σ ρ H0 H p)(t:ESt σ ρ H0 H ρ' H0' H'):MS j σs ρs H0s Hs σ ρ' H0' H' p:=by obtain⟨v,fp,h1,h2,h3⟩:=n.ex;obtain⟨m1,m2⟩:=h2.est n.st t h3.2;exact⟨t.st,n.stp.trans t.stp n.own,fun a z=>n.own a (t.own a z),n.fx,v,fp,h1,m1,h3.1,m2⟩
theorem MS.grow(n:MS j σs ρs H0s Hs σ ρ H0 H p)(g:aN H0 H H0' H'):MS j σs ρs H0s Hs σ ρ H0' H' p:=n.est (.grow n.st g)
open Classical in
noncomputable def bor(H0 H:Hp)(N:Addr->Prop):Hp:=fun a=>match H0 a with
 |some o=>some o
 |none=>if N a then H a else none
theorem kH{N:Addr->Prop}:aq H0 (bor H0 H N):=fun a o e=>by unfold bor;rw[e]
theorem C9{N:Addr->Prop}(s:aq H0 H):aq (bor H0 H N) H:=fun a o e=>by
 unfold bor at e;split at e
 ·rename_i q;cases e;exact s _ _ q
 ·split at e
  ·exact e
  ·cases e
theorem qP{N:Addr->Prop}(s:aq H0 H){a:Addr}{o:HO}(n:N a)(h:H a=some o):bor H0 H N a=some o:=by
 unfold bor;split
 ·rename_i o' q;rw[<- h];exact(s _ _ q).symm
 ·rw[if_pos n];exact h
def Look(Hs:Hp)(σ:L2.St)(ρ:Dm.Env)(a:Addr):Prop:=Hs a=none\/ao σ ρ a
theorem qQ{j:Nat}{σ:L2.St}{ρ:Dm.Env}{p:Dm.Dp}{a:Addr}:¬ao σ (Dm.see j ρ p) a:=fun⟨i,d,h1,_⟩=>by
 unfold Dm.see Dm.wK at h1;rw[Mq]at h1;cases q:(ρ.set j (.sh p.dat))[i]? with
 |none=>rw[q]at h1;cases h1
 |some c=>rw[q]at h1;cases c<;>cases h1
theorem MS.see(n:MS j σs ρs H0s Hs σ ρ H0 H p):au (bor H0 H (Look Hs σ ρ)) H σ (Dm.see j ρ p):=by
 obtain⟨v,fp,h1,h2,h3⟩:=n.ex;refine⟨C9 n.st.same,by unfold Dm.see Dm.wK;rw[Mg,Mx];exact n.st.len,fun i d h=>?_,fun i d h=>?_,fun i i' d d' a z1 z2 z3 z4=>?_⟩
 ·unfold Dm.see Dm.wK at h;rw[Mq]at h;cases q:(ρ.set j (.sh p.dat))[i]? with
  |none=>rw[q]at h;cases h
  |some c=>
   rw[q]at h;rcases aR q with⟨rfl,rfl⟩ | ⟨_,q⟩
   ·cases h;exact⟨v,h1,h2.rep kH fun a o z w=>qP n.st.same (.inl z) w⟩
   ·cases c with
    |un=>cases h
    |sh d'=>cases h;obtain⟨u,w1,w2⟩:=n.st.sh i d q;exact⟨u,w1,w2.mono kH⟩
    |ow d'=>
     cases h;obtain⟨a,w1,w2,w3⟩:=n.st.ow i d q;have lk:Look Hs σ ρ a:=.inr ⟨i,d,q,w1⟩;refine⟨_,w1,?_⟩;cases d with
     |lst ds=>obtain⟨xs,y,rs⟩:=w3;exact .lst (.inl (qP n.st.same lk y)) (rs.mono kH)
     |dct ks ds=>obtain⟨xs,y,k,rs⟩:=w3;exact .dct (qP n.st.same lk y) k (rs.mono kH)
     |dcp ks ds=>obtain⟨xs,y,k,rs⟩:=w3;exact .dcp (qP n.st.same lk y) (k.mono kH) (rs.mono kH)
     |_=>exact w3.elim
 ·exact(qQ (σ:=gV (i+1) (some (V.ref 0))) (a:=0) ⟨i,d,h,by rw[My,if_pos (Nat.lt_succ_self i)]⟩).elim
 ·exact(qQ ⟨i,d,z1,z3⟩).elim
theorem MS.seen(n:MS j σs ρs H0s Hs σ ρ H0 H p){Hb:Hp}(t:ESt σ (Dm.see j ρ p) Hb H ρ' H0' H'):aN H0 H H0 H':=
 ⟨aq.refl _,fun a o e=>t.stp.s1 a o e qQ,fun a o e=>.inr e,n.st.same.trans fun a o e=>t.stp.s1 a o e qQ⟩
end
def tDM(j:Nat)(g:Dm.FM):TS:=fun D σ H=>∃σs ρs H0s Hs H0 ρ p o,MS j σs ρs H0s Hs σ ρ H0 H p/\g ρ p=some o/\kQ D σs ρs H0s Hs o
noncomputable abbrev DMs(X:Cx)(j:Nat)(st:List Stmt)(g:Dm.FM):Prop:=PSs X st (tDM j g)
section
variable{D:Ends}{σ:L2.St}{H:Hp}{j:Nat}
theorem GJ{gs:FS}(h:tDM j (Dm.Lu gs) D σ H):tDS gs D σ H:=by obtain⟨σs,ρs,H0s,Hs,H0,ρ,p,o,n,e,k⟩:=h;exact⟨H0,ρ,o,n.st,e,k.pre n.sst⟩
theorem Jx{t:FT}{fs:FS}{g:Dm.FM}(h:tDM j (Dm.mIf j t fs g) D σ H):rQ (yK (tDT t) (tDS fs) v_) (tDM j g) D σ H:=by
 obtain⟨σs,ρs,H0s,Hs,H0,ρ,p,o,n,e,k⟩:=h;unfold Dm.mIf at e;split at e
 ·cases e
 ·rename_i ρ1 e1;refine⟨_,_,true,ρ1,n.see,e1,fun H1 Hb t1=>?_⟩;dsimp only;rw[if_pos rfl];have n1:=n.grow (n.seen t1);have k1:=k.pre n1.sst;split at e
  ·cases e
  ·rename_i hn;refine⟨H0,ρ,o,n1.st,e,?_⟩;cases o with
   |nx ρ'=>exact(hn ρ' e).elim
   |bk ρ'=>exact k1
   |ct ρ'=>exact k1
   |ret z ρ'=>exact k1
 ·rename_i ρ1 e1;refine⟨_,_,false,ρ1,n.see,e1,fun H1 Hb t1=>?_⟩;dsimp only;rw[if_neg MF];exact⟨σs,ρs,H0s,Hs,H0,ρ,p,o,n.grow (n.seen t1),e,k⟩
theorem MS.wr{σs:L2.St}{ρs:Dm.Env}{H0s Hs:Hp}{ρ:Dm.Env}{H0:Hp}{p:Dm.Dp}(n:MS j σs ρs H0s Hs σ ρ H0 H p){a:Addr}(h1:Hs a=none)(h2:H0 a=none)(h3:¬ao σ ρ a)(o:HO):SSt σs ρs H0s Hs σ ρ H0 (upd H a o):=
 ⟨n.st.aside h2 h3,n.stp.aside h1,n.own,n.fx⟩
theorem GK{K:gc}{i:Int}{gs:FS}(h:tDM j (Dm.ye i gs) D σ H):rQ (rR (FW K "list" uW (tOp (Cn K) (uQ j) (tC (.int i))))) (tDS gs) D σ H:=by
 obtain⟨σs,ρs,H0s,Hs,H0,ρ,p,o,n,e,k⟩:=h;unfold Dm.ye at e;split at e
 case h_2=>cases e
 rename_i ps;split at e
 ·cases e
 rename_i m em;split at e
 case h_2=>cases e
 rename_i rows hi;obtain⟨v,fp,h1,h2,h3⟩:=n.ex;cases h2 with
 |t hN ha rs=>
  rename_i a vs;obtain⟨u,f,hu,ru,hf⟩:=rs.get hi;cases ru with
  |l hNb hb rb=>
   rename_i b us fb;obtain⟨z1,z2⟩:=h3.2 b (hf b MA);refine⟨_,h1,a,vs,i,.ref b,rfl,rfl,.of ha,?_,.inl ⟨rfl,us,.inl (.inl hb)⟩,b,us,rfl,rfl,hb,?_⟩
   ·show (L2.ixN vs.length i).bind (fun j=>vs[j]?)=_;rw[<- F6,rs.length,em];exact hu
   ·have t:=n.wr hNb z1 z2 (.lst []);exact⟨H0,ρ,o,t.st,e,k.pre t⟩
theorem GL{f:List Dat->Option Dm.Dp}{fs:List FE}{g:Dm.FM}{E:XK}(hj:j<σ.length)(h:tDS (Dm.pR j f fs g) D σ H):rQ (rT (rZ (spP f) [] E (tDA fs)) (jG j)) (tDM j g) D σ H:=by
 obtain⟨H0,ρ,o,st,e,k⟩:=h;unfold Dm.pR at e;split at e
 ·cases e
 rename_i hj0;split at e
 ·cases e
 rename_i xs ρ1 e1;split at e
 ·cases e
 rename_i ds ρ2 e2;split at e
 ·cases e
 rename_i p ep;refine⟨H0,ρ,xs,ρ1,st,e1,fun vs H1 Hb t1 r1=>?_⟩;dsimp only;rw[MN];obtain⟨H2,t2,b2,r2⟩:=takes t1 (aq.refl _) r1 e2;refine⟨H2,ds,p,t2.st.same,r2,ep,fun v H3 Hd fp g3 r3 nd n3=>?_⟩;have t3:=t2.trans (.grow t2.st g3);obtain⟨s1,s2⟩:=t3.st.An j (some v);refine⟨σ,ρ,H0,H,H3,_,p,o,⟨s1,t3.stp,fun a z=>.inl (t3.own a (s2 a z)),gp hj0,v,fp,Mn hj,r3.mono (aq.refl _) (fun a n=>t2.stp.gone n) (fun _ _ _ h=>h) fun _ _=>rfl,nd,fun a ha=>⟨n3 a ha,fun z=>?_⟩⟩,e,k⟩;exact t2.st.gH (r3.fpN a ha).1 (s2 a z)
end
section
variable{X:Cx}{e c:Expr}{qU:List Stmt}{fs gs:FS}{g:Dm.FM}{pos:Pos}{j:Nat}
theorem Lx{t:FT}{x:List Stmt}(ht:DT X c t)(ha:DSs X x fs)(hr:DMs X j qU g):DMs X j (.If c x [] pos::qU) (Dm.mIf j t fs g):=PSs.weak (eN (rS ht ha qm) hr) fun _ _ _=>Jx
theorem GN(j:Nat){k:Nat}{F:Addr}{fd:FuncData}{ps:List Str}{f:List Dat->Option Dm.Dp}{x y:Str}{es:List Expr}{as:List FE}{p pos' cpos:Pos}(hN:X.N.Nodup)(G:aP X.prog X.w X.K X.mg X.base CX0 k F fd ps (spP f))(hr:bM k X.A)(hg:Gl X x)(hm:X.mg x=some (.ref F))(hk:MZ X.K (.ref F)=true)(hb:Binds X.K fd ps [])
  (ha:DA X (e::es) as) (hre:DMs X j qU g) (hi:X.N[j]?=some y:=by rfl) (hx:Loc X.env.scope y:=by trivial) (hs:swapsWith (.Call (.Name x p) (e::es) [] cpos) (some (.Name y pos')) pos.line X.env=pure false:=by rfl)
  (hf:X.fn y=true\/X.env.scope.names.lookup y=some .local:=by trivial) (JF:(x == ("__debug__" : Str))=false:=by decide) (he:starEach (e::es) X.env=(false,eval e X.env)::starEach es X.env:=by rfl) (En:(backTo cpos (starEach es X.env)).any (·.1)=false:=by rfl) :
  DSs X (.Assign [.Name y pos'] (.Call (.Name x p) (e::es) [] cpos) pos::qU) (Dm.pR j f as g):=by
 have h:=eN (lX hN hi hx (lM G hr hg hm hk hb .nil (r_ (X:=X)) ha JF he En) hs hf) hre;intro mU s σ H D I q;exact h mU s σ H D I (GL (by rw[I.len];exact(Dk.mp hi).1) q)
end
end Br
namespace Dm
noncomputable def iD(f:List Dat->Option Dp)(as:List FE):FP:=fun ρ=>match eAs as ρ with
 |none=>none
 |some (xs,ρ1)=>match tks ρ1 xs with
  |none=>none
  |some (ds,ρ2)=>match f ds with
   |none=>none
   |some p=>some (p,ρ2)
end Dm
namespace Br
open PySem PySem.Spec PyProof.Rows L2
section
variable{σ:L2.St}{H:Hp}{Q:VK}
theorem C_{f:List Dat->Option Dm.Dp}{fs:List FE}{E:XK}(h:tDp (Dm.iD f fs) σ H Q):rZ (spP f) [] E (tDA fs) σ H Q:=by
 obtain⟨H0,ρ,p,ρ',st,e,k⟩:=h;unfold Dm.iD at e;split at e
 ·cases e
 rename_i xs ρ1 e1;split at e
 ·cases e
 rename_i ds ρ2 e2;split at e
 ·cases e
 rename_i p' ep;cases e;refine⟨H0,ρ,xs,ρ1,st,e1,fun vs H1 Hb t1 r1=>?_⟩;dsimp only;rw[MN];obtain⟨H2,t2,b2,r2⟩:=takes t1 (aq.refl _) r1 e2;refine⟨H2,ds,p,t2.st.same,r2,ep,fun v H3 Hd fp g3 r3 nd n3=>?_⟩;exact k v H3 Hd fp (t2.trans (.grow t2.st g3)) (r3.mono (aq.refl _) (fun a n=>.inl (t2.stp.gone n)) (fun _ _ _ h=>h) fun _ _=>rfl) ⟨nd,fun a ha=>⟨n3 a ha,t2.st.gH (r3.fpN a ha).1⟩⟩
end
section
variable{X:Cx}{e c:Expr}{es:List Expr}{qU:List Stmt}{fs:List FE}{f:FE}{fp:Dm.FP}{gq:Dm.FSP}{g ga:Dm.FM}{pos p:Pos}{j:Nat}
theorem qS{k:Nat}{F:Addr}{fd:FuncData}{ps:List Str}{h:List Dat->Option Dm.Dp}{x:Str}(G:aP X.prog X.w X.K X.mg X.base CX0 k F fd ps (spP h))(hr:bM k X.A)(hg:Gl X x)(hm:X.mg x=some (.ref F))(hk:MZ X.K (.ref F)=true)(hb:Binds X.K fd ps [])
  (ha:DA X (e::es) fs) (JF:(x == ("__debug__" : Str))=false:=by decide) (he:starEach (e::es) X.env=(false,eval e X.env)::starEach es X.env:=by rfl) (En:(backTo pos (starEach es X.env)).any (·.1)=false:=by rfl) :
  DP X (.Call (.Name x p) (e::es) [] pos) (Dm.iD h fs):=PE.weak (lM G hr hg hm hk hb .nil (r_ (X:=X)) ha JF he En) fun _ _ _=>C_
end
open PySem L2
structure bE(K:gc)(x:Str)(st:Stmt)(a:Addr)(fd:FuncData):Prop where
 e:Mu K mainGlobals x=some (some (.ref a))
 F:Fun K x x st a fd
variable{K:gc}{x:Str}{st:Stmt}{a:Addr}{fd:FuncData}{hp:Heap}{mg:Str->Option Value}
theorem aI{oc:Value}{od an:Option Addr}{osl:Array (Option Value)}{kV doc pm cdv ct:Value}(e:Mu K mainGlobals x=some (some (.ref a)))
  (l:K.lookup a=some ⟨oc,od,.func (MK x x (bO st) (bh st) (ai st) .none kV doc pm an cdv ct),osl⟩) (c:NL K cdv x=true) (k:MZ K (.ref a)=true) :
  bE K x st a (MK x x (bO st) (bh st) (ai st) .none kV doc pm an cdv ct):=⟨e,F1 l c k⟩
theorem mgo{v:Value}(X:K.In hp)(G:hp.Ns mainGlobals mg)(e:Mu K mainGlobals x=some (some v)):mg x=some v:=PySem.W.mg_of X G e
theorem mno(X:K.In hp)(G:hp.Ns mainGlobals mg)(e:Mu K mainGlobals x=some none):mg x=none:=PySem.W.mg_none_of X G e
theorem bE.m(h:bE K x st a fd)(X:K.In hp)(G:hp.Ns mainGlobals mg):mg x=some (.ref a):=PySem.W.mg_of X G h.e
theorem bE.Ly{y:Str}(h:bE K x st a fd)(hb:∀(kV doc pm:Value) (an:Option Addr) (cdv ct v:Value),bindArgs (MK x x (bO st) (bh st) (ai st) .none kV doc pm an cdv ct) ⟨[v],[]⟩=pure [(y,v)])(s:Shared)(v:Value):BindsTo s fd ⟨[v],[]⟩ [(y,v)]:=by obtain⟨oc,od,kV,doc,pm,an,cdv,ct,osl,rfl,lk,JL⟩:=h.F.ex;exact .of_eq (hb kV doc pm an cdv ct v)
theorem hm{j k:Nat}{A:Around}(r:bM k A)(h:j<=k:=by decide):bM j A:=r.mono h
theorem fsc{N P:List Str}{sc:Scope}(h1:sc.kind=.function:=by rfl)(h2:sc.isCoroutine=false:=by rfl)(h3:sc.isGenerator=false:=by rfl)(h4:N.take P.length=P:=by rfl)(h:N.Nodup/\(∀x∈P,sc.names.lookup x=some .local\/sc.names.lookup x=some .cell)/\∀y∈sc.names,y.2≠.free:=by decide +kernel):ay N P sc:=⟨h1,h2,h3,h.1,h4,h.2.1,h.2.2⟩
end Br
namespace Dm
noncomputable def rOr(R S:Env->Option Env)(ρ:Env):Option Env:=match R ρ with
 |some x=>some x
 |none=>S ρ
noncomputable def yg(s:FS)(R:Env->Option Env)(ρ:Env):Option Env:=match s ρ with
 |some (.nx ρ1)=>R ρ1
 |_=>none
noncomputable def sUn(f g:FS):FS:=fun ρ=>match f ρ with
 |some x=>some x
 |none=>g ρ
noncomputable def gM(R:Env->Option Env)(C ie:Nat)(h:FS):FS:=fun ρ=>match R ρ with
 |none=>none
 |some ρ1=>if ie=0 then none else match h (ρ1.set ie (.sh (.exc C))) with
  |some (.nx ρ')=>some (.nx (ρ'.set ie .un))
  |some (.ret r ρ')=>some (.ret r (ρ'.set ie .un))
  |_=>none
noncomputable def kI:List Nat->List Bool->Nat->Option Bool
 |C::cs,b::bs,D=>if D=C then some b else kI cs bs D
 |_,_,_=>none
noncomputable def d7(cs:List Nat)(bs:List Bool):Dat->Option RV
 |.exc C=>(kI cs bs C).bind vB
 |.di C _=>(kI cs bs C).bind vB
 |_=>none
end Dm
namespace Br
open PySem PySem.Spec PyProof.Rows L2
section
variable{X:Cx}{C:Addr}{E:L2.St->XK}{R S:Dm.Env->Option Dm.Env}{sts qU:List Stmt}{st:Stmt}
section
variable{σ:L2.St}{t:FT}{H:Hp}
theorem GO{f g:FS}(h1:DS X st f)(h2:DS X st g):DS X st (Dm.sUn f g):=fun mU s σ H D I q=>by
 obtain⟨H0,ρ,o,rs,e,k⟩:=q;unfold Dm.sUn at e;split at e
 ·rename_i y hy;exact h1 mU s σ H D I ⟨H0,ρ,o,rs,hy.trans e,k⟩
 ·exact h2 mU s σ H D I ⟨H0,ρ,o,rs,e,k⟩
def tY(C:Addr)(E:L2.St->XK)(R:Dm.Env->Option Dm.Env)(σ:L2.St)(H:Hp):Prop:=∃H0 ρ ρ',au H0 H σ ρ/\R ρ=some ρ'/\∀σ' a H0' H',SSt σ ρ H0 H σ' ρ' H0' H'->E σ' (.ref C) (some a) H'
noncomputable abbrev YS(X:Cx)(C:Addr)(E:L2.St->XK)(st:Stmt)(R:Dm.Env->Option Dm.Env):Prop:=PS X st (fun _ σ H=>tY C E R σ H)
noncomputable abbrev YB(X:Cx)(C:Addr)(E:L2.St->XK)(sts:List Stmt)(R:Dm.Env->Option Dm.Env):Prop:=PSs X sts (fun _ σ H=>tY C E R σ H)
theorem tY.x(h:tY C E R σ H):tX C E R σ H:=by obtain⟨H0,ρ,ρ',st,e,k⟩:=h;exact⟨H0,ρ,ρ',st,e,fun a H0' H' t=>k σ a H0' H' t.sst⟩
theorem y_x(h:XS X C E st R):YS X C E st R:=PS.weak h fun _ _ _ q=>q.x
theorem b4(h:YS X C E st R):YB X C E (st::qU) R:=by have:=Af (qU:=qU) h;exact fun mU s σ H D I q=>this mU s σ H D I q
theorem Lz(h1:YB X C E sts R)(h2:YB X C E sts S):YB X C E sts (Dm.rOr R S):=fun mU s σ H D I q=>by
 obtain⟨H0,ρ,ρ',st,e,k⟩:=q;unfold Dm.rOr at e;split at e
 ·rename_i y hy;exact h1 mU s σ H D I ⟨H0,ρ,ρ',st,hy.trans e,k⟩
 ·exact h2 mU s σ H D I ⟨H0,ρ,ρ',st,e,k⟩
theorem Ez{s:FS}(h1:DS X st s)(h2:YB X C E qU R):YB X C E (st::qU) (Dm.yg s R):=PSs.weak (eN h1 h2) fun D σ H q=>by
 obtain⟨H0,ρ,ρ',rs,e,k⟩:=q;unfold Dm.yg at e;split at e
 case h_2=>cases e
 rename_i ρ1 hs;exact⟨H0,ρ,_,rs,hs,fun σ' H0' H' t=>⟨H0',ρ1,ρ',t.st,e,fun σ'' a qD H'' u=>k σ'' a qD H'' (t.trans u)⟩⟩
theorem Jy(h:tY C E (Dm.rIf t R S) σ H):tDT t σ H fun b H1=>if b=true then tY C E R σ H1 else tY C E S σ H1:=by
 obtain⟨H0,ρ,ρ',rs,e,k⟩:=h;unfold Dm.rIf at e;split at e
 ·cases e
 ·rename_i ρ1 ht;exact⟨H0,ρ,true,ρ1,rs,ht,fun H0' H' u=>by show (if true=true then _ else _);rw[if_pos rfl];exact⟨H0',ρ1,ρ',u.st,e,fun σ'' a qD H'' w=>k σ'' a qD H'' (u.sst.trans w)⟩⟩
 ·rename_i ρ1 ht;exact⟨H0,ρ,false,ρ1,rs,ht,fun H0' H' u=>by show (if false=true then _ else _);rw[if_neg (by decide)];exact⟨H0',ρ1,ρ',u.st,e,fun σ'' a qD H'' w=>k σ'' a qD H'' (u.sst.trans w)⟩⟩
theorem vg{c:Expr}{a b:List Stmt}{pos:Pos}(hc:DT X c t)(ha:YB X C E a R)(hb:YB X C E b S):YS X C E (.If c a b pos) (Dm.rIf t R S):=PS.weak (rS hc ha hb) fun _ _ _ q=>Jy q
theorem Ao:YB X C E sts Dm.rNo:=fun mU s σ H D I h=>by obtain⟨_,_,_,_,e,_⟩:=h;cases e
end
end
theorem GP{X:Cx}{body:List Stmt}{h0:ExceptHandler}{hs:List ExceptHandler}{q:FS}{pos:Pos}(hb:∀(pn:List (Addr×Obj)) (xe:Value->Shared->Prop),DSs (Cx.in' X pn xe) body q):DS X (.Try body (h0::hs) [] [] pos) q:=by
 intro mU s σ H D I hq;refine wpAny_Try_except ?_;refine wpAny_mono (hb mU _ [] s σ H D (vf I) hq) (fun f s1 z=>?_) fun _ _ z=>z;cases f with
 |next=>obtain⟨σ',H',J,k⟩:=z;exact wpAny_execs_nil ⟨σ',H',dM J,k⟩
 |ret v=>obtain⟨u,σ',H',J,r,k⟩:=z;exact⟨u,σ',H',dM J,r,k⟩
 |brk=>obtain⟨σ',H',J,k⟩:=z;exact⟨σ',H',dM J,k⟩
 |cont=>obtain⟨σ',H',J,k⟩:=z;exact⟨σ',H',dM J,k⟩
section
variable{X:Cx}{mU pn:List (Addr×Obj)}{σ:L2.St}{H:Hp}{s:Shared}{xe:Value->Shared->Prop}
theorem lP{x n:Str}{np hpos pos:Pos}{body suite:List Stmt}{b₀:Stmt}{R:Dm.Env->Option Dm.Env}{h:FS}{C CP:Addr}{ie:Nat}
  (hst:X.stack=X.env::X.outer) (hfr:X.env.frame=some X.env.locals) (hex:X.ex=[]) (hN:X.N.Nodup) (hi:X.N[ie]?=some n) (hk:X.env.kindOf n=some .local) (hg:Gl X x) (hm:X.mg x=some (.ref CP)) (Z:PySem.W.lO X.K C CP)
  (hb:∀(pn:List (Addr×Obj)) (xe:Value->Shared->Prop) (E:L2.St->XK),wI C (Cx.in' X pn xe) E->YB (Cx.in' X pn xe) C E body R)
  (hh:∀(ea:Addr) (xe:Value->Shared->Prop),PSs (Cx.sub' X (X.A.mark (some (.ref ea))) xe) (b₀::suite) (fun D σ H=>σ[ie]?=some (some (V.ref ea))/\tDS h D σ H)) (JF:(x == ("__debug__" : Str))=false:=by decide) :
  DS X (.Try body [.ExceptHandler (some (.Name x np)) (some n) (b₀::suite) hpos] [] [] pos) (Dm.gM R C ie h):=by
 intro mU s σ H D I hq;obtain⟨H0,ρ,o,st,e,ok⟩:=hq;unfold Dm.gM at e;split at e
 ·cases e
 rename_i ρ1 hR;split at e
 ·cases e
 rename_i h0;refine wpAny_Try_except ?_;refine wpAny_mono (hb mU (fun e s₁=>wpAny (model X.prog X.w) X.A (noteFrame e X.env) (fun _ s₂=>wpAny (model X.prog X.w) X.A (setFlight e none) (fun _ s₃=>wpAny (model X.prog X.w) X.A (handleBy e X.env [.ExceptHandler (some (.Name x np)) (some n) (b₀::suite) hpos]) (SP X mU D) X.xe s₃) X.xe s₂) X.xe s₁)
  (fun σ' _ _ H'=>∃H0',SSt σ ρ H0 H σ' ρ1 H0' H') ?pass [] s σ H DF (vf I) ⟨H0,ρ,ρ1,st,hR,fun σ' a H0' H' t=>⟨H0',t⟩⟩) ?q fun _ _ z=>z
 case q=>
  intro f s1 z;cases f with
  |next=>obtain⟨_,_,_,q⟩:=z;exact Mr q
  |ret v=>obtain⟨_,_,_,_,_,q⟩:=z;exact Mr q
  |brk=>obtain⟨_,_,_,q⟩:=z;exact Mr q
  |cont=>obtain⟨_,_,_,q⟩:=z;exact Mr q
 case pass=>
  intro LW σ1 H1 s1 e s' I1 hq;obtain⟨ea,a0,B,H',rfl,os,bare,un,hok,fl,hB,hF,H0',t1⟩:=hq;obtain⟨hh',g,d,t,os'⟩:=s';obtain rfl:os'=s1.os:=os;have J:Inv X mU σ1 H' ⟨hh',g,d,t,s1.os⟩:=dM (I1.call (h':=hh') (g':=g) (d':=d) (t':=t) (ch:=[]) un hok bare (fun b z=>absurd z (by simp)));have J1:Inv X mU σ1 H1 s1:=dM I1;have GQ:∀b o,X.s₀.heap.get? b=some o->∃o1,s1.heap.get? b=some o1:=fun b o e=>J1.base.there b o e (by rw[hex];exact fun z=>nomatch z);have hB':∀b o,hh'.get? b=some o->b∉frs X.stack->((X.s₀.heap.get? b).isSome=true\/(H' b).isSome=true\/∃p∈X.pn++mU,p.1=b)->B.get? b=some o:=fun b o e nb hc=>by
   refine hB b o e ?_ nb;rcases hc with hc | hc | ⟨p,hp,rfl⟩
   ·obtain⟨o0,e0⟩:=MH.mp hc;obtain⟨o1,e1⟩:=GQ b o0 e0;exact .inl (by rw[e1];rfl)
   ·exact .inr hc
   ·exact .inl (by rw[(J1.pin p hp).1];rfl)
  have hfs:X.A.frames=some (X.env::X.outer):=by rw[J.ok.frames,hst]
  have fl':NJ B (X.env::X.outer) ea (.ref C) a0 hh':=by rw[<- hst];exact fl
  show wpAny (model X.prog X.w) X.A (noteFrame (.ref ea) X.env) _ _ _;refine wpAny_mono (gK (sJ _ _) (wpAny_looks_onW (M:=model X.prog X.w) (E:=X.xe) (base:=B) (L:=X.env.locals) (Q:=fun _ s'=>∃h4,Heap.HeldW B (X.env::X.outer) ea (.ref C) a0 X.env.locals h4/\hh'.UpToSlots h4/\s'=⟨h4,g,d,t,s1.os⟩) hfs hfr fl' fun h4 held sl4=>⟨h4,held,sl4,rfl⟩)) (fun _ s4 z4=>?_) fun _ _ z=>z;obtain⟨⟨h4,held,sl4,rfl⟩,ck4⟩:=z4;refine wpAny_mono (gK (iP _ _) (wpAny_landsW (M:=model X.prog X.w) (E:=X.xe) (Q:=fun _ s'=>∃h5,NJ B (X.env::X.outer) ea (.ref C) a0 h5/\h4.UpToSlots h5/\s'=⟨h5,g,d,t,s1.os⟩) held fun h5 fl5 sl5=>⟨h5,fl5,sl5,rfl⟩)) (fun _ s5 z5=>?_) fun _ _ z=>z;obtain⟨⟨h5,fl5,sl5,rfl⟩,ck5⟩:=z5;have J5:Inv X mU σ1 H' ⟨h5,g,d,t,s1.os⟩:=J.fly (t':=t) hex hB' fl5.1 (sl4.trans sl5);obtain⟨oe,vs,he,hc,hd,_⟩:=fl'.first
  have neF:ea∉frs X.stack:=fun z=>by rw[hst]at z;obtain⟨_,o',ho',hd'⟩:=fl'.2.2.1.mem z;rw[he]at ho';cases ho';exact hd' vs hd
  have noB:B.get? ea=none:=fl'.2.1;have nH:H' ea=none:=by
   cases q:H' ea with
   |none=>rfl
   |some u=>have:=hB' ea oe he neF (.inr (.inl (by rw[q];rfl)));rw[noB]at this;cases this
  have n0:X.s₀.heap.get? ea=none:=by
   cases q:X.s₀.heap.get? ea with
   |none=>rfl
   |some u=>have:=hB' ea oe he neF (.inl (by rw[q];rfl));rw[noB]at this;cases this
  have nl:ea≠X.env.locals:=fun z=>by obtain⟨m,⟨o,es,ep,ho,hd',_⟩,_⟩:=J.loc;rw[<- z,he]at ho;cases ho;rw[hd]at hd';cases hd'
  have nc:∀y c,X.env.cells.lookup y=some c->c≠ea:=fun y c e z=>by obtain⟨v,o,ho,hd'⟩:=J.cell y c e;rw[z,he]at ho;cases ho;rw[hd]at hd';cases hd'
  have np:∀p∈X.pn++mU,p.1≠ea:=fun p hp z=>by have:=hB' ea oe he neF (.inr (.inr ⟨p,hp,z⟩));rw[noB]at this;cases this
  have hB5:∀b o,h5.get? b=some o->b∉frs X.stack->((X.s₀.heap.get? b).isSome=true\/(H' b).isSome=true\/∃p∈X.pn++mU,p.1=b)->B.get? b=some o:=fun b o e nb JL=>by
   have:∃o',hh'.get? b=some o':=by
    rcases JL with hc | hc | ⟨p,hp,rfl⟩
    ·obtain⟨o0,e0⟩:=MH.mp hc;exact J.base.there b o0 e0 (by rw[hex];exact fun z=>nomatch z)
    ·obtain⟨u,e0⟩:=MH.mp hc;exact(J.hok b u e0).there
    ·exact⟨_,(J.pin p hp).1⟩
   obtain⟨o',e'⟩:=this;have q:=hB' b o' e' nb JL;have q2:=fl5.1 b o' q;rw[e]at q2;cases q2;exact q
  obtain⟨oe5,he5,hc5⟩:=fl5.there;refine wpAny_handleBy_cons (codeAny_handlers_test ?_) (by intro q;cases q);refine h_ (X:=Cx.sub' X (X.A.mark (some (.ref ea))) X.xe) (qM rfl J5) hg hm ?_ JF;refine PySem.W.sM Z J5.kIn ⟨oe5,he5,hc5⟩ ?_;refine codeAny_handlers_suite_as ?_;refine wpAny_mono (gK (iP _ _) (lands_againW (M:=model X.prog X.w) (E:=notedBy (model X.prog X.w) (X.A.mark (some (.ref ea))) X.env _) (Q:=fun _ s'=>∃h6,NJ B (X.env::X.outer) ea (.ref C) a0 h6/\h5.UpToSlots h6/\s'=⟨h6,g,d,t,s1.os⟩) fl5 fun h6 fl6 sl6=>⟨h6,fl6,sl6,rfl⟩)) (fun _ s6 z6=>?_) fun _ _ z=>z;obtain⟨⟨h6,fl6,sl6,rfl⟩,ck6⟩:=z6;have hf6:Fld h6 ea 2 .none:=mK ck6 (mK ck5 (mK ck4 hF));have J6:Inv X mU σ1 H' ⟨h6,g,d,t,s1.os⟩:=J5.fly (t':=t) hex hB5 fl6.1 sl6;obtain⟨oe6,he6,hc6⟩:=fl6.there;have J7:=J6.Jp (o:=φX oe6 ea C) nH (φX_ok he6 hc6 hf6) n0 nl nc np;refine kr J7 hN hi (.inl hk) (v:=.ref ea) rfl (fun s8 J8 _=>?_) (.inr hk);have t12:SSt σ ρ H0 H σ1 ρ1 (upd H0' ea (φX oe6 ea C)) (upd H' ea (φX oe6 ea C)):=t1.trans (ESt.grow t1.st (aN.zf t1.st.same nH)).sst;have rep:Rep (upd H0' ea (φX oe6 ea C)) (V.ref ea) (.exc C):=.exc aF;have Dc:SSt σ1 ρ1 (upd H0' ea (φX oe6 ea C)) (upd H' ea (φX oe6 ea C)) (σ1.set ie (some (.ref ea))) (ρ1.set ie (.sh (.exc C))) (upd H0' ea (φX oe6 ea C)) (upd H' ea (φX oe6 ea C)):=
   ⟨t12.st.qz rep,Stp.refl _ _ _,fun a z=>.inl (er z),gp h0⟩
  have JI:∀(oh:Dm.Out),h (ρ1.set ie (.sh (.exc C)))=some oh->(∀(D':Ends),(∀σ' H3,(∃ρ' H03,oh=.nx ρ'/\SSt (σ1.set ie (some (.ref ea))) (ρ1.set ie (.sh (.exc C))) (upd H0' ea (φX oe6 ea C)) (upd H' ea (φX oe6 ea C)) σ' ρ' H03 H3)->D'.nx σ' H3)->(∀v H3,(∃z ρ' σ' H03,oh=.ret z ρ'/\SSt (σ1.set ie (some (.ref ea))) (ρ1.set ie (.sh (.exc C))) (upd H0' ea (φX oe6 ea C)) (upd H' ea (φX oe6 ea C)) σ' ρ' H03 H3/\zm (σ1.set ie (some (.ref ea))) (ρ1.set ie (.sh (.exc C))) (upd H' ea (φX oe6 ea C)) H03 H3 v z/\∀d a,z=.new d->v=.ref a->¬ao σ' ρ' a)->D'.rt v H3)->(∀ρ',oh≠.bk ρ')->(∀ρ',oh≠.ct ρ')->kQ D' (σ1.set ie (some (.ref ea))) (ρ1.set ie (.sh (.exc C))) (upd H0' ea (φX oe6 ea C)) (upd H' ea (φX oe6 ea C)) oh):=fun oh _ D' hn hr hb hc=>by
   cases oh with
   |nx ρ'=>exact fun σ' H03 H3 tt=>hn σ' H3 ⟨ρ',H03,rfl,tt⟩
   |bk ρ'=>exact absurd rfl (hb ρ')
   |ct ρ'=>exact absurd rfl (hc ρ')
   |ret z ρ'=>exact fun σ' v H03 H3 tt rr no=>hr v H3 ⟨z,ρ',σ',H03,rfl,tt,rr,no⟩
  cases hoh:h (ρ1.set ie (.sh (.exc C))) with
  |none=>rw[hoh]at e;cases e
  |some oh=>
  rw[hoh]at e;have nb:∀ρ',oh≠.bk ρ':=fun ρ' z=>by rw[z]at e;cases e
  have nc':∀ρ',oh≠.ct ρ':=fun ρ' z=>by rw[z]at e;cases e
  refine wpAny_mono (hh ea _ mU s8 _ _ { nx:=fun σ' H3=>∃ ρ' H03,oh=.nx ρ'∧SSt (σ1.set ie (some (.ref ea))) (ρ1.set ie (.sh (.exc C))) (upd H0' ea (φX oe6 ea C)) (upd H' ea (φX oe6 ea C)) σ' ρ' H03 H3,rt:=fun v H3=>∃ z ρ' σ' H03,oh=.ret z ρ'∧SSt (σ1.set ie (some (.ref ea))) (ρ1.set ie (.sh (.exc C))) (upd H0' ea (φX oe6 ea C)) (upd H' ea (φX oe6 ea C)) σ' ρ' H03 H3∧zm (σ1.set ie (some (.ref ea))) (ρ1.set ie (.sh (.exc C))) (upd H' ea (φX oe6 ea C)) H03 H3 v z∧∀ d a,z=.new d→v=.ref a→¬ ao σ' ρ' a,bk:=fun _ _=>False,ct:=fun _ _=>False } (qM rfl J8)
   ⟨Mn (by rw[J7.len];exact(Dk.mp hi).1),_,_,_,Dc.st,hoh,JI oh hoh _ (fun _ _ z=>z) (fun _ _ z=>z) nb nc'⟩) (fun f s4 z=>?_) fun _ _ z=>z
  cases f with
  |next=>obtain⟨σ',H3,I4,ρ',H03,rfl,tt⟩:=z;cases e;refine name_goes (pP J.ok I4) hN hi hk fun s9 J9=>?_;exact⟨σ'.set ie none,H3,J9,ok _ _ _ (t12.trans (Dc.trans (tt.trans (SSt.drop tt.st h0))))⟩
  |ret v=>
   obtain⟨u,σ0,H3,I4,rl,z,ρ',σ',H03,rfl,tt,rr,no⟩:=z;cases e;refine name_goes (pP J.ok I4) hN hi hk fun s9 J9=>?_;refine⟨u,σ0.set ie none,H3,J9,rl,ok _ _ _ _ (t12.trans (Dc.trans (tt.trans (SSt.drop tt.st h0)))) ?_ ?_⟩
   ·cases z with
    |val d=>exact rr
    |new d=>
     obtain⟨a,ea',n,n0',w⟩:=rr;refine⟨a,ea',?_,n0',w⟩;have tp:=t12.trans Dc;rcases n with n | n
     ·exact .inl (tp.stp.gone n)
     ·exact(tp.own a n).symm
   ·intro d a hz hv ho;obtain⟨j,d',h1,h2⟩:=ho;refine no d a hz hv ?_;by_cases hj:ie=j
    ·subst hj;rw[Nk]at h1;simp only[if_true]at h1;split at h1<;>cases h1
    ·rw[gp hj]at h1 h2;exact⟨j,d',h1,h2⟩
  |brk=>obtain⟨_,_,_,q⟩:=z;exact Mr q
  |cont=>obtain⟨_,_,_,q⟩:=z;exact Mr q
end
theorem Jz{C:Addr}{N:List Str}{n m:Nat}{R:Dm.Env->Option Dm.Env}{vs:List V}{H:Hp}{Q:VK}{E:XK}(hm:N.length=n+m)(h:spX C (Dm.fnX n m R) vs H Q E):tY C (fun _=>E) R (start N vs) H:=by have hvn:=wJ h;obtain⟨H0,ds,s,rs,e,k⟩:=h;unfold Dm.fnX at e;rw[Mw]at e;obtain⟨st,no⟩:=Ag hm hvn s rs;obtain⟨ρ',hR⟩:=MH.mp e.2;exact⟨H0,_,ρ',st,hR,fun σ' a H0' H' t=>k a H0' H' ⟨t.stp.s0,fun a o e=>t.stp.s1 a o e (no a),fun a o e=>(t.stp.s2 a o e).imp id fun q=>q.elim id fun z=>absurd z (no a),t.st.same⟩⟩
theorem okY{P:Program}{w:World}{K:gc}{mg:Str->Option Value}{base:Heap}{x qual:Str}{st:Stmt}{f C:Addr}{fd:FuncData}{N ps:List Str}{k n m:Nat}{R:Dm.Env->Option Dm.Env}(F:Fun K x qual st f fd)(S:ay N ps (ai st))(hn:ps.length=n)(hm:N.length=n+m)
  (hbody:∀(cdv:Value) (A:Around) (outer:List Env) (s:Shared) (H:Hp) (E:XK),bM k (A.deeper (envOfC qual (ai st) s.heap.objs.size f cdv))->YB (fK (CXE P w C) P w K mg base N qual (ai st) f cdv A outer s H E) C (fun _=>E) (bh st) R) :
  aP P w K mg base (CXE P w C) (k+1) f fd ps (spX C (Dm.fnX n m R)):=by
 obtain⟨oc,od,kV,doc,pm,an,cdv,ct,osl,rfl,lk,JL⟩:=F.ex;refine Ec lk JL S (fun vs H Q E h=>(wJ h).trans hn.symm) fun A outer s H vs Q E hr hsp=>?_;exact⟨_,hbody cdv A outer s H E hr,Jz hm hsp⟩
section
variable{X:Cx}{C:Nat}{b:Bool}{cs:List Nat}{bs:List Bool}{e:Expr}{f:FE}
theorem d8(h1:DE X e (Dm.e1 (Dm.lC C b) f))(h2:DE X e (Dm.e1 (Dm.d7 cs bs) f)):DE X e (Dm.e1 (Dm.d7 (C::cs) (b::bs)) f):=fun mU s σ H Q I q=>by
 obtain⟨H0,ρ,x,ρ',st,e0,k⟩:=q;have e:=e0;unfold Dm.e1 at e;split at e
 ·cases e
 rename_i x1 ρ1 e1;split at e
 ·cases e
 rename_i dx p1;cases dx with
 |exc D=>
  by_cases hD:D=C
  ·refine h1 mU s σ H Q I ⟨H0,ρ,x,ρ',st,?_,k⟩;unfold Dm.e1;rw[e1];dsimp only;rw[p1];dsimp only;rw[<- e];unfold Dm.lC Dm.d7 Dm.kI;dsimp only;rw[if_pos hD,if_pos hD];rfl
  ·refine h2 mU s σ H Q I ⟨H0,ρ,x,ρ',st,?_,k⟩;unfold Dm.e1;rw[e1];dsimp only;rw[p1];dsimp only;rw[<- e];unfold Dm.d7;dsimp only;rw[Dm.kI.eq_def (C::cs)];dsimp only;rw[if_neg hD]
 |di D mv=>
  by_cases hD:D=C
  ·refine h1 mU s σ H Q I ⟨H0,ρ,x,ρ',st,?_,k⟩;unfold Dm.e1;rw[e1];dsimp only;rw[p1];dsimp only;rw[<- e];unfold Dm.lC Dm.d7 Dm.kI;dsimp only;rw[if_pos hD,if_pos hD];rfl
  ·refine h2 mU s σ H Q I ⟨H0,ρ,x,ρ',st,?_,k⟩;unfold Dm.e1;rw[e1];dsimp only;rw[p1];dsimp only;rw[<- e];unfold Dm.d7;dsimp only;rw[Dm.kI.eq_def (C::cs)];dsimp only;rw[if_neg hD]
 |_=>cases e
theorem kW:DE X e (Dm.e1 (Dm.d7 [] []) f):=fun mU s σ H Q I q=>by
 obtain⟨H0,ρ,x,ρ',st,e,k⟩:=q;unfold Dm.e1 at e;split at e
 ·cases e
 split at e
 ·cases e
 rename_i dx p1;cases dx<;>cases e
end
end Br
set_option maxHeartbeats 4000000
namespace Ts
open PySem PyProof.Rows
variable{A:Around}{E:Value->Shared->Prop}{s:Shared}{prog:Program}{w:World}
end Ts
namespace Br
open PySem PySem.Spec PyProof.Rows L2
theorem okQ{P:Program}{w:World}{K:gc}{mg:Str->Option Value}{base:Heap}{x qual:Str}{st:Stmt}{f:Addr}{fd:FuncData}{N ps:List Str}{k n m:Nat}{body:FS}(F:Fun K x qual st f fd)(S:ay N ps (ai st))
  (hb:∀(cdv:Value) (A:Around) (outer:List Env) (s:Shared) (H:Hp) (E:XK),bM k (A.deeper (envOfC qual (ai st) s.heap.objs.size f cdv))->DSs (fK CX0 P w K mg base N qual (ai st) f cdv A outer s H E).nox (bh st) body)
  (hn:ps.length=n:=by rfl) (hm:N.length=n+m:=by rfl):aP P w K mg base CX0 (k+1) f fd ps (spD (Dm.fn n m body)):=
 F.ok S (fun vs H Q E h=>(qF h).trans hn.symm) fun cdv A outer s H vs Q E hr h=>⟨_,hb cdv A outer s H E hr,F8 hm h⟩
end Br
namespace L2
open PySem PySem.Spec PyProof.Rows
section
variable{P:Program}{w:World}{K:gc}{mg:Str->Option Value}{base:Heap}{N:List Str}{qual:Str}{scope:Scope}{f:Addr}{cd:Value}{A:Around}{outer:List Env}{s₀:Shared}{H₀:Hp}{E:XK}{C:Addr}
 {mU:List (Addr×Obj)} {σ:St} {H:Hp} {s:Shared}
end
end L2
namespace Ts
open PySem PyProof.Rows
variable{A:Around}{E:Value->Shared->Prop}{s:Shared}{prog:Program}{w:World}
end Ts
namespace Dm
noncomputable def pIf(t:FT)(f g:FP):FP:=fun ρ=>match t ρ with
 |none=>none
 |some (true,ρ1)=>f ρ1
 |some (false,ρ1)=>g ρ1
end Dm
namespace L2
open PySem PySem.Spec PyProof.Rows Br
noncomputable abbrev quiet(A:Around):Around:={ A with handled:=none }
structure gO(k:Nat)(b:Addr)(A:Around):Prop where
 hd:A.handled=some (.ref b)
 rm:bM k (quiet A)
theorem gO.deeper{k:Nat}{b:Addr}{A:Around}(r:gO (k+1) b A)(env:Env):gO k b (A.deeper env):=
 ⟨r.hd,⟨rfl,(r.rm.deeper env).dp,(r.rm.deeper env).un,(r.rm.deeper env).gd⟩⟩
noncomputable abbrev SpH:=Addr->Sp
structure pS(P:Program)(w:World)(K:gc)(mg:Str->Option Value)(base:Heap)(CX:CXT)(k:Nat)(f:Addr)(fd:FuncData)(ps:List Str)(sp:SpH):Prop where
 len:∀b vs H Q E,sp b vs H Q E->vs.length=ps.length
 run:∀(b:Addr) (A:Around) (outer:List Env) (s:Shared) (H:Hp) (args:Args) (us:List Value) (vs:List V) (Q:VK) (E:XK),gO k b A->rY P w K mg base A outer s H->BindsTo s fd args (ps.zip us)->Vals vs us->sp b vs H Q E ->
  codeAny (model P w) A (.call (.ref f) args) (CR CX outer P w H s Q E) s
noncomputable def cxH(CX:CXT)(P:Program)(w:World)(K:gc)(mg:Str->Option Value)(base:Heap)(N:List Str)(qual:Str)(scope:Scope)(f:Addr)(cd:Value)(A:Around)(outer:List Env)(s:Shared)(H:Hp)(E:XK):Cx:=
 Cx.sub' (fK CX P w K mg base N qual scope f cd (quiet A) outer s H E) (A.deeper (envOfC qual scope s.heap.objs.size f cd)) (fun e s'=>wpAny (model P w) (A.deeper (envOfC qual scope s.heap.objs.size f cd)) (leaving (envOfC qual scope s.heap.objs.size f cd) e) (fun _ s''=>CX outer H s E e s'') (fun e' s''=>CX outer H s E e' s'') s')
theorem GR{CX:CXT}{P:Program}{w:World}{K:gc}{mg:Str->Option Value}{base:Heap}{k:Nat}{f:Addr}{name qual:Str}{params:Arguments}{body:List Stmt}{scope:Scope}{dV kV doc pm cdv ct oc:Value}{an od:Option Addr}
  {osl:Array (Option Value)} {N ps:List Str} {sp:SpH} (lk:K.lookup f=some ⟨oc,od,.func (MK name qual params body scope dV kV doc pm an cdv ct),osl⟩) (JL:NL K cdv qual=true) (S:ay N ps scope)
  (len:∀b vs H Q E,sp b vs H Q E->vs.length=ps.length)
  (hbody:∀ (b:Addr) (A:Around) (outer:List Env) (s:Shared) (H:Hp) (vs:List V) (Q:VK) (E:XK),rY P w K mg base A outer s H→gO k b (A.deeper (envOfC qual scope s.heap.objs.size f cdv))→sp b vs H Q E →
   ∃t,PSs (cxH CX P w K mg base N qual scope f cdv A outer s H E) body t/\t { nx:=fun _ H'=>Q .non H',rt:=Q } (start N vs) H) :
  pS P w K mg base CX (k+1) f (MK name qual params body scope dV kV doc pm an cdv ct) ps sp:=by
 refine⟨len,fun b A outer s H args us vs Q E hr e0 hb r hsp=>?_⟩;have hl:=len _ _ _ _ _ hsp;have up:∀c o,base.get? c=some o->s.heap.get? c=some o:=fun c o e=>(e0.bs c o e).1;have KX:K.In s.heap:=e0.mod.kin.keeps up;have kinds:∀y∈ps.zip us,scope.names.lookup y.1=some .local\/(scope.names.lookup y.1=some .cell/\((cellsFrom (s.heap.objs.size+1) scope.names []).lookup y.1).isSome=true):=fun⟨n,v⟩ hy=>(S.par n (N1 hy).1).imp id fun q=>⟨q,NQ _ _ _ (.inl q)⟩
 refine codeAny_call_function (show A.depth<recursionLimit from hr.rm.depth) (KX _ _ lk) rfl S.co S.gen rfl (PySem.W.codeRec_of KX JL) (hb _ _ _ _ ?_);refine wpAny_newFunctionEnv_cells S.kind kinds fun env he s1 x=>?_;subst he;refine⟨(e0.mod.nolimit.keeps up).keeps x.toInCall.keep,codeAny_func ?_⟩;obtain⟨t,ht,hq⟩:=hbody b A outer s H vs Q E e0 (hr.deeper _) hsp;have e1:rY P w K mg base (quiet A) outer s H:=⟨e0.frames,e0.mod,e0.bs,e0.bsz,e0.kq,e0.frf,e0.hok,e0.bare⟩
 have I:Inv (cxH CX P w K mg base N qual scope f cdv A outer s H E) [] (start N vs) H s1:=qM rfl (pq S rfl e1 hl r x);refine wpAny_mono (ht [] s1 (start N vs) H _ I hq) (fun fl s' hs=>?_) fun e s' hs=>hs;cases fl with
 |ret u=>obtain⟨v,σ',H',J,rv,q⟩:=hs;exact⟨v,H',J.os,J.bare,J.base,J.hok,rv,q⟩
 |next=>obtain⟨σ',H',J,q⟩:=hs;exact⟨.non,H',J.os,J.bare,J.base,J.hok,rfl,q⟩
 |brk=>obtain⟨_,_,_,q⟩:=hs;exact Mr q
 |cont=>obtain⟨_,_,_,q⟩:=hs;exact Mr q
section
variable{X:Cx}{CX:CXT}{k:Nat}{f b:Addr}{fd:FuncData}{ps:List Str}{sp:SpH}{E:XK}{x:Str}{p pos:Pos}{e:Expr}{es:List Expr}{t:TA}
theorem Dd{mU:List (Addr×Obj)}{σ:St}{H:Hp}{s:Shared}{Q:VK}{us:List Value}{vs:List V}(F:pS X.prog X.w X.K X.mg X.base CX k f fd ps sp)(hr:gO k b X.A)(hb:Binds X.K fd ps [])(hx:Passes CX X E)
  (I:Inv X mU σ H s) (r:Vals vs us) (h:sp b vs H Q E):wpAny (model X.prog X.w) X.A (call (.ref f) us) (EP X mU σ Q) X.xe s:=by
 have hl:us.length=ps.length:=by rw[<- r.length];exact F.len _ _ _ _ _ h
 have bt:=hb s us I.kIn (by rw[MN];exact hl);rw[MN]at bt;refine wpAny_call (codeAny_mono (F.run b X.A X.stack s H ⟨us,[]⟩ us vs Q E hr I.FL bt r h) fun rr s' hq=>?_)
 match rr,hq with
 |.error e,hq=>exact hx mU σ H s e s' I hq
 |.ok (.ret u),hq=>exact I.after hq
 |.ok .next,hq=>exact hq.elim
 |.ok .brk,hq=>exact hq.elim
 |.ok .cont,hq=>exact hq.elim
def GS(sp:Sp)(E:XK)(t:TA):TE:=fun σ H Q=>t σ H fun vs H1=>sp vs H1 Q E
theorem Aq(F:pS X.prog X.w X.K X.mg X.base CX k f fd ps sp)(hr:gO k b X.A)(hg:Gl X x)(hm:X.mg x=some (.ref f))(hk:MZ X.K (.ref f)=true)(hb:Binds X.K fd ps [])(hx:Passes CX X E)
  (ha:PA X (e::es) t) (JF:(x == ("__debug__" : Str))=false:=by decide) (he:starEach (e::es) X.env=(false,eval e X.env)::starEach es X.env:=by rfl) (En:(backTo pos (starEach es X.env)).any (·.1)=false:=by rfl) :
  PE X (.Call (.Name x p) (e::es) [] pos) (GS (sp b) E t):=by
 intro mU s σ H Q I h;refine wpAny_Call_Name_kw (h_ I hg hm (Od (h₀:=X.base) I.ok.mod.kin hk (thn (ha pos mU s σ H _ I h) fun us s1 ⟨vs,H1,I1,r,q⟩=>⟨I1.kIn,Dd F hr hb hx I1 r q⟩) he En) JF)
end
def CCH(X:Cx):Prop:=∃b o u vs,X.A.handled=some (.ref b)/\X.H₀ b=some (.frz o u)/\o.data=.fields vs/\vs[2]?=some .none
theorem CCH.fld{X:Cx}{mU:List (Addr×Obj)}{σ:St}{H:Hp}{s:Shared}(I:Inv X mU σ H s)(c:CCH X):∃b,X.A.handled=some (.ref b)/\Fld s.heap b 2 .none:=by obtain⟨b,o,u,vs,h1,h2,h3,h4⟩:=c;exact⟨b,h1,o,vs,(I.hok b _ (I.base.jF b o u h2)).1,h3,h4⟩
theorem sW{P:Program}{w:World}{K:gc}{tg:Expr}(it:Addr)(lo:Int)(n:Nat):Turn P w K tg (Itr lo n) [it] it (fun i h=>IsRangeIter h it (lo+(i:Nat)*1) ((n:Int)-(i:Nat)) 1) CCH where
 mem:=(eO (P:=P) (w:=w) (K:=K) (tg:=tg) it lo n).mem
 obj:=(eO (P:=P) (w:=w) (K:=K) (tg:=tg) it lo n).obj
 keep:=(eO (P:=P) (w:=w) (K:=K) (tg:=tg) it lo n).keep
 self:=(eO (P:=P) (w:=w) (K:=K) (tg:=tg) it lo n).self
 item:=by
  intro X hP hw hK hc i mU s σ H E I hf st hg;subst hP hw hK;have hg:i<n:=hg;obtain⟨f0,f1,f2,f3,f4,f5⟩:=hf it (by simp);refine wpAny_pyNext_range_item st (by lia) fun h' LA sb=>⟨_,rfl,?_⟩;have JA:IsRangeIter h' it (lo+((i+1:Nat):Int)*1) ((n:Int)-((i+1:Nat):Int)) 1:=by
   have e1:lo+((i+1:Nat):Int)*1=lo+(i:Nat)*1+1:=by lia
   have e2:(n:Int)-((i+1:Nat):Int)=(n:Int)-(i:Nat)-1:=by lia
   rw[e1,e2];exact LA
  have I1:Inv X mU σ H { s with heap:=h',toks:=s.toks+1 }:=I.turned (fun b o hb e=>(sb.2 b hb).trans e) f0 f1 f3 f4 f5;exact o6 (s:={ s with heap:=h',toks:=s.toks+1 }) (n := "range_iterator") JA rfl rfl (by decide) ⟨.int (lo+i),H,I1,⟨s.toks,by rw[Int.mul_one]⟩,⟨rfl,rfl⟩,JA,fun b hb=>(hf b hb).1⟩
 done:=by intro X hP hw hK hc i mU s σ H E I hf st hg;subst hP hw hK;have hg:n<=i:=hg;obtain⟨f0,f1,f2,f3,f4,f5⟩:=hf it (by simp);obtain⟨b,hb,fl⟩:=CCH.fld I hc;exact qK hb fl st (by lia) fun h' sy=>⟨rfl,I.turned (t':=s.toks) (fun b o _ e=>sy b o e) f0 f1 f3 f4 f5⟩
def JB(X:Cx)(mU:List (Addr×Obj))(σ:St)(tg:Expr)(R:It->Hp->Prop)(itv:Value)(s2:Shared):Prop:=
 ∃(it:Addr) (fp:List Addr) (tn:Nat->Heap->Prop) (J:It) (H':Hp),itv=.ref it/\Inv X mU σ H' s2/\Turn X.prog X.w X.K tg J fp it tn CCH/\tn 0 s2.heap/\(∀b∈fp,lY X mU H' b)/\R J H'
def PIH(X:Cx)(tg iter:Expr)(wi:TI):Prop:=
 ∀(mU:List (Addr×Obj)) (s:Shared) (σ:St) (H:Hp) (R:It->Hp->Prop),Inv X mU σ H s->wi σ H R ->
  wpAny (model X.prog X.w) X.A (eval iter X.env) (fun v s1=>wpAny (model X.prog X.w) X.A (pyIter v) (JB X mU σ tg R) X.xe s1) X.xe s
section
variable{X:Cx}{tg:Expr}
theorem yh{mU:List (Addr×Obj)}{σ:St}{H:Hp}{s:Shared}{R:It->Hp->Prop}{E:Value->Shared->Prop}{lo hi:Int}{t u v:Tok}{tk:Nat}(I:Inv X mU σ H s)(h1:-(2 ^ 62)<=lo)(h2:lo<2 ^ 62)(h3:-(2 ^ 62)<=hi)(h4:hi<2 ^ 62)
  (q:R (Itr lo (hi-lo).toNat) H):wpAny (model X.prog X.w) X.A (pyIter (.ref s.heap.objs.size)) (JB X mU σ tg R) E { s with heap:=s.heap.push { cls:=.type "range",data:=.fields #[.int lo t,.int hi u,.int 1 v] },toks:=tk }:=by
 refine wpAny_pyIter_range (IsRange.new ..) (small_one h1 h2 h3 h4) ?_;have I1:Inv X mU σ H { s with heap:=s.heap.push { cls:=.type "range",data:=.fields #[.int lo t,.int hi u,.int 1 v] },toks:=tk }:=I.kept fun b o e=>Mf _ e;refine ⟨(s.heap.push { cls:=.type "range",data:=.fields #[.int lo t,.int hi u,.int 1 v] }).objs.size,[(s.heap.push { cls:=.type "range",data:=.fields #[.int lo t,.int hi u,.int 1 v] }).objs.size],_,_,H,rfl,
  I1.kept (t':=tk) fun b o e=>Mf _ e,sW _ lo (hi-lo).toNat,?_,fun b hb=>?_,q⟩
 ·have e1:lo+((0:Nat):Int)*1=lo:=by simp
  have e2:(((hi-lo).toNat:Nat):Int)-((0:Nat):Int)=M5 lo hi 1:=by rw[rangeSize_one];split<;>lia
  show IsRangeIter _ _ (lo+((0:Nat):Int)*1) ((((hi-lo).toNat:Nat):Int)-((0:Nat):Int)) 1;rw[e1,e2];exact MG _ rfl
 ·have e:b=(s.heap.push { cls:=.type "range",data:=.fields #[.int lo t,.int hi u,.int 1 v] }).objs.size:=by simpa using hb
  subst e;exact I1.rV (Mj _) (I1.hok.fresh (Mj _))
theorem vh{a:Expr}{ta:TA}{p pos:Pos}(hg:Gl X "range")(hm:X.mg "range" = none)(ha:PA X [a] ta)(hs:starEach [a] X.env=[(false,eval a X.env)]:=by rfl):PIH X tg (.Call (.Name "range" p) [a] [] pos) (yQ ta):=by
 intro mU s σ H R I h;refine Call_ (dg I hg hm boot_range (Mz (thn (ha pos mU s σ H _ I h) fun us s1 ⟨vs,H1,I1,r1,q1⟩=>?_) hs rfl));obtain⟨j,e,q1,q2,q⟩:=q1;subst e;cases r1 with
 |cons r rr=>cases rr;obtain⟨t,rfl⟩:=r;exact call_range_1 (yh I1 (by lia) (by lia) q1 q2 (by simpa using q))
end
end L2
namespace Br
open PySem PySem.Spec PyProof.Rows L2
section
variable{X:Cx}{nm:List Str}{JH tg iter:Expr}{JE:List Expr}{scope:Scope}{pos:Pos}{own:List Str}{wi:TI}{g:TG}{tt:TT}{te:TE}
theorem cchC{mU:List (Addr×Obj)}{σ:L2.St}{H2:Hp}{s2:Shared}(hc:CCH X)(I2:Inv X mU σ H2 s2){cl:List (Str×Addr)}{C:Addr}{s:Shared}{D:Addr}{fp:List Addr}(hD:H2 D=none):CCH (aV X nm scope own cl C s (upd H2 D (.lst [])) fp):=by obtain⟨b,o,u,vs,h1,h2,h3,h4⟩:=hc;have h:=I2.base.jF b o u h2;exact⟨b,o,u,vs,h1,by show upd H2 D (.lst []) b=_;rw[az (fun z=>by rw[z,hD]at h;cases h)];exact h,h3,h4⟩
theorem Ar(hc:CCH X)(S:dY X nm scope)(hi:PIH X tg iter wi)
  (hg:∀cl C s H fp,PG (aV X nm scope own cl C s H fp) tg g) (ht:∀cl C s H fp,PTs (aV X nm scope own cl C s H fp) JE tt) (he:∀cl C s H fp,PE (aV X nm scope own cl C s H fp) JH te)
  (hs:∀x,foldedSetIterable iter X.env x=pure x:=by intro _;rfl):PE X (.ListComp JH [⟨tg,iter,JE,0⟩] scope pos) (tLC wi own.length g tt te):=by
 intro mU s σ H Q I h;obtain⟨cl,hclos,kF,su⟩:=iM (env:=X.env) (scope:=scope) fun y hy hf=>I.ok.has y.1 (S.free y hy hf);rw[eval_ListComp];refine wpAny_comprehension_free (use:=none) rfl hs hclos S.kind S.names (thn (hi mU s σ H _ I h) fun v s1 h1=>thn h1 fun itv s2 h2=>?_);obtain⟨it,fp,tn,J,H2,e,I2,T,st2,f2,hR⟩:=h2;subst e;refine kE (Q:=Q) (RR:=fun EA C=>compPost (model X.prog X.w) X.A X.xe none (EP X mU σ Q) EA C) (fun cl C s D fp hD=>cchC hc I2 hD) S kF su hg ht he I2 T st2 f2 hR ?_;intro D C H6 s6 I6 hCn hCL hCs hCc hCp hns q;obtain⟨m,hn⟩:=hns;refine⟨m,hn,fun h' hs'=>⟨.ref D,H6,I6.turned (t':=s6.toks) (fun b o hb e=>(hs'.2 b hb).trans e) hCn hCL (.inr hCs) hCc hCp,rfl,q⟩⟩
end
section
variable{X:Cx}{a JH tg:Expr}{fa f:FE}{JE:List Expr}{scope:Scope}{pos p rp:Pos}{bd:Dm.FB}{is:List Nat}{t:FT}
theorem JC(nm own:List Str)(hc:CCH X)(hr:Gl X "range")(hm:X.mg "range" = none)(ha:DA X [a] [fa])(hg:TGc X nm scope own tg is bd)(ht:∀cl C s H fp,DTs (aV X nm scope own cl C s H fp) JE t)(he:∀cl C s H fp,DE (aV X nm scope own cl C s H fp) JH f)
  (hk:scope.kind=.function:=by rfl) (hS:pJ X.env.scope X.N nm scope=true:=by rfl) (hl:(is.all fun i=>decide (X.N.length<=i))=true:=by rfl) (hs1:starEach [a] X.env=[(false,eval a X.env)]:=by rfl)
  (hs:∀x,foldedSetIterable (.Call (.Name "range" p) [a] [] rp) X.env x=pure x:=by intro _;rfl) :
  DE X (.ListComp JH [⟨tg,.Call (.Name "range" p) [a] [] rp,JE,0⟩] scope pos) (Dm.bX (Dm.iR1 fa) own.length bd t f):=by
 obtain⟨g,h1,h2⟩:=hg.ex;intro mU s σ H Q I h;have hi:PIH X tg (.Call (.Name "range" p) [a] [] rp) (tDI (Dm.iR1 fa)):=fun mU s σ H R I q=>vh hr hm ha hs1 mU s σ H R I (Ei q);exact Ar hc (dY.of hS hk) hi h1 ht he hs mU s σ H Q I (qE h2 (fun i hi=>by rw[I.len];exact wG hl i hi) h)
end
end Br
namespace L2
open PySem PySem.Spec PyProof.Rows Br
theorem bM.quiet{k:Nat}{A:Around}(r:bM k A):bM k (quiet A):=⟨rfl,r.dp,r.un,r.gd⟩
theorem bM.mark{k:Nat}{A:Around}(r:bM k A)(b:Addr):gO k b (A.mark (some (.ref b))):=⟨rfl,r.quiet⟩
end L2
namespace Br
open PySem PySem.Spec PyProof.Rows L2
noncomputable def GU(f:List Dat->Option RV):SpH:=fun b vs H Q E=>(∃o C,H b=some (φX o b C))/\spD f vs H Q E
theorem GV{P:Program}{w:World}{K:gc}{mg:Str->Option Value}{base:Heap}{N:List Str}{qual:Str}{scope:Scope}{f:Addr}{cd:Value}{A:Around}{outer:List Env}{s:Shared}{H:Hp}{E:XK}{b C:Addr}{o:Obj}{k:Nat}
  (e0:rY P w K mg base A outer s H) (hr:gO k b (A.deeper (envOfC qual scope s.heap.objs.size f cd))) (h:H b=some (φX o b C)):CCH (cxH CX0 P w K mg base N qual scope f cd A outer s H E).nox:=by
 obtain⟨e1,⟨o',e2,_,vs,d,v⟩,_⟩:=e0.hok b _ h;rw[e1]at e2;cases e2;exact⟨b,o,_,vs,hr.hd,h,d,v⟩
theorem okH{P:Program}{w:World}{K:gc}{mg:Str->Option Value}{base:Heap}{x qual:Str}{st:Stmt}{f:Addr}{fd:FuncData}{N ps:List Str}{k n m:Nat}{g:FS}(F:Fun K x qual st f fd)(S:ay N ps (ai st))(hn:ps.length=n)(hm:N.length=n+m)
  (hbody:∀ (cdv:Value) (A:Around) (outer:List Env) (s:Shared) (H:Hp) (E:XK) (b:Addr),gO k b (A.deeper (envOfC qual (ai st) s.heap.objs.size f cdv))→CCH (cxH CX0 P w K mg base N qual (ai st) f cdv A outer s H E).nox →
   DSs (cxH CX0 P w K mg base N qual (ai st) f cdv A outer s H E).nox (bh st) g):pS P w K mg base CX0 (k+1) f fd ps (GU (Dm.fn n m g)):=by
 obtain⟨oc,od,kV,doc,pm,an,cdv,ct,osl,rfl,lk,JL⟩:=F.ex;refine GR lk JL S (fun b vs H Q E h=>by rw[hn];exact qF h.2) fun b A outer s H vs Q E e0 hr hsp=>?_;obtain⟨⟨o,C,h⟩,q⟩:=hsp;exact⟨_,(hbody cdv A outer s H E b hr (GV e0 hr h)).nox,F8 hm q⟩
end Br
namespace Dm
noncomputable def qUn(f g:FSP):FSP:=fun ρ=>match f ρ with
 |some x=>some x
 |none=>g ρ
noncomputable def iR(j:Nat)(t:FT)(z:Int)(gs:FS):FM:=fun ρ p=>match t (see j ρ p) with
 |none=>none
 |some (true,_)=>ye z gs ρ p
 |some (false,_)=>gs ρ
noncomputable def fH(f:List Dat->Option RV):List Dat->Option RV
 |[.exc C]=>f [.exc C]
 |_=>none
end Dm
namespace Br
open PySem PySem.Spec PyProof.Rows L2
def tPS(j:Nat)(f:Dm.FP):TS:=fun D σ H=>∃H0 ρ p ρ',au H0 H σ ρ/\f ρ=some (p,ρ')/\∀v H0' H' fp,ESt σ ρ H0 H ρ' H0' H'->eY (mS σ ρ H) H0' H' v p fp->sS σ ρ' H0' fp->D.nx (σ.set j (some v)) H'
section
variable{D:Ends}{σ:L2.St}{H:Hp}{j:Nat}
theorem LC{f:Dm.FP}(h:tPS j f D σ H):rT (tDp f) (jG j) D σ H:=h
theorem JD{t:FT}{f g:Dm.FP}(h:tPS j (Dm.pIf t f g) D σ H):yK (tDT t) (tPS j f) (tPS j g) D σ H:=by
 obtain⟨H0,ρ,p,ρ',st,e,k⟩:=h;unfold Dm.pIf at e;split at e
 ·cases e
 ·rename_i ρ1 e1;refine⟨H0,ρ,true,ρ1,st,e1,fun H1 Hb t1=>?_⟩;show (if true=true then _ else _);rw[if_pos rfl];exact⟨H1,ρ1,p,ρ',t1.st,e,fun v H2 Hc fp t2 r fr=>k v H2 Hc fp (t1.trans t2) (r.mono (aq.refl _) (fun a n=>mS.back t1 n) (fun _ _ _ h=>h) fun _ _=>rfl) fr⟩
 ·rename_i ρ1 e1;refine⟨H0,ρ,false,ρ1,st,e1,fun H1 Hb t1=>?_⟩;show (if false=true then _ else _);rw[if_neg MF];exact⟨H1,ρ1,p,ρ',t1.st,e,fun v H2 Hc fp t2 r fr=>k v H2 Hc fp (t1.trans t2) (r.mono (aq.refl _) (fun a n=>mS.back t1 n) (fun _ _ _ h=>h) fun _ _=>rfl) fr⟩
theorem LD{f:Dm.FP}(hj0:j≠0)(hj:j<σ.length)(h:tDP (Dm.qR f) D σ H):rQ (tPS j f) (Ce (uQ j)) D σ H:=by
 obtain⟨H0,ρ,p,st,e,k⟩:=h;unfold Dm.qR at e;split at e
 ·cases e
 rename_i p' ρ1 e1;cases e;refine⟨H0,ρ,_,ρ1,st,e1,fun v H0' H' fp t r fr=>⟨v,Mn hj,?_⟩⟩;obtain⟨s1,s2⟩:=t.st.An j (some v);exact k _ _ v H0' H' fp ⟨s1,t.stp,fun a z=>.inl (t.own a (s2 a z)),gp hj0⟩ r fr.1 fun a ha=>(fr.2 a ha).1
theorem As{K:gc}{t:FT}{i:Int}{gs:FS}(h:tDM j (Dm.iR j t i gs) D σ H):rQ (yK (tDT t) (rR (FW K "list" uW (tOp (Cn K) (uQ j) (tC (.int i))))) v_) (tDS gs) D σ H:=by
 obtain⟨σs,ρs,H0s,Hs,H0,ρ,p,o,n,e,k⟩:=h;unfold Dm.iR at e;split at e
 ·cases e
 ·rename_i ρ1 e1;refine⟨_,_,true,ρ1,n.see,e1,fun H1 Hb t1=>?_⟩;dsimp only;rw[if_pos rfl];exact GK ⟨σs,ρs,H0s,Hs,H0,ρ,p,o,n.grow (n.seen t1),e,k⟩
 ·rename_i ρ1 e1;refine⟨_,_,false,ρ1,n.see,e1,fun H1 Hb t1=>?_⟩;dsimp only;rw[if_neg MF];exact GJ ⟨σs,ρs,H0s,Hs,H0,ρ,p,o,n.grow (n.seen t1),e,k⟩
end
theorem De{X:Cx}{body:List Stmt}{h0:ExceptHandler}{hs:List ExceptHandler}{t:TS}{pos:Pos}(hb:∀(pn:List (Addr×Obj)) (xe:Value->Shared->Prop),PSs (Cx.in' X pn xe) body t):PS X (.Try body (h0::hs) [] [] pos) t:=by
 intro mU s σ H D I hq;refine wpAny_Try_except ?_;refine wpAny_mono (hb mU _ [] s σ H D (vf I) hq) (fun f s1 z=>?_) fun _ _ z=>z;cases f with
 |next=>obtain⟨σ',H',J,k⟩:=z;exact wpAny_execs_nil ⟨σ',H',dM J,k⟩
 |ret v=>obtain⟨u,σ',H',J,r,k⟩:=z;exact⟨u,σ',H',dM J,r,k⟩
 |brk=>obtain⟨σ',H',J,k⟩:=z;exact⟨σ',H',dM J,k⟩
 |cont=>obtain⟨σ',H',J,k⟩:=z;exact⟨σ',H',dM J,k⟩
section
variable{X:Cx}{e c:Expr}{st:Stmt}{sts qU:List Stmt}{fp fq:Dm.FP}{gs:FS}{pos:Pos}{j:Nat}
theorem v_a(j:Nat){y:Str}{pos':Pos}(hN:X.N.Nodup)(he:DP X e fp)(hi:X.N[j]?=some y:=by rfl)(hx:Loc X.env.scope y:=by trivial)(hs:swapsWith e (some (.Name y pos')) pos.line X.env=pure false:=by rfl)
  (hf:X.fn y=true\/X.env.scope.names.lookup y=some .local:=by trivial):PSs X [.Assign [.Name y pos'] e pos] (tPS j fp):=fT (PS.weak (lX hN hi hx he hs hf) fun _ _ _=>LC)
theorem LF{t:FT}{a b:List Stmt}(ht:DT X c t)(ha:PSs X a (tPS j fp))(hb:PSs X b (tPS j fq)):PSs X [.If c a b pos] (tPS j (Dm.pIf t fp fq)):=fT (PS.weak (rS ht ha hb) fun _ _ _=>JD)
theorem q_v(j:Nat){y:Str}{px:Pos}(h:PS X st (tPS j fp))(hj:j≠0:=by decide)(hi:X.N[j]?=some y:=by rfl)(hv:Vis X.env.scope y:=by trivial)(hd:(y == ("__debug__" : Str))=false:=by decide)(JL:(y == ("__classdict__" : Str))=false:=by decide) :
  DQs X [st,.Return (some (.Name y px)) pos] (Dm.qR fp):=by
 have h:=eN h (fT (qo (pos:=pos) (ku (pos:=px) hi hv hd JL)));intro mU s σ H D I q;exact h mU s σ H D I (LD hj (by rw[I.len];exact(Dk.mp hi).1) q)
theorem LG{f g:Dm.FSP}(h1:DQs X sts f)(h2:DQs X sts g):DQs X sts (Dm.qUn f g):=fun mU s σ H D I q=>by
 obtain⟨H0,ρ,o,rs,e,k⟩:=q;unfold Dm.qUn at e;split at e
 ·rename_i y hy;exact h1 mU s σ H D I ⟨H0,ρ,o,rs,hy.trans e,k⟩
 ·exact h2 mU s σ H D I ⟨H0,ρ,o,rs,e,k⟩
theorem Df{t:FT}{x:Str}{px sp ap cp ip pe:Pos}{i:Int}{jc}(ht:DT X c t)(hr:DSs X qU gs)(hi:X.N[j]?=some x:=by rfl)(hv:Vis X.env.scope x:=by trivial)(hd:(x == ("__debug__" : Str))=false:=by decide)
  (JL:(x == ("__classdict__" : Str))=false:=by decide) (En:qq (.Constant (.int i) jc ip):=by intro _ _;rfl) (Q5:attributeBase (.Subscript (.Name x px) (.Constant (.int i) jc ip) sp) "clear" X.env (eval (.Subscript (.Name x px) (.Constant (.int i) jc ip) sp) X.env)=eval (.Subscript (.Name x px) (.Constant (.int i) jc ip) sp) X.env:=by rfl)
  (LL:(ap.endLine == cp.line)=true:=by rfl) (hsw:swapsWith (.Call (.Attribute (.Subscript (.Name x px) (.Constant (.int i) jc ip) sp) "clear" ap) [] [] cp) none pe.line X.env=pure false:=by rfl) :
  DMs X j (.If c [.Expr (.Call (.Attribute (.Subscript (.Name x px) (.Constant (.int i) jc ip) sp) "clear" ap) [] [] cp) pe] [] pos::qU) (Dm.iR j t i gs):=
 PSs.weak (eN (rS ht (fT (lJ (FY PySem.F.plainAttrs_list PySem.F.slot_list_clear PySem.F.type_list_clear y9 (Ed yX (ku hi hv hd JL) yI En) Q5 LL) hsw)) qm) hr) fun _ _ _=>As
end
section
variable{X:Cx}{pos cpos p pe pos':Pos}{b:Addr}{f:List Dat->Option RV}{k:Nat}{F:Addr}{fd:FuncData}{ps:List Str}{x y n:Str}
theorem jY(i ie:Nat)(hN:X.N.Nodup)(G:pS X.prog X.w X.K X.mg X.base CX0 k F fd ps (GU f))(hr:gO k b X.A)(hg:Gl X x)(hm:X.mg x=some (.ref F))(hk:MZ X.K (.ref F)=true)(hb:Binds X.K fd ps [])
  (hi:X.N[i]?=some y:=by rfl) (hx:Loc X.env.scope y:=by trivial) (he:X.N[ie]?=some n:=by rfl) (hv:Vis X.env.scope n:=by trivial)
  (hd:(n == ("__debug__" : Str))=false:=by decide) (JL:(n == ("__classdict__" : Str))=false:=by decide) (hs:swapsWith (.Call (.Name x p) [.Name n pe] [] cpos) (some (.Name y pos')) pos.line X.env=pure false:=by rfl)
  (hf:X.fn y=true\/X.env.scope.names.lookup y=some .local:=by trivial) (JF:(x == ("__debug__" : Str))=false:=by decide) (h1:starEach [.Name n pe] X.env=(false,eval (.Name n pe) X.env)::starEach [] X.env:=by rfl) (En:(backTo cpos (starEach [] X.env)).any (·.1)=false:=by rfl) :
  PSs X [.Assign [.Name y pos'] (.Call (.Name x p) [.Name n pe] [] cpos) pos] (fun D σ H=>σ[ie]?=some (some (V.ref b))/\tDS (Dm.sA i (Dm.eF (Dm.fH f) [Dm.eV ie])) D σ H):=by
 have h:=fT (lX hN hi hx (Aq G hr hg hm hk hb (r_ (X:=X)) (cE (ku he hv hd JL) gB h1) JF h1 En) hs hf);refine PSs.weak h fun D σ H ⟨q1,q2⟩=>?_;have q3:=zh (zj (E:=E0) (zp q2));obtain⟨v,e,q4⟩:=Eg q3;rw[q1]at e;cases e;have q5:spD (Dm.fH f) [V.ref b] H _ E0:=Eh q4;obtain⟨H0,ds,z,s,rs,e,kk⟩:=q5;cases rs with
 |cons r rs=>
  cases rs;unfold Dm.fH at e;split at e
  case h_2=>cases e
  rename_i C he2;cases he2;refine⟨_,q1,?_,H0,_,z,s,.cons r .nil,e,kk⟩;cases r with
  |exc h=>exact⟨_,C,s _ _ h⟩
end
end Br
namespace Dm
section
variable{ρ:Env}{K:RV->Prop}{Q:Val->Env->Prop}{R:RV->Env->Prop}{o p:Option Dat}{N:Env->Prop}{B C:Env->Prop}{i j:Int}{d:Dat}{α:Type}{ds:List Dat}{f:List Dat->Option RV}{as:List FE}{xs:List Val}{a:FE}{X Y:Prop}{g:Dat->Option RV}{e:FE}{c:Bool}{body:FS}{v:RV}{t:FT}{ρ2 ρ3:Env}{n m:Nat}{s u:FS}{bd:FB}{it:FI}
def We(e:FE)(ρ:Env)(Q:Val->Env->Prop):Prop:=∃v ρ',e ρ=some (v,ρ')/\Q v ρ'
def Wt(t:FT)(ρ:Env)(Q:Bool->Env->Prop):Prop:=∃v ρ',t ρ=some (v,ρ')/\Q v ρ'
def Was(as:List FE)(ρ:Env)(Q:List Val->Env->Prop):Prop:=∃v ρ',eAs as ρ=some (v,ρ')/\Q v ρ'
def Wi(it:FI)(ρ:Env)(Q:List Dat->Env->Prop):Prop:=∃v ρ',it ρ=some (v,ρ')/\Q v ρ'
def KO(N:Env->Prop)(R:RV->Env->Prop)(B C:Env->Prop):Out->Prop
 |.nx ρ=>N ρ
 |.ret r ρ=>R r ρ
 |.bk ρ=>B ρ
 |.ct ρ=>C ρ
def Ws(s:FS)(ρ:Env)(N:Env->Prop)(R:RV->Env->Prop)(B C:Env->Prop):Prop:=∃o,s ρ=some o/\KO N R B C o
def Wr(o:Option RV)(P:RV->Prop):Prop:=∃r,o=some r/\P r
def Wif(c:Bool)(X Y:Prop):Prop:=(c=true->X)/\(c=false->Y)
def Wg1(g:Dat->Option RV)(o:Option Dat)(K:RV->Prop):Prop:=∃d v,o=some d/\g d=some v/\K v
def Wg2(g:Dat->Dat->Option RV)(o p:Option Dat)(K:RV->Prop):Prop:=∃d e v,o=some d/\p=some e/\g d e=some v/\K v
def WB(g:List Dat->Option RV)(o:Option (List Dat))(K:RV->Prop):Prop:=∃ds v,o=some ds/\g ds=some v/\K v
def WT(o:Option (List Dat×Env))(K:List Dat->Env->Prop):Prop:=∃ds ρ,o=some (ds,ρ)/\ds.length<=SZ/\K ds ρ
def WF(f:List Dat->Option RV)(ρ:Env)(xs:List Val)(Q:Val->Env->Prop):Prop:=∃ds v,pks ρ xs=some ds/\f ds=some v/\(if fL v.dat then ∃ds' ρ2,tks ρ xs=some (ds',ρ2)/\Q v.bW ρ2 else Q v.bW ρ)
def Wk(ρ:Env)(x:Val)(K:Dat->Env->Prop):Prop:=∃d ρ',tk ρ x=some (d,ρ')/\K d ρ'
theorem Pd(x:X):Wif true X Y:=⟨fun _=>x,fun h=>by cases h⟩
theorem O9(y:Y):Wif false X Y:=⟨fun h=>(by cases h),fun _=>y⟩
theorem P_(h:c=true)(x:X):Wif c X Y:=⟨fun _=>x,fun h'=>by rw[h]at h';cases h'⟩
theorem Pk(h:c=false)(y:Y):Wif c X Y:=⟨fun h'=>(by rw[h]at h';cases h'),fun _=>y⟩
theorem M_{i:Nat}(h:ρ[i]?=some (.sh d))(q:Q (.val d) ρ):We (eV i) ρ Q:=⟨_,_,by unfold eV;rw[h],q⟩
theorem Pr{i:Nat}(h:ρ[i]?=some (.ow d))(q:Q (.slot i) ρ):We (eV i) ρ Q:=⟨_,_,by unfold eV;rw[h],q⟩
theorem OW(q:Q (.val d) ρ):We (eC d) ρ Q:=⟨_,_,rfl,q⟩
theorem Ph(h:We a ρ fun x ρ1=>Wg1 g (pk ρ1 x) fun v=>Q v.bW ρ1):We (e1 g a) ρ Q:=by obtain⟨x,ρ1,h1,d,v,h2,h3,q⟩:=h;exact⟨_,_,by unfold Dm.e1;rw[h1];dsimp only;rw[h2];dsimp only;rw[h3],q⟩
theorem OV{g:Dat->Dat->Option RV}{a b:FE}(h:We a ρ fun x ρ1=>We b ρ1 fun y ρ2=>Wg2 g (pk ρ2 x) (pk ρ2 y) fun v=>Q v.bW ρ2):We (e2 g a b) ρ Q:=by obtain⟨x,ρ1,h1,y,ρ2,h2,d,e,v,h3,h4,h5,q⟩:=h;exact⟨_,_,by unfold Dm.e2;rw[h1];dsimp only;rw[h2];dsimp only;rw[h3];dsimp only;rw[h4];dsimp only;rw[h5],q⟩
theorem N_{Q:List Val->Env->Prop}(q:Q [] ρ):Was [] ρ Q:=⟨_,_,rfl,q⟩
theorem m_{r:List FE}{Q:List Val->Env->Prop}(h:We a ρ fun x ρ1=>Was r ρ1 fun xs ρ2=>Q (x::xs) ρ2):Was (a::r) ρ Q:=by obtain⟨x,ρ1,h1,xs,ρ2,h2,q⟩:=h;exact⟨_,_,by unfold eAs;rw[h1];dsimp only;rw[h2],q⟩
theorem Pe{g:List Dat->Option RV}(h:Was as ρ fun xs ρ1=>WB g (pks ρ1 xs) fun v=>Q v.bW ρ1):We (eB g as) ρ Q:=by obtain⟨x,ρ1,h1,d,v,h2,h3,q⟩:=h;exact⟨_,_,by unfold eB;rw[h1];dsimp only;rw[h2];dsimp only;rw[h3],q⟩
theorem Qh(h:Was as ρ fun xs ρ1=>WT (tks ρ1 xs) fun ds ρ2=>Q (.val (.tup ds)) ρ2):We (bq as) ρ Q:=by obtain⟨x,ρ1,h1,ds,ρ2,h2,h3,q⟩:=h;exact⟨_,_,by unfold bq;rw[h1];dsimp only;rw[h2];dsimp only;rw[if_pos h3],q⟩
theorem Pz(h:Was as ρ fun xs ρ1=>WT (tks ρ1 xs) fun ds ρ2=>Q (.new (.lst ds)) ρ2):We (bf as) ρ Q:=by obtain⟨x,ρ1,h1,ds,ρ2,h2,h3,q⟩:=h;exact⟨_,_,by unfold bf;rw[h1];dsimp only;rw[h2];dsimp only;rw[if_pos h3],q⟩
theorem Pj{K:List Dat->Env->Prop}(k:K ds ρ3)(h:tks ρ xs=some (ds,ρ2))(hn:ρ2=ρ3)(hl:ds.length<=SZ):WT (tks ρ xs) K:=⟨_,_,hn▸h,hl,k⟩
theorem O3(h:Was as ρ fun xs ρ1=>WF f ρ1 xs Q):We (eF f as) ρ Q:=by
 obtain⟨x,ρ1,h1,ds,v,h2,h3,h4⟩:=h;by_cases hb:fL v.dat=true
 ·rw[if_pos hb]at h4;obtain⟨ds',ρ2,h5,q⟩:=h4;exact⟨_,_,by unfold eF;rw[h1];dsimp only;rw[h2];dsimp only;rw[h3];dsimp only;rw[if_pos hb,h5],q⟩
 ·rw[if_neg hb]at h4;exact⟨_,_,by unfold eF;rw[h1];dsimp only;rw[h2];dsimp only;rw[h3];dsimp only;rw[if_neg hb],h4⟩
theorem Py{ρ ρ2 ρ3:Env}{ds ds':List Dat}(h2:f ds=some v)(q:Q v.bW ρ3)(h1:pks ρ xs=some ds)(h3:fL v.dat=true)(h4:tks ρ xs=some (ds',ρ2))(hn:ρ2=ρ3):WF f ρ xs Q:=
 ⟨_,_,h1,h2,by rw[if_pos h3];exact⟨_,_,h4,hn▸q⟩⟩
theorem O0(h2:f ds=some v)(q:Q v.bW ρ)(h1:pks ρ xs=some ds)(h3:fL v.dat=false):WF f ρ xs Q:=
 ⟨_,_,h1,h2,by rw[if_neg (by rw[h3];decide)];exact q⟩
theorem QI{a b:FE}(h:Wt t ρ fun c ρ1=>Wif c (We a ρ1 Q) (We b ρ1 Q)):We (eIf t a b) ρ Q:=by
 obtain⟨c,ρ1,h1,h2,h3⟩:=h;cases c with
 |true=>obtain⟨v,ρ2,h4,q⟩:=h2 rfl;exact⟨_,_,by unfold eIf;rw[h1];exact h4,q⟩
 |false=>obtain⟨v,ρ2,h4,q⟩:=h3 rfl;exact⟨_,_,by unfold eIf;rw[h1];exact h4,q⟩
def Wb(v:Val)(K:Bool->Prop):Prop:=∃c,v=.val (.bl c)/\K c
theorem OY{K:Bool->Prop}(k:K c):Wb (.val (.bl c)) K:=⟨c,rfl,k⟩
theorem Pw{a b:FE}(h:We a ρ fun v ρ1=>Wb v fun c=>Wif c (We b ρ1 Q) (Q (.val (.bl false)) ρ1)):We (l8 a b) ρ Q:=by
 obtain⟨v,ρ1,h1,c,rfl,h2,h3⟩:=h;cases c with
 |true=>obtain⟨v,ρ2,h4,q⟩:=h2 rfl;exact⟨_,_,by unfold l8;rw[h1];exact h4,q⟩
 |false=>exact⟨_,_,by unfold l8;rw[h1],h3 rfl⟩
theorem O4{Q:Bool->Env->Prop}(h:We a ρ fun v ρ1=>Wb v fun c=>Q c ρ1):Wt (tV a) ρ Q:=by obtain⟨v,ρ1,h1,c,rfl,h2⟩:=h;exact⟨_,_,by unfold tV;rw[h1],h2⟩
theorem O7{Q:Bool->Env->Prop}(h:Wt t ρ fun c ρ1=>Q (!c) ρ1):Wt (dh t) ρ Q:=by obtain⟨v,ρ1,h1,h2⟩:=h;exact⟨_,_,by unfold dh;rw[h1],h2⟩
theorem Qw{t u:FT}{Q:Bool->Env->Prop}(h:Wt t ρ fun c ρ1=>Wif c (Wt u ρ1 Q) (Q false ρ1)):Wt (lW t u) ρ Q:=by
 obtain⟨c,ρ1,h1,h2,h3⟩:=h;cases c with
 |true=>obtain⟨v,ρ2,h4,q⟩:=h2 rfl;exact⟨_,_,by unfold lW;rw[h1];exact h4,q⟩
 |false=>exact⟨_,_,by unfold lW;rw[h1],h3 rfl⟩
theorem Pf{t u:FT}{Q:Bool->Env->Prop}(h:Wt t ρ fun c ρ1=>Wif c (Q true ρ1) (Wt u ρ1 Q)):Wt (tOr t u) ρ Q:=by
 obtain⟨c,ρ1,h1,h2,h3⟩:=h;cases c with
 |false=>obtain⟨v,ρ2,h4,q⟩:=h3 rfl;exact⟨_,_,by unfold tOr;rw[h1];exact h4,q⟩
 |true=>exact⟨_,_,by unfold tOr;rw[h1],h2 rfl⟩
theorem QE{Q:Bool->Env->Prop}(q:Q true ρ):Wt gD ρ Q:=⟨_,_,rfl,q⟩
theorem Pb{K:Dat->Env->Prop}(k:K d ρ):Wk ρ (.val d) K:=⟨_,_,rfl,k⟩
theorem PL{K:Dat->Env->Prop}(k:K d ρ):Wk ρ (.new d) K:=⟨_,_,rfl,k⟩
noncomputable def Dg:Dat->Option (List Dat)
 |.lst ds=>some ds
 |.tup ds=>some ds
 |_=>none
theorem Qp{Q:List Dat->Env->Prop}(h:We a ρ fun x ρ1=>Wk ρ1 x fun d ρ2=>∃ds,Dg d=some ds/\Q ds ρ2):Wi (iS a) ρ Q:=by
 obtain⟨x,ρ1,h1,d,ρ2,h2,ds,hd,q⟩:=h;cases d with
 |lst xs=>cases hd;exact⟨_,_,by unfold iS;rw[h1];dsimp only;rw[h2],q⟩
 |tup xs=>cases hd;exact⟨_,_,by unfold iS;rw[h1];dsimp only;rw[h2],q⟩
 |_=>cases hd
def bC(v:Val)(K:Int->Prop):Prop:=∃i,v=.val (.int i)/\K i
theorem bC.mk{i:Int}{K:Int->Prop}(k:K i):bC (.val (.int i)) K:=⟨i,rfl,k⟩
theorem P4{Q:List Dat->Env->Prop}(h:We a ρ fun v ρ1=>bC v fun j=>Q (ups 0 j.toNat) ρ1/\j<=BIG/\-BIG<=j):Wi (iR1 a) ρ Q:=by obtain⟨v,ρ1,h1,j,rfl,q,h2⟩:=h;exact⟨_,_,by unfold iR1;rw[h1];dsimp only;rw[if_pos h2],q⟩
theorem Qs{a b:FE}{Q:List Dat->Env->Prop}(h:We a ρ fun v ρ1=>bC v fun i=>We b ρ1 fun w ρ2=>bC w fun j=>Q (ups i (j-i).toNat) ρ2/\j<=BIG/\-BIG<=j/\i<=BIG/\-BIG<=i):Wi (iR2 a b) ρ Q:=by obtain⟨v,ρ1,h1,i,rfl,w,ρ2,h2,j,rfl,q,h3⟩:=h;exact⟨_,_,by unfold iR2;rw[h1];dsimp only;rw[h2];dsimp only;rw[if_pos h3],q⟩
theorem Q0{a b c:FE}{Q:List Dat->Env->Prop}(h:We a ρ fun v ρ1=>bC v fun i=>We b ρ1 fun w ρ2=>bC w fun j=>We c ρ2 fun u ρ3=>u=.val (.int (-1))/\Q (downs i (i-j).toNat) ρ3/\j<=BIG/\-BIG<=j/\i<=BIG/\-BIG<=i):Wi (iRd a b c) ρ Q:=by obtain⟨v,ρ1,h1,i,rfl,w,ρ2,h2,j,rfl,u,ρ3,h4,rfl,q,h3⟩:=h;exact⟨_,_,by unfold iRd;rw[h1];dsimp only;rw[h2];dsimp only;rw[h4];dsimp only;rw[if_pos ⟨rfl,h3⟩],q⟩
theorem QU{Q:List Dat->Env->Prop}(h:We a ρ fun x ρ1=>Wk ρ1 x fun d ρ2=>∃ds,d=.lst ds/\Q ds.reverse ρ2):Wi (xX a) ρ Q:=by obtain⟨x,ρ1,h1,d,ρ2,h2,ds,rfl,q⟩:=h;exact⟨_,_,by unfold xX;rw[h1];dsimp only;rw[h2],q⟩
theorem QJ{Q:List Dat->Env->Prop}(h:We a ρ fun x ρ1=>Wk ρ1 x fun d ρ2=>∃ds,d=.lst ds/\Q (jV 0 ds) ρ2):Wi (iEn a) ρ Q:=by obtain⟨x,ρ1,h1,d,ρ2,h2,ds,rfl,q⟩:=h;exact⟨_,_,by unfold iEn;rw[h1];dsimp only;rw[h2],q⟩
theorem Pa(n:N ρ):Ws sNx ρ N R B C:=⟨_,rfl,n⟩
theorem OX(h:Ws s ρ (fun ρ1=>Ws u ρ1 N R B C) R B C):Ws (aG s u) ρ N R B C:=by
 obtain⟨o,h1,h2⟩:=h;cases o with
 |nx ρ1=>obtain⟨o,h3,h4⟩:=h2;exact⟨o,by unfold aG;rw[h1];exact h3,h4⟩
 |ret r ρ1=>exact⟨.ret r ρ1,by unfold aG;rw[h1],h2⟩
 |bk ρ1=>exact⟨.bk ρ1,by unfold aG;rw[h1],h2⟩
 |ct ρ1=>exact⟨.ct ρ1,by unfold aG;rw[h1],h2⟩
def WA(i:Nat)(v:Val)(ρ:Env)(N:Env->Prop):Prop:=match v with
 |.new d=>N (ρ.set i (.ow d))
 |x=>Wk ρ x fun d ρ2=>N (ρ2.set i (.sh d))
theorem Pc{i:Nat}(h:We e ρ fun v ρ1=>WA i v ρ1 N)(hi:i≠0):Ws (sA i e) ρ N R B C:=by
 obtain⟨v,ρ1,h1,h2⟩:=h;cases v with
 |new d=>exact⟨.nx _,by unfold sA;rw[if_neg hi,h1],h2⟩
 |val d=>obtain⟨d',ρ2,h3,h4⟩:=h2;exact⟨.nx _,by unfold sA;rw[if_neg hi,h1];dsimp only;rw[h3],h4⟩
 |slot j=>obtain⟨d',ρ2,h3,h4⟩:=h2;exact⟨.nx _,by unfold sA;rw[if_neg hi,h1];dsimp only;rw[h3],h4⟩
theorem Po{i:Nat}{ρ ρ2:Env}(n:N ρ2)(hs:ρ.set i (.ow d)=ρ2):WA i (.new d) ρ N:=by unfold WA;dsimp only;rw[hs];exact n
theorem Pg{i:Nat}{ρ ρ2:Env}(n:N ρ2)(hs:ρ.set i (.sh d)=ρ2):WA i (.val d) ρ N:=⟨_,_,rfl,by show N _;rw[hs];exact n⟩
theorem Qn{is:List Nat}(h:We e ρ fun x ρ1=>Wk ρ1 x fun d ρ2=>∃ds ρ3,d=.tup ds/\sets is ds ρ2=some ρ3/\N ρ3):Ws (sU is e) ρ N R B C:=by obtain⟨x,ρ1,h1,d,ρ2,h2,ds,ρ3,rfl,h3,n⟩:=h;exact⟨.nx _,by unfold sU;rw[h1];dsimp only;rw[h2];dsimp only;rw[h3],n⟩
theorem Qu(h:We e ρ fun _ ρ1=>N ρ1):Ws (sE e) ρ N R B C:=by obtain⟨x,ρ1,h1,n⟩:=h;exact⟨.nx _,by unfold sE;rw[h1],n⟩
def WR(v:Val)(ρ:Env)(R:RV->Env->Prop):Prop:=match v with
 |.new d=>R (.new d) ρ
 |.val d=>R (.val d) ρ
 |.slot i=>(∃d,ρ[i]?=some (.ow d)/\R (.new d) (ρ.set i .un))
theorem O5(h:We e ρ fun v ρ1=>WR v ρ1 R):Ws (sR e) ρ N R B C:=by
 obtain⟨v,ρ1,h1,h2⟩:=h;cases v with
 |new d=>exact⟨.ret _ _,by unfold sR;rw[h1],h2⟩
 |val d=>exact⟨.ret _ _,by unfold sR;rw[h1],h2⟩
 |slot i=>obtain⟨d,h3,h4⟩:=h2;exact⟨.ret _ _,by unfold sR;rw[h1];dsimp only;rw[h3],h4⟩
theorem Qv(r:R (.new d) ρ):WR (.new d) ρ R:=r
theorem Pn(r:R (.val d) ρ):WR (.val d) ρ R:=r
theorem PO{i:Nat}(r:R (.new d) (ρ.set i .un))(h:ρ[i]?=some (.ow d)):WR (.slot i) ρ R:=⟨d,h,r⟩
theorem O_{a b:FS}(h:Wt t ρ fun c ρ1=>Wif c (Ws a ρ1 N R B C) (Ws b ρ1 N R B C)):Ws (sIf t a b) ρ N R B C:=by
 obtain⟨c,ρ1,h1,h2,h3⟩:=h;cases c with
 |true=>obtain⟨o,h4,q⟩:=h2 rfl;exact⟨_,by unfold sIf;rw[h1];exact h4,q⟩
 |false=>obtain⟨o,h4,q⟩:=h3 rfl;exact⟨_,by unfold sIf;rw[h1];exact h4,q⟩
theorem Qm{i:Nat}{ds0:List Dat}(h:We e ρ fun x ρ1=>Wk ρ1 x fun d ρ2=>∃ds ρ3,ρ2[i]?=some (.ow (.lst ds))/\ρ2.set i (.ow (.lst (ds++[d])))=ρ3/\N ρ3/\ds.length<SZ)(h0:ρ[i]?=some (.ow (.lst ds0))):Ws (sd i e) ρ N R B C:=by obtain⟨x,ρ1,h1,d,ρ2,h2,ds,ρ3,h3,h5,n,h4⟩:=h;exact⟨.nx _,by unfold sd;rw[h0];dsimp only;rw[h1];dsimp only;rw[h2];dsimp only;rw[h3];dsimp only;rw[if_pos h4,h5],n⟩
theorem qT{i:Nat}(n:N ρ3)(h:ρ2[i]?=some (.ow (.lst ds)))(hs:ρ2.set i (.ow (.lst (ds++[d])))=ρ3)(hl:ds.length<SZ):∃ds ρ3,ρ2[i]?=some (.ow (.lst ds))/\ρ2.set i (.ow (.lst (ds++[d])))=ρ3/\N ρ3/\ds.length<SZ:=⟨_,_,h,hs,n,hl⟩
theorem PX{i:Nat}{j e:FE}(h:We e ρ fun x ρ1=>Wk ρ1 x fun d ρ2=>(∃d0,ρ2[i]?=some (.ow d0))/\We j ρ2 fun y ρ3=>bC y fun k=>∃ds m ρ4,ρ3[i]?=some (.ow (.lst ds))/\ixN ds.length k=some m/\ρ3.set i (.ow (.lst (ds.set m d)))=ρ4/\N ρ4):Ws (l9 i j e) ρ N R B C:=by obtain⟨x,ρ1,h1,d,ρ2,h2,⟨d0,h0⟩,y,ρ3,h3,k,rfl,ds,m,ρ4,h4,h5,h6,n⟩:=h;exact⟨.nx _,by unfold l9;rw[h1];dsimp only;rw[h2];dsimp only;rw[h0];dsimp only;rw[h3];dsimp only;rw[h4];dsimp only;rw[h5];dsimp only;rw[h6],n⟩
theorem Px(h:Wi it ρ fun ds ρ1=>Ws (kB bd body ds) ρ1 N R B C):Ws (fW it bd body) ρ N R B C:=by obtain⟨ds,ρ1,h1,o,h2,h3⟩:=h;exact⟨o,by unfold fW;rw[h1];exact h2,h3⟩
theorem PC(m7:α->Dat)(bd:FB)(body:FS)(xs:List α)(ρ:Env)(N:Env->Prop)(R:RV->Env->Prop)(B C:Env->Prop)(I:List α->List α->Env->Prop)
  (h0:I [] xs ρ) (hs:∀p x q ρ,xs=p++x::q->I p (x::q) ρ->∃ρ1,bd (m7 x) ρ=some ρ1/\Ws body ρ1 (fun ρ2=>I (p++[x]) q ρ2) R N (fun ρ2=>I (p++[x]) q ρ2)) (he:∀ρ,I xs [] ρ->N ρ):Ws (kB bd body (xs.map m7)) ρ N R B C:=by
 have go:∀(q p:List α) (ρ:Env),xs=p++q->I p q ρ->Ws (kB bd body (q.map m7)) ρ N R B C:=fun q=>by
  induction q with
  |nil=>intro p ρ e i;rw[MN]at e;exact⟨.nx _,rfl,he ρ (e▸i)⟩
  |cons x q ih=>
   intro p ρ e i;obtain⟨ρ1,h1,o,h2,h3⟩:=hs p x q ρ e i;have e':xs=(p++[x])++q:=by rw[Om];exact e
   cases o with
   |nx ρ2=>obtain⟨o,h4,h5⟩:=ih _ _ e' h3;exact⟨o,by rw[MI,kB,h1];dsimp only;rw[h2];exact h4,h5⟩
   |ct ρ2=>obtain⟨o,h4,h5⟩:=ih _ _ e' h3;exact⟨o,by rw[MI,kB,h1];dsimp only;rw[h2];exact h4,h5⟩
   |bk ρ2=>exact⟨.nx _,by rw[MI,kB,h1];dsimp only;rw[h2],h3⟩
   |ret r ρ2=>exact⟨.ret _ _,by rw[MI,kB,h1];dsimp only;rw[h2],h3⟩
 exact go xs [] ρ rfl h0
theorem O6{P:RV->Prop}(b:Ws body ρ (fun _=>P (.val .non)) (fun r _=>P r) (fun _=>False) (fun _=>False))(hρ:ds.map Cell.sh++gV m .un=ρ)(h:ds.length=n):Wr (fn n m body ds) P:=by
 obtain⟨o,h1,h2⟩:=b;cases o with
 |nx ρ1=>exact⟨_,by unfold Dm.fn;rw[if_pos h,hρ,h1],h2⟩
 |ret r ρ1=>exact⟨_,by unfold Dm.fn;rw[if_pos h,hρ,h1],h2⟩
 |bk ρ1=>exact h2.elim
 |ct ρ1=>exact h2.elim
theorem O8{o:Option RV}{r:RV}(h:Wr o fun x=>x=r):o=some r:=by obtain⟨x,h1,rfl⟩:=h;exact h1
theorem Au(m7:α->Dat)(p:α->Bool)(v:α->Dat)(bd:FB)(t:FT)(el:FE)(mk:Cell->Env)(hb:∀d c,bd d (mk c)=some (mk (.sh d))):∀(xs:List α) (c:Cell) (EA:List Dat),
  (∀x∈xs,t (mk (.sh (m7 x)))=some (p x,mk (.sh (m7 x))))->(∀x∈xs,p x=true->We el (mk (.sh (m7 x))) fun w ρ'=>Wk ρ' w fun d ρ''=>d=v x/\ρ''=mk (.sh (m7 x))) ->
  ∃c',e9 bd t el (xs.map m7) (mk c) EA=some (EA++(xs.filter p).map v,mk c')
 |[],c,EA,_,_=>⟨c,by simp[e9]⟩
 |x::xs,c,EA,ht,he=>by
  rw[MI,e9,hb];dsimp only;rw[ht x MA];have ht':=fun y hy=>ht y (MB _ hy);have he':=fun y hy=>he y (MB _ hy);by_cases h:p x=true
  ·obtain⟨w,ρ',h1,d,ρ'',h2,rfl,rfl⟩:=he x MA h;rw[h];dsimp only;rw[h1];dsimp only;rw[h2];obtain⟨c',e⟩:=Au m7 p v bd t el mk hb xs (.sh (m7 x)) (EA++[v x]) ht' he';exact⟨c',by dsimp only;rw[e,Nq h];simp⟩
  ·rw[Bool.not_eq_true]at h;rw[h];obtain⟨c',e⟩:=Au m7 p v bd t el mk hb xs (.sh (m7 x)) EA ht' he';exact⟨c',by dsimp only;rw[e,Nr (by rw[h];decide)]⟩
theorem Qk(h:Wt t ρ fun c' ρ'=>c'=c/\ρ'=ρ):t ρ=some (c,ρ):=by obtain⟨_,_,h1,rfl,rfl⟩:=h;exact h1
theorem Qz(m7:α->Dat)(xs:List α)(p:α->Bool)(v:α->Dat){it:FI}{k:Nat}{t:FT}{el:FE}{ρ ρ1:Env}{Q:Val->Env->Prop}
  (q:Q (.new (.lst ((xs.filter p).map v))) ρ1) (G3:it ρ=some (xs.map m7,ρ1)) (hk:ρ1.length=k) (hk0:k≠0) (hl:xs.length<=SZ)
  (ht:∀x∈xs,Wt t (ρ1++[.sh (m7 x)]) fun c ρ'=>c=p x/\ρ'=ρ1++[.sh (m7 x)])
  (he:∀x∈xs,p x=true->We el (ρ1++[.sh (m7 x)]) fun w ρ'=>Wk ρ' w fun d ρ''=>d=v x/\ρ''=ρ1++[.sh (m7 x)]):We (bX it 1 (bN k) t el) ρ Q:=by
 have bd:∀(d:Dat) (c:Cell),bN k d (ρ1++[c])=some (ρ1++[.sh d]):=fun d c=>by unfold bN;rw[if_neg hk0,NB _ _ (by lia)];simp[hk]
 obtain⟨c',e⟩:=Au m7 p v (bN k) t el (fun c=>ρ1++[c]) bd xs .un [] (fun x hx=>Qk (ht x hx)) he;refine⟨_,_,?_,q⟩;unfold bX;rw[G3];dsimp only;rw[if_pos (by rw[Mg];exact hl)];show (match e9 _ _ _ _ (ρ1++[.un]) [] with | none=>none | some (ys,ρ2)=>some (Val.new (.lst ys),ρ2.take ρ1.length))=_;rw[e];dsimp only;rw[N4,OJ]
theorem QL(m7:α->Dat)(xs:List α)(p:α->Bool)(v:α->Dat){i:Nat}{k:Nat}{t:FT}{el:FE}{ρ:Env}{Q:Val->Env->Prop}{d:Dat}
  (q:Q (.new (.lst ((xs.filter p).map v))) ρ) (hi:ρ[i]?=some (.sh d)) (hd:Dg d=some (xs.map m7)) (hk:ρ.length=k) (hk0:k≠0) (hl:xs.length<=SZ)
  (ht:∀x∈xs,Wt t (ρ++[.sh (m7 x)]) fun c ρ'=>c=p x/\ρ'=ρ++[.sh (m7 x)])
  (he:∀x∈xs,p x=true->We el (ρ++[.sh (m7 x)]) fun w ρ'=>Wk ρ' w fun d ρ''=>d=v x/\ρ''=ρ++[.sh (m7 x)]):We (dm i 1 (bN k) t el) ρ Q:=by
 have G3:iS (eV i) ρ=some (xs.map m7,ρ):=by
  unfold iS eV;rw[hi];cases d with
  |lst ys=>cases hd;rfl
  |tup ys=>cases hd;rfl
  |_=>cases hd
 obtain⟨a,ρ',h1,h2⟩:=Qz m7 xs p v (Q:=Q) q G3 hk hk0 hl ht he;refine⟨a,ρ',?_,h2⟩;unfold dm;rw[hi];exact h1
theorem P6{α β:Type}(m7:α->Dat)(xs:List α)(f:α->β)(iU:β->Dat){it:FI}{k:Nat}{el:FE}{ρ ρ1:Env}{Q:Val->Env->Prop}
  (q:Q (.new (.lst ((xs.map f).map iU))) ρ1) (G3:it ρ=some (xs.map m7,ρ1)) (hk:ρ1.length=k) (hk0:k≠0) (hl:xs.length<=SZ)
  (he:∀x∈xs,We el (ρ1++[.sh (m7 x)]) fun w ρ'=>Wk ρ' w fun d ρ''=>d=iU (f x)/\ρ''=ρ1++[.sh (m7 x)]):We (bX it 1 (bN k) gD el) ρ Q:=
 Qz m7 xs (fun _=>true) (fun x=>iU (f x)) (by rw[List.filter_eq_self.mpr (fun _ _=>rfl)];rw[Ni]at q;exact q) G3 hk hk0 hl (fun _ _=>QE ⟨rfl,rfl⟩) fun x hx _=>he x hx
theorem Qa{α β:Type}(m7:α->Dat)(xs:List α)(f:α->β)(iU:β->Dat){i:Nat}{k:Nat}{el:FE}{ρ:Env}{Q:Val->Env->Prop}{d:Dat}
  (q:Q (.new (.lst ((xs.map f).map iU))) ρ) (hi:ρ[i]?=some (.sh d)) (hd:Dg d=some (xs.map m7)) (hk:ρ.length=k) (hk0:k≠0) (hl:xs.length<=SZ)
  (he:∀x∈xs,We el (ρ++[.sh (m7 x)]) fun w ρ'=>Wk ρ' w fun d ρ''=>d=iU (f x)/\ρ''=ρ++[.sh (m7 x)]):We (dm i 1 (bN k) gD el) ρ Q:=
 QL m7 xs (fun _=>true) (fun x=>iU (f x)) (by rw[List.filter_eq_self.mpr (fun _ _=>rfl)];rw[Ni]at q;exact q) hi hd hk hk0 hl (fun _ _=>QE ⟨rfl,rfl⟩) fun x hx _=>he x hx
theorem QM{α β:Type}(m7:α->Dat)(xs:List α)(p:α->Bool)(f:α->β)(iU:β->Dat){i:Nat}{k:Nat}{t:FT}{el:FE}{ρ:Env}{Q:Val->Env->Prop}{d:Dat}
  (q:Q (.new (.lst (((xs.filter p).map f).map iU))) ρ) (hi:ρ[i]?=some (.sh d)) (hd:Dg d=some (xs.map m7)) (hk:ρ.length=k) (hk0:k≠0) (hl:xs.length<=SZ)
  (ht:∀x∈xs,Wt t (ρ++[.sh (m7 x)]) fun c ρ'=>c=p x/\ρ'=ρ++[.sh (m7 x)])
  (he:∀x∈xs,p x=true->We el (ρ++[.sh (m7 x)]) fun w ρ'=>Wk ρ' w fun d ρ''=>d=iU (f x)/\ρ''=ρ++[.sh (m7 x)]):We (dm i 1 (bN k) t el) ρ Q:=
 QL m7 xs p (fun x=>iU (f x)) (by rw[Ni]at q;exact q) hi hd hk hk0 hl ht he
theorem Dh(i j:Int):gEq (.int i) (.int j)=vB (decide (i=j)):=by
 have:(i == j)=decide (i=j):=by by_cases h:i=j<;>simp[h]
 show vB (i == j)=_;rw[this]
theorem Di(i j:Int):gNe (.int i) (.int j)=vB (!decide (i=j)):=by
 have:(i == j)=decide (i=j):=by by_cases h:i=j<;>simp[h]
 show vB (!(i == j))=_;rw[this]
theorem PY(k:K (.val (.bl (decide (i=j)))))(ho:o=some (.int i))(hp:p=some (.int j)):Wg2 gEq o p K:=⟨_,_,_,ho,hp,Dh i j,k⟩
theorem PJ(k:K (.val (.bl (!decide (i=j)))))(ho:o=some (.int i))(hp:p=some (.int j)):Wg2 gNe o p K:=⟨_,_,_,ho,hp,Di i j,k⟩
theorem Qi(k:K (.val (.bl (decide (i<j)))))(ho:o=some (.int i))(hp:p=some (.int j)):Wg2 gLt o p K:=⟨_,_,_,ho,hp,rfl,k⟩
theorem Qy(k:K (.val (.bl (decide (i<=j)))))(ho:o=some (.int i))(hp:p=some (.int j)):Wg2 gLe o p K:=⟨_,_,_,ho,hp,rfl,k⟩
theorem PU(k:K (.val (.bl (decide (j<i)))))(ho:o=some (.int i))(hp:p=some (.int j)):Wg2 gGt o p K:=⟨_,_,_,ho,hp,rfl,k⟩
theorem Qj(k:K (.val (.bl (decide (j<=i)))))(ho:o=some (.int i))(hp:p=some (.int j)):Wg2 gGe o p K:=⟨_,_,_,ho,hp,rfl,k⟩
theorem Pq(k:K (.val (.int (i+j))))(ho:o=some (.int i))(hp:p=some (.int j)):Wg2 cX o p K:=⟨_,_,_,ho,hp,rfl,k⟩
theorem PB(k:K (.val (.int (i-j))))(ho:o=some (.int i))(hp:p=some (.int j)):Wg2 fU o p K:=⟨_,_,_,ho,hp,rfl,k⟩
theorem Qc(k:K (.val (.int (i*j))))(ho:o=some (.int i))(hp:p=some (.int j))(h:(-B64<i/\i<B64)\/(-B64<j/\j<B64)):Wg2 iy o p K:=⟨_,_,_,ho,hp,by unfold iy;dsimp only;rw[if_pos h],k⟩
theorem Qq(k:K (.val (.int (i / j))))(ho:o=some (.int i))(hp:p=some (.int j))(h:0<j/\j<qv):Wg2 se o p K:=⟨_,_,_,ho,hp,by unfold se;dsimp only;rw[if_pos h],k⟩
theorem Qf(k:K (.val (.int (i % j))))(ho:o=some (.int i))(hp:p=some (.int j))(h:0<j):Wg2 iI o p K:=⟨_,_,_,ho,hp,by unfold iI;dsimp only;rw[if_pos h],k⟩
theorem PN{i j z:Int}(k:K (.val (.int z)))(ho:o=some (.int i))(hp:p=some (.int j))(h:0<=j/\j<=1000000/\i.natAbs<1000000)(hz:i ^ j.toNat=z):Wg2 jK o p K:=⟨_,_,_,ho,hp,by unfold jK;dsimp only;rw[if_pos h,hz],k⟩
theorem OZ{d e:Dat}{v:Dat}(k:K (.val v))(ho:o=some d)(hp:p=some e)(h:gIx d e=some (.val v)):Wg2 gIx o p K:=⟨_,_,_,ho,hp,h,k⟩
theorem ig(m7:α->Dat)(xs:List α)(i:Int)(h0:0<=i)(h1:i<xs.length):atI (xs.map m7) i=some (m7 (xs[i.toNat]'(by omega))):=by unfold atI ixN;rw[Mg,if_pos h0,if_pos h1];show (xs.map m7)[i.toNat]?=_;rw[Mq,Me (by lia)];rfl
theorem PZ{m7:α->Dat}{xs:List α}{i:Int}(h0:0<=i)(h1:i<xs.length)(k:K (.val (m7 (xs[i.toNat]'(by omega)))))(ho:o=some (.lst (xs.map m7)))(hp:p=some (.int i)):Wg2 gIx o p K:=
 ⟨_,_,_,ho,hp,by unfold gIx;dsimp only;rw[ig m7 xs i h0 h1];rfl,k⟩
theorem Dj(i:Int)(xs:List Int):inD (.int i) (xs.map Dat.int)=decide (i∈xs):=by
 induction xs with
 |nil=>rfl
 |cons x xs ih=>
  have ih':(xs.map Dat.int).any (fun y=>eqD y (.int i))=decide (i∈xs):=ih;unfold inD;rw[MI,List.any_cons,ih'];show ((x == i)||_)=_;by_cases h:x=i
  ·simp[h]
  ·have h':¬i=x:=fun z=>h z.symm;simp[h,h']
theorem GW(xs:List Int):(xs.map Dat.int).all (okD 7)=true:=by rw[MY];intro d hd;obtain⟨x,_,rfl⟩:=OP.mp hd;rfl
theorem QC{i:Int}{xs:List Int}(k:K (.val (.bl (!decide (i∈xs)))))(ho:o=some (.int i))(hp:p=some (.lst (xs.map Dat.int))):Wg2 kC o p K:=
 ⟨_,_,_,ho,hp,by unfold kC;dsimp only;rw[show okD 8 (.int i)=true from rfl,GW,Dj];rfl,k⟩
theorem Ql{xs:List Dat}{o:Option (List Dat)}(k:K (.val (.int xs.length)))(ho:o=some [.lst xs]):WB eT o K:=⟨_,_,ho,rfl,k⟩
theorem PR{xs:List Dat}{o:Option (List Dat)}(k:K (.val (.int xs.length)))(ho:o=some [.tup xs]):WB eT o K:=⟨_,_,ho,rfl,k⟩
theorem Qo{o:Option (List Dat)}(k:K (.val (.int (if j<i then j else i))))(ho:o=some [.int i,.int j]):WB pD o K:=⟨_,_,ho,rfl,k⟩
theorem Qg{o:Option (List Dat)}(k:K (.val (.int (if j>i then j else i))))(ho:o=some [.int i,.int j]):WB mj o K:=⟨_,_,ho,rfl,k⟩
theorem QD{b:Bool}{o:Option (List Dat)}(k:K (.val (.int (b2i b))))(ho:o=some [.bl b]):WB zd o K:=⟨_,_,ho,rfl,k⟩
theorem Pp{o:Option Dat}(k:K v)(ho:o=some d)(h:g d=some v):Wg1 g o K:=⟨_,_,ho,h,k⟩
theorem JG(m7:α->Dat)(xs:List α)(h:∀x,okD 7 (m7 x)=true):okD 8 (.lst (xs.map m7))=true:=by unfold okD;rw[MY];intro d hd;obtain⟨x,_,rfl⟩:=OP.mp hd;exact h x
theorem PM{m7:α->Dat}{xs:List α}{o:Option (List Dat)}(k:K (.val (.int xs.length)))(ho:o=some [.lst (xs.map m7)]):WB eT o K:=⟨_,_,ho,by unfold eT;dsimp only;rw[Mg],k⟩
theorem QN{s:FS}{N N':Env->Prop}(h:Ws s ρ N' R B C)(k:∀ρ',N' ρ'->N ρ'):Ws s ρ N R B C:=by
 obtain⟨o,h1,h2⟩:=h;cases o with
 |nx ρ1=>exact⟨.nx ρ1,h1,k _ h2⟩
 |ret r ρ1=>exact⟨.ret r ρ1,h1,h2⟩
 |bk ρ1=>exact⟨.bk ρ1,h1,h2⟩
 |ct ρ1=>exact⟨.ct ρ1,h1,h2⟩
theorem GX{i:Nat}{W:Prop}(h:ρ[i]?=some (.ow d))(w:W):(∃d0,ρ[i]?=some (.ow d0))/\W:=⟨⟨d,h⟩,w⟩
theorem cg{ρ ρ1 ρ2:Env}{W:Env->Prop}(h:bd d ρ=some ρ1)(hn:ρ1=ρ2)(w:W ρ2):∃ρ1,bd d ρ=some ρ1/\W ρ1:=⟨ρ1,h,hn▸w⟩
theorem Av(m7:α->Dat)(p:α->Bool)(v:α->Dat)(bd:FB)(t:FT)(el:FE)(e0:Env)(env:α->Env)(h0:∀x,bd (m7 x) e0=some (env x))(h1:∀x y,bd (m7 x) (env y)=some (env x)):∀(xs:List α) (EA:List Dat) (e:Env),(e=e0\/∃y,e=env y) ->
  (∀x∈xs,t (env x)=some (p x,env x))->(∀x∈xs,p x=true->We el (env x) fun w ρ'=>Wk ρ' w fun d ρ''=>d=v x/\ρ''=env x) ->
  ∃e',(e'=e0\/∃y,e'=env y)/\e9 bd t el (xs.map m7) e EA=some (EA++(xs.filter p).map v,e')
 |[],EA,e,he,_,_=>⟨e,he,by simp[e9]⟩
 |x::xs,EA,e,he,ht,hel=>by
  have hb:bd (m7 x) e=some (env x):=by
   rcases he with rfl | ⟨y,rfl⟩
   ·exact h0 x
   ·exact h1 x y
  rw[MI,e9,hb];dsimp only;rw[ht x MA];have ht':=fun y hy=>ht y (MB _ hy);have he':=fun y hy=>hel y (MB _ hy);by_cases h:p x=true
  ·obtain⟨w,ρ',g1,d,ρ'',g2,rfl,rfl⟩:=hel x MA h;rw[h];dsimp only;rw[g1];dsimp only;rw[g2];obtain⟨e',q,z⟩:=Av m7 p v bd t el e0 env h0 h1 xs (EA++[v x]) _ (.inr ⟨x,rfl⟩) ht' he';exact⟨e',q,by dsimp only;rw[z,Nq h];simp⟩
  ·rw[Bool.not_eq_true]at h;rw[h];obtain⟨e',q,z⟩:=Av m7 p v bd t el e0 env h0 h1 xs EA _ (.inr ⟨x,rfl⟩) ht' he';exact⟨e',q,by dsimp only;rw[z,Nr (by rw[h];decide)]⟩
theorem Q2{α β:Type}(m7:α->Dat)(xs:List α)(p:α->Bool)(f:α->β)(iU:β->Dat)(env:α->Env){it:FI}{own:Nat}{bd:FB}{t:FT}{el:FE}{ρ ρ1:Env}{Q:Val->Env->Prop}
  (q:Q (.new (.lst (((xs.filter p).map f).map iU))) ρ1) (G3:it ρ=some (xs.map m7,ρ1)) (h0:∀x,bd (m7 x) (ρ1++gV own .un)=some (env x)) (h1:∀x y,bd (m7 x) (env y)=some (env x)) (h2:∀x,(env x).take ρ1.length=ρ1) (hl:xs.length<=SZ)
  (ht:∀x∈xs,Wt t (env x) fun c ρ'=>c=p x/\ρ'=env x)
  (he:∀x∈xs,p x=true->We el (env x) fun w ρ'=>Wk ρ' w fun d ρ''=>d=iU (f x)/\ρ''=env x):We (bX it own bd t el) ρ Q:=by
 obtain⟨e',q',e⟩:=Av m7 p (fun x=>iU (f x)) bd t el _ env h0 h1 xs [] _ (.inl rfl) (fun x hx=>Qk (ht x hx)) he;refine⟨_,_,?_,q⟩;unfold bX;rw[G3];dsimp only;rw[if_pos (by rw[Mg];exact hl),e];dsimp only;rw[N4,Ni];have:e'.take ρ1.length=ρ1:=by
  rcases q' with rfl | ⟨y,rfl⟩
  ·exact OJ
  ·exact h2 y
 rw[this];rfl
theorem yj(p:α->Bool)(xs:List α):bools (xs.map fun x=>Dat.bl (p x))=some (xs.map p):=by
 induction xs with
 |nil=>rfl
 |cons x xs ih=>rw[MI,bools,ih];rfl
theorem P5(p:α->Bool){xs:List α}{o:Option (List Dat)}(k:K (.val (.bl (xs.all p))))(ho:o=some [.lst (xs.map fun x=>Dat.bl (p x))]):WB uX o K:=⟨_,_,ho,by
 unfold uX;dsimp only;rw[yj];have:(xs.map p).all id=xs.all p:=by rw[Ou];rfl
 dsimp only;rw[this],k⟩
theorem QK{j:Int}{o:Option (List Dat)}(k:K (.new (.lst (ups 0 j.toNat))))(ho:o=some [.int j])(h:j<=1000000/\-1000000<=j):WB mG o K:=⟨_,_,ho,by unfold mG;dsimp only;rw[if_pos h],k⟩
theorem P7(J:Env->Prop)(h1:Ws s ρ J R B C)(h2:∀ρ',J ρ'->Ws u ρ' N R B C):Ws (aG s u) ρ N R B C:=OX (QN h1 h2)
def WrM(o:Option (RV×Dat))(P:RV->Dat->Prop):Prop:=∃z d,o=some (z,d)/\P z d
theorem PF{r:List Dat}{P:RV->Dat->Prop}(b:Ws body ρ (fun ρ'=>∃d',ρ'[0]?=some (.ow d')/\P (.val .non) d') (fun z ρ'=>∃d',ρ'[0]?=some (.ow d')/\P z d') (fun _=>False) (fun _=>False))(hρ:Cell.ow d::(r.map Cell.sh++gV m .un)=ρ)(h:(d::r).length=n):WrM (fnM n m body (d::r)) P:=by
 obtain⟨o,h1,h2⟩:=b;cases o with
 |nx ρ1=>obtain⟨d',h3,h4⟩:=h2;exact⟨_,_,by unfold fnM;rw[if_pos h];dsimp only;rw[hρ,h1];dsimp only;rw[h3],h4⟩
 |ret z ρ1=>obtain⟨d',h3,h4⟩:=h2;exact⟨_,_,by unfold fnM;rw[if_pos h];dsimp only;rw[hρ,h1];dsimp only;rw[h3],h4⟩
 |bk ρ1=>exact h2.elim
 |ct ρ1=>exact h2.elim
def WFm(f:List Dat->Option (RV×Dat))(j:Nat)(ρ1:Env)(xs:List Val)(Q:Val->Env->Prop):Prop:=
 ∃d1 ds ρ2 d v d',ρ1[j]?=some (.ow d1)/\tks ρ1 xs=some (ds,ρ2)/\ρ2[j]?=some (.ow d)/\f (d::ds)=some (v,d')/\(if (flat v.dat&&mJ d')=true then Q v.bW (ρ1.set j (.ow d')) else Q v.bW (ρ2.set j (.ow d')))
theorem PK{f:List Dat->Option (RV×Dat)}{j:Nat}{d0:Dat}(h:Was as ρ fun xs ρ1=>WFm f j ρ1 xs Q)(h0:ρ[j]?=some (.ow d0)):We (eFm f j as) ρ Q:=by
 obtain⟨xs,ρ1,h1,d1,ds,ρ2,d,v,d',h2,h3,h4,h5,q⟩:=h;by_cases c:(flat v.dat&&mJ d')=true
 ·rw[if_pos c]at q;exact⟨_,_,by unfold eFm;rw[h0];dsimp only;rw[h1];dsimp only;rw[h2];dsimp only;rw[h3];dsimp only;rw[h4];dsimp only;rw[h5];dsimp only;rw[if_pos c],q⟩
 ·rw[if_neg c]at q;exact⟨_,_,by unfold eFm;rw[h0];dsimp only;rw[h1];dsimp only;rw[h2];dsimp only;rw[h3];dsimp only;rw[h4];dsimp only;rw[h5];dsimp only;rw[if_neg c],q⟩
theorem PD{f:List Dat->Option (RV×Dat)}{j:Nat}{ρ1 ρ3:Env}{d d':Dat}(h5:f (d::ds)=some (v,d'))(q:Q v.bW ρ3)(h2:ρ1[j]?=some (.ow d))(h3:tks ρ1 xs=some (ds,ρ1))(hn:ρ1.set j (.ow d')=ρ3):WFm f j ρ1 xs Q:=
 ⟨_,_,_,_,_,_,h2,h3,h2,h5,by rw[hn];split<;>exact q⟩
theorem P8{ρ ρ1:Env}(h:Wi it ρ fun x y=>x=ds/\y=ρ1):it ρ=some (ds,ρ1):=by obtain⟨_,_,h1,rfl,rfl⟩:=h;exact h1
theorem QW{ρ ρ':Env}{v:Val}(h:We e ρ fun x y=>x=v/\y=ρ'):e ρ=some (v,ρ'):=by obtain⟨_,_,h1,rfl,rfl⟩:=h;exact h1
def Wm(g:FM)(ρ:Env)(p:Dp)(N:Env->Prop)(R:RV->Env->Prop)(B C:Env->Prop):Prop:=∃o,g ρ p=some o/\KO N R B C o
end
section
variable{N:Env->Prop}{R:RV->Env->Prop}{B C:Env->Prop}{ρ:Env}{p:Dp}
section
variable{f:List Dat->Option Dp}{j:Nat}{g:FM}
theorem Q3{as:List FE}(h:Was as ρ fun xs ρ1=>∃ds ρ2 p ρ3,f ds=some p/\Wm g ρ3 p N R B C/\tks ρ1 xs=some (ds,ρ2)/\ρ2.set j .un=ρ3)(hj:j≠0):Ws (pR j f as g) ρ N R B C:=by obtain⟨xs,ρ1,h1,ds,ρ2,p,ρ3,h2,⟨o,h3,h4⟩,h5,rfl⟩:=h;exact⟨o,by unfold pR;rw[if_neg hj,h1];dsimp only;rw[h5];dsimp only;rw[h2];exact h3,h4⟩
theorem GY.mk{ρ1 ρ2 ρ3:Env}{xs:List Val}{ds:List Dat}{p:Dp}(h2:f ds=some p)(h3:Wm g ρ3 p N R B C)(h5:tks ρ1 xs=some (ds,ρ2))(hn:ρ2.set j .un=ρ3):∃ds ρ2 p ρ3,f ds=some p/\Wm g ρ3 p N R B C/\tks ρ1 xs=some (ds,ρ2)/\ρ2.set j .un=ρ3:=⟨_,_,_,_,h2,h3,h5,hn⟩
theorem QZ{t:FT}{fs:FS}{ρ':Env}(h:Wt t ρ' fun c _=>c=false)(k:Wm g ρ p N R B C)(e:see j ρ p=ρ'):Wm (mIf j t fs g) ρ p N R B C:=by obtain⟨c,ρ1,h1,rfl⟩:=h;obtain⟨o,h3,h4⟩:=k;exact⟨o,by unfold mIf;rw[e,h1];exact h3,h4⟩
theorem QO{z:Int}{gs:FS}{xs ys:List Dp}{m:Nat}(k:Ws gs ρ N R B C)(h1:ixN xs.length z=some m)(h2:xs[m]?=some (.l ys)):Wm (ye z gs) ρ (.t xs) N R B C:=by obtain⟨o,h3,h4⟩:=k;exact⟨o,by unfold ye;dsimp only;rw[h1];dsimp only;rw[h2];exact h3,h4⟩
end
end
def Wq(g:FSP)(ρ:Env)(P:Dp->Prop):Prop:=∃p,g ρ=some p/\P p
def Wp'(f:FP)(ρ:Env)(Q:Dp->Env->Prop):Prop:=∃p ρ',f ρ=some (p,ρ')/\Q p ρ'
def Wpa(fs:List FP)(ρ:Env)(Q:List Dp->Env->Prop):Prop:=∃p ρ',pAs fs ρ=some (p,ρ')/\Q p ρ'
section
variable{ρ:Env}{P:Dp->Prop}
section
variable{Q:Dp->Env->Prop}{ds:List Dat}{fs:List FP}{g:FSP}{f:FP}
theorem Qe{n m:Nat}{ρ:Env}(h:Wq g ρ P)(hl:ds.length=n)(e:ds.map Cell.sh++gV m .un=ρ):∃p,fnP n m g ds=some p/\P p:=by obtain⟨p,h1,h2⟩:=h;exact⟨p,by unfold fnP;rw[if_pos hl,e];exact h1,h2⟩
theorem P0{s:FS}(h:Ws s ρ (fun ρ1=>Wq g ρ1 P) (fun _ _=>False) (fun _=>False) (fun _=>False)):Wq (lE s g) ρ P:=by
 obtain⟨o,h1,h2⟩:=h;cases o with
 |nx ρ1=>obtain⟨p,h3,h4⟩:=h2;exact⟨p,by unfold lE;rw[h1];exact h3,h4⟩
 |ret _ _=>exact h2.elim
 |bk _=>exact h2.elim
 |ct _=>exact h2.elim
theorem PV(h:Wp' f ρ fun p _=>P p):Wq (qR f) ρ P:=by obtain⟨p,ρ',h1,h2⟩:=h;exact⟨p,by unfold qR;rw[h1],h2⟩
theorem Qd{f:FE}{d:Dat}(h:We f ρ fun v ρ1=>v=.val d/\Q (.s d) ρ1):Wp' (pO f) ρ Q:=by obtain⟨v,ρ1,h1,rfl,h2⟩:=h;exact⟨_,_,by unfold pO;rw[h1],h2⟩
theorem QA{f:FE}(h:We f ρ fun v ρ1=>v=.new (.lst ds)/\Q (.l (ds.map .s)) ρ1):Wp' (pO f) ρ Q:=by obtain⟨v,ρ1,h1,rfl,h2⟩:=h;exact⟨_,_,by unfold pO;rw[h1],h2⟩
theorem Wpa.nil{Q:List Dp->Env->Prop}(q:Q [] ρ):Wpa [] ρ Q:=⟨_,_,rfl,q⟩
theorem Wpa.cons{Q:List Dp->Env->Prop}(h:Wp' f ρ fun p ρ1=>Wpa fs ρ1 fun ps ρ2=>Q (p::ps) ρ2):Wpa (f::fs) ρ Q:=by obtain⟨x,ρ1,h1,xs,ρ2,h2,q⟩:=h;exact⟨_,_,by unfold pAs;rw[h1];dsimp only;rw[h2],q⟩
theorem QH(h:Wpa fs ρ fun ps ρ1=>ps.length<=SZ/\Q (.t ps) ρ1):Wp' (pT fs) ρ Q:=by obtain⟨x,ρ1,h1,h2,q⟩:=h;exact⟨_,_,by unfold pT;rw[h1];dsimp only;rw[if_pos h2],q⟩
end
end
section
variable{ρ:Env}{P:Dp->Prop}{Q:Dp->Env->Prop}
theorem QF{f:FE}{i:Nat}{ds:List Dat}(h:We f ρ fun v ρ1=>v=.slot i/\ρ1[i]?=some (.ow (.lst ds))/\Q (.l (ds.map .s)) (ρ1.set i .un)):Wp' (pO f) ρ Q:=by obtain⟨v,ρ1,h1,rfl,h2,h3⟩:=h;exact⟨_,_,by unfold pO;rw[h1];dsimp only;rw[h2],h3⟩
theorem P1{f:List Dat->Option Dp}{as:List FE}(h:Was as ρ fun xs ρ1=>∃ds p ρ2,f ds=some p/\Q p ρ2/\tks ρ1 xs=some (ds,ρ2)):Wp' (iD f as) ρ Q:=by obtain⟨xs,ρ1,h1,ds,p,ρ2,h2,q,h3⟩:=h;exact⟨_,_,by unfold iD;rw[h1];dsimp only;rw[h3];dsimp only;rw[h2],q⟩
end
theorem QS{t:FT}{f g:FP}{ρ:Env}{Q:Dp->Env->Prop}(h:Wt t ρ fun c ρ1=>Wif c (Wp' f ρ1 Q) (Wp' g ρ1 Q)):Wp' (pIf t f g) ρ Q:=by
 obtain⟨c,ρ1,h1,h2,h3⟩:=h;cases c with
 |true=>obtain⟨p,ρ2,h4,h5⟩:=h2 rfl;exact⟨p,ρ2,by unfold pIf;rw[h1];exact h4,h5⟩
 |false=>obtain⟨p,ρ2,h4,h5⟩:=h3 rfl;exact⟨p,ρ2,by unfold pIf;rw[h1];exact h4,h5⟩
end Dm
namespace P
open Dm
noncomputable def Aw:List Dat->Option RV:=fn 1 0
  (sR (l8 (e1 (mh isI) (eV 0)) (Cq (e1 (mh isB) (eV 0)))))
noncomputable def dW:List Dat->Option RV:=fn 3 0
  (sR (l8 (eF Aw [(eV 0)]) (gE gLe gLe (eV 1) (eV 0) (eV 2))))
noncomputable def qV:List Dat->Option RV:=fn 1 0
  (sR (eF dW [(eV 0),(eC (.int 1)),(eC (.int 10))]))
noncomputable def qW:List Dat->Option RV:=fn 2 0
  (sR (eF dW [(eV 1),(eC (.int 0)),(e2 fU (eV 0) (eC (.int 1)))]))
noncomputable def jZ:List Dat->Option RV:=fn 1 0
  (sR (eF dW [(eV 0),(eC (.int 1)),(eC (.int 6))]))
noncomputable def vj:List Dat->Option RV:=fn 1 0
  (sR (eF dW [(eV 0),(eC (.int 0)),(e2 jK (eC (.int 10)) (eC (.int 30)))]))
noncomputable def qX:List Dat->Option RV:=fn 2 0
  (aG (sIf (tOr (dh (tV (e1 (mh isT) (eV 1)))) (tV (e2 gNe (eB eT [(eV 1)]) (eC (.int 3))))) (sR (eC (.bl false))) sNx)
  (sR (l8 (eF vj [(e2 gIx (eV 1) (eC (.int 0)))]) (l8 (eF qW [(eV 0),(e2 gIx (eV 1) (eC (.int 1)))]) (eF qW [(eV 0),(e2 gIx (eV 1) (eC (.int 2)))])))))
noncomputable def qY:List Dat->Option RV:=fn 2 0
  (sR (l8 (eF qX [(eV 0),(eV 1)]) (e2 gLe (e2 gIx (eV 1) (eC (.int 1))) (e2 gIx (eV 1) (eC (.int 2))))))
noncomputable def yk:List Dat->Option RV:=fn 1 0
  (sR (eB uX [(bX (iR2 (eC (.int 1)) (eB eT [(eV 0)])) 1 (bN 1) gD (e2 gLt (e2 gIx (eV 0) (e2 fU (eV 1) (eC (.int 1)))) (e2 gIx (eV 0) (eV 1))))]))
noncomputable def Dl:List Dat->Option RV:=fn 1 0
  (sIf (dh (tV (eF jZ [(eV 0)]))) (fun _=>none) sNx)
noncomputable def b5:List Dat->Bool:=fnX 1 0
  (rIf (dh (tV (eF jZ [(eV 0)]))) CY rNo)
noncomputable def wL:List Dat->Option RV:=fn 3 0
  (sR (dm 0 1 (bN 3) gD (eIf (tV (e2 gEq (eV 3) (e2 gIx (eV 0) (eV 2)))) (e2 gIx (eV 0) (eV 1)) (eV 3))))
noncomputable def Ax:FS:=
  (sIf (tV (e2 gNe (e2 gIx (eV 4) (eV 1)) (e2 gIx (eV 4) (eV 2)))) (sR (e2 cX (eV 3) (eC (.int 1)))) sNx)
noncomputable def sX:List Dat->Option RV:=fn 3 2
  (aG (fW (iEn (eV 0)) (bT [3,4])
  Ax)
  (sR (eC (.int 0))))
noncomputable def Ay:FS:=
  (aG (sA 8 (eF sX [(eV 3),(eV 6),(eV 7)]))
  (aG (sIf (tV (e2 gGt (eV 8) (eC (.int 0)))) (l9 3 (e2 fU (eV 8) (eC (.int 1))) (eF wL [(e2 gIx (eV 3) (e2 fU (eV 8) (eC (.int 1)))),(eV 6),(eV 7)])) sNx)
  (sd 4 (eV 8))))
noncomputable def mV:List Dat->Option RV:=fn 3 6
  (aG (sE (eF Dl [(eV 2)]))
  (aG (sA 3 (bX (iR1 (eV 2)) 1 (bN 9) gD (eB mG [(eV 0)])))
  (aG (sA 4 (bf []))
  (aG (fW (xX (eV 1)) (bT [5,6,7])
  Ay)
  (sR (e1 mF (eV 4)))))))
noncomputable def d9:List Dat->Bool:=fnX 3 6
  (cu b5 [(eV 2)])
noncomputable def fP:List Dat->Option RV:=fn 2 0
  (aG (sIf (tOr (dh (tV (eF qV [(eV 0)]))) (tOr (dh (tV (e1 (mh isL) (eV 1)))) (tV (e2 gGt (eB eT [(eV 1)]) (eC (.int 60)))))) (sR (eC (.bl false))) sNx)
  (aG (sIf (dh (tV (eB uX [(dm 1 1 (bN 2) gD (eF qY [(eV 0),(eV 2)]))]))) (sR (eC (.bl false))) sNx)
  (sR (eF yk [(dm 1 1 (bN 2) gD (e2 gIx (eV 2) (eC (.int 0))))]))))
noncomputable def EB:List Dat->Option RV:=fn 2 0
  (sR (dm 0 1 (bN 2) (tV (e2 gGe (e2 gIx (eV 2) (eC (.int 0))) (eV 1))) (eV 2)))
noncomputable def gP:List Dat->Option Dp:=fnP 2 0
  (qR (pO (dm 0 1 (bN 2) (tV (e2 gGe (e2 gIx (eV 2) (eC (.int 0))) (eV 1))) (eV 2))))
noncomputable def bL:List Dat->Option RV:=fn 1 0
  (aG (sIf (tOr (dh (tV (e1 (mh isT) (eV 0)))) (tV (e2 gNe (eB eT [(eV 0)]) (eC (.int 3))))) (sR (eC (.bl false))) sNx)
  (aG (sIf (tOr (dh (tV (eF jZ [(e2 gIx (eV 0) (eC (.int 1)))]))) (dh (tV (eF fP [(e2 gIx (eV 0) (eC (.int 0))),(e2 gIx (eV 0) (eC (.int 2)))])))) (sR (eC (.bl false))) sNx)
  (sR (e2 kC (eC (.int 0)) (eF mV [(e2 gIx (eV 0) (eC (.int 0))),(e2 gIx (eV 0) (eC (.int 2))),(e2 gIx (eV 0) (eC (.int 1)))])))))
noncomputable def iE:List Dat->Option RV:=fn 1 0
  (sIf (dh (tV (eF bL [(eV 0)]))) (fun _=>none) sNx)
noncomputable def aZ:List Dat->Bool:=fnX 1 0
  (rIf (dh (tV (eF bL [(eV 0)]))) CY rNo)
noncomputable def j0:List Dat->Option RV:=fn 2 0
  (aG (sE (eF iE [(eV 0)]))
  (sIf (dh (tV (eF dW [(eV 1),(eC (.int 1)),(e2 gIx (eV 0) (eC (.int 1)))]))) (fun _=>none) sNx))
noncomputable def aU:List Dat->Bool:=fnX 2 0
  (cu aZ [(eV 0)])
noncomputable def aY:List Dat->Bool:=fnX 2 0
  (yg (sE (eF iE [(eV 0)])) (rIf (dh (tV (eF dW [(eV 1),(eC (.int 1)),(e2 gIx (eV 0) (eC (.int 1)))]))) CY rNo))
noncomputable def EC:List Dat->Option RV:=fn 3 1
  (aG (sA 3 (eF mV [(eV 0),(eV 1),(eV 2)]))
  (sR (bq [(eV 0),(eV 2),(bX (x8 (eV 1) (eV 3)) 2 (bT [4,5]) (tV (e2 gGt (eV 5) (eC (.int 0)))) (eV 4))])))
noncomputable def fQ:List Dat->Option Dp:=fnP 3 1
  (lE (sA 3 (eF mV [(eV 0),(eV 1),(eV 2)]))
  (qR (pT [(pO (eV 0)),(pO (eV 2)),(pO (bX (x8 (eV 1) (eV 3)) 2 (bT [4,5]) (tV (e2 gGt (eV 5) (eC (.int 0)))) (eV 4)))])))
noncomputable def eZ:List Dat->Bool:=fnX 3 1
  (cu d9 [(eV 0),(eV 1),(eV 2)])
noncomputable def wM:List Dat->Option RV:=fn 2 0
  (aG (sE (eF iE [(eV 0)]))
  (sR (bq [(e2 gIx (eV 0) (eC (.int 0))),(e2 gIx (eV 0) (eC (.int 1))),(eF EB [(e2 gIx (eV 0) (eC (.int 2))),(eV 1)])])))
noncomputable def cj:List Dat->Option Dp:=fnP 2 0
  (lE (sE (eF iE [(eV 0)]))
  (qR (pT [(pO (e2 gIx (eV 0) (eC (.int 0)))),(pO (e2 gIx (eV 0) (eC (.int 1)))),(iD gP [(e2 gIx (eV 0) (eC (.int 2))),(eV 1)])])))
noncomputable def bw:List Dat->Bool:=fnX 2 0
  (cu aZ [(eV 0)])
noncomputable def wN:List Dat->Option RV:=fn 2 0
  (aG (sE (eF j0 [(eV 0),(eV 1)]))
  (sR (eF EC [(e2 gIx (eV 0) (eC (.int 0))),(e2 gIx (eV 0) (eC (.int 2))),(eV 1)])))
noncomputable def bI:List Dat->Option Dp:=fnP 2 0
  (lE (sE (eF j0 [(eV 0),(eV 1)]))
  (qR (iD fQ [(e2 gIx (eV 0) (eC (.int 0))),(e2 gIx (eV 0) (eC (.int 2))),(eV 1)])))
noncomputable def bx:List Dat->Bool:=fnX 2 0
  (cu aU [(eV 0),(eV 1)])
noncomputable def bB:List Dat->Bool:=fnX 2 0
  (rOr (cu aY [(eV 0),(eV 1)]) (yg (sE (eF j0 [(eV 0),(eV 1)])) (cu eZ [(e2 gIx (eV 0) (eC (.int 0))),(e2 gIx (eV 0) (eC (.int 2))),(eV 1)])))
noncomputable def Az:FS:=
  (l9 2 (e2 iI (eV 3) (eB eT [(eV 2)])) (e2 cX (e2 iy (e2 gIx (eV 2) (e2 iI (eV 3) (eB eT [(eV 2)]))) (eC (.int 7))) (eV 4)))
noncomputable def sY:List Dat->Option RV:=fn 2 3
  (aG (sA 2 (e2 iy (bf [(eC (.int 0))]) (eB pD [(eV 1),(eB mj [(eC (.int 1)),(eB eT [(eV 0)])])])))
  (aG (fW (iEn (eV 0)) (bT [3,4])
  Az)
  (sR (eV 2))))
noncomputable def sZ:List Dat->Option RV:=fn 1 1
  (aG (sA 1 (eC (.int 0)))
  (aG (sIf (tV (e2 gGe (eB x9 [(eV 0)]) (e2 jK (eC (.int 10)) (eC (.int 18))))) (sA 1 (e2 cX (e2 fU (eB x9 [(eV 0)]) (e2 jK (eC (.int 10)) (eC (.int 18)))) (eC (.int 1)))) sNx)
  (sR (bf [(eV 1),(eC (.int 0)),(e2 iI (eV 0) (eC (.int 2147483647)))]))))
noncomputable def bV:List Dat->Option (RV×Dat):=fnM 2 2
  (aG (sIf (tV (e2 gGt (e2 gIx (eV 0) (eC (.int 0))) (eC (.int 0)))) (aG (sA 2 (e2 iI (e2 gIx (eV 0) (eC (.int 0))) (eV 1)))
  (aG (l9 0 (eC (.int 0)) (e2 se (e2 gIx (eV 0) (eC (.int 0))) (eV 1)))
  (sR (eV 2)))) sNx)
  (aG (l9 0 (eC (.int 1)) (e2 cX (e2 gIx (eV 0) (eC (.int 1))) (eC (.int 1))))
  (aG (sA 3 (e2 iI (e2 cX (e2 cX (e2 cX (e2 gIx (eV 0) (eC (.int 2))) (e2 iy (e2 iy (eC (.int 977)) (e2 gIx (eV 0) (eC (.int 1)))) (e2 gIx (eV 0) (eC (.int 1))))) (e2 iy (eC (.int 40693)) (e2 gIx (eV 0) (eC (.int 1))))) (eC (.int 1))) (eC (.int 2147483647))))
  (aG (sA 3 (e2 iI (e2 iy (e2 iI (e2 iy (eV 3) (eV 3)) (eC (.int 1000000007))) (eC (.int 48271))) (eC (.int 998244353))))
  (sR (e2 iI (e2 se (eV 3) (eC (.int 8))) (eV 1)))))))
noncomputable def AA:FS:=
  (sA 2 (e2 cX (e2 iy (eV 2) (eC (.int 1000003))) (eFm bV 0 [(eC (.int 1000003))])))
noncomputable def s_:List Dat->Option (RV×Dat):=fnM 2 2
  (aG (sIf (tOr (tV (e2 gGt (e2 gIx (eV 0) (eC (.int 0))) (eC (.int 0)))) (tV (e2 gLt (eV 1) (e2 jK (eC (.int 10)) (eC (.int 6)))))) (sR (eFm bV 0 [(eV 1)])) sNx)
  (aG (sA 2 (eC (.int 0)))
  (aG (fW (iR1 (eC (.int 5))) (bN 3)
  AA)
  (sR (e2 iI (eV 2) (eV 1))))))
noncomputable def tu:List Dat->Option (RV×Dat):=fnM 1 0
  (sR (e2 cX (eC (.int 1)) (eFm bV 0 [(e2 gIx (bf [(eC (.int 6)),(eC (.int 5)),(eC (.int 6)),(eC (.int 4)),(eC (.int 6)),(eC (.int 3)),(eC (.int 5)),(eC (.int 10))]) (eFm bV 0 [(eC (.int 8))]))])))
noncomputable def tw:List Dat->Option (RV×Dat):=fnM 1 0
  (sR (e2 cX (eC (.int 1)) (eFm bV 0 [(e2 gIx (bf [(eC (.int 3)),(eC (.int 4)),(eC (.int 2)),(eC (.int 6))]) (eFm bV 0 [(eC (.int 4))]))])))
noncomputable def tE:List Dat->Option (RV×Dat):=fnM 3 3
  (aG (sA 3 (eFm bV 0 [(eV 1)]))
  (aG (sA 4 (eFm bV 0 [(eV 1)]))
  (aG (sIf (lW (tV (e2 gNe (eV 2) (bf []))) (tV (e2 gEq (eFm bV 0 [(eC (.int 4))]) (eC (.int 0))))) (sU [5,3,4] (e2 gIx (eV 2) (eFm bV 0 [(eB eT [(eV 2)])]))) sNx)
  (sR (bq [(eB pD [(eV 3),(eV 4)]),(eB mj [(eV 3),(eV 4)])])))))
noncomputable def AB:FS:=
  (aG (sA 6 (eFm bV 0 [(eC (.int 5))]))
  (aG (sA 3 (e2 cX (e2 cX (eV 3) (eC (.int 1))) (e2 se (eV 6) (eC (.int 2)))))
  (aG (sIf (tV (e2 gEq (eV 6) (eC (.int 4)))) (sA 3 (e2 cX (eV 3) (eFm s_ 0 [(e2 jK (eC (.int 10)) (eC (.int 27)))]))) sNx)
  (aG (sU [7,8] (eFm tE 0 [(eV 1),(eV 4)]))
  (sd 4 (bq [(eV 3),(eV 7),(eV 8)]))))))
noncomputable def tF:List Dat->Option (RV×Dat):=fnM 3 6
  (aG (sA 3 (e2 fU (eFm bV 0 [(eC (.int 3))]) (eC (.int 1))))
  (aG (sA 4 (bf []))
  (aG (fW (iR1 (eFm bV 0 [(e2 cX (eV 2) (eC (.int 1)))])) (bN 5)
  AB)
  (sR (eV 4)))))
noncomputable def tG:List Dat->Option (RV×Dat):=fnM 1 0
  (sR (e2 gIx (bf [(eC (.int 4)),(eC (.int 8)),(eC (.int 12)),(eC (.int 6)),(eC (.int 10)),(eC (.int 12)),(eC (.int 16)),(eC (.int 40))]) (eFm bV 0 [(eC (.int 8))])))
noncomputable def vm:FS:=
  (aG (sA 10 (e2 gIx (e2 gIx (eV 3) (eV 9)) (eV 7)))
  (aG (sA 11 (e2 gIx (e2 gIx (eV 3) (eV 9)) (eV 8)))
  (sIf (lW (tV (e2 gEq (e2 gIx (eV 4) (eV 5)) (eC (.int 0)))) (tV (e2 gNe (eV 10) (eV 11)))) (aG (l9 4 (eV 5) (e2 cX (eV 9) (eC (.int 1))))
  (l9 3 (eV 9) (bX (iS (e2 gIx (eV 3) (eV 9))) 1 (bN 12) gD (e2 gIx (bf [(eV 12),(eV 11)]) (eB zd [(e2 gEq (eV 12) (eV 10))]))))) sNx)))
noncomputable def AD:FS:=
  (aG (sU [6,7,8] (e2 gIx (eV 1) (eV 5)))
  (fW (iR1 (eV 2)) (bN 9)
  vm))
noncomputable def tH:List Dat->Option RV:=fn 3 9
  (aG (sA 3 (bX (iR1 (eV 2)) 1 (bN 12) gD (eB mG [(eV 0)])))
  (aG (sA 4 (e2 iy (bf [(eC (.int 0))]) (eB eT [(eV 1)])))
  (aG (fW (iRd (e2 fU (eB eT [(eV 1)]) (eC (.int 1))) (e1 qw (eC (.int 1))) (e1 qw (eC (.int 1)))) (bN 5)
  AD)
  (sR (eV 4)))))
noncomputable def pU:List Dat->Option RV:=fn 3 1
  (aG (sA 3 (eF tH [(eV 0),(eV 1),(eV 2)]))
  (sR (bq [(eV 0),(eV 2),(bX (x8 (eV 1) (eV 3)) 2 (bT [4,5]) (tV (e2 gGt (eV 5) (eC (.int 0)))) (eV 4))])))
noncomputable def tL:List Dat->Option (RV×Dat):=fnM 1 2
  (aG (sA 1 (eFm tu 0 []))
  (aG (sA 2 (eFm tw 0 []))
  (sR (eF pU [(eV 1),(eFm tF 0 [(eV 1),(eFm tG 0 [])]),(eV 2)]))))
noncomputable def AE:FS:=
  (sd 5 (bq [(eV 2),(eV 3),(bf [(eV 6)])]))
noncomputable def tM:List Dat->Option (RV×Dat):=fnM 2 5
  (aG (sU [2,3,4] (eV 1))
  (aG (sA 5 (bf [(eC .non),(eC (.int 5)),(eC (.str [51,32,50,32,110,111,110,101])),(bf [(eV 2),(eV 3),(eV 4)]),(bq [(eV 2),(eV 3)]),(bq [(eV 2),(eV 3),(eV 4),(eC (.int 0))]),(bq [(eC (.int 0)),(eV 3),(bf [])]),(bq [(eC (.int 11)),(eV 3),(bf [])]),(bq [(eC (.bl true)),(eC (.int 1)),(bf [])])]))
  (aG (sA 5 (e2 cX (eV 5) (bf [(bq [(eV 2),(eC (.int 0)),(bf [])]),(bq [(eV 2),(eC (.int 7)),(bf [])]),(bq [(eV 2),(eC (.bl true)),(bf [])]),(bq [(eV 2),(eV 3),(eB qx [(eV 4)])]),(bq [(eV 2),(eV 3),(eC .non)]),(bq [(eV 2),(eV 3),(bf [(bq [(eC (.int 5)),(eC (.int 0)),(eV 2)])])])])))
  (aG (sA 5 (e2 cX (eV 5) (bf [(bq [(eV 2),(eV 3),(bf [(bq [(eC (.int 5)),(eC (.int 0)),(eC (.int 0))])])]),(bq [(eV 2),(eV 3),(bf [(bf [(eC (.int 5)),(eC (.int 0)),(eC (.int 0))])])]),(bq [(eV 2),(eV 3),(bf [(bq [(eC (.int 7)),(eC (.int 0)),(eC (.int 0))]),(bq [(eC (.int 5)),(eC (.int 0)),(eC (.int 0))])])]),(bq [(eC (.str [51])),(eC (.int 2)),(bf [])]),(bq [(eV 2),(eC (.str [50])),(bf [])])])))
  (aG (sA 5 (e2 cX (eV 5) (bf [(bq [(eV 2),(eV 3),eDn]),(bq [(eV 2),(eV 3),(bf [(bq [(eC (.int 5)),(e1 qw (eC (.int 1))),(eC (.int 0))])])]),(bq [(eV 2),(eV 3),(bf [(bq [(e1 qw (eC (.int 1))),(eC (.int 0)),(eC (.int 0))])])]),(bq [(eV 2),(eV 3),(bf [(bq [(e2 cX (e2 jK (eC (.int 10)) (eC (.int 30))) (eC (.int 1))),(eC (.int 0)),(eC (.int 0))])])]),eDn,(bq [])])))
  (aG (fW (iS (bf [(bq [(eC (.bl true)),(eC (.int 0)),(e2 fU (eV 2) (eC (.int 1)))]),(bq [(eC (.int 5)),(eC (.bl false)),(e2 fU (eV 2) (eC (.int 1)))]),(bq [(eC (.int 5)),(eC (.int 0)),(eC (.str [49]))]),(bq [(eC (.int 5)),(eC (.int 0)),(eC .non)]),(bq [(eC (.str [53])),(eC (.int 0)),(e2 fU (eV 2) (eC (.int 1)))]),(bq [(eC (.int 5)),(bq [(eC (.int 0))]),(e2 fU (eV 2) (eC (.int 1)))])])) (bN 6)
  AE)
  (sR (e2 gIx (eV 5) (eFm bV 0 [(eB eT [(eV 5)])])))))))))
noncomputable def tN:List Dat->Option (RV×Dat):=fnM 1 1
  (aG (sA 1 (bf [(eC (.int 0)),(eC (.int 7)),(e1 qw (eC (.int 1))),(eC .non),(eC (.bl true)),(eC (.bl false)),(eC (.str [51])),(eC (.str [])),(bf [(eC (.int 1))]),(bq [(eC (.int 2))]),eDn,(e2 jK (eC (.int 10)) (eC (.int 40))),(e1 qw (e2 jK (eC (.int 10)) (eC (.int 20))))]))
  (sR (e2 gIx (eV 1) (eFm bV 0 [(eB eT [(eV 1)])]))))
noncomputable def j3(aC aj:Nat):List Dat->Option RV:=fn 1 1
  (aG (sA 1 (bf [(e1 (d7 [aC,aj] [true,false]) (eV 0)),(e1 (d7 [aC,aj] [false,true]) (eV 0)),(e1 (d7 [aC,aj] [false,false]) (eV 0)),(e1 (d7 [aC,aj] [false,false]) (eV 0))]))
  (aG (sA 1 (e2 cX (eV 1) (bf [(e1 (d7 [aC,aj] [false,false]) (eV 0)),(e1 (d7 [aC,aj] [false,false]) (eV 0))])))
  (aG (sIf (tOr (tV (e1 (d7 [aC,aj] [false,false]) (eV 0))) (dh (tV (e1 (d7 [aC,aj] [true,true]) (eV 0))))) (sR (bf [])) sNx)
  (sR (bX (iR1 (eC (.int 6))) 1 (bN 2) (tV (e2 gIx (eV 1) (eV 2))) (eV 2))))))
noncomputable def pV(aC aj:Nat):List Dat->Option RV:=fn 3 2
  (aG (sA 3 (eC .non))
  (aG (sUn (sIf (tTr (eV 2)) (sA 3 (eF wN [(eV 0),(eV 1)])) (sA 3 (eF wM [(eV 0),(eV 1)]))) (sUn (gM (rIf (tTr (eV 2)) (cu bx [(eV 0),(eV 1)]) (cu bw [(eV 0),(eV 1)])) aC 4 (sA 3 (eF (fH (j3 aC aj)) [(eV 4)]))) (gM (rIf (tTr (eV 2)) (cu bB [(eV 0),(eV 1)]) rNo) aj 4 (sA 3 (eF (fH (j3 aC aj)) [(eV 4)])))))
  (sR (eV 3))))
noncomputable def aW(aC aj:Nat):List Dat->Option Dp:=fnP 3 2
  (lE (sA 3 (eC .non))
  (qUn (qR (pIf (tTr (eV 2)) (iD bI [(eV 0),(eV 1)]) (iD cj [(eV 0),(eV 1)])))
  (lE (sUn (gM (rIf (tTr (eV 2)) (cu bx [(eV 0),(eV 1)]) (cu bw [(eV 0),(eV 1)])) aC 4 (sA 3 (eF (fH (j3 aC aj)) [(eV 4)]))) (gM (rIf (tTr (eV 2)) (cu bB [(eV 0),(eV 1)]) rNo) aj 4 (sA 3 (eF (fH (j3 aC aj)) [(eV 4)])))) (qR (pO (eV 3))))))
noncomputable def AF(aC aj:Nat):FS:=
  (pR 6 (aW aC aj) [(eV 4),(eV 1),(eV 2)]
  (mIf 6 (tOr (tV (e2 gNe (eV 6) (eV 3))) (tV (e2 gNe (eV 4) (eV 0)))) (sR (eC (.bl false)))
  (iR 6 (tV (e1 (mh isT) (eV 6))) 2
  sNx)))
noncomputable def j4(aC aj:Nat):List Dat->Option RV:=fn 4 3
  (aG (sA 4 (bq [(e2 gIx (eV 0) (eC (.int 0))),(e2 gIx (eV 0) (eC (.int 1))),(eB wm [(e2 gIx (eV 0) (eC (.int 2)))])]))
  (aG (fW (iR1 (eC (.int 2))) (bN 5)
  (AF aC aj))
  (sR (e2 gEq (eV 4) (eV 0)))))
noncomputable def tO:List Dat->Option (RV×Dat):=fnM 2 2
  (aG (sA 2 (bf [(eC (.int 0)),(e2 jK (eC (.int 10)) (eC (.int 30))),(eFm bV 0 [(eC (.int 60))])]))
  (aG (sIf (tV (e2 gNe (eV 1) (bf []))) (aG (sA 3 (e2 gIx (e2 gIx (eV 1) (eFm bV 0 [(eB eT [(eV 1)])])) (eC (.int 0))))
  (sA 2 (e2 cX (eV 2) (bf [(eV 3),(e2 cX (eV 3) (eC (.int 1))),(eB mj [(eC (.int 0)),(e2 fU (eV 3) (eC (.int 1)))])])))) sNx)
  (sR (eV 2))))
noncomputable def AG(aC aj:Nat):FS:=
  (sIf (dh (tV (eF (j4 aC aj) [(eV 3),(eV 7),(eC (.bl false)),(bq [(eV 4),(eV 5),(dm 6 1 (bN 11) (tV (e2 gGe (e2 gIx (eV 11) (eC (.int 0))) (eV 7))) (eV 11))])]))) (sR (eC (.bl false))) sNx)
noncomputable def AH(aC aj:Nat):FS:=
  (sIf (dh (tV (eF (j4 aC aj) [(eV 3),(eV 8),(eC (.bl true)),(eF pU [(eV 4),(eV 6),(eV 8)])]))) (sR (eC (.bl false))) sNx)
noncomputable def AI(aC aj:Nat):FS:=
  (sIf (tOr (dh (tV (eF (j4 aC aj) [(eV 3),(eV 10),(eC (.bl true)),(bf [(eC (.int 1))])]))) (tV (e2 gNe (eF (pV aC aj) [(eV 9),(eV 10),(eC (.bl true))]) (bf [(eC (.int 0))])))) (sR (eC (.bl false))) sNx)
noncomputable def vn(aC aj:Nat):FS:=
  (aG (sA 2 (eF sZ [(eV 1)]))
  (aG (sA 3 (eFm tL 2 []))
  (aG (sU [4,5,6] (eV 3))
  (aG (fW (iS (eFm tO 2 [(eV 6)])) (bN 7)
  (AG aC aj))
  (aG (fW (iR2 (eC (.int 1)) (e2 cX (eV 5) (eC (.int 1)))) (bN 8)
  (AH aC aj))
  (aG (sA 9 (eFm tM 2 [(eV 3)]))
  (aG (fW (iS (bf [(eFm tN 2 []),(e2 cX (eV 5) (eC (.int 1)))])) (bN 10)
  (AI aC aj))
  (sIf (tOr (tV (e2 gNe (eF (pV aC aj) [(eV 9),(eC (.int 1)),(eC (.bl true))]) (bf [(eC (.int 0))]))) (tV (e2 gNe (eF (pV aC aj) [(eV 9),(eC (.int 3)),(eC (.bl false))]) (bf [(eC (.int 0))])))) (sR (eC (.bl false))) sNx))))))))
noncomputable def mW(aC aj:Nat):List Dat->Option RV:=fn 1 10
  (aG (fW (iS (eF sY [(eV 0),(eC (.int 5))])) (bN 1)
  (vn aC aj))
  (sR (eC (.bl true))))
end P
local macro_rules|`(tactic|trivial)=>`(tactic|first | (dsimp only[List.set];first | done | rfl) | rfl)
local macro_rules | `(tactic| array_get_dec)=>`(tactic| first | with_reducible refine Dm.OX ?_ | with_reducible refine Dm.OV ?_ | ((with_reducible apply Dm.M_);(focus rfl)) | ((with_reducible apply Dm.Pr);(focus rfl)) | with_reducible refine Dm.OW ?_ | (refine Dm.Pg ?_ (by trivial)) | (refine Dm.Po ?_ (by trivial)) | (refine Dm.WA.slot ?_ rfl (by trivial)) | with_reducible refine Dm.Pc ?_ (by decide) | with_reducible refine Dm.O_ ?_ | with_reducible refine Dm.O4 ?_ | with_reducible refine Dm.O7 ?_ | with_reducible refine Dm.Qw ?_ | with_reducible refine Dm.Pf ?_ | with_reducible refine Dm.QE ?_ | (refine Dm.OY ?_) | (refine Dm.bC.mk ?_) | with_reducible refine Dm.Pd ?_ | with_reducible refine Dm.O9 ?_ | with_reducible refine Dm.N_ ?_ | with_reducible refine Dm.m_ ?_ | with_reducible refine Dm.Pe ?_ | with_reducible refine Dm.O3 ?_ | with_reducible refine Dm.Qh ?_ | with_reducible refine Dm.Pz ?_ | with_reducible refine Dm.Ph ?_ | with_reducible refine Dm.QI ?_ | with_reducible refine Dm.Pw ?_ | with_reducible refine Dm.We.Or ?_ | with_reducible refine Dm.We.Not ?_ | with_reducible refine Dm.We.Sl ?_ | with_reducible refine Dm.We.SlT ?_ | with_reducible refine Dm.Wp.none ?_ | with_reducible refine Dm.Wp.some ?_ | (refine Dm.Wsl.A (m7:=Dat.int) ?_ rfl) | (refine Dm.Wsl.mk ?_ rfl) | (refine Dm.Pj ?_ rfl (by trivial) (by exact Nat.le_of_ble_eq_true rfl)) | (refine Dm.Pb ?_) | (refine Dm.PL ?_) | (refine Dm.Wk.slot ?_ rfl (by trivial)) | with_reducible refine Dm.We.Dn ?_ | with_reducible refine Dm.We.D1 ?_ | with_reducible refine Dm.Ws.L6 ?_ | (refine Dm.L7 ?_ rfl) | (refine Dm.GX rfl ?_) | (refine Dm.KZ ?_ rfl (by trivial) ?_) | (refine Dm.Qm ?_ rfl) | (refine Dm.qT ?_ rfl (by trivial) ?_) | with_reducible refine Dm.Qn ?_ | (refine Dm.LH ?_ rfl (by trivial)) | with_reducible refine Dm.O5 ?_ | (refine Dm.Qv ?_) | (refine Dm.Pn ?_) | (refine Dm.PO ?_ rfl) | with_reducible refine Dm.Pa ?_ | with_reducible refine Dm.Ws.bk ?_ | with_reducible refine Dm.Ws.ct ?_ | with_reducible refine Dm.Qu ?_ | with_reducible refine Dm.Px ?_ | with_reducible refine Dm.Qp ?_ | with_reducible refine Dm.Wi.L ?_ | with_reducible refine Dm.P4 ?_ | with_reducible refine Dm.Qs ?_ | (refine Dm.K0 ?_) | (refine Dm.K1 ?_) | (refine Dm.PY ?_ rfl rfl) | (refine Dm.PJ ?_ rfl rfl) | (refine Dm.Wg2.LX ?_ rfl rfl ?_) | (refine Dm.Wg2.LY ?_ rfl rfl ?_) | (refine Dm.Wg2.eqb ?_ rfl rfl) | (refine Dm.Wg2.neb ?_ rfl rfl) | (refine Dm.Wg2.LJ ?_ rfl rfl) | (refine Dm.Wg2.isb ?_ rfl rfl) | (refine Dm.Qi ?_ rfl rfl) | (refine Dm.Qy ?_ rfl rfl) | (refine Dm.PU ?_ rfl rfl) | (refine Dm.Qj ?_ rfl rfl) | (refine Dm.Pq ?_ rfl rfl) | (refine Dm.Wg2.L8 ?_ rfl rfl ?_) | (refine Dm.Wg2.LZ ?_ rfl rfl ?_) | (refine Dm.Wg2.L_ ?_ rfl rfl ?_) | (refine Dm.PB ?_ rfl rfl) | (refine Dm.Qc ?_ rfl rfl (by first | exact Or.inl (by decide) | exact Or.inr (by decide))) | (refine Dm.Qc ?_ rfl rfl ?_) | (refine Dm.Qq ?_ rfl rfl (by decide)) | (refine Dm.Qq ?_ rfl rfl ?_) | (refine Dm.Qf ?_ rfl rfl (by decide)) | (refine Dm.Qf ?_ rfl rfl ?_) | (refine Dm.Wg2.din ?_ rfl rfl) | (refine Dm.Wg2.Ma ?_ rfl rfl) | (refine Dm.Wg2.inP ?_ rfl rfl) | (refine Dm.Wg2.Mb ?_ rfl rfl) | (refine Dm.OZ ?_ rfl rfl rfl) | (refine Dm.PM (m7:=Dat.int) ?_ rfl) | (refine Dm.Ql ?_ rfl) | (refine Dm.PR ?_ rfl) | (refine Dm.Qo ?_ rfl) | (refine Dm.Qg ?_ rfl) | (refine Dm.WB.list ?_ rfl) | (refine Dm.QD ?_ rfl) | (refine Dm.WB.sum2 ?_ rfl ?_) | (refine Dm.Wg1.Mc (m7:=Dat.int) ?_ rfl) | (refine Dm.Pp ?_ rfl rfl))
namespace P
open Dm
section
variable{r:List Tie}{d:Dat}{ds:List Dat}{Q:Val->Env->Prop}{b:Nat}{ms:List Int}{ρ ρ1:Env}{o p:Option Dat}{R:Env->Option Env}{k:Nat}{xs:List Val}{gs:List (Int->Int)}{bad:List Dat->Bool}{K:RV->Prop}{i:Nat}{n:Nat}{N:Env->Prop}{f:Int->Int}{fs:List FE}{t:Tie}{m:Int}{j:Nat}{C ie:Nat}{x y:Int}{c:Bool}{it:FI}{h:FS}
structure Tie where
 m:Int
 a:Int
 b:Int
noncomputable def bD(t:Tie):Dat:=.tup [.int t.m,.int t.a,.int t.b]
noncomputable def aX(r:List Tie):Dat:=.lst (r.map bD)
theorem j5(x n:Int)(h:1<=n):0<=x % n/\x % n<n:=⟨Int.emod_nonneg x (by lia),Int.emod_lt_of_pos x (by lia)⟩
noncomputable def at'(ns:List Int)(i:Int):Int:=ns.getD i.toNat 0
theorem ig(ns:List Int)(i:Int)(h0:0<=i)(h1:i<ns.length):atI (ns.map Dat.int) i=some (.int (at' ns i)):=by
 unfold atI ixN at';rw[if_pos h0,if_pos (by simpa using h1)];have hi:i.toNat<ns.length:=by lia
 show (ns.map Dat.int)[i.toNat]?=_;rw[Mq,Me hi,MM,Me hi];rfl
theorem AJ(ns:List Int)(i:Int)(h0:0<=i)(h1:i<ns.length):gIx (.lst (ns.map Dat.int)) (.int i)=some (.val (.int (at' ns i))):=by show (atI (ns.map Dat.int) i).map RV.val=_;rw[ig ns i h0 h1];rfl
def Good(n:Int):Int->List Tie->Prop
 |_,[]=>True
 |lo,t::r=>lo<=t.m/\0<=t.a/\t.a<=t.b/\t.b<n/\Good n (t.m+1) r
noncomputable def mgf(f:Int->Int)(a b:Int):Int->Int:=fun x=>if f x=f b then f a else f x
inductive Con(ts:List Tie):Int->Int->Prop
 |refl (x:Int):Con ts x x
 |tie (t:Tie):t∈ts->Con ts t.a t.b
 |symm {x y:Int}:Con ts x y->Con ts y x
 |trans {x y z:Int}:Con ts x y->Con ts y z->Con ts x z
theorem Con.mono{ts us:List Tie}(h:∀t∈ts,t∈us)(c:Con ts x y):Con us x y:=by
 induction c with
 |refl x=>exact .refl x
 |tie t m=>exact .tie t (h t m)
 |symm _ ih=>exact .symm ih
 |trans _ _ i1 i2=>exact .trans i1 i2
def Tells(f:Int->Int)(ts:List Tie):Prop:=∀x y,f x=f y↔Con ts x y
theorem Con.nil(c:Con [] x y):x=y:=by
 induction c with
 |refl x=>rfl
 |tie t m=>cases m
 |symm _ ih=>exact ih.symm
 |trans _ _ i1 i2=>exact i1.trans i2
theorem tells_nil:Tells (fun x=>x) []:=fun x y=>⟨fun h=>by cases h;exact .refl _,fun c=>c.nil⟩
theorem tells_mgf{ts:List Tie}(h:Tells f ts)(t:Tie)(a b:Int)(Q7:(a=t.a/\b=t.b)\/(a=t.b/\b=t.a)):Tells (mgf f a b) (t::ts):=by
 have up:∀{x y},f x=f y->Con (t::ts) x y:=fun e=>Con.mono (fun u m=>MB _ m) ((h _ _).mp e);have ab:Con (t::ts) a b:=by
  rcases Q7 with⟨rfl,rfl⟩ | ⟨rfl,rfl⟩
  ·exact .tie t MA
  ·exact .symm (.tie t MA)
 intro x y;unfold mgf;constructor
 ·intro e;by_cases hx:f x=f b
  ·rw[if_pos hx]at e;by_cases hy:f y=f b
   ·exact up (hx.trans hy.symm)
   ·rw[if_neg hy]at e;exact .trans (up hx) (.trans (.symm ab) (up e))
  ·rw[if_neg hx]at e;by_cases hy:f y=f b
   ·rw[if_pos hy]at e;exact .trans (up e) (.trans ab (.symm (up hy)))
   ·rw[if_neg hy]at e;exact up e
 ·intro c;have key:∀{x y:Int},Con (t::ts) x y->(if f x=f b then f a else f x)=(if f y=f b then f a else f y):=fun c=>by
   induction c with
   |refl x=>rfl
   |tie u m=>
    rcases Mv.mp m with rfl | m
    ·rcases Q7 with⟨rfl,rfl⟩ | ⟨rfl,rfl⟩
     ·rw[if_pos (rfl:f u.b=f u.b)];split
      ·rfl
      ·rfl
     ·rw[if_pos (rfl:f u.a=f u.a)];split
      ·rfl
      ·rfl
    ·have e:=(h u.a u.b).mpr (.tie u m);rw[e]
   |symm _ ih=>exact ih.symm
   |trans _ _ i1 i2=>exact i1.trans i2
  exact key c
noncomputable def lay(r:List Tie)(ms:List Int)(j:Int):List Tie:=((r.zip ms).filter fun p=>decide (p.2=j)).map (·.1)
theorem fR(t:Tie)(m:Int)(r:List Tie)(ms:List Int)(j:Int):lay (t::r) (m::ms) j=if m=j then t::lay r ms j else lay r ms j:=by unfold lay;rw[Of,List.filter_cons];by_cases h:m=j<;>simp[h]
def mX(k:Int)(r:List Tie)(ms:List Int)(t:Tie)(m:Int):Prop:=
 (m=0/\∀j,1<=j->j<=k->Con (lay r ms j) t.a t.b)\/(1<=m/\m<=k/\¬Con (lay r ms m) t.a t.b/\∀j,1<=j->j<m->Con (lay r ms j) t.a t.b)
def br(k:Int):List Tie->List Int->Prop
 |[],[]=>True
 |t::r,m::ms=>br k r ms/\mX k r ms t m
 |_,_=>False
theorem mX.uniq{k:Int}{m m':Int}(h:mX k r ms t m)(h':mX k r ms t m'):m=m':=by
 rcases h with⟨rfl,h⟩ | ⟨h1,h2,h3,h4⟩
 ·rcases h' with⟨rfl,_⟩ | ⟨g1,g2,g3,_⟩
  ·rfl
  ·exact absurd (h m' g1 g2) g3
 ·rcases h' with⟨rfl,h'⟩ | ⟨g1,g2,g3,g4⟩
  ·exact absurd (h' m h1 h2) h3
  ·rcases Int.lt_trichotomy m m' with q | q | q
   ·exact absurd (g4 m h1 q) h3
   ·exact q
   ·exact absurd (h4 m' g1 q) g3
theorem br.len{k:Int}:∀{r:List Tie} {ms:List Int},br k r ms->ms.length=r.length
 |[],[],_=>rfl
 |_::r,_::ms,h=>by simp[br.len h.1]
 |[],_::_,h=>h.elim
 |_::_,[],h=>h.elim
theorem br.uniq{k:Int}:∀{r:List Tie} {ms ms':List Int},br k r ms->br k r ms'->ms=ms'
 |[],[],[],_,_=>rfl
 |_::r,m::ms,m'::ms',h,h'=>by have e:=br.uniq h.1 h'.1;subst e;rw[h.2.uniq h'.2]
 |[],_::_,_,h,_=>h.elim
 |[],[],_::_,_,h=>h.elim
 |_::_,[],_,h,_=>h.elim
 |_::_,_::_,[],_,h=>h.elim
noncomputable def lab(n:Nat)(f:Int->Int):Dat:=.lst ((Ml n).map fun(i:Nat)=>Dat.int (f i))
theorem kJ(n:Nat)(f:Int->Int)(x:Int)(h0:0<=x)(h1:x<n):gIx (lab n f) (.int x)=some (.val (.int (f x))):=by
 unfold lab gIx atI ixN;have hx:x.toNat<n:=by lia
 have hc:((x.toNat:Nat):Int)=x:=by lia
 simp only[Mg,MD,h0,h1,if_true];simp[Np hx,hc]
theorem AK(n:Nat):Dat.lst (ups 0 n)=lab n fun x=>x:=by unfold ups lab;simp
theorem wO(n:Nat)(f:Int->Int):lab n f=.lst (((Ml n).map fun(i:Nat)=>f i).map Dat.int):=by unfold lab;rw[Ni];rfl
theorem yl(n:Nat)(hn:n<=10)(f:Int->Int)(a b:Int)(a0:0<=a)(a1:a<n)(b0:0<=b)(b1:b<n):wL [lab n f,.int a,.int b]=some (.new (lab n (mgf f a b))):=by
 apply O8;unfold wL
 (refine Dm.O6 ?_ rfl rfl;and_intros)
 refine O5 (Qa (fun i:Nat=>Dat.int (f i)) (Ml n) (fun i:Nat=>mgf f a b i) Dat.int (d:=lab n f) ?_ rfl rfl rfl (by decide) (by rw[MD];unfold SZ;lia) fun i _=>?_)
 ·rw[<- wO];rfl
 ·refine QI (O4 (OV (M_ rfl (OV (M_ rfl (M_ rfl (OZ ?_ rfl rfl (kJ n f b b0 b1))))))));refine PY (OY ⟨fun g=>?_,fun g=>?_⟩) rfl rfl
  ·refine OV (M_ rfl (M_ rfl (OZ (Pb ⟨?_,rfl⟩) rfl rfl (kJ n f a a0 a1))));unfold mgf;rw[if_pos (of_decide_eq_true g)]
  ·refine M_ rfl (Pb ⟨?_,rfl⟩);unfold mgf;rw[if_neg (of_decide_eq_false g)]
theorem mY{α:Type}(m7:α->Dat)(d:α):∀(k:Nat) (l:List α),jV k (l.map m7)=(Ml l.length).map fun i=>.tup [.int ((k+i:Nat):Int),m7 (l.getD i d)]
 |k,[]=>rfl
 |k,x::l=>by
  rw[MI,jV,mY m7 d (k+1) l,M3,List.range_succ_eq_map,MI,Ni]
  congr 1
  apply List.map_congr_left;intro i _;show _=Dat.tup [.int ((k+(i+1):Nat):Int),m7 ((x::l).getD (i+1) d)];rw[show k+1+i=k+(i+1) by lia];rfl
theorem mZ{n k:Nat}{p q:List Nat}(e:Ml n=p++k::q):k=p.length/\k<n:=by
 have h1:(Ml n)[p.length]?=some k:=by rw[e,Mp (Mj _),Ov];rfl
 have h2:p.length<n:=by
  have:(Ml n).length=p.length+(q.length+1):=by rw[e];simp
  rw[MD]at this;lia
 rw[Np h2]at h1;injection h1 with h1
 lia
def AL(gs:List (Int->Int))(a b:Int)(i:Nat)(num:Int):Prop:=
 (num=0/\∀(j:Nat) f,j<i->gs[j]?=some f->f a=f b)\/∃(j:Nat) (f:Int->Int),j<i/\gs[j]?=some f/\f a≠f b/\(∀(j':Nat) f',j'<j->gs[j']?=some f'->f' a=f' b)/\num=(j:Int)+1
theorem AM(n:Nat)(gs:List (Int->Int))(a b:Int)(a0:0<=a)(a1:a<n)(b0:0<=b)(b1:b<n):∃num:Int,sX [.lst (gs.map (lab n)),.int a,.int b]=some (.val (.int num))/\AL gs a b gs.length num:=by
 suffices hh:Wr (sX [.lst (gs.map (lab n)),.int a,.int b]) fun v=>∃num:Int,v=.val (.int num)/\AL gs a b gs.length num by obtain⟨v,h1,num,rfl,h2⟩:=hh;exact⟨num,h1,h2⟩
 unfold sX
 (refine Dm.O6 ?_ rfl rfl;and_intros)
 refine OX (Px (QJ (M_ rfl (Pb ⟨_,rfl,?_⟩))));rw[mY (lab n) fun x=>x];refine PC (fun i:Nat=>Dat.tup [.int ((0+i:Nat):Int),lab n (gs.getD i fun x=>x)]) _ _ (Ml gs.length) _ _ _ _ _ (fun p q ρ=>∃c3 c4:Cell,ρ=[.sh (.lst (gs.map (lab n))),.sh (.int a),.sh (.int b),c3,c4]/\∀(j:Nat) f,j<p.length->gs[j]?=some f->f a=f b) ⟨_,_,rfl,fun j f hj=>by simp at hj⟩ ?_ ?_
 ·rintro p i q ρ e ⟨c3,c4,rfl,low⟩;obtain⟨ip,il⟩:=mZ e;have hf:gs[i]?=some (gs.getD i fun x=>x):=by rw[MM,Me il];rfl
  generalize (gs.getD i fun x=>x)=f at hf
  refine Dm.cg rfl (by trivial) ?_;unfold Ax;refine O_ (O4 (OV (OV (M_ rfl (M_ rfl (OZ ?_ rfl rfl (kJ n f a a0 a1)))))));refine OV (M_ rfl (M_ rfl (OZ ?_ rfl rfl (kJ n f b b0 b1))));refine PJ (OY ?_) rfl rfl;by_cases h:f a=f b
  ·refine Pk (by simp[h]) (Pa ⟨_,_,rfl,fun j g hj hg=>?_⟩);rw[Mt,M1]at hj;by_cases q:j=i
   ·subst q;rw[hf]at hg;cases hg;exact h
   ·exact low j g (by lia) hg
  ·refine P_ (by simp[h]) (O5 (OV (M_ rfl (OW (Pq ?_ rfl rfl)))));exact⟨_,rfl,.inr ⟨i,f,il,hf,h,fun j g hj=>low j g (by lia),by lia⟩⟩
 ·rintro ρ ⟨c3,c4,rfl,low⟩;rw[MD]at low;exact O5 (OW ⟨0,rfl,.inl ⟨rfl,low⟩⟩)
def Ends(n:Int)(r:List Tie):Prop:=∀t∈r,0<=t.a/\t.a<n/\0<=t.b/\t.b<n
def m6(k:Nat)(gs:List (Int->Int))(r:List Tie)(ms:List Int):Prop:=gs.length=k/\∀(j:Nat) f,gs[j]?=some f->Tells f (lay r ms ((j:Int)+1))
theorem map_set(n:Nat)(gs:List (Int->Int))(i:Nat)(f:Int->Int):(gs.map (lab n)).set i (lab n f)=(gs.set i f).map (lab n):=by rw[List.map_set]
def pW(o:Bool)(gs gs':List (Int->Int))(a b:Int)(i:Nat)(num:Int):Prop:=
 (num=0/\gs'=gs/\∀(j:Nat) f,j<i->gs[j]?=some f->f a=f b)\/∃(j:Nat) (f:Int->Int),j<i/\gs[j]?=some f/\f a≠f b/\(∀(j':Nat) f',j'<j->gs[j']?=some f'->f' a=f' b)/\num=(j:Int)+1/\gs'=gs.set j (mgf f (if o then a else b) (if o then b else a))
theorem pW.num{o:Bool}{gs gs':List (Int->Int)}(h:m6 k gs r ms)(t:Tie){num:Int}(l:pW o gs gs' t.a t.b k num):mX k r ms t num/\m6 k gs' (t::r) (num::ms):=by
 obtain⟨hl,ht⟩:=h;rcases l with⟨rfl,rfl,h2⟩ | ⟨j,f,jk,h1,h3,h4,rfl,rfl⟩
 ·refine⟨.inl ⟨rfl,fun j j1 j2=>?_⟩,hl,fun i g hg=>?_⟩
  ·have hj:(j-1).toNat<gs'.length:=by lia
   have:=(ht (j-1).toNat _ (Me hj) t.a t.b).mp (h2 _ _ (by lia) (Me hj));rw[show (((j-1).toNat:Nat):Int)+1=j by lia]at this;exact this
  ·rw[fR,if_neg (by lia)];exact ht i g hg
 ·have hj:j<gs.length:=(Dk.mp h1).1;refine⟨.inr ⟨by lia,by lia,fun c=>h3 ((ht j f h1 t.a t.b).mpr c),fun i i1 i2=>?_⟩,by rw[Mx];exact hl,fun i g hg=>?_⟩
  ·have hi:(i-1).toNat<gs.length:=by lia
   have:=(ht (i-1).toNat _ (Me hi) t.a t.b).mp (h4 (i-1).toNat _ (by lia) (Me hi));rw[show (((i-1).toNat:Nat):Int)+1=i by lia]at this;exact this
  ·rw[fR];by_cases q:j=i
   ·subst q;rw[Mn hj]at hg;cases hg;rw[if_pos rfl];cases o
    ·exact tells_mgf (ht j f h1) t t.b t.a (.inr ⟨rfl,rfl⟩)
    ·exact tells_mgf (ht j f h1) t t.a t.b (.inl ⟨rfl,rfl⟩)
   ·rw[gp q]at hg;rw[if_neg (by lia)];exact ht i g hg
theorem wQ(n:Nat)(gs:List (Int->Int))(h:gs[i]?=some f):gIx (.lst (gs.map (lab n))) (.int (0+(i:Nat)))=some (.val (lab n f)):=by
 have hi:=(Dk.mp h).1;rw[ON];show (atI (gs.map (lab n)) i).map RV.val=_;rw[Dm.ig (lab n) gs (i:Nat) (by lia) (by lia)];have:gs[((i:Nat):Int).toNat]'(by lia)=f:=by
  have:=Dk.mp h
  simpa using this.2
 rw[this];rfl
theorem GZ(N:List Int)(h:N[i]?=some m):gIx (.lst (N.map Dat.int)) (.int (i:Nat))=some (.val (.int m)):=by have hi:=(Dk.mp h).1;rw[AJ N (i:Nat) (by lia) (by lia)];unfold at';rw[MM,MU,h];rfl
theorem G0(k:Nat):m6 k ((Ml k).map fun _=>(fun x:Int=>x)) [] []:=⟨by simp,fun j f hf=>by
 rw[Mq]at hf;cases h:(Ml k)[j]? with
 |none=>rw[h]at hf;cases hf
 |some x=>rw[h]at hf;cases hf;exact tells_nil⟩
theorem tP(i:Int):Aw [.int i]=some (.val (.bl true)):=by
 apply O8;unfold Aw
 (refine Dm.O6 ?_ rfl rfl;and_intros)
 refine O5 (Pw (Ph (M_ rfl (Pp (v:=.val (.bl true)) (OY (Pd ?_)) rfl rfl))));exact⟨_,_,rfl,rfl⟩
theorem dB(i lo hi:Int)(h1:lo<=i)(h2:i<=hi):dW [.int i,.int lo,.int hi]=some (.val (.bl true)):=by
 apply O8;unfold dW
 (refine Dm.O6 ?_ rfl rfl;and_intros)
 refine O5 (Pw (O3 (m_ (M_ rfl (N_ (O0 (tP i) (OY (Pd ?_)) rfl rfl))))));have e1:gLe (.int lo) (.int i)=some (.val (.bl true)):=by show vB (decide (lo<=i))=_;rw[decide_eq_true h1]
 have e2:gLe (.int i) (.int hi)=some (.val (.bl true)):=by show vB (decide (i<=hi))=_;rw[decide_eq_true h2]
 have e:gE gLe gLe (eV 1) (eV 0) (eV 2) [.sh (.int i),.sh (.int lo),.sh (.int hi)]=some (.val (.bl true),[.sh (.int i),.sh (.int lo),.sh (.int hi)]):=by unfold gE;simp only[eV,NP,Nc,pk,e1,e2,RV.bW]
 exact⟨_,_,e,rfl⟩
theorem ym(k:Int)(h1:1<=k)(h6:k<=6):Dl [.int k]=some (.val .non):=by
 have e:jZ [.int k]=some (.val (.bl true)):=by
  apply O8;unfold jZ
  (refine Dm.O6 ?_ rfl rfl;and_intros)
  exact O5 (O3 (m_ (M_ rfl (m_ (OW (m_ (OW (N_ (O0 (dB k 1 6 h1 h6) rfl rfl rfl)))))))))
 apply O8;unfold Dl
 (refine Dm.O6 ?_ rfl rfl;and_intros)
 exact O_ (O7 (O4 (O3 (m_ (M_ rfl (N_ (O0 e (OY (O9 (Pa rfl))) rfl rfl)))))))
theorem iV(n k:Nat)(hn:n<=10)(hk1:1<=k)(hk6:k<=6)(r:List Tie)(hr:Ends n r)(hl:r.length<=1000):∃ms:List Int,mV [.int n,aX r,.int k]=some (.new (.lst (ms.map Dat.int)))/\br k r ms:=by
 suffices hh:Wr (mV [.int (n:Nat),aX r,.int (k:Nat)]) fun v=>∃ms:List Int,v=.new (.lst (ms.map Dat.int))/\br k r ms by obtain⟨v,h1,ms,rfl,h2⟩:=hh;exact⟨ms,h1,h2⟩
 unfold mV
 (refine Dm.O6 ?_ rfl rfl;and_intros)
 refine OX (Qu (O3 (m_ (M_ rfl (N_ (O0 (ym k (by lia) (by lia)) ?_ rfl rfl))))));refine OX (Pc (P6 (fun i:Nat=>Dat.int (0+(i:Nat))) (Ml k) (fun _=>(fun x:Int=>x)) (lab n) (ρ1:=[.sh (.int (n:Nat)),.sh (aX r),.sh (.int (k:Nat)),.un,.un,.un,.un,.un,.un]) ?_ ?_ rfl (by decide) (by rw[MD];unfold SZ;lia) fun i _=>?_) (by decide))
 rotate_left
 ·apply P8;refine P4 (M_ rfl (bC.mk ⟨⟨?_,rfl⟩,by unfold BIG;lia,by unfold BIG;lia⟩));rw[MU];rfl
 ·refine Pe (m_ (M_ rfl (N_ (QK ?_ rfl (by lia)))));rw[MU,AK];exact PL ⟨rfl,rfl⟩
 refine Po ?_ (by trivial);refine OX (Pc (Pz (N_ (Pj ?_ rfl rfl (by decide)))) (by decide));refine Po ?_ (by trivial);refine OX (Px (QU (M_ rfl (Pb ⟨_,rfl,?_⟩))));rw[<- List.map_reverse];refine PC bD _ _ r.reverse _ _ _ _ _ (fun p q ρ=>∃(gs:List (Int->Int)) (ms:List Int) (c5 c6 c7 c8:Cell),ρ=[.sh (.int (n:Nat)),.sh (aX r),.sh (.int (k:Nat)),.ow (.lst (gs.map (lab n))),.ow (.lst (ms.reverse.map Dat.int)),c5,c6,c7,c8]/\m6 k gs p.reverse ms/\br k p.reverse ms) ⟨(Ml k).map fun _=>(fun x:Int=>x),[],.un,.un,.un,.un,rfl,G0 k,trivial⟩ ?_ ?_
 ·rintro p t q ρ e ⟨gs,ms,c5,c6,c7,c8,rfl,I,A⟩;have ht:t∈r:=List.mem_reverse.mp (by rw[e];simp);obtain⟨t0,t1,t2,t3⟩:=hr t ht;have lp:ms.length<=1000:=by
   have a:=A.len;have:r.reverse.length=p.length+(q.length+1):=by rw[e];simp
   rw[M6]at a this
   lia
  obtain⟨num,en,ln⟩:=AM n gs t.a t.b t0 t1 t2 t3;rw[I.1]at ln;refine Dm.cg rfl (by trivial) ?_;unfold Ay;refine OX (Pc (O3 (m_ (Pr rfl (m_ (M_ rfl (m_ (M_ rfl (N_ (O0 en (Pg ?_ (by trivial)) rfl rfl))))))))) (by decide));refine P7 (fun ρ=>∃gs',ρ=[.sh (.int (n:Nat)),.sh (aX r),.sh (.int (k:Nat)),.ow (.lst (gs'.map (lab n))),.ow (.lst (ms.reverse.map Dat.int)),.sh (.int t.m),.sh (.int t.a),.sh (.int t.b),.sh (.int num)]/\pW true gs gs' t.a t.b k num) ?_ ?_
  ·refine O_ (O4 (OV (M_ rfl (OW (PU (OY ?_) rfl rfl)))));rcases ln with⟨rfl,low⟩ | ⟨j,f,jk,hf,ne,low,rfl⟩
   ·exact Pk rfl (Pa ⟨gs,rfl,.inl ⟨rfl,rfl,low⟩⟩)
   ·have gi:gIx (.lst (gs.map (lab n))) (.int ((j:Int)+1-1))=some (.val (lab n f)):=by
     have:=wQ n gs hf;rw[show (j:Int)+1-1=0+(j:Nat) by lia];exact this
    refine P_ (decide_eq_true (by lia)) ?_;refine PX (O3 (m_ (OV (Pr rfl (OV (M_ rfl (OW (PB (OZ ?_ rfl rfl gi) rfl rfl))))))));refine m_ (M_ rfl (m_ (M_ rfl (N_ (Py (yl n hn f t.a t.b t0 t1 t2 t3) ?_ rfl rfl rfl (by trivial))))));refine PL ⟨⟨_,rfl⟩,OV (M_ rfl (OW (PB (bC.mk ⟨gs.map (lab n),j,_,rfl,?_,rfl,?_⟩) rfl rfl)))⟩
    ·have hj:j<gs.length:=(Dk.mp hf).1;rw[Mg];unfold ixN;rw[if_pos (by lia),if_pos (by lia)]
     congr 1
     lia
    ·exact⟨gs.set j (mgf f t.a t.b),by rw[<- map_set];rfl,.inr ⟨j,f,jk,hf,ne,low,rfl,rfl⟩⟩
  ·rintro ρ ⟨gs',rfl,L⟩;obtain⟨h1,h2⟩:=L.num I t;refine Qm (M_ rfl (Pb (qT ?_ rfl (by trivial) (by rw[Mg,M6];unfold SZ;lia)))) rfl;refine⟨gs',num::ms,.sh (.int t.m),.sh (.int t.a),.sh (.int t.b),.sh (.int num),by rw[Oq,OC];rfl,?_⟩;rw[List.reverse_append];exact⟨h2,A,h1⟩
 ·rintro ρ ⟨gs,ms,c5,c6,c7,c8,rfl,I,A⟩;rw[List.reverse_reverse]at A;refine O5 (Ph (Pr rfl (Pp (v:=.new (.lst (ms.map Dat.int))) ?_ rfl ?_)))
  ·exact⟨ms,rfl,A⟩
  ·unfold mF;dsimp only;rw[<- List.map_reverse,List.reverse_reverse]
theorem Good.lo{n:Int}:∀{r:List Tie} {lo:Int},Good n lo r->∀t∈r,lo<=t.m
 |[],_,_,t,h=>by cases h
 |x::r,lo,g,t,h=>by
  rcases Mv.mp h with rfl | h
  ·exact g.1
  ·have:=Good.lo g.2.2.2.2 t h;have:=g.1;lia
theorem Good.mem{n:Int}:∀{r:List Tie} {lo:Int},Good n lo r->∀t∈r,0<=t.a/\t.a<=t.b/\t.b<n
 |[],_,_,t,h=>by cases h
 |x::r,lo,g,t,h=>by
  rcases Mv.mp h with rfl | h
  ·exact⟨g.2.1,g.2.2.1,g.2.2.2.1⟩
  ·exact Good.mem g.2.2.2.2 t h
theorem JJ{ns:List Int}{i:Int}(h0:0<=i)(h1:i<ns.length)(k:K (.val (.int (at' ns i))))(ho:o=some (.lst (ns.map Dat.int)))(hp:p=some (.int i)):Wg2 gIx o p K:=⟨_,_,_,ho,hp,AJ ns i h0 h1,k⟩
noncomputable def JK(r c s:Int):Dat:=.lst [.int r,.int c,.int s]
def aJ(b:Nat)(d:Dat):Prop:=∃r c s:Int,d=JK r c s/\0<=c/\c+b<=1000000
theorem tQ(h:m<=1000):m<qv:=Int.lt_of_le_of_lt h (by decide)
theorem aJ.down(n:Nat)(h:aJ (b+n) d):aJ b d:=by obtain⟨r,c,s,e,c0,c1⟩:=h;exact⟨r,c,s,e,c0,by lia⟩
theorem Dq(h:aJ (b+1) d)(m:Int)(h0:0<m)(h1:m<qv):∃v d',bV [d,.int m]=some (.val (.int v),d')/\(0<=v/\v<m)/\aJ b d':=by
 suffices hh:WrM (bV [d,.int m]) fun v d'=>∃i,v=.val (.int i)/\(0<=i/\i<m)/\aJ b d' by obtain⟨v,d',h1,i,rfl,h2⟩:=hh;exact⟨i,d',h1,h2⟩
 obtain⟨r,c,s,rfl,c0,c1⟩:=h;unfold bV;refine PF ?_ rfl rfl;and_intros;unfold JK
 repeat array_get_dec
 refine⟨fun g=>?_,fun g=>?_⟩
 ·repeat array_get_dec
  ·refine PX ?_
   repeat array_get_dec
   ·refine⟨_,0,_,rfl,rfl,rfl,?_⟩
    repeat array_get_dec
    exact⟨_,rfl,_,rfl,j5 r m (by lia),r / m,c,s,rfl,c0,by lia⟩
   ·exact⟨h0,h1⟩
  ·exact h0
 ·repeat array_get_dec
  refine PX ?_
  repeat array_get_dec
  refine⟨_,1,_,rfl,rfl,rfl,?_⟩
  repeat array_get_dec
  ·exact⟨_,rfl,_,rfl,j5 _ m (by lia),r,c+1,s,rfl,by lia,by lia⟩
  ·exact h0
  ·exact .inl (by have:=j5 (s+977*(c+1)*(c+1)+40693*(c+1)+1) 2147483647 (by decide);unfold B64;lia)
  ·exact .inr (by unfold B64;lia)
def Wtk(j:Nat)(m:Int)(ρ1:Env)(Q:Val->Env->Prop):Prop:=∃(b:Nat) (d:Dat),ρ1[j]?=some (.ow d)/\aJ (b+1) d/\0<m/\m<qv/\∀(v:Int) (d':Dat) (ρ3:Env),ρ1.set j (.ow d')=ρ3->0<=v->v<m->aJ b d'->Q (.val (.int v)) ρ3
theorem cZ{ρ1:Env}(hp:aJ (b+1) d)(k:∀(v:Int) (d':Dat) (ρ3:Env),ρ1.set j (.ow d')=ρ3->0<=v->v<m->aJ b d'->Q (.val (.int v)) ρ3)(h2:ρ1[j]?=some (.ow d))(h0:0<m)(h1:m<qv):Wtk j m ρ1 Q:=⟨_,_,h2,hp,h0,h1,k⟩
theorem Pu{a:FE}{ρ:Env}{d0:Dat}(h:We a ρ fun v ρ1=>bC v fun m=>Wtk j m ρ1 Q)(h0:ρ[j]?=some (.ow d0)):We (eFm bV j [a]) ρ Q:=by refine PK (m_ ?_) h0;obtain⟨v,ρ1,e1,m,rfl,b,d,hj,hp,m0,m1,k⟩:=h;obtain⟨i,d',et,⟨i0,i1⟩,hp'⟩:=Dq hp m m0 m1;exact⟨_,_,e1,N_ (PD et (k i d' _ rfl i0 i1 hp') hj rfl rfl)⟩
theorem QG{f:List Dat->Option (RV×Dat)}{ρ1 ρ2 ρ3:Env}{d d1 d':Dat}{v:RV}(h5:f (d::ds)=some (v,d'))(q:Q v.bW ρ3)(h2:ρ1[j]?=some (.ow d1))(h3:tks ρ1 xs=some (ds,ρ2))(h4:ρ2[j]?=some (.ow d))(hf:Dm.flat v.dat=true)(hp:mJ d'=true)(hn:ρ1.set j (.ow d')=ρ3):WFm f j ρ1 xs Q:=
 ⟨_,_,_,_,_,_,h2,h3,h4,h5,by rw[hf,hp,Bool.true_and,if_pos rfl,hn];exact q⟩
theorem aJ.plain(h:aJ b d):mJ d=true:=by obtain⟨r,c,s,rfl,_⟩:=h;rfl
theorem Dr(h:aJ (b+5) d)(m:Int)(h0:0<m)(h1:m<qv):∃v d',s_ [d,.int m]=some (.val (.int v),d')/\(0<=v/\v<m)/\aJ b d':=by
 suffices hh:WrM (s_ [d,.int m]) fun v d'=>∃i,v=.val (.int i)/\(0<=i/\i<m)/\aJ b d' by obtain⟨v,d',h1,i,rfl,h2⟩:=hh;exact⟨i,d',h1,h2⟩
 have one:∀{N:Env->Prop} {B C:Env->Prop},Ws (sR (eFm bV 0 [(eV 1)])) [.ow d,.sh (.int m),.un,.un] N (fun v ρ=>∃d',ρ[0]?=some (.ow d')/\∃i,v=.val (.int i)/\(0<=i/\i<m)/\aJ b d') B C:=fun {N B C}=>by refine O5 (Pu (M_ rfl (bC.mk (cZ h (fun v d' ρ3 e v0 v1 hp=>?_) rfl h0 h1))) rfl);subst e;exact⟨_,rfl,_,rfl,⟨v0,v1⟩,hp.down 4⟩
 unfold s_;refine PF ?_ rfl rfl;and_intros;have hp:=h;obtain⟨r,c,s,rfl,c0,c1⟩:=h;refine OX (O_ (Pf (O4 (OV (OV (Pr rfl (OW (OZ (v:=.int r) ?_ rfl rfl rfl))))))));refine OW (PU (OY ⟨fun g=>?_,fun g=>?_⟩) rfl rfl)
 ·exact Pd one
 ·refine O4 (OV (M_ rfl (OV (OW (OW (PN (z:=1000000) ?_ rfl rfl (by decide) (by decide)))))));refine Qi (OY ⟨fun g=>one,fun g=>Pa ?_⟩) rfl rfl;refine OX (Pc (OW (Pg ?_ (by trivial))) (by decide));refine OX (Px (P4 (OW (bC.mk ⟨?_,by decide,by decide⟩))));refine PC (fun i:Nat=>Dat.int (0+(i:Nat))) _ _ (Ml 5) _ _ _ _ _ (fun p q ρ=>∃(x:Int) (d:Dat) (c3:Cell),ρ=[.ow d,.sh (.int m),.sh (.int x),c3]/\aJ (b+q.length) d) ⟨_,_,_,rfl,hp⟩ ?_ ?_
  ·rintro p i q ρ e ⟨x,d,c3,rfl,hd⟩;refine Dm.cg rfl (by trivial) ?_;unfold AA;refine Pc (OV (OV (M_ rfl (OW (Qc ?_ rfl rfl (.inr (by decide))))))) (by decide);refine Pu (OW (bC.mk (cZ hd (fun v d' ρ3 e v0 v1 hp=>?_) rfl (by decide) (by decide)))) rfl;subst e;refine Pq (Pg ?_ (by trivial)) rfl rfl;exact⟨_,_,_,rfl,hp⟩
  ·rintro ρ ⟨x,d,c3,rfl,hd⟩;refine O5 (OV (M_ rfl (M_ rfl (Qf ?_ rfl rfl h0))));exact⟨_,rfl,_,rfl,j5 x m (by lia),hd⟩
theorem ix8(i:Int)(h0:0<=i)(h:i<8):∃v:Int,gIx (.lst [.int 6,.int 5,.int 6,.int 4,.int 6,.int 3,.int 5,.int 10]) (.int i)=some (.val (.int v))/\1<=v/\v<=10:=by
 have:i=0\/i=1\/i=2\/i=3\/i=4\/i=5\/i=6\/i=7:=by lia
 rcases this with rfl | rfl | rfl | rfl | rfl | rfl | rfl | rfl<;>exact⟨_,rfl,by decide,by decide⟩
theorem LK(i:Int)(h0:0<=i)(h:i<4):∃v:Int,gIx (.lst [.int 3,.int 4,.int 2,.int 6]) (.int i)=some (.val (.int v))/\1<=v/\v<=6:=by
 have:i=0\/i=1\/i=2\/i=3:=by lia
 rcases this with rfl | rfl | rfl | rfl<;>exact⟨_,rfl,by decide,by decide⟩
theorem yo(h:aJ (b+2) d):∃(n:Nat) (d':Dat),tu [d]=some (.val (.int (n:Nat)),d')/\(1<=n/\n<=10)/\aJ b d':=by
 suffices hh:WrM (tu [d]) fun v d'=>∃n:Nat,v=.val (.int (n:Nat))/\(1<=n/\n<=10)/\aJ b d' by obtain⟨v,d',h1,i,rfl,h2⟩:=hh;exact⟨i,d',h1,h2⟩
 unfold tu;refine PF ?_ rfl rfl;and_intros;refine O5 (OV (OW (Pu ?_ rfl)));refine OV (Pz (m_ (OW (m_ (OW (m_ (OW (m_ (OW (m_ (OW (m_ (OW (m_ (OW (m_ (OW (N_ (Pj ?_ rfl rfl (by exact Mh rfl))))))))))))))))))));refine Pu (OW (bC.mk (cZ h (fun v d' ρ3 e v0 v1 hp=>?_) rfl (by decide) (by decide)))) rfl;subst e;obtain⟨w,ew,w1,w2⟩:=ix8 v v0 v1;refine OZ (bC.mk (cZ hp (fun x d2 ρ3 e x0 x1 hp2=>?_) rfl (by lia) (tQ (by lia)))) rfl rfl ew;subst e;refine Pq ?_ rfl rfl;refine⟨_,rfl,(1+x).toNat,?_,by lia,hp2⟩;have:(((1+x).toNat:Nat):Int)=1+x:=by lia
 rw[this]
theorem AO(h:aJ (b+2) d):∃(n:Nat) (d':Dat),tw [d]=some (.val (.int (n:Nat)),d')/\(1<=n/\n<=6)/\aJ b d':=by
 suffices hh:WrM (tw [d]) fun v d'=>∃n:Nat,v=.val (.int (n:Nat))/\(1<=n/\n<=6)/\aJ b d' by obtain⟨v,d',h1,i,rfl,h2⟩:=hh;exact⟨i,d',h1,h2⟩
 unfold tw;refine PF ?_ rfl rfl;and_intros;refine O5 (OV (OW (Pu ?_ rfl)));refine OV (Pz (m_ (OW (m_ (OW (m_ (OW (m_ (OW (N_ (Pj ?_ rfl rfl (by exact Mh rfl))))))))))));refine Pu (OW (bC.mk (cZ h (fun v d' ρ3 e v0 v1 hp=>?_) rfl (by decide) (by decide)))) rfl;subst e;obtain⟨w,ew,w1,w2⟩:=LK v v0 v1;refine OZ (bC.mk (cZ hp (fun x d2 ρ3 e x0 x1 hp2=>?_) rfl (by lia) (tQ (by lia)))) rfl rfl ew;subst e;refine Pq ?_ rfl rfl;refine⟨_,rfl,(1+x).toNat,?_,by lia,hp2⟩;have:(((1+x).toNat:Nat):Int)=1+x:=by lia
 rw[this]
theorem wR(r:List Tie):gNe (aX r) (.lst [])=some (.val (.bl (!r.isEmpty))):=by
 cases r with
 |nil=>rfl
 |cons t r=>unfold gNe;have:okD 8 (aX (t::r))=true:=JG bD (t::r) fun t=>rfl;rw[this];rfl
theorem vo(r:List Tie)(h:r[i]?=some t):gIx (aX r) (.int (i:Nat))=some (.val (bD t)):=by
 have hi:=(Dk.mp h).1;show (atI (r.map bD) i).map RV.val=_;rw[Dm.ig bD r (i:Nat) (by lia) (by lia)];have:r[((i:Nat):Int).toNat]'(by lia)=t:=by
  have:=Dk.mp h
  simpa using this.2
 rw[this];rfl
theorem Dt(h:aJ (b+4) d)(n:Nat)(n1:1<=n)(n10:n<=10)(r:List Tie)(hr:Good n 0 r)(hl:r.length<=60) :
  ∃(x y:Int) (d':Dat),tE [d,.int (n:Nat),aX r]=some (.val (.tup [.int x,.int y]),d')/\(0<=x/\x<=y/\y<n)/\aJ b d':=by
 suffices hh:WrM (tE [d,.int (n:Nat),aX r]) fun v d'=>∃x y:Int,v=.val (.tup [.int x,.int y])/\(0<=x/\x<=y/\y<n)/\aJ b d' by obtain⟨v,d',h1,x,y,rfl,h2⟩:=hh;exact⟨x,y,d',h1,h2⟩
 unfold tE;refine PF ?_ rfl rfl;and_intros;refine OX (Pc (Pu (M_ rfl (bC.mk (cZ h (fun x d1 ρ3 e x0 x1 hp=>?_) rfl (by lia) (tQ (by lia))))) rfl) (by decide));subst e;refine Pg ?_ (by trivial);refine OX (Pc (Pu (M_ rfl (bC.mk (cZ hp (fun y d2 ρ3 e y0 y1 hp=>?_) rfl (by lia) (tQ (by lia))))) rfl) (by decide));subst e;refine Pg ?_ (by trivial);refine P7 (fun ρ=>∃(x y:Int) (d':Dat) (c5:Cell),(0<=x/\x<n/\0<=y/\y<n)/\aJ b d'/\ρ=[.ow d',.sh (.int (n:Nat)),.sh (aX r),.sh (.int x),.sh (.int y),c5]) ?_ ?_
 ·refine O_ (Qw (O4 (OV (M_ rfl (Pz (N_ (Pj ⟨_,_,_,rfl,rfl,wR r,OY ?_⟩ rfl rfl (by decide))))))));refine⟨fun g=>?_,fun g=>O9 (Pa ⟨x,y,d2,_,⟨x0,x1,y0,y1⟩,hp.down 2,rfl⟩)⟩;have l0:0<r.length:=by
   cases r with
   |nil=>cases g
   |cons t r=>simp
  refine O4 (OV (Pu (OW (bC.mk (cZ hp (fun z d3 ρ3 e z0 z1 hp=>?_) rfl (by decide) (by decide)))) rfl));subst e;refine OW (PY (OY ⟨fun g2=>?_,fun g2=>Pa ⟨x,y,d3,_,⟨x0,x1,y0,y1⟩,hp.down 1,rfl⟩⟩) rfl rfl);refine Qn (OV (M_ rfl (Pu (Pe (m_ (M_ rfl (N_ (PM (m7:=bD) (xs:=r) (bC.mk (cZ hp (fun i d4 ρ3 e i0 i1 hp=>?_) rfl (by lia) (tQ (by lia)))) rfl))))) rfl)));subst e;have hi:i.toNat<r.length:=by lia
  have ei:i=((i.toNat:Nat):Int):=by lia
  have g:=Good.mem hr _ (Nn hi);rw[ei];refine OZ ?_ rfl rfl (vo r (Me hi));refine Pb ⟨_,_,rfl,rfl,?_⟩;exact⟨_,_,d4,_,⟨g.1,by lia,by lia,g.2.2⟩,hp,rfl⟩
 ·rintro ρ ⟨x,y,d',c5,g,hp,rfl⟩;refine O5 (Qh (m_ (Pe (m_ (M_ rfl (m_ (M_ rfl (N_ (Qo ?_ rfl)))))))));refine m_ (Pe (m_ (M_ rfl (m_ (M_ rfl (N_ (Qg ?_ rfl)))))));refine N_ (Pj ?_ rfl rfl (by exact Mh rfl));refine⟨_,rfl,_,_,rfl,?_,hp⟩;by_cases q:y<x
  ·rw[if_pos q,if_neg (by lia)];lia
  ·rw[if_neg q];by_cases q2:y>x
   ·rw[if_pos q2];lia
   ·rw[if_neg q2];lia
noncomputable abbrev Z27:Int:=1000000000000000000000000000
noncomputable abbrev Z30:Int:=1000000000000000000000000000000
theorem Good.snoc{n:Int}:∀{r:List Tie} {lo:Int} {t:Tie},Good n lo r->(∀u∈r,u.m<t.m)->lo<=t.m->0<=t.a->t.a<=t.b->t.b<n->Good n lo (r++[t])
 |[],lo,t,_,_,h1,h2,h3,h4=>⟨h1,h2,h3,h4,trivial⟩
 |u::r,lo,t,g,hm,h1,h2,h3,h4=>⟨g.1,g.2.1,g.2.2.1,g.2.2.2.1,Good.snoc g.2.2.2.2 (fun v hv=>hm v (MB _ hv)) (by have:=hm u MA;lia) h2 h3 h4⟩
theorem AQ(h:aJ (b+402) d)(n:Nat)(n1:1<=n)(n10:n<=10)(most:Int)(m0:0<=most)(m40:most<=40) :
  ∃(r:List Tie) (d':Dat),tF [d,.int (n:Nat),.int most]=some (.new (aX r),d')/\(Good n 0 r/\r.length<=40/\∀t∈r,t.m<=50*Z27)/\aJ b d':=by
 suffices hh:WrM (tF [d,.int (n:Nat),.int most]) fun v d'=>∃r:List Tie,v=.new (aX r)/\(Good n 0 r/\r.length<=40/\∀t∈r,t.m<=50*Z27)/\aJ b d' by obtain⟨v,d',h1,r,rfl,h2⟩:=hh;exact⟨r,d',h1,h2⟩
 unfold tF;refine PF ?_ rfl rfl;and_intros;refine OX (Pc (OV (Pu (OW (bC.mk (cZ h (fun x d1 ρ3 e x0 x1 hp=>?_) rfl (by decide) (by decide)))) rfl)) (by decide));subst e;refine OW (PB ?_ rfl rfl);refine Pg ?_ (by trivial);refine OX (Pc (Pz (N_ (Pj ?_ rfl rfl (by decide)))) (by decide));refine Po ?_ (by trivial);refine OX (Px (P4 (Pu (OV (M_ rfl (OW (Pq (bC.mk (cZ hp (fun Q_ d2 ρ3 e k0 k1 hp=>?_) rfl (by lia) (tQ (by lia)))) rfl rfl)))) rfl)));subst e;refine bC.mk ⟨?_,by unfold BIG;lia,by unfold BIG;lia⟩;have hp':aJ (b+10*(Ml Q_.toNat).length) d2:=by
  rw[MD];refine aJ.down (400-10*Q_.toNat) ?_;have:b+10*Q_.toNat+(400-10*Q_.toNat)=b+400:=by lia
  rw[this];exact hp
 refine PC (fun i:Nat=>Dat.int (0+(i:Nat))) _ _ (Ml Q_.toNat) _ _ _ _ _ (fun p q ρ=>∃(m:Int) (r:List Tie) (d:Dat) (c5 c6 c7 c8:Cell),ρ=[.ow d,.sh (.int (n:Nat)),.sh (.int most),.sh (.int m),.ow (aX r),c5,c6,c7,c8]/\aJ (b+10*q.length) d/\r.length=p.length/\Good n 0 r/\(∀t∈r,t.m<=m)/\-1<=m/\m<=2+(p.length:Int)*(Z27+3)) ⟨_,[],_,_,_,_,_,rfl,hp',rfl,trivial,(fun t ht=>by cases ht),by lia,by simp;lia⟩ ?_ ?_
 ·rintro p i q ρ e ⟨m,r,d,c5,c6,c7,c8,rfl,hd,hl,hr,hm,m1,m2⟩;have lp:p.length<40:=by
   have:(Ml Q_.toNat).length=p.length+(q.length+1):=by rw[e];simp
   rw[MD]at this;lia
  have hd:aJ (b+10*q.length+10) d:=hd;refine Dm.cg rfl (by trivial) ?_;unfold AB;refine OX (Pc (Pu (OW (bC.mk (cZ hd (fun st d1 ρ3 e s0 s1 hd=>?_) rfl (by decide) (by decide)))) rfl) (by decide));subst e;refine Pg ?_ (by trivial);refine OX (Pc (OV (OV (M_ rfl (OW (Pq (OV (M_ rfl (OW (Qq ?_ rfl rfl (by decide))))) rfl rfl))))) (by decide));refine Pq ?_ rfl rfl;refine Pg ?_ (by trivial);refine P7 (fun ρ=>∃(m':Int) (d':Dat),ρ=[.ow d',.sh (.int (n:Nat)),.sh (.int most),.sh (.int m'),.ow (aX r),.sh (.int (0+(i:Nat))),.sh (.int st),c7,c8]/\aJ (b+10*q.length+4) d'/\m<m'/\m'<=m+Z27+3) ?_ ?_
  ·refine O_ (O4 (OV (M_ rfl (OW (PY (OY ⟨fun g=>?_,fun g=>Pa ⟨_,_,rfl,hd.down 5,by lia,by unfold Z27;lia⟩⟩) rfl rfl)))));obtain⟨v,d2,ew,⟨v0,v1⟩,hd2⟩:=Dr (b:=b+10*q.length+4) hd Z27 (by decide) (by decide);refine Pc (OV (M_ rfl (PK (m_ (OV (OW (OW (PN (z:=Z27) ?_ rfl rfl (by decide) (by decide)))))) rfl))) (by decide);refine N_ (PD ew ?_ rfl rfl (by trivial));refine Pq (Pg ?_ (by trivial)) rfl rfl;exact⟨_,_,rfl,hd2,by lia,by lia⟩
  ·rintro ρ ⟨m',d',rfl,hd,lt,le⟩;obtain⟨x,y,d3,ee,hxy,hd3⟩:=Dt (b:=b+10*q.length) hd n n1 n10 r hr (by lia);refine OX (Qn (PK (m_ (M_ rfl (m_ (Pr rfl (N_ (QG ee ?_ rfl rfl rfl rfl hd3.plain (by trivial))))))) rfl));refine Pb ⟨_,_,rfl,rfl,?_⟩;refine Qm (Qh (m_ (M_ rfl (m_ (M_ rfl (m_ (M_ rfl (N_ (Pj ?_ rfl rfl (by exact Mh rfl)))))))))) rfl;refine Pb (qT ?_ rfl (by trivial) (by rw[Mg];unfold SZ;lia));refine⟨m',r++[⟨m',x,y⟩],d3,.sh (.int (0+(i:Nat))),.sh (.int st),.sh (.int x),.sh (.int y),?_,?_,by simp[hl],Good.snoc hr (fun u hu=>?_) (by show 0<=m';lia) hxy.1 hxy.2.1 hxy.2.2,fun t ht=>?_,by lia,?_⟩
   ·unfold aX;rw[OC];rfl
   ·exact hd3
   ·have:=hm u hu;show u.m<m'
    lia
   ·rcases Nt.mp ht with ht | ht
    ·have:=hm t ht;lia
    ·rw[M9.mp ht];exact Int.le_refl _
   ·rw[Mt,M1,Int.natCast_add,Int.add_mul];simp
    lia
 ·rintro ρ ⟨m,r,d,c5,c6,c7,c8,rfl,hd,hl,hr,hm,m1,m2⟩;rw[MD]at hl m2;refine O5 (Pr rfl (PO ?_ rfl));refine⟨_,rfl,r,rfl,⟨hr,by lia,fun t ht=>?_⟩,hd⟩;have:=hm t ht;have h2:(Q_.toNat:Int)*(Z27+3)<=40*(Z27+3):=Int.mul_le_mul_of_nonneg_right (by lia) (by decide);unfold Z27 at *
  lia
theorem AR(n:Nat)(hn:n<=10)(k:Nat)(hk:k<=6)(rD:Dat)(gs:List (Int->Int))(hg:gs.length=k)(N:List Int)(at_:Nat)(ha:N[at_]?=some 0)(hN:N.length<=1000)(a b:Int)(a0:0<=a)(a1:a<n)(b0:0<=b)(b1:b<n)(c6 c9 c10 c11:Cell){Nx:Env->Prop}{R:RV->Env->Prop}{B C:Env->Prop}
  (nx:∀gs' num c9 c10 c11,pW false gs gs' a b k num->Nx [.sh (.int (n:Nat)),.sh rD,.sh (.int (k:Nat)),.ow (.lst (gs'.map (lab n))),.ow (.lst ((N.set at_ num).map Dat.int)),.sh (.int (at_:Nat)),c6,.sh (.int a),.sh (.int b),c9,c10,c11]) :
  Ws (fW (iR1 (eV 2)) (bN 9) vm) [.sh (.int (n:Nat)),.sh rD,.sh (.int (k:Nat)),.ow (.lst (gs.map (lab n))),.ow (.lst (N.map Dat.int)),.sh (.int (at_:Nat)),c6,.sh (.int a),.sh (.int b),c9,c10,c11] Nx R B C:=by
 have hat:=(Dk.mp ha).1;refine Px (P4 (M_ rfl (bC.mk ⟨?_,by unfold BIG;lia,by unfold BIG;lia⟩)));rw[MU];have n0:N.set at_ 0=N:=by
  apply List.ext_getElem?;intro j;by_cases e:at_=j
  ·subst e;rw[Mn hat,ha]
  ·rw[gp e]
 refine PC (fun i:Nat=>Dat.int (0+(i:Nat))) _ _ (Ml k) _ _ _ _ _ (fun p q ρ=>∃(gs':List (Int->Int)) (num:Int) (c9 c10 c11:Cell),ρ=[.sh (.int (n:Nat)),.sh rD,.sh (.int (k:Nat)),.ow (.lst (gs'.map (lab n))),.ow (.lst ((N.set at_ num).map Dat.int)),.sh (.int (at_:Nat)),c6,.sh (.int a),.sh (.int b),c9,c10,c11]/\pW false gs gs' a b p.length num) ⟨gs,0,_,_,_,by rw[n0],.inl ⟨rfl,rfl,fun j f hj=>by simp at hj⟩⟩ ?_ ?_
 ·rintro p i q ρ e ⟨gs',num,c9,c10,c11,rfl,L⟩;obtain⟨ip,ik⟩:=mZ e;have lg:gs'.length=k:=by
   rcases L with⟨_,rfl,_⟩ | ⟨_,_,_,_,_,_,_,rfl⟩
   ·exact hg
   ·rw[Mx];exact hg
  obtain⟨f,hf⟩:∃f,gs'[i]?=some f:=⟨_,Me (by lia)⟩
  have hnum:(N.set at_ num)[at_]?=some num:=Mn hat;refine Dm.cg rfl (by trivial) ?_;unfold vm;refine OX (Pc (OV (OV (Pr rfl (M_ rfl (OZ ?_ rfl rfl (wQ n gs' hf)))))) (by decide));refine M_ rfl (OZ (Pg ?_ (by trivial)) rfl rfl (kJ n f a a0 a1));refine OX (Pc (OV (OV (Pr rfl (M_ rfl (OZ ?_ rfl rfl (wQ n gs' hf)))))) (by decide));refine M_ rfl (OZ (Pg ?_ (by trivial)) rfl rfl (kJ n f b b0 b1));refine O_ (Qw (O4 (OV (OV (Pr rfl (M_ rfl (OZ ?_ rfl rfl (GZ _ hnum))))))));refine OW (PY (OY ?_) rfl rfl);have stay:num≠0\/f a=f b->pW false gs gs' a b (p++[i]).length num:=fun h=>by
   rw[Mt,M1];rcases L with⟨rfl,rfl,h2⟩ | ⟨j,g,jk,h1,h3,h4,h5,h6⟩
   ·have Q7:=h.resolve_left (by simp);refine .inl ⟨rfl,rfl,fun j g hj hg'=>?_⟩;by_cases e:j=i
    ·subst e;rw[hf]at hg';cases hg';exact Q7
    ·exact h2 j g (by lia) hg'
   ·exact .inr ⟨j,g,by lia,h1,h3,h4,h5,h6⟩
  by_cases z:num=0
  ·refine P_ (decide_eq_true z) ?_;refine O4 (OV (M_ rfl (M_ rfl (PJ (OY ?_) rfl rfl))));by_cases Q7:f a=f b
   ·exact Pk (by simp[Q7]) (Pa ⟨_,_,_,_,_,rfl,stay (.inr Q7)⟩)
   ·refine P_ (by simp[Q7]) ?_;subst z;have eg:gs'=gs/\∀(j:Nat) f,j<p.length->gs[j]?=some f->f a=f b:=by
     rcases L with⟨_,h1,h2⟩ | ⟨j,g,_,_,_,_,h5,_⟩
     ·exact⟨h1,h2⟩
     ·lia
    obtain⟨rfl,hlow⟩:=eg;refine OX (PX (OV (M_ rfl (OW (Pq ?_ rfl rfl)))));refine Pb ⟨⟨_,rfl⟩,M_ rfl (bC.mk ⟨(N.set at_ 0).map Dat.int,at_,_,rfl,?_,rfl,?_⟩)⟩
    ·rw[Mg,Mx];unfold ixN;rw[if_pos (by lia),if_pos (by lia)];rfl
    ·refine PX (P6 (fun i:Nat=>Dat.int (f i)) (Ml n) (fun i:Nat=>mgf f b a i) Dat.int (ρ1:=[.sh (.int (n:Nat)),.sh rD,.sh (.int (k:Nat)),.ow (.lst (gs'.map (lab n))),.ow (.lst (((N.set at_ 0).map Dat.int).set at_ (.int (0+(i:Nat)+1)))),.sh (.int (at_:Nat)),c6,.sh (.int a),.sh (.int b),.sh (.int (0+(i:Nat))),.sh (.int (f a)),.sh (.int (f b))]) ?_ ?_ rfl (by decide) (by rw[MD];unfold SZ;lia) fun x hx=>?_)
     ·refine PL ⟨⟨_,rfl⟩,M_ rfl (bC.mk ⟨gs'.map (lab n),i,_,rfl,?_,rfl,?_⟩)⟩
      ·rw[Mg];unfold ixN;rw[if_pos (by lia),if_pos (by lia)]
       congr 1
       lia
      ·refine⟨gs'.set i (mgf f b a),(i:Int)+1,.sh (.int (0+(i:Nat))),.sh (.int (f a)),.sh (.int (f b)),?_,?_⟩
       ·have e1:((N.set at_ 0).map Dat.int).set at_ (.int (0+(i:Nat)+1))=(N.set at_ ((i:Int)+1)).map Dat.int:=by
         rw[<- List.map_set,OO,ON]
        have e2:(gs'.map (lab n)).set i (.lst (((Ml n).map fun i:Nat=>mgf f b a i).map Dat.int))=(gs'.set i (mgf f b a)).map (lab n):=by rw[<- wO,map_set]
        rw[e1,<- e2];rfl
       ·rw[Mt,M1];exact .inr ⟨i,f,by lia,hf,Q7,fun j g hj=>hlow j g (by lia),rfl,rfl⟩
     ·apply P8;exact Qp (OV (Pr rfl (M_ rfl (OZ (Pb ⟨_,rfl,rfl,rfl⟩) rfl rfl (wQ n gs' hf)))))
     ·refine OV (Pz (m_ (M_ rfl (m_ (M_ rfl (N_ (Pj ?_ rfl rfl (by exact Mh rfl))))))));refine Pe (m_ (OV (M_ rfl (M_ rfl (PY ?_ rfl rfl)))));refine N_ (QD ?_ rfl);by_cases q:f x=f a
      ·rw[decide_eq_true q];refine OZ (v:=.int (f b)) (Pb ⟨?_,rfl⟩) rfl rfl rfl;unfold mgf;rw[if_pos q]
      ·rw[decide_eq_false q];refine OZ (v:=.int (f x)) (Pb ⟨?_,rfl⟩) rfl rfl rfl;unfold mgf;rw[if_neg q]
  ·exact Pk (decide_eq_false z) (O9 (Pa ⟨_,_,_,_,_,rfl,stay (.inl z)⟩))
 ·rintro ρ ⟨gs',num,c9,c10,c11,rfl,L⟩;rw[MD]at L;exact nx _ _ _ _ _ L
theorem QB{x:Int}(q:K (.new (.lst ((gV k x).map Dat.int))))(ho:o=some (.lst [.int x]))(hp:p=some (.int (k:Nat)))(h:k<=SZ):Wg2 iy o p K:=by
 refine⟨_,_,_,ho,hp,?_,q⟩;unfold iy;dsimp only;have e:(gV k [Dat.int x]).flatten=(gV k x).map Dat.int:=by
  clear ho hp h q
  induction k with
  |zero=>rfl
  |succ k ih=>rw[MT,Nb,ih,MT,MI];rfl
 rw[if_pos ⟨by unfold BIG;unfold SZ at h;lia,by unfold BIG;lia,by rw[MU];simpa using h⟩,MU,e]
theorem yp(hi:Int)(n:Nat):downs hi n=(Ml n).map fun i:Nat=>Dat.int (hi-(i:Nat)):=rfl
theorem Du(z:Nat)(ms:List Int)(num:Int):(gV (z+1) (0:Int)++ms).set z num=gV z 0++num::ms:=by rw[List.set_append_left _ _ (by simp),List.replicate_succ'];rw[NB _ _ (by simp)];simp
theorem qZ(n k:Nat)(hn:n<=10)(hk6:k<=6)(r:List Tie)(hr:Ends n r)(hl:r.length<=1000):∃ms:List Int,tH [.int (n:Nat),aX r,.int (k:Nat)]=some (.new (.lst (ms.map Dat.int)))/\br k r ms:=by
 suffices hh:Wr (tH [.int (n:Nat),aX r,.int (k:Nat)]) fun v=>∃ms:List Int,v=.new (.lst (ms.map Dat.int))/\br k r ms by obtain⟨v,h1,ms,rfl,h2⟩:=hh;exact⟨ms,h1,h2⟩
 unfold tH
 (refine Dm.O6 ?_ rfl rfl;and_intros)
 refine OX (Pc (P6 (fun i:Nat=>Dat.int (0+(i:Nat))) (Ml k) (fun _=>(fun x:Int=>x)) (lab n) (ρ1:=[.sh (.int (n:Nat)),.sh (aX r),.sh (.int (k:Nat)),.un,.un,.un,.un,.un,.un,.un,.un,.un]) ?_ ?_ rfl (by decide) (by rw[MD];unfold SZ;lia) fun i _=>?_) (by decide))
 rotate_left
 ·apply P8;refine P4 (M_ rfl (bC.mk ⟨⟨?_,rfl⟩,by unfold BIG;lia,by unfold BIG;lia⟩));rw[MU];rfl
 ·refine Pe (m_ (M_ rfl (N_ (QK ?_ rfl (by lia)))));rw[MU,AK];exact PL ⟨rfl,rfl⟩
 refine Po ?_ (by trivial);refine OX (Pc (OV (Pz (m_ (OW (N_ (Pj ?_ rfl rfl (by decide))))))) (by decide));refine Pe (m_ (M_ rfl (N_ (PM (m7:=bD) (xs:=r) ?_ rfl))));refine QB (x:=0) ?_ rfl rfl (by unfold SZ;lia);refine Po ?_ (by trivial);refine OX (Px (Q0 (OV (Pe (m_ (M_ rfl (N_ (PM (m7:=bD) (xs:=r) ?_ rfl))))))));refine OW (PB (bC.mk ?_) rfl rfl);refine Ph (OW (Pp (v:=.val (.int (-1))) ?_ rfl rfl));refine bC.mk (Ph (OW (Pp (v:=.val (.int (-1))) ?_ rfl rfl)));refine⟨rfl,?_,by unfold BIG;lia⟩;have el:(((r.length:Nat):Int)-1 - -1).toNat=r.length:=by lia
 rw[el,yp];refine PC (fun i:Nat=>Dat.int (((r.length:Nat):Int)-1-(i:Nat))) _ _ (Ml r.length) _ _ _ _ _ (fun p q ρ=>∃(gs:List (Int->Int)) (ms:List Int) (c5 c6 c7 c8 c9 c10 c11:Cell),ρ=[.sh (.int (n:Nat)),.sh (aX r),.sh (.int (k:Nat)),.ow (.lst (gs.map (lab n))),.ow (.lst ((gV (r.length-p.length) 0++ms).map Dat.int)),c5,c6,c7,c8,c9,c10,c11]/\m6 k gs (r.drop (r.length-p.length)) ms/\br k (r.drop (r.length-p.length)) ms) ⟨(Ml k).map fun _=>(fun x:Int=>x),[],.un,.un,.un,.un,.un,.un,.un,by rw[MN];rfl,by simpa using G0 k,by simp[br]⟩ ?_ ?_
 ·rintro p i q ρ e ⟨gs,ms,c5,c6,c7,c8,c9,c10,c11,rfl,I,A⟩;obtain⟨ip,il⟩:=mZ e;have ez:r.length-p.length=(r.length-1-i)+1:=by lia
  have ez2:r.length-(p++[i]).length=r.length-1-i:=by rw[Mt,M1];lia
  rw[ez2];rw[ez]at I A ⊢
  generalize hz:r.length-1-i=z at *
  have zl:z<r.length:=by lia
  have ea:((r.length:Nat):Int)-1-(i:Nat)=(z:Nat):=by lia
  have ed:r.drop z=r[z]::r.drop (z+1):=(List.getElem_cons_drop zl).symm;have hE:=hr _ (Nn zl);rw[ea];refine Dm.cg rfl (by trivial) ?_;unfold AD;refine OX (Qn (OV (M_ rfl (M_ rfl (OZ ?_ rfl rfl (vo r (Me zl)))))));refine Pb ⟨_,_,rfl,rfl,?_⟩;have hN:(gV (z+1) (0:Int)++ms).length<=1000:=by have:=A.len;rw[List.length_drop]at this;rw[Mt,M0];lia
  refine AR n hn k hk6 _ gs I.1 (gV (z+1) 0++ms) z (by rw[HT (by simp)];simp) hN _ _ hE.1 hE.2.1 hE.2.2.1 hE.2.2.2 _ _ _ _ fun gs' num c9 c10 c11 L=>?_;obtain⟨h1,h2⟩:=L.num I r[z];refine⟨gs',num::ms,_,_,_,_,_,_,_,by rw[Du],by rw[ed];exact h2,by rw[ed];exact⟨A,h1⟩⟩
 ·rintro ρ ⟨gs,ms,c5,c6,c7,c8,c9,c10,c11,rfl,I,A⟩;rw[MD,Ov]at A ⊢;refine O5 (Pr rfl (PO ?_ rfl));exact⟨ms,rfl,A⟩
theorem AS{i:Int}{o:Option (List Dat)}(k:K (.val (.int (if i<0 then -i else i))))(ho:o=some [.int i]):WB x9 o K:=⟨_,_,ho,rfl,k⟩
theorem AU(x:Int):∃d,sZ [.int x]=some (.new d)/\fL d=true/\aJ 1000000 d:=by
 suffices hh:Wr (sZ [.int x]) fun v=>∃d,v=.new d/\fL d=true/\aJ 1000000 d by obtain⟨v,h1,d,rfl,h2⟩:=hh;exact⟨d,h1,h2⟩
 unfold sZ
 (refine Dm.O6 ?_ rfl rfl;and_intros)
 refine OX (Pc (OW (Pg ?_ (by trivial))) (by decide));refine P7 (fun ρ=>∃y:Int,ρ=[.sh (.int x),.sh (.int y)]) ?_ ?_
 ·refine O_ (O4 (OV (Pe (m_ (M_ rfl (N_ (AS ?_ rfl)))))));refine OV (OW (OW (PN (z:=1000000000000000000) ?_ rfl rfl (by decide) (by decide))));refine Qj (OY ⟨fun g=>?_,fun g=>Pa ⟨_,rfl⟩⟩) rfl rfl;refine Pc (OV (OV (Pe (m_ (M_ rfl (N_ (AS ?_ rfl))))))) (by decide);refine OV (OW (OW (PN (z:=1000000000000000000) ?_ rfl rfl (by decide) (by decide))));refine PB ?_ rfl rfl;refine OW (Pq ?_ rfl rfl);exact Pg ⟨_,rfl⟩ (by trivial)
 ·rintro ρ ⟨y,rfl⟩
  repeat array_get_dec
  exact⟨_,rfl,rfl,_,_,_,rfl,by decide,by decide⟩
theorem yq(ns:List Int)(hl:ns.length<=63):∃cs:List Int,sY [.lst (ns.map Dat.int),.int 5]=some (.new (.lst (cs.map Dat.int)))/\cs.length<=5:=by
 suffices hh:Wr (sY [.lst (ns.map Dat.int),.int 5]) fun v=>∃cs:List Int,v=.new (.lst (cs.map Dat.int))/\cs.length<=5 by obtain⟨v,h1,d,rfl,h2⟩:=hh;exact⟨d,h1,h2⟩
 unfold sY
 (refine Dm.O6 ?_ rfl rfl;and_intros)
 refine OX (Pc (OV (Pz (m_ (OW (N_ (Pj ?_ rfl rfl (by decide))))))) (by decide));refine Pe (m_ (M_ rfl (m_ (Pe (m_ (OW (m_ (Pe (m_ (M_ rfl (N_ (PM (m7:=Dat.int) (xs:=ns) ?_ rfl))))))))))));refine N_ (Qg ?_ rfl);refine N_ (Qo ?_ rfl);have hb:∀z:Int,z=(if ((ns.length:Nat):Int)>1 then ((ns.length:Nat):Int) else 1)->1<=(if z<5 then z else 5)/\(if z<5 then z else 5)<=5:=fun z hz=>by
  rw[hz];constructor
  ·split<;>split<;>lia
  ·split<;>lia
 have hb:=hb _ rfl
 generalize (if (if ((ns.length:Nat):Int)>1 then ((ns.length:Nat):Int) else 1)<5 then (if ((ns.length:Nat):Int)>1 then ((ns.length:Nat):Int) else 1) else 5)=top at hb ⊢
 obtain⟨K,eK⟩:∃K:Nat,top=(K:Nat):=⟨_,(Int.toNat_of_nonneg (by lia)).symm⟩
 rw[eK];refine QB (x:=0) ?_ rfl rfl (by unfold SZ;lia);refine Po ?_ (by trivial);refine OX (Px (QJ (M_ rfl (Pb ⟨_,rfl,?_⟩))));rw[mY Dat.int 0];refine PC (fun i:Nat=>Dat.tup [.int ((0+i:Nat):Int),.int (ns.getD i 0)]) _ _ (Ml ns.length) _ _ _ _ _ (fun p q ρ=>∃(cs:List Int) (c3 c4:Cell),ρ=[.sh (.lst (ns.map Dat.int)),.sh (.int 5),.ow (.lst (cs.map Dat.int)),c3,c4]/\cs.length=K) ⟨_,_,_,rfl,by simp⟩ ?_ ?_
 ·rintro p i q ρ e ⟨cs,c3,c4,rfl,lc⟩;refine Dm.cg rfl (by trivial) ?_;unfold Az;have hm:=j5 ((0+i:Nat):Int) ((cs.length:Nat):Int) (by lia);have md:∀{Q:Val->Env->Prop} {ρ:Env},ρ=[.sh (.lst (ns.map Dat.int)),.sh (.int 5),.ow (.lst (cs.map Dat.int)),.sh (.int ((0+i:Nat):Int)),.sh (.int (ns.getD i 0))]->Q (.val (.int (((0+i:Nat):Int) % ((cs.length:Nat):Int)))) ρ->We (e2 iI (eV 3) (eB eT [(eV 2)])) ρ Q:=fun {Q ρ} e q=>by
   subst e;refine OV (M_ rfl (Pe (m_ (Pr rfl (N_ (PM (m7:=Dat.int) (xs:=cs) ?_ rfl))))));exact Qf q rfl rfl (by lia)
  refine PX (OV (OV (OV (Pr rfl (md rfl ?_)))));refine JJ hm.1 hm.2 ?_ rfl rfl;refine OW (Qc ?_ rfl rfl (.inr (by decide)));refine M_ rfl (Pq ?_ rfl rfl);refine Pb ⟨⟨_,rfl⟩,md rfl (bC.mk ⟨cs.map Dat.int,(((0+i:Nat):Int) % ((cs.length:Nat):Int)).toNat,_,rfl,?_,rfl,?_⟩)⟩
  ·rw[Mg];unfold ixN;rw[if_pos hm.1,if_pos (by lia)]
  ·refine⟨cs.set (((0+i:Nat):Int) % ((cs.length:Nat):Int)).toNat (at' cs (((0+i:Nat):Int) % ((cs.length:Nat):Int))*7+ns.getD i 0),.sh (.int ((0+i:Nat):Int)),.sh (.int (ns.getD i 0)),?_,by rw[Mx];exact lc⟩;rw[List.map_set];rfl
 ·rintro ρ ⟨cs,c3,c4,rfl,lc⟩;refine O5 (Pr rfl (PO ?_ rfl));exact⟨cs,rfl,by lia⟩
noncomputable def dD(a b:Int):Nat->List (Int->Int)->Int
 |_,[]=>0
 |i,f::r=>if f a=f b then dD a b (i+1) r else (i:Int)+1
theorem gQ(a b:Int):∀(gs:List (Int->Int)) (i:Nat),(dD a b i gs=0/\∀f∈gs,f a=f b)\/(∃j f,gs[j]?=some f/\dD a b i gs=((i+j:Nat):Int)+1/\f a≠f b/\∀(j':Nat) f',j'<j->gs[j']?=some f'->f' a=f' b)
 |[],i=>.inl ⟨rfl,fun f h=>by cases h⟩
 |f::gs,i=>by
  by_cases h:f a=f b
  ·have e:dD a b i (f::gs)=dD a b (i+1) gs:=by simp[dD,h]
   rw[e];rcases gQ a b gs (i+1) with⟨h1,h2⟩ | ⟨j,g,h1,h2,h3,h4⟩
   ·refine .inl ⟨h1,fun g hg=>?_⟩;rcases Mv.mp hg with rfl | hg
    ·exact h
    ·exact h2 g hg
   ·refine .inr ⟨j+1,g,h1,by rw[h2];lia,h3,fun j' f' hj hf=>?_⟩;cases j' with
    |zero=>cases hf;exact h
    |succ j'=>exact h4 j' f' (by lia) hf
  ·exact .inr ⟨0,f,rfl,by simp[dD,h],h,fun j' f' hj=>by lia⟩
noncomputable def ED(gs:List (Int->Int))(t:Tie):List (Int->Int):=
 if 0<dD t.a t.b 0 gs then gs.set (dD t.a t.b 0 gs-1).toNat (mgf (gs.getD (dD t.a t.b 0 gs-1).toNat fun x=>x) t.a t.b) else gs
theorem m6.num(h:m6 k gs r ms)(t:Tie):mX k r ms t (dD t.a t.b 0 gs):=by
 obtain⟨hl,ht⟩:=h;rcases gQ t.a t.b gs 0 with⟨h1,h2⟩ | ⟨j,f,h1,h2,h3,h4⟩
 ·refine .inl ⟨h1,fun j j1 j2=>?_⟩;have hj:(j-1).toNat<gs.length:=by lia
  have:=(ht (j-1).toNat _ (Me hj) t.a t.b).mp (h2 _ (Nn hj));rw[show (((j-1).toNat:Nat):Int)+1=j by lia]at this;exact this
 ·have hj:j<gs.length:=(Dk.mp h1).1;rw[h2];refine .inr ⟨by lia,by lia,fun c=>h3 ((ht j f h1 t.a t.b).mpr (by rw[show ((0+j:Nat):Int)+1=(j:Int)+1 by lia]at c;exact c)),fun i i1 i2=>?_⟩;have hi:(i-1).toNat<gs.length:=by lia
  have:=(ht (i-1).toNat _ (Me hi) t.a t.b).mp (h4 (i-1).toNat _ (by lia) (Me hi));rw[show (((i-1).toNat:Nat):Int)+1=i by lia]at this;exact this
theorem m6.step(h:m6 k gs r ms)(t:Tie):m6 k (ED gs t) (t::r) (dD t.a t.b 0 gs::ms):=by
 obtain⟨hl,ht⟩:=h;unfold ED;rcases gQ t.a t.b gs 0 with⟨h1,h2⟩ | ⟨j,f,h1,h2,h3,h4⟩
 ·rw[h1];refine⟨by simpa using hl,fun i g hg=>?_⟩;rw[fR,if_neg (by lia)];exact ht i g (by simpa using hg)
 ·have hj:j<gs.length:=(Dk.mp h1).1;have e:dD t.a t.b 0 gs=(j:Int)+1:=by rw[h2];lia
  have e2:((j:Int)+1-1).toNat=j:=by lia
  rw[e,if_pos (by lia),e2];have eg:(gs.getD j fun x=>x)=f:=by rw[MM,h1];rfl
  rw[eg];refine⟨by rw[Mx];exact hl,fun i g hg=>?_⟩;rw[fR];by_cases q:j=i
  ·subst q;rw[Mn hj]at hg;cases hg;rw[if_pos rfl];exact tells_mgf (ht j f h1) t t.a t.b (.inl ⟨rfl,rfl⟩)
  ·rw[gp q]at hg;rw[if_neg (by lia)];exact ht i g hg
noncomputable def keep(r:List Tie)(ms:List Int):List Tie:=((r.zip ms).filter fun p=>decide (0<p.2)).map (·.1)
theorem kK(t:Tie)(m:Int)(r:List Tie)(ms:List Int):keep (t::r) (m::ms)=if 0<m then t::keep r ms else keep r ms:=by unfold keep;rw[Of,List.filter_cons];by_cases h:0<m<;>simp[h]
noncomputable def zE(x:Tie×Int):Dat:=.tup [bD x.1,.int x.2]
theorem wU:∀(r:List Tie) (ms:List Int),iz (r.map bD) (ms.map Dat.int)=(r.zip ms).map zE
 |[],_=>by simp[iz]
 |_::_,[]=>by simp[iz]
 |t::r,m::ms=>by rw[MI,MI,iz,wU r ms,Of,MI];rfl
theorem Q4(r:List Tie)(ms:List Int)(p:Tie×Int->Bool){t:FT}(q:Q (.new (aX (((r.zip ms).filter p).map (·.1)))) ρ1)(G3:it ρ=some (iz (r.map bD) (ms.map Dat.int),ρ1))(hk:ρ1.length=k)(hk0:k≠0)(hl:r.length<=SZ)
  (ht:∀x:Tie×Int,Wt t (ρ1++[.sh (bD x.1),.sh (.int x.2)]) fun c ρ'=>c=p x/\ρ'=ρ1++[.sh (bD x.1),.sh (.int x.2)]):We (bX it 2 (bT [k,k+1]) t (eV k)) ρ Q:=by
 have b:∀(x:Tie×Int) (c1 c2:Cell),bT [k,k+1] (zE x) (ρ1++[c1,c2])=some (ρ1++[.sh (bD x.1),.sh (.int x.2)]):=fun x c1 c2=>by show sets [k,k+1] [bD x.1,.int x.2] _=_;rw[sets,if_neg hk0,sets,if_neg (by lia),sets];rw[NB _ _ (by lia),NB _ _ (by lia)];subst hk;rw[Ov,show ρ1.length+1-ρ1.length=1 by lia];rfl
 refine Q2 zE (r.zip ms) p (fun x=>x.1) bD (fun x=>(ρ1++[Cell.sh (bD x.1),Cell.sh (.int x.2)]:Env)) (own:=2) (bd:=bT [k,k+1]) (Q:=Q) q (by rw[G3,wU]) (fun x=>b x .un .un) (fun x y=>b x (.sh (bD y.1)) (.sh (.int y.2))) (fun x=>OJ) (by rw[List.length_zip];lia) (fun x _=>ht x) (fun x _ _=>?_);refine M_ (d:=bD x.1) ?_ (Pb ⟨rfl,rfl⟩);rw[Mp (by lia),hk,Ov];rfl
theorem G1(r:List Tie):eqD (aX r) (aX r)=true:=by
 unfold aX;rw[eqD]
 induction r with
 |nil=>rfl
 |cons b bs ih=>rw[MI,l_,ih];simp[bD,eqD,l_]
theorem P9{Q:RV->Prop}(hk:okD 8 d=true)(he:eqD d d=true)(k:Q (.val (.bl false)))(ho:o=some d)(hp:p=some d):Wg2 gNe o p Q:=
 ⟨_,_,_,ho,hp,by unfold gNe;rw[hk,he];rfl,k⟩
theorem QX{Q:RV->Prop}(hk:okD 8 d=true)(he:eqD d d=true)(k:Q (.val (.bl true)))(ho:o=some d)(hp:p=some d):Wg2 gEq o p Q:=
 ⟨_,_,_,ho,hp,by unfold gEq;rw[hk,he];rfl,k⟩
noncomputable def aK(n k:Nat)(r:List Tie):Dat:=.tup [.int (n:Nat),.int (k:Nat),aX r]
theorem pX(r:List Tie)(ms:List Int)(q:Q (.new (aX (keep r ms))) ρ1)(G3:it ρ=some (iz (r.map bD) (ms.map Dat.int),ρ1))(hk:ρ1.length=k)(hk0:k≠0)(hl:r.length<=SZ):We (bX it 2 (bT [k,k+1]) (tV (e2 gGt (eV (k+1)) (eC (.int 0)))) (eV k)) ρ Q:=by refine Q4 r ms (fun p=>decide (0<p.2)) q G3 hk hk0 hl fun x=>?_;refine O4 (OV (M_ (d:=.int x.2) ?_ (OW (PU (OY ⟨rfl,rfl⟩) rfl rfl))));rw[Mp (by lia),hk];simp
theorem pY(n k:Nat)(hn:n<=10)(hk6:k<=6)(r:List Tie)(ms:List Int)(hr:Ends n r)(hl:r.length<=1000)(ha:br k r ms):pU [.int (n:Nat),aX r,.int (k:Nat)]=some (.val (aK n k (keep r ms))):=by
 obtain⟨ms',el,al⟩:=qZ n k hn hk6 r hr hl;rw[al.uniq ha]at el;apply O8;unfold pU
 (refine Dm.O6 ?_ rfl rfl;and_intros)
 refine OX (Pc (O3 (m_ (M_ rfl (m_ (M_ rfl (m_ (M_ rfl (N_ (Py el ?_ rfl rfl rfl rfl)))))))) ) (by decide));refine Po ?_ (by trivial);refine O5 (Qh (m_ (M_ rfl (m_ (M_ rfl (m_ (pX (ρ1:=[.sh (.int (n:Nat)),.sh (aX r),.sh (.int (k:Nat)),.sh (.lst (ms.map Dat.int))]) r ms (k:=4) ?_ ?_ rfl (by decide) (MQ hl (by decide)))))))))
 ·exact N_ (Pj rfl rfl rfl (Mh rfl))
 ·rfl
theorem tR:∀(r:List Tie) (ms:List Int) (j:Int),1<=j->lay (keep r ms) (ms.filter fun m=>decide (0<m)) j=lay r ms j\/r.length≠ms.length
 |[],[],_,_=>.inl rfl
 |[],_::_,_,_=>.inr (by simp)
 |_::_,[],_,_=>.inr (by simp)
 |t::r,m::ms,j,hj=>by
  rcases tR r ms j hj with ih | ih
  ·left;rw[kK,fR];by_cases h:0<m
   ·rw[if_pos h,Nq (by simpa using h),fR,ih]
   ·rw[if_neg h,Nr (by simpa using h),ih,if_neg (by lia)]
  ·right
   simpa using ih
theorem tS{k:Int}:∀{r:List Tie} {ms:List Int},br k r ms->br k (keep r ms) (ms.filter fun m=>decide (0<m))
 |[],[],_=>trivial
 |t::r,m::ms,h=>by
  have ih:=tS h.1;rw[kK];by_cases q:0<m
  ·rw[if_pos q,Nq (by simpa using q)];refine⟨ih,?_⟩;have e:∀j,1<=j->lay (keep r ms) (ms.filter fun m=>decide (0<m)) j=lay r ms j:=fun j hj=>by
    rcases tR r ms j hj with z | z
    ·exact z
    ·exact absurd h.1.len.symm z
   rcases h.2 with⟨h0,_⟩ | ⟨h1,h2,h3,h4⟩
   ·lia
   ·exact .inr ⟨h1,h2,by rw[e m h1];exact h3,fun j j1 j2=>by rw[e j j1];exact h4 j j1 j2⟩
  ·rw[if_neg q,Nr (by simpa using q)];exact ih
 |[],_::_,h=>h.elim
 |_::_,[],h=>h.elim
theorem m8:∀(r:List Tie) (ms:List Int),(keep r ms).Sublist r
 |[],ms=>by unfold keep;simp
 |_::_,[]=>by unfold keep;simp
 |t::r,m::ms=>by
  rw[kK];split
  ·exact(m8 r ms).cons_cons t
  ·exact(m8 r ms).cons t
theorem Dv{t u:Tie}(h1:t.m=u.m)(h2:t.a=u.a)(h3:t.b=u.b):t=u:=by cases t;cases u;simp only at h1 h2 h3;rw[h1,h2,h3]
instance:DecidableEq Tie:=fun t u=>if h:t.m=u.m/\t.a=u.a/\t.b=u.b then .isTrue (Dv h.1 h.2.1 h.2.2) else .isFalse fun e=>h (by rw[e];exact⟨rfl,rfl,rfl⟩)
theorem m9(n i:Int)(h0:0<=i)(h1:i<n):qW [.int n,.int i]=some (.val (.bl true)):=by
 apply O8;unfold qW
 (refine Dm.O6 ?_ rfl rfl;and_intros)
 refine O5 (O3 (m_ (M_ rfl (m_ (OW (m_ (OV (M_ rfl (OW (PB ?_ rfl rfl))))))))));exact N_ (O0 (dB i 0 (n-1) h0 (by lia)) rfl rfl rfl)
theorem pZ(m:Int)(h0:0<=m)(h1:m<=Z30):vj [.int m]=some (.val (.bl true)):=by
 apply O8;unfold vj
 (refine Dm.O6 ?_ rfl rfl;and_intros)
 refine O5 (O3 (m_ (M_ rfl (m_ (OW (m_ (OV (OW (OW (PN (z:=Z30) ?_ rfl rfl (by decide) (by decide)))))))))));exact N_ (O0 (dB m 0 Z30 h0 h1) rfl rfl rfl)
theorem yr(n:Int)(t:Tie)(m0:0<=t.m)(m1:t.m<=Z30)(a0:0<=t.a)(a1:t.a<n)(b0:0<=t.b)(b1:t.b<n):qX [.int n,bD t]=some (.val (.bl true)):=by
 apply O8;unfold qX bD
 (refine Dm.O6 ?_ rfl rfl;and_intros)
 ((with_reducible refine Dm.OX ?_);(with_reducible refine Dm.O_ ?_);(with_reducible refine Dm.Pf ?_);(with_reducible refine Dm.O7 ?_);(with_reducible refine Dm.O4 ?_);(with_reducible refine Dm.Ph ?_);((with_reducible apply Dm.M_);(focus rfl));(refine Dm.Pp ?_ rfl rfl);(refine Dm.OY ?_))
 refine Pk rfl ?_
 ((with_reducible refine Dm.O4 ?_);(with_reducible refine Dm.OV ?_);(with_reducible refine Dm.Pe ?_);(with_reducible refine Dm.m_ ?_);((with_reducible apply Dm.M_);(focus rfl));(with_reducible refine Dm.N_ ?_);(refine Dm.PR ?_ rfl);(with_reducible refine Dm.OW ?_);(refine Dm.PJ ?_ rfl rfl);(refine Dm.OY ?_))
 refine Pk rfl ?_
 ((with_reducible refine Dm.Pa ?_);(with_reducible refine Dm.O5 ?_);(with_reducible refine Dm.Pw ?_);(with_reducible refine Dm.O3 ?_);(with_reducible refine Dm.m_ ?_);(with_reducible refine Dm.OV ?_);((with_reducible apply Dm.M_);(focus rfl));(with_reducible refine Dm.OW ?_);(refine Dm.OZ ?_ rfl rfl rfl);(with_reducible refine Dm.N_ ?_))
 refine O0 (pZ t.m m0 m1) ?_ rfl rfl
 ((refine Dm.OY ?_);(with_reducible refine Dm.Pd ?_);(with_reducible refine Dm.Pw ?_);(with_reducible refine Dm.O3 ?_);(with_reducible refine Dm.m_ ?_);((with_reducible apply Dm.M_);(focus rfl));(with_reducible refine Dm.m_ ?_);(with_reducible refine Dm.OV ?_);((with_reducible apply Dm.M_);(focus rfl));(with_reducible refine Dm.OW ?_);(refine Dm.OZ ?_ rfl rfl rfl);(with_reducible refine Dm.N_ ?_))
 refine O0 (m9 n t.a a0 a1) ?_ rfl rfl
 ((refine Dm.OY ?_);(with_reducible refine Dm.Pd ?_);(with_reducible refine Dm.O3 ?_);(with_reducible refine Dm.m_ ?_);((with_reducible apply Dm.M_);(focus rfl));(with_reducible refine Dm.m_ ?_);(with_reducible refine Dm.OV ?_);((with_reducible apply Dm.M_);(focus rfl));(with_reducible refine Dm.OW ?_);(refine Dm.OZ ?_ rfl rfl rfl);(with_reducible refine Dm.N_ ?_))
 refine O0 (m9 n t.b b0 b1) ?_ rfl rfl
 ((refine Dm.Pn ?_))
 rfl
theorem yt(n:Int)(t:Tie)(m0:0<=t.m)(m1:t.m<=Z30)(a0:0<=t.a)(ab:t.a<=t.b)(b1:t.b<n):qY [.int n,bD t]=some (.val (.bl true)):=by
 apply O8;unfold qY
 (refine Dm.O6 ?_ rfl rfl;and_intros)
 ((with_reducible refine Dm.O5 ?_);(with_reducible refine Dm.Pw ?_);(with_reducible refine Dm.O3 ?_);(with_reducible refine Dm.m_ ?_);((with_reducible apply Dm.M_);(focus rfl));(with_reducible refine Dm.m_ ?_);((with_reducible apply Dm.M_);(focus rfl));(with_reducible refine Dm.N_ ?_))
 refine O0 (yr n t m0 m1 a0 (by lia) (by lia) b1) ?_ rfl rfl
 ((refine Dm.OY ?_);(with_reducible refine Dm.Pd ?_);(with_reducible refine Dm.OV ?_);(with_reducible refine Dm.OV ?_);((with_reducible apply Dm.M_);(focus rfl));(with_reducible refine Dm.OW ?_);(refine Dm.OZ ?_ rfl rfl rfl);(with_reducible refine Dm.OV ?_);((with_reducible apply Dm.M_);(focus rfl));(with_reducible refine Dm.OW ?_);(refine Dm.OZ ?_ rfl rfl rfl);(refine Dm.Qy ?_ rfl rfl);(refine Dm.Pn ?_))
 exact congrArg (fun b=>RV.val (Dat.bl b)) (decide_eq_true ab)
noncomputable abbrev G4(D:List Tie):Prop:=D.Pairwise fun t u=>t.m<u.m
theorem wV(n:Nat):ups 1 n=(Ml n).map fun i:Nat=>Dat.int (1+(i:Int)):=rfl
theorem fY(n:Int)(h1:1<=n)(h2:n<=10):qV [.int n]=some (.val (.bl true)):=by
 apply O8;unfold qV
 (refine Dm.O6 ?_ rfl rfl;and_intros)
 ((with_reducible refine Dm.O5 ?_);(with_reducible refine Dm.O3 ?_);(with_reducible refine Dm.m_ ?_);((with_reducible apply Dm.M_);(focus rfl));(with_reducible refine Dm.m_ ?_);(with_reducible refine Dm.OW ?_);(with_reducible refine Dm.m_ ?_);(with_reducible refine Dm.OW ?_);(with_reducible refine Dm.N_ ?_))
 refine O0 (dB n 1 10 h1 h2) ?_ rfl rfl
 ((refine Dm.Pn ?_))
 rfl
theorem cN(n:Int)(h1:1<=n)(h2:n<=6):jZ [.int n]=some (.val (.bl true)):=by
 apply O8;unfold jZ
 (refine Dm.O6 ?_ rfl rfl;and_intros)
 ((with_reducible refine Dm.O5 ?_);(with_reducible refine Dm.O3 ?_);(with_reducible refine Dm.m_ ?_);((with_reducible apply Dm.M_);(focus rfl));(with_reducible refine Dm.m_ ?_);(with_reducible refine Dm.OW ?_);(with_reducible refine Dm.m_ ?_);(with_reducible refine Dm.OW ?_);(with_reducible refine Dm.N_ ?_))
 refine O0 (dB n 1 6 h1 h2) ?_ rfl rfl
 ((refine Dm.Pn ?_))
 rfl
theorem yu(D:List Tie)(h:G4 D)(hl:D.length<=75):yk [.lst ((D.map (·.m)).map Dat.int)]=some (.val (.bl true)):=by
 have sz:1000<=SZ:=by decide
 apply O8;unfold yk
 (refine Dm.O6 ?_ rfl rfl;and_intros)
 refine O5 (Pe (m_ ?_));have G3:iR2 (eC (.int 1)) (eB eT [eV 0]) [.sh (.lst ((D.map (·.m)).map Dat.int))]=some ((Ml ((D.length:Int)-1).toNat).map (fun i:Nat=>Dat.int (1+(i:Int))),[.sh (.lst ((D.map (·.m)).map Dat.int))]):=by
  refine P8 ?_
  ((with_reducible refine Dm.Qs ?_);(with_reducible refine Dm.OW ?_);(refine Dm.bC.mk ?_);(with_reducible refine Dm.Pe ?_);(with_reducible refine Dm.m_ ?_);((with_reducible apply Dm.M_);(focus rfl));(with_reducible refine Dm.N_ ?_);(refine Dm.PM (m7:=Dat.int) ?_ rfl);(refine Dm.bC.mk ?_))
  refine⟨⟨?_,rfl⟩,?_⟩
  ·rw[wV,Mg]
  ·rw[Mg];unfold BIG;lia
 refine P6 (fun i:Nat=>Dat.int (1+(i:Int))) (Ml ((D.length:Int)-1).toNat) (fun _=>true) Dat.bl ?_ G3 rfl (by decide) (by simp;lia) (fun i hi=>?_)
 ·refine N_ (P5 (fun b=>b) (xs:=(Ml ((D.length:Int)-1).toNat).map fun _=>true) ?_ rfl);exact Pn (congrArg (fun b=>RV.val (Dat.bl b)) (by simp))
 ·have hi':=Ny.mp hi
  ((with_reducible refine Dm.OV ?_);(with_reducible refine Dm.OV ?_);((with_reducible apply Dm.M_);(focus rfl));(with_reducible refine Dm.OV ?_);((with_reducible apply Dm.M_);(focus rfl));(with_reducible refine Dm.OW ?_);(refine Dm.PB ?_ rfl rfl))
  refine PZ (m7:=Dat.int) (xs:=D.map (·.m)) (i:=1+(i:Int)-1) (by lia) (by rw[Mg];lia) ?_ rfl rfl
  ((with_reducible refine Dm.OV ?_);((with_reducible apply Dm.M_);(focus rfl));((with_reducible apply Dm.M_);(focus rfl)))
  refine PZ (m7:=Dat.int) (xs:=D.map (·.m)) (i:=1+(i:Int)) (by lia) (by rw[Mg];lia) ?_ rfl rfl
  ((refine Dm.Qi ?_ rfl rfl);(refine Dm.Pb ?_))
  have lt:=List.pairwise_iff_getElem.mp h (1+(i:Int)-1).toNat (1+(i:Int)).toNat (by lia) (by lia) (by lia);refine⟨congrArg Dat.bl (decide_eq_true ?_),rfl⟩;rw[NT,NT];exact lt
structure Rcd(n:Nat)(r:List Tie):Prop where
 ok:∀t∈r,0<=t.m/\t.m<=Z30/\0<=t.a/\t.a<=t.b/\t.b<n
 up:G4 r
 len:r.length<=60
theorem Rcd.sub{r q:List Tie}(h:Rcd n r)(s:q.Sublist r):Rcd n q:=⟨fun t ht=>h.ok t (s.subset ht),h.up.sublist s,MQ s.length_le h.len⟩
theorem Rcd.ends(h:Rcd n r):Ends n r:=fun t ht=>by obtain⟨h1,h2,h3,h4,h5⟩:=h.ok t ht;exact⟨h3,by lia,by lia,h5⟩
theorem q_(n:Nat)(n1:1<=n)(n10:n<=10)(r:List Tie)(h:Rcd n r):fP [.int (n:Nat),aX r]=some (.val (.bl true)):=by
 have sz:1000<=SZ:=by decide
 have hl:=h.len;apply O8;unfold fP
 (refine Dm.O6 ?_ rfl rfl;and_intros)
 ((with_reducible refine Dm.OX ?_);(with_reducible refine Dm.O_ ?_);(with_reducible refine Dm.Pf ?_);(with_reducible refine Dm.O7 ?_);(with_reducible refine Dm.O4 ?_);(with_reducible refine Dm.O3 ?_);(with_reducible refine Dm.m_ ?_);((with_reducible apply Dm.M_);(focus rfl));(with_reducible refine Dm.N_ ?_))
 refine O0 (fY n (by lia) (by lia)) ?_ rfl rfl
 ((refine Dm.OY ?_))
 refine Pk rfl ?_
 ((with_reducible refine Dm.Pf ?_);(with_reducible refine Dm.O7 ?_);(with_reducible refine Dm.O4 ?_);(with_reducible refine Dm.Ph ?_);((with_reducible apply Dm.M_);(focus rfl));(refine Dm.Pp ?_ rfl rfl);(refine Dm.OY ?_))
 refine Pk rfl ?_
 ((with_reducible refine Dm.O4 ?_);(with_reducible refine Dm.OV ?_);(with_reducible refine Dm.Pe ?_);(with_reducible refine Dm.m_ ?_);((with_reducible apply Dm.M_);(focus rfl));(with_reducible refine Dm.N_ ?_);(refine Dm.Ql ?_ rfl);(with_reducible refine Dm.OW ?_);(refine Dm.PU ?_ rfl rfl);(refine Dm.OY ?_))
 refine Pk (decide_eq_false (by rw[Mg];lia)) ?_
 ((with_reducible refine Dm.Pa ?_);(with_reducible refine Dm.OX ?_);(with_reducible refine Dm.O_ ?_);(with_reducible refine Dm.O7 ?_);(with_reducible refine Dm.O4 ?_);(with_reducible refine Dm.Pe ?_);(with_reducible refine Dm.m_ ?_))
 refine Qa bD r (fun _=>true) Dat.bl ?_ rfl rfl rfl (by decide) (by lia) (fun t ht=>?_)
 rotate_left
 ·obtain⟨h1,h2,h3,h4,h5⟩:=h.ok t ht
  ((with_reducible refine Dm.O3 ?_);(with_reducible refine Dm.m_ ?_);((with_reducible apply Dm.M_);(focus rfl));(with_reducible refine Dm.m_ ?_);((with_reducible apply Dm.M_);(focus rfl));(with_reducible refine Dm.N_ ?_))
  refine O0 (yt n t h1 h2 h3 h4 h5) ?_ rfl rfl
  ((refine Dm.Pb ?_))
  exact⟨rfl,rfl⟩
 ((with_reducible refine Dm.N_ ?_))
 refine P5 (fun b=>b) (xs:=r.map fun _=>true) ?_ rfl
 ((refine Dm.OY ?_))
 refine Pk (by simp) ?_
 ((with_reducible refine Dm.Pa ?_);(with_reducible refine Dm.O5 ?_);(with_reducible refine Dm.O3 ?_);(with_reducible refine Dm.m_ ?_))
 refine Qa bD r (·.m) Dat.int ?_ rfl rfl rfl (by decide) (by lia) (fun t ht=>?_)
 rotate_left
 ·((with_reducible refine Dm.OV ?_);((with_reducible apply Dm.M_);(focus rfl));(with_reducible refine Dm.OW ?_);(refine Dm.OZ ?_ rfl rfl rfl);(refine Dm.Pb ?_))
  exact⟨rfl,rfl⟩
 ((with_reducible refine Dm.N_ ?_))
 refine O0 (yu r h.up (by lia)) ?_ rfl rfl
 ((refine Dm.Pn ?_))
 rfl
structure Net(n k:Nat)(N:List Tie):Prop where
 rc:Rcd n N
 num:∃ms,br k N ms/\(0:Int)∉ms
theorem p5(n k:Nat)(n1:1<=n)(n10:n<=10)(k1:1<=k)(k6:k<=6)(N:List Tie)(h:Net n k N):bL [aK n k N]=some (.val (.bl true)):=by
 have hl:=h.rc.len;obtain⟨ms,el,al⟩:=iV n k n10 k1 k6 N h.rc.ends (by lia);obtain⟨ms',al',h0⟩:=h.num;rw[al'.uniq al]at h0;apply O8;unfold bL aK
 (refine Dm.O6 ?_ rfl rfl;and_intros)
 ((with_reducible refine Dm.OX ?_);(with_reducible refine Dm.O_ ?_);(with_reducible refine Dm.Pf ?_);(with_reducible refine Dm.O7 ?_);(with_reducible refine Dm.O4 ?_);(with_reducible refine Dm.Ph ?_);((with_reducible apply Dm.M_);(focus rfl));(refine Dm.Pp ?_ rfl rfl);(refine Dm.OY ?_))
 refine Pk rfl ?_
 ((with_reducible refine Dm.O4 ?_);(with_reducible refine Dm.OV ?_);(with_reducible refine Dm.Pe ?_);(with_reducible refine Dm.m_ ?_);((with_reducible apply Dm.M_);(focus rfl));(with_reducible refine Dm.N_ ?_);(refine Dm.PR ?_ rfl);(with_reducible refine Dm.OW ?_);(refine Dm.PJ ?_ rfl rfl);(refine Dm.OY ?_))
 refine Pk rfl ?_
 ((with_reducible refine Dm.Pa ?_);(with_reducible refine Dm.OX ?_);(with_reducible refine Dm.O_ ?_);(with_reducible refine Dm.Pf ?_);(with_reducible refine Dm.O7 ?_);(with_reducible refine Dm.O4 ?_);(with_reducible refine Dm.O3 ?_);(with_reducible refine Dm.m_ ?_);(with_reducible refine Dm.OV ?_);((with_reducible apply Dm.M_);(focus rfl));(with_reducible refine Dm.OW ?_);(refine Dm.OZ ?_ rfl rfl rfl);(with_reducible refine Dm.N_ ?_))
 refine O0 (cN k (by lia) (by lia)) ?_ rfl rfl
 ((refine Dm.OY ?_))
 refine Pk rfl ?_
 ((with_reducible refine Dm.O7 ?_);(with_reducible refine Dm.O4 ?_);(with_reducible refine Dm.O3 ?_);(with_reducible refine Dm.m_ ?_);(with_reducible refine Dm.OV ?_);((with_reducible apply Dm.M_);(focus rfl));(with_reducible refine Dm.OW ?_);(refine Dm.OZ ?_ rfl rfl rfl);(with_reducible refine Dm.m_ ?_);(with_reducible refine Dm.OV ?_);((with_reducible apply Dm.M_);(focus rfl));(with_reducible refine Dm.OW ?_);(refine Dm.OZ ?_ rfl rfl rfl);(with_reducible refine Dm.N_ ?_))
 refine O0 (q_ n n1 n10 N h.rc) ?_ rfl rfl
 ((refine Dm.OY ?_))
 refine Pk rfl ?_
 ((with_reducible refine Dm.Pa ?_);(with_reducible refine Dm.O5 ?_);(with_reducible refine Dm.OV ?_);(with_reducible refine Dm.OW ?_);(with_reducible refine Dm.O3 ?_);(with_reducible refine Dm.m_ ?_);(with_reducible refine Dm.OV ?_);((with_reducible apply Dm.M_);(focus rfl));(with_reducible refine Dm.OW ?_);(refine Dm.OZ ?_ rfl rfl rfl);(with_reducible refine Dm.m_ ?_);(with_reducible refine Dm.OV ?_);((with_reducible apply Dm.M_);(focus rfl));(with_reducible refine Dm.OW ?_);(refine Dm.OZ ?_ rfl rfl rfl);(with_reducible refine Dm.m_ ?_);(with_reducible refine Dm.OV ?_);((with_reducible apply Dm.M_);(focus rfl));(with_reducible refine Dm.OW ?_);(refine Dm.OZ ?_ rfl rfl rfl);(with_reducible refine Dm.N_ ?_))
 refine Py el ?_ rfl rfl rfl (by trivial)
 skip
 refine QC (xs:=ms) ?_ rfl rfl
 ((refine Dm.Pn ?_))
 exact congrArg (fun b=>RV.val (Dat.bl b)) (by simp[h0])
theorem vp(k:Nat):∀r:List Tie,∃(gs:List (Int->Int)) (ms:List Int),m6 k gs r ms/\br k r ms
 |[]=>⟨_,[],G0 k,trivial⟩
 |t::r=>by obtain⟨gs,ms,h1,h2⟩:=vp k r;exact⟨_,_,h1.step t,h2,h1.num t⟩
noncomputable def nums(k:Nat)(r:List Tie):List Int:=Classical.choose (NV (vp k r))
theorem cD(k:Nat)(r:List Tie):br k r (nums k r):=(NV (NV (vp k r))).2
noncomputable def NN(k:Nat)(r:List Tie):List Tie:=keep r (nums k r)
theorem AV(h:br k r ms):keep r ms=NN k r:=by unfold NN;rw[h.uniq (cD k r)]
theorem AW(k:Nat)(r:List Tie):(NN k r).Sublist r:=m8 _ _
theorem Rcd.of(g:Good n 0 r)(hl:r.length<=60)(hm:∀t∈r,t.m<=Z30):Rcd n r:=⟨fun t ht=>by
 obtain⟨h1,h2,h3⟩:=g.mem t ht;exact⟨g.lo t ht,hm t ht,h1,h2,h3⟩,by
 have go:∀(r:List Tie) (lo:Int),Good n lo r->G4 r:=fun r=>by
  induction r with
  |nil=>exact fun _ _=>.nil
  |cons t r ih=>intro lo h;obtain⟨_,_,_,_,h5⟩:=h;exact .cons (fun u hu=>by have:=h5.lo u hu;lia) (ih _ h5)
 exact go r 0 g,hl⟩
theorem dF(i lo hi:Int)(h:¬(lo<=i/\i<=hi)):dW [.int i,.int lo,.int hi]=some (.val (.bl false)):=by
 apply O8;unfold dW
 (refine Dm.O6 ?_ rfl rfl;and_intros)
 refine O5 (Pw (O3 (m_ (M_ rfl (N_ (O0 (tP i) (OY (Pd ?_)) rfl rfl))))));have e1:gLe (.int lo) (.int i)=some (.val (.bl (decide (lo<=i)))):=rfl;have e2:gLe (.int i) (.int hi)=some (.val (.bl (decide (i<=hi)))):=rfl;have e:gE gLe gLe (eV 1) (eV 0) (eV 2) [.sh (.int i),.sh (.int lo),.sh (.int hi)]=some (.val (.bl false),[.sh (.int i),.sh (.int lo),.sh (.int hi)]):=by
  unfold gE;simp only[eV,NP,Nc,pk,e1,e2,RV.bW];by_cases q:lo<=i
  ·rw[decide_eq_true q,decide_eq_false fun z=>h ⟨q,z⟩]
  ·rw[decide_eq_false q]
 exact⟨_,_,e,rfl⟩
theorem j6(i lo hi:Int):dW [.int i,.int lo,.int hi]=some (.val (.bl (decide (lo<=i/\i<=hi)))):=by
 by_cases q:lo<=i/\i<=hi
 ·rw[decide_eq_true q];exact dB i lo hi q.1 q.2
 ·rw[decide_eq_false q];exact dF i lo hi q
theorem wW(n i:Int):qW [.int n,.int i]=some (.val (.bl (decide (0<=i/\i<n)))):=by
 apply O8;unfold qW
 (refine Dm.O6 ?_ rfl rfl;and_intros)
 refine O5 (O3 (m_ (M_ rfl (m_ (OW (m_ (OV (M_ rfl (OW (PB ?_ rfl rfl))))))))));refine N_ (O0 (j6 i 0 (n-1)) (Pn (congrArg (fun b=>RV.val (Dat.bl b)) (decide_eq_decide.mpr (by lia)))) rfl rfl)
theorem AX(m:Int):vj [.int m]=some (.val (.bl (decide (0<=m/\m<=Z30)))):=by
 apply O8;unfold vj
 (refine Dm.O6 ?_ rfl rfl;and_intros)
 refine O5 (O3 (m_ (M_ rfl (m_ (OW (m_ (OV (OW (OW (PN (z:=Z30) ?_ rfl rfl (by decide) (by decide)))))))))));exact N_ (O0 (j6 m 0 Z30) rfl rfl rfl)
theorem AY(n:Int):qV [.int n]=some (.val (.bl (decide (1<=n/\n<=10)))):=by
 apply O8;unfold qV
 (refine Dm.O6 ?_ rfl rfl;and_intros)
 exact O5 (O3 (m_ (M_ rfl (m_ (OW (m_ (OW (N_ (O0 (j6 n 1 10) rfl rfl rfl)))))))))
theorem AZ(n:Int):jZ [.int n]=some (.val (.bl (decide (1<=n/\n<=6)))):=by
 apply O8;unfold jZ
 (refine Dm.O6 ?_ rfl rfl;and_intros)
 exact O5 (O3 (m_ (M_ rfl (m_ (OW (m_ (OW (N_ (O0 (j6 n 1 6) rfl rfl rfl)))))))))
noncomputable abbrev TOk(n:Int)(t:Tie):Prop:=(0<=t.m/\t.m<=Z30)/\0<=t.a/\t.a<=t.b/\t.b<n
noncomputable abbrev TE(n:Int)(t:Tie):Prop:=(0<=t.m/\t.m<=Z30)/\(0<=t.a/\t.a<n)/\0<=t.b/\t.b<n
theorem A0(n:Int)(t:Tie):qX [.int n,bD t]=some (.val (.bl (decide (TE n t)))):=by
 apply O8;unfold qX bD
 (refine Dm.O6 ?_ rfl rfl;and_intros)
 refine OX (O_ (Pf (O7 (O4 (Ph (M_ rfl (Pp (v:=.val (.bl true)) (OY (O9 ?_)) rfl rfl)))))));refine O4 (OV (Pe (m_ (M_ rfl (N_ (PR ?_ rfl))))));refine OW (PJ (OY (Pk rfl (Pa ?_))) rfl rfl);refine O5 (Pw (O3 (m_ (OV (M_ rfl (OW (OZ (v:=.int t.m) ?_ rfl rfl rfl)))))));refine N_ (O0 (AX t.m) (OY ?_) rfl rfl);by_cases q1:0<=t.m/\t.m<=Z30
 ·rw[decide_eq_true q1];refine Pd ?_;refine Pw (O3 (m_ (M_ rfl (m_ (OV (M_ rfl (OW (OZ (v:=.int t.a) ?_ rfl rfl rfl))))))));refine N_ (O0 (wW n t.a) (OY ?_) rfl rfl);by_cases q2:0<=t.a/\t.a<n
  ·rw[decide_eq_true q2];refine Pd ?_;refine O3 (m_ (M_ rfl (m_ (OV (M_ rfl (OW (OZ (v:=.int t.b) ?_ rfl rfl rfl)))))));refine N_ (O0 (wW n t.b) (Pn (congrArg (fun b=>RV.val (Dat.bl b)) (decide_eq_decide.mpr ?_))) rfl rfl);exact⟨fun h=>⟨q1,q2,h⟩,fun h=>h.2.2⟩
  ·rw[decide_eq_false q2];exact O9 (Pn (congrArg (fun b=>RV.val (Dat.bl b)) (decide_eq_false fun h=>q2 h.2.1).symm))
 ·rw[decide_eq_false q1];exact O9 (Pn (congrArg (fun b=>RV.val (Dat.bl b)) (decide_eq_false fun h=>q1 h.1).symm))
theorem JM(n:Int)(t:Tie):qY [.int n,bD t]=some (.val (.bl (decide (TOk n t)))):=by
 apply O8;unfold qY
 (refine Dm.O6 ?_ rfl rfl;and_intros)
 refine O5 (Pw (O3 (m_ (M_ rfl (m_ (M_ rfl (N_ (O0 (A0 n t) (OY ?_) rfl rfl))))))));by_cases q:TE n t
 ·rw[decide_eq_true q];refine Pd (OV (OV (M_ rfl (OW (OZ (v:=.int t.a) ?_ rfl rfl rfl)))));refine OV (M_ rfl (OW (OZ (v:=.int t.b) ?_ rfl rfl rfl)));refine Qy (Pn (congrArg (fun b=>RV.val (Dat.bl b)) (decide_eq_decide.mpr ?_))) rfl rfl;obtain⟨h1,h2,h3⟩:=q;exact⟨fun h=>⟨h1,h2.1,h,h3.2⟩,fun h=>h.2.2.1⟩
 ·rw[decide_eq_false q];refine O9 (Pn (congrArg (fun b=>RV.val (Dat.bl b)) (decide_eq_false fun h=>q ?_).symm));obtain⟨h1,h2,h3,h4⟩:=h;exact⟨h1,⟨h2,by lia⟩,by lia,h4⟩
noncomputable def upB(r:List Tie):Bool:=(Ml ((r.length:Int)-1).toNat).all fun i=>decide ((r.getD i ⟨0,0,0⟩).m<(r.getD (i+1) ⟨0,0,0⟩).m)
theorem A1(r:List Tie)(h:i<r.length):(r.getD i ⟨0,0,0⟩)=r[i]:=by rw[MM,Me h];rfl
theorem A2(r:List Tie)(hl:r.length<=75):yk [.lst ((r.map (·.m)).map Dat.int)]=some (.val (.bl (upB r))):=by
 have sz:1000<=SZ:=by decide
 apply O8;unfold yk
 (refine Dm.O6 ?_ rfl rfl;and_intros)
 refine O5 (Pe (m_ ?_));have G3:iR2 (eC (.int 1)) (eB eT [eV 0]) [.sh (.lst ((r.map (·.m)).map Dat.int))]=some ((Ml ((r.length:Int)-1).toNat).map (fun i:Nat=>Dat.int (1+(i:Int))),[.sh (.lst ((r.map (·.m)).map Dat.int))]):=by
  refine P8 (Qs (OW (bC.mk (Pe (m_ (M_ rfl (N_ (PM (m7:=Dat.int) (bC.mk ?_) rfl))))))));refine⟨⟨?_,rfl⟩,?_⟩
  ·rw[wV,Mg]
  ·rw[Mg];unfold BIG;lia
 refine P6 (fun i:Nat=>Dat.int (1+(i:Int))) (Ml ((r.length:Int)-1).toNat) (fun i=>decide ((r.getD i ⟨0,0,0⟩).m<(r.getD (i+1) ⟨0,0,0⟩).m)) Dat.bl ?_ G3 rfl (by decide) (by simp;lia) (fun i hi=>?_)
 ·refine N_ (P5 (fun b=>b) (xs:=(Ml ((r.length:Int)-1).toNat).map fun i=>decide ((r.getD i ⟨0,0,0⟩).m<(r.getD (i+1) ⟨0,0,0⟩).m)) ?_ (by rw[Ni];rfl));refine Pn (congrArg (fun b=>RV.val (Dat.bl b)) ?_);unfold upB;rw[Ou];rfl
 ·have hi':=Ny.mp hi;refine OV (OV (M_ rfl (OV (M_ rfl (OW (PB ?_ rfl rfl))))));refine PZ (m7:=Dat.int) (xs:=r.map (·.m)) (i:=1+(i:Int)-1) (by lia) (by rw[Mg];lia) ?_ rfl rfl;refine OV (M_ rfl (M_ rfl ?_));refine PZ (m7:=Dat.int) (xs:=r.map (·.m)) (i:=1+(i:Int)) (by lia) (by rw[Mg];lia) ?_ rfl rfl;refine Qi (Pb ⟨congrArg Dat.bl (decide_eq_decide.mpr ?_),rfl⟩) rfl rfl;rw[NT,NT,A1 r (by lia),A1 r (by lia)];have e1:(1+(i:Int)-1).toNat=i:=by lia
  have e2:(1+(i:Int)).toNat=i+1:=by lia
  simp only[e1,e2]
theorem A3(n:Int)(r:List Tie)(hl:r.length<=60):fP [.int n,aX r]=some (.val (.bl (decide (1<=n/\n<=10)&&(r.all fun t=>decide (TOk n t))&&upB r))):=by
 have sz:1000<=SZ:=by decide
 apply O8;unfold fP
 (refine Dm.O6 ?_ rfl rfl;and_intros)
 refine OX (O_ (Pf (O7 (O4 (O3 (m_ (M_ rfl (N_ (O0 (AY n) (OY ?_) rfl rfl)))))))));by_cases q1:1<=n/\n<=10
 ·rw[decide_eq_true q1];refine O9 (Pf (O7 (O4 (Ph (M_ rfl (Pp (v:=.val (.bl true)) (OY (O9 ?_)) rfl rfl))))));refine O4 (OV (Pe (m_ (M_ rfl (N_ (PM (m7:=bD) (xs:=r) ?_ rfl))))));refine OW (PU (OY (Pk (decide_eq_false (by lia)) (Pa ?_))) rfl rfl);refine OX (O_ (O7 (O4 (Pe (m_ ?_)))));refine Qa bD r (fun t=>decide (TOk n t)) Dat.bl ?_ rfl rfl rfl (by decide) (by lia) (fun t ht=>?_)
  rotate_left
  ·exact O3 (m_ (M_ rfl (m_ (M_ rfl (N_ (O0 (JM n t) (Pb ⟨rfl,rfl⟩) rfl rfl))))))
  refine N_ (P5 (fun b=>b) (xs:=r.map fun t=>decide (TOk n t)) ?_ (by rw[Ni];rfl));have e:((r.map fun t=>decide (TOk n t)).all fun b=>b)=r.all fun t=>decide (TOk n t):=by rw[Ou];rfl
  rw[e];refine OY ?_;cases q2:r.all fun t=>decide (TOk n t) with
  |false=>exact Pd (O5 (OW rfl))
  |true=>
   refine O9 (Pa (O5 (O3 (m_ ?_))));refine Qa bD r (·.m) Dat.int ?_ rfl rfl rfl (by decide) (by lia) (fun t ht=>?_)
   rotate_left
   ·exact OV (M_ rfl (OW (OZ (v:=.int t.m) (Pb ⟨rfl,rfl⟩) rfl rfl rfl)))
   exact N_ (O0 (A2 r (by lia)) rfl rfl rfl)
 ·rw[decide_eq_false q1];exact Pd (Pd (O5 (OW rfl)))
noncomputable def judge(n k:Int)(r:List Tie):Bool:=decide (1<=k/\k<=6)&&(decide (1<=n/\n<=10)&&(r.all fun t=>decide (TOk n t))&&upB r)&&decide ((0:Int)∉nums k.toNat r)
noncomputable def JN(n k:Int)(r:List Tie):Dat:=.tup [.int n,.int k,aX r]
theorem Dw(h:(r.all fun t=>decide (TOk n t))=true):Ends n r:=fun t ht=>by have:=of_decide_eq_true (MY.mp h t ht);obtain⟨h1,h2,h3,h4⟩:=this;exact⟨h2,by lia,by lia,h4⟩
theorem A4(n k:Int)(r:List Tie)(hl:r.length<=60):bL [JN n k r]=some (.val (.bl (judge n k r))):=by
 apply O8;unfold bL JN
 (refine Dm.O6 ?_ rfl rfl;and_intros)
 refine OX (O_ (Pf (O7 (O4 (Ph (M_ rfl (Pp (v:=.val (.bl true)) (OY (O9 ?_)) rfl rfl)))))));refine O4 (OV (Pe (m_ (M_ rfl (N_ (PR ?_ rfl))))));refine OW (PJ (OY ?_) rfl rfl);refine Pk rfl (Pa ?_);refine OX (O_ (Pf (O7 (O4 (O3 (m_ (OV (M_ rfl (OW (OZ (v:=.int k) ?_ rfl rfl rfl))))))))));refine N_ (O0 (AZ k) (OY ?_) rfl rfl);unfold judge;by_cases q1:1<=k/\k<=6
 ·rw[decide_eq_true q1];refine O9 (O7 (O4 (O3 (m_ (OV (M_ rfl (OW (OZ (v:=.int n) ?_ rfl rfl rfl))))))));refine m_ (OV (M_ rfl (OW (OZ (v:=aX r) ?_ rfl rfl rfl))));refine N_ (O0 (A3 n r hl) (OY ?_) rfl rfl);cases q2:(decide (1<=n/\n<=10)&&(r.all fun t=>decide (TOk n t))&&upB r) with
  |false=>exact Pd (O5 (OW rfl))
  |true=>
   refine O9 ?_;rw[Mw,Mw,decide_eq_true_eq]at q2;obtain⟨⟨q3,q4⟩,q5⟩:=q2;obtain⟨N,rfl⟩:∃N:Nat,n=(N:Nat):=⟨n.toNat,by lia⟩
   obtain⟨K,rfl⟩:∃K:Nat,k=(K:Nat):=⟨k.toNat,by lia⟩
   obtain⟨ms,el,al⟩:=iV N K (by lia) (by lia) (by lia) r (Dw q4) (by lia);rw[al.uniq (cD K r)]at el;refine Pa (O5 (OV (OW (O3 (m_ (OV (M_ rfl (OW (OZ (v:=.int N) ?_ rfl rfl rfl)))))))));refine m_ (OV (M_ rfl (OW (OZ (v:=aX r) ?_ rfl rfl rfl))));refine m_ (OV (M_ rfl (OW (OZ (v:=.int K) ?_ rfl rfl rfl))));refine N_ (Py el ?_ rfl rfl rfl rfl);refine QC (xs:=nums K r) ?_ rfl rfl;refine Pn (congrArg (fun b=>RV.val (Dat.bl b)) ?_);rw[MU];simp
 ·rw[decide_eq_false q1];exact Pd (Pd (O5 (OW rfl)))
theorem gR(d:Dat)(h:mh isT d=some (.val (.bl false))):bL [d]=some (.val (.bl false)):=by
 apply O8;unfold bL
 (refine Dm.O6 ?_ rfl rfl;and_intros)
 refine OX (O_ (Pf (O7 (O4 (Ph (M_ rfl (Pp (v:=.val (.bl false)) (OY (Pd (Pd ?_))) rfl h)))))));exact O5 (OW rfl)
theorem rj(ds:List Dat)(h:ds.length≠3)(hl:ds.length<100):bL [.tup ds]=some (.val (.bl false)):=by
 apply O8;unfold bL
 (refine Dm.O6 ?_ rfl rfl;and_intros)
 refine OX (O_ (Pf (O7 (O4 (Ph (M_ rfl (Pp (v:=.val (.bl true)) (OY (O9 ?_)) rfl rfl)))))));refine O4 (OV (Pe (m_ (M_ rfl (N_ (PR ?_ rfl))))));refine OW (PJ (OY ?_) rfl rfl);rw[decide_eq_false (by lia)];exact Pd (O5 (OW rfl))
theorem lQ(a b c:Dat)(h:jZ [b]=some (.val (.bl false))):bL [.tup [a,b,c]]=some (.val (.bl false)):=by
 apply O8;unfold bL
 (refine Dm.O6 ?_ rfl rfl;and_intros)
 refine OX (O_ (Pf (O7 (O4 (Ph (M_ rfl (Pp (v:=.val (.bl true)) (OY (O9 ?_)) rfl rfl)))))));refine O4 (OV (Pe (m_ (M_ rfl (N_ (PR ?_ rfl))))));refine OW (PJ (OY ?_) rfl rfl);refine Pk rfl (Pa ?_);refine OX (O_ (Pf (O7 (O4 (O3 (m_ (OV (M_ rfl (OW (OZ (v:=b) ?_ rfl rfl rfl))))))))));refine N_ (O0 h (OY (Pd (Pd ?_))) rfl rfl);exact O5 (OW rfl)
theorem eu(a b c:Dat)(hb:jZ [b]=some (.val (.bl true)))(h:fP [a,c]=some (.val (.bl false))):bL [.tup [a,b,c]]=some (.val (.bl false)):=by
 apply O8;unfold bL
 (refine Dm.O6 ?_ rfl rfl;and_intros)
 refine OX (O_ (Pf (O7 (O4 (Ph (M_ rfl (Pp (v:=.val (.bl true)) (OY (O9 ?_)) rfl rfl)))))));refine O4 (OV (Pe (m_ (M_ rfl (N_ (PR ?_ rfl))))));refine OW (PJ (OY ?_) rfl rfl);refine Pk rfl (Pa ?_);refine OX (O_ (Pf (O7 (O4 (O3 (m_ (OV (M_ rfl (OW (OZ (v:=b) ?_ rfl rfl rfl))))))))));refine N_ (O0 hb (OY (O9 ?_)) rfl rfl);refine O7 (O4 (O3 (m_ (OV (M_ rfl (OW (OZ (v:=a) ?_ rfl rfl rfl)))))));refine m_ (OV (M_ rfl (OW (OZ (v:=c) ?_ rfl rfl rfl))));refine N_ (O0 h (OY (Pd ?_)) rfl rfl);exact O5 (OW rfl)
theorem fZ(a c:Dat)(h:qV [a]=some (.val (.bl false))):fP [a,c]=some (.val (.bl false)):=by
 apply O8;unfold fP
 (refine Dm.O6 ?_ rfl rfl;and_intros)
 refine OX (O_ (Pf (O7 (O4 (O3 (m_ (M_ rfl (N_ (O0 h (OY (Pd (Pd ?_))) rfl rfl)))))))));exact O5 (OW rfl)
theorem ng(n:Nat)(n1:1<=n)(n10:n<=10)(c:Dat)(h:mh isL c=some (.val (.bl false))):fP [.int n,c]=some (.val (.bl false)):=by
 apply O8;unfold fP
 (refine Dm.O6 ?_ rfl rfl;and_intros)
 refine OX (O_ (Pf (O7 (O4 (O3 (m_ (M_ rfl (N_ (O0 (fY n (by lia) (by lia)) (OY (O9 ?_)) rfl rfl)))))))));refine Pf (O7 (O4 (Ph (M_ rfl (Pp (v:=.val (.bl false)) (OY (Pd (Pd ?_))) rfl h)))));exact O5 (OW rfl)
theorem wX(n:Nat)(n1:1<=n)(n10:n<=10)(t:Dat)(h:qY [.int n,t]=some (.val (.bl false))):fP [.int n,.lst [t]]=some (.val (.bl false)):=by
 apply O8;unfold fP
 (refine Dm.O6 ?_ rfl rfl;and_intros)
 refine OX (O_ (Pf (O7 (O4 (O3 (m_ (M_ rfl (N_ (O0 (fY n (by lia) (by lia)) (OY (O9 ?_)) rfl rfl)))))))));refine Pf (O7 (O4 (Ph (M_ rfl (Pp (v:=.val (.bl true)) (OY (O9 ?_)) rfl rfl)))));refine O4 (OV (Pe (m_ (M_ rfl (N_ (Ql ?_ rfl))))));refine OW (PU (OY (Pk rfl ?_)) rfl rfl);refine Pa (OX (O_ (O7 (O4 (Pe (m_ ?_))))));refine Qa id [t] (fun _=>false) Dat.bl ?_ rfl rfl rfl (by decide) (by exact Mh rfl) fun u hu=>?_
 ·refine N_ (P5 (fun _=>false) (xs:=[t]) ?_ rfl);exact OY (Pd (O5 (OW rfl)))
 ·rw[M9.mp hu];exact O3 (m_ (M_ rfl (m_ (M_ rfl (N_ (O0 h (Pb ⟨rfl,rfl⟩) rfl rfl))))))
theorem yw(k1:1<=k)(h:t.a=t.b)(al:br k (t::r) ms):(0:Int)∈ms:=by
 cases ms with
 |nil=>cases al
 |cons m ms=>
  have h1:mX k r ms t m:=al.2;rcases h1 with⟨e,_⟩ | ⟨_,_,nc,_⟩
  ·rw[e];exact MA
  ·rw[h]at nc;exact absurd (Con.refl _) nc
theorem ir(d:Dat)(h:dW [d,.int 1,.int 6]=some (.val (.bl false))):jZ [d]=some (.val (.bl false)):=by
 apply O8;unfold jZ
 (refine Dm.O6 ?_ rfl rfl;and_intros)
 exact O5 (O3 (m_ (M_ rfl (m_ (OW (m_ (OW (N_ (O0 h rfl rfl rfl)))))))))
theorem iu(d:Dat)(h:dW [d,.int 1,.int 10]=some (.val (.bl false))):qV [d]=some (.val (.bl false)):=by
 apply O8;unfold qV
 (refine Dm.O6 ?_ rfl rfl;and_intros)
 exact O5 (O3 (m_ (M_ rfl (m_ (OW (m_ (OW (N_ (O0 h rfl rfl rfl)))))))))
theorem cO(d:Dat)(lo hi:Int)(h:Aw [d]=some (.val (.bl false))):dW [d,.int lo,.int hi]=some (.val (.bl false)):=by
 apply O8;unfold dW
 (refine Dm.O6 ?_ rfl rfl;and_intros)
 exact O5 (Pw (O3 (m_ (M_ rfl (N_ (O0 h (OY (O9 rfl)) rfl rfl))))))
theorem nh(n:Int)(t:Dat)(h:qX [.int n,t]=some (.val (.bl false))):qY [.int n,t]=some (.val (.bl false)):=by
 apply O8;unfold qY
 (refine Dm.O6 ?_ rfl rfl;and_intros)
 exact O5 (Pw (O3 (m_ (M_ rfl (m_ (M_ rfl (N_ (O0 h (OY (O9 rfl)) rfl rfl))))))))
noncomputable def yx(n k:Nat)(K:List Tie):List Dat:=
 [.non,.int 5,.str [51,32,50,32,110,111,110,101],.lst [.int n,.int k,aX K],.tup [.int n,.int k],.tup [.int n,.int k,aX K,.int 0],.tup [.int 0,.int k,.lst []],.tup [.int 11,.int k,.lst []],.tup [.bl true,.int 1,.lst []]] ++
 [.tup [.int n,.int 0,.lst []],.tup [.int n,.int 7,.lst []],.tup [.int n,.bl true,.lst []],.tup [.int n,.int k,.tup (K.map bD)],.tup [.int n,.int k,.non],.tup [.int n,.int k,.lst [.tup [.int 5,.int 0,.int n]]]] ++
 [.tup [.int n,.int k,.lst [.tup [.int 5,.int 0,.int 0]]],.tup [.int n,.int k,.lst [.lst [.int 5,.int 0,.int 0]]],.tup [.int n,.int k,.lst [.tup [.int 7,.int 0,.int 0],.tup [.int 5,.int 0,.int 0]]],.tup [.str [51],.int 2,.lst []],.tup [.int n,.str [50],.lst []]] ++
 [.tup [.int n,.int k,.dct [] []],.tup [.int n,.int k,.lst [.tup [.int 5,.int (-1),.int 0]]],.tup [.int n,.int k,.lst [.tup [.int (-1),.int 0,.int 0]]],.tup [.int n,.int k,.lst [.tup [.int (Z30+1),.int 0,.int 0]]],.dct [] [],.tup []]
noncomputable def vq(n:Nat):List Dat:=[.tup [.bl true,.int 0,.int ((n:Int)-1)],.tup [.int 5,.bl false,.int ((n:Int)-1)],.tup [.int 5,.int 0,.str [49]],.tup [.int 5,.int 0,.non],.tup [.str [53],.int 0,.int ((n:Int)-1)],.tup [.int 5,.tup [.int 0],.int ((n:Int)-1)]]
theorem Dy(n k:Nat)(n1:1<=n)(n10:n<=10)(k1:1<=k)(k6:k<=6)(K:List Tie):∀d∈yx n k K,bL [d]=some (.val (.bl false)):=by
 have ly:=cN k (by lia) (by lia);have l2:=cN 2 (by lia) (by lia);have l1:=cN 1 (by lia) (by lia);have nt:∀r:List Tie,r.length<=60->judge n k r=false->bL [.tup [.int n,.int k,aX r]]=some (.val (.bl false)):=fun r hl h=>by have:=A4 n k r hl;rw[h]at this;exact this
 have jt:∀r:List Tie,(r.all fun t=>decide (TOk n t))=false->judge n k r=false:=fun r h=>by unfold judge;rw[h];simp
 intro d hd;unfold yx at hd;simp only[List.cons_append,N4,Mv,M4,or_false]at hd;rcases hd with rfl | rfl | rfl | rfl | rfl | rfl | rfl | rfl | rfl | rfl | rfl | rfl | rfl | rfl | rfl | rfl | rfl | rfl | rfl | rfl | rfl | rfl | rfl | rfl | rfl | rfl
 ·exact gR _ rfl
 ·exact gR _ rfl
 ·exact gR _ rfl
 ·exact gR _ rfl
 ·exact rj [.int n,.int k] (by simp) (by simp)
 ·exact rj [.int n,.int k,aX K,.int 0] (by simp) (by simp)
 ·exact eu _ _ _ ly (fZ _ _ (iu _ (dF 0 1 10 (by decide))))
 ·exact eu _ _ _ ly (fZ _ _ (iu _ (dF 11 1 10 (by decide))))
 ·exact eu _ _ _ l1 (fZ _ _ (iu _ (cO _ _ _ rfl)))
 ·exact lQ _ _ _ (ir _ (dF 0 1 6 (by decide)))
 ·exact lQ _ _ _ (ir _ (dF 7 1 6 (by decide)))
 ·exact lQ _ _ _ (ir _ (cO _ _ _ rfl))
 ·exact eu _ _ _ ly (ng n n1 n10 _ rfl)
 ·exact eu _ _ _ ly (ng n n1 n10 _ rfl)
 ·exact nt [⟨5,0,n⟩] (by simp) (jt _ (by simp[TOk]))
 ·refine nt [⟨5,0,0⟩] (by decide) ?_;unfold judge;have:(0:Int)∈nums k [⟨5,0,0⟩]:=yw k1 rfl (cD k [⟨5,0,0⟩]);rw[MU];simp[this]
 ·exact eu _ _ _ ly (wX n n1 n10 _ (nh _ _ rfl))
 ·refine nt [⟨7,0,0⟩,⟨5,0,0⟩] (by decide) ?_;have:upB [⟨7,0,0⟩,⟨5,0,0⟩]=false:=by decide
  unfold judge;rw[this];simp
 ·exact eu _ _ _ l2 (fZ _ _ (iu _ (cO _ _ _ rfl)))
 ·exact lQ _ _ _ (ir _ (cO _ _ _ rfl))
 ·exact eu _ _ _ ly (ng n n1 n10 _ rfl)
 ·exact nt [⟨5,-1,0⟩] (by decide) (jt _ (by simp[TOk]))
 ·exact nt [⟨-1,0,0⟩] (by decide) (jt _ (by simp[TOk]))
 ·refine nt [⟨Z30+1,0,0⟩] (by decide) (jt _ ?_);rw[NR,decide_eq_false (p:=TOk n ⟨Z30+1,0,0⟩) fun h=>by have:=h.1.2;dsimp only at this;lia];rfl
 ·exact gR _ rfl
 ·exact rj [] (by decide) (by decide)
theorem Dz(n k:Nat)(n1:1<=n)(n10:n<=10)(k1:1<=k)(k6:k<=6):∀t∈vq n,bL [.tup [.int n,.int k,.lst [t]]]=some (.val (.bl false)):=by
 have ly:=cN k (by lia) (by lia);intro t ht;refine eu _ _ _ ly (wX n n1 n10 _ (nh _ _ ?_));unfold vq at ht;simp only[Mv,M4,or_false]at ht;have p0:=m9 n 0 (by decide) (by lia);have m5:=pZ 5 (by decide) (by decide);have go:∀(a b c:Dat) (x y z:Bool),(x&&y&&z)=false->vj [a]=some (.val (.bl x))->(x=true->qW [.int n,b]=some (.val (.bl y)))->(x=true->y=true->qW [.int n,c]=some (.val (.bl z)))->qX [.int n,.tup [a,b,c]]=some (.val (.bl false)):=fun a b c x y z h h1 h2 h3=>by
  apply O8;unfold qX
  (refine Dm.O6 ?_ rfl rfl;and_intros)
  refine OX (O_ (Pf (O7 (O4 (Ph (M_ rfl (Pp (v:=.val (.bl true)) (OY (O9 ?_)) rfl rfl)))))));refine O4 (OV (Pe (m_ (M_ rfl (N_ (PR ?_ rfl))))));refine OW (PJ (OY (Pk rfl ?_)) rfl rfl);refine Pa (O5 (Pw (O3 (m_ (OV (M_ rfl (OW (OZ (v:=a) ?_ rfl rfl rfl))))))));refine N_ (O0 h1 (OY ?_) rfl rfl);cases x with
  |false=>exact O9 rfl
  |true=>
   refine Pd (Pw (O3 (m_ (M_ rfl (m_ (OV (M_ rfl (OW (OZ (v:=b) ?_ rfl rfl rfl)))))))));refine N_ (O0 (h2 rfl) (OY ?_) rfl rfl);cases y with
   |false=>exact O9 rfl
   |true=>refine Pd (O3 (m_ (M_ rfl (m_ (OV (M_ rfl (OW (OZ (v:=c) ?_ rfl rfl rfl))))))));have hz:z=false:=h;subst hz;exact N_ (O0 (h3 rfl rfl) rfl rfl rfl)
 rcases ht with rfl | rfl | rfl | rfl | rfl | rfl
 ·exact go _ _ _ false false false rfl rfl (fun h=>by cases h) (fun h=>by cases h)
 ·exact go _ _ _ true false false rfl m5 (fun _=>rfl) (fun _ h=>by cases h)
 ·exact go _ _ _ true true false rfl m5 (fun _=>p0) (fun _ _=>rfl)
 ·exact go _ _ _ true true false rfl m5 (fun _=>p0) (fun _ _=>rfl)
 ·exact go _ _ _ false false false rfl rfl (fun h=>by cases h) (fun h=>by cases h)
 ·exact go _ _ _ true false false rfl m5 (fun _=>rfl) (fun _ h=>by cases h)
theorem G5(h:aJ (b+1) d)(n k:Nat)(n1:1<=n)(n10:n<=10)(k1:1<=k)(k6:k<=6)(K:List Tie)(lK:K.length<=60) :
  ∃(v d':Dat),tM [d,aK n k K]=some (.val v,d')/\bL [v]=some (.val (.bl false))/\aJ b d':=by
 suffices hh:WrM (tM [d,aK n k K]) fun v d'=>∃u,v=.val u/\bL [u]=some (.val (.bl false))/\aJ b d' by obtain⟨v,d',h1,u,rfl,h2⟩:=hh;exact⟨u,d',h1,h2⟩
 unfold tM;refine PF ?_ rfl rfl;and_intros;unfold aK;refine OX (Qn (M_ rfl (Pb ⟨_,_,rfl,rfl,?_⟩)));refine OX (Pc ⟨_,_,rfl,Po ?_ (by trivial)⟩ (by decide));refine OX (Pc ⟨_,_,rfl,Po ?_ (by trivial)⟩ (by decide));refine OX (Pc ⟨_,_,rfl,Po ?_ (by trivial)⟩ (by decide));refine OX (Pc ⟨_,_,rfl,Po ?_ (by trivial)⟩ (by decide));show Ws _ [_,_,_,_,_,.ow (.lst (yx n k K)),_] _ _ _ _;have n1':=Dy n k n1 n10 k1 k6 K;have hL:(yx n k K).length=26:=by unfold yx;simp
 generalize yx n k K=L at n1' hL ⊢
 refine OX (Px (Qp ⟨_,_,rfl,PL ⟨_,rfl,?_⟩⟩));refine PC (fun x:Dat=>x) _ _ (vq n) _ _ _ _ _ (fun p q ρ=>∃c6:Cell,ρ=[.ow d,.sh (.tup [.int n,.int k,aX K]),.sh (.int n),.sh (.int k),.sh (aX K),.ow (.lst (L++p.map fun t=>.tup [.int n,.int k,.lst [t]])),c6]) ⟨_,by rw[List.map_nil,MN]⟩ ?_ ?_
 ·rintro p i q ρ e ⟨c6,rfl⟩;refine Dm.cg rfl (by trivial) ?_;unfold AE;have lp:p.length<=6:=by
   have:=congrArg List.length e;rw[Mt,M3]at this;have h6:(vq n).length=6:=rfl
   lia
  refine Qm (Qh (m_ (M_ rfl (m_ (M_ rfl (m_ (Pz (m_ (M_ rfl (N_ (Pj ?_ rfl rfl (by exact Mh rfl)))))))))))) rfl;refine N_ (Pj ?_ rfl rfl (by exact Mh rfl));refine Pb (qT (ds:=L++p.map fun t=>.tup [.int n,.int k,.lst [t]]) ?_ rfl rfl ?_)
  ·exact⟨_,by rw[OC,<- Om];rfl⟩
  ·rw[Mt,Mg,hL];unfold SZ
   lia
 ·rintro ρ ⟨c6,rfl⟩;have all:∀d∈L++(vq n).map fun t=>.tup [.int n,.int k,.lst [t]],bL [d]=some (.val (.bl false)):=fun d hd=>by
   rcases Nt.mp hd with hd | hd
   ·exact n1' d hd
   ·obtain⟨t,ht,rfl⟩:=OP.mp hd;exact Dz n k n1 n10 k1 k6 t ht
  have hL2:(L++(vq n).map fun t=>Dat.tup [.int n,.int k,.lst [t]]).length=32:=by rw[Mt,Mg,hL];rfl
  generalize (L++(vq n).map fun t=>Dat.tup [.int n,.int k,.lst [t]])=M at all hL2 ⊢
  refine O5 (OV (Pr rfl (Pu (Pe (m_ (Pr rfl (N_ (Ql ?_ rfl))))) rfl)));refine bC.mk (cZ h (fun x d1 ρ3 e x0 x1 hp=>?_) rfl (by lia) (tQ (by lia)));subst e;have hi:x.toNat<M.length:=by lia
  have hd:gIx (.lst M) (.int x)=some (.val M[x.toNat]):=by unfold gIx;dsimp only;have:=Dm.ig id M x x0 (by lia);rw[OE]at this;rw[this];rfl
  refine OZ ?_ rfl rfl hd;exact Pn ⟨_,rfl,_,rfl,all _ (Nn hi),hp⟩
theorem DB(h:aJ (b+1) d):∃(m:Int) (d':Dat),tG [d]=some (.val (.int m),d')/\(0<=m/\m<=40)/\aJ b d':=by
 suffices hh:WrM (tG [d]) fun v d'=>∃m:Int,v=.val (.int m)/\(0<=m/\m<=40)/\aJ b d' by obtain⟨v,d',h1,m,rfl,h2⟩:=hh;exact⟨m,d',h1,h2⟩
 unfold tG;refine PF ?_ rfl rfl;and_intros;refine O5 (OV ⟨_,_,rfl,Pu (OW (bC.mk (cZ h (fun x d1 ρ3 e x0 x1 hp=>?_) rfl (by decide) (by decide)))) rfl⟩);subst e;have:x=0\/x=1\/x=2\/x=3\/x=4\/x=5\/x=6\/x=7:=by lia
 rcases this with rfl | rfl | rfl | rfl | rfl | rfl | rfl | rfl<;>exact OZ (Pn ⟨_,rfl,_,rfl,by decide,hp⟩) rfl rfl rfl
theorem rq(h:aJ (b+407) d):∃(n k:Nat) (r:List Tie) (d':Dat),tL [d]=some (.val (aK n k (NN k r)),d')/\((1<=n/\n<=10)/\(1<=k/\k<=6)/\Rcd n r/\r.length<=40)/\aJ b d':=by
 suffices hh:WrM (tL [d]) fun v d'=>∃(n k:Nat) (r:List Tie),v=.val (aK n k (NN k r))/\((1<=n/\n<=10)/\(1<=k/\k<=6)/\Rcd n r/\r.length<=40)/\aJ b d' by obtain⟨v,d',h1,n,k,r,rfl,h2⟩:=hh;exact⟨n,k,r,d',h1,h2⟩
 obtain⟨n,d1,e1,⟨n1,n10⟩,p1⟩:=yo (b:=b+405) h;obtain⟨k,d2,e2,⟨k1,k6⟩,p2⟩:=AO (b:=b+403) p1;obtain⟨m,d3,e3,⟨m0,m40⟩,p3⟩:=DB (b:=b+402) p2;obtain⟨r,d4,e4,⟨hr,hl,hm⟩,p4⟩:=AQ (b:=b) p3 n n1 n10 m m0 m40;have rc:Rcd n r:=Rcd.of hr (by lia) fun t ht=>by have:=hm t ht;unfold Z30;unfold Z27 at this;lia
 have eL:=pY n k n10 k6 r _ rc.ends (by lia) (cD k r);rw[AV (cD k r)]at eL;unfold tL;refine PF ?_ rfl rfl;and_intros;refine OX (Pc (PK (N_ (PD e1 (Pg ?_ (by trivial)) rfl rfl (by trivial))) rfl) (by decide));refine OX (Pc (PK (N_ (PD e2 (Pg ?_ (by trivial)) rfl rfl (by trivial))) rfl) (by decide));refine O5 (O3 (m_ (M_ rfl (m_ (PK (m_ (M_ rfl (m_ (PK (N_ (PD e3 ?_ rfl rfl (by trivial))) rfl)))) rfl)))));refine N_ (PD e4 ?_ rfl rfl (by trivial));refine m_ (M_ rfl (N_ (Py eL ?_ rfl rfl rfl (by trivial))));exact Pn ⟨_,rfl,n,k,r,rfl,⟨⟨n1,n10⟩,⟨k1,k6⟩,rc,hl⟩,p4⟩
theorem G6{n k:Nat}(h:Rcd n r):Net n k (NN k r):=⟨h.sub (AW k r),_,tS (cD k r),by simp⟩
theorem gS(n k:Nat)(n1:1<=n)(n10:n<=10)(k1:1<=k)(k6:k<=6)(N:List Tie)(h:Net n k N):iE [aK n k N]=some (.val .non):=by
 apply O8;unfold iE
 (refine Dm.O6 ?_ rfl rfl;and_intros)
 exact O_ (O7 (O4 (O3 (m_ (M_ rfl (N_ (O0 (p5 n k n1 n10 k1 k6 N h) (OY (O9 (Pa rfl))) rfl rfl)))))))
noncomputable def rz(n k:Nat)(r:List Tie):Dp:=.t [.s (.int (n:Nat)),.s (.int (k:Nat)),.l ((r.map bD).map .s)]
theorem ni(n k:Nat)(r:List Tie):(rz n k r).dat=aK n k r:=by unfold rz aK aX;simp only[Dp.dat,Dp.sP,Dp.GD]
theorem DC(n k:Nat)(hn:n<=10)(hk1:1<=k)(hk6:k<=6)(r:List Tie)(ms:List Int)(hr:Ends n r)(hl:r.length<=1000)(ha:br k r ms):fQ [.int (n:Nat),aX r,.int (k:Nat)]=some (rz n k (keep r ms)):=by
 obtain⟨ms',el,al⟩:=iV n k hn hk1 hk6 r hr hl;rw[al.uniq ha]at el
 suffices h:∃p,fQ [.int (n:Nat),aX r,.int (k:Nat)]=some p/\p=rz n k (keep r ms) by obtain⟨p,h,rfl⟩:=h;exact h
 unfold fQ;refine Qe ?_ rfl rfl;and_intros;refine P0 (Pc (O3 (m_ (M_ rfl (m_ (M_ rfl (m_ (M_ rfl (N_ (Py el ?_ rfl rfl rfl rfl)))))))) ) (by decide));refine Po ?_ (by trivial);refine PV (QH (Wpa.cons (Qd (M_ rfl ⟨rfl,Wpa.cons (Qd (M_ rfl ⟨rfl,Wpa.cons (QA (ds:=(keep r ms).map bD) (pX (ρ1:=[.sh (.int (n:Nat)),.sh (aX r),.sh (.int (k:Nat)),.sh (.lst (ms.map Dat.int))]) r ms (k:=4) ⟨rfl,Wpa.nil ⟨Mh rfl,rfl⟩⟩ ?_ rfl (by decide) (MQ hl (by decide))))⟩))⟩))));rfl
noncomputable def vt(r:List Tie)(t:Int):List Tie:=r.filter fun x=>decide (t<=x.m)
theorem kL{f:List Dat->Option RV}{as:List FE}(h1:eAs as ρ=some (xs,ρ1))(h2:pks ρ1 xs=some ds)(h:f ds=none):eF f as ρ=none:=by unfold eF;rw[h1];dsimp only;rw[h2];dsimp only;rw[h]
theorem rA{e:FE}{ρ:Env}(h:e ρ=none):sE e ρ=none:=by unfold sE;rw[h]
theorem nj{a b:FS}{ρ:Env}(h:a ρ=none):aG a b ρ=none:=by unfold aG;rw[h]
theorem rB{t:FT}{a b:FS}(ht:t ρ=some (c,ρ1))(h:(if c then a ρ1 else b ρ1)=none):sIf t a b ρ=none:=by unfold sIf;rw[ht];cases c<;>exact h
theorem JO{f g:FS}{ρ:Env}(h:f ρ=none){R:RV->Env->Prop}{B C:Env->Prop}(k:Ws g ρ N R B C):Ws (sUn f g) ρ N R B C:=by obtain⟨o,e,q⟩:=k;exact⟨o,by unfold sUn;rw[h];exact e,q⟩
theorem A5{ρ:Env}(e:R ρ=none):gM R C ie h ρ=none:=by unfold gM;rw[e]
theorem A6{Rr:Env->Option Env}(e:Rr ρ=some ρ1)(h0:ie≠0){R:RV->Env->Prop}{B D:Env->Prop}(k:Ws h (ρ1.set ie (.sh (.exc C))) (fun ρ'=>N (ρ'.set ie .un)) (fun r ρ'=>R r (ρ'.set ie .un)) (fun _=>False) (fun _=>False)):Ws (gM Rr C ie h) ρ N R B D:=by
 obtain⟨o,eo,q⟩:=k;cases o with
 |nx ρ'=>exact⟨.nx (ρ'.set ie .un),by unfold gM;rw[e];dsimp only;rw[if_neg h0,eo],q⟩
 |ret r ρ'=>exact⟨.ret r (ρ'.set ie .un),by unfold gM;rw[e];dsimp only;rw[if_neg h0,eo],q⟩
 |bk ρ'=>exact q.elim
 |ct ρ'=>exact q.elim
theorem dG(h1:eAs fs ρ=some (xs,ρ1))(h2:pks ρ1 xs=some ds)(h:bad ds=true):cu bad fs ρ=some ρ1:=by unfold cu;rw[h1];dsimp only;rw[h2];dsimp only;rw[if_pos h]
theorem j7{n m:Nat}{body:FS}(h:body (ds.map Cell.sh++gV m .un)=none):fn n m body ds=none:=by
 unfold fn;split
 ·rw[h]
 ·rfl
theorem iw{n m:Nat}{ρ:Env}(hl:ds.length=n)(h:R (ds.map Cell.sh++gV m .un)=some ρ):fnX n m R ds=true:=by unfold fnX;rw[h,decide_eq_true hl];rfl
theorem A7(h:bL [d]=some (.val (.bl c))):(dh (tV (eF bL [(eV 0)]))) [.sh d]=some (!c,[.sh d]):=
 Qk (O7 (O4 (O3 (m_ (M_ rfl (N_ (O0 h (OY ⟨rfl,rfl⟩) rfl rfl)))))))
theorem iF(h:bL [d]=some (.val (.bl false))):iE [d]=none:=j7 (rB (A7 h) rfl)
theorem nk(h:bL [d]=some (.val (.bl false))):aZ [d]=true:=iw (ρ:=[.sh d]) rfl (by show rIf _ _ _ [.sh d]=_;unfold rIf;rw[A7 h];rfl)
theorem vv{n m:Nat}(h:R (ds.map Cell.sh++gV m .un)=none):fnX n m R ds=false:=by unfold fnX;rw[h];simp
theorem nu(h1:eAs fs ρ=some (xs,ρ1))(h2:pks ρ1 xs=some ds)(h:bad ds=false):cu bad fs ρ=none:=by unfold cu;rw[h1];dsimp only;rw[h2];dsimp only;rw[h];rfl
end
section
variable{d:Dat}(h:bL [d]=some (.val (.bl false)))
include h
theorem A8{j:Dat}:j0 [d,j]=none:=j7 (nj (rA (kL rfl rfl (iF h))))
theorem JP{j:Dat}:aU [d,j]=true:=iw rfl (dG rfl rfl (nk h))
end
section
variable{n k:Nat}(n1:1<=n)(n10:n<=10)(k1:1<=k)(k6:k<=6){N:List Tie}(hN:Net n k N)
include n1 n10 k1 k6 hN
theorem LM:aZ [aK n k N]=false:=vv (by show rIf _ _ _ [.sh (aK n k N)]=none;unfold rIf;rw[A7 (p5 n k n1 n10 k1 k6 N hN)];rfl)
theorem LN{j:Dat}:aU [aK n k N,j]=false:=vv (nu rfl rfl (LM n1 n10 k1 k6 hN))
theorem JQ{c:List Cell}:sE (eF iE [(eV 0)]) (.sh (aK n k N)::c)=some (.nx (.sh (aK n k N)::c)):=by have e:eF iE [(eV 0)] (.sh (aK n k N)::c)=some (.val .non,.sh (aK n k N)::c):=QW (O3 (m_ (M_ rfl (N_ (O0 (gS n k n1 n10 k1 k6 N hN) ⟨rfl,rfl⟩ rfl rfl)))));unfold sE;rw[e]
omit n1 n10 k1 k6 hN in
theorem JR{j:Dat}{c:Bool}(h:dW [j,.int 1,.int k]=some (.val (.bl c))):(dh (tV (eF dW [(eV 1),(eC (.int 1)),(e2 gIx (eV 0) (eC (.int 1)))]))) [.sh (aK n k N),.sh j]=some (!c,[.sh (aK n k N),.sh j]):=by refine Qk (O7 (O4 (O3 (m_ (M_ rfl (m_ (OW (m_ (OV (M_ rfl (OW (OZ (v:=.int k) ?_ rfl rfl rfl))))))))))));exact N_ (O0 h (OY ⟨rfl,rfl⟩) rfl rfl)
section
variable{j:Dat}(h:dW [j,.int 1,.int k]=some (.val (.bl false)))
include h
theorem A9:j0 [aK n k N,j]=none:=j7 (by show aG _ _ [.sh (aK n k N),.sh j]=none;unfold aG;rw[JQ n1 n10 k1 k6 hN];exact rB (JR h) rfl)
theorem JS:aY [aK n k N,j]=true:=iw (ρ:=[.sh (aK n k N),.sh j]) rfl (by show yg _ _ [.sh (aK n k N),.sh j]=_;unfold yg;rw[JQ n1 n10 k1 k6 hN];show rIf _ _ _ [.sh (aK n k N),.sh j]=_;unfold rIf;rw[JR h];rfl)
end
end
section
variable{R S:Env->Option Env}{N:List Tie}{P:Dp->Prop}{n k j:Nat}{x y C:Nat}{ρ:Env}{f g:FSP}{i:Bool}{t:FT}
theorem yz(r:List Tie)(hl:r.length<=1000)(t:Int):gP [aX r,.int t]=some (.l (((vt r t).map bD).map .s)):=by
 suffices h:∃p,gP [aX r,.int t]=some p/\p=.l (((vt r t).map bD).map .s) by obtain⟨p,h,rfl⟩:=h;exact h
 unfold gP;refine Qe ?_ rfl rfl;and_intros;refine PV (QA (ds:=(vt r t).map bD) ?_);refine QM bD r (fun x=>decide (t<=x.m)) id bD (d:=aX r) ?_ rfl rfl rfl (by decide) (by unfold SZ;lia) (fun u _=>?_) fun u _ _=>?_
 ·rw[OE];exact⟨rfl,rfl⟩
 ·exact O4 (OV (OV (M_ rfl (OW (OZ (M_ rfl (Qj (OY ⟨rfl,rfl⟩) rfl rfl)) rfl rfl rfl)))))
 ·exact M_ rfl (Pb ⟨rfl,rfl⟩)
theorem DG{n k:Nat}(n1:1<=n)(n10:n<=10)(k1:1<=k)(k6:k<=6)(h:Net n k N)(t:Int):cj [aK n k N,.int t]=some (rz n k (vt N t)):=by
 have lN:=h.rc.len
 suffices h:∃p,cj [aK n k N,.int t]=some p/\p=rz n k (vt N t) by obtain⟨p,h,rfl⟩:=h;exact h
 unfold cj;refine Qe ?_ rfl rfl;and_intros;refine P0 (Qu (O3 (m_ (M_ rfl (N_ (O0 (gS n k n1 n10 k1 k6 N h) ?_ rfl rfl))))));refine PV (QH (Wpa.cons (Qd (OV (M_ rfl (OW (OZ (v:=.int (n:Nat)) ⟨rfl,?_⟩ rfl rfl rfl)))))));refine Wpa.cons (Qd (OV (M_ rfl (OW (OZ (v:=.int (k:Nat)) ⟨rfl,?_⟩ rfl rfl rfl)))));refine Wpa.cons (P1 (m_ (OV (M_ rfl (OW (OZ (v:=aX N) ?_ rfl rfl rfl))))));exact m_ (M_ rfl (N_ ⟨_,_,_,yz N (by lia) t,Wpa.nil ⟨Mh rfl,rfl⟩,rfl⟩))
theorem JT(n1:1<=n)(n10:n<=10)(k1:1<=k)(k6:k<=6)(j1:1<=j)(jk:j<=k)(h:Net n k N):j0 [aK n k N,.int (j:Nat)]=some (.val .non):=by
 apply O8;unfold j0
 (refine Dm.O6 ?_ rfl rfl;and_intros)
 refine OX (Qu (O3 (m_ (M_ rfl (N_ (O0 (gS n k n1 n10 k1 k6 N h) ?_ rfl rfl))))));refine O_ (O7 (O4 (O3 (m_ (M_ rfl (m_ (OW (m_ (OV (M_ rfl (OW (OZ (v:=.int (k:Nat)) ?_ rfl rfl rfl))))))))))));exact N_ (O0 (dB j 1 k (by lia) (by lia)) (OY (O9 (Pa rfl))) rfl rfl)
theorem DH(n1:1<=n)(n10:n<=10)(k1:1<=k)(k6:k<=6)(j1:1<=j)(jk:j<=k)(h:Net n k N):bI [aK n k N,.int (j:Nat)]=some (rz n j (NN j N)):=by
 have lN:=h.rc.len;have hq:=DC n j n10 j1 (by lia) N (nums j N) h.rc.ends (by lia) (cD j N);rw[AV (cD j N)]at hq
 suffices h:∃p,bI [aK n k N,.int (j:Nat)]=some p/\p=rz n j (NN j N) by obtain⟨p,h,rfl⟩:=h;exact h
 unfold bI;refine Qe ?_ rfl rfl;and_intros;refine P0 (Qu (O3 (m_ (M_ rfl (m_ (M_ rfl (N_ (O0 (JT n1 n10 k1 k6 j1 jk h) ?_ rfl rfl))))))));refine PV (P1 (m_ (OV (M_ rfl (OW (OZ (v:=.int (n:Nat)) ?_ rfl rfl rfl))))));refine m_ (OV (M_ rfl (OW (OZ (v:=aX N) ?_ rfl rfl rfl))));exact m_ (M_ rfl (N_ ⟨_,_,_,hq,rfl,rfl⟩))
theorem gT{cs:List Nat}{bs:List Bool}{C:Nat}{b:Bool}{o:Option Dat}{K:RV->Prop}(k:K (.val (.bl b)))(ho:o=some (.exc C))(h:kI cs bs C=some b):Wg1 (d7 cs bs) o K:=⟨_,_,ho,by show (kI cs bs C).bind vB=_;rw[h];rfl,k⟩
theorem LO{f g:FS}{N:Env->Prop}{R:RV->Env->Prop}{B C:Env->Prop}(k:Ws f ρ N R B C):Ws (sUn f g) ρ N R B C:=by obtain⟨o,e,q⟩:=k;exact⟨o,by unfold sUn;rw[e],q⟩
theorem QV(h:Wq f ρ P):Wq (qUn f g) ρ P:=by obtain⟨p,e,q⟩:=h;exact⟨p,by unfold qUn;rw[e],q⟩
theorem QT(h:f ρ=none)(k:Wq g ρ P):Wq (qUn f g) ρ P:=by obtain⟨p,e,q⟩:=k;exact⟨p,by unfold qUn;rw[h];exact e,q⟩
def Is(x y C:Nat)(i:Bool):Prop:=∀a b:Bool,kI [x,y] [a,b] C=some (if i then b else a)
theorem is0(x y:Nat):Is x y x false:=fun a b=>by unfold kI;rw[if_pos rfl];rfl
theorem is1{x y:Nat}(h:y≠x):Is x y y true:=fun a b=>by unfold kI;rw[if_neg h];unfold kI;rw[if_pos rfl];rfl
noncomputable def ans(i:Bool):List Dat:=[.int (if i then 1 else 0)]
theorem A_(h:Is x y C i):j3 x y [.exc C]=some (.new (.lst (ans i))):=by
 apply O8;unfold j3
 (refine Dm.O6 ?_ rfl rfl;and_intros)
 refine OX (Pc (Pz (m_ (Ph (M_ rfl (gT ?_ rfl (h _ _)))))) (by decide));refine m_ (Ph (M_ rfl (gT ?_ rfl (h _ _))));refine m_ (Ph (M_ rfl (gT ?_ rfl (h _ _))));refine m_ (Ph (M_ rfl (gT ?_ rfl (h _ _))));refine N_ (Pj (Po ?_ (by trivial)) rfl rfl (by exact Mh rfl));refine OX (Pc (OV (Pr rfl (Pz (m_ (Ph (M_ rfl (gT ?_ rfl (h _ _)))))))) (by decide));refine m_ (Ph (M_ rfl (gT ?_ rfl (h _ _))));refine N_ (Pj ?_ rfl rfl (by exact Mh rfl));refine⟨_,_,.new _,rfl,rfl,rfl,Po ?_ (by trivial)⟩;refine OX (O_ (Pf (O4 (Ph (M_ rfl (gT (b:=false) (OY (O9 ?_)) rfl (by rw[h];cases i<;>rfl)))))));refine O7 (O4 (Ph (M_ rfl (gT (b:=true) (OY (O9 (Pa ?_))) rfl (by rw[h];cases i<;>rfl)))));cases i
 ·exact O5 ⟨_,_,rfl,Qv rfl⟩
 ·exact O5 ⟨_,_,rfl,Qv rfl⟩
noncomputable abbrev qA:Env->Option Env:=(rIf (tTr (eV 2)) (cu bx [(eV 0),(eV 1)]) (cu bw [(eV 0),(eV 1)]))
noncomputable abbrev hdl(x y:Nat):FS:=(sA 3 (eF (fH (j3 x y)) [(eV 4)]))
noncomputable abbrev E5(d v:Dat)(f:Bool):Env:=[.sh d,.sh v,.sh (.bl f),.sh .non,.un]
theorem Ba(h:Is x y C i)(d v:Dat)(f:Bool){N:Env->Prop}{R:RV->Env->Prop}{B D:Env->Prop}(k:N [.sh d,.sh v,.sh (.bl f),.ow (.lst (ans i)),.sh (.exc C)]) :
  Ws (hdl x y) ((E5 d v f).set 4 (.sh (.exc C))) N R B D:=by
 show Ws _ [_,_,_,_,_] _ _ _ _;exact Pc (O3 (m_ (M_ rfl (N_ (Py (v:=.new _) (show fH (j3 x y) [.exc C]=_ from A_ h) (Po k (by trivial)) rfl rfl rfl rfl))))) (by decide)
theorem test_t(d v:Dat)(f:Bool):tTr (eV 2) (E5 d v f)=some (f,E5 d v f):=rfl
theorem Bb{ρ ρ1:Env}(h:t ρ=some (true,ρ1)):rIf t R S ρ=R ρ1:=by unfold rIf;rw[h]
theorem JU{ρ ρ1:Env}(h:t ρ=some (false,ρ1)):rIf t R S ρ=S ρ1:=by unfold rIf;rw[h]
end
section
variable{d:Dat}(h:bL [d]=some (.val (.bl false)))
section
variable{j:Dat}
include h
theorem Bc:wN [d,j]=none:=j7 (nj (rA (kL rfl rfl (A8 h))))
theorem Bd:wM [d,j]=none:=j7 (nj (rA (kL rfl rfl (iF h))))
theorem JV:bx [d,j]=true:=iw rfl (dG rfl rfl (JP h))
theorem JX:bw [d,j]=true:=iw rfl (dG rfl rfl (nk h))
theorem G7(v:Dat)(f:Bool):qA (E5 d v f)=some (E5 d v f):=by
 cases f
 ·exact(JU (test_t d v false)).trans (dG rfl rfl (JX h))
 ·exact(Bb (test_t d v true)).trans (dG rfl rfl (JV h))
end
end
theorem Be{i:Nat}{e:FE}{ρ:Env}(hi:i≠0)(h:e ρ=none):sA i e ρ=none:=by unfold sA;rw[if_neg hi,h]
theorem nv(x y:Nat){d:Dat}(h:bL [d]=some (.val (.bl false)))(v:Dat)(f:Bool):pV x y [d,v,.bl f]=some (.new (.lst [.int 0])):=by
 apply O8;unfold pV
 (refine Dm.O6 ?_ rfl rfl;and_intros)
 refine OX (Pc (OW (Pg ?_ (by trivial))) (by decide));refine OX (JO ?_ (LO (A6 (G7 h v f) (by decide) (Ba (is0 x y) d v f ?_))))
 ·refine rB (test_t d v f) ?_;cases f
  ·exact Be (i:=3) (e:=eF wM [eV 0,eV 1]) (by decide) (kL (ds:=[d,v]) rfl rfl (Bd h))
  ·exact Be (i:=3) (e:=eF wN [eV 0,eV 1]) (by decide) (kL (ds:=[d,v]) rfl rfl (Bc h))
 ·exact O5 (Pr rfl (PO rfl rfl))
theorem wY(x y:Nat){d v:Dat}{f:Bool}{p:Dp}(h:(if f then bI [d,v] else cj [d,v])=some p):aW x y [d,v,.bl f]=some p:=by
 suffices hh:∃q,aW x y [d,v,.bl f]=some q/\q=p by obtain⟨p,hh,rfl⟩:=hh;exact hh
 unfold aW;refine Qe ?_ rfl rfl;and_intros;refine P0 (Pc (OW (Pg ?_ (by trivial))) (by decide));refine QV (PV (QS ⟨_,_,test_t d v f,?_⟩));cases f
 ·exact O9 (P1 (m_ (M_ rfl (m_ (M_ rfl (N_ ⟨_,_,_,h,rfl,rfl⟩))))))
 ·exact Pd (P1 (m_ (M_ rfl (m_ (M_ rfl (N_ ⟨_,_,_,h,rfl,rfl⟩))))))
section
variable{n k:Nat}(n1:1<=n)(n10:n<=10)(k1:1<=k)(k6:k<=6){N:List Tie}(hN:Net n k N){v:Dat}(h:dW [v,.int 1,.int k]=some (.val (.bl false)))
include n1 n10 k1 k6 hN h
theorem Bf:bI [aK n k N,v]=none:=by have e:eF j0 [eV 0,eV 1] [.sh (aK n k N),.sh v]=none:=kL rfl rfl (A9 n1 n10 k1 k6 hN h);unfold bI fnP;rw[if_pos (show [aK n k N,v].length=2 from rfl)];show lE _ _ [.sh (aK n k N),.sh v]=none;unfold lE;rw[rA e]
theorem JY:bB [aK n k N,v]=true:=iw rfl (ρ:=[.sh (aK n k N),.sh v]) (by show rOr _ _ [.sh (aK n k N),.sh v]=_;unfold rOr;rw[dG (ds:=[aK n k N,v]) rfl rfl (JS n1 n10 k1 k6 hN h)])
theorem yC(x y:Nat)(ne:y≠x):aW x y [aK n k N,v,.bl true]=some (.l [.s (.int 1)]):=by
 suffices hh:∃q,aW x y [aK n k N,v,.bl true]=some q/\q=.l [.s (.int 1)] by obtain⟨p,hh,rfl⟩:=hh;exact hh
 unfold aW;refine Qe ?_ rfl rfl;and_intros;refine P0 (Pc (OW (Pg ?_ (by trivial))) (by decide));refine QT ?_ (P0 (JO (A5 ?_) (A6 (ρ1:=E5 (aK n k N) v true) ?_ (by decide) (Ba (is1 ne) _ v true ?_))))
 ·show (match pIf (tTr (eV 2)) _ _ (E5 (aK n k N) v true) with | none=>none | some (p,_)=>some p)=none;unfold pIf;rw[test_t];dsimp only;unfold iD;rw[show eAs [eV 0,eV 1] (E5 (aK n k N) v true)=some ([.val (aK n k N),.val v],E5 (aK n k N) v true) from rfl];dsimp only;rw[show tks (E5 (aK n k N) v true) [.val (aK n k N),.val v]=some ([aK n k N,v],E5 (aK n k N) v true) from rfl];dsimp only;rw[Bf n1 n10 k1 k6 hN h]
 ·exact(Bb (test_t _ v true)).trans (nu rfl rfl (vv (nu rfl rfl (LN n1 n10 k1 k6 hN))))
 ·exact(Bb (test_t _ v true)).trans (dG rfl rfl (JY n1 n10 k1 k6 hN h))
 ·exact PV (QF (Pr rfl ⟨rfl,rfl,rfl⟩))
end
theorem QY{j:Nat}{t:FT}{z:Int}{gs:FS}{ρ ρ':Env}{p:Dp}{c:Bool}{N:Env->Prop}{R:RV->Env->Prop}{B C:Env->Prop}(h:Wt t ρ' fun c' _=>c'=c)(e:see j ρ p=ρ')(k1:c=true->Wm (ye z gs) ρ p N R B C)(k2:c=false->Ws gs ρ N R B C):Wm (iR j t z gs) ρ p N R B C:=by
 obtain⟨c',ρ1,h1,rfl⟩:=h;cases c' with
 |true=>obtain⟨o,h3,h4⟩:=k1 rfl;exact⟨o,by unfold iR;rw[e,h1];exact h3,h4⟩
 |false=>obtain⟨o,h3,h4⟩:=k2 rfl;exact⟨o,by unfold iR;rw[e,h1];exact h3,h4⟩
theorem vz(n k:Nat)(r:List Tie):eqD (aK n k r) (aK n k r)=true:=by unfold aK;show l_ _ _=true;simp[l_,eqD];exact G1 r
theorem vA(n k:Nat)(r:List Tie):okD 8 (aK n k r)=true:=by show ([_,_,_]:List Dat).all (okD 7)=true;simp only[NR,List.all_nil,Bool.and_true];show (true&&(true&&((r.map bD).all (okD 6))))=true;rw[Ou];exact MY.mpr fun t _=>rfl
def Fits(p:Dp):Prop:=(okD 8 p.dat=true/\eqD p.dat p.dat=true)/\((∃a b ys,p=.t [a,b,.l ys])\/∃ys,p=.l ys)
theorem tT(n k:Nat)(r:List Tie):Fits (rz n k r):=⟨by rw[ni];exact⟨vA n k r,vz n k r⟩,.inl ⟨_,_,_,rfl⟩⟩
theorem Bg:Fits (.l [.s (.int 1)]):=⟨⟨rfl,rfl⟩,.inr ⟨_,rfl⟩⟩
theorem ny(x y:Nat){n k:Nat}{N:List Tie}(lN:N.length<=1000){v:Dat}{f:Bool}{p:Dp}(hp:aW x y [aK n k N,v,.bl f]=some p)(hf:Fits p):j4 x y [aK n k N,v,.bl f,p.dat]=some (.val (.bl true)):=by
 obtain⟨⟨ho,he⟩,hq⟩:=hf;apply O8;unfold j4
 (refine Dm.O6 ?_ rfl rfl;and_intros)
 refine OX (Pc (Qh (m_ (OV (M_ rfl (OW (OZ (v:=.int (n:Nat)) ?_ rfl rfl rfl)))))) (by decide));refine m_ (OV (M_ rfl (OW (OZ (v:=.int (k:Nat)) ?_ rfl rfl rfl))));refine m_ (Pe (m_ (OV (M_ rfl (OW (OZ (v:=aX N) ?_ rfl rfl rfl))))));refine N_ ⟨_,.new (aX N),rfl,rfl,?_⟩;refine N_ (Pj (Pg ?_ (by trivial)) rfl rfl (by exact Mh rfl));refine OX (Px (P4 (OW (bC.mk ⟨?_,by decide,by decide⟩))));refine PC (fun i:Nat=>Dat.int (0+(i:Nat))) _ _ (Ml 2) _ _ _ _ _ (fun _ _ ρ=>∃c5:Cell,ρ=[.sh (aK n k N),.sh v,.sh (.bl f),.sh p.dat,.sh (aK n k N),c5,.un]) ⟨_,rfl⟩ ?_ ?_
 ·rintro l i q ρ e ⟨c5,rfl⟩;refine Dm.cg rfl (by trivial) ?_;unfold AF;refine Q3 (m_ (M_ rfl (m_ (M_ rfl (m_ (M_ rfl (N_ (GY.mk hp ?_ rfl (by trivial))))))))) (by decide);refine QZ (ρ':=[.sh (aK n k N),.sh v,.sh (.bl f),.sh p.dat,.sh (aK n k N),.sh (.int (0+(i:Nat))),.sh p.dat]) ?_ ?_ rfl
  ·refine Pf (O4 (OV (M_ rfl (M_ rfl (P9 ho he (OY (O9 ?_)) rfl rfl)))));exact O4 (OV (M_ rfl (M_ rfl (P9 (vA n k N) (vz n k N) (OY rfl) rfl rfl))))
  ·refine QY (c:=isT p.dat) (ρ':=[.sh (aK n k N),.sh v,.sh (.bl f),.sh p.dat,.sh (aK n k N),.sh (.int (0+(i:Nat))),.sh p.dat]) (O4 (Ph (M_ rfl (Pp (v:=.val (.bl (isT p.dat))) (OY rfl) rfl ?_)))) rfl (fun hT=>?_) fun _=>Pa ⟨_,rfl⟩
   ·rcases hq with⟨a,b,ys,rfl⟩ | ⟨ys,rfl⟩<;>rfl
   ·rcases hq with⟨a,b,ys,rfl⟩ | ⟨ys,rfl⟩
    ·exact QO (m:=2) (Pa ⟨_,rfl⟩) rfl rfl
    ·cases hT
 ·rintro ρ ⟨c5,rfl⟩;exact O5 (OV (M_ rfl (M_ rfl (QX (vA n k N) (vz n k N) rfl rfl rfl))))
theorem vC{b:Nat}{d:Dat}(h:aJ (b+2) d)(r:List Tie)(hl:r.length<=60):∃(ms:List Int) (d':Dat),tO [d,aX r]=some (.new (.lst (ms.map Dat.int)),d')/\aJ b d':=by
 suffices hh:WrM (tO [d,aX r]) fun v d'=>∃ms:List Int,v=.new (.lst (ms.map Dat.int))/\aJ b d' by obtain⟨v,d',h1,m,rfl,h2⟩:=hh;exact⟨m,d',h1,h2⟩
 unfold tO;refine PF ?_ rfl rfl;and_intros;refine OX (Pc (Pz (m_ (OW (m_ (OV (OW (OW (PN (z:=Z30) ?_ rfl rfl (by decide) (by decide))))))))) (by decide));refine m_ (Pu (OW (bC.mk (cZ h (fun x d1 ρ3 e x0 x1 hp=>?_) rfl (by decide) (by decide)))) rfl);subst e;refine N_ (Pj (Po ?_ (by trivial)) rfl rfl (by exact Mh rfl));refine OX (O_ (O4 (OV (M_ rfl (Pz (N_ (Pj ?_ rfl rfl (by exact Mh rfl))))))));refine⟨_,_,_,rfl,rfl,wR r,OY ?_⟩;cases r with
 |nil=>refine O9 (Pa ?_);exact O5 (Pr rfl (PO ⟨_,rfl,[0,Z30,x],rfl,hp.down 1⟩ rfl))
 |cons t r=>
  refine Pd (OX (Pc (OV (OV (M_ rfl (Pu (Pe (m_ (M_ rfl (N_ (PM (m7:=bD) (xs:=t::r) ?_ rfl))))) rfl))))  (by decide)));refine bC.mk (cZ hp (fun z d2 ρ4 e z0 z1 hp2=>?_) rfl (by simp) (tQ (by simp at hl ⊢;lia)));subst e;obtain⟨u,hu⟩:∃u,(t::r)[z.toNat]?=some u:=⟨_,Me (by lia)⟩
  have hz:(z:Int)=((z.toNat:Nat):Int):=(Int.toNat_of_nonneg z0).symm;refine OZ (v:=bD u) ?_ rfl rfl (by rw[hz];exact vo _ hu);refine OW (OZ (v:=.int u.m) (Pg ?_ (by trivial)) rfl rfl rfl);refine Pc (OV (Pr rfl (Pz (m_ (M_ rfl (m_ (OV (M_ rfl (OW (Pq ?_ rfl rfl)))))))))) (by decide);refine m_ (Pe (m_ (OW (m_ (OV (M_ rfl (OW (PB ?_ rfl rfl))))))));refine N_ (Qg ?_ rfl);refine N_ (Pj ?_ rfl rfl (by exact Mh rfl));refine⟨_,_,.new _,rfl,rfl,rfl,Po ?_ (by trivial)⟩;refine O5 (Pr rfl (PO ⟨_,rfl,[0,Z30,x,u.m,u.m+1,(if u.m-1>0 then u.m-1 else 0)],rfl,hp2⟩ rfl))
noncomputable def deps:List Dat:=[.int 0,.int 7,.int (-1),.non,.bl true,.bl false,.str [51],.str [],.lst [.int 1],.tup [.int 2],.dct [] [],.int (10 ^ 40),.int (-(10 ^ 20))]
theorem DJ(k:Nat)(k6:k<=6):∀d∈deps,dW [d,.int 1,.int (k:Nat)]=some (.val (.bl false)):=by
 intro d hd;unfold deps at hd;simp only[Mv,M4,or_false]at hd;rcases hd with rfl | rfl | rfl | rfl | rfl | rfl | rfl | rfl | rfl | rfl | rfl | rfl | rfl
 all_goals first
  |exact cO _ _ _ rfl
  |exact dF _ _ _ (by lia)
theorem rC{b:Nat}{d:Dat}(h:aJ (b+1) d)(k:Nat)(k6:k<=6):∃(x d':Dat),tN [d]=some (.val x,d')/\dW [x,.int 1,.int (k:Nat)]=some (.val (.bl false))/\aJ b d':=by
 suffices hh:WrM (tN [d]) fun v d'=>∃x,v=.val x/\dW [x,.int 1,.int (k:Nat)]=some (.val (.bl false))/\aJ b d' by obtain⟨v,d',h1,x,rfl,h2⟩:=hh;exact⟨x,d',h1,h2⟩
 unfold tN;refine PF ?_ rfl rfl;and_intros;refine P7 (fun ρ=>ρ=[.ow d,.ow (.lst deps)]) ?_ ?_
 ·exact⟨_,rfl,rfl⟩
 ·rintro ρ rfl;refine O5 (OV (Pr rfl (Pu (Pe (m_ (Pr rfl (N_ (PM (m7:=fun d=>d) (xs:=deps) (bC.mk (cZ h (fun v d1 ρ3 e v0 v1 hp=>?_) rfl (by decide) (by decide))) (by rw[List.map_id'];rfl)))))) rfl)));subst e;refine PZ (m7:=fun d=>d) (xs:=deps) v0 v1 ?_ (by rw[List.map_id'];rfl) rfl;exact⟨_,rfl,_,rfl,DJ k k6 _ (Nn _),hp⟩
theorem G8:okD 8 (.lst [.int 0])=true:=rfl
theorem G9:eqD (.lst [.int 0]) (.lst [.int 0])=true:=rfl
section
variable(x y:Nat)(ne:y≠x)
include ne
set_option maxHeartbeats 4000000 in
theorem DK(ns:Dat)(z:Int)(c2 c3 c4 c5 c6 c7 c8 c9 c10:Cell){Nx:Env->Prop}{R:RV->Env->Prop}{B C:Env->Prop}(nx:∀c2 c3 c4 c5 c6 c7 c8 c9 c10,Nx [.sh ns,.sh (.int z),c2,c3,c4,c5,c6,c7,c8,c9,c10]):Ws (vn x y) [.sh ns,.sh (.int z),c2,c3,c4,c5,c6,c7,c8,c9,c10] Nx R B C:=by
 obtain⟨d0,e0,b0,p0⟩:=AU z;obtain⟨n,k,r,d1,e1,⟨⟨n1,n10⟩,⟨k1,k6⟩,hr,hl⟩,p1⟩:=rq (b:=999593) p0;have hN:Net n k (NN k r):=G6 hr;have lN:(NN k r).length<=40:=MQ (AW k r).length_le hl
 generalize NN k r=N at e1 hN lN
 obtain⟨ms,d2,e2,p2⟩:=vC (b:=999591) p1 N (by lia);obtain⟨od,d3,e3,no3,p3⟩:=G5 (b:=999590) p2 n k n1 n10 k1 k6 N (by lia);obtain⟨xd,d4,e4,no4,p4⟩:=rC (b:=999589) p3 k k6;have no5:dW [.int ((k:Int)+1),.int 1,.int (k:Nat)]=some (.val (.bl false)):=dF _ _ _ (by lia);have rs:∀t:Int,j4 x y [aK n k N,.int t,.bl false,aK n k (vt N t)]=some (.val (.bl true)):=fun t=>by have:=ny x y (lN:=by lia) (wY x y (d:=aK n k N) (v:=.int t) (f:=false) (DG n1 n10 k1 k6 hN t)) (tT n k (vt N t));rw[ni]at this;exact this
 have rf:∀j:Nat,1<=j->j<=k->j4 x y [aK n k N,.int (j:Nat),.bl true,aK n j (NN j N)]=some (.val (.bl true)):=fun j j1 jk=>by have:=ny x y (lN:=by lia) (wY x y (d:=aK n k N) (v:=.int (j:Nat)) (f:=true) (DH n1 n10 k1 k6 j1 jk hN)) (tT n j (NN j N));rw[ni]at this;exact this
 have rl:∀v:Dat,dW [v,.int 1,.int (k:Nat)]=some (.val (.bl false))->j4 x y [aK n k N,v,.bl true,.lst [.int 1]]=some (.val (.bl true)):=fun v h=>ny x y (lN:=by lia) (yC n1 n10 k1 k6 hN h x y ne) Bg
 have ef:∀j:Nat,j<=k->pU [.int (n:Nat),aX N,.int (j:Nat)]=some (.val (aK n j (NN j N))):=fun j jk=>by have:=pY n j n10 (by lia) N _ hN.rc.ends (by lia) (cD j N);rw[AV (cD j N)]at this;exact this
 unfold vn;refine OX (Pc (O3 (m_ (M_ rfl (N_ (Py e0 (Po ?_ (by trivial)) rfl b0 rfl rfl))))) (by decide));refine OX (Pc (PK (N_ (PD e1 (Pg ?_ (by trivial)) rfl rfl (by trivial))) rfl) (by decide));refine OX (Qn (M_ rfl (Pb ⟨_,_,rfl,rfl,?_⟩)));refine OX (Px (Qp (PK (m_ (M_ rfl (N_ (PD e2 ?_ rfl rfl (by trivial))))) rfl)));refine PL ⟨_,rfl,?_⟩;refine PC Dat.int _ _ ms _ _ _ _ _ (fun _ _ ρ=>∃c7:Cell,ρ=[.sh ns,.sh (.int z),.ow d2,.sh (aK n k N),.sh (.int (n:Nat)),.sh (.int (k:Nat)),.sh (aX N),c7,c8,c9,c10]) ⟨_,rfl⟩ ?_ ?_
 ·rintro l t q ρ e ⟨c7,rfl⟩;refine Dm.cg rfl (by trivial) ?_;unfold AG;refine O_ (O7 (O4 (O3 (m_ (M_ rfl (m_ (M_ rfl (m_ (OW (m_ (Qh (m_ (M_ rfl (m_ (M_ rfl (m_ ?_))))))))))))))));refine QM bD N (fun x=>decide (t<=x.m)) id bD (d:=aX N) ?_ rfl rfl rfl (by decide) (by unfold SZ;lia) (fun u _=>?_) fun u _ _=>?_
  ·rw[OE];refine N_ (Pj ?_ rfl rfl (by exact Mh rfl));exact N_ (O0 (rs t) (OY (O9 (Pa ⟨_,rfl⟩))) rfl rfl)
  ·exact O4 (OV (OV (M_ rfl (OW (OZ (M_ rfl (Qj (OY ⟨rfl,rfl⟩) rfl rfl)) rfl rfl rfl)))))
  ·exact M_ rfl (Pb ⟨rfl,rfl⟩)
 ·rintro ρ ⟨c7,rfl⟩;refine OX (Px (Qs (OW (bC.mk (OV (M_ rfl (OW (Pq (bC.mk ⟨?_,by unfold BIG;lia,by unfold BIG;lia,by decide,by decide⟩) rfl rfl))))))));rw [show ups 1 (((k:Nat):Int)+1-1).toNat=(Ml k).map fun i:Nat=>Dat.int (1+(i:Nat)) from by
   rw[show (((k:Nat):Int)+1-1).toNat=k by lia];rfl]
  refine PC (fun i:Nat=>Dat.int (1+(i:Nat))) _ _ (Ml k) _ _ _ _ _ (fun _ _ ρ=>∃c8:Cell,ρ=[.sh ns,.sh (.int z),.ow d2,.sh (aK n k N),.sh (.int (n:Nat)),.sh (.int (k:Nat)),.sh (aX N),c7,c8,c9,c10]) ⟨_,rfl⟩ ?_ ?_
  ·rintro l i q ρ e ⟨c8,rfl⟩;have hi:i<k:=by
    have:i∈Ml k:=by rw[e];simp
    exact Ny.mp this
   have hj:(1:Int)+(i:Nat)=((1+i:Nat):Int):=by lia
   refine Dm.cg rfl (by trivial) ?_;unfold AH;rw[hj];refine O_ (O7 (O4 (O3 (m_ (M_ rfl (m_ (M_ rfl (m_ (OW (m_ (O3 (m_ (M_ rfl (m_ (M_ rfl (m_ (M_ rfl (N_ (Py (ef (1+i) (by lia)) ?_ rfl rfl rfl (by trivial))))))))))))))))))));exact N_ (O0 (rf (1+i) (by lia) (by lia)) (OY (O9 (Pa ⟨_,rfl⟩))) rfl rfl)
  ·rintro ρ ⟨c8,rfl⟩;refine OX (Pc (PK (m_ (M_ rfl (N_ (PD e3 (Pg ?_ (by trivial)) rfl rfl (by trivial))))) rfl) (by decide));refine OX (Px (Qp (Pz (m_ (PK (N_ (PD e4 ?_ rfl rfl (by trivial))) rfl)))));refine m_ (OV (M_ rfl (OW (Pq ?_ rfl rfl))));refine N_ (Pj (PL ⟨_,rfl,?_⟩) rfl rfl (by exact Mh rfl));refine PC (fun d:Dat=>d) _ _ [xd,.int ((k:Nat)+1)] _ _ _ _ _ (fun _ _ ρ=>∃c10:Cell,ρ=[.sh ns,.sh (.int z),.ow d4,.sh (aK n k N),.sh (.int (n:Nat)),.sh (.int (k:Nat)),.sh (aX N),c7,c8,.sh od,c10]) ⟨_,rfl⟩ ?_ ?_
   ·rintro l v q ρ e ⟨c10,rfl⟩;have hv:dW [v,.int 1,.int (k:Nat)]=some (.val (.bl false)):=by
     have:v∈[xd,.int ((k:Nat)+1)]:=by rw[e];simp
     simp only[Mv,M4,or_false]at this;rcases this with rfl | rfl
     ·exact no4
     ·exact no5
    refine Dm.cg rfl (by trivial) ?_;unfold AI;refine O_ (Pf (O7 (O4 (O3 (m_ (M_ rfl (m_ (M_ rfl (m_ (OW (m_ (Pz (m_ (OW (N_ (Pj ?_ rfl rfl (by exact Mh rfl)))))))))))))))));refine N_ (O0 (rl v hv) (OY (O9 ?_)) rfl rfl);refine O4 (OV (O3 (m_ (M_ rfl (m_ (M_ rfl (m_ (OW (N_ (Py (nv x y no3 v true) ?_ rfl rfl rfl (by trivial)))))))))));refine Pz (m_ (OW (N_ (Pj ?_ rfl rfl (by exact Mh rfl)))));exact P9 (d:=.lst [.int 0]) G8 G9 (OY (O9 (Pa ⟨_,rfl⟩))) rfl rfl
   ·rintro ρ ⟨c10,rfl⟩;refine O_ (Pf (O4 (OV (O3 (m_ (M_ rfl (m_ (OW (m_ (OW (N_ (Py (nv x y no3 (.int 1) true) ?_ rfl rfl rfl (by trivial)))))))))))));refine Pz (m_ (OW (N_ (Pj ?_ rfl rfl (by exact Mh rfl)))));refine P9 (d:=.lst [.int 0]) G8 G9 (OY (O9 ?_)) rfl rfl;refine O4 (OV (O3 (m_ (M_ rfl (m_ (OW (m_ (OW (N_ (Py (nv x y no3 (.int 3) false) ?_ rfl rfl rfl (by trivial)))))))))));refine Pz (m_ (OW (N_ (Pj ?_ rfl rfl (by exact Mh rfl)))));exact P9 (d:=.lst [.int 0]) G8 G9 (OY (O9 (Pa (nx _ _ _ _ _ _ _ _ _)))) rfl rfl
theorem math(ns:List Int)(h:ns.length<=63):mW x y [.lst (ns.map Dat.int)]=some (.val (.bl true)):=by
 obtain⟨cs,ec,lc⟩:=yq ns h;apply O8;unfold mW
 (refine Dm.O6 ?_ rfl rfl;and_intros)
 refine OX (Px (Qp (O3 (m_ (M_ rfl (m_ (OW (N_ (Py ec ?_ rfl rfl rfl rfl)))))))));refine PL ⟨_,rfl,?_⟩;refine PC Dat.int _ _ cs _ _ _ _ _ (fun p q ρ=>∃c1 c2 c3 c4 c5 c6 c7 c8 c9 c10:Cell,ρ=[.sh (.lst (ns.map Dat.int)),c1,c2,c3,c4,c5,c6,c7,c8,c9,c10]) ⟨_,_,_,_,_,_,_,_,_,_,rfl⟩ ?_ ?_
 ·rintro p i q ρ e ⟨c1,c2,c3,c4,c5,c6,c7,c8,c9,c10,rfl⟩;refine Dm.cg rfl (by trivial) ?_;exact DK x y ne _ _ _ _ _ _ _ _ _ _ _ fun c2 c3 c4 c5 c6 c7 c8 c9 c10=>⟨_,_,_,_,_,_,_,_,_,_,rfl⟩
 ·rintro ρ ⟨c1,c2,c3,c4,c5,c6,c7,c8,c9,c10,rfl⟩;exact O5 (OW rfl)
end
end P
namespace Q
open PySem L2 Br Dm P
noncomputable def top(i:Nat):Stmt:=PySem.Challenge.pw_sinceply_k20_nets_since_and_fewer.main.body.getD i (.Pass ⟨0,0,0,0⟩)
structure Txt(mg:Str->Option Value)(K:gc)(base:Heap)(vD vE vF vG vH vJ vK vL vM tU nA nB kX nC kY nD kZ j8 j9 j_ iG nE nF nG nI nJ nK nM nN nP nQ nR nS nT nU nV k7 nW nX nY eE b7 ah av cP bz cQ bg cR:Addr)(nZ n5 n6 n8 n9 n_ oj oq ou k8 iW iX gU iY gW iZ gX f9 f_ gb fu i6 i7 i8 i9 i_ ja jb jd je jf jh ji jj jl jm gY jn jo kM:FuncData):Prop where
 wZ:mg "Clash" = some (.ref eE)
 tW:mg "NoDeed" = some (.ref b7)
 oz:mg "NoLayers" = some (.ref ah)
 w4:mg "NoNet" = some (.ref av)
 tZ:mg "NoPair" = some (.ref cP)
 oA:mg "NoPlaces" = some (.ref bz)
 t7:mg "NoTies" = some (.ref cQ)
 gf:mg "PlyError" = some (.ref bg)
 t8:mg "Unlike" = some (.ref cR)
 yD:PyProof.Rows.OwnCls "NoNet" av bmV "ValueError.__new__" mg base
 cK:mR K av
 kc:PyProof.Rows.OwnCls "NoLayers" ah bmV "ValueError.__new__" mg base
 bJ:mR K ah
 gg:Mk K (.ref ah) (.type "ValueError")=some true
 iA:Mk K (.ref av) (.type "ValueError")=some true
 dX:PySem.W.lO K ah bg
 ff:PySem.W.lO K av bg
 kg:Mk K (.ref ah) (.ref eE)=some false
 gZ:Mk K (.ref ah) (.ref ah)=some true
 kh:Mk K (.ref ah) (.ref av)=some false
 jq:Mk K (.ref ah) (.ref cP)=some false
 jr:Mk K (.ref ah) (.ref cQ)=some false
 ju:Mk K (.ref ah) (.ref cR)=some false
 oB:Mk K (.ref av) (.ref eE)=some false
 ki:Mk K (.ref av) (.ref ah)=some false
 oE:Mk K (.ref av) (.ref av)=some true
 lF:Mk K (.ref av) (.ref cP)=some false
 lG:Mk K (.ref av) (.ref cQ)=some false
 lH:Mk K (.ref av) (.ref cR)=some false
 eG:Nz K (.ref ah) (([b7,bz]:List Addr).map MP)=some false
 fy:Nz K (.ref av) (([b7,bz]:List Addr).map MP)=some false
 kj:mg "ValueError" = none
 EE:mg "abs" = none
 EF:mg "all" = none
 G_:mg "bool" = none
 k9:mg "enumerate" = none
 EG:mg "int" = none
 aB:mg "isinstance" = none
 fS:mg "len" = none
 oF:mg "list" = none
 Bj:mg "max" = none
 EH:mg "min" = none
 cG:mg "range" = none
 oG:mg "reversed" = none
 lR:mg "tuple" = none
 Bk:mg "zip" = none
 oH:∃t,mg "MOST_TIES" = some (.int 60 t)
 LP:mg "is_whole" = some (.ref vD)
 yE:mg "is_within" = some (.ref vE)
 LQ:mg "is_places" = some (.ref vF)
 J0:mg "is_place" = some (.ref vG)
 Hg:mg "is_layers" = some (.ref vH)
 LR:mg "is_moment" = some (.ref vJ)
 LS:mg "is_tie_either_way" = some (.ref vK)
 LU:mg "is_tie" = some (.ref vL)
 LV:mg "is_rising" = some (.ref vM)
 J2:mg "look_at_layers" = some (.ref tU)
 J3:mg "merged" = some (.ref nA)
 J4:mg "least_layer" = some (.ref nB)
 w6:mg "layered" = some (.ref kX)
 J_:mg "is_record" = some (.ref nC)
 EI:mg "since" = some (.ref kY)
 EJ:mg "is_net" = some (.ref nD)
 p6:mg "look_at_net" = some (.ref kZ)
 t9:mg "look_at_net_layers" = some (.ref j8)
 Bl:mg "net_of" = some (.ref j9)
 w_:mg "net_since" = some (.ref j_)
 p7:mg "net_fewer" = some (.ref iG)
 Ka:mg "_law_folded" = some (.ref nE)
 Kc:mg "_law_begun" = some (.ref nF)
 c_:mg "_law_take" = some (.ref nG)
 Kd:mg "_law_wide" = some (.ref nI)
 Ke:mg "_law_places" = some (.ref nJ)
 Kf:mg "_law_depth" = some (.ref nK)
 Kg:mg "_law_ends" = some (.ref nM)
 Kh:mg "_law_drawn_ties" = some (.ref nN)
 Kl:mg "_law_most" = some (.ref nP)
 Km:mg "_law_layers_of" = some (.ref nQ)
 EK:mg "_law_net_of" = some (.ref nR)
 Kn:mg "_law_drawn_net" = some (.ref nS)
 Ko:mg "_law_odd_net" = some (.ref nT)
 Kp:mg "_law_odd_depth" = some (.ref nU)
 xg:mg "_law_flags" = some (.ref nV)
 xh:mg "_law_told_of" = some (.ref k7)
 Bm:mg "_law_right" = some (.ref nW)
 Kq:mg "_law_moments" = some (.ref nX)
 L5:mg "law" = some (.ref nY)
 Kr:Fun K "is_whole" "is_whole" (top 11) vD nZ
 Hh:Binds K nZ ["thing"] []
 vN:Fun K "is_within" "is_within" (top 12) vE n5
 t_:Binds K n5 ["thing","low","high"] []
 Ks:Fun K "is_places" "is_places" (top 13) vF n6
 Hi:Fun K "is_place" "is_place" (top 14) vG n8
 DL:Fun K "is_layers" "is_layers" (top 15) vH n9
 Ku:Fun K "is_moment" "is_moment" (top 16) vJ n_
 DM:Binds K n8 ["n","thing"] []
 Hj:Binds K n_ ["thing"] []
 Kv:Fun K "is_tie_either_way" "is_tie_either_way" (top 17) vK oj
 Hl:Binds K oj ["n","thing"] []
 Kw:Fun K "is_tie" "is_tie" (top 18) vL oq
 Ky:Fun K "is_rising" "is_rising" (top 19) vM ou
 Bo:Binds K n9 ["thing"] []
 DN:Fun K "look_at_layers" "look_at_layers" (top 20) tU k8
 EL:Fun K "merged" "merged" (top 22) nA iW
 EM:Fun K "least_layer" "least_layer" (top 25) nB iX
 DO:Binds K k8 ["k"] []
 Bp:Binds K iW ["groups","a","b"] []
 Bq:Binds K iX ["layers","a","b"] []
 p8:Fun K "layered" "layered" (top 24) kX gU
 Ho:Binds K n6 ["thing"] []
 Hq:Binds K oq ["n","thing"] []
 Hr:Binds K ou ["things"] []
 EN:Fun K "is_record" "is_record" (top 28) nC iY
 xj:Fun K "since" "since" (top 29) kY gW
 p9:Binds K gU ["n","record","k"] []
 Bs:Binds K iY ["n","thing"] []
 Bt:Fun K "is_net" "is_net" (top 31) nD iZ
 xm:Binds K iZ ["thing"] []
 k_:Fun K "look_at_net" "look_at_net" (top 32) kZ gX
 lq:Binds K gX ["thing"] []
 lu:Fun K "look_at_net_layers" "look_at_net_layers" (top 33) j8 f9
 p_:Fun K "net_of" "net_of" (top 34) j9 f_
 xo:Binds K gW ["record","t"] []
 oJ:Fun K "net_since" "net_since" (top 35) j_ gb
 oK:Binds K f9 ["net","j"] []
 ua:Binds K f_ ["n","record","k"] []
 iH:Fun K "net_fewer" "net_fewer" (top 36) iG fu
 EO:Fun K "_law_folded" "_law_folded" (top 38) nE i6
 ER:Fun K "_law_begun" "_law_begun" (top 39) nF i7
 cS:Fun K "_law_take" "_law_take" (top 40) nG i8
 cL:Binds K i8 ["pot","size"] []
 ES:Fun K "_law_wide" "_law_wide" (top 41) nI i9
 ET:Fun K "_law_places" "_law_places" (top 42) nJ i_
 EU:Fun K "_law_depth" "_law_depth" (top 43) nK ja
 EV:Fun K "_law_ends" "_law_ends" (top 44) nM jb
 Bu:Binds K i9 ["pot","size"] []
 Bv:Binds K jb ["pot","n","ties"] []
 EW:Fun K "_law_drawn_ties" "_law_drawn_ties" (top 45) nN jd
 EX:Fun K "_law_most" "_law_most" (top 46) nP je
 EY:Fun K "_law_layers_of" "_law_layers_of" (top 47) nQ jf
 Bw:Binds K jf ["n","ties","k"] []
 Bx:Fun K "_law_net_of" "_law_net_of" (top 48) nR jh
 By:Binds K i_ ["pot"] []
 BA:Binds K ja ["pot"] []
 BB:Binds K jd ["pot","n","most"] []
 BC:Binds K je ["pot"] []
 xq:Binds K jh ["n","ties","k"] []
 EZ:Fun K "_law_drawn_net" "_law_drawn_net" (top 49) nS ji
 E1:Fun K "_law_odd_net" "_law_odd_net" (top 50) nT jj
 E2:Fun K "_law_odd_depth" "_law_odd_depth" (top 51) nU jl
 uc:Fun K "_law_flags" "_law_flags" (top 52) nV jm
 qc:Binds K gb ["net","t"] []
 lz:Binds K fu ["net","j"] []
 qd:Binds K jm ["e"] []
 qe:Fun K "_law_told_of" "_law_told_of" (top 53) k7 gY
 qf:Binds K gY ["net","number","fewer"] []
 xr:Fun K "_law_right" "_law_right" (top 54) nW jn
 E3:Fun K "_law_moments" "_law_moments" (top 55) nX jo
 BE:Binds K i6 ["cells","many"] []
 BF:Binds K i7 ["cell"] []
 BG:Binds K ji ["pot"] []
 BH:Binds K jj ["pot","net"] []
 BI:Binds K jl ["pot"] []
 ud:Binds K jn ["net","number","fewer","due"] []
 BJ:Binds K jo ["pot","ties"] []
 Kz:Fun K "law" "law" (top 56) nY kM
section
variable{P':Program}{w:World}{K:gc}{mg:Str->Option Value}{base:Heap}{vD vE vF vG vH vJ vK vL vM tU nA nB kX nC kY nD kZ j8 j9 j_ iG nE nF nG nI nJ nK nM nN nP nQ nR nS nT nU nV k7 nW nX nY eE b7 ah av cP bz cQ bg cR:Addr}
variable{nZ n5 n6 n8 n9 n_ oj oq ou k8 iW iX gU iY gW iZ gX f9 f_ gb fu i6 i7 i8 i9 i_ ja jb jd je jf jh ji jj jl jm gY jn jo kM:FuncData}
theorem KA:ay ["thing"] ["thing"] (ai (top 11)):=fsc
theorem KC:ay ["thing","low","high"] ["thing","low","high"] (ai (top 12)):=fsc
theorem KD:ay ["thing"] ["thing"] (ai (top 13)):=fsc
theorem KG:ay ["n","thing"] ["n","thing"] (ai (top 14)):=fsc
theorem KH:ay ["thing"] ["thing"] (ai (top 15)):=fsc
theorem KI:ay ["thing"] ["thing"] (ai (top 16)):=fsc
theorem KJ:ay ["n","thing"] ["n","thing"] (ai (top 17)):=fsc
theorem KL:ay ["n","thing"] ["n","thing"] (ai (top 18)):=fsc
theorem KN:ay ["things"] ["things"] (ai (top 19)):=fsc
theorem Ht:(["things","at"]:List Str).Nodup:=by decide +kernel
theorem E4:ay ["k"] ["k"] (ai (top 20)):=fsc
theorem Hu:ay ["groups","a","b"] ["groups","a","b"] (ai (top 22)):=fsc
theorem DQ:(["groups","a","b","group"]:List Str).Nodup:=by decide +kernel
theorem vO:ay ["layers","a","b","at","groups"] ["layers","a","b"] (ai (top 25)):=fsc
theorem g6:ay ["n","record","k","layers","numbers","moment","a","b","number"] ["n","record","k"] (ai (top 24)):=fsc
theorem DR:(["n","record","k","layers","numbers","moment","a","b","number","layer"]:List Str).Nodup:=by decide +kernel
theorem Hv:ay ["n","thing"] ["n","thing"] (ai (top 28)):=fsc
theorem DU:(["n","thing","tie"]:List Str).Nodup:=by decide +kernel
theorem DV:(["n","thing","tie"]:List Str).Nodup:=by decide +kernel
theorem BK:ay ["record","t"] ["record","t"] (ai (top 29)):=fsc
theorem DX:(["record","t","tie"]:List Str).Nodup:=by decide +kernel
theorem DY:(["record","t","tie"]:List Str).Nodup:=by decide +kernel
theorem Hw:ay ["thing"] ["thing"] (ai (top 31)):=fsc
theorem BL:ay ["thing"] ["thing"] (ai (top 32)):=fsc
theorem vP:ay ["net","j"] ["net","j"] (ai (top 33)):=fsc
theorem kN:ay ["n","record","k","numbers"] ["n","record","k"] (ai (top 34)):=fsc
theorem xu:(["n","record","k","numbers","tie","number"]:List Str).Nodup:=by decide +kernel
theorem xw:(["n","record","k","numbers","tie","number"]:List Str).Nodup:=by decide +kernel
theorem vQ:ay ["net","t"] ["net","t"] (ai (top 35)):=fsc
theorem rE:ay ["net","j"] ["net","j"] (ai (top 36)):=fsc
theorem rF:ay ["cells","many","found","k","cell"] ["cells","many"] (ai (top 38)):=fsc
theorem vR:ay ["cell","rest"] ["cell"] (ai (top 39)):=fsc
theorem rG:ay ["pot","size","digit","mixed"] ["pot","size"] (ai (top 40)):=fsc
theorem rH:ay ["pot","size","number","turn"] ["pot","size"] (ai (top 41)):=fsc
theorem Hx:ay ["pot"] ["pot"] (ai (top 42)):=fsc
theorem Hy:ay ["pot"] ["pot"] (ai (top 43)):=fsc
theorem kO:ay ["pot","n","ties","a","b","moment"] ["pot","n","ties"] (ai (top 44)):=fsc
theorem gh:ay ["pot","n","most","moment","found","turn","step","a","b"] ["pot","n","most"] (ai (top 45)):=fsc
theorem Hz:ay ["pot"] ["pot"] (ai (top 46)):=fsc
theorem fB:ay ["n","ties","k","labels","numbers","at","moment","a","b","layer","old","new"] ["n","ties","k"] (ai (top 47)):=fsc
theorem DZ:(["n","ties","k","labels","numbers","at","moment","a","b","%9","old","new","layer"]:List Str).Nodup:=by decide +kernel
theorem D0:(["n","ties","k","labels","numbers","at","moment","a","b","layer","old","new","one"]:List Str).Nodup:=by decide +kernel
theorem BN:ay ["n","ties","k","numbers"] ["n","ties","k"] (ai (top 48)):=fsc
theorem xx:(["n","ties","k","numbers","tie","number"]:List Str).Nodup:=by decide +kernel
theorem vS:ay ["pot","n","k"] ["pot"] (ai (top 49)):=fsc
theorem gj:ay ["pot","net","n","k","ties","some","tie"] ["pot","net"] (ai (top 50)):=fsc
theorem BO:ay ["pot","some"] ["pot"] (ai (top 51)):=fsc
theorem vU:ay ["e","kinds"] ["e"] (ai (top 52)):=fsc
theorem D3:(["e","kinds","k"]:List Str).Nodup:=by decide +kernel
theorem bF:ay ["net","number","fewer","told","e"] ["net","number","fewer"] (ai (top 53)):=fsc
theorem rJ:ay ["net","number","fewer","due","handed","turn","found"] ["net","number","fewer","due"] (ai (top 54)):=fsc
theorem rK:ay ["pot","ties","some","moment"] ["pot","ties"] (ai (top 55)):=fsc
theorem e7:ay ["script","cell","pot","net","n","k","ties","t","j","odd","number"] ["script"] (ai (top 56)):=fsc
theorem D4:(["script","cell","pot","net","n","k","ties","t","j","odd","number","tie"]:List Str).Nodup:=by decide +kernel
variable(T:Txt mg K base vD vE vF vG vH vJ vK vL vM tU nA nB kX nC kY nD kZ j8 j9 j_ iG nE nF nG nI nJ nK nM nN nP nQ nR nS nT nU nV k7 nW nX nY eE b7 ah av cP bz cQ bg cR nZ n5 n6 n8 n9 n_ oj oq ou k8 iW iX gU iY gW iZ gX f9 f_ gb fu i6 i7 i8 i9 i_ ja jb jd je jf jh ji jj jl jm gY jn jo kM)
include T
theorem KP :
  aP P' w K mg base CX0 1 vD nZ ["thing"] (spD Aw):=
 okQ T.Kr KA fun _ _ _ _ _ _ hr=>(aA (s_r (sF (pI CJ (by rfl) rfl T.EG rfl T.aB (d_v 0)) (wF (IZ (pI zK (by rfl) rfl T.G_ rfl T.aB (d_v 0)))))))
theorem qg :
  aP P' w K mg base CX0 2 vE n5 ["thing","low","high"] (spD dW):=
 okQ T.vN KC fun _ _ _ _ _ _ hr=>(aA (s_r (sF (aE (KP T) (Br.hm hr) rfl T.LP T.Kr.kp T.Hh (aa (d_v 0) af)) (wF (CM yS zy yS zy (d_v 1) (d_v 0) (d_v 2))))))
theorem KQ :
  aP P' w K mg base CX0 3 vF n6 ["thing"] (spD qV):=
 okQ T.Ks KD fun _ _ _ _ _ _ hr=>(aA (s_r (aE (qg T) (Br.hm hr) rfl T.yE T.vN.kp T.t_ (aa (d_v 0) (aa d_i (aa d_i af))))))
theorem E6 :
  aP P' w K mg base CX0 3 vG n8 ["n","thing"] (spD qW):=
 okQ T.Hi KG fun _ _ _ _ _ _ hr=>(aA (s_r (aE (qg T) (Br.hm hr) rfl T.yE T.vN.kp T.t_ (aa (d_v 1) (aa d_i (aa (gv (d_v 0) d_i) af))))))
theorem BP :
  aP P' w K mg base CX0 3 vH n9 ["thing"] (spD jZ):=
 okQ T.DL KH fun _ _ _ _ _ _ hr=>(aA (s_r (aE (qg T) (Br.hm hr) rfl T.yE T.vN.kp T.t_ (aa (d_v 0) (aa d_i (aa d_i af))))))
theorem KR :
  aP P' w K mg base CX0 3 vJ n_ ["thing"] (spD vj):=
 okQ T.Ku KI fun _ _ _ _ _ _ hr=>(aA (s_r (aE (qg T) (Br.hm hr) rfl T.yE T.vN.kp T.t_ (aa (d_v 0) (aa d_i (aa (jT d_i d_i) af))))))
theorem KS :
  aP P' w K mg base CX0 4 vK oj ["n","thing"] (spD qX):=
 okQ T.Kv KJ fun _ _ _ _ _ _ hr=>(ak (eX (t_w (w_or (dU (cJ (pI kit_tuple (by rfl) rfl T.lR rfl T.aB (d_v 1)))) (jU (mD hr (fN rfl T.fS (aa (d_v 1) af)) d_i)))) (aA (s_r d_b)) bZ)
  (aA (s_r (sF (aE (KR T) (Br.hm hr) rfl T.LR T.Ku.kp T.Hj (aa (aT (d_v 1) d_i) af)) (sF (aE (E6 T) (Br.hm hr) rfl T.J0 T.Hi.kp T.DM (aa (d_v 0) (aa (aT (d_v 1) d_i) af))) (wF (aE (E6 T) (Br.hm hr) rfl T.J0 T.Hi.kp T.DM (aa (d_v 0) (aa (aT (d_v 1) d_i) af)))))))))
theorem KU :
  aP P' w K mg base CX0 5 vL oq ["n","thing"] (spD qY):=
 okQ T.Kw KL fun _ _ _ _ _ _ hr=>(aA (s_r (sF (aE (KS T) (Br.hm hr) rfl T.LS T.Kv.kp T.Hl (aa (d_v 0) (aa (d_v 1) af))) (wF (Ll (aT (d_v 1) d_i) (aT (d_v 1) d_i))))))
theorem KW :
  aP P' w K mg base CX0 1 vM ou ["things"] (spD yk):=
 okQ T.Ky KN fun _ _ _ _ _ _ hr=>(aA (s_r (Em rfl rfl T.EF (aa (zO ["things"] ["at"] (c_n 1 Ht rfl rfl) (I0 rfl T.cG (aa d_i (aa (fN rfl T.fS (aa (d_v 0) af)) af))) (fun _ _ _ _ _=>iN) (fun _ _ _ _ _=>(Lk (aT (d_v 0) (gv (d_v 1) d_i)) (aT (d_v 0) (d_v 1))))) af))))
theorem KY :
  aP P' w K mg base CX0 4 tU k8 ["k"] (spD Dl):=
 okQ T.DN E4 fun _ _ _ _ _ _ hr=>(aA (eX (dU (cJ (aE (BP T) (Br.hm hr) rfl T.Hg T.DL.kp T.Bo (aa (d_v 0) af)))) (aA qH) bZ))
theorem eH :
  aP P' w K mg base (CXE P' w ah) 4 tU k8 ["k"] (spX ah b5):=by
 exact okY (n:=1) (m:=0) T.DN E4 rfl rfl (fun cdv A outer s H E hr=>(b4 (vg (dU (cJ (aE (BP T) (Br.hm hr) rfl T.Hg T.DL.kp T.Bo (aa (d_v 0) af)))) (b4 (y_x (x_raise T.kc NC rfl))) Ao)))
theorem HA :
  aP P' w K mg base CX0 1 nA iW ["groups","a","b"] (spD wL):=
 okQ T.EL Hu fun _ _ _ _ _ _ hr=>(aA (s_r (pL 0 ["groups","a","b"] ["group"] (c_n 3 DQ rfl rfl) (d_v 0) (fun _ _ _ _ _=>iN) (fun _ _ _ _ _=>(Ln (CG hr (d_v 3) (aT (d_v 0) (d_v 2))) (aT (d_v 0) (d_v 1)) (d_v 3))))))
theorem HB :
  aP P' w K mg base CX0 1 nB iX ["layers","a","b"] (spD sX):=
 okQ T.EM vO fun _ _ _ _ _ _ hr=>(ak (fO MO rfl (Jj rfl T.k9 (d_v 0)) (g_t rfl (aQ 3 vO.nd (aQ 4 vO.nd eW)))
  (aA (eX (mD hr (aT (d_v 4) (d_v 1)) (aT (d_v 4) (d_v 2))) (aA (s_r (bU (d_v 3) d_i))) bZ)))
  (aA (s_r d_i)))
theorem vV :
  aP P' w K mg base CX0 5 kX gU ["n","record","k"] (spD mV):=
 okQ T.p8 g6 fun _ _ _ _ _ _ hr=>(ak (s_e (aE (KY T) (Br.hm hr) rfl T.J2 T.DN.kp T.DO (aa (d_v 2) af)))
  (ak (Jc 3 ["n","record","k","layers","numbers","moment","a","b","number"] ["layer"] g6.nd (c_n 9 DR rfl rfl) (xU rfl T.cG (aa (d_v 2) af)) (fun _ _ _ _ _=>iN) (fun _ _ _ _ _=>(zY rfl rfl T.oF rfl T.cG (aa (d_v 0) af))))
  (ak (s_a 4 g6.nd (aO af))
  (ak (fO MO rfl (Ji rfl T.oG (d_v 1)) (g_t rfl (aQ 5 g6.nd (aQ 6 g6.nd (aQ 7 g6.nd eW))))
  (ak (s_a 8 g6.nd (aE (HB T) (Br.hm hr) rfl T.J4 T.EM.kp T.Bq (aa (d_v 3) (aa (d_v 6) (aa (d_v 7) af)))))
  (ak (eX (u6 (d_v 8) d_i) (aA (pH 3 (gv (d_v 8) d_i) (aE (HA T) (Br.hm hr) rfl T.J3 T.EL.kp T.Bp (aa (aT (d_v 3) (gv (d_v 8) d_i)) (aa (d_v 6) (aa (d_v 7) af)))))) bZ)
  (aA (zJ 4 (d_v 8))))))
  (aA (s_r (CU rfl rfl T.oF rfl T.oG (d_v 4))))))))
theorem g7 :
  aP P' w K mg base (CXE P' w ah) 5 kX gU ["n","record","k"] (spX ah d9):=by
 exact okY (n:=3) (m:=6) T.p8 g6 rfl rfl (fun cdv A outer s H E hr=>(b4 (y_x (mL (x_call (eH T) (Br.hm hr) rfl T.J2 T.DN.kp T.DO mQ (aa (d_v 2) af))))))
theorem HC :
  aP P' w K mg base CX0 6 nC iY ["n","thing"] (spD fP):=by
 refine T.EN.ok Hv (fun vs H Q E h=>qF h) (fun cdv A outer s H vs Q E hr h=>?_);obtain⟨ko,ue⟩:=T.oH;exact ⟨_,(ak (eX (t_w (w_or (dU (cJ (aE (KQ T) (Br.hm hr) rfl T.LQ T.Ks.kp T.Ho (aa (d_v 0) af)))) (w_or (dU (cJ (pI zL (by rfl) rfl T.oF rfl T.aB (d_v 1)))) (jU (u6 (fN rfl T.fS (aa (d_v 1) af)) (d_g rfl ue)))))) (aA (s_r d_b)) bZ)
  (ak (eX (dU (cJ (Em rfl rfl T.EF (aa (pL 1 ["n","thing"] ["tie"] (c_n 2 DU rfl rfl) (d_v 1) (fun _ _ _ _ _=>iN) (fun _ _ _ _ _=>(aE (KU T) (Br.hm hr) rfl T.LU T.Kw.kp T.Hq (aa (d_v 0) (aa (d_v 2) af))))) af)))) (aA (s_r d_b)) bZ)
  (aA (s_r (aE (KW T) (Br.hm hr) rfl T.LV T.Ky.kp T.Hr (aa (pL 1 ["n","thing"] ["tie"] (c_n 2 DV rfl rfl) (d_v 1) (fun _ _ _ _ _=>iN) (fun _ _ _ _ _=>(aT (d_v 2) d_i))) af)))))),F8 (n:=2) (m:=0) rfl h⟩
theorem HD :
  aP P' w K mg base CX0 1 kY gW ["record","t"] (spD EB):=
 okQ T.xj BK fun _ _ _ _ _ _ hr=>(aA (s_r (pL 0 ["record","t"] ["tie"] (c_n 2 DX rfl rfl) (d_v 0) (fun _ _ _ _ _=>iO (CH (aT (d_v 2) d_i) (d_v 1))) (fun _ _ _ _ _=>(d_v 2)))))
theorem yF :
  aP P' w K mg base CX0 1 kY gW ["record","t"] (spP gP):=by
 refine T.xj.ok BK (fun vs H Q E h=>jX h) (fun cdv A outer s H vs Q E hr h=>?_);exact⟨_,(q_r (p_o (pL 0 ["record","t"] ["tie"] (c_n 2 DY rfl rfl) (d_v 0) (fun _ _ _ _ _=>iO (CH (aT (d_v 2) d_i) (d_v 1))) (fun _ _ _ _ _=>(d_v 2))))),sV (n:=2) (m:=0) rfl h⟩
theorem BQ :
  aP P' w K mg base CX0 7 nD iZ ["thing"] (spD bL):=
 okQ T.Bt Hw fun _ _ _ _ _ _ hr=>(ak (eX (t_w (w_or (dU (cJ (pI kit_tuple (by rfl) rfl T.lR rfl T.aB (d_v 0)))) (jU (mD hr (fN rfl T.fS (aa (d_v 0) af)) d_i)))) (aA (s_r d_b)) bZ)
  (ak (eX (t_w (w_or (dU (cJ (aE (BP T) (Br.hm hr) rfl T.Hg T.DL.kp T.Bo (aa (aT (d_v 0) d_i) af)))) (jU (dU (cJ (aE (HC T) (Br.hm hr) rfl T.J_ T.EN.kp T.Bs (aa (aT (d_v 0) d_i) (aa (aT (d_v 0) d_i) af)))))))) (aA (s_r d_b)) bZ)
  (aA (s_r (IY hr d_i (aE (vV T) (Br.hm hr) rfl T.w6 T.p8.kp T.p9 (aa (aT (d_v 0) d_i) (aa (aT (d_v 0) d_i) (aa (aT (d_v 0) d_i) af)))))))))
theorem rL :
  aP P' w K mg base CX0 8 kZ gX ["thing"] (spD iE):=
 okQ T.k_ BL fun _ _ _ _ _ _ hr=>(aA (eX (dU (cJ (aE (BQ T) (Br.hm hr) rfl T.EJ T.Bt.kp T.xm (aa (d_v 0) af)))) (aA qH) bZ))
theorem dc :
  aP P' w K mg base (CXE P' w av) 8 kZ gX ["thing"] (spX av aZ):=by
 exact okY (n:=1) (m:=0) T.k_ BL rfl rfl (fun cdv A outer s H E hr=>(b4 (vg (dU (cJ (aE (BQ T) (Br.hm hr) rfl T.EJ T.Bt.kp T.xm (aa (d_v 0) af)))) (b4 (y_x (x_raise T.yD NC rfl))) Ao)))
theorem vW :
  aP P' w K mg base CX0 9 j8 f9 ["net","j"] (spD j0):=
 okQ T.lu vP fun _ _ _ _ _ _ hr=>(ak (s_e (aE (rL T) (Br.hm hr) rfl T.p6 T.k_.kp T.lq (aa (d_v 0) af)))
  (aA (eX (dU (cJ (aE (qg T) (Br.hm hr) rfl T.yE T.vN.kp T.t_ (aa (d_v 1) (aa d_i (aa (aT (d_v 0) d_i) af)))))) (aA qH) bZ)))
theorem dZ :
  aP P' w K mg base (CXE P' w av) 9 j8 f9 ["net","j"] (spX av aU):=by
 exact okY (n:=2) (m:=0) T.lu vP rfl rfl (fun cdv A outer s H E hr=>(b4 (y_x (mL (x_call (dc T) (Br.hm hr) rfl T.p6 T.k_.kp T.lq mQ (aa (d_v 0) af))))))
theorem cY :
  aP P' w K mg base (CXE P' w ah) 9 j8 f9 ["net","j"] (spX ah aY):=by
 exact okY (n:=2) (m:=0) T.lu vP rfl rfl (fun cdv A outer s H E hr=>(Ez (s_e (aE (rL T) (Br.hm hr) rfl T.p6 T.k_.kp T.lq (aa (d_v 0) af))) (b4 (vg (dU (cJ (aE (qg T) (Br.hm hr) rfl T.yE T.vN.kp T.t_ (aa (d_v 1) (aa d_i (aa (aT (d_v 0) d_i) af)))))) (b4 (y_x (x_raise T.kc NC rfl))) Ao))))
theorem HE :
  aP P' w K mg base CX0 6 j9 f_ ["n","record","k"] (spD EC):=
 okQ T.p_ kN fun _ _ _ _ _ _ hr=>(ak (s_a 3 kN.nd (aE (vV T) (Br.hm hr) rfl T.w6 T.p8.kp T.p9 (aa (d_v 0) (aa (d_v 1) (aa (d_v 2) af)))))
  (aA (s_r (aS (aa (d_v 0) (aa (d_v 2) (aa (zO ["n","record","k","numbers"] ["tie","number"] (c_t rfl (fun _ _ _ _ _=>(aQ 4 xu (aQ 5 xu eW)))) (z_ rfl T.Bk (aa (d_v 1) (aa (d_v 3) af))) (fun _ _ _ _ _=>iO (u6 (d_v 5) d_i)) (fun _ _ _ _ _=>(d_v 4))) af)))))))
theorem iB :
  aP P' w K mg base (CXE P' w ah) 6 j9 f_ ["n","record","k"] (spX ah eZ):=by
 exact okY (n:=3) (m:=1) T.p_ kN rfl rfl (fun cdv A outer s H E hr=>(b4 (y_x (x_a 3 kN.nd (x_call (g7 T) (Br.hm hr) rfl T.w6 T.p8.kp T.p9 mQ (aa (d_v 0) (aa (d_v 1) (aa (d_v 2) af))))))))
theorem vX :
  aP P' w K mg base CX0 6 j9 f_ ["n","record","k"] (spP fQ):=by
 refine T.p_.ok kN (fun vs H Q E h=>jX h) (fun cdv A outer s H vs Q E hr h=>?_);exact ⟨_,(mT (s_a 3 kN.nd (aE (vV T) (Br.hm hr) rfl T.w6 T.p8.kp T.p9 (aa (d_v 0) (aa (d_v 1) (aa (d_v 2) af)))))
  (q_r (Ey (yf (p_o (d_v 0)) (yf (p_o (d_v 2)) (yf (p_o (zO ["n","record","k","numbers"] ["tie","number"] (c_t rfl (fun _ _ _ _ _=>(aQ 4 xw (aQ 5 xw eW)))) (z_ rfl T.Bk (aa (d_v 1) (aa (d_v 3) af))) (fun _ _ _ _ _=>iO (u6 (d_v 5) d_i)) (fun _ _ _ _ _=>(d_v 4)))) Jw)))))),sV (n:=3) (m:=1) rfl h⟩
theorem HF :
  aP P' w K mg base CX0 9 j_ gb ["net","t"] (spD wM):=
 okQ T.oJ vQ fun _ _ _ _ _ _ hr=>(ak (s_e (aE (rL T) (Br.hm hr) rfl T.p6 T.k_.kp T.lq (aa (d_v 0) af)))
  (aA (s_r (aS (aa (aT (d_v 0) d_i) (aa (aT (d_v 0) d_i) (aa (aE (HD T) (Br.hm hr) rfl T.EI T.xj.kp T.xo (aa (aT (d_v 0) d_i) (aa (d_v 1) af))) af)))))))
theorem d_ :
  aP P' w K mg base (CXE P' w av) 9 j_ gb ["net","t"] (spX av bw):=by
 exact okY (n:=2) (m:=0) T.oJ vQ rfl rfl (fun cdv A outer s H E hr=>(b4 (y_x (mL (x_call (dc T) (Br.hm hr) rfl T.p6 T.k_.kp T.lq mQ (aa (d_v 0) af))))))
theorem oY :
  aP P' w K mg base CX0 9 j_ gb ["net","t"] (spP cj):=by
 refine T.oJ.ok vQ (fun vs H Q E h=>jX h) (fun cdv A outer s H vs Q E hr h=>?_);exact ⟨_,(mT (s_e (aE (rL T) (Br.hm hr) rfl T.p6 T.k_.kp T.lq (aa (d_v 0) af)))
  (q_r (Ey (yf (p_o (aT (d_v 0) d_i)) (yf (p_o (aT (d_v 0) d_i)) (yf (qS (yF T) (Br.hm hr) rfl T.EI T.xj.kp T.xo (aa (aT (d_v 0) d_i) (aa (d_v 1) af))) Jw)))))),sV (n:=2) (m:=0) rfl h⟩
theorem HG :
  aP P' w K mg base CX0 10 iG fu ["net","j"] (spD wN):=
 okQ T.iH rE fun _ _ _ _ _ _ hr=>(ak (s_e (aE (vW T) (Br.hm hr) rfl T.t9 T.lu.kp T.oK (aa (d_v 0) (aa (d_v 1) af))))
  (aA (s_r (aE (HE T) (Br.hm hr) rfl T.Bl T.p_.kp T.ua (aa (aT (d_v 0) d_i) (aa (aT (d_v 0) d_i) (aa (d_v 1) af)))))))
theorem ek :
  aP P' w K mg base (CXE P' w av) 10 iG fu ["net","j"] (spX av bx):=by
 exact okY (n:=2) (m:=0) T.iH rE rfl rfl (fun cdv A outer s H E hr=>(b4 (y_x (mL (x_call (dZ T) (Br.hm hr) rfl T.t9 T.lu.kp T.oK mQ (aa (d_v 0) (aa (d_v 1) af)))))))
theorem cT :
  aP P' w K mg base (CXE P' w ah) 10 iG fu ["net","j"] (spX ah bB):=by
 exact okY (n:=2) (m:=0) T.iH rE rfl rfl (fun cdv A outer s H E hr=>(Lz (b4 (y_x (mL (x_call (cY T) (Br.hm hr) rfl T.t9 T.lu.kp T.oK mQ (aa (d_v 0) (aa (d_v 1) af)))))) (Ez (s_e (aE (vW T) (Br.hm hr) rfl T.t9 T.lu.kp T.oK (aa (d_v 0) (aa (d_v 1) af)))) (b4 (y_x (Jm (x_call (iB T) (Br.hm hr) rfl T.Bl T.p_.kp T.ua mQ (aa (aT (d_v 0) d_i) (aa (aT (d_v 0) d_i) (aa (d_v 1) af))))))))))
theorem oZ :
  aP P' w K mg base CX0 10 iG fu ["net","j"] (spP bI):=by
 refine T.iH.ok rE (fun vs H Q E h=>jX h) (fun cdv A outer s H vs Q E hr h=>?_);exact ⟨_,(mT (s_e (aE (vW T) (Br.hm hr) rfl T.t9 T.lu.kp T.oK (aa (d_v 0) (aa (d_v 1) af))))
  (q_r (qS (vX T) (Br.hm hr) rfl T.Bl T.p_.kp T.ua (aa (aT (d_v 0) d_i) (aa (aT (d_v 0) d_i) (aa (d_v 1) af)))))),sV (n:=2) (m:=0) rfl h⟩
theorem HH :
  aP P' w K mg base CX0 1 nE i6 ["cells","many"] (spD sY):=
 okQ T.EO rF fun _ _ _ _ _ _ hr=>(ak (s_a 2 rF.nd (jR (aO (aa d_i af)) (zH rfl rfl T.EH (aa (d_v 1) (aa (u7 rfl rfl T.Bj (aa d_i (aa (fN rfl T.fS (aa (d_v 0) af)) af))) af)))))
  (ak (fO MO rfl (Jj rfl T.k9 (d_v 0)) (g_t rfl (aQ 3 rF.nd (aQ 4 rF.nd eW)))
  (aA (pH 2 (jS (d_v 3) (fN rfl T.fS (aa (d_v 2) af))) (bU (jR (aT (d_v 2) (jS (d_v 3) (fN rfl T.fS (aa (d_v 2) af)))) d_i) (d_v 4)))))
  (aA (s_r (d_v 2)))))
theorem HJ :
  aP P' w K mg base CX0 1 nF i7 ["cell"] (spD sZ):=
 okQ T.ER vR fun _ _ _ _ _ _ hr=>(ak (s_a 1 vR.nd d_i)
  (ak (eX (CH (Es rfl T.EE (aa (d_v 0) af)) (jT d_i d_i)) (aA (s_a 1 vR.nd (bU (gv (Es rfl T.EE (aa (d_v 0) af)) (jT d_i d_i)) d_i))) bZ)
  (aA (s_r (aO (aa (d_v 1) (aa d_i (aa (jS (d_v 0) d_i) af))))))))
theorem bR :
  aP P' w K mg base CX0 1 nG i8 ["pot","size"] (spM bV):=by
 refine T.cS.ok rG (fun vs H Q E h=>cF h) (fun cdv A outer s H vs Q E hr h=>?_);exact ⟨_,(ak (eX (u6 (aT (d_v 0) d_i) d_i) (ak (s_a 2 rG.nd (jS (aT (d_v 0) d_i) (d_v 1)))
  (ak (pH 0 d_i (zF (aT (d_v 0) d_i) (d_v 1)))
  (aA (s_r (d_v 2))))) bZ)
  (ak (pH 0 d_i (bU (aT (d_v 0) d_i) d_i))
  (ak (s_a 3 rG.nd (jS (bU (bU (bU (aT (d_v 0) d_i) (jR (jR d_i (aT (d_v 0) d_i)) (aT (d_v 0) d_i))) (jR d_i (aT (d_v 0) d_i))) d_i) d_i))
  (ak (s_a 3 rG.nd (jS (jR (jS (jR (d_v 3) (d_v 3)) d_i) d_i) d_i))
  (aA (s_r (jS (zF (d_v 3) d_i) (d_v 1)))))))),gJ (n:=2) (m:=2) rfl h⟩
theorem HK :
  aP P' w K mg base CX0 2 nI i9 ["pot","size"] (spM s_):=by
 refine T.ES.ok rH (fun vs H Q E h=>cF h) (fun cdv A outer s H vs Q E hr h=>?_);exact ⟨_,(ak (eX (t_w (w_or (u6 (aT (d_v 0) d_i) d_i) (jU (Lm (d_v 1) (jT d_i d_i))))) (aA (s_r (aL (bR T) (Br.hm hr) rfl T.c_ T.cS.kp T.cL (aa (d_v 0) (aa (d_v 1) af))))) bZ)
  (ak (s_a 2 rH.nd d_i)
  (ak (fO MO rfl (xU rfl T.cG (aa d_i af)) (g_n 3 rH.nd)
  (aA (s_a 2 rH.nd (bU (jR (d_v 2) d_i) (aL (bR T) (Br.hm hr) rfl T.c_ T.cS.kp T.cL (aa (d_v 0) (aa d_i af)))))))
  (aA (s_r (jS (d_v 2) (d_v 1))))))),gJ (n:=2) (m:=2) rfl h⟩
theorem HL :
  aP P' w K mg base CX0 2 nJ i_ ["pot"] (spM tu):=by
 refine T.ET.ok Hx (fun vs H Q E h=>cF h) (fun cdv A outer s H vs Q E hr h=>?_);exact⟨_,(aA (s_r (bU d_i (aL (bR T) (Br.hm hr) rfl T.c_ T.cS.kp T.cL (aa (d_v 0) (aa (aT (aO (@aa _ _ _ _ _ d_i (@aa _ _ _ _ _ d_i (@aa _ _ _ _ _ d_i (@aa _ _ _ _ _ d_i (@aa _ _ _ _ _ d_i (@aa _ _ _ _ _ d_i (@aa _ _ _ _ _ d_i (@aa _ _ _ _ _ d_i af rfl) rfl) rfl) rfl) rfl) rfl) rfl) rfl)) (aL (bR T) (Br.hm hr) rfl T.c_ T.cS.kp T.cL (aa (d_v 0) (aa d_i af)))) af)))))),gJ (n:=1) (m:=0) rfl h⟩
theorem HM :
  aP P' w K mg base CX0 2 nK ja ["pot"] (spM tw):=by
 refine T.EU.ok Hy (fun vs H Q E h=>cF h) (fun cdv A outer s H vs Q E hr h=>?_);exact⟨_,(aA (s_r (bU d_i (aL (bR T) (Br.hm hr) rfl T.c_ T.cS.kp T.cL (aa (d_v 0) (aa (aT (aO (aa d_i (aa d_i (aa d_i (aa d_i af))))) (aL (bR T) (Br.hm hr) rfl T.c_ T.cS.kp T.cL (aa (d_v 0) (aa d_i af)))) af)))))),gJ (n:=1) (m:=0) rfl h⟩
theorem HN :
  aP P' w K mg base CX0 2 nM jb ["pot","n","ties"] (spM tE):=by
 refine T.EV.ok kO (fun vs H Q E h=>cF h) (fun cdv A outer s H vs Q E hr h=>?_);exact ⟨_,(ak (s_a 3 kO.nd (aL (bR T) (Br.hm hr) rfl T.c_ T.cS.kp T.cL (aa (d_v 0) (aa (d_v 1) af))))
  (ak (s_a 4 kO.nd (aL (bR T) (Br.hm hr) rfl T.c_ T.cS.kp T.cL (aa (d_v 0) (aa (d_v 1) af))))
  (ak (eX (t_w (w_and (mD hr (d_v 2) (aO af)) (zI (CG hr (aL (bR T) (Br.hm hr) rfl T.c_ T.cS.kp T.cL (aa (d_v 0) (aa d_i af))) d_i)))) (aA (s_u rfl (aQ 5 kO.nd (aQ 3 kO.nd (aQ 4 kO.nd eW))) (aT (d_v 2) (aL (bR T) (Br.hm hr) rfl T.c_ T.cS.kp T.cL (aa (d_v 0) (aa (fN rfl T.fS (aa (d_v 2) af)) af)))))) bZ)
  (aA (s_r (aS (aa (zH rfl rfl T.EH (aa (d_v 3) (aa (d_v 4) af))) (aa (u7 rfl rfl T.Bj (aa (d_v 3) (aa (d_v 4) af))) af)))))))),gJ (n:=3) (m:=3) rfl h⟩
theorem HP :
  aP P' w K mg base CX0 3 nN jd ["pot","n","most"] (spM tF):=by
 refine T.EW.ok gh (fun vs H Q E h=>cF h) (fun cdv A outer s H vs Q E hr h=>?_);exact ⟨_,(ak (s_a 3 gh.nd (gv (aL (bR T) (Br.hm hr) rfl T.c_ T.cS.kp T.cL (aa (d_v 0) (aa d_i af))) d_i))
  (ak (s_a 4 gh.nd (aO af))
  (ak (fO MO rfl (xU rfl T.cG (aa (aL (bR T) (Br.hm hr) rfl T.c_ T.cS.kp T.cL (aa (d_v 0) (aa (bU (d_v 2) d_i) af))) af)) (g_n 5 gh.nd)
  (ak (s_a 6 gh.nd (aL (bR T) (Br.hm hr) rfl T.c_ T.cS.kp T.cL (aa (d_v 0) (aa d_i af))))
  (ak (s_a 3 gh.nd (bU (bU (d_v 3) d_i) (zF (d_v 6) d_i)))
  (ak (eX (CG hr (d_v 6) d_i) (aA (s_a 3 gh.nd (bU (d_v 3) (aL (HK T) (Br.hm hr) rfl T.Kd T.ES.kp T.Bu (aa (d_v 0) (aa (jT d_i d_i) af)))))) bZ)
  (ak (s_u rfl (aQ 7 gh.nd (aQ 8 gh.nd eW)) (aL (HN T) (Br.hm hr) rfl T.Kg T.EV.kp T.Bv (aa (d_v 0) (aa (d_v 1) (aa (d_v 4) af)))))
  (aA (zJ 4 (aS (aa (d_v 3) (aa (d_v 7) (aa (d_v 8) af)))))))))))
  (aA (s_r (d_v 4)))))),gJ (n:=3) (m:=6) rfl h⟩
theorem HQ :
  aP P' w K mg base CX0 2 nP je ["pot"] (spM tG):=by
 refine T.EX.ok Hz (fun vs H Q E h=>cF h) (fun cdv A outer s H vs Q E hr h=>?_);exact⟨_,(aA (s_r (aT (aO (@aa _ _ _ _ _ d_i (@aa _ _ _ _ _ d_i (@aa _ _ _ _ _ d_i (@aa _ _ _ _ _ d_i (@aa _ _ _ _ _ d_i (@aa _ _ _ _ _ d_i (@aa _ _ _ _ _ d_i (@aa _ _ _ _ _ d_i af rfl) rfl) rfl) rfl) rfl) rfl) rfl) rfl)) (aL (bR T) (Br.hm hr) rfl T.c_ T.cS.kp T.cL (aa (d_v 0) (aa d_i af)))))),gJ (n:=1) (m:=0) rfl h⟩
theorem HR :
  aP P' w K mg base CX0 1 nQ jf ["n","ties","k"] (spD tH):=
 okQ T.EY fB fun _ _ _ _ _ _ hr=>(ak (Jc 3 ["n","ties","k","labels","numbers","at","moment","a","b","%9","old","new"] ["layer"] fB.nd (c_n 12 DZ rfl rfl) (xU rfl T.cG (aa (d_v 2) af)) (fun _ _ _ _ _=>iN) (fun _ _ _ _ _=>(zY rfl rfl T.oF rfl T.cG (aa (d_v 0) af))))
  (ak (s_a 4 fB.nd (jR (aO (aa d_i af)) (fN rfl T.fS (aa (d_v 1) af))))
  (ak (fO MO rfl (Lp rfl T.cG (aa (gv (fN rfl T.fS (aa (d_v 1) af)) d_i) (aa (pG d_i) (aa (pG d_i) af)))) (g_n 5 fB.nd)
  (ak (s_u rfl (aQ 6 fB.nd (aQ 7 fB.nd (aQ 8 fB.nd eW))) (aT (d_v 1) (d_v 5)))
  (aA (fO MO rfl (xU rfl T.cG (aa (d_v 2) af)) (g_n 9 fB.nd)
  (ak (s_a 10 fB.nd (aT (aT (d_v 3) (d_v 9)) (d_v 7)))
  (ak (s_a 11 fB.nd (aT (aT (d_v 3) (d_v 9)) (d_v 8)))
  (aA (eX (t_w (w_and (CG hr (aT (d_v 4) (d_v 5)) d_i) (zI (mD hr (d_v 10) (d_v 11))))) (ak (pH 4 (d_v 5) (bU (d_v 9) d_i))
  (aA (pH 3 (d_v 9) (zO ["n","ties","k","labels","numbers","at","moment","a","b","layer","old","new"] ["one"] (c_n 12 D0 rfl rfl) (i_S (aT (d_v 3) (d_v 9))) (fun _ _ _ _ _=>iN) (fun _ _ _ _ _=>(aT (aO (aa (d_v 12) (aa (d_v 11) af))) (Jb rfl T.EG (aa (IX hr (d_v 12) (d_v 10)) af)))))))) bZ))))))))
  (aA (s_r (d_v 4))))))
theorem BR :
  aP P' w K mg base CX0 2 nR jh ["n","ties","k"] (spD pU):=
 okQ T.Bx BN fun _ _ _ _ _ _ hr=>(ak (s_a 3 BN.nd (aE (HR T) (Br.hm hr) rfl T.Km T.EY.kp T.Bw (aa (d_v 0) (aa (d_v 1) (aa (d_v 2) af)))))
  (aA (s_r (aS (aa (d_v 0) (aa (d_v 2) (aa (zO ["n","ties","k","numbers"] ["tie","number"] (c_t rfl (fun _ _ _ _ _=>(aQ 4 xx (aQ 5 xx eW)))) (z_ rfl T.Bk (aa (d_v 1) (aa (d_v 3) af))) (fun _ _ _ _ _=>iO (u6 (d_v 5) d_i)) (fun _ _ _ _ _=>(d_v 4))) af)))))))
theorem HS :
  aP P' w K mg base CX0 4 nS ji ["pot"] (spM tL):=by
 refine T.EZ.ok vS (fun vs H Q E h=>cF h) (fun cdv A outer s H vs Q E hr h=>?_);exact ⟨_,(ak (s_a 1 vS.nd (aL (HL T) (Br.hm hr) rfl T.Ke T.ET.kp T.By (aa (d_v 0) af)))
  (ak (s_a 2 vS.nd (aL (HM T) (Br.hm hr) rfl T.Kf T.EU.kp T.BA (aa (d_v 0) af)))
  (aA (s_r (aE (BR T) (Br.hm hr) rfl T.EK T.Bx.kp T.xq (aa (d_v 1) (aa (aL (HP T) (Br.hm hr) rfl T.Kh T.EW.kp T.BB (aa (d_v 0) (aa (d_v 1) (aa (aL (HQ T) (Br.hm hr) rfl T.Kl T.EX.kp T.BC (aa (d_v 0) af)) af)))) (aa (d_v 2) af)))))))),gJ (n:=1) (m:=2) rfl h⟩
theorem HU :
  aP P' w K mg base CX0 2 nT jj ["pot","net"] (spM tM):=by
 refine T.E1.ok gj (fun vs H Q E h=>cF h) (fun cdv A outer s H vs Q E hr h=>?_);exact ⟨_,(ak (s_u rfl (aQ 2 gj.nd (aQ 3 gj.nd (aQ 4 gj.nd eW))) (d_v 1))
  (@ak _ _ _ _ _ (@s_a _ _ _ _ 5 _ _ gj.nd (@aO _ _ _ _ (@aa _ _ _ _ _ d_n (@aa _ _ _ _ _ d_i (@aa _ _ _ _ _ d_s (@aa _ _ _ _ _ (aO (aa (d_v 2) (aa (d_v 3) (aa (d_v 4) af)))) (@aa _ _ _ _ _ (aS (aa (d_v 2) (aa (d_v 3) af))) (@aa _ _ _ _ _ (aS (aa (d_v 2) (aa (d_v 3) (aa (d_v 4) (aa d_i af))))) (@aa _ _ _ _ _ (aS (aa d_i (aa (d_v 3) (aa (aO af) af)))) (@aa _ _ _ _ _ (aS (aa d_i (aa (d_v 3) (aa (aO af) af)))) (@aa _ _ _ _ _ (aS (aa d_b (aa d_i (aa (aO af) af)))) af rfl) rfl) rfl) rfl) rfl) rfl) rfl) rfl) rfl)) rfl (by trivial) rfl (by trivial))
  (@ak _ _ _ _ _ (@s_a _ _ _ _ 5 _ _ gj.nd (@bU _ _ _ _ _ _ (d_v 5) (@aO _ _ _ _ (@aa _ _ _ _ _ (aS (aa (d_v 2) (aa d_i (aa (aO af) af)))) (@aa _ _ _ _ _ (aS (aa (d_v 2) (aa d_i (aa (aO af) af)))) (@aa _ _ _ _ _ (aS (aa (d_v 2) (aa d_b (aa (aO af) af)))) (@aa _ _ _ _ _ (aS (aa (d_v 2) (aa (d_v 3) (aa (CI rfl T.lR (aa (d_v 4) af)) af)))) (@aa _ _ _ _ _ (aS (aa (d_v 2) (aa (d_v 3) (aa d_n af)))) (@aa _ _ _ _ _ (aS (aa (d_v 2) (aa (d_v 3) (aa (aO (aa (aS (aa d_i (aa d_i (aa (d_v 2) af)))) af)) af)))) af rfl) rfl) rfl) rfl) rfl) rfl))) rfl (by trivial) rfl (by trivial))
  (@ak _ _ _ _ _ (@s_a _ _ _ _ 5 _ _ gj.nd (@bU _ _ _ _ _ _ (d_v 5) (@aO _ _ _ _ (@aa _ _ _ _ _ (aS (aa (d_v 2) (aa (d_v 3) (aa (aO (aa (aS (aa d_i (aa d_i (aa d_i af)))) af)) af)))) (@aa _ _ _ _ _ (aS (aa (d_v 2) (aa (d_v 3) (aa (aO (aa (aO (aa d_i (aa d_i (aa d_i af)))) af)) af)))) (@aa _ _ _ _ _ (aS (aa (d_v 2) (aa (d_v 3) (aa (aO (aa (aS (aa d_i (aa d_i (aa d_i af)))) (aa (aS (aa d_i (aa d_i (aa d_i af)))) af))) af)))) (@aa _ _ _ _ _ (aS (aa d_s (aa d_i (aa (aO af) af)))) (@aa _ _ _ _ _ (aS (aa (d_v 2) (aa d_s (aa (aO af) af)))) af rfl) rfl) rfl) rfl) rfl))) rfl (by trivial) rfl (by trivial))
  (@ak _ _ _ _ _ (@s_a _ _ _ _ 5 _ _ gj.nd (@bU _ _ _ _ _ _ (d_v 5) (@aO _ _ _ _ (@aa _ _ _ _ _ (aS (aa (d_v 2) (aa (d_v 3) (aa Gz af)))) (@aa _ _ _ _ _ (aS (aa (d_v 2) (aa (d_v 3) (aa (aO (aa (aS (aa d_i (aa (pG d_i) (aa d_i af)))) af)) af)))) (@aa _ _ _ _ _ (aS (aa (d_v 2) (aa (d_v 3) (aa (aO (aa (aS (aa (pG d_i) (aa d_i (aa d_i af)))) af)) af)))) (@aa _ _ _ _ _ (aS (aa (d_v 2) (aa (d_v 3) (aa (aO (aa (aS (aa (bU (jT d_i d_i) d_i) (aa d_i (aa d_i af)))) af)) af)))) (@aa _ _ _ _ _ Gz (@aa _ _ _ _ _ (aS af) af rfl) rfl) rfl) rfl) rfl) rfl))) rfl (by trivial) rfl (by trivial))
  (ak (fO MO rfl (i_S (aO (@aa _ _ _ _ _ (aS (aa d_b (aa d_i (aa (gv (d_v 2) d_i) af)))) (@aa _ _ _ _ _ (aS (aa d_i (aa d_b (aa (gv (d_v 2) d_i) af)))) (@aa _ _ _ _ _ (aS (aa d_i (aa d_i (aa d_s af)))) (@aa _ _ _ _ _ (aS (aa d_i (aa d_i (aa d_n af)))) (@aa _ _ _ _ _ (aS (aa d_s (aa d_i (aa (gv (d_v 2) d_i) af)))) (@aa _ _ _ _ _ (aS (aa d_i (aa (aS (aa d_i af)) (aa (gv (d_v 2) d_i) af)))) af rfl) rfl) rfl) rfl) rfl) rfl))) (g_n 6 gj.nd)
  (aA (zJ 5 (aS (aa (d_v 2) (aa (d_v 3) (aa (aO (aa (d_v 6) af)) af)))))))
  (aA (s_r (aT (d_v 5) (aL (bR T) (Br.hm hr) rfl T.c_ T.cS.kp T.cL (aa (d_v 0) (aa (fN rfl T.fS (aa (d_v 5) af)) af)))))))))))),gJ (n:=2) (m:=5) rfl h⟩
theorem HV :
  aP P' w K mg base CX0 2 nU jl ["pot"] (spM tN):=by
 refine T.E2.ok BO (fun vs H Q E h=>cF h) (fun cdv A outer s H vs Q E hr h=>?_);exact ⟨_,(@ak _ _ _ _ _ (@s_a _ _ _ _ 1 _ _ BO.nd (@aO _ _ _ _ (@aa _ _ _ _ _ d_i (@aa _ _ _ _ _ d_i (@aa _ _ _ _ _ (pG d_i) (@aa _ _ _ _ _ d_n (@aa _ _ _ _ _ d_b (@aa _ _ _ _ _ d_b (@aa _ _ _ _ _ d_s (@aa _ _ _ _ _ d_s (@aa _ _ _ _ _ (aO (aa d_i af)) (@aa _ _ _ _ _ (aS (aa d_i af)) (@aa _ _ _ _ _ Gz (@aa _ _ _ _ _ (jT d_i d_i) (@aa _ _ _ _ _ (pG (jT d_i d_i)) af rfl) rfl) rfl) rfl) rfl) rfl) rfl) rfl) rfl) rfl) rfl) rfl) rfl)) rfl (by trivial) rfl (by trivial))
  (aA (s_r (aT (d_v 1) (aL (bR T) (Br.hm hr) rfl T.c_ T.cS.kp T.cL (aa (d_v 0) (aa (fN rfl T.fS (aa (d_v 1) af)) af))))))),gJ (n:=1) (m:=1) rfl h⟩
theorem dN :
  pS P' w K mg base CX0 1 nV jm ["e"] (GU (j3 av ah)):=by
 exact okH (n:=1) (m:=1) T.uc vU rfl rfl (fun cdv A outer s H E b hrH hcc=>(ak (s_a 1 vU.nd (aO (aa (d8 (gw T.cK T.oE rfl T.w4 rfl T.aB (d_v 0)) (d8 (gw T.bJ T.kh rfl T.w4 rfl T.aB (d_v 0)) kW)) (aa (d8 (gw T.cK T.ki rfl T.oz rfl T.aB (d_v 0)) (d8 (gw T.bJ T.gZ rfl T.oz rfl T.aB (d_v 0)) kW)) (aa (d8 (gw T.cK T.lF rfl T.tZ rfl T.aB (d_v 0)) (d8 (gw T.bJ T.jq rfl T.tZ rfl T.aB (d_v 0)) kW)) (aa (d8 (gw T.cK T.lG rfl T.t7 rfl T.aB (d_v 0)) (d8 (gw T.bJ T.jr rfl T.t7 rfl T.aB (d_v 0)) kW)) af))))))
  (ak (s_a 1 vU.nd (bU (d_v 1) (aO (aa (d8 (gw T.cK T.lH rfl T.t8 rfl T.aB (d_v 0)) (d8 (gw T.bJ T.ju rfl T.t8 rfl T.aB (d_v 0)) kW)) (aa (d8 (gw T.cK T.oB rfl T.wZ rfl T.aB (d_v 0)) (d8 (gw T.bJ T.kg rfl T.wZ rfl T.aB (d_v 0)) kW)) af)))))
  (ak (eX (t_w (w_or (cJ (d8 (Ex (Ds:=[b7,bz]) T.cK T.fy (qN rfl T.tW (qN rfl T.oA Ew)) (Mh rfl) rfl T.aB (d_v 0)) (d8 (Ex (Ds:=[b7,bz]) T.bJ T.eG (qN rfl T.tW (qN rfl T.oA Ew)) (Mh rfl) rfl T.aB (d_v 0)) kW))) (jU (dU (cJ (d8 (Aj T.cK T.iA rfl rfl T.kj rfl T.aB (d_v 0)) (d8 (Aj T.bJ T.gg rfl rfl T.kj rfl T.aB (d_v 0)) kW))))))) (aA (s_r (aO af))) bZ)
  (aA (s_r (JC ["e","kinds"] ["k"] hcc rfl T.cG (aa d_i af) (c_n 2 D3 rfl rfl) (fun _ _ _ _ _=>iO (cJ (aT (d_v 1) (d_v 2)))) (fun _ _ _ _ _=>(d_v 2)))))))))
theorem vY :
  aP P' w K mg base CX0 11 k7 gY ["net","number","fewer"] (spD (pV av ah)):=
 okQ T.qe bF fun _ _ _ _ _ _ hr=>(ak (s_a 3 bF.nd d_n)
  (ak (GO (GP (fun pn xe=>(aA (eX (x_ (d_v 2)) (aA (s_a 3 bF.nd (aE (HG T) (Br.hm hr) rfl T.p7 T.iH.kp T.lz (aa (d_v 0) (aa (d_v 1) af))))) (aA (s_a 3 bF.nd (aE (HF T) (Br.hm hr) rfl T.w_ T.oJ.kp T.qc (aa (d_v 0) (aa (d_v 1) af))))))))) (GO (lP (ie:=4) rfl rfl rfl bF.nd rfl rfl rfl T.gf T.ff (fun pn xe E hp=>(b4 (vg (x_ (d_v 2)) (b4 (y_x (x_a 3 bF.nd (x_call (ek T) (Br.hm hr) rfl T.p7 T.iH.kp T.lz hp (aa (d_v 0) (aa (d_v 1) af)))))) (b4 (y_x (x_a 3 bF.nd (x_call (d_ T) (Br.hm hr) rfl T.w_ T.oJ.kp T.qc hp (aa (d_v 0) (aa (d_v 1) af))))))))) (fun ea xe=>jY 3 4 bF.nd (dN T) ((Br.hm hr).mark ea) rfl T.xg T.uc.kp T.qd)) (lP (ie:=4) rfl rfl rfl bF.nd rfl rfl rfl T.gf T.dX (fun pn xe E hp=>(b4 (vg (x_ (d_v 2)) (b4 (y_x (x_a 3 bF.nd (x_call (cT T) (Br.hm hr) rfl T.p7 T.iH.kp T.lz hp (aa (d_v 0) (aa (d_v 1) af)))))) Ao))) (fun ea xe=>jY 3 4 bF.nd (dN T) ((Br.hm hr).mark ea) rfl T.xg T.uc.kp T.qd))))
  (aA (s_r (d_v 3)))))
theorem lI :
  aP P' w K mg base CX0 11 k7 gY ["net","number","fewer"] (spP (aW av ah)):=by
 refine T.qe.ok bF (fun vs H Q E h=>jX h) (fun cdv A outer s H vs Q E hr h=>?_);exact ⟨_,(mT (s_a 3 bF.nd d_n)
  (LG (q_v 3 (De (fun pn xe=>(LF (x_ (d_v 2)) (v_a 3 bF.nd (qS (oZ T) (Br.hm hr) rfl T.p7 T.iH.kp T.lz (aa (d_v 0) (aa (d_v 1) af)))) (v_a 3 bF.nd (qS (oY T) (Br.hm hr) rfl T.w_ T.oJ.kp T.qc (aa (d_v 0) (aa (d_v 1) af))))))))
  (mT (GO (lP (ie:=4) rfl rfl rfl bF.nd rfl rfl rfl T.gf T.ff (fun pn xe E hp=>(b4 (vg (x_ (d_v 2)) (b4 (y_x (x_a 3 bF.nd (x_call (ek T) (Br.hm hr) rfl T.p7 T.iH.kp T.lz hp (aa (d_v 0) (aa (d_v 1) af)))))) (b4 (y_x (x_a 3 bF.nd (x_call (d_ T) (Br.hm hr) rfl T.w_ T.oJ.kp T.qc hp (aa (d_v 0) (aa (d_v 1) af))))))))) (fun ea xe=>jY 3 4 bF.nd (dN T) ((Br.hm hr).mark ea) rfl T.xg T.uc.kp T.qd)) (lP (ie:=4) rfl rfl rfl bF.nd rfl rfl rfl T.gf T.dX (fun pn xe E hp=>(b4 (vg (x_ (d_v 2)) (b4 (y_x (x_a 3 bF.nd (x_call (cT T) (Br.hm hr) rfl T.p7 T.iH.kp T.lz hp (aa (d_v 0) (aa (d_v 1) af)))))) Ao))) (fun ea xe=>jY 3 4 bF.nd (dN T) ((Br.hm hr).mark ea) rfl T.xg T.uc.kp T.qd))) (q_r (p_o (d_v 3)))))),sV (n:=3) (m:=2) rfl h⟩
theorem vZ :
  aP P' w K mg base CX0 12 nW jn ["net","number","fewer","due"] (spD (j4 av ah)):=
 okQ T.xr rJ fun _ _ _ _ _ _ hr=>(ak (s_a 4 rJ.nd (aS (aa (aT (d_v 0) d_i) (aa (aT (d_v 0) d_i) (aa (Gj rfl T.oF (aa (aT (d_v 0) d_i) af)) af)))))
  (ak (fO MO rfl (xU rfl T.cG (aa d_i af)) (g_n 5 rJ.nd)
  (GN 6 rJ.nd (lI T) (Br.hm hr) rfl T.xh T.qe.kp T.qf (aa (d_v 4) (aa (d_v 1) (aa (d_v 2) af)))
  (Lx (t_w (w_or (mD hr (d_v 6) (d_v 3)) (jU (mD hr (d_v 4) (d_v 0))))) (aA (s_r d_b))
  (Df (cJ (pI kit_tuple (by rfl) rfl T.lR rfl T.aB (d_v 6)))
  bZ))))
  (aA (s_r (IX hr (d_v 4) (d_v 0))))))
theorem HW :
  aP P' w K mg base CX0 2 nX jo ["pot","ties"] (spM tO):=by
 refine T.E3.ok rK (fun vs H Q E h=>cF h) (fun cdv A outer s H vs Q E hr h=>?_);exact ⟨_,(ak (s_a 2 rK.nd (aO (aa d_i (aa (jT d_i d_i) (aa (aL (bR T) (Br.hm hr) rfl T.c_ T.cS.kp T.cL (aa (d_v 0) (aa d_i af))) af)))))
  (ak (eX (mD hr (d_v 1) (aO af)) (ak (s_a 3 rK.nd (aT (aT (d_v 1) (aL (bR T) (Br.hm hr) rfl T.c_ T.cS.kp T.cL (aa (d_v 0) (aa (fN rfl T.fS (aa (d_v 1) af)) af)))) d_i))
  (aA (s_a 2 rK.nd (bU (d_v 2) (aO (aa (d_v 3) (aa (bU (d_v 3) d_i) (aa (u7 rfl rfl T.Bj (aa d_i (aa (gv (d_v 3) d_i) af))) af)))))))) bZ)
  (aA (s_r (d_v 2))))),gJ (n:=2) (m:=2) rfl h⟩
theorem HX :
  aP P' w K mg base CX0 13 nY kM ["script"] (spD (mW av ah)):=
 okQ T.Kz e7 fun _ _ _ _ _ _ hr=>(ak (fO MO rfl (i_S (aE (HH T) (Br.hm hr) rfl T.Ka T.EO.kp T.BE (aa (d_v 0) (aa d_i af)))) (g_n 1 e7.nd)
  (ak (s_a 2 e7.nd (aE (HJ T) (Br.hm hr) rfl T.Kc T.ER.kp T.BF (aa (d_v 1) af)))
  (ak (s_a 3 e7.nd (aL (HS T) (Br.hm hr) rfl T.Kn T.EZ.kp T.BG (aa (d_v 2) af)))
  (ak (s_u rfl (aQ 4 e7.nd (aQ 5 e7.nd (aQ 6 e7.nd eW))) (d_v 3))
  (ak (fO MO rfl (i_S (aL (HW T) (Br.hm hr) rfl T.Kq T.E3.kp T.BJ (aa (d_v 2) (aa (d_v 6) af)))) (g_n 7 e7.nd)
  (aA (eX (dU (cJ (aE (vZ T) (Br.hm hr) rfl T.Bm T.xr.kp T.ud (aa (d_v 3) (aa (d_v 7) (aa d_b (aa (aS (aa (d_v 4) (aa (d_v 5) (aa (pL 6 ["script","cell","pot","net","n","k","ties","t","j","odd","number"] ["tie"] (c_n 11 D4 rfl rfl) (d_v 6) (fun _ _ _ _ _=>iO (CH (aT (d_v 11) d_i) (d_v 7))) (fun _ _ _ _ _=>(d_v 11))) af)))) af))))))) (aA (s_r d_b)) bZ)))
  (ak (fO MO rfl (I0 rfl T.cG (aa d_i (aa (bU (d_v 5) d_i) af))) (g_n 8 e7.nd)
  (aA (eX (dU (cJ (aE (vZ T) (Br.hm hr) rfl T.Bm T.xr.kp T.ud (aa (d_v 3) (aa (d_v 8) (aa d_b (aa (aE (BR T) (Br.hm hr) rfl T.EK T.Bx.kp T.xq (aa (d_v 4) (aa (d_v 6) (aa (d_v 8) af)))) af))))))) (aA (s_r d_b)) bZ)))
  (ak (s_a 9 e7.nd (aL (HU T) (Br.hm hr) rfl T.Ko T.E1.kp T.BH (aa (d_v 2) (aa (d_v 3) af))))
  (ak (fO MO rfl (i_S (aO (aa (aL (HV T) (Br.hm hr) rfl T.Kp T.E2.kp T.BI (aa (d_v 2) af)) (aa (bU (d_v 5) d_i) af)))) (g_n 10 e7.nd)
  (aA (eX (t_w (w_or (dU (cJ (aE (vZ T) (Br.hm hr) rfl T.Bm T.xr.kp T.ud (aa (d_v 3) (aa (d_v 10) (aa d_b (aa (aO (aa d_i af)) af))))))) (jU (mD hr (aE (vY T) (Br.hm hr) rfl T.xh T.qe.kp T.qf (aa (d_v 9) (aa (d_v 10) (aa d_b af)))) (aO (aa d_i af)))))) (aA (s_r d_b)) bZ)))
  (aA (eX (t_w (w_or (mD hr (aE (vY T) (Br.hm hr) rfl T.xh T.qe.kp T.qf (aa (d_v 9) (aa d_i (aa d_b af)))) (aO (aa d_i af))) (jU (mD hr (aE (vY T) (Br.hm hr) rfl T.xh T.qe.kp T.qf (aa (d_v 9) (aa d_i (aa d_b af)))) (aO (aa d_i af)))))) (aA (s_r d_b)) bZ))))))))))
  (aA (s_r d_b)))
end
theorem all_mk{l:Ox}{w:World}{K:gc}{h:Heap}{mg:Str->Option Value}{fa vD vE vF vG vH vJ vK vL vM tU nA nB kX nC kY nD kZ j8 j9 j_ iG nE nF nG nI nJ nK nM nN nP nQ nR nS nT nU nV k7 nW nX nY eE b7 ah av cP bz cQ bg cR:Addr}{nZ n5 n6 n8 n9 n_ oj oq ou k8 iW iX gU iY gW iZ gX f9 f_ gb fu i6 i7 i8 i9 i_ ja jb jd je jf jh ji jj jl jm gY jn jo kM:FuncData}(X:K.In h)(G:h.Ns mainGlobals mg)(hfa:mg "law" = some (.ref fa))
  {ko:Tok}
  (BS:bE K "is_whole" (top 11) vD nZ)
  (BU:bE K "is_within" (top 12) vE n5)
  (BV:bE K "is_places" (top 13) vF n6)
  (BW:bE K "is_place" (top 14) vG n8)
  (BX:bE K "is_layers" (top 15) vH n9)
  (BY:bE K "is_moment" (top 16) vJ n_)
  (BZ:bE K "is_tie_either_way" (top 17) vK oj)
  (B0:bE K "is_tie" (top 18) vL oq)
  (B3:bE K "is_rising" (top 19) vM ou)
  (B4:bE K "look_at_layers" (top 20) tU k8)
  (uf:bE K "merged" (top 22) nA iW)
  (ug:bE K "least_layer" (top 25) nB iX)
  (uh:bE K "layered" (top 24) kX gU)
  (um:bE K "is_record" (top 28) nC iY)
  (uo:bE K "since" (top 29) kY gW)
  (uq:bE K "is_net" (top 31) nD iZ)
  (ur:bE K "look_at_net" (top 32) kZ gX)
  (uu:bE K "look_at_net_layers" (top 33) j8 f9)
  (uv:bE K "net_of" (top 34) j9 f_)
  (uw:bE K "net_since" (top 35) j_ gb)
  (ux:bE K "net_fewer" (top 36) iG fu)
  (uy:bE K "_law_folded" (top 38) nE i6)
  (uz:bE K "_law_begun" (top 39) nF i7)
  (uA:bE K "_law_take" (top 40) nG i8)
  (uB:bE K "_law_wide" (top 41) nI i9)
  (uC:bE K "_law_places" (top 42) nJ i_)
  (uD:bE K "_law_depth" (top 43) nK ja)
  (uE:bE K "_law_ends" (top 44) nM jb)
  (uF:bE K "_law_drawn_ties" (top 45) nN jd)
  (uG:bE K "_law_most" (top 46) nP je)
  (uH:bE K "_law_layers_of" (top 47) nQ jf)
  (uI:bE K "_law_net_of" (top 48) nR jh)
  (uJ:bE K "_law_drawn_net" (top 49) nS ji)
  (uK:bE K "_law_odd_net" (top 50) nT jj)
  (uL:bE K "_law_odd_depth" (top 51) nU jl)
  (uM:bE K "_law_flags" (top 52) nV jm)
  (uN:bE K "_law_told_of" (top 53) k7 gY)
  (uO:bE K "_law_right" (top 54) nW jn)
  (uP:bE K "_law_moments" (top 55) nX jo)
  (qh:bE K "law" (top 56) nY kM)
  (gk:Mu K mainGlobals "ValueError" = some none)
  (B5:Mu K mainGlobals "abs" = some none)
  (B6:Mu K mainGlobals "all" = some none)
  (v5:Mu K mainGlobals "bool" = some none)
  (g8:Mu K mainGlobals "enumerate" = some none)
  (B7:Mu K mainGlobals "int" = some none)
  (gm:Mu K mainGlobals "isinstance" = some none)
  (B8:Mu K mainGlobals "len" = some none)
  (v7:Mu K mainGlobals "list" = some none)
  (B9:Mu K mainGlobals "max" = some none)
  (B_:Mu K mainGlobals "min" = some none)
  (rM:Mu K mainGlobals "range" = some none)
  (jv:Mu K mainGlobals "reversed" = some none)
  (rN:Mu K mainGlobals "tuple" = some none)
  (Ca:Mu K mainGlobals "zip" = some none)
  (g9:Mu K mainGlobals "MOST_TIES" = some (some (.int 60 ko)))
  (rO:Mu K mainGlobals "Clash" = some (some (.ref eE)))
  (oM:Mu K mainGlobals "NoDeed" = some (some (.ref b7)))
  (gu:Mu K mainGlobals "NoLayers" = some (some (.ref ah)))
  (lS:Mu K mainGlobals "NoNet" = some (some (.ref av)))
  (oN:Mu K mainGlobals "NoPair" = some (some (.ref cP)))
  (jx:Mu K mainGlobals "NoPlaces" = some (some (.ref bz)))
  (oO:Mu K mainGlobals "NoTies" = some (some (.ref cQ)))
  (jy:Mu K mainGlobals "PlyError" = some (some (.ref bg)))
  (oQ:Mu K mainGlobals "Unlike" = some (some (.ref cR)))
  (g_:Oj K av bmV "ValueError.__new__" = true)
  (jz:Nd K (.ref av) "__getattribute__" = some (some (.builtin "BaseException.__getattribute__")))
  (jA:Nd K (.ref av) "__getattr__" = some none)
  (jB:Nd K (.ref av) "__class__" = some (some (.builtin "object.__class__")))
  (jC:Nj K av (.type "BaseException")=some true)
  (jD:Nj K av (.type "object")=some true)
  (jE:(Oi K av).isSome=true)
  (e8:Oj K ah bmV "ValueError.__new__" = true)
  (fC:Nd K (.ref ah) "__getattribute__" = some (some (.builtin "BaseException.__getattribute__")))
  (fD:Nd K (.ref ah) "__getattr__" = some none)
  (fE:Nd K (.ref ah) "__class__" = some (some (.builtin "object.__class__")))
  (fF:Nj K ah (.type "BaseException")=some true)
  (fG:Nj K ah (.type "object")=some true)
  (fJ:(Oi K ah).isSome=true)
  (bK:Mk K (.ref ah) (.type "ValueError")=some true)
  (bS:Mk K (.ref av) (.type "ValueError")=some true)
  (dO:PySem.W.typeIn K (.ref bg)=some (.type "type"))
  (dP:(Oi K bg).isSome=true)
  (dQ:Nj K bg (.type "BaseException")=some true)
  (bP:Nj K ah (.ref bg)=some true)
  (cy:Nj K av (.ref bg)=some true)
  (cz:Mk K (.ref ah) (.ref eE)=some false)
  (bQ:Mk K (.ref ah) (.ref ah)=some true)
  (cA:Mk K (.ref ah) (.ref av)=some false)
  (b8:Mk K (.ref ah) (.ref cP)=some false)
  (b9:Mk K (.ref ah) (.ref cQ)=some false)
  (b_:Mk K (.ref ah) (.ref cR)=some false)
  (dH:Mk K (.ref av) (.ref eE)=some false)
  (cB:Mk K (.ref av) (.ref ah)=some false)
  (dI:Mk K (.ref av) (.ref av)=some true)
  (cU:Mk K (.ref av) (.ref cP)=some false)
  (cV:Mk K (.ref av) (.ref cQ)=some false)
  (cW:Mk K (.ref av) (.ref cR)=some false)
  (a_:Nz K (.ref ah) (([b7,bz]:List Addr).map MP)=some false)
  (bA:Nz K (.ref av) (([b7,bz]:List Addr).map MP)=some false) :
  ∃fd:FuncData,(∀(s:Shared) (v:Value),BindsTo s fd ⟨[v],[]⟩ [("script",v)])/\∀base:Heap,K.In base->base.Ns mainGlobals mg->aP l.prog w K mg base CX0 13 fa fd ["script"] (spD (mW av ah)):=by
 have e:=hfa.symm.trans (qh.m X G);cases e;have Hh:=BS.F.cH (ps:=["thing"]) rfl fun _ _ _ _ _ _ _=>rfl;have t_:=BU.F.fm (ps:=["thing","low","high"]) rfl fun _ _ _ _ _ _ _ _ _=>rfl;have Ho:=BV.F.cH (ps:=["thing"]) rfl fun _ _ _ _ _ _ _=>rfl;have DM:=BW.F.dw (ps:=["n","thing"]) rfl fun _ _ _ _ _ _ _ _=>rfl;have Bo:=BX.F.cH (ps:=["thing"]) rfl fun _ _ _ _ _ _ _=>rfl;have Hj:=BY.F.cH (ps:=["thing"]) rfl fun _ _ _ _ _ _ _=>rfl;have Hl:=BZ.F.dw (ps:=["n","thing"]) rfl fun _ _ _ _ _ _ _ _=>rfl;have Hq:=B0.F.dw (ps:=["n","thing"]) rfl fun _ _ _ _ _ _ _ _=>rfl;have Hr:=B3.F.cH (ps:=["things"]) rfl fun _ _ _ _ _ _ _=>rfl;have DO:=B4.F.cH (ps:=["k"]) rfl fun _ _ _ _ _ _ _=>rfl;have Bp:=uf.F.fm (ps:=["groups","a","b"]) rfl fun _ _ _ _ _ _ _ _ _=>rfl;have Bq:=ug.F.fm (ps:=["layers","a","b"]) rfl fun _ _ _ _ _ _ _ _ _=>rfl;have p9:=uh.F.fm (ps:=["n","record","k"]) rfl fun _ _ _ _ _ _ _ _ _=>rfl;have Bs:=um.F.dw (ps:=["n","thing"]) rfl fun _ _ _ _ _ _ _ _=>rfl;have xo:=uo.F.dw (ps:=["record","t"]) rfl fun _ _ _ _ _ _ _ _=>rfl;have xm:=uq.F.cH (ps:=["thing"]) rfl fun _ _ _ _ _ _ _=>rfl;have lq:=ur.F.cH (ps:=["thing"]) rfl fun _ _ _ _ _ _ _=>rfl;have oK:=uu.F.dw (ps:=["net","j"]) rfl fun _ _ _ _ _ _ _ _=>rfl;have ua:=uv.F.fm (ps:=["n","record","k"]) rfl fun _ _ _ _ _ _ _ _ _=>rfl;have qc:=uw.F.dw (ps:=["net","t"]) rfl fun _ _ _ _ _ _ _ _=>rfl;have lz:=ux.F.dw (ps:=["net","j"]) rfl fun _ _ _ _ _ _ _ _=>rfl;have BE:=uy.F.dw (ps:=["cells","many"]) rfl fun _ _ _ _ _ _ _ _=>rfl;have BF:=uz.F.cH (ps:=["cell"]) rfl fun _ _ _ _ _ _ _=>rfl;have cL:=uA.F.dw (ps:=["pot","size"]) rfl fun _ _ _ _ _ _ _ _=>rfl;have Bu:=uB.F.dw (ps:=["pot","size"]) rfl fun _ _ _ _ _ _ _ _=>rfl;have By:=uC.F.cH (ps:=["pot"]) rfl fun _ _ _ _ _ _ _=>rfl;have BA:=uD.F.cH (ps:=["pot"]) rfl fun _ _ _ _ _ _ _=>rfl;have Bv:=uE.F.fm (ps:=["pot","n","ties"]) rfl fun _ _ _ _ _ _ _ _ _=>rfl;have BB:=uF.F.fm (ps:=["pot","n","most"]) rfl fun _ _ _ _ _ _ _ _ _=>rfl;have BC:=uG.F.cH (ps:=["pot"]) rfl fun _ _ _ _ _ _ _=>rfl;have Bw:=uH.F.fm (ps:=["n","ties","k"]) rfl fun _ _ _ _ _ _ _ _ _=>rfl;have xq:=uI.F.fm (ps:=["n","ties","k"]) rfl fun _ _ _ _ _ _ _ _ _=>rfl;have BG:=uJ.F.cH (ps:=["pot"]) rfl fun _ _ _ _ _ _ _=>rfl;have BH:=uK.F.dw (ps:=["pot","net"]) rfl fun _ _ _ _ _ _ _ _=>rfl;have BI:=uL.F.cH (ps:=["pot"]) rfl fun _ _ _ _ _ _ _=>rfl;have qd:=uM.F.cH (ps:=["e"]) rfl fun _ _ _ _ _ _ _=>rfl;have qf:=uN.F.fm (ps:=["net","number","fewer"]) rfl fun _ _ _ _ _ _ _ _ _=>rfl;have ud:=uO.F.GC (ps:=["net","number","fewer","due"]) rfl fun _ _ _ _ _ _ _ _ _ _=>rfl;have BJ:=uP.F.dw (ps:=["pot","ties"]) rfl fun _ _ _ _ _ _ _ _=>rfl;refine⟨_,fun s v=>qh.Ly (fun _ _ _ _ _ _ _=>rfl) s v,fun base Xb _=>?_⟩;have T:Txt mg K base ..:=⟨mgo X G rO,mgo X G oM,mgo X G gu,mgo X G lS,mgo X G oN,mgo X G jx,mgo X G oO,mgo X G jy,mgo X G oQ,sO Xb (mgo X G lS) g_,⟨⟨jz,jA,jB,jC,jD⟩,jE⟩,sO Xb (mgo X G gu) e8,⟨⟨fC,fD,fE,fF,fG⟩,fJ⟩,bK,bS,⟨dO,dP,dQ,bP⟩,⟨dO,dP,dQ,cy⟩,cz,bQ,cA,b8,b9,b_,dH,cB,dI,cU,cV,cW,a_,bA,mno X G gk,mno X G B5,mno X G B6,mno X G v5,mno X G g8,mno X G B7,mno X G gm,mno X G B8,mno X G v7,mno X G B9,mno X G B_,mno X G rM,mno X G jv,mno X G rN,mno X G Ca,⟨_,mgo X G g9⟩,BS.m X G,BU.m X G,BV.m X G,BW.m X G,BX.m X G,BY.m X G,BZ.m X G,B0.m X G,B3.m X G,B4.m X G,uf.m X G,ug.m X G,uh.m X G,um.m X G,uo.m X G,uq.m X G,ur.m X G,uu.m X G,uv.m X G,uw.m X G,ux.m X G,uy.m X G,uz.m X G,uA.m X G,uB.m X G,uC.m X G,uD.m X G,uE.m X G,uF.m X G,uG.m X G,uH.m X G,uI.m X G,uJ.m X G,uK.m X G,uL.m X G,uM.m X G,uN.m X G,uO.m X G,uP.m X G,qh.m X G,BS.F,Hh,BU.F,t_,BV.F,BW.F,BX.F,BY.F,DM,Hj,BZ.F,Hl,B0.F,B3.F,Bo,B4.F,uf.F,ug.F,DO,Bp,Bq,uh.F,Ho,Hq,Hr,um.F,uo.F,p9,Bs,uq.F,xm,ur.F,lq,uu.F,uv.F,xo,uw.F,oK,ua,ux.F,uy.F,uz.F,uA.F,cL,uB.F,uC.F,uD.F,uE.F,Bu,Bv,uF.F,uG.F,uH.F,Bw,uI.F,By,BA,BB,BC,xq,uJ.F,uK.F,uL.F,uM.F,qc,lz,qd,uN.F,qf,uO.F,uP.F,BE,BF,BG,BH,BI,ud,BJ,qh.F⟩
 exact HX T
theorem walk{aC aj:Nat}{l:Ox}{q:Program}{loose:List Str}{XP:(Str->Option Value)->Heap->Prop}{YP:World->Heap->Prop}{d:DefRec}{K:Params->gc}(hn:l.most=some 63)(hdf:d.params.defaults=[])
  (hY:∀(w:World) (h:Heap),YP w h->(K w.params).In h) (M:∀ns:List Int,ns.length<=63->mW aC aj [.lst (ns.map Dat.int)]=some (.val (.bl true))) (hK:∀w:World,zP (K w.params)=true)
  (F:∀ (w:World) (mg:Str→Option Value) (fa:Addr) (h:Heap),(K w.params).In h→h.Ns mainGlobals mg→mg d.name=some (.ref fa) →
   ∃fd:FuncData,(∀(s:Shared) (u:Value),BindsTo s fd ⟨[u],[]⟩ [("script",u)])/\∀base:Heap,(K w.params).In base->base.Ns mainGlobals mg->aP l.prog w (K w.params) mg base CX0 13 fa fd ["script"] (spD (mW aC aj))) :
  PySem.W.WalkO q loose XP YP l.row.toRowW d [] (fun f vs=>PySem.call f vs):=
 L2.Cp (n:=63) (k:=13) (x := "script") (CX:=fun _=>CX0) (sp:=fun _=>spD (mW aC aj)) hn (by decide) hdf ⟨rfl,by decide,by decide,rfl⟩ hY F
  (fun w H a ns hl hO hS=>Gq (M ns hl) (hK w) hS) fun _ _ _ _ _ z=>z
open PySem PySem.W PySem.W.X
theorem Cb{q:Program}{loose:List Str}{XP:(Str->Option Value)->Heap->Prop}{r:RowW}{d:DefRec}{kwd:List (Str×Expr)}{run:Value->List Value->Sem Value}{K:Params->Frag}{as:List Addr}{n t:Nat}(e:∀P,as=(K P).map (·.1))
  (W:WalkO q loose XP (fun w h=>(K w.params).In h) r d kwd run):WalkX q loose XP (obsZ as) (valZ K n t) r d kwd run:=
 fun w s₀ s₁ mg mb G y a o pm cd doc dV kV ho hd JL hD hmg hg args vals as' L=>W w s₀ s₁ mg mb G (InK.keeps w _ _ (z_facts e y).2.1 L.keeps) a o pm cd doc dV kV ho hd JL hD hmg hg args vals as'
end Q
noncomputable def PySem.W.Fast.tw145662437891187847:PySem.Program:=PySem.Challenge.pw_sinceply_k20_nets_since_and_fewer
theorem PySem.W.Fast.te145662437891187847:PySem.Challenge.pw_sinceply_k20_nets_since_and_fewer=PySem.W.Fast.tw145662437891187847:=rfl
namespace PySem.W.Fast
def tw2936608046897295706:=0
def tw18191063644327209506:=0
def tw15387478781884923611:=0
def tw5208095920005810399:=0
def tw250042970102133543:=0
def tw13652102647933775705:=0
def tw7362706086152962345:=0
def tw568391746981937828:=0
def tw16829508844205845031:=0
def tw1363388070671988918:=0
def tw2492954978380756310:=0
def tw4836481143920185233:=0
def tw1333457959653597889:=0
def tw14085214786464985209:=0
def tw5724157267980297749:=0
def tw4062677256777692964:=0
def tw5402610937518819143:=0
def tw13073973378746860457:=0
def tw9691777394126877332:=0
def tw9927772859804504265:=0
def tw14419121999475431434:=0
def tw5017371330263771614:=0
def tw10916282191110645169:=0
def tw13015426104595086236:=0
def tw4475969804555496952:=0
def tw3073343188658189243:=0
def tw4194549189471609029:=0
def tw9565800766476979183:=0
def tw12196982773063258124:=0
def tw1881846756593276565:=0
def tw17577972437653073472:=0
def tw3889227560552356330:=0
def tw13226372230902621438:=0
def tw4379837101228533964:=0
def tw3302965032944045351:=0
def tw16176157911440159505:=0
def tw7088803506743606720:=0
def tw16040831254646170387:=0
def tw5924873646959489351:=0
def tw1048219570600316425:=0
def tw53179453295776655:=0
def tw15870447638378185510:=0
def tw16679096931396207007:=0
def tw8007777547042937246:=0
def tw770900896280600884:=0
def tw15170918302419516847:=0
def tw4397644956252419234:=0
def tw3439467827379423956:=0
def tw14341295974947700480:=0
def tw17254936352176173989:=0
def tw9702420840571854121:=0
def tw14040897533568578838:=0
def tw4878843247234349321:=0
def tw13851759968288577435:=0
def tw17903201017780592419:=0
def tw2569581498541817632:=0
def tw1461054349517383617:=0
def tw7889013302453374046:=0
def tw11016532110404344481:=0
def tw4230310819334156475:=0
def tw16508338106529267685:=0
def tw12013255135886982422:=0
def tw18090547356910822382:=0
def tw8476113652099651300:=0
def tw8472791956146040866:=0
def tw11165621993920620859:=0
def tw10762586691127196672:=0
def tw16933721143107765963:=0
def tw15439744773021902099:=0
def tw4046790737407643706:=0
def tw5161101725897080599:=0
def tw16281705500748586676:=0
def tw14384837223275303322:=0
def tw17490509846268312947:=0
def tw11188213583091193701:=0
def tw8629424000793615351:=0
def tw12030622069650396903:=0
def tw11124968577112896885:=0
def tw14132310567636814593:=0
def tw16722400794125193239:=0
def tw14595559214446816393:=0
def tw13012831562696057845:=0
def tw2428884969031038398:=0
def tw14376190913747576291:=0
def tw12595812963679169418:=0
def tw1706110118779849343:=0
def tw659066365536604489:=0
def tw9696814643449109906:=0
def tw10731521554186916806:=0
def tw10187190638670740750:=0
def tw7647393175226547295:=0
def tw13977688219458884861:=0
def tw8203859337235952930:=0
def tw14880768096044416986:=0
def tw12652396028540265618:=0
def tw2365987425330671917:=0
def tw16100478568122277542:=0
def tw3066638417406413392:=0
def tw12296592319072020855:=0
def tw9314093576453647404:=0
def tw11956856365138054370:=0
def tw12918596348178706516:=0
def tw10575496764040314037:=0
def tw13019123295326146742:=0
def tw11256089353932945925:=0
def tw17067872970972501806:=0
def tw18242499293251036826:=0
def tw18377590471225239287:=0
def tw12186715499461253463:=0
def tw16180302220375537889:=0
def tw14981774520437811217:=0
def tw7979569442198737267:=0
def tw14366299445292175862:=0
def tw17539249386470194540:=0
def tw1479025724682490033:=0
def tw1103342997684371466:=0
def tw16670848521999553524:=0
def tw10863336432460312972:=0
def tw17940809209442558590:=0
def tw11136758652987611453:=0
def tw8967342135606950677:=0
def tw10079682960588209158:=0
def tw9973778358281985619:=0
def tw7161292636391638916:=0
def tw5005175345557686330:=0
def tw12776623995117018399:=0
def tw9817389585360827579:=0
def tw15680145350960281952:=0
def tw14895164203397988519:=0
def tw16762943957653921520:=0
def tw8756669998289218375:=0
def tw2483604690414053683:=0
def tw11125736773033049066:=0
def tw3825918480290594975:=0
def tw6109263655108911332:=0
def tw1701886067898322060:=0
def tw12233431527291457240:=0
def tw4107959728801338163:=0
def tw9637872800845688115:=0
def tw13802736276772831383:=0
def tw13022677451136122751:=0
def tw13123362977970674361:=0
def tw4560256092297835339:=0
def tw7102149164440730773:=0
def tw12536707553423847801:=0
def tw1806992333207310447:=0
def tw13771756274048963244:=0
def tw14190886780892696946:=0
def tw14148548176659952700:=0
def tw879447259175500562:=0
def tw12677178756311700056:=0
def tw7055407018033262156:=0
def tw7630934699121061976:=0
def tw11330530828433954378:=0
def tw9082465811585850614:=0
def tw12732661714513004349:=0
def tw12507298260854362715:=0
def tw676042368393119965:=0
def tw9021859532503864396:=0
def tw13160140615592272858:=0
def tw4800713832896023467:=0
def tw13836476570833399463:=0
def tw3732197002221698964:=0
def tw12024276017990039042:=0
def tw8407058228257610898:=0
def tw8908947039281642315:=0
def tw12360222065982438566:=0
def tw1058574565745401347:=0
def tw16275405505672399127:=0
def tw4914742276381196595:=0
def tw18326625036349173622:=0
def tw2891158909667047806:=0
def tw16954709968168918944:=0
def tw1595564011256970896:=0
def tw4811169106355385400:=0
def tw12288341321156255813:=0
def tw17237263264835526188:=0
def tw8027130913799173970:=0
def tw16906943384967323666:=0
def tw8115219441837065626:=0
def tw11044483323622381301:=0
def tw8303374300108827959:=0
def tw15612959789016507197:=0
def tw2559602749697864360:=0
def tw14610076494230320131:=0
def tw4316638510762894048:=0
def tw11630146198767917651:=0
def tw2627285534530116486:=0
def tw7009962398061374626:=0
def tw8395626813531650621:=0
def tw3186505013815262268:=0
def tw16666027348660012191:=0
def tw11998108390126745636:=0
def tw10224852647752428667:=0
def tw13057878417949906691:=0
def tw4840013146896205718:=0
def tw8535961851696570542:=0
def tw12429486030432572437:=0
def tw9105391276986779715:=0
def tw3766882197422474253:=0
def tw7461970964211749656:=0
def tw18339976383671425856:=0
def tw13800664767677646504:=0
def tw7534875163864851192:=0
def tw3547869312136946560:=0
def tw15232527110113116036:=0
def tw1915933599007170384:=0
def tw1032483731996730507:=0
def tw3868296568028317895:=0
def tw5483559084530658688:=0
def tw115017937149549685:=0
def tw10669217595794775603:=0
def tw4227394655643373907:=0
def tw17188835765544261205:=0
def tw6548592762309007900:=0
def tw8485703480306323665:=0
def tw9759394620682523120:=0
def tw6199146912282537113:=0
def tw11731101573814484586:=0
def tw4289508699063196600:=0
def tw1736534679968996042:=0
def tw13352244387559625146:=0
def tw1144121114960568107:=0
def tw7771555803080187334:=0
def tw3668348499374201515:=0
def tw17336275086907155221:=0
def tw790624835066238463:=0
def tw17450334837284628244:=0
def tw17071564124174938673:=0
def tw560748473260705504:=0
def tw6391144478247945130:=0
def tw4159627491653068042:=0
def tw5371902171789349666:=0
def tw1885331820895651091:=0
def tw5424403047891060318:=0
def tw10991506217776000155:=0
def tw5602640199637580864:=0
def tw10944259821576085624:=0
def tw14801747509177541402:=0
def tw369099369331271090:=0
def tw1887859977690812334:=0
def tw6965693580583063360:=0
def tw11578455242160836776:=0
def tw1355217012932520213:=0
def tw14985959677209402095:=0
def tw17695680979583699872:=0
def tw6833175681769959241:=0
def tw203763920001823177:=0
def tw14655534578921451959:=0
def tw11391338298251912055:=0
def tw14619451864211861198:=0
def tw11756654814473107172:=0
def tw16831710898442423571:=0
def tw17036465220140698386:=0
def tw5517350527755908203:=0
def tw15551275528322012822:=0
def tw16706320018933385274:=0
def tw4209713552573848930:=0
def tw14880780080654427734:=0
def tw3223841459351978121:=0
def tw17514058902919062418:=0
def tw15929609413222672735:=0
def tw4616262280628678065:=0
def tw11523651185604963652:=0
def tw10694858628264608609:=0
def tw1261655730990241134:=0
def tw17428828876301000950:=0
def tw5476492611420270632:=0
def tw3808104105526597110:=0
def tw12840374193627325266:=0
def tw15473129207187012039:=0
def tw4913009867281146872:=0
def tw13442082523345270859:=0
def tw7144949292988663926:=0
def tw16886343978919713981:=0
def tw11518337824062202222:=0
def tw3590913840677561847:=0
def tw17501567643411437920:=0
def tw7164594439305673041:=0
def tw7177168810788468248:=0
def tw2378320662042210459:=0
def tw15677849355431741548:=0
def tw14139611516800064603:=0
def tw14379542069393389459:=0
def tw16208773924287188276:=0
def tw6856604671676784732:=0
def tw8122132284547130236:=0
def tw8128351503697568290:=0
def tw3826374590736627528:=0
def tw13223106774740779259:=0
def tw1531222764812208867:=0
def tw15584343723733231077:=0
def tw3989413436249902547:=0
def tw18370055785287665565:=0
def tw144736124078960491:=0
def tw15060248473082736412:=0
def tw6903812392971528647:=0
def tw5943781445787811509:=0
def tw13858217385034416466:=0
def tw683306790485381275:=0
def tw15208656825590952051:=0
def tw6465124027903418277:=0
def tw10740392091994388615:=0
def tw9463112549980405563:=0
def tw1392752185433266893:=0
def tw4538237846398721049:=0
def tw5495884401291527114:=0
def tw2790004257760955880:=0
def tw17039179520402575344:=0
def tw11407153690385731042:=0
def tw11892075788643635645:=0
def tw5743103096778672291:=0
def tw11839432608644807488:=0
def tw9072908572034909424:=0
def tw1396035739298735328:=0
def tw15387256108468719153:=0
def tw2072219608253027553:=0
def tw8623075656067697973:=0
def tw13199895105659910458:=0
def tw5764446636651749:=0
def tw15801603578107432213:=0
def tw7391636223196459871:=0
def tw9220533702947620446:=0
def tw16690730452715108641:=0
def tw16648421264736781685:=0
def tw4551295116462606472:=0
def tw10735331679589038775:=0
def tw6240961853876165404:=0
def tw7913658772867424515:=0
def tw3914327302066491055:=0
def tw1942274521445073877:=0
def tw2829991309258610154:=0
def tw11941162504831262032:=0
def tw1405168959644779071:=0
def tw9776578289073158083:=0
def tw6503920716531501885:=0
def tw15214190931323697243:=0
def tw5786558271025868673:=0
def tw13442556640752326740:=0
def tw7562035807168446217:=0
def tw6716704818480236620:=0
def tw10856543232541973455:=0
def tw12688070476704648686:=0
def tw17336881224185145334:=0
def tw3866376521831797457:=0
def tw3578866596538277806:=0
def tw2641326687637901332:=0
def tw15349122229705263815:=0
def tw16460693139163459581:=0
def tw15146077018767987712:=0
def tw2989439286397595728:=0
def tw10968701963140189785:=0
def tw18292568992772055791:=0
def tw1021295011101340085:=0
def tw2600646076144722862:=0
def tw9683430039290026250:=0
def tw5877209861876991178:=0
def tw3903719118758624968:=0
def tw8800359081440722934:=0
def tw5021333137185921204:=0
def tw16610672628344312009:=0
def tw7463201337279348307:=0
def tw7091032623457380392:=0
def tw15248663514685038651:=0
def tw6513535462041014016:=0
def tw3654495365641115846:=0
def tw9134359913277488001:=0
def tw13281857603355436252:=0
def tw3166717466691052001:=0
def tw13512324164208997340:=0
def tw15843650084365255182:=0
def tw14273675841741811090:=0
def tw15074394061468433018:=0
def tw13700452827771428385:=0
def tw7831628879844004099:=0
def tw5511356374876456102:=0
def tw17220722945293657498:=0
def tw13682867434337746492:=0
def tw3179876171301877646:=0
end PySem.W.Fast
open PySem PySem.W PyProof.Rows
set_option maxRecDepth 100000 in
set_option maxHeartbeats 0 in
theorem PySem.Challenge.cw_sinceply_k20_nets_since_and_fewer_holds : PySem.Challenge.rw_sinceply_k20_nets_since_and_fewer.Holds := by
 w_on;o_law;z_head;(case hw=>w_witness2)
 k_fill
 refine' Q.Cb (fun _=>rfl) (Q.walk (l:=PySem.Challenge.rw_sinceply_k20_nets_since_and_fewer) rfl rfl (fun w h Y=>Y) (P.math _ _ ?ne) ?noL ?fnS)
 case noL=>intro w;rfl
 case fnS=>
  intro w mg fa h KX G hmg
  refine' Q.all_mk KX G hmg ?BS ?BU ?BV ?BW ?BX ?BY ?BZ ?B0 ?B3 ?B4 ?uf ?ug ?uh ?um ?uo ?uq ?ur ?uu ?uv ?uw ?ux ?uy ?uz ?uA ?uB ?uC ?uD ?uE ?uF ?uG ?uH ?uI ?uJ ?uK ?uL ?uM ?uN ?uO ?uP ?qh ?gk ?B5 ?B6 ?v5 ?g8 ?B7 ?gm ?B8 ?v7 ?B9 ?B_ ?rM ?jv ?rN ?Ca ?g9 ?rO ?oM ?gu ?lS ?oN ?jx ?oO ?jy ?oQ ?g_ ?jz ?jA ?jB ?jC ?jD ?jE ?e8 ?fC ?fD ?fE ?fF ?fG ?fJ ?bK ?bS ?dO ?dP ?dQ ?bP ?cy ?cz ?bQ ?cA ?b8 ?b9 ?b_ ?dH ?cB ?dI ?cU ?cV ?cW ?a_ ?bA
  case BS|BU|BV|BW|BX|BY|BZ|B0|B3|B4|uf|ug|uh|um|uo|uq|ur|uu|uv|uw|ux|uy|uz|uA|uB|uC|uD|uE|uF|uG|uH|uI|uJ|uK|uL|uM|uN|uO|uP|qh=>refine' Br.aI ?e ?l ?c ?k;(case e=>k_is);(case l=>k_is);(case c=>k_is);(case k=>k_is)
  case gk|B5|B6|v5|g8|B7|gm|B8|v7|B9|B_|rM|jv|rN|Ca|g9|rO|oM|gu|lS|oN|jx|oO|jy|oQ=>k_is
  case g_|jz|jA|jB|jC|jD|jE|e8|fC|fD|fE|fF|fG|fJ|bK|bS|dO|dP|dQ|bP|cy|cz|bQ|cA|b8|b9|b_|dH|cB|dI|cU|cV|cW|a_|bA=>first | k_is | kit_is | kernel_rfl
 case ne=>decide
end
